import PyProof.Rows.All
import Wide.All
import OpenK.AllK
import PySem.Challenge.RW_likebook_k45_whole_none_stand_against
open Option renaming some->Z9,none->Z8
open PySem.W renaming Frag->Z5,findIn->Z4,looks_findIn->Z3,keepIn->Z2,kia_one->Z1,fnOf->Z0,codeIn->ZZ,nsIn->ZY,subIn->ZX
open PySem.PyData renaming eqv->ZW,strOk->ZV,str->ZU,list->ZT,int->ZS,canLay0->ZR,eqvAll->ZQ
open PySem.Value renaming ref->ZP
open Bool renaming true->Z7,false->Z6
open Lean.Parser.Command in
local macro_rules|`(def $a:declId $b:optDeclSig $c:declVal)=>`(noncomputable def $a:declId $b:optDeclSig $c:declVal)|`(abbrev $a:declId $b:optDeclSig $c:declVal)=>`(noncomputable abbrev $a:declId $b:optDeclSig $c:declVal)
noncomputable section
open Array renaming getD_eq_getD_getElem?->ey,getElem?_eq_some_iff->gy,length_toList->ky,getElem?_eq_getElem->lq,Perm->my,getElem?_toList->nh,append_assoc->oy,find?_toList->o6
open Bool renaming and_eq_true_iff->au,and_eq_true->cn,or_eq_true_iff->fj,false_ne_true->gw,and_false->j4,beq_eq_decide_eq->j6,or_eq_true->kr,eq_iff_iff->ku,or_true->lb,eq_false_iff->qc,not_eq_true'->qd
open Int renaming toNat_natCast->fi,emod_nonneg->gm,emod_lt_of_pos->iw
open List renaming getD_eq_getElem?_getD->aa,getElem?_eq_getElem->ac,length_map->ah,getElem?_map->ao,mem_of_getElem?->ar,length_append->ax,getElem?_eq_some_iff->ay,mem_singleton->az,mem_cons_of_mem->a9,length_cons->bc,mem_append_right->bf,mem_cons_self->bg,mem_cons->bh,map_cons->bn,getElem?_set_ne->bp,all_eq_true->br,getElem?_set_self->bv,mem_append->bw,length_set->bx,replicate->bz,getElem?_append_right->b7,contains_iff_mem->b9,range->cc,mem_map->ce,length_replicate->cf,mem_iff_getElem?->cj,map_append->cq,length_range->cv,lookup_cons->cw,size_toArray->cy,getElem?_append_left->c7,map_inj_left->c8,all_cons->c9,getElem?_replicate->dh,filterMap_cons->dj,mem_filter->dm,length_filter_le->dn,getElem?_eq_none->dq,mem_append_left->dt,nodup_cons->du,getElem?_set->dz,length_take->d7,getElem?_range->ej,length_singleton->ek,append_nil->eo,map_map->et,filter_eq_self->fk,find?_cons->fm,mem_filterMap->fq,take_length->fv,mem_range->fz,getElem?_cons_succ->gf,nodup_append->gh,mem_or_eq_of_mem_set->g0,ext_getElem?->g9,not_mem_nil->il,toArray->i9,getElem_mem->ja,isEmpty_iff->jb,drop_eq_getElem_cons->jc,filter_sublist->jg,getElem?_take_of_lt->jh,any_cons->ji,contains_cons->jn,findIdx?_cons->jo,lookup->jq,filter_cons_of_pos->ju,filter_cons_of_neg->jv,take_sublist->jx,append_assoc->j0,filter_eq_nil_iff->j3,nodup_range->j9,length->kg,getElem?_append->ki,take_append_of_le_length->kl,mem_zipIdx_iff_getElem?->kw,map_congr_left->kx,take_succ->lh,filter_append->li,find?_eq_none->lj,pairwise_cons->ll,perm_ext_iff_of_nodup->lm,mem_of_find?_eq_some->lr,filterMap_cons_none->ly,filterMap_cons_some->l0,drop_length->l7,map->mj,suffix_refl->ml,find?_cons_of_pos->mu,find?_cons_of_neg->mv,of_mem_zip->mz,length_nil->m7,getElem_of_mem->og,ne_nil_of_mem->pj,set_set->qj,all_map->qk,find?_isSome->ql,find?_append->qm,pairwise_map->qo
open Nat renaming le_refl->ae,le_trans->bq,lt_of_lt_of_le->ci,ne_of_lt->cr,lt_irrefl->cx,zero_le->cz,sub_self->fy,le_of_lt->gn,le_succ->g8,lt_succ_self->i7,lt_of_le_of_lt->jm,le_of_eq->k7,lt_trans->k9,le_add_right->ma,add_sub_cancel'->oa,add_sub_cancel->pe,add_right_comm->pi
open Option renaming map_eq_some_iff->a6,isNone_iff_eq_none->d9,bind_eq_some_iff->gg,isSome_map->iy
open Prod renaming fst->lg,snd->q9
open PyProof.Rows renaming seqObj->jf,AllBare->kz,subscriptTail_builtinR->mn,envOfC->nr,Constant_none->on,IntsAre->qu
open PySem renaming wpAny_bind->am,PyData->av,sizeLine->ba,Shared->bb,mainGlobals->bo,wpAny_pure->bt,wpAny_loadPart_at->cg,Program->cu,sizeLine_eq->db,bootBuiltins->dg,starEach->dk,compareOp->dr,behindInMarks->dw,FuncData->d5,Params->eu,wpAny_truthy_bool->gb,PassesOwn->gc,foldedSetIterable->ge,Around->gi,wpAny_mono->gj,assignEach->gk,NameKind->gx,wpAny_passesOwn->g6,wpAny_holding->ig,wpAny_isSubtype_exc->ij,wpAny_getItem_str_slice->ik,wpAny_Call_Name_kw->ip,tupleKind_room_in1->iu,sysModules->iz,binaryOp->i0,wpAny_field->i3,codeAny_call_builtin->i4,swapsWith->i5,codeAny->i6,codeAny_mono->i8,wpAny_standAt->jj,importedModules->jk,backTo->jl,sliceBounds->jr,treeTable->jt,Paired->jw,wpAny_setField->jy,plainObj_wpAny_Assign_Attribute->j5,checkBuiltinCall->j7,noteFrame->j8,attributeBase->kb,OsState->ke,unbindBehindTheSuite->kj,wpAny_execs_nil->km,letOwnedTupleGo->ko,rawInt->kq,post_val_or_str->kt,wpAny_pyIter_list->lu,excClassObj->lv,wpAny_comprehension_free->lx,tupleKind->l4,wpAny_call_entry->mf,wpAny_callSpecial?_slot->mh,setFlight->mi,wpAny_typeOf->mw,wpAny_rule->mx,codeAny_builtin->m8,wpAny_isTrue_Compare1->m9,codeAny_handlers_test->nc,wpAny_loadName_local->nk,bindArgs->nq,sliceRange_one->nv,keywordEach->ny,wpAny_seqItems->nz,OwnTail->n5,wpAny_raiseNew_none->ol,wpAny_handleBy_cons->om,swapsWithSole->oo,swappedStores->oq,ExceptHandler->ot,plainId_quiet->ox,wpAny_Name->oz,assign->o0,wpAny_call->pc,wpAny_pyIter_tuple->pd,isInstance->ph,wpAny_assign_Name->pp,BindsTo->pu,valueAt->pv,call_meetsIn->pw,seqIndex_neg->pz,slot_list_getitem->p5,Keyword->qa,callerA->qb,wpAny_newObj_type->qe,Operator->qf,getAttr?->qg,wpAny_pyIter_enum->qh,GenState->qi,isTrue->qp,pyIter->qq,seqIndex_of->qr,builtinKind->qs,leaving->qt,builtinsNs->qv,typeIs_str->qw,PlainAttrs->qx,backToKw->qy,excMatches->q8,getAttr->ri,getItem->rj,typeOf->se
open PySem.Builtin.Dict renaming updateFrom->l9
open PySem.Builtin.SmallTypes renaming nextOf->lp
open PySem.Builtin.Str renaming strSliceIndices->gu
open PySem.Calls renaming Name_function_global->gv,loadGlobal_global->jp,evalArgs_plain->kh,callWith_builtin->mo
open PySem.Heap renaming get?_push_of_some->aw,lt_size->bj,get?_push_size->bu,get?_update_other->fh,SameBut->gr,get?_update_self->gz,get?_none_of_le->g7,get?_update_ne->jd,get?_push_at->lw,size_push->nl,MadeExcOf->n4,NewExcOf->ou
open PySem.Heap.Ns1 renaming of_empty->pq
set_option Elab.async false
set_option genInjectivity false
set_option genSizeOf false
set_option compiler.extract_closed false
set_option linter.all false
set_option maxRecDepth 100000
theorem dc {p:Prop} [Decidable p] (h:decide p=true:=by rfl):p:=by simpa using h
theorem sf {c:Prop}{d:Decidable c}(h:c){α:Sort _}{a b:α}:@ite α c d a b=a:=if_pos h
theorem sg {c:Prop}{d:Decidable c}(h:¬c){α:Sort _}{a b:α}:@ite α c d a b=b:=if_neg h
theorem si {α}{a b:α}(h:Z9 a=Z9 b):a=b:=Option.some.inj h
theorem sj {α β}{a c:α}{b d:β}(h:(a,b)=(c,d)):a=c∧b=d:=Prod.mk.inj h
theorem sk {p:Prop} [Decidable p] (h:decide p=Z7):p:=of_decide_eq_true h
theorem sr {p:Prop} [Decidable p] (h:p):decide p=true:=decide_eq_true h
theorem sw {p:Prop} [Decidable p] (h:¬p):decide p=false:=decide_eq_false h
theorem sx {α} [BEq α] [LawfulBEq α] {a b:α}(h:(a==b)=Z7):a=b:=beq_iff_eq.mp h
abbrev WL (x:PySem.Str):Prop:=(x==("__debug__":PySem.Str))=Z6
namespace Tp
open PySem PySem.W PyProof.Rows
def q0:Pos:=⟨0,0,0,0⟩
def an:Option Value:=Z9 (.ref 6)
def ev (p:cu):Env:={scope:=p.main.scope,locals:=mainNs,globals:=mainNs,cells:=[],code:=.ref 13,frame:=Z9 14}
def cd (p:cu):Code:=.body (behindTheImports p) (ev p)
def grow:List Obj->Nat->BT->BT
 | [],_,t=>t
 |o::l,i,t=>grow l (i+1) (t.ins i o)
def lift (s:bb):SharedT:=⟨grow s.heap.objs.toList 0 .nil,s.heap.objs.size,s.heap.life,s.gens,s.drawn,s.toks,s.os⟩
def pre (p:cu)(H:eu->Heap)(d:Drawn)(k:Nat)(w:World)(os:ke):Option (bb×Thread):=topGo jt p w 11 an 12 ⟨H w.params,#[],d,k,os⟩ (topStub p)
def oH (p:cu)(H:eu->Heap)(d:Drawn)(k:Nat)(w:World)(os:ke):SharedT:=lift (((pre p H d k w os).map lg).getD ⟨H w.params,#[],d,k,os⟩)
def run (p:cu)(H:eu->Heap)(d:Drawn)(k N:Nat)(w:World)(os:ke):Option (Flow×SharedT×Code×Pos):=segRunT jt p w 11 an 1 N (oH p H d k w os) (piecesOf (behindTheImports p) (ev p) (cd p) q0 [topFrame q0])
def PreEq (p:cu)(H:eu->Heap)(d:Drawn)(k:Nat):Prop:=∀(w:World) (os:ke),((H w.params).isNs bo&&(#[]:Array qi).size==0,(H w.params).objs.size,(H w.params).nsMap bo "__annotations__",pre p H d k w os,λs c=>segRun jt p w 11 an 1 1 s (blockOf (behindTheImports p) (ev p) c q0 [topFrame q0]))=(Z7,11,an,Z9 ((oH p H d k w os).abs,⟨denote jt (cd p),cd p,q0,[topFrame q0]⟩),λs c=>Z9 (.next,s,c,q0))
def seen (p q:cu)(R:WRecords)(as:List Addr)(H:eu->Heap)(w:World)(s:SharedT):=(staticsOk (jk p.main.body) (H w.params) s.abs.heap&&namesBound p s.abs.heap&&gensDone s.abs&&laidKept (H w.params) s.abs.heap,openSeen q [] (jk p.main.body) (λs=>xlAt q [] s&&recOk R s) Z7 s.abs,as.map s.abs.heap.get?)
def pick {α:Type}(f:SharedT->α):Flow×SharedT×Code×Pos->Option (Code×α)
 |(.next,s,c,_)=>Z9 (c,f s)
 |_=>Z8
def jJ (p q:cu)(R:WRecords)(as:List Addr)(K:eu->List (Addr×Obj))(H:eu->Heap)(d:Drawn)(k N:Nat):Prop:=∀(w:World) (os:ke),(run p H d k N w os).bind (pick (seen p q R as H w))=Z9 (cd p,Z7,openGood q [],(K w.params).map λx=>Z9 x.2)
theorem AJ (b:String->Option Builtin)(p:cu)(w:World)(n:Nat)(a:Option Value)(s:bb)(c:Code)(ps q:Pos):topRun b p w n a 2 s ⟨doneF .next,c,ps,[topFrame q]⟩=Z9 s:=by rfl
theorem left {K:eu->List (Addr×Obj)}(o:∀w,(fencedOpening jt p w N).map (fun s=>(s.heap,s.gens,s.drawn,s.toks))=Z9 (boot_heap w.params,#[],boot_drawn,boot_toks))(le:12+(1+(M+2))<=N)
  (h1:PreEq p boot_heap boot_drawn boot_toks) (h2:jJ p q R as K boot_heap boot_drawn boot_toks M):LeftO p q [] (λs=>xlAt q [] s&&recOk R s) (λs=>as.map s.heap.get?) (λw=>(K w.params).map λx=>Z9 x.2) N:=λw=>by
 obtain⟨⟨h,gs,d,k,os⟩,e,e'⟩:=a6.mp (o w);have e1:=sj e';have e2:=sj e1.2;have e3:=sj e2.2;obtain rfl:h=boot_heap w.params:=e1.1;obtain rfl:gs=#[]:=e2.1;obtain rfl:d=boot_drawn:=e3.1;obtain rfl:k=boot_toks:=e3.2;have a:=sj (h1 w os);have a2:=sj a.2;have a3:=sj a2.2;have a4:=sj a3.2;obtain⟨⟨f,s,c,ps⟩,r1,r2⟩:=gg.mp (h2 w os);cases f with
 |next=>
  have b:=sj (si r2);have b1:=sj b.2;have b2:=sj b1.2;obtain rfl:c=cd p:=b.1;have t1:topRun jt p w 11 an (M+2) (oH p boot_heap boot_drawn boot_toks w os).abs (restOf (behindTheImports p++[]) (ev p) (cd p) q0 [topFrame q0])=Z9 s.abs:=piece_app (segRun_of r1) (AJ jt p w 11 an s.abs (cd p) ps q0);rw[eo]at t1;have t4:=topRun_mono (N-(12+(1+(M+2)))) _ _ _ _ (go_top a4.1 (piece_block (congrFun (congrFun a4.2 (oH p boot_heap boot_drawn boot_toks w os).abs) (cd p)) t1));rw[oa le]at t4;have t:topFrom jt p w N ⟨boot_heap w.params,#[],boot_drawn,boot_toks,os⟩=Z9 s.abs:=by unfold topFrom;rw[a.1,a2.1,a3.1,t4];show(match staticsOk (jk p.main.body) (boot_heap w.params) s.abs.heap&&namesBound p s.abs.heap&&gensDone s.abs&&laidKept (boot_heap w.params) s.abs.heap with|true=>Z9 s.abs|false=>Z8)=_;rw[b1.1]
  unfold openEnds;rw[e];show(topFrom jt p w N _).map _=_;rw[t];exact congrArg Z9 (Prod.ext b2.1 b2.2)
 |_=>cases r2
theorem pre_r:PreEq=PreEq:=rfl
def AK (p q:cu)(R:WRecords)(H:eu->Heap)(w:World)(s:SharedT):=(staticsOk (jk p.main.body) (H w.params) s.abs.heap&&namesBound p s.abs.heap&&gensDone s.abs&&laidKept (H w.params) s.abs.heap,openSeen q [] (jk p.main.body) (λs=>xlAt q [] s&&recOk R s) Z7 s.abs)
def RunA (p q:cu)(R:WRecords)(H:eu->Heap)(d:Drawn)(k N:Nat):Prop:=∀(w:World) (os:ke),(run p H d k N w os).bind (pick (AK p q R H w))=Z9 (cd p,Z7,openGood q [])
def RunB (p:cu)(as:List Addr)(K:eu->List (Addr×Obj))(H:eu->Heap)(d:Drawn)(k N:Nat):Prop:=∀(w:World) (os:ke),(run p H d k N w os).bind (pick λs=>as.map s.abs.heap.get?)=Z9 (cd p,(K w.params).map λx=>Z9 x.2)
theorem LU {e h:Type}{f:SharedT->e}{g:SharedT->h}{x:Option (Flow×SharedT×Code×Pos)}{a:e}{b:h}(d:x.bind (pick f)=Z9 (c,a))(j:x.bind (pick g)=Z9 (c,b)):x.bind (pick λs=>(f s,g s))=Z9 (c,a,b):=by
 cases x with
 |none=>cases d
 |some y=>
  obtain⟨fl,s,k,ps⟩:=y;cases fl with
  |next=>have i:=sj (si d);show Z9 (k,f s,g s)=_;rw[i.1,i.2,(sj (si j)).2]
  |_=>cases d
theorem sE {K:eu->List (Addr×Obj)}(c:RunA p q R H d k N)(f:RunB p as K H d k N):jJ p q R as K H d k N:=λw os=>by
 have h:=LU (c w os) (f w os);cases e:run p H d k N w os with
 |none=>rw[e]at h;cases h
 |some y=>
  rw[e]at h;obtain⟨fl,s,g,ps⟩:=y;cases fl with
  |next=>have a:=sj (si h);have b:=sj a.2;show Z9 (g,(AK p q R H w s).1,(AK p q R H w s).2,as.map s.abs.heap.get?)=_;rw[a.1,b.2,b.1]
  |_=>cases h
theorem runA_r:RunA=RunA:=rfl
theorem runB_r:RunB=RunB:=rfl
end Tp
lay_quick Tp.PreEq Tp.RunA Tp.RunB
name_quick tpre for Tp.PreEq by Tp.pre_r
name_quick truna for Tp.RunA by Tp.runA_r
name_quick trunb for Tp.RunB by Tp.runB_r
namespace Tp
open PySem PySem.W PyProof.Rows
theorem rn_r:run=run:=rfl
end Tp
name_quick trn for Tp.run by Tp.rn_r
namespace Tp
open PySem PySem.W PyProof.Rows
def obj (p:cu)(M:Nat)(P:eu)(a:Addr):Obj:=((PySem.W.Fast.trn p boot_heap boot_drawn boot_toks M ⟨λ_ _=>0,P⟩ default).map λx=>(x.2.1.tree.get a).getD default).getD default
def Ko (p:cu)(M:Nat)(as:List Addr)(P:eu):Frag:=as.map λa=>(a,obj p M P a)
theorem vL (p:cu)(M:Nat)(as:List Addr)(P:eu):as=(Ko p M as P).map (·.1):=by unfold Ko;rw[et];exact(List.map_id _).symm
def said (l:OpenLaw):Bool:=l.wellSaid
theorem said_r:said=said:=rfl
theorem holds {K:eu->Frag}(a:said l=Z7)(b:∀P,as=(K P).map (·.1))(c:opening l.row.prog=plainProg l.row.prog.main.scope.names)(g:Nat.ble 600 N=Z7)(h:∀s,fenceModules? l.row.prog s=Z9 s)(le:12+(1+(M+2))<=N)
  (i:PreEq l.row.prog boot_heap boot_drawn boot_toks) (j:jJ l.row.prog q l.row.records as K boot_heap boot_drawn boot_toks M) (a1:defOf q l.row.name=Z9 (d,[])) (a2:l.row.prog.theDef l.row.name=Z9 (d.params,d.body,d.scope)) (a3:kwWritten? d.params.kwonlyargs d.params.kw_defaults=Z9 []) (a4:(!l.row.writes||l.row.records.isEmpty)=Z7)
  (k:(chainsOk q&&opensWell l.row.prog&&(frees l.row.toRowW&&l.row.within.isEmpty))=Z7) (m:l.row.prog.bare) (n:l.row.toRowW.promised) (call:WalkO q [] (XL q []) (InK K) l.row.toRowW d [] λf o=>PySem.call f o):l.Holds:=
 holds_law a λz=>holds_open (left (boot_open c g h) le i j) (InK.of b) InK.keeps (λs e=>xl_of s (au.mp e).1) XL.keeps a1 a2 a3 (λs e=>recFacts_of (au.mp e).2) a4 z k m n call
end Tp
lay_quick Tp.said
name_quick tsaid for Tp.said by Tp.said_r
namespace Mk
open PySem PySem.Spec PyProof.Rows
abbrev lP:cu:=PySem.Challenge.rw_likebook_k45_whole_none_stand_against.row.prog
def vM:cu:=W.view lP [0,2,3,4,5,6,7,8,9,11,12,14,15,17,18,20,22,24,25,27,28,29,30,31,32,33,34,35,36,37,38,39,40,41,42,43,44,45,46,47,48,49,50,51,52]
def yZ:List Addr:=cc 527
def qK:eu->Z5:=Tp.Ko lP 100000 yZ
theorem LV:Tp.PreEq lP W.boot_heap W.boot_drawn W.boot_toks:=by
 intro w os
 kernel_rfl
theorem AL:Tp.RunA lP vM PySem.Challenge.rw_likebook_k45_whole_none_stand_against.row.records W.boot_heap W.boot_drawn W.boot_toks 100000:=by
 rw[PySem.W.Fast.truna_eq];intro w os
 kernel_rfl
theorem AM:Tp.RunB lP yZ qK W.boot_heap W.boot_drawn W.boot_toks 100000:=by
 rw[PySem.W.Fast.trunb_eq];intro w os
 kernel_rfl
theorem LW:Tp.jJ lP vM PySem.Challenge.rw_likebook_k45_whole_none_stand_against.row.records yZ qK W.boot_heap W.boot_drawn W.boot_toks 100000:=Tp.sE AL AM
end Mk
namespace L2
open PySem PySem.Spec PyProof.Rows
abbrev Key:=Sum Int Str
def uP:Key->Value->Bool
 |.inl k,v=>Value.isInt k v
 |.inr x,v=>Value.isStrOf x v
def AN (w:World):Key->Int
 |.inl k=>hashInt k
 |.inr x=>hashStr w x
theorem nW:∀{k:Key} {v:Value},uP k v=Z7->(∃i t,k=Sum.inl i/\v=Value.int i t)\/(∃x t,k=Sum.inr x/\v=Value.str x t)
 |.inl i,v,h=>by obtain⟨t,e⟩:=Value.isInt_shape h;exact .inl ⟨i,t,rfl,e⟩
 |.inr x,v,h=>by obtain⟨t,e⟩:=Value.isStrOf_shape h;exact .inr ⟨x,t,rfl,e⟩
theorem LX (i:Int)(t:Tok):uP (.inl i) (.int i t)=true:=by simp[uP,Value.isInt]
theorem LY (x:Str)(t:Tok):uP (.inr x) (.str x t)=true:=by simp[uP,Value.isStrOf]
theorem LZ (a b:Int):decide ((Sum.inl a:Key)=Sum.inl b)=(a==b):=by grind
theorem L0 (a b:Str):decide ((Sum.inr a:Key)=Sum.inr b)=decide (a=b):=by grind
theorem L1 (a:Int)(b:Str):decide ((Sum.inl a:Key)=Sum.inr b)=false:=sw (λq=>nomatch q)
theorem L3 (a:Str)(b:Int):decide ((Sum.inr a:Key)=Sum.inl b)=false:=sw (λq=>nomatch q)
def gU (prog:cu)(w:World):PySem.KeyKind prog w Key where
 is:=uP
 hash:=AN w
 inj:=λv a b ha hb=>by
  rcases nW ha with⟨i,t,rfl,rfl⟩|⟨x,t,rfl,rfl⟩
  .rcases nW hb with⟨j,u,rfl,e⟩|⟨y,u,rfl,e⟩
   .injection e with e1 _;rw[e1]
   .exact nomatch e
  .rcases nW hb with⟨j,u,rfl,e⟩|⟨y,u,rfl,e⟩
   .exact nomatch e
   .injection e with e1 _;rw[e1]
 byValue:=λk v h=>by rcases nW h with⟨i,t,rfl,rfl⟩|⟨x,t,rfl,rfl⟩<;>rfl
 pyHash:=λhv h=>by
  rcases nW hv with⟨i,t,rfl,rfl⟩|⟨x,t,rfl,rfl⟩
  .exact wpAny_pyHash_int h
  .exact wpAny_pyHash_str h
 eqBool:=λhu hv h=>by
  rcases nW hu with⟨i,t,rfl,rfl⟩|⟨x,t,rfl,rfl⟩
  .rcases nW hv with⟨j,u,rfl,rfl⟩|⟨y,u,rfl,rfl⟩
   .rw[LZ]at h;exact wpAny_eqBool_int h
   .rw[L1]at h;exact SeqAt.EqAt.int_str i t y u _ _ _ _ h
  .rcases nW hv with⟨j,u,rfl,rfl⟩|⟨y,u,rfl,rfl⟩
   .rw[L3]at h;exact SeqAt.EqAt.str_int x t j u _ _ _ _ h
   .rw[L0]at h;exact wpAny_eqBool_str h
 «strs»:=λk x t v h=>by
  rcases nW h with⟨i,u,rfl,e⟩|⟨y,u,rfl,e⟩
  .exact nomatch e
  .injection e with e1 _;subst e1;cases v<;>rfl
theorem L4 (prog:cu)(w:World)(i:Int)(t:Tok):(gU prog w).is (.inl i) (.int i t)=true:=LX i t
theorem L6 (prog:cu)(w:World)(x:Str)(t:Tok):(gU prog w).is (.inr x) (.str x t)=true:=LY x t
inductive V where
 |aM|bl (b:Bool)|int (i:Int)|str (x:Str)|ref (a:Addr)|ty (n:String)
 deriving DecidableEq
def RelV:V->Value->Prop
 |.aM,u=>u=Value.none
 |.bl b,u=>u=Value.bool b
 |.int i,u=>∃t,u=Value.int i t
 |.str x,u=>∃t,u=Value.str x t
 |.ref a,u=>u=ZP a
 |.ty n,u=>u=Value.type n
abbrev Vals:List V->List Value->Prop:=jw RelV
theorem Vals.length (r:Vals xs a):xs.length=a.length:=Paired.length r
theorem Vals.get:∀{a:List V} {b:List Value} {i:Nat} {x:V},Vals a b->a[i]?=Z9 x->∃u,b[i]?=Z9 u/\RelV x u
 |_,_,_,_,.nil,e=>by simp at e
 |_,_,0,_,.cons r _,e=>by simp at e;subst e;exact⟨_,rfl,r⟩
 |_,_,i+1,x,.cons _ t,e=>by obtain⟨u,c,d⟩:=Vals.get t (by simpa using e);exact⟨u,by simpa using c,d⟩
theorem Vals.set (r:RelV x u):∀{a:List V} {b:List Value} i,Vals a b->Vals (a.set i x) (b.set i u)
 |_,_,_,.nil=>.nil
 |_,_,0,.cons _ t=>.cons r t
 |_,_,i+1,.cons q t=>.cons q (Vals.set r i t)
theorem Vals.append {xs ys:List V}{a b:List Value}(h:Vals xs a)(s:Vals ys b):Vals (xs++ys) (a++b):=by
 induction h with
 |nil=>exact s
 |cons r t i=>exact .cons r i
theorem Vals.take:∀{xs:List V} {a:List Value} n,Vals xs a->Vals (xs.take n) (a.take n)
 |_,_,0,_=>.nil
 |_,_,_+1,.nil=>.nil
 |_,_,n+1,.cons r t=>.cons r (Vals.take n t)
theorem Vals.drop:∀{a:List V} {b:List Value} n,Vals a b->Vals (a.drop n) (b.drop n)
 |_,_,0,r=>r
 |_,_,_+1,.nil=>.nil
 |_,_,n+1,.cons _ t=>Vals.drop n t
def cA:Option V->Option Value->Prop
 |some v,Z9 u=>RelV v u
 |none,Z8=>True
 |_,_=>False
def KV {κ:Type}:List (κ×V)->List (κ×Value)->Prop:=jw λ(p:κ×V) (q:κ×Value)=>p.1=q.1/\RelV p.2 q.2
def kV:Key->V
 |.inl i=>.int i
 |.inr x=>.str x
inductive HO where
 |lst (xs:List V)
 |tup (xs:List V)
 |dK (kvs:List (Key×V))|dT (kvs:List (List Key×V))
 |set (S:Int->Bool) (n:Nat)
 |ins (C dx:Addr) (fs:List (Str×V))
 |own (x:Addr)
 |xd (fs:List (Str×V))
 |fM (o:Obj) (u:HO)
 |lQ (ps:Array Value)
 |ext (φ:Heap->Prop)
abbrev Hp:=Addr->Option HO
def upd (H:Hp)(a:Addr)(o:HO):Hp:=λb=>if b=a then Z9 o else H b
theorem bF:upd H a o a=Z9 o:=by unfold upd;rw[sf rfl]
theorem aE (h:b≠a):upd H a o b=H b:=by unfold upd;rw[sg h]
theorem L7 {H:Hp}(h:H a=Z9 o)(c:H b=Z9 u)(d:o≠u):a≠b:=by grind
theorem bO {H:Hp}(h:H a=Z9 o)(c:H b=Z8):a≠b:=by intro e;subst e;rw[h]at c;cases c
def TupN (h:Heap)(a:Addr)(l:Array Value):Prop:=∃n,h.get? a=Z9 {cls:=.type "tuple",data:=.seq l n}
theorem TupN.tup {h:Heap}{a:Addr}{l:Array Value}(x:TupN h a l):IsTup h a l:=let⟨n,q⟩:=x;⟨_,q,rfl,n,rfl⟩
theorem TupN.new (h:Heap)(l:Array Value):TupN (h.push {cls:=.type "tuple",data:=.seq l}) h.objs.size l:=⟨_,bu _ rfl⟩
def L8 (h:Heap)(a:Addr)(l:Array Value):Prop:=∃o n,h.get? a=Z9 o/\o.cls=.type "tuple"/\o.dict=Z8/\o.data=.seq l n
section
variable (P:cu)(w:World)
def z16 (H:Hp)(h:Heap)(a:Addr):HO->Prop
 |.lst xs=>xs.length<=ba/\∃(eE:List Value) (n:Nat),Vals xs eE/\h.get? a=Z9 {cls:=.type "list",data:=.seq eE.toArray n}
 |.tup xs=>xs.length<=ba/\∃eE:List Value,Vals xs eE/\TupN h a eE.toArray
 |.dK kvs=>kvs.length<=ba/\(a==iz)=Z6/\∃vs,KV kvs vs/\h.DictOf (gU P w) a vs
 |.dT kvs=>kvs.length<=ba/\(a==iz)=Z6/\∃xs:List (List Key×Addr×Value),
  jw (λ(p:List Key×V) (q:List Key×Addr×Value)=>p.1=q.1/\H q.2.1=Z9 (.tup (p.1.map kV))/\RelV p.2 q.2.2) kvs xs/\
  ∃o es ep,h.get? a=Z9 o/\o.ExactDict/\o.data=.dict es ep/\es.toList=xs.map (entryOfKey (l4 (gU P w)))/\(xs.map (·.1)).Nodup
 |.set S n=>h.SetOf (intKind P w) a S n
 |.ins C dx fs=>H dx=Z9 (.own a)/\fs.length<=1000/\dx≠a/\h.get? a=Z9 (W.instObj C dx)/\∃mA,h.Ns1 dx mA/\(∀f,cA (fs.lookup f) (mA f))/\PySem.Within mA (fs.map (·.1))
 |.own _=>∃o,h.get? a=Z9 o
 |.xd fs=>∃mA,h.Ns1 a mA/\∀f,cA (fs.lookup f) (mA f)
 |.fM o u=>h.get? a=Z9 o/\z16 H h a u
 |.lQ ps=>h.get? a=Z9 {cls:=.none,data:=.fields ps}
 |.ext φ=>φ h/\(∃o,h.get? a=Z9 o)/\∀h1 h2:Heap,φ h1->(∀o,h1.get? a=Z9 o->h2.get? a=Z9 o)->φ h2
def HOk (H:Hp)(h:Heap):Prop:=∀a o,H a=Z9 o->z16 P w H h a o
end
theorem z16.lt (x:z16 P w H h a o):a<h.objs.size:=by
 cases o with
 |lst b=>obtain⟨_,_,_,_,e⟩:=x;exact bj e
 |tup b=>obtain⟨_,_,_,_,q⟩:=x;exact bj q
 |dK kvs=>obtain⟨_,_,_,_,o,_,_,e,_⟩:=x;exact bj e
 |dT kvs=>obtain⟨_,_,_,_,o,_,_,e,_⟩:=x;exact bj e
 |set S n=>obtain⟨o,_,_,_,e,_⟩:=x;exact bj e
 |ins C dx fs=>obtain⟨_,_,_,e,_⟩:=x;exact bj e
 |own y=>obtain⟨_,e⟩:=x;exact bj e
 |xd fs=>obtain⟨_,⟨_,_,_,e,_⟩,_⟩:=x;exact bj e
 |fM ob u=>obtain⟨e,_⟩:=x;exact bj e
 |lQ ps=>exact bj x
 |ext c=>obtain⟨_,⟨_,e⟩,_⟩:=x;exact bj e
theorem Paired.vN {e g:Type}{F G:e->g->Prop}{c:List e}{d:List g}(h:jw F c d)(f:∀a b,F a b->G a b):jw G c d:=by
 induction h with
 |nil=>exact .nil
 |cons r t i=>exact .cons (f _ _ r) i
theorem z16.stay (x:z16 P w H h a o)(k:∀b u,(b=a\/H b=Z9 (.own a))->h.get? b=Z9 u->h'.get? b=Z9 u)
  (m:∀b,H b=Z9 (.own a)->j b=Z9 (.own a)) (s:∀b f,H b=Z9 (.tup f)->j b=Z9 (.tup f)):z16 P w j h' a o:=by
 induction o with
 |lst f=>obtain⟨z,g,n,r,e⟩:=x;exact⟨z,g,n,r,k _ _ (.inl rfl) e⟩
 |tup f=>obtain⟨z,l,r,n,q⟩:=x;exact⟨z,l,r,n,k _ _ (.inl rfl) q⟩
 |dK kvs=>obtain⟨z,y,v,r,ob,es,ep,e,c⟩:=x;exact⟨z,y,v,r,ob,es,ep,k _ _ (.inl rfl) e,c⟩
 |dT kvs=>obtain⟨z,y,f,r,ob,es,ep,e,c⟩:=x;exact⟨z,y,f,Paired.vN r λp q z=>⟨z.1,s _ _ z.2.1,z.2.2⟩,ob,es,ep,k _ _ (.inl rfl) e,c⟩
 |set S n=>obtain⟨ob,es,ep,t,e,c⟩:=x;exact⟨ob,es,ep,t,k _ _ (.inl rfl) e,c⟩
 |ins C dx fs=>obtain⟨d,z,ne,e,i,⟨od,es,ep,A,c⟩,r⟩:=x;exact⟨m _ d,z,ne,k _ _ (.inl rfl) e,i,⟨od,es,ep,k _ _ (.inr d) A,c⟩,r⟩
 |own y=>obtain⟨ob,e⟩:=x;exact⟨ob,k _ _ (.inl rfl) e⟩
 |xd fs=>obtain⟨i,⟨od,es,ep,e,c⟩,r⟩:=x;exact⟨i,⟨od,es,ep,k _ _ (.inl rfl) e,c⟩,r⟩
 |fM ob u B=>obtain⟨e,q⟩:=x;exact⟨k _ _ (.inl rfl) e,B q⟩
 |lQ ps=>have e:h.get? a=Z9 {cls:=.none,data:=.fields ps}:=x;exact k a _ (.inl rfl) e
 |ext D=>obtain⟨p,⟨o,e⟩,st⟩:=x;exact⟨st _ _ p λo q=>k _ _ (.inl rfl) q,⟨o,k _ _ (.inl rfl) e⟩,st⟩
theorem HOk.lt (x:HOk P w H h)(e:H a=Z9 o):a<h.objs.size:=(x a o e).lt
theorem HOk.fresh (x:HOk P w H h)(e:h.objs.size<=a):H a=none:=by
 cases q:H a with
 |none=>rfl
 |some u=>exact absurd (ci (x.lt q) e) (cx _)
theorem HOk.kept (x:HOk P w H h)(k:∀b u,h.get? b=Z9 u->c.get? b=Z9 u):HOk P w H c:=λa o e=>(x a o e).stay (λb u _ q=>k b u q) (λ_ q=>q) λ_ _ q=>q
theorem HOk.laid (x:HOk P w H h)(k:∀b u,h.get? b=Z9 u->d.get? b=Z9 u)(g:h.objs.size<=a)(new:z16 P w (upd H a o) d a o):HOk P w (upd H a o) d:=λb u e=>by
 have hn:=x.fresh g;by_cases f:b=a
 .subst f;rw[bF]at e;cases e;exact new
 .rw[aE f]at e;exact(x b u e).stay (λc v _ q=>k c v q) (λc q=>by rw[aE (bO q hn)];exact q) λc i q=>by rw[aE (bO q hn)];exact q
def Rd (H:Hp)(a:Addr)(u:HO):Prop:=H a=Z9 u\/∃o,H a=Z9 (.fM o u)
theorem Rd.ok (r:Rd H a u)(x:HOk P w H h):z16 P w H h a u:=by
 rcases r with r|⟨o,r⟩
 .exact x a u r
 .obtain⟨_,q⟩:=x a _ r;exact q
def Mut:Option HO->Prop
 |some (.lst _)=>True
 |some (.dK _)=>True
 |some (.dT _)=>True
 |some (.set _ _)=>True
 |some (.ins _ _ _)=>True
 |some (.ext _)=>True
 |_=>False
theorem HOk.write (ok:HOk P w H h)(f:Mut (H x))(m:e=x\/H e=Z9 (.own x))(k:∀b u,b≠e->h.get? b=Z9 u->j.get? b=Z9 u)(l:∃u,j.get? e=Z9 u)
  (new:z16 P w (upd H x n) j x n):HOk P w (upd H x n) j:=λb u q=>by
 have d:∀c y,H c=Z9 (.own y)->c≠x:=λc y r z=>by subst z;rw[r]at f;exact f
 by_cases g:b=x
 .subst g;rw[bF]at q;cases q;exact new
 .rw[aE g]at q;by_cases a:b=e
  .have o:H b=Z9 (.own x):=by
    rcases m with z|z
    .exact absurd (a.trans z) g
    .rw[a];exact z
   rw[q]at o;cases o;obtain⟨v,s⟩:=l;exact⟨v,by rw[a];exact s⟩
  .refine(ok b u q).stay (λc v i r=>k c v ?_ r) (λc r=>by rw[aE (d c b r)];exact r) λc p r=>by rw[aE ((λc p r z=>by subst z;rw[r]at f;exact f) c p r)];exact r
   rcases i with rfl|i
   .exact a
   .rintro rfl
    rcases m with z|z
    .exact d c b i z
    .rw[i]at z;cases z;exact g rfl
structure Un (fs ex:List Addr)(H H':Hp)(h h':Heap):Prop where
 keep:∀b o,h.get? b=Z9 o->H b=Z8->b∉fs->b∉ex->h'.get? b=Z9 o
 slot:∀b o,h.get? b=Z9 o->H b=Z8->b∈fs->b∉ex->∃sl,h'.get? b=Z9 {o with slots:=sl}
 free:∀b o,h.get? b=Z9 o->H b=Z8->b∉ex->H' b=Z8
 there:∀b o,h.get? b=Z9 o->b∉ex->∃o',h'.get? b=Z9 o'
 cI:∀b xs,H b=Z9 (.tup xs)->H' b=Z9 (.tup xs)
 cC:∀b o u,H b=Z9 (.fM o u)->H' b=Z9 (.fM o u)
 cJ:∀b ps,H b=Z9 (.lQ ps)->∃more,H' b=Z9 (.lQ (ps++more))
theorem Un.any (u:Un fs ex H e h d)(q:h.get? b=Z9 ob)(n:H b=Z8)(a:b∉ex):∃sl,d.get? b=Z9 {ob with slots:=sl}:=by
 by_cases c:b∈fs
 .exact u.slot b ob q n c a
 .exact⟨ob.slots,u.keep b ob q n c a⟩
theorem Un.kept (k:∀b u,h.get? b=Z9 u->a.get? b=Z9 u):Un fs ex H H h a:=⟨λb ob q _ _ _=>k b ob q,λb ob q _ _ _=>⟨ob.slots,k b ob q⟩,λ_ _ _ n _=>n,λb ob q _=>⟨ob,k b ob q⟩,λ_ _ q=>q,λ_ _ _ q=>q,λ_ ps q=>⟨#[],by rw[q];simp⟩⟩
theorem Un.refl:Un fs ex H H h h:=Un.kept λ_ _ q=>q
theorem Un.laid (k:∀b u,h.get? b=Z9 u->c.get? b=Z9 u)(d:h.objs.size<=a)(hn:H a=Z8):Un fs ex H (upd H a o) h c where
 keep:=λb u q _ _ _=>k b u q
 slot:=λb u q _ _ _=>⟨u.slots,k b u q⟩
 free:=λb u q n _=>by rw[aE (cr (ci (bj q) d))];exact n
 there:=λb u q _=>⟨u,k b u q⟩
 cI:=λb e q=>by rw[aE (bO q hn)];exact q
 cC:=λb u e q=>by rw[aE (bO q hn)];exact q
 cJ:=λb ps q=>⟨#[],by rw[aE (bO q hn),q];simp⟩
theorem Un.write (c:Mut (H x))(j:e=x\/H e=Z9 (.own x))(k:∀b u,b≠e->h.get? b=Z9 u->f.get? b=Z9 u)(d:∃u,f.get? e=Z9 u):Un fs ex H (upd H x o) h f:=by
 have g:∀b,H b=Z8->b≠x:=λb n z=>by subst z;rw[n]at c;exact c
 have i:∀b,H b=Z8->b≠e:=λb n z=>by
  subst z;rcases j with r|r
  .exact g b n r
  .rw[n]at r;cases r
 have hm:∀b u,H b=Z9 u->¬Mut (Z9 u)->b≠x:=λb u q nm z=>by subst z;rw[q]at c;exact nm c
 refine⟨λb u q n _ _=>k b u (i b n) q,λb u q n _ _=>⟨u.slots,k b u (i b n) q⟩,λb u q n _=>by rw[aE (g b n)];exact n,λb u q _=>?_,λb l q=>by rw[aE (hm b _ q λz=>z)];exact q,λb u l q=>by rw[aE (hm b _ q λz=>z)];exact q,λb ps q=>⟨#[],by rw[aE (hm b _ q λz=>z),q];simp⟩⟩;by_cases a:b=e
 .subst a;exact d
 .exact⟨u,k b u a q⟩
def AO (h:Heap)(H:Hp):List Addr:=(cc h.objs.size).filter λa=>(H a).isSome
def jT (h:Heap)(H:Hp):Heap:=W.hideAll h (AO h H)
theorem L9 (h:Heap)(H:Hp):(jT h H).objs.size=h.objs.size:=W.hideAll_size _ _
theorem Ma (e:h.get? b=Z9 o)(n:H b=Z8):(jT h H).get? b=Z9 o:=W.hideAll_get _ e λhm=>by have q:=(dm.mp hm).2;rw[n]at q;simp at q
theorem Mb (e:(jT h H).get? b=Z9 o):h.get? b=Z9 o/\H b=none:=by
 have a:=W.of_hideAll (AO h H) e;refine⟨a,?_⟩;cases q:H b with
 |none=>rfl
 |some x=>have z:(jT h H).get? b=none:=W.hideAll_none (AO h H) (dm.mpr ⟨fz.mpr (bj a),by simp[q]⟩);rw[z]at e;cases e
def y4 (g h:Heap)(L:Addr):List (Addr×Obj):=(cc h.objs.size).filterMap λa=>if a=L\/(g.get? a).isSome=Z7 then Z8 else(h.get? a).map λo=>(a,o)
theorem FJ (c:a≠L)(d:g.get? a=Z8)(b:h.get? a=Z9 o):(a,o)∈y4 g h L:=fq.mpr ⟨a,fz.mpr (bj b),by simp[c,d,b]⟩
theorem Me (a:p∈y4 g h L):p.1≠L/\g.get? p.1=Z8/\h.get? p.1=Z9 p.2:=by
 obtain⟨b,_,e⟩:=fq.mp a;split at e
 .cases e
 .rename_i hn;cases q:h.get? b with
  |none=>rw[q]at e;simp at e
  |some u=>
   rw[q]at e;simp at e;subst e;refine⟨λz=>hn (.inl z),?_,q⟩;cases r:g.get? b with
   |none=>rfl
   |some v=>exact(hn (.inr (by simp[r]))).elim
theorem Mf:News g L h (y4 g h L):=λp d=>let⟨a,b,c⟩:=Me d;⟨c,a,b⟩
structure Mod (K:Z5)(mg:Str->Option Value)(base:Heap):Prop where
 sF:K.In base
 glob:base.Ns bo mg
 blt:∃mb,base.Ns qv mb/\∀x:Str,x≠"__name__"->mb x=dg x
 nolimit:base.NoLimit
structure Cx where
 prog:cu
 w:World
 K:Z5
 mg:Str->Option Value
 base:Heap
 A:gi
 N:List Str
 s₀:bb
 gV:Hp
 env:Env
 outer:List Env
 stack:List Env
 ex:List Addr
 fn:Str->Bool
 calm:Bool
 pn:List (Addr×Obj)
 xe:Value->bb->Prop
 fx:List (Str×Value):=[]
def frs (l:List Env):List Addr:=l.filterMap (·.frame)
abbrev Cx.fs (X:Cx):List Addr:=frs X.outer
def Vis (sc:Scope)(x:Str):Prop:=sc.names.lookup x=Z9 .local\/sc.names.lookup x=Z9 .cell\/sc.names.lookup x=Z9 .free
def Loc (sc:Scope)(x:Str):Prop:=sc.names.lookup x=Z9 .local\/sc.names.lookup x=Z9 .cell
def Look (env:Env)(h:Heap)(m:Str->Option Value)(x:Str)(u:Value):Prop:=(env.kindOf x=Z9 .local/\m x=Z9 u)\/((env.kindOf x=Z9 .cell\/env.kindOf x=Z9 .free)/\∃c,env.cells.lookup x=Z9 c/\h.IsCell c (Z9 u))
def Sto (X:Cx)(x:Str):Prop:=(X.fn x=Z7\/X.env.scope.names.lookup x=Z9 .local)/\∀u,(x,u)∉X.fx
structure Cx.Ok (X:Cx):Prop where
 mod:Mod X.K X.mg X.base
 kind:X.env.scope.kind=.function
 glob:X.env.globals=bo
 blt:X.env.builtins=qv
 above:X.s₀.heap.objs.size<=X.env.locals
 inj:∀x y c,X.env.cells.lookup x=Z9 c->X.env.cells.lookup y=Z9 c->x=y
 has:∀x,(X.env.kindOf x=Z9 .cell\/X.env.kindOf x=Z9 .free)->∃c,X.env.cells.lookup x=Z9 c
 nX:∀x c,X.fn x=Z7->X.env.cells.lookup x=Z9 c->X.s₀.heap.objs.size<=c
 hd:X.calm=Z7->X.A.handled=Z8
 frames:X.A.frames=Z9 X.stack
 oI:X.stack=X.outer\/(X.stack=X.env::X.outer/\X.env.frame=Z9 X.env.locals)
 iF:∀b∈X.ex,b≠X.env.locals/\∀x c,X.env.cells.lookup x=Z9 c->c≠b
 bs:∀b o,X.base.get? b=Z9 o->X.s₀.heap.get? b=Z9 o/\X.gV b=Z8
 iG:X.base.objs.size<=X.s₀.heap.objs.size
 fN:∀b o,X.base.get? b=Z9 o->b∉X.ex
 fO:∀b∈X.ex,b∉X.fs
 bS:X.s₀.heap.FunFrames X.base X.outer
 kY:∀b∈X.fs,X.gV b=Z8
 vO:∀x u,(x,u)∈X.fx->X.env.scope.names.lookup x=Z9 .local
structure Inv (X:Cx)(pins:List (Addr×Obj))(σ:List (Option V))(H:Hp)(s:bb):Prop where
 ok:X.Ok
 os:s.os=X.s₀.os
 bare:kz s.gens
 base:Un X.fs X.ex X.gV H X.s₀.heap s.heap
 loc:∃m,s.heap.Ns X.env.locals m/\∀(i:Nat) (x:Str) (v:V),X.N[i]?=Z9 x->σ[i]?=Z9 (Z9 v)->Vis X.env.scope x->∃u,RelV v u/\Look X.env s.heap m x u
 cell:∀x c,X.env.cells.lookup x=Z9 c->∃v,s.heap.IsCell c v
 free:H X.env.locals=Z8
 aZ:∀x c,X.env.cells.lookup x=Z9 c->H c=Z8
 pin:∀p∈X.pn++pins,s.heap.get? p.1=Z9 p.2/\H p.1=Z8/\p.1≠X.env.locals/\p.1∉X.fs/\∀v,p.2.data≠.cell v
 hok:HOk X.prog X.w H s.heap
 len:σ.length=X.N.length
 fx:∀x u,(x,u)∈X.fx->∃m,s.heap.Ns X.env.locals m/\m x=Z9 u
section
variable {X:Cx}
theorem Cx.Ok.vP (ok:X.Ok)(e:X.base.get? b=Z9 o):b∉X.fs:=λa=>by have:=(ok.bS.mem a).1;rw[e]at this;cases this
theorem Inv.bs (I:Inv X a c H s):∀b o,X.base.get? b=Z9 o->s.heap.get? b=Z9 o/\H b=none:=λb o e=>⟨I.base.keep b o (I.ok.bs b o e).1 (I.ok.bs b o e).2 (I.ok.vP e) (I.ok.fN b o e),I.base.free b o (I.ok.bs b o e).1 (I.ok.bs b o e).2 (I.ok.fN b o e)⟩
theorem Inv.bk (I:Inv X a c H s):∀b o,X.base.get? b=Z9 o->s.heap.get? b=Z9 o:=λb o e=>(I.bs b o e).1
theorem Inv.mod (I:Inv X a b H s):Mod X.K X.mg X.base:=I.ok.mod
theorem Inv.cG (I:Inv X a b H s):X.K.In s.heap:=I.ok.mod.sF.keeps I.bk
theorem Inv.fr (I:Inv X a b H s):∃m,Fr X.base X.env.locals s.heap m:=
 let⟨m,hn,_⟩:=I.loc
 ⟨m,hn,I.bk,bq I.ok.iG I.ok.above⟩
theorem Inv.lt (I:Inv X a b H s):X.env.locals<s.heap.objs.size:=let⟨_,hn,_⟩:=I.loc;hn.lt
theorem Inv.sz (I:Inv X a b H s):X.s₀.heap.objs.size<=s.heap.objs.size:=bq I.ok.above (gn I.lt)
theorem Inv.vQ (I:Inv X b e H s)(h:s.heap.objs.size<=a):a∉X.fs:=λc=>by obtain⟨_,o,d,_⟩:=I.ok.bS.mem c;exact absurd (ci (bj d) (bq I.sz h)) (cx _)
theorem Inv.kZ (I:Inv X d g H s):∀x c,X.env.cells.lookup x=Z9 c->c≠X.env.locals:=λx c e z=>by obtain⟨v,o,f,hd⟩:=I.cell x c e;obtain⟨m,⟨h,es,ep,a,b,_⟩,_⟩:=I.loc;rw[z,a]at f;cases f;rw[b]at hd;cases hd
theorem Inv.bS (I:Inv X f k H s):s.heap.FunFrames X.base X.outer:=by
 have all:∀l,(∀b∈frs l,b∈X.fs)->X.s₀.heap.FunFrames X.base l->s.heap.FunFrames X.base l:=by
  intro l
  induction l with
  |nil=>intro _ _;trivial
  |cons env r g=>
   rintro hs ⟨h,⟨L,o,a,hn,i,hd⟩,j⟩
   have c:=hs L (by unfold frs;rw[dj,a];exact bg);obtain⟨sl,e⟩:=I.base.slot L o i (I.ok.kY L c) c λz=>I.ok.fO L z c;exact⟨h,⟨L,_,a,hn,e,hd⟩,g (λb d=>hs b (by unfold frs;rw[dj,a];exact a9 _ d)) j⟩
 exact all X.outer (λ_ d=>d) I.ok.bS
theorem Inv.stack (I:Inv X a c H s):s.heap.FunFrames X.base X.stack:=by
 rcases I.ok.oI with e|⟨e,b⟩
 .rw[e];exact I.bS
 .rw[e];obtain⟨m,hn,_⟩:=I.loc;refine .cons (by rw[I.ok.kind];decide) b hn ?_ I.bS;exact g7 (bq I.ok.iG I.ok.above)
theorem Inv.gG (I:Inv X c f H s):∀b∈frs X.stack,b∈X.env.locals::X.fs:=λb a=>by
 rcases I.ok.oI with e|⟨e,d⟩
 .rw[e]at a;simp_all
 .rw[e]at a;unfold frs at a;rw[dj,d]at a;exact a
theorem Inv.gI (I:Inv X c f H s):∀b∈frs X.stack,H b=none:=λb a=>by
 rcases bh.mp (I.gG b a)with e|a
 .rw[e];exact I.free
 .obtain⟨_,o,d,_⟩:=I.ok.bS.mem a;exact I.base.free b o d (I.ok.kY b a) λz=>I.ok.fO b z a
theorem Inv.step {ch:List Addr}(I:Inv X y M H s)
  (f:∀b∈ch,(b∈X.ex\/X.s₀.heap.objs.size<=b)/\b≠X.env.locals/\(∀x c,X.env.cells.lookup x=Z9 c->c≠b)/\∀p∈X.pn++y,p.1≠b)
  (keep:∀b o,b≠X.env.locals->b∉X.fs->b∉ch->s.heap.get? b=Z9 o->H b=Z8->h'.get? b=Z9 o)
  (slot:∀b o,b≠X.env.locals->b∈X.fs->b∉ch->s.heap.get? b=Z9 o->H b=Z8->∃sl,h'.get? b=Z9 {o with slots:=sl}) (free:∀b o,b∉ch->s.heap.get? b=Z9 o->H b=Z8->H' b=Z8)
  (there:∀b o,b∉ch->s.heap.get? b=Z9 o->∃D,h'.get? b=Z9 D)
  (cI:∀b A,H b=Z9 (.tup A)->H' b=Z9 (.tup A)) (cC:∀b o u,H b=Z9 (.fM o u)->H' b=Z9 (.fM o u)) (cJ:∀b ps,H b=Z9 (.lQ ps)->∃E,H' b=Z9 (.lQ (ps++E)))
  (ns:∀m,s.heap.Ns X.env.locals m->h'.Ns X.env.locals m) (hok:HOk X.prog X.w H' h') (N:kz g'):
  Inv X y M H' {s with heap:=h',gens:=g',drawn:=d',toks:=t'}:=by
 have F:∀b o,X.s₀.heap.get? b=Z9 o->b≠X.env.locals:=λb o e=>cr (ci (bj e) I.ok.above)
 have j:∀b o,X.s₀.heap.get? b=Z9 o->b∉X.ex->b∉ch:=λb o e a B=>by
  rcases(f b B).1 with z|z
  .exact a z
  .exact absurd (ci (bj e) z) (cx _)
 have g:∀x c,X.env.cells.lookup x=Z9 c->∀v,s.heap.IsCell c v->h'.IsCell c v:=λx c e v ⟨o,C,hd⟩=>by
  have h:=λz=>(f c z).2.2.1 x c e rfl;by_cases K:c∈X.fs
  .obtain⟨sl,q⟩:=slot c o (I.kZ x c e) K h C (I.aZ x c e);exact⟨_,q,hd⟩
  .exact⟨o,keep c o (I.kZ x c e) K h C (I.aZ x c e),hd⟩
 refine⟨I.ok,I.os,N,⟨λb o e n B a=>?_,λb o e n B a=>?_,λb o e n a=>?_,λb o e a=>?_,λb A e=>cI b A (I.base.cI b A e),λb o A e=>cC b o A (I.base.cC b o A e),λb ps e=>?_⟩,?_,λx c e=>?_,?_,λx c e=>?_,λp L=>?_,hok,I.len,λx u e=>let⟨m,hn,q⟩:=I.fx x u e;⟨m,ns m hn,q⟩⟩
 .exact keep b o (F b o e) B (j b o e a) (I.base.keep b o e n B a) (I.base.free b o e n a)
 .obtain⟨sl,t⟩:=I.base.slot b o e n B a;obtain⟨J,G⟩:=slot b _ (F b o e) B (j b o e a) t (I.base.free b o e n a);exact⟨J,G⟩
 .obtain⟨D,t⟩:=I.base.there b o e a;exact free b D (j b o e a) t (I.base.free b o e n a)
 .obtain⟨D,t⟩:=I.base.there b o e a;exact there b D (j b o e a) t
 .obtain⟨O,t⟩:=I.base.cJ b ps e;obtain⟨P,G⟩:=cJ b _ t;exact⟨O++P,by rw[G,oy]⟩
 .obtain⟨m,hn,Q⟩:=I.loc;refine⟨m,ns m hn,λi x v t G R=>?_⟩;obtain⟨u,r,l⟩:=Q i x v t G R;refine⟨u,r,?_⟩;rcases l with l|⟨k,c,e,z⟩
  .exact .inl l
  .exact .inr ⟨k,c,e,g x c e _ z⟩
 .obtain⟨v,z⟩:=I.cell x c e;exact⟨v,g x c e v z⟩
 .obtain⟨m,⟨o,_,_,C,_⟩,_⟩:=I.loc;exact free _ o (λz=>(f _ z).2.1 rfl) C I.free
 .obtain⟨v,o,C,hd⟩:=I.cell x c e;exact free c o (λz=>(f c z).2.2.1 x c e rfl) C (I.aZ x c e)
 .obtain⟨e,n,ne,nf,d⟩:=I.pin p L;have h:=λz=>(f p.1 z).2.2.2 p L rfl;exact⟨keep p.1 p.2 ne nf h e n,free p.1 p.2 h e n,ne,nf,d⟩
theorem Inv.un (I:Inv X a j H s)(u:Un X.fs [] H h s.heap h')(hok:HOk X.prog X.w h h'):Inv X a j h {s with heap:=h',toks:=t'}:=by obtain⟨m,⟨o,es,ep,i,r⟩,_⟩:=id I.loc;obtain⟨sl,k⟩:=u.any i I.free (by simp);exact I.step (ch:=[]) (λ_ z=>nomatch z) (λb o _ d _ e n=>u.keep b o e n d (by simp)) (λb o _ d _ e n=>u.slot b o e n d (by simp)) (λb o _ e n=>u.free b o e n (by simp)) (λb o _ e=>u.there b o e (by simp)) u.cI u.cC u.cJ (λp ⟨q,f,g,c,l⟩=>by rw[i]at c;cases c;exact⟨_,f,g,k,l⟩) hok I.bare
theorem Inv.call (I:Inv X a t H s)(u:Un (frs X.stack) ch H k s.heap l)(hok:HOk X.prog X.w k l)(v:kz y)
  (f:∀b∈ch,(b∈X.ex\/X.s₀.heap.objs.size<=b)/\b≠X.env.locals/\(∀x c,X.env.cells.lookup x=Z9 c->c≠b)/\∀p∈X.pn++a,p.1≠b):
  Inv X a t k {s with heap:=l,gens:=y,drawn:=d',toks:=t'}:=by
 obtain⟨m,⟨o,es,ep,q,r⟩,_⟩:=id I.loc;obtain⟨sl,h⟩:=u.any q I.free λz=>(f _ z).2.1 rfl;exact I.step f (λb o h A d e n=>u.keep b o e n (λz=>(bh.mp (I.gG b z)).elim h A) d) (λb o _ _ d e n=>u.any e n d) (λb o d e n=>u.free b o e n d) (λb o d e=>u.there b o e d) u.cI u.cC u.cJ (λC ⟨D,i,j,g,B⟩=>by rw[q]at g;cases g;exact⟨_,i,j,h,B⟩) hok v
theorem Inv.turned (I:Inv X a h H s)(k:∀b o,b≠it->s.heap.get? b=Z9 o->h'.get? b=Z9 o)(hn:H it=Z8)(g:it≠X.env.locals)
  (i:it∈X.ex\/X.s₀.heap.objs.size<=it) (j:∀x c,X.env.cells.lookup x=Z9 c->c≠it) (l:∀p∈X.pn++a,p.1≠it):Inv X a h H {s with heap:=h',toks:=t'}:=by
 have f:∀b u,H b=Z9 u->b≠it:=λb u e z=>by rw[z,hn]at e;cases e
 refine I.step (ch:=[it]) (λb t=>?_) (λb o _ _ d e _=>k b o (λz=>d (by simp[z])) e) (λb o _ _ d e _=>⟨o.slots,k b o (λz=>d (by simp[z])) e⟩) (λ_ _ _ _ n=>n) (λb o d e=>⟨o,k b o (λz=>d (by simp[z])) e⟩) (λ_ _ e=>e) (λ_ _ _ e=>e) (λb ps e=>⟨#[],by rw[e];simp⟩) (λm hm=>?_) (λb u e=>?_) I.bare
 .have e:b=it:=by simpa using t
  subst e;exact⟨i,g,j,l⟩
 .obtain⟨o,es,ep,w,r⟩:=hm;exact⟨o,es,ep,k _ o (Ne.symm g) w,r⟩
 .refine(I.hok b u e).stay (λc v d q=>k c v ?_ q) (λ_ q=>q) λ_ _ q=>q;rcases d with z|z
  .rw[z];exact f b u e
  .exact f c _ z
theorem Inv.tok (I:Inv X a b H s)(t:Nat):Inv X a b H {s with toks:=t}:=I.un (h':=s.heap) (t':=t) Un.refl I.hok
theorem Inv.kept (I:Inv X a c H s)(k:∀b u,s.heap.get? b=Z9 u->d.get? b=Z9 u):Inv X a c H {s with heap:=d,toks:=t'}:=I.un (Un.kept k) (I.hok.kept k)
theorem Inv.laid (I:Inv X c f H s)(k:∀b u,s.heap.get? b=Z9 u->e.get? b=Z9 u)(d:s.heap.objs.size<=a)(new:z16 X.prog X.w (upd H a o) e a o): Inv X c f (upd H a o) {s with heap:=e,toks:=t'}:=I.un (Un.laid k d (I.hok.fresh d)) (I.hok.laid k d new)
theorem Inv.write (I:Inv X a h H s)(f:Mut (H x))(g:e=x\/H e=Z9 (.own x))(k:∀b u,b≠e->s.heap.get? b=Z9 u->d.get? b=Z9 u)(c:∃u,d.get? e=Z9 u) (new:z16 X.prog X.w (upd H x o) d x o):Inv X a h (upd H x o) {s with heap:=d,toks:=t'}:=I.un (Un.write f g k c) (I.hok.write f g k c new)
theorem Inv.weak (I:Inv X a c H s)(d:b.length=c.length)(w:∀(i:Nat) v,b[i]?=Z9 (Z9 v)->c[i]?=Z9 (Z9 v)):Inv X a b H s:=⟨I.ok,I.os,I.bare,I.base,let⟨m,hn,Mg⟩:=I.loc;⟨m,hn,λi x v e f g=>Mg i x v e (w i v f) g⟩,I.cell,I.free,I.aZ,I.pin,I.hok,d.trans I.len,I.fx⟩
theorem Inv.gK (I:Inv X a b H s)(h:∀p∈lR,s.heap.get? p.1=Z9 p.2/\H p.1=Z8/\p.1≠X.env.locals/\p.1∉X.fs/\∀v,p.2.data≠.cell v):Inv X lR b H s:=⟨I.ok,I.os,I.bare,I.base,I.loc,I.cell,I.free,I.aZ,λp c=>(bw.mp c).elim (λz=>I.pin p (dt _ z)) (h p),I.hok,I.len,I.fx⟩
theorem FK {h:Heap}(x:h.Ns a m)(y:h.Ns a g)(n:Str):m n=g n:=by obtain⟨o,es,ep,e,d,_,f⟩:=x;obtain⟨l,i,j,b,c,_,k⟩:=y;rw[e]at b;cases b;rw[d]at c;cases c;rw[<-f n,k n]
theorem AQ {N:List Str}(hN:N.Nodup){j:Nat}(a:N[i]?=Z9 x)(b:N[j]?=Z9 x):i=j:=by obtain⟨e,c⟩:=ay.mp a;obtain⟨f,d⟩:=ay.mp b;exact(List.getElem_inj hN).mp (c.trans d.symm)
theorem z4s (I:Inv X P σ H s)(hN:X.N.Nodup)(R:X.N[i]?=Z9 x)(t:Loc X.env.scope x)(r:RelV v u)
  (h:∀s',Inv X P (σ.set i (Z9 v)) H s'->(∃a,gr a s.heap s'.heap/\(a=X.env.locals\/X.env.cells.lookup x=Z9 a))->Q () s') (hf:Sto X x:=by first|exact⟨.inl rfl,nofun⟩|exact⟨.inr rfl,nofun⟩|assumption):wpAny M A (storeName X.env x u) Q E s:=by
 obtain⟨m,hn,hl⟩:=id I.loc;have D:i<σ.length:=I.len▸(ay.mp R).1;have kZ:=I.kZ
 have f:∀{a:Addr} {O:Heap},(∃o,s.heap.get? a=Z9 o/\H a=Z8)->gr a s.heap O->HOk X.prog X.w H O:=λ{a O} ha hs b ob e=>by
  obtain⟨_,_,B⟩:=ha;refine(I.hok b ob e).stay (λc Y l q=>(hs.2 c ?_).trans q) (λ_ q=>q) λ_ _ q=>q
  rintro rfl
  rcases l with rfl|l
  .rw[B]at e;cases e
  .rw[B]at l;cases l
 rcases t with F|F
 .refine wpAny_storeName_local F hn (λO S hs=>?_) (by rw[I.ok.kind];rfl);obtain⟨oL,_,_,Mh,_⟩:=id hn;refine h _ ⟨I.ok,I.os,I.bare,⟨λb o e n G t=>?_,λb o e n G t=>?_,I.base.free,λb o e t=>?_,I.base.cI,I.base.cC,I.base.cJ⟩,⟨_,S,λj y v' g C e3=>?_⟩,λy c e=>?_,I.free,I.aZ,λp hp=>?_,f ⟨oL,Mh,I.free⟩ hs,by simpa using I.len,λy u e=>by obtain⟨m',J,q⟩:=I.fx y u e;refine⟨_,S,?_⟩;have hy:y≠x:=λz=>hf.2 u (z▸e);have:=FK hn J y;simp[hy,this,q]⟩ ⟨_,hs,.inl rfl⟩
  .exact(hs.2 b (cr (ci (bj e) I.ok.above))).trans (I.base.keep b o e n G t)
  .obtain⟨sl,g⟩:=I.base.slot b o e n G t;exact⟨sl,(hs.2 b (cr (ci (bj e) I.ok.above))).trans g⟩
  .obtain⟨o',g⟩:=I.base.there b o e t;exact⟨o',(hs.2 b (cr (ci (bj e) I.ok.above))).trans g⟩
  .by_cases K:j=i
   .subst K;rw[R]at g;cases g;rw[bv D]at C;cases C;exact⟨u,r,.inl ⟨F,by simp⟩⟩
   .rw[bp (Ne.symm K)]at C;obtain⟨u',r',q⟩:=hl j y v' g C e3;refine⟨u',r',?_⟩;rcases q with⟨k,e⟩|⟨k,c,e,z⟩
    .refine .inl ⟨k,?_⟩;have:y≠x:=λe=>K (AQ hN g (e▸R));simp[this,e]
    .exact .inr ⟨k,c,e,z.sameBut hs (kZ y c e)⟩
  .obtain⟨Y,z⟩:=I.cell y c e;exact⟨Y,z.sameBut hs (kZ y c e)⟩
  .obtain⟨e,n,ne,nf,d⟩:=I.pin p hp;exact⟨(hs.2 p.1 ne).trans e,n,ne,nf,d⟩
 .have L:X.fn x=true:=by
   rcases hf.1 with z|z
   .exact z
   .rw[z]at F;cases F
  obtain⟨c,l⟩:=I.ok.has x (.inl F);obtain⟨Y,z⟩:=I.cell x c l;refine wpAny_storeName_cell I.ok.kind F l z (λO T hs=>?_);obtain⟨oc,U,V⟩:=id z;refine h {s with heap:=O} ⟨I.ok,I.os,I.bare,⟨λb o e n G t=>?_,λb o e n G t=>?_,I.base.free,λb o e t=>?_,I.base.cI,I.base.cC,I.base.cJ⟩,⟨m,hn.sameBut hs (Ne.symm (kZ x c l)),λj y v' g C e3=>?_⟩,λy c' e=>?_,I.free,I.aZ,λp hp=>?_,f ⟨oc,U,I.aZ x c l⟩ hs,by simpa using I.len,λy u e=>let⟨m',J,q⟩:=I.fx y u e;⟨m',J.sameBut hs (Ne.symm (kZ x c l)),q⟩⟩ ⟨c,hs,.inr l⟩
  .exact(hs.2 b (cr (ci (bj e) (I.ok.nX x c L l)))).trans (I.base.keep b o e n G t)
  .obtain⟨sl,g⟩:=I.base.slot b o e n G t;exact⟨sl,(hs.2 b (cr (ci (bj e) (I.ok.nX x c L l)))).trans g⟩
  .obtain⟨o',g⟩:=I.base.there b o e t;exact⟨o',(hs.2 b (cr (ci (bj e) (I.ok.nX x c L l)))).trans g⟩
  .by_cases K:j=i
   .subst K;rw[R]at g;cases g;rw[bv D]at C;cases C;exact⟨u,r,.inr ⟨.inl F,c,l,T⟩⟩
   .rw[bp (Ne.symm K)]at C;obtain⟨u',r',q⟩:=hl j y v' g C e3;refine⟨u',r',?_⟩;rcases q with q|⟨k,c',e,z'⟩
    .exact .inl q
    .refine .inr ⟨k,c',e,z'.sameBut hs ?_⟩
     rintro rfl
     exact K (AQ hN g (I.ok.inj _ _ _ e l▸R))
  .by_cases W:c'=c
   .subst W;exact⟨_,T⟩
   .obtain⟨w2,z2⟩:=I.cell y c' e;exact⟨w2,z2.sameBut hs W⟩
  .obtain⟨e,n,ne,nf,d⟩:=I.pin p hp;refine⟨(hs.2 p.1 ?_).trans e,n,ne,nf,d⟩;intro q;rw[q,U]at e;exact d Y (si e▸V)
theorem z5k (I:Inv X a c H s)(hN:X.N.Nodup)(d:X.N[i]?=Z9 x)(e:Loc X.env.scope x)(r:RelV v u)
  (h:∀b,Inv X a (c.set i (Z9 v)) H b->Q () b) (f:Sto X x:=by first|exact⟨.inl rfl,nofun⟩|exact⟨.inr rfl,nofun⟩|assumption):wpAny M A (storeName X.env x u) Q E s:=
 z4s I hN d e r (λb g _=>h b g) f
theorem Inv.call' (I:Inv X a g H s)(h:d.os=s.os)(u:Un (frs X.stack) i H f s.heap d.heap)(hok:HOk X.prog X.w f d.heap)(j:kz d.gens)
  (e:∀b∈i,(b∈X.ex\/X.s₀.heap.objs.size<=b)/\b≠X.env.locals/\(∀x c,X.env.cells.lookup x=Z9 c->c≠b)/\∀p∈X.pn++a,p.1≠b):Inv X a g f d:=by
 obtain⟨k,l,m,n,o⟩:=d;subst h;exact I.call u hok j e
end
abbrev XK:=Value->Option Addr->Hp->Prop
abbrev St:=List (Option V)
abbrev VK:=V->Hp->Prop
abbrev TE:=St->Hp->VK->Prop
abbrev TT:=St->Hp->(Bool->Hp->Prop)->Prop
abbrev TA:=St->Hp->(List V->Hp->Prop)->Prop
structure Ends where
 nx:St->Hp->Prop
 rt:VK
 bk:St->Hp->Prop:=λ_ _=>False
 ct:St->Hp->Prop:=λ_ _=>False
abbrev TS:=Ends->St->Hp->Prop
def EP (X:Cx)(pins:List (Addr×Obj))(σ:St)(Q:VK)(u:Value)(s':bb):Prop:=∃v H',Inv X pins σ H' s'/\RelV v u/\Q v H'
def TP (X:Cx)(pins:List (Addr×Obj))(σ:St)(Q:Bool->Hp->Prop)(b:Bool)(s':bb):Prop:=∃H',Inv X pins σ H' s'/\Q b H'
def AP (X:Cx)(pins:List (Addr×Obj))(σ:St)(Q:List V->Hp->Prop)(us:List Value)(s':bb):Prop:=∃vs H',Inv X pins σ H' s'/\Vals vs us/\Q vs H'
def SP (X:Cx)(pins:List (Addr×Obj))(D:Ends)(f:Flow)(s':bb):Prop:=
 match f with
 |.next=>∃bG H',Inv X pins bG H' s'/\D.nx bG H'
 |.brk=>∃bG H',Inv X pins bG H' s'/\D.bk bG H'
 |.cont=>∃bG H',Inv X pins bG H' s'/\D.ct bG H'
 |.ret u=>∃v bG H',Inv X pins bG H' s'/\RelV v u/\D.rt v H'
def PE (X:Cx)(e:Expr)(t:TE):Prop:=∀(pins:List (Addr×Obj)) (s:bb) (σ:St) (H:Hp) (Q:VK),Inv X pins σ H s->t σ H Q->wpAny (model X.prog X.w) X.A (eval e X.env) (EP X pins σ Q) X.xe s
def PT (X:Cx)(e:Expr)(t:TT):Prop:=∀(pins:List (Addr×Obj)) (s:bb) (σ:St) (H:Hp) (Q:Bool->Hp->Prop),Inv X pins σ H s->t σ H Q->wpAny (model X.prog X.w) X.A (qp e X.env (eval e X.env)) (TP X pins σ Q) X.xe s
def PW (X:Cx)(e:Expr)(t:TT):Prop:=∀(whole:Sem Value) (pins:List (Addr×Obj)) (s:bb) (σ:St) (H:Hp) (Q:Bool->Hp->Prop),Inv X pins σ H s->t σ H Q->wpAny (model X.prog X.w) X.A (qp e X.env whole) (TP X pins σ Q) X.xe s
theorem PW.pt (h:PW X e t):PT X e t:=h _
def PA (X:Cx)(es:List Expr)(t:TA):Prop:=∀(pos:Pos) (pins:List (Addr×Obj)) (s:bb) (σ:St) (H:Hp) (Q:List V->Hp->Prop),Inv X pins σ H s->t σ H Q->wpAny (model X.prog X.w) X.A (spliced (jl pos (dk es X.env))) (AP X pins σ Q) X.xe s
def PS (X:Cx)(st:Stmt)(t:TS):Prop:=∀(pins:List (Addr×Obj)) (s:bb) (σ:St) (H:Hp) (D:Ends),Inv X pins σ H s->t D σ H->wpAny (model X.prog X.w) X.A (exec st X.env) (SP X pins D) X.xe s
def PSs (X:Cx)(st:List Stmt)(t:TS):Prop:=∀(pins:List (Addr×Obj)) (s:bb) (σ:St) (H:Hp) (D:Ends),Inv X pins σ H s->t D σ H->wpAny (model X.prog X.w) X.A (execs st X.env) (SP X pins D) X.xe s
theorem aK (h:wpAny M A t Q E s)(b:∀a s,Q a s->c a s):wpAny M A t c E s:=gj h b λ_ _ x=>x
theorem bin (m:PE X a n)(o:PE X b p){R:V->V->Hp->Prop}(I:Inv X c e H s)(h:n e H fun x k=>p e k fun y d=>R x y d)
  {l:Type} {Q:l->bb->Prop} {f:Value->Value->Sem l}
  (q:∀v u j x y d,Inv X c e d j->RelV x v->RelV y u->R x y d->wpAny (model X.prog X.w) X.A (f v u) Q X.xe j):
  wpAny (model X.prog X.w) X.A (eval a X.env) (λv g=>wpAny (model X.prog X.w) X.A (eval b X.env) (λu i=>wpAny (model X.prog X.w) X.A (f v u) Q X.xe i) X.xe g) X.xe s:=by
 exact aK (m c s e H _ I h) λv r ⟨x,k,t,z,B⟩=>aK (o c r e k _ t B) λu j ⟨y,d,C,D,E⟩=>q v u j x y d C z D E
def sG (i:Nat):TE:=λσ H Q=>∃v,σ[i]?=Z9 (Z9 v)/\Q v H
def tC (v:V):TE:=λ_ H Q=>Q v H
theorem vR (hN:X.N[i]?=Z9 x)(k:Vis X.env.scope x)(hd:WL x:=by decide)(g:(x==("__classdict__":Str))=false:=by decide):PE X (.Name x pos) (sG i):=by
 rintro f s n H Q I ⟨v,e,h⟩
 obtain⟨m,hn,o⟩:=I.loc;obtain⟨u,r,l⟩:=o i x v hN e k;have b:EP X f n Q u s:=⟨v,H,I,r,h⟩;rcases l with⟨d,hm⟩|⟨d,c,j,a⟩
 .exact oz (nk I.ok.kind d hn hm b) hd
 .rcases d with d|d
  .exact oz (wpAny_loadName_cell I.ok.kind d j a b) hd
  .exact oz (wpAny_loadName_free I.ok.kind d j a b g) hd
theorem Mj {i j pos}:PE X (.Constant (.int i) j pos) (tC (.int i)):=λ_ _ _ H _ I h=>wpAny_Constant_int ⟨.int i,H,I.tok _,⟨_,rfl⟩,h⟩
theorem Ml {b j pos}:PE X (.Constant (.bool b) j pos) (tC (.bl b)):=λ_ _ _ H _ I h=>Constant_bool ⟨.bl b,H,I,rfl,h⟩
theorem Mm {j pos}:PE X (.Constant .none j pos) (tC .aM):=λ_ _ _ H _ I h=>on ⟨.aM,H,I,rfl,h⟩
theorem FN {x j pos}:PE X (.Constant (.str x) j pos) (tC (.str x)):=λ_ _ _ H _ I h=>Calls.Constant_str ⟨.str x,H,I.tok _,⟨_,rfl⟩,h⟩
def Gl (X:Cx)(x:Str):Prop:=X.env.kindOf x=Z9 .globalImplicit
theorem z4r (I:Inv X a c H s)(b:Gl X x)(hm:X.mg x=Z9 u)(h:Q u s)
  (hd:WL x:=by decide):wpAny (model X.prog X.w) X.A (eval (.Name x pos) X.env) Q E s:=
 gv I.ok.kind b (jp (I.ok.glob▸I.mod.glob.keeps I.bk) hm h) hd
theorem z2g (I:Inv X a f H s)(b:Gl X x)(hm:X.mg x=Z8)(c:dg x=Z9 u)(h:Q u s)
  (hn:x≠"__name__":=by decide) (hd:WL x:=by decide):wpAny (model X.prog X.w) X.A (eval (.Name x pos) X.env) Q E s:=by
 obtain⟨g,d,e⟩:=I.mod.blt;exact gv I.ok.kind b (Calls.loadGlobal_builtin (I.ok.glob▸I.mod.glob.keeps I.bk) hm (I.ok.blt▸d.keeps I.bk) ((e x hn).trans c) h) hd
theorem Mn (a:Gl X x)(hm:X.mg x=Z8)(b:dg x=Z9 u)(r:RelV v u)(hn:x≠"__name__":=by decide)(hd:WL x:=by decide):PE X (.Name x pos) (tC v):=λ_ _ _ H _ I h=>z2g I a hm b ⟨v,H,I,r,h⟩ hn hd
def PC (X:Cx)(op:CmpOp)(a b:Expr)(t:TE):Prop:=∀(pins:List (Addr×Obj)) (s:bb) (σ:St) (H:Hp) (Q:VK),Inv X pins σ H s->t σ H Q->wpAny (model X.prog X.w) X.A (eval a X.env) (λv AR=>wpAny (model X.prog X.w) X.A (eval b X.env) (λu AS=>wpAny (model X.prog X.w) X.A (dr op v u) (EP X pins σ Q) X.xe AS) X.xe AR) X.xe s
theorem FO (b:Expr)(h:a≠.In)(c:a≠.NotIn):dw a b=false:=by
 have d:(a==CmpOp.In)=false:=by cases a<;>first|rfl|exact absurd rfl h
 have e:(a==CmpOp.NotIn)=false:=by cases a<;>first|rfl|exact absurd rfl c
 cases b<;>simp[dw,d,e]
def oJ (ta:TE):TE:=λσ H Q=>ta σ H λx H1=>Q (.bl (decide (x=.aM))) H1
def y6 (ta:TE):TE:=λσ H Q=>ta σ H λx H1=>Q (.bl (!decide (x=.aM))) H1
theorem RelV.gW (r:RelV x v):(v==Value.none)=decide (x=.aM):=by
 cases x with
 |aM=>cases r;rfl
 |bl _=>cases r;rfl
 |int _=>obtain⟨t,rfl⟩:=r;rfl
 |str _=>obtain⟨t,rfl⟩:=r;rfl
 |ref _=>cases r;rfl
 |ty _=>cases r;rfl
theorem y7 {j b}(d:PE X a e):PC X .Is a (.Constant .none j b) (oJ e):=by intro c s f H Q I h;exact aK (d c s f H _ I h) λv m ⟨x,g,i,k,l⟩=>on (is_none_gen ⟨.bl _,g,i,by rw[k.gW];rfl,l⟩)
theorem y8 {j b}(d:PE X a e):PC X .IsNot a (.Constant .none j b) (y6 e):=by intro c s f H Q I h;exact aK (d c s f H _ I h) λv m ⟨x,g,i,k,l⟩=>on (isnot_none_gen ⟨.bl _,g,i,by rw[k.gW];rfl,l⟩)
def tB (t:TE):TT:=λσ H Q=>t σ H λx H1=>∃c,x=.bl c/\Q c H1
theorem y9 (h:PC X d a b t)(e:dw d b=false:=by first|exact FO _ dc dc|rfl):PE X (.Compare a [d] [b] pos) t:=λc s f H Q I g=>wpAny_Compare1 (h c s f H Q I g) e
theorem za (h:PC X g a b t)(f:dw g b=false:=by first|exact FO _ dc dc|rfl):PT X (.Compare a [g] [b] pos) (tB t):=by
 intro e s i H Q I j;refine m9 (aK (h e s i H _ I j) λv p f=>aK f λu r k=>aK k ?_) f
 rintro c w ⟨x,l,m,n,o⟩
 obtain⟨d,rfl,q⟩:=o;cases n;exact gb ⟨l,m,q⟩
def vS (t u:TT):TT:=λσ H Q=>t σ H λc H1=>if c=Z7 then u σ H1 Q else Q Z6 H1
def FP (t u:TT):TT:=λσ H Q=>t σ H λc H1=>if c=Z7 then Q Z7 H1 else u σ H1 Q
def vT (t:TT):TT:=λσ H Q=>t σ H λc H1=>Q (!c) H1
theorem FQ (d:PT X a f):PW X (.BoolOp .And [a] pos) f:=by
 intro wh b s g H Q I h;refine isTrue_and (aK (d b s g H Q I h) λc i e=>?_);cases c with
 |true=>exact isTrue_and_nil e
 |false=>exact e
theorem FR (d:PT X a f):PW X (.BoolOp .Or [a] pos) f:=by
 intro wh b s g H Q I h;refine isTrue_or (aK (d b s g H Q I h) λc i e=>?_);cases c with
 |false=>exact isTrue_or_nil e
 |true=>exact e
theorem AU (k:PT X a l)(m:PW X (.BoolOp .And (b::rest) pos) e):PW X (.BoolOp .And (a::b::rest) pos) (vS l e):=by
 intro wh d s f H Q I h;refine isTrue_and (aK (k d s f H _ I h) λc n ⟨g,i,j⟩=>?_);cases c with
 |true=>exact m wh d n f g Q i j
 |false=>exact⟨g,i,j⟩
theorem AV (k:PT X a l)(m:PW X (.BoolOp .Or (b::rest) pos) e):PW X (.BoolOp .Or (a::b::rest) pos) (FP l e):=by
 intro wh d s f H Q I h;refine isTrue_or (aK (k d s f H _ I h) λc n ⟨g,i,j⟩=>?_);cases c with
 |true=>exact⟨g,i,j⟩
 |false=>exact m wh d n f g Q i j
theorem FU (d:PT X a e):PT X (.UnaryOp .Not a pos) (vT e):=by intro b s f H Q I h;exact isTrue_not (d b s f H (λc g=>Q (!c) g) I h)
def FV (ta tb:TE):TE:=λσ H Q=>ta σ H λx H1=>∃c,x=.bl c/\if c=Z7 then tb σ H1 Q else Q (.bl Z6) H1
def AW (ta tb:TE):TE:=λσ H Q=>ta σ H λx H1=>∃c,x=.bl c/\if c=Z7 then Q (.bl Z7) H1 else tb σ H1 Q
theorem AX {c}(h:PE X a t):PE X (.BoolOp c [a] pos) t:=λb s d H Q I e=>BoolOp_one (h b s d H Q I e)
theorem AY (j:PE X a k)(l:PE X (.BoolOp .And (b::rest) pos) m):PE X (.BoolOp .And (a::b::rest) pos) (FV k m):=by
 intro d s f H Q I h;refine BoolOp_and (aK (j d s f H _ I h) ?_)
 rintro v n ⟨x,g,i,o,e⟩
 obtain⟨c,rfl,e⟩:=e;cases o;refine gb ?_;cases c with
 |true=>exact l d n f g Q i e
 |false=>exact⟨.bl Z6,g,i,rfl,e⟩
theorem Mo (j:PE X a k)(l:PE X (.BoolOp .Or (b::rest) pos) m):PE X (.BoolOp .Or (a::b::rest) pos) (AW k m):=by
 intro d s f H Q I h;refine BoolOp_or (aK (j d s f H _ I h) ?_)
 rintro v n ⟨x,g,i,o,e⟩
 obtain⟨c,rfl,e⟩:=e;cases o;refine gb ?_;cases c with
 |false=>exact l d n f g Q i e
 |true=>exact⟨.bl Z7,g,i,rfl,e⟩
def Mp (t:TT)(ta tb:TE):TE:=λσ H Q=>t σ H λc H1=>if c=Z7 then ta σ H1 Q else tb σ H1 Q
theorem Mq (l:PT X c m)(n:PE X a o)(p:PE X b q):PE X (.IfExp c a b pos) (Mp m o q):=by
 intro e s f H Q I h;refine wpAny_IfExp (aK (l e s f H _ I h) λd g ⟨i,j,k⟩=>?_);cases d with
 |true=>exact n e g f i Q j k
 |false=>exact p e g f i Q j k
def SqL (K:Z5)(H:Hp)(a:Addr)(xs:List V):Prop:=Rd H a (.lst xs)\/∃(o:Obj) (eE:Array Value) (n:Nat),K.lookup a=Z9 o/\o.cls=.type "list"/\o.dict=Z8/\o.data=.seq eE n/\eE.size<=ba/\Vals xs eE.toList
def cP (K:Z5)(H:Hp)(a:Addr)(xs:List V):Prop:=Rd H a (.tup xs)\/∃(o:Obj) (eE:Array Value) (n:Nat),K.lookup a=Z9 o/\o.cls=.type "tuple"/\o.dict=Z8/\o.data=.seq eE n/\eE.size<=ba/\Vals xs eE.toList
def AZ:Value->Option V
 |.none=>Z9 .aM
 |.bool b=>Z9 (.bl b)
 |.int i _=>Z9 (.int i)
 |.str x _=>Z9 (.str x)
 |.ref a=>Z9 (.ref a)
 |.type n=>Z9 (.ty n)
 |_=>Z8
theorem RelV.abs (r:RelV x u):AZ u=Z9 x:=by
 cases x with
 |aM=>cases r;rfl
 |bl _=>cases r;rfl
 |int _=>obtain⟨t,rfl⟩:=r;rfl
 |str _=>obtain⟨t,rfl⟩:=r;rfl
 |ref _=>cases r;rfl
 |ty _=>cases r;rfl
theorem RelV.inj (r:RelV x u)(q:RelV y u):x=y:=si (r.abs.symm.trans q.abs)
theorem Vals.inj {a b:List V}{c:List Value}(h:Vals a c)(g:Vals b c):a=b:=by
 induction h generalizing b with
 |nil=>cases g;rfl
 |cons r t i=>
  cases g with
  |cons d e=>rw[r.inj d,i e]
theorem SqL.of {K:Z5}(h:H a=Z9 (.lst b)):SqL K H a b:=.inl (.inl h)
theorem cP.of {K:Z5}(h:H a=Z9 (.tup b)):cP K H a b:=.inl (.inl h)
theorem Inv.list (I:Inv X c σ H s)(h:SqL X.K H a xs):∃b,Vals xs b/\PlainL s.heap a b.toArray/\xs.length<=ba:=by
 rcases h with h|⟨o,b,n,d,f,hd,hs,g,r⟩
 .obtain⟨z,b,n,r,e⟩:=h.ok I.hok;exact⟨b,r,⟨_,n,e,rfl,rfl,rfl⟩,z⟩
 .refine⟨b.toList,r,⟨o,n,I.cG a o d,f,hd,by simpa using hs⟩,?_⟩;have e:=r.length;simp at e;omega
theorem Inv.tuple (I:Inv X c σ H s)(h:cP X.K H a d):∃b,Vals d b/\IsTup s.heap a b.toArray/\d.length<=ba:=by
 rcases h with h|⟨o,b,n,f,g,_,hs,i,r⟩
 .obtain⟨z,b,r,p⟩:=h.ok I.hok;exact⟨b,r,p.tup,z⟩
 .refine⟨b.toList,r,⟨o,I.cG a o f,g,n,by simpa using hs⟩,?_⟩;have e:=r.length;simp at e;omega
theorem Inv.sH (I:Inv X b e H s)(h:cP X.K H a c):∃l,Vals c l/\L8 s.heap a l.toArray/\c.length<=ba:=by
 rcases h with h|⟨o,l,n,q,d,hd,hs,f,r⟩
 .obtain⟨z,l,r,n,q⟩:=h.ok I.hok;exact⟨l,r,⟨_,n,q,rfl,rfl,rfl⟩,z⟩
 .exact⟨l.toList,r,⟨o,n,I.cG a o q,d,hd,(by simpa using hs)⟩,(by have w:=r.length;simp at w;omega)⟩
theorem Inv.lS (I:Inv X f p H s)(h:SqL X.K H a j)(k:SqL X.K H a l):j=l:=by
 obtain⟨c,r,⟨o,n,e,_,_,d⟩,_⟩:=I.list h;obtain⟨b,m,⟨q,t,g,_,_,i⟩,_⟩:=I.list k;rw[e]at g;cases g;rw[d]at i;injection i with d1 _;have:c=b:=by simpa using congrArg Array.toList d1
 subst this;exact r.inj m
theorem Inv.jU (I:Inv X f p H s)(h:cP X.K H a j)(k:cP X.K H a l):j=l:=by
 obtain⟨c,r,⟨o,e,_,n,d⟩,_⟩:=I.tuple h;obtain⟨b,m,⟨q,g,_,t,i⟩,_⟩:=I.tuple k;rw[e]at g;cases g;rw[d]at i;injection i with d1 _;have:c=b:=by simpa using congrArg Array.toList d1
 subst this;exact r.inj m
abbrev Cx.fP (X:Cx)(E:Value->bb->Prop):Cx:={X with xe:=E}
abbrev Cx.vU (X:Cx):Cx:=X.fP λ_ _=>False
theorem Cx.Ok.fP {X:Cx}(ok:X.Ok)(E:Value->bb->Prop):(X.fP E).Ok:=⟨ok.mod,ok.kind,ok.glob,ok.blt,ok.above,ok.inj,ok.has,ok.nX,ok.hd,ok.frames,ok.oI,ok.iF,ok.bs,ok.iG,ok.fN,ok.fO,ok.bS,ok.kY,ok.vO⟩
theorem Cx.Ok.cK {X:Cx}(ok:(X.fP E).Ok):X.Ok:=⟨ok.mod,ok.kind,ok.glob,ok.blt,ok.above,ok.inj,ok.has,ok.nX,ok.hd,ok.frames,ok.oI,ok.iF,ok.bs,ok.iG,ok.fN,ok.fO,ok.bS,ok.kY,ok.vO⟩
theorem Inv.fP (I:Inv X a b H s)(E:Value->bb->Prop):Inv (X.fP E) a b H s:=⟨I.ok.fP E,I.os,I.bare,I.base,I.loc,I.cell,I.free,I.aZ,I.pin,I.hok,I.len,I.fx⟩
theorem Inv.cK (I:Inv (X.fP E) a b H s):Inv X a b H s:=⟨I.ok.cK,I.os,I.bare,I.base,I.loc,I.cell,I.free,I.aZ,I.pin,I.hok,I.len,I.fx⟩
theorem SP.cK (h:SP (X.fP E) c D f d):SP X c D f d:=by
 cases f with
 |next=>obtain⟨a,b,I,q⟩:=h;exact⟨a,b,I.cK,q⟩
 |brk=>obtain⟨a,b,I,q⟩:=h;exact⟨a,b,I.cK,q⟩
 |cont=>obtain⟨a,b,I,q⟩:=h;exact⟨a,b,I.cK,q⟩
 |ret u=>obtain⟨v,a,b,I,r,q⟩:=h;exact⟨v,a,b,I.cK,r,q⟩
theorem PSs.vU {st:List Stmt}(h:PSs X.vU st t):PSs X st t:=λa s b H D I c=>gj (h a s b H D (I.fP _) c) (λ_ _ q=>q.cK) λ_ _ z=>False.elim z
section
variable {X:Cx}{st:Stmt}{rest:List Stmt}{t u:TS}
def FW:TS:=λD σ H=>D.nx σ H
def vV (t u:TS):TS:=λD σ H=>t {D with nx:=u D} σ H
theorem FY:PSs X [] FW:=λ_ _ a H _ I h=>km ⟨a,H,I,h⟩
theorem FZ (c:PS X st t)(d:PSs X rest u):PSs X (st::rest) (vV t u):=by
 intro a s e H D I h;refine wpAny_execs_cons (aK (c a s e H {D with nx:=u D} I h) λf g q=>?_);cases f with
 |next=>obtain⟨b,i,j,q⟩:=q;exact d a g b i D j q
 |ret v=>exact q
 |brk=>exact q
 |cont=>exact q
theorem Inv.quiet (I:Inv X a b H s):interactive X.env=false:=by simp[interactive,I.ok.kind]
def vW (te:TE):TS:=λD σ H=>te σ H λ_ H1=>D.nx σ H1
theorem Mr (c:PE X e d)(hs:i5 e Z8 pos.line X.env=pure false:=by rfl):PS X (.Expr e pos) (vW d):=by intro a s b H D I h;exact wpAny_Expr_any (aK (c a s b H _ I h) λv j ⟨x,f,g,k,i⟩=>⟨b,f,g,i⟩) I.quiet hs
def vX (te:TE):TS:=λD σ H=>te σ H D.rt
theorem A0 (c:PE X e d):PS X (.Return (Z9 e) pos) (vX d):=by intro a s b H D I h;exact wpAny_Return_some (aK (c a s b H _ I h) λv k ⟨x,f,g,i,j⟩=>⟨x,b,f,g,i,j⟩)
def vY (c:TT)(t u:TS):TS:=λD σ H=>c σ H λb H1=>if b=Z7 then t D σ H1 else u D σ H1
theorem F1 (l:PT X c tc)(m:PSs X a t)(n:PSs X b u):PS X (.If c a b pos) (vY tc t u):=by
 intro e s f H D I h;refine wpAny_If (aK (l e s f H _ I h) λd g ⟨i,j,k⟩=>?_);cases d with
 |true=>exact m e g f i D j k
 |false=>exact n e g f i D j k
end
abbrev TG:=V->St->Hp->(St->Hp->Prop)->Prop
abbrev uQ:=List V->St->Hp->(St->Hp->Prop)->Prop
def PG (X:Cx)(target:Expr)(t:TG):Prop:=∀(pins:List (Addr×Obj)) (s:bb) (σ:St) (H:Hp) (v:V) (u:Value) (Q:St->Hp->Prop),Inv X pins σ H s->RelV v u->t v σ H Q->wpAny (model X.prog X.w) X.A (o0 target X.env u) (λ_ s'=>∃bG H',Inv X pins bG H' s'/\Q bG H') X.xe s
def PGs (X:Cx)(ts:List Expr)(t:uQ):Prop:=∀(pins:List (Addr×Obj)) (s:bb) (σ:St) (H:Hp) (vs:List V) (us:List Value) (Q:St->Hp->Prop),Inv X pins σ H s->Vals vs us->t vs σ H Q->wpAny (model X.prog X.w) X.A (assignInOrder ((gk ts X.env).map (·.2)) us) (λ_ s'=>∃bG H',Inv X pins bG H' s'/\Q bG H') X.xe s
abbrev A7:=V->V->V->Hp->(Hp->Prop)->Prop
def A9 (X:Cx)(t:A7):Prop:=∀(pins:List (Addr×Obj)) (s:bb) (σ:St) (H:Hp) (o i v:V) (ov iv u:Value) (Q:Hp->Prop),Inv X pins σ H s->RelV o ov->RelV i iv->RelV v u->t o i v H Q->wpAny (model X.prog X.w) X.A (setItem ov iv u) (λ_ s'=>∃H',Inv X pins σ H' s'/\Q H') X.xe s
def uR (i:Nat):TG:=λv σ H Q=>Q (σ.set i (Z9 v)) H
theorem Ga (hN:X.N.Nodup)(b:X.N[i]?=Z9 x)(c:Loc X.env.scope x)(d:Sto X x:=by first|exact⟨.inl rfl,nofun⟩|exact⟨.inr rfl,nofun⟩|assumption):PG X (.Name x pos) (uR i):=by intro a s f H v u Q I r h;exact pp (z5k I hN b c r (λg e=>⟨_,H,e,h⟩) d)
def Ba:uQ:=λvs σ H Q=>vs=[]/\Q σ H
def Mu (t:TG)(u:uQ):uQ:=λvs σ H Q=>∃v r,vs=v::r/\t v σ H λbG H'=>u r bG H' Q
theorem Mv:PGs X [] Ba:=by
 rintro a s b H c d Q I r ⟨rfl,h⟩
 cases r;exact assignInOrder_nil ⟨b,H,I,h⟩
theorem zhc (c:PG X e t)(d:PGs X es u)
  (hs:(gk (e::es) X.env).map (·.2)=o0 e X.env::(gk es X.env).map (·.2):=by rfl):PGs X (e::es) (Mu t u):=by
 rintro a s f H l m Q I r ⟨v,n,rfl,h⟩
 cases r with
 |cons r rr=>rw[hs];refine assignInOrder_cons (aK (c a s f H _ _ _ I r h) λ_ g ⟨b,i,j,k⟩=>?_);exact d a g b i _ _ Q j rr k
def Bb (K:Z5)(n:Nat)(t:uQ):TG:=λv σ H Q=>∃a xs,v=.ref a/\cP K H a xs/\xs.length=n/\t xs σ H Q
theorem znn (i:X.calm=Z7)(h:PGs X es t)
  (hn:(gk es X.env).length=n:=by rfl) (d:(gk es X.env).findIdx? (·.1)=none:=by rfl):PG X (.Tuple es k pos) (Bb X.K n t):=by
 rintro c s f H v u Q I r ⟨a,j,rfl,l,m,p⟩
 cases r;obtain⟨q,g,w,A⟩:=I.tuple l;refine assign_Tuple_tuple (I.ok.hd i) w (by simp[hn,<-m,g.length]) d λx y=>?_;have z:Inv X c f H {s with heap:=x}:=I.kept λb o e=>y b o (cr (bj e)) e;exact h c _ f H j _ Q z (by simpa using g) p
def jV (te:TE)(g:TG):TS:=λD σ H=>te σ H λx H1=>g x σ H1 D.nx
theorem znf (d:PE X e f)(i:PG X b g)(hs:oo [b] e pos.line X.env=pure false:=by rfl)(j:oq [b] e X.env=pure none:=by rfl)
  (k:(gk [b] X.env).map (·.2)=[o0 b X.env]:=by rfl):PS X (.Assign [b] e pos) (jV f g):=by
 intro a s c H D I h;refine wpAny_Assign_stores (aK (d a s c H _ I h) ?_) hs j
 rintro v l ⟨x,m,n,o,p⟩
 rw[k];exact aK (i a l c m x v _ n o p) λ_ r q=>q
theorem zec (hN:X.N.Nodup)(c:X.N[i]?=Z9 x)(d:Loc X.env.scope x)(f:PE X e g)(hs:i5 e (Z9 (.Name x a)) pos.line X.env=pure false:=by rfl)(j:Sto X x:=by first|exact⟨.inl rfl,nofun⟩|exact⟨.inr rfl,nofun⟩|assumption):
  PS X (.Assign [.Name x a] e pos) (jV g (uR i)):=by
 intro b s k H D I h;refine wpAny_Assign_Name (aK (f b s k H _ I h) ?_) hs
 rintro v q ⟨y,l,m,n,o⟩
 exact z5k m hN c d n (λr p=>⟨_,l,p,o⟩) j
def Gb (c:TT)(tb:TS):TS:=λD σ H=>∃W:Nat->St->Hp->Prop,(∃m,W m σ H)/\∀m σ H,W m σ H->c σ H λb H1=>if b=Z7 then ∃N:St->Hp->Prop,(∀bG H',N bG H'->∃m',m'<m/\W m' bG H')/\tb {D with nx:=N,ct:=N,bk:=D.nx} σ H1 else D.nx σ H1
theorem Ge (q:gc (model X.prog X.w) X.A X.env X.xe)(y:PT X c tc)(z:PSs X g B):PS X (.While c g [] pos) (Gb tc B):=by
 rintro a s C H D I ⟨W,⟨E,F⟩,h⟩
 refine wpAny_While (codeAny_whileLoop (λn G=>∃i r,Inv X a i r G/\W n i r) ?_ E ⟨C,H,I,F⟩)
 rintro n J ⟨e,t,K,L⟩
 refine g6 q (aK (y a J e t _ K (h n e t L)) λb M ⟨u,x,k⟩=>?_);cases b with
 |true=>
  obtain⟨N,hN,k⟩:=k;refine g6 q (aK (z a M e u _ x k) λf O l=>?_);cases f with
  |next=>obtain⟨d,j,m,n3⟩:=l;obtain⟨o,hm,p⟩:=hN d j n3;exact⟨o,hm,d,j,m,p⟩
  |cont=>obtain⟨d,j,m,n3⟩:=l;obtain⟨o,hm,p⟩:=hN d j n3;exact⟨o,hm,d,j,m,p⟩
  |brk=>exact l
  |ret v=>exact l
 |false=>exact km ⟨e,u,x,k⟩
structure It where
 go:Nat->Hp->Prop
 gR:Nat->Hp->V->Hp->Prop
 stop:Nat->Hp->Prop
def FpOk (X:Cx)(pins:List (Addr×Obj))(H:Hp)(b:Addr):Prop:=H b=Z8/\b≠X.env.locals/\b∉X.fs/\(b∈X.ex\/X.s₀.heap.objs.size<=b)/\(∀x c,X.env.cells.lookup x=Z9 c->c≠b)/\∀p∈X.pn++pins,p.1≠b
theorem Inv.gX (I:Inv X a h H s)(d:s.heap.objs.size<=b)(hn:f b=Z8):FpOk X a f b:=by
 refine⟨hn,Nat.ne_of_gt (ci I.lt d),I.vQ d,.inr (bq I.sz d),λx c e z=>?_,λp g z=>?_⟩
 .obtain⟨v,q⟩:=I.cell x c e;exact absurd (ci q.lt (z▸d)) (cx _)
 .exact absurd (ci (bj (I.pin p g).1) (z▸d)) (cx _)
structure Turn (P:cu)(w:World)(K:Z5)(tg:Expr)(J:It)(fp:List Addr)(it:Addr)(tn:Nat->Heap->Prop):Prop where
 mem:it∈fp
 obj:∀i h,tn i h->∀b∈fp,∃o,h.get? b=Z9 o/\∀v,o.data≠.cell v
 keep:∀i h h',tn i h->(∀b∈fp,∀o,h.get? b=Z9 o->h'.get? b=Z9 o)->tn i h'
 item:∀(X:Cx),X.prog=P->X.w=w->X.K=K->X.calm=Z7->∀(i:Nat) (pins:List (Addr×Obj)) (s:bb) (σ:St) (H:Hp) (E:Value->bb->Prop),Inv X pins σ H s->(∀b∈fp,FpOk X pins H b)->tn i s.heap->J.go i H->wpAny (model P w) X.A (pyNext (.ref it)) (λr s1=>∃u,r=Z9 u/\wpAny (model P w) X.A (ko tg (.ref it) u) (λ_ s2=>∃x H',Inv X pins σ H' s2/\RelV x u/\J.gR i H x H'/\tn (i+1) s2.heap/\∀b∈fp,H' b=Z8) E s1) E s
 done:∀(X:Cx),X.prog=P->X.w=w->X.K=K->X.calm=Z7->∀(i:Nat) (pins:List (Addr×Obj)) (s:bb) (σ:St) (H:Hp) (E:Value->bb->Prop),Inv X pins σ H s->(∀b∈fp,FpOk X pins H b)->tn i s.heap->J.stop i H->wpAny (model P w) X.A (pyNext (.ref it)) (λr s1=>r=Z8/\Inv X pins σ H s1) E s
 self:∀(A:gi) (i:Nat) (s:bb) (Q:Value->bb->Prop) (E:Value->bb->Prop),tn i s.heap->Q (.ref it) s->wpAny (model P w) A (qq (.ref it)) Q E s
abbrev TI:=St->Hp->(It->Hp->Prop)->Prop
def vZ (X:Cx)(pins:List (Addr×Obj))(σ:St)(tg:Expr)(R:It->Hp->Prop)(wa:Value)(s2:bb):Prop:=∃(it:Addr) (fp:List Addr) (tn:Nat->Heap->Prop) (J:It) (H':Hp),wa=.ref it/\Inv X pins σ H' s2/\Turn X.prog X.w X.K tg J fp it tn/\tn 0 s2.heap/\(∀b∈fp,FpOk X pins H' b)/\R J H'
def PI (X:Cx)(tg iter:Expr)(wi:TI):Prop:=∀(pins:List (Addr×Obj)) (s:bb) (σ:St) (H:Hp) (R:It->Hp->Prop),Inv X pins σ H s->wi σ H R->wpAny (model X.prog X.w) X.A (eval iter X.env) (λv s1=>wpAny (model X.prog X.w) X.A (qq v) (vZ X pins σ tg R) X.xe s1) X.xe s
theorem zm9 (b:s.heap.get? it=Z9 o)(c:o.cls=.type n)(hd:o.data=.fields d)
  (hn:["enumerate","zip","dict_itemiterator","dict_reverseitemiterator","odict_iterator","itertools.zip_longest","itertools.pairwise"].contains n=Z6) (a:Q () s):wpAny M A (ko e (.ref it) u) Q E s:=by
 cases e<;>first
  |exact bt a
  |(cases u<;>first
   |exact bt a
   |(refine am (wpAny_load b ?_)
     rw[c,hd];show wpAny M A (if(["enumerate","zip","dict_itemiterator","dict_reverseitemiterator","odict_iterator","itertools.zip_longest","itertools.pairwise"].contains n&&d[0]?==Z9 (kq _))=Z7 then _ else _) Q E s;rw[sg (by intro h;rw[hn]at h;cases h)];exact bt a))
def Bc (K:Z5)(a:Addr):It:=⟨λi H=>∃xs x,SqL K H a xs/\xs[i]?=Z9 x,λi H x H'=>H'=H/\∀xs,SqL K H a xs->xs[i]?=Z9 x,λi H=>∃xs,SqL K H a xs/\xs.length<=i⟩
def Gf (K:Z5)(a:Addr):It:=⟨λi H=>∃xs x,cP K H a xs/\xs[i]?=Z9 x,λi H x H'=>H'=H/\∀xs,cP K H a xs->xs[i]?=Z9 x,λi H=>∃xs,cP K H a xs/\xs.length<=i⟩
def wb (lo:Int)(n:Nat):It:=⟨λi _=>i<n,λi H x H'=>H'=H/\x=.int (lo+i),λi _=>n<=i⟩
theorem Gg {K:Z5}(a it:Addr):Turn P w K tg (Bc K a) [it] it (λi h=>h.IsListIter it a i) where
 mem:=by simp
 obj:=λi h st b g=>by
  have e:b=it:=by simpa using g
  subst e;obtain⟨o,e,c,d⟩:=st;exact⟨o,e,λv z=>by rw[d]at z;cases z⟩
 keep:=λi h n st k=>st.at λo e=>k it (by simp) o e
 item:=by intro X q r t M i f s N H E I l st y;subst q r t;obtain⟨O,x,m,A⟩:=y;obtain⟨B,C,p,Q⟩:=I.list m;obtain⟨u,hu,R⟩:=C.get A;obtain⟨D,F,S,G,J,L⟩:=l it (by simp);refine wpAny_pyNext_list_item st p.isList (by simpa using hu) λn j T=>?_;have U:Inv X f N H {s with heap:=n}:=I.turned (λb o g e=>(T.2 b g).trans e) D F G J L;obtain⟨o,e,c,d⟩:=id j;exact⟨u,rfl,zm9 e c d dc ⟨x,H,U,R,⟨rfl,λys V=>by rw[I.lS V m];exact A⟩,j,λb g=>(l b g).1⟩⟩
 done:=by intro X q r t M i f s N H E I l st y;subst q r t;obtain⟨O,m,A⟩:=y;obtain⟨B,C,p,Q⟩:=I.list m;obtain⟨D,F,S,G,J,L⟩:=l it (by simp);have hl:=C.length;exact wpAny_pyNext_list_end (I.ok.hd M) st p.isList (by grind) λn Y=>⟨rfl,I.turned (λb o g e=>Y b o g e) D F G J L⟩
 self:=λ_ _ _ _ _ st h=>wpAny_pyIter_listiter st h
theorem Mw {K:Z5}(a it:Addr):Turn P w K tg (Gf K a) [it] it (λi h=>h.IsTupleIter it a i) where
 mem:=by simp
 obj:=λi h st b g=>by
  have e:b=it:=by simpa using g
  subst e;obtain⟨o,e,c,d⟩:=st;exact⟨o,e,λv z=>by rw[d]at z;cases z⟩
 keep:=λi h n st k=>st.at λo e=>k it (by simp) o e
 item:=by intro X q r t M i f s N H E I l st y;subst q r t;obtain⟨O,x,m,A⟩:=y;obtain⟨B,C,p,Q⟩:=I.tuple m;obtain⟨u,hu,R⟩:=C.get A;obtain⟨D,F,S,G,J,L⟩:=l it (by simp);refine wpAny_pyNext_tuple_item st p (by simpa using hu) λn j T=>?_;have U:Inv X f N H {s with heap:=n}:=I.turned (λb o g e=>(T.2 b g).trans e) D F G J L;obtain⟨o,e,c,d⟩:=id j;exact⟨u,rfl,zm9 e c d dc ⟨x,H,U,R,⟨rfl,λys V=>by rw[I.jU V m];exact A⟩,j,λb g=>(l b g).1⟩⟩
 done:=by intro X q r t M i f s N H E I l st y;subst q r t;obtain⟨O,m,A⟩:=y;obtain⟨B,C,p,Q⟩:=I.tuple m;obtain⟨D,F,S,G,J,L⟩:=l it (by simp);have hl:=C.length;exact wpAny_pyNext_tuple_end (I.ok.hd M) st p (by grind) λn Y=>⟨rfl,I.turned (λb o g e=>Y b o g e) D F G J L⟩
 self:=λ_ _ _ _ _ st h=>wpAny_pyIter_tupleiter st h
theorem Mx {K:Z5}(it:Addr)(f:Int)(n:Nat):Turn P w K M (wb f n) [it] it (λi h=>IsRangeIter h it (f+(i:Nat)*1) ((n:Int)-(i:Nat)) 1) where
 mem:=by simp
 obj:=λi h st b c=>by
  have e:b=it:=by simpa using c
  subst e;exact⟨_,st,λv z=>by cases z⟩
 keep:=λi h j st k=>k it (by simp) _ st
 item:=by intro X y A B l i a s C H E I g st m;subst y A B;obtain⟨p,q,D,r,u,x⟩:=g it (by simp);refine(Walks.range (prog:=X.prog) (w:=X.w) (I.ok.hd l) it f 1 n).item i s _ _ m st λv j F G d kk=>?_;obtain⟨t,rfl⟩:=G;have J:Inv X a C H {s with heap:=j,toks:=F}:=I.turned (λb o c e=>kk b o (by simpa using c) e) p q r u x;refine⟨_,rfl,zm9 d rfl rfl dc ⟨.int (f+i),H,J,⟨t,?_⟩,⟨rfl,rfl⟩,d,λb c=>(g b c).1⟩⟩;rw[Int.mul_one]
 done:=by intro X y A B l i a s C H E I g st m;obtain⟨p,q,D,r,u,x⟩:=g it (by simp);exact wpAny_pyNext_range_end (I.ok.hd l) st (by have:n<=i:=m;omega) λj L=>⟨rfl,I.turned (λb o c e=>L b o c e) p q r u x⟩
 self:=λ_ _ _ _ _ st h=>wpAny_pyIter_rangeiter st h
def Bd (K:Z5)(tl:TE):TI:=λσ H R=>tl σ H λx H1=>∃a,x=.ref a/\(∃xs,SqL K H1 a xs)/\R (Bc K a) H1
theorem My (g:PE X l tl):PI X u l (Bd X.K tl):=by
 intro c s i H R I h;refine aK (g c s i H _ I h) ?_
 rintro v f ⟨x,j,d,k,m⟩
 obtain⟨a,rfl,⟨w,n⟩,q⟩:=m;cases k;obtain⟨r,y,p,z⟩:=d.list n;refine lu p.isList (⟨f.heap.objs.size,[f.heap.objs.size],_,_,j,rfl,d.kept λb o e=>aw _ e,Gg a _,⟨_,bu _ rfl,rfl,rfl⟩,λb t=>?_,q⟩);have e:b=f.heap.objs.size:=by simpa using t
 subst e;exact d.gX (ae _) (d.hok.fresh (ae _))
theorem zag {a:Int}(I:Inv X d g H s)(h:-(2 ^ 62)<=a)(i:a<2 ^ 62)(j:-(2 ^ 62)<=c)(k:c<2 ^ 62)
  (q:R (wb a (c-a).toNat) H):wpAny (model X.prog X.w) X.A (qq (.ref s.heap.objs.size)) (vZ X d g p R) E {s with heap:=s.heap.push {cls:=.type "range",data:=.fields #[.int a t,.int c u,.int 1 v]},toks:=tk}:=by
 refine wpAny_pyIter_range (IsRange.new ..) (small_one h i j k) ?_;have f:Inv X d g H {s with heap:=s.heap.push {cls:=.type "range",data:=.fields #[.int a t,.int c u,.int 1 v]},toks:=tk}:=I.kept λb o e=>aw _ e;refine⟨(s.heap.push {cls:=.type "range",data:=.fields #[.int a t,.int c u,.int 1 v]}).objs.size,[(s.heap.push {cls:=.type "range",data:=.fields #[.int a t,.int c u,.int 1 v]}).objs.size],_,_,H,rfl,f.kept λb o e=>aw _ e,Mx _ a (c-a).toNat,?_,λb l=>?_,q⟩
 .have m:a+((0:Nat):Int)*1=a:=by simp
  have n:(((c-a).toNat:Nat):Int)-((0:Nat):Int)=Builtin.Range.rangeSize a c 1:=by rw[rangeSize_one];split<;>omega
  rw[m,n];exact bu _ rfl
 .have e:b=(s.heap.push {cls:=.type "range",data:=.fields #[.int a t,.int c u,.int 1 v]}).objs.size:=by simpa using l
  subst e;exact f.gX (ae _) (f.hok.fresh (ae _))
def Mz (ta:TA):TI:=λσ H R=>ta σ H λvs H1=>∃j:Int,vs=[.int j]/\-(2 ^ 62)<=j/\j<2 ^ 62/\R (wb 0 j.toNat) H1
def MA (ta:TA):TI:=λσ H R=>ta σ H λvs H1=>∃i j:Int,vs=[.int i,.int j]/\(-(2 ^ 62)<=i/\i<2 ^ 62/\-(2 ^ 62)<=j/\j<2 ^ 62)/\R (wb i (j-i).toNat) H1
theorem MB (d:Gl X "range")(hm:X.mg "range"=Z8)(e:PA X [a] f)(hs:dk [a] X.env=[(Z6,eval a X.env)]:=by rfl):PI X tg (.Call (.Name "range" p) [a] [] pos) (Mz f):=by
 intro b s g H R I h;refine Call_ (z2g I d hm boot_range (PyProof.Rows.callWith_type1 (aK (e pos b s g H _ I h) λm n ⟨o,u,i,k,c⟩=>?_) hs rfl));obtain⟨j,rfl,c,l,q⟩:=c;cases k with
 |cons r rr=>cases rr;obtain⟨t,rfl⟩:=r;exact call_range_1 (zag i (by omega) (by omega) c l (by simpa using q))
theorem zeh (f:Gl X "range")(hm:X.mg "range"=Z8)(g:PA X [a,b] k)(hs:dk [a,b] X.env=[(Z6,eval a X.env),(Z6,eval b X.env)]:=by rfl)(c:dk [b] X.env=[(Z6,eval b X.env)]:=by rfl):
  PI X tg (.Call (.Name "range" p) [a,b] [] pos) (MA k):=by
 intro d s l H R I h;refine Call_ (z2g I f hm boot_range (PyProof.Rows.callWith_type1 (aK (g pos d s l H _ I h) λx y ⟨z,A,m,n,e⟩=>?_) (by rw[hs,c]) (by rw[c];rfl)));obtain⟨i,j,rfl,⟨e,o,u,v⟩,q⟩:=e;cases n with
 |cons r rr=>
  cases rr with
  |cons w rr=>cases rr;obtain⟨t,rfl⟩:=r;obtain⟨B,rfl⟩:=w;exact call_range_2 (zag m e o u v q)
def lT (wi:TI)(g:TG)(tb:TS):TS:=λD σ H=>wi σ H λJ H1=>∃W:Nat->Nat->St->Hp->Prop,(∃m,W 0 m σ H1)/\∀i m σ H,W i m σ H->(J.stop i H/\D.nx σ H)\/(J.go i H/\∃N:St->Hp->Prop,(∀bG H',N bG H'->∃m',m'<m/\W (i+1) m' bG H')/\∀x H',J.gR i H x H'->g x σ H' λwc H2=>tb {D with nx:=N,ct:=N,bk:=D.nx} wc H2)
def z7w (fp:List Addr)(h:Heap):List (Addr×Obj):=fp.filterMap λb=>(h.get? b).map λo=>(b,o)
theorem uS (a:b∈c)(e:h.get? b=Z9 o):(b,o)∈z7w c h:=fq.mpr ⟨b,a,by rw[e];rfl⟩
theorem MC (a:p∈z7w c h):p.1∈c/\h.get? p.1=Z9 p.2:=by
 obtain⟨b,d,e⟩:=fq.mp a;cases q:h.get? b with
 |none=>rw[q]at e;cases e
 |some o=>rw[q]at e;have f:=si e;subst f;exact⟨d,q⟩
theorem Inv.pinned (I:Inv X a h H s)(i:∀b∈c,FpOk X a H b)(j:∀b∈c,∃o,s.heap.get? b=Z9 o/\∀v,o.data≠.cell v):Inv X (a++z7w c s.heap) h H s:=I.gK λp k=>(bw.mp k).elim (λz=>I.pin p (bf _ z)) λz=>by obtain⟨f,e⟩:=MC z;obtain⟨l,m,n,_⟩:=i p.1 f;obtain⟨o,g,d⟩:=j p.1 f;rw[e]at g;cases g;exact⟨e,l,m,n,d⟩
theorem Inv.bW (I:Inv X (a++pl) b H s):Inv X a b H s:=I.gK λp c=>I.pin p (bf _ (dt _ c))
theorem zea (F:gc (model X.prog X.w) X.A X.env X.xe)(Z:X.calm=Z7)(hi:PI X tg B wi)(hg:PG X tg g)(j:PSs X G tb)
  (hs:∀x,ge B X.env x=pure x:=by intro _;rfl):PS X (.For tg B G [] pos) (lT wi g tb):=by
 intro a s σ H D I h;refine wpAny_For (aK (hi a s σ H _ I h) λv s1 h1=>aK h1 λwa s2 h2=>?_) hs;obtain⟨it,K,tn,J,H2,rfl,I2,T,R,f2,W,⟨m0,w0⟩,L⟩:=h2;have k:∀{z:Hp},(∀b∈K,z b=Z8)->∀b∈K,FpOk X a z b:=λhn b j=>⟨hn b j,(f2 b j).2⟩;refine codeAny_forLoop_any (λn s'=>∃i l z,Inv X a l z s'/\tn i s'.heap/\(∀b∈K,z b=Z8)/\W i n l z) ?_ m0 ⟨0,σ,H2,I2,R,λb j=>(f2 b j).1,w0⟩
 rintro n s3 ⟨i,p,Q,I3,M,O,w3⟩
 rcases L i n p Q w3 with⟨stop,qn⟩|⟨go,N,hN,step⟩
 .refine g6 F (aK (T.done X rfl rfl rfl Z i a s3 p Q X.xe I3 (k O) M stop) λr s4 ⟨S,I4⟩=>?_);subst S;exact km ⟨p,Q,I4,qn⟩
 .refine g6 F (aK (T.item X rfl rfl rfl Z i a s3 p Q X.xe I3 (k O) M go) λr s4 ⟨u,S,h4⟩=>?_);subst S;refine g6 F (aK h4 ?_)
  rintro _ s5 ⟨x,H5,I5,r5,y5,E,U⟩
  refine g6 F (aK (hg _ s5 p H5 x u _ (I5.pinned (k U) (T.obj _ _ E)) r5 (step x H5 y5)) λ_ s6 ⟨V,H6,I6,q6⟩=>?_);refine g6 F (aK (j _ s6 V H6 _ I6 q6) λf Y C=>?_);have q:∀{c:St} {t:Hp},Inv X (a++z7w K s5.heap) c t Y->N c t->∃m,m<n/\∃i l z,Inv X a l z Y/\tn i Y.heap/\(∀b∈K,z b=Z8)/\W i m l z:=λ{c t} y P=>by obtain⟨m',hm,w7⟩:=hN c t P;refine⟨m',hm,i+1,c,t,y.bW,T.keep _ _ _ E λb j o e=>(y.pin (b,o) (bf _ (bf _ (uS j e)))).1,λb j=>?_,w7⟩;obtain⟨o,e,d⟩:=T.obj _ _ E b j;exact(y.pin (b,o) (bf _ (bf _ (uS j e)))).2.1
  cases f with
  |next=>obtain⟨c,t,y,P⟩:=C;exact q y P
  |cont=>obtain⟨c,t,y,P⟩:=C;exact q y P
  |brk=>obtain⟨c,t,y,C⟩:=C;exact⟨c,t,y.bW,C⟩
  |ret v=>obtain⟨x7,c,t,y,r7,C⟩:=C;exact⟨x7,c,t,y.bW,r7,C⟩
abbrev R2:=V->V->Hp->VK->Prop
def OpR (X:Cx)(f:Value->Value->Sem Value)(r:R2):Prop:=∀(pins:List (Addr×Obj)) (s:bb) (σ:St) (H:Hp) (x y:V) (v u:Value) (Q:VK),Inv X pins σ H s->RelV x v->RelV y u->r x y H Q->wpAny (model X.prog X.w) X.A (f v u) (EP X pins σ Q) X.xe s
def Be (X:Cx)(f:Value->Sem Value)(r:V->Hp->VK->Prop):Prop:=∀(pins:List (Addr×Obj)) (s:bb) (σ:St) (H:Hp) (x:V) (v:Value) (Q:VK),Inv X pins σ H s->RelV x v->r x H Q->wpAny (model X.prog X.w) X.A (f v) (EP X pins σ Q) X.xe s
def CallR (X:Cx)(f:Value)(r:List V->Hp->VK->Prop):Prop:=∀(pins:List (Addr×Obj)) (s:bb) (σ:St) (H:Hp) (xs:List V) (us:List Value) (Q:VK),Inv X pins σ H s->Vals xs us->r xs H Q->wpAny (model X.prog X.w) X.A (call f us) (EP X pins σ Q) X.xe s
def Bf (X:Cx)(r:V->Hp->(Bool->Hp->Prop)->Prop):Prop:=∀(pins:List (Addr×Obj)) (s:bb) (σ:St) (H:Hp) (x:V) (v:Value) (Q:Bool->Hp->Prop),Inv X pins σ H s->RelV x v->r x H Q->wpAny (model X.prog X.w) X.A (truthy v) (TP X pins σ Q) X.xe s
def jK (r:R2)(ta tb:TE):TE:=λσ H Q=>ta σ H λx H1=>tb σ H1 λy H2=>r x y H2 Q
def MD (r:V->Hp->VK->Prop)(ta:TE):TE:=λσ H Q=>ta σ H λx H1=>r x H1 Q
def rI (C:Int->Int->Prop)(g:Int->Int->V):R2:=λx y H Q=>∃i j,x=.int i/\y=.int j/\C i j/\Q (g i j) H
def lB (g:Int->Int->V):R2:=λx y H Q=>∃i j,x=.int i/\y=.int j/\Q (g i j) H
def rU (g:Int->V):V->Hp->VK->Prop:=λx H Q=>∃i,x=.int i/\Q (g i) H
theorem binT (l:PE X a m)(n:PE X b o){R:V->V->Hp->Prop}(I:Inv X c e H s)
  (h:m e H λx k=>o e k λy d=>R x y d) {f:Value->Value->Sem Value}
  (p:∀v u j x y d,Inv X c e d j->RelV x v->RelV y u->R x y d->wpAny (model X.prog X.w) X.A (f v u) Q X.xe j):
  wpAny (model X.prog X.w) X.A (eval a X.env) (λv g=>wpAny (model X.prog X.w) X.A (eval b X.env) (λu i=>wpAny (model X.prog X.w) X.A (f v u) Q X.xe i) X.xe g) X.xe s:=by
 exact aK (l c s e H _ I h) λv q ⟨x,k,r,t,z⟩=>aK (n c q e k _ r z) λu j ⟨y,d,B,C,D⟩=>p v u j x y d B t C D
theorem ME (d:OpR X (i0 e) r)(f:PE X a g)(i:PE X b j):PE X (.BinOp a e b pos) (jK r g j):=by intro c s k H Q I h;exact wpAny_BinOp (binT f i I h λv u l x y m n o p q=>d c l k m x y v u Q n o p q)
theorem MF (d:Be X (unaryOp e) r)(f:PE X a g):PE X (.UnaryOp e a pos) (MD r g):=by intro b s c H Q I h;exact UnaryOp_ (aK (f b s c H _ I h) λv i ⟨x,j,k,l,m⟩=>d b i c j x v Q k l m)
theorem opI {g:Int->Int->Int}
  (a:∀i j t u s Q E,C i j->Q (.int (g i j) s.toks) {s with toks:=s.toks+1}->wpAny (model X.prog X.w) X.A (f (.int i t) (.int j u)) Q E s):
  OpR X f (rI C λi j=>.int (g i j)):=by
 rintro b s k H x y v u Q I c d ⟨i,j,rfl,rfl,e,q⟩
 obtain⟨t,rfl⟩:=c;obtain⟨h,rfl⟩:=d;exact a i j t h s _ _ e ⟨.int (g i j),H,I.tok _,⟨_,rfl⟩,q⟩
theorem opI0 {g:Int->Int->Int}
  (a:∀i j t u s Q E,Q (.int (g i j) s.toks) {s with toks:=s.toks+1}->wpAny (model X.prog X.w) X.A (f (.int i t) (.int j u)) Q E s):
  OpR X f (lB λi j=>.int (g i j)):=by
 rintro b s h H x y v u Q I c d ⟨i,j,rfl,rfl,q⟩
 obtain⟨t,rfl⟩:=c;obtain⟨e,rfl⟩:=d;exact a i j t e s _ _ ⟨.int (g i j),H,I.tok _,⟨_,rfl⟩,q⟩
theorem opB0 {g:Int->Int->Bool}
  (a:∀i j t u s Q E,Q (.bool (g i j)) s->wpAny (model X.prog X.w) X.A (f (.int i t) (.int j u)) Q E s):
  OpR X f (lB λi j=>.bl (g i j)):=by
 rintro b s h H x y v u Q I c d ⟨i,j,rfl,rfl,q⟩
 obtain⟨t,rfl⟩:=c;obtain⟨e,rfl⟩:=d;exact a i j t e s _ _ ⟨.bl (g i j),H,I,rfl,q⟩
def Bg (i j:Int):Prop:=0<=j/\j<=1000000/\i.natAbs<2 ^ 64
def sI (i j:Int):Prop:=(-(2 ^ 64)<i/\i<2 ^ 64)\/(-(2 ^ 64)<j/\j<2 ^ 64)
theorem sI.ok (h:sI i j):IntMulOk i j:=by
 rcases h with⟨a,b⟩|⟨a,b⟩
 .exact .of_left (intBits_le_64 a b)
 .exact .of_right (intBits_le_64 a b)
theorem MG:OpR X (i0 .Add) (lB λi j=>.int (i+j)):=opI0 λ_ _ _ _ _ _ _ q=>add_int q
theorem MH:OpR X (i0 .Sub) (lB λi j=>.int (i-j)):=opI0 λ_ _ _ _ _ _ _ q=>sub_int q
theorem MI:OpR X (i0 .Mult) (rI sI λi j=>.int (i*j)):=opI λ_ _ _ _ _ _ _ a q=>mul_int q a.ok
theorem MJ:OpR X (i0 .Mod) (rI (λ_ j=>0<j) λi j=>.int (i%j)):=opI λi j _ _ _ _ _ a q=>by exact mod_int' (by omega) (by rw[Int.fmod_eq_emod_of_nonneg i (by omega)];exact q)
theorem MK:OpR X (i0 .Pow) (rI Bg λi j=>.int (i ^ j.toNat)):=opI λ_ _ _ _ _ _ _ a q=>pow_int_small a.1 a.2.1 a.2.2 q
theorem unI {g:Int->Int}
  (a:∀i t s Q E,Q (.int (g i) s.toks) {s with toks:=s.toks+1}->wpAny (model X.prog X.w) X.A (f (.int i t)) Q E s):
  Be X f (rU λi=>.int (g i)):=by
 rintro b s d H x v Q I c ⟨i,rfl,q⟩
 obtain⟨t,rfl⟩:=c;exact a i t s _ _ ⟨.int (g i),H,I.tok _,⟨_,rfl⟩,q⟩
theorem ML:Be X (unaryOp .USub) (rU λi=>.int (-i)):=unI λ_ _ _ _ _ q=>neg_int q
theorem MM:OpR X (dr .Lt) (lB λi j=>.bl (decide (i<j))):=opB0 λ_ _ _ _ _ _ _ q=>lt_int q
theorem MN:OpR X (dr .LtE) (lB λi j=>.bl (decide (i<=j))):=opB0 λ_ _ _ _ _ _ _ q=>le_int q
theorem MO:OpR X (dr .Gt) (lB λi j=>.bl (decide (j<i))):=opB0 λ_ _ _ _ _ _ _ q=>gt_int q
theorem OpR.or (h:OpR X f r)(e:OpR X f g):OpR X f (λx y H Q=>r x y H Q\/g x y H Q):=by
 intro a s b H x y v u Q I c d q;rcases q with q|q
 .exact h a s b H x y v u Q I c d q
 .exact e a s b H x y v u Q I c d q
theorem Gh (e:OpR X (dr d) r)(f:PE X a g)(i:PE X b j)(hm:dw d b=Z6):PE X (.Compare a [d] [b] pos) (jK r g j):=by intro c s k H Q I h;exact wpAny_Compare1 (binT f i I h λv u l x y m n o p q=>e c l k m x y v u Q n o p q) hm
def qL (t:TE):TT:=λσ H Q=>t σ H λx H'=>∃k,x=.bl k/\Q k H'
theorem Gi (i:OpR X (dr g) r)(j:PE X a l)(m:PE X b n)(hm:dw g b=Z6):PT X (.Compare a [g] [b] pos) (qL (jK r l n)):=by intro d s f H Q I h;refine m9 (aK (j d s f H _ I h) λv o ⟨x,p,q,t,w⟩=>aK (m d o f p _ q w) λu A ⟨y,B,C,D,E⟩=>aK (i d A f B x y v u _ C t D E) λc L ⟨z,F,G,J,k,e,K⟩=>?_) hm;subst e;cases J;exact gb ⟨F,G,K⟩
def Bh (r r':R2)(ta tb tc:TE):TE:=λσ H Q=>ta σ H λx H1=>tb σ H1 λy H2=>r x y H2 λz H3=>∃k,z=.bl k/\(if k=Z7 then tc σ H3 λw' H4=>r' y w' H4 Q else Q (.bl Z6) H3)
theorem zgo (q:OpR X (dr l) r)(j:OpR X (dr g) t)(w:PE X a A)(B:PE X b C)(D:PE X c tc)
  (hm:lastMarks [l,g] [b,c]=false:=by with_unfolding_all rfl):PT X (.Compare a [l,g] [b,c] pos) (qL (Bh r t A C tc)):=by
 intro f s i H Q I h;refine isTrue_chain (aK (w f s i H _ I h) λv E ⟨x,F,G,J,K⟩=>test_link (aK (B f E i F _ G K) λu L ⟨y,M,N,m,O⟩=>aK (q f L i M x y v u _ N J m O) λd P ⟨z,n,o,R,k,e,p⟩=>?_)) hm;subst e;cases R;refine gb ?_;cases k with
 |false=>obtain⟨k',S,T⟩:=p;cases S;exact ite_ff ⟨n,o,T⟩
 |true=>
  refine ite_tt (test_last (aK (D f P i n _ o p) λU V ⟨W,Y,Z,r4,q4⟩=>aK (j f V i Y y W u U _ Z m r4 q4) ?_))
  rintro d' s5 ⟨z2,H5,I5,r5,k2,e2,q5⟩
  subst e2;cases r5;exact gb ⟨H5,I5,q5⟩
def lU (K:Z5)(x:V)(H:Hp)(k:Bool):Prop:=
 match x with
 |.aM=>k=Z6
 |.bl b=>k=b
 |.int i=>k=(i != 0)
 |.str y=>y.length<=ba/\k=((y.length:Int) != 0)
 |.ref p=>(∃xs,SqL K H p xs/\k=!xs.isEmpty)\/(∃xs,cP K H p xs/\k=!xs.isEmpty)\/∃kvs,H p=Z9 (.dK kvs)/\k=!kvs.isEmpty
 |_=>False
theorem MP (r:KV kvs a):(!a.isEmpty)=!kvs.isEmpty:=by cases r<;>rfl
theorem Gj (r:Vals b a):(!a.toArray.isEmpty)=!b.isEmpty:=by cases r<;>simp
theorem sJ:(ba:Nat)<2 ^ 63:=by rw[db];decide
theorem Gk:Bf X (λx H Q=>∃k,lU X.K x H k/\Q k H):=by
 rintro h s o H x v Q I d ⟨k,e,q⟩
 have u:=sJ;cases x with
 |aM=>cases d;have a:=e;subst a;exact truthy_none ⟨H,I,q⟩
 |bl b=>cases d;have a:=e;subst a;exact gb ⟨H,I,q⟩
 |int i=>obtain⟨t,rfl⟩:=d;have a:=e;subst a;exact PySem.P.truthy_int ⟨H,I,q⟩
 |str y=>obtain⟨t,rfl⟩:=d;obtain⟨w,rfl⟩:=e;exact PySem.P.truthy_str (by omega) ⟨H,I.tok _,q⟩
 |ref p=>
  cases d;have a:=e;rcases a with⟨l,f,a⟩|⟨l,f,a⟩|⟨kvs,f,a⟩
  .subst a;obtain⟨g,r,pl,j⟩:=I.list f;have c:=r.length;exact wpAny_truthy_list pl.isList (by grind) ⟨H,I.tok _,by rw[Gj r];exact q⟩
  .subst a;obtain⟨g,r,pl,j⟩:=I.tuple f;have c:=r.length;exact truthy_tuple pl (by grind) ⟨H,I.tok _,by rw[Gj r];exact q⟩
  .subst a;obtain⟨j,n,z,r,m⟩:=I.hok p _ f;have c:=Paired.length r;exact wpAny_truthy_dict n m (by omega) ⟨H,I.tok _,by rw[MP r];exact q⟩
 |_=>exact e.elim
theorem za6 (f:PE X a g)(i:∀b,qp a X.env b=(do let v <-b;standAt a.pos;holding [v] (truthy v))):
  PT X a (λd H Q=>g d H λx e=>∃k,lU X.K x e k/\Q k e):=by
 intro c s d H Q I h;exact isTrue_plain (aK (f c s d H _ I h) λv j ⟨x,l,m,n,o⟩=>Gk c j d l x v Q m n o) (i _)
theorem MQ:OpR X (i0 .Add) (λx y H Q=>∃i j,x=.str i/\y=.str j/\i.length+j.length<=ba/\Q (.str (i++j)) H):=by
 rintro a s f H x y v u Q I b c ⟨i,j,rfl,rfl,d,q⟩
 obtain⟨t,rfl⟩:=b;obtain⟨e,rfl⟩:=c;exact add_str (λe g=>⟨.str (i++j),H,I.tok _,⟨_,rfl⟩,q⟩) d
theorem vals1 (r:Vals [x] a):∃u,a=[u]/\RelV x u:=by
 cases r with
 |cons b c=>cases c;exact⟨_,rfl,b⟩
theorem vals2 (r:Vals [x,y] b):∃u a,b=[u,a]/\RelV x u/\RelV y a:=by
 cases r with
 |cons c d=>
  cases d with
  |cons e f=>cases f;exact⟨_,_,rfl,c,e⟩
theorem MR (d:X.calm=Z7):CallR X (.builtin "min") (λb H Q=>∃i j,b=[.int i,.int j]/\Q (.int (if j<i then j else i)) H):=by
 rintro c s e H b f Q I r ⟨i,j,rfl,q⟩
 obtain⟨u,g,rfl,⟨t,rfl⟩,h,rfl⟩:=vals2 r;refine min_two_ints (I.ok.hd d) λl m k=>⟨_,H,I.kept k,?_,q⟩;by_cases a:j<i
 .rw[sf a,sf a];exact⟨_,rfl⟩
 .rw[sg a,sg a];exact⟨_,rfl⟩
theorem MS:CallR X (.type "int") (λa H Q=>(∃i,a=[.int i]/\Q (.int i) H)\/∃k,a=[.bl k]/\Q (.int (if k then 1 else 0)) H):=by
 intro b s c H a d Q I r h;rcases h with⟨i,rfl,q⟩|⟨k,rfl,q⟩
 .obtain⟨u,rfl,t,rfl⟩:=vals1 r;exact call_int_int ⟨.int i,H,I,⟨_,rfl⟩,q⟩
 .obtain⟨u,rfl,rfl⟩:=vals1 r;exact call_int_bool ⟨.int (if k then 1 else 0),H,I.tok _,⟨_,rfl⟩,q⟩
structure ObjM (h:Heap)(x dx C:Addr)(mA:Str->Option Value):Prop where
 obj:h.get? x=Z9 (W.instObj C dx)
 ns:h.Ns1 dx mA
 ne:dx≠x
theorem MT {h:Heap}(n:h.Ns1 dx d):∃od,h.get? dx=Z9 od/\∀b,W.lookIn b od=Z9 (d b):=by
 obtain⟨o,es,ep,f,hd,g,_,hm⟩:=n;refine⟨o,f,λb=>?_⟩;have e:=hm b;unfold nsFind findBy at e;rw[<-o6]at e;unfold W.lookIn;rw[hd]
 dsimp only
 split
 .rename_i y q;rw[q]at e;exact congrArg Z9 e
 .rename_i q;rw[q]at e;have a:es.toList.any (·.refKey)=false:=by rw[List.any_eq_false];intro y i;obtain⟨z,t,c⟩:=g y (Array.mem_toList_iff.mp i);simp[DictEntry.refKey,c]
  rw[sg (a▸gw)];exact congrArg Z9 e
theorem ObjM.look (I:ObjM h x dx C b):∃od,W.InstAt h x (W.instObj C dx) C (Z9 od)/\∀a,W.lookIn a od=Z9 (b a):=
 let⟨od,ho,hl⟩:=MT I.ns
 ⟨od,⟨I.obj,rfl,rfl,ho⟩,hl⟩
section
variable {prog:cu}{w:World}{A:gi}{E:Value->bb->Prop}{s:bb}{K:Z5}{x dx C f:Addr}{mA:Str->Option Value}{name:Str}{v:Value}
theorem zm4 (X:K.In s.heap)(I:ObjM s.heap x dx C mA)(b:W.plainGet K C name=Z7)(hh:W.hasDictIn K C=Z7)
  (c:Z4 K (.ref C) name=Z9 Z8) (d:mA name=Z9 v) (a:W.handedIn v=Z7) (h:Q v {s with toks:=s.toks+1}):
  wpAny (model prog w) A (ri (.ref x) name expr) Q E s:=by
 obtain⟨od,J,e⟩:=I.look;exact W.get_value X J (W.plainGet_of b).1 (W.findObj_own hh c rfl (by rw[e,d])) a h
theorem zgu (X:K.In s.heap)(I:ObjM s.heap x dx C mA)(a:W.plainGet K C name=Z7)
  (b:Z4 K (.ref C) name=Z9 (Z9 (.ref f))) (c:W.isFn K (.ref f)=Z7) (d:mA name=Z8) (h:Q (.ref f,[.ref x]) s):
  wpAny (model prog w) A (getMethod (.ref x) name pl) Q E s:=by
 obtain⟨od,J,e⟩:=I.look;exact W.method_fn X J (W.plainGet_of a).1 (W.plainGet_of a).2 b (sx c) (by show(W.lookIn name od).map (·.isSome)=Z9 Z6;rw[e,d];rfl) h
theorem zk2 (X:K.In s.heap)(I:ObjM s.heap x dx C mA)
  (hs:Z4 K (.ref C) "__setattr__"=Z9 (Z9 (.builtin "object.__setattr__"))) (i:W.plainOver K C=Z7) (j:W.takerIn K C name=Z9 Z8) (hh:W.hasDictIn K C=Z7)
  (k:PySem.Within mA ns) (l:ns.length<=ba)
  (h:∀d,ObjM d x dx C (λy=>if y=name then Z9 v else mA y)->gr dx s.heap d->Q () {s with heap:=d,toks:=s.toks+2}):
  wpAny (model prog w) A (setAttr (.ref x) name v) Q E s:=by
 obtain⟨od,J,p⟩:=I.look;refine W.set_plain X J hs (W.osa_open X J i j λb=>?_);obtain⟨cd,m,e⟩:=W.any_some hh;refine am (bt (am (am (wpAny_loadPart I.obj (am (W.Looks.here (W.looks_clsIn X m) ?_))))));rw[e];refine bt (am (bt (am ?_)));refine wpAny_nsSet1 I.ns λd a c=>?_;obtain⟨q,n,o,f,hdD,g⟩:=a.count (PySem.Within.cons name v k);refine am (wpAny_lookBehind f (hdD▸pastItsLine_dict (bq g (by grind))) ?_);exact bt (h _ ⟨(c.2 _ (Ne.symm I.ne)).trans I.obj,a,I.ne⟩ c)
theorem zgi (X:K.In s.heap)(hm:W.makesIn K C=Z7)
  (c:Z4 K (.ref C) "__init__"=Z9 (Z9 (.ref f))) (d:W.typeIn K (.ref f)=Z9 (.type "function"))
  (h:i6 (model prog w) (A.under (.builtin "type.__call__" ⟨.ref C::a,b⟩)) (.call (.ref f) ⟨.ref (s.heap.objs.size+1)::a,b⟩) (W.InitBack (s.heap.objs.size+1) R)
   {s with heap:=(s.heap.push W.emptyDict).push (W.instObj C s.heap.objs.size)}):
  i6 (model prog w) A (.call (.ref C) ⟨a,b⟩) R s:=by
 exact W.make_core (W.makes_of X hm) (Z3 X c) (λself=>W.bind_fn X self d) (.inl rfl) h
end
def bT (f:Str)(v:V):List (Str×V)->List (Str×V)
 | []=>[(f,v)]
 |(g,x)::r=>if g=f then(g,v)::r else(g,x)::bT f v r
theorem Gn (f g:Str)(v:V):∀fs,(bT f v fs).lookup g=if g=f then Z9 v else fs.lookup g
 | []=>by
  show jq g [(f,v)]=_;by_cases h:g=f
  .have a:(g==f)=true:=beq_iff_eq.mpr h;simp only[jq,a,sf h]
  .have a:(g==f)=false:=beq_eq_false_iff_ne.mpr h;simp only[jq,a,sg h]
 |(k,x)::r=>by
  rw[show bT f v ((k,x)::r)=(if k=f then(k,v)::r else(k,x)::bT f v r)from rfl];by_cases b:k=f
  .rw[sf b];by_cases h:g=k
   .have a:(g==k)=true:=beq_iff_eq.mpr h;simp only[jq,a,sf (h.trans b)]
   .have a:(g==k)=false:=beq_eq_false_iff_ne.mpr h;simp only[jq,a,sg (λe:g=f=>h (e.trans b.symm))]
  .rw[sg b];by_cases h:g=k
   .have a:(g==k)=true:=beq_iff_eq.mpr h;simp only[jq,a,sg (λe:g=f=>b (h.symm.trans e))]
   .have a:(g==k)=false:=beq_eq_false_iff_ne.mpr h;simp only[jq,a];exact Gn f g v r
theorem Bi (f:Str)(v:V):∀fs,f∈(bT f v fs).map (·.1)/\∀g,g∈fs.map (·.1)->g∈(bT f v fs).map (·.1)
 | []=>⟨by simp[bT],λg h=>by simp at h⟩
 |(k,x)::r=>by
  obtain⟨b,c⟩:=Bi f v r;rw[show bT f v ((k,x)::r)=(if k=f then(k,v)::r else(k,x)::bT f v r)from rfl];by_cases a:k=f
  .rw[sf a];subst a;exact⟨by simp,λg h=>by simpa using h⟩
  .rw[sg a];refine⟨?_,λg h=>?_⟩
   .rw[bn];exact a9 _ b
   .rw[bn]at h ⊢;rcases bh.mp h with e|e
    .exact bh.mpr (.inl e)
    .exact a9 _ (c g e)
theorem Gp (f:Str)(v:V):∀fs,(bT f v fs).length<=fs.length+1
 | []=>by simp[bT]
 |(k,x)::r=>by
  have b:=Gp f v r;rw[show bT f v ((k,x)::r)=(if k=f then(k,v)::r else(k,x)::bT f v r)from rfl];by_cases a:k=f
  .rw[sf a,bc,bc];omega
  .rw[sg a,bc,bc];omega
theorem cA.some_of (r:cA (Z9 v) o):∃u,o=Z9 u/\RelV v u:=by
 cases o with
 |none=>exact r.elim
 |some u=>exact⟨u,rfl,r⟩
theorem cA.none_of (r:cA Z8 o):o=none:=by
 cases o with
 |none=>rfl
 |some u=>exact r.elim
theorem Gq (r:RelV v u):W.handedIn u=true:=by
 cases v with
 |aM=>cases r;rfl
 |bl b=>cases r;rfl
 |int i=>obtain⟨t,e⟩:=r;cases e;rfl
 |str x=>obtain⟨t,e⟩:=r;cases e;rfl
 |ref a=>cases r;rfl
 |ty n=>cases r;rfl
theorem zb (hok:HOk P w H h)(e:H a=Z9 (.ins C dx fs)):∃b,ObjM h a dx C b/\(∀f,cA (fs.lookup f) (b f))/\PySem.Within b (fs.map (·.1))/\fs.length<=1000/\H dx=Z9 (.own a):=by obtain⟨d,z,ne,ob,b,n,r,q⟩:=(hok a _ e);exact⟨b,⟨ob,n,ne⟩,r,q,z,d⟩
structure Cls (K:Z5)(C:Addr):Prop where
 pg:W.plainGet K C Str.empty=Z7
 hd:W.hasDictIn K C=Z7
 po:W.plainOver K C=Z7
 sa:Z4 K (.ref C) "__setattr__"=Z9 (Z9 (.builtin "object.__setattr__"))
theorem Cls.get {K:Z5}(c:Cls K C)(f:Str):W.plainGet K C f=true:=c.pg
def z1x (K:Z5)(C:Addr)(f:Str):Prop:=Z4 K (.ref C) f=Z9 Z8
theorem z1x.wj {K:Z5}(n:z1x K C f):W.takerIn K C f=Z9 none:=by unfold W.takerIn;rw[show Z4 K (.ref C) f=Z9 Z8 from n];rfl
structure Meth (K:Z5)(C:Addr)(m:Str)(f:Addr):Prop where
 at_:Z4 K (.ref C) m=Z9 (Z9 (.ref f))
 fn:W.isFn K (.ref f)=Z7
 kp:Z2 K (.ref f)=Z7
theorem zbk (I:Inv X d j H s)(e:H a=Z9 (.ins C dx fs))(c:Cls X.K C)(n:z1x X.K C f)(l:fs.lookup f=Z9 v)
  (h:∀u g,Inv X d j H g->RelV v u->Q u g):wpAny (model X.prog X.w) A (ri (.ref a) f b) Q E s:=by
 obtain⟨k,O,r,_,_,_⟩:=zb I.hok e;obtain⟨u,hu,i⟩:=cA.some_of (l▸r f);exact zm4 I.cG O (c.get f) c.hd n hu (Gq i) (h u _ (I.tok _) i)
theorem zbc (I:Inv X b d H s)(e:H a=Z9 (.ins C dx fs))(c:Cls X.K C)(k:Meth X.K C m g)(l:fs.lookup m=Z8)
  (h:Q (.ref g,[.ref a]) s):wpAny (model X.prog X.w) A (getMethod (.ref a) m pl) Q E s:=by
 obtain⟨f,O,r,_,_,_⟩:=zb I.hok e;exact zgu I.cG O (c.get m) k.at_ k.fn (cA.none_of (l▸r m)) h
theorem zbl (I:Inv X d m H s)(e:H a=Z9 (.ins C dx fs))(c:Cls X.K C)(n:z1x X.K C f)(B:fs.length<1000)(p:RelV y u)
  (h:∀j,Inv X d m (upd H a (.ins C dx (bT f y fs))) j->Q () j):wpAny (model X.prog X.w) A (setAttr (.ref a) f u) Q E s:=by
 obtain⟨k,O,r,wi,_,l⟩:=zb I.hok e;refine zk2 I.cG O c.sa c.po n.wj c.hd wi (by rw[ah,db];omega) λD i t=>h _ (I.write (e▸True.intro) (.inr l) (λb q v z=>(t.2 b v).trans z) (let⟨o,_,_,e',_⟩:=i.ns;⟨o,e'⟩) ⟨by rw[aE O.ne];exact l,?_,O.ne,i.obj,_,i.ns,λg=>?_,λg x=>?_⟩)
 .have:=Gp f y fs;omega
 .show cA ((bT f y fs).lookup g) (if g=f then Z9 u else k g);rw[Gn];by_cases q:g=f
  .rw[sf q,sf q];exact p
  .rw[sg q,sg q];exact r g
 .by_cases q:g=f
  .rw[q];exact(Bi f y fs).1
  .refine(Bi f y fs).2 g (wi g λz=>x ?_);show(if g=f then Z9 u else k g)=Z8;rw[sg q];exact z
theorem Inv.made (I:Inv X a d H s):Inv X a d (upd (upd H s.heap.objs.size (.own (s.heap.objs.size+1))) (s.heap.objs.size+1) (.ins C s.heap.objs.size []))
  {s with heap:=(s.heap.push W.emptyDict).push (W.instObj C s.heap.objs.size)}:=by
 have c:(s.heap.push W.emptyDict).get? s.heap.objs.size=Z9 W.emptyDict:=bu s.heap rfl
 have f:((s.heap.push W.emptyDict).push (W.instObj C s.heap.objs.size)).get? (s.heap.objs.size+1)=Z9 (W.instObj C s.heap.objs.size):=by
  have:=bu (s.heap.push W.emptyDict) (o:=W.instObj C s.heap.objs.size) rfl
  rwa [nl]at this
 refine(I.laid (o:=.own (s.heap.objs.size+1)) (t':=s.toks) (λb u q=>aw _ q) (ae _) ⟨_,c⟩).laid (λb u q=>aw _ q) (k7 (nl _ _)) ?_;have ne:s.heap.objs.size≠s.heap.objs.size+1:=cr (i7 _);refine⟨by rw[aE ne,bF],cz _,ne,f,λ_=>Z8,(pq ⟨W.emptyDict,#[],_,c,rfl,(λe g=>absurd g (by simp)),λ_=>rfl⟩).at λo q=>aw _ q,λ_=>True.intro,λy h=>absurd rfl h⟩
theorem zdm (b:kb e f env (eval e env)=eval e env)
  (h:wpAny (model prog w) A (eval e env) (λo a=>wpAny (model prog w) A (ri o f Z7) Q E a) E s):wpAny (model prog w) A (eval (.Attribute e f pos) env) Q E s:=
 Attribute_any_ h (by rw[arm_eval_Attribute,b])
def sM (K:Z5)(ta:TE)(f:Str):TE:=λσ H Q=>ta σ H λx H1=>∃a C dx fs v,x=.ref a/\H1 a=Z9 (.ins C dx fs)/\Cls K C/\z1x K C f/\fs.lookup f=Z9 v/\Q v H1
def sN (K:Z5)(ta tv:TE)(f:Str):TS:=λD σ H=>tv σ H λy H1=>ta σ H1 λx H2=>∃a C dx fs,x=.ref a/\H2 a=Z9 (.ins C dx fs)/\Cls K C/\z1x K C f/\fs.length<1000/\D.nx σ (upd H2 a (.ins C dx (bT f y fs)))
theorem MU (d:PE X e g)(i:kb e f X.env (eval e X.env)=eval e X.env):PE X (.Attribute e f pos) (sM X.K g f):=by
 intro b s j H Q I h;refine zdm i (aK (d b s j H _ I h) ?_)
 rintro u w ⟨x,k,m,o,a,C,dx,fs,v,ex,p,c,n,l,q⟩
 subst ex;obtain rfl:u=ZP a:=o;exact zbk m p c n l λy z r t=>⟨v,k,r,t,q⟩
theorem MV (g:PE X o i)(j:PE X value tv)(hs:i5 value (Z9 (.Attribute o f d)) pos.line X.env=pure Z6):PS X (.Assign [.Attribute o f d] value pos) (sN X.K i tv f):=by
 intro b s e H D I h;refine j5 (aK (j b s e H _ I h) λu k ⟨y,m,p,r,q⟩=>aK (g b k e m _ p q) ?_) hs
 rintro ov B ⟨x,E,t,v,a,C,dx,fs,ex,w,c,n,l,z⟩
 subst ex;obtain rfl:ov=ZP a:=v;exact zbl t w c n l r λF A=>⟨e,_,A,z⟩
section
variable {H:Hp}
inductive TyOf (K:Z5)(H:Hp):V->Value->Prop where
 |aM:TyOf K H .aM (.type "NoneType")
 |bl (x:Bool):TyOf K H (.bl x) (.type "bool")
 |int (i:Int):TyOf K H (.int i) (.type "int")
 |str (x:Str):TyOf K H (.str x) (.type "str")
 |lst {a:Addr} {xs:List V} (e:H a=Z9 (.lst xs)):TyOf K H (.ref a) (.type "list")
 |fM {a:Addr} {o:Obj} {xs:List V} (e:H a=Z9 (.fM o (.lst xs))):TyOf K H (.ref a) (.type "list")
 |tup {a:Addr} {xs:List V} (e:H a=Z9 (.tup xs)):TyOf K H (.ref a) (.type "tuple")
 |dK {a:Addr} {kvs:List (Key×V)} (e:H a=Z9 (.dK kvs)):TyOf K H (.ref a) (.type "dict")
 |dT {a:Addr} {kvs:List (List Key×V)} (e:H a=Z9 (.dT kvs)):TyOf K H (.ref a) (.type "dict")
 |ins {a C dx:Addr} {fs:List (Str×V)} (e:H a=Z9 (.ins C dx fs)) (cl:Cls K C) (ha:Z4 K (.ref C) "__class__"=Z9 (Z9 (.builtin "object.__class__")))
  (hn:W.specialIn K (.builtin "object.__class__") "__get__"=Z9 (Z9 (.builtin "getset_descriptor.__get__"))) (Wj:W.takesIn K (.builtin "object.__class__")=Z9 Z7)
  (hm:W.mroIn K C (.type "object")=Z9 Z7):TyOf K H (.ref a) (.ref C)
theorem z2a (I:Inv X m B H s)(f:RelV x u)(ty:TyOf X.K H x t)(e:W.kitOne X.K t c=Z9 b)(h:∀r,Q (.bool b) {s with toks:=r}):
  wpAny (model X.prog X.w) A (call (.builtin "isinstance") [u,c]) Q E s:=by
 cases ty with
 |aM=>cases f;exact Z1 W.kitx_none I.cG True.intro e (λz=>nomatch z) h
 |bl y=>cases f;exact Z1 W.kitx_bool I.cG True.intro e (λz=>nomatch z) h
 |int i=>obtain⟨t,q⟩:=f;cases q;exact Z1 W.kitx_int I.cG True.intro e (λz=>nomatch z) h
 |str y=>obtain⟨t,q⟩:=f;cases q;exact Z1 W.kitx_str I.cG True.intro e (λz=>nomatch z) h
 | @lst a k d=>cases f;obtain⟨_,_,n,_,g⟩:=(I.hok a _ d);exact Z1 W.kitx_list I.cG ⟨_,g,rfl⟩ e (λz=>nomatch z) h
 | @fM a ob k d=>cases f;obtain⟨_,_,_,n,_,g⟩:=(I.hok a _ d);exact Z1 W.kitx_list I.cG ⟨_,g,rfl⟩ e (λz=>nomatch z) h
 | @tup a k d=>cases f;obtain⟨_,_,_,p⟩:=(I.hok a _ d);obtain⟨o,g,j,_⟩:=p.tup;exact Z1 W.kitx_tuple I.cG ⟨o,g,j⟩ e (λz=>nomatch z) h
 | @dK a kvs d=>cases f;obtain⟨_,_,D,_,⟨o,es,ep,g,j,_⟩⟩:=(I.hok a _ d);exact Z1 W.kitx_dict I.cG ⟨o,g,j.1⟩ e (λz=>nomatch z) h
 | @dT a kvs d=>cases f;obtain⟨_,_,k,_,o,es,ep,g,j,_⟩:=(I.hok a _ d);exact Z1 W.kitx_dict I.cG ⟨o,g,j.1⟩ e (λz=>nomatch z) h
 | @ins a C dx fs d cl v hn l hm=>cases f;obtain⟨F,O,_⟩:=zb I.hok d;obtain⟨od,J,_⟩:=O.look;exact Z1 (W.kitx_own (cl.get _) cl.hd v hn l hm) I.cG J e (λz=>nomatch z) h
end
structure Room (k:Nat)(A:gi):Prop where
 hd:A.handled=Z8
 dp:A.depth+3*k+5<recursionLimit
 un:A.units+16*k+200<cLine
theorem Room.mono (r:Room k A)(h:j<=k):Room j A:=⟨r.hd,by have:=r.dp;omega,by have:=r.un;omega⟩
theorem Room.deeper (r:Room (k+1) A)(env:Env):Room k (A.deeper env):=⟨r.hd,by have:=r.dp;show A.depth+1+3*k+5<_;omega,by have:=r.un;show A.units+3+16*k+200<_;omega⟩
theorem MW {A:gi}:(A.under (.builtin "type.__call__" ⟨.ref C::a,b⟩)).depth=A.depth+1:=by first|rfl|simp[Around.under,Code.weight,Code.isCreation,Code.isGuard,Code.isCaller,Code.frames,Code.isFrame,guardIds]
theorem MX {A:gi}:(A.under (.builtin "type.__call__" ⟨.ref C::a,b⟩)).units=A.units+1:=by first|rfl|simp[Around.under,Code.cUnits,Code.frames,Code.isFrame]
theorem Room.make (r:Room (k+1) A)(C:Addr)(a:List Value)(b:List (Str×Value)):Room k (A.under (.builtin "type.__call__" ⟨.ref C::a,b⟩)):=⟨r.hd,by have:=r.dp;rw[MW];omega,by have:=r.un;rw[MX];omega⟩
theorem Room.depth (r:Room k A):A.depth<recursionLimit:=by have:=r.dp;omega
theorem Room.units (r:Room k A):A.units+64<cLine:=by have:=r.un;omega
def fQ:TA:=λ_ H Q=>Q [] H
def oK (ta:TE)(tr:TA):TA:=λσ H Q=>ta σ H λx H1=>tr σ H1 λxs H2=>Q (x::xs) H2
theorem jW:PA X [] fQ:=λ_ _ _ _ H Q I h=>Calls.spliced_nil ⟨[],H,I,.nil,h⟩
theorem zc (c:PE X e d)(f:PA X es t)(hs:dk (e::es) X.env=(Z6,eval e X.env)::dk es X.env:=by rfl):PA X (e::es) (oK d t):=by
 intro pos a s b H Q I h;rw[hs];refine Calls.spliced_cons (aK (c a s b H _ I h) ?_)
 rintro u g ⟨x,i,j,k,l⟩
 exact aK (f pos a g b i _ j l) λr v ⟨m,n,o,p,q⟩=>⟨x::m,n,o,.cons k p,q⟩
def wm (t:TA):TE:=λσ H Q=>t σ H λxs H1=>xs.length<=ba/\∀p,H1 p=Z8->Q (.ref p) (upd H1 p (.tup xs))
def wo (t:TA):TE:=λσ H Q=>t σ H λxs H1=>xs.length<=ba/\∀p,H1 p=Z8->Q (.ref p) (upd H1 p (.lst xs))
theorem Gr {f}(h:PA X es t):PE X (.Tuple es f pos) (wm t):=by intro a s g H Q I i;refine wpAny_Tuple_spliced (aK (h pos a s g H _ I i) λj c ⟨k,l,d,r,z,q⟩=>⟨by rw[<-r.length];exact z,?_⟩);refine⟨.ref c.heap.objs.size,upd l c.heap.objs.size (.tup k),d.laid (λb u e=>aw _ e) (ae _) ?_,rfl,q _ (d.hok.fresh (ae _))⟩;exact⟨z,j,r,⟨_,bu _ rfl⟩⟩
theorem Gs (h:PA X es t):PE X (.List es pos) (wo t):=by intro a s f H Q I g;refine wpAny_List_spliced (aK (h pos a s f H _ I g) λi c ⟨j,k,d,r,z,q⟩=>⟨by rw[<-r.length];exact z,?_⟩);refine⟨.ref c.heap.objs.size,upd k c.heap.objs.size (.lst j),d.laid (λb u e=>aw _ e) (ae _) ?_,rfl,q _ (d.hok.fresh (ae _))⟩;exact⟨z,i,0,r,bu _ rfl⟩
abbrev Sp:=List V->Hp->VK->XK->Prop
abbrev CXT:=List Env->Hp->bb->XK->Value->bb->Prop
structure jX (P:cu)(w:World)(K:Z5)(mg:Str->Option Value)(base:Heap)(A:gi)(outer:List Env)(s:bb)(H:Hp):Prop where
 frames:A.frames=Z9 outer
 mod:Mod K mg base
 bs:∀b o,base.get? b=Z9 o->s.heap.get? b=Z9 o/\H b=Z8
 iG:base.objs.size<=s.heap.objs.size
 bS:s.heap.FunFrames base outer
 kY:∀b∈frs outer,H b=Z8
 hok:HOk P w H s.heap
 bare:kz s.gens
def CE (outer:List Env)(P:cu)(w:World)(H:Hp)(s:bb)(Q:VK)(u:Value)(s':bb):Prop:=∃v H',s'.os=s.os/\kz s'.gens/\Un (frs outer) [] H H' s.heap s'.heap/\HOk P w H' s'.heap/\RelV v u/\Q v H'
def CR (CX:CXT)(outer:List Env)(P:cu)(w:World)(H:Hp)(s:bb)(Q:VK)(E:XK)(r:Result)(s':bb):Prop:=
 match r with
 |.ok (.ret u)=>CE outer P w H s Q u s'
 |.ok _=>False
 |.error e=>CX outer H s E e s'
structure FnOk (P:cu)(w:World)(K:Z5)(mg:Str->Option Value)(base:Heap)(CX:CXT)(k:Nat)(f:Addr)(fd:d5)(ps:List Str)(sp:Sp):Prop where
 len:∀vs H Q E,sp vs H Q E->vs.length=ps.length
 run:∀(A:gi) (outer:List Env) (s:bb) (H:Hp) (args:Args) (us:List Value) (vs:List V) (Q:VK) (E:XK),Room k A->jX P w K mg base A outer s H->pu s fd args (ps.zip us)->Vals vs us->sp vs H Q E->i6 (model P w) A (.call (.ref f) args) (CR CX outer P w H s Q E) s
theorem jX.make {K:Z5}(e:jX P w K mg base A outer s H)(C:Addr)(a:List Value)(b:List (Str×Value)): jX P w K mg base (A.under (.builtin "type.__call__" ⟨.ref C::a,b⟩)) outer s H:=⟨by first|exact e.frames|(simpa[Around.under,Code.envs,Code.isFrame,pushEnvs]using e.frames),e.mod,e.bs,e.iG,e.bS,e.kY,e.hok,e.bare⟩
theorem Inv.sO (I:Inv X a b H s):jX X.prog X.w X.K X.mg X.base X.A X.stack s H:=⟨I.ok.frames,I.ok.mod,I.bs,bq I.ok.iG I.sz,I.stack,I.gI,I.hok,I.bare⟩
theorem Inv.after (I:Inv X a f H s)(h:CE X.stack X.prog X.w H s Q u e):EP X a f Q u e:=by obtain⟨v,i,os,bare,un,hok,r,q⟩:=h;obtain⟨hh,g,d,t,c⟩:=e;obtain rfl:c=s.os:=os;exact⟨v,i,I.call un hok bare (λb z=>absurd z (by simp)),r,q⟩
def sP (sp:Sp)(dvs:List V)(E:XK)(t:TA):TE:=λσ H Q=>t σ H λvs H1=>sp (vs++dvs) H1 Q E
def jL (C:Addr)(m:Str)(sp:Sp)(dvs:List V)(E:XK)(ta:TE)(t:TA):TE:=λσ H Q=>ta σ H λx H1=>∃a dx fs,x=.ref a/\H1 a=Z9 (.ins C dx fs)/\fs.lookup m=Z8/\t σ H1 λvs H2=>sp (x::(vs++dvs)) H2 Q E
def wq (C:Addr)(sp:Sp)(dvs:List V)(E:XK)(t:TA):TE:=λσ H Q=>t σ H λvs H1=>∀x dx,H1 x=Z8->H1 dx=Z8->dx≠x->sp (.ref x::(vs++dvs)) (upd (upd H1 dx (.own x)) x (.ins C dx [])) (λv H2=>v=.aM/\Q (.ref x) H2) E
def Binds (K:Z5)(fd:d5)(ps:List Str)(ds:List Value):Prop:=∀(s:bb) (us:List Value),K.In s.heap->(us++ds).length=ps.length->pu s fd ⟨us,[]⟩ (ps.zip (us++ds))
theorem Binds.all {K:Z5}(h:∀a,a.length=ps.length->nq fd ⟨a,[]⟩=pure (ps.zip a)):Binds K fd ps []:=λs a _ b=>by rw[eo]at b ⊢;exact .of_eq (h a b)
def z2x (CX:CXT)(X:Cx)(E:XK):Prop:=∀(pins:List (Addr×Obj)) (σ:St) (H:Hp) (s:bb) (e:Value) (s':bb),Inv X pins σ H s->CX X.stack H s E e s'->X.xe e s'
section
variable {f C:Addr}
theorem zaa (F:FnOk X.prog X.w X.K X.mg X.base j k f fd ps l)(m:Room k X.A)(n:Binds X.K fd ps d)(hd:Vals dvs d)(o:z2x j X E)
  (I:Inv X a g H s) (r:Vals vs c) (h:l (vs++dvs) H Q E):wpAny (model X.prog X.w) X.A (call (.ref f) c) (EP X a g Q) X.xe s:=by
 have i:=r.append hd;refine pc (i8 (F.run X.A X.stack s H ⟨c,[]⟩ (c++d) (vs++dvs) Q E m I.sO (n s c I.cG (i.length▸F.len _ _ _ _ h)) i h) λr p b=>?_);cases r with
 |error e=>exact o a g H s e p I b
 |ok fl=>
  cases fl with
  |ret u=>exact I.after b
  |next=>exact False.elim b
  |brk=>exact False.elim b
  |cont=>exact False.elim b
theorem zf0 (F:FnOk X.prog X.w X.K X.mg X.base i k f fd ps j)(l:Room k X.A)(m:Gl X x)(hm:X.mg x=Z9 (.ref f))(n:Z2 X.K (.ref f)=Z7)(o:Binds X.K fd ps u)(hd:Vals b u)(v:z2x i X E)
  (y:PA X (e::es) t) (c:WL x:=by decide) (z:dk (e::es) X.env=(Z6,eval e X.env)::dk es X.env:=by rfl) (d:(jl pos (dk es X.env)).any (·.1)=false:=by rfl):
  PE X (.Call (.Name x p) (e::es) [] pos) (sP j b E t):=by
 intro a s B H Q I h;refine ip (z4r I m hm ?_ c);refine W.callWith_K I.ok.mod.sF n (aK (y pos a s B H _ I h) λC D ⟨G,J,g,r,q⟩=>⟨g.cG,?_⟩) z d;exact zaa F l o hd v g r q
structure Mk (K:Z5)(C f:Addr):Prop where
 makes:W.makesIn K C=Z7
 init:Z4 K (.ref C) "__init__"=Z9 (Z9 (.ref f))
 fn:W.isFn K (.ref f)=Z7
 kp:Z2 K (.ref C)=Z7
theorem zga (M:Mk X.K C f)(F:FnOk X.prog X.w X.K X.mg X.base o k f fd ps p)(q:Room (k+1) X.A)(t:Binds X.K fd ps g)(hd:Vals d g)
  (y:z2x o X E) (I:Inv X b j H s) (r:Vals l c)
  (h:∀x dx,H x=Z8->H dx=Z8->dx≠x->p (.ref x::(l++d)) (upd (upd H dx (.own x)) x (.ins C dx [])) (λv z=>v=.aM/\Q (.ref x) z) E):
  wpAny (model X.prog X.w) X.A (call (.ref C) c) (EP X b j Q) X.xe s:=by
 have m:=h (s.heap.objs.size+1) s.heap.objs.size (I.hok.fresh (g8 _)) (I.hok.fresh (ae _)) (cr (i7 _));have i:=Inv.made (C:=C) I;have n:Vals (V.ref (s.heap.objs.size+1)::(l++d)) (ZP (s.heap.objs.size+1)::(c++g)):=.cons rfl (r.append hd);have B:(ZP (s.heap.objs.size+1)::c++g).length=ps.length:=by have e:=n.length;rw[F.len _ _ _ _ m]at e;exact e.symm
 refine pc (zgi I.cG M.makes M.init (sx M.fn) (i8 (F.run _ X.stack _ _ ⟨ZP (s.heap.objs.size+1)::c,[]⟩ (ZP (s.heap.objs.size+1)::(c++g)) _ _ E (q.make C c []) (i.sO.make C c []) (t _ (ZP (s.heap.objs.size+1)::c) i.cG B) n m) λr D a=>?_));cases r with
 |error e=>exact y b j _ _ e D i a
 |ok fl=>
  cases fl with
  |ret u=>obtain⟨v,G,J,L,rfl,N⟩:=i.after a;exact⟨L,V.ref (s.heap.objs.size+1),G,J,rfl,N⟩
  |next=>exact False.elim a
  |brk=>exact False.elim a
  |cont=>exact False.elim a
theorem zki (M:Mk X.K C f)(F:FnOk X.prog X.w X.K X.mg X.base i k f fd ps j)(l:Room (k+1) X.A)(m:Gl X x)(hm:X.mg x=Z9 (.ref C))(n:Binds X.K fd ps o)(hd:Vals b o)(u:z2x i X E)
  (v:PA X (e::es) t) (c:WL x:=by decide) (y:dk (e::es) X.env=(Z6,eval e X.env)::dk es X.env:=by rfl) (d:(jl pos (dk es X.env)).any (·.1)=false:=by rfl):
  PE X (.Call (.Name x p) (e::es) [] pos) (wq C j b E t):=by
 intro a s z H Q I h;refine ip (z4r I m hm ?_ c);refine W.callWith_K I.ok.mod.sF M.kp (aK (v pos a s z H _ I h) λB D ⟨G,J,g,r,q⟩=>⟨g.cG,?_⟩) y d;exact zga M F l n hd u g r q
end
structure FnScope (N P:List Str)(sc:Scope):Prop where
 kind:sc.kind=.function
 co:sc.isCoroutine=Z6
 gen:sc.isGenerator=Z6
 nd:N.Nodup
 pre:N.take P.length=P
 par:∀x∈P,sc.names.lookup x=Z9 .local\/sc.names.lookup x=Z9 .cell
 sQ:∀y∈sc.names,y.2≠.free
theorem Gu {a:Str->Option gx}:∀{binds:List (Str×Value)} {m:Str->Option Value},(∀v,(x,v)∉binds)->bindL a binds m x=m x
 | [],_,_=>rfl
 |(n,v)::r,m,h=>by
  unfold bindL;rw[Gu λw b=>h w (a9 _ b)];split
  .have :x≠n:=by rintro rfl;exact h v bg
   simp[this]
  .rfl
theorem Gv {a:Str->Option gx}:∀{binds:List (Str×Value)} {m:Str->Option Value},(∀v,(x,v)∉binds)->bindC a binds m x=m x
 | [],_,_=>rfl
 |(n,v)::r,m,h=>by
  unfold bindC;rw[Gv λw b=>h w (a9 _ b)];split
  .rfl
  .have :x≠n:=by rintro rfl;exact h v bg
   simp[this]
theorem z8a {a:Str->Option gx}:∀{P:List Str} {b:List Value} {i:Nat} {m:Str->Option Value},P.Nodup->P[i]?=Z9 x->b[i]?=Z9 v->a x=Z9 .local->
  bindL a (P.zip b) m x=Z9 v
 | [],_,_,_,_,h,_,_=>by simp at h
 |_::_,[],_,_,_,_,h,_=>by simp at h
 |p::P,w::b,0,m,nd,c,d,e=>by simp at c d;subst c;subst d;show bindL a ((p,w)::P.zip b) m p=_;unfold bindL;rw[Gu λv f=>(du.mp nd).1 (mz f).1,sf e];simp
 |p::P,w::b,i+1,m,nd,c,d,e=>by show bindL a ((p,w)::P.zip b) m x=_;exact z8a (du.mp nd).2 (by simpa using c) (by simpa using d) e
theorem z84 {a:Str->Option gx}:∀{P:List Str} {b:List Value} {i:Nat} {m:Str->Option Value},P.Nodup->P[i]?=Z9 x->b[i]?=Z9 v->a x≠Z9 .local->
  bindC a (P.zip b) m x=Z9 v
 | [],_,_,_,_,h,_,_=>by simp at h
 |_::_,[],_,_,_,_,h,_=>by simp at h
 |p::P,w::b,0,m,nd,c,d,e=>by simp at c d;subst c;subst d;show bindC a ((p,w)::P.zip b) m p=_;unfold bindC;rw[Gv λv f=>(du.mp nd).1 (mz f).1,sg e];simp
 |p::P,w::b,i+1,m,nd,c,d,e=>by show bindC a ((p,w)::P.zip b) m x=_;exact z84 (du.mp nd).2 (by simpa using c) (by simpa using d) e
def start (N:List Str)(vs:List V):St:=vs.map Z9++bz (N.length-vs.length) Z8
def gY (CX:CXT)(P:cu)(w:World)(K:Z5)(mg:Str->Option Value)(base:Heap)(N:List Str)(qual:Str)(scope:Scope)(f:Addr)(cd:Value)(A:gi)(outer:List Env)(s:bb)(H:Hp)(E:XK):Cx where
 prog:=P
 w:=w
 K:=K
 mg:=mg
 base:=base
 A:=A.deeper (nr qual scope s.heap.objs.size f cd)
 N:=N
 s₀:=s
 gV:=H
 env:=nr qual scope s.heap.objs.size f cd
 outer:=outer
 stack:=nr qual scope s.heap.objs.size f cd::outer
 ex:=[]
 calm:=Z7
 fn:=λ_=>Z7
 pn:=[]
 xe:=λe s'=>wpAny (model P w) (A.deeper (nr qual scope s.heap.objs.size f cd)) (qt (nr qual scope s.heap.objs.size f cd) e) (λ_ sR=>CX outer H s E e sR) (λe' sR=>CX outer H s E e' sR) s'
theorem Gx {sc:Scope}(h:sc.names.lookup x=Z9 .cell):∃c,(cellsFrom n sc.names []).lookup x=Z9 c:=by exact Option.isSome_iff_exists.mp (W.cellsFrom_some sc.names n [] (.inl h))
theorem ze1 {K:Z5}
  (S:FnScope N ps scope) (hd:A.handled=Z8) (j:jX P w K mg base A outer s H) (O:n.length=ps.length) (r:Vals n D)
  (x:InCallC s s.heap.objs.size (bindL (nr g scope s.heap.objs.size f cd).kindOf (ps.zip D) λ_=>Z8) (cellsFrom (s.heap.objs.size+1) scope.names []) (bindC (nr g scope s.heap.objs.size f cd).kindOf (ps.zip D) λ_=>Z8) G):
  Inv (gY I P w K mg base N g scope f cd A outer s H E) [] (start N n) H G:=by
 have J:=by have:=congrArg kg S.pre;rw[d7]at this;omega
 obtain⟨B,Q,rfl,F⟩:=x.done;have l:∀b,b∉(gY I P w K mg base N g scope f cd A outer s H E).ex:=λb z=>absurd (show b∈([]:List Addr)from z) (by simp);refine⟨⟨j.mod,S.kind,rfl,rfl,ae _,λy z c B d=>?_,λy m=>?_,λy c _ h=>?_,λ_=>hd,Around.frames_deeper j.frames,.inr ⟨rfl,rfl⟩,λb z=>absurd z (l b),j.bs,j.iG,λb _ _=>l b,λb z=>absurd z (l b),j.bS,j.kY,λ_ _ z=>by cases z⟩,rfl,j.bare,Un.kept F,⟨_,x.toInCall.ns,λi y v B d R=>?_⟩,λy c h=>⟨_,x.cell y c h⟩,j.hok.fresh (ae _),λy c h=>?_,λp o=>absurd (show p∈([]:List (Addr×Obj))from o) (by simp),j.hok.kept F,?_,λ_ _ z=>by cases z⟩
 .exact name_of_addr x.apart (PySem.mem_of_lookup B) (PySem.mem_of_lookup d)
 .have m:scope.names.lookup y=Z9 .cell\/scope.names.lookup y=Z9 .free:=m;rcases m with m|m
  .exact Gx m
  .exact absurd rfl (S.sQ _ (PySem.mem_of_lookup m))
 .exact gn (x.above y c (PySem.mem_of_lookup h))
 .have C:i<n.length:=by
   unfold start at d;by_cases C:i<n.length
   .exact C
   .rw[b7 (by simpa using C)]at d;rw[dh]at d;split at d<;>cases d
  have L:n[i]?=Z9 v:=by
   unfold start at d;rw[c7 (by simpa using C),ao]at d;cases e:n[i]? with
   |none=>rw[e]at d;cases d
   |some a=>rw[e]at d;cases d;rfl
  obtain⟨u,hu,M⟩:=r.get L;have o:ps[i]?=Z9 y:=by rw[<-S.pre,jh (by omega)];exact B
  have t:ps.Nodup:=S.pre▸S.nd.sublist (jx _ _);refine⟨u,M,?_⟩;rcases S.par y (ar o)with k|k
  .exact .inl ⟨k,z8a t o hu k⟩
  .obtain⟨c,e⟩:=Gx k;refine .inr ⟨.inl k,c,e,?_⟩;have q:=x.cell y c e;rw[z84 t o hu (by show scope.names.lookup y≠_;rw[k];decide)]at q;exact q
 .exact j.hok.fresh (gn (x.above y c (PySem.mem_of_lookup h)))
 .unfold start;show _=N.length;rw[ax,ah,cf];omega
theorem zlf {K:Z5}{kV:Value}
  (R:K.lookup f=Z9 ⟨oc,od,.func (Z0 m a params g scope T kV C U an c ct),X⟩) (D:ZZ K c a=Z7) (S:FnScope N ps scope)
  (len:∀h H Q E,L h H Q E->h.length=ps.length)
  (j:∀A outer s H h Q E,Room k (A.deeper (nr a scope s.heap.objs.size f c))->L h H Q E->∃t,PSs (gY M P w K mg base N a scope f c A outer s H E) g t/\t {nx:=λ_ i=>Q .aM i,rt:=Q} (start N h) H):
  FnOk P w K mg base M (k+1) f (Z0 m a params g scope T kV C U an c ct) ps L:=by
 refine⟨len,λA outer s H args Y h Q E F p hb r z=>?_⟩;have O:=p.mod.sF.keeps λb o e=>(p.bs b o e).1
 have l:∀y∈ps.zip Y,scope.names.lookup y.1=Z9 .local\/(scope.names.lookup y.1=Z9 .cell/\((cellsFrom (s.heap.objs.size+1) scope.names []).lookup y.1).isSome=Z7):=λ⟨n,v⟩ hy=>by
  rcases S.par n (mz hy).1 with q|q
  .exact .inl q
  .exact .inr ⟨q,W.cellsFrom_some _ _ _ (.inl q)⟩
 refine codeAny_call_function F.depth (O _ _ R) rfl S.co S.gen rfl (W.codeRec_of O D) (hb _ _ _ _ ?_);refine wpAny_newFunctionEnv_cells S.kind l λenv he s1 x=>?_;subst he;refine⟨(p.mod.nolimit.keeps λb o e=>(p.bs b o e).1).keeps x.toInCall.keep,codeAny_func ?_⟩;obtain⟨t,ht,hq⟩:=j A outer s H h Q E (F.deeper _) z;refine gj (ht [] s1 (start N h) H _ (ze1 S F.hd p (len _ _ _ _ z) r x) hq) (λfl G hs=>?_) λe G hs=>hs;have B:∀{d:St} {i:Hp} {v:V} {u:Value},Inv (gY M P w K mg base N a scope f c A outer s H E) [] d i G->RelV v u->Q v i->CE outer P w H s Q u G:=λ{d i v u} J I q=>⟨v,i,J.os,J.bare,J.base,J.hok,I,q⟩;cases fl with
 |ret u=>obtain⟨v,d,i,J,I,q⟩:=hs;exact B J I q
 |next=>obtain⟨d,i,J,q⟩:=hs;exact B (v:=V.aM) J rfl q
 |brk=>obtain⟨_,_,_,q⟩:=hs;exact False.elim q
 |cont=>obtain⟨_,_,_,q⟩:=hs;exact False.elim q
section
variable {X:Cx}{x:Str}{p pos:Pos}{e:Expr}{es:List Expr}{t:TA}{id:String}{r:List V->Hp->VK->Prop}
def lV (r:List V->Hp->VK->Prop)(t:TA):TE:=λσ H Q=>t σ H λvs H1=>r vs H1 Q
theorem zh7 (f:CallR X (.builtin id) r)(g:Gl X x)(hm:X.mg x=Z8)(i:dg x=Z9 (.builtin id))(j:PA X (e::es) t)(hn:x≠"__name__":=by decide)(b:WL x:=by decide)
  (k:dk (e::es) X.env=(Z6,eval e X.env)::dk es X.env:=by rfl) (c:(jl pos (dk es X.env)).any (·.1)=false:=by rfl):PE X (.Call (.Name x p) (e::es) [] pos) (lV r t):=by
 intro a s d H Q I h;refine ip (z2g I g hm i ?_ hn b);exact PyProof.Rows.callWith_builtin1 (aK (j pos a s d H _ I h) λl m ⟨n,o,q,u,v⟩=>f a m d o n l Q q u v) k c
theorem zd5 (f:CallR X (.type T) r)(g:Gl X x)(hm:X.mg x=Z8)(i:dg x=Z9 (.type T))(j:PA X (e::es) t)(hn:x≠"__name__":=by decide)(b:WL x:=by decide)
  (k:dk (e::es) X.env=(Z6,eval e X.env)::dk es X.env:=by rfl) (c:(jl pos (dk es X.env)).any (·.1)=false:=by rfl):PE X (.Call (.Name x p) (e::es) [] pos) (lV r t):=by
 intro a s d H Q I h;refine ip (z2g I g hm i ?_ hn b);exact PyProof.Rows.callWith_type1 (aK (j pos a s d H _ I h) λl m ⟨n,o,q,u,v⟩=>f a m d o n l Q q u v) k c
end
section
variable {κ:Type} [DecidableEq κ]
def cL (kvs:List (κ×V))(k:κ):Option V:=(kvs.find? λkv=>decide (kv.1=k)).map (·.2)
def putK (kvs:List (κ×V))(k:κ)(v:V):List (κ×V):=if(kvs.any λkv=>decide (kv.1=k))=Z7 then kvs.map (λkv=>if kv.1=k then(kv.1,v)else kv)else kvs++[(k,v)]
theorem zd {p:κ×V}(e:p.1=k):cL (p::r) k=Z9 p.2:=by simp[cL,fm,e]
theorem ze {p:κ×V}(e:¬p.1=k):cL (p::r) k=cL r k:=by simp[cL,fm,e]
theorem Gy (k:κ):∀kvs,(kvs.any λa=>decide (a.1=k))=(cL kvs k).isSome
 | []=>rfl
 |p::r=>by
  rw[ji];by_cases e:p.1=k
  .simp only[zd e,sr e,Bool.true_or,Option.isSome_some]
  .rw[ze e,sw e];exact Gy k r
theorem Bj (kvs:List (κ×V))(k:κ)(v:V):(putK kvs k v).length<=kvs.length+1:=by
 unfold putK;split
 .rw[ah];omega
 .rw[ax,bc,m7];omega
theorem cA.bX (r:cA o u):o.isSome=u.isSome:=by
 cases o with
 |none=>cases u with
  |none=>rfl
  |some _=>exact r.elim
 |some _=>cases u with
  |none=>exact r.elim
  |some _=>rfl
theorem cA.getD (r:cA o u)(rd:RelV d a):RelV (o.getD d) (u.getD a):=by
 cases o with
 |none=>cases u with
  |none=>exact rd
  |some _=>exact r.elim
 |some _=>cases u with
  |none=>exact r.elim
  |some _=>exact r
theorem KV.val (r:KV kvs f)(k:κ):cA (cL kvs k) (pv f k):=by
 induction r with
 |nil=>exact True.intro
 | @cons p q ps a h t g=>
  obtain⟨d,i⟩:=h;by_cases e:p.1=k
  .have c:q.1=k:=d.symm.trans e;have b:pv (q::a) k=Z9 q.2:=by simp[pv,fm,c]
   rw[zd e,b];exact i
  .have c:¬q.1=k:=λz=>e (d.trans z);have b:pv (q::a) k=pv a k:=by simp[pv,fm,c]
   rw[ze e,b];exact g
theorem KV.any (r:KV kvs b)(k:κ):(kvs.any λa=>decide (a.1=k))=b.any λa=>decide (a.1=k):=by
 induction r with
 |nil=>rfl
 |cons h t c=>rw[ji,ji,c,h.1]
theorem KV.repl (r:KV kvs c)(k:κ)(d:RelV y u):
  KV (kvs.map λa=>if a.1=k then(a.1,y)else a) (c.map λa=>if a.1=k then(a.1,u)else a):=by
 induction r with
 |nil=>exact .nil
 | @cons p q ps i h t f=>
  rw[bn,bn];refine .cons ?_ f;obtain⟨b,g⟩:=h;by_cases e:p.1=k
  .rw[sf e,sf (b.symm.trans e)];exact⟨b,d⟩
  .rw[sg e,sg (λz=>e (b.trans z))];exact⟨b,g⟩
theorem KV.put (r:KV kvs a)(k:κ)(b:RelV y u):KV (putK kvs k y) (stored a k u):=by
 unfold putK stored;rw[r.any k];by_cases e:(a.any λc=>decide (c.1=k))=Z7
 .rw[sf e,sf e];exact r.repl k b
 .rw[sg e,sg e];exact Paired.snoc r ⟨rfl,b⟩
theorem KV.length (r:KV kvs vs):kvs.length=vs.length:=Paired.length r
end
theorem sS (r:RelV (kV k) u):(gU P w).is k u=true:=by
 cases k with
 |inl i=>obtain⟨t,e⟩:=r;subst e;exact L4 P w i t
 |inr x=>obtain⟨t,e⟩:=r;subst e;exact L6 P w x t
theorem Gz:∀{ks:List Key} {a:List Value},Vals (ks.map kV) a->ItemsAre (gU P w) ks a
 | [],_,r=>by rw[List.map_nil]at r;cases r;exact .nil
 |k::ks,_,r=>by
  cases r with
  |cons h t=>exact .cons (sS h) (Gz t)
abbrev KT (H:Hp):List (List Key×V)->List (List Key×Addr×Value)->Prop:=jw λp q=>p.1=q.1/\H q.2.1=Z9 (.tup (p.1.map kV))/\RelV p.2 q.2.2
theorem KT.val (r:KT H kvs f)(k:List Key):cA (cL kvs k) ((atKey f k).map (·.2)):=by
 induction r with
 |nil=>exact True.intro
 | @cons p q ps a h t g=>
  obtain⟨d,_,i⟩:=h;by_cases e:p.1=k
  .have c:q.1=k:=d.symm.trans e;have b:atKey (q::a) k=Z9 q.2:=by simp[atKey,fm,c]
   rw[zd e,b];exact i
  .have c:¬q.1=k:=λz=>e (d.trans z);have b:atKey (q::a) k=atKey a k:=by simp[atKey,fm,c]
   rw[ze e,b];exact g
theorem KT.repl (r:KT H kvs d)(k:List Key)(f:RelV y u):
  KT H (kvs.map λb=>if b.1=k then(b.1,y)else b) (d.map (putAt k u)):=by
 induction r with
 |nil=>exact .nil
 | @cons p q ps j h t g=>
  rw[bn];refine .cons ?_ g;obtain⟨a,c,i⟩:=h;unfold putAt;by_cases e:p.1=k
  .rw[sf e,sf (a.symm.trans e)];exact⟨a,c,f⟩
  .rw[sg e,sg (λz=>e (a.trans z))];exact⟨a,c,i⟩
theorem KT.put (r:KT H kvs a)(k:List Key)(d:H b=Z9 (.tup (k.map kV)))(c:RelV y u):
  KT H (putK kvs k y) (storedH a k b u):=by
 have e:(kvs.any λf=>decide (f.1=k))=(atKey a k).isSome:=by rw[Gy,(r.val k).bX,iy]
 unfold putK storedH;rw[e];by_cases q:(atKey a k).isSome=Z7
 .rw[sf q,sf q];exact r.repl k c
 .rw[sg q,sg q];exact Paired.snoc r ⟨rfl,d,c⟩
theorem KT.keeps (r:KT H kvs c)(d:∀b a,H b=Z9 (.tup a)->e b=Z9 (.tup a)):KT e kvs c:=Paired.vN r λ_ _ z=>⟨z.1,d _ _ z.2.1,z.2.2⟩
theorem GA (ok:HOk P w H h)(e:Rd H a u):z16 P w H h a u:=e.ok ok
theorem sT (ok:HOk P w H h)(e:Rd H a (.dK kvs)):kvs.length<=ba/\(a==iz)=Z6/\∃b,KV kvs b/\h.DictOf (gU P w) a b:=show z16 P w H h a (.dK kvs)from GA ok e
theorem zf (ok:HOk P w H h)(e:H a=Z9 (.dK kvs)):kvs.length<=ba/\(a==iz)=Z6/\∃b,KV kvs b/\h.DictOf (gU P w) a b:=sT ok (.inl e)
theorem uT (ok:HOk P w H h)(e:H a=Z9 (.tup (ks.map kV))):(l4 (gU P w)).is h ks a:=by obtain⟨_,b,r,n,c⟩:=(ok a _ e);exact⟨_,b.toArray,n,c,rfl,rfl,by simpa using Gz r⟩
theorem zbm (ok:HOk P w H h)(e:Rd H a (.dT kvs)):kvs.length<=ba/\(a==iz)=Z6/\
  ∃c,KT H kvs c/\h.DictOfH (l4 (gU P w)) a c:=by
 obtain⟨z,y,c,r,o,es,ep,f,g,i,j,k⟩:=(GA ok e);refine⟨z,y,c,r,o,es,ep,f,g,i,j,λx b=>?_,k⟩
 have all:∀{l:List (List Key×V)} {m:List (List Key×Addr×Value)},KT H l m->∀x∈m,(l4 (gU P w)).is h x.1 x.2.1:=by
  intro l m q
  induction q with
  |nil=>intro x b;exact nomatch b
  | @cons p q ps s d t n=>
   intro x b;rcases bh.mp b with e|b
   .subst e;exact uT ok (d.1▸d.2.1)
   .exact n x b
 exact all r x b
theorem MY (ok:HOk P w H h)(e:H a=Z9 (.dT kvs)):kvs.length<=ba/\(a==iz)=Z6/\∃b,KT H kvs b/\h.DictOfH (l4 (gU P w)) a b:=zbm ok (.inl e)
def DGet (H:Hp)(a:Addr)(y:V)(r:Option V):Prop:=(∃kvs k,Rd H a (.dK kvs)/\y=kV k/\r=cL kvs k)\/∃kvs k b,Rd H a (.dT kvs)/\y=.ref b/\H b=Z9 (.tup (k.map kV))/\r=cL kvs k
def DPut (H:Hp)(a:Addr)(y v:V)(H':Hp):Prop:=
 (∃kvs k,H a=Z9 (.dK kvs)/\y=kV k/\kvs.length<ba/\H'=upd H a (.dK (putK kvs k v)))\/
 ∃kvs k b,H a=Z9 (.dT kvs)/\y=.ref b/\H b=Z9 (.tup (k.map kV))/\kvs.length<ba/\H'=upd H a (.dT (putK kvs k v))
theorem DGet.k {k:Key}(e:H a=Z9 (.dK kvs)):DGet H a (kV k) (cL kvs k):=.inl ⟨kvs,k,.inl e,rfl,rfl⟩
theorem Inv.big (I:Inv X a σ H s):iz<s.heap.objs.size:=k9 dc ((I.mod.glob.keeps I.bk).lt)
theorem zck (hu:A.units+1<cLine)(I:Inv X f r H s)(g:DGet H a y (Z9 v))(o:RelV y u)(h:∀d q,Inv X f r H q->RelV v d->Q d q):
  wpAny (model X.prog X.w) A (rj (.ref a) u) Q E s:=by
 rcases g with⟨kvs,k,e,i,l⟩|⟨kvs,k,b,e,i,t,l⟩
 .subst i;obtain⟨z,hd,B,rel,j⟩:=sT I.hok e;obtain⟨d,m,c⟩:=cA.some_of (l▸rel.val k);exact wpAny_getItem_of (sS o) j.mapOf m (h d _ (I.tok _) c)
 .subst i;cases o;obtain⟨z,hd,C,rel,j⟩:=zbm I.hok e;obtain⟨d,m,c⟩:=cA.some_of (l▸rel.val k);obtain⟨p,x,n⟩:=a6.mp m;refine wpAny_getItem_heap (iu hu) (uT I.hok t) j x ?_;rw[n];exact h d _ (I.tok _) c
theorem d_in (hu:A.units+1<cLine)(I:Inv X c m H s)(g:DGet H a y o)(i:RelV y u)(h:∀j,Inv X c m H j->Q (.bool o.isSome) j):
  wpAny (model X.prog X.w) A (dr .In u (.ref a)) Q E s:=by
 rcases g with⟨kvs,k,e,d,l⟩|⟨kvs,k,b,e,d,n,l⟩
 .subst d;obtain⟨z,hd,p,rel,f⟩:=sT I.hok e;refine wpAny_in_of (sS i) hd f.mapOf ?_;rw[<-(rel.val k).bX,<-l];exact h _ (I.tok _)
 .subst d;cases i;obtain⟨z,hd,r,rel,f⟩:=zbm I.hok e;refine wpAny_in_heap (iu hu) (uT I.hok n) hd f ?_;have q:=(rel.val k).bX;rw[iy]at q;rw[<-q,<-l];exact h _ (I.tok _)
theorem zjs (hu:A.units+1<cLine)(I:Inv X c m H s)(g:DGet H a y o)(i:RelV y u)(h:∀j,Inv X c m H j->Q (.bool (!o.isSome)) j):
  wpAny (model X.prog X.w) A (dr .NotIn u (.ref a)) Q E s:=by
 rcases g with⟨kvs,k,e,d,l⟩|⟨kvs,k,b,e,d,n,l⟩
 .subst d;obtain⟨z,hd,p,rel,f⟩:=sT I.hok e;refine wpAny_notIn_of (sS i) hd f.mapOf ?_;rw[<-(rel.val k).bX,<-l];exact h _ (I.tok _)
 .subst d;cases i;obtain⟨z,hd,r,rel,f⟩:=zbm I.hok e;refine wpAny_notIn_heap (iu hu) (uT I.hok n) hd f ?_;have q:=(rel.val k).bX;rw[iy]at q;rw[<-q,<-l];exact h _ (I.tok _)
theorem z9a (I:Inv X c e H s)(f:Mut (H a))(hs:gr a s.heap d)(g:∃q,d.get? a=Z9 q)(new:z16 X.prog X.w (upd H a ob) d a ob):
  Inv X c e (upd H a ob) {s with heap:=d,toks:=t'}:=
 I.write f (.inl rfl) (λb q h z=>(hs.2 b h).trans z) g new
theorem GB (z:kvs.length<=ba)(hd:(a==iz)=Z6)(rel:KV kvs b)(c:d.DictOf (gU P w) a b): z16 P w e d a (.dK kvs):=⟨z,hd,b,rel,c⟩
theorem ze7 (hu:A.units+1<cLine)(I:Inv X f D H s)(g:DPut H a y v F)(o:RelV y u)(p:RelV v r)(h:∀t,Inv X f D F t->Q () t):
  wpAny (model X.prog X.w) A (setItem (.ref a) u r) Q E s:=by
 rcases g with⟨kvs,k,e,j,l,m⟩|⟨kvs,k,b,e,j,x,l,m⟩
 .subst j m;obtain⟨z,hd,G,rel,n⟩:=zf I.hok e;have B:G.length<=ba:=rel.length▸z;exact wpAny_setItem_pairs (hsz:=B) (sS o) n λJ d hs=>h _ (z9a I (e▸True.intro) hs (let⟨q,_,_,i,_⟩:=d;⟨q,i⟩) (GB (by have:=Bj kvs k v;omega) hd (rel.put k p) d))
 .subst j m;cases o;obtain⟨z,hd,K,rel,n⟩:=MY I.hok e;have B:K.length<=ba:=Paired.length rel▸z;refine wpAny_setItem_heap (iu hu) (uT I.hok x) n λJ d hs=>h _ ?_;obtain⟨q,es,ep,i,L,M,N,_,O⟩:=d;refine z9a I (e▸True.intro) hs ⟨q,i⟩ ⟨(by have:=Bj kvs k v;omega),hd,_,(rel.put k x p).keeps λc P C=>?_,q,es,ep,i,L,M,N,O⟩;rw[aE (L7 C e (λz=>nomatch z))];exact C
theorem MZ (I:Inv X b d H s)(e:Rd H a (.dK kvs))(h:∀t c,Inv X b d H c->Q (.int kvs.length t) c):wpAny (model X.prog X.w) A (call (.builtin "len") [.ref a]) Q E s:=by obtain⟨z,hd,g,rel,f⟩:=sT I.hok e;refine call_len_dict hd f (by rw[<-rel.length];rw[db]at z;omega) ?_;rw[<-rel.length];exact h _ _ (I.tok _)
theorem M1 (I:Inv X d f H s)(g:DGet H a y o):s.TypeIs (.ref a) "dict":=by
 rcases g with⟨kvs,k,e,_,_⟩|⟨kvs,k,b,e,_,_,_⟩
 .obtain⟨_,_,h,_,c⟩:=sT I.hok e;exact c.typeIs
 .obtain⟨_,_,i,_,c⟩:=zbm I.hok e;exact c.typeIs
theorem GC (h:Heap)(a:iz<h.objs.size):z16 P w H (h.push {cls:=.type "dict",data:=.dict #[]}) h.objs.size (.dK []):=⟨cz _,beq_eq_false_iff_ne.mpr (Ne.symm (cr a)),[],.nil,Heap.DictOf.new h⟩
def GF:TE:=λ_ H Q=>∀p,H p=Z8->Q (.ref p) (upd H p (.dK []))
theorem GG:PE X (.Dict [] [] pos) GF:=λa s b H Q I h=>wpAny_Dict_empty ⟨.ref s.heap.objs.size,_,I.laid (λ_ _ q=>aw _ q) (ae _) (GC s.heap I.big),rfl,h _ (I.hok.fresh (ae _))⟩
theorem zpx (hu:A.units+1<cLine)(I:Inv X c p H s)(g:DGet H a y o)(j:RelV y u)(rd:RelV d r)(h:∀m n,Inv X c p H n->RelV (o.getD d) m->Q m n):
  wpAny (model X.prog X.w) A (call (.builtin "dict.get") [.ref a,u,r]) Q E s:=by
 rcases g with⟨kvs,k,e,i,l⟩|⟨kvs,k,b,e,i,q,l⟩
 .subst i;obtain⟨z,hd,v,rel,f⟩:=sT I.hok e;refine pw PySem.F.slot_dict_get f.typeIs PySem.F.entry_dict_get (PySem.F.args_dict_get_3 _ _ _) (meets_dict_get_default (gU X.prog X.w) a (sS j) hd r) ⟨_,f.mapOf,h _ _ (I.tok _) ?_⟩;rw[l];exact(rel.val k).getD rd
 .subst i;cases j;obtain⟨z,hd,t,rel,f⟩:=zbm I.hok e;refine pw PySem.F.slot_dict_get f.typeIs PySem.F.entry_dict_get (PySem.F.args_dict_get_3 _ _ _) (meetsH_dict_get_default (l4 (gU X.prog X.w)) a b hd r) ⟨iu hu,k,t,uT I.hok q,f,h _ _ (I.tok _) ?_⟩;rw[l];exact(rel.val k).getD rd
end L2
namespace HT
open PySem PyProof.Rows
def cM (n d:Nat):Option Int->Nat
 |none=>d
 |some v=>if v<0 then(v+(n:Int)).toNat else min v.toNat n
theorem sU (n d:Nat)(hd:d<=n)(o:Option Int):cM n d o<=n:=by
 cases o with
 |none=>exact hd
 |some v=>
  show(if v<0 then(v+n).toNat else min v.toNat n)<=n;by_cases a:v<0
  .rw[sf a];omega
  .rw[sg a];exact Nat.min_le_right _ _
end HT
namespace L2
open PySem PySem.Spec PyProof.Rows
abbrev TO:=St->Hp->(Option Int->Hp->Prop)->Prop
def PO (X:Cx)(e:Option Expr)(t:TO):Prop:=∀(pins:List (Addr×Obj)) (s:bb) (σ:St) (H:Hp) (Q:Option Int->Hp->Prop),Inv X pins σ H s->t σ H Q->wpAny (model X.prog X.w) X.A (evalPart e X.env) (λu s'=>∃o H',Inv X pins σ H' s'/\IsPart u o/\Q o H') X.xe s
def M3:TO:=λ_ H Q=>Q Z8 H
def M' (t:TE):TO:=λσ H Q=>t σ H λx H1=>∃i,x=.int i/\Q (Z9 i) H1
section
variable {X:Cx}{e:Expr}{te:TE}{lo hi:Option Expr}{tl th:TO}{pos p2:Pos}
theorem Na:PO X Z8 M3:=by intro a s b H Q I h;exact bt ⟨Z8,H,I,.none,h⟩
theorem Nb (h:PE X e te):PO X (Z9 e) (M' te):=by intro a s b H Q I c;refine aK (h a s b H _ I c) λu k ⟨x,d,f,g,j⟩=>?_;obtain⟨i,rfl,q⟩:=j;obtain⟨t,rfl⟩:=g;exact⟨Z9 i,d,f,.int i t,q⟩
def oM (X:Cx)(r:V->Option Int->Option Int->Hp->VK->Prop):Prop:=∀(pins:List (Addr×Obj)) (s:bb) (σ:St) (H:Hp) (x:V) (v vl vu:Value) (lo hi:Option Int) (sl:Addr) (Q:VK),Inv X pins σ H s->RelV x v->s.heap.IsSliceOf sl vl vu .none->IsPart vl lo->IsPart vu hi->r x lo hi H Q->∃T id,typeLookup (.type T) "__getitem__"=pure (Z9 (.builtin id))/\s.TypeIs v T/\wpAny (model X.prog X.w) X.A (rj v (.ref sl)) (EP X pins σ Q) X.xe s
theorem oM.or (h:oM X r)(g:oM X i):oM X (λx lo hi H Q=>r x lo hi H Q\/i x lo hi H Q):=by
 intro a s b H x v c d lo hi sl Q I e hs pl f q;rcases q with q|q
 .exact h a s b H x v c d lo hi sl Q I e hs pl f q
 .exact g a s b H x v c d lo hi sl Q I e hs pl f q
def Nc (r:V->Option Int->Option Int->Hp->VK->Prop)(te:TE)(tl th:TO):TE:=λσ H Q=>te σ H λx H1=>tl σ H1 λl H2=>th σ H2 λu H3=>r x l u H3 Q
theorem Nd (j:oM X r)(k:PE X e te)(m:PO X lo tl)(hu:PO X hi th):PE X (.Subscript e (.Slice lo hi Z8 p2) pos) (Nc r te tl th):=by
 intro a s c H Q I h;refine Subscript_ (aK (k a s c H _ I h) ?_)
 rintro v n ⟨x,o,p,t,w⟩
 refine wpAny_Slice (aK (m a n c o _ p w) λf y ⟨l,z,A,pl,B⟩=>aK (hu a y c z _ A B) ?_)
 rintro g d ⟨u,i,C,D,E⟩
 refine bt ?_;have F:Inv X a c i {d with heap:=d.heap.push {cls:=.type "slice",data:=.fields #[f,g,.none]}}:=C.kept λb ob q=>aw _ q;obtain⟨T,id,G,J,K⟩:=j a {d with heap:=d.heap.push {cls:=.type "slice",data:=.fields #[f,g,.none]}} c i x v f g l u d.heap.objs.size Q F t (Heap.IsSliceOf.new ..) pl D E;exact tail_any J G K (by with_unfolding_all rfl)
def sV (xs:List V)(lo hi:Option Int):List V:=(xs.drop (HT.cM xs.length 0 lo)).take (HT.cM xs.length xs.length hi-HT.cM xs.length 0 lo)
theorem Nf (a:List V)(lo hi:Option Int):(sV a lo hi).length<=a.length:=by unfold sV;rw[d7,List.length_drop];omega
end
def fG (n:Nat)(i:Int):Option Nat:=if 0<=i then(if i<n then Z9 i.toNat else Z8)else if -(n:Int)<=i then Z9 (i+n).toNat else Z8
def bM {α:Type}(xs:List α)(i:Int):Option α:=(fG xs.length i).bind λj=>xs[j]?
theorem GH (h:fG n i=Z9 j):seqIndex? i n=Z9 j/\j<n/\-(n:Int)<=i/\i<n:=by
 unfold fG at h;by_cases h0:0<=i
 .rw[sf h0]at h;by_cases a:i<n
  .rw[sf a]at h;have e:=si h;exact⟨by rw[qr h0 a,e],by omega,by omega,a⟩
  .rw[sg a]at h;cases h
 .rw[sg h0]at h;by_cases a:-n<=i
  .rw[sf a]at h;have e:=si h;exact⟨by rw[pz (by omega) a,e],by omega,a,by omega⟩
  .rw[sg a]at h;cases h
theorem Bk (h:bM a i=Z9 v):∃j,seqIndex? i a.length=Z9 j/\a[j]?=Z9 v/\j<a.length/\-(a.length:Int)<=i/\i<a.length:=by
 unfold bM at h;cases e:fG a.length i with
 |none=>rw[e]at h;cases h
 |some j=>rw[e]at h;obtain⟨b,c,d,f⟩:=GH e;exact⟨j,b,h,c,d,f⟩
def GI (b:Expr):Prop:=∀o i,subscripted b Z6 o i=operate [o,i] (rj o i)
def lC (X:Cx)(r:R2):Prop:=∀(value slice:Expr) (pins:List (Addr×Obj)) (s:bb) (σ:St) (H:Hp) (x y:V) (v u:Value) (Q:VK),Inv X pins σ H s->RelV x v->RelV y u->r x y H Q->subscripted slice Z6 v u=operate [v,u] (rj v u)->wpAny (model X.prog X.w) X.A (subscriptTail value slice v u) (EP X pins σ Q) X.xe s
def MtR (X:Cx)(id:String)(r:V->List V->Hp->VK->Prop):Prop:=∀(pins:List (Addr×Obj)) (s:bb) (σ:St) (H:Hp) (x:V) (xs:List V) (v:Value) (us:List Value) (Q:VK),Inv X pins σ H s->RelV x v->Vals xs us->r x xs H Q->wpAny (model X.prog X.w) X.A (call (.builtin id) (v::us)) (EP X pins σ Q) X.xe s
section
variable {X:Cx}
theorem lC.or (h:lC X r)(g:lC X i):lC X (λx y H Q=>r x y H Q\/i x y H Q):=by
 intro a b c s d H x y v u Q I e f q hs;rcases q with q|q
 .exact h a b c s d H x y v u Q I e f q hs
 .exact g a b c s d H x y v u Q I e f q hs
theorem Bl (d:lC X r)(e:PE X a f)(g:PE X b i)(hs:GI b):PE X (.Subscript a b pos) (jK r f i):=by intro c s j H Q I h;exact Subscript_ (binT e g I h λv u k x y l m n o q=>d a b c k j l x y v u Q m n o q (hs _ _))
def wt (K:Z5):R2:=λx y H Q=>∃p xs i v,x=.ref p/\y=.int i/\SqL K H p xs/\bM xs i=Z9 v/\Q v H
def wu (K:Z5):R2:=λx y H Q=>∃p xs i v,x=.ref p/\y=.int i/\cP K H p xs/\bM xs i=Z9 v/\Q v H
def wx:R2:=λx y H Q=>∃z i c,x=.str z/\y=.int i/\z.length<=ba/\bM z.cps.toList i=Z9 c/\Q (.str ⟨#[c]⟩) H
theorem Ng:lC X (wt X.K):=by
 intro d e a s m H x y v u Q I n o h hs;obtain⟨p,G,i,z,rfl,rfl,A,B,q⟩:=h;cases n;obtain⟨t,rfl⟩:=o;obtain⟨f,r,pl,J⟩:=I.list A;obtain⟨j,c,C,L,D,E⟩:=Bk B;obtain⟨w,l,g⟩:=r.get C;have F:=r.length;have hn:=sJ;have b:EP X a m Q w s:=⟨z,H,I,g,q⟩;by_cases h0:0<=i
 .have k:i.toNat=j:=by
   rw[qr h0 E]at c;exact si c
  exact item_listR pl.isList h0 (by omega) (by rw[k];simpa using l) b hs
 .have k:(i+f.toArray.size).toNat=j:=by
   rw[pz (by omega) D]at c;rw[cy,<-F];exact si c
  exact mn pl.isList.typeIs slot_list_getitem.lookup (wpAny_getItem_list_neg pl.isList (by omega) (by rw[cy]<;>omega) (by omega) (by rw[k];simpa using l) ⟨rfl,b⟩) hs
theorem Nh:lC X (wu X.K):=by intro a b d s A H x y v u Q I e f h hs;obtain⟨p,B,i,z,rfl,rfl,g,k,q⟩:=h;cases e;obtain⟨t,rfl⟩:=f;obtain⟨l,r,pl,C⟩:=I.tuple g;obtain⟨j,m,n,D,E,F⟩:=Bk k;obtain⟨w,o,c⟩:=r.get n;have hn:=sJ;exact mn pl.typeIs slot_tuple_getitem.lookup (getItem_tuple pl (by omega) (by omega) (by rw[cy,<-r.length];exact m) (by simpa using o) ⟨rfl,⟨z,H,I,c,q⟩⟩) hs
theorem Bm:lC X wx:=by
 intro a b d s p H x y v u Q I f g h hs;obtain⟨z,i,c,rfl,rfl,r,k,q⟩:=h;obtain⟨t,rfl⟩:=f;obtain⟨w,rfl⟩:=g;obtain⟨j,e,l,A,m,n⟩:=Bk k;have o:z.cps.toList.length=z.length:=by simp[Str.length]
 rw[o]at e m n;have hn:=sJ;exact tail_any (qw s z t) slot_str_getitem.lookup (getItem_str (by rw[sw (by omega),sw (by omega),Bool.or_false]) (by rw[e];simpa using l) ⟨.str ⟨#[c]⟩,H,I.tok _,⟨_,rfl⟩,q⟩) hs
def uU (K:Z5):R2:=λx y H Q=>wt K x y H Q\/wu K x y H Q\/wx x y H Q
theorem GJ:lC X (uU X.K):=Ng.or (Nh.or Bm)
theorem Ni (a:List Value)(n j:Nat)(u:Value):Obj.mapSeq (·.setIfInBounds j u) {cls:=.type "list",data:=.seq a.toArray n}={cls:=.type "list",data:=.seq (a.set j u).toArray n}:=by simp[Obj.mapSeq]
theorem Inv.lst {b:List (Addr×Obj)}{σ:St}{H:Hp}{s:bb}{p:Addr}{xs:List V}(I:Inv X b σ H s)(h:H p=Z9 (.lst xs)):
  ∃a n,Vals xs a/\s.heap.get? p=Z9 {cls:=.type "list",data:=.seq a.toArray n}/\xs.length<=ba:=by
 obtain⟨z,a,n,r,e⟩:=I.hok p _ h;exact⟨a,n,r,e,z⟩
theorem Inv.lstUpd {a:List Value}(I:Inv X c g H s)(h:H p=Z9 (.lst l))
  (i:s.heap.get? p=Z9 {cls:=.type "list",data:=.seq a.toArray n}) (d:f {cls:=.type "list",data:=.seq a.toArray n}={cls:=.type "list",data:=.seq jY.toArray n'}) (r:Vals ys jY) (j:ys.length<=ba) t:
  Inv X c g (upd H p (.lst ys)) {s with heap:=s.heap.update p f,toks:=t}:=by
 have e:(s.heap.update p f).get? p=Z9 {cls:=.type "list",data:=.seq jY.toArray n'}:=by rw[gz f i (by rw[d]<;>rfl),d]
 refine I.write (by rw[h];trivial) (.inl rfl) (λb u k q=>(fh _ _ (Ne.symm k)).trans q) ⟨_,e⟩ ?_;exact⟨j,jY,n',r,e⟩
def Bn:V->V->V->Hp->(Hp->Prop)->Prop:=λo i v H Q=>∃p xs k j,o=.ref p/\i=.int k/\H p=Z9 (.lst xs)/\fG xs.length k=Z9 j/\Q (upd H p (.lst (xs.set j v)))
theorem set_list:A9 X Bn:=by
 rintro a s w H o i v ov C u Q I ro x y ⟨p,z,k,j,rfl,rfl,g,A,q⟩
 cases ro;obtain⟨t,rfl⟩:=x;obtain⟨b,n,r,d,B⟩:=I.lst g;obtain⟨c,D,h,l⟩:=GH A;have e:=r.length;have hn:=sJ;have m:Inv X a w (upd H p (.lst (z.set j v))) {s with heap:=s.heap.update p (Obj.mapSeq (·.setIfInBounds j u))}:=I.lstUpd g d (Ni b n j u) (r.set y j) (by rw[bx];exact B) s.toks;by_cases h0:0<=k
 .have f:k.toNat=j:=by
   rw[qr h0 l]at c;exact si c
  exact W.ki_setAt d h0 (by omega) (by rw[cy,<-e];exact l) (f▸⟨_,m,q⟩)
 .have f:(k+b.toArray.size).toNat=j:=by
   rw[pz (by omega) h]at c;rw[cy,<-e];exact si c
  exact W.ki_setBack d (by omega) (by rw[cy,<-e];exact h) (by omega) (f▸⟨_,m,q⟩)
theorem Nj (a b:Option Int)(n:Nat):(jr a b Z8 n).1=((HT.cM n 0 a:Nat):Int)/\(jr a b Z8 n).2.1=((HT.cM n n b:Nat):Int)/\(jr a b Z8 n).2.2=1:=by
 refine⟨?_,?_,rfl⟩
 .cases a with
  |none=>simp[jr,HT.cM]
  |some i=>
   simp only[jr,HT.cM,Option.getD_none,show 1>0 by decide,if_true];by_cases h:i<0
   .simp only[h,if_true]<;>omega
   .simp only[h,if_false]<;>omega
 .cases b with
  |none=>simp[jr,HT.cM]
  |some i=>
   simp only[jr,HT.cM,Option.getD_none,show 1>0 by decide,if_true];by_cases h:i<0
   .simp only[h,if_true]<;>omega
   .simp only[h,if_false]<;>omega
theorem Nk (a:List Value)(b c:Option Int):slicePick a.toArray b c Z8=((a.drop (HT.cM a.length 0 b)).take (HT.cM a.length a.length c-HT.cM a.length 0 b)).toArray:=by obtain⟨d,e,f⟩:=Nj b c a.toArray.size;unfold slicePick;rw[d,e,f];simp only[nv,pick_run,cy]<;>rfl
def wy (K:Z5):V->Option Int->Option Int->Hp->VK->Prop:=λx lo hi H Q=>∃a xs,x=.ref a/\SqL K H a xs/\∀p,H p=Z8->Q (.ref p) (upd H p (.lst (sV xs lo hi)))
theorem Nl:oM X (wy X.K):=by
 rintro f s n H x v o p e g sl Q I i hs pl j ⟨a,c,rfl,k,q⟩
 cases i;obtain⟨l,r,h,m⟩:=I.list k;have d:=r.length;refine⟨"list",_,slot_list_getitem.lookup,h.isList.typeIs,?_⟩;refine wpAny_getItem_list_slice h.isList hs pl j .none (by simp) ?_ (by rw[cy]<;>omega);rw[Nk,<-d];refine⟨.ref s.heap.objs.size,_,I.laid (λb ob q=>aw _ q) (ae _) ?_,rfl,q _ (I.hok.fresh (ae _))⟩;exact⟨bq (Nf c e g) m,_,0,(r.drop (HT.cM c.length 0 e)).take (HT.cM c.length c.length g-HT.cM c.length 0 e),bu _ rfl⟩
theorem Nm:CallR X (.builtin "len") (λf H Q=>∃p b,f=[.ref p]/\(SqL X.K H p b\/cP X.K H p b)/\Q (.int b.length) H):=by
 rintro g s i H f j Q I r ⟨p,b,rfl,c,q⟩
 obtain⟨u,rfl,rfl⟩:=vals1 r;have hn:=sJ;rcases c with c|c
 .obtain⟨d,e,pl,h⟩:=I.list c;have a:=e.length;exact Calls.call_len_list pl.isList (by simp<;>omega) ⟨.int b.length,H,I.tok _,⟨s.toks+1,by rw[cy,a]⟩,q⟩
 .obtain⟨d,e,pl,h⟩:=I.tuple c;have a:=e.length;exact len_tuple pl (by simp<;>omega) ⟨.int b.length,H,I.tok _,⟨s.toks+1,by rw[cy,a]⟩,q⟩
theorem Nn:CallR X (.builtin "len") (λa H Q=>∃z,a=[.str z]/\z.length<=ba/\Q (.int z.length) H):=by
 rintro b s c H a d Q I r ⟨z,rfl,e,q⟩
 obtain⟨u,rfl,t,rfl⟩:=vals1 r;have hn:=sJ;exact len_str (by omega) ⟨.int z.length,H,I.tok _,⟨_,rfl⟩,q⟩
theorem CallR.or (h:CallR X f r)(e:CallR X f g):CallR X f (λb H Q=>r b H Q\/g b H Q):=by
 intro a s c H b d Q I rs q;rcases q with q|q
 .exact h a s c H b d Q I rs q
 .exact e a s c H b d Q I rs q
theorem Np:CallR X (.type "list") (λx H Q=>∃p d,x=[.ref p]/\(SqL X.K H p d\/cP X.K H p d)/\∀l,H l=Z8->Q (.ref l) (upd H l (.lst d))):=by
 rintro h s z H x A Q I r ⟨p,d,rfl,i,q⟩
 obtain⟨u,rfl,rfl⟩:=vals1 r
 have j:∀a,Vals d a->d.length<=ba->∀c f,(∀b y,s.heap.get? b=Z9 y->c.get? b=Z9 y)->
   c.get? s.heap.objs.size=Z9 {cls:=.type "list",dict:=Z8,data:=.seq a.toArray f,slots:=#[]}->EP X h z Q (.ref s.heap.objs.size) {s with heap:=c}:=λa g k c f kp e=>
  ⟨.ref s.heap.objs.size,_,I.laid kp (ae _) (show z16 X.prog X.w _ c _ (.lst d)from⟨k,a,f,g,e⟩),rfl,q _ (I.hok.fresh (ae _))⟩
 rcases i with i|i
 .obtain⟨a,g,pl,k⟩:=I.list i;have m:=g.length;obtain⟨o,t,v,n,hd⟩:=pl.isList;exact call_list_seq p (.inl rfl) t v hd (λc f kp e=>j a g k c f kp e) (by simp<;>omega)
 .obtain⟨a,g,pl,k⟩:=I.tuple i;have m:=g.length;obtain⟨o,t,v,n,hd⟩:=pl;exact call_list_seq p (.inr rfl) t v hd (λc f kp e=>j a g k c f kp e) (by simp<;>omega)
theorem Nq:CallR X (.type "tuple") (λj H Q=>∃p d,j=[.ref p]/\((SqL X.K H p d/\∀l,H l=Z8->Q (.ref l) (upd H l (.tup d)))\/(cP X.K H p d/\Q (.ref p) H))):=by
 rintro a s k H j w Q I r ⟨p,d,rfl,h⟩
 obtain⟨u,rfl,rfl⟩:=vals1 r;rcases h with⟨g,q⟩|⟨g,q⟩
 .obtain⟨c,i,pl,m⟩:=I.list g;have n:=i.length;refine call_tuple_list pl.isList (λf kp=>?_) (by simp<;>omega);have t:Inv X a k H {s with heap:=f}:=I.kept kp;have v:Inv X a k (upd H f.objs.size (.tup d)) {s with heap:=f.push {cls:=.type "tuple",data:=.seq c.toArray}}:=t.laid (λb o e=>aw _ e) (ae _) (⟨m,c,i,TupN.new _ _⟩);exact⟨.ref f.objs.size,_,v,rfl,q _ (t.hok.fresh (ae _))⟩
 .obtain⟨c,i,pl,m⟩:=I.tuple g;exact call_tuple_same pl ⟨.ref p,H,I,rfl,q⟩
def tyV (K:Z5)(T:String)(x:V)(H:Hp):Prop:=match x with
 |.str _=>T="str"
 |.int _=>T="int"
 |.ref p=>(T="list"/\∃xs,SqL K H p xs)\/(T="tuple"/\∃o,K.lookup p=Z9 o/\o.cls=.type "tuple"/\o.dict=Z8)\/(T="dict"/\((∃kvs,H p=Z9 (.dK kvs))\/∃kvs,H p=Z9 (.dT kvs)))\/(T="set"/\∃S n,H p=Z9 (.set S n))
 |_=>False
theorem zi7 (I:Inv X f k H s)(r:RelV x v)(ty:tyV X.K T x H):
  s.TypeIs v T/\∀a,v=.ref a->∃ob,s.heap.get? a=Z9 ob/\ob.dict=none:=by
 cases x with
 |str z=>obtain⟨t,rfl⟩:=r;cases ty;exact⟨qw s z t,λ_ e=>nomatch e⟩
 |int i=>obtain⟨t,rfl⟩:=r;cases ty;exact⟨typeIs_int s i t,λ_ e=>nomatch e⟩
 |ref p=>
  cases r;rcases ty with⟨rfl,l,g⟩|⟨rfl,o,b,h,hd⟩|⟨rfl,b⟩|⟨rfl,S,n,b⟩
  .obtain⟨j,_,pl,_⟩:=I.list g;refine⟨pl.isList.typeIs,λa e=>?_⟩;cases e;obtain⟨o,n,e,c,hd,_⟩:=pl;exact⟨o,e,hd⟩
  .refine⟨⟨o,I.cG p o b,h⟩,λa e=>?_⟩;cases e;exact⟨o,I.cG _ o b,hd⟩
  .have z:∃o,s.heap.get? p=Z9 o/\o.ExactDict:=by
    rcases b with⟨kvs,b⟩|⟨kvs,b⟩
    .obtain⟨_,_,_,_,o,_,_,e,ex,_⟩:=I.hok p _ b;exact⟨o,e,ex⟩
    .obtain⟨_,_,_,_,o,_,_,e,ex,_⟩:=I.hok p _ b;exact⟨o,e,ex⟩
   obtain⟨o,e,ex⟩:=z;refine⟨⟨o,e,ex.1⟩,λa d=>?_⟩;cases d;exact⟨o,e,ex.2.1⟩
  .obtain⟨o,_,_,_,e,ex,_⟩:=I.hok p _ b;refine⟨⟨o,e,ex.1⟩,λa d=>?_⟩;cases d;exact⟨o,e,ex.2.1⟩
 |_=>exact False.elim ty
def sW (K:Z5)(T:String)(r:V->List V->Hp->VK->Prop)(to:TE):TE:=λσ H Q=>to σ H λx H1=>tyV K T x H1/\r x [] H1 Q
def Bo (K:Z5)(T:String)(r:V->List V->Hp->VK->Prop)(to:TE)(t:TA):TE:=λσ H Q=>to σ H λx H1=>tyV K T x H1/\t σ H1 λxs H2=>r x xs H2 Q
variable {o e:Expr}{es:List Expr}{to:TE}{t:TA}{name:Str}{apos cpos:Pos}{T id:String}{r:V->List V->Hp->VK->Prop}
theorem zoa (i:qx T)(slot:Slot T name id)(d:se (.builtin id)=pure (.type "method_descriptor"))(hm:MtR X id r)(j:PE X o to)
  (b:kb o name X.env (eval o X.env)=eval o X.env:=by rfl) (c:(apos.endLine==cpos.line)=true:=by rfl):PE X (.Call (.Attribute o name apos) [] [] cpos) (sW X.K T r to):=by
 intro a s e H Q I h;refine wpAny_Call_method0_late b c (aK (j a s e H _ I h) ?_)
 rintro v k ⟨x,l,f,g,ty,m⟩
 obtain⟨n,p⟩:=zi7 f g ty;exact⟨T,id,i,slot,d,n,p,mo rfl (PySem.evalArgs_none (hm a k e l x [] v [] Q f g .nil m))⟩
theorem zlz (m:qx T)(slot:Slot T name id)(g:se (.builtin id)=pure (.type "method_descriptor"))(hm:MtR X id r)(n:PE X o to)(p:PA X (e::es) t)
  (c:kb o name X.env (eval o X.env)=eval o X.env:=by rfl)
  (f:((jl cpos (dk (e::es) X.env)).all (λx=> !x.1)&&(qy cpos (ny [] X.env)).all (λx=>x.1.isSome)
   &&decide ((e::es).length+([]:List qa).length+(if([]:List qa).isEmpty then 0 else 1)<30))=true:=by rfl)
  (d:(apos.endLine==cpos.line)=true:=by rfl) (hs:dk (e::es) X.env=(Z6,eval e X.env)::dk es X.env:=by rfl) (b:(jl cpos (dk es X.env)).any (·.1)=false:=by rfl):
  PE X (.Call (.Attribute o name apos) (e::es) [] cpos) (Bo X.K T r to t):=by
 intro a s i H Q I h;refine wpAny_Call_method_late c f d rfl (aK (n a s i H _ I h) ?_)
 rintro v q ⟨x,u,j,k,ty,w⟩
 obtain⟨y,z⟩:=zi7 j k ty;refine⟨T,id,m,slot,g,y,z,?_⟩;have l:=p cpos a q i u _ j w;rw[hs]at l ⊢;refine mo (by show(Z6||(jl cpos (dk es X.env)).any (·.1))=Z6;rw[b]<;>rfl) (kh ?_);exact aK l λA B ⟨C,D,E,F,G⟩=>hm a B i D x C v A Q E k F G
end
def Nr (X:Cx)(id:String)(r:V->List V->Hp->VK->Prop):Prop:=∀(pins:List (Addr×Obj)) (s:bb) (σ:St) (H:Hp) (x:V) (xs:List V) (v:Value) (us:List Value) (Q:VK),Inv X pins σ H s->RelV x v->Vals xs us->r x xs H Q->wpAny (model X.prog X.w) X.A (call (.builtin id) (v::us)) (EP X pins σ Q) X.xe s
theorem Vals.one (h:Vals [x] a):∃u,a=[u]/\RelV x u:=by
 cases h with
 |cons r h=>cases h;exact⟨_,rfl,r⟩
theorem Inv.lset {a:List Value}(I:Inv X b c H s)(d:H l=Z9 (.lst k))
  (e:s.heap.get? l=Z9 {cls:=.type "list",data:=.seq a.toArray n}) (g:f a.toArray=jY.toArray) (h:Vals ys jY) (i:ys.length<=ba):
  Inv X b c (upd H l (.lst ys)) {s with heap:=s.heap.update l (Obj.mapSeq f),toks:=t'}:=by
 have q:=PySem.IsL.update e f;rw[g]at q;refine I.write (d▸trivial) (.inl rfl) (λm u j hu=>(fh s.heap (Obj.mapSeq f) (Ne.symm j)).trans hu) ⟨_,q⟩ ?_;exact⟨i,jY,_,h,q⟩
theorem Inv.lnew (I:Inv X a d H s)(e:Vals c b)(f:c.length<=ba):
  Inv X a d (upd H s.heap.objs.size (.lst c)) {s with heap:=s.heap.push {cls:=.type "list",data:=.seq b.toArray},toks:=t'}:=
 I.laid (λ_ _ q=>aw _ q) (ae _) ⟨f,b,0,e,bu _ rfl⟩
theorem Inv.fresh (I:Inv X a b H s):H s.heap.objs.size=none:=I.hok.fresh (ae _)
theorem Inv.Bp (I:Inv X c f H s)(d:H l=Z9 (.lst b)):b.length<=ba/\∃a n,Vals b a/\b.length=a.length/\s.heap.get? l=Z9 {cls:=.type "list",data:=.seq a.toArray n}:=by obtain⟨z,a,n,r,e⟩:=I.hok l _ d;exact⟨z,a,n,r,r.length,e⟩
def zg:V->List V->Hp->VK->Prop:=λx vs H Q=>∃l xs y,x=.ref l/\vs=[y]/\H l=Z9 (.lst xs)/\xs.length<ba/\Q .aM (upd H l (.lst (xs++[y])))
theorem Bq:Nr X "list.append" zg:=by
 rintro b s h H x i v j Q I d f ⟨l,k,y,rfl,rfl,c,m,q⟩
 cases d;obtain⟨u,rfl,g⟩:=f.one;obtain⟨z,a,n,r,o,e⟩:=I.Bp c;refine call_meets F.slot_list_append ⟨_,e,rfl⟩ F.entry_list_append (F.args_list_append_2 _ _) (PySem.list_append l a.toArray n u (by grind)) ⟨e,?_⟩;refine⟨.aM,_,I.lset c e (by simp) (r.append (.cons g .nil)) ?_,rfl,q⟩;rw[ax,ek];omega
end L2
namespace Att
open PySem PySem.W PySem.Calls PyProof.Rows
theorem Nt:∀ns c,WellAll P h c (ns.map WData.int)->qu c ns:=by
 intro ns
 induction ns with
 |nil=>intro c w;cases w;exact .nil
 |cons n ns d=>
  intro c w;cases w with
  |cons a b=>cases a;exact .cons _ _ (d _ b)
theorem zfg {l:OpenLaw}(hn:l.most=Z9 n)
  (b:l.row.toRowW.claim.pre args=Z7) (i:WellAll P h c args):
  ∃a k ns,c=[ZP a]/\args=[WData.list (ns.map WData.int)]/\h.get? a=Z9 {cls:=.type "list",data:=.seq k.toArray}/\qu k ns/\ns.length<=n:=by
 have m:l.pre.holds [] {args:=args}=true:=(pre_splitW b).2;obtain⟨d,r,rfl,o,p⟩:=hasAllW_cons ((pre_splitW b).1);obtain rfl:=hasAllW_nil p;obtain⟨w,rfl,s⟩:=hasW_list o;obtain⟨ns,rfl⟩:=items_int s
 have e:ns.length<=n:=by
  have g:(WTm.not (.lt (.lit (.int n)) (.len (.arg 0)))).holds [] {args:=[.list (ns.map .int)]}=true:=by have g:=(holds_andW m).1;rw[hn]at g;exact g
  have j:=condW_of g (w_not (w_lt w_lit (w_len_list (w_arg rfl))));refine Nat.le_of_not_lt λq=>?_
  first
   |(rw[sr q']at j;exact absurd j dc)
   |(simp at j;omega)
 cases i with
 |cons t u=>
  cases u;cases t with
  |list v f=>exact⟨_,_,ns,rfl,rfl,v,Nt ns _ f,e⟩
theorem Nu (l:OpenLaw)(args:List WData):l.row.toRowW.claim.post args (.bool Z7) args=true:=
 postW_of
  (show WShape.has [] (.bool Z7) .bool=Z7 by first|rfl|decide|simp[WShape.has,WShape.arms,WShape.armsAll])
  (show(WTm.eq .res (.lit (.bool Z7))).value [] {args:=args,res:=Z9 (.bool Z7),after:=args}=Z9 (.bool (Z7==Z7))from w_eq_bool (w_res rfl) w_lit) rfl
theorem attach_call {l:OpenLaw}
  (hn:l.most=Z9 n) (m:d.params.defaults=[])
  (call:∀w s₀ b mg p fa o s cd c a g ns,
   Ground q loose [] A w s₀ mg p b.heap->B w b.heap->
   b.heap.get? fa=Z9 o->o.data=.func (docDef d.name d.params d.body d.scope s cd c)->b.heap.CodeRec cd d.name->mg d.name=Z9 (.ref fa)->
   b.heap.get? a=Z9 {cls:=.type "list",data:=.seq g.toArray}->qu g ns->ns.length<=n->b.gens=#[]->
   i6 (model l.prog w) qb (.call (.ref fa) ⟨[.ref a],[]⟩) (λr k=>r=.ok (.ret (.bool Z7))/\OldK b.heap k.heap/\k.os=b.os/\kz k.gens) b):
  WalkO q loose A B l.row.toRowW d [] (λf g=>PySem.call f g):=by
 intro w s₀ b mg p G Y fa o s cd c C kV D hd t x u E args y as h z F v H;obtain rfl:C=.none:=Dflts.none x m;obtain rfl:kV=.none:=Dflts.noKw x;obtain⟨a,g,ns,rfl,rfl,i,e,j⟩:=zfg hn h v;refine enter_call (i8 (call w s₀ b mg p fa o s cd c a g ns G Y D (fd_plain hd) t u i e j E) λr k I=>?_);obtain⟨rfl,J,K,L⟩:=I;exact⟨.inl ⟨.bool Z7,.bool Z7,[],rfl,λ_=>rfl,.bool Z7,Nu l _,λ_=>⟨List.Pairwise.nil,λ_ hm=>(nomatch hm)⟩⟩,J,K,L⟩
end Att
namespace L2
open PySem PySem.Spec PyProof.Rows
theorem GK:∀{a:List Value} {ns:List Int},qu a ns->Vals (ns.map V.int) a
 |_,_,.nil=>.nil
 |_,_,.cons n t h=>.cons ⟨t,rfl⟩ (GK h)
def Only (H:Hp):Prop:=∀b,H b=Z8\/∃o xs,H b=Z9 (.fM o (.lst xs))
theorem zg6 {K:Z5}
  (M:K.In c.heap) (p:c.heap.Ns bo mg) (f:c.heap.Ns qv N) (D:∀x:Str,x≠"__name__"->N x=dg x) (t:c.heap.NoLimit) (X:c.gens=#[])
  (C:c.heap.get? a=Z9 {cls:=.type "list",data:=.seq vs.toArray}) (O:qu vs ns) (Q:ns.length<=ba) (hr:Room k qb)
  (F:∀base,K.In base->base.Ns bo mg->FnOk P w K mg base CX k fa fd [x] sp) (l:∀s u,pu s fd ⟨[u],[]⟩ [(x,u)])
  (E:∀H,Only H->SqL K H a (ns.map V.int)->sp [.ref a] H (λv _=>v=.bl Z7) λ_ _ _=>False)
  (G:∀H e g,CX [] H c (λ_ _ _=>False) e g->False):
  i6 (model P w) qb (.call (.ref fa) ⟨[.ref a],[]⟩) (λr g=>r=.ok (.ret (.bool Z7))/\OldK c.heap g.heap/\g.os=c.os/\kz g.gens) c:=by
 have R:=GK O
 have j:∀H,Only H->SqL K H a (ns.map V.int)->HOk P w H c.heap->(∀b,H b≠Z8->b=a)->(H a≠Z8->K.lookup a=Z8)->
   i6 (model P w) qb (.call (.ref fa) ⟨[.ref a],[]⟩) (λr g=>r=.ok (.ret (.bool Z7))/\OldK c.heap g.heap/\g.os=c.os/\kz g.gens) c:=by
  intro H S hS hok T hK;have oN:∀{b:Addr} {o:Obj},c.heap.get? b=Z9 o->H b=Z8->(jT c.heap H).get? b=Z9 o:=λe n=>Ma e n
  have I:∀{b:Addr} {o:Obj} {es:Array DictEntry} {ep:Nat},c.heap.get? b=Z9 o->o.data=.dict es ep->H b=none:=λ{b o es ep} e d=>by
   cases q:H b with
   |none=>rfl
   |some u=>have J:=T b (by rw[q];simp);subst J;rw[C]at e;cases e;cases d
  have i:∀{b:Addr} {m:Str->Option Value},c.heap.Ns b m->(jT c.heap H).Ns b m:=λ{b m} ⟨o,es,ep,e,d,r⟩=>⟨o,es,ep,oN e (I e d),d,r⟩
  have y:=λb o e=>oN (M b o e) (by
   cases q:H b with
   |none=>rfl
   |some u=>have J:=T b (by rw[q];simp);subst J;rw[hK (by rw[q];simp)]at e;cases e)
  refine i8 ((F _ y (i p)).run qb [] c H ⟨[.ref a],[]⟩ [.ref a] [.ref a] _ _ hr ⟨rfl,⟨y,i p,⟨N,i f,D⟩,let⟨mc,h1,h2⟩:=t;⟨mc,i h1,h2⟩⟩,λb o e=>Mb e,k7 (L9 _ _),trivial,λb f=>absurd (show b∈([]:List Addr)from f) (by simp),hok,.of_eq X⟩ (l c (.ref a)) (.cons rfl .nil) (E H S hS)) λr g h=>?_;cases r with
  |error e=>exact(G H e g h).elim
  |ok fl=>
   cases fl with
   |next=>exact False.elim h
   |brk=>exact False.elim h
   |cont=>exact False.elim h
   |ret u=>
    obtain⟨v,H',os,bare,un,A,r',rfl⟩:=h;obtain rfl:u=Value.bool true:=r';refine⟨rfl,OldK.of_keep λb o e=>?_,os,bare⟩;cases q:H b with
    |none=>exact un.keep b o e q (by intro z;exact absurd (show b∈([]:List Addr)from z) (by simp)) (by simp)
    |some u=>
     rcases S b with z|⟨ob,xs,z⟩
     .rw[q]at z;cases z
     .have z2:=un.cC b ob _ z;obtain⟨U,_⟩:=hok b _ z;obtain⟨e2,_⟩:=A b _ z2;rw[e]at U;cases U;exact e2
 cases L:K.lookup a with
 |some o=>have e:=M a o L;rw[C]at e;cases e;refine j (λ_=>Z8) (λ_=>.inl rfl) (.inr ⟨_,vs.toArray,_,L,rfl,rfl,rfl,by rw[cy,O.length];exact Q,by simpa using R⟩) (λb u z=>by have B:Z8=Z9 u:=z;cases B) (λb z=>absurd rfl z) λz=>absurd rfl z
 |none=>
  refine j (λb=>if b=a then Z9 (.fM {cls:=.type "list",data:=.seq vs.toArray} (.lst (ns.map V.int)))else Z8) (λb=>?_) (.inl (.inr ⟨{cls:=.type "list",data:=.seq vs.toArray},sf rfl⟩)) (λb u z=>?_) (λb z=>?_) λ_=>L
  .by_cases f:b=a
   .exact .inr ⟨_,_,sf f⟩
   .exact .inl (sg f)
  .by_cases f:b=a
   .have B:=(sf f).symm.trans z;cases B;subst f;exact⟨C,by rw[ah];exact Q,vs,_,R,C⟩
   .have B:=(sg f).symm.trans z;cases B
  .by_cases f:b=a
   .exact f
   .exact absurd (sg f) z
theorem walk_of {l:W.OpenLaw}{K:eu->Z5}{B:World->CXT}{C:World->Sp}
  (hn:l.most=Z9 n) (p:n<=ba) (r:d.params.defaults=[]) (I:Room k qb)
  (J:∀w h,L w h->(K w.params).In h)
  (F:∀w mg fa h,(K w.params).In h->h.Ns bo mg->mg d.name=Z9 (.ref fa)->∃fd,(∀s u,pu s fd ⟨[u],[]⟩ [(x,u)])/\∀base,(K w.params).In base->base.Ns bo mg->FnOk l.prog w (K w.params) mg base (B w) k fa fd [x] (C w))
  (t:∀w H a (ns:List Int),ns.length<=n->Only H->SqL (K w.params) H a (ns.map V.int)->C w [.ref a] H (λv _=>v=.bl Z7) λ_ _ _=>False)
  (y:∀w H s e z,B w [] H s (λ_ _ _=>False) e z->False):
  W.WalkO q loose U L l.row.toRowW d [] (λf D=>PySem.call f D):=by
 refine Att.attach_call hn r λw s₀ j mg X fa o Z cd M a D ns G Y ho hd N A m i c O=>?_;have E:=J w _ Y;obtain⟨fd,P,Q⟩:=F w mg fa _ E G.T.g A;exact zg6 E G.T.g G.T.b G.T.builtins G.T.nolimit O m i (bq c p) I Q P (λH R S=>t w H a ns c R S) λH e z=>y w H j e z
def z0t (s:Stmt):Arguments:=match s with
 |.FunctionDef _ a _ _ _ _ _ _ _ _=>a
 |_=>{posonlyargs:=[],args:=[],vararg:=Z8,kwonlyargs:=[],kw_defaults:=[],kwarg:=Z8,defaults:=[]}
def z0j (s:Stmt):List Stmt:=match s with
 |.FunctionDef _ _ b _ _ _ _ _ _ _=>b
 |_=>[]
def z0b (s:Stmt):Scope:=match s with
 |.FunctionDef _ _ _ _ _ _ sc _ _ _=>sc
 |_=>{kind:=.function,names:=[],isGenerator:=Z6,isCoroutine:=Z6}
abbrev lW:CXT:=λ_ _ _ _ _ _=>False
abbrev E0:XK:=λ_ _ _=>False
theorem Nv:z2x lW X E0:=λ_ _ _ _ _ _ _ h=>h.elim
structure Fun (K:Z5)(x qual:Str)(st:Stmt)(f:Addr)(fd:d5):Prop where
 ex:∃(oc:Value) (od:Option Addr) (kV doc pm:Value) (an:Option Addr) (oO ct:Value) (wz:Array (Option Value)),fd=Z0 x qual (z0t st) (z0j st) (z0b st) .none kV doc pm an oO ct/\K.lookup f=Z9 ⟨oc,od,.func fd,wz⟩/\ZZ K oO qual=Z7
 kp:Z2 K (.ref f)=Z7
section
variable {P:cu}{w:World}{K:Z5}{mg:Str->Option Value}{base:Heap}
theorem Fun.ok {st:Stmt}(F:Fun K x b st f fd)(S:FnScope N ps (z0b st))(len:∀vs H Q E,g vs H Q E->vs.length=ps.length)
  (c:∀a A outer s H vs Q E,Room k (A.deeper (nr b (z0b st) s.heap.objs.size f a))->g vs H Q E->∃t,PSs (gY lW P w K mg base N b (z0b st) f a A outer s H E).vU (z0j st) t/\t {nx:=λ_ i=>Q .aM i,rt:=Q} (start N vs) H):FnOk P w K mg base lW (k+1) f fd ps g:=by
 obtain⟨oc,od,kV,j,o,an,a,ct,l,rfl,m,d⟩:=F.ex;refine zlf m d S len λA outer s H vs Q E n e=>?_;obtain⟨t,h,q⟩:=c a A outer s H vs Q E n e;exact⟨t,h.vU,q⟩
theorem Fun.binds {st:Stmt}(F:Fun K x c st f fd)
  (h:∀kV a d an b ct e,e.length=ps.length->nq (Z0 x c (z0t st) (z0j st) (z0b st) .none kV a d an b ct) ⟨e,[]⟩=pure (ps.zip e)):Binds K fd ps []:=by
 obtain⟨oc,od,kV,a,d,an,b,ct,g,rfl,j,i⟩:=F.ex;exact .all (h kV a d an b ct)
theorem Br {st:Stmt}{kV:Value}(l:K.lookup f=Z9 ⟨oc,od,.func (Z0 x a (z0t st) (z0j st) (z0b st) .none kV d g an b ct),e⟩) (c:ZZ K b a=Z7) (k:Z2 K (.ref f)=Z7):Fun K x a st f (Z0 x a (z0t st) (z0j st) (z0b st) .none kV d g an b ct):=⟨⟨oc,od,kV,d,g,an,b,ct,e,rfl,l,c⟩,k⟩
end
theorem iP {B:Prop}(h:B):if Z6=Z7 then A else B:=h
theorem iQ {B:Prop}(h:A):if Z7=Z7 then A else B:=h
def Same (H H':Hp):Prop:=∀b o,H b=Z9 o->H' b=Z9 o
theorem Same.refl (H:Hp):Same H H:=λ_ _ h=>h
theorem Same.trans (a:Same H H1)(b:Same H1 d):Same H d:=λc o h=>b c o (a c o h)
theorem Nw:CallR X (.builtin "len") (λb H Q=>∃a kvs,b=[V.ref a]/\H a=Z9 (.dK kvs)/\Q (.int kvs.length) H):=by
 rintro c s f H b g Q I r ⟨a,kvs,rfl,d,q⟩
 obtain⟨u,rfl,rfl⟩:=vals1 r;exact MZ I (.inl d) λt h e=>⟨.int kvs.length,H,e,⟨t,rfl⟩,q⟩
end L2
set_option maxHeartbeats 5000000
namespace L2
open PySem PySem.Spec PyProof.Rows
def eX (env:Env):List (Str×gx)->List (Str×Addr)->List (Str×Addr)
 | [],cs=>cs
 |(n,k)::r,cs=>eX env r (if(k==.free)=Z7 then(n,(env.cells.lookup n).getD 0)::cs else cs)
theorem GL:∀l (cs:List (Str×Addr)),(∃c,cs.lookup x=Z9 c)->∃c,(eX env l cs).lookup x=Z9 c
 | [],cs,h=>h
 |(n,k)::r,cs,h=>by
  refine GL r _ ?_;split
  .by_cases e:(x==n)=Z7
   .exact⟨_,by rw[cw,e]⟩
   .obtain⟨c,hc⟩:=h;exact⟨c,by rw[cw,qc.mpr e];exact hc⟩
  .exact h
theorem Bs:∀(l:List (Str×gx)) cs,l.lookup x=Z9 .free->∃c,(eX env l cs).lookup x=Z9 c
 | [],cs,h=>by simp at h
 |(n,k)::r,cs,h=>by
  rw[cw]at h;cases e:(x==n)with
  |true=>rw[e]at h;have a:=si h;subst a;exact GL r _ ⟨_,by rw[sf (by rfl),cw,e]⟩
  |false=>rw[e]at h;exact Bs r _ h
theorem zem:∀l cs,(∀y∈l,y.2=.free->∃c,env.cells.lookup y.1=Z9 c)->(∀x c,cs.lookup x=Z9 c->env.cells.lookup x=Z9 c)->
  ∀x c,(eX env l cs).lookup x=Z9 c->env.cells.lookup x=Z9 c
 | [],cs,_,h=>h
 |(n,k)::r,cs,i,h=>by
  refine zem r _ (λy j=>i y (a9 _ j)) λx c a=>?_;by_cases f:(k==NameKind.free)=Z7
  .rw[sf f,cw]at a;cases e:(x==n)with
   |true=>
    rw[e]at a;have g:x=n:=by simpa using e
    obtain⟨d,hd⟩:=i (n,k) bg (by simpa using f);have b:=hd;rw[b]at a;rw[g,b];exact a
   |false=>rw[e]at a;exact h x c a
  .rw[sg f]at a;exact h x c a
theorem GN (h:∀y∈scope.names,y.2=.free->∃c,env.cells.lookup y.1=Z9 c):closureFor scope env=pure (eX env scope.names []):=by
 have go:∀l cs,(∀y∈l,y.2=.free->∃c,env.cells.lookup y.1=Z9 c)->
   (forIn l cs λx r=>if(x.2==NameKind.free)=Z7 then(do let a <-cellOf env x.1;pure (ForInStep.yield ((x.1,a)::r)):Sem _)else pure (ForInStep.yield r))=(pure (eX env l cs):Sem _):=by
  intro l
  induction l with
  |nil=>intro cs _;rfl
  |cons y r i=>
   intro cs f;obtain⟨n,k⟩:=y;rw[List.forIn_cons];unfold eX;by_cases b:(k==NameKind.free)=Z7
   .obtain⟨c,hc⟩:=f (n,k) bg (by simpa using b);have d:=hc;have e:cellOf env n=pure c:=by unfold cellOf;rw[d]
    rw[sf b,sf b];rw[e,d];exact i ((n,c)::cs) λy g=>f y (a9 _ g)
   .rw[sg b,sg b];exact i cs λy g=>f y (a9 _ g)
 have:=go scope.names [] h
 first
  |exact this
  |(show(forIn scope.names [] _>>=λr=>pure r)=_;rw[show(forIn scope.names ([]:List (Str×Addr)) _:Sem _)=_ from this];rfl)
theorem zbf (hc:∀y∈scope.names,y.2≠.cell):
  (relabel scope env).names.lookup x=Z9 .cell\/(relabel scope env).names.lookup x=Z9 .free->scope.names.lookup x=Z9 .free:=by
 have go:∀(l:List (Str×gx)),(∀y∈l,y.2≠ .cell)->∀k,(k=NameKind.cell\/k=NameKind.free)->
   (l.map λ(n,k)=>if(k==.free&&env.scope.kind==.function&&env.kindOf n==Z9 .cell)then(n,NameKind.cell)else(n,k)).lookup x=Z9 k->l.lookup x=Z9 .free:=by
  intro l
  induction l with
  |nil=>intro _ k _ h;simp at h
  |cons y r g=>
   intro d k a h;obtain⟨n,q⟩:=y;rw[bn]at h;rw[cw];by_cases c:(q==NameKind.free&&env.scope.kind==.function&&env.kindOf n==Z9 .cell)=Z7
   .have b:q=.free:=by
     simp at c;simpa using c.1.1
    dsimp only at h
    rw[sf c,cw]at h;cases e:(x==n)with
    |true=>rw[b]
    |false=>rw[e]at h;exact g (λy f=>d y (a9 _ f)) k a h
   .dsimp only at h
    rw[sg c,cw]at h;cases e:(x==n)with
    |true=>
     rw[e]at h;have b:=si h;rcases a with a|a
     .exact absurd (b.trans a) (d (n,q) bg)
     .show Z9 q=Z9 .free;rw[b,a]
    |false=>rw[e]at h;exact g (λy f=>d y (a9 _ f)) k a h
 rintro(h|h)
 .exact go scope.names hc .cell (.inl rfl) h
 .exact go scope.names hc .free (.inr rfl) h
def blk (X:Cx)(scope:Scope)(N':List Str)(C:Addr)(fp:List Addr)(s:bb)(H:Hp):Cx:={X with N:=N',s₀:=s,gV:=H,env:=compEnvC scope (eX X.env scope.names []) C X.env,outer:=X.stack,stack:=X.stack,ex:=fp,fn:=λ_=>Z6,xe:=λ_ _=>False,fx:=[]}
structure BlkScope (X:Cx)(scope:Scope)(N':List Str)(nt:Nat)(js:List Nat):Prop where
 kind:scope.kind=.function
 lX:∀y∈scope.names,y.2≠.cell
 names:∀y∈scope.names,y.2=.local->scope.names.lookup y.1=Z9 .local
 frees:∀y∈scope.names,y.2=.free->X.env.scope.names.lookup y.1=Z9 .cell\/X.env.scope.names.lookup y.1=Z9 .free
 nd:N'.Nodup
 len:N'.length=nt+js.length
 pl:∀(i j:Nat),js[i]?=Z9 j->N'[nt+i]?=X.N[j]?/\∃x,X.N[j]?=Z9 x/\scope.names.lookup x=Z9 .free
def oP (NX:List Str)(GO scope:Scope)(N':List Str)(nt:Nat)(js:List Nat):Bool:=
 (scope.kind==.function)&&scope.names.all (λy=>!(y.2==.cell))&&scope.names.all (λy=>!(y.2==.local)||(scope.names.lookup y.1==Z9 .local))&&
 scope.names.all (λy=>!(y.2==.free)||(GO.names.lookup y.1==Z9 .cell)||(GO.names.lookup y.1==Z9 .free))&&decide N'.Nodup&&(N'.length==nt+js.length)&&
 (N'.drop nt==js.map λj=>NX.getD j "")&&js.all (λj=>decide (j<NX.length)&&(scope.names.lookup (NX.getD j "")==Z9 .free))
theorem GP (hN:X.N=f)(hs:X.env.scope=c)(h:oP f c scope k l m=Z7):BlkScope X scope k l m:=by
 unfold oP at h;simp only[cn,br,decide_eq_true_eq,beq_iff_eq,kr,qd,beq_eq_false_iff_ne]at h;obtain⟨⟨⟨⟨⟨⟨⟨n,o⟩,p⟩,q⟩,r⟩,s⟩,t⟩,u⟩:=h;refine⟨n,o,λy d e=>(p y d).resolve_left (λz=>z e),λy d e=>?_,r,s,λi j g=>?_⟩
 .rw[hs];rcases q y d with(z|z)|z
  .exact absurd e z
  .exact .inl z
  .exact .inr z
 .obtain⟨a,b⟩:=u j (ar g);have e:X.N[j]?=Z9 (f.getD j ""):=by rw[hN,aa,ac a];rfl
  refine⟨?_,_,e,b⟩;rw[e,<-List.getElem?_drop,t,ao,g];rfl
def eY (nt:Nat)(js:List Nat)(σ:St):St:=bz nt Z8++js.map λj=>σ.getD j Z8
theorem zm5 (B:BlkScope X scope Q G R)(I:Inv X D J H s)
  (w:∀b∈fp,FpOk X D H b) (S:∀b∈fp,∃o,s.heap.get? b=Z9 o)
  (k:∀b o,s.heap.get? b=Z9 o->O.get? b=Z9 o) (hn:O.Ns s.heap.objs.size m1):
  Inv (blk X scope Q s.heap.objs.size fp s H) D (eY G R J) H {s with heap:=O,toks:=t1}:=by
 have g:∀x c,(eX X.env scope.names []).lookup x=Z9 c->X.env.cells.lookup x=Z9 c:=zem _ _ (λy P hf=>I.ok.has y.1 (B.frees y P hf)) (λx c h=>by simp at h);have lt:∀b o,s.heap.get? b=Z9 o->b≠s.heap.objs.size:=λb o e=>cr (bj e);refine⟨⟨I.ok.mod,B.kind,I.ok.glob,I.ok.blt,ae _,λx y c O h2=>I.ok.inj x y c (g x c O) (g y c h2),λx T=>Bs _ _ (zbf B.lX T),λx c h=>(by cases h),I.ok.hd,I.ok.frames,.inl rfl,λb E=>?_,I.bs,bq I.ok.iG I.sz,λb o e E=>?_,λb E T=>?_,I.stack,I.gI,λ_ _ z=>by cases z⟩,rfl,I.bare,Un.kept k,⟨m1,hn,λi x v e1 A e3=>?_⟩,λx c e=>?_,I.hok.fresh (ae _),λx c e=>I.aZ x c (g x c e),λp hp=>?_,I.hok.kept k,?_,λ_ _ z=>by cases z⟩
 .obtain⟨o,K⟩:=S b E;exact⟨lt b o K,λx c h=>(w b E).2.2.2.2.1 x c (g x c h)⟩
 .rcases(w b E).2.2.2.1 with z|z
  .exact I.ok.fN b o e z
  .exact absurd (ci (bj e) (bq I.ok.iG z)) (cx _)
 .rcases bh.mp (I.gG b T)with z|z
  .exact(w b E).2.1 z
  .exact(w b E).2.2.1 z
 .--a name with a value:one of Wk zh
  have hi:G<=i:=by refine Nat.le_of_not_lt λh=>?_;unfold eY at A;rw[c7 (cf▸h),dh,sf h]at A;cases A
  unfold eY at A;rw[b7 (cf▸hi),cf,ao]at A;cases U:R[i-G]? with
  |none=>rw[U]at A;cases A
  |some j=>
   rw[U]at A;have C:J.getD j Z8=Z9 v:=si A;obtain⟨L,y,P,f⟩:=B.pl (i-G) j U;rw[oa hi]at L;have V:x=y:=by have M:Q[i]?=Z9 x:=e1;rw[L,P]at M;exact(si M).symm
   subst V
   have W:J[j]?=Z9 (Z9 v):=by
    rw[aa]at C;cases q:J[j]? with
    |none=>rw[q]at C;cases C
    |some z=>rw[q]at C;simp_all
   have N:=B.frees (x,.free) (PySem.mem_of_lookup f) rfl;obtain⟨m,Wl,hl⟩:=I.loc;obtain⟨u,r,l⟩:=hl j x v P W (N.elim (λz=>.inr (.inl z)) (λz=>.inr (.inr z)));refine⟨u,r,?_⟩;rcases l with⟨Y,_⟩|⟨Y,c,hc,F⟩
   .rcases N with z|z
    .have t:X.env.scope.names.lookup x=Z9 .local:=Y;rw[z]at t;cases t
    .have t:X.env.scope.names.lookup x=Z9 .local:=Y;rw[z]at t;cases t
   .obtain⟨d,hd⟩:=Bs scope.names [] f;have Z:d=c:=by have:=g x d hd;rw[hc]at this;cases this;rfl
    subst Z;refine .inr ⟨?_,d,hd,?_⟩
    .rcases e3 with z|z|z
     .exfalso
      have:∀(l:List (Str×gx)),l.lookup x=Z9 .free->(l.map λ(n,k)=>if(k==.free&&X.env.scope.kind==.function&&X.env.kindOf n==Z9 .cell)then(n,NameKind.cell)else(n,k)).lookup x≠Z9 .local:=by
       intro l
       induction l with
       |nil=>intro h;simp at h
       |cons y r ih=>
        intro h;obtain⟨n,q⟩:=y;rw[cw]at h;rw[bn]
        dsimp only
        cases e:(x==n)with
        |true=>
         rw[e]at h;have hq:=si h;subst hq;split
         .rw[cw,e];intro z;cases z
         .rw[cw,e];intro z;cases z
        |false=>
         rw[e]at h;split
         .rw[cw,e];exact ih h
         .rw[cw,e];exact ih h
      exact this _ f z
     .exact .inl z
     .exact .inr z
    .obtain⟨o,K,wB⟩:=F;exact⟨o,k _ _ K,wB⟩
 .obtain⟨v,o,K,hd⟩:=I.cell x c (g x c e);exact⟨v,o,k _ _ K,hd⟩
 .obtain⟨q1,q2,q3,q4,q5⟩:=I.pin p hp;refine⟨k _ _ q1,q2,lt _ _ q1,λz=>?_,q5⟩;rcases bh.mp (I.gG p.1 z)with z|z
  .exact q3 z
  .exact q4 z
 .show(eY G R J).length=Q.length;unfold eY;rw[ax,cf,ah,B.len]
section
variable (M:Model)(A:gi)(env:Env)
abbrev fZ:Value->bb->Prop:=λ_ _=>False
def Ny (acc:Value)(Z:bb->Prop)(x:Value):bb->Prop:=wpAny M A (call (.builtin "list.append") [acc,x]) (λ_=>Z) fZ
def Bt (elt:Expr)(acc:Value)(Z:bb->Prop)(ok:Bool)(s:bb):Prop:=if ok=Z7 then wpAny M A (eval elt env) (Ny M A acc Z) fZ s else Z s
def Nz (ifs:List Expr)(elt:Expr)(acc:Value)(Z:bb->Prop):bb->Prop:=wpAny M A (forIn ifs Z7 λc r=>if r=Z7 then(qp c env (eval c env)>>=λok=>pure (ForInStep.yield ok))else pure (ForInStep.yield r)) (Bt M A env elt acc Z) fZ
def Bu (tg:Expr)(ifs:List Expr)(elt:Expr)(acc:Value)(Z:bb->Prop)(v:Value):bb->Prop:=wpAny M A (o0 tg env v) (λ_=>Nz M A env ifs elt acc Z) fZ
def Bv (tg:Expr)(ifs:List Expr)(elt:Expr)(it acc:Value)(End Z:bb->Prop)(r:Option Value)(s:bb):Prop:=match r with
 |some v=>wpAny M A (ko tg it v) (λ_=>Bu M A env tg ifs elt acc Z v) fZ s
 |none=>End s
end
theorem zma (I:Nat->bb->Prop)
  (one:∀k t,I k t->wpAny (model P w) A (pyNext it) (Bv (model P w) A env g a b it c (R (.ok .next)) λi=>∃m,m<k/\I m i) fZ t) n (h:I n s):
  i6 (model P w) A (.compLoop (.ListComp b [⟨g,d,a,0⟩] scope pos) 0 it c env) R s:=by
 apply codeAny_loop rfl I _ n h;intro k t j;apply wpAny_noted;apply wpAny_noRaise;apply am;apply jj;apply am;refine aK (one k t j) ?_
 rintro(_|v) r e
 .exact bt e
 apply am;refine aK e λ_ u l=>?_;apply am;refine aK l λ_ y o=>?_;apply am;refine aK o ?_
 rintro(_|_) z f
 .exact bt ⟨rfl,f⟩
 apply am;apply am;refine aK f λx B p=>?_;apply am;exact aK p λ_ C q=>bt (bt ⟨rfl,q⟩)
theorem Un.but (u:Un fs ex H f h g)(i:h.get? C=Z8)(c:gr C g j):Un fs ex H f h j:=by
 have ne:∀b o,h.get? b=Z9 o->b≠C:=λb o e z=>by rw[z,i]at e;cases e
 exact⟨λb o e n d a=>c.extBut b o (ne b o e) (u.keep b o e n d a),λb o e n d a=>let⟨sl,q⟩:=u.slot b o e n d a;⟨sl,c.extBut b _ (ne b o e) q⟩,u.free,λb o e a=>let⟨o',q⟩:=u.there b o e a;⟨o',c.extBut b _ (ne b o e) q⟩,u.cI,u.cC,u.cJ⟩
theorem HOk.but (ok:HOk P w H h)(d:H C=Z8)(f:gr C h g):HOk P w H g:=λa o e=>by
 refine(ok a o e).stay (λb u c q=>f.extBut b u (λz=>?_) q) (λ_ q=>q) λ_ _ q=>q;rcases c with c|c
 .rw[z]at c;rw[<-c,d]at e;cases e
 .rw[z,d]at c;cases c
def oQ (X:Cx)(ifs:List Expr)(t:TT):Prop:=∀(pins:List (Addr×Obj)) (s:bb) (σ:St) (H:Hp) (Q:Bool->Hp->Prop),Inv X pins σ H s->t σ H Q->wpAny (model X.prog X.w) X.A (forIn ifs Z7 λc r=>if r=Z7 then do let ok <-qp c X.env (eval c X.env);pure (ForInStep.yield ok)else pure (ForInStep.yield r)) (TP X pins σ Q) X.xe s
def wC:TT:=λ_ H Q=>Q Z7 H
theorem GQ:oQ X [] wC:=λ_ _ _ H _ I h=>wpAny_tests_nil ⟨H,I,h⟩
theorem GS (h:PT X c t):oQ X [c] t:=λa s b H Q I q=>wpAny_tests_one (h a s b H Q I q)
def fR (a b:St):Prop:=a.length=b.length/\∀(i:Nat) v,a[i]?=Z9 (Z9 v)->b[i]?=Z9 (Z9 v)
def wD (wi:TI)(g:TG)(tc:TT)(te:TE)(em:St->St):TE:=λσ H Q=>wi σ H λJ H1=>∀l,H1 l=Z8->∃P:Nat->Nat->List V->Hp->Prop,(∃m,P 0 m [] (upd H1 l (.lst [])))/\∀i m acc H2,P i m acc H2->(J.stop i H2/\Q (.ref l) H2)\/(J.go i H2/\acc.length<ba/\∃N:List V->Hp->Prop,(∀lY H',N lY H'->∃m',m'<m/\P (i+1) m' lY H')/\∀x H3,J.gR i H2 x H3->g x (em σ) H3 λjZ H4=>fR (em σ) jZ/\tc jZ H4 λb H5=>if b=Z7 then te jZ H5 λy H6=>H6 l=Z9 (.lst acc)/\N (acc++[y]) (upd H6 l (.lst (acc++[y])))else N acc H5)
theorem z55 {Q:VK}{RR:Value->Addr->Result->bb->Prop}(hc:X.calm=Z7)(B:BlkScope X scope S nt js)
  (hg:∀C D s H,PG (blk X scope S C D s H) tg g) (ht:∀C D s H,oQ (blk X scope S C D s H) ifs tc) (he:∀C D s H,PE (blk X scope S C D s H) elt te)
  (h2:vZ X a σ tg (λJ H1=>∀l,H1 l=Z8->∃P:Nat->Nat->List V->Hp->Prop,(∃m,P 0 m [] (upd H1 l (.lst [])))/\∀i m f K,P i m f K->(J.stop i K/\Q (.ref l) K)\/(J.go i K/\f.length<ba/\∃N:List V->Hp->Prop,(∀F t,N F t->∃m',m'<m/\P (i+1) m' F t)/\∀x H3,J.gR i K x H3->g x (eY nt js σ) H3 λjZ H4=>fR (eY nt js σ) jZ/\tc jZ H4 λb H5=>
  if b=Z7 then te jZ H5 λy H6=>H6 l=Z9 (.lst f)/\N (f++[y]) (upd H6 l (.lst (f++[y])))else N f H5)) wa j)
  (NA:∀l C t U,(∃m,U.heap.Ns C m)->t C=Z8->C≠X.env.locals->C∉X.fs->(∀x c,X.env.cells.lookup x=Z9 c->c≠C)->X.s₀.heap.objs.size<=C->(∀p∈X.pn++a,p.1≠C)->(∀h',gr C U.heap h'->Inv X a σ t {U with heap:=h'})->Q (.ref l) t->RR (.ref l) C (.ok .next) U):
  wpAny (model X.prog X.w) X.A (newList []) (λf I=>wpAny (model X.prog X.w) X.A (newFunctionEnv scope X.env.globals (eX X.env scope.names []) [] X.env.qual Z8 .none (Z9 X.env)) (λwF Bw=>i6 (model X.prog X.w) X.A (.compStart (.ListComp elt [⟨tg,iter,ifs,0⟩] scope pos) 0 wa f {wF with scope:=relabel scope X.env}) (RR f wF.locals) Bw) E I) E j:=by
 obtain⟨it,D,tn,J,K,rfl,I2,T,Bz,f2,q⟩:=h2;refine qe (wpAny_newFunctionEnv B.lX (by intro y hy;simp at hy) (λh₁ L M=>?_) B.kind);have wG:∀b∈D,∃o,j.heap.get? b=Z9 o:=λb h=>let⟨o,e,_⟩:=T.obj 0 _ Bz b h;⟨o,e⟩;have hl:=I2.hok.fresh (ae _);have W:=I2.lnew (t':=j.toks) .nil (cz _);obtain⟨P,⟨m0,p0⟩,turn⟩:=q _ hl;generalize NB:j.heap.push {cls:=.type "list",dict:=Z8,data:=.seq ([]:List Value).toArray}=G at L M W ⊢;generalize NC:j.heap.objs.size=l at hl W p0 turn ⊢;have O:∀b o,j.heap.get? b=Z9 o->G.get? b=Z9 o:=λb o e=>NB▸aw _ e;have k:=λb o e=>M.extBut b o (cr (bj e)) (aw _ e);have f3:∀b∈D,FpOk X a (upd K l (.lst [])) b:=λb h=>by obtain⟨o,e⟩:=wG b h;exact⟨by rw[aE (NC▸cr (bj e))];exact(f2 b h).1,(f2 b h).2⟩
 have J0:=zm5 (t1:=j.toks+([]:List (Str×Value)).length) B W f3 (λb h=>let⟨o,e⟩:=wG b h;⟨o,O b o e⟩) k L;have BA:∀{t:Hp},(∀b∈D,t b=Z8)->∀b∈D,FpOk (blk X scope S G.objs.size D {j with heap:=G,toks:=j.toks} (upd K l (.lst []))) a t b:=λhn b h=>⟨hn b h,(J0.ok.iF b h).1,J0.ok.fO b h,.inl h,(J0.ok.iF b h).2,(f2 b h).2.2.2.2.2⟩;have out:∀{t:Hp} {U:bb},Inv (blk X scope S G.objs.size D {j with heap:=G,toks:=j.toks} (upd K l (.lst []))) a (eY nt js σ) t U->∀h',gr G.objs.size U.heap h'->Inv X a σ t {U with heap:=h'}:=λ{t U} Jn h' sb=>by exact W.call' Jn.os (Un.but Jn.base (g7 (ae _)) sb) (Jn.hok.but Jn.free sb) Jn.bare λb h=>⟨(f3 b h).2.2.2.1,(f3 b h).2.1,(f3 b h).2.2.2.2.1,(f3 b h).2.2.2.2.2⟩
 have nC:∀x c,X.env.cells.lookup x=Z9 c->c≠G.objs.size:=λx c e z=>by obtain⟨v,q⟩:=W.cell x c e;exact absurd q.lt (z▸cx _)
 have loop:∀I,I={j with heap:=h₁,toks:=j.toks+([]:List (Str×Value)).length}->
   i6 (model X.prog X.w) X.A (.compLoop (.ListComp elt [⟨tg,iter,ifs,0⟩] scope pos) 0 (.ref it) (.ref l) (compEnvC scope (eX X.env scope.names []) G.objs.size X.env)) (RR (.ref l) G.objs.size) I:=by
  rintro I rfl
  refine zma (λn s'=>∃i f t,Inv (blk X scope S G.objs.size D {j with heap:=G,toks:=j.toks} (upd K l (.lst []))) a (eY nt js σ) t s'/\tn i s'.heap/\(∀b∈D,t b=Z8)/\P i n f t) ?_ m0 ⟨0,[],_,J0,T.keep _ _ _ Bz λb _ o e=>k b o (O b o e),λb h=>(f3 b h).1,p0⟩
  rintro n s3 ⟨i,f,H3,Jn,GU,GV,w3⟩
  rcases turn i n f H3 w3 with⟨stop,qn⟩|⟨go,ND,N,hN,step⟩
  .refine aK (T.done (blk X scope S G.objs.size D {j with heap:=G,toks:=j.toks} (upd K l (.lst []))) rfl rfl rfl hc i a s3 _ H3 (λ_ _=>False) Jn (BA GV) GU stop) λr s4 ⟨hr,I4⟩=>?_;subst hr;obtain⟨m,hn,_⟩:=id I4.loc;exact NA l G.objs.size H3 s4 ⟨m,hn⟩ I4.free (Nat.ne_of_gt (W.lt)) (W.vQ (ae _)) nC W.sz (λp hp=>cr (bj (W.pin p hp).1)) (out I4) qn
  .refine aK (T.item (blk X scope S G.objs.size D {j with heap:=G,toks:=j.toks} (upd K l (.lst []))) rfl rfl rfl hc i a s3 _ H3 (λ_ _=>False) Jn (BA GV) GU go) λr s4 ⟨u,hr,h4⟩=>?_;subst hr;refine aK h4 λ_ s5 ⟨x,H5,I5,r5,y5,BB,BD⟩=>aK (hg _ _ _ _ _ s5 _ H5 x u _ (I5.pinned (BA BD) (T.obj _ _ BB)) r5 (step x H5 y5)) λ_ s6 ⟨σ6,H6,I6,kp,q6⟩=>aK (ht _ _ _ _ _ s6 σ6 H6 _ I6 q6) λb s7 ⟨H7,I7,q7⟩=>?_
   have R:∀{s7:bb} {H7:Hp} {F:List V},Inv (blk X scope S G.objs.size D {j with heap:=G,toks:=j.toks} (upd K l (.lst []))) (a++z7w D s5.heap) σ6 H7 s7->N F H7->
     ∃m,m<n/\∃i f t,Inv (blk X scope S G.objs.size D {j with heap:=G,toks:=j.toks} (upd K l (.lst []))) a (eY nt js σ) t s7/\tn i s7.heap/\(∀b∈D,t b=Z8)/\P i m f t:=λ{s7 H7 F} I7 w7=>by
    obtain⟨n',hm,w7⟩:=hN _ _ w7;refine⟨n',hm,i+1,F,H7,(I7.bW).weak kp.1 kp.2,T.keep _ _ _ BB λb h o e=>(I7.pin (b,o) (bf _ (bf _ (uS h e)))).1,λb h=>?_,w7⟩;obtain⟨o,e,d⟩:=T.obj _ _ BB b h;exact(I7.pin (b,o) (bf _ (bf _ (uS h e)))).2.1
   cases b with
   |false=>exact R I7 q7
   |true=>exact aK (he _ _ _ _ _ s7 σ6 H7 _ I7 q7) λy' s8 ⟨y,H8,I8,r8,NF,w8⟩=>aK (Bq _ s8 σ6 H8 (.ref l) [y] (.ref l) [y'] (λ_ H9=>N (f++[y]) H9) I8 rfl (.cons r8 .nil) ⟨l,f,y,rfl,rfl,NF,ND,w8⟩) λ_ s9 ⟨v9,H9,I9,r9,w9⟩=>R I9 w9
 exact codeAny_compStart_list (loop _ rfl) (T.self _ 0 _ _ _ (T.keep _ _ _ Bz λb _ o e=>k b o (O b o e)) (loop _ rfl))
theorem zad (hc:X.calm=Z7)(B:BlkScope X scope d k n)(o:PI X j a wi)
  (p:∀C b s H,PG (blk X scope d C b s H) j g) (r:∀C b s H,oQ (blk X scope d C b s H) e tc) (t:∀C b s H,PE (blk X scope d C b s H) f te)
  (hs:∀x,ge a X.env x=pure x:=by intro _;rfl):PE X (.ListComp f [⟨j,a,e,0⟩] scope pos) (wD wi g tc te (eY k n)):=by
 intro c s u H Q I h;refine lx rfl hs (GN λy w hf=>I.ok.has y.1 (B.frees y w hf)) B.kind B.names (aK (o c s u H _ I h) λv z A=>aK A λD K E=>?_);refine z55 hc B p r t E ?_;intro l C F z ns _ _ _ _ _ _ i q;obtain⟨m,hn⟩:=ns;exact⟨m,hn,λG J=>⟨.ref l,F,i G J,rfl,q⟩⟩
def NG (i:Nat)(t:TE):TS:=λD σ H=>t σ H λv H1=>D.nx (σ.set i (Z9 v)) H1
theorem zam (hc:X.calm=Z7)(hN:X.N.Nodup)(hy:X.N[i]?=Z9 y)(S:X.env.scope.names.lookup y=Z9 .local)(E:∀u,(y,u)∉X.fx)(B:BlkScope X scope F nt js)(hi:PI X G a wi)
  (hg:∀C d s H,PG (blk X scope F C d s H) G g) (ht:∀C d s H,oQ (blk X scope F C d s H) f tc) (he:∀C d s H,PE (blk X scope F C d s H) j te)
  (J:i5 (.ListComp j [⟨G,a,f,0⟩] scope pos) (Z9 (.Name y py)) k.line X.env=pure Z7)
  (hs:∀x,ge a X.env x=pure x:=by intro _;rfl):PS X (.Assign [.Name y py] (.ListComp j [⟨G,a,f,0⟩] scope pos) k) (NG i (wD wi g tc te (eY nt js))):=by
 intro c s K H D I h;rw[exec_Assign_Name_used _ _ _ _ J];apply am;apply jj;apply am;refine am (gj (lx (use:=Z9 (o0 (.Name y py) X.env)) rfl hs (GN λz E hf=>I.ok.has z.1 (B.frees z E hf)) B.kind B.names (aK (hi c s K H _ I h) λv L h1=>aK h1 λwa s2 h2=>?_)) (λ_ T hq=>bt (bt hq)) λ_ _ e=>e);refine z55 (Q:=λv H1=>D.nx (K.set i (Z9 v)) H1) (RR:=λM C=>compPost (model X.prog X.w) X.A X.xe (Z9 (o0 (.Name y py) X.env)) (λ_ T=>SP X c D .next T) M C) hc B hg ht he h2 ?_;intro l C U L ns V W nF nC nS nP O q;obtain⟨m,hn⟩:=ns;have I1:=O L.heap (.refl ..);obtain⟨t,es,ep,P,n,R⟩:=id hn
 have I2:Inv X (c++[(C,t)]) K U L:=I1.gK λp hp=>(bw.mp hp).elim (λz=>I1.pin p (bf _ z)) λz=>by
  have e:p=(C,t):=by simpa using z
  subst e;exact⟨P,V,W,nF,λv z=>by have z':=z;rw[n]at z';cases z'⟩
 refine pp (z5k I2 hN hy (.inl S) (v:=.ref l) rfl (λsR r=>?_) ⟨.inr S,E⟩);refine⟨m,⟨t,es,ep,(r.pin (C,t) (bf _ (bf _ (az.mpr rfl)))).1,n,R⟩,λh' sb=>⟨_,U,?_,q⟩⟩;exact(r.bW).turned (λb o hb e=>sb.extBut b o hb e) V W (.inr nS) nC nP
theorem ztt {J:It}{g:TG}{tc:TT}{te:TE}{Q:VK}(P:Nat->List V->Hp->Prop)(hn:n<=ba)(h0:P 0 [] (upd A l (.lst [])))
  (q:∀i a H,P i a H->a.length<=i)
  (h:∀a H,P n a H->J.stop n H/\Q (.ref l) H) (u:∀i a H,i<n->P i a H->J.go i H)
  (r:∀i a H x j,i<n->P i a H->J.gR i H x j->g x k j λc v=>fR k c/\tc c v λb s=>if b=Z7 then te c s λy t=>t l=Z9 (.lst a)/\P (i+1) (a++[y]) (upd t l (.lst (a++[y])))else P (i+1) a s):
  ∃P:Nat->Nat->List V->Hp->Prop,(∃m,P 0 m [] (upd A l (.lst [])))/\∀i m a f,P i m a f->(J.stop i f/\Q (.ref l) f)\/(J.go i f/\a.length<ba/\∃N:List V->Hp->Prop,(∀d w,N d w->∃z,z<m/\P (i+1) z d w)/\∀x j,J.gR i f x j->g x k j λc v=>fR k c/\tc c v λb s=>if b=Z7 then te c s λy t=>t l=Z9 (.lst a)/\N (a++[y]) (upd t l (.lst (a++[y])))else N a s):=by
 refine⟨λi m a H=>i<=n/\m=n-i/\P i a H,⟨n,cz _,rfl,h0⟩,?_⟩
 rintro i m a f ⟨C,rfl,p⟩
 by_cases o:i<n
 .have D:=q i a f p;exact .inr ⟨u i a f o p,by omega,P (i+1),λd w B=>⟨n-(i+1),by omega,o,rfl,B⟩,λx j y=>r i a f x j o p y⟩
 .have e:i=n:=by omega
  subst e;exact .inl (h a f p)
def wH:V->Option Int->Option Int->Hp->VK->Prop:=λx lo hi H Q=>∃z,x=.str z/\z.length<=ba/\Q (.str (Txt.slice z lo hi)) H
theorem zi:oM X wH:=by
 rintro b s h H x v r w m n sl Q I p hs pl f ⟨z,rfl,c,q⟩
 obtain⟨t,rfl⟩:=p;refine⟨"str",_,PySem.F.slot_str_getitem.lookup,qw _ _ _,?_⟩;obtain⟨o,d,hc,hd⟩:=hs;have a:∀g k,EP X b h Q (.str (Txt.slice z m n) g) {s with toks:=k}:=λg k=>⟨.str _,H,I.tok _,⟨_,rfl⟩,q⟩;cases pl with
 |none=>
  cases f with
  |none=>exact ik (l:=Z8) (u:=Z8) (st:=Z8) ⟨o,d,hc,hd⟩ rfl (kt ⟨bq (Txt.slice_le z _ _) c,a⟩)
  |int j e=>exact ik (l:=Z8) (u:=Z9 (j,e)) (st:=Z8) ⟨o,d,hc,hd⟩ rfl (kt ⟨bq (Txt.slice_le z _ _) c,a⟩)
 |int i ti=>
  cases f with
  |none=>exact ik (l:=Z9 (i,ti)) (u:=Z8) (st:=Z8) ⟨o,d,hc,hd⟩ rfl (kt ⟨bq (Txt.slice_le z _ _) c,a⟩)
  |int j e=>exact ik (l:=Z9 (i,ti)) (u:=Z9 (j,e)) (st:=Z8) ⟨o,d,hc,hd⟩ rfl (kt ⟨bq (Txt.slice_le z _ _) c,a⟩)
def Own (K:Z5)(mg:Str->Option Value)(x:Str)(st:Stmt)(ps:List Str):Prop:=∃f fd,Fun K x x st f fd/\mg x=Z9 (.ref f)/\Z2 K (.ref f)=Z7/\Binds K fd ps []
def Cal (P:cu)(w:World)(K:Z5)(mg:Str->Option Value)(base:Heap)(k:Nat)(x:Str)(ps:List Str)(sp:Sp):Prop:=∃f fd,FnOk P w K mg base lW k f fd ps sp/\mg x=Z9 (.ref f)/\Z2 K (.ref f)=Z7/\Binds K fd ps []
section
variable {K:Z5}{mg:Str->Option Value}
theorem zq4 {st:Stmt}{kV:Value}(X:K.In h)(G:h.Ns bo mg)
  (a:ZY K bo x=Z9 (Z9 (.ref f))) (l:K.lookup f=Z9 ⟨oc,od,.func (Z0 x x (z0t st) (z0j st) (z0b st) .none kV e i an d ct),j⟩) (c:ZZ K d x=Z7) (k:Z2 K (.ref f)=Z7)
  (b:∀kV e i an d ct g,g.length=ps.length->nq (Z0 x x (z0t st) (z0j st) (z0b st) .none kV e i an d ct) ⟨g,[]⟩=pure (ps.zip g)):Own K mg x st ps:=
 ⟨f,_,Br l c k,W.mg_of X G a,k,(Br l c k).binds b⟩
end
def isStar:Expr->Bool
 |.Starred ..=>Z7
 |_=>Z6
theorem fH (h:isStar e=Z6):dk (e::es) env=(Z6,eval e env)::dk es env:=by cases e<;>first|rfl|cases h
theorem lZ:∀{es:List Expr},(es.all λe=> !isStar e)=Z7->(jl pos (dk es env)).any (·.1)=Z6
 | [],_=>rfl
 |e::es,h=>by have a:=au.mp (c9▸h);rw[fH (by simpa using a.1)];show(Z6||(jl pos (dk es env)).any (·.1))=Z6;rw[lZ a.2];rfl
section
variable {X:Cx}{x:Str}{p pos:Pos}{e:Expr}{es:List Expr}{t:TA}{id:String}{r:List V->Hp->VK->Prop}
theorem eP (a:PE X e te)(hr:PA X es t)(hs:isStar e=false:=by rfl):PA X (e::es) (oK te t):=zc a hr (fH hs)
theorem zj (hc:CallR X (.builtin id) r)(hm:X.mg x=Z8)(c:dg x=Z9 (.builtin id))(d:PA X (e::es) t)(a:((e::es).all λe=> !isStar e)=true:=by rfl)(f:Gl X x:=by rfl)(hn:x≠"__name__":=by decide)(b:WL x:=by decide):PE X (.Call (.Name x p) (e::es) [] pos) (lV r t):=by rw[c9,cn]at a;exact zh7 hc f hm c d hn b (fH (by simpa using a.1)) (lZ a.2)
theorem zk (hc:CallR X (.type T) r)(hm:X.mg x=Z8)(c:dg x=Z9 (.type T))(d:PA X (e::es) t)(a:((e::es).all λe=> !isStar e)=true:=by rfl)(f:Gl X x:=by rfl)(hn:x≠"__name__":=by decide)(b:WL x:=by decide):PE X (.Call (.Name x p) (e::es) [] pos) (lV r t):=by rw[c9,cn]at a;exact zd5 hc f hm c d hn b (fH (by simpa using a.1)) (lZ a.2)
theorem zfq (C:Cal X.prog X.w X.K X.mg X.base k x ps d)(hr:Room g X.A)(h:PA X (e::es) t)(a:((e::es).all fun e=> !isStar e)=true:=by rfl)(i:k<=g:=by decide)(j:Gl X x:=by rfl)
  (c:WL x:=by decide):PE X (.Call (.Name x p) (e::es) [] pos) (sP d [] E0 t):=by
 obtain⟨f,fd,F,m,kp,b⟩:=C;rw[c9,cn]at a;exact zf0 F (hr.mono i) j m kp b .nil Nv h c (fH (by simpa using a.1)) (lZ a.2)
end
def jM:Expr->Bool
 |.ListComp ..=>Z7
 |.SetComp ..=>Z7
 |.DictComp ..=>Z7
 |_=>Z6
theorem sX (h:jM e=Z6)(a:Option Expr)(n:Nat)(env:Env):i5 e a n env=pure false:=by cases e<;>first|rfl|cases h
theorem wI (hN:X.N.Nodup)(a:X.N[i]?=Z9 x)(b:Loc X.env.scope x)(c:PE X e d)(hs:jM e=false:=by rfl)(f:Sto X x:=by first|exact⟨.inl rfl,nofun⟩|exact⟨.inr rfl,nofun⟩|assumption): PS X (.Assign [.Name x pos'] e pos) (jV d (uR i)):=zec hN a b c (sX hs _ _ _) f
theorem oR (a:PE X e te)(hs:jM e=false:=by rfl):PS X (.Expr e pos) (vW te):=Mr a (sX hs _ _ _)
def BE (K:Z5):R2:=λx y H Q=>lB (λi j=>.int (i+j)) x y H Q\/(∃i j,x=.str i/\y=.str j/\i.length+j.length<=ba/\Q (.str (i++j)) H)
def wJ:R2:=λx y H Q=>lB (λi j=>.bl (decide (i<j))) x y H Q
def wK:R2:=λx y H Q=>lB (λi j=>.bl (decide (i<=j))) x y H Q
def wL:R2:=λx y H Q=>lB (λi j=>.bl (decide (j<i))) x y H Q
def BF (K:Z5):V->Option Int->Option Int->Hp->VK->Prop:=λx lo hi H Q=>wy K x lo hi H Q\/wH x lo hi H Q
def NH (K:Z5):List V->Hp->VK->Prop:=λxs H Q=>(∃z,xs=[.str z]/\z.length<=ba/\Q (.int z.length) H)\/(∃p ys,xs=[.ref p]/\(SqL K H p ys\/cP K H p ys)/\Q (.int ys.length) H)
theorem NI:OpR X (i0 .Add) (BE X.K):=MG.or MQ
theorem BH:OpR X (dr .Lt) wJ:=MM
theorem BJ:OpR X (dr .LtE) wK:=MN
theorem BK:OpR X (dr .Gt) wL:=MO
theorem NJ:lC X (uU X.K):=GJ
theorem NK:oM X (BF X.K):=Nl.or zi
theorem NL:CallR X (.builtin "len") (NH X.K):=Nn.or Nm
def gZ (t T:String):Bool:=t==T||(t=="bool"&&T=="int")
def oS:List String:=["NoneType","bool","int","str","list","tuple","dict"]
def tysB:List String:=["str","int","bool","tuple","list"]
theorem NM (K:Z5):∀t∈oS,∀T∈tysB,W.kitOne K (.type t) (.type T)=Z9 (gZ t T):=by intro t a T b;simp only[oS,bh,il,or_false]at a;simp only[tysB,bh,il,or_false]at b;rcases a with rfl|rfl|rfl|rfl|rfl|rfl|rfl<;>rcases b with rfl|rfl|rfl|rfl|rfl<;>kernel_rfl
section
variable {H:Hp}{Q:VK}{K:Z5}
theorem NN (h:Q (.int (i+j)) H):BE K (.int i) (.int j) H Q:=.inl ⟨i,j,rfl,rfl,h⟩
theorem NO (c:i.length+j.length<=ba)(h:Q (.str (i++j)) H):BE K (.str i) (.str j) H Q:=.inr ⟨i,j,rfl,rfl,c,h⟩
theorem NP (h:Q (.bl (decide (i<j))) H):wJ (.int i) (.int j) H Q:=⟨i,j,rfl,rfl,h⟩
theorem NQ (h:Q (.bl (decide (i<=j))) H):wK (.int i) (.int j) H Q:=⟨i,j,rfl,rfl,h⟩
theorem NR (h:Q (.bl (decide (j<i))) H):wL (.int i) (.int j) H Q:=⟨i,j,rfl,rfl,h⟩
end
theorem Same.upd (h:H p=Z8):Same H (L2.upd H p o):=λb u e=>by rw[aE (bO e h)];exact e
theorem GW (h:n<=1000):n<=ba:=bq h (by rw[db];decide)
end L2
namespace Mi
open PySem
abbrev D:=av
set_option genInjectivity true in
inductive Res (α:Type) where
 |ok (a:α)|exc (e:D)|no
namespace Res
def bind {α β:Type}(x:Res α)(f:α->Res β):Res β:=match x with
 |.ok a=>f a
 |.exc e=>.exc e
 |.no=>.no
instance:Monad Res where
 pure:=.ok
 bind:=Res.bind
theorem aB {b c:Type}(a:b)(f:b->Res c):(Res.ok a>>=f)=f a:=rfl
def dE {α:Type}:Option α->Res α
 |some a=>.ok a
 |none=>.no
theorem aA {c d:Type}{x:Res c}{f:c->Res d}{b:d}(h:(x>>=f)=.ok b):∃a,x=.ok a/\f a=.ok b:=by
 cases x with
 |ok a=>exact⟨a,rfl,h⟩
 |exc e=>cases h
 |no=>cases h
end Res
mutual
def imm:av->Bool
 |.tuple xs=>imms xs
 |.list _=>Z6
 |.dict _=>Z6
 |.none=>Z7
 |.bool _=>Z7
 |.int _=>Z7
 |.str _=>Z7
def imms:List av->Bool
 | []=>Z7
 |x::xs=>imm x&&imms xs
end
theorem wM:∀{a:List D},imms a=Z7↔∀x∈a,imm x=Z7
 | []=>by simp[imms]
 |x::a=>by rw[imms,cn,wM];simp
abbrev eQ:D->D->Bool:=ZW
mutual
def shal:Nat->av->Bool
 |0,.tuple _=>Z6
 |0,.list _=>Z6
 |n+1,.tuple xs=>eZ n xs
 |n+1,.list xs=>eZ n xs
 |_,.dict _=>Z6
 |_,.none=>Z7
 |_,.bool _=>Z7
 |_,.int _=>Z7
 |_,.str _=>Z7
def eZ:Nat->List av->Bool
 |_,[]=>Z7
 |n,x::xs=>shal n x&&eZ n xs
end
theorem qM:∀{a:List D},eZ n a=Z7↔∀x∈a,shal n x=Z7
 | []=>by simp[eZ]
 |x::a=>by rw[eZ,cn,qM];simp
def truth:av->Bool
 |.none=>Z6
 |.bool b=>b
 |.int i=>!decide (i=0)
 |.str x=>!decide (x.length=0)
 |.tuple xs=>!xs.isEmpty
 |.list xs=>!xs.isEmpty
 |.dict es=>!es.isEmpty
def fG (n:Nat)(i:Int):Option Nat:=if 0<=i then(if i<n then Z9 i.toNat else Z8)else if -(n:Int)<=i then Z9 (i+n).toNat else Z8
def bM {α:Type}(xs:List α)(i:Int):Option α:=(fG xs.length i).bind λj=>xs[j]?
def cM (n d:Nat):Option Int->Nat
 |none=>d
 |some v=>if v<0 then(v+(n:Int)).toNat else min v.toNat n
def cut {α:Type}(xs:List α)(lo hi:Option Int):List α:=(xs.drop (cM xs.length 0 lo)).take (cM xs.length xs.length hi-cM xs.length 0 lo)
def eqK:av->av->Bool
 |.int a,y=>match y with|.int b=>a==b|_=>Z6
 |.str a,y=>match y with|.str b=>decide (a=b)|_=>Z6
 |_,_=>Z6
def iH:av->Bool
 |.int _=>Z7
 |.str _=>Z7
 |_=>Z6
abbrev bA:=List (D×D)
def z0f (es:bA)(k:D):Option D:=(es.find? λe=>eqK e.1 k).map (·.2)
def dput (es:bA)(k v:D):bA:=if es.any (λe=>eqK e.1 k)then es.map (λe=>if eqK e.1 k then(e.1,v)else e)else es++[(k,v)]
def ent (e:D×D):D:=.tuple [e.1,e.2]
def iI:bA->List D->Option bA
 |es,[]=>Z9 es
 |es,p::ps=>match p with
  |.tuple [k,v]=>if iH k then iI (dput es k v) ps else Z8
  |_=>Z8
mutual
def sY:av->av->Bool
 |.int a,y=>match y with|.int b=>decide (a<b)|_=>Z6
 |.str a,y=>match y with|.str b=>decide (a.cps.toList<b.cps.toList)|_=>Z6
 |.tuple xs,y=>match y with|.tuple ys=>wN xs ys|_=>Z6
 |.none,_=>Z6
 |.bool _,_=>Z6
 |.list _,_=>Z6
 |.dict _,_=>Z6
def wN:List av->List av->Bool
 | [],ys=>!ys.isEmpty
 |x::xs,ys=>match ys with|y::ys=>if eQ x y then wN xs ys else sY x y| []=>Z6
end
open PySem.W
def runT {α:Type}(lt:Nat->Nat->Bool):KasT α->α
 |.ret a=>a
 |.ask i j k=>runT lt (k (lt i j))
abbrev dP:D:=.tuple [.str ⟨#[]⟩,.int 0]
def nY (xs:List D):List D:=if xs.length<2 then xs else(runT (λi j=>sY (xs.getD i dP) (xs.getD j dP)) (kas_sort xs.length)).toList.map λi=>xs.getD i dP
def isP2:D->Bool
 |.tuple [.str _,.int _]=>Z7
 |_=>Z6
theorem NS (h:isP2 d=Z7):∃z k,d=.tuple [.str z,.int k]:=by
 unfold isP2 at h;split at h
 .exact⟨_,_,rfl⟩
 .cases h
def hD:D->Bool
 |.int i=>decide (0<=i)
 |_=>Z6
def iR (xs:List D):Bool:=(xs.all isP2&&decide (xs.length<4))||(xs.all hD&&decide (xs.length<64))
def zl (n:Nat):KasT (Array Nat)->Bool
 |.ret a=>a.toList.isPerm (cc n)
 |.ask i j k=>zl n (k Z7)&&zl n (k Z6)
theorem NT (h:2<=n)(a:n<4):zl n (kas_sort n)=true:=by
 obtain rfl|rfl:n=2\/n=3:=by omega
 all_goals decide+kernel
theorem GX:∀{t:KasT (Array Nat)},zl n t=Z7->(runT lt t).toList.Perm (cc n)
 |.ret a,h=>List.isPerm_iff.mp h
 |.ask i j k,h=>GX (t:=k (lt i j)) (by
  have:=au.mp h;cases lt i j
  .exact this.2
  .exact this.1)
section
inductive G where
 |fr|od|al|nu
 deriving Inhabited,DecidableEq
abbrev Rho:=List (Option (G×D))
abbrev GD:=G×D
inductive Tg where
 |nm (i:Nat)|tp (is:List Nat)
 deriving Inhabited,DecidableEq
inductive C where
 |var (i:Nat)|aM|bl (b:Bool)|int (i:Int)|str (x:Str)|glob (k:Nat) (x:Str)|bin (op:qf) (a b:C)|neg (a:C)|cmp (op:CmpOp) (a b:C)|hD (neg:Bool) (a:C)|and (a b:C)|or (a b:C)|not (a:C)|sZ (c a b:C)|tup (xs:C)|lst (xs:C)|gL|ix (a b:C)|sl (a lo hi:C)|call (k:Nat) (f:Str) (args:C)|bi (f:String) (args:C)|agg (f:String) (a:C)|gZ (a:C) (ts:List String)|mt (m:String) (o args:C)|comp (nt:Nat) (js:List Nat) (N':List Str) (tg:Tg) (it cond elt:C)|eF (args:C)|enum (a:C)|tv (a:C)|tf (b:Bool) (x:Str)|nil|cons (a r:C)
 deriving Inhabited
inductive S where
 |nil|seq (a b:S)|bad|asg (t:Tg) (e:C)|mut (m:String) (i:Nat) (args:C)|drop (e:C)|ret (e:C)|ifS (c:C) (a b:S)|aV (t:Tg) (it:C) (b:S)|wh (n:Nat) (c:C) (b:S)|iS (c:Str)
 deriving Inhabited
inductive Out where
 |nx (ρ:Rho)|rt (g:G) (d:D)
abbrev Fn:=List D->Res GD
def bC:Nat:=1000000
def GY:G->G
 |.fr=>.al
 |.od=>.od
 |.al=>.al
 |.nu=>.nu
def wO:Option (Option GD)->Res GD
 |some (Z9 (g,d))=>.ok (if imm d then .fr else GY g,d)
 |_=>.no
def jN:D->Res Bool
 |.str x=>if x.length<=bC then .ok (!decide (x.length=0))else .no
 |d=>.ok (truth d)
def jO:G->G
 |.fr=>.fr
 |.od=>.al
 |.al=>.al
 |.nu=>.fr
def agG:G->G
 |.fr=>.fr
 |.od=>.al
 |.al=>.al
 |.nu=>.nu
def gJ (d:D)(g:G):G:=if imm d then .fr else g
def gN (d:D)(g:G):G:=match d with
 |.list xs=>if imms xs then .fr else g
 |d=>gJ d g
def cE (xs:List GD):G:=if xs.all (λx=>x.1==.fr)then .fr else if xs.all (λx=>x.1==.fr||x.1==.nu)then .nu else .al
def qN (xs:List GD):G:=if xs.all (λx=>x.1==.fr)then .fr else .al
def okIn (x:GD):Bool:=imm x.2||(x.1==.fr||x.1==.nu)
def cF (es:bA):Bool:=es.all λe=>imm e.2
def z1u:GD->GD
 |(g,d)=>if imm d then(.al,d)else match g,d with
  |.fr,.list xs=>(if imms xs then .fr else .nu,.list xs)
  |.fr,.dict es=>(if cF es then .fr else .nu,.dict es)
  |.fr,d=>(.nu,d)
  |.nu,d=>(.nu,d)
  |.od,d=>(.od,d)
  |.al,d=>(.al,d)
def z1g:GD->GD
 |(g,d)=>match g with|.od=>(.od,d)|_=>(.al,d)
def iT:Option GD->Option GD
 |some (.fr,d)=>Z9 (.al,d)
 |some (.nu,d)=>Z9 (.al,d)
 |s=>s
def tm:Option GD->Option GD
 |some (.al,d)=>if imm d then Z9 (.al,d)else Z8
 |s=>s
def tu:Rho->List Nat->List D->G->Option Rho
 |ρ,[],[],_=>Z9 ρ
 |ρ,i::is,d::ds,g=>tu (ρ.set i (Z9 (z1g (gJ d g,d)))) is ds g
 |_,_,_,_=>Z8
def fI:Tg->GD->Rho->Res Rho
 |.nm i,x,ρ=>.ok (ρ.set i (Z9 (z1g x)))
 |.tp is,(g,.tuple ds),ρ=>Res.dE (tu ρ is ds g)
 |_,_,_=>.no
def BL:D->Res D
 |.str x=>if x.length<=bC then .ok (.int x.length)else .no
 |.tuple xs=>.ok (.int xs.length)
 |.list xs=>.ok (.int xs.length)
 |.dict es=>.ok (.int es.length)
 |_=>.no
def dF:qf->D->D->Res D
 |.Add,.int a,.int b=>.ok (.int (a+b))
 |.Add,.str a,.str b=>if a.length+b.length<=bC then .ok (.str (a++b))else .no
 |.Add,.list a,.list b=>if a.length+b.length<=bC then .ok (.list (a++b))else .no
 |.Sub,.int a,.int b=>.ok (.int (a-b))
 |.Mult,.int a,.int b=>if(-(2 ^ 64)<a/\a<2 ^ 64)\/(-(2 ^ 64)<b/\b<2 ^ 64)then .ok (.int (a*b))else .no
 |.FloorDiv,.int a,.int b=>if 0<b/\b<2 ^ 200 then .ok (.int (a/b))else .no
 |.Mod,.int a,.int b=>if 0<b then .ok (.int (a%b))else .no
 |.Pow,.int a,.int b=>if 0<=b/\b<=1000/\a.natAbs<2 ^ 64 then .ok (.int (a ^ b.toNat))else .no
 |_,_,_=>.no
def inD (x:D):D->Res Bool
 |.list xs=>if shal 40 x&&eZ 40 xs then .ok (xs.any λy=>eQ y x)else .no
 |.tuple xs=>if shal 40 x&&eZ 40 xs then .ok (xs.any λy=>eQ y x)else .no
 |.dict es=>if iH x then .ok (z0f es x).isSome else .no
 |_=>.no
def cmpD:CmpOp->D->D->Res Bool
 |.Eq,x,y=>if shal 40 x&&shal 40 y then .ok (eQ x y)else .no
 |.NotEq,x,y=>if shal 40 x&&shal 40 y then .ok (!eQ x y)else .no
 |.Lt,.int a,.int b=>.ok (decide (a<b))
 |.LtE,.int a,.int b=>.ok (decide (a<=b))
 |.Gt,.int a,.int b=>.ok (decide (b<a))
 |.In,x,y=>inD x y
 |.NotIn,x,y=>inD x y>>=λb=>.ok (!b)
 |_,_,_=>.no
def dC:D->D->Res D
 |.list xs,.int i=>Res.dE (bM xs i)
 |.tuple xs,.int i=>Res.dE (bM xs i)
 |.str z,.int i=>if z.length<=bC then Res.dE ((bM z.cps.toList i).map λc=>.str ⟨#[c]⟩)else .no
 |.dict es,k=>if iH k then Res.dE (z0f es k)else .no
 |_,_=>.no
def lD (z:Str)(lo hi:Option Int):Str:=⟨(cut z.cps.toList lo hi).toArray⟩
def nZ:D->Option Int->Option Int->Res D
 |.list xs,lo,hi=>.ok (.list (cut xs lo hi))
 |.str z,lo,hi=>if z.length<=bC then .ok (.str (lD z lo hi))else .no
 |_,_,_=>.no
def tw:D->Res (Option Int)
 |.int i=>.ok (Z9 i)
 |_=>.no
def z4x:D->Res (List D)
 |.list xs=>.ok xs
 |.tuple xs=>.ok xs
 |_=>.no
def hG:List D->Option (List Str)
 | []=>Z9 []
 |.str b::r=>(hG r).map (b:: ·)
 |_=>Z8
def z4w:D->Res (Bool×List D)
 |.list xs=>.ok (Z7,xs)
 |.tuple xs=>.ok (Z6,xs)
 |_=>.no
def aggD (f:String)(l:Bool)(xs:List D):Res D:=
 if f="list"then .ok (.list xs)
 else if f="tuple"then .ok (.tuple xs)
 else if f="sorted"then(if l&&iR xs then .ok (.list (nY xs))else .no)
 else if f="dict"then Res.dE ((iI [] xs).map .dict)
 else .no
def vI:D->Option Int
 |.int i=>Z9 i
 |_=>Z8
def min2 (x y:D):Res D:=Res.dE ((vI x).bind λa=>(vI y).map λb=>.int (min a b))
def minD (xs:List D):Res D:=if xs.length=2 then min2 (xs.getD 0 .none) (xs.getD 1 .none)else .no
def j' (f:String)(xs:List D):Res D:=
 if f="len"then(match xs with| [x]=>BL x|_=>.no)
 else if f="int"then(match xs with| [.int a]=>.ok (.int a)| [.bool b]=>.ok (.int (if b then 1 else 0))|_=>.no)
 else if f="min"then minD xs
 else .no
def gO:D->String
 |.none=>"NoneType"|.bool _=>"bool"|.int _=>"int"|.str _=>"str"|.tuple _=>"tuple"|.list _=>"list"|.dict _=>"dict"
def iU (t T:String):Bool:=t==T||(t=="bool"&&T=="int")
def zm (sep:List Nat):List Str->List Nat
 | []=>[]
 |x::r=>x.cps.toList++(r.map λp=>sep++p.cps.toList).flatten
def qO (sep:Str)(xs:List Str):Str:=⟨(zm sep.cps.toList xs).toArray⟩
def BM (sep:Str)(xs:List Str):Nat:=(xs.map (·.length)).sum+xs.length*sep.length
def mtD (m:String)(o:D)(xs:List D):Res D:=
 if m="get"then(match o,xs with|.dict es,[k,d]=>if iH k then .ok ((z0f es k).getD d)else .no|_,_=>.no)
 else if m="join"then(match o,xs with|.str z,[.list ys]=>(match hG ys with|some ss=>if BM z ss<=bC then .ok (.str (qO z ss))else .no|none=>.no)|_,_=>.no)
 else .no
def iV:List D->Res (List D)
 | [.int n]=>if n<=bC/\-bC<=n then .ok ((cc n.toNat).map λ(i:Nat)=>.int i)else .no
 | [.int a,.int b]=>if -bC<=a/\b<=bC/\a<=bC/\-bC<=b then .ok ((cc (b-a).toNat).map λ(i:Nat)=>.int (a+i))else .no
 | [.int a,.int b,.int c]=>if -bC<=a/\b<=bC/\a<=bC/\-bC<=b/\0<c/\c<=bC then .ok ((cc (if a<b then((b-a-1)/c+1).toNat else 0)).map λ(i:Nat)=>.int (a+i*c))else .no
 |_=>.no
def z27:Nat->List D->List D
 |_,[]=>[]
 |i,x::xs=>.tuple [.int i,x]::z27 (i+1) xs
def seqR:D->Res (List D)
 |.list xs=>if decide (xs.length<=bC)then .ok xs else .no
 |.tuple xs=>if decide (xs.length<=bC)then .ok xs else .no
 |_=>.no
def oc:Option GD->List GD->List GD
 |some y,r=>y::r
 |none,r=>r
def kA (f:D->Res (Option GD)):List D->Res (List GD)
 | []=>.ok []
 |x::xs=>f x>>=λo=>kA f xs>>=λr=>.ok (oc o r)
variable (Κ:List D)(Φ:List Fn)
mutual
def aL:C->Rho->Res GD
 |.var i,ρ=>wO ρ[i]?
 |.aM,_=>.ok (.fr,.none)
 |.bl b,_=>.ok (.fr,.bool b)
 |.int i,_=>.ok (.fr,.int i)
 |.str x,_=>.ok (.fr,.str x)
 |.tf b _,_=>.ok (.fr,.bool b)
 |.glob k _,_=>match Κ[k]? with|some d=>if imm d then .ok (.fr,d)else .no|none=>.no
 |.bin op a b,ρ=>aL a ρ>>=λx=>aL b ρ>>=λy=>dF op x.2 y.2>>=λd=>.ok (gN d (cE [x,y]),d)
 |.neg a,ρ=>aL a ρ>>=λx=>match x.2 with|.int i=>.ok (.fr,.int (-i))|_=>.no
 |.cmp op a b,ρ=>aL a ρ>>=λx=>aL b ρ>>=λy=>cmpD op x.2 y.2>>=λb=>.ok (.fr,.bool b)
 |.hD ng a,ρ=>aL a ρ>>=λx=>.ok (.fr,.bool (match x.2 with|.none=>!ng|_=>ng))
 |.and a b,ρ=>aL a ρ>>=λx=>match x.2 with|.bool c=>if c then aL b ρ else .ok (.fr,.bool Z6)|_=>.no
 |.or a b,ρ=>aL a ρ>>=λx=>match x.2 with|.bool c=>if c then .ok (.fr,.bool Z7)else aL b ρ|_=>.no
 |.not a,ρ=>aL a ρ>>=λx=>jN x.2>>=λc=>.ok (.fr,.bool (!c))
 |.sZ c a b,ρ=>dN c ρ>>=λk=>if k then aL a ρ else aL b ρ
 |.tup xs,ρ=>eC xs ρ>>=λys=>.ok (gJ (.tuple (ys.map (·.2))) (cE ys),.tuple (ys.map (·.2)))
 |.lst xs,ρ=>eC xs ρ>>=λys=>.ok (cE ys,.list (ys.map (·.2)))
 |.gL,_=>.ok (.fr,.dict [])
 |.ix a b,ρ=>aL a ρ>>=λx=>aL b ρ>>=λy=>dC x.2 y.2>>=λd=>.ok (gJ d x.1,d)
 |.sl a lo hi,ρ=>aL a ρ>>=λx=>tx lo ρ>>=λl=>tx hi ρ>>=λh=>nZ x.2 l h>>=λd=>.ok (gN d (cE [x]),d)
 |.call k _ args,ρ=>eC args ρ>>=λys=>match Φ[k]? with|some m=>m (ys.map (·.2))>>=λr=>.ok (gJ r.2 (jO r.1),r.2)|none=>.no
 |.bi f args,ρ=>eC args ρ>>=λys=>j' f (ys.map (·.2))>>=λd=>.ok (gJ d .al,d)
 |.agg f a,ρ=>BN a ρ>>=λw=>aggD f w.2.1 w.2.2>>=λd=>.ok (gJ d (if imms w.2.2 then .fr else agG w.1),d)
 |.gZ a ts,ρ=>aL a ρ>>=λx=>.ok (.fr,.bool (ts.any λT=>iU (gO x.2) T))
 |.mt m o args,ρ=>aL o ρ>>=λx=>eC args ρ>>=λys=>mtD m x.2 (ys.map (·.2))>>=λd=>.ok (gJ d .al,d)
 |.comp nt js _ tg it cond elt,ρ=>evW it ρ>>=λw=>kA (λx=>fI tg (gJ x w.1,x) (bz nt Z8++js.map λj=>iT (ρ.getD j Z8))>>=λρ1=>dN cond ρ1>>=λk=>if k then aL elt ρ1>>=λy=>.ok (Z9 y)else .ok Z8) w.2>>=λys=>.ok (qN ys,.list (ys.map (·.2)))
 |_,_=>.no
def dN:C->Rho->Res Bool
 |.and a b,ρ=>dN a ρ>>=λc=>if c then dN b ρ else .ok Z6
 |.or a b,ρ=>dN a ρ>>=λc=>if c then .ok Z7 else dN b ρ
 |.not a,ρ=>dN a ρ>>=λc=>.ok (!c)
 |.nil,_=>.ok Z7
 |.tv a,ρ=>aL a ρ>>=λx=>jN x.2
 |_,_=>.no
def eC:C->Rho->Res (List GD)
 |.nil,_=>.ok []
 |.cons a r,ρ=>aL a ρ>>=λx=>eC r ρ>>=λxs=>.ok (x::xs)
 |_,_=>.no
def tx:C->Rho->Res (Option Int)
 |.nil,_=>.ok Z8
 |.tv a,ρ=>aL a ρ>>=λx=>tw x.2
 |_,_=>.no
def BN:C->Rho->Res (G×Bool×List D)
 |.tv a,ρ=>aL a ρ>>=λx=>z4w x.2>>=λp=>.ok (x.1,p)
 |_,_=>.no
def evW:C->Rho->Res (G×List D)
 |.eF args,ρ=>eC args ρ>>=λys=>iV (ys.map (·.2))>>=λxs=>.ok (.fr,xs)
 |.tv a,ρ=>aL a ρ>>=λx=>z4x x.2>>=λxs=>.ok (x.1,xs)
 |.enum a,ρ=>aL a ρ>>=λx=>seqR x.2>>=λxs=>.ok (.al,z27 0 xs)
 |_,_=>.no
end
def oT:Res Out->(Rho->Res Out)->Res Out
 |.ok (.nx ρ),k=>k ρ
 |r,_=>r
def dG (f:D->Rho->Res Out):List D->Rho->Res Out
 | [],ρ=>.ok (.nx ρ)
 |x::xs,ρ=>match f x ρ with
  |.ok (.nx eV)=>dG f xs eV
  |.ok (.rt g d)=>.ok (.rt g d)
  |.exc e=>.exc e
  |.no=>.no
def wQ (c:Rho->Res Bool)(f:Rho->Res Out):Nat->Rho->Res Out
 |0,_=>.no
 |n+1,ρ=>c ρ>>=λk=>if k then(match f ρ with
  |.ok (.nx eV)=>wQ c f n eV
  |.ok (.rt g d)=>.ok (.rt g d)
  |.exc e=>.exc e
  |.no=>.no)else .ok (.nx ρ)
def mC (m:String)(xs:List D)(ys:List GD):Res (List D):=
 if m="append"then(match ys with| [y]=>if okIn y&&decide (xs.length<bC)then .ok (xs++[y.2])else .no|_=>.no)
 else .no
def kB (ρ:Rho)(i:Nat):Bool:=match ρ[i]? with
 |some (Z9 (.fr,_))=>Z7
 |_=>Z6
def zo (i:Nat)(ρ:Rho):Res (G×List D×Rho):=match ρ[i]? with
 |some (Z9 (.fr,d))=>z4x d>>=λxs=>.ok (.al,xs,ρ.set i (Z9 (.al,d)))
 |_=>.no
def BO:Option GD->Option GD
 |some (.fr,.list xs)=>Z9 (.al,.list xs)
 |s=>s
def mD (x:GD)(ρ:Rho):Res (G×List D×Rho):=match x.2 with
 |.list xs=>if imms xs then .ok (.al,xs,ρ.map BO)else .no
 |_=>.no
def zp (x:GD):Bool:=match x.2 with
 |.list _=>!(x.1==.al)
 |d=>!(x.1==.al)||imm d
def oU (ys:List GD)(ρ:Rho):Res (G×List D×Rho):=match ys with
 | [x]=>if zp x then seqR x.2>>=λxs=>.ok (.al,z27 0 xs,ρ)else .no
 |_=>.no
def kE (it:C)(ρ:Rho):Bool:=match evW Κ Φ it ρ with
 |.ok w=>w.1==.al
 |_=>Z6
def qP (it:C)(ρ:Rho):Res (G×List D×Rho):=evW Κ Φ it ρ>>=λw=>if w.1==.al then .no else .ok (w.1,w.2,ρ)
def evF (it:C)(ρ:Rho):Res (G×List D×Rho):=match it with
 |.tv (.var i)=>if kB ρ i then zo i ρ else if kE Κ Φ it ρ then aL Κ Φ (.var i) ρ>>=λx=>mD x ρ else qP Κ Φ it ρ
 |.tv a=>if kE Κ Φ it ρ then aL Κ Φ a ρ>>=λx=>mD x ρ else qP Κ Φ it ρ
 |.enum a=>eC Κ Φ (.cons a .nil) ρ>>=λys=>oU ys ρ
 |it=>qP Κ Φ it ρ
def excOf:Res GD->Option Str
 |.exc (.str c)=>Z9 c
 |_=>Z8
def aQ:S->Rho->Res Out
 |.nil,ρ=>.ok (.nx ρ)
 |.seq a b,ρ=>oT (aQ a ρ) (aQ b)
 |.bad,_=>.no
 |.asg (.nm i) e,ρ=>aL Κ Φ e ρ>>=λx=>.ok (.nx (ρ.set i (Z9 (z1u x))))
 |.asg t e,ρ=>aL Κ Φ e ρ>>=λx=>fI t x ρ>>=λeV=>.ok (.nx eV)
 |.mut m i args,ρ=>eC Κ Φ args ρ>>=λys=>match ρ[i]? with
  |some (Z9 (.fr,.list xs))=>mC m xs ys>>=λwR=>.ok (.nx ((ρ.set i (Z9 (.fr,.list wR))).map tm))
  |_=>.no
 |.drop e,ρ=>aL Κ Φ e ρ>>=λ_=>.ok (.nx ρ)
 |.ret e,ρ=>match e with
  |.var i=>match ρ[i]? with
   |some (Z9 (g,d))=>.ok (.rt (if imm d then .fr else jO g) d)
   |_=>.no
  |e=>aL Κ Φ e ρ>>=λx=>.ok (.rt (jO x.1) x.2)
 |.ifS c a b,ρ=>dN Κ Φ c ρ>>=λk=>if k then aQ a ρ else aQ b ρ
 |.aV t it b,ρ=>evF Κ Φ it ρ>>=λw=>dG (λx ρ1=>fI t (gJ x w.1,x) ρ1>>=λwU=>aQ b wU) w.2.1 w.2.2
 |.wh n c b,ρ=>wQ (dN Κ Φ c) (aQ b) n ρ
 |.iS _,_=>.no
def NU (Κ:List D)(Φ:List Fn)(_:S)(_:Rho):Option Str:=Z8
def aR (n:Nat)(s:S)(ds:List D):Res GD:=match aQ Κ Φ s (ds.map (λd=>Z9 (.od,d))++bz (n-ds.length) Z8)with
 |.ok (.nx _)=>.ok (.fr,.none)
 |.ok (.rt g d)=>.ok (g,d)
 |_=>match NU Κ Φ s (ds.map (λd=>Z9 (.od,d))++bz (n-ds.length) Z8)with
  |some c=>.exc (.str c)
  |none=>.no
end
open PySem.Spec PyProof.Rows L2
def kD:Key->D
 |.inl i=>.int i
 |.inr x=>.str x
def keyOk:Key->Prop
 |.inl _=>True
 |.inr x=>ZV x=Z7
def KL (K:Z5)(a:Addr)(xs:List V):Prop:=∃(o:Obj) (eE:Array Value) (n:Nat),K.lookup a=Z9 o/\o.cls=.type "list"/\o.dict=Z8/\o.data=.seq eE n/\eE.size<=ba/\Vals xs eE.toList
abbrev Ad:=Option Addr
def FL (K:Z5)(H:Hp)(a:Addr)(xs:List V):Prop:=(∃o,H a=Z9 (.fM o (.lst xs)))\/KL K a xs
def nw (H:Hp):Ad->Prop
 |some a=>H a=Z8
 |none=>False
section
variable (K:Z5)(H:Hp)(B:Ad->Prop)
mutual
def Rep:V->av->Prop
 |v,.none=>v=.aM
 |v,.bool b=>v=.bl b
 |v,.int i=>v=.int i
 |v,.str x=>v=.str x/\ZV x=Z7
 |v,.tuple ds=>∃a vs,v=.ref a/\cP K H a vs/\Reps vs ds
 |v,.list ds=>∃a vs,v=.ref a/\((H a=Z9 (.lst vs)/\B (Z9 a))\/(FL K H a vs/\B Z8))/\Reps vs ds
 |v,.dict es=>∃a kvs,v=.ref a/\H a=Z9 (.dK kvs)/\B (Z9 a)/\aW kvs es
def Reps:List V->List av->Prop
 |vs,[]=>vs=[]
 |vs,d::ds=>∃v r,vs=v::r/\Rep v d/\Reps r ds
def aW:List (Key×V)->List (av×av)->Prop
 |kvs,[]=>kvs=[]
 |kvs,(kd,d)::es=>∃k v r,kvs=(k,v)::r/\kd=kD k/\keyOk k/\Rep v d/\aW r es
end
end
def Fix:HO->Prop
 |.tup _=>True
 |.fM _ (.lst _)=>True
 |.fM _ (.tup _)=>True
 |_=>False
section
variable {K:Z5}{H H':Hp}{B B':Ad->Prop}
theorem FL.keep (b:∀a o,H a=Z9 o->(B (Z9 a)\/Fix o)->H' a=Z9 o)(r:FL K H a c):FL K H' a c:=by
 rcases r with⟨o,r⟩|r
 .exact .inl ⟨o,b a _ r (.inr True.intro)⟩
 .exact .inr r
theorem _root_.L2.cP.keep (b:∀a o,H a=Z9 o->(B (Z9 a)\/Fix o)->H' a=Z9 o)(r:cP K H a c):cP K H' a c:=by
 rcases r with(r|⟨o,r⟩)|r
 .exact .inl (.inl (b a _ r (.inr True.intro)))
 .exact .inl (.inr ⟨o,b a _ r (.inr True.intro)⟩)
 .exact .inr r
mutual
theorem Rep.keep (hH:∀a o,H a=Z9 o->(B (Z9 a)\/Fix o)->H' a=Z9 o)(hB:∀a,B a->B' a):∀{v:V} (d:av),Rep K H B v d->Rep K H' B' v d
 |v,.none,r=>r
 |v,.bool b,r=>r
 |v,.int i,r=>r
 |v,.str x,r=>r
 |v,.tuple ds,r=>by obtain⟨a,vs,e,h,q⟩:=r;exact⟨a,vs,e,h.keep hH,Reps.keep hH hB ds q⟩
 |v,.list ds,r=>by
  obtain⟨a,vs,e,h,q⟩:=r;refine⟨a,vs,e,?_,Reps.keep hH hB ds q⟩;rcases h with⟨h,b⟩|h
  .exact .inl ⟨hH a _ h (.inl b),hB _ b⟩
  .exact .inr ⟨FL.keep hH h.1,hB _ h.2⟩
 |v,.dict es,r=>by obtain⟨a,kvs,e,h,b,q⟩:=r;exact⟨a,kvs,e,hH a _ h (.inl b),hB _ b,aW.keep hH hB es q⟩
theorem Reps.keep (hH:∀a o,H a=Z9 o->(B (Z9 a)\/Fix o)->H' a=Z9 o)(hB:∀a,B a->B' a):∀{vs:List V} (ds:List av),Reps K H B vs ds->Reps K H' B' vs ds
 |vs,[],r=>r
 |vs,d::ds,r=>by obtain⟨v,t,e,h,q⟩:=r;exact⟨v,t,e,Rep.keep hH hB d h,Reps.keep hH hB ds q⟩
theorem aW.keep (hH:∀a o,H a=Z9 o->(B (Z9 a)\/Fix o)->H' a=Z9 o)(hB:∀a,B a->B' a):∀{kvs:List (Key×V)} (es:List (av×av)),aW K H B kvs es->aW K H' B' kvs es
 |kvs,[],r=>r
 |kvs,(kd,d)::es,r=>by obtain⟨k,v,t,e,e2,ok,h,q⟩:=r;exact⟨k,v,t,e,e2,ok,Rep.keep hH hB d h,aW.keep hH hB es q⟩
end
theorem Rep.same (s:Same H H')(b:∀a,B a->B' a)(r:Rep K H B v d):Rep K H' B' v d:=Rep.keep (λa o e _=>s a o e) b d r
theorem Reps.same (s:Same H H')(b:∀a,B a->B' a)(r:Reps K H B c ds):Reps K H' B' c ds:=Reps.keep (λa o e _=>s a o e) b ds r
theorem Rep.sm (r:Rep K H B v d)(s:Same H H'):Rep K H' B v d:=r.same s λ_ z=>z
theorem Reps.sm (r:Reps K H B a ds)(s:Same H H'):Reps K H' B a ds:=r.same s λ_ z=>z
theorem aW.same (s:Same H H')(b:∀a,B a->B' a)(r:aW K H B c ds):aW K H' B' c ds:=aW.keep (λa o e _=>s a o e) b ds r
theorem Rep.weak (b:∀a,B a->B' a)(r:Rep K H B v d):Rep K H B' v d:=r.same (λ_ _ e=>e) b
theorem Reps.weak (b:∀a,B a->B' a)(r:Reps K H B v d):Reps K H B' v d:=r.same (λ_ _ e=>e) b
mutual
theorem Rep.aS:∀{v:V} (d:av),imm d=Z7->Rep K H B v d->Rep K H B' v d
 |v,.none,_,r=>r
 |v,.bool b,_,r=>r
 |v,.int i,_,r=>r
 |v,.str x,_,r=>r
 |v,.tuple ds,i,r=>by obtain⟨a,vs,e,h,q⟩:=r;exact⟨a,vs,e,h,Reps.aS ds (i) q⟩
 |v,.list ds,i,r=>by cases(show Z6=Z7 from i)
 |v,.dict es,i,r=>by cases(show Z6=Z7 from i)
theorem Reps.aS:∀{vs:List V} (ds:List av),imms ds=Z7->Reps K H B vs ds->Reps K H B' vs ds
 |vs,[],_,r=>r
 |vs,d::ds,i,r=>by have i:=au.mp (show(imm d&&imms ds)=Z7 from i);obtain⟨v,t,e,h,q⟩:=r;exact⟨v,t,e,Rep.aS d i.1 h,Reps.aS ds i.2 q⟩
end
mutual
theorem Rep.kF (hH:∀a o,H a=Z9 o->Fix o->H' a=Z9 o):∀{v:V} (d:av),imm d=Z7->Rep K H B v d->Rep K H' B' v d
 |v,.none,_,r=>r
 |v,.bool b,_,r=>r
 |v,.int i,_,r=>r
 |v,.str x,_,r=>r
 |v,.tuple ds,i,r=>by obtain⟨a,vs,e,h,q⟩:=r;exact⟨a,vs,e,h.keep (B:=λ_=>False) (λa o e f=>hH a o e (f.resolve_left id)),Reps.kF hH ds (i) q⟩
 |v,.list ds,i,r=>by cases(show Z6=Z7 from i)
 |v,.dict es,i,r=>by cases(show Z6=Z7 from i)
theorem Reps.kF (hH:∀a o,H a=Z9 o->Fix o->H' a=Z9 o):∀{vs:List V} (ds:List av),imms ds=Z7->Reps K H B vs ds->Reps K H' B' vs ds
 |vs,[],_,r=>r
 |vs,d::ds,i,r=>by have i:=au.mp (show(imm d&&imms ds)=Z7 from i);obtain⟨v,t,e,h,q⟩:=r;exact⟨v,t,e,Rep.kF hH d i.1 h,Reps.kF hH ds i.2 q⟩
end
theorem Reps.length:∀{vs:List V} {ds:List D},Reps K H B vs ds->vs.length=ds.length
 |vs,[],r=>by have e:vs=[]:=r;subst e;rfl
 |vs,d::ds,r=>by obtain⟨v,t,rfl,h,q⟩:=r;rw[bc,bc,q.length]
theorem Reps.get:∀{a:List V} {b:List D} {i:Nat} {d:D},Reps K H B a b->b[i]?=Z9 d->∃v,a[i]?=Z9 v/\Rep K H B v d
 |a,[],i,d,r,e=>by simp at e
 |a,d0::b,0,d,r,e=>by
  obtain⟨v,t,rfl,h,q⟩:=r;have:d0=d:=by simpa using e
  subst this;exact⟨v,rfl,h⟩
 |a,d0::b,i+1,d,r,e=>by obtain⟨v,t,rfl,h,q⟩:=r;obtain⟨u,c,f⟩:=q.get (by simpa using e);exact⟨u,by simpa using c,f⟩
theorem Reps.oV:∀{a:List V} {b:List D} {i:Nat} {v:V},Reps K H B a b->a[i]?=Z9 v->∃d,b[i]?=Z9 d/\Rep K H B v d
 |a,[],i,v,r,e=>by have c:a=[]:=r;subst c;simp at e
 |a,d0::b,0,v,r,e=>by
  obtain⟨u,t,rfl,h,q⟩:=r;have:u=v:=by simpa using e
  subst this;exact⟨d0,rfl,h⟩
 |a,d0::b,i+1,v,r,e=>by obtain⟨u,t,rfl,h,q⟩:=r;obtain⟨d,f,g⟩:=q.oV (by simpa using e);exact⟨d,by simpa using f,g⟩
theorem Reps.cons {v:V}{d:D}{vs:List V}{ds:List D}(h:Rep K H B v d)(r:Reps K H B vs ds):Reps K H B (v::vs) (d::ds):=⟨v,vs,rfl,h,r⟩
theorem Reps.append:∀{a b:List V} {c es:List D},Reps K H B a c->Reps K H B b es->Reps K H B (a++b) (c++es)
 |a,b,[],es,r,q=>by have e:a=[]:=r;subst e;exact q
 |a,b,d::c,es,r,q=>by obtain⟨v,t,rfl,h,p⟩:=r;exact⟨v,t++b,rfl,h,p.append q⟩
theorem Reps.take:∀{a:List V} {b:List D} n,Reps K H B a b->Reps K H B (a.take n) (b.take n)
 |a,b,0,r=>by rw[List.take_zero];exact rfl
 |a,[],n+1,r=>by have e:a=[]:=r;subst e;exact rfl
 |a,d::b,n+1,r=>by obtain⟨v,t,rfl,h,p⟩:=r;exact⟨v,t.take n,rfl,h,p.take n⟩
theorem Reps.drop:∀{a:List V} {b:List D} n,Reps K H B a b->Reps K H B (a.drop n) (b.drop n)
 |a,b,0,r=>r
 |a,[],n+1,r=>by have e:a=[]:=r;subst e;exact rfl
 |a,d::b,n+1,r=>by obtain⟨v,t,rfl,h,p⟩:=r;exact p.drop n
mutual
theorem Rep.there:∀{v:V} (d:av),Rep K H B v d->Rep K H (λa=>B a/\¬nw H a) v d
 |v,.none,r=>r
 |v,.bool b,r=>r
 |v,.int i,r=>r
 |v,.str x,r=>r
 |v,.tuple ds,r=>by obtain⟨a,vs,e,h,q⟩:=r;exact⟨a,vs,e,h,Reps.there ds q⟩
 |v,.list ds,r=>by
  obtain⟨a,vs,e,h,q⟩:=r;refine⟨a,vs,e,?_,Reps.there ds q⟩;rcases h with⟨h,b⟩|h
  .refine .inl ⟨h,b,λz=>?_⟩;have z':H a=none:=z;rw[h]at z';cases z'
  .exact .inr ⟨h.1,h.2,λz=>z⟩
 |v,.dict es,r=>by obtain⟨a,kvs,e,h,b,q⟩:=r;exact⟨a,kvs,e,h,⟨b,λz=>by have z':H a=none:=z;rw[h]at z';cases z'⟩,aW.there es q⟩
theorem Reps.there:∀{vs:List V} (ds:List av),Reps K H B vs ds->Reps K H (λa=>B a/\¬nw H a) vs ds
 |vs,[],r=>r
 |vs,d::ds,r=>by obtain⟨v,t,e,h,q⟩:=r;exact⟨v,t,e,Rep.there d h,Reps.there ds q⟩
theorem aW.there:∀{kvs:List (Key×V)} (es:List (av×av)),aW K H B kvs es->aW K H (λa=>B a/\¬nw H a) kvs es
 |kvs,[],r=>r
 |kvs,(kd,d)::es,r=>by obtain⟨k,v,t,e,e2,ok,h,q⟩:=r;exact⟨k,v,t,e,e2,ok,Rep.there d h,aW.there es q⟩
end
end
structure Fm where
 H0:Hp
 V:Addr->Prop
 O:Addr->Option Nat
 z:Prop
def Bin (F:Fm):Ad->Prop
 |some a=>F.O a=Z8/\F.H0 a=Z8/\F.V a
 |none=>False
def bU (F:Fm):Ad->Prop
 |some a=>F.V a
 |none=>F.z
def eG (F:Fm):Ad->Prop
 |some a=>F.H0 a≠Z8/\F.V a
 |none=>F.z
def Slot (K:Z5)(F:Fm)(H:Hp)(i:Nat):G->V->D->Prop
 |.fr,v,d=>∃p,v=.ref p/\F.O p=Z9 i/\((∃vs ds,d=.list ds/\H p=Z9 (.lst vs)/\Reps K H (Bin F) vs ds)\/(∃kvs es,d=.dict es/\H p=Z9 (.dK kvs)/\aW K H (Bin F) kvs es))
 |.od,v,d=>Rep K H (eG F) v d
 |.al,v,d=>Rep K H (bU F) v d
 |.nu,v,d=>Rep K H (Bin F) v d
structure StOk (K:Z5)(F:Fm)(H:Hp)(σ:L2.St)(ρ:Rho):Prop where
 ext:Same F.H0 H
 aN:∀a,H a=Z8->F.V a
 own:∀a i,F.O a=Z9 i->F.H0 a=Z8/\F.V a/\((∃xs,H a=Z9 (.lst xs))\/∃kvs,H a=Z9 (.dK kvs))
 len:σ.length=ρ.length
 sl:∀i g d,ρ[i]?=Z9 (Z9 (g,d))->∃v,σ[i]?=Z9 (Z9 v)/\Slot K F H i g v d
def BG (F:Fm)(H:Hp):G->Ad->Prop
 |.fr=>nw H
 |.od=>eG F
 |.al=>bU F
 |.nu=>λa=>nw H a\/Bin F a
section
variable {K:Z5}{F:Fm}{H H':Hp}{σ:L2.St}{ρ:Rho}
theorem Slot.same (s:Same H H')(h:Slot K F H i g v d):Slot K F H' i g v d:=by
 cases g with
 |fr=>
  obtain⟨p,e,o,h⟩:=h;refine⟨p,e,o,?_⟩;rcases h with⟨a,c,f,j,r⟩|⟨a,c,f,j,r⟩
  .exact .inl ⟨a,c,f,s _ _ j,r.same s λ_ b=>b⟩
  .exact .inr ⟨a,c,f,s _ _ j,r.same s λ_ b=>b⟩
 |od=>exact Rep.same s (λ_ b=>b) h
 |al=>exact Rep.same s (λ_ b=>b) h
 |nu=>exact Rep.same s (λ_ b=>b) h
theorem _root_.L2.Same.none (s:Same H H')(h:H' a=Z8):H a=none:=by
 cases e:H a with
 |none=>rfl
 |some o=>rw[s a o e]at h;cases h
theorem StOk.same (s:Same H H')(h:StOk K F H σ ρ):StOk K F H' σ ρ where
 ext:=λa o e=>s a o (h.ext a o e)
 aN:=λa e=>h.aN a (s.none e)
 own:=λa i e=>by
  obtain⟨c,j,b⟩:=h.own a i e;refine⟨c,j,?_⟩;rcases b with⟨f,b⟩|⟨f,b⟩
  .exact .inl ⟨f,s _ _ b⟩
  .exact .inr ⟨f,s _ _ b⟩
 len:=h.len
 sl:=λi g d e=>by obtain⟨v,c,b⟩:=h.sl i g d e;exact⟨v,c,b.same s⟩
theorem nw.back (s:Same H H')(h:nw H' a):nw H a:=by
 cases a with
 |none=>exact h
 |some a=>exact s.none h
theorem nw.aN (b:∀a,H a=Z8->F.V a)(h:nw H a):bU F a:=by
 cases a with
 |none=>exact h.elim
 |some a=>exact b a h
theorem eG.aN (h:eG F a):bU F a:=by
 cases a with
 |none=>exact h
 |some a=>exact h.2
theorem Bin.aN (h:Bin F a):bU F a:=by
 cases a with
 |none=>exact h.elim
 |some a=>exact h.2.2
theorem BG.back (s:Same H H')(h:BG F H' g a):BG F H g a:=by
 cases g with
 |fr=>exact nw.back s h
 |od=>exact h
 |al=>exact h
 |nu=>exact h.elim (λh=>.inl (nw.back s h)) .inr
theorem BG.aN (b:∀a,H a=Z8->F.V a)(h:BG F H g a):bU F a:=by
 cases g with
 |fr=>exact nw.aN b h
 |od=>exact eG.aN h
 |al=>exact h
 |nu=>exact h.elim (nw.aN b) Bin.aN
theorem Slot.rep (so:∀a i,F.O a=Z9 i->F.V a)(h:Slot K F H i g v d):Rep K H (bU F) v d:=by
 cases g with
 |fr=>
  obtain⟨p,e,o,h⟩:=h;rcases h with⟨c,j,rfl,f,r⟩|⟨c,j,rfl,f,r⟩
  .exact⟨p,c,e,.inl ⟨f,so _ _ o⟩,r.weak λ_ b=>b.aN⟩
  .exact⟨p,c,e,f,so _ _ o,aW.same (λ_ _ e=>e) (λ_ b=>b.aN) r⟩
 |od=>exact Rep.weak (λ_ b=>b.aN) h
 |al=>exact h
 |nu=>exact Rep.weak (λ_ b=>Bin.aN b) h
theorem StOk.iW (h:StOk K F H σ ρ):∀a i,F.O a=Z9 i->F.V a:=λa i e=>(h.own a i e).2.1
theorem StOk.rd (h:StOk K F H σ ρ){i:Nat}(e:wO ρ[i]?=.ok x):∃v,σ[i]?=Z9 (Z9 v)/\Rep K H (BG F H x.1) v x.2:=by
 cases c:ρ[i]? with
 |none=>rw[c]at e;cases e
 |some o=>
  cases o with
  |none=>rw[c]at e;cases e
  |some gd=>
   obtain⟨g,d⟩:=gd;rw[c]at e;obtain⟨v,j,a⟩:=h.sl i g d c;have k:=(Res.ok.inj e).symm;subst k;refine⟨v,j,?_⟩;by_cases f:imm d=Z7
   .show Rep K H (BG F H (if imm d=Z7 then _ else _)) v d;exact Rep.aS d f (a.rep h.iW)
   .show Rep K H (BG F H (if imm d=Z7 then _ else _)) v d;rw[sg f];cases g with
    |fr=>exact a.rep h.iW
    |od=>exact a
    |al=>exact a
    |nu=>exact Rep.weak (λ_ b=>.inr b) a
end
structure Gm where
 N:List Str
 sc:Scope
 blk:Bool:=Z6
 free:List Str
 fns:List (Str×Nat)
 cst:List Str
 cm:Bool:=Z7
 xc:Option (Str×Str):=Z8
 sub:List (Str×Str×Bool):=[]
 rs:List Str:=[]
 gP:List (Str×Str):=[]
 kp:List Str:=[]
section
variable (Γ:Gm)
def mE (i:Nat)(x:Str):Bool:=(Γ.N[i]?==Z9 x)&&(Γ.sc.names.lookup x==Z9 .local||Γ.sc.names.lookup x==Z9 .cell||Γ.sc.names.lookup x==Z9 .free)&& !(x==("__debug__":Str))&& !(x==("__classdict__":Str))
def lE (x:Str):Bool:=(Γ.sc.names.lookup x==Z9 .globalImplicit)&& !(x==("__debug__":Str))
def dH (x:Str):Bool:=lE Γ x&&Γ.free.contains x&& !(x==("__name__":Str))
def kG (i:Nat)(x:Str):Bool:=(Γ.N[i]?==Z9 x)&&(Γ.sc.names.lookup x==Z9 .local||(!Γ.blk&&Γ.sc.names.lookup x==Z9 .cell))&&(!Γ.kp.contains x&&Γ.xc.all λp=>!(p.1==x))
def BP:Bool:=Γ.xc.isNone&&Γ.kp.isEmpty
end
def tgIx:Tg->List Nat
 |.nm i=>[i]
 |.tp is=>is
def zq (scope sc:Scope):Scope:={scope with names:=scope.names.map λ(n,k)=>if(k==.free&&sc.kind==.function&&sc.names.lookup n==Z9 .cell)then(n,.cell)else(n,k)}
def plainT:Expr->Bool
 |.UnaryOp .Not _ _=>Z6
 |.BoolOp _ _ _=>Z6
 |.IfExp _ _ _ _=>Z6
 |.Compare _ _ _ _=>Z6
 |_=>Z7
def GZ:Expr->Bool
 |.Compare _ _ _ _=>Z7
 |_=>Z6
def z4b:Expr->Bool
 |.Slice _ _ _ _=>Z6
 |_=>Z7
def z0x:Expr->Bool
 |.Call (.Name _ _) [] [] _=>Z6
 |_=>Z7
def tF:Expr->Bool
 |.Set _ _ _=>Z6
 |_=>Z7
def isTup:Expr->Bool
 |.Tuple _ _ _=>Z7
 |_=>Z6
def wV:Expr->Option Str
 |.Name x _=>Z9 x
 |_=>Z8
def fB:Expr->Option Const
 |.Constant v _ _=>Z9 v
 |_=>Z8
def wW:Expr->Option (Expr×qf×Expr)
 |.BinOp l o r _=>Z9 (l,o,r)
 |_=>Z8
def wX:Expr->Option (UnaryOp×Expr)
 |.UnaryOp o x _=>Z9 (o,x)
 |_=>Z8
def mF:Expr->Option (Expr×List CmpOp×List Expr)
 |.Compare l o r _=>Z9 (l,o,r)
 |_=>Z8
def qQ:Expr->Option (BoolOp×List Expr×Pos)
 |.BoolOp o xs p=>Z9 (o,xs,p)
 |_=>Z8
def wY:Expr->Option (Expr×Expr×Expr)
 |.IfExp t x y _=>Z9 (t,x,y)
 |_=>Z8
def oW:Expr->Option (List Expr)
 |.Tuple es _ _=>Z9 es
 |_=>Z8
def tG:Expr->Option (List Expr)
 |.List es _=>Z9 es
 |_=>Z8
def BQ:Expr->Option (List (Option Expr)×List Expr)
 |.Dict k v _=>Z9 (k,v)
 |_=>Z8
def kI:Expr->Option (Expr×Expr)
 |.Subscript x i _=>Z9 (x,i)
 |_=>Z8
def wZ:Expr->Option (Option Expr×Option Expr×Option Expr)
 |.Slice l h s _=>Z9 (l,h,s)
 |_=>Z8
def BS:Expr->Option (Expr×List Expr×List qa×Pos)
 |.Call f es k p=>Z9 (f,es,k,p)
 |_=>Z8
def uV:Expr->Option (Expr×Str×Pos)
 |.Attribute x n p=>Z9 (x,n,p)
 |_=>Z8
def BU:Expr->Option (Expr×List Comprehension×Scope)
 |.ListComp el gs s _=>Z9 (el,gs,s)
 |_=>Z8
def bH {α:Type}:List α->Option α
 | [x]=>Z9 x
 |_=>Z8
def oX {α:Type}:List α->Option (α×α)
 | [x,y]=>Z9 (x,y)
 |_=>Z8
def iX (e:Expr):Option (Str×List Expr):=(BS e).bind λv=>if v.2.2.1.isEmpty then(wV v.1).map λx=>(x,v.2.1)else Z8
def tH (e:Expr):Option (Expr×Str×List Expr×Bool):=(BS e).bind λv=>if v.2.2.1.isEmpty then(uV v.1).map λu=>(u.1,u.2.1,v.2.1,u.2.2.endLine==v.2.2.2.line)else Z8
def qR (f g:Expr->Bool)(o:BoolOp)(p:Pos):List Expr->Bool
 |x::y::r=>f x&&(if r.isEmpty then g y else g (.BoolOp o (y::r) p))
 |_=>Z6
def xb (n:Bool)(f:Expr->Bool):List Expr->Bool
 | []=>n
 |t::r=>r.isEmpty&&f t
def xg:C->Bool
 |.nil=>Z7
 |_=>Z6
def kJ (f:Str->Bool)(e:Expr):Bool:=(wV e).any f
def BV (Γ:Gm):List Nat->List Expr->Bool
 | [],es=>es.isEmpty
 |i::is,es=>match es with|e::es=>kJ (kG Γ i) e&&BV Γ is es| []=>Z6
def qS (Γ:Gm):Tg->Expr->Bool
 |.nm i,e=>kJ (kG Γ i) e
 |.tp is,e=>Γ.cm&&(oW e).any (BV Γ is)
def BW:qf->Bool
 |.Add|.Sub|.Mult|.FloorDiv|.Mod|.Pow=>Z7
 |_=>Z6
def z4l:CmpOp->Bool
 |.Is|.IsNot|.GtE=>Z6
 |_=>Z7
def BX (T:String):Bool:=tysB.contains T
def tyB (Γ:Gm)(T:String)(t:Expr):Bool:=kJ (λx=>(x==Str.ofString T)&&dH Γ x&&BX T) t
def xh:List String:=["tuple","sorted","dict"]
def NV:Tg->Bool
 |.nm _=>Z7
 |.tp _=>Z6
def zr:C->Expr->Bool
 |.enum _,e=>isTup e
 |_,_=>Z7
mutual
def chkE (Γ:Gm):C->Expr->Bool
 |.var i,e=>kJ (mE Γ i) e
 |.aM,e=>decide (fB e=Z9 .none)
 |.bl b,e=>decide (fB e=Z9 (.bool b))
 |.int i,e=>decide (fB e=Z9 (.int i))
 |.str x,e=>decide (fB e=Z9 (.str x))&&ZV x
 |.glob _ _,_=>Z6
 |.bin op a b,e=>(wW e).any λv=>decide (op=v.2.1)&&BW op&&chkE Γ a v.1&&chkE Γ b v.2.2
 |.neg a,e=>(wX e).any λv=>decide (v.1=.USub)&&chkE Γ a v.2
 |.cmp op a b,e=>(mF e).any λv=>decide (v.2.1=[op])&&(bH v.2.2).any λr=>z4l op&& !(dw op r)&&chkE Γ a v.1&&chkE Γ b r
 |.hD ng a,e=>(mF e).any λv=>decide (v.2.1=[if ng then .IsNot else .Is])&&(bH v.2.2).any λr=>decide (fB r=Z9 .none)&&chkE Γ a v.1
 |.and a b,e=>(qQ e).any λv=>decide (v.1=.And)&&qR (λx=>chkE Γ a x) (λx=>chkE Γ b x) .And v.2.2 v.2.1
 |.or a b,e=>(qQ e).any λv=>decide (v.1=.Or)&&qR (λx=>chkE Γ a x) (λx=>chkE Γ b x) .Or v.2.2 v.2.1
 |.not a,e=>(wX e).any λv=>decide (v.1=.Not)&&chkE Γ a v.2
 |.sZ c a b,e=>(wY e).any λv=>eI Γ c v.1&&chkE Γ a v.2.1&&chkE Γ b v.2.2
 |.tup xs,e=>(oW e).any λes=>decide (es.length<=1000)&&eJ Γ xs es
 |.lst xs,e=>(tG e).any λes=>decide (es.length<=1000)&&eJ Γ xs es
 |.gL,e=>(BQ e).any λv=>v.1.isEmpty&&v.2.isEmpty
 |.ix a b,e=>(kI e).any λv=>z4b v.2&&chkE Γ a v.1&&chkE Γ b v.2
 |.sl a lo hi,e=>(kI e).any λv=>(wZ v.2).any λs=>s.2.2.isNone&&chkE Γ a v.1&&oY Γ lo s.1&&oY Γ hi s.2.1
 |.call k f args,e=>(iX e).any λv=>(Γ.cm&&(v.1==f))&&lE Γ v.1&&(Γ.fns[k]?==Z9 (f,v.2.length))&&eJ Γ args v.2&& !v.2.isEmpty
 |.bi f args,e=>(iX e).any λv=>(v.1==Str.ofString f)&&dH Γ v.1&&((["len","min","int"].contains f)&&(Γ.cm||f=="int"))&&eJ Γ args v.2&& !v.2.isEmpty
 |.agg f a,e=>(iX e).any λv=>(v.1==Str.ofString f)&&dH Γ v.1&&(xh.contains f&&Γ.cm)&&(bH v.2).any λy=>!isStar y&&tI Γ a y
 |.gZ a ts,e=>(iX e).any λv=>(v.1==("isinstance":Str))&&dH Γ v.1&&(oX v.2).any λy=>!isStar y.1&&chkE Γ a y.1&&(bH ts).any λT=>tyB Γ T y.2
 |.mt m o args,e=>(tH e).any λv=>((v.2.1==Str.ofString m)&& ["get","join"].contains m&&z0x v.1&&v.2.2.2&&decide (v.2.2.1.length<20))&&chkE Γ o v.1&&eJ Γ args v.2.2.1&& !v.2.2.1.isEmpty
 |.comp nt js N' tg it cond elt,e=>(BU e).any λv=>(bH v.2.1).any λg=>let BY:Gm:={Γ with N:=N',sc:=zq v.2.2 Γ.sc,blk:=Z7,xc:=Z8,kp:=[]}
  ((Γ.cm&&(g.is_async==0))&&(tgIx tg).all (λi=>decide (i<nt))&&oP Γ.N Γ.sc v.2.2 N' nt js&&tF g.iter&&decide N'.Nodup)&&(qS BY tg g.target&&zr it g.target)&&kK Γ it g.iter&&xb (xg cond) (λt=>eI BY cond t) g.ifs&&chkE BY elt v.1
 |.tf b x,e=>(iX e).any λv=>(v.1==("isinstance":Str))&&dH Γ v.1&&(oX v.2).any λy=>Γ.xc.any λz=>kJ (λn=>(n==z.1)&&(Γ.sc.names.lookup n==Z9 .local)&& !(n==("__debug__":Str))&& !(n==("__classdict__":Str))) y.1&&kJ (λC=>(C==x)&&lE Γ C&&Γ.sub.contains (z.2,x,b)) y.2
 |.eF _,_=>Z6
 |.enum _,_=>Z6
 |.tv _,_=>Z6
 |.nil,_=>Z6
 |.cons _ _,_=>Z6
def eI (Γ:Gm):C->Expr->Bool
 |.and a b,e=>(qQ e).any λv=>decide (v.1=.And)&&qR (λx=>eI Γ a x) (λx=>eI Γ b x) .And v.2.2 v.2.1
 |.or a b,e=>(qQ e).any λv=>decide (v.1=.Or)&&qR (λx=>eI Γ a x) (λx=>eI Γ b x) .Or v.2.2 v.2.1
 |.not a,e=>(wX e).any λv=>decide (v.1=.Not)&&eI Γ a v.2
 |.tv a,e=>(plainT e||GZ e)&&chkE Γ a e
 |_,_=>Z6
def eJ (Γ:Gm):C->List Expr->Bool
 |.nil,es=>es.isEmpty
 |.cons a r,es=>match es with|e::es=>!isStar e&&chkE Γ a e&&eJ Γ r es|_=>Z6
 |_,_=>Z6
def oY (Γ:Gm):C->Option Expr->Bool
 |.nil,e=>e.isNone
 |.tv a,e=>e.any λe=>chkE Γ a e
 |_,_=>Z6
def kK (Γ:Gm):C->Expr->Bool
 |.eF args,e=>(iX e).any λv=>(v.1==("range":Str))&&dH Γ v.1&&eJ Γ args v.2&&(!v.2.isEmpty&&decide (v.2.length<=2))
 |.tv a,e=>tF e&&chkE Γ a e
 |.enum a,e=>(iX e).any λv=>(v.1==("enumerate":Str))&&dH Γ v.1&&(bH v.2).any λy=>!isStar y&&chkE Γ a y
 |_,_=>Z6
def tI (Γ:Gm):C->Expr->Bool
 |.tv a,e=>chkE Γ a e
 |_,_=>Z6
end
def kL:C->Bool
 |_=>Z6
def xj (Γ:Gm)(it:C)(tg ie:Expr):Bool:=zr it tg&&kK Γ it ie
def uW:Stmt->Option (List Expr×Expr)
 |.Assign t v _=>Z9 (t,v)
 |_=>Z8
def xl:Stmt->Option Expr
 |.Expr v _=>Z9 v
 |_=>Z8
def BZ:Stmt->Option (Option Expr)
 |.Return v _=>Z9 v
 |_=>Z8
def B1:Stmt->Option (Expr×List Stmt×List Stmt)
 |.If t A B _=>Z9 (t,A,B)
 |_=>Z8
def zt:Stmt->Option (Expr×Expr×List Stmt×List Stmt)
 |.For t i B o _=>Z9 (t,i,B,o)
 |_=>Z8
def B2:Stmt->Option (Expr×List Stmt×List Stmt)
 |.While t B o _=>Z9 (t,B,o)
 |_=>Z8
def xm:Stmt->Option (Str×List Expr)
 |.Raise (Z9 c) Z8 _=>iX c
 |_=>Z8
def B3 (e:Expr):Bool:=(fB e).any λk=>match k with|.str x=>ZV x|_=>Z6
def B4:ot->Option (Str×Str×List Stmt)
 |.ExceptHandler (Z9 t) (Z9 n) b _=>(wV t).map λx=>(x,n,b)
 |_=>Z8
mutual
def tJ (Γ:Gm):S->Stmt->Bool
 |.bad,_=>Z7
 |.asg t e,s=>(uW s).any λu=>(bH u.1).any λx=>qS Γ t x&& !kL e&&(NV t||(!jM u.2&& !isTup u.2))&&chkE Γ e u.2
 |.mut m i args,s=>(xl s).any λc=>(tH c).any λv=>(kJ (mE Γ i) v.1&&(v.2.1==Str.ofString m)&& ["append"].contains m&&v.2.2.2&&decide (v.2.2.1.length<20))&& !v.2.2.1.isEmpty&&eJ Γ args v.2.2.1
 |.drop e,s=>(xl s).any λv=>!jM v&&chkE Γ e v
 |.ret e,s=>(BZ s).any λo=>o.any λv=>chkE Γ e v
 |.ifS c a b,s=>(B1 s).any λv=>eI Γ c v.1&&chkL Γ a v.2.1&&chkL Γ b v.2.2
 |.aV t it b,s=>Γ.cm&&(zt s).any λv=>qS Γ t v.1&&xj Γ it v.1 v.2.1&&chkL Γ b v.2.2.1&&v.2.2.2.isEmpty
 |.wh _ c b,s=>(B2 s).any λv=>eI Γ c v.1&&chkL Γ b v.2.1&&v.2.2.isEmpty
 |.iS c,s=>(xm s).any λv=>(v.1==c)&&lE Γ c&&Γ.rs.contains c&&Γ.cm&&(bH v.2).any B3
 |.nil,_=>Z6
 |.seq _ _,_=>Z6
def chkL (Γ:Gm):S->List Stmt->Bool
 |.nil,l=>l.isEmpty
 |.seq a b,l=>match l with|s::r=>tJ Γ a s&&chkL Γ b r|_=>Z6
 |_,_=>Z6
end
def tD (K:Z5)(f:Rho->Res GD):TE:=λσ H Q=>∃ρ F x,StOk K F H σ ρ/\f ρ=.ok x/\∀v H',Same H H'->Rep K H' (BG F H x.1) v x.2->Q v H'
def dV (K:Z5)(f:Rho->Res Bool):TT:=λσ H Q=>∃ρ F b,StOk K F H σ ρ/\f ρ=.ok b/\∀H',Same H H'->Q b H'
def tDO (K:Z5)(f:Rho->Res (Option Int)):TO:=λσ H Q=>∃ρ F b,StOk K F H σ ρ/\f ρ=.ok b/\∀H',Same H H'->Q b H'
def eW (K:Z5)(F:Fm)(H H':Hp):List V->List GD->Prop
 |vs,[]=>vs=[]
 |vs,x::xs=>∃v r,vs=v::r/\Rep K H' (BG F H x.1) v x.2/\eW K F H H' r xs
def tDA (K:Z5)(f:Rho->Res (List GD)):TA:=λσ H Q=>∃ρ F xs,StOk K F H σ ρ/\f ρ=.ok xs/\∀vs H',Same H H'->eW K F H H' vs xs->Q vs H'
theorem _root_.L2.PE.imp (h:PE X e t)(i:∀a H Q,c a H Q->t a H Q):PE X e c:=λb s a H Q I q=>h b s a H Q I (i a H Q q)
theorem _root_.L2.PT.imp (h:PT X e t)(i:∀a H Q,c a H Q->t a H Q):PT X e c:=λb s a H Q I q=>h b s a H Q I (i a H Q q)
theorem _root_.L2.PW.imp (h:PW X e t)(i:∀a H Q,c a H Q->t a H Q):PW X e c:=λwh b s a H Q I q=>h wh b s a H Q I (i a H Q q)
theorem _root_.L2.PA.imp (h:PA X e t)(i:∀a H Q,c a H Q->t a H Q):PA X e c:=λpos b s a H Q I q=>h pos b s a H Q I (i a H Q q)
theorem _root_.L2.PO.imp (h:PO X e t)(i:∀a H Q,c a H Q->t a H Q):PO X e c:=λb s a H Q I q=>h b s a H Q I (i a H Q q)
theorem _root_.L2.PS.imp (h:PS X e t)(i:∀D a H,c D a H->t D a H):PS X e c:=λb s a H D I q=>h b s a H D I (i D a H q)
theorem _root_.L2.PSs.imp (h:PSs X e t)(i:∀D a H,c D a H->t D a H):PSs X e c:=λb s a H D I q=>h b s a H D I (i D a H q)
section
variable {K:Z5}{F:Fm}{H H1 H':Hp}
theorem eW.back:∀{a:List V} {c:List GD},Same H H1->eW K F H1 H' a c->eW K F H H' a c
 |a,[],_,r=>r
 |a,x::c,s,r=>by obtain⟨v,t,e,h,q⟩:=r;exact⟨v,t,e,h.weak λ_ b=>b.back s,q.back s⟩
theorem eW.mG:∀{b:List V} {c:List GD},(∀x∈c,∀a,BG F H x.1 a->B a)->eW K F H H' b c->Reps K H' B b (c.map (·.2))
 |b,[],_,r=>r
 |b,x::c,d,r=>by obtain⟨v,t,e,h,q⟩:=r;exact⟨v,t,e,h.weak (d x bg),q.mG λy f=>d y (a9 _ f)⟩
theorem eW.jP (b:∀a,H a=Z8->F.V a)(r:eW K F H H' c d):Reps K H' (bU F) c (d.map (·.2)):=r.mG λ_ _ _ h=>h.aN b
theorem xn (f:∀a,H a=Z8->F.V a)(c:x∈d)(h:BG F H x.1 a):BG F H (cE d) a:=by
 unfold cE;by_cases e:(d.all λx=>x.1==.fr)=Z7
 .rw[sf e];have:=(br.mp e) x c;have b:x.1=.fr:=by simpa using this
  rw[b]at h;exact h
 .rw[sg e];split
  .rename_i g;have:=(br.mp g) x c;rcases fj.mp this with b|b
   .rw[eq_of_beq b]at h;exact .inl h
   .rw[eq_of_beq b]at h;exact h
  .exact h.aN f
theorem B5 (b:∀a,H a=Z8->F.V a)(s:Same H H1)(h:nw H1 a):BG F H (cE c) a:=by
 unfold cE;by_cases e:(c.all λx=>x.1==.fr)=Z7
 .rw[sf e];exact nw.back s h
 .rw[sg e];split
  .exact .inl (nw.back s h)
  .exact(nw.back s h).aN b
theorem qT (r:Rep K H' B v d)(h:∀a,B a->BG F H g a):Rep K H' (BG F H (gJ d g)) v d:=by
 unfold gJ;by_cases e:imm d=Z7
 .rw[sf e];exact Rep.aS d e r
 .rw[sg e];exact r.weak h
end
def jQ (K:Z5)(m:D->D->Res D):R2:=λx y H Q=>∃Bx By dx dy d,Rep K H Bx x dx/\Rep K H By y dy/\m dx dy=.ok d/\∀w H',Same H H'->Rep K H' (λa=>nw H a\/Bx a\/By a) w d->Q w H'
def oZ (X:Cx)(f:Value->Value->Sem Value)(m:D->D->Res D):Prop:=OpR X f (jQ X.K m)
def B6 (K:Z5)(m:D->D->Res D):R2:=λx y H Q=>∃Bx By dx dy d,Rep K H Bx x dx/\Rep K H By y dy/\m dx dy=.ok d/\∀w H',Same H H'->Rep K H' (λa=>nw H a\/Bx a\/By a) w d->(∀ds,d=.list ds->imms ds=Z7->Rep K H' (nw H) w d)->Q w H'
def B7 (X:Cx)(f:Value->Value->Sem Value)(m:D->D->Res D):Prop:=OpR X f (B6 X.K m)
theorem _root_.L2.OpR.imp (h:OpR X f r)(i:∀x y H Q,b x y H Q->r x y H Q):OpR X f b:=λa s c H x y v u Q I d e q=>h a s c H x y v u Q I d e (i x y H Q q)
def z8m (K:Z5)(m:List D->Res D):List V->Hp->VK->Prop:=λxs H Q=>∃B ds d,Reps K H B xs ds/\m ds=.ok d/\∀w H',Same H H'->Rep K H' (λa=>nw H a\/B a) w d->Q w H'
theorem _root_.L2.CallR.imp (h:CallR X f r)(i:∀x H Q,b x H Q->r x H Q):CallR X f b:=λa s c H x v Q I d q=>h a s c H x v Q I d (i x H Q q)
theorem NW (a:ZV x=Z7)(b:ZV y=Z7):ZV (x++y)=true:=by
 unfold ZV at *
 show(x.cps++y.cps).all _=Z7;rw[Array.all_append,a,b];rfl
theorem qU:ZV x=Z7↔∀c∈x.cps.toList,c<0x110000:=by unfold ZV;rw[<-Array.all_toList];rw[br];exact⟨λh c hc=>by simpa using h c hc,λh c hc=>by simpa using h c hc⟩
theorem NY (a:ZV x=Z7)(hc:c∈x.cps.toList):ZV ⟨#[c]⟩=true:=
 qU.mpr λd hd=>by
  have e:d=c:=by simpa using hd
  rw[e];exact qU.mp a c hc
theorem pA (h:n<=bC):n<=ba:=bq h (by rw[db];unfold bC;decide)
theorem _root_.L2.cP.rel {K:Z5}(s:Same H b)(h:cP K H a c):cP K b a c:=h.keep (B:=λ_=>True) λa o e _=>s a o e
section
def NZ (K:Z5):R2:=λx y H Q=>∃l b xs zs,x=.ref l/\y=.ref b/\SqL K H l xs/\SqL K H b zs/\xs.length+zs.length<=ba/\∀p,H p=Z8->Q (.ref p) (upd H p (.lst (xs++zs)))
theorem N0:OpR X (i0 .Add) (NZ X.K):=by
 rintro k s L H x y v u Q I z A ⟨l,b,M,N,rfl,rfl,B,C,m,q⟩
 cases z;cases A;obtain⟨c,o,D,_⟩:=I.list B;obtain⟨a,p,E,_⟩:=I.list C;obtain⟨⟨cls,G,r,sl⟩,n,t,hc,_,hd⟩:=D;obtain⟨⟨w,e,f,g⟩,n2,d,h,_,i⟩:=E;subst hc hd h i;have j:c.toArray.size+a.toArray.size<=ba:=by rw[cy,cy,<-o.length,<-p.length];exact m
 refine concat_meets ⟨_,t,rfl⟩ ⟨_,d,rfl⟩ noFill_list_add seq_list_add PySem.F.slot_list_add PySem.F.entry_list_add (PySem.F.args_list_add_2 _ _) (list_addW l b c.toArray a.toArray n n2 G e sl g j) ⟨t,d,?_⟩;have J:c.toArray++a.toArray=(c++a).toArray:=by simp
 rw[J];exact⟨.ref _,_,I.lnew (o.append p) (ax▸m),rfl,q _ I.fresh⟩
variable {K:Z5}{H:Hp}{B:Ad->Prop}{v:V}
theorem oA (r:Rep K H B v (.list c)):∃a b,v=.ref a/\SqL K H a b/\Reps K H B b c:=by
 obtain⟨a,b,e,h,q⟩:=r;refine⟨a,b,e,?_,q⟩;rcases h with⟨h,_⟩|⟨h|h,_⟩
 .exact .inl (.inl h)
 .exact .inl (.inr h)
 .exact .inr h
theorem qV (c:H p=Z8)(r:Reps K H B b d)(e:∀a,B a->B' a)(f:B' (Z9 p)):Rep K (upd H p (.lst b)) B' (.ref p) (.list d):=⟨p,b,rfl,.inl ⟨bF,f⟩,r.same (Same.upd c) e⟩
theorem G0 (c:H p=Z8)(r:Reps K H B b d)(e:∀a,B a->f a):Rep K (upd H p (.tup b)) f (.ref p) (.tuple d):=⟨p,b,rfl,.inl (.inl bF),r.same (Same.upd c) e⟩
theorem eR {b:Type}{a:b}(h:(Res.no:Res b)=.ok a):False:=by cases h
theorem N1:B7 X (i0 .Add) (dF .Add):=by
 refine OpR.imp (NI.or N0) λx y H Q h=>?_;obtain⟨s,t,dx,dy,d,f,g,e,q⟩:=h;cases dx<;>try (exact(eR e).elim)
 all_goals cases dy<;>try (exact(eR e).elim)
 case int.int i j=>cases e;have k:=f;have l:=g;subst k l;exact .inl (NN (q _ H (Same.refl H) rfl λr z=>by cases z))
 case str.str i j=>
  have k:=f.1;have l:=g.1;subst k l;have e:(if i.length+j.length<=bC then Res.ok (ZU (i++j))else Res.no)=Res.ok d:=e;split at e
  .rename_i m;cases e;exact .inl (NO (pA m) (q _ H (Same.refl H) ⟨rfl,NW f.2 g.2⟩ λr z=>by cases z))
  .cases e
 case list.list xs ys=>
  have e:(if xs.length+ys.length<=bC then Res.ok (ZT (xs++ys))else Res.no)=Res.ok d:=e;split at e
  .rename_i m;cases e;obtain⟨a,u,rfl,v,n⟩:=oA f;obtain⟨b,w,rfl,A,o⟩:=oA g;refine .inr ⟨a,b,u,w,rfl,rfl,v,A,pA (by rw[n.length,o.length];exact m),λp c=>q _ _ (Same.upd c) ?_ ?_⟩
   .exact qV c (Reps.append (n.weak λ_ z=>.inr (.inl z)) (o.weak λ_ z=>.inr (.inr z))) (λ_ z=>z) (.inl c)
   .intro r z B;cases z;exact qV c (Reps.aS _ B (Reps.append (n.weak (B':=λa=>nw H a\/s a\/t a) λ_ z=>.inr (.inl z)) (o.weak λ_ z=>.inr (.inr z)))) (λ_ z=>z) c
  .cases e
theorem xo {gd:Int->Int->D}(h:OpR X f (rI b g))(a:∀i j H B,Rep X.K H B (g i j) (gd i j))(hm:∀dx dy d,m dx dy=.ok d->∃i j,dx=.int i/\dy=.int j/\b i j/\d=gd i j):B7 X f m:=by refine OpR.imp h λx y H Q h=>?_;obtain⟨n,o,dx,dy,d,k,l,e,q⟩:=h;obtain⟨i,j,rfl,rfl,c,rfl⟩:=hm dx dy d e;exact⟨i,j,k,l,c,q _ H (Same.refl H) (a i j _ _) λ_ _ _=>a i j _ _⟩
theorem N2 (h:OpR X f (lB g)):OpR X f (rI (λ_ _=>True) g):=OpR.imp h λx y H Q ⟨i,j,a,b,_,q⟩=>⟨i,j,a,b,q⟩
theorem N3:OpR X (i0 .FloorDiv) (rI (λ_ j=>0<j/\j<2 ^ 200) λi j=>.int (i/j)):=opI λi j _ _ _ _ _ hc q=>by
 refine floordiv_int (by omega) (by rw[Int.fdiv_eq_ediv_of_nonneg i (by omega)];exact q) (.inl (PyProof.noPylong_of_log2 ?_));have a:j.natAbs<2 ^ 200:=by omega
 have b:=(Nat.log2_lt (by omega)).mpr a;omega
theorem N4 (a:qf)(h:BW a=Z7):B7 X (i0 a) (dF a):=by
 cases a<;>try (cases h;done)
 case Add=>exact N1
 case Sub=>
  refine xo (N2 MH) (gd:=λi j=>.int (i-j)) (λ_ _ _ _=>rfl) λdx dy d e=>?_;cases dx<;>try (exact(eR e).elim)
  cases dy<;>try (exact(eR e).elim)
  cases e;simp_all
 case Mult=>
  refine xo MI (gd:=λi j=>.int (i*j)) (λ_ _ _ _=>rfl) λdx dy d e=>?_;cases dx<;>try (exact(eR e).elim)
  cases dy<;>try (exact(eR e).elim)
  rename_i i j;have e:(if(-(2 ^ 64)<i/\i<2 ^ 64)\/(-(2 ^ 64)<j/\j<2 ^ 64)then Res.ok (ZS (i*j))else Res.no)=Res.ok d:=e;split at e
  .rename_i hc;cases e;exact⟨_,_,rfl,rfl,hc,rfl⟩
  .cases e
 case FloorDiv=>
  refine xo N3 (gd:=λi j=>.int (i/j)) (λ_ _ _ _=>rfl) λdx dy d e=>?_;cases dx<;>try (exact(eR e).elim)
  cases dy<;>try (exact(eR e).elim)
  rename_i i j;have e:(if 0<j/\j<2 ^ 200 then Res.ok (ZS (i/j))else Res.no)=Res.ok d:=e;split at e
  .rename_i hc;cases e;simp_all
  .cases e
 case Mod=>
  refine xo MJ (gd:=λi j=>.int (i%j)) (λ_ _ _ _=>rfl) λdx dy d e=>?_;cases dx<;>try (exact(eR e).elim)
  cases dy<;>try (exact(eR e).elim)
  rename_i i j;have e:(if 0<j then Res.ok (ZS (i%j))else Res.no)=Res.ok d:=e;split at e
  .rename_i hc;cases e;simp_all
  .cases e
 case Pow=>
  refine xo MK (gd:=λi j=>.int (i ^ j.toNat)) (λ_ _ _ _=>rfl) λdx dy d e=>?_;cases dx<;>try (exact(eR e).elim)
  cases dy<;>try (exact(eR e).elim)
  rename_i i j;have e:(if 0<=j/\j<=1000/\i.natAbs<2 ^ 64 then Res.ok (ZS (i ^ j.toNat))else Res.no)=Res.ok d:=e;split at e
  .rename_i hc;cases e;exact⟨_,_,rfl,rfl,⟨hc.1,by omega,hc.2.2⟩,rfl⟩
  .cases e
end
section
variable {X:Cx}{pins:List (Addr×Obj)}{σ:L2.St}{H:Hp}{s:bb}{B:Ad->Prop}
mutual
theorem Rep.reads (I:Inv X pins σ H s):∀{v:V} {u:Value} (d:av) (n:Nat),shal n d=Z7->Rep X.K H B v d->RelV v u->(∃as,Reads s.heap u d as)/\d.canLay0=Z7/\d.depth<=n
 |v,u,.none,n,_,r,q=>by have e:v=.aM:=r;subst e;cases q;exact⟨⟨[],.none⟩,by simp only[ZR],cz _⟩
 |v,u,.bool b,n,_,r,q=>by have e:v=.bl b:=r;subst e;cases q;exact⟨⟨[],.bool b⟩,by simp only[ZR],cz _⟩
 |v,u,.int b,n,_,r,q=>by have e:v=.int b:=r;subst e;obtain⟨t,rfl⟩:=q;exact⟨⟨[],.int b t⟩,by simp only[ZR],cz _⟩
 |v,u,.str b,n,_,r,q=>by obtain⟨e,ok⟩:v=.str b/\_:=r;subst e;obtain⟨t,rfl⟩:=q;exact⟨⟨[],.str b t⟩,by simp only[ZR];exact ok,cz _⟩
 |v,u,.tuple ds,0,h,r,q=>by cases h
 |v,u,.list ds,0,h,r,q=>by cases h
 |v,u,.tuple ds,n+1,h,r,q=>by obtain⟨a,vs,e,h1,r1⟩:=r;subst e;cases q;obtain⟨eE,rv,⟨o,ho,hc,k,hd⟩,_⟩:=I.tuple h1;obtain⟨⟨as,ra⟩,c,dp⟩:=Reps.reads I ds n (h) r1 rv;refine⟨⟨as,.tuple ho hc hd (by simpa using ra)⟩,by simp only[ZR];exact c,?_⟩;simp only[PyData.depth];omega
 |v,u,.list ds,n+1,h,r,q=>by obtain⟨a,vs,e,h1,r1⟩:=oA r;subst e;cases q;obtain⟨eE,rv,⟨o,k,ho,hc,_,hd⟩,_⟩:=I.list h1;obtain⟨⟨as,ra⟩,c,dp⟩:=Reps.reads I ds n (h) r1 rv;refine⟨⟨a::as,.list ho hc hd (by simpa using ra)⟩,by simp only[ZR];exact c,?_⟩;simp only[PyData.depth];omega
 |v,u,.dict es,n,h,r,q=>by cases n<;>cases h
theorem Reps.reads (I:Inv X pins σ H s):∀{vs:List V} {us:List Value} (ds:List av) (n:Nat),eZ n ds=Z7->Reps X.K H B vs ds->Vals vs us->(∃as,ReadsAll s.heap us ds as)/\PyData.canLayAll0 ds=Z7/\PyData.depthAll ds<=n
 |vs,us,[],n,_,r,q=>by have e:vs=[]:=r;subst e;cases q;exact⟨⟨[],.nil⟩,by simp only[PyData.canLayAll0],cz _⟩
 |vs,us,d::ds,n,h,r,q=>by
  obtain⟨v,t,e,h1,r1⟩:=r;subst e;rw[eZ,cn]at h;cases q with
  |cons q1 q2=>obtain⟨⟨as,ra⟩,c,dp⟩:=Rep.reads I d n h.1 h1 q1;obtain⟨⟨bs,rb⟩,c2,N5⟩:=Reps.reads I ds n h.2 r1 q2;refine⟨⟨as++bs,.cons ra rb⟩,by simp only[PyData.canLayAll0,c,c2,Bool.and_self],?_⟩;simp only[PyData.depthAll];exact Nat.max_le.mpr ⟨dp,N5⟩
end
end
def mB (m:D->D->Res Bool):D->D->Res D:=λx y=>m x y>>=λb=>.ok (.bool b)
theorem xp (h:mB m x y=.ok d):∃b,m x y=.ok b/\d=.bool b:=by obtain⟨b,a,c⟩:=Res.aA h;exact⟨b,a,(Res.ok.inj c).symm⟩
theorem B8 (hu:X.A.units+64<cLine):oZ X (dr .Eq) (mB (cmpD .Eq)):=by
 rintro a s n H x y v u Q I c f ⟨o,p,dx,dy,d,g,h,e,q⟩
 obtain⟨b,i,rfl⟩:=xp e;have e:=i;have e:(if(shal 40 dx&&shal 40 dy)=Z7 then Res.ok (eQ dx dy)else Res.no)=Res.ok b:=e;split at e
 .rename_i hs;cases e;rw[cn]at hs;obtain⟨⟨as,j⟩,k,r⟩:=Rep.reads I dx 40 hs.1 g c;obtain⟨⟨bs,l⟩,m,t⟩:=Rep.reads I dy 40 hs.2 h f;exact SeqAt.compareEq_reads j l k m (by omega) ⟨.bl _,H,I,rfl,q _ H (Same.refl H) rfl⟩
 .cases e
theorem B9 (hu:X.A.units+64<cLine):oZ X (dr .NotEq) (mB (cmpD .NotEq)):=by
 rintro a s n H x y v u Q I c f ⟨o,p,dx,dy,d,g,h,e,q⟩
 obtain⟨b,i,rfl⟩:=xp e;have e:=i;have e:(if(shal 40 dx&&shal 40 dy)=Z7 then Res.ok (!eQ dx dy)else Res.no)=Res.ok b:=e;split at e
 .rename_i hs;cases e;rw[cn]at hs;obtain⟨⟨as,j⟩,k,r⟩:=Rep.reads I dx 40 hs.1 g c;obtain⟨⟨bs,l⟩,m,t⟩:=Rep.reads I dy 40 hs.2 h f;exact SeqAt.compareNe_reads j l k m (by omega) ⟨.bl _,H,I,rfl,q _ H (Same.refl H) rfl⟩
 .cases e
theorem zkr (h:OpR X (dr a) r)(f:∀i j b H Q,cmpD a (.int i) (.int j)=.ok b->Q (.bl b) H->r (.int i) (.int j) H Q)
  (hm:∀dx dy b,cmpD a dx dy=.ok b->∃i j,dx=.int i/\dy=.int j):oZ X (dr a) (mB (cmpD a)):=by
 refine OpR.imp h λx y H Q h=>?_;obtain⟨l,m,dx,dy,d,g,k,e,q⟩:=h;obtain⟨b,c,rfl⟩:=xp e;obtain⟨i,j,rfl,rfl⟩:=hm dx dy b c;subst g k;exact f i j b H Q c (q _ H (Same.refl H) rfl)
theorem Ca:oZ X (dr .Lt) (mB (cmpD .Lt)):=zkr BH (λi j b H Q e q=>by cases e;exact NP q) λdx dy b e=>by cases dx<;>first|exact(eR e).elim|(cases dy<;>first|exact⟨_,_,rfl,rfl⟩|exact(eR e).elim)
theorem Cb:oZ X (dr .LtE) (mB (cmpD .LtE)):=zkr BJ (λi j b H Q e q=>by cases e;exact NQ q) λdx dy b e=>by cases dx<;>first|exact(eR e).elim|(cases dy<;>first|exact⟨_,_,rfl,rfl⟩|exact(eR e).elim)
theorem Cc:oZ X (dr .Gt) (mB (cmpD .Gt)):=zkr BK (λi j b H Q e q=>by cases e;exact NR q) λdx dy b e=>by cases dx<;>first|exact(eR e).elim|(cases dy<;>first|exact⟨_,_,rfl,rfl⟩|exact(eR e).elim)
theorem aW.val {K:Z5}(k:Key):∀{kvs:List (Key×V)} {es:bA},aW K H B kvs es->match z0f es (kD k)with|some d=>∃v,cL kvs k=Z9 v/\Rep K H B v d|none=>cL kvs k=Z8
 |kvs,[],r=>by have e:=r;subst e;exact rfl
 |kvs,(kd,d)::es,r=>by
  obtain⟨a,v,t,e,c,ok,h,q⟩:=r;subst e c;by_cases z:a=k
  .subst z
   have b:z0f ((kD a,d)::es) (kD a)=Z9 d:=by
    have:eqK (kD a) (kD a)=true:=by cases a<;>simp[kD,eqK]
    unfold z0f;rw[mu (by exact this)];rfl
   rw[b];exact⟨v,zd rfl,h⟩
  .have f:eqK (kD a) (kD k)=false:=by
    rw[qc];intro w;apply z;cases a<;>cases k<;>simp[kD,eqK]at w<;>rw[w]
   have b:z0f ((kD a,d)::es) (kD k)=z0f es (kD k):=by unfold z0f;rw[mv (f▸gw)]
   rw[b,ze z];exact aW.val k q
theorem xq {K:Z5}(h:iH d=Z7)(r:Rep K H B v d):∃k,d=kD k/\v=kV k/\keyOk k:=by
 cases d<;>try (cases h;done)
 case int i=>exact⟨.inl i,rfl,r,True.intro⟩
 case str x=>exact⟨.inr x,rfl,r.1,r.2⟩
theorem zil (hu:X.A.units+64<cLine)(ng:Bool)(I:Inv X h B H s)(m:RelV x v)(n:RelV y u)
  (o:Rep X.K H L x dx) (p:Rep X.K H M y dy) (e:inD dx dy=.ok b) (q:Q (.bl (if ng then !b else b)) H):
  wpAny (model X.prog X.w) X.A (dr (if ng then .NotIn else .In) v u) (EP X h B Q) X.xe s:=by
 cases dy<;>try (cases e;done)
 case list xs=>
  change(if(shal 40 dx&&eZ 40 xs)=Z7 then Res.ok (xs.any λy=>eQ y dx)else .no)=_ at e;split at e
  .rename_i hs;cases e;rw[cn]at hs;obtain⟨⟨as,i⟩,j,C⟩:=Rep.reads I dx 40 hs.1 o m;obtain⟨⟨bs,l⟩,r,D⟩:=Rep.reads I (.list xs) 41 hs.2 p n;have c:PyData.canLayAll0 xs=true:=by simpa only[ZR]using r
   cases ng
   .exact SeqAt.in_list_reads l i c j (by omega) ⟨.bl _,H,I,rfl,q⟩
   .exact SeqAt.notIn_list_reads l i c j (by omega) ⟨.bl _,H,I,rfl,q⟩
  .cases e
 case tuple xs=>
  change(if(shal 40 dx&&eZ 40 xs)=Z7 then Res.ok (xs.any λy=>eQ y dx)else .no)=_ at e;split at e
  .rename_i hs;cases e;rw[cn]at hs;obtain⟨⟨as,i⟩,j,C⟩:=Rep.reads I dx 40 hs.1 o m;obtain⟨⟨bs,l⟩,r,D⟩:=Rep.reads I (.tuple xs) 41 hs.2 p n;have c:PyData.canLayAll0 xs=true:=by simpa only[ZR]using r
   cases ng
   .exact SeqAt.in_tuple_reads l i c j (by omega) ⟨.bl _,H,I,rfl,q⟩
   .exact SeqAt.notIn_tuple_reads l i c j (by omega) ⟨.bl _,H,I,rfl,q⟩
  .cases e
 case dict es=>
  change(if iH dx=Z7 then Res.ok (z0f es dx).isSome else .no)=_ at e;split at e
  .rename_i E;cases e;obtain⟨k,rfl,rfl,_⟩:=xq E o;obtain⟨a,kvs,rfl,F,_,G⟩:=p;cases n;have f:=G.val k;have g:DGet H a (kV k) (cL kvs k):=DGet.k F
   have z:(cL kvs k).isSome=(z0f es (kD k)).isSome:=by
    cases e:z0f es (kD k)with
    |none=>rw[e]at f;rw[show cL kvs k=Z8 from f];rfl
    |some d=>rw[e]at f;obtain⟨v,f,_⟩:=f;rw[f];rfl
   cases ng
   .exact d_in (by omega) I g m λJ t=>⟨.bl _,H,t,rfl,by rw[z];exact q⟩
   .exact zjs (by omega) I g m λJ t=>⟨.bl _,H,t,rfl,by rw[z];exact q⟩
  .cases e
theorem Cd (hu:X.A.units+64<cLine):oZ X (dr .In) (mB (cmpD .In)):=by
 rintro a s j H x y v u Q I c f ⟨k,l,dx,dy,d,g,h,e,q⟩
 obtain⟨b,i,rfl⟩:=xp e;exact zil hu Z6 I c f g h i (q _ H (Same.refl H) rfl)
theorem N6 (hu:X.A.units+64<cLine):oZ X (dr .NotIn) (mB (cmpD .NotIn)):=by
 rintro a s l H x y v u Q I c f ⟨m,n,dx,dy,d,g,h,e,q⟩
 obtain⟨b,i,rfl⟩:=xp e;obtain⟨o,j,k⟩:=Res.aA i;cases k;exact zil hu Z7 I c f g h j (q _ H (Same.refl H) rfl)
theorem uX (hu:X.A.units+64<cLine)(a:CmpOp)(h:z4l a=Z7):oZ X (dr a) (mB (cmpD a)):=by
 cases a<;>try (cases h;done)
 .exact B8 hu
 .exact B9 hu
 .exact Ca
 .exact Cb
 .exact Cc
 .exact Cd hu
 .exact N6 hu
section
variable {X:Cx}{b c e:Expr}{fa fb:Rho->Res GD}
theorem zu (h:PE X e (tC v))(r:∀H B,Rep X.K H B v d):PE X e (tD X.K λ_=>.ok (.fr,d)):=PE.imp h λa H Q ⟨b,F,x,so,e,q⟩=>by cases e;exact q v H (Same.refl H) (r H _)
theorem N7 {i:Nat}(hN:X.N[i]?=Z9 x)(c:Vis X.env.scope x)(hd:WL x)(a:(x==("__classdict__":Str))=Z6):PE X (.Name x pos) (tD X.K λb=>wO b[i]?):=PE.imp (vR hN c hd a) λg H Q ⟨b,F,x,so,e,q⟩=>by obtain⟨v,d,f⟩:=so.rd e;exact⟨v,d,q v H (Same.refl H) f⟩
theorem G1 {K:Z5}(r:Rep K H' B v d)(h:∀a,B a->BG F H g a)(n:∀b,d=.list b->imms b=Z7->Rep K H' (nw H) v d):Rep K H' (BG F H (gN d g)) v d:=by
 cases d with
 |list b=>
  show Rep K H' (BG F H (if imms b=Z7 then .fr else g)) v _;split
  .rename_i c;exact n b rfl c
  .exact r.weak h
 |_=>exact qT r h
theorem N8 (k:BW i=Z7)(l:PE X a (tD X.K fa))(m:PE X b (tD X.K fb)):PE X (.BinOp a i b pos) (tD X.K λc=>fa c>>=λx=>fb c>>=λy=>dF i x.2 y.2>>=λd=>.ok (gN d (cE [x,y]),d)):=
 PE.imp (ME (N4 i k) l m) λE H Q ⟨c,F,z,so,e,q⟩=>by
  obtain⟨x,n,e⟩:=Res.aA e;obtain⟨y,o,e⟩:=Res.aA e;obtain⟨d,p,e⟩:=Res.aA e;cases e;refine⟨c,F,x,so,n,λv G f r=>⟨c,F,y,so.same f,o,λu I g s=>⟨_,_,x.2,y.2,d,r.sm g,s,p,λw t A j B=>q w t ((f.trans g).trans A) (G1 j (λa h=>?_) λC z D=>(B C z D).weak λ_ z=>nw.back (f.trans g) z)⟩⟩⟩;rcases h with h|h|h
  .exact B5 so.aN (f.trans g) h
  .exact xn so.aN (by simp) h
  .exact xn so.aN (by simp) (h.back f)
theorem N9 (c:PE X a (tD X.K fa)):PE X (.UnaryOp .USub a pos) (tD X.K λb=>fa b>>=λx=>match x.2 with|.int i=>.ok (.fr,.int (-i))|_=>.no):=
 PE.imp (MF ML c) λl H Q ⟨b,F,z,so,e,q⟩=>by
  obtain⟨x,f,e⟩:=Res.aA e;refine⟨b,F,x,so,f,λv h j k=>?_⟩;obtain⟨g,d⟩:=x;cases d<;>try (cases e;done)
  rename_i i;cases e;exact⟨i,k,q _ h j rfl⟩
theorem G2 (h:tD X.K (λa=>fa a>>=λx=>fb a>>=λy=>cmpD f x.2 y.2>>=λb=>.ok (.fr,.bool b)) j H Q):jK (jQ X.K (mB (cmpD f))) (tD X.K fa) (tD X.K fb) j H Q:=by obtain⟨a,F,z,so,e,q⟩:=h;obtain⟨x,k,e⟩:=Res.aA e;obtain⟨y,l,e⟩:=Res.aA e;obtain⟨d,m,e⟩:=Res.aA e;cases e;exact⟨a,F,x,so,k,λv s g n=>⟨a,F,y,so.same g,l,λu t i o=>⟨_,_,x.2,y.2,.bool d,n.sm i,o,by show(cmpD f x.2 y.2>>=λb=>Res.ok (PyData.bool b))=_;rw[m];rfl,λw p r c=>q w p ((g.trans i).trans r) c⟩⟩⟩
theorem zss (hu:X.A.units+64<cLine)(d:z4l op=Z7)(hm:dw op b=Z6)(e:PE X a (tD X.K fa))(f:PE X b (tD X.K fb)):
  PE X (.Compare a [op] [b] pos) (tD X.K λc=>fa c>>=λx=>fb c>>=λy=>cmpD op x.2 y.2>>=λb=>.ok (.fr,.bool b)):=
 PE.imp (Gh (uX hu op d) e f hm) λg H Q h=>G2 h
theorem Ce (i:∀a H Q,tD X.K f a H Q->t a H Q)(j:∀b x,f b=.ok x->∃c,x.2=.bool c)(a:L2.St)(H:Hp)(Q:Bool->Hp->Prop)(h:dV X.K (λb=>f b>>=λx=>jN x.2) a H Q):qL t a H Q:=by obtain⟨b,F,c,so,e,q⟩:=h;obtain⟨x,d,e⟩:=Res.aA e;obtain⟨k,g⟩:=j b x d;rw[g]at e;cases e;refine i a H _ ⟨b,F,x,so,d,λv l s r=>?_⟩;rw[g]at r;exact⟨k,r,q l s⟩
theorem Oa (e:(fa a>>=λx=>fb a>>=λy=>cmpD f x.2 y.2>>=λb=>Res.ok ((.fr,.bool b):GD))=.ok x):∃c,x.2=.bool c:=by obtain⟨x,g,e⟩:=Res.aA e;obtain⟨y,h,e⟩:=Res.aA e;obtain⟨d,i,e⟩:=Res.aA e;cases e;exact⟨d,rfl⟩
theorem zsn (hu:X.A.units+64<cLine)(d:z4l op=Z7)(hm:dw op b=Z6)(f:PE X a (tD X.K fa))(g:PE X b (tD X.K fb)):
  PT X (.Compare a [op] [b] pos) (dV X.K λc=>(fa c>>=λx=>fb c>>=λy=>cmpD op x.2 y.2>>=λb=>Res.ok ((.fr,.bool b):GD))>>=λx=>jN x.2):=
 PT.imp (Gi (uX hu op d) f g hm) (Ce (λi H Q h=>G2 h) λc x e=>Oa e)
theorem G3 {K:Z5}(r:Rep K H B v d):decide (v=.aM)=(match d with|.none=>Z7|_=>Z6):=by
 cases d with
 |none=>have e:v=.aM:=r;subst e;rfl
 |bool b=>have e:v=.bl b:=r;subst e;rfl
 |int b=>have e:v=.int b:=r;subst e;rfl
 |str b=>have e:v=.str b:=r.1;subst e;rfl
 |tuple c=>obtain⟨a,f,e,_⟩:=r;subst e;rfl
 |list c=>obtain⟨a,f,e,_⟩:=r;subst e;rfl
 |dict c=>obtain⟨a,f,e,_⟩:=r;subst e;rfl
def pB (ng:Bool)(fa:Rho->Res GD):Rho->Res GD:=λρ=>fa ρ>>=λx=>.ok (.fr,.bool (match x.2 with|.none=>!ng|_=>ng))
theorem zv (h:tD X.K (pB f fa) k H Q):(if f then y6 (tD X.K fa)else oJ (tD X.K fa)) k H Q:=by
 obtain⟨i,F,z,so,e,q⟩:=h;obtain⟨x,j,e⟩:=Res.aA e;cases e;cases f with
 |false=>
  refine⟨i,F,x,so,j,λv a b c=>?_⟩
  dsimp only
  rw[G3 c];refine q _ a b ?_;obtain⟨g,d⟩:=x;cases d<;>rfl
 |true=>
  refine⟨i,F,x,so,j,λv a b c=>?_⟩
  dsimp only
  rw[G3 c];refine q _ a b ?_;obtain⟨g,d⟩:=x;cases d<;>rfl
theorem G4 (e:pB a fa ρ=.ok x):∃c,x.2=.bool c:=by obtain⟨x,b,e⟩:=Res.aA e;cases e;exact⟨_,rfl⟩
theorem Ob {j p2}(ho:o=if ng then .IsNot else .Is)(ha:PE X a (tD X.K fa)):PE X (.Compare a [o] [.Constant .none j p2] pos) (tD X.K (pB ng fa)):=by
 subst ho;cases ng with
 |false=>exact PE.imp (y9 (y7 ha)) λσ H Q h=>zv h
 |true=>exact PE.imp (y9 (y8 ha)) λσ H Q h=>zv h
theorem Oc {j d}(f:o=if ng then .IsNot else .Is)(c:PE X a (tD X.K fa)):PT X (.Compare a [o] [.Constant .none j d] pos) (dV X.K λb=>pB ng fa b>>=λx=>jN x.2):=by
 subst f;cases ng with
 |false=>exact PT.imp (za (y7 c)) (Ce (λg H Q h=>zv h) λb x e=>G4 e)
 |true=>exact PT.imp (za (y8 c)) (Ce (λg H Q h=>zv h) λb x e=>G4 e)
def Cf (fa fb:Rho->Res GD):Rho->Res GD:=λρ=>fa ρ>>=λx=>match x.2 with|.bool c=>if c then fb ρ else .ok (.fr,.bool Z6)|_=>.no
def Od (fa fb:Rho->Res GD):Rho->Res GD:=λρ=>fa ρ>>=λx=>match x.2 with|.bool c=>if c then .ok (.fr,.bool Z7)else fb ρ|_=>.no
theorem zw (c:Same H g)(so:StOk X.K F H h d)(e:f d=.ok x)(q:∀v a,Same H a->Rep X.K a (BG F H x.1) v x.2->Q v a):tD X.K f h g Q:=⟨d,F,x,so.same c,e,λv a s r=>q v a (c.trans s) (r.weak λ_ b=>b.back c)⟩
theorem G5 {rest:List Expr}(h:PE X a (tD X.K fa))(i:PE X (.BoolOp .And (b::rest) pos) (tD X.K fb)):PE X (.BoolOp .And (a::b::rest) pos) (tD X.K (Cf fa fb)):=
 PE.imp (AY h i) λn H Q ⟨j,F,z,so,e,q⟩=>by
  obtain⟨x,k,e⟩:=Res.aA e;refine⟨j,F,x,so,k,λv l f m=>?_⟩;obtain⟨g,d⟩:=x;cases d<;>try (cases e;done)
  rename_i c;refine⟨c,m,?_⟩;cases c with
  |true=>exact iQ (zw f so e q)
  |false=>cases e;exact iP (q _ l f rfl)
theorem xr {rest:List Expr}(h:PE X a (tD X.K fa))(i:PE X (.BoolOp .Or (b::rest) pos) (tD X.K fb)):PE X (.BoolOp .Or (a::b::rest) pos) (tD X.K (Od fa fb)):=
 PE.imp (Mo h i) λn H Q ⟨j,F,z,so,e,q⟩=>by
  obtain⟨x,k,e⟩:=Res.aA e;refine⟨j,F,x,so,k,λv l f m=>?_⟩;obtain⟨g,d⟩:=x;cases d<;>try (cases e;done)
  rename_i c;refine⟨c,m,?_⟩;cases c with
  |false=>exact iP (zw f so e q)
  |true=>cases e;exact iQ (q _ l f rfl)
theorem G6 {K:Z5}(r:Rep K H B v d)(e:jN d=.ok k):lU K v H k:=by
 cases d with
 |none=>cases e;have c:v=.aM:=r;subst c;exact rfl
 |bool b=>cases e;have c:v=.bl b:=r;subst c;exact rfl
 |int b=>cases e;have c:v=.int b:=r;subst c;show(!decide (b=0))=(b != 0);rw[bne,j6]
 |str b=>
  have c:=r.1;subst c;simp only[jN]at e;split at e
  .rename_i j;cases e;refine⟨pA j,?_⟩;rw[bne,j6]
   congr 1
   rw[decide_eq_decide];omega
  .cases e
 |tuple g=>cases e;obtain⟨a,f,c,h,q⟩:=r;subst c;refine .inr (.inl ⟨f,h,?_⟩);show(!g.isEmpty)=!f.isEmpty;have:=q.length;cases f<;>cases g<;>simp at this ⊢
 |list g=>cases e;obtain⟨a,f,c,h,q⟩:=oA r;subst c;refine .inl ⟨f,h,?_⟩;show(!g.isEmpty)=!f.isEmpty;have:=q.length;cases f<;>cases g<;>simp at this ⊢
 |dict es=>
  cases e;obtain⟨a,kvs,c,h,_,q⟩:=r;subst c;refine .inr (.inr ⟨kvs,h,?_⟩);cases es with
  |nil=>have i:kvs=[]:=q;subst i;rfl
  |cons l m=>obtain⟨k,v,t,i,_⟩:=q;subst i;rfl
theorem Oe (m:PE X a (tD X.K fa)):PE X (.UnaryOp .Not a pos) (tD X.K λh=>fa h>>=λx=>jN x.2>>=λc=>.ok (.fr,.bool (!c))):=by
 rintro d s l H Q I ⟨h,F,z,so,e,q⟩
 obtain⟨x,n,e⟩:=Res.aA e;obtain⟨k,o,e⟩:=Res.aA e;cases e;refine UnaryOp_ (aK (m d s l H (λv f=>Same H f/\Rep X.K f (BG F H x.1) v x.2) I ⟨h,F,x,so,n,λv f i j=>⟨i,j⟩⟩) λv i p=>?_);obtain⟨y,f,r,t,u,j⟩:=p;exact not_of (aK (Gk d i l f y v (λb g=>b=k/\g=f) r t ⟨k,G6 j o,rfl,rfl⟩) λb w ⟨g,A,B,C⟩=>by subst B C;exact⟨.bl _,g,A,rfl,q _ g u rfl⟩)
theorem Of (c:PE X e (tD X.K fa))(d:∀a,qp e X.env a=(do let v <-a;standAt e.pos;holding [v] (truthy v))):PT X e (dV X.K λb=>fa b>>=λx=>jN x.2):=PT.imp (za6 c d) λj H Q ⟨b,F,k,so,e,q⟩=>by obtain⟨x,f,e⟩:=Res.aA e;exact⟨b,F,x,so,f,λv g h i=>⟨k,G6 i e,q g h⟩⟩
theorem G7 (b:Same H H1)(so:StOk X.K F H σ ρ)(e:f ρ=.ok x)(q:∀a,Same H a->Q x a):dV X.K f σ H1 Q:=⟨ρ,F,x,so.same b,e,λa s=>q a (b.trans s)⟩
theorem w_and (f:PT X a (dV X.K g))(h:PW X (.BoolOp .And (b::rest) pos) (dV X.K i)):PW X (.BoolOp .And (a::b::rest) pos) (dV X.K λd=>g d>>=λc=>if c then i d else .ok Z6):=
 PW.imp (AU f h) λm H Q ⟨d,F,k,so,e,q⟩=>by
  obtain⟨x,j,e⟩:=Res.aA e;refine⟨d,F,x,so,j,λn l=>?_⟩;cases x with
  |true=>exact iQ (G7 l so e q)
  |false=>cases e;simp_all
theorem w_or (f:PT X a (dV X.K g))(h:PW X (.BoolOp .Or (b::rest) pos) (dV X.K i)):PW X (.BoolOp .Or (a::b::rest) pos) (dV X.K λd=>g d>>=λc=>if c then .ok Z7 else i d):=
 PW.imp (AV f h) λm H Q ⟨d,F,k,so,e,q⟩=>by
  obtain⟨x,j,e⟩:=Res.aA e;refine⟨d,F,x,so,j,λn l=>?_⟩;cases x with
  |false=>exact iP (G7 l so e q)
  |true=>cases e;simp_all
theorem mH (ha:PT X a (dV X.K ta)):PT X (.UnaryOp .Not a pos) (dV X.K λρ=>ta ρ>>=λc=>.ok (!c)):=PT.imp (FU ha) λσ H Q ⟨ρ,F,k,so,e,q⟩=>by obtain⟨x,e1,e⟩:=Res.aA e;cases e;exact⟨ρ,F,x,so,e1,λH1 s1=>q H1 s1⟩
theorem Og (hc:PT X c (dV X.K g))(h:PE X a (tD X.K fa))(i:PE X b (tD X.K fb)):PE X (.IfExp c a b pos) (tD X.K λd=>g d>>=λk=>if k then fa d else fb d):=
 PE.imp (Mq hc h i) λl H Q ⟨d,F,z,so,e,q⟩=>by
  obtain⟨x,j,e⟩:=Res.aA e;refine⟨d,F,x,so,j,λm f=>?_⟩;cases x with
  |true=>exact iQ (zw f so e q)
  |false=>exact iP (zw f so e q)
theorem G8:PA X [] (tDA X.K λ_=>.ok []):=PA.imp jW λa H Q ⟨b,F,z,so,e,q⟩=>by cases e;exact q [] H (Same.refl H) rfl
theorem G9 (hs:isStar e=Z6)(f:PE X e (tD X.K fa))(g:PA X es (tDA X.K fs)):PA X (e::es) (tDA X.K λa=>fa a>>=λx=>fs a>>=λb=>.ok (x::b)):=PA.imp (eP f g hs) λm H Q ⟨a,F,z,so,e,q⟩=>by obtain⟨x,h,e⟩:=Res.aA e;obtain⟨b,i,e⟩:=Res.aA e;cases e;refine⟨a,F,x,so,h,λv n c j=>⟨a,F,b,so.same c,i,λk l d rs=>q _ l (c.trans d) ?_⟩⟩;exact⟨v,k,rfl,j.sm d,rs.back c⟩
theorem Oh {i}(h:PA X es (tDA X.K fs))(j:∀b d,fs b=.ok d->d.length<=ba):PE X (.Tuple es i pos) (tD X.K λb=>fs b>>=λc=>.ok (gJ (.tuple (c.map (·.2))) (cE c),.tuple (c.map (·.2)))):=PE.imp (Gr h) λm H Q ⟨b,F,z,so,e,q⟩=>by obtain⟨c,f,e⟩:=Res.aA e;cases e;refine⟨b,F,c,so,f,λn o k rs=>?_⟩;have r:=rs.mG λx l a h=>xn so.aN l h;refine⟨by rw[r.length,ah];exact j b c f,λp g=>q _ _ (k.trans (Same.upd g)) (qT (G0 g r λ_ z=>z) λ_ z=>z)⟩
theorem Oi (h:PA X es (tDA X.K fs))(j:∀b f,fs b=.ok f->f.length<=ba):PE X (.List es pos) (tD X.K λb=>fs b>>=λc=>.ok (cE c,.list (c.map (·.2)))):=PE.imp (Gs h) λl H Q ⟨b,F,z,so,e,q⟩=>by obtain⟨c,g,e⟩:=Res.aA e;cases e;refine⟨b,F,c,so,g,λm n i rs=>?_⟩;have r:=rs.mG λx k a h=>xn so.aN k h;refine⟨by rw[r.length,ah];exact j b c g,λp d=>q _ _ (i.trans (Same.upd d)) (qV d r (λ_ z=>z) (B5 so.aN i d))⟩
theorem Oj:PE X (.Dict [] [] pos) (tD X.K λ_=>.ok (.fr,.dict [])):=PE.imp GG λb H Q ⟨c,F,z,so,e,q⟩=>by cases e;intro p a;exact q _ _ (Same.upd a) ⟨p,[],rfl,bF,a,rfl⟩
end
theorem Ol {b:Type}(a:List b)(i:Int):L2.bM a i=Mi.bM a i:=rfl
theorem Om (n d:Nat)(o:Option Int):HT.cM n d o=Mi.cM n d o:=by cases o<;>rfl
theorem Reps.cut {K:Z5}(a b:Option Int)(r:Reps K H B c d):Reps K H B (Mi.cut c a b) (Mi.cut d a b):=by unfold Mi.cut;rw[r.length];exact(r.drop _).take _
theorem Reps.bM {K:Z5}(r:Reps K H B c b)(e:Mi.bM b i=Z9 d):∃v,L2.bM c i=Z9 v/\Rep K H B v d:=by
 unfold Mi.bM at e;cases a:Mi.fG b.length i with
 |none=>rw[a]at e;cases e
 |some j=>rw[a]at e;obtain⟨v,f,g⟩:=r.get e;refine⟨v,?_,g⟩;rw[Ol];unfold Mi.bM;rw[r.length,a];exact f
theorem Oq (hu:X.A.units+64<cLine):lC X (λx y H Q=>∃a v,x=.ref a/\DGet H a y (Z9 v)/\Q v H):=by intro b c e s k H x y v u Q I f i h hs;obtain⟨a,z,rfl,g,q⟩:=h;cases f;exact tail_any (M1 I g) PySem.F.slot_dict_getitem.lookup (zck (by omega) I g i λl m j d=>⟨z,H,j,d,q⟩) hs
def iY (K:Z5):R2:=λx y H Q=>∃B B' dx dy d,Rep K H B x dx/\Rep K H B' y dy/\dC dx dy=.ok d/\∀w,Rep K H B w d->Q w H
theorem G' (hu:X.A.units+64<cLine):lC X (iY X.K):=by
 intro f g l s G H x y v u Q I J L h hs;refine(NJ.or (Oq hu)) f g l s G H x y v u Q I J L ?_ hs;obtain⟨B,R,dx,dy,d,m,r,e,q⟩:=h;cases dx<;>try (cases e;done)
 case list xs=>
  cases dy<;>try (cases e;done)
  rename_i i;subst r;obtain⟨a,t,rfl,n,C⟩:=oA m;change Res.dE (Mi.bM xs i)=_ at e;cases b:Mi.bM xs i with
  |none=>rw[b]at e;cases e
  |some D=>rw[b]at e;cases e;obtain⟨w,o,p⟩:=C.bM b;exact .inl (.inl ⟨a,t,i,w,rfl,rfl,n,o,q w p⟩)
 case tuple xs=>
  cases dy<;>try (cases e;done)
  rename_i i;subst r;obtain⟨a,t,rfl,n,C⟩:=m;change Res.dE (Mi.bM xs i)=_ at e;cases b:Mi.bM xs i with
  |none=>rw[b]at e;cases e
  |some D=>rw[b]at e;cases e;obtain⟨w,o,p⟩:=C.bM b;exact .inl (.inr (.inl ⟨a,t,i,w,rfl,rfl,n,o,q w p⟩))
 case str z=>
  cases dy<;>try (cases e;done)
  rename_i i;have M:=m.1;subst M r;change(if z.length<=bC then Res.dE ((Mi.bM z.cps.toList i).map λc=>ZU ⟨#[c]⟩)else .no)=_ at e;split at e
  .rename_i N;cases b:Mi.bM z.cps.toList i with
   |none=>rw[b]at e;cases e
   |some c=>
    rw[b]at e;cases e
    have hc:c∈z.cps.toList:=by
     unfold Mi.bM at b;cases E:Mi.fG z.cps.toList.length i with
     |none=>rw[E]at b;cases b
     |some j=>rw[E]at b;exact ar b
    exact .inl (.inr (.inr ⟨z,i,c,rfl,rfl,pA N,b,q _ ⟨rfl,NY m.2 hc⟩⟩))
  .cases e
 case dict es=>
  change(if iH _=Z7 then Res.dE (z0f es _)else Res.no)=_ at e;split at e
  .rename_i O;obtain⟨k,rfl,rfl,_⟩:=xq O r;obtain⟨a,kvs,rfl,n,_,P⟩:=m;have F:=P.val k;cases b:z0f es (kD k)with
   |none=>rw[b]at e;cases e
   |some D=>rw[b]at e F;cases e;obtain⟨w,o,p⟩:=F;exact .inr ⟨a,w,rfl,by rw[<-o];exact DGet.k n,q w p⟩
  .cases e
theorem Cg (h:z4b i=Z7):GI i:=λo v=>by cases i<;>first|rfl|cases h
theorem d_ix (hu:X.A.units+64<cLine)(hs:z4b i=Z7)(h:PE X a (tD X.K fa))(j:PE X i (tD X.K k)):
  PE X (.Subscript a i pos) (tD X.K λb=>fa b>>=λx=>k b>>=λy=>dC x.2 y.2>>=λd=>.ok (gJ d x.1,d)):=
 PE.imp (Bl (G' hu) h j (Cg hs)) λs H Q ⟨b,F,z,so,e,q⟩=>by obtain⟨x,l,e⟩:=Res.aA e;obtain⟨y,m,e⟩:=Res.aA e;obtain⟨d,n,e⟩:=Res.aA e;cases e;exact⟨b,F,x,so,l,λv t f o=>⟨b,F,y,so.same f,m,λu p g r=>⟨_,_,x.2,y.2,d,o.sm g,r,n,λw c=>q w p (f.trans g) (qT c λ_ z=>z)⟩⟩⟩
theorem Ot (h:ZV z=Z7)(a b:Option Int):ZV (lD z a b)=true:=
 qU.mpr λc hc=>qU.mp h c (by
  have:c∈Mi.cut z.cps.toList a b:=by simpa[lD]using hc
  exact List.mem_of_mem_drop (List.mem_of_mem_take this))
theorem Hb (a b:Option Int)(n:Nat):gu a b 1 n=sliceRange ((Mi.cM n 0 a:Nat):Int) ((Mi.cM n n b:Nat):Int) 1:=by
 delta gu
 simp
 congr 1
 .cases a with
  |none=>rfl
  |some v=>
   simp only[Mi.cM];by_cases h:v<0
   .simp only[sf h];omega
   .simp only[sg h];omega
 .cases b with
  |none=>rfl
  |some v=>
   simp only[Mi.cM];by_cases h:v<0
   .simp only[sf h];omega
   .simp only[sg h];omega
theorem Ou (n d:Nat)(hd:d<=n)(o:Option Int):Mi.cM n d o<=n:=by rw[<-Om];exact HT.sU n d hd o
theorem Ov (z:Str)(a b:Option Int):Txt.slice z a b=lD z a b:=by
 have hn:z.cps.toList.length=z.length:=by simp[Str.length]
 have e:(gu a b 1 z.length).filterMap (z.cps[·]?)=Mi.cut z.cps.toList a b:=by rw[Hb,nv,pick_run];unfold Mi.cut;rw[hn]
 have f:(gu a b 1 z.length).length=Mi.cM z.length z.length b-Mi.cM z.length 0 a:=by rw[Hb,nv,ah,cv]
 unfold Txt.slice;split
 .rename_i hc;simp at hc;have g:=Ou z.length z.length (ae _) b
  have c:Mi.cut z.cps.toList a b=z.cps.toList:=by
   unfold Mi.cut;rw[hn];by_cases h0:Mi.cM z.length 0 a=0
   .rw[h0,List.drop_zero,List.take_of_length_le (by grind)]
   .have d:z.length=0:=by omega
    have:z.cps.toList=[]:=List.length_eq_zero_iff.mp (hn▸d);rw[this];simp
  unfold lD;rw[c]
 .unfold lD;rw[<-e]
def Ci (K:Z5):V->Option Int->Option Int->Hp->VK->Prop:=λx lo hi H Q=>∃B dx d,Rep K H B x dx/\nZ dx lo hi=.ok d/\∀w H',Same H H'->Rep K H' (λa=>nw H a\/B a) w d->(∀ds,d=.list ds->imms ds=Z7->Rep K H' (nw H) w d)->Q w H'
theorem Ow:oM X (Ci X.K):=by
 intro b s k H x v l m c f sl Q I n hs pl o h;refine NK b s k H x v l m c f sl Q I n hs pl o ?_;obtain⟨B,dx,d,r,e,q⟩:=h;cases dx<;>try (cases e;done)
 case list xs=>cases e;obtain⟨a,t,rfl,u,j⟩:=oA r;refine .inl ⟨a,t,rfl,u,λp g=>?_⟩;exact q _ _ (Same.upd g) (qV g (j.cut c f) (λ_ z=>.inr z) (.inl g)) λw z i=>by cases z;exact qV g (Reps.aS _ i (j.cut c f)) (λ_ z=>z) g
 case str z=>
  change(if z.length<=bC then Res.ok (ZU (lD z c f))else .no)=_ at e;split at e
  .rename_i y;cases e;have A:=r.1;subst A;refine .inr ⟨z,rfl,pA y,?_⟩;rw[Ov];exact q _ H (Same.refl H) ⟨rfl,Ot r.2 c f⟩ λw z=>by cases z
  .cases e
theorem qW:PO X Z8 (tDO X.K λ_=>.ok Z8):=PO.imp Na λa H Q ⟨b,F,z,so,e,q⟩=>by cases e;exact q H (Same.refl H)
theorem Ox (c:PE X a (tD X.K fa)):PO X (Z9 a) (tDO X.K λb=>fa b>>=λx=>tw x.2):=
 PO.imp (Nb c) λk H Q ⟨b,F,z,so,e,q⟩=>by
  obtain⟨x,f,e⟩:=Res.aA e;refine⟨b,F,x,so,f,λv h i j=>?_⟩;obtain⟨g,d⟩:=x;cases d<;>try (cases e;done)
  cases e;exact⟨_,j,q h i⟩
theorem d_sl {k:Option Expr}(m:PE X a (tD X.K fa))(n:PO X k (tDO X.K fl))(hh:PO X i (tDO X.K o)):
  PE X (.Subscript a (.Slice k i Z8 p2) pos) (tD X.K λb=>fa b>>=λx=>fl b>>=λl=>o b>>=λh=>nZ x.2 l h>>=λd=>.ok (gN d (cE [x]),d)):=
 PE.imp (Nd Ow m n hh) λD H Q ⟨b,F,z,so,e,q⟩=>by
  obtain⟨x,p,e⟩:=Res.aA e;obtain⟨l,r,e⟩:=Res.aA e;obtain⟨h,s,e⟩:=Res.aA e;obtain⟨d,t,e⟩:=Res.aA e;cases e;refine⟨b,F,x,so,p,λv E c u=>⟨b,F,l,so.same c,r,λG f=>⟨b,F,h,so.same (c.trans f),s,λI g=>⟨_,x.2,d,u.sm (f.trans g),t,λw y A j B=>q w y ((c.trans (f.trans g)).trans A) (G1 j (λa h=>?_) λC z i=>(B C z i).weak λ_ z=>nw.back (c.trans (f.trans g)) z)⟩⟩⟩⟩;rcases h with h|h
  .exact B5 so.aN (c.trans (f.trans g)) h
  .exact xn so.aN (by simp) h
theorem Reps.pick {K:Z5}(r:Reps K H B a b):∀is:List Nat,Reps K H B (is.filterMap (a[·]?)) (is.filterMap (b[·]?))
 | []=>rfl
 |i::is=>by
  rw[dj,dj];cases h:b[i]? with
  |some d=>obtain⟨v,c,e⟩:=r.get h;rw[c];exact Reps.cons e (Reps.pick r is)
  |none=>
   have:a[i]?=none:=by rw[List.getElem?_eq_none_iff]at h ⊢;rw[r.length];exact h
   rw[this];exact Reps.pick r is
theorem d_cB {id:String}(hc:CallR X (.builtin id) (z8m X.K m))(hm:X.mg x=Z8)(k:dg x=Z9 (.builtin id))(l:PA X (e::es) (tDA X.K fs))(b:((e::es).all fun e=>!isStar e)=Z7)(n:Gl X x)(hn:x≠"__name__")(c:WL x):
  PE X (.Call (.Name x p) (e::es) [] pos) (tD X.K λf=>fs f>>=λg=>m (g.map (·.2))>>=λd=>.ok (gJ d .al,d)):=
 PE.imp (zj hc hm k l b n hn c) λu H Q ⟨f,F,z,so,e,q⟩=>by obtain⟨g,o,e⟩:=Res.aA e;obtain⟨d,r,e⟩:=Res.aA e;cases e;exact⟨f,F,g,so,o,λv y j rs=>⟨_,_,d,rs.jP so.aN,r,λw s t i=>q w s (j.trans t) (qT i λa h=>h.elim (λz=>(nw.back j z).aN so.aN) λz=>z)⟩⟩
theorem aW.length {K:Z5}:∀{kvs:List (Key×V)} {es:bA},aW K H B kvs es->kvs.length=es.length
 |kvs,[],r=>by have e:kvs=[]:=r;subst e;rfl
 |kvs,(kd,d)::es,r=>by obtain⟨k,v,t,rfl,_,_,_,q⟩:=r;rw[bc,bc,q.length]
theorem xu {K:Z5}(r:Reps K H B a [d]):∃v,a=[v]/\Rep K H B v d:=by obtain⟨v,t,e,h,q⟩:=r;subst e q;exact⟨v,rfl,h⟩
theorem Cj {K:Z5}(r:Reps K H B b [d,c]):∃v a,b=[v,a]/\Rep K H B v d/\Rep K H B a c:=by obtain⟨v,t,e,h,q⟩:=r;obtain⟨a,f,g⟩:=xu q;subst e f;exact⟨v,a,rfl,h,g⟩
theorem Hc:CallR X (.builtin "len") (z8m X.K (j' "len")):=by
 refine CallR.imp (NL.or Nw) λl H Q h=>?_;obtain⟨B,g,d,r,e,q⟩:=h;simp only[j',if_true]at e;split at e
 .rename_i x;obtain⟨v,rfl,i⟩:=xu r;clear r;have r:=i;cases x<;>try (cases e;done)
  case str z=>
   change(if z.length<=bC then Res.ok (ZS z.length)else .no)=_ at e;split at e
   .rename_i j;cases e;have k:=r.1;subst k;exact .inl (.inl ⟨z,rfl,pA j,q _ H (Same.refl H) rfl⟩)
   .cases e
  case tuple g=>cases e;obtain⟨a,b,rfl,c,f⟩:=r;exact .inl (.inr ⟨a,b,rfl,.inr c,q _ H (Same.refl H) (f.length▸rfl)⟩)
  case list g=>cases e;obtain⟨a,b,rfl,c,f⟩:=oA r;exact .inl (.inr ⟨a,b,rfl,.inl c,q _ H (Same.refl H) (f.length▸rfl)⟩)
  case dict g=>cases e;obtain⟨a,b,rfl,c,_,f⟩:=r;exact .inr ⟨a,b,rfl,c,q _ H (Same.refl H) (f.length▸rfl)⟩
 .cases e
theorem Oy (hc:X.calm=Z7):CallR X (.builtin "min") (z8m X.K (j' "min")):=by
 refine CallR.imp (MR hc) λn H Q h=>?_;obtain⟨B,f,d,r,e,q⟩:=h;replace e:minD f=Res.ok d:=e;have g:∀i j:Int,(if j<i then j else i)=min i j:=λi j=>by split<;>omega
 have k:∀{x y:D},min2 x y=.ok d->∃i j,x=.int i/\y=.int j/\d=.int (min i j):=λ{x y} h=>by
  cases x<;>try (exact(eR h).elim)
  cases y<;>try (exact(eR h).elim)
  cases h;exact⟨_,_,rfl,rfl,rfl⟩
 rcases f with _|⟨a,_|⟨b,_|⟨c,f⟩⟩⟩
 .exact(eR e).elim
 .exact(eR e).elim
 .obtain⟨i,j,rfl,rfl,rfl⟩:=k e;obtain⟨v,o,rfl,l,m⟩:=Cj r;subst l m;exact⟨i,j,rfl,q _ H (Same.refl H) (show V.int _=V.int _ by rw[g])⟩
 .exact(eR e).elim
theorem zg4 (I:Inv X j q H s)(c:RelV x u)(r:Rep X.K H B x d)(l:T∈tysB)
  (h:∀m,Q (.bool (iU (gO d) T)) {s with toks:=m}):wpAny (model X.prog X.w) A (call (.builtin "isinstance") [u,.type T]) Q E s:=by
 have n:gO d∈oS:=by cases d<;>simp[gO,oS]
 have e:=NM X.K _ n T l;cases d with
 |none=>have f:x=.aM:=r;subst f;exact z2a I c .aM e h
 |bool b=>have f:x=.bl b:=r;subst f;exact z2a I c (.bl b) e h
 |int b=>have f:x=.int b:=r;subst f;exact z2a I c (.int b) e h
 |str b=>have f:x=.str b:=r.1;subst f;exact z2a I c (.str b) e h
 |tuple p=>obtain⟨a,k,rfl,g,_⟩:=r;cases c;obtain⟨_,_,⟨o,i,hc,_⟩,_⟩:=I.tuple g;exact Z1 W.kitx_tuple I.cG ⟨o,i,hc⟩ e (λz=>nomatch z) h
 |list p=>obtain⟨a,k,rfl,g,_⟩:=oA r;cases c;obtain⟨_,_,⟨o,_,i,hc,_⟩,_⟩:=I.list g;exact Z1 W.kitx_list I.cG ⟨o,i,hc⟩ e (λz=>nomatch z) h
 |dict es=>obtain⟨a,k,rfl,g,_⟩:=r;exact z2a I c (.dK g) e h
def Ck (K:Z5):List V->Hp->VK->Prop:=λxs H Q=>∃B x d T,xs=[x,.ty T]/\Rep K H B x d/\T∈tysB/\Q (.bl (iU (gO d) T)) H
theorem Oz:CallR X (.builtin "isinstance") (Ck X.K):=by
 rintro a s h H i j Q I r ⟨B,x,d,T,rfl,b,c,q⟩
 obtain⟨u,e,rfl,f,g⟩:=vals2 r;obtain rfl:e=Value.type T:=g;exact zg4 I f b c λk=>⟨.bl _,H,I.tok _,rfl,q⟩
theorem zti (hm:X.mg "isinstance"=Z8)(i:Gl X "isinstance")(b:X.mg a=Z8)(c:dg a=Z9 (.type T))(d:Gl X a)(f:a≠"__name__")(g:WL a)(j:T∈tysB)(hs:isStar y=Z6)(k:PE X y (tD X.K fa)):
  PE X (.Call (.Name "isinstance" p) [y,.Name a r] [] pos) (tD X.K λh=>fa h>>=λx=>.ok (.fr,.bool ([T].any λT=>iU (gO x.2) T))):=
 PE.imp (zj Oz hm (by decide+kernel) (eP k (eP (Mn (v:=.ty T) d b c rfl f g) jW) hs) (by simp[hs];rfl) i dc dc) λs H Q ⟨h,F,z,so,e,q⟩=>by obtain⟨x,l,e⟩:=Res.aA e;cases e;refine⟨h,F,x,so,l,λv m n o=>?_⟩;refine⟨_,v,x.2,T,rfl,o,j,q _ m n ?_⟩;show V.bl _=V.bl _;simp
def Kp (B:Ad->Prop)(H1 H2:Hp):Prop:=∀a o,H1 a=Z9 o->(B (Z9 a)\/Fix o)->H2 a=Z9 o
theorem Kp.of (s:Same H1 H2):Kp B H1 H2:=λa o e _=>s a o e
structure Walk (K:Z5)(J:It)(B:Ad->Prop)(H1:Hp)(xs:List D):Prop where
 len:xs.length<=ba
 go:∀H2,Kp B H1 H2->∀i,i<xs.length->J.go i H2
 stop:∀H2,Kp B H1 H2->J.stop xs.length H2
 gR:∀H2,Kp B H1 H2->∀i x H3,i<xs.length->J.gR i H2 x H3->Same H2 H3/\∃d,xs[i]?=Z9 d/\Rep K H3 B x d
def tDW (K:Z5)(f:Rho->Res (G×List D)):TI:=λσ H R=>∃ρ F w,StOk K F H σ ρ/\f ρ=.ok w/\∀J B H',Same H H'->(∀a,B a->BG F H w.1 a/\¬nw H' a)->Walk K J B H' w.2->R J H'
theorem _root_.L2.PI.imp (h:PI X c e t)(i:∀a H Q,d a H Q->t a H Q):PI X c e d:=λb s a H Q I q=>h b s a H Q I (i a H Q q)
section
variable {K:Z5}{H:Hp}{B:Ad->Prop}
theorem OA (h:(H a=Z9 (.lst c)/\B (Z9 a))\/(FL K H a c/\B Z8))(r:Reps K H B c g)(l:g.length<=ba):Walk K (Bc K a) B H g:=by
 have f:∀e,Kp B H e->SqL K e a c:=λe k=>by
  rcases h with⟨h,b⟩|⟨⟨o,h⟩|h,_⟩
  .exact .inl (.inl (k a _ h (.inl b)))
  .exact .inl (.inr ⟨o,k a _ h (.inr True.intro)⟩)
  .exact .inr h
 refine⟨l,λe k i j=>?_,λe k=>⟨c,f e k,by rw[r.length];exact ae _⟩,λe k i x q j y=>?_⟩
 .have m:i<c.length:=r.length▸j;exact⟨c,c[i],f e k,by simp[m]⟩
 .obtain⟨rfl,y⟩:=y;obtain⟨d,n,p⟩:=r.oV (y c (f _ k));exact⟨Same.refl _,d,n,Rep.keep k (λ_ z=>z) d p⟩
theorem OB (h:cP K H a c)(r:Reps K H B c f)(j:f.length<=ba):Walk K (Gf K a) B H f:=by
 have e:∀b,Kp B H b->cP K b a c:=λb k=>h.keep k;refine⟨j,λb k i g=>?_,λb k=>⟨c,e b k,by rw[r.length];exact ae _⟩,λb k i x o g y=>?_⟩
 .have l:i<c.length:=r.length▸g;exact⟨c,c[i],e b k,by simp[l]⟩
 .obtain⟨rfl,y⟩:=y;obtain⟨d,m,n⟩:=r.oV (y c (e _ k));exact⟨Same.refl _,d,m,Rep.keep k (λ_ z=>z) d n⟩
theorem He {b:Int}(e:n<=ba):Walk K (wb b n) B H ((cc n).map λ(i:Nat)=>.int (b+i)):=by
 have c:((cc n).map λ(i:Nat)=>(ZS (b+i):D)).length=n:=by simp
 refine⟨by rw[c];exact e,λd k i a=>?_,λd k=>?_,λd k i x f a y=>?_⟩
 .rw[c]at a;exact a
 .show n<=_;rw[c];simp_all
 .obtain⟨rfl,rfl⟩:=y;rw[c]at a;exact⟨Same.refl _,.int (b+i),by rw[ao,ej a];rfl,rfl⟩
end
section
variable {X:Cx}{a b e:Expr}{fc:Rho->Res GD}
theorem z39 (c:Inv X i u g f)(r:RelV y v)(s:Rep X.K g B y d)(e:z4x d=.ok x)
  (q:∀J,Walk X.K J B g x->R J g):wpAny (model X.prog X.w) X.A (qq v) (vZ X i u tg R) X.xe f:=by
 cases d<;>try (cases e;done)
 case list ds=>
  cases e;obtain⟨a,t,rfl,h,rs⟩:=s
  have j:SqL X.K g a t:=by
   rcases h with⟨h,_⟩|⟨h|h,_⟩
   .exact .inl (.inl h)
   .exact .inl (.inr h)
   .exact .inr h
  cases r;obtain⟨k,l,p,m⟩:=c.list j;refine lu p.isList (⟨f.heap.objs.size,[f.heap.objs.size],_,_,g,rfl,c.kept λb o e=>aw _ e,Gg a _,⟨_,bu _ rfl,rfl,rfl⟩,λb n=>?_,q _ (OA h rs (rs.length▸m))⟩);have e:b=f.heap.objs.size:=by simpa using n
  subst e;exact c.gX (ae _) (c.hok.fresh (ae _))
 case tuple ds=>
  cases e;obtain⟨a,t,rfl,j,rs⟩:=s;cases r;obtain⟨k,l,p,m⟩:=c.tuple j;refine pd p (⟨f.heap.objs.size,[f.heap.objs.size],_,_,g,rfl,c.kept λb o e=>aw _ e,Mw a _,⟨_,bu _ rfl,rfl,rfl⟩,λb n=>?_,q _ (OB j rs (rs.length▸m))⟩);have e:b=f.heap.objs.size:=by simpa using n
  subst e;exact c.gX (ae _) (c.hok.fresh (ae _))
theorem dW (i:PE X a (tD X.K fa)):PI X tg a (tDW X.K λρ=>fa ρ>>=λx=>z4x x.2>>=λg=>.ok (x.1,g)):=by
 rintro b s j H R I ⟨ρ,F,w,so,e,q⟩
 obtain⟨x,k,e⟩:=Res.aA e;obtain⟨g,l,e⟩:=Res.aA e;cases e;refine aK (i b s j H (λv c=>Same H c/\Rep X.K c (BG F H x.1) v x.2) I ⟨ρ,F,x,so,k,λv c h d=>⟨h,d⟩⟩) λv h m=>?_;obtain⟨y,c,n,o,f,d⟩:=m;exact z39 n o (Rep.there _ d) l λJ p=>q J _ c f (λ_ z=>z) p
theorem Cm {n:Int}(a:n<=bC)(b:-bC<=n):-(2 ^ 62)<=n/\n<2 ^ 62:=by unfold bC at *;omega
theorem eW.one {K:Z5}(r:eW K F H H' vs [x]):∃v,vs=[v]/\Rep K H' (BG F H x.1) v x.2:=by obtain⟨v,t,e,h,q⟩:=r;subst e q;exact⟨v,rfl,h⟩
theorem eW.two {K:Z5}(r:eW K F H H' vs [x,y]):∃v w,vs=[v,w]/\Rep K H' (BG F H x.1) v x.2/\Rep K H' (BG F H y.1) w y.2:=by obtain⟨v,t,e,h,q⟩:=r;obtain⟨w,a,b⟩:=q.one;subst e a;exact⟨v,w,rfl,h,b⟩
theorem OC (hm:X.mg "range"=Z8)(l:Gl X "range")(hs:isStar a=Z6)(m:PA X [a] (tDA X.K fs))(o:∀c b,fs c=.ok b->b.length=1):PI X y (.Call (.Name "range" p) [a] [] pos) (tDW X.K λc=>fs c>>=λb=>iV (b.map (·.2))>>=λj=>.ok (.fr,j)):=
 PI.imp (MB l hm m (fH hs)) λA H R ⟨c,F,w,so,e,q⟩=>by
  obtain⟨b,k,e⟩:=Res.aA e;obtain⟨j,f,e⟩:=Res.aA e;cases e;refine⟨c,F,b,so,k,λB r s rs=>?_⟩
  match b,(o c b k)with
  | [(g,d)],t=>
   obtain⟨v,rfl,u⟩:=rs.one;cases d<;>try (cases f;done)
   rename_i n;subst u;change(if n<=bC/\-bC<=n then Res.ok ((cc n.toNat).map λ(i:Nat)=>ZS i)else .no)=_ at f;split at f
   case isFalse=>cases f
   rename_i hn;cases f;have h:=Cm hn.1 hn.2;refine⟨n,rfl,h.1,h.2,q _ (λ_=>False) r s (λ_ z=>z.elim) ?_⟩;have x:((cc n.toNat).map λ(i:Nat)=>(ZS i:D))=(cc n.toNat).map λi=>.int (0+i):=by apply kx;intro i _;rw[Int.zero_add]
   rw[x];exact He (pA (by unfold bC at *;omega))
theorem OD (hm:X.mg "range"=Z8)(s:Gl X "range")(hs:isStar a=Z6)(i:isStar b=Z6)(t:PA X [a,b] (tDA X.K fs))(u:∀f c,fs f=.ok c->c.length=2):PI X tg (.Call (.Name "range" p) [a,b] [] pos) (tDW X.K λf=>fs f>>=λc=>iV (c.map (·.2))>>=λk=>.ok (.fr,k)):=
 PI.imp (zeh s hm t (by rw[fH hs,fH i];rfl) (fH i)) λD H R ⟨f,F,w,so,e,q⟩=>by
  obtain⟨c,l,e⟩:=Res.aA e;obtain⟨k,h,e⟩:=Res.aA e;cases e;refine⟨f,F,c,so,l,λE x y rs=>?_⟩;have B:=u f c l;rcases c with _|⟨⟨g,d⟩,_|⟨⟨G,A⟩,_|⟨_,_⟩⟩⟩<;>try (simp at B;done)
  obtain⟨v,I,rfl,C,j⟩:=rs.two;cases d<;>try (cases h;done)
  cases A<;>try (cases h;done)
  rename_i n m;subst C j;change(if -bC<=n/\m<=bC/\n<=bC/\-bC<=m then Res.ok ((cc (m-n).toNat).map λ(i:Nat)=>ZS (n+i))else .no)=_ at h;split at h
  case isFalse=>cases h
  rename_i hn;cases h;have o:=Cm hn.2.2.1 hn.1;have r:=Cm hn.2.1 hn.2.2.2;refine⟨n,m,rfl,⟨o.1,o.2,r.1,r.2⟩,q _ (λ_=>False) x y (λ_ z=>z.elim) ?_⟩;refine He ?_;rw[db];unfold bC at *;omega
def Fm.drop (F:Fm)(i:Nat):Fm:={F with O:=λa=>if F.O a=Z9 i then Z8 else F.O a}
theorem Fm.bN {F:Fm}{a:Addr}(h:F.O a=Z8):(F.drop i).O a=none:=by show(if F.O a=Z9 i then Z8 else F.O a)=Z8;rw[h];rfl
theorem Bin.drop {a:Ad}(h:Bin F a):Bin (F.drop i) a:=by
 cases a with
 |none=>exact h
 |some a=>exact⟨Fm.bN h.1,h.2⟩
theorem Slot.drop {K:Z5}(a:j≠i)(h:Slot K F H j g v d):Slot K (F.drop i) H j g v d:=by
 cases g with
 |fr=>
  obtain⟨p,e,o,h⟩:=h;refine⟨p,e,?_,?_⟩
  .show(if F.O p=Z9 i then Z8 else F.O p)=Z9 j;rw[o,sg (λz=>a (si z))]
  .rcases h with⟨c,f,k,l,r⟩|⟨c,f,k,l,r⟩
   .exact .inl ⟨c,f,k,l,r.weak λ_ b=>b.drop⟩
   .exact .inr ⟨c,f,k,l,aW.same (λ_ _ e=>e) (λ_ b=>b.drop) r⟩
 |od=>exact h
 |al=>exact h
 |nu=>exact Rep.weak (λ_ b=>b.drop) h
def BI (F:Fm):G->Ad->Prop
 |.od=>eG F
 |.fr=>bU F
 |.al=>bU F
 |.nu=>bU F
theorem BI.of {a:Ad}(b:∀a,H a=Z8->F.V a)(h:BG F H g a):BI F g a:=by
 cases g with
 |fr=>exact nw.aN b h
 |od=>exact h
 |al=>exact h
 |nu=>exact h.elim (nw.aN b) Bin.aN
theorem StOk.mJ {K:Z5}(so:StOk K F H f h)(r:Rep K H (BI F x.1) v x.2):StOk K (F.drop i) H (f.set i (Z9 v)) (h.set i (Z9 (z1g x))) where
 ext:=so.ext
 aN:=so.aN
 own:=λa j e=>by
  have k:F.O a=Z9 j:=by
   have:(if F.O a=Z9 i then Z8 else F.O a)=Z9 j:=e;split at this
   .cases this
   .exact this
  exact so.own a j k
 len:=by rw[bx,bx];exact so.len
 sl:=λj g d e=>by
  by_cases c:i=j
  .subst c;rw[dz]at e;simp only[if_true]at e;split at e
   .rename_i l;have b:z1g x=(g,d):=by simpa using e
    refine⟨v,?_,?_⟩
    .rw[dz];simp[so.len,l]
    .obtain⟨m,dx⟩:=x;cases m with
     |fr=>cases b;exact r
     |od=>cases b;exact r
     |al=>cases b;exact r
     |nu=>cases b;exact r
   .cases e
  .rw[bp c]at e ⊢;obtain⟨u,n,o⟩:=so.sl j g d e;exact⟨u,n,o.drop λz=>c z.symm⟩
structure Keeps (F F':Fm)(is:List Nat)(σ bG:L2.St):Prop where
 h0:F'.H0=F.H0
 v:F'.V=F.V
 z:F'.z=F.z
 o:∀a,F.O a=Z8->F'.O a=Z8
 len:bG.length=σ.length
 rest:∀j,j∉is->bG[j]?=σ[j]?
theorem Keeps.refl:Keeps F F is σ σ:=⟨rfl,rfl,rfl,λ_ h=>h,rfl,λ_ _=>rfl⟩
theorem Keeps.set {v:Option V}(h:i∈is):Keeps F (F.drop i) is σ (σ.set i v):=⟨rfl,rfl,rfl,λ_ h=>Fm.bN h,bx,λj a=>bp λz=>a (by rw[<-z];exact h)⟩
theorem Keeps.trans (a:Keeps F f is σ d)(b:Keeps f OE is d c):Keeps F OE is σ c:=⟨b.h0.trans a.h0,b.v.trans a.v,b.z.trans a.z,λx h=>b.o x (a.o x h),b.len.trans a.len,λj e=>(b.rest j e).trans (a.rest j e)⟩
def tDG (K:Z5)(t:Tg):TG:=λv σ H Q=>∃ρ F x eV,StOk K F H σ ρ/\Rep K H (BI F x.1) v x.2/\fI t x ρ=.ok eV/\∀bG F',StOk K F' H bG eV->Keeps F F' (tgIx t) σ bG->Q bG H
theorem _root_.L2.PG.imp (h:PG X e t)(i:∀v a H Q,c v a H Q->t v a H Q):PG X e c:=λb s a H v u Q I r q=>h b s a H v u Q I r (i v a H Q q)
theorem _root_.L2.PGs.imp {e:List Expr}(h:PGs X e t)(i:∀v a H Q,c v a H Q->t v a H Q):PGs X e c:=λb s a H v u Q I r q=>h b s a H v u Q I r (i v a H Q q)
theorem OF (hN:X.N.Nodup)(a:X.N[i]?=Z9 x)(b:Loc X.env.scope x)(c:Sto X x):PG X (.Name x pos) (tDG X.K (.nm i)):=PG.imp (Ga hN a b c) λv f H Q ⟨g,F,x,d,so,r,e,q⟩=>by cases e;exact q _ _ (so.mJ r) (Keeps.set (by simp[tgIx]))
def mK (K:Z5)(all is:List Nat):uQ:=λvs σ H Q=>∃ρ F g ds eV,(∀i∈is,i∈all)/\StOk K F H σ ρ/\Reps K H (BI F g) vs ds/\tu ρ is ds g=Z9 eV/\∀bG F',StOk K F' H bG eV->Keeps F F' all σ bG->Q bG H
theorem OG:PGs X [] (mK X.K all []):=
 PGs.imp Mv λf b H Q ⟨h,F,g,a,c,_,so,r,e,q⟩=>by
  cases a with
  |nil=>cases e;exact⟨r,q b F so Keeps.refl⟩
  |cons d a=>cases e
theorem OH (hN:X.N.Nodup)(c:X.N[i]?=Z9 x)(u:Loc X.env.scope x)(w:Sto X x)(h:PGs X es (mK X.K all is)):PGs X (.Name x p::es) (mK X.K all (i::is)):=
 PGs.imp (zhc (Ga hN c u w) h (by rfl)) λC D H Q ⟨y,F,g,l,m,f,so,r,e,q⟩=>by
  cases l with
  |nil=>cases e
  |cons d l=>
   obtain⟨v,t,rfl,s,z⟩:=r;refine⟨v,t,rfl,y.set i (Z9 (z1g (gJ d g,d))),F.drop i,g,l,m,λj A=>f j (a9 _ A),?_,?_,e,λn B o k=>q n B o ((Keeps.set (f i bg)).trans k)⟩
   .refine so.mJ ?_;unfold gJ;by_cases c:imm d=Z7
    .rw[sf c];exact Rep.aS d c s
    .rw[sg c];exact s
   .exact z.weak λa b=>by cases g<;>exact b
theorem OI (x:X.calm=Z7)(h:PGs X es (mK X.K is is))(hn:(gk es X.env).length=n)(p:(gk es X.env).findIdx? (·.1)=Z8)(y:is.length=n):PG X (.Tuple es k pos) (tDG X.K (.tp is)):=
 λl s z H v u Q I A ⟨f,F,⟨g,d⟩,j,so,r,e,q⟩=>by
  have m:∀is b f c,tu f is b g=Z9 c->is.length=b.length:=by
   intro is
   induction is with
   |nil=>intro b f c h;cases b with
    |nil=>rfl
    |cons _ _=>cases h
   |cons i is B=>intro b f c h;cases b with
    |nil=>cases h
    |cons d b=>rw[bc,bc,B b _ _ h]
  have t:∀b,Res.dE (tu f is b g)=.ok j->tu f is b g=Z9 j:=λb e=>by
   cases o:tu f is b g with
   |none=>rw[o]at e;cases e
   |some c=>rw[o]at e;rw[Res.ok.inj e]
  cases d<;>try (cases e;done)
  case tuple b=>have o:=t b e;obtain⟨a,C,rfl,D,w⟩:=r;exact znn x h hn p l s z H _ u Q I A ⟨a,C,rfl,D,by rw[w.length,<-m _ _ _ _ o];exact y,f,F,g,b,j,λ_ h=>h,so,w,o,q⟩
theorem StOk.blk {K:Z5}(so:StOk K F H s k)(m:Nat)(js:List Nat)(l:Addr)(u:List V)(c:H l=Z8):
  StOk K {F with V:=λa=>F.V a/\a≠l,O:=λ_=>Z8} (upd H l (.lst u)) (eY m js s) (bz m Z8++js.map λj=>iT (k.getD j Z8)) where
 ext:=λa o e=>by have:=so.ext a o e;rw[aE (bO this c)];exact this
 aN:=λa e=>by
  by_cases h:a=l
  .subst h;rw[bF]at e;cases e
  .rw[aE h]at e;exact⟨so.aN a e,h⟩
 own:=λa i e=>by cases e
 len:=by unfold eY;simp
 sl:=λi g d e=>by
  have n:∀a,bU F a/\¬nw H a->bU {F with V:=λa=>F.V a/\a≠l,O:=λ_=>Z8} a:=λa h=>by
   cases a with
   |none=>exact h.1
   |some a=>exact⟨h.1,λz=>h.2 (z▸c)⟩
  have p:∀a,eG F a/\¬nw H a->eG {F with V:=λa=>F.V a/\a≠l,O:=λ_=>Z8} a:=λa h=>by
   cases a with
   |none=>exact h.1
   |some a=>exact⟨h.1.1,h.1.2,λz=>h.2 (z▸c)⟩
  rw[ki]at e;split at e
  .rw[dh]at e;split at e<;>cases e
  .rename_i w;rw[cf]at w e;rw[ao]at e;cases q:js[i-m]? with
   |none=>rw[q]at e;cases e
   |some j=>
    rw[q]at e;have b:iT (k.getD j Z8)=Z9 (g,d):=si e;cases r:k[j]? with
    |none=>rw[aa,r]at b;cases b
    |some o=>
     rw[aa,r]at b;cases o with
     |none=>cases b
     |some gd=>
      obtain⟨t,d0⟩:=gd;obtain⟨v,x,f⟩:=so.sl j t d0 r;refine⟨v,?_,?_⟩
      .unfold eY;rw[b7 (by grind),cf,ao,q];show Z9 (s.getD j Z8)=_;rw[aa,x];rfl
      .cases t with
       |fr=>cases b;exact Rep.same (Same.upd c) n (Rep.there _ (f.rep so.iW))
       |od=>cases b;exact Rep.same (Same.upd c) p (Rep.there _ f)
       |al=>cases b;exact Rep.same (Same.upd c) n (Rep.there _ f)
       |nu=>cases b;exact Rep.same (Same.upd c) n (Rep.there _ (f.rep so.iW))
theorem Cn:∀l m r,kA f (l++m)=.ok r->∃a b,kA f l=.ok a/\kA f m=.ok b/\r=a++b
 | [],m,r,h=>⟨[],r,rfl,h,rfl⟩
 |x::l,m,r,h=>by
  obtain⟨o,c,h⟩:=Res.aA h;obtain⟨d,e,h⟩:=Res.aA h;obtain⟨a,b,g,i,rfl⟩:=Cn l m d e;cases h;refine⟨oc o a,b,?_,i,?_⟩
  .show(f x>>=λo=>kA f l>>=λr=>Res.ok (oc o r))=_;rw[c,Res.aB,g,Res.aB]
  .cases o<;>rfl
theorem eW.snoc {K:Z5}:∀{a:List V} {b:List GD} {v:V} {x:GD},eW K F H c a b->Rep K c (BG F H x.1) v x.2->eW K F H c (a++[v]) (b++[x])
 |a,[],v,x,r,h=>by have e:a=[]:=r;subst e;exact⟨v,[],rfl,h,rfl⟩
 |a,y::f,v,x,r,h=>by obtain⟨u,t,rfl,d,q⟩:=r;exact⟨u,t++[v],rfl,d,q.snoc h⟩
theorem eW.keep {K:Z5}(d:∀a o g,f a=Z9 o->(BG F H g (Z9 a)\/Fix o)->h a=Z9 o):∀{c:List V} {xs:List GD},eW K F H f c xs->eW K F H h c xs
 |c,[],r=>r
 |c,y::ys,r=>by obtain⟨u,t,e,i,q⟩:=r;exact⟨u,t,e,Rep.keep (λa o e b=>d a o y.1 e b) (λ_ z=>z) _ i,q.keep d⟩
theorem eW.len {K:Z5}:∀{a:List V} {xs:List GD},eW K F H H' a xs->a.length=xs.length
 |a,[],r=>by have e:a=[]:=r;subst e;rfl
 |a,y::b,r=>by obtain⟨u,t,rfl,c,q⟩:=r;rw[bc,bc,q.len]
theorem Hf:∀l r,kA f l=.ok r->r.length<=l.length
 | [],r,h=>by cases h;simp_all
 |x::l,r,h=>by
  obtain⟨o,c,h⟩:=Res.aA h;obtain⟨a,b,h⟩:=Res.aA h;have:=Hf l a b;cases h;cases o with
  |none=>exact bq this (by simp)
  |some y=>simp only[oc,bc];omega
def zgh (nt:Nat)(js:List Nat)(t:Tg)(fw:Rho->Res (G×List D))(fc:Rho->Res Bool)(fe:Rho->Res GD):Rho->Res GD:=λρ=>fw ρ>>=λw=>kA (λx=>fI t (gJ x w.1,x) (bz nt Z8++js.map λj=>iT (ρ.getD j Z8))>>=λρ1=>fc ρ1>>=λk=>if k then fe ρ1>>=λy=>.ok (Z9 y)else .ok Z8) w.2>>=λys=>.ok (qN ys,.list (ys.map (·.2)))
def OJ (g:TG)(tc:TT)(te:TE)(em:L2.St->L2.St)(σ:L2.St)(Q:VK):It->Hp->Prop:=λJ H1=>∀l,H1 l=Z8->∃P:Nat->Nat->List V->Hp->Prop,(∃m,P 0 m [] (upd H1 l (.lst [])))/\∀i m acc H2,P i m acc H2->(J.stop i H2/\Q (.ref l) H2)\/(J.go i H2/\acc.length<ba/\∃N:List V->Hp->Prop,(∀lY H',N lY H'->∃m',m'<m/\P (i+1) m' lY H')/\∀x H3,J.gR i H2 x H3->g x (em σ) H3 λjZ H4=>fR (em σ) jZ/\tc jZ H4 λb H5=>if b=Z7 then te jZ H5 λy H6=>H6 l=Z9 (.lst acc)/\N (acc++[y]) (upd H6 l (.lst (acc++[y])))else N acc H5)
abbrev CI (K:Z5)(F:Fm)(f:D->Res (Option GD))(ds:List D)(H1:Hp)(l:Nat)(i:Nat)(acc:List V)(H2:Hp):Prop:=H2 l=Z9 (.lst acc)/\(∀a o,H1 a=Z9 o->H2 a=Z9 o)/\∃ys,kA f (ds.take i)=.ok ys/\eW K F (upd H1 l (.lst [])) H2 acc ys
theorem zba {fc:Rho->Res Bool}(ht0:∀i∈tgIx t,i<nt)(so:StOk X.K F H σ ρ)(e:zgh nt js t fw fc fe ρ=.ok z)(q:∀v D,Same H D->Rep X.K D (BG F H z.1) v z.2->Q v D):
  ∃w,fw ρ=.ok w/\∀J B D,Same H D->(∀a,B a->BG F H w.1 a/\¬nw D a)->Walk X.K J B D w.2->OJ (tDG X.K t) (dV X.K fc) (tD X.K fe) (eY nt js) σ Q J D:=by
 obtain⟨w,W,e⟩:=Res.aA e;obtain⟨Y,e2,e⟩:=Res.aA e;cases e;refine⟨w,W,λJ B s s1 hB wk l I=>?_⟩;generalize hr:(bz nt Z8++js.map λj=>iT (ρ.getD j Z8))=Hg at e2;generalize hf:(λx=>fI t (gJ x w.1,x) Hg>>=λn=>fc n>>=λk=>if k then fe n>>=λy=>Res.ok (Z9 y)else .ok Z8)=f at e2;have zx:=so.same s1;have Co:∀i,∃S,kA f (w.2.take i)=.ok S:=λi=>by rw[<-List.take_append_drop i w.2]at e2;obtain⟨r1,r2,T,_,_⟩:=Cn _ _ _ e2;exact⟨r1,T⟩
 let L:Fm:={F with V:=λa=>F.V a/\a≠l,O:=λ_=>Z8}
 refine ztt (CI X.K L f w.2 s l) wk.len ?_ ?_ ?_ ?_ ?_
 .exact⟨bF,λa o e=>by rw[aE (bO e I)];exact e,[],rfl,rfl⟩
 .rintro i p U ⟨_,_,S,M,rs⟩
  rw[rs.len];have:=Hf _ _ M;rw[d7]at this;omega
 .rintro p U ⟨T,E,S,M,rs⟩
  rw[fv]at M;rw[e2]at M;cases M;refine⟨wk.stop U (λa o e _=>E a o e),q _ _ (λa o e=>E a o (s1 a o e)) ?_⟩;have Hh:=s1.none I;refine⟨l,p,rfl,.inl ⟨T,?_⟩,rs.mG λx hx a hb=>?_⟩
  .show BG F H (qN Y) (Z9 l);unfold qN;split
   .exact Hh
   .exact so.aN l Hh
  .unfold qN;by_cases ea:(Y.all λx=>x.1==.fr)=Z7
   .rw[sf ea];have OK:x.1=.fr:=by simpa using br.mp ea x hx
    rw[OK]at hb;cases a with
    |none=>exact hb
    |some a=>
     have Hi:upd s l (.lst []) a=none:=hb
     have:s a=none:=by
      by_cases c:a=l
      .subst c;exact I
      .rw[aE c]at Hi;exact Hi
     exact s1.none this
   .rw[sg ea];have:bU L a:=BG.aN (λa e=>((zx.blk nt js l [] I).aN a e)) hb;cases a with
    |none=>exact this
    |some a=>exact this.1
 .rintro i p U N ⟨_,E,_⟩
  exact wk.go U (λa o e _=>E a o e) i N
 .rintro i p U x H3 N ⟨T,E,S,M,rs⟩ y
  obtain⟨s3,d,hd,rx⟩:=wk.gR U (λa o e _=>E a o e) i x H3 N y;obtain⟨Wm,A⟩:=Co (i+1);have P:w.2.take (i+1)=w.2.take i++[d]:=by rw[List.take_add_one,hd];rfl
  rw[P]at A;obtain⟨r1,r2,g1,g2,g3⟩:=Cn _ _ _ A;rw[M]at g1;cases g1;obtain⟨o,C,g2⟩:=Res.aA g2;obtain⟨r3,g5,g2⟩:=Res.aA g2;cases g5;rw[<-hf]at C;obtain⟨n,k1,C⟩:=Res.aA C;obtain⟨k,k2,C⟩:=Res.aA C
  have sb:StOk X.K L H3 (eY nt js σ) Hg:=by
   rw[<-hr];refine(zx.blk nt js l p I).same λa o e=>s3 a o ?_;by_cases c:a=l
   .subst c;rw[bF]at e;rw[T];exact e
   .rw[aE c]at e;exact E a o e
  have Cp:Rep X.K H3 (BI L (gJ d w.1)) x d:=by
   unfold gJ;by_cases N:imm d=Z7
   .rw[sf N];exact Rep.aS d N rx
   .rw[sg N];refine rx.weak λa b=>?_;obtain⟨r,b2⟩:=hB a b;have G:=BI.of so.aN r;cases a with
    |none=>cases hw:w.1<;>rw[hw]at G<;>exact G
    |some a=>
     have c:a≠l:=λz=>b2 (by rw[z];exact I);cases hw:w.1<;>rw[hw]at G
     .exact⟨G,c⟩
     .exact⟨G.1,G.2,c⟩
     .exact⟨G,c⟩
     .exact⟨G,c⟩
  refine⟨_,L,(gJ d w.1,d),n,sb,Cp,k1,λjZ R zy h=>⟨⟨h.len.symm,λj v hj=>?_⟩,n,R,k,zy,k2,λH5 s5=>?_⟩⟩
  .by_cases Hj:j∈tgIx t
   .have :=ht0 j Hj;unfold eY at hj;rw[c7 (cf▸this),dh,sf this]at hj;cases hj
   .rw[h.rest j Hj];exact hj
  .have h5:∀a o,s a=Z9 o->H5 a=Z9 o:=λa o e=>s5 a o (s3 a o (E a o e));have u:=s5 _ _ (s3 _ _ T);have Hk:=rs.keep λa o g e _=>s5 a o (s3 a o e);cases k with
   |false=>cases C;cases g2;refine iP ⟨u,h5,S,?_,Hk⟩;rw[P,A,g3];simp[oc]
   |true=>
    obtain⟨yv,k3,C⟩:=Res.aA C;cases C;cases g2;refine iQ ⟨n,R,yv,zy.same s5,k3,λv H6 s6 rv=>⟨s6 _ _ u,bF,λa o e=>?_,S++[yv],?_,?_⟩⟩
    .rw[aE (bO e I)];exact s6 a o (h5 a o e)
    .rw[P,A,g3];rfl
    .have OL:=s6 _ _ u
     have hk:∀a o g,H6 a=Z9 o->(BG L (upd s l (.lst [])) g (Z9 a)\/Fix o)->upd H6 l (.lst (p++[v])) a=Z9 o:=λa o g e b=>by
      have c:a≠l:=by
       intro z;subst z;rcases b with b|b
       .cases g with
        |fr=>have m:upd s a (.lst []) a=none:=b;rw[bF]at m;cases m
        |od=>exact b.2.2 rfl
        |al=>exact b.2 rfl
        |nu=>
         rcases b with b|b
         .have m:upd s a (.lst []) a=none:=b;rw[bF]at m;cases m
         .exact b.2.2.2 rfl
       .rw[OL]at e;cases e;exact b
      rw[aE c];exact e
     have OM:Rep X.K H6 (BG L (upd s l (.lst [])) yv.1) v yv.2:=by
      refine rv.weak λa b=>?_;cases hg:yv.1 with
      |fr=>
       rw[hg]at b;cases a with
       |none=>exact b
       |some a=>
        have m:H5 a=none:=b;show upd s l (.lst []) a=Z8;rw[aE (λz=>by rw[z,u]at m;cases m)];cases W:s a with
        |none=>rfl
        |some o=>rw[h5 a o W]at m;cases m
      |nu=>
       rw[hg]at b;cases a with
       |none=>exact b
       |some a=>
        rcases b with b|b
        .have m:H5 a=none:=b;refine .inl ?_;show upd s l (.lst []) a=Z8;rw[aE (λz=>by rw[z,u]at m;cases m)];cases W:s a with
         |none=>rfl
         |some o=>rw[h5 a o W]at m;cases m
        .refine .inr ⟨rfl,?_,?_⟩
         .have:=b.2.1;rw[h.h0]at this;exact this
         .have:=b.2.2;rw[h.v]at this;exact this
      |od=>
       rw[hg]at b;cases a with
       |none=>have r:R.z:=b;rw[h.z]at r;exact r
       |some a=>have r:R.H0 a≠Z8/\R.V a:=b;rw[h.h0,h.v]at r;exact r
      |al=>
       rw[hg]at b;cases a with
       |none=>have r:R.z:=b;rw[h.z]at r;exact r
       |some a=>have r:R.V a:=b;rw[h.v]at r;exact r
     exact((Hk.keep λa o g e _=>s6 a o e).snoc OM).keep hk
theorem ON {fc:Rho->Res Bool}(a:∀i∈tgIx t,i<c):∀b H Q,tD X.K (zgh c js t fw fc fe) b H Q->wD (tDW X.K fw) (tDG X.K t) (dV X.K fc) (tD X.K fe) (eY c js) b H Q:=by
 rintro b H Q ⟨d,F,z,so,e,q⟩
 obtain⟨w,f,h⟩:=zba a so e q;exact⟨d,F,w,so,f,h⟩
theorem zfo {fc:Rho->Res Bool}(hc:X.calm=Z7)(k:BlkScope X scope d c js)(e:∀i∈tgIx t,i<c)(l:PI X h iter (tDW X.K fw))
  (m:∀C b s H,PG (blk X scope d C b s H) h (tDG X.K t)) (n:∀C b s H,oQ (blk X scope d C b s H) f (dV X.K fc)) (o:∀C b s H,PE (blk X scope d C b s H) g (tD X.K fe)) (hs:∀x,ge iter X.env x=pure x):
  PE X (.ListComp g [⟨h,iter,f,0⟩] scope pos) (tD X.K (zgh c js t fw fc fe))/\∀j H Q,tD X.K (zgh c js t fw fc fe) j H Q->wD (tDW X.K fw) (tDG X.K t) (dV X.K fc) (tD X.K fe) (eY c js) j H Q:=by
 have a:=ON (X:=X) (js:=js) (fw:=fw) (fc:=fc) (fe:=fe) e;exact⟨PE.imp (zad hc k l m n o hs) a,a⟩
end
def BC (H:Hp)(A:Ad->Prop):G->Ad->Prop
 |.fr=>nw H
 |.od=>λa=>nw H a\/A a
 |.al=>λa=>nw H a\/A a
 |.nu=>nw H
def spD (K:Z5)(n:Nat)(m:Fn):Sp:=λvs H Q _=>∃A ds x,vs.length=n/\Reps K H A vs ds/\m ds=.ok x/\∀v H',Same H H'->Rep K H' (BC H A x.1) v x.2->Q v H'
section
variable {X:Cx}{a e:Expr}
theorem zqc (o:Cal X.prog X.w X.K X.mg X.base k x ps (spD X.K n m))(hr:Room s X.A)(t:k<=s)(u:PA X (e::es) (tDA X.K fs))(g:((e::es).all fun e=> !isStar e)=Z7)(c:Gl X x)(i:WL x)
  (y:∀d b,fs d=.ok b->b.length=n):PE X (.Call (.Name x p) (e::es) [] pos) (tD X.K λd=>fs d>>=λb=>m (b.map (·.2))>>=λr=>.ok (gJ r.2 (jO r.1),r.2)):=
 PE.imp (zfq o hr u g t c i) λI H Q ⟨d,F,z,so,e,q⟩=>by
  obtain⟨b,j,e⟩:=Res.aA e;obtain⟨r,B,e⟩:=Res.aA e;cases e;refine⟨d,F,b,so,j,λC l f rs=>?_⟩;show spD X.K n m (C++[]) l Q E0;rw[eo];refine⟨_,_,r,by rw[rs.len];exact y d b j,rs.jP so.aN,B,λv D E G=>q v D (f.trans E) (qT G λa h=>?_)⟩;have al:(nw l a\/bU F a)->bU F a:=λh=>h.elim (λh=>(nw.back f h).aN so.aN) λh=>h;cases c:r.1 with
  |fr=>rw[c]at h;exact nw.back f h
  |od=>rw[c]at h;exact al h
  |al=>rw[c]at h;exact al h
  |nu=>rw[c]at h;exact nw.back f h
def rMt (K:Z5)(m:String):V->List V->Hp->VK->Prop:=λx xs H Q=>∃B B' dx ds d,Rep K H B x dx/\Reps K H B' xs ds/\mtD m dx ds=.ok d/\∀w H',Same H H'->Rep K H' (λa=>nw H a\/B a\/B' a) w d->Q w H'
theorem oN (h:z0x o=Z7):kb o n env w=w:=by
 cases o with
 |Call f a k p=>
  cases f with
  |Name x q=>
   cases a with
   |nil=>
    cases k with
    |nil=>cases h
    |cons _ _=>rfl
   |cons _ _=>rfl
  |_=>rfl
 |_=>rfl
theorem Hm:∀{es:List Expr},(es.all λe=> !isStar e)=Z7->(jl pos (dk es env)).all (λx=> !x.1)=Z7
 | [],_=>rfl
 |e::es,h=>by have h:=au.mp (c9▸h);rw[fH (by simpa using h.1)];show(Z7&&(jl pos (dk es env)).all (λx=>!x.1))=Z7;rw[Hm h.2];rfl
theorem z9n (h:(es.all fun e=> !isStar e)=Z7)(a:es.length<20):((jl cpos (dk es env)).all (fun x=> !x.1)&&(qy cpos (ny [] env)).all (fun x=>x.1.isSome)
  &&decide (es.length+([]:List qa).length+(if([]:List qa).isEmpty then 0 else 1)<30))=true:=by
 rw[Hm h];show(Z7&&Z7&&decide (es.length+0+0<30))=Z7;rw[sr (by omega)];rfl
theorem d_mt {id:String}(A:qx T)(slot:PySem.Slot T n id)(l:se (.builtin id)=pure (.type "method_descriptor"))(hm:MtR X id (rMt X.K m))(C:∀H B x dx D d,Rep X.K H B x dx->mtD m dx D=.ok d->tyV X.K T x H)
  (E:PE X o (tD X.K fa)) (G:PA X (e::es) (tDA X.K fs)) (p:z0x o=Z7) (f:((e::es).all λe=>!isStar e)=Z7) (I:(e::es).length<20) (c:(g.endLine==i.line)=Z7):
  PE X (.Call (.Attribute o n g) (e::es) [] i) (tD X.K λj=>fa j>>=λx=>fs j>>=λr=>mtD m x.2 (r.map (·.2))>>=λd=>.ok (gJ d .al,d)):=by
 have b:=f;rw[c9,cn]at b;refine PE.imp (zlz A slot l hm E G (oN p) (z9n f I) c (fH (by simpa using b.1)) (lZ b.2)) λR H Q J=>?_;obtain⟨j,F,z,so,e,q⟩:=J;obtain⟨x,L,e⟩:=Res.aA e;obtain⟨r,M,e⟩:=Res.aA e;obtain⟨d,u,e⟩:=Res.aA e;cases e;refine⟨j,F,x,so,L,λv N k y=>⟨C N _ v x.2 _ d y u,j,F,r,so.same k,M,λS U s rs=>?_⟩⟩;refine⟨_,_,x.2,_,d,y.sm s,rs.jP (so.same k).aN,u,λw O P t=>q w O ((k.trans s).trans P) (qT t λa h=>?_)⟩;rcases h with h|h|h
 .exact(nw.back (k.trans s) h).aN so.aN
 .exact h.aN so.aN
 .exact h
theorem OO (hu:X.A.units+64<cLine):MtR X "dict.get" (rMt X.K "get"):=by
 rintro f s y H x C v D Q I h rs ⟨B,E,dx,F,d,i,j,e,q⟩
 simp only[mtD,if_true]at e;split at e
 .rename_i es k d0;split at e
  case isFalse=>cases e
  rename_i l;cases e;obtain⟨G,J,rfl,m,n⟩:=Cj j;obtain⟨kk,rfl,rfl,_⟩:=xq l m;obtain⟨a,kvs,rfl,g1,_,g2⟩:=i;cases h;obtain⟨L,M,rfl,o,p⟩:=vals2 rs;have b:=g2.val kk;refine zpx (by omega) I (DGet.k g1) o p λN O r c=>⟨_,H,r,c,q _ H (Same.refl H) ?_⟩;cases g:z0f es (kD kk)with
  |none=>rw[g]at b;rw[show cL kvs kk=Z8 from b];exact n.weak λ_ z=>.inr (.inr z)
  |some P=>rw[g]at b;obtain⟨w,t,u⟩:=b;rw[t];exact u.weak λ_ z=>.inr (.inl z)
 .cases e
theorem OP (r:Rep X.K H B x dx)(e:mtD "get" dx b=.ok d):tyV X.K "dict" x H:=by
 simp only[mtD,if_true]at e;split at e
 .obtain⟨a,kvs,rfl,g1,_,_⟩:=r;exact .inr (.inr (.inl ⟨rfl,.inl ⟨kvs,g1⟩⟩))
 .cases e
theorem Hn {K:Z5}:∀{a:List D} {b:List Str} {f:List V} {g:List Value},hG a=Z9 b->Reps K H B f a->Vals f g->StrsAre g b/\∀s∈b,ZV s=Z7
 | [],b,f,g,e,r,q=>by cases e;have c:=r;subst c;cases q;exact⟨.nil,λ_ h=>nomatch h⟩
 |d::a,b,f,g,e,r,q=>by
  cases d<;>try (cases e;done)
  rename_i z;change(hG a).map (z:: ·)=_ at e;cases c:hG a with
  |none=>rw[c]at e;cases e
  |some j=>
   rw[c]at e;cases e;obtain⟨v,t,rfl,i,k⟩:=r;have ev:=i.1;subst ev;cases q with
   |cons l m=>
    obtain⟨n,rfl⟩:=l;obtain⟨o,p⟩:=Hn c k m;refine⟨.cons z n o,λs hs=>?_⟩;rcases(bh.mp hs)with rfl|hs
    .exact i.2
    .exact p s hs
theorem OQ (z:Str)(b:List Str):Txt.join z b=qO z b:=by
 have go:∀(r:List Str) a,(r.foldl (λa p=>a++z.cps++p.cps) a).toList=a.toList++(r.map λp=>z.cps.toList++p.cps.toList).flatten:=by
  intro r
  induction r with
  |nil=>intro a;simp
  |cons p r c=>intro a;rw[List.foldl_cons,c];simp
 cases b with
 |nil=>rfl
 |cons x r=>
  have:=go r x.cps;show(⟨r.foldl (λa p=>a++z.cps++p.cps) x.cps⟩:Str)=⟨(x.cps.toList++(r.map λp=>z.cps.toList++p.cps.toList).flatten).toArray⟩
  congr 1
  rw[<-this]
theorem OR (d:ZV z=Z7)(h:∀s∈b,ZV s=Z7):ZV (qO z b)=true:=
 qU.mpr λc hc=>by
  have a:c∈zm z.cps.toList b:=by simpa[qO]using hc
  cases b with
  |nil=>simp[zm]at a
  |cons x r=>
   simp only[zm,bw,List.mem_flatten,ce]at a;rcases a with a|⟨l,⟨p,e,rfl⟩,a⟩
   .exact qU.mp (h x bg) c a
   .rcases bw.mp a with a|a
    .exact qU.mp d c a
    .exact qU.mp (h p (a9 _ e)) c a
theorem OS:MtR X "str.join" (rMt X.K "join"):=by
 rintro c s o H x p v r Q I g rs ⟨B,w,dx,y,d,f,h,e,q⟩
 simp only[mtD,show("join":String)≠"get" by decide,if_true,if_false]at e;split at e
 .rename_i z A;split at e
  case h_2=>cases e
  rename_i C b;split at e
  case isFalse=>cases e
  rename_i i;cases e;obtain⟨D,rfl,j⟩:=xu h;obtain⟨a,E,rfl,l,rl⟩:=oA j;obtain⟨u,rfl,rfl⟩:=vals1 rs;have ex:=f.1;subst ex;obtain⟨t,rfl⟩:=g;obtain⟨m,n,pl,_⟩:=I.list l;obtain⟨sa,ok⟩:=Hn b rl n;refine join_list pl.isList (by simpa using sa) (bq i (by unfold bC;decide)) λF k=>?_;rw[OQ];exact⟨.str _,H,I.tok _,⟨_,rfl⟩,q _ H (Same.refl H) ⟨rfl,OR f.2 ok⟩⟩
 .cases e
theorem OT (r:Rep X.K H B x dx)(e:mtD "join" dx ds=.ok d):tyV X.K "str" x H:=by
 simp only[mtD,show("join":String)≠"get" by decide,if_true,if_false]at e;split at e
 .have ex:x=.str _:=r.1;subst ex;exact rfl
 .cases e
end
def cQ (F:Fm)(H:Hp)(F':Fm)(H':Hp):Prop:=∀a o,H a=Z9 o->F.O a=Z8->H' a=Z9 o/\F'.O a=Z8
theorem cQ.refl:cQ F H F H:=λ_ _ e o=>⟨e,o⟩
theorem cQ.trans (a:cQ F H f g)(b:cQ f g c d):cQ F H c d:=λx o e n=>by obtain⟨h,n1⟩:=a x o e n;exact b x o h n1
theorem cQ.same (s:Same H b):cQ F H F b:=λa o e n=>⟨s a o e,n⟩
def Run (F F':Fm):Prop:=Same F.H0 F'.H0/\F'.V=F.V/\F'.z=F.z
theorem Run.refl:Run F F:=⟨λ_ _ e=>e,rfl,rfl⟩
theorem Run.trans (a:Run F d)(b:Run d c):Run F c:=⟨λx o e=>b.1 x o (a.1 x o e),b.2.1.trans a.2.1,b.2.2.trans a.2.2⟩
theorem Run.of (h:a.H0=F.H0)(v:a.V=F.V)(z:a.z=F.z):Run F a:=⟨λ_ _ e=>by rw[h];exact e,v,z⟩
def BR (F:Fm):G->Ad->Prop
 |.fr=>λa=>match a with|some a=>F.H0 a=Z8|none=>False
 |.od=>bU F
 |.al=>bU F
 |.nu=>λa=>match a with|some a=>F.H0 a=Z8|none=>False
def uY (K:Z5)(F:Fm)(H:Hp)(D:Ends):Out->Prop
 |.nx eV=>∀bG H' F',StOk K F' H' bG eV->Run F F'->cQ F H F' H'->D.nx bG H'
 |.rt g d=>∀v H',(∀a o,F.H0 a=Z9 o->H' a=Z9 o)->Rep K H' (BR F g) v d->D.rt v H'
def tDS (K:Z5)(f:Rho->Res Out):TS:=λD σ H=>∃ρ F out,StOk K F H σ ρ/\f ρ=.ok out/\uY K F H D out
theorem none_of (s:Same H b)(h:b a=Z8):H a=none:=by
 cases e:H a with
 |none=>rfl
 |some o=>rw[s a o e]at h;cases h
theorem BR.run (r:Run F c)(h:BR c g a):BR F g a:=by obtain⟨d,e,f⟩:=r;cases g<;>cases a<;>first|exact h|(exact none_of d h)|(have b:c.V _:=h;rw[e]at b;exact b)|(have b:c.z:=h;rw[f]at b;exact b)
theorem uY.back {K:Z5}{D:Ends}(r:Run F m)(f:cQ F H m n)(h:uY K F H D i):uY K m n D i:=by
 cases i with
 |nx p=>exact λj c l so q s=>h j c l so (r.trans q) (f.trans s)
 |rt g d=>exact λv c k t=>h v c (λa o e=>k a o (r.1 a o e)) (t.weak λ_ b=>b.run r)
section
variable {X:Cx}{e:Expr}{st:Stmt}{rest:List Stmt}{fs gs:Rho->Res Out}
theorem OU:PSs X [] (tDS X.K λa=>.ok (.nx a)):=PSs.imp FY λD b H ⟨a,F,c,so,e,q⟩=>by cases e;exact q b H F so Run.refl cQ.refl
theorem OV (j:PS X st (tDS X.K fs))(k:PSs X rest (tDS X.K gs)):PSs X (st::rest) (tDS X.K λa=>oT (fs a) gs):=
 PSs.imp (FZ j k) λD o H ⟨a,F,b,so,e,q⟩=>by
  have e:oT (fs a) gs=.ok b:=e;cases c:fs a with
  |no=>rw[c]at e;cases e
  |exc x=>rw[c]at e;cases e
  |ok l=>
   rw[c]at e;cases l with
   |nx h=>exact⟨a,F,.nx h,so,c,λm p n i r f=>⟨h,n,b,i,e,q.back r f⟩⟩
   |rt g d=>cases e;exact⟨a,F,.rt g d,so,c,q⟩
theorem Cq (hc:PT X c (dV X.K ft))(f:PSs X A (tDS X.K fs))(g:PSs X h (tDS X.K gs)):PS X (.If c A h pos) (tDS X.K λa=>ft a>>=λk=>if k then fs a else gs a):=
 PS.imp (F1 hc f g) λD j H ⟨a,F,b,so,e,q⟩=>by
  obtain⟨k,i,e⟩:=Res.aA e;refine⟨a,F,k,so,i,λl d=>?_⟩;cases k with
  |true=>exact iQ ⟨a,F,b,so.same d,e,q.back Run.refl (cQ.same d)⟩
  |false=>exact iP ⟨a,F,b,so.same d,e,q.back Run.refl (cQ.same d)⟩
theorem OW {K:Z5}(so:∀a o,F.H0 a=Z9 o->H a=Z9 o)(e:∀a,H a=Z8->F.V a)(r:Rep K c (BG F H g) v d):Rep K c (BR F (jO g)) v d:=by
 refine r.weak λa b=>?_;cases g with
 |fr=>
  cases a with
  |none=>exact b
  |some a=>exact Same.none so b
 |od=>exact eG.aN b
 |al=>exact b
 |nu=>
  cases a with
  |none=>exact b.elim id id
  |some a=>exact b.elim (λb=>Same.none so b) λb=>b.2.1
theorem OX (c:PE X e (tD X.K fa)):PS X (.Return (Z9 e) pos) (tDS X.K λb=>fa b>>=λx=>.ok (.rt (jO x.1) x.2)):=PS.imp (A0 c) λD j H ⟨b,F,d,so,e,q⟩=>by obtain⟨x,f,e⟩:=Res.aA e;cases e;exact⟨b,F,x,so,f,λv g h i=>q v g (λa o e=>h a o (so.ext a o e)) (OW so.ext so.aN i)⟩
theorem Slot.ret {K:Z5}(so:∀a i,F.O a=Z9 i->F.H0 a=Z8/\F.V a)(h:Slot K F H i g v d):Rep K H (BR F (if imm d then .fr else jO g)) v d:=by
 by_cases c:imm d=Z7
 .rw[sf c];exact Rep.aS d c (h.rep λa i e=>(so a i e).2)
 .rw[sg c];cases g with
  |fr=>
   obtain⟨p,e,o,h⟩:=h
   have k:∀a,Bin F a->BR F .fr a:=λa b=>by
    cases a with
    |none=>exact b
    |some a=>exact b.2.1
   rcases h with⟨f,l,rfl,j,r⟩|⟨f,l,rfl,j,r⟩
   .exact⟨p,f,e,.inl ⟨j,(so _ _ o).1⟩,r.weak k⟩
   .exact⟨p,f,e,j,(so _ _ o).1,aW.same (λ_ _ e=>e) k r⟩
  |od=>exact Rep.weak (λ_ b=>b.aN) h
  |al=>exact h
  |nu=>
   refine Rep.weak (λa b=>?_) h;cases a with
   |none=>exact b
   |some a=>exact b.2.1
theorem zas {i:Nat}(hN:X.N[i]?=Z9 x)(j:Vis X.env.scope x)(hd:WL x)(c:(x==("__classdict__":Str))=Z6):
  PS X (.Return (Z9 (.Name x p)) pos) (tDS X.K λb=>match b[i]? with|some (Z9 (g,d))=>.ok (.rt (if imm d then .fr else jO g) d)|_=>.no):=
 PS.imp (A0 (vR hN j hd c)) λD m H ⟨b,F,f,so,e,q⟩=>by
  have e:(match b[i]? with|some (Z9 (g,d))=>Res.ok (Out.rt (if imm d then .fr else jO g) d)|_=>.no)=.ok f:=e;cases h:b[i]? with
  |none=>rw[h]at e;cases e
  |some o=>
   rw[h]at e;cases o with
   |none=>cases e
   |some gd=>obtain⟨g,d⟩:=gd;cases e;obtain⟨v,k,l⟩:=so.sl i g d h;exact⟨v,k,q v H so.ext (l.ret λa i e=>⟨(so.own a i e).1,(so.own a i e).2.1⟩)⟩
theorem OY (hs:jM e=Z6)(c:PE X e (tD X.K fa)):PS X (.Expr e pos) (tDS X.K λa=>fa a>>=λ_=>.ok (.nx a)):=PS.imp (oR c hs) λD d H ⟨a,F,f,so,e,q⟩=>by obtain⟨x,g,e⟩:=Res.aA e;cases e;exact⟨a,F,x,so,g,λv h b i=>q d h F (so.same b) Run.refl (cQ.same b)⟩
theorem aW.aS {K:Z5}:∀{kvs:List (Key×V)} es,cF es=Z7->aW K H B kvs es->aW K H B' kvs es
 |kvs,[],_,r=>r
 |kvs,(kd,d)::es,i,r=>by unfold cF at i;rw[c9,cn]at i;obtain⟨k,v,t,e,a,ok,h,q⟩:=r;exact⟨k,v,t,e,a,ok,Rep.aS d i.1 h,aW.aS es i.2 q⟩
theorem StOk.gA {K:Z5}(so:StOk K F H d ρ){a:Ad}(h:nw H a):Bin F a:=by
 cases a with
 |none=>exact h
 |some a=>
  refine⟨?_,Same.none so.ext h,so.aN a h⟩;cases b:F.O a with
  |none=>rfl
  |some j=>obtain⟨_,_,z⟩:=so.own a j b;rcases z with⟨c,z⟩|⟨c,z⟩<;>rw[h]at z<;>cases z
theorem StOk.Cr {K:Z5}(so:StOk K F H c f)(r:Rep K H (Bin F) v d):StOk K (F.drop i) H (c.set i (Z9 v)) (f.set i (Z9 (.nu,d))):=by
 have z:=so.mJ (i:=i) (x:=(.al,d)) (Rep.weak (λ_ b=>Bin.aN b) r);refine⟨z.ext,z.aN,z.own,by rw[bx,bx];exact so.len,λj g h e=>?_⟩;by_cases a:i=j
 .subst a;rw[dz]at e;simp only[if_true]at e;split at e
  .rename_i k;cases e;exact⟨v,by rw[dz];simp[so.len,k],Rep.weak (λ_ b=>b.drop) r⟩
  .cases e
 .refine z.sl j g h ?_;rw[bp a]at e ⊢;exact e
def Fm.take (F:Fm)(i:Nat)(p:Addr):Fm:={F with O:=λa=>if a=p then Z9 i else if F.O a=Z9 i then Z8 else F.O a}
theorem cQ.drop (s:Same H b):cQ F H (F.drop i) b:=λa o e n=>⟨s a o e,Fm.bN n⟩
theorem StOk.setA {K:Z5}(so:StOk K F H Q R)(t:Same H s)(r:Rep K s (BG F H x.1) v x.2):
  ∃f,StOk K f s (Q.set i (Z9 v)) (R.set i (Z9 (z1u x)))/\Run F f/\cQ F H f s:=by
 have w:=so.same t;obtain⟨g,d⟩:=x
 have l:z1u (g,d)=z1g (if imm d then .al else GY g,d)->∃f,StOk K f s (Q.set i (Z9 v)) (R.set i (Z9 (z1u (g,d))))/\Run F f/\cQ F H f s:=λe=>by
  rw[e];refine⟨F.drop i,w.mJ ?_,Run.of rfl rfl rfl,cQ.drop t⟩;by_cases k:imm d=Z7
  .rw[sf k];exact Rep.aS d k r
  .rw[sg k];cases g with
   |fr=>exact r.weak λ_ b=>nw.aN so.aN b
   |od=>exact r
   |al=>exact r
   |nu=>exact r.weak λ_ b=>b.elim (nw.aN so.aN) Bin.aN
 have A:z1u (g,d)=(.nu,d)->(∀a,BG F H g a->Bin F a)->∃f,StOk K f s (Q.set i (Z9 v)) (R.set i (Z9 (z1u (g,d))))/\Run F f/\cQ F H f s:=λe E=>by rw[e];exact⟨F.drop i,w.Cr (Rep.weak E r),Run.of rfl rfl rfl,cQ.drop t⟩
 have own:∀p,F.O p=Z8->H p=Z8->F.H0 p=Z8->F.V p->v=.ref p->z1u (g,d)=(.fr,d)->(∀f,(∀a,Bin F a\/nw H a->a≠Z9 p->Bin f a)->f.O p=Z9 i->Slot K f s i .fr v d)->(((∃I,s p=Z9 (.lst I))\/∃kvs,s p=Z9 (.dK kvs)))->
   ∃f,StOk K f s (Q.set i (Z9 v)) (R.set i (Z9 (z1u (g,d))))/\Run F f/\cQ F H f s:=λp U c X Y ev es Z J=>by
  have B:∀a,a≠p->(F.take i p).O a=(F.drop i).O a:=λa ha=>by show(if a=p then Z9 i else _)=_;rw[sg ha];rfl
  have OZ:∀a,H a=Z8->F.O a=none:=λa e=>by
   cases C:F.O a with
   |none=>rfl
   |some j=>obtain⟨_,_,h⟩:=so.own a j C;rcases h with⟨I,h⟩|⟨I,h⟩<;>rw[e]at h<;>cases h
  have y:∀a,Bin F a\/nw H a->a≠Z9 p->Bin (F.take i p) a:=λa b Cs=>by
   cases a with
   |none=>exact b.elim id id
   |some a=>have q:a≠p:=λz=>Cs (by rw[z]);have E:=b.elim id λb=>⟨OZ a b,(λa e=>Same.none so.ext e) a b,so.aN a b⟩;exact⟨by rw[B a q];exact Fm.bN E.1,E.2⟩
  have L:(F.take i p).O p=Z9 i:=by show(if p=p then Z9 i else _)=_;rw[sf rfl]
  refine⟨F.take i p,⟨w.ext,w.aN,λa j e=>?_,by rw[bx,bx];exact so.len,λj g' d' e=>?_⟩,Run.of rfl rfl rfl,λa o e n=>⟨t a o e,?_⟩⟩
  .by_cases q:a=p
   .subst q;exact⟨X,Y,J⟩
   .rw[B a q]at e
    have e':F.O a=Z9 j:=by
     have:(if F.O a=Z9 i then Z8 else F.O a)=Z9 j:=e;split at this
     .cases this
     .exact this
    exact w.own a j e'
  .by_cases hj:i=j
   .subst hj;rw[dz]at e;simp only[if_true]at e;split at e
    .rename_i hl;have C:z1u (g,d)=(g',d'):=by simpa using e
     rw[es]at C;cases C;exact⟨v,by rw[dz];simp[so.len,hl],Z _ y L⟩
    .cases e
   .rw[bp hj]at e ⊢;obtain⟨u,h1,S⟩:=so.sl j g' d' e;refine⟨u,h1,?_⟩;cases g' with
    |fr=>
     obtain⟨T,C,o1,h3⟩:=S;refine⟨T,C,?_,?_⟩
     .rw[B T (λz=>by rw[z,U]at o1;cases o1)];show(if F.O T=Z9 i then Z8 else F.O T)=Z9 j;rw[o1,sg (λz=>hj (si z).symm)]
     .have M:∀a,Bin F a/\¬nw H a->Bin (F.take i p) a:=λa b=>y a (.inl b.1) λz=>b.2 (z▸c);rcases h3 with⟨G,D,e3,e2,r3⟩|⟨G,D,e3,e2,r3⟩
      .exact .inl ⟨G,D,e3,t _ _ e2,Reps.same t M (Reps.there _ r3)⟩
      .exact .inr ⟨G,D,e3,t _ _ e2,aW.same t M (aW.there _ r3)⟩
    |od=>exact Rep.same t (λ_ b=>b) S
    |al=>exact Rep.same t (λ_ b=>b) S
    |nu=>exact Rep.same t (λa b=>y a (.inl b.1) λz=>b.2 (z▸c)) (Rep.there _ S)
  .have q:a≠p:=λz=>by rw[z,c]at e;cases e
   rw[B a q];exact Fm.bN n
 have N:∀p,H p=Z8->F.O p=none:=λp c=>by
  cases C:F.O p with
  |none=>rfl
  |some j=>obtain⟨_,_,P⟩:=so.own p j C;rcases P with⟨I,P⟩|⟨I,P⟩<;>rw[c]at P<;>cases P
 by_cases k:imm d=Z7
 .exact l (by show(if imm d then _ else _)=_;rw[sf k];rw[sf k];rfl)
 .cases g with
  |od=>exact l (by delta z1u;simp only[sg k];rfl)
  |al=>exact l (by delta z1u;simp only[sg k];cases d<;>rfl)
  |nu=>exact A (by delta z1u;simp only[sg k]) λa b=>b.elim so.gA id
  |fr=>
   cases d with
   |none=>exact absurd rfl k
   |bool b=>exact absurd rfl k
   |int b=>exact absurd rfl k
   |str b=>exact absurd rfl k
   |tuple D=>exact A (by delta z1u;simp only[sg k]) λa b=>so.gA b
   |list D=>
    by_cases m:imms D=Z7
    .obtain⟨p,G,ev,h,rs⟩:=r;rcases h with⟨h,b⟩|⟨_,b⟩
     .have c:H p=none:=b;exact own p (N p c) c (Same.none so.ext c) (so.aN p c) ev (by delta z1u;simp only[sg k,sf m]) (λf E ho=>⟨p,ev,ho,.inl ⟨G,D,rfl,h,Reps.aS D m rs⟩⟩) (.inl ⟨G,h⟩)
     .exact b.elim
    .exact A (by delta z1u;simp only[sg k,sg m]) λa b=>so.gA b
   |dict es=>
    by_cases m:cF es=Z7
    .obtain⟨p,kvs,ev,h,b,rs⟩:=r;have c:=b;exact own p (N p c) c (Same.none so.ext c) (so.aN p c) ev (by delta z1u;simp only[sg k,sf m]) (λf E ho=>⟨p,ev,ho,.inr ⟨kvs,es,rfl,h,aW.aS es m rs⟩⟩) (.inr ⟨kvs,h⟩)
    .exact A (by delta z1u;simp only[sg k,sg m]) λa b=>so.gA b
theorem Ho {K:Z5}{te:TE}(h:∀a H Q,tD K fa a H Q->te a H Q)(D:Ends)(a:L2.St)(H:Hp)(q:tDS K (λb=>fa b>>=λx=>.ok (.nx (b.set i (Z9 (z1u x))))) D a H):te a H λv c=>D.nx (a.set i (Z9 v)) c:=by obtain⟨b,F,g,so,e,q⟩:=q;obtain⟨x,j,e⟩:=Res.aA e;cases e;refine h a H _ ⟨b,F,x,so,j,λv c k l=>?_⟩;obtain⟨m,d,r,f⟩:=so.setA k l;exact q _ c m d r f
theorem zo4 (hN:X.N.Nodup)(b:X.N[i]?=Z9 x)(c:Loc X.env.scope x)(d:Sto X x)(hs:i5 e (Z9 (.Name x px)) pos.line X.env=pure Z6)(f:PE X e (tD X.K fa)):
  PS X (.Assign [.Name x px] e pos) (tDS X.K λa=>fa a>>=λx=>.ok (.nx (a.set i (Z9 (z1u x))))):=
 PS.imp (zec hN b c f hs d) λD g H q=>Ho (λ_ _ _ h=>h) D g H q
theorem zrq (j:PG X te (tDG X.K (.tp is)))(k:PE X e (tD X.K fa))(hs:oo [te] e pos.line X.env=pure Z6)(l:oq [te] e X.env=pure Z8)(m:(gk [te] X.env).map (·.2)=[o0 te X.env]):
  PS X (.Assign [te] e pos) (tDS X.K λf=>fa f>>=λx=>fI (.tp is) x f>>=λd=>.ok (.nx d)):=
 PS.imp (znf k j hs l m) λD y H ⟨f,F,p,so,e,q⟩=>by obtain⟨x,r,e⟩:=Res.aA e;obtain⟨d,s,e⟩:=Res.aA e;cases e;refine⟨f,F,x,so,r,λv t i u=>⟨f,F,x,d,so.same i,u.weak λ_ b=>BI.of so.aN b,s,λg w h c=>?_⟩⟩;exact q g t w h (Run.of c.h0 c.v c.z) λa o e n=>⟨i a o e,c.o a n⟩
theorem O0 {K:Z5}(so:StOk K F H i j)(h:okIn y=Z7)(r:Rep K c (BG F H y.1) u y.2):Rep K c (Bin F) u y.2:=by
 obtain⟨g,d⟩:=y;rcases fj.mp h with e|f
 .exact Rep.aS d e r
 rcases fj.mp f with h|h
 .cases eq_of_beq h;exact Rep.weak (λa b=>so.gA b) r
 .cases eq_of_beq h;exact Rep.weak (λa b=>b.elim so.gA id) r
theorem StOk.mutate {K:Z5}(so:StOk K F H M A)(B:F.O p=Z9 i)(s:M[i]?=Z9 (Z9 (.ref p)))(C:(∃m,t=.lst m)\/∃kvs,t=.dK kvs)
  (hs:Slot K F (upd H p t) i .fr (.ref p) U):StOk K F (upd H p t) M ((A.set i (Z9 (.fr,U))).map tm)/\cQ F H F (upd H p t):=by
 obtain⟨h0,X,u⟩:=so.own p i B;have q:∀a,F.O a=Z8->a≠p:=λa e z=>by rw[z,B]at e;cases e
 have k:∀a o,H a=Z9 o->Fix o->a≠p:=λa o e f z=>by subst z;rcases u with⟨m,h⟩|⟨m,h⟩<;>rw[e]at h<;>cases h<;>exact f
 refine⟨⟨λa o e=>?_,λa e=>?_,λa j e=>?_,by rw[ah,bx];exact so.len,λj g d e=>?_⟩,(λa o e n=>⟨by rw[aE (q a n)];exact e,n⟩)⟩
 .have c:a≠p:=λz=>by rw[z,h0]at e;cases e
  rw[aE c];exact so.ext a o e
 .by_cases c:a=p
  .subst c;exact X
  .rw[aE c]at e;exact so.aN a e
 .obtain⟨Y,Z,x3⟩:=so.own a j e;refine⟨Y,Z,?_⟩;by_cases c:a=p
  .subst c;rw[bF];rcases C with⟨m,rfl⟩|⟨m,rfl⟩
   .exact .inl ⟨m,rfl⟩
   .exact .inr ⟨m,rfl⟩
  .rw[aE c];exact x3
 .rw[ao]at e;by_cases N:i=j
  .subst N;have hl:i<A.length:=by rw[<-so.len];exact(ay.mp s).1
   rw[dz]at e;simp only[if_true,hl]at e;cases(by simpa using e);exact⟨_,s,hs⟩
  .rw[bp N]at e;cases D:A[j]? with
   |none=>rw[D]at e;cases e
   |some sl=>
    rw[D]at e;have l:tm sl=Z9 (g,d):=by simpa using e
    cases sl with
    |none=>cases l
    |some gd=>
     obtain⟨P,d0⟩:=gd;obtain⟨v,h1,y⟩:=so.sl j P d0 D;refine⟨v,h1,?_⟩;cases P with
     |fr=>
      cases l;obtain⟨Q,e4,R,h3⟩:=y;have w:Q≠p:=λz=>by rw[z,B]at R;simp_all
      have S:∀a o,H a=Z9 o->(Bin F (Z9 a)\/Fix o)->upd H p t a=Z9 o:=λa o e b=>by have:a≠p:=b.elim (λb=>q a b.1) λf=>k a o e f;rw[aE this];exact e
      refine⟨Q,e4,R,?_⟩;rcases h3 with⟨E,x,I,J,r⟩|⟨E,x,I,J,r⟩
      .exact .inl ⟨E,x,I,by rw[aE w];exact J,Reps.keep S (λ_ z=>z) x r⟩
      .exact .inr ⟨E,x,I,by rw[aE w];exact J,aW.keep S (λ_ z=>z) x r⟩
     |od=>cases l;exact Rep.keep (λa o e b=>by have:a≠p:=b.elim (λb z=>by have T:F.H0 a≠Z8/\F.V a:=b;rw[z]at T;exact T.1 h0) λf=>k a o e f;rw[aE this];exact e) (λ_ z=>z) _ y
     |nu=>cases l;exact Rep.keep (λa o e b=>by have:a≠p:=b.elim (λb=>q a b.1) λf=>k a o e f;rw[aE this];exact e) (λ_ z=>z) _ y
     |al=>
      change(if imm d0 then Z9 (G.al,d0)else Z8)=_ at l;split at l
      .rename_i L;cases l;exact Rep.kF (λa o e f=>by rw[aE (k a o e f)];exact e) _ L y
      .cases l
theorem O1 {K:Z5}(so:StOk K F H c f)(e:f[i]?=Z9 (Z9 (.fr,d))):∃p,c[i]?=Z9 (Z9 (.ref p))/\F.O p=Z9 i/\((∃a b,d=.list b/\H p=Z9 (.lst a)/\Reps K H (Bin F) a b)\/(∃kvs es,d=.dict es/\H p=Z9 (.dK kvs)/\aW K H (Bin F) kvs es)):=by obtain⟨v,g,p,rfl,o,h⟩:=so.sl i .fr d e;exact⟨p,g,o,h⟩
def Cu (m:String)(i:Nat)(fs:Rho->Res (List GD)):Rho->Res Out:=λρ=>fs ρ>>=λys=>match ρ[i]? with
 |some (Z9 (.fr,.list xs))=>mC m xs ys>>=λwR=>.ok (.nx ((ρ.set i (Z9 (.fr,.list wR))).map tm))
 |_=>.no
theorem zhs {fs:Rho->Res (List GD)}(hN:X.N[i]?=Z9 x)(G:Vis X.env.scope x)(hd:WL x)(m:(x==("__classdict__":Str))=Z6)(I:PA X (e::es) (tDA X.K fs))(g:((e::es).all fun e=>!isStar e)=Z7)(J:(e::es).length<20)(d:(ap.endLine==L.line)=Z7):
  PS X (.Expr (.Call (.Attribute (.Name x p) "append" ap) (e::es) [] L) pos) (tDS X.K (Cu "append" i fs)):=by
 have c:=g;rw[c9,cn]at c;refine PS.imp (oR (zlz PySem.F.plainAttrs_list PySem.F.slot_list_append PySem.F.type_list_append Bq (vR hN G hd m) I rfl (z9n g J) d (fH (by simpa using c.1)) (lZ c.2)) rfl) λD M H P=>?_;obtain⟨Q,F,R,so,e,q⟩:=P;obtain⟨S,T,e⟩:=Res.aA e;split at e
 .rename_i U V;obtain⟨W,f,e⟩:=Res.aA e;cases e;obtain⟨j,w,n,h⟩:=O1 so V;rcases h with⟨k,ds,s,A,r⟩|⟨_,_,s,_⟩
  .cases s;refine⟨_,w,.inl ⟨rfl,k,SqL.of A⟩,Q,F,S,so,T,λus Y l rs=>?_⟩;simp only[mC,if_true]at f;split at f
   .rename_i y;split at f
    case isFalse=>cases f
    rename_i B;cases f;rw[au,decide_eq_true_iff]at B;obtain⟨u,rfl,Z⟩:=rs.one;have C:=l _ _ A;refine⟨j,k,u,rfl,rfl,C,pA (by rw[r.length];omega),?_⟩
    have r':Reps X.K (upd Y j (.lst (k++[u]))) (Bin F) (k++[u]) (U++[y.2]):=by
     refine Reps.keep (λa o e b=>?_) (λ_ z=>z) _ (Reps.append (r.sm l) ⟨u,[],rfl,O0 so B.1 Z,rfl⟩)
     have t:a≠j:=by
      intro z;subst z;rcases b with b|b
      .have E:F.O a=none:=b.1;rw[n]at E;cases E
      .rw[C]at e;cases e;exact b
     rw[aE t];exact e
    obtain⟨v,f2⟩:=(so.same l).mutate n w (.inl ⟨_,rfl⟩) ⟨j,rfl,n,.inl ⟨_,_,rfl,bF,r'⟩⟩;exact q M _ F v Run.refl ((cQ.same l).trans f2)
   .cases f
  .cases s
 .cases e
end
theorem Cv (k c:Key):eqK (kD c) (kD k)=decide (c=k):=by
 cases c<;>cases k
 .rename_i a b;show(a==b)=_;rw[j6,decide_eq_decide];exact⟨λh=>by rw[h],λh=>Sum.inl.inj h⟩
 .rfl
 .rfl
 .rename_i a b;show decide (a=b)=_;rw[decide_eq_decide];exact⟨λh=>by rw[h],λh=>Sum.inr.inj h⟩
theorem aW.any {K:Z5}(k:Key):∀{kvs:List (Key×V)} {es:bA},aW K H B kvs es->(es.any λe=>eqK e.1 (kD k))=kvs.any λa=>decide (a.1=k)
 |kvs,[],r=>by have e:kvs=[]:=r;subst e;rfl
 |kvs,(kd,d)::es,r=>by obtain⟨c,v,t,e,b,_,_,q⟩:=r;subst e b;rw[ji,ji,q.any k,Cv]
theorem aW.mL {K:Z5}(k:Key)(h:Rep K H B v d):∀{kvs:List (Key×V)} {es:bA},aW K H B kvs es->aW K H B (kvs.map λa=>if a.1=k then(a.1,v)else a) (es.map λe=>if eqK e.1 (kD k)then(e.1,d)else e)
 |kvs,[],r=>by have e:kvs=[]:=r;subst e;exact rfl
 |kvs,(kd,d0)::es,r=>by
  obtain⟨b,f,t,e,g,ok,h0,q⟩:=r;subst e g;rw[bn,bn];have c:=q.mL k h;by_cases z:b=k
  .subst z;rw[sf rfl,sf (by rw[Cv];simp)];exact⟨b,v,_,rfl,rfl,ok,h,c⟩
  .rw[sg z,sg (by rw[Cv];simpa using z)];exact⟨b,f,_,rfl,rfl,ok,h0,c⟩
theorem aW.app {K:Z5}(ok:keyOk k)(h:Rep K H B v d):∀{kvs:List (Key×V)} {es:bA},aW K H B kvs es->aW K H B (kvs++[(k,v)]) (es++[(kD k,d)])
 |kvs,[],r=>by have e:kvs=[]:=r;subst e;exact⟨k,v,[],rfl,rfl,ok,h,rfl⟩
 |kvs,(kd,d0)::es,r=>by obtain⟨b,c,t,e,f,a,h0,q⟩:=r;subst e f;exact⟨b,c,_,rfl,rfl,a,h0,q.app ok h⟩
theorem aW.put {K:Z5}(ok:keyOk k)(h:Rep K H B v d){es:bA}(r:aW K H B kvs es):aW K H B (putK kvs k v) (dput es (kD k) d):=by
 unfold putK dput;rw[r.any k];split
 .exact r.mL k h
 .exact r.app ok h
def xv (td ty tv:TE):TS:=λD σ H=>tv σ H λv H1=>td σ H1 λx H2=>ty σ H2 λy H3=>(∃a H4,x=.ref a/\DPut H3 a y v H4/\D.nx σ H4)\/Bn x y v H3 λH4=>D.nx σ H4
theorem O2 (hu:X.A.units+1<cLine)(p:PE X o q)(t:PE X i ty)(w:PE X value tv)(hs:i5 value (Z9 (.Subscript o i d)) pos.line X.env=pure Z6):PS X (.Assign [.Subscript o i d] value pos) (xv q ty tv):=by
 intro b s c H D I h;refine wpAny_Assign_Subscript (aK (w b s c H _ I h) λr z ⟨v,B,C,k,E⟩=>aK (p b z c B _ C E) λu F ⟨x,G,J,l,K⟩=>aK (t b F c G _ J K) ?_) hs
 rintro L M ⟨y,N,m,n,e⟩
 rcases e with⟨a,f,ex,g,e⟩|e
 .subst ex;obtain rfl:u=ZP a:=l;exact ze7 hu m g n k λO j=>⟨c,f,j,e⟩
 .exact aK (set_list b M c N x y v u L r _ m l n k e) λ_ O ⟨f,j,P⟩=>⟨c,f,j,P⟩
def tDF (K:Z5)(f:Rho->Res (G×List D×Rho)):TI:=λσ H R=>∃ρ F w,StOk K F H σ ρ/\f ρ=.ok w/\∀J B H' F',Same H H'->Run F F'->cQ F H F' H'->StOk K F' H' σ w.2.2->(∀a,B (Z9 a)->F'.O a=Z8)->(∀a,B a->BI F' w.1 a)->Walk K J B H' w.2.1->R J H'
theorem Cy {K:Z5}(so:StOk K F H i k){a:Addr}(f:g≠.al)(h:BG F H g (Z9 a)):F.O a=none:=by
 cases d:F.O a with
 |none=>rfl
 |some j=>
  obtain⟨h0,_,b⟩:=so.own a j d;cases g with
  |fr=>have c:=h;rcases b with⟨e,b⟩|⟨e,b⟩<;>rw[c]at b<;>cases b
  |od=>exact absurd h0 h.1
  |al=>exact absurd rfl f
  |nu=>
   rcases h with h|h
   .have c:H a=none:=h;rcases b with⟨e,b⟩|⟨e,b⟩<;>rw[c]at b<;>cases b
   .have c:F.O a=none:=h.1;rw[c]at d;cases d
theorem Hq (h:PI X i e (tDW X.K j)):PI X i e (tDF X.K λc=>j c>>=λw=>if w.1==.al then .no else .ok (w.1,w.2,c)):=
 PI.imp h λo H R ⟨c,F,w,so,e,q⟩=>by
  obtain⟨k,l,e⟩:=Res.aA e;refine⟨c,F,k,so,l,λJ B m d g n=>?_⟩;split at e
  .cases e
  .rename_i f;cases e;exact q J B m F d Run.refl (cQ.same d) (so.same d) (λa b=>Cy so (λz=>f (by rw[z];rfl)) (g _ b).1) (λa b=>BI.of so.aN (g a b).1) n
theorem StOk.giveUp {K:Z5}(so:StOk K F H a b)(e:b[i]?=Z9 (Z9 (.fr,d))):StOk K (F.drop i) H a (b.set i (Z9 (.al,d))):=by
 obtain⟨v,c,g⟩:=so.sl i .fr d e;have:=so.mJ (i:=i) (x:=(.al,d)) (g.rep so.iW)
 have es:a.set i (Z9 v)=a:=by
  apply g9;intro j;by_cases f:i=j
  .subst f;rw[dz];simp only[if_true,(ay.mp c).1];exact c.symm
  .rw[bp f]
 rw[es]at this;exact this
theorem O3 (hN:X.N[i]?=Z9 x)(o:Vis X.env.scope x)(hd:WL x)(h:(x==("__classdict__":Str))=Z6):PI X T (.Name x pos) (tDF X.K (zo i)):=by
 rintro c s t H R I ⟨U,F,w,so,e,q⟩
 unfold zo at e;split at e
 .rename_i d hr;obtain⟨W,z,e⟩:=Res.aA e;cases e;obtain⟨v,A,C⟩:=so.sl i .fr d hr;refine aK (vR hN o hd h c s t H (λu f=>u=v/\f=H) I ⟨v,A,rfl,rfl⟩) λu Y D=>?_;obtain⟨y,f,E,G,g,L⟩:=D;subst g L
  let B:Ad->Prop:=λa=>match a with|some a=>(F.drop i).O a=Z8/\F.V a|none=>False
  have M:Rep X.K f B y d:=by
   obtain⟨p,g,l,P⟩:=C
   have m:∀a,Bin F a->B a:=λa b=>by
    cases a with
    |none=>exact b
    |some a=>exact⟨Fm.bN b.1,b.2.2⟩
   have n:B (Z9 p):=⟨by show(if F.O p=Z9 i then Z8 else F.O p)=Z8;rw[sf l],so.iW p i l⟩;rcases P with⟨j,Q,rfl,k,r⟩|⟨j,Q,rfl,k,r⟩
   .exact⟨p,j,g,.inl ⟨k,n⟩,r.weak m⟩
   .exact⟨p,j,g,k,n,aW.same (λ_ _ e=>e) m r⟩
  refine z39 E G M z λJ S=>q J B f (F.drop i) (Same.refl _) (Run.of rfl rfl rfl) (cQ.drop (Same.refl _)) (so.giveUp hr) (λa b=>b.1) (λa b=>?_) S;cases a with
  |none=>exact b.elim
  |some a=>exact b.2
 .cases e
def Fm.mM (F:Fm)(H:Hp):Fm:={F with O:=λa=>match H a with|some (.dK _)=>F.O a|_=>Z8}
theorem Fm.hJ {F:Fm}{a:Addr}(h:F.O a=Z8):(F.mM H).O a=none:=by
 unfold Fm.mM
 dsimp only
 split<;>first|exact h|rfl
theorem StOk.mM {K:Z5}(so:StOk K F H q l):StOk K (F.mM H) H q (l.map BO) where
 ext:=so.ext
 aN:=so.aN
 own:=λa i e=>by
  have c:F.O a=Z9 i:=by
   unfold Fm.mM at e
   dsimp only at e
   split at e
   .exact e
   .cases e
  exact so.own a i c
 len:=by rw[ah];exact so.len
 sl:=λi g d e=>by
  rw[ao]at e;cases h:l[i]? with
  |none=>rw[h]at e;cases e
  |some o=>
   rw[h]at e;have c:BO o=Z9 (g,d):=by simpa using e
   cases o with
   |none=>cases c
   |some gd=>
    obtain⟨m,d0⟩:=gd;obtain⟨v,s,f⟩:=so.sl i m d0 h;refine⟨v,s,?_⟩
    have n:∀a,Bin F a->Bin (F.mM H) a:=λa b=>by
     cases a with
     |none=>exact b
     |some a=>exact⟨Fm.hJ b.1,b.2.1,b.2.2⟩
    cases m with
    |od=>cases c;exact f
    |al=>cases c;exact f
    |nu=>cases c;exact Rep.weak n f
    |fr=>
     obtain⟨p,ev,t,u⟩:=id f;rcases u with⟨y,w,rfl,j,r⟩|⟨kvs,es,rfl,j,r⟩
     .have k:Z9 (G.al,ZT w)=Z9 (g,d):=c;cases k;have x:=Slot.rep so.iW f;exact x
     .have k:Z9 (G.fr,PyData.dict es)=Z9 (g,d):=c;cases k;refine⟨p,ev,?_,.inr ⟨kvs,es,rfl,j,aW.same (λ_ _ z=>z) n r⟩⟩;unfold Fm.mM
      dsimp only
      rw[j];exact t
theorem Cz (A:PE X e (tD X.K fa)):PI X tg e (tDF X.K λk=>fa k>>=λx=>mD x k):=by
 rintro j s C H R I ⟨k,F,w,so,c,q⟩
 obtain⟨⟨g,d⟩,D,c⟩:=Res.aA c;unfold mD at c
 dsimp only at c
 split at c
 .rename_i l;split at c
  .rename_i E;cases c;refine aK (A j s C H (λv f=>Same H f/\Rep X.K f (BG F H g) v (.list l)) I ⟨k,F,_,so,D,λv f u m=>⟨u,m⟩⟩) λv u G=>?_;obtain⟨y,f,L,M,i,m⟩:=G
   let B:Ad->Prop:=λa=>match a with|some a=>(F.mM f).O a=Z8/\F.V a|none=>F.z
   have t:Rep X.K f B y (.list l):=by
    obtain⟨p,N,P,h,r⟩:=m;refine⟨p,N,P,?_,Reps.aS l E r⟩;rcases h with⟨h,b⟩|⟨h,b⟩
    .refine .inl ⟨h,?_,(BG.aN so.aN b:bU F (Z9 p))⟩;unfold Fm.mM
     dsimp only
     rw[h]
    .exact .inr ⟨h,(BG.aN so.aN b:bU F Z8)⟩
   refine z39 L M t rfl λJ Q=>q J B f (F.mM f) i (Run.of rfl rfl rfl) (λa o e n=>⟨i a o e,Fm.hJ n⟩) ((so.same i).mM) (λa b=>b.1) (λa b=>?_) Q;cases a with
   |none=>exact b
   |some a=>exact b.2
  .cases c
 .cases c
theorem PI.Hr {k:Rho->Bool}(hf:PI X c e (tDF X.K f))(i:PI X c e (tDF X.K g)):PI X c e (tDF X.K λb=>if k b then f b else g b):=by
 rintro a s d H R I ⟨b,F,w,so,e,q⟩
 dsimp only at e
 cases h:k b with
 |true=>exact hf a s d H R I ⟨b,F,w,so,by rw[sf h]at e;exact e,q⟩
 |false=>exact i a s d H R I ⟨b,F,w,so,by rw[sg (h▸gw)]at e;exact e,q⟩
theorem zsc (hp:gc (model X.prog X.w) X.A X.env X.xe)(hc:X.calm=Z7)(L:PI X tg iter (tDF X.K fw))(hg:PG X tg (tDG X.K t))(hb:PSs X M (tDS X.K fs))(hs:∀x,ge iter X.env x=pure x):
  PS X (.For tg iter M [] pos) (tDS X.K λU=>fw U>>=λw=>dG (λx E=>fI t (gJ x w.1,x) E>>=λc=>fs c) w.2.1 w.2.2):=
 PS.imp (zea hp hc L hg hb hs) λD σ H ⟨U,F,Y,so,e,q⟩=>by
  obtain⟨w,e1,e⟩:=Res.aA e;refine⟨U,F,w,so,e1,λJ B H1 k s1 r1 f1 N O4 O5 wk=>?_⟩;have q1:=q.back r1 f1;generalize hf:(λx E=>fI t (gJ x w.1,x) E>>=λc=>fs c)=f at e
  have kp:∀{l:Fm} {r:Hp},cQ k H1 l r->Kp B H1 r:=λ{l r} fr a o e b=>by
   have hO:k.O a=none:=by
    rcases b with b|b
    .exact O4 a b
    .cases h:k.O a with
     |none=>rfl
     |some j=>obtain⟨_,_,P⟩:=N.own a j h;rcases P with⟨xs,P⟩|⟨xs,P⟩<;>rw[e]at P<;>cases P<;>exact b.elim
   exact(fr a o e hO).1
  let W:Nat->Nat->L2.St->Hp->Prop:=λi m G r=>m=w.2.1.length-i/\i<=w.2.1.length/\∃c l,StOk X.K l r G c/\Run k l/\cQ k H1 l r/\dG f (w.2.1.drop i) c=.ok Y
  refine⟨W,⟨_,rfl,cz _,w.2.2,k,N,Run.refl,cQ.refl,e⟩,?_⟩
  rintro i m G r ⟨rfl,CB,c,l,Q,I,R,h⟩
  by_cases s:i<w.2.1.length
  .refine .inr ⟨wk.go r (kp R) i s,W (i+1) (w.2.1.length-(i+1)),λbG H' p=>⟨_,by omega,p⟩,λx H3 y=>?_⟩;obtain⟨s3,d,hd,rx⟩:=wk.gR r (kp R) i x H3 s y
   have CD:w.2.1.drop i=d::w.2.1.drop (i+1):=by
    rw[jc s];have:w.2.1[i]=d:=by rw[ac s]at hd;simp_all
    rw[this]
   rw[CD]at h;simp only[dG]at h
   have Cp:Rep X.K H3 (BI l (gJ d w.1)) x d:=by
    have O6:∀g a,BI k g a->BI l g a:=λg a b=>by cases g<;>cases a<;>first|exact b|(have C:k.V _:=b;rw[<-I.2.1]at C;exact C)|(have C:k.z:=b;rw[<-I.2.2]at C;exact C)|(have C:k.H0 _≠Z8/\k.V _:=b;exact⟨λz=>C.1 (none_of I.1 z),by rw[I.2.1];exact C.2⟩)
    unfold gJ;by_cases L:imm d=Z7
    .rw[sf L];exact Rep.aS d L rx
    .rw[sg L];exact rx.weak λa b=>O6 _ _ (O5 a b)
   cases T:f d c with
   |no=>rw[T]at h;cases h
   |exc z=>rw[T]at h;cases h
   |ok o1=>
    obtain⟨S,e4,e5⟩:=Res.aA (by rw[<-T,<-hf]);rw[T]at h;refine⟨c,l,(gJ d w.1,d),S,Q.same s3,Cp,e4,λjZ F4 zy u=>⟨S,F4,o1,zy,e5,?_⟩⟩;have r4:=I.trans (Run.of u.h0 u.v u.z);have f4:=R.trans λa o e n=>⟨s3 a o e,u.o a n⟩;cases o1 with
    |nx hP=>exact λbG H' F' O7 r' f'=>⟨rfl,s,hP,F',O7,r4.trans r',f4.trans f',h⟩
    |rt g d=>cases h;exact(q1.back r4 f4:uY X.K F4 H3 D (.rt g d))
  .have xw:i=w.2.1.length:=by omega
   subst xw;rw[l7]at h;cases h;exact .inl ⟨wk.stop r (kp R),q1 G r l Q I R⟩
theorem O8 (E:gc (model X.prog X.w) X.A X.env X.xe)(hc:PT X c (dV X.K ft))(G:PSs X j (tDS X.K fs)):PS X (.While c j [] pos) (tDS X.K (wQ ft fs n)):=
 PS.imp (Ge E hc G) λD Q H ⟨I,F,o,so,e,q⟩=>by
  let W:Nat->L2.St->Hp->Prop:=λm h r=>∃a f,StOk X.K f r h a/\Run F f/\cQ F H f r/\wQ ft fs m a=.ok o
  refine⟨W,⟨n,I,F,so,Run.refl,cQ.refl,e⟩,?_⟩
  rintro m h r ⟨a,f,i,s,J,b⟩
  cases m with
  |zero=>cases b
  |succ m=>
   obtain⟨k,L,b⟩:=Res.aA b;refine⟨a,f,k,i,L,λB t=>?_⟩;have u:=J.trans (cQ.same t);cases k with
   |false=>cases b;exact iP (q h B f (i.same t) s u)
   |true=>
    refine iQ ⟨W m,λv M p=>⟨m,i7 m,p⟩,?_⟩;cases l:fs a with
    |no=>rw[l]at b;cases b
    |exc z=>rw[l]at b;cases b
    |ok C=>
     rw[l]at b;refine⟨a,f,C,i.same t,l,?_⟩;cases C with
     |nx x=>exact λv M N y O P=>⟨x,N,y,s.trans O,u.trans P,b⟩
     |rt g d=>cases b;exact(q.back s u:uY X.K f B D (.rt g d))
def rAgg (K:Z5)(f:String):List V->Hp->VK->Prop:=λxs H Q=>∃B x dx l ys d,xs=[x]/\Rep K H B x dx/\z4w dx=.ok (l,ys)/\aggD f l ys=.ok d/\∀w H',Same H H'->Rep K H' (λa=>nw H a\/(imms ys=Z6/\B a)) w d->Q w H'
theorem zA {K:Z5}(r:Rep K H B x dx)(e:z4w dx=.ok (l,c)):∃a b,x=.ref a/\(if l then SqL K H a b else cP K H a b)/\Reps K H B b c:=by
 cases dx<;>try (cases e;done)
 .cases e;obtain⟨a,b,rfl,h,q⟩:=oA r;exact⟨a,b,rfl,h,q⟩
 .cases e;obtain⟨a,b,rfl,h,q⟩:=r;exact⟨a,b,rfl,h,q⟩
theorem Reps.mO {K:Z5}(r:Reps K H B c b):Reps K H (λa=>nw H a\/(imms b=Z6/\B a)) c b:=by
 cases d:imms b with
 |true=>exact Reps.aS b d r
 |false=>exact r.weak λ_ z=>.inr ⟨rfl,z⟩
section
variable {X:Cx}{e:Expr}{fa:Rho->Res GD}
theorem zjb (so:StOk X.K F H l j)(e:((fa j>>=fun x=>z4w x.2>>=fun p=>Res.ok (x.1,p))>>=fun w=>aggD f w.2.1 w.2.2>>=fun d=>Res.ok ((gJ d (if imms w.2.2 then .fr else agG w.1),d):GD))=.ok z)(q:∀v g,Same H g->Rep X.K g (BG F H z.1) v z.2->Q v g):
  lV (rAgg X.K f) (oK (tD X.K fa) fQ) l H Q:=by
 obtain⟨w,b,e⟩:=Res.aA e;obtain⟨x,m,b⟩:=Res.aA b;obtain⟨p,n,b⟩:=Res.aA b;cases b;obtain⟨d,o,e⟩:=Res.aA e;cases e;refine⟨j,F,x,so,m,λv A c r=>⟨_,v,x.2,p.1,p.2,d,rfl,r,n,o,λs t u i=>q s t (c.trans u) (qT i λa h=>?_)⟩⟩;cases y:imms p.2 with
 |true=>
  rcases h with h|⟨h,_⟩
  .exact nw.back c h
  .rw[y]at h;cases h
 |false=>
  have al:bU F a:=by
   rcases h with h|⟨_,h⟩
   .exact(nw.back c h).aN so.aN
   .exact h.aN so.aN
  cases k:x.1 with
  |fr=>
   rcases h with h|⟨_,h⟩
   .exact nw.back c h
   .rw[k]at h;exact h
  |od=>exact al
  |al=>exact al
  |nu=>
   rcases h with h|⟨_,h⟩
   .exact .inl (nw.back c h)
   .rw[k]at h;exact h
theorem O9:CallR X (.type "list") (rAgg X.K "list"):=by
 refine CallR.imp Np λi H Q h=>?_;obtain⟨B,x,dx,l,j,d,rfl,r,e,f,q⟩:=h;obtain⟨a,b,rfl,h,rs⟩:=zA r e;cases f
 have g:SqL X.K H a b\/cP X.K H a b:=by
  cases l with
  |true=>exact .inl h
  |false=>exact .inr h
 refine⟨a,b,rfl,g,λp c=>q _ _ (Same.upd c) (qV c rs.mO (λ_ z=>z) (.inl c))⟩
theorem O':CallR X (.type "tuple") (rAgg X.K "tuple"):=by
 refine CallR.imp Nq λg H Q h=>?_;obtain⟨B,x,dx,l,i,d,rfl,r,e,f,q⟩:=h;obtain⟨a,b,rfl,h,rs⟩:=zA r e;cases f;refine⟨a,b,rfl,?_⟩;cases l with
 |true=>exact .inl ⟨h,λp c=>q _ _ (Same.upd c) (G0 c rs.mO λ_ z=>z)⟩
 |false=>exact .inr ⟨h,q _ H (Same.refl H) ⟨a,b,rfl,h,rs.mO⟩⟩
theorem ziv (hc:CallR X (.type f) (rAgg X.K f))(hm:X.mg x=Z8)(c:dg x=Z9 (.type f))(hs:isStar y=Z6)(g:PE X y (tD X.K fa))(h:Gl X x)(hn:x≠"__name__")(a:WL x):
  PE X (.Call (.Name x p) [y] [] pos) (tD X.K λb=>(fa b>>=λx=>z4w x.2>>=λp=>Res.ok (x.1,p))>>=λw=>aggD f w.2.1 w.2.2>>=λd=>.ok (gJ d (if imms w.2.2 then .fr else agG w.1),d)):=
 PE.imp (zk hc hm c (eP g jW hs) (by simp[hs]) h hn a) λi H Q ⟨b,F,z,so,e,q⟩=>zjb so e q
theorem zqr (hc:CallR X (.builtin f) (rAgg X.K f))(hm:X.mg x=Z8)(c:dg x=Z9 (.builtin f))(hs:isStar y=Z6)(g:PE X y (tD X.K fa))(h:Gl X x)(hn:x≠"__name__")(a:WL x):
  PE X (.Call (.Name x p) [y] [] pos) (tD X.K λb=>(fa b>>=λx=>z4w x.2>>=λp=>Res.ok (x.1,p))>>=λw=>aggD f w.2.1 w.2.2>>=λd=>.ok (gJ d (if imms w.2.2 then .fr else agG w.1),d)):=
 PE.imp (zj hc hm c (eP g jW hs) (by simp[hs]) h hn a) λi H Q ⟨b,F,z,so,e,q⟩=>zjb so e q
end
structure NoKeys (T id:String):Prop where
 own:PySem.Slot T "__getattribute__" id
 entry:entryFor table id=some Builtin.«object.__getattribute__»
 two:∀a b:Value,argsOk id {pos:=[a,b]}
 rest:typeLookup (.type T) "__getattr__"=pure Z8
 miss:∀(a:Addr) (xs:Array Value) (k:Nat) (sl:Array (Option Value)) (u:Tok),Meets (Builtin.«object.__getattribute__» {pos:=[.ref a,.str "keys" u]}) λA R s=>s.heap.get? a=some {cls:=.type T,data:=.seq xs k,slots:=sl}/\raisesAttr (.ref a) "keys" A R s
theorem Pa:NoKeys "list" "list.__getattribute__" where
 own:=F.slot_list_getattribute
 entry:=am_entry_list_getattribute
 two:=F.args_list_getattribute_2
 rest:=am_list_getattr_none
 miss:=λa b k sl u=>meets_getattribute_miss_list a b k sl "keys" u (by rw[typeLookup_type,builtinLookup_eq_fast];kernel_rfl) dc (by size_fits)
theorem Pb:NoKeys "tuple" "tuple.__getattribute__" where
 own:=F.slot_tuple_getattribute
 entry:=am_entry_tuple_getattribute
 two:=F.args_tuple_getattribute_2
 rest:=am_tuple_getattr_none
 miss:=λa b k sl u=>meets_getattribute_miss_tuple a b k sl "keys" u (by rw[typeLookup_type];kernel_rfl) dc (by size_fits)
theorem NoKeys.ask {T id:String}(N:NoKeys T id){prog:cu}{w:World}{A:gi}{E:Value->bb->Prop}{s:bb}{a:Addr}{o:Obj}{i:Array Value}{k:Nat}{Q:Option Value->bb->Prop}
  (j:s.heap.get? a=Z9 o) (hc:o.cls=.type T) (d:o.data=.seq i k) (hd:o.dict=Z8) (m:A.handled=Z8)
  (h:∀l n e,ou s.heap l e "AttributeError"->Q Z8 {s with heap:=l,toks:=n}):
  wpAny (model prog w) A (qg (.ref a) "keys") Q E s:=by
 cases o;cases hc;cases d;cases hd;cases s;rename_i b heap f c toks os;have ty:∀t,(⟨heap,f,c,t,os⟩:bb).TypeIs (.ref a) T:=λt=>⟨_,j,rfl⟩;have p:=sub_AttributeError;have n1:=N.own.lookup;have n2:=N.own.bind (.ref a);have n3:=N.rest
 delta qg getAttrBy? getAttrBy
 repeat' (first|assumption|exact ty _|(apply call_meets N.own (ty _) N.entry (N.two _ _) (N.miss a i k b _))|wp_step)
 refine⟨j,m,λq r ex nx=>?_⟩;obtain⟨u,v,there⟩:=nx.there;have g:=λt=>h _ t _ nx.of
 dsimp only[wants]
 delta getattributeRaised
 repeat' (first|assumption|apply g|wp_step)
theorem Pc
 (d:s.heap.get? a=Z9 o) (hc:o.cls=.type "list") (b:o.data=.seq i k) (hd:o.dict=Z8) (f:A.handled=Z8) (h:∀c g e,ou s.heap c e "AttributeError"->Q Z8 {s with heap:=c,toks:=g}):
 wpAny (model prog w) A (qg (.ref a) "keys") Q E s:=Pa.ask d hc b hd f h
theorem Pd
 (d:s.heap.get? a=Z9 o) (hc:o.cls=.type "tuple") (b:o.data=.seq i k) (hd:o.dict=Z8) (f:A.handled=Z8) (h:∀c g e,ou s.heap c e "AttributeError"->Q Z8 {s with heap:=c,toks:=g}):
 wpAny (model prog w) A (qg (.ref a) "keys") Q E s:=Pb.ask d hc b hd f h
abbrev uZ (X:Cx)(A:gi)(E:Value->bb->Prop):Cx:={X with A:=A,xe:=E}
theorem _root_.L2.Inv.uZ (I:Inv X a b H s)(hd:A.handled=X.A.handled)(hf:A.frames=X.A.frames):Inv (uZ X A E) a b H s:=⟨⟨I.ok.mod,I.ok.kind,I.ok.glob,I.ok.blt,I.ok.above,I.ok.inj,I.ok.has,I.ok.nX,λz=>hd.trans (I.ok.hd z),hf.trans I.ok.frames,I.ok.oI,I.ok.iF,I.ok.bs,I.ok.iG,I.ok.fN,I.ok.fO,I.ok.bS,I.ok.kY,I.ok.vO⟩,I.os,I.bare,I.base,I.loc,I.cell,I.free,I.aZ,I.pin,I.hok,I.len,I.fx⟩
theorem _root_.L2.Inv.CF (ok:X.Ok)(I:Inv (uZ X A E) a b H s):Inv X a b H s:=⟨ok,I.os,I.bare,I.base,I.loc,I.cell,I.free,I.aZ,I.pin,I.hok,I.len,I.fx⟩
namespace F
theorem entry_dict_loop:entryFor table "dict.update.loop"=some Builtin.«dict.update.loop»:=entryFor_of_tree (by kernel_rfl)
theorem aU:plainId "dict.update.loop"=true:=by decide+kernel
end F
theorem Pe (p:IsTup s.heap a b.toArray)(h:Q b s):wpAny (model prog w) A (Builtin.Dict.pairItems (.ref a)) Q E s:=by have c:=p.typeIs;obtain⟨o,d,hc,n,hd⟩:=p;apply am;refine mw c ?_;apply am;refine nz d hd ?_;apply bt;simpa using h
theorem zt8 (hc:X.calm=Z7)(hA:X.A=A.in1)(T:Turn X.prog X.w X.K (.Name x0 p0) J fp it tn)(P:Walk X.K J B H1 p)(V:¬B (Z9 d)):
  ∀n i s H kvs (es:bA) t W,p.length-i=n->i<=p.length->Inv X c Y H s->tn i s.heap->(∀b∈fp,FpOk X c H b)->H d=Z9 (.dK kvs)->kvs.length<=i->aW X.K H B kvs es->iI es (p.drop i)=Z9 Z->Kp B H1 H->
   (∀Q C f,Inv X c Y C Q->C d=Z9 (.dK f)->aW X.K C B f Z->(∀a o,a≠d->H a=Z9 o->C a=Z9 o)->R (.ok (.ret .none)) Q)->
   i6 (model X.prog X.w) A (.builtin "dict.update.loop" ⟨[.ref d,.ref it,.int W t,.none],[]⟩) R s:=by
 intro n
 induction n with
 |zero=>
  intro i s H kvs es t W hn hi I st fo hd hl rs l kp hR;have e:i=p.length:=by omega
  subst e;refine m8 F.entry_dict_loop ?_;rw[Around.under_plainId F.aU _,<-hA];refine am (aK (T.done X rfl rfl rfl hc _ c s Y H _ I fo st (P.stop H kp)) λr S D=>?_);obtain⟨rfl,I1⟩:=D;rw[l7]at l;cases l;exact am (bt (bt (hR S H kvs I1 hd rs λ_ _ _ e=>e)))
 |succ n ih=>
  intro i s H kvs es t W hn hi I st fo hd hl rs l kp hR;have g:i<p.length:=by omega
  refine m8 F.entry_dict_loop ?_;rw[Around.under_plainId F.aU _,<-hA];refine am (aK (T.item X rfl rfl rfl hc i c s Y H _ I fo st (P.go H kp i g)) λr S D=>?_);obtain⟨u,rfl,h4⟩:=D;have key:∀(m:Sem PySem.Fin) Q' E',wpAny (model X.prog X.w) X.A (ko (.Name x0 p0) (.ref it) u>>=λ_=>m) Q' E' S->wpAny (model X.prog X.w) X.A m Q' E' S:=λm Q' E' h=>h;refine key _ _ _ (am (aK h4 λ_ s5 D=>?_));obtain⟨x,U,I5,r5,y5,v,BD⟩:=D;obtain⟨sm,di,E,rx⟩:=P.gR H kp i x U g y5;have ed:p.drop i=di::p.drop (i+1):=by rw[jc g];rw[ac g]at E;cases E;rfl
  rw[ed]at l;unfold iI at l;split at l
  case h_2=>cases l
  rename_i kd vd;split at l
  case isFalse=>cases l
  rename_i hk;obtain⟨a,vs,rfl,sq,Pf⟩:=rx;obtain⟨vk,G,rfl,rk,rv⟩:=Cj Pf;cases r5;obtain⟨eE,L,pt,_⟩:=I5.tuple sq;obtain⟨uk,uv,rfl,Pg,Ph⟩:=vals2 L;have M:=I5.pinned (λb j=>⟨BD b j,(fo b j).2⟩) (T.obj _ _ v);have y:=sm _ _ hd;obtain⟨k,rfl,rfl,ok⟩:=xq hk rk;obtain⟨z,Pj,Pk,rel,dd⟩:=zf M.hok y;have Wn:Pk.length<=ba:=rel.length▸z;have hz:=P.len;have Pl:(putK kvs k G).length<=i+1:=by have:=Bj kvs k G;omega
  refine am (ig (am (wpAny_tryCatch (Pe pt ?_))));refine ig (wpAny_dictSet_pairs (sS Pg) dd λh' N hs=>?_);have I6:=z9a (t':=s5.toks+1) M (y▸True.intro) hs (let⟨q,_,_,hq,_⟩:=N;⟨q,hq⟩) (GB (by omega) Pj (rel.put k Ph) N)
  have O:Kp B U (upd U d (.dK (putK kvs k G))):=λb o e z=>by
   have:b≠d:=by
    rintro rfl
    rcases z with z|z
    .exact V z
    .rw[y]at e;cases e;exact z
   rw[aE this];exact e
  refine bt ⟨ox F.aU _,?_⟩;refine ih (i+1) _ (upd U d (.dK (putK kvs k G))) (putK kvs k G) (dput es (kD k) vd) _ _ (by omega) g I6.bW ?_ ?_ bF Pl ?_ l ?_ ?_
  .exact T.keep _ _ _ v λb j o e=>(I6.pin (b,o) (bf _ (bf _ (uS j e)))).1
  .intro b j;obtain⟨o,e,_⟩:=T.obj _ _ v b j;exact⟨(I6.pin (b,o) (bf _ (bf _ (uS j e)))).2.1,(fo b j).2⟩
  .exact aW.keep O (λ_ z=>z) _ (aW.put ok rv (rs.same sm λ_ z=>z))
  .exact λb o e z=>O b o (sm b o (kp b o e z)) z
  .intro Q C f I' wB Pm ext;refine hR Q C f I' wB Pm λb o j e=>ext b o j ?_;rw[aE j];exact sm b o e
theorem Pn {K:Z5}(s:Same H b)(h:SqL K H a c):SqL K b a c:=by
 rcases h with(h|⟨o,h⟩)|h
 .exact .inl (.inl (s _ _ h))
 .exact .inl (.inr ⟨o,s _ _ h⟩)
 .exact .inr h
theorem Po (es:bA)(k v:D)(a:cF es=Z7)(h:imm v=Z7):cF (es++[(k,v)])=true:=by
 unfold cF at *
 rw[List.all_append,a];simp[h]
theorem Pp (k v:D)(a:imm v=Z7)(es:bA)(h:cF es=Z7):cF (es.map λe=>if eqK e.1 k then(e.1,v)else e)=true:=by
 unfold cF at *
 rw[br]at *
 intro e b;obtain⟨c,d,rfl⟩:=ce.mp b;split
 .exact a
 .exact h c d
theorem Ht:∀(b:List D) es a,imms b=Z7->cF es=Z7->iI es b=Z9 a->cF a=Z7
 | [],es,a,_,h,e=>by cases e;exact h
 |y::b,es,a,c,d,e=>by
  simp only[imms,cn]at c;unfold iI at e;split at e
  case h_2=>cases e
  rename_i k v;split at e
  case isFalse=>cases e
  have f:imm v=true:=by have:=c.1;change(imm k&&(imm v&&Z7))=Z7 at this;simp only[cn]at this;exact this.2.1
  refine Ht b _ a c.2 ?_ e;unfold dput;split
  .exact Pp k v f es d
  .exact Po es k v d f
theorem Pq (hc:X.calm=Z7):CallR X (.type "dict") (rAgg X.K "dict"):=by
 rintro c s U H xs us Q I r ⟨B,x,dx,l,p,d,rfl,rx,e,G,q⟩
 obtain⟨a,vs,rfl,L,rs⟩:=zA rx e
 have e3:∃f,iI [] p=Z9 f/\d=.dict f:=by
  simp only[aggD,show("dict":String)≠"list" by decide,show("dict":String)≠"tuple" by decide,show("dict":String)≠"sorted" by decide,show("dict":String)≠"sum" by decide,show("dict":String)≠"all" by decide,show("dict":String)≠"any" by decide,if_true,if_false]at G;cases h:iI [] p with
  |none=>rw[h]at G;cases G
  |some es=>rw[h]at G;cases G;simp_all
 obtain⟨f,em,rfl⟩:=e3;have ew:z4x dx=.ok p:=by cases dx<;>first|(cases e;done)|(cases e;rfl)
 obtain⟨u,rfl,rfl⟩:=vals1 r;have t:=I.hok.fresh (ae _);have V:Inv X c U (upd H s.heap.objs.size (.dK [])) {s with heap:=s.heap.push {cls:=.type "dict",data:=.dict #[]}}:=I.laid (λ_ _ q=>aw _ q) (ae _) (GC s.heap I.big);refine callType_codes (Q₁:=λobj j=>obj=.ref s.heap.objs.size/\j={s with heap:=s.heap.push {cls:=.type "dict",data:=.dict #[]}}) PySem.F.kt_called_dict (PySem.F.kt_typeCall_dict_1 _) PySem.F.entry_dict_init (kt_code_dict_new _ ⟨rfl,rfl⟩) ?_
 rintro obj j ⟨rfl,rfl⟩
 have k:(⟨s.heap.push {cls:=.type "dict",data:=.dict #[]},s.gens,s.drawn,s.toks,s.os⟩:bb).TypeIs (.ref s.heap.objs.size) "dict":=⟨_,bu _ rfl,rfl⟩;refine⟨k,PySem.F.args_dict_init_2 _ _,?_⟩
 delta Builtin.«dict.__init__»
 refine am ?_
 delta Builtin.Dict.selfAndRest
 refine am (wpAny_notOrdered_dict k ?_);refine bt ?_;show wpAny _ _ (l9 "dict.__init__" s.heap.objs.size (.ref a) [] .none) _ _ _
 delta l9
 have rest:∀m v,(∀b o,(s.heap.push {cls:=.type "dict",data:=.dict #[]}).get? b=Z9 o->m.get? b=Z9 o)->wpAny (model X.prog X.w) X.A.in1.in1 (qq (.ref a)) (λi M=>i6 (model X.prog X.w) X.A.in1 (.builtin "dict.update.loop" ⟨[.ref s.heap.objs.size,i,kq 0,.none],[]⟩) (wants (λr N=>r=.none/\EP X c U Q (.ref s.heap.objs.size) N) X.xe) M) (λ_ _=>False) ⟨m,s.gens,s.drawn,v,s.os⟩:=by
  intro m v kp;have I2:Inv (uZ X X.A.in1.in1 (λ_ _=>False)) c U (upd H s.heap.objs.size (.dK [])) ⟨m,s.gens,s.drawn,v,s.os⟩:=(V.kept kp).uZ rfl rfl;refine aK (z39 (tg:=.Name "" default) (R:=λJ y=>Walk X.K J (λa=>B a/\¬nw H a) y p/\y=upd H s.heap.objs.size (.dK [])) I2 (show RelV (.ref a) (.ref a)from rfl) ((Rep.there _ rx).sm (Same.upd t)) ew λJ W=>⟨W,rfl⟩) λi M zz=>?_;obtain⟨it,fp,tn,J,y,Y,I3,T,st,fo,W,eH⟩:=zz;subst Y eH;refine zt8 (X:=uZ X X.A.in1.in1 (λ_ _=>False)) hc rfl T W (λz=>z.2 t) p.length 0 M _ [] [] _ _ (by omega) (by omega) I3 st fo bF (ae _) rfl em (λ_ _ e _=>e) ?_;intro s' y O I' Z P ext;refine⟨rfl,.ref s.heap.objs.size,y,I'.CF I.ok,rfl,q _ y (λb o e=>ext b o (bO e t) (aE (bO e t)▸e)) ⟨_,O,rfl,Z,.inl t,?_⟩⟩;cases hi:imms p with
  |true=>exact aW.aS f (Ht p [] f hi rfl em) P
  |false=>exact P.same (Same.refl y) λ_ z=>.inr ⟨rfl,z.1⟩
 have hA:=I.ok.hd hc;cases l with
 |true=>obtain⟨eE,_,⟨o,n,S,g,C,D⟩,_⟩:=V.list (Pn (Same.upd t) L);refine am (mw ⟨o,S,g⟩ ?_);refine am (Pc S g D C hA λm v e hx=>?_);refine am (mx (am (gj (rest m v hx.keeps) (λi M E=>?_) λ_ _ z=>z.elim)));exact bt ⟨ox F.aU _,E⟩
 |false=>obtain⟨eE,_,⟨o,n,S,g,C,D⟩,_⟩:=V.sH (cP.rel (Same.upd t) L);refine am (mw ⟨o,S,g⟩ ?_);refine am (Pd S g D C hA λm v e hx=>?_);refine am (mx (am (gj (rest m v hx.keeps) (λi M E=>?_) λ_ _ z=>z.elim)));exact bt ⟨ox F.aU _,E⟩
theorem u1 {a b:Type}(lt:Nat->Nat->Bool)(f:a->KasT b):∀t,runT lt (t.bind f)=runT lt (f (runT lt t))
 |.ret _=>rfl
 |.ask i j k=>u1 lt f (k (lt i j))
section
variable (key:Nat->Nat)
abbrev ltk:Nat->Nat->Bool:=λi j=>decide (key i<key j)
def Kp' (p:Array Nat)(i:Nat):Nat:=key (p.getD i 0)
variable {key}
theorem xx (h:p[i]?=q[j]?):Kp' key p i=Kp' key q j:=by unfold Kp';rw[ey,ey,h]
theorem xy (b:j<=p.size)(k:Nat):Kp' key (kas_rev p i j) k=if i<=k/\k<j then Kp' key p (i+j-1-k)else Kp' key p k:=by
 have h:=getElem?_mirror_all (i:=i) b k;split
 .rename_i a;refine xx ?_;unfold kas_rev;rw[h,sf a]
 .rename_i a;refine xx ?_;unfold kas_rev;rw[h,sg a]
theorem Hu (hs:a<p.size)(hd:d<=a)(k:Nat):Kp' key (bubble p a d) k=if k=a-d then Kp' key p a else if a-d<k/\k<=a then Kp' key p (k-1)else Kp' key p k:=by
 have h:=getElem?_bubble hs d hd k;split
 .rename_i c;exact xx (by rw[h,sf c])
 .rename_i c;split
  .rename_i b;exact xx (by rw[h,sg c,sf b])
  .rename_i b;exact xx (by rw[h,sg c,sg b])
theorem zB (p:Array Nat)(i j:Nat):(kas_rev p i j).size=p.size:=mirror_size _ _ _ _
theorem xA (p:Array Nat)(i j:Nat):(kas_rev p i j).Perm p:=mirror_perm _ _ _ _
theorem z5y (p:Array Nat):∀f n,1<=n->n<=runT (ltk key) (kas_asc p f n)/\runT (ltk key) (kas_asc p f n)<=n+f/\(∀i,n<=i->i<runT (ltk key) (kas_asc p f n)->Kp' key p (i-1)<=Kp' key p i)/\
  (runT (ltk key) (kas_asc p f n)<n+f->Kp' key p (runT (ltk key) (kas_asc p f n))<Kp' key p (runT (ltk key) (kas_asc p f n)-1))
 |0,n,h=>⟨ae _,ae _,λi b a=>absurd (jm b a) (cx _),λa=>absurd a (cx _)⟩
 |f+1,n,h=>by
  have e:runT (ltk key) (kas_asc p (f+1) n)=runT (ltk key) (if decide (Kp' key p n<Kp' key p (n-1))=Z7 then .ret n else kas_asc p f (n+1)):=rfl;rw[e];by_cases c:Kp' key p n<Kp' key p (n-1)
  .rw[sf (sr c)];exact⟨ae _,ma _ _,λi b a=>absurd (jm b a) (cx _),λ_=>c⟩
  .rw[sg (by simpa using c)];obtain⟨k,l,d,g⟩:=z5y p f (n+1) (by omega);refine⟨by omega,by omega,λi b a=>?_,λa=>g (by omega)⟩;by_cases j:i=n
   .subst j;omega
   .exact d i (by omega) a
structure DPre (key:Nat->Nat)(p:Array Nat)(n q:Nat):Prop where
 one:1<=n
 qn:q+1<=n
 sz:n<=p.size
 de:∀i,1<=i->i<n->Kp' key p i<=Kp' key p (i-1)
 eq:∀i,n<=i+1+q->i<n->Kp' key p i=Kp' key p (n-1)
theorem DPre.rev (h:DPre key p n q)(k:Nat):Kp' key (kas_rev p (n-(q+1)) n) k=Kp' key p k:=by
 rw[xy h.sz];split
 .rename_i a;rw[h.eq k (by omega) a.2,h.eq _ (by omega) (by omega)]
 .rfl
theorem z30:∀f p n q,DPre key p n q->n+f<=p.size->
  DPre key (runT (ltk key) (kas_desc f p n q)).1 (runT (ltk key) (kas_desc f p n q)).2.1 (runT (ltk key) (kas_desc f p n q)).2.2/\(runT (ltk key) (kas_desc f p n q)).1.Perm p/\(runT (ltk key) (kas_desc f p n q)).2.1<=n+f
 |0,p,n,q,h,s=>⟨h,Array.Perm.refl _,ae _⟩
 |f+1,p,n,q,h,s=>by
  have e:runT (ltk key) (kas_desc (f+1) p n q)=runT (ltk key) (if decide (Kp' key p n<Kp' key p (n-1))=Z7 then(if q>0 then kas_desc f (kas_rev p (n-(q+1)) n) (n+1) 0 else kas_desc f p (n+1) 0) else .ask (p.getD (n-1) 0) (p.getD n 0) λd=>if d=Z7 then .ret (p,n,q)else kas_desc f p (n+1) (q+1)):=rfl;rw[e];by_cases m:Kp' key p n<Kp' key p (n-1)
  .rw[sf (sr m)];by_cases o:q>0
   .rw[sf o]
    have c:DPre key (kas_rev p (n-(q+1)) n) (n+1) 0:=⟨by omega,by omega,by rw[zB];omega,λi a g=>by
     rw[h.rev,h.rev];by_cases b:i=n
     .subst b;omega
     .exact h.de i a (by omega),λi a g=>by
     have:i=n:=by omega
     subst this;rfl⟩
    obtain⟨j,k,r⟩:=z30 f _ (n+1) 0 c (by rw[zB];omega);exact⟨j,k.trans (xA _ _ _),by omega⟩
   .rw[sg o]
    have c:DPre key p (n+1) 0:=⟨by omega,by omega,by omega,λi a g=>by
     by_cases b:i=n
     .subst b;omega
     .exact h.de i a (by omega),λi a g=>by
     have:i=n:=by omega
     subst this;rfl⟩
    obtain⟨j,k,r⟩:=z30 f _ (n+1) 0 c (by omega);exact⟨j,k,by omega⟩
  .rw[sg (by simpa using m)];have t:runT (ltk key) (KasT.ask (p.getD (n-1) 0) (p.getD n 0) λd=>if d=Z7 then .ret (p,n,q)else kas_desc f p (n+1) (q+1))=runT (ltk key) (if decide (Kp' key p (n-1)<Kp' key p n)=Z7 then .ret (p,n,q)else kas_desc f p (n+1) (q+1)):=rfl;rw[t];by_cases l:Kp' key p (n-1)<Kp' key p n
   .rw[sf (sr l)];exact⟨h,Array.Perm.refl _,by show n<=_;omega⟩
   .rw[sg (by simpa using l)]
    have c:DPre key p (n+1) (q+1):=⟨by omega,by have :=h.qn;omega,by omega,λi a g=>by
     by_cases b:i=n
     .subst b;omega
     .exact h.de i a (by omega),λi a g=>by
     by_cases b:i=n
     .subst b;rfl
     .have :=h.eq i (by omega) (by omega);rw[pe];omega⟩
    obtain⟨j,k,r⟩:=z30 f _ (n+1) (q+1) c (by omega);exact⟨j,k,by omega⟩
def Asc (key:Nat->Nat)(p:Array Nat)(m:Nat):Prop:=∀i,1<=i->i<m->Kp' key p (i-1)<=Kp' key p i
theorem z5a (a:1<=n)(hn:n<=nrem)(c:nrem<=p.size)(de:∀i,1<=i->i<n->Kp' key p i<=Kp' key p (i-1)):
  Asc key (runT (ltk key) (kas_tail3 n nrem p)).2 (runT (ltk key) (kas_tail3 n nrem p)).1/\(runT (ltk key) (kas_tail3 n nrem p)).2.Perm p/\1<=(runT (ltk key) (kas_tail3 n nrem p)).1/\(runT (ltk key) (kas_tail3 n nrem p)).1<=nrem:=by
 unfold kas_tail3;rw[u1];obtain⟨a1,a2,a3,_⟩:=z5y (key:=key) (kas_rev p 0 n) (nrem-n) n a;refine⟨λi d b=>?_,xA _ _ _,by show 1<=runT _ _;omega,by show runT _ _<=_;omega⟩;by_cases f:i<n
 .show Kp' key (kas_rev p 0 n) (i-1)<=Kp' key (kas_rev p 0 n) i;rw[xy (by omega),xy (by omega),sf (by omega),sf (by omega)];have:=de (0+n-1-(i-1)) (by omega) (by omega);have e:0+n-1-(i-1)-1=0+n-1-i:=by omega
  rw[e]at this;exact this
 .exact a3 i (by omega) b
theorem descPart_spec (s:1<=n)(hn:n<nrem)(l:nrem<=p.size)(eq:∀i,i<n->Kp' key p i=Kp' key p (n-1))(lt:Kp' key p n<Kp' key p (n-1)):
  Asc key (runT (ltk key) (kas_descPart n nrem p)).2 (runT (ltk key) (kas_descPart n nrem p)).1/\(runT (ltk key) (kas_descPart n nrem p)).2.Perm p/\1<=(runT (ltk key) (kas_descPart n nrem p)).1/\(runT (ltk key) (kas_descPart n nrem p)).1<=nrem:=by
 unfold kas_descPart;rw[u1]
 have h:DPre key p (n+1) 0:=⟨by omega,by omega,by omega,λi d e=>by
  by_cases o:i=n
  .subst o;omega
  .rw[eq i (by omega),eq (i-1) (by omega)];exact ae _,λi d e=>by
  have:i=n:=by omega
  subst this;rfl⟩
 obtain⟨a,c,q⟩:=z30 (nrem-(n+1)) p (n+1) 0 h (by omega);generalize runT (ltk key) (kas_desc (nrem-(n+1)) p (n+1) 0)=r at a c q ⊢;have b:=c.size_eq;by_cases m:r.2.2>0
 .rw[sf m];obtain⟨f,g,j,k⟩:=z5a (p:=kas_rev r.1 (r.2.1-(r.2.2+1)) r.2.1) (nrem:=nrem) a.one (by omega) (by rw[zB,b];exact l) λi d e=>by rw[a.rev,a.rev];exact a.de i d e
  exact⟨f,g.trans ((xA _ _ _).trans c),j,k⟩
 .rw[sg m];obtain⟨f,g,j,k⟩:=z5a (nrem:=nrem) a.one (by omega) (b▸l) a.de;exact⟨f,g.trans c,j,k⟩
theorem Asc.le (h:Asc key p m):∀d i,i+d<m->Kp' key p i<=Kp' key p (i+d)
 |0,i,_=>ae _
 |d+1,i,hm=>by exact bq (Asc.le h d i (by omega)) (h (i+d+1) (by omega) (by omega))
theorem zbr (s:1<=a)(hz:a<=p.size):
  Asc key (runT (ltk key) (kas_count a p)).2 (runT (ltk key) (kas_count a p)).1/\(runT (ltk key) (kas_count a p)).2.Perm p/\1<=(runT (ltk key) (kas_count a p)).1/\(runT (ltk key) (kas_count a p)).1<=a:=by
 unfold kas_count;rw[u1];obtain⟨a1,a2,a3,a4⟩:=z5y p (a-1) 1 (ae _);generalize runT (ltk key) (kas_asc p (a-1) 1)=n at a1 a2 a3 a4 ⊢;have b:Asc key p n:=a3;by_cases hn:n=a
 .rw[sf (by simpa using hn)];exact⟨b,Array.Perm.refl _,a1,by show n<=_;omega⟩
 .rw[sg (by simpa using hn)];have lt:=a4 (by omega);by_cases f:n>1
  .rw[sf f];have e:runT (ltk key) (KasT.ask (p.getD 0 0) (p.getD (n-1) 0) λc=>if c=Z7 then .ret (n,p)else kas_descPart n a (kas_rev p 0 n))=runT (ltk key) (if decide (Kp' key p 0<Kp' key p (n-1))=Z7 then .ret (n,p)else kas_descPart n a (kas_rev p 0 n)):=rfl;rw[e];by_cases g:Kp' key p 0<Kp' key p (n-1)
   .rw[sf (sr g)];exact⟨b,Array.Perm.refl _,a1,by show n<=_;omega⟩
   .rw[sg (by simpa using g)]
    have eq:∀i,i<n->Kp' key p i=Kp' key p (n-1):=λi hi=>by
     have h:=b.le i 0 (by omega);have j:=b.le (n-1-i) i (by omega);have k:0+i=i:=by omega
     have l:i+(n-1-i)=n-1:=by omega
     rw[k]at h;rw[l]at j;omega
    have u2:∀i,i<n->Kp' key (kas_rev p 0 n) i=Kp' key p (n-1):=λi hi=>by rw[xy (by omega),sf (by omega)];exact eq _ (by omega)
    obtain⟨m,o,q,r⟩:=descPart_spec (p:=kas_rev p 0 n) (nrem:=a) (by omega) (by omega) (by rw[zB];exact hz) (λi hi=>by rw[u2 i hi,u2 (n-1) (by omega)]) (by rw[u2 (n-1) (by omega),xy (by omega),sg (by omega)];exact lt);exact⟨m,o.trans (xA _ _ _),q,r⟩
  .rw[sg f];have d:n=1:=by omega
   subst d
   exact descPart_spec (Nat.le_refl _) (by omega) hz (fun i hi=>by have :i=0:=by omega
                                                                   subst this;rfl) lt
theorem place_spec (b:Asc key p k):∀f l r,r-l<=f->l<=r->r<=k->(∀i,i<l->Kp' key p i<=Kp' key p k)->(∀i,r<=i->i<k->Kp' key p k<Kp' key p i)->
  runT (ltk key) (kas_place p k f l r)<=k/\(∀i,i<runT (ltk key) (kas_place p k f l r)->Kp' key p i<=Kp' key p k)/\(∀i,runT (ltk key) (kas_place p k f l r)<=i->i<k->Kp' key p k<Kp' key p i)
 |0,l,r,s,t,d,g,h=>by
  have:l=r:=by omega
  subst this;exact⟨d,g,h⟩
 |f+1,l,r,s,t,d,g,h=>by
  unfold kas_place;by_cases o:l ≥ r
  .rw[sf o];have:l=r:=by omega
   subst this;exact⟨d,g,h⟩
  .rw[sg o];have e:runT (ltk key) (KasT.ask (p.getD k 0) (p.getD ((l+r)/2) 0) λc=>if c=Z7 then kas_place p k f l ((l+r)/2)else kas_place p k f ((l+r)/2+1) r)=runT (ltk key) (if decide (Kp' key p k<Kp' key p ((l+r)/2))=Z7 then kas_place p k f l ((l+r)/2)else kas_place p k f ((l+r)/2+1) r):=rfl;rw[e];have a:l<=(l+r)/2:=by omega
   have j:(l+r)/2<r:=by omega
   generalize (l+r)/2=m at a j ⊢;by_cases q:Kp' key p k<Kp' key p m
   .rw[sf (sr q)];refine place_spec b f l m (by omega) a (by omega) g λi u v=>?_;have:=b.le (i-m) m (by omega);have n:m+(i-m)=i:=by omega
    rw[n]at this;omega
   .rw[sg (by simpa using q)];refine place_spec b f (m+1) r (by omega) (by omega) d (λi u=>?_) h;have:=b.le (m-i) i (by omega);have n:i+(m-i)=m:=by omega
    rw[n]at this;omega
theorem Hv:∀f p k,Asc key p k->k+f<=p.size->Asc key (runT (ltk key) (kas_bin f p k)) (k+f)/\(runT (ltk key) (kas_bin f p k)).Perm p
 |0,p,k,a,n=>⟨a,Array.Perm.refl _⟩
 |f+1,p,k,a,n=>by
  unfold kas_bin;rw[u1];obtain⟨o,d,g⟩:=place_spec a k 0 k (by omega) (cz _) (ae _) (λi q=>absurd q (Nat.not_lt_zero _)) λi b h=>absurd (jm b h) (cx _);generalize runT (ltk key) (kas_place p k k 0 k)=l at o d g ⊢
  have r:Asc key (bubble p k (k-l)) (k+1):=λi b h=>by
   have e:k-(k-l)=l:=by omega
   rw[Hu (by omega) (by omega),Hu (by omega) (by omega),e];by_cases j:i=l
   .rw[sg (by omega),sg (by omega),sf j];exact d _ (by omega)
   .rw[sg j];by_cases c:i-1=l
    .rw[sf c,sf (by omega)];rw[c];exact gn (g l (ae _) (by omega))
    .rw[sg c];by_cases t:l<i
     .rw[sf (by omega),sf (by omega)];exact a (i-1) (by omega) (by omega)
     .rw[sg (by omega),sg (by omega)];exact a i b (by omega)
  obtain⟨m,s⟩:=Hv f (bubble p k (k-l)) (k+1) r (by rw[bubble_size];omega);refine⟨?_,s.trans (bubble_perm _ _ _)⟩;have e:k+1+f=k+(f+1):=by omega
  rw[e]at m;exact m
theorem Pr (n:Nat)(f:1<=n):Asc key (runT (ltk key) (kas_sort n)) n/\(runT (ltk key) (kas_sort n)).Perm (i9 (cc n)):=by
 unfold kas_sort;rw[u1];have a:(i9 (cc n)).size=n:=by simp
 obtain⟨b,c,g,i⟩:=zbr f (by rw[a];exact ae _);generalize runT (ltk key) (kas_count n (i9 (cc n)))=r at b c g i ⊢;have k:r.2.size=n:=by rw[c.size_eq,a]
 by_cases h:r.1<n
 .rw[sf h];have e:max r.1 1=r.1:=by omega
  rw[e];obtain⟨d,j⟩:=Hv (n-r.1) r.2 r.1 b (by omega);refine⟨?_,j.trans c⟩;have e:r.1+(n-r.1)=n:=by omega
  rw[e]at d;exact d
 .rw[sg h];have e:r.1=n:=by omega
  rw[e]at b;exact⟨b,c⟩
end
theorem CG {h:Heap}(c:b≠a)(e:h.get? b=Z9 o):(h.update a f).get? b=Z9 o:=by rw[jd _ _ _ _ c];exact e
theorem z7p {a:List Value}(x:s.heap.IsList l a.toArray)(y:a.length<2)
  (h:∀D m n,s.heap.objs.size<=D->(∀b o,s.heap.get? b=Z9 o->m.get? b=Z9 o)->m.get? D=Z9 (jf "list" a.toArray n)->Q (.ref D) {s with heap:=m}):wpAny (model prog w) A (call (.builtin "sorted") [.ref l]) Q E s:=by
 apply Calls.call_function_entry kind_sorted plain_sorted entry_sorted (args_sorted1 _);apply am;apply bt;apply am;refine collect_list x ?_ (by rw[db];omega);apply am;refine wpAny_newList ?_ (by rw[db];omega);have u:∀b o,s.heap.get? b=Z9 o->((s.heap.push (jf "list" #[] 0)).update s.heap.objs.size (Obj.mapSeq (· ++a.toArray))).get? b=Z9 o:=λb o e=>CG (cr (bj e)) (aw _ e);have k:s.heap.objs.size<=((s.heap.push (jf "list" #[] 0)).update s.heap.objs.size (Obj.mapSeq (· ++a.toArray))).objs.size:=by rw[Heap.size_update,size_push'];omega
 generalize ((s.heap.push (jf "list" #[] 0)).update s.heap.objs.size (Obj.mapSeq (·++a.toArray)))=i at u k ⊢;have c:(i.push (jf "list" a.toArray 0)).get? i.objs.size=Z9 (jf "list" a.toArray 0):=bu _ rfl;have j:∀b o,s.heap.get? b=Z9 o->b≠i.objs.size/\(i.push (jf "list" a.toArray 0)).get? b=Z9 o:=λb o e=>⟨cr (ci (bj e) k),aw _ (u b o e)⟩;generalize B:i.objs.size=D at c j k ⊢;generalize i.push (jf "list" a.toArray 0)=f at c j ⊢;apply am;apply ig;refine mf slot_list_sort ⟨_,c,rfl⟩ entry_list_sort ?body (args_list_sort _);rw[list_sort_plain];refine am (listItems_at c rfl ?_);refine am (listUpdate_at c rfl ?_);obtain⟨p,g⟩:∃p,(f.update D (Obj.mapSeq λ_=>(#[]:Array Value))).get? D=Z9 (jf "list" #[] p):=⟨_,get?_update_seq c λ_=>#[]⟩;have q:∀b o,s.heap.get? b=Z9 o->b≠D/\(f.update D (Obj.mapSeq λ_=>(#[]:Array Value))).get? b=Z9 o:=λb o e=>⟨(j b o e).1,CG (j b o e).1 (j b o e).2⟩;generalize (f.update D (Obj.mapSeq λ_=>(#[]:Array Value)))=r at g q ⊢;refine am (seqEpoch_at g rfl ?_);refine am (wpAny_newTuple ?_ (by rw[db];simp;omega));apply am;refine wpAny_newList (ig ?_);have d:((r.push (jf "tuple" a.toArray 0)).push (jf "list" #[] 0)).get? D=Z9 (jf "list" #[] p):=aw _ (aw _ g);have t:∀b o,s.heap.get? b=Z9 o->b≠D/\((r.push (jf "tuple" a.toArray 0)).push (jf "list" #[] 0)).get? b=Z9 o:=λb o e=>⟨(q b o e).1,aw _ (aw _ (q b o e).2)⟩;generalize ((r.push (jf "tuple" a.toArray 0)).push (jf "list" #[] 0))=C at d t ⊢;have v:a.toArray.size<2:=by simpa using y
 rw[sf v,sf v];refine am (bt ?_);refine am (bt ?_);refine am (seqEpoch_at d rfl ?_);have z:(arrOf (SortSt.mk' general' (a.toArray.zip a.toArray) #[] 7 Z8)).map (·.2)=a.toArray:=by show(a.toArray.zip a.toArray).map (·.2)=a.toArray;simp;exact List.map_snd_zip (ae _)
 rw[z];refine am (listUpdate_at d rfl ?_);simp only[if_false,Bool.false_eq_true,bne_self_eq_false];refine bt ⟨_,rfl,bt ⟨_,rfl,h D _ _ k (λb o e=>CG (t b o e).1 (t b o e).2) (get?_update_seq d λ_=>a.toArray)⟩⟩
theorem z16.some (x:z16 P w H h a o):∃q,h.get? a=Z9 q:=by
 cases o with
 |lst b=>obtain⟨_,_,_,_,e⟩:=x;exact⟨_,e⟩
 |tup b=>obtain⟨_,_,_,_,e⟩:=x;exact⟨_,e⟩
 |dK kvs=>obtain⟨_,_,_,_,o,_,_,e,_⟩:=x;exact⟨_,e⟩
 |dT kvs=>obtain⟨_,_,_,_,o,_,_,e,_⟩:=x;exact⟨_,e⟩
 |set S n=>obtain⟨ob,es,ep,t,e,c⟩:=x;exact⟨_,e⟩
 |ins C dx fs=>obtain⟨d,z,ne,e,_⟩:=x;exact⟨_,e⟩
 |own y=>exact x
 |xd fs=>obtain⟨f,⟨od,es,ep,e,c⟩,r⟩:=x;exact⟨_,e⟩
 |fM ob u=>exact⟨_,x.1⟩
 |lQ ps=>exact⟨_,x⟩
 |ext g=>obtain⟨p,⟨o,e⟩,st⟩:=x;exact⟨_,e⟩
theorem _root_.L2.Inv.laidF {D:Addr}(I:Inv X a y H s)(hm:s.heap.Ns X.env.locals m)(d:h.Ns X.env.locals m)
  (kp:∀b u,b≠X.env.locals->s.heap.get? b=Z9 u->h.get? b=Z9 u) (l:s.heap.get? D=Z8) (new:z16 X.prog X.w (upd H D o) h D o):Inv X a y (upd H D o) {s with heap:=h,toks:=t'}:=by
 have f:H D=none:=by
  cases e:H D with
  |none=>rfl
  |some u=>obtain⟨q,p⟩:=z16.some (I.hok D u e);rw[l]at p;cases p
 refine I.step (ch:=[]) (λ_ z=>nomatch z) (λb q i _ _ e _=>kp b q i e) (λb q i _ _ e _=>⟨q.slots,kp b q i e⟩) (λb q _ e n=>?_) (λb q _ e=>?_) (λb r q=>by rw[aE (bO q f)];exact q) (λb u r q=>by rw[aE (bO q f)];exact q) (λb ps q=>⟨#[],by rw[aE (bO q f),q];simp⟩) (λB j=>?_) (λb u e=>?_) I.bare
 .rw[aE (λz=>by subst z;rw[l]at e;cases e)];exact n
 .by_cases g:b=X.env.locals
  .subst g;obtain⟨A,_,_,k,_⟩:=d;exact⟨A,k⟩
  .exact⟨q,kp b q g e⟩
 .rw[j.eq_nsMap,<-hm.eq_nsMap];exact d
 .by_cases g:b=D
  .subst g;rw[bF]at e;cases e;exact new
  .rw[aE g]at e;have t:∀c v,H c=Z9 v->c≠X.env.locals:=λc v x z=>by subst z;rw[I.free]at x;cases x
   refine(I.hok b u e).stay (λc v hc q=>kp c v ?_ q) (λc q=>by rw[aE (bO q f)];exact q) λc r q=>by rw[aE (bO q f)];exact q
   rcases hc with rfl|hc
   .exact t _ _ e
   .exact t _ _ hc
theorem Hw (r:Vals a b):∀(is:List Nat),(∀i∈is,i<a.length)->Vals (is.map λi=>a.getD i .aM) (is.map λi=>b.getD i Value.none)
 | [],_=>.nil
 |i::is,h=>by
  have c:=h i (by simp);obtain⟨u,hu,d⟩:=r.get (i:=i) (x:=a[i]) (by simp[c]);have e:a.getD i .aM=a[i]:=by simp[c]
  have f:b.getD i Value.none=u:=by rw[aa,hu];rfl
  rw[bn,bn,e,f];exact .cons d (Hw r is λj g=>h j (by simp[g]))
def cH {α:Type}(n:Nat)(Q:α->Prop):KasT α->Prop
 |.ret a=>Q a
 |.ask i j k=>i<n/\j<n/\∀b,cH n Q (k b)
theorem cH.bind {c d:Type}{Q:c->Prop}{R:d->Prop}{f:c->KasT d}(e:∀a,Q a->cH n R (f a)):∀{t:KasT c},cH n Q t->cH n R (t.bind f)
 |.ret a,h=>e a h
 |.ask i j k,h=>⟨h.1,h.2.1,λb=>cH.bind e (h.2.2 b)⟩
theorem cH.ite [Decidable c] (d:cH n Q a)(e:cH n Q b):cH n Q (if c then a else b):=by
 split
 .exact d
 .exact e
def AllIn (n:Nat)(p:Array Nat):Prop:=0<n/\(∀x∈p,x<n)/\p.size=n
theorem AllIn.get (h:AllIn n p)(i:Nat):p.getD i 0<n:=by
 rw[ey];cases e:p[i]? with
 |none=>exact h.1
 |some x=>exact h.2.1 x (Array.mem_of_getElem? e)
theorem AllIn.perm (h:AllIn n p)(a:q.Perm p):AllIn n q:=⟨h.1,λx b=>h.2.1 x (a.mem_iff.mp b),a.size_eq.trans h.2.2⟩
theorem AllIn.rev (h:AllIn n p)(i j:Nat):AllIn n (kas_rev p i j):=h.perm (xA _ _ _)
theorem CH (h:AllIn n p):∀f m,cH n (λ_=>True) (kas_asc p f m)
 |0,m=>trivial
 |f+1,m=>⟨h.get _,h.get _,λb=>cH.ite trivial (CH h f (m+1))⟩
theorem zC:∀f p m q,AllIn n p->cH n (λr=>AllIn n r.1) (kas_desc f p m q)
 |0,p,m,q,h=>h
 |f+1,p,m,q,h=>⟨h.get _,h.get _,λb=>cH.ite (cH.ite (zC f _ _ _ (h.rev _ _)) (zC f _ _ _ h)) ⟨h.get _,h.get _,λd=>cH.ite h (zC f _ _ _ h)⟩⟩
theorem Hx (h:AllIn n p):cH n (λr=>AllIn n r.2) (kas_tail3 m r p):=by refine cH.bind (λa _=>?_) (CH (h.rev _ _) _ _);exact h.rev _ _
theorem Hy (h:AllIn n p):cH n (λr=>AllIn n r.2) (kas_descPart m r p):=cH.bind (λa b=>cH.ite (Hx (AllIn.rev b _ _)) (Hx b)) (zC _ _ _ _ h)
theorem Pt (h:AllIn n p):cH n (λr=>AllIn n r.2) (kas_count r p):=by
 refine cH.bind (λm _=>?_) (CH h _ _);split
 .exact h
 .split
  .refine⟨h.get _,h.get _,λc=>?_⟩;show cH n _ (if c=Z7 then _ else _);split
   .exact h
   .exact Hy (h.rev _ _)
  .exact Hy h
theorem CJ (h:AllIn n p)(k:Nat):∀f l r,cH n (λ_=>True) (kas_place p k f l r)
 |0,l,r=>trivial
 |f+1,l,r=>by exact cH.ite trivial ⟨h.get _,h.get _,λc=>cH.ite (CJ h k f _ _) (CJ h k f _ _)⟩
theorem Hz:∀f p k,AllIn n p->cH n (AllIn n) (kas_bin f p k)
 |0,p,k,h=>h
 |f+1,p,k,h=>cH.bind (λl _=>Hz f _ _ (h.perm (bubble_perm _ _ _))) (CJ h k _ _ _)
theorem HF (h:0<n):cH n (AllIn n) (kas_sort n):=by
 refine cH.bind (λr a=>?_) (Pt ⟨h,λx b=>by simpa using b,by simp⟩);split
 .exact Hz _ _ _ a
 .exact a
theorem cH.run {b:Type}{Q:b->Prop}(lt:Nat->Nat->Bool):∀{t:KasT b},cH n Q t->Q (runT lt t)
 |.ret a,h=>h
 |.ask i j k,h=>cH.run lt (t:=k (lt i j)) (h.2.2 (lt i j))
theorem HG {c:Type}{Q:c->Prop}{b:Nat->Nat->Bool}(e:∀i j,i<n->j<n->lt i j=b i j):∀{t:KasT c},cH n Q t->runT lt t=runT b t
 |.ret a,h=>rfl
 |.ask i j k,h=>by show runT lt (k (lt i j))=runT b (k (b i j));rw[<-e i j h.1 h.2.1];exact HG e (h.2.2 _)
theorem HH {b:Type}{R:b->Prop}(f:∀i j C,i<n->j<n->C (lt i j) s->cmp i j C s){Q:b->bb->Prop}:∀t,cH n R t->Q (runT lt t) s->t.kasWp cmp Q s
 |.ret a,_,q=>q
 |.ask i j k,h,q=>f i j _ h.1 h.2.1 (HH f (k (lt i j)) (h.2.2 _) q)
theorem HI {K:Z5}(r:Reps K H B b a):∀(is:List Nat),(∀i∈is,i<a.length)->Reps K H B (is.map λi=>b.getD i .aM) (is.map λi=>a.getD i dP)
 | [],_=>rfl
 |i::is,h=>by
  have c:=h i (by simp);obtain⟨v,e,f⟩:=r.get (i:=i) (d:=a[i]) (by simp[c]);have g:a.getD i dP=a[i]:=by simp[c]
  have k:b.getD i .aM=v:=by rw[aa,e];rfl
  rw[bn,bn,g,k];exact Reps.cons f (HI r is λj l=>h j (by simp[l]))
theorem zo1 (I:Inv X i σ H s){j:Heap}(kp:∀b o,b≠X.env.locals->s.heap.get? b=Z9 o->j.get? b=Z9 o)(hd:isP2 d=Z7)(r:Rep X.K H B v d)(q:RelV v u):
  ∃g z k o t h n,u=.ref g/\d=.tuple [.str z,.int k]/\j.get? g=Z9 o/\o.cls=.type "tuple"/\o.data=.seq (i9 [.str z t,.int k h]) n:=by
 obtain⟨z,k,rfl⟩:=NS hd;obtain⟨g,C,rfl,m,_,_,rfl,p,_,_,rfl,x,rfl⟩:=r;cases q;cases p.1;cases x;obtain⟨y,c,⟨o,l,A,n,hd⟩,_⟩:=I.tuple m;cases c with
 |cons a c=>
  cases c with
  |cons b c=>
  cases c;obtain⟨t,rfl⟩:=a;obtain⟨h,rfl⟩:=b;refine⟨g,z,k,o,t,h,n,rfl,rfl,kp _ _ (λw=>?_) l,A,hd⟩;subst w;obtain⟨_,⟨D,es,ep,e,f,_⟩,_⟩:=id I.loc;rw[l]at e;cases e;rw[hd]at f;cases f
theorem znm (I:Inv X l F H s)(kp:∀b o,b≠X.env.locals->s.heap.get? b=Z9 o->p.get? b=Z9 o):
  ∀{i:List D} {h:List V} {g:List Value},(∀d∈i,isP2 d=Z7)->Reps X.K H B h i->Vals h g->∃fs,KatTups p g fs/\fs.length=g.length/\∀f∈fs,∃z t,f=.str z t
 | [],h,g,_,r,j=>by have e:=r;subst e;cases j;exact⟨[],trivial,rfl,λ_ z=>nomatch z⟩
 |y::i,h,g,m,r,j=>by
  obtain⟨v,t,rfl,q,u⟩:=r;cases j with
  |cons a c=>obtain⟨fs,w,k2,x⟩:=znm I kp (λd hd=>m d (by simp[hd])) u c;obtain⟨G,z,k,o,t,J,n,rfl,rfl,A,C,hd⟩:=zo1 I kp (m y (by simp)) q a;exact⟨_::fs,KatTups.cons A C hd rfl w,by simp[k2],λf E=>(bh.mp E).elim (λe=>⟨z,t,e⟩) (x f)⟩
theorem HJ {K:Z5}(rs:Reps K H B e a)(f:Vals e b)(c:i<a.length):∃v,Rep K H B v (a.getD i dP)/\RelV v (b.getD i Value.none)/\a.getD i dP∈a:=by
 obtain⟨v,g,h⟩:=rs.get (i:=i) (d:=a[i]) (by simp[c]);obtain⟨u,j,k⟩:=f.get g;have l:a.getD i dP=a[i]:=by simp[c]
 have m:b.getD i Value.none=u:=by rw[aa,j];rfl
 rw[l,m];exact⟨v,h,k,ja c⟩
abbrev Ask (X:Cx)(ys:List D)(eE:List Value)(A:gi)(s:bb):Prop:=wpAny (model X.prog X.w) A (keyKind' eE.toArray) (λκ s'=>s'=s/\∀i j (C:Bool->bb->Prop),i<ys.length->j<ys.length->C (sY (ys.getD i dP) (ys.getD j dP)) s->kas_ask X.prog X.w A κ eE i j C s) (λ_ _=>False) s
theorem Pu (n:∀d∈b,hD d=Z7)(rs:Reps X.K H B o b)(g:Vals o a)(h:2<=b.length):Ask X b a A s:=by
 have y:a.length=b.length:=by rw[<-g.length,rs.length]
 have sc:∀i,i<b.length->∃k t,b.getD i dP=.int k/\a.getD i Value.none=.int k t:=λi c=>by
  obtain⟨v,l,h,p⟩:=HJ rs g c;have:=n _ p;generalize b.getD i dP=d at l this ⊢;cases d<;>first|(cases this;done)|skip
  cases l;obtain⟨t,e⟩:=h;exact⟨_,t,rfl,e⟩
 refine kas_kind (T:=.type "int") (by omega) (λu hu=>?_) dc dc ⟨rfl,λi j C c q m=>?_⟩
 .obtain⟨i,c,e⟩:=og hu;obtain⟨k,t,_,f⟩:=sc i (by omega);rw[show a.getD i Value.none=u by rw[<-e];simp[c]]at f;rw[f];exact Looks.of_pure rfl
 .show wpAny _ _ (keyLt' oneType' _ _) C _ _;obtain⟨k,t,r,f⟩:=sc i c;obtain⟨z,D,w,x⟩:=sc j q;rw[r,w]at m;rw[f,x];exact oneLt_int m
theorem Pw (I:Inv X w σ H s)(kp:∀b o,b≠X.env.locals->s.heap.get? b=Z9 o->h'.get? b=Z9 o)(D:∀d∈c,isP2 d=Z7)(rs:Reps X.K H B F c)(q:Vals F a)(h2:2<=c.length):Ask X c a A {s with heap:=h'}:=by
 have hl:a.length=c.length:=by rw[<-q.length,rs.length]
 obtain⟨fs,G,k2,J⟩:=znm I kp D rs q;have part:∀i,i<c.length->∃E z k o t L n,a.getD i Value.none=.ref E/\c.getD i dP=.tuple [.str z,.int k]/\h'.get? E=Z9 o/\o.cls=.type "tuple"/\o.data=.seq (i9 [.str z t,.int k L]) n:=λi r=>by obtain⟨v,M,N,m⟩:=HJ rs q r;exact zo1 I kp (D _ m) M N
 refine kat_kind G (by omega) (λu hu=>by obtain⟨z,t,rfl⟩:=J u hu;exact Looks.of_pure rfl) dc ⟨rfl,λi j C r O e=>?_⟩;obtain⟨ai,f,h,oi,ti,P,ni,Q,R,S,_,T⟩:=part i r;obtain⟨aj,l,p,oj,tj,U,nj,V,W,f3,_,f4⟩:=part j O;show wpAny _ _ (keyLt' _ (a.getD i Value.none) (a.getD j Value.none)) C _ _;rw[Q,V];refine kat_lt S T f3 f4 (kat_cons (wpAny_eqBool_str ?_))
 have g:sY (c.getD i dP) (c.getD j dP)=if f=l then decide (h<p)else decide (f.cps.toList<l.cps.toList):=by
  rw[R,W];show(if(f==l)=Z7 then(if(h==p)=Z7 then Z6 else decide (h<p))else _)=_;by_cases z:f=l
  .rw[sf (beq_iff_eq.mpr z),sf z];by_cases y:h=p
   .rw[y];simp
   .rw[sg λx=>y (sx x)]
  .rw[sg λx=>z (sx x),sg z];rfl
 by_cases z:f=l
 .rw[sf z]at g;rw[sr z];refine kat_yes (kat_cons (wpAny_eqBool_int ?_));by_cases y:h=p
  .rw[beq_iff_eq.mpr y];refine kat_yes ?_;rw[g,y,sw (Int.lt_irrefl _)]at e;exact e
  .rw[beq_eq_false_iff_ne.mpr y];rw[g]at e;exact kat_no (kat_one _ _ (PyProof.Rows.lt_int e))
 .rw[sw z];rw[g,sg z]at e;exact kat_no (oneLt_str e)
theorem zax (I:Inv X t σ H s)
  (hl:s.heap.IsList a l.toArray) (U:Vals O l) (rs:Reps X.K H B O d) (h2:2<=d.length) (h4:d.length<64) (ask:∀M,(∀b o,b≠X.env.locals->s.heap.get? b=Z9 o->M.get? b=Z9 o)->Ask X d l X.A.in1.in1 {s with heap:=M})
  (q:∀w P,Same H P->Rep X.K P (λa=>nw H a\/(imms d=Z6/\B a)) w (.list (nY d))->Q w P):
  wpAny (model X.prog X.w) X.A (call (.builtin "sorted") [.ref a]) (EP X t σ Q) X.xe s:=by
 have l1:=rs.length;have l2:=U.length;obtain⟨m,v,_⟩:=id I.loc;refine kat_sorted ⟨v,I.bk,bq I.ok.iG I.ok.above⟩ (Mf) hl (by omega) (by omega) λD e1 M V R x=>?_
 have k:∀{f:Heap} {o:Obj},Fr X.base X.env.locals f m->News X.base X.env.locals f ((D,o)::y4 X.base s.heap X.env.locals)->∀b o,b≠X.env.locals->s.heap.get? b=Z9 o->f.get? b=Z9 o:=λg h b o hb e=>by
  cases S:X.base.get? b with
  |some u=>have:=I.bk b u S;rw[e]at this;cases this;exact g.keep b _ S
  |none=>exact(h (b,o) (a9 _ (FJ hb S e))).1
 have y:=R (D,jf "list" #[] e1) bg
 have W:s.heap.get? D=none:=by
  cases e:s.heap.get? D with
  |none=>rfl
  |some o=>exact absurd (x (D,o) (FJ y.2.1 y.2.2 e)) (cx _)
 have r:H D=none:=by
  cases e:H D with
  |none=>rfl
  |some u=>obtain⟨q,Y⟩:=z16.some (I.hok D u e);rw[W]at Y;cases Y
 refine aK (ask M (k V R)) λκ s' zz=>?_;obtain⟨rfl,E⟩:=zz;have el:l.length=d.length:=by omega
 rw[el];have aq:=HF (n:=d.length) (by omega);refine HH (λi j C F hj hC=>E i j C F hj hC) _ aq ⟨_,_,V,R,.head (λp hp=>cr (x p hp)),λf c g h=>?_⟩;have G:=(h _ bg).1;have J:nY d=_:=sg (by omega);have T:=aq.run λi j=>sY (d.getD i dP) (d.getD j dP);generalize runT _ (kas_sort d.length)=N at J T G ⊢;have L:=λi F=>T.2.1 i (Array.mem_def.mpr F);have new:z16 X.prog X.w (upd H D (.lst (N.toList.map λi=>O.getD i .aM))) f D (.lst (N.toList.map λi=>O.getD i .aM)):=⟨by rw[ah,ky,T.2.2,db];omega,_,c,Hw U N.toList (λi F=>by rw[l1];exact L i F),G⟩;refine⟨.ref D,_,I.laidF (t':=s.toks) v g.ns (k g h) W new,rfl,q _ _ (Same.upd r) ?_⟩;rw[J];exact qV r (HI (Reps.mO rs) N.toList L) (λ_ z=>z) (.inl r)
theorem zf6 (hu:X.A.units+64<cLine)(I:Inv X g t H s)(r:Vals v y)(C:v=[x])(E:Rep X.K H B x dx)(e:z4w dx=.ok (Z7,c))(i:aggD "sorted" Z7 c=.ok d)
  (q:∀w j,Same H j->Rep X.K j (λa=>nw H a\/(imms c=Z6/\B a)) w d->Q w j):wpAny (model X.prog X.w) X.A (call (.builtin "sorted") y) (EP X g t Q) X.xe s:=by
 subst C;obtain⟨a,F,rfl,k,rs⟩:=zA E e;simp only[aggD,show("sorted":String)≠"list" by decide,show("sorted":String)≠"tuple" by decide,if_true,if_false]at i;split at i
 case isFalse=>cases i
 rename_i G;cases i;obtain⟨u,rfl,rfl⟩:=vals1 r;obtain⟨h,f,pl,J⟩:=I.list k;have L:h.length=c.length:=by rw[<-f.length,rs.length]
 by_cases M:c.length<2
 .refine z7p pl.isList (by omega) λD m n p kp N=>?_;have l:=I.hok.fresh p;refine⟨.ref D,_,I.laid (o:=.lst F) (t':=s.toks) kp p ⟨J,h,n,f,N⟩,rfl,q _ _ (Same.upd l) ?_⟩;rw[show nY c=c from sf M];exact qV l (Reps.mO rs) (λ_ z=>z) (.inl l)
 .rcases(((kr _ _).mp G).imp au.mp au.mp)with⟨hs,b⟩|⟨hs,b⟩
  .have b:=sk b;exact zax I pl.isList f rs (by omega) (by omega) (λm kp=>Pw I kp (br.mp hs) rs f (by omega)) q
  .exact zax I pl.isList f rs (by omega) (sk b) (λm kp=>Pu (br.mp hs) rs f (by omega)) q
theorem Px (r:KV kvs c){i:Nat}(h:kvs[i]?=Z9 (k,v)):∃u,c[i]?=Z9 (k,u)/\RelV v u:=by
 induction r generalizing i with
 |nil=>simp at h
 |cons a b d=>
  cases i with
  |zero=>cases h;rename_i e _ _;obtain⟨g,f⟩:=e;obtain⟨rfl,a2⟩:=a;exact⟨f,rfl,a2⟩
  |succ i=>exact d h
theorem Py (h:(gU P w).is k u=Z7):RelV (kV k) u:=by
 rcases nW h with⟨i,t,rfl,rfl⟩|⟨x,t,rfl,rfl⟩
 .exact⟨t,rfl⟩
 .exact⟨t,rfl⟩
theorem aW.at {K:Z5}:∀{kvs:List (Key×V)} {es:bA} {i:Nat} {k:Key} {v:V},aW K H B kvs es->kvs[i]?=Z9 (k,v)->∃d,es[i]?=Z9 (kD k,d)/\keyOk k/\Rep K H B v d
 |kvs,[],i,k,v,r,e=>by have:kvs=[]:=r;subst this;simp at e
 |kvs,(kd,d)::es,i,k,v,r,e=>by
  obtain⟨c,f,t,rfl,rfl,ok,a,b⟩:=r;cases i with
  |zero=>cases e;exact⟨d,rfl,ok,a⟩
  |succ i=>rw[gf]at e ⊢;exact aW.at b e
theorem Pz {K:Z5}(ok:keyOk k):Rep K H B (kV k) (kD k):=by
 cases k with
 |inl i=>exact rfl
 |inr x=>exact⟨rfl,ok⟩
theorem _root_.L2.Inv.qX (I:Inv X d k H s)(f:FpOk X d H a)(new:z16 X.prog X.w (upd H a u) s.heap a u):Inv X d k (upd H a u) s:=by
 obtain⟨g,l,t,o,p,r⟩:=f
 exact I.step (ch:=[a]) (fun b i=>by
   have e:b=a:=by simpa using i
   subst e;exact⟨o,l,p,r⟩) (λb q _ _ _ e _=>e) (λb q _ _ _ e _=>⟨q.slots,e⟩) (λb q hc _ n=>by rw[aE (λz=>hc (by simp[z]))];exact n) (λb q _ e=>⟨q,e⟩)
  (λb j q=>by rw[aE (bO q g)];exact q) (λb v j q=>by rw[aE (bO q g)];exact q) (λb ps q=>⟨#[],by rw[aE (bO q g),q];simp⟩) (λm h=>h) (λb v e=>by
   by_cases i:b=a
   .subst i;rw[bF]at e;cases e;exact new
   .rw[aE i]at e;exact(I.hok b v e).stay (λc w _ q=>q) (λc q=>by rw[aE (bO q g)];exact q) λc j q=>by rw[aE (bO q g)];exact q) I.bare
theorem z87:∀(l:List (Addr×List V)) {H:Hp},Inv X d k H s->(l.map (·.1)).Nodup->(∀q∈l,FpOk X d H q.1)->(∀q∈l,q.2.length<=ba/\∃f,Vals q.2 f/\TupN s.heap q.1 f.toArray)->
  ∃e,Inv X d k e s/\Same H e/\(∀q∈l,e q.1=Z9 (.tup q.2))/\∀a,a∉l.map (·.1)->e a=H a
 | [],H,I,_,_,_=>⟨H,I,Same.refl H,(λq c=>absurd c (by simp)),λ_ _=>rfl⟩
 |(a,g)::l,H,I,nd,hf,i=>by
  rw[bn,du]at nd;have fa:=hf (a,g) (by simp);obtain⟨e,m,sm,n,j⟩:=z87 l (I.qX (u:=.tup g) fa (i (a,g) (by simp))) nd.2 (λq c=>by obtain⟨o,r⟩:=hf q (by simp[c]);exact⟨by rw[aE ((λq c z=>nd.1 (ce.mpr ⟨q,c,z⟩)) q c)];exact o,r⟩) λq c=>i q (by simp[c]);refine⟨e,m,(Same.upd fa.1).trans sm,λq c=>?_,λb h=>?_⟩
  .rcases bh.mp c with p|c;subst p
   .rw[j a nd.1];exact bF
   .exact n q c
  .rw[bn,bh,not_or]at h;rw[j b h.2,aE h.1]
theorem zD {K:Z5}:∀{b:List V} {c:List D},b.length=c.length->(∀(i:Nat) v d,b[i]?=Z9 v->c[i]?=Z9 d->Rep K H B v d)->Reps K H B b c
 | [],[],_,_=>rfl
 |v::b,d::c,a,h=>Reps.cons (h 0 v d rfl rfl) (zD (by simpa using a) λi v d e f=>h (i+1) v d (by simpa using e) (by simpa using f))
 | [],_::_,a,_=>by cases a
 |_::_,[],a,_=>by cases a
theorem HK:∀as:List Addr,Vals (as.map V.ref) (as.map ZP)
 | []=>.nil
 |a::as=>.cons rfl (HK as)
theorem PB (hu:X.A.units+64<cLine):CallR X (.builtin "sorted") (rAgg X.K "sorted"):=by
 rintro a s g H h i Q I r ⟨B,x,dx,l,j,d,c,f,e,b,q⟩
 cases l with
 |true=>exact zf6 hu I r c f e b q
 |false=>cases b
theorem zup (hc:CallR X (.type T) (z8m X.K m))(hm:X.mg x=Z8)(l:dg x=Z9 (.type T))(n:PA X (e::es) (tDA X.K fs))(c:((e::es).all fun e=>!isStar e)=Z7)(o:Gl X x)(hn:x≠"__name__")(f:WL x):
  PE X (.Call (.Name x p) (e::es) [] pos) (tD X.K λg=>fs g>>=λi=>m (i.map (·.2))>>=λd=>.ok (gJ d .al,d)):=by
 refine PE.imp (zk hc hm l n c o hn f) λy H Q r=>?_;obtain⟨g,F,z,so,b,q⟩:=r;obtain⟨i,s,b⟩:=Res.aA b;obtain⟨d,t,b⟩:=Res.aA b;cases b;exact⟨g,F,i,so,s,λA B k rs=>⟨_,_,d,rs.jP so.aN,t,λw u v j=>q w u (k.trans v) (qT j λa h=>h.elim (λz=>(nw.back k z).aN so.aN) λz=>z)⟩⟩
theorem PD:CallR X (.type "int") (z8m X.K (j' "int")):=by
 refine CallR.imp MS λc H Q h=>?_;obtain⟨B,e,d,r,a,q⟩:=h;simp only[j',show("int":String)≠"len" by decide,show("int":String)≠"max" by decide,if_true,if_false]at a;split at a
 .rename_i i;cases a;obtain⟨v,rfl,b⟩:=xu r;obtain rfl:v=.int i:=b;exact .inl ⟨i,rfl,q _ H (Same.refl H) rfl⟩
 .rename_i k;cases a;obtain⟨v,rfl,b⟩:=xu r;obtain rfl:v=.bl k:=b;exact .inr ⟨k,rfl,q _ H (Same.refl H) rfl⟩
 .cases a
theorem zb4 (a:s.heap.IsTupleIter it t i)(m:s.heap.IsTuple t items)(o:items[i]?=Z9 x)
  (p:∀e,e.IsTupleIter it t (i+1)->gr it s.heap e->Q x {s with heap:=e}):wpAny (model prog w) A (lp (.ref it)) Q E s:=by
 have ty:=a.typeIs;obtain⟨⟨k,f,g,b⟩,c,hc,hd⟩:=a;obtain⟨⟨l,h,j,d⟩,to,tc,n,q⟩:=m;cases hc;cases hd;cases tc;cases q;apply am;refine mh ty F.slot_tuple_iterator_next (mf F.slot_tuple_iterator_next ty F.entry_tuple_iterator_next ?_ (F.args_tuple_iterator_next_1 _));show wpAny _ _ (field (.ref it) 0>>=_) _ _ _;apply am;refine i3 c rfl rfl ?_;apply am;refine i3 c rfl rfl ?_;apply am;refine nz to rfl ?_
 dsimp only
 rw[fi i,o];apply am;refine jy c rfl (by simp) (bt ⟨x,rfl,bt (p _ ⟨_,gz _ c rfl,rfl,?_⟩ (Heap.SameBut.update _ _ _))⟩);rfl
theorem z6g (hh:A.handled=Z8)(a:s.heap.IsTupleIter it t i)(q:s.heap.IsTuple t items)(r:items[i]?=Z8)
  (u:∀f e,Heap.ExtBut it s.heap f->(∃o,f.get? e=Z9 o/\o.cls=.type "StopIteration")->E (.ref e) {s with heap:=f}):wpAny (model prog w) A (lp (.ref it)) Q E s:=by
 have ty:=a.typeIs;obtain⟨⟨m,g,h,c⟩,j,hc,hd⟩:=a;obtain⟨⟨p,k,l,d⟩,to,tc,n,v⟩:=q;cases hc;cases hd;cases tc;cases v;apply am;refine mh ty F.slot_tuple_iterator_next (mf F.slot_tuple_iterator_next ty F.entry_tuple_iterator_next ?_ (F.args_tuple_iterator_next_1 _));show wpAny _ _ (field (.ref it) 0>>=_) _ _ _;apply am;refine i3 j rfl rfl ?_;apply am;refine i3 j rfl rfl ?_;apply am;refine nz to rfl ?_
 dsimp only
 rw[fi i,r];apply am;refine mx ?_;apply am;refine jy j rfl (by simp) ?_
 delta Builtin.SmallTypes.stopIteration
 repeat (any_goals (first|assumption|wp_step))
 refine ol hh (u _ _ (λb o x e=>?_) ⟨_,bu _ rfl,rfl⟩);refine aw _ (aw _ ?_);rw[jd _ _ _ _ x];exact e
theorem PF (hh:A.handled=Z8)(it t:Addr)(c:t≠it)(items:Array Value):Draws prog w A it [it,t] items.size (λi v=>items[i]?=Z9 v) (λi h=>h.IsTupleIter it t i/\h.IsTuple t items) where
 live:=λi h st=>let⟨⟨o,d,_⟩,_⟩:=st;⟨o,d⟩
 frame:=λi h f st k=>by obtain⟨⟨o,d,r⟩,b,a,e⟩:=st;exact⟨⟨o,k it (by simp) o d,r⟩,b,k t (by simp) b a,e⟩
 item:=λi l q u g st m=>by refine zb4 st.1 st.2 (lq g) λf n j=>?_;obtain⟨b,a,e⟩:=st.2;exact m _ f l.toks (lq g) ⟨n,b,j.extBut t b c a,e⟩ j
 done:=λs Q E st p=>z6g hh st.1 st.2 (Array.getElem?_eq_none (ae _)) p
def IsB (h:Heap)(l:Bool)(a:Addr)(xs:Array Value):Prop:=match l with
 |true=>h.IsList a xs
 |false=>h.IsTuple a xs
def oB (h:Heap)(l:Bool)(it a:Addr)(i:Nat):Prop:=match l with
 |true=>h.IsListIter it a i
 |false=>h.IsTupleIter it a i
def qY (K:Z5)(H:Hp)(l:Bool)(a:Addr)(vs:List V):Prop:=match l with
 |true=>SqL K H a vs
 |false=>cP K H a vs
def u7 (K:Z5)(H:Hp)(B:Ad->Prop)(l:Bool)(a:Addr)(vs:List V):Prop:=match l with
 |true=>(H a=Z9 (.lst vs)/\B (Z9 a))\/(FL K H a vs/\B Z8)
 |false=>cP K H a vs
abbrev eM (l:Bool)(a:Addr):Obj:={cls:=.type (if l then "list_iterator"else "tuple_iterator"),data:=.fields #[.ref a,.int 0 0]}
theorem u7.keep {K:Z5}(h:u7 K H B l a c)(k:Kp B H d):qY K d l a c:=by
 cases l with
 |true=>
  rcases h with⟨h,b⟩|⟨⟨o,h⟩|h,_⟩
  .exact .inl (.inl (k a _ h (.inl b)))
  .exact .inl (.inr ⟨o,k a _ h (.inr True.intro)⟩)
  .exact .inr h
 |false=>exact cP.keep k h
theorem u7.of {K:Z5}(r:Rep K H B v d)(e:seqR d=.ok c):∃l a b,v=.ref a/\u7 K H B l a b/\Reps K H B b c/\c.length<=bC:=by
 cases d<;>try (exact(eR e).elim)
 case list ds=>
  have e:(if decide (ds.length<=bC)=Z7 then Res.ok ds else Res.no)=Res.ok c:=e;split at e
  .rename_i hc;cases e;obtain⟨a,b,rfl,h,rs⟩:=r;exact⟨Z7,a,b,rfl,h,rs,sk hc⟩
  .cases e
 case tuple ds=>
  have e:(if decide (ds.length<=bC)=Z7 then Res.ok ds else Res.no)=Res.ok c:=e;split at e
  .rename_i hc;cases e;obtain⟨a,b,rfl,h,rs⟩:=r;exact⟨Z6,a,b,rfl,h,rs,sk hc⟩
  .cases e
theorem qY.items (I:Inv X d f H s)(h:qY X.K H l a e):∃b,Vals e b/\IsB s.heap l a b.toArray/\e.length=b.length:=by
 cases l with
 |true=>obtain⟨b,c,p,_⟩:=I.list h;exact⟨b,c,p.isList,c.length⟩
 |false=>obtain⟨b,c,p,_⟩:=I.tuple h;exact⟨b,c,p,c.length⟩
theorem HL (hh:A.handled=Z8)(l:Bool)(it a:Addr)(b:a≠it)(items:Array Value):Draws prog w A it [it,a] items.size (λi v=>items[i]?=Z9 v) (λi h=>oB h l it a i/\IsB h l a items):=by
 cases l with
 |true=>exact Draws.list hh it a b items
 |false=>exact PF hh it a b items
theorem oB.live (x:oB h l it a i):∃o,h.get? it=Z9 o/\∀v,o.data≠.cell v:=by cases l<;>(obtain⟨o,b,_,hd⟩:=x;exact⟨o,b,λv z=>by rw[hd]at z;cases z⟩)
theorem oB.keep (x:oB h l it a i)(k:∀o,h.get? it=Z9 o->b.get? it=Z9 o):oB b l it a i:=by cases l<;>(obtain⟨o,c,r⟩:=x;exact⟨o,k o c,r⟩)
theorem oB.new (x:h.get? it=Z9 (eM l a)):oB h l it a 0:=by cases l<;>exact⟨_,x,rfl,rfl⟩
theorem IsB.lt (x:IsB h l a c):a<h.objs.size:=by cases l<;>(obtain⟨o,b,_⟩:=x;exact bj b)
theorem HM (h:IsB s.heap l a c)(b:Q (.ref s.heap.objs.size) {s with heap:=s.heap.push (eM l a)}):wpAny (model prog w) A (qq (.ref a)) Q E s:=by
 cases l with
 |true=>exact lu h b
 |false=>exact pd h b
theorem _root_.L2.Inv.turnedTL {h:List Addr}(I:Inv X a l H s)(f:∀b∈h,FpOk X a H b)(keep:∀b q,b∉h->s.heap.get? b=Z9 q->i.get? b=Z9 q)(j:s.heap.objs.size<=p)
  (new:z16 X.prog X.w (upd H p (.tup xs)) i p (.tup xs)):Inv X a l (upd H p (.tup xs)) {s with heap:=i,toks:=t'}:=by
 have hn:=I.hok.fresh j;have d:∀b u,H b=Z9 u->b∉h:=λb u k z=>by rw[(f b z).1]at k;cases k
 refine I.step (λb g=>?_) (λb q _ _ hc e _=>keep b q hc e) (λb q _ _ hc e _=>⟨q.slots,keep b q hc e⟩) (λb q _ e n=>by rw[aE (cr (ci (bj e) j))];exact n) (λb q hc e=>⟨q,keep b q hc e⟩) (λb xs q=>by rw[aE (bO q hn)];exact q) (λb u xs q=>by rw[aE (bO q hn)];exact q) (λb ps q=>⟨#[],by rw[aE (bO q hn),q];simp⟩) (λm hm=>?_) (λb u e=>?_) I.bare
 .obtain⟨y,o,A,r,t,x⟩:=f b g;exact⟨r,o,t,x⟩
 .exact hm.at λq e=>keep _ q (λz=>(f _ z).2.1 rfl) e
 .by_cases g:b=p
  .subst g;rw[bF]at e;cases e;exact new
  .rw[aE g]at e;refine(I.hok b u e).stay (λc v hc q=>keep c v ?_ q) (λc q=>by rw[aE (bO q hn)];exact q) λc xs q=>by rw[aE (bO q hn)];exact q
   rcases hc with rfl|hc
   .exact d _ _ e
   .exact d _ _ hc
theorem _root_.L2.Inv.pC {g:List Addr}(I:Inv X a j H s)(f:∀b∈g,FpOk X a H b)(keep:∀b q,b∉g->s.heap.get? b=Z9 q->k.get? b=Z9 q):Inv X a j H {s with heap:=k,toks:=t'}:=by
 have d:∀b u,H b=Z9 u->b∉g:=λb u h z=>by rw[(f b z).1]at h;cases h
 refine I.step (λb l=>?_) (λb q _ _ hc e _=>keep b q hc e) (λb q _ _ hc e _=>⟨q.slots,keep b q hc e⟩) (λb q _ e n=>n) (λb q hc e=>⟨q,keep b q hc e⟩) (λb i q=>q) (λb u i q=>q) (λb ps q=>⟨#[],by rw[q];simp⟩) (λm hm=>?_) (λb u e=>?_) I.bare
 .obtain⟨w,o,x,p,r,t⟩:=f b l;exact⟨p,o,r,t⟩
 .exact hm.at λq e=>keep _ q (λz=>(f _ z).2.1 rfl) e
 .refine(I.hok b u e).stay (λc v hc q=>keep c v ?_ q) (λc q=>q) λc i q=>q;rcases hc with rfl|hc
  .exact d _ _ e
  .exact d _ _ hc
theorem PH (f:Vals b a)(d:i<b.length)(g:a.toArray[i]?=Z9 x):∃v,b[i]?=Z9 v/\RelV v x:=by
 refine⟨b[i],ac d,?_⟩;obtain⟨u,e,h⟩:=f.get (ac d);have c:a[i]?=Z9 x:=by simpa using g
 rw[c]at e;cases e;exact h
def CK (K:Z5)(l:Bool)(t:Addr)(vs:List V):It:=⟨λi H=>qY K H l t vs/\i<vs.length,λi H x H'=>∃p v,vs[i]?=Z9 v/\H p=Z8/\x=.ref p/\H'=upd H p (.tup [.int i,v]),λi H=>qY K H l t vs/\i=vs.length⟩
theorem zcn {K:Z5}(U:t≠it)(V:t≠e)(B:e≠it):
  Turn P w K (.Tuple j x1 pos) (CK K l t vs) [e,it] e (λi h=>(∃old,IsEnum h e it i old)/\oB h l it t i) where
 mem:=by simp
 obj:=λi h st b c=>by
  obtain⟨⟨old,d⟩,a⟩:=st;rcases(bh.mp c)with rfl|c
  .exact⟨_,d,λv z=>by cases z⟩
  .obtain rfl:b=it:=by simpa using c
   exact a.live
 keep:=λi h G st k=>by obtain⟨⟨old,d⟩,a⟩:=st;exact⟨⟨old,k e (by simp) _ d⟩,a.keep λo=>k it (by simp) o⟩
 item:=by
  intro X J L M hc i m s σ H E I hf st N;subst J L M;obtain⟨O,Q⟩:=N;obtain⟨⟨old,d⟩,a⟩:=st;obtain⟨g,Y,p,Z⟩:=qY.items I O;have R:X.A.in1.handled=none:=I.ok.hd hc;have D:=HL (prog:=X.prog) (w:=X.w) R l it t U g.toArray;obtain⟨oi,S,_⟩:=a.live;refine wpAny_pyNext_enum_itemD D d ⟨a,p⟩ (by grind) B (by simp[B,Ne.symm V]) λx G C hx n T r hsz kp=>⟨_,rfl,?_⟩;have F:s.heap.objs.size≠e/\s.heap.objs.size≠it:=⟨λz=>cx _ (z▸bj d),λz=>cx _ (z▸bj S)⟩;refine(WalksT.enumerateD D e B (by simp[B,Ne.symm V]) (by simp)).go j x1 pos i s.heap.objs.size {s with heap:=G,toks:=C+1} _ _ ⟨⟨x,n⟩,T,F.1,F.2⟩ λWo f u=>?_;have y:s.heap.objs.size∉ [e,it]:=by simp[F.1,F.2]
  obtain⟨v,hv,rx⟩:=PH Y Q hx;have I1:=I.turnedTL (t':=C+1) (xs:=[.int i,v]) hf (λb q c z=>u b q c (kp b q (λz=>c (by simp[z])) (λz=>c (by simp[z])) z)) (ae _) ⟨by rw[db];simp,[.int i C,x],.cons ⟨C,rfl⟩ (.cons rx .nil),0,(u s.heap.objs.size _ y r)⟩;refine⟨.ref s.heap.objs.size,_,I1,rfl,⟨_,v,hv,I.hok.fresh (ae _),rfl,rfl⟩,⟨f.1,f.2.1⟩,λb c=>?_⟩;rw[aE λz:b=s.heap.objs.size=>y (z▸c)];exact(hf b c).1
 done:=by intro X J L M hc i m s σ H E I hf st N;subst J L M;obtain⟨O,Q⟩:=N;obtain⟨⟨old,d⟩,a⟩:=st;obtain⟨g,Y,p,Z⟩:=qY.items I O;have R:X.A.in1.handled=none:=I.ok.hd hc;exact wpAny_pyNext_enum_endD (HL (prog:=X.prog) (w:=X.w) R l it t U g.toArray) d ⟨by rw[cy,<-Z,<-Q];exact a,p⟩ λG eb=>⟨rfl,I.pC hf λb o c z=>eb b o (λq=>c (by simp[q])) z⟩
 self:=λ_ _ _ _ _ st h=>by obtain⟨⟨old,d⟩,_⟩:=st;exact qh d h
theorem CL:∀a (k i:Nat),(z27 k a)[i]?=(a[i]?).map λx=>.tuple [.int ((k+i:Nat):Int),x]
 | [],k,i=>by simp[z27]
 |x::a,k,0=>by simp[z27]
 |x::a,k,i+1=>by
  rw[z27,gf,gf,CL a (k+1) i];have:k+1+i=k+(i+1):=by omega
  rw[this]
theorem zE:∀a k,(z27 k a).length=a.length
 | [],_=>rfl
 |x::a,k=>by rw[z27,bc,bc,zE a]
theorem PJ {K:Z5}(b:u7 K H B l t c)(rs:Reps K H B c g)(n:g.length<=ba):Walk K (CK K l t c) B H (z27 0 g):=by
 have o:=rs.length;constructor
 .rw[zE];exact n
 .intro j kp i h;rw[zE]at h;exact⟨b.keep kp,by omega⟩
 .intro j kp;exact⟨b.keep kp,by rw[zE];exact o.symm⟩
 .rintro j kp i x u h ⟨p,v,r,k,rfl,rfl⟩
  obtain⟨d,hd,s⟩:=Reps.oV rs r;refine⟨Same.upd k,.tuple [.int i,d],by rw[CL,hd];simp,p,[.int i,v],rfl,cP.of bF,?_⟩;refine Reps.cons rfl (Reps.cons ?_ rfl);exact Rep.keep (λa q e f=>by have m:=kp a q e f;rw[aE (bO m k)];exact m) (λ_ z=>z) d s
theorem zbp (l:Bool)(t:Addr)(items:Array Value):Meets (Builtin.«enumerate.__new__» {pos:=[.type "enumerate",.ref t]}) fun _ R s=>
  IsB s.heap l t items/\R (.ok (.ret (.ref (s.heap.push (eM l t)).objs.size))) {s with heap:=(s.heap.push (eM l t)).push {cls:=.type "enumerate",data:=.fields #[.none,.bool Z6,.ref s.heap.objs.size,kq 0,.none,.none]}}:=by
 rintro prog w A R s ⟨a,d⟩
 have sub:=sub_enumerate
 delta Builtin.«enumerate.__new__»
 repeat (any_goals (first|assumption|(apply HM a)|wp_step))
 refine wpAny_stack λst _ _ _=>?_;refine gj (Q:=λ_ c=>c=s) (bt rfl) (λb c hs=>?_) λ_ _ x=>x;subst hs;cases b
 all_goals repeat (any_goals (first|assumption|(apply HM a)|wp_step))
 all_goals exact d
theorem zgv (a:IsB s.heap l t items)
  (b:Q (.ref (s.heap.push (eM l t)).objs.size) {s with heap:=(s.heap.push (eM l t)).push {cls:=.type "enumerate",data:=.fields #[.none,.bool Z6,.ref s.heap.objs.size,kq 0,.none,.none]}}):wpAny (model prog w) A (call (.type "enumerate") [.ref t]) Q E s:=by
 refine callType_new F.called_enumerate dc (F.typeCall_enumerate_1 _) (F.newCall_enumerate_1 _) (λobj=>?_) F.entry_enumerate_new (zbp l t items) ⟨a,⟨_,bu _ rfl,rfl⟩,b⟩;exact F.args_object_init_2 _ _
theorem z4g (k:Inv X a m f c)(C:RelV y v)(D:Rep X.K f B y d)(e:seqR d=.ok E)(q:∀J,Walk X.K J B f (z27 0 E)->R J f):
  wpAny (model X.prog X.w) X.A (call (.type "enumerate") [v]) (λF G=>wpAny (model X.prog X.w) X.A (qq F) (vZ X a m (.Tuple u O tp) R) X.xe G) X.xe c:=by
 obtain⟨l,t,H,rfl,x,n,I⟩:=u7.of D e;cases C;obtain⟨L,M,pt,_⟩:=qY.items k (x.keep (Kp.of (Same.refl f)));refine zgv pt ?_;generalize p:c.heap.push (eM l t)=i;have j:i.objs.size=c.heap.objs.size+1:=p▸size_push' _ _;have r:Inv X a m f {c with heap:=i}:=k.kept λb o e=>p▸aw _ e;generalize g:i.push {cls:=.type "enumerate",data:=.fields #[.none,.bool Z6,.ref c.heap.objs.size,kq 0,.none,.none]}=h;have N:Inv X a m f {c with heap:=h}:=r.kept λb o e=>g▸aw _ e;have g1:h.get? i.objs.size=Z9 {cls:=.type "enumerate",data:=.fields #[.none,.bool Z6,.ref c.heap.objs.size,kq 0,.none,.none]}:=g▸bu _ rfl;have g2:h.get? c.heap.objs.size=Z9 (eM l t):=by rw[<-g];refine aw _ ?_;rw[<-p];exact bu _ rfl
 have z:=pt.lt;refine qh g1 (⟨i.objs.size,[i.objs.size,c.heap.objs.size],_,CK X.K l t H,f,rfl,N,zcn (cr z) (cr (k9 z (j▸i7 _))) (j▸Nat.succ_ne_self _),⟨⟨.none,g1⟩,oB.new g2⟩,λb s=>?_,q _ (PJ x n (pA I))⟩);rcases(bh.mp s)with rfl|s
 .exact r.gX (ae _) (r.hok.fresh (ae _))
 .obtain rfl:b=c.heap.objs.size:=by simpa using s
  exact k.gX (ae _) (k.hok.fresh (ae _))
theorem CM:dg "enumerate"=Z9 (.type "enumerate"):=by decide+kernel
theorem HP (hs:isStar a=Z6)(c:PE X a (tD X.K fa)):PA X [a] (tDA X.K λb=>fa b>>=λx=>.ok [x]):=by refine PA.imp (G9 hs c G8) λg H Q ⟨b,F,z,so,e,q⟩=>⟨b,F,z,so,?_,q⟩;obtain⟨x,d,e⟩:=Res.aA e;show(fa b>>=λx=>Res.ok []>>=λf=>Res.ok (x::f))=_;rw[d];exact e
theorem PL {fs:Rho->Res GD}(h:(fs a>>=λx=>Res.ok [x])=.ok b):∃x,fs a=.ok x/\b=[x]:=by obtain⟨x,e,h⟩:=Res.aA h;cases h;exact⟨x,e,rfl⟩
theorem PM {K:Z5}(so:StOk K F H j k)(hc:zp x=Z7)(e:seqR x.2=.ok l)(c:Rep K f (BG F H x.1) v x.2):∃B,Rep K f B v x.2/\(∀a,B (Z9 a)->F.O a=Z8)/\∀a,B a->BI F .al a:=by
 obtain⟨g,d⟩:=x;cases d<;>try (exact(eR e).elim)
 case list ds=>
  have b:g≠.al:=λz=>by subst z;cases hc
  exact⟨_,c,λa h=>Cy so b h,λa h=>BI.of so.aN (BG.aN so.aN h)⟩
 case tuple ds=>
  rcases fj.mp hc with b|i
  .have b:g≠ .al:=λz=>by subst z;cases b
   exact⟨_,c,λa h=>Cy so b h,λa h=>BI.of so.aN (BG.aN so.aN h)⟩
  .exact⟨λ_=>False,Rep.aS _ i c,λ_ h=>h.elim,λ_ h=>h.elim⟩
theorem PN (hm:X.mg "enumerate"=Z8)(k:Gl X "enumerate")(hs:isStar a=Z6)(l:PE X a (tD X.K fa)):PI X (.Tuple h x1 tp) (.Call (.Name "enumerate" p) [a] [] pos) (tDW X.K λf=>fa f>>=λx=>seqR x.2>>=λi=>.ok (.al,z27 0 i)):=by
 rintro b s m H R I ⟨f,F,w,so,e,q⟩
 obtain⟨x,n,e⟩:=Res.aA e;obtain⟨i,o,e⟩:=Res.aA e;cases e;refine Call_ (z2g I k hm CM (PyProof.Rows.callWith_type1 (aK (HP hs l pos b s m H (λg d=>Same H d/\eW X.K F H d g [x]) I ⟨f,F,[x],so,by show(fa f>>=λx=>Res.ok [x])=_;rw[n];rfl,λg d j rs=>⟨j,rs⟩⟩) ?_) (fH hs) rfl))
 rintro C j ⟨g,d,r,t,sm,rs⟩
 obtain⟨v,rfl,y⟩:=rs.one;obtain⟨u,rfl,A⟩:=vals1 t;exact z4g r A (Rep.there _ y) o λJ B=>q J _ d sm (λc z=>⟨BG.aN so.aN z.1,z.2⟩) B
theorem PQ (hm:X.mg "enumerate"=Z8)(l:Gl X "enumerate")(hs:isStar a=Z6)(m:PE X a (tD X.K fa)):PI X (.Tuple g M tp) (.Call (.Name "enumerate" p) [a] [] pos) (tDF X.K λb=>(fa b>>=λx=>.ok [x])>>=λh=>oU h b):=by
 rintro c s n H R I ⟨b,F,w,so,e,q⟩
 obtain⟨h,o,e⟩:=Res.aA e;obtain⟨x,r,rfl⟩:=PL o;have e:(if zp x=Z7 then(seqR x.2>>=λi=>Res.ok (G.al,z27 0 i,b))else Res.no)=Res.ok w:=e;split at e
 case isFalse=>cases e
 rename_i hc;obtain⟨i,j,e⟩:=Res.aA e;cases e;refine Call_ (z2g I l hm CM (PyProof.Rows.callWith_type1 (aK (HP hs m pos c s n H (λf d=>Same H d/\eW X.K F H d f [x]) I ⟨b,F,[x],so,by show(fa b>>=λx=>Res.ok [x])=_;rw[r];rfl,λf d k rs=>⟨k,rs⟩⟩) λN k ⟨f,d,t,y,sm,rs⟩=>?_) (fH hs) rfl));obtain⟨v,rfl,z⟩:=rs.one;obtain⟨u,rfl,A⟩:=vals1 y;obtain⟨B,C,D,E⟩:=PM so hc j z;exact z4g t A C j λJ L=>q J B d F sm Run.refl (cQ.same sm) (so.same sm) D E L
abbrev qZ:List Value:=[.type "ValueError",.type "Exception",.type "BaseException",.type "object"]
def iJ (K:Z5)(C:Addr):Bool:=match K.lookup C with
 |some ⟨.type "type",_,.cls cd,sl⟩=>(match cd.mro,sl.toList with
  |.ref D::bm,[_,_,_,_,Z9 (.builtin n),_]=>(D==C)&&(n=="ValueError.__new__")&& !cd.hasDel&&W.tailIn K qZ bm&&W.nsOkIn K cd.ns
  |_,_=>Z6)
 |_=>Z6
def HQ (K:Z5)(C:Addr):Bool:=match K.lookup C with
 |some ⟨_,_,.cls c,_⟩=>ZY K c.ns "__init__"==Z9 Z8
 |_=>Z6
abbrev exV (K:Z5)(C:Addr):Bool:=iJ K C&&HQ K C
def XC (C:Addr)(h:Heap)(bm:List Value):Prop:=∃N nm q bs hdct sn sub ab col dd k0 k1 k2 k3 k5 mN,h.get? C=Z9 (lv nm q C N bs bm hdct sn sub ab col dd k0 k1 k2 k3 k5 "ValueError.__new__")/\h.Ns N mN/\n5 h qZ bm
def CN (C:Addr)(h:Heap)(bm:List Value):Prop:=∃N nm q bs hdct sn sub ab col dd k0 k1 k2 k3 k5 mN,h.get? C=Z9 (lv nm q C N bs bm hdct sn sub ab col dd k0 k1 k2 k3 k5 "ValueError.__new__")/\h.Ns N mN/\mN "__init__"=Z8/\n5 h qZ bm
theorem xB:(a&&b)=Z7->a=Z7/\b=true:=au.mp
theorem zF {K:Z5}{C:Addr}(q:exV K C=Z7):iJ K C=Z7/\∀a cd sl,K.lookup C=Z9 ⟨.type "type",a,.cls cd,sl⟩->ZY K cd.ns "__init__"=Z9 none:=by obtain⟨a,b⟩:=xB q;refine⟨a,λd c g e=>?_⟩;unfold HQ at b;rw[e]at b;exact sx b
theorem u9 {K:Z5}{C:Addr}(q:iJ K C=Z7):∃a cd bm h i j k l,K.lookup C=Z9 ⟨.type "type",a,.cls cd,#[h,i,j,k,Z9 (.builtin "ValueError.__new__"),l]⟩/\cd.mro=.ref C::bm/\cd.hasDel=Z6/\W.tailIn K qZ bm=Z7/\W.nsOkIn K cd.ns=true:=by
 unfold iJ at q;split at q
 .rename_i a cd sl m;split at q
  .rename_i A bm b c d e n f hm hs;obtain⟨q,o⟩:=xB q;obtain⟨q,p⟩:=xB q;obtain⟨q,g⟩:=xB q;obtain⟨r,s⟩:=xB q;have t:sl=#[b,c,d,e,Z9 (.builtin n),f]:=Array.toList_inj.mp (by rw[hs]);refine⟨a,cd,bm,b,c,d,e,f,?_,?_,?_,p,o⟩
   .rw[m,t,sx s]
   .rw[hm,sx r]
   .cases hd:cd.hasDel with
    |false=>rfl
    |true=>rw[hd]at g;cases g
  .cases q
 .cases q
theorem HR {K:Z5}{C:Addr}(a:K.lookup C=Z9 ⟨.type "type",c,.cls cd,sl⟩)(hm:cd.mro=.ref C::bm)(e:ZX K (.ref C) v=Z9 b):(ZP C::bm).contains v=b:=by
 have e:W.mroIn K C v=Z9 b:=e;unfold W.mroIn W.clsIn at e;rw[a]at e
 dsimp at e
 rw[hm]at e;exact si e
theorem XC.mk {K:Z5}{C:Addr}(X:K.In h)(q:iJ K C=Z7):∃bm,XC C h bm/\∀v b,ZX K (.ref C) v=Z9 b->(ZP C::bm).contains v=b:=by
 obtain⟨d,cd,bm,f,g,i,j,k,a,hm,hd,l,m⟩:=u9 q;refine⟨bm,⟨cd.ns,cd.name,cd.qualname,cd.bases,cd.hasDict,cd.slotNames,cd.subclasses,cd.abstract,cd.collection,d,f,g,i,j,k,h.nsMap cd.ns,?_,.of_isNs (W.isNs_of_in X m),W.tail_of_in X l⟩,λv b e=>HR a hm e⟩;have c:=X _ _ a;cases cd
 dsimp only at hm hd
 rw[hm,hd]at c;exact c
theorem CN.mk {K:Z5}{C:Addr}(X:K.In h)(q:exV K C=Z7):∃bm,CN C h bm:=by
 obtain⟨d,e⟩:=zF q;obtain⟨f,cd,bm,g,i,j,k,l,a,hm,hd,m,b⟩:=u9 d;refine⟨bm,cd.ns,cd.name,cd.qualname,cd.bases,cd.hasDict,cd.slotNames,cd.subclasses,cd.abstract,cd.collection,f,g,i,j,k,l,h.nsMap cd.ns,?_,.of_isNs (W.isNs_of_in X b),W.nsMap_none_of_in X b (e _ _ _ a),W.tail_of_in X m⟩;have c:=X _ _ a;cases cd
 dsimp only at hm hd
 rw[hm,hd]at c;exact c
section
variable {M:Model}{A:gi}{E:Value->bb->Prop}{h:Heap}{g:Array qi}{d:Drawn}{t:Nat}{os:ke}{C B e:Addr}{bm zG:List Value}{oe:Obj}{Q:Bool->bb->Prop}
theorem HS (T:n5 h qZ l):l.contains (.type "BaseException")=true:=T.hasType rfl
theorem PR (i:XC C h bm)(j:XC B h zG)(k:h.get? e=Z9 oe)(hc:oe.cls=.ref C)(a:(ZP C::bm).contains (.ref B)=Z7)(l:Q Z7 ⟨h,g,d,t,os⟩):wpAny M A (q8 (.ref e) (.ref B)) Q E ⟨h,g,d,t,os⟩:=by
 obtain⟨_,_,_,_,_,_,_,_,_,_,_,_,_,_,_,_,m,_,_⟩:=i;obtain⟨_,_,_,_,_,_,_,_,_,_,_,_,_,_,_,_,c,_,tB⟩:=j;have b:(ZP B::zG).contains (.type "BaseException")=true:=by rw[jn,HS tB,lb]
 have f:=tc_notTuple
 repeat (first|(with_reducible refine cg k ?_;rw[hc])|with_reducible refine cg c ?_|(with_reducible refine ij c ?_;rw[b])|(with_reducible refine ij m ?_;rw[a])|wp_step)
 exact l
end
section
variable {prog:cu}{w:World}{A:gi}{E:Value->bb->Prop}{K:Z5}{h:Heap}{g:Array qi}{d:Drawn}{t:Nat}{os:ke}{C e:Addr}{oe:Obj}
structure XA (K:Z5)(C:Addr):Prop where
 cl:Z4 K (.ref C) "__class__"=Z9 (Z9 (.builtin "object.__class__"))
 ga:Z4 K (.ref C) "__getattribute__"=Z9 (Z9 (.builtin "BaseException.__getattribute__"))
 gt:Z4 K (.ref C) "__getattr__"=Z9 Z8
 ob:ZX K (.ref C) (.type "object")=Z9 Z7
 be:ZX K (.ref C) (.type "BaseException")=Z9 Z7
 ty:W.typeIn K (.ref C)=Z9 (.type "type")
 is:(W.clsIn K C).isSome=Z7
 ex:iJ K C=Z7
theorem z7f (a:h.get? e=Z9 oe)(hc:oe.cls=.ref C):W.Looks M h (se (.ref e)) (.ref C):=by intro A Q E s k q;refine am (wpAny_loadPart (k _ _ a) ?_);rw[hc];exact bt q
theorem zts (X:K.In h)(a:XA K C)(b:h.get? e=Z9 oe)(hc:oe.cls=.ref C)(c:R (.ok (.ret (.ref C))) ⟨h,g,d,t,os⟩):
  i6 (model prog w) A (.call (.builtin "getset_descriptor.__get__") ⟨[.builtin "object.__class__",.ref e,tp],[]⟩) R ⟨h,g,d,t,os⟩:=by
 have f:=z7f (M:=model prog w) b hc;have i:=W.looks_subIn (M:=model prog w) X a.ob;refine i4 W.KF.slot_gs.plain W.KF.entry_gs (W.KF.slot_gs.check _ _ _ _ _ _ _ _ W.KF.type_class (W.KF.args_gs _ _ _) (am (bt ?_)));unfold Builtin.Getset_descriptor.descrGetter Builtin.Getset_descriptor.descrCheckInstance Builtin.Getset_descriptor.descrNameAndClass ph;simp only[W.KF.owner_class]
 repeat lk
 refine⟨Code.quiet_builtin _ (by decide+kernel),?_⟩;refine m8 W.KF.entry_class ?_;unfold Builtin.«object.__class__»;unfold shownTypeOf;repeat lk
 exact c
theorem zls {f:Tok}{Q:Fin->bb->Prop}(X:K.In h)(a:XA K C)(b:h.get? e=Z9 oe)(c:oe.cls=.ref C)(j:Q (.done (.ret (.ref C))) ⟨h,g,d,t,os⟩):
  wpAny (model prog w) A (Builtin.«object.__getattribute__» ⟨[.ref e,.str "__class__" f],[]⟩) Q E ⟨h,g,d,t,os⟩:=by
 have k:(⟨h,g,d,t,os⟩:bb).TypeIs (.builtin "object.__class__") "getset_descriptor":=F.typeOf_object_class;have⟨f5,f6,f7⟩:=And.intro F.typeOf_object_class (And.intro F.slot_gs_get.lookup F.slot_gs_set.lookup);have i:=Z3 (M:=model prog w) X a.cl
 repeat (any_goals (first|assumption|(with_reducible refine cg b ?_;rw[c])|with_reducible refine i.at ?_|wp_step))
 refine zts X a b c ?_
 repeat' first|assumption|wp_step
theorem x_call {b:Tok}{R:Result->bb->Prop}(X:K.In h)(a:XA K C)(c:h.get? e=Z9 oe)(hc:oe.cls=.ref C)(f:R (.ok (.ret (.ref C))) ⟨h,g,d,t,os⟩):
  i6 (model prog w) A (.call (.builtin "BaseException.__getattribute__") ⟨[.ref e,.str "__class__" b],[]⟩) R ⟨h,g,d,t,os⟩:=by
 refine i4 F.excAttr_ValueError.ga.plain F.entry_bexc_ga ?_;have i:=W.looks_subIn (M:=model prog w) X a.be;have l:=F.args_bexc_ga (.ref e) (.str "__class__" b);have j:qs "BaseException.__getattribute__"=Z9 .slot:=by decide+kernel
 have k:splitId "BaseException.__getattribute__"=Z9 ("BaseException","__getattribute__"):=by decide+kernel
 simp only[j7,j,k];refine am ?_;unfold ph
 repeat (first|(with_reducible refine zls X a c hc ?_;exact f)|(with_reducible refine cg c ?_;rw[hc])|with_reducible refine i.at ?_|wp_step)
theorem x_by (X:K.In h)(a:XA K C)(b:h.get? e=Z9 oe)(hc:oe.cls=.ref C)(c:Q (.ref C) ⟨h,g,d,t,os⟩):
  wpAny (model prog w) A (getAttrBy (.ref e) (.str "__class__" f) Z6) Q E ⟨h,g,d,t,os⟩:=by
 have i:=F.excAttr_ValueError.ga.bind (.ref e)
 repeat (any_goals (first|assumption|(with_reducible refine cg b ?_;rw[hc])|with_reducible refine(Z3 (M:=model prog w) X a.ga).at ?_|with_reducible refine(Z3 (M:=model prog w) X a.gt).at ?_|wp_step))
 refine x_call X a b hc ?_
 repeat' first|assumption|wp_step
theorem PU (X:K.In h)(a:XA K C)(b:h.get? e=Z9 oe)(hc:oe.cls=.ref C)(c:Q (Z9 (.ref C)) ⟨h,g,d,t+1,os⟩):wpAny (model prog w) A (qg (.ref e) "__class__") Q E ⟨h,g,d,t,os⟩:=by repeat (any_goals (first|assumption|with_reducible apply x_by X a b hc|wp_step))
theorem PV (q:iJ K C=Z7)(e:ZX K (.ref C) (.ref C)=Z9 b):b=true:=by obtain⟨c,cd,bm,d,f,g,h,i,a,hm,_⟩:=u9 q;rw[<-HR a hm e,jn,beq_self_eq_true,Bool.true_or]
structure XV (K:Z5)(v:Value):Prop where
 ty:∀(M:Model) (h:Heap),K.In h->W.Looks M h (se v) (.type "type")
 is:∀(M:Model) (h:Heap),K.In h->W.Looks M h (isType v) Z7
theorem HU {D:Addr}(X:K.In h)(q:(W.clsIn K D).isSome=Z7):W.Looks M h (isType (.ref D)) true:=by
 unfold W.clsIn at q;split at q
 .rename_i a;intro A Q E s k z;refine am (wpAny_load (k _ _ (X _ _ a)) ?_);exact bt z
 .cases q
theorem XV.own {D:Addr}(t:W.typeIn K (.ref D)=Z9 (.type "type"))(q:(W.clsIn K D).isSome=Z7):XV K (.ref D):=⟨λM h X=>W.looks_typeIn X t,λM h X=>HU X q⟩
theorem XV.val:XV K (.type "ValueError"):=⟨λM h X=>W.Looks.of_pure (by kernel_rfl),λM h X=>W.Looks.of_pure rfl⟩
theorem zuy (X:K.In h)(a:XA K C)(c:h.get? e=Z9 oe)(hc:oe.cls=.ref C)(f:XV K v)(hs:ZX K (.ref C) v=Z9 b)(i:Q (.done (.ret (.bool b))) ⟨h,g,d,t,os⟩)(l:Q (.done (.ret (.bool b))) ⟨h,g,d,t+1,os⟩):
  wpAny (model prog w) A (Builtin.«isinstance.nested» ⟨[.ref e,v,.int m o],[]⟩) Q E ⟨h,g,d,t,os⟩:=by
 have j:=z7f (M:=model prog w) c hc;have k:=W.looks_subIn (M:=model prog w) X hs;unfold Builtin.«isinstance.nested»;refine am (j.at ?_);by_cases q:(ZP C==v)=true
 .rw[sf q];have n:b=true:=by cases sx q;exact PV a.ex hs
  subst n;exact am (mx (am (bt (bt i))))
 .rw[sg q];refine am ((f.ty (model prog w) h X).at ?_)
  k_delta "plainIsInstance"
  refine am (am ((f.is (model prog w) h X).at ?_));refine am ((j.andThen k).at ?_);cases b with
  |true=>exact bt (bt i)
  |false=>refine am (PU X a c hc ?_);refine am ((HU (M:=model prog w) X a.is).at ?_);refine am (mx ?_);exact k.at (bt l)
theorem zs7 (X:K.In s.heap)(a:XA K C)(i:s.heap.get? e=Z9 oe)(hc:oe.cls=.ref C)(j:XV K v)(hs:ZX K (.ref C) v=Z9 b)(k:∀f,Q (.bool b) {s with toks:=f}):
  wpAny (model prog w) A (call (.builtin "isinstance") [.ref e,v]) Q E s:=
 call_isinstance (S:=λ_ R s=>(K.In s.heap/\s.heap.get? e=Z9 oe)/\∀f,R (.ok (.ret (.bool b))) {s with toks:=f}) (λ_ _ _ _ s c=>isinstance_outer (by obtain⟨h,g,d,t,os⟩:=s;exact zuy c.1.1 a c.1.2 hc j hs (c.2 t) (c.2 (t+1))) nofun) ⟨⟨X,i⟩,k⟩
end
theorem PX (f:Array Value->Array Value)(o:Obj):(Obj.mapFields f o).dict=o.dict:=by unfold Obj.mapFields;split<;>rfl
def TrD (h base:Heap)(e:Addr)(cls:Value)(dd:Option Addr)(fl:Value):Prop:=∃ob vs T tr ts,h.get? e=Z9 ob/\ob.cls=cls/\ob.dict=dd/\ob.data=.fields vs/\vs[1]?=Z9 (.ref T)/\base.get? T=Z8/\T≠e/\h.get? T=Z9 tr/\tr.data=.fields ts/\ts[3]?=Z9 fl
def FlD (base:Heap)(l:List Env)(e:Addr)(cls:Value)(dd:Option Addr)(h:Heap):Prop:=base.StaysIn h/\base.get? e=Z8/\h.FunFrames base l/\TrD h base e cls dd .none
def HV (base:Heap)(l:List Env)(e:Addr)(cls:Value)(dd:Option Addr)(L:Addr)(h:Heap):Prop:=base.StaysIn h/\base.get? e=Z8/\h.FunFrames base l/\TrD h base e cls dd (kq L)
theorem FlD.first (x:FlD base l e cls b h):∃ob a,h.get? e=Z9 ob/\ob.cls=cls/\ob.dict=b/\ob.data=.fields a:=by obtain⟨_,_,_,ob,a,_,_,_,c,d,f,g,_⟩:=x;exact⟨ob,a,c,d,f,g⟩
section
variable {M:Model}{A:gi}{E:Value->bb->Prop}{s:bb}{base:Heap}{env:Env}{outer:List Env}{L e:Addr}{Q:Unit->bb->Prop}{cls:Value}{dd:Option Addr}
theorem z9c (fr:A.frames=Z9 (env::outer))(ff:s.heap.FunFrames base (env::outer))(el:env.frame=Z9 L)(p:s.heap.get? e=Z9 ob)(st:base.StaysIn s.heap)(be:base.get? e=Z8)(da:ob.data=.fields f)(sz:1<f.size)
  (go:∀h,base.StaysIn h->h.FunFrames base (env::outer)->TrD h base e ob.cls ob.dict (kq L)->s.heap.UpToSlots h->Q () {s with heap:=h}):
  wpAny M A (do
   let a <-frameOf env
   let pl <-entryPlaceOf L hn
   let b <-EntryCells.newEntry head a .none (kq L) .none pl
   setField (.ref e) 1 b) Q E s:=by
 have r:e∉(env::outer).filterMap (·.frame):=λz=>by obtain⟨_,o,q,n⟩:=ff.mem z;rw[p]at q;cases q;exact n f da
 refine am (wpAny_frameOf_fun fr ff el λd m=>am (wpAny_entryPlaceOf λpl t=>?_));refine am (qe ?_ (t.sizeOk5 _ _ _ _ _));have i:d.get? e=Z9 ob:=m.2.1 e r▸p;have j:base.StaysIn d:=λb o q=>by rw[m.2.1 b λz=>by rw[(ff.mem z).1]at q;cases q];exact st b o q
 generalize u:({cls:=.type "traceback",dict:=Z8,data:=.fields ([head,.ref L,.none,kq L,.none]++(if pl.isEmpty then bz 6 Value.none else pl)).toArray}:Obj)=k;have l:=aw k i;have w:d.objs.size≠e:=λz=>absurd (bj i) (z▸cx _);refine jy l da sz (go _ ?_ ?_ ?_ ?_)
 all_goals generalize y:(λv:Array Value=>v.setIfInBounds 1 (ZP d.objs.size))=g
 all_goals
  have x:=Obj.data_mapFields da g;have B:((d.push k).update e (Obj.mapFields g)).get? d.objs.size=Z9 k:=by rw[fh _ _ (Ne.symm w)];exact bu d (by rw[<-u];rfl)
  have keep:∀b o,b≠e->d.get? b=Z9 o->((d.push k).update e (Obj.mapFields g)).get? b=Z9 o:=λb o n q=>by rw[fh _ _ (Ne.symm n)];exact aw _ q
  have c:∀b o,s.heap.get? b=Z9 o->(∀f,o.data≠.fields f)->b≠e:=λb o q n z=>by rw[z,p]at q;cases q;exact n f da
 .exact λb o q=>keep b o (λz=>by rw[z,be]at q;cases q) (j b o q)
 .refine ff.of_keeps λb o q n=>?_;obtain⟨sl,z⟩:=m.2.2 b o q;exact⟨_,keep b _ (c b o q n) z,rfl⟩
 .refine⟨_,_,d.objs.size,k,_,gz (Obj.mapFields g) l (Obj.isFreed_of_fields x),Obj.cls_mapFields _ _,PX _ _,x,?_,j.fresh,w,B,by rw[<-u],?_⟩
  .rw[<-y];simp[sz]
  .first|(simp;done)|(rcases t with rfl|⟨_,_,_,_,_,_,_,rfl⟩<;>simp)
 .exact λb o q n=>by obtain⟨sl,z⟩:=m.2.2 b o q;exact⟨sl,keep b _ (c b o q n) z⟩
theorem zgn (fr:A.frames=Z9 (env::outer))(ff:s.heap.FunFrames base (env::outer))(el:env.frame=Z9 L)(b:s.heap.get? e=Z9 ob)(st:base.StaysIn s.heap)(be:base.get? e=Z8)(da:ob.data=.fields d)(c:d[1]?=Z9 .none)
  (go:∀a,base.StaysIn a->a.FunFrames base (env::outer)->TrD a base e ob.cls ob.dict (kq L)->s.heap.UpToSlots a->Q () {s with heap:=a}):wpAny M A (j8 (.ref e) env) Q E s:=by
 unfold j8;simp only[el];refine am (i3 b da c ?_);exact z9c fr ff el b st be da (gy.mp c).1 go
theorem zjl (fr:A.frames=Z9 (env::outer))(ff:s.heap.FunFrames base (env::outer))(el:env.frame=Z9 L)(l:TrD s.heap base e cls dd .none)(st:base.StaysIn s.heap)(be:base.get? e=Z8)
  (go:∀d,base.StaysIn d->d.FunFrames base (env::outer)->TrD d base e cls dd (kq L)->s.heap.UpToSlots d->Q () {s with heap:=d}):wpAny M A (j8 (.ref e) env) Q E s:=by
 obtain⟨ob,h,T,y,m,i,rfl,rfl,da,j,p,r,f,dT,k⟩:=l;unfold j8;simp only[el];refine am (i3 i da j ?_);refine am (i3 f dT k ?_);refine am (jy f dT (gy.mp k).1 ?_);generalize B:(λv:Array Value=>v.setIfInBounds 3 Value.none)=g;have c:∀b,b≠T->(s.heap.update T (Obj.mapFields g)).get? b=s.heap.get? b:=λb n=>fh _ _ (Ne.symm n);have a:∀b o,s.heap.get? b=Z9 o->(∀h,o.data≠.fields h)->b≠T:=λb o q n z=>by rw[z,f]at q;cases q;exact n m dT
 refine z9c fr (ff.of_keeps λb o q n=>⟨o,by rw[<-q];exact c b (a b o q n),rfl⟩) el ((c e (Ne.symm r)).trans i) (λb o q=>(c b λz=>by rw[z,p]at q;cases q).trans (st b o q)) be da (gy.mp j).1 λd t u w x=>go d t u w λb o q n=>x b o ((c b (a b o q n)).trans q) n
theorem zcf (st:base.StaysIn s.heap)(ff:s.heap.FunFrames base l)(r:TrD s.heap base e cls dd fl)
  (go:∀d,base.StaysIn d->d.FunFrames base l->TrD d base e cls dd .none->s.heap.UpToSlots d->Q () {s with heap:=d}):wpAny M A (mi (.ref e) Z8) Q E s:=by
 obtain⟨ob,h,T,x,t,j,hc,hd,da,k,m,p,i,dT,u⟩:=r;have sz:=(gy.mp u).1;refine am (i3 j da k ?_);refine jy i dT sz ?_;generalize w:(λv:Array Value=>v.setIfInBounds 3 ((Z8:Option Addr).elim Value.none λf=>kq f))=g;have c:∀b,b≠T->(s.heap.update T (Obj.mapFields g)).get? b=s.heap.get? b:=λb n=>fh _ _ (Ne.symm n);have a:∀b o,s.heap.get? b=Z9 o->(∀h,o.data≠.fields h)->b≠T:=λb o q n z=>by rw[z,i]at q;cases q;exact n t dT
 refine go _ (λb o q=>(c b λz=>by rw[z,m]at q;cases q).trans (st b o q)) (ff.of_keeps λb o q n=>⟨o,(c b (a b o q n)).trans q,rfl⟩) ⟨ob,h,T,_,_,(c e (Ne.symm p)).trans j,hc,hd,da,k,m,p,gz _ i (Obj.isFreed_of_fields (Obj.data_mapFields dT _)),Obj.data_mapFields dT _,by rw[<-w];simp[sz]⟩ λb o q n=>⟨o.slots,(c b (a b o q n)).trans q⟩
theorem z6t (fr:A.frames=Z9 (env::outer))(el:env.frame=Z9 L)(fl:FlD base (env::outer) e cls dd s.heap)
  (go:∀a,HV base (env::outer) e cls dd L a->s.heap.UpToSlots a->Q () {s with heap:=a}):wpAny M A (j8 (.ref e) env) Q E s:=by
 obtain⟨c,b,d,f⟩:=fl;exact zjl fr d el f c b λa g h i j=>go a ⟨g,b,h,i⟩ j
theorem CP (x:HV base l e cls dd L s.heap)(go:∀a,FlD base l e cls dd a->s.heap.UpToSlots a->Q () {s with heap:=a}):wpAny M A (mi (.ref e) Z8) Q E s:=by obtain⟨b,c,d,f⟩:=x;exact zcf b d f λa g h i j=>go a ⟨g,c,h,i⟩ j
theorem HW (x:FlD base l e cls dd s.heap)(go:∀a,FlD base l e cls dd a->s.heap.UpToSlots a->Q () {s with heap:=a}):wpAny M A (mi (.ref e) Z8) Q E s:=by obtain⟨b,c,d,f⟩:=x;exact zcf b d f λa g h i j=>go a ⟨g,c,h,i⟩ j
theorem zh8 (fr:A.frames=Z9 (env::outer))(el:env.frame=Z9 L)(fl:FlD base (env::outer) e cls dd s.heap)
  (go:∀a,FlD base outer e cls dd a->s.heap.UpToSlots a->Q () {s with heap:=a}):wpAny M A (qt env (.ref e)) Q E s:=by
 refine am (z6t fr el fl λl b c=>CP b λd f g=>?_);obtain⟨h,i,⟨_,_,j⟩,k⟩:=f;exact go d ⟨h,i,j,k⟩ (c.trans g)
theorem zcv (fr:A.frames=Z9 (env::outer))(ff:s.heap.FunFrames base (env::outer))(el:env.frame=Z9 L)(b:s.heap.get? e=Z9 ob)(st:base.StaysIn s.heap)(be:base.get? e=Z8)(da:ob.data=.fields c)(d:c[1]?=Z9 .none)
  (go:∀a,FlD base outer e ob.cls ob.dict a->s.heap.UpToSlots a->Q () {s with heap:=a}):wpAny M A (qt env (.ref e)) Q E s:=by
 refine am (zgn fr ff el b st be da d λp f g h i=>zcf f g h λj k l m n=>?_);obtain⟨_,_,o⟩:=l;exact go j ⟨k,be,o,m⟩ (i.trans n)
end
structure Fly (P:cu)(w:World)(base:Heap)(outer:List Env)(H:Hp)(s:bb)(C a:Addr)(H':Hp)(s':bb)(dd:Option Addr):Prop where
 os:s'.os=s.os
 bare:kz s'.gens
 cI:∀b xs,H b=Z9 (.tup xs)->H' b=Z9 (.tup xs)
 cC:∀b o u,H b=Z9 (.fM o u)->H' b=Z9 (.fM o u)
 cJ:∀b ps,H b=Z9 (.lQ ps)->∃more,H' b=Z9 (.lQ (ps++more))
 free:∀b o,s.heap.get? b=Z9 o->H b=Z8->H' b=Z8
 hh:∃B,base.StaysIn B/\HOk P w H' B/\(∀b o,s.heap.get? b=Z9 o->b∉frs outer->∃o',B.get? b=Z9 o'/\(H b=Z8->o'=o))/\FlD B outer a (.ref C) dd s'.heap
 slot:∀b o,s.heap.get? b=Z9 o->H b=Z8->b∈frs outer->∃sl,s'.heap.get? b=Z9 {o with slots:=sl}
def CXE (P:cu)(w:World)(base:Heap):CXT:=λouter H s E e s'=>∃a C dd H',e=.ref a/\Fly P w base outer H s C a H' s' dd/\E (.ref C) dd H'
theorem HX (x:z16 P w H h a o):∃ob,h.get? a=Z9 ob:=by
 cases o with
 |lst b=>obtain⟨_,_,_,_,e⟩:=x;exact⟨_,e⟩
 |tup b=>obtain⟨_,_,_,_,e⟩:=x;exact⟨_,e⟩
 |dK kvs=>obtain⟨_,_,_,_,o,_,_,e,_⟩:=x;exact⟨_,e⟩
 |dT kvs=>obtain⟨_,_,_,_,o,_,_,e,_⟩:=x;exact⟨_,e⟩
 |set S n=>obtain⟨o,_,_,_,e,_⟩:=x;exact⟨_,e⟩
 |ins C dx fs=>obtain⟨_,_,_,e,_⟩:=x;exact⟨_,e⟩
 |own y=>exact x
 |xd fs=>obtain⟨_,⟨_,_,_,e,_⟩,_⟩:=x;exact⟨_,e⟩
 |fM ob u=>exact⟨_,x.1⟩
 |lQ ps=>exact⟨_,x⟩
 |ext c=>exact x.2.1
section
variable {P:cu}{w:World}{base:Heap}{outer:List Env}{H H':Hp}{s s':bb}{C a:Addr}{dd:Option Addr}
theorem Fly.hok (f:Fly P w base outer H s C a H' s' dd):HOk P w H' s'.heap:=by obtain⟨B,_,b,_,fl⟩:=f.hh;exact b.kept fl.1
theorem Fly.un (f:Fly P w base outer H s C a H' s' dd):Un (frs outer) [] H H' s.heap s'.heap:=by
 obtain⟨B,_,l,d,fl⟩:=f.hh;refine⟨λb o e n c _=>?_,λb o e n c _=>f.slot b o e n c,λb o e n _=>f.free b o e n,λb o e _=>?_,f.cI,f.cC,f.cJ⟩
 .obtain⟨h,g,i⟩:=d b o e c;rw[i n]at g;exact fl.1 b o g
 .by_cases c:b∈frs outer
  .obtain⟨_,j,k,_⟩:=fl.2.2.1.mem c;exact⟨j,k⟩
  .obtain⟨h,g,_⟩:=d b o e c;exact⟨h,fl.1 b h g⟩
end
section
variable {X:Cx}{pins:List (Addr×Obj)}{σ:L2.St}{H H':Hp}{s s':bb}{C a:Addr}{dd:Option Addr}
theorem Fly.inv (f:Fly X.prog X.w X.base X.stack H s C a H' s' dd)(I:Inv X pins σ H s):Inv X pins σ H' s':=by obtain⟨c,g,d,t,o⟩:=s';obtain rfl:o=s.os:=f.os;exact I.call f.un f.hok f.bare λb z=>nomatch z
theorem Fly.leave {M:Model}{outer:List Env}{Q:Unit->bb->Prop}{E:Value->bb->Prop}(f:Fly X.prog X.w X.base X.stack H s C a H' s' dd)(I:Inv X pins σ H s)(hs:X.stack=X.env::X.outer)(hf:X.env.frame=Z9 X.env.locals)(hx:X.ex=[])
  (hQ:∀sR,Fly X.prog X.w X.base X.outer X.gV X.s₀ C a H' sR dd->Q () sR):wpAny M X.A (qt X.env (.ref a)) Q E s':=by
 obtain⟨B,hb,hB,PY,fl⟩:=f.hh;rw[hs]at fl;have PZ:X.A.frames=Z9 (X.env::X.outer):=by rw[<-hs];exact I.ok.frames
 have u0:=I.base
 have CQ:∀b o,X.s₀.heap.get? b=Z9 o->b∉frs X.outer->b∉frs X.stack:=λb o e hn z=>by
  rw[hs]at z;unfold frs at z hn;rw[dj,hf]at z;rcases bh.mp z with z|z
  .exact absurd (bj e) (by rw[z];exact Nat.not_lt.mpr I.ok.above)
  .exact hn z
 have slot:∀h',s'.heap.UpToSlots h'->∀b o,X.s₀.heap.get? b=Z9 o->X.gV b=Z8->b∈frs X.outer->∃sl,h'.get? b=Z9 {o with slots:=sl}:=λh' up b o e n hn=>by
  have nx:b∉X.ex:=by rw[hx];simp
  obtain⟨sl,e1⟩:=I.base.slot b o e n hn nx;have P0:b∈frs X.stack:=by rw[hs];unfold frs;rw[dj,hf];exact a9 _ hn
  obtain⟨Wq,e2⟩:=f.slot b _ e1 (I.base.free b o e n nx) P0;obtain⟨_,o3,e3,nd⟩:=I.ok.bS.mem hn;rw[e]at e3;cases e3;obtain⟨P1,e4⟩:=up b _ e2 nd;exact⟨P1,e4⟩
 refine zh8 PZ hf fl λh' P2 up=>hQ _ ⟨f.os.trans I.os,f.bare,λb xs e=>f.cI b xs (u0.cI b xs e),λb o u e=>f.cC b o u (u0.cC b o u e),λb ps e=>?_,λb o e n=>?_,⟨B,hb,hB,λb o e hn=>?_,P2⟩,slot h' up⟩
 .obtain⟨m1,e1⟩:=u0.cJ b ps e;obtain⟨m2,e2⟩:=f.cJ b _ e1;exact⟨m1++m2,by rw[e2,oy]⟩
 .have nx:b∉X.ex:=by rw[hx];simp
  obtain⟨o',e'⟩:=I.base.there b o e nx;exact f.free b o' e' (I.base.free b o e n nx)
 .have nx:b∉X.ex:=by rw[hx];simp
  obtain⟨o1,e1⟩:=I.base.there b o e nx;obtain⟨o2,e2,e3⟩:=PY b o1 e1 (CQ b o e hn);refine⟨o2,e2,λn=>?_⟩;rw[e3 (I.base.free b o e n nx)];have:=I.base.keep b o e n hn nx;rw[this]at e1;cases e1;rfl
theorem P4 (x:HOk P w H h)(n:∀b∈l,H b=Z8):HOk P w H (W.hideAll h l):=λb o e=>by
 refine(x b o e).stay (λc u hc q=>W.hideAll_get _ q λz=>?_) (λ_ q=>q) λ_ _ q=>q;rcases hc with rfl|hc
 .rw[n c z]at e;cases e
 .rw[n c z]at hc;cases hc
theorem zd9 (I:Inv X pins σ H s)(h0:X.s₀.heap.get? a=Z8)(l:H a=Z8)(m:s.heap.get? a=Z9 ob)(hc:ob.cls=.ref C)(da:ob.data=.fields p)(r:p[1]?=Z9 .none)(hs:X.stack=X.env::X.outer)(hf:X.env.frame=Z9 X.env.locals)(t:X.ex=[])
  (u:∀f,Fly X.prog X.w X.base X.outer X.gV X.s₀ C a H f ob.dict->Q () f):wpAny M X.A (qt X.env (.ref a)) Q E s:=by
 have nx:∀b,b∉X.ex:=λb=>by rw[t];simp
 have g:=I.stack;rw[hs]at g
 have d:∀b∈a::frs (X.env::X.outer),H b=none:=λb h=>by
  rcases bh.mp h with rfl|h
  .exact l
  .exact I.gI b (hs▸h)
 have c:∀b o,X.s₀.heap.get? b=Z9 o->b∉frs X.outer->b∉a::frs (X.env::X.outer):=λb o e hn z=>by
  rcases bh.mp z with rfl|z
  .rw[h0]at e;cases e
  unfold frs at z hn;rw[dj,hf]at z;rcases bh.mp z with z|z
  .exact absurd (bj e) (z▸Nat.not_lt.mpr I.ok.above)
  .exact hn z
 refine zcv (base:=W.hideAll s.heap (a::frs (X.env::X.outer))) (hs▸I.ok.frames) (W.funFrames_hide g (λenv v b h=>a9 _ (fq.mpr ⟨env,v,h⟩))) hf m (λb o q=>W.of_hideAll _ q) (W.hideAll_none _ bg) da r λB fl up=>u _ ⟨I.os,I.bare,I.base.cI,I.base.cC,I.base.cJ,λb o e n=>I.base.free b o e n (nx b),⟨_,λb o e=>W.hideAll_get _ (I.bk b o e) (c b o (I.ok.bs b o e).1 (I.ok.vP e)),P4 I.hok d,λb o e hn=>?_,by rw[hc]at fl;exact fl⟩,λb o e n hn=>?_⟩
 .obtain⟨x,i⟩:=I.base.there b o e (nx b);refine⟨x,W.hideAll_get _ i (c b o e hn),λn=>?_⟩;rw[I.base.keep b o e n hn (nx b)]at i;cases i;rfl
 obtain⟨sl,i⟩:=I.base.slot b o e n hn (nx b);obtain⟨_,D,k,nd⟩:=I.ok.bS.mem hn;rw[e]at k;cases k;obtain⟨j,y⟩:=up b _ i nd;exact⟨j,y⟩
end
def HY (K:Z5)(mg:Str->Option Value)(n:Nat)(m:Fn):Sp:=λvs H _ E=>∃A ds c,vs.length=n/\Reps K H A vs ds/\excOf (m ds)=Z9 c/\∀C H',mg c=Z9 (.ref C)->Same H H'->E (.ref C) Z8 H'
def mP (P:cu)(w:World)(K:Z5)(mg:Str->Option Value)(base:Heap)(k:Nat)(x:Str)(ps:List Str)(n:Nat)(m:Fn):Prop:=∃f fd,FnOk P w K mg base (CXE P w base) k f fd ps (HY K mg n m)/\mg x=Z9 (.ref f)/\Z2 K (.ref f)=Z7/\Binds K fd ps []
def mQ (X:Cx)(i:Nat)(n:Str)(a:Addr)(oe:Obj):Cx:={X with A:=X.A.mark (Z9 (.ref a)),N:=X.N.set i "",calm:=Z6,pn:=(a,oe)::X.pn,xe:=λ_ _=>False,fx:=[(n,.ref a)]}
section
variable {X:Cx}{a:Addr}{oe:Obj}
theorem P5 (ok:X.Ok)(nd:X.N.Nodup)(c:X.N[i]?=Z9 n)(d:X.env.scope.names.lookup ("":Str)=Z8)(b:X.env.scope.names.lookup n=Z9 .local):(mQ X i n a oe).Ok:=by refine⟨ok.mod,ok.kind,ok.glob,ok.blt,ok.above,ok.inj,ok.has,ok.nX,λz=>(by cases z),ok.frames,ok.oI,ok.iF,ok.bs,ok.iG,ok.fN,ok.fO,ok.bS,ok.kY,λx u z=>?_⟩;cases az.mp z;exact b
theorem zqz (I:Inv X b g H s)(nd:X.N.Nodup)(h:X.N[i]?=Z9 n)(t:X.env.scope.names.lookup ("":Str)=Z8)(l:X.env.scope.names.lookup n=Z9 .local)(o:g[i]?=Z9 (Z9 (.ref a)))
  (w:s.heap.get? a=Z9 oe) (y:H a=Z8) (A:a≠X.env.locals) (B:a∉X.fs) (C:∀v,oe.data≠.cell v):Inv (mQ X i n a oe) b (g.set i Z8) H s:=by
 obtain⟨m,hn,c⟩:=I.loc;refine⟨P5 I.ok nd h t l,I.os,I.bare,I.base,⟨m,hn,λj x v d f D=>?_⟩,I.cell,I.free,I.aZ,λp r=>?_,I.hok,?_,λx u z=>?_⟩
 .have d:(X.N.set i "")[j]?=Z9 x:=d;by_cases e:i=j
  .subst e;rw[bv (I.len▸(ay.mp h).1)]at f;cases f
  .rw[bp e]at d f;exact c j x v d f D
 .rcases bh.mp r with rfl|r
  .exact⟨w,y,A,B,C⟩
  .exact I.pin p r
 .show(g.set i Z8).length=(X.N.set i "").length;rw[bx,bx];exact I.len
 .have z:(x,u)∈ [(n,ZP a)]:=z;cases az.mp z;obtain⟨u,rfl,q⟩:=c i n (.ref a) h o (.inl l);rcases q with⟨_,q⟩|⟨k,_⟩
  .exact⟨m,hn,q⟩
  .have k:X.env.scope.names.lookup n=Z9 .cell\/X.env.scope.names.lookup n=Z9 .free:=k;rcases k with k|k<;>(rw[l]at k;cases k)
theorem P6 (ok:X.Ok)(h:X.fx=[])(k:X.N[i]?=Z9 n)(I:Inv (mQ X i n a oe) c g H s):Inv X c (g.set i Z8) H s:=by
 obtain⟨m,hn,f⟩:=I.loc;have b:g.length=(X.N.set i "").length:=I.len;rw[bx]at b;refine⟨ok,I.os,I.bare,I.base,⟨m,hn,λj x v l d o=>?_⟩,I.cell,I.free,I.aZ,λp q=>I.pin p (a9 _ q),I.hok,by rw[bx];exact b,λx u z=>by rw[h]at z;cases z⟩;by_cases e:i=j
 .subst e;rw[bv (b▸(ay.mp k).1)]at d;cases d
 .rw[bp e]at d;exact f j x v (show(X.N.set i "")[j]?=Z9 x by rw[bp e];exact l) d o
theorem zom (I:Inv X f σ H s)(a:X.fx=[])(nd:X.N.Nodup)(t:X.N[i]?=Z9 n)(B:X.env.scope.names.lookup n=Z9 .local)(C:σ[i]?=Z9 (Z9 v))
  (h:∀K,Inv X f (σ.set i Z8) H K->Q () K):wpAny M A (kj X.env n pos) Q E s:=by
 obtain⟨m,hn,g⟩:=id I.loc;have kZ:=I.kZ;obtain⟨u,r,q⟩:=g i n v t C (.inl B)
 have O:m n=Z9 u:=by
  rcases q with⟨_,q⟩|⟨k,_⟩
  .exact q
  .have k:X.env.scope.names.lookup n=Z9 .cell\/X.env.scope.names.lookup n=Z9 .free:=k;rcases k with k|k<;>(rw[B]at k;cases k)
 refine wpAny_onRaise (wpAny_unbindName_local B hn O (by rw[I.ok.kind];rfl) λh' u' D hs=>h _ ?_);have old:∀b o,X.s₀.heap.get? b=Z9 o->b≠X.env.locals:=λb o e=>cr (ci (bj e) I.ok.above);refine⟨I.ok,I.os,I.bare,⟨λb o e z F a=>(hs.2 b (old b o e)).trans (I.base.keep b o e z F a),λb o e z F a=>?_,I.base.free,λb o e a=>?_,I.base.cI,I.base.cC,I.base.cJ⟩,⟨_,D,λj y w d l P=>?_⟩,λy c e=>?_,I.free,I.aZ,λp R=>?_,λb ob e=>?_,by rw[bx];exact I.len,λx u z=>by rw[a]at z;cases z⟩
 .obtain⟨sl,d⟩:=I.base.slot b o e z F a;exact⟨sl,(hs.2 b (old b o e)).trans d⟩
 .obtain⟨S,d⟩:=I.base.there b o e a;exact⟨S,(hs.2 b (old b o e)).trans d⟩
 .by_cases G:i=j
  .subst G;rw[bv (I.len▸(ay.mp t).1)]at l;cases l
  .rw[bp G]at l;obtain⟨T,U,J⟩:=g j y w d l P;refine⟨T,U,?_⟩;have V:y≠n:=λz=>G (AQ nd t (z▸d));rcases J with⟨k,J⟩|⟨k,c,e,z⟩
   .exact .inl ⟨k,by simp only[sg V];exact J⟩
   .exact .inr ⟨k,c,e,z.sameBut hs (kZ y c e)⟩
 .obtain⟨w,z⟩:=I.cell y c e;exact⟨w,z.sameBut hs (kZ y c e)⟩
 .obtain⟨e,W,ne,nf,Y⟩:=I.pin p R;exact⟨(hs.2 p.1 ne).trans e,W,ne,nf,Y⟩
 .have L:∀c w,H c=Z9 w->c≠X.env.locals:=λc w q z=>by rw[z,I.free]at q;cases q
  exact(I.hok b ob e).stay (λc w hc q=>(hs.2 c (hc.elim (λz=>by rw[z];exact L b _ e) λz=>L c _ z)).trans q) (λ_ q=>q) λ_ _ q=>q
theorem zer (ok:X.Ok)(m:X.fx=[])(nd:X.N.Nodup)(l:X.N[i]?=Z9 n)(o:X.env.scope.names.lookup n=Z9 .local)(p:∀b c,D2.nx b c->w.nx (b.set i Z8) c)(t:∀v c,D2.rt v c->w.rt v c)(y:∀b c,¬D2.bk b c)(B:∀b c,¬D2.ct b c)
  (h:SP (mQ X i n a oe) d D2 f s):wpAny M X.A (do bindName X.env n .none;kj X.env n pos) (λ_ e=>SP X d w f e) E s:=by
 have j:∀{b:L2.St} {c:Hp} {Q:Unit->bb->Prop},Inv (mQ X i n a oe) d b c s->(∀e,Inv X d (b.set i Z8) c e->Q () e)->wpAny M X.A (do bindName X.env n .none;kj X.env n pos) Q E s:=λ{b c Q} I k=>by have x:=P6 ok m l I;refine am (wpAny_bindName (z4s x nd l (.inl o) (v:=.aM) rfl (λD C _=>?_) ⟨.inr o,λ_ z=>by rw[m]at z;cases z⟩));refine zom C m nd l o (bv (x.len▸(ay.mp l).1)) λe g=>k e ?_;rw[qj,qj]at g;exact g
 cases f with
 |next=>obtain⟨b,c,I,q⟩:=h;exact j I λe g=>⟨_,c,g,p b c q⟩
 |ret u=>obtain⟨v,b,c,I,r,q⟩:=h;exact j I λe g=>⟨v,_,c,g,r,t v c q⟩
 |brk=>obtain⟨b,c,_,q⟩:=h;simp_all
 |cont=>obtain⟨b,c,_,q⟩:=h;simp_all
theorem HZ {C:Addr}(f:Fly P w base outer H s C a b d g):b a=none:=by
 obtain⟨B,_,c,_,fl⟩:=f.hh;cases e:b a with
 |none=>rfl
 |some u=>obtain⟨o,q⟩:=HX (c a u e);rw[fl.2.1]at q;cases q
theorem zly {C D:Addr}(inv:∀m,FlD B0 (X.env::X.outer) a (.ref C) dd m->L.heap.UpToSlots m->Inv X pins σ M {L with heap:=m})(w0:FlD B0 (X.env::X.outer) a (.ref C) dd L.heap)(O:M a=Z8)(hs:X.stack=X.env::X.outer)(hf:X.env.frame=Z9 X.env.locals)(hx:X.fx=[])(nd:X.N.Nodup)(H:X.N[i]?=Z9 n)(hv:X.env.scope.names.lookup ("":Str)=Z8)(I:X.env.scope.names.lookup n=Z9 .local)
  (hB:X.mg B=Z9 (.ref D)) (hm:∀A E Q J oe,X.K.In J.heap->J.heap.get? a=Z9 oe->oe.cls=.ref C->Q Z7 J->wpAny (model X.prog X.w) A (q8 (.ref a) (.ref D)) Q E J) (P:Gl X B) (R:WL B)
  (hQ:∀f s,SP X pins Dn f s->Q f s) (S:∀oe o,oe.cls=.ref C->oe.dict=dd->oe.data=.fields o->PSs (mQ X i n a oe) (b0::xD) T) (q:T ⟨λc d=>Dn.nx (c.set i Z8) d,Dn.rt,λ_ _=>False,λ_ _=>False⟩ (σ.set i Z8) M):
  wpAny (model X.prog X.w) X.A (j8 (.ref a) X.env) (λ_ s2=>wpAny (model X.prog X.w) X.A (mi (.ref a) Z8) (λ_ s3=>wpAny (model X.prog X.w) X.A (handleBy (.ref a) X.env [.ExceptHandler (Z9 (.Name B np)) (Z9 n) (b0::xD) hp]) Q X.xe s3) X.xe s2) X.xe L:=by
 have ok:=(inv _ w0 (Heap.UpToSlots.refl _)).ok;refine z6t (hs▸ok.frames) hf w0 λh4 p r=>CP p λU V t=>?_;have u:=inv U V (r.trans t);refine om (nc ?_) (by intro z;cases z);refine gv u.ok.kind P (jp (u.ok.glob▸u.mod.glob.keeps u.bk) hB ?_) R;obtain⟨ob,_,W,x,_⟩:=V.first;refine hm _ _ _ _ ob u.cG W x (codeAny_handlers_suite_as (HW V λm w6 Y=>?_));have y:=inv m w6 ((r.trans t).trans Y);obtain⟨oe,o,e,F,G,b⟩:=w6.first;refine z4s y nd H (.inl I) (v:=.ref a) rfl (λs7 I7 ch=>?_) ⟨.inr I,λ_ z=>by rw[hx]at z;cases z⟩;obtain⟨ad,Z,P7⟩:=ch;have nL:a≠X.env.locals:=λz=>by obtain⟨_,o3,l,j⟩:=y.stack.mem (by rw[hs,dj,hf];exact bg);rw[<-z]at l;rw[e]at l;cases l;exact j o b
 have nF:a∉X.fs:=λz=>by obtain⟨_,o3,l,j⟩:=y.bS.mem z;rw[e]at l;cases l;exact j o b
 have nA:a≠ad:=λz=>by
  rcases P7 with h|h
  .exact nL (z.trans h)
  .obtain⟨v,oc,k,g⟩:=y.cell n ad h;rw[<-z]at k;rw[e]at k;cases k;rw[b]at g;cases g
 have I8:=zqz I7 nd H hv I (bv (y.len▸(ay.mp H).1)) ((Z.2 a nA).trans e) O nL nF (λv z=>by rw[b]at z;cases z);rw[qj]at I8;refine gj (S oe o F G b pins s7 _ M ⟨λc d=>Dn.nx (c.set i Z8) d,Dn.rt,λ_ _=>False,λ_ _=>False⟩ I8 q) (λWr s9 h9=>?_) λ_ _ z=>z.elim;refine gj (zer (D2:=⟨λc d=>Dn.nx (c.set i Z8) d,Dn.rt,λ_ _=>False,λ_ _=>False⟩) ok hx nd H I (λ_ _ z=>z) (λ_ _ z=>z) (λ_ _ z=>z) (λ_ _ z=>z) h9) (λ_ s5 U=>hQ _ s5 U) λ_ _ z=>z
theorem Fly.land {C:Addr}(I:Inv X c t k l)(fl:Fly X.prog X.w X.base X.stack k l C a m n u)(f:X.base.StaysIn d)(g:HOk X.prog X.w m d)(h:∀b o,l.heap.get? b=Z9 o->b∉frs X.stack->∃p,d.get? b=Z9 p/\(k b=Z8->p=o))(v:FlD d X.stack a (.ref C) u q)(up:n.heap.UpToSlots q):Inv X c t m {n with heap:=q}:=by refine Fly.inv ⟨fl.os,fl.bare,fl.cI,fl.cC,fl.cJ,fl.free,⟨d,f,g,h,v⟩,λb o e z r=>?_⟩ I;obtain⟨sl,x⟩:=fl.slot b o e z r;obtain⟨_,A,s,i⟩:=I.stack.mem r;rw[e]at s;cases s;obtain⟨j,y⟩:=up b _ x i;exact⟨j,y⟩
theorem xE {C D:Addr}(d:iJ X.K C=Z7)(f:iJ X.K D=Z7)(g:ZX X.K (.ref C) (.ref D)=Z9 Z7)(A:gi)(E:Value->bb->Prop)(Q:Bool->bb->Prop)(b:bb)(oe:Obj)(k:X.K.In b.heap)(e:b.heap.get? a=Z9 oe)(c:oe.cls=.ref C)(q:Q Z7 b):wpAny (model X.prog X.w) A (q8 (.ref a) (.ref D)) Q E b:=by obtain⟨h,i,j⟩:=XC.mk k d;obtain⟨l,m,_⟩:=XC.mk k f;exact PR i m e c (j _ _ g) q
end
section
variable {X:Cx}{n x:Str}{p p1 p2 pos:Pos}{a C:Addr}{oe:Obj}{v:V}{u:Value}{b:Bool}
theorem Ia (c:X.fx=[(n,.ref a)])(d:X.env.scope.names.lookup n=Z9 .local)(hd:WL n):PE X (.Name n p) (λ_ H Q=>Q (.ref a) H):=by intro b s e H Q I h;obtain⟨m,hn,hm⟩:=I.fx n _ (c▸az.mpr rfl);exact oz (nk I.ok.kind d hn hm ⟨.ref a,H,I,rfl,h⟩) hd
theorem P8 (a:Gl X x)(hm:X.mg x=Z9 u\/(X.mg x=Z8/\dg x=Z9 u/\x≠"__name__"))(r:RelV v u)(hd:WL x):PE X (.Name x p) (λ_ H Q=>Q v H):=by
 intro b s f H Q I h;rcases hm with hm|⟨c,d,e⟩
 .exact z4r I a hm ⟨v,H,I,r,h⟩ hd
 .exact z2g I a c d ⟨v,H,I,r,h⟩ e hd
def Xh (X:Cx)(a:Addr)(oe:Obj):Prop:=∀pins σ H s,Inv X pins σ H s->s.heap.get? a=Z9 oe
theorem zte (hm:X.mg "isinstance"=Z8)(k:Gl X "isinstance")(l:X.fx=[(n,.ref a)])(m:X.env.scope.names.lookup n=Z9 .local)(hd:WL n)(o:Xh X a oe)(t:oe.cls=.ref C)
  (f:Gl X x) (g:X.mg x=Z9 u\/(X.mg x=Z8/\dg x=Z9 u/\x≠"__name__")) (r:RelV v u) (y:∀w,RelV v w->w=u) (h:WL x) (xa:XA X.K C) (A:XV X.K u) (hs:ZX X.K (.ref C) u=Z9 b):
  PE X (.Call (.Name "isinstance" p) [.Name n p1,.Name x p2] [] pos) (tD X.K λ_=>.ok (.fr,.bool b)):=by
 rintro c s B H Q I ⟨O,F,z,so,e,q⟩
 cases e;refine ip (z2g (u:=.builtin "isinstance") I k hm (by decide+kernel) ?_ dc dc);refine PyProof.Rows.callWith_builtin1 (aK ((zc (Ia (p:=p1) l m hd) (zc (P8 (p:=p2) f g r h) jW)) pos c s B H (λj d=>j=[.ref a,v]/\d=H) I ⟨rfl,rfl⟩) λP R D=>?_) rfl rfl;obtain⟨j,d,i,E,rfl,rfl⟩:=D;cases E with
 |cons G rt=>
  cases rt with
  |cons J rn=>cases rn;rename_i L M;obtain rfl:L=ZP a:=G;have N:=y M J;subst N;exact zs7 i.cG xa (o _ _ _ _ i) t A hs λS=>⟨.bl b,d,i.tok _,rfl,q _ d (Same.refl d) rfl⟩
end
section
theorem aD (h:(a&&b)=Z7):a=Z7/\b=true:=au.mp h
theorem aX (h:(a&&b&&c)=Z7):a=Z7/\b=Z7/\c=true:=⟨(aD (aD h).1).1,(aD (aD h).1).2,(aD h).2⟩
theorem bL (h:(a&&b&&c&&d)=Z7):a=Z7/\b=Z7/\c=Z7/\d=true:=⟨(aX (aD h).1).1,(aX (aD h).1).2.1,(aX (aD h).1).2.2,(aD h).2⟩
theorem cV (h:(a&&b&&c&&d&&e)=Z7):a=Z7/\b=Z7/\c=Z7/\d=Z7/\e=true:=⟨(bL (aD h).1).1,(bL (aD h).1).2.1,(bL (aD h).1).2.2.1,(bL (aD h).1).2.2.2,(aD h).2⟩
theorem cN (h:(!b)=Z7):b=false:=by cases b<;>first|rfl|cases h
theorem ff {p:Prop}(h:b=Z6)(z:b=Z7):p:=by rw[h]at z;cases z
theorem fT (h:l.isEmpty=Z7):l=[]:=by cases l<;>first|rfl|cases h
theorem pD (h:(!l.isEmpty)=Z7):∃x r,l=x::r:=by cases l<;>first|exact⟨_,_,rfl⟩|cases h
theorem aJ (h:o.any f=Z7):∃v,o=Z9 v/\f v=true:=by
 cases o with
 |none=>cases h
 |some v=>exact⟨v,rfl,h⟩
theorem bQ {a:Type}{o:Option a}{v:a}{q:a->Prop}(h:o=Z9 v)(d:o=Z8\/∃u,o=Z9 u/\q u):q v:=by grind
theorem pE (h:wV e=Z9 v):∃p,e=.Name v p:=bQ (q:=λv=>∃p,e=.Name v p) h (by cases e<;>first|exact .inl rfl|exact .inr ⟨_,rfl,_,rfl⟩)
theorem tK (h:fB e=Z9 v):∃k p,e=.Constant v k p:=bQ (q:=λv=>∃k p,e=.Constant v k p) h (by cases e<;>first|exact .inl rfl|exact .inr ⟨_,rfl,_,_,rfl⟩)
theorem P9 (h:wW e=Z9 v):∃p,e=.BinOp v.1 v.2.1 v.2.2 p:=bQ (q:=λv=>∃p,e=.BinOp v.1 v.2.1 v.2.2 p) h (by cases e<;>first|exact .inl rfl|exact .inr ⟨_,rfl,_,rfl⟩)
theorem pF (h:wX e=Z9 v):∃p,e=.UnaryOp v.1 v.2 p:=bQ (q:=λv=>∃p,e=.UnaryOp v.1 v.2 p) h (by cases e<;>first|exact .inl rfl|exact .inr ⟨_,rfl,_,rfl⟩)
theorem mR (h:mF e=Z9 v):∃p,e=.Compare v.1 v.2.1 v.2.2 p:=bQ (q:=λv=>∃p,e=.Compare v.1 v.2.1 v.2.2 p) h (by cases e<;>first|exact .inl rfl|exact .inr ⟨_,rfl,_,rfl⟩)
theorem iZ (h:qQ e=Z9 v):e=.BoolOp v.1 v.2.1 v.2.2:=bQ (q:=λv=>e=.BoolOp v.1 v.2.1 v.2.2) h (by cases e<;>first|exact .inl rfl|exact .inr ⟨_,rfl,rfl⟩)
theorem P' (h:wY e=Z9 v):∃p,e=.IfExp v.1 v.2.1 v.2.2 p:=bQ (q:=λv=>∃p,e=.IfExp v.1 v.2.1 v.2.2 p) h (by cases e<;>first|exact .inl rfl|exact .inr ⟨_,rfl,_,rfl⟩)
theorem zI (h:oW e=Z9 v):∃k p,e=.Tuple v k p:=bQ (q:=λv=>∃k p,e=.Tuple v k p) h (by cases e<;>first|exact .inl rfl|exact .inr ⟨_,rfl,_,_,rfl⟩)
theorem Ib (h:tG e=Z9 v):∃p,e=.List v p:=bQ (q:=λv=>∃p,e=.List v p) h (by cases e<;>first|exact .inl rfl|exact .inr ⟨_,rfl,_,rfl⟩)
theorem xF (h:BQ e=Z9 v):∃p,e=.Dict v.1 v.2 p:=bQ (q:=λv=>∃p,e=.Dict v.1 v.2 p) h (by cases e<;>first|exact .inl rfl|exact .inr ⟨_,rfl,_,rfl⟩)
theorem xG (h:kI e=Z9 v):∃p,e=.Subscript v.1 v.2 p:=bQ (q:=λv=>∃p,e=.Subscript v.1 v.2 p) h (by cases e<;>first|exact .inl rfl|exact .inr ⟨_,rfl,_,rfl⟩)
theorem Qa (h:wZ e=Z9 v):∃p,e=.Slice v.1 v.2.1 v.2.2 p:=bQ (q:=λv=>∃p,e=.Slice v.1 v.2.1 v.2.2 p) h (by cases e<;>first|exact .inl rfl|exact .inr ⟨_,rfl,_,rfl⟩)
theorem xH (h:BS e=Z9 v):e=.Call v.1 v.2.1 v.2.2.1 v.2.2.2:=bQ (q:=λv=>e=.Call v.1 v.2.1 v.2.2.1 v.2.2.2) h (by cases e<;>first|exact .inl rfl|exact .inr ⟨_,rfl,rfl⟩)
theorem mT (h:uV e=Z9 v):e=.Attribute v.1 v.2.1 v.2.2:=bQ (q:=λv=>e=.Attribute v.1 v.2.1 v.2.2) h (by cases e<;>first|exact .inl rfl|exact .inr ⟨_,rfl,rfl⟩)
theorem xI (h:BU e=Z9 v):∃p,e=.ListComp v.1 v.2.1 v.2.2 p:=bQ (q:=λv=>∃p,e=.ListComp v.1 v.2.1 v.2.2 p) h (by cases e<;>first|exact .inl rfl|exact .inr ⟨_,rfl,_,rfl⟩)
theorem fU (h:bH l=Z9 v):l=[v]:=by rcases l with _|⟨x,_|⟨y,l⟩⟩<;>cases h;rfl
theorem CS (h:oX l=Z9 v):l=[v.1,v.2]:=by rcases l with _|⟨x,_|⟨y,_|⟨z,l⟩⟩⟩<;>cases h;rfl
theorem i' (h:iX e=Z9 v):∃q p,e=.Call (.Name v.1 q) v.2 [] p:=by
 obtain⟨u,hu,h⟩:=gg.mp h;cases a:u.2.2.1.isEmpty with
 |false=>rw[a]at h;simp_all
 |true=>rw[a]at h;obtain⟨x,b,rfl⟩:=a6.mp h;obtain⟨q,c⟩:=pE b;exact⟨q,_,by rw[xH hu,c,fT a]⟩
theorem kM (h:tH e=Z9 v):∃b c,e=.Call (.Attribute v.1 v.2.1 b) v.2.2.1 [] c/\v.2.2.2=(b.endLine==c.line):=by
 obtain⟨u,hu,h⟩:=gg.mp h;cases a:u.2.2.1.isEmpty with
 |false=>rw[a]at h;simp_all
 |true=>rw[a]at h;obtain⟨x,d,rfl⟩:=a6.mp h;exact⟨_,_,by rw[xH hu,mT d,fT a],rfl⟩
theorem kN (h:kJ f e=Z7):∃x p,e=.Name x p/\f x=true:=by obtain⟨x,a,h⟩:=aJ h;obtain⟨p,b⟩:=pE a;exact⟨x,p,b,h⟩
def Qb (K:Z5)(mg:Str->Option Value)(c C:Str)(b:Bool):Prop:=∃A v u,mg c=Z9 (.ref A)/\XA K A/\XV K u/\ZX K (.ref A) u=Z9 b/\RelV v u/\(∀w,RelV v w->w=u)/\(mg C=Z9 u\/(mg C=Z8/\dg C=Z9 u/\C≠"__name__"))
def CT (K:Z5)(mg:Str->Option Value)(c:Str):Prop:=∃C,mg c=Z9 (.ref C)/\exV K C=Z7
def Qc (K:Z5)(mg:Str->Option Value)(c B:Str):Prop:=∃C D,mg c=Z9 (.ref C)/\mg B=Z9 (.ref D)/\iJ K C=Z7/\iJ K D=Z7/\ZX K (.ref C) (.ref D)=Z9 Z7
structure rC (Γ:Gm)(K:Z5)(mg:Str->Option Value):Prop where
 sub:∀c C b,Γ.sub.contains (c,C,b)=Z7->Qb K mg c C b
 rs:∀c,Γ.rs.contains c=Z7->CT K mg c
 gP:∀c B,Γ.gP.contains (c,B)=Z7->Qc K mg c B
structure Cok (Γ:Gm)(Κ:List D)(Φ:List Fn)(X:Cx)(r:Nat):Prop where
 hN:X.N=Γ.N
 hs:X.env.scope=Γ.sc
 nd:Γ.N.Nodup
 fn:Γ.blk=Z6->∀x,X.fn x=Z7
 kind:Γ.sc.kind=.function
 free:∀x,Γ.free.contains x=Z7->X.mg x=Z8
 fns:∀(j:Nat) f n,Γ.fns[j]?=Z9 (f,n)->∃m k ps,Φ[j]?=Z9 m/\k<=r/\Cal X.prog X.w X.K X.mg X.base k f ps (spD X.K n m)
 cst:∀(j:Nat) x,Γ.cst[j]?=Z9 x->∃d a,Κ[j]?=Z9 d/\X.mg x=Z9 (.ref a)/\∀H B,B Z8->Rep X.K H B (.ref a) d
 mU:∀(j:Nat) f n,Γ.fns[j]?=Z9 (f,n)->∃m k ps,Φ[j]?=Z9 m/\k<=r/\mP X.prog X.w X.K X.mg X.base k f ps n m
 room:Γ.cm=Z7->Room r X.A
 calm:Γ.cm=Z7->X.calm=Z7
 hu:X.A.units+64<cLine
 hT:Γ.blk=Z6->X.stack=X.env::X.outer/\X.env.frame=Z9 X.env.locals
 tL:Γ.xc=Z8->∀x u,(x,u)∈X.fx->Γ.kp.contains x=Z7
 xc:∀n c,Γ.xc=Z9 (n,c)->∃a oe C,X.fx=[(n,.ref a)]/\Xh X a oe/\oe.cls=.ref C/\X.mg c=Z9 (.ref C)
 xk:rC Γ X.K X.mg
theorem Cok.gl (k:Cok a Κ Φ X r)(h:lE a x=Z7):Gl X x/\WL x:=by unfold lE at h;rw[cn]at h;refine⟨?_,by simpa using h.2⟩;show X.env.scope.names.lookup x=_;rw[k.hs];simpa using h.1
theorem Cok.aN (k:Cok b Κ Φ X r)(h:mE b i x=Z7):X.N[i]?=Z9 x/\Vis X.env.scope x/\WL x/\(x==("__classdict__":Str))=false:=by
 unfold mE at h;simp at h;have⟨⟨⟨h1,a⟩,h3⟩,h4⟩:=h;refine⟨by rw[k.hN];exact h1,?_,by simpa using h3,by simpa using h4⟩;rw[k.hs];rcases a with(a|a)|a
 .exact .inl a
 .exact .inr (.inl a)
 .exact .inr (.inr a)
theorem Cok.loc (k:Cok d Κ Φ X r)(h:kG d i x=Z7):X.N[i]?=Z9 x/\Loc X.env.scope x/\Sto X x:=by
 unfold kG at h;simp only[cn,kr,beq_iff_eq,qd]at h;obtain⟨⟨g,b⟩,f,c⟩:=h;refine⟨by rw[k.hN];exact g,?_,?_,λu z=>?_⟩
 .unfold L2.Loc;rw[k.hs];rcases b with b|⟨_,b⟩
  .exact .inl b
  .exact .inr b
 .rcases b with b|⟨b,_⟩
  .exact .inr (k.hs▸b)
  .exact .inl (k.fn b x)
 .cases e:d.xc with
  |none=>rw[k.tL e x u z]at f;cases f
  |some p=>obtain⟨a,m,C,j,_⟩:=k.xc p.1 p.2 e;rw[j]at z;have l:x=p.1:=congrArg lg (az.mp z);rw[e]at c;have c:(!(p.1==x))=true:=c;rw[l,beq_self_eq_true]at c;cases c
theorem Cok.Qd (k:Cok a Κ Φ X r)(h:BP a=Z7):X.fx=[]:=by have h:=au.mp h;refine List.eq_nil_iff_forall_not_mem.mpr λp b=>?_;have:=k.tL (d9.mp h.1) p.1 p.2 b;rw[jb.mp h.2]at this;cases this
theorem Qe (h:BP a=Z7):a.xc=none:=d9.mp (au.mp h).1
theorem Cok.blt (k:Cok a Κ Φ X r)(h:dH a x=Z7):Gl X x/\X.mg x=Z8/\WL x/\x≠"__name__":=by unfold dH at h;simp only[au]at h;obtain⟨⟨b,c⟩,d⟩:=h;obtain⟨g1,g2⟩:=k.gl b;exact⟨g1,k.free x c,g2,by simpa using d⟩
theorem Qf {C:Addr}:(blk X scope a C b s H).env.scope=zq scope X.env.scope:=rfl
theorem Cok.blk (k:Cok a Κ Φ X r)(c:scope.kind=.function)(nd:b.Nodup)(C:Addr)(d:List Addr)(s:bb)(H:Hp):Cok {a with N:=b,sc:=zq scope a.sc,blk:=Z7,xc:=Z8,kp:=[]} Κ Φ (blk X scope b C d s H) r where
 hN:=rfl
 hs:=by rw[Qf,k.hs]
 nd:=nd
 fn:=λz=>by cases z
 kind:=c
 free:=k.free
 fns:=k.fns
 cst:=k.cst
 mU:=k.mU
 room:=k.room
 calm:=k.calm
 hu:=k.hu
 hT:=λz=>by cases z
 tL:=λ_ _ _ z=>by cases z
 xc:=λ_ _ z=>by cases z
 xk:=⟨k.xk.sub,k.xk.rs,k.xk.gP⟩
theorem Qg (k:Cok a Κ Φ X r)(all:List Nat):∀{es:List Expr},BV a is es=Z7->PGs X es (mK X.K all is)/\(gk es X.env).length=is.length/\(gk es X.env).findIdx? (·.1)=none:=by
 induction is with
 |nil=>intro es h;cases fT h;exact⟨OG,rfl,rfl⟩
 |cons i is b=>
  intro es h;cases es with
  |nil=>cases h
  |cons e es=>
   obtain⟨h0,c⟩:=aD h;obtain⟨x,p,rfl,h0⟩:=kN h0;obtain⟨d,f,g⟩:=k.loc h0;obtain⟨a1,a2,a3⟩:=b c;refine⟨OH (k.hN▸k.nd) d f g a1,?_,?_⟩
   .show(gk es X.env).length+1=_;rw[a2];rfl
   .show((Z6,o0 (.Name x p) X.env)::gk es X.env).findIdx? (·.1)=Z8;rw[jo,a3];rfl
theorem vb (k:Cok b Κ Φ X r)(h:qS b t e=Z7):PG X e (tDG X.K t):=by
 cases t with
 |nm i=>obtain⟨x,p,rfl,a⟩:=kN h;obtain⟨c,d,f⟩:=k.loc a;exact OF (k.hN▸k.nd) c d f
 |tp is=>obtain⟨h0,h⟩:=aD h;obtain⟨v,g,a⟩:=aJ h;obtain⟨_,_,rfl⟩:=zI g;obtain⟨a1,a2,a3⟩:=Qg k is a;exact OI (k.calm h0) a1 rfl a3 a2.symm
theorem Ic (h:plainT e=Z7)(env:Env):∀a,qp e env a=(do let v <-a;standAt e.pos;holding [v] (truthy v)):=by
 intro a;cases e<;>first|(cases h;done)|rfl|skip
 rename_i b x p;cases b<;>first|(cases h;done)|rfl
theorem xJ (h:tF e=Z7)(env:Env):∀x,ge e env x=pure x:=by intro x;cases e<;>first|(cases h;done)|rfl
variable (Κ:List D)(Φ:List Fn)
theorem Qh (c:C):∀b es d f,eJ b c es=Z7->eC Κ Φ c d=.ok f->f.length=es.length/\(es.all λe=>!isStar e)=true:=by
 induction c with
 |nil=>intro b es d f h e;cases fT h;cases e;exact⟨rfl,rfl⟩
 |cons a r _ i=>
  intro b es d f h e;cases es with
  |nil=>cases h
  |cons x es=>obtain⟨j,_,k⟩:=aX h;obtain⟨y,_,e⟩:=Res.aA e;obtain⟨g,l,e⟩:=Res.aA e;cases e;obtain⟨m,n⟩:=i b es d g k l;exact⟨by rw[bc,bc,m],by rw[c9,n,j];rfl⟩
 |_=>exact λ_ _ _ _ h=>ff rfl h
end
section
theorem Qi (h:tyB a T t=Z7):∃x p,t=.Name x p/\x=Str.ofString T/\dH a x=Z7/\T∈tysB:=by obtain⟨x,p,e,h⟩:=kN h;obtain⟨b,c,d⟩:=aX h;exact⟨x,p,e,sx b,c,b9.mp d⟩
theorem CU (h:(a||b)=Z7)(n:b=Z6):a=true:=by rw[n,Bool.or_false]at h;exact h
theorem Qj (h:T∈tysB):dg (Str.ofString T)=Z9 (.type T):=by simp only[tysB,bh,il,or_false]at h;rcases h with rfl|rfl|rfl|rfl|rfl<;>decide+kernel
variable (Κ:List D)(Φ:List Fn)
theorem rD:∀{c:C} {es:List Expr},eJ g c es=Z7->(es.all λe=>!isStar e)=true:=by
 intro c
 induction c with
 |nil=>intro es h;cases fT h;rfl
 |cons a r _ b=>
  intro es h;cases es with
  |nil=>rfl
  |cons e es=>obtain⟨d,_,f⟩:=aX h;rw[c9,b f,d];rfl
 |_=>exact λh=>ff rfl h
theorem zJ (h:eJ d c es=Z7):∀b a,eC Κ Φ c b=.ok a->a.length=es.length:=λb a e=>(Qh Κ Φ c d es b a h e).1
structure Sd (c:C):Prop where
 E:∀(Γ:Gm) (X:Cx) (r:Nat) (e:Expr),Cok Γ Κ Φ X r->chkE Γ c e=Z7->PE X e (tD X.K (aL Κ Φ c))
 T:∀(Γ:Gm) (X:Cx) (r:Nat) (e:Expr),Cok Γ Κ Φ X r->eI Γ c e=Z7->PT X e (dV X.K (dN Κ Φ c))/\((∃o l p,e=.BoolOp o l p)->PW X e (dV X.K (dN Κ Φ c)))
 Q:∀(Γ:Gm) (X:Cx) (r:Nat) (l:Expr) (ops:List CmpOp) (rs:List Expr) (pos:Pos),Cok Γ Κ Φ X r->chkE Γ c (.Compare l ops rs pos)=Z7->PT X (.Compare l ops rs pos) (dV X.K λρ=>aL Κ Φ c ρ>>=λx=>jN x.2)
 A:∀(Γ:Gm) (X:Cx) (r:Nat) (es:List Expr),Cok Γ Κ Φ X r->eJ Γ c es=Z7->PA X es (tDA X.K (eC Κ Φ c))
 O:∀(Γ:Gm) (X:Cx) (r:Nat) (e:Option Expr),Cok Γ Κ Φ X r->oY Γ c e=Z7->PO X e (tDO X.K (tx Κ Φ c))
 W:∀(Γ:Gm) (X:Cx) (r:Nat) (e tg:Expr),Cok Γ Κ Φ X r->zr c tg=Z7->kK Γ c e=Z7->PI X tg e (tDW X.K (evW Κ Φ c))
 G:∀(Γ:Gm) (X:Cx) (r:Nat) (e:Expr),Cok Γ Κ Φ X r->tI Γ c e=Z7->∃a,c=.tv a/\PE X e (tD X.K (aL Κ Φ a))
def pG:C->Nat
 |.and _ _|.or _ _|.not _|.tv _|.nil|.cons _ _|.eF _|.enum _=>2
 |.cmp _ _ _|.hD _ _=>1
 |_=>0
variable {Κ:List D}{Φ:List Fn}
theorem Qk (h:pG c<2):eI a c e=false:=by cases c<;>first|rfl|exact absurd h (cx 2)
theorem Ql (h:pG c<2):eJ a c es=false:=by cases c<;>first|rfl|exact absurd h (cx 2)
theorem Qm (h:pG c<2):oY a c o=false:=by cases c<;>first|rfl|exact absurd h (cx 2)
theorem Qn (h:pG c<2):kK a c e=false:=by cases c<;>first|rfl|exact absurd h (cx 2)
theorem Qo (h:pG c<2):tI a c e=false:=by cases c<;>first|rfl|exact absurd h (cx 2)
theorem Sd.q (hE:∀Γ X r e,Cok Γ Κ Φ X r->chkE Γ c e=Z7->PE X e (tD X.K (aL Κ Φ c)))(hQ:∀Γ X r l ops rs pos,Cok Γ Κ Φ X r->chkE Γ c (.Compare l ops rs pos)=Z7->PT X (.Compare l ops rs pos) (dV X.K λρ=>aL Κ Φ c ρ>>=λx=>jN x.2))(hx:pG c<2):Sd Κ Φ c:=⟨hE,λ_ _ _ _ _ h=>ff (Qk hx) h,hQ,λ_ _ _ _ _ h=>ff (Ql hx) h,λ_ _ _ _ _ h=>ff (Qm hx) h,λ_ _ _ _ _ _ _ h=>ff (Qn hx) h,λ_ _ _ _ _ h=>ff (Qo hx) h⟩
theorem Qp (h:pG c=0):chkE b c (.Compare l a rs pos)=false:=by cases c<;>first|rfl|(cases h;done)
theorem Sd.x (b:∀Γ X r e,Cok Γ Κ Φ X r->chkE Γ c e=Z7->PE X e (tD X.K (aL Κ Φ c)))(a:pG c=0):Sd Κ Φ c:=Sd.q b (λ_ _ _ _ _ _ _ _ h=>ff (Qp a) h) (a▸Nat.zero_lt_two)
theorem Qq:Sd Κ Φ (.var i):=Sd.x (λf X r e k h=>by obtain⟨x,p,rfl,h⟩:=kN h;obtain⟨a,b,c,d⟩:=k.aN h;exact N7 a b c d) rfl
theorem Qr:Sd Κ Φ .aM:=Sd.x (λa X r e k h=>by obtain⟨_,_,rfl⟩:=tK (sk h);exact zu Mm λ_ _=>rfl) rfl
theorem CV {b:Bool}:Sd Κ Φ (.bl b):=Sd.x (λa X r e k h=>by obtain⟨_,_,rfl⟩:=tK (sk h);exact zu Ml λ_ _=>rfl) rfl
theorem Qs {b:Int}:Sd Κ Φ (.int b):=Sd.x (λa X r e k h=>by obtain⟨_,_,rfl⟩:=tK (sk h);exact zu Mj λ_ _=>rfl) rfl
theorem Qt {b:Str}:Sd Κ Φ (.str b):=Sd.x (λd X r e k h=>by obtain⟨a,c⟩:=aD h;obtain⟨_,_,rfl⟩:=tK (sk a);exact zu FN λ_ _=>⟨rfl,c⟩) rfl
theorem Qu (d:Sd Κ Φ a)(f:Sd Κ Φ b):Sd Κ Φ (.bin o a b):=Sd.x (λc X r e k h=>by obtain⟨v,g,i⟩:=aJ h;obtain⟨p,rfl⟩:=P9 g;obtain⟨j,l,m,n⟩:=bL i;cases sk j;exact N8 l (d.E c X r _ k m) (f.E c X r _ k n)) rfl
theorem Qv (b:Sd Κ Φ a):Sd Κ Φ (.neg a):=Sd.x (λc X r e k h=>by obtain⟨⟨o,x⟩,d,f⟩:=aJ h;obtain⟨p,rfl⟩:=pF d;obtain⟨g,i⟩:=aD f;cases sk g;exact N9 (b.E c X r _ k i)) rfl
theorem Ie (h:chkE g (.cmp c a b) e=Z7):∃l r p,e=.Compare l [c] [r] p/\z4l c=Z7/\dw c r=Z6/\chkE g a l=Z7/\chkE g b r=true:=by obtain⟨⟨l,o,rs⟩,i,j⟩:=aJ h;obtain⟨p,rfl⟩:=mR i;obtain⟨k,d⟩:=aD j;obtain⟨r,hr,f⟩:=aJ d;cases sk k;cases fU hr;obtain⟨d,f,m,n⟩:=bL f;exact⟨l,r,p,rfl,d,cN f,m,n⟩
theorem Qw (j:Sd Κ Φ a)(m:Sd Κ Φ b):Sd Κ Φ (.cmp s a b):=Sd.q (λc X r e k h=>by
 obtain⟨_,_,_,rfl,d,f,g,i⟩:=Ie h;exact zss k.hu d f (j.E c X r _ k g) (m.E c X r _ k i)) (λc X r l n rs p k h=>by
 obtain⟨_,_,_,o,d,f,g,i⟩:=Ie h;cases o;exact zsn k.hu d f (j.E c X r _ k g) (m.E c X r _ k i)) Nat.one_lt_two
theorem Ig (h:((mF e).any λv=>decide (v.2.1=[o])&&(bH v.2.2).any λr=>decide (fB r=Z9 w)&&chkE b a v.1)=Z7):∃l k q p,e=.Compare l [o] [.Constant w k q] p/\chkE b a l=true:=by obtain⟨⟨l,o,rs⟩,c,d⟩:=aJ h;obtain⟨p,rfl⟩:=mR c;obtain⟨f,g⟩:=aD d;obtain⟨r,hr,i⟩:=aJ g;obtain⟨j,m⟩:=aD i;cases sk f;cases fU hr;obtain⟨_,_,rfl⟩:=tK (sk j);exact⟨_,_,_,_,rfl,m⟩
theorem Qx (d:Sd Κ Φ a):Sd Κ Φ (.hD i a):=Sd.q (λb X r e k h=>by
 obtain⟨_,_,_,_,rfl,c⟩:=Ig h;exact Ob rfl (d.E b X r _ k c)) (λb X r l f rs p k h=>by
 obtain⟨_,_,_,_,g,c⟩:=Ig h;cases g;exact Oc rfl (d.E b X r _ k c)) Nat.one_lt_two
theorem tM (h:qR f g o p a=Z7):(∃x y,a=[x,y]/\f x=Z7/\g y=Z7)\/∃x y z r,a=x::y::z::r/\f x=Z7/\g (.BoolOp o (y::z::r) p)=true:=by
 rcases a with _|⟨x,_|⟨y,_|⟨z,a⟩⟩⟩
 .cases h
 .cases h
 .exact .inl ⟨x,y,rfl,(aD h).1,(aD h).2⟩
 .exact .inr ⟨x,y,z,a,rfl,(aD h).1,(aD h).2⟩
theorem Qy (g:Sd Κ Φ a)(i:Sd Κ Φ b):Sd Κ Φ (.and a b) where
 E:=λc X r e k h=>by
  obtain⟨⟨o,q,p⟩,j,l⟩:=aJ h;cases iZ j;obtain⟨m,n⟩:=aD l;cases sk m;rcases tM n with⟨x,y,rfl,d,f⟩|⟨x,y,z,t,rfl,d,f⟩
  .exact G5 (g.E c X r _ k d) (AX (i.E c X r _ k f))
  .exact G5 (g.E c X r _ k d) (i.E c X r _ k f)
 T:=λc X r e k h=>by
  obtain⟨⟨o,q,p⟩,j,l⟩:=aJ h;cases iZ j;obtain⟨m,n⟩:=aD l;cases sk m;rcases tM n with⟨x,y,rfl,d,f⟩|⟨x,y,z,t,rfl,d,f⟩
  .have w:=w_and (pos:=p) (g.T c X r _ k d).1 (FQ (i.T c X r _ k f).1);exact⟨w.pt,λ_=>w⟩
  .have w:=w_and (g.T c X r _ k d).1 ((i.T c X r _ k f).2 ⟨_,_,_,rfl⟩);exact⟨w.pt,λ_=>w⟩
 Q:=λ_ _ _ _ _ _ _ _ h=>ff rfl h
 A:=λ_ _ _ _ _ h=>ff rfl h
 O:=λ_ _ _ _ _ h=>ff rfl h
 W:=λ_ _ _ _ _ _ _ h=>ff rfl h
 G:=λ_ _ _ _ _ h=>ff rfl h
theorem CW (g:Sd Κ Φ a)(i:Sd Κ Φ b):Sd Κ Φ (.or a b) where
 E:=λc X r e k h=>by
  obtain⟨⟨o,q,p⟩,j,l⟩:=aJ h;cases iZ j;obtain⟨m,n⟩:=aD l;cases sk m;rcases tM n with⟨x,y,rfl,d,f⟩|⟨x,y,z,t,rfl,d,f⟩
  .exact xr (g.E c X r _ k d) (AX (i.E c X r _ k f))
  .exact xr (g.E c X r _ k d) (i.E c X r _ k f)
 T:=λc X r e k h=>by
  obtain⟨⟨o,q,p⟩,j,l⟩:=aJ h;cases iZ j;obtain⟨m,n⟩:=aD l;cases sk m;rcases tM n with⟨x,y,rfl,d,f⟩|⟨x,y,z,t,rfl,d,f⟩
  .have w:=w_or (pos:=p) (g.T c X r _ k d).1 (FR (i.T c X r _ k f).1);exact⟨w.pt,λ_=>w⟩
  .have w:=w_or (g.T c X r _ k d).1 ((i.T c X r _ k f).2 ⟨_,_,_,rfl⟩);exact⟨w.pt,λ_=>w⟩
 Q:=λ_ _ _ _ _ _ _ _ h=>ff rfl h
 A:=λ_ _ _ _ _ h=>ff rfl h
 O:=λ_ _ _ _ _ h=>ff rfl h
 W:=λ_ _ _ _ _ _ _ h=>ff rfl h
 G:=λ_ _ _ _ _ h=>ff rfl h
theorem Qz (i:Sd Κ Φ a):Sd Κ Φ (.not a) where
 E:=λb X r e k h=>by obtain⟨⟨o,x⟩,c,d⟩:=aJ h;obtain⟨p,rfl⟩:=pF c;obtain⟨f,g⟩:=aD d;cases sk f;exact Oe (i.E b X r _ k g)
 T:=λb X r e k h=>by obtain⟨⟨o,x⟩,c,d⟩:=aJ h;obtain⟨p,rfl⟩:=pF c;obtain⟨f,g⟩:=aD d;cases sk f;exact⟨mH (i.T b X r _ k g).1,λ⟨_,_,_,z⟩=>by cases z⟩
 Q:=λ_ _ _ _ _ _ _ _ h=>ff rfl h
 A:=λ_ _ _ _ _ h=>ff rfl h
 O:=λ_ _ _ _ _ h=>ff rfl h
 W:=λ_ _ _ _ _ _ _ h=>ff rfl h
 G:=λ_ _ _ _ _ h=>ff rfl h
theorem QA (h:GZ e=Z7):∃l o r p,e=.Compare l o r p:=by cases e<;>first|exact ff rfl h|exact⟨_,_,_,_,rfl⟩
theorem CY (d:Sd Κ Φ a):Sd Κ Φ (.tv a) where
 E:=λ_ _ _ _ _ h=>ff rfl h
 T:=λb X r e k h=>by
  obtain⟨c,f⟩:=aD h;rcases fj.mp c with c|c
  .exact⟨Of (d.E b X r _ k f) (Ic c _),λ⟨_,_,_,z⟩=>by subst z;cases c⟩
  .obtain⟨_,_,_,_,rfl⟩:=QA c;exact⟨d.Q b X r _ _ _ _ k f,λ⟨_,_,_,z⟩=>by cases z⟩
 Q:=λ_ _ _ _ _ _ _ _ h=>ff rfl h
 A:=λ_ _ _ _ _ h=>ff rfl h
 O:=λb X r e k h=>by obtain⟨v,rfl,h⟩:=aJ h;exact Ox (d.E b X r _ k h)
 W:=λb X r e g k _ h=>dW (d.E b X r _ k (aD h).2)
 G:=λb X r e k h=>⟨a,rfl,d.E b X r _ k h⟩
theorem QB (f:Sd Κ Φ c)(g:Sd Κ Φ a)(i:Sd Κ Φ b):Sd Κ Φ (.sZ c a b):=Sd.x (λd X r e k h=>by obtain⟨v,j,l⟩:=aJ h;obtain⟨p,rfl⟩:=P' j;obtain⟨m,n,o⟩:=aX l;exact Og (f.T d X r _ k m).1 (g.E d X r _ k n) (i.E d X r _ k o)) rfl
theorem QC (c:Sd Κ Φ a):Sd Κ Φ (.tup a):=Sd.x (λd X r e k h=>by obtain⟨v,f,g⟩:=aJ h;obtain⟨_,_,rfl⟩:=zI f;obtain⟨i,b⟩:=aD g;exact Oh (c.A d X r _ k b) λj l e=>by rw[zJ Κ Φ b j l e];exact GW (sk i)) rfl
theorem QD (c:Sd Κ Φ a):Sd Κ Φ (.lst a):=Sd.x (λd X r e k h=>by obtain⟨v,f,g⟩:=aJ h;obtain⟨_,rfl⟩:=Ib f;obtain⟨i,b⟩:=aD g;exact Oi (c.A d X r _ k b) λj l e=>by rw[zJ Κ Φ b j l e];exact GW (sk i)) rfl
theorem QE:Sd Κ Φ .gL:=Sd.x (λi X r e k h=>by obtain⟨⟨a,b⟩,c,d⟩:=aJ h;obtain⟨_,rfl⟩:=xF c;obtain⟨f,g⟩:=aD d;cases fT f;cases fT g;exact Oj) rfl
theorem CZ (d:Sd Κ Φ a)(f:Sd Κ Φ b):Sd Κ Φ (.ix a b):=Sd.x (λc X r e k h=>by obtain⟨v,g,i⟩:=aJ h;obtain⟨_,rfl⟩:=xG g;obtain⟨j,l,m⟩:=aX i;exact d_ix k.hu j (d.E c X r _ k l) (f.E c X r _ k m)) rfl
theorem C1 {c:C}(d:Sd Κ Φ a)(f:Sd Κ Φ c)(g:Sd Κ Φ j):Sd Κ Φ (.sl a c j):=Sd.x (λb X r e k h=>by obtain⟨⟨x,i⟩,m,n⟩:=aJ h;obtain⟨_,rfl⟩:=xG m;obtain⟨⟨l,u,s⟩,hs,o⟩:=aJ n;obtain⟨_,rfl⟩:=Qa hs;obtain⟨p,q,t,v⟩:=bL o;cases d9.mp p;exact d_sl (d.E b X r _ k q) (f.O b X r _ k t) (g.O b X r _ k v)) rfl
theorem QF (i:Sd Κ Φ args):Sd Κ Φ (.call j f args):=Sd.x (λl X r e k h=>by
 obtain⟨⟨x,es⟩,n,o⟩:=aJ h;obtain⟨_,_,rfl⟩:=i' n;obtain⟨a,p,q,b,s⟩:=cV o;obtain⟨y,es,rfl⟩:=pD s;obtain⟨h0,a⟩:=aD a;cases sx a;obtain⟨g1,g2⟩:=k.gl p;obtain⟨m,kk,ps,t,u,v⟩:=k.fns j _ _ (sx q);refine PE.imp (zqc v (k.room h0) u (i.A l X r _ k b) (rD b) g1 g2 (zJ Κ Φ b)) λz H Q g=>?_
 have w:aL Κ Φ (.call j x args)=λc=>eC Κ Φ args c>>=λd=>m (d.map (·.2))>>=λr=>.ok (gJ r.2 (jO r.1),r.2):=by
  funext c
  show(eC Κ Φ args c>>=λd=>match Φ[j]? with|some m=>m (d.map (·.2))>>=λr=>.ok (gJ r.2 (jO r.1),r.2)|none=>.no)=_;rw[t]
 rw[w]at g;exact g) rfl
theorem C3 (l:Sd Κ Φ args):Sd Κ Φ (.bi f args):=Sd.x (λm X r e k h=>by
 obtain⟨⟨x,es⟩,n,o⟩:=aJ h;obtain⟨_,_,rfl⟩:=i' n;obtain⟨a,p,c,b,q⟩:=cV o;obtain⟨y,es,rfl⟩:=pD q;have a:=sx a;obtain⟨g1,g2,g3,d⟩:=k.blt p;obtain⟨c,g⟩:=aD c;have j:=b9.mp c;have i:=l.A m X r _ k b;simp at j;rcases j with rfl|rfl|rfl
 .exact d_cB Hc g2 (by rw[a];decide+kernel) i (rD b) g1 d g3
 .exact d_cB (Oy (k.calm (CU g rfl))) g2 (by rw[a];decide+kernel) i (rD b) g1 d g3
 .exact zup PD g2 (by rw[a];decide+kernel) i (rD b) g1 d g3) rfl
theorem QG (l:Sd Κ Φ a):Sd Κ Φ (.agg f a):=Sd.x (λm X r e k h=>by
 obtain⟨⟨x,es⟩,n,o⟩:=aJ h;obtain⟨_,_,rfl⟩:=i' n;obtain⟨p,q,b,s⟩:=bL o;obtain⟨y,t,u⟩:=aJ s;obtain⟨v,w⟩:=aD u;cases fU t;have c:=sx p;obtain⟨g1,g2,g3,d⟩:=k.blt q;obtain⟨a,rfl,g⟩:=l.G m X r _ k w;have i:=cN v;obtain⟨b,j⟩:=aD b;have hf:=b9.mp b;simp only[xh,bh,il,or_false]at hf;rcases hf with rfl|rfl|rfl
 .exact ziv O' g2 (by rw[c];decide+kernel) i g g1 d g3
 .exact zqr (PB k.hu) g2 (by rw[c];decide+kernel) i g g1 d g3
 .exact ziv (Pq (k.calm j)) g2 (by rw[c];decide+kernel) i g g1 d g3) rfl
theorem QH (c:Sd Κ Φ a):Sd Κ Φ (.gZ a ts):=Sd.x (λd X r e k h=>by obtain⟨⟨x,es⟩,f,g⟩:=aJ h;obtain⟨_,_,rfl⟩:=i' f;obtain⟨i,j,l⟩:=aX g;obtain⟨⟨y,t⟩,m,n⟩:=aJ l;obtain⟨o,p,q⟩:=aX n;obtain⟨T,s,u⟩:=aJ q;cases CS m;cases fU s;cases sx i;obtain⟨g1,g2,g3,C⟩:=k.blt j;obtain⟨D,F,rfl,rfl,v,b⟩:=Qi u;obtain⟨w,z,A,B⟩:=k.blt v;exact zti g2 g1 z (Qj b) w B A b (cN o) (c.E d X r _ k p)) rfl
theorem C4 (o:Sd Κ Φ a)(p:Sd Κ Φ args):Sd Κ Φ (.mt m a args):=Sd.x (λd X r e k h=>by
 obtain⟨⟨x,n,es,b⟩,q,s⟩:=aJ h;obtain⟨C,D,rfl,t⟩:=kM q;obtain⟨h0,u,c,v⟩:=bL s;obtain⟨w,z,f,B,g⟩:=cV h0;obtain⟨y,es,rfl⟩:=pD v;cases sx w;have i:=t.symm.trans B;have j:=o.E d X r _ k u;have l:=p.A d X r _ k c;have hm:=b9.mp z;simp at hm;rcases hm with rfl|rfl
 .exact d_mt PySem.F.plainAttrs_dict PySem.F.slot_dict_get PySem.F.type_dict_get (OO k.hu) (λ_ _ _ _ _ _ r e=>OP r e) j l f (rD c) (sk g) i
 .exact d_mt PySem.F.plainAttrs_str PySem.F.slot_str_join PySem.F.type_str_join OS (λ_ _ _ _ _ _ r e=>OT r e) j l f (rD c) (sk g) i) rfl
theorem QI (g:Sd Κ Φ c)(k:Cok f Κ Φ X n)(h:xb (xg c) (λt=>eI f c t) a=Z7):oQ X a (dV X.K (dN Κ Φ c)):=by
 cases a with
 |nil=>
  have:c=.nil:=by cases c<;>first|exact ff rfl h|rfl
  subst this;refine λd s i H Q I q=>GQ d s i H Q I ?_;obtain⟨m,F,b,so,e,q⟩:=q;cases e;exact q H (Same.refl H)
 |cons t r=>obtain⟨j,l⟩:=aD h;cases fT j;exact GS (g.T f X n t k l).1
theorem sC {c:C}(w:Sd Κ Φ it)(y:Sd Κ Φ c)(z:Sd Κ Φ f)(k:Cok l Κ Φ X r)(h:chkE l (.comp p A j q it c f) e=Z7):
  ∃el t i d a pos,e=.ListComp el [⟨t,i,d,0⟩] a pos/\BlkScope X a j p A/\(∀i∈tgIx q,i<p)/\PI X t i (tDW X.K (evW Κ Φ it))/\(∀C b s H,PG (blk X a j C b s H) t (tDG X.K q))/\(∀C b s H,oQ (blk X a j C b s H) d (dV X.K (dN Κ Φ c)))/\(∀C b s H,PE (blk X a j C b s H) el (tD X.K (aL Κ Φ f)))/\(∀x,ge i X.env x=pure x)/\l.cm=true:=by
 obtain⟨⟨el,O,a⟩,B,g⟩:=aJ h;obtain⟨pos,rfl⟩:=xI B;obtain⟨⟨t,i,d,kk⟩,D,g⟩:=aJ g;cases fU D;obtain⟨h0,u,F,G,g⟩:=cV g;obtain⟨m,I,J,L,M⟩:=cV h0;obtain⟨n,m⟩:=aD m;cases sx m;have v:=GP k.hN k.hs J;have o:=λC b s H=>k.blk v.kind (sk M) C b s H;exact⟨el,t,i,d,a,pos,rfl,v,λi N=>sk ((br.mp I) i N),w.W l X r _ t k (aD u).2 F,λC b s H=>vb (o C b s H) (aD u).1,λC b s H=>QI y (o C b s H) G,λC b s H=>z.E _ _ r _ (o C b s H) g,xJ L _,n⟩
theorem QJ {a:C}(f:Sd Κ Φ it)(g:Sd Κ Φ a)(j:Sd Κ Φ b):Sd Κ Φ (.comp u v w y it a b):=Sd.x (λz X r e k h=>by obtain⟨el,t,i,l,c,pos,rfl,m,n,o,p,q,s,hs,d⟩:=sC f g j k h;exact(zfo (k.calm d) m n o p q s hs).1) rfl
theorem QK {b:Bool}:Sd Κ Φ (.tf b x):=Sd.x (λP X r e k h=>by obtain⟨⟨f,es⟩,j,l⟩:=aJ h;obtain⟨_,_,rfl⟩:=i' j;obtain⟨m,o,p⟩:=aX l;obtain⟨⟨Q,R⟩,q,s⟩:=aJ p;cases CS q;obtain⟨⟨n,c⟩,t,w⟩:=aJ s;obtain⟨d,g⟩:=aD w;obtain⟨S,T,hn,d⟩:=kN d;obtain⟨C,U,y,g⟩:=kN g;cases hn;cases y;obtain⟨a1,a2,a3,a4⟩:=bL d;obtain⟨z,B,D⟩:=aX g;cases sx m;cases sx a1;cases sx z;obtain⟨g1,g2,g3,V⟩:=k.blt o;obtain⟨E,F⟩:=k.gl B;obtain⟨a,W,Y,G,H,I,i⟩:=k.xc n c t;obtain⟨A,v,u,J,xa,K,L,M,N,O⟩:=k.xk.sub c x b D;rw[J]at i;cases i;exact zte g2 g1 G (k.hs▸sx a2) (cN a3) H I E O M N F xa K L) rfl
theorem QL:Sd Κ Φ .nil where
 E:=λ_ _ _ _ _ h=>ff rfl h
 T:=λ_ _ _ _ _ h=>ff rfl h
 Q:=λ_ _ _ _ _ _ _ _ h=>ff rfl h
 A:=λa X r es k h=>by cases fT h;exact G8
 O:=λa X r e k h=>by cases d9.mp h;exact qW
 W:=λ_ _ _ _ _ _ _ h=>ff rfl h
 G:=λ_ _ _ _ _ h=>ff rfl h
theorem QM (d:Sd Κ Φ a)(f:Sd Κ Φ b):Sd Κ Φ (.cons a b) where
 E:=λ_ _ _ _ _ h=>ff rfl h
 T:=λ_ _ _ _ _ h=>ff rfl h
 Q:=λ_ _ _ _ _ _ _ _ h=>ff rfl h
 A:=λc X r es k h=>by
  cases es with
  |nil=>cases h
  |cons e es=>obtain⟨g,i,j⟩:=aX h;exact G9 (cN g) (d.E c X r _ k i) (f.A c X r _ k j)
 O:=λ_ _ _ _ _ h=>ff rfl h
 W:=λ_ _ _ _ _ _ _ h=>ff rfl h
 G:=λ_ _ _ _ _ h=>ff rfl h
theorem QN (g:Sd Κ Φ a):Sd Κ Φ (.eF a) where
 E:=λ_ _ _ _ _ h=>ff rfl h
 T:=λ_ _ _ _ _ h=>ff rfl h
 Q:=λ_ _ _ _ _ _ _ _ h=>ff rfl h
 A:=λ_ _ _ _ _ h=>ff rfl h
 O:=λ_ _ _ _ _ h=>ff rfl h
 W:=λi X r e p k _ h=>by
  obtain⟨⟨x,es⟩,j,l⟩:=aJ h;obtain⟨_,_,rfl⟩:=i' j;obtain⟨m,n,b,c⟩:=bL l;obtain⟨c,o⟩:=aD c;cases sx m;obtain⟨g1,g2,g3,q⟩:=k.blt n;have hs:=br.mp (rD b);have d:=zJ Κ Φ b;have f:=g.A i X r _ k b;rcases es with _|⟨x,_|⟨y,_|⟨z,es⟩⟩⟩
  .cases c
  .exact OC g2 g1 (cN (hs x (.head _))) f d
  .exact OD g2 g1 (cN (hs x (.head _))) (cN (hs y (.tail _ (.head _)))) f d
  .exact absurd (sk o) (Nat.not_le.mpr (Nat.succ_lt_succ (Nat.succ_lt_succ (Nat.succ_pos _))))
 G:=λ_ _ _ _ _ h=>ff rfl h
theorem C5 (h:isTup e=Z7):∃a b c,e=.Tuple a b c:=by cases e<;>first|exact ff rfl h|exact⟨_,_,_,rfl⟩
theorem Ih (h:kK c (.enum a) e=Z7):∃y q p,e=.Call (.Name "enumerate" q) [y] [] p/\dH c "enumerate"=Z7/\isStar y=Z6/\chkE c a y=true:=by obtain⟨⟨x,es⟩,d,f⟩:=aJ h;obtain⟨q,p,rfl⟩:=i' d;obtain⟨g,i,b⟩:=aX f;obtain⟨y,j,b⟩:=aJ b;cases fU j;cases sx g;exact⟨y,q,p,rfl,i,cN (aD b).1,(aD b).2⟩
theorem QO (b:Sd Κ Φ a):Sd Κ Φ (.enum a) where
 E:=λ_ _ _ _ _ h=>ff rfl h
 T:=λ_ _ _ _ _ h=>ff rfl h
 Q:=λ_ _ _ _ _ _ _ _ h=>ff rfl h
 A:=λ_ _ _ _ _ h=>ff rfl h
 O:=λ_ _ _ _ _ h=>ff rfl h
 W:=λc X r e j k d h=>by obtain⟨y,q,p,rfl,f,g,i⟩:=Ih h;obtain⟨_,_,_,rfl⟩:=C5 d;obtain⟨g1,g2,g3,l⟩:=k.blt f;exact PN g2 g1 g (b.E c X r _ k i)
 G:=λ_ _ _ _ _ h=>ff rfl h
theorem QP (b:pG c=0)(hn:∀a e,chkE a c e=Z6):Sd Κ Φ c:=Sd.x (λa X r e k h=>ff (hn a e) h) b
theorem all (c:C):Sd Κ Φ c:=by
 induction c with
 |var=>exact Qq
 |aM=>exact Qr
 |bl=>exact CV
 |int=>exact Qs
 |str=>exact Qt
 |bin _ _ _ a b=>exact Qu a b
 |neg _ a=>exact Qv a
 |cmp _ _ _ a b=>exact Qw a b
 |hD _ _ a=>exact Qx a
 |and _ _ a b=>exact Qy a b
 |or _ _ a b=>exact CW a b
 |not _ a=>exact Qz a
 |sZ _ _ _ d a b=>exact QB d a b
 |tup _ a=>exact QC a
 |lst _ a=>exact QD a
 |gL=>exact QE
 |ix _ _ a b=>exact CZ a b
 |sl _ _ _ a b d=>exact C1 a b d
 |call _ _ _ a=>exact QF a
 |bi _ _ a=>exact C3 a
 |agg _ _ a=>exact QG a
 |gZ _ _ a=>exact QH a
 |mt _ _ _ a b=>exact C4 a b
 |comp _ _ _ _ _ _ _ a b d=>exact QJ a b d
 |eF _ a=>exact QN a
 |enum _ a=>exact QO a
 |tv _ a=>exact CY a
 |tf=>exact QK
 |nil=>exact QL
 |cons _ _ a b=>exact QM a b
 |_=>exact QP rfl λ_ _=>rfl
end
section
variable (Κ:List D)(Φ:List Fn)
theorem zK:i5 (.ListComp el a s p) (Z9 (.Name t px)) n env=pure (env.blockKind==.function&&env.kindOf t==Z9 .local&&px.line==p.line&& !(s.names.any λ(n,k)=>n==t&&(k==.local||k==.cell))):=rfl
theorem Ii (hn:kL c=Z6)(h:chkE i c (.ListComp el j s p)=Z7):∃d e f g it a b,c=.comp d e f g it a b:=by cases c<;>first|exact ff rfl h|exact⟨_,_,_,_,_,_,_,rfl⟩|(cases hn;done)
theorem Ij (h:chkE a c (.SetComp el b s p)=Z7):False:=by cases c<;>exact ff rfl h
theorem Ik (h:chkE b c (.DictComp el a d s p)=Z7):False:=by cases c<;>exact ff rfl h
theorem C6 (k:Cok f Κ Φ X r)(J:kG f i x=Z7)(hn:kL c=Z6)(a:chkE f c v=Z7):PS X (.Assign [.Name x px] v pos) (tDS X.K λu=>aL Κ Φ c u>>=λx=>.ok (.nx (u.set i (Z9 (z1u x))))):=by
 obtain⟨h,w,j⟩:=k.loc J;have nd:X.N.Nodup:=k.hN▸k.nd;cases y:jM v with
 |false=>exact zo4 nd h w j (sX y _ _ _) ((all c).E f X r _ k a)
 |true=>
  cases v<;>first|(cases y;done)|skip
  .rename_i P R s p;cases g:(X.env.blockKind==.function&&X.env.kindOf x==Z9 .local&&px.line==p.line&& !(s.names.any λ(n,k)=>n==x&&(k==.local||k==.cell)))with
   |false=>exact zo4 nd h w j (by rw[zK,g]) ((all c).E f X r _ k a)
   |true=>
    obtain⟨S,T,U,V,it,b,l,rfl⟩:=Ii hn a;obtain⟨L,t,W,M,m,A,e,B,h0,C,F,G,I,hs,d⟩:=sC (all it) (all b) (all l) k a;cases e;have O:X.env.scope.names.lookup x=Z9 .local:=by simp at g;exact g.1.1.2
    exact PS.imp (zam (k.calm d) nd h O j.2 B C F G I (by rw[zK,g]) hs) λD o H q=>Ho (λo H Q z=>(zfo (pos:=p) (k.calm d) B h0 C F G I hs).2 o H Q z) D o H q
  .exact(Ij a).elim
  .exact(Ik a).elim
theorem QQ (k:Cok d Κ Φ X r)(hh:xj d c g e=Z7):PI X g e (tDF X.K (evF Κ Φ c))/\tF e=true:=by
 obtain⟨j,h⟩:=aD hh;have l:=(all c).W d X r e g k j h;cases c with
 |tv a=>
  have b:=PI.Hr (k:=λm=>kE Κ Φ (.tv a) m) (Cz ((all a).E d X r _ k (aD h).2)) (Hq l);refine⟨?_,(aD h).1⟩;cases a with
  |var i=>obtain⟨x,p,rfl,f⟩:=kN (aD h).2;obtain⟨n,o,s,t⟩:=k.aN f;exact PI.Hr (O3 n o s t) b
  |_=>exact b
 |enum a=>obtain⟨y,q,p,rfl,f,u,w⟩:=Ih h;obtain⟨_,_,_,rfl⟩:=C5 j;obtain⟨g1,g2,g3,A⟩:=k.blt f;exact⟨PQ g2 g1 u ((all a).E d X r _ k w),rfl⟩
 |eF a=>refine⟨Hq l,?_⟩;obtain⟨v,z,_⟩:=aJ h;obtain⟨_,_,rfl⟩:=i' z;rfl
 |_=>exact ff rfl h
theorem QR (h:isTup v=Z6):oq [.Tuple a b c] v env=pure none:=by cases v<;>first|rfl|(cases h;done)
theorem mV (h:uW s=Z9 v):∃p,s=.Assign v.1 v.2 p:=bQ (q:=λv=>∃p,s=.Assign v.1 v.2 p) h (by cases s<;>first|exact .inl rfl|exact .inr ⟨_,rfl,_,rfl⟩)
theorem pH (h:xl s=Z9 v):∃p,s=.Expr v p:=bQ (q:=λv=>∃p,s=.Expr v p) h (by cases s<;>first|exact .inl rfl|exact .inr ⟨_,rfl,_,rfl⟩)
theorem xK (h:BZ s=Z9 v):∃p,s=.Return v p:=bQ (q:=λv=>∃p,s=.Return v p) h (by cases s<;>first|exact .inl rfl|exact .inr ⟨_,rfl,_,rfl⟩)
theorem xM (h:B1 s=Z9 v):∃p,s=.If v.1 v.2.1 v.2.2 p:=bQ (q:=λv=>∃p,s=.If v.1 v.2.1 v.2.2 p) h (by cases s<;>first|exact .inl rfl|exact .inr ⟨_,rfl,_,rfl⟩)
theorem tN (h:zt s=Z9 v):∃p,s=.For v.1 v.2.1 v.2.2.1 v.2.2.2 p:=bQ (q:=λv=>∃p,s=.For v.1 v.2.1 v.2.2.1 v.2.2.2 p) h (by cases s<;>first|exact .inl rfl|exact .inr ⟨_,rfl,_,rfl⟩)
theorem xO (h:B2 s=Z9 v):∃p,s=.While v.1 v.2.1 v.2.2 p:=bQ (q:=λv=>∃p,s=.While v.1 v.2.1 v.2.2 p) h (by cases s<;>first|exact .inl rfl|exact .inr ⟨_,rfl,_,rfl⟩)
structure Ss (s:S):Prop where
 R:∀(Γ:Gm) (X:Cx) (r:Nat) (st:Stmt),Cok Γ Κ Φ X r->gc (model X.prog X.w) X.A X.env X.xe->tJ Γ s st=Z7->PS X st (tDS X.K (aQ Κ Φ s))
 L:∀(Γ:Gm) (X:Cx) (r:Nat) (st:List Stmt),Cok Γ Κ Φ X r->gc (model X.prog X.w) X.A X.env X.xe->chkL Γ s st=Z7->PSs X st (tDS X.K (aQ Κ Φ s))
def C7:S->Bool
 |.nil=>Z6
 |.seq _ _=>Z6
 |_=>Z7
variable {Κ:List D}{Φ:List Fn}
theorem Ss.x (h:∀Γ X r st,Cok Γ Κ Φ X r->gc (model X.prog X.w) X.A X.env X.xe->tJ Γ s st=Z7->PS X st (tDS X.K (aQ Κ Φ s)))(a:C7 s=Z7):Ss Κ Φ s:=⟨h,by cases s<;>first|(cases a;done)|exact λ_ _ _ _ _ _ h=>ff rfl h⟩
theorem QS:Ss Κ Φ (.asg t e):=Ss.x (λd X r st k w h=>by
 obtain⟨⟨z,v⟩,f,g⟩:=aJ h;obtain⟨p,rfl⟩:=mV f;obtain⟨x,j,l⟩:=aJ g;cases fU j;obtain⟨a,m,n,c⟩:=bL l;cases t with
 |nm i=>obtain⟨y,q,rfl,o⟩:=kN a;exact C6 Κ Φ k o (cN m) c
 |tp is=>obtain⟨s,u⟩:=aD n;obtain⟨es,b,_⟩:=aJ (aD a).2;obtain⟨_,_,rfl⟩:=zI b;exact zrq (vb k a) ((all e).E d X r _ k c) ((show oo [_] _ _ _=i5 _ _ _ _ from rfl).trans (sX (cN s) _ _ _)) (QR (cN u)) rfl) rfl
theorem zse:Ss Κ Φ (.mut m i args):=Ss.x (λd X r st k F h=>by obtain⟨c,e,f⟩:=aJ h;obtain⟨p,rfl⟩:=pH e;obtain⟨⟨x,n,es,b⟩,hm,g⟩:=aJ f;obtain⟨G,H,rfl,j⟩:=kM hm;obtain⟨h0,l,a⟩:=aX g;obtain⟨o,s,t,u,v⟩:=cV h0;obtain⟨z,q,rfl,w⟩:=kN o;obtain⟨y,es,rfl⟩:=pD l;cases sx s;have hm:=b9.mp t;simp at hm;obtain⟨B,C,D,E⟩:=k.aN w;subst hm;exact zhs B C D E ((all args).A d X r _ k a) (rD a) (sk v) (j.symm.trans u)) rfl
theorem QT:Ss Κ Φ (.drop e):=Ss.x (λa X r st k g h=>by obtain⟨v,b,c⟩:=aJ h;obtain⟨p,rfl⟩:=pH b;obtain⟨d,f⟩:=aD c;exact OY (cN d) ((all e).E a X r _ k f)) rfl
theorem QU:Ss Κ Φ (.ret e):=Ss.x (λb X r st k s h=>by
 obtain⟨o,c,d⟩:=aJ h;obtain⟨p,rfl⟩:=xK c;obtain⟨v,rfl,a⟩:=aJ d;have g:=(all e).E b X r _ k a;cases e with
 |var i=>obtain⟨x,q,rfl,f⟩:=kN a;obtain⟨j,l,m,n⟩:=k.aN f;exact zas j l m n
 |_=>exact OX g) rfl
theorem C8 (f:Ss Κ Φ a)(g:Ss Κ Φ b):Ss Κ Φ (.ifS c a b):=Ss.x (λd X r st k e h=>by obtain⟨v,i,j⟩:=aJ h;obtain⟨p,rfl⟩:=xM i;obtain⟨l,m,n⟩:=aX j;exact Cq ((all c).T d X r _ k l).1 (f.L d X r _ k e m) (g.L d X r _ k e n)) rfl
theorem QV (d:Ss Κ Φ b):Ss Κ Φ (.aV t it b):=Ss.x (λe X r st k c h=>by obtain⟨a,h⟩:=aD h;obtain⟨⟨t,i,B,o⟩,f,g⟩:=aJ h;obtain⟨p,rfl⟩:=tN f;obtain⟨j,l,m,n⟩:=bL g;cases fT n;obtain⟨hf,hn⟩:=QQ Κ Φ k l;exact zsc c (k.calm a) hf (vb k j) (d.L e X r _ k c m) (xJ hn _)) rfl
theorem tO (e:Ss Κ Φ b):Ss Κ Φ (.wh n c b):=Ss.x (λa X r st k d h=>by obtain⟨⟨t,B,o⟩,f,g⟩:=aJ h;obtain⟨p,rfl⟩:=xO f;obtain⟨i,j,l⟩:=aX g;cases fT l;exact O8 d ((all c).T a X r _ k i).1 (e.L a X r _ k d j)) rfl
theorem Cok.mQ {C:Addr}(k:Cok b Κ Φ X r)(nd:(b.N.set i "").Nodup)(hc:d.cls=.ref C)(hm:X.mg c=Z9 (.ref C)):Cok {b with N:=b.N.set i "",cm:=Z6,xc:=Z9 (n,c),fns:=[]} Κ Φ (Mi.mQ X i n a d) r where
 hN:=by show X.N.set i ""=b.N.set i "";rw[k.hN]
 hs:=k.hs
 nd:=nd
 fn:=k.fn
 kind:=k.kind
 free:=k.free
 fns:=λj f n e=>by simp at e
 cst:=k.cst
 mU:=λj f n e=>by simp at e
 room:=λz=>by cases z
 calm:=λz=>by cases z
 hu:=k.hu
 hT:=k.hT
 tL:=λz=>by cases z
 xc:=λg h z=>by cases z;exact⟨a,d,C,rfl,λ_ _ _ _ I=>(I.pin (a,d) (dt _ bg)).1,hc,hm⟩
 xk:=⟨k.xk.sub,k.xk.rs,k.xk.gP⟩
theorem C9 (e:B4 h=Z9 v):∃a b,h=.ExceptHandler (Z9 (.Name v.1 a)) (Z9 v.2.1) v.2.2 b:=by
 unfold B4 at e;split at e
 .obtain⟨x,c,rfl⟩:=a6.mp e;obtain⟨p,rfl⟩:=pE c;exact⟨_,_,rfl⟩
 .cases e
theorem xP (e:xm s=Z9 v):∃a b pos,s=.Raise (Z9 (.Call (.Name v.1 a) v.2 [] b)) Z8 pos:=by
 unfold xm at e;split at e
 .obtain⟨q,p,rfl⟩:=i' e;exact⟨_,_,_,rfl⟩
 .cases e
theorem QW (s:S):Ss Κ Φ s:=by
 induction s with
 |nil=>exact⟨λ_ _ _ _ _ _ h=>ff rfl h,λd X r st k f h=>by cases fT h;exact OU⟩
 |seq a b i c=>
  refine⟨λ_ _ _ _ _ _ h=>ff rfl h,λd X r st k f h=>?_⟩;cases st with
  |nil=>cases h
  |cons s st=>exact OV (i.R d X r _ k f (aD h).1) (c.L d X r _ k f (aD h).2)
 |bad=>
  refine Ss.x (λd X r st k f h=>?_) rfl
  rintro g s l H D I ⟨m,F,j,so,e,_⟩
  cases e
 |asg=>exact QS
 |iS=>
  refine Ss.x (λd X r st k f h=>?_) rfl
  rintro g s l H D I ⟨m,F,j,so,e,_⟩
  cases e
 | «mut»=>exact zse
 |drop=>exact QT
 |ret=>exact QU
 |ifS _ _ _ i c=>exact C8 i c
 |aV _ _ _ c=>exact QV c
 |wh _ _ _ c=>exact tO c
theorem sL (Κ:List D)(Φ:List Fn)(s:S):∀a X r st,Cok a Κ Φ X r->gc (model X.prog X.w) X.A X.env X.xe->chkL a s st=Z7->PSs X st (tDS X.K (aQ Κ Φ s)):=(QW s).L
end
section
variable (Κ:List D)(Φ:List Fn)
variable {Κ Φ}
theorem QX (h:B3 e=Z7):∃z k p,e=.Constant (.str z) k p:=by obtain⟨c,hc,h⟩:=aJ h;obtain⟨k,p,rfl⟩:=tK hc;cases c<;>first|(cases h;done)|exact⟨_,_,_,rfl⟩
end
section
variable {P:cu}{w:World}{K:Z5}{mg:Str->Option Value}{base:Heap}
structure Dok (Γ:Gm)(Κ:List D)(Φ:List Fn)(P:cu)(w:World)(K:Z5)(mg:Str->Option Value)(base:Heap)(k:Nat):Prop where
 free:∀x,Γ.free.contains x=Z7->mg x=Z8
 fns:∀(j:Nat) f n,Γ.fns[j]?=Z9 (f,n)->∃m k' ps,Φ[j]?=Z9 m/\k'<=k/\Cal P w K mg base k' f ps (spD K n m)
 cst:∀(j:Nat) x,Γ.cst[j]?=Z9 x->∃d a,Κ[j]?=Z9 d/\mg x=Z9 (.ref a)/\∀H B,B Z8->Rep K H B (.ref a) d
 mU:∀(j:Nat) f n,Γ.fns[j]?=Z9 (f,n)->∃m k' ps,Φ[j]?=Z9 m/\k'<=k/\mP P w K mg base k' f ps n m
 xk:rC Γ K mg
theorem QY (r:Reps K H A f b):StOk K ⟨H,λa=>H a=Z8\/A (Z9 a),λ_=>Z8,A Z8⟩ H (f.map Z9++bz (n-f.length) Z8) (b.map (λd=>Z9 (.od,d))++bz (n-b.length) Z8) where
 ext:=Same.refl H
 aN:=λa e=>.inl e
 own:=λa i e=>by cases e
 len:=by have:=r.length;simp;omega
 sl:=λi g d e=>by
  rw[ki]at e;split at e
  .rename_i j;rw[ao]at e;cases c:b[i]? with
   |none=>rw[c]at e;cases e
   |some m=>
    rw[c]at e;cases e;obtain⟨v,k,l⟩:=Reps.get r c;refine⟨v,?_,?_⟩
    .rw[ki,sf (by rw[ah,r.length];rw[ah]at j;exact j),ao,k];rfl
    .refine(Rep.there _ l).weak λa h=>?_;cases a with
     |none=>exact h.1
     |some a=>exact⟨λz=>h.2 z,.inr h.1⟩
  .rw[dh]at e;split at e<;>cases e
theorem d_fn {st:Stmt}(C:Fun K x x st f fd)(i:FnScope Γ.N ps (z0b st))(hs:Γ.sc=z0b st)(R:Γ.blk=Z6)(j:Γ.xc=Z8)(c:Dok Γ Κ Φ P w K mg base k)(D:chkL Γ s (z0j st)=Z7):
  FnOk P w K mg base lW (k+1) f fd ps (spD K ps.length (aR Κ Φ Γ.N.length s)):=by
 refine C.ok i (λF H Q E h=>h.choose_spec.choose_spec.choose_spec.1) λl A outer G H F Q E u m=>?_;obtain⟨B,y,r,S,rs,e,q⟩:=m;refine⟨_,sL Κ Φ s Γ (gY lW P w K mg base Γ.N x (z0b st) f l A outer G H E).vU k _ ⟨rfl,hs.symm,i.nd,λ_ _=>rfl,by rw[hs];exact i.kind,c.free,c.fns,c.cst,c.mU,λ_=>u,λ_=>rfl,u.units,λ_=>⟨rfl,rfl⟩,λ_ _ _ z=>(by cases z),λ_ _ z=>(by rw[j]at z;cases z),c.xk⟩ PassesOwn.never D,?_⟩;unfold aR at e;have so:=QY (n:=Γ.N.length) rs;generalize b:aQ Κ Φ s (y.map (λd=>Z9 (.od,d))++bz (Γ.N.length-y.length) Z8)=p at e
 match p,b,e with
 |.ok (.nx I),b,e=>cases e;refine⟨_,_,_,so,b,λJ t T L U fr=>q .aM t (λa o e=>(fr a o e rfl).1) rfl⟩
 |.ok (.rt g d),b,e=>
  cases e;refine⟨_,_,_,so,b,λv t M O=>q v t M (O.weak λa h=>?_)⟩;cases g with
  |fr=>cases a<;>exact h
  |nu=>cases a<;>exact h
  |od=>cases a with
   |none=>exact .inr h
   |some a=>exact h.elim .inl λz=>.inr z
  |al=>cases a with
   |none=>exact .inr h
   |some a=>exact h.elim .inl λz=>.inr z
 |.exc _,b,e=>cases e
 |.no,b,e=>cases e
theorem zvx {st:Stmt}(g:Fun K x x st f fd)(i:FnScope a.N ps (z0b st))(hs:a.sc=z0b st)(r:a.blk=Z6)(j:a.xc=Z8)(t:Dok a Κ Φ P w K mg base k)(hc:chkL a s (z0j st)=Z7):
  FnOk P w K mg base (CXE P w base) (k+1) f fd ps (HY K mg ps.length (aR Κ Φ a.N.length s)):=by
 obtain⟨oc,od,kV,l,u,an,m,ct,n,rfl,o,b⟩:=g.ex;refine zlf o b i (λp H Q E h=>h.choose_spec.choose_spec.choose_spec.1) λA outer v H p Q E hr d=>?_;obtain⟨B,y,c,z,rs,e,q⟩:=d;unfold aR at e;split at e<;>cases e
theorem QZ {ns:List Int}(h:SqL K H a (ns.map V.int)):Reps K H (λ_=>True) [.ref a] [.list (ns.map .int)]:=by
 refine⟨_,_,rfl,⟨a,ns.map V.int,rfl,?_,?_⟩,rfl⟩
 .rcases h with(h|h)|h
  .exact .inl ⟨h,trivial⟩
  .exact .inr ⟨.inl h,trivial⟩
  .exact .inr ⟨.inr h,trivial⟩
 .clear h
  induction ns with
  |nil=>rfl
  |cons n ns b=>exact⟨_,_,rfl,rfl,b⟩
end
abbrev hld (o:Obj):HO:=.fM o (.own 0)
def Hs (mg:Str->Option Value)(c:Str)(j:Nat)(σ:L2.St)(H:Hp):Prop:=∃a oe C,σ[j]?=Z9 (Z9 (.ref a))/\H a=Z9 (hld oe)/\oe.cls=.ref C/\mg c=Z9 (.ref C)
structure Gd where
 kf:Nat
 args:C
 c:Str
 i:Nat
 j:Nat
 g:Str
 r:Bool
structure XR where
 c:Str
 cs:List (Str×Bool)
 B:Str
def XR.subs (r:XR):List (Str×Str×Bool):=(r.c,"ValueError",Z7)::r.cs.map λy=>(r.c,y.1,y.2)
def zL (K:Z5)(A:Addr):List (Str×Bool)->Prop
 | []=>True
 |y::l=>(∃D dd cd sl,ZY K bo y.1=Z9 (Z9 (.ref D))/\K.lookup D=Z9 ⟨.type "type",dd,.cls cd,sl⟩/\ZX K (.ref A) (.ref D)=Z9 y.2)/\zL K A l
structure Kx (K:Z5)(r:XR)(A D:Addr):Prop where
 a:ZY K bo r.c=Z9 (Z9 (.ref A))
 l:∃dd cd sl,K.lookup A=Z9 ⟨.type "type",dd,.cls cd,sl⟩
 e:exV K A=Z7
 cl:Z4 K (.ref A) "__class__"=Z9 (Z9 (.builtin "object.__class__"))
 ga:Z4 K (.ref A) "__getattribute__"=Z9 (Z9 (.builtin "BaseException.__getattribute__"))
 gt:Z4 K (.ref A) "__getattr__"=Z9 Z8
 ob:ZX K (.ref A) (.type "object")=Z9 Z7
 be:ZX K (.ref A) (.type "BaseException")=Z9 Z7
 v:ZX K (.ref A) (.type "ValueError")=Z9 Z7
 b:ZY K bo r.B=Z9 (Z9 (.ref D))
 f:exV K D=Z7
 s:ZX K (.ref A) (.ref D)=Z9 Z7
 cs:zL K A r.cs
def kxs (K:Z5):List XR->Prop
 | []=>True
 |r::l=>(∃A D,Kx K r A D)/\kxs K l
theorem zM {K:Z5}:∀{l:List XR} {r:XR},kxs K l->r∈l->∃A D,Kx K r A D
 | [],_,_,z=>nomatch z
 |_::_,_,h,.head _=>h.1
 |_::_,_,h,.tail _ z=>zM h.2 z
theorem Il {K:Z5}:∀{l:List (Str×Bool)} {y:Str×Bool},zL K A l->y∈l->∃D a cd sl,ZY K bo y.1=Z9 (Z9 (.ref D))/\K.lookup D=Z9 ⟨.type "type",a,.cls cd,sl⟩/\ZX K (.ref A) (.ref D)=Z9 y.2
 | [],_,_,z=>nomatch z
 |_::_,_,h,.head _=>h.1
 |_::_,_,h,.tail _ z=>Il h.2 z
theorem zN {K:Z5}{D:Addr}(l:K.lookup D=Z9 ⟨.type "type",a,.cls cd,sl⟩):W.typeIn K (.ref D)=Z9 (.type "type")/\(W.clsIn K D).isSome=true:=by
 constructor
 .show(K.lookup D).map (·.cls)=_;rw[l];rfl
 .unfold W.clsIn;rw[l];rfl
theorem Q0 {K:Z5}(X:K.In h)(G:h.Ns bo mg)(g:kxs K d)(o:d≠[]->mg "ValueError"=Z8)(p:i.sub=(d.map XR.subs).flatten)(t:i.rs=d.map (·.c))(u:i.gP=d.map λr=>(r.c,r.B)):rC i K mg:=by
 refine⟨λc C b z=>?_,λc z=>?_,λc B z=>?_⟩
 .rw[p]at z;obtain⟨l,x,z⟩:=List.mem_flatten.mp (b9.mp z);obtain⟨r,hr,rfl⟩:=ce.mp x;obtain⟨A,D,k⟩:=zM g hr;obtain⟨M,cd,sl,j⟩:=k.l;have xa:XA K A:=⟨k.cl,k.ga,k.gt,k.ob,k.be,(zN j).1,(zN j).2,(zF k.e).1⟩;rcases bh.mp z with e|z
  .cases e;exact⟨A,.ty "ValueError",.type "ValueError",W.mg_of X G k.a,xa,XV.val,k.v,rfl,λw q=>q,.inr ⟨o (λq=>by rw[q]at hr;cases hr),by decide+kernel,by decide⟩⟩
  .obtain⟨y,E,e⟩:=ce.mp z;cases e;obtain⟨m,F,H,I,J,n,L⟩:=Il k.cs E;exact⟨A,.ref m,.ref m,W.mg_of X G k.a,xa,XV.own (zN n).1 (zN n).2,L,rfl,λw q=>q,.inl (W.mg_of X G J)⟩
 .rw[t]at z;obtain⟨r,hr,rfl⟩:=ce.mp (b9.mp z);obtain⟨A,D,k⟩:=zM g hr;exact⟨A,W.mg_of X G k.a,k.e⟩
 .rw[u]at z;obtain⟨r,hr,e⟩:=ce.mp (b9.mp z);cases e;obtain⟨A,D,k⟩:=zM g hr;exact⟨A,D,W.mg_of X G k.a,W.mg_of X G k.b,(zF k.e).1,(zF k.f).1,k.s⟩
inductive Kd where
 |n
 |e (c:Str) (r:Bool)
 |g (d:Gd) (je:Nat)
structure DRow where
 nm:Str
 st:Stmt
 N:List Str
 ps:List Str
 free:List Str
 fns:List Nat
 s:S
 F:Fn
 kd:Kd
 kc:List (Str×List Str):=[]
def cD (y:Str×List Str):D:=.tuple (y.2.map .str)
def sig (Rs:List DRow)(j:Nat):Str×Nat:=match Rs[j]? with
 |some c=>(c.nm,c.ps.length)
 |none=>("",0)
def fnAt (Rs:List DRow)(j:Nat):Fn:=match Rs[j]? with
 |some c=>c.F
 |none=>λ_=>.no
def DRow.G (Rs:List DRow)(xt:List XR)(r:DRow):Gm:={N:=r.N,sc:=z0b r.st,free:=r.free,fns:=r.fns.map (sig Rs),cst:=r.kc.map (·.1),sub:=(xt.map XR.subs).flatten,rs:=xt.map (·.c),gP:=xt.map λr=>(r.c,r.B)}
def Kd.tf:Kd->Bool
 |.e _ _=>Z7
 |_=>Z6
def nE (Rs:List DRow)(j:Nat):Bool:=match Rs[j]? with
 |some c=>!c.kd.tf
 |none=>Z7
def DRow.part (Rs:List DRow)(xt:List XR)(i:Nat)(r:DRow):Bool:=match r.kd with
 |.n=>chkL (r.G Rs xt) r.s (z0j r.st)
 |.e _ _=>Z6
 |.g _ _=>Z6
def DRow.ok (Rs:List DRow)(xt:List XR)(fr:List Str)(i:Nat)(r:DRow):Bool:=
 (decide ((z0b r.st).kind=.function)&& !(z0b r.st).isCoroutine&& !(z0b r.st).isGenerator&&decide r.N.Nodup&&decide (r.N.take r.ps.length=r.ps))&&
 (r.ps.all (λx=>(z0b r.st).names.lookup x==Z9 .local||(z0b r.st).names.lookup x==Z9 .cell)&&(z0b r.st).names.all (λy=>!(y.2==.free))&&r.free.all (λx=>fr.contains x)&&r.fns.all (λj=>decide (j<i)&&nE Rs j)&&r.part Rs xt i)
def ve (Rs:List DRow)(xt:List XR)(fr:List Str):Nat->List DRow->Bool
 |_,[]=>Z7
 |i,r::l=>r.ok Rs xt fr i&&ve Rs xt fr (i+1) l
def DRow.Dc (Rs:List DRow)(r:DRow):Prop:=match r.kd with
 |.n=>r.F=aR (r.kc.map cD) (r.fns.map (fnAt Rs)) r.N.length r.s
 |.e _ _=>True
 |.g _ _=>True
def pI (Rs:List DRow):List DRow->Prop
 | []=>True
 |r::l=>r.Dc Rs/\pI Rs l
theorem Dd:∀{l:List DRow} {k i:Nat} {r:DRow},ve a b fr k l=Z7->l[i]?=Z9 r->r.ok a b fr (k+i)=Z7
 | [],_,i,_,_,e=>by simp at e
 |r::l,k,0,_,h,e=>by cases e;exact(aD h).1
 |r::l,k,i+1,_,h,e=>by
  have:=Dd (aD h).2 e
  rwa [show k+(i+1)=k+1+i by omega]
theorem Im:∀{l:List DRow} {i:Nat} {r:DRow},pI a l->l[i]?=Z9 r->r.Dc a
 | [],i,_,_,e=>by simp at e
 |r::l,0,_,h,e=>by cases e;exact h.1
 |r::l,i+1,_,h,e=>Im h.2 e
section
variable {P:cu}{w:World}{K:Z5}{mg:Str->Option Value}{base:Heap}{Rs:List DRow}{xt:List XR}{fr:List Str}
theorem xQ {r:DRow}(h:r.ok Rs xt fr i=Z7):FnScope (r.G Rs xt).N r.ps (z0b r.st)/\(∀x,r.free.contains x=Z7->fr.contains x=Z7)/\(∀j∈r.fns,j<i/\nE Rs j=Z7)/\r.part Rs xt i=true:=by
 obtain⟨d,e⟩:=aD h;obtain⟨a1,a2,a3,a4,f⟩:=cV d;obtain⟨g,k,l,b,m⟩:=cV e;refine⟨⟨sk a1,cN a2,cN a3,sk a4,sk f,λx a=>?_,λy n z=>?_⟩,λx a=>?_,λj c=>⟨sk (aD (br.mp b j c)).1,(aD (br.mp b j c)).2⟩,m⟩
 .rcases fj.mp (br.mp g x a)with q|q
  .exact .inl (sx q)
  .exact .inr (sx q)
 .have :=cN (br.mp k y n);rw[z]at this;cases this
 .exact br.mp l x (b9.mp a)
def mW (P:cu)(w:World)(K:Z5)(mg:Str->Option Value)(base:Heap)(i:Nat)(r:DRow):Prop:=match r.kd with
 |.e _ _=>True
 |_=>Cal P w K mg base (i+1) r.nm r.ps (spD K r.ps.length r.F)/\mP P w K mg base (i+1) r.nm r.ps r.ps.length r.F
theorem xR (h:mW P w K mg base j c)(e:Rs[j]?=Z9 c)(n:nE Rs j=Z7):Cal P w K mg base (j+1) c.nm c.ps (spD K c.ps.length c.F)/\mP P w K mg base (j+1) c.nm c.ps c.ps.length c.F:=by
 unfold nE at n;rw[e]at n;have n:(!c.kd.tf)=true:=n;unfold mW at h;cases a:c.kd with
 |n=>rw[a]at h;exact h
 |g d f=>rw[a]at h;exact h
 |e x b=>rw[a]at n;cases n
def De (K:Z5)(mg:Str->Option Value)(y:Str×List Str):Prop:=∃a,mg y.1=Z9 (.ref a)/\∀H B,B Z8->Rep K H B (.ref a) (cD y)
theorem Q1 (hr:Rs[i]?=Z9 r)(h:r.ok Rs xt fr i=Z7)(T:∀x∈fr,mg x=Z8)(xk:∀Γ,Γ.sub=(xt.map XR.subs).flatten->Γ.rs=xt.map (·.c)->(Γ.gP=xt.map λr=>(r.c,r.B))->rC Γ K mg)(p:∀y∈r.kc,De K mg y)(m:∀j c,j<i->Rs[j]?=Z9 c->mW P w K mg base j c):Dok (r.G Rs xt) (r.kc.map cD) (r.fns.map (fnAt Rs)) P w K mg base i where
 free:=λx q=>T x (b9.mp ((xQ h).2.1 x q))
 fns:=λj f n e=>by
  have e:(r.fns.map (sig Rs))[j]?=Z9 (f,n):=e;rw[ao]at e;obtain⟨b,k,e⟩:=a6.mp e;obtain⟨d,g⟩:=(xQ h).2.2.1 b (ar k);have l:=(ay.mp hr).1;have hc:=ac (k9 d l);unfold sig at e;rw[hc]at e;cases e;refine⟨fnAt Rs b,b+1,Rs[b].ps,by rw[ao,k];rfl,d,?_⟩;have:fnAt Rs b=Rs[b].F:=by unfold fnAt;rw[hc]
  rw[this];exact(xR (m b _ d hc) hc g).1
 cst:=λj x e=>by have e:(r.kc.map (·.1))[j]?=Z9 x:=e;rw[ao]at e;obtain⟨y,o,rfl⟩:=a6.mp e;obtain⟨a,s,t⟩:=p y (ar o);exact⟨cD y,a,by rw[ao,o];rfl,s,t⟩
 mU:=λj f n e=>by
  have e:(r.fns.map (sig Rs))[j]?=Z9 (f,n):=e;rw[ao]at e;obtain⟨b,k,e⟩:=a6.mp e;obtain⟨d,g⟩:=(xQ h).2.2.1 b (ar k);have l:=(ay.mp hr).1;have hc:=ac (k9 d l);unfold sig at e;rw[hc]at e;cases e;refine⟨fnAt Rs b,b+1,Rs[b].ps,by rw[ao,k];rfl,d,?_⟩;have:fnAt Rs b=Rs[b].F:=by unfold fnAt;rw[hc]
  rw[this];exact(xR (m b _ d hc) hc g).2
 xk:=xk _ rfl rfl rfl
theorem Q3 (hok:ve Rs xt fr 0 Rs=Z7)(s:pI Rs Rs)(T:∀x∈fr,mg x=Z8)(xk:∀Γ,Γ.sub=(xt.map XR.subs).flatten->Γ.rs=xt.map (·.c)->(Γ.gP=xt.map λr=>(r.c,r.B))->rC Γ K mg)(n:Nat)(t:∀r∈Rs,∀y∈r.kc,De K mg y)(O:∀i r,i<n->Rs[i]?=Z9 r->Own K mg r.nm r.st r.ps):∀i r,i<n->Rs[i]?=Z9 r->mW P w K mg base i r:=by
 intro i
 induction i using Nat.strongRecOn with
 |ind i u=>
  intro r k hr
  have l:r.ok Rs xt fr i=true:=by
   have:=Dd hok hr
   rwa [Nat.zero_add]at this
  have D:=Q1 hr l T xk (t r (ar hr)) (λj c o hc=>u j o c (k9 o k) hc);obtain⟨p,v,_,a⟩:=xQ l;have hf:=Im s hr;obtain⟨f,fd,q,m,kp,b⟩:=O i r k hr;unfold DRow.Dc at hf;unfold DRow.part at a;unfold mW;cases h:r.kd with
  |n=>rw[h]at hf a;rw[hf];exact⟨⟨f,fd,d_fn (Γ:=r.G Rs xt) q p rfl rfl rfl D a,m,kp,b⟩,f,fd,zvx q p rfl rfl rfl D a,m,kp,b⟩
  |e c z=>rw[h]at a;cases a
  |g d A=>rw[h]at a;cases a
end
def Kf (K:Z5)(r:DRow)(f:Addr)(fd:d5):Prop:=ZY K bo r.nm=Z9 (Z9 (.ref f))/\∃(oc:Value) (od an:Option Addr) (sl:Array (Option Value)) (kV dc pm cd ct:Value),fd=Z0 r.nm r.nm (z0t r.st) (z0j r.st) (z0b r.st) .none kV dc pm an cd ct/\K.lookup f=Z9 ⟨oc,od,.func fd,sl⟩/\ZZ K cd r.nm=Z7/\Z2 K (.ref f)=Z7
def Df (r:DRow):Prop:=∀(kV doc pm:Value) (an:Option Addr) (oO ct:Value) (us:List Value),us.length=r.ps.length->nq (Z0 r.nm r.nm (z0t r.st) (z0j r.st) (z0b r.st) .none kV doc pm an oO ct) ⟨us,[]⟩=pure (r.ps.zip us)
theorem jz (h:b.length=n+1):∃a l,b=a::l/\l.length=n:=by
 cases b with
 |nil=>cases h
 |cons a l=>exact⟨a,l,rfl,Nat.succ.inj h⟩
theorem Dg {P:List Value->Prop}(h:∀a,P [a])(b:List Value)(z:b.length=1):P b:=by obtain⟨a,l,rfl,y⟩:=jz z;cases List.eq_nil_of_length_eq_zero y;exact h a
theorem dO {P:List Value->Prop}(h:∀a b,P [a,b])(c:List Value)(z:c.length=2):P c:=by obtain⟨a,l,rfl,y⟩:=jz z;exact Dg (P:=λl=>P (a::l)) (h a) l y
theorem pJ {P:List Value->Prop}(h:∀a b c,P [a,b,c])(d:List Value)(z:d.length=3):P d:=by obtain⟨a,l,rfl,y⟩:=jz z;exact dO (P:=λl=>P (a::l)) (h a) l y
theorem by4 {P:List Value->Prop}(h:∀a b c d,P [a,b,c,d])(e:List Value)(z:e.length=4):P e:=by obtain⟨a,l,rfl,y⟩:=jz z;exact pJ (P:=λl=>P (a::l)) (h a) l y
theorem zO {P:List Value->Prop}(h:∀a b c d e,P [a,b,c,d,e])(f:List Value)(z:f.length=5):P f:=by obtain⟨a,l,rfl,y⟩:=jz z;exact by4 (P:=λl=>P (a::l)) (h a) l y
theorem Io {P:List Value->Prop}(h:∀a b c d e f,P [a,b,c,d,e,f])(g:List Value)(z:g.length=6):P g:=by obtain⟨a,l,rfl,y⟩:=jz z;exact zO (P:=λl=>P (a::l)) (h a) l y
def kOks (K:Z5):List DRow->Prop
 | []=>True
 |r::l=>((∃f fd,Kf K r f fd)/\Df r)/\kOks K l
theorem Ip {K:Z5}:∀{l:List DRow} {i:Nat} {r:DRow},kOks K l->l[i]?=Z9 r->(∃f fd,Kf K r f fd)/\Df r
 | [],i,_,_,e=>by simp at e
 |r::l,0,_,h,e=>by cases e;exact h.1
 |r::l,i+1,_,h,e=>Ip h.2 e
def strOf:Value->Option Str
 |.str x _=>if ZV x then Z9 x else Z8
 |_=>Z8
def Iq (K:Z5)(y:Str×List Str):Bool:=match ZY K bo y.1 with
 |some (Z9 (.ref a))=>(match K.lookup a with
  |some ⟨.type "tuple",Z8,.seq eE _,_⟩=>decide (eE.toList.map strOf=y.2.map Z9)&&decide (y.2.length<=1000)
  |_=>Z6)
 |_=>Z6
def rE (K:Z5)(r:DRow):Option (d5×Bool):=match ZY K bo r.nm with
 |some (Z9 (.ref f))=>(match K.lookup f with
  |some ⟨_,_,.func fd,_⟩=>Z9 (fd,ZZ K fd.code r.nm&&Z2 K (.ref f))
  |_=>Z8)
 |_=>Z8
def Ir (r:DRow)(x:d5×Bool):d5×Bool:=(Z0 r.nm r.nm (z0t r.st) (z0j r.st) (z0b r.st) .none x.1.kwdefaults x.1.doc x.1.pyModule x.1.annotations x.1.code x.1.closureTuple,Z7)
def xS (K:Z5)(A:Addr):Bool:=match K.lookup A with
 |some ⟨.type "type",_,.cls _,_⟩=>Z7
 |_=>Z6
def Q4:List Value:=[.type "ValueError",.type "Exception",.type "BaseException",.type "object"]
def Dh (K:Z5)(r:XR):Option (Bool×Bool×Option (Option Value)×Option (Option Value)×Option (Option Value)×Option Bool×Option Bool×Option Bool×Bool×Option Bool×List (Bool×Option Bool)):=match ZY K bo r.c,ZY K bo r.B with
 |some (Z9 (.ref A)),Z9 (Z9 (.ref D))=>Z9 (xS K A,exV K A,Z4 K (.ref A) "__class__",Z4 K (.ref A) "__getattribute__",Z4 K (.ref A) "__getattr__",ZX K (.ref A) (.type "object"),ZX K (.ref A) (.type "BaseException"),ZX K (.ref A) (.type "ValueError"),exV K D,ZX K (.ref A) (.ref D),r.cs.map λy=>match ZY K bo y.1 with
  |some (Z9 (.ref E))=>(xS K E,ZX K (.ref A) (.ref E))
  |_=>(Z6,Z8))
 |_,_=>Z8
def Di (r:XR):Option (Bool×Bool×Option (Option Value)×Option (Option Value)×Option (Option Value)×Option Bool×Option Bool×Option Bool×Bool×Option Bool×List (Bool×Option Bool)):=Z9 (Z7,Z7,Z9 (Z9 (.builtin "object.__class__")),Z9 (Z9 (.builtin "BaseException.__getattribute__")),Z9 Z8,Z9 Z7,Z9 Z7,Z9 Z7,Z7,Z9 Z7,r.cs.map λy=>(Z7,Z9 y.2))
theorem Iu {K:Z5}(h:xS K A=Z7):∃a cd sl,K.lookup A=Z9 ⟨.type "type",a,.cls cd,sl⟩:=by
 unfold xS at h;split at h
 .rename_i a cd sl e;simp_all
 .cases h
theorem zd8 {K:Z5}:∀{l:List (Str×Bool)},(l.map fun y=>match ZY K bo y.1 with
  |some (Z9 (.ref E))=>(xS K E,ZX K (.ref A) (.ref E))
  |_=>(Z6,Z8))=(l.map λy=>(Z7,Z9 y.2))->zL K A l
 | [],_=>trivial
 |y::l,h=>by
  have h:=List.cons.inj h;refine⟨?_,zd8 h.2⟩;have e:=h.1
  dsimp only at e
  split at e
  .rename_i E a;have e:=sj e;obtain⟨b,cd,sl,q⟩:=Iu e.1;exact⟨E,b,cd,sl,a,q,e.2⟩
  .cases(sj e).1
theorem Q5 {K:Z5}(h:Dh K r=Di r):∃A D,Kx K r A D:=by
 unfold Dh Di at h;split at h
 .rename_i A D k l;have h:=sj (si h);have b:=sj h.2;have c:=sj b.2;have d:=sj c.2;have e:=sj d.2;have f:=sj e.2;have g:=sj f.2;have i:=sj g.2;have j:=sj i.2;have a:=sj j.2;exact⟨A,D,k,Iu h.1,b.1,c.1,d.1,e.1,f.1,g.1,i.1,l,j.1,a.1,zd8 a.2⟩
 .cases h
theorem Iv {K:Z5}:∀{l:List XR},(∀r∈l,∃A D,Kx K r A D)->kxs K l
 | [],_=>trivial
 |r::_,h=>⟨h r (.head _),Iv λr hr=>h r (.tail _ hr)⟩
def KEq (K:eu->Z5)(Rs:List DRow)(fr:List Str)(xt:List XR):Prop:=∀P,(Rs.map λr=>(rE (K P) r).isSome,Rs.map λr=>rE (K P) r,fr.map λn=>ZY (K P) bo n,xt.map λr=>Dh (K P) r,Rs.map λr=>r.kc.map λy=>Iq (K P) y)=(Rs.map λ_=>Z7,Rs.map λr=>(rE (K P) r).map (Ir r),fr.map λ_=>Z9 Z8,xt.map Di,Rs.map λr=>r.kc.map λ_=>Z7)
theorem KEq_r:KEq=KEq:=rfl
theorem Q6 {K:Z5}(h:(rE K r).isSome=Z7)(e:rE K r=(rE K r).map (Ir r)):∃f fd,Kf K r f fd:=by
 cases z:rE K r with
 |none=>rw[z]at h;cases h
 |some x=>
  rw[z]at e;have e:=si e;unfold rE at z;split at z
  .rename_i f hf;split at z
   .rename_i oc od fd sl c;have z:=si z;have d:=congrArg lg z;have a:=congrArg q9 z;rw[congrArg q9 e]at a;have b:=au.mp a;subst d;exact⟨f,x.1,hf,oc,od,x.1.annotations,sl,x.1.kwdefaults,x.1.doc,x.1.pyModule,x.1.code,x.1.closureTuple,congrArg lg e,c,b.1,b.2⟩
   .cases z
  .cases z
theorem zP {K:eu->Z5}(h:KEq K e fr g)(P:eu):(∀r∈e,∃f fd,Kf (K P) r f fd)/\(∀n∈fr,ZY (K P) bo n=Z9 Z8)/\kxs (K P) g/\∀r∈e,∀y∈r.kc,Iq (K P) y=true:=by have a:=sj (h P);have b:=sj a.2;have c:=sj b.2;have d:=sj c.2;exact⟨λr hr=>Q6 (c8.mp a.1 r hr) (c8.mp b.1 r hr),λn hn=>c8.mp c.1 n hn,Iv λr hr=>Q5 (c8.mp d.1 r hr),λr hr=>c8.mp (c8.mp d.2 r hr)⟩
def tP:List DRow->Prop
 | []=>True
 |r::l=>Df r/\tP l
theorem Iw {K:Z5}:∀{l:List DRow},(∀r∈l,∃f fd,Kf K r f fd)->tP l->kOks K l
 | [],_,_=>trivial
 |r::_,h,b=>⟨⟨h r (.head _),b.1⟩,Iw (λr hr=>h r (.tail _ hr)) b.2⟩
end Mi
name_quick tkeq for Mi.KEq by Mi.KEq_r
namespace Mk
open Mi
section
open PySem
abbrev P:=List (Str×Int)
def pr (p:Str×Int):D:=.tuple [.str p.1,.int p.2]
def pk (l:P):D:=.tuple (l.map pr)
def ep (p:Str×Int):D×D:=(.str p.1,.int p.2)
def en (l:P):bA:=l.map ep
def iK:P->Str->Option Int
 | [],_=>Z8
 |p::l,n=>if p.1=n then Z9 p.2 else iK l n
def look (l:P)(n:Str):Int:=(iK l n).getD 0
def ks (l:P):List Str:=l.map (·.1)
def put:P->Str->Int->P
 | [],n,v=>[(n,v)]
 |p::l,n,v=>if p.1=n then(p.1,v)::l else p::put l n v
theorem Q7 {b:Str}(h:a.cps.toList=b.cps.toList):a=b:=by cases a;cases b;simp at h;subst h;rfl
theorem Iy:∀{l:P},n∉ks l->iK l n=Z8
 | [],_=>rfl
 |p::l,h=>by simp only[ks,bn,bh,not_or]at h;rw[iK,sg (λe=>h.1 e.symm)];exact Iy h.2
theorem Dj:∀{l:P},iK l n=Z9 v->(n,v)∈l
 | [],h=>by cases h
 |p::l,h=>by
  rw[iK]at h;split at h
  .rename_i e;cases h;subst e;simp_all
  .exact a9 _ (Dj h)
theorem Iz:∀{l:P} {p:Str×Int},(ks l).Nodup->p∈l->iK l p.1=Z9 p.2
 |q::l,p,nd,h=>by
  rw[ks,bn,du]at nd;rw[iK];rcases(bh.mp h)with rfl|h
  .rw[sf rfl]
  .rw[sg λe:q.1=p.1=>nd.1 (ce.mpr ⟨p,h,e.symm⟩)];exact Iz nd.2 h
theorem Q8 (h:n∈ks l):∃v,iK l n=Z9 v:=by
 cases e:iK l n with
 |some v=>exact⟨v,rfl⟩
 |none=>
  exfalso
  induction l with
  |nil=>cases h
  |cons p l a=>
   rw[iK]at e;split at e
   .cases e
   .rename_i hn;rcases bh.mp h with h|h
    .exact hn h.symm
    .exact a h e
theorem zQ (a b:Str):eqK (.str a) (.str b)=decide (a=b):=by simp only[eqK]
theorem IA (a:Str):iH (.str a)=true:=by simp only[iH]
theorem IB (n:Str):∀l,z0f (en l) (.str n)=(iK l n).map .int
 | []=>rfl
 |p::l=>by
  have a:=IB n l;unfold z0f at a ⊢;rw[iK];show Option.map _ (match eqK (.str p.1) (.str n)with|true=>_|false=>_)=_;rw[zQ];by_cases h:p.1=n
  .rw[sf h];simp[h,ep]
  .rw[sg h];simp only[h,decide_false];exact a
theorem Dk (n:Str):∀l,((en l).any λe=>eqK e.1 (.str n))=Z7↔n∈ks l
 | []=>by simp[en,ks]
 |p::l=>by show(eqK (.str p.1) (.str n)||_)=Z7↔_;rw[zQ,kr,ks];have:=Dk n l;rw[en,ks]at this;rw[this];simp[eq_comm]
theorem IC:∀{l:P},(ks l).Nodup->n∈ks l->(en l).map (λe=>if eqK e.1 (.str n)then(e.1,.int v)else e)=en (put l n v)
 |p::l,nd,h=>by
  rw[ks,bn,du]at nd;rw[put];show(if eqK (.str p.1) (.str n)=Z7 then _ else _)::_=_;rw[zQ];by_cases e:p.1=n
  .have hn:∀q∈l,¬q.1=n:=λq a z=>nd.1 (ce.mpr ⟨q,a,z.trans e.symm⟩);rw[sf e,sf (by simpa using e)]
   congr 1
   rw[et];apply kx;intro q a;show(if eqK (.str q.1) (.str n)=Z7 then _ else _)=ep q;rw[zQ,sg (by simpa using hn q a)]
  .rw[sg e,sg (by simpa using e)]
   congr 1
   refine IC nd.2 ?_;rcases bh.mp h with h|h
   .exact(e h.symm).elim
   .exact h
theorem Dl:∀{l:P},n∉ks l->put l n v=l++[(n,v)]
 | [],_=>rfl
 |p::l,h=>by simp only[ks,bn,bh,not_or]at h;rw[put,sg λe=>h.1 e.symm,Dl h.2];rfl
theorem Q9 (nd:(ks l).Nodup):dput (en l) (.str n) (.int v)=en (put l n v):=by
 unfold dput;by_cases h:n∈ks l
 .rw[sf ((Dk n l).mpr h)];exact IC nd h
 .rw[sg λz=>h ((Dk n l).mp z),Dl h];simp[en,ep]
theorem ID:∀l a,(ks (a++l)).Nodup->iI (en a) (l.map pr)=Z9 (en (a++l))
 | [],a,_=>by simp[iI]
 |p::l,a,nd=>by
  have b:=nd;rw[ks,cq]at nd;have c:=λz=>by rw[gh]at nd;exact nd.2.2 _ z _ bg rfl
  show(if iH (.str p.1)then iI (dput (en a) (.str p.1) (.int p.2)) (l.map pr)else Z8)=_;rw[sf (IA _),Q9 (by rw[gh]at nd;exact nd.1),Dl c,ID l (a++[(p.1,p.2)]) (by rw[j0];exact b),j0];rfl
theorem Ra (nd:(ks l).Nodup):iI [] (l.map pr)=Z9 (en l):=by have:=ID l [] (by simpa using nd);simpa[en]using this
theorem Dm (l:P):cF (en l)=true:=by unfold cF;rw[br];intro e a;obtain⟨p,_,rfl⟩:=ce.mp a;rfl
theorem vf (p:Str×Int):imm (pr p)=true:=rfl
theorem IE (l:P):imms (l.map pr)=true:=wM.mpr λx a=>by obtain⟨p,_,rfl⟩:=ce.mp a;rfl
theorem gB (l:P):imm (pk l)=true:=IE l
theorem Rb (n:Nat)(p:Str×Int):shal (n+1) (pr p)=true:=by cases n<;>rfl
theorem IF (n:Nat)(l:P):shal (n+2) (pk l)=true:=by exact qM.mpr λx a=>by obtain⟨p,_,rfl⟩:=ce.mp a;exact Rb n p
theorem Rc (l:P):(l.map pr).all isP2=true:=by rw[br];intro x a;obtain⟨q,_,rfl⟩:=ce.mp a;rfl
abbrev d0:Str×Int:=(⟨#[]⟩,0)
def rG (l:P):P:=if l.length<2 then l else(runT (λi j=>sY (pr (l.getD i d0)) (pr (l.getD j d0))) (PySem.W.kas_sort l.length)).toList.map λi=>l.getD i d0
theorem Rf (l:P):nY (l.map pr)=(rG l).map pr:=by
 have e:∀i,(l.map pr).getD i dP=pr (l.getD i d0):=λi=>by rw[aa,aa,ao];cases l[i]?<;>rfl
 unfold nY rG;simp only[e,ah];split
 .rfl
 .rw[et];rfl
theorem Dp (h:l.length<4):(rG l).Perm l:=by
 unfold rG;split
 .exact .refl _
 .refine((GX (NT (by omega) h)).map _).trans (.of_eq (g9 λi=>?_));rw[ao];by_cases a:i<l.length
  .rw[ej a];show Z9 (l.getD i d0)=_;rw[aa,ac a];rfl
  .rw[dq (by grind),dq (by omega)];rfl
def Sd (l:P):Prop:=(ks l).Nodup
theorem Rg (nd:(ks l).Nodup)(h:l.length<4):Sd (rG l):=((Dp h).map _).nodup_iff.mpr nd
theorem Rh (h:Sd l):(ks l).Nodup:=h
structure PK (l:P):Prop where
 sd:Sd l
 pos:∀p∈l,0<p.2
theorem PK.nd (h:PK l):(ks l).Nodup:=Rh h.sd
theorem PK.pK (h:PK l)(n:Str):0<=look l n:=by
 unfold look;cases e:iK l n with
 |none=>exact Int.le_refl _
 |some v=>exact Int.le_of_lt (h.pos _ (Dj e))
theorem PK.hU (h:PK l)(a:p∈l):look l p.1=p.2:=by unfold look;rw[Iz h.nd a];rfl
end
section
open PySem
theorem IG:aQ Κ Φ (.seq p q) a=oT (aQ Κ Φ p a) (aQ Κ Φ q):=rfl
theorem Dq:aQ Κ Φ (.asg (.nm i) t) a=(aL Κ Φ t a>>=λx=>.ok (.nx (a.set i (Z9 (z1u x))))):=rfl
theorem Dr:aQ Κ Φ (.ifS c p q) a=(dN Κ Φ c a>>=λk=>if k then aQ Κ Φ p a else aQ Κ Φ q a):=rfl
theorem IH:aQ Κ Φ (.ret (.var i)) a=(match a[i]? with|some (Z9 (g,d))=>.ok (.rt (if imm d then .fr else jO g) d)|_=>.no):=rfl
theorem Ri:aQ Κ Φ (.mut m i a) ρ=(eC Κ Φ a ρ>>=λys=>match ρ[i]? with
 |some (Z9 (.fr,.list xs))=>mC m xs ys>>=λwR=>.ok (.nx ((ρ.set i (Z9 (.fr,.list wR))).map tm))
 |_=>.no):=rfl
theorem Rj:aQ Κ Φ (.aV d a p) e=(evF Κ Φ a e>>=λw=>dG (λx b=>fI d (gJ x w.1,x) b>>=λc=>aQ Κ Φ p c) w.2.1 w.2.2):=rfl
theorem Rk:dG f (x::b) c=(match f x c with
 |.ok (.nx a)=>dG f b a
 |.ok (.rt g d)=>.ok (.rt g d)
 |.exc e=>.exc e
 |.no=>.no):=rfl
theorem Rl:eC Κ Φ .nil a=.ok []:=rfl
theorem zR:eC Κ Φ (.cons a b) c=(aL Κ Φ a c>>=λx=>eC Κ Φ b c>>=λd=>.ok (x::d)):=rfl
theorem Ds:tx Κ Φ (.tv a) b=(aL Κ Φ a b>>=λx=>tw x.2):=rfl
theorem xT:BN Κ Φ (.tv a) ρ=(aL Κ Φ a ρ>>=λx=>z4w x.2>>=λp=>.ok (x.1,p)):=rfl
theorem Du:dN Κ Φ (.tv a) b=(aL Κ Φ a b>>=λx=>jN x.2):=rfl
theorem Rm:dN Κ Φ (.and a b) d=(dN Κ Φ a d>>=λc=>if c then dN Κ Φ b d else .ok Z6):=rfl
theorem Dv:dN Κ Φ (.or a b) d=(dN Κ Φ a d>>=λc=>if c then .ok Z7 else dN Κ Φ b d):=rfl
theorem Rn:dN Κ Φ (.not a) b=(dN Κ Φ a b>>=λc=>.ok (!c)):=rfl
theorem Dw:evW Κ Φ (.tv a) b=(aL Κ Φ a b>>=λx=>z4x x.2>>=λc=>.ok (x.1,c)):=rfl
theorem Ro:evW Κ Φ (.eF a) ρ=(eC Κ Φ a ρ>>=λys=>iV (ys.map (·.2))>>=λxs=>.ok (.fr,xs)):=rfl
theorem II:evF Κ Φ (.tv (.var i)) a=(if kB a i then zo i a else if kE Κ Φ (.tv (.var i)) a then aL Κ Φ (.var i) a>>=λx=>mD x a else qP Κ Φ (.tv (.var i)) a):=rfl
theorem gS (h:aQ Κ Φ a ρ=.ok (.nx c))(k:aQ Κ Φ b c=r):aQ Κ Φ (.seq a b) ρ=r:=by rw[IG,h];exact k
theorem cB (h:aQ Κ Φ a ρ=.ok (.rt g d)):aQ Κ Φ (.seq a b) ρ=.ok (.rt g d):=by rw[IG,h];rfl
theorem eK (h:aQ Κ Φ s (a.map (λd=>Z9 (.od,d))++bz (n-a.length) Z8)=.ok (.rt g d)):aR Κ Φ n s a=.ok (g,d):=by unfold aR;rw[h]
theorem IJ {k:Type}{m:k->D}(I:List k->Rho->Prop):∀g pre a,(∀b x c a,pre++g=b++x::c->I b a->∃d,f (m x) a=.ok (.nx d)/\I (b++[x]) d)->I pre a->∃d,dG f (g.map m) a=.ok (.nx d)/\I (pre++g) d
 | [],pre,a,_,h=>⟨a,rfl,by rw[eo];exact h⟩
 |x::g,pre,a,hf,h=>by
  obtain⟨i,e,n⟩:=hf pre x g a rfl h;have l:pre++[x]++g=pre++x::g:=by rw[j0];rfl
  obtain⟨j,o,p⟩:=IJ I g (pre++[x]) i (λb y c a q=>hf b y c a (l▸q)) n;exact⟨j,by rw[bn,Rk,e];exact o,l▸p⟩
theorem IK {b:Type}{m:b->D}(g:b->Option D):∀(a:List b),(∀x∈a,f (m x)=.ok ((g x).map λd=>(.fr,d)))->kA f (a.map m)=.ok ((a.filterMap g).map λd=>(.fr,d))
 | [],_=>rfl
 |x::a,h=>by
  rw[bn,kA,h x bg,IK g a λy c=>h y (a9 _ c)];cases e:g x with
  |none=>rw[ly e];rfl
  |some d=>rw[l0 e];rfl
theorem Rp (a:List D):qN (a.map λd=>(G.fr,d))=.fr:=by unfold qN;rw[sf];rw[qk];exact br.mpr λ_ _=>rfl
theorem Rq (a:List D):cE (a.map λd=>(G.fr,d))=.fr:=by unfold cE;rw[sf];rw[br];intro x b;obtain⟨d,_,rfl⟩:=ce.mp b;rfl
theorem Dx (a:List D):(a.map λd=>(G.fr,d)).map (λx=>x.2)=a:=by rw[et];exact List.map_id _
theorem Rr (a b:Int):j' "min" [.int a,.int b]=.ok (.int (min a b)):=rfl
theorem Rt (l:P)(n:Str)(v:Int):mtD "get" (.dict (en l)) [.str n,.int v]=.ok (.int ((iK l n).getD v)):=by have:mtD "get" (.dict (en l)) [.str n,.int v]=.ok ((z0f (en l) (.str n)).getD (.int v)):=rfl;rw[this,IB];cases iK l n<;>rfl
theorem Dy (l:P)(n:Str):mtD "get" (.dict (en l)) [.str n,.int 0]=.ok (.int (look l n)):=Rt l n 0
theorem Dz (b:Bool)(nd:(ks l).Nodup):aggD "dict" b (l.map pr)=.ok (.dict (en l)):=by show Res.dE ((iI [] (l.map pr)).map PyData.dict)=_;rw[Ra nd];rfl
def chr (z:Str)(i:Int):Str:=⟨#[z.cps.toList.getD i.toNat 0]⟩
theorem Ru (a b:Str):(a++b).length=a.length+b.length:=by show Array.size (a.cps++b.cps)=_;rw[Array.size_append];rfl
theorem zS {b:Type}(a:List b)(i:Int)(d:b)(h0:0<=i)(c:i<a.length):bM a i=Z9 (a.getD i.toNat d):=by
 unfold bM fG;rw[sf h0,sf c];show a[i.toNat]?=_;have:i.toNat<a.length:=by omega
 rw[aa,ac this];rfl
theorem Bm (h0:0<=i)(a:i<z.length)(b:z.length<=1000):dC (.str z) (.int i)=.ok (.str (chr z i)):=by show(if z.length<=bC then Res.dE ((bM z.cps.toList i).map λc=>ZU ⟨#[c]⟩)else .no)=_;rw[sf (by unfold bC;omega),zS _ i 0 h0 (ky▸a)];rfl
theorem tQ {ns:List Str}{i:Int}(h0:0<=i)(a:i<ns.length):dC (.list (ns.map .str)) (.int i)=.ok (.str (ns.getD i.toNat ⟨#[]⟩)):=by
 show Res.dE (bM (ns.map ZU) i)=_;rw[zS _ i (.str ⟨#[]⟩) h0 (by rw[ah];exact a)]
 congr 1
 have:i.toNat<ns.length:=by omega
 rw[aa,aa,ao,ac this];rfl
theorem DA {ns:List Int}{i:Int}(h0:0<=i)(a:i<ns.length):dC (.list (ns.map .int)) (.int i)=.ok (.int (ns.getD i.toNat 0)):=by
 show Res.dE (bM (ns.map ZS) i)=_;rw[zS _ i (.int 0) h0 (by rw[ah];exact a)]
 congr 1
 have:i.toNat<ns.length:=by omega
 rw[aa,aa,ao,ac this];rfl
theorem getD_mem {a:Type}{ns:List a}{i:Int}{d:a}(h0:0<=i)(b:i<ns.length):ns.getD i.toNat d∈ns:=by grind
theorem add_str (h:a.length+b.length<=1000):dF .Add (.str a) (.str b)=.ok (.str (a++b)):=by show(if _ then _ else _)=_;rw[sf (by unfold bC;omega)]
theorem add_list (h:a.length+b.length<=1000):dF .Add (.list a) (.list b)=.ok (.list (a++b)):=by show(if _ then _ else _)=_;rw[sf (by unfold bC;omega)]
theorem xU (h:-(2 ^ 64)<b/\b<2 ^ 64):dF .Mult (.int a) (.int b)=.ok (.int (a*b)):=by show(if _ then _ else _)=_;rw[sf (.inr h)]
theorem DB (h:-(2 ^ 64)<a/\a<2 ^ 64):dF .Mult (.int a) (.int b)=.ok (.int (a*b)):=by show(if _ then _ else _)=_;rw[sf (.inl h)]
theorem fC (h:0<b):dF .Mod (.int a) (.int b)=.ok (.int (a%b)):=by show(if _ then _ else _)=_;rw[sf h]
theorem Rv:dF .Pow (.int 10) (.int 30)=.ok (.int 1000000000000000000000000000000):=rfl
theorem tR (h0:0<=n)(a:n<=1000):iV [.int n]=.ok ((cc n.toNat).map λ(i:Nat)=>.int i):=by show(if _ then _ else _)=_;rw[sf (by unfold bC;omega)]
theorem zi (h:z.length<=1000):nZ (.str z) i j=.ok (.str (lD z i j)):=by show(if _ then _ else _)=_;rw[sf (by unfold bC;omega)]
theorem IL (z:Str)(i j:Option Int):(lD z i j).length<=z.length:=by show(i9 (cut z.cps.toList i j)).size<=z.cps.size;unfold cut;rw[cy,d7,List.length_drop,ky];omega
theorem IM:∀ns,hG (ns.map .str)=Z9 ns
 | []=>rfl
 |n::ns=>by rw[bn,hG,IM ns];rfl
theorem Rw:∀a,(∀s∈a,s.length=1)->(qO "" a).length=a.length
 | [],_=>rfl
 |x::r,h=>by
  show(i9 (x.cps.toList++(r.map λp=>([]:List Nat)++p.cps.toList).flatten)).size=_
  have b:∀(r:List Str),(∀s∈r,s.length=1)->((r.map λp=>([]:List Nat)++p.cps.toList).flatten).length=r.length:=by
   intro r
   induction r with
   |nil=>intro _;rfl
   |cons y r c=>intro h;rw[bn,List.flatten_cons,ax,c λs hs=>h s (a9 _ hs)];have:(([]:List Nat)++y.cps.toList).length=1:=h y bg;rw[bc];omega
  rw[cy,ax,b r λs hs=>h s (a9 _ hs)];have:x.cps.toList.length=1:=h x bg;rw[bc];omega
theorem Rx (h:∀s∈a,s.length=1)(d:a.length<=1000):mtD "join" (.str "") [.list (a.map .str)]=.ok (.str (qO "" a)):=by
 have:mtD "join" (.str "") [.list (a.map .str)]=(match hG (a.map .str)with|some a=>if BM "" a<=bC then .ok (.str (qO "" a))else .no|none=>.no):=rfl;rw[this,IM]
 dsimp only
 rw[sf];unfold BM;have h0:("":Str).length=0:=rfl
 have b:∀(r:List Str),(∀s∈r,s.length=1)->(r.map (·.length)).sum=r.length:=by
  intro r
  induction r with
  |nil=>intro _;rfl
  |cons y r c=>intro h;rw[bn,List.sum_cons,h y bg,c λs hs=>h s (a9 _ hs),bc];omega
 rw[b a h,h0];unfold bC;omega
theorem xV (a b:Int):eQ (.int a) (.int b)=decide (a=b):=by rfl
theorem pL:aL Κ Φ (.var i) ρ=(wO ρ[i]?):=rfl
theorem Ry:aL Κ Φ (.aM) a=(.ok (.fr,.none)):=rfl
theorem DC:aL Κ Φ (.bl b) a=(.ok (.fr,.bool b)):=rfl
theorem RA:aL Κ Φ (.int i) a=(.ok (.fr,.int i)):=rfl
theorem RB:aL Κ Φ (.str x) a=(.ok (.fr,.str x)):=rfl
theorem IP:aL Κ Φ (.bin e a b) c=(aL Κ Φ a c>>=λx=>aL Κ Φ b c>>=λy=>dF e x.2 y.2>>=λd=>.ok (gN d (cE [x,y]),d)):=rfl
theorem RC:aL Κ Φ (.cmp op a b) ρ=(aL Κ Φ a ρ>>=λx=>aL Κ Φ b ρ>>=λy=>cmpD op x.2 y.2>>=λb=>.ok (.fr,.bool b)):=rfl
theorem RD:aL Κ Φ (.hD b a) c=(aL Κ Φ a c>>=λx=>.ok (.fr,.bool (match x.2 with|.none=>!b|_=>b))):=rfl
theorem RE:aL Κ Φ (.and a b) d=(aL Κ Φ a d>>=λx=>match x.2 with|.bool c=>if c then aL Κ Φ b d else .ok (.fr,.bool Z6)|_=>.no):=rfl
theorem IQ:aL Κ Φ (.sZ c a b) d=(dN Κ Φ c d>>=λk=>if k then aL Κ Φ a d else aL Κ Φ b d):=rfl
theorem IS:aL Κ Φ (.tup b) c=(eC Κ Φ b c>>=λa=>.ok (gJ (.tuple (a.map (·.2))) (cE a),.tuple (a.map (·.2)))):=rfl
theorem RF:aL Κ Φ (.lst xs) ρ=(eC Κ Φ xs ρ>>=λys=>.ok (cE ys,.list (ys.map (·.2)))):=rfl
theorem xW:aL Κ Φ (.ix a b) c=(aL Κ Φ a c>>=λx=>aL Κ Φ b c>>=λy=>dC x.2 y.2>>=λd=>.ok (gJ d x.1,d)):=rfl
theorem xX:aL Κ Φ (.sl a c e) b=(aL Κ Φ a b>>=λx=>tx Κ Φ c b>>=λl=>tx Κ Φ e b>>=λh=>nZ x.2 l h>>=λd=>.ok (gN d (cE [x]),d)):=rfl
theorem IT:aL Κ Φ (.call k c args) a=(eC Κ Φ args a>>=λb=>match Φ[k]? with|some m=>m (b.map (·.2))>>=λr=>.ok (gJ r.2 (jO r.1),r.2)|none=>.no):=rfl
theorem DD:aL Κ Φ (.bi f args) a=(eC Κ Φ args a>>=λb=>j' f (b.map (·.2))>>=λd=>.ok (gJ d .al,d)):=rfl
theorem IU:aL Κ Φ (.agg f a) b=(BN Κ Φ a b>>=λw=>aggD f w.2.1 w.2.2>>=λd=>.ok (gJ d (if imms w.2.2 then .fr else agG w.1),d)):=rfl
theorem RG:aL Κ Φ (.gZ a ts) ρ=(aL Κ Φ a ρ>>=λx=>.ok (.fr,.bool (ts.any λT=>iU (gO x.2) T))):=rfl
theorem DE:aL Κ Φ (.mt m o args) a=(aL Κ Φ o a>>=λx=>eC Κ Φ args a>>=λb=>mtD m x.2 (b.map (·.2))>>=λd=>.ok (gJ d .al,d)):=rfl
theorem RH {a:C}:aL Κ Φ (.comp f g i h it a c) d=(evW Κ Φ it d>>=λw=>kA (λx=>fI h (gJ x w.1,x) (bz f Z8++g.map λj=>iT (d.getD j Z8))>>=λb=>dN Κ Φ a b>>=λk=>if k then aL Κ Φ c b>>=λy=>.ok (Z9 y)else .ok Z8) w.2>>=λe=>.ok (qN e,.list (e.map (·.2)))):=rfl
def Ev (Κ:List D)(Φ:List Fn)(c:C)(ρ:Rho)(d:D):Prop:=∃g,aL Κ Φ c ρ=.ok (g,d)
def Vv (Κ:List D)(Φ:List Fn)(c:C)(ρ:Rho)(d:D):Prop:=aL Κ Φ c ρ=.ok (.fr,d)/\imm d=Z7
def Aa (Κ:List D)(Φ:List Fn)(c:C)(ρ:Rho)(ds:List D):Prop:=∃ys,eC Κ Φ c ρ=.ok ys/\ys.map (·.2)=ds
def Av (Κ:List D)(Φ:List Fn)(c:C)(ρ:Rho)(ds:List D):Prop:=eC Κ Φ c ρ=.ok (ds.map λd=>(.fr,d))/\imms ds=Z7
def Tt (Κ:List D)(Φ:List Fn)(c:C)(ρ:Rho)(k:Bool):Prop:=dN Κ Φ c ρ=.ok k
theorem Vv.e (h:Vv Κ Φ c ρ d):Ev Κ Φ c ρ d:=⟨_,h.1⟩
theorem Ev.of (h:aL Κ Φ c ρ=.ok (g,d)):Ev Κ Φ c ρ d:=⟨_,h⟩
theorem aC (h:ρ[i]?=Z9 (Z9 (g,d))):Ev Κ Φ (.var i) ρ d:=⟨_,by rw[pL];rw[h];rfl⟩
theorem v_var (h:ρ[i]?=Z9 (Z9 (g,d)))(a:imm d=Z7):Vv Κ Φ (.var i) ρ d:=⟨by rw[pL];rw[h];show Res.ok (if imm d=Z7 then _ else _,d)=_;rw[sf a],a⟩
theorem aH:Vv Κ Φ (.int i) ρ (.int i):=⟨by rw[RA],rfl⟩
theorem eS:Vv Κ Φ (.str i) ρ (.str i):=⟨by rw[RB],rfl⟩
theorem jA:Vv Κ Φ (.bl i) ρ (.bool i):=⟨by rw[DC],rfl⟩
theorem DF:Vv Κ Φ .aM a .none:=⟨by rw[Ry],rfl⟩
theorem mX (a:imm d=Z7):gJ d g=.fr:=by unfold gJ;rw[sf a]
theorem IV (a:imm d=Z7):gN d g=.fr:=by cases d<;>first|exact mX a|cases a
theorem bJ (ha:Ev Κ Φ a ρ x)(hb:Ev Κ Φ b ρ y)(h:dF op x y=.ok d)(hi:imm d=Z7):Vv Κ Φ (.bin op a b) ρ d:=by obtain⟨g1,ha⟩:=ha;obtain⟨g2,hb⟩:=hb;refine⟨?_,hi⟩;rw[IP];rw[ha,Res.aB,hb,Res.aB];dsimp only;rw[h,Res.aB,IV hi]
theorem DG (c:Ev Κ Φ a f x)(d:Ev Κ Φ b f y)(h:dF g x y=.ok (.list e))(i:imms e=Z7):aL Κ Φ (.bin g a b) f=.ok (.fr,.list e):=by obtain⟨g1,c⟩:=c;obtain⟨g2,d⟩:=d;rw[IP];rw[c,Res.aB,d,Res.aB];dsimp only;rw[h];show Res.ok (if imms e=Z7 then _ else _,_)=_;rw[sf i]
theorem dQ (c:Ev Κ Φ a ρ x)(d:Ev Κ Φ b ρ y)(h:cmpD e x y=.ok k):Vv Κ Φ (.cmp e a b) ρ (.bool k):=by obtain⟨g1,c⟩:=c;obtain⟨g2,d⟩:=d;refine⟨?_,rfl⟩;rw[RC];rw[c,Res.aB,d,Res.aB];dsimp only;rw[h];rfl
def DH:D->Bool
 |.none=>Z7
 |_=>Z6
theorem DI (b:Ev Κ Φ a d x):Vv Κ Φ (.hD c a) d (.bool (if DH x then !c else c)):=by obtain⟨g1,b⟩:=b;refine⟨?_,rfl⟩;rw[RD];rw[b];cases x<;>rfl
theorem v_and (c:Ev Κ Φ a d (.bool k))(e:k=Z7->Vv Κ Φ b d (.bool f)):Vv Κ Φ (.and a b) d (.bool (k&&f)):=by
 obtain⟨g1,c⟩:=c;refine⟨?_,rfl⟩;rw[RE];rw[c];cases k with
 |true=>exact(e rfl).1
 |false=>rfl
theorem IW (hc:Tt Κ Φ c d k)(e:k=Z7->Vv Κ Φ a d x)(f:k=Z6->Vv Κ Φ b d y):Vv Κ Φ (.sZ c a b) d (if k then x else y):=by
 cases k with
 |true=>exact⟨by rw[IQ];rw[hc];exact(e rfl).1,(e rfl).2⟩
 |false=>exact⟨by rw[IQ];rw[hc];exact(f rfl).1,(f rfl).2⟩
theorem eN:Av Κ Φ .nil ρ []:=⟨rfl,rfl⟩
theorem bD (c:Vv Κ Φ a ρ x)(d:Av Κ Φ b ρ e):Av Κ Φ (.cons a b) ρ (x::e):=⟨by rw[zR,c.1,Res.aB,d.1];rfl,by show(imm x&&imms e)=Z7;rw[c.2,d.2];rfl⟩
theorem aY:Aa Κ Φ .nil ρ []:=⟨[],rfl,rfl⟩
theorem aG (c:Ev Κ Φ a ρ x)(d:Aa Κ Φ b ρ f):Aa Κ Φ (.cons a b) ρ (x::f):=by obtain⟨g1,c⟩:=c;obtain⟨g,d,e⟩:=d;exact⟨_,by rw[zR,c,d];rfl,by rw[bn,e]⟩
theorem jB (h:Av Κ Φ args ρ ds):Vv Κ Φ (.tup args) ρ (.tuple ds):=by refine⟨?_,h.2⟩;rw[IS];rw[h.1,Res.aB,Dx,mX (d:=.tuple ds) h.2]
theorem RI (h:Aa Κ Φ args a b):Ev Κ Φ (.tup args) a (.tuple b):=by obtain⟨c,h,e⟩:=h;exact⟨_,by rw[IS];rw[h,Res.aB,e]⟩
theorem mY (h:Av Κ Φ args ρ a):aL Κ Φ (.lst args) ρ=.ok (.fr,.list a):=by rw[RF];rw[h.1,Res.aB,Dx,Rq]
theorem aO (c:Ev Κ Φ a ρ x)(e:Ev Κ Φ b ρ y)(h:dC x y=.ok d)(f:imm d=Z7):Vv Κ Φ (.ix a b) ρ d:=by obtain⟨g1,c⟩:=c;obtain⟨g2,e⟩:=e;refine⟨?_,f⟩;rw[xW];rw[c,Res.aB,e,Res.aB];dsimp only;rw[h,Res.aB,mX f]
def Oo (Κ:List D)(Φ:List Fn)(c:C)(ρ:Rho)(i:Option Int):Prop:=tx Κ Φ c ρ=.ok i
theorem qW:Oo Κ Φ .nil a none:=rfl
theorem lF (h:Ev Κ Φ a ρ (.int i)):Oo Κ Φ (.tv a) ρ (Z9 i):=by obtain⟨g1,h⟩:=h;unfold Oo;rw[Ds,h];rfl
theorem xY (e:Ev Κ Φ a f x)(g:Oo Κ Φ b f i)(hc:Oo Κ Φ c f j)(h:nZ x i j=.ok d)(k:imm d=Z7):Vv Κ Φ (.sl a b c) f d:=by obtain⟨g1,e⟩:=e;unfold Oo at g hc;refine⟨?_,k⟩;rw[xX];rw[e,Res.aB,g,Res.aB,hc,Res.aB];dsimp only;rw[h,Res.aB,IV k]
theorem cR (a:Aa Κ Φ args ρ c)(hf:Φ[n]?=Z9 m)(h:m c=.ok (g,d))(b:imm d=Z7):Vv Κ Φ (.call n f args) ρ d:=by obtain⟨i,a,e⟩:=a;refine⟨?_,b⟩;rw[IT];rw[a,Res.aB,hf];dsimp only;rw[e,h,Res.aB,mX b]
theorem oE (a:Aa Κ Φ args ρ b)(hf:Φ[n]?=Z9 m)(h:m b=.ok (g,d)):Ev Κ Φ (.call n f args) ρ d:=by obtain⟨c,a,e⟩:=a;exact⟨_,by rw[IT];rw[a,Res.aB,hf];dsimp only;rw[e,h,Res.aB]⟩
theorem cO (a:Aa Κ Φ args ρ c)(h:j' f c=.ok d)(b:imm d=Z7):Vv Κ Φ (.bi f args) ρ d:=by obtain⟨g,a,e⟩:=a;refine⟨?_,b⟩;rw[DD];rw[a,Res.aB,e,h,Res.aB,mX b]
theorem IX (ha:Ev Κ Φ a ρ x)(hw:z4w x=.ok w)(h:aggD f w.1 w.2=.ok d)(hi:imm d=Z7):Vv Κ Φ (.agg f (.tv a)) ρ d:=by obtain⟨g1,ha⟩:=ha;refine⟨?_,hi⟩;rw[IU];rw[xT,ha,Res.aB];dsimp only;rw[hw];simp only[Res.aB];rw[h,Res.aB,mX hi]
theorem vg (b:Ev Κ Φ a ρ x)(c:z4w x=.ok w)(h:aggD f w.1 w.2=.ok d)(e:imms w.2=Z7):aL Κ Φ (.agg f (.tv a)) ρ=.ok (.fr,d):=by obtain⟨g1,b⟩:=b;rw[IU];rw[xT,b,Res.aB];dsimp only;rw[c];simp only[Res.aB];rw[h,Res.aB];unfold gJ;split<;>rfl
theorem RJ (b:Ev Κ Φ a c x):Vv Κ Φ (.gZ a d) c (.bool (d.any λT=>iU (gO x) T)):=by obtain⟨g1,b⟩:=b;refine⟨?_,rfl⟩;rw[RG];rw[b];rfl
theorem pM (a:Ev Κ Φ o ρ x)(b:Aa Κ Φ args ρ f)(h:mtD m x f=.ok d)(c:imm d=Z7):Vv Κ Φ (.mt m o args) ρ d:=by obtain⟨g1,a⟩:=a;obtain⟨g,b,e⟩:=b;refine⟨?_,c⟩;rw[DE];rw[a,Res.aB,b,Res.aB,e];dsimp only;rw[h,Res.aB,mX c]
theorem aP (h:Ev Κ Φ a ρ x)(b:jN x=.ok k):Tt Κ Φ (.tv a) ρ k:=by obtain⟨g1,h⟩:=h;unfold Tt;rw[Du,h];exact b
theorem tS (ha:Tt Κ Φ a ρ k)(hb:k=Z7->Tt Κ Φ b ρ k'):Tt Κ Φ (.and a b) ρ (k&&k'):=by
 unfold Tt at *
 rw[Rm,ha];cases k with
 |true=>exact hb rfl
 |false=>rfl
theorem jC (ha:Tt Κ Φ a ρ k)(hb:k=Z6->Tt Κ Φ b ρ k'):Tt Κ Φ (.or a b) ρ (k||k'):=by
 unfold Tt at *
 rw[Dv,ha];cases k with
 |false=>exact hb rfl
 |true=>rfl
theorem mH (ha:Tt Κ Φ a ρ k):Tt Κ Φ (.not a) ρ (!k):=by
 unfold Tt at *
 rw[Rn,ha];rfl
theorem z2h {b:Type}{cond:C}{m:b->D}{xs:List b}(p:b->Bool)(f:b->D)(c:evW Κ Φ it ρ=.ok w)(a:w.2=xs.map m)(r:b->Rho)
  (d:∀x∈xs,fI tg (gJ (m x) w.1,m x) (bz nt Z8++js.map λj=>iT (ρ.getD j Z8))=.ok (r x)) (hc:∀x∈xs,Tt Κ Φ cond (r x) (p x)) (g:∀x∈xs,p x=Z7->Vv Κ Φ elt (r x) (f x)):
  aL Κ Φ (.comp nt js N' tg it cond elt) ρ=.ok (.fr,.list ((xs.filter p).map f)):=by
 rw[RH];rw[c,Res.aB,a]
 rw[IK (λx=>if p x then Z9 (f x)else Z8) xs λx a=>by
  rw[d x a,Res.aB];have:=hc x a;rw[this];cases e:p x with
  |true=>rw[(g x a e).1];rfl
  |false=>rfl]
 rw[Res.aB,Rp,Dx]
 have:(xs.filterMap λx=>if p x=Z7 then Z9 (f x)else Z8)=(xs.filter p).map f:=by
  clear a d hc g c
  induction xs with
  |nil=>rfl
  |cons x xs h=>
   cases e:p x with
   |true=>rw[l0 (by rw[e];rfl),ju e,bn,h]
   |false=>rw[ly (by rw[e];rfl),jv (e▸gw),h]
 rw[this]
theorem dW (h:aL Κ Φ a ρ=.ok (g,x))(b:z4x x=.ok c):evW Κ Φ (.tv a) ρ=.ok (g,c):=by rw[Dw,h,Res.aB];dsimp only;rw[b];rfl
theorem rH (h:Aa Κ Φ args ρ ds)(a:iV ds=.ok b):evW Κ Φ (.eF args) ρ=.ok (.fr,b):=by obtain⟨c,h,e⟩:=h;rw[Ro,h,Res.aB,e,a];rfl
theorem pN (h:Vv Κ Φ t ρ d):aQ Κ Φ (.asg (.nm i) t) ρ=.ok (.nx (ρ.set i (Z9 (.al,d)))):=by rw[Dq,h.1];show Res.ok (Out.nx (ρ.set i (Z9 (if imm d then(.al,d)else _))))=_;rw[sf h.2]
theorem vi (h:aL Κ Φ t ρ=.ok (.fr,.list xs))(a:imms xs=Z7):aQ Κ Φ (.asg (.nm i) t) ρ=.ok (.nx (ρ.set i (Z9 (.fr,.list xs)))):=by rw[Dq,h];show Res.ok (Out.nx (ρ.set i (Z9 (if imms xs then .fr else .nu,.list xs))))=_;rw[sf a]
theorem zT (h:aL Κ Φ t ρ=.ok (.fr,.dict es))(a:cF es=Z7):aQ Κ Φ (.asg (.nm i) t) ρ=.ok (.nx (ρ.set i (Z9 (.fr,.dict es)))):=by rw[Dq,h];show Res.ok (Out.nx (ρ.set i (Z9 (if cF es then .fr else .nu,.dict es))))=_;rw[sf a]
theorem IY (a:∀i,t≠.var i):aQ Κ Φ (.ret t) b=(aL Κ Φ t b>>=λx=>.ok (.rt (jO x.1) x.2)):=by cases t<;>first|exact absurd rfl (a _)|rfl
theorem dU (h:Vv Κ Φ t ρ d):aQ Κ Φ (.ret t) ρ=.ok (.rt .fr d):=by
 by_cases c:∀i,t≠.var i
 .rw[IY c,h.1];rfl
 obtain⟨i,rfl⟩:∃i,t=.var i:=by cases t<;>first|exact⟨_,rfl⟩|exact(c λi z=>by cases z).elim
 have a:=h.1;rw[pL]at a;rw[IH];cases hr:ρ[i]? with
 |none=>rw[hr]at a;cases a
 |some o=>
  cases o with
  |none=>rw[hr]at a;cases a
  |some gd=>
   obtain⟨g,b⟩:=gd;rw[hr]at a;have:b=d:=by have:=congrArg (λr:Res GD=>match r with|.ok p=>p.2|_=>.none) a;exact this
   subst this;show Res.ok (Out.rt (if imm b=Z7 then _ else _) b)=_;rw[sf h.2]
theorem IZ (a:∀i,t≠.var i)(h:aL Κ Φ t b=.ok (.fr,.list c)):aQ Κ Φ (.ret t) b=.ok (.rt .fr (.list c)):=by rw[IY a,h];rfl
theorem rJ (b:Tt Κ Φ c a k)(d:k=Z7->aQ Κ Φ p a=r)(e:k=Z6->aQ Κ Φ q a=r):aQ Κ Φ (.ifS c p q) a=r:=by
 rw[Dr,b];cases k with
 |true=>exact d rfl
 |false=>exact e rfl
theorem lG:aQ Κ Φ .nil ρ=.ok (.nx ρ):=rfl
theorem RK {y:GD}(h:imm y.2=Z7):okIn y=true:=by unfold okIn;rw[h];rfl
theorem I0 (d:Vv Κ Φ a c x)(hr:c[i]?=Z9 (Z9 (.fr,.list b)))(e:b.length<1000):aQ Κ Φ (.mut "append" i (.cons a .nil)) c=.ok (.nx ((c.set i (Z9 (.fr,.list (b++[x])))).map tm)):=by
 rw[Ri,zR,d.1,Res.aB,Rl,Res.aB,Res.aB,hr]
 dsimp only
 have:mC "append" b [(.fr,x)]=.ok (b++[x]):=by show(if(okIn (G.fr,x)&&decide (b.length<bC))=Z7 then _ else _)=_;rw[sf];rw[RK d.2];refine sr ?_;unfold bC;omega
 rw[this];rfl
theorem RL (h:a[i]?=Z9 (Z9 (g,d)))(b:g≠.fr)(c:imm d=Z7)(e:z4x d=.ok f):evF Κ Φ (.tv (.var i)) a=.ok (.fr,f,a):=by
 have j:kB a i=false:=by
  unfold kB;rw[h];cases g with
  |fr=>exact absurd rfl b
  |od=>rfl
  |al=>rfl
  |nu=>rfl
 rw[II,j];unfold kE qP;rw[dW ((v_var h c).1) e];rfl
theorem DJ (h:ρ[i]?=Z9 (Z9 (.od,d)))(hi:imm d=Z6)(hw:z4x d=.ok xs):evF Κ Φ (.tv (.var i)) ρ=.ok (.od,xs,ρ):=by
 have e1:aL Κ Φ (.var i) ρ=.ok (.od,d):=by rw[pL];rw[h];show Res.ok (if imm d=Z7 then _ else _,d)=_;rw[hi];rfl
 have e3:kB ρ i=false:=by unfold kB;rw[h]
 rw[II,e3];unfold kE qP;rw[dW e1 hw];rfl
theorem Ja (h:Aa Κ Φ args ρ ds)(hw:iV ds=.ok xs):evF Κ Φ (.eF args) ρ=.ok (.fr,xs,ρ):=by show qP Κ Φ (.eF args) ρ=_;unfold qP;rw[rH h hw];rfl
theorem RM {x:GD}(c:aL Κ Φ a b=.ok x)(ca:zp x=Z7)(d:seqR x.2=.ok f):evF Κ Φ (.enum a) b=.ok (.al,z27 0 f,b):=by
 have e:eC Κ Φ (.cons a .nil) b=.ok [x]:=by rw[zR,c];rfl
 show(eC Κ Φ (.cons a .nil) b>>=λg=>oU g b)=_;rw[e,Res.aB];unfold oU
 dsimp only
 rw[ca,d];rfl
theorem RN (b:a.length<=1000):seqR (.list a)=.ok a:=by show(if decide (a.length<=bC)=Z7 then Res.ok a else .no)=_;rw[sr (show a.length<=bC by unfold bC;omega)];rfl
theorem RO (h:imms a=Z7)(b:a.length<=1000):seqR (.list a)=.ok a:=RN b
theorem DK (a:imm x=Z7)(b:imm y=Z7):fI (.tp [i,j]) (gJ (.tuple [x,y]) g,.tuple [x,y]) ρ=.ok ((ρ.set i (Z9 (.al,x))).set j (Z9 (.al,y))):=by show Res.dE (Z9 ((ρ.set i (Z9 (z1g (gJ x _,x)))).set j (Z9 (z1g (gJ y _,y)))))=_;rw[mX a,mX b];rfl
theorem DL (h:evF Κ Φ it c=.ok w)(k:dG (λx a=>fI d (gJ x w.1,x) a>>=λb=>aQ Κ Φ p b) w.2.1 w.2.2=r):aQ Κ Φ (.aV d it p) c=r:=by rw[Rj,h];exact k
theorem tT (hc:Tt Κ Φ c ρ k)(hk:k=Z7)(h:aQ Κ Φ p ρ=.ok (.rt g d)):aQ Κ Φ (.seq (.ifS c p q) rest) ρ=.ok (.rt g d):=cB (rJ hc (λ_=>h) λz=>by rw[hk]at z;cases z)
theorem tU (hc:Tt Κ Φ c ρ k)(a:k=Z6)(h:aQ Κ Φ rest ρ=r):aQ Κ Φ (.seq (.ifS c p .nil) rest) ρ=r:=gS (rJ hc (λz=>by rw[a]at z;cases z) λ_=>lG) h
theorem zas (h:a[i]?=Z9 (Z9 (.fr,.list b))):aQ Κ Φ (.ret (.var i)) a=.ok (.rt .fr (.list b)):=by rw[IH,h];rfl
theorem dX {Q:Res Out->Prop}(h:aQ Κ Φ p ρ=.ok (.nx a))(k:Q (aQ Κ Φ q a)):Q (aQ Κ Φ (.seq p q) ρ):=by rw[gS h rfl];exact k
theorem DM {Q:Res Out->Prop}(h:aQ Κ Φ p a=.ok (.rt g d))(k:Q (.ok (.rt g d))):Q (aQ Κ Φ (.seq p q) a):=by rw[cB h];exact k
theorem zsj {Q:Res Out->Prop}{l:Type}{m:l->D}{j:List l}(h:evF Κ Φ it k=.ok (g,j.map m,b))(I:List l->Rho->Prop)(h0:I [] b)
  (hf:∀pre x d k,j=pre++x::d->I pre k->∃a,(fI n (gJ (m x) g,m x) k>>=λc=>aQ Κ Φ p c)=.ok (.nx a)/\I (pre++[x]) a) (o:∀a,I j a->Q (aQ Κ Φ rest a)):Q (aQ Κ Φ (.seq (.aV n it p) rest) k):=by
 obtain⟨a,e,i⟩:=IJ (f:=λx b=>fI n (gJ x g,x) b>>=λc=>aQ Κ Φ p c) I j [] b hf h0;rw[gS (DL h e) rfl];exact o a i
theorem ztw {Q:Res Out->Prop}{β:Type}{m:β->D}{xs:List β}(h:evF Κ Φ it ρ=.ok (g,xs.map m,ρ1))(I:List β->Rho->Prop)(h0:I [] ρ1)
  (hf:∀pre x post ρ,xs=pre++x::post->I pre ρ->∃wU eV,fI t' (gJ (m x) g,m x) ρ=.ok wU/\aQ Κ Φ p wU=.ok (.nx eV)/\I (pre++[x]) eV) (hk:∀eV,I xs eV->Q (aQ Κ Φ rest eV)):Q (aQ Κ Φ (.seq (.aV t' it p) rest) ρ):=
 zsj h I h0 (λpre x post ρ hx hI=>by obtain⟨wU,eV,h1,h2,h3⟩:=hf pre x post ρ hx hI;exact⟨eV,by rw[h1,Res.aB,h2],h3⟩) hk
theorem Jb {Q:Res Out->Prop}(hc:Tt Κ Φ c a k)(b:k=Z6)(h:Q (aQ Κ Φ rest a)):Q (aQ Κ Φ (.seq (.ifS c p .nil) rest) a):=by rw[tU hc b rfl];exact h
end
end Mk
namespace Mi
open PySem PySem.Spec PyProof.Rows L2
section
open PySem.SeqAt
end
open PySem.W
section
open PySem.SeqAt
end
def DN (K:Z5)(en:Bool)(R:It->Hp->Prop)(v:V)(H1:Hp):Prop:=∃B d xs,Rep K H1 B v d/\(if en then seqR d else z4x d)=.ok xs/\∀J,Walk K J B H1 (if en then z27 0 xs else xs)->R J H1
def zU (K:Z5)(en:Bool)(t:TE):TI:=λσ H R=>t σ H (DN K en R)
theorem RP (c:PE X a t):PI X k a (zU X.K Z6 t):=by intro b s f H R I h;exact aK (c b s f H _ I h) λv l ⟨y,m,g,i,B,d,n,j,e,q⟩=>z39 g i j e q
theorem RQ (hm:X.mg "enumerate"=Z8)(i:Gl X "enumerate")(hs:isStar a=Z6)(j:PE X a t):PI X (.Tuple f r tp) (.Call (.Name "enumerate" p) [a] [] pos) (zU X.K Z7 t):=by
 intro b s k H R I h;refine Call_ (z2g I i hm CM (PyProof.Rows.callWith_type1 (aK (eP j jW hs pos b s k H (λc g=>match c with| [v]=>DN X.K Z7 R v g|_=>False) I h) ?_) (fH hs) rfl))
 rintro x y ⟨c,g,l,m,z⟩
 rcases c with _|⟨v,_|⟨w,c⟩⟩
 .exact z.elim
 .obtain⟨u,rfl,n⟩:=vals1 m;obtain⟨B,d,A,o,e,q⟩:=z;exact z4g l n o e q
 .exact z.elim
def zV:V->List V->Hp->VK->Prop:=λx xs H Q=>∃d kvs,x=.ref d/\xs=[]/\H d=Z9 (.dK kvs)/\∀p,H p=Z8->Q (.ref p) (upd H p (.ext λh=>h.IsItemsView p d))
theorem RS:MtR X "dict.items" zV:=by
 rintro c s j H x l v m Q I e f ⟨d,kvs,rfl,rfl,hd,q⟩
 cases e;cases f;obtain⟨_,a,g,rel,b⟩:=zf I.hok hd;refine pw PySem.F.slot_dict_items b.typeIs PySem.F.entry_dict_items (PySem.F.args_dict_items_1 _) (meets_dict_items (gU X.prog X.w) d a) ⟨⟨g,b⟩,?_⟩;exact⟨.ref s.heap.objs.size,_,I.laid (o:=.ext λh=>h.IsItemsView s.heap.objs.size d) (λ_ _ q=>aw _ q) (ae _) ⟨⟨_,bu _ rfl,rfl,rfl⟩,⟨_,bu _ rfl⟩,λn p ⟨o,i,r⟩ k=>⟨o,k o i,r⟩⟩,rfl,q _ (I.hok.fresh (ae _))⟩
def zW (K:Z5):List V->Hp->VK->Prop:=λxs H Q=>∃p d kvs es,xs=[.ref p]/\H p=Z9 (.ext λh=>h.IsItemsView p d)/\H d=Z9 (.dK kvs)/\aW K H (λ_=>False) kvs es/\∀w H',Same H H'->Rep K H' (nw H) w (.list (es.map ent))->Q w H'
theorem RT (hc:X.calm=Z7):CallR X (.type "list") (zW X.K):=by
 rintro w s U H xs us Q I r ⟨p,d,kvs,es,rfl,W,hd,rs,q⟩
 obtain⟨u,rfl,rfl⟩:=vals1 r;obtain⟨m,_,_⟩:=I.hok p _ W;obtain⟨F,R,vs,rel,o,M,ep,Y,N,y,r3⟩:=zf I.hok hd;have lk:=rel.length;have le:=rs.length;refine kdx_call (I.ok.hd hc) m ⟨o,M,Y,N,y,r3⟩ (by omega) λh' tk acc c as hk hS hl G A=>?_;have I1:Inv X w U H {s with heap:=h',toks:=tk}:=I.kept hk;have lz:as.length=kvs.length:=by omega
 have S:((as.zip (kvs.map λg=>[kV g.1,g.2])).map (·.1))=as:=List.map_fst_zip (by grind)
 have l:∀z∈as.zip (kvs.map λg=>[kV g.1,g.2]),∃j k v,as[j]?=Z9 z.1/\kvs[j]?=Z9 (k,v)/\z.2=[kV k,v]:=λz O=>by
  obtain⟨j,hj,T⟩:=og O;have hj':j<as.length/\j<kvs.length:=by rw[List.length_zip]at hj;omega
  refine⟨j,(kvs[j]'hj'.2).1,(kvs[j]'hj'.2).2,?_,ac hj'.2,?_⟩
  .rw[<-T,List.getElem_zip];exact ac hj'.1
  .rw[<-T];simp
 obtain⟨H1,I2,sm,ht,hr⟩:=z87 (as.zip (kvs.map λg=>[kV g.1,g.2])) I1 (by rw[S];exact G.rise.imp λh=>cr h)
  (λz F=>by obtain⟨j,k,v,t,_,_⟩:=l z F;have B:=G.above z.1 (ar t);exact I.gX (gn B) (I.hok.fresh (gn B)))
  (λz F=>by obtain⟨j,k,v,t,J,h3⟩:=l z F;obtain⟨P,k',x,g1,g2,g3⟩:=G.pairs j z.1 t;obtain⟨u,g4,ru⟩:=Px rel J;rw[g4]at g1;cases g1;rw[h3];exact⟨by rw[db];simp,[P,_],.cons (Py g2) (.cons ru .nil),0,g3⟩)
 have n:=I.hok.fresh (ae _);have L:H1 s.heap.objs.size=none:=by rw[hr,n];rw[S];exact λz=>cx _ (G.above _ z)
 refine⟨.ref s.heap.objs.size,_,I2.qX (u:=.lst (as.map V.ref)) ((I.gX (ae _) n) |> λf=>⟨L,f.2⟩) ⟨by rw[ah];omega,as.map ZP,c,HK as,by rw[<-A];exact hS⟩,rfl,q _ _ (sm.trans (Same.upd L)) ⟨_,as.map V.ref,rfl,.inl ⟨bF,n⟩,?_⟩⟩;refine zD (by grind) λi v dd t J=>?_;rw[ao]at t J;obtain⟨a,B,rfl⟩:=a6.mp t;obtain⟨ev,C,rfl⟩:=a6.mp J;have hi:i<kvs.length:=lz▸(ay.mp B).1;have D:kvs[i]?=Z9 (kvs[i].1,kvs[i].2):=by simp[hi]
 obtain⟨dv,h4,ok,rv⟩:=aW.at rs D;rw[h4]at C;cases C;have E:=ht (a,[kV kvs[i].1,kvs[i].2]) (by refine cj.mpr ⟨i,?_⟩;rw[List.getElem?_zip_eq_some];exact⟨B,by rw[ao,D];rfl⟩);refine⟨a,_,rfl,cP.of (by rw[aE (bO E L)];exact E),Reps.cons (Pz ok) (Reps.cons ?_ rfl)⟩;exact Rep.keep (λb u e f=>(sm.trans (Same.upd L)) b u e) (λ_ z=>z.elim) dv rv
inductive W where
 |aT (c:C)|raw (i:Nat)|cmp (op:CmpOp) (a b:W)|hD (ng:Bool) (a:W)|and (a b:W)|tup (xs:W)|lst (xs:W)|gL|ix (a b:W)|len (a:W)|iL (o:W) (f:Str)|fJ (j:Nat) (as:W)|bE (o:W) (j:Nat) (as:W)|mk (j:Nat) (as:W)|tp (c:C)|tc (op:CmpOp) (a b:W)|ti (ng:Bool) (a:W)|jD (a:W)|not (a:W)|fV (a b:W)|tV (a b:W)|iF (f:Str)|lH (a b:W)|hV (o:W) (j:Nat) (as:W)|zX (a:W)|lit (o:W)|lc (nt:Nat) (js:List Nat) (N':List Str) (t:Tg) (en:Bool) (it c e:W)|zY (op tW:CmpOp) (a b c:W)|nil|cons (a r:W)
 deriving Inhabited
structure Wc where
 K:Z5
 mg:Str->Option Value
 Κ:List D
 Φ:List Fn
 E:XK
 fn:List Sp
 me:List (Addr×Str×Sp)
 cl:List (Addr×Sp)
 xf:Option V:=Z8
 md:List (Addr×Str×Sp):=[]
structure Gw where
 g:Gm
 fn:List (Str×Nat)
 me:List (Str×Nat)
 cl:List (Str×Nat)
 xf:Option Str:=Z8
 fld:List (Str×Str):=[]
 md:List (Str×Nat):=[]
def hW:TE:=λ_ _ _=>False
def DO (K:Z5)(t:TE):TT:=λσ H Q=>t σ H λx H'=>∃k,lU K x H' k/\Q k H'
mutual
def wE:Wc->W->TE
 |Z,.aT c=>tD Z.K (aL Z.Κ Z.Φ c)
 |Z,.raw i=>sG i
 |Z,.cmp op a b=>jK (jQ Z.K (mB (cmpD op))) (wE Z a) (wE Z b)
 |Z,.hD ng a=>if ng then y6 (wE Z a)else oJ (wE Z a)
 |Z,.and a b=>FV (wE Z a) (wE Z b)
 |Z,.tup xs=>wm (wA Z xs)
 |Z,.lst xs=>wo (wA Z xs)
 |Z,.gL=>GF
 |Z,.ix a b=>jK (iY Z.K) (wE Z a) (wE Z b)
 |Z,.len a=>lV (z8m Z.K (j' "len")) (oK (wE Z a) fQ)
 |Z,.iL o f=>sM Z.K (wE Z o) f
 |Z,.fJ j as=>match Z.fn[j]? with|some sp=>sP sp [] Z.E (wA Z as)|none=>hW
 |Z,.bE o j as=>match Z.me[j]? with|some r=>jL r.1 r.2.1 r.2.2 [] Z.E (wE Z o) (wA Z as)|none=>hW
 |Z,.mk j as=>match Z.cl[j]? with|some r=>wq r.1 r.2 [] Z.E (wA Z as)|none=>hW
 |Z,.iF _=>match Z.xf with|some v=>λ_ H Q=>Q v H|none=>hW
 |Z,.lH a b=>jK (uU Z.K) (wE Z a) (wE Z b)
 |Z,.hV o j as=>match Z.md[j]? with|some r=>jL r.1 r.2.1 r.2.2 [.aM] Z.E (wE Z o) (wA Z as)|none=>hW
 |Z,.zX a=>lV (rAgg Z.K "list") (oK (wE Z a) fQ)
 |Z,.lit o=>lV (zW Z.K) (oK (sW Z.K "dict" zV (wE Z o)) fQ)
 |Z,.lc nt js _ t en it c e=>wD (zU Z.K en (wE Z it)) (tDG Z.K t) (wT {Z with E:=λ_ _ _=>False,xf:=Z8} c) (wE {Z with E:=λ_ _ _=>False,xf:=Z8} e) (eY nt js)
 |_,_=>hW
def wA:Wc->W->TA
 |Z,.nil=>fQ
 |Z,.cons a r=>oK (wE Z a) (wA Z r)
 |_,_=>λ_ _ _=>False
def wT:Wc->W->TT
 |Z,.tp c=>dV Z.K (dN Z.Κ Z.Φ c)
 |Z,.tc op a b=>qL (jK (jQ Z.K (mB (cmpD op))) (wE Z a) (wE Z b))
 |Z,.ti ng a=>qL (if ng then y6 (wE Z a)else oJ (wE Z a))
 |Z,.jD a=>DO Z.K (wE Z a)
 |Z,.not a=>vT (wT Z a)
 |Z,.fV a b=>vS (wT Z a) (wT Z b)
 |Z,.tV a b=>FP (wT Z a) (wT Z b)
 |Z,.zY op tW a b c=>qL (Bh (jQ Z.K (mB (cmpD op))) (jQ Z.K (mB (cmpD tW))) (wE Z a) (wE Z b) (wE Z c))
 |_,.nil=>wC
 |_,_=>λ_ _ _=>False
end
def zZ (Γ:Gw)(scope:Scope)(N':List Str):Gw:={Γ with g:={Γ.g with N:=N',sc:=zq scope Γ.g.sc,blk:=Z7,xc:=Z8,kp:=[]},xf:=Z8}
def RU:W->Bool
 |.nil=>Z7
 |_=>Z6
mutual
def bK:Gw->W->Expr->Bool
 |Γ,.aT c,e=>chkE Γ.g c e
 |Γ,.raw i,e=>kJ (mE Γ.g i) e
 |Γ,.cmp op a b,e=>(mF e).any λv=>decide (v.2.1=[op])&&(bH v.2.2).any λr=>z4l op&& !(dw op r)&&bK Γ a v.1&&bK Γ b r
 |Γ,.hD ng a,e=>(mF e).any λv=>decide (v.2.1=[if ng then .IsNot else .Is])&&(bH v.2.2).any λr=>decide (fB r=Z9 .none)&&bK Γ a v.1
 |Γ,.and a b,e=>(qQ e).any λv=>decide (v.1=.And)&&qR (λx=>bK Γ a x) (λx=>bK Γ b x) .And v.2.2 v.2.1
 |Γ,.tup xs,e=>(oW e).any λes=>lI Γ xs es
 |Γ,.lst xs,e=>(tG e).any λes=>lI Γ xs es
 |Γ,.gL,e=>(BQ e).any λv=>v.1.isEmpty&&v.2.isEmpty
 |Γ,.ix a b,e=>(kI e).any λv=>z4b v.2&&bK Γ a v.1&&bK Γ b v.2
 |Γ,.len a,e=>(iX e).any λv=>(v.1==("len":Str))&&dH Γ.g v.1&&(bH v.2).any λy=>!isStar y&&bK Γ a y
 |Γ,.iL o f,e=>(uV e).any λv=>(v.2.1==f)&&z0x v.1&&bK Γ o v.1
 |Γ,.fJ j as,e=>(iX e).any λv=>lE Γ.g v.1&&(Γ.fn[j]?==Z9 (v.1,v.2.length))&&lI Γ as v.2&&(Γ.g.cm&& !v.2.isEmpty)
 |Γ,.bE o j as,e=>Γ.g.cm&&(tH e).any λv=>(z0x v.1&&v.2.2.2&&decide (v.2.2.1.length<20))&&(Γ.me[j]?==Z9 (v.2.1,v.2.2.1.length))&&bK Γ o v.1&&lI Γ as v.2.2.1
 |Γ,.mk j as,e=>(iX e).any λv=>lE Γ.g v.1&&(Γ.cl[j]?==Z9 (v.1,v.2.length))&&lI Γ as v.2&&(Γ.g.cm&& !v.2.isEmpty)
 |Γ,.iF f,e=>(uV e).any λv=>(v.2.1==f)&&z0x v.1&&(kJ (λx=>Γ.g.xc.any λu=>u.1==x) v.1)&&(Γ.xf==Z9 f)
 |Γ,.lH a b,e=>(kI e).any λv=>z4b v.2&&bK Γ a v.1&&bK Γ b v.2
 |Γ,.hV o j as,e=>Γ.g.cm&&(tH e).any λv=>(z0x v.1&&v.2.2.2&&decide (v.2.2.1.length<20))&&(Γ.md[j]?==Z9 (v.2.1,v.2.2.1.length))&&bK Γ o v.1&&(lI Γ as v.2.2.1&& !v.2.2.1.isEmpty)
 |Γ,.zX a,e=>(iX e).any λv=>(v.1==("list":Str))&&dH Γ.g v.1&&(bH v.2).any λy=>!isStar y&&bK Γ a y
 |Γ,.lit o,e=>Γ.g.cm&&(iX e).any λv=>(v.1==("list":Str))&&dH Γ.g v.1&&(bH v.2).any λy=>(tH y).any λm=>((m.2.1==("items":Str))&&z0x m.1&&m.2.2.2)&&bK Γ o m.1&&m.2.2.1.isEmpty
 |Γ,.lc nt js N' t en it c x,e=>Γ.g.cm&&(BU e).any λv=>(bH v.2.1).any λg=>((g.is_async==0)&&oP Γ.g.N Γ.g.sc v.2.2 N' nt js&&decide N'.Nodup&&tF g.iter)&&(if en then isTup g.target&&(iX g.iter).any λu=>(u.1==("enumerate":Str))&&dH Γ.g u.1&&(bH u.2).any λy=>!isStar y&&bK Γ it y else bK Γ it g.iter)&&qS (zZ Γ v.2.2 N').g t g.target&&(match g.ifs with| []=>RU c| [y]=>mZ (zZ Γ v.2.2 N') c y|_=>Z6)&&bK (zZ Γ v.2.2 N') x v.1
 |_,_,_=>Z6
def lI:Gw->W->List Expr->Bool
 |Γ,.nil,es=>es.isEmpty
 |Γ,.cons a r,es=>match es with|e::es=>!isStar e&&bK Γ a e&&lI Γ r es|_=>Z6
 |_,_,_=>Z6
def mZ:Gw->W->Expr->Bool
 |Γ,.tp c,e=>eI Γ.g c e
 |Γ,.tc op a b,e=>(mF e).any λv=>decide (v.2.1=[op])&&(bH v.2.2).any λr=>z4l op&& !(dw op r)&&bK Γ a v.1&&bK Γ b r
 |Γ,.ti ng a,e=>(mF e).any λv=>decide (v.2.1=[if ng then .IsNot else .Is])&&(bH v.2.2).any λr=>decide (fB r=Z9 .none)&&bK Γ a v.1
 |Γ,.jD a,e=>plainT e&&bK Γ a e
 |Γ,.not a,e=>(wX e).any λv=>decide (v.1=.Not)&&mZ Γ a v.2
 |Γ,.fV a b,e=>(qQ e).any λv=>decide (v.1=.And)&&qR (λx=>mZ Γ a x) (λx=>mZ Γ b x) .And v.2.2 v.2.1
 |Γ,.tV a b,e=>(qQ e).any λv=>decide (v.1=.Or)&&qR (λx=>mZ Γ a x) (λx=>mZ Γ b x) .Or v.2.2 v.2.1
 |Γ,.zY op tW a b c,e=>(mF e).any λv=>decide (v.2.1=[op,tW])&&(oX v.2.2).any λr=>z4l op&&z4l tW&& !(lastMarks [op,tW] [r.1,r.2])&&bK Γ a v.1&&(bK Γ b r.1&&bK Γ c r.2)
 |_,_,_=>Z6
end
structure Zok (Γ:Gw)(Z:Wc)(CX:CXT)(P:cu)(w:World)(K:Z5)(mg:Str->Option Value)(base:Heap)(r:Nat):Prop where
 kk:Z.K=K
 mm:Z.mg=mg
 fn:∀(j:Nat) x n,Γ.fn[j]?=Z9 (x,n)->∃sp f fd ps k,Z.fn[j]?=Z9 sp/\k<=r/\FnOk P w K mg base CX k f fd ps sp/\mg x=Z9 (.ref f)/\Z2 K (.ref f)=Z7/\Binds K fd ps []
 me:∀(j:Nat) m n,Γ.me[j]?=Z9 (m,n)->∃C sp f fd ps k,Z.me[j]?=Z9 (C,m,sp)/\k<=r/\FnOk P w K mg base CX k f fd ps sp/\Cls K C/\Meth K C m f/\Binds K fd ps []
 cl:∀(j:Nat) x n,Γ.cl[j]?=Z9 (x,n)->∃C sp f fd ps k,Z.cl[j]?=Z9 (C,sp)/\k+1<=r/\FnOk P w K mg base CX k f fd ps sp/\Mk K C f/\mg x=Z9 (.ref C)/\Binds K fd ps []
 md:∀(j:Nat) m n,Γ.md[j]?=Z9 (m,n)->∃C sp f fd ps k,Z.md[j]?=Z9 (C,m,sp)/\k<=r/\FnOk P w K mg base CX k f fd ps sp/\Cls K C/\Meth K C m f/\Binds K fd ps [.none]
structure Wok (Γ:Gw)(Z:Wc)(CX:CXT)(X:Cx)(r:Nat):Prop extends Zok Γ Z CX X.prog X.w X.K X.mg X.base r where
 ck:Cok Γ.g Z.Κ Z.Φ X r
 room:Γ.g.cm=Z7->Room r X.A
 px:z2x CX X Z.E
 xf:∀f,Γ.xf=Z9 f->∃v,Z.xf=Z9 v/\∀n c,Γ.g.xc=Z9 (n,c)->∀p q,z0x (.Name n p)=Z7->PE X (.Attribute (.Name n p) f q) (λ_ H Q=>Q v H)
 Jc:∀outer H s e s',¬CX outer H s (λ_ _ _=>False) e s'
section
variable {X:Cx}
theorem z6o {C:Addr}(v:PE X o y)(c:Cls X.K C)(hm:Meth X.K C m f)
  (n:z0x o=Z7) (p:(es.all λe=>!isStar e)=Z7) (z:es.length<20) (g:(k.endLine==b.line)=Z7)
  (go:∀d s j H Q a,Inv X d j H s->(t j H λvs B=>sp (.ref a::(vs++dvs)) B Q E)->wpAny (model X.prog X.w) X.A (callWith b (.ref f) [.ref a] (jl b (dk es X.env)) (qy b (ny [] X.env))) (EP X d j Q) X.xe s):
  PE X (.Call (.Attribute o m k) es [] b) (jL C m sp dvs E y t):=by
 intro d s j H Q I h;rw[arm_eval_Call,oN n];refine am (aK (v d s j H _ I h) ?_)
 rintro u D ⟨x,F,r,G,a,dx,fs,ex,J,l,q⟩
 subst ex;obtain rfl:u=ZP a:=G;refine am (jj ?_);have i:methodCallForm (es.length+([]:List qa).length) (jl b (dk es X.env)) (qy b (ny [] X.env))=true:=z9n p z;unfold methodCall;rw[i];refine am (ig (zbc r J c hm l ?_));exact am (wpAny_of_eq (by unfold methodCallPos;simp[g]) (go d D j F Q a r q))
variable {CX:CXT}{k:Nat}{f C:Addr}{fd:d5}{ps:List Str}{sp:Sp}{E:XK}{m:Str}{apos cpos:Pos}{o e:Expr}{es:List Expr}{ta:TE}{t:TA}
theorem zgp (l:PE X o ta)(c:Cls X.K C)(hm:Meth X.K C m f)(F:FnOk X.prog X.w X.K X.mg X.base CX k f fd ps sp)(hr:Room k X.A)(n:Binds X.K fd ps [])(p:z2x CX X E)(u:PA X (e::es) t)
  (h:z0x o=Z7) (b:((e::es).all λe=>!isStar e)=Z7) (v:(e::es).length<20) (d:(apos.endLine==cpos.line)=Z7):
  PE X (.Call (.Attribute o m apos) (e::es) [] cpos) (jL C m sp [] E ta t):=
 z6o l c hm h b v d λg s x H Q a I q=>by rw[c9,cn]at b;refine W.callWith_K I.ok.mod.sF hm.kp (aK (u cpos g s x H _ I q) λz B ⟨i,D,j,r,y⟩=>⟨j.cG,?_⟩) (fH (by simpa using b.1)) (lZ b.2);exact zaa (vs:=.ref a::i) F hr n .nil p j (.cons rfl r) y
theorem zhi (l:PE X o ta)(c:Cls X.K C)(hm:Meth X.K C m f)(F:FnOk X.prog X.w X.K X.mg X.base CX k f fd ps sp)(hr:Room k X.A)(n:Binds X.K fd ps [.none])(p:z2x CX X E)(u:PA X (e::es) t)
  (h:z0x o=Z7) (b:((e::es).all λe=>!isStar e)=Z7) (v:(e::es).length<20) (d:(apos.endLine==cpos.line)=Z7):
  PE X (.Call (.Attribute o m apos) (e::es) [] cpos) (jL C m sp [.aM] E ta t):=
 z6o l c hm h b v d λg s x H Q a I q=>by rw[c9,cn]at b;refine W.callWith_K I.ok.mod.sF hm.kp (aK (u cpos g s x H _ I q) λz B ⟨i,D,j,r,y⟩=>⟨j.cG,?_⟩) (fH (by simpa using b.1)) (lZ b.2);exact zaa (vs:=.ref a::i) (dvs:=[.aM]) F hr n (.cons rfl .nil) p j (.cons rfl r) y
theorem zfi (g:PE X o ta)(c:Cls X.K C)(hm:Meth X.K C m f)(F:FnOk X.prog X.w X.K X.mg X.base CX k f fd ps sp)(hr:Room k X.A)(h:Binds X.K fd ps [])(i:z2x CX X E)
  (d:z0x o=Z7) (b:(apos.endLine==cpos.line)=Z7):
  PE X (.Call (.Attribute o m apos) [] [] cpos) (jL C m sp [] E ta fQ):=
 z6o g c hm d rfl dc b λe s j H Q a I q=>W.callWith_K0 I.cG hm.kp (zaa (vs:=[.ref a]) F hr h .nil i I (.cons rfl .nil) q)
end
section
variable {Γ:Gw}{Z:Wc}{CX:CXT}{X:Cx}{r:Nat}
structure We (w:W):Prop where
 E:∀(Γ:Gw) (Z:Wc) (CX:CXT) (X:Cx) (r:Nat) (e:Expr),Wok Γ Z CX X r->bK Γ w e=Z7->PE X e (wE Z w)
 A:∀(Γ:Gw) (Z:Wc) (CX:CXT) (X:Cx) (r:Nat) (es:List Expr),Wok Γ Z CX X r->lI Γ w es=Z7->PA X es (wA Z w)
 T:∀(Γ:Gw) (Z:Wc) (CX:CXT) (X:Cx) (r:Nat) (e:Expr),Wok Γ Z CX X r->mZ Γ w e=Z7->PT X e (wT Z w)/\((∃o l p,e=.BoolOp o l p)->PW X e (wT Z w))
theorem We.x (h:∀Γ Z CX X r e,Wok Γ Z CX X r->bK Γ w e=Z7->PE X e (wE Z w))(a:∀Γ es,lI Γ w es=Z6)(b:∀Γ e,mZ Γ w e=Z6):We w where
 E:=h
 A:=λΓ Z CX X r es k z=>ff (a Γ es) z
 T:=λΓ Z CX X r e k z=>ff (b Γ e) z
theorem We.t (h:∀Γ Z CX X r e,Wok Γ Z CX X r->mZ Γ w e=Z7->PT X e (wT Z w)/\((∃o l p,e=.BoolOp o l p)->PW X e (wT Z w)))(a:∀Γ e,bK Γ w e=Z6)(b:∀Γ es,lI Γ w es=Z6):We w where
 E:=λΓ Z CX X r e k z=>ff (a Γ e) z
 A:=λΓ Z CX X r es k z=>ff (b Γ es) z
 T:=h
theorem z0 {w:W}:∀{d:List Expr},lI Γ w d=Z7->(d.all λe=>!isStar e)=true:=by
 induction w with
 |nil=>intro d h;cases fT h;rfl
 |cons a r _ i=>
  intro d h;cases d with
  |nil=>cases h
  |cons e d=>obtain⟨b,_,c⟩:=aX h;rw[c9,b,i c];rfl
 |_=>exact λh=>ff rfl h
theorem Wok.rm (k:Wok Γ Z CX X r)(hc:Γ.g.cm=Z7)(h:j<=r):Room j X.A:=(k.room hc).mono h
theorem eqB {c:Type} [BEq c] [LawfulBEq c] {a b:c}(h:(a==b)=Z7):a=b:=eq_of_beq h
theorem Jd (h:((mF e).any λv=>decide (v.2.1=[c])&&(bH v.2.2).any λr=>z4l c&& !(dw c r)&&bK Γ a v.1&&bK Γ b r)=Z7):∃l r p,e=.Compare l [c] [r] p/\z4l c=Z7/\dw c r=Z6/\bK Γ a l=Z7/\bK Γ b r=true:=by obtain⟨⟨l,o,rs⟩,g,i⟩:=aJ h;obtain⟨p,rfl⟩:=mR g;obtain⟨j,d⟩:=aD i;obtain⟨r,hr,f⟩:=aJ d;cases sk j;cases fU hr;obtain⟨d,f,k,m⟩:=bL f;exact⟨l,r,p,rfl,d,cN f,k,m⟩
theorem Je {d:Bool}(h:((mF e).any λv=>decide (v.2.1=[if d then .IsNot else .Is])&&(bH v.2.2).any λr=>decide (fB r=Z9 .none)&&bK Γ a v.1)=Z7):∃l j b p,e=.Compare l [if d then .IsNot else .Is] [.Constant .none j b] p/\bK Γ a l=true:=by obtain⟨⟨l,o,rs⟩,f,g⟩:=aJ h;obtain⟨p,rfl⟩:=mR f;obtain⟨i,k⟩:=aD g;obtain⟨r,hr,c⟩:=aJ k;cases sk i;cases fU hr;obtain⟨c,m⟩:=aD c;obtain⟨j,b,rfl⟩:=tK (sk c);exact⟨l,j,b,p,rfl,m⟩
theorem DP (h:bK Γ (.bE o j as) e=Z7):Γ.g.cm=Z7/\∃b m a es c,e=.Call (.Attribute b m a) es [] c/\(a.endLine==c.line)=Z7/\z0x b=Z7/\es.length<20/\Γ.me[j]?=Z9 (m,es.length)/\bK Γ o b=Z7/\lI Γ as es=true:=by obtain⟨d,h⟩:=aD h;obtain⟨⟨x,n,es,b⟩,f,i⟩:=aJ h;obtain⟨a,c,rfl,k⟩:=kM f;obtain⟨h0,l,p,q⟩:=bL i;obtain⟨r,s,t⟩:=aX h0;exact⟨d,x,n,a,es,c,rfl,k.symm.trans s,r,sk t,eqB l,p,q⟩
theorem DQ (u:We it)(F:We c)(G:We x):∀Γ Z CX X r e,Wok Γ Z CX X r->bK Γ (.lc J L g t en it c x) e=Z7->PE X e (wE Z (.lc J L g t en it c x)):=by
 intro Γ Z CX X r e k h;obtain⟨n,h⟩:=aD h;obtain⟨⟨el,gs,a⟩,M,i⟩:=aJ h;obtain⟨pos,rfl⟩:=xI M;obtain⟨⟨v,j,m,ka⟩,N,i⟩:=aJ i;cases fU N;obtain⟨h0,d,O,o,i⟩:=cV i;obtain⟨P,Q,R,S⟩:=bL h0;cases sx P;have w:=GP k.ck.hN k.ck.hs Q;have A:=λC b s H=>k.ck.blk w.kind (sk R) C b s H;have B:∀C b s H,Wok (zZ Γ a g) {Z with E:=λ_ _ _=>False,xf:=Z8} CX (blk X a g C b s H) r:=λC b s H=>⟨⟨k.kk,k.mm,k.fn,k.me,k.cl,k.md⟩,A C b s H,k.room,λD σ H s e s' I z=>(k.Jc _ _ _ _ _ z).elim,λf z=>(by cases z),k.Jc⟩
 have U:PI X v j (zU X.K en (wE Z it)):=by
  cases en with
  |false=>exact RP (u.E Γ Z CX X r _ k d)
  |true=>obtain⟨V,d⟩:=aD d;obtain⟨⟨f,es⟩,W,d⟩:=aJ d;obtain⟨_,_,rfl⟩:=i' W;obtain⟨p,Y,u3⟩:=aX d;obtain⟨y,hy,u5⟩:=aJ u3;cases fU hy;obtain⟨u6,u4⟩:=aD u5;have p:=eqB p;subst p;obtain⟨_,_,_,rfl⟩:=C5 V;obtain⟨g1,g2,g3,g4⟩:=k.ck.blt Y;exact RQ g2 g1 (cN u6) (u.E Γ Z CX X r _ k u4)
 have ht:∀C b s H,oQ (blk X a g C b s H) m (wT {Z with E:=λ_ _ _=>False,xf:=Z8} c):=λC b s H=>by
  rcases m with _|⟨y,_|⟨z,l⟩⟩
  .have :c=.nil:=by cases c<;>first|rfl|cases o
   subst this;exact GQ
  .exact GS (F.T _ _ CX _ r _ (B C b s H) o).1
  .cases o
 have q:∀C b s H,PG (blk X a g C b s H) v (tDG X.K t):=λC b s H=>vb (A C b s H) O;have hh:=zad (pos:=pos) (k.ck.calm n) w U q ht (λC b s H=>G.E _ _ CX _ r _ (B C b s H) i) (xJ S _);rw[<-k.kk]at hh;exact hh
theorem cW (w:W):We w:=by
 induction w with
 |aT c=>exact We.x (λΓ Z CX X r e k h=>by show PE X e (tD Z.K (aL Z.Κ Z.Φ c));rw[k.kk];exact(all c).E Γ.g X r e k.ck h) (λ_ _=>rfl) λ_ _=>rfl
 |raw i=>exact We.x (λΓ Z CX X r e k h=>by obtain⟨x,p,rfl,h⟩:=kN h;obtain⟨h1,h2,h3,h4⟩:=k.ck.aN h;exact vR h1 h2 h3 h4) (λ_ _=>rfl) λ_ _=>rfl
 |cmp op a b ia ib=>exact We.x (λΓ Z CX X r e k h=>by obtain⟨_,_,_,rfl,h2,h3,h4,h5⟩:=Jd h;show PE X _ (jK (jQ Z.K (mB (cmpD _))) _ _);rw[k.kk];exact Gh (uX k.ck.hu _ h2) (ia.E Γ Z CX X r _ k h4) (ib.E Γ Z CX X r _ k h5) h3) (λ_ _=>rfl) λ_ _=>rfl
 |hD ng a ia=>exact We.x (λΓ Z CX X r e k h=>by
  obtain⟨_,_,_,_,rfl,h2⟩:=Je h;have ha:=ia.E Γ Z CX X r _ k h2;cases ng with
  |true=>exact y9 (y8 ha)
  |false=>exact y9 (y7 ha)) (λ_ _=>rfl) λ_ _=>rfl
 |and a b ia ib=>exact We.x (λΓ Z CX X r e k h=>by
  obtain⟨⟨o,xs,p⟩,hv,h9⟩:=aJ h;cases iZ hv;obtain⟨h1,h2⟩:=aD h9;cases sk h1;rcases tM h2 with⟨x,y,rfl,h3,h4⟩|⟨x,y,z,t,rfl,h3,h4⟩
  .exact AY (ia.E Γ Z CX X r _ k h3) (AX (ib.E Γ Z CX X r _ k h4))
  .exact AY (ia.E Γ Z CX X r _ k h3) (ib.E Γ Z CX X r _ k h4)) (λ_ _=>rfl) λ_ _=>rfl
 |tup xs ia=>exact We.x (λΓ Z CX X r e k h=>by obtain⟨v,hv,h9⟩:=aJ h;obtain⟨_,_,rfl⟩:=zI hv;exact Gr (ia.A Γ Z CX X r _ k h9)) (λ_ _=>rfl) λ_ _=>rfl
 |lst xs ia=>exact We.x (λΓ Z CX X r e k h=>by obtain⟨v,hv,h9⟩:=aJ h;obtain⟨_,rfl⟩:=Ib hv;exact Gs (ia.A Γ Z CX X r _ k h9)) (λ_ _=>rfl) λ_ _=>rfl
 |gL=>exact We.x (λΓ Z CX X r e k h=>by obtain⟨⟨a,b⟩,hv,h9⟩:=aJ h;obtain⟨_,rfl⟩:=xF hv;obtain⟨h1,h2⟩:=aD h9;cases fT h1;cases fT h2;exact GG) (λ_ _=>rfl) λ_ _=>rfl
 |ix a b ia ib=>exact We.x (λΓ Z CX X r e k h=>by obtain⟨v,hv,h9⟩:=aJ h;obtain⟨_,rfl⟩:=xG hv;obtain⟨h1,h2,h3⟩:=aX h9;show PE X _ (jK (iY Z.K) _ _);rw[k.kk];exact Bl (G' k.ck.hu) (ia.E Γ Z CX X r _ k h2) (ib.E Γ Z CX X r _ k h3) (Cg h1)) (λ_ _=>rfl) λ_ _=>rfl
 |len a ia=>exact We.x (λΓ Z CX X r e k h=>by obtain⟨⟨x,es⟩,hv,h9⟩:=aJ h;obtain⟨_,_,rfl⟩:=i' hv;obtain⟨h1,h2,h3⟩:=aX h9;obtain⟨y,hy,h4⟩:=aJ h3;cases fU hy;obtain⟨h4,h5⟩:=aD h4;have h1:=eqB h1;subst h1;obtain⟨g1,g2,g3,g4⟩:=k.ck.blt h2;show PE X _ (lV (z8m Z.K (j' "len")) _);rw[k.kk];exact zj Hc g2 (show dg "len"=_ by decide+kernel) (eP (ia.E Γ Z CX X r _ k h5) jW (cN h4)) (by rw[c9,h4];rfl) g1 g4 g3) (λ_ _=>rfl) λ_ _=>rfl
 |iL o f io=>exact We.x (λΓ Z CX X r e k h=>by obtain⟨⟨x,n,p⟩,hv,h9⟩:=aJ h;cases mT hv;obtain⟨h1,h2,h3⟩:=aX h9;have h1:=eqB h1;subst h1;show PE X _ (sM Z.K _ _);rw[k.kk];exact MU (io.E Γ Z CX X r _ k h3) (oN h2)) (λ_ _=>rfl) λ_ _=>rfl
 |fJ j as ia=>exact We.x (λΓ Z CX X r e k h=>by
  obtain⟨⟨x,es⟩,hv,h9⟩:=aJ h;obtain⟨_,_,rfl⟩:=i' hv;obtain⟨h1,h2,h3,h4⟩:=bL h9;obtain⟨oF,h4⟩:=aD h4;obtain⟨y,es,rfl⟩:=pD h4;obtain⟨g1,g2⟩:=k.ck.gl h1;obtain⟨sp,f,fd,ps,n,c1,c2,c3,c4,c5,c6⟩:=k.fn j _ _ (eqB h2);obtain⟨s1,s2⟩:=c9.symm.trans (z0 h3) |> au.mp;have ee:wE Z (.fJ j as)=sP sp [] Z.E (wA Z as):=by show(match Z.fn[j]? with|some sp=>sP sp [] Z.E (wA Z as)|none=>hW)=_;rw[c1]
  rw[ee];exact zf0 c3 (k.rm oF c2) g1 c4 c5 c6 .nil k.px (ia.A Γ Z CX X r _ k h3) g2 (fH (cN s1)) (lZ s2)) (λ_ _=>rfl) λ_ _=>rfl
 |bE o j as io ia=>exact We.x (λΓ Z CX X r e k h=>by
  obtain⟨oF,b,m,ap,es,cp,rfl,h1,h2,h3,h4,h5,h6⟩:=DP h;obtain⟨C,sp,f,fd,ps,n,c1,c2,c3,c4,c5,c6⟩:=k.me j _ _ h4;have ee:wE Z (.bE o j as)=jL C m sp [] Z.E (wE Z o) (wA Z as):=by show(match Z.me[j]? with|some r=>jL r.1 r.2.1 r.2.2 [] Z.E (wE Z o) (wA Z as)|none=>hW)=_;rw[c1]
  rw[ee];have ho:=io.E Γ Z CX X r _ k h5;have ha:=ia.A Γ Z CX X r _ k h6;cases es with
  |nil=>
   refine PE.imp (zfi ho c4 c5 c3 (k.rm oF c2) c6 k.px h2 h1) λσ H Q q=>?_;have:wA Z as=fQ:=by cases as<;>first|rfl|(cases h6;done)
   rw[this]at q;exact q
  |cons y es=>exact zgp ho c4 c5 c3 (k.rm oF c2) c6 k.px ha h2 (z0 h6) h3 h1) (λ_ _=>rfl) λ_ _=>rfl
 |mk j as ia=>exact We.x (λΓ Z CX X r e k h=>by
  obtain⟨⟨x,es⟩,hv,h9⟩:=aJ h;obtain⟨_,_,rfl⟩:=i' hv;obtain⟨h1,h2,h3,h4⟩:=bL h9;obtain⟨oF,h4⟩:=aD h4;obtain⟨y,es,rfl⟩:=pD h4;obtain⟨g1,g2⟩:=k.ck.gl h1;obtain⟨C,sp,f,fd,ps,n,c1,c2,c3,c4,c5,c6⟩:=k.cl j _ _ (eqB h2);obtain⟨s1,s2⟩:=c9.symm.trans (z0 h3) |> au.mp;have ee:wE Z (.mk j as)=wq C sp [] Z.E (wA Z as):=by show(match Z.cl[j]? with|some r=>wq r.1 r.2 [] Z.E (wA Z as)|none=>hW)=_;rw[c1]
  rw[ee];exact zki c4 c3 ((k.room oF).mono c2) g1 c5 c6 .nil k.px (ia.A Γ Z CX X r _ k h3) g2 (fH (cN s1)) (lZ s2)) (λ_ _=>rfl) λ_ _=>rfl
 |tp c=>exact We.t (λΓ Z CX X r e k h=>by show PT X e (dV Z.K (dN Z.Κ Z.Φ c))/\(_->PW X e (dV Z.K (dN Z.Κ Z.Φ c)));rw[k.kk];exact(all c).T Γ.g X r e k.ck h) (λ_ _=>rfl) λ_ _=>rfl
 |tc op a b ia ib=>exact We.t (λΓ Z CX X r e k h=>by obtain⟨_,_,_,rfl,h2,h3,h4,h5⟩:=Jd h;refine⟨?_,λ⟨_,_,_,z⟩=>by cases z⟩;show PT X _ (qL (jK (jQ Z.K (mB (cmpD _))) _ _));rw[k.kk];exact Gi (uX k.ck.hu _ h2) (ia.E Γ Z CX X r _ k h4) (ib.E Γ Z CX X r _ k h5) h3) (λ_ _=>rfl) λ_ _=>rfl
 |ti ng a ia=>exact We.t (λΓ Z CX X r e k h=>by
  obtain⟨_,_,_,_,rfl,h2⟩:=Je h;have ha:=ia.E Γ Z CX X r _ k h2;refine⟨?_,λ⟨_,_,_,z⟩=>by cases z⟩;cases ng with
  |true=>exact za (y8 ha)
  |false=>exact za (y7 ha)) (λ_ _=>rfl) λ_ _=>rfl
 |jD a ia=>exact We.t (λΓ Z CX X r e k h=>by obtain⟨h1,h2⟩:=aD h;refine⟨?_,λ⟨_,_,_,z⟩=>by subst z;cases h1⟩;show PT X _ (DO Z.K _);rw[k.kk];exact za6 (ia.E Γ Z CX X r _ k h2) (Ic h1 _)) (λ_ _=>rfl) λ_ _=>rfl
 |not a ia=>exact We.t (λΓ Z CX X r e k h=>by obtain⟨⟨o,x⟩,hv,h9⟩:=aJ h;obtain⟨p,rfl⟩:=pF hv;obtain⟨h1,h2⟩:=aD h9;cases sk h1;exact⟨FU (ia.T Γ Z CX X r _ k h2).1,λ⟨_,_,_,z⟩=>by cases z⟩) (λ_ _=>rfl) λ_ _=>rfl
 |fV a b ia ib=>exact We.t (λΓ Z CX X r e k h=>by
  obtain⟨⟨o,xs,p⟩,hv,h9⟩:=aJ h;cases iZ hv;obtain⟨h1,h2⟩:=aD h9;cases sk h1;rcases tM h2 with⟨x,y,rfl,h3,h4⟩|⟨x,y,z,t,rfl,h3,h4⟩
  .have w:=AU (pos:=p) (ia.T Γ Z CX X r _ k h3).1 (FQ (ib.T Γ Z CX X r _ k h4).1);exact⟨w.pt,λ_=>w⟩
  .have w:=AU (ia.T Γ Z CX X r _ k h3).1 ((ib.T Γ Z CX X r _ k h4).2 ⟨_,_,_,rfl⟩);exact⟨w.pt,λ_=>w⟩) (λ_ _=>rfl) λ_ _=>rfl
 |tV a b ia ib=>exact We.t (λΓ Z CX X r e k h=>by
  obtain⟨⟨o,xs,p⟩,hv,h9⟩:=aJ h;cases iZ hv;obtain⟨h1,h2⟩:=aD h9;cases sk h1;rcases tM h2 with⟨x,y,rfl,h3,h4⟩|⟨x,y,z,t,rfl,h3,h4⟩
  .have w:=AV (pos:=p) (ia.T Γ Z CX X r _ k h3).1 (FR (ib.T Γ Z CX X r _ k h4).1);exact⟨w.pt,λ_=>w⟩
  .have w:=AV (ia.T Γ Z CX X r _ k h3).1 ((ib.T Γ Z CX X r _ k h4).2 ⟨_,_,_,rfl⟩);exact⟨w.pt,λ_=>w⟩) (λ_ _=>rfl) λ_ _=>rfl
 |iF f=>exact We.x (λΓ Z CX X r e k h=>by
  obtain⟨⟨x,n,p⟩,hv,h9⟩:=aJ h;cases mT hv;obtain⟨h1,h0,h2,h3⟩:=bL h9;have h1:=eqB h1;subst h1;obtain⟨y,q,rfl,h4⟩:=kN h2;obtain⟨⟨m,c⟩,h5,h6⟩:=aJ h4;have h6:=eqB h6;subst h6;obtain⟨v,e1,e2⟩:=k.xf n (eqB h3);have ee:wE Z (.iF n)=λ_ H Q=>Q v H:=by show(match Z.xf with|some v=>(λ_ H Q=>Q v H:TE)|none=>hW)=_;rw[e1]
  rw[ee];exact e2 m c h5 _ _ h0) (λ_ _=>rfl) λ_ _=>rfl
 |lH a b ia ib=>exact We.x (λΓ Z CX X r e k h=>by obtain⟨v,hv,h9⟩:=aJ h;obtain⟨_,rfl⟩:=xG hv;obtain⟨h1,h2,h3⟩:=aX h9;show PE X _ (jK (uU Z.K) _ _);rw[k.kk];exact Bl GJ (ia.E Γ Z CX X r _ k h2) (ib.E Γ Z CX X r _ k h3) (Cg h1)) (λ_ _=>rfl) λ_ _=>rfl
 |hV o j as io ia=>exact We.x (λΓ Z CX X r e k h=>by
  obtain⟨oF,h⟩:=aD h;obtain⟨⟨b,m,es,l⟩,hv,h9⟩:=aJ h;obtain⟨ap,cp,rfl,hb⟩:=kM hv;obtain⟨h0,h6,h7,h8⟩:=bL h9;obtain⟨h1,h2,h3⟩:=aX h0;obtain⟨h8,DR⟩:=aD h8;obtain⟨C,sp,f,fd,ps,n,c1,c2,c3,c4,c5,c6⟩:=k.md j _ _ (eqB h6);have ee:wE Z (.hV o j as)=jL C m sp [.aM] Z.E (wE Z o) (wA Z as):=by show(match Z.md[j]? with|some r=>jL r.1 r.2.1 r.2.2 [.aM] Z.E (wE Z o) (wA Z as)|none=>hW)=_;rw[c1]
  rw[ee];obtain⟨y,es,rfl⟩:=pD DR;exact zhi (io.E Γ Z CX X r _ k h7) c4 c5 c3 (k.rm oF c2) c6 k.px (ia.A Γ Z CX X r _ k h8) h1 (z0 h8) (sk h3) (hb.symm.trans h2)) (λ_ _=>rfl) λ_ _=>rfl
 |zY op tW a b c ia ib ic=>exact We.t (λΓ Z CX X r e k h=>by obtain⟨⟨l,o,rs⟩,hv,h9⟩:=aJ h;obtain⟨p,rfl⟩:=mR hv;obtain⟨h1,h2⟩:=aD h9;obtain⟨⟨r1,r2⟩,hr,h3⟩:=aJ h2;cases sk h1;cases CS hr;obtain⟨h2,h3,h4,h5,h6⟩:=cV h3;obtain⟨h6,h7⟩:=aD h6;refine⟨?_,λ⟨_,_,_,z⟩=>by cases z⟩;show PT X _ (qL (Bh (jQ Z.K (mB (cmpD _))) (jQ Z.K (mB (cmpD _))) _ _ _));rw[k.kk];exact zgo (uX k.ck.hu _ h2) (uX k.ck.hu _ h3) (ia.E Γ Z CX X r _ k h5) (ib.E Γ Z CX X r _ k h6) (ic.E Γ Z CX X r _ k h7) (cN h4)) (λ_ _=>rfl) λ_ _=>rfl
 |zX a ia=>exact We.x (λΓ Z CX X r e k h=>by obtain⟨⟨x,es⟩,hv,h9⟩:=aJ h;obtain⟨_,_,rfl⟩:=i' hv;obtain⟨h1,h2,h3⟩:=aX h9;obtain⟨y,hy,h4⟩:=aJ h3;cases fU hy;obtain⟨h4,h5⟩:=aD h4;have h1:=eqB h1;subst h1;obtain⟨g1,g2,g3,g4⟩:=k.ck.blt h2;show PE X _ (lV (rAgg Z.K "list") _);rw[k.kk];exact zk O9 g2 (show dg "list"=_ by decide+kernel) (eP (ia.E Γ Z CX X r _ k h5) jW (cN h4)) (by rw[c9,h4];rfl) g1 g4 g3) (λ_ _=>rfl) λ_ _=>rfl
 |lit o io=>exact We.x (λΓ Z CX X r e k h=>by obtain⟨oF,h⟩:=aD h;obtain⟨⟨x,es⟩,hv,h9⟩:=aJ h;obtain⟨_,_,rfl⟩:=i' hv;obtain⟨h1,h2,h3⟩:=aX h9;obtain⟨y,hy,h4⟩:=aJ h3;cases fU hy;obtain⟨⟨b,n,es,l⟩,hm,h8⟩:=aJ h4;obtain⟨ap,cp,rfl,hb⟩:=kM hm;obtain⟨h0,h6,h7⟩:=aX h8;obtain⟨h5,DR,RV⟩:=aX h0;cases fT h7;have h5:=eqB h5;subst h5;have h1:=eqB h1;subst h1;obtain⟨g1,g2,g3,g4⟩:=k.ck.blt h2;show PE X _ (lV (zW Z.K) (oK (sW Z.K "dict" zV _) fQ));rw[k.kk];exact zk (RT (k.ck.calm oF)) g2 (show dg "list"=_ by decide+kernel) (eP (zoa PySem.F.plainAttrs_dict PySem.F.slot_dict_items PySem.F.type_dict_items RS (io.E Γ Z CX X r _ k h6) (oN DR) (hb.symm.trans RV)) jW rfl) rfl g1 g4 g3) (λ_ _=>rfl) λ_ _=>rfl
 |lc nt js N' t en it c x ii ic ie=>exact We.x (DQ ii ic ie) (λ_ _=>rfl) λ_ _=>rfl
 |nil=>exact⟨λ_ _ _ _ _ _ _ h=>ff rfl h,λΓ Z CX X r es k h=>by cases fT h;exact jW,λ_ _ _ _ _ _ _ h=>ff rfl h⟩
 |cons a q ia iq=>exact⟨λ_ _ _ _ _ _ _ h=>ff rfl h,λΓ Z CX X r es k h=>by
  cases es with
  |nil=>cases h
  |cons e es=>obtain⟨h1,h2,h3⟩:=aX h;exact eP (ia.E Γ Z CX X r _ k h2) (iq.A Γ Z CX X r _ k h3) (cN h1),λ_ _ _ _ _ _ _ h=>ff rfl h⟩
end
theorem z1 (outer:List Env)(H:Hp)(s:bb)(e:Value)(a:bb):¬CXE P w base outer H s (λ_ _ _=>False) e a:=λz=>by obtain⟨_,_,_,_,_,_,z⟩:=z;exact z
def tX (X:Cx)(pn:List (Addr×Obj))(E:Value->bb->Prop):Cx:={X with pn:=pn,xe:=E}
theorem RW (ok:X.Ok):(tX X pn E).Ok:=⟨ok.mod,ok.kind,ok.glob,ok.blt,ok.above,ok.inj,ok.has,ok.nX,ok.hd,ok.frames,ok.oI,ok.iF,ok.bs,ok.iG,ok.fN,ok.fO,ok.bS,ok.kY,ok.vO⟩
theorem RX (k:Cok Γ Κ Φ X r)(hx:Γ.xc=Z8)(pn:List (Addr×Obj))(E:Value->bb->Prop):Cok Γ Κ Φ (tX X pn E) r:=⟨k.hN,k.hs,k.nd,k.fn,k.kind,k.free,k.fns,k.cst,k.mU,k.room,k.calm,k.hu,k.hT,k.tL,λn c z=>(by rw[hx]at z;cases z),k.xk⟩
section
variable {P:cu}{w:World}{A:gi}{E:Value->bb->Prop}{h:Heap}{g:Array qi}{d:Drawn}{t:Nat}{os:ke}
variable {nm q:Str}{C N:Addr}{bs bm bB:List Value}{hdct:Bool}{sn:List Str}{sub:List Value}{ab:Bool}{col:Option Bool}{dd:Option Addr}{k0 k1 k2 k3 k5:Option Value}{B newId initId:String}{mN:Str->Option Value}{us:List Value}{f:Addr}{o:Obj}
theorem zo5 (F:ExcBaseFacts B newId initId bB)(T:n5 h bB bm)(a:h.get? C=Z9 (lv nm q C N bs bm hdct sn sub ab col dd k0 k1 k2 k3 k5 newId))(hN:h.Ns N mN)(v:mN "__init__"=Z9 (.ref f))(hf:h.get? f=Z9 o)(hc:o.cls=.type "function")
  (go:∀n e,h.objs.size<=e->n4 h n e (.ref C) us->wpAny (model P w) A (call (.ref f) (.ref e::us)) (λr p=>r=.none/\Q (.done (.ret (.ref e))) p) E ⟨n,g,d,t,os⟩) (x:us.length<=ba):
  wpAny (model P w) A (Builtin.«type.__call__» ⟨.ref C::us,[]⟩) Q E ⟨h,g,d,t,os⟩:=by
 repeat (first|(with_reducible refine wpAny_madeBy_exc a ?_)|(with_reducible refine cg a ?_)|wp_step)
 refine codeAny_call_builtin_code (Code.quiet_builtin _ F.quiet) (wpAny_check_new_subT F T a (codeAny_exc_new_subT F T a ?_ x));generalize s:({cls:=.type "tuple",data:=.seq us.toArray}:Obj)=i;generalize l:({cls:=.ref C,data:=.fields #[.ref h.objs.size,.none,.none,.none,.bool Z6,.none]}:Obj)=c;have keep:∀b u,h.get? b=Z9 u->((h.push i).push c).get? b=Z9 u:=λb u z=>aw _ (aw _ z);have j:((h.push i).push c).get? (h.objs.size+1)=Z9 c:=lw (by rw[nl]) (by rw[<-l];rfl);have m:((h.push i).push c).get? h.objs.size=Z9 i:=aw _ (lw rfl (by rw[<-s];rfl));have k:c.cls=.ref C:=by rw[<-l]
 have self:(ZP C::bm).contains (.ref C)=true:=by simp
 repeat (first|(with_reducible refine cg j ?_;rw[k])|(with_reducible refine ij (keep _ _ a) ?_;rw[self])|wp_step)
 refine wpAny_typeLookup_tail (keep _ _ a) (hN.keeps keep) (T.keeps keep) F.mroIs F.init.lookup ?_;rw[v];apply ig;apply am;refine am (mw ⟨o,keep _ _ hf,hc⟩ ?_);have made:n4 h ((h.push i).push c) (h.objs.size+1) (.ref C) us:=⟨keep,g7 (g8 _),h.objs.size,by rw[j,<-l],g7 (ae _),by rw[m,<-s]⟩;refine bt (am (gj (go _ _ (g8 _) made) (λr p z=>?_) λ_ _ z=>z));obtain⟨rfl,z⟩:=z
 wp_walk
 exact z
theorem zsr (F:ExcBaseFacts B newId initId bB)(T:n5 h bB bm)(a:h.get? C=Z9 (lv nm q C N bs bm hdct sn sub ab col dd k0 k1 k2 k3 k5 newId))(hN:h.Ns N mN)(c:mN "__init__"=Z9 (.ref f))(hf:h.get? f=Z9 o)(hc:o.cls=.type "function")
  (go:∀b e,h.objs.size<=e->n4 h b e (.ref C) us->wpAny (model P w) (A.under (.builtin "type.__call__" ⟨.ref C::us,[]⟩)) (call (.ref f) (.ref e::us)) (λr i=>r=.none/\Q (.ref e) i) E ⟨b,g,d,t,os⟩) (j:us.length<=ba):
  wpAny (model P w) A (call (.ref C) us) Q E ⟨h,g,d,t,os⟩:=by
 have k:=tc_lookup;have l2:=tc_bind (.ref C);apply pc;apply codeAny_of_tree
 repeat (any_goals (first|(with_reducible refine cg a ?_)|assumption|wp_step))
 exact⟨rfl,codeAny_call_builtin_at (Code.quiet_builtin _ (by decide+kernel)) entry_typeCall (wpAny_check_type_call_sub a (zo5 F T a hN c hf hc go j))⟩
end
section
open Builtin
open Builtin.ObjectAttr
structure XF (K:Z5)(C:Addr)(f:Str):Prop where
 ex:iJ K C=Z7
 hd:∀dd cd sl,K.lookup C=Z9 ⟨.type "type",dd,.cls cd,sl⟩->cd.hasDict=Z7
 sa:Z4 K (.ref C) "__setattr__"=Z9 (Z9 (.builtin "object.__setattr__"))
 nf:Z4 K (.ref C) f=Z9 Z8
 ga:Z4 K (.ref C) "__getattribute__"=Z9 (Z9 (.builtin "BaseException.__getattribute__"))
 gt:Z4 K (.ref C) "__getattr__"=Z9 Z8
 ob:ZX K (.ref C) (.type "object")=Z9 Z7
 be:ZX K (.ref C) (.type "BaseException")=Z9 Z7
theorem Jf:∀{l:List Value},n5 h qZ l->refuseLoop self what qZ=pure ()->refuseLoop self what l=pure ()
 |_,.base,e=>e
 |_,.own _ _ _ T,e=>by rw[refuseLoop_ref];exact Jf T e
section
variable {prog:cu}{w:World}{A:gi}{E:Value->bb->Prop}{K:Z5}{h:Heap}{g:Array qi}{d:Drawn}{t:Nat}{os:ke}{C a:Addr}{ob:Obj}{vs:Array Value}{f:Str}{u:Value}
def Jg (h:Heap)(a:Addr)(ob:Obj)(f:Str)(u:Value)(h':Heap):Prop:=∃dp,h.get? dp=Z8/\dp≠a/\h.objs.size<=dp/\h'.get? a=Z9 {ob with dict:=Z9 dp}/\h'.Ns1 dp (λy=>if y=f then Z9 u else Z8)/\∀b o,b≠a->h.get? b=Z9 o->h'.get? b=Z9 o
theorem zh9 (X:K.In h)(x:XF K C f)(k:h.get? a=Z9 ob)(hc:ob.cls=.ref C)(hd:ob.dict=Z8)(da:ob.data=.fields vs)
  (go:∀l p,Jg h a ob f u l->Q (.done (.ret .none)) ⟨l,g,d,p,os⟩):
  wpAny (model prog w) A (Builtin.«object.__setattr__» ⟨[.ref a,.str f vv9,u],[]⟩) Q E ⟨h,g,d,t,os⟩:=by
 obtain⟨bm,⟨N,nm,q,bs,j,Y,sub,Z,H,dd,k0,k1,k2,k3,k5,mN,B,hN,T⟩,_⟩:=XC.mk X x.ex;have I:j=true:=by obtain⟨J,cd,L,y0,y1,y2,y3,y5,D,_⟩:=u9 x.ex;have O:=x.hd _ _ _ D;have F:=X _ _ D;rw[B]at F;cases F;exact O
 have c:=Jf (self:=.ref a) (what:="__setattr__") T (by kernel_rfl);have P:=Z3 (M:=model prog w) X x.nf
 repeat (first|rw[refuse_eq]|(rw[refuseLoop_ref,c])|(with_reducible refine cg k ?_;rw[hc])|with_reducible refine wpAny_mroOf_exc B ?_|with_reducible refine P.at ?_|wp_step)
 rw[hd,sg (by simp[typeHasDict]),da];have g1:(h.push {cls:=.type "dict",data:=.dict #[]}).get? a=Z9 ob:=aw _ k;have na:=cr (bj k);refine am (wpAny_alloc' (am (wpAny_update' g1 (bt ?_))));generalize hh:((h.push {cls:=.type "dict",data:=.dict #[]}).update a λo=>{cls:=o.cls,dict:=Z9 h.objs.size,data:=o.data,slots:=o.slots})=m;have gd:m.get? h.objs.size=Z9 {cls:=.type "dict",data:=.dict #[]}:=by rw[<-hh];exact(jd _ _ _ _ (Ne.symm na)).trans (lw rfl rfl)
 have ga:m.get? a=Z9 {ob with dict:=Z9 h.objs.size}:=by rw[<-hh];refine gz _ g1 ?_;have fr:=(Heap.get?_some_iff.mp k).2;obtain⟨oc,od,r,R⟩:=ob;cases r<;>first|rfl|exact fr
 have keep:∀b o,b≠a->h.get? b=Z9 o->m.get? b=Z9 o:=λb o n e=>by rw[<-hh];exact(jd _ _ _ _ n).trans (aw _ e)
 have nd:m.Ns h.objs.size (λ_=>Z8):=⟨_,#[],_,gd,rfl,λe z=>absurd z (by simp),λ_=>rfl⟩
 delta storeInDict newKeyGuard
 refine am (bt (am (wpAny_nsSet1 (pq nd) λl n1 G=>?_)));obtain⟨oD,S,U,s,hdD,v⟩:=n1.count (Within.cons f u Within.nil);have i:[f].length<=ba+1:=by rw[db];exact(by decide:1<=16777216+1)
 have y:=bq v i;refine am (wpAny_lookBehind s (hdD▸pastItsLine_dict y) ?_)
 wp_walk
 refine go l _ ⟨h.objs.size,g7 (ae _),Ne.symm na,ae _,(G.2 a na).trans ga,n1,λb o n e=>(G.2 b (cr (bj e))).trans (keep b o n e)⟩
theorem zgb {M:Model}{b:Value}{Q:Unit->bb->Prop}(X:K.In h)(x:XF K C f)(c:h.get? a=Z9 ob)(e:ob.cls=.ref C)(i:Q () ⟨h,g,d,t,os⟩):
  wpAny M A (j7 "object.__setattr__" ⟨[.ref a,b,u],[]⟩) Q E ⟨h,g,d,t,os⟩:=by
 have j:qs "object.__setattr__"=Z9 .slot:=by decide+kernel
 have k:splitId "object.__setattr__"=Z9 ("object","__setattr__"):=by decide+kernel
 have l:=W.looks_subIn (M:=M) X x.ob;have m:=PySem.F.args_object_setattr_3 (.ref a) b u;simp only[j7,j,k];refine am ?_;unfold ph
 repeat (first|(with_reducible refine cg c ?_;rw[e])|with_reducible refine l.at ?_|wp_step)
 exact i
theorem zq3 (X:K.In h)(x:XF K C f)(e:h.get? a=Z9 ob)(hc:ob.cls=.ref C)(hd:ob.dict=Z8)(da:ob.data=.fields vs)
  (go:∀c b,Jg h a ob f u c->Q () ⟨c,g,d,b,os⟩):wpAny (model prog w) A (setAttr (.ref a) f u) Q E ⟨h,g,d,t,os⟩:=by
 have i:=PySem.F.slot_list_setattr.bind (.ref a)
 repeat (any_goals (first|assumption|(with_reducible refine cg e ?_;rw[hc])|with_reducible refine(Z3 (M:=model prog w) X x.sa).at ?_|wp_step))
 refine i4 PySem.F.slot_list_setattr.plain PySem.F.entry_object_setattr (zgb X x e hc (zh9 X x e hc hd da λc b p=>?_))
 repeat (any_goals (first|assumption|wp_step))
 exact go c b p
theorem zld (X:K.In h)(x:XF K C f)(c:h.get? a=Z9 ob)(hc:ob.cls=.ref C)(da:ob.data=.fields vs)(hd:ob.dict=Z9 dp)(hn:h.Ns dp k)(l:k f=Z9 u)
  (m:Q (.done (.ret u)) ⟨h,g,d,t,os⟩):wpAny (model prog w) A (Builtin.«object.__getattribute__» ⟨[.ref a,.str f y],[]⟩) Q E ⟨h,g,d,t,os⟩:=by
 obtain⟨bm,⟨N,nm,q,bs,b,z,sub,B,n,D,F,G,H,I,J,L,e,hN,T⟩,_⟩:=XC.mk X x.ex;have o:b=true:=by obtain⟨p,cd,r,O,P,R,S,U,i,_⟩:=u9 x.ex;have s:=x.hd _ _ _ i;have j:=X _ _ i;rw[e]at j;cases j;exact s
 have v:=Z3 (M:=model prog w) X x.nf
 repeat (first|(with_reducible refine cg c ?_;rw[hc])|with_reducible refine v.at ?_|wp_step)
 rw[da]
 repeat (first|(with_reducible refine cg c ?_;rw[hc])|with_reducible refine cg e ?_|wp_step)
 rw[hd]
 repeat (first|(with_reducible refine wpAny_nsGet hn ?_;rw[l])|wp_step)
 exact m
theorem zlj {b:Tok}{dp:Addr}{c:Str->Option Value}{R:Result->bb->Prop}(X:K.In h)(x:XF K C f)(e:h.get? a=Z9 ob)(hc:ob.cls=.ref C)(da:ob.data=.fields vs)(hd:ob.dict=Z9 dp)(hn:h.Ns dp c)(i:c f=Z9 u)
  (j:R (.ok (.ret u)) ⟨h,g,d,t,os⟩):i6 (model prog w) A (.call (.builtin "BaseException.__getattribute__") ⟨[.ref a,.str f b],[]⟩) R ⟨h,g,d,t,os⟩:=by
 refine i4 F.excAttr_ValueError.ga.plain F.entry_bexc_ga ?_;have k:=W.looks_subIn (M:=model prog w) X x.be;have n:=F.args_bexc_ga (.ref a) (.str f b);have l:qs "BaseException.__getattribute__"=Z9 .slot:=by decide+kernel
 have m:splitId "BaseException.__getattribute__"=Z9 ("BaseException","__getattribute__"):=by decide+kernel
 simp only[j7,l,m];refine am ?_;unfold ph
 repeat (first|(with_reducible refine zld X x e hc da hd hn i ?_;exact j)|(with_reducible refine cg e ?_;rw[hc])|with_reducible refine k.at ?_|wp_step)
theorem zvo (X:K.In h)(x:XF K C f)(b:h.get? a=Z9 ob)(hc:ob.cls=.ref C)(da:ob.data=.fields vs)(hd:ob.dict=Z9 dp)(hn:h.Ns dp c)(e:c f=Z9 u)(hh:handedOut u=pure u)
  (i:Q u ⟨h,g,d,t,os⟩):wpAny (model prog w) A (getAttrBy (.ref a) (.str f j) Z7 ex) Q E ⟨h,g,d,t,os⟩:=by
 have k:=F.excAttr_ValueError.ga.bind (.ref a);have l:(ex&&onTheHeap (Value.builtin "BaseException.__getattribute__"))=false:=by cases ex<;>rfl
 repeat (any_goals (first|assumption|(with_reducible refine cg b ?_;rw[hc])|with_reducible refine(Z3 (M:=model prog w) X x.ga).at ?_|with_reducible refine(Z3 (M:=model prog w) X x.gt).at ?_|wp_step))
 refine zlj X x b hc da hd hn e ?_
 repeat' first|assumption|wp_step
theorem zrk (X:K.In h)(x:XF K C f)(b:h.get? a=Z9 ob)(hc:ob.cls=.ref C)(da:ob.data=.fields vs)(hd:ob.dict=Z9 dp)(hn:h.Ns dp c)(e:c f=Z9 u)(hh:handedOut u=pure u)
  (i:Q u ⟨h,g,d,t+1,os⟩):wpAny (model prog w) A (ri (.ref a) f ex) Q E ⟨h,g,d,t,os⟩:=by
 repeat (any_goals (first|assumption|with_reducible apply zvo X x b hc da hd hn e hh|wp_step))
end
end
def exO (a:Addr)(ob:Obj):HO:=.ext λh=>h.get? a=Z9 ob
def xZ:HO->Prop
 |.ext _=>True
 |.xd _=>True
 |_=>False
def jE (H:Hp)(a:Addr):Hp:=λb=>if b=a then Z8 else H b
theorem z3:jE H a a=none:=by unfold jE;rw[sf rfl]
theorem rK (h:b≠a):jE H a b=H b:=by unfold jE;rw[sg h]
theorem Jh (I:Inv X b c H s)(h:H a=Z9 (exO a ob)):s.heap.get? a=Z9 ob:=(I.hok a _ h).1
theorem Ji (e:h.get? a=Z9 ob):z16 P w H h a (exO a ob):=⟨e,⟨_,e⟩,λb c p k=>k _ p⟩
theorem Inv.jE (I:Inv X pins g H s)(h:H a=Z9 o)(i:xZ o):Inv X pins g (jE H a) s:=by
 have ne:∀{b u},H b=Z9 u->(xZ u->False)->b≠a:=λ{b u} e n z=>by subst z;rw[h]at e;cases e;exact n i
 have d:∀{b},H b=Z8->Mi.jE H a b=none:=λ{b} e=>by
  unfold Mi.jE;split
  .rfl
  .exact e
 refine⟨I.ok,I.os,I.bare,⟨I.base.keep,I.base.slot,λb o e n j=>d (I.base.free b o e n j),I.base.there,λb f e=>?_,λb o u e=>?_,λb ps e=>?_⟩,I.loc,I.cell,d I.free,λx c e=>d (I.aZ x c e),λp k=>?_,λb o e=>?_,I.len,I.fx⟩
 .have e:=I.base.cI b f e;rw[rK (ne e id)];exact e
 .have e:=I.base.cC b o u e;rw[rK (ne e id)];exact e
 .obtain⟨m,e⟩:=I.base.cJ b ps e;exact⟨m,by rw[rK (ne e id)];exact e⟩
 .obtain⟨l,r,t⟩:=I.pin p k;exact⟨l,d r,t⟩
 .have v:b≠a:=by rintro rfl;rw[z3]at e;cases e
  rw[rK v]at e;refine(I.hok b o e).stay (λ_ _ _ q=>q) (λc q=>?_) λc f q=>?_
  .rw[rK (ne q id)];exact q
  .rw[rK (ne q id)];exact q
theorem zko (I:Inv X pins σ H s)(hO:H a=Z9 (exO a ob))(ry:RelV y u)(h0:s.heap.get? dp=Z8)(hz:s.heap.objs.size<=dp)(na:dp≠a)(ga:h'.get? a=Z9 {ob with dict:=Z9 dp})(ns:h'.Ns1 dp (fun g=>if g=f then Z9 u else Z8))(k:∀b o,b≠a->s.heap.get? b=Z9 o->h'.get? b=Z9 o):
  H dp=Z8/\Inv X pins σ (upd (upd H dp (.xd [(f,y)])) a (exO a {ob with dict:=Z9 dp})) {s with heap:=h',toks:=tk}:=by
 have Jj:=I.hok.fresh hz;have ne:∀{b u},H b=Z9 u->(u=exO a ob->False)->b≠a:=λ{b u} e n z=>by subst z;rw[hO]at e;cases e;exact n rfl
 have nd:∀{b u},H b=Z9 u->b≠dp:=λ{b u} e z=>by subst z;rw[Jj]at e;cases e
 have up:∀{b u},H b=Z9 u->(u=exO a ob->False)->upd (upd H dp (.xd [(f,y)])) a (exO a {ob with dict:=Z9 dp}) b=Z9 u:=λ{b u} e n=>by rw[aE (ne e n),aE (nd e)];exact e
 have nn:∀{b o},s.heap.get? b=Z9 o->H b=Z8->b≠a/\b≠dp:=λ{b o} e n=>⟨(by rintro rfl;rw[hO]at n;cases n),(by rintro rfl;rw[h0]at e;cases e)⟩;refine⟨Jj,I.un ⟨λb o e n _ _=>k b o (nn e n).1 e,λb o e n _ _=>⟨o.slots,k b o (nn e n).1 e⟩,λb o e n _=>?_,λb o e _=>?_,λb xs e=>up e nofun,λb o u e=>up e nofun,λb ps e=>⟨#[],by rw[Array.append_empty];exact up e nofun⟩⟩ λb o e=>?_⟩
 .rw[aE (nn e n).1,aE (nn e n).2];exact n
 .by_cases hb:b=a
  .subst hb;exact⟨_,ga⟩
  .exact⟨o,k b o hb e⟩
 .by_cases hb:b=a
  .subst hb;rw[bF]at e;cases e;exact Ji ga
  .rw[aE hb]at e;by_cases hd:b=dp
   .subst hd;rw[bF]at e;cases e;refine⟨_,ns,λg=>?_⟩;by_cases hg:g=f
    .subst hg;simp;exact ry
    .have :(g==f)=false:=by simpa using hg
     simp only[cw,this,List.lookup_nil,sg hg];exact True.intro
   .rw[aE hd]at e;refine(I.hok b o e).stay (λc v hc q=>k c v ?_ q) (λc q=>up q nofun) λc xs q=>up q nofun;rcases hc with rfl|hc
    .exact hb
    .exact ne hc nofun
def DS (K:Z5)(ta tv:TE)(f:Str):TS:=λD σ H=>tv σ H λy H1=>ta σ H1 λx H2=>∃a C ob vs,x=.ref a/\H2 a=Z9 (exO a ob)/\ob.cls=.ref C/\ob.dict=Z8/\ob.data=.fields vs/\XF K C f/\∀dp,H2 dp=Z8->dp≠a->D.nx σ (upd (upd H2 dp (.xd [(f,y)])) a (exO a {ob with dict:=Z9 dp}))
theorem RY (i:PE X o j)(l:PE X value tv)(hs:i5 value (Z9 (.Attribute o f c)) pos.line X.env=pure Z6):PS X (.Assign [.Attribute o f c] value pos) (DS X.K j tv f):=by
 intro b s d H D I h;refine j5 (aK (l b s d H _ I h) λu m ⟨y,n,p,r,q⟩=>aK (i b m d n _ p q) ?_) hs
 rintro ov E ⟨x,F,e,t,a,C,ob,G,ex,g,hc,hd,da,xf,v⟩
 subst ex;obtain rfl:ov=ZP a:=t;refine zq3 e.cG xf (Jh e g) hc hd da ?_
 rintro J w ⟨dp,h0,na,z,ga,ns,k⟩
 obtain⟨A,B⟩:=zko e g r h0 z na ga ns k;exact⟨d,_,B,v dp A na⟩
def tY (K:Z5)(f:Str):Sp:=λvs H Q _=>∃a C ob ws y,vs=[.ref a,y]/\H a=Z9 (exO a ob)/\ob.cls=.ref C/\ob.dict=Z8/\ob.data=.fields ws/\XF K C f/\∀dp,H dp=Z8->dp≠a->Q .aM (upd (upd H dp (.xd [(f,y)])) a (exO a {ob with dict:=Z9 dp}))
structure XI (K:Z5)(C f:Addr):Prop where
 RZ:∀dd cd sl,K.lookup C=Z9 ⟨.type "type",dd,.cls cd,sl⟩->ZY K cd.ns "__init__"=Z9 (Z9 (.ref f))
 fn:W.isFn K (.ref f)=Z7
theorem R0 {K:Z5}(X:K.In h)(G:h.Ns N m)(e:ZY K N n=Z9 (Z9 v)):m n=Z9 v:=by
 obtain⟨o,es,ep,a,hd,_,hf⟩:=G;unfold ZY at e;split at e
 .rename_i q;have z:=X _ _ q;rw[a]at z;cases z;cases hd;split at e
  .rename_i b;cases e;rw[<-hf];unfold nsFind findBy;rw[<-o6,b];rfl
  .split at e<;>cases e
 .cases e
theorem XI.at {K:Z5}{C:Addr}(X:K.In h)(q:iJ K C=Z7)(x:XI K C f):∃b N nm qn bs a n sub p c d e g k2 i j k o,h.get? C=Z9 (lv nm qn C N bs b a n sub p c d e g k2 i j "ValueError.__new__")/\h.Ns N k/\k "__init__"=Z9 (.ref f)/\n5 h qZ b/\h.get? f=Z9 o/\o.cls=.type "function":=by
 obtain⟨d,cd,b,e,g,k2,i,j,l,hm,hd,r,s⟩:=u9 q;have hN:h.Ns cd.ns (h.nsMap cd.ns):=.of_isNs (W.isNs_of_in X s);obtain⟨o,t,u⟩:=a6.mp (sx x.fn);refine⟨b,cd.ns,cd.name,cd.qualname,cd.bases,cd.hasDict,cd.slotNames,cd.subclasses,cd.abstract,cd.collection,d,e,g,k2,i,j,h.nsMap cd.ns,o,?_,hN,R0 X hN (x.RZ _ _ _ l),W.tail_of_in X r,X _ _ t,u⟩;have m:=X _ _ l;cases cd
 dsimp only at hm hd
 rw[hm,hd]at m;exact m
def x8 (X:Cx)(E:XK):Prop:=∀pins σ H s a C ob vs,Inv X pins σ H s->H a=Z8->(∃H1 s1,Inv X pins σ H1 s1/\s1.heap.get? a=Z8)->s.heap.get? a=Z9 ob->ob.cls=.ref C->ob.data=.fields vs->vs[1]?=Z9 .none->E (.ref C) ob.dict H->X.xe (.ref a) s
theorem zhw {M:Model}{A:gi}{E:Value->bb->Prop}{env:Env}{s:bb}{x:Sem Value}{Q:Flow->bb->Prop}{C:Addr}(hh:A.handled=Z8)
  (h:wpAny M A x (λv a=>∃e ob t bm,v=.ref e/\XC C a.heap bm/\a.heap.get? e=Z9 ob/\ob.cls=.ref C/\ob.data=.fields #[.ref t,.none,.none,.none,.bool Z6,.none]/\E (.ref e) a) E s):wpAny M A (raiseStmt env (Z9 x) Z8) Q E s:=by
 unfold raiseStmt;refine am (gj h (λv a j=>?_) λ_ _ x=>x);obtain⟨e,ob,t,bm,rfl,⟨N,nm,q,bs,f,m,sub,n,k,o,p,r,u,w,y,z,c,hN,T⟩,i,hc,da,l⟩:=j;have b:(ZP C::bm).contains (.type "BaseException")=true:=by rw[jn,HS T,lb]
 obtain⟨B,g,d,D,os⟩:=a
 repeat (first|(with_reducible refine cg i ?_;first|rw[hc]|rw[da])|with_reducible refine cg c ?_|(with_reducible refine ij c ?_;rw[b])|wp_step)
 rw[da]
 repeat (first|(with_reducible refine cg i ?_;first|rw[hc]|rw[da])|with_reducible refine cg c ?_|(with_reducible refine ij c ?_;rw[b])|wp_step)
 exact ol hh l
theorem zef {C:Addr}(hr:Room (k+1) X.A)(hg:Gl X x)(hm:X.mg x=Z9 (.ref C))(Q:WL x)(xf:XF X.K C fl)(xi:XI X.K C f)
  (F:FnOk X.prog X.w X.K X.mg X.base (CXE X.prog X.w X.base) k f fd ps (tY X.K fl)) (n:Binds X.K fd ps []) (he:PE X e te) (m:isStar e=Z6) (rs:x8 X E):
  PS X (.Raise (Z9 (.Call (.Name x np) [e] [] cp)) Z8 pos) (λ_ L H=>te L H λy h=>∀dp,h dp=Z8->E (.ref C) (Z9 dp) (upd h dp (.xd [(fl,y)]))):=by
 intro j s L H D I hq;have R:(jl cp (dk [e] X.env)).any (·.1)=false:=by rw[fH m];rfl
 refine am (jj (zhw (C:=C) hr.hd (am (gj (wpAny_Call_ofName (z4r I hg hm ?_ Q)) (λv s3 h3=>am (jj (bt h3))) λ_ _ z=>z))));have p:=(eP he jW m) cp j s L H (λM h=>match M with| [y]=>∀dp,h dp=Z8->E (.ref C) (Z9 dp) (upd h dp (.xd [(fl,y)]))|_=>False) I hq;rw[fH m]at p R ⊢;refine am (ig (kh (aK p λus s1 zz=>am (jj ?_))));obtain⟨M,h,O,r,S⟩:=zz
 obtain⟨y,rfl⟩:∃y,M=[y]:=by
  rcases M with _|⟨y,_|⟨z,l⟩⟩
  .exact S.elim
  .exact⟨y,rfl⟩
  .exact S.elim
 cases r with
 |cons ry rn=>
  cases rn;rename_i u;obtain⟨hp,g,d,t,os⟩:=s1;obtain⟨bm,N,nm,qn,bs,hdct,sn,sub,ab,col,dd,k0,k1,k2,k3,k5,mN,o,oC,hN,hi,T,hf,hc⟩:=xi.at O.cG xf.ex;refine am (wpAny_keeperOf_exc oC ?_);refine am (zsr PySem.F.excBase_ValueError T oC hN hi hf hc (λh' a hz made=>?_) (show 1<=ba by rw[db];decide));obtain⟨tp,ga,_,_⟩:=made.there;generalize c:({cls:=.ref C,data:=.fields #[.ref tp,.none,.none,.none,.bool Z6,.none]}:Obj)=ob at ga;have U:=O.laid (t':=t) made.keeps hz (Ji ga);have q:=O.hok.fresh hz
  let Q2:VK:=λv H3=>v=.aM/\∃dp,h dp=Z8/\dp≠a/\H3=upd (upd (upd h a (exO a ob)) dp (.xd [(fl,y)])) a (exO a {ob with dict:=Z9 dp})
  have B:tY X.K fl [.ref a,y] (upd h a (exO a ob)) Q2 (λ_ _ _=>False):=⟨a,C,ob,#[.ref tp,.none,.none,.none,.bool Z6,.none],y,rfl,bF,by rw[<-c],by rw[<-c],by rw[<-c],xf,λdp P G=>⟨rfl,dp,by rw[aE G]at P;exact P,G,rfl⟩⟩;have r2:Vals [V.ref a,y] [ZP a,u]:=.cons rfl (.cons ry .nil);refine pc (i8 (F.run _ X.stack _ _ ⟨[ZP a,u],[]⟩ [ZP a,u] [V.ref a,y] Q2 (λ_ _ _=>False) (hr.make C [u] []) (U.sO.make C [u] []) (n ⟨h',g,d,t,os⟩ [ZP a,u] U.cG (by rw[eo];exact(r2.length▸F.len _ _ _ _ B))) r2 B) λrr s' i=>?_);cases rr with
  |error e'=>obtain⟨_,_,_,_,_,_,z⟩:=i;exact z.elim
  |ok W=>
   cases W with
   |next=>exact i.elim
   |brk=>exact i.elim
   |cont=>exact i.elim
   |ret w=>
    obtain⟨v,H3,Y,rv,rfl,dp,P,G,rfl⟩:=U.after i;refine⟨rv,am (ig (wpAny_point (bt ?_)))⟩;have J:=Jh Y bF;have I4:=Mi.Inv.jE Y bF True.intro
    have eH:Mi.jE (upd (upd (upd h a (exO a ob)) dp (.xd [(fl,y)])) a (exO a {ob with dict:=Z9 dp})) a=upd h dp (.xd [(fl,y)]):=by
     funext b
     by_cases n:b=a
     .subst n;rw[z3,aE (Ne.symm G),q]
     .rw[rK n,aE n];by_cases hd:b=dp
      .subst hd;rw[bF,bF]
      .rw[aE hd,aE hd,aE n]
    rw[eH]at I4;obtain⟨zG,xc,_⟩:=XC.mk Y.cG xf.ex;refine⟨a,_,tp,zG,rfl,xc,J,by rw[<-c],by rw[<-c],rs j L _ s' a C _ _ I4 ?_ ⟨h,_,O,made.new⟩ J (by rw[<-c]) (by rw[<-c]) rfl (S dp P)⟩;rw[aE (Ne.symm G)];exact q
theorem zn6 {C:Addr}(m:X.fx=[(n,.ref a)])(o:X.env.scope.names.lookup n=Z9 .local)(hd:WL n)(e:z0x (.Name n p)=Z7)(r:Xh X a i)(x:i.cls=.ref C)(da:i.data=.fields ws)(j:i.dict=Z9 dp)(y:Xh X dp od)(hm:∀h:Heap,h.get? dp=Z9 od->h.Ns dp z)(A:z f=Z9 u)(l:RelV v u)(xf:XF X.K C f):
  PE X (.Attribute (.Name n p) f q) (λ_ H Q=>Q v H):=by
 intro b s B H Q I h;refine zdm (oN e) (aK (Ia m o hd b s B H (λw k=>w=.ref a/\k=H) I ⟨rfl,rfl⟩) λw D E=>?_);obtain⟨G,k,c,F,rfl,rfl⟩:=E;obtain rfl:w=ZP a:=F;obtain⟨hh,g,d,t,os⟩:=D;exact zrk c.cG xf (r _ _ _ _ c) x da j (hm _ (y _ _ _ _ c)) A (W.handedOut_of (Gq l)) ⟨v,k,c.tok (t+1),l,h⟩
def tZ (X:Cx)(a:Addr)(oe:Obj):Cx:={X with A:=X.A.mark (Z9 (.ref a)),calm:=Z6,pn:=(a,oe)::X.pn,xe:=λ_ _=>False}
theorem R1 (ok:X.Ok):(tZ X a b).Ok:=⟨ok.mod,ok.kind,ok.glob,ok.blt,ok.above,ok.inj,ok.has,ok.nX,λz=>(by cases z),ok.frames,ok.oI,ok.iF,ok.bs,ok.iG,ok.fN,ok.fO,ok.bS,ok.kY,ok.vO⟩
theorem R3 (I:Inv X b e H s)(f:s.heap.get? a=Z9 d)(g:H a=Z8)(h:a≠X.env.locals)(i:a∉X.fs)(j:∀v,d.data≠.cell v):Inv (tZ X a d) b e H s:=
 ⟨R1 I.ok,I.os,I.bare,I.base,I.loc,I.cell,I.free,I.aZ,λp c=>by
  rcases bh.mp c with rfl|c
  .exact⟨f,g,h,i,j⟩
  .exact I.pin p c,I.hok,I.len,I.fx⟩
theorem Jk (ok:X.Ok)(I:Inv (tZ X a e) b c H s):Inv X b c H s:=⟨ok,I.os,I.bare,I.base,I.loc,I.cell,I.free,I.aZ,λp d=>I.pin p (a9 _ d),I.hok,I.len,I.fx⟩
theorem Cok.tZ (k:Cok b Κ Φ X r)(c:b.xc=Z8)(a:Addr)(d:Obj):Cok {b with cm:=Z6,fns:=[]} Κ Φ (Mi.tZ X a d) r where
 hN:=k.hN
 hs:=k.hs
 nd:=k.nd
 fn:=k.fn
 kind:=k.kind
 free:=k.free
 fns:=λj f n e=>by simp at e
 cst:=k.cst
 mU:=λj f n e=>by simp at e
 room:=λz=>by cases z
 calm:=λz=>by cases z
 hu:=k.hu
 hT:=k.hT
 tL:=k.tL
 xc:=λg h z=>by have z:b.xc=Z9 (g,h):=z;rw[c]at z;cases z
 xk:=⟨k.xk.sub,k.xk.rs,k.xk.gP⟩
inductive WS where
 |nil|seq (a b:WS)|asg (i:Nat) (e:W)|fld (o:W) (f:Str) (e:W)|put (o k v:W)|exp (e:W)|app (o v:W)|ret (e:W)|ifS (c:W) (a b:WS)|x9 (c:W) (b:WS)|aV (t:Tg) (it:C) (b:WS)|iS (c:Str)|z4 (o:W) (f:Str) (e:W)|x' (c fl:Str) (e:W)|kO (t:Tg) (it:W) (b:WS)|t8 (b:WS) (c fl:Str) (h:WS) (i:Nat)|t9 (b:WS) (c:Str) (h:WS)
 deriving Inhabited
def DT:W->Bool
 |.aT c=>!kL c
 |_=>Z6
theorem R4 (k:Cok f Κ Φ X r)(F:kG f i x=Z7)(hn:kL c=Z6)(a:chkE f c v=Z7):PS X (.Assign [.Name x px] v pos) (jV (tD X.K (aL Κ Φ c)) (uR i)):=by
 obtain⟨h,o,j⟩:=k.loc F;have nd:X.N.Nodup:=k.hN▸k.nd;cases u:jM v with
 |false=>exact wI nd h o ((all c).E f X r _ k a) u j
 |true=>
  cases v<;>first|(cases u;done)|skip
  .rename_i M O s p;cases g:(X.env.blockKind==.function&&X.env.kindOf x==Z9 .local&&px.line==p.line&& !(s.names.any λ(n,k)=>n==x&&(k==.local||k==.cell)))with
   |false=>exact zec nd h o ((all c).E f X r _ k a) (by rw[zK,g]) j
   |true=>
    obtain⟨P,Q,R,S,it,b,l,rfl⟩:=Ii hn a;obtain⟨G,t,T,I,m,w,e,y,h0,z,A,B,C,hs,d⟩:=sC (all it) (all b) (all l) k a;cases e;have J:X.env.scope.names.lookup x=Z9 .local:=by simp at g;exact g.1.1.2
    exact PS.imp (zam (k.calm d) nd h J j.2 y z A B C (by rw[zK,g]) hs) λD L H q=>(zfo (pos:=p) (k.calm d) y h0 z A B C hs).2 L H _ q
  .exact(Ij a).elim
  .exact(Ik a).elim
def rz:WS->Bool
 |.seq a b=>rz a||rz b
 |.iS _=>Z7
 |.x' _ _ _=>Z7
 |.ifS _ a b=>rz a||rz b
 |.x9 _ _=>Z7
 |.aV _ _ _=>Z7
 |.kO _ _ _=>Z7
 |_=>Z6
def sets:WS->List Nat
 |.seq a b=>sets a++sets b
 |.asg i _=>[i]
 |_=>[]
def oG (js:List Nat):Nat->L2.St->L2.St
 |_,[]=>[]
 |k,o::σ=>(if js.contains k then Z8 else o)::oG js (k+1) σ
def nB (js:List Nat):Nat->List Str->List Str
 |_,[]=>[]
 |k,x::N=>if js.contains k then nB js (k+1) N else x::nB js (k+1) N
theorem Jl:∀a k,(oG b k a).length=a.length
 | [],_=>rfl
 |_::a,k=>congrArg (· +1) (Jl a (k+1))
theorem Jm:∀a k {j:Nat} {v:V},(oG b k a)[j]?=Z9 (Z9 v)->b.contains (k+j)=Z6/\a[j]?=Z9 (Z9 v)
 | [],_,j,v,e=>by cases e
 |o::a,k,0,v,e=>by
  have e:Z9 (if b.contains k then Z8 else o)=Z9 (Z9 v):=e;cases h:b.contains k with
  |true=>rw[h]at e;cases e
  |false=>rw[h]at e;exact⟨rfl,e⟩
 |o::a,k,j+1,v,e=>by have:=Jm a (k+1) e;rw[pi k 1 j]at this;exact this
theorem Jo:∀N k {j:Nat} {x:Str},N[j]?=Z9 x->a.contains (k+j)=Z6->x∈nB a k N
 | [],_,j,x,e,_=>by cases e
 |y::N,k,j,x,e,h=>by
  unfold nB;cases j with
  |zero=>cases e;rw[sg (by rw[Nat.add_zero]at h;rw[h];decide)];exact bg
  |succ j=>
   have:=Jo N (k+1) e (by rw[pi];exact h);split
   .exact this
   .exact a9 _ this
def ua (X:Cx)(pn:List (Addr×Obj))(E:Value->bb->Prop)(f:List (Str×Value)):Cx:={X with pn:=pn,xe:=E,fx:=f}
theorem R5 (I:Inv X a b H s)(E:Value->bb->Prop)(c:∀x u,(x,u)∈f->X.env.scope.names.lookup x=Z9 .local)(d:∀x u,(x,u)∈f->∃m,s.heap.Ns X.env.locals m/\m x=Z9 u):Inv (ua X (X.pn++a) E f) [] b H s:=⟨⟨I.ok.mod,I.ok.kind,I.ok.glob,I.ok.blt,I.ok.above,I.ok.inj,I.ok.has,I.ok.nX,I.ok.hd,I.ok.frames,I.ok.oI,I.ok.iF,I.ok.bs,I.ok.iG,I.ok.fN,I.ok.fO,I.ok.bS,I.ok.kY,c⟩,I.os,I.bare,I.base,I.loc,I.cell,I.free,I.aZ,λp e=>I.pin p (by simpa[Mi.ua]using e),I.hok,I.len,d⟩
theorem Jp (ok:X.Ok)(hx:X.fx=[])(I:Inv (ua X (X.pn++pins) E f) lR σ H s):Inv X pins σ H s:=⟨ok,I.os,I.bare,I.base,I.loc,I.cell,I.free,I.aZ,λp hp=>I.pin p (dt _ hp),I.hok,I.len,λx u z=>by rw[hx]at z;cases z⟩
theorem R6 (ok:X.Ok)(d:X.fx=[])(I:Inv (ua X (X.pn++a) E f) lR k H s)(e:∀x u,(x,u)∈f->X.env.scope.names.lookup x=Z9 .local)(len:b.length=X.N.length)(h0:∀(j:Nat) x v,X.N[j]?=Z9 x->b[j]?=Z9 (Z9 v)->∃u,RelV v u/\(x,u)∈f):Inv X a b H s:=by obtain⟨m,hn,_⟩:=I.loc;refine⟨ok,I.os,I.bare,I.base,⟨m,hn,λj x v g h l=>?_⟩,I.cell,I.free,I.aZ,λp i=>I.pin p (dt _ i),I.hok,len,λx u z=>by rw[d]at z;cases z⟩;obtain⟨u,r,hm⟩:=h0 j x v g h;obtain⟨n,c,q⟩:=I.fx x u hm;exact⟨u,r,.inl ⟨e x u hm,(FK hn c x).trans q⟩⟩
theorem R7 (I:Inv X b c H s)(g:(nB a 0 X.N).all (λx=>X.env.scope.names.lookup x==Z9 .local)=Z7):∃f:List (Str×Value),(∀x u,(x,u)∈f->(nB a 0 X.N).contains x=Z7)/\(∀x u,(x,u)∈f->X.env.scope.names.lookup x=Z9 .local)/\(∀x u,(x,u)∈f->∃m,s.heap.Ns X.env.locals m/\m x=Z9 u)/\∀(j:Nat) x v,X.N[j]?=Z9 x->(oG a 0 c)[j]?=Z9 (Z9 v)->∃u,RelV v u/\(x,u)∈f:=by
 obtain⟨m,hn,i⟩:=I.loc;have mem:∀x u,(x,u)∈(nB a 0 X.N).filterMap (λx=>(m x).map λu=>(x,u))->x∈nB a 0 X.N/\m x=Z9 u:=λx u h=>by obtain⟨y,l,e⟩:=fq.mp h;obtain⟨w,n,e⟩:=a6.mp e;cases e;exact⟨l,n⟩
 have loc:=λ{x} h=>sx (br.mp g x h);refine⟨_,λx u h=>b9.mpr (mem x u h).1,λx u h=>loc (mem x u h).1,λx u h=>⟨m,hn,(mem x u h).2⟩,λj x v d o=>?_⟩;obtain⟨p,t⟩:=Jm c 0 o;have hm:=Jo X.N 0 d p;obtain⟨u,r,q⟩:=i j x v d t (.inl (loc hm));rcases q with⟨_,q⟩|⟨k,_⟩
 .exact⟨u,r,fq.mpr ⟨x,hm,by rw[q];rfl⟩⟩
 .have k:X.env.scope.names.lookup x=Z9 .cell\/X.env.scope.names.lookup x=Z9 .free:=k;rcases k with k|k<;>(rw[loc hm]at k;cases k)
def gKp (Γ:Gw)(b:WS):Gw:={Γ with g:={Γ.g with kp:=nB (sets b) 0 Γ.g.N}}
theorem R8 (k:Cok a.g Κ Φ X r)(d:a.g.xc=Z8)(pn:List (Addr×Obj))(E:Value->bb->Prop)(e:∀x u,(x,u)∈f->(nB (sets b) 0 a.g.N).contains x=Z7):Cok (gKp a b).g Κ Φ (ua X pn E f) r:=⟨k.hN,k.hs,k.nd,k.fn,k.kind,k.free,k.fns,k.cst,k.mU,k.room,k.calm,k.hu,k.hT,λ_=>e,λn c z=>(by have z:a.g.xc=Z9 (n,c):=z;rw[d]at z;cases z),⟨k.xk.sub,k.xk.rs,k.xk.gP⟩⟩
def wS:Wc->WS->TS
 |_,.nil=>FW
 |Z,.seq a b=>vV (wS Z a) (wS Z b)
 |Z,.asg i e=>jV (wE Z e) (uR i)
 |Z,.fld o f e=>sN Z.K (wE Z o) (wE Z e) f
 |Z,.put o k v=>xv (wE Z o) (wE Z k) (wE Z v)
 |Z,.exp e=>vW (wE Z e)
 |Z,.app o v=>vW (Bo Z.K "list" zg (wE Z o) (oK (wE Z v) fQ))
 |Z,.ret e=>vX (wE Z e)
 |Z,.ifS c a b=>vY (wT Z c) (wS Z a) (wS Z b)
 |Z,.x9 c b=>Gb (wT Z c) (wS Z b)
 |Z,.aV t it b=>lT (tDW Z.K (evW Z.Κ Z.Φ it)) (tDG Z.K t) (wS Z b)
 |Z,.iS c=>λ_ _ H=>∀C,Z.mg c=Z9 (.ref C)->Z.E (.ref C) Z8 H
 |Z,.z4 o f e=>DS Z.K (wE Z o) (wE Z e) f
 |Z,.x' c fl e=>λ_ σ H=>∀C,Z.mg c=Z9 (.ref C)->wE Z e σ H λy H1=>∀dp,H1 dp=Z8->Z.E (.ref C) (Z9 dp) (upd H1 dp (.xd [(fl,y)]))
 |Z,.kO t it b=>lT (Bd Z.K (wE Z it)) (tDG Z.K t) (wS Z b)
 |Z,.t8 b c fl h i=>λD σ H=>wS {Z with E:=λv dd H'=>∃C,Z.mg c=Z9 (.ref C)/\v=.ref C/\∃dp y,dd=Z9 dp/\H' dp=Z9 (.xd [(fl,y)])/\wS {Z with E:=λ_ _ _=>False,xf:=Z9 y} h ⟨λbG Jq=>D.nx (bG.set i Z8) Jq,D.rt,λ_ _=>False,λ_ _=>False⟩ ((oG (sets b) 0 σ).set i Z8) (jE H' dp)} b ⟨D.nx,D.rt,λ_ _=>False,λ_ _=>False⟩ σ H
 |Z,.t9 b c h=>λD σ H=>wS {Z with E:=λv _ H'=>∃C,Z.mg c=Z9 (.ref C)/\v=.ref C/\wS {Z with E:=λ_ _ _=>False,xf:=Z8} h ⟨D.nx,D.rt,λ_ _=>False,λ_ _=>False⟩ (oG (sets b) 0 σ) H'} b ⟨D.nx,D.rt,λ_ _=>False,λ_ _=>False⟩ σ H
def ub:Stmt->Option (List Stmt×ot)
 |.Try b h o f _=>if o.isEmpty&&f.isEmpty then(bH h).map λu=>(b,u)else Z8
 |_=>Z8
theorem Jr (e:ub s=Z9 v):∃p,s=.Try v.1 [v.2] [] [] p:=bQ (q:=λv=>∃p,s=.Try v.1 [v.2] [] [] p) e (by
 cases s with
 |Try b h o f p=>rcases h with _|⟨h,_|_⟩<;>rcases o with _|_<;>rcases f with _|_<;>first|exact .inl rfl|exact .inr ⟨_,rfl,_,rfl⟩
 |_=>exact .inl rfl)
def Js (s:Stmt):Option (List Stmt×Str×Str×List Stmt):=(ub s).bind λt=>(B4 t.2).map λu=>(t.1,u)
theorem DU (e:Js s=Z9 v):∃a b d,s=.Try v.1 [.ExceptHandler (Z9 (.Name v.2.1 a)) (Z9 v.2.2.1) v.2.2.2 b] [] [] d:=by obtain⟨t,c,e⟩:=gg.mp e;obtain⟨p,rfl⟩:=Jr c;obtain⟨x,c,rfl⟩:=a6.mp e;obtain⟨a,b,h⟩:=C9 c;exact⟨a,b,p,by rw[h]⟩
def DV:ot->Option (Str×List Stmt)
 |.ExceptHandler (Z9 t) Z8 b _=>(wV t).map λx=>(x,b)
 |_=>Z8
def Jt (s:Stmt):Option (List Stmt×Str×List Stmt):=(ub s).bind λt=>(DV t.2).map λu=>(t.1,u)
theorem DW (e:DV h=Z9 v):∃a b,h=.ExceptHandler (Z9 (.Name v.1 a)) Z8 v.2 b:=by
 unfold DV at e;split at e
 .obtain⟨x,c,rfl⟩:=a6.mp e;obtain⟨p,rfl⟩:=pE c;exact⟨_,_,rfl⟩
 .cases e
theorem DX (e:Jt s=Z9 v):∃b c pos,s=.Try v.1 [.ExceptHandler (Z9 (.Name v.2.1 b)) Z8 v.2.2 c] [] [] pos:=by obtain⟨t,c,e⟩:=gg.mp e;obtain⟨p,rfl⟩:=Jr c;obtain⟨x,c,rfl⟩:=a6.mp e;obtain⟨a,b,h⟩:=DW c;exact⟨a,b,p,by rw[h]⟩
def Ju (Γ:Gw):Gw:={Γ with g:={Γ.g with cm:=Z6,fns:=[]},xf:=Z8}
def Jv (Γ:Gw)(i:Nat)(nm c fl:Str):Gw:={Γ with g:={Γ.g with N:=Γ.g.N.set i "",cm:=Z6,xc:=Z9 (nm,c),fns:=[]},xf:=Z9 fl}
def tryB (Γ:Gw)(b:WS):Bool:=Γ.g.cm&&BP Γ.g&& !Γ.g.blk&&Γ.xf.isNone&&(!rz b&&(nB (sets b) 0 Γ.g.N).all λx=>Γ.g.sc.names.lookup x==Z9 .local)
mutual
def ya:Gw->WS->Stmt->Bool
 |Γ,.asg i e,s=>(uW s).any λu=>(bH u.1).any λx=>qS Γ.g (.nm i) x&&(!jM u.2||DT e)&&bK Γ e u.2
 |Γ,.fld o f e,s=>(uW s).any λu=>(bH u.1).any λx=>(uV x).any λv=>(v.2.1==f)&& !jM u.2&&bK Γ o v.1&&bK Γ e u.2
 |Γ,.put o k v,s=>(uW s).any λu=>(bH u.1).any λx=>(kI x).any λw=>!jM u.2&&bK Γ o w.1&&bK Γ k w.2&&bK Γ v u.2
 |Γ,.exp e,s=>(xl s).any λv=>!jM v&&bK Γ e v
 |Γ,.app o e,s=>(xl s).any λc=>(tH c).any λv=>((v.2.1==("append":Str))&&z0x v.1&&v.2.2.2)&&bK Γ o v.1&&(bH v.2.2.1).any λy=>!isStar y&&bK Γ e y
 |Γ,.ret e,s=>(BZ s).any λo=>o.any λv=>bK Γ e v
 |Γ,.ifS c a b,s=>(B1 s).any λv=>mZ Γ c v.1&&wkL Γ a v.2.1&&wkL Γ b v.2.2
 |Γ,.x9 c b,s=>(B2 s).any λv=>mZ Γ c v.1&&wkL Γ b v.2.1&&v.2.2.isEmpty
 |Γ,.aV t it b,s=>Γ.g.cm&&(zt s).any λv=>(qS Γ.g t v.1&&zr it v.1&&tF v.2.1)&&kK Γ.g it v.2.1&&wkL Γ b v.2.2.1&&v.2.2.2.isEmpty
 |Γ,.iS c,s=>(xm s).any λv=>(v.1==c)&&lE Γ.g c&&Γ.g.rs.contains c&&Γ.g.cm&&(bH v.2).any B3
 |Γ,.z4 o f e,s=>(uW s).any λu=>(bH u.1).any λx=>(uV x).any λv=>(v.2.1==f)&& !jM u.2&&bK Γ o v.1&&bK Γ e u.2
 |Γ,.x' c fl e,s=>(xm s).any λv=>(v.1==c)&&lE Γ.g c&&Γ.fld.contains (c,fl)&&Γ.g.cm&&(bH v.2).any λy=>!isStar y&&bK Γ e y
 |Γ,.kO t it b,s=>Γ.g.cm&&(zt s).any λv=>(qS Γ.g t v.1&&tF v.2.1)&&bK Γ it v.2.1&&wkL Γ b v.2.2.1&&v.2.2.2.isEmpty
 |Γ,.t8 b c fl h i,s=>(Js s).any λv=>(tryB Γ b&&lE Γ.g v.2.1&&Γ.g.gP.contains (c,v.2.1)&&wkL (gKp Γ b) b v.1&& !v.2.2.2.isEmpty)&&(wkL (Jv Γ i v.2.2.1 c fl) h v.2.2.2&&(Γ.g.N[i]?==Z9 v.2.2.1)&&(Γ.g.sc.names.lookup v.2.2.1==Z9 .local)&&decide (Γ.g.N.set i "").Nodup&&((Γ.g.sc.names.lookup ("":Str)).isNone&& !(v.2.2.1==("__debug__":Str))&&Γ.fld.contains (c,fl)))
 |Γ,.t9 b c h,s=>(Jt s).any λv=>(tryB Γ b&&lE Γ.g v.2.1&&Γ.g.gP.contains (c,v.2.1)&&wkL (gKp Γ b) b v.1&& !v.2.2.isEmpty)&&wkL (Ju Γ) h v.2.2
 |_,_,_=>Z6
def wkL:Gw->WS->List Stmt->Bool
 |_,.nil,l=>l.isEmpty
 |Γ,.seq a b,l=>match l with|s::l=>ya Γ a s&&wkL Γ b l|_=>Z6
 |_,_,_=>Z6
end
def Wfk (Γ:Gw)(X:Cx)(r:Nat):Prop:=∀c fl,Γ.fld.contains (c,fl)=Z7->∃C f fd ps k,X.mg c=Z9 (.ref C)/\XF X.K C fl/\XI X.K C f/\k+1<=r/\FnOk X.prog X.w X.K X.mg X.base (CXE X.prog X.w X.base) k f fd ps (tY X.K fl)/\Binds X.K fd ps []
structure Wz (s:WS):Prop where
 R:∀(Γ:Gw) (Z:Wc) (X:Cx) (r:Nat) (st:Stmt),Wok Γ Z (CXE X.prog X.w X.base) X r->Wfk Γ X r->(rz s=Z7->gc (model X.prog X.w) X.A X.env X.xe)->(rz s=Z7->x8 X Z.E)->ya Γ s st=Z7->PS X st (wS Z s)
 L:∀(Γ:Gw) (Z:Wc) (X:Cx) (r:Nat) (st:List Stmt),Wok Γ Z (CXE X.prog X.w X.base) X r->Wfk Γ X r->(rz s=Z7->gc (model X.prog X.w) X.A X.env X.xe)->(rz s=Z7->x8 X Z.E)->wkL Γ s st=Z7->PSs X st (wS Z s)
theorem Wz.x (h:∀Γ Z X r st,Wok Γ Z (CXE X.prog X.w X.base) X r->Wfk Γ X r->(rz s=Z7->gc (model X.prog X.w) X.A X.env X.xe)->(rz s=Z7->x8 X Z.E)->ya Γ s st=Z7->PS X st (wS Z s))(a:∀Γ st,wkL Γ s st=Z6):Wz s:=⟨h,λΓ Z X r st k b c d z=>ff (a Γ st) z⟩
theorem zgg {C:Addr}(hh:X.A.handled=Z8)(G:Gl X x)(hm:X.mg x=Z9 (.ref C))(i:WL x)(J:exV X.K C=Z7)
  (rs:x8 X E):PS X (.Raise (Z9 (.Call (.Name x np) [.Constant (.str z) kk kp] [] L)) Z8 pos) (λ_ _ H=>E (.ref C) Z8 H):=by
 intro b s l H D I M;obtain⟨W,N,nm,q,bs,c,m,sub,n,g,p,t,u,k2,v,w,mN,O,hN,k,T⟩:=CN.mk I.mod.sF J;refine wpAny_Raise_call_subT (nm:=nm) (q:=q) (N:=N) (bs:=bs) (hdct:=c) (sn:=m) (sub:=sub) (ab:=n) (col:=g) (dd:=p) (k0:=t) (k1:=u) (k2:=k2) (k3:=v) (k5:=w) PySem.F.excBase_ValueError (T.hasType (X:="BaseException") rfl) hh rfl k (z4r I G hm ⟨rfl,?_⟩ i);refine kh (aK ((zc (X:=X) (FN (x:=z) (j:=kk) (pos:=kp)) jW) L b s l H (λy d=>y.length=1/\d=H) I ⟨rfl,rfl⟩) λP B Q=>?_);obtain⟨y,d,f,r,R,rfl⟩:=Q;have S:P.length=1:=r.length▸R;refine⟨rfl,by rw[S];decide,f.bk _ _ O,hN.keeps f.bk,T.keeps f.bk,λU a h=>?_⟩;obtain⟨tp,ga,_,_⟩:=h.there
 have V:d a=none:=by
  cases e:d a with
  |none=>rfl
  |some o=>obtain⟨ob,q⟩:=HX (f.hok a o e);rw[h.new]at q;cases q
 exact rs b l d {B with heap:=U} a C _ _ (f.kept h.keeps) V ⟨d,B,f,h.new⟩ ga rfl rfl rfl M
theorem pO (h:a=Z7):(a||b)=true:=by rw[h];rfl
theorem pP (h:b=Z7):(a||b)=true:=by rw[h,lb]
theorem zqd {K:Ends->L2.St->XK}(U:Wz b)(k:Wok j Z (CXE X.prog X.w X.base) X r)(V:Wfk j X r)(h0:tryB j b=Z7)(W:wkL (gKp j b) b R=Z7)
  (hh:j.g.xc=Z8->X.stack=X.env::X.outer->X.env.frame=Z9 X.env.locals->X.fx=[]->∀pins c h t x C a i y B,Inv X pins (oG (sets b) 0 c) t x->Fly X.prog X.w X.base X.stack t x C a i y B->K h c (.ref C) B i->wpAny (model X.prog X.w) X.A (j8 (.ref a) X.env) (λ_ F=>wpAny (model X.prog X.w) X.A (mi (.ref a) Z8) (λ_ s3=>wpAny (model X.prog X.w) X.A (handleBy (.ref a) X.env [hd]) (SP X pins h) X.xe s3) X.xe F) X.xe y):
  PS X (.Try R [hd] [] [] pos) λD c H=>wS {Z with E:=K D c} b ⟨D.nx,D.rt,λ_ _=>False,λ_ _=>False⟩ c H:=by
 obtain⟨a1,S,a7,a3,M⟩:=cV h0;obtain⟨b3,M⟩:=aD M;obtain⟨x,F⟩:=k.ck.hT (cN a7);have l:=Qe S;have G:=k.ck.Qd S;have m:=cN b3;intro pins s c H h I hq;refine wpAny_Try_except ?_;generalize hE:(λe n=>wpAny (model X.prog X.w) X.A (j8 e X.env) (λ_ o=>wpAny (model X.prog X.w) X.A (mi e Z8) (λ_ p=>wpAny (model X.prog X.w) X.A (handleBy e X.env [hd]) (SP X pins h) X.xe p) X.xe o) X.xe n)=E;obtain⟨f,f1,T,f3,f4⟩:=R7 I (by rw[k.ck.hN,k.ck.hs];exact M);have wk:Wok (gKp j b) {Z with E:=K h c} (CXE X.prog X.w X.base) (ua X (X.pn++pins) E f) r:=⟨⟨k.kk,k.mm,k.fn,k.me,k.cl,k.md⟩,R8 k.ck l _ E (k.ck.hN▸f1),k.room,(λN d t O e y I1 zz=>by obtain⟨a,C',B,i,rfl,fl,q⟩:=zz;rw[<-hE];exact(hh l x F G) pins c h t O C' a i y B (R6 I.ok G I1 T (by rw[Jl];exact I.len) f4) fl q),(λf z=>by have z:j.xf=Z9 f:=z;rw[d9.mp a3]at z;cases z),z1⟩;refine aK ((U.L (gKp j b) _ (ua X (X.pn++pins) E f) r R wk V (λz=>by rw[m]at z;cases z) (λz=>by rw[m]at z;cases z) W) [] s c H ⟨h.nx,h.rt,λ_ _=>False,λ_ _=>False⟩ (R5 I E T f3) hq) λP F J=>?_;cases P with
 |next=>obtain⟨d,i,Q,z⟩:=J;exact km ⟨d,i,Jp I.ok G Q,z⟩
 |brk=>obtain⟨_,_,_,z⟩:=J;exact z.elim
 |cont=>obtain⟨_,_,_,z⟩:=J;exact z.elim
 |ret u=>obtain⟨v,d,i,Q,rv,z⟩:=J;exact⟨v,d,i,Jp I.ok G Q,rv,z⟩
theorem R9 {st:Stmt}(ib:Wz b)(ih:Wz h)(k:Wok Γ Z (CXE X.prog X.w X.base) X r)(K:Wfk Γ X r)(hh:ya Γ (.t8 b c fl h i) st=Z7):PS X st (wS Z (.t8 b c fl h i)):=by
 obtain⟨⟨bd,B,nm,su⟩,hv,h9⟩:=aJ hh;obtain⟨np,R',pos,rfl⟩:=DU hv;obtain⟨h1,h2⟩:=aD h9;obtain⟨t0,b2,c1,t1,c0⟩:=cV h1;obtain⟨c3,a3,a4,a5,h3⟩:=cV h2;obtain⟨b1,c2,c4⟩:=aX h3;obtain⟨b0,su,rfl⟩:=pD c0;obtain⟨g3,g4⟩:=k.ck.gl b2;obtain⟨C,D,M,m2,x1,x2,sb⟩:=k.ck.xk.gP c B c1;obtain⟨C2,f2,Jw,Ws,k2,n1,xf,_⟩:=K c fl c4;rw[M]at n1;cases n1;refine zqd ib k K t0 t1 λO P n hx d σ Dn H1 Sa C' a H' s' dd I Q z=>?_;obtain⟨C0,m0,e0,dp,y,rfl,hy,z⟩:=z;cases e0;rw[k.mm,M]at m0;cases m0;have hl:X.env.scope.names.lookup nm=Z9 .local:=k.ck.hs▸sx a4;obtain⟨B0,R,x,S,w0⟩:=Q.hh;have l:=w0;rw[P]at l;obtain⟨mA,E,rel⟩:=x dp _ hy;obtain⟨od,es,ep,m,F,T⟩:=id E;have rf:=rel fl;simp at rf;obtain⟨u,hu,ru⟩:=cA.some_of rf;have back:∀{g:L2.St} {t:Hp} {n:bb},Inv (tX X ((dp,od)::X.pn) X.xe) d g t n->Inv X d g t n:=λJ=>⟨I.ok,J.os,J.bare,J.base,J.loc,J.cell,J.free,J.aZ,λp G=>J.pin p (by exact a9 _ G),J.hok,J.len,J.fx⟩;refine zly (pins:=d) (X:=tX X ((dp,od)::X.pn) X.xe) (λh6 w6 up=>?_) l ?_ P n hx (show X.N.Nodup by rw[k.ck.hN];exact k.ck.nd) (show X.N[i]?=Z9 nm by rw[k.ck.hN];exact sx a3) (show X.env.scope.names.lookup ("":Str)=Z8 by rw[k.ck.hs];exact d9.mp b1) hl m2 (λA=>xE (X:=tX X ((dp,od)::X.pn) X.xe) x1 x2 sb A) g3 g4 (λf s h=>?_) (λU ws q4 q5 q6=>?_) z
 .have j:=Mi.Inv.jE (Fly.land I Q R x S (P▸w6) up) hy True.intro;refine⟨RW j.ok,j.os,j.bare,j.base,j.loc,j.cell,j.free,j.aZ,λp G=>?_,j.hok,j.len,j.fx⟩;rcases bh.mp G with rfl|G
  .have H:∀b∈(X.env::X.outer).filterMap (·.frame),dp≠b:=fun b hb z=>by
    have:=(l.2.2.1.mem hb).1;rw[<-z,m]at this;cases this
   refine⟨w6.1 _ _ m,z3,H _ ?_,λz=>H dp ?_ rfl,λv z=>?_⟩
   .rw[dj,n];exact bg
   .rw[dj,n];exact a9 _ z
   .have z:od.data=.cell v:=z;rw[F]at z;cases z
  .exact j.pin p G
 .by_cases e:a=dp
  .rw[e];exact z3
  .rw[rK e];exact HZ Q
 .cases f with
  |ret u=>obtain⟨v,g,t,J,r,z⟩:=h;exact⟨v,g,t,back J,r,z⟩
  |_=>obtain⟨g,t,J,z⟩:=h;exact⟨g,t,back J,z⟩
 refine ih.L (Jv Γ i nm c fl) _ (mQ (tX X ((dp,od)::X.pn) X.xe) i nm a U) r _ ⟨⟨k.kk,k.mm,k.fn,k.me,k.cl,k.md⟩,(RX k.ck O ((dp,od)::X.pn) X.xe).mQ (sk a5) q4 M,nofun,(λ_ _ _ _ _ _ _ z=>by obtain⟨_,_,_,_,_,_,z⟩:=z;exact z),(λf z=>?_),z1⟩ K (λ_=>PassesOwn.never) (λ_ _ _ _ _ _ _ _ _ _ _ _ _ _ _ _ z=>z.elim) c3;cases z;refine⟨y,rfl,λn' c' e p q V=>?_⟩;cases e;exact zn6 (X:=mQ (tX X ((dp,od)::X.pn) X.xe) i nm a U) rfl hl (cN c2) V (λ_ _ _ _ J=>(J.pin (a,U) (dt _ bg)).1) q4 q6 q5 (λ_ _ _ _ J=>(J.pin (dp,od) (dt _ (a9 _ bg))).1) (λh e=>(E.at λo z=>by rw[m]at z;cases z;exact e).ns) hu ru xf
theorem Se {st:Stmt}(ib:Wz b)(ih:Wz h)(k:Wok F Z (CXE X.prog X.w X.base) X r)(U:Wfk F X r)(hh:ya F (.t9 b c h) st=Z7):PS X st (wS Z (.t9 b c h)):=by
 obtain⟨⟨bd,B,su⟩,hv,m⟩:=aJ hh;obtain⟨np,R',pos,rfl⟩:=DX hv;obtain⟨h1,c2⟩:=aD m;obtain⟨t0,b1,b2,t1,c1⟩:=cV h1;obtain⟨b0,su,rfl⟩:=pD c1;obtain⟨g3,g4⟩:=k.ck.gl b1;obtain⟨C,D,m1,m2,x1,x2,sb⟩:=k.ck.xk.gP c B b2;refine zqd ib k U t0 t1 λG y V hx e σ W H1 Sa C' a H' s' dd I fl z=>?_;obtain⟨C0,e1,e2,q⟩:=z;cases e2;rw[k.mm,m1]at e1;cases e1;obtain⟨B0,H,J,K,w0⟩:=fl.hh;have inv:∀g,FlD B0 (X.env::X.outer) a (.ref C) dd g->s'.heap.UpToSlots g->Inv X e (oG (sets b) 0 σ) H' {s' with heap:=g}:=λg A up=>Fly.land I fl H J K (y▸A) up;rw[y]at w0;have ok:=I.ok;refine z6t (y▸ok.frames) V w0 λh4 n o=>CP n λh5 M p=>?_;have s:=inv h5 M (o.trans p);refine om (nc ?_) (by intro z;cases z);refine gv s.ok.kind g3 (jp (s.ok.glob▸s.mod.glob.keeps s.bk) m2 ?_) g4;obtain⟨ob,_,N,t,_⟩:=M.first;refine xE x1 x2 sb _ _ _ _ ob s.cG N t (codeAny_handlers_suite (HW M λg A O=>?_));have P:=inv g A ((o.trans p).trans O);obtain⟨oe,Q,x,Sf,Sg,f⟩:=A.first;have nn:∀i,g.get? a=Z9 i->(∀Q,i.data≠.fields Q)->False:=λi j d=>by rw[x]at j;cases j;exact d Q f
 have I8:=R3 P x (HZ fl) (λz=>by
  obtain⟨_,i,j,d⟩:=P.stack.mem (by rw[y,dj,V];exact bg);rw[<-z]at j;exact nn i j d) (λz=>by
  obtain⟨_,i,j,d⟩:=P.bS.mem z;exact nn i j d) (λv z=>by rw[f]at z;cases z)
 refine gj (ih.L (Ju F) {Z with E:=λ_ _ _=>False,xf:=Z8} (tZ X a oe) r _ ⟨⟨k.kk,k.mm,k.fn,k.me,k.cl,k.md⟩,k.ck.tZ G a oe,nofun,(λ_ _ _ _ _ _ _ z=>by obtain⟨_,_,_,_,_,_,z⟩:=z;exact z),nofun,z1⟩ U (λ_=>PassesOwn.never) (λ_ _ _ _ _ _ _ _ _ _ _ _ _ _ _ _ z=>z.elim) c2 e _ _ H' ⟨W.nx,W.rt,λ_ _=>False,λ_ _=>False⟩ I8 q) (λR s9 m=>?_) λ_ _ z=>z.elim;cases R with
 |next=>obtain⟨l,S,T,z⟩:=m;exact⟨l,S,Jk ok T,z⟩
 |brk=>obtain⟨_,_,_,z⟩:=m;exact z.elim
 |cont=>obtain⟨_,_,_,z⟩:=m;exact z.elim
 |ret u=>obtain⟨v,l,S,T,rv,z⟩:=m;exact⟨v,l,S,Jk ok T,rv,z⟩
theorem Sh (s:WS):Wz s:=by
 induction s with
 |nil=>exact⟨λ_ _ _ _ _ _ _ _ _ h=>ff rfl h,λd Z X r st k m u A h=>by cases fT h;exact FY⟩
 |seq a b ia N=>exact⟨λ_ _ _ _ _ _ _ _ _ h=>ff rfl h,λd Z X r st k m u A h=>by
  cases st with
  |nil=>cases h
  |cons s st=>obtain⟨j,l⟩:=aD h;exact FZ (ia.R d Z X r _ k m (λz=>u (pO z)) (λz=>A (pO z)) j) (N.L d Z X r _ k m (λz=>u (pP z)) (λz=>A (pP z)) l)⟩
 |asg i e=>exact Wz.x (λd Z X r st k m u A h=>by
  obtain⟨⟨ts,v⟩,G,I⟩:=aJ h;obtain⟨p,rfl⟩:=mV G;obtain⟨x,U,Q⟩:=aJ I;cases fU U;obtain⟨j,l,J⟩:=aX Q;obtain⟨y,q,rfl,P⟩:=kN j;obtain⟨l1,l2,l3⟩:=k.ck.loc P;cases hc:jM v with
  |false=>exact wI (k.ck.hN▸k.ck.nd) l1 l2 ((cW e).E d Z _ X r _ k J) hc l3
  |true=>
   have l:=l;rw[hc]at l;cases e<;>first|(cases l;done)|skip
   rename_i c Si;have hn:kL c=false:=cN l;show PS X _ (jV (tD Z.K (aL Z.Κ Z.Φ c)) (uR i));rw[k.kk];exact R4 k.ck P hn J) λ_ _=>rfl
 |fld o f e=>exact Wz.x (λd Z X r st k m u A h=>by obtain⟨⟨ts,v⟩,G,I⟩:=aJ h;obtain⟨p,rfl⟩:=mV G;obtain⟨x,U,Q⟩:=aJ I;cases fU U;obtain⟨⟨o',f',p'⟩,Y,O⟩:=aJ Q;cases mT Y;obtain⟨j,l,J,M⟩:=bL O;have j:=eqB j;subst j;show PS X _ (sN Z.K _ _ _);rw[k.kk];exact MV ((cW o).E d Z _ X r _ k J) ((cW e).E d Z _ X r _ k M) (sX (cN l) _ _ _)) λ_ _=>rfl
 |put o y v=>exact Wz.x (λd Z X r st k m u A h=>by obtain⟨⟨ts,v⟩,G,I⟩:=aJ h;obtain⟨p,rfl⟩:=mV G;obtain⟨x,U,Q⟩:=aJ I;cases fU U;obtain⟨w,Y,O⟩:=aJ Q;obtain⟨_,rfl⟩:=xG Y;obtain⟨j,l,J,M⟩:=bL O;exact O2 (jm (Nat.add_le_add_left dc _) k.ck.hu) ((cW o).E d Z _ X r _ k l) ((cW y).E d Z _ X r _ k J) ((cW _).E d Z _ X r _ k M) (sX (cN j) _ _ _)) λ_ _=>rfl
 |exp e=>exact Wz.x (λd Z X r st k m u A h=>by obtain⟨v,G,I⟩:=aJ h;obtain⟨p,rfl⟩:=pH G;obtain⟨j,l⟩:=aD I;exact oR ((cW e).E d Z _ X r _ k l) (cN j)) λ_ _=>rfl
 |app o e=>exact Wz.x (λd Z X r st k m u A h=>by obtain⟨c,G,I⟩:=aJ h;obtain⟨p,rfl⟩:=pH G;obtain⟨⟨x,n,es,b⟩,hm,Q⟩:=aJ I;obtain⟨ap,cp,rfl,hb⟩:=kM hm;obtain⟨h0,S,O⟩:=aX Q;obtain⟨j,l,J⟩:=aX h0;obtain⟨y,hy,M⟩:=aJ O;cases fU hy;obtain⟨M,P⟩:=aD M;have j:=eqB j;subst j;show PS X _ (vW (Bo Z.K "list" zg _ _));rw[k.kk];exact oR (zlz PySem.F.plainAttrs_list PySem.F.slot_list_append PySem.F.type_list_append Bq ((cW o).E d Z _ X r _ k S) (eP ((cW e).E d Z _ X r _ k P) jW (cN M)) (oN l) (z9n (by rw[c9,M];rfl) (show 1<20 by decide)) (hb.symm.trans J) (fH (cN M)) (lZ rfl)) rfl) λ_ _=>rfl
 |ret e=>exact Wz.x (λd Z X r st k m u A h=>by obtain⟨o,G,I⟩:=aJ h;obtain⟨p,rfl⟩:=xK G;obtain⟨v,rfl,Q⟩:=aJ I;exact A0 ((cW e).E d Z _ X r _ k Q)) λ_ _=>rfl
 |ifS c a b ia N=>exact Wz.x (λd Z X r st k m u A h=>by obtain⟨v,G,I⟩:=aJ h;obtain⟨p,rfl⟩:=xM G;obtain⟨j,l,J⟩:=aX I;exact F1 ((cW c).T d Z _ X r _ k j).1 (ia.L d Z X r _ k m (λz=>u (pO z)) (λz=>A (pO z)) l) (N.L d Z X r _ k m (λz=>u (pP z)) (λz=>A (pP z)) J)) λ_ _=>rfl
 |x9 c b N=>exact Wz.x (λd Z X r st k m u A h=>by obtain⟨⟨t,B,o⟩,G,I⟩:=aJ h;obtain⟨p,rfl⟩:=xO G;obtain⟨j,l,J⟩:=aX I;cases fT J;exact Ge (u rfl) ((cW c).T d Z _ X r _ k j).1 (N.L d Z X r _ k m (λ_=>u rfl) (λ_=>A rfl) l)) λ_ _=>rfl
 |aV t it b N=>exact Wz.x (λd Z X r st k m u A h=>by obtain⟨V,h⟩:=aD h;obtain⟨⟨t',i,B,o⟩,G,I⟩:=aJ h;obtain⟨p,rfl⟩:=tN G;obtain⟨j,l,J,M⟩:=bL I;obtain⟨P,S,O⟩:=aX j;cases fT M;show PS X _ (lT (tDW Z.K _) (tDG Z.K _) _);rw[k.kk];exact zea (u rfl) (k.ck.calm V) ((all it).W d.g X r _ _ k.ck S l) (vb k.ck P) (N.L d Z X r _ k m (λ_=>u rfl) (λ_=>A rfl) J) (xJ O _)) λ_ _=>rfl
 |iS c=>exact Wz.x (λd Z X r st k m u A h=>by obtain⟨⟨x,es⟩,G,I⟩:=aJ h;obtain⟨np,cp,pos,rfl⟩:=xP G;obtain⟨j,l,J,M,P⟩:=cV I;obtain⟨y,hy,S⟩:=aJ P;cases fU hy;obtain⟨z,kk,p,rfl⟩:=QX S;cases sx j;obtain⟨g1,g2⟩:=k.ck.gl l;obtain⟨C,m1,xC⟩:=k.ck.xk.rs x J;exact PS.imp (zgg (k.room M).hd g1 m1 g2 xC (A rfl)) λD σ H q=>q C (k.mm▸m1)) λ_ _=>rfl
 |z4 o f e=>exact Wz.x (λd Z X r st k m u A h=>by obtain⟨⟨ts,v⟩,G,I⟩:=aJ h;obtain⟨p,rfl⟩:=mV G;obtain⟨x,U,Q⟩:=aJ I;cases fU U;obtain⟨⟨o',f',p'⟩,Y,O⟩:=aJ Q;cases mT Y;obtain⟨j,l,J,M⟩:=bL O;have j:=eqB j;subst j;show PS X _ (DS Z.K _ _ _);rw[k.kk];exact RY ((cW o).E d Z _ X r _ k J) ((cW e).E d Z _ X r _ k M) (sX (cN l) _ _ _)) λ_ _=>rfl
 |x' c fl e=>exact Wz.x (λd Z X r st k m u A h=>by obtain⟨⟨x,es⟩,G,I⟩:=aJ h;obtain⟨np,cp,pos,rfl⟩:=xP G;obtain⟨j,l,J,M,P⟩:=cV I;obtain⟨y,hy,S⟩:=aJ P;cases fU hy;obtain⟨S,O⟩:=aD S;cases sx j;obtain⟨g1,g2⟩:=k.ck.gl l;obtain⟨C,f,fd,ps,n,m1,xf,xi,hn,F,hb⟩:=m _ _ J;exact PS.imp (zef ((k.room M).mono hn) g1 m1 g2 xf xi F hb ((cW e).E d Z _ X r _ k O) (cN S) (A rfl)) λD σ H q=>q C (k.mm▸m1)) λ_ _=>rfl
 |kO t it b N=>exact Wz.x (λd Z X r st k m u A h=>by obtain⟨V,h⟩:=aD h;obtain⟨⟨t',i,B,o⟩,G,I⟩:=aJ h;obtain⟨p,rfl⟩:=tN G;obtain⟨j,l,J,M⟩:=bL I;obtain⟨P,O⟩:=aD j;cases fT M;show PS X _ (lT (Bd Z.K _) (tDG Z.K _) _);rw[k.kk];exact zea (u rfl) (k.ck.calm V) (My ((cW it).E d Z _ X r _ k l)) (vb k.ck P) (N.L d Z X r _ k m (λ_=>u rfl) (λ_=>A rfl) J) (xJ O _)) λ_ _=>rfl
 |t8 b c fl h i N ih=>exact Wz.x (λd Z X r st k m u A h=>R9 N ih k m h) λ_ _=>rfl
 |t9 b c h N ih=>exact Wz.x (λd Z X r st k m u A h=>Se N ih k m h) λ_ _=>rfl
section
variable {P:cu}{w:World}{K:Z5}{mg:Str->Option Value}{base:Heap}
theorem zno {Z:Wc}{st:Stmt}(M:∃B oc od kV i D an b ct j,fd=Z0 x d (z0t st) (z0j st) (z0b st) B kV i D an b ct/\K.lookup f=Z9 ⟨oc,od,.func fd,j⟩/\ZZ K b d=Z7)(n:FnScope Γ.g.N ps (z0b st))(hs:Γ.g.sc=z0b st)(p:Γ.g.xc=Z8)(l:Dok Γ.g Z.Κ Z.Φ P w K mg base k)(O:∀E,Zok Γ {Z with E:=E} (CXE P w base) P w K mg base k)(r:Γ.xf=Z8)(kf:Γ.fld=[]\/∀X,X.prog=P->X.w=w->X.K=K->X.mg=mg->X.base=base->Wfk Γ X k)(R:wkL Γ s (z0j st)=Z7)
  (len:∀h H Q E,sp h H Q E->h.length=ps.length) (run:∀h H Q E,sp h H Q E->wS {Z with E:=E} s {nx:=λ_ t=>Q .aM t,rt:=Q} (start Γ.g.N h) H):
  FnOk P w K mg base (CXE P w base) (k+1) f fd ps sp:=by
 obtain⟨B,oc,od,kV,i,D,an,b,ct,j,rfl,S,u⟩:=M;refine zlf S u n len λA outer F H h Q E v y=>⟨_,(Sh s).L Γ {Z with E:=E} (gY (CXE P w base) P w K mg base Γ.g.N d (z0b st) f b A outer F H E) k _ ⟨O E,⟨rfl,hs.symm,n.nd,λ_ _=>rfl,by rw[hs];exact n.kind,l.free,l.fns,l.cst,l.mU,λ_=>v,λ_=>rfl,v.units,λ_=>⟨rfl,rfl⟩,λ_ _ _ z=>(by cases z),λ_ _ z=>(by rw[p]at z;cases z),l.xk⟩,λ_=>v,λm T G U e s' I V=>?_,(λf z=>by have z:Γ.xf=Z9 f:=z;rw[r]at z;cases z),z1⟩ (kf.elim (λe c fl z=>by rw[e]at z;cases z) λg=>g _ rfl rfl rfl rfl rfl) (λ_=>PassesOwn.leaving) (λ_ m T G U a C ob h I q1 q2 q3 q4 q5 q6 q7=>?_) R,run h H Q E y⟩
 .obtain⟨a,C,dd,t,rfl,fl,q⟩:=V;exact fl.leave (outer:=[]) I rfl rfl rfl λs3 fl=>⟨a,C,dd,t,rfl,fl,q⟩
 .obtain⟨H2,s4,I2,n2⟩:=q2;refine zd9 I ?_ q1 q3 q4 q5 q6 rfl rfl rfl λs3 fl=>⟨a,C,ob.dict,G,rfl,fl,q7⟩;cases e:(gY (CXE P w base) P w K mg base Γ.g.N d (z0b st) f b A outer F H E).s₀.heap.get? a with
  |none=>rfl
  |some o=>obtain⟨o',J⟩:=I2.base.there a o e (by show a∉ [];simp);rw[n2]at J;cases J
theorem DY {Z:Wc}{st:Stmt}(e:Fun K x d st f fd)(h:FnScope Γ.g.N ps (z0b st))(hs:Γ.g.sc=z0b st)(b:Γ.g.xc=Z8)(i:Dok Γ.g Z.Κ Z.Φ P w K mg base k)(j:∀E,Zok Γ {Z with E:=E} (CXE P w base) P w K mg base k)(c:Γ.xf=Z8)(kf:Γ.fld=[]\/∀X,X.prog=P->X.w=w->X.K=K->X.mg=mg->X.base=base->Wfk Γ X k)(hc:wkL Γ s (z0j st)=Z7)
 (len:∀a H Q E,sp a H Q E->a.length=ps.length) (run:∀a H Q E,sp a H Q E->wS {Z with E:=E} s {nx:=λ_ l=>Q .aM l,rt:=Q} (start Γ.g.N a) H):
 FnOk P w K mg base (CXE P w base) (k+1) f fd ps sp:=zno ⟨_,e.ex⟩ h hs b i j c kf hc len run
end
abbrev NoB:Ad->Prop:=λ_=>False
abbrev AnyB:Ad->Prop:=λ_=>True
abbrev F0 (H:Hp):Fm:=⟨H,λ_=>True,λ_=>Z8,True⟩
section
variable {K:Z5}{H H':Hp}
theorem Rep.old (r:Rep K H B v d):Rep K H (eG (F0 H)) v d:=(Rep.there _ r).weak λa h=>by
 cases a with
 |none=>exact trivial
 |some a=>exact⟨λz=>h.2 z,trivial⟩
theorem pQ (f:b.length=c.length)(h:∀(i:Nat) g (d:D),c[i]?=Z9 (Z9 (g,d))->g=G.od/\∃v B,b[i]?=Z9 (Z9 v)/\Rep K H B v d):StOk K (F0 H) H b c where
 ext:=Same.refl H
 aN:=λ_ _=>trivial
 own:=λa i e=>by cases e
 len:=f
 sl:=λi g d e=>by obtain⟨rfl,v,B,j,r⟩:=h i g d e;exact⟨v,j,r.old⟩
structure Crt (K:Z5)(CC:Addr)(H:Hp)(x dx d:Addr)(kvs:List (Key×V))(es:bA):Prop where
 ins:H x=Z9 (.ins CC dx [("aboves",.ref d)])
 fK:H d=Z9 (.dK kvs)
 re:aW K H NoB kvs es
theorem Crt.same (c:Crt K a H x dx d kvs es)(s:Same H H'):Crt K a H' x dx d kvs es:=⟨s _ _ c.ins,s _ _ c.fK,c.re.same s λ_ z=>z⟩
theorem Crt.rep (c:Crt K a H x dx d kvs es):Rep K H AnyB (.ref d) (.dict es):=⟨d,kvs,rfl,c.fK,trivial,c.re.same (Same.refl H) λ_ z=>z.elim⟩
def rL:D->Bool
 |.str _=>Z7
 |_=>Z6
def stN (es:bA)(c:D):Bool:=rL c&&(z0f es c).isSome
end
structure CrtK (K:Z5)(CC:Addr):Prop where
 cls:Cls K CC
 na:z1x K CC "aboves"
namespace Ct
abbrev AB:W:=.iL (.raw 0) "aboves"
abbrev LA:W:=.ix AB (.ix (.raw 2) (.aT (.neg (.int 1))))
def nG:WS:=.seq (.ret (.and (.aT (.gZ (.var 1) ["str"])) (.cmp .In (.raw 1) AB))) .nil
def found:WS:=.seq (.ifS (.tV (.not (.tp (.tv (.gZ (.var 1) ["str"])))) (.tc .In (.raw 1) AB)) (.seq (.iS "NoCourt") .nil) .nil)
 (.seq (.ifS (.fV (.ti Z7 (.raw 2)) (.not (.jD (.bE (.raw 0) 0 (.cons (.raw 2) .nil))))) (.seq (.iS "NoCourt") .nil) .nil)
 (.seq (.put AB (.raw 1) (.raw 2)) .nil))
def line:WS:=.seq (.ifS (.not (.jD (.bE (.raw 0) 0 (.cons (.raw 1) .nil)))) (.seq (.iS "NoCourt") .nil) .nil)
 (.seq (.asg 2 (.lst (.cons (.raw 1) .nil)))
 (.seq (.x9 (.ti Z7 LA) (.seq (.app (.raw 2) LA) .nil))
 (.seq (.ret (.raw 2)) .nil)))
def init:WS:=.seq (.fld (.raw 0) "aboves" .gL) (.seq (.aV (.tp [2,3]) (.tv (.var 1)) (.seq (.exp (.bE (.raw 0) 1 (.cons (.raw 2) (.cons (.raw 3) .nil)))) .nil)) .nil)
end Ct
section
variable {Z:Wc}{H:Hp}{x dx:Addr}{es:bA}
theorem yb (ck:CrtK Z.K a)(c:Crt Z.K a H x dx d kvs es)(h0:b[0]?=Z9 (Z9 (.ref x)))(q:Q (.ref d) H):wE Z Ct.AB b H Q:=⟨.ref x,h0,x,a,dx,_,.ref d,rfl,c.ins,ck.cls,ck.na,rfl,q⟩
theorem Jx {x:V}{dx:D}(c:Rep Z.K H B x dx)(d:Rep Z.K H e y (.dict es))(f:iH dx=Z7)(q:∀a,Same H a->Q (.bl (z0f es dx).isSome) a):jQ Z.K (mB (cmpD .In)) x y H Q:=⟨B,e,dx,.dict es,.bool (z0f es dx).isSome,c,d,by show((if iH dx=Z7 then Res.ok (z0f es dx).isSome else Res.no)>>=λb=>Res.ok (PyData.bool b))=_;rw[sf f];rfl,λw a s r=>by cases r;exact q a s⟩
theorem DZ (h:rL c=Z7):iH c=true:=by cases c<;>first|(cases h;done)|rfl
theorem Jy (h:ρ[i]?=Z9 (Z9 (.od,c))):aL Κ Φ (.gZ (.var i) ["str"]) ρ=.ok (.fr,.bool (rL c)):=by show(wO ρ[i]?>>=λx=>Res.ok (G.fr,PyData.bool (["str"].any λT=>iU (gO x.2) T)))=_;rw[h];cases c<;>rfl
theorem zbu (ck:CrtK Z.K j)(ct:Crt Z.K j H x dx d kvs es)(f:Rep Z.K H B v c)(q:∀h,Same H h->k.rt (.bl (stN es c)) h):
  wS Z Ct.nG k [Z9 (.ref x),Z9 v] H:=by
 refine⟨[Z8,Z9 (.od,c)],F0 H,_,pQ rfl λi g p e=>?_,Jy rfl,λw l a m=>⟨rL c,m,?_⟩⟩
 .rcases i with _|_|i<;>cases e;exact⟨rfl,v,B,rfl,f⟩
 .cases b:rL c with
  |false=>have:=q l a;unfold stN at this;rw[b]at this;exact this
  |true=>refine⟨v,rfl,yb ck (ct.same a) rfl (Jx (f.sm a) (ct.same a).rep (DZ b) λn o=>?_)⟩;have:=q n (a.trans o);unfold stN at this;rw[b]at this;exact this
def z35 (K:Z5)(CC:Addr):Sp:=λvs H Q _=>∃x dx d kvs es v c B,vs=[.ref x,v]/\Crt K CC H x dx d kvs es/\Rep K H B v c/\∀H',Same H H'->Q (.bl (stN es c)) H'
def yc:D->Bool
 |.none=>Z7
 |_=>Z6
def hX (es:bA)(c a:D):Bool:=rL c&& !(z0f es c).isSome&&(yc a||stN es a)
def z98 (K:Z5)(CC:Addr)(mg:Str->Option Value):Sp:=λvs H Q E=>∃x dx d kvs es vc va c a B,vs=[.ref x,vc,va]/\Crt K CC H x dx d kvs es/\Rep K H B vc c/\Rep K H B va a/\es.length<ba/\if hX es c a=Z7 then ∀H' uc,(∀b o,b≠d->H b=Z9 o->H' b=Z9 o)->Crt K CC H' x dx d uc (es++[(c,a)])->Q .aM H' else ∀C H',mg "NoCourt"=Z9 (.ref C)->Same H H'->E (.ref C) Z8 H'
theorem Rep.aM {K:Z5}(r:Rep K H B v a):decide (v=.aM)=yc a:=by
 cases a with
 |none=>cases r;rfl
 |bool b=>cases r;rfl
 |int b=>cases r;rfl
 |str b=>obtain⟨rfl,_⟩:=r;rfl
 |tuple c=>obtain⟨_,_,rfl,_⟩:=r;rfl
 |list c=>obtain⟨_,_,rfl,_⟩:=r;rfl
 |dict c=>obtain⟨_,_,rfl,_⟩:=r;rfl
theorem aW.len {K:Z5}:∀{es:bA} {kvs:List (Key×V)},aW K H B kvs es->kvs.length=es.length
 | [],kvs,r=>by cases r;rfl
 |e::es,kvs,r=>by obtain⟨k,v,t,rfl,_,_,_,r⟩:=r;rw[bc,bc,aW.len r]
theorem Jz (h:(z0f es k).isSome=Z6):dput es k v=es++[(k,v)]:=by unfold dput;rw[sg];intro z;unfold z0f at h;rw[iy,ql.mpr (List.any_eq_true.mp z)]at h;cases h
theorem D1 {C:Addr}(h:Z.me[j]?=Z9 (C,m,a)):wE Z (.bE o j as)=jL C m a [] Z.E (wE Z o) (wA Z as):=by show(match Z.me[j]? with|some r=>jL r.1 r.2.1 r.2.2 [] Z.E (wE Z o) (wA Z as)|none=>hW)=_;rw[h]
theorem zpm (hm:Z.me[0]?=Z9 (e,("stands":Str),z35 Z.K e))(ct:Crt Z.K e H x dx d kvs es)(h0:b[0]?=Z9 (Z9 (.ref x)))(f:b[i]?=Z9 (Z9 v))(g:Rep Z.K H B v c)(q:∀a,Same H a->Q (stN es c) a):
  wT Z (.jD (.bE (.raw 0) 0 (.cons (.raw i) .nil))) b H Q:=by
 show DO Z.K (wE Z (.bE _ 0 _)) b H Q;rw[D1 hm];exact⟨.ref x,h0,x,dx,_,rfl,ct.ins,rfl,v,f,x,dx,d,kvs,es,v,c,B,rfl,ct,g,λa s=>⟨_,rfl,q a s⟩⟩
theorem zed (ck:CrtK Z.K A)(hm:Z.me[0]?=Z9 (A,("stands":Str),z35 Z.K A))(ct:Crt Z.K A H x dx d kvs es)(D:Rep Z.K H B t c)(F:Rep Z.K H B l a)(L:es.length<ba)
  (q:if hX es c a=Z7 then ∀h u,(∀b o,b≠d->H b=Z9 o->h b=Z9 o)->Crt Z.K A h x dx d u (es++[(c,a)])->I.nx [Z9 (.ref x),Z9 t,Z9 l] h else ∀C h,Z.mg "NoCourt"=Z9 (.ref C)->Same H h->Z.E (.ref C) Z8 h):
  wS Z Ct.found I [Z9 (.ref x),Z9 t,Z9 l] H:=by
 have bad:hX es c a=Z6->∀h,Same H h->∀C,Z.mg "NoCourt"=Z9 (.ref C)->Z.E (.ref C) Z8 h:=λG h s C e=>by rw[sg (by rw[G];decide)]at q;exact q C h e s
 refine⟨[Z8,Z9 (.od,c),Z8],F0 H,rL c,pQ rfl λi g R e=>?_,?_,λM v=>?_⟩
 .rcases i with _|_|_|i<;>cases e;exact⟨rfl,t,B,rfl,D⟩
 .show(aL Z.Κ Z.Φ (.gZ (.var 1) ["str"]) _>>=λx=>jN x.2)=_;rw[Jy rfl];rfl
 cases m:rL c with
 |false=>exact bad (by unfold hX;rw[m];rfl) M v
 |true=>
  refine⟨t,rfl,yb ck (ct.same v) rfl (Jx (D.sm v) (ct.same v).rep (DZ m) λJ N=>⟨_,rfl,?_⟩)⟩;have f:=v.trans N;cases w:(z0f es c).isSome with
  |true=>exact bad (by unfold hX;rw[m,w];rfl) J f
  |false=>
   refine⟨l,rfl,_,rfl,?_⟩
   have y:hX es c a=Z7->∀n,Same H n->imm a=Z7->wS Z (.seq (.put Ct.AB (.raw 1) (.raw 2)) .nil) I [Z9 (.ref x),Z9 t,Z9 l] n:=λG n p O=>by
    rw[sf G]at q;have j:=ct.same p;obtain⟨k,rfl,rfl,ok⟩:=xq (DZ m) D;refine⟨l,rfl,yb ck j rfl ⟨kV k,rfl,.inl ⟨d,_,rfl,.inl ⟨kvs,k,j.fK,rfl,by rw[aW.len j.re];exact L,rfl⟩,?_⟩⟩⟩;refine q _ (putK kvs k l) (λb o P e=>by rw[aE P];exact p b o e) ⟨?_,bF,?_⟩
    .rw[aE]
     .exact j.ins
     .intro z;have:=j.ins;rw[z,j.fK]at this;cases this
    .have r:=aW.put ok (Rep.aS a O (F.sm p)) j.re;rw[Jz w]at r;refine aW.keep (λb o e z=>?_) (λ_ z=>z) _ r;rw[aE]
     .exact e
     .rintro rfl
      rw[j.fK]at e;cases e;exact z.elim id id
   rw[show(!decide (l=V.aM))=!yc a by rw[F.aM]];cases hn:yc a with
   |true=>
    have Q:a=.none:=by cases a<;>first|(cases hn;done)|rfl
    subst Q;exact y (by unfold hX;rw[m,w];rfl) J f rfl
   |false=>
    refine zpm hm (ct.same f) rfl rfl (F.sm f) λn p=>?_;cases hs:stN es a with
    |true=>exact y (by unfold hX;rw[m,w,hs,lb];rfl) n (f.trans p) (by unfold stN at hs;cases a<;>first|(cases hs;done)|rfl)
    |false=>exact bad (by unfold hX;rw[m,w,hn,hs];rfl) n (f.trans p)
end
def cX (es:bA):Nat->Str->List Str
 |0,s=>[s]
 |n+1,s=>match z0f es (.str s)with
  |some (.str a)=>s::cX es n a
  |_=>[s]
def endN (es:bA):Nat->Str->Bool
 |0,s=>match z0f es (.str s)with
  |some .none=>Z7
  |_=>Z6
 |n+1,s=>match z0f es (.str s)with
  |some .none=>Z7
  |some (.str a)=>endN es n a
  |_=>Z6
def z5e (K:Z5)(CC:Addr)(mg:Str->Option Value):Sp:=λvs H Q E=>∃x dx d kvs es v c B,vs=[.ref x,v]/\Crt K CC H x dx d kvs es/\Rep K H B v c/\if stN es c=Z7 then ∃s n,c=.str s/\n<1000/\endN es n s=Z7/\∀H' p,Same H H'->H p=Z8->H' p=Z9 (.lst ((cX es n s).map V.str))->Q (.ref p) H' else ∀C H',mg "NoCourt"=Z9 (.ref C)->Same H H'->E (.ref C) Z8 H'
theorem D4 {K:Z5}:∀{a:List Str},(∀s∈a,ZV s=Z7)->Reps K H B (a.map V.str) (a.map ZU)
 | [],_=>rfl
 |s::a,h=>⟨_,_,rfl,⟨rfl,h s bg⟩,D4 λt b=>h t (a9 _ b)⟩
theorem Sj:dC (.list ((a++[s]).map ZU)) (.int (-1))=.ok (.str s):=by
 show Res.dE (bM ((a++[s]).map ZU) (-1))=_
 have:bM ((a++[s]).map ZU) (-1)=Z9 (.str s):=by
  unfold bM fG;rw[sg dc,sf (by grind)];have e:((-1:Int)+((mj ZU (a++[s])).length:Int)).toNat=a.length:=by simp;omega
  rw[e];simp
 rw[this];rfl
theorem zjv (ck:CrtK Z.K k)(ct:Crt Z.K k H x dx d kvs es)(h0:a[0]?=Z9 (Z9 (.ref x)))(l:a[2]?=Z9 (Z9 (.ref p)))(m:H p=Z9 (.lst ((j++[s]).map V.str)))(n:∀t∈j++[s],ZV t=Z7)(e:z0f es (.str s)=Z9 w)(o:imm w=Z7)
  (q:∀b v,Same H b->Rep Z.K b NoB v w->Q v b):wE Z Ct.LA a H Q:=by
 refine yb (Q:=λx c=>(jK (iY Z.K) (sG 2) (wE Z (.aT (.neg (.int 1))))) a c λy r=>iY Z.K x y r Q) ck ct h0 ⟨.ref p,l,bz a.length Z8,F0 H,(.fr,.int (-1)),pQ (by rw[cf]) λi g A e=>?_,rfl,λB c f h=>?_⟩
 .rw[dh]at e;split at e<;>cases e
 .cases h;refine⟨AnyB,AnyB,.list ((j++[s]).map ZU),.int (-1),.str s,⟨p,_,rfl,.inl ⟨f _ _ m,trivial⟩,D4 n⟩,rfl,Sj,λC h=>?_⟩;refine⟨AnyB,AnyB,.dict es,.str s,w,(ct.same f).rep,h,?_,λu z=>q c u f (Rep.aS w o z)⟩
  .show(if iH (ZU s)=Z7 then Res.dE (z0f es (.str s))else .no)=_;rw[e];rfl
theorem zh6 (ck:CrtK Z.K L)(hm:Z.me[0]?=Z9 (L,("stands":Str),z35 Z.K L))(ct:Crt Z.K L H x dx d kvs es)(X:Rep Z.K H B v c)
  (q:if stN es c=Z7 then ∃s n,c=.str s/\n<1000/\endN es n s=Z7/\∀f p,Same H f->H p=Z8->f p=Z9 (.lst ((cX es n s).map V.str))->D0.rt (.ref p) f else ∀C f,Z.mg "NoCourt"=Z9 (.ref C)->Same H f->Z.E (.ref C) Z8 f):
  wS Z Ct.line D0 [Z9 (.ref x),Z9 v,Z8] H:=by
 refine zpm hm ct rfl rfl X λO D=>?_;cases hs:stN es c with
 |false=>rw[sg (by rw[hs];decide)]at q;exact λC e=>q C O e D
 |true=>
  rw[sf hs]at q;obtain⟨s,n,rfl,hn,he,q⟩:=q;obtain⟨rfl,hok⟩:=X;refine⟨.str s,rfl,(db▸(by decide:1<=16777216):[V.str s].length<=ba),λp M=>?_⟩;have G:=D.none M
  let T:=cX es n s
  let W:Nat->L2.St->Hp->Prop:=λm I f=>I=[Z9 (.ref x),Z9 (.str s),Z9 (.ref p)]/\∃F t,(∀b o,b≠p->O b=Z9 o->f b=Z9 o)/\f p=Z9 (.lst ((F++[t]).map V.str))/\(∀u∈F++[t],ZV u=Z7)/\endN es m t=Z7/\T=F++cX es m t/\F.length+m<=n
  have bR:∀f,(∀b o,b≠p->O b=Z9 o->f b=Z9 o)->Crt Z.K L f x dx d kvs es:=λf k=>by
   have P:=ct.same D;refine⟨k _ _ (Ne.symm (by rintro rfl;have:=(ct.same D).ins;rw[M]at this;cases this)) P.ins,k _ _ (Ne.symm (by rintro rfl;have:=(ct.same D).fK;rw[M]at this;cases this)) P.fK,aW.keep (λb o e z=>k b o ?_ e) (λ_ z=>z) _ P.re⟩
   rintro rfl
   rw[M]at e;cases e
  refine⟨W,⟨n,rfl,[],s,λb o N e=>by rw[aE N];exact e,bF,λu hu=>by rw[az.mp hu];exact hok,he,rfl,by simp⟩,?_⟩
  rintro m I f ⟨rfl,F,t,Q,h,j,g,Y,hlen⟩
  have R:=bR f Q;have big:ba>3000:=by rw[db];decide
  have look:(z0f es (.str t)=Z9 .none/\cX es m t=[t])\/∃a i,m=i+1/\z0f es (.str t)=Z9 (.str a)/\endN es i a=Z7/\cX es m t=t::cX es i a:=by
   cases m with
   |zero=>
    unfold endN at g;split at g
    .rename_i e9;exact .inl ⟨e9,rfl⟩
    .cases g
   |succ i=>
    unfold endN at g;split at g
    .rename_i e;refine .inl ⟨e,?_⟩;show(match z0f es (.str t)with|some (.str a)=>t::cX es i a|_=>[t])=_;rw[e]
    .rename_i a e;refine .inr ⟨a,i,rfl,e,g,?_⟩;show(match z0f es (.str t)with|some (.str a)=>t::cX es i a|_=>[t])=_;rw[e]
    .cases g
  rcases look with⟨el,y⟩|⟨a,i,rfl,el,S,y⟩
  .refine zjv ck R rfl rfl h j el rfl λA v l U=>⟨_,rfl,?_⟩;cases U;refine⟨.ref p,rfl,q A p (λb o e=>?_) G ?_⟩
   .refine l b o (Q b o ?_ (D b o e))
    rintro rfl;rw[G]at e;cases e
   .show A p=Z9 (.lst (T.map V.str));rw[Y,y];exact l _ _ h
  .have Wt:∀A,Same f A->∀v,Rep Z.K A NoB v (.str a)->v=.str a/\ZV a=true:=λA l v r=>r;refine zjv ck R rfl rfl h j el rfl λA v l U=>⟨_,rfl,?_⟩;obtain⟨rfl,J⟩:=U;refine⟨W i,λSk Jq w=>⟨i,i7 _,w⟩,?_⟩;refine⟨.ref p,rfl,?_,?_⟩
   .exact .inl ⟨rfl,_,.inl (.inl (l _ _ h))⟩
   .refine zjv ck (R.same l) rfl rfl (l _ _ h) j el rfl λH3 v s3 r3=>?_;obtain⟨rfl,_⟩:=r3;refine⟨p,_,.str a,rfl,rfl,s3 _ _ (l _ _ h),?_,rfl,F++[t],a,λb o N e=>?_,?_,λu hu=>?_,S,?_,?_⟩
    .simp;omega
    .rw[aE N];exact s3 b o (l b o (Q b o N e))
    .rw[bF];simp
    .rcases bw.mp hu with hu|hu
     .exact j u hu
     .rw[az.mp hu];exact J
    .rw[Y,y];simp
    .simp;omega
def z0m:bA->List D->Option bA
 |es,[]=>Z9 es
 |es,p::ps=>match p with
  |.tuple [c,a]=>if hX es c a then z0m (es++[(c,a)]) ps else Z8
  |_=>Z8
def isPr:D->Bool
 |.tuple [_,_]=>Z7
 |_=>Z6
def ud (K:Z5)(CC:Addr)(mg:Str->Option Value)(H:Hp)(x dx:Addr)(ps:List D)(Q:Hp->Prop)(E:XK):Prop:=
 match z0m [] ps with
 |some es=>∀H' d kvs,H d=Z8->(∀b o,b≠x->H b=Z9 o->H' b=Z9 o)->Crt K CC H' x dx d kvs es->Q H'
 |none=>∀C H',mg "NoCourt"=Z9 (.ref C)->(∀b o,b≠x->H b=Z9 o->H' b=Z9 o)->E (.ref C) Z8 H'
def zaz (K:Z5)(CC:Addr)(mg:Str->Option Value):Sp:=λvs H Q E=>∃x dx vp ps B,vs=[.ref x,vp]/\H x=Z9 (.ins CC dx [])/\Rep K H B vp (.list ps)/\imms ps=Z7/\(ps.all isPr)=Z7/\ps.length<1000/\ud K CC mg H x dx ps (λH'=>Q .aM H') E
theorem zgx (ck:CrtK Z.K CC)(hm:Z.me[1]?=Z9 (CC,("found":Str),z98 Z.K CC Z.mg))(G:H x=Z9 (.ins CC dx []))(rp:Rep Z.K H B vp (.list ps))(hi:imms ps=Z7)(hpr:(ps.all isPr)=Z7)(hz:ps.length<1000)
  (q:ud Z.K CC Z.mg H x dx ps (λu=>∀r,D0.nx r u) Z.E):wS Z Ct.init D0 [Z9 (.ref x),Z9 vp,Z8,Z8] H:=by
 refine λd hd=>?_;have O:d≠x:=by rintro rfl;rw[hd]at G;cases G
 refine⟨.ref x,rfl,x,CC,dx,[],rfl,(aE (Ne.symm O)▸G),ck.cls,ck.na,by decide,?_⟩
 let F:Hp:=upd (upd H d (.dK [])) x (.ins CC dx [("aboves",.ref d)])
 have P:∀b o,b≠x->H b=Z9 o->F b=Z9 o:=λb o M e=>by
  have:b≠d:=by rintro rfl;rw[hd]at e;cases e
  show upd _ _ _ _=_;rw[aE M,aE this];exact e
 have c1:Crt Z.K CC F x dx d [] []:=⟨bF,by show upd _ _ _ _=_;rw[aE O,bF],rfl⟩
 let Q:Fm:=⟨λb=>if b=d\/b=x then Z8 else F b,λ_=>True,λ_=>Z8,True⟩
 obtain⟨l,vs,rfl,s,rs⟩:=rp;have R:∀b,b≠d->b≠x->∀o,F b=Z9 o->eG Q (Z9 b):=λb h1 h2 o e=>by refine⟨?_,trivial⟩;show(if b=d\/b=x then Z8 else F b)≠Z8;rw[sg (λz=>z.elim h1 h2),e];intro z;cases z
 have rl:Rep Z.K F (eG Q) (.ref l) (.list ps):=by
  have S:Reps Z.K F (eG Q) vs ps:=Reps.kF (λa o e f=>P a o (by rintro rfl;rw[G]at e;cases e;exact f) e) ps hi rs;rcases s with⟨s,_⟩|⟨s,_⟩
  .have A:l≠x:=by rintro rfl;rw[s]at G;cases G
   exact⟨l,vs,rfl,.inl ⟨P l _ A s,R l (by rintro rfl;rw[s]at hd;cases hd) A _ (P l _ A s)⟩,S⟩
  .refine⟨l,vs,rfl,.inr ⟨?_,trivial⟩,S⟩;rcases s with⟨o,s⟩|s
   .have A:l≠x:=by rintro rfl;rw[s]at G;cases G
    exact .inl ⟨o,P l _ A s⟩
   .exact .inr s
 have zx:StOk Z.K Q F [Z9 (.ref x),Z9 (.ref l),Z8,Z8] [Z8,Z9 (.od,.list ps),Z8,Z8]:=by
  refine⟨λa o e=>?_,λ_ _=>trivial,λa i e=>(by cases e),rfl,λi g d' e=>?_⟩
  .have e:(if a=d\/a=x then Z8 else F a)=Z9 o:=e;split at e
   .cases e
   .exact e
  .rcases i with _|_|_|_|i<;>cases e;exact⟨_,rfl,rl⟩
 refine⟨_,Q,(.od,ps),zx,rfl,λJ B' H2 s2 hB wk=>?_⟩
 have kp:∀{t:Hp},(∀b o,b≠d->H2 b=Z9 o->t b=Z9 o)->Kp B' H2 t:=λ{t} k b o e z=>k b o (by
  rintro rfl
  rcases z with z|z
  .exact(hB _ z).1.1 (by show(if b=b\/b=x then Z8 else F b)=Z8;rw[sf (.inl rfl)])
  .have :=s2 _ _ c1.fK;rw[e]at this;cases this;exact z) e
 let W:Nat->Nat->L2.St->Hp->Prop:=λi m r u=>m=ps.length-i/\i<=ps.length/\r.length=4/\r[0]?=Z9 (Z9 (.ref x))/\(∀b o,b≠d->H2 b=Z9 o->u b=Z9 o)/\∃kvs es,Crt Z.K CC u x dx d kvs es/\es.length=i/\z0m es (ps.drop i)=z0m [] ps
 refine⟨W,⟨_,rfl,cz _,rfl,rfl,λ_ _ _ e=>e,[],[],c1.same s2,rfl,rfl⟩,?_⟩
 rintro i m r u ⟨rfl,CB,T,Sm,U,kvs,es,ct,hes,n⟩
 have I:∀t,Same u t->∀b o,b≠x->H b=Z9 o->t b=Z9 o:=λt N b o M e=>N b o (U b o (by rintro rfl;rw[hd]at e;cases e) (s2 b o (P b o M e)));by_cases D:i<ps.length
 .refine .inr ⟨wk.go u (kp U) i D,W (i+1) (ps.length-(i+1)),λwc t w=>⟨_,by omega,w⟩,λy t hy=>?_⟩;obtain⟨N,p,hp,ry⟩:=wk.gR u (kp U) i y t D hy;have CD:ps.drop i=p::ps.drop (i+1):=by rw[jc D];rw[ac D]at hp;cases hp;rfl
  have L:=br.mp hpr p (ar hp)
  obtain⟨c,a,rfl⟩:∃c a,p=.tuple [c,a]:=by
   unfold isPr at L;split at L
   .exact⟨_,_,rfl⟩
   .cases L
  refine⟨bz 4 Z8,F0 t,(.od,.tuple [c,a]),[Z8,Z8,Z9 (z1g (gJ c .od,c)),Z9 (z1g (gJ a .od,a))],pQ (by rw[T,cf]) λj g d' e=>?_,ry.old,rfl,λSn F3 V X=>?_⟩
  .rw[dh]at e;split at e<;>cases e
  have sl:∀j e,([Z8,Z8,Z9 (z1g (gJ c .od,c)),Z9 (z1g (gJ a .od,a))]:Rho)[j]?=Z9 (Z9 (z1g (gJ e .od,e)))->∃v,Sn[j]?=Z9 (Z9 v)/\Rep Z.K t AnyB v e:=λj e h=>by
   have h9:∀g,z1g (g,e)=(.od,e)\/z1g (g,e)=(.al,e):=λg=>by cases g<;>first|exact .inl rfl|exact .inr rfl
   rcases h9 (gJ e .od)with h8|h8
   .rw[h8]at h;obtain⟨v,e1,r1⟩:=V.sl j _ _ h;exact⟨v,e1,Rep.weak (λ_ _=>trivial) r1⟩
   .rw[h8]at h;obtain⟨v,e1,r1⟩:=V.sl j _ _ h;exact⟨v,e1,Rep.weak (λ_ _=>trivial) r1⟩
  obtain⟨vc,So,rc⟩:=sl 2 c rfl;obtain⟨va,Sq,ra⟩:=sl 3 a rfl;have JA:=(X.rest 0 dc).trans Sm;rw[CD]at n;have n:(if hX es c a=Z7 then z0m (es++[(c,a)]) (ps.drop (i+1))else Z8)=z0m [] ps:=n;show wE Z (.bE _ 1 _) _ _ _;rw[D1 hm];have big:ba>3000:=by rw[db];decide
  refine⟨.ref x,JA,x,dx,_,rfl,(ct.same N).ins,rfl,vc,So,va,Sq,x,dx,d,kvs,es,vc,va,c,a,AnyB,rfl,ct.same N,rc,ra,by omega,?_⟩;by_cases ho:hX es c a=Z7
  .rw[sf ho]at n ⊢;intro H4 uc k4 Sr;exact⟨rfl,D,X.len.trans T,JA,λb o M e=>k4 b o M (N b o (U b o M e)),uc,_,Sr,by rw[ax,hes];rfl,n⟩
  .rw[sg ho]at n ⊢;intro C H4 hC s4;unfold ud at q;rw[<-n]at q;exact q C H4 hC (I H4 (N.trans s4))
 .have xw:i=ps.length:=by omega
  subst xw;refine .inl ⟨wk.stop u (kp U),?_⟩;rw[l7]at n;unfold ud at q;rw[<-n]at q;exact q u d kvs hd (I u (Same.refl _)) ct r
namespace Ct
end Ct
theorem lJ (b:endN es m t=Z7):(z0f es (.str t)=Z9 .none/\cX es m t=[t])\/∃a c,m=c+1/\z0f es (.str t)=Z9 (.str a)/\endN es c a=Z7/\cX es m t=t::cX es c a:=by
 cases m with
 |zero=>
  unfold endN at b;split at b
  .rename_i d;exact .inl ⟨d,rfl⟩
  .cases b
 |succ c=>
  unfold endN at b;split at b
  .rename_i d;refine .inl ⟨d,?_⟩;show(match z0f es (.str t)with|some (.str a)=>t::cX es c a|_=>[t])=_;rw[d]
  .rename_i a d;refine .inr ⟨a,c,rfl,d,b,?_⟩;show(match z0f es (.str t)with|some (.str a)=>t::cX es c a|_=>[t])=_;rw[d]
  .cases b
structure kP where
 c:Str
 f:List Str
 ms:List (Str×Stmt)
def rM (K:Z5)(C:Addr)(c:Str)(m:Str×Stmt):Option (d5×Bool):=match Z4 K (.ref C) m.1 with
 |some (Z9 (.ref p))=>(match K.lookup p with
  |some ⟨_,_,.func fd,_⟩=>Z9 (fd,ZZ K fd.code (c++"."++m.1)&&Z2 K (.ref p)&&W.isFn K (.ref p))
  |_=>Z8)
 |_=>Z8
def JB (c:Str)(m:Str×Stmt)(x:d5×Bool):d5×Bool:=(Z0 m.1 (c++"."++m.1) (z0t m.2) (z0j m.2) (z0b m.2) .none x.1.kwdefaults x.1.doc x.1.pyModule x.1.annotations x.1.code x.1.closureTuple,Z7)
def z5 (K:Z5)(r:kP):Option (List Bool×Option (Option Value)×List (Option (Option Value))×List Bool×List (Option (d5×Bool))):=match ZY K bo r.c with
 |some (Z9 (.ref C))=>Z9 ([W.plainGet K C Str.empty,W.hasDictIn K C,W.plainOver K C,W.makesIn K C,Z2 K (.ref C)],Z4 K (.ref C) "__setattr__",r.f.map (λf=>Z4 K (.ref C) f),r.ms.map (λm=>(rM K C r.c m).isSome),r.ms.map λm=>rM K C r.c m)
 |_=>Z8
def JC (K:Z5)(r:kP):Option (List Bool×Option (Option Value)×List (Option (Option Value))×List Bool×List (Option (d5×Bool))):=match ZY K bo r.c with
 |some (Z9 (.ref C))=>Z9 ([Z7,Z7,Z7,Z7,Z7],Z9 (Z9 (.builtin "object.__setattr__")),r.f.map (λ_=>Z9 Z8),r.ms.map (λ_=>Z7),r.ms.map λm=>(rM K C r.c m).map (JB r.c m))
 |_=>Z8
def KCq (K:eu->Z5)(r:kP):Prop:=∀P,((z5 (K P) r).isSome,z5 (K P) r)=(Z7,JC (K P) r)
theorem KCq_r:KCq=KCq:=rfl
structure ClsAt (K:Z5)(r:kP)(C:Addr):Prop where
 ns:ZY K bo r.c=Z9 (Z9 (.ref C))
 cls:Cls K C
 na:∀f∈r.f,z1x K C f
 JD:W.makesIn K C=Z7
 kp:Z2 K (.ref C)=Z7
 ms:∀m∈r.ms,∃f fd,Fun K m.1 (r.c++"."++m.1) m.2 f fd/\Meth K C m.1 f
theorem Su {K:Z5}{C:Addr}(h:(rM K C c m).isSome=Z7)(e:rM K C c m=(rM K C c m).map (JB c m)):∃f fd,Fun K m.1 (c++"."++m.1) m.2 f fd/\Meth K C m.1 f:=by
 cases z:rM K C c m with
 |none=>rw[z]at h;cases h
 |some x=>
  rw[z]at e;have e:=si e;unfold rM at z;split at z
  .rename_i f g;split at z
   .rename_i oc od fd sl i;have z:=si z;have j:=congrArg lg z;have b:=congrArg q9 z;rw[congrArg q9 e]at b;obtain⟨a,k⟩:=au.mp b;obtain⟨a,d⟩:=au.mp a;subst j;exact⟨f,x.1,⟨⟨oc,od,x.1.kwdefaults,x.1.doc,x.1.pyModule,x.1.annotations,x.1.code,x.1.closureTuple,sl,congrArg lg e,i,a⟩,d⟩,g,k,d⟩
   .cases z
  .cases z
theorem JE {K:eu->Z5}(h:KCq K r)(P:eu):∃C,ClsAt (K P) r C:=by
 obtain⟨a,b⟩:=sj (h P);unfold z5 JC at b;unfold z5 at a;split at b
 .rename_i C c;obtain⟨a1,a2⟩:=sj (si b);obtain⟨a2,a3⟩:=sj a2;obtain⟨a3,a4⟩:=sj a3;obtain⟨a4,d⟩:=sj a4;obtain⟨e,a1⟩:=List.cons.inj a1;obtain⟨g,a1⟩:=List.cons.inj a1;obtain⟨i,a1⟩:=List.cons.inj a1;obtain⟨j,a1⟩:=List.cons.inj a1;obtain⟨k,_⟩:=List.cons.inj a1;exact⟨C,c,⟨e,g,i,a2⟩,λf hf=>c8.mp a3 f hf,j,k,λm hm=>Su (c8.mp a4 m hm) (c8.mp d m hm)⟩
 .rename_i hn;split at a
  .rename_i C c;simp_all
  .cases a
end Mi
name_quick tkcq for Mi.KCq by Mi.KCq_r
namespace Mi
open PySem PySem.Spec PyProof.Rows L2
structure nH where
 c:Str
 fl:Str
 B:Str
 cs:List (Str×Bool)
 st:Stmt
abbrev XD:=List Bool×List (Option (Option Value))×List (Option Bool)×List (Option (Bool×Option Value×Option Bool))×d5
def JF (K:Z5)(A:Addr)(y:Str×Bool):Option (Bool×Option Value×Option Bool):=match ZY K bo y.1 with
 |some (Z9 (.ref E))=>Z9 ((W.clsIn K E).isSome,W.typeIn K (.ref E),ZX K (.ref A) (.ref E))
 |_=>Z8
def rN (K:Z5)(r:nH):Option XD:=match ZY K bo r.c,ZY K bo r.B with
 |some (Z9 (.ref A)),Z9 (Z9 (.ref D))=>(match K.lookup A with
  |some ⟨.type "type",_,.cls cd,_⟩=>(match ZY K cd.ns "__init__"with
   |some (Z9 (.ref f))=>(match K.lookup f with
    |some ⟨_,_,.func fd,_⟩=>Z9 ([iJ K A,cd.hasDict,W.isFn K (.ref f),ZZ K fd.code (r.c++"."++"__init__"),iJ K D,(W.clsIn K A).isSome,Z2 K (.ref f)],
     [Z4 K (.ref A) "__setattr__",Z4 K (.ref A) r.fl,Z4 K (.ref A) "__getattribute__",Z4 K (.ref A) "__getattr__",Z4 K (.ref A) "__class__"],
     [ZX K (.ref A) (.type "object"),ZX K (.ref A) (.type "BaseException"),ZX K (.ref A) (.type "ValueError"),ZX K (.ref A) (.ref D)],r.cs.map (JF K A),fd)
    |_=>Z8)
   |_=>Z8)
  |_=>Z8)
 |_,_=>Z8
def JG (r:nH)(x:XD):XD:=([Z7,Z7,Z7,Z7,Z7,Z7,Z7],[Z9 (Z9 (.builtin "object.__setattr__")),Z9 Z8,Z9 (Z9 (.builtin "BaseException.__getattribute__")),Z9 Z8,Z9 (Z9 (.builtin "object.__class__"))],[Z9 Z7,Z9 Z7,Z9 Z7,Z9 Z7],r.cs.map (λy=>Z9 (Z7,Z9 (.type "type"),Z9 y.2)),Z0 "__init__" (r.c++"."++"__init__") (z0t r.st) (z0j r.st) (z0b r.st) .none x.2.2.2.2.kwdefaults x.2.2.2.2.doc x.2.2.2.2.pyModule x.2.2.2.2.annotations x.2.2.2.2.code x.2.2.2.2.closureTuple)
def JH (K:Z5)(g:Str×Int):Option Int:=match ZY K bo g.1 with
 |some (Z9 (.int n _))=>Z9 n
 |_=>Z8
def KXq (K:eu->Z5)(rs:List nH)(gs:List (Str×Int)):Prop:=∀P,(rs.map (λr=>(rN (K P) r).isSome),rs.map (λr=>rN (K P) r),gs.map (JH (K P)))=(rs.map (λ_=>Z7),rs.map (λr=>(rN (K P) r).map (JG r)),gs.map λg=>Z9 g.2)
theorem KXq_r:KXq=KXq:=rfl
structure XAt (K:Z5)(r:nH)(A D f:Addr)(fd:d5):Prop where
 ns:ZY K bo r.c=Z9 (Z9 (.ref A))
 nb:ZY K bo r.B=Z9 (Z9 (.ref D))
 xf:XF K A r.fl
 xa:XA K A
 xi:XI K A f
 fu:Fun K "__init__" (r.c++"."++"__init__") r.st f fd
 ed:iJ K D=Z7
 sd:ZX K (.ref A) (.ref D)=Z9 Z7
 sv:ZX K (.ref A) (.type "ValueError")=Z9 Z7
 cs:∀y∈r.cs,∃E,ZY K bo y.1=Z9 (Z9 (.ref E))/\(W.clsIn K E).isSome=Z7/\W.typeIn K (.ref E)=Z9 (.type "type")/\ZX K (.ref A) (.ref E)=Z9 y.2
theorem Sv {K:Z5}(h:(rN K r).isSome=Z7)(e:rN K r=(rN K r).map (JG r)):∃A D f fd,XAt K r A D f fd:=by
 cases z:rN K r with
 |none=>rw[z]at h;cases h
 |some x=>
  rw[z]at e;have e:=si e;unfold rN at z;split at z
  .rename_i A D p s;split at z
   .rename_i R cd sl d;split at z
    .rename_i f hf;split at z
     .rename_i oc od fd g i;have z:=si z;rw[<-z]at e;obtain⟨a,e⟩:=sj e;obtain⟨b,e⟩:=sj e;obtain⟨c,e⟩:=sj e;obtain⟨t,u⟩:=sj e;obtain⟨m,a⟩:=List.cons.inj a;obtain⟨v,a⟩:=List.cons.inj a;obtain⟨w,a⟩:=List.cons.inj a;obtain⟨B,a⟩:=List.cons.inj a;obtain⟨C,a⟩:=List.cons.inj a;obtain⟨F,a⟩:=List.cons.inj a;obtain⟨G,_⟩:=List.cons.inj a;obtain⟨H,b⟩:=List.cons.inj b;obtain⟨I,b⟩:=List.cons.inj b;obtain⟨n,b⟩:=List.cons.inj b;obtain⟨o,b⟩:=List.cons.inj b;obtain⟨J,_⟩:=List.cons.inj b;obtain⟨d1,c⟩:=List.cons.inj c;obtain⟨d2,c⟩:=List.cons.inj c;obtain⟨L,c⟩:=List.cons.inj c;obtain⟨d4,_⟩:=List.cons.inj c;refine⟨A,D,f,fd,p,s,⟨m,λj k l q=>by rw[d]at q;cases q;exact v,H,I,n,o,d1,d2⟩,⟨J,n,o,d1,d2,?_,F,m⟩,⟨λj k l q=>by rw[d]at q;cases q;exact hf,w⟩,⟨⟨oc,od,fd.kwdefaults,fd.doc,fd.pyModule,fd.annotations,fd.code,fd.closureTuple,g,u,i,B⟩,G⟩,C,d4,L,λy M=>?_⟩
      .show(K.lookup A).map (·.cls)=_;rw[d];rfl
      .have q:=c8.mp t y M;unfold JF at q;split at q
       .rename_i E N;obtain⟨O,q⟩:=sj (si q);obtain⟨P,Q⟩:=sj q;exact⟨E,N,O,P,Q⟩
       .cases q
     .cases z
    .cases z
   .cases z
  .cases z
theorem Sw {K:eu->Z5}(h:KXq K rs b)(P:eu):(∀r∈rs,∃A D f fd,XAt (K P) r A D f fd)/\∀g∈b,∃t,ZY (K P) bo g.1=Z9 (Z9 (.int g.2 t)):=by
 obtain⟨c,a⟩:=sj (h P);obtain⟨a,d⟩:=sj a;refine⟨λr hr=>Sv (c8.mp c r hr) (c8.mp a r hr),λg i=>?_⟩;have q:=c8.mp d g i;unfold JH at q;split at q
 .rename_i n t e;cases q;exact⟨t,e⟩
 .cases q
end Mi
name_quick tkxq for Mi.KXq by Mi.KXq_r
namespace Mi
open PySem PySem.Spec PyProof.Rows L2
def rO (K:Z5)(c:Str)(m:Str×Stmt):Option (d5×Bool×List Value):=match ZY K bo c with
 |some (Z9 (.ref C))=>(match Z4 K (.ref C) m.1 with
  |some (Z9 (.ref p))=>(match K.lookup p with
   |some ⟨_,_,.func fd,_⟩=>(match fd.defaults with
    |.ref T=>(match K.lookup T with
     |some ⟨_,_,.seq items _,_⟩=>Z9 (fd,ZZ K fd.code (c++"."++m.1)&&Z2 K (.ref p)&&W.isFn K (.ref p),items.toList)
     |_=>Z8)
    |_=>Z8)
   |_=>Z8)
  |_=>Z8)
 |_=>Z8
def D5 (c:Str)(m:Str×Stmt)(x:d5×Bool×List Value):d5×Bool×List Value:=(Z0 m.1 (c++"."++m.1) (z0t m.2) (z0j m.2) (z0b m.2) x.1.defaults x.1.kwdefaults x.1.doc x.1.pyModule x.1.annotations x.1.code x.1.closureTuple,Z7,[.none])
def KDq (K:eu->Z5)(c:Str)(ms:List (Str×Stmt)):Prop:=∀P,(ms.map (λm=>(rO (K P) c m).isSome),ms.map (λm=>rO (K P) c m))=(ms.map (λ_=>Z7),ms.map λm=>(rO (K P) c m).map (D5 c m))
theorem KDq_r:KDq=KDq:=rfl
structure FunD (K:Z5)(x qual:Str)(st:Stmt)(T f:Addr)(fd:d5):Prop where
 ex:∃(oc:Value) (od:Option Addr) (kV doc pm:Value) (an:Option Addr) (oO ct:Value) (wz:Array (Option Value)),fd=Z0 x qual (z0t st) (z0j st) (z0b st) (.ref T) kV doc pm an oO ct/\K.lookup f=Z9 ⟨oc,od,.func fd,wz⟩/\ZZ K oO qual=Z7
 kp:Z2 K (.ref f)=Z7
 df:∃oc od n wz,K.lookup T=Z9 ⟨oc,od,.seq #[.none] n,wz⟩
theorem Sx {K:Z5}{C:Addr}(q:ZY K bo c=Z9 (Z9 (.ref C)))(h:(rO K c m).isSome=Z7)(e:rO K c m=(rO K c m).map (D5 c m)):∃T f fd,FunD K m.1 (c++"."++m.1) m.2 T f fd/\Meth K C m.1 f:=by
 cases z:rO K c m with
 |none=>rw[z]at h;cases h
 |some x=>
  rw[z]at e;have e:=si e;unfold rO at z;rw[q]at z
  dsimp only at z
  split at z
  .rename_i f hf;split at z
   .rename_i oc od fd sl r;split at z
    .rename_i T s;split at z
     .rename_i a b items n d g;have z:=si z;have t:=congrArg lg z;have k:=congrArg (·.2.1) z;have o:=congrArg (·.2.2) z;have i:=congrArg lg e;rw[congrArg (·.2.1) e]at k;rw[congrArg (·.2.2) e]at o;obtain⟨j,u⟩:=au.mp k;obtain⟨j,p⟩:=au.mp j;subst t
      have v:items=#[.none]:=by
       cases items with
       |mk l=>cases o;rfl
      subst v;unfold D5 at i;rw[s]at i;exact⟨T,f,x.1,⟨⟨oc,od,x.1.kwdefaults,x.1.doc,x.1.pyModule,x.1.annotations,x.1.code,x.1.closureTuple,sl,i,r,j⟩,p,a,b,n,d,g⟩,hf,u,p⟩
     .cases z
    .cases z
   .cases z
  .cases z
theorem Sy {K:eu->Z5}(h:KDq K c ms)(P:eu){C:Addr}(a:ZY (K P) bo c=Z9 (Z9 (.ref C))):∀m∈ms,∃T f fd,FunD (K P) m.1 (c++"."++m.1) m.2 T f fd/\Meth (K P) C m.1 f:=λm hm=>by obtain⟨b,d⟩:=sj (h P);exact Sx a (c8.mp b m hm) (c8.mp d m hm)
section
variable {K:Z5}{x qual:Str}{st:Stmt}{T f:Addr}{fd:d5}{ps:List Str}
theorem FunD.binds (F:FunD K x qual st T f fd)
  (h:∀kV a d an b ct c,c.length+1=ps.length->∃k,nq (Z0 x qual (z0t st) (z0j st) (z0b st) (.ref T) kV a d an b ct) ⟨c,[]⟩=seqItems? (.ref T)>>=k/\k (Z9 #[.none])=pure (ps.zip (c++[.none]))):Binds K fd ps [.none]:=λs c g i=>by
 obtain⟨oc,od,kV,a,d,an,b,ct,j,rfl,t,l⟩:=F.ex;obtain⟨m,o,n,e,p⟩:=F.df;obtain⟨k,q,r⟩:=h kV a d an b ct c (by rw[<-i,ax];rfl);exact W.binds_K g rfl p rfl q r
end
end Mi
name_quick tkdq for Mi.KDq by Mi.KDq_r
namespace Mi
open PySem PySem.Spec PyProof.Rows L2
section
variable {K:Z5}
theorem Reps.D6 (h:H l=Z9 (.lst d))(r:Reps K H NoB b c):Reps K (upd H l (.lst f)) NoB b c:=
 Reps.keep (λa o e z=>by
  rw[aE]
  .exact e
  .rintro rfl
   rw[h]at e;cases e;exact z.elim id id) (λ_ z=>z) _ r
theorem zgc {G:Type}{L:List G}{e:G->D}{p:G->Bool}{f:G->D}{g:TG}{tc:TT}{X:TE}{H:L2.St->L2.St}{Q:VK}(I:Walk K J B H1 (L.map e))
  (one:∀a∈L,∀v r (N:Hp->Prop) M,Same H1 r->Rep K r B v (e a)->(p a=Z6->∀h,Same r h->N h)->(p a=Z7->∀y h,Same r h->Rep K h NoB y (f a)->M y h)->g v (H σ) r λj O=>fR (H σ) j/\tc j O λb C=>if b=Z7 then X j C M else N C)
  (q:∀l Y h,H1 l=Z8->Same H1 h->h l=Z9 (.lst Y)->Reps K h NoB Y ((L.filter p).map f)->Q (.ref l) h):
  ∀l,H1 l=Z8->∃P:Nat->Nat->List V->Hp->Prop,(∃m,P 0 m [] (upd H1 l (.lst [])))/\∀i m c n,P i m c n->(J.stop i n/\Q (.ref l) n)\/(J.go i n/\c.length<ba/\∃N:List V->Hp->Prop,(∀s h,N s h->∃m',m'<m/\P (i+1) m' s h)/\∀x r,J.gR i n x r->g x (H σ) r λj O=>fR (H σ) j/\tc j O λb C=>if b=Z7 then X j C λy H6=>H6 l=Z9 (.lst c)/\N (c++[y]) (upd H6 l (.lst (c++[y])))else N c C):=by
 intro l R
 let P:Nat->Nat->List V->Hp->Prop:=λi m c n=>m=L.length-i/\i<=L.length/\Same H1 n/\n l=Z9 (.lst c)/\Reps K n NoB c (((L.take i).filter p).map f)
 refine⟨P,⟨_,rfl,cz _,Same.upd R,bF,rfl⟩,?_⟩
 rintro i m c n ⟨rfl,hi,u,t,E⟩
 have S:(L.map e).length=L.length:=ah ..;by_cases k:i<L.length
 .have T:c.length<ba:=by
   have h1:=E.length;have h2:=I.len;rw[ah]at h1;have h3:=dn p (L.take i);rw[d7]at h3;omega
  have tk:L.take (i+1)=L.take i++[L[i]]:=by rw[lh,ac k];rfl
  refine .inr ⟨I.go n (Kp.of u) i (S▸k),T,P (i+1) (L.length-(i+1)),λs h w=>⟨_,by omega,w⟩,λx r hy=>?_⟩;obtain⟨z,d,hd,rx⟩:=I.gR n (Kp.of u) i x r (S▸k) hy;rw[ao,ac k]at hd;cases hd;refine one L[i] (ja k) x r _ _ (u.trans z) rx (λU h A=>?_) λU y h A ry=>?_
  .refine⟨rfl,k,u.trans (z.trans A),A _ _ (z _ _ t),?_⟩;rw[tk,li,jv (by rw[U];decide),List.filter_nil,eo];exact E.sm (z.trans A)
  .have F:=A _ _ (z _ _ t);refine⟨F,rfl,k,λb o eb=>?_,bF,?_⟩
   .rw[aE (bO eb R)];exact A b o (z b o (u b o eb))
   .rw[tk,li,ju U,cq];exact Reps.D6 F ((E.sm (z.trans A)).append (Reps.cons ry rfl))
 .have W:i=L.length:=by omega
  subst W;refine .inl ⟨by rw[<-S];exact I.stop n (Kp.of u),q l c n R u t ?_⟩;rw[fv]at E;exact E
theorem zek (r:Rep K H B v d)(b:i<σ.length)
  (q:∀a w,a.length=σ.length->a[i]?=Z9 (Z9 w)->Rep K H AnyB w d->(∀j,j≠i->a[j]?=σ[j]?)->Q a H):tDG K (.nm i) v σ H Q:=by
 refine⟨bz σ.length Z8,F0 H,(.od,d),(bz σ.length Z8).set i (Z9 (z1g (.od,d))),pQ (by rw[cf]) λj g l e=>?_,r.old,rfl,λa m so kp=>?_⟩
 .rw[dh]at e;split at e<;>cases e
 .have c:((bz σ.length Z8).set i (Z9 (z1g (G.od,d))))[i]?=Z9 (Z9 (z1g (G.od,d))):=by
   rw[bv];rw[cf];exact b
  obtain⟨w,f,h⟩:=so.sl i _ _ c;exact q a w kp.len f (h.weak λ_ _=>trivial) λj k=>kp.rest j (by simpa[tgIx]using k)
theorem zs2 (r:Rep K H B v (.tuple [a,b]))(n:i<σ.length)(o:j<σ.length)(l:i≠j)
  (q:∀c u w,c.length=σ.length->c[i]?=Z9 (Z9 u)->c[j]?=Z9 (Z9 w)->Rep K H AnyB u a->Rep K H AnyB w b->(∀k,k≠i->k≠j->c[k]?=σ[k]?)->Q c H):tDG K (.tp [i,j]) v σ H Q:=by
 have p:∀g e,z1g (g,e)=(.od,e)\/z1g (g,e)=(.al,e):=λg e=>by cases g<;>first|exact .inl rfl|exact .inr rfl
 refine⟨bz σ.length Z8,F0 H,(.od,.tuple [a,b]),((bz σ.length Z8).set i (Z9 (z1g (gJ a .od,a)))).set j (Z9 (z1g (gJ b .od,b))),pQ (by rw[cf]) λj g z e=>?_,r.old,rfl,λc A so kp=>?_⟩
 .rw[dh]at e;split at e<;>cases e
 .have sl:∀k e g,(((bz σ.length Z8).set i (Z9 (z1g (gJ a .od,a)))).set j (Z9 (z1g (gJ b .od,b))))[k]?=Z9 (Z9 (z1g (g,e)))->∃v,c[k]?=Z9 (Z9 v)/\Rep K H AnyB v e:=fun k e g h=>by
   rcases p g e with m|m
   .rw[m]at h;obtain⟨v,d,f⟩:=so.sl k _ _ h;exact⟨v,d,f.weak λ_ _=>trivial⟩
   .rw[m]at h;obtain⟨v,d,f⟩:=so.sl k _ _ h;exact⟨v,d,f.weak λ_ _=>trivial⟩
  obtain⟨u,d,f⟩:=sl i a _ (by rw[bp (Ne.symm l),bv];rw[cf];exact n);obtain⟨w,s,t⟩:=sl j b _ (by rw[bv];rw[bx,cf];exact o);exact q c u w kp.len d s f t λk x y=>kp.rest k (by simpa[tgIx]using⟨x,y⟩)
end
section
variable {Z:Wc}{σ:L2.St}{H:Hp}
theorem lK:StOk Z.K (F0 H) H σ (bz σ.length Z8):=pQ (by rw[cf]) λi g d e=>by rw[dh]at e;split at e<;>cases e
theorem nI (q:∀a,Same H a->Q (.int n) a):wE Z (.aT (.int n)) σ H Q:=⟨_,F0 H,(.fr,.int n),lK,rfl,λv b c r=>by cases r;exact q b c⟩
theorem z6 (q:∀a,Same H a->Q .aM a):wE Z (.aT .aM) σ H Q:=⟨_,F0 H,(.fr,.none),lK,rfl,λv b c r=>by cases r;exact q b c⟩
theorem D7 (d:ZV x=Z7)(q:∀a,Same H a->Q (.str x) a):wE Z (.aT (.str x)) σ H Q:=⟨_,F0 H,(.fr,.str x),lK,rfl,λv b c r=>by cases r.1;exact q b c⟩
theorem kQ {K:Z5}(d:Rep K H B x dx)(f:Rep K H B' y dy)(e:cmpD c dx dy=.ok b)(q:∀a,Same H a->Q (.bl b) a):jQ K (mB (cmpD c)) x y H Q:=⟨B,B',dx,dy,.bool b,d,f,by show(cmpD c dx dy>>=λb=>Res.ok (PyData.bool b))=_;rw[e];rfl,λw a s r=>by cases r;exact q a s⟩
theorem hY {K:Z5}(a:Rep K H B x dx)(e:dC dx (.int i)=.ok d)(q:∀w,Rep K H B w d->Q w H):iY K x (.int i) H Q:=⟨B,AnyB,dx,.int i,d,a,rfl,e,q⟩
theorem yd (h:Z.fn[j]?=Z9 (spD Z.K n m))(q:wA Z as σ H λa b=>spD Z.K n m a b Q Z.E):wE Z (.fJ j as) σ H Q:=by show(match Z.fn[j]? with|some c=>sP c [] Z.E (wA Z as)|none=>hW) σ H Q;rw[h];show wA Z as σ H λa b=>spD Z.K n m (a++[]) b Q Z.E;simpa only[eo]using q
theorem Sz (h:Z.xf=Z9 y)(q:Q y H):wE Z (.iF f) σ H Q:=by show(match Z.xf with|some v=>(λ_ H Q=>Q v H:TE)|none=>hW) σ H Q;rw[h];exact q
theorem ye (so:StOk Z.K (F0 H) H σ b)(e:aL Z.Κ Z.Φ c b=.ok (g,d))(q:∀v a,Same H a->Rep Z.K a AnyB v d->Q v a):wE Z (.aT c) σ H Q:=⟨b,F0 H,(g,d),so,e,λv a s r=>q v a s (r.weak λ_ _=>trivial)⟩
theorem SA (so:StOk Z.K (F0 H) H σ a)(e:dN Z.Κ Z.Φ c a=.ok b)(q:∀d,Same H d->R b d):wT Z (.tp c) σ H R:=⟨a,F0 H,b,so,e,q⟩
theorem iM (q:wE Z a σ H λx c=>wE Z b σ c λy d=>iY Z.K x y d Q):wE Z (.ix a b) σ H Q:=q
theorem yf (q:wE Z a σ H λx c=>wE Z b σ c λy d=>uU Z.K x y d Q):wE Z (.lH a b) σ H Q:=q
theorem JI (q:wE Z a σ H λx c=>wE Z b σ c λy d=>jQ Z.K (mB (cmpD e)) x y d Q):wE Z (.cmp e a b) σ H Q:=q
theorem aI (q:wE Z a σ H λx H1=>wA Z r σ H1 λxs H2=>R (x::xs) H2):wA Z (.cons a r) σ H R:=q
theorem bI (q:R [] H):wA Z .nil σ H R:=q
theorem aF (e:σ[i]?=Z9 (Z9 v))(q:Q v H):wE Z (.raw i) σ H Q:=⟨v,e,q⟩
theorem rP (q:wE Z a σ H λx H1=>wE Z b σ H1 λy H2=>jQ Z.K (mB (cmpD op)) x y H2 λz H3=>∃k,z=.bl k/\R k H3):wT Z (.tc op a b) σ H R:=q
theorem D8 (q:wT Z a σ H λc d=>if c=Z7 then wT Z b σ d R else R Z6 d):wT Z (.fV a b) σ H R:=q
theorem ue (q:wE Z a σ H λx b=>∃k,lU Z.K x b k/\R k b):wT Z (.jD a) σ H R:=q
theorem D9 (q:wE Z a σ H λx d=>∃c,x=.bl c/\if c=Z7 then wE Z b σ d Q else Q (.bl Z6) d):wE Z (.and a b) σ H Q:=q
theorem z7 (q:wA Z c σ H λa b=>a.length<=ba/\∀p,b p=Z8->Q (.ref p) (upd b p (.tup a))):wE Z (.tup c) σ H Q:=q
theorem rQ (q:wA Z c σ H λa b=>a.length<=ba/\∀p,b p=Z8->Q (.ref p) (upd b p (.lst a))):wE Z (.lst c) σ H Q:=q
theorem vj {C:Addr}(h:Z.me[j]?=Z9 (C,m,c))(q:wE Z o σ H λx b=>∃a dx fs,x=.ref a/\b a=Z9 (.ins C dx fs)/\fs.lookup m=Z8/\wA Z as σ b λd e=>c (x::(d++[])) e Q Z.E):wE Z (.bE o j as) σ H Q:=by rw[D1 h];exact q
theorem SD {C:Addr}(h:Z.md[j]?=Z9 (C,m,a)):wE Z (.hV o j as)=jL C m a [.aM] Z.E (wE Z o) (wA Z as):=by show(match Z.md[j]? with|some r=>jL r.1 r.2.1 r.2.2 [.aM] Z.E (wE Z o) (wA Z as)|none=>hW)=_;rw[h]
theorem SE {C:Addr}(h:Z.md[j]?=Z9 (C,m,c))(q:wE Z o σ H λx b=>∃a dx fs,x=.ref a/\b a=Z9 (.ins C dx fs)/\fs.lookup m=Z8/\wA Z as σ b λd e=>c (x::(d++[.aM])) e Q Z.E):wE Z (.hV o j as) σ H Q:=by rw[SD h];exact q
theorem JJ (q:wE Z it σ H (DN Z.K en λJ h=>∀l,h l=Z8->∃P:Nat->Nat->List V->Hp->Prop,(∃m,P 0 m [] (upd h l (.lst [])))/\∀i m a g,P i m a g->(J.stop i g/\Q (.ref l) g)\/(J.go i g/\a.length<ba/\∃N:List V->Hp->Prop,(∀d j,N d j->∃k,k<m/\P (i+1) k d j)/\∀x n,J.gR i g x n->tDG Z.K t x (eY o p σ) n λf u=>fR (eY o p σ) f/\wT {Z with E:=λ_ _ _=>False,xf:=Z8} c f u λb r=>if b=Z7 then wE {Z with E:=λ_ _ _=>False,xf:=Z8} e f r λy s=>s l=Z9 (.lst a)/\N (a++[y]) (upd s l (.lst (a++[y])))else N a r))):wE Z (.lc o p N' t en it c e) σ H Q:=q
end
mutual
theorem u2:∀(d:av) (n:Nat),shal n d=Z7->ZW d d=Z7
 |.none,_,_=>rfl
 |.bool b,_,_=>by cases b<;>rfl
 |.int i,_,_=>by rw[ZW];exact sr rfl
 |.str s,_,_=>by rw[ZW];exact beq_self_eq_true s
 |.tuple xs,0,h=>by cases h
 |.list xs,0,h=>by cases h
 |.tuple xs,n+1,h=>by rw[ZW];exact uf xs n h
 |.list xs,n+1,h=>by rw[ZW];exact uf xs n h
 |.dict es,n,h=>by cases n<;>cases h
theorem uf:∀(ds:List av) (n:Nat),eZ n ds=Z7->ZQ ds ds=Z7
 | [],_,_=>rfl
 |d::ds,n,h=>by obtain⟨h1,h2⟩:=au.mp h;rw[ZQ,u2 d n h1,uf ds n h2];rfl
end
theorem yg (h:shal 40 d=Z7):cmpD .NotEq d d=.ok false:=by show(if(shal 40 d&&shal 40 d)=Z7 then Res.ok (!eQ d d)else Res.no)=_;rw[h,show eQ d d=Z7 from u2 d 40 h];rfl
abbrev En:=Str×Str×D
def iN (e:En):D:=.tuple [.str e.1,.str e.2.1,e.2.2]
structure Hd where
 es:bA
 en:List En
 ft:List (List D)
 ld:Option Int
def Hd.at (h:Hd)(k:Nat):En:=h.en.getD k ("","",.none)
def Hd.fa (h:Hd)(k:Nat):List D:=h.ft.getD k []
def SF:Option Int->D
 |none=>.none
 |some n=>.int n
structure Ha where
 dx:Addr
 c:Addr
 dc:Addr
 d:Addr
 le:Addr
 lf:Addr
 kvs:List (Key×V)
 as:List Addr
def Ha.own (A:Ha)(x:Addr)(b:Addr):Prop:=b=x\/b=A.d\/b=A.le\/b=A.lf\/b∈A.as
def z8 (K:Z5)(H:Hp)(as:List Addr)(ft:List (List D)):Prop:=as.length=ft.length/\∀(k:Nat) a,as[k]?=Z9 a->∃ws,H a=Z9 (.lst ws)/\Reps K H NoB ws (ft.getD k [])
abbrev z9 (A:Ha)(vd:V):List (Str×V):=[("courts",.ref A.c),("entries",.ref A.le),("fates",.ref A.lf),("last_day",vd)]
structure Hou (K:Z5)(HC CC:Addr)(H:Hp)(x:Addr)(A:Ha)(h:Hd):Prop where
 ins:∃vd,H x=Z9 (.ins HC A.dx (z9 A vd))/\Rep K H NoB vd (SF h.ld)
 bR:Crt K CC H A.c A.dc A.d A.kvs h.es
 ent:∃vs,H A.le=Z9 (.lst vs)/\Reps K H NoB vs (h.en.map iN)
 jR:H A.lf=Z9 (.lst (A.as.map V.ref))
 gC:z8 K H A.as h.ft
 nd:A.as.Nodup
 n1:A.le≠A.lf
 n2:A.le∉A.as
 n3:A.lf∉A.as
section
variable {K:Z5}{HC CC:Addr}{H H':Hp}{x:Addr}{A:Ha}{h:Hd}
theorem z8.keep (f:z8 K H as ft)(c:∀a∈as,∀o,H a=Z9 o->H' a=Z9 o)(d:∀a o,H a=Z9 o->Fix o->H' a=Z9 o):z8 K H' as ft:=⟨f.1,λk a e=>by obtain⟨g,h,r⟩:=f.2 k a e;exact⟨g,c a (ar e) _ h,Reps.keep (λb o e z=>d b o e (z.resolve_left id)) (λ_ z=>z) _ r⟩⟩
theorem Hou.keep (t:Hou K HC CC H x A h)(d:∀b o,A.own x b\/b=A.c->H b=Z9 o->H' b=Z9 o)(g:∀a o,H a=Z9 o->Fix o->H' a=Z9 o):Hou K HC CC H' x A h:=by have f:∀a o,H a=Z9 o->(NoB (Z9 a)\/Fix o)->H' a=Z9 o:=λb o e z=>g b o e (z.resolve_left id);obtain⟨i,j,k⟩:=t.ins;obtain⟨l,m,n⟩:=t.ent;exact⟨⟨i,d _ _ (.inl (.inl rfl)) j,Rep.keep f (λ_ z=>z) _ k⟩,⟨d _ _ (.inr rfl) t.bR.ins,d _ _ (.inl (.inr (.inl rfl))) t.bR.fK,aW.keep f (λ_ z=>z) _ t.bR.re⟩,⟨l,d _ _ (.inl (.inr (.inr (.inl rfl)))) m,Reps.keep f (λ_ z=>z) _ n⟩,d _ _ (.inl (.inr (.inr (.inr (.inl rfl))))) t.jR,t.gC.keep (λa p o e=>d a o (.inl (.inr (.inr (.inr (.inr p))))) e) g,t.nd,t.n1,t.n2,t.n3⟩
theorem Hou.same (t:Hou K HC CC H x A h)(s:Same H H'):Hou K HC CC H' x A h:=t.keep (λb o _ e=>s b o e) λa o e _=>s a o e
theorem Hou.fW (t:Hou K HC CC H x A h):Rep K H AnyB (.ref A.le) (.list (h.en.map iN)):=by obtain⟨a,b,c⟩:=t.ent;exact⟨_,a,rfl,.inl ⟨b,trivial⟩,c.weak λ_ z=>z.elim⟩
theorem Hou.ug (t:Hou K HC CC H x A h):Rep K H AnyB (.ref A.lf) (.list (h.ft.map .list)):=by refine⟨_,_,rfl,.inl ⟨t.jR,trivial⟩,zD (by rw[ah,ah];exact t.gC.1) λi v d b c=>?_⟩;rw[ao]at b c;obtain⟨a,e,rfl⟩:=a6.mp b;obtain⟨f,hf,rfl⟩:=a6.mp c;obtain⟨g,j,r⟩:=t.gC.2 i a e;rw[aa,hf]at r;exact⟨a,g,rfl,.inl ⟨j,trivial⟩,r.weak λ_ z=>z.elim⟩
end
structure cT where
 G:D->Prop
 sd:List D->D->Bool
 ag:D->D->Bool
 s0:∀f,sd f .none=(f.length==1)
 dy:D->Bool
 d0:dy .none=Z7
 sh:∀r,G r->shal 39 r=Z7
def uh:D->Bool
 |.tuple [.str _,.int _,.str _]=>Z7
 |.tuple [.str _,.int _,.int _]=>Z7
 |_=>Z6
def Ab (f:List D):Prop:=1<=f.length/\f.length<=2/\∀r∈f,uh r=Z7
theorem JK (h:Ab f):imms f=true:=wM.mpr λr hr=>by
 have:=h.2.2 r hr;unfold uh at this;split at this
 .rfl
 .rfl
 .cases this
theorem yh (h:Ab f):shal 40 (.list f)=true:=qM.mpr λr hr=>by
 have:=h.2.2 r hr;unfold uh at this;split at this
 .rfl
 .rfl
 .cases this
def ln (es:bA)(s:Str):List Str:=cX es 999 s
def z1a (es:bA)(s:Str):Bool:=stN es (.str s)&&endN es 999 s
structure Hok (φ:cT)(h:Hd):Prop where
 len:h.ft.length=h.en.length
 big:h.en.length<=1000
 gd:∀e∈h.en,φ.G e.2.2/\imm e.2.2=Z7/\z1a h.es e.1=Z7
 fo:∀f∈h.ft,Ab f
section
variable (φ:cT)
def lM (h:Hd)(w:Str)(dy:D):List Nat:=(cc h.en.length).filter λk=>((h.at k).2.1==w)&&φ.sd (h.fa k) dy
def bZ (h:Hd)(s w:Str)(dy:D):List Nat:=(lM φ h w dy).filter λk=>(ln h.es s).contains (h.at k).1
def fll (h:Hd)(s w:Str)(r:D):List Nat:=(lM φ h w .none).filter λk=>!((h.at k).1==s)&&(ln h.es (h.at k).1).contains s&&φ.ag (h.at k).2.2 r
def bar (h:Hd)(s w:Str)(r:D):Option Nat:=(bZ φ h s w .none).find? λk=>φ.ag (h.at k).2.2 r
end
def z2m (ks:List Nat):List V:=ks.map λ(k:Nat)=>V.int (k:Int)
def z0d (ks:List Nat):List D:=ks.map λ(k:Nat)=>ZS (k:Int)
theorem ui {K:Z5}:∀{ks:List Nat},Reps K H B (z2m ks) (z0d ks)
 | []=>rfl
 |k::ks=>Reps.cons rfl ui
theorem Ac {K:Z5}:∀{ks:List Nat} {a:List V},Reps K H B a (z0d ks)->a=z2m ks
 | [],_,r=>r
 |k::ks,_,r=>by obtain⟨v,t,rfl,b,c⟩:=r;rw[Ac c,show v=V.int k from b];rfl
structure HouK (K:Z5)(HC:Addr):Prop where
 cls:Cls K HC
 a1:z1x K HC "courts"
 a2:z1x K HC "entries"
 a3:z1x K HC "fates"
 a4:z1x K HC "last_day"
namespace Hs
abbrev CO:W:=.iL (.raw 0) "courts"
abbrev EN:W:=.iL (.raw 0) "entries"
abbrev FA:W:=.iL (.raw 0) "fates"
def about:WS:=.seq (.ret (.lc 2 [0,1,2] ["k","entry","self","word","day"] (.tp [0,1]) Z7 EN (.fV (.tc .Eq (.ix (.raw 1) (.aT (.int 1))) (.raw 3)) (.jD (.fJ 0 (.cons (.ix (.iL (.raw 2) "fates") (.raw 0)) (.cons (.raw 4) .nil))))) (.raw 0))) .nil
def gD:WS:=.seq (.ret (.lc 1 [0] ["k","self"] (.nm 0) Z6 (.raw 1) .nil (.ix (.ix (.iL (.raw 1) "entries") (.raw 0)) (.aT (.int 2))))) .nil
def hZ:WS:=.seq (.asg 4 (.bE CO 0 (.cons (.raw 1) .nil))) (.seq (.ret (.lc 1 [0,4] ["k","self","line"] (.nm 0) Z6 (.bE (.raw 0) 1 (.cons (.raw 2) (.cons (.raw 3) .nil))) (.tc .In (.ix (.ix (.iL (.raw 1) "entries") (.raw 0)) (.aT (.int 0))) (.raw 2)) (.raw 0))) .nil)
def book:WS:=.seq (.ret (.bE (.raw 0) 0 (.cons (.hV (.raw 0) 0 (.cons (.raw 1) (.cons (.raw 2) .nil))) .nil))) .nil
def iA:WS:=.seq (.asg 4 (.ix EN (.raw 1))) (.seq (.ret (.and (.cmp .NotEq (.ix (.raw 4) (.aT (.int 0))) (.raw 2)) (.and (.cmp .In (.raw 2) (.bE CO 0 (.cons (.ix (.raw 4) (.aT (.int 0))) .nil))) (.fJ 0 (.cons (.ix (.raw 4) (.aT (.int 2))) (.cons (.raw 3) .nil)))))) .nil)
def nJ:WS:=.seq (.ret (.lc 1 [0,1,3] ["k","self","court","made"] (.nm 0) Z6 (.bE (.raw 0) 0 (.cons (.raw 2) (.cons (.aT .aM) .nil))) (.jD (.bE (.raw 1) 1 (.cons (.raw 0) (.cons (.raw 2) (.cons (.raw 3) .nil))))) (.raw 0))) .nil
def fD:WS:=.seq (.exp (.bE CO 0 (.cons (.raw 1) .nil))) .nil
def gE:WS:=.seq (.exp (.bE (.raw 0) 0 (.cons (.raw 2) .nil))) (.seq (.ifS (.fV (.ti Z7 (.iL (.raw 0) "last_day")) (.tc .Lt (.raw 1) (.iL (.raw 0) "last_day"))) (.seq (.iS "Late") .nil) .nil) .nil)
def dY:WS:=.seq (.asg 4 (.hV (.raw 0) 0 (.cons (.raw 1) (.cons (.raw 2) .nil))))
 (.seq (.asg 5 (.fJ 0 (.cons (.bE (.raw 0) 0 (.cons (.raw 4) .nil)) (.cons (.raw 3) .nil))))
 (.seq (.ifS (.ti Z7 (.raw 5)) (.seq (.x' "NotAllowed" "by" (.ix (.raw 4) (.raw 5))) .nil) .nil) .nil))
end Hs
section
variable {h:Hd}
theorem pR (a:HouK Z.K b)(t:Hou Z.K b d H x A h)(h0:σ[i]?=Z9 (Z9 (.ref x)))(q:Q (.ref A.le) H):wE Z (.iL (.raw i) "entries") σ H Q:=by obtain⟨e,c,_⟩:=t.ins;exact⟨.ref x,h0,x,b,A.dx,_,.ref A.le,rfl,c,a.cls,a.a2,rfl,q⟩
theorem vo (a:HouK Z.K b)(t:Hou Z.K b d H x A h)(h0:σ[i]?=Z9 (Z9 (.ref x)))(q:Q (.ref A.lf) H):wE Z (.iL (.raw i) "fates") σ H Q:=by obtain⟨e,c,_⟩:=t.ins;exact⟨.ref x,h0,x,b,A.dx,_,.ref A.lf,rfl,c,a.cls,a.a3,rfl,q⟩
theorem Ae (a:HouK Z.K b)(t:Hou Z.K b e H x A h)(h0:σ[i]?=Z9 (Z9 (.ref x)))(q:Q (.ref A.c) H):wE Z (.iL (.raw i) "courts") σ H Q:=by obtain⟨f,d,_⟩:=t.ins;exact⟨.ref x,h0,x,b,A.dx,_,.ref A.c,rfl,d,a.cls,a.a1,rfl,q⟩
theorem Hd.get (a:k<h.en.length):h.en[k]?=Z9 (h.at k):=by unfold Hd.at;rw[aa,ac a];rfl
theorem Hd.eT (a:k<h.ft.length):h.ft[k]?=Z9 (h.fa k):=by unfold Hd.fa;rw[aa,ac a];rfl
theorem vt {k:Nat}(e:a[k]?=Z9 d):dC (.list a) (.int k)=.ok d:=by
 have b:=(ay.mp e).1;show Res.dE (bM a k)=_;have:bM a k=Z9 d:=by unfold bM fG;rw[sf (by omega),sf (by omega)];rw[fi];exact e
 rw[this];rfl
theorem yi (a:k<h.en.length):dC (.list (h.en.map iN)) (.int k)=.ok (iN (h.at k)):=vt (by rw[ao,Hd.get a];rfl)
theorem JL (a:k<h.ft.length):dC (.list (h.ft.map .list)) (.int k)=.ok (.list (h.fa k)):=vt (by rw[ao,Hd.eT a];rfl)
theorem eq_str (a b:Str):cmpD .Eq (.str a) (.str b)=.ok (a==b):=rfl
theorem ne_str (a b:Str):cmpD .NotEq (.str a) (.str b)=.ok (!(a==b)):=rfl
theorem Af:∀a:List Str,eZ 40 (a.map ZU)=Z7
 | []=>rfl
 |x::a=>by rw[bn];show(Z7&&eZ 40 (a.map ZU))=Z7;rw[Af a];rfl
theorem Ag (a:Str)(c:List Str):cmpD .In (.str a) (.list (c.map .str))=.ok (c.contains a):=by
 show(if(Z7&&eZ 40 (c.map ZU))=Z7 then Res.ok ((c.map ZU).any λy=>eQ y (.str a))else Res.no)=_;rw[Af c,List.any_map]
 have:(c.any λb=>b==a)=c.contains a:=by
  induction c with
  |nil=>rfl
  |cons b c d=>rw[ji,jn,d,show(b==a)=(a==b) by rw[ku,beq_iff_eq,beq_iff_eq,eq_comm]]
 exact congrArg Res.ok this
end
theorem D' (c:a.length=(Z8::b).length)(h:∀k,k≠0->a[k]?=(Z8::b)[k]?):fR (Z8::b) a:=⟨c.symm,λi v e=>by rw[h i (by rintro rfl;cases e)];exact e⟩
theorem SG (c:a.length=(Z8::Z8::b).length)(h:∀k,k≠0->k≠1->a[k]?=(Z8::Z8::b)[k]?):fR (Z8::Z8::b) a:=⟨c.symm,λi v e=>by rw[h i (by rintro rfl;cases e) (by rintro rfl;cases e)];exact e⟩
theorem SH (es:List En):z27 0 (es.map iN)=(cc es.length).map λ(i:Nat)=>PyData.tuple [.int i,iN (es.getD i ("","",.none))]:=by
 apply g9;intro i;rw[CL,ao,ao];by_cases a:i<es.length
 .rw[ac a];simp[aa,a]
 .rw[dq (by omega),dq (by grind)];rfl
theorem SI (es:List En)(h:es.length<=1000):seqR (.list (es.map iN))=.ok (es.map iN):=by show(if decide ((es.map iN).length<=bC)=Z7 then Res.ok (es.map iN)else Res.no)=_;rw[sf];rw[ah];exact sr (bq h dc)
def StS (φ:cT)(K:Z5)(sp:Sp):Prop:=∃m,sp=spD K 2 m/\∀f d,φ.dy d=Z7->Ab f->∃g,m [.list f,d]=.ok (g,.bool (φ.sd f d))
def AgS (φ:cT)(K:Z5)(sp:Sp):Prop:=∃m,sp=spD K 2 m/\∀r s,φ.G r->φ.G s->∃g,m [r,s]=.ok (g,.bool (φ.ag r s))
def yj:Option Nat->D
 |none=>.none
 |some k=>.int k
def BrS (φ:cT)(K:Z5)(sp:Sp):Prop:=∃m,sp=spD K 2 m/\∀(rs:List D) s,rs.length<=1000->(∀r∈rs,φ.G r)->φ.G s->∃g,m [.list rs,s]=.ok (g,yj (rs.findIdx? λr=>φ.ag r s))
theorem zde (D:HouK Z.K P)(Q:Z.fn[0]?=Z9 R)(hs:StS b Z.K R)(t:Hou Z.K P CC H x A h)(ok:Hok b h)(f:Rep Z.K H B j (.str w))(rd:Rep Z.K H B E dy)(hd:b.dy dy=Z7)
  (q:∀c p,Same H c->H p=Z8->c p=Z9 (.lst (z2m (lM b h w dy)))->D0.rt (.ref p) c):wS Z Hs.about D0 [Z9 (.ref x),Z9 j,Z9 E] H:=by
 obtain⟨m,rfl,hm⟩:=hs;refine pR D t rfl ⟨AnyB,.list (h.en.map iN),h.en.map iN,t.fW,SI _ ok.big,λJ n=>?_⟩;have n:Walk Z.K J AnyB H ((cc h.en.length).map λ(i:Nat)=>PyData.tuple [.int i,iN (h.at i)]):=by have:=n;rw[SH]at this;exact this
 refine zgc (p:=λk=>((h.at k).2.1==w)&&b.sd (h.fa k) dy) n (λk o v H3 N M r S hN T=>?_) λl ys c s U V W=>q c l U s (V▸congrArg (λz=>Z9 (HO.lst z)) (Ac W));have d:=fz.mp o;refine zs2 (σ:=[Z8,Z8,Z9 (.ref x),Z9 j,Z9 E]) S (by simp) (by simp) dc λX u w1 s F e1 ru y rest=>⟨SG s rest,?_⟩;refine⟨w1,e1,nI λH4 a=>hY (y.sm a) rfl λw2 r2=>⟨j,rest 3 dc dc,kQ r2 (f.sm (r.trans a)) (eq_str _ _) λH5 e=>⟨_,rfl,?_⟩⟩⟩;cases C:((h.at k).2.1==w)with
 |false=>exact hN (by rw[C];rfl) H5 (a.trans e)
 |true=>
  have G:=t.same (r.trans (a.trans e));refine yd Q ?_;cases ru;refine aI (iM (vo D G (rest 2 dc dc) (aF F ?_)));obtain⟨g,hg⟩:=hm (h.fa k) dy hd (ok.fo _ (ar (Hd.eT (ok.len▸d))));refine hY G.ug (JL (ok.len▸d)) λw3 r3=>aI (aF (rest 4 dc dc) ⟨AnyB,[.list (h.fa k),dy],_,rfl,Reps.cons r3 (Reps.cons (rd.same (r.trans (a.trans e)) λ_ _=>trivial) rfl),hg,λv6 I L r6=>?_⟩);cases r6;refine⟨_,rfl,?_⟩;cases O:b.sd (h.fa k) dy with
  |false=>exact hN (by rw[C,O];rfl) I (a.trans (e.trans L))
  |true=>exact⟨_,F,T (by rw[C,O];rfl) _ I (a.trans (e.trans L)) rfl⟩
theorem z6r (m:HouK Z.K n)(t:Hou Z.K n L H x A h)(ok:Hok O h)(rn:Rep Z.K H B f (.list (z0d ks)))(b:∀k∈ks,k<h.en.length)
  (q:∀a p d,Same H a->H p=Z8->a p=Z9 (.lst d)->Reps Z.K a NoB d (ks.map λk=>(h.at k).2.2)->o.rt (.ref p) a):wS Z Hs.gD o [Z9 (.ref x),Z9 f] H:=by
 refine⟨f,rfl,B,.list (z0d ks),z0d ks,rn,rfl,λJ r=>?_⟩;refine zgc r (λk c v P N M s u hN w=>?_) λl d a e y z g=>q a l d y e z (by rw[fk.mpr λ_ _=>rfl]at g;exact g);refine zek (σ:=[Z8,Z9 (.ref x)]) u (by simp) λC Q e D r0 rest=>⟨D' e rest,?_⟩;cases r0;have i:=t.same s;refine iM (iM (pR m i (rest 1 dc) (aF D (hY i.fW (yi (b k c)) λR E=>nI λF j=>hY (E.sm j) rfl λG I=>?_))));exact w rfl G F j (Rep.aS _ (ok.gd _ (ar (Hd.get (b k c)))).2.1 I)
theorem aW.mem {K:Z5}:∀{kvs:List (Key×V)} {es:bA} {e:D×D},aW K H B kvs es->e∈es->∃v,Rep K H B v e.2
 |_,(kd,d)::es,e,r,h=>by
  obtain⟨k,v,t,rfl,_,_,a,b⟩:=r;rcases bh.mp h with rfl|h
  .exact⟨v,a⟩
  .exact aW.mem b h
theorem SJ (h:z0f es k=Z9 d):∃a,(a,d)∈es:=by obtain⟨e,b,c⟩:=a6.mp h;exact⟨e.1,by rw[<-c];exact lr b⟩
theorem JM {K:Z5}(c:Crt K f H x dx d kvs es):∀n s,ZV s=Z7->∀u∈cX es n s,ZV u=Z7
 |0,s,hs,u,hu=>by cases az.mp hu;exact hs
 |n+1,s,hs,u,hu=>by
  unfold cX at hu;split at hu
  .rename_i a e;obtain⟨g,hm⟩:=SJ e;obtain⟨v,b⟩:=aW.mem c.re hm;rcases bh.mp hu with rfl|hu
   .exact hs
   .exact JM c n a b.2 u hu
  .cases az.mp hu;exact hs
section
variable (φ:cT)(K:Z5)(HC CC:Addr)(mg:Str->Option Value)
abbrev nK (H:Hp)(ks:List Nat)(Q:VK):Prop:=∀H' p,Same H H'->H p=Z8->H' p=Z9 (.lst (z2m ks))->Q (.ref p) H'
abbrev bY (c:Str)(H:Hp)(E:XK):Prop:=∀C H',mg c=Z9 (.ref C)->Same H H'->E (.ref C) Z8 H'
def spAb:Sp:=λvs H Q _=>∃x A h vw w vd dy B,vs=[.ref x,vw,vd]/\Hou K HC CC H x A h/\Hok φ h/\Rep K H B vw (.str w)/\Rep K H B vd dy/\φ.dy dy=Z7/\nK H (lM φ h w dy) Q
def spRa:Sp:=λvs H Q _=>∃x A h vn ks B,vs=[.ref x,vn]/\Hou K HC CC H x A h/\Hok φ h/\Rep K H B vn (.list (z0d ks))/\(∀k∈ks,k<h.en.length)/\∀H' p ys,Same H H'->H p=Z8->H' p=Z9 (.lst ys)->Reps K H' NoB ys (ks.map λk=>(h.at k).2.2)->Q (.ref p) H'
def spSt:Sp:=λvs H Q E=>∃x A h vc c vw w vd dy B,vs=[.ref x,vc,vw,vd]/\Hou K HC CC H x A h/\Hok φ h/\Rep K H B vc c/\Rep K H B vw (.str w)/\Rep K H B vd dy/\φ.dy dy=Z7/\if stN h.es c=Z7 then ∃s,c=.str s/\endN h.es 999 s=Z7/\nK H (bZ φ h s w dy) Q else bY mg "NoCourt" H E
def spBk:Sp:=λvs H Q E=>∃x A h vc c vw w B,vs=[.ref x,vc,vw]/\Hou K HC CC H x A h/\Hok φ h/\Rep K H B vc c/\Rep K H B vw (.str w)/\if stN h.es c=Z7 then ∃s,c=.str s/\endN h.es 999 s=Z7/\∀H' p ys,Same H H'->H p=Z8->H' p=Z9 (.lst ys)->Reps K H' NoB ys ((bZ φ h s w .none).map λk=>(h.at k).2.2)->Q (.ref p) H' else bY mg "NoCourt" H E
def vv (h:Hd)(k:Nat)(s:Str)(r:D):Bool:=!((h.at k).1==s)&&(ln h.es (h.at k).1).contains s&&φ.ag (h.at k).2.2 r
def spIf:Sp:=λvs H Q _=>∃x A h k vc s vm r B,vs=[.ref x,.int (k:Nat),vc,vm]/\Hou K HC CC H x A h/\Hok φ h/\k<h.en.length/\Rep K H B vc (.str s)/\Rep K H B vm r/\φ.G r/\∀H',Same H H'->Q (.bl (vv φ h k s r)) H'
def spFe:Sp:=λvs H Q _=>∃x A h vc s vw w vm r B,vs=[.ref x,vc,vw,vm]/\Hou K HC CC H x A h/\Hok φ h/\Rep K H B vc (.str s)/\Rep K H B vw (.str w)/\Rep K H B vm r/\φ.G r/\nK H (fll φ h s w r) Q
def spCc:Sp:=λvs H Q E=>∃x A h vc c B,vs=[.ref x,vc]/\Hou K HC CC H x A h/\Rep K H B vc c/\if stN h.es c=Z7 then(∃s,c=.str s/\endN h.es 999 s=Z7)/\∀H',Same H H'->Q .aM H' else bY mg "NoCourt" H E
def late:Option Int->Int->Bool
 |none,_=>Z6
 |some l,d=>decide (d<l)
def spCd:Sp:=λvs H Q E=>∃x A h vc c n B,vs=[.ref x,.int n,vc]/\Hou K HC CC H x A h/\Rep K H B vc c/\if stN h.es c=Z7 then(∃s,c=.str s/\endN h.es 999 s=Z7)/\if late h.ld n=Z7 then bY mg "Late" H E else ∀H',Same H H'->Q .aM H' else bY mg "NoCourt" H E
abbrev pS (H:Hp)(k:Nat)(E:XK):Prop:=∀C H' dp,mg "NotAllowed"=Z9 (.ref C)->Same H H'->H dp=Z8->H' dp=Z9 (.xd [("by",.int k)])->E (.ref C) (Z9 dp) H'
def spCa:Sp:=λvs H Q E=>∃x A h vc s vw w vm r B,vs=[.ref x,vc,vw,vm]/\Hou K HC CC H x A h/\Hok φ h/\Rep K H B vc (.str s)/\Rep K H B vw (.str w)/\Rep K H B vm r/\φ.G r/\z1a h.es s=Z7/\
 match bar φ h s w r with
 |none=>∀H',Same H H'->Q .aM H'
 |some k=>pS mg H k E
end
theorem Ah (a:k∈lM b h w dy):k<h.en.length:=fz.mp (dm.mp a).1
theorem vx (a:k∈bZ φ h s w dy):k<h.en.length:=Ah (dm.mp a).1
section
variable {Z:Wc}{H:Hp}{σ:L2.St}{HC CC x:Addr}{A:Ha}{h:Hd}
theorem Hou.uj {K:Z5}(t:Hou K c k H x A h):∃fs,H x=Z9 (.ins c A.dx fs)/\∀m:Str,m≠"courts"->m≠"entries"->m≠"fates"->m≠"last_day"->fs.lookup m=none:=by
 obtain⟨l,d,_⟩:=t.ins;refine⟨_,d,λm e g i j=>?_⟩;have f:∀{a b:Str},a≠b->(a==b)=false:=λh=>by simpa using h
 rw[cw,f e,cw,f g,cw,f i,cw,f j];rfl
theorem Hou.bE {j:Nat}{K:Z5}(t:Hou K HC CC H x A h)(e:Z.me[j]?=Z9 (HC,m,a))(b:σ[i]?=Z9 (Z9 (.ref x)))(q:wA Z as σ H λc d=>a (.ref x::(c++[])) d Q Z.E)(hm:m≠"courts"/\m≠"entries"/\m≠"fates"/\m≠"last_day":=by decide):wE Z (.bE (.raw i) j as) σ H Q:=by obtain⟨fs,f,g⟩:=t.uj;exact vj e (aF b ⟨x,A.dx,fs,rfl,f,g _ hm.1 hm.2.1 hm.2.2.1 hm.2.2.2,q⟩)
theorem Hou.hV {j:Nat}{K:Z5}(t:Hou K HC CC H x A h)(e:Z.md[j]?=Z9 (HC,m,a))(b:σ[i]?=Z9 (Z9 (.ref x)))(q:wA Z as σ H λc d=>a (.ref x::(c++[.aM])) d Q Z.E)(hm:m≠"courts"/\m≠"entries"/\m≠"fates"/\m≠"last_day":=by decide):wE Z (.hV (.raw i) j as) σ H Q:=by obtain⟨fs,f,g⟩:=t.uj;exact SE e (aF b ⟨x,A.dx,fs,rfl,f,g _ hm.1 hm.2.1 hm.2.2.1 hm.2.2.2,q⟩)
theorem Ea {K:Z5}(t:Hou K b c H x A h)(hs:ZV s=Z7)(a:H p=Z9 (.lst ((ln h.es s).map V.str))):Rep K H AnyB (.ref p) (.list ((ln h.es s).map .str)):=⟨p,_,rfl,.inl ⟨a,trivial⟩,D4 (JM t.bR 999 s hs)⟩
theorem z6y (o:HouK Z.K HC)(P:Z.me[0]?=Z9 (CC,("line":Str),z5e Z.K CC Z.mg))(Q:Z.me[1]?=Z9 (HC,("about":Str),spAb b Z.K HC CC))(t:Hou Z.K HC CC H x A h)(ok:Hok b h)(r:Rep Z.K H B u c)(g:Rep Z.K H B y (.str w))(rd:Rep Z.K H B vd dy)(hd:b.dy dy=Z7)
  (q:if stN h.es c=Z7 then ∃s,c=.str s/\endN h.es 999 s=Z7/\nK H (bZ b h s w dy) R.rt else bY Z.mg "NoCourt" H Z.E):wS Z Hs.hZ R [Z9 (.ref x),Z9 u,Z9 y,Z9 vd,Z8] H:=by
 refine vj P (Ae o t rfl ⟨A.c,A.dc,_,rfl,t.bR.ins,rfl,aI (aF rfl (bI ⟨A.c,A.dc,A.d,A.kvs,h.es,u,c,B,rfl,t.bR,r,?_⟩))⟩);cases hs:stN h.es c with
 |false=>rw[hs]at q;exact q
 |true=>
  rw[hs]at q;obtain⟨s,rfl,S,q⟩:=q;refine⟨s,999,rfl,by decide,S,λH1 p f T U=>?_⟩;have C:=t.same f;refine JJ (N':=[]) (C.bE Q rfl (aI (aF rfl (aI (aF rfl (bI ⟨x,A,h,y,w,vd,dy,B,rfl,C,ok,g.sm f,rd.sm f,hd,λH2 V D W i=>?_⟩))))));refine⟨AnyB,.list (z0d (lM b h w dy)),z0d (lM b h w dy),⟨V,_,rfl,.inl ⟨i,trivial⟩,ui⟩,rfl,λJ X=>?_⟩;have a:=f.trans D;refine zgc X (λk j v H3 N M F rv hN hM=>?_) λl ys H' m s' hy ry=>q H' l (a.trans s') (a.none m) (hy▸congrArg (λz=>Z9 (HO.lst z)) (Ac ry));refine zek (σ:=[Z8,Z9 (.ref x),Z9 (.ref p)]) rv (by simp) λbG w1 m G r0 rest=>⟨D' m rest,?_⟩;cases r0;have n:=t.same (a.trans F);refine rP (iM (iM (pR o n (rest 1 dc) (aF G (hY n.fW (yi (Ah j)) λw2 r2=>nI λH4 e=>hY (r2.sm e) rfl λw3 r3=>aF (rest 2 dc) (kQ r3 (Ea (n.same e) r.2 (e _ _ (F _ _ (D _ _ U)))) (Ag _ _) λI L=>⟨_,rfl,?_⟩))))));cases O:(ln h.es s).contains (h.at k).1 with
  |false=>exact hN O I (e.trans L)
  |true=>exact⟨_,G,hM O _ I (e.trans L) rfl⟩
theorem zft (l:HouK Z.K HC)(o:Z.me[0]?=Z9 (HC,("rulings_at":Str),spRa a Z.K HC CC))(r:Z.md[0]?=Z9 (HC,("standing":Str),spSt a Z.K HC CC Z.mg))(t:Hou Z.K HC CC H x A h)(ok:Hok a h)(u:Rep Z.K H B m c)(f:Rep Z.K H B n (.str w))
  (q:if stN h.es c=Z7 then ∃s,c=.str s/\endN h.es 999 s=Z7/\∀b p d,Same H b->H p=Z8->b p=Z9 (.lst d)->Reps Z.K b NoB d ((bZ a h s w .none).map λk=>(h.at k).2.2)->v.rt (.ref p) b else bY Z.mg "NoCourt" H Z.E):wS Z Hs.book v [Z9 (.ref x),Z9 m,Z9 n] H:=by
 refine t.bE o rfl (aI (t.hV r rfl (aI (aF rfl (aI (aF rfl (bI ⟨x,A,h,m,c,n,w,.aM,.none,B,rfl,t,ok,u,f,rfl,a.d0,?_⟩)))))));cases hs:stN h.es c with
 |false=>rw[hs]at q;exact q
 |true=>rw[hs]at q;obtain⟨s,e,y,q⟩:=q;refine⟨s,e,y,λJ p g z C=>bI ⟨x,A,h,.ref p,bZ a h s w .none,AnyB,rfl,t.same g,ok,⟨p,_,rfl,.inl ⟨C,trivial⟩,ui⟩,λk l=>vx l,λD F d G i j I=>q D F d (g.trans G) (g.none i) j I⟩⟩
theorem z7z (w:HouK Z.K HC)(D:Z.me[0]?=Z9 (CC,("line":Str),z5e Z.K CC Z.mg))(E:Z.fn[0]?=Z9 F)(hs:AgS j Z.K F)(t:Hou Z.K HC CC H x A h)(ok:Hok j h)(f:k<h.en.length)(y:Rep Z.K H B I (.str s))(rm:Rep Z.K H B J r)(L:j.G r)
  (q:∀z,Same H z->M.rt (.bl (vv j h k s r)) z):wS Z Hs.iA M [Z9 (.ref x),Z9 (.int k),Z9 I,Z9 J,Z8] H:=by
 obtain⟨m,rfl,hm⟩:=hs;refine iM (pR w t rfl (aF rfl (hY t.fW (yi f) λwe re=>?_)));obtain⟨g1,g2,g3⟩:=ok.gd _ (ar (Hd.get f));obtain⟨N,O⟩:=au.mp g3;refine D9 (JI (iM (aF rfl (nI λH1 l=>hY (re.sm l) rfl λw1 P=>aF rfl (kQ P (y.sm l) (ne_str _ _) λQ R=>⟨_,rfl,?_⟩)))));have a:=l.trans R;cases n:((h.at k).1==s)with
 |true=>have:=q Q a;unfold vv at this;rw[n]at this;exact this
 |false=>
  refine D9 (JI (aF rfl (vj D (Ae w (t.same a) rfl ⟨A.c,A.dc,_,rfl,(t.same a).bR.ins,rfl,aI (iM (aF rfl (nI λH3 o=>hY (re.sm (a.trans o)) rfl λS C=>bI ⟨A.c,A.dc,A.d,A.kvs,h.es,S,.str (h.at k).1,AnyB,rfl,(t.same (a.trans o)).bR,C,?_⟩)))⟩))));rw[sf N];refine⟨(h.at k).1,999,rfl,by decide,O,λH4 p T U V=>?_⟩;have e:=a.trans (o.trans T);refine kQ (y.sm e) (Ea (t.same e) C.2 V) (Ag _ _) λW X=>⟨_,rfl,?_⟩;have b:=e.trans X;cases i:(ln h.es (h.at k).1).contains s with
  |false=>have:=q W b;unfold vv at this;rw[n,i]at this;exact this
  |true=>obtain⟨g,u⟩:=hm _ _ g1 L;refine yd E (aI (iM (aF rfl (nI λH6 v=>hY (re.sm (b.trans v)) rfl λw6 Y=>aI (aF rfl (bI ⟨λ_=>True,[(h.at k).2.2,r],_,rfl,Reps.cons Y (Reps.cons (rm.same (b.trans v) λ_ _=>trivial) rfl),u,λv7 H7 s7 r7=>?_⟩))))));cases r7;have:=q H7 (b.trans (v.trans s7));unfold vv at this;rw[n,i]at this;exact this
theorem zbd (hk:HouK Z.K HC)(D:Z.me[0]?=Z9 (HC,("about":Str),spAb a Z.K HC CC))(E:Z.me[1]?=Z9 (HC,("is_felled":Str),spIf a Z.K HC CC))(t:Hou Z.K HC CC H x A h)(ok:Hok a h)(F:Rep Z.K H B d (.str s))(e:Rep Z.K H B n (.str w))(rm:Rep Z.K H B f r)(I:a.G r)
  (q:nK H (fll a h s w r) L.rt):wS Z Hs.nJ L [Z9 (.ref x),Z9 d,Z9 n,Z9 f] H:=by
 refine JJ (N':=[]) (t.bE D rfl (aI (aF rfl (aI (z6 λH1 g=>bI ⟨x,A,h,n,w,.aM,.none,B,rfl,t.same g,ok,e.sm g,rfl,a.d0,λH2 O P Q i=>?_⟩)))));have b:=g.trans P;refine⟨AnyB,.list (z0d (lM a h w .none)),z0d (lM a h w .none),⟨O,_,rfl,.inl ⟨i,trivial⟩,ui⟩,rfl,λJ R=>?_⟩;refine zgc R (λk j v H3 N M S T hN U=>?_) λl ys V m W X Y=>q V l (b.trans W) (b.none m) (X▸congrArg (λz=>Z9 (HO.lst z)) (Ac Y));refine zek (σ:=[Z8,Z9 (.ref x),Z9 d,Z9 f]) T (by simp) λbG w1 m o r0 rest=>⟨D' m rest,?_⟩;cases r0;have c:=b.trans S;have p:=t.same c;refine ue (p.bE E (rest 1 dc) (aI (aF o (aI (aF (rest 2 dc) (aI (aF (rest 3 dc) (bI ⟨x,A,h,k,d,s,f,r,B,rfl,p,ok,Ah j,F.sm c,rm.sm c,I,λu y=>⟨_,rfl,?_⟩⟩))))))));cases C:vv a h k s r with
 |false=>exact hN C u y
 |true=>exact⟨_,o,U C _ u y rfl⟩
theorem z50 (g:HouK Z.K i)(j:Z.me[0]?=Z9 (b,("line":Str),z5e Z.K b Z.mg))(t:Hou Z.K i b H x A h)(rc:Rep Z.K H B a c)
  (q:if stN h.es c=Z7 then(∃s,c=.str s/\endN h.es 999 s=Z7)/\∀f,Same H f->k.nx [Z9 (.ref x),Z9 a] f else bY Z.mg "NoCourt" H Z.E):wS Z Hs.fD k [Z9 (.ref x),Z9 a] H:=by
 refine vj j (Ae g t rfl ⟨A.c,A.dc,_,rfl,t.bR.ins,rfl,aI (aF rfl (bI ⟨A.c,A.dc,A.d,A.kvs,h.es,a,c,B,rfl,t.bR,rc,?_⟩))⟩);cases hs:stN h.es c with
 |false=>rw[hs]at q;exact q
 |true=>rw[hs]at q;obtain⟨⟨s,e,l⟩,q⟩:=q;exact⟨s,999,e,by decide,l,λm p n o r=>q m n⟩
theorem z5u (g:HouK Z.K HC)(r:Z.me[0]?=Z9 (HC,("check_court":Str),spCc Z.K HC CC Z.mg))(t:Hou Z.K HC CC H x A h)(u:Rep Z.K H B a c)
  (q:if stN h.es c=Z7 then(∃s,c=.str s/\endN h.es 999 s=Z7)/\if late h.ld n=Z7 then bY Z.mg "Late" H Z.E else ∀i,Same H i->v.nx [Z9 (.ref x),Z9 (.int n),Z9 a] i else bY Z.mg "NoCourt" H Z.E):wS Z Hs.gE v [Z9 (.ref x),Z9 (.int n),Z9 a] H:=by
 refine t.bE r rfl (aI (aF rfl (bI ⟨x,A,h,a,c,B,rfl,t,u,?_⟩)));cases hs:stN h.es c with
 |false=>rw[hs]at q;exact q
 |true=>
  rw[hs]at q;obtain⟨e,q⟩:=q;refine⟨e,λf b=>?_⟩;obtain⟨j,w,d⟩:=(t.same b).ins;have la:∀Q,Q j f->wE Z (.iL (.raw 0) "last_day") [Z9 (.ref x),Z9 (.int n),Z9 a] f Q:=λQ q=>⟨.ref x,rfl,x,HC,A.dx,_,j,rfl,w,g.cls,g.a4,rfl,q⟩;refine D8 (la _ ⟨_,rfl,?_⟩);cases k:h.ld with
  |none=>rw[k]at d q;cases d;exact q f b
  |some l=>
   rw[k]at d q;cases d;refine rP (aF rfl (la _ (kQ (B:=AnyB) (B':=AnyB) (dx:=.int n) (dy:=.int l) rfl rfl rfl λm o=>⟨_,rfl,?_⟩)));cases p:decide (n<l)with
   |false=>rw[show late (Z9 l) n=decide (n<l)from rfl,p]at q;exact q m (b.trans o)
   |true=>rw[show late (Z9 l) n=decide (n<l)from rfl,p]at q;exact λC e=>q C m e (b.trans o)
theorem JN {c:Type}{p:c->Bool}:∀(l:List c),match l.findIdx? p with|none=>l.find? p=Z8|some i=>∃a,l[i]?=Z9 a/\l.find? p=Z9 a
 | []=>rfl
 |a::l=>by
  rw[jo];cases d:p a with
  |true=>exact⟨a,rfl,by rw[mu d]⟩
  |false=>
   have b:=JN (p:=p) l;rw[mv (by rw[d];decide)];cases hf:l.findIdx? p with
   |none=>rw[hf]at b;exact b
   |some i=>rw[hf]at b;exact b
theorem z25 (D:HouK Z.K HC)(T:Z.me[0]?=Z9 (HC,("rulings_at":Str),spRa a Z.K HC CC))(U:Z.md[0]?=Z9 (HC,("standing":Str),spSt a Z.K HC CC Z.mg))(j:Z.fn[0]?=Z9 sp)(hs:BrS a Z.K sp)(t:Hou Z.K HC CC H x A h)(ok:Hok a h)(V:Rep Z.K H B F (.str s))(l:Rep Z.K H B I (.str w))(rm:Rep Z.K H B vm r)(W:a.G r)(hc:z1a h.es s=Z7)
  (q:match bar a h s w r with|none=>∀n J,Same H J->D0.nx n J|some k=>pS Z.mg H k Z.E):wS Z Hs.dY D0 [Z9 (.ref x),Z9 F,Z9 I,Z9 vm,Z8,Z8] H:=by
 obtain⟨m,rfl,hm⟩:=hs;obtain⟨g4,g5⟩:=au.mp hc;refine t.hV U rfl (aI (aF rfl (aI (aF rfl (bI ⟨x,A,h,F,.str s,I,w,.aM,.none,B,rfl,t,ok,V,l,rfl,a.d0,?_⟩)))));rw[sf g4];refine⟨s,rfl,g5,λH1 p L JO M=>?_⟩;have N:=t.same L;have o:((bZ a h s w .none).map λk=>(h.at k).2.2).length<=1000:=by rw[ah];refine bq (dn _ _) (bq (dn _ _) ?_);rw[cv];exact ok.big
 obtain⟨g,u⟩:=hm ((bZ a h s w .none).map λk=>(h.at k).2.2) r o (λz j=>by obtain⟨k,v,rfl⟩:=ce.mp j;exact(ok.gd _ (ar (Hd.get (vx v)))).1) W;refine yd j (aI (N.bE T rfl (aI (aF rfl (bI ⟨x,A,h,.ref p,bZ a h s w .none,AnyB,rfl,N,ok,⟨p,_,rfl,.inl ⟨M,trivial⟩,ui⟩,λk D=>vx D,λH2 p2 ys O Wu y r2=>?_⟩)))));have d:=L.trans O;refine aI (aF rfl (bI ⟨AnyB,[.list ((bZ a h s w .none).map λk=>(h.at k).2.2),r],_,rfl,Reps.cons ⟨p2,ys,rfl,.inl ⟨y,trivial⟩,r2.weak λ_ z=>z.elim⟩ (Reps.cons (rm.same d λ_ _=>trivial) rfl),u,λP Q R b=>?_⟩));have c:=d.trans R;refine⟨P,rfl,_,rfl,?_⟩;have f:=JN (p:=λk=>a.ag (h.at k).2.2 r) (bZ a h s w .none);rw[List.findIdx?_map]at b;have b:Rep Z.K Q (BC H2 AnyB g) P (yj ((bZ a h s w .none).findIdx? λk=>a.ag (h.at k).2.2 r)):=b;cases S:(bZ a h s w .none).findIdx? λk=>a.ag (h.at k).2.2 r with
 |none=>rw[S]at b f;cases b;rw[show bar a h s w r=Z8 from f]at q;exact q _ Q c
 |some i=>rw[S]at b f;cases b;obtain⟨k,e1,e2⟩:=f;rw[show bar a h s w r=Z9 k from e2]at q;refine λC hC=>iM (aF rfl (aF rfl (hY (B:=AnyB) (dx:=.list (z0d (bZ a h s w .none))) ⟨p,_,rfl,.inl ⟨R _ _ (O _ _ M),trivial⟩,ui⟩ (vt (by unfold z0d;rw[ao,e1];rfl)) λw4 r4=>?_)));cases r4;exact λdp e=>q C _ dp hC (c.trans (Same.upd e)) (c.none e) bF
end
namespace Ct
def pairs:WS:=.seq (.ret (.lit AB)) .nil
end Ct
namespace Hs
def init:WS:=.seq (.fld (.raw 0) "courts" (.mk 0 (.cons (.bE (.raw 1) 0 .nil) .nil))) (.seq (.fld (.raw 0) "entries" (.lst .nil)) (.seq (.fld (.raw 0) "fates" (.lst .nil)) (.seq (.fld (.raw 0) "last_day" (.aT .aM)) .nil)))
def eO:WS:=.seq (.asg 2 (.aT (.and (.gZ (.var 1) ["int"]) (.not (.gZ (.var 1) ["bool"]))))) (.seq (.ifS (.not (.fV (.jD (.raw 2)) (.zY .LtE .Lt (.aT (.int 0)) (.raw 1) (.len EN)))) (.seq (.iS "NoRuling") .nil) .nil) .nil)
def pT:WS:=.seq (.exp (.bE (.raw 0) 0 (.cons (.raw 1) .nil))) (.seq (.ret (.zX (.ix FA (.raw 1)))) .nil)
abbrev FT:W:=.tup (.cons (.aT (.str "fell")) (.cons (.raw 1) (.cons (.raw 8) .nil)))
abbrev SK:W:=.tup (.cons (.aT (.str "entered")) (.cons (.raw 1) (.cons (.raw 2) .nil)))
def enter:WS:=.seq (.exp (.bE (.raw 0) 0 (.cons (.raw 1) (.cons (.raw 2) .nil))))
 (.seq (.asg 7 (.fJ 0 (.cons (.raw 4) (.cons (.raw 5) (.cons (.raw 6) .nil)))))
 (.seq (.exp (.bE (.raw 0) 1 (.cons (.raw 2) (.cons (.raw 3) (.cons (.raw 7) .nil)))))
 (.seq (.asg 8 (.len EN))
 (.seq (.kO (.nm 9) (.bE (.raw 0) 2 (.cons (.raw 2) (.cons (.raw 3) (.cons (.raw 7) .nil)))) (.seq (.app (.lH FA (.raw 9)) FT) .nil))
 (.seq (.app EN (.tup (.cons (.raw 2) (.cons (.raw 3) (.cons (.raw 7) .nil)))))
 (.seq (.app FA (.lst (.cons SK .nil)))
 (.seq (.fld (.raw 0) "last_day" (.raw 1))
 (.seq (.ret (.raw 8)) .nil))))))))
end Hs
def kR (h:Hd)(n:Int):Bool:=decide (0<=n)&&decide (n<h.en.length)
section
variable (φ:cT)(K:Z5)(HC CC:Addr)(mg:Str->Option Value)
def spPt:Sp:=λvs H Q _=>∃x dx d kvs es,vs=[.ref x]/\Crt K CC H x dx d kvs es/\∀H' v,Same H H'->Rep K H' (nw H) v (.list (es.map ent))->Q v H'
def spCn:Sp:=λvs H Q E=>∃x A h n,vs=[.ref x,.int n]/\Hou K HC CC H x A h/\h.en.length<=1000/\if kR h n=Z7 then ∀H',Same H H'->Q .aM H' else bY mg "NoRuling" H E
def spFt:Sp:=λvs H Q E=>∃x A h n,vs=[.ref x,.int n]/\Hou K HC CC H x A h/\Hok φ h/\if kR h n=Z7 then ∀H' v,Same H H'->Rep K H' (nw H) v (.list (h.fa n.toNat))->Q v H' else bY mg "NoRuling" H E
end
theorem SM (h0:0<=n)(e:a[n.toNat]?=Z9 d):dC (.list a) (.int n)=.ok d:=by have:=vt e;rw[Int.toNat_of_nonneg h0]at this;exact this
theorem SN (ck:CrtK Z.K g)(ct:Crt Z.K g H x dx d kvs es)(q:∀b v,Same H b->Rep Z.K b (nw H) v (.list (es.map ent))->e.rt v b):wS Z Ct.pairs e [Z9 (.ref x)] H:=by refine yb (Q:=λx f=>tyV Z.K "dict" x f/\zV x [] f λv i=>zW Z.K [v] i e.rt) ck ct rfl ⟨.inr (.inr (.inl ⟨rfl,.inl ⟨_,ct.fK⟩⟩)),d,kvs,rfl,rfl,ct.fK,λp j=>?_⟩;have c:=Same.upd (o:=.ext λh=>h.IsItemsView p d) j;refine⟨p,d,kvs,es,rfl,bF,c _ _ ct.fK,(ct.same c).re,λw b s r=>q b w (c.trans s) ?_⟩;exact r.weak λa z=>nw.back c z
theorem JP (d:b.length<=bC)(q:∀R,(∀B,Rep Z.K H B v (.list b)->R v H)->wE Z a f H R)(r:Rep Z.K H AnyB v (.list b))(k:∀c,Same H c->Q (.int b.length) c):wE Z (.len a) f H Q:=by
 refine q _ λB _=>⟨AnyB,[.list b],.int b.length,Reps.cons r rfl,?_,λw c s e=>by cases e;exact k c s⟩
 first|rfl|(rw[sf d])
theorem SO (m:HouK Z.K o)(t:Hou Z.K o I H x A h)(p:h.en.length<=1000)(q:if kR h n=Z7 then ∀c j,Same H j->s.nx c j else bY Z.mg "NoRuling" H Z.E):wS Z Hs.eO s [Z9 (.ref x),Z9 (.int n),Z8] H:=by
 refine⟨[Z8,Z9 (.od,.int n),Z8],F0 H,(.fr,.bool Z7),pQ rfl λi g d e=>?_,rfl,λv J u w=>?_⟩
 .rcases i with _|_|_|i<;>cases e;exact⟨rfl,.int n,AnyB,rfl,rfl⟩
 cases w;refine D8 (ue (aF rfl ⟨Z7,rfl,?_⟩));refine nI λL y=>aF rfl (kQ (B:=AnyB) (B':=AnyB) (dx:=.int 0) (dy:=.int n) rfl rfl rfl λz D=>⟨_,rfl,?_⟩);have a:=u.trans (y.trans D);unfold kR at q;cases h0:decide (0<=n)with
 |false=>rw[h0]at q;exact⟨_,rfl,λC e=>q C z e a⟩
 |true=>
  rw[h0]at q;have f:=t.same a;refine JP (by rw[ah];exact bq p dc) (λR r=>pR m f rfl (r AnyB f.fW)) f.fW λM F=>kQ (B:=AnyB) (B':=AnyB) (dx:=.int n) (dy:=.int (h.en.map iN).length) rfl rfl rfl λk G=>⟨_,rfl,?_⟩;have b:=a.trans (F.trans G);rw[ah];cases l:decide (n<h.en.length)with
  |false=>rw[l]at q;exact λC e=>q C k e b
  |true=>rw[l]at q;exact q _ k b
theorem SQ (k:HouK Z.K c)(l:Z.me[0]?=Z9 (c,("check_number":Str),spCn Z.K c m Z.mg))(t:Hou Z.K c m H x A h)(ok:Hok y h)(q:if kR h n=Z7 then ∀d v,Same H d->Rep Z.K d (nw H) v (.list (h.fa n.toNat))->o.rt v d else bY Z.mg "NoRuling" H Z.E):wS Z Hs.pT o [Z9 (.ref x),Z9 (.int n)] H:=by
 refine t.bE l rfl (aI (aF rfl (bI ⟨x,A,h,n,rfl,t,ok.big,?_⟩)));by_cases e:kR h n=Z7
 .rw[sf e]at q ⊢;intro B f;have i:=t.same f;obtain⟨g,j⟩:=au.mp e;have g:=sk g;have j:=sk j;have b:n.toNat<h.ft.length:=by rw[ok.len];omega
  refine iM (vo k i rfl (aF rfl (hY i.ug (SM g (by rw[ao,Hd.eT b];rfl)) λw r=>⟨AnyB,w,.list (h.fa n.toNat),Z7,h.fa n.toNat,.list (h.fa n.toNat),rfl,r,rfl,rfl,λv p s u=>q p v (f.trans s) (u.weak λa z=>?_)⟩)));rcases z with z|⟨z,_⟩
  .exact nw.back f z
  .rw[JK (ok.fo _ (ar (Hd.eT b)))]at z;cases z
 .rw[sg e]at q ⊢;exact q
def fL (ft:List (List D))(L:List Nat)(t:D):List (List D):=L.foldl (λft k=>ft.set k (ft.getD k []++[t])) ft
def z71 (n:Int)(k:Nat):D:=.tuple [.str "fell",.int n,.int k]
def dZ (n:Int)(s:Str):D:=.tuple [.str "entered",.int n,.str s]
def Hd.put (h:Hd)(n:Int)(s w:Str)(r:D)(L:List Nat):Hd:=⟨h.es,h.en++[(s,w,r)],fL h.ft L (z71 n h.en.length)++[[dZ n s]],Z9 n⟩
section
variable {K:Z5}{H H':Hp}{HC CC x:Addr}{A:Ha}{h:Hd}
abbrev fF (A:Ha)(x:Addr)(H H':Hp):Prop:=∀b o,¬A.own x b->H b=Z9 o->H' b=Z9 o
theorem Hou.nM (t:Hou K HC CC H x A h)(a:A.own x b)(e:H b=Z9 o):¬Fix o:=by
 rcases a with rfl|rfl|rfl|rfl|a
 .obtain⟨i,c,_⟩:=t.ins;rw[c]at e;cases e;exact id
 .rw[t.bR.fK]at e;cases e;exact id
 .obtain⟨j,d,_⟩:=t.ent;rw[d]at e;cases e;exact id
 .rw[t.jR]at e;cases e;exact id
 .obtain⟨k,f⟩:=cj.mp a;obtain⟨l,g,_⟩:=t.gC.2 k b f;rw[g]at e;cases e;exact id
theorem Hou.fix (t:Hou K HC CC H x A h)(f:fF A x H H'):∀a o,H a=Z9 o->Fix o->H' a=Z9 o:=λa o e z=>f a o (λb=>t.nM b e z) e
theorem Hou.jF (t:Hou K HC CC H x A h)(b:H a=Z9 (.lst f)):x≠a/\A.c≠a/\A.d≠a:=by
 refine⟨?_,?_,?_⟩
 .rintro rfl
  obtain⟨g,e,_⟩:=t.ins;rw[e]at b;cases b
 .rintro rfl
  rw[t.bR.ins]at b;cases b
 .rintro rfl
  rw[t.bR.fK]at b;cases b
theorem yk (c:H a=Z9 (.lst d)):∀b o,H b=Z9 o->(NoB (Z9 b)\/Fix o)->upd H a (.lst ys) b=Z9 o:=λb o e z=>by
 rw[aE]
 .exact e
 .rintro rfl
  rw[c]at e;cases e;exact z.elim id id
theorem yl {e:Type}:∀{l:List e} {i j:Nat} {a:e},l.Nodup->l[i]?=Z9 a->l[j]?=Z9 a->i=j
 | [],i,_,_,_,h,_=>by simp at h
 |b::l,0,0,_,_,_,_=>rfl
 |b::l,0,j+1,a,nd,c,d=>by rw[gf]at d;cases c;exact absurd (ar d) (du.mp nd).1
 |b::l,i+1,0,a,nd,c,d=>by rw[gf]at c;cases d;exact absurd (ar c) (du.mp nd).1
 |b::l,i+1,j+1,a,nd,c,d=>by rw[yl (du.mp nd).2 c d]
theorem Hou.rR (hh:Hou K HC CC H x A h)(e:A.as[k]?=Z9 a)(o:H a=Z9 (.lst f))(i:Reps K H NoB f (h.fa k))(p:Rep K H NoB y t):Hou K HC CC (upd H a (.lst (f++[y]))) x A {h with ft:=h.ft.set k (h.fa k++[t])}:=by
 obtain⟨n1,n2,n3⟩:=hh.jF o;have c:=ar e;have d:=yk (ys:=f++[y]) o;obtain⟨q,r,s⟩:=hh.ins;obtain⟨u,v,w⟩:=hh.ent;have l:A.le≠a:=λz=>hh.n2 (z▸c);have m:A.lf≠a:=λz=>hh.n3 (z▸c);refine⟨⟨q,by rw[aE n1];exact r,Rep.keep d (λ_ z=>z) _ s⟩,⟨by rw[aE n2];exact hh.bR.ins,by rw[aE n3];exact hh.bR.fK,aW.keep d (λ_ z=>z) _ hh.bR.re⟩,⟨u,by rw[aE l];exact v,Reps.keep d (λ_ z=>z) _ w⟩,by rw[aE m];exact hh.jR,⟨by rw[bx];exact hh.gC.1,λj b g=>?_⟩,hh.nd,hh.n1,hh.n2,hh.n3⟩;by_cases n:j=k
 .subst n;rw[e]at g;cases g;refine⟨f++[y],bF,?_⟩;rw[aa,bv (hh.gC.1▸((ay.mp e).1))];exact Reps.keep d (λ_ z=>z) _ (i.append (Reps.cons p rfl))
 .obtain⟨B,C,D⟩:=hh.gC.2 j b g;refine⟨B,by rw[aE (λz=>by subst z;exact n (yl hh.nd g e))];exact C,?_⟩;rw[aa,bp (Ne.symm n)];exact Reps.keep d (λ_ z=>z) _ D
theorem Hou.Eb (hh:Hou K HC CC H x A h)(f:H A.le=Z9 (.lst b))(r:Reps K H NoB b (h.en.map iN))(g:Rep K H NoB y (iN e)):Hou K HC CC (upd H A.le (.lst (b++[y]))) x A {h with en:=h.en++[e]}:=by obtain⟨n1,n2,n3⟩:=hh.jF f;have c:=yk (ys:=b++[y]) f;obtain⟨i,j,k⟩:=hh.ins;refine⟨⟨i,by rw[aE n1];exact j,Rep.keep c (λ_ z=>z) _ k⟩,⟨by rw[aE n2];exact hh.bR.ins,by rw[aE n3];exact hh.bR.fK,aW.keep c (λ_ z=>z) _ hh.bR.re⟩,⟨b++[y],bF,?_⟩,by rw[aE (Ne.symm hh.n1)];exact hh.jR,hh.gC.keep (λa d o e=>by rw[aE (λ(z:a=A.le)=>hh.n2 (z▸d))];exact e) (λa o e z=>c a o e (.inr z)),hh.nd,hh.n1,hh.n2,hh.n3⟩;rw[cq];exact Reps.keep c (λ_ z=>z) _ (r.append (Reps.cons g rfl))
theorem Hou.Ec (hh:Hou K HC CC H x A h)(o:H p=Z9 (.lst l))(g:Reps K H NoB l f)(q:p∉A.as)(r:p≠A.le)(m:p≠A.lf):Hou K HC CC (upd H A.lf (.lst (A.as.map V.ref++[.ref p]))) x {A with as:=A.as++[p]} {h with ft:=h.ft++[f]}:=by
 have d:=hh.jR;obtain⟨n1,n2,n3⟩:=hh.jF d;have c:=yk (ys:=A.as.map V.ref++[.ref p]) d;obtain⟨s,t,u⟩:=hh.ins;obtain⟨v,w,y⟩:=hh.ent;have i:=hh.gC.1;refine⟨⟨s,by rw[aE n1];exact t,Rep.keep c (λ_ z=>z) _ u⟩,⟨by rw[aE n2];exact hh.bR.ins,by rw[aE n3];exact hh.bR.fK,aW.keep c (λ_ z=>z) _ hh.bR.re⟩,⟨v,by rw[aE hh.n1];exact w,Reps.keep c (λ_ z=>z) _ y⟩,by rw[bF,cq];rfl,⟨by rw[ax,ax,i];rfl,λk a e=>?_⟩,?_,hh.n1,λz=>?_,λz=>?_⟩
 .by_cases n:k<A.as.length
  .have e:(A.as++[p])[k]?=Z9 a:=e;rw[c7 n]at e;obtain⟨B,C,D⟩:=hh.gC.2 k a e;refine⟨B,by rw[aE (λ(z:a=A.lf)=>hh.n3 (z▸ar e))];exact C,?_⟩;rw[aa,c7 (i▸n),<-aa];exact Reps.keep c (λ_ z=>z) _ D
  .have e:(A.as++[p])[k]?=Z9 a:=e;rw[b7 (by omega)]at e;have j:k=A.as.length:=by have:=(ay.mp e).1;rw[ek]at this;omega
   subst j;rw[fy]at e;cases e;refine⟨l,by rw[aE m];exact o,?_⟩;rw[aa,i,b7 (ae _),fy];exact Reps.keep c (λ_ z=>z) _ g
 .exact gh.mpr ⟨hh.nd,by simp,λa d b E z=>q (by rw[<-az.mp E,<-z];exact d)⟩
 .rcases bw.mp z with z|z
  .exact hh.n2 z
  .exact r (az.mp z).symm
 .rcases bw.mp z with z|z
  .exact hh.n3 z
  .exact m (az.mp z).symm
theorem Hou.ym (hh:Hou K HC CC H x A h)(i1:H x=Z9 (.ins HC A.dx (z9 A vd))):Hou K HC CC (upd H x (.ins HC A.dx (bT "last_day" (.int n) (z9 A vd)))) x A {h with ld:=Z9 n}:=by
 have ne:∀{b:Addr} {o:HO},H b=Z9 o->(∀C dx fs,o≠.ins C dx fs)->b≠x:=λ{b o} e z w=>by subst w;rw[i1]at e;cases e;exact z _ _ _ rfl
 have kn:∀b o,H b=Z9 o->(NoB (Z9 b)\/Fix o)->upd H x (.ins HC A.dx (bT "last_day" (.int n) (z9 A vd))) b=Z9 o:=λb o e z=>by rw[aE (ne e λC dx fs w=>by subst w;exact z.elim id id)];exact e
 obtain⟨vs,j1,j2⟩:=hh.ent;have Ai:A.c≠x:=λz=>by have:=hh.bR.ins;rw[z,i1]at this;injection this with this;injection this with _ _ this;exact absurd (congrArg kg this) (by simp)
 refine⟨⟨.int n,by rw[bF];rfl,rfl⟩,⟨by rw[aE Ai];exact hh.bR.ins,by rw[aE (ne hh.bR.fK nofun)];exact hh.bR.fK,aW.keep kn (λ_ z=>z) _ hh.bR.re⟩,⟨vs,by rw[aE (ne j1 nofun)];exact j1,Reps.keep kn (λ_ z=>z) _ j2⟩,by rw[aE (ne hh.jR nofun)];exact hh.jR,hh.gC.keep (λa ha o e=>?_) (λa o e z=>kn a o e (.inr z)),hh.nd,hh.n1,hh.n2,hh.n3⟩;obtain⟨k,hk⟩:=cj.mp ha;obtain⟨ws,e1,_⟩:=hh.gC.2 k a hk;rw[aE (ne e1 nofun)];exact e
end
def RuS (φ:cT)(K:Z5)(sp:Sp):Prop:=∃m,sp=spD K 3 m/\∀a b c,φ.G (.tuple [a,b,c])->∃g,m [a,b,c]=.ok (g,.tuple [a,b,c])
theorem JQ (ft:List (List D))(t:D):∀L,(fL ft L t).length=ft.length:=λL=>by
 unfold fL
 induction L generalizing ft with
 |nil=>rfl
 |cons k L a=>rw[List.foldl_cons,a,bx]
theorem SR (ft:List (List D))(t:D)(L:List Nat)(k:Nat):fL ft (L++[k]) t=(fL ft L t).set k ((fL ft L t).getD k []++[t]):=by unfold fL;rw[List.foldl_append];rfl
theorem JR (t:D):∀L ft k m,(∀j,(ft.getD j []).length<=m)->((fL ft L t).getD k []).length<=m+L.length
 | [],ft,k,m,h=>h k
 |i::L,ft,k,m,h=>by
  have:=JR t L (ft.set i (ft.getD i []++[t])) k (m+1) λj=>by
   rw[aa,dz];split
   .split
    .rw[Option.getD_some,ax];have:=h i;show _+1<=m+1;omega
    .exact cz _
   .have :=h j;rw[aa]at this;omega
  rw[bc];show((fL (ft.set i (ft.getD i []++[t])) L t).getD k []).length<=_;omega
section
variable (φ:cT)(K:Z5)(HC CC:Addr)(mg:Str->Option Value)
abbrev put1 (K:Z5)(HC CC:Addr)(H:Hp)(x:Addr)(A:Ha)(h:Hd)(Q:VK):Prop:=∀H' p,fF A x H H'->H p=Z8->Hou K HC CC H' x {A with as:=A.as++[p]} h->Q (.int (h.en.length-1:Nat)) H'
def spEn:Sp:=λvs H Q E=>∃x A h n vc c vw w v4 v5 v6 a b r B,vs=[.ref x,.int n,vc,vw,v4,v5,v6]/\Hou K HC CC H x A h/\Hok φ h/\h.en.length<1000/\Rep K H B vc c/\Rep K H B vw (.str w)/\Rep K H B v4 a/\Rep K H B v5 b/\Rep K H B v6 r/\imms [a,b,r]=Z7/\φ.G (.tuple [a,b,r])/\
 if stN h.es c=Z7 then ∃s,c=.str s/\endN h.es 999 s=Z7/\if late h.ld n=Z7 then bY mg "Late" H E else
  match bar φ h s w (.tuple [a,b,r])with
  |some k=>pS mg H k E
  |none=>put1 K HC CC H x A (h.put n s w (.tuple [a,b,r]) (fll φ h s w (.tuple [a,b,r]))) Q
 else bY mg "NoCourt" H E
end
theorem vy (q:wE Z o a H λx b=>tyV Z.K "list" x b/\wE Z v a b λy c=>zg x [y] c λ_ d=>e.nx a d):wS Z (.app o v) e a H:=q
theorem vz (q:wE Z e b H λy d=>wE Z o b d λx c=>∃a C dx fs,x=.ref a/\c a=Z9 (.ins C dx fs)/\Cls Z.K C/\z1x Z.K C f/\fs.length<1000/\g.nx b (upd c a (.ins C dx (bT f y fs)))):wS Z (.fld o f e) g b H:=q
theorem JS:ZV "fell"=true:=by decide+kernel
theorem JT:ZV "entered"=true:=by decide+kernel
theorem pU {K:Z5}(b:H p=Z8)(r:Reps K H NoB a ds):Rep K (upd H p (.tup a)) NoB (.ref p) (.tuple ds):=⟨p,a,rfl,cP.of bF,r.sm (Same.upd b)⟩
abbrev Ed (x:Addr)(n:Int)(vc vw v4 v5 v6 vm:V)(h:Hd)(b0:Option V):L2.St:=[Z9 (.ref x),Z9 (.int n),Z9 vc,Z9 vw,Z9 v4,Z9 v5,Z9 v6,Z9 vm,Z9 (.int h.en.length),b0]
theorem z8l (C:HouK Z.K I)(h3:Z.me[2]?=Z9 (I,("felled":Str),spFe X Z.K I CC))(t:Hou Z.K I CC H x A h)(ok:Hok X h)(rc:Rep Z.K H NoB Q (.str c))(rw':Rep Z.K H NoB R (.str w))(rm:Rep Z.K H NoB vm r)(hg:X.G r)(L:List Nat)(hL:L=fll X h c w r)(J:D)(htd:J=z71 n h.en.length)
  (q:∀a u,a.length=10->(∀j,j≠9->a[j]?=(Ed x n Q R v4 v5 v6 vm h b0)[j]?)->fF A x H u->Hou Z.K I CC u x A {h with ft:=fL h.ft L J}->D0.nx a u):
  wS Z (.kO (.nm 9) (.bE (.raw 0) 2 (.cons (.raw 2) (.cons (.raw 3) (.cons (.raw 7) .nil)))) (.seq (.app (.lH Hs.FA (.raw 9)) Hs.FT) .nil)) D0 (Ed x n Q R v4 v5 v6 vm h b0) H:=by
 refine t.bE h3 rfl (aI (aF rfl (aI (aF rfl (aI (aF rfl (bI ⟨x,A,h,Q,c,R,w,vm,r,NoB,rfl,t,ok,rc,rw',rm,hg,λH1 p s1 JO hp=>?_⟩)))))));rw[<-hL]at hp;have Ee:∀k∈L,k<h.en.length:=λk C=>by rw[hL]at C;exact Ah (dm.mp C).1
 have Wv:L.length<=1000:=by rw[hL];refine bq (dn _ _) (bq (dn _ _) ?_);rw[cv];exact ok.big
 have Aj:p∉A.as:=λz=>by obtain⟨k,C⟩:=cj.mp z;obtain⟨S,M,_⟩:=t.gC.2 k p C;rw[JO]at M;cases M
 refine⟨p,rfl,⟨_,SqL.of hp⟩,?_⟩
 let W:Nat->Nat->L2.St->Hp->Prop:=λi m a u=>m=L.length-i/\i<=L.length/\a.length=10/\(∀j,j≠9->a[j]?=(Ed x n Q R v4 v5 v6 vm h b0)[j]?)/\(∀b o,b∉A.as->H1 b=Z9 o->u b=Z9 o)/\Hou Z.K I CC u x A {h with ft:=fL h.ft (L.take i) J}
 refine⟨W,⟨_,rfl,cz _,rfl,λ_ _=>rfl,λ_ _ _ e=>e,(t.same s1)⟩,?_⟩
 rintro i m a u ⟨rfl,hi,hl,N,hf,E⟩
 have v:=hf p _ Aj hp;have lL:(z2m L).length=L.length:=ah ..;by_cases g:i<L.length
 .refine .inr ⟨⟨_,_,SqL.of v,ac (lL▸g)⟩,W (i+1) (L.length-(i+1)),λwc H2 w=>⟨_,by omega,w⟩,λy H2 F=>?_⟩;obtain⟨rfl,F⟩:=F;have F:=F _ (SqL.of v);have SS:(z2m L)[i]?=Z9 (V.int (L[i]:Nat)):=by unfold z2m;rw[ao,ac g];rfl
  rw[SS]at F;cases F;generalize O:L[i]=k at *
  have tk:L.take (i+1)=L.take i++[k]:=by rw[lh,ac g,O];rfl
  refine zek (d:=.int k) (B:=AnyB) rfl (by rw[hl];decide) λwc w2 SU e9 r9 rest=>?_;cases r9;have f:=λj T=>(rest j T).trans (N j T);have l:k<A.as.length:=by rw[t.gC.1,ok.len];exact Ee k (O▸ja g)
  obtain⟨S,M,r1⟩:=E.gC.2 k A.as[k] (ac l);refine vy (yf (vo C E (f 0 dc) (aF e9 (.inl ⟨A.lf,_,k,.ref A.as[k],rfl,rfl,SqL.of E.jR,?_,.inl ⟨rfl,_,SqL.of M⟩,z7 (aI (D7 JS λH3 s3=>aI (aF (f 1 dc) (aI (aF (f 8 dc) (bI ⟨by rw[db];simp,λp3 P=>?_⟩))))))⟩))))
  .have :(A.as.map V.ref)[k]?=Z9 (.ref A.as[k]):=by rw[ao,ac l];rfl
   unfold L2.bM;have SV:L2.fG (A.as.map V.ref).length k=Z9 k:=by unfold L2.fG;rw[sf (by omega),sf (by grind),fi]
   rw[SV];exact this
  .have s:Same H2 (upd H3 p3 (.tup [.str "fell",.int n,.int h.en.length])):=s3.trans (Same.upd P);have ea:=s _ _ M
   have wl:S.length<ba:=by
    have h2:=JR J (L.take i) h.ft k 2 λj=>by
     by_cases T:j<h.ft.length
     .have :=(ok.fo _ (ar (Hd.eT T))).2.1;exact this
     .rw[aa];simp_all
    rw[d7]at h2;rw[db];have h3:((fL h.ft (L.take i) J).getD k []).length=S.length:=r1.length.symm;omega
   refine⟨A.as[k],S,.ref p3,rfl,rfl,ea,wl,rfl,g,SU.trans hl,f,λb o U e=>?_,?_⟩
   .rw[aE (λ(z:b=A.as[k])=>U (z▸ja l))];exact s b o (hf b o U e)
   .rw[tk,SR];exact(E.same s).rR (ac l) ea (r1.sm s) (by rw[htd];exact pU P (Reps.cons ⟨rfl,JS⟩ (Reps.cons rfl (Reps.cons rfl rfl))))
 .have xw:i=L.length:=by omega
  subst xw;refine .inl ⟨⟨_,SqL.of v,by rw[lL];exact ae _⟩,q a u hl N (λb o U e=>hf b o (λz=>U (.inr (.inr (.inr (.inr z))))) (s1 b o e)) ?_⟩;rw[fv]at E;exact E
section
variable (φ:cT)(K:Z5)(HC CC:Addr)(mg:Str->Option Value)
def spHi:Sp:=λvs H Q _=>∃x dx y dy d kvs es,vs=[.ref x,.ref y]/\H x=Z9 (.ins HC dx [])/\Crt K CC H y dy d kvs es/\z0m [] (es.map ent)=Z9 es/\es.length<1000/\∀H' A,(∀b o,b≠x->H b=Z9 o->H' b=Z9 o)->(∀b,A.own x b->b=x\/H b=Z8)->H A.c=Z8->Hou K HC CC H' x A ⟨es,[],[],Z8⟩->Q .aM H'
end
section
variable {Z:Wc}{H:Hp}{HC CC x:Addr}{A:Ha}{h:Hd}{φ:cT}{D0:Ends}{B:Ad->Prop}
theorem zf1 (D:HouK Z.K HC)(h1:Z.me[0]?=Z9 (HC,("check_deed":Str),spCd Z.K HC CC Z.mg))(h2:Z.me[1]?=Z9 (HC,("check_allowed":Str),spCa φ Z.K HC CC Z.mg))(h3:Z.me[2]?=Z9 (HC,("felled":Str),spFe φ Z.K HC CC))(hz:Z.fn[0]?=Z9 sp)(hs:RuS φ Z.K sp)
  (t:Hou Z.K HC CC H x A h) (ok:Hok φ h) (i:h.en.length<1000) (rc:Rep Z.K H B j c) (rw':Rep Z.K H B P (.str w)) (r4:Rep Z.K H B v4 a) (r5:Rep Z.K H B v5 b) (r6:Rep Z.K H B v6 r) (im:imms [a,b,r]=Z7) (hg:φ.G (.tuple [a,b,r]))
  (q:if stN h.es c=Z7 then ∃s,c=.str s/\endN h.es 999 s=Z7/\if late h.ld n=Z7 then bY Z.mg "Late" H Z.E else
   match bar φ h s w (.tuple [a,b,r])with
   |some k=>pS Z.mg H k Z.E
   |none=>put1 Z.K HC CC H x A (h.put n s w (.tuple [a,b,r]) (fll φ h s w (.tuple [a,b,r]))) D0.rt
  else bY Z.mg "NoCourt" H Z.E):wS Z Hs.enter D0 [Z9 (.ref x),Z9 (.int n),Z9 j,Z9 P,Z9 v4,Z9 v5,Z9 v6,Z8,Z8,Z8] H:=by
 obtain⟨m,rfl,hm⟩:=hs;obtain⟨fs,i1,i2⟩:=t.uj;refine t.bE h1 rfl (aI (aF rfl (aI (aF rfl (bI ⟨x,A,h,j,c,n,B,rfl,t,rc,?_⟩)))));cases Q:stN h.es c with
 |false=>rw[Q]at q;exact q
 |true=>
 rw[Q]at q;obtain⟨s,rfl,he,q⟩:=q;refine⟨⟨s,rfl,he⟩,?_⟩;cases um:late h.ld n with
 |true=>rw[um]at q;exact q
 |false=>
 rw[um]at q;intro H1 s1;obtain⟨g,SW⟩:=hm a b r hg;obtain⟨ia,ib,ir⟩:imm a=Z7/\imm b=Z7/\imm r=true:=by have:=wM.mp im;exact⟨this a (by simp),this b (by simp),this r (by simp)⟩
 have SX:=im;refine yd hz (aI (aF rfl (aI (aF rfl (aI (aF rfl (bI ⟨AnyB,[a,b,r],_,rfl,Reps.cons (r4.same s1 λ_ _=>trivial) (Reps.cons (r5.same s1 λ_ _=>trivial) (Reps.cons (r6.same s1 λ_ _=>trivial) rfl)),SW,λvm H2 s2 rm=>?_⟩)))))));have rm:Rep Z.K H2 NoB vm (.tuple [a,b,r]):=Rep.aS _ SX rm;have l:=s1.trans s2;have t2:=t.same l;have S:Rep Z.K H2 NoB j (.str s):=Rep.aS _ rfl (rc.sm l);have T:Rep Z.K H2 NoB P (.str w):=Rep.aS _ rfl (rw'.sm l);refine t2.bE h2 rfl (aI (aF rfl (aI (aF rfl (aI (aF rfl (bI ⟨x,A,h,j,s,P,w,vm,_,NoB,rfl,t2,ok,S,T,rm,hg,by unfold z1a;rw[Q,he];rfl,?_⟩)))))));cases F:bar φ h s w (.tuple [a,b,r])with
 |some k=>rw[F]at q;exact λC H' dp e s' hd wB=>q C H' dp e (l.trans s') (l.none hd) wB
 |none=>
 rw[F]at q;intro H3 s3;have uo:=l.trans s3;have t3:=t.same uo;refine JP (by rw[ah];exact bq ok.big (by decide)) (λR r=>pR D t3 rfl (r AnyB t3.fW)) t3.fW λH4 s4=>?_;have yn:=uo.trans s4;have t4:=t.same yn;have u:=s3.trans s4;rw[ah];generalize hL:fll φ h s w (.tuple [a,b,r])=L at q;generalize htd:z71 n h.en.length=td;refine z8l D h3 t4 ok (S.sm u) (T.sm u) (rm.sm u) hg L hL.symm td htd.symm λσ5 U Ww d f5 t5=>?_;have SY:=t4.fix f5;have W:∀b o,H4 b=Z9 o->(NoB (Z9 b)\/Fix o)->U b=Z9 o:=λb o e z=>SY b o e (z.resolve_left id);have e0:=d 0 (by decide);have I:=d 1 (by decide);have e2:=d 2 (by decide);have e3:=d 3 (by decide);have e7:=d 7 (by decide);have e8:=d 8 (by decide);have X:=Rep.keep W (λ_ z=>z) _ (S.sm u);have S0:=Rep.keep W (λ_ z=>z) _ (T.sm u);have S1:=Rep.keep W (λ_ z=>z) _ (rm.sm u);have big:ba>3000:=by rw[db];decide
 obtain⟨vs,f1,f2⟩:=t5.ent;refine vy (pR D t5 e0 ⟨.inl ⟨rfl,_,SqL.of f1⟩,z7 (aI (aF e2 (aI (aF e3 (aI (aF e7 (bI ⟨by show 3<=ba;omega,λJ JU=>?_⟩)))))))⟩);have s6:Same U (upd U J (.tup [j,P,vm])):=Same.upd JU;have vl:vs.length<ba:=by have:=f2.length;rw[ah]at this;have h9:vs.length=h.en.length:=this;omega
 refine⟨A.le,vs,.ref J,rfl,rfl,s6 _ _ f1,vl,?_⟩;have y:=(t5.same s6).Eb (e:=(s,w,.tuple [a,b,r])) (s6 _ _ f1) (f2.sm s6) (pU JU (Reps.cons X (Reps.cons S0 (Reps.cons S1 rfl))));have Y:∀b o,b≠A.le->U b=Z9 o->upd (upd U J (.tup [j,P,vm])) A.le (.lst (vs++[.ref J])) b=Z9 o:=λb o i e=>by rw[aE i];exact s6 b o e
 have JV:Rep Z.K (upd (upd U J (.tup [j,P,vm])) A.le (.lst (vs++[.ref J]))) NoB j (.str s):=⟨X.1,X.2⟩;generalize Wx:upd (upd U J (.tup [j,P,vm])) A.le (.lst (vs++[.ref J]))=H7 at y Y JV;refine vy (vo D y e0 ⟨.inl ⟨rfl,_,SqL.of y.jR⟩,rQ (aI (z7 (aI (D7 JT λH8 s8=>aI (aF I (aI (aF e2 (bI ⟨by show 3<=ba;omega,λM JW=>bI ⟨by show 1<=ba;omega,λp hp=>?_⟩⟩))))))))⟩);have s9:Same H8 (upd H8 M (.tup [.str "entered",.int n,j])):=Same.upd JW;have Ak:Same (upd H8 M (.tup [.str "entered",.int n,j])) (upd (upd H8 M (.tup [.str "entered",.int n,j])) p (.lst [.ref M])):=Same.upd hp;have N:=s8.trans (s9.trans Ak);have JX:=y.same N;have v:=(s8.trans s9).none hp;have r9:=(pU (ds:=[.str "entered",.int n,.str s]) JW (Reps.cons ⟨rfl,JT⟩ (Reps.cons rfl (Reps.cons (JV.sm s8) rfl)))).sm Ak;have Aj:p∉A.as:=λz=>by obtain⟨k,D⟩:=cj.mp z;obtain⟨ws,I,_⟩:=y.gC.2 k p D;rw[v]at I;cases I
 have Ef:p≠A.le:=λz=>by obtain⟨ws,I,_⟩:=y.ent;rw[<-z,v]at I;cases I
 have JY:p≠A.lf:=λz=>by have:=y.jR;rw[<-z,v]at this;cases this
 have al:(A.as.map V.ref).length<ba:=by have h1:=t.gC.1;rw[ah,h1,ok.len];omega
 refine⟨A.lf,_,.ref p,rfl,rfl,JX.jR,al,?_⟩;have Eg:=JX.Ec (f:=[dZ n s]) bF (Reps.cons r9 rfl) Aj Ef JY;have O:∀b o,b≠A.lf->H7 b=Z9 o->upd (upd (upd H8 M (.tup [.str "entered",.int n,j])) p (.lst [.ref M])) A.lf (.lst (A.as.map V.ref++[.ref p])) b=Z9 o:=λb o i e=>by rw[aE i];exact N b o e
 generalize S2:upd (upd (upd H8 M (.tup [.str "entered",.int n,j])) p (.lst [.ref M])) A.lf (.lst (A.as.map V.ref++[.ref p]))=S3 at Eg O;obtain⟨vd,k1,k2⟩:=Eg.ins;refine vz (aF I (aF e0 ⟨x,HC,A.dx,_,rfl,k1,D.cls,D.a4,by show(4:Nat)<1000;decide,?_⟩));subst htd;have S6:=Eg.ym (n:=n) k1;show wE Z (.raw 8) σ5 _ D0.rt;refine aF e8 ?_;have JZ:=λb o i e=>f5 b o i (yn b o e);have fin:=q (upd S3 x (.ins HC A.dx (bT "last_day" (.int n) _))) p (λb o i e=>?_) ?_ S6
 .have:((h.put n s w (.tuple [a,b,r]) L).en.length-1:Nat)=h.en.length:=by
   show(h.en++[_]).length-1=_;rw[ax];rfl
  rw[this]at fin;exact fin
 .have n1:b≠x:=λz=>i (.inl z);have n2:=λz=>i (.inr (.inr (.inl z)));have n3:=λz=>i (.inr (.inr (.inr (.inl z))));rw[aE n1];exact O b o n3 (Y b o n2 (JZ b o i e))
 .cases e:H p with
  |none=>rfl
  |some o=>
   exfalso;by_cases i:A.own x p
   .rcases i with z|z|z|z|z
    .obtain⟨vd,i1,_⟩:=y.ins;rw[<-z,v]at i1;cases i1
    .have :=y.bR.fK;rw[<-z,v]at this;cases this
    .exact Ef z
    .exact JY z
    .exact Aj z
   .have :=Y p o Ef (JZ p o i e);rw[v]at this;cases this
end
theorem Eh:∀{ps:List D} {d es:bA},z0m d ps=Z9 es->imms ps=Z7/\ps.all isPr=Z7
 | [],_,_,_=>⟨rfl,rfl⟩
 |p::ps,d,es,h=>by
  unfold z0m at h;split at h
  .rename_i c a;split at h
   .rename_i e;obtain⟨f,g⟩:=Eh h;obtain⟨i,b⟩:=au.mp e;have j:imm c=true:=by cases c<;>first|(cases i;done)|rfl
    have k:imm a=true:=by
     rcases fj.mp b with b|b
     .cases a<;>first|(cases b;done)|rfl
     .unfold stN at b;cases a<;>first|(cases b;done)|rfl
    exact⟨by show(imms [c,a]&&imms ps)=Z7;rw[f];simp[imms,j,k],by rw[c9,g];rfl⟩
   .cases h
  .cases h
theorem Ei {C:Addr}(h:Z.cl[j]?=Z9 (C,c))(q:wA Z as b H λd a=>∀x dx,a x=Z8->a dx=Z8->dx≠x->c (.ref x::(d++[])) (upd (upd a dx (.own x)) x (.ins C dx [])) (λv e=>v=.aM/\Q (.ref x) e) Z.E):wE Z (.mk j as) b H Q:=by show(match Z.cl[j]? with|some r=>wq r.1 r.2 [] Z.E (wA Z as)|none=>hW) b H Q;rw[h];exact q
abbrev pV (c le lf:Addr):List (Str×V):=[("courts",.ref c),("entries",.ref le),("fates",.ref lf)]
theorem zf9 (hk:HouK Z.K HC)(h1:Z.me[0]?=Z9 (CC,("pairs_told":Str),spPt Z.K CC))(h2:Z.cl[0]?=Z9 (CC,zaz Z.K CC Z.mg))(hx:H x=Z9 (.ins HC dx []))(ct:Crt Z.K CC H y dy d kvs es)(haf:z0m [] (es.map ent)=Z9 es)(hz:es.length<1000)
  (q:∀bG H' A,(∀b o,b≠x->H b=Z9 o->H' b=Z9 o)->(∀b,A.own x b->b=x\/H b=Z8)->H A.c=Z8->Hou Z.K HC CC H' x A ⟨es,[],[],Z8⟩->D0.nx bG H'):wS Z Hs.init D0 [Z9 (.ref x),Z9 (.ref y)] H:=by
 refine vz (Ei h2 (aI (vj h1 (aF rfl ⟨y,dy,_,rfl,ct.ins,rfl,bI ⟨y,dy,d,kvs,es,rfl,ct,λH1 v s1 rv=>bI λc dc hc S8 Cs=>?_⟩⟩))));have s2:Same H1 (upd (upd H1 dc (.own c)) c (.ins CC dc [])):=λb o e=>by rw[aE (bO e hc),aE (bO e S8)];exact e
 have nN:=s1.trans s2;obtain⟨im,Ej⟩:=Eh haf;refine⟨c,dc,v,es.map ent,AnyB,rfl,bF,rv.same s2 λ_ _=>trivial,im,Ej,by rw[ah];exact hz,?_⟩;have Al:=s1.none hc;generalize Wy:upd (upd H1 dc (.own c)) c (.ins CC dc [])=H2 at s2 nN;unfold ud;rw[haf];intro H3 d3 Ek El k3 Em;refine⟨rfl,?_⟩;have Ai:c≠x:=λz=>by subst z;rw[hx]at Al;cases Al
 have J1:=k3 _ _ (Ne.symm Ai) (nN _ _ hx);have uq:=nN.none El;have J2:=λb o e=>k3 b o (bO e Al) (nN b o e);refine aF rfl ⟨x,HC,dx,[],rfl,J1,hk.cls,hk.a1,by decide,?_⟩;show wS Z (.seq (.fld (.raw 0) "entries" (.lst .nil)) (.seq (.fld (.raw 0) "fates" (.lst .nil)) (.seq (.fld (.raw 0) "last_day" (.aT .aM)) .nil))) D0 [Z9 (.ref x),Z9 (.ref y)] (upd H3 x (.ins HC dx [("courts",.ref c)]));have k4:∀b o,b≠x->H3 b=Z9 o->upd H3 x (.ins HC dx [("courts",.ref c)]) b=Z9 o:=λb o hb e=>by rw[aE hb];exact e
 have x4:upd H3 x (.ins HC dx [("courts",.ref c)]) x=Z9 (.ins HC dx [("courts",.ref c)]):=bF;generalize upd H3 x (.ins HC dx [("courts",.ref c)])=H4 at k4 x4 ⊢;refine vz (rQ (bI ⟨cz _,λle hle=>aF rfl ⟨x,HC,dx,_,rfl,by rw[aE (bO x4 hle)];exact x4,hk.cls,hk.a2,by show 1<1000;decide,?_⟩⟩));have pW:=Ne.symm (bO x4 hle);have k5:∀b o,b≠x->H4 b=Z9 o->upd (upd H4 le (.lst [])) x (.ins HC dx [("courts",.ref c),("entries",.ref le)]) b=Z9 o:=λb o hb e=>by rw[aE hb,aE (bO e hle)];exact e
 have x5:upd (upd H4 le (.lst [])) x (.ins HC dx [("courts",.ref c),("entries",.ref le)]) x=Z9 (.ins HC dx [("courts",.ref c),("entries",.ref le)]):=bF;have l5:upd (upd H4 le (.lst [])) x (.ins HC dx [("courts",.ref c),("entries",.ref le)]) le=Z9 (.lst []):=by rw[aE pW,bF]
 show wS Z (.seq (.fld (.raw 0) "fates" (.lst .nil)) (.seq (.fld (.raw 0) "last_day" (.aT .aM)) .nil)) D0 [Z9 (.ref x),Z9 (.ref y)] (upd (upd H4 le (.lst [])) x (.ins HC dx [("courts",.ref c),("entries",.ref le)]));generalize upd (upd H4 le (.lst [])) x (.ins HC dx [("courts",.ref c),("entries",.ref le)])=H5 at k5 x5 l5 ⊢;refine vz (rQ (bI ⟨cz _,λlf yo=>aF rfl ⟨x,HC,dx,_,rfl,by rw[aE (bO x5 yo)];exact x5,hk.cls,hk.a3,by show 2<1000;decide,?_⟩⟩));have ur:=Ne.symm (bO x5 yo);have k6:∀b o,b≠x->H5 b=Z9 o->upd (upd H5 lf (.lst [])) x (.ins HC dx (pV c le lf)) b=Z9 o:=λb o hb e=>by rw[aE hb,aE (bO e yo)];exact e
 have x6:upd (upd H5 lf (.lst [])) x (.ins HC dx (pV c le lf)) x=Z9 (.ins HC dx (pV c le lf)):=bF;have l6:upd (upd H5 lf (.lst [])) x (.ins HC dx (pV c le lf)) lf=Z9 (.lst []):=by rw[aE ur,bF]
 show wS Z (.seq (.fld (.raw 0) "last_day" (.aT .aM)) .nil) D0 [Z9 (.ref x),Z9 (.ref y)] (upd (upd H5 lf (.lst [])) x (.ins HC dx (pV c le lf)));generalize upd (upd H5 lf (.lst [])) x (.ins HC dx (pV c le lf))=H6 at k6 x6 l6 ⊢;refine vz (z6 λH7 s7=>aF rfl ⟨x,HC,dx,_,rfl,s7 _ _ x6,hk.cls,hk.a4,by show 3<1000;decide,?_⟩);have Am:∀b o,b≠x->H3 b=Z9 o->upd H7 x (.ins HC dx (bT "last_day" .aM (pV c le lf))) b=Z9 o:=λb o hb e=>by rw[aE hb];exact s7 _ _ (k6 b o hb (k5 b o hb (k4 b o hb e)))
 have fresh:∀p,(H4 p=Z8\/H5 p=Z8)->p≠x->H p=none:=λp hp J3=>by
  cases e:H p with
  |none=>rfl
  |some o=>
   have e4:=k4 p o J3 (J2 p o e);rcases hp with hp|hp
   .rw[hp]at e4;cases e4
   .rw[k5 p o J3 e4]at hp;cases hp
 refine q _ _ ⟨dx,c,dc,d3,le,lf,Ek,[]⟩ (λb o hb e=>Am b o hb (J2 b o e)) (λb hb=>?_) Al ⟨⟨.aM,bF,rfl⟩,⟨Am _ _ Ai Em.ins,Am _ _ (λz=>by subst z;rw[hx]at uq;cases uq) Em.fK,aW.keep (λb o e z=>Am b o (λw=>by subst w;rw[J1]at e;cases e;exact z.elim id id) e) (λ_ z=>z) _ Em.re⟩,⟨[],by rw[aE pW];exact s7 _ _ (k6 _ _ pW l5),rfl⟩,by rw[aE ur];exact s7 _ _ l6,⟨rfl,λk a e=>by cases e⟩,List.nodup_nil,bO l5 yo,by simp,by simp⟩;rcases hb with rfl|rfl|rfl|rfl|hb
 .exact .inl rfl
 .exact .inr uq
 .exact .inr (fresh _ (.inl hle) pW)
 .exact .inr (fresh _ (.inr yo) ur)
 .cases hb
theorem J4 (t:D):∀L ft k,L.Nodup->(fL ft L t).getD k []=if k∈L/\k<ft.length then ft.getD k []++[t]else ft.getD k []
 | [],ft,k,_=>by rw[sg (by simp)];rfl
 |i::L,ft,k,nd=>by
  obtain⟨c,d⟩:=du.mp nd;show(fL (ft.set i (ft.getD i []++[t])) L t).getD k []=_;rw[J4 t L _ k d,bx]
  have e:(ft.set i (ft.getD i []++[t])).getD k []=if i=k/\k<ft.length then ft.getD k []++[t]else ft.getD k []:=by
   rw[aa,dz];by_cases a:i=k
   .subst a;by_cases b:i<ft.length
    .rw[sf rfl,sf b,sf ⟨rfl,b⟩];rfl
    .rw[sf rfl,sg b,sg (λz=>b z.2),aa,dq (by omega)]
   .rw[sg a,sg (λz=>a z.1),aa]
  rw[e];by_cases a:i=k
  .subst a;rw[sg (λz=>c z.1)];by_cases b:i<ft.length
   .rw[sf ⟨rfl,b⟩,sf ⟨by simp,b⟩]
   .rw[sg (λz=>b z.2),sg (λz=>b z.2)]
  .rw[sg (λ(z:i=k/\k<ft.length)=>a z.1)];by_cases hm:k∈L/\k<ft.length
   .rw[sf hm,sf ⟨a9 _ hm.1,hm.2⟩]
   .rw[sg hm,sg (λz=>hm ⟨(bh.mp z.1).resolve_left (Ne.symm a),z.2⟩)]
theorem Eo (s w:Str)(r:D):(fll a h s w r).Nodup:=(List.nodup_range.filter _).filter _
theorem S9 (b:k∈fll c h s w r):(h.fa k).length=1:=by have a:=(au.mp ((dm.mp (dm.mp b).1).2)).2;rw[c.s0]at a;exact sx a
theorem Hok.put (ok:Hok a h)(i:h.en.length<1000)(j:a.G r)(l:imm r=Z7)(hc:z1a h.es s=Z7):Hok a (h.put n s w r (fll a h s w r)) where
 len:=by show(fL h.ft _ _++[_]).length=(h.en++[_]).length;rw[ax,ax,JQ,ok.len];rfl
 big:=by show(h.en++[_]).length<=1000;rw[ax];exact i
 gd:=λe b=>by
  rcases bw.mp b with b|b
  .exact ok.gd e b
  .cases az.mp b;exact⟨j,l,hc⟩
 fo:=λf hf=>by
  rcases bw.mp hf with hf|hf
  .obtain⟨k,d⟩:=cj.mp hf;have c:k<h.ft.length:=by have:=(ay.mp d).1;rw[JQ]at this;exact this
   have e:=J4 (z71 n h.en.length) (fll a h s w r) h.ft k (Eo s w r);rw[aa,d]at e;have e:f=if k∈fll a h s w r/\k<h.ft.length then h.ft.getD k []++[z71 n h.en.length]else h.ft.getD k []:=e
   have fo:=ok.fo _ (ar (Hd.eT c));by_cases hm:k∈fll a h s w r
   .rw[sf ⟨hm,c⟩]at e;rw[e];have g:(h.ft.getD k []).length=1:=S9 hm;refine⟨by rw[ax,g];exact ma _ _,by rw[ax,g];exact ae 2,λr hr=>?_⟩;rcases bw.mp hr with hr|hr
    .exact fo.2.2 r hr
    .cases az.mp hr;rfl
   .rw[sg (λz=>hm z.1)]at e;rw[e];exact fo
  .cases az.mp hf;exact⟨ae 1,g8 1,λr hr=>by cases az.mp hr;rfl⟩
abbrev Cw:=Str×Option Str
def hdD:Option Str->D
 |none=>.none
 |some s=>.str s
def cwD (r:Cw):D:=.tuple [.str r.1,hdD r.2]
theorem An (o:Option Str):imm (hdD o)=true:=by cases o<;>rfl
theorem Ep (r:Cw):imm (cwD r)=true:=by show imms [.str r.1,hdD r.2]=Z7;rw[imms,imms,An];rfl
def GoodC (rs:List Cw):Prop:=∀(k:Nat) (s a:Str),rs[k]?=Z9 (s,Z9 a)->a∈(rs.take k).map (·.1)
theorem GoodC.snoc (h:GoodC rs)(f:∀a,o=Z9 a->a∈rs.map (·.1)):GoodC (rs++[(s,o)]):=λk g a e=>by
 by_cases d:k<rs.length
 .rw[c7 d]at e;rw[kl (gn d)];exact h k g a e
 .have b:=(ay.mp e).1;rw[ax,ek]at b;have c:k=rs.length:=by omega
  subst c;rw[b7 (ae _),fy]at e;cases e;rw[kl (ae _),fv];exact f a rfl
def esC (rs:List Cw):bA:=rs.map λr=>(.str r.1,hdD r.2)
abbrev nmC (rs:List Cw):List Str:=rs.map (·.1)
theorem S' (rs:List Cw):(esC rs).map ent=rs.map cwD:=by unfold esC;rw[et];rfl
theorem Ta (rs:List Cw):(esC rs).length=rs.length:=ah ..
theorem yp (h:z0f es k=Z9 w):z0f (es++fs) k=Z9 w:=by
 unfold z0f at *
 rw[qm];obtain⟨e,a,b⟩:=a6.mp h;rw[a];exact congrArg Z9 b
theorem Er (rs:List Cw)(s:Str):z0f (esC rs) (.str s)=(rs.find? λr=>decide (r.1=s)).map λr=>hdD r.2:=by
 unfold z0f esC
 induction rs with
 |nil=>rfl
 |cons r rs a=>
  rw[bn];have b:eqK (ZU r.1) (.str s)=decide (r.1=s):=rfl;rw[fm,fm];rw[b];cases e:decide (r.1=s)with
  |true=>rfl
  |false=>exact a
theorem stC:stN (esC rs) (.str s)=Z7↔s∈nmC rs:=by
 show(z0f (esC rs) (.str s)).isSome=Z7↔_;rw[Er,iy,ql,ce];constructor
 .rintro⟨r,a,b⟩
  exact⟨r,a,sk b⟩
 .rintro⟨r,a,b⟩
  exact⟨r,a,sr b⟩
theorem J5 (h:s∉nmC rs):stN (esC rs) (.str s)=false:=by
 cases e:stN (esC rs) (.str s)with
 |false=>rfl
 |true=>exact absurd (stC.mp e) h
theorem rS:∀{n m:Nat} {s:Str},endN es n s=Z7->n<=m->endN es m s=Z7
 |0,0,s,h,_=>h
 |0,m+1,s,h,_=>by
  unfold endN at h;split at h
  .rename_i e;show(match z0f es (.str s)with|some .none=>Z7|some (.str a)=>endN es m a|_=>Z6)=Z7;rw[e]
  .cases h
 |n+1,0,_,_,h=>by omega
 |n+1,m+1,s,h,hm=>by
  show(match z0f es (.str s)with|some .none=>Z7|some (.str a)=>endN es m a|_=>Z6)=Z7;have h:(match z0f es (.str s)with|some .none=>Z7|some (.str a)=>endN es n a|_=>Z6)=true:=h;split at h
  .rfl
  .exact rS h (Nat.le_of_succ_le_succ hm)
  .cases h
theorem J6:∀{n:Nat} {s:Str},endN es n s=Z7->cX (es++fs) n s=cX es n s/\endN (es++fs) n s=Z7
 |0,s,h=>by
  unfold endN at h;split at h
  .rename_i e;refine⟨rfl,?_⟩;show(match z0f (es++fs) (.str s)with|some .none=>Z7|_=>Z6)=Z7;rw[yp e]
  .cases h
 |n+1,s,h=>by
  unfold endN at h;split at h
  .rename_i e;constructor
   .show(match z0f (es++fs) (.str s)with|some (.str a)=>s::cX (es++fs) n a|_=>[s])=match z0f es (.str s)with|some (.str a)=>s::cX es n a|_=>[s]
    rw[yp e,e]
   .show(match z0f (es++fs) (.str s)with|some .none=>Z7|some (.str a)=>endN (es++fs) n a|_=>Z6)=Z7;rw[yp e]
  .rename_i a e;obtain⟨b,c⟩:=J6 h;constructor
   .show(match z0f (es++fs) (.str s)with|some (.str a)=>s::cX (es++fs) n a|_=>[s])=match z0f es (.str s)with|some (.str a)=>s::cX es n a|_=>[s]
    rw[yp e,e];exact congrArg (s:: ·) b
   .show(match z0f (es++fs) (.str s)with|some .none=>Z7|some (.str a)=>endN (es++fs) n a|_=>Z6)=Z7;rw[yp e];exact c
  .cases h
section
variable {rs:List Cw}
theorem Ao (a:k<rs.length):rs.take (k+1)=rs.take k++[rs[k]]:=by rw[lh,ac a];rfl
theorem J7 (nd:(nmC rs).Nodup)(c:k<rs.length):rs[k].1∉nmC (rs.take k):=λz=>by obtain⟨r,d,e⟩:=ce.mp z;obtain⟨j,a⟩:=cj.mp d;have b:=(ay.mp a).1;rw[d7]at b;rw[jh (by omega)]at a;have:=yl nd (by rw[ao,a];exact congrArg Z9 e) (by rw[ao,ac c];rfl);omega
theorem Tb (nd:(nmC rs).Nodup)(g:GoodC rs)(b:k<rs.length):hX (esC (rs.take k)) (.str rs[k].1) (hdD rs[k].2)=true:=by
 have c:(z0f (esC (rs.take k)) (.str rs[k].1)).isSome=false:=J5 (J7 nd b);unfold hX;rw[c];cases e:rs[k].2 with
 |none=>rfl
 |some a=>have:=g k rs[k].1 a (by rw[ac b,<-e]);show(Z7&&(Z6||stN (esC (rs.take k)) (.str a)))=Z7;rw[stC.mpr this];rfl
theorem yq (nd:(nmC rs).Nodup)(g:GoodC rs):∀k,k<=rs.length->∀s∈nmC (rs.take k),endN (esC (rs.take k)) k s=Z7
 |0,_,s,h=>by cases h
 |k+1,c,s,h=>by
  have b:=c;have e:esC (rs.take (k+1))=esC (rs.take k)++[(.str rs[k].1,hdD rs[k].2)]:=by rw[Ao b];unfold esC;rw[cq];rfl
  have old:∀t∈nmC (rs.take k),endN (esC (rs.take (k+1))) k t=true:=λt d=>by rw[e];exact(J6 (yq nd g k (gn b) t d)).2
  rw[Ao b]at h;have h:s∈nmC (rs.take k)++[rs[k].1]:=by rw[<-List.map_singleton,<-cq];exact h
  rcases bw.mp h with h|h
  .exact rS (old s h) (g8 _)
  .have hs:s=rs[k].1:=az.mp h
   have hn:z0f (esC (rs.take (k+1))) (.str s)=Z9 (hdD rs[k].2):=by
    rw[Er,Ao b,qm];have:(rs.take k).find? (λr=>decide (r.1=s))=none:=by rw[lj];intro r hr z;exact J7 nd b (ce.mpr ⟨r,hr,(sk z).trans hs⟩)
    rw[this,Option.none_or,fm,show decide (rs[k].1=s)=Z7 from sr hs.symm];rfl
   show(match z0f (esC (rs.take (k+1))) (.str s)with|some .none=>Z7|some (.str a)=>endN (esC (rs.take (k+1))) k a|_=>Z6)=Z7;rw[hn];cases f:rs[k].2 with
   |none=>rfl
   |some a=>exact old a (g k rs[k].1 a (by rw[ac b,<-f]))
theorem Es (nd:(nmC rs).Nodup)(g:GoodC rs)(b:rs.length<=999)(a:k<=rs.length)(h:s∈nmC (rs.take k)):z1a (esC (rs.take k)) s=true:=by unfold z1a;rw[stC.mpr h,rS (yq nd g k a s h) (show k<=999 by omega)];rfl
theorem J8 (nd:(nmC rs).Nodup)(g:GoodC rs):∀k,k<=rs.length->z0m [] ((rs.take k).map cwD)=Z9 (esC (rs.take k))
 |0,_=>rfl
 |k+1,hk=>by
  have Et:=hk;have ih:=J8 nd g k (gn Et)
  have app:∀{ps:List D} {rT es:bA} {c a:D},z0m rT ps=Z9 es->hX es c a=Z7->z0m rT (ps++[.tuple [c,a]])=Z9 (es++[(c,a)]):=λ{ps}=>by
   induction ps with
   |nil=>intro rT es c a e ho;cases e;show(if hX rT c a=Z7 then z0m (rT++[(c,a)]) []else Z8)=_;rw[sf ho];rfl
   |cons p ps ih=>
    intro rT es c a e ho;unfold z0m at e;split at e
    .rename_i c' a';split at e
     .rename_i h9;show(if hX rT c' a'=Z7 then z0m (rT++[(c',a')]) (ps++[.tuple [c,a]])else Z8)=_;rw[sf h9];exact ih e ho
     .cases e
    .cases e
  rw[Ao Et,cq];refine(app ih (Tb nd g Et)).trans ?_;unfold esC;rw[cq];rfl
end
namespace Hl
abbrev rF:WS:=.seq (.ret (.aT (.bl Z6))) .nil
end Hl
theorem dI (q:wE Z e a H λv H1=>wS Z b c (a.set i (Z9 v)) H1):wS Z (.seq (.asg i e) b) c a H:=q
theorem Tc (q:∀E,(∀C dp y a,Z.mg c=Z9 (.ref C)->a dp=Z9 (.xd [(fl,y)])->wS {Z with E:=λ_ _ _=>False,xf:=Z9 y} h ⟨λd e=>wS Z rest D0 (d.set i Z8) e,D0.rt,λ_ _=>False,λ_ _=>False⟩ ((oG (sets b) 0 σ).set i Z8) (jE a dp)->E (.ref C) (Z9 dp) a)->wS {Z with E:=E} b ⟨wS Z rest D0,D0.rt,λ_ _=>False,λ_ _=>False⟩ σ H):wS Z (.seq (.t8 b c fl h i) rest) D0 σ H:=q _ λC dp y _ f g j=>⟨C,f,rfl,dp,y,rfl,g,j⟩
theorem Td (q:∀E,(∀C d a,Z.mg c=Z9 (.ref C)->wS {Z with E:=λ_ _ _=>False,xf:=Z8} h ⟨wS Z rest D0,D0.rt,λ_ _=>False,λ_ _=>False⟩ (oG (sets b) 0 σ) a->E (.ref C) d a)->wS {Z with E:=E} b ⟨wS Z rest D0,D0.rt,λ_ _=>False,λ_ _=>False⟩ σ H):wS Z (.seq (.t9 b c h) rest) D0 σ H:=q _ λC _ _ e f=>⟨C,e,rfl,f⟩
theorem Te (s:Same H a)(hd:H d=Z8):Same H (jE a d):=λb o e=>by unfold jE;rw[sg (bO e hd)];exact s b o e
theorem bP (q:wS Z a {c with nx:=wS Z b c} σ H):wS Z (.seq a b) c σ H:=q
theorem dD (q:wT Z c σ H λk H1=>if k=Z7 then wS Z a D0 σ H1 else wS Z b D0 σ H1):wS Z (.ifS c a b) D0 σ H:=q
theorem bV (Z:Wc)(q:a.nx b H):wS Z .nil a b H:=q
theorem pX (q:wE Z e a H c.rt):wS Z (.seq (.ret e) b) c a H:=q
theorem Tf (ks:List Nat):shal 40 (.list (z0d ks))=true:=qM.mpr λx a=>by obtain⟨k,_,rfl⟩:=ce.mp a;rfl
theorem J9 (q:∀a,Same H a->Q (.bl b) a):wE Z (.aT (.bl b)) e H Q:=⟨_,F0 H,(.fr,.bool b),lK,rfl,λv c d r=>by cases r;exact q c d⟩
end Mi
namespace Mk
open PySem Mi
def yr:S:=(.seq (.asg (.nm 2) (.agg "dict" (.tv (.var 1))))
 (.seq (.ret (.comp 2 [2] ["name","amount","held"] (.tp [0,1]) (.tv (.var 0)) (.tv (.cmp .Gt (.var 1) (.mt "get" (.var 2) (.cons (.var 0) (.cons (.int 0) .nil))))) (.var 0)))
 .nil))
def uu:Fn:=aR [] [] 3 yr
def yt:S:=(.seq (.ret (.cmp .Eq (.call 0 "over" (.cons (.var 0) (.cons (.var 1) .nil))) (.lst .nil))) .nil)
def nO:Fn:=aR [] [uu] 2 yt
def yu:S:=(.seq (.ifS (.not (.and (.tv (.gZ (.var 0) ["str"])) (.tv (.cmp .In (.var 0) (.tup (.cons (.str "for") (.cons (.str "against") .nil)))))))
 (.seq .bad
 .nil)
 .nil)
 .nil)
def uw:Fn:=aR [] [] 1 yu
def yw:S:=(.seq (.drop (.call 0 "check_side" (.cons (.var 1) .nil)))
 (.seq (.ret (.sZ (.tv (.cmp .Eq (.var 1) (.str "for"))) (.ix (.var 0) (.int 0)) (.ix (.var 0) (.int 1))))
 .nil))
def nQ:Fn:=aR [] [uw] 2 yw
def yx:S:=(.seq (.ifS (.not (.tv (.call 0 "within" (.cons (.var 2) (.cons (.call 1 "side_of" (.cons (.var 0) (.cons (.var 1) .nil))) .nil)))))
 (.seq .bad
 .nil)
 .nil)
 (.seq (.ret (.tup (.cons (.var 0) (.cons (.var 1) (.cons (.var 2) .nil)))))
 .nil))
def pY:Fn:=aR [] [nO,nQ] 3 yx
def yy:S:=(.seq (.ret (.and (.cmp .NotEq (.ix (.var 0) (.int 1)) (.ix (.var 1) (.int 1))) (.and (.call 0 "within" (.cons (.ix (.var 0) (.int 2)) (.cons (.call 1 "side_of" (.cons (.ix (.var 1) (.int 0)) (.cons (.ix (.var 0) (.int 1)) .nil))) .nil))) (.call 0 "within" (.cons (.ix (.var 1) (.int 2)) (.cons (.call 1 "side_of" (.cons (.ix (.var 0) (.int 0)) (.cons (.ix (.var 1) (.int 1)) .nil))) .nil)))))) .nil)
def gQ:Fn:=aR [] [nO,nQ] 2 yy
def yz:S:=(.seq (.aV (.tp [2,3]) (.enum (.var 0))
 (.seq (.ifS (.tv (.call 0 "against" (.cons (.var 3) (.cons (.var 1) .nil))))
 (.seq (.ret (.var 2))
 .nil)
 .nil)
 .nil))
 (.seq (.ret .aM)
 .nil))
def pZ:Fn:=aR [] [gQ] 4 yz
def yA:S:=(.seq (.ifS (.tv (.hD Z6 (.var 1)))
 (.seq (.ret (.cmp .Eq (.bi "len" (.cons (.var 0) .nil)) (.int 1)))
 .nil)
 .nil)
 (.seq (.ret (.and (.cmp .LtE (.ix (.ix (.var 0) (.int 0)) (.int 1)) (.var 1)) (.or (.cmp .Eq (.bi "len" (.cons (.var 0) .nil)) (.int 1)) (.cmp .Gt (.ix (.ix (.var 0) (.int 1)) (.int 1)) (.var 1)))))
 .nil))
def qz:Fn:=aR [] [] 2 yA
def yB:S:=(.seq (.ifS (.tv (.cmp .Lt (.var 1) (.bi "len" (.cons (.var 0) .nil))))
 (.seq (.ret (.ix (.var 0) (.var 1)))
 .nil)
 .nil)
 (.seq (.ret (.int 0))
 .nil))
def nR:Fn:=aR [] [] 2 yB
def yC:S:=(.seq (.asg (.nm 2) (.bin .Mod (.bin .Mult (.bin .Add (.bin .Add (.bin .Add (.bin .Mod (.var 0) (.int 2147483647)) (.bin .Mult (.bin .Mult (.int 7919) (.var 1)) (.var 1))) (.bin .Mult (.var 1) (.var 1))) (.int 1)) (.int 48271)) (.int 2147483629)))
 (.seq (.ret (.bin .Mod (.bin .Mult (.var 2) (.var 2)) (.int 2147483587)))
 .nil))
def dJ:Fn:=aR [] [] 3 yC
def J':S:=(.seq (.ifS (.tv (.var 2))
 (.seq (.ret (.tup (.cons (.ix (.var 0) (.var 1)) (.cons (.bl Z7) .nil))))
 .nil)
 .nil)
 (.seq (.ret (.tup (.cons (.call 0 "_law_mix" (.cons (.ix (.var 0) (.var 1)) (.cons (.var 1) .nil))) (.cons (.bl Z6) .nil))))
 .nil))
def Eu:Fn:=aR [] [dJ] 3 J'
def Ew:S:=(.seq (.asg (.tp [2,3]) (.var 0))
 (.seq (.ifS (.not (.tv (.var 3)))
 (.seq (.ret (.bin .Mod (.call 0 "_law_mix" (.cons (.var 2) (.cons (.var 1) .nil))) (.int 60)))
 .nil)
 .nil)
 (.seq (.aV (.nm 4) (.eF (.cons (.var 1) .nil))
 (.seq (.asg (.nm 2) (.bin .FloorDiv (.var 2) (.int 60)))
 .nil))
 (.seq (.ret (.bin .Mod (.var 2) (.int 60)))
 .nil))))
def jG:Fn:=aR [] [dJ] 5 Ew
def Ex:S:=(.seq (.asg (.nm 2) (.str "abcdefghijklmnopqrstuvwxyz"))
 (.seq (.asg (.nm 3) (.mt "join" (.str "") (.cons (.comp 1 [2,0] ["_law_k","_law_letters","_law_cell_here"] (.nm 0) (.eF (.cons (.bin .Mod (.call 0 "_law_mix" (.cons (.var 0) (.cons (.int 29) .nil))) (.int 10)) .nil)) .nil (.ix (.var 1) (.bin .Mod (.call 0 "_law_mix" (.cons (.var 2) (.cons (.bin .Add (.int 30) (.var 0)) .nil))) (.int 26)))) .nil)))
 (.seq (.asg (.nm 4) (.bin .Mod (.call 0 "_law_mix" (.cons (.var 0) (.cons (.int 28) .nil))) (.bin .Add (.bi "len" (.cons (.var 3) .nil)) (.int 1))))
 (.seq (.asg (.nm 5) (.lst (.cons (.str "j") (.cons (.str "q") (.cons (.str "v") (.cons (.str "x") (.cons (.str "z") (.cons (.str "jz") (.cons (.str "qz") (.cons (.str "vz") (.cons (.str "xz") (.cons (.str "zj") .nil))))))))))))
 (.seq (.ret (.comp 1 [3,5,4,0] ["_law_k","_law_base","_law_signs","_law_at","_law_cell_here"] (.nm 0) (.eF (.cons (.var 1) .nil)) .nil (.bin .Add (.bin .Add (.sl (.var 1) .nil (.tv (.var 3))) (.ix (.var 2) (.bin .Mod (.bin .Add (.var 0) (.var 4)) (.int 10)))) (.sl (.var 1) (.tv (.var 3)) .nil))))
 .nil)))))
def Ey:Fn:=aR [] [dJ] 6 Ex
def Ka:S:=(.seq (.ret (.ix (.lst (.cons (.int 0) (.cons (.int 1) (.cons (.int 2) (.cons (.var 1) (.cons (.bin .Add (.var 1) (.int 1)) (.cons (.int 0) .nil))))))) (.bin .Mod (.var 0) (.int 6)))) .nil)
def ux:Fn:=aR [] [] 2 Ka
def Kb:S:=(.seq (.asg (.nm 4) (.comp 1 [0,3,1,2] ["_law_k","_law_names_here","_law_great_here","_law_cell_here","_law_at"] (.nm 0) (.eF (.cons (.bi "len" (.cons (.var 0) .nil)) .nil)) .nil (.tup (.cons (.ix (.var 1) (.var 0)) (.cons (.call 0 "_law_degree" (.cons (.call 1 "_law_pick" (.cons (.var 3) (.cons (.bin .Add (.var 4) (.var 0)) .nil))) (.cons (.var 2) .nil))) .nil)))))
 (.seq (.ret (.agg "tuple" (.tv (.agg "sorted" (.tv (.comp 1 [] ["_law_pair"] (.nm 0) (.tv (.var 4)) (.tv (.cmp .Gt (.ix (.var 0) (.int 1)) (.int 0))) (.var 0)))))))
 .nil))
def vA:Fn:=aR [] [ux,jG] 5 Kb
def Kc:S:=(.seq (.asg (.nm 2) (.agg "dict" (.tv (.var 1))))
 (.seq (.aV (.tp [3,4]) (.tv (.var 0))
 (.seq (.ifS (.tv (.cmp .Gt (.var 4) (.mt "get" (.var 2) (.cons (.var 3) (.cons (.int 0) .nil)))))
 (.seq (.ret (.bl Z6))
 .nil)
 .nil)
 .nil))
 (.seq (.ret (.bl Z7))
 .nil)))
def vC:Fn:=aR [] [] 5 Kc
def Ke:S:=(.seq (.asg (.nm 2) (.agg "dict" (.tv (.var 1))))
 (.seq (.asg (.nm 3) (.comp 1 [2] ["_law_pair","_law_some"] (.nm 0) (.tv (.var 0)) .nil (.tup (.cons (.ix (.var 0) (.int 0)) (.cons (.bi "min" (.cons (.ix (.var 0) (.int 1)) (.cons (.mt "get" (.var 1) (.cons (.ix (.var 0) (.int 0)) (.cons (.int 0) .nil))) .nil))) .nil)))))
 (.seq (.ret (.agg "tuple" (.tv (.comp 1 [] ["_law_pair"] (.nm 0) (.tv (.var 3)) (.tv (.cmp .Gt (.ix (.var 0) (.int 1)) (.int 0))) (.var 0)))))
 .nil)))
def yD:Fn:=aR [] [] 4 Ke
def Kg:S:=(.seq (.ifS (.tv (.var 1))
 (.seq (.ret (.bin .Add (.int 3) (.bin .Mod (.bin .FloorDiv (.var 0) (.int 60)) (.bin .Sub (.bin .Pow (.int 10) (.int 30)) (.int 4)))))
 .nil)
 .nil)
 (.seq (.ret (.bin .Add (.int 3) (.bin .Mod (.bin .Mult (.bin .Mult (.bin .Mult (.call 0 "_law_mix" (.cons (.var 0) (.cons (.int 50) .nil))) (.call 0 "_law_mix" (.cons (.var 0) (.cons (.int 51) .nil)))) (.call 0 "_law_mix" (.cons (.var 0) (.cons (.int 52) .nil)))) (.call 0 "_law_mix" (.cons (.var 0) (.cons (.int 53) .nil)))) (.bin .Sub (.bin .Pow (.int 10) (.int 30)) (.int 4)))))
 .nil))
def Ez:Fn:=aR [] [dJ] 2 Kg
def Kh:S:=(.seq (.ret (.tup (.cons (.call 0 "_law_pack" (.cons (.sl (.var 0) .nil (.tv (.int 2))) (.cons (.var 1) (.cons (.var 2) (.cons (.var 3) .nil))))) (.cons (.call 0 "_law_pack" (.cons (.sl (.var 0) (.tv (.int 1)) (.tv (.int 3))) (.cons (.var 1) (.cons (.bin .Add (.var 2) (.int 2)) (.cons (.var 3) .nil))))) .nil)))) .nil)
def yE:Fn:=aR [] [vA] 4 Kh
def Ki:S:=(.seq (.ret (.ix (.var 0) (.bi "int" (.cons (.cmp .Eq (.var 1) (.str "against")) .nil)))) .nil)
def qA:Fn:=aR [] [] 2 Ki
def Kj:S:=(.seq (.ifS (.tv (.cmp .Eq (.ix (.var 0) (.int 1)) (.ix (.var 1) (.int 1))))
 (.seq (.ret (.bl Z6))
 .nil)
 .nil)
 (.seq (.ifS (.not (.tv (.call 0 "_law_within" (.cons (.ix (.var 0) (.int 2)) (.cons (.call 1 "_law_side" (.cons (.ix (.var 1) (.int 0)) (.cons (.ix (.var 0) (.int 1)) .nil))) .nil)))))
 (.seq (.ret (.bl Z6))
 .nil)
 .nil)
 (.seq (.ret (.call 0 "_law_within" (.cons (.ix (.var 1) (.int 2)) (.cons (.call 1 "_law_side" (.cons (.ix (.var 0) (.int 0)) (.cons (.ix (.var 1) (.int 1)) .nil))) .nil))))
 .nil)))
def lN:Fn:=aR [] [vC,qA] 2 Kj
def EA:S:=(.seq (.asg (.nm 3) (.call 4 "_law_case" (.cons (.var 0) (.cons (.var 1) (.cons (.int 4) (.cons (.var 2) .nil))))))
 (.seq (.asg (.nm 4) (.ix (.lst (.cons (.str "for") (.cons (.str "against") .nil))) (.bin .Mod (.call 0 "_law_pick" (.cons (.var 1) (.cons (.int 8) .nil))) (.int 2))))
 (.seq (.asg (.nm 5) (.call 3 "_law_side" (.cons (.var 3) (.cons (.var 4) .nil))))
 (.seq (.ifS (.tv (.cmp .Gt (.bin .Mod (.call 0 "_law_pick" (.cons (.var 1) (.cons (.int 9) .nil))) (.int 3)) (.int 0)))
 (.seq (.asg (.nm 5) (.call 1 "_law_meet" (.cons (.var 5) (.cons (.call 2 "_law_pack" (.cons (.sl (.var 0) .nil (.tv (.int 3))) (.cons (.var 1) (.cons (.int 10) (.cons (.var 2) .nil))))) .nil))))
 .nil)
 .nil)
 (.seq (.ret (.tup (.cons (.var 3) (.cons (.var 4) (.cons (.var 5) .nil)))))
 .nil)))))
def EB:Fn:=aR [] [jG,yD,vA,qA,yE] 6 EA
def Kk:S:=(.seq (.asg (.nm 2) (.lst (.cons (.tup (.cons (.ix (.var 1) (.int 0)) (.cons .aM .nil))) .nil)))
 (.seq (.aV (.nm 3) (.eF (.cons (.int 1) (.cons (.int 5) .nil)))
 (.seq (.asg (.nm 4) (.bin .Add (.bin .Add (.lst (.cons .aM .nil)) (.comp 1 [] ["_law_row"] (.nm 0) (.tv (.var 2)) .nil (.ix (.var 0) (.int 0)))) (.lst (.cons (.ix (.ix (.var 2) (.neg (.int 1))) (.int 0)) .nil))))
 (.seq (.mut "append" 2 (.cons (.tup (.cons (.ix (.var 1) (.var 3)) (.cons (.ix (.var 4) (.bin .Mod (.call 0 "_law_pick" (.cons (.var 0) (.cons (.var 3) .nil))) (.bi "len" (.cons (.var 4) .nil)))) .nil))) .nil))
 .nil)))
 (.seq (.ret (.var 2))
 .nil)))
def Ap:Fn:=aR [] [jG] 5 Kk
def Kl:S:=(.seq (.asg (.nm 2) (.agg "dict" (.tv (.var 0))))
 (.seq (.asg (.nm 3) (.lst (.cons (.var 1) .nil)))
 (.seq (.wh 100000 (.tv (.hD Z7 (.ix (.var 2) (.ix (.var 3) (.neg (.int 1))))))
 (.seq (.mut "append" 3 (.cons (.ix (.var 2) (.ix (.var 3) (.neg (.int 1)))) .nil))
 .nil))
 (.seq (.ret (.var 3))
 .nil))))
def EC:Fn:=aR [] [] 4 Kl
def Km:S:=(.seq (.aV (.nm 2) (.tv (.var 0))
 (.seq (.aV (.nm 3) (.tv (.var 0))
 (.seq (.ifS (.and (.tv (.cmp .Lt (.var 2) (.var 3))) (.tv (.call 0 "_law_clash" (.cons (.ix (.ix (.var 1) (.var 2)) (.int 2)) (.cons (.ix (.ix (.var 1) (.var 3)) (.int 2)) .nil)))))
 (.seq (.ret (.bl Z6))
 .nil)
 .nil)
 .nil))
 .nil))
 (.seq (.ret (.bl Z7))
 .nil))
def ED:Fn:=aR [] [lN] 4 Km
open PySem.Spec PyProof.Rows L2
namespace L5
abbrev kS (a b:W):W:=.cons a (.cons b .nil)
abbrev EE (c w:Nat):W:=.hV (.raw 0) 0 (kS (.raw c) (.raw w))
abbrev kT (t i k:C):C:=.ix (.ix t i) k
abbrev yF (a b:C):C:=.call 0 "_law_clash" (.cons a (.cons b .nil))
abbrev Kn:WS:=.seq (.asg 11 (.aT (.lst (.cons (.tup (.cons (.str "entered") (.cons (kT (.var 3) (.var 10) (.int 3)) (.cons (.var 5) .nil)))) .nil)))) (.seq (.ifS (.tp (.and (.tv (.cmp .Eq (kT (.var 3) (.var 10) (.int 0)) (.var 7))) (.tv (.cmp .Eq (kT (.var 3) (.var 10) (.int 1)) (.var 11))))) (.seq (.app (.raw 9) (.raw 10)) .nil) .nil) .nil)
abbrev EF:C:=.comp 1 [3] ["_law_number","_law_told"] (.nm 0) (.tv (.var 8)) .nil (.ix (.ix (.var 1) (.var 0)) (.int 2))
abbrev Kq:WS:=.seq (.asg 8 (EE 5 7)) (.seq (.asg 9 (.lst .nil))
 (.seq (.aV (.nm 10) (.eF (.cons (.bi "len" (.cons (.var 3) .nil)) .nil)) Kn)
 (.seq (.asg 12 (.lst .nil))
 (.seq (.ifS (.ti Z7 (.raw 6)) (.seq (.asg 12 (EE 6 7)) .nil) .nil)
 (.seq (.ifS (.tp (.tv (.cmp .NotEq (.var 8) (.agg "sorted" (.tv (.bin .Add (.var 12) (.var 9))))))) Hl.rF .nil)
 (.seq (.ifS (.tc .NotEq (.bE (.raw 0) 0 (kS (.raw 5) (.raw 7))) (.aT EF)) Hl.rF .nil)
 (.seq (.ifS (.tp (.and (.tv (.cmp .In (.var 5) (.var 4))) (.not (.tv (.call 0 "_law_apart" (.cons (.var 8) (.cons (.var 3) .nil))))))) Hl.rF .nil) .nil)))))))
def wg:WS:=.seq (.aV (.tp [5,6]) (.tv (.var 1)) (.seq (.aV (.nm 7) (.tv (.var 2)) Kq) .nil)) (.seq (.ret (.aT (.bl Z7))) .nil)
def ng:WS:=.seq (.asg 4 (EE 1 2)) (.seq (.aV (.nm 5) (.tv (.var 4)) (.seq (.ifS (.tp (.tv (yF (kT (.var 3) (.var 5) (.int 2)) (kT (.var 3) (.ix (.var 4) (.neg (.int 1))) (.int 2))))) Hl.rF .nil) .nil)) (.seq (.ret (.aT (.bl Z7))) .nil))
abbrev Aq (s:String):C:=.cmp .Eq (.ix (.var 3) (.int 0)) (.str s)
abbrev rV (i:Nat):C:=.ix (.var i) (.neg (.int 1))
abbrev Th:WS:=.seq (.asg 9 (.aT (.call 1 "_law_line" (.cons (.var 1) (.cons (.ix (.ix (.var 8) (.int 0)) (.int 2)) .nil)))))
 (.seq (.ifS (.tp (.or (.tv (.cmp .NotEq (rV 7) (.tup (.cons (.str "fell") (.cons (.var 5) (.cons (.var 4) .nil)))))) (.or (.tv (.cmp .NotEq (.ix (.var 3) (.int 2)) (kT (.var 2) (.var 6) (.int 0)))) (.tv (.cmp .NotIn (.ix (.var 3) (.int 1)) (.sl (.var 9) (.tv (.int 1)) .nil)))))) Hl.rF .nil)
 (.seq (.ifS (.tp (.not (.tv (yF (kT (.var 2) (.var 6) (.int 2)) (.ix (.var 3) (.int 3)))))) Hl.rF .nil) .nil))
abbrev Kr:WS:=.seq (.ifS (.tp (.or (.tv (Aq "none")) (.or (.not (.tv (.gZ (.var 7) ["list"]))) (.or (.tv (.cmp .NotEq (.sl (.var 7) .nil (.tv (.neg (.int 1)))) (.var 8))) (.tv (.cmp .NotEq (.bi "len" (.cons (.var 8) .nil)) (.int 1))))))) Hl.rF .nil)
 (.seq (.ifS (.tp (.and (.tv (Aq "overrule")) (.or (.tv (.cmp .NotEq (.var 6) (.var 4))) (.tv (.cmp .NotEq (rV 7) (.tup (.cons (.str "overruled") (.cons (.var 5) (.cons (.ix (.var 3) (.int 1)) .nil))))))))) Hl.rF .nil)
 (.seq (.ifS (.tp (.tv (Aq "enter"))) Th .nil)
 (.seq (.put (.lH (.raw 2) (.raw 6)) (.aT (.int 1)) (.raw 7)) .nil)))
abbrev Ti:WS:=.seq (.asg 7 (.bE (.raw 0) 0 (.cons (.raw 6) .nil))) (.seq (.asg 8 (.lH (.lH (.raw 2) (.raw 6)) (.aT (.int 1)))) (.seq (.ifS (.tp (.tv (.cmp .NotEq (.var 7) (.var 8)))) Kr .nil) .nil))
def fg:WS:=.seq (.aV (.nm 6) (.eF (.cons (.bi "len" (.cons (.var 2) .nil)) .nil)) Ti) (.seq (.ret (.aT (.bl Z7))) .nil)
abbrev Ks (k:Int):W:=.aT (.ix (.var 2) (.int k))
abbrev d3:C:=.ix (.var 2) (.int 3)
def rg:WS:=.seq (.asg 4 (.hV (.raw 0) 0 (kS (Ks 1) (Ks 2))))
 (.seq (.ifS (.tp (.or (.tv (.cmp .NotIn (.var 3) (.var 4))) (.not (.tv (yF d3 (kT (.var 1) (.var 3) (.int 2))))))) Hl.rF .nil)
 (.seq (.aV (.nm 5) (.tv (.var 4)) (.seq (.ifS (.tp (.and (.tv (.cmp .Lt (.var 5) (.var 3))) (.tv (yF d3 (kT (.var 1) (.var 5) (.int 2)))))) Hl.rF .nil) .nil)) (.seq (.ret (.aT (.bl Z7))) .nil)))
abbrev ex (k:Int):W:=.aT (.ix (.var 3) (.int k))
abbrev uy (k:Int):W:=.aT (.ix (.ix (.var 3) (.int 3)) (.int k))
abbrev Tj:WS:=.seq (.asg 5 (.bE (.raw 0) 0 (.cons (.raw 4) (.cons (ex 1) (.cons (ex 2) (.cons (uy 0) (.cons (uy 1) (.cons (uy 2) .nil)))))))) .nil
abbrev Tn:WS:=.seq (.asg 6 (.iF "by")) .nil
abbrev Kt:WS:=.seq (.ret (.and (.fJ 0 (.cons (.raw 0) (.cons (.raw 2) (.cons (.raw 3) (.cons (.raw 6) .nil))))) (.fJ 1 (.cons (.raw 0) (.cons (.raw 1) (.cons (.raw 2) (.cons (.aT (.tup (.cons (.str "none") .nil))) (.cons (.aT (.neg (.int 1))) (.cons (.raw 4) .nil))))))))) .nil
abbrev Ku:WS:=.seq (.ifS (.tV (.tp (.tv (.cmp .NotEq (.var 5) (.bi "len" (.cons (.var 2) .nil))))) (.tc .NotEq (.bE (.raw 0) 1 (.cons (.raw 5) .nil)) (.aT (.lst (.cons (.tup (.cons (.str "entered") (.cons (.var 4) (.cons (.ix (.var 3) (.int 1)) .nil)))) .nil))))) Hl.rF .nil)
 (.seq (.ifS (.tc .NotEq (.bE (.raw 0) 2 (.cons (.raw 5) .nil)) (ex 3)) Hl.rF .nil)
 (.seq (.ifS (.tV (.tc .NotIn (.raw 5) (.hV (.raw 0) 0 (kS (ex 1) (ex 2)))) (.not (.jD (.fJ 1 (.cons (.raw 0) (.cons (.raw 1) (.cons (.raw 2) (.cons (.raw 3) (.cons (.raw 5) (.cons (.raw 4) .nil)))))))))) Hl.rF .nil)
 (.seq (.app (.raw 2) (.lst (.cons (ex 2) (.cons (.bE (.raw 0) 1 (.cons (.raw 5) .nil)) (.cons (ex 3) (.cons (.raw 4) .nil)))))) (.seq (.ret (.aT (.bl Z7))) .nil))))
def en:WS:=.seq (.asg 5 (.aT (.neg (.int 1)))) (.seq (.asg 6 (.aT .aM)) (.seq (.t8 Tj "NotAllowed" "by" Tn 7) (.seq (.ifS (.ti Z7 (.raw 6)) Kt .nil) Ku)))
abbrev vD:C:=kT (.var 2) (.var 3) (.int 1)
abbrev To:WS:=.seq (.exp (.bE (.raw 0) 0 (.cons (.raw 4) (.cons (.raw 5) (.cons (.raw 3) .nil))))) .nil
def gT:WS:=.seq (.asg 5 (.aT (.ix (.ix vD (.int 0)) (.int 2)))) (.seq (.asg 6 (.aT (.bl Z7)))
 (.seq (.t9 To "NoRuling" (.seq (.asg 6 (.aT (.bl Z6))) .nil))
 (.seq (.ifS (.tp (.tv (.cmp .NotEq (.var 6) (.cmp .Eq (.bi "len" (.cons vD .nil)) (.int 1))))) Hl.rF .nil)
 (.seq (.ifS (.fV (.tp (.tv (.var 6))) (.tc .Eq (.bE (.raw 0) 1 (.cons (.raw 3) .nil)) (.aT vD))) Hl.rF .nil)
 (.seq (.ret (.fJ 0 (.cons (.raw 0) (.cons (.raw 1) (.cons (.raw 2) (.cons (.aT (.tup (.cons (.str "overrule") (.cons (.var 5) .nil)))) (.cons (.raw 3) (.cons (.raw 4) .nil)))))))) .nil)))))
abbrev ca (k:Int):C:=.call 0 "_law_cell_at" (.cons (.var 0) (.cons (.int k) .nil))
abbrev uz (k:Int):C:=.call 5 "_law_pick" (.cons (.var 9) (.cons (.int k) .nil))
abbrev bR (k:Int):C:=.ix (.var 1) (.bin .Mod (uz k) (.int 5))
abbrev EG (k:Int):C:=.ix (.var 1) (.bin .Add (.int 5) (.bin .Mod (uz k) (.int 2)))
abbrev Tq:C:=.lst (.cons (.int 0) (.cons (.int 0) (.cons (.int 1) (.cons (.int 2) (.cons (.bin .Pow (.int 10) (.int 20)) .nil)))))
abbrev Tr:WS:=.seq (.asg 10 (.fJ 1 (.cons (.raw 5) (.cons (.raw 4) (.cons (.raw 6) (.cons (.aT (.bin .Mod (uz 20) (.bi "len" (.cons (.var 6) .nil)))) (.cons (.raw 7) .nil))))))) .nil
abbrev Ts:WS:=.seq (.asg 11 (.aT (.call 6 "_law_ruling" (.cons (.var 1) (.cons (.var 9) (.cons (.var 3) .nil))))))
 (.seq (.asg 12 (.aT (.tup (.cons (.str "enter") (.cons (bR 2) (.cons (EG 3) (.cons (.var 11) .nil)))))))
 (.seq (.asg 10 (.fJ 0 (.cons (.raw 5) (.cons (.raw 4) (.cons (.raw 6) (.cons (.raw 12) (.cons (.raw 7) .nil))))))) .nil))
abbrev k2 (i:Int):C:=.bin .Add (.int i) (.bin .Mod (.var 8) (.int 2))
abbrev EH:WS:=.seq (.ifS (.not (.jD (.raw 10))) Hl.rF .nil)
 (.seq (.ifS (.not (.jD (.fJ 2 (.cons (.raw 5) (.cons (.aT (bR 21)) (.cons (.aT (EG 22)) (.cons (.raw 6) .nil))))))) Hl.rF .nil)
 (.seq (.ifS (.not (.jD (.fJ 3 (.cons (.raw 5) (.cons (.raw 4) (.cons (.aT (.sl (.var 1) (.tv (k2 5)) (.tv (k2 6)))) (.cons (.raw 6) (.cons (.lst .nil) .nil)))))))) Hl.rF .nil) .nil))
abbrev EI:WS:=.seq (.asg 9 (.aT (.call 4 "_law_cell" (.cons (.var 0) (.cons (.var 8) (.cons (.var 2) .nil))))))
 (.seq (.asg 7 (.aT (.bin .Add (.var 7) (.ix Tq (.bin .Mod (uz 1) (.int 5))))))
 (.seq (.ifS (.tp (.and (.tv (.cmp .Eq (.bin .Mod (uz 0) (.int 5)) (.int 0))) (.tv (.cmp .Gt (.bi "len" (.cons (.var 6) .nil)) (.int 0))))) Tr Ts) EH))
abbrev it:C:=.eF (.cons (.int 2) (.cons (.bi "min" (.cons (.bi "len" (.cons (.var 0) .nil)) (.cons (.int 62) .nil))) .nil))
abbrev Kv:C:=.comp 1 [1,0] ["_law_k","_law_names_here","_law_script"] (.nm 0) (.eF (.cons (.int 2) .nil)) .nil (.ix (.var 1) (.bin .Mod (.call 7 "_law_mix" (.cons (.call 0 "_law_cell_at" (.cons (.var 2) (.cons (.int 0) .nil))) (.cons (.bin .Add (.int 70) (.var 0)) .nil))) (.int 5)))
abbrev hs:W:=.mk 1 (.cons (.mk 0 (.cons (.raw 4) .nil)) .nil)
def la:WS:=.seq (.asg 1 (.aT (.call 1 "_law_names" (.cons (ca 0) (.cons (.int 9) .nil)))))
 (.seq (.asg 2 (.aT (.cmp .Eq (.bin .Mod (ca 0) (.int 2)) (.int 1))))
 (.seq (.asg 3 (.aT (.call 2 "_law_great" (.cons (ca 0) (.cons (.var 2) .nil)))))
 (.seq (.asg 4 (.aT (.call 3 "_law_courts" (.cons (.tup (.cons (ca 1) (.cons (.var 2) .nil))) (.cons (.var 1) .nil)))))
 (.seq (.asg 5 hs) (.seq (.asg 6 (.lst .nil)) (.seq (.asg 7 (.aT (.int 0)))
 (.seq (.aV (.nm 8) it EI)
 (.seq (.asg 13 (.aT Kv))
 (.seq (.ret (.fJ 3 (.cons (.raw 5) (.cons (.raw 4) (.cons (.aT (.sl (.var 1) (.tv (.int 5)) (.tv (.int 7)))) (.cons (.raw 6) (.cons (.raw 13) .nil))))))) .nil)))))))))
end L5
theorem EJ (c:PK b):uu [pk a,pk b]=.ok (.fr,.list ((a.filter λp=>decide (look b p.1<p.2)).map λp=>.str p.1)):=eK (gS (zT (vg (aC rfl) rfl (Dz _ c.nd) (IE b)) (Dm b)) (cB (IZ nofun (z2h (λp=>decide (look b p.1<p.2)) (λp=>.str p.1) (dW (v_var rfl (gB a)).1 rfl) rfl (λp=>[Z9 (.al,.str p.1),Z9 (.al,.int p.2),Z9 (.al,.dict (en b))]) (λp _=>rfl) (λp _=>aP (dQ (aC rfl) (pM (aC rfl) (aG (aC rfl) (aG aH.e aY)) (Dy _ _) rfl).e rfl).e rfl) (λp _ _=>v_var rfl rfl)))))
theorem Tu (a:List D)(h:eZ 39 a=Z7):cmpD .Eq (.list a) (.list [])=.ok a.isEmpty:=by show(if(shal 40 (.list a)&&shal 40 (.list []))=Z7 then Res.ok (eQ (.list a) (.list []))else .no)=_;rw[sf (by show(eZ 39 a&&Z7)=Z7;rw[h];rfl)];cases a<;>simp[eQ,ZW,ZQ]
theorem Af (l:P):eZ 39 (l.map λp=>ZU p.1)=true:=qM.mpr λx a=>by obtain⟨p,_,rfl⟩:=ce.mp a;rfl
def wi (a b:P):Bool:=(a.filter λp=>decide (look b p.1<p.2)).isEmpty
theorem uA (c:PK b):nO [pk a,pk b]=.ok (.fr,.bool (wi a b)):=by refine eK (cB (dU (dQ (oE (aG (aC rfl) (aG (aC rfl) aY)) rfl (EJ c)) (Ev.of (mY eN)) ?_)));rw[Tu _ (Af _)];unfold wi;rw[List.isEmpty_map]
theorem Tv (c:PK a)(d:PK b):wi a b=Z7↔∀n,look a n<=look b n:=by
 unfold wi;rw[jb,j3];constructor
 .intro h n;by_cases hn:n∈ks a
  .obtain⟨v,e⟩:=Q8 hn;have:=h _ (Dj e);have f:look a n=v:=by unfold look;rw[e];rfl
   simp at this;rw[f];omega
  .have :look a n=0:=by unfold look;rw[Iy hn];rfl
   rw[this];exact d.pK n
 .intro h p g;have:=h p.1;rw[c.hU g]at this;simp;omega
def sd (b:Bool):Str:=if b then "for"else "against"
def own (b:Bool)(f a:P):P:=if b then f else a
def nT (f a:P):D:=.tuple [pk f,pk a]
def rl (b:Bool)(f a r:P):D:=.tuple [nT f a,.str (sd b),pk r]
theorem vE (f a:P):imm (nT f a)=true:=by show imms [pk f,pk a]=Z7;rw[imms,imms,gB,gB];rfl
theorem Tw (b:Bool)(f a r:P):imm (rl b f a r)=true:=by show imms [nT f a,.str (sd b),pk r]=Z7;rw[imms,imms,imms,vE,gB];rfl
theorem Tz (b:Bool):uw [.str (sd b)]=.ok (.fr,.none):=by cases b<;>rfl
theorem TB (h:Ev Κ Φ t a d):aQ Κ Φ (.drop t) a=.ok (.nx a):=by obtain⟨g,h⟩:=h;show(aL Κ Φ t a>>=λ_=>Res.ok (Out.nx a))=_;rw[h];rfl
theorem EK (b:Bool)(f a:P):nQ [nT f a,.str (sd b)]=.ok (.fr,pk (own b f a)):=by
 refine eK (gS (TB (oE (aG (aC rfl) aY) rfl (Tz b))) ?_);cases b with
 |true=>exact cB (dU (IW (k:=Z7) (aP (dQ (aC rfl) eS.e rfl).e rfl) (λ_=>aO (aC rfl) aH.e rfl (gB f)) (y:=pk f) λz=>by cases z))
 |false=>exact cB (dU (IW (k:=Z6) (aP (dQ (aC rfl) eS.e rfl).e rfl) (x:=pk a) nofun λ_=>aO (aC rfl) aH.e rfl (gB a)))
def ov (a b:P):List Str:=(a.filter λp=>decide (look b p.1<p.2)).map (·.1)
theorem Kw (h:0<b)(c:b<2 ^ 200):dF .FloorDiv (.int a) (.int b)=.ok (.int (a/b)):=by show(if _ then _ else _)=_;rw[sf ⟨h,c⟩]
theorem TC (cs:List Int):j' "len" [.list (cs.map .int)]=.ok (.int (cs.length:Int)):=by show Res.ok (ZS ((cs.map ZS).length:Int))=_;rw[ah]
theorem jH (e:Ev Κ Φ a f x)(g:Oo Κ Φ b f i)(k:Oo Κ Φ c f j)(h:nZ x i j=.ok d):Ev Κ Φ (.sl a b c) f d:=by obtain⟨g1,e⟩:=e;unfold Oo at g k;exact⟨_,by rw[xX];rw[e,Res.aB,g,Res.aB,k,Res.aB];dsimp only;rw[h,Res.aB]⟩
def ag (b:Bool)(f a r:P)(b':Bool)(f' a' r':P):Bool:=(!(b==b'))&&(wi r (own b f' a')&&wi r' (own b' f a))
theorem TF (b:Bool)(f a r:P)(c:Bool)(e g d:P):ag c e g d b f a r=ag b f a r c e g d:=by unfold ag;rw[Bool.and_comm (wi d _)];cases b<;>cases c<;>rfl
theorem Ky (b a:Bool):(sd b==sd a)=(b==a):=by cases b<;>cases a<;>rfl
theorem yG (hf:PK f)(c:PK a):PK (own b f a):=by cases b<;>assumption
theorem EL (q:PK f)(s:PK a)(l:PK m)(n:PK o):gQ [rl b f a r,rl p m o t]=.ok (.fr,.bool (ag b f a r p m o t)):=by refine eK ?_;have c:∀{Φ:List Fn} {d:Rho} {i:Nat} {g:G} {b:Bool} {f a r:P},d[i]?=Z9 (Z9 (g,rl b f a r))->Vv [] Φ (.ix (.var i) (.int 1)) d (.str (sd b)):=λh=>aO (aC h) aH.e rfl rfl;have j:∀{Φ:List Fn} {d:Rho} {i:Nat} {g:G} {b:Bool} {f a r:P},d[i]?=Z9 (Z9 (g,rl b f a r))->Vv [] Φ (.ix (.var i) (.int 2)) d (pk r):=λh=>aO (aC h) aH.e rfl (gB _);have k:∀{Φ:List Fn} {d:Rho} {i:Nat} {g:G} {b:Bool} {f a r:P},d[i]?=Z9 (Z9 (g,rl b f a r))->Vv [] Φ (.ix (.var i) (.int 0)) d (nT f a):=λh=>aO (aC h) aH.e rfl (vE _ _);refine cB (dU (v_and (dQ (c rfl).e (c rfl).e (by show Res.ok (!(sd b==sd p))=_;rw[Ky])).e λ_=>v_and (cR (aG (j rfl).e (aG (oE (aG (k rfl).e (aG (c rfl).e aY)) rfl (EK b m o)) aY)) rfl (uA (yG l n)) rfl).e λ_=>cR (aG (j rfl).e (aG (oE (aG (k rfl).e (aG (c rfl).e aY)) rfl (EK p f a)) aY)) rfl (uA (yG q s)) rfl))
def Nx (I:Rho->Prop)(z:Res Out):Prop:=∃eV,z=.ok (.nx eV)/\I eV
theorem uB (a:imm d=Z7):fI (.nm j) (gJ d g,d) ρ=.ok (ρ.set j (Z9 (.al,d))):=by rw[mX a];rfl
theorem q_nm {Q:Res Out->Prop}{c:Type}{m:c->D}{xs:List c}(h:evF Κ Φ it ρ=.ok (g,xs.map m,d))(hm:∀x,imm (m x)=Z7)(I:List c->Rho->Prop)(h0:I [] d)
  (hf:∀pre x a ρ,xs=pre++x::a->I pre ρ->Nx (I (pre++[x])) (aQ Κ Φ p (ρ.set j (Z9 (.al,m x))))) (e:∀b,I xs b->Q (aQ Κ Φ rest b)):Q (aQ Κ Φ (.seq (.aV (.nm j) it p) rest) ρ):=
 ztw h I h0 (λpre x a ρ f i=>by obtain⟨b,k,l⟩:=hf pre x a ρ f i;exact⟨_,b,uB (hm x),k,l⟩) e
theorem EM {b:Type}(m:b->D){a:List b}{i:Int}(d:b)(h0:0<=i)(c:i<a.length):dC (.list (a.map m)) (.int i)=.ok (m (a.getD i.toNat d)):=by
 show Res.dE (Mi.bM (a.map m) i)=_;rw[zS _ i (m d) h0 (by rw[ah];exact c)]
 congr 1
 have:i.toNat<a.length:=by omega
 rw[aa,aa,ao,ac this];rfl
theorem uC (a:List D):j' "len" [.list a]=.ok (.int (a.length:Int)):=rfl
theorem uE {a:Type}{m:a->D}(h:∀x,imm (m x)=Z7)(b:List a):imms (b.map m)=true:=wM.mpr λx c=>by obtain⟨p,_,rfl⟩:=ce.mp c;exact h p
theorem Kz {s:Type}{m:s->D}{Q:Res Out->Prop}(I:List s->Rho->Prop):∀k pre j,(∀l x n j,pre++k=l++x::n->I l j->(∃i,f (m x) j=.ok (.nx i)/\I (l++[x]) i)\/∃g d,f (m x) j=.ok (.rt g d)/\Q (.ok (.rt g d)))->I pre j->(∃i,dG f (k.map m) j=.ok (.nx i)/\I (pre++k) i)\/∃g d,dG f (k.map m) j=.ok (.rt g d)/\Q (.ok (.rt g d))
 | [],pre,j,_,h=>.inl ⟨j,rfl,by rw[eo];exact h⟩
 |x::k,pre,j,t,h=>by
  rcases t pre x k j rfl h with⟨i,e,v⟩|⟨g,d,e,q⟩
  .have u:pre++x::k=(pre++[x])++k:=by simp
   rcases Kz I k (pre++[x]) i (λa b c r hh=>t a b c r (u.trans hh)) v with⟨o,p,w⟩|⟨g,d,p,q⟩
   .exact .inl ⟨o,by rw[bn];show(match f (m x) j with|.ok (.nx i)=>dG f (k.map m) i|.ok (.rt g d)=>.ok (.rt g d)|.exc e=>.exc e|.no=>.no)=_;rw[e];exact p,by rw[u];exact w⟩
   .exact .inr ⟨g,d,by rw[bn];show(match f (m x) j with|.ok (.nx i)=>dG f (k.map m) i|.ok (.rt g d)=>.ok (.rt g d)|.exc e=>.exc e|.no=>.no)=_;rw[e];exact p,q⟩
  .exact .inr ⟨g,d,by rw[bn];show(match f (m x) j with|.ok (.nx i)=>dG f (k.map m) i|.ok (.rt g d)=>.ok (.rt g d)|.exc e=>.exc e|.no=>.no)=_;rw[e],q⟩
theorem zo8 {Q:Res Out->Prop}{n:Type}{m:n->D}{l:List n}(h:evF Κ Φ it k=.ok (g,l.map m,j))(I:List n->Rho->Prop)(h0:I [] j)
  (hf:∀pre x c k,l=pre++x::c->I pre k->∃a,fI s (gJ (m x) g,m x) k=.ok a/\(Nx (I (pre++[x])) (aQ Κ Φ p a)\/∃g d,aQ Κ Φ p a=.ok (.rt g d)/\Q (.ok (.rt g d)))) (u:∀b,I l b->Q (aQ Κ Φ rest b)):Q (aQ Κ Φ (.seq (.aV s it p) rest) k):=by
 rcases Kz (f:=λx j=>fI s (gJ x g,x) j>>=λa=>aQ Κ Φ p a) I l [] j (λpre x c k v w=>by
  obtain⟨a,e,hh⟩:=hf pre x c k v w;rcases hh with⟨b,o,r⟩|⟨t,d,o,r⟩
  .exact .inl ⟨b,by rw[e,Res.aB,o],r⟩
  .exact .inr ⟨t,d,by rw[e,Res.aB,o],r⟩) h0 with⟨b,e,i⟩|⟨t,d,e,q⟩
 .rw[gS (DL h e) rfl];exact u b i
 .rw[cB (DL h e)];exact q
theorem TH {a:Type}{b:List a}{x:a×Nat}(h:x∈b.zipIdx):b[x.2]?=Z9 x.1:=kw.mp h
theorem KA {P:Rho->Prop}(I:Nat->Rho->Prop)(hs:∀k b,I k b->(c b=.ok Z6/\P b)\/∃d a,k=d+1/\c b=.ok Z7/\f b=.ok (.nx a)/\I d a):∀k n b,k<n->I k b->∃a,wQ c f n b=.ok (.nx a)/\P a
 |k,0,_,h,_=>by omega
 |k,n+1,b,h,l=>by
  rcases hs k b l with⟨g,i⟩|⟨d,a,rfl,g,i,m⟩
  .exact⟨b,by show(c b>>=_)=_;rw[g];rfl,i⟩
  .obtain⟨j,e,p⟩:=KA I hs d n a (by omega) m;refine⟨j,?_,p⟩;show(c b>>=_)=_;rw[g,i];exact e
theorem tO {Q:Res Out->Prop}{P:Rho->Prop}(I:Nat->Rho->Prop)(k:Nat)(hn:k<n)(h0:I k d)(hs:∀k d,I k d->(Tt Κ Φ c d Z6/\P d)\/∃f a,k=f+1/\Tt Κ Φ c d Z7/\aQ Κ Φ b d=.ok (.nx a)/\I f a)(g:∀a,P a->Q (aQ Κ Φ rest a)):Q (aQ Κ Φ (.seq (.wh n c b) rest) d):=by obtain⟨a,e,p⟩:=KA I hs k n d hn h0;exact dX e (g a p)
theorem nU (c:Int)(h0:0<=k)(f:k<=100):∃m,(0<=m/\m<2147483587)/\dJ [.int c,.int k]=.ok (.fr,.int m):=by generalize b:(c%2147483647+7919*k*k+k*k+1)*48271%2147483629=a;refine⟨a*a%2147483587,⟨gm _ dc,iw _ dc⟩,eK ?_⟩;exact gS (pN (d:=.int a) (by rw[<-b];exact bJ (bJ (bJ (bJ (bJ (bJ (aC rfl) aH.e (fC dc) rfl).e (bJ (bJ aH.e (aC rfl) (DB dc) rfl).e (aC rfl) (xU ⟨by omega,by omega⟩) rfl).e rfl rfl).e (bJ (aC rfl) (aC rfl) (DB ⟨by omega,by omega⟩) rfl).e rfl rfl).e aH.e rfl rfl).e aH.e (xU dc) rfl).e aH.e (fC dc) rfl)) (cB (dU (bJ (bJ (aC rfl) (aC rfl) (DB ⟨by omega,by omega⟩) rfl).e aH.e (fC dc) rfl)))
theorem KC (a:List Int)(d:a.length<=63)(h0:0<=k):∃v,nR [.list (a.map .int),.int k]=.ok (.fr,.int v):=by
 have c:Tt [] [] (.tv (.cmp .Lt (.var 1) (.bi "len" (.cons (.var 0) .nil)))) [Z9 (.od,.list (a.map .int)),Z9 (.od,.int k)] (decide (k<a.length)):=aP (dQ (aC rfl) (cO (aG (aC rfl) aY) (by show Res.ok (ZS ((a.map ZS).length:Nat))=_;rw[ah]) rfl).e rfl).e rfl;cases b:decide (k<a.length)with
 |true=>exact⟨_,eK (tT c b (cB (dU (aO (aC rfl) (aC rfl) (DA h0 (sk b)) rfl))))⟩
 |false=>exact⟨0,eK (tU c b (cB (dU aH)))⟩
def clD (c:Int×Bool):D:=.tuple [.int c.1,.bool c.2]
theorem KD (c:Int×Bool):imm (clD c)=true:=rfl
theorem TJ (a:List Int){k:Int}(h0:0<=k)(d:k<a.length)(g:k<=100)(f:Bool):∃c,Eu [.list (a.map .int),.int k,.bool f]=.ok (.fr,clD c):=by
 have b:∀{Φ:List Fn},Vv [] Φ (.ix (.var 0) (.var 1)) [Z9 (.od,.list (a.map .int)),Z9 (.od,.int k),Z9 (.od,.bool f)] (.int (a.getD k.toNat 0)):=aO (aC rfl) (aC rfl) (DA h0 d) rfl;obtain⟨m,_,hm⟩:=nU (a.getD k.toNat 0) h0 g;cases f with
 |true=>exact⟨(_,Z7),eK (tT (aP (aC rfl) rfl) rfl (cB (dU (jB (bD b (bD jA eN))))))⟩
 |false=>exact⟨(m,Z6),eK (tU (aP (aC rfl) rfl) rfl (cB (dU (jB (bD (cR (aG b.e (aG (aC rfl) aY)) rfl hm rfl) (bD jA eN))))))⟩
theorem TK (h:Vv Κ Φ t ρ (.tuple [x,y]))(b:imm x=Z7)(c:imm y=Z7):aQ Κ Φ (.asg (.tp [i,j]) t) ρ=.ok (.nx ((ρ.set i (Z9 (.al,x))).set j (Z9 (.al,y)))):=by
 show(aL Κ Φ t ρ>>=λz=>fI (.tp [i,j]) z ρ>>=λa=>Res.ok (Out.nx a))=_;rw[h.1,Res.aB,show fI (.tp [i,j]) (G.fr,PyData.tuple [x,y]) ρ=.ok ((ρ.set i (Z9 (.al,x))).set j (Z9 (.al,y)))from ?_]
 .rfl
 .have :=DK (i:=i) (j:=j) (g:=.fr) (ρ:=ρ) b c;rw[mX (by show imms [x,y]=Z7;rw[imms,imms,b,c];rfl)]at this;exact this
theorem yH (c:Int×Bool)(h0:0<=k)(a:k<=100):∃m,(0<=m/\m<60)/\jG [clD c,.int k]=.ok (.fr,.int m):=by
 obtain⟨n,f⟩:=c
 suffices h:∃m,(0<=m/\m<60)/\aQ [] [dJ] Ew [Z9 (.od,clD (n,f)),Z9 (.od,.int k),Z8,Z8,Z8]=.ok (.rt .fr (.int m)) by obtain⟨m,a,i⟩:=h;exact⟨m,a,eK i⟩
 let Q:Res Out->Prop:=λz=>∃m,(0<=m/\m<60)/\z=.ok (.rt .fr (.int m))
 show Q _;refine dX (TK (v_var rfl rfl) rfl rfl) ?_;obtain⟨m,_,hm⟩:=nU n h0 a;cases f with
 |false=>refine⟨m%60,⟨gm _ dc,iw _ dc⟩,?_⟩;exact tT (mH (aP (aC rfl) rfl)) rfl (cB (dU (bJ (cR (aG (aC rfl) (aG (aC rfl) aY)) rfl hm rfl).e aH.e (fC dc) rfl)))
 |true=>
  refine Jb (mH (aP (aC rfl) rfl)) rfl (q_nm (Ja (aG (aC rfl) aY) (tR h0 (by omega))) (λ_=>rfl) (λ_ b=>∃z d,b=[Z9 (.od,clD (n,Z7)),Z9 (.od,.int k),Z9 (.al,.int z),Z9 (.al,.bool Z7),d]) ⟨n,Z8,rfl⟩ ?_ ?_)
  .rintro pre x g b j ⟨z,d,rfl⟩
   exact⟨_,gS (pN (bJ (aC rfl) aH.e (Kw dc dc) rfl)) lG,z/60,Z9 (.al,.int x),rfl⟩
  .rintro b ⟨z,d,rfl⟩
   exact⟨z%60,⟨gm _ dc,iw _ dc⟩,cB (dU (bJ (aC rfl) aH.e (fC dc) rfl))⟩
theorem TL (c:Int)(f:Bool):∃g,3<=g/\Ez [.int c,.bool f]=.ok (.fr,.int g):=by
 obtain⟨a,o,j⟩:=nU c (k:=50) dc dc;obtain⟨b,a1,l⟩:=nU c (k:=51) dc dc;obtain⟨d,a2,m⟩:=nU c (k:=52) dc dc;obtain⟨h,a3,n⟩:=nU c (k:=53) dc dc;have i:∀{Φ:List Fn},Vv [] Φ (.bin .Sub (.bin .Pow (.int 10) (.int 30)) (.int 4)) [Z9 (.od,.int c),Z9 (.od,.bool f)] (.int 999999999999999999999999999996):=bJ (bJ aH.e aH.e Rv rfl).e aH.e rfl rfl;cases f with
 |true=>exact⟨3+c/60%999999999999999999999999999996,by have:=gm (c/60) (show 999999999999999999999999999996≠0 by decide);omega,eK (tT (aP (aC rfl) rfl) rfl (cB (dU (bJ aH.e (bJ (bJ (aC rfl) aH.e (Kw dc dc) rfl).e i.e (fC dc) rfl).e rfl rfl))))⟩
 |false=>exact⟨3+a*b*d*h%999999999999999999999999999996,by have:=gm (a*b*d*h) (show 999999999999999999999999999996≠0 by decide);omega,eK (tU (aP (aC rfl) rfl) rfl (cB (dU (bJ aH.e (bJ (bJ (bJ (bJ (cR (aG (aC rfl) (aG aH.e aY)) rfl j rfl).e (cR (aG (aC rfl) (aG aH.e aY)) rfl l rfl).e (xU ⟨by omega,by omega⟩) rfl).e (cR (aG (aC rfl) (aG aH.e aY)) rfl m rfl).e (xU ⟨by omega,by omega⟩) rfl).e (cR (aG (aC rfl) (aG aH.e aY)) rfl n rfl).e (xU ⟨by omega,by omega⟩) rfl).e i.e (fC dc) rfl).e rfl rfl))))⟩
theorem TM (a:0<=k):∃n,ux [.int k,.int g]=.ok (.fr,.int n):=by refine⟨[0,1,2,g,g+1,0].getD (k%6).toNat 0,eK ?_⟩;exact cB (dU (aO (Ev.of (mY (bD aH (bD aH (bD aH (bD (v_var rfl rfl) (bD (bJ (aC rfl) aH.e rfl rfl) (bD aH eN)))))))) (bJ (aC rfl) aH.e (fC dc) rfl).e (DA (ns:=[0,1,2,g,g+1,0]) (by omega) (by show k%6<6;omega)) rfl))
theorem TN (a b:Str):(a++b).cps.toList=a.cps.toList++b.cps.toList:=by show(a.cps++b.cps).toList=_;simp
theorem TQ {a b:Type}{f:a->b}{l:List a}(h:∀x∈l,∀y∈l,f x=f y->x=y)(nd:l.Nodup):(l.map f).Nodup:=qo.mpr (nd.imp_of_mem λc d hn e=>hn (h _ c _ d e))
def rW:List Str:=["j","q","v","x","z","jz","qz","vz","xz","zj"]
theorem TR:rW.Nodup:=by decide+kernel
theorem TU (c:Int)(hn:n<=10):∃ns:List Str,(ns.length=n/\ns.Nodup)/\Ey [.int c,.int n]=.ok (.fr,.list (ns.map .str)):=by
 suffices h:∃ns:List Str,(ns.length=n/\ns.Nodup)/\aQ [] [dJ] Ex [Z9 (.od,.int c),Z9 (.od,.int n),Z8,Z8,Z8,Z8]=.ok (.rt .fr (.list (ns.map .str))) by obtain⟨ns,g,p⟩:=h;exact⟨ns,g,eK p⟩
 let Q:Res Out->Prop:=λr=>∃ns:List Str,(ns.length=n/\ns.Nodup)/\r=.ok (.rt .fr (.list (ns.map .str)))
 show Q _;obtain⟨q,⟨R,_⟩,J⟩:=nU c (k:=29) (by decide) (by decide);obtain⟨t,⟨S,_⟩,K⟩:=nU c (k:=28) (by decide) (by decide);have hm:∀i:Nat,i<10->∃m,0<=m/\dJ [.int c,.int (30+i)]=.ok (.fr,.int m):=λi b=>by obtain⟨m,g,p⟩:=nU c (k:=30+i) (by omega) (by omega);exact⟨m,g.1,p⟩
 refine dX (pN eS) ?_
 let f:Nat->Int:=λi=>if h:i<10 then(hm i h).choose else 0
 have L:∀i,i<10->0<=f i/\dJ [.int c,.int (30+i)]=.ok (.fr,.int (f i)):=λi b=>by show 0<=(if h:i<10 then(hm i h).choose else 0)/\dJ _=.ok (.fr,.int (if h:i<10 then(hm i h).choose else 0));rw[dif_pos b];exact(hm i b).choose_spec
 have C:=z2h (Κ:=[]) (Φ:=[dJ]) (ρ:=[Z9 (.od,.int c),Z9 (.od,.int n),Z9 (.al,.str "abcdefghijklmnopqrstuvwxyz"),Z8,Z8,Z8]) (nt:=1) (js:=[2,0]) (N':=["_law_k","_law_letters","_law_cell_here"]) (tg:=.nm 0) (it:=.eF (.cons (.bin .Mod (.call 0 "_law_mix" (.cons (.var 0) (.cons (.int 29) .nil))) (.int 10)) .nil)) (cond:=.nil) (elt:=.ix (.var 1) (.bin .Mod (.call 0 "_law_mix" (.cons (.var 2) (.cons (.bin .Add (.int 30) (.var 0)) .nil))) (.int 26))) (λ_=>Z7) (λi=>ZU (chr "abcdefghijklmnopqrstuvwxyz" (f i%26)))
  (rH (aG (bJ (cR (aG (aC rfl) (aG aH.e aY)) rfl J rfl).e aH.e (fC (by decide)) rfl).e aY) (tR (by omega) (by omega))) rfl (λi=>[Z9 (.al,.int i),Z9 (.al,.str "abcdefghijklmnopqrstuvwxyz"),Z9 (.od,.int c)]) (λ_ _=>rfl) (λ_ _=>rfl) λi b _=>by
   have b:i<10:=by have:=fz.mp b;omega
   obtain⟨T,g1⟩:=L i b;exact aO (aC rfl) (bJ (cR (aG (aC rfl) (aG (bJ aH.e (aC rfl) rfl rfl).e aY)) rfl g1 rfl).e aH.e (fC (by decide)) rfl).e (Bm (by omega) (by show f i%26<26;omega) (by decide)) rfl
 let o:List Str:=(cc (q%10).toNat).map λi=>chr "abcdefghijklmnopqrstuvwxyz" (f i%26)
 have u:(((cc (q%10).toNat).filter λ_=>Z7).map λi=>ZU (chr "abcdefghijklmnopqrstuvwxyz" (f i%26)))=o.map .str:=by rw[fk.mpr λ_ _=>rfl];rw[et];rfl
 rw[u]at C;have g:∀s∈o,s.length=1:=λs hs=>by obtain⟨i,_,rfl⟩:=ce.mp hs;rfl
 have M:o.length=(q%10).toNat:=by rw[ah,cv]
 have N:=Rw o g;generalize O:qO "" o=B at N;refine dX (pN (d:=.str B) (O▸pM eS.e (aG (Ev.of C) aY) (Rx g (by omega)) rfl)) ?_;have v:0<=t%(B.length+1):=gm _ (by omega);refine dX (pN (d:=.int (t%(B.length+1))) (bJ (cR (aG (aC rfl) (aG aH.e aY)) rfl K rfl).e (bJ (cO (aG (aC rfl) aY) (by show(if B.length<=bC then Res.ok (ZS B.length)else Res.no)=_;rw[sf (by unfold bC;omega)]) rfl).e aH.e rfl rfl).e (fC (by omega)) rfl)) ?_;generalize t%(B.length+1)=a at v;refine dX (vi (mY (bD eS (bD eS (bD eS (bD eS (bD eS (bD eS (bD eS (bD eS (bD eS (bD eS eN))))))))))) rfl) ?_;have A:∀k,(rW.getD k ⟨#[]⟩).length<=2:=λk=>by rcases k with _|_|_|_|_|_|_|_|_|_|k<;>first|decide|exact cz _
 let w:Nat->Str:=λi=>lD B Z8 (Z9 a)++rW.getD ((i+c)%10).toNat ⟨#[]⟩++lD B (Z9 a) Z8
 have P:=z2h (Κ:=[]) (Φ:=[dJ]) (ρ:=[Z9 (.od,.int c),Z9 (.od,.int n),Z9 (.al,.str "abcdefghijklmnopqrstuvwxyz"),Z9 (.al,.str B),Z9 (.al,.int a),Z9 (.fr,.list (rW.map .str))]) (nt:=1) (js:=[3,5,4,0]) (N':=["_law_k","_law_base","_law_signs","_law_at","_law_cell_here"]) (tg:=.nm 0) (it:=.eF (.cons (.var 1) .nil)) (cond:=.nil) (elt:=.bin .Add (.bin .Add (.sl (.var 1) .nil (.tv (.var 3))) (.ix (.var 2) (.bin .Mod (.bin .Add (.var 0) (.var 4)) (.int 10)))) (.sl (.var 1) (.tv (.var 3)) .nil)) (λ_=>Z7) (λi=>ZU (w i)) (rH (aG (aC rfl) aY) (tR (by omega) (by omega))) rfl (λi=>[Z9 (.al,.int i),Z9 (.al,.str B),Z9 (.al,.list (rW.map .str)),Z9 (.al,.int a),Z9 (.od,.int c)]) (λ_ _=>rfl) (λ_ _=>rfl) λi b _=>by have U:=IL B Z8 (Z9 a);have V:=IL B (Z9 a) Z8;have W:=A ((i+c)%10).toNat;have X:=Ru (lD B Z8 (Z9 a)) (rW.getD ((i+c)%10).toNat ⟨#[]⟩);exact bJ (bJ (xY (aC rfl) qW (lF (aC rfl)) (zi (by omega)) rfl).e (aO (aC rfl) (bJ (bJ (aC rfl) (aC rfl) rfl rfl).e aH.e (fC (by decide)) rfl).e (tQ (by omega) (by show(i+c)%10<10;omega)) rfl).e (add_str (by omega)) rfl).e (xY (aC rfl) (lF (aC rfl)) qW (zi (by omega)) rfl).e (add_str (by omega)) rfl
 refine⟨(cc n).map w,⟨by rw[ah,cv],TQ (λx D y E e=>?_) j9⟩,cB (IZ (λ_ z=>nomatch z) (P.trans ?_))⟩
 .have D:=fz.mp D;have E:=fz.mp E;have F:=congrArg (λs:Str=>s.cps.toList) e;simp only[w,TN,j0]at F;have G:=Q7 (List.append_cancel_right (List.append_cancel_left F));have H:((x+c)%10).toNat<rW.length:=by show _<10;omega
  have I:((y+c)%10).toNat<rW.length:=by show _<10;omega
  rw[aa,aa,ac H,ac I]at G;have:=(λ{l i j} b Y nd h=>(List.getElem_inj nd).mp h) H I TR G;omega
 .rw[fk.mpr λ_ _=>rfl,et];rfl
def mr (p:Bool×P×P×P):D:=rl p.1 p.2.1 p.2.2.1 p.2.2.2
theorem iO (p:Bool×P×P×P):imm (mr p)=true:=Tw _ _ _ _
def eA (p q:Bool×P×P×P):Bool:=ag p.1 p.2.1 p.2.2.1 p.2.2.2 q.1 q.2.1 q.2.2.1 q.2.2.2
structure GR (p:Bool×P×P×P):Prop where
 f:PK p.2.1
 a:PK p.2.2.1
 r:PK p.2.2.2
 w:wi p.2.2.2 (own p.1 p.2.1 p.2.2.1)=Z7
 l:p.2.1.length<=10/\p.2.2.1.length<=10/\p.2.2.2.length<=10
theorem uF (b:GR p)(c:GR q):gQ [mr p,mr q]=.ok (.fr,.bool (eA p q)):=EL b.f b.a c.f c.a
theorem TV (ps:List (Bool×P×P×P)):imms (ps.map mr)=true:=uE iO ps
theorem KG {b:Type}(f:b->D):∀(a:List b) k,z27 k (a.map f)=(a.zipIdx k).map λx=>.tuple [.int x.2,f x.1]
 | [],_=>rfl
 |x::a,k=>by rw[bn,z27,List.zipIdx_cons,bn,KG f a (k+1)]
theorem TX {ps:List (Bool×P×P×P)}(h:a[i]?=Z9 (Z9 (.od,.list (ps.map mr))))(b:ps.length<=1000):evF Κ Φ (.enum (.var i)) a=.ok (.al,ps.zipIdx.map λx=>.tuple [.int x.2,mr x.1],a):=by rw[RM (by rw[pL];rw[h];rfl) rfl (RO (TV ps) (by grind)),KG]
def yI:Option Nat->D
 |none=>.none
 |some k=>.int k
theorem TY {b:Type}{G:b->Bool}{pre a:List b}{x:b}(h:∀y∈pre,G y=Z6)(c:G x=Z7):(pre++x::a).findIdx? G=Z9 pre.length:=by grind
theorem EO {ps:List (Bool×P×P×P)}(c:∀p∈ps,GR p)(o:GR q)(r:ps.length<=1000):pZ [.list (ps.map mr),mr q]=.ok (.fr,yI (ps.findIdx? λp=>eA p q)):=by
 refine eK ?_
 let Q:Res Out->Prop:=λz=>z=.ok (.rt .fr (yI (ps.findIdx? λp=>eA p q)))
 show Q _;refine zo8 (TX rfl r) (λpre d=>(∀y∈pre,eA y.1 q=Z6)/\∃f g,d=[Z9 (.od,.list (ps.map mr)),Z9 (.od,mr q),f,g]) ⟨nofun,Z8,Z8,rfl⟩ ?_ ?_
 .rintro pre x a d h ⟨hn,f,g,rfl⟩
  have i:=TH (h▸bf _ bg);have hs:ps=pre.map (·.1)++x.1::a.map (·.1):=by have:=congrArg (mj (·.1)) h;rw[List.zipIdx_map_fst,cq]at this;exact this
  have j:x.2=pre.length:=by
   have:=congrArg (λl:List ((Bool×P×P×P)×Nat)=>l[pre.length]?) h;simp only[b7 (ae _),fy,List.getElem?_cons_zero,List.getElem?_zipIdx]at this;cases hh:ps[pre.length]? with
   |none=>rw[hh]at this;cases this
   |some y=>rw[hh]at this;cases this;simp
  refine⟨_,DK rfl (iO x.1),?_⟩;have n:Tt [] [gQ] (.tv (.call 0 "against" (.cons (.var 3) (.cons (.var 1) .nil)))) [Z9 (.od,.list (ps.map mr)),Z9 (.od,mr q),Z9 (.al,.int x.2),Z9 (.al,mr x.1)] (eA x.1 q):=aP (cR (aG (aC rfl) (aG (aC rfl) aY)) rfl (uF (c _ (ar i)) o) rfl).e rfl;cases b:eA x.1 q with
  |true=>
   refine .inr ⟨.fr,.int x.2,cB (rJ n (λ_=>cB (dU (v_var rfl rfl))) λz=>by rw[b]at z;cases z),?_⟩;show _=_;have e:(ps.findIdx? λp=>eA p q)=Z9 x.2:=by rw[hs,TY (G:=λp=>eA p q) (λy m=>?_) b,ah,j];obtain⟨z,i,rfl⟩:=ce.mp m;exact hn z i
   rw[e];rfl
  |false=>exact .inl ⟨_,gS (rJ n (λz=>by rw[b]at z;cases z) λ_=>lG) lG,(λy m=>by
   rcases bw.mp m with z|z
   .exact hn y z
   .rw[az.mp z];exact b),_,_,rfl⟩
 .rintro d ⟨hn,f,g,rfl⟩
  have e:(ps.findIdx? λp=>eA p q)=none:=List.findIdx?_eq_none_iff.mpr λp c=>by obtain⟨k,s⟩:=cj.mp c;exact hn (p,k) (kw.mpr s)
  show aQ _ _ _ _=_;rw[e];exact cB (dU DF)
theorem TZ (h:GR p):pY [nT p.2.1 p.2.2.1,.str (sd p.1),pk p.2.2.2]=.ok (.fr,mr p):=by
 refine eK ?_;have c:Vv [] [nO,nQ] (.call 0 "within" (.cons (.var 2) (.cons (.call 1 "side_of" (.cons (.var 0) (.cons (.var 1) .nil))) .nil))) [Z9 (.od,nT p.2.1 p.2.2.1),Z9 (.od,.str (sd p.1)),Z9 (.od,pk p.2.2.2)] (.bool Z7):=by have:=uA (a:=p.2.2.2) (yG (b:=p.1) h.f h.a);rw[h.w]at this;exact cR (aG (aC rfl) (aG (oE (aG (aC rfl) (aG (aC rfl) aY)) rfl (EK p.1 _ _)) aY)) rfl this rfl
 exact tU (mH (aP c.e rfl)) rfl (cB (dU (jB (bD (v_var rfl (vE _ _)) (bD (v_var rfl rfl) (bD (v_var rfl (gB _)) eN))))))
theorem T1 (a:f.length<=2):qz [.list f,.none]=.ok (.fr,.bool (f.length==1)):=by
 refine eK (tT (aP (DI (aC rfl)).e rfl) rfl (cB (dU (dQ (cO (aG (aC rfl) aY) rfl rfl).e aH.e ?_))));show Res.ok (eQ (.int _) (.int _))=_;rw[xV]
 congr 1
 rw[ku,decide_eq_true_iff,beq_iff_eq];omega
theorem yJ (l:P):imms (l.map pr)=true:=uE vf l
theorem T2 (a:l.length<4):aggD "sorted" Z7 (l.map pr)=.ok (.list ((rG l).map pr)):=by show(if(Z7&&iR (l.map pr))=Z7 then Res.ok (ZT (nY (l.map pr)))else .no)=_;rw[show iR (l.map pr)=Z7 by unfold iR;rw[Rc,ah,sr a];rfl,Rf];rfl
theorem ER {ns:List Str}(nd:ns.Nodup)(s:ns.length<=3)(c:Int×Bool)(z:0<=k)(A:k<=80):∃l,(PK l/\l.length<=10)/\vA [.list (ns.map .str),clD c,.int k,.int g]=.ok (.fr,pk l):=by
 have hd:∀i:Nat,i<10->∃n,∃m,jG [clD c,.int (k+i)]=.ok (.fr,.int m)/\ux [.int m,.int g]=.ok (.fr,.int n):=λi a=>by obtain⟨m,⟨t,_⟩,hm⟩:=yH c (k:=k+i) (by omega) (by omega);obtain⟨n,hn⟩:=TM t;exact⟨n,m,hm,hn⟩
 let f:Nat->Int:=λi=>if h:i<10 then(hd i h).choose else 0
 have u:∀i:Nat,i<10->∃m,jG [clD c,.int (k+i)]=.ok (.fr,.int m)/\ux [.int m,.int g]=.ok (.fr,.int (f i)):=λi a=>by show ∃m,_/\ux _=.ok (.fr,.int (if h:i<10 then(hd i h).choose else 0));rw[dif_pos a];exact(hd i a).choose_spec
 let d:P:=(cc ns.length).map λi=>(ns.getD i ⟨#[]⟩,f i)
 have o:ks d=ns:=by
  show(mj _ (mj _ _))=_;rw[et];apply g9;intro i;rw[ao];by_cases a:i<ns.length
  .rw[ej a];show Z9 (ns.getD i ⟨#[]⟩)=_;rw[aa,ac a];rfl
  .rw[dq (by rw[cv];omega),dq (by omega)];rfl
 let b:P:=d.filter λp=>decide (0<p.2)
 have q:(ks b).Nodup:=by
  have:(ks b).Sublist ns:=by rw[<-o];exact List.filter_sublist.map _
  exact this.nodup nd
 have j:b.length<4:=Nat.lt_succ_of_le <|by refine bq (dn _ _) ?_;rw[ah,cv];exact s
 refine⟨rG b,⟨⟨Rg q j,λp v=>?_⟩,by rw[(Dp j).length_eq];omega⟩,eK ?_⟩
 .have :=(Dp j).mem_iff.mp v;simpa using(dm.mp this).2
 have r:=z2h (Κ:=[]) (Φ:=[ux,jG]) (ρ:=[Z9 (.od,.list (ns.map .str)),Z9 (.od,clD c),Z9 (.od,.int k),Z9 (.od,.int g),Z8]) (nt:=1) (js:=[0,3,1,2]) (N':=["_law_k","_law_names_here","_law_great_here","_law_cell_here","_law_at"]) (tg:=.nm 0) (it:=.eF (.cons (.bi "len" (.cons (.var 0) .nil)) .nil)) (cond:=.nil) (elt:=.tup (.cons (.ix (.var 1) (.var 0)) (.cons (.call 0 "_law_degree" (.cons (.call 1 "_law_pick" (.cons (.var 3) (.cons (.bin .Add (.var 4) (.var 0)) .nil))) (.cons (.var 2) .nil))) .nil))) (xs:=cc ns.length) (λ_=>Z7) (λi=>pr (ns.getD i ⟨#[]⟩,f i)) (rH (aG (cO (aG (aC rfl) aY) (by rw[uC,ah]) rfl).e aY) (tR (by omega) (by omega))) rfl (λi=>[Z9 (.al,.int i),Z9 (.od,.list (ns.map .str)),Z9 (.od,.int g),Z9 (.od,clD c),Z9 (.od,.int k)]) (λ_ _=>rfl) (λ_ _=>rfl) λi a _=>by have a:=fz.mp a;obtain⟨m,x,g1⟩:=u i (by omega);exact jB (bD (aO (aC rfl) (aC rfl) (tQ (by omega) (by omega)) rfl) (bD (cR (aG (cR (aG (aC rfl) (aG (bJ (aC rfl) (aC rfl) rfl rfl).e aY)) rfl x rfl).e (aG (aC rfl) aY)) rfl g1 rfl) eN))
 have y:(((cc ns.length).filter λ_=>Z7).map λi=>pr (ns.getD i ⟨#[]⟩,f i))=d.map pr:=by rw[fk.mpr λ_ _=>rfl];rw[et];rfl
 rw[y]at r;exact gS (vi r (yJ d)) (cB (dU (IX (w:=(Z7,(rG b).map pr)) (Ev.of (vg (Ev.of (z2h (ρ:=[Z9 (.od,.list (ns.map .str)),Z9 (.od,clD c),Z9 (.od,.int k),Z9 (.od,.int g),Z9 (.fr,.list (d.map pr))]) (nt:=1) (js:=[]) (N':=["_law_pair"]) (tg:=.nm 0) (cond:=.tv (.cmp .Gt (.ix (.var 0) (.int 1)) (.int 0))) (elt:=.var 0) (λp=>decide (0<p.2)) pr (dW rfl rfl) rfl (λp=>[Z9 (.al,pr p)]) (λp _=>uB (vf p)) (λp _=>aP (dQ (aO (aC rfl) aH.e rfl rfl).e aH.e rfl).e rfl) λp _ _=>v_var rfl (vf p))) rfl (T2 j) (yJ b))) rfl rfl (gB _))))
theorem T3 (d:PK a)(g:PK b):∃r,(PK r/\wi r a=Z7/\r.length<=a.length)/\yD [pk a,pk b]=.ok (.fr,pk r):=by
 let r0:P:=a.map λp=>(p.1,min p.2 (look b p.1))
 let r:P:=r0.filter λp=>decide (0<p.2)
 have h:ks r0=ks a:=by show mj _ (mj _ _)=mj _ _;rw[et];rfl
 refine⟨r,⟨⟨(List.filter_sublist.map _).nodup (h▸d.sd:(ks r0).Nodup),λp c=>by simpa using(dm.mp c).2⟩,?_,bq (dn _ _) (by rw[ah];exact ae _)⟩,eK ?_⟩
 .unfold wi;rw[jb,j3];intro p c z;obtain⟨q,i,rfl⟩:=ce.mp (dm.mp c).1;have:=sk z;rw[show look a q.1=q.2 from d.hU i]at this;omega
 refine gS (zT (vg (aC rfl) rfl (Dz Z6 g.nd) (yJ b)) (Dm b)) ?_;have j:aL [] [] (.var 0) [Z9 (.od,pk a),Z9 (.od,pk b),Z9 (.fr,.dict (en b)),Z8]=.ok (.fr,pk a):=by show Res.ok (if imm (pk a)=Z7 then G.fr else _,pk a)=_;rw[gB];rfl
 have f:=z2h (ρ:=[Z9 (.od,pk a),Z9 (.od,pk b),Z9 (.fr,.dict (en b)),Z8]) (nt:=1) (js:=[2]) (N':=["_law_pair","_law_some"]) (tg:=.nm 0) (cond:=.nil) (elt:=.tup (.cons (.ix (.var 0) (.int 0)) (.cons (.bi "min" (.cons (.ix (.var 0) (.int 1)) (.cons (.mt "get" (.var 1) (.cons (.ix (.var 0) (.int 0)) (.cons (.int 0) .nil))) .nil))) .nil))) (λ_=>Z7) (λp=>pr (p.1,min p.2 (look b p.1))) (dW j rfl) rfl (λp=>[Z9 (.al,pr p),Z9 (.al,.dict (en b))]) (λp _=>uB (vf p)) (λ_ _=>rfl) λp _ _=>jB (bD (aO (aC rfl) aH.e rfl rfl) (bD (cO (aG (aO (aC rfl) aH.e rfl rfl).e (aG (pM (aC rfl) (aG (aO (aC rfl) aH.e rfl rfl).e (aG aH.e aY)) (Dy b p.1) rfl).e aY)) (Rr _ _) rfl) eN));have k:((a.filter λ_=>Z7).map λp=>pr (p.1,min p.2 (look b p.1)))=r0.map pr:=by rw[fk.mpr λ_ _=>rfl];rw[et];rfl
 rw[k]at f;exact gS (vi f (yJ r0)) (cB (dU (IX (Ev.of (z2h (ρ:=[Z9 (.od,pk a),Z9 (.od,pk b),Z9 (.fr,.dict (en b)),Z9 (.fr,.list (r0.map pr))]) (nt:=1) (js:=[]) (N':=["_law_pair"]) (tg:=.nm 0) (cond:=.tv (.cmp .Gt (.ix (.var 0) (.int 1)) (.int 0))) (elt:=.var 0) (λp=>decide (0<p.2)) pr (dW rfl rfl) rfl (λp=>[Z9 (.al,pr p)]) (λp _=>uB (vf p)) (λp _=>aP (dQ (aO (aC rfl) aH.e rfl rfl).e aH.e rfl).e rfl) λp _ _=>v_var rfl (vf p))) rfl rfl (gB _))))
theorem ES {b:Type}(a:List b)(i j:Option Int):(cut a i j).Sublist a:=(jx _ _).trans (List.drop_sublist _ _)
theorem ET {b:Type}(a:List b)(i:Option Int)(h0:0<=n)(h:n<=3):(cut a i (Z9 n)).length<=3:=by
 unfold cut;have:cM a.length a.length (Z9 n)<=3:=by show(if n<0 then _ else min n.toNat _)<=3;rw[sg (by omega)];omega
 rw[d7];omega
theorem yK (i j:Option Int):nZ (.list (ns.map .str)) i j=.ok (.list ((cut ns i j).map .str)):=by show Res.ok (ZT (cut (ns.map ZU) i j))=_;unfold cut;rw[ah,List.map_take,List.map_drop]
theorem T5 {ns:List Str}(nd:ns.Nodup)(c:Int×Bool)(b:0<=k)(l:k<=60):∃f a,((PK f/\f.length<=10)/\(PK a/\a.length<=10))/\yE [.list (ns.map .str),clD c,.int k,.int g]=.ok (.fr,nT f a):=by obtain⟨f,d,h⟩:=ER ((ES ns Z8 (Z9 2)).nodup nd) (ET ns _ dc dc) c b (show k<=80 by omega);obtain⟨a,i,j⟩:=ER ((ES ns (Z9 1) (Z9 3)).nodup nd) (ET ns _ dc dc) c (show 0<=k+2 by omega) (show k+2<=80 by omega);refine⟨f,a,⟨d,i⟩,eK ?_⟩;exact cB (dU (jB (bD (cR (aG (jH (aC rfl) qW (lF aH.e) (yK _ _)) (aG (aC rfl) (aG (aC rfl) (aG (aC rfl) aY)))) rfl h (gB _)) (bD (cR (aG (jH (aC rfl) (lF aH.e) (lF aH.e) (yK _ _)) (aG (aC rfl) (aG (bJ (aC rfl) aH.e rfl rfl).e (aG (aC rfl) aY)))) rfl j (gB _)) eN))))
theorem KH (b:Bool)(f a:P):qA [nT f a,.str (sd b)]=.ok (.fr,pk (own b f a)):=by
 refine eK ?_;cases b with
 |true=>exact cB (dU (aO (aC rfl) (cO (aG (dQ (aC rfl) eS.e rfl).e aY) rfl rfl).e rfl (gB f)))
 |false=>exact cB (dU (aO (aC rfl) (cO (aG (dQ (aC rfl) eS.e rfl).e aY) rfl rfl).e rfl (gB a)))
theorem T6 (h:Ev [] Φ t a (.int (w%2))):Vv [] Φ (.ix (.lst (.cons (.str "for") (.cons (.str "against") .nil))) t) a (.str (sd (decide (w%2=0)))):=by
 refine aO (Ev.of (mY (bD eS (bD eS eN)))) h ?_ rfl;rcases(show w%2=0\/w%2=1 by omega)with e|e
 .rw[e];rfl
 .rw[e];rfl
theorem T7 (b:PK a):wi a a=true:=(Tv b b).mpr λ_=>Int.le_refl _
theorem EU {ns:List Str}(nd:ns.Nodup)(L:ns.length<=10)(c:Int×Bool)(g:Int):∃p,GR p/\EB [.list (ns.map .str),clD c,.int g]=.ok (.fr,mr p):=by
 obtain⟨f,a,⟨⟨t,lf⟩,u,la⟩,B⟩:=T5 nd c (k:=4) dc dc;obtain⟨w,_,C⟩:=yH c (k:=8) dc dc;obtain⟨z,_,D⟩:=yH c (k:=9) dc dc;obtain⟨l,⟨j,_⟩,E⟩:=ER ((ES ns Z8 (Z9 3)).nodup nd) (ET ns _ dc dc) c (k:=10) dc dc;generalize F:decide (w%2=0)=b;have m:PK (own b f a):=yG t u;obtain⟨r,⟨G,H,I⟩,J⟩:=T3 m j;have v:(own b f a).length<=10:=by cases b<;>assumption
 suffices h:∃p,GR p/\aQ [] [jG,yD,vA,qA,yE] EA [Z9 (.od,.list (ns.map .str)),Z9 (.od,clD c),Z9 (.od,.int g),Z8,Z8,Z8]=.ok (.rt .fr (mr p)) by obtain⟨p,n,o⟩:=h;exact⟨p,n,eK o⟩
 let Q:Res Out->Prop:=λy=>∃p,GR p/\y=.ok (.rt .fr (mr p))
 show Q _;refine dX (pN (cR (aG (aC rfl) (aG (aC rfl) (aG aH.e (aG (aC rfl) aY)))) rfl B (vE _ _))) (dX (pN (d:=.str (sd b)) (by rw[<-F];exact T6 (bJ (cR (aG (aC rfl) (aG aH.e aY)) rfl C rfl).e aH.e (fC dc) rfl).e)) (dX (pN (cR (aG (aC rfl) (aG (aC rfl) aY)) rfl (KH b f a) (gB _))) ?_));have i:∀s Φ,PK s->wi s (own b f a)=Z7->s.length<=10->∃p,GR p/\aQ [] Φ (.seq (.ret (.tup (.cons (.var 3) (.cons (.var 4) (.cons (.var 5) .nil))))) .nil) [Z9 (.od,.list (ns.map .str)),Z9 (.od,clD c),Z9 (.od,.int g),Z9 (.al,nT f a),Z9 (.al,.str (sd b)),Z9 (.al,pk s)]=.ok (.rt .fr (mr p)):=λs Φ n o K=>⟨(b,f,a,s),⟨t,u,n,o,lf,la,K⟩,cB (dU (jB (bD (v_var rfl (vE _ _)) (bD (v_var rfl rfl) (bD (v_var rfl (gB _)) eN)))))⟩;have x:Tt [] [jG,yD,vA,qA,yE] (.tv (.cmp .Gt (.bin .Mod (.call 0 "_law_pick" (.cons (.var 1) (.cons (.int 9) .nil))) (.int 3)) (.int 0))) [Z9 (.od,.list (ns.map .str)),Z9 (.od,clD c),Z9 (.od,.int g),Z9 (.al,nT f a),Z9 (.al,.str (sd b)),Z9 (.al,pk (own b f a))] (decide (0<z%3)):=aP (dQ (bJ (cR (aG (aC rfl) (aG aH.e aY)) rfl D rfl).e aH.e (fC dc) rfl).e aH.e rfl).e rfl;cases A:decide (0<z%3)with
 |false=>exact Jb x A (i _ _ m (T7 m) v)
 |true=>exact dX (rJ x (λ_=>gS (pN (cR (aG (aC rfl) (aG (oE (aG (jH (aC rfl) qW (lF aH.e) (yK _ _)) (aG (aC rfl) (aG aH.e (aG (aC rfl) aY)))) rfl E) aY)) rfl J (gB _))) lG) λq=>by rw[A]at q;cases q) (i _ _ G H (bq I v))
theorem T8 (rs:List Cw)(r:Cw):dC (.list ((rs++[r]).map cwD)) (.int (-1))=.ok (cwD r):=by show Res.dE (Mi.bM _ _)=_;unfold Mi.bM Mi.fG;rw[sg dc,ah,ax,ek,sf (by omega)];show Res.dE (((rs++[r]).map cwD)[((-1:Int)+((rs.length+1:Nat):Int)).toNat]?)=_;rw[show((-1:Int)+((rs.length+1:Nat):Int)).toNat=rs.length by omega,ao,b7 (ae _),fy];rfl
theorem T9 {ns:List Str}(hn:n<=7)(d:1<=n)(S:n<=ns.length)(I:ns.length<=10)(c:Int×Bool)(J:Ap=aR [] [jG] 5 (.seq (.asg (.nm 2) (.lst (.cons (.tup (.cons (.ix (.var 1) (.int 0)) (.cons .aM .nil))) .nil)))
 (.seq (.aV (.nm 3) (.eF (.cons (.int 1) (.cons (.int n) .nil)))
 (.seq (.asg (.nm 4) (.bin .Add (.bin .Add (.lst (.cons .aM .nil)) (.comp 1 [] ["_law_row"] (.nm 0) (.tv (.var 2)) .nil (.ix (.var 0) (.int 0)))) (.lst (.cons (.ix (.ix (.var 2) (.neg (.int 1))) (.int 0)) .nil))))
 (.seq (.mut "append" 2 (.cons (.tup (.cons (.ix (.var 1) (.var 3)) (.cons (.ix (.var 4) (.bin .Mod (.call 0 "_law_pick" (.cons (.var 0) (.cons (.var 3) .nil))) (.bi "len" (.cons (.var 4) .nil)))) .nil))) .nil))
 .nil)))
 (.seq (.ret (.var 2))
 .nil)))):∃rs,(GoodC rs/\rs.map (·.1)=ns.take n)/\Ap [clD c,.list (ns.map .str)]=.ok (.fr,.list (rs.map cwD)):=by
 suffices h:∃rs,(GoodC rs/\rs.map (·.1)=ns.take n)/\aQ [] [jG] (.seq (.asg (.nm 2) (.lst (.cons (.tup (.cons (.ix (.var 1) (.int 0)) (.cons .aM .nil))) .nil)))
 (.seq (.aV (.nm 3) (.eF (.cons (.int 1) (.cons (.int n) .nil)))
 (.seq (.asg (.nm 4) (.bin .Add (.bin .Add (.lst (.cons .aM .nil)) (.comp 1 [] ["_law_row"] (.nm 0) (.tv (.var 2)) .nil (.ix (.var 0) (.int 0)))) (.lst (.cons (.ix (.ix (.var 2) (.neg (.int 1))) (.int 0)) .nil))))
 (.seq (.mut "append" 2 (.cons (.tup (.cons (.ix (.var 1) (.var 3)) (.cons (.ix (.var 4) (.bin .Mod (.call 0 "_law_pick" (.cons (.var 0) (.cons (.var 3) .nil))) (.bi "len" (.cons (.var 4) .nil)))) .nil))) .nil))
 .nil)))
 (.seq (.ret (.var 2))
 .nil))) [Z9 (.od,clD c),Z9 (.od,.list (ns.map .str)),Z8,Z8,Z8]=.ok (.rt .fr (.list (rs.map cwD))) by obtain⟨rs,d,u⟩:=h;exact⟨rs,d,by rw[J];exact eK u⟩
 let Q:Res Out->Prop:=λy=>∃rs,(GoodC rs/\rs.map (·.1)=ns.take n)/\y=.ok (.rt .fr (.list (rs.map cwD)))
 show Q _;have D:∀{k:Nat},k<ns.length->ns.take (k+1)=ns.take k++[ns.getD k ⟨#[]⟩]:=λ{k} K=>by rw[lh,aa,ac K];rfl
 refine dX (vi (xs:=[cwD (ns.getD 0 ⟨#[]⟩,Z8)]) (mY (bD (jB (bD (aO (aC rfl) aH.e (tQ dc (by omega)) rfl) (bD DF eN))) eN)) rfl) (q_nm (xs:=cc ((n:Int)-1).toNat) (Ja (aG aH.e (aG aH.e aY)) (by show(if _ then _ else _)=_;rw[sf (by unfold bC;omega)])) (λ_=>rfl) (λpre t=>pre=cc pre.length/\∃rs r v f,t=[Z9 (.od,clD c),Z9 (.od,.list (ns.map .str)),Z9 (.fr,.list ((rs++[r]).map cwD)),v,f]/\GoodC (rs++[r])/\(rs++[r]).map (·.1)=ns.take (pre.length+1)) ⟨rfl,[],(ns.getD 0 ⟨#[]⟩,Z8),Z8,Z8,rfl,λk s a e=>?_,?_⟩ ?_ ?_)
 .rcases k with _|k<;>cases e
 .show[ns.getD 0 ⟨#[]⟩]=ns.take 1;rw[D (by omega)];rfl
 .rintro pre x E t F ⟨w,rs,r,v,f,rfl,A,hm⟩
  have d:=congrArg kg F;rw[cv,ax,bc]at d;have g:x=pre.length:=by have:=congrArg (λl:List Nat=>l[pre.length]?) F;simp at this;rw[ej (by omega)]at this;exact(si this)▸rfl
  have L:rs.length=pre.length:=by have:=congrArg kg hm;rw[ah,ax,ek,d7]at this;omega
  let hs:List (Option Str):=Z8::((rs++[r]).map λq=>Z9 q.1)++[Z9 r.1]
  have M:hs.length=rs.length+3:=by rw[ax];simp
  have N:aL [] [jG] (.var 2) [Z9 (.od,clD c),Z9 (.od,.list (ns.map .str)),Z9 (.fr,.list ((rs++[r]).map cwD)),Z9 (.al,.int (1+x)),f]=.ok (.al,.list ((rs++[r]).map cwD)):=by rw[pL];rfl
  have G:=z2h (ρ:=[Z9 (.od,clD c),Z9 (.od,.list (ns.map .str)),Z9 (.fr,.list ((rs++[r]).map cwD)),Z9 (.al,.int (1+x)),f]) (nt:=1) (js:=[]) (N':=["_law_row"]) (tg:=.nm 0) (cond:=.nil) (elt:=.ix (.var 0) (.int 0)) (λ_=>Z7) (λq=>.str q.1) (dW N rfl) rfl (λq=>[Z9 (.al,cwD q)]) (λq _=>uB (Ep q)) (λ_ _=>rfl) λq _ _=>aO (aC rfl) aH.e rfl rfl;rw[fk.mpr λ_ _=>rfl]at G;have i:hs.map hdD=(PyData.none::(rs++[r]).map λq=>ZU q.1)++[.str r.1]:=by rw[cq,bn,et];rfl
  have j:=uE An hs;have B:imms (PyData.none::(rs++[r]).map λq=>ZU q.1)=true:=by show(Z7&&imms ((rs++[r]).map λq=>ZU q.1))=Z7;rw[uE (λ_=>rfl)];rfl
  have O:aL [] [jG] (.bin .Add (.bin .Add (.lst (.cons .aM .nil)) (.comp 1 [] ["_law_row"] (.nm 0) (.tv (.var 2)) .nil (.ix (.var 0) (.int 0)))) (.lst (.cons (.ix (.ix (.var 2) (.neg (.int 1))) (.int 0)) .nil))) [Z9 (.od,clD c),Z9 (.od,.list (ns.map .str)),Z9 (.fr,.list ((rs++[r]).map cwD)),Z9 (.al,.int (1+x)),f]=.ok (.fr,.list (hs.map hdD)):=by rw[i];refine DG (x:=.list (PyData.none::(rs++[r]).map λq=>ZU q.1)) (Ev.of (DG (Ev.of (mY (bD DF eN))) (Ev.of G) (add_list (by rw[ah];simp;omega)) B)) (Ev.of (mY (bD (aO (aO (aC rfl) (Ev.of rfl) (T8 rs r) (Ep r)).e aH.e rfl rfl) eN))) (add_list (by rw[bc];simp;omega)) (i▸j)
  obtain⟨m,⟨T,_⟩,P⟩:=yH c (k:=1+x) (by omega) (by omega);have p:0<=m%hs.length:=gm _ (by omega);have kJ:m%hs.length<hs.length:=iw _ (by omega);generalize H:hs.getD (m%hs.length).toNat Z8=o
  have C:∀a,o=Z9 a->a∈(rs++[r]).map (·.1):=λa R=>by
   have b:o∈hs:=H▸getD_mem p kJ;rw[R]at b;rcases bw.mp b with z|z
   .rcases bh.mp z with z|z
    .cases z
    .obtain⟨q,d,u⟩:=ce.mp z;cases u;exact ce.mpr ⟨q,d,rfl⟩
   .cases az.mp z;exact ce.mpr ⟨r,bf _ (az.mpr rfl),rfl⟩
  refine⟨_,gS (vi O j) (gS (I0 (x:=cwD (ns.getD (1+x) ⟨#[]⟩,o)) (jB (bD (aO (aC rfl) (aC rfl) (tQ (by omega) (by omega)) (by rfl)) (bD (aO (aC rfl) (bJ (cR (aG (aC rfl) (aG (aC rfl) aY)) rfl P rfl).e (cO (aG (aC rfl) aY) (by rw[uC,ah]) rfl).e (fC (by omega)) rfl).e (by rw[EM hdD Z8 p kJ,H]) (An o)) eN))) rfl (by rw[ah];simp;omega)) lG),?_,rs++[r],(ns.getD (1+x) ⟨#[]⟩,o),Z9 (.al,.int (1+x)),tm (Z9 (.fr,.list (hs.map hdD))),?_,A.snoc C,?_⟩
  .rw[ax,ek,List.range_succ,<-w,g]
  .rw[cq (l₁:=rs++[r])];rfl
  .rw[cq,hm,ax,ek,D (k:=pre.length+1) (by omega),<-g,Nat.add_comm x 1];rfl
 .rintro t ⟨_,rs,r,v,f,rfl,A,hm⟩
  rw[cv]at hm;exact DM (zas rfl) ⟨rs++[r],⟨A,by rw[hm];congr 1;omega⟩,rfl⟩
theorem T' (hm:p∈a)(h:look b p.1<p.2):wi a b=false:=by unfold wi;rw[List.isEmpty_eq_false_iff];exact pj (dm.mpr ⟨hm,sr h⟩)
theorem Ua (h:∀p∈a,¬look b p.1<p.2):wi a b=true:=by unfold wi;rw[jb,j3];exact λp c z=>h p c (sk z)
theorem Ub (j:PK b):vC [pk a,pk b]=.ok (.fr,.bool (wi a b)):=by
 refine eK ?_
 let Q:Res Out->Prop:=λz=>z=.ok (.rt .fr (.bool (wi a b)))
 show Q _;refine dX (zT (vg (aC rfl) rfl (Dz Z6 j.nd) (yJ b)) (Dm b)) (zo8 (RL rfl dc (gB a) rfl) (λpre d=>(∀p∈pre,¬look b p.1<p.2)/\∃f g,d=[Z9 (.od,pk a),Z9 (.od,pk b),Z9 (.fr,.dict (en b)),f,g]) ⟨nofun,Z8,Z8,rfl⟩ ?_ ?_)
 .rintro pre p h d k ⟨hn,f,g,rfl⟩
  refine⟨_,DK rfl rfl,?_⟩;have i:Tt [] [] (.tv (.cmp .Gt (.var 4) (.mt "get" (.var 2) (.cons (.var 3) (.cons (.int 0) .nil))))) [Z9 (.od,pk a),Z9 (.od,pk b),Z9 (.fr,.dict (en b)),Z9 (.al,.str p.1),Z9 (.al,.int p.2)] (decide (look b p.1<p.2)):=aP (dQ (aC rfl) (pM (aC rfl) (aG (aC rfl) (aG aH.e aY)) (Dy _ _) rfl).e rfl).e rfl;by_cases c:look b p.1<p.2
  .refine .inr ⟨.fr,.bool Z6,cB (rJ i (λ_=>cB (dU jA)) λz=>absurd c (of_decide_eq_false z)),?_⟩;show _=_;rw[T' (k▸bf _ bg) c]
  .refine .inl ⟨_,gS (rJ i (λz=>absurd (sk z) c) λ_=>lG) lG,λq l=>?_,_,_,rfl⟩;rcases bw.mp l with z|z
   .exact hn q z
   .rw[az.mp z];exact c
 .rintro d ⟨hn,f,g,rfl⟩
  show aQ _ _ _ _=_;rw[Ua hn];exact cB (dU jA)
theorem KI (n:GR p)(c:GR q):lN [mr p,mr q]=.ok (.fr,.bool (eA p q)):=by
 refine eK ?_;have b:∀{ρ:Rho} {i:Nat} {p:Bool×P×P×P},ρ[i]?=Z9 (Z9 (.od,mr p))->Vv [] [vC,qA] (.ix (.var i) (.int 1)) ρ (.str (sd p.1)):=λh=>aO (aC h) aH.e rfl rfl;have k:∀{ρ:Rho} {i j:Nat} {p q:Bool×P×P×P},ρ[i]?=Z9 (Z9 (.od,mr p))->ρ[j]?=Z9 (Z9 (.od,mr q))->GR q->Vv [] [vC,qA] (.call 0 "_law_within" (.cons (.ix (.var i) (.int 2)) (.cons (.call 1 "_law_side" (.cons (.ix (.var j) (.int 0)) (.cons (.ix (.var i) (.int 1)) .nil))) .nil))) ρ (.bool (wi p.2.2.2 (own p.1 q.2.1 q.2.2.1))):=λl o c=>cR (aG ((λh=>aO (aC h) aH.e rfl (gB _)) l).e (aG (oE (aG ((λh=>aO (aC h) aH.e rfl (vE _ _)) o).e (aG (b l).e aY)) rfl (KH _ _ _)) aY)) rfl (Ub (yG c.f c.a)) rfl;have m:Tt [] [vC,qA] (.tv (.cmp .Eq (.ix (.var 0) (.int 1)) (.ix (.var 1) (.int 1)))) [Z9 (.od,mr p),Z9 (.od,mr q)] (p.1==q.1):=aP (dQ (b rfl).e (b rfl).e (by show Res.ok (sd p.1==sd q.1)=_;rw[Ky])).e rfl;have d:=k (ρ:=[Z9 (.od,mr p),Z9 (.od,mr q)]) (i:=0) (j:=1) rfl rfl c;cases g:p.1==q.1 with
 |true=>
  have:eA p q=false:=by unfold eA ag;rw[g];rfl
  rw[this];exact tT m g (cB (dU jA))
 |false=>
  refine tU m g ?_;cases h:wi p.2.2.2 (own p.1 q.2.1 q.2.2.1)with
  |false=>
   have:eA p q=false:=by unfold eA ag;rw[h,Bool.false_and,j4]
   rw[this];rw[h]at d;exact tT (mH (aP d.e rfl)) rfl (cB (dU jA))
  |true=>
   rw[h]at d;have:eA p q=wi q.2.2.2 (own q.1 p.2.1 p.2.2.1):=by unfold eA ag;rw[h,g];rfl
   rw[this];exact tU (mH (aP d.e rfl)) rfl (cB (dU (k rfl rfl n)))
theorem KJ (p q:Bool×P×P×P):eA p q=eA q p:=TF _ _ _ _ _ _ _ _
theorem Uc (a:List Str)(t:Str):dC (.list ((a++[t]).map .str)) (.int (-1))=.ok (.str t):=by rw[cq];show Res.dE (Mi.bM (a.map ZU++[.str t]) (-1))=_;unfold Mi.bM Mi.fG;rw[sg (by decide),ax,sf (by simp only[bc,m7];omega)];show Res.dE ((a.map ZU++[.str t])[((-1:Int)+(((a.map ZU).length+1:Nat):Int)).toNat]?)=_;rw[show((-1:Int)+(((a.map ZU).length+1:Nat):Int)).toNat=(a.map ZU).length by omega,b7 (ae _),fy];rfl
theorem KN:∀b a,(nmC (a++b)).Nodup->iI (esC a) (b.map cwD)=Z9 (esC (a++b))
 | [],a,_=>by rw[eo];rfl
 |r::b,a,nd=>by
  have e:a++r::b=(a++[r])++b:=by simp
  rw[e]at nd
  have hn:=λz=>by
   have c:(nmC (a++[r])).Nodup:=by rw[nmC,cq]at nd;exact(gh.mp nd).1
   rw[nmC,cq]at c;exact(gh.mp c).2.2 _ z _ (.head _) rfl
  have d:dput (esC a) (.str r.1) (hdD r.2)=esC (a++[r]):=by rw[Jz (J5 hn)];unfold esC;rw[cq];rfl
  rw[e,<-KN b (a++[r]) nd,<-d];show(if iH (.str r.1)=Z7 then iI (dput (esC a) (.str r.1) (hdD r.2)) (b.map cwD)else Z8)=_;rw[sf (IA _)]
theorem Ud (b:Bool)(nd:(nmC rs).Nodup):aggD "dict" b (rs.map cwD)=.ok (.dict (esC rs)):=by show Res.dE ((iI (esC []) (rs.map cwD)).map PyData.dict)=_;rw[KN rs [] nd];rfl
theorem Ue (rs:List Cw):cF (esC rs)=true:=by unfold cF esC;rw[qk];exact br.mpr λr _=>An r.2
theorem Ug (nd:(nmC rs).Nodup)(j:endN (esC rs) 999 s=Z7):EC [.list (rs.map cwD),.str s]=.ok (.fr,.list ((ln (esC rs) s).map .str)):=by
 refine eK ?_
 let Q:Res Out->Prop:=λz=>z=.ok (.rt .fr (.list ((ln (esC rs) s).map .str)))
 show Q _;refine dX (zT (vg (aC rfl) rfl (Ud Z7 nd) (uE Ep rs)) (Ue rs)) (dX (vi (mY (bD (v_var rfl rfl) eN)) rfl) ?_);have ix:∀b t a,z0f (esC rs) (.str t)=Z9 a->imm a=Z7->Vv [] [] (.ix (.var 2) (.ix (.var 3) (.neg (.int 1)))) [Z9 (.od,.list (rs.map cwD)),Z9 (.od,.str s),Z9 (.fr,.dict (esC rs)),Z9 (.fr,.list ((b++[t]).map .str))] a:=λb t a e l=>aO (aC rfl) (aO (aC rfl) (⟨_,rfl⟩:Ev _ _ _ _ _) (Uc b t) rfl).e (by show(if iH (.str t)=Z7 then Res.dE (z0f (esC rs) (.str t))else Res.no)=_;rw[e];rfl) l;refine tO (P:=λc=>c=[Z9 (.od,.list (rs.map cwD)),Z9 (.od,.str s),Z9 (.fr,.dict (esC rs)),Z9 (.fr,.list ((ln (esC rs) s).map .str))]) (λk c=>∃b t,k<=999/\b.length+k=999/\endN (esC rs) k t=Z7/\ln (esC rs) s=b++cX (esC rs) k t/\c=[Z9 (.od,.list (rs.map cwD)),Z9 (.od,.str s),Z9 (.fr,.dict (esC rs)),Z9 (.fr,.list ((b++[t]).map .str))]) 999 (by decide) ⟨[],s,ae _,rfl,j,rfl,rfl⟩ ?_ ?_
 .rintro k c ⟨b,t,m,n,f,g,rfl⟩
  rcases lJ f with⟨e,h⟩|⟨a,i,rfl,e,d,h⟩
  .rw[h]at g;exact .inl ⟨aP (DI (ix b t _ e rfl).e).e rfl,by rw[g]⟩
  .refine .inr ⟨i,_,rfl,aP (DI (ix b t _ e rfl).e).e rfl,gS (I0 (ix b t _ e rfl) rfl (by rw[ah,ax];show b.length+1<1000;omega)) lG,b++[t],a,by omega,by rw[ax];show b.length+1+i=999;omega,d,by rw[g,h];simp,?_⟩;rw[cq (l₁:=b++[t])];rfl
 .rintro c rfl
  exact cB (zas rfl)
theorem cY (c:Ev Κ Φ a ρ x)(e:Ev Κ Φ b ρ y)(h:dC x y=.ok d):Ev Κ Φ (.ix a b) ρ d:=by obtain⟨g,c⟩:=c;obtain⟨f,e⟩:=e;exact⟨_,by rw[xW,c,Res.aB,e,Res.aB,h,Res.aB]⟩
abbrev TE:=Str×List D×D×Int
def cZ (t:TE):D:=.list [.str t.1,.list t.2.1,t.2.2.1,.int t.2.2.2]
def tAt (ts:List TE)(k:Nat):TE:=ts.getD k ("",[],.none,0)
theorem yL {a:List TE}(b:k<a.length):dC (.list (a.map cZ)) (.int k)=.ok (cZ (tAt a k)):=vt (by rw[ao];unfold tAt;rw[aa,ac b];rfl)
theorem yM (t:TE):dC (cZ t) (.int 0)=.ok (.str t.1):=rfl
theorem uG (t:TE):dC (cZ t) (.int 1)=.ok (.list t.2.1):=rfl
theorem EV (t:TE):dC (cZ t) (.int 2)=.ok t.2.2.1:=rfl
theorem EW (t:TE):dC (cZ t) (.int 3)=.ok (.int t.2.2.2):=rfl
def Uh (ts:List TE)(i j:Nat):Prop:=∃p q,GR p/\GR q/\(tAt ts i).2.2.1=mr p/\(tAt ts j).2.2.1=mr q/\eA p q=Z6
theorem uH {k:Nat}(d:Ev Κ Φ a ρ (.list (c.map cZ)))(f:Ev Κ Φ b ρ (.int k))(g:k<c.length)(h:imm (tAt c k).2.2.1=Z7):Vv Κ Φ (.ix (.ix a b) (.int 2)) ρ (tAt c k).2.2.1:=aO (cY d f (yL g)) aH.e (EV _) h
abbrev yN (ns:List Nat)(ts:List TE)(i j:Nat):Rho:=[Z9 (.od,.list (z0d ns)),Z9 (.od,.list (ts.map cZ)),Z9 (.al,.int i),Z9 (.al,.int j)]
theorem Ui (hn:∀k∈ns,k<d.length)(w:∀i∈ns,∀j∈ns,Uh d i j):ED [.list (z0d ns),.list (d.map cZ)]=.ok (.fr,.bool Z7):=by
 refine eK ?_
 let Q:Res Out->Prop:=λz=>z=.ok (.rt .fr (.bool Z7))
 show Q _;have m:∀{c:Rho},c[0]?=Z9 (Z9 (.od,.list (z0d ns)))->evF [] [lN] (.tv (.var 0)) c=.ok (.od,ns.map (λ(k:Nat)=>ZS k),c):=λh=>DJ h rfl rfl;refine q_nm (m rfl) (λ_=>rfl) (λ_ c=>∃g f,c=[Z9 (.od,.list (z0d ns)),Z9 (.od,.list (d.map cZ)),g,f]) ⟨Z8,Z8,rfl⟩ ?_ ?_
 .rintro pre i n c x ⟨g,f,rfl⟩
  have o:i∈ns:=x▸bf _ bg;refine q_nm (m rfl) (λ_=>rfl) (λ_ c=>∃f,c=[Z9 (.od,.list (z0d ns)),Z9 (.od,.list (d.map cZ)),Z9 (.al,.int i),f]) ⟨_,rfl⟩ ?_ ?_
  .rintro r j l c y ⟨f,rfl⟩
   have s:j∈ns:=y▸bf _ bg;obtain⟨p,q,A,B,ep,eq,cl⟩:=w i o j s;have C:Tt [] [lN] (.and (.tv (.cmp .Lt (.var 2) (.var 3))) (.tv (.call 0 "_law_clash" (.cons (.ix (.ix (.var 1) (.var 2)) (.int 2)) (.cons (.ix (.ix (.var 1) (.var 3)) (.int 2)) .nil))))) (yN ns d i j) false:=by have t:=uH (Κ:=[]) (Φ:=[lN]) (ρ:=(yN ns d i j)) (a:=.var 1) (b:=.var 2) (aC rfl) (aC rfl) (hn i o) (ep▸iO p);have u:=uH (Κ:=[]) (Φ:=[lN]) (ρ:=(yN ns d i j)) (a:=.var 1) (b:=.var 3) (aC rfl) (aC rfl) (hn j s) (eq▸iO q);rw[ep]at t;rw[eq]at u;have v:Tt [] [lN] (.tv (.call 0 "_law_clash" (.cons (.ix (.ix (.var 1) (.var 2)) (.int 2)) (.cons (.ix (.ix (.var 1) (.var 3)) (.int 2)) .nil)))) (yN ns d i j) (eA p q):=aP (cR (aG t.e (aG u.e aY)) rfl (KI A B) rfl).e rfl;rw[cl]at v;have D:Tt [] [lN] (.tv (.cmp .Lt (.var 2) (.var 3))) (yN ns d i j) (decide ((i:Int)<j)):=aP (dQ (aC rfl) (aC rfl) rfl).e rfl;have:=tS D λ_=>v;rw[j4]at this;exact this
   exact⟨_,gS (rJ C nofun λ_=>lG) lG,_,rfl⟩
  .rintro c ⟨f,rfl⟩
   exact⟨_,lG,_,_,rfl⟩
 .rintro c ⟨g,f,rfl⟩
  exact cB (dU jA)
structure Tls (K:Z5)(H:Hp)(a:Addr)(ds fs:List Addr)(ts:List TE):Prop where
 lst:H a=Z9 (.lst (ds.map V.ref))
 dl:ds.length=ts.length
 fl:fs.length=ts.length
 ent:∀(k:Nat) d f,ds[k]?=Z9 d->fs[k]?=Z9 f->∃vw vr ws,H d=Z9 (.lst [vw,.ref f,vr,.int (tAt ts k).2.2.2])/\Rep K H NoB vw (.str (tAt ts k).1)/\Rep K H NoB vr (tAt ts k).2.2.1/\H f=Z9 (.lst ws)/\Reps K H NoB ws (tAt ts k).2.1
 nd:ds.Nodup
 n1:a∉ds
 n2:a∉fs
 n3:∀d∈ds,d∉fs
section
variable {K:Z5}{H H':Hp}{a:Addr}{ds fs:List Addr}{ts:List TE}
theorem Tls.two (t:Tls K H a ds fs ts)(b:k<ts.length):∃d f,ds[k]?=Z9 d/\fs[k]?=Z9 f:=⟨_,_,ac (t.dl▸b),ac (t.fl▸b)⟩
theorem Tls.keep (t:Tls K H a ds fs ts)(c:∀b o,b=a\/b∈ds\/b∈fs->H b=Z9 o->H' b=Z9 o)(k2:∀a o,H a=Z9 o->Fix o->H' a=Z9 o):Tls K H' a ds fs ts:=⟨c _ _ (.inl rfl) t.lst,t.dl,t.fl,λk d f h i=>by obtain⟨j,l,m,n,p,q,r,s⟩:=t.ent k d f h i;have g:∀b o,H b=Z9 o->NoB (Z9 b)\/Fix o->H' b=Z9 o:=λb o e z=>k2 b o e (z.resolve_left id);exact⟨j,l,m,c _ _ (.inr (.inl (ar h))) n,Rep.keep g (λ_ z=>z) _ p,Rep.keep g (λ_ z=>z) _ q,c _ _ (.inr (.inr (ar i))) r,Reps.keep g (λ_ z=>z) _ s⟩,t.nd,t.n1,t.n2,t.n3⟩
theorem Tls.same (t:Tls K H a ds fs ts)(s:Same H H'):Tls K H' a ds fs ts:=t.keep (λb o _ e=>s b o e) λa o e _=>s a o e
theorem Tls.rep1 (t:Tls K H a ds fs ts)(e:ds[k]?=Z9 d)(b:fs[k]?=Z9 f):Rep K H AnyB (.ref d) (cZ (tAt ts k)):=by obtain⟨m,n,c,g,h,i,j,l⟩:=t.ent k d f e b;exact⟨d,_,rfl,.inl ⟨g,trivial⟩,Reps.cons (h.weak λ_ z=>z.elim) (Reps.cons (⟨f,c,rfl,.inl ⟨j,trivial⟩,l.weak λ_ z=>z.elim⟩) (Reps.cons (i.weak λ_ z=>z.elim) (Reps.cons rfl rfl)))⟩
theorem Tls.rep (t:Tls K H a ds fs ts):Rep K H AnyB (.ref a) (.list (ts.map cZ)):=by
 refine⟨a,_,rfl,.inl ⟨t.lst,trivial⟩,zD (by rw[ah,ah];exact t.dl) λi v d c e=>?_⟩;rw[ao]at c;obtain⟨b,g,rfl⟩:=a6.mp c;have h:i<ts.length:=t.dl▸(ay.mp g).1;obtain⟨_,f,_,j⟩:=t.two h;have k:(ts.map cZ)[i]?=Z9 (cZ (tAt ts i)):=by rw[ao];unfold tAt;rw[aa,ac h];rfl
 rw[k]at e;cases e;exact t.rep1 g j
theorem Tls.vF (t:Tls K H a ds fs ts)(c:b=a\/b∈ds\/b∈fs):∃g,H b=Z9 (.lst g):=by
 rcases c with rfl|c|c
 .exact⟨_,t.lst⟩
 .obtain⟨k,e⟩:=cj.mp c;obtain⟨_,f,_,i⟩:=t.two (t.dl▸(ay.mp e).1);obtain⟨_,_,_,h,_⟩:=t.ent k b f e i;exact⟨_,h⟩
 .obtain⟨k,e⟩:=cj.mp c;obtain⟨d,_,ed,_⟩:=t.two (t.fl▸(ay.mp e).1);obtain⟨_,_,g,_,_,_,h,_⟩:=t.ent k d b ed e;exact⟨g,h⟩
theorem Tls.there (t:Tls K H a ds fs ts)(c:b=a\/b∈ds\/b∈fs):H b≠none:=by obtain⟨d,h⟩:=t.vF c;rw[h];simp
theorem KO (a:k<ts.length):tAt (ts.set k e) j=if j=k then e else tAt ts j:=by
 unfold tAt;rw[aa];split
 .rename_i z;subst z;rw[bv a];rfl
 .rename_i z;rw[bp (Ne.symm z),<-aa]
theorem Tls.set1 (t:Tls K H a ds fs ts)(x:k<ts.length)(ed:ds[k]?=Z9 d)(E:fs[k]?=Z9 y)(hd:H d=Z9 (.lst [q,.ref y,r,.int (tAt ts k).2.2.2]))(G:H f=Z9 (.lst A))(s:Reps K H NoB A F)(I:f≠a)(B:f∉ds):
  Tls K (upd H d (.lst [q,.ref f,r,.int (tAt ts k).2.2.2])) a ds (fs.set k f) (ts.set k ((tAt ts k).1,F,(tAt ts k).2.2)):=by
 have c:=yk (ys:=[q,.ref f,r,.int (tAt ts k).2.2.2]) hd;have e:=ar ed;have md:∀{b:Addr},b∉ds->b≠d:=λh z=>h (z▸e);refine⟨by rw[aE (md t.n1)];exact t.lst,by rw[bx];exact t.dl,by rw[bx,bx];exact t.fl,λj u C n g=>?_,t.nd,t.n1,λz=>?_,λu D z=>?_⟩
 .rw[KO x];by_cases o:j=k
  .subst o;rw[ed]at n;cases n;rw[bv (t.fl▸x)]at g;cases g;obtain⟨i,l,m,p,v,w,_⟩:=t.ent j d y ed E;rw[hd]at p;cases p;rw[sf rfl];exact⟨q,r,A,bF,Rep.keep c (λ_ z=>z) _ v,Rep.keep c (λ_ z=>z) _ w,by rw[aE (md B)];exact G,Reps.keep c (λ_ z=>z) _ s⟩
  .rw[bp (Ne.symm o)]at g;obtain⟨i,l,m,p,v,w,J,L⟩:=t.ent j u C n g;have n2:C≠d:=λz=>t.n3 d e (z▸ar g);rw[sg o];exact⟨i,l,m,by rw[aE (λz=>by subst z;exact o (yl t.nd n ed))];exact p,Rep.keep c (λ_ z=>z) _ v,Rep.keep c (λ_ z=>z) _ w,by rw[aE n2];exact J,Reps.keep c (λ_ z=>z) _ L⟩
 .rcases g0 z with z|z
  .exact t.n2 z
  .exact I z.symm
 .rcases g0 z with z|z
  .exact t.n3 u D z
  .exact B (z▸D)
theorem EX (e:(l++[x])[k]?=Z9 y):(k<l.length/\l[k]?=Z9 y)\/(k=l.length/\y=x):=by grind
theorem KP (a:k<ts.length):tAt (ts++[e]) k=tAt ts k:=by unfold tAt;rw[aa,c7 a,<-aa]
theorem KQ:tAt (ts++[e]) ts.length=e:=by unfold tAt;rw[aa,b7 (ae _),fy];rfl
theorem Tls.put1 (t:Tls K H a ds fs ts)(hd:H d=Z9 (.lst [p,.ref f,q,.int e.2.2.2]))(j:Rep K H NoB p (.str e.1))(rr:Rep K H NoB q e.2.2.1)(w:H f=Z9 (.lst r))(A:Reps K H NoB r e.2.1)(s:d≠a)(B:d∉ds)(C:d∉fs)(u:f≠a)(D:f∉ds)(E:d≠f):
  Tls K (upd H a (.lst (ds.map V.ref++[.ref d]))) a (ds++[d]) (fs++[f]) (ts++[e]):=by
 have c:=yk (ys:=ds.map V.ref++[.ref d]) t.lst;refine⟨by rw[bF,cq];rfl,by rw[ax,ax,t.dl];rfl,by rw[ax,ax,t.fl];rfl,λk h v i g=>?_,?_,λz=>?_,λz=>?_,λh b z=>?_⟩
 .rcases EX i with⟨F,i⟩|⟨rfl,rfl⟩
  .have l:k<ts.length:=t.dl▸F;rcases EX g with⟨_,g⟩|⟨z,_⟩
   .obtain⟨m,n,o,G,I,J,L,M⟩:=t.ent k h v i g;rw[KP l];exact⟨m,n,o,by rw[aE λ(z:h=a)=>t.n1 (z▸ar i)];exact G,Rep.keep c (λ_ z=>z) _ I,Rep.keep c (λ_ z=>z) _ J,by rw[aE λ(z:v=a)=>t.n2 (z▸ar g)];exact L,Reps.keep c (λ_ z=>z) _ M⟩
   .rw[t.fl]at z;omega
  .rcases EX g with⟨z,_⟩|⟨_,rfl⟩
   .rw[t.fl,<-t.dl]at z;omega
   .rw[t.dl,KQ];exact⟨p,q,r,by rw[aE s];exact hd,Rep.keep c (λ_ z=>z) _ j,Rep.keep c (λ_ z=>z) _ rr,by rw[aE u];exact w,Reps.keep c (λ_ z=>z) _ A⟩
 .exact gh.mpr ⟨t.nd,by simp,λx N y O z=>B (by rw[<-az.mp O,<-z];exact N)⟩
 .rcases bw.mp z with z|z
  .exact t.n1 z
  .exact s (az.mp z).symm
 .rcases bw.mp z with z|z
  .exact t.n2 z
  .exact u (az.mp z).symm
 .rcases bw.mp b with b|b<;>rcases bw.mp z with z|z
  .exact t.n3 h b z
  .exact D (az.mp z▸b)
  .exact C (az.mp b▸z)
  .exact E ((az.mp b).symm.trans (az.mp z))
end
inductive Sl (K:Z5)(H:Hp):L2.St->Rho->Prop where
 |nil:Sl K H [] []
 |no {o:Option V} {σ:L2.St} {ρ:Rho} (t:Sl K H σ ρ):Sl K H (o::σ) (Z8::ρ)
 |da {v:V} {d:D} {B:Ad->Prop} {σ:L2.St} {ρ:Rho} (r:Rep K H B v d) (t:Sl K H σ ρ):Sl K H (Z9 v::σ) (Z9 (.od,d)::ρ)
theorem Sl.len {K:Z5}(s:Sl K H σ ρ):σ.length=ρ.length:=by
 induction s with
 |nil=>rfl
 |no t a=>rw[bc,bc,a]
 |da r t a=>rw[bc,bc,a]
theorem Sl.at {K:Z5}(s:Sl K H σ ρ):∀(i:Nat) g d,ρ[i]?=Z9 (Z9 (g,d))->g=G.od/\∃v B,σ[i]?=Z9 (Z9 v)/\Rep K H B v d:=by
 induction s with
 |nil=>intro i g d e;cases e
 |no t a=>
  intro i g d e;cases i with
  |zero=>cases e
  |succ i=>exact a i g d e
 |da r t a=>
  intro i g d e;cases i with
  |zero=>cases e;exact⟨rfl,_,_,rfl,r⟩
  |succ i=>exact a i g d e
theorem Sl.so {K:Z5}(s:Sl K H a b):StOk K (F0 H) H a b:=pQ s.len s.at
theorem iB {K:Z5}(tl:L2.St):Sl K H tl (bz tl.length Z8):=by
 induction tl with
 |nil=>exact .nil
 |cons o tl a=>exact .no a
theorem KR {A:Ha}{x p b:Addr}(hb:({A with as:=A.as++[p]}:Ha).own x b):A.own x b\/b=p:=by
 rcases hb with h|h|h|h|h
 .exact .inl (.inl h)
 .exact .inl (.inr (.inl h))
 .exact .inl (.inr (.inr (.inl h)))
 .exact .inl (.inr (.inr (.inr (.inl h))))
 .rcases bw.mp h with h|h
  .exact .inl (.inr (.inr (.inr (.inr h))))
  .exact .inr (az.mp h)
theorem Uj {A:Ha}{x p b:Addr}(hb:A.own x b):({A with as:=A.as++[p]}:Ha).own x b:=by
 rcases hb with h|h|h|h|h
 .exact .inl h
 .exact .inr (.inl h)
 .exact .inr (.inr (.inl h))
 .exact .inr (.inr (.inr (.inl h)))
 .exact .inr (.inr (.inr (.inr (dt _ h))))
section
variable {K:Z5}{HC CC:Addr}{mg:Str->Option Value}{H1:Hp}{Q:Addr->Hp->Prop}{E:XK}
theorem kH (ct:Crt K CC H1 y dy d kvs es)(i:z0m [] (es.map ent)=Z9 es)(j:es.length<1000)(q:∀x A a,Same H1 a->H1 x=Z8->(∀b,A.own x b->H1 b=Z8)->H1 A.c=Z8->Hou K HC CC a x A ⟨es,[],[],Z8⟩->Q x a):
  ∀x dx,H1 x=Z8->H1 dx=Z8->dx≠x->spHi K HC CC (.ref x::([.ref y]++[])) (upd (upd H1 dx (.own x)) x (.ins HC dx [])) (λv k=>v=.aM/\Q x k) E:=by
 intro x dx f h l;have g:Same H1 (upd (upd H1 dx (.own x)) x (.ins HC dx [])):=λb o e=>by rw[aE (bO e f),aE (bO e h)];exact e
 refine⟨x,dx,y,dy,d,kvs,es,rfl,bF,ct.same g,i,j,λa A m n p t=>⟨rfl,q x A a (λb o e=>m b o (bO e f) (g b o e)) f (λb r=>?_) (g.none p) t⟩⟩;rcases n b r with rfl|z
 .exact f
 .exact g.none z
theorem kC (rp:Rep K H1 B vp (.list ps))(af:z0m [] ps=Z9 es)(hz:ps.length<1000)(q:∀x dx d kvs H',Same H1 H'->H1 x=Z8->H1 d=Z8->Crt K CC H' x dx d kvs es->Q x H'):
  ∀x dx,H1 x=Z8->H1 dx=Z8->dx≠x->zaz K CC mg (.ref x::([vp]++[])) (upd (upd H1 dx (.own x)) x (.ins CC dx [])) (λv H2=>v=.aM/\Q x H2) E:=by
 intro x dx hx Uk Cs;have s2:Same H1 (upd (upd H1 dx (.own x)) x (.ins CC dx [])):=λb o e=>by rw[aE (bO e hx),aE (bO e Uk)];exact e
 obtain⟨im,Ej⟩:=Eh af;refine⟨x,dx,vp,ps,AnyB,rfl,bF,rp.same s2 λ_ _=>trivial,im,Ej,hz,?_⟩;generalize upd (upd H1 dx (.own x)) x (.ins CC dx [])=H2 at s2;unfold ud;rw[af];exact λH' d kvs hd k1 ct=>⟨rfl,q x dx d kvs H' (λb o e=>k1 b o (bO e hx) (s2 b o e)) hx (s2.none hd) ct⟩
end
theorem Ul:Hok b ⟨es,[],[],Z8⟩:=⟨rfl,cz _,(λe a=>(by cases a)),(λf hf=>(by cases hf))⟩
theorem eB (a:Z.Κ=[])(b:Z.Φ=Φ)(s:Sl Z.K H g ρ)(e:Ev [] Φ c ρ d)(q:∀v f,Same H f->Rep Z.K f AnyB v d->Q v f):wE Z (.aT c) g H Q:=by obtain⟨h,e⟩:=e;exact ye s.so (by rw[a,b];exact e) q
theorem gF (a:Z.Κ=[])(d:Z.Φ=Φ)(s:Sl Z.K H g ρ)(e:Tt [] Φ c ρ b)(q:∀f,Same H f->R b f):wT Z (.tp c) g H R:=SA s.so (by rw[a,d];exact e) q
theorem Sl.eU {K:Z5}(t:Sl K H a ρ):Sl K H (Z9 (.int i)::a) (Z9 (.od,.int i)::ρ):=.da (B:=AnyB) (d:=.int i) rfl t
theorem KS {b:L2.St}(d:a.length=b.length)(e:a[i]?=Z9 (Z9 w))(r:∀j,j≠i->a[j]?=b[j]?):a=b.set i (Z9 w):=by
 refine g9 λj=>?_;by_cases c:j=i
 .subst c;rw[e,bv (d▸(ay.mp e).1)]
 .rw[r j c,bp (Ne.symm c)]
theorem vG {K:Z5}(r:Rep K H B v d)(b:i<a.length)(q:∀w,Rep K H AnyB w d->Q (a.set i (Z9 w)) H):tDG K (.nm i) v a H Q:=zek r b λc w f e g rest=>by rw[KS f e rest];exact q w g
theorem zfd (v:Z.Κ=[])(x:Z.Φ=Φ)(sl:Sl Z.K H E F)(ev:evW [] Φ it F=.ok (g,i))(M:Hp->Hp->Prop)(N:∀a,M a a)(O:∀a h j,M a h->M h j->M a j)(ms:∀a h,Same a h->M a h)
  (mk:∀a h,Same H a->M a h->∀b o,a b=Z9 o->(BG (F0 H) H g (Z9 b)/\¬nw a (Z9 b)\/Fix o)->h b=Z9 o) (I:Nat->L2.St->Hp->Prop) (P:∀a,Same H a->I 0 E a)
  (one:∀k y d c f h A,i[k]?=Z9 d->I k c f->Same f h->Rep Z.K h AnyB y d->A.rt=D0.rt->(∀l j,I (k+1) l j->M f j->A.nx l j)->tDG Z.K t y c h (wS Z b A))
  (q:∀c f,I i.length c f->D0.nx c f):wS Z (.aV t it b) D0 E H:=by
 refine⟨F,F0 H,(g,i),sl.so,by rw[v,x];exact ev,λJ B a G Q C=>?_⟩;have kp:∀f,M a f->Kp B a f:=λf m b o e z=>mk a f G m b o e (z.imp (λz=>Q _ z) id);refine⟨λk n c f=>n=i.length-k/\k<=i.length/\M a f/\I k c f,⟨_,rfl,cz _,N _,P a G⟩,?_⟩
 rintro k n c f ⟨rfl,V,u,L⟩
 by_cases p:k<i.length
 .refine .inr ⟨C.go f (kp _ u) k p,λs h=>k+1<=i.length/\M a h/\I (k+1) s h,λs h w=>⟨i.length-(k+1),by omega,rfl,w⟩,λy h R=>?_⟩;obtain⟨S,d,e,r⟩:=C.gR f (kp _ u) k y h p R;exact one k y d c f h _ e L S (r.weak λ_ _=>trivial) rfl λl j T U=>⟨p,O _ _ _ u U,T⟩
 .have D:k=i.length:=by omega
  subst D;exact .inl ⟨C.stop f (kp _ u),q c f L⟩
theorem z66 (j:Z.Κ=[])(l:Z.Φ=Φ)(sl:Sl Z.K H s ρ)(ev:evW [] Φ it ρ=.ok (g,u))(I:Nat->L2.St->Hp->Prop)(w:∀n,Same H n->I 0 s n)
  (one:∀k y d a c i p,u[k]?=Z9 d->I k a c->Same c i->Rep Z.K i AnyB y d->p.rt=v.rt->(∀f r,I (k+1) f r->Same c r->p.nx f r)->tDG Z.K t y a i (wS Z b p))
  (q:∀a c,I u.length a c->v.nx a c):wS Z (.aV t it b) v s H:=
 zfd j l sl ev Same Same.refl (λ_ _ _=>Same.trans) (λ_ _ h=>h) (λn i _ m b o e _=>m b o e) I w one q
theorem zc2 (i:Z.Κ=[])(j:Z.Φ=Φ)(sl:Sl Z.K H u B)(ev:evW [] Φ it B=.ok (.fr,v))(T:Addr->Prop)(C:∀b,T b->∃o,H b=Z9 o/\¬Fix o)(I:Nat->L2.St->Hp->Prop)(D:∀g,Same H g->I 0 u g)
  (one:∀k y d a c f l,v[k]?=Z9 d->I k a c->Same c f->Rep Z.K f AnyB y d->l.rt=x.rt->(∀h p,I (k+1) h p->(∀b o,¬T b->c b=Z9 o->p b=Z9 o)->l.nx h p)->tDG Z.K t y a f (wS Z b l))
  (q:∀a c,I v.length a c->x.nx a c):wS Z (.aV t it b) x u H:=
 zfd i j sl ev (λg f=>∀b o,¬T b->g b=Z9 o->f b=Z9 o) (λ_ _ _ _ e=>e) (λ_ _ _ E F b o n e=>F b o n (E b o n e)) (λ_ _ s b o _ e=>s b o e) (λg f s m b o e z=>m b o (λw=>by
  obtain⟨G,r,nf⟩:=C b w;have A:=s b G r;rw[e]at A;cases A;rcases z with z|z
  .have J:nw H (Z9 b):=z.1;have:H b=none:=J;rw[this]at r;cases r
  .exact nf z) e) I D one q
theorem KU:∀{n m:Nat} {s:Str},endN es n s=Z7->n<=m->cX es m s=cX es n s:=λ{n}=>by
 induction n with
 |zero=>
  intro m s h hm;rcases lJ h with⟨e,l⟩|⟨_,_,z,_⟩
  .rw[l];rcases lJ (rS h hm)with⟨_,d⟩|⟨a,f,_,c,_⟩
   .exact d
   .rw[e]at c;cases c
  .cases z
 |succ n g=>
  intro m s h hm;rcases lJ h with⟨e,l⟩|⟨a,f,z,e,i,l⟩
  .rw[l];rcases lJ (rS h hm)with⟨_,d⟩|⟨a,f,_,c,_⟩
   .exact d
   .rw[e]at c;cases c
  .cases z;rw[l];rcases lJ (rS h hm)with⟨c,_⟩|⟨b,k,j,c,_,d⟩
   .rw[e]at c;cases c
   .rw[e]at c;cases c;rw[d,g i (by omega)]
theorem EY:∀{n:Nat} {s u:Str},endN es n s=Z7->u∈cX es n s->cX es n u<:+cX es n s/\endN es n u=true:=λ{n}=>by
 induction n with
 |zero=>
  intro s u h hu;rcases lJ h with⟨_,l⟩|⟨_,_,z,_⟩
  .rw[l]at hu;rw[az.mp hu];exact⟨ml _,h⟩
  .cases z
 |succ n c=>
  intro s u h hu;rcases lJ h with⟨_,l⟩|⟨a,g,z,e,d,l⟩
  .rw[l]at hu;rw[az.mp hu];exact⟨ml _,h⟩
  .cases z;rw[l]at hu;rcases bh.mp hu with rfl|hu
   .exact⟨ml _,h⟩
   .obtain⟨f,b⟩:=c d hu;rw[l,KU b (g8 n)];exact⟨f.trans (List.suffix_cons _ _),rS b (g8 n)⟩
theorem yO (h:endN es n s=Z7):s∈cX es n s:=by rcases lJ h with⟨_,l⟩|⟨_,_,_,_,_,l⟩<;>rw[l]<;>exact .head _
theorem Um (h:endN es 999 s=Z7)(c:a∈ln es s)(d:b∈ln es s):a∈ln es b\/b∈ln es a:=by
 obtain⟨a1,a2⟩:=EY h c;obtain⟨e,f⟩:=EY h d;rcases List.suffix_or_suffix_of_suffix a1 e with z|z
 .exact .inl (z.subset (yO a2))
 .exact .inr (z.subset (yO f))
theorem Uo (h:endN es 999 s=Z7)(e:z0f es (.str s)=Z9 (.str a)):ln es s=s::ln es a/\endN es 999 a=Z7/\s∉ln es a:=by
 rcases lJ h with⟨e2,_⟩|⟨b,m,z,e2,h2,l⟩
 .rw[e]at e2;cases e2
 .rw[e]at e2;cases e2;cases z;have la:ln es a=cX es 998 a:=KU h2 dc;have h3:endN es 999 a=true:=rS h2 dc;have l':ln es s=s::ln es a:=la▸l;refine⟨l',h3,λz=>?_⟩;have:=(EY h3 z).1.length_le;have e3:=congrArg kg l';rw[bc]at e3;have:(ln es s).length<=(ln es a).length:=this;omega
theorem Up (h:endN es 999 s=Z7)(e:z0f es (.str s)=Z9 .none):ln es s=[s]:=by
 rcases lJ h with⟨_,l⟩|⟨b,m,z,a,c,l⟩
 .exact l
 .rw[e]at a;cases a
section
variable {φ:cT}{h:Hd}{s w:Str}{n:Int}{r:D}
theorem jI:k∈bZ φ h s w .none↔k<h.en.length/\(h.at k).2.1=w/\(h.fa k).length=1/\(h.at k).1∈ln h.es s:=by
 unfold bZ lM;rw[dm,dm,φ.s0];simp;constructor
 .rintro⟨⟨a,b,c⟩,d⟩;exact⟨a,b,c,d⟩
 .rintro⟨a,b,c,d⟩;simp_all
def Apt (φ:cT)(h:Hd):Prop:=∀s w,z1a h.es s=Z7->∀i∈bZ φ h s w .none,∀j∈bZ φ h s w .none,φ.ag (h.at i).2.2 (h.at j).2.2=Z6
theorem kU {ld:Option Int}(a:k<h.en.length):Hd.at ⟨h.es,h.en++[e],ft,ld⟩ k=h.at k:=by unfold Hd.at;rw[aa,c7 a,<-aa]
theorem iC {ld:Option Int}:Hd.at ⟨h.es,h.en++[e],ft,ld⟩ h.en.length=e:=by unfold Hd.at;rw[aa,b7 (ae _),fy];rfl
theorem EZ (t:D):∀L ft k,k∉L->(fL ft L t).getD k []=ft.getD k []
 | [],ft,k,_=>rfl
 |i::L,ft,k,h=>by show(fL (ft.set i (ft.getD i []++[t])) L t).getD k []=_;rw[EZ t L _ k λz=>h (.tail _ z),aa,bp (λ(z:i=k)=>h (z▸ .head _)),<-aa]
theorem KW (t:D):∀L ft k,L.Nodup->k∈L->k<ft.length->(fL ft L t).getD k []=ft.getD k []++[t]
 |i::L,ft,k,nd,b,a=>by
  show(fL (ft.set i (ft.getD i []++[t])) L t).getD k []=_;obtain⟨n1,n2⟩:=du.mp nd;by_cases z:k=i
  .subst z;rw[EZ t L _ k n1,aa,bv a];rfl
  .rw[KW t L _ k n2 ((bh.mp b).resolve_left z) (by rw[bx];exact a),aa,bp (Ne.symm z),<-aa]
theorem Ar (t:D):∀L ft,(fL ft L t).length=ft.length
 | [],ft=>rfl
 |i::L,ft=>by show(fL (ft.set i (ft.getD i []++[t])) L t).length=_;rw[Ar t L,bx]
theorem Eo:(fll φ h s w r).Nodup:=(jg.trans jg).nodup j9
theorem E1 (a:h.ft.length=h.en.length)(b:k<h.en.length):(h.put n s w r (fll φ h s w r)).fa k=if k∈fll φ h s w r then h.fa k++[z71 n h.en.length]else h.fa k:=by
 have e:(h.put n s w r (fll φ h s w r)).fa k=(fL h.ft (fll φ h s w r) (z71 n h.en.length)).getD k []:=by show List.getD (_++_) k []=_;rw[aa,c7 (by rw[Ar,a];exact b),<-aa]
 rw[e];split
 .rename_i z;exact KW _ _ _ k Eo z (a▸b)
 .rename_i z;exact EZ _ _ _ k z
theorem As (a:h.ft.length=h.en.length):(h.put n s w r (fll φ h s w r)).fa h.en.length=[dZ n s]:=by show List.getD (_++_) _ []=_;rw[aa,b7 (by rw[Ar,a];exact ae _),Ar,a,fy];rfl
theorem E2:k∈fll φ h s w r↔k<h.en.length/\(h.at k).2.1=w/\(h.fa k).length=1/\(h.at k).1≠s/\s∈ln h.es (h.at k).1/\φ.ag (h.at k).2.2 r=true:=by
 unfold fll lM;rw[dm,dm,φ.s0];simp;constructor
 .rintro⟨⟨a,b,c⟩,⟨d,e⟩,f⟩;simp_all
 .rintro⟨a,b,c,d,e,f⟩;simp_all
theorem Apt.put (ap:Apt φ h)(C:h.ft.length=h.en.length)(D:z1a h.es s=Z7)(nb:bar φ h s w r=Z8)(sy:∀k,k<h.en.length->φ.ag r (h.at k).2.2=φ.ag (h.at k).2.2 r)(rr:φ.ag r r=Z6):Apt φ (h.put n s w r (fll φ h s w r)):=by
 have d:=λk m=>by have:=lj.mp nb k m;simpa using this
 have old:∀{a c k},k∈bZ φ (h.put n s w r (fll φ h s w r)) a c .none->k<h.en.length->k∈bZ φ h a c .none/\k∉fll φ h s w r:=λ{a c k} m f=>by
  obtain⟨_,k2,p,x⟩:=jI.mp m;rw[show Hd.at (h.put n s w r (fll φ h s w r)) k=h.at k from kU f]at k2 x;rw[E1 C f]at p;by_cases z:k∈fll φ h s w r
  .rw[sf z,ax]at p;have:=(E2.mp z).2.2.1;rw[this]at p;cases p
  .rw[sg z]at p;exact⟨jI.mpr ⟨f,k2,p,x⟩,z⟩
 have one:∀{a c k},z1a h.es a=Z7->k∈bZ φ (h.put n s w r (fll φ h s w r)) a c .none->k<h.en.length->h.en.length∈bZ φ (h.put n s w r (fll φ h s w r)) a c .none->φ.ag (h.at k).2.2 r=false:=λ{a c k} b m f hn=>by
  obtain⟨E,F⟩:=old m f;obtain⟨_,u,v,G⟩:=jI.mp E;obtain⟨_,n2,_,A⟩:=jI.mp hn;rw[show Hd.at (h.put n s w r (fll φ h s w r)) h.en.length=(s,w,r)from iC]at n2 A;subst n2;cases g:φ.ag (h.at k).2.2 r with
  |false=>rfl
  |true=>
   by_cases z:(h.at k).1=s
   .have :=d k (jI.mpr ⟨f,u,v,by rw[z];exact yO (au.mp D).2⟩);rw[g]at this;cases this
   .rcases Um ((au.mp b).2) G A with y|y
    .have :=d k (jI.mpr ⟨f,u,v,y⟩);rw[g]at this;cases this
    .exact(F (E2.mpr ⟨f,u,v,z,y,g⟩)).elim
 intro a c b i q j t;have B:∀{k},k∈bZ φ (h.put n s w r (fll φ h s w r)) a c .none->k<h.en.length\/k=h.en.length:=λ{k} m=>by have:=(jI.mp m).1;have e:(h.put n s w r (fll φ h s w r)).en.length=h.en.length+1:=ax;omega
 rcases B q with o|o<;>rcases B t with l|l
 .rw[show Hd.at (h.put n s w r (fll φ h s w r)) i=h.at i from kU o,show Hd.at (h.put n s w r (fll φ h s w r)) j=h.at j from kU l];exact ap a c b i (old q o).1 j (old t l).1
 .subst l;rw[show Hd.at (h.put n s w r (fll φ h s w r)) i=h.at i from kU o,show Hd.at (h.put n s w r (fll φ h s w r)) h.en.length=(s,w,r)from iC];exact one b q o t
 .subst o;rw[show Hd.at (h.put n s w r (fll φ h s w r)) j=h.at j from kU l,show Hd.at (h.put n s w r (fll φ h s w r)) h.en.length=(s,w,r)from iC];exact(sy j l).trans (one b t l q)
 .subst o;subst l;rw[show Hd.at (h.put n s w r (fll φ h s w r)) h.en.length=(s,w,r)from iC];exact rr
end
namespace L5
def ov:WS:=.seq (.exp (.bE (.raw 0) 0 (.cons (.raw 1) (.cons (.raw 2) .nil))))
 (.seq (.exp (.bE (.raw 0) 1 (.cons (.raw 3) .nil)))
 (.seq (.ifS (.not (.jD (.fJ 0 (.cons (.ix Hs.FA (.raw 3)) (.cons (.aT .aM) .nil))))) (.seq (.iS "NoRuling") .nil) .nil)
 (.seq (.ifS (.tc .NotIn (.raw 2) (.bE Hs.CO 2 (.cons (.ix (.ix Hs.EN (.raw 3)) (.aT (.int 0))) .nil))) (.seq (.iS "NotYours") .nil) .nil)
 (.seq (.app (.lH Hs.FA (.raw 3)) (.tup (.cons (.aT (.str "overruled")) (.cons (.raw 1) (.cons (.raw 2) .nil)))))
 (.seq (.fld (.raw 0) "last_day" (.raw 1)) .nil)))))
end L5
theorem KY:ZV "overruled"=true:=by decide+kernel
def uI (n:Int)(s:Str):D:=.tuple [.str "overruled",.int n,.str s]
def _root_.Mi.Hd.gT (h:Hd)(n:Int)(s:Str)(k:Nat):Hd:={h with ft:=h.ft.set k (h.fa k++[uI n s]),ld:=Z9 n}
theorem KZ (a:Str)(c:List Str):cmpD .NotIn (.str a) (.list (c.map .str))=.ok (!c.contains a):=by have:=Ag a c;show(cmpD .In (.str a) (.list (c.map .str))>>=λb=>Res.ok (!b))=_;rw[this];rfl
def spO5 (φ:cT)(K:Z5)(HC CC:Addr)(mg:Str->Option Value):Sp:=λvs H Q E=>∃x A h n vc s k B,vs=[.ref x,.int n,vc,.int (k:Nat)]/\Hou K HC CC H x A h/\Hok φ h/\k<h.en.length/\Rep K H B vc (.str s)/\z1a h.es s=Z7/\(ln h.es (h.at k).1).contains s=Z7/\late h.ld n=Z6/\if(h.fa k).length=1 then ∀H',fF A x H H'->Hou K HC CC H' x A (h.gT n s k)->Q .aM H' else bY mg "NoRuling" H E
theorem zog (w:HouK Z.K i)(m0:Z.me[0]?=Z9 (i,("check_deed":Str),spCd Z.K i CC Z.mg))(m1:Z.me[1]?=Z9 (i,("check_number":Str),spCn Z.K i CC Z.mg))(m2:Z.me[2]?=Z9 (CC,("line":Str),z5e Z.K CC Z.mg))(hz:Z.fn[0]?=Z9 sp)(hs:StS L Z.K sp)(t:Hou Z.K i CC H x A h)(ok:Hok L h)(M:k<h.en.length)(N:Rep Z.K H B y (.str s))(hc:z1a h.es s=Z7)(O:(ln h.es (h.at k).1).contains s=Z7)(P:late h.ld n=Z6)
  (q:if(h.fa k).length=1 then ∀Q,fF A x H Q->Hou Z.K i CC Q x A (h.gT n s k)->∀σ,D0.nx σ Q else bY Z.mg "NoRuling" H Z.E):wS Z L5.ov D0 [Z9 (.ref x),Z9 (.int n),Z9 y,Z9 (.int k)] H:=by
 obtain⟨m,rfl,hm⟩:=hs;obtain⟨g1,g2⟩:=au.mp hc;refine t.bE m0 rfl (aI (aF rfl (aI (aF rfl (bI ⟨x,A,h,y,.str s,n,B,rfl,t,N,?_⟩)))));rw[sf g1];refine⟨⟨s,rfl,g2⟩,?_⟩;rw[sg (by rw[P];decide)];intro H1 R;refine(t.same R).bE m1 rfl (aI (aF rfl (bI ⟨x,A,h,k,rfl,t.same R,ok.big,?_⟩)));rw[sf (by unfold kR;simp;omega)];intro H2 s2;have j:=R.trans s2;have S:=t.same j;have l:k<h.ft.length:=ok.len▸M;obtain⟨g,T⟩:=hm (h.fa k) .none L.d0 (ok.fo _ (ar (Hd.eT l)));refine bP (dD ?_);refine ue (yd hz (aI (iM (vo w S rfl (aF rfl (hY S.ug (JL l) λw3 r3=>aI (z6 λH3 s3=>bI ⟨AnyB,[.list (h.fa k),.none],_,rfl,Reps.cons (r3.sm s3) (Reps.cons rfl rfl),T,λv4 H4 s4 r4=>?_⟩)))))));cases r4;have r:=s3.trans s4;have D:=S.same r;refine⟨_,rfl,?_⟩;rw[L.s0];by_cases F:(h.fa k).length=1
 case neg=>rw[sg F]at q;rw[show((h.fa k).length==1)=Z6 from beq_eq_false_iff_ne.mpr F];exact λC e=>q C H4 e (j.trans r)
 rw[sf F]at q;rw[F];refine bV Z (bP (dD (rP (aF rfl (vj m2 (Ae w D rfl ⟨A.c,A.dc,_,rfl,D.bR.ins,rfl,aI (iM (iM (pR w D rfl (aF rfl (hY D.fW (yi M) λw5 r5=>nI λH5 U=>hY (r5.sm U) rfl λw6 r6=>bI ⟨A.c,A.dc,A.d,A.kvs,h.es,w6,.str (h.at k).1,AnyB,rfl,(D.same U).bR,r6,?_⟩)))))⟩))))));obtain⟨q1,q2,q3⟩:=ok.gd _ (ar (Hd.get M));obtain⟨g4,g5⟩:=au.mp q3;rw[sf g4];refine⟨(h.at k).1,999,rfl,by decide,g5,λH6 p6 s6 n6 e6=>?_⟩;have u:=j.trans (r.trans (U.trans s6));refine kQ (N.sm u) (Ea (t.same u) r6.2 e6) (KZ _ _) λH7 s7=>⟨_,rfl,?_⟩;rw[O];have v:=u.trans s7;have G:=t.same v;have a:k<A.as.length:=t.gC.1▸l;obtain⟨I,e1,r1⟩:=G.gC.2 k A.as[k] (ac a);refine bV Z (bP (vy (yf (vo w G rfl (aF rfl (.inl ⟨A.lf,_,k,.ref A.as[k],rfl,rfl,SqL.of G.jR,?_,.inl ⟨rfl,_,SqL.of e1⟩,z7 (aI (D7 KY λW s8=>aI (aF rfl (aI (aF rfl (bI ⟨by rw[db];simp,λp hp=>?_⟩))))))⟩))))))
 .have :(A.as.map V.ref)[k]?=Z9 (.ref A.as[k]):=by rw[ao,ac a];rfl
  unfold L2.bM;have X:L2.fG (A.as.map V.ref).length k=Z9 k:=by unfold L2.fG;rw[sf (by omega),sf (by grind),fi]
  rw[X];exact this
 have f:=s8.trans (Same.upd (o:=.tup [.str "overruled",.int n,y]) hp);have e9:=f _ _ e1;have ry:Rep Z.K (upd W p (.tup [.str "overruled",.int n,y])) NoB (.ref p) (uI n s):=pU hp (Reps.cons ⟨rfl,KY⟩ (Reps.cons rfl (Reps.cons (Rep.aS _ rfl (N.sm (v.trans s8))) rfl)));refine⟨A.as[k],I,.ref p,rfl,rfl,e9,?_,?_⟩
 .have :=r1.length;rw[show I.length=(h.fa k).length from this,F];decide
 have tA:=(G.same f).rR (ac a) e9 (r1.sm f) ry;have fA:fF A x H (upd (upd W p (.tup [.str "overruled",.int n,y])) A.as[k] (.lst (I++[.ref p]))):=λb o J e=>by rw[aE λ(z:b=A.as[k])=>J (.inr (.inr (.inr (.inr (z▸ja a)))))];exact f b o (v b o e)
 generalize upd (upd W p (.tup [.str "overruled",.int n,y])) A.as[k] (.lst (I++[.ref p]))=HA at tA fA;obtain⟨vd,d1,_⟩:=tA.ins;refine bP (vz (aF rfl (aF rfl ⟨x,i,A.dx,_,rfl,d1,w.cls,w.a4,by show 4<1000;decide,bV Z (q _ (λb o J e=>?_) (tA.ym d1) _)⟩)));rw[aE λz=>J (.inl z)];exact fA b o J e
section
variable {h:Hd}{s:Str}{n:Int}{k:Nat}
theorem Au (a:k<h.ft.length):(h.gT n s k).fa j=if j=k then h.fa k++[uI n s]else h.fa j:=by
 show(h.ft.set k _).getD j []=_;rw[aa];split
 .rename_i z;subst z;rw[bv a];rfl
 .rename_i z;rw[bp (Ne.symm z)];rfl
theorem Apt.gT (ap:Apt φ h)(f:k<h.ft.length)(g:(h.fa k).length=1):Apt φ (h.gT n s k):=by
 have old:∀{a b j},j∈bZ φ (h.gT n s k) a b .none->j∈bZ φ h a b .none:=λ{a b j} d=>by
  obtain⟨l,m,c,o⟩:=jI.mp d;rw[Au f]at c;by_cases z:j=k
  .rw[sf z,ax,g]at c;cases c
  .rw[sg z]at c;exact jI.mpr ⟨l,m,c,o⟩
 exact λa b e i p j d=>ap a b e i (old p) j (old d)
theorem Apt.nil:Apt φ ⟨es,[],[],Z8⟩:=λs w _ i a=>by have:=(jI.mp a).1;cases this
end
structure PhL (φ:cT):Prop where
 g1:∀p,GR p->φ.G (mr p)
 g2:∀r,φ.G r->∃p,GR p/\r=mr p
 g3:∀p q,GR p->GR q->φ.ag (mr p) (mr q)=eA p q
structure Syn (h:Hd)(ts:List TE):Prop where
 len:ts.length=h.en.length
 wd:∀k,k<h.en.length->(tAt ts k).1=(h.at k).2.1
 rl:∀k,k<h.en.length->(tAt ts k).2.2.1=(h.at k).2.2
 ft:∀k,k<h.en.length->(tAt ts k).2.1=h.fa k
 st:∀k,k<h.en.length->∃l,h.fa k=dZ (tAt ts k).2.2.2 (h.at k).1::l
structure Bo5 (φ:cT)(K:Z5)(HC CC:Addr)(H:Hp)(x:Addr)(A:Ha)(a:Addr)(ds fs:List Addr)(ts:List TE)(h:Hd)(rs:List Cw):Prop where
 th:Hou K HC CC H x A h
 tl:Tls K H a ds fs ts
 ok:Hok φ h
 es:h.es=esC rs
 d1:∀b,A.own x b->¬(b=a\/b∈ds\/b∈fs)
 sy:Syn h ts
 ap:Apt φ h
theorem K0 (ok:Hok a h)(b:PhL a)(c:k<h.en.length):∃q,GR q/\(h.at k).2.2=mr q:=b.g2 _ (ok.gd _ (ar (Hd.get c))).1
theorem uJ (c:Φ[j]?=Z9 lN)(d:Vv [] Φ a ρ (mr p))(f:Vv [] Φ b ρ (mr q))(g:GR p)(h:GR q):Tt [] Φ (.tv (.call j "_law_clash" (.cons a (.cons b .nil)))) ρ (eA p q):=aP (cR (aG d.e (aG f.e aY)) c (KI g h) rfl).e rfl
theorem Uq (a:List Nat)(t:Nat):dC (.list (z0d (a++[t]))) (.int (-1))=.ok (.int t):=by unfold z0d;rw[cq];show Res.dE (Mi.bM (a.map (λ(k:Nat)=>ZS (k:Int))++[.int t]) (-1))=_;unfold Mi.bM Mi.fG;rw[sg (by decide),ax,sf (by simp only[bc,m7];omega)];show Res.dE ((a.map (λ(k:Nat)=>ZS (k:Int))++[.int t])[((-1:Int)+(((a.map (λ(k:Nat)=>ZS (k:Int))).length+1:Nat):Int)).toNat]?)=_;rw[show((-1:Int)+(((a.map (λ(k:Nat)=>ZS (k:Int))).length+1:Nat):Int)).toNat=(a.map (λ(k:Nat)=>ZS (k:Int))).length by omega,b7 (ae _),fy];rfl
theorem qB:Ev Κ Φ (.neg (.int 1)) a (.int (-1)):=⟨.fr,rfl⟩
section
variable {φ:cT}{Z:Wc}{HC CC x:Addr}{A:Ha}{H:Hp}{a:Addr}{ds fs:List Addr}{ts:List TE}{h:Hd}{rs:List Cw}{D0:Ends}{vc vw:V}{s w:Str}{B:Ad->Prop}
theorem Bo5.same {K:Z5}(t:Bo5 φ K HC CC H x A a ds fs ts h rs)(s:Same H b):Bo5 φ K HC CC b x A a ds fs ts h rs:=⟨t.th.same s,t.tl.same s,t.ok,t.es,t.d1,t.sy,t.ap⟩
theorem vH (b:PhL φ)(t:Hok φ h)(sy:Syn h ts)(a:k<h.en.length):∃q,GR q/\(tAt ts k).2.2.1=mr q/\(h.at k).2.2=mr q:=by obtain⟨q,g,e⟩:=K0 t b a;exact⟨q,g,(sy.rl k a).trans e,e⟩
theorem z7j (i:Z.md[0]?=Z9 (HC,("standing":Str),spSt φ Z.K HC CC Z.mg))(t:Hou Z.K HC CC H x A h)(ok:Hok φ h)(j:g[0]?=Z9 (Z9 (.ref x)))(k:z1a h.es s=Z7)
  (g1:∀R,(∀v a,Same H a->Rep Z.K a AnyB v (.str s)->R v a)->wE Z a1 g H R) (g2:∀a R,Same H a->(∀v c,Same a c->Rep Z.K c AnyB v (.str w)->R v c)->wE Z a2 g a R) (q:∀b p,Same H b->H p=Z8->b p=Z9 (.lst (z2m (bZ φ h s w .none)))->Q (.ref p) b):wE Z (.hV (.raw 0) 0 (L5.kS a1 a2)) g H Q:=by
 obtain⟨l,m⟩:=au.mp k;refine t.hV i j (aI (g1 _ λo a d r=>aI (g2 a _ d λu c f y=>bI ⟨x,A,h,o,.str s,u,w,.aM,.none,AnyB,rfl,t.same (d.trans f),ok,r.sm f,y,rfl,φ.d0,?_⟩)));rw[sf l];exact⟨s,rfl,m,λb p z n e=>q b p (d.trans (f.trans z)) ((d.trans f).none n) e⟩
theorem vJ {K:Z5}(e:H p=Z9 (.lst (z2m L))):Rep K H AnyB (.ref p) (.list (z0d L)):=⟨p,_,rfl,.inl ⟨e,trivial⟩,ui⟩
abbrev Φn:List Fn:=[lN]
theorem zpz (hκ:Z.Κ=[])(hφ:Z.Φ=Φn)(hF:PhL φ)(h1:Z.md[0]?=Z9 (HC,("standing":Str),spSt φ Z.K HC CC Z.mg))(t:Bo5 φ Z.K HC CC H x A a ds fs ts h rs)(rc:Rep Z.K H B vc (.str s))(rw':Rep Z.K H B vw (.str w))(hc:z1a h.es s=Z7)(q:∀H',Same H H'->D0.rt (.bl Z7) H'):
  wS Z L5.ng D0 [Z9 (.ref x),Z9 vc,Z9 vw,Z9 (.ref a),Z8,Z8] H:=by
 refine dI (z7j h1 t.th t.ok rfl hc (λR k=>aF rfl (k vc H (Same.refl H) (rc.weak λ_ _=>trivial))) (λH2 R s2 k=>aF rfl (k vw H2 (Same.refl H2) (rw'.same s2 λ_ _=>trivial))) λH1 p s1 np e1=>?_);generalize hL:bZ φ h s w .none=L at e1;have kW:∀k∈L,k<h.en.length:=λk hk=>vx (hL▸hk);have sl:∀{H2:Hp} {o5:Option V} {r5:Option GD},Same H1 H2->Sl Z.K H2 [o5] [r5]->Sl Z.K H2 [Z9 (.ref x),Z9 vc,Z9 vw,Z9 (.ref a),Z9 (.ref p),o5] [Z8,Z9 (.od,.str s),Z9 (.od,.str w),Z9 (.od,.list (ts.map cZ)),Z9 (.od,.list (z0d L)),r5]:=λ{H2 o5 r5} s2 t5=>.no (.da (rc.sm (s1.trans s2)) (.da (rw'.sm (s1.trans s2)) (.da (t.tl.same (s1.trans s2)).rep (.da (vJ (s2 _ _ e1)) t5))));refine bP (z66 hκ hφ (sl (Same.refl H1) (.no .nil)) (dW (by rw[pL];rfl) rfl) (λ_ bG H'=>Same H1 H'/\∃o5,bG=[Z9 (.ref x),Z9 vc,Z9 vw,Z9 (.ref a),Z9 (.ref p),o5]) (λH2 s2=>⟨s2,Z8,rfl⟩) ?_ ?_)
 .rintro k y d bG H' H2 D2 hd ⟨s',o5,rfl⟩ s2 ry Aw nx
  have hk:∃i,L[k]?=Z9 i/\d=.int (i:Nat):=by unfold z0d at hd;rw[ao]at hd;obtain⟨i,e,rfl⟩:=a6.mp hd;exact⟨i,e,rfl⟩
  obtain⟨i,ei,rfl⟩:=hk;have hi:=ar ei;refine vG ry (by show 5<6;decide) λv5 r5=>?_;cases r5;obtain⟨L',j,rfl⟩:∃L' j,L=L'++[j]:=⟨L.dropLast,L.getLast (pj hi),(List.dropLast_concat_getLast _).symm⟩;have hj:j∈L'++[j]:=bf _ (.head _);obtain⟨p1,g1,t1,e2⟩:=vH hF t.ok t.sy (kW i hi);obtain⟨p2,g2,t2,e3⟩:=vH hF t.ok t.sy (kW j hj);have ag:eA p1 p2=false:=by rw[<-hF.g3 p1 p2 g1 g2,<-e2,<-e3];exact t.ap s w hc i (hL▸hi) j (hL▸hj)
  have l1:i<ts.length:=by rw[t.sy.len];exact kW i hi
  have l2:j<ts.length:=by rw[t.sy.len];exact kW j hj
  have nN:=s'.trans s2;refine bP (dD (gF hκ hφ (sl nN (.eU .nil)) (b:=Z6) (ag▸uJ rfl (t1▸uH (aC rfl) (aC rfl) l1 (by rw[t1];exact iO _)) (t2▸uH (aC rfl) (aO (aC rfl) qB (Uq L' j) rfl).e l2 (by rw[t2];exact iO _)) g1 g2) λH3 s3=>bV Z (bV Z (nx _ _ ⟨nN.trans s3,_,rfl⟩ (s2.trans s3)))))
 .rintro bG H' ⟨s',o5,rfl⟩
  exact pX ⟨_,F0 H',(.fr,.bool Z7),lK,rfl,λv H5 s5 r=>by cases r;exact q H5 (s1.trans (s'.trans s5))⟩
end
theorem K1:∀L,eZ 40 (z0d L)=Z7
 | []=>rfl
 |k::L=>by show(shal 40 (.int k)&&eZ 40 (z0d L))=Z7;rw[K1 L];rfl
theorem Ur (k:Nat)(L:List Nat):cmpD .In (.int k) (.list (z0d L))=.ok (decide (k∈L)):=by
 show(if(shal 40 (.int k)&&eZ 40 (z0d L))=Z7 then Res.ok ((z0d L).any λy=>eQ y (.int k))else Res.no)=_;rw[K1,sf (show(shal 40 (.int k)&&Z7)=Z7 from rfl)]
 congr 1
 rw[ku,decide_eq_true_iff,List.any_eq_true];constructor
 .rintro⟨y,a,e⟩
  obtain⟨i,b,rfl⟩:=ce.mp a;rw[xV,decide_eq_true_iff]at e;have:i=k:=by omega
  exact this▸b
 .intro h;exact⟨.int k,ce.mpr ⟨k,h,rfl⟩,by rw[xV];simp⟩
theorem K2 (k:Nat)(L:List Nat):cmpD .NotIn (.int k) (.list (z0d L))=.ok (!decide (k∈L)):=by show(cmpD .In (.int k) (.list (z0d L))>>=λb=>Res.ok (!b))=_;rw[Ur];rfl
theorem E3:(bZ φ h s w .none).Pairwise (· < ·):=(List.pairwise_lt_range.filter _).filter _
theorem Us (e:bar φ h s w r=Z9 k):k∈bZ φ h s w .none/\φ.ag (h.at k).2.2 r=Z7/\∀i∈bZ φ h s w .none,i<k->φ.ag (h.at i).2.2 r=false:=by
 obtain⟨d,j,l,b,f⟩:=List.find?_eq_some_iff_append.mp e;have a:=E3 (φ:=φ) (h:=h) (s:=s) (w:=w);refine⟨by rw[b];exact bf _ (.head _),d,λi c g=>?_⟩;rw[b]at c a;rcases bw.mp c with z|z
 .simpa using f i z
 .rcases bh.mp z with z|z
  .omega
  .have :=(ll.mp (List.pairwise_append.mp a).2.1).1 i z;omega
abbrev ddD (s w:Str)(p:Bool×P×P×P):D:=.tuple [.str "enter",.str s,.str w,mr p]
section
variable {φ:cT}{Z:Wc}{HC CC x:Addr}{A:Ha}{H:Hp}{a:Addr}{ds fs:List Addr}{ts:List TE}{h:Hd}{rs:List Cw}{D0:Ends}{vd:V}{s w:Str}{B:Ad->Prop}{p:Bool×P×P×P}{k:Nat}
theorem qC:dC (ddD s w p) (.int 1)=.ok (.str s):=rfl
theorem qD:dC (ddD s w p) (.int 2)=.ok (.str w):=rfl
theorem qE:dC (ddD s w p) (.int 3)=.ok (mr p):=rfl
theorem zoo (hκ:Z.Κ=[])(hφ:Z.Φ=Φn)(hF:PhL φ)(h1:Z.md[0]?=Z9 (HC,("standing":Str),spSt φ Z.K HC CC Z.mg))(t:Bo5 φ Z.K HC CC H x A a ds fs ts h rs)(rd:Rep Z.K H B vd (ddD s w p))(gp:GR p)(hc:z1a h.es s=Z7)(hb:bar φ h s w (mr p)=Z9 k)(q:∀H',Same H H'->D0.rt (.bl Z7) H'):
  wS Z L5.rg D0 [Z9 (.ref x),Z9 (.ref a),Z9 vd,Z9 (.int k),Z8,Z8] H:=by
 obtain⟨b1,b2,b3⟩:=Us hb;have E4:∀{H2:Hp} {o4 o5:Option V} {r4 r5:Option GD},Same H H2->Sl Z.K H2 [o4,o5] [r4,r5]->Sl Z.K H2 [Z9 (.ref x),Z9 (.ref a),Z9 vd,Z9 (.int k),o4,o5] [Z8,Z9 (.od,.list (ts.map cZ)),Z9 (.od,ddD s w p),Z9 (.od,.int k),r4,r5]:=λ{H2 o4 o5 r4 r5} s2 t5=>.no (.da (t.tl.same s2).rep (.da (rd.sm s2) (.eU t5)));refine dI (z7j h1 t.th t.ok rfl hc (λR kk=>eB hκ hφ (E4 (Same.refl H) (.no (.no .nil))) (cY (aC rfl) aH.e qC) kk) (λH2 R s2 kk=>eB hκ hφ (E4 s2 (.no (.no .nil))) (cY (aC rfl) aH.e qD) kk) λH1 p4 s1 np e1=>?_);generalize hL:bZ φ h s w .none=L at e1;rw[hL]at b1 b3;have kW:∀k∈L,k<h.en.length:=λk hk=>vx (hL▸hk);have cl:∀{i:Nat} {ρ:Rho} {c:C},i∈L->ρ[1]?=Z9 (Z9 (.od,.list (ts.map cZ)))->ρ[2]?=Z9 (Z9 (.od,ddD s w p))->Ev [] Φn c ρ (.int i)->Tt [] Φn (.tv (L5.yF L5.d3 (L5.kT (.var 1) c (.int 2)))) ρ (φ.ag (h.at i).2.2 (mr p)):=λ{i ρ c} hi r1 r2 ec=>by obtain⟨p2,g2,t2,e3⟩:=vH hF t.ok t.sy (kW i hi);rw[e3,hF.g3 p2 p g2 gp,KJ];exact uJ rfl (aO (aC r2) aH.e qE (iO p)) (t2▸uH (aC r1) ec (by rw[t.sy.len];exact kW i hi) (by rw[t2];exact iO _)) gp g2
 have sl:∀{H2:Hp} {o5:Option V} {r5:Option GD},Same H1 H2->Sl Z.K H2 [o5] [r5]->Sl Z.K H2 [Z9 (.ref x),Z9 (.ref a),Z9 vd,Z9 (.int k),Z9 (.ref p4),o5] [Z8,Z9 (.od,.list (ts.map cZ)),Z9 (.od,ddD s w p),Z9 (.od,.int k),Z9 (.od,.list (z0d L)),r5]:=λ{H2 o5 r5} s2 t5=>E4 (s1.trans s2) (.da (vJ (s2 _ _ e1)) t5);have c1:=cl (ρ:=[Z8,Z9 (.od,.list (ts.map cZ)),Z9 (.od,ddD s w p),Z9 (.od,.int k),Z9 (.od,.list (z0d L)),Z8]) (c:=.var 3) b1 rfl rfl (aC rfl);rw[b2]at c1;refine bP (dD (gF hκ hφ (sl (Same.refl H1) (.no .nil)) (jC (k:=Z6) (aP (dQ (aC rfl) (aC rfl) (by rw[K2,sr b1];rfl)).e rfl) λ_=>mH c1) λH2 s2=>bV Z ?_));refine bP (z66 hκ hφ (sl s2 (.no .nil)) (dW (by rw[pL];rfl) rfl) (λ_ bG H'=>Same H1 H'/\∃o5,bG=[Z9 (.ref x),Z9 (.ref a),Z9 vd,Z9 (.int k),Z9 (.ref p4),o5]) (λH3 s3=>⟨s2.trans s3,Z8,rfl⟩) ?_ ?_)
 .rintro m y d bG H' H3 D2 hd ⟨s',o5,rfl⟩ s3 ry Aw nx
  have hk:∃i,L[m]?=Z9 i/\d=.int (i:Nat):=by unfold z0d at hd;rw[ao]at hd;obtain⟨i,e,rfl⟩:=a6.mp hd;exact⟨i,e,rfl⟩
  obtain⟨i,ei,rfl⟩:=hk;have hi:=ar ei;refine vG ry (by show 5<6;decide) λv5 r5=>?_;cases r5;have uo:=s'.trans s3;have c2:=cl (ρ:=[Z8,Z9 (.od,.list (ts.map cZ)),Z9 (.od,ddD s w p),Z9 (.od,.int k),Z9 (.od,.list (z0d L)),Z9 (.od,.int i)]) (c:=.var 5) hi rfl rfl (aC rfl);have c3:Tt [] Φn (.tv (.cmp .Lt (.var 5) (.var 3))) [Z8,Z9 (.od,.list (ts.map cZ)),Z9 (.od,ddD s w p),Z9 (.od,.int k),Z9 (.od,.list (z0d L)),Z9 (.od,.int i)] (decide ((i:Int)<k)):=aP (dQ (aC rfl) (aC rfl) rfl).e rfl;have c4:=tS c3 λ_=>c2
  have c5:(decide ((i:Int)<k)&&φ.ag (h.at i).2.2 (mr p))=false:=by
   by_cases z:i<k
   .rw[b3 i hi z,j4]
   .rw[sw (by omega),Bool.false_and]
  rw[c5]at c4;exact bP (dD (gF hκ hφ (sl uo (.eU .nil)) c4 λH4 s4=>bV Z (bV Z (nx _ _ ⟨uo.trans s4,_,rfl⟩ (s3.trans s4)))))
 .rintro bG H' ⟨s',o5,rfl⟩
  exact pX ⟨_,F0 H',(.fr,.bool Z7),lK,rfl,λv H5 s5 r=>by cases r;exact q H5 (s1.trans (s'.trans s5))⟩
end
theorem E5 {K:Z5}{k:Nat}(e:H a=Z9 (.lst c))(d:c[k]?=Z9 v)(q:Q v H):uU K (.ref a) (.int k) H Q:=by
 have f:=(ay.mp d).1;refine .inl ⟨a,_,k,v,rfl,rfl,SqL.of e,?_,q⟩;unfold L2.bM;have b:L2.fG c.length k=Z9 k:=by unfold L2.fG;rw[sf (by omega),sf (by omega),fi]
 rw[b];exact d
theorem Ut (q:wE Z v b H λv f=>wE Z o b f λx g=>wE Z k b g λy d=>(∃a c,x=.ref a/\DPut d a y v c/\e.nx b c)\/Bn x y v d λc=>e.nx b c):wS Z (.put o k v) e b H:=q
theorem E6 (z:D):∀f:List D,ZQ (f++[z]) f=Z6
 | []=>by simp[ZQ]
 |d::f=>by rw[List.cons_append,ZQ,E6 z f,j4]
theorem Uu (a:shal 40 (.list (f++[z]))=Z7)(b:shal 40 (.list f)=Z7):cmpD .NotEq (.list (f++[z])) (.list f)=.ok true:=by
 show(if(shal 40 (.list (f++[z]))&&shal 40 (.list f))=Z7 then Res.ok (!eQ (.list (f++[z])) (.list f))else Res.no)=_;rw[a,b];have:eQ (.list (f++[z])) (.list f)=false:=by show ZW (.list _) (.list _)=Z6;rw[ZW];exact E6 z f
 rw[this];rfl
theorem K3 (f:List D)(z:D):dC (.list (f++[z])) (.int (-1))=.ok z:=by show Res.dE (Mi.bM (f++[z]) (-1))=_;unfold Mi.bM Mi.fG;rw[sg dc,ax,sf (by grind)];show Res.dE ((f++[z])[((-1:Int)+((f.length+1:Nat):Int)).toNat]?)=_;rw[show((-1:Int)+((f.length+1:Nat):Int)).toNat=f.length by omega,b7 (ae _),fy];rfl
theorem Uv (f:List D)(z:D):nZ (.list (f++[z])) Z8 (Z9 (-1))=.ok (.list f):=by
 show Res.ok (ZT (cut (f++[z]) Z8 (Z9 (-1))))=_;unfold cut;have a:cM (f++[z]).length 0 Z8=0:=rfl;have b:cM (f++[z]).length (f++[z]).length (Z9 (-1))=f.length:=by show(if(-1:Int)<0 then((-1:Int)+((f++[z]).length:Int)).toNat else min (-1:Int).toNat (f++[z]).length)=_;simp;omega
 rw[a,b,List.drop_zero,List.take_left'];rfl
theorem Uw (c:D)(l:List D):nZ (.list (c::l)) (Z9 1) Z8=.ok (.list l):=by
 show Res.ok (ZT (cut (c::l) (Z9 1) Z8))=_;unfold cut;have a:cM (c::l).length 0 (Z9 1)=1:=by show(if 1<0 then(1+((c::l).length:Int)).toNat else min (1:Int).toNat (c::l).length)=1;rw[sg dc,bc];omega
 have b:cM (c::l).length (c::l).length Z8=l.length+1:=rfl;rw[a,b,List.drop_one,List.tail_cons,pe,fv]
theorem E7:Oo Κ Φ (.tv (.neg (.int 1))) a (Z9 (-1)):=lF qB
inductive Gone (es:bA)(n dy:Int)(k:Nat)(t:TE)(c:Str)(z:D):D->Prop where
 |ov {c':Str} (hk:(k:Int)=n) (hz:z=uI dy c'):Gone es n dy k t c z (.tuple [.str "overrule",.str c'])
 |en {s w:Str} {p q:Bool×P×P×P} (gp:GR p) (gq:GR q) (tq:t.2.2.1=mr q) (hz:z=.tuple [.str "fell",.int dy,.int n]) (hw:t.1=w) (hs:s∈ln es c) (hc:c≠s) (ha:eA q p=Z7):Gone es n dy k t c z (ddD s w p)
abbrev Φf:List Fn:=[lN,EC]
theorem zlg (t:Tls Z.K H a i fs c)(n:k<c.length)(ed:i[k]?=Z9 d)(p:fs[k]?=Z9 m)(hd:H d=Z9 (.lst [r,.ref m,s,.int (tAt c k).2.2.2]))(u:H f=Z9 (.lst v))(j:Reps Z.K H NoB v F)(w:f≠a)(x:f∉i)(y:h[2]?=Z9 (Z9 (.ref a)))(z:h[6]?=Z9 (Z9 (.int k)))(A:h[7]?=Z9 (Z9 (.ref f)))
  (q:∀l,(∀b o,b≠d->H b=Z9 o->l b=Z9 o)->Tls Z.K l a i (fs.set k f) (c.set k ((tAt c k).1,F,(tAt c k).2.2))->B.nx h l):wS Z (.put (.lH (.raw 2) (.raw 6)) (.aT (.int 1)) (.raw 7)) B h H:=by
 refine Ut (aF A (yf (aF y (aF z (E5 t.lst (by rw[ao,ed];rfl) (nI λD g=>?_))))));refine .inr ⟨d,[r,.ref m,s,.int (tAt c k).2.2.2],1,1,rfl,rfl,g _ _ hd,rfl,q _ (λb o C e=>?_) ((t.same g).set1 n ed p (g _ _ hd) (g _ _ u) (j.sm g) w x)⟩;rw[aE C];exact g b o e
section
variable {Z:Wc}{x:Addr}{H:Hp}{a:Addr}{ts:List TE}{rs:List Cw}{D0:Ends}{vr vd:V}{n dy:Int}{k:Nat}{dd:D}{c:Str}{z:D}{f0 f:Addr}{d0:Int}
abbrev Ax (rs:List Cw)(ts:List TE)(dd:D)(n dy:Int)(k:Nat)(c:Str)(d0:Int)(z:D)(r9:Option GD):Rho:=[Z8,Z9 (.od,.list (rs.map cwD)),Z9 (.od,.list (ts.map cZ)),Z9 (.od,dd),Z9 (.od,.int n),Z9 (.od,.int dy),Z9 (.od,.int k),Z9 (.od,.list ([dZ d0 c]++[z])),Z9 (.od,.list [dZ d0 c]),r9]
theorem yP {a:C}(c:Ev Κ Φ a d (.str s))(f:(s==u)=b):Tt Κ Φ (.tv (.cmp .Eq a (.str u))) d b:=f▸aP (dQ c eS.e (eq_str _ _)).e rfl
theorem rX {a:C}(c:Ev Κ Φ a ρ d)(f:Ev Κ Φ b ρ d)(h:shal 40 d=Z7):Tt Κ Φ (.tv (.cmp .NotEq a b)) ρ false:=aP (dQ c f (yg h)).e rfl
theorem E8:shal 40 (.list [dZ d0 c])=true:=rfl
theorem K4 (h0:dC Ux (.int 0)=.ok (.str s0))(hn:(s0=="none")=Z6):Tt [] Φf (.or (.tv (L5.Aq "none")) (.or (.not (.tv (.gZ (.var 7) ["list"]))) (.or (.tv (.cmp .NotEq (.sl (.var 7) .nil (.tv (.neg (.int 1)))) (.var 8))) (.tv (.cmp .NotEq (.bi "len" (.cons (.var 8) .nil)) (.int 1)))))) (Ax rs ts Ux n dy k c d0 z r9) false:=jC (yP (cY (aC rfl) aH.e h0) hn) λ_=>jC (mH (k:=Z7) (aP (RJ (aC rfl)).e rfl)) λ_=>jC (rX (jH (aC rfl) qW E7 (Uv [dZ d0 c] z)) (aC rfl) E8) λ_=>rX (cO (aG (aC rfl) aY) rfl rfl).e aH.e rfl
theorem zmg (h:Z.Κ=[])(i:Z.Φ=Φf)(nd:(nmC rs).Nodup)(y:es=esC rs)(A:endN es 999 c=Z7)(g:Gone es n dy k (tAt ts k) c z dd)(Q:k<ts.length)
  (sl:∀j o r,Same H j->Sl Z.K j [o] [r]->Sl Z.K j [Z9 (.ref x),Z9 vr,Z9 (.ref a),Z9 vd,Z9 (.int n),Z9 (.int dy),Z9 (.int k),Z9 (.ref f),Z9 (.ref f0),o] (Ax rs ts dd n dy k c d0 z r))
  (P:∀j o,Same H j->wS Z (.put (.lH (.raw 2) (.raw 6)) (.aT (.int 1)) (.raw 7)) D0 [Z9 (.ref x),Z9 vr,Z9 (.ref a),Z9 vd,Z9 (.int n),Z9 (.int dy),Z9 (.int k),Z9 (.ref f),Z9 (.ref f0),o] j):
  wS Z L5.Kr D0 [Z9 (.ref x),Z9 vr,Z9 (.ref a),Z9 vd,Z9 (.int n),Z9 (.int dy),Z9 (.int k),Z9 (.ref f),Z9 (.ref f0),t] H:=by
 have R:=sl H t Z8 (Same.refl H) (.no .nil);cases g with
 | @ov c' F G=>subst G;refine bP (dD (gF h i R (K4 rfl (by decide+kernel)) λj u=>bV Z ?_));refine bP (dD (gF h i (sl j t Z8 u (.no .nil)) (tS (k:=Z7) (yP (cY (aC rfl) aH.e rfl) (by decide+kernel)) λ_=>jC (rX (F▸aC rfl) (aC rfl) rfl) λ_=>rX (cY (aC rfl) qB (K3 _ _)) (jB (bD eS (bD (v_var rfl rfl) (bD (aO (aC rfl) aH.e rfl rfl) eN)))).e rfl) λI B=>bV Z ?_));refine bP (dD (gF h i (sl I t Z8 (u.trans B) (.no .nil)) (b:=Z6) (yP (cY (aC rfl) aH.e rfl) (by decide+kernel)) λJ L=>bV Z ?_));exact bP (P J t (u.trans (B.trans L)))
 | @en s w p q V W S F G E T X=>
  subst F G;refine bP (dD (gF h i R (K4 rfl (by decide+kernel)) λj u=>bV Z ?_));refine bP (dD (gF h i (sl j t Z8 u (.no .nil)) (tS (k:=Z6) (k':=Z6) (yP (cY (aC rfl) aH.e rfl) (by decide+kernel)) λz=>by cases z) λI B=>bV Z ?_));refine bP (dD (gF h i (sl I t Z8 (u.trans B) (.no .nil)) (b:=Z7) (yP (cY (aC rfl) aH.e rfl) (by decide+kernel)) λJ L=>?_));have C:=u.trans (B.trans L)
  have U:ln es c=c::(ln es c).tail/\s∈(ln es c).tail:=by
   rcases lJ A with⟨_,l⟩|⟨_,m,_,_,_,l⟩
   .have l:ln es c=[c]:=l;rw[l]at E;exact(T (az.mp E).symm).elim
   .have l:ln es c=c::cX es m _:=l;rw[l]at E ⊢;exact⟨rfl,(bh.mp E).resolve_left λz=>T z.symm⟩
  refine dI (eB h i (sl J t Z8 C (.no .nil)) (oE (aG (aC rfl) (aG (aO (cY (aC rfl) aH.e rfl) aH.e rfl rfl).e aY)) rfl (y▸Ug nd (y▸A))) λM Y s4 D=>?_);have v:=C.trans s4
  have N:Tt [] Φf (.tv (.cmp .NotIn (.ix (.var 3) (.int 1)) (.sl (.var 9) (.tv (.int 1)) .nil))) (Ax rs ts (ddD s (tAt ts k).1 p) n dy k c d0 (.tuple [.str "fell",.int dy,.int n]) (Z9 (.od,.list ((ln es c).map .str)))) false:=by
   refine aP (dQ (cY (aC rfl) aH.e rfl) (jH (d:=.list ((ln es c).tail.map .str)) (aC rfl) (lF aH.e) qW (by have:=Uw (.str c) ((ln es c).tail.map .str);rw[<-bn,<-U.1]at this;exact this)) ?_).e rfl;rw[KZ]
   congr 1
   rw[Bool.not_eq_false',b9];exact U.2
  refine bP (dD (gF h i (sl Y (Z9 M) (Z9 (.od,.list ((ln es c).map .str))) v (.da D .nil)) (jC (rX (cY (aC rfl) qB (K3 _ _)) (jB (bD eS (bD (v_var rfl rfl) (bD (v_var rfl rfl) eN)))).e rfl) λ_=>jC (rX (cY (aC rfl) aH.e rfl) (cY (cY (aC rfl) (aC rfl) (yL Q)) aH.e (yM _)) rfl) λ_=>N) λH5 O=>bV Z ?_));refine bP (dD (gF h i (sl H5 (Z9 M) (Z9 (.od,.list ((ln es c).map .str))) (v.trans O) (.da (D.sm O) .nil)) (b:=Z6) (mH (X▸uJ rfl (S▸uH (aC rfl) (aC rfl) Q (S▸iO _)) (aO (aC rfl) aH.e rfl (iO p)) W V)) λH6 s6=>bV Z (bV Z ?_)));exact bP (P H6 (Z9 M) (v.trans (O.trans s6)))
end
section
variable {H:Hp}{a:Addr}{ds fs:List Addr}{ts:List TE}{h:Hd}
def FgC (h:Hd)(ts:List TE)(n dy:Int)(dd:D):Prop:=∀k,k<ts.length->(tAt ts k).2.1=h.fa k\/∃d0 c z,(tAt ts k).2.1=[dZ d0 c]/\h.fa k=[dZ d0 c]++[z]/\endN h.es 999 c=Z7/\Gone h.es n dy k (tAt ts k) c z dd
def qF (h:Hd)(ts:List TE)(k:Nat):TE:=((tAt ts k).1,h.fa k,(tAt ts k).2.2)
structure Ay (K:Z5)(H H':Hp)(a:Addr)(ds fs lO:List Addr)(h:Hd)(ts iD:List TE):Prop where
 fr:∀b o,b∉ds->H b=Z9 o->H' b=Z9 o
 tl:Tls K H' a ds lO iD
 le:iD.length=ts.length
 al:∀j,j<ts.length->tAt iD j=qF h ts j
 nf:∀f∈lO,f∈fs\/H f=Z8
theorem zqq (E:Z.Κ=[])(F:Z.Φ=Φf)(h0:Z.me[0]?=Z9 (HC,("fate":Str),spFt φ Z.K HC CC Z.mg))(nd:(nmC rs).Nodup)(hes:h.es=esC rs)(th:Hou Z.K HC CC H x A h)(ok:Hok φ h)(tl:Tls Z.K H a ds fs ts)(hl:ts.length<=h.en.length)(rr:Rep Z.K H B vr (.list (rs.map cwD)))(rd:Rep Z.K H B vd dd)(hB:∀b,B (Z9 b)->b∉ds)(d1:∀b,A.own x b\/b=A.c->b∉ds)(fc:FgC h ts n dy dd)
  (q:∀G m i,Ay Z.K H G a ds fs m h ts i->D0.rt (.bl Z7) G):wS Z L5.fg D0 [Z9 (.ref x),Z9 vr,Z9 (.ref a),Z9 vd,Z9 (.int n),Z9 (.int dy),Z8,Z8,Z8,Z8] H:=by
 have K5:∀{b},b∈ds->∃Q,H b=Z9 (.lst Q):=λ{b} l=>tl.vF (.inr (.inl l));have fx:∀{b o},H b=Z9 o->Fix o->b∉ds:=λ{b o} e z w=>by obtain⟨Q,e2⟩:=K5 w;rw[e]at e2;cases e2;exact z
 have big:=bq hl ok.big;have sl:∀{D:Hp} {uK:List Addr} {R:List TE} {qG:L2.St} {qH:Rho},(∀b o,b∉ds->H b=Z9 o->D b=Z9 o)->Tls Z.K D a ds uK R->Sl Z.K D qG qH->Sl Z.K D (Z9 (.ref x)::Z9 vr::Z9 (.ref a)::Z9 vd::Z9 (.int n)::Z9 (.int dy)::qG) (Z8::Z9 (.od,.list (rs.map cwD))::Z9 (.od,.list (R.map cZ))::Z9 (.od,dd)::Z9 (.od,.int n)::Z9 (.od,.int dy)::qH):=λ{D uK R qG qH} f1 t1 s1=>.no (.da (Rep.keep (λb o e z=>f1 b o (z.elim (hB b) (fx e)) e) (λ_ z=>z) _ rr) (.da t1.rep (.da (Rep.keep (λb o e z=>f1 b o (z.elim (hB b) (fx e)) e) (λ_ z=>z) _ rd) (.eU (.eU s1)))));have Uy:∀{D:Hp},(∀b o,b∉ds->H b=Z9 o->D b=Z9 o)->Hou Z.K HC CC D x A h:=λ{D} f1=>th.keep (λb o l e=>f1 b o (d1 b l) e) λb o e z=>f1 b o (fx e z) e
 refine bP (zc2 E F (sl (λb o _ e=>e) tl (iB [Z8,Z8,Z8,Z8])) (rH (aG (cO (aG (aC rfl) aY) (by rw[uC,ah]) rfl).e aY) (by rw[tR (by omega) (by omega)])) (λb=>b∈ds) (λb l=>by obtain⟨Q,e⟩:=K5 l;exact⟨_,e,id⟩)
  (λk S G=>(∀b o,b∉ds->H b=Z9 o->G b=Z9 o)/\∃m i,Tls Z.K G a ds m i/\i.length=ts.length/\(∀j,j<ts.length->tAt i j=if j<k then qF h ts j else tAt ts j)/\(∀f∈m,f∈fs\/H f=Z8)/\∃T U V O,S=[Z9 (.ref x),Z9 vr,Z9 (.ref a),Z9 vd,Z9 (.int n),Z9 (.int dy),T,U,V,O])
  (λD s1=>⟨λb o _ e=>s1 b o e,fs,ts,tl.same s1,rfl,λj _=>(sg (Nat.not_lt_zero j)).symm,λf hf=>.inl hf,Z8,Z8,Z8,Z8,rfl⟩) ?_ ?_)
 .rintro k y d S G H2 D2 hd ⟨f',m,i,W,s,t,I,T,U,V,O,rfl⟩ s2 ry Aw nx
  rw[ao]at hd;obtain⟨k',e,rfl⟩:=a6.mp hd;have hk:=by have:=(ay.mp e).1;rwa [cv]at this
  rw[ej hk]at e;cases e;refine vG ry (by show 6<10;decide) λv6 r6=>?_;cases r6;have f2:=λb o l e=>s2 b o (f' b o l e);have K6:=Uy f2;have Uz:k<h.ft.length:=by rw[ok.len];omega
  have E9:=ok.fo _ (ar (Hd.eT Uz));refine dI (K6.bE h0 rfl (aI (aF rfl (bI ⟨x,A,h,k,rfl,K6,ok,?_⟩))));rw[sf (by unfold kR;simp;omega)]
  rintro H3 v7 s3 ⟨p7,Q,rfl,UA,J⟩
  obtain⟨e7,n7⟩:H3 p7=Z9 (.lst Q)/\H2 p7=none:=by
   rcases UA with hp|hp
   .exact⟨hp.1,hp.2⟩
   .exact hp.2.elim
  have J:Reps Z.K H3 NoB Q (h.fa k):=Reps.aS _ (JK E9) J;have t3:=W.same (s2.trans s3);have L:k<i.length:=s▸hk;have ak:tAt i k=tAt ts k:=by rw[t k hk,sg (cx k)]
  obtain⟨d,f0,ed,e0⟩:=t3.two L;obtain⟨vw,v2,UB,hd,WA,WB,UC,UD⟩:=t3.ent k d f0 ed e0;refine dI (yf (yf (aF rfl (aF rfl (E5 t3.lst (by rw[ao,ed];rfl) (nI λH4 s4=>E5 (s4 _ _ hd) rfl ?_))))));have K7:=s3.trans s4;have Fb:=s2.trans K7;have t4:=W.same Fb;have f4:=λb o l e=>K7 b o (f2 b o l e);have r7:Rep Z.K H4 AnyB (.ref p7) (.list (h.fa k)):=⟨p7,Q,rfl,.inl ⟨s4 _ _ e7,trivial⟩,(J.sm s4).weak λ_ z=>z.elim⟩;have r8:Rep Z.K H4 AnyB (.ref f0) (.list (tAt ts k).2.1):=by have:=UD.sm s4;rw[ak]at this;exact⟨f0,UB,rfl,.inl ⟨s4 _ _ UC,trivial⟩,this.weak λ_ z=>z.elim⟩
  have S4:=sl (qG:=[Z9 (.int k),Z9 (.ref p7),Z9 (.ref f0),O]) (qH:=[Z9 (.od,.int k),Z9 (.od,.list (h.fa k)),Z9 (.od,.list (tAt ts k).2.1),Z8]) f4 t4 (.eU (.da r7 (.da r8 (.no .nil))));have K8:∀M N C T U V O,(∀b o,b∉ds->G b=Z9 o->M b=Z9 o)->Tls Z.K M a ds N C->C.length=ts.length->(∀j,j<ts.length->tAt C j=if j<k+1 then qF h ts j else tAt ts j)->(∀f∈N,f∈fs\/H f=Z8)->D2.nx [Z9 (.ref x),Z9 vr,Z9 (.ref a),Z9 vd,Z9 (.int n),Z9 (.int dy),T,U,V,O] M:=λM N C T U V O g1 g2 g3 g4 g5=>nx _ _ ⟨λb o l e=>g1 b o l (f' b o l e),N,C,g2,g3,g4,g5,T,U,V,O,rfl⟩ g1
  have yQ:(tAt ts k).2.1=h.fa k->∀j,j<ts.length->tAt i j=if j<k+1 then qF h ts j else tAt ts j:=λe j hj=>by
   rw[t j hj];by_cases z:j<k
   .rw[sf z,sf (by omega)]
   .by_cases y:j=k
    .subst y;rw[sg z,sf (by omega)];unfold qF;rw[<-e]
    .rw[sg z,sg (by omega)]
  rcases fc k hk with fe|⟨d0,c,z,e1,e2,e3,g⟩
  .refine bP (dD (gF E F S4 (b:=Z6) (aP (dQ (aC rfl) (aC rfl) (by rw[fe];exact yg (yh E9))).e rfl) λM p=>bV Z (bV Z ?_)));exact K8 _ m i _ _ _ _ (λb o _ e=>(Fb.trans p) b o e) (t4.same p) s (yQ fe) I
  .have UE:shal 40 (.list ([dZ d0 c]++[z]))=true:=e2▸yh E9;refine bP (dD (gF E F S4 (aP (dQ (aC rfl) (aC rfl) (by rw[e1,e2];exact Uu UE E8)).e rfl) λM p=>?_));have t5:=t4.same p;have S5:∀H6 o r,Same M H6->Sl Z.K H6 [o] [r]->Sl Z.K H6 [Z9 (.ref x),Z9 vr,Z9 (.ref a),Z9 vd,Z9 (.int n),Z9 (.int dy),Z9 (.int k),Z9 (.ref p7),Z9 (.ref f0),o] (Ax rs i dd n dy k c d0 z r):=λH6 o r P t6=>by have a7:=r7.sm (p.trans P);have a8:=r8.sm (p.trans P);rw[e2]at a7;rw[e1]at a8;exact sl (λb o l e=>P b o ((λb o l e=>p b o (f4 b o l e)) b o l e)) (t5.same P) (.eU (.da a7 (.da a8 t6)))
   refine zmg E F nd hes e3 (ak▸g) L S5 λH6 o P=>?_;have Fe:=s4.trans (p.trans P);refine zlg (t5.same P) L ed e0 (Fe _ _ hd) (Fe _ _ e7) (J.sm Fe) (λw=>?_) (λw=>?_) rfl rfl rfl λH7 g1 t7=>bV Z (K8 _ _ _ _ _ _ _ (λb o l e=>g1 b o (λy=>l (y▸ar ed)) ((Fb.trans (p.trans P)) b o e)) t7 (by rw[bx];exact s) (λj hj=>?_) λf hf=>?_)
   .exact(W.same s2).there (.inl w) n7
   .exact(W.same s2).there (.inr (.inl w)) n7
   .rw[KO L];by_cases y:j=k
    .subst y;rw[sf rfl,sf (by omega),ak];rfl
    .rw[sg y,t j hj];by_cases u:j<k
     .rw[sf u,sf (by omega)]
     .rw[sg u,sg (by omega)]
   .rcases g0 hf with w|rfl
    .exact I f w
    .cases eH:H f with
     |none=>exact .inr rfl
     |some o=>
      by_cases w:f∈ds
      .exact((W.same s2).there (.inr (.inl w)) n7).elim
      .have :=f2 f o w eH;rw[n7]at this;cases this
 .rintro S G ⟨f',m,i,W,s,t,I,T,U,V,O,rfl⟩
  exact pX ⟨_,F0 G,(.fr,.bool Z7),lK,rfl,λv M p r=>by cases r;exact q M m i ⟨λb o l e=>p b o (f' b o l e),W.same p,s,λj hj=>by rw[t j hj,sf (by rw[ah,cv];exact hj)],I⟩⟩
end
theorem Ff:∀{L M:List Nat},L.Pairwise (·<=·)->M.Pairwise (· < ·)->L.Perm M->L=M
 | [],M,_,_,p=>(List.nil_perm.mp p).symm
 |x::L,[],_,_,p=>by have:=p.length_eq;cases this
 |x::L,y::M,a,b,p=>by
  have a1:=ll.mp a;have a2:=ll.mp b
  have e:x=y:=by
   rcases bh.mp (p.mem_iff.mp (.head _):x∈y::M)with z|z
   .exact z
   .rcases bh.mp (p.symm.mem_iff.mp (.head _):y∈x::L)with w|w
    .exact w.symm
    .exact Nat.le_antisymm (a1.1 y w) (gn (a2.1 x z))
  subst e;rw[Ff a1.2 a2.2 ((List.perm_cons x).mp p)]
theorem UG (p:L.Perm M)(b:M.Pairwise (· < ·))(m:L.length<64):aggD "sorted" Z7 (z0d L)=.ok (.list (z0d M)):=by
 have ok:(z0d L).all hD=true:=by rw[br];intro y o;obtain⟨i,_,rfl⟩:=ce.mp o;exact sr (Int.natCast_nonneg i)
 have k:(z0d L).length=L.length:=by unfold z0d;rw[ah]
 have e:nY (z0d L)=z0d M:=by
  unfold nY;rw[k];by_cases f:L.length<2
  .rw[sf f,Ff ?_ b p]
   match L,f with
   | [],_=>exact .nil
   | [x],_=>exact List.pairwise_singleton _ _
  .rw[sg f];have g:∀i,i<L.length->(z0d L).getD i dP=.int (L.getD i 0):=λi a=>by unfold z0d;rw[aa,ao,aa,ac a];rfl
   rw[HG (λi j a h=>by show sY _ _=decide (L.getD i 0<L.getD j 0);rw[g i a,g j h];show decide ((L.getD i 0:Int)<(L.getD j 0:Int))=_;rw[decide_eq_decide];omega) (HF (n:=L.length) (by omega))];obtain⟨l,c⟩:=Pr L.length (by omega);generalize runT _ (W.kas_sort L.length)=d at l c ⊢;have sz:d.toList.length=L.length:=by rw[c.toList.length_eq];simp
   have q:d.toList.map (λi=>(z0d L).getD i dP)=z0d (d.toList.map λi=>L.getD i 0):=by
    unfold z0d;rw[et];refine kx λi a=>?_;have:i<L.length:=by have:=(c.toList.mem_iff).mp a;simpa using this
    exact g i this
   rw[q,Ff (L:=d.toList.map λi=>L.getD i 0) ?_ b ?_]
   .rw[qo];refine List.pairwise_iff_getElem.mpr λi j a h r=>?_;have:=l.le (j-i) i (by omega);unfold Kp' at this;rw[show i+(j-i)=j by omega,ey,ey,<-nh,<-nh,ac a,ac h]at this;exact this
   .refine((c.toList.map _).trans (.of_eq (g9 λi=>?_))).trans p;rw[ao];by_cases a:i<L.length
    .rw[ej a];show Z9 (L.getD i 0)=_;rw[aa,ac a];rfl
    .rw[dq (by grind),dq (by omega)];rfl
 show(if(Z7&&iR (z0d L))=Z7 then Res.ok (ZT (nY (z0d L)))else .no)=_;rw[e,show iR (z0d L)=Z7 by unfold iR;rw[ok,k,sr m,Bool.and_self,lb]];rfl
def fX (h:Hd)(s w:Str)(k:Nat):Bool:=((h.at k).2.1==w)&&(((h.at k).1==s)&&((h.fa k).length==1))
def ownL (h:Hd)(s w:Str):List Nat:=(cc h.en.length).filter (fX h s w)
theorem Fg:k∈ownL h s w↔k<h.en.length/\(h.at k).2.1=w/\(h.at k).1=s/\(h.fa k).length=1:=by unfold ownL fX;simp
theorem K9:(ownL h s w).Nodup:=List.nodup_range.filter _
theorem Fh:(bZ c h s w .none).Nodup:=E3.imp λ{a b} h=>cr h
theorem UH (f:endN h.es 999 s=Z7)(e:z0f h.es (.str s)=Z9 (.str a)):(bZ g h a w .none++ownL h s w).Perm (bZ g h s w .none):=by
 obtain⟨l,_,ns⟩:=Uo f e;refine(lm (gh.mpr ⟨Fh,K9,λx i y j z=>?_⟩) Fh).mpr λk=>?_
 .subst z;exact ns ((Fg.mp j).2.2.1▸(jI.mp i).2.2.2)
 .rw[bw,jI,jI,Fg,l];constructor
  .rintro(⟨b,k2,c,d⟩|⟨b,k2,c,d⟩)
   .exact⟨b,k2,c,.tail _ d⟩
   .exact⟨b,k2,d,c▸ .head _⟩
  .rintro⟨b,k2,c,d⟩
   rcases bh.mp d with z|z
   .exact .inr ⟨b,k2,z,c⟩
   .exact .inl ⟨b,k2,c,z⟩
theorem UI (d:endN h.es 999 s=Z7)(e:z0f h.es (.str s)=Z9 .none):(ownL h s w).Perm (bZ f h s w .none):=by refine(lm K9 Fh).mpr λk=>?_;rw[jI,Fg,Up d e,az];exact⟨λ⟨a,k2,b,c⟩=>⟨a,k2,c,b⟩,λ⟨a,k2,b,c⟩=>⟨a,k2,c,b⟩⟩
theorem UJ (d:Int)(c s:Str)(l:List D):eQ (.list (dZ d c::l)) (.list [dZ d s])=((c==s)&&((dZ d c::l).length==1)):=by
 show ZW (.list _) (.list _)=_;rw[ZW,ZQ];have e:ZW (dZ d c) (dZ d s)=(c==s):=by unfold dZ;rw[ZW,ZQ,ZQ,ZQ,ZQ];simp[ZW]
 rw[e];cases l with
 |nil=>rfl
 |cons x l=>simp[ZQ]
abbrev Φw:List Fn:=[ED]
abbrev Az (x:Addr)(vr vq:V)(a:Addr)(vl vc vh vw v8:V)(p9:Addr)(tl:L2.St):L2.St:=Z9 (.ref x)::Z9 vr::Z9 vq::Z9 (.ref a)::Z9 vl::Z9 vc::Z9 vh::Z9 vw::Z9 v8::Z9 (.ref p9)::tl
theorem K':(cc (k+1)).filter (fX h s w)=(cc k).filter (fX h s w)++(if fX h s w k=Z7 then[k]else[]):=by
 rw[List.range_succ,li]
 congr 1
 cases a:fX h s w k with
 |true=>rw[ju a];rfl
 |false=>rw[jv (by rw[a];decide),sg gw];rfl
theorem zl2 (A:Z.Κ=[])(B:Z.Φ=Φw)(tl:Tls Z.K H a ds fs p)(sy:Syn h p)(ok:Hok φ h)(rc:Rep Z.K H NoB F (.str s))(J:Rep Z.K H NoB vw (.str w))(n9:¬(j=a\/j∈ds\/j∈fs))(L:H j=Z9 (.lst []))
  (q:∀c i g,(∀b o,b≠j->H b=Z9 o->c b=Z9 o)->c j=Z9 (.lst (z2m (ownL h s w)))->D0.nx (Az x M N a O F vh vw v8 j [i,g,n]) c):
  wS Z (.aV (.nm 10) (.eF (.cons (.bi "len" (.cons (.var 3) .nil)) .nil)) L5.Kn) D0 (Az x M N a O F vh vw v8 j [i,g,n]) H:=by
 have big:p.length<=1000:=sy.len▸ok.big;have fx:∀{b o},H b=Z9 o->Fix o->b≠j:=λ{b o} e z w=>by subst w;rw[L]at e;cases e;exact z
 have tk:∀{c:Hp},(∀b o,b≠j->H b=Z9 o->c b=Z9 o)->Tls Z.K c a ds fs p:=λ{c} f=>tl.keep (λb o m e=>f b o (λz=>n9 (z▸m)) e) λb o e z=>f b o (fx e z) e;have rk:∀{c:Hp} {v:V} {d:D},(∀b o,b≠j->H b=Z9 o->c b=Z9 o)->Rep Z.K H NoB v d->Rep Z.K c NoB v d:=λ{c v d} f r=>Rep.keep (λb o e z=>f b o (z.elim (λy=>y.elim) (fx e)) e) (λ_ z=>z) _ r;have sl:∀{c:Hp} {t3:L2.St} {P:Rho},(∀b o,b≠j->H b=Z9 o->c b=Z9 o)->Sl Z.K c t3 P->Sl Z.K c (Az x M N a O F vh vw v8 j t3) (Z8::Z8::Z8::Z9 (.od,.list (p.map cZ))::Z8::Z9 (.od,.str s)::Z8::Z9 (.od,.str w)::Z8::Z8::P):=λ{c t3 P} f t=>.no (.no (.no (.da (tk f).rep (.no (.da (rk f rc) (.no (.da (rk f J) (.no (.no t)))))))));refine zc2 A B (sl (λb o _ e=>e) (iB [i,g,n])) (rH (aG (cO (aG (aC rfl) aY) (by rw[uC,ah]) rfl).e aY) (by rw[tR (by omega) (by omega)])) (λb=>b=j) (λb m=>⟨_,m▸L,id⟩) (λk C c=>(∀b o,b≠j->H b=Z9 o->c b=Z9 o)/\c j=Z9 (.lst (z2m ((cc k).filter (fX h s w))))/\∃i g,C=Az x M N a O F vh vw v8 j [i,g,n]) (λH1 s1=>⟨λb o _ e=>s1 b o e,s1 _ _ L,i,g,rfl⟩) ?_ ?_
 .rintro k y d C c H2 D2 hd ⟨G,I,i,g,rfl⟩ Q ry Aw nx
  rw[ao]at hd;obtain⟨k',e,rfl⟩:=a6.mp hd;have R:=by have:=(ay.mp e).1;rwa [cv]at this
  rw[ej R]at e;cases e;have u:k<h.en.length:=sy.len▸R;refine vG ry (by show 10<13;decide) λv6 r6=>?_;cases r6;have f2:=λb o m e=>Q b o (G b o m e);have S:=yL R;obtain⟨l,el⟩:=sy.st k u;refine dI (eB A B (sl (t3:=[Z9 (.int k),g,n]) f2 (.eU (.no (.no .nil)))) (Ev.of (mY (bD (jB (bD eS (bD (aO (cY (aC rfl) (aC rfl) S) aH.e (EW _) rfl) (bD (v_var rfl rfl) eN)))) eN))) λT H3 s3 UK=>?_);have ht:Tt [] Φw (.and (.tv (.cmp .Eq (L5.kT (.var 3) (.var 10) (.int 0)) (.var 7))) (.tv (.cmp .Eq (L5.kT (.var 3) (.var 10) (.int 1)) (.var 11)))) [Z8,Z8,Z8,Z9 (.od,.list (p.map cZ)),Z8,Z9 (.od,.str s),Z8,Z9 (.od,.str w),Z8,Z8,Z9 (.od,.int k),Z9 (.od,.list [dZ (tAt p k).2.2.2 s]),Z8] (fX h s w k):=by refine tS (aP (dQ (cY (cY (aC rfl) (aC rfl) S) aH.e (yM _)) (aC rfl) (by rw[sy.wd k u];rfl)).e rfl) λ_=>aP (dQ (cY (cY (aC rfl) (aC rfl) S) aH.e (uG _)) (aC rfl) ?_).e rfl;rw[sy.ft k u];show(if(shal 40 (.list (h.fa k))&&shal 40 (.list [dZ (tAt p k).2.2.2 s]))=Z7 then Res.ok (eQ (.list (h.fa k)) (.list [dZ (tAt p k).2.2.2 s]))else Res.no)=_;rw[yh (ok.fo _ (ar (Hd.eT (ok.len▸u)))),sf (show(Z7&&shal 40 (.list [dZ (tAt p k).2.2.2 s]))=Z7 from rfl),el,UJ];rfl
  refine bP (dD (gF A B (sl (t3:=[Z9 (.int k),Z9 T,n]) (λb o m e=>s3 b o (f2 b o m e)) (.eU (.da UK (.no .nil)))) ht λH4 s4=>?_));have E:=s3.trans s4;have e4:=E _ _ (Q _ _ I);have f4:∀b o,b≠j->c b=Z9 o->H4 b=Z9 o:=λb o _ e=>E b o (Q b o e);cases hp:fX h s w k with
  |false=>refine bV Z (bV Z (nx _ _ ⟨λb o m e=>f4 b o m (G b o m e),?_,_,_,rfl⟩ f4));rw[K',hp,sg gw,eo];exact e4
  |true=>
   refine bP (vy (aF rfl ⟨.inl ⟨rfl,_,SqL.of e4⟩,aF rfl ⟨j,_,.int k,rfl,rfl,e4,?_,bV Z (bV Z (nx _ _ ⟨λb o m e=>?_,?_,_,_,rfl⟩ λb o m e=>?_))⟩⟩))
   .unfold z2m;rw[ah,db];have:=dn (fX h s w) (cc k);rw[cv]at this;omega
   .rw[aE m];simp_all
   .rw[bF,K',hp];unfold z2m;rw[cq];rfl
   .rw[aE m];exact f4 b o m e
 .rintro C c ⟨G,I,i,g,rfl⟩
  rw[ah,cv,sy.len]at I;exact q c i g G I
theorem UL (a:L.length+M.length<=1000):dF .Add (.list (z0d L)) (.list (z0d M))=.ok (.list (z0d (L++M))):=by
 show(if(z0d L).length+(z0d M).length<=bC then Res.ok (ZT (z0d L++z0d M))else Res.no)=_;have e:z0d (L++M)=z0d L++z0d M:=by unfold z0d;rw[cq]
 rw[e,sf];unfold z0d bC;rw[ah,ah];omega
section
variable {φ:cT}{Z:Wc}{HC CC x:Addr}{A:Ha}{H:Hp}{a:Addr}{ds fs:List Addr}{ts:List TE}{h:Hd}{rs:List Cw}{D0:Ends}{vr vq vl vc vh vw:V}{s w:Str}{ls:List Str}{B:Ad->Prop}
theorem UM {N:List Nat}(p:(M++N).Perm L)(a:L.Pairwise (· < ·))(f:L.length<64)(c:ρ[8]?=Z9 (Z9 (.od,.list (z0d L))))(b:ρ[12]?=Z9 (Z9 (.od,.list (z0d M))))(d:ρ[9]?=Z9 (Z9 (.od,.list (z0d N)))):Tt [] Φ (.tv (.cmp .NotEq (.var 8) (.agg "sorted" (.tv (.bin .Add (.var 12) (.var 9)))))) ρ false:=by have e:=p.length_eq;have hn:(M++N).length=M.length+N.length:=ax;exact rX (aC c) (Ev.of (vg (w:=(Z7,z0d (M++N))) (Ev.of (DG (Κ:=[]) (Φ:=Φ) (aC b) (aC d) (UL (by omega)) (uE (λ_=>rfl) _))) rfl (UG p a (by omega)) (uE (λ_=>rfl) _))) (Tf L)
abbrev yR (ts:List TE)(ls:List Str)(s w:Str)(L:List Nat)(h:Hd)(M:List Nat):Rho:=[Z8,Z8,Z8,Z9 (.od,.list (ts.map cZ)),Z9 (.od,.list (ls.map .str)),Z9 (.od,.str s),Z8,Z9 (.od,.str w),Z9 (.od,.list (z0d L)),Z9 (.od,.list (z0d (ownL h s w))),Z8,Z8,Z9 (.od,.list (z0d M))]
theorem zjr (hκ:Z.Κ=[])(hφ:Z.Φ=Φw)(hF:PhL φ)(h1:Z.md[0]?=Z9 (HC,("standing":Str),spSt φ Z.K HC CC Z.mg))(h2:Z.me[0]?=Z9 (HC,("book":Str),spBk φ Z.K HC CC Z.mg))(t:Bo5 φ Z.K HC CC H x A a ds fs ts h rs)(hn:h.en.length<64)(rl:Rep Z.K H B vl (.list (ls.map .str)))(rc:Rep Z.K H AnyB vc (.str s))(rh:Rep Z.K H AnyB vh (hdD oh))(rw':Rep Z.K H AnyB vw (.str w))(hc:z1a h.es s=Z7)(eh:z0f h.es (.str s)=Z9 (hdD oh))(hh:∀u,oh=Z9 u->z1a h.es u=Z7)
  (q:∀H' o8 o9 rY La Lb,Same H H'->D0.nx [Z9 (.ref x),Z9 vr,Z9 vq,Z9 (.ref a),Z9 vl,Z9 vc,Z9 vh,Z9 vw,o8,o9,rY,La,Lb] H'):
  wS Z L5.Kq D0 [Z9 (.ref x),Z9 vr,Z9 vq,Z9 (.ref a),Z9 vl,Z9 vc,Z9 vh,Z9 vw,o8,o9,rY,La,Lb] H:=by
 obtain⟨c1,c2⟩:=au.mp hc;refine dI (z7j h1 t.th t.ok rfl hc (λR k=>aF rfl (k vc H (Same.refl H) rc)) (λH2 R s2 k=>aF rfl (k vw H2 (Same.refl H2) (rw'.sm s2))) λH1 p8 s1 n8 e8=>?_);generalize hL:bZ φ h s w .none=L at e8;have asc:=hL▸E3;have kW:∀k∈L,k<h.en.length:=λk hk=>vx (hL▸hk)
 have Ee:L.length<64:=by
  have:L.length<=h.en.length:=by rw[<-hL];unfold bZ lM;have a1:=dn (λk=>(ln h.es s).contains (h.at k).1) ((cc h.en.length).filter λk=>((h.at k).2.1==w)&&φ.sd (h.fa k) .none);have a2:=dn (λk=>((h.at k).2.1==w)&&φ.sd (h.fa k) .none) (cc h.en.length);rw[cv]at a2;omega
  omega
 refine dI (rQ (bI ⟨cz _,λp9 n9=>?_⟩));have s2:Same H1 (upd H1 p9 (.lst [])):=Same.upd n9;have e9:upd H1 p9 (.lst []) p9=Z9 (.lst []):=bF;generalize upd H1 p9 (.lst [])=H2 at s2 e9;have nN:=s1.trans s2;have t2:=t.same nN;refine bP (zl2 hκ hφ t2.tl t.sy t.ok (Rep.aS _ rfl (rc.sm nN)) (Rep.aS _ rfl (rw'.sm nN)) (λz=>(t.tl.same s1).there z n9) e9 λH3 Fi Fj f3 e3=>?_);have uo:Same H1 H3:=λb o e=>f3 b o (bO e n9) (s2 b o e);refine dI (rQ (bI ⟨cz _,λyS UN=>?_⟩));have s4:Same H3 (upd H3 yS (.lst [])):=Same.upd UN;have Lc:upd H3 yS (.lst []) yS=Z9 (.lst (z2m [])):=bF;generalize upd H3 yS (.lst [])=H4 at s4 Lc;have yn:=uo.trans s4;have uL:=s1.trans yn;have t4:=t.same uL
 have rest:∀{H5:Hp} {pa:Addr} {M:List Nat},Same H4 H5->H5 pa=Z9 (.lst (z2m M))->(M++ownL h s w).Perm L->wS Z (.seq (.ifS (.tp (.tv (.cmp .NotEq (.var 8) (.agg "sorted" (.tv (.bin .Add (.var 12) (.var 9))))))) Hl.rF .nil)
   (.seq (.ifS (.tc .NotEq (.bE (.raw 0) 0 (L5.kS (.raw 5) (.raw 7))) (.aT L5.EF)) Hl.rF .nil)
   (.seq (.ifS (.tp (.and (.tv (.cmp .In (.var 5) (.var 4))) (.not (.tv (.call 0 "_law_apart" (.cons (.var 8) (.cons (.var 3) .nil))))))) Hl.rF .nil) .nil))) D0 [Z9 (.ref x),Z9 vr,Z9 vq,Z9 (.ref a),Z9 vl,Z9 vc,Z9 vh,Z9 vw,Z9 (.ref p8),Z9 (.ref p9),Fi,Fj,Z9 (.ref pa)] H5:=λ{H5 pa M} s5 ea pm=>by
  have Fo:=yn.trans s5;have sl:∀{H6:Hp},Same H5 H6->Sl Z.K H6 [Z9 (.ref x),Z9 vr,Z9 vq,Z9 (.ref a),Z9 vl,Z9 vc,Z9 vh,Z9 vw,Z9 (.ref p8),Z9 (.ref p9),Fi,Fj,Z9 (.ref pa)] (yR ts ls s w L h M):=λ{H6} s6=>by have Ld:=Fo.trans s6;have rZ:=s1.trans Ld;exact .no (.no (.no (.da (t.tl.same rZ).rep (.da (rl.sm rZ) (.da (rc.sm rZ) (.no (.da (rw'.sm rZ) (.da (vJ (Ld _ _ e8)) (.da (vJ ((s4.trans (s5.trans s6)) _ _ e3)) (.no (.no (.da (vJ (s6 _ _ ea)) .nil))))))))))))
  refine bP (dD (gF hκ hφ (sl (Same.refl H5)) (UM pm asc Ee rfl rfl rfl) λH6 s6=>bV Z ?_));have Le:=t.th.same (s1.trans (Fo.trans s6));have rZ:=s1.trans (Fo.trans s6);refine bP (dD (rP (Le.bE h2 rfl (aI (aF rfl (aI (aF rfl (bI ⟨x,A,h,vc,.str s,vw,w,AnyB,rfl,Le,t.ok,rc.sm rZ,rw'.sm rZ,?_⟩))))))));rw[sf c1];refine⟨s,rfl,c2,λH7 pb ys s7 nb eb rb=>?_⟩;rw[hL]at rb;have S7:=sl (s6.trans s7);have im:∀k∈L,imm (h.at k).2.2=Z7/\shal 39 (h.at k).2.2=true:=λk hk=>by obtain⟨g1,g2,_⟩:=t.ok.gd _ (ar (Hd.get (kW k hk)));exact⟨g2,φ.sh _ g1⟩
  have ec:Ev [] Φw L5.EF (yR ts ls s w L h M) (.list (L.map λk=>(h.at k).2.2)):=by
   have :=z2h (Κ:=[]) (Φ:=Φw) (ρ:=(yR ts ls s w L h M)) (nt:=1) (js:=[3]) (N':=["_law_number","_law_told"]) (tg:=.nm 0) (it:=.tv (.var 8)) (cond:=.nil) (elt:=.ix (.ix (.var 1) (.var 0)) (.int 2)) (λ_=>Z7) (λk=>(h.at k).2.2) (dW (by rw[pL];rfl) rfl) rfl (λk=>[Z9 (.al,.int k),Z9 (.od,.list (ts.map cZ))]) (λk _=>uB rfl) (λ_ _=>rfl) λk hk _=>by have Fp:=kW k hk;rw[<-t.sy.rl k Fp];exact uH (aC rfl) (aC rfl) (by rw[t.sy.len];exact Fp) (by rw[t.sy.rl k Fp];exact(im k hk).1)
   rw[fk.mpr λ_ _=>rfl]at this;exact⟨_,this⟩
  refine eB hκ hφ S7 ec λvB HB sB rB=>?_;have sh:=qM.mpr λy hy=>by obtain⟨k,hk,rfl⟩:=ce.mp hy;exact(im k hk).2
  have UO:Rep Z.K HB AnyB (.ref pb) (.list (L.map λk=>(h.at k).2.2)):=⟨pb,ys,rfl,.inl ⟨sB _ _ eb,trivial⟩,(rb.sm sB).weak λ_ z=>z.elim⟩;refine kQ UO rB (yg sh) λWC sC=>⟨_,rfl,bV Z ?_⟩;have ap:=Ui (λk hk=>by rw[t.sy.len];exact kW k hk) λi hi j hj=>by obtain⟨p',gp,e1,e2⟩:=vH hF t.ok t.sy (kW i hi);obtain⟨q',gq,e3,e4⟩:=vH hF t.ok t.sy (kW j hj);have z:=t.ap s w hc i (hL▸hi) j (hL▸hj);rw[e2,e4,hF.g3 p' q' gp gq]at z;exact⟨p',q',gp,gq,e1,e3,z⟩
  refine bP (dD (gF hκ hφ (sl (s6.trans (s7.trans (sB.trans sC)))) (b:=Z6) (by have h1:Tt [] Φw (.tv (.cmp .In (.var 5) (.var 4))) (yR ts ls s w L h M) (ls.contains s):=aP (dQ (aC rfl) (aC rfl) (Ag _ _)).e rfl;have h3:Tt [] Φw (.tv (.call 0 "_law_apart" (.cons (.var 8) (.cons (.var 3) .nil)))) (yR ts ls s w L h M) true:=aP (cR (aG (aC rfl) (aG (aC rfl) aY)) rfl ap rfl).e rfl;have h2:=tS h1 λ_=>mH h3;rw[show(!true)=Z6 from rfl,j4]at h2;exact h2) λHD sD=>bV Z (bV Z (q _ _ _ _ _ _ (rZ.trans (s7.trans (sB.trans (sC.trans sD))))))))
 cases oh with
 |none=>cases rh;exact bP (dD (aF (Z:=Z) rfl ⟨Z6,rfl,bV Z (rest (Same.refl H4) Lc (hL▸UI c2 eh))⟩))
 |some u=>
  have hu:=hh u rfl;have nn:vh≠.aM:=λz=>by subst z;have:=rh.1;cases this
  refine bP (dD (aF (Z:=Z) rfl ⟨Z7,by rw[sw nn];rfl,?_⟩));refine dI (z7j h1 t4.th t.ok rfl hu (λR k=>aF rfl (k vh H4 (Same.refl H4) (rh.sm uL))) (λH5 R s5 k=>aF rfl (k vw H5 (Same.refl H5) (rw'.sm (uL.trans s5)))) λH5 pa s5 na ea=>bV Z (rest s5 ea (hL▸UH c2 eh)))
end
structure Fx2 (rs:List Cw)(ns:List Str):Prop where
 nd:ns.Nodup
 l8:ns.length=9
 l5:rs.length=5
 nm:nmC rs=ns.take 5
 gd:GoodC rs
theorem Fx2.yT (f:Fx2 rs ns):(nmC rs).Nodup:=f.nm▸(jx 5 ns).nodup f.nd
theorem Fx2.bR (f:Fx2 rs ns)(h:s∈nmC rs):z1a (esC rs) s=true:=by have:=Es f.yT f.gd (by rw[f.l5];decide) (ae rs.length) (by rw[fv];exact h);rw[fv]at this;exact this
theorem Fx2.at (f:Fx2 rs ns){k:Int}(h0:0<=k)(h1:k<5):ns.getD k.toNat ⟨#[]⟩∈nmC rs:=by rw[f.nm,aa,ac (by rw[f.l8];omega)];exact cj.mpr ⟨k.toNat,by rw[jh (by omega),ac];rfl⟩
theorem Fx2.look (f:Fx2 rs ns)(h:r∈rs):z0f (esC rs) (.str r.1)=Z9 (hdD r.2):=by
 rw[Er]
 have:(rs.find? λq=>decide (q.1=r.1))=Z9 r:=by
  cases e:rs.find? λq=>decide (q.1=r.1)with
  |none=>have:=lj.mp e r h;simp at this
  |some q=>
   have c:q.1=r.1:=by simpa using(List.find?_some e)
   obtain⟨i,b⟩:=cj.mp h;obtain⟨j,a⟩:=cj.mp (lr e);have a1:(nmC rs)[i]?=Z9 r.1:=by rw[ao,b];rfl
   have:=yl f.yT a1 (by rw[ao,a,<-c];rfl);subst this;rw[b]at a;exact a.symm
 rw[this];rfl
theorem Fx2.head (f:Fx2 rs ns)(h:r∈rs)(e:r.2=Z9 u):u∈nmC rs:=by
 obtain⟨i,a⟩:=cj.mp h;have:rs[i]?=Z9 (r.1,Z9 u):=by rw[a,<-e]
 have:=f.gd i r.1 u this;exact((jx i rs).map _).subset this
section
variable {φ:cT}{Z:Wc}{HC CC x:Addr}{A:Ha}{H:Hp}{a:Addr}{ds fs:List Addr}{ts:List TE}{h:Hd}{rs:List Cw}{ns ls ws:List Str}{D0:Ends}{vr vq vl:V}{B:Ad->Prop}
theorem UP {a:L2.St}(d:i≠j)(b:bG.length=a.length)(c:bG[i]?=Z9 (Z9 u))(e:bG[j]?=Z9 (Z9 w))(r:∀k,k≠i->k≠j->bG[k]?=a[k]?):bG=(a.set i (Z9 u)).set j (Z9 w):=by
 refine KS (by rw[bx];exact b) e λk f=>?_;by_cases z:k=i
 .subst z;rw[c,bv (b▸(ay.mp c).1)]
 .rw[r k z f,bp (Ne.symm z)]
theorem zr1 (p:Z.Κ=[])(z:Z.Φ=Φw)(V:PhL φ)(W:Z.md[0]?=Z9 (HC,("standing":Str),spSt φ Z.K HC CC Z.mg))(X:Z.me[0]?=Z9 (HC,("book":Str),spBk φ Z.K HC CC Z.mg))(f:Fx2 rs ns)(t:Bo5 φ Z.K HC CC H x A a ds fs ts h rs)(hn:h.en.length<64)(rr:Rep Z.K H B vr (.list (rs.map cwD)))(Y:Rep Z.K H B vq (.list (ws.map .str)))(rl:Rep Z.K H B vl (.list (ls.map .str)))(q:∀j,Same H j->D0.rt (.bl Z7) j):
  wS Z L5.wg D0 [Z9 (.ref x),Z9 vr,Z9 vq,Z9 (.ref a),Z9 vl,Z8,Z8,Z8,Z8,Z8,Z8,Z8,Z8] H:=by
 let st:L2.St->Prop:=λb=>∃L M C n o c g i,b=[Z9 (.ref x),Z9 vr,Z9 vq,Z9 (.ref a),Z9 vl,L,M,C,n,o,c,g,i]
 have sl:∀{j:Hp} {tl:L2.St},Same H j->tl.length=8->Sl Z.K j (Z9 (.ref x)::Z9 vr::Z9 vq::Z9 (.ref a)::Z9 vl::tl) (Z8::Z9 (.od,.list (rs.map cwD))::Z9 (.od,.list (ws.map .str))::Z8::Z8::bz 8 Z8):=λ{j tl} s ht=>.no (.da (rr.sm s) (.da (Y.sm s) (.no (.no (ht▸iB tl)))));refine bP (z66 p z (sl (Same.refl H) rfl) (dW rfl rfl) (λ_ b j=>Same H j/\st b) (λH1 s1=>⟨s1,_,_,_,_,_,_,_,_,rfl⟩) ?_ ?_)
 .rintro k y d b j H2 D2 hd ⟨N,L,M,C,n,o,c,g,i,rfl⟩ S O P nx
  rw[ao]at hd;obtain⟨r,er,rfl⟩:=a6.mp hd;have Q:=ar er;refine zs2 O (by show 5<13;decide) (by show 6<13;decide) dc λwc u v hl e1 e2 r1 r2 rest=>?_;rw[UP dc hl e1 e2 rest];have D:=N.trans S;have E:=t.es;refine bP (z66 p z (sl D rfl) (dW rfl rfl) (λ_ b I=>Same H2 I/\∃C n o c g i,b=[Z9 (.ref x),Z9 vr,Z9 vq,Z9 (.ref a),Z9 vl,Z9 u,Z9 v,C,n,o,c,g,i]) (λI F=>⟨F,_,_,_,_,_,_,rfl⟩) ?_ ?_)
  .rintro m y d b I H4 D3 hd ⟨F,C,n,o,c,g,i,rfl⟩ T O P R
   rw[ao]at hd;obtain⟨w,ew,rfl⟩:=a6.mp hd;refine vG O (by show 7<13;decide) λv7 r7=>?_;have l:=F.trans T;have G:=D.trans l;exact zjr p z V W X (t.same G) hn (rl.sm G) (r1.sm l) (r2.sm l) r7 (E▸f.bR (ce.mpr ⟨r,Q,rfl⟩)) (E▸f.look Q) (λu e=>by rw[E];exact f.bR (f.head Q e)) λU n o c g i J=>R _ _ ⟨l.trans J,_,_,_,_,_,_,rfl⟩ (T.trans J)
  .rintro b I ⟨F,C,n,o,c,g,i,rfl⟩
   exact bV Z (nx _ _ ⟨D.trans F,_,_,_,_,_,_,_,_,rfl⟩ (S.trans F))
 .rintro b j ⟨N,L,M,C,n,o,c,g,i,rfl⟩
  exact pX ⟨_,F0 j,(.fr,.bool Z7),lK,rfl,λv U J r=>by cases r;exact q U (N.trans J)⟩
end
def spNg (φ:cT)(K:Z5)(HC CC:Addr):Sp:=λvs H Q _=>∃x A a ds fs ts h rs vc vw s w B,vs=[.ref x,vc,vw,.ref a]/\Bo5 φ K HC CC H x A a ds fs ts h rs/\Rep K H B vc (.str s)/\Rep K H B vw (.str w)/\z1a h.es s=Z7/\∀H',Same H H'->Q (.bl Z7) H'
def spRg (φ:cT)(K:Z5)(HC CC:Addr):Sp:=λvs H Q _=>∃x A a ds fs ts h rs vd s w p k B,vs=[.ref x,.ref a,vd,.int (k:Nat)]/\Bo5 φ K HC CC H x A a ds fs ts h rs/\Rep K H B vd (ddD s w p)/\GR p/\z1a h.es s=Z7/\bar φ h s w (mr p)=Z9 k/\∀H',Same H H'->Q (.bl Z7) H'
def spFg (φ:cT)(K:Z5)(HC CC:Addr):Sp:=λvs H Q _=>∃x A a ds fs ts h rs vr vd n dy dd B,vs=[.ref x,vr,.ref a,vd,.int n,.int dy]/\(nmC rs).Nodup/\h.es=esC rs/\Hou K HC CC H x A h/\Hok φ h/\Tls K H a ds fs ts/\ts.length<=h.en.length/\Rep K H B vr (.list (rs.map cwD))/\Rep K H B vd dd/\(∀b,B (Z9 b)->b∉ds)/\(∀b,A.own x b\/b=A.c->b∉ds)/\FgC h ts n dy dd/\∀H' lO iD,Ay K H H' a ds fs lO h ts iD->Q (.bl Z7) H'
def spWg (φ:cT)(K:Z5)(HC CC:Addr):Sp:=λvs H Q _=>∃x A a ds fs ts h rs ns,∃(ws ls:List Str),∃vr vq vl B,vs=[.ref x,vr,vq,.ref a,vl]/\Fx2 rs ns/\Bo5 φ K HC CC H x A a ds fs ts h rs/\h.en.length<64/\Rep K H B vr (.list (rs.map cwD))/\Rep K H B vq (.list (ws.map .str))/\Rep K H B vl (.list (ls.map .str))/\∀H',Same H H'->Q (.bl Z7) H'
theorem qI (h:Z.fn[j]?=Z9 a)(q:wA Z as b H λc d=>a (c++[]) d Q Z.E):wE Z (.fJ j as) b H Q:=by show(match Z.fn[j]? with|some a=>sP a [] Z.E (wA Z as)|none=>hW) b H Q;rw[h];exact q
def Ow5 (x:Addr)(A:Ha)(a:Addr)(ds:List Addr)(b:Addr):Prop:=A.own x b\/b=a\/b∈ds
structure yU (φ:cT)(K:Z5)(HC CC:Addr)(H H':Hp)(x:Addr)(A A':Ha)(a:Addr)(ds fs uM lO:List Addr)(iD:List TE)(h':Hd)(rs:List Cw):Prop where
 b:Bo5 φ K HC CC H' x A' a uM lO iD h' rs
 fr:∀b o,¬Ow5 x A a ds b->H b=Z9 o->H' b=Z9 o
 ow:∀b,Ow5 x A' a uM b->Ow5 x A a ds b\/H b=Z8
 nf:∀f∈lO,f∈fs\/H f=Z8
section
variable {φ:cT}{K:Z5}{HC CC:Addr}{H H':Hp}{x:Addr}{A:Ha}{a:Addr}{ds fs:List Addr}{ts iD:List TE}{h:Hd}{rs:List Cw}
theorem uN (t:Hou K HC CC H x A h)(a:A.own x b\/b=A.c):H b≠none:=λz=>by
 rcases a with(rfl|rfl|rfl|rfl|a)|rfl
 .obtain⟨i,d,_⟩:=t.ins;rw[z]at d;cases d
 .have :=t.bR.fK;rw[z]at this;cases this
 .obtain⟨j,e,_⟩:=t.ent;rw[z]at e;cases e
 .have :=t.jR;rw[z]at this;cases this
 .obtain⟨k,g⟩:=cj.mp a;obtain⟨l,f,_⟩:=t.gC.2 k b g;rw[z]at f;cases f
 .have :=t.bR.ins;rw[z]at this;cases this
theorem Fq (t:Hou K HC CC H x A h)(l:Tls K H a ds fs ts)(d:b=a\/b∈ds\/b∈fs):b≠A.c:=λz=>by obtain⟨f,e⟩:=l.vF d;have:=t.bR.ins;rw[<-z,e]at this;cases this
theorem Bo5.nod (t:Bo5 φ K HC CC H x A a ds fs ts h rs):∀b,A.own x b\/b=A.c->b∉ds:=λb d w=>by
 rcases d with d|d
 .exact t.d1 b d (.inr (.inl w))
 .exact Fq t.th t.tl (.inr (.inl w)) d
theorem Syn.nw (sy:Syn h ts)(le:iD.length=ts.length)(al:∀j,j<ts.length->tAt iD j=qF h ts j):Syn h iD:=by have e:=λk a=>al k (sy.len▸a);exact⟨le.trans sy.len,λk a=>by rw[e k a];exact sy.wd k a,λk a=>by rw[e k a];exact sy.rl k a,λk a=>by rw[e k a];rfl,λk a=>by rw[e k a];exact sy.st k a⟩
theorem Fs (t:Hou K HC CC H x A h)(tl:Tls K H a ds fs ts)(d1:∀b,A.own x b\/b=A.c->b∉ds)(fr:∀b o,b∉ds->H b=Z9 o->H' b=Z9 o):Hou K HC CC H' x A h:=t.keep (λb o f e=>fr b o (d1 b f) e) λb o e z=>fr b o (λw=>by obtain⟨g,d⟩:=tl.vF (.inr (.inl w));rw[e]at d;cases d;exact z) e
theorem Bo5.fg (t:Bo5 φ K HC CC H x A a ds fs ts h rs)(f:Ay K H H' a ds fs d h ts iD):yU φ K HC CC H H' x A A a ds fs ds d iD h rs:=by
 refine⟨⟨Fs t.th t.tl t.nod f.fr,f.tl,t.ok,t.es,λb c z=>?_,t.sy.nw f.le f.al,t.ap⟩,λb o c e=>f.fr b o (λw=>c (.inr (.inr w))) e,λb c=>.inl c,f.nf⟩;rcases z with z|z|z
 .exact t.d1 b c (.inl z)
 .exact t.d1 b c (.inr (.inl z))
 .rcases f.nf b z with z|z
  .exact t.d1 b c (.inr (.inr z))
  .exact uN t.th (.inl c) z
theorem Lf (sy:Syn h ts):FgC h ts n dy b:=λk a=>.inl (sy.ft k (sy.len▸a))
end
abbrev vK:WS:=.seq (.ifS (.ti Z7 (.raw 6)) L5.Kt .nil) L5.Ku
theorem zk3 (E:Z.Κ=[])(F:Z.fn[0]?=Z9 (spRg m Z.K n r))(G:Z.fn[1]?=Z9 (spFg m Z.K n r))(nd:(nmC rs).Nodup)(t:Bo5 m Z.K n r H x A a l fs v h rs)(rr:Rep Z.K H B y (.list (rs.map cwD)))(rd:Rep Z.K H B vd (ddD s w p))(I:∀b,B (Z9 b)->¬Ow5 x A a l b)(J:GR p)(L:z1a h.es s=Z7)(d:bar m h s w (mr p)=Z9 k)
  (q:∀C i j,yU m Z.K n r H C x A A a l fs l i j h rs->M.rt (.bl Z7) C):wS Z vK M [Z9 (.ref x),Z9 y,Z9 (.ref a),Z9 vd,Z9 (.int dy),U,Z9 (.int k),o7] H:=by
 refine bP (dD (aF (Z:=Z) rfl ⟨Z7,rfl,?_⟩));refine pX (D9 (qI F (aI (aF rfl (aI (aF rfl (aI (aF rfl (aI (aF rfl (bI ⟨x,A,a,l,fs,v,h,rs,vd,s,w,p,k,B,rfl,t,rd,J,L,d,λV N=>⟨Z7,rfl,?_⟩⟩)))))))))));refine qI G (aI (aF rfl (aI (aF rfl (aI (aF rfl (aI (ye lK rfl λO W P Q=>aI (ye lK rfl λv4 H3 D R=>aI (aF rfl (bI ?_)))))))))));cases R;have c:=N.trans (P.trans D);have u:=t.same c;exact⟨x,A,a,l,fs,v,h,rs,y,O,-1,dy,.tuple [.str "none"],B,rfl,nd,t.es,u.th,t.ok,u.tl,k7 t.sy.len,rr.sm c,((Rep.aS (B':=NoB) _ rfl Q).sm D).weak λ_ z=>z.elim,λb d z=>I b d (.inr (.inr z)),t.nod,Lf t.sy,λS i j g=>by obtain⟨b,fr,ow,nf⟩:=u.fg g;exact q S i j ⟨b,λb o d e=>fr b o d (c b o e),λb d=>(ow b d).imp id λz=>c.none z,λf T=>(nf f T).imp id λz=>c.none z⟩⟩
section
variable {φ:cT}{h:Hd}{dy:Int}{s w:Str}{r:D}
theorem UQ (c:PhL φ)(ok:Hok φ h)(sy:Syn h d)(f:GR p):FgC (h.put dy s w (mr p) (fll φ h s w (mr p))) d h.en.length dy (ddD s w p):=λk j=>by
 have a:k<h.en.length:=sy.len▸j;rw[E1 ok.len a];by_cases z:k∈fll φ h s w (mr p)
 .rw[sf z];obtain⟨_,m,n,o,r,g⟩:=E2.mp z;obtain⟨l,b⟩:=sy.st k a;have:l=[]:=by rw[b]at n;simp_all
  subst this;obtain⟨q,i,t,e⟩:=vH c ok sy a;refine .inr ⟨(tAt d k).2.2.2,(h.at k).1,_,by rw[sy.ft k a,b],by rw[b];rfl,(au.mp (ok.gd _ (ar (Hd.get a))).2.2).2,.en f i t rfl (by rw[sy.wd k a,m]) r o ?_⟩;rw[e,c.g3 q p i f]at g;exact g
 .rw[sg z];exact .inl (sy.ft k a)
theorem Syn.put (sy:Syn h e)(i:h.ft.length=h.en.length)(le:c.length=e.length)(al:∀j,j<e.length->tAt c j=qF (h.put dy s w r (fll φ h s w r)) e j):Syn (h.put dy s w r (fll φ h s w r)) (c++[(w,[dZ dy s],r,dy)]):=by
 have len:=le.trans sy.len;have f:(h.put dy s w r (fll φ h s w r)).en.length=h.en.length+1:=ax
 have g:∀k,k<(h.put dy s w r (fll φ h s w r)).en.length->(k<h.en.length/\tAt (c++[(w,[dZ dy s],r,dy)]) k=qF (h.put dy s w r (fll φ h s w r)) e k/\Hd.at (h.put dy s w r (fll φ h s w r)) k=h.at k)\/(k=h.en.length/\tAt (c++[(w,[dZ dy s],r,dy)]) k=(w,[dZ dy s],r,dy)/\Hd.at (h.put dy s w r (fll φ h s w r)) k=(s,w,r)):=λk d=>by
  by_cases z:k<h.en.length
  .exact .inl ⟨z,by rw[KP (len▸z)];exact al k (sy.len▸z),kU z⟩
  .have :k=h.en.length:=by omega
   subst this;exact .inr ⟨rfl,by rw[<-len];exact KQ,iC⟩
 refine⟨by rw[ax,len,f];rfl,λk d=>?_,λk d=>?_,λk d=>?_,λk d=>?_⟩
 .rcases g k d with⟨z,a,b⟩|⟨z,a,b⟩
  .rw[a,b];exact sy.wd k z
  .rw[a,b]
 .rcases g k d with⟨z,a,b⟩|⟨z,a,b⟩
  .rw[a,b];exact sy.rl k z
  .rw[a,b]
 .rcases g k d with⟨z,a,b⟩|⟨z,a,b⟩
  .rw[a];rfl
  .rw[a,z,As i]
 .rcases g k d with⟨z,a,b⟩|⟨z,a,b⟩
  .rw[a,b,E1 i z];obtain⟨l,f⟩:=sy.st k z;split
   .exact⟨l++[z71 dy h.en.length],by rw[f];rfl⟩
   .exact⟨l,f⟩
  .rw[a,b,z,As i];exact⟨[],rfl⟩
theorem UR (a:h.ft.length=h.en.length)(b:z1a h.es s=Z7):h.en.length∈bZ φ (h.put dy s w r (fll φ h s w r)) s w .none:=by
 refine jI.mpr ⟨?_,?_,?_,?_⟩
 .show _<(h.en++[_]).length;rw[ax];simp_all
 .rw[show Hd.at (h.put dy s w r (fll φ h s w r)) h.en.length=(s,w,r)from iC]
 .rw[As a];rfl
 .rw[show Hd.at (h.put dy s w r (fll φ h s w r)) h.en.length=(s,w,r)from iC];exact yO (au.mp b).2
end
namespace L5
def ro:WS:=.seq (.exp (.bE (.raw 0) 0 (.cons (.raw 1) .nil))) (.seq (.ret (.ix (.ix Hs.EN (.raw 1)) (.aT (.int 2)))) .nil)
end L5
def spRo (φ:cT)(K:Z5)(HC CC:Addr):Sp:=λvs H Q _=>∃x A h k,vs=[.ref x,.int (k:Nat)]/\Hou K HC CC H x A h/\Hok φ h/\k<h.en.length/\∀H' v,Same H H'->Rep K H' AnyB v (h.at k).2.2->Q v H'
theorem US (f:HouK Z.K a)(g:Z.me[0]?=Z9 (a,("check_number":Str),spCn Z.K a i Z.mg))(t:Hou Z.K a i H x A h)(ok:Hok p h)(j:k<h.en.length)(q:∀b v,Same H b->Rep Z.K b AnyB v (h.at k).2.2->l.rt v b):wS Z L5.ro l [Z9 (.ref x),Z9 (.int k)] H:=by refine t.bE g rfl (aI (aF rfl (bI ⟨x,A,h,k,rfl,t,ok.big,?_⟩)));rw[sf (by unfold kR;simp;omega)];intro s c;have d:=t.same c;refine pX (iM (iM (pR f d rfl (aF rfl (hY d.fW (yi j) λw r=>?_)))));exact nI λm e=>hY (r.sm e) rfl λn o=>q m n (c.trans e) o
theorem Lg (n:Nat)(p:Bool×P×P×P):shal (n+4) (mr p)=true:=by
 refine qM.mpr λw a=>?_;simp at a;rcases a with rfl|rfl|rfl
 .show eZ (n+2) [pk p.2.1,pk p.2.2.1]=Z7;refine qM.mpr λw a=>?_;simp at a;rcases a with rfl|rfl<;>exact IF n _
 .rfl
 .exact IF (n+1) _
theorem Lh (q:wT Z a σ H λc H1=>if c=Z7 then R Z7 H1 else wT Z b σ H1 R):wT Z (.tV a b) σ H R:=q
theorem AA (q:wT Z a b H λc d=>R (!c) d):wT Z (.not a) b H R:=q
section
variable {φ:cT}{Z:Wc}{HC CC x:Addr}{A:Ha}{H:Hp}{a:Addr}{ds fs:List Addr}{ts:List TE}{h h1:Hd}{rs:List Cw}{D0:Ends}{vr vd:V}{dy:Int}{s w:Str}{p:Bool×P×P×P}{B:Ad->Prop}{o7:Option V}
abbrev yV (x:Addr)(vr:V)(a:Addr)(vd:V)(dy:Int)(h:Hd)(o7:Option V):L2.St:=[Z9 (.ref x),Z9 vr,Z9 (.ref a),Z9 vd,Z9 (.int dy),Z9 (.int h.en.length),Z9 .aM,o7]
theorem zlh (hκ:Z.Κ=[])(hφ:Z.Φ=[])(hF:PhL φ)(f1:Z.fn[1]?=Z9 (spFg φ Z.K HC CC))(m1:Z.me[1]?=Z9 (HC,("fate":Str),spFt φ Z.K HC CC Z.mg))(m2:Z.me[2]?=Z9 (HC,("ruling_of":Str),spRo φ Z.K HC CC))(d0:Z.md[0]?=Z9 (HC,("standing":Str),spSt φ Z.K HC CC Z.mg))(nd:(nmC rs).Nodup)(hes:h.es=esC rs)(e1:h1=h.put dy s w (mr p) (fll φ h s w (mr p)))(th:Hou Z.K HC CC H x A h1)(ok:Hok φ h)(ok1:Hok φ h1)(tl:Tls Z.K H a ds fs ts)(sy:Syn h ts)(d1:∀b,A.own x b->¬(b=a\/b∈ds\/b∈fs))(ap:Apt φ h1)
  (rr:Rep Z.K H B vr (.list (rs.map cwD))) (rd:Rep Z.K H B vd (ddD s w p)) (hB:∀b,B (Z9 b)->b∉ds) (gp:GR p) (hc:z1a h.es s=Z7)
  (q:∀H' uM lO iD,Bo5 φ Z.K HC CC H' x A a uM lO iD h1 rs->(∀b o,b∉ds->b≠a->H b=Z9 o->H' b=Z9 o)->(∀b∈uM,b∈ds\/H b=Z8)->(∀f∈lO,f∈fs\/H f=Z8)->D0.rt (.bl Z7) H'):
  wS Z vK D0 (yV x vr a vd dy h o7) H:=by
 have Ft:h1.en.length=h.en.length+1:=by rw[e1];exact ax
 have Fu:h1.es=h.es:=by rw[e1];rfl
 have UT:h1.at h.en.length=(s,w,mr p):=by rw[e1];exact iC
 have Li:h1.fa h.en.length=[dZ dy s]:=by rw[e1];exact As ok.len
 have Lj:kR h1 (h.en.length:Int)=true:=by unfold kR;simp;omega
 have UU:=Lg 36 p;refine bP (dD (aF (Z:=Z) rfl ⟨Z6,rfl,bV Z ?_⟩));have sl:∀{H':Hp},Same H H'->Sl Z.K H' (yV x vr a vd dy h o7) [Z8,Z8,Z9 (.od,.list (ts.map cZ)),Z9 (.od,ddD s w p),Z9 (.od,.int dy),Z9 (.od,.int h.en.length),Z8,Z8]:=λ{H'} s'=>.no (.no (.da (tl.same s').rep (.da (rd.sm s') (.eU (.eU (.no (.no .nil)))))));have pT:∀{H':Hp} {Q:VK},Same H H'->(∀H2 v,Same H' H2->Rep Z.K H2 (nw H') v (.list [dZ dy s])->Q v H2)->wE Z (.bE (.raw 0) 1 (.cons (.raw 5) .nil)) (yV x vr a vd dy h o7) H' Q:=λ{H' Q} s' k=>by refine(th.same s').bE m1 rfl (aI (aF rfl (bI ⟨x,A,h1,h.en.length,rfl,th.same s',ok1,?_⟩)));rw[sf Lj,fi,Li];exact k
 refine bP (dD (Lh (gF hκ hφ (sl (Same.refl H)) (rX (aC rfl) (cO (aG (aC rfl) aY) (by rw[uC,ah,sy.len]) rfl).e rfl) λH1 s1=>?_)));refine rP (pT s1 λH2 v2 s2 r2=>eB hκ hφ (sl (s1.trans s2)) (Ev.of (mY (bD (jB (bD eS (bD (v_var rfl rfl) (bD (aO (aC rfl) aH.e qC rfl) eN)))) eN))) λv3 H3 s3 r3=>kQ (r2.sm s3) r3 (yg E8) λH4 s4=>⟨_,rfl,bV Z ?_⟩);have uL:=s1.trans (s2.trans (s3.trans s4));refine bP (dD (rP ((th.same uL).bE m2 rfl (aI (aF rfl (bI ⟨x,A,h1,h.en.length,rfl,th.same uL,ok1,by omega,λH5 v5 s5 r5=>?_⟩))))));rw[UT]at r5;have Lk:=uL.trans s5;refine eB hκ hφ (sl Lk) (cY (aC rfl) aH.e qE) λv6 H6 s6 r6=>kQ (r5.sm s6) r6 (yg UU) λH7 s7=>⟨_,rfl,bV Z ?_⟩;have AD:=Lk.trans (s6.trans s7);refine bP (dD (Lh (rP (aF rfl (z7j d0 (th.same AD) ok1 rfl (by rw[Fu];exact hc) (λR k=>eB hκ hφ (sl AD) (cY (aC rfl) aH.e qC) k) (λH8 R s8 k=>eB hκ hφ (sl (AD.trans s8)) (cY (aC rfl) aH.e qD) k) λH8 p8 s8 n8 e8=>kQ (B:=AnyB) (dx:=.int h.en.length) rfl (vJ e8) (K2 _ _) λH9 s9=>⟨_,rfl,?_⟩)))));rw[sr (show h.en.length∈bZ φ h1 s w .none by rw[e1];exact UR ok.len hc)];have sA:=AD.trans (s8.trans s9)
 have nod:∀b,A.own x b\/b=A.c->b∉ds:=λb hb y=>by
  rcases hb with hb|hb
  .exact d1 b hb (.inr (.inl y))
  .exact Fq th tl (.inr (.inl y)) hb
 refine AA (ue (qI f1 (aI (aF rfl (aI (aF rfl (aI (aF rfl (aI (aF rfl (aI (aF rfl (aI (aF rfl (bI ⟨x,A,a,ds,fs,ts,h1,rs,vr,vd,h.en.length,dy,ddD s w p,B,rfl,nd,Fu.trans hes,th.same sA,ok1,tl.same sA,by rw[sy.len];omega,rr.sm sA,rd.sm sA,hB,nod,by rw[e1];exact UQ hF ok sy gp,λHA uK UW g=>⟨Z7,rfl,?_⟩⟩)))))))))))))));refine bV Z ?_;have fA:=λb o hb e=>g.fr b o hb (sA b o e);have fx:∀{b o},H b=Z9 o->Fix o->b∉ds:=λ{b o} e z y=>by obtain⟨ws,e2⟩:=tl.vF (.inr (.inl y));rw[e]at e2;cases e2;exact z
 have Fv:=Fs (th.same sA) (tl.same sA) nod g.fr;have UX:=Rep.keep (λb o e z=>fA b o (z.elim (hB b) (fx e)) e) (λ_ z=>z) _ rd;have Ll:∀{H':Hp},Same HA H'->Sl Z.K H' (yV x vr a vd dy h o7) [Z8,Z8,Z8,Z9 (.od,ddD s w p),Z9 (.od,.int dy),Z9 (.od,.int h.en.length),Z8,Z8]:=λ{H'} s'=>.no (.no (.no (.da (UX.sm s') (.eU (.eU (.no (.no .nil)))))));refine bP (vy (aF rfl ⟨.inl ⟨rfl,_,SqL.of g.tl.lst⟩,rQ (aI (eB hκ hφ (Ll (Same.refl HA)) (cY (aC rfl) aH.e qD) λv1 HB sB r1=>aI ?_))⟩));refine(Fv.same sB).bE m1 rfl (aI (aF rfl (bI ⟨x,A,h1,h.en.length,rfl,Fv.same sB,ok1,?_⟩)));rw[sf Lj,fi,Li];intro UY v2 sC r2;obtain⟨pf,ws,rfl,UZ,rws⟩:=r2
 obtain⟨ef,nf⟩:UY pf=Z9 (.lst ws)/\HB pf=none:=by
  rcases UZ with hp|hp
  .exact⟨hp.1,hp.2⟩
  .exact hp.2.elim
 refine aI (eB hκ hφ (Ll (sB.trans sC)) (cY (aC rfl) aH.e qE) λv3 HD sD r3=>aI (aF rfl (bI ⟨by rw[db];simp,λd hd=>?_⟩)));have Lm:=sC.trans sD;have Fw:=sB.trans Lm;have tD:=g.tl.same Fw;have uD:Same HD (upd HD d (.lst [v1,.ref pf,v3,.int dy])):=Same.upd hd;have Ln:upd HD d (.lst [v1,.ref pf,v3,.int dy]) d=Z9 (.lst [v1,.ref pf,v3,.int dy]):=bF;generalize upd HD d (.lst [v1,.ref pf,v3,.int dy])=HE at uD Ln;have tE:=tD.same uD;have Fx:∀{b},(b=a\/b∈ds\/b∈uK)->b≠d:=λ{b} hb z=>tD.there hb (z▸hd);have Lo:∀{b},(b=a\/b∈ds\/b∈uK)->b≠pf:=λ{b} hb z=>(g.tl.same sB).there hb (z▸nf);have U0:=uD _ _ (sD _ _ ef);have U1:d≠pf:=λz=>by rw[z,sD _ _ ef]at hd;cases hd
 have t2:=tE.put1 (e:=(w,[dZ dy s],mr p,dy)) Ln (Rep.aS _ rfl (r1.sm (Lm.trans uD))) (Rep.aS _ (iO p) (r3.sm uD)) U0 (rws.sm (sD.trans uD)) (λz=>Fx (.inl rfl) z.symm) (λz=>Fx (.inr (.inl z)) rfl) (λz=>Fx (.inr (.inr z)) rfl) (λz=>Lo (.inl rfl) z.symm) (λz=>Lo (.inr (.inl z)) rfl) U1;have dl:(ds.map V.ref).length<ba:=by rw[ah,tl.dl,sy.len,db];have:=ok.big;omega
 refine⟨a,ds.map V.ref,.ref d,rfl,rfl,tE.lst,dl,?_⟩;have fE:∀b o,b≠a->HA b=Z9 o->upd HE a (.lst (ds.map V.ref++[.ref d])) b=Z9 o:=λb o hb e=>by rw[aE hb];exact(Fw.trans uD) b o e
 generalize upd HE a (.lst (ds.map V.ref++[.ref d]))=U2 at t2 fE
 have na:∀b,A.own x b\/b=A.c->b≠a:=λb hb y=>by
  rcases hb with hb|hb
  .exact d1 b hb (.inl y)
  .exact Fq th tl (.inl y) hb
 have U3:=Fv.keep (λb o hb e=>fE b o (na b hb) e) λb o e z=>fE b o (λy=>by subst y;rw[g.tl.lst]at e;cases e;exact z) e
 have Lp:∀{b},HA b=Z8->H b=none:=λ{b} e=>by
  cases eb:H b with
  |none=>rfl
  |some o=>
   by_cases y:b∈ds
   .exact(g.tl.there (.inr (.inl y)) e).elim
   .rw[fA b o y eb]at e;cases e
 have U4:=Lp (Fw.none hd);have U5:=Lp (sB.none nf)
 have nF:∀f∈uK++[pf],f∈fs\/H f=none:=λf hf=>by
  rcases bw.mp hf with z|z
  .exact(g.nf f z).imp id λz=>sA.none z
  .rw[az.mp z];exact .inr U5
 have nD:∀b∈ds++[d],b∈ds\/H b=none:=λb hb=>by
  rcases bw.mp hb with z|z
  .exact .inl z
  .rw[az.mp z];exact .inr U4
 refine pX ⟨_,F0 U2,(.fr,.bool Z7),lK,rfl,λv H5 s5 r=>by
  cases r;refine q H5 (ds++[d]) (uK++[pf]) (UW++[(w,[dZ dy s],mr p,dy)]) ⟨U3.same s5,t2.same s5,ok1,Fu.trans hes,λb hb z=>?_,?_,ap⟩ (λb o h1 h2 e=>s5 b o (fE b o h2 (fA b o h1 e))) nD nF
  .have ne:=uN th (.inl hb);rcases z with z|z|z
   .exact d1 b hb (.inl z)
   .exact(nD b z).elim (λz=>d1 b hb (.inr (.inl z))) ne
   .exact(nF b z).elim (λz=>d1 b hb (.inr (.inr z))) ne
  .rw[e1];exact sy.put ok.len g.le (by rw[<-e1];exact g.al)⟩
end
abbrev Fy:WS:=.seq (.ifS (.tp (.tv (.cmp .NotEq (.var 6) (.cmp .Eq (.bi "len" (.cons L5.vD .nil)) (.int 1))))) Hl.rF .nil)
 (.seq (.ifS (.fV (.tp (.tv (.var 6))) (.tc .Eq (.bE (.raw 0) 1 (.cons (.raw 3) .nil)) (.aT L5.vD))) Hl.rF .nil)
 (.seq (.ret (.fJ 0 (.cons (.raw 0) (.cons (.raw 1) (.cons (.raw 2) (.cons (.aT (.tup (.cons (.str "overrule") (.cons (.var 5) .nil)))) (.cons (.raw 3) (.cons (.raw 4) .nil)))))))) .nil))
theorem U6 (a:shal 40 (.list (f++[z]))=Z7)(b:shal 40 (.list f)=Z7):cmpD .Eq (.list (f++[z])) (.list f)=.ok false:=by
 show(if(shal 40 (.list (f++[z]))&&shal 40 (.list f))=Z7 then Res.ok (eQ (.list (f++[z])) (.list f))else Res.no)=_;rw[a,b,sf (show(Z7&&Z7)=Z7 from rfl)];have:eQ (.list (f++[z])) (.list f)=false:=by show ZW (.list _) (.list _)=Z6;rw[ZW];exact E6 z f
 rw[this]
theorem U7 (ok:Hok i h)(sy:Syn h d)(e:k<h.en.length)(f:(h.fa k).length=1)(m:(h.at k).1=c):FgC (h.gT dy c k) d k dy (.tuple [.str "overrule",.str c]):=λj g=>by
 have a:j<h.en.length:=sy.len▸g;rw[Au (ok.len▸e)];by_cases z:j=k
 .subst z;rw[sf rfl];obtain⟨l,b⟩:=sy.st j a;have:l=[]:=by rw[b]at f;simp_all
  subst this;exact .inr ⟨(tAt d j).2.2.2,(h.at j).1,uI dy c,by rw[sy.ft j a,b],by rw[b],(au.mp (ok.gd _ (ar (Hd.get a))).2.2).2,.ov rfl rfl⟩
 .rw[sg z];exact .inl (sy.ft j a)
theorem zcm (j:Z.Κ=[])(l:Z.Φ=[])(S:Z.fn[0]?=Z9 (spFg J Z.K HC L))(T:Z.me[1]?=Z9 (HC,("fate":Str),spFt J Z.K HC L Z.mg))(nd:(nmC rs).Nodup)(D:h1.es=esC rs)(th:Hou Z.K HC L H x A h1)(m:Hok J h1)(tl:Tls Z.K H a u fs d)(U:d.length<=h1.en.length)(V:k<d.length)(sh:shal 40 (.list (tAt d k).2.1)=Z7)(nod:∀b,A.own x b\/b=A.c->b∉u)
  (rr:Rep Z.K H B v (.list (rs.map cwD))) (W:Rep Z.K H B E (.str c)) (X:∀b,B (Z9 b)->b∉u) (F:b=((tAt d k).2.1.length==1)) (hg:b=Z7->∃z,h1.fa k=(tAt d k).2.1++[z]) (fc:FgC h1 d k dy (.tuple [.str "overrule",.str c]))
  (q:∀r n p,Ay Z.K H r a u fs n h1 d p->M.rt (.bl Z7) r):
  wS Z Fy M [Z9 (.ref x),Z9 v,Z9 (.ref a),Z9 (.int k),Z9 (.int dy),Z9 E,Z9 (.bl b)] H:=by
 have sl:∀{r:Hp},Same H r->Sl Z.K r [Z9 (.ref x),Z9 v,Z9 (.ref a),Z9 (.int k),Z9 (.int dy),Z9 E,Z9 (.bl b)] [Z8,Z8,Z9 (.od,.list (d.map cZ)),Z9 (.od,.int k),Z9 (.od,.int dy),Z9 (.od,.str c),Z9 (.od,.bool b)]:=λ{r} N=>.no (.no (.da (tl.same N).rep (.eU (.eU (.da (W.sm N) (.da (B:=AnyB) rfl .nil))))));have evF:∀{G:Rho},G[2]?=Z9 (Z9 (.od,.list (d.map cZ)))->G[3]?=Z9 (Z9 (.od,.int k))->Ev [] [] L5.vD G (.list (tAt d k).2.1):=λr2 s=>cY (cY (aC r2) (aC s) (yL V)) aH.e (uG _);have cb:cmpD .NotEq (.bool b) (.bool b)=.ok false:=by cases b<;>rfl
 refine bP (dD (gF j l (sl (Same.refl H)) (aP (dQ (aC rfl) (dQ (cO (aG (evF rfl rfl) aY) rfl rfl).e aH.e (by
  show Res.ok (eQ (.int _) (.int _))=_;rw[xV,F]
  congr 1
  rw[ku,decide_eq_true_iff,beq_iff_eq];omega)).e cb).e rfl) λH1 O=>bV Z ?_))
 have t:∀{w:Hp},Same H w->wS Z (.seq (.ret (.fJ 0 (.cons (.raw 0) (.cons (.raw 1) (.cons (.raw 2) (.cons (.aT (.tup (.cons (.str "overrule") (.cons (.var 5) .nil)))) (.cons (.raw 3) (.cons (.raw 4) .nil)))))))) .nil) M [Z9 (.ref x),Z9 v,Z9 (.ref a),Z9 (.int k),Z9 (.int dy),Z9 E,Z9 (.bl b)] w:=λ{w} y=>by refine pX (qI S (aI (aF rfl (aI (aF rfl (aI (aF rfl (aI (eB j l (sl y) (jB (bD eS (bD (v_var rfl rfl) eN))).e λP H3 C s=>aI (aF rfl (aI (aF rfl (bI ?_)))))))))))));have h:=y.trans C;exact⟨x,A,a,u,fs,d,h1,rs,v,P,k,dy,.tuple [.str "overrule",.str c],B,rfl,nd,D,th.same h,m,tl.same h,U,rr.sm h,(Rep.aS (B':=NoB) _ rfl s).weak λ_ z=>z.elim,X,nod,fc,λQ n p g=>q Q n p ⟨λb o F e=>g.fr b o F (h b o e),g.tl,g.le,g.al,λf hf=>(g.nf f hf).imp id λz=>h.none z⟩⟩
 refine bP (dD (D8 (gF j l (sl O) (aP (v_var rfl rfl).e rfl) λw y=>?_)));have i:=O.trans y;cases b with
 |false=>exact bV Z (t i)
 |true=>
  obtain⟨z,ez⟩:=hg rfl;have I:k<h1.en.length:=by omega
  refine rP ((th.same i).bE T rfl (aI (aF rfl (bI ⟨x,A,h1,k,rfl,th.same i,m,?_⟩))));rw[sf (by unfold kR;simp;omega)];intro H3 P C s;refine eB j l (sl (i.trans C)) (evF rfl rfl) λv4 Q R r4=>?_;have c1:cmpD .Eq (.list (h1.fa k)) (.list (tAt d k).2.1)=.ok false:=by have:=yh (m.fo _ (ar (Hd.eT (m.len▸I))));rw[ez]at this ⊢;exact U6 this sh
  exact kQ (s.same R λ_ _=>trivial) r4 c1 λH5 s5=>⟨_,rfl,bV Z (t (i.trans (C.trans (R.trans s5))))⟩
abbrev PqT (φ:cT)(K:Z5)(HC CC:Addr)(H:Hp)(x:Addr)(A:Ha)(a:Addr)(ds fs:List Addr)(h:Hd)(rs:List Cw)(dy:Int)(Q:VK):Prop:=∀H' A' uM lO iD h',yU φ K HC CC H H' x A A' a ds fs uM lO iD h' rs->h'.en.length<=h.en.length+1->(h'.ld=h.ld\/h'.ld=Z9 dy)->Q (.bl Z7) H'
def spEt (φ:cT)(K:Z5)(HC CC:Addr):Sp:=λvs H Q _=>∃x A a ds fs ts h rs vr vd dy s w p B,vs=[.ref x,vr,.ref a,vd,.int dy]/\(nmC rs).Nodup/\Bo5 φ K HC CC H x A a ds fs ts h rs/\h.en.length<900/\Rep K H B vr (.list (rs.map cwD))/\Rep K H B vd (ddD s w p)/\(∀b,B (Z9 b)->¬Ow5 x A a ds b)/\GR p/\z1a h.es s=Z7/\late h.ld dy=Z6/\PqT φ K HC CC H x A a ds fs h rs dy Q
def spOr (φ:cT)(K:Z5)(HC CC:Addr):Sp:=λvs H Q _=>∃x A a ds fs ts h rs vr k dy B,vs=[.ref x,vr,.ref a,.int (k:Nat),.int dy]/\(nmC rs).Nodup/\Bo5 φ K HC CC H x A a ds fs ts h rs/\k<h.en.length/\Rep K H B vr (.list (rs.map cwD))/\(∀b,B (Z9 b)->¬Ow5 x A a ds b)/\late h.ld dy=Z6/\PqT φ K HC CC H x A a ds fs h rs dy Q
theorem U8 (p:Bool×P×P×P):eA p p=false:=by unfold eA ag;rw[show(p.1==p.1)=Z7 from beq_self_eq_true _];rfl
theorem Lq {K:Z5}(th:Hou K j k H x A h)(tl:Tls K H a c fs d)(d1:∀b,A.own x b->¬(b=a\/b∈c\/b∈fs))(f:fF A x H g):Tls K g a c fs d:=tl.keep (λb o i e=>f b o (λz=>d1 b z i) e) λb o e z=>f b o (λw=>th.nM w e z) e
theorem AE {K:Z5}(th:Hou K g i H x A h)(a:∀b,B (Z9 b)->¬A.own x b)(f:fF A x H c)(r:Rep K H B v d):Rep K c B v d:=Rep.keep (λb o e z=>f b o (z.elim (a b) λz w=>th.nM w e z) e) (λ_ z=>z) _ r
theorem en_q (C:Z.Κ=[])(J:Z.Φ=[])(u:PhL d)(T:Z.fn[0]?=Z9 (spRg d Z.K i l))(Q:Z.fn[1]?=Z9 (spFg d Z.K i l))(U:Z.me[1]?=Z9 (i,("fate":Str),spFt d Z.K i l Z.mg))(V:Z.me[2]?=Z9 (i,("ruling_of":Str),spRo d Z.K i l))(d0:Z.md[0]?=Z9 (i,("standing":Str),spSt d Z.K i l Z.mg))(nd:(nmC rs).Nodup)(t:Bo5 d Z.K i l H x A a F fs ts h rs)(hn:h.en.length<900)(rr:Rep Z.K H B R (.list (rs.map cwD)))(rd:Rep Z.K H B vd (ddD s w p))(L:∀b,B (Z9 b)->¬Ow5 x A a F b)(m:GR p)(G:z1a h.es s=Z7)(q:PqT d Z.K i l H x A a F fs h rs dy D0.rt):
  match bar d h s w (mr p)with
   |some k=>∀j,Same H j->wS Z vK D0 [Z9 (.ref x),Z9 R,Z9 (.ref a),Z9 vd,Z9 (.int dy),o5,Z9 (.int k),o7] j
   |none=>∀j I,fF A x H j->H I=Z8->Hou Z.K i l j x {A with as:=A.as++[I]} (h.put dy s w (mr p) (fll d h s w (mr p)))->wS Z vK D0 (yV x R a vd dy h o7) j:=by
 cases c:bar d h s w (mr p)with
 |some k=>intro j v;exact zk3 C T Q nd (t.same v) (rr.sm v) (rd.sm v) L m G c λM n r g=>q M A F n r h ⟨g.b,λb o c e=>g.fr b o c (v b o e),λb c=>(g.ow b c).imp id λz=>v.none z,λf hf=>(g.nf f hf).imp id λz=>v.none z⟩ (g8 _) (.inl rfl)
 |none=>
  intro j I f n1 D;have E:=λb c z=>L b c (.inl z);have N:∀k,k<h.en.length->d.ag (mr p) (h.at k).2.2=d.ag (h.at k).2.2 (mr p):=λk hk=>by obtain⟨S,g2,e2⟩:=K0 t.ok u hk;rw[e2,u.g3 p S m g2,u.g3 S p g2 m,KJ]
  have O:∀b,({A with as:=A.as++[I]}:Ha).own x b->¬(b=a\/b∈F\/b∈fs):=λb c z=>by
   rcases KR c with c|c
   .exact t.d1 b c z
   .exact t.tl.there z (c▸n1)
  have back:∀{b},j b=Z8->H b=none:=λ{b} e=>by
   cases eb:H b with
   |none=>rfl
   |some o=>
    by_cases y:A.own x b
    .exact(uN D (.inl (Uj y)) e).elim
    .rw[f b o y eb]at e;cases e
  refine zlh C J u Q U V d0 nd t.es rfl D t.ok (t.ok.put (by omega) (u.g1 p m) (iO p) G) (Lq t.th t.tl t.d1 f) t.sy O (t.ap.put t.ok.len G c N (u.g3 p p m m▸U8 p)) (AE t.th E f rr) (AE t.th E f rd) (λb c z=>L b c (.inr (.inr z))) m G λM P n r b5 fr nD nF=>q M _ P n r _ ⟨b5,λb o c e=>fr b o (λz=>c (.inr (.inr z))) (λz=>c (.inr (.inl z))) (f b o (λz=>c (.inl z)) e),λb c=>?_,λg hg=>(nF g hg).imp id back⟩ ?_ (.inr rfl)
  .rcases c with c|c|c
   .rcases KR c with c|c
    .exact .inl (.inl c)
    .exact .inr (c▸n1)
   .exact .inl (.inr (.inl c))
   .exact(nD b c).imp (λz=>.inr (.inr z)) back
  .show(h.en++[_]).length<=_;rw[ax];simp_all
theorem _root_.Mi.Hok.Fz (ok:Hok b h)(d:k<h.ft.length)(a:(h.fa k).length=1):Hok b (h.gT dy c k):=by
 refine⟨by show(h.ft.set k _).length=_;rw[bx];exact ok.len,ok.big,ok.gd,λf hm=>?_⟩;rcases g0 hm with z|rfl
 .exact ok.fo f z
 .have fo:=ok.fo _ (ar (Hd.eT d));refine⟨by rw[ax,a];exact ma 1 _,by rw[ax,a];exact ae 2,λr e=>?_⟩;rcases bw.mp e with z|z
  .exact fo.2.2 r z
  .rw[az.mp z];rfl
theorem Syn.gT (sy:Syn h d)(g:k<h.ft.length)(le:b.length=d.length)(al:∀j,j<d.length->tAt b j=qF (h.gT dy c k) d j):Syn (h.gT dy c k) b:=by
 have e:=λj a=>al j (sy.len▸a);refine⟨le.trans sy.len,λj a=>by rw[e j a];exact sy.wd j a,λj a=>by rw[e j a];exact sy.rl j a,λj a=>by rw[e j a];rfl,λj a=>?_⟩;rw[e j a,Au g];obtain⟨l,f⟩:=sy.st j a;split
 .rename_i z;subst z;exact⟨l++[uI dy c],by rw[f];rfl⟩
 .exact⟨l,f⟩
theorem ov_q (u:Z.Κ=[])(v:Z.Φ=[])(L:Z.fn[0]?=Z9 (spFg φ Z.K w F))(M:Z.me[1]?=Z9 (w,("fate":Str),spFt φ Z.K w F Z.mg))(nd:(nmC rs).Nodup)(t:Bo5 φ Z.K w F H x A a ds fs N h rs)(n:k<h.en.length)(rr:Rep Z.K H B O (.list (rs.map cwD)))(P:Rep Z.K H NoB Q (.str c))(S:(h.at k).1=c)(G:∀b,B (Z9 b)->¬Ow5 x A a ds b)(q:PqT φ Z.K w F H x A a ds fs h rs dy R.rt):
  if(h.fa k).length=1 then ∀j,fF A x H j->Hou Z.K w F j x A (h.gT dy c k)->wS Z Fy R [Z9 (.ref x),Z9 O,Z9 (.ref a),Z9 (.int k),Z9 (.int dy),Z9 Q,Z9 (.bl Z7)] j else ∀j,Same H j->wS Z Fy R [Z9 (.ref x),Z9 O,Z9 (.ref a),Z9 (.int k),Z9 (.int dy),Z9 Q,Z9 (.bl Z6)] j:=by
 have C:k<N.length:=t.sy.len▸n;have i:k<h.ft.length:=t.ok.len▸n;have sh:shal 40 (.list (tAt N k).2.1)=true:=t.sy.ft k n▸yh (t.ok.fo _ (ar (Hd.eT i)));by_cases l:(h.fa k).length=1
 .rw[sf l];intro j f m;have D:=Lq t.th t.tl t.d1 f;have E:=t.ok.Fz (dy:=dy) (c:=c) i l
  have back:∀{b},j b=Z8->H b=none:=λ{b} e=>by
   cases T:H b with
   |none=>rfl
   |some o=>
    by_cases y:A.own x b
    .exact(uN m (.inl y) e).elim
    .rw[f b o y T]at e;cases e
  refine zcm (h1:=h.gT dy c k) u v L M nd t.es m E D (k7 t.sy.len) C sh t.nod (AE t.th (λb d z=>G b d (.inl z)) f rr) ((AE t.th (λb d=>d.elim) f P).weak λ_ z=>z.elim) (λb d z=>G b d (.inr (.inr z))) (by rw[t.sy.ft k n,l];rfl) (λ_=>⟨uI dy c,by rw[Au i,sf rfl,t.sy.ft k n]⟩) (U7 t.ok t.sy n l S) λI p r g=>q I A ds p r _ ⟨⟨Fs m D t.nod g.fr,g.tl,E,t.es,λb d z=>?_,t.sy.gT i g.le g.al,t.ap.gT i l⟩,λb o d e=>g.fr b o (λz=>d (.inr (.inr z))) (f b o (λz=>d (.inl z)) e),λb d=>.inl d,λU V=>(g.nf U V).imp id back⟩ (g8 _) (.inr rfl);rcases z with z|z|z
  .exact t.d1 b d (.inl z)
  .exact t.d1 b d (.inr (.inl z))
  .rcases g.nf b z with z|z
   .exact t.d1 b d (.inr (.inr z))
   .exact uN m (.inl d) z
 .rw[sg l];intro j s;have J:=t.same s;refine zcm u v L M nd t.es J.th t.ok J.tl (k7 t.sy.len) C sh t.nod (rr.sm s) ((P.sm s).weak λ_ z=>z.elim) (λb d z=>G b d (.inr (.inr z))) (t.sy.ft k n▸(beq_eq_false_iff_ne.mpr l).symm) nofun (Lf t.sy) λI p r g=>?_;have g2:=J.fg g;exact q I A ds p r h ⟨g2.b,λb o d e=>g2.fr b o d (s b o e),λb d=>(g2.ow b d).imp id λz=>s.none z,λf l=>(g2.nf f l).imp id λz=>s.none z⟩ (g8 _) (.inl rfl)
theorem U9 (h0:0<=k)(a:k<5):∃n,(0<=n/\n<=100000000000000000000)/\dC (.list [.int 0,.int 0,.int 1,.int 2,.int 100000000000000000000]) (.int k)=.ok (.int n):=by
 obtain rfl|rfl|rfl|rfl|rfl:k=0\/k=1\/k=2\/k=3\/k=4:=by omega
 .exact⟨0,by decide,rfl⟩
 .exact⟨0,by decide,rfl⟩
 .exact⟨1,by decide,rfl⟩
 .exact⟨2,by decide,rfl⟩
 .exact⟨100000000000000000000,by decide,rfl⟩
abbrev Φ5:List Fn:=[nR,Ey,Ez,Ap,Eu,jG,EB,dJ]
section
variable {H:Hp}{B:Ad->Prop}{xs:List Int}{rs:List Cw}{ns:List Str}{v0 vr vn:V}
structure Dt (K:Z5)(H:Hp)(B:Ad->Prop)(xs:List Int)(rs:List Cw)(ns:List Str)(v0 vr vn:V):Prop where
 r0:Rep K H B v0 (.list (xs.map .int))
 rr:Rep K H B vr (.list (rs.map cwD))
 rn:Rep K H B vn (.list (ns.map .str))
theorem Dt.same {K:Z5}(d:Dt K H B xs rs ns v0 vr vn)(s:Same H a):Dt K a B xs rs ns v0 vr vn:=⟨d.r0.sm s,d.rr.sm s,d.rn.sm s⟩
theorem Dt.keep {K:Z5}(d:Dt K H B xs rs ns v0 vr vn)(k:∀b o,H b=Z9 o->(B (Z9 b)\/Fix o)->a b=Z9 o):Dt K a B xs rs ns v0 vr vn:=⟨Rep.keep k (λ_ z=>z) _ d.r0,Rep.keep k (λ_ z=>z) _ d.rr,Rep.keep k (λ_ z=>z) _ d.rn⟩
end
abbrev σ5 (v0 vn:V)(f:Bool)(g:Int)(vr:V)(x a:Addr)(tl:L2.St):L2.St:=Z9 v0::Z9 vn::Z9 (.bl f)::Z9 (.int g)::Z9 vr::Z9 (.ref x)::Z9 (.ref a)::tl
abbrev hP (xs:List Int)(ns:List Str)(f:Bool)(g:Int)(rs:List Cw)(ts:List TE)(tl:Rho):Rho:=Z9 (.od,.list (xs.map .int))::Z9 (.od,.list (ns.map .str))::Z9 (.od,.bool f)::Z9 (.od,.int g)::Z9 (.od,.list (rs.map cwD))::Z8::Z9 (.od,.list (ts.map cZ))::tl
theorem kX {K:Z5}(d:Dt K H B c rs ns e h i)(l:Tls K H a k fs j)(t:Sl K H tl b):Sl K H (σ5 e i f g h x a tl) (hP c ns f g rs j b):=.da d.r0 (.da d.rn (.da (B:=AnyB) rfl (.eU (.da d.rr (.no (.da l.rep t))))))
theorem yW (c:Int×Bool)(h0:0<=k)(a:k<=100)(b:ρ[9]?=Z9 (Z9 (.od,clD c))):∃n,(0<=n/\n<60)/\Vv [] Φ5 (L5.uz k) ρ (.int n):=by obtain⟨n,hn,e⟩:=yH c h0 a;exact⟨n,hn,cR (aG (aC b) (aG aH.e aY)) rfl e rfl⟩
theorem Ls (fx:Fx2 rs ns)(c:Int×Bool)(h0:0<=k)(a:k<=100)(b:ρ[1]?=Z9 (Z9 (.od,.list (ns.map .str))))(d:ρ[9]?=Z9 (Z9 (.od,clD c))):∃s,s∈nmC rs/\Vv [] Φ5 (L5.bR k) ρ (.str s):=by obtain⟨n,hn,e⟩:=yW c h0 a d;exact⟨_,fx.at (by omega) (by omega),aO (aC b) (bJ e.e aH.e (fC dc) rfl).e (tQ (by omega) (by rw[fx.l8];omega)) rfl⟩
theorem Lu (fx:Fx2 rs ns)(c:Int×Bool)(h0:0<=k)(a:k<=100)(b:ρ[1]?=Z9 (Z9 (.od,.list (ns.map .str))))(d:ρ[9]?=Z9 (Z9 (.od,clD c))):∃w,Vv [] Φ5 (L5.EG k) ρ (.str w):=by obtain⟨n,hn,e⟩:=yW c h0 a d;exact⟨_,aO (aC b) (bJ aH.e (bJ e.e aH.e (fC dc) rfl).e rfl rfl).e (tQ (by omega) (by rw[fx.l8];omega)) rfl⟩
abbrev qJ (dy:Int)(i:Nat)(c:Int×Bool):Rho:=[Z9 (.od,.int dy),Z9 (.od,.int (2+i)),Z9 (.od,clD c),Z8,Z8,Z8,Z8]
theorem zll {i:Nat}(b:Z.Κ=[])(l:Z.Φ=Φ5)(I:Z.fn[2]?=Z9 (spNg φ Z.K HC CC))(J:Z.fn[3]?=Z9 (spWg φ Z.K HC CC))(fx:Fx2 rs ns)(d:Dt Z.K H B w rs ns v0 y vn)(t:Bo5 φ Z.K HC CC H x A a ds fs s h rs)(hn:h.en.length<64)(L:Rep Z.K H NoB v9 (clD c))(q:∀u,Same H u->M.nx (σ5 v0 vn f g y x a [Z9 (.int dy),Z9 (.int (2+i)),Z9 v9,Z9 (.bl Z7),m,n,o]) u):
  wS Z L5.EH M (σ5 v0 vn f g y x a [Z9 (.int dy),Z9 (.int (2+i)),Z9 v9,Z9 (.bl Z7),m,n,o]) H:=by
 have sl:∀{u:Hp},Same H u->Sl Z.K u (σ5 v0 vn f g y x a [Z9 (.int dy),Z9 (.int (2+i)),Z9 v9,Z9 (.bl Z7),m,n,o]) (hP w ns f g rs s (qJ dy i c)):=λ{u} C=>kX (d.same C) (t.tl.same C) (.eU (.eU (.da (L.sm C) (iB [Z9 (.bl Z7),m,n,o]))));refine bP (dD (AA (ue (aF rfl ⟨Z7,rfl,bV Z ?_⟩))));obtain⟨N,D,O⟩:=Ls (ρ:=hP w ns f g rs s (qJ dy i c)) fx c (k:=21) (by decide) (by decide) rfl rfl;obtain⟨P,Q⟩:=Lu (ρ:=hP w ns f g rs s (qJ dy i c)) fx c (k:=22) (by decide) (by decide) rfl rfl;refine bP (dD (AA (ue (qI I (aI (aF rfl (aI (eB b l (sl (Same.refl H)) O.e λv1 H1 p r1=>aI (eB b l (sl p) Q.e λv2 H2 E r2=>aI (aF rfl (bI ⟨x,A,a,ds,fs,s,h,rs,v1,v2,N,P,AnyB,rfl,t.same (p.trans E),r1.sm E,r2,by rw[t.es];exact fx.bR D,λH3 s3=>⟨Z7,rfl,bV Z ?_⟩⟩)))))))))));have v:=p.trans (E.trans s3);have k2:∀j,Vv [] Φ5 (L5.k2 j) (hP w ns f g rs s (qJ dy i c)) (.int (j+(2+i:Int)%2)):=λj=>bJ aH.e (bJ (aC rfl) aH.e (fC (by decide)) rfl).e rfl rfl;refine bP (dD (AA (ue (qI J (aI (aF rfl (aI (aF rfl (aI (eB b l (sl v) (jH (aC rfl) (lF (k2 5).e) (lF (k2 6).e) (yK _ _)) λv4 z s4 r4=>aI (aF rfl (aI (rQ (bI ⟨cz _,λpl hl=>bI ?_⟩))))))))))))));have F:Same z (upd z pl (.lst [])):=Same.upd hl;have G:upd z pl (.lst []) pl=Z9 (.lst []):=bF;generalize upd z pl (.lst [])=H5 at F G;have r:=v.trans (s4.trans F);exact⟨x,A,a,ds,fs,s,h,rs,ns,_,[],y,v4,.ref pl,AnyB,rfl,fx,t.same r,hn,(d.same r).rr.weak λ_ _=>trivial,r4.sm F,⟨pl,[],rfl,.inl ⟨G,trivial⟩,rfl⟩,λH6 s6=>⟨Z7,rfl,bV Z (bV Z (q H6 (r.trans s6)))⟩⟩
theorem U' (s w:Str)(p:Bool×P×P×P):imm (ddD s w p)=true:=by show(Z7&&(Z7&&(Z7&&(imm (mr p)&&Z7))))=Z7;rw[iO];rfl
theorem zl8 (u:Z.Κ=[])(v:Z.Φ=Φ5)(f0:Z.fn[0]?=Z9 (spEt T Z.K U CC))(f1:Z.fn[1]?=Z9 (spOr T Z.K U CC))(f2:Z.fn[2]?=Z9 (spNg T Z.K U CC))(f3:Z.fn[3]?=Z9 (spWg T Z.K U CC))(fx:Fx2 rs ns)(d:Dt Z.K H B I rs ns v0 vr vn)(t:Bo5 T Z.K U CC H x A a ds fs J h rs)(hB:∀b,B (Z9 b)->¬Ow5 x A a ds b)(hi:2+i<I.length)(hi2:i<60)(hen:h.en.length<=i)(hld:∀l,h.ld=Z9 l->l<=dy)
  (q:∀H' P C D E F AF o9 rY n j,yU T Z.K U CC H H' x A P a ds fs C D E F rs->F.en.length<=i+1->(∀l,F.ld=Z9 l->l<=AF)->D0.nx (σ5 v0 vn f g vr x a [Z9 (.int AF),Z9 (.int (2+i)),o9,rY,n,j,r]) H'):
  wS Z L5.EI D0 (σ5 v0 vn f g vr x a [Z9 (.int dy),Z9 (.int (2+i)),o9,rY,n,j,r]) H:=by
 obtain⟨c,ec⟩:=TJ I (k:=2+i) (by omega) (by omega) (by omega) f;refine dI (eB u v (kX d t.tl (.eU (.eU (iB [o9,rY,n,j,r])))) (cR (aG (aC rfl) (aG (aC rfl) (aG (aC rfl) aY))) rfl ec (KD c)).e λv9 H1 s1 r9=>?_);have sl:∀{H2:Hp} {dy:Int} {rY n j:Option V} {L M:Option GD},Same H1 H2->Sl Z.K H2 [n,j,r] [L,M,Z8]->Sl Z.K H2 (σ5 v0 vn f g vr x a [Z9 (.int dy),Z9 (.int (2+i)),Z9 v9,rY,n,j,r]) (hP I ns f g rs J [Z9 (.od,.int dy),Z9 (.od,.int (2+i)),Z9 (.od,clD c),Z8,L,M,Z8]):=λQ t3=>kX (d.same (s1.trans Q)) (t.tl.same (s1.trans Q)) (.eU (.eU (.da (r9.sm Q) (.no t3))));obtain⟨n1,Ft,e1⟩:=yW (ρ:=hP I ns f g rs J (qJ dy i c)) c (k:=1) dc dc rfl;obtain⟨m,hm,em⟩:=U9 (k:=n1%5) (by omega) (by omega);refine dI (eB u v (sl (Same.refl H1) (iB [n,j,r])) (bJ (aC rfl) (aO (Ev.of (mY (bD aH (bD aH (bD aH (bD aH (bD (bJ aH.e aH.e rfl rfl) eN))))))) (bJ e1.e aH.e (fC dc) rfl).e em rfl).e rfl rfl).e λv7 H2 Q r7=>?_);cases r7
 have um:late h.ld (dy+m)=false:=by
  cases e:h.ld with
  |none=>rfl
  |some l=>exact sw (by grind)
 have Lv:∀{HA HB:Hp} {P:Ha} {C D:List Addr} {E:List TE} {F:Hd} {n j:Option V},Same H HA->yU T Z.K U CC HA HB x A P a ds fs C D E F rs->F.en.length<=h.en.length+1->(F.ld=h.ld\/F.ld=Z9 (dy+m))->Rep Z.K HA NoB v9 (clD c)->wS Z L5.EH D0 (σ5 v0 vn f g vr x a [Z9 (.int (dy+m)),Z9 (.int (2+i)),Z9 v9,Z9 (.bl Z7),n,j,r]) HB:=λ{HA HB P C D E F n j} N ps hl hd rA=>by
  have Lw:∀{b o},HA b=Z9 o->Fix o->¬Ow5 x A a ds b:=λ{b o} e z w=>by
   rcases w with w|w|w
   .exact(t.th.same N).nM w e z
   .subst w;rw[(t.tl.same N).lst]at e;cases e;exact z
   .obtain⟨ws,e2⟩:=(t.tl.same N).vF (.inr (.inl w));rw[e]at e2;cases e2;exact z
  refine zll u v f2 f3 fx ((d.same N).keep λb o e z=>ps.fr b o (z.elim (hB b) (Lw e)) e) ps.b (by omega) (Rep.keep (λb o e z=>ps.fr b o (z.elim (λy=>y.elim) (Lw e)) e) (λ_ z=>z) _ rA) λH' s'=>q H' P C D E F (dy+m) _ _ _ _ ⟨ps.b.same s',λb o hb e=>s' b o (ps.fr b o hb (N b o e)),λb hb=>(ps.ow b hb).imp id λz=>N.none z,λf hf=>(ps.nf f hf).imp id λz=>N.none z⟩ (by omega) λl el=>?_;rcases hd with z|z
  .have:=hld l (z▸el);omega
  .rw[z]at el;cases el;simp_all
 have Lx:∀{HA:Hp},Same H1 HA->Rep Z.K HA NoB v9 (clD c):=λN=>Rep.aS _ (KD c) (r9.sm N);obtain⟨n0,WD,e0⟩:=yW (ρ:=hP I ns f g rs J (qJ (dy+m) i c)) c (k:=0) dc dc rfl;have c1:Tt [] Φ5 (.tv (.cmp .Eq (.bin .Mod (L5.uz 0) (.int 5)) (.int 0))) (hP I ns f g rs J (qJ (dy+m) i c)) (decide (n0%5=0)):=aP (dQ (k:=decide (n0%5=0)) (bJ e0.e aH.e (fC dc) rfl).e aH.e (by show Res.ok (eQ (.int _) (.int _))=_;rw[xV])).e rfl;have c2:Tt [] Φ5 (.tv (.cmp .Gt (.bi "len" (.cons (.var 6) .nil)) (.int 0))) (hP I ns f g rs J (qJ (dy+m) i c)) (decide ((0:Int)<h.en.length)):=aP (dQ (cO (aG (aC rfl) aY) (by rw[uC,ah,t.sy.len]) rfl).e aH.e rfl).e rfl;refine bP (dD (gF u v (sl Q (iB [n,j,r])) (tS c1 λ_=>c2) λH3 s3=>?_));have Ly:=(s1.trans Q).trans s3;have G:=Q.trans s3;cases Va:(decide (n0%5=0)&&decide ((0:Int)<h.en.length))with
 |true=>have O:=sk (au.mp Va).2;obtain⟨n2,Lz,e2⟩:=yW (ρ:=hP I ns f g rs J (qJ (dy+m) i c)) c (k:=20) dc dc rfl;have hr:0<=n2%h.en.length:=gm _ (by omega);have WE:n2%h.en.length<h.en.length:=iw _ O;obtain⟨k,hk⟩:=Int.eq_ofNat_of_zero_le hr;refine dI (qI f1 (aI (aF rfl (aI (aF rfl (aI (aF rfl (aI (eB u v (sl G (iB [n,j,r])) (d:=.int (n2%h.en.length)) (bJ e2.e (cO (aG (aC rfl) aY) (by rw[uC,ah,t.sy.len]) rfl).e (fC O) rfl).e λv3 H4 s4 r3=>aI (aF rfl (bI ?_)))))))))));cases r3;have R:=Ly.trans s4;rw[hk];exact⟨x,A,a,ds,fs,J,h,rs,vr,k,dy+m,B,rfl,fx.yT,t.same R,by omega,(d.same R).rr,hB,um,λH' P C D E F ps hl hd=>bV Z (Lv R ps hl hd (Lx (G.trans s4)))⟩
 |false=>obtain⟨p,gp,ep⟩:=EU fx.nd (by rw[fx.l8];decide) c g;refine dI (eB u v (sl G (iB [n,j,r])) (cR (aG (aC rfl) (aG (aC rfl) (aG (aC rfl) aY))) rfl ep (iO p)).e λv11 H4 s4 L=>?_);obtain⟨s,hs,es⟩:=Ls (ρ:=hP I ns f g rs J [Z9 (.od,.int (dy+m)),Z9 (.od,.int (2+i)),Z9 (.od,clD c),Z8,Z9 (.od,mr p),Z8,Z8]) fx c (k:=2) dc dc rfl rfl;obtain⟨w,ew⟩:=Lu (ρ:=hP I ns f g rs J [Z9 (.od,.int (dy+m)),Z9 (.od,.int (2+i)),Z9 (.od,clD c),Z8,Z9 (.od,mr p),Z8,Z8]) fx c (k:=3) dc dc rfl rfl;refine dI (eB u v (sl (G.trans s4) (.da L (iB [j,r]))) (jB (bD eS (bD es (bD ew (bD (v_var rfl (iO p)) eN))))).e λVb H5 s5 M=>?_);have S:=Ly.trans (s4.trans s5);refine dI (qI f0 (aI (aF rfl (aI (aF rfl (aI (aF rfl (aI (aF rfl (aI (aF rfl (bI ?_))))))))))));exact⟨x,A,a,ds,fs,J,h,rs,vr,Vb,dy+m,s,w,p,B,rfl,fx.yT,t.same S,(by omega),(d.same S).rr,(Rep.aS (B':=NoB) _ (U' s w p) M).weak λ_ z=>z.elim,hB,gp,by rw[t.es];exact fx.bR hs,um,λH' P C D E F ps hl hd=>bV Z (Lv S ps hl hd (Lx (G.trans (s4.trans s5))))⟩
theorem zlo (u:Z.Κ=[])(v:Z.Φ=Φ)(sl:Sl Z.K H F ρ)(ev:evW [] Φ it ρ=.ok (.fr,f))(T:Addr->Prop)(M:∀b,T b->∃o,H b=Z9 o/\¬Fix o)
  (m:∀l,Same H l->∃I:Nat->L2.St->Hp->Prop,I 0 F l/\(∀k a c,I k a c->∀b o,¬T b->l b=Z9 o->c b=Z9 o)/\(∀k y d a c g x,f[k]?=Z9 d->I k a c->Same c g->Rep Z.K g AnyB y d->x.rt=D0.rt->(∀h A,I (k+1) h A->x.nx h A)->tDG Z.K t y a g (wS Z b x))/\∀a c,I f.length a c->D0.nx a c):wS Z (.aV t it b) D0 F H:=by
 refine⟨ρ,F0 H,(.fr,f),sl.so,by rw[u,v];exact ev,λJ B l G N C=>?_⟩;obtain⟨I,O,P,one,q⟩:=m l G
 have kp:∀{k a c},I k a c->Kp B l c:=λ{k a c} i b o e z=>P k a c i b o (λw=>by
  obtain⟨Q,D,nf⟩:=M b w;have L:=G b Q D;rw[e]at L;cases L;rcases z with z|z
  .have R:nw H (Z9 b):=(N _ z).1;have:H b=none:=R;rw[this]at D;cases D
  .exact nf z) e
 refine⟨λk n a c=>n=f.length-k/\k<=f.length/\I k a c,⟨_,rfl,cz _,O⟩,?_⟩
 rintro k n a c ⟨rfl,hk,p⟩
 by_cases j:k<f.length
 .refine .inr ⟨C.go c (kp p) k j,λs g=>k+1<=f.length/\I (k+1) s g,λs g w=>⟨f.length-(k+1),by omega,rfl,w⟩,λy g S=>?_⟩;obtain⟨U,d,e,r⟩:=C.gR c (kp p) k y g j S;exact one k y d a c g _ e p U (r.weak λ_ _=>trivial) rfl λh A V=>⟨j,V⟩
 .have E:k=f.length:=by omega
  subst E;exact .inl ⟨C.stop c (kp p),q a c p⟩
section
variable {xs:List Int}
theorem FC (h0:a[0]?=Z9 (Z9 (.od,.list (xs.map .int)))):evW [] Φ L5.it a=.ok (.fr,(cc (min xs.length 62-2)).map λ(i:Nat)=>ZS (2+i)):=by refine rH (ds:=[.int 2,.int (min xs.length 62)]) (aG aH.e (aG (cO (aG (cO (aG (aC h0) aY) (TC xs) rfl).e (aG aH.e aY)) rfl rfl).e aY)) ?_;show(if -bC<=(2:Int)/\min (xs.length:Int) 62<=bC/\(2:Int)<=bC/\-bC<=min (xs.length:Int) 62 then Res.ok ((cc (min (xs.length:Int) 62-2).toNat).map λ(i:Nat)=>ZS (2+i))else Res.no)=_;rw[sf (by generalize min xs.length 62=z at(by omega);unfold bC;omega),show(min (xs.length:Int) 62-2).toNat=min xs.length 62-2 by omega]
theorem Vc (s:i<min n 62-2):2+i<n/\i<60:=by omega
theorem zjy (G:Z.Κ=[])(I:Z.Φ=Φ5)(f0:Z.fn[0]?=Z9 (spEt φ Z.K HC CC))(f1:Z.fn[1]?=Z9 (spOr φ Z.K HC CC))(f2:Z.fn[2]?=Z9 (spNg φ Z.K HC CC))(f3:Z.fn[3]?=Z9 (spWg φ Z.K HC CC))(fx:Fx2 rs ns)(d:Dt Z.K H B xs rs ns M N O)(t:Bo5 φ Z.K HC CC H x A a [] [] [] ⟨esC rs,[],[],Z8⟩ rs)(P:∀b,B (Z9 b)->H b≠Z8/\¬Ow5 x A a [] b)
  (q:∀p v S T U h' AF J u j m n,Bo5 φ Z.K HC CC p x v a S T U h' rs->h'.en.length<64->(∀b o,¬Ow5 x A a [] b->H b=Z9 o->p b=Z9 o)->Dt Z.K p B xs rs ns M N O->wS Z rest D0 (σ5 M O f g N x a [Z9 (.int AF),J,u,j,m,n,FD]) p):
  wS Z (.seq (.aV (.nm 8) L5.it L5.EI) rest) D0 (σ5 M O f g N x a [Z9 (.int 0),Z8,u,j,m,n,FD]) H:=by
 have C:∀{D b o},Same H D->D b=Z9 o->Fix o->¬Ow5 x A a [] b:=λ{D b o} r e z w=>by
  rcases w with w|w|w
  .exact(t.th.same r).nM w e z
  .subst w;rw[(t.tl.same r).lst]at e;cases e;exact z
  .cases w
 refine bP (zlo G I (kX d t.tl (iB [Z9 (.int 0),Z8,u,j,m,n,FD])) (FC rfl) (λb=>Ow5 x A a [] b) (λb c=>?_) λD r=>?_)
 .cases e:H b with
  |none=>
   rcases c with c|c|c
   .exact(uN t.th (.inl c) e).elim
   .subst c;rw[t.tl.lst]at e;cases e
   .cases c
  |some o=>exact⟨o,rfl,λz=>C (Same.refl H) e z c⟩
 refine⟨λi s p=>(∀b o,¬Ow5 x A a [] b->D b=Z9 o->p b=Z9 o)/\∃v L fs Q h dy J u j m n,s=σ5 M O f g N x a [Z9 (.int dy),J,u,j,m,n,FD]/\Bo5 φ Z.K HC CC p x v a L fs Q h rs/\(∀b,D b≠Z8->¬Ow5 x A a [] b->¬Ow5 x v a L b)/\h.en.length<=i/\∀l,h.ld=Z9 l->l<=dy,⟨λb o _ e=>e,A,[],[],[],_,0,Z8,u,j,m,n,rfl,t.same r,λb _ z=>z,cz _,nofun⟩,λk s p i b o c e=>i.1 b o c e,?_,?_⟩
 .rintro k y dd s p H2 D2 hd ⟨R,v,L,fs,Q,h,dy,J,u,j,m,n,rfl,tb,no,E,hld⟩ s2 ry Aw nx
  rw[ao]at hd;obtain⟨k',e,rfl⟩:=a6.mp hd;have hk:=by have:=(ay.mp e).1;rwa [cv]at this
  rw[ej hk]at e;cases e;obtain⟨k1,k2⟩:=Vc hk;refine vG ry (by show 8<14;decide) λv8 r8=>?_;cases r8;have F:=λb o c e=>s2 b o (R b o c e);refine zl8 G I f0 f1 f2 f3 fx ((d.same r).keep λb o e z=>F b o (z.elim (λz=>(P b z).2) (C r e)) e) (tb.same s2) (λb z=>no b ((λ{b} z w=>(P b z).1 (r.none w)) z) (P b z).2) k1 k2 E hld λH3 A3 Vd pV Ve h3 Vf p9 Fi Fj yS ps Vg El=>nx _ _ ⟨λb o c e=>ps.fr b o (no b (by rw[e];simp) c) (F b o c e),A3,Vd,pV,Ve,h3,Vf,_,_,_,_,_,rfl,ps.b,λb c hn w=>?_,Vg,El⟩;rcases ps.ow b w with z|z
  .exact no b c hn z
  .cases e:D b with
   |none=>exact c e
   |some o=>rw[F b o hn e]at z;cases z
 .rintro s p ⟨R,v,L,fs,Q,h,dy,J,u,j,m,n,rfl,tb,no,E,hld⟩
  rw[ah,cv]at E;exact q p v L fs Q h dy _ _ _ _ _ tb (by omega) (λb o c e=>R b o c (r b o e)) ((d.same r).keep λb o e z=>R b o (z.elim (λz=>(P b z).2) (C r e)) e)
end
section
variable {φ:cT}{Z:Wc}{HC CC:Addr}{H:Hp}{D0:Ends}{v0:V}{xs:List Int}{B:Ad->Prop}
theorem Vh {ns:List Str}(l8:ns.length=9)(f:nR [.list (xs.map .int),.int 0]=.ok (.fr,.int a))(h0:ρ[0]?=Z9 (Z9 (.od,.list (xs.map .int))))(g:ρ[1]?=Z9 (Z9 (.od,.list (ns.map .str)))):∃h:List Str,Ev [] Φ5 L5.Kv ρ (.list (h.map .str)):=by
 obtain⟨i,j,b⟩:=nU a (k:=70) dc dc;obtain⟨l,m,c⟩:=nU a (k:=71) dc dc
 let mk:Nat->Int:=λk=>if k=0 then i else l
 have hm:∀k,k∈cc 2->0<=mk k/\dJ [.int a,.int (70+k)]=.ok (.fr,.int (mk k)):=λk d=>by
  have:k=0\/k=1:=by have:=fz.mp d;omega
  rcases this with rfl|rfl
  .exact⟨j.1,b⟩
  .exact⟨m.1,c⟩
 refine⟨(cc 2).map λk=>ns.getD (mk k%5).toNat ⟨#[]⟩,.fr,?_⟩;have n:ρ.getD 0 Z8=Z9 (.od,.list (xs.map .int)):=by rw[aa,h0];rfl
 have g1:ρ.getD 1 Z8=Z9 (.od,.list (ns.map .str)):=by rw[aa,g];rfl
 have:=z2h (Κ:=[]) (Φ:=Φ5) (nt:=1) (js:=[1,0]) (N':=["_law_k","_law_names_here","_law_script"]) (tg:=.nm 0) (it:=.eF (.cons (.int 2) .nil)) (cond:=.nil) (elt:=.ix (.var 1) (.bin .Mod (.call 7 "_law_mix" (.cons (.call 0 "_law_cell_at" (.cons (.var 2) (.cons (.int 0) .nil))) (.cons (.bin .Add (.int 70) (.var 0)) .nil))) (.int 5))) (λ_=>Z7) (λk=>.str (ns.getD (mk k%5).toNat ⟨#[]⟩)) (rH (aG aH.e aY) (tR dc dc)) rfl (λk=>[Z9 (.al,.int k),Z9 (.od,.list (ns.map .str)),Z9 (.od,.list (xs.map .int))]) (λk _=>by rw[bn,bn,n,g1];exact uB rfl) (λ_ _=>rfl) λk d _=>by obtain⟨o,e⟩:=hm k d;exact aO (aC rfl) (bJ (cR (aG (cR (aG (aC rfl) (aG aH.e aY)) rfl f rfl).e (aG (bJ aH.e (aC rfl) rfl rfl).e aY)) rfl e rfl).e aH.e (fC dc) rfl).e (tQ (by omega) (by grind)) rfl
 exact this
theorem zoq (i:Z.Κ=[])(j:Z.Φ=Φ5)(f0:Z.fn[0]?=Z9 (spEt φ Z.K HC CC))(f1:Z.fn[1]?=Z9 (spOr φ Z.K HC CC))(f2:Z.fn[2]?=Z9 (spNg φ Z.K HC CC))(f3:Z.fn[3]?=Z9 (spWg φ Z.K HC CC))(c0:Z.cl[0]?=Z9 (CC,zaz Z.K CC Z.mg))(c1:Z.cl[1]?=Z9 (HC,spHi Z.K HC CC))(G:xs.length<=63)(r0:Rep Z.K H B v0 (.list (xs.map .int)))
  (q:∀l,Same H l->D0.rt (.bl Z7) l):wS Z L5.la D0 (Z9 v0::bz 13 Z8) H:=by
 obtain⟨Y,e0⟩:=KC xs G (k:=0) (by decide);obtain⟨k1,e1⟩:=KC xs G (k:=1) (by decide);have ca:∀{ρ:Rho} {k v:Int},ρ[0]?=Z9 (Z9 (.od,.list (xs.map .int)))->nR [.list (xs.map .int),.int k]=.ok (.fr,.int v)->Vv [] Φ5 (L5.ca k) ρ (.int v):=λh e=>cR (aG (aC h) (aG aH.e aY)) rfl e rfl;obtain⟨ns,⟨Ft,Lz⟩,en⟩:=TU Y (n:=9) (by decide);generalize hf:decide (Y%2=1)=f;obtain⟨g,_,eg⟩:=TL Y f;obtain⟨rs,⟨gd,nm⟩,ec⟩:=T9 (ns:=ns) (n:=5) (by decide) (by decide) (by omega) (by omega) (k1,f) rfl;have fx:Fx2 rs ns:=⟨Lz,Ft,by have:=congrArg kg nm;rw[ah,d7]at this;omega,nm,gd⟩;refine dI (eB i j (.da r0 (iB _)) (oE (aG (ca rfl e0).e (aG aH.e aY)) rfl en) λvn H1 s1 rn=>?_);have m:=λ{v:V} {d:D} {Ha:Hp} {Bx:Ad->Prop} (r:Rep Z.K Ha Bx v d) {I:Hp} (s:Same Ha I)=>r.same s λ_ _=>trivial;refine dI (eB i j (.da (m r0 s1) (.da rn (iB _))) (dQ (k:=decide (Y%2=1)) (bJ (ca rfl e0).e aH.e (fC (by decide)) rfl).e aH.e rfl).e λv2 H2 s2 r2=>?_);cases r2;rw[hf];have J:=s1.trans s2;refine dI (eB i j (.da (m r0 J) (.da (m rn s2) (.da (d:=.bool f) (B:=AnyB) rfl (iB _)))) (cR (aG (ca rfl e0).e (aG (aC rfl) aY)) rfl eg rfl).e λv3 H3 s3 r3=>?_);cases r3;have L:=J.trans s3;refine dI (eB i j (.da (m r0 L) (.da (m rn (s2.trans s3)) (.da (d:=.bool f) (B:=AnyB) rfl (.eU (iB _))))) (oE (aG (RI (aG (ca rfl e1).e (aG (aC rfl) aY))) (aG (aC rfl) aY)) rfl ec) λvr F s4 rr=>?_);have u:=L.trans s4;have M:z0m [] (rs.map cwD)=Z9 (esC rs):=by have:=J8 fx.yT fx.gd rs.length (ae _);rw[fv]at this;exact this
 have lA:rs.length<1000:=by rw[fx.l5];decide
 have FE:∀{σ:L2.St} {Ha:Hp} {Q:VK},σ[4]?=Z9 (Z9 vr)->Same F Ha->(∀x A I,Same Ha I->(∀b,A.own x b\/b=A.c->Ha b=Z8)->Hou Z.K HC CC I x A ⟨esC rs,[],[],Z8⟩->Q (.ref x) I)->wE Z L5.hs σ Ha Q:=λ{σ Ha Q} e4 sa k=>Ei c1 (aI (Ei c0 (aI (aF e4 (bI (kC (m rr sa) M (by rw[ah];exact lA) λxd WG dd WH H9 N WI WJ Vi=>bI (kH Vi (by rw[S'];exact M) (by rw[Ta];exact lA) λx A Vj Ak hx ho hc t=>k x A Vj (N.trans Ak) (λb O=>N.none (O.elim (ho b) λz=>z▸hc)) t)))))));refine dI (FE rfl (Same.refl F) λx A H5 s5 o5 t5=>?_);refine dI (rQ (bI ⟨cz _,λp hp=>?_⟩));have s6:Same H5 (upd H5 p (.lst [])):=Same.upd hp;have P:upd H5 p (.lst []) p=Z9 (.lst []):=bF;generalize upd H5 p (.lst [])=H6 at s6 P;have R:=s5.trans s6
 have b6:Bo5 φ Z.K HC CC H6 x A p [] [] [] ⟨esC rs,[],[],Z8⟩ rs:=⟨t5.same s6,⟨P,rfl,rfl,nofun,List.nodup_nil,il,il,λd e=>by cases e⟩,Ul,rfl,(λb O w=>by
  rcases w with w|w|w
  .exact uN t5 (.inl O) (w▸hp)
  .cases w
  .cases w),⟨rfl,nofun,nofun,nofun,λk e=>by cases e⟩,Apt.nil⟩
 have old:∀{b:Addr},F b≠Z8->¬Ow5 x A p [] b:=λ{b} h w=>by
  rcases w with w|w|w
  .exact h (o5 b (.inl w))
  .exact h (s5.none (w▸hp))
  .cases w
 have up:∀{v:V} {d:D} {Bx:Ad->Prop},Rep Z.K F Bx v d->Rep Z.K H6 (λa=>∀b,a=Z9 b->F b≠Z8) v d:=λ{v d Bx} r=>(Rep.there _ r).same R λa z b O=>by subst O;exact z.2
 have d6:Dt Z.K H6 (λa=>∀b,a=Z9 b->F b≠Z8) xs rs ns v0 vr vn:=⟨up (m r0 u),up rr,up (m rn (s2.trans (s3.trans s4)))⟩;refine dI (eB i j (kX d6 b6.tl (iB (bz 7 Z8))) aH.e λv7 H7 s7 r7=>?_);cases r7;have S:=R.trans s7;refine zjy i j f0 f1 f2 f3 fx (d6.same s7) (b6.same s7) (λb z=>⟨λw=>z b rfl (S.none w),old (z b rfl)⟩) λH8 A8 Vk Vl y h8 T o8 o9 U W X b8 l8 k8 d8=>?_;have sl:∀{l:Hp} {C:Option V},Same H8 l->Sl Z.K l (σ5 v0 vn f g vr x p [Z9 (.int T),o8,o9,U,W,X,C]) (hP xs ns f g rs y [Z8,Z8,Z8,Z8,Z8,Z8,Z8]):=λ{l C} s'=>kX (d8.same s') (b8.tl.same s') (iB [Z9 (.int T),o8,o9,U,W,X,C]);obtain⟨ls,eL⟩:=Vh (ρ:=hP xs ns f g rs y [Z8,Z8,Z8,Z8,Z8,Z8,Z8]) fx.l8 e0 rfl rfl;refine dI (eB i j (sl (Same.refl H8)) eL λVm H9 N Vn=>?_);refine bP (pX (qI f3 (aI (aF rfl (aI (aF rfl (aI (eB i j (sl N) (jH (aC rfl) (lF aH.e) (lF aH.e) (yK _ _)) λv4 Ha sa r4=>aI (aF rfl (aI (aF rfl (bI ?_))))))))))));have E:=N.trans sa;exact⟨x,A8,p,Vk,Vl,y,h8,rs,ns,_,ls,vr,v4,Vm,AnyB,rfl,fx,b8.same E,l8,(d8.same E).rr.weak λ_ _=>trivial,r4,Vn.sm sa,λl s'=>q l λb o eb=>s' b o (E b o (k8 b o (old (by rw[u b o eb];simp)) (S b o (u b o eb))))⟩
end
theorem zlt (hκ:Z.Κ=[])(h1:Z.me[0]?=Z9 (HC,("enter":Str),spEn l Z.K HC CC Z.mg))(t:Hou Z.K HC CC H x A h)(ok:Hok l h)(P:h.en.length<1000)(rd:Rep Z.K H B i (ddD s w p))(hg:l.G (mr p))(hc:z1a h.es s=Z7)(R:late h.ld dy=Z6)
  (q:match bar l h s w (mr p)with
   |some k=>∀r,Same H r->wS Z vK D0 [Z9 (.ref x),Z9 vr,Z9 (.ref a),Z9 i,Z9 (.int dy),Z8,Z9 (.int k),Z8] r
   |none=>∀r M,fF A x H r->H M=Z8->Hou Z.K HC CC r x {A with as:=A.as++[M]} (h.put dy s w (mr p) (fll l h s w (mr p)))->wS Z vK D0 [Z9 (.ref x),Z9 vr,Z9 (.ref a),Z9 i,Z9 (.int dy),Z9 (.int h.en.length),Z9 .aM,Z8] r):
  wS Z L5.en D0 [Z9 (.ref x),Z9 vr,Z9 (.ref a),Z9 i,Z9 (.int dy),Z8,Z8,Z8] H:=by
 obtain⟨g4,g5⟩:=au.mp hc;refine dI (ye lK rfl λv5 H0 s0 S=>?_);cases S;refine dI (z6 λH1 s1=>?_);refine Tc λE hE=>?_;have m:=s0.trans s1;have u:∀{c:C} {d:D} {y:Hp} {Q:VK} {v:V},Same H1 y->Ev Z.Κ Z.Φ c [Z8,Z8,Z8,Z9 (.od,ddD s w p),Z8,Z8,Z8,Z8] d->(∀v N,Same y N->Rep Z.K N AnyB v d->Q v N)->wE {Z with E:=E} (.aT c) [Z9 (.ref x),Z9 vr,Z9 (.ref a),Z9 i,Z9 (.int dy),Z9 (.int (-1)),Z9 .aM,Z8] y Q:=λ{c d y Q v} n e k=>by obtain⟨g,e⟩:=e;exact ye (Sl.so (.no (.no (.no (.da ((rd.sm m).sm n) (.no (.no (.no (.no .nil))))))))) e k
 have ex:∀k,∀d,dC (ddD s w p) (.int k)=.ok d->Ev Z.Κ Z.Φ (.ix (.var 3) (.int k)) [Z8,Z8,Z8,Z9 (.od,ddD s w p),Z8,Z8,Z8,Z8] d:=λk d e=>cY (aC rfl) aH.e e;have uy:∀k,∀d,dC (mr p) (.int k)=.ok d->Ev Z.Κ Z.Φ (.ix (.ix (.var 3) (.int 3)) (.int k)) [Z8,Z8,Z8,Z9 (.od,ddD s w p),Z8,Z8,Z8,Z8] d:=λk d e=>cY (ex 3 _ qE) aH.e e;refine dI ((t.same m).bE h1 rfl (aI (aF rfl (aI (u (v:=i) (Same.refl H1) (ex 1 _ qC) λv1 y n r1=>aI (u (v:=i) n (ex 2 _ qD) λv2 N O r2=>aI (u (v:=i) (n.trans O) (uy 0 _ rfl) λv3 H4 T r3=>aI (u (v:=i) (n.trans (O.trans T)) (uy 1 _ rfl) λv4 H5 z r4=>aI (u (v:=i) (n.trans (O.trans (T.trans z))) (uy 2 _ rfl) λv5 H6 s6 S=>bI ?_)))))))));have F:=z.trans s6;have I:=T.trans F;have J:=O.trans I;have f:=m.trans (n.trans J);refine⟨x,A,h,dy,v1,.str s,v2,w,v3,v4,v5,_,_,_,AnyB,rfl,t.same f,ok,P,r1.sm J,r2.sm I,r3.sm F,r4.sm s6,S,iO p,hg,?_⟩;rw[sf g4];refine⟨s,rfl,g5,?_⟩;rw[sg (by rw[R];decide)];show(match bar l h s w (mr p)with|some k=>_|none=>_);cases j:bar l h s w (mr p)with
 |some k=>rw[j]at q;intro C H7 dp hC s7 hd U;exact hE C dp _ _ hC U (dI (Sz rfl (q _ (Te (f.trans s7) (f.none hd)))))
 |none=>
  rw[j]at q;intro H7 M f7 hp t7;have L:((h.put dy s w (mr p) (fll l h s w (mr p))).en.length-1:Nat)=h.en.length:=by show(h.en++[_]).length-1=_;rw[ax];rfl
  have q7:=q H7 M (λb o P e=>f7 b o P (f b o e)) (f.none hp) t7;rw[<-L]at q7;exact q7
theorem znh (j:Z.Κ=[])(m:Z.Φ=[])(h0:Z.me[0]?=Z9 (g,("overrule":Str),spO5 φ Z.K g p Z.mg))(N:Z.fn[0]?=Z9 (spFg φ Z.K g p))(O:Z.me[1]?=Z9 (g,("fate":Str),spFt φ Z.K g p Z.mg))(nd:(nmC rs).Nodup)(t:Bo5 φ Z.K g p H x A a I fs ts h rs)(i:k<h.en.length)(rr:Rep Z.K H B J (.list (rs.map cwD)))(P:∀b,B (Z9 b)->¬Ow5 x A a I b)(u:late h.ld dy=Z6)(q:PqT φ Z.K g p H x A a I fs h rs dy Q.rt):
  wS Z L5.gT Q [Z9 (.ref x),Z9 J,Z9 (.ref a),Z9 (.int k),Z9 (.int dy),Z8,Z8] H:=by
 obtain⟨l,R⟩:=t.sy.st k i;have gd:=t.ok.gd _ (ar (Hd.get i));obtain⟨g4,S⟩:=au.mp gd.2.2;have sl:∀{d:Hp} {L:Option V},Same H d->Sl Z.K d [Z9 (.ref x),Z9 J,Z9 (.ref a),Z9 (.int k),Z9 (.int dy),L,Z8] [Z8,Z8,Z9 (.od,.list (ts.map cZ)),Z9 (.od,.int k),Z9 (.od,.int dy),Z8,Z8]:=λ{d L} v=>.no (.no (.da (t.tl.same v).rep (.eU (.eU (.no (.no .nil))))));refine dI (eB j m (sl (Same.refl H)) (cY (cY ((λT U=>cY (cY (aC T) (aC U) (yL (t.sy.len▸i))) aH.e (uG _)) rfl rfl) aH.e (vt (by rw[(t.sy.ft k i).trans R];rfl))) aH.e rfl) λW H1 X rc=>?_);refine dI (J9 λH2 M=>?_);have c:=X.trans M;have w:=t.same c;have n:=(Rep.aS (B':=NoB) _ rfl rc).sm M;have r:=ov_q j m N O nd w i (rr.sm c) n rfl P (λd A' y D F h' ps=>q d A' y D F h' ⟨ps.b,λb o G e=>ps.fr b o G (c b o e),λb G=>(ps.ow b G).imp id λz=>c.none z,λf s=>(ps.nf f s).imp id λz=>c.none z⟩);refine Td λE hE=>w.th.bE h0 rfl (aI (aF rfl (aI (aF rfl (aI (aF rfl (bI ⟨x,A,h,dy,W,(h.at k).1,k,NoB,rfl,w.th,t.ok,i,n,gd.2.2,b9.mpr (yO S),u,?_⟩)))))));by_cases s:(h.fa k).length=1
 .rw[sf s]at r ⊢;exact λd f th=>r d f th
 .rw[sg s]at r ⊢;exact λC d hC v=>hE C _ d hC (dI (J9 λH3 s3=>r H3 (v.trans s3)))
def top (i:Nat):Stmt:=PySem.Challenge.pw_likebook_k45_whole_none_stand_against.main.body.getD i (.Pass ⟨0,0,0,0⟩)
def AG (i:Nat):Stmt->Stmt
 |.ClassDef _ _ _ b ..=>b.getD i (.Pass ⟨0,0,0,0⟩)
 |s=>s
def Sb:Nat->S
 |0=>.nil
 |n+1=>.seq .bad (Sb n)
abbrev FREE:List Str:=["isinstance","str","len","range","list","min","max","ValueError","int","bool","enumerate","dict","sorted","tuple"]
abbrev LB:List Str:=["_law_house","_law_court","_law_word","_law_told","_law_found","_law_number"]
abbrev LC:List Str:=["_law_house","_law_told","_law_deed","_law_by","_law_numbers","_law_number"]
abbrev LD:List Str:=["_law_house","_law_rows","_law_told","_law_deed","_law_number","_law_day","_law_k","_law_fate","_law_ahead","_law_line_here"]
abbrev LF:List Str:=["_law_house","_law_rows","_law_words","_law_told","_law_last","_law_court","_law_head","_law_word","_law_found","_law_own","_law_number","_law_fresh","_law_above"]
abbrev LG:List Str:=["_law_house","_law_rows","_law_told","_law_deed","_law_day","_law_number","_law_by","e"]
abbrev LH:List Str:=["_law_house","_law_rows","_law_told","_law_number","_law_day","_law_court","_law_done"]
abbrev Vo:List Str:=["_law_script","_law_names_here","_law_free","_law_great_here","_law_rows","_law_house","_law_told","_law_day","_law_k","_law_cell_here","_law_good","_law_new","_law_deed","_law_last"]
abbrev Rz:List DRow:=[
 ⟨"over",top 15,["one","other","held"],["one","other"],["dict"],[],yr,uu,.n,[]⟩,
 ⟨"within",top 14,["one","other"],["one","other"],[],[0],yt,nO,.n,[]⟩,
 ⟨"check_side",top 11,["side"],["side"],["isinstance","str"],[],yu,uw,.n,[]⟩,
 ⟨"side_of",top 12,["case","side"],["case","side"],[],[2],yw,nQ,.n,[]⟩,
 ⟨"ruling",top 17,["case","side","reason"],["case","side","reason"],[],[1,3],yx,pY,.n,[]⟩,
 ⟨"against",top 18,["one","other"],["one","other"],[],[1,3],yy,gQ,.n,[]⟩,
 ⟨"barred",top 20,["book","one","k","other"],["book","one"],["enumerate"],[5],yz,pZ,.n,[]⟩,
 ⟨"stood",top 24,["fate","day"],["fate","day"],["len"],[],yA,qz,.n,[]⟩,
 ⟨"_law_cell_at",top 27,["_law_script","_law_k"],["_law_script","_law_k"],["len"],[],yB,nR,.n,[]⟩,
 ⟨"_law_mix",top 28,["_law_cell_here","_law_k","_law_figure"],["_law_cell_here","_law_k"],[],[],yC,dJ,.n,[]⟩,
 ⟨"_law_cell",top 29,["_law_script","_law_k","_law_free"],["_law_script","_law_k","_law_free"],[],[9],J',Eu,.n,[]⟩,
 ⟨"_law_pick",top 30,["_law_cell_here","_law_at","_law_number","_law_free","_law_turn"],["_law_cell_here","_law_at"],["range"],[9],Ew,jG,.n,[]⟩,
 ⟨"_law_names",top 31,["_law_cell_here","_law_many","_law_letters","_law_base","_law_at","_law_signs"],["_law_cell_here","_law_many"],["range","len"],[9],Ex,Ey,.n,[]⟩,
 ⟨"_law_degree",top 32,["_law_figure","_law_great_here"],["_law_figure","_law_great_here"],[],[],Ka,ux,.n,[]⟩,
 ⟨"_law_pack",top 33,["_law_names_here","_law_cell_here","_law_at","_law_great_here","_law_pairs"],["_law_names_here","_law_cell_here","_law_at","_law_great_here"],["tuple","sorted","range","len"],[13,11],Kb,vA,.n,[]⟩,
 ⟨"_law_within",top 34,["_law_one","_law_other_here","_law_some","_law_name","_law_degree_here"],["_law_one","_law_other_here"],["dict"],[],Kc,vC,.n,[]⟩,
 ⟨"_law_meet",top 35,["_law_one","_law_other_here","_law_some","_law_pairs"],["_law_one","_law_other_here"],["tuple","min","dict"],[],Ke,yD,.n,[]⟩,
 ⟨"_law_great",top 36,["_law_cell_here","_law_free"],["_law_cell_here","_law_free"],[],[9],Kg,Ez,.n,[]⟩,
 ⟨"_law_case",top 37,["_law_names_here","_law_cell_here","_law_at","_law_great_here"],["_law_names_here","_law_cell_here","_law_at","_law_great_here"],[],[14],Kh,yE,.n,[]⟩,
 ⟨"_law_side",top 38,["_law_case_here","_law_side_here"],["_law_case_here","_law_side_here"],["int"],[],Ki,qA,.n,[]⟩,
 ⟨"_law_clash",top 40,["_law_one","_law_other_here"],["_law_one","_law_other_here"],[],[15,19],Kj,lN,.n,[]⟩,
 ⟨"_law_ruling",top 42,["_law_names_here","_law_cell_here","_law_great_here","_law_case_here","_law_side_here","_law_reason"],["_law_names_here","_law_cell_here","_law_great_here"],[],[11,16,14,19,18],EA,EB,.n,[]⟩,
 ⟨"_law_courts",top 43,["_law_cell_here","_law_names_here","_law_rows","_law_k","_law_heads"],["_law_cell_here","_law_names_here"],["range","len"],[11],Kk,Ap,.n,[]⟩,
 ⟨"_law_line",top 44,["_law_rows","_law_court","_law_heads","_law_found"],["_law_rows","_law_court"],["dict"],[],Kl,EC,.n,[]⟩,
 ⟨"_law_apart",top 45,["_law_numbers","_law_told","_law_number","_law_other_here"],["_law_numbers","_law_told"],[],[20],Km,ED,.n,[]⟩,
 ⟨"_law_newest_good",top 47,LB,LB.take 4,FREE,[20],Sb 3,aR [] Φn 6 (Sb 3),.n,[]⟩,
 ⟨"_law_refused_good",top 49,LC,LC.take 4,FREE,[20],Sb 4,aR [] Φn 6 (Sb 4),.n,[]⟩,
 ⟨"_law_fates_good",top 48,LD,LD.take 6,FREE,[20,23],Sb 2,aR [] Φf 10 (Sb 2),.n,[]⟩,
 ⟨"_law_whole_good",top 46,LF,LF.take 5,FREE,[24],Sb 2,aR [] Φw 13 (Sb 2),.n,[]⟩,
 ⟨"_law_entered",top 50,LG,LG.take 5,FREE,[],Sb 9,aR [] [] 8 (Sb 9),.n,[]⟩,
 ⟨"_law_overruled",top 51,LH,LH.take 5,FREE,[],Sb 6,aR [] [] 7 (Sb 6),.n,[]⟩]
abbrev Lr:DRow:=⟨"law",top 52,Vo,["_law_script"],FREE,[8,12,17,22,10,11,21,9],Sb 10,aR [] Φ5 14 (Sb 10),.n,[]⟩
abbrev Xt:List XR:=[⟨"NoCourt",[],"BookError"⟩,⟨"NoCourt",[],"NoCourt"⟩,⟨"Late",[],"BookError"⟩,⟨"NoRuling",[],"BookError"⟩,⟨"NoRuling",[],"NoRuling"⟩,⟨"NoSide",[],"BookError"⟩,⟨"NoReason",[],"BookError"⟩,⟨"NotYours",[],"BookError"⟩]
abbrev hm (nm:Str)(st:Stmt)(N:List Str)(k n:Nat):DRow:=⟨nm,st,N,N.take k,FREE,[],Sb n,λ_=>.no,.n,[]⟩
abbrev cm (i:Nat):Stmt:=AG i (top 22)
abbrev hh (i:Nat):Stmt:=AG i (top 25)
abbrev Ms:List DRow:=[
 hm "stands" (cm 1) ["self","court"] 2 1,
 hm "found" (cm 2) ["self","court","above"] 3 3,
 hm "line" (cm 4) ["self","court","found"] 2 4,
 hm "__init__" (cm 0) ["self","pairs","court","above"] 2 2,
 hm "pairs_told" (cm 3) ["self"] 1 1,
 hm "__init__" (hh 0) ["self","courts"] 2 4,
 hm "fate" (hh 7) ["self","number"] 2 2,
 hm "enter" (hh 2) ["self","day","court","word","case","side","reason","made","number","k"] 7 9,
 hm "standing" (hh 4) ["self","court","word","day","line"] 4 2,
 hm "overrule" (hh 3) ["self","day","court","number"] 4 6,
 hm "about" (hh 9) ["self","word","day"] 3 1,
 hm "rulings_at" (hh 10) ["self","numbers"] 2 1,
 hm "felled" (hh 11) ["self","court","word","made"] 4 1,
 hm "is_felled" (hh 12) ["self","number","court","made","entry"] 4 2,
 hm "check_court" (hh 13) ["self","court"] 2 1,
 hm "check_deed" (hh 14) ["self","day","court"] 3 2,
 hm "check_allowed" (hh 15) ["self","court","word","made","numbers","found"] 4 3,
 hm "check_number" (hh 16) ["self","number","whole"] 2 2,
 hm "__init__" (AG 0 (top 7)) ["self","by"] 2 1,
 hm "book" (hh 8) ["self","court","word"] 3 1,
 hm "ruling_of" (hh 6) ["self","number"] 2 2]
abbrev CrC:kP:=⟨"Courts",["aboves"],[("stands",cm 1),("found",cm 2),("line",cm 4),("__init__",cm 0),("pairs_told",cm 3)]⟩
abbrev CrH:kP:=⟨"House",["courts","entries","fates","last_day"],[("__init__",hh 0),("enter",hh 2),("fate",hh 7),("overrule",hh 3),("about",hh 9),("rulings_at",hh 10),("felled",hh 11),("is_felled",hh 12),("check_court",hh 13),("check_deed",hh 14),("check_allowed",hh 15),("check_number",hh 16),("book",hh 8),("ruling_of",hh 6)]⟩
abbrev MdH:List (Str×Stmt):=[("standing",hh 4)]
abbrev xN:nH:=⟨"NotAllowed","by","NotAllowed",[],AG 0 (top 7)⟩
theorem iE:ve (Rz++[Lr]) Xt FREE 0 (Rz++[Lr])=true:=by decide+kernel
theorem Vp:pI (Rz++[Lr]) (Rz++[Lr]):=⟨rfl,rfl,rfl,rfl,rfl,rfl,rfl,rfl,rfl,rfl,rfl,rfl,rfl,rfl,rfl,rfl,rfl,rfl,rfl,rfl,rfl,rfl,rfl,rfl,rfl,rfl,rfl,rfl,rfl,rfl,rfl,rfl,trivial⟩
theorem fY:ve Ms Xt FREE 0 Ms=true:=by decide+kernel
def cU:cT where
 G r:=∃p,GR p/\r=mr p
 sd f _:=f.length==1
 ag r s:=match gQ [r,s]with
  |.ok (_,.bool b)=>b
  |_=>Z6
 s0 _:=rfl
 dy:=yc
 d0:=rfl
 sh:=λr ⟨p,_,e⟩=>e▸Lg 35 p
theorem FF (a:GR p)(c:GR q):cU.ag (mr p) (mr q)=eA p q:=by show(match gQ [mr p,mr q]with|.ok (_,.bool b)=>b|_=>Z6)=_;rw[uF a c]
theorem LI {K:Z5}:StS cU K (spD K 2 qz):=⟨_,rfl,λf d hd a=>by cases d<;>first|(cases hd;done)|exact⟨_,T1 a.2.1⟩⟩
theorem Vq {K:Z5}:AgS cU K (spD K 2 gQ):=⟨_,rfl,λr s ⟨p,a,c⟩ ⟨q,b,d⟩=>by subst c d;exact⟨_,by rw[FF a b];exact uF a b⟩⟩
theorem LJ:∀{rs:List D},(∀r∈rs,cU.G r)->∃ps:List (Bool×P×P×P),(∀p∈ps,GR p)/\rs=ps.map mr
 | [],_=>⟨[],nofun,rfl⟩
 |r::rs,h=>by obtain⟨p,a,rfl⟩:=h r (.head _);obtain⟨ps,b,rfl⟩:=LJ λr hr=>h r (.tail _ hr);exact⟨p::ps,λx c=>(bh.mp c).elim (λe=>e▸a) (b x),rfl⟩
theorem Vr {ps:List (Bool×P×P×P)}(a:∀p∈ps,GR p)(b:GR q):((ps.map mr).findIdx? λr=>cU.ag r (mr q))=ps.findIdx? λp=>eA p q:=by
 induction ps with
 |nil=>rfl
 |cons p ps c=>rw[bn,jo,jo,FF (a p (.head _)) b,c λx d=>a x (.tail _ d)]
theorem LK {K:Z5}:BrS cU K (spD K 2 pZ):=⟨_,rfl,λrs s a d ⟨q,b,e⟩=>by subst e;obtain⟨ps,c,rfl⟩:=LJ d;rw[Vr c b];refine⟨.fr,(EO c b (by rw[ah]at a;exact a)).trans ?_⟩;cases ps.findIdx? λp=>eA p q<;>rfl⟩
theorem Vs {K:Z5}:RuS cU K (spD K 3 pY):=⟨_,rfl,λa b c ⟨p,d,e⟩=>by cases e;exact⟨_,TZ d⟩⟩
theorem nV:PhL cU:=⟨λp a=>⟨p,a,rfl⟩,λr h=>h,λp q a b=>FF a b⟩
inductive dM {α β:Type}(R:α->β->Prop):List α->List β->Prop where
 |nil:dM R [] []
 |cons {a:α} {b:β} {l:List α} {m:List β} (h:R a b) (t:dM R l m):dM R (a::l) (b::m)
theorem dM.at {c d:Type}{R:c->d->Prop}{l:List c}{m:List d}(h:dM R l m):∀{j:Nat} {a:c},l[j]?=Z9 a->∃b,m[j]?=Z9 b/\R a b:=by
 induction h with
 |nil=>intro j a e;cases e
 |cons h t f=>
  intro j a e;cases j with
  |zero=>cases e;exact⟨_,rfl,h⟩
  |succ j=>exact f e
section
variable (P:cu)(w:World)(K:Z5)(mg:Str->Option Value)(base:Heap)
abbrev FX (k:Nat)(f:Addr)(fd:d5)(ps:List Str)(sp:Sp):Prop:=FnOk P w K mg base (CXE P w base) k f fd ps sp
def Fc (r:Nat)(x:Str×Nat)(sp:Sp):Prop:=∃f fd ps k,k<=r/\FX P w K mg base k f fd ps sp/\mg x.1=Z9 (.ref f)/\Z2 K (.ref f)=Z7/\Binds K fd ps []
def Mt (r:Nat)(m:Str×Nat)(y:Addr×Str×Sp):Prop:=m.1=y.2.1/\∃f fd ps k,k<=r/\FX P w K mg base k f fd ps y.2.2/\Cls K y.1/\Meth K y.1 m.1 f/\Binds K fd ps []
def Md (r:Nat)(m:Str×Nat)(y:Addr×Str×Sp):Prop:=m.1=y.2.1/\∃f fd ps k,k<=r/\FX P w K mg base k f fd ps y.2.2/\Cls K y.1/\Meth K y.1 m.1 f/\Binds K fd ps [.none]
def Mc (r:Nat)(x:Str×Nat)(y:Addr×Sp):Prop:=∃f fd ps k,k+1<=r/\FX P w K mg base k f fd ps y.2/\L2.Mk K y.1 f/\mg x.1=Z9 (.ref y.1)/\Binds K fd ps []
variable {P w K mg base}
theorem Fc.up (h:Fc P w K mg base r x a)(l:r<=b):Fc P w K mg base b x a:=by obtain⟨f,fd,ps,k,c,d⟩:=h;exact⟨f,fd,ps,k,bq c l,d⟩
theorem Mt.up (h:Mt P w K mg base r x y)(l:r<=a):Mt P w K mg base a x y:=by obtain⟨e,f,fd,ps,k,b,c⟩:=h;exact⟨e,f,fd,ps,k,bq b l,c⟩
theorem Md.up (h:Md P w K mg base r x y)(l:r<=a):Md P w K mg base a x y:=by obtain⟨e,f,fd,ps,k,b,c⟩:=h;exact⟨e,f,fd,ps,k,bq b l,c⟩
theorem Mc.up (h:Mc P w K mg base r x y)(l:r<=a):Mc P w K mg base a x y:=by obtain⟨f,fd,ps,k,b,c⟩:=h;exact⟨f,fd,ps,k,bq b l,c⟩
theorem LL (a:Z.K=K)(p:Z.mg=mg)(f:dM (Fc P w K mg base r) Γ.fn Z.fn)(m:dM (Mt P w K mg base r) Γ.me Z.me)(c:dM (Mc P w K mg base r) Γ.cl Z.cl)(d:dM (Md P w K mg base r) Γ.md Z.md):Zok Γ Z (CXE P w base) P w K mg base r where
 kk:=a
 mm:=p
 fn:=λj x n e=>by obtain⟨b,a,f,fd,ps,k,g,h,i,l,o⟩:=f.at e;exact⟨b,f,fd,ps,k,a,g,h,i,l,o⟩
 me:=λj x n e=>by obtain⟨⟨C,q,b⟩,a,rfl,f,fd,ps,k,g,h,i,l,o⟩:=m.at e;exact⟨C,b,f,fd,ps,k,a,g,h,i,l,o⟩
 cl:=λj x n e=>by obtain⟨⟨C,b⟩,a,f,fd,ps,k,g,h,i,l,o⟩:=c.at e;exact⟨C,b,f,fd,ps,k,a,g,h,i,l,o⟩
 md:=λj x n e=>by obtain⟨⟨C,q,b⟩,a,rfl,f,fd,ps,k,g,h,i,l,o⟩:=d.at e;exact⟨C,b,f,fd,ps,k,a,g,h,i,l,o⟩
end
theorem Vt {P:List Value->Prop}(h:∀a b c d e f g,P [a,b,c,d,e,f,g])(i:List Value)(z:i.length=7):P i:=by obtain⟨a,l,rfl,y⟩:=jz z;exact Io (P:=λl=>P (a::l)) (h a) l y
abbrev HN:List (Str×Str):=(Xt.map λr=>(r.c,r.B))++[(("NotAllowed":Str),("NotAllowed":Str))]
abbrev gM (st:Stmt)(N:List Str)(fns:List (Str×Nat)):Gm:={N:=N,sc:=z0b st,free:=FREE,fns:=fns,cst:=[],sub:=(Xt.map XR.subs).flatten,rs:=Xt.map (·.c),gP:=HN}
abbrev LM:List (Str×Str):=[("NotAllowed","by")]
abbrev gH (r:DRow)(fn me cl:List (Str×Nat))(md:List (Str×Nat):=[])(fns:List (Str×Nat):=[])(fld:List (Str×Str):=[]):Gw:={g:=gM r.st r.N fns,fn:=fn,me:=me,cl:=cl,md:=md,fld:=fld}
abbrev zH (K:Z5)(mg:Str->Option Value)(fn:List Sp)(me:List (Addr×Str×Sp))(cl:List (Addr×Sp))(md:List (Addr×Str×Sp):=[])(Φ:List Fn:=[]):Wc:={K:=K,mg:=mg,Κ:=[],Φ:=Φ,E:=λ_ _ _=>False,fn:=fn,me:=me,cl:=cl,md:=md}
abbrev mq (i:Nat):DRow:=Ms.getD i Lr
def Vu (f:Str):WS:=.seq (.z4 (.raw 0) f (.raw 1)) .nil
theorem mI {b:Type}{l:List b}{i:Nat}{a:b}(e:l[i]?=Z9 a):a∈l:=ar e
theorem eD {i:Nat}(h:ve a Xt FREE 0 a=Z7)(e:a[i]?=Z9 r):FnScope r.N r.ps (z0b r.st):=(xQ (Dd h e)).1
section
variable {P:cu}{w:World}{K:Z5}{mg:Str->Option Value}{base:Heap}{CC HC:Addr}
structure Tx (K:Z5)(mg:Str->Option Value)(CC HC:Addr):Prop where
 T:∀n∈FREE,mg n=Z8
 G:∀(x:Str) (v:Value),ZY K bo x=Z9 (Z9 v)->mg x=Z9 v
 xk:∀Γ:Gm,Γ.sub=(Xt.map XR.subs).flatten->Γ.rs=Xt.map (·.c)->(Γ.gP=Xt.map λr=>(r.c,r.B))->rC Γ K mg
 XN:∃A D f fd,XAt K xN A D f fd
 CA:ClsAt K CrC CC
 HA:ClsAt K CrH HC
 HD:∀m∈MdH,∃T f fd,FunD K m.1 ("House"++"."++m.1) m.2 T f fd/\Meth K HC m.1 f
theorem FG (t:Tx K mg CC HC){st:Stmt}:rC (gM st N fns) K mg:=by
 have b:=t.xk {gM st N fns with gP:=Xt.map λr=>(r.c,r.B)} rfl rfl rfl;refine⟨b.sub,b.rs,λc B h=>?_⟩;rcases bw.mp (b9.mp h)with h|h
 .exact b.gP c B (b9.mpr h)
 .cases az.mp h;obtain⟨A,D,f,fd,a⟩:=t.XN;exact⟨A,D,t.G _ _ a.ns,t.G _ _ a.nb,a.xf.ex,a.ed,a.sd⟩
def Fd (P:cu)(w:World)(K:Z5)(mg:Str->Option Value)(base:Heap)(k:Nat)(x:Str×Nat)(m:Fn):Prop:=∃ps k',k'<=k/\Cal P w K mg base k' x.1 ps (spD K x.2 m)/\mP P w K mg base k' x.1 ps x.2 m
theorem Vw (h:mW P w K mg base i r)(a:r.kd=.n)(b:i+1<=k):Fd P w K mg base k (r.nm,r.ps.length) r.F:=by unfold mW at h;rw[a]at h;exact⟨r.ps,i+1,b,h.1,h.2⟩
theorem yX (t:Tx K mg CC HC){st:Stmt}(h:dM (Fd P w K mg base k) fns Φ):Dok (gM st N fns) [] Φ P w K mg base k where
 free:=λx i=>t.T x (b9.mp i)
 fns:=λj f n e=>by obtain⟨m,a,ps,b,c,d,g⟩:=h.at e;exact⟨m,b,ps,a,c,d⟩
 cst:=λj x e=>by cases e
 mU:=λj f n e=>by obtain⟨m,a,ps,b,c,d,g⟩:=h.at e;exact⟨m,b,ps,a,c,g⟩
 xk:=FG t
theorem Vx (t:Tx K mg CC HC):∀Γ X r,2<=r->Γ.fld=LM->X.prog=P->X.w=w->X.K=K->X.mg=mg->X.base=base->Wfk Γ X r:=by
 intro Γ X r d e g h j hm k;subst g h j hm k;intro c fl b;rw[e]at b;cases az.mp (b9.mp b);obtain⟨A,D,f,fd,a⟩:=t.XN;refine⟨A,f,fd,["self","by"],1,t.G _ _ a.ns,a.xf,a.xi,d,?_,a.fu.binds λ_ _ _ _ _ _=>dO λ_ _=>rfl⟩;refine DY (Γ:=gH (mq 18) [] [] []) (Z:=zH X.K X.mg [] [] []) (s:=Vu "by") a.fu (eD fY (i:=18) rfl) rfl rfl (yX t .nil) (λE=>LL rfl rfl .nil .nil .nil .nil) rfl (.inl rfl) (by decide+kernel) (by rintro _ _ _ _ ⟨_,_,_,_,_,rfl,_⟩;rfl) ?_
 rintro _ _ _ _ ⟨x,C,ob,l,y,rfl,m,b,hd,da,xf,q⟩
 exact⟨y,rfl,.ref x,rfl,x,C,ob,l,rfl,m,b,hd,da,xf,λdp n o=>q dp n o⟩
theorem wm0 {r:DRow}{s:WS}{x c:Str}{f:Addr}{j:Sp}(t:Tx K mg CC HC)(m:∃(n oc:Value) (od:Option Addr) (kV g o:Value) (an:Option Addr) (e ct:Value) (i:Array (Option Value)),fd=Z0 x c (z0t r.st) (z0j r.st) (z0b r.st) n kV g o an e ct/\K.lookup f=Z9 ⟨oc,od,.func fd,i⟩/\ZZ K e c=Z7)(p:FnScope r.N r.ps (z0b r.st))
  (a0:dM (Fd P w K mg base k) fns Φ:=by exact .nil) (a1:dM (Fc P w K mg base k) fn fS:=by exact .nil) (a2:dM (Mt P w K mg base k) me mS:=by exact .nil) (a3:dM (Mc P w K mg base k) cl cS:=by exact .nil) (a4:dM (Md P w K mg base k) md dS:=by exact .nil) (kf:fld=[]\/fld=LM/\2<=k:=by exact .inl rfl)
  (q:wkL (gH r fn me cl md fns fld) s (z0j r.st)=true:=by decide+kernel) (run:∀d H Q E (l:Prop),(d.length=r.ps.length->wS {zH K mg fS mS cS dS Φ with E:=E} s {nx:=λ_ u=>Q .aM u,rt:=Q} (start r.N d) H->l)->j d H Q E->l):FX P w K mg base (k+1) f fd r.ps j:=
 zno (Γ:=gH r fn me cl md fns fld) m p rfl rfl (yX t a0) (λE=>LL rfl rfl a1 a2 a3 a4) rfl (kf.imp_right λh X v y z A B=>Vx t _ X k h.2 h.1 v y z A B) q (λd H Q E=>run d H Q E _ λa _=>a) λd H Q E=>run d H Q E _ λ_ b=>b
theorem LN (t:Tx K mg CC HC):Mt P w K mg base 1 ("stands",1) (CC,"stands",z35 K CC)/\Mt P w K mg base 2 ("found",2) (CC,"found",z98 K CC mg)/\Mt P w K mg base 2 ("line",1) (CC,"line",z5e K CC mg)/\Mt P w K mg base 1 ("pairs_told",0) (CC,"pairs_told",spPt K CC)/\Mc P w K mg base 4 ("Courts",1) (CC,zaz K CC mg):=by
 have ck:CrtK K CC:=⟨t.CA.cls,t.CA.na _ (.head _)⟩;obtain⟨A,l,e,C⟩:=t.CA.ms ("stands",cm 1) (.head _);obtain⟨D,m,f,E⟩:=t.CA.ms ("found",cm 2) (mI (i:=1) rfl);obtain⟨F,n,g,H⟩:=t.CA.ms ("line",cm 4) (mI (i:=2) rfl);obtain⟨I,o,h,y⟩:=t.CA.ms ("__init__",cm 0) (mI (i:=3) rfl);obtain⟨J,p,j,L⟩:=t.CA.ms ("pairs_told",cm 3) (mI (i:=4) rfl);have k:Mt P w K mg base 1 ("stands",1) (CC,"stands",z35 K CC):=⟨rfl,A,l,["self","court"],1,ae _,wm0 (s:=Ct.nG) t ⟨_,e.ex⟩ (eD fY (i:=0) rfl) (run:=by rintro _ _ _ _ _ b ⟨x,dx,d,kvs,es,v,c,B,rfl,ct,r,q⟩;exact b rfl (zbu ck ct r q)),t.CA.cls,C,e.binds λ_ _ _ _ _ _=>dO λ_ _=>rfl⟩;have z:Mt P w K mg base 2 ("found",2) (CC,"found",z98 K CC mg):=⟨rfl,D,m,["self","court","above"],2,ae _,wm0 (s:=Ct.found) t ⟨_,f.ex⟩ (eD fY (i:=1) rfl) (a2:=.cons k .nil) (run:=by rintro _ _ _ _ _ b ⟨x,dx,d,kvs,es,Y,Z,c,a,B,rfl,ct,rc,M,u,q⟩;exact b rfl (zed ck rfl ct rc M u q)),t.CA.cls,E,f.binds λ_ _ _ _ _ _=>pJ λ_ _ _=>rfl⟩;have N:Mt P w K mg base 2 ("line",1) (CC,"line",z5e K CC mg):=⟨rfl,F,n,["self","court"],2,ae _,wm0 (s:=Ct.line) t ⟨_,g.ex⟩ (eD fY (i:=2) rfl) (a2:=.cons k .nil) (run:=by rintro _ _ _ _ _ b ⟨x,dx,d,kvs,es,v,c,B,rfl,ct,r,q⟩;exact b rfl (zh6 ck rfl ct r q)),t.CA.cls,H,g.binds λ_ _ _ _ _ _=>dO λ_ _=>rfl⟩;have O:Mt P w K mg base 1 ("pairs_told",0) (CC,"pairs_told",spPt K CC):=⟨rfl,J,p,["self"],1,ae _,wm0 (s:=Ct.pairs) t ⟨_,j.ex⟩ (eD fY (i:=4) rfl) (run:=by rintro _ _ _ _ _ b ⟨x,dx,d,kvs,es,rfl,ct,q⟩;exact b rfl (SN ck ct q)),t.CA.cls,L,j.binds λ_ _ _ _ _ _=>Dg λ_=>rfl⟩;refine⟨k,z,N,O,I,o,["self","pairs"],3,ae _,wm0 (s:=Ct.init) t ⟨_,h.ex⟩ (eD fY (i:=3) rfl) (a2:=.cons (k.up (by decide)) (.cons z .nil)) (run:=?_),⟨t.CA.JD,y.at_,y.fn,t.CA.kp⟩,t.G _ _ t.CA.ns,h.binds λ_ _ _ _ _ _=>dO λ_ _=>rfl⟩
 rintro _ _ _ _ _ b ⟨x,dx,vp,ps,B,rfl,Q,R,S,T,u,q⟩
 refine b rfl ?_;refine zgx ck rfl Q R S T u ?_;unfold ud at *
 split at q
 .exact λU d kvs V W X _=>q U d kvs V W X
 .exact q
end
theorem Vy {P:cu}{w:World}{K:Z5}{mg:Str->Option Value}{base:Heap}{CX:CXT}{k:Nat}{f:Addr}{fd:d5}{ps:List Str}{n:Nat}{m:Fn}(F:FnOk P w K mg base lW k f fd ps (spD K n m)):FnOk P w K mg base CX k f fd ps (spD K n m):=
 ⟨F.len,λA outer s H args us vs Q E hr he hb hv hs=>i8 (F.run A outer s H args us vs Q E hr he hb hv hs) λr s' z=>by
  cases r with
  |error e=>exact(show False from z).elim
  |ok x=>cases x<;>exact z⟩
section
variable {P:cu}{w:World}{K:Z5}{mg:Str->Option Value}{base:Heap}{CC HC:Addr}
theorem AH (h:mW P w K mg base i r)(a:r.kd=.n)(c:i<21):Fc P w K mg base 21 (r.nm,n) (spD K r.ps.length r.F):=by unfold mW at h;rw[a]at h;obtain⟨⟨f,fd,F,m,k,b⟩,_⟩:=h;exact⟨f,fd,r.ps,i+1,c,Vy F,m,k,b⟩
variable (P w K mg base CC HC)in
structure Vz:Prop where
 st:Md P w K mg base 23 ("standing",2) (HC,"standing",spSt cU K HC CC mg)
 ov:Mt P w K mg base 22 ("overrule",3) (HC,"overrule",spO5 cU K HC CC mg)
 ft:Mt P w K mg base 2 ("fate",1) (HC,"fate",spFt cU K HC CC mg)
 ro:Mt P w K mg base 2 ("ruling_of",1) (HC,"ruling_of",spRo cU K HC CC)
 bk:Mt P w K mg base 24 ("book",2) (HC,"book",spBk cU K HC CC mg)
 en:Mt P w K mg base 25 ("enter",6) (HC,"enter",spEn cU K HC CC mg)
 FE:Mc P w K mg base 6 ("House",1) (HC,spHi K HC CC)
theorem VA (t:Tx K mg CC HC)(dd:∀i r,i<25->(Rz++[Lr])[i]?=Z9 r->mW P w K mg base i r):Vz P w K mg base CC HC:=by
 obtain⟨c1,c2,c3,c4,c5⟩:=LN (P:=P) (w:=w) (base:=base) t;have m:HouK K HC:=⟨t.HA.cls,t.HA.na _ (.head _),t.HA.na _ (mI (i:=1) rfl),t.HA.na _ (mI (i:=2) rfl),t.HA.na _ (mI (i:=3) rfl)⟩;have dS:Fc P w K mg base 21 ("stood",2) (spD K 2 qz):=AH (dd 7 _ dc rfl) rfl dc;have dA:Fc P w K mg base 21 ("against",2) (spD K 2 gQ):=AH (dd 5 _ dc rfl) rfl dc;have dB:Fc P w K mg base 21 ("barred",2) (spD K 2 pZ):=AH (dd 6 _ dc rfl) rfl dc;have dR:Fc P w K mg base 21 ("ruling",3) (spD K 3 pY):=AH (dd 4 _ dc rfl) rfl dc;obtain⟨f0,VB,J,M0⟩:=t.HA.ms ("__init__",hh 0) (.head _);obtain⟨f2,Jw,L,M2⟩:=t.HA.ms ("enter",hh 2) (mI (i:=1) rfl);obtain⟨f7,VC,M,M7⟩:=t.HA.ms ("fate",hh 7) (mI (i:=2) rfl);obtain⟨f8,VD,N,M8⟩:=t.HA.ms ("overrule",hh 3) (mI (i:=3) rfl);obtain⟨f9,VE,O,M9⟩:=t.HA.ms ("about",hh 9) (mI (i:=4) rfl);obtain⟨VF,Q,o,VG⟩:=t.HA.ms ("rulings_at",hh 10) (mI (i:=5) rfl);obtain⟨VH,R,p,VI⟩:=t.HA.ms ("felled",hh 11) (mI (i:=6) rfl);obtain⟨VJ,S,u,VL⟩:=t.HA.ms ("is_felled",hh 12) (mI (i:=7) rfl);obtain⟨VM,T,v,VN⟩:=t.HA.ms ("check_court",hh 13) (mI (i:=8) rfl);obtain⟨VO,U,z,VP⟩:=t.HA.ms ("check_deed",hh 14) (mI (i:=9) rfl);obtain⟨VQ,V,C,VR⟩:=t.HA.ms ("check_allowed",hh 15) (mI (i:=10) rfl);obtain⟨VS,X,D,VT⟩:=t.HA.ms ("check_number",hh 16) (mI (i:=11) rfl);obtain⟨f6,VU,Y,M6⟩:=t.HA.ms ("ruling_of",hh 6) (mI (i:=13) rfl);obtain⟨f5,VV,Z,M5⟩:=t.HA.ms ("book",hh 8) (mI (i:=12) rfl);obtain⟨T4,f4,LO,LP,M4⟩:=t.HD ("standing",hh 4) (.head _);have F9:Mt P w K mg base 22 ("about",2) (HC,"about",spAb cU K HC CC):=⟨rfl,f9,VE,["self","word","day"],22,ae _,wm0 (s:=Hs.about) t ⟨_,O.ex⟩ (eD fY (i:=10) rfl) (a1:=.cons dS .nil) (run:=by rintro _ _ _ _ _ g ⟨x,A,h,vw,w,vd,dy,B,rfl,th,ok,j,rd,hd,q⟩;exact g rfl (zde m rfl LI th ok j rd hd q)),t.HA.cls,M9,O.binds λ_ _ _ _ _ _=>pJ λ_ _ _=>rfl⟩;have LQ:Mt P w K mg base 1 ("rulings_at",1) (HC,"rulings_at",spRa cU K HC CC):=⟨rfl,VF,Q,["self","numbers"],1,ae _,wm0 (s:=Hs.gD) t ⟨_,o.ex⟩ (eD fY (i:=11) rfl) (run:=by rintro _ _ _ _ _ g ⟨x,A,h,vn,ks,B,rfl,th,ok,rn,VW,q⟩;exact g rfl (z6r m th ok rn VW q)),t.HA.cls,VG,o.binds λ_ _ _ _ _ _=>dO λ_ _=>rfl⟩;have X4:FX P w K mg base 23 f4 LO ["self","court","word","day"] (spSt cU K HC CC mg):=wm0 (s:=Hs.hZ) t ⟨_,LP.ex⟩ (eD fY (i:=8) rfl) (a2:=.cons (c3.up dc) (.cons F9 .nil)) (run:=by rintro _ _ _ _ _ g ⟨x,A,h,E,c,vw,w,vd,dy,B,rfl,th,ok,l,j,rd,hd,q⟩;exact g rfl (z6y m rfl rfl th ok l j rd hd q));have F4:Md P w K mg base 23 ("standing",2) (HC,"standing",spSt cU K HC CC mg):=⟨rfl,f4,LO,_,23,ae _,X4,t.HA.cls,M4,LP.binds λkV doc pm an oO ct us hl=>pJ (P:=λus=>∃k,nq (Z0 "standing" ("House"++"."++"standing") (z0t (hh 4)) (z0j (hh 4)) (z0b (hh 4)) (.ref T4) kV doc pm an oO ct) ⟨us,[]⟩=seqItems? (.ref T4)>>=k/\k (Z9 #[.none])=(pure ((["self","court","word","day"]:List Str).zip (us++[.none])):Sem (List (Str×Value)))) (λ_ _ _=>⟨_,rfl,rfl⟩) us (Nat.succ.inj hl)⟩;have F5:Mt P w K mg base 24 ("book",2) (HC,"book",spBk cU K HC CC mg):=⟨rfl,f5,VV,["self","court","word"],24,ae _,wm0 (s:=Hs.book) t ⟨_,Z.ex⟩ (eD fY (i:=19) rfl) (a2:=.cons (LQ.up dc) .nil) (a4:=.cons F4 .nil) (run:=by rintro _ _ _ _ _ g ⟨x,A,h,E,c,vw,w,B,rfl,th,ok,l,j,q⟩;exact g rfl (zft m rfl rfl th ok l j q)),t.HA.cls,M5,Z.binds λ_ _ _ _ _ _=>pJ λ_ _ _=>rfl⟩;have VX:Mt P w K mg base 22 ("is_felled",3) (HC,"is_felled",spIf cU K HC CC):=⟨rfl,VJ,S,["self","number","court","made"],22,ae _,wm0 (s:=Hs.iA) t ⟨_,u.ex⟩ (eD fY (i:=13) rfl) (a1:=.cons dA .nil) (a2:=.cons (c3.up dc) .nil) (run:=by rintro _ _ _ _ _ g ⟨x,A,h,k,E,s,vm,r,B,rfl,th,ok,VY,l,rm,F,q⟩;exact g rfl (z7z m rfl rfl Vq th ok VY l rm F q)),t.HA.cls,VL,u.binds λ_ _ _ _ _ _=>by4 λ_ _ _ _=>rfl⟩;have VZ:Mt P w K mg base 23 ("felled",3) (HC,"felled",spFe cU K HC CC):=⟨rfl,VH,R,["self","court","word","made"],23,ae _,wm0 (s:=Hs.nJ) t ⟨_,p.ex⟩ (eD fY (i:=12) rfl) (a2:=.cons F9 (.cons VX .nil)) (run:=by rintro _ _ _ _ _ g ⟨x,A,h,E,s,vw,w,vm,r,B,rfl,th,ok,l,j,rm,F,q⟩;exact g rfl (zbd m rfl rfl th ok l j rm F q)),t.HA.cls,VI,p.binds λ_ _ _ _ _ _=>by4 λ_ _ _ _=>rfl⟩;have V0:Mt P w K mg base 3 ("check_court",1) (HC,"check_court",spCc K HC CC mg):=⟨rfl,VM,T,["self","court"],3,ae _,wm0 (s:=Hs.fD) t ⟨_,v.ex⟩ (eD fY (i:=14) rfl) (a2:=.cons c3 .nil) (run:=by rintro _ _ _ _ _ g ⟨x,A,h,E,c,B,rfl,th,l,q⟩;exact g rfl (z50 m rfl th l q)),t.HA.cls,VN,v.binds λ_ _ _ _ _ _=>dO λ_ _=>rfl⟩;have LR:Mt P w K mg base 4 ("check_deed",2) (HC,"check_deed",spCd K HC CC mg):=⟨rfl,VO,U,["self","day","court"],4,ae _,wm0 (s:=Hs.gE) t ⟨_,z.ex⟩ (eD fY (i:=15) rfl) (a2:=.cons V0 .nil) (run:=by rintro _ _ _ _ _ g ⟨x,A,h,E,c,n,B,rfl,th,l,q⟩;exact g rfl (z5u m rfl th l q)),t.HA.cls,VP,z.binds λ_ _ _ _ _ _=>pJ λ_ _ _=>rfl⟩
 have V1:Mt P w K mg base 24 ("check_allowed",3) (HC,"check_allowed",spCa cU K HC CC mg):=⟨rfl,VQ,V,["self","court","word","made"],24,ae _,wm0 (s:=Hs.dY) t ⟨_,C.ex⟩ (eD fY (i:=16) rfl) (a1:=.cons (dB.up dc) .nil) (a2:=.cons (LQ.up dc) .nil) (a4:=.cons F4 .nil) (kf:=.inr ⟨rfl,by decide⟩) (run:=by
  rintro _ _ _ _ _ g ⟨x,A,h,E,s,vw,w,vm,r,B,rfl,th,ok,l,j,rm,F,hc,q⟩
  refine g rfl ?_;cases H:bar cU h s w r with
  |none=>rw[H]at q;exact z25 m rfl rfl rfl LK th ok l j rm F hc (by rw[H];exact λ_=>q)
  |some k=>rw[H]at q;exact z25 m rfl rfl rfl LK th ok l j rm F hc (by rw[H];exact q)),t.HA.cls,VR,C.binds λ_ _ _ _ _ _=>by4 λ_ _ _ _=>rfl⟩
 have I:Mt P w K mg base 1 ("check_number",1) (HC,"check_number",spCn K HC CC mg):=⟨rfl,VS,X,["self","number"],1,ae _,wm0 (s:=Hs.eO) t ⟨_,D.ex⟩ (eD fY (i:=17) rfl) (run:=by
  rintro _ _ _ _ _ g ⟨x,A,h,n,rfl,th,H,q⟩
  refine g rfl ?_;refine SO m th H ?_;by_cases e:kR h n=Z7
  .rw[sf e]at q ⊢;exact λ_=>q
  .rw[sg e]at q ⊢;exact q),t.HA.cls,VT,D.binds λ_ _ _ _ _ _=>dO λ_ _=>rfl⟩
 have F7:Mt P w K mg base 2 ("fate",1) (HC,"fate",spFt cU K HC CC mg):=⟨rfl,f7,VC,["self","number"],2,ae _,wm0 (s:=Hs.pT) t ⟨_,M.ex⟩ (eD fY (i:=6) rfl) (a2:=.cons I .nil) (run:=by rintro _ _ _ _ _ g ⟨x,A,h,n,rfl,th,ok,q⟩;exact g rfl (SQ m rfl th ok q)),t.HA.cls,M7,M.binds λ_ _ _ _ _ _=>dO λ_ _=>rfl⟩;have F6:Mt P w K mg base 2 ("ruling_of",1) (HC,"ruling_of",spRo cU K HC CC):=⟨rfl,f6,VU,["self","number"],2,ae _,wm0 (s:=L5.ro) t ⟨_,Y.ex⟩ (eD fY (i:=20) rfl) (a2:=.cons I .nil) (run:=by rintro _ _ _ _ _ g ⟨x,A,h,k,rfl,th,ok,hl,q⟩;exact g rfl (US m rfl th ok hl q)),t.HA.cls,M6,Y.binds λ_ _ _ _ _ _=>dO λ_ _=>rfl⟩
 have F8:Mt P w K mg base 22 ("overrule",3) (HC,"overrule",spO5 cU K HC CC mg):=⟨rfl,f8,VD,["self","day","court","number"],22,ae _,wm0 (s:=L5.ov) t ⟨_,N.ex⟩ (eD fY (i:=9) rfl) (a1:=.cons dS .nil) (a2:=.cons (LR.up dc) (.cons (I.up dc) (.cons (c3.up dc) .nil))) (run:=by
  rintro _ _ _ _ _ g ⟨x,A,h,n,E,s,k,B,rfl,th,ok,hl,l,hc,V2,um,q⟩
  refine g rfl (zog m rfl rfl rfl rfl LI th ok hl l hc V2 um ?_);by_cases e:(h.fa k).length=1
  .rw[sf e]at q ⊢;exact λH' f t _=>q H' f t
  .rw[sg e]at q ⊢;exact q),t.HA.cls,M8,N.binds λ_ _ _ _ _ _=>by4 λ_ _ _ _=>rfl⟩
 have F2:Mt P w K mg base 25 ("enter",6) (HC,"enter",spEn cU K HC CC mg):=⟨rfl,f2,Jw,["self","day","court","word","case","side","reason"],25,ae _,wm0 (s:=Hs.enter) t ⟨_,L.ex⟩ (eD fY (i:=7) rfl) (a1:=.cons (dR.up dc) .nil) (a2:=.cons (LR.up dc) (.cons V1 (.cons (VZ.up dc) .nil))) (run:=by rintro _ _ _ _ _ g ⟨x,A,h,n,E,c,vw,w,v4,v5,v6,a,b,r,B,rfl,th,ok,H,l,j,r4,r5,r6,im,F,q⟩;exact g rfl (zf1 m rfl rfl rfl rfl Vs th ok H l j r4 r5 r6 im F q)),t.HA.cls,M2,L.binds λ_ _ _ _ _ _=>Vt λ_ _ _ _ _ _ _=>rfl⟩;refine⟨F4,F8,F7,F6,F5,F2,f0,VB,["self","courts"],5,ae _,?_,⟨t.HA.JD,M0.at_,M0.fn,t.HA.kp⟩,t.G _ _ t.HA.ns,J.binds λ_ _ _ _ _ _=>dO λ_ _=>rfl⟩;refine wm0 (s:=Hs.init) t ⟨_,J.ex⟩ (eD fY (i:=5) rfl) (a2:=.cons (c4.up dc) .nil) (a3:=.cons c5 .nil) (run:=?_)
 rintro _ _ _ _ _ g ⟨x,dx,y,dy,d,kvs,es,rfl,hx,ct,af,hz,q⟩
 refine g rfl ?_;exact zf9 m rfl rfl hx ct af hz λ_=>q
end
theorem V3 {P:cu}{w:World}{K:Z5}{mg:Str->Option Value}{base:Heap}{k:Nat}{f:Addr}{fd:d5}{ps:List Str}{sp LS:Sp}(F:FnOk P w K mg base (CXE P w base) k f fd ps sp)(h:∀vs H Q E,LS vs H Q E->sp vs H Q λ_ _ _=>False):FnOk P w K mg base lW k f fd ps LS:=
 ⟨λvs H Q E q=>F.len vs H Q _ (h _ _ _ _ q),λA outer s H args us vs Q E hr he hb hv hs=>i8 (F.run A outer s H args us vs Q _ hr he hb hv (h _ _ _ _ hs)) λr s' z=>by
  cases r with
  |error e=>obtain⟨_,_,_,_,_,_,z⟩:=z;exact z.elim
  |ok x=>cases x<;>exact z⟩
def yY:Fn:=λds=>match ds with
 | [.list xs]=>if(xs.all λx=>match x with|.int _=>Z7|_=>Z6)&&decide (xs.length<=63)then .ok (.fr,.bool Z7)else .no
 |_=>.no
theorem V4 {a:List Int}(b:a.length<=63):yY [.list (a.map .int)]=.ok (.fr,.bool Z7):=by show(if((a.map ZS).all _&&decide ((a.map ZS).length<=63))=Z7 then Res.ok (G.fr,PyData.bool Z7)else Res.no)=_;rw[sf];rw[ah,sr b,Bool.and_true,qk,br];intro x _;rfl
theorem jS:∀{a:List D},(a.all λx=>match x with|.int _=>Z7|_=>Z6)=Z7->∃b:List Int,a=b.map .int
 | [],_=>⟨[],rfl⟩
 |y::a,h=>by
  rw[c9,au]at h;obtain⟨b,e⟩:=jS h.2;cases y with
  |int i=>exact⟨i::b,by rw[e];rfl⟩
  |_=>cases h.1
section
variable {P:cu}{w:World}{K:Z5}{mg:Str->Option Value}{base:Heap}{CC HC:Addr}
theorem FH (t:Tx K mg CC HC)(D:∀i r,i<25->(Rz++[Lr])[i]?=Z9 r->mW P w K mg base i r)(O:∀i r,i<31->(Rz++[Lr])[i]?=Z9 r->Own K mg r.nm r.st r.ps){f:Addr}{fd:d5}(Fl:Fun K "law" "law" (top 52) f fd):FnOk P w K mg base lW 32 f fd ["_law_script"] (spD K 1 yY):=by
 obtain⟨c1,c2,c3,c4,c5⟩:=LN (P:=P) (w:=w) (base:=base) t;have hm:=VA (P:=P) (w:=w) (base:=base) t D;obtain⟨f1,G,I,m1,k1,b1⟩:=O 25 _ dc rfl;obtain⟨f2,J,L,m2,k2,b2⟩:=O 26 _ dc rfl;obtain⟨f3,M,N,m3,k3,b3⟩:=O 27 _ dc rfl;obtain⟨f4,R,S,m4,k4,b4⟩:=O 28 _ dc rfl;obtain⟨f5,T,U,m5,k5,b5⟩:=O 29 _ dc rfl;obtain⟨f6,W,X,m6,k6,b6⟩:=O 30 _ dc rfl;have d:∀{i k:Nat} {r:DRow},(Rz++[Lr])[i]?=Z9 r->i<25->r.kd=.n->i<k->Fd P w K mg base k (r.nm,r.ps.length) r.F:=λe hi Y h=>Vw (D _ _ hi e) Y h;have A1:Fc P w K mg base 24 ("_law_newest_good",4) (spNg cU K HC CC):=⟨f1,G,_,24,ae _,wm0 (s:=L5.ng) t ⟨_,I.ex⟩ (eD iE (i:=25) rfl) (a0:=.cons (d (i:=20) rfl dc rfl dc) .nil) (a4:=.cons hm.st .nil) (run:=by rintro _ _ _ _ _ b ⟨x,A,a,l,fs,o,h,rs,vc,vw,s,w,B,rfl,c,rc,Z,g,q⟩;exact b rfl (zpz rfl rfl nV rfl c rc Z g q)),m1,k1,b1⟩;have A2:Fc P w K mg base 24 ("_law_refused_good",4) (spRg cU K HC CC):=⟨f2,J,_,24,ae _,wm0 (s:=L5.rg) t ⟨_,L.ex⟩ (eD iE (i:=26) rfl) (a0:=.cons (d (i:=20) rfl dc rfl dc) .nil) (a4:=.cons hm.st .nil) (run:=by rintro _ _ _ _ _ b ⟨x,A,a,l,fs,o,h,rs,vd,s,w,p,k,B,rfl,c,rd,z,g,hb,q⟩;exact b rfl (zoo rfl rfl nV rfl c rd z g hb q)),m2,k2,b2⟩;have A3:Fc P w K mg base 25 ("_law_fates_good",6) (spFg cU K HC CC):=⟨f3,M,_,25,ae _,wm0 (s:=L5.fg) t ⟨_,N.ex⟩ (eD iE (i:=27) rfl) (a0:=.cons (d (i:=20) rfl dc rfl dc) (.cons (d (i:=23) rfl dc rfl dc) .nil)) (a2:=.cons (hm.ft.up dc) .nil) (run:=by rintro _ _ _ _ _ b ⟨x,A,a,l,fs,o,h,rs,vr,vd,n,dy,D,B,rfl,nd,hes,th,ok,tl,hl,rr,rd,u,d1,fc,q⟩;exact b rfl (zqq rfl rfl rfl nd hes th ok tl hl rr rd u d1 fc q)),m3,k3,b3⟩;have A4:Fc P w K mg base 26 ("_law_whole_good",5) (spWg cU K HC CC):=⟨f4,R,_,26,ae _,wm0 (s:=L5.wg) t ⟨_,S.ex⟩ (eD iE (i:=28) rfl) (a0:=.cons (d (i:=24) rfl dc rfl dc) .nil) (a2:=.cons (hm.bk.up dc) .nil) (a4:=.cons (hm.st.up dc) .nil) (run:=by rintro _ _ _ _ _ b ⟨x,A,a,l,fs,o,h,rs,ns,ws,ls,vr,vq,vl,B,rfl,fx,c,hn,rr,rq,rl,q⟩;exact b rfl (zr1 rfl rfl nV rfl rfl fx c hn rr rq rl q)),m4,k4,b4⟩;have A5:Fc P w K mg base 26 ("_law_entered",5) (spEt cU K HC CC):=⟨f5,T,_,26,ae _,wm0 (s:=L5.en) t ⟨_,U.ex⟩ (eD iE (i:=29) rfl) (a1:=.cons (A2.up dc) (.cons A3 .nil)) (a2:=.cons hm.en (.cons (hm.ft.up dc) (.cons (hm.ro.up dc) .nil))) (a4:=.cons (hm.st.up dc) .nil) (kf:=.inr ⟨rfl,by decide⟩) (run:=by rintro _ _ _ _ _ b ⟨x,A,a,l,fs,o,h,rs,vr,vd,dy,s,w,p,B,rfl,nd,c,hn,rr,rd,u,z,g,j,q⟩;exact b rfl (zlt rfl rfl c.th c.ok (by omega) rd (nV.g1 p z) g j (en_q rfl rfl nV rfl rfl rfl rfl rfl nd c hn rr rd u z g q))),m5,k5,b5⟩;have A6:Fc P w K mg base 26 ("_law_overruled",5) (spOr cU K HC CC):=⟨f6,W,_,26,ae _,wm0 (s:=L5.gT) t ⟨_,X.ex⟩ (eD iE (i:=30) rfl) (a1:=.cons A3 .nil) (a2:=.cons (hm.ov.up dc) (.cons (hm.ft.up dc) .nil)) (run:=by rintro _ _ _ _ _ b ⟨x,A,a,l,fs,o,h,rs,vr,k,dy,B,rfl,nd,c,Y,rr,u,j,q⟩;exact b rfl (znh rfl rfl rfl rfl rfl nd c Y rr u j q)),m6,k6,b6⟩
 let sp:Sp:=λvs H Q _=>∃(v0:V) (y:List Int) (B:Ad->Prop),vs=[v0]/\Rep K H B v0 (.list (y.map ZS))/\y.length<=63/\∀C,Same H C->Q (.bl Z7) C
 have F8:FX P w K mg base 32 f fd ["_law_script"] sp:=wm0 (s:=L5.la) t ⟨_,Fl.ex⟩ (eD iE (i:=31) rfl) (a0:=.cons (d (i:=8) rfl dc rfl dc) (.cons (d (i:=12) rfl dc rfl dc) (.cons (d (i:=17) rfl dc rfl dc) (.cons (d (i:=22) rfl dc rfl dc) (.cons (d (i:=10) rfl dc rfl dc) (.cons (d (i:=11) rfl dc rfl dc) (.cons (d (i:=21) rfl dc rfl dc) (.cons (d (i:=9) rfl dc rfl dc) .nil)))))))) (a1:=.cons (A5.up dc) (.cons (A6.up dc) (.cons (A1.up dc) (.cons (A4.up dc) .nil)))) (a3:=.cons (c5.up dc) (.cons (hm.FE.up dc) .nil)) (run:=by rintro _ _ _ _ _ b ⟨v0,y,B,rfl,r0,hl,q⟩;exact b rfl (zoq (φ:=cU) rfl rfl rfl rfl rfl rfl rfl rfl hl r0 q));refine V3 F8 λvs H Q E ⟨A,l,x,h1,h2,m,q⟩=>?_;unfold yY at m;split at m
 .rename_i ys;split at m
  .rename_i g;rw[au,decide_eq_true_eq]at g;cases m;obtain⟨y,rfl⟩:=jS g.1;obtain⟨v,t,rfl,r0,hr⟩:=h2;have:t=[]:=hr;subst this;exact⟨v,y,A,rfl,r0,by rw[ah]at g;exact g.2,λC s=>q (.bl Z7) C s rfl⟩
  .cases m
 .cases m
end
section
variable {w:World}{K:Z5}{mg:Str->Option Value}{CC HC:Addr}
theorem all45 {l:W.OpenLaw}(X:K.In h)(G:h.Ns bo mg)(j:mg "law"=Z9 (.ref fa))(C:kOks K Rz)(E:∃f fd,Kf K Lr f fd)(F:∀n∈FREE,ZY K bo n=Z9 Z8)(k:kxs K Xt)(XN:∃A D f fd,XAt K xN A D f fd)(CA:ClsAt K CrC CC)(HA:ClsAt K CrH HC)(HD:∀m∈MdH,∃T f fd,FunD K m.1 ("House"++"."++m.1) m.2 T f fd/\Meth K HC m.1 f):
  ∃fd,(∀s v,pu s fd ⟨[v],[]⟩ [("_law_script",v)])/\∀base,K.In base->base.Ns bo mg->FnOk l.prog w K mg base lW 32 fa fd ["_law_script"] (spD K 1 yY):=by
 obtain⟨f,fd,a,oc,od,an,sl,kV,dc,u,cd,ct,rfl,o,p,q⟩:=E;have e:=j.symm.trans (W.mg_of X G a);cases e;have T:=λn hn=>W.mg_none_of X G (F n hn);refine⟨Z0 "law" "law" (z0t (top 52)) (z0j (top 52)) (z0b (top 52)) .none kV dc u an cd ct,λs v=>.of_eq rfl,λbase _ _=>?_⟩;have O:∀i r,i<31->(Rz++[Lr])[i]?=Z9 r->Own K mg r.nm r.st r.ps:=λi r g e=>by rw[c7 g]at e;obtain⟨⟨f,fd,a,oc,od,an,sl,kV,dc,u,cd,ct,rfl,o,p,q⟩,H⟩:=Ip C e;exact zq4 X G a o p q H
 have xk:∀b,b.sub=(Xt.map XR.subs).flatten->b.rs=Xt.map (·.c)->(b.gP=Xt.map λr=>(r.c,r.B))->rC b K mg:=λb I J L=>Q0 X G k (λ_=>T "ValueError" (by decide)) I J L;have d:((Rz++[Lr]).all λr=>r.kc.isEmpty)=true:=rfl;have t:∀r∈Rz++[Lr],∀y∈r.kc,De K mg y:=λr M y z=>by have:=br.mp d r M;rw[jb.mp this]at z;cases z
 exact FH ⟨T,λx v e=>W.mg_of X G e,xk,XN,CA,HA,HD⟩ (λi r g e=>Q3 iE Vp T xk 25 t (λi r g e=>O i r (by omega) e) i r g e) O (Br o p q)
end
def uO:DefRec:=⟨"law",z0t (top 52),z0j (top 52),z0b (top 52),⟨327,0,351,93⟩⟩
theorem AI:KEq qK (Rz++[Lr]) FREE Xt:=by
 rw[PySem.W.Fast.tkeq_eq];intro P
 kernel_rfl
theorem V5:Tp.said PySem.Challenge.rw_likebook_k45_whole_none_stand_against=true:=by
 rw[PySem.W.Fast.tsaid_eq]
 kernel_rfl
theorem V6:W.opening lP=W.plainProg lP.main.scope.names:=by kernel_rfl
theorem V7:∀s,fenceModules? lP s=Z9 s:=λs=>by kernel_rfl
theorem V8:W.defOf vM PySem.Challenge.rw_likebook_k45_whole_none_stand_against.row.name=Z9 (uO,[]):=by kernel_rfl
theorem V9:lP.theDef PySem.Challenge.rw_likebook_k45_whole_none_stand_against.row.name=Z9 (uO.params,uO.body,uO.scope):=by kernel_rfl
theorem V':W.kwWritten? uO.params.kwonlyargs uO.params.kw_defaults=Z9 []:=by kernel_rfl
theorem Wa:(!PySem.Challenge.rw_likebook_k45_whole_none_stand_against.row.writes||PySem.Challenge.rw_likebook_k45_whole_none_stand_against.row.records.isEmpty)=true:=by kernel_rfl
theorem Wb:(W.chainsOk vM&&W.opensWell lP&&(W.frees PySem.Challenge.rw_likebook_k45_whole_none_stand_against.row.toRowW&&PySem.Challenge.rw_likebook_k45_whole_none_stand_against.row.within.isEmpty))=true:=by kernel_rfl
theorem walk {l:W.OpenLaw}{K:eu->Z5}(hn:l.most=Z9 63)(b:d.params.defaults=[])
  (c:∀w h,e w h->(K w.params).In h)
  (F:∀w mg fa h,(K w.params).In h->h.Ns bo mg->mg d.name=Z9 (.ref fa)->∃fd,(∀s u,pu s fd ⟨[u],[]⟩ [("_law_script",u)])/\∀base,(K w.params).In base->base.Ns bo mg->FnOk l.prog w (K w.params) mg base lW 32 fa fd ["_law_script"] (spD (K w.params) 1 yY)):
  W.WalkO q loose k e l.row.toRowW d [] (λf g=>PySem.call f g):=
 L2.walk_of hn (by decide) b ⟨rfl,by decide,by decide⟩ c F (λ_ _ a ns i _ j=>⟨_,_,_,rfl,QZ j,V4 i,λv m _ r=>r⟩) λ_ _ _ _ _ z=>z
theorem Wd:KCq qK CrC:=by
 rw[PySem.W.Fast.tkcq_eq];intro P
 kernel_rfl
theorem Wf:KCq qK CrH:=by
 rw[PySem.W.Fast.tkcq_eq];intro P
 kernel_rfl
theorem Wg:KDq qK "House" MdH:=by
 rw[PySem.W.Fast.tkdq_eq];intro P
 kernel_rfl
theorem Wh:KXq qK [xN] []:=by
 rw[PySem.W.Fast.tkxq_eq];intro P
 kernel_rfl
theorem FI:tP Rz:=⟨λ_ _ _ _ _ _=>dO λ_ _=>rfl,λ_ _ _ _ _ _=>dO λ_ _=>rfl,λ_ _ _ _ _ _=>Dg λ_=>rfl,λ_ _ _ _ _ _=>dO λ_ _=>rfl,λ_ _ _ _ _ _=>pJ λ_ _ _=>rfl,λ_ _ _ _ _ _=>dO λ_ _=>rfl,λ_ _ _ _ _ _=>dO λ_ _=>rfl,λ_ _ _ _ _ _=>dO λ_ _=>rfl,λ_ _ _ _ _ _=>dO λ_ _=>rfl,λ_ _ _ _ _ _=>dO λ_ _=>rfl,λ_ _ _ _ _ _=>pJ λ_ _ _=>rfl,λ_ _ _ _ _ _=>dO λ_ _=>rfl,λ_ _ _ _ _ _=>dO λ_ _=>rfl,λ_ _ _ _ _ _=>dO λ_ _=>rfl,λ_ _ _ _ _ _=>by4 λ_ _ _ _=>rfl,λ_ _ _ _ _ _=>dO λ_ _=>rfl,λ_ _ _ _ _ _=>dO λ_ _=>rfl,λ_ _ _ _ _ _=>dO λ_ _=>rfl,λ_ _ _ _ _ _=>by4 λ_ _ _ _=>rfl,λ_ _ _ _ _ _=>dO λ_ _=>rfl,λ_ _ _ _ _ _=>dO λ_ _=>rfl,λ_ _ _ _ _ _=>pJ λ_ _ _=>rfl,λ_ _ _ _ _ _=>dO λ_ _=>rfl,λ_ _ _ _ _ _=>dO λ_ _=>rfl,λ_ _ _ _ _ _=>dO λ_ _=>rfl,λ_ _ _ _ _ _=>by4 λ_ _ _ _=>rfl,λ_ _ _ _ _ _=>by4 λ_ _ _ _=>rfl,λ_ _ _ _ _ _=>Io λ_ _ _ _ _ _=>rfl,λ_ _ _ _ _ _=>zO λ_ _ _ _ _=>rfl,λ_ _ _ _ _ _=>zO λ_ _ _ _ _=>rfl,λ_ _ _ _ _ _=>zO λ_ _ _ _ _=>rfl,trivial⟩
end Mk
open PySem PySem.W PyProof.Rows Mi
set_option maxRecDepth 100000 in
set_option maxHeartbeats 0 in
theorem PySem.Challenge.cw_likebook_k45_whole_none_stand_against_holds : PySem.Challenge.rw_likebook_k45_whole_none_stand_against.Holds := by
 refine Tp.holds (l:=PySem.Challenge.rw_likebook_k45_whole_none_stand_against) (q:=Mk.vM) (d:=Mk.uO) (K:=Mk.qK) (M:=100000) (N:=200000) Mk.V5 (Tp.vL _ _ Mk.yZ) Mk.V6 rfl Mk.V7 (by decide) Mk.LV Mk.LW Mk.V8 Mk.V9 Mk.V' Mk.Wa Mk.Wb ⟨rfl,rfl,rfl,rfl,rfl,by decide+kernel⟩ (by w_witness2) ?_;refine Mk.walk (l:=PySem.Challenge.rw_likebook_k45_whole_none_stand_against) rfl rfl (λw h Y=>Y) ?_;intro w mg fa h KX G Wi;obtain⟨CC,CA⟩:=JE Mk.Wd w.params;obtain⟨HC,HA⟩:=JE Mk.Wf w.params;exact Mk.all45 (CC:=CC) (HC:=HC) KX G Wi (Iw (λr hr=>(zP Mk.AI w.params).1 r (dt _ hr)) Mk.FI) ((zP Mk.AI w.params).1 Mk.Lr (bf _ (.head _))) (zP Mk.AI w.params).2.1 (zP Mk.AI w.params).2.2.1 ((Sw Mk.Wh w.params).1 _ (.head _)) CA HA (Sy Mk.Wg w.params HA.ns)
