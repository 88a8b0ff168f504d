import PyProof.Rows.All
import Wide.All
import OpenK.AllK
import PySem.Challenge.RW_likebook_k57_whole_read_again
open Option renaming some->Z9,none->Z8
open PySem.W renaming Frag->Z5,findIn->Z4,keepIn->Z3,kia_one->Z2
open PySem.PyData renaming strOk->Z1,str->Z0,list->ZZ,tuple->ZY,int->ZX,canLay0->ZW,bool->ZV,eqvAll->ZU
open PySem.Value renaming ref->ZT
open Bool renaming true->Z7,false->Z6
open Lean.Parser.Command in
local macro_rules|`(def $a:declId $b:optDeclSig $c:declVal)=>`(noncomputable def $a:declId $b:optDeclSig $c:declVal)|`(abbrev $a:declId $b:optDeclSig $c:declVal)=>`(noncomputable abbrev $a:declId $b:optDeclSig $c:declVal)
noncomputable section
open Array renaming length_toList->db,getElem?_toList->ju,getElem?_eq_getElem->ko,toArray_toList->nk,toList_append->n9
open Bool renaming and_eq_true->aq,and_eq_true_iff->aw,or_eq_true_iff->ew,false_ne_true->fj,not_eq_true'->gz,eq_iff_iff->i8,beq_eq_decide_eq->jv,or_eq_true->j2,eq_false_iff->ph
open Char renaming toNat->ge
open Int renaming emod_nonneg->gt,eq_ofNat_of_zero_le->jk,emod_lt_of_pos->j8,toNat_natCast->pi
open List renaming length_append->af,getD_eq_getElem?_getD->ag,length_map->ai,length_cons->am,mem_cons->ao,mem_singleton->ar,mem_cons_of_mem->av,mem_cons_self->ax,mem_append->a8,getElem?_eq_getElem->a9,mem_append_right->ba,mem_map->bb,map_cons->bc,all_eq_true->be,size_toArray->bg,map_append->bn,append_nil->br,getElem?_map->bu,not_mem_nil->bw,replicate->bx,all_cons->b9,range->ce,getElem?_append_right->cf,length_range->cg,map_map->ci,getElem?_eq_some_iff->cj,getElem?_set_ne->cu,length_take->cv,contains_iff_mem->cw,getElem?_replicate->cx,find?_cons->cz,lookup_cons->c7,length->c8,append_assoc->c9,length_replicate->da,mem_append_left->de,getElem?_append_left->df,getElem?_set->dq,eq_nil_of_length_eq_zero->dt,map_inj_left->du,length_set->dw,mem_of_getElem?->d4,length_drop->d5,filterMap_cons->d7,take_append_of_le_length->ed,getElem?_cons_succ->ej,nodup_cons->et,getElem?_set_self->e8,getElem_mem->fh,mem_range->fi,dropLast_concat_getLast->gu,getElem?_eq_none->gw,nodup_append->ij,mem_of_mem_drop->il,mem_of_mem_take->ip,nodup_nil->ir,any_eq_true->iu,drop_eq_getElem_cons->iw,filter_eq_self->i3,length_pos_iff->i4,any_cons->i5,getElem?_drop->jb,lookup->jd,length_eq_zero_iff->jh,take_of_length_le->jp,drop_drop->jq,drop_length->jx,sum_cons->jy,getElem?_append->jz,drop_left->kb,getElem?_eq_none_iff->kj,mem_of_find?_eq_some->kr,filterMap_cons_none->li,filterMap_cons_some->lj,append_cancel_right->lm,countP_cons->l4,head_eq_of_cons_eq->l5,map_nil->ma,all_map->mn,mem_filter->mv,of_mem_zip->mx,dropLast_eq_take->m5,length_dropLast->nc,mem_iff_getElem->nh,map_id->np,getElem?_range->nz,map_congr_left->n4,map_eq_nil_iff->oa,Pairwise->om,mem_filterMap->oq,length_zipIdx->oz,take_sublist->o7,pairwise_map->pw,Sublist->p3
open List.Pairwise renaming imp_of_mem->lp
open Nat renaming le_refl->ah,le_trans->bh,lt_of_lt_of_le->bo,ne_of_lt->b8,zero_le->cn,lt_irrefl->cy,toDigits->dh,succ_le_succ->d6,le_of_succ_le_succ->fg,le_add_right->gk,le_succ->jf,sub_self->jr,lt_succ_self->jw,toDigits_append_toDigits->j4,repr_eq_ofList_toDigits->j5,lt_of_le_of_lt->j7,mul_le_mul->j9,length_toDigits_le_iff->ke,digitChar->lq,succ_lt_succ->ly,toDigits_of_lt_base->l6,ne_of_gt->l8,lt_trans->mf,strongRecOn->my,one_lt_two->nn,add_sub_cancel'->ny,add_le_add_left->n8,le_of_lt->o0,le_of_eq->o5,lt_or_ge->pr,le_succ_of_le->pv
open Option renaming map_eq_some_iff->dg,bind_eq_some_iff->ji,isSome_map->jn,isNone_iff_eq_none->kq
open Prod renaming fst->pp,snd->qd
open PyProof.Rows renaming AllBare->ku,subscriptTail_builtinR->mi,size_push'->mo,envOfC->m7,IntsAre->nv,Constant_none->og
open PySem renaming PyData->aa,wpAny_bind->ae,Shared->au,sizeLine->ay,wpAny_pure->az,Program->bp,mainGlobals->bq,sizeLine_eq->bz,starEach->b7,compareOp->cq,bootBuiltins->cr,behindInMarks->di,wpAny_truthy_bool->dj,wpAny_field->dm,FuncData->dv,wpAny_setField_rec->dz,Params->d8,Around->d9,foldedSetIterable->ef,wpAny_callSpecial?_slot->eh,assignEach->eo,binaryOp->fm,NameKind->fo,wpAny_seqItems->fq,PassesOwn->fy,wpAny_passesOwn->gc,wpAny_call_entry->gh,wpAny_getItem_str_slice->gj,sysModules->gm,wpAny_Call_Name_kw->gp,tupleKind_room_in1->gq,letOwnedTupleGo->gr,attributeBase->gv,wpAny_newObj_type->gy,backTo->ik,Paired->iz,wpAny_holding->i6,importedModules->i9,call_meets->ja,swapsWith->jc,sliceBounds->jg,treeTable->jj,wpAny_pyIter_list->jl,codeAny_mono->jm,post_val_or_str->j3,codeAny->ky,Keyword->kz,keywordEach->k8,wpAny_comprehension_free->k9,wpAny_onRaise->lh,tupleKind->lr,lastMarks->ls,noFill_tuple_add->lu,wpAny_mono->l7,rawInt->l9,concat_meets->mh,OsState->mr,wpAny_execs_nil->mw,wpAny_isTrue_Compare1->mz,sliceRange_one->m9,Operator->ni,BindsTo->nr,swapsWithSole->oh,swappedStores->oj,seq_tuple_add->ol,wpAny_standAt->on,assign->oo,IsPart->ou,typeIs_str->ow,wpAny_pyIter_tuple->ox,wpAny_rule->oy,wpAny_assign_Name->o3,valueAt->o8,getItem->o9,backToKw->pb,call_meetsIn->pc,seqIndex_neg->pd,slot_list_getitem->pe,callerA->pf,wpAny_pyIter_enum->pj,isTrue->p4,pyNext->p5,pyIter->p6,seqIndex_of->p7,wpAny_letGo->p8,builtinsNs->p9,wpAny_Name->qa,bindArgs->qb,PlainAttrs->qc
open PySem.Builtin.Slice renaming slicePlaces->fu,sliceAdjust->ki
open PySem.Builtin.SmallTypes renaming ownedTupleIsFree->i7,nextOf->km
open PySem.Builtin.Str renaming strSliceIndices->e9,occurrences->lw,strKind->n6
open PySem.Calls renaming callWith_builtin->jo,Name_function_global->j6,evalArgs_plain->m8,spliced_cons->ot,spliced_nil->o6
open PySem.Heap renaming get?_push_of_some->ak,get?_push_size->a7,lt_size->bd,SameBut->bv,get?_update_self->jt,get?_update_other->mj,get?_none_of_le->m6
open PySem.Heap.SameBut renaming update->n7
open String renaming toList_ofList->nq
set_option Elab.async false
set_option genInjectivity false
set_option genSizeOf false
set_option compiler.extract_closed false
set_option linter.all false
set_option maxRecDepth 100000
theorem dc {p:Prop} [Decidable p] (h:decide p=true:=by rfl):p:=by simpa using h
theorem qe {c:Prop}{d:Decidable c}(h:c){α:Sort _}{a b:α}:@ite α c d a b=a:=if_pos h
theorem qf {c:Prop}{d:Decidable c}(h:¬c){α:Sort _}{a b:α}:@ite α c d a b=b:=if_neg h
theorem qg {α}{a b:α}(h:Z9 a=Z9 b):a=b:=Option.some.inj h
theorem qh {α β}{a c:α}{b d:β}(h:(a,b)=(c,d)):a=c∧b=d:=Prod.mk.inj h
theorem qi {a:Prop}(h:¬¬a):a:=Classical.not_not.mp h
theorem qj {p:Prop} [Decidable p] (h:decide p=Z7):p:=of_decide_eq_true h
theorem qk {p:Prop} [Decidable p] (h:p):decide p=true:=decide_eq_true h
theorem ql {p:Prop} [Decidable p] (h:¬p):decide p=false:=decide_eq_false h
theorem qm {α} [BEq α] [LawfulBEq α] {a b:α}(h:(a==b)=Z7):a=b:=beq_iff_eq.mp h
abbrev VB (x:PySem.Str):Prop:=(x==("__debug__":PySem.Str))=Z6
namespace Tp
open PySem PySem.W PyProof.Rows
def q0:Pos:=⟨0,0,0,0⟩
def an:Option Value:=Z9 (.ref 6)
def ev (p:bp):Env:={scope:=p.main.scope,locals:=mainNs,globals:=mainNs,cells:=[],code:=.ref 13,frame:=Z9 14}
def cd (p:bp):Code:=.body (behindTheImports p) (ev p)
def grow:List Obj->Nat->BT->BT
 | [],_,t=>t
 |o::l,i,t=>grow l (i+1) (t.ins i o)
def lift (s:au):SharedT:=⟨grow s.heap.objs.toList 0 .nil,s.heap.objs.size,s.heap.life,s.gens,s.drawn,s.toks,s.os⟩
def pre (p:bp)(H:d8->Heap)(d:Drawn)(k:Nat)(w:World)(os:mr):Option (au×Thread):=topGo jj p w 11 an 12 ⟨H w.params,#[],d,k,os⟩ (topStub p)
def oR (p:bp)(H:d8->Heap)(d:Drawn)(k:Nat)(w:World)(os:mr):SharedT:=lift (((pre p H d k w os).map pp).getD ⟨H w.params,#[],d,k,os⟩)
def run (p:bp)(H:d8->Heap)(d:Drawn)(k N:Nat)(w:World)(os:mr):Option (Flow×SharedT×Code×Pos):=segRunT jj p w 11 an 1 N (oR p H d k w os) (piecesOf (behindTheImports p) (ev p) (cd p) q0 [topFrame q0])
def PreEq (p:bp)(H:d8->Heap)(d:Drawn)(k:Nat):Prop:=∀(w:World) (os:mr),((H w.params).isNs bq&&(#[]:Array GenState).size==0,(H w.params).objs.size,(H w.params).nsMap bq "__annotations__",pre p H d k w os,λs c=>segRun jj p w 11 an 1 1 s (blockOf (behindTheImports p) (ev p) c q0 [topFrame q0]))=(Z7,11,an,Z9 ((oR p H d k w os).abs,⟨denote jj (cd p),cd p,q0,[topFrame q0]⟩),λs c=>Z9 (.next,s,c,q0))
def seen (p q:bp)(R:WRecords)(as:List Addr)(H:d8->Heap)(w:World)(s:SharedT):=(staticsOk (i9 p.main.body) (H w.params) s.abs.heap&&namesBound p s.abs.heap&&gensDone s.abs&&laidKept (H w.params) s.abs.heap,openSeen q [] (i9 p.main.body) (λs=>xlAt q [] s&&recOk R s) Z7 s.abs,as.map s.abs.heap.get?)
def pick {α:Type}(f:SharedT->α):Flow×SharedT×Code×Pos->Option (Code×α)
 |(.next,s,c,_)=>Z9 (c,f s)
 |_=>Z8
def jV (p q:bp)(R:WRecords)(as:List Addr)(K:d8->List (Addr×Obj))(H:d8->Heap)(d:Drawn)(k N:Nat):Prop:=∀(w:World) (os:mr),(run p H d k N w os).bind (pick (seen p q R as H w))=Z9 (cd p,Z7,openGood q [],(K w.params).map λx=>Z9 x.2)
theorem zY (b:String->Option Builtin)(p:bp)(w:World)(n:Nat)(a:Option Value)(s:au)(c:Code)(ps q:Pos):topRun b p w n a 2 s ⟨doneF .next,c,ps,[topFrame q]⟩=Z9 s:=by rfl
theorem left {K:d8->List (Addr×Obj)}(o:∀w,(fencedOpening jj p w N).map (fun s=>(s.heap,s.gens,s.drawn,s.toks))=Z9 (boot_heap w.params,#[],boot_drawn,boot_toks))(le:12+(1+(M+2))<=N)
  (h1:PreEq p boot_heap boot_drawn boot_toks) (h2:jV p q R as K boot_heap boot_drawn boot_toks M):LeftO p q [] (λs=>xlAt q [] s&&recOk R s) (λs=>as.map s.heap.get?) (λw=>(K w.params).map λx=>Z9 x.2) N:=λw=>by
 obtain⟨⟨h,gs,d,k,os⟩,e,e'⟩:=dg.mp (o w);have e1:=qh e';have e2:=qh e1.2;have e3:=qh e2.2;obtain rfl:h=boot_heap w.params:=e1.1;obtain rfl:gs=#[]:=e2.1;obtain rfl:d=boot_drawn:=e3.1;obtain rfl:k=boot_toks:=e3.2;have a:=qh (h1 w os);have a2:=qh a.2;have a3:=qh a2.2;have a4:=qh a3.2;obtain⟨⟨f,s,c,ps⟩,r1,r2⟩:=ji.mp (h2 w os);cases f with
 |next=>
  have b:=qh (qg r2);have b1:=qh b.2;have b2:=qh b1.2;obtain rfl:c=cd p:=b.1;have t1:topRun jj p w 11 an (M+2) (oR p boot_heap boot_drawn boot_toks w os).abs (restOf (behindTheImports p++[]) (ev p) (cd p) q0 [topFrame q0])=Z9 s.abs:=piece_app (segRun_of r1) (zY jj p w 11 an s.abs (cd p) ps q0);rw[br]at t1;have t4:=topRun_mono (N-(12+(1+(M+2)))) _ _ _ _ (go_top a4.1 (piece_block (congrFun (congrFun a4.2 (oR p boot_heap boot_drawn boot_toks w os).abs) (cd p)) t1));rw[ny le]at t4;have t:topFrom jj p w N ⟨boot_heap w.params,#[],boot_drawn,boot_toks,os⟩=Z9 s.abs:=by unfold topFrom;rw[a.1,a2.1,a3.1,t4];show(match staticsOk (i9 p.main.body) (boot_heap w.params) s.abs.heap&&namesBound p s.abs.heap&&gensDone s.abs&&laidKept (boot_heap w.params) s.abs.heap with|true=>Z9 s.abs|false=>Z8)=_;rw[b1.1]
  unfold openEnds;rw[e];show(topFrom jj p w N _).map _=_;rw[t];exact congrArg Z9 (Prod.ext b2.1 b2.2)
 |_=>cases r2
theorem pre_r:PreEq=PreEq:=rfl
def zZ (p q:bp)(R:WRecords)(H:d8->Heap)(w:World)(s:SharedT):=(staticsOk (i9 p.main.body) (H w.params) s.abs.heap&&namesBound p s.abs.heap&&gensDone s.abs&&laidKept (H w.params) s.abs.heap,openSeen q [] (i9 p.main.body) (λs=>xlAt q [] s&&recOk R s) Z7 s.abs)
def RunA (p q:bp)(R:WRecords)(H:d8->Heap)(d:Drawn)(k N:Nat):Prop:=∀(w:World) (os:mr),(run p H d k N w os).bind (pick (zZ p q R H w))=Z9 (cd p,Z7,openGood q [])
def RunB (p:bp)(as:List Addr)(K:d8->List (Addr×Obj))(H:d8->Heap)(d:Drawn)(k N:Nat):Prop:=∀(w:World) (os:mr),(run p H d k N w os).bind (pick λs=>as.map s.abs.heap.get?)=Z9 (cd p,(K w.params).map λx=>Z9 x.2)
theorem J1 {e h:Type}{f:SharedT->e}{g:SharedT->h}{x:Option (Flow×SharedT×Code×Pos)}{a:e}{b:h}(d:x.bind (pick f)=Z9 (c,a))(j:x.bind (pick g)=Z9 (c,b)):x.bind (pick λs=>(f s,g s))=Z9 (c,a,b):=by
 cases x with
 |none=>cases d
 |some y=>
  obtain⟨fl,s,k,ps⟩:=y;cases fl with
  |next=>have i:=qh (qg d);show Z9 (k,f s,g s)=_;rw[i.1,i.2,(qh (qg j)).2]
  |_=>cases d
theorem ri {K:d8->List (Addr×Obj)}(c:RunA p q R H d k N)(f:RunB p as K H d k N):jV p q R as K H d k N:=λw os=>by
 have h:=J1 (c w os) (f w os);cases e:run p H d k N w os with
 |none=>rw[e]at h;cases h
 |some y=>
  rw[e]at h;obtain⟨fl,s,g,ps⟩:=y;cases fl with
  |next=>have a:=qh (qg h);have b:=qh a.2;show Z9 (g,(zZ p q R H w s).1,(zZ p q R H w s).2,as.map s.abs.heap.get?)=_;rw[a.1,b.2,b.1]
  |_=>cases h
theorem runA_r:RunA=RunA:=rfl
theorem runB_r:RunB=RunB:=rfl
end Tp
lay_quick Tp.PreEq Tp.RunA Tp.RunB
name_quick tpre for Tp.PreEq by Tp.pre_r
name_quick truna for Tp.RunA by Tp.runA_r
name_quick trunb for Tp.RunB by Tp.runB_r
namespace Tp
open PySem PySem.W PyProof.Rows
theorem rn_r:run=run:=rfl
end Tp
name_quick trn for Tp.run by Tp.rn_r
namespace Tp
open PySem PySem.W PyProof.Rows
def obj (p:bp)(M:Nat)(P:d8)(a:Addr):Obj:=((PySem.W.Fast.trn p boot_heap boot_drawn boot_toks M ⟨λ_ _=>0,P⟩ default).map λx=>(x.2.1.tree.get a).getD default).getD default
def Ko (p:bp)(M:Nat)(as:List Addr)(P:d8):Frag:=as.map λa=>(a,obj p M P a)
theorem uM (p:bp)(M:Nat)(a:List Addr)(P:d8):a=(Ko p M a P).map (·.1):=by unfold Ko;rw[ci];exact(np _).symm
def said (l:OpenLaw):Bool:=l.wellSaid
theorem said_r:said=said:=rfl
theorem holds {K:d8->Frag}(a:said l=Z7)(b:∀P,as=(K P).map (·.1))(c:opening l.row.prog=plainProg l.row.prog.main.scope.names)(g:Nat.ble 600 N=Z7)(h:∀s,fenceModules? l.row.prog s=Z9 s)(le:12+(1+(M+2))<=N)
  (i:PreEq l.row.prog boot_heap boot_drawn boot_toks) (j:jV l.row.prog q l.row.records as K boot_heap boot_drawn boot_toks M) (a1:defOf q l.row.name=Z9 (d,[])) (a2:l.row.prog.theDef l.row.name=Z9 (d.params,d.body,d.scope)) (a3:kwWritten? d.params.kwonlyargs d.params.kw_defaults=Z9 []) (a4:(!l.row.writes||l.row.records.isEmpty)=Z7)
  (k:(chainsOk q&&opensWell l.row.prog&&(frees l.row.toRowW&&l.row.within.isEmpty))=Z7) (m:l.row.prog.bare) (n:l.row.toRowW.promised) (call:WalkO q [] (XL q []) (InK K) l.row.toRowW d [] λf o=>PySem.call f o):l.Holds:=
 holds_law a λz=>holds_open (left (boot_open c g h) le i j) (InK.of b) InK.keeps (λs e=>xl_of s (aw.mp e).1) XL.keeps a1 a2 a3 (λs e=>recFacts_of (aw.mp e).2) a4 z k m n call
end Tp
lay_quick Tp.said
name_quick tsaid for Tp.said by Tp.said_r
namespace Mk
open PySem PySem.Spec PyProof.Rows
abbrev mI:bp:=PySem.Challenge.rw_likebook_k57_whole_read_again.row.prog
def uN:bp:=W.view mI [1,2,3,4,6,7,9,11,12,13,14,15,16,17,18,19,20,21,22,23,24,25,27,28,29,31,32,33,34,35,36,37,38,39,40,41]
def xZ:List Addr:=ce 315
def tV:d8->Z5:=Tp.Ko mI 100000 xZ
theorem J2:Tp.PreEq mI W.boot_heap W.boot_drawn W.boot_toks:=by
 intro w os
 kernel_rfl
theorem z3:Tp.RunA mI uN PySem.Challenge.rw_likebook_k57_whole_read_again.row.records W.boot_heap W.boot_drawn W.boot_toks 100000:=by
 rw[PySem.W.Fast.truna_eq];intro w os
 kernel_rfl
theorem z4:Tp.RunB mI xZ tV W.boot_heap W.boot_drawn W.boot_toks 100000:=by
 rw[PySem.W.Fast.trunb_eq];intro w os
 kernel_rfl
theorem J3:Tp.jV mI uN PySem.Challenge.rw_likebook_k57_whole_read_again.row.records xZ tV W.boot_heap W.boot_drawn W.boot_toks 100000:=Tp.ri z3 z4
end Mk
namespace L2
open PySem PySem.Spec PyProof.Rows
abbrev Key:=Sum Int Str
def tW:Key->Value->Bool
 |.inl k,v=>Value.isInt k v
 |.inr x,v=>Value.isStrOf x v
def z5 (w:World):Key->Int
 |.inl k=>hashInt k
 |.inr x=>hashStr w x
theorem oB:∀{k:Key} {v:Value},tW k v=Z7->(∃i t,k=Sum.inl i/\v=Value.int i t)\/(∃x t,k=Sum.inr x/\v=Value.str x t)
 |.inl i,v,h=>by obtain⟨t,e⟩:=Value.isInt_shape h;exact .inl ⟨i,t,rfl,e⟩
 |.inr x,v,h=>by obtain⟨t,e⟩:=Value.isStrOf_shape h;exact .inr ⟨x,t,rfl,e⟩
theorem J4 (i:Int)(t:Tok):tW (.inl i) (.int i t)=true:=by simp[tW,Value.isInt]
theorem J5 (x:Str)(t:Tok):tW (.inr x) (.str x t)=true:=by simp[tW,Value.isStrOf]
theorem J6 (a b:Int):decide ((Sum.inl a:Key)=Sum.inl b)=(a==b):=by grind
theorem J7 (a b:Str):decide ((Sum.inr a:Key)=Sum.inr b)=decide (a=b):=by grind
theorem J8 (a:Int)(b:Str):decide ((Sum.inl a:Key)=Sum.inr b)=false:=ql (λq=>nomatch q)
theorem J9 (a:Str)(b:Int):decide ((Sum.inr a:Key)=Sum.inl b)=false:=ql (λq=>nomatch q)
def eX (prog:bp)(w:World):PySem.KeyKind prog w Key where
 is:=tW
 hash:=z5 w
 inj:=λv a b ha hb=>by
  rcases oB ha with⟨i,t,rfl,rfl⟩|⟨x,t,rfl,rfl⟩
  .rcases oB hb with⟨j,u,rfl,e⟩|⟨y,u,rfl,e⟩
   .injection e with e1 _;rw[e1]
   .exact nomatch e
  .rcases oB hb with⟨j,u,rfl,e⟩|⟨y,u,rfl,e⟩
   .exact nomatch e
   .injection e with e1 _;rw[e1]
 byValue:=λk v h=>by rcases oB h with⟨i,t,rfl,rfl⟩|⟨x,t,rfl,rfl⟩<;>rfl
 pyHash:=λhv h=>by
  rcases oB hv with⟨i,t,rfl,rfl⟩|⟨x,t,rfl,rfl⟩
  .exact wpAny_pyHash_int h
  .exact wpAny_pyHash_str h
 eqBool:=λhu hv h=>by
  rcases oB hu with⟨i,t,rfl,rfl⟩|⟨x,t,rfl,rfl⟩
  .rcases oB hv with⟨j,u,rfl,rfl⟩|⟨y,u,rfl,rfl⟩
   .rw[J6]at h;exact wpAny_eqBool_int h
   .rw[J8]at h;exact SeqAt.EqAt.int_str i t y u _ _ _ _ h
  .rcases oB hv with⟨j,u,rfl,rfl⟩|⟨y,u,rfl,rfl⟩
   .rw[J9]at h;exact SeqAt.EqAt.str_int x t j u _ _ _ _ h
   .rw[J7]at h;exact wpAny_eqBool_str h
 «strs»:=λk x t v h=>by
  rcases oB h with⟨i,u,rfl,e⟩|⟨y,u,rfl,e⟩
  .exact nomatch e
  .injection e with e1 _;subst e1;cases v<;>rfl
theorem J' (prog:bp)(w:World)(i:Int)(t:Tok):(eX prog w).is (.inl i) (.int i t)=true:=J4 i t
theorem Ka (prog:bp)(w:World)(x:Str)(t:Tok):(eX prog w).is (.inr x) (.str x t)=true:=J5 x t
inductive V where
 |non|bl (b:Bool)|int (i:Int)|str (x:Str)|ref (a:Addr)|ty (n:String)
 deriving DecidableEq
def RelV:V->Value->Prop
 |.non,u=>u=Value.none
 |.bl b,u=>u=Value.bool b
 |.int i,u=>∃t,u=Value.int i t
 |.str x,u=>∃t,u=Value.str x t
 |.ref a,u=>u=ZT a
 |.ty n,u=>u=Value.type n
abbrev Vals:List V->List Value->Prop:=iz RelV
theorem Vals.length (r:Vals xs us):xs.length=us.length:=Paired.length r
theorem Vals.get:∀{a:List V} {b:List Value} {i:Nat} {x:V},Vals a b->a[i]?=Z9 x->∃u,b[i]?=Z9 u/\RelV x u
 |_,_,_,_,.nil,e=>by simp at e
 |_,_,0,_,.cons r _,e=>by simp at e;subst e;exact⟨_,rfl,r⟩
 |_,_,i+1,x,.cons _ t,e=>by obtain⟨u,c,d⟩:=Vals.get t (by simpa using e);exact⟨u,by simpa using c,d⟩
theorem Vals.set (r:RelV x u):∀{a:List V} {b:List Value} i,Vals a b->Vals (a.set i x) (b.set i u)
 |_,_,_,.nil=>.nil
 |_,_,0,.cons _ t=>.cons r t
 |_,_,i+1,.cons q t=>.cons q (Vals.set r i t)
theorem Vals.append:∀{xs ys:List V} {us ws:List Value},Vals xs us->Vals ys ws->Vals (xs++ys) (us++ws)
 |_,_,_,_,.nil,s=>s
 |_,_,_,_,.cons r t,s=>.cons r (Vals.append t s)
theorem Vals.take:∀{xs:List V} {us:List Value} n,Vals xs us->Vals (xs.take n) (us.take n)
 |_,_,0,_=>.nil
 |_,_,_+1,.nil=>.nil
 |_,_,n+1,.cons r t=>.cons r (Vals.take n t)
theorem Vals.drop:∀{a:List V} {b:List Value} n,Vals a b->Vals (a.drop n) (b.drop n)
 |_,_,0,r=>r
 |_,_,_+1,.nil=>.nil
 |_,_,n+1,.cons _ t=>Vals.drop n t
def cO:Option V->Option Value->Prop
 |some v,Z9 u=>RelV v u
 |none,Z8=>True
 |_,_=>False
def KV {κ:Type}:List (κ×V)->List (κ×Value)->Prop:=iz λ(p:κ×V) (q:κ×Value)=>p.1=q.1/\RelV p.2 q.2
def kV:Key->V
 |.inl i=>.int i
 |.inr x=>.str x
inductive HO where
 |lst (xs:List V)
 |tup (xs:List V)
 |dK (kvs:List (Key×V))|dT (kvs:List (List Key×V))
 |set (S:Int->Bool) (n:Nat)
 |ins (C dx:Addr) (fs:List (Str×V))
 |own (x:Addr)
 |xd (fs:List (Str×V))
 |iD (o:Obj) (u:HO)
 |qH (ps:Array Value)
 |ext (φ:Heap->Prop)
abbrev Hp:=Addr->Option HO
def upd (H:Hp)(a:Addr)(o:HO):Hp:=λb=>if b=a then Z9 o else H b
theorem bL:upd H a o a=Z9 o:=by unfold upd;rw[qe rfl]
theorem aL (h:b≠a):upd H a o b=H b:=by unfold upd;rw[qf h]
theorem Kb {H:Hp}(h:H a=Z9 o)(c:H b=Z9 u)(d:o≠u):a≠b:=by grind
theorem fQ {H:Hp}(h:H a=Z9 o)(c:H b=Z8):a≠b:=by intro e;subst e;rw[h]at c;cases c
def iM (h:Heap)(a:Addr)(l:Array Value):Prop:=∃n,h.get? a=Z9 {cls:=.type "tuple",data:=.seq l n}
theorem iM.tup {h:Heap}{a:Addr}{l:Array Value}(x:iM h a l):IsTup h a l:=let⟨n,q⟩:=x;⟨_,q,rfl,n,rfl⟩
theorem iM.new (h:Heap)(l:Array Value):iM (h.push {cls:=.type "tuple",data:=.seq l}) h.objs.size l:=⟨_,a7 _ rfl⟩
section
variable (P:bp)(w:World)
def z1x (H:Hp)(h:Heap)(a:Addr):HO->Prop
 |.lst xs=>xs.length<=ay/\∃(cC:List Value) (n:Nat),Vals xs cC/\h.get? a=Z9 {cls:=.type "list",data:=.seq cC.toArray n}
 |.tup xs=>xs.length<=ay/\∃cC:List Value,Vals xs cC/\iM h a cC.toArray
 |.dK kvs=>kvs.length<=ay/\(a==gm)=Z6/\∃vs,KV kvs vs/\h.DictOf (eX P w) a vs
 |.dT kvs=>kvs.length<=ay/\(a==gm)=Z6/\∃xs:List (List Key×Addr×Value),
  iz (λ(p:List Key×V) (q:List Key×Addr×Value)=>p.1=q.1/\H q.2.1=Z9 (.tup (p.1.map kV))/\RelV p.2 q.2.2) kvs xs/\
  ∃o es ep,h.get? a=Z9 o/\o.ExactDict/\o.data=.dict es ep/\es.toList=xs.map (entryOfKey (lr (eX P w)))/\(xs.map (·.1)).Nodup
 |.set S n=>h.SetOf (intKind P w) a S n
 |.ins C dx fs=>H dx=Z9 (.own a)/\fs.length<=1000/\dx≠a/\h.get? a=Z9 (W.instObj C dx)/\∃mA,h.Ns1 dx mA/\(∀f,cO (fs.lookup f) (mA f))/\PySem.Within mA (fs.map (·.1))
 |.own _=>∃o,h.get? a=Z9 o
 |.xd fs=>∃mA,h.Ns1 a mA/\∀f,cO (fs.lookup f) (mA f)
 |.iD o u=>h.get? a=Z9 o/\z1x H h a u
 |.qH ps=>h.get? a=Z9 {cls:=.none,data:=.fields ps}
 |.ext φ=>φ h/\(∃o,h.get? a=Z9 o)/\∀h1 h2:Heap,φ h1->(∀o,h1.get? a=Z9 o->h2.get? a=Z9 o)->φ h2
def HOk (H:Hp)(h:Heap):Prop:=∀a o,H a=Z9 o->z1x P w H h a o
end
section
variable {P:bp}{w:World}{H H':Hp}{h h':Heap}{a:Addr}{o:HO}
theorem z1x.lt (x:z1x P w H h a o):a<h.objs.size:=by
 cases o with
 |lst c=>obtain⟨_,_,_,_,e⟩:=x;exact bd e
 |tup c=>obtain⟨_,_,_,_,q⟩:=x;exact bd q
 |dK b=>obtain⟨_,_,_,_,o,_,_,e,_⟩:=x;exact bd e
 |dT b=>obtain⟨_,_,_,_,o,_,_,e,_⟩:=x;exact bd e
 |set S n=>obtain⟨o,_,_,_,e,_⟩:=x;exact bd e
 |ins C d fs=>obtain⟨_,_,_,e,_⟩:=x;exact bd e
 |own y=>obtain⟨_,e⟩:=x;exact bd e
 |xd fs=>obtain⟨_,⟨_,_,_,e,_⟩,_⟩:=x;exact bd e
 |iD f u=>obtain⟨e,_⟩:=x;exact bd e
 |qH ps=>exact bd x
 |ext g=>obtain⟨_,⟨_,e⟩,_⟩:=x;exact bd e
theorem Paired.rj {e g:Type}{F G:e->g->Prop}:∀{c:List e} {d:List g},iz F c d->(∀a b,F a b->G a b)->iz G c d
 |_,_,.nil,_=>.nil
 |_,_,.cons r t,f=>.cons (f _ _ r) (Paired.rj t f)
theorem z1x.stay (x:z1x P w H h a o)(k:∀b u,(b=a\/H b=Z9 (.own a))->h.get? b=Z9 u->h'.get? b=Z9 u)
  (ho:∀b,H b=Z9 (.own a)->H' b=Z9 (.own a)) (ht:∀b g,H b=Z9 (.tup g)->H' b=Z9 (.tup g)):z1x P w H' h' a o:=by
 induction o with
 |lst g=>obtain⟨z,i,n,r,e⟩:=x;exact⟨z,i,n,r,k _ _ (.inl rfl) e⟩
 |tup g=>obtain⟨z,l,r,n,q⟩:=x;exact⟨z,l,r,n,k _ _ (.inl rfl) q⟩
 |dK j=>obtain⟨z,y,s,r,f,es,ep,e,c⟩:=x;exact⟨z,y,s,r,f,es,ep,k _ _ (.inl rfl) e,c⟩
 |dT j=>obtain⟨z,y,g,r,f,es,ep,e,c⟩:=x;exact⟨z,y,g,Paired.rj r λp q z=>⟨z.1,ht _ _ z.2.1,z.2.2⟩,f,es,ep,k _ _ (.inl rfl) e,c⟩
 |set S n=>obtain⟨f,es,ep,t,e,c⟩:=x;exact⟨f,es,ep,t,k _ _ (.inl rfl) e,c⟩
 |ins C B fs=>obtain⟨d,z,ne,e,m,⟨od,es,ep,v,c⟩,r⟩:=x;exact⟨ho _ d,z,ne,k _ _ (.inl rfl) e,m,⟨od,es,ep,k _ _ (.inr d) v,c⟩,r⟩
 |own y=>obtain⟨f,e⟩:=x;exact⟨f,k _ _ (.inl rfl) e⟩
 |xd fs=>obtain⟨m,⟨od,es,ep,e,c⟩,r⟩:=x;exact⟨m,⟨od,es,ep,k _ _ (.inl rfl) e,c⟩,r⟩
 |iD f u A=>obtain⟨e,q⟩:=x;exact⟨k _ _ (.inl rfl) e,A q⟩
 |qH ps=>have e:h.get? a=Z9 {cls:=.none,data:=.fields ps}:=x;exact k a _ (.inl rfl) e
 |ext D=>obtain⟨p,⟨o,e⟩,st⟩:=x;exact⟨st _ _ p λo q=>k _ _ (.inl rfl) q,⟨o,k _ _ (.inl rfl) e⟩,st⟩
theorem HOk.lt (x:HOk P w H h)(e:H a=Z9 o):a<h.objs.size:=(x a o e).lt
theorem HOk.fresh (x:HOk P w H h)(e:h.objs.size<=a):H a=none:=by
 cases q:H a with
 |none=>rfl
 |some u=>exact absurd (bo (x.lt q) e) (cy _)
theorem HOk.kept (x:HOk P w H h)(k:∀b u,h.get? b=Z9 u->h'.get? b=Z9 u):HOk P w H h':=λa o e=>(x a o e).stay (λb u _ q=>k b u q) (λ_ q=>q) λ_ _ q=>q
theorem HOk.laid (x:HOk P w H h)(k:∀b u,h.get? b=Z9 u->h'.get? b=Z9 u)(d:h.objs.size<=a)(new:z1x P w (upd H a o) h' a o):HOk P w (upd H a o) h':=λb u e=>by
 have hn:=x.fresh d;by_cases hb:b=a
 .subst hb;rw[bL]at e;cases e;exact new
 .rw[aL hb]at e;exact(x b u e).stay (λc v _ q=>k c v q) (λc q=>by rw[aL (fQ q hn)];exact q) λc f q=>by rw[aL (fQ q hn)];exact q
end
def Rd (H:Hp)(a:Addr)(u:HO):Prop:=H a=Z9 u\/∃o,H a=Z9 (.iD o u)
theorem Rd.ok (r:Rd H a u)(x:HOk P w H h):z1x P w H h a u:=by
 rcases r with r|⟨o,r⟩
 .exact x a u r
 .obtain⟨_,q⟩:=x a _ r;exact q
def Mut:Option HO->Prop
 |some (.lst _)=>True
 |some (.dK _)=>True
 |some (.dT _)=>True
 |some (.set _ _)=>True
 |some (.ins _ _ _)=>True
 |some (.ext _)=>True
 |_=>False
section
variable {P:bp}{w:World}{H:Hp}{h h':Heap}{x e:Addr}{o':HO}
theorem HOk.write (ok:HOk P w H h)(mu:Mut (H x))(i:e=x\/H e=Z9 (.own x))(k:∀b u,b≠e->h.get? b=Z9 u->h'.get? b=Z9 u)(g:∃u,h'.get? e=Z9 u)
  (new:z1x P w (upd H x o') h' x o'):HOk P w (upd H x o') h':=λb u q=>by
 have d:∀c y,H c=Z9 (.own y)->c≠x:=λc y r z=>by subst z;rw[r]at mu;exact mu
 by_cases hb:b=x
 .subst hb;rw[bL]at q;cases q;exact new
 .rw[aL hb]at q;by_cases a:b=e
  .have j:H b=Z9 (.own x):=by
    rcases i with z|z
    .exact absurd (a.trans z) hb
    .rw[a];exact z
   rw[q]at j;cases j;obtain⟨v,m⟩:=g;exact⟨v,by rw[a];exact m⟩
  .refine(ok b u q).stay (λc v f r=>k c v ?_ r) (λc r=>by rw[aL (d c b r)];exact r) λc l r=>by rw[aL ((λc l r z=>by subst z;rw[r]at mu;exact mu) c l r)];exact r
   rcases f with rfl|f
   .exact a
   .rintro rfl
    rcases i with z|z
    .exact d c b f z
    .rw[f]at z;cases z;exact hb rfl
end
structure Un (fs ex:List Addr)(H H':Hp)(h h':Heap):Prop where
 keep:∀b o,h.get? b=Z9 o->H b=Z8->b∉fs->b∉ex->h'.get? b=Z9 o
 slot:∀b o,h.get? b=Z9 o->H b=Z8->b∈fs->b∉ex->∃sl,h'.get? b=Z9 {o with slots:=sl}
 free:∀b o,h.get? b=Z9 o->H b=Z8->b∉ex->H' b=Z8
 there:∀b o,h.get? b=Z9 o->b∉ex->∃o',h'.get? b=Z9 o'
 gT:∀b xs,H b=Z9 (.tup xs)->H' b=Z9 (.tup xs)
 fR:∀b o u,H b=Z9 (.iD o u)->H' b=Z9 (.iD o u)
 gU:∀b ps,H b=Z9 (.qH ps)->∃more,H' b=Z9 (.qH (ps++more))
section
variable {fs Kc ex Ve:List Addr}{H H1 H2:Hp}{h h1 h2 h':Heap}{a x e:Addr}{o:HO}
theorem Un.any (u:Un fs ex H H1 h h1)(q:h.get? b=Z9 ob)(n:H b=Z8)(hx:b∉ex):∃sl,h1.get? b=Z9 {ob with slots:=sl}:=by
 by_cases hb:b∈fs
 .exact u.slot b ob q n hb hx
 .exact⟨ob.slots,u.keep b ob q n hb hx⟩
theorem Un.kept (k:∀b u,h.get? b=Z9 u->h'.get? b=Z9 u):Un fs ex H H h h':=⟨λb a q _ _ _=>k b a q,λb a q _ _ _=>⟨a.slots,k b a q⟩,λ_ _ _ n _=>n,λb a q _=>⟨a,k b a q⟩,λ_ _ q=>q,λ_ _ _ q=>q,λ_ ps q=>⟨#[],by rw[q];simp⟩⟩
theorem Un.refl:Un fs ex H H h h:=Un.kept λ_ _ q=>q
theorem Un.laid (k:∀b u,h.get? b=Z9 u->h'.get? b=Z9 u)(c:h.objs.size<=a)(hn:H a=Z8):Un fs ex H (upd H a o) h h' where
 keep:=λb u q _ _ _=>k b u q
 slot:=λb u q _ _ _=>⟨u.slots,k b u q⟩
 free:=λb u q n _=>by rw[aL (b8 (bo (bd q) c))];exact n
 there:=λb u q _=>⟨u,k b u q⟩
 gT:=λb d q=>by rw[aL (fQ q hn)];exact q
 fR:=λb u d q=>by rw[aL (fQ q hn)];exact q
 gU:=λb ps q=>⟨#[],by rw[aL (fQ q hn),q];simp⟩
theorem Un.write (mu:Mut (H x))(d:e=x\/H e=Z9 (.own x))(k:∀b u,b≠e->h.get? b=Z9 u->h'.get? b=Z9 u)(c:∃u,h'.get? e=Z9 u):Un fs ex H (upd H x o) h h':=by
 have hx:∀b,H b=Z8->b≠x:=λb n z=>by subst z;rw[n]at mu;exact mu
 have hb:∀b,H b=Z8->b≠e:=λb n z=>by
  subst z;rcases d with r|r
  .exact hx b n r
  .rw[n]at r;cases r
 have hm:∀b u,H b=Z9 u->¬Mut (Z9 u)->b≠x:=λb u q nm z=>by subst z;rw[q]at mu;exact nm mu
 refine⟨λb u q n _ _=>k b u (hb b n) q,λb u q n _ _=>⟨u.slots,k b u (hb b n) q⟩,λb u q n _=>by rw[aL (hx b n)];exact n,λb u q _=>?_,λb f q=>by rw[aL (hm b _ q λz=>z)];exact q,λb u f q=>by rw[aL (hm b _ q λz=>z)];exact q,λb ps q=>⟨#[],by rw[aL (hm b _ q λz=>z),q];simp⟩⟩;by_cases a:b=e
 .subst a;exact c
 .exact⟨u,k b u a q⟩
end
def z6 (h:Heap)(H:Hp):List Addr:=(ce h.objs.size).filter λa=>(H a).isSome
def kK (h:Heap)(H:Hp):Heap:=W.hideAll h (z6 h H)
theorem Ke (h:Heap)(H:Hp):(kK h H).objs.size=h.objs.size:=W.hideAll_size _ _
theorem Kg (e:h.get? b=Z9 o)(n:H b=Z8):(kK h H).get? b=Z9 o:=W.hideAll_get _ e λhm=>by have q:=(mv.mp hm).2;rw[n]at q;simp at q
theorem Kh (e:(kK h H).get? b=Z9 o):h.get? b=Z9 o/\H b=none:=by
 have a:=W.of_hideAll (z6 h H) e;refine⟨a,?_⟩;cases q:H b with
 |none=>rfl
 |some x=>have z:(kK h H).get? b=none:=W.hideAll_none (z6 h H) (mv.mpr ⟨fi.mpr (bd a),by simp[q]⟩);rw[z]at e;cases e
def Ki (g h:Heap)(L:Addr):List (Addr×Obj):=(ce h.objs.size).filterMap λa=>if a=L\/(g.get? a).isSome=Z7 then Z8 else(h.get? a).map λo=>(a,o)
def rest (g h:Heap)(L d:Addr):List (Addr×Obj):=(Ki g h L).filter λp=>decide (p.1≠d)
structure Mod (K:Z5)(mg:Str->Option Value)(base:Heap):Prop where
 tX:K.In base
 glob:base.Ns bq mg
 blt:∃mb,base.Ns p9 mb/\∀x:Str,x≠"__name__"->mb x=cr x
 nolimit:base.NoLimit
structure Cx where
 prog:bp
 w:World
 K:Z5
 mg:Str->Option Value
 base:Heap
 A:d9
 N:List Str
 bP:au
 mJ:Hp
 env:Env
 outer:List Env
 stack:List Env
 ex:List Addr
 fn:Str->Bool
 calm:Bool
 pn:List (Addr×Obj)
 xe:Value->au->Prop
 fx:List (Str×Value):=[]
def frs (l:List Env):List Addr:=l.filterMap (·.frame)
abbrev Cx.fs (X:Cx):List Addr:=frs X.outer
def Vis (sc:Scope)(x:Str):Prop:=sc.names.lookup x=Z9 .local\/sc.names.lookup x=Z9 .cell\/sc.names.lookup x=Z9 .free
def Loc (sc:Scope)(x:Str):Prop:=sc.names.lookup x=Z9 .local\/sc.names.lookup x=Z9 .cell
def Look (env:Env)(h:Heap)(m:Str->Option Value)(x:Str)(u:Value):Prop:=(env.kindOf x=Z9 .local/\m x=Z9 u)\/((env.kindOf x=Z9 .cell\/env.kindOf x=Z9 .free)/\∃c,env.cells.lookup x=Z9 c/\h.IsCell c (Z9 u))
def Sto (X:Cx)(x:Str):Prop:=(X.fn x=Z7\/X.env.scope.names.lookup x=Z9 .local)/\∀u,(x,u)∉X.fx
structure Cx.Ok (X:Cx):Prop where
 mod:Mod X.K X.mg X.base
 kind:X.env.scope.kind=.function
 glob:X.env.globals=bq
 blt:X.env.builtins=p9
 above:X.bP.heap.objs.size<=X.env.locals
 inj:∀x y c,X.env.cells.lookup x=Z9 c->X.env.cells.lookup y=Z9 c->x=y
 has:∀x,(X.env.kindOf x=Z9 .cell\/X.env.kindOf x=Z9 .free)->∃c,X.env.cells.lookup x=Z9 c
 uO:∀x c,X.fn x=Z7->X.env.cells.lookup x=Z9 c->X.bP.heap.objs.size<=c
 hd:X.calm=Z7->X.A.handled=Z8
 frames:X.A.frames=Z9 X.stack
 x4:X.stack=X.outer\/(X.stack=X.env::X.outer/\X.env.frame=Z9 X.env.locals)
 x5:∀b∈X.ex,b≠X.env.locals/\∀x c,X.env.cells.lookup x=Z9 c->c≠b
 bs:∀b o,X.base.get? b=Z9 o->X.bP.heap.get? b=Z9 o/\X.mJ b=Z8
 oE:X.base.objs.size<=X.bP.heap.objs.size
 mK:∀b o,X.base.get? b=Z9 o->b∉X.ex
 mL:∀b∈X.ex,b∉X.fs
 eO:X.bP.heap.FunFrames X.base X.outer
 ro:∀b∈X.fs,X.mJ b=Z8
 Eh:∀x u,(x,u)∈X.fx->X.env.scope.names.lookup x=Z9 .local
structure Inv (X:Cx)(pins:List (Addr×Obj))(σ:List (Option V))(H:Hp)(s:au):Prop where
 ok:X.Ok
 os:s.os=X.bP.os
 bare:ku s.gens
 base:Un X.fs X.ex X.mJ H X.bP.heap s.heap
 loc:∃m,s.heap.Ns X.env.locals m/\∀(i:Nat) (x:Str) (v:V),X.N[i]?=Z9 x->σ[i]?=Z9 (Z9 v)->Vis X.env.scope x->∃u,RelV v u/\Look X.env s.heap m x u
 cell:∀x c,X.env.cells.lookup x=Z9 c->∃v,s.heap.IsCell c v
 free:H X.env.locals=Z8
 cZ:∀x c,X.env.cells.lookup x=Z9 c->H c=Z8
 pin:∀p∈X.pn++pins,s.heap.get? p.1=Z9 p.2/\H p.1=Z8/\p.1≠X.env.locals/\p.1∉X.fs/\∀v,p.2.data≠.cell v
 hok:HOk X.prog X.w H s.heap
 len:σ.length=X.N.length
 fx:∀x u,(x,u)∈X.fx->∃m,s.heap.Ns X.env.locals m/\m x=Z9 u
section
variable {X:Cx}{pins:List (Addr×Obj)}{σ:List (Option V)}{H H':Hp}{s:au}{h':Heap}
theorem Cx.Ok.z7 (ok:X.Ok)(e:X.base.get? b=Z9 o):b∉X.fs:=λhb=>by have:=(ok.eO.mem hb).1;rw[e]at this;cases this
theorem Inv.bs (I:Inv X pins σ H s):∀b o,X.base.get? b=Z9 o->s.heap.get? b=Z9 o/\H b=none:=λb o e=>⟨I.base.keep b o (I.ok.bs b o e).1 (I.ok.bs b o e).2 (I.ok.z7 e) (I.ok.mK b o e),I.base.free b o (I.ok.bs b o e).1 (I.ok.bs b o e).2 (I.ok.mK b o e)⟩
theorem Inv.bk (I:Inv X pins σ H s):∀b o,X.base.get? b=Z9 o->s.heap.get? b=Z9 o:=λb o e=>(I.bs b o e).1
theorem Inv.mod (I:Inv X pins σ H s):Mod X.K X.mg X.base:=I.ok.mod
theorem Inv.eJ (I:Inv X pins σ H s):X.K.In s.heap:=I.ok.mod.tX.keeps I.bk
theorem Inv.fr (I:Inv X pins σ H s):∃m,Fr X.base X.env.locals s.heap m:=
 let⟨m,hn,_⟩:=I.loc
 ⟨m,hn,I.bk,bh I.ok.oE I.ok.above⟩
theorem Inv.lt (I:Inv X pins σ H s):X.env.locals<s.heap.objs.size:=let⟨_,hn,_⟩:=I.loc;hn.lt
theorem Inv.sz (I:Inv X pins σ H s):X.bP.heap.objs.size<=s.heap.objs.size:=bh I.ok.above (o0 I.lt)
theorem Inv.uP (I:Inv X pins σ H s)(h:s.heap.objs.size<=a):a∉X.fs:=λhb=>by obtain⟨_,o,ho,_⟩:=I.ok.eO.mem hb;exact absurd (bo (bd ho) (bh I.sz h)) (cy _)
theorem Inv.qI (I:Inv X pins σ H s):∀x c,X.env.cells.lookup x=Z9 c->c≠X.env.locals:=λx c e z=>by obtain⟨v,o,ho,hd⟩:=I.cell x c e;obtain⟨m,⟨d,es,ep,a,b,_⟩,_⟩:=I.loc;rw[z,a]at ho;cases ho;rw[b]at hd;cases hd
theorem Inv.eO (I:Inv X pins σ H s):s.heap.FunFrames X.base X.outer:=by
 have all:∀l,(∀b∈frs l,b∈X.fs)->X.bP.heap.FunFrames X.base l->s.heap.FunFrames X.base l:=by
  intro l
  induction l with
  |nil=>intro _ _;trivial
  |cons env r c=>
   rintro hs ⟨hk,⟨L,o,hf,hn,ho,hd⟩,hr⟩
   have a:=hs L (by unfold frs;rw[d7,hf];exact ax);obtain⟨sl,e⟩:=I.base.slot L o ho (I.ok.ro L a) a λz=>I.ok.mL L z a;exact⟨hk,⟨L,_,hf,hn,e,hd⟩,c (λb hb=>hs b (by unfold frs;rw[d7,hf];exact av _ hb)) hr⟩
 exact all X.outer (λ_ hb=>hb) I.ok.eO
theorem Inv.stack (I:Inv X pins σ H s):s.heap.FunFrames X.base X.stack:=by
 rcases I.ok.x4 with e|⟨e,hf⟩
 .rw[e];exact I.eO
 .rw[e];obtain⟨m,hn,_⟩:=I.loc;refine .cons (by rw[I.ok.kind];decide) hf hn ?_ I.eO;exact m6 (bh I.ok.oE I.ok.above)
theorem Inv.gW (I:Inv X pins σ H s):∀b∈frs X.stack,b∈X.env.locals::X.fs:=λb hb=>by
 rcases I.ok.x4 with e|⟨e,hf⟩
 .rw[e]at hb;simp_all
 .rw[e]at hb;unfold frs at hb;rw[d7,hf]at hb;exact hb
theorem Inv.jW (I:Inv X pins σ H s):∀b∈frs X.stack,H b=none:=λb hb=>by
 rcases ao.mp (I.gW b hb)with e|hb
 .rw[e];exact I.free
 .obtain⟨_,o,ho,_⟩:=I.ok.eO.mem hb;exact I.base.free b o ho (I.ok.ro b hb) λz=>I.ok.mL b z hb
theorem Inv.step {ch:List Addr}(I:Inv X pins σ H s)
  (a:∀b∈ch,(b∈X.ex\/X.bP.heap.objs.size<=b)/\b≠X.env.locals/\(∀x c,X.env.cells.lookup x=Z9 c->c≠b)/\∀p∈X.pn++pins,p.1≠b)
  (keep:∀b o,b≠X.env.locals->b∉X.fs->b∉ch->s.heap.get? b=Z9 o->H b=Z8->h'.get? b=Z9 o)
  (slot:∀b o,b≠X.env.locals->b∈X.fs->b∉ch->s.heap.get? b=Z9 o->H b=Z8->∃sl,h'.get? b=Z9 {o with slots:=sl}) (free:∀b o,b∉ch->s.heap.get? b=Z9 o->H b=Z8->H' b=Z8)
  (there:∀b o,b∉ch->s.heap.get? b=Z9 o->∃y,h'.get? b=Z9 y)
  (gT:∀b t,H b=Z9 (.tup t)->H' b=Z9 (.tup t)) (fR:∀b o u,H b=Z9 (.iD o u)->H' b=Z9 (.iD o u)) (gU:∀b ps,H b=Z9 (.qH ps)->∃A,H' b=Z9 (.qH (ps++A)))
  (ns:∀m,s.heap.Ns X.env.locals m->h'.Ns X.env.locals m) (hok:HOk X.prog X.w H' h') (J:ku g'):
  Inv X pins σ H' {s with heap:=h',gens:=g',drawn:=d',toks:=t'}:=by
 have B:∀b o,X.bP.heap.get? b=Z9 o->b≠X.env.locals:=λb o e=>b8 (bo (bd e) I.ok.above)
 have h:∀b o,X.bP.heap.get? b=Z9 o->b∉X.ex->b∉ch:=λb o e hx hb=>by
  rcases(a b hb).1 with z|z
  .exact hx z
  .exact absurd (bo (bd e) z) (cy _)
 have f:∀x c,X.env.cells.lookup x=Z9 c->∀v,s.heap.IsCell c v->h'.IsCell c v:=λx c e v ⟨o,ho,hd⟩=>by
  have g:=λz=>(a c z).2.2.1 x c e rfl;by_cases E:c∈X.fs
  .obtain⟨sl,q⟩:=slot c o (I.qI x c e) E g ho (I.cZ x c e);exact⟨_,q,hd⟩
  .exact⟨o,keep c o (I.qI x c e) E g ho (I.cZ x c e),hd⟩
 refine⟨I.ok,I.os,J,⟨λb o e n hb hx=>?_,λb o e n hb hx=>?_,λb o e n hx=>?_,λb o e hx=>?_,λb t e=>gT b t (I.base.gT b t e),λb o t e=>fR b o t (I.base.fR b o t e),λb ps e=>?_⟩,?_,λx c e=>?_,?_,λx c e=>?_,λp F=>?_,hok,I.len,λx u e=>let⟨m,hn,q⟩:=I.fx x u e;⟨m,ns m hn,q⟩⟩
 .exact keep b o (B b o e) hb (h b o e hx) (I.base.keep b o e n hb hx) (I.base.free b o e n hx)
 .obtain⟨sl,j⟩:=I.base.slot b o e n hb hx;obtain⟨D,C⟩:=slot b _ (B b o e) hb (h b o e hx) j (I.base.free b o e n hx);exact⟨D,C⟩
 .obtain⟨y,j⟩:=I.base.there b o e hx;exact free b y (h b o e hx) j (I.base.free b o e n hx)
 .obtain⟨y,j⟩:=I.base.there b o e hx;exact there b y (h b o e hx) j
 .obtain⟨K,j⟩:=I.base.gU b ps e;obtain⟨L,C⟩:=gU b _ j;exact⟨K++L,by rw[C,Array.append_assoc]⟩
 .obtain⟨m,hn,hl⟩:=I.loc;refine⟨m,ns m hn,λi x v j C M=>?_⟩;obtain⟨u,r,l⟩:=hl i x v j C M;refine⟨u,r,?_⟩;rcases l with l|⟨k,c,e,z⟩
  .exact .inl l
  .exact .inr ⟨k,c,e,f x c e _ z⟩
 .obtain⟨v,z⟩:=I.cell x c e;exact⟨v,f x c e v z⟩
 .obtain⟨m,⟨o,_,_,ho,_⟩,_⟩:=I.loc;exact free _ o (λz=>(a _ z).2.1 rfl) ho I.free
 .obtain⟨v,o,ho,hd⟩:=I.cell x c e;exact free c o (λz=>(a c z).2.2.1 x c e rfl) ho (I.cZ x c e)
 .obtain⟨e,n,ne,G,d⟩:=I.pin p F;have g:=λz=>(a p.1 z).2.2.2 p F rfl;exact⟨keep p.1 p.2 ne G g e n,free p.1 p.2 g e n,ne,G,d⟩
theorem Inv.un (I:Inv X pins σ H s)(u:Un X.fs [] H H' s.heap h')(hok:HOk X.prog X.w H' h'):Inv X pins σ H' {s with heap:=h',toks:=t'}:=by obtain⟨m,⟨o,es,ep,ho,r⟩,_⟩:=id I.loc;obtain⟨sl,f⟩:=u.any ho I.free (by simp);exact I.step (ch:=[]) (λ_ z=>nomatch z) (λb o _ hb _ e n=>u.keep b o e n hb (by simp)) (λb o _ hb _ e n=>u.slot b o e n hb (by simp)) (λb o _ e n=>u.free b o e n (by simp)) (λb o _ e=>u.there b o e (by simp)) u.gT u.fR u.gU (λh ⟨i,c,d,a,g⟩=>by rw[ho]at a;cases a;exact⟨_,c,d,f,g⟩) hok I.bare
theorem Inv.call (I:Inv X pins σ H s)(u:Un (frs X.stack) ch H H' s.heap h')(hok:HOk X.prog X.w H' h')(j:ku k)
  (d:∀b∈ch,(b∈X.ex\/X.bP.heap.objs.size<=b)/\b≠X.env.locals/\(∀x c,X.env.cells.lookup x=Z9 c->c≠b)/\∀p∈X.pn++pins,p.1≠b):
  Inv X pins σ H' {s with heap:=h',gens:=k,drawn:=d',toks:=t'}:=by
 obtain⟨m,⟨o,es,ep,ho,r⟩,_⟩:=id I.loc;obtain⟨sl,g⟩:=u.any ho I.free λz=>(d _ z).2.1 rfl;exact I.step d (λb o g hb a e n=>u.keep b o e n (λz=>(ao.mp (I.gW b z)).elim g hb) a) (λb o _ _ a e n=>u.any e n a) (λb o a e n=>u.free b o e n a) (λb o a e=>u.there b o e a) u.gT u.fR u.gU (λq ⟨t,h,i,f,l⟩=>by rw[ho]at f;cases f;exact⟨_,h,i,g,l⟩) hok j
theorem Inv.turned (I:Inv X pins σ H s)(k:∀b o,b≠a->s.heap.get? b=Z9 o->h'.get? b=Z9 o)(hn:H a=Z8)(g:a≠X.env.locals)
  (h:a∈X.ex\/X.bP.heap.objs.size<=a) (i:∀x c,X.env.cells.lookup x=Z9 c->c≠a) (j:∀p∈X.pn++pins,p.1≠a):Inv X pins σ H {s with heap:=h',toks:=t'}:=by
 have f:∀b u,H b=Z9 u->b≠a:=λb u e z=>by rw[z,hn]at e;cases e
 refine I.step (ch:=[a]) (λb hb=>?_) (λb o _ _ d e _=>k b o (λz=>d (by simp[z])) e) (λb o _ _ d e _=>⟨o.slots,k b o (λz=>d (by simp[z])) e⟩) (λ_ _ _ _ n=>n) (λb o d e=>⟨o,k b o (λz=>d (by simp[z])) e⟩) (λ_ _ e=>e) (λ_ _ _ e=>e) (λb ps e=>⟨#[],by rw[e];simp⟩) (λm hm=>?_) (λb u e=>?_) I.bare
 .have e:b=a:=by simpa using hb
  subst e;exact⟨h,g,i,j⟩
 .obtain⟨o,es,ep,ho,r⟩:=hm;exact⟨o,es,ep,k _ o (Ne.symm g) ho,r⟩
 .refine(I.hok b u e).stay (λc v d q=>k c v ?_ q) (λ_ q=>q) λ_ _ q=>q;rcases d with z|z
  .rw[z];exact f b u e
  .exact f c _ z
theorem Inv.tok (I:Inv X pins σ H s)(t:Nat):Inv X pins σ H {s with toks:=t}:=I.un (h':=s.heap) (t':=t) Un.refl I.hok
theorem Inv.kept (I:Inv X pins σ H s)(k:∀b u,s.heap.get? b=Z9 u->h'.get? b=Z9 u):Inv X pins σ H {s with heap:=h',toks:=t'}:=I.un (Un.kept k) (I.hok.kept k)
theorem Inv.laid (I:Inv X pins σ H s)(k:∀b u,s.heap.get? b=Z9 u->h'.get? b=Z9 u)(c:s.heap.objs.size<=a)(new:z1x X.prog X.w (upd H a o) h' a o): Inv X pins σ (upd H a o) {s with heap:=h',toks:=t'}:=I.un (Un.laid k c (I.hok.fresh c)) (I.hok.laid k c new)
theorem Inv.write (I:Inv X pins σ H s)(mu:Mut (H x))(c:e=x\/H e=Z9 (.own x))(k:∀b u,b≠e->s.heap.get? b=Z9 u->h'.get? b=Z9 u)(a:∃u,h'.get? e=Z9 u) (new:z1x X.prog X.w (upd H x o) h' x o):Inv X pins σ (upd H x o) {s with heap:=h',toks:=t'}:=I.un (Un.write mu c k a) (I.hok.write mu c k a new)
theorem Inv.weak (I:Inv X pins σ H s)(hl:a.length=σ.length)(w:∀(i:Nat) v,a[i]?=Z9 (Z9 v)->σ[i]?=Z9 (Z9 v)):Inv X pins a H s:=⟨I.ok,I.os,I.bare,I.base,let⟨m,hn,x6⟩:=I.loc;⟨m,hn,λi x v b c d=>x6 i x v b (w i v c) d⟩,I.cell,I.free,I.cZ,I.pin,I.hok,hl.trans I.len,I.fx⟩
theorem Inv.gX (I:Inv X pins σ H s)(h:∀p∈uQ,s.heap.get? p.1=Z9 p.2/\H p.1=Z8/\p.1≠X.env.locals/\p.1∉X.fs/\∀v,p.2.data≠.cell v):Inv X uQ σ H s:=⟨I.ok,I.os,I.bare,I.base,I.loc,I.cell,I.free,I.cZ,λp a=>(a8.mp a).elim (λz=>I.pin p (de _ z)) (h p),I.hok,I.len,I.fx⟩
theorem Kj {h:Heap}(x:h.Ns a m)(y:h.Ns a g)(n:Str):m n=g n:=by obtain⟨o,es,ep,e,d,_,f⟩:=x;obtain⟨l,i,j,b,c,_,k⟩:=y;rw[e]at b;cases b;rw[d]at c;cases c;rw[<-f n,k n]
theorem Ei {N:List Str}(hN:N.Nodup){j:Nat}(a:N[i]?=Z9 x)(b:N[j]?=Z9 x):i=j:=by obtain⟨e,c⟩:=cj.mp a;obtain⟨f,d⟩:=cj.mp b;exact(List.getElem_inj hN).mp (c.trans d.symm)
theorem zbw (I:Inv X pins σ H s)(hN:X.N.Nodup)(J:X.N[i]?=Z9 x)(hx:Loc X.env.scope x)(r:RelV v u)
  (h:∀U,Inv X pins (σ.set i (Z9 v)) H U->(∃a,bv a s.heap U.heap/\(a=X.env.locals\/X.env.cells.lookup x=Z9 a))->Q () U) (hf:Sto X x:=by first|exact⟨.inl rfl,nofun⟩|exact⟨.inr rfl,nofun⟩|assumption):wpAny M A (storeName X.env x u) Q E s:=by
 obtain⟨m,hn,hl⟩:=id I.loc;have C:i<σ.length:=I.len▸(cj.mp J).1;have qI:=I.qI
 have f:∀{a:Addr} {h':Heap},(∃o,s.heap.get? a=Z9 o/\H a=Z8)->bv a s.heap h'->HOk X.prog X.w H h':=λ{a h'} ha hs b ob e=>by
  obtain⟨_,_,t⟩:=ha;refine(I.hok b ob e).stay (λc S l q=>(hs.2 c ?_).trans q) (λ_ q=>q) λ_ _ q=>q
  rintro rfl
  rcases l with rfl|l
  .rw[t]at e;cases e
  .rw[t]at l;cases l
 rcases hx with hk|hk
 .refine wpAny_storeName_local hk hn (λh' K hs=>?_) (by rw[I.ok.kind];rfl);obtain⟨oL,_,_,V,_⟩:=id hn;refine h _ ⟨I.ok,I.os,I.bare,⟨λb o e n hb hx=>?_,λb o e n hb hx=>?_,I.base.free,λb o e hx=>?_,I.base.gT,I.base.fR,I.base.gU⟩,⟨_,K,λj y W g B Y=>?_⟩,λy c e=>?_,I.free,I.cZ,λp hp=>?_,f ⟨oL,V,I.free⟩ hs,by simpa using I.len,λy u e=>by obtain⟨m',D,q⟩:=I.fx y u e;refine⟨_,K,?_⟩;have hy:y≠x:=λz=>hf.2 u (z▸e);have:=Kj hn D y;simp[hy,this,q]⟩ ⟨_,hs,.inl rfl⟩
  .exact(hs.2 b (b8 (bo (bd e) I.ok.above))).trans (I.base.keep b o e n hb hx)
  .obtain⟨sl,g⟩:=I.base.slot b o e n hb hx;exact⟨sl,(hs.2 b (b8 (bo (bd e) I.ok.above))).trans g⟩
  .obtain⟨o',g⟩:=I.base.there b o e hx;exact⟨o',(hs.2 b (b8 (bo (bd e) I.ok.above))).trans g⟩
  .by_cases F:j=i
   .subst F;rw[J]at g;cases g;rw[e8 C]at B;cases B;exact⟨u,r,.inl ⟨hk,by simp⟩⟩
   .rw[cu (Ne.symm F)]at B;obtain⟨u',r',q⟩:=hl j y W g B Y;refine⟨u',r',?_⟩;rcases q with⟨k,e⟩|⟨k,c,e,z⟩
    .refine .inl ⟨k,?_⟩;have:y≠x:=λe=>F (Ei hN g (e▸J));simp[this,e]
    .exact .inr ⟨k,c,e,z.sameBut hs (qI y c e)⟩
  .obtain⟨S,z⟩:=I.cell y c e;exact⟨S,z.sameBut hs (qI y c e)⟩
  .obtain⟨e,n,ne,nf,d⟩:=I.pin p hp;exact⟨(hs.2 p.1 ne).trans e,n,ne,nf,d⟩
 .have G:X.fn x=true:=by
   rcases hf.1 with z|z
   .exact z
   .rw[z]at hk;cases hk
  obtain⟨c,l⟩:=I.ok.has x (.inl hk);obtain⟨S,z⟩:=I.cell x c l;refine wpAny_storeName_cell I.ok.kind hk l z (λh' L hs=>?_);obtain⟨oc,O,P⟩:=id z;refine h {s with heap:=h'} ⟨I.ok,I.os,I.bare,⟨λb o e n hb hx=>?_,λb o e n hb hx=>?_,I.base.free,λb o e hx=>?_,I.base.gT,I.base.fR,I.base.gU⟩,⟨m,hn.sameBut hs (Ne.symm (qI x c l)),λj y W g B Y=>?_⟩,λy T e=>?_,I.free,I.cZ,λp hp=>?_,f ⟨oc,O,I.cZ x c l⟩ hs,by simpa using I.len,λy u e=>let⟨m',D,q⟩:=I.fx y u e;⟨m',D.sameBut hs (Ne.symm (qI x c l)),q⟩⟩ ⟨c,hs,.inr l⟩
  .exact(hs.2 b (b8 (bo (bd e) (I.ok.uO x c G l)))).trans (I.base.keep b o e n hb hx)
  .obtain⟨sl,g⟩:=I.base.slot b o e n hb hx;exact⟨sl,(hs.2 b (b8 (bo (bd e) (I.ok.uO x c G l)))).trans g⟩
  .obtain⟨o',g⟩:=I.base.there b o e hx;exact⟨o',(hs.2 b (b8 (bo (bd e) (I.ok.uO x c G l)))).trans g⟩
  .by_cases F:j=i
   .subst F;rw[J]at g;cases g;rw[e8 C]at B;cases B;exact⟨u,r,.inr ⟨.inl hk,c,l,L⟩⟩
   .rw[cu (Ne.symm F)]at B;obtain⟨u',r',q⟩:=hl j y W g B Y;refine⟨u',r',?_⟩;rcases q with q|⟨k,T,e,z'⟩
    .exact .inl q
    .refine .inr ⟨k,T,e,z'.sameBut hs ?_⟩
     rintro rfl
     exact F (Ei hN g (I.ok.inj _ _ _ e l▸J))
  .by_cases R:T=c
   .subst R;exact⟨_,L⟩
   .obtain⟨w2,z2⟩:=I.cell y T e;exact⟨w2,z2.sameBut hs R⟩
  .obtain⟨e,n,ne,nf,d⟩:=I.pin p hp;refine⟨(hs.2 p.1 ?_).trans e,n,ne,nf,d⟩;intro q;rw[q,O]at e;exact d S (qg e▸P)
theorem z5b (I:Inv X pins σ H s)(hN:X.N.Nodup)(b:X.N[i]?=Z9 x)(hx:Loc X.env.scope x)(r:RelV v u)
  (h:∀a,Inv X pins (σ.set i (Z9 v)) H a->Q () a) (hf:Sto X x:=by first|exact⟨.inl rfl,nofun⟩|exact⟨.inr rfl,nofun⟩|assumption):wpAny M A (storeName X.env x u) Q E s:=
 zbw I hN b hx r (λa c _=>h a c) hf
theorem Inv.call' (I:Inv X pins σ H s)(ho:a.os=s.os)(u:Un (frs X.stack) e H H' s.heap a.heap)(hok:HOk X.prog X.w H' a.heap)(f:ku a.gens)
  (d:∀b∈e,(b∈X.ex\/X.bP.heap.objs.size<=b)/\b≠X.env.locals/\(∀x c,X.env.cells.lookup x=Z9 c->c≠b)/\∀p∈X.pn++pins,p.1≠b):Inv X pins σ H' a:=by
 obtain⟨h',g,h,i,j⟩:=a;subst ho;exact I.call u hok f d
end
abbrev XK:=Value->Option Addr->Hp->Prop
abbrev St:=List (Option V)
abbrev VK:=V->Hp->Prop
abbrev TE:=St->Hp->VK->Prop
abbrev TT:=St->Hp->(Bool->Hp->Prop)->Prop
abbrev TA:=St->Hp->(List V->Hp->Prop)->Prop
structure Ends where
 nx:St->Hp->Prop
 rt:VK
 bk:St->Hp->Prop:=λ_ _=>False
 ct:St->Hp->Prop:=λ_ _=>False
abbrev TS:=Ends->St->Hp->Prop
def EP (X:Cx)(pins:List (Addr×Obj))(σ:St)(Q:VK)(u:Value)(s':au):Prop:=∃v H',Inv X pins σ H' s'/\RelV v u/\Q v H'
def TP (X:Cx)(pins:List (Addr×Obj))(σ:St)(Q:Bool->Hp->Prop)(b:Bool)(s':au):Prop:=∃H',Inv X pins σ H' s'/\Q b H'
def AP (X:Cx)(pins:List (Addr×Obj))(σ:St)(Q:List V->Hp->Prop)(us:List Value)(s':au):Prop:=∃vs H',Inv X pins σ H' s'/\Vals vs us/\Q vs H'
def SP (X:Cx)(pins:List (Addr×Obj))(D:Ends)(f:Flow)(s':au):Prop:=
 match f with
 |.next=>∃bA H',Inv X pins bA H' s'/\D.nx bA H'
 |.brk=>∃bA H',Inv X pins bA H' s'/\D.bk bA H'
 |.cont=>∃bA H',Inv X pins bA H' s'/\D.ct bA H'
 |.ret u=>∃v bA H',Inv X pins bA H' s'/\RelV v u/\D.rt v H'
def PE (X:Cx)(e:Expr)(t:TE):Prop:=∀(pins:List (Addr×Obj)) (s:au) (σ:St) (H:Hp) (Q:VK),Inv X pins σ H s->t σ H Q->wpAny (model X.prog X.w) X.A (eval e X.env) (EP X pins σ Q) X.xe s
def PT (X:Cx)(e:Expr)(t:TT):Prop:=∀(pins:List (Addr×Obj)) (s:au) (σ:St) (H:Hp) (Q:Bool->Hp->Prop),Inv X pins σ H s->t σ H Q->wpAny (model X.prog X.w) X.A (p4 e X.env (eval e X.env)) (TP X pins σ Q) X.xe s
def PW (X:Cx)(e:Expr)(t:TT):Prop:=∀(whole:Sem Value) (pins:List (Addr×Obj)) (s:au) (σ:St) (H:Hp) (Q:Bool->Hp->Prop),Inv X pins σ H s->t σ H Q->wpAny (model X.prog X.w) X.A (p4 e X.env whole) (TP X pins σ Q) X.xe s
theorem PW.pt (h:PW X e t):PT X e t:=h _
def PA (X:Cx)(es:List Expr)(t:TA):Prop:=∀(pos:Pos) (pins:List (Addr×Obj)) (s:au) (σ:St) (H:Hp) (Q:List V->Hp->Prop),Inv X pins σ H s->t σ H Q->wpAny (model X.prog X.w) X.A (spliced (ik pos (b7 es X.env))) (AP X pins σ Q) X.xe s
def PS (X:Cx)(st:Stmt)(t:TS):Prop:=∀(pins:List (Addr×Obj)) (s:au) (σ:St) (H:Hp) (D:Ends),Inv X pins σ H s->t D σ H->wpAny (model X.prog X.w) X.A (exec st X.env) (SP X pins D) X.xe s
def PSs (X:Cx)(st:List Stmt)(t:TS):Prop:=∀(pins:List (Addr×Obj)) (s:au) (σ:St) (H:Hp) (D:Ends),Inv X pins σ H s->t D σ H->wpAny (model X.prog X.w) X.A (execs st X.env) (SP X pins D) X.xe s
theorem aM (h:wpAny M A t Q E s)(b:∀a s,Q a s->c a s):wpAny M A t c E s:=l7 h b λ_ _ x=>x
section
variable {X:Cx}
theorem bin (ha:PE X a m)(hb:PE X b n){R:V->V->Hp->Prop}(I:Inv X c e H s)(h:m e H fun x k=>n e k fun y d=>R x y d)
  {l:Type} {Q:l->au->Prop} {f:Value->Value->Sem l}
  (hf:∀v u j x y d,Inv X c e d j->RelV x v->RelV y u->R x y d->wpAny (model X.prog X.w) X.A (f v u) Q X.xe j):
  wpAny (model X.prog X.w) X.A (eval a X.env) (λv g=>wpAny (model X.prog X.w) X.A (eval b X.env) (λu i=>wpAny (model X.prog X.w) X.A (f v u) Q X.xe i) X.xe g) X.xe s:=by
 exact aM (ha c s e H _ I h) λv o ⟨x,k,p,q,r⟩=>aM (hb c o e k _ p r) λu j ⟨y,d,t,z,B⟩=>hf v u j x y d t q z B
def uR (i:Nat):TE:=λσ H Q=>∃v,σ[i]?=Z9 (Z9 v)/\Q v H
def tC (v:V):TE:=λ_ H Q=>Q v H
theorem mM (hN:X.N[i]?=Z9 x)(j:Vis X.env.scope x)(hd:VB x:=by decide)(f:(x==("__classdict__":Str))=false:=by decide):PE X (.Name x pos) (uR i):=by
 rintro d s k H Q I ⟨v,e,h⟩
 obtain⟨m,hn,hl⟩:=I.loc;obtain⟨u,r,l⟩:=hl i x v hN e j;have b:EP X d k Q u s:=⟨v,H,I,r,h⟩;rcases l with⟨hk,hm⟩|⟨hk,c,g,a⟩
 .exact qa (wpAny_loadName_local I.ok.kind hk hn hm b) hd
 .rcases hk with hk|hk
  .exact qa (wpAny_loadName_cell I.ok.kind hk g a b) hd
  .exact qa (wpAny_loadName_free I.ok.kind hk g a b f) hd
theorem Kk {i j pos}:PE X (.Constant (.int i) j pos) (tC (.int i)):=λ_ _ _ H _ I h=>wpAny_Constant_int ⟨.int i,H,I.tok _,⟨_,rfl⟩,h⟩
theorem Kl {b j pos}:PE X (.Constant (.bool b) j pos) (tC (.bl b)):=λ_ _ _ H _ I h=>Constant_bool ⟨.bl b,H,I,rfl,h⟩
theorem Km {j pos}:PE X (.Constant .none j pos) (tC .non):=λ_ _ _ H _ I h=>og ⟨.non,H,I,rfl,h⟩
theorem Kn {x j pos}:PE X (.Constant (.str x) j pos) (tC (.str x)):=λ_ _ _ H _ I h=>Calls.Constant_str ⟨.str x,H,I.tok _,⟨_,rfl⟩,h⟩
def Gl (X:Cx)(x:Str):Prop:=X.env.kindOf x=Z9 .globalImplicit
theorem z4b (I:Inv X a c H s)(b:Gl X x)(hm:X.mg x=Z9 u)(h:Q u s)
  (hd:VB x:=by decide):wpAny (model X.prog X.w) X.A (eval (.Name x pos) X.env) Q E s:=
 j6 I.ok.kind b (Calls.loadGlobal_global (I.ok.glob▸I.mod.glob.keeps I.bk) hm h) hd
theorem z2m (I:Inv X a f H s)(b:Gl X x)(hm:X.mg x=Z8)(c:cr x=Z9 u)(h:Q u s)
  (hn:x≠"__name__":=by decide) (hd:VB x:=by decide):wpAny (model X.prog X.w) X.A (eval (.Name x pos) X.env) Q E s:=by
 obtain⟨g,d,e⟩:=I.mod.blt;exact j6 I.ok.kind b (Calls.loadGlobal_builtin (I.ok.glob▸I.mod.glob.keeps I.bk) hm (I.ok.blt▸d.keeps I.bk) ((e x hn).trans c) h) hd
theorem Kq {x:Str}{v:V}{u:Value}{pos:Pos}(hg:Gl X x)(hm:X.mg x=Z9 u)(r:RelV v u)(hd:VB x:=by decide):PE X (.Name x pos) (tC v):=λ_ _ _ H _ I h=>z4b I hg hm ⟨v,H,I,r,h⟩ hd
theorem Kr (a:Gl X x)(hm:X.mg x=Z8)(b:cr x=Z9 u)(r:RelV v u)(hn:x≠"__name__":=by decide)(hd:VB x:=by decide):PE X (.Name x pos) (tC v):=λ_ _ _ H _ I h=>z2m I a hm b ⟨v,H,I,r,h⟩ hn hd
variable {a b:Expr}{ta tb:TE}{pos:Pos}
def PC (X:Cx)(op:CmpOp)(a b:Expr)(t:TE):Prop:=∀(pins:List (Addr×Obj)) (s:au) (σ:St) (H:Hp) (Q:VK),Inv X pins σ H s->t σ H Q->wpAny (model X.prog X.w) X.A (eval a X.env) (λv rp=>wpAny (model X.prog X.w) X.A (eval b X.env) (λu z8=>wpAny (model X.prog X.w) X.A (cq op v u) (EP X pins σ Q) X.xe z8) X.xe rp) X.xe s
theorem Ej (b:Expr)(h:op≠.In)(a:op≠.NotIn):di op b=false:=by
 have c:(op==CmpOp.In)=false:=by cases op<;>first|rfl|exact absurd rfl h
 have d:(op==CmpOp.NotIn)=false:=by cases op<;>first|rfl|exact absurd rfl a
 cases b<;>simp[di,c,d]
def uS (ta:TE):TE:=λσ H Q=>ta σ H λx H1=>Q (.bl (decide (x=.non))) H1
def Ek (ta:TE):TE:=λσ H Q=>ta σ H λx H1=>Q (.bl (!decide (x=.non))) H1
theorem RelV.iN (r:RelV x v):(v==Value.none)=decide (x=.non):=by
 cases x with
 |non=>cases r;rfl
 |bl _=>cases r;rfl
 |int _=>obtain⟨t,rfl⟩:=r;rfl
 |str _=>obtain⟨t,rfl⟩:=r;rfl
 |ref _=>cases r;rfl
 |ty _=>cases r;rfl
theorem El {j pos'}(ha:PE X a ta):PC X .Is a (.Constant .none j pos') (uS ta):=by intro pins s σ H Q I h;exact aM (ha pins s σ H _ I h) λv s1 ⟨x,H1,I1,r1,q1⟩=>og (is_none_gen ⟨.bl _,H1,I1,by rw[r1.iN];rfl,q1⟩)
theorem Em {j pos'}(ha:PE X a ta):PC X .IsNot a (.Constant .none j pos') (Ek ta):=by intro pins s σ H Q I h;exact aM (ha pins s σ H _ I h) λv s1 ⟨x,H1,I1,r1,q1⟩=>og (isnot_none_gen ⟨.bl _,H1,I1,by rw[r1.iN];rfl,q1⟩)
def tB (t:TE):TT:=λσ H Q=>t σ H λx H1=>∃c,x=.bl c/\Q c H1
theorem En (h:PC X op a b t)(h1:di op b=false:=by first|exact Ej _ (by decide) (by decide)|rfl):PE X (.Compare a [op] [b] pos) t:=λpins s σ H Q I hw=>wpAny_Compare1 (h pins s σ H Q I hw) h1
theorem Eo (h:PC X op a b t)(f:di op b=false:=by first|exact Ej _ dc dc|rfl):PT X (.Compare a [op] [b] pos) (tB t):=by intro e s g H Q I i;refine mz (aM (h e s g H _ I i) λv o f=>aM f λu p j=>aM j λc r ⟨x,k,l,m,n⟩=>?_) f;obtain⟨d,rfl,q⟩:=n;cases m;exact dj ⟨k,l,q⟩
variable {tA x8:TT}{rest:List Expr}
def z9 (t u:TT):TT:=λσ H Q=>t σ H λc H1=>if c=Z7 then u σ H1 Q else Q Z6 H1
def Ks (t u:TT):TT:=λσ H Q=>t σ H λc H1=>if c=Z7 then Q Z7 H1 else u σ H1 Q
def uT (t:TT):TT:=λσ H Q=>t σ H λc H1=>Q (!c) H1
theorem Kt (ha:PT X a tA):PW X (.BoolOp .And [a] pos) tA:=by
 intro f b s d H Q I h;refine isTrue_and (aM (ha b s d H Q I h) λc g e=>?_);cases c with
 |true=>exact isTrue_and_nil e
 |false=>exact e
theorem Ku (ha:PT X a tA):PW X (.BoolOp .Or [a] pos) tA:=by
 intro f b s d H Q I h;refine isTrue_or (aM (ha b s d H Q I h) λc g e=>?_);cases c with
 |false=>exact isTrue_or_nil e
 |true=>exact e
theorem Kv (ha:PT X a tA)(hb:PW X (.BoolOp .And (b::rest) pos) x8):PW X (.BoolOp .And (a::b::rest) pos) (z9 tA x8):=by
 intro j d s e H Q I h;refine isTrue_and (aM (ha d s e H _ I h) λc k ⟨f,g,i⟩=>?_);cases c with
 |true=>exact hb j d k e f Q g i
 |false=>exact⟨f,g,i⟩
theorem Kw (ha:PT X a tA)(hb:PW X (.BoolOp .Or (b::rest) pos) x8):PW X (.BoolOp .Or (a::b::rest) pos) (Ks tA x8):=by
 intro j d s e H Q I h;refine isTrue_or (aM (ha d s e H _ I h) λc k ⟨f,g,i⟩=>?_);cases c with
 |true=>exact⟨f,g,i⟩
 |false=>exact hb j d k e f Q g i
theorem Ep (ha:PT X a tA):PT X (.UnaryOp .Not a pos) (uT tA):=by intro b s d H Q I h;exact isTrue_not (ha b s d H (λc e=>Q (!c) e) I h)
def Kx (ta tb:TE):TE:=λσ H Q=>ta σ H λx H1=>∃c,x=.bl c/\if c=Z7 then tb σ H1 Q else Q (.bl Z6) H1
def Ab (ta tb:TE):TE:=λσ H Q=>ta σ H λx H1=>∃c,x=.bl c/\if c=Z7 then Q (.bl Z7) H1 else tb σ H1 Q
theorem Er {op}(h:PE X a t):PE X (.BoolOp op [a] pos) t:=λb s c H Q I d=>BoolOp_one (h b s c H Q I d)
theorem Ky (ha:PE X a ta)(hb:PE X (.BoolOp .And (b::rest) pos) tb):PE X (.BoolOp .And (a::b::rest) pos) (Kx ta tb):=by
 intro d s f H Q I h;refine BoolOp_and (aM (ha d s f H _ I h) λv j ⟨x,g,i,k,e⟩=>?_);obtain⟨c,rfl,e⟩:=e;cases k;refine dj ?_;cases c with
 |true=>exact hb d j f g Q i e
 |false=>exact⟨.bl Z6,g,i,rfl,e⟩
theorem Kz (ha:PE X a ta)(hb:PE X (.BoolOp .Or (b::rest) pos) tb):PE X (.BoolOp .Or (a::b::rest) pos) (Ab ta tb):=by
 intro d s f H Q I h;refine BoolOp_or (aM (ha d s f H _ I h) λv j ⟨x,g,i,k,e⟩=>?_);obtain⟨c,rfl,e⟩:=e;cases k;refine dj ?_;cases c with
 |false=>exact hb d j f g Q i e
 |true=>exact⟨.bl Z7,g,i,rfl,e⟩
def Es (t:TT)(ta tb:TE):TE:=λσ H Q=>t σ H λc H1=>if c=Z7 then ta σ H1 Q else tb σ H1 Q
theorem Et (l:PT X c tA)(ha:PE X a ta)(hb:PE X b tb):PE X (.IfExp c a b pos) (Es tA ta tb):=by
 intro e s f H Q I h;refine wpAny_IfExp (aM (l e s f H _ I h) λd g ⟨i,j,k⟩=>?_);cases d with
 |true=>exact ha e g f i Q j k
 |false=>exact hb e g f i Q j k
end
def SqL (K:Z5)(H:Hp)(a:Addr)(xs:List V):Prop:=Rd H a (.lst xs)\/∃(o:Obj) (cC:Array Value) (n:Nat),K.lookup a=Z9 o/\o.cls=.type "list"/\o.dict=Z8/\o.data=.seq cC n/\cC.size<=ay/\Vals xs cC.toList
def cP (K:Z5)(H:Hp)(a:Addr)(xs:List V):Prop:=Rd H a (.tup xs)\/∃(o:Obj) (cC:Array Value) (n:Nat),K.lookup a=Z9 o/\o.cls=.type "tuple"/\o.dict=Z8/\o.data=.seq cC n/\cC.size<=ay/\Vals xs cC.toList
def Ae:Value->Option V
 |.none=>Z9 .non
 |.bool b=>Z9 (.bl b)
 |.int i _=>Z9 (.int i)
 |.str x _=>Z9 (.str x)
 |.ref a=>Z9 (.ref a)
 |.type n=>Z9 (.ty n)
 |_=>Z8
theorem RelV.abs (r:RelV x u):Ae u=Z9 x:=by
 cases x with
 |non=>cases r;rfl
 |bl _=>cases r;rfl
 |int _=>obtain⟨t,rfl⟩:=r;rfl
 |str _=>obtain⟨t,rfl⟩:=r;rfl
 |ref _=>cases r;rfl
 |ty _=>cases r;rfl
theorem RelV.inj (r:RelV x u)(q:RelV y u):x=y:=qg (r.abs.symm.trans q.abs)
theorem Vals.inj:∀{xs ys:List V} {us:List Value},Vals xs us->Vals ys us->xs=ys
 |_,_,_,.nil,.nil=>rfl
 |_,_,_,.cons r t,.cons r' t'=>by rw[r.inj r',Vals.inj t t']
section
variable {X:Cx}{pins:List (Addr×Obj)}{σ:St}{H:Hp}{s:au}{a:Addr}{xs ys:List V}
theorem SqL.of {K:Z5}(h:H a=Z9 (.lst xs)):SqL K H a xs:=.inl (.inl h)
theorem cP.of {K:Z5}(h:H a=Z9 (.tup xs)):cP K H a xs:=.inl (.inl h)
theorem Inv.list (I:Inv X pins σ H s)(h:SqL X.K H a xs):∃b,Vals xs b/\PlainL s.heap a b.toArray/\xs.length<=ay:=by
 rcases h with h|⟨o,b,n,hk,c,hd,hs,d,r⟩
 .obtain⟨z,b,n,r,e⟩:=h.ok I.hok;exact⟨b,r,⟨_,n,e,rfl,rfl,rfl⟩,z⟩
 .refine⟨b.toList,r,⟨o,n,I.eJ a o hk,c,hd,by simpa using hs⟩,?_⟩;have e:=r.length;simp at e;omega
theorem Inv.tuple (I:Inv X pins σ H s)(h:cP X.K H a xs):∃b,Vals xs b/\IsTup s.heap a b.toArray/\xs.length<=ay:=by
 rcases h with h|⟨o,b,n,hk,c,_,hs,d,r⟩
 .obtain⟨z,b,r,p⟩:=h.ok I.hok;exact⟨b,r,p.tup,z⟩
 .refine⟨b.toList,r,⟨o,I.eJ a o hk,c,n,by simpa using hs⟩,?_⟩;have e:=r.length;simp at e;omega
theorem Inv.mO (I:Inv X pins σ H s)(h:SqL X.K H a xs)(i:SqL X.K H a ys):xs=ys:=by
 obtain⟨c,r,⟨o,n,e,_,_,d⟩,_⟩:=I.list h;obtain⟨b,j,⟨k,l,f,_,_,g⟩,_⟩:=I.list i;rw[e]at f;cases f;rw[d]at g;injection g with d1 _;have:c=b:=by simpa using congrArg Array.toList d1
 subst this;exact r.inj j
theorem Inv.kL (I:Inv X pins σ H s)(h:cP X.K H a xs)(i:cP X.K H a ys):xs=ys:=by
 obtain⟨c,r,⟨o,e,_,n,d⟩,_⟩:=I.tuple h;obtain⟨b,j,⟨k,f,_,l,g⟩,_⟩:=I.tuple i;rw[e]at f;cases f;rw[d]at g;injection g with d1 _;have:c=b:=by simpa using congrArg Array.toList d1
 subst this;exact r.inj j
end
abbrev Cx.eP (X:Cx)(E:Value->au->Prop):Cx:={X with xe:=E}
abbrev Cx.uU (X:Cx):Cx:=X.eP λ_ _=>False
theorem Cx.Ok.eP {X:Cx}(ok:X.Ok)(E:Value->au->Prop):(X.eP E).Ok:=⟨ok.mod,ok.kind,ok.glob,ok.blt,ok.above,ok.inj,ok.has,ok.uO,ok.hd,ok.frames,ok.x4,ok.x5,ok.bs,ok.oE,ok.mK,ok.mL,ok.eO,ok.ro,ok.Eh⟩
theorem Cx.Ok.c' {X:Cx}(ok:(X.eP E).Ok):X.Ok:=⟨ok.mod,ok.kind,ok.glob,ok.blt,ok.above,ok.inj,ok.has,ok.uO,ok.hd,ok.frames,ok.x4,ok.x5,ok.bs,ok.oE,ok.mK,ok.mL,ok.eO,ok.ro,ok.Eh⟩
section
variable {X:Cx}{pins:List (Addr×Obj)}{σ:St}{H:Hp}{s:au}{E:Value->au->Prop}
theorem Inv.eP (I:Inv X pins σ H s)(E:Value->au->Prop):Inv (X.eP E) pins σ H s:=⟨I.ok.eP E,I.os,I.bare,I.base,I.loc,I.cell,I.free,I.cZ,I.pin,I.hok,I.len,I.fx⟩
theorem Inv.c' (I:Inv (X.eP E) pins σ H s):Inv X pins σ H s:=⟨I.ok.c',I.os,I.bare,I.base,I.loc,I.cell,I.free,I.cZ,I.pin,I.hok,I.len,I.fx⟩
theorem SP.c' (h:SP (X.eP E) pins D f c):SP X pins D f c:=by
 cases f with
 |next=>obtain⟨a,b,I,q⟩:=h;exact⟨a,b,I.c',q⟩
 |brk=>obtain⟨a,b,I,q⟩:=h;exact⟨a,b,I.c',q⟩
 |cont=>obtain⟨a,b,I,q⟩:=h;exact⟨a,b,I.c',q⟩
 |ret u=>obtain⟨v,a,b,I,r,q⟩:=h;exact⟨v,a,b,I.c',r,q⟩
theorem PSs.uU {st:List Stmt}(h:PSs X.uU st t):PSs X st t:=λpins s σ H D I a=>l7 (h pins s σ H D (I.eP _) a) (λ_ _ q=>q.c') λ_ _ z=>False.elim z
end
section
variable {X:Cx}{st:Stmt}{rest:List Stmt}{t u:TS}{e:Expr}{te:TE}{pos:Pos}
def Eu:TS:=λD σ H=>D.nx σ H
def uV (t u:TS):TS:=λD σ H=>t {D with nx:=u D} σ H
theorem Ew:PSs X [] Eu:=λ_ _ a H _ I h=>mw ⟨a,H,I,h⟩
theorem Ey (c:PS X st t)(d:PSs X rest u):PSs X (st::rest) (uV t u):=by
 intro a s e H D I h;refine wpAny_execs_cons (aM (c a s e H {D with nx:=u D} I h) λf g q=>?_);cases f with
 |next=>obtain⟨b,i,j,q⟩:=q;exact d a g b i D j q
 |ret v=>exact q
 |brk=>exact q
 |cont=>exact q
def KA:TS:=λD σ H=>D.ct σ H
theorem KC:PS X (.Continue pos) KA:=λ_ _ σ H _ I h=>wpAny_Continue ⟨σ,H,I,h⟩
theorem Inv.quiet (I:Inv X a b H s):interactive X.env=false:=by simp[interactive,I.ok.kind]
def uW (te:TE):TS:=λD σ H=>te σ H λ_ H1=>D.nx σ H1
theorem KG (c:PE X e te)(hs:jc e Z8 pos.line X.env=pure false:=by rfl):PS X (.Expr e pos) (uW te):=by intro a s b H D I h;exact wpAny_Expr_any (aM (c a s b H _ I h) λv i ⟨x,d,f,j,g⟩=>⟨b,d,f,g⟩) I.quiet hs
def uX (te:TE):TS:=λD σ H=>te σ H D.rt
theorem Af (c:PE X e te):PS X (.Return (Z9 e) pos) (uX te):=by intro a s b H D I h;exact wpAny_Return_some (aM (c a s b H _ I h) λv j ⟨x,d,f,g,i⟩=>⟨x,b,d,f,g,i⟩)
def uY (c:TT)(t u:TS):TS:=λD σ H=>c σ H λb H1=>if b=Z7 then t D σ H1 else u D σ H1
theorem Ez (l:PT X c tc)(ha:PSs X a t)(hb:PSs X b u):PS X (.If c a b pos) (uY tc t u):=by
 intro e s f H D I h;refine wpAny_If (aM (l e s f H _ I h) λd g ⟨i,j,k⟩=>?_);cases d with
 |true=>exact ha e g f i D j k
 |false=>exact hb e g f i D j k
end
abbrev TG:=V->St->Hp->(St->Hp->Prop)->Prop
abbrev tY:=List V->St->Hp->(St->Hp->Prop)->Prop
def PG (X:Cx)(target:Expr)(t:TG):Prop:=∀(pins:List (Addr×Obj)) (s:au) (σ:St) (H:Hp) (v:V) (u:Value) (Q:St->Hp->Prop),Inv X pins σ H s->RelV v u->t v σ H Q->wpAny (model X.prog X.w) X.A (oo target X.env u) (λ_ s'=>∃bA H',Inv X pins bA H' s'/\Q bA H') X.xe s
def PGs (X:Cx)(ts:List Expr)(t:tY):Prop:=∀(pins:List (Addr×Obj)) (s:au) (σ:St) (H:Hp) (vs:List V) (us:List Value) (Q:St->Hp->Prop),Inv X pins σ H s->Vals vs us->t vs σ H Q->wpAny (model X.prog X.w) X.A (assignInOrder ((eo ts X.env).map (·.2)) us) (λ_ s'=>∃bA H',Inv X pins bA H' s'/\Q bA H') X.xe s
abbrev Ag:=V->V->V->Hp->(Hp->Prop)->Prop
def Ah (X:Cx)(t:Ag):Prop:=∀(pins:List (Addr×Obj)) (s:au) (σ:St) (H:Hp) (o i v:V) (ov iv u:Value) (Q:Hp->Prop),Inv X pins σ H s->RelV o ov->RelV i iv->RelV v u->t o i v H Q->wpAny (model X.prog X.w) X.A (setItem ov iv u) (λ_ s'=>∃H',Inv X pins σ H' s'/\Q H') X.xe s
section
variable {X:Cx}{pos:Pos}
def rq (i:Nat):TG:=λv σ H Q=>Q (σ.set i (Z9 v)) H
theorem EA (hN:X.N.Nodup)(b:X.N[i]?=Z9 x)(hx:Loc X.env.scope x)(hf:Sto X x:=by first|exact⟨.inl rfl,nofun⟩|exact⟨.inr rfl,nofun⟩|assumption):PG X (.Name x pos) (rq i):=by intro a s d H v u Q I r h;exact o3 (z5b I hN b hx r (λe c=>⟨_,H,c,h⟩) hf)
def Ai:tY:=λvs σ H Q=>vs=[]/\Q σ H
def KH (t:TG)(u:tY):tY:=λvs σ H Q=>∃v r,vs=v::r/\t v σ H λbA H'=>u r bA H' Q
theorem KI:PGs X [] Ai:=by
 rintro a s b H c d Q I r ⟨rfl,h⟩
 cases r;exact assignInOrder_nil ⟨b,H,I,h⟩
theorem zgt (c:PG X e t)(d:PGs X es u)
  (hs:(eo (e::es) X.env).map (·.2)=oo e X.env::(eo es X.env).map (·.2):=by rfl):PGs X (e::es) (KH t u):=by
 rintro a s f H l m Q I r ⟨v,n,rfl,h⟩
 cases r with
 |cons r rr=>rw[hs];refine assignInOrder_cons (aM (c a s f H _ _ _ I r h) λ_ g ⟨b,i,j,k⟩=>?_);exact d a g b i _ _ Q j rr k
def Aj (K:Z5)(n:Nat)(t:tY):TG:=λv σ H Q=>∃a xs,v=.ref a/\cP K H a xs/\xs.length=n/\t xs σ H Q
theorem zqv (g:X.calm=Z7)(h:PGs X es t)
  (hn:(eo es X.env).length=n:=by rfl) (d:(eo es X.env).findIdx? (·.1)=none:=by rfl):PG X (.Tuple es k pos) (Aj X.K n t):=by
 rintro c s f H v u Q I r ⟨a,i,rfl,j,hl,l⟩
 cases r;obtain⟨m,rv,ht,w⟩:=I.tuple j;refine assign_Tuple_tuple (I.ok.hd g) ht (by simp[hn,<-hl,rv.length]) d λp hx=>?_;have q:Inv X c f H {s with heap:=p}:=I.kept λb o e=>hx b o (b8 (bd e)) e;exact h c _ f H i _ Q q (by simpa using rv) l
def jC (te:TE)(g:TG):TS:=λD σ H=>te σ H λx H1=>g x σ H1 D.nx
theorem zm0 (d:PE X e f)(i:PG X b g)(hs:oh [b] e pos.line X.env=pure false:=by rfl)(j:oj [b] e X.env=pure none:=by rfl)
  (k:(eo [b] X.env).map (·.2)=[oo b X.env]:=by rfl):PS X (.Assign [b] e pos) (jC f g):=by
 intro a s c H D I h;refine wpAny_Assign_stores (aM (d a s c H _ I h) λv l ⟨x,m,n,o,p⟩=>?_) hs j;rw[k];exact aM (i a l c m x v _ n o p) λ_ r q=>q
theorem z99 (hN:X.N.Nodup)(c:X.N[i]?=Z9 x)(hx:Loc X.env.scope x)(d:PE X e f)(hs:jc e (Z9 (.Name x a)) pos.line X.env=pure false:=by rfl)(hf:Sto X x:=by first|exact⟨.inl rfl,nofun⟩|exact⟨.inr rfl,nofun⟩|assumption):
  PS X (.Assign [.Name x a] e pos) (jC f (rq i)):=by
 intro b s g H D I h;refine wpAny_Assign_Name (aM (d b s g H _ I h) λv o ⟨y,j,k,l,m⟩=>?_) hs;exact z5b k hN c hx l (λp n=>⟨_,j,n,m⟩) hf
end
section
variable {X:Cx}{pos:Pos}
def EB (c:TT)(tb:TS):TS:=λD σ H=>∃W:Nat->St->Hp->Prop,(∃m,W m σ H)/\∀m σ H,W m σ H->c σ H λb H1=>if b=Z7 then ∃N:St->Hp->Prop,(∀bA H',N bA H'->∃m',m'<m/\W m' bA H')/\tb {D with nx:=N,ct:=N,bk:=D.nx} σ H1 else D.nx σ H1
theorem EC {c:Expr}{body:List Stmt}{tc:TT}{tb:TS}(hp:fy (model X.prog X.w) X.A X.env X.xe)(hc:PT X c tc)(hb:PSs X body tb):PS X (.While c body [] pos) (EB tc tb):=by
 intro pins s σ H D I h;obtain⟨W,⟨m0,w0⟩,turn⟩:=h;refine wpAny_While (codeAny_whileLoop (λn s'=>∃bA H',Inv X pins bA H' s'/\W n bA H') ?_ m0 ⟨σ,H,I,w0⟩)
 rintro n s1 ⟨x9,H1,I1,w1⟩
 refine gc hp (aM (hc pins s1 x9 H1 _ I1 (turn n x9 H1 w1)) λb s2 ⟨H2,I2,q2⟩=>?_);cases b with
 |true=>
  obtain⟨N,hN,q2⟩:=q2;rw[qe rfl];refine gc hp (aM (hb pins s2 x9 H2 _ I2 q2) λf s3 q3=>?_);cases f with
  |next=>obtain⟨iE,H3,I3,n3⟩:=q3;obtain⟨m',hm,w3⟩:=hN iE H3 n3;exact⟨m',hm,iE,H3,I3,w3⟩
  |cont=>obtain⟨iE,H3,I3,n3⟩:=q3;obtain⟨m',hm,w3⟩:=hN iE H3 n3;exact⟨m',hm,iE,H3,I3,w3⟩
  |brk=>exact q3
  |ret v=>exact q3
 |false=>rw[qf fj];exact mw ⟨x9,H2,I2,q2⟩
end
structure It where
 go:Nat->Hp->Prop
 kM:Nat->Hp->V->Hp->Prop
 stop:Nat->Hp->Prop
def FpOk (X:Cx)(pins:List (Addr×Obj))(H:Hp)(b:Addr):Prop:=H b=Z8/\b≠X.env.locals/\b∉X.fs/\(b∈X.ex\/X.bP.heap.objs.size<=b)/\(∀x c,X.env.cells.lookup x=Z9 c->c≠b)/\∀p∈X.pn++pins,p.1≠b
theorem Inv.iO (I:Inv X a g H s)(hb:s.heap.objs.size<=b)(hn:d b=Z8):FpOk X a d b:=by
 refine⟨hn,l8 (bo I.lt hb),I.uP hb,.inr (bh I.sz hb),λx c e z=>?_,λp f z=>?_⟩
 .obtain⟨v,q⟩:=I.cell x c e;exact absurd (bo q.lt (z▸hb)) (cy _)
 .exact absurd (bo (bd (I.pin p f).1) (z▸hb)) (cy _)
structure Turn (P:bp)(w:World)(K:Z5)(tg:Expr)(J:It)(fp:List Addr)(it:Addr)(tn:Nat->Heap->Prop):Prop where
 mem:it∈fp
 obj:∀i h,tn i h->∀b∈fp,∃o,h.get? b=Z9 o/\∀v,o.data≠.cell v
 keep:∀i h h',tn i h->(∀b∈fp,∀o,h.get? b=Z9 o->h'.get? b=Z9 o)->tn i h'
 item:∀(X:Cx),X.prog=P->X.w=w->X.K=K->X.calm=Z7->∀(i:Nat) (pins:List (Addr×Obj)) (s:au) (σ:St) (H:Hp) (E:Value->au->Prop),Inv X pins σ H s->(∀b∈fp,FpOk X pins H b)->tn i s.heap->J.go i H->wpAny (model P w) X.A (p5 (.ref it)) (λr s1=>∃u,r=Z9 u/\wpAny (model P w) X.A (gr tg (.ref it) u) (λ_ s2=>∃x H',Inv X pins σ H' s2/\RelV x u/\J.kM i H x H'/\tn (i+1) s2.heap/\∀b∈fp,H' b=Z8) E s1) E s
 done:∀(X:Cx),X.prog=P->X.w=w->X.K=K->X.calm=Z7->∀(i:Nat) (pins:List (Addr×Obj)) (s:au) (σ:St) (H:Hp) (E:Value->au->Prop),Inv X pins σ H s->(∀b∈fp,FpOk X pins H b)->tn i s.heap->J.stop i H->wpAny (model P w) X.A (p5 (.ref it)) (λr s1=>r=Z8/\Inv X pins σ H s1) E s
 self:∀(A:d9) (i:Nat) (s:au) (Q:Value->au->Prop) (E:Value->au->Prop),tn i s.heap->Q (.ref it) s->wpAny (model P w) A (p6 (.ref it)) Q E s
abbrev TI:=St->Hp->(It->Hp->Prop)->Prop
def rA (X:Cx)(pins:List (Addr×Obj))(σ:St)(tg:Expr)(R:It->Hp->Prop)(uZ:Value)(s2:au):Prop:=∃(it:Addr) (fp:List Addr) (tn:Nat->Heap->Prop) (J:It) (H':Hp),uZ=.ref it/\Inv X pins σ H' s2/\Turn X.prog X.w X.K tg J fp it tn/\tn 0 s2.heap/\(∀b∈fp,FpOk X pins H' b)/\R J H'
def PI (X:Cx)(tg iter:Expr)(wi:TI):Prop:=∀(pins:List (Addr×Obj)) (s:au) (σ:St) (H:Hp) (R:It->Hp->Prop),Inv X pins σ H s->wi σ H R->wpAny (model X.prog X.w) X.A (eval iter X.env) (λv s1=>wpAny (model X.prog X.w) X.A (p6 v) (rA X pins σ tg R) X.xe s1) X.xe s
theorem z7z (ho:s.heap.get? b=Z9 o)(c:o.cls=.type n)(hd:o.data=.fields d)
  (hn:["enumerate","zip","dict_itemiterator","dict_reverseitemiterator","odict_iterator","itertools.zip_longest","itertools.pairwise"].contains n=Z6) (a:Q () s):wpAny M A (gr e (.ref b) u) Q E s:=by
 cases e<;>first
  |exact az a
  |(cases u<;>first
   |exact az a
   |(refine ae (wpAny_load ho ?_)
     rw[c,hd];show wpAny M A (if(["enumerate","zip","dict_itemiterator","dict_reverseitemiterator","odict_iterator","itertools.zip_longest","itertools.pairwise"].contains n&&d[0]?==Z9 (l9 _))=Z7 then _ else _) Q E s;rw[qf (by intro h;rw[hn]at h;cases h)];exact az a))
def Al (K:Z5)(a:Addr):It:=⟨λi H=>∃xs x,SqL K H a xs/\xs[i]?=Z9 x,λi H x H'=>H'=H/\∀xs,SqL K H a xs->xs[i]?=Z9 x,λi H=>∃xs,SqL K H a xs/\xs.length<=i⟩
def ED (K:Z5)(a:Addr):It:=⟨λi H=>∃xs x,cP K H a xs/\xs[i]?=Z9 x,λi H x H'=>H'=H/\∀xs,cP K H a xs->xs[i]?=Z9 x,λi H=>∃xs,cP K H a xs/\xs.length<=i⟩
def va (lo:Int)(n:Nat):It:=⟨λi _=>i<n,λi H x H'=>H'=H/\x=.int (lo+i),λi _=>n<=i⟩
theorem EE {K:Z5}(a g:Addr):Turn P w K U (Al K a) [g] g (λi h=>h.IsListIter g a i) where
 mem:=by simp
 obj:=λi h st b hb=>by
  have e:b=g:=by simpa using hb
  subst e;obtain⟨o,e,c,d⟩:=st;exact⟨o,e,λv z=>by rw[d]at z;cases z⟩
 keep:=λi h m st k=>st.at λo e=>k g (by simp) o e
 item:=by intro X n q r G i f s J H E I hf st t;subst n q r;obtain⟨L,x,l,hx⟩:=t;obtain⟨y,rv,p,M⟩:=I.list l;obtain⟨u,hu,N⟩:=rv.get hx;obtain⟨A,B,O,C,D,F⟩:=hf g (by simp);refine wpAny_pyNext_list_item st p.isList (by simpa using hu) λm j Q=>?_;have R:Inv X f J H {s with heap:=m}:=I.turned (λb o hb e=>(Q.2 b hb).trans e) A B C D F;obtain⟨o,e,c,d⟩:=id j;exact⟨u,rfl,z7z e c d (by decide) ⟨x,H,R,N,⟨rfl,λV S=>by rw[I.mO S l];exact hx⟩,j,λb hb=>(hf b hb).1⟩⟩
 done:=by intro X n q r G i f s J H E I hf st t;subst n q r;obtain⟨L,l,hx⟩:=t;obtain⟨y,rv,p,M⟩:=I.list l;obtain⟨A,B,O,C,D,F⟩:=hf g (by simp);have hl:=rv.length;exact wpAny_pyNext_list_end (I.ok.hd G) st p.isList (by grind) λm T=>⟨rfl,I.turned (λb o hb e=>T b o hb e) A B C D F⟩
 self:=λ_ _ _ _ _ st h=>wpAny_pyIter_listiter st h
theorem KJ {K:Z5}(a g:Addr):Turn P w K U (ED K a) [g] g (λi h=>h.IsTupleIter g a i) where
 mem:=by simp
 obj:=λi h st b hb=>by
  have e:b=g:=by simpa using hb
  subst e;obtain⟨o,e,c,d⟩:=st;exact⟨o,e,λv z=>by rw[d]at z;cases z⟩
 keep:=λi h m st k=>st.at λo e=>k g (by simp) o e
 item:=by intro X n q r G i f s J H E I hf st t;subst n q r;obtain⟨L,x,l,hx⟩:=t;obtain⟨y,rv,p,M⟩:=I.tuple l;obtain⟨u,hu,N⟩:=rv.get hx;obtain⟨A,B,O,C,D,F⟩:=hf g (by simp);refine wpAny_pyNext_tuple_item st p (by simpa using hu) λm j Q=>?_;have R:Inv X f J H {s with heap:=m}:=I.turned (λb o hb e=>(Q.2 b hb).trans e) A B C D F;obtain⟨o,e,c,d⟩:=id j;exact⟨u,rfl,z7z e c d (by decide) ⟨x,H,R,N,⟨rfl,λV S=>by rw[I.kL S l];exact hx⟩,j,λb hb=>(hf b hb).1⟩⟩
 done:=by intro X n q r G i f s J H E I hf st t;subst n q r;obtain⟨L,l,hx⟩:=t;obtain⟨y,rv,p,M⟩:=I.tuple l;obtain⟨A,B,O,C,D,F⟩:=hf g (by simp);have hl:=rv.length;exact wpAny_pyNext_tuple_end (I.ok.hd G) st p (by grind) λm T=>⟨rfl,I.turned (λb o hb e=>T b o hb e) A B C D F⟩
 self:=λ_ _ _ _ _ st h=>wpAny_pyIter_tupleiter st h
theorem KN {K:Z5}(a:Addr)(f:Int)(n:Nat):Turn P w K L (va f n) [a] a (λi h=>IsRangeIter h a (f+(i:Nat)*1) ((n:Int)-(i:Nat)) 1) where
 mem:=by simp
 obj:=λi h st b hb=>by
  have e:b=a:=by simpa using hb
  subst e;exact⟨_,st,λv z=>by cases z⟩
 keep:=λi h g st k=>k a (by simp) _ st
 item:=by intro X x y A j i c s B H E I hf st l;subst x y A;obtain⟨m,p,C,q,r,u⟩:=hf a (by simp);refine(Walks.range (prog:=X.prog) (w:=X.w) (I.ok.hd j) a f 1 n).item i s _ _ l st λv g D F d kk=>?_;obtain⟨t,rfl⟩:=F;have G:Inv X c B H {s with heap:=g,toks:=D}:=I.turned (λb o hb e=>kk b o (by simpa using hb) e) m p q r u;refine⟨_,rfl,z7z d rfl rfl (by decide) ⟨.int (f+i),H,G,⟨t,?_⟩,⟨rfl,rfl⟩,d,λb hb=>(hf b hb).1⟩⟩;rw[Int.mul_one]
 done:=by intro X x y A j i c s B H E I hf st l;obtain⟨m,p,C,q,r,u⟩:=hf a (by simp);exact wpAny_pyNext_range_end (I.ok.hd j) st (by have:n<=i:=l;omega) λg J=>⟨rfl,I.turned (λb o hb e=>J b o hb e) m p q r u⟩
 self:=λ_ _ _ _ _ st h=>wpAny_pyIter_rangeiter st h
section
variable {X:Cx}{tg:Expr}
def vb (K:Z5)(tl:TE):TI:=λσ H R=>tl σ H λx H1=>∃a,x=.ref a/\(∃xs,SqL K H1 a xs)/\R (Al K a) H1
theorem KO (hl:PE X l tl):PI X tg l (vb X.K tl):=by
 intro c s g H R I h;refine aM (hl c s g H _ I h) λv f ⟨x,i,d,j,k⟩=>?_;obtain⟨a,rfl,⟨r,m⟩,q⟩:=k;cases j;obtain⟨n,rv,p,t⟩:=d.list m;refine jl p.isList (⟨f.heap.objs.size,[f.heap.objs.size],_,_,i,rfl,d.kept λb o e=>ak _ e,EE a _,⟨_,a7 _ rfl,rfl,rfl⟩,λb hb=>?_,q⟩);have e:b=f.heap.objs.size:=by simpa using hb
 subst e;exact d.iO (ah _) (d.hok.fresh (ah _))
theorem z8s {a:Int}(I:Inv X d g H s)(h:-(2 ^ 62)<=a)(i:a<2 ^ 62)(j:-(2 ^ 62)<=c)(k:c<2 ^ 62)
  (q:R (va a (c-a).toNat) H):wpAny (model X.prog X.w) X.A (p6 (.ref s.heap.objs.size)) (rA X d g tg R) E {s with heap:=s.heap.push {cls:=.type "range",data:=.fields #[.int a t,.int c u,.int 1 v]},toks:=tk}:=by
 refine wpAny_pyIter_range (IsRange.new ..) (small_one h i j k) ?_;have f:Inv X d g H {s with heap:=s.heap.push {cls:=.type "range",data:=.fields #[.int a t,.int c u,.int 1 v]},toks:=tk}:=I.kept λb o e=>ak _ e;refine⟨(s.heap.push {cls:=.type "range",data:=.fields #[.int a t,.int c u,.int 1 v]}).objs.size,[(s.heap.push {cls:=.type "range",data:=.fields #[.int a t,.int c u,.int 1 v]}).objs.size],_,_,H,rfl,f.kept λb o e=>ak _ e,KN _ a (c-a).toNat,?_,λb hb=>?_,q⟩
 .have l:a+((0:Nat):Int)*1=a:=by simp
  have m:(((c-a).toNat:Nat):Int)-((0:Nat):Int)=Builtin.Range.rangeSize a c 1:=by rw[rangeSize_one];split<;>omega
  rw[l,m];exact a7 _ rfl
 .have e:b=(s.heap.push {cls:=.type "range",data:=.fields #[.int a t,.int c u,.int 1 v]}).objs.size:=by simpa using hb
  subst e;exact f.iO (ah _) (f.hok.fresh (ah _))
def KP (ta:TA):TI:=λσ H R=>ta σ H λvs H1=>∃j:Int,vs=[.int j]/\-(2 ^ 62)<=j/\j<2 ^ 62/\R (va 0 j.toNat) H1
def KQ (ta:TA):TI:=λσ H R=>ta σ H λvs H1=>∃i j:Int,vs=[.int i,.int j]/\(-(2 ^ 62)<=i/\i<2 ^ 62/\-(2 ^ 62)<=j/\j<2 ^ 62)/\R (va i (j-i).toNat) H1
theorem KR (d:Gl X "range")(hm:X.mg "range"=Z8)(ha:PA X [a] e)(hs:b7 [a] X.env=[(Z6,eval a X.env)]:=by rfl):PI X tg (.Call (.Name "range" p) [a] [] pos) (KP e):=by
 intro b s f H R I h;refine Call_ (z2m I d hm boot_range (PyProof.Rows.callWith_type1 (aM (ha pos b s f H _ I h) λl m ⟨n,o,g,i,c⟩=>?_) hs rfl));obtain⟨j,rfl,c,k,q⟩:=c;cases i with
 |cons r rr=>cases rr;obtain⟨t,rfl⟩:=r;exact call_range_1 (z8s g (by omega) (by omega) c k (by simpa using q))
theorem zc3 (f:Gl X "range")(hm:X.mg "range"=Z8)(ha:PA X [a,b] g)(hs:b7 [a,b] X.env=[(Z6,eval a X.env),(Z6,eval b X.env)]:=by rfl)(c:b7 [b] X.env=[(Z6,eval b X.env)]:=by rfl):
  PI X tg (.Call (.Name "range" p) [a,b] [] pos) (KQ g):=by
 intro d s k H R I h;refine Call_ (z2m I f hm boot_range (PyProof.Rows.callWith_type1 (aM (ha pos d s k H _ I h) λw x ⟨y,z,l,m,e⟩=>?_) (by rw[hs,c]) (by rw[c];rfl)));obtain⟨i,j,rfl,⟨e,n,o,u⟩,q⟩:=e;cases m with
 |cons r rr=>
  cases rr with
  |cons v rr=>cases rr;obtain⟨t,rfl⟩:=r;obtain⟨A,rfl⟩:=v;exact call_range_2 (z8s l e n o u q)
def jD (wi:TI)(g:TG)(tb:TS):TS:=λD σ H=>wi σ H λJ H1=>∃W:Nat->Nat->St->Hp->Prop,(∃m,W 0 m σ H1)/\∀i m σ H,W i m σ H->(J.stop i H/\D.nx σ H)\/(J.go i H/\∃N:St->Hp->Prop,(∀bA H',N bA H'->∃m',m'<m/\W (i+1) m' bA H')/\∀x H',J.kM i H x H'->g x σ H' λkN H2=>tb {D with nx:=N,ct:=N,bk:=D.nx} kN H2)
def z6u (fp:List Addr)(h:Heap):List (Addr×Obj):=fp.filterMap λb=>(h.get? b).map λo=>(b,o)
theorem ya (hb:b∈a)(e:h.get? b=Z9 o):(b,o)∈z6u a h:=oq.mpr ⟨b,hb,by rw[e];rfl⟩
theorem KS (a:p∈z6u c h):p.1∈c/\h.get? p.1=Z9 p.2:=by
 obtain⟨b,hb,e⟩:=oq.mp a;cases q:h.get? b with
 |none=>rw[q]at e;cases e
 |some o=>rw[q]at e;have d:=qg e;subst d;exact⟨hb,q⟩
theorem Inv.pinned (I:Inv X a g H s)(hf:∀b∈c,FpOk X a H b)(ho:∀b∈c,∃o,s.heap.get? b=Z9 o/\∀v,o.data≠.cell v):Inv X (a++z6u c s.heap) g H s:=I.gX λp h=>(a8.mp h).elim (λz=>I.pin p (ba _ z)) λz=>by obtain⟨hb,e⟩:=KS z;obtain⟨i,j,k,_⟩:=hf p.1 hb;obtain⟨o,f,d⟩:=ho p.1 hb;rw[e]at f;cases f;exact⟨e,i,j,k,d⟩
theorem Inv.dA (I:Inv X (a++pl) b H s):Inv X a b H s:=I.gX λp c=>I.pin p (ba _ (de _ c))
theorem zc0 (C:fy (model X.prog X.w) X.A X.env X.xe)(U:X.calm=Z7)(hi:PI X tg y wi)(hg:PG X tg g)(hb:PSs X E tb)
  (hs:∀x,ef y X.env x=pure x:=by intro _;rfl):PS X (.For tg y E [] pos) (jD wi g tb):=by
 intro a s V H D I h;refine wpAny_For (aM (hi a s V H _ I h) λv s1 h1=>aM h1 λuZ s2 h2=>?_) hs;obtain⟨it,F,tn,J,H2,rfl,I2,T,P,Y,W,⟨m0,w0⟩,G⟩:=h2;have j:∀{t:Hp},(∀b∈F,t b=Z8)->∀b∈F,FpOk X a t b:=λhn b hb=>⟨hn b hb,(Y b hb).2⟩;refine codeAny_forLoop_any (λn s'=>∃i k t,Inv X a k t s'/\tn i s'.heap/\(∀b∈F,t b=Z8)/\W i n k t) ?_ m0 ⟨0,V,H2,I2,P,λb hb=>(Y b hb).1,w0⟩
 rintro n s3 ⟨i,iE,O,I3,K,L,w3⟩
 rcases G i n iE O w3 with⟨stop,qn⟩|⟨go,N,hN,step⟩
 .refine gc C (aM (T.done X rfl rfl rfl U i a s3 iE O X.xe I3 (j L) K stop) λr s4 ⟨hr,I4⟩=>?_);subst hr;exact mw ⟨iE,O,I4,qn⟩
 .refine gc C (aM (T.item X rfl rfl rfl U i a s3 iE O X.xe I3 (j L) K go) λr s4 ⟨u,hr,h4⟩=>?_);subst hr;refine gc C (aM h4 λ_ s5 ⟨x,H5,I5,r5,y5,B,Q⟩=>?_);refine gc C (aM (hg _ s5 iE H5 x u _ (I5.pinned (j Q) (T.obj _ _ B)) r5 (step x H5 y5)) λ_ s6 ⟨R,H6,I6,q6⟩=>?_);refine gc C (aM (hb _ s6 R H6 _ I6 q6) λf S z=>?_);have l:∀{c:St} {p:Hp},Inv X (a++z6u F s5.heap) c p S->N c p->∃m,m<n/\∃i k t,Inv X a k t S/\tn i S.heap/\(∀b∈F,t b=Z8)/\W i m k t:=λ{c p} q M=>by obtain⟨m',hm,w7⟩:=hN c p M;refine⟨m',hm,i+1,c,p,q.dA,T.keep _ _ _ B λb hb o e=>(q.pin (b,o) (ba _ (ba _ (ya hb e)))).1,λb hb=>?_,w7⟩;obtain⟨o,e,d⟩:=T.obj _ _ B b hb;exact(q.pin (b,o) (ba _ (ba _ (ya hb e)))).2.1
  cases f with
  |next=>obtain⟨c,p,q,M⟩:=z;exact l q M
  |cont=>obtain⟨c,p,q,M⟩:=z;exact l q M
  |brk=>obtain⟨c,p,q,z⟩:=z;exact⟨c,p,q.dA,z⟩
  |ret v=>obtain⟨x7,c,p,q,r7,z⟩:=z;exact⟨x7,c,p,q.dA,r7,z⟩
end
abbrev R2:=V->V->Hp->VK->Prop
def OpR (X:Cx)(f:Value->Value->Sem Value)(r:R2):Prop:=∀(pins:List (Addr×Obj)) (s:au) (σ:St) (H:Hp) (x y:V) (v u:Value) (Q:VK),Inv X pins σ H s->RelV x v->RelV y u->r x y H Q->wpAny (model X.prog X.w) X.A (f v u) (EP X pins σ Q) X.xe s
def Am (X:Cx)(f:Value->Sem Value)(r:V->Hp->VK->Prop):Prop:=∀(pins:List (Addr×Obj)) (s:au) (σ:St) (H:Hp) (x:V) (v:Value) (Q:VK),Inv X pins σ H s->RelV x v->r x H Q->wpAny (model X.prog X.w) X.A (f v) (EP X pins σ Q) X.xe s
def CallR (X:Cx)(f:Value)(r:List V->Hp->VK->Prop):Prop:=∀(pins:List (Addr×Obj)) (s:au) (σ:St) (H:Hp) (xs:List V) (us:List Value) (Q:VK),Inv X pins σ H s->Vals xs us->r xs H Q->wpAny (model X.prog X.w) X.A (call f us) (EP X pins σ Q) X.xe s
def An (X:Cx)(r:V->Hp->(Bool->Hp->Prop)->Prop):Prop:=∀(pins:List (Addr×Obj)) (s:au) (σ:St) (H:Hp) (x:V) (v:Value) (Q:Bool->Hp->Prop),Inv X pins σ H s->RelV x v->r x H Q->wpAny (model X.prog X.w) X.A (truthy v) (TP X pins σ Q) X.xe s
def lR (r:R2)(ta tb:TE):TE:=λσ H Q=>ta σ H λx H1=>tb σ H1 λy H2=>r x y H2 Q
def KU (r:V->Hp->VK->Prop)(ta:TE):TE:=λσ H Q=>ta σ H λx H1=>r x H1 Q
def rI (C:Int->Int->Prop)(g:Int->Int->V):R2:=λx y H Q=>∃i j,x=.int i/\y=.int j/\C i j/\Q (g i j) H
def lS (g:Int->Int->V):R2:=λx y H Q=>∃i j,x=.int i/\y=.int j/\Q (g i j) H
def rU (g:Int->V):V->Hp->VK->Prop:=λx H Q=>∃i,x=.int i/\Q (g i) H
section
variable {X:Cx}{a b c:Expr}{ta tb tc:TE}{pos:Pos}
theorem binT (ha:PE X a ta)(hb:PE X b tb){R:V->V->Hp->Prop}(I:Inv X pins d H s)
  (h:ta d H λx j=>tb d j λy c=>R x y c) {f:Value->Value->Sem Value}
  (hf:∀v u i x y c,Inv X pins d c i->RelV x v->RelV y u->R x y c->wpAny (model X.prog X.w) X.A (f v u) Q X.xe i):
  wpAny (model X.prog X.w) X.A (eval a X.env) (λv e=>wpAny (model X.prog X.w) X.A (eval b X.env) (λu g=>wpAny (model X.prog X.w) X.A (f v u) Q X.xe g) X.xe e) X.xe s:=by
 exact aM (ha pins s d H _ I h) λv k ⟨x,j,l,m,n⟩=>aM (hb pins k d j _ l n) λu i ⟨y,c,o,p,q⟩=>hf v u i x y c o m p q
theorem EF (ho:OpR X (fm op) r)(ha:PE X a ta)(hb:PE X b tb):PE X (.BinOp a op b pos) (lR r ta tb):=by intro c s d H Q I h;exact wpAny_BinOp (binT ha hb I h λv u e x y f g i j q=>ho c e d f x y v u Q g i j q)
theorem KW {op:UnaryOp}{r:V->Hp->VK->Prop}(ho:Am X (unaryOp op) r)(ha:PE X a ta):PE X (.UnaryOp op a pos) (KU r ta):=by intro pins s σ H Q I h;exact UnaryOp_ (aM (ha pins s σ H _ I h) λv s1 ⟨x,H1,I1,r1,q1⟩=>ho pins s1 σ H1 x v Q I1 r1 q1)
theorem opI {g:Int->Int->Int}
  (a:∀i j t u s Q E,C i j->Q (.int (g i j) s.toks) {s with toks:=s.toks+1}->wpAny (model X.prog X.w) X.A (f (.int i t) (.int j u)) Q E s):
  OpR X f (rI C λi j=>.int (g i j)):=by
 rintro b s k H x y v u Q I c d ⟨i,j,rfl,rfl,e,q⟩
 obtain⟨t,rfl⟩:=c;obtain⟨h,rfl⟩:=d;exact a i j t h s _ _ e ⟨.int (g i j),H,I.tok _,⟨_,rfl⟩,q⟩
theorem opI0 {g:Int->Int->Int}
  (a:∀i j t u s Q E,Q (.int (g i j) s.toks) {s with toks:=s.toks+1}->wpAny (model X.prog X.w) X.A (f (.int i t) (.int j u)) Q E s):
  OpR X f (lS λi j=>.int (g i j)):=by
 rintro b s h H x y v u Q I c d ⟨i,j,rfl,rfl,q⟩
 obtain⟨t,rfl⟩:=c;obtain⟨e,rfl⟩:=d;exact a i j t e s _ _ ⟨.int (g i j),H,I.tok _,⟨_,rfl⟩,q⟩
theorem opB0 {g:Int->Int->Bool}
  (a:∀i j t u s Q E,Q (.bool (g i j)) s->wpAny (model X.prog X.w) X.A (f (.int i t) (.int j u)) Q E s):
  OpR X f (lS λi j=>.bl (g i j)):=by
 rintro b s h H x y v u Q I c d ⟨i,j,rfl,rfl,q⟩
 obtain⟨t,rfl⟩:=c;obtain⟨e,rfl⟩:=d;exact a i j t e s _ _ ⟨.bl (g i j),H,I,rfl,q⟩
def Ao (i j:Int):Prop:=0<=j/\j<=1000000/\i.natAbs<2 ^ 64
def rB (i j:Int):Prop:=(-(2 ^ 64)<i/\i<2 ^ 64)\/(-(2 ^ 64)<j/\j<2 ^ 64)
theorem rB.ok (h:rB i j):IntMulOk i j:=by
 rcases h with⟨a,b⟩|⟨a,b⟩
 .exact .of_left (intBits_le_64 a b)
 .exact .of_right (intBits_le_64 a b)
theorem KY:OpR X (fm .Add) (lS λi j=>.int (i+j)):=opI0 λ_ _ _ _ _ _ _ q=>add_int q
theorem KZ:OpR X (fm .Sub) (lS λi j=>.int (i-j)):=opI0 λ_ _ _ _ _ _ _ q=>sub_int q
theorem K0:OpR X (fm .Mult) (rI rB λi j=>.int (i*j)):=opI λ_ _ _ _ _ _ _ a q=>mul_int q a.ok
theorem K1:OpR X (fm .Mod) (rI (λ_ j=>0<j) λi j=>.int (i%j)):=opI λi j _ _ _ _ _ a q=>by exact mod_int' (by omega) (by rw[Int.fmod_eq_emod_of_nonneg i (by omega)];exact q)
theorem K2:OpR X (fm .Pow) (rI Ao λi j=>.int (i ^ j.toNat)):=opI λ_ _ _ _ _ _ _ a q=>pow_int_small a.1 a.2.1 a.2.2 q
theorem unI {f:Value->Sem Value}{g:Int->Int}
  (rule:∀(i:Int) (t:Tok) (s:au) (Q:Value->au->Prop) (E:Value->au->Prop),Q (.int (g i) s.toks) {s with toks:=s.toks+1}->wpAny (model X.prog X.w) X.A (f (.int i t)) Q E s):
  Am X f (rU λi=>.int (g i)):=by
 intro pins s σ H x v Q I rx h;obtain⟨i,rfl,q⟩:=h;obtain⟨t,rfl⟩:=rx;exact rule i t s _ _ ⟨.int (g i),H,I.tok _,⟨_,rfl⟩,q⟩
theorem K3:Am X (unaryOp .USub) (rU λi=>.int (-i)):=unI λ_ _ _ _ _ q=>neg_int q
end
section
variable {X:Cx}{a b c:Expr}{ta tb tc:TE}{pos:Pos}
theorem K4 (I:Inv X pins σ H s)(q:Q (.bl k) H)(e:k=k'):EP X pins σ Q (.bool k') s:=by subst e;exact⟨.bl k,H,I,rfl,q⟩
theorem K5:OpR X (cq .Lt) (lS λi j=>.bl (decide (i<j))):=opB0 λ_ _ _ _ _ _ _ q=>lt_int q
theorem K6:OpR X (cq .LtE) (lS λi j=>.bl (decide (i<=j))):=opB0 λ_ _ _ _ _ _ _ q=>le_int q
theorem K7:OpR X (cq .Gt) (lS λi j=>.bl (decide (j<i))):=opB0 λ_ _ _ _ _ _ _ q=>gt_int q
theorem K8:OpR X (cq .Lt) (λx y H Q=>∃i j,x=.str i/\y=.str j/\Q (.bl (decide (i.cps.toList<j.cps.toList))) H):=by intro pins s σ H x y v u Q I rx ry h;obtain⟨i,j,rfl,rfl,q⟩:=h;obtain⟨t,rfl⟩:=rx;obtain⟨t',rfl⟩:=ry;exact lt_str (K4 I q rfl)
theorem OpR.or (h:OpR X f r)(e:OpR X f g):OpR X f (λx y H Q=>r x y H Q\/g x y H Q):=by
 intro a s b H x y v u Q I c d q;rcases q with q|q
 .exact h a s b H x y v u Q I c d q
 .exact e a s b H x y v u Q I c d q
theorem K9 (ho:OpR X (cq op) r)(ha:PE X a ta)(hb:PE X b tb)(hm:di op b=Z6):PE X (.Compare a [op] [b] pos) (lR r ta tb):=by intro c s d H Q I h;exact wpAny_Compare1 (binT ha hb I h λv u e x y f g i j q=>ho c e d f x y v u Q g i j q) hm
def vc (t:TE):TT:=λσ H Q=>t σ H λx H'=>∃k,x=.bl k/\Q k H'
theorem EG (ho:OpR X (cq op) r)(ha:PE X a ta)(hb:PE X b tb)(hm:di op b=Z6):PT X (.Compare a [op] [b] pos) (vc (lR r ta tb)):=by intro d s f H Q I h;refine mz (aM (ha d s f H _ I h) λv g ⟨x,i,j,l,m⟩=>aM (hb d g f i _ j m) λu n ⟨y,o,p,q,t⟩=>aM (ho d n f o x y v u _ p l q t) λc C ⟨z,w,A,r3,k,e,B⟩=>?_) hm;subst e;cases r3;exact dj ⟨w,A,B⟩
def Ap (r r':R2)(ta tb tc:TE):TE:=λσ H Q=>ta σ H λx H1=>tb σ H1 λy H2=>r x y H2 λz H3=>∃k,z=.bl k/\(if k=Z7 then tc σ H3 λw' H4=>r' y w' H4 Q else Q (.bl Z6) H3)
theorem zff {op op':CmpOp}{r r':R2}(ho:OpR X (cq op) r)(ho':OpR X (cq op') r')(ha:PE X a ta)(hb:PE X b tb)(hc:PE X c tc)
  (hm:ls [op,op'] [b,c]=false:=by with_unfolding_all rfl):PE X (.Compare a [op,op'] [b,c] pos) (Ap r r' ta tb tc):=by
 intro pins s σ H Q I h;refine Compare_chain (aM (ha pins s σ H _ I h) λv s1 ⟨x,H1,I1,r1,q1⟩=>chain_link (aM (hb pins s1 σ H1 _ I1 q1) λu s2 ⟨y,H2,I2,r2,q2⟩=>aM (ho pins s2 σ H2 x y v u _ I2 r1 r2 q2) λd s3 ⟨z,H3,I3,r3,k,e,q3⟩=>?_)) hm;subst e;cases r3;refine dj ?_;cases k with
 |false=>exact ite_ff ⟨.bl Z6,H3,I3,rfl,q3⟩
 |true=>exact ite_tt (chain_last (aM (hc pins s3 σ H3 _ I3 q3) λw' s4 ⟨z',H4,I4,r4,q4⟩=>ho' pins s4 σ H4 y z' u w' Q I4 r2 r4 q4))
theorem zgx {op op':CmpOp}{r r':R2}(ho:OpR X (cq op) r)(ho':OpR X (cq op') r')(ha:PE X a ta)(hb:PE X b tb)(hc:PE X c tc)
  (hm:ls [op,op'] [b,c]=false:=by with_unfolding_all rfl):PT X (.Compare a [op,op'] [b,c] pos) (vc (Ap r r' ta tb tc)):=by
 intro pins s σ H Q I h;refine isTrue_chain (aM (ha pins s σ H _ I h) λv s1 ⟨x,H1,I1,r1,q1⟩=>test_link (aM (hb pins s1 σ H1 _ I1 q1) λu s2 ⟨y,H2,I2,r2,q2⟩=>aM (ho pins s2 σ H2 x y v u _ I2 r1 r2 q2) λd s3 ⟨z,H3,I3,r3,k,e,q3⟩=>?_)) hm;subst e;cases r3;refine dj ?_;cases k with
 |false=>obtain⟨k',e',q'⟩:=q3;cases e';exact ite_ff ⟨H3,I3,q'⟩
 |true=>refine ite_tt (test_last (aM (hc pins s3 σ H3 _ I3 q3) λw' s4 ⟨z',H4,I4,r4,q4⟩=>aM (ho' pins s4 σ H4 y z' u w' _ I4 r2 r4 q4) λd' s5 ⟨z2,H5,I5,r5,k2,e2,q5⟩=>?_));subst e2;cases r5;exact dj ⟨H5,I5,q5⟩
def oS (K:Z5)(x:V)(H:Hp)(k:Bool):Prop:=
 match x with
 |.non=>k=Z6
 |.bl b=>k=b
 |.int i=>k=(i != 0)
 |.str y=>y.length<=ay/\k=((y.length:Int) != 0)
 |.ref p=>(∃xs,SqL K H p xs/\k=!xs.isEmpty)\/(∃xs,cP K H p xs/\k=!xs.isEmpty)\/∃kvs,H p=Z9 (.dK kvs)/\k=!kvs.isEmpty
 |_=>False
theorem K' (r:KV kvs vs):(!vs.isEmpty)=!kvs.isEmpty:=by cases r<;>rfl
theorem EH (r:Vals xs cC):(!cC.toArray.isEmpty)=!xs.isEmpty:=by cases r<;>simp
theorem rC:(ay:Nat)<2 ^ 63:=by rw[bz];decide
theorem EI:An X (λx H Q=>∃k,oS X.K x H k/\Q k H):=by
 rintro g s o H x v Q I d ⟨k,e,q⟩
 have hl:=rC;cases x with
 |non=>cases d;have a:=e;subst a;exact truthy_none ⟨H,I,q⟩
 |bl b=>cases d;have a:=e;subst a;exact dj ⟨H,I,q⟩
 |int i=>obtain⟨t,rfl⟩:=d;have a:=e;subst a;exact PySem.P.truthy_int ⟨H,I,q⟩
 |str y=>obtain⟨t,rfl⟩:=d;obtain⟨u,rfl⟩:=e;exact PySem.P.truthy_str (by omega) ⟨H,I.tok _,q⟩
 |ref p=>
  cases d;have a:=e;rcases a with⟨j,hx,a⟩|⟨j,hx,a⟩|⟨l,hx,a⟩
  .subst a;obtain⟨f,r,pl,h⟩:=I.list hx;have c:=r.length;exact wpAny_truthy_list pl.isList (by grind) ⟨H,I.tok _,by rw[EH r];exact q⟩
  .subst a;obtain⟨f,r,pl,h⟩:=I.tuple hx;have c:=r.length;exact truthy_tuple pl (by grind) ⟨H,I.tok _,by rw[EH r];exact q⟩
  .subst a;obtain⟨h,n,w,r,m⟩:=I.hok p _ hx;have c:=Paired.length r;exact wpAny_truthy_dict n m (by omega) ⟨H,I.tok _,by rw[K' r];exact q⟩
 |_=>exact e.elim
theorem z8r (ha:PE X a ta)(f:∀b,p4 a X.env b=(do let v <-b;standAt a.pos;holding [v] (truthy v))):
  PT X a (λd H Q=>ta d H λx e=>∃k,oS X.K x e k/\Q k e):=by
 intro c s d H Q I h;exact isTrue_plain (aM (ha c s d H _ I h) λv g ⟨x,i,j,l,m⟩=>EI c g d i x v Q j l m) (f _)
theorem La:OpR X (fm .Add) (λx y H Q=>∃i j,x=.str i/\y=.str j/\i.length+j.length<=ay/\Q (.str (i++j)) H):=by
 rintro a s f H x y v u Q I b c ⟨i,j,rfl,rfl,d,q⟩
 obtain⟨t,rfl⟩:=b;obtain⟨e,rfl⟩:=c;exact add_str (λe g=>⟨.str (i++j),H,I.tok _,⟨_,rfl⟩,q⟩) d
theorem vals1 (r:Vals [x] us):∃u,us=[u]/\RelV x u:=by
 cases r with
 |cons a b=>cases b;exact⟨_,rfl,a⟩
theorem vals2 (r:Vals [x,y] us):∃u a,us=[u,a]/\RelV x u/\RelV y a:=by
 cases r with
 |cons b c=>
  cases c with
  |cons r3 r4=>cases r4;exact⟨_,_,rfl,b,r3⟩
theorem Lb:CallR X (.type "int") (λa H Q=>(∃i,a=[.int i]/\Q (.int i) H)\/∃k,a=[.bl k]/\Q (.int (if k then 1 else 0)) H):=by
 intro b s c H a d Q I r h;rcases h with⟨i,rfl,q⟩|⟨k,rfl,q⟩
 .obtain⟨u,rfl,t,rfl⟩:=vals1 r;exact call_int_int ⟨.int i,H,I,⟨_,rfl⟩,q⟩
 .obtain⟨u,rfl,rfl⟩:=vals1 r;exact call_int_bool ⟨.int (if k then 1 else 0),H,I.tok _,⟨_,rfl⟩,q⟩
theorem Lc:CallR X (.type "str") (λxs H Q=>∃i,xs=[.int i]/\i.natAbs.log2<1920/\Q (.str (toString i)) H):=by intro pins s σ H xs us Q I r h;obtain⟨i,rfl,hz,q⟩:=h;obtain⟨u,rfl,t,rfl⟩:=vals1 r;exact PySem.P.str_of_int hz ⟨.str _,H,I.tok _,⟨_,rfl⟩,q⟩
end
structure ObjM (h:Heap)(x dx C:Addr)(mA:Str->Option Value):Prop where
 obj:h.get? x=Z9 (W.instObj C dx)
 ns:h.Ns1 dx mA
 ne:dx≠x
theorem Ld {h:Heap}(n:h.Ns1 d f):∃od,h.get? d=Z9 od/\∀b,W.lookIn b od=Z9 (f b):=by
 obtain⟨o,es,ep,ho,hd,hk,_,hm⟩:=n;refine⟨o,ho,λb=>?_⟩;have e:=hm b;unfold nsFind findBy at e;rw[<-Array.find?_toList]at e;unfold W.lookIn;rw[hd]
 dsimp only
 split
 .rename_i y q;rw[q]at e;exact congrArg Z9 e
 .rename_i q;rw[q]at e;have a:es.toList.any (·.refKey)=false:=by rw[List.any_eq_false];intro y g;obtain⟨z,t,c⟩:=hk y (Array.mem_toList_iff.mp g);simp[DictEntry.refKey,c]
  rw[qf (a▸fj)];exact congrArg Z9 e
theorem ObjM.look (I:ObjM h x b C c):∃od,W.InstAt h x (W.instObj C b) C (Z9 od)/\∀a,W.lookIn a od=Z9 (c a):=
 let⟨od,ho,hl⟩:=Ld I.ns
 ⟨od,⟨I.obj,rfl,rfl,ho⟩,hl⟩
section
variable {prog:bp}{w:World}{A:d9}{E:Value->au->Prop}{s:au}{K:Z5}{x dx C f:Addr}{mA:Str->Option Value}{name:Str}{v:Value}
theorem zl8 {expr:Bool}{Q:Value->au->Prop}(X:K.In s.heap)(I:ObjM s.heap x dx C mA)(hg:W.plainGet K C name=Z7)(hh:W.hasDictIn K C=Z7)
  (ha:Z4 K (.ref C) name=Z9 Z8) (hv:mA name=Z9 v) (Le:W.handedIn v=Z7) (h:Q v {s with toks:=s.toks+1}):
  wpAny (model prog w) A (getAttr (.ref x) name expr) Q E s:=by
 obtain⟨od,J,hl⟩:=I.look;exact W.get_value X J (W.plainGet_of hg).1 (W.findObj_own hh ha rfl (by rw[hl,hv])) Le h
theorem zf9 {pl:Sem Bool}{Q:Value×List Value->au->Prop}(X:K.In s.heap)(I:ObjM s.heap x dx C mA)(hg:W.plainGet K C name=Z7)
  (hf:Z4 K (.ref C) name=Z9 (Z9 (.ref f))) (ht:W.isFn K (.ref f)=Z7) (hv:mA name=Z8) (h:Q (.ref f,[.ref x]) s):
  wpAny (model prog w) A (getMethod (.ref x) name pl) Q E s:=by
 obtain⟨od,J,hl⟩:=I.look;exact W.method_fn X J (W.plainGet_of hg).1 (W.plainGet_of hg).2 hf (qm ht) (by show(W.lookIn name od).map (·.isSome)=Z9 Z6;rw[hl,hv];rfl) h
theorem zkv {ns:List Str}{Q:Unit->au->Prop}(X:K.In s.heap)(I:ObjM s.heap x dx C mA)
  (hs:Z4 K (.ref C) "__setattr__"=Z9 (Z9 (.builtin "object.__setattr__"))) (hp:W.plainOver K C=Z7) (ht:W.takerIn K C name=Z9 Z8) (hh:W.hasDictIn K C=Z7)
  (hw:PySem.Within mA ns) (Lf:ns.length<=ay)
  (h:∀h',ObjM h' x dx C (λy=>if y=name then Z9 v else mA y)->bv dx s.heap h'->Q () {s with heap:=h',toks:=s.toks+2}):
  wpAny (model prog w) A (setAttr (.ref x) name v) Q E s:=by
 obtain⟨od,J,hl⟩:=I.look;refine W.set_plain X J hs (W.osa_open (s:={s with toks:=s.toks+1}) (r:=Z8) X J hp ht λb=>?_);obtain⟨cd,hc,Aq⟩:=W.any_some hh;have hx:s.heap.get? x=Z9 ⟨.ref C,Z9 dx,.plain,#[]⟩:=I.obj;refine ae (az (ae (ae (wpAny_loadPart hx (ae (W.Looks.here (s:={s with toks:=s.toks+1}) (W.looks_clsIn X hc) ?_))))));rw[Aq];refine az (a:=Z9 dx) (ae (az (ae ?_)));refine wpAny_nsSet1 (s:={s with toks:=s.toks+1}) I.ns λh' hn2 rD=>?_;obtain⟨oD,Vf,Vg,Lh,Li,Lj⟩:=hn2.count (PySem.Within.cons name v hw);refine ae (wpAny_lookBehind Lh (by rw[Li];exact pastItsLine_dict (bh Lj (by rw[am];omega))) ?_);exact az (h _ ⟨(rD.2 _ (Ne.symm I.ne)).trans I.obj,hn2,I.ne⟩ rD)
theorem zfi {R:Result->au->Prop}{vs:List Value}{kw:List (Str×Value)}(X:K.In s.heap)(hm:W.makesIn K C=Z7)
  (hi:Z4 K (.ref C) "__init__"=Z9 (Z9 (.ref f))) (hf:W.typeIn K (.ref f)=Z9 (.type "function"))
  (h:ky (model prog w) (A.under (.builtin "type.__call__" ⟨.ref C::vs,kw⟩)) (.call (.ref f) ⟨.ref (s.heap.objs.size+1)::vs,kw⟩) (W.InitBack (s.heap.objs.size+1) R)
   {s with heap:=(s.heap.push W.emptyDict).push (W.instObj C s.heap.objs.size)}):
  ky (model prog w) A (.call (.ref C) ⟨vs,kw⟩) R s:=by
 obtain⟨hh,g,d,t,os⟩:=s;exact W.make_core (W.makes_of X hm) (W.looks_findIn X hi) (λself=>W.bind_fn X self hf) (.inl rfl) h
end
def dE (f:Str)(v:V):List (Str×V)->List (Str×V)
 | []=>[(f,v)]
 |(g,x)::r=>if g=f then(g,v)::r else(g,x)::dE f v r
theorem EJ (f g:Str)(v:V):∀fs:List (Str×V),(dE f v fs).lookup g=if g=f then Z9 v else fs.lookup g
 | []=>by
  show jd g [(f,v)]=_;by_cases h:g=f
  .have hb:(g==f)=true:=beq_iff_eq.mpr h;simp only[jd,hb,qe h]
  .have hb:(g==f)=false:=beq_eq_false_iff_ne.mpr h;simp only[jd,hb,qf h]
 |(k,x)::r=>by
  have ih:=EJ f g v r;rw[show dE f v ((k,x)::r)=(if k=f then(k,v)::r else(k,x)::dE f v r)from rfl];by_cases hk:k=f
  .rw[qe hk];by_cases h:g=k
   .have hb:(g==k)=true:=beq_iff_eq.mpr h;simp only[jd,hb,qe (h.trans hk)]
   .have hb:(g==k)=false:=beq_eq_false_iff_ne.mpr h;simp only[jd,hb,qf (λe:g=f=>h (e.trans hk.symm))]
  .rw[qf hk];by_cases h:g=k
   .have hb:(g==k)=true:=beq_iff_eq.mpr h;simp only[jd,hb,qf (λe:g=f=>hk (h.symm.trans e))]
   .have hb:(g==k)=false:=beq_eq_false_iff_ne.mpr h;simp only[jd,hb];exact ih
theorem Ar (f:Str)(v:V):∀fs:List (Str×V),f∈(dE f v fs).map (·.1)/\∀g,g∈fs.map (·.1)->g∈(dE f v fs).map (·.1)
 | []=>⟨by simp[dE],λg h=>by simp at h⟩
 |(k,x)::r=>by
  obtain⟨i1,i2⟩:=Ar f v r;rw[show dE f v ((k,x)::r)=(if k=f then(k,v)::r else(k,x)::dE f v r)from rfl];by_cases hk:k=f
  .rw[qe hk];subst hk;exact⟨by simp,λg h=>by simpa using h⟩
  .rw[qf hk];refine⟨?_,λg h=>?_⟩
   .rw[bc];exact av _ i1
   .rw[bc]at h ⊢;rcases ao.mp h with e|e
    .exact ao.mpr (.inl e)
    .exact av _ (i2 g e)
theorem EK (f:Str)(v:V):∀fs:List (Str×V),(dE f v fs).length<=fs.length+1
 | []=>by simp[dE]
 |(k,x)::r=>by
  have ih:=EK f v r;rw[show dE f v ((k,x)::r)=(if k=f then(k,v)::r else(k,x)::dE f v r)from rfl];by_cases hk:k=f
  .rw[qe hk,am,am];omega
  .rw[qf hk,am,am];omega
theorem cO.some_of (r:cO (Z9 v) o):∃u,o=Z9 u/\RelV v u:=by
 cases o with
 |none=>exact r.elim
 |some u=>exact⟨u,rfl,r⟩
theorem cO.none_of (r:cO Z8 o):o=none:=by
 cases o with
 |none=>rfl
 |some u=>exact r.elim
theorem Lk (r:RelV v u):W.handedIn u=true:=by
 cases v with
 |non=>cases r;rfl
 |bl b=>cases r;rfl
 |int i=>obtain⟨t,e⟩:=r;cases e;rfl
 |str x=>obtain⟨t,e⟩:=r;cases e;rfl
 |ref a=>cases r;rfl
 |ty n=>cases r;rfl
section
variable {P:bp}{w:World}{H H':Hp}{h h':Heap}{a C dx:Addr}{fs Kc:List (Str×V)}
theorem yb (hok:HOk P w H h)(e:H a=Z9 (.ins C dx fs)):∃b,ObjM h a dx C b/\(∀f,cO (fs.lookup f) (b f))/\PySem.Within b (fs.map (·.1))/\fs.length<=1000/\H dx=Z9 (.own a):=by obtain⟨d,z,ne,c,b,n,r,q⟩:=(hok a _ e);exact⟨b,⟨c,n,ne⟩,r,q,z,d⟩
end
structure Cls (K:Z5)(C:Addr):Prop where
 pg:W.plainGet K C Str.empty=Z7
 hd:W.hasDictIn K C=Z7
 po:W.plainOver K C=Z7
 sa:Z4 K (.ref C) "__setattr__"=Z9 (Z9 (.builtin "object.__setattr__"))
theorem Cls.get {K:Z5}(c:Cls K C)(f:Str):W.plainGet K C f=true:=c.pg
def z3b (K:Z5)(C:Addr)(f:Str):Prop:=Z4 K (.ref C) f=Z9 Z8
theorem z3b.vd {K:Z5}{C:Addr}{f:Str}(n:z3b K C f):W.takerIn K C f=Z9 none:=by unfold W.takerIn;rw[show Z4 K (.ref C) f=Z9 Z8 from n];rfl
structure Meth (K:Z5)(C:Addr)(m:Str)(f:Addr):Prop where
 at_:Z4 K (.ref C) m=Z9 (Z9 (.ref f))
 fn:W.isFn K (.ref f)=Z7
 kp:Z3 K (.ref f)=Z7
section
variable {X:Cx}{pins:List (Addr×Obj)}{σ:St}{H:Hp}{s:au}{a C dx:Addr}{fs:List (Str×V)}{f:Str}{v:V}{A:d9}{E:Value->au->Prop}
theorem za3 {b:Bool}{Q:Value->au->Prop}(I:Inv X pins σ H s)(e:H a=Z9 (.ins C dx fs))(c:Cls X.K C)(n:z3b X.K C f)(l:fs.lookup f=Z9 v)
  (h:∀u s',Inv X pins σ H s'->RelV v u->Q u s'):wpAny (model X.prog X.w) A (getAttr (.ref a) f b) Q E s:=by
 obtain⟨mA,O,r,_,_,_⟩:=yb I.hok e;obtain⟨u,hu,ru⟩:=cO.some_of (v:=v) (o:=mA f) (by rw[<-l];exact r f);exact zl8 I.eJ O (c.get f) c.hd n hu (Lk ru) (h u _ (I.tok _) ru)
theorem zal {m:Str}{g:Addr}{pl:Sem Bool}{Q:Value×List Value->au->Prop}(I:Inv X pins σ H s)(e:H a=Z9 (.ins C dx fs))(c:Cls X.K C)(k:Meth X.K C m g)(l:fs.lookup m=Z8)
  (h:Q (.ref g,[.ref a]) s):wpAny (model X.prog X.w) A (getMethod (.ref a) m pl) Q E s:=by
 obtain⟨mA,O,r,_,_,_⟩:=yb I.hok e;have hn:mA m=none:=cO.none_of (by rw[<-l];exact r m);exact zf9 I.eJ O (c.get m) k.at_ k.fn hn h
theorem zay {y:V}{u:Value}{Q:Unit->au->Prop}(I:Inv X pins σ H s)(e:H a=Z9 (.ins C dx fs))(c:Cls X.K C)(n:z3b X.K C f)(hl:fs.length<1000)(ry:RelV y u)
  (h:∀s',Inv X pins σ (upd H a (.ins C dx (dE f y fs))) s'->Q () s'):wpAny (model X.prog X.w) A (setAttr (.ref a) f u) Q E s:=by
 obtain⟨mA,O,r,wi,_,ho⟩:=yb I.hok e;have hz:(fs.map (·.1)).length<=ay:=by rw[ai,bz];omega
 refine zkv I.eJ O c.sa c.po n.vd c.hd wi hz λh' O' sb=>h _ ?_;have hd:∃o,h'.get? dx=Z9 o:=let⟨o,_,_,e',_⟩:=O'.ns;⟨o,e'⟩;refine I.write (x:=a) (e:=dx) (by rw[e];exact True.intro) (.inr ho) (λb q hb z=>(sb.2 b hb).trans z) hd ?_;refine⟨by rw[aL O.ne];exact ho,?_,O.ne,O'.obj,_,O'.ns,λg=>?_,λg hg=>?_⟩
 .have:=EK f y fs;omega
 .show cO ((dE f y fs).lookup g) (if g=f then Z9 u else mA g);rw[EJ];by_cases q:g=f
  .rw[qe q,qe q];exact ry
  .rw[qf q,qf q];exact r g
 .by_cases q:g=f
  .rw[q];exact(Ar f y fs).1
  .refine(Ar f y fs).2 g (wi g λz=>hg ?_);show(if g=f then Z9 u else mA g)=Z8;rw[qf q];exact z
theorem Inv.made (I:Inv X pins σ H s):Inv X pins σ (upd (upd H s.heap.objs.size (.own (s.heap.objs.size+1))) (s.heap.objs.size+1) (.ins C s.heap.objs.size []))
  {s with heap:=(s.heap.push W.emptyDict).push (W.instObj C s.heap.objs.size)}:=by
 have e1:(s.heap.push W.emptyDict).get? s.heap.objs.size=Z9 W.emptyDict:=a7 s.heap rfl
 have e2:((s.heap.push W.emptyDict).push (W.instObj C s.heap.objs.size)).get? (s.heap.objs.size+1)=Z9 (W.instObj C s.heap.objs.size):=by
  have:=a7 (s.heap.push W.emptyDict) (o:=W.instObj C s.heap.objs.size) rfl
  rwa [Heap.size_push]at this
 have e3:(s.heap.push W.emptyDict).Ns s.heap.objs.size (λ_=>Z8):=⟨W.emptyDict,#[],_,e1,rfl,(λe he=>absurd he (by simp)),λ_=>rfl⟩;have I1:=I.laid (o:=.own (s.heap.objs.size+1)) (t':=s.toks) (λb u q=>ak _ q) (ah _) ⟨_,e1⟩;refine I1.laid (λb u q=>ak _ q) (o5 (Heap.size_push _ _)) ?_;have ne:s.heap.objs.size≠s.heap.objs.size+1:=b8 (jw _);refine⟨by rw[aL ne,bL],cn _,ne,e2,λ_=>Z8,(Heap.Ns1.of_empty e3).at λo q=>ak _ q,λ_=>True.intro,λy hy=>absurd rfl hy⟩
theorem ziy (hb:gv e f env (eval e env)=eval e env)
  (h:wpAny (model prog w) A (eval e env) (λo a=>wpAny (model prog w) A (getAttr o f Z7) Q E a) E s):wpAny (model prog w) A (eval (.Attribute e f pos) env) Q E s:=
 Attribute_any_ h (by rw[arm_eval_Attribute,hb])
end
def rE (K:Z5)(ta:TE)(f:Str):TE:=λσ H Q=>ta σ H λx H1=>∃a C dx fs v,x=.ref a/\H1 a=Z9 (.ins C dx fs)/\Cls K C/\z3b K C f/\fs.lookup f=Z9 v/\Q v H1
def rF (K:Z5)(ta tv:TE)(f:Str):TS:=λD σ H=>tv σ H λy H1=>ta σ H1 λx H2=>∃a C dx fs,x=.ref a/\H2 a=Z9 (.ins C dx fs)/\Cls K C/\z3b K C f/\fs.length<1000/\D.nx σ (upd H2 a (.ins C dx (dE f y fs)))
section
variable {X:Cx}{o e value:Expr}{f:Str}{pos pos' Ll:Pos}{ta tv:TE}
theorem Lm (he:PE X e ta)(hb:gv e f X.env (eval e X.env)=eval e X.env):PE X (.Attribute e f pos) (rE X.K ta f):=by intro pins s σ H Q I h;refine ziy hb (aM (he pins s σ H _ I h) λu s1 ⟨x,H1,I1,rx,a,C,dx,fs,v,ex,ea,c,n,l,q⟩=>?_);subst ex;obtain rfl:u=ZT a:=rx;exact za3 I1 ea c n l λu' s2 I2 ru=>⟨v,H1,I2,ru,q⟩
theorem Ln (ha:PE X o ta)(hv:PE X value tv)(hs:jc value (Z9 (.Attribute o f pos')) pos.line X.env=pure Z6):PS X (.Assign [.Attribute o f pos'] value pos) (rF X.K ta tv f):=by intro pins s σ H D I h;refine plainObj_wpAny_Assign_Attribute (aM (hv pins s σ H _ I h) λu s1 ⟨y,H1,I1,ry,q⟩=>aM (ha pins s1 σ H1 _ I1 q) λov s2 ⟨x,H2,I2,rx,a,C,dx,fs,ex,ea,c,n,l,q2⟩=>?_) hs;subst ex;obtain rfl:ov=ZT a:=rx;exact zay I2 ea c n l ry λs3 I3=>⟨σ,_,I3,q2⟩
end
section
variable {X:Cx}{pins:List (Addr×Obj)}{σ:St}{H:Hp}{s:au}{A:d9}{E:Value->au->Prop}{Q:Value->au->Prop}{c:Value}{b:Bool}
inductive TyOf (K:Z5)(H:Hp):V->Value->Prop where
 |non:TyOf K H .non (.type "NoneType")
 |bl (x:Bool):TyOf K H (.bl x) (.type "bool")
 |int (i:Int):TyOf K H (.int i) (.type "int")
 |str (x:Str):TyOf K H (.str x) (.type "str")
 |lst {a:Addr} {xs:List V} (e:H a=Z9 (.lst xs)):TyOf K H (.ref a) (.type "list")
 |iD {a:Addr} {o:Obj} {xs:List V} (e:H a=Z9 (.iD o (.lst xs))):TyOf K H (.ref a) (.type "list")
 |tup {a:Addr} {xs:List V} (e:H a=Z9 (.tup xs)):TyOf K H (.ref a) (.type "tuple")
 |dK {a:Addr} {kvs:List (Key×V)} (e:H a=Z9 (.dK kvs)):TyOf K H (.ref a) (.type "dict")
 |dT {a:Addr} {kvs:List (List Key×V)} (e:H a=Z9 (.dT kvs)):TyOf K H (.ref a) (.type "dict")
 |ins {a C dx:Addr} {fs:List (Str×V)} (e:H a=Z9 (.ins C dx fs)) (cl:Cls K C) (ha:Z4 K (.ref C) "__class__"=Z9 (Z9 (.builtin "object.__class__")))
  (hn:W.specialIn K (.builtin "object.__class__") "__get__"=Z9 (Z9 (.builtin "getset_descriptor.__get__"))) (Vh:W.takesIn K (.builtin "object.__class__")=Z9 Z7)
  (hm:W.mroIn K C (.type "object")=Z9 Z7):TyOf K H (.ref a) (.ref C)
theorem z2d (I:Inv X pins σ H s)(f:RelV x u)(ty:TyOf X.K H x t)(e:W.kitOne X.K t c=Z9 b)(h:∀r,Q (.bool b) {s with toks:=r}):
  wpAny (model X.prog X.w) A (call (.builtin "isinstance") [u,c]) Q E s:=by
 cases ty with
 |non=>cases f;exact Z2 W.kitx_none I.eJ True.intro e (λz=>nomatch z) h
 |bl y=>cases f;exact Z2 W.kitx_bool I.eJ True.intro e (λz=>nomatch z) h
 |int i=>obtain⟨t,q⟩:=f;cases q;exact Z2 W.kitx_int I.eJ True.intro e (λz=>nomatch z) h
 |str y=>obtain⟨t,q⟩:=f;cases q;exact Z2 W.kitx_str I.eJ True.intro e (λz=>nomatch z) h
 | @lst a k d=>cases f;obtain⟨_,_,n,_,g⟩:=(I.hok a _ d);exact Z2 W.kitx_list I.eJ ⟨_,g,rfl⟩ e (λz=>nomatch z) h
 | @iD a v k d=>cases f;obtain⟨_,_,_,n,_,g⟩:=(I.hok a _ d);exact Z2 W.kitx_list I.eJ ⟨_,g,rfl⟩ e (λz=>nomatch z) h
 | @tup a k d=>cases f;obtain⟨_,_,_,p⟩:=(I.hok a _ d);obtain⟨o,g,j,_⟩:=p.tup;exact Z2 W.kitx_tuple I.eJ ⟨o,g,j⟩ e (λz=>nomatch z) h
 | @dK a l d=>cases f;obtain⟨_,_,B,_,⟨o,es,ep,g,j,_⟩⟩:=(I.hok a _ d);exact Z2 W.kitx_dict I.eJ ⟨o,g,j.1⟩ e (λz=>nomatch z) h
 | @dT a l d=>cases f;obtain⟨_,_,k,_,o,es,ep,g,j,_⟩:=(I.hok a _ d);exact Z2 W.kitx_dict I.eJ ⟨o,g,j.1⟩ e (λz=>nomatch z) h
 | @ins a C D fs d cl ha hn m hm=>cases f;obtain⟨F,O,_⟩:=yb I.hok d;obtain⟨od,J,_⟩:=O.look;exact Z2 (W.kitx_own (cl.get _) cl.hd ha hn m hm) I.eJ J e (λz=>nomatch z) h
end
structure Room (k:Nat)(A:d9):Prop where
 hd:A.handled=Z8
 dp:A.depth+3*k+5<recursionLimit
 un:A.units+16*k+200<cLine
 gd:A.guards=Z9 []
theorem Room.mono (r:Room k A)(h:j<=k):Room j A:=⟨r.hd,by have:=r.dp;omega,by have:=r.un;omega,r.gd⟩
theorem Room.deeper (r:Room (k+1) A)(env:Env):Room k (A.deeper env):=⟨r.hd,by have:=r.dp;show A.depth+1+3*k+5<_;omega,by have:=r.un;show A.units+3+16*k+200<_;omega,r.gd⟩
theorem Lo {A:d9}:(A.under (.builtin "type.__call__" ⟨.ref C::a,b⟩)).depth=A.depth+1:=by first|rfl|simp[Around.under,Code.weight,Code.isCreation,Code.isGuard,Code.isCaller,Code.frames,Code.isFrame,guardIds]
theorem Lp {A:d9}:(A.under (.builtin "type.__call__" ⟨.ref C::a,b⟩)).units=A.units+1:=by first|rfl|simp[Around.under,Code.cUnits,Code.frames,Code.isFrame]
theorem Lq {A:d9}(h:A.guards=Z9 []):(A.under (.builtin "type.__call__" ⟨.ref C::a,b⟩)).guards=Z9 []:=by
 have e:(Code.builtin "type.__call__" ⟨.ref C::a,b⟩).guards=[]:=by first|rfl|simp[Code.guards,Code.isGuard,guardIds]
 unfold Around.under;simp only[e,h,pushGuards]
theorem Room.make (r:Room (k+1) A)(C:Addr)(a:List Value)(b:List (Str×Value)):Room k (A.under (.builtin "type.__call__" ⟨.ref C::a,b⟩)):=⟨r.hd,by have:=r.dp;rw[Lo];omega,by have:=r.un;rw[Lp];omega,Lq r.gd⟩
theorem Room.depth (r:Room k A):A.depth<recursionLimit:=by have:=r.dp;omega
theorem Room.units (r:Room k A):A.units+64<cLine:=by have:=r.un;omega
def eQ:TA:=λ_ H Q=>Q [] H
def mP (ta:TE)(tr:TA):TA:=λσ H Q=>ta σ H λx H1=>tr σ H1 λxs H2=>Q (x::xs) H2
section
variable {X:Cx}{e:Expr}{es:List Expr}{te:TE}{t:TA}{pos:Pos}
theorem kO:PA X [] eQ:=λ_ _ _ _ H Q I h=>o6 ⟨[],H,I,.nil,h⟩
theorem EL (ha:PE X e te)(hr:PA X es t)(hs:b7 (e::es) X.env=(Z6,eval e X.env)::b7 es X.env:=by rfl):PA X (e::es) (mP te t):=by intro pos a s b H Q I h;rw[hs];refine ot (aM (ha a s b H _ I h) λu c ⟨x,d,f,g,i⟩=>?_);exact aM (hr pos a c b d _ f i) λo p ⟨j,k,l,m,n⟩=>⟨x::j,k,l,.cons g m,n⟩
def ve (t:TA):TE:=λσ H Q=>t σ H λxs H1=>xs.length<=ay/\∀p,H1 p=Z8->Q (.ref p) (upd H1 p (.tup xs))
def vf (t:TA):TE:=λσ H Q=>t σ H λxs H1=>xs.length<=ay/\∀p,H1 p=Z8->Q (.ref p) (upd H1 p (.lst xs))
theorem As {f}(h:PA X es t):PE X (.Tuple es f pos) (ve t):=by intro a s g H Q I i;refine wpAny_Tuple_spliced (aM (h pos a s g H _ I i) λj c ⟨k,l,d,r,z,q⟩=>⟨by rw[<-r.length];exact z,?_⟩);refine⟨.ref c.heap.objs.size,upd l c.heap.objs.size (.tup k),d.laid (λb u e=>ak _ e) (ah _) ?_,rfl,q _ (d.hok.fresh (ah _))⟩;exact⟨z,j,r,⟨_,a7 _ rfl⟩⟩
theorem EM (h:PA X es t):PE X (.List es pos) (vf t):=by intro a s f H Q I g;refine wpAny_List_spliced (aM (h pos a s f H _ I g) λi c ⟨j,k,d,r,z,q⟩=>⟨by rw[<-r.length];exact z,?_⟩);refine⟨.ref c.heap.objs.size,upd k c.heap.objs.size (.lst j),d.laid (λb u e=>ak _ e) (ah _) ?_,rfl,q _ (d.hok.fresh (ah _))⟩;exact⟨z,i,0,r,a7 _ rfl⟩
end
abbrev Sp:=List V->Hp->VK->XK->Prop
abbrev CXT:=List Env->Hp->au->XK->Value->au->Prop
structure kP (P:bp)(w:World)(K:Z5)(mg:Str->Option Value)(base:Heap)(A:d9)(outer:List Env)(s:au)(H:Hp):Prop where
 frames:A.frames=Z9 outer
 mod:Mod K mg base
 bs:∀b o,base.get? b=Z9 o->s.heap.get? b=Z9 o/\H b=Z8
 oE:base.objs.size<=s.heap.objs.size
 eO:s.heap.FunFrames base outer
 ro:∀b∈frs outer,H b=Z8
 hok:HOk P w H s.heap
 bare:ku s.gens
def CE (outer:List Env)(P:bp)(w:World)(H:Hp)(s:au)(Q:VK)(u:Value)(s':au):Prop:=∃v H',s'.os=s.os/\ku s'.gens/\Un (frs outer) [] H H' s.heap s'.heap/\HOk P w H' s'.heap/\RelV v u/\Q v H'
def CR (CX:CXT)(outer:List Env)(P:bp)(w:World)(H:Hp)(s:au)(Q:VK)(E:XK)(r:Result)(s':au):Prop:=
 match r with
 |.ok (.ret u)=>CE outer P w H s Q u s'
 |.ok _=>False
 |.error e=>CX outer H s E e s'
structure FnOk (P:bp)(w:World)(K:Z5)(mg:Str->Option Value)(base:Heap)(CX:CXT)(k:Nat)(f:Addr)(fd:dv)(ps:List Str)(sp:Sp):Prop where
 len:∀vs H Q E,sp vs H Q E->vs.length=ps.length
 run:∀(A:d9) (outer:List Env) (s:au) (H:Hp) (args:Args) (us:List Value) (vs:List V) (Q:VK) (E:XK),Room k A->kP P w K mg base A outer s H->nr s fd args (ps.zip us)->Vals vs us->sp vs H Q E->ky (model P w) A (.call (.ref f) args) (CR CX outer P w H s Q E) s
theorem kP.make {K:Z5}(e:kP P w K mg base A outer s H)(C:Addr)(a:List Value)(b:List (Str×Value)): kP P w K mg base (A.under (.builtin "type.__call__" ⟨.ref C::a,b⟩)) outer s H:=⟨by first|exact e.frames|(simpa[Around.under,Code.envs,Code.isFrame,pushEnvs]using e.frames),e.mod,e.bs,e.oE,e.eO,e.ro,e.hok,e.bare⟩
section
variable {X:Cx}{pins:List (Addr×Obj)}{σ:St}{H:Hp}{s s':au}
theorem Inv.vg (I:Inv X pins σ H s):kP X.prog X.w X.K X.mg X.base X.A X.stack s H:=⟨I.ok.frames,I.ok.mod,I.bs,bh I.ok.oE I.sz,I.stack,I.jW,I.hok,I.bare⟩
theorem Inv.after (I:Inv X pins σ H s)(h:CE X.stack X.prog X.w H s Q u s'):EP X pins σ Q u s':=by obtain⟨v,c,os,bare,un,hok,r,q⟩:=h;obtain⟨e,g,d,t,a⟩:=s';obtain rfl:a=s.os:=os;exact⟨v,c,I.call un hok bare (λb z=>absurd z (by simp)),r,q⟩
end
def jX (sp:Sp)(dvs:List V)(E:XK)(t:TA):TE:=λσ H Q=>t σ H λvs H1=>sp (vs++dvs) H1 Q E
def qJ (C:Addr)(m:Str)(sp:Sp)(dvs:List V)(E:XK)(ta:TE)(t:TA):TE:=λσ H Q=>ta σ H λx H1=>∃a dx fs,x=.ref a/\H1 a=Z9 (.ins C dx fs)/\fs.lookup m=Z8/\t σ H1 λvs H2=>sp (x::(vs++dvs)) H2 Q E
def tZ (C:Addr)(sp:Sp)(dvs:List V)(E:XK)(t:TA):TE:=λσ H Q=>t σ H λvs H1=>∀x dx,H1 x=Z8->H1 dx=Z8->dx≠x->sp (.ref x::(vs++dvs)) (upd (upd H1 dx (.own x)) x (.ins C dx [])) (λv H2=>v=.non/\Q (.ref x) H2) E
def Binds (K:Z5)(fd:dv)(ps:List Str)(ds:List Value):Prop:=∀(s:au) (us:List Value),K.In s.heap->(us++ds).length=ps.length->nr s fd ⟨us,[]⟩ (ps.zip (us++ds))
theorem Binds.all {K:Z5}(h:∀a,a.length=ps.length->qb fd ⟨a,[]⟩=pure (ps.zip a)):Binds K fd ps []:=λs a _ hl=>by rw[br]at hl ⊢;exact .of_eq (h a hl)
def z2z (CX:CXT)(X:Cx)(E:XK):Prop:=∀(pins:List (Addr×Obj)) (σ:St) (H:Hp) (s:au) (e:Value) (s':au),Inv X pins σ H s->CX X.stack H s E e s'->X.xe e s'
section
variable {X:Cx}{CX:CXT}{k:Nat}{f C:Addr}{fd:dv}{ps:List Str}{sp:Sp}{dvs:List V}{ds:List Value}{E:XK}{x m:Str}{p pos apos:Pos}{e o:Expr}{es:List Expr}{ta:TE}{t:TA}
theorem z9b (F:FnOk X.prog X.w X.K X.mg X.base CX k f fd ps sp)(hr:Room k X.A)(hb:Binds X.K fd ps ds)(hd:Vals dvs ds)(hx:z2z CX X E)
  (I:Inv X pins σ H s) (r:Vals vs us) (h:sp (vs++dvs) H Q E):wpAny (model X.prog X.w) X.A (call (.ref f) us) (EP X pins σ Q) X.xe s:=by
 have r2:=r.append hd;refine wpAny_call (jm (F.run X.A X.stack s H ⟨us,[]⟩ (us++ds) (vs++dvs) Q E hr I.vg (hb s us I.eJ (r2.length▸F.len _ _ _ _ h)) r2 h) λr s' hq=>?_);cases r with
 |error e=>exact hx pins σ H s e s' I hq
 |ok fl=>
  cases fl with
  |ret u=>exact I.after hq
  |next=>exact False.elim hq
  |brk=>exact False.elim hq
  |cont=>exact False.elim hq
theorem zd7 (F:FnOk X.prog X.w X.K X.mg X.base CX k f fd ps sp)(hr:Room k X.A)(g:Gl X x)(hm:X.mg x=Z9 (.ref f))(hk:Z3 X.K (.ref f)=Z7)(hb:Binds X.K fd ps ds)(hd:Vals dvs ds)(hx:z2z CX X E)
  (ha:PA X (e::es) t) (b:VB x:=by decide) (i:b7 (e::es) X.env=(Z6,eval e X.env)::b7 es X.env:=by rfl) (c:(ik pos (b7 es X.env)).any (·.1)=false:=by rfl):
  PE X (.Call (.Name x p) (e::es) [] pos) (jX sp dvs E t):=by
 intro a s j H Q I h;refine gp (z4b I g hm ?_ b);refine W.callWith_K I.ok.mod.tX hk (aM (ha pos a s j H _ I h) λl m ⟨n,o,d,r,q⟩=>⟨d.eJ,?_⟩) i c;exact z9b F hr hb hd hx d r q
structure Mk (K:Z5)(C f:Addr):Prop where
 makes:W.makesIn K C=Z7
 init:Z4 K (.ref C) "__init__"=Z9 (Z9 (.ref f))
 fn:W.isFn K (.ref f)=Z7
 kp:Z3 K (.ref C)=Z7
theorem zg9 {pins:List (Addr×Obj)}{σ:St}{H:Hp}{s:au}{Q:VK}{us:List Value}{vs:List V}(M:Mk X.K C f)(F:FnOk X.prog X.w X.K X.mg X.base CX k f fd ps sp)(hr:Room (k+1) X.A)(hb:Binds X.K fd ps ds)(hd:Vals dvs ds)
  (hx:z2z CX X E) (I:Inv X pins σ H s) (r:Vals vs us)
  (h:∀x dx,H x=Z8->H dx=Z8->dx≠x->sp (.ref x::(vs++dvs)) (upd (upd H dx (.own x)) x (.ins C dx [])) (λv H2=>v=.non/\Q (.ref x) H2) E):
  wpAny (model X.prog X.w) X.A (call (.ref C) us) (EP X pins σ Q) X.xe s:=by
 have hq:=h (s.heap.objs.size+1) s.heap.objs.size (I.hok.fresh (jf _)) (I.hok.fresh (ah _)) (b8 (jw _));have I2:=Inv.made (C:=C) I;have r2:Vals (V.ref (s.heap.objs.size+1)::(vs++dvs)) (ZT (s.heap.objs.size+1)::(us++ds)):=.cons rfl (r.append hd);have hl:(ZT (s.heap.objs.size+1)::us++ds).length=ps.length:=by have e:=r2.length;rw[F.len _ _ _ _ hq]at e;exact e.symm
 refine wpAny_call (zfi (f:=f) I.eJ M.makes M.init (qm M.fn) (jm (F.run _ X.stack _ _ ⟨ZT (s.heap.objs.size+1)::us,[]⟩ (ZT (s.heap.objs.size+1)::(us++ds)) _ _ E (hr.make C us []) (I2.vg.make C us []) (hb _ (ZT (s.heap.objs.size+1)::us) I2.eJ hl) r2 hq) λr s' vj=>?_));cases r with
 |error e=>exact hx pins σ _ _ e s' I2 vj
 |ok fl=>
  cases fl with
  |ret u=>obtain⟨v,H',I3,rv,ev,q3⟩:=I2.after vj;subst ev;exact⟨rv,⟨V.ref (s.heap.objs.size+1),H',I3,rfl,q3⟩⟩
  |next=>exact False.elim vj
  |brk=>exact False.elim vj
  |cont=>exact False.elim vj
theorem zl1 (M:Mk X.K C f)(F:FnOk X.prog X.w X.K X.mg X.base CX k f fd ps sp)(hr:Room (k+1) X.A)(hg:Gl X x)(hm:X.mg x=Z9 (.ref C))(hb:Binds X.K fd ps ds)(hd:Vals dvs ds)(hx:z2z CX X E)
  (ha:PA X (e::es) t) (Au:VB x:=by decide) (he:b7 (e::es) X.env=(Z6,eval e X.env)::b7 es X.env:=by rfl) (oT:(ik pos (b7 es X.env)).any (·.1)=false:=by rfl):
  PE X (.Call (.Name x p) (e::es) [] pos) (tZ C sp dvs E t):=by
 intro pins s σ H Q I h;refine gp (z4b I hg hm ?_ Au);refine W.callWith_K (h₀:=X.base) I.ok.mod.tX M.kp (aM (ha pos pins s σ H _ I h) λus s1 ⟨vs,H1,I1,r,q⟩=>⟨I1.eJ,?_⟩) he oT;exact zg9 M F hr hb hd hx I1 r q
end
section
variable {X:Cx}{CX:CXT}{k:Nat}{f C:Addr}{fd:dv}{ps ks:List Str}{sp:Sp}{E:XK}{x m:Str}{p pos apos Ls:Pos}{e o:Expr}{es:List Expr}{rG:List kz}{te ta:TE}{t tk:TA}{nm:Option Str}
structure rH (K:Z5)(fd:dv)(ps ks:List Str)(g:List Value->List Value->List Value)(gV:List V->List V->List V):Prop where
 to:∀(s:au) (us ws:List Value),K.In s.heap->(g us ws).length=ps.length->nr s fd ⟨us,ks.zip ws⟩ (ps.zip (g us ws))
 rel:∀{vs:List V} {us:List Value} {zs:List V} {ws:List Value},Vals vs us->Vals zs ws->Vals (gV vs zs) (g us ws)
variable {g:List Value->List Value->List Value}{gV:List V->List V->List V}
end
structure FnScope (N P:List Str)(sc:Scope):Prop where
 kind:sc.kind=.function
 co:sc.isCoroutine=Z6
 gen:sc.isGenerator=Z6
 nd:N.Nodup
 pre:N.take P.length=P
 par:∀x∈P,sc.names.lookup x=Z9 .local\/sc.names.lookup x=Z9 .cell
 rJ:∀y∈sc.names,y.2≠.free
theorem EN {a:Str->Option fo}:∀{binds:List (Str×Value)} {m:Str->Option Value},(∀v,(x,v)∉binds)->bindL a binds m x=m x
 | [],_,_=>rfl
 |(n,v)::r,m,h=>by
  unfold bindL;rw[EN λw b=>h w (av _ b)];split
  .have :x≠n:=by rintro rfl;exact h v ax
   simp[this]
  .rfl
theorem EO {a:Str->Option fo}:∀{binds:List (Str×Value)} {m:Str->Option Value},(∀v,(x,v)∉binds)->bindC a binds m x=m x
 | [],_,_=>rfl
 |(n,v)::r,m,h=>by
  unfold bindC;rw[EO λw b=>h w (av _ b)];split
  .rfl
  .have :x≠n:=by rintro rfl;exact h v ax
   simp[this]
theorem z69 {a:Str->Option fo}:∀{P:List Str} {b:List Value} {i:Nat} {m:Str->Option Value},P.Nodup->P[i]?=Z9 x->b[i]?=Z9 v->a x=Z9 .local->
  bindL a (P.zip b) m x=Z9 v
 | [],_,_,_,_,h,_,_=>by simp at h
 |_::_,[],_,_,_,_,h,_=>by simp at h
 |p::P,w::b,0,m,nd,c,d,hk=>by simp at c d;subst c;subst d;show bindL a ((p,w)::P.zip b) m p=_;unfold bindL;rw[EN λv e=>(et.mp nd).1 (mx e).1,qe hk];simp
 |p::P,w::b,i+1,m,nd,c,d,hk=>by show bindL a ((p,w)::P.zip b) m x=_;exact z69 (et.mp nd).2 (by simpa using c) (by simpa using d) hk
theorem z6l {a:Str->Option fo}:∀{P:List Str} {b:List Value} {i:Nat} {m:Str->Option Value},P.Nodup->P[i]?=Z9 x->b[i]?=Z9 v->a x≠Z9 .local->
  bindC a (P.zip b) m x=Z9 v
 | [],_,_,_,_,h,_,_=>by simp at h
 |_::_,[],_,_,_,_,h,_=>by simp at h
 |p::P,w::b,0,m,nd,c,d,hk=>by simp at c d;subst c;subst d;show bindC a ((p,w)::P.zip b) m p=_;unfold bindC;rw[EO λv e=>(et.mp nd).1 (mx e).1,qf hk];simp
 |p::P,w::b,i+1,m,nd,c,d,hk=>by show bindC a ((p,w)::P.zip b) m x=_;exact z6l (et.mp nd).2 (by simpa using c) (by simpa using d) hk
def start (N:List Str)(vs:List V):St:=vs.map Z9++bx (N.length-vs.length) Z8
def jE (CX:CXT)(P:bp)(w:World)(K:Z5)(mg:Str->Option Value)(base:Heap)(N:List Str)(qual:Str)(scope:Scope)(f:Addr)(cd:Value)(A:d9)(outer:List Env)(s:au)(H:Hp)(E:XK):Cx where
 prog:=P
 w:=w
 K:=K
 mg:=mg
 base:=base
 A:=A.deeper (m7 qual scope s.heap.objs.size f cd)
 N:=N
 bP:=s
 mJ:=H
 env:=m7 qual scope s.heap.objs.size f cd
 outer:=outer
 stack:=m7 qual scope s.heap.objs.size f cd::outer
 ex:=[]
 calm:=Z7
 fn:=λ_=>Z7
 pn:=[]
 xe:=λe s'=>wpAny (model P w) (A.deeper (m7 qual scope s.heap.objs.size f cd)) (leaving (m7 qual scope s.heap.objs.size f cd) e) (λ_ yc=>CX outer H s E e yc) (λe' yc=>CX outer H s E e' yc) s'
theorem ER {sc:Scope}(h:sc.names.lookup x=Z9 .cell):∃c,(cellsFrom n sc.names []).lookup x=Z9 c:=by exact Option.isSome_iff_exists.mp (W.cellsFrom_some sc.names n [] (.inl h))
theorem zdy {K:Z5}
  (S:FnScope N ps scope) (hd:A.handled=Z8) (j:kP P w K mg base A outer s H) (hl:n.length=ps.length) (r:Vals n D)
  (x:InCallC s s.heap.objs.size (bindL (m7 g scope s.heap.objs.size f cd).kindOf (ps.zip D) λ_=>Z8) (cellsFrom (s.heap.objs.size+1) scope.names []) (bindC (m7 g scope s.heap.objs.size f cd).kindOf (ps.zip D) λ_=>Z8) F):
  Inv (jE G P w K mg base N g scope f cd A outer s H E) [] (start N n) H F:=by
 have I:=by have:=congrArg c8 S.pre;rw[cv]at this;omega
 obtain⟨B,J,rfl,hk⟩:=x.done;have l:∀b,b∉(jE G P w K mg base N g scope f cd A outer s H E).ex:=λb z=>absurd (show b∈([]:List Addr)from z) (by simp);refine⟨⟨j.mod,S.kind,rfl,rfl,ah _,λy z c B d=>?_,λy m=>?_,λy c _ h=>?_,λ_=>hd,Around.frames_deeper j.frames,.inr ⟨rfl,rfl⟩,λb z=>absurd z (l b),j.bs,j.oE,λb _ _=>l b,λb z=>absurd z (l b),j.eO,j.ro,λ_ _ z=>by cases z⟩,rfl,j.bare,Un.kept hk,⟨_,x.toInCall.ns,λi y v B d L=>?_⟩,λy c h=>⟨_,x.cell y c h⟩,j.hok.fresh (ah _),λy c h=>?_,λp o=>absurd (show p∈([]:List (Addr×Obj))from o) (by simp),j.hok.kept hk,?_,λ_ _ z=>by cases z⟩
 .exact name_of_addr x.apart (PySem.mem_of_lookup B) (PySem.mem_of_lookup d)
 .have m:scope.names.lookup y=Z9 .cell\/scope.names.lookup y=Z9 .free:=m;rcases m with m|m
  .exact ER m
  .exact absurd rfl (S.rJ _ (PySem.mem_of_lookup m))
 .exact o0 (x.above y c (PySem.mem_of_lookup h))
 .have C:i<n.length:=by
   unfold start at d;by_cases C:i<n.length
   .exact C
   .rw[cf (by simpa using C)]at d;rw[cx]at d;split at d<;>cases d
  have ha:n[i]?=Z9 v:=by
   unfold start at d;rw[df (by simpa using C),bu]at d;cases e:n[i]? with
   |none=>rw[e]at d;cases d
   |some a=>rw[e]at d;cases d;rfl
  obtain⟨u,hu,rv⟩:=r.get ha;have o:ps[i]?=Z9 y:=by rw[<-S.pre,List.getElem?_take_of_lt (by omega)];exact B
  have t:ps.Nodup:=S.pre▸S.nd.sublist (o7 _ _);refine⟨u,rv,?_⟩;rcases S.par y (d4 o)with k|k
  .exact .inl ⟨k,z69 t o hu k⟩
  .obtain⟨c,e⟩:=ER k;refine .inr ⟨.inl k,c,e,?_⟩;have q:=x.cell y c e;rw[z6l t o hu (by show scope.names.lookup y≠_;rw[k];decide)]at q;exact q
 .exact j.hok.fresh (o0 (x.above y c (PySem.mem_of_lookup h)))
 .unfold start;show _=N.length;rw[af,ai,da];omega
theorem zop {K:Z5}{kV:Value}
  (M:K.lookup f=Z9 ⟨oc,od,.func (W.fnOf m a params g scope O kV C R an c ct),T⟩) (D:W.codeIn K c a=Z7) (S:FnScope N ps scope)
  (len:∀h H Q E,G h H Q E->h.length=ps.length)
  (j:∀A outer s H h Q E,Room k (A.deeper (m7 a scope s.heap.objs.size f c))->G h H Q E->∃t,PSs (jE I P w K mg base N a scope f c A outer s H E) g t/\t {nx:=λ_ i=>Q .non i,rt:=Q} (start N h) H):
  FnOk P w K mg base I (k+1) f (W.fnOf m a params g scope O kV C R an c ct) ps G:=by
 refine⟨len,λA outer s H args U h Q E hr p hb r z=>?_⟩;have L:=p.mod.tX.keeps λb o e=>(p.bs b o e).1
 have l:∀y∈ps.zip U,scope.names.lookup y.1=Z9 .local\/(scope.names.lookup y.1=Z9 .cell/\((cellsFrom (s.heap.objs.size+1) scope.names []).lookup y.1).isSome=Z7):=λ⟨n,v⟩ X=>by
  rcases S.par n (mx X).1 with q|q
  .exact .inl q
  .exact .inr ⟨q,W.cellsFrom_some _ _ _ (.inl q)⟩
 refine codeAny_call_function hr.depth (L _ _ M) rfl S.co S.gen rfl (W.codeRec_of L D) (hb _ _ _ _ ?_);refine wpAny_newFunctionEnv_cells S.kind l λenv Y s1 x=>?_;subst Y;refine⟨(p.mod.nolimit.keeps λb o e=>(p.bs b o e).1).keeps x.toInCall.keep,codeAny_func ?_⟩;obtain⟨t,ht,hq⟩:=j A outer s H h Q E (hr.deeper _) z;refine l7 (ht [] s1 (start N h) H _ (zdy S hr.hd p (len _ _ _ _ z) r x) hq) (λfl F hs=>?_) λe F hs=>hs;have B:∀{d:St} {i:Hp} {v:V} {u:Value},Inv (jE I P w K mg base N a scope f c A outer s H E) [] d i F->RelV v u->Q v i->CE outer P w H s Q u F:=λ{d i v u} J rv q=>⟨v,i,J.os,J.bare,J.base,J.hok,rv,q⟩;cases fl with
 |ret u=>obtain⟨v,d,i,J,rv,q⟩:=hs;exact B J rv q
 |next=>obtain⟨d,i,J,q⟩:=hs;exact B (v:=V.non) J rfl q
 |brk=>obtain⟨_,_,_,q⟩:=hs;exact False.elim q
 |cont=>obtain⟨_,_,_,q⟩:=hs;exact False.elim q
section
variable {X:Cx}{x:Str}{p pos:Pos}{e:Expr}{es:List Expr}{t:TA}{id T:String}{r:List V->Hp->VK->Prop}
def oU (r:List V->Hp->VK->Prop)(t:TA):TE:=λσ H Q=>t σ H λvs H1=>r vs H1 Q
theorem zga (f:CallR X (.builtin id) r)(g:Gl X x)(hm:X.mg x=Z8)(i:cr x=Z9 (.builtin id))(ha:PA X (e::es) t)(hn:x≠"__name__":=by decide)(b:VB x:=by decide)
  (j:b7 (e::es) X.env=(Z6,eval e X.env)::b7 es X.env:=by rfl) (c:(ik pos (b7 es X.env)).any (·.1)=false:=by rfl):PE X (.Call (.Name x p) (e::es) [] pos) (oU r t):=by
 intro a s d H Q I h;refine gp (z2m I g hm i ?_ hn b);exact PyProof.Rows.callWith_builtin1 (aM (ha pos a s d H _ I h) λk l ⟨m,n,o,q,u⟩=>f a l d n m k Q o q u) j c
theorem zee (f:CallR X (.type T) r)(g:Gl X x)(hm:X.mg x=Z8)(i:cr x=Z9 (.type T))(ha:PA X (e::es) t)(hn:x≠"__name__":=by decide)(b:VB x:=by decide)
  (j:b7 (e::es) X.env=(Z6,eval e X.env)::b7 es X.env:=by rfl) (c:(ik pos (b7 es X.env)).any (·.1)=false:=by rfl):PE X (.Call (.Name x p) (e::es) [] pos) (oU r t):=by
 intro a s d H Q I h;refine gp (z2m I g hm i ?_ hn b);exact PyProof.Rows.callWith_type1 (aM (ha pos a s d H _ I h) λk l ⟨m,n,o,q,u⟩=>f a l d n m k Q o q u) j c
end
section
variable {κ:Type} [DecidableEq κ]
def cQ (kvs:List (κ×V))(k:κ):Option V:=(kvs.find? λkv=>decide (kv.1=k)).map (·.2)
def putK (kvs:List (κ×V))(k:κ)(v:V):List (κ×V):=if(kvs.any λkv=>decide (kv.1=k))=Z7 then kvs.map (λkv=>if kv.1=k then(kv.1,v)else kv)else kvs++[(k,v)]
theorem yd {p:κ×V}(e:p.1=k):cQ (p::r) k=Z9 p.2:=by simp[cQ,cz,e]
theorem ye {p:κ×V}(e:¬p.1=k):cQ (p::r) k=cQ r k:=by simp[cQ,cz,e]
theorem ES (k:κ):∀a,(a.any λb=>decide (b.1=k))=(cQ a k).isSome
 | []=>rfl
 |p::r=>by
  rw[i5];by_cases e:p.1=k
  .simp only[yd e,qk e,Bool.true_or,Option.isSome_some]
  .rw[ye e,ql e];exact ES k r
theorem Aw (a:List (κ×V))(k:κ)(v:V):(putK a k v).length<=a.length+1:=by
 unfold putK;split
 .rw[ai];omega
 .rw[af,am,List.length_nil];omega
theorem cO.cE (r:cO o u):o.isSome=u.isSome:=by
 cases o with
 |none=>cases u with
  |none=>rfl
  |some _=>exact r.elim
 |some _=>cases u with
  |none=>exact r.elim
  |some _=>rfl
theorem cO.getD (r:cO o u)(rd:RelV d a):RelV (o.getD d) (u.getD a):=by
 cases o with
 |none=>cases u with
  |none=>exact rd
  |some _=>exact r.elim
 |some _=>cases u with
  |none=>exact r.elim
  |some _=>exact r
theorem KV.val (r:KV a g)(k:κ):cO (cQ a k) (o8 g k):=by
 induction r with
 |nil=>exact True.intro
 | @cons p q ps c h t i=>
  obtain⟨f,j⟩:=h;by_cases e:p.1=k
  .have d:q.1=k:=f.symm.trans e;have b:o8 (q::c) k=Z9 q.2:=by simp[o8,cz,d]
   rw[yd e,b];exact j
  .have d:¬q.1=k:=λz=>e (f.trans z);have b:o8 (q::c) k=o8 c k:=by simp[o8,cz,d]
   rw[ye e,b];exact i
theorem KV.any (r:KV a c)(k:κ):(a.any λb=>decide (b.1=k))=c.any λb=>decide (b.1=k):=by
 induction r with
 |nil=>rfl
 |cons h t d=>rw[i5,i5,d,h.1]
theorem KV.repl (r:KV c d)(k:κ)(f:RelV y u):
  KV (c.map λa=>if a.1=k then(a.1,y)else a) (d.map λa=>if a.1=k then(a.1,u)else a):=by
 induction r with
 |nil=>exact .nil
 | @cons p q ps j h t g=>
  rw[bc,bc];refine .cons ?_ g;obtain⟨b,i⟩:=h;by_cases e:p.1=k
  .rw[qe e,qe (b.symm.trans e)];exact⟨b,f⟩
  .rw[qf e,qf (λz=>e (b.trans z))];exact⟨b,i⟩
theorem KV.put (r:KV a b)(k:κ)(c:RelV y u):KV (putK a k y) (stored b k u):=by
 unfold putK stored;rw[r.any k];by_cases e:(b.any λd=>decide (d.1=k))=Z7
 .rw[qe e,qe e];exact r.repl k c
 .rw[qf e,qf e];exact Paired.snoc r ⟨rfl,c⟩
theorem KV.length (r:KV kvs vs):kvs.length=vs.length:=Paired.length r
end
theorem rK (r:RelV (kV k) u):(eX P w).is k u=true:=by
 cases k with
 |inl i=>obtain⟨t,e⟩:=r;subst e;exact J' P w i t
 |inr x=>obtain⟨t,e⟩:=r;subst e;exact Ka P w x t
theorem ET:∀{ks:List Key} {a:List Value},Vals (ks.map kV) a->ItemsAre (eX P w) ks a
 | [],_,r=>by rw[ma]at r;cases r;exact .nil
 |k::ks,_,r=>by
  cases r with
  |cons h t=>exact .cons (rK h) (ET t)
abbrev KT (H:Hp):List (List Key×V)->List (List Key×Addr×Value)->Prop:=iz λp q=>p.1=q.1/\H q.2.1=Z9 (.tup (p.1.map kV))/\RelV p.2 q.2.2
theorem KT.val (r:KT H a g)(k:List Key):cO (cQ a k) ((atKey g k).map (·.2)):=by
 induction r with
 |nil=>exact True.intro
 | @cons p q ps c h t i=>
  obtain⟨f,_,j⟩:=h;by_cases e:p.1=k
  .have d:q.1=k:=f.symm.trans e;have b:atKey (q::c) k=Z9 q.2:=by simp[atKey,cz,d]
   rw[yd e,b];exact j
  .have d:¬q.1=k:=λz=>e (f.trans z);have b:atKey (q::c) k=atKey c k:=by simp[atKey,cz,d]
   rw[ye e,b];exact i
theorem KT.repl (r:KT H b f)(k:List Key)(g:RelV y u):
  KT H (b.map λc=>if c.1=k then(c.1,y)else c) (f.map (putAt k u)):=by
 induction r with
 |nil=>exact .nil
 | @cons p q ps l h t i=>
  rw[bc];refine .cons ?_ i;obtain⟨a,d,j⟩:=h;unfold putAt;by_cases e:p.1=k
  .rw[qe e,qe (a.symm.trans e)];exact⟨a,d,g⟩
  .rw[qf e,qf (λz=>e (a.trans z))];exact⟨a,d,j⟩
theorem KT.put (r:KT H a c)(k:List Key)(hb:H b=Z9 (.tup (k.map kV)))(d:RelV y u):
  KT H (putK a k y) (storedH c k b u):=by
 have e:(a.any λf=>decide (f.1=k))=(atKey c k).isSome:=by rw[ES,(r.val k).cE,jn]
 unfold putK storedH;rw[e];by_cases q:(atKey c k).isSome=Z7
 .rw[qe q,qe q];exact r.repl k d
 .rw[qf q,qf q];exact Paired.snoc r ⟨rfl,hb,d⟩
theorem KT.keeps (r:KT H a d)(ht:∀b c,H b=Z9 (.tup c)->e b=Z9 (.tup c)):KT e a d:=Paired.rj r λ_ _ z=>⟨z.1,ht _ _ z.2.1,z.2.2⟩
section
variable {P:bp}{w:World}{H:Hp}{h:Heap}{a:Addr}
theorem EU (ok:HOk P w H h)(e:Rd H a u):z1x P w H h a u:=e.ok ok
theorem qK (ok:HOk P w H h)(e:Rd H a (.dK b)):b.length<=ay/\(a==gm)=Z6/\∃c,KV b c/\h.DictOf (eX P w) a c:=show z1x P w H h a (.dK b)from EU ok e
theorem vk (ok:HOk P w H h)(e:H a=Z9 (.dK kvs)):kvs.length<=ay/\(a==gm)=Z6/\∃vs,KV kvs vs/\h.DictOf (eX P w) a vs:=qK ok (.inl e)
theorem t5 (ok:HOk P w H h)(e:H a=Z9 (.tup (ks.map kV))):(lr (eX P w)).is h ks a:=by obtain⟨_,b,r,n,c⟩:=(ok a _ e);exact⟨_,b.toArray,n,c,rfl,rfl,by simpa using ET r⟩
theorem z7g (ok:HOk P w H h)(e:Rd H a (.dT b)):b.length<=ay/\(a==gm)=Z6/\
  ∃c,KT H b c/\h.DictOfH (lr (eX P w)) a c:=by
 obtain⟨z,y,c,r,o,es,ep,f,g,i,j,k⟩:=(EU ok e);refine⟨z,y,c,r,o,es,ep,f,g,i,j,λx hx=>?_,k⟩
 have all:∀{l:List (List Key×V)} {m:List (List Key×Addr×Value)},KT H l m->∀x∈m,(lr (eX P w)).is h x.1 x.2.1:=by
  intro l m q
  induction q with
  |nil=>intro x hx;exact nomatch hx
  | @cons p q ps s d t n=>
   intro x hx;rcases ao.mp hx with e|hx
   .subst e;exact t5 ok (d.1▸d.2.1)
   .exact n x hx
 exact all r x hx
theorem Lu (ok:HOk P w H h)(e:H a=Z9 (.dT b)):b.length<=ay/\(a==gm)=Z6/\∃c,KT H b c/\h.DictOfH (lr (eX P w)) a c:=z7g ok (.inl e)
end
def DGet (H:Hp)(a:Addr)(y:V)(r:Option V):Prop:=(∃kvs k,Rd H a (.dK kvs)/\y=kV k/\r=cQ kvs k)\/∃kvs k b,Rd H a (.dT kvs)/\y=.ref b/\H b=Z9 (.tup (k.map kV))/\r=cQ kvs k
def DPut (H:Hp)(a:Addr)(y v:V)(H':Hp):Prop:=
 (∃kvs k,H a=Z9 (.dK kvs)/\y=kV k/\kvs.length<ay/\H'=upd H a (.dK (putK kvs k v)))\/
 ∃kvs k b,H a=Z9 (.dT kvs)/\y=.ref b/\H b=Z9 (.tup (k.map kV))/\kvs.length<ay/\H'=upd H a (.dT (putK kvs k v))
theorem DGet.k {k:Key}(e:H a=Z9 (.dK kvs)):DGet H a (kV k) (cQ kvs k):=.inl ⟨kvs,k,.inl e,rfl,rfl⟩
theorem DPut.k {k:Key}(e:H a=Z9 (.dK kvs))(hl:kvs.length<ay):DPut H a (kV k) v (upd H a (.dK (putK kvs k v))):=.inl ⟨kvs,k,e,rfl,hl,rfl⟩
section
variable {X:Cx}{pins:List (Addr×Obj)}{σ:St}{H:Hp}{s:au}{a:Addr}{y v:V}{u r:Value}{o:Option V}{A:d9}{E:Value->au->Prop}
theorem Inv.big (I:Inv X pins σ H s):gm<s.heap.objs.size:=by exact mf (by decide) ((I.mod.glob.keeps I.bk).lt)
theorem zbg (hu:A.units+1<cLine)(I:Inv X pins σ H s)(g:DGet H a y (Z9 v))(n:RelV y u)(h:∀d o,Inv X pins σ H o->RelV v d->Q d o):
  wpAny (model X.prog X.w) A (o9 (.ref a) u) Q E s:=by
 rcases g with⟨f,k,e,i,l⟩|⟨f,k,b,e,i,q,l⟩
 .subst i;obtain⟨z,hd,t,rel,dd⟩:=qK I.hok e;obtain⟨d,j,c⟩:=cO.some_of (l▸rel.val k);exact wpAny_getItem_of (rK n) dd.mapOf j (h d _ (I.tok _) c)
 .subst i;cases n;obtain⟨z,hd,x,rel,dd⟩:=z7g I.hok e;obtain⟨d,j,c⟩:=cO.some_of (l▸rel.val k);obtain⟨p,r,m⟩:=dg.mp j;refine wpAny_getItem_heap (gq hu) (t5 I.hok q) dd r ?_;rw[m];exact h d _ (I.tok _) c
theorem d_in (hu:A.units+1<cLine)(I:Inv X pins σ H s)(g:DGet H a y o)(f:RelV y u)(h:∀i,Inv X pins σ H i->Q (.bool o.isSome) i):
  wpAny (model X.prog X.w) A (cq .In u (.ref a)) Q E s:=by
 rcases g with⟨c,k,e,d,l⟩|⟨c,k,b,e,d,j,l⟩
 .subst d;obtain⟨z,hd,m,rel,dd⟩:=qK I.hok e;refine wpAny_in_of (rK f) hd dd.mapOf ?_;rw[<-(rel.val k).cE,<-l];exact h _ (I.tok _)
 .subst d;cases f;obtain⟨z,hd,n,rel,dd⟩:=z7g I.hok e;refine wpAny_in_heap (gq hu) (t5 I.hok j) hd dd ?_;have q:=(rel.val k).cE;rw[jn]at q;rw[<-q,<-l];exact h _ (I.tok _)
theorem zl7 (hu:A.units+1<cLine)(I:Inv X pins σ H s)(g:DGet H a y o)(f:RelV y u)(h:∀i,Inv X pins σ H i->Q (.bool (!o.isSome)) i):
  wpAny (model X.prog X.w) A (cq .NotIn u (.ref a)) Q E s:=by
 rcases g with⟨c,k,e,d,l⟩|⟨c,k,b,e,d,j,l⟩
 .subst d;obtain⟨z,hd,m,rel,dd⟩:=qK I.hok e;refine wpAny_notIn_of (rK f) hd dd.mapOf ?_;rw[<-(rel.val k).cE,<-l];exact h _ (I.tok _)
 .subst d;cases f;obtain⟨z,hd,n,rel,dd⟩:=z7g I.hok e;refine wpAny_notIn_heap (gq hu) (t5 I.hok j) hd dd ?_;have q:=(rel.val k).cE;rw[jn]at q;rw[<-q,<-l];exact h _ (I.tok _)
theorem z78 (I:Inv X pins σ H s)(mu:Mut (H a))(hs:bv a s.heap c)(e:∃q,c.get? a=Z9 q)(new:z1x X.prog X.w (upd H a d) c a d):
  Inv X pins σ (upd H a d) {s with heap:=c,toks:=t'}:=
 I.write mu (.inl rfl) (λb q hb z=>(hs.2 b hb).trans z) e new
theorem EV (z:b.length<=ay)(hd:(a==gm)=Z6)(rel:KV b c)(dd:d.DictOf (eX P w) a c): z1x P w e d a (.dK b):=⟨z,hd,c,rel,dd⟩
theorem zel (hu:A.units+1<cLine)(I:Inv X pins σ H s)(g:DPut H a y v B)(n:RelV y u)(rv:RelV v r)(h:∀o,Inv X pins σ B o->Q () o):
  wpAny (model X.prog X.w) A (setItem (.ref a) u r) Q E s:=by
 rcases g with⟨f,k,e,j,l,m⟩|⟨f,k,b,e,j,p,l,m⟩
 .subst j m;obtain⟨z,hd,C,rel,dd⟩:=vk I.hok e;have t:C.length<=ay:=rel.length▸z;exact wpAny_setItem_pairs (hsz:=t) (rK n) dd λD d hs=>h _ (z78 I (e▸True.intro) hs (let⟨q,_,_,i,_⟩:=d;⟨q,i⟩) (EV (by have:=Aw f k v;omega) hd (rel.put k rv) d))
 .subst j m;cases n;obtain⟨z,hd,F,rel,dd⟩:=Lu I.hok e;have t:F.length<=ay:=Paired.length rel▸z;refine wpAny_setItem_heap (gq hu) (t5 I.hok p) dd λD d hs=>h _ ?_;obtain⟨q,es,ep,i,G,J,K,_,L⟩:=d;refine z78 I (e▸True.intro) hs ⟨q,i⟩ ⟨(by have:=Aw f k v;omega),hd,_,(rel.put k p rv).keeps λc M x=>?_,q,es,ep,i,G,J,K,L⟩;rw[aL (Kb x e (λz=>nomatch z))];exact x
end
section
variable {X:Cx}{pins:List (Addr×Obj)}{σ:St}{H:Hp}{s:au}{a:Addr}{kvs:List (Key×V)}{k:Key}{u:Value}{A:d9}{E:Value->au->Prop}
theorem Lv (I:Inv X pins σ H s)(e:Rd H a (.dK kvs))(h:∀t b,Inv X pins σ H b->Q (.int kvs.length t) b):wpAny (model X.prog X.w) A (call (.builtin "len") [.ref a]) Q E s:=by obtain⟨z,hd,c,rel,dd⟩:=qK I.hok e;refine call_len_dict hd dd (by rw[<-rel.length];rw[bz]at z;omega) ?_;rw[<-rel.length];exact h _ _ (I.tok _)
end
theorem Lw (I:Inv X d f H s)(g:DGet H a y o):s.TypeIs (.ref a) "dict":=by
 rcases g with⟨c,k,e,_,_⟩|⟨c,k,b,e,_,_,_⟩
 .obtain⟨_,_,h,_,dd⟩:=qK I.hok e;exact dd.typeIs
 .obtain⟨_,_,i,_,dd⟩:=z7g I.hok e;exact dd.typeIs
theorem EW (h:Heap)(hb:gm<h.objs.size):z1x P w H (h.push {cls:=.type "dict",data:=.dict #[]}) h.objs.size (.dK []):=⟨cn _,beq_eq_false_iff_ne.mpr (Ne.symm (b8 hb)),[],.nil,Heap.DictOf.new h⟩
def EX:TE:=λ_ H Q=>∀p,H p=Z8->Q (.ref p) (upd H p (.dK []))
section
variable {X:Cx}{pos:Pos}
theorem EY:PE X (.Dict [] [] pos) EX:=λa s b H Q I h=>wpAny_Dict_empty ⟨.ref s.heap.objs.size,_,I.laid (λ_ _ q=>ak _ q) (ah _) (EW s.heap I.big),rfl,h _ (I.hok.fresh (ah _))⟩
end
def Ax:List (TE×TE)->St->Hp->(List (V×V)->Hp->Prop)->Prop
 | [],_,H,Q=>Q [] H
 |(tk,tv)::r,σ,H,Q=>tk σ H λx H1=>tv σ H1 λy H2=>Ax r σ H2 λps H3=>Q ((x,y)::ps) H3
abbrev VV:List (V×V)->List (Value×Value)->Prop:=iz λp q=>RelV p.1 q.1/\RelV p.2 q.2
def PPs (X:Cx)(pos:Pos)(keys:List (Option Expr))(values:List Expr)(Ay:List (TE×TE)):Prop:=∀(pins:List (Addr×Obj)) (s:au) (σ:St) (H:Hp) (Q:List (V×V)->Hp->Prop),Inv X pins σ H s->Ax Ay σ H Q->wpAny (model X.prog X.w) X.A (evalPairs (pairTrees keys values X.env pos)) (λvs s'=>∃ps H',Inv X pins σ H' s'/\VV ps vs/\Q ps H') X.xe s
theorem Lx:PPs X pos [] [] []:=λa s b H Q I h=>pairTrees_nil_walk ⟨[],H,I,.nil,h⟩
theorem zgj (hk:PE X k d)(e:PE X v tv)(hr:PPs X pos ks f b):
  PPs X pos (Z9 k::ks) (v::f) ((d,tv)::b):=λa s c H Q I h=>
 pairTrees_cons_walk (aM (hk a s c H _ I h) λu g ⟨x,i,j,l,m⟩=>aM (e a g c i _ j m) λA n ⟨y,o,p,q,r⟩=>aM (hr a n c o _ p r) λws B ⟨ps,t,w,rel,z⟩=>⟨(x,y)::ps,t,w,.cons ⟨l,q⟩ rel,z⟩)
def vm (kvs more:List (Key×V)):List (Key×V):=more.foldl (λacc kv=>putK acc kv.1 kv.2) kvs
theorem KV.merge:∀{a:List (Key×V)} {d:List (Key×Value)} {b:List (Key×V)} {c:List (Key×Value)},KV a d->KV b c->KV (vm b a) (merged c d):=by
 intro a d b c r
 induction r generalizing b c with
 |nil=>intro q;exact q
 | @cons p q ps i h t f=>
  intro g;have e:KV (putK b p.1 p.2) (stored c q.1 q.2):=by have:=g.put p.1 h.2;rw[<-h.1];exact this
  exact f e
theorem EZ:∀b a,(vm a b).length<=a.length+b.length
 | [],a=>by show a.length<=a.length+0;omega
 |p::r,a=>by have c:=EZ r (putK a p.1 p.2);have d:=Aw a p.1 p.2;show(vm (putK a p.1 p.2) r).length<=_;rw[am];omega
theorem E1:∀{d:List (Key×V)} {ws:List (Value×Value)},VV (d.map λf=>(kV f.1,f.2)) ws->∃e,Carries (eX P w) ws e/\KV d e
 | [],_,r=>by rw[ma]at r;cases r;exact⟨[],True.intro,.nil⟩
 |p::d,_,r=>by
  cases r with
  | @cons a b i bs h t=>obtain⟨e,c,q⟩:=E1 t;obtain⟨j,g⟩:=b;exact⟨(p.1,g)::e,⟨rK h.1,rfl,c⟩,.cons ⟨rfl,h.2⟩ q⟩
def Ly (Ay:List (TE×TE)):TE:=λσ H Q=>∀p,H p=Z8->Ax Ay σ (upd H p (.dK [])) λps H2=>H2 p=Z9 (.dK [])/\∃kvs:List (Key×V),ps=kvs.map (λkv=>(kV kv.1,kv.2))/\kvs.length<=15/\Q (.ref p) (upd H2 p (.dK (vm [] kvs)))
theorem zk3 (h:PPs X pos keys values g)(a:keys.all (·.isSome)=Z7)(hl:keys.length=values.length)(h0:keys≠[])
  (i:keys.length<=15):PE X (.Dict keys values pos) (Ly g):=by
 intro b s k H Q I q;refine wpAny_Dict_walk (knd:=eX X.prog X.w) a hl h0 i (aM (h b _ k _ _ (I.laid (t':=s.toks) (λ_ _ q=>ak _ q) (ah _) (EW s.heap I.big)) (q _ (I.hok.fresh (ah s.heap.objs.size)))) λws t ⟨ps,u,j,rel,e,d,ep,v,l⟩=>?_);subst ep;obtain⟨m,c,rk⟩:=E1 rel;obtain⟨z,hd,n,o,dd⟩:=vk j.hok e;cases o;refine⟨m,c,dd,λx f hs=>⟨.ref s.heap.objs.size,_,?_,rfl,l⟩⟩;have p:(vm [] d).length<=ay:=by have r:=EZ d [];rw[List.length_nil]at r;rw[bz];omega
 exact z78 j (e▸True.intro) hs (let⟨q,_,_,hq,_⟩:=f;⟨q,hq⟩) (EV p hd (rk.merge .nil) f)
structure M1 (X:Cx)(o:Expr)(m:Str)(apos:Pos)(e:Expr)(cpos:Pos):Prop where
 base:gv o m X.env (eval o X.env)=eval o X.env
 LA:((ik cpos (b7 [e] X.env)).all (λx=> !x.1)&&(pb cpos (k8 [] X.env)).all (λx=>x.1.isSome) &&decide (([e]:List Expr).length+([]:List kz).length+(if([]:List kz).isEmpty then 0 else 1)<30))=Z7
 line:(apos.endLine==cpos.line)=Z7
 trees:ik cpos (b7 [e] X.env)=[(Z6,eval e X.env)]
def IsD (H:Hp)(a:Addr):Prop:=(∃kvs,Rd H a (.dK kvs))\/∃kvs,Rd H a (.dT kvs)
theorem zqu {X:Cx}{pins:List (Addr×Obj)}{σ:St}{H:Hp}{s:au}{a:Addr}(I:Inv X pins σ H s)(d:IsD H a):
  s.TypeIs (.ref a) "dict"/\(∀b,ZT a=.ref b->∃ob,s.heap.get? b=Z9 ob/\ob.dict=Z8)/\(a==gm)=false:=by
 rcases d with⟨kvs,e⟩|⟨kvs,e⟩
 .obtain⟨_,hd,vs,_,dd⟩:=qK I.hok e;refine⟨dd.typeIs,λb q=>?_,hd⟩;cases q;obtain⟨ob,_,_,h1,h2,_⟩:=dd;exact⟨ob,h1,h2.2.1⟩
 .obtain⟨_,hd,xs,_,dd⟩:=z7g I.hok e;refine⟨dd.typeIs,λb q=>?_,hd⟩;cases q;obtain⟨ob,_,_,h1,h2,_⟩:=dd;exact⟨ob,h1,h2.2.1⟩
section
variable {X:Cx}{pins:List (Addr×Obj)}{σ:St}{H:Hp}{s:au}{a:Addr}{y d:V}{u r:Value}{o:Option V}{A:d9}{E:Value->au->Prop}
theorem zpr {Q:Value->au->Prop}(hu:A.units+1<cLine)(I:Inv X pins σ H s)(g:DGet H a y o)(ry:RelV y u)(h:∀w' s',Inv X pins σ H s'->RelV (o.getD .non) w'->Q w' s'):
  wpAny (model X.prog X.w) A (call (.builtin "dict.get") [.ref a,u]) Q E s:=by
 rcases g with⟨kvs,k,e,ey,l⟩|⟨kvs,k,b,e,ey,eb,l⟩
 .subst ey;obtain⟨z,hd,vs,rel,dd⟩:=qK I.hok e;refine pc PySem.F.slot_dict_get dd.typeIs PySem.F.entry_dict_get (PySem.F.args_dict_get_2 _ _) (meets_dict_get (eX X.prog X.w) a (rK ry) hd) ⟨_,dd.mapOf,h _ _ (I.tok _) ?_⟩;rw[l];exact(rel.val k).getD rfl
 .subst ey;cases(show u=ZT b from ry);obtain⟨z,hd,xs,rel,dd⟩:=z7g I.hok e;refine pc PySem.F.slot_dict_get dd.typeIs PySem.F.entry_dict_get (PySem.F.args_dict_get_2 _ _) (meetsH_dict_get (lr (eX X.prog X.w)) a b hd) ⟨gq hu,k,xs,t5 I.hok eb,dd,h _ _ (I.tok _) ?_⟩;rw[l];exact(rel.val k).getD rfl
end
def E2 (td ty:TE):TE:=λσ H Q=>td σ H λx H1=>∃a,x=.ref a/\IsD H1 a/\ty σ H1 λy H2=>∃o,DGet H2 a y o/\Q (o.getD .non) H2
section
variable {X:Cx}{o e f:Expr}{apos cpos:Pos}{td ty tx:TE}
theorem LB (hu:X.A.units+1<cLine)(ho:PE X o td)(he:PE X e ty)(m:M1 X o "get" apos e cpos):PE X (.Call (.Attribute o "get" apos) [e] [] cpos) (E2 td ty):=by intro pins s σ H Q I h;refine wpAny_Call_method m.base m.LA m.line PySem.F.plainAttrs_dict PySem.F.slot_dict_get PySem.F.type_dict_get (aM (ho pins s σ H _ I h) λu s1 ⟨x,H1,I1,rx,a,ex,d,q1⟩=>?_);subst ex;obtain rfl:u=ZT a:=rx;obtain⟨t1,t2,_⟩:=zqu I1 d;refine⟨t1,t2,?_⟩;rw[m.trees];refine jo rfl (m8 (ot (aM (he pins s1 σ H1 _ I1 q1) λiv s2 ⟨y,H2,I2,ry,ov,g,q2⟩=>o6 ?_)));exact zpr hu I2 g ry λw' s3 I3 vo=>⟨_,H2,I3,vo,q2⟩
end
end L2
namespace HT
open PySem PyProof.Rows
section
variable {prog:bp}{w:World}{A:d9}{E:Value->au->Prop}{s:au}
theorem cat_tup (ht:IsTup s.heap t c.toArray)(hb:IsTup s.heap b ws.toArray)(l:c≠[])
  (p:ws=[]->Q (.ref t) s) (q:ws≠[]->Q (.ref s.heap.objs.size) {s with heap:=s.heap.push {cls:=.type "tuple",data:=.seq (c++ws).toArray}})
  (d:c.length+ws.length<=ay):wpAny (model prog w) A (fm .Add (.ref t) (.ref b)) Q E s:=by
 obtain⟨⟨cls,dd,data,sl⟩,ho,r,n,hd⟩:=id ht;obtain⟨⟨m,f,i,g⟩,a,j,o,k⟩:=id hb;subst r hd j k;have e:c.toArray++ws.toArray=(c++ws).toArray:=by simp
 by_cases h:ws=[]
 .exact mh ⟨_,ho,rfl⟩ ⟨_,a,rfl⟩ lu ol PySem.F.slot_tuple_add PySem.F.entry_tuple_add (PySem.F.args_tuple_add_2 _ _) (tuple_addW1 t b c.toArray ws.toArray n o dd f sl g (by simpa using l) (by simp[h])) ⟨ho,a,p h⟩
 .refine mh ⟨_,ho,rfl⟩ ⟨_,a,rfl⟩ lu ol PySem.F.slot_tuple_add PySem.F.entry_tuple_add (PySem.F.args_tuple_add_2 _ _)
   (tuple_addW2 t b c.toArray ws.toArray n o dd f sl g (by simpa using l) (by simpa using h) (bg▸d)) ⟨ho,a,?_⟩
  rw[e];exact q h
def bB (n d:Nat):Option Int->Nat
 |none=>d
 |some v=>if v<0 then(v+(n:Int)).toNat else min v.toNat n
theorem rL (n d:Nat)(hd:d<=n)(o:Option Int):bB n d o<=n:=by
 cases o with
 |none=>exact hd
 |some v=>
  show(if v<0 then(v+n).toNat else min v.toNat n)<=n;by_cases a:v<0
  .rw[qe a];omega
  .rw[qf a];exact Nat.min_le_right _ _
theorem E3 (v:Int)(n d:Nat):(if v<0 then max (v+(n:Int)) 0 else min v (n:Int))=((bB n d (Z9 v):Nat):Int):=by
 show(if v<0 then max (v+n) 0 else min v n)=(((if v<0 then(v+n).toNat else min v.toNat n):Nat):Int);by_cases a:v<0
 .simp only[qe a];omega
 .simp only[qf a];omega
theorem LC (a b:Option Int)(n:Nat):ki a b 1 (n:Int)=(((bB n 0 a:Nat):Int),((bB n n b:Nat):Int)):=by
 refine Prod.ext ?_ ?_
 .cases a with
  |none=>rfl
  |some v=>exact E3 v n 0
 .cases b with
  |none=>rfl
  |some v=>exact E3 v n n
theorem LD (i j:Nat):fu (i:Int) (j:Int) 1=j-i:=by unfold fu;split<;>omega
theorem E4 (p:ou v o)(h:Q o s):wpAny (model prog w) A (Builtin.Slice.slicePartIndex v) Q E s:=by
 cases p with
 |none=>exact slicePart_none h
 |int i t=>exact slicePart_int h
theorem z3d {a:Option Int}{n:Nat}(hs:s.heap.IsSliceOf sl e f .none)(pl:ou e a)(pu:ou f d)
  (h:Q (((bB n 0 a:Nat):Int),1,bB n n d-bB n 0 a) s):wpAny (model prog w) A (Builtin.Slice.sliceApplied (.ref sl) (pure n)) Q E s:=by
 obtain⟨os,b,g,c⟩:=id hs;refine ae (ae (dm b c rfl (ae (dm b c rfl (ae (dm b c rfl (az ?_)))))));refine ae (slicePart_none ?_);refine ae (E4 pl (ae (E4 pu (ae (az ?_)))));show wpAny _ _ (match ki a d 1 n with|(a,d)=>pure (a,(1:Int),fu a d 1)) _ _ s;rw[LC a d n];show wpAny _ _ (pure (((bB n 0 a:Nat):Int),1,fu ((bB n 0 a:Nat):Int) ((bB n n d:Nat):Int) 1)) _ _ s;rw[LD];exact az h
theorem LF (a:Array Value)(i k:Nat):((ce k).filterMap λ(m:Nat)=>a[((i:Int)+(m:Int)*1).toNat]?).toArray=((a.toList.drop i).take k).toArray:=by
 have e:(λ(m:Nat)=>a[((i:Int)+m*1).toNat]?)=λm=>a[i+m]?:=by
  funext m
  have:((i:Int)+m*1).toNat=i+m:=by omega
  rw[this]
 rw[e];have:=pick_run a i k;rw[List.filterMap_map]at this;have b:((λx=>a[x]?)∘λx=>i+x)=λm=>a[i+m]?:=rfl;rw[b]at this;rw[this]
theorem getItem_tuple_cut {b:Option Int}(ht:IsTup s.heap t items)(hs:s.heap.IsSliceOf sl i j .none)(pl:ou i b)(pu:ou j c)
  (k:¬(bB items.size 0 b=0/\bB items.size items.size c=items.size))
  (h:Q (.ref s.heap.objs.size) {s with heap:=s.heap.push {cls:=.type "tuple",data:=.seq ((items.toList.drop (bB items.size 0 b)).take (bB items.size items.size c-bB items.size 0 b)).toArray}})
  (g:items.size<=ay):wpAny (model prog w) A (o9 (.ref t) (.ref sl)) Q E s:=by
 have a:sizeOk (.seq ((items.toList.drop (bB items.size 0 b)).take (bB items.size items.size c-bB items.size 0 b)).toArray):=by show((items.toList.drop (bB items.size 0 b)).take (bB items.size items.size c-bB items.size 0 b)).toArray.size<=ay;rw[bg,cv,d5,db];omega
 obtain⟨os,d,e,l⟩:=id hs;unfold o9
 try with_reducible refine i6 ?_
 first|refine ae (az ?_)|skip
 refine ae (wpAny_sequenceKey ht.typeIs (by decide) ?_);refine ae (eh ht.typeIs PyProof.Rows.slot_tuple_getitem (gh PyProof.Rows.slot_tuple_getitem ht.typeIs entry_tuple_getitem ?_ (args_tuple_getitem _ _)));show wpAny _ _ (Builtin.Tuple.tupleItemsOf (.ref t)>>=_) _ _ s;refine ae (tupleItemsOf_ ht ?_);refine ae (wpAny_typeOf ⟨os,d,e⟩ ?_);refine ae (z3d hs pl pu ?_);have f:¬((((bB items.size 0 b:Nat):Int)==0&&(1:Int)==1&&(bB items.size items.size c-bB items.size 0 b)==items.size)=Z7):=by intro q;rw[aq,aq]at q;have m:=eq_of_beq q.1.1;have n:=eq_of_beq q.2;exact k ⟨by omega,by omega⟩
 show wpAny _ _ (if(((bB items.size 0 b:Nat):Int)==0&&1==1&&(bB items.size items.size c-bB items.size 0 b)==items.size)=Z7 then _ else _) _ _ s;rw[qf f,LF]
 first
  |exact ae (gy (az ⟨_,rfl,az h⟩) a)
  |exact ae (gy (ae (az (az ⟨_,rfl,az h⟩))) a)
  |exact ae (ae (gy (az (az ⟨_,rfl,az h⟩)) a))
  |exact ae (ae (gy (az ⟨_,rfl,az h⟩) a))
end
end HT
namespace L2
open PySem PySem.Spec PyProof.Rows
abbrev TO:=St->Hp->(Option Int->Hp->Prop)->Prop
def PO (X:Cx)(e:Option Expr)(t:TO):Prop:=∀(pins:List (Addr×Obj)) (s:au) (σ:St) (H:Hp) (Q:Option Int->Hp->Prop),Inv X pins σ H s->t σ H Q->wpAny (model X.prog X.w) X.A (evalPart e X.env) (λu s'=>∃o H',Inv X pins σ H' s'/\ou u o/\Q o H') X.xe s
def LG:TO:=λ_ H Q=>Q Z8 H
def LH (t:TE):TO:=λσ H Q=>t σ H λx H1=>∃i,x=.int i/\Q (Z9 i) H1
theorem intsAre_of:∀{a:List Value},Vals (ns.map V.int) a->nv a ns:=by
 induction ns with
 |nil=>intro a r;rw[ma]at r;cases r;exact .nil
 |cons n ns b=>
  intro a r;cases r with
  |cons c d=>obtain⟨t,rfl⟩:=c;exact .cons n t (b d)
section
variable {X:Cx}{e:Expr}{te:TE}{lo hi:Option Expr}{tl th:TO}{pos p2:Pos}
theorem LI:PO X Z8 LG:=by intro a s b H Q I h;exact az ⟨Z8,H,I,.none,h⟩
theorem LJ (h:PE X e te):PO X (Z9 e) (LH te):=by intro a s b H Q I c;refine aM (h a s b H _ I c) λu k ⟨x,d,f,g,j⟩=>?_;obtain⟨i,rfl,q⟩:=j;obtain⟨t,rfl⟩:=g;exact⟨Z9 i,d,f,.int i t,q⟩
def oF (X:Cx)(r:V->Option Int->Option Int->Hp->VK->Prop):Prop:=∀(pins:List (Addr×Obj)) (s:au) (σ:St) (H:Hp) (x:V) (v vl vu:Value) (lo hi:Option Int) (sl:Addr) (Q:VK),Inv X pins σ H s->RelV x v->s.heap.IsSliceOf sl vl vu .none->ou vl lo->ou vu hi->r x lo hi H Q->∃T id,typeLookup (.type T) "__getitem__"=pure (Z9 (.builtin id))/\s.TypeIs v T/\wpAny (model X.prog X.w) X.A (o9 v (.ref sl)) (EP X pins σ Q) X.xe s
theorem oF.or (h:oF X r)(f:oF X g):oF X (λx lo hi H Q=>r x lo hi H Q\/g x lo hi H Q):=by
 intro a s b H x v c d lo hi sl Q I e hs pl pu q;rcases q with q|q
 .exact h a s b H x v c d lo hi sl Q I e hs pl pu q
 .exact f a s b H x v c d lo hi sl Q I e hs pl pu q
def LK (r:V->Option Int->Option Int->Hp->VK->Prop)(te:TE)(tl th:TO):TE:=λσ H Q=>te σ H λx H1=>tl σ H1 λl H2=>th σ H2 λu H3=>r x l u H3 Q
theorem LL (hr:oF X r)(j:PE X e te)(hl:PO X lo tl)(hu:PO X hi th):PE X (.Subscript e (.Slice lo hi Z8 p2) pos) (LK r te tl th):=by intro a s c H Q I h;refine Subscript_ (aM (j a s c H _ I h) λv k ⟨x,m,n,o,p⟩=>?_);refine wpAny_Slice (aM (hl a k c m _ n p) λf t ⟨l,w,y,pl,z⟩=>aM (hu a t c w _ y z) λg d ⟨u,i,A,pu,B⟩=>?_);refine az ?_;have C:Inv X a c i {d with heap:=d.heap.push {cls:=.type "slice",data:=.fields #[f,g,.none]}}:=A.kept λb F q=>ak _ q;obtain⟨T,id,D,ht,E⟩:=hr a {d with heap:=d.heap.push {cls:=.type "slice",data:=.fields #[f,g,.none]}} c i x v f g l u d.heap.objs.size Q C o (Heap.IsSliceOf.new ..) pl pu B;exact tail_any ht D E (by with_unfolding_all rfl)
def oV (xs:List V)(lo hi:Option Int):List V:=(xs.drop (HT.bB xs.length 0 lo)).take (HT.bB xs.length xs.length hi-HT.bB xs.length 0 lo)
theorem E5 (a:List V)(lo hi:Option Int):(oV a lo hi).length<=a.length:=by unfold oV;rw[cv,d5];omega
def Az (K:Z5):V->Option Int->Option Int->Hp->VK->Prop:=λx lo hi H Q=>∃a xs,x=.ref a/\cP K H a xs/\¬(HT.bB xs.length 0 lo=0/\HT.bB xs.length xs.length hi=xs.length)/\∀p,H p=Z8->Q (.ref p) (upd H p (.tup (oV xs lo hi)))
theorem LM:oF X (Az X.K):=by
 rintro f s j H x v k l lo hi sl Q I h hs pl pu ⟨a,d,rfl,hx,i,q⟩
 cases h;obtain⟨e,r,ht,g⟩:=I.tuple hx;have c:e.toArray.size=d.length:=bg▸r.length.symm;refine⟨"tuple",_,PyProof.Rows.slot_tuple_getitem.lookup,ht.typeIs,?_⟩;refine HT.getItem_tuple_cut ht hs pl pu (c▸i) ?_ (c▸g);rw[c];refine⟨.ref s.heap.objs.size,_,I.laid (λb m q=>ak _ q) (ah _) ?_,rfl,q _ (I.hok.fresh (ah _))⟩;exact⟨bh (E5 d lo hi) g,_,(r.drop (HT.bB d.length 0 lo)).take (HT.bB d.length d.length hi-HT.bB d.length 0 lo),iM.new _ _⟩
def E6 (K:Z5):R2:=λx y H Q=>∃a b xs ys,x=.ref a/\y=.ref b/\cP K H a xs/\cP K H b ys/\xs≠ []/\xs.length+ys.length<=ay/\(ys=[]->Q (.ref a) H)/\(ys≠[]->∀p,H p=Z8->Q (.ref p) (upd H p (.tup (xs++ys))))
theorem Vals.gY (r:Vals a b):b=[]↔a=[]:=by
 cases r with
 |nil=>simp
 |cons _ _=>simp
theorem LN:OpR X (fm .Add) (E6 X.K):=by
 rintro e s n H x y v u Q I h i ⟨a,b,o,p,rfl,rfl,ha,hb,hx,f,j,k⟩
 cases h;cases i;obtain⟨l,d,m,_⟩:=I.tuple ha;obtain⟨g,c,p2,_⟩:=I.tuple hb;refine HT.cat_tup m p2 (λz=>hx (d.gY.mp z)) (λz=>⟨.ref a,H,I,rfl,j (c.gY.mp z)⟩) (λz=>?_) (by rw[<-d.length,<-c.length];exact f);refine⟨.ref s.heap.objs.size,_,I.laid (λb r q=>ak _ q) (ah _) ?_,rfl,k (λw=>z (c.gY.mpr w)) _ (I.hok.fresh (ah _))⟩;exact⟨by rw[af];exact f,_,d.append c,iM.new _ _⟩
end
def gZ (n:Nat)(i:Int):Option Nat:=if 0<=i then(if i<n then Z9 i.toNat else Z8)else if -(n:Int)<=i then Z9 (i+n).toNat else Z8
def cB {α:Type}(xs:List α)(i:Int):Option α:=(gZ xs.length i).bind λj=>xs[j]?
theorem E7 (h:gZ n i=Z9 j):seqIndex? i n=Z9 j/\j<n/\-(n:Int)<=i/\i<n:=by
 unfold gZ at h;by_cases h0:0<=i
 .rw[qe h0]at h;by_cases a:i<n
  .rw[qe a]at h;have e:=qg h;exact⟨by rw[p7 h0 a,e],by omega,by omega,a⟩
  .rw[qf a]at h;cases h
 .rw[qf h0]at h;by_cases a:-n<=i
  .rw[qe a]at h;have e:=qg h;exact⟨by rw[pd (by omega) a,e],by omega,a,by omega⟩
  .rw[qf a]at h;cases h
theorem AA (h:cB a i=Z9 v):∃j,seqIndex? i a.length=Z9 j/\a[j]?=Z9 v/\j<a.length/\-(a.length:Int)<=i/\i<a.length:=by
 unfold cB at h;cases e:gZ a.length i with
 |none=>rw[e]at h;cases h
 |some j=>rw[e]at h;obtain⟨b,c,d,f⟩:=E7 e;exact⟨j,b,h,c,d,f⟩
def E8 (b:Expr):Prop:=∀o i,subscripted b Z6 o i=operate [o,i] (o9 o i)
def lT (X:Cx)(r:R2):Prop:=∀(value slice:Expr) (pins:List (Addr×Obj)) (s:au) (σ:St) (H:Hp) (x y:V) (v u:Value) (Q:VK),Inv X pins σ H s->RelV x v->RelV y u->r x y H Q->subscripted slice Z6 v u=operate [v,u] (o9 v u)->wpAny (model X.prog X.w) X.A (subscriptTail value slice v u) (EP X pins σ Q) X.xe s
def MtR (X:Cx)(id:String)(r:V->List V->Hp->VK->Prop):Prop:=∀(pins:List (Addr×Obj)) (s:au) (σ:St) (H:Hp) (x:V) (xs:List V) (v:Value) (us:List Value) (Q:VK),Inv X pins σ H s->RelV x v->Vals xs us->r x xs H Q->wpAny (model X.prog X.w) X.A (call (.builtin id) (v::us)) (EP X pins σ Q) X.xe s
section
variable {X:Cx}{a b:Expr}{ta tb:TE}{pos:Pos}
theorem lT.or (h:lT X r)(g:lT X i):lT X (λx y H Q=>r x y H Q\/i x y H Q):=by
 intro a b c s d H x y v u Q I e f q hs;rcases q with q|q
 .exact h a b c s d H x y v u Q I e f q hs
 .exact g a b c s d H x y v u Q I e f q hs
theorem E9 (hr:lT X r)(ha:PE X a ta)(hb:PE X b tb)(hs:E8 b):PE X (.Subscript a b pos) (lR r ta tb):=by intro c s d H Q I h;exact Subscript_ (binT ha hb I h λv u e x y f g i j q=>hr a b c e d f x y v u Q g i j q (hs _ _))
def vp (K:Z5):R2:=λx y H Q=>∃p xs i v,x=.ref p/\y=.int i/\SqL K H p xs/\cB xs i=Z9 v/\Q v H
def vq (K:Z5):R2:=λx y H Q=>∃p xs i v,x=.ref p/\y=.int i/\cP K H p xs/\cB xs i=Z9 v/\Q v H
def vr:R2:=λx y H Q=>∃z i c,x=.str z/\y=.int i/\z.length<=ay/\cB z.cps.toList i=Z9 c/\Q (.str ⟨#[c]⟩) H
theorem LO:lT X (vp X.K):=by
 intro d e a s m H x y v u Q I n o h hs;obtain⟨p,F,i,z,rfl,rfl,A,B,q⟩:=h;cases n;obtain⟨t,rfl⟩:=o;obtain⟨f,r,pl,G⟩:=I.list A;obtain⟨j,c,C,J,D,E⟩:=AA B;obtain⟨w,l,g⟩:=r.get C;have hl:=r.length;have hn:=rC;have b:EP X a m Q w s:=⟨z,H,I,g,q⟩;by_cases h0:0<=i
 .have k:i.toNat=j:=by
   rw[p7 h0 E]at c;exact qg c
  exact item_listR pl.isList h0 (by omega) (by rw[k];simpa using l) b hs
 .have k:(i+f.toArray.size).toNat=j:=by
   rw[pd (by omega) D]at c;rw[bg,<-hl];exact qg c
  exact mi pl.isList.typeIs slot_list_getitem.lookup (wpAny_getItem_list_neg pl.isList (by omega) (by rw[bg]<;>omega) (by omega) (by rw[k];simpa using l) ⟨rfl,b⟩) hs
theorem LP:lT X (vq X.K):=by intro a b d s A H x y v u Q I e f h hs;obtain⟨p,B,i,z,rfl,rfl,g,k,q⟩:=h;cases e;obtain⟨t,rfl⟩:=f;obtain⟨l,r,pl,C⟩:=I.tuple g;obtain⟨j,m,n,D,E,F⟩:=AA k;obtain⟨w,o,c⟩:=r.get n;have hn:=rC;exact mi pl.typeIs slot_tuple_getitem.lookup (getItem_tuple pl (by omega) (by omega) (by rw[bg,<-r.length];exact m) (by simpa using o) ⟨rfl,⟨z,H,I,c,q⟩⟩) hs
theorem t6:lT X vr:=by
 intro a b d s o H x y v u Q I f g h hs;obtain⟨z,i,c,rfl,rfl,p,k,q⟩:=h;obtain⟨t,rfl⟩:=f;obtain⟨r,rfl⟩:=g;obtain⟨j,e,l,w,m,n⟩:=AA k;have hl:z.cps.toList.length=z.length:=by simp[Str.length]
 rw[hl]at e m n;have hn:=rC;exact tail_any (ow s z t) slot_str_getitem.lookup (getItem_str (by rw[ql (by omega),ql (by omega),Bool.or_false]) (by rw[e];simpa using l) ⟨.str ⟨#[c]⟩,H,I.tok _,⟨_,rfl⟩,q⟩) hs
def E' (K:Z5):R2:=λx y H Q=>vp K x y H Q\/vq K x y H Q\/vr x y H Q
theorem LQ:lT X (E' X.K):=LO.or (LP.or t6)
theorem LR (a:List Value)(n j:Nat)(u:Value):Obj.mapSeq (·.setIfInBounds j u) {cls:=.type "list",data:=.seq a.toArray n}={cls:=.type "list",data:=.seq (a.set j u).toArray n}:=by simp[Obj.mapSeq]
theorem Inv.lst {pins:List (Addr×Obj)}{σ:St}{H:Hp}{s:au}{p:Addr}{xs:List V}(I:Inv X pins σ H s)(h:H p=Z9 (.lst xs)):
  ∃cC n,Vals xs cC/\s.heap.get? p=Z9 {cls:=.type "list",data:=.seq cC.toArray n}/\xs.length<=ay:=by
 obtain⟨z,cC,n,r,e⟩:=I.hok p _ h;exact⟨cC,n,r,e,z⟩
theorem Inv.lstUpd {a:List Value}(I:Inv X c d H s)(h:H p=Z9 (.lst i))
  (ho:s.heap.get? p=Z9 {cls:=.type "list",data:=.seq a.toArray n}) (hf:f {cls:=.type "list",data:=.seq a.toArray n}={cls:=.type "list",data:=.seq its'.toArray n'}) (r:Vals ys its') (g:ys.length<=ay) t:
  Inv X c d (upd H p (.lst ys)) {s with heap:=s.heap.update p f,toks:=t}:=by
 have e:(s.heap.update p f).get? p=Z9 {cls:=.type "list",data:=.seq its'.toArray n'}:=by rw[jt f ho (by rw[hf]<;>rfl),hf]
 refine I.write (by rw[h];trivial) (.inl rfl) (λb u hb q=>(mj _ _ (Ne.symm hb)).trans q) ⟨_,e⟩ ?_;exact⟨g,its',n',r,e⟩
def Fb:V->V->V->Hp->(Hp->Prop)->Prop:=λo i v H Q=>∃p xs k j,o=.ref p/\i=.int k/\H p=Z9 (.lst xs)/\gZ xs.length k=Z9 j/\Q (upd H p (.lst (xs.set j v)))
theorem set_list:Ah X Fb:=by
 rintro a s h H o i v ov z u Q I l m rv ⟨p,w,k,j,rfl,rfl,d,x,q⟩
 cases l;obtain⟨t,rfl⟩:=m;obtain⟨b,n,r,ho,y⟩:=I.lst d;obtain⟨c,A,e,f⟩:=E7 x;have hl:=r.length;have hn:=rC;have g:Inv X a h (upd H p (.lst (w.set j v))) {s with heap:=s.heap.update p (Obj.mapSeq (·.setIfInBounds j u))}:=I.lstUpd d ho (LR b n j u) (r.set rv j) (by rw[dw];exact y) s.toks;by_cases h0:0<=k
 .have hk:k.toNat=j:=by
   rw[p7 h0 f]at c;exact qg c
  exact W.ki_setAt ho h0 (by omega) (by rw[bg,<-hl];exact f) (hk▸⟨_,g,q⟩)
 .have hk:(k+b.toArray.size).toNat=j:=by
   rw[pd (by omega) e]at c;rw[bg,<-hl];exact qg c
  exact W.ki_setBack ho (by omega) (by rw[bg,<-hl];exact e) (by omega) (hk▸⟨_,g,q⟩)
theorem LS (a b:Option Int)(n:Nat):(jg a b Z8 n).1=((HT.bB n 0 a:Nat):Int)/\(jg a b Z8 n).2.1=((HT.bB n n b:Nat):Int)/\(jg a b Z8 n).2.2=1:=by
 refine⟨?_,?_,rfl⟩
 .cases a with
  |none=>simp[jg,HT.bB]
  |some i=>
   simp only[jg,HT.bB,Option.getD_none,show 1>0 by decide,if_true];by_cases h:i<0
   .simp only[h,if_true]<;>omega
   .simp only[h,if_false]<;>omega
 .cases b with
  |none=>simp[jg,HT.bB]
  |some i=>
   simp only[jg,HT.bB,Option.getD_none,show 1>0 by decide,if_true];by_cases h:i<0
   .simp only[h,if_true]<;>omega
   .simp only[h,if_false]<;>omega
theorem LU (a:List Value)(b c:Option Int):slicePick a.toArray b c Z8=((a.drop (HT.bB a.length 0 b)).take (HT.bB a.length a.length c-HT.bB a.length 0 b)).toArray:=by obtain⟨d,e,f⟩:=LS b c a.toArray.size;unfold slicePick;rw[d,e,f];simp only[m9,pick_run,bg]<;>rfl
def vt (K:Z5):V->Option Int->Option Int->Hp->VK->Prop:=λx lo hi H Q=>∃a xs,x=.ref a/\SqL K H a xs/\∀p,H p=Z8->Q (.ref p) (upd H p (.lst (oV xs lo hi)))
theorem LV:oF X (vt X.K):=by
 rintro f s k H x v l m e g sl Q I h hs pl pu ⟨a,c,rfl,hx,q⟩
 cases h;obtain⟨i,r,ht,j⟩:=I.list hx;have d:=r.length;refine⟨"list",_,slot_list_getitem.lookup,ht.isList.typeIs,?_⟩;refine wpAny_getItem_list_slice ht.isList hs pl pu .none (by simp) ?_ (by rw[bg]<;>omega);rw[LU,<-d];refine⟨.ref s.heap.objs.size,_,I.laid (λb n q=>ak _ q) (ah _) ?_,rfl,q _ (I.hok.fresh (ah _))⟩;exact⟨bh (E5 c e g) j,_,0,(r.drop (HT.bB c.length 0 e)).take (HT.bB c.length c.length g-HT.bB c.length 0 e),a7 _ rfl⟩
theorem LW:CallR X (.builtin "len") (λf H Q=>∃p b,f=[.ref p]/\(SqL X.K H p b\/cP X.K H p b)/\Q (.int b.length) H):=by
 rintro g s i H f j Q I r ⟨p,b,rfl,c,q⟩
 obtain⟨u,rfl,rfl⟩:=vals1 r;have hn:=rC;rcases c with c|c
 .obtain⟨d,e,pl,h⟩:=I.list c;have a:=e.length;exact Calls.call_len_list pl.isList (by simp<;>omega) ⟨.int b.length,H,I.tok _,⟨s.toks+1,by rw[bg,a]⟩,q⟩
 .obtain⟨d,e,pl,h⟩:=I.tuple c;have a:=e.length;exact len_tuple pl (by simp<;>omega) ⟨.int b.length,H,I.tok _,⟨s.toks+1,by rw[bg,a]⟩,q⟩
theorem LX:CallR X (.builtin "len") (λa H Q=>∃z,a=[.str z]/\z.length<=ay/\Q (.int z.length) H):=by
 rintro b s c H a d Q I r ⟨z,rfl,e,q⟩
 obtain⟨u,rfl,t,rfl⟩:=vals1 r;have hn:=rC;exact len_str (by omega) ⟨.int z.length,H,I.tok _,⟨_,rfl⟩,q⟩
theorem CallR.or (h:CallR X f r)(h':CallR X f r'):CallR X f (λxs H Q=>r xs H Q\/r' xs H Q):=by
 intro pins s σ H xs us Q I rs q;rcases q with q|q
 .exact h pins s σ H xs us Q I rs q
 .exact h' pins s σ H xs us Q I rs q
theorem LY:CallR X (.type "list") (λv H Q=>∃p d,v=[.ref p]/\(SqL X.K H p d\/cP X.K H p d)/\∀l,H l=Z8->Q (.ref l) (upd H l (.lst d))):=by
 rintro h s y H v z Q I r ⟨p,d,rfl,i,q⟩
 obtain⟨u,rfl,rfl⟩:=vals1 r
 have j:∀a,Vals d a->d.length<=ay->∀c f,(∀b x,s.heap.get? b=Z9 x->c.get? b=Z9 x)->
   c.get? s.heap.objs.size=Z9 {cls:=.type "list",dict:=Z8,data:=.seq a.toArray f,slots:=#[]}->EP X h y Q (.ref s.heap.objs.size) {s with heap:=c}:=λa g k c f kp e=>
  ⟨.ref s.heap.objs.size,_,I.laid kp (ah _) (show z1x X.prog X.w _ c _ (.lst d)from⟨k,a,f,g,e⟩),rfl,q _ (I.hok.fresh (ah _))⟩
 rcases i with i|i
 .obtain⟨a,g,pl,k⟩:=I.list i;have m:=g.length;obtain⟨o,ho,t,n,hd⟩:=pl.isList;exact call_list_seq p (.inl rfl) ho t hd (λc f kp e=>j a g k c f kp e) (by simp<;>omega)
 .obtain⟨a,g,pl,k⟩:=I.tuple i;have m:=g.length;obtain⟨o,ho,t,n,hd⟩:=pl;exact call_list_seq p (.inr rfl) ho t hd (λc f kp e=>j a g k c f kp e) (by simp<;>omega)
theorem LZ:CallR X (.type "tuple") (λj H Q=>∃p d,j=[.ref p]/\((SqL X.K H p d/\∀l,H l=Z8->Q (.ref l) (upd H l (.tup d)))\/(cP X.K H p d/\Q (.ref p) H))):=by
 rintro a s k H j w Q I r ⟨p,d,rfl,h⟩
 obtain⟨u,rfl,rfl⟩:=vals1 r;rcases h with⟨g,q⟩|⟨g,q⟩
 .obtain⟨c,i,pl,m⟩:=I.list g;have n:=i.length;refine call_tuple_list pl.isList (λf kp=>?_) (by simp<;>omega);have t:Inv X a k H {s with heap:=f}:=I.kept kp;have v:Inv X a k (upd H f.objs.size (.tup d)) {s with heap:=f.push {cls:=.type "tuple",data:=.seq c.toArray}}:=t.laid (λb o e=>ak _ e) (ah _) (⟨m,c,i,iM.new _ _⟩);exact⟨.ref f.objs.size,_,v,rfl,q _ (t.hok.fresh (ah _))⟩
 .obtain⟨c,i,pl,m⟩:=I.tuple g;exact call_tuple_same pl ⟨.ref p,H,I,rfl,q⟩
def tyV (K:Z5)(T:String)(x:V)(H:Hp):Prop:=match x with
 |.str _=>T="str"
 |.int _=>T="int"
 |.ref p=>(T="list"/\∃xs,SqL K H p xs)\/(T="tuple"/\∃o,K.lookup p=Z9 o/\o.cls=.type "tuple"/\o.dict=Z8)\/(T="dict"/\((∃kvs,H p=Z9 (.dK kvs))\/∃kvs,H p=Z9 (.dT kvs)))\/(T="set"/\∃S n,H p=Z9 (.set S n))
 |_=>False
theorem zic (I:Inv X f l H s)(r:RelV x v)(ty:tyV X.K T x H):
  s.TypeIs v T/\∀a,v=.ref a->∃g,s.heap.get? a=Z9 g/\g.dict=none:=by
 cases x with
 |str z=>obtain⟨t,rfl⟩:=r;cases ty;exact⟨ow s z t,λ_ e=>nomatch e⟩
 |int i=>obtain⟨t,rfl⟩:=r;cases ty;exact⟨typeIs_int s i t,λ_ e=>nomatch e⟩
 |ref p=>
  cases r;rcases ty with⟨rfl,m,h⟩|⟨rfl,o,hk,j,hd⟩|⟨rfl,hk⟩|⟨rfl,S,n,hk⟩
  .obtain⟨k,_,pl,_⟩:=I.list h;refine⟨pl.isList.typeIs,λa e=>?_⟩;cases e;obtain⟨o,n,e,c,hd,_⟩:=pl;exact⟨o,e,hd⟩
  .refine⟨⟨o,I.eJ p o hk,j⟩,λa e=>?_⟩;cases e;exact⟨o,I.eJ _ o hk,hd⟩
  .have z:∃o,s.heap.get? p=Z9 o/\o.ExactDict:=by
    rcases hk with⟨b,hk⟩|⟨b,hk⟩
    .obtain⟨_,_,_,_,o,_,_,e,ex,_⟩:=I.hok p _ hk;exact⟨o,e,ex⟩
    .obtain⟨_,_,_,_,o,_,_,e,ex,_⟩:=I.hok p _ hk;exact⟨o,e,ex⟩
   obtain⟨o,e,ex⟩:=z;refine⟨⟨o,e,ex.1⟩,λa d=>?_⟩;cases d;exact⟨o,e,ex.2.1⟩
  .obtain⟨o,_,_,_,e,ex,_⟩:=I.hok p _ hk;refine⟨⟨o,e,ex.1⟩,λa d=>?_⟩;cases d;exact⟨o,e,ex.2.1⟩
 |_=>exact False.elim ty
def rM (K:Z5)(T:String)(r:V->List V->Hp->VK->Prop)(to:TE):TE:=λσ H Q=>to σ H λx H1=>tyV K T x H1/\r x [] H1 Q
def vy (K:Z5)(T:String)(r:V->List V->Hp->VK->Prop)(to:TE)(t:TA):TE:=λσ H Q=>to σ H λx H1=>tyV K T x H1/\t σ H1 λxs H2=>r x xs H2 Q
variable {o e:Expr}{es:List Expr}{to:TE}{t:TA}{name:Str}{apos cpos:Pos}{T id:String}{r:V->List V->Hp->VK->Prop}
theorem zdu (i:qc T)(slot:Slot T name id)(d:typeOf (.builtin id)=pure (.type "method_descriptor"))(hm:MtR X id r)(ho:PE X o to)
  (b:gv o name X.env (eval o X.env)=eval o X.env:=by rfl) (c:(apos.endLine==cpos.line)=true:=by rfl):PE X (.Call (.Attribute o name apos) [] [] cpos) (rM X.K T r to):=by
 intro a s e H Q I h;refine wpAny_Call_method0_late b c (aM (ho a s e H _ I h) λv j ⟨x,k,f,g,ty,l⟩=>?_);obtain⟨m,n⟩:=zic f g ty;exact⟨T,id,i,slot,d,m,n,jo rfl (PySem.evalArgs_none (hm a j e k x [] v [] Q f g .nil l))⟩
theorem za9 (m:qc T)(slot:Slot T name id)(g:typeOf (.builtin id)=pure (.type "method_descriptor"))(hm:MtR X id r)(ho:PE X o to)(ha:PA X (e::es) t)
  (c:gv o name X.env (eval o X.env)=eval o X.env:=by rfl)
  (f:((ik cpos (b7 (e::es) X.env)).all (λx=> !x.1)&&(pb cpos (k8 [] X.env)).all (λx=>x.1.isSome)
   &&decide ((e::es).length+([]:List kz).length+(if([]:List kz).isEmpty then 0 else 1)<30))=true:=by rfl)
  (d:(apos.endLine==cpos.line)=true:=by rfl) (hs:b7 (e::es) X.env=(Z6,eval e X.env)::b7 es X.env:=by rfl) (b:(ik cpos (b7 es X.env)).any (·.1)=false:=by rfl):
  PE X (.Call (.Attribute o name apos) (e::es) [] cpos) (vy X.K T r to t):=by
 intro a s i H Q I h;refine wpAny_Call_method_late c f d rfl (aM (ho a s i H _ I h) λv n ⟨x,p,j,k,ty,q⟩=>?_);obtain⟨u,w⟩:=zic j k ty;refine⟨T,id,m,slot,g,u,w,?_⟩;have l:=ha cpos a n i p _ j q;rw[hs]at l ⊢;refine jo (by show(Z6||(ik cpos (b7 es X.env)).any (·.1))=Z6;rw[b]<;>rfl) (m8 ?_);exact aM l λy z ⟨A,B,C,D,E⟩=>hm a z i B x A v y Q C k D E
end
def Fc (X:Cx)(id:String)(r:V->List V->Hp->VK->Prop):Prop:=∀(pins:List (Addr×Obj)) (s:au) (σ:St) (H:Hp) (x:V) (xs:List V) (v:Value) (us:List Value) (Q:VK),Inv X pins σ H s->RelV x v->Vals xs us->r x xs H Q->wpAny (model X.prog X.w) X.A (call (.builtin id) (v::us)) (EP X pins σ Q) X.xe s
theorem Vals.one (h:Vals [x] a):∃u,a=[u]/\RelV x u:=by
 cases h with
 |cons r h=>cases h;exact⟨_,rfl,r⟩
theorem Vals.two (h:Vals [x,y] a):∃u v,a=[u,v]/\RelV x u/\RelV y v:=by
 cases h with
 |cons r h=>cases h with
  |cons q h=>cases h;exact⟨_,_,rfl,r,q⟩
theorem Vals.zero:∀{a:List Value},Vals [] a->a=[]
 |_,.nil=>rfl
theorem Vals.dropLast (h:Vals xs us):Vals xs.dropLast us.dropLast:=by
 induction h with
 |nil=>exact .nil
 |cons r t ih=>
  cases t with
  |nil=>exact .nil
  |cons q t'=>exact .cons r ih
theorem Vals.eraseIdx:∀{xs:List V} {us:List Value} (i:Nat),Vals xs us->Vals (xs.eraseIdx i) (us.eraseIdx i)
 |_,_,_,.nil=>.nil
 |_,_,0,.cons _ t=>t
 |_,_,i+1,.cons r t=>.cons r (Vals.eraseIdx i t)
theorem Vals.rep (h:Vals a b):∀k,Vals (bx k a).flatten (bx k b).flatten
 |0=>.nil
 |k+1=>by exact Vals.append h (Vals.rep h k)
theorem L0 {α:Type}(l:List α):l.eraseIdx (l.length-1)=l.dropLast:=by
 induction l with
 |nil=>rfl
 |cons a r ih=>
  cases r with
  |nil=>rfl
  |cons b r=>
   have e:(a::b::r).length-1=((b::r).length-1)+1:=by have h1:(a::b::r).length=r.length+2:=rfl;have h2:(b::r).length=r.length+1:=rfl;omega
   rw[e,List.eraseIdx_cons_succ,ih]
   all_goals rfl
section
variable {X:Cx}{pins:List (Addr×Obj)}{σ:St}{H:Hp}{s:au}{l b:Addr}{xs ys zs:List V}
theorem Inv.lset {a:List Value}(I:Inv X pins σ H s)(b:H l=Z9 (.lst xs))
  (e:s.heap.get? l=Z9 {cls:=.type "list",data:=.seq a.toArray n}) (hf:f a.toArray=its'.toArray) (c:Vals ys its') (d:ys.length<=ay):
  Inv X pins σ (upd H l (.lst ys)) {s with heap:=s.heap.update l (Obj.mapSeq f),toks:=t'}:=by
 have q:=PySem.IsL.update e f;rw[hf]at q;refine I.write (b▸trivial) (.inl rfl) (λg u hb hu=>(mj s.heap (Obj.mapSeq f) (Ne.symm hb)).trans hu) ⟨_,q⟩ ?_;exact⟨d,its',_,c,q⟩
theorem Inv.lnew (I:Inv X pins σ H s)(b:Vals ys a)(c:ys.length<=ay):
  Inv X pins σ (upd H s.heap.objs.size (.lst ys)) {s with heap:=s.heap.push {cls:=.type "list",data:=.seq a.toArray},toks:=t'}:=
 I.laid (λ_ _ q=>ak _ q) (ah _) ⟨c,a,0,b,a7 _ rfl⟩
theorem Inv.fresh (I:Inv X pins σ H s):H s.heap.objs.size=none:=I.hok.fresh (ah _)
theorem Inv.kQ (I:Inv X pins σ H s)(b:H l=Z9 (.lst xs)):xs.length<=ay/\∃a n,Vals xs a/\xs.length=a.length/\s.heap.get? l=Z9 {cls:=.type "list",data:=.seq a.toArray n}:=by obtain⟨z,a,n,r,e⟩:=I.hok l _ b;exact⟨z,a,n,r,r.length,e⟩
end
section
variable {X:Cx}
def yf:V->List V->Hp->VK->Prop:=λx vs H Q=>∃l xs y,x=.ref l/\vs=[y]/\H l=Z9 (.lst xs)/\xs.length<ay/\Q .non (upd H l (.lst (xs++[y])))
theorem yg:Fc X "list.append" yf:=by
 rintro b s g H x h v i Q I d rv ⟨l,j,y,rfl,rfl,c,k,q⟩
 cases d;obtain⟨u,rfl,f⟩:=rv.one;obtain⟨z,a,n,r,hl,e⟩:=I.kQ c;refine ja F.slot_list_append ⟨_,e,rfl⟩ F.entry_list_append (F.args_list_append_2 _ _) (PySem.list_append l a.toArray n u (by grind)) ⟨e,?_⟩;refine⟨.non,_,I.lset c e (by simp) (r.append (.cons f .nil)) ?_,rfl,q⟩;rw[af,List.length_singleton];omega
def AB:V->List V->Hp->VK->Prop:=λx vs H Q=>∃l xs y,x=.ref l/\vs=[]/\H l=Z9 (.lst xs)/\xs[xs.length-1]?=Z9 y/\Q y (upd H l (.lst xs.dropLast))
theorem Fd:Fc X "list.pop" AB:=by
 intro pins s σ H x vs v us Q I rx rv h;obtain⟨l,xs,y,rfl,rfl,hH,hy,q⟩:=h;cases rx;have L1:=rv.zero;subst L1;obtain⟨z,cC,n,r,hl,e⟩:=I.kQ hH;obtain⟨u,hu,ru⟩:=r.get hy;have L3:cC.toArray[cC.toArray.size-1]?=Z9 u:=by show cC.toArray[cC.length-1]?=Z9 u;rw[<-ju,<-hl];exact hu
 refine ja F.slot_list_pop ⟨_,e,rfl⟩ F.entry_list_pop (F.args_list_pop_1 _) (MeetsSeq.list_pop_last l cC.toArray n u L3 (by rw[bg];omega)) ⟨e,?_⟩;refine⟨y,_,I.lset (its':=cC.dropLast) hH e ?_ r.dropLast ?_,ru,q⟩
 .show cC.toArray.eraseIdxIfInBounds (cC.toArray.size-1)=cC.dropLast.toArray;rw[bg,List.eraseIdxIfInBounds_toArray,L0]
 .rw[nc];omega
def vz:R2:=λx y H Q=>∃l b xs zs,x=.ref l/\y=.ref b/\H l=Z9 (.lst xs)/\H b=Z9 (.lst zs)/\xs.length+zs.length<=ay/\∀p,H p=Z8->Q (.ref p) (upd H p (.lst (xs++zs)))
theorem L4:OpR X (fm .Add) vz:=by
 rintro d s p H x y v u Q I f g ⟨l,b,t,w,rfl,rfl,h,i,A,q⟩
 cases f;cases g;obtain⟨z,c,n,r,hl,e⟩:=I.kQ h;obtain⟨B,a,C,j,k,m⟩:=I.kQ i;refine PySem.P.add_list e m ?_ (by grind);have o:c.toArray++a.toArray=(c++a).toArray:=by simp
 rw[o];exact⟨.ref _,_,I.lnew (r.append j) (by grind),rfl,q _ I.fresh⟩
end
end L2
namespace Att
open PySem PySem.W PySem.Calls PyProof.Rows
theorem L5:∀ns c,WellAll P h c (ns.map WData.int)->nv c ns:=by
 intro ns
 induction ns with
 |nil=>intro c w;cases w;exact .nil
 |cons n ns d=>
  intro c w;cases w with
  |cons a b=>cases a;exact .cons _ _ (d _ b)
theorem zc2 {l:OpenLaw}(hn:l.most=Z9 n)
  (b:l.row.toRowW.claim.pre args=Z7) (i:WellAll P h c args):
  ∃a k ns,c=[ZT a]/\args=[WData.list (ns.map WData.int)]/\h.get? a=Z9 {cls:=.type "list",data:=.seq k.toArray}/\nv k ns/\ns.length<=n:=by
 have m:l.pre.holds [] {args:=args}=true:=(pre_splitW b).2;obtain⟨d,r,rfl,o,p⟩:=hasAllW_cons ((pre_splitW b).1);obtain rfl:=hasAllW_nil p;obtain⟨v,rfl,s⟩:=hasW_list o;obtain⟨ns,rfl⟩:=items_int s
 have e:ns.length<=n:=by
  have g:(WTm.not (.lt (.lit (.int n)) (.len (.arg 0)))).holds [] {args:=[.list (ns.map .int)]}=true:=by have g:=(holds_andW m).1;rw[hn]at g;exact g
  have j:=condW_of g (w_not (w_lt w_lit (w_len_list (w_arg rfl))));refine Nat.le_of_not_lt λq=>?_
  first
   |(rw[qk q']at j;exact absurd j dc)
   |(simp at j;omega)
 cases i with
 |cons t u=>
  cases u;cases t with
  |list ho f=>exact⟨_,_,ns,rfl,rfl,ho,L5 ns _ f,e⟩
theorem L6 (l:OpenLaw)(args:List WData):l.row.toRowW.claim.post args (.bool Z7) args=true:=
 postW_of
  (show WShape.has [] (.bool Z7) .bool=Z7 by first|rfl|decide|simp[WShape.has,WShape.arms,WShape.armsAll])
  (show(WTm.eq .res (.lit (.bool Z7))).value [] {args:=args,res:=Z9 (.bool Z7),after:=args}=Z9 (.bool (Z7==Z7))from w_eq_bool (w_res rfl) w_lit) rfl
theorem attach_call {l:OpenLaw}
  (hn:l.most=Z9 n) (p:d.params.defaults=[])
  (call:∀w bP b mg s h o t cd c a g ns,
   Ground q loose [] B w bP mg s b.heap->C w b.heap->
   b.heap.get? h=Z9 o->o.data=.func (docDef d.name d.params d.body d.scope t cd c)->b.heap.CodeRec cd d.name->mg d.name=Z9 (.ref h)->
   b.heap.get? a=Z9 {cls:=.type "list",data:=.seq g.toArray}->nv g ns->ns.length<=n->b.gens=#[]->
   ky (model l.prog w) pf (.call (.ref h) ⟨[.ref a],[]⟩) (λr m=>r=.ok (.ret (.bool Z7))/\OldK b.heap m.heap/\m.os=b.os/\ku m.gens) b):
  WalkO q loose B C l.row.toRowW d [] (λf g=>PySem.call f g):=by
 intro w bP b mg s G Y h o t cd c D kV ho hd u y v E args z M i A F x H;obtain rfl:D=.none:=Dflts.none y p;obtain rfl:kV=.none:=Dflts.noKw y;obtain⟨a,g,ns,rfl,rfl,j,e,k⟩:=zc2 hn i x;refine enter_call (jm (call w bP b mg s h o t cd c a g ns G Y ho (fd_plain hd) u v j e k E) λr m I=>?_);obtain⟨rfl,J,K,L⟩:=I;exact⟨.inl ⟨.bool Z7,.bool Z7,[],rfl,λ_=>rfl,.bool Z7,L6 l _,λ_=>⟨List.Pairwise.nil,λ_ hm=>(nomatch hm)⟩⟩,J,K,L⟩
end Att
namespace L2
open PySem PySem.Spec PyProof.Rows
theorem Fe:∀{a:List Value} {ns:List Int},nv a ns->Vals (ns.map V.int) a
 |_,_,.nil=>.nil
 |_,_,.cons n t h=>.cons ⟨t,rfl⟩ (Fe h)
def Only (H:Hp):Prop:=∀b,H b=Z8\/∃o xs,H b=Z9 (.iD o (.lst xs))
theorem zgq {K:Z5}
  (I:K.In c.heap) (l:c.heap.Ns bq mg) (hb:c.heap.Ns p9 J) (B:∀x:Str,x≠"__name__"->J x=cr x) (p:c.heap.NoLimit) (Q:c.gens=#[])
  (ha:c.heap.get? a=Z9 {cls:=.type "list",data:=.seq vs.toArray}) (L:nv vs ns) (hl:ns.length<=ay) (hr:Room k pf)
  (F:∀base,K.In base->base.Ns bq mg->FnOk P w K mg base CX k fa fd [x] sp) (j:∀s u,nr s fd ⟨[u],[]⟩ [(x,u)])
  (C:∀H,Only H->SqL K H a (ns.map V.int)->sp [.ref a] H (λv _=>v=.bl Z7) λ_ _ _=>False)
  (D:∀H e f,CX [] H c (λ_ _ _=>False) e f->False):
  ky (model P w) pf (.call (.ref fa) ⟨[.ref a],[]⟩) (λr f=>r=.ok (.ret (.bool Z7))/\OldK c.heap f.heap/\f.os=c.os/\ku f.gens) c:=by
 have rv:=Fe L
 have i:∀H,Only H->SqL K H a (ns.map V.int)->HOk P w H c.heap->(∀b,H b≠Z8->b=a)->(H a≠Z8->K.lookup a=Z8)->
   ky (model P w) pf (.call (.ref fa) ⟨[.ref a],[]⟩) (λr f=>r=.ok (.ret (.bool Z7))/\OldK c.heap f.heap/\f.os=c.os/\ku f.gens) c:=by
  intro H M R hok N S;have mQ:∀{b:Addr} {o:Obj},c.heap.get? b=Z9 o->H b=Z8->(kK c.heap H).get? b=Z9 o:=λe n=>Kg e n
  have E:∀{b:Addr} {o:Obj} {es:Array DictEntry} {ep:Nat},c.heap.get? b=Z9 o->o.data=.dict es ep->H b=none:=λ{b o es ep} e d=>by
   cases q:H b with
   |none=>rfl
   |some u=>have G:=N b (by rw[q];simp);subst G;rw[ha]at e;cases e;cases d
  have g:∀{b:Addr} {m:Str->Option Value},c.heap.Ns b m->(kK c.heap H).Ns b m:=λ{b m} ⟨o,es,ep,e,d,r⟩=>⟨o,es,ep,mQ e (E e d),d,r⟩
  have t:=λb o e=>mQ (I b o e) (by
   cases q:H b with
   |none=>rfl
   |some u=>have G:=N b (by rw[q];simp);subst G;rw[S (by rw[q];simp)]at e;cases e)
  refine jm ((F _ t (g l)).run pf [] c H ⟨[.ref a],[]⟩ [.ref a] [.ref a] _ _ hr ⟨rfl,⟨t,g l,⟨J,g hb,B⟩,let⟨mc,h1,h2⟩:=p;⟨mc,g h1,h2⟩⟩,λb o e=>Kh e,o5 (Ke _ _),trivial,λb hb=>absurd (show b∈([]:List Addr)from hb) (by simp),hok,.of_eq Q⟩ (j c (.ref a)) (.cons rfl .nil) (C H M R)) λr f h=>?_;cases r with
  |error e=>exact(D H e f h).elim
  |ok T=>
   cases T with
   |next=>exact False.elim h
   |brk=>exact False.elim h
   |cont=>exact False.elim h
   |ret u=>
    obtain⟨v,H',os,bare,un,y,r',rfl⟩:=h;obtain rfl:u=Value.bool true:=r';refine⟨rfl,OldK.of_keep λb o e=>?_,os,bare⟩;cases q:H b with
    |none=>exact un.keep b o e q (by intro z;exact absurd (show b∈([]:List Addr)from z) (by simp)) (by simp)
    |some u=>
     rcases M b with z|⟨ob,xs,z⟩
     .rw[q]at z;cases z
     .have z2:=un.fR b ob _ z;obtain⟨O,_⟩:=hok b _ z;obtain⟨e2,_⟩:=y b _ z2;rw[e]at O;cases O;exact e2
 cases hk:K.lookup a with
 |some o=>have e:=I a o hk;rw[ha]at e;cases e;refine i (λ_=>Z8) (λ_=>.inl rfl) (.inr ⟨_,vs.toArray,_,hk,rfl,rfl,rfl,by rw[bg,L.length];exact hl,by simpa using rv⟩) (λb u z=>by have A:Z8=Z9 u:=z;cases A) (λb z=>absurd rfl z) λz=>absurd rfl z
 |none=>
  refine i (λb=>if b=a then Z9 (.iD {cls:=.type "list",data:=.seq vs.toArray} (.lst (ns.map V.int)))else Z8) (λb=>?_) (.inl (.inr ⟨{cls:=.type "list",data:=.seq vs.toArray},qe rfl⟩)) (λb u z=>?_) (λb z=>?_) λ_=>hk
  .by_cases hb:b=a
   .exact .inr ⟨_,_,qe hb⟩
   .exact .inl (qf hb)
  .by_cases hb:b=a
   .have A:=(qe hb).symm.trans z;cases A;subst hb;exact⟨ha,by rw[ai];exact hl,vs,_,rv,ha⟩
   .have A:=(qf hb).symm.trans z;cases A
  .by_cases hb:b=a
   .exact hb
   .exact absurd (qf hb) z
theorem walk_of {l:W.OpenLaw}{K:d8->Z5}{CX:World->CXT}{sp:World->Sp}
  (hn:l.most=Z9 n) (hn2:n<=ay) (hdf:d.params.defaults=[]) (hr:Room k pf)
  (hY:∀w h,YP w h->(K w.params).In h)
  (F:∀w mg fa h,(K w.params).In h->h.Ns bq mg->mg d.name=Z9 (.ref fa)->∃fd,(∀s u,nr s fd ⟨[u],[]⟩ [(x,u)])/\∀base,(K w.params).In base->base.Ns bq mg->FnOk l.prog w (K w.params) mg base (CX w) k fa fd [x] (sp w))
  (rN:∀w H a (ns:List Int),ns.length<=n->Only H->SqL (K w.params) H a (ns.map V.int)->sp w [.ref a] H (λv _=>v=.bl Z7) λ_ _ _=>False)
  (L7:∀w H s e s',CX w [] H s (λ_ _ _=>False) e s'->False):
  W.WalkO q loose XP YP l.row.toRowW d [] (λf vs=>PySem.call f vs):=by
 refine Att.attach_call hn hdf λw bP rp mg mb fa o pm cd doc a vs ns G Y ho hd hcd AD rO hints hlen hg=>?_;have KX:=hY w _ Y;obtain⟨fd,hb,hF⟩:=F w mg fa _ KX G.T.g AD;exact zgq KX G.T.g G.T.b G.T.builtins G.T.nolimit hg rO hints (bh hlen hn2) hr hF hb (λH hO hS=>rN w H a ns hlen hO hS) λH e s'=>L7 w H rp e s'
def z1d (s:Stmt):Arguments:=match s with
 |.FunctionDef _ a _ _ _ _ _ _ _ _=>a
 |_=>{posonlyargs:=[],args:=[],vararg:=Z8,kwonlyargs:=[],kw_defaults:=[],kwarg:=Z8,defaults:=[]}
def z0n (s:Stmt):List Stmt:=match s with
 |.FunctionDef _ _ b _ _ _ _ _ _ _=>b
 |_=>[]
def z0a (s:Stmt):Scope:=match s with
 |.FunctionDef _ _ _ _ _ _ sc _ _ _=>sc
 |_=>{kind:=.function,names:=[],isGenerator:=Z6,isCoroutine:=Z6}
abbrev mR:CXT:=λ_ _ _ _ _ _=>False
abbrev E0:XK:=λ_ _ _=>False
theorem L8:z2z mR X E0:=λ_ _ _ _ _ _ _ h=>h.elim
structure Fun (K:Z5)(x qual:Str)(st:Stmt)(f:Addr)(fd:dv):Prop where
 ex:∃(oc:Value) (od:Option Addr) (kV doc pm:Value) (an:Option Addr) (cdv ct:Value) (osl:Array (Option Value)),fd=W.fnOf x qual (z1d st) (z0n st) (z0a st) .none kV doc pm an cdv ct/\K.lookup f=Z9 ⟨oc,od,.func fd,osl⟩/\W.codeIn K cdv qual=Z7
 kp:Z3 K (.ref f)=Z7
section
variable {P:bp}{w:World}{K:Z5}{mg:Str->Option Value}{base:Heap}
theorem Fun.ok {st:Stmt}(F:Fun K x qual st f fd)(S:FnScope N ps (z0a st))(len:∀vs H Q E,sp vs H Q E->vs.length=ps.length)
  (vA:∀cdv A outer s H vs Q E,Room k (A.deeper (m7 qual (z0a st) s.heap.objs.size f cdv))->sp vs H Q E->∃t,PSs (jE mR P w K mg base N qual (z0a st) f cdv A outer s H E).uU (z0n st) t/\t {nx:=λ_ H'=>Q .non H',rt:=Q} (start N vs) H):FnOk P w K mg base mR (k+1) f fd ps sp:=by
 obtain⟨oc,od,kV,doc,pm,an,cdv,ct,osl,rfl,lk,hcd⟩:=F.ex;refine zop lk hcd S len λA outer s H vs Q E hr rN=>?_;obtain⟨t,h,q⟩:=vA cdv A outer s H vs Q E hr rN;exact⟨t,h.uU,q⟩
theorem Fun.binds {st:Stmt}(F:Fun K x c st f fd)
  (h:∀kV a d an b ct e,e.length=ps.length->qb (W.fnOf x c (z1d st) (z0n st) (z0a st) .none kV a d an b ct) ⟨e,[]⟩=pure (ps.zip e)):Binds K fd ps []:=by
 obtain⟨oc,od,kV,a,d,an,b,ct,g,rfl,j,i⟩:=F.ex;exact .all (h kV a d an b ct)
theorem AE {st:Stmt}{kV:Value}(l:K.lookup f=Z9 ⟨oc,od,.func (W.fnOf x a (z1d st) (z0n st) (z0a st) .none kV d g an b ct),e⟩) (c:W.codeIn K b a=Z7) (k:Z3 K (.ref f)=Z7):Fun K x a st f (W.fnOf x a (z1d st) (z0n st) (z0a st) .none kV d g an b ct):=⟨⟨oc,od,kV,d,g,an,b,ct,e,rfl,l,c⟩,k⟩
end
theorem bC {B:Prop}(h:B):if Z6=Z7 then A else B:=h
theorem bE {B:Prop}(h:A):if Z7=Z7 then A else B:=h
def Same (H H':Hp):Prop:=∀b o,H b=Z9 o->H' b=Z9 o
theorem Same.refl (H:Hp):Same H H:=λ_ _ h=>h
theorem Same.trans (a:Same H d)(b:Same d e):Same H e:=λc o h=>b c o (a c o h)
section
variable {X:Cx}
theorem L9:CallR X (.builtin "len") (λc H Q=>∃a b,c=[V.ref a]/\H a=Z9 (.dK b)/\Q (.int b.length) H):=by
 rintro d s f H c g Q I r ⟨a,b,rfl,ha,q⟩
 obtain⟨u,rfl,rfl⟩:=vals1 r;exact Lv I (.inl ha) λt h e=>⟨.int b.length,H,e,⟨t,rfl⟩,q⟩
end
end L2
set_option maxHeartbeats 5000000
namespace L2
open PySem PySem.Spec PyProof.Rows
def eY (env:Env):List (Str×fo)->List (Str×Addr)->List (Str×Addr)
 | [],cs=>cs
 |(n,k)::r,cs=>eY env r (if(k==.free)=Z7 then(n,(env.cells.lookup n).getD 0)::cs else cs)
theorem Fg:∀l (a:List (Str×Addr)),(∃c,a.lookup x=Z9 c)->∃c,(eY env l a).lookup x=Z9 c
 | [],a,h=>h
 |(n,k)::r,a,h=>by
  refine Fg r _ ?_;split
  .by_cases e:(x==n)=Z7
   .exact⟨_,by rw[c7,e]⟩
   .obtain⟨c,b⟩:=h;exact⟨c,by rw[c7,ph.mpr e];exact b⟩
  .exact h
theorem AF:∀(l:List (Str×fo)) cs,l.lookup x=Z9 .free->∃c,(eY env l cs).lookup x=Z9 c
 | [],cs,h=>by simp at h
 |(n,k)::r,cs,h=>by
  rw[c7]at h;cases e:(x==n)with
  |true=>rw[e]at h;have a:=qg h;subst a;exact Fg r _ ⟨_,by rw[qe (by rfl),c7,e]⟩
  |false=>rw[e]at h;exact AF r _ h
theorem zea:∀l cs,(∀y∈l,y.2=.free->∃c,env.cells.lookup y.1=Z9 c)->(∀x c,cs.lookup x=Z9 c->env.cells.lookup x=Z9 c)->
  ∀x c,(eY env l cs).lookup x=Z9 c->env.cells.lookup x=Z9 c
 | [],cs,_,h=>h
 |(n,k)::r,cs,i,h=>by
  refine zea r _ (λy j=>i y (av _ j)) λx c a=>?_;by_cases f:(k==NameKind.free)=Z7
  .rw[qe f,c7]at a;cases e:(x==n)with
   |true=>
    rw[e]at a;have g:x=n:=by simpa using e
    obtain⟨d,hd⟩:=i (n,k) ax (by simpa using f);have b:=hd;rw[b]at a;rw[g,b];exact a
   |false=>rw[e]at a;exact h x c a
  .rw[qf f]at a;exact h x c a
theorem Fh (h:∀y∈scope.names,y.2=.free->∃c,env.cells.lookup y.1=Z9 c):closureFor scope env=pure (eY env scope.names []):=by
 have go:∀l cs,(∀y∈l,y.2=.free->∃c,env.cells.lookup y.1=Z9 c)->
   (forIn l cs λx r=>if(x.2==NameKind.free)=Z7 then(do let a <-cellOf env x.1;pure (ForInStep.yield ((x.1,a)::r)):Sem _)else pure (ForInStep.yield r))=(pure (eY env l cs):Sem _):=by
  intro l
  induction l with
  |nil=>intro cs _;rfl
  |cons y r i=>
   intro cs f;obtain⟨n,k⟩:=y;rw[List.forIn_cons];unfold eY;by_cases b:(k==NameKind.free)=Z7
   .obtain⟨c,hc⟩:=f (n,k) ax (by simpa using b);have d:=hc;have e:cellOf env n=pure c:=by unfold cellOf;rw[d]
    rw[qe b,qe b];rw[e,d];exact i ((n,c)::cs) λy g=>f y (av _ g)
   .rw[qf b,qf b];exact i cs λy g=>f y (av _ g)
 have:=go scope.names [] h
 first
  |exact this
  |(show(forIn scope.names [] _>>=λr=>pure r)=_;rw[show(forIn scope.names ([]:List (Str×Addr)) _:Sem _)=_ from this];rfl)
theorem z9y (hc:∀y∈scope.names,y.2≠.cell):
  (relabel scope env).names.lookup x=Z9 .cell\/(relabel scope env).names.lookup x=Z9 .free->scope.names.lookup x=Z9 .free:=by
 have go:∀(l:List (Str×fo)),(∀y∈l,y.2≠ .cell)->∀k,(k=NameKind.cell\/k=NameKind.free)->
   (l.map λ(n,k)=>if(k==.free&&env.scope.kind==.function&&env.kindOf n==Z9 .cell)then(n,NameKind.cell)else(n,k)).lookup x=Z9 k->l.lookup x=Z9 .free:=by
  intro l
  induction l with
  |nil=>intro _ k _ h;simp at h
  |cons y r g=>
   intro d k a h;obtain⟨n,q⟩:=y;rw[bc]at h;rw[c7];by_cases c:(q==NameKind.free&&env.scope.kind==.function&&env.kindOf n==Z9 .cell)=Z7
   .have b:q=.free:=by
     simp at c;simpa using c.1.1
    dsimp only at h
    rw[qe c,c7]at h;cases e:(x==n)with
    |true=>rw[b]
    |false=>rw[e]at h;exact g (λy f=>d y (av _ f)) k a h
   .dsimp only at h
    rw[qf c,c7]at h;cases e:(x==n)with
    |true=>
     rw[e]at h;have b:=qg h;rcases a with a|a
     .exact absurd (b.trans a) (d (n,q) ax)
     .show Z9 q=Z9 .free;rw[b,a]
    |false=>rw[e]at h;exact g (λy f=>d y (av _ f)) k a h
 rintro(h|h)
 .exact go scope.names hc .cell (.inl rfl) h
 .exact go scope.names hc .free (.inr rfl) h
def blk (X:Cx)(scope:Scope)(N':List Str)(C:Addr)(fp:List Addr)(s:au)(H:Hp):Cx:={X with N:=N',bP:=s,mJ:=H,env:=compEnvC scope (eY X.env scope.names []) C X.env,outer:=X.stack,stack:=X.stack,ex:=fp,fn:=λ_=>Z6,xe:=λ_ _=>False,fx:=[]}
structure BlkScope (X:Cx)(scope:Scope)(N':List Str)(nt:Nat)(js:List Nat):Prop where
 kind:scope.kind=.function
 mS:∀y∈scope.names,y.2≠.cell
 names:∀y∈scope.names,y.2=.local->scope.names.lookup y.1=Z9 .local
 frees:∀y∈scope.names,y.2=.free->X.env.scope.names.lookup y.1=Z9 .cell\/X.env.scope.names.lookup y.1=Z9 .free
 nd:N'.Nodup
 len:N'.length=nt+js.length
 pl:∀(i j:Nat),js[i]?=Z9 j->N'[nt+i]?=X.N[j]?/\∃x,X.N[j]?=Z9 x/\scope.names.lookup x=Z9 .free
def oW (NX:List Str)(Fi scope:Scope)(N':List Str)(nt:Nat)(js:List Nat):Bool:=
 (scope.kind==.function)&&scope.names.all (λy=>!(y.2==.cell))&&scope.names.all (λy=>!(y.2==.local)||(scope.names.lookup y.1==Z9 .local))&&
 scope.names.all (λy=>!(y.2==.free)||(Fi.names.lookup y.1==Z9 .cell)||(Fi.names.lookup y.1==Z9 .free))&&decide N'.Nodup&&(N'.length==nt+js.length)&&
 (N'.drop nt==js.map λj=>NX.getD j "")&&js.all (λj=>decide (j<NX.length)&&(scope.names.lookup (NX.getD j "")==Z9 .free))
theorem Fj (hN:X.N=f)(hs:X.env.scope=c)(h:oW f c scope k l m=Z7):BlkScope X scope k l m:=by
 unfold oW at h;simp only[aq,be,decide_eq_true_eq,beq_iff_eq,j2,gz,beq_eq_false_iff_ne]at h;obtain⟨⟨⟨⟨⟨⟨⟨n,o⟩,p⟩,q⟩,r⟩,s⟩,t⟩,u⟩:=h;refine⟨n,o,λy d e=>(p y d).resolve_left (λz=>z e),λy d e=>?_,r,s,λi j g=>?_⟩
 .rw[hs];rcases q y d with(z|z)|z
  .exact absurd e z
  .exact .inl z
  .exact .inr z
 .obtain⟨a,b⟩:=u j (d4 g);have e:X.N[j]?=Z9 (f.getD j ""):=by rw[hN,ag,a9 a];rfl
  refine⟨?_,_,e,b⟩;rw[e,<-jb,t,bu,g];rfl
def fS (nt:Nat)(js:List Nat)(σ:St):St:=bx nt Z8++js.map λj=>σ.getD j Z8
section
variable {X:Cx}{scope:Scope}{N':List Str}{nt:Nat}{js:List Nat}
theorem zja (B:BlkScope X scope Q G R)(I:Inv X D J H s)
  (w:∀b∈fp,FpOk X D H b) (S:∀b∈fp,∃o,s.heap.get? b=Z9 o)
  (k:∀b o,s.heap.get? b=Z9 o->O.get? b=Z9 o) (hn:O.Ns s.heap.objs.size m1):
  Inv (blk X scope Q s.heap.objs.size fp s H) D (fS G R J) H {s with heap:=O,toks:=t1}:=by
 have g:∀x c,(eY X.env scope.names []).lookup x=Z9 c->X.env.cells.lookup x=Z9 c:=zea _ _ (λy P hf=>I.ok.has y.1 (B.frees y P hf)) (λx c h=>by simp at h);have lt:∀b o,s.heap.get? b=Z9 o->b≠s.heap.objs.size:=λb o e=>b8 (bd e);refine⟨⟨I.ok.mod,B.kind,I.ok.glob,I.ok.blt,ah _,λx y c O h2=>I.ok.inj x y c (g x c O) (g y c h2),λx T=>AF _ _ (z9y B.mS T),λx c h=>(by cases h),I.ok.hd,I.ok.frames,.inl rfl,λb E=>?_,I.bs,bh I.ok.oE I.sz,λb o e E=>?_,λb E T=>?_,I.stack,I.jW,λ_ _ z=>by cases z⟩,rfl,I.bare,Un.kept k,⟨m1,hn,λi x v e1 A e3=>?_⟩,λx c e=>?_,I.hok.fresh (ah _),λx c e=>I.cZ x c (g x c e),λp hp=>?_,I.hok.kept k,?_,λ_ _ z=>by cases z⟩
 .obtain⟨o,K⟩:=S b E;exact⟨lt b o K,λx c h=>(w b E).2.2.2.2.1 x c (g x c h)⟩
 .rcases(w b E).2.2.2.1 with z|z
  .exact I.ok.mK b o e z
  .exact absurd (bo (bd e) (bh I.ok.oE z)) (cy _)
 .rcases ao.mp (I.gW b T)with z|z
  .exact(w b E).2.1 z
  .exact(w b E).2.2.1 z
 .--a name with a value:one of Vi yh
  have hi:G<=i:=by refine Nat.le_of_not_lt λh=>?_;unfold fS at A;rw[df (da▸h),cx,qe h]at A;cases A
  unfold fS at A;rw[cf (da▸hi),da,bu]at A;cases U:R[i-G]? with
  |none=>rw[U]at A;cases A
  |some j=>
   rw[U]at A;have C:J.getD j Z8=Z9 v:=qg A;obtain⟨L,y,P,f⟩:=B.pl (i-G) j U;rw[ny hi]at L;have V:x=y:=by have M:Q[i]?=Z9 x:=e1;rw[L,P]at M;exact(qg M).symm
   subst V
   have W:J[j]?=Z9 (Z9 v):=by
    rw[ag]at C;cases q:J[j]? with
    |none=>rw[q]at C;cases C
    |some z=>rw[q]at C;simp_all
   have N:=B.frees (x,.free) (PySem.mem_of_lookup f) rfl;obtain⟨m,Vj,hl⟩:=I.loc;obtain⟨u,r,l⟩:=hl j x v P W (N.elim (λz=>.inr (.inl z)) (λz=>.inr (.inr z)));refine⟨u,r,?_⟩;rcases l with⟨Y,_⟩|⟨Y,c,hc,F⟩
   .rcases N with z|z
    .have t:X.env.scope.names.lookup x=Z9 .local:=Y;rw[z]at t;cases t
    .have t:X.env.scope.names.lookup x=Z9 .local:=Y;rw[z]at t;cases t
   .obtain⟨d,hd⟩:=AF scope.names [] f;have Z:d=c:=by have:=g x d hd;rw[hc]at this;cases this;rfl
    subst Z;refine .inr ⟨?_,d,hd,?_⟩
    .rcases e3 with z|z|z
     .exfalso
      have:∀(l:List (Str×fo)),l.lookup x=Z9 .free->(l.map λ(n,k)=>if(k==.free&&X.env.scope.kind==.function&&X.env.kindOf n==Z9 .cell)then(n,NameKind.cell)else(n,k)).lookup x≠Z9 .local:=by
       intro l
       induction l with
       |nil=>intro h;simp at h
       |cons y r ih=>
        intro h;obtain⟨n,q⟩:=y;rw[c7]at h;rw[bc]
        dsimp only
        cases e:(x==n)with
        |true=>
         rw[e]at h;have hq:=qg h;subst hq;split
         .rw[c7,e];intro z;cases z
         .rw[c7,e];intro z;cases z
        |false=>
         rw[e]at h;split
         .rw[c7,e];exact ih h
         .rw[c7,e];exact ih h
      exact this _ f z
     .exact .inl z
     .exact .inr z
    .obtain⟨o,K,Aq⟩:=F;exact⟨o,k _ _ K,Aq⟩
 .obtain⟨v,o,K,hd⟩:=I.cell x c (g x c e);exact⟨v,o,k _ _ K,hd⟩
 .obtain⟨q1,q2,q3,q4,q5⟩:=I.pin p hp;refine⟨k _ _ q1,q2,lt _ _ q1,λz=>?_,q5⟩;rcases ao.mp (I.gW p.1 z)with z|z
  .exact q3 z
  .exact q4 z
 .show(fS G R J).length=Q.length;unfold fS;rw[af,da,ai,B.len]
end
section
variable (M:Model)(A:d9)(env:Env)
abbrev gG:Value->au->Prop:=λ_ _=>False
def L' (acc:Value)(Z:au->Prop)(x:Value):au->Prop:=wpAny M A (call (.builtin "list.append") [acc,x]) (λ_=>Z) gG
def AG (elt:Expr)(acc:Value)(Z:au->Prop)(ok:Bool)(s:au):Prop:=if ok=Z7 then wpAny M A (eval elt env) (L' M A acc Z) gG s else Z s
def Ma (ifs:List Expr)(elt:Expr)(acc:Value)(Z:au->Prop):au->Prop:=wpAny M A (forIn ifs Z7 λc r=>if r=Z7 then(p4 c env (eval c env)>>=λok=>pure (ForInStep.yield ok))else pure (ForInStep.yield r)) (AG M A env elt acc Z) gG
def AH (tg:Expr)(ifs:List Expr)(elt:Expr)(acc:Value)(Z:au->Prop)(v:Value):au->Prop:=wpAny M A (oo tg env v) (λ_=>Ma M A env ifs elt acc Z) gG
def AI (tg:Expr)(ifs:List Expr)(elt:Expr)(it acc:Value)(End Z:au->Prop)(r:Option Value)(s:au):Prop:=match r with
 |some v=>wpAny M A (gr tg it v) (λ_=>AH M A env tg ifs elt acc Z v) gG s
 |none=>End s
end
theorem zji (I:Nat->au->Prop)
  (one:∀k t,I k t->wpAny (model P w) A (p5 it) (AI (model P w) A env g a b it c (R (.ok .next)) λi=>∃m,m<k/\I m i) gG t) n (h:I n s):
  ky (model P w) A (.compLoop (.ListComp b [⟨g,d,a,0⟩] scope pos) 0 it c env) R s:=by
 apply codeAny_loop rfl I _ n h;intro k t j;apply wpAny_noted;apply wpAny_noRaise;apply ae;apply on;apply ae;refine aM (one k t j) ?_
 rintro(_|v) r e
 .exact az e
 apply ae;refine aM e λ_ u l=>?_;apply ae;refine aM l λ_ y o=>?_;apply ae;refine aM o ?_
 rintro(_|_) z f
 .exact az ⟨rfl,f⟩
 apply ae;apply ae;refine aM f λx B p=>?_;apply ae;exact aM p λ_ C q=>az (az ⟨rfl,q⟩)
theorem Un.but (u:Un fs ex H f h g)(i:h.get? C=Z8)(c:bv C g j):Un fs ex H f h j:=by
 have ne:∀b o,h.get? b=Z9 o->b≠C:=λb o e z=>by rw[z,i]at e;cases e
 exact⟨λb o e n d a=>c.extBut b o (ne b o e) (u.keep b o e n d a),λb o e n d a=>let⟨sl,q⟩:=u.slot b o e n d a;⟨sl,c.extBut b _ (ne b o e) q⟩,u.free,λb o e a=>let⟨o',q⟩:=u.there b o e a;⟨o',c.extBut b _ (ne b o e) q⟩,u.gT,u.fR,u.gU⟩
theorem HOk.but (ok:HOk P w H h)(d:H C=Z8)(f:bv C h g):HOk P w H g:=λa o e=>by
 refine(ok a o e).stay (λb u c q=>f.extBut b u (λz=>?_) q) (λ_ q=>q) λ_ _ q=>q;rcases c with c|c
 .rw[z]at c;rw[<-c,d]at e;cases e
 .rw[z,d]at c;cases c
def oX (X:Cx)(ifs:List Expr)(t:TT):Prop:=∀(pins:List (Addr×Obj)) (s:au) (σ:St) (H:Hp) (Q:Bool->Hp->Prop),Inv X pins σ H s->t σ H Q->wpAny (model X.prog X.w) X.A (forIn ifs Z7 λc r=>if r=Z7 then do let ok <-p4 c X.env (eval c X.env);pure (ForInStep.yield ok)else pure (ForInStep.yield r)) (TP X pins σ Q) X.xe s
def vB:TT:=λ_ H Q=>Q Z7 H
theorem Fl:oX X [] vB:=λ_ _ _ H _ I h=>wpAny_tests_nil ⟨H,I,h⟩
theorem Fo (h:PT X c t):oX X [c] t:=λa s b H Q I q=>wpAny_tests_one (h a s b H Q I q)
def mT (a b:St):Prop:=a.length=b.length/\∀(i:Nat) v,a[i]?=Z9 (Z9 v)->b[i]?=Z9 (Z9 v)
def vC (wi:TI)(g:TG)(tc:TT)(te:TE)(em:St->St):TE:=λσ H Q=>wi σ H λJ H1=>∀l,H1 l=Z8->∃P:Nat->Nat->List V->Hp->Prop,(∃m,P 0 m [] (upd H1 l (.lst [])))/\∀i m acc H2,P i m acc H2->(J.stop i H2/\Q (.ref l) H2)\/(J.go i H2/\acc.length<ay/\∃N:List V->Hp->Prop,(∀mU H',N mU H'->∃m',m'<m/\P (i+1) m' mU H')/\∀x H3,J.kM i H2 x H3->g x (em σ) H3 λkR H4=>mT (em σ) kR/\tc kR H4 λb H5=>if b=Z7 then te kR H5 λy H6=>H6 l=Z9 (.lst acc)/\N (acc++[y]) (upd H6 l (.lst (acc++[y])))else N acc H5)
section
variable {X:Cx}{scope:Scope}{N':List Str}{nt:Nat}{js:List Nat}{tg iter elt:Expr}{ifs:List Expr}{wi:TI}{g:TG}{tc:TT}{te:TE}{pos:Pos}
theorem z4t {Q:VK}{RR:Value->Addr->Result->au->Prop}(hc:X.calm=Z7)(B:BlkScope X scope S nt js)
  (hg:∀C D s H,PG (blk X scope S C D s H) tg g) (ht:∀C D s H,oX (blk X scope S C D s H) ifs tc) (he:∀C D s H,PE (blk X scope S C D s H) elt te)
  (h2:rA X a σ tg (λJ H1=>∀l,H1 l=Z8->∃P:Nat->Nat->List V->Hp->Prop,(∃m,P 0 m [] (upd H1 l (.lst [])))/\∀i m f K,P i m f K->(J.stop i K/\Q (.ref l) K)\/(J.go i K/\f.length<ay/\∃N:List V->Hp->Prop,(∀F t,N F t->∃m',m'<m/\P (i+1) m' F t)/\∀x H3,J.kM i K x H3->g x (fS nt js σ) H3 λkR H4=>mT (fS nt js σ) kR/\tc kR H4 λb H5=>
  if b=Z7 then te kR H5 λy H6=>H6 l=Z9 (.lst f)/\N (f++[y]) (upd H6 l (.lst (f++[y])))else N f H5)) uZ j)
  (Mb:∀l C t U,(∃m,U.heap.Ns C m)->t C=Z8->C≠X.env.locals->C∉X.fs->(∀x c,X.env.cells.lookup x=Z9 c->c≠C)->X.bP.heap.objs.size<=C->(∀p∈X.pn++a,p.1≠C)->(∀h',bv C U.heap h'->Inv X a σ t {U with heap:=h'})->Q (.ref l) t->RR (.ref l) C (.ok .next) U):
  wpAny (model X.prog X.w) X.A (newList []) (λf I=>wpAny (model X.prog X.w) X.A (newFunctionEnv scope X.env.globals (eY X.env scope.names []) [] X.env.qual Z8 .none (Z9 X.env)) (λvD AJ=>ky (model X.prog X.w) X.A (.compStart (.ListComp elt [⟨tg,iter,ifs,0⟩] scope pos) 0 uZ f {vD with scope:=relabel scope X.env}) (RR f vD.locals) AJ) E I) E j:=by
 obtain⟨it,D,tn,J,K,rfl,I2,T,vE,f2,q⟩:=h2;refine gy (wpAny_newFunctionEnv B.mS (by intro y hy;simp at hy) (λh₁ L M=>?_) B.kind);have vF:∀b∈D,∃o,j.heap.get? b=Z9 o:=λb h=>let⟨o,e,_⟩:=T.obj 0 _ vE b h;⟨o,e⟩;have hl:=I2.hok.fresh (ah _);have W:=I2.lnew (t':=j.toks) .nil (cn _);obtain⟨P,⟨m0,p0⟩,turn⟩:=q _ hl;generalize Mc:j.heap.push {cls:=.type "list",dict:=Z8,data:=.seq ([]:List Value).toArray}=G at L M W ⊢;generalize Fp:j.heap.objs.size=l at hl W p0 turn ⊢;have O:∀b o,j.heap.get? b=Z9 o->G.get? b=Z9 o:=λb o e=>Mc▸ak _ e;have k:=λb o e=>M.extBut b o (b8 (bd e)) (ak _ e);have f3:∀b∈D,FpOk X a (upd K l (.lst [])) b:=λb h=>by obtain⟨o,e⟩:=vF b h;exact⟨by rw[aL (Fp▸b8 (bd e))];exact(f2 b h).1,(f2 b h).2⟩
 have J0:=zja (t1:=j.toks+([]:List (Str×Value)).length) B W f3 (λb h=>let⟨o,e⟩:=vF b h;⟨o,O b o e⟩) k L;have AK:∀{t:Hp},(∀b∈D,t b=Z8)->∀b∈D,FpOk (blk X scope S G.objs.size D {j with heap:=G,toks:=j.toks} (upd K l (.lst []))) a t b:=λhn b h=>⟨hn b h,(J0.ok.x5 b h).1,J0.ok.mL b h,.inl h,(J0.ok.x5 b h).2,(f2 b h).2.2.2.2.2⟩;have out:∀{t:Hp} {U:au},Inv (blk X scope S G.objs.size D {j with heap:=G,toks:=j.toks} (upd K l (.lst []))) a (fS nt js σ) t U->∀h',bv G.objs.size U.heap h'->Inv X a σ t {U with heap:=h'}:=λ{t U} Jn h' sb=>by exact W.call' Jn.os (Un.but Jn.base (m6 (ah _)) sb) (Jn.hok.but Jn.free sb) Jn.bare λb h=>⟨(f3 b h).2.2.2.1,(f3 b h).2.1,(f3 b h).2.2.2.2.1,(f3 b h).2.2.2.2.2⟩
 have nC:∀x c,X.env.cells.lookup x=Z9 c->c≠G.objs.size:=λx c e z=>by obtain⟨v,q⟩:=W.cell x c e;exact absurd q.lt (z▸cy _)
 have loop:∀I,I={j with heap:=h₁,toks:=j.toks+([]:List (Str×Value)).length}->
   ky (model X.prog X.w) X.A (.compLoop (.ListComp elt [⟨tg,iter,ifs,0⟩] scope pos) 0 (.ref it) (.ref l) (compEnvC scope (eY X.env scope.names []) G.objs.size X.env)) (RR (.ref l) G.objs.size) I:=by
  rintro I rfl
  refine zji (λn s'=>∃i f t,Inv (blk X scope S G.objs.size D {j with heap:=G,toks:=j.toks} (upd K l (.lst []))) a (fS nt js σ) t s'/\tn i s'.heap/\(∀b∈D,t b=Z8)/\P i n f t) ?_ m0 ⟨0,[],_,J0,T.keep _ _ _ vE λb _ o e=>k b o (O b o e),λb h=>(f3 b h).1,p0⟩
  rintro n s3 ⟨i,f,H3,Jn,Fq,t7,w3⟩
  rcases turn i n f H3 w3 with⟨stop,qn⟩|⟨go,Md,N,hN,step⟩
  .refine aM (T.done (blk X scope S G.objs.size D {j with heap:=G,toks:=j.toks} (upd K l (.lst []))) rfl rfl rfl hc i a s3 _ H3 (λ_ _=>False) Jn (AK t7) Fq stop) λr s4 ⟨hr,I4⟩=>?_;subst hr;obtain⟨m,hn,_⟩:=id I4.loc;exact Mb l G.objs.size H3 s4 ⟨m,hn⟩ I4.free (l8 (W.lt)) (W.uP (ah _)) nC W.sz (λp hp=>b8 (bd (W.pin p hp).1)) (out I4) qn
  .refine aM (T.item (blk X scope S G.objs.size D {j with heap:=G,toks:=j.toks} (upd K l (.lst []))) rfl rfl rfl hc i a s3 _ H3 (λ_ _=>False) Jn (AK t7) Fq go) λr s4 ⟨u,hr,h4⟩=>?_;subst hr;refine aM h4 λ_ s5 ⟨x,H5,I5,r5,y5,AL,Me⟩=>aM (hg _ _ _ _ _ s5 _ H5 x u _ (I5.pinned (AK Me) (T.obj _ _ AL)) r5 (step x H5 y5)) λ_ s6 ⟨σ6,H6,I6,kp,q6⟩=>aM (ht _ _ _ _ _ s6 σ6 H6 _ I6 q6) λb s7 ⟨H7,I7,q7⟩=>?_
   have R:∀{s7:au} {H7:Hp} {F:List V},Inv (blk X scope S G.objs.size D {j with heap:=G,toks:=j.toks} (upd K l (.lst []))) (a++z6u D s5.heap) σ6 H7 s7->N F H7->
     ∃m,m<n/\∃i f t,Inv (blk X scope S G.objs.size D {j with heap:=G,toks:=j.toks} (upd K l (.lst []))) a (fS nt js σ) t s7/\tn i s7.heap/\(∀b∈D,t b=Z8)/\P i m f t:=λ{s7 H7 F} I7 w7=>by
    obtain⟨n',hm,w7⟩:=hN _ _ w7;refine⟨n',hm,i+1,F,H7,(I7.dA).weak kp.1 kp.2,T.keep _ _ _ AL λb h o e=>(I7.pin (b,o) (ba _ (ba _ (ya h e)))).1,λb h=>?_,w7⟩;obtain⟨o,e,d⟩:=T.obj _ _ AL b h;exact(I7.pin (b,o) (ba _ (ba _ (ya h e)))).2.1
   cases b with
   |false=>exact R I7 q7
   |true=>exact aM (he _ _ _ _ _ s7 σ6 H7 _ I7 q7) λy' s8 ⟨y,H8,I8,r8,t8,w8⟩=>aM (yg _ s8 σ6 H8 (.ref l) [y] (.ref l) [y'] (λ_ H9=>N (f++[y]) H9) I8 rfl (.cons r8 .nil) ⟨l,f,y,rfl,rfl,t8,Md,w8⟩) λ_ s9 ⟨v9,H9,I9,r9,w9⟩=>R I9 w9
 exact codeAny_compStart_list (loop _ rfl) (T.self _ 0 _ _ _ (T.keep _ _ _ vE λb _ o e=>k b o (O b o e)) (loop _ rfl))
theorem z9q (hc:X.calm=Z7)(B:BlkScope X scope d k n)(o:PI X j a wi)
  (p:∀C b s H,PG (blk X scope d C b s H) j g) (r:∀C b s H,oX (blk X scope d C b s H) e tc) (t:∀C b s H,PE (blk X scope d C b s H) f te)
  (hs:∀x,ef a X.env x=pure x:=by intro _;rfl):PE X (.ListComp f [⟨j,a,e,0⟩] scope pos) (vC wi g tc te (fS k n)):=by
 intro c s u H Q I h;refine k9 rfl hs (Fh λy w hf=>I.ok.has y.1 (B.frees y w hf)) B.kind B.names (aM (o c s u H _ I h) λv z A=>aM A λD K E=>?_);refine z4t hc B p r t E ?_;intro l C F z ns _ _ _ _ _ _ i q;obtain⟨m,hn⟩:=ns;exact⟨m,hn,λG J=>⟨.ref l,F,i G J,rfl,q⟩⟩
def Mf (i:Nat)(t:TE):TS:=λD σ H=>t σ H λv H1=>D.nx (σ.set i (Z9 v)) H1
theorem z5u (hc:X.calm=Z7)(hN:X.N.Nodup)(hy:X.N[i]?=Z9 y)(hl:X.env.scope.names.lookup y=Z9 .local)(hz:∀u,(y,u)∉X.fx)(B:BlkScope X scope N' nt js)(hi:PI X tg iter wi)
  (hg:∀C fp s H,PG (blk X scope N' C fp s H) tg g) (ht:∀C fp s H,oX (blk X scope N' C fp s H) ifs tc) (he:∀C fp s H,PE (blk X scope N' C fp s H) elt te)
  (Mh:jc (.ListComp elt [⟨tg,iter,ifs,0⟩] scope pos) (Z9 (.Name y py)) spos.line X.env=pure Z7)
  (hs:∀x,ef iter X.env x=pure x:=by intro _;rfl):PS X (.Assign [.Name y py] (.ListComp elt [⟨tg,iter,ifs,0⟩] scope pos) spos) (Mf i (vC wi g tc te (fS nt js))):=by
 intro pins s σ H D I h;rw[exec_Assign_Name_used _ _ _ _ Mh];apply ae;apply on;apply ae;refine ae (l7 (k9 (use:=Z9 (oo (.Name y py) X.env)) rfl hs (Fh λz hz hf=>I.ok.has z.1 (B.frees z hz hf)) B.kind B.names (aM (hi pins s σ H _ I h) λv s1 h1=>aM h1 λuZ s2 h2=>?_)) (λ_ s' hq=>az (az hq)) λ_ _ e=>e);refine z4t (Q:=λv H1=>D.nx (σ.set i (Z9 v)) H1) (RR:=λacc C=>compPost (model X.prog X.w) X.A X.xe (Z9 (oo (.Name y py) X.env)) (λ_ s'=>SP X pins D .next s') acc C) hc B hg ht he h2 ?_;intro l C H' s1 ns hH nL nF nC nS nP out q;obtain⟨m,hn⟩:=ns;have I1:=out s1.heap (.refl ..);obtain⟨oC,es,ep,Mj,Fs,Ml⟩:=id hn
 have I2:Inv X (pins++[(C,oC)]) σ H' s1:=I1.gX λp hp=>(a8.mp hp).elim (λz=>I1.pin p (ba _ z)) λz=>by
  have e:p=(C,oC):=by simpa using z
  subst e;exact⟨Mj,hH,nL,nF,λv z=>by have z':=z;rw[Fs]at z';cases z'⟩
 refine o3 (z5b I2 hN hy (.inl hl) (v:=.ref l) rfl (λyc Fv=>?_) ⟨.inr hl,hz⟩);refine⟨m,⟨oC,es,ep,(Fv.pin (C,oC) (ba _ (ba _ (ar.mpr rfl)))).1,Fs,Ml⟩,λh' sb=>⟨_,H',?_,q⟩⟩;exact(Fv.dA).turned (λb o hb e=>sb.extBut b o hb e) hH nL (.inr nS) nC nP
end
def AM (z:Str):It:=⟨λi _=>i<z.cps.size,λi H x H'=>H'=H/\∃c,z.cps[i]?=Z9 c/\x=.str ⟨#[c]⟩,λi _=>z.cps.size<=i⟩
theorem Mm {K:Z5}(rP:ty="str_ascii_iterator"\/ty="str_iterator")(it:Addr)(z:Str)(t:Tok):Turn P w K tg (AM z) [it] it (λi h=>h.IsStrIter it ty z t i) where
 mem:=by simp
 obj:=λi h st b hb=>by
  have e:b=it:=by simpa using hb
  subst e;obtain⟨o,e,c,d⟩:=st;exact⟨o,e,λv z=>by rw[d]at z;cases z⟩
 keep:=λi h h' st k=>let⟨o,e,r⟩:=st;⟨o,k it (by simp) o e,r⟩
 item:=by
  intro X hP hw hK hc i pins s σ H E I hf st hg;subst hP hw hK;obtain⟨f0,f1,f2,f3,f4,f5⟩:=hf it (by simp);have hi:=hg
  have fin:∀u h' tk,SignAt z i u->h'.IsStrIter it ty z t (i+1)->(∀b o,b∉ [it]->s.heap.get? b=Z9 o->h'.get? b=Z9 o)->
    ∃u',Z9 u=Z9 u'/\wpAny (model X.prog X.w) X.A (gr tg (.ref it) u') (λ_ s2=>∃x H',Inv X pins σ H' s2/\RelV x u'/\(AM z).kM i H x H'/\s2.heap.IsStrIter it ty z t (i+1)/\∀b∈[it],H' b=Z8) E {s with heap:=h',toks:=tk}:=by
   rintro u h' tk ⟨c,t',hx,rfl⟩ t9 kk
   have I1:Inv X pins σ H {s with heap:=h',toks:=tk}:=I.turned (λb o hb e=>kk b o (by simpa using hb) e) f0 f1 f3 f4 f5;obtain⟨o,e,cc,d⟩:=id t9;exact⟨_,rfl,z7z e cc d (by rcases rP with rfl|rfl<;>decide) ⟨.str ⟨#[c]⟩,H,I1,⟨t',rfl⟩,⟨rfl,c,hx,rfl⟩,t9,λb hb=>(hf b hb).1⟩⟩
  rcases rP with rfl|rfl
  .exact(Walks.strAscii (I.ok.hd hc) it z t).item i s _ _ hi st λv h' tk hv t9 kk=>fin v h' tk hv t9 kk
  .exact(Walks.strWide (I.ok.hd hc) it z t).item i s _ _ hi st λv h' tk hv t9 kk=>fin v h' tk hv t9 kk
 done:=by
  intro X hP hw hK hc i pins s σ H E I hf st hg;obtain⟨f0,f1,f2,f3,f4,f5⟩:=hf it (by simp);have hi:z.cps[i]?=none:=by have:z.cps.size<=i:=hg;simpa using this
  rcases rP with rfl|rfl
  .exact wpAny_pyNext_ascii_end (I.ok.hd hc) st hi λh' eb=>⟨rfl,I.turned (λb o hb e=>eb b o hb e) f0 f1 f3 f4 f5⟩
  .exact wpAny_pyNext_wide_end (I.ok.hd hc) st hi λh' eb=>⟨rfl,I.turned (λb o hb e=>eb b o hb e) f0 f1 f3 f4 f5⟩
 self:=λ_ _ _ _ _ st h=>by
  rcases rP with rfl|rfl
  .exact wpAny_pyIter_striter_ascii st h
  .exact wpAny_pyIter_striter_wide st h
theorem zsq {J:It}{g:TG}{tc:TT}{te:TE}{Q:VK}(P:Nat->List V->Hp->Prop)(hn:n<=ay)(h0:P 0 [] (upd A l (.lst [])))
  (q:∀i a H,P i a H->a.length<=i)
  (h:∀a H,P n a H->J.stop n H/\Q (.ref l) H) (u:∀i a H,i<n->P i a H->J.go i H)
  (r:∀i a H x j,i<n->P i a H->J.kM i H x j->g x k j λc v=>mT k c/\tc c v λb s=>if b=Z7 then te c s λy t=>t l=Z9 (.lst a)/\P (i+1) (a++[y]) (upd t l (.lst (a++[y])))else P (i+1) a s):
  ∃P:Nat->Nat->List V->Hp->Prop,(∃m,P 0 m [] (upd A l (.lst [])))/\∀i m a f,P i m a f->(J.stop i f/\Q (.ref l) f)\/(J.go i f/\a.length<ay/\∃N:List V->Hp->Prop,(∀d w,N d w->∃z,z<m/\P (i+1) z d w)/\∀x j,J.kM i f x j->g x k j λc v=>mT k c/\tc c v λb s=>if b=Z7 then te c s λy t=>t l=Z9 (.lst a)/\N (a++[y]) (upd t l (.lst (a++[y])))else N a s):=by
 refine⟨λi m a H=>i<=n/\m=n-i/\P i a H,⟨n,cn _,rfl,h0⟩,?_⟩
 rintro i m a f ⟨C,rfl,p⟩
 by_cases o:i<n
 .have D:=q i a f p;exact .inr ⟨u i a f o p,by omega,P (i+1),λd w B=>⟨n-(i+1),by omega,o,rfl,B⟩,λx j y=>r i a f x j o p y⟩
 .have e:i=n:=by omega
  subst e;exact .inl (h a f p)
section
variable {X:Cx}
theorem Mn:OpR X (cq .LtE) (λx y H Q=>∃i j,x=.str i/\y=.str j/\Q (.bl (!decide (j.cps.toList<i.cps.toList))) H):=by
 rintro pins s σ H x y v u Q I a b ⟨i,j,rfl,rfl,q⟩
 obtain⟨t,rfl⟩:=a;obtain⟨c,rfl⟩:=b;exact PySem.P.le_str ⟨.bl _,H,I,rfl,q⟩
theorem Mo:OpR X (cq .Gt) (λx y H Q=>∃i j,x=.str i/\y=.str j/\Q (.bl (decide (j.cps.toList<i.cps.toList))) H):=by
 rintro pins s σ H x y v u Q I a b ⟨i,j,rfl,rfl,q⟩
 obtain⟨t,rfl⟩:=a;obtain⟨c,rfl⟩:=b;exact PySem.P.gt_str ⟨.bl _,H,I,rfl,q⟩
def vG:V->Option Int->Option Int->Hp->VK->Prop:=λx lo hi H Q=>∃z,x=.str z/\z.length<=ay/\Q (.str (Txt.slice z lo hi)) H
theorem yi:oF X vG:=by
 rintro b s h H x v r w m n sl Q I p hs pl f ⟨z,rfl,c,q⟩
 obtain⟨t,rfl⟩:=p;refine⟨"str",_,PySem.F.slot_str_getitem.lookup,ow _ _ _,?_⟩;obtain⟨o,d,hc,hd⟩:=hs;have a:∀g k,EP X b h Q (.str (Txt.slice z m n) g) {s with toks:=k}:=λg k=>⟨.str _,H,I.tok _,⟨_,rfl⟩,q⟩;cases pl with
 |none=>
  cases f with
  |none=>exact gj (l:=Z8) (u:=Z8) (st:=Z8) ⟨o,d,hc,hd⟩ rfl (j3 ⟨bh (Txt.slice_le z _ _) c,a⟩)
  |int j e=>exact gj (l:=Z8) (u:=Z9 (j,e)) (st:=Z8) ⟨o,d,hc,hd⟩ rfl (j3 ⟨bh (Txt.slice_le z _ _) c,a⟩)
 |int i ti=>
  cases f with
  |none=>exact gj (l:=Z9 (i,ti)) (u:=Z8) (st:=Z8) ⟨o,d,hc,hd⟩ rfl (j3 ⟨bh (Txt.slice_le z _ _) c,a⟩)
  |int j e=>exact gj (l:=Z9 (i,ti)) (u:=Z9 (j,e)) (st:=Z8) ⟨o,d,hc,hd⟩ rfl (j3 ⟨bh (Txt.slice_le z _ _) c,a⟩)
theorem Mp (m:X.calm=Z7):CallR X (.builtin "all") (λj H Q=>∃(p:Addr) (bs:List Bool),j=[.ref p]/\SqL X.K H p (bs.map V.bl)/\Q (.bl (bs.all id)) H):=by
 rintro l s D H j E Q I r ⟨p,bs,rfl,n,q⟩
 obtain⟨u,rfl,rfl⟩:=vals1 r;obtain⟨f,rv,pl,F⟩:=I.list n;refine call_all_walk (jl pl.isList ?_);have ne:p≠s.heap.objs.size:=by obtain⟨o,ho,_⟩:=pl.isList;exact b8 (bd ho)
 have c:=by have:=rv.length;rw[ai]at this;exact this
 refine⟨s.heap.objs.size,_,_,_,_,_,λi=>bs.getD i Z7,rfl,Walks.list (A:=X.A.in1) (I.ok.hd m) s.heap.objs.size p ne f.toArray,⟨⟨_,a7 _ rfl,rfl,rfl⟩,pl.isList.at λo e=>ak _ e⟩,?_,?_⟩
 .intro i v t w G x y;have d:f[i]?=Z9 v:=by simpa using x
  have hb:i<bs.length:=c▸(cj.mp d).1;obtain⟨J,hu,B⟩:=rv.get (by rw[bu,a9 hb];rfl);rw[d]at hu;cases hu;cases B;refine dj ?_;have e:bs.getD i Z7=bs[i]:=by simp[ag,hb]
  have g:w (bs.getD i Z7) t:=y;rw[e]at g;exact g
 .intro L M k;refine⟨.bl (bs.all id),H,I.kept λb o e=>?_,?_,q⟩
  .refine k b o (λz=>?_) (ak _ e);have C:b=s.heap.objs.size:=by simpa using z
   exact absurd (bd e) (C▸cy _)
  .have e:(ce f.toArray.size).all (fun i=>bs.getD i Z7)=bs.all id:=by
    rw[bg,<-c];apply i8.mpr;simp only[be];constructor
    .intro a b hb;obtain⟨i,d,rfl⟩:=nh.mp hb;have:=a i (fi.mpr d);simpa[ag,d]using this
    .intro a i d;rw[fi]at d;have h:=d;have:=a bs[i] (fh h);simpa[ag,h]using this
   rw[e];rfl
end
def Own (K:Z5)(mg:Str->Option Value)(x:Str)(st:Stmt)(ps:List Str):Prop:=∃f fd,Fun K x x st f fd/\mg x=Z9 (.ref f)/\Z3 K (.ref f)=Z7/\Binds K fd ps []
def Cal (P:bp)(w:World)(K:Z5)(mg:Str->Option Value)(base:Heap)(k:Nat)(x:Str)(ps:List Str)(sp:Sp):Prop:=∃f fd,FnOk P w K mg base mR k f fd ps sp/\mg x=Z9 (.ref f)/\Z3 K (.ref f)=Z7/\Binds K fd ps []
section
variable {P:bp}{w:World}{K:Z5}{mg:Str->Option Value}{base:Heap}
theorem znv {st:Stmt}{kV:Value}(X:K.In h)(G:h.Ns bq mg)
  (a:W.nsIn K bq x=Z9 (Z9 (.ref f))) (l:K.lookup f=Z9 ⟨oc,od,.func (W.fnOf x x (z1d st) (z0n st) (z0a st) .none kV e i an d ct),j⟩) (c:W.codeIn K d x=Z7) (k:Z3 K (.ref f)=Z7)
  (b:∀kV e i an d ct g,g.length=ps.length->qb (W.fnOf x x (z1d st) (z0n st) (z0a st) .none kV e i an d ct) ⟨g,[]⟩=pure (ps.zip g)):Own K mg x st ps:=
 ⟨f,_,AE l c k,W.mg_of X G a,k,(AE l c k).binds b⟩
end
def isStar:Expr->Bool
 |.Starred ..=>Z7
 |_=>Z6
theorem dX (h:isStar e=Z6):b7 (e::a) env=(Z6,eval e env)::b7 a env:=by cases e<;>first|rfl|cases h
theorem lU:∀{es:List Expr},(es.all λe=> !isStar e)=Z7->(ik pos (b7 es env)).any (·.1)=Z6
 | [],_=>rfl
 |e::es,h=>by have a:=aw.mp (b9▸h);rw[dX (by simpa using a.1)];show(Z6||(ik pos (b7 es env)).any (·.1))=Z6;rw[lU a.2];rfl
section
variable {X:Cx}{x:Str}{p pos:Pos}{e:Expr}{es:List Expr}{t:TA}{id T:String}{r:List V->Hp->VK->Prop}
theorem dO (a:PE X e te)(hr:PA X es t)(hs:isStar e=false:=by rfl):PA X (e::es) (mP te t):=EL a hr (dX hs)
theorem yj (hc:CallR X (.builtin id) r)(hm:X.mg x=Z8)(c:cr x=Z9 (.builtin id))(d:PA X (e::es) t)(a:((e::es).all λe=> !isStar e)=true:=by rfl)(f:Gl X x:=by rfl)(hn:x≠"__name__":=by decide)(b:VB x:=by decide):PE X (.Call (.Name x p) (e::es) [] pos) (oU r t):=by rw[b9,aq]at a;exact zga hc f hm c d hn b (dX (by simpa using a.1)) (lU a.2)
theorem yk (hc:CallR X (.type T) r)(hm:X.mg x=Z8)(c:cr x=Z9 (.type T))(d:PA X (e::es) t)(a:((e::es).all λe=> !isStar e)=true:=by rfl)(f:Gl X x:=by rfl)(hn:x≠"__name__":=by decide)(b:VB x:=by decide):PE X (.Call (.Name x p) (e::es) [] pos) (oU r t):=by rw[b9,aq]at a;exact zee hc f hm c d hn b (dX (by simpa using a.1)) (lU a.2)
theorem zfe (C:Cal X.prog X.w X.K X.mg X.base k x ps d)(hr:Room g X.A)(h:PA X (e::es) t)(a:((e::es).all fun e=> !isStar e)=true:=by rfl)(i:k<=g:=by decide)(j:Gl X x:=by rfl)
  (c:VB x:=by decide):PE X (.Call (.Name x p) (e::es) [] pos) (jX d [] E0 t):=by
 obtain⟨f,fd,F,m,kp,b⟩:=C;rw[b9,aq]at a;exact zd7 F (hr.mono i) j m kp b .nil L8 h c (dX (by simpa using a.1)) (lU a.2)
end
def z1u:Expr->Bool
 |.ListComp ..=>Z7
 |.SetComp ..=>Z7
 |.DictComp ..=>Z7
 |_=>Z6
theorem rQ (h:z1u e=Z6)(a:Option Expr)(n:Nat)(env:Env):jc e a n env=pure false:=by cases e<;>first|rfl|cases h
theorem rR (hN:X.N.Nodup)(a:X.N[i]?=Z9 x)(b:Loc X.env.scope x)(c:PE X e d)(hs:z1u e=false:=by rfl)(f:Sto X x:=by first|exact⟨.inl rfl,nofun⟩|exact⟨.inr rfl,nofun⟩|assumption): PS X (.Assign [.Name x pos'] e pos) (jC d (rq i)):=z99 hN a b c (rQ hs _ _ _) f
theorem oY (a:PE X e te)(hs:z1u e=false:=by rfl):PS X (.Expr e pos) (uW te):=KG a (rQ hs _ _ _)
section
variable {X:Cx}
def AN (K:Z5):R2:=λx y H Q=>lS (λi j=>.int (i+j)) x y H Q\/(∃i j,x=.str i/\y=.str j/\i.length+j.length<=ay/\Q (.str (i++j)) H)\/vz x y H Q\/E6 K x y H Q
def rS:R2:=λx y H Q=>lS (λi j=>.bl (decide (i<j))) x y H Q\/∃i j,x=.str i/\y=.str j/\Q (.bl (decide (i.cps.toList<j.cps.toList))) H
def rT:R2:=λx y H Q=>lS (λi j=>.bl (decide (i<=j))) x y H Q\/∃i j,x=.str i/\y=.str j/\Q (.bl (!decide (j.cps.toList<i.cps.toList))) H
def rV:R2:=λx y H Q=>lS (λi j=>.bl (decide (j<i))) x y H Q\/∃i j,x=.str i/\y=.str j/\Q (.bl (decide (j.cps.toList<i.cps.toList))) H
def AO (K:Z5):V->Option Int->Option Int->Hp->VK->Prop:=λx lo hi H Q=>vt K x lo hi H Q\/vG x lo hi H Q
def Mq (K:Z5):List V->Hp->VK->Prop:=λxs H Q=>(∃z,xs=[.str z]/\z.length<=ay/\Q (.int z.length) H)\/(∃p ys,xs=[.ref p]/\(SqL K H p ys\/cP K H p ys)/\Q (.int ys.length) H)
theorem Mr:OpR X (fm .Add) (AN X.K):=KY.or (La.or (L4.or LN))
theorem AQ:OpR X (cq .Lt) rS:=K5.or K8
theorem AR:OpR X (cq .LtE) rT:=K6.or Mn
theorem AS:OpR X (cq .Gt) rV:=K7.or Mo
theorem Ms:lT X (E' X.K):=LQ
theorem Mt:oF X (AO X.K):=LV.or yi
theorem Mu:CallR X (.builtin "len") (Mq X.K):=LX.or LW
end
def dP (t T:String):Bool:=t==T||(t=="bool"&&T=="int")
def oZ:List String:=["NoneType","bool","int","str","list","tuple","dict"]
def tysB:List String:=["str","int","bool","tuple","list"]
theorem Mv (K:Z5):∀t∈oZ,∀T∈tysB,W.kitOne K (.type t) (.type T)=Z9 (dP t T):=by intro t a T b;simp only[oZ,ao,bw,or_false]at a;simp only[tysB,ao,bw,or_false]at b;rcases a with rfl|rfl|rfl|rfl|rfl|rfl|rfl<;>rcases b with rfl|rfl|rfl|rfl|rfl<;>kernel_rfl
section
variable {D:Ends}{σ:St}{H:Hp}{Q:VK}{t u:TS}{te ta tb Vk:TE}{r r':R2}{K:Z5}
theorem Mw (h:Q (.int (i+j)) H):AN K (.int i) (.int j) H Q:=.inl ⟨i,j,rfl,rfl,h⟩
theorem Mx (c:i.length+j.length<=ay)(h:Q (.str (i++j)) H):AN K (.str i) (.str j) H Q:=.inr (.inl ⟨i,j,rfl,rfl,c,h⟩)
theorem My (h:Q (.bl (decide (i<j))) H):rS (.int i) (.int j) H Q:=.inl ⟨i,j,rfl,rfl,h⟩
theorem Mz (h:Q (.bl (decide (i<=j))) H):rT (.int i) (.int j) H Q:=.inl ⟨i,j,rfl,rfl,h⟩
theorem MA (h:Q (.bl (decide (j<i))) H):rV (.int i) (.int j) H Q:=.inl ⟨i,j,rfl,rfl,h⟩
theorem MB (h:Q (.bl (decide (i.cps.toList<j.cps.toList))) H):rS (.str i) (.str j) H Q:=.inr ⟨i,j,rfl,rfl,h⟩
theorem MC (h:Q (.bl (!decide (j.cps.toList<i.cps.toList))) H):rT (.str i) (.str j) H Q:=.inr ⟨i,j,rfl,rfl,h⟩
theorem MD (h:Q (.bl (decide (j.cps.toList<i.cps.toList))) H):rV (.str i) (.str j) H Q:=.inr ⟨i,j,rfl,rfl,h⟩
end
section
variable {K:Z5}{H:Hp}{Q:VK}
end
section
variable {K:Z5}{H:Hp}{Q:VK}
theorem Same.upd (h:H p=Z8):Same H (L2.upd H p o):=λb u e=>by rw[aL (fQ e h)];exact e
theorem Fw (h:n<=1000):n<=ay:=bh h (by rw[bz];decide)
end
end L2
namespace Mi
open PySem
abbrev D:=aa
set_option genInjectivity true in
inductive Res (α:Type) where
 |ok (a:α)|no
namespace Res
def bind {α β:Type}(x:Res α)(f:α->Res β):Res β:=match x with
 |.ok a=>f a
 |.no=>.no
instance:Monad Res where
 pure:=.ok
 bind:=Res.bind
theorem aB {b c:Type}(a:b)(f:b->Res c):(Res.ok a>>=f)=f a:=rfl
def eU {α:Type}:Option α->Res α
 |some a=>.ok a
 |none=>.no
theorem aA {c d:Type}{x:Res c}{f:c->Res d}{b:d}(h:(x>>=f)=.ok b):∃a,x=.ok a/\f a=.ok b:=by
 cases x with
 |ok a=>exact⟨a,rfl,h⟩
 |no=>cases h
end Res
mutual
def imm:aa->Bool
 |.tuple xs=>imms xs
 |.list _=>Z6
 |.dict _=>Z6
 |.none=>Z7
 |.bool _=>Z7
 |.int _=>Z7
 |.str _=>Z7
def imms:List aa->Bool
 | []=>Z7
 |x::xs=>imm x&&imms xs
end
theorem ua:∀{a:List D},imms a=Z7↔∀x∈a,imm x=Z7
 | []=>by simp[imms]
 |x::a=>by rw[imms,aq,ua];simp
abbrev bO:D->D->Bool:=PyData.eqv
mutual
def aU:Nat->aa->Bool
 |0,.tuple _=>Z6
 |0,.list _=>Z6
 |n+1,.tuple xs=>cL n xs
 |n+1,.list xs=>cL n xs
 |_,.dict _=>Z6
 |_,.none=>Z7
 |_,.bool _=>Z7
 |_,.int _=>Z7
 |_,.str _=>Z7
def cL:Nat->List aa->Bool
 |_,[]=>Z7
 |n,x::xs=>aU n x&&cL n xs
end
theorem Fx:∀{a:List D},cL n a=Z7↔∀x∈a,aU n x=Z7
 | []=>by simp[cL]
 |x::a=>by rw[cL,aq,Fx];simp
def truth:aa->Bool
 |.none=>Z6
 |.bool b=>b
 |.int i=>!decide (i=0)
 |.str x=>!decide (x.length=0)
 |.tuple xs=>!xs.isEmpty
 |.list xs=>!xs.isEmpty
 |.dict es=>!es.isEmpty
def gZ (n:Nat)(i:Int):Option Nat:=if 0<=i then(if i<n then Z9 i.toNat else Z8)else if -(n:Int)<=i then Z9 (i+n).toNat else Z8
def cB {α:Type}(xs:List α)(i:Int):Option α:=(gZ xs.length i).bind λj=>xs[j]?
def bB (n d:Nat):Option Int->Nat
 |none=>d
 |some v=>if v<0 then(v+(n:Int)).toNat else min v.toNat n
def cut {α:Type}(xs:List α)(lo hi:Option Int):List α:=(xs.drop (bB xs.length 0 lo)).take (bB xs.length xs.length hi-bB xs.length 0 lo)
def eqK:aa->aa->Bool
 |.int a,y=>match y with|.int b=>a==b|_=>Z6
 |.str a,y=>match y with|.str b=>decide (a=b)|_=>Z6
 |_,_=>Z6
def jY:aa->Bool
 |.int _=>Z7
 |.str _=>Z7
 |_=>Z6
abbrev dF:=List (D×D)
def eV (es:dF)(k:D):Option D:=(es.find? λe=>eqK e.1 k).map (·.2)
def dput (es:dF)(k v:D):dF:=if es.any (λe=>eqK e.1 k)then es.map (λe=>if eqK e.1 k then(e.1,v)else e)else es++[(k,v)]
mutual
def iZ:aa->aa->Bool
 |.int a,y=>match y with|.int b=>decide (a<b)|_=>Z6
 |.str a,y=>match y with|.str b=>decide (a.cps.toList<b.cps.toList)|_=>Z6
 |.tuple xs,y=>match y with|.tuple ys=>aQ xs ys|_=>Z6
 |.none,_=>Z6
 |.bool _,_=>Z6
 |.list _,_=>Z6
 |.dict _,_=>Z6
def aQ:List aa->List aa->Bool
 | [],ys=>!ys.isEmpty
 |x::xs,ys=>match ys with|y::ys=>if bO x y then aQ xs ys else iZ x y| []=>Z6
end
def AU:D->Bool
 |.int _=>Z7
 |_=>Z6
def AV:D->Bool
 |.str _=>Z7
 |_=>Z6
def ub (b:Bool)(x:D):Bool:=if b then AU x else AV x
def kS:List Bool->List D->Bool
 | [],xs=>xs.isEmpty
 |b::bs,xs=>match xs with|x::xs=>ub b x&&kS bs xs| []=>Z6
section
inductive G where
 |fr|od|al|nu
 deriving Inhabited,DecidableEq
abbrev Rho:=List (Option (G×D))
abbrev GD:=G×D
inductive Tg where
 |nm (i:Nat)|tp (is:List Nat)
 deriving Inhabited,DecidableEq
inductive C where
 |var (i:Nat)|non|bl (b:Bool)|int (i:Int)|str (x:Str)|glob (k:Nat) (x:Str)|bin (op:ni) (a b:C)|neg (a:C)|cmp (op:CmpOp) (a b:C)|chain (op op':CmpOp) (a b c:C)|rW (neg:Bool) (a:C)|and (a b:C)|or (a b:C)|not (a:C)|rX (c a b:C)|tup (xs:C)|lst (xs:C)|hG|ix (a b:C)|sl (a lo hi:C)|call (k:Nat) (f:Str) (args:C)|bi (f:String) (args:C)|hJ (f:String) (a:C)|dP (a:C) (ts:List String)|mt (m:String) (o args:C)|comp (nt:Nat) (js:List Nat) (N':List Str) (tg:Tg) (it cond elt:C)|lk (i:Nat)|d1 (k v:C)|jF (a b:C)|fT (args:C)|enum (a:C)|zip (a b:C)|tv (a:C)|nil|cons (a r:C)
 deriving Inhabited
inductive S where
 |nil|seq (a b:S)|bad|asg (t:Tg) (e:C)|dN (i:Nat) (k v:C)|mut (m:String) (i:Nat) (args:C)|ret (e:C)|aX (c:C) (a b:S)|bH (t:Tg) (it:C) (b:S)|wh (n:Nat) (c:C) (b:S)|cnt|pop (j i:Nat)|pap (i:Nat) (a r:C)
 deriving Inhabited
inductive Out where
 |nx (ρ:Rho)|rt (g:G) (d:D)|bk (ρ:Rho)|ct (ρ:Rho)
abbrev Fn:=List D->Res GD
def LIM:Nat:=1000000
def Fy:G->G
 |.fr=>.al
 |.od=>.od
 |.al=>.al
 |.nu=>.nu
def rY:Option (Option GD)->Res GD
 |some (Z9 (g,d))=>.ok (if imm d then .fr else Fy g,d)
 |_=>.no
def fU:D->Res Bool
 |.str x=>if x.length<=LIM then .ok (!decide (x.length=0))else .no
 |d=>.ok (truth d)
def i':G->G
 |.fr=>.fr
 |.od=>.al
 |.al=>.al
 |.nu=>.fr
def agG:G->G
 |.fr=>.fr
 |.od=>.al
 |.al=>.al
 |.nu=>.nu
def gJ (d:D)(g:G):G:=if imm d then .fr else g
def gN (d:D)(g:G):G:=match d with
 |.list xs=>if imms xs then .fr else g
 |d=>gJ d g
def cF (xs:List GD):G:=if xs.all (λx=>x.1==.fr)then .fr else if xs.all (λx=>x.1==.fr||x.1==.nu)then .nu else .al
def qL (xs:List GD):G:=if xs.all (λx=>x.1==.fr)then .fr else .al
def okIn (x:GD):Bool:=imm x.2||(x.1==.fr||x.1==.nu)
def kT (es:dF):Bool:=es.all λe=>imm e.2
def z1b:GD->GD
 |(g,d)=>if imm d then(.al,d)else match g,d with
  |.fr,.list xs=>(if imms xs then .fr else .nu,.list xs)
  |.fr,.dict es=>(if kT es then .fr else .nu,.dict es)
  |.fr,d=>(.nu,d)
  |.nu,d=>(.nu,d)
  |.od,d=>(.od,d)
  |.al,d=>(.al,d)
def lV:GD->GD
 |(g,d)=>match g with|.od=>(.od,d)|_=>(.al,d)
def fV:Option GD->Option GD
 |some (.fr,d)=>Z9 (.al,d)
 |some (.nu,d)=>Z9 (.al,d)
 |s=>s
def z08:Option GD->Option GD
 |some (.al,d)=>if imm d then Z9 (.al,d)else Z8
 |s=>s
def rZ:Rho->List Nat->List D->G->Option Rho
 |ρ,[],[],_=>Z9 ρ
 |ρ,i::is,d::ds,g=>rZ (ρ.set i (Z9 (lV (gJ d g,d)))) is ds g
 |_,_,_,_=>Z8
def eZ:Tg->GD->Rho->Res Rho
 |.nm i,x,ρ=>.ok (ρ.set i (Z9 (lV x)))
 |.tp is,(g,.tuple ds),ρ=>Res.eU (rZ ρ is ds g)
 |_,_,_=>.no
def AW:D->Res D
 |.str x=>if x.length<=LIM then .ok (.int x.length)else .no
 |.tuple xs=>.ok (.int xs.length)
 |.list xs=>.ok (.int xs.length)
 |.dict es=>.ok (.int es.length)
 |_=>.no
def cM:ni->D->D->Res D
 |.Add,.int a,.int b=>.ok (.int (a+b))
 |.Add,.str a,.str b=>if a.length+b.length<=LIM then .ok (.str (a++b))else .no
 |.Add,.list a,.list b=>if a.length+b.length<=LIM then .ok (.list (a++b))else .no
 |.Add,.tuple a,.tuple b=>if a.length+b.length<=LIM then .ok (.tuple (a++b))else .no
 |.Sub,.int a,.int b=>.ok (.int (a-b))
 |.Mult,.int a,.int b=>if(-(2 ^ 64)<a/\a<2 ^ 64)\/(-(2 ^ 64)<b/\b<2 ^ 64)then .ok (.int (a*b))else .no
 |.FloorDiv,.int a,.int b=>if 0<b/\b<2 ^ 200 then .ok (.int (a/b))else .no
 |.Mod,.int a,.int b=>if 0<b then .ok (.int (a%b))else .no
 |.Pow,.int a,.int b=>if 0<=b/\b<=1000/\a.natAbs<2 ^ 64 then .ok (.int (a ^ b.toNat))else .no
 |_,_,_=>.no
def inD (x:D):D->Res Bool
 |.list xs=>if aU 40 x&&cL 40 xs then .ok (xs.any λy=>bO y x)else .no
 |.tuple xs=>if aU 40 x&&cL 40 xs then .ok (xs.any λy=>bO y x)else .no
 |.dict es=>if jY x then .ok (eV es x).isSome else .no
 |_=>.no
def cmpD:CmpOp->D->D->Res Bool
 |.Eq,x,y=>if aU 40 x&&aU 40 y then .ok (bO x y)else .no
 |.NotEq,x,y=>if aU 40 x&&aU 40 y then .ok (!bO x y)else .no
 |.Lt,.int a,.int b=>.ok (decide (a<b))
 |.LtE,.int a,.int b=>.ok (decide (a<=b))
 |.Gt,.int a,.int b=>.ok (decide (b<a))
 |.Lt,.str a,.str b=>.ok (decide (a.cps.toList<b.cps.toList))
 |.LtE,.str a,.str b=>.ok (!decide (b.cps.toList<a.cps.toList))
 |.Gt,.str a,.str b=>.ok (decide (b.cps.toList<a.cps.toList))
 |.In,x,y=>inD x y
 |.NotIn,x,y=>inD x y>>=λb=>.ok (!b)
 |_,_,_=>.no
def gH:D->D->Res D
 |.list xs,.int i=>Res.eU (cB xs i)
 |.tuple xs,.int i=>Res.eU (cB xs i)
 |.str z,.int i=>if z.length<=LIM then Res.eU ((cB z.cps.toList i).map λc=>.str ⟨#[c]⟩)else .no
 |.dict es,k=>if jY k then Res.eU (eV es k)else .no
 |_,_=>.no
def gI (z:Str)(lo hi:Option Int):Str:=⟨(cut z.cps.toList lo hi).toArray⟩
def se:D->Option Int->Option Int->Res D
 |.list xs,lo,hi=>.ok (.list (cut xs lo hi))
 |.tuple xs,lo,hi=>if bB xs.length 0 lo=0/\bB xs.length xs.length hi=xs.length then .no else .ok (.tuple (cut xs lo hi))
 |.str z,lo,hi=>if z.length<=LIM then .ok (.str (gI z lo hi))else .no
 |_,_,_=>.no
def sf:D->Res (Option Int)
 |.int i=>.ok (Z9 i)
 |_=>.no
def z4q:D->Res (List D)
 |.list xs=>.ok xs
 |.tuple xs=>.ok xs
 |.str z=>if z.length<=LIM then .ok (z.cps.toList.map λc=>.str ⟨#[c]⟩)else .no
 |_=>.no
def hU:List D->Option Int
 | []=>Z9 0
 |.int i::r=>(hU r).map (i+ ·)
 |_=>Z8
def allB:List D->Option (List Bool)
 | []=>Z9 []
 |.bool b::r=>(allB r).map (b:: ·)
 |_=>Z8
def fA:List D->Option (List Str)
 | []=>Z9 []
 |.str b::r=>(fA r).map (b:: ·)
 |_=>Z8
def z5q:D->Res (Bool×List D)
 |.list xs=>.ok (Z7,xs)
 |.tuple xs=>.ok (Z6,xs)
 |_=>.no
def aggD (f:String)(l:Bool)(xs:List D):Res D:=
 if f="list"then .ok (.list xs)
 else if f="tuple"then .ok (.tuple xs)
 else if f="sum"then(if l then Res.eU ((hU xs).map .int)else .no)
 else if f="all"then(if l then Res.eU ((allB xs).map λbs=>.bool (bs.all id))else .no)
 else .no
def mV (l:List Nat):Bool:=!l.isEmpty&&l.all λc=>decide (48<=c)&&decide (c<=57)
def hX (l:List Nat):Nat:=l.foldl (λn c=>n*10+(c-48)) 0
def pA (x:Str):Res D:=if mV x.cps.toList&&decide (x.length<=600)then .ok (.int (hX x.cps.toList:Int))else .no
def kU (y:Str):Option Nat:=match y.cps.toList with
 | [c]=>Z9 c
 |_=>Z8
def toS (l:List Nat):Str:=⟨l.toArray⟩
def aV (c:Nat):List Nat->List (List Nat)
 | []=>[[]]
 |a::r=>if a=c then[]::aV c r else(match aV c r with|h::t=>(a::h)::t| []=>[[a]])
def fW:D->D->Res D
 |.str x,.str y=>match kU y with
  |some c=>if decide (x.length<=LIM)then .ok (.list ((aV c x.cps.toList).map λl=>.str (toS l)))else .no
  |none=>.no
 |_,_=>.no
def iF (f:String)(xs:List D):Res D:=
 if f="len"then(match xs with| [x]=>AW x|_=>.no)
 else if f="int"then(match xs with| [.int a]=>.ok (.int a)| [.bool b]=>.ok (.int (if b then 1 else 0))| [.str x]=>pA x|_=>.no)
 else if f="str"then(match xs with| [.int a]=>if a.natAbs.log2<1920 then .ok (.str (toString a))else .no|_=>.no)
 else .no
def hZ:D->String
 |.none=>"NoneType"|.bool _=>"bool"|.int _=>"int"|.str _=>"str"|.tuple _=>"tuple"|.list _=>"list"|.dict _=>"dict"
def jG (t T:String):Bool:=t==T||(t=="bool"&&T=="int")
def cW (sep:List Nat):List Str->List Nat
 | []=>[]
 |x::r=>x.cps.toList++(r.map λp=>sep++p.cps.toList).flatten
def bM (sep:Str)(xs:List Str):Str:=⟨(cW sep.cps.toList xs).toArray⟩
def pB (sep:Str)(xs:List Str):Nat:=(xs.map (·.length)).sum+xs.length*sep.length
def mtD (m:String)(o:D)(xs:List D):Res D:=
 if m="get"then(match o,xs with|.dict es,[k,d]=>if jY k then .ok ((eV es k).getD d)else .no|_,_=>.no)
 else if m="join"then(match o,xs with|.str z,[.list ys]=>(match fA ys with|some ss=>if pB z ss<=LIM then .ok (.str (bM z ss))else .no|none=>.no)|_,_=>.no)
 else .no
def iA:List D->Res (List D)
 | [.int n]=>if n<=LIM/\-LIM<=n then .ok ((ce n.toNat).map λ(i:Nat)=>.int i)else .no
 | [.int a,.int b]=>if -LIM<=a/\b<=LIM/\a<=LIM/\-LIM<=b then .ok ((ce (b-a).toNat).map λ(i:Nat)=>.int (a+i))else .no
 | [.int a,.int b,.int c]=>if -LIM<=a/\b<=LIM/\a<=LIM/\-LIM<=b/\0<c/\c<=LIM then .ok ((ce (if a<b then((b-a-1)/c+1).toNat else 0)).map λ(i:Nat)=>.int (a+i*c))else .no
 |_=>.no
def z19:Nat->List D->List D
 |_,[]=>[]
 |i,x::xs=>.tuple [.int i,x]::z19 (i+1) xs
def zipD:List D->List D->List D
 |x::xs,y::ys=>.tuple [x,y]::zipD xs ys
 |_,_=>[]
def seqR:D->Res (List D)
 |.list xs=>if decide (xs.length<=LIM)then .ok xs else .no
 |.tuple xs=>if decide (xs.length<=LIM)then .ok xs else .no
 |_=>.no
def oc:Option GD->List GD->List GD
 |some y,r=>y::r
 |none,r=>r
def kW (f:D->Res (Option GD)):List D->Res (List GD)
 | []=>.ok []
 |x::xs=>f x>>=λo=>kW f xs>>=λr=>.ok (oc o r)
variable (Κ:List D)(Φ:List Fn)
mutual
def aE:C->Rho->Res GD
 |.var i,ρ=>rY ρ[i]?
 |.non,_=>.ok (.fr,.none)
 |.bl b,_=>.ok (.fr,.bool b)
 |.int i,_=>.ok (.fr,.int i)
 |.str x,_=>.ok (.fr,.str x)
 |.glob k _,_=>match Κ[k]? with|some d=>if imm d then .ok (.fr,d)else .no|none=>.no
 |.bin op a b,ρ=>aE a ρ>>=λx=>aE b ρ>>=λy=>cM op x.2 y.2>>=λd=>.ok (gN d (cF [x,y]),d)
 |.neg a,ρ=>aE a ρ>>=λx=>match x.2 with|.int i=>.ok (.fr,.int (-i))|_=>.no
 |.cmp op a b,ρ=>aE a ρ>>=λx=>aE b ρ>>=λy=>cmpD op x.2 y.2>>=λb=>.ok (.fr,.bool b)
 |.chain op op' a b c,ρ=>aE a ρ>>=λx=>aE b ρ>>=λy=>cmpD op x.2 y.2>>=λk=>if k then aE c ρ>>=λz=>cmpD op' y.2 z.2>>=λk'=>.ok (.fr,.bool k')else .ok (.fr,.bool Z6)
 |.rW ng a,ρ=>aE a ρ>>=λx=>.ok (.fr,.bool (match x.2 with|.none=>!ng|_=>ng))
 |.and a b,ρ=>aE a ρ>>=λx=>match x.2 with|.bool c=>if c then aE b ρ else .ok (.fr,.bool Z6)|_=>.no
 |.or a b,ρ=>aE a ρ>>=λx=>match x.2 with|.bool c=>if c then .ok (.fr,.bool Z7)else aE b ρ|_=>.no
 |.not a,ρ=>aE a ρ>>=λx=>fU x.2>>=λc=>.ok (.fr,.bool (!c))
 |.rX c a b,ρ=>dR c ρ>>=λk=>if k then aE a ρ else aE b ρ
 |.tup xs,ρ=>dG xs ρ>>=λys=>.ok (gJ (.tuple (ys.map (·.2))) (cF ys),.tuple (ys.map (·.2)))
 |.lst xs,ρ=>dG xs ρ>>=λys=>.ok (cF ys,.list (ys.map (·.2)))
 |.hG,_=>.ok (.fr,.dict [])
 |.ix a b,ρ=>aE a ρ>>=λx=>aE b ρ>>=λy=>gH x.2 y.2>>=λd=>.ok (gJ d x.1,d)
 |.sl a lo hi,ρ=>aE a ρ>>=λx=>si lo ρ>>=λl=>si hi ρ>>=λh=>se x.2 l h>>=λd=>.ok (gN d (cF [x]),d)
 |.call k _ args,ρ=>dG args ρ>>=λys=>match Φ[k]? with|some m=>m (ys.map (·.2))>>=λr=>.ok (gJ r.2 (i' r.1),r.2)|none=>.no
 |.bi f args,ρ=>dG args ρ>>=λys=>iF f (ys.map (·.2))>>=λd=>.ok (gJ d .al,d)
 |.hJ f a,ρ=>AX a ρ>>=λw=>aggD f w.2.1 w.2.2>>=λd=>.ok (gJ d (if imms w.2.2 then .fr else agG w.1),d)
 |.dP a ts,ρ=>aE a ρ>>=λx=>.ok (.fr,.bool (ts.any λT=>jG (hZ x.2) T))
 |.mt m o args,ρ=>aE o ρ>>=λx=>dG args ρ>>=λys=>mtD m x.2 (ys.map (·.2))>>=λd=>.ok (gJ d .al,d)
 |.lk i,ρ=>match ρ[i]? with
  |some (Z9 (_,.dict es))=>if decide (es.length<=LIM)then .ok (.fr,.list (es.map (·.1)))else .no
  |_=>.no
 |.d1 k v,ρ=>aE k ρ>>=λx=>aE v ρ>>=λy=>if jY x.2&&imm y.2 then .ok (.fr,.dict [(x.2,y.2)])else .no
 |.jF a b,ρ=>aE a ρ>>=λx=>aE b ρ>>=λy=>fW x.2 y.2>>=λd=>.ok (.fr,d)
 |.comp nt js _ tg it cond elt,ρ=>evW it ρ>>=λw=>kW (λx=>eZ tg (gJ x w.1,x) (bx nt Z8++js.map λj=>fV (ρ.getD j Z8))>>=λρ1=>dR cond ρ1>>=λk=>if k then aE elt ρ1>>=λy=>.ok (Z9 y)else .ok Z8) w.2>>=λys=>.ok (qL ys,.list (ys.map (·.2)))
 |_,_=>.no
def dR:C->Rho->Res Bool
 |.and a b,ρ=>dR a ρ>>=λc=>if c then dR b ρ else .ok Z6
 |.or a b,ρ=>dR a ρ>>=λc=>if c then .ok Z7 else dR b ρ
 |.not a,ρ=>dR a ρ>>=λc=>.ok (!c)
 |.nil,_=>.ok Z7
 |.tv a,ρ=>aE a ρ>>=λx=>fU x.2
 |_,_=>.no
def dG:C->Rho->Res (List GD)
 |.nil,_=>.ok []
 |.cons a r,ρ=>aE a ρ>>=λx=>dG r ρ>>=λxs=>.ok (x::xs)
 |_,_=>.no
def si:C->Rho->Res (Option Int)
 |.nil,_=>.ok Z8
 |.tv a,ρ=>aE a ρ>>=λx=>sf x.2
 |_,_=>.no
def AX:C->Rho->Res (G×Bool×List D)
 |.tv a,ρ=>aE a ρ>>=λx=>z5q x.2>>=λp=>.ok (x.1,p)
 |_,_=>.no
def evW:C->Rho->Res (G×List D)
 |.fT args,ρ=>dG args ρ>>=λys=>iA (ys.map (·.2))>>=λxs=>.ok (.fr,xs)
 |.tv a,ρ=>aE a ρ>>=λx=>z4q x.2>>=λxs=>.ok (x.1,xs)
 |.enum a,ρ=>aE a ρ>>=λx=>seqR x.2>>=λxs=>.ok (.al,z19 0 xs)
 |.zip a b,ρ=>aE a ρ>>=λx=>aE b ρ>>=λy=>seqR x.2>>=λxs=>seqR y.2>>=λys=>.ok (.al,zipD xs ys)
 |_,_=>.no
end
def pC:Res Out->(Rho->Res Out)->Res Out
 |.ok (.nx ρ),k=>k ρ
 |r,_=>r
def cG (f:D->Rho->Res Out):List D->Rho->Res Out
 | [],ρ=>.ok (.nx ρ)
 |x::xs,ρ=>match f x ρ with
  |.ok (.nx aN)=>cG f xs aN
  |.ok (.ct aN)=>cG f xs aN
  |.ok (.bk aN)=>.ok (.nx aN)
  |.ok (.rt g d)=>.ok (.rt g d)
  |.no=>.no
def qM (c:Rho->Res Bool)(f:Rho->Res Out):Nat->Rho->Res Out
 |0,_=>.no
 |n+1,ρ=>c ρ>>=λk=>if k then(match f ρ with
  |.ok (.nx aN)=>qM c f n aN
  |.ok (.ct aN)=>qM c f n aN
  |.ok (.bk aN)=>.ok (.nx aN)
  |.ok (.rt g d)=>.ok (.rt g d)
  |.no=>.no)else .ok (.nx ρ)
def putAt (xs:List D)(ys:List GD):Res (List D):=match ys with
 | [x,y]=>(match x.2 with
  |.int i=>if okIn y&&decide (xs.length<LIM)&&decide (0<=i)&&decide (i<=xs.length)then .ok (xs.take i.toNat++y.2::xs.drop i.toNat)else .no
  |_=>.no)
 |_=>.no
def mW (m:String)(xs:List D)(ys:List GD):Res (List D):=
 if m="append"then(match ys with| [y]=>if okIn y&&decide (xs.length<LIM)then .ok (xs++[y.2])else .no|_=>.no)
 else .no
def AY (ρ:Rho)(i:Nat):Bool:=match ρ[i]? with
 |some (Z9 (.fr,_))=>Z7
 |_=>Z6
def AZ (i:Nat)(ρ:Rho):Res (G×List D×Rho):=match ρ[i]? with
 |some (Z9 (.fr,d))=>z4q d>>=λxs=>.ok (.al,xs,ρ.set i (Z9 (.al,d)))
 |_=>.no
def A3:Option GD->Option GD
 |some (.fr,.list xs)=>Z9 (.al,.list xs)
 |s=>s
def mX (x:GD)(ρ:Rho):Res (G×List D×Rho):=match x.2 with
 |.list xs=>if imms xs then .ok (.al,xs,ρ.map A3)else .no
 |_=>.no
def mY (x:GD):Bool:=match x.2 with
 |.list _=>!(x.1==.al)
 |d=>!(x.1==.al)||imm d
def pD (ys:List GD)(ρ:Rho):Res (G×List D×Rho):=match ys with
 | [x]=>if mY x then seqR x.2>>=λxs=>.ok (.al,z19 0 xs,ρ)else .no
 |_=>.no
def kY (ys:List GD)(ρ:Rho):Res (G×List D×Rho):=match ys with
 | [x,y]=>if mY x&&mY y then seqR x.2>>=λxs=>seqR y.2>>=λzs=>.ok (.al,zipD xs zs,ρ)else .no
 |_=>.no
def kZ (it:C)(ρ:Rho):Bool:=match evW Κ Φ it ρ with
 |.ok w=>w.1==.al
 |_=>Z6
def sk (it:C)(ρ:Rho):Res (G×List D×Rho):=evW Κ Φ it ρ>>=λw=>if w.1==.al then .no else .ok (w.1,w.2,ρ)
def evF (it:C)(ρ:Rho):Res (G×List D×Rho):=match it with
 |.tv (.var i)=>if AY ρ i then AZ i ρ else if kZ Κ Φ it ρ then aE Κ Φ (.var i) ρ>>=λx=>mX x ρ else sk Κ Φ it ρ
 |.tv a=>if kZ Κ Φ it ρ then aE Κ Φ a ρ>>=λx=>mX x ρ else sk Κ Φ it ρ
 |.enum a=>dG Κ Φ (.cons a .nil) ρ>>=λys=>pD ys ρ
 |.zip a b=>dG Κ Φ (.cons a (.cons b .nil)) ρ>>=λys=>kY ys ρ
 |it=>sk Κ Φ it ρ
def lW (xs:List D):Option D:=match xs.getLast? with
 |some d=>if imm d then Z9 d else Z8
 |none=>Z8
def vH:Option GD->Option GD
 |some (.fr,d)=>Z9 (.nu,d)
 |s=>s
def aH:S->Rho->Res Out
 |.nil,ρ=>.ok (.nx ρ)
 |.seq a b,ρ=>pC (aH a ρ) (aH b)
 |.bad,_=>.no
 |.asg (.nm i) e,ρ=>aE Κ Φ e ρ>>=λx=>.ok (.nx (ρ.set i (Z9 (z1b x))))
 |.asg t e,ρ=>aE Κ Φ e ρ>>=λx=>eZ t x ρ>>=λaN=>.ok (.nx aN)
 |.dN i k v,ρ=>aE Κ Φ v ρ>>=λy=>aE Κ Φ k ρ>>=λx=>match ρ[i]? with
  |some (Z9 (.fr,.dict es))=>if jY x.2&&okIn y&&decide (es.length<LIM)then .ok (.nx ((ρ.set i (Z9 (.fr,.dict (dput es x.2 y.2)))).map z08))else .no
  |some (Z9 (.fr,.list xs))=>(match x.2 with
   |.int j=>if okIn y then(match gZ xs.length j with|some n=>.ok (.nx ((ρ.set i (Z9 (.fr,.list (xs.set n y.2)))).map z08))|none=>.no)else .no
   |_=>.no)
  |_=>.no
 |.mut m i args,ρ=>dG Κ Φ args ρ>>=λys=>match ρ[i]? with
  |some (Z9 (.fr,.list xs))=>mW m xs ys>>=λA4=>.ok (.nx ((ρ.set i (Z9 (.fr,.list A4))).map z08))
  |_=>.no
 |.ret e,ρ=>match e with
  |.var i=>match ρ[i]? with
   |some (Z9 (g,d))=>.ok (.rt (if imm d then .fr else i' g) d)
   |_=>.no
  |e=>aE Κ Φ e ρ>>=λx=>.ok (.rt (i' x.1) x.2)
 |.aX c a b,ρ=>dR Κ Φ c ρ>>=λk=>if k then aH a ρ else aH b ρ
 |.bH t it b,ρ=>evF Κ Φ it ρ>>=λw=>cG (λx ρ1=>eZ t (gJ x w.1,x) ρ1>>=λcR=>aH b cR) w.2.1 w.2.2
 |.wh n c b,ρ=>qM (dR Κ Φ c) (aH b) n ρ
 |.cnt,ρ=>.ok (.ct ρ)
 |.pop j i,ρ=>match ρ[i]? with
  |some (Z9 (.fr,.list xs))=>(match lW xs with
   |some d=>.ok (.nx (((ρ.set i (Z9 (.fr,.list xs.dropLast))).map z08).set j (Z9 (.al,d))))
   |none=>.no)
  |_=>.no
 |.pap i a r,ρ=>aE Κ Φ a ρ>>=λx=>match ρ[i]? with
  |some (Z9 (.fr,.list xs))=>(match lW xs with
   |some d=>dG Κ Φ r ((ρ.set i (Z9 (.fr,.list xs.dropLast))).map z08)>>=λzs=>if imm x.2&&imms (zs.map (·.2))&&decide (xs.length<=LIM)then .ok (.nx ((((ρ.set i (Z9 (.fr,.list xs.dropLast))).map z08).set i (Z9 (.fr,.list (xs.dropLast++[.tuple (x.2::d::zs.map (·.2))])))).map z08))else .no
   |none=>.no)
  |_=>.no
def aZ (n:Nat)(s:S)(ds:List D):Res GD:=match aH Κ Φ s (ds.map (λd=>Z9 (.od,d))++bx (n-ds.length) Z8)with
 |.ok (.nx _)=>.ok (.fr,.none)
 |.ok (.rt g d)=>.ok (g,d)
 |.ok _=>.no
 |_=>.no
end
open PySem.Spec PyProof.Rows L2
def kD:Key->D
 |.inl i=>.int i
 |.inr x=>.str x
def keyOk:Key->Prop
 |.inl _=>True
 |.inr x=>Z1 x=Z7
def KL (K:Z5)(a:Addr)(xs:List V):Prop:=∃(o:Obj) (cC:Array Value) (n:Nat),K.lookup a=Z9 o/\o.cls=.type "list"/\o.dict=Z8/\o.data=.seq cC n/\cC.size<=ay/\Vals xs cC.toList
abbrev Ad:=Option Addr
def FL (K:Z5)(H:Hp)(a:Addr)(xs:List V):Prop:=(∃o,H a=Z9 (.iD o (.lst xs)))\/KL K a xs
def nw (H:Hp):Ad->Prop
 |some a=>H a=Z8
 |none=>False
section
variable (K:Z5)(H:Hp)(B:Ad->Prop)
mutual
def Rep:V->aa->Prop
 |v,.none=>v=.non
 |v,.bool b=>v=.bl b
 |v,.int i=>v=.int i
 |v,.str x=>v=.str x/\Z1 x=Z7
 |v,.tuple ds=>∃a vs,v=.ref a/\cP K H a vs/\Reps vs ds
 |v,.list ds=>∃a vs,v=.ref a/\((H a=Z9 (.lst vs)/\B (Z9 a))\/(FL K H a vs/\B Z8))/\Reps vs ds
 |v,.dict es=>∃a kvs,v=.ref a/\H a=Z9 (.dK kvs)/\B (Z9 a)/\bG kvs es
def Reps:List V->List aa->Prop
 |vs,[]=>vs=[]
 |vs,d::ds=>∃v r,vs=v::r/\Rep v d/\Reps r ds
def bG:List (Key×V)->List (aa×aa)->Prop
 |kvs,[]=>kvs=[]
 |kvs,(kd,d)::es=>∃k v r,kvs=(k,v)::r/\kd=kD k/\keyOk k/\Rep v d/\bG r es
end
end
def Fix:HO->Prop
 |.tup _=>True
 |.iD _ (.lst _)=>True
 |.iD _ (.tup _)=>True
 |_=>False
section
variable {K:Z5}{H H':Hp}{B B':Ad->Prop}
theorem FL.keep (b:∀a o,H a=Z9 o->(B (Z9 a)\/Fix o)->H' a=Z9 o)(r:FL K H a c):FL K H' a c:=by
 rcases r with⟨o,r⟩|r
 .exact .inl ⟨o,b a _ r (.inr True.intro)⟩
 .exact .inr r
theorem _root_.L2.cP.keep (b:∀a o,H a=Z9 o->(B (Z9 a)\/Fix o)->H' a=Z9 o)(r:cP K H a c):cP K H' a c:=by
 rcases r with(r|⟨o,r⟩)|r
 .exact .inl (.inl (b a _ r (.inr True.intro)))
 .exact .inl (.inr ⟨o,b a _ r (.inr True.intro)⟩)
 .exact .inr r
mutual
theorem Rep.keep (hH:∀a o,H a=Z9 o->(B (Z9 a)\/Fix o)->H' a=Z9 o)(hB:∀a,B a->B' a):∀{v:V} (d:aa),Rep K H B v d->Rep K H' B' v d
 |v,.none,r=>r
 |v,.bool b,r=>r
 |v,.int i,r=>r
 |v,.str x,r=>r
 |v,.tuple ds,r=>by obtain⟨a,vs,e,h,q⟩:=r;exact⟨a,vs,e,h.keep hH,Reps.keep hH hB ds q⟩
 |v,.list ds,r=>by
  obtain⟨a,vs,e,h,q⟩:=r;refine⟨a,vs,e,?_,Reps.keep hH hB ds q⟩;rcases h with⟨h,b⟩|h
  .exact .inl ⟨hH a _ h (.inl b),hB _ b⟩
  .exact .inr ⟨FL.keep hH h.1,hB _ h.2⟩
 |v,.dict es,r=>by obtain⟨a,kvs,e,h,b,q⟩:=r;exact⟨a,kvs,e,hH a _ h (.inl b),hB _ b,bG.keep hH hB es q⟩
theorem Reps.keep (hH:∀a o,H a=Z9 o->(B (Z9 a)\/Fix o)->H' a=Z9 o)(hB:∀a,B a->B' a):∀{vs:List V} (ds:List aa),Reps K H B vs ds->Reps K H' B' vs ds
 |vs,[],r=>r
 |vs,d::ds,r=>by obtain⟨v,t,e,h,q⟩:=r;exact⟨v,t,e,Rep.keep hH hB d h,Reps.keep hH hB ds q⟩
theorem bG.keep (hH:∀a o,H a=Z9 o->(B (Z9 a)\/Fix o)->H' a=Z9 o)(hB:∀a,B a->B' a):∀{kvs:List (Key×V)} (es:List (aa×aa)),bG K H B kvs es->bG K H' B' kvs es
 |kvs,[],r=>r
 |kvs,(kd,d)::es,r=>by obtain⟨k,v,t,e,e2,ok,h,q⟩:=r;exact⟨k,v,t,e,e2,ok,Rep.keep hH hB d h,bG.keep hH hB es q⟩
end
theorem Rep.same (s:Same H H')(b:∀a,B a->B' a)(r:Rep K H B v d):Rep K H' B' v d:=Rep.keep (λa o e _=>s a o e) b d r
theorem Reps.same (s:Same H H')(b:∀a,B a->B' a)(r:Reps K H B c ds):Reps K H' B' c ds:=Reps.keep (λa o e _=>s a o e) b ds r
theorem bG.same (s:Same H H')(b:∀a,B a->B' a)(r:bG K H B c ds):bG K H' B' c ds:=bG.keep (λa o e _=>s a o e) b ds r
theorem Rep.weak (b:∀a,B a->B' a)(r:Rep K H B v d):Rep K H B' v d:=r.same (λ_ _ e=>e) b
theorem Reps.weak (b:∀a,B a->B' a)(r:Reps K H B v d):Reps K H B' v d:=r.same (λ_ _ e=>e) b
mutual
theorem Rep.bS:∀{v:V} (d:aa),imm d=Z7->Rep K H B v d->Rep K H B' v d
 |v,.none,_,r=>r
 |v,.bool b,_,r=>r
 |v,.int i,_,r=>r
 |v,.str x,_,r=>r
 |v,.tuple ds,i,r=>by obtain⟨a,vs,e,h,q⟩:=r;exact⟨a,vs,e,h,Reps.bS ds (i) q⟩
 |v,.list ds,i,r=>by cases(show Z6=Z7 from i)
 |v,.dict es,i,r=>by cases(show Z6=Z7 from i)
theorem Reps.bS:∀{vs:List V} (ds:List aa),imms ds=Z7->Reps K H B vs ds->Reps K H B' vs ds
 |vs,[],_,r=>r
 |vs,d::ds,i,r=>by have i:=aw.mp (show(imm d&&imms ds)=Z7 from i);obtain⟨v,t,e,h,q⟩:=r;exact⟨v,t,e,Rep.bS d i.1 h,Reps.bS ds i.2 q⟩
end
mutual
theorem Rep.bT (hH:∀a o,H a=Z9 o->Fix o->H' a=Z9 o):∀{v:V} (d:aa),imm d=Z7->Rep K H B v d->Rep K H' B' v d
 |v,.none,_,r=>r
 |v,.bool b,_,r=>r
 |v,.int i,_,r=>r
 |v,.str x,_,r=>r
 |v,.tuple ds,i,r=>by obtain⟨a,vs,e,h,q⟩:=r;exact⟨a,vs,e,h.keep (B:=λ_=>False) (λa o e f=>hH a o e (f.resolve_left id)),Reps.bT hH ds (i) q⟩
 |v,.list ds,i,r=>by cases(show Z6=Z7 from i)
 |v,.dict es,i,r=>by cases(show Z6=Z7 from i)
theorem Reps.bT (hH:∀a o,H a=Z9 o->Fix o->H' a=Z9 o):∀{vs:List V} (ds:List aa),imms ds=Z7->Reps K H B vs ds->Reps K H' B' vs ds
 |vs,[],_,r=>r
 |vs,d::ds,i,r=>by have i:=aw.mp (show(imm d&&imms ds)=Z7 from i);obtain⟨v,t,e,h,q⟩:=r;exact⟨v,t,e,Rep.bT hH d i.1 h,Reps.bT hH ds i.2 q⟩
end
theorem Reps.length:∀{vs:List V} {ds:List D},Reps K H B vs ds->vs.length=ds.length
 |vs,[],r=>by have e:vs=[]:=r;subst e;rfl
 |vs,d::ds,r=>by obtain⟨v,t,rfl,h,q⟩:=r;rw[am,am,q.length]
theorem Reps.get:∀{vs:List V} {ds:List D} {i:Nat} {d:D},Reps K H B vs ds->ds[i]?=Z9 d->∃v,vs[i]?=Z9 v/\Rep K H B v d
 |vs,[],i,d,r,e=>by simp at e
 |vs,d0::ds,0,d,r,e=>by
  obtain⟨v,t,rfl,h,q⟩:=r;have:d0=d:=by simpa using e
  subst this;exact⟨v,rfl,h⟩
 |vs,d0::ds,i+1,d,r,e=>by obtain⟨v,t,rfl,h,q⟩:=r;obtain⟨u,h1,h2⟩:=q.get (by simpa using e);exact⟨u,by simpa using h1,h2⟩
theorem Reps.lA:∀{a:List V} {b:List D} {i:Nat} {v:V},Reps K H B a b->a[i]?=Z9 v->∃d,b[i]?=Z9 d/\Rep K H B v d
 |a,[],i,v,r,e=>by have c:a=[]:=r;subst c;simp at e
 |a,d0::b,0,v,r,e=>by
  obtain⟨u,t,rfl,h,q⟩:=r;have:u=v:=by simpa using e
  subst this;exact⟨d0,rfl,h⟩
 |a,d0::b,i+1,v,r,e=>by obtain⟨u,t,rfl,h,q⟩:=r;obtain⟨d,f,g⟩:=q.lA (by simpa using e);exact⟨d,by simpa using f,g⟩
theorem Reps.cons {v:V}{d:D}{vs:List V}{ds:List D}(h:Rep K H B v d)(r:Reps K H B vs ds):Reps K H B (v::vs) (d::ds):=⟨v,vs,rfl,h,r⟩
theorem Reps.append:∀{a b:List V} {c es:List D},Reps K H B a c->Reps K H B b es->Reps K H B (a++b) (c++es)
 |a,b,[],es,r,q=>by have e:a=[]:=r;subst e;exact q
 |a,b,d::c,es,r,q=>by obtain⟨v,t,rfl,h,p⟩:=r;exact⟨v,t++b,rfl,h,p.append q⟩
theorem Reps.take:∀{a:List V} {b:List D} n,Reps K H B a b->Reps K H B (a.take n) (b.take n)
 |a,b,0,r=>by rw[List.take_zero];exact rfl
 |a,[],n+1,r=>by have e:a=[]:=r;subst e;exact rfl
 |a,d::b,n+1,r=>by obtain⟨v,t,rfl,h,p⟩:=r;exact⟨v,t.take n,rfl,h,p.take n⟩
theorem Reps.drop:∀{vs:List V} {ds:List D} n,Reps K H B vs ds->Reps K H B (vs.drop n) (ds.drop n)
 |vs,ds,0,r=>r
 |vs,[],n+1,r=>by have e:vs=[]:=r;subst e;exact rfl
 |vs,d::ds,n+1,r=>by obtain⟨v,t,rfl,h,p⟩:=r;exact p.drop n
theorem Reps.set (h:Rep K H B v d):∀{a:List V} {b:List D} n,Reps K H B a b->Reps K H B (a.set n v) (b.set n d)
 |a,[],n,r=>by have e:a=[]:=r;subst e;exact rfl
 |a,d::b,0,r=>by obtain⟨u,t,rfl,_,p⟩:=r;exact⟨_,_,rfl,h,p⟩
 |a,d::b,n+1,r=>by obtain⟨u,t,rfl,h0,p⟩:=r;exact⟨_,_,rfl,h0,p.set h n⟩
mutual
theorem Rep.there:∀{v:V} (d:aa),Rep K H B v d->Rep K H (λa=>B a/\¬nw H a) v d
 |v,.none,r=>r
 |v,.bool b,r=>r
 |v,.int i,r=>r
 |v,.str x,r=>r
 |v,.tuple ds,r=>by obtain⟨a,vs,e,h,q⟩:=r;exact⟨a,vs,e,h,Reps.there ds q⟩
 |v,.list ds,r=>by
  obtain⟨a,vs,e,h,q⟩:=r;refine⟨a,vs,e,?_,Reps.there ds q⟩;rcases h with⟨h,b⟩|h
  .refine .inl ⟨h,b,λz=>?_⟩;have z':H a=none:=z;rw[h]at z';cases z'
  .exact .inr ⟨h.1,h.2,λz=>z⟩
 |v,.dict es,r=>by obtain⟨a,kvs,e,h,b,q⟩:=r;exact⟨a,kvs,e,h,⟨b,λz=>by have z':H a=none:=z;rw[h]at z';cases z'⟩,bG.there es q⟩
theorem Reps.there:∀{vs:List V} (ds:List aa),Reps K H B vs ds->Reps K H (λa=>B a/\¬nw H a) vs ds
 |vs,[],r=>r
 |vs,d::ds,r=>by obtain⟨v,t,e,h,q⟩:=r;exact⟨v,t,e,Rep.there d h,Reps.there ds q⟩
theorem bG.there:∀{kvs:List (Key×V)} (es:List (aa×aa)),bG K H B kvs es->bG K H (λa=>B a/\¬nw H a) kvs es
 |kvs,[],r=>r
 |kvs,(kd,d)::es,r=>by obtain⟨k,v,t,e,e2,ok,h,q⟩:=r;exact⟨k,v,t,e,e2,ok,Rep.there d h,bG.there es q⟩
end
end
structure Fm where
 H0:Hp
 V:Addr->Prop
 O:Addr->Option Nat
 z:Prop
def Bin (F:Fm):Ad->Prop
 |some a=>F.O a=Z8/\F.H0 a=Z8/\F.V a
 |none=>False
def bU (F:Fm):Ad->Prop
 |some a=>F.V a
 |none=>F.z
def fX (F:Fm):Ad->Prop
 |some a=>F.H0 a≠Z8/\F.V a
 |none=>F.z
def Slot (K:Z5)(F:Fm)(H:Hp)(i:Nat):G->V->D->Prop
 |.fr,v,d=>∃p,v=.ref p/\F.O p=Z9 i/\((∃vs ds,d=.list ds/\H p=Z9 (.lst vs)/\Reps K H (Bin F) vs ds)\/(∃kvs es,d=.dict es/\H p=Z9 (.dK kvs)/\bG K H (Bin F) kvs es))
 |.od,v,d=>Rep K H (fX F) v d
 |.al,v,d=>Rep K H (bU F) v d
 |.nu,v,d=>Rep K H (Bin F) v d
structure StOk (K:Z5)(F:Fm)(H:Hp)(σ:L2.St)(ρ:Rho):Prop where
 ext:Same F.H0 H
 aO:∀a,H a=Z8->F.V a
 own:∀a i,F.O a=Z9 i->F.H0 a=Z8/\F.V a/\((∃xs,H a=Z9 (.lst xs))\/∃kvs,H a=Z9 (.dK kvs))
 len:σ.length=ρ.length
 sl:∀i g d,ρ[i]?=Z9 (Z9 (g,d))->∃v,σ[i]?=Z9 (Z9 v)/\Slot K F H i g v d
def BG (F:Fm)(H:Hp):G->Ad->Prop
 |.fr=>nw H
 |.od=>fX F
 |.al=>bU F
 |.nu=>λa=>nw H a\/Bin F a
section
variable {K:Z5}{F:Fm}{H H':Hp}{σ:L2.St}{ρ:Rho}
theorem Slot.same (s:Same H H')(h:Slot K F H i g v d):Slot K F H' i g v d:=by
 cases g with
 |fr=>
  obtain⟨p,e,o,h⟩:=h;refine⟨p,e,o,?_⟩;rcases h with⟨a,c,f,j,r⟩|⟨a,c,f,j,r⟩
  .exact .inl ⟨a,c,f,s _ _ j,r.same s λ_ b=>b⟩
  .exact .inr ⟨a,c,f,s _ _ j,r.same s λ_ b=>b⟩
 |od=>exact Rep.same s (λ_ b=>b) h
 |al=>exact Rep.same s (λ_ b=>b) h
 |nu=>exact Rep.same s (λ_ b=>b) h
theorem _root_.L2.Same.none (s:Same H H')(h:H' a=Z8):H a=none:=by
 cases e:H a with
 |none=>rfl
 |some o=>rw[s a o e]at h;cases h
theorem StOk.same (s:Same H H')(h:StOk K F H σ ρ):StOk K F H' σ ρ where
 ext:=λa o e=>s a o (h.ext a o e)
 aO:=λa e=>h.aO a (s.none e)
 own:=λa i e=>by
  obtain⟨c,j,b⟩:=h.own a i e;refine⟨c,j,?_⟩;rcases b with⟨f,b⟩|⟨f,b⟩
  .exact .inl ⟨f,s _ _ b⟩
  .exact .inr ⟨f,s _ _ b⟩
 len:=h.len
 sl:=λi g d e=>by obtain⟨v,c,b⟩:=h.sl i g d e;exact⟨v,c,b.same s⟩
theorem nw.back (s:Same H H')(h:nw H' a):nw H a:=by
 cases a with
 |none=>exact h
 |some a=>exact s.none h
theorem nw.aO (b:∀a,H a=Z8->F.V a)(h:nw H a):bU F a:=by
 cases a with
 |none=>exact h.elim
 |some a=>exact b a h
theorem fX.aO (h:fX F a):bU F a:=by
 cases a with
 |none=>exact h
 |some a=>exact h.2
theorem Bin.aO (h:Bin F a):bU F a:=by
 cases a with
 |none=>exact h.elim
 |some a=>exact h.2.2
theorem BG.back (s:Same H H')(h:BG F H' g a):BG F H g a:=by
 cases g with
 |fr=>exact nw.back s h
 |od=>exact h
 |al=>exact h
 |nu=>exact h.elim (λh=>.inl (nw.back s h)) .inr
theorem BG.aO (b:∀a,H a=Z8->F.V a)(h:BG F H g a):bU F a:=by
 cases g with
 |fr=>exact nw.aO b h
 |od=>exact fX.aO h
 |al=>exact h
 |nu=>exact h.elim (nw.aO b) Bin.aO
theorem Slot.rep (so:∀a i,F.O a=Z9 i->F.V a)(h:Slot K F H i g v d):Rep K H (bU F) v d:=by
 cases g with
 |fr=>
  obtain⟨p,e,o,h⟩:=h;rcases h with⟨c,j,rfl,f,r⟩|⟨c,j,rfl,f,r⟩
  .exact⟨p,c,e,.inl ⟨f,so _ _ o⟩,r.weak λ_ b=>b.aO⟩
  .exact⟨p,c,e,f,so _ _ o,bG.same (λ_ _ e=>e) (λ_ b=>b.aO) r⟩
 |od=>exact Rep.weak (λ_ b=>b.aO) h
 |al=>exact h
 |nu=>exact Rep.weak (λ_ b=>Bin.aO b) h
theorem StOk.jH (h:StOk K F H σ ρ):∀a i,F.O a=Z9 i->F.V a:=λa i e=>(h.own a i e).2.1
theorem StOk.rd (h:StOk K F H σ ρ){i:Nat}(e:rY ρ[i]?=.ok x):∃v,σ[i]?=Z9 (Z9 v)/\Rep K H (BG F H x.1) v x.2:=by
 cases c:ρ[i]? with
 |none=>rw[c]at e;cases e
 |some o=>
  cases o with
  |none=>rw[c]at e;cases e
  |some gd=>
   obtain⟨g,d⟩:=gd;rw[c]at e;obtain⟨v,j,a⟩:=h.sl i g d c;have k:=(Res.ok.inj e).symm;subst k;refine⟨v,j,?_⟩;by_cases f:imm d=Z7
   .show Rep K H (BG F H (if imm d=Z7 then _ else _)) v d;exact Rep.bS d f (a.rep h.jH)
   .show Rep K H (BG F H (if imm d=Z7 then _ else _)) v d;rw[qf f];cases g with
    |fr=>exact a.rep h.jH
    |od=>exact a
    |al=>exact a
    |nu=>exact Rep.weak (λ_ b=>.inr b) a
end
structure Gm where
 N:List Str
 sc:Scope
 blk:Bool:=Z6
 free:List Str
 fns:List (Str×Nat)
 cst:List Str
 cm:Bool:=Z7
 xc:Option (Str×Str):=Z8
 kp:List Str:=[]
section
variable (Γ:Gm)
def fB (i:Nat)(x:Str):Bool:=(Γ.N[i]?==Z9 x)&&(Γ.sc.names.lookup x==Z9 .local||Γ.sc.names.lookup x==Z9 .cell||Γ.sc.names.lookup x==Z9 .free)&& !(x==("__debug__":Str))&& !(x==("__classdict__":Str))
def pE (x:Str):Bool:=(Γ.sc.names.lookup x==Z9 .globalImplicit)&& !(x==("__debug__":Str))
def dH (x:Str):Bool:=pE Γ x&&Γ.free.contains x&& !(x==("__name__":Str))
def jI (i:Nat)(x:Str):Bool:=(Γ.N[i]?==Z9 x)&&(Γ.sc.names.lookup x==Z9 .local||(!Γ.blk&&Γ.sc.names.lookup x==Z9 .cell))&&(!Γ.kp.contains x&&Γ.xc.all λp=>!(p.1==x))
end
def tgIx:Tg->List Nat
 |.nm i=>[i]
 |.tp is=>is
def yl (scope sc:Scope):Scope:={scope with names:=scope.names.map λ(n,k)=>if(k==.free&&sc.kind==.function&&sc.names.lookup n==Z9 .cell)then(n,.cell)else(n,k)}
def plainT:Expr->Bool
 |.UnaryOp .Not _ _=>Z6
 |.BoolOp _ _ _=>Z6
 |.IfExp _ _ _ _=>Z6
 |.Compare _ _ _ _=>Z6
 |_=>Z7
def Fz:Expr->Bool
 |.Compare _ _ _ _=>Z7
 |_=>Z6
def z42:Expr->Bool
 |.Slice _ _ _ _=>Z6
 |_=>Z7
def z0v:Expr->Bool
 |.Call (.Name _ _) [] [] _=>Z6
 |_=>Z7
def sr:Expr->Bool
 |.Set _ _ _=>Z6
 |_=>Z7
def isTup:Expr->Bool
 |.Tuple _ _ _=>Z7
 |_=>Z6
def A5:Expr->Option Str
 |.Name x _=>Z9 x
 |_=>Z8
def jJ:Expr->Option Const
 |.Constant v _ _=>Z9 v
 |_=>Z8
def su:Expr->Option (Expr×ni×Expr)
 |.BinOp l o r _=>Z9 (l,o,r)
 |_=>Z8
def vI:Expr->Option (UnaryOp×Expr)
 |.UnaryOp o x _=>Z9 (o,x)
 |_=>Z8
def sv:Expr->Option (Expr×List CmpOp×List Expr)
 |.Compare l o r _=>Z9 (l,o,r)
 |_=>Z8
def vJ:Expr->Option (BoolOp×List Expr×Pos)
 |.BoolOp o xs p=>Z9 (o,xs,p)
 |_=>Z8
def sx:Expr->Option (Expr×Expr×Expr)
 |.IfExp t x y _=>Z9 (t,x,y)
 |_=>Z8
def mZ:Expr->Option (List Expr)
 |.Tuple es _ _=>Z9 es
 |_=>Z8
def sA:Expr->Option (List Expr)
 |.List es _=>Z9 es
 |_=>Z8
def ym:Expr->Option (List (Option Expr)×List Expr)
 |.Dict k v _=>Z9 (k,v)
 |_=>Z8
def lB:Expr->Option (Expr×Expr)
 |.Subscript x i _=>Z9 (x,i)
 |_=>Z8
def vK:Expr->Option (Option Expr×Option Expr×Option Expr)
 |.Slice l h s _=>Z9 (l,h,s)
 |_=>Z8
def A6:Expr->Option (Expr×List Expr×List kz×Pos)
 |.Call f es k p=>Z9 (f,es,k,p)
 |_=>Z8
def yn:Expr->Option (Expr×Str×Pos)
 |.Attribute x n p=>Z9 (x,n,p)
 |_=>Z8
def A7:Expr->Option (Expr×List Comprehension×Scope)
 |.ListComp el gs s _=>Z9 (el,gs,s)
 |_=>Z8
def bJ {α:Type}:List α->Option α
 | [x]=>Z9 x
 |_=>Z8
def pF {α:Type}:List α->Option (α×α)
 | [x,y]=>Z9 (x,y)
 |_=>Z8
def jK (e:Expr):Option (Str×List Expr):=(A6 e).bind λv=>if v.2.2.1.isEmpty then(A5 v.1).map λx=>(x,v.2.1)else Z8
def nA (e:Expr):Option (Expr×Str×List Expr×Bool):=(A6 e).bind λv=>if v.2.2.1.isEmpty then(yn v.1).map λu=>(u.1,u.2.1,v.2.1,u.2.2.endLine==v.2.2.2.line)else Z8
def vL (f g:Expr->Bool)(o:BoolOp)(p:Pos):List Expr->Bool
 |x::y::r=>f x&&(if r.isEmpty then g y else g (.BoolOp o (y::r) p))
 |_=>Z6
def vM (n:Bool)(f:Expr->Bool):List Expr->Bool
 | []=>n
 |t::r=>r.isEmpty&&f t
def vN:C->Bool
 |.nil=>Z7
 |_=>Z6
def iP (f:Str->Bool)(e:Expr):Bool:=(A5 e).any f
def A8 (Γ:Gm):List Nat->List Expr->Bool
 | [],es=>es.isEmpty
 |i::is,es=>match es with|e::es=>iP (jI Γ i) e&&A8 Γ is es| []=>Z6
def qN (Γ:Gm):Tg->Expr->Bool
 |.nm i,e=>iP (jI Γ i) e
 |.tp is,e=>Γ.cm&&(mZ e).any (A8 Γ is)
def yo:ni->Bool
 |.Add|.Sub|.Mult|.FloorDiv|.Mod|.Pow=>Z7
 |_=>Z6
def z2l:CmpOp->Bool
 |.Is|.IsNot|.GtE=>Z6
 |_=>Z7
def A9 (T:String):Bool:=tysB.contains T
def tyB (Γ:Gm)(T:String)(t:Expr):Bool:=iP (λx=>(x==Str.ofString T)&&dH Γ x&&A9 T) t
def sD:List String:=["list","tuple","sum","all"]
def MF:Tg->Bool
 |.nm _=>Z7
 |.tp _=>Z6
def isNm:Expr->Bool
 |.Name _ _=>Z7
 |_=>Z6
def yp:C->Expr->Bool
 |.enum _,e=>isTup e
 |.zip _ _,e=>isTup e||isNm e
 |_,_=>Z7
def sE (f:Expr->Bool)(e:Expr):Bool:=(nA e).any λm=>f m.1&&(m.2.1==("pop":Str))&&m.2.2.1.isEmpty&&m.2.2.2
def A' (f g:Expr->Bool)(h:List Expr->Bool):List Expr->Bool
 |a::b::l=>f a&&g b&&h l
 |_=>Z6
mutual
def chkE (Γ:Gm):C->Expr->Bool
 |.var i,e=>iP (fB Γ i) e
 |.non,e=>decide (jJ e=Z9 .none)
 |.bl b,e=>decide (jJ e=Z9 (.bool b))
 |.int i,e=>decide (jJ e=Z9 (.int i))
 |.str x,e=>decide (jJ e=Z9 (.str x))&&Z1 x
 |.glob k x,e=>iP (λy=>(x==y)&&pE Γ x&&(Γ.cst[k]?==Z9 x)) e
 |.bin op a b,e=>(su e).any λv=>decide (op=v.2.1)&&yo op&&chkE Γ a v.1&&chkE Γ b v.2.2
 |.neg a,e=>(vI e).any λv=>decide (v.1=.USub)&&chkE Γ a v.2
 |.cmp op a b,e=>(sv e).any λv=>decide (v.2.1=[op])&&(bJ v.2.2).any λr=>z2l op&& !(di op r)&&chkE Γ a v.1&&chkE Γ b r
 |.chain op op' a b c,e=>(sv e).any λv=>decide (v.2.1=[op,op'])&&(pF v.2.2).any λr=>z2l op&&z2l op'&& !(ls [op,op'] [r.1,r.2])&&chkE Γ a v.1&&(chkE Γ b r.1&&chkE Γ c r.2)
 |.rW ng a,e=>(sv e).any λv=>decide (v.2.1=[if ng then .IsNot else .Is])&&(bJ v.2.2).any λr=>decide (jJ r=Z9 .none)&&chkE Γ a v.1
 |.and a b,e=>(vJ e).any λv=>decide (v.1=.And)&&vL (λx=>chkE Γ a x) (λx=>chkE Γ b x) .And v.2.2 v.2.1
 |.or a b,e=>(vJ e).any λv=>decide (v.1=.Or)&&vL (λx=>chkE Γ a x) (λx=>chkE Γ b x) .Or v.2.2 v.2.1
 |.not a,e=>(vI e).any λv=>decide (v.1=.Not)&&chkE Γ a v.2
 |.rX c a b,e=>(sx e).any λv=>eK Γ c v.1&&chkE Γ a v.2.1&&chkE Γ b v.2.2
 |.tup xs,e=>(mZ e).any λes=>decide (es.length<=1000)&&dY Γ xs es
 |.lst xs,e=>(sA e).any λes=>decide (es.length<=1000)&&dY Γ xs es
 |.hG,e=>(ym e).any λv=>v.1.isEmpty&&v.2.isEmpty
 |.ix a b,e=>(lB e).any λv=>z42 v.2&&chkE Γ a v.1&&chkE Γ b v.2
 |.sl a lo hi,e=>(lB e).any λv=>(vK v.2).any λs=>s.2.2.isNone&&chkE Γ a v.1&&pG Γ lo s.1&&pG Γ hi s.2.1
 |.call k f args,e=>(jK e).any λv=>(Γ.cm&&(v.1==f))&&pE Γ v.1&&(Γ.fns[k]?==Z9 (f,v.2.length))&&dY Γ args v.2&& !v.2.isEmpty
 |.bi f args,e=>(jK e).any λv=>(v.1==Str.ofString f)&&dH Γ v.1&&((["len","int","str"].contains f)&&(Γ.cm||f=="int"))&&dY Γ args v.2&& !v.2.isEmpty
 |.hJ f a,e=>(jK e).any λv=>(v.1==Str.ofString f)&&dH Γ v.1&&(sD.contains f&&Γ.cm)&&(bJ v.2).any λy=>!isStar y&&sF Γ a y
 |.dP a ts,e=>(jK e).any λv=>(v.1==("isinstance":Str))&&dH Γ v.1&&(pF v.2).any λy=>!isStar y.1&&chkE Γ a y.1&&(bJ ts).any λT=>tyB Γ T y.2
 |.mt m o args,e=>(nA e).any λv=>((v.2.1==Str.ofString m)&& ["join"].contains m&&z0v v.1&&v.2.2.2&&decide (v.2.2.1.length<20))&&chkE Γ o v.1&&dY Γ args v.2.2.1&& !v.2.2.1.isEmpty
 |.comp nt js N' tg it cond elt,e=>(A7 e).any λv=>(bJ v.2.1).any λg=>let Ba:Gm:={Γ with N:=N',sc:=yl v.2.2 Γ.sc,blk:=Z7,xc:=Z8,kp:=[]}
  ((Γ.cm&&(g.is_async==0))&&(tgIx tg).all (λi=>decide (i<nt))&&oW Γ.N Γ.sc v.2.2 N' nt js&&sr g.iter&&decide N'.Nodup)&&(qN Ba tg g.target&&yp it g.target)&&jL Γ it g.iter&&vM (vN cond) (λt=>eK Ba cond t) g.ifs&&chkE Ba elt v.1
 |.lk i,e=>(jK e).any λv=>(Γ.cm&&(v.1==("list":Str)))&&dH Γ v.1&&(bJ v.2).any λy=>iP (fB Γ i) y
 |.d1 k v,e=>(ym e).any λu=>(bJ u.1).any λo=>(bJ u.2).any λy=>o.any (λx=>chkE Γ k x)&&chkE Γ v y
 |.jF a b,e=>(nA e).any λv=>((v.2.1==("split":Str))&&z0v v.1&&v.2.2.2)&&chkE Γ a v.1&&(bJ v.2.2.1).any λy=>!isStar y&&chkE Γ b y
 |.fT _,_=>Z6
 |.enum _,_=>Z6
 |.zip _ _,_=>Z6
 |.tv _,_=>Z6
 |.nil,_=>Z6
 |.cons _ _,_=>Z6
def eK (Γ:Gm):C->Expr->Bool
 |.and a b,e=>(vJ e).any λv=>decide (v.1=.And)&&vL (λx=>eK Γ a x) (λx=>eK Γ b x) .And v.2.2 v.2.1
 |.or a b,e=>(vJ e).any λv=>decide (v.1=.Or)&&vL (λx=>eK Γ a x) (λx=>eK Γ b x) .Or v.2.2 v.2.1
 |.not a,e=>(vI e).any λv=>decide (v.1=.Not)&&eK Γ a v.2
 |.tv a,e=>(plainT e||Fz e)&&chkE Γ a e
 |_,_=>Z6
def dY (Γ:Gm):C->List Expr->Bool
 |.nil,es=>es.isEmpty
 |.cons a r,es=>match es with|e::es=>!isStar e&&chkE Γ a e&&dY Γ r es|_=>Z6
 |_,_=>Z6
def pG (Γ:Gm):C->Option Expr->Bool
 |.nil,e=>e.isNone
 |.tv a,e=>e.any λe=>chkE Γ a e
 |_,_=>Z6
def jL (Γ:Gm):C->Expr->Bool
 |.fT args,e=>(jK e).any λv=>(v.1==("range":Str))&&dH Γ v.1&&dY Γ args v.2&&(!v.2.isEmpty&&decide (v.2.length<=2))
 |.tv a,e=>sr e&&chkE Γ a e
 |.enum a,e=>(jK e).any λv=>(v.1==("enumerate":Str))&&dH Γ v.1&&(bJ v.2).any λy=>!isStar y&&chkE Γ a y
 |.zip a b,e=>(jK e).any λv=>(v.1==("zip":Str))&&dH Γ v.1&&(pF v.2).any λy=>(!isStar y.1&& !isStar y.2)&&chkE Γ a y.1&&chkE Γ b y.2
 |_,_=>Z6
def sF (Γ:Gm):C->Expr->Bool
 |.tv a,e=>chkE Γ a e
 |_,_=>Z6
end
def lC:C->Bool
 |_=>Z6
def vO (Γ:Gm)(it:C)(tg ie:Expr):Bool:=yp it tg&&jL Γ it ie
def sG:Stmt->Option (List Expr×Expr)
 |.Assign t v _=>Z9 (t,v)
 |_=>Z8
def vP:Stmt->Option Expr
 |.Expr v _=>Z9 v
 |_=>Z8
def Bb:Stmt->Option (Option Expr)
 |.Return v _=>Z9 v
 |_=>Z8
def Bc:Stmt->Option (Expr×List Stmt×List Stmt)
 |.If t A B _=>Z9 (t,A,B)
 |_=>Z8
def yq:Stmt->Option (Expr×Expr×List Stmt×List Stmt)
 |.For t i B o _=>Z9 (t,i,B,o)
 |_=>Z8
def Bd:Stmt->Option (Expr×List Stmt×List Stmt)
 |.While t B o _=>Z9 (t,B,o)
 |_=>Z8
def FA:Stmt->Option Nat
 |.Pass _=>Z9 0
 |.Break _=>Z9 1
 |.Continue _=>Z9 2
 |_=>Z8
mutual
def pH (Γ:Gm):S->Stmt->Bool
 |.bad,_=>Z7
 |.asg t e,s=>(sG s).any λu=>(bJ u.1).any λx=>qN Γ t x&& !lC e&&(MF t||(!z1u u.2&& !isTup u.2))&&chkE Γ e u.2
 |.dN i k v,s=>(sG s).any λu=>(bJ u.1).any λx=>(lB x).any λw=>iP (fB Γ i) w.1&&z42 w.2&& !z1u u.2&&chkE Γ k w.2&&chkE Γ v u.2
 |.mut m i args,s=>(vP s).any λc=>(nA c).any λv=>(iP (fB Γ i) v.1&&(v.2.1==Str.ofString m)&& ["append"].contains m&&v.2.2.2&&decide (v.2.2.1.length<20))&& !v.2.2.1.isEmpty&&dY Γ args v.2.2.1
 |.ret e,s=>(Bb s).any λo=>o.any λv=>chkE Γ e v
 |.aX c a b,s=>(Bc s).any λv=>eK Γ c v.1&&chkL Γ a v.2.1&&chkL Γ b v.2.2
 |.bH t it b,s=>Γ.cm&&(yq s).any λv=>qN Γ t v.1&&vO Γ it v.1 v.2.1&&chkL Γ b v.2.2.1&&v.2.2.2.isEmpty
 |.wh _ c b,s=>(Bd s).any λv=>eK Γ c v.1&&chkL Γ b v.2.1&&v.2.2.isEmpty
 |.cnt,s=>decide (FA s=Z9 2)
 |.pop j i,s=>(sG s).any λu=>(bJ u.1).any λx=>iP (jI Γ j) x&&sE (iP (fB Γ i)) u.2
 |.pap i a r,s=>(vP s).any λc=>(nA c).any λv=>(iP (fB Γ i) v.1&&(v.2.1==("append":Str))&&v.2.2.2)&&(bJ v.2.2.1).any λt=>(mZ t).any λes=>A' (λe=>!isStar e&&chkE Γ a e) (sE (iP (fB Γ i))) (λl=>decide (l.length<=900)&&dY Γ r l) es
 |.nil,_=>Z6
 |.seq _ _,_=>Z6
def chkL (Γ:Gm):S->List Stmt->Bool
 |.nil,l=>l.isEmpty
 |.seq a b,l=>match l with|s::r=>pH Γ a s&&chkL Γ b r|_=>Z6
 |_,_=>Z6
end
def tD (K:Z5)(f:Rho->Res GD):TE:=λσ H Q=>∃ρ F x,StOk K F H σ ρ/\f ρ=.ok x/\∀v H',Same H H'->Rep K H' (BG F H x.1) v x.2->Q v H'
def dS (K:Z5)(f:Rho->Res Bool):TT:=λσ H Q=>∃ρ F b,StOk K F H σ ρ/\f ρ=.ok b/\∀H',Same H H'->Q b H'
def tDO (K:Z5)(f:Rho->Res (Option Int)):TO:=λσ H Q=>∃ρ F b,StOk K F H σ ρ/\f ρ=.ok b/\∀H',Same H H'->Q b H'
def dZ (K:Z5)(F:Fm)(H H':Hp):List V->List GD->Prop
 |vs,[]=>vs=[]
 |vs,x::xs=>∃v r,vs=v::r/\Rep K H' (BG F H x.1) v x.2/\dZ K F H H' r xs
def tDA (K:Z5)(f:Rho->Res (List GD)):TA:=λσ H Q=>∃ρ F xs,StOk K F H σ ρ/\f ρ=.ok xs/\∀vs H',Same H H'->dZ K F H H' vs xs->Q vs H'
theorem _root_.L2.PE.imp (h:PE X e t)(i:∀a H Q,c a H Q->t a H Q):PE X e c:=λb s a H Q I q=>h b s a H Q I (i a H Q q)
theorem _root_.L2.PT.imp (h:PT X e t)(i:∀a H Q,c a H Q->t a H Q):PT X e c:=λb s a H Q I q=>h b s a H Q I (i a H Q q)
theorem _root_.L2.PW.imp (h:PW X e t)(i:∀a H Q,c a H Q->t a H Q):PW X e c:=λwh b s a H Q I q=>h wh b s a H Q I (i a H Q q)
theorem _root_.L2.PA.imp (h:PA X e t)(i:∀a H Q,c a H Q->t a H Q):PA X e c:=λpos b s a H Q I q=>h pos b s a H Q I (i a H Q q)
theorem _root_.L2.PO.imp (h:PO X e t)(i:∀a H Q,c a H Q->t a H Q):PO X e c:=λb s a H Q I q=>h b s a H Q I (i a H Q q)
theorem _root_.L2.PS.imp (h:PS X e t)(i:∀D a H,c D a H->t D a H):PS X e c:=λb s a H D I q=>h b s a H D I (i D a H q)
theorem _root_.L2.PSs.imp (h:PSs X e t)(i:∀D a H,c D a H->t D a H):PSs X e c:=λb s a H D I q=>h b s a H D I (i D a H q)
section
variable {K:Z5}{F:Fm}{H H1 H':Hp}
theorem dZ.back:∀{a:List V} {c:List GD},Same H H1->dZ K F H1 H' a c->dZ K F H H' a c
 |a,[],_,r=>r
 |a,x::c,s,r=>by obtain⟨v,t,e,h,q⟩:=r;exact⟨v,t,e,h.weak λ_ b=>b.back s,q.back s⟩
theorem dZ.nB:∀{b:List V} {c:List GD},(∀x∈c,∀a,BG F H x.1 a->B a)->dZ K F H H' b c->Reps K H' B b (c.map (·.2))
 |b,[],_,r=>r
 |b,x::c,d,r=>by obtain⟨v,t,e,h,q⟩:=r;exact⟨v,t,e,h.weak (d x ax),q.nB λy f=>d y (av _ f)⟩
theorem dZ.iQ (b:∀a,H a=Z8->F.V a)(r:dZ K F H H' c d):Reps K H' (bU F) c (d.map (·.2)):=r.nB λ_ _ _ h=>h.aO b
theorem vQ (f:∀a,H a=Z8->F.V a)(c:x∈d)(h:BG F H x.1 a):BG F H (cF d) a:=by
 unfold cF;by_cases e:(d.all λx=>x.1==.fr)=Z7
 .rw[qe e];have:=(be.mp e) x c;have b:x.1=.fr:=by simpa using this
  rw[b]at h;exact h
 .rw[qf e];split
  .rename_i g;have:=(be.mp g) x c;rcases ew.mp this with b|b
   .rw[eq_of_beq b]at h;exact .inl h
   .rw[eq_of_beq b]at h;exact h
  .exact h.aO f
theorem Be (b:∀a,H a=Z8->F.V a)(s:Same H H1)(h:nw H1 a):BG F H (cF c) a:=by
 unfold cF;by_cases e:(c.all λx=>x.1==.fr)=Z7
 .rw[qe e];exact nw.back s h
 .rw[qf e];split
  .exact .inl (nw.back s h)
  .exact(nw.back s h).aO b
theorem qO (r:Rep K H' B v d)(h:∀a,B a->BG F H g a):Rep K H' (BG F H (gJ d g)) v d:=by
 unfold gJ;by_cases e:imm d=Z7
 .rw[qe e];exact Rep.bS d e r
 .rw[qf e];exact r.weak h
end
def lX (K:Z5)(m:D->D->Res D):R2:=λx y H Q=>∃Bx By dx dy d,Rep K H Bx x dx/\Rep K H By y dy/\m dx dy=.ok d/\∀w H',Same H H'->Rep K H' (λa=>nw H a\/Bx a\/By a) w d->Q w H'
def pI (X:Cx)(f:Value->Value->Sem Value)(m:D->D->Res D):Prop:=OpR X f (lX X.K m)
def pJ (K:Z5)(m:D->D->Res D):R2:=λx y H Q=>∃Bx By dx dy d,Rep K H Bx x dx/\Rep K H By y dy/\m dx dy=.ok d/\∀w H',Same H H'->Rep K H' (λa=>nw H a\/Bx a\/By a) w d->(∀ds,d=.list ds->imms ds=Z7->Rep K H' (nw H) w d)->Q w H'
def Bf (X:Cx)(f:Value->Value->Sem Value)(m:D->D->Res D):Prop:=OpR X f (pJ X.K m)
theorem _root_.L2.OpR.imp (h:OpR X f r)(i:∀x y H Q,b x y H Q->r x y H Q):OpR X f b:=λa s c H x y v u Q I d e q=>h a s c H x y v u Q I d e (i x y H Q q)
def z6p (K:Z5)(m:List D->Res D):List V->Hp->VK->Prop:=λxs H Q=>∃B ds d,Reps K H B xs ds/\m ds=.ok d/\∀w H',Same H H'->Rep K H' (λa=>nw H a\/B a) w d->Q w H'
theorem _root_.L2.CallR.imp (h:CallR X f r)(i:∀x H Q,b x H Q->r x H Q):CallR X f b:=λa s c H x v Q I d q=>h a s c H x v Q I d (i x H Q q)
theorem MG (a:Z1 x=Z7)(b:Z1 y=Z7):Z1 (x++y)=true:=by
 unfold Z1 at *
 show(x.cps++y.cps).all _=Z7;rw[Array.all_append,a,b];rfl
theorem strOk_iff:Z1 x=Z7↔∀c∈x.cps.toList,c<0x110000:=by unfold Z1;rw[<-Array.all_toList];rw[be];exact⟨λh c a=>by simpa using h c a,λh c a=>by simpa using h c a⟩
theorem FC (a:Z1 x=Z7)(hc:c∈x.cps.toList):Z1 ⟨#[c]⟩=true:=
 strOk_iff.mpr λd hd=>by
  have e:d=c:=by simpa using hd
  rw[e];exact strOk_iff.mp a c hc
theorem jZ (h:n<=LIM):n<=ay:=bh h (by rw[bz];unfold LIM;decide)
theorem _root_.L2.cP.rel {K:Z5}(s:Same H b)(h:cP K H a c):cP K b a c:=h.keep (B:=λ_=>True) λa o e _=>s a o e
section
variable {X:Cx}
def MH (K:Z5):R2:=λx y H Q=>∃l b xs zs,x=.ref l/\y=.ref b/\SqL K H l xs/\SqL K H b zs/\xs.length+zs.length<=ay/\∀p,H p=Z8->Q (.ref p) (upd H p (.lst (xs++zs)))
theorem MI:OpR X (fm .Add) (MH X.K):=by
 rintro k s M H x y v u Q I w z ⟨l,b,N,O,rfl,rfl,A,B,m,q⟩
 cases w;cases z;obtain⟨c,o,C,_⟩:=I.list A;obtain⟨a,p,D,_⟩:=I.list B;obtain⟨⟨E,dd,r,sl⟩,n,ho,G,_,hd⟩:=C;obtain⟨⟨t,f,g,h⟩,J,d,i,_,j⟩:=D;subst G hd i j;have e:c.toArray.size+a.toArray.size<=ay:=by rw[bg,bg,<-o.length,<-p.length];exact m
 refine mh ⟨_,ho,rfl⟩ ⟨_,d,rfl⟩ noFill_list_add seq_list_add PySem.F.slot_list_add PySem.F.entry_list_add (PySem.F.args_list_add_2 _ _) (list_addW l b c.toArray a.toArray n J dd f sl h e) ⟨ho,d,?_⟩;have L:c.toArray++a.toArray=(c++a).toArray:=by simp
 rw[L];exact⟨.ref _,_,I.lnew (o.append p) (af▸m),rfl,q _ I.fresh⟩
def MJ (K:Z5):R2:=λx y H Q=>∃a b ys,x=.ref a/\y=.ref b/\cP K H a []/\cP K H b ys/\Q (.ref b) H
theorem MK:OpR X (fm .Add) (MJ X.K):=by
 rintro i s E H x y v u Q I m o ⟨l,b,G,rfl,rfl,p,r,q⟩
 cases m;cases o;obtain⟨t,w,z,_⟩:=I.tuple p;obtain⟨a,J,A,_⟩:=I.tuple r;cases w;obtain⟨⟨B,dd,j,sl⟩,ho,C,n,hd⟩:=z;obtain⟨⟨k,d,e,f⟩,c,g,D,h⟩:=A;subst C hd g h;refine mh ⟨_,ho,rfl⟩ ⟨_,c,rfl⟩ lu ol PySem.F.slot_tuple_add PySem.F.entry_tuple_add (PySem.F.args_tuple_add_2 _ _) (tuple_addW0 l b _ a.toArray n D dd d sl f (by simp)) ⟨ho,c,?_⟩;exact⟨.ref b,H,I,rfl,q⟩
variable {K:Z5}{H:Hp}{B:Ad->Prop}{v:V}
theorem oG (r:Rep K H B v (.list c)):∃a b,v=.ref a/\SqL K H a b/\Reps K H B b c:=by
 obtain⟨a,b,e,h,q⟩:=r;refine⟨a,b,e,?_,q⟩;rcases h with⟨h,_⟩|⟨h|h,_⟩
 .exact .inl (.inl h)
 .exact .inl (.inr h)
 .exact .inr h
theorem qP (c:H p=Z8)(r:Reps K H B b d)(e:∀a,B a->B' a)(f:B' (Z9 p)):Rep K (upd H p (.lst b)) B' (.ref p) (.list d):=⟨p,b,rfl,.inl ⟨bL,f⟩,r.same (Same.upd c) e⟩
theorem yr (c:H p=Z8)(r:Reps K H B b d)(e:∀a,B a->f a):Rep K (upd H p (.tup b)) f (.ref p) (.tuple d):=⟨p,b,rfl,.inl (.inl bL),r.same (Same.upd c) e⟩
theorem gK {b:Type}{a:b}(h:(Res.no:Res b)=.ok a):False:=by cases h
theorem ML:Bf X (fm .Add) (cM .Add):=by
 refine OpR.imp ((Mr.or MI).or MK) λx y H Q h=>?_;obtain⟨u,v,w,A,d,k,l,e,q⟩:=h;cases w<;>try (exact(gK e).elim)
 all_goals cases A<;>try (exact(gK e).elim)
 case int.int i j=>cases e;have r:=k;have s:=l;subst r s;exact .inl (.inl (Mw (q _ H (Same.refl H) rfl λm z=>by cases z)))
 case str.str i j=>
  have r:=k.1;have s:=l.1;subst r s;have e:(if i.length+j.length<=LIM then Res.ok (Z0 (i++j))else Res.no)=Res.ok d:=e;split at e
  .rename_i hl;cases e;exact .inl (.inl (Mx (jZ hl) (q _ H (Same.refl H) ⟨rfl,MG k.2 l.2⟩ λm z=>by cases z)))
  .cases e
 case list.list xs ys=>
  have e:(if xs.length+ys.length<=LIM then Res.ok (ZZ (xs++ys))else Res.no)=Res.ok d:=e;split at e
  .rename_i hl;cases e;obtain⟨a,t,rfl,n,c⟩:=oG k;obtain⟨b,ws,rfl,o,f⟩:=oG l;refine .inl (.inr ⟨a,b,t,ws,rfl,rfl,n,o,jZ (by rw[c.length,f.length];exact hl),λp g=>q _ _ (Same.upd g) ?_ ?_⟩)
   .exact qP g (Reps.append (c.weak λ_ z=>.inr (.inl z)) (f.weak λ_ z=>.inr (.inr z))) (λ_ z=>z) (.inl g)
   .intro m z B;cases z;exact qP g (Reps.bS _ B (Reps.append (c.weak (B':=λa=>nw H a\/u a\/v a) λ_ z=>.inr (.inl z)) (f.weak λ_ z=>.inr (.inr z)))) (λ_ z=>z) g
  .cases e
 case tuple.tuple xs ys=>
  have e:(if xs.length+ys.length<=LIM then Res.ok (ZY (xs++ys))else Res.no)=Res.ok d:=e;split at e
  .rename_i hl;cases e;obtain⟨a,t,rfl,n,c⟩:=k;obtain⟨b,ws,rfl,o,f⟩:=l;cases t with
   |nil=>
    have:xs=[]:=by have:=c.length;exact jh.mp this.symm
    subst this;exact .inr ⟨a,b,ws,rfl,rfl,n,o,q _ H (Same.refl H) ⟨b,ws,rfl,o,f.weak λ_ z=>.inr (.inr z)⟩ λm z=>by cases z⟩
   |cons C D=>
    refine .inl (.inl (.inr (.inr (.inr ⟨a,b,C::D,ws,rfl,rfl,n,o,by simp,jZ (by rw[c.length,f.length];exact hl),λz=>?_,λz p g=>q _ _ (Same.upd g) ?_ λm z=>by cases z⟩))))
    .subst z;have:ys=[]:=by have:=f.length;exact jh.mp this.symm
     subst this;rw[br]at q;exact q _ H (Same.refl H) ⟨a,_,rfl,n,c.weak λ_ z=>.inr (.inl z)⟩ λm z=>by cases z
    .exact yr g (Reps.append (c.weak λ_ z=>.inr (.inl z)) (f.weak λ_ z=>.inr (.inr z))) (λ_ z=>z)
  .cases e
theorem vR {gd:Int->Int->D}(h:OpR X f (rI b g))(a:∀i j H B,Rep X.K H B (g i j) (gd i j))(hm:∀dx dy d,m dx dy=.ok d->∃i j,dx=.int i/\dy=.int j/\b i j/\d=gd i j):Bf X f m:=by refine OpR.imp h λx y H Q h=>?_;obtain⟨n,o,dx,dy,d,k,l,e,q⟩:=h;obtain⟨i,j,rfl,rfl,c,rfl⟩:=hm dx dy d e;exact⟨i,j,k,l,c,q _ H (Same.refl H) (a i j _ _) λ_ _ _=>a i j _ _⟩
theorem MM (h:OpR X f (lS g)):OpR X f (rI (λ_ _=>True) g):=OpR.imp h λx y H Q ⟨i,j,a,b,_,q⟩=>⟨i,j,a,b,q⟩
theorem MN:OpR X (fm .FloorDiv) (rI (λ_ j=>0<j/\j<2 ^ 200) λi j=>.int (i/j)):=opI λi j _ _ _ _ _ hc q=>by
 refine floordiv_int (by omega) (by rw[Int.fdiv_eq_ediv_of_nonneg i (by omega)];exact q) (.inl (PyProof.noPylong_of_log2 ?_));have a:j.natAbs<2 ^ 200:=by omega
 have b:=(Nat.log2_lt (by omega)).mpr a;omega
theorem FD (a:ni)(h:yo a=Z7):Bf X (fm a) (cM a):=by
 cases a<;>try (cases h;done)
 case Add=>exact ML
 case Sub=>
  refine vR (MM KZ) (gd:=λi j=>.int (i-j)) (λ_ _ _ _=>rfl) λdx dy d e=>?_;cases dx<;>try (exact(gK e).elim)
  cases dy<;>try (exact(gK e).elim)
  cases e;simp_all
 case Mult=>
  refine vR K0 (gd:=λi j=>.int (i*j)) (λ_ _ _ _=>rfl) λdx dy d e=>?_;cases dx<;>try (exact(gK e).elim)
  cases dy<;>try (exact(gK e).elim)
  rename_i i j;have e:(if(-(2 ^ 64)<i/\i<2 ^ 64)\/(-(2 ^ 64)<j/\j<2 ^ 64)then Res.ok (ZX (i*j))else Res.no)=Res.ok d:=e;split at e
  .rename_i hc;cases e;exact⟨_,_,rfl,rfl,hc,rfl⟩
  .cases e
 case FloorDiv=>
  refine vR MN (gd:=λi j=>.int (i/j)) (λ_ _ _ _=>rfl) λdx dy d e=>?_;cases dx<;>try (exact(gK e).elim)
  cases dy<;>try (exact(gK e).elim)
  rename_i i j;have e:(if 0<j/\j<2 ^ 200 then Res.ok (ZX (i/j))else Res.no)=Res.ok d:=e;split at e
  .rename_i hc;cases e;simp_all
  .cases e
 case Mod=>
  refine vR K1 (gd:=λi j=>.int (i%j)) (λ_ _ _ _=>rfl) λdx dy d e=>?_;cases dx<;>try (exact(gK e).elim)
  cases dy<;>try (exact(gK e).elim)
  rename_i i j;have e:(if 0<j then Res.ok (ZX (i%j))else Res.no)=Res.ok d:=e;split at e
  .rename_i hc;cases e;simp_all
  .cases e
 case Pow=>
  refine vR K2 (gd:=λi j=>.int (i ^ j.toNat)) (λ_ _ _ _=>rfl) λdx dy d e=>?_;cases dx<;>try (exact(gK e).elim)
  cases dy<;>try (exact(gK e).elim)
  rename_i i j;have e:(if 0<=j/\j<=1000/\i.natAbs<2 ^ 64 then Res.ok (ZX (i ^ j.toNat))else Res.no)=Res.ok d:=e;split at e
  .rename_i hc;cases e;exact⟨_,_,rfl,rfl,⟨hc.1,by omega,hc.2.2⟩,rfl⟩
  .cases e
end
section
variable {X:Cx}{pins:List (Addr×Obj)}{σ:L2.St}{H:Hp}{s:au}{B:Ad->Prop}
mutual
theorem Rep.reads (I:Inv X pins σ H s):∀{v:V} {u:Value} (d:aa) (n:Nat),aU n d=Z7->Rep X.K H B v d->RelV v u->(∃as,Reads s.heap u d as)/\d.canLay0=Z7/\d.depth<=n
 |v,u,.none,n,_,r,q=>by have e:v=.non:=r;subst e;cases q;exact⟨⟨[],.none⟩,by simp only[ZW],cn _⟩
 |v,u,.bool b,n,_,r,q=>by have e:v=.bl b:=r;subst e;cases q;exact⟨⟨[],.bool b⟩,by simp only[ZW],cn _⟩
 |v,u,.int b,n,_,r,q=>by have e:v=.int b:=r;subst e;obtain⟨t,rfl⟩:=q;exact⟨⟨[],.int b t⟩,by simp only[ZW],cn _⟩
 |v,u,.str b,n,_,r,q=>by obtain⟨e,ok⟩:v=.str b/\_:=r;subst e;obtain⟨t,rfl⟩:=q;exact⟨⟨[],.str b t⟩,by simp only[ZW];exact ok,cn _⟩
 |v,u,.tuple ds,0,h,r,q=>by cases h
 |v,u,.list ds,0,h,r,q=>by cases h
 |v,u,.tuple ds,n+1,h,r,q=>by obtain⟨a,vs,e,h1,r1⟩:=r;subst e;cases q;obtain⟨cC,rv,⟨o,ho,hc,k,hd⟩,_⟩:=I.tuple h1;obtain⟨⟨as,ra⟩,c,dp⟩:=Reps.reads I ds n (h) r1 rv;refine⟨⟨as,.tuple ho hc hd (by simpa using ra)⟩,by simp only[ZW];exact c,?_⟩;simp only[PyData.depth];omega
 |v,u,.list ds,n+1,h,r,q=>by obtain⟨a,vs,e,h1,r1⟩:=oG r;subst e;cases q;obtain⟨cC,rv,⟨o,k,ho,hc,_,hd⟩,_⟩:=I.list h1;obtain⟨⟨as,ra⟩,c,dp⟩:=Reps.reads I ds n (h) r1 rv;refine⟨⟨a::as,.list ho hc hd (by simpa using ra)⟩,by simp only[ZW];exact c,?_⟩;simp only[PyData.depth];omega
 |v,u,.dict es,n,h,r,q=>by cases n<;>cases h
theorem Reps.reads (I:Inv X pins σ H s):∀{vs:List V} {us:List Value} (ds:List aa) (n:Nat),cL n ds=Z7->Reps X.K H B vs ds->Vals vs us->(∃as,ReadsAll s.heap us ds as)/\PyData.canLayAll0 ds=Z7/\PyData.depthAll ds<=n
 |vs,us,[],n,_,r,q=>by have e:vs=[]:=r;subst e;cases q;exact⟨⟨[],.nil⟩,by simp only[PyData.canLayAll0],cn _⟩
 |vs,us,d::ds,n,h,r,q=>by
  obtain⟨v,t,e,h1,r1⟩:=r;subst e;rw[cL,aq]at h;cases q with
  |cons q1 q2=>obtain⟨⟨as,ra⟩,c,dp⟩:=Rep.reads I d n h.1 h1 q1;obtain⟨⟨bs,rb⟩,c2,MO⟩:=Reps.reads I ds n h.2 r1 q2;refine⟨⟨as++bs,.cons ra rb⟩,by simp only[PyData.canLayAll0,c,c2,Bool.and_self],?_⟩;simp only[PyData.depthAll];exact Nat.max_le.mpr ⟨dp,MO⟩
end
end
section
variable {X:Cx}
def mB (m:D->D->Res Bool):D->D->Res D:=λx y=>m x y>>=λb=>.ok (.bool b)
theorem vS (h:mB m x y=.ok d):∃b,m x y=.ok b/\d=.bool b:=by obtain⟨b,a,c⟩:=Res.aA h;exact⟨b,a,(Res.ok.inj c).symm⟩
theorem Bg (hu:X.A.units+64<cLine):pI X (cq .Eq) (mB (cmpD .Eq)):=by
 rintro a s n H x y v u Q I c f ⟨o,p,dx,dy,d,g,h,e,q⟩
 obtain⟨b,i,rfl⟩:=vS e;have e:=i;have e:(if(aU 40 dx&&aU 40 dy)=Z7 then Res.ok (bO dx dy)else Res.no)=Res.ok b:=e;split at e
 .rename_i hs;cases e;rw[aq]at hs;obtain⟨⟨as,j⟩,k,r⟩:=Rep.reads I dx 40 hs.1 g c;obtain⟨⟨bs,l⟩,m,t⟩:=Rep.reads I dy 40 hs.2 h f;exact SeqAt.compareEq_reads j l k m (by omega) ⟨.bl _,H,I,rfl,q _ H (Same.refl H) rfl⟩
 .cases e
theorem Bh (hu:X.A.units+64<cLine):pI X (cq .NotEq) (mB (cmpD .NotEq)):=by
 rintro a s n H x y v u Q I c f ⟨o,p,dx,dy,d,g,h,e,q⟩
 obtain⟨b,i,rfl⟩:=vS e;have e:=i;have e:(if(aU 40 dx&&aU 40 dy)=Z7 then Res.ok (!bO dx dy)else Res.no)=Res.ok b:=e;split at e
 .rename_i hs;cases e;rw[aq]at hs;obtain⟨⟨as,j⟩,k,r⟩:=Rep.reads I dx 40 hs.1 g c;obtain⟨⟨bs,l⟩,m,t⟩:=Rep.reads I dy 40 hs.2 h f;exact SeqAt.compareNe_reads j l k m (by omega) ⟨.bl _,H,I,rfl,q _ H (Same.refl H) rfl⟩
 .cases e
theorem zl2 (h:OpR X (cq op) r)(hI:∀i j b H Q,cmpD op (.int i) (.int j)=.ok b->Q (.bl b) H->r (.int i) (.int j) H Q)(hS:∀i j b H Q,cmpD op (.str i) (.str j)=.ok b->Q (.bl b) H->r (.str i) (.str j) H Q)
  (hm:∀dx dy b,cmpD op dx dy=.ok b->(∃i j,dx=.int i/\dy=.int j)\/∃i j,dx=.str i/\dy=.str j):pI X (cq op) (mB (cmpD op)):=by
 refine OpR.imp h λx y H Q h=>?_;obtain⟨Bx,By,dx,dy,d,rx,ry,e,q⟩:=h;obtain⟨b,e',rfl⟩:=vS e;have e:=e';rcases hm dx dy b e with⟨i,j,rfl,rfl⟩|⟨i,j,rfl,rfl⟩
 .have e1:x=.int i:=rx;have e2:=ry;subst e1 e2;exact hI i j b H Q e (q _ H (Same.refl H) rfl)
 .have e1:x=.str i:=rx.1;have e2:=ry.1;subst e1 e2;exact hS i j b H Q e (q _ H (Same.refl H) rfl)
theorem Bi:pI X (cq .Lt) (mB (cmpD .Lt)):=zl2 AQ (λi j b H Q e q=>by cases e;exact My q) (λi j b H Q e q=>by cases e;exact MB q) λdx a b e=>by cases dx<;>first|exact(gK e).elim|(cases a<;>first|exact .inl ⟨_,_,rfl,rfl⟩|exact .inr ⟨_,_,rfl,rfl⟩|exact(gK e).elim)
theorem Bj:pI X (cq .LtE) (mB (cmpD .LtE)):=zl2 AR (λi j b H Q e q=>by cases e;exact Mz q) (λi j b H Q e q=>by cases e;exact MC q) λdx a b e=>by cases dx<;>first|exact(gK e).elim|(cases a<;>first|exact .inl ⟨_,_,rfl,rfl⟩|exact .inr ⟨_,_,rfl,rfl⟩|exact(gK e).elim)
theorem Bl:pI X (cq .Gt) (mB (cmpD .Gt)):=zl2 AS (λi j b H Q e q=>by cases e;exact MA q) (λi j b H Q e q=>by cases e;exact MD q) λdx a b e=>by cases dx<;>first|exact(gK e).elim|(cases a<;>first|exact .inl ⟨_,_,rfl,rfl⟩|exact .inr ⟨_,_,rfl,rfl⟩|exact(gK e).elim)
theorem bG.val {K:Z5}(k:Key):∀{kvs:List (Key×V)} {es:dF},bG K H B kvs es->match eV es (kD k)with|some d=>∃v,cQ kvs k=Z9 v/\Rep K H B v d|none=>cQ kvs k=Z8
 |kvs,[],r=>by have e:=r;subst e;exact rfl
 |kvs,(kd,d)::es,r=>by
  obtain⟨a,v,t,e,c,ok,h,q⟩:=r;subst e c;by_cases z:a=k
  .subst z
   have b:eV ((kD a,d)::es) (kD a)=Z9 d:=by
    have:eqK (kD a) (kD a)=true:=by cases a<;>simp[kD,eqK]
    unfold eV;rw[List.find?_cons_of_pos (by exact this)];rfl
   rw[b];exact⟨v,yd rfl,h⟩
  .have f:eqK (kD a) (kD k)=false:=by
    rw[ph];intro w;apply z;cases a<;>cases k<;>simp[kD,eqK]at w<;>rw[w]
   have b:eV ((kD a,d)::es) (kD k)=eV es (kD k):=by unfold eV;rw[List.find?_cons_of_neg (f▸fj)]
   rw[b,ye z];exact bG.val k q
theorem yt {K:Z5}(h:jY d=Z7)(r:Rep K H B v d):∃k,d=kD k/\v=kV k/\keyOk k:=by
 cases d<;>try (cases h;done)
 case int i=>exact⟨.inl i,rfl,r,True.intro⟩
 case str x=>exact⟨.inr x,rfl,r.1,r.2⟩
theorem zi5 (hu:X.A.units+64<cLine)(ng:Bool)(I:Inv X h B H s)(m:RelV x v)(n:RelV y u)
  (o:Rep X.K H L x dx) (p:Rep X.K H M y dy) (e:inD dx dy=.ok b) (q:Q (.bl (if ng then !b else b)) H):
  wpAny (model X.prog X.w) X.A (cq (if ng then .NotIn else .In) v u) (EP X h B Q) X.xe s:=by
 cases dy<;>try (cases e;done)
 case list xs=>
  change(if(aU 40 dx&&cL 40 xs)=Z7 then Res.ok (xs.any λy=>bO y dx)else .no)=_ at e;split at e
  .rename_i hs;cases e;rw[aq]at hs;obtain⟨⟨as,i⟩,j,C⟩:=Rep.reads I dx 40 hs.1 o m;obtain⟨⟨bs,l⟩,r,D⟩:=Rep.reads I (.list xs) 41 hs.2 p n;have c:PyData.canLayAll0 xs=true:=by simpa only[ZW]using r
   cases ng
   .exact SeqAt.in_list_reads l i c j (by omega) ⟨.bl _,H,I,rfl,q⟩
   .exact SeqAt.notIn_list_reads l i c j (by omega) ⟨.bl _,H,I,rfl,q⟩
  .cases e
 case tuple xs=>
  change(if(aU 40 dx&&cL 40 xs)=Z7 then Res.ok (xs.any λy=>bO y dx)else .no)=_ at e;split at e
  .rename_i hs;cases e;rw[aq]at hs;obtain⟨⟨as,i⟩,j,C⟩:=Rep.reads I dx 40 hs.1 o m;obtain⟨⟨bs,l⟩,r,D⟩:=Rep.reads I (.tuple xs) 41 hs.2 p n;have c:PyData.canLayAll0 xs=true:=by simpa only[ZW]using r
   cases ng
   .exact SeqAt.in_tuple_reads l i c j (by omega) ⟨.bl _,H,I,rfl,q⟩
   .exact SeqAt.notIn_tuple_reads l i c j (by omega) ⟨.bl _,H,I,rfl,q⟩
  .cases e
 case dict es=>
  change(if jY dx=Z7 then Res.ok (eV es dx).isSome else .no)=_ at e;split at e
  .rename_i E;cases e;obtain⟨k,rfl,rfl,_⟩:=yt E o;obtain⟨a,kvs,rfl,F,_,G⟩:=p;cases n;have f:=G.val k;have g:DGet H a (kV k) (cQ kvs k):=DGet.k F
   have z:(cQ kvs k).isSome=(eV es (kD k)).isSome:=by
    cases e:eV es (kD k)with
    |none=>rw[e]at f;rw[show cQ kvs k=Z8 from f];rfl
    |some d=>rw[e]at f;obtain⟨v,f,_⟩:=f;rw[f];rfl
   cases ng
   .exact d_in (by omega) I g m λJ t=>⟨.bl _,H,t,rfl,by rw[z];exact q⟩
   .exact zl7 (by omega) I g m λJ t=>⟨.bl _,H,t,rfl,by rw[z];exact q⟩
  .cases e
theorem Bm (hu:X.A.units+64<cLine):pI X (cq .In) (mB (cmpD .In)):=by
 rintro a s j H x y v u Q I c f ⟨k,l,dx,dy,d,g,h,e,q⟩
 obtain⟨b,i,rfl⟩:=vS e;exact zi5 hu Z6 I c f g h i (q _ H (Same.refl H) rfl)
theorem MP (hu:X.A.units+64<cLine):pI X (cq .NotIn) (mB (cmpD .NotIn)):=by
 rintro a s l H x y v u Q I c f ⟨m,n,dx,dy,d,g,h,e,q⟩
 obtain⟨b,i,rfl⟩:=vS e;obtain⟨o,j,k⟩:=Res.aA i;cases k;exact zi5 hu Z7 I c f g h j (q _ H (Same.refl H) rfl)
theorem sI (hu:X.A.units+64<cLine)(a:CmpOp)(h:z2l a=Z7):pI X (cq a) (mB (cmpD a)):=by
 cases a<;>try (cases h;done)
 .exact Bg hu
 .exact Bh hu
 .exact Bi
 .exact Bj
 .exact Bl
 .exact Bm hu
 .exact MP hu
end
section
variable {X:Cx}{a b c e:Expr}{es:List Expr}{fa fb fc:Rho->Res GD}{pos:Pos}
theorem yu (h:PE X e (tC v))(r:∀H B,Rep X.K H B v d):PE X e (tD X.K λ_=>.ok (.fr,d)):=PE.imp h λa H Q ⟨b,F,x,so,e,q⟩=>by cases e;exact q v H (Same.refl H) (r H _)
theorem MQ {i:Nat}(hN:X.N[i]?=Z9 x)(c:Vis X.env.scope x)(hd:VB x)(a:(x==("__classdict__":Str))=Z6):PE X (.Name x pos) (tD X.K λb=>rY b[i]?):=PE.imp (mM hN c hd a) λg H Q ⟨b,F,x,so,e,q⟩=>by obtain⟨v,d,f⟩:=so.rd e;exact⟨v,d,q v H (Same.refl H) f⟩
theorem MR (a:Gl X x)(hm:X.mg x=Z9 (.ref g))(hd:VB x)(hi:imm d=Z7)(r:∀H (B:Ad->Prop),B Z8->Rep X.K H B (.ref g) d):PE X (.Name x pos) (tD X.K λ_=>.ok (.fr,d)):=PE.imp (Kq (v:=.ref g) a hm rfl hd) λσ H Q ⟨ρ,F,x,b,e,q⟩=>by cases e;exact q _ H (Same.refl H) (Rep.bS d hi (r H (λ_=>True) True.intro))
theorem FE {K:Z5}(r:Rep K H' B v d)(h:∀a,B a->BG F H g a)(n:∀b,d=.list b->imms b=Z7->Rep K H' (nw H) v d):Rep K H' (BG F H (gN d g)) v d:=by
 cases d with
 |list b=>
  show Rep K H' (BG F H (if imms b=Z7 then .fr else g)) v _;split
  .rename_i c;exact n b rfl c
  .exact r.weak h
 |_=>exact qO r h
theorem MS (k:yo i=Z7)(l:PE X a (tD X.K fa))(m:PE X b (tD X.K fb)):PE X (.BinOp a i b pos) (tD X.K λc=>fa c>>=λx=>fb c>>=λy=>cM i x.2 y.2>>=λd=>.ok (gN d (cF [x,y]),d)):=
 PE.imp (EF (FD i k) l m) λE H Q ⟨c,F,z,so,e,q⟩=>by
  obtain⟨x,n,e⟩:=Res.aA e;obtain⟨y,o,e⟩:=Res.aA e;obtain⟨d,p,e⟩:=Res.aA e;cases e;refine⟨c,F,x,so,n,λv G f r=>⟨c,F,y,so.same f,o,λu I g s=>⟨_,_,x.2,y.2,d,r.same g λ_ z=>z,s,p,λw t A j B=>q w t ((f.trans g).trans A) (FE j (λa h=>?_) λC z D=>(B C z D).weak λ_ z=>nw.back (f.trans g) z)⟩⟩⟩;rcases h with h|h|h
  .exact Be so.aO (f.trans g) h
  .exact vQ so.aO (by simp) h
  .exact vQ so.aO (by simp) (h.back f)
theorem MT (c:PE X a (tD X.K fa)):PE X (.UnaryOp .USub a pos) (tD X.K λb=>fa b>>=λx=>match x.2 with|.int i=>.ok (.fr,.int (-i))|_=>.no):=
 PE.imp (KW K3 c) λl H Q ⟨b,F,z,so,e,q⟩=>by
  obtain⟨x,f,e⟩:=Res.aA e;refine⟨b,F,x,so,f,λv h j k=>?_⟩;obtain⟨g,d⟩:=x;cases d<;>try (cases e;done)
  rename_i i;cases e;exact⟨i,k,q _ h j rfl⟩
theorem FF (h:tD X.K (λa=>fa a>>=λx=>fb a>>=λy=>cmpD f x.2 y.2>>=λb=>.ok (.fr,.bool b)) j H Q):lR (lX X.K (mB (cmpD f))) (tD X.K fa) (tD X.K fb) j H Q:=by obtain⟨a,F,z,so,e,q⟩:=h;obtain⟨x,k,e⟩:=Res.aA e;obtain⟨y,l,e⟩:=Res.aA e;obtain⟨d,m,e⟩:=Res.aA e;cases e;exact⟨a,F,x,so,k,λv s g n=>⟨a,F,y,so.same g,l,λu t i o=>⟨_,_,x.2,y.2,.bool d,n.same i λ_ z=>z,o,by show(cmpD f x.2 y.2>>=λb=>Res.ok (ZV b))=_;rw[m];rfl,λw p r c=>q w p ((g.trans i).trans r) c⟩⟩⟩
theorem zrf (hu:X.A.units+64<cLine)(d:z2l op=Z7)(hm:di op b=Z6)(e:PE X a (tD X.K fa))(f:PE X b (tD X.K fb)):
  PE X (.Compare a [op] [b] pos) (tD X.K λc=>fa c>>=λx=>fb c>>=λy=>cmpD op x.2 y.2>>=λb=>.ok (.fr,.bool b)):=
 PE.imp (K9 (sI hu op d) e f hm) λg H Q h=>FF h
theorem yw (i:∀a H Q,tD X.K f a H Q->t a H Q)(j:∀b x,f b=.ok x->∃c,x.2=.bool c)(a:L2.St)(H:Hp)(Q:Bool->Hp->Prop)(h:dS X.K (λb=>f b>>=λx=>fU x.2) a H Q):vc t a H Q:=by obtain⟨b,F,c,so,e,q⟩:=h;obtain⟨x,d,e⟩:=Res.aA e;obtain⟨k,g⟩:=j b x d;rw[g]at e;cases e;refine i a H _ ⟨b,F,x,so,d,λv l s r=>?_⟩;rw[g]at r;exact⟨k,r,q l s⟩
theorem MU (e:(fa ρ>>=λx=>fb ρ>>=λy=>cmpD op x.2 y.2>>=λb=>Res.ok ((.fr,.bool b):GD))=.ok x):∃c,x.2=.bool c:=by obtain⟨x,e1,e⟩:=Res.aA e;obtain⟨y,e2,e⟩:=Res.aA e;obtain⟨d,e3,e⟩:=Res.aA e;cases e;exact⟨d,rfl⟩
theorem ztv (hu:X.A.units+64<cLine)(d:z2l op=Z7)(hm:di op b=Z6)(f:PE X a (tD X.K fa))(g:PE X b (tD X.K fb)):
  PT X (.Compare a [op] [b] pos) (dS X.K λc=>(fa c>>=λx=>fb c>>=λy=>cmpD op x.2 y.2>>=λb=>Res.ok ((.fr,.bool b):GD))>>=λx=>fU x.2):=
 PT.imp (EG (sI hu op d) f g hm) (yw (λi H Q h=>FF h) λc x e=>MU e)
def yx (op op':CmpOp)(fa fb fc:Rho->Res GD):Rho->Res GD:=λρ=>fa ρ>>=λx=>fb ρ>>=λy=>cmpD op x.2 y.2>>=λk=>if k then fc ρ>>=λz=>cmpD op' y.2 z.2>>=λk'=>.ok (.fr,.bool k')else .ok (.fr,.bool Z6)
theorem FG (h:tD X.K (yx i op' fa fb fc) σ H Q):Ap (lX X.K (mB (cmpD i))) (lX X.K (mB (cmpD op'))) (tD X.K fa) (tD X.K fb) (tD X.K fc) σ H Q:=by
 obtain⟨ρ,F,z,d,e,q⟩:=h;obtain⟨x,m,e⟩:=Res.aA e;obtain⟨y,n,e⟩:=Res.aA e;obtain⟨k,o,e⟩:=Res.aA e;refine⟨ρ,F,x,d,m,λv H1 s1 p=>⟨ρ,F,y,d.same s1,n,λu G a j=>⟨_,_,x.2,y.2,.bool k,p.same a λ_ z=>z,j,by show(cmpD i x.2 y.2>>=λb=>Res.ok (ZV b))=_;rw[o];rfl,λw r c f=>⟨k,f,?_⟩⟩⟩⟩;cases k with
 |false=>cases e;exact bC (q _ r ((s1.trans a).trans c) rfl)
 |true=>obtain⟨g,s,e⟩:=Res.aA e;obtain⟨A,B,e⟩:=Res.aA e;cases e;refine bE ⟨ρ,F,g,d.same ((s1.trans a).trans c),s,λt I l rt=>⟨_,_,y.2,g.2,.bool A,j.same (c.trans l) λ_ z=>z,rt,by show(cmpD op' y.2 g.2>>=λb=>Res.ok (ZV b))=_;rw[B];rfl,λJ C D E=>q _ C (((s1.trans a).trans c).trans (l.trans D)) E⟩⟩
theorem zjc (hu:X.A.units+64<cLine)(f:z2l op=Z7)(e:z2l d=Z7)(hm:ls [op,d] [b,c]=Z6)(g:PE X a (tD X.K fa))(i:PE X b (tD X.K fb))(j:PE X c (tD X.K fc)):
  PE X (.Compare a [op,d] [b,c] pos) (tD X.K (yx op d fa fb fc)):=
 PE.imp (zff (sI hu op f) (sI hu d e) g i j hm) λσ H Q h=>FG h
theorem MV (e:yx op op' fa fb fc ρ=.ok x):∃c,x.2=.bool c:=by
 obtain⟨x,a,e⟩:=Res.aA e;obtain⟨y,b,e⟩:=Res.aA e;obtain⟨k,d,e⟩:=Res.aA e;cases k with
 |false=>cases e;exact⟨_,rfl⟩
 |true=>obtain⟨f,g,e⟩:=Res.aA e;obtain⟨h,i,e⟩:=Res.aA e;cases e;exact⟨_,rfl⟩
theorem zjo (hu:X.A.units+64<cLine)(i:z2l f=Z7)(g:z2l d=Z7)(hm:ls [f,d] [b,c]=Z6)(j:PE X a (tD X.K fa))(k:PE X b (tD X.K fb))(l:PE X c (tD X.K fc)):
  PT X (.Compare a [f,d] [b,c] pos) (dS X.K λρ=>yx f d fa fb fc ρ>>=λx=>fU x.2):=
 PT.imp (zgx (sI hu f i) (sI hu d g) j k l hm) (yw (λσ H Q h=>FG h) λρ x e=>MV e)
theorem FH {K:Z5}(r:Rep K H B v d):decide (v=.non)=(match d with|.none=>Z7|_=>Z6):=by
 cases d with
 |none=>have e:v=.non:=r;subst e;rfl
 |bool b=>have e:v=.bl b:=r;subst e;rfl
 |int b=>have e:v=.int b:=r;subst e;rfl
 |str b=>have e:v=.str b:=r.1;subst e;rfl
 |tuple c=>obtain⟨a,f,e,_⟩:=r;subst e;rfl
 |list c=>obtain⟨a,f,e,_⟩:=r;subst e;rfl
 |dict c=>obtain⟨a,f,e,_⟩:=r;subst e;rfl
def pK (ng:Bool)(fa:Rho->Res GD):Rho->Res GD:=λρ=>fa ρ>>=λx=>.ok (.fr,.bool (match x.2 with|.none=>!ng|_=>ng))
theorem yy (h:tD X.K (pK f fa) k H Q):(if f then Ek (tD X.K fa)else uS (tD X.K fa)) k H Q:=by
 obtain⟨i,F,z,so,e,q⟩:=h;obtain⟨x,j,e⟩:=Res.aA e;cases e;cases f with
 |false=>
  refine⟨i,F,x,so,j,λv a b c=>?_⟩
  dsimp only
  rw[FH c];refine q _ a b ?_;obtain⟨g,d⟩:=x;cases d<;>rfl
 |true=>
  refine⟨i,F,x,so,j,λv a b c=>?_⟩
  dsimp only
  rw[FH c];refine q _ a b ?_;obtain⟨g,d⟩:=x;cases d<;>rfl
theorem FI (e:pK ng fa ρ=.ok x):∃c,x.2=.bool c:=by obtain⟨x,e1,e⟩:=Res.aA e;cases e;exact⟨_,rfl⟩
theorem MW {j p2}(ho:o=if ng then .IsNot else .Is)(ha:PE X a (tD X.K fa)):PE X (.Compare a [o] [.Constant .none j p2] pos) (tD X.K (pK ng fa)):=by
 subst ho;cases ng with
 |false=>exact PE.imp (En (El ha)) λσ H Q h=>yy h
 |true=>exact PE.imp (En (Em ha)) λσ H Q h=>yy h
theorem MX {j d}(f:o=if ng then .IsNot else .Is)(c:PE X a (tD X.K fa)):PT X (.Compare a [o] [.Constant .none j d] pos) (dS X.K λb=>pK ng fa b>>=λx=>fU x.2):=by
 subst f;cases ng with
 |false=>exact PT.imp (Eo (El c)) (yw (λg H Q h=>yy h) λb x e=>FI e)
 |true=>exact PT.imp (Eo (Em c)) (yw (λg H Q h=>yy h) λb x e=>FI e)
def Bn (fa fb:Rho->Res GD):Rho->Res GD:=λρ=>fa ρ>>=λx=>match x.2 with|.bool c=>if c then fb ρ else .ok (.fr,.bool Z6)|_=>.no
def MY (fa fb:Rho->Res GD):Rho->Res GD:=λρ=>fa ρ>>=λx=>match x.2 with|.bool c=>if c then .ok (.fr,.bool Z7)else fb ρ|_=>.no
theorem yA (c:Same H g)(so:StOk X.K F H h d)(e:f d=.ok x)(q:∀v a,Same H a->Rep X.K a (BG F H x.1) v x.2->Q v a):tD X.K f h g Q:=⟨d,F,x,so.same c,e,λv a s r=>q v a (c.trans s) (r.weak λ_ b=>b.back c)⟩
theorem FJ {rest:List Expr}(h:PE X a (tD X.K fa))(i:PE X (.BoolOp .And (b::rest) pos) (tD X.K fb)):PE X (.BoolOp .And (a::b::rest) pos) (tD X.K (Bn fa fb)):=
 PE.imp (Ky h i) λn H Q ⟨j,F,z,so,e,q⟩=>by
  obtain⟨x,k,e⟩:=Res.aA e;refine⟨j,F,x,so,k,λv l f m=>?_⟩;obtain⟨g,d⟩:=x;cases d<;>try (cases e;done)
  rename_i c;refine⟨c,m,?_⟩;cases c with
  |true=>exact bE (yA f so e q)
  |false=>cases e;exact bC (q _ l f rfl)
theorem vT {rest:List Expr}(h:PE X a (tD X.K fa))(i:PE X (.BoolOp .Or (b::rest) pos) (tD X.K fb)):PE X (.BoolOp .Or (a::b::rest) pos) (tD X.K (MY fa fb)):=
 PE.imp (Kz h i) λn H Q ⟨j,F,z,so,e,q⟩=>by
  obtain⟨x,k,e⟩:=Res.aA e;refine⟨j,F,x,so,k,λv l f m=>?_⟩;obtain⟨g,d⟩:=x;cases d<;>try (cases e;done)
  rename_i c;refine⟨c,m,?_⟩;cases c with
  |false=>exact bC (yA f so e q)
  |true=>cases e;exact bE (q _ l f rfl)
theorem FK {K:Z5}(r:Rep K H B v d)(e:fU d=.ok k):oS K v H k:=by
 cases d with
 |none=>cases e;have c:v=.non:=r;subst c;exact rfl
 |bool b=>cases e;have c:v=.bl b:=r;subst c;exact rfl
 |int b=>cases e;have c:v=.int b:=r;subst c;show(!decide (b=0))=(b != 0);rw[bne,jv]
 |str b=>
  have c:=r.1;subst c;simp only[fU]at e;split at e
  .rename_i j;cases e;refine⟨jZ j,?_⟩;rw[bne,jv]
   congr 1
   rw[decide_eq_decide];omega
  .cases e
 |tuple g=>cases e;obtain⟨a,f,c,h,q⟩:=r;subst c;refine .inr (.inl ⟨f,h,?_⟩);show(!g.isEmpty)=!f.isEmpty;have:=q.length;cases f<;>cases g<;>simp at this ⊢
 |list g=>cases e;obtain⟨a,f,c,h,q⟩:=oG r;subst c;refine .inl ⟨f,h,?_⟩;show(!g.isEmpty)=!f.isEmpty;have:=q.length;cases f<;>cases g<;>simp at this ⊢
 |dict es=>
  cases e;obtain⟨a,kvs,c,h,_,q⟩:=r;subst c;refine .inr (.inr ⟨kvs,h,?_⟩);cases es with
  |nil=>have i:kvs=[]:=q;subst i;rfl
  |cons l m=>obtain⟨k,v,t,i,_⟩:=q;subst i;rfl
theorem MZ (m:PE X a (tD X.K fa)):PE X (.UnaryOp .Not a pos) (tD X.K λh=>fa h>>=λx=>fU x.2>>=λc=>.ok (.fr,.bool (!c))):=by
 rintro d s l H Q I ⟨h,F,z,so,e,q⟩
 obtain⟨x,n,e⟩:=Res.aA e;obtain⟨k,o,e⟩:=Res.aA e;cases e;refine UnaryOp_ (aM (m d s l H (λv f=>Same H f/\Rep X.K f (BG F H x.1) v x.2) I ⟨h,F,x,so,n,λv f i j=>⟨i,j⟩⟩) λv i p=>?_);obtain⟨y,f,r,t,u,j⟩:=p;exact not_of (aM (EI d i l f y v (λb g=>b=k/\g=f) r t ⟨k,FK j o,rfl,rfl⟩) λb w ⟨g,A,B,C⟩=>by subst B C;exact⟨.bl _,g,A,rfl,q _ g u rfl⟩)
theorem M0 (c:PE X e (tD X.K fa))(d:∀a,p4 e X.env a=(do let v <-a;standAt e.pos;holding [v] (truthy v))):PT X e (dS X.K λb=>fa b>>=λx=>fU x.2):=PT.imp (z8r c d) λj H Q ⟨b,F,k,so,e,q⟩=>by obtain⟨x,f,e⟩:=Res.aA e;exact⟨b,F,x,so,f,λv g h i=>⟨k,FK i e,q g h⟩⟩
section
variable {ta tb:Rho->Res Bool}{rest:List Expr}
theorem FN (b:Same H H1)(so:StOk X.K F H σ ρ)(e:f ρ=.ok x)(q:∀a,Same H a->Q x a):dS X.K f σ H1 Q:=⟨ρ,F,x,so.same b,e,λa s=>q a (b.trans s)⟩
theorem w_and (f:PT X a (dS X.K g))(h:PW X (.BoolOp .And (b::rest) pos) (dS X.K i)):PW X (.BoolOp .And (a::b::rest) pos) (dS X.K λd=>g d>>=λc=>if c then i d else .ok Z6):=
 PW.imp (Kv f h) λm H Q ⟨d,F,k,so,e,q⟩=>by
  obtain⟨x,j,e⟩:=Res.aA e;refine⟨d,F,x,so,j,λn l=>?_⟩;cases x with
  |true=>exact bE (FN l so e q)
  |false=>cases e;simp_all
theorem w_or (f:PT X a (dS X.K g))(h:PW X (.BoolOp .Or (b::rest) pos) (dS X.K i)):PW X (.BoolOp .Or (a::b::rest) pos) (dS X.K λd=>g d>>=λc=>if c then .ok Z7 else i d):=
 PW.imp (Kw f h) λm H Q ⟨d,F,k,so,e,q⟩=>by
  obtain⟨x,j,e⟩:=Res.aA e;refine⟨d,F,x,so,j,λn l=>?_⟩;cases x with
  |false=>exact bC (FN l so e q)
  |true=>cases e;simp_all
theorem qQ (ha:PT X a (dS X.K ta)):PT X (.UnaryOp .Not a pos) (dS X.K λρ=>ta ρ>>=λc=>.ok (!c)):=PT.imp (Ep ha) λσ H Q ⟨ρ,F,k,so,e,q⟩=>by obtain⟨x,e1,e⟩:=Res.aA e;cases e;exact⟨ρ,F,x,so,e1,λH1 s1=>q H1 s1⟩
theorem M6 (hc:PT X c (dS X.K g))(h:PE X a (tD X.K fa))(i:PE X b (tD X.K fb)):PE X (.IfExp c a b pos) (tD X.K λd=>g d>>=λk=>if k then fa d else fb d):=
 PE.imp (Et hc h i) λl H Q ⟨d,F,z,so,e,q⟩=>by
  obtain⟨x,j,e⟩:=Res.aA e;refine⟨d,F,x,so,j,λm f=>?_⟩;cases x with
  |true=>exact bE (yA f so e q)
  |false=>exact bC (yA f so e q)
end
theorem FO:PA X [] (tDA X.K λ_=>.ok []):=PA.imp kO λa H Q ⟨b,F,z,so,e,q⟩=>by cases e;exact q [] H (Same.refl H) rfl
theorem Bp (hs:isStar e=Z6)(f:PE X e (tD X.K fa))(hr:PA X es (tDA X.K fs)):PA X (e::es) (tDA X.K λa=>fa a>>=λx=>fs a>>=λb=>.ok (x::b)):=PA.imp (dO f hr hs) λl H Q ⟨a,F,z,so,e,q⟩=>by obtain⟨x,g,e⟩:=Res.aA e;obtain⟨b,h,e⟩:=Res.aA e;cases e;refine⟨a,F,x,so,g,λv m c i=>⟨a,F,b,so.same c,h,λj k d rs=>q _ k (c.trans d) ?_⟩⟩;exact⟨v,j,rfl,i.same d λ_ z=>z,rs.back c⟩
theorem M7 {i}(h:PA X es (tDA X.K fs))(j:∀b d,fs b=.ok d->d.length<=ay):PE X (.Tuple es i pos) (tD X.K λb=>fs b>>=λc=>.ok (gJ (.tuple (c.map (·.2))) (cF c),.tuple (c.map (·.2)))):=PE.imp (As h) λm H Q ⟨b,F,z,so,e,q⟩=>by obtain⟨c,f,e⟩:=Res.aA e;cases e;refine⟨b,F,c,so,f,λn o k rs=>?_⟩;have r:=rs.nB λx l a h=>vQ so.aO l h;refine⟨by rw[r.length,ai];exact j b c f,λp g=>q _ _ (k.trans (Same.upd g)) (qO (yr g r λ_ z=>z) λ_ z=>z)⟩
theorem M8 (h:PA X es (tDA X.K fs))(j:∀b f,fs b=.ok f->f.length<=ay):PE X (.List es pos) (tD X.K λb=>fs b>>=λc=>.ok (cF c,.list (c.map (·.2)))):=PE.imp (EM h) λl H Q ⟨b,F,z,so,e,q⟩=>by obtain⟨c,g,e⟩:=Res.aA e;cases e;refine⟨b,F,c,so,g,λm n i rs=>?_⟩;have r:=rs.nB λx k a h=>vQ so.aO k h;refine⟨by rw[r.length,ai];exact j b c g,λp d=>q _ _ (i.trans (Same.upd d)) (qP d r (λ_ z=>z) (Be so.aO i d))⟩
theorem M9:PE X (.Dict [] [] pos) (tD X.K λ_=>.ok (.fr,.dict [])):=PE.imp EY λb H Q ⟨c,F,z,so,e,q⟩=>by cases e;intro p a;exact q _ _ (Same.upd a) ⟨p,[],rfl,bL,a,rfl⟩
end
theorem Nc {b:Type}(a:List b)(i:Int):L2.cB a i=Mi.cB a i:=rfl
theorem Nd (n d:Nat)(o:Option Int):HT.bB n d o=Mi.bB n d o:=by cases o<;>rfl
theorem Reps.cut {K:Z5}(lo hi:Option Int)(r:Reps K H B vs ds):Reps K H B (Mi.cut vs lo hi) (Mi.cut ds lo hi):=by unfold Mi.cut;rw[r.length];exact(r.drop _).take _
theorem Reps.cB {K:Z5}(r:Reps K H B c b)(e:Mi.cB b i=Z9 d):∃v,L2.cB c i=Z9 v/\Rep K H B v d:=by
 unfold Mi.cB at e;cases a:Mi.gZ b.length i with
 |none=>rw[a]at e;cases e
 |some j=>rw[a]at e;obtain⟨v,f,g⟩:=r.get e;refine⟨v,?_,g⟩;rw[Nc];unfold Mi.cB;rw[r.length,a];exact f
section
variable {X:Cx}{a b c e:Expr}{es:List Expr}{fa fb fc:Rho->Res GD}{pos:Pos}
theorem Nf (hu:X.A.units+64<cLine):lT X (λx y H Q=>∃a v,x=.ref a/\DGet H a y (Z9 v)/\Q v H):=by intro b c e s k H x y v u Q I f i h hs;obtain⟨a,z,rfl,g,q⟩:=h;cases f;exact tail_any (Lw I g) PySem.F.slot_dict_getitem.lookup (zbg (by omega) I g i λl m j d=>⟨z,H,j,d,q⟩) hs
def sJ (K:Z5):R2:=λx y H Q=>∃B B' dx dy d,Rep K H B x dx/\Rep K H B' y dy/\gH dx dy=.ok d/\∀w,Rep K H B w d->Q w H
theorem FP (hu:X.A.units+64<cLine):lT X (sJ X.K):=by
 intro f g l s G H x y v u Q I J L h hs;refine(Ms.or (Nf hu)) f g l s G H x y v u Q I J L ?_ hs;obtain⟨B,R,dx,dy,d,m,r,e,q⟩:=h;cases dx<;>try (cases e;done)
 case list xs=>
  cases dy<;>try (cases e;done)
  rename_i i;subst r;obtain⟨a,t,rfl,n,C⟩:=oG m;change Res.eU (Mi.cB xs i)=_ at e;cases b:Mi.cB xs i with
  |none=>rw[b]at e;cases e
  |some D=>rw[b]at e;cases e;obtain⟨w,o,p⟩:=C.cB b;exact .inl (.inl ⟨a,t,i,w,rfl,rfl,n,o,q w p⟩)
 case tuple xs=>
  cases dy<;>try (cases e;done)
  rename_i i;subst r;obtain⟨a,t,rfl,n,C⟩:=m;change Res.eU (Mi.cB xs i)=_ at e;cases b:Mi.cB xs i with
  |none=>rw[b]at e;cases e
  |some D=>rw[b]at e;cases e;obtain⟨w,o,p⟩:=C.cB b;exact .inl (.inr (.inl ⟨a,t,i,w,rfl,rfl,n,o,q w p⟩))
 case str z=>
  cases dy<;>try (cases e;done)
  rename_i i;have M:=m.1;subst M r;change(if z.length<=LIM then Res.eU ((Mi.cB z.cps.toList i).map λc=>Z0 ⟨#[c]⟩)else .no)=_ at e;split at e
  .rename_i N;cases b:Mi.cB z.cps.toList i with
   |none=>rw[b]at e;cases e
   |some c=>
    rw[b]at e;cases e
    have hc:c∈z.cps.toList:=by
     unfold Mi.cB at b;cases E:Mi.gZ z.cps.toList.length i with
     |none=>rw[E]at b;cases b
     |some j=>rw[E]at b;exact d4 b
    exact .inl (.inr (.inr ⟨z,i,c,rfl,rfl,jZ N,b,q _ ⟨rfl,FC m.2 hc⟩⟩))
  .cases e
 case dict es=>
  change(if jY _=Z7 then Res.eU (eV es _)else Res.no)=_ at e;split at e
  .rename_i O;obtain⟨k,rfl,rfl,_⟩:=yt O r;obtain⟨a,kvs,rfl,n,_,P⟩:=m;have F:=P.val k;cases b:eV es (kD k)with
   |none=>rw[b]at e;cases e
   |some D=>rw[b]at e F;cases e;obtain⟨w,o,p⟩:=F;exact .inr ⟨a,w,rfl,by rw[<-o];exact DGet.k n,q w p⟩
  .cases e
theorem FQ (h:z42 i=Z7):E8 i:=λo v=>by cases i<;>first|rfl|cases h
theorem d_ix (hu:X.A.units+64<cLine)(hs:z42 i=Z7)(h:PE X a (tD X.K fa))(j:PE X i (tD X.K k)):
  PE X (.Subscript a i pos) (tD X.K λb=>fa b>>=λx=>k b>>=λy=>gH x.2 y.2>>=λd=>.ok (gJ d x.1,d)):=
 PE.imp (E9 (FP hu) h j (FQ hs)) λs H Q ⟨b,F,z,so,e,q⟩=>by obtain⟨x,l,e⟩:=Res.aA e;obtain⟨y,m,e⟩:=Res.aA e;obtain⟨d,n,e⟩:=Res.aA e;cases e;exact⟨b,F,x,so,l,λv t f o=>⟨b,F,y,so.same f,m,λu p g r=>⟨_,_,x.2,y.2,d,o.same g λ_ z=>z,r,n,λw c=>q w p (f.trans g) (qO c λ_ z=>z)⟩⟩⟩
theorem Ng (h:Z1 z=Z7)(a b:Option Int):Z1 (gI z a b)=true:=
 strOk_iff.mpr λc hc=>strOk_iff.mp h c (by
  have:c∈Mi.cut z.cps.toList a b:=by simpa[gI]using hc
  exact il (ip this))
theorem FR (a b:Option Int)(n:Nat):e9 a b 1 n=sliceRange ((Mi.bB n 0 a:Nat):Int) ((Mi.bB n n b:Nat):Int) 1:=by
 delta e9
 simp
 congr 1
 .cases a with
  |none=>rfl
  |some v=>
   simp only[Mi.bB];by_cases h:v<0
   .simp only[qe h];omega
   .simp only[qf h];omega
 .cases b with
  |none=>rfl
  |some v=>
   simp only[Mi.bB];by_cases h:v<0
   .simp only[qe h];omega
   .simp only[qf h];omega
theorem Nh (n d:Nat)(hd:d<=n)(o:Option Int):Mi.bB n d o<=n:=by rw[<-Nd];exact HT.rL n d hd o
theorem Ni (z:Str)(a b:Option Int):Txt.slice z a b=gI z a b:=by
 have hn:z.cps.toList.length=z.length:=by simp[Str.length]
 have e:(e9 a b 1 z.length).filterMap (z.cps[·]?)=Mi.cut z.cps.toList a b:=by rw[FR,m9,pick_run];unfold Mi.cut;rw[hn]
 have f:(e9 a b 1 z.length).length=Mi.bB z.length z.length b-Mi.bB z.length 0 a:=by rw[FR,m9,ai,cg]
 unfold Txt.slice;split
 .rename_i hc;simp at hc;have g:=Nh z.length z.length (ah _) b
  have c:Mi.cut z.cps.toList a b=z.cps.toList:=by
   unfold Mi.cut;rw[hn];by_cases h0:Mi.bB z.length 0 a=0
   .rw[h0,List.drop_zero,jp (by grind)]
   .have d:z.length=0:=by omega
    have:z.cps.toList=[]:=jh.mp (hn▸d);rw[this];simp
  unfold gI;rw[c]
 .unfold gI;rw[<-e]
def Bq (K:Z5):V->Option Int->Option Int->Hp->VK->Prop:=λx lo hi H Q=>∃B dx d,Rep K H B x dx/\se dx lo hi=.ok d/\∀w H',Same H H'->Rep K H' (λa=>nw H a\/B a) w d->(∀ds,d=.list ds->imms ds=Z7->Rep K H' (nw H) w d)->Q w H'
theorem Nj:oF X (Bq X.K):=by
 intro g s n H x v o t b c sl Q I u hs pl pu h;refine(Mt.or LM) g s n H x v o t b c sl Q I u hs pl pu ?_;obtain⟨B,w,d,r,e,q⟩:=h;cases w<;>try (cases e;done)
 case list xs=>cases e;obtain⟨a,j,rfl,k,i⟩:=oG r;refine .inl (.inl ⟨a,j,rfl,k,λp f=>?_⟩);exact q _ _ (Same.upd f) (qP f (i.cut b c) (λ_ z=>.inr z) (.inl f)) λm z l=>by cases z;exact qP f (Reps.bS _ l (i.cut b c)) (λ_ z=>z) f
 case tuple xs=>
  change(if bB xs.length 0 b=0/\bB xs.length xs.length c=xs.length then Res.no else Res.ok (ZY (cut xs b c)))=_ at e;split at e
  .cases e
  .rename_i y;cases e;obtain⟨a,j,rfl,k,i⟩:=r;refine .inr ⟨a,j,rfl,k,by rw[i.length];exact y,λp f=>?_⟩;exact q _ _ (Same.upd f) (yr f (i.cut b c) λ_ z=>.inr z) λm z=>by cases z
 case str z=>
  change(if z.length<=LIM then Res.ok (Z0 (gI z b c))else .no)=_ at e;split at e
  .rename_i hl;cases e;have A:=r.1;subst A;refine .inl (.inr ⟨z,rfl,jZ hl,?_⟩);rw[Ni];exact q _ H (Same.refl H) ⟨rfl,Ng r.2 b c⟩ λm z=>by cases z
  .cases e
theorem uc:PO X Z8 (tDO X.K λ_=>.ok Z8):=PO.imp LI λa H Q ⟨b,F,z,so,e,q⟩=>by cases e;exact q H (Same.refl H)
theorem Nk (c:PE X a (tD X.K fa)):PO X (Z9 a) (tDO X.K λb=>fa b>>=λx=>sf x.2):=
 PO.imp (LJ c) λk H Q ⟨b,F,z,so,e,q⟩=>by
  obtain⟨x,f,e⟩:=Res.aA e;refine⟨b,F,x,so,f,λv h i j=>?_⟩;obtain⟨g,d⟩:=x;cases d<;>try (cases e;done)
  cases e;exact⟨_,j,q h i⟩
theorem d_sl {k:Option Expr}(m:PE X a (tD X.K fa))(n:PO X k (tDO X.K fl))(hh:PO X i (tDO X.K o)):
  PE X (.Subscript a (.Slice k i Z8 p2) pos) (tD X.K λb=>fa b>>=λx=>fl b>>=λl=>o b>>=λh=>se x.2 l h>>=λd=>.ok (gN d (cF [x]),d)):=
 PE.imp (LL Nj m n hh) λD H Q ⟨b,F,z,so,e,q⟩=>by
  obtain⟨x,p,e⟩:=Res.aA e;obtain⟨l,r,e⟩:=Res.aA e;obtain⟨h,s,e⟩:=Res.aA e;obtain⟨d,t,e⟩:=Res.aA e;cases e;refine⟨b,F,x,so,p,λv E c u=>⟨b,F,l,so.same c,r,λG f=>⟨b,F,h,so.same (c.trans f),s,λI g=>⟨_,x.2,d,u.same (f.trans g) λ_ z=>z,t,λw y A j B=>q w y ((c.trans (f.trans g)).trans A) (FE j (λa h=>?_) λC z i=>(B C z i).weak λ_ z=>nw.back (c.trans (f.trans g)) z)⟩⟩⟩⟩;rcases h with h|h
  .exact Be so.aO (c.trans (f.trans g)) h
  .exact vQ so.aO (by simp) h
theorem Reps.pick {K:Z5}(r:Reps K H B vs ds):∀is:List Nat,Reps K H B (is.filterMap (vs[·]?)) (is.filterMap (ds[·]?))
 | []=>rfl
 |i::is=>by
  rw[d7,d7];cases h:ds[i]? with
  |some d=>obtain⟨v,h1,h2⟩:=r.get h;rw[h1];exact Reps.cons h2 (Reps.pick r is)
  |none=>
   have:vs[i]?=none:=by rw[kj]at h ⊢;rw[r.length];exact h
   rw[this];exact Reps.pick r is
theorem Vals.pick (r:Vals vs us):∀is:List Nat,Vals (is.filterMap (vs[·]?)) (is.filterMap (us[·]?))
 | []=>.nil
 |i::is=>by
  rw[d7,d7];cases h:vs[i]? with
  |some d=>obtain⟨v,a,b⟩:=r.get h;rw[a];exact .cons b (Vals.pick r is)
  |none=>
   have:us[i]?=none:=by rw[kj]at h ⊢;rw[<-r.length];exact h
   rw[this];exact Vals.pick r is
theorem d_cB {id:String}(hc:CallR X (.builtin id) (z6p X.K m))(hm:X.mg x=Z8)(k:cr x=Z9 (.builtin id))(l:PA X (e::es) (tDA X.K fs))(b:((e::es).all fun e=>!isStar e)=Z7)(n:Gl X x)(hn:x≠"__name__")(c:VB x):
  PE X (.Call (.Name x p) (e::es) [] pos) (tD X.K λf=>fs f>>=λg=>m (g.map (·.2))>>=λd=>.ok (gJ d .al,d)):=
 PE.imp (yj hc hm k l b n hn c) λu H Q ⟨f,F,z,so,e,q⟩=>by obtain⟨g,o,e⟩:=Res.aA e;obtain⟨d,r,e⟩:=Res.aA e;cases e;exact⟨f,F,g,so,o,λv y j rs=>⟨_,_,d,rs.iQ so.aO,r,λw s t i=>q w s (j.trans t) (qO i λa h=>h.elim (λz=>(nw.back j z).aO so.aO) λz=>z)⟩⟩
theorem bG.length {K:Z5}:∀{kvs:List (Key×V)} {es:dF},bG K H B kvs es->kvs.length=es.length
 |kvs,[],r=>by have e:kvs=[]:=r;subst e;rfl
 |kvs,(kd,d)::es,r=>by obtain⟨k,v,t,rfl,_,_,_,q⟩:=r;rw[am,am,q.length]
theorem ud {K:Z5}(r:Reps K H B xs [d]):∃v,xs=[v]/\Rep K H B v d:=by obtain⟨v,t,e,h,q⟩:=r;subst e q;exact⟨v,rfl,h⟩
theorem FT:CallR X (.builtin "len") (z6p X.K (iF "len")):=by
 refine CallR.imp (Mu.or L9) λl H Q h=>?_;obtain⟨B,g,d,r,e,q⟩:=h;simp only[iF,if_true]at e;split at e
 .rename_i x;obtain⟨v,rfl,i⟩:=ud r;clear r;have r:=i;cases x<;>try (cases e;done)
  case str z=>
   change(if z.length<=LIM then Res.ok (ZX z.length)else .no)=_ at e;split at e
   .rename_i j;cases e;have k:=r.1;subst k;exact .inl (.inl ⟨z,rfl,jZ j,q _ H (Same.refl H) rfl⟩)
   .cases e
  case tuple g=>cases e;obtain⟨a,b,rfl,c,f⟩:=r;exact .inl (.inr ⟨a,b,rfl,.inr c,q _ H (Same.refl H) (f.length▸rfl)⟩)
  case list g=>cases e;obtain⟨a,b,rfl,c,f⟩:=oG r;exact .inl (.inr ⟨a,b,rfl,.inl c,q _ H (Same.refl H) (f.length▸rfl)⟩)
  case dict g=>cases e;obtain⟨a,b,rfl,c,_,f⟩:=r;exact .inr ⟨a,b,rfl,c,q _ H (Same.refl H) (f.length▸rfl)⟩
 .cases e
theorem zfp (I:Inv X j q H s)(c:RelV x u)(r:Rep X.K H B x d)(l:T∈tysB)
  (h:∀m,Q (.bool (jG (hZ d) T)) {s with toks:=m}):wpAny (model X.prog X.w) A (call (.builtin "isinstance") [u,.type T]) Q E s:=by
 have n:hZ d∈oZ:=by cases d<;>simp[hZ,oZ]
 have e:=Mv X.K _ n T l;cases d with
 |none=>have f:x=.non:=r;subst f;exact z2d I c .non e h
 |bool b=>have f:x=.bl b:=r;subst f;exact z2d I c (.bl b) e h
 |int b=>have f:x=.int b:=r;subst f;exact z2d I c (.int b) e h
 |str b=>have f:x=.str b:=r.1;subst f;exact z2d I c (.str b) e h
 |tuple p=>obtain⟨a,k,rfl,g,_⟩:=r;cases c;obtain⟨_,_,⟨o,i,hc,_⟩,_⟩:=I.tuple g;exact Z2 W.kitx_tuple I.eJ ⟨o,i,hc⟩ e (λz=>nomatch z) h
 |list p=>obtain⟨a,k,rfl,g,_⟩:=oG r;cases c;obtain⟨_,_,⟨o,_,i,hc,_⟩,_⟩:=I.list g;exact Z2 W.kitx_list I.eJ ⟨o,i,hc⟩ e (λz=>nomatch z) h
 |dict es=>obtain⟨a,k,rfl,g,_⟩:=r;exact z2d I c (.dK g) e h
def Br (K:Z5):List V->Hp->VK->Prop:=λxs H Q=>∃B x d T,xs=[x,.ty T]/\Rep K H B x d/\T∈tysB/\Q (.bl (jG (hZ d) T)) H
theorem Nl:CallR X (.builtin "isinstance") (Br X.K):=by
 rintro a s h H i j Q I r ⟨B,x,d,T,rfl,b,c,q⟩
 obtain⟨u,e,rfl,f,g⟩:=vals2 r;obtain rfl:e=Value.type T:=g;exact zfp I f b c λk=>⟨.bl _,H,I.tok _,rfl,q⟩
theorem zru (hm:X.mg "isinstance"=Z8)(hg:Gl X "isinstance")(hm2:X.mg x2=Z8)(hv2:cr x2=Z9 (.type T))(hg2:Gl X x2)(hn2:x2≠"__name__")(hd2:VB x2)(hT:T∈tysB)(hs:isStar y=Z6)(ha:PE X y (tD X.K fa)):
  PE X (.Call (.Name "isinstance" p) [y,.Name x2 p2] [] pos) (tD X.K λρ=>fa ρ>>=λx=>.ok (.fr,.bool ([T].any λT=>jG (hZ x.2) T))):=
 PE.imp (yj Nl hm (by decide+kernel) (dO ha (dO (Kr (v:=.ty T) hg2 hm2 hv2 rfl hn2 hd2) kO) hs) (by simp[hs];rfl) hg dc dc) λσ H Q ⟨ρ,F,z,so,e,q⟩=>by obtain⟨x,e1,e⟩:=Res.aA e;cases e;refine⟨ρ,F,x,so,e1,λv H1 s1 rv=>?_⟩;refine⟨_,v,x.2,T,rfl,rv,hT,q _ H1 s1 ?_⟩;show V.bl _=V.bl _;simp
end
section
variable {X:Cx}{pos:Pos}
end
def Kp (B:Ad->Prop)(H1 H2:Hp):Prop:=∀a o,H1 a=Z9 o->(B (Z9 a)\/Fix o)->H2 a=Z9 o
theorem Kp.of (s:Same b c):Kp B b c:=λa o e _=>s a o e
structure Walk (K:Z5)(J:It)(B:Ad->Prop)(H1:Hp)(xs:List D):Prop where
 len:xs.length<=ay
 go:∀H2,Kp B H1 H2->∀i,i<xs.length->J.go i H2
 stop:∀H2,Kp B H1 H2->J.stop xs.length H2
 kM:∀H2,Kp B H1 H2->∀i x H3,i<xs.length->J.kM i H2 x H3->Same H2 H3/\∃d,xs[i]?=Z9 d/\Rep K H3 B x d
def tDW (K:Z5)(f:Rho->Res (G×List D)):TI:=λσ H R=>∃ρ F w,StOk K F H σ ρ/\f ρ=.ok w/\∀J B H',Same H H'->(∀a,B a->BG F H w.1 a/\¬nw H' a)->Walk K J B H' w.2->R J H'
theorem _root_.L2.PI.imp (h:PI X c e t)(i:∀a H Q,d a H Q->t a H Q):PI X c e d:=λb s a H Q I q=>h b s a H Q I (i a H Q q)
section
variable {K:Z5}{H:Hp}{B:Ad->Prop}
theorem Nm (h:(H a=Z9 (.lst c)/\B (Z9 a))\/(FL K H a c/\B Z8))(r:Reps K H B c g)(l:g.length<=ay):Walk K (Al K a) B H g:=by
 have f:∀e,Kp B H e->SqL K e a c:=λe k=>by
  rcases h with⟨h,b⟩|⟨⟨o,h⟩|h,_⟩
  .exact .inl (.inl (k a _ h (.inl b)))
  .exact .inl (.inr ⟨o,k a _ h (.inr True.intro)⟩)
  .exact .inr h
 refine⟨l,λe k i j=>?_,λe k=>⟨c,f e k,by rw[r.length];exact ah _⟩,λe k i x q j y=>?_⟩
 .have m:i<c.length:=r.length▸j;exact⟨c,c[i],f e k,by simp[m]⟩
 .obtain⟨rfl,y⟩:=y;obtain⟨d,n,p⟩:=r.lA (y c (f _ k));exact⟨Same.refl _,d,n,Rep.keep k (λ_ z=>z) d p⟩
theorem Nn (h:cP K H a c)(r:Reps K H B c f)(j:f.length<=ay):Walk K (ED K a) B H f:=by
 have e:∀b,Kp B H b->cP K b a c:=λb k=>h.keep k;refine⟨j,λb k i g=>?_,λb k=>⟨c,e b k,by rw[r.length];exact ah _⟩,λb k i x o g y=>?_⟩
 .have l:i<c.length:=r.length▸g;exact⟨c,c[i],e b k,by simp[l]⟩
 .obtain⟨rfl,y⟩:=y;obtain⟨d,m,n⟩:=r.lA (y c (e _ k));exact⟨Same.refl _,d,m,Rep.keep k (λ_ z=>z) d n⟩
theorem Nq (ok:Z1 z=Z7)(e:z.length<=ay):Walk K (AM z) B H (z.cps.toList.map λc=>.str ⟨#[c]⟩):=by
 have b:(z.cps.toList.map λc=>(Z0 ⟨#[c]⟩:D)).length=z.cps.size:=by simp
 refine⟨by rw[b];exact e,λd k i hi=>?_,λd k=>?_,λd k i x g hi y=>?_⟩
 .rw[b]at hi;exact hi
 .show z.cps.size<=_;rw[b];simp_all
 .obtain⟨rfl,c,f,rfl⟩:=y;have a:z.cps.toList[i]?=Z9 c:=by simpa using f
  refine⟨Same.refl _,.str ⟨#[c]⟩,by rw[bu,a];rfl,rfl,FC ok (d4 a)⟩
theorem FU {b:Int}(e:n<=ay):Walk K (va b n) B H ((ce n).map λ(i:Nat)=>.int (b+i)):=by
 have c:((ce n).map λ(i:Nat)=>(ZX (b+i):D)).length=n:=by simp
 refine⟨by rw[c];exact e,λd k i a=>?_,λd k=>?_,λd k i x f a y=>?_⟩
 .rw[c]at a;exact a
 .show n<=_;rw[c];simp_all
 .obtain⟨rfl,rfl⟩:=y;rw[c]at a;exact⟨Same.refl _,.int (b+i),by rw[bu,nz a];rfl,rfl⟩
end
section
variable {X:Cx}{tg a b c e:Expr}{es:List Expr}{fa fb fc:Rho->Res GD}{pos:Pos}
theorem z3g {pins:List (Addr×Obj)}{σ:L2.St}{H1:Hp}{s1:au}{v:Value}{y:V}{B:Ad->Prop}{d:D}{xs:List D}{R:It->Hp->Prop}(I1:Inv X pins σ H1 s1)(r1:RelV y v)(rv:Rep X.K H1 B y d)(e:z4q d=.ok xs)
  (q:∀J,Walk X.K J B H1 xs->R J H1):wpAny (model X.prog X.w) X.A (p6 v) (rA X pins σ tg R) X.xe s1:=by
 cases d<;>try (cases e;done)
 case list ds=>
  cases e;obtain⟨a,vs,rfl,h,rs⟩:=rv
  have hq:SqL X.K H1 a vs:=by
   rcases h with⟨h,_⟩|⟨h|h,_⟩
   .exact .inl (.inl h)
   .exact .inl (.inr h)
   .exact .inr h
  cases r1;obtain⟨cC,sM,p,hz⟩:=I1.list hq;refine jl p.isList ?_;refine⟨s1.heap.objs.size,[s1.heap.objs.size],_,_,H1,rfl,I1.kept (t':=s1.toks) λb o e=>ak _ e,EE a _,⟨_,a7 _ rfl,rfl,rfl⟩,λb hb=>?_,q _ (Nm h rs (by rw[<-rs.length];exact hz))⟩;have e:b=s1.heap.objs.size:=by simpa using hb
  subst e;exact I1.iO (ah _) (I1.hok.fresh (ah _))
 case tuple ds=>
  cases e;obtain⟨a,vs,rfl,hq,rs⟩:=rv;cases r1;obtain⟨cC,sM,p,hz⟩:=I1.tuple hq;refine ox (show s1.heap.IsTuple a cC.toArray from p) ?_;refine⟨s1.heap.objs.size,[s1.heap.objs.size],_,_,H1,rfl,I1.kept (t':=s1.toks) λb o e=>ak _ e,KJ a _,⟨_,a7 _ rfl,rfl,rfl⟩,λb hb=>?_,q _ (Nn hq rs (by rw[<-rs.length];exact hz))⟩;have e:b=s1.heap.objs.size:=by simpa using hb
  subst e;exact I1.iO (ah _) (I1.hok.fresh (ah _))
 case str z=>
  change(if z.length<=LIM then Res.ok (z.cps.toList.map λc=>Z0 ⟨#[c]⟩)else .no)=_ at e;split at e
  case isFalse=>cases e
  rename_i hs;cases e;have e1:y=.str z:=rv.1;subst e1;obtain⟨t,rfl⟩:=r1;have qz:=q _ (Nq rv.2 (jZ hs))
  have fin:∀(ty:String) (rP:ty="str_ascii_iterator"\/ty="str_iterator"),rA X pins σ tg R (.ref s1.heap.objs.size) {s1 with heap:=s1.heap.push {cls:=.type ty,data:=.fields #[.str z t,.int 0 0]}}:=λty rP=>by
   refine⟨s1.heap.objs.size,[s1.heap.objs.size],_,_,H1,rfl,I1.kept (t':=s1.toks) λb o e=>ak _ e,Mm rP _ z t,⟨_,a7 _ rfl,rfl,rfl⟩,λb hb=>?_,qz⟩;have e:b=s1.heap.objs.size:=by simpa using hb
   subst e;exact I1.iO (ah _) (I1.hok.fresh (ah _))
  cases ha:z.cps.all (· <128)
  .exact wpAny_pyIter_wide ha (fin _ (.inr rfl))
  .exact wpAny_pyIter_ascii ha (fin _ (.inl rfl))
theorem fY (ha:PE X a (tD X.K fa)):PI X tg a (tDW X.K λρ=>fa ρ>>=λx=>z4q x.2>>=λxs=>.ok (x.1,xs)):=by
 rintro pins s σ H R I ⟨ρ,F,w,so,e,q⟩
 obtain⟨x,e1,e⟩:=Res.aA e;obtain⟨xs,e2,e⟩:=Res.aA e;cases e;refine aM (ha pins s σ H (λv H1=>Same H H1/\Rep X.K H1 (BG F H x.1) v x.2) I ⟨ρ,F,x,so,e1,λv H1 s1 rv=>⟨s1,rv⟩⟩) λv s1 zz=>?_;obtain⟨y,H1,I1,r1,Nr,rv⟩:=zz;exact z3g I1 r1 (Rep.there _ rv) e2 λJ wk=>q J _ H1 Nr (λ_ z=>z) wk
theorem Bt {n:Int}(a:n<=LIM)(b:-LIM<=n):-(2 ^ 62)<=n/\n<2 ^ 62:=by unfold LIM at *;omega
theorem dZ.one {K:Z5}(r:dZ K F H H' vs [x]):∃v,vs=[v]/\Rep K H' (BG F H x.1) v x.2:=by obtain⟨v,t,e,h,q⟩:=r;subst e q;exact⟨v,rfl,h⟩
theorem dZ.two {K:Z5}(r:dZ K F H H' vs [x,y]):∃v w,vs=[v,w]/\Rep K H' (BG F H x.1) v x.2/\Rep K H' (BG F H y.1) w y.2:=by obtain⟨v,t,e,h,q⟩:=r;obtain⟨w,a,b⟩:=q.one;subst e a;exact⟨v,w,rfl,h,b⟩
theorem Nt (hm:X.mg "range"=Z8)(l:Gl X "range")(hs:isStar a=Z6)(m:PA X [a] (tDA X.K fs))(o:∀c b,fs c=.ok b->b.length=1):PI X y (.Call (.Name "range" p) [a] [] pos) (tDW X.K λc=>fs c>>=λb=>iA (b.map (·.2))>>=λj=>.ok (.fr,j)):=
 PI.imp (KR l hm m (dX hs)) λA H R ⟨c,F,w,so,e,q⟩=>by
  obtain⟨b,k,e⟩:=Res.aA e;obtain⟨j,f,e⟩:=Res.aA e;cases e;refine⟨c,F,b,so,k,λB r s rs=>?_⟩
  match b,(o c b k)with
  | [(g,d)],t=>
   obtain⟨v,rfl,u⟩:=rs.one;cases d<;>try (cases f;done)
   rename_i n;subst u;change(if n<=LIM/\-LIM<=n then Res.ok ((ce n.toNat).map λ(i:Nat)=>ZX i)else .no)=_ at f;split at f
   case isFalse=>cases f
   rename_i hn;cases f;have h:=Bt hn.1 hn.2;refine⟨n,rfl,h.1,h.2,q _ (λ_=>False) r s (λ_ z=>z.elim) ?_⟩;have x:((ce n.toNat).map λ(i:Nat)=>(ZX i:D))=(ce n.toNat).map λi=>.int (0+i):=by apply n4;intro i _;rw[Int.zero_add]
   rw[x];exact FU (jZ (by unfold LIM at *;omega))
theorem Nu (hm:X.mg "range"=Z8)(s:Gl X "range")(hs:isStar a=Z6)(i:isStar b=Z6)(t:PA X [a,b] (tDA X.K fs))(u:∀f c,fs f=.ok c->c.length=2):PI X tg (.Call (.Name "range" p) [a,b] [] pos) (tDW X.K λf=>fs f>>=λc=>iA (c.map (·.2))>>=λk=>.ok (.fr,k)):=
 PI.imp (zc3 s hm t (by rw[dX hs,dX i];rfl) (dX i)) λD H R ⟨f,F,w,so,e,q⟩=>by
  obtain⟨c,l,e⟩:=Res.aA e;obtain⟨k,h,e⟩:=Res.aA e;cases e;refine⟨f,F,c,so,l,λE x y rs=>?_⟩
  match c,(u f c l)with
  | [(g,d),(G,A)],B=>
   obtain⟨v,I,rfl,C,j⟩:=rs.two;cases d<;>try (cases h;done)
   cases A<;>try (cases h;done)
   rename_i n m;subst C j;simp only[bc,ma,iA]at h;split at h
   case isFalse=>cases h
   rename_i hn;cases h;have o:=Bt hn.2.2.1 hn.1;have r:=Bt hn.2.1 hn.2.2.2;refine⟨n,m,rfl,⟨o.1,o.2,r.1,r.2⟩,q _ (λ_=>False) x y (λ_ z=>z.elim) ?_⟩;refine FU ?_;rw[bz];unfold LIM at *;omega
def Fm.drop (F:Fm)(i:Nat):Fm:={F with O:=λa=>if F.O a=Z9 i then Z8 else F.O a}
theorem Fm.bR {F:Fm}{a:Addr}(h:F.O a=Z8):(F.drop i).O a=none:=by show(if F.O a=Z9 i then Z8 else F.O a)=Z8;rw[h];rfl
theorem Bin.drop {a:Ad}(h:Bin F a):Bin (F.drop i) a:=by
 cases a with
 |none=>exact h
 |some a=>exact⟨Fm.bR h.1,h.2⟩
theorem Slot.drop {K:Z5}(a:j≠i)(h:Slot K F H j g v d):Slot K (F.drop i) H j g v d:=by
 cases g with
 |fr=>
  obtain⟨p,e,o,h⟩:=h;refine⟨p,e,?_,?_⟩
  .show(if F.O p=Z9 i then Z8 else F.O p)=Z9 j;rw[o,qf (λz=>a (qg z))]
  .rcases h with⟨c,f,k,l,r⟩|⟨c,f,k,l,r⟩
   .exact .inl ⟨c,f,k,l,r.weak λ_ b=>b.drop⟩
   .exact .inr ⟨c,f,k,l,bG.same (λ_ _ e=>e) (λ_ b=>b.drop) r⟩
 |od=>exact h
 |al=>exact h
 |nu=>exact Rep.weak (λ_ b=>b.drop) h
def BI (F:Fm):G->Ad->Prop
 |.od=>fX F
 |.fr=>bU F
 |.al=>bU F
 |.nu=>bU F
theorem BI.of {a:Ad}(b:∀a,H a=Z8->F.V a)(h:BG F H g a):BI F g a:=by
 cases g with
 |fr=>exact nw.aO b h
 |od=>exact h
 |al=>exact h
 |nu=>exact h.elim (nw.aO b) Bin.aO
theorem StOk.lD {K:Z5}(so:StOk K F H f h)(r:Rep K H (BI F x.1) v x.2):StOk K (F.drop i) H (f.set i (Z9 v)) (h.set i (Z9 (lV x))) where
 ext:=so.ext
 aO:=so.aO
 own:=λa j e=>by
  have k:F.O a=Z9 j:=by
   have:(if F.O a=Z9 i then Z8 else F.O a)=Z9 j:=e;split at this
   .cases this
   .exact this
  exact so.own a j k
 len:=by rw[dw,dw];exact so.len
 sl:=λj g d e=>by
  by_cases c:i=j
  .subst c;rw[dq]at e;simp only[if_true]at e;split at e
   .rename_i l;have b:lV x=(g,d):=by simpa using e
    refine⟨v,?_,?_⟩
    .rw[dq];simp[so.len,l]
    .obtain⟨m,dx⟩:=x;cases m with
     |fr=>cases b;exact r
     |od=>cases b;exact r
     |al=>cases b;exact r
     |nu=>cases b;exact r
   .cases e
  .rw[cu c]at e ⊢;obtain⟨u,n,o⟩:=so.sl j g d e;exact⟨u,n,o.drop λz=>c z.symm⟩
structure Keeps (F F':Fm)(is:List Nat)(σ bA:L2.St):Prop where
 h0:F'.H0=F.H0
 v:F'.V=F.V
 z:F'.z=F.z
 o:∀a,F.O a=Z8->F'.O a=Z8
 len:bA.length=σ.length
 rest:∀j,j∉is->bA[j]?=σ[j]?
theorem Keeps.refl:Keeps F F is σ σ:=⟨rfl,rfl,rfl,λ_ h=>h,rfl,λ_ _=>rfl⟩
theorem Keeps.set {v:Option V}(h:i∈is):Keeps F (F.drop i) is σ (σ.set i v):=⟨rfl,rfl,rfl,λ_ h=>Fm.bR h,dw,λj a=>cu λz=>a (by rw[<-z];exact h)⟩
theorem Keeps.trans (a:Keeps F F' is σ bA)(b:Keeps F' Nv is bA Bu):Keeps F Nv is σ Bu:=⟨b.h0.trans a.h0,b.v.trans a.v,b.z.trans a.z,λx h=>b.o x (a.o x h),b.len.trans a.len,λj hj=>(b.rest j hj).trans (a.rest j hj)⟩
def tDG (K:Z5)(t:Tg):TG:=λv σ H Q=>∃ρ F x aN,StOk K F H σ ρ/\Rep K H (BI F x.1) v x.2/\eZ t x ρ=.ok aN/\∀bA F',StOk K F' H bA aN->Keeps F F' (tgIx t) σ bA->Q bA H
theorem _root_.L2.PG.imp (h:PG X e t)(i:∀v σ H Q,t' v σ H Q->t v σ H Q):PG X e t':=λpins s σ H v u Q I r q=>h pins s σ H v u Q I r (i v σ H Q q)
theorem _root_.L2.PGs.imp {e:List Expr}(h:PGs X e t)(i:∀v σ H Q,t' v σ H Q->t v σ H Q):PGs X e t':=λpins s σ H v u Q I r q=>h pins s σ H v u Q I r (i v σ H Q q)
theorem Nw (hN:X.N.Nodup)(a:X.N[i]?=Z9 x)(b:Loc X.env.scope x)(c:Sto X x):PG X (.Name x pos) (tDG X.K (.nm i)):=PG.imp (EA hN a b c) λv f H Q ⟨g,F,x,d,so,r,e,q⟩=>by cases e;exact q _ _ (so.lD r) (Keeps.set (by simp[tgIx]))
def nD (K:Z5)(all is:List Nat):tY:=λvs σ H Q=>∃ρ F g ds aN,(∀i∈is,i∈all)/\StOk K F H σ ρ/\Reps K H (BI F g) vs ds/\rZ ρ is ds g=Z9 aN/\∀bA F',StOk K F' H bA aN->Keeps F F' all σ bA->Q bA H
theorem Ny:PGs X [] (nD X.K all []):=
 PGs.imp KI λf b H Q ⟨h,F,g,a,c,_,so,r,e,q⟩=>by
  cases a with
  |nil=>cases e;exact⟨r,q b F so Keeps.refl⟩
  |cons d a=>cases e
theorem Nz (hN:X.N.Nodup)(c:X.N[i]?=Z9 x)(u:Loc X.env.scope x)(w:Sto X x)(h:PGs X es (nD X.K all is)):PGs X (.Name x p::es) (nD X.K all (i::is)):=
 PGs.imp (zgt (EA hN c u w) h (by rfl)) λC D H Q ⟨y,F,g,l,m,f,so,r,e,q⟩=>by
  cases l with
  |nil=>cases e
  |cons d l=>
   obtain⟨v,t,rfl,s,z⟩:=r;refine⟨v,t,rfl,y.set i (Z9 (lV (gJ d g,d))),F.drop i,g,l,m,λj A=>f j (av _ A),?_,?_,e,λn B o k=>q n B o ((Keeps.set (f i ax)).trans k)⟩
   .refine so.lD ?_;unfold gJ;by_cases c:imm d=Z7
    .rw[qe c];exact Rep.bS d c s
    .rw[qf c];exact s
   .exact z.weak λa b=>by cases g<;>exact b
theorem NA (x:X.calm=Z7)(h:PGs X es (nD X.K is is))(hn:(eo es X.env).length=n)(p:(eo es X.env).findIdx? (·.1)=Z8)(y:is.length=n):PG X (.Tuple es k pos) (tDG X.K (.tp is)):=
 λl s z H v u Q I A ⟨f,F,⟨g,d⟩,j,so,r,e,q⟩=>by
  have m:∀is b f c,rZ f is b g=Z9 c->is.length=b.length:=by
   intro is
   induction is with
   |nil=>intro b f c h;cases b with
    |nil=>rfl
    |cons _ _=>cases h
   |cons i is B=>intro b f c h;cases b with
    |nil=>cases h
    |cons d b=>rw[am,am,B b _ _ h]
  have t:∀b,Res.eU (rZ f is b g)=.ok j->rZ f is b g=Z9 j:=λb e=>by
   cases o:rZ f is b g with
   |none=>rw[o]at e;cases e
   |some c=>rw[o]at e;rw[Res.ok.inj e]
  cases d<;>try (cases e;done)
  case tuple b=>have o:=t b e;obtain⟨a,C,rfl,D,w⟩:=r;exact zqv x h hn p l s z H _ u Q I A ⟨a,C,rfl,D,by rw[w.length,<-m _ _ _ _ o];exact y,f,F,g,b,j,λ_ h=>h,so,w,o,q⟩
theorem StOk.blk {K:Z5}(so:StOk K F H s k)(m:Nat)(js:List Nat)(l:Addr)(u:List V)(c:H l=Z8):
  StOk K {F with V:=λa=>F.V a/\a≠l,O:=λ_=>Z8} (upd H l (.lst u)) (fS m js s) (bx m Z8++js.map λj=>fV (k.getD j Z8)) where
 ext:=λa o e=>by have:=so.ext a o e;rw[aL (fQ this c)];exact this
 aO:=λa e=>by
  by_cases h:a=l
  .subst h;rw[bL]at e;cases e
  .rw[aL h]at e;exact⟨so.aO a e,h⟩
 own:=λa i e=>by cases e
 len:=by unfold fS;simp
 sl:=λi g d e=>by
  have n:∀a,bU F a/\¬nw H a->bU {F with V:=λa=>F.V a/\a≠l,O:=λ_=>Z8} a:=λa h=>by
   cases a with
   |none=>exact h.1
   |some a=>exact⟨h.1,λz=>h.2 (z▸c)⟩
  have p:∀a,fX F a/\¬nw H a->fX {F with V:=λa=>F.V a/\a≠l,O:=λ_=>Z8} a:=λa h=>by
   cases a with
   |none=>exact h.1
   |some a=>exact⟨h.1.1,h.1.2,λz=>h.2 (z▸c)⟩
  rw[jz]at e;split at e
  .rw[cx]at e;split at e<;>cases e
  .rename_i w;rw[da]at w e;rw[bu]at e;cases q:js[i-m]? with
   |none=>rw[q]at e;cases e
   |some j=>
    rw[q]at e;have b:fV (k.getD j Z8)=Z9 (g,d):=qg e;cases r:k[j]? with
    |none=>rw[ag,r]at b;cases b
    |some o=>
     rw[ag,r]at b;cases o with
     |none=>cases b
     |some gd=>
      obtain⟨t,d0⟩:=gd;obtain⟨v,x,f⟩:=so.sl j t d0 r;refine⟨v,?_,?_⟩
      .unfold fS;rw[cf (by grind),da,bu,q];show Z9 (s.getD j Z8)=_;rw[ag,x];rfl
      .cases t with
       |fr=>cases b;exact Rep.same (Same.upd c) n (Rep.there _ (f.rep so.jH))
       |od=>cases b;exact Rep.same (Same.upd c) p (Rep.there _ f)
       |al=>cases b;exact Rep.same (Same.upd c) n (Rep.there _ f)
       |nu=>cases b;exact Rep.same (Same.upd c) n (Rep.there _ (f.rep so.jH))
theorem Bv:∀l m r,kW f (l++m)=.ok r->∃a b,kW f l=.ok a/\kW f m=.ok b/\r=a++b
 | [],m,r,h=>⟨[],r,rfl,h,rfl⟩
 |x::l,m,r,h=>by
  obtain⟨o,c,h⟩:=Res.aA h;obtain⟨d,e,h⟩:=Res.aA h;obtain⟨a,b,g,i,rfl⟩:=Bv l m d e;cases h;refine⟨oc o a,b,?_,i,?_⟩
  .show(f x>>=λo=>kW f l>>=λr=>Res.ok (oc o r))=_;rw[c,Res.aB,g,Res.aB]
  .cases o<;>rfl
theorem dZ.snoc {K:Z5}:∀{vs:List V} {xs:List GD} {v:V} {x:GD},dZ K F H H' vs xs->Rep K H' (BG F H x.1) v x.2->dZ K F H H' (vs++[v]) (xs++[x])
 |vs,[],v,x,r,h=>by have e:vs=[]:=r;subst e;exact⟨v,[],rfl,h,rfl⟩
 |vs,y::ys,v,x,r,h=>by obtain⟨u,t,rfl,h1,q⟩:=r;exact⟨u,t++[v],rfl,h1,q.snoc h⟩
theorem dZ.keep {K:Z5}(d:∀a o g,f a=Z9 o->(BG F H g (Z9 a)\/Fix o)->h a=Z9 o):∀{c:List V} {xs:List GD},dZ K F H f c xs->dZ K F H h c xs
 |c,[],r=>r
 |c,y::ys,r=>by obtain⟨u,t,e,i,q⟩:=r;exact⟨u,t,e,Rep.keep (λa o e b=>d a o y.1 e b) (λ_ z=>z) _ i,q.keep d⟩
theorem dZ.len {K:Z5}:∀{vs:List V} {xs:List GD},dZ K F H H' vs xs->vs.length=xs.length
 |vs,[],r=>by have e:vs=[]:=r;subst e;rfl
 |vs,y::ys,r=>by obtain⟨u,t,rfl,h1,q⟩:=r;rw[am,am,q.len]
theorem FV:∀l r,kW f l=.ok r->r.length<=l.length
 | [],r,h=>by cases h;simp_all
 |x::l,r,h=>by
  obtain⟨o,c,h⟩:=Res.aA h;obtain⟨a,b,h⟩:=Res.aA h;have:=FV l a b;cases h;cases o with
  |none=>exact bh this (by simp)
  |some y=>simp only[oc,am];omega
def zg1 (nt:Nat)(js:List Nat)(t:Tg)(fw:Rho->Res (G×List D))(fc:Rho->Res Bool)(fe:Rho->Res GD):Rho->Res GD:=λρ=>fw ρ>>=λw=>kW (λx=>eZ t (gJ x w.1,x) (bx nt Z8++js.map λj=>fV (ρ.getD j Z8))>>=λρ1=>fc ρ1>>=λk=>if k then fe ρ1>>=λy=>.ok (Z9 y)else .ok Z8) w.2>>=λys=>.ok (qL ys,.list (ys.map (·.2)))
def NB (g:TG)(tc:TT)(te:TE)(em:L2.St->L2.St)(σ:L2.St)(Q:VK):It->Hp->Prop:=λJ H1=>∀l,H1 l=Z8->∃P:Nat->Nat->List V->Hp->Prop,(∃m,P 0 m [] (upd H1 l (.lst [])))/\∀i m acc H2,P i m acc H2->(J.stop i H2/\Q (.ref l) H2)\/(J.go i H2/\acc.length<ay/\∃N:List V->Hp->Prop,(∀mU H',N mU H'->∃m',m'<m/\P (i+1) m' mU H')/\∀x H3,J.kM i H2 x H3->g x (em σ) H3 λkR H4=>mT (em σ) kR/\tc kR H4 λb H5=>if b=Z7 then te kR H5 λy H6=>H6 l=Z9 (.lst acc)/\N (acc++[y]) (upd H6 l (.lst (acc++[y])))else N acc H5)
abbrev CI (K:Z5)(F:Fm)(f:D->Res (Option GD))(ds:List D)(H1:Hp)(l:Nat)(i:Nat)(acc:List V)(H2:Hp):Prop:=H2 l=Z9 (.lst acc)/\(∀a o,H1 a=Z9 o->H2 a=Z9 o)/\∃ys,kW f (ds.take i)=.ok ys/\dZ K F (upd H1 l (.lst [])) H2 acc ys
theorem zao {fc:Rho->Res Bool}(ht0:∀i∈tgIx t,i<nt)(so:StOk X.K F H σ ρ)(e:zg1 nt js t fw fc fe ρ=.ok z)(q:∀v D,Same H D->Rep X.K D (BG F H z.1) v z.2->Q v D):
  ∃w,fw ρ=.ok w/\∀J B D,Same H D->(∀a,B a->BG F H w.1 a/\¬nw D a)->Walk X.K J B D w.2->NB (tDG X.K t) (dS X.K fc) (tD X.K fe) (fS nt js) σ Q J D:=by
 obtain⟨w,W,e⟩:=Res.aA e;obtain⟨Y,e2,e⟩:=Res.aA e;cases e;refine⟨w,W,λJ B s s1 hB wk l I=>?_⟩;generalize hr:(bx nt Z8++js.map λj=>fV (ρ.getD j Z8))=FW at e2;generalize hf:(λx=>eZ t (gJ x w.1,x) FW>>=λn=>fc n>>=λk=>if k then fe n>>=λy=>Res.ok (Z9 y)else .ok Z8)=f at e2;have sN:=so.same s1;have Bw:∀i,∃S,kW f (w.2.take i)=.ok S:=λi=>by rw[<-List.take_append_drop i w.2]at e2;obtain⟨r1,r2,T,_,_⟩:=Bv _ _ _ e2;exact⟨r1,T⟩
 let L:Fm:={F with V:=λa=>F.V a/\a≠l,O:=λ_=>Z8}
 refine zsq (CI X.K L f w.2 s l) wk.len ?_ ?_ ?_ ?_ ?_
 .exact⟨bL,λa o e=>by rw[aL (fQ e I)];exact e,[],rfl,rfl⟩
 .rintro i p U ⟨_,_,S,M,rs⟩
  rw[rs.len];have:=FV _ _ M;rw[cv]at this;omega
 .rintro p U ⟨T,E,S,M,rs⟩
  rw[List.take_length]at M;rw[e2]at M;cases M;refine⟨wk.stop U (λa o e _=>E a o e),q _ _ (λa o e=>E a o (s1 a o e)) ?_⟩;have FY:=s1.none I;refine⟨l,p,rfl,.inl ⟨T,?_⟩,rs.nB λx hx a hb=>?_⟩
  .show BG F H (qL Y) (Z9 l);unfold qL;split
   .exact FY
   .exact so.aO l FY
  .unfold qL;by_cases ea:(Y.all λx=>x.1==.fr)=Z7
   .rw[qe ea];have NC:x.1=.fr:=by simpa using be.mp ea x hx
    rw[NC]at hb;cases a with
    |none=>exact hb
    |some a=>
     have FZ:upd s l (.lst []) a=none:=hb
     have:s a=none:=by
      by_cases c:a=l
      .subst c;exact I
      .rw[aL c]at FZ;exact FZ
     exact s1.none this
   .rw[qf ea];have:bU L a:=BG.aO (λa e=>((sN.blk nt js l [] I).aO a e)) hb;cases a with
    |none=>exact this
    |some a=>exact this.1
 .rintro i p U N ⟨_,E,_⟩
  exact wk.go U (λa o e _=>E a o e) i N
 .rintro i p U x H3 N ⟨T,E,S,M,rs⟩ y
  obtain⟨s3,d,hd,rx⟩:=wk.kM U (λa o e _=>E a o e) i x H3 N y;obtain⟨Vl,A⟩:=Bw (i+1);have P:w.2.take (i+1)=w.2.take i++[d]:=by rw[List.take_add_one,hd];rfl
  rw[P]at A;obtain⟨r1,r2,g1,g2,g3⟩:=Bv _ _ _ A;rw[M]at g1;cases g1;obtain⟨o,C,g2⟩:=Res.aA g2;obtain⟨r3,g5,g2⟩:=Res.aA g2;cases g5;rw[<-hf]at C;obtain⟨n,k1,C⟩:=Res.aA C;obtain⟨k,k2,C⟩:=Res.aA C
  have sb:StOk X.K L H3 (fS nt js σ) FW:=by
   rw[<-hr];refine(sN.blk nt js l p I).same λa o e=>s3 a o ?_;by_cases c:a=l
   .subst c;rw[bL]at e;rw[T];exact e
   .rw[aL c]at e;exact E a o e
  have Bz:Rep X.K H3 (BI L (gJ d w.1)) x d:=by
   unfold gJ;by_cases N:imm d=Z7
   .rw[qe N];exact Rep.bS d N rx
   .rw[qf N];refine rx.weak λa b=>?_;obtain⟨r,b2⟩:=hB a b;have G:=BI.of so.aO r;cases a with
    |none=>cases hw:w.1<;>rw[hw]at G<;>exact G
    |some a=>
     have c:a≠l:=λz=>b2 (by rw[z];exact I);cases hw:w.1<;>rw[hw]at G
     .exact⟨G,c⟩
     .exact⟨G.1,G.2,c⟩
     .exact⟨G,c⟩
     .exact⟨G,c⟩
  refine⟨_,L,(gJ d w.1,d),n,sb,Bz,k1,λkR R yB h=>⟨⟨h.len.symm,λj v hj=>?_⟩,n,R,k,yB,k2,λH5 s5=>?_⟩⟩
  .by_cases F6:j∈tgIx t
   .have :=ht0 j F6;unfold fS at hj;rw[df (da▸this),cx,qe this]at hj;cases hj
   .rw[h.rest j F6];exact hj
  .have h5:∀a o,s a=Z9 o->H5 a=Z9 o:=λa o e=>s5 a o (s3 a o (E a o e));have u:=s5 _ _ (s3 _ _ T);have F7:=rs.keep λa o g e _=>s5 a o (s3 a o e);cases k with
   |false=>cases C;cases g2;refine bC ⟨u,h5,S,?_,F7⟩;rw[P,A,g3];simp[oc]
   |true=>
    obtain⟨yv,k3,C⟩:=Res.aA C;cases C;cases g2;refine bE ⟨n,R,yv,yB.same s5,k3,λv H6 s6 rv=>⟨s6 _ _ u,bL,λa o e=>?_,S++[yv],?_,?_⟩⟩
    .rw[aL (fQ e I)];exact s6 a o (h5 a o e)
    .rw[P,A,g3];rfl
    .have ND:=s6 _ _ u
     have hk:∀a o g,H6 a=Z9 o->(BG L (upd s l (.lst [])) g (Z9 a)\/Fix o)->upd H6 l (.lst (p++[v])) a=Z9 o:=λa o g e b=>by
      have c:a≠l:=by
       intro z;subst z;rcases b with b|b
       .cases g with
        |fr=>have m:upd s a (.lst []) a=none:=b;rw[bL]at m;cases m
        |od=>exact b.2.2 rfl
        |al=>exact b.2 rfl
        |nu=>
         rcases b with b|b
         .have m:upd s a (.lst []) a=none:=b;rw[bL]at m;cases m
         .exact b.2.2.2 rfl
       .rw[ND]at e;cases e;exact b
      rw[aL c];exact e
     have sM:Rep X.K H6 (BG L (upd s l (.lst [])) yv.1) v yv.2:=by
      refine rv.weak λa b=>?_;cases hg:yv.1 with
      |fr=>
       rw[hg]at b;cases a with
       |none=>exact b
       |some a=>
        have m:H5 a=none:=b;show upd s l (.lst []) a=Z8;rw[aL (λz=>by rw[z,u]at m;cases m)];cases W:s a with
        |none=>rfl
        |some o=>rw[h5 a o W]at m;cases m
      |nu=>
       rw[hg]at b;cases a with
       |none=>exact b
       |some a=>
        rcases b with b|b
        .have m:H5 a=none:=b;refine .inl ?_;show upd s l (.lst []) a=Z8;rw[aL (λz=>by rw[z,u]at m;cases m)];cases W:s a with
         |none=>rfl
         |some o=>rw[h5 a o W]at m;cases m
        .refine .inr ⟨rfl,?_,?_⟩
         .have:=b.2.1;rw[h.h0]at this;exact this
         .have:=b.2.2;rw[h.v]at this;exact this
      |od=>
       rw[hg]at b;cases a with
       |none=>have r:R.z:=b;rw[h.z]at r;exact r
       |some a=>have r:R.H0 a≠Z8/\R.V a:=b;rw[h.h0,h.v]at r;exact r
      |al=>
       rw[hg]at b;cases a with
       |none=>have r:R.z:=b;rw[h.z]at r;exact r
       |some a=>have r:R.V a:=b;rw[h.v]at r;exact r
     exact((F7.keep λa o g e _=>s6 a o e).snoc sM).keep hk
theorem NF {fc:Rho->Res Bool}(ht0:∀i∈tgIx t,i<nt):∀σ H Q,tD X.K (zg1 nt js t fw fc fe) σ H Q->vC (tDW X.K fw) (tDG X.K t) (dS X.K fc) (tD X.K fe) (fS nt js) σ H Q:=by
 rintro σ H Q ⟨ρ,F,z,so,e,q⟩
 obtain⟨w,e1,h⟩:=zao ht0 so e q;exact⟨ρ,F,w,so,e1,h⟩
theorem zb2 {fc:Rho->Res Bool}(hc:X.calm=Z7)(Bk:BlkScope X scope N' nt js)(ht0:∀i∈tgIx t,i<nt)(hi:PI X tg iter (tDW X.K fw))
  (hg:∀C fp s H,PG (blk X scope N' C fp s H) tg (tDG X.K t)) (ht:∀C fp s H,oX (blk X scope N' C fp s H) ifs (dS X.K fc)) (he:∀C fp s H,PE (blk X scope N' C fp s H) elt (tD X.K fe)) (hs:∀x,ef iter X.env x=pure x):
  PE X (.ListComp elt [⟨tg,iter,ifs,0⟩] scope pos) (tD X.K (zg1 nt js t fw fc fe))/\∀σ H Q,tD X.K (zg1 nt js t fw fc fe) σ H Q->vC (tDW X.K fw) (tDG X.K t) (dS X.K fc) (tD X.K fe) (fS nt js) σ H Q:=by
 have main:=NF (X:=X) (js:=js) (fw:=fw) (fc:=fc) (fe:=fe) ht0;exact⟨PE.imp (z9q hc Bk hi hg ht he hs) main,main⟩
end
def BC (H:Hp)(A:Ad->Prop):G->Ad->Prop
 |.fr=>nw H
 |.od=>λa=>nw H a\/A a
 |.al=>λa=>nw H a\/A a
 |.nu=>nw H
def spD (K:Z5)(n:Nat)(m:Fn):Sp:=λvs H Q _=>∃A ds x,vs.length=n/\Reps K H A vs ds/\m ds=.ok x/\∀v H',Same H H'->Rep K H' (BC H A x.1) v x.2->Q v H'
section
variable {X:Cx}{tg a b c e o:Expr}{es:List Expr}{fa fb fc:Rho->Res GD}{pos:Pos}
theorem zpp (o:Cal X.prog X.w X.K X.mg X.base k x ps (spD X.K n m))(hr:Room s X.A)(t:k<=s)(u:PA X (e::es) (tDA X.K fs))(g:((e::es).all fun e=> !isStar e)=Z7)(c:Gl X x)(i:VB x)
  (y:∀d b,fs d=.ok b->b.length=n):PE X (.Call (.Name x p) (e::es) [] pos) (tD X.K λd=>fs d>>=λb=>m (b.map (·.2))>>=λr=>.ok (gJ r.2 (i' r.1),r.2)):=
 PE.imp (zfe o hr u g t c i) λI H Q ⟨d,F,z,so,e,q⟩=>by
  obtain⟨b,j,e⟩:=Res.aA e;obtain⟨r,B,e⟩:=Res.aA e;cases e;refine⟨d,F,b,so,j,λC l f rs=>?_⟩;show spD X.K n m (C++[]) l Q E0;rw[br];refine⟨_,_,r,by rw[rs.len];exact y d b j,rs.iQ so.aO,B,λv D E G=>q v D (f.trans E) (qO G λa h=>?_)⟩;have al:(nw l a\/bU F a)->bU F a:=λh=>h.elim (λh=>(nw.back f h).aO so.aO) λh=>h;cases c:r.1 with
  |fr=>rw[c]at h;exact nw.back f h
  |od=>rw[c]at h;exact al h
  |al=>rw[c]at h;exact al h
  |nu=>rw[c]at h;exact nw.back f h
def rMt (K:Z5)(m:String):V->List V->Hp->VK->Prop:=λx xs H Q=>∃B B' dx ds d,Rep K H B x dx/\Reps K H B' xs ds/\mtD m dx ds=.ok d/\∀w H',Same H H'->Rep K H' (λa=>nw H a\/B a\/B' a) w d->Q w H'
theorem mQ (h:z0v o=Z7):gv o n env w=w:=by
 unfold gv;split
 .rename_i id p a;cases h
 .rfl
theorem F8:∀{es:List Expr},(es.all λe=> !isStar e)=Z7->(ik pos (b7 es env)).all (λx=> !x.1)=Z7
 | [],_=>rfl
 |e::es,h=>by have h:=aw.mp (b9▸h);rw[dX (by simpa using h.1)];show(Z7&&(ik pos (b7 es env)).all (λx=>!x.1))=Z7;rw[F8 h.2];rfl
theorem z3a (h:(es.all fun e=> !isStar e)=Z7)(a:es.length<20):((ik cpos (b7 es env)).all (fun x=> !x.1)&&(pb cpos (k8 [] env)).all (fun x=>x.1.isSome)
  &&decide (es.length+([]:List kz).length+(if([]:List kz).isEmpty then 0 else 1)<30))=true:=by
 rw[F8 h];show(Z7&&Z7&&decide (es.length+0+0<30))=Z7;rw[qk (by omega)];rfl
theorem d_mt {id:String}(pa:qc T)(slot:PySem.Slot T n id)(l:typeOf (.builtin id)=pure (.type "method_descriptor"))(hm:MtR X id (rMt X.K m))(A:∀H B x dx C d,Rep X.K H B x dx->mtD m dx C=.ok d->tyV X.K T x H)
  (D:PE X o (tD X.K fa)) (E:PA X (e::es) (tDA X.K fs)) (p:z0v o=Z7) (f:((e::es).all λe=>!isStar e)=Z7) (G:(e::es).length<20) (c:(g.endLine==i.line)=Z7):
  PE X (.Call (.Attribute o n g) (e::es) [] i) (tD X.K λj=>fa j>>=λx=>fs j>>=λr=>mtD m x.2 (r.map (·.2))>>=λd=>.ok (gJ d .al,d)):=by
 have b:=f;rw[b9,aq]at b;refine PE.imp (za9 pa slot l hm D E (mQ p) (z3a f G) c (dX (by simpa using b.1)) (lU b.2)) λP H Q I=>?_;obtain⟨j,F,z,so,e,q⟩:=I;obtain⟨x,J,e⟩:=Res.aA e;obtain⟨r,L,e⟩:=Res.aA e;obtain⟨d,u,e⟩:=Res.aA e;cases e;refine⟨j,F,x,so,J,λv M k y=>⟨A M _ v x.2 _ d y u,j,F,r,so.same k,L,λR S s rs=>?_⟩⟩;refine⟨_,_,x.2,_,d,y.same s λ_ z=>z,rs.iQ (so.same k).aO,u,λw N O t=>q w N ((k.trans s).trans O) (qO t λa h=>?_)⟩;rcases h with h|h|h
 .exact(nw.back (k.trans s) h).aO so.aO
 .exact h.aO so.aO
 .exact h
theorem F9 {K:Z5}:∀{a:List D} {b:List Str} {f:List V} {g:List Value},fA a=Z9 b->Reps K H B f a->Vals f g->StrsAre g b/\∀s∈b,Z1 s=Z7
 | [],b,f,g,e,r,q=>by cases e;have c:=r;subst c;cases q;exact⟨.nil,λ_ h=>nomatch h⟩
 |d::a,b,f,g,e,r,q=>by
  cases d<;>try (cases e;done)
  rename_i z;change(fA a).map (z:: ·)=_ at e;cases c:fA a with
  |none=>rw[c]at e;cases e
  |some j=>
   rw[c]at e;cases e;obtain⟨v,t,rfl,i,k⟩:=r;have ev:=i.1;subst ev;cases q with
   |cons l m=>
    obtain⟨n,rfl⟩:=l;obtain⟨o,p⟩:=F9 c k m;refine⟨.cons z n o,λs hs=>?_⟩;rcases(ao.mp hs)with rfl|hs
    .exact i.2
    .exact p s hs
theorem NG (z:Str)(b:List Str):Txt.join z b=bM z b:=by
 have go:∀(r:List Str) a,(r.foldl (λa p=>a++z.cps++p.cps) a).toList=a.toList++(r.map λp=>z.cps.toList++p.cps.toList).flatten:=by
  intro r
  induction r with
  |nil=>intro a;simp
  |cons p r c=>intro a;rw[List.foldl_cons,c];simp
 cases b with
 |nil=>rfl
 |cons x r=>
  have:=go r x.cps;show(⟨r.foldl (λa p=>a++z.cps++p.cps) x.cps⟩:Str)=⟨(x.cps.toList++(r.map λp=>z.cps.toList++p.cps.toList).flatten).toArray⟩
  congr 1
  rw[<-this]
theorem NH (hz:Z1 z=Z7)(h:∀s∈ss,Z1 s=Z7):Z1 (bM z ss)=true:=
 strOk_iff.mpr λc hc=>by
  have fC:c∈cW z.cps.toList ss:=by simpa[bM]using hc
  cases ss with
  |nil=>simp[cW]at fC
  |cons x r=>
   simp only[cW,a8,List.mem_flatten,bb]at fC;rcases fC with fC|⟨l,⟨p,hp,rfl⟩,fC⟩
   .exact strOk_iff.mp (h x ax) c fC
   .rcases a8.mp fC with fC|fC
    .exact strOk_iff.mp hz c fC
    .exact strOk_iff.mp (h p (av _ hp)) c fC
theorem NI:MtR X "str.join" (rMt X.K "join"):=by
 rintro c s o H x p v r Q I g rs ⟨B,w,dx,y,d,f,h,e,q⟩
 simp only[mtD,show("join":String)≠"get" by decide,if_true,if_false]at e;split at e
 .rename_i z A;split at e
  case h_2=>cases e
  rename_i C b;split at e
  case isFalse=>cases e
  rename_i i;cases e;obtain⟨D,rfl,j⟩:=ud h;obtain⟨a,E,rfl,l,rl⟩:=oG j;obtain⟨u,rfl,rfl⟩:=vals1 rs;have ex:=f.1;subst ex;obtain⟨t,rfl⟩:=g;obtain⟨m,n,pl,_⟩:=I.list l;obtain⟨sa,ok⟩:=F9 b rl n;refine join_list pl.isList (by simpa using sa) (bh i (by unfold LIM;decide)) λF k=>?_;rw[NG];exact⟨.str _,H,I.tok _,⟨_,rfl⟩,q _ H (Same.refl H) ⟨rfl,NH f.2 ok⟩⟩
 .cases e
theorem NJ (r:Rep X.K H B x dx)(e:mtD "join" dx ds=.ok d):tyV X.K "str" x H:=by
 simp only[mtD,show("join":String)≠"get" by decide,if_true,if_false]at e;split at e
 .have ex:x=.str _:=r.1;subst ex;exact rfl
 .cases e
end
theorem NK (h:kU y=Z9 c):y=⟨#[c]⟩:=by
 obtain⟨⟨l⟩⟩:=y
 match l,h with
 | [d],h=>cases h;rfl
theorem Ga (c:Nat):∀p r,c∉p->aV c (p++c::r)=p::aV c r
 | [],r,_=>by show aV c (c::r)=_;rw[aV,qe rfl]
 |a::p,r,h=>by rw[ao,not_or]at h;show aV c (a::(p++c::r))=_;rw[aV,qf (λe=>h.1 e.symm),Ga c p r h.2]
theorem Gb (c:Nat):∀p,c∉p->aV c p=[p]
 | [],_=>rfl
 |a::p,h=>by rw[ao,not_or]at h;rw[aV,qf (λe=>h.1 e.symm),Gb c p h.2]
theorem Ge (c:Nat):∀ps,ps≠ []->(∀p∈ps,c∉p.cps.toList)->aV c (Str.join ⟨#[c]⟩ ps).cps.toList=ps.map λp=>p.cps.toList
 | [],h,_=>absurd rfl h
 | [p],_,h=>Gb c _ (h p (.head _))
 |p::q::r,_,h=>by
  have e:(Str.join ⟨#[c]⟩ (p::q::r)).cps.toList=p.cps.toList++c::(Str.join ⟨#[c]⟩ (q::r)).cps.toList:=by show((p.cps++#[c])++(Str.join ⟨#[c]⟩ (q::r)).cps).toList=_;simp
  rw[e,Ga c _ _ (h p (.head _)),Ge c (q::r) (λz=>nomatch z) λz a=>h z (.tail _ a)];rfl
theorem Gf (x:Str)(c:Nat):(Txt.split x ⟨#[c]⟩).map (λp=>p.cps.toList)=aV c x.cps.toList:=by have h:=Ge c (Txt.split x ⟨#[c]⟩) (λz=>by have:=split_pos x ⟨#[c]⟩;rw[z]at this;exact absurd this dc) (StrLaws.split_free x c);rw[StrLaws.join_split]at h;exact h.symm
theorem NL (x:Str):toS x.cps.toList=x:=by obtain⟨a⟩:=x;show(⟨a.toList.toArray⟩:Str)=_;rw[nk]
theorem NM (x:Str)(c:Nat):(aV c x.cps.toList).map (λl=>Z0 (toS l))=(Txt.split x ⟨#[c]⟩).map .str:=by rw[<-Gf,ci];exact n4 λp _=>by show Z0 (toS p.cps.toList)=_;rw[NL]
theorem NO {l:List Nat}(h:∀c∈m,c∈l)(ok:Z1 ⟨l.toArray⟩=Z7):Z1 (toS m)=true:=
 strOk_iff.mpr fun c hc=>strOk_iff.mp ok c (by have a:c∈m:=by simpa[toS]using hc
                                               simpa using h c a)
theorem NP (ok:Z1 x=Z7):Z1 ⟨x.cps.toList.toArray⟩=true:=by rw[nk];exact ok
theorem yC (c:Nat):∀l p,p∈aV c l->∀d∈p,d∈l
 | [],p,h,d,hd=>by rw[ar.mp h]at hd;exact hd
 |a::l,p,h,d,hd=>by
  rw[aV]at h;split at h
  .rcases ao.mp h with rfl|h
   .cases hd
   .exact .tail _ (yC c l p h d hd)
  .cases e:aV c l with
   |nil=>rw[e]at h;rw[ar.mp h]at hd;rw[ar.mp hd];exact .head _
   |cons q t=>
    rw[e]at h;rcases ao.mp h with rfl|h
    .rcases ao.mp hd with rfl|hd
     .exact .head _
     .exact .tail _ (yC c l q (e▸ .head _) d hd)
    .exact .tail _ (yC c l p (e▸ .tail _ h) d hd)
section
variable {X:Cx}{o e:Expr}{fa fb:Rho->Res GD}
def NQ (K:Z5):V->List V->Hp->VK->Prop:=λx xs H Q=>∃z c,x=.str z/\xs=[.str ⟨#[c]⟩]/\Z1 z=Z7/\z.length<=LIM/\∀w H',Same H H'->Rep K H' (nw H) w (.list ((aV c z.cps.toList).map λl=>.str (toS l)))->Q w H'
theorem Gh:∀l,Vals ((l.map (·.1)).map V.str) (strValues l)
 | []=>.nil
 |p::l=>.cons ⟨_,rfl⟩ (Gh l)
theorem Gi {K:Z5}:∀(l:List Str),(∀p∈l,Z1 p=Z7)->Reps K H B (l.map V.str) (l.map Z0)
 | [],_=>rfl
 |p::l,h=>⟨_,_,rfl,⟨rfl,h p (.head _)⟩,Gi l λq a=>h q (.tail _ a)⟩
theorem NR:MtR X "str.split" (NQ X.K):=by
 intro pins s σ H x A v us Q I w rs h;obtain⟨z,c,rfl,rfl,ok,B,q⟩:=h;obtain⟨t,rfl⟩:=w;obtain⟨u,rfl,g,rfl⟩:=vals1 rs;have C:LIM=1000000:=rfl;have hs:=bz
 have hok:∀p∈Txt.split z ⟨#[c]⟩,Z1 p=true:=λp d=>by
  have i:p.cps.toList∈aV c z.cps.toList:=by rw[<-Gf];exact bb.mpr ⟨p,d,rfl⟩
  have:=NO (yC c _ _ i) (NP ok);exact this
 have hN:=split_le z ⟨#[c]⟩;have d:=I.hok.fresh (ah _)
 have a:∀(l:List (Str×Tok)) (m:Nat),l.map (·.1)=Txt.split z ⟨#[c]⟩->EP X pins σ Q (.ref s.heap.objs.size) {s with toks:=m,heap:=s.heap.push {cls:=.type "list",data:=.seq (strValues l).toArray}}:=λl m y=>by
  have n:=Gh l;rw[y]at n;refine⟨.ref _,_,I.laid (o:=.lst ((Txt.split z ⟨#[c]⟩).map V.str)) (λb ob q=>ak _ q) (ah _) ⟨?_,_,0,n,a7 _ rfl⟩,rfl,q _ _ (Same.upd d) ?_⟩
  .rw[ai];omega
  .rw[NM];exact qP d (Gi _ hok) (λ_ z=>z) d
 have r:((⟨#[c]⟩:Str).length==0)=false:=rfl;have j:=ow s z t;by_cases e:(decide (z.length<(⟨#[c]⟩:Str).length)||decide (n6 z<n6 ⟨#[c]⟩))=Z7
 .refine ja F.slot_str_split j F.entry_str_split (F.args_str_split_2 _ _) (meets_str_split_cannot_occur z _ t g e) ?_;exact a [(z,t)] s.toks (by show[z]=_;unfold Txt.split;rw[qe e])
 have f:=eq_false_of_ne_true e;by_cases hf:(lw z ⟨#[c]⟩ 0 z.length (z.length+1)).isEmpty=Z7
 .refine ja F.slot_str_split j F.entry_str_split (F.args_str_split_2 _ _) (meets_str_split_not_found z _ t g f r hf) ?_;exact a [(z,t)] s.toks (by show[z]=_;unfold Txt.split;rw[qf e,qe hf])
 have k:=eq_false_of_ne_true hf;have es:Txt.split z ⟨#[c]⟩=Builtin.Str.partsBetween z (lw z ⟨#[c]⟩ 0 z.length (z.length+1)) (⟨#[c]⟩:Str).length:=by unfold Txt.split;rw[qf e,qf hf]
 refine ja F.slot_str_split j F.entry_str_split (F.args_str_split_2 _ _) (meets_str_split_sep z _ t g f r k (by omega) (by grind)) ?_;have:=a (numbered s.toks (Txt.split z ⟨#[c]⟩)) (s.toks+(Txt.split z ⟨#[c]⟩).length) (numbered_texts _ _);rw[<-strsFrom_eq,es]at this;exact this
theorem NS (h:fW a b=.ok d):∃x c,a=.str x/\b=.str ⟨#[c]⟩/\x.length<=LIM/\d=.list ((aV c x.cps.toList).map λl=>.str (toS l)):=by
 cases a<;>cases b<;>try (cases h;done)
 rename_i x y;change(match kU y with|some c=>if decide (x.length<=LIM)=Z7 then Res.ok (ZZ ((aV c x.cps.toList).map λl=>.str (toS l)))else .no|none=>.no)=_ at h;cases e:kU y with
 |none=>rw[e]at h;cases h
 |some c=>
  rw[e]at h
  dsimp only at h
  split at h
  .rename_i f;cases h;exact⟨x,c,rfl,by rw[NK e],qj f,rfl⟩
  .cases h
theorem zss (n:PE X o (tD X.K fa))(p:PE X e (tD X.K fb))(g:z0v o=Z7)(b:isStar e=Z6)(f:(apos.endLine==cpos.line)=Z7):
  PE X (.Call (.Attribute o "split" apos) [e] [] cpos) (tD X.K λρ=>fa ρ>>=λx=>fb ρ>>=λy=>fW x.2 y.2>>=λd=>.ok (.fr,d)):=by
 have h:([e].all λe=>!isStar e)=true:=by simp[b]
 refine PE.imp (za9 PySem.F.plainAttrs_str PySem.F.slot_str_split PySem.F.type_str_split NR n (EL p kO (dX b)) (mQ g) (z3a h (by show 1<20;omega)) f (dX b) rfl) λσ H Q r=>?_;obtain⟨ρ,F,z,j,e,q⟩:=r;obtain⟨x,s,e⟩:=Res.aA e;obtain⟨y,t,e⟩:=Res.aA e;obtain⟨d,u,e⟩:=Res.aA e;cases e;obtain⟨A,dx⟩:=x;obtain⟨B,L⟩:=y;obtain⟨k,c,rfl,rfl,C,rfl⟩:=NS u;refine⟨ρ,F,(A,.str k),j,s,λv H1 s1 l=>?_⟩;have ev:=l.1;subst ev;refine⟨rfl,ρ,F,(B,.str ⟨#[c]⟩),j.same s1,t,λw M m i=>?_⟩;have D:=i.1;subst D;exact⟨k,c,rfl,rfl,l.2,C,λw E G I=>q w E ((s1.trans m).trans G) (I.weak λa J=>nw.back (s1.trans m) J)⟩
theorem NT:CallR X (.type "int") (λxs H Q=>∃x,xs=[.str x]/\mV x.cps.toList=Z7/\x.length<=600/\Q (.int (hX x.cps.toList:Int)) H):=by
 rintro pins s σ H xs us Q I r ⟨x,rfl,hf,hl,q⟩
 obtain⟨u,rfl,t,rfl⟩:=vals1 r;unfold mV at hf;rw[aw]at hf;have hd:=λc hc=>by have:=be.mp hf.2 c hc;rw[aw,decide_eq_true_iff,decide_eq_true_iff]at this;exact this
 exact W.KIN.call_text (intText_digits hd (λz=>by rw[z]at hf;cases hf.1) (by omega)) (by omega) ⟨.int _,H,I.tok _,⟨_,rfl⟩,q⟩
end
def bX (F:Fm)(H:Hp)(F':Fm)(H':Hp):Prop:=∀a o,H a=Z9 o->F.O a=Z8->H' a=Z9 o/\F'.O a=Z8
theorem bX.refl:bX F H F H:=λ_ _ e o=>⟨e,o⟩
theorem bX.trans (a:bX F H f g)(b:bX f g c d):bX F H c d:=λx o e n=>by obtain⟨h,n1⟩:=a x o e n;exact b x o h n1
theorem bX.same (s:Same H b):bX F H F b:=λa o e n=>⟨s a o e,n⟩
def Run (F F':Fm):Prop:=Same F.H0 F'.H0/\F'.V=F.V/\F'.z=F.z
theorem Run.refl:Run F F:=⟨λ_ _ e=>e,rfl,rfl⟩
theorem Run.trans (a:Run F d)(b:Run d c):Run F c:=⟨λx o e=>b.1 x o (a.1 x o e),b.2.1.trans a.2.1,b.2.2.trans a.2.2⟩
theorem Run.of (h:a.H0=F.H0)(v:a.V=F.V)(z:a.z=F.z):Run F a:=⟨λ_ _ e=>by rw[h];exact e,v,z⟩
def BR (F:Fm):G->Ad->Prop
 |.fr=>λa=>match a with|some a=>F.H0 a=Z8|none=>False
 |.od=>bU F
 |.al=>bU F
 |.nu=>λa=>match a with|some a=>F.H0 a=Z8|none=>False
def sO (K:Z5)(F:Fm)(H:Hp)(D:Ends):Out->Prop
 |.nx aN=>∀bA H' F',StOk K F' H' bA aN->Run F F'->bX F H F' H'->D.nx bA H'
 |.bk aN=>∀bA H' F',StOk K F' H' bA aN->Run F F'->bX F H F' H'->D.bk bA H'
 |.ct aN=>∀bA H' F',StOk K F' H' bA aN->Run F F'->bX F H F' H'->D.ct bA H'
 |.rt g d=>∀v H',(∀a o,F.H0 a=Z9 o->H' a=Z9 o)->Rep K H' (BR F g) v d->D.rt v H'
def tDS (K:Z5)(f:Rho->Res Out):TS:=λD σ H=>∃ρ F out,StOk K F H σ ρ/\f ρ=.ok out/\sO K F H D out
theorem none_of (s:Same H b)(h:b a=Z8):H a=none:=by
 cases e:H a with
 |none=>rfl
 |some o=>rw[s a o e]at h;cases h
theorem BR.run (r:Run F c)(h:BR c g a):BR F g a:=by obtain⟨d,e,f⟩:=r;cases g<;>cases a<;>first|exact h|(exact none_of d h)|(have b:c.V _:=h;rw[e]at b;exact b)|(have b:c.z:=h;rw[f]at b;exact b)
theorem sO.back {K:Z5}{D:Ends}(r:Run F q)(f:bX F H q H')(h:sO K F H D l):sO K q H' D l:=by
 cases l with
 |nx m=>exact λc i j n p f2=>h c i j n (r.trans p) (f.trans f2)
 |bk m=>exact λc i j n p f2=>h c i j n (r.trans p) (f.trans f2)
 |ct m=>exact λc i j n p f2=>h c i j n (r.trans p) (f.trans f2)
 |rt g d=>exact λv i k s=>h v i (λa o e=>k a o (r.1 a o e)) (s.weak λ_ b=>b.run r)
section
variable {X:Cx}{tg a b c e:Expr}{es:List Expr}{fa fb fc:Rho->Res GD}{pos:Pos}{st:Stmt}{rest A Bs:List Stmt}{fs gs:Rho->Res Out}
theorem NU:PSs X [] (tDS X.K λa=>.ok (.nx a)):=PSs.imp Ew λD b H ⟨a,F,c,so,e,q⟩=>by cases e;exact q b H F so Run.refl bX.refl
theorem NV (h1:PS X st (tDS X.K fs))(h2:PSs X rest (tDS X.K gs)):PSs X (st::rest) (tDS X.K λρ=>pC (fs ρ) gs):=
 PSs.imp (Ey h1 h2) λD σ H zz=>by
  obtain⟨ρ,F,out,so,e,q⟩:=zz;have e:pC (fs ρ) gs=.ok out:=e;cases e1:fs ρ with
  |no=>rw[e1]at e;cases e
  |ok o1=>
   rw[e1]at e;cases o1 with
   |nx ρ1=>exact⟨ρ,F,.nx ρ1,so,e1,λbA H' F' j' r f=>⟨ρ1,F',out,j',e,q.back r f⟩⟩
   |bk ρ1=>cases e;exact⟨ρ,F,.bk ρ1,so,e1,q⟩
   |ct ρ1=>cases e;exact⟨ρ,F,.ct ρ1,so,e1,q⟩
   |rt g d=>cases e;exact⟨ρ,F,.rt g d,so,e1,q⟩
theorem NY:PS X (.Continue pos) (tDS X.K λρ=>.ok (.ct ρ)):=PS.imp KC λD σ H ⟨ρ,F,a,b,e,q⟩=>by cases e;exact q σ H F b Run.refl bX.refl
theorem BA (hc:PT X c (dS X.K ft))(f:PSs X A (tDS X.K fs))(g:PSs X h (tDS X.K gs)):PS X (.If c A h pos) (tDS X.K λa=>ft a>>=λk=>if k then fs a else gs a):=
 PS.imp (Ez hc f g) λD j H ⟨a,F,b,so,e,q⟩=>by
  obtain⟨k,i,e⟩:=Res.aA e;refine⟨a,F,k,so,i,λl d=>?_⟩;cases k with
  |true=>exact bE ⟨a,F,b,so.same d,e,q.back Run.refl (bX.same d)⟩
  |false=>exact bC ⟨a,F,b,so.same d,e,q.back Run.refl (bX.same d)⟩
theorem NZ {K:Z5}(so:∀a o,F.H0 a=Z9 o->H a=Z9 o)(hv:∀a,H a=Z8->F.V a)(r:Rep K H' (BG F H g) v d):Rep K H' (BR F (i' g)) v d:=by
 refine r.weak λa b=>?_;cases g with
 |fr=>
  cases a with
  |none=>exact b
  |some a=>exact Same.none so b
 |od=>exact fX.aO b
 |al=>exact b
 |nu=>
  cases a with
  |none=>exact b.elim id id
  |some a=>exact b.elim (λb=>Same.none so b) λb=>b.2.1
theorem N5 (c:PE X e (tD X.K fa)):PS X (.Return (Z9 e) pos) (tDS X.K λb=>fa b>>=λx=>.ok (.rt (i' x.1) x.2)):=PS.imp (Af c) λD j H ⟨b,F,d,so,e,q⟩=>by obtain⟨x,f,e⟩:=Res.aA e;cases e;exact⟨b,F,x,so,f,λv g h i=>q v g (λa o e=>h a o (so.ext a o e)) (NZ so.ext so.aO i)⟩
theorem Slot.ret {K:Z5}(so:∀a i,F.O a=Z9 i->F.H0 a=Z8/\F.V a)(h:Slot K F H i g v d):Rep K H (BR F (if imm d then .fr else i' g)) v d:=by
 by_cases c:imm d=Z7
 .rw[qe c];exact Rep.bS d c (h.rep λa i e=>(so a i e).2)
 .rw[qf c];cases g with
  |fr=>
   obtain⟨p,e,o,h⟩:=h
   have k:∀a,Bin F a->BR F .fr a:=λa b=>by
    cases a with
    |none=>exact b
    |some a=>exact b.2.1
   rcases h with⟨f,l,rfl,j,r⟩|⟨f,l,rfl,j,r⟩
   .exact⟨p,f,e,.inl ⟨j,(so _ _ o).1⟩,r.weak k⟩
   .exact⟨p,f,e,j,(so _ _ o).1,bG.same (λ_ _ e=>e) k r⟩
  |od=>exact Rep.weak (λ_ b=>b.aO) h
  |al=>exact h
  |nu=>
   refine Rep.weak (λa b=>?_) h;cases a with
   |none=>exact b
   |some a=>exact b.2.1
theorem z8x {i:Nat}(hN:X.N[i]?=Z9 x)(j:Vis X.env.scope x)(hd:VB x)(c:(x==("__classdict__":Str))=Z6):
  PS X (.Return (Z9 (.Name x p)) pos) (tDS X.K λb=>match b[i]? with|some (Z9 (g,d))=>.ok (.rt (if imm d then .fr else i' g) d)|_=>.no):=
 PS.imp (Af (mM hN j hd c)) λD m H ⟨b,F,f,so,e,q⟩=>by
  have e:(match b[i]? with|some (Z9 (g,d))=>Res.ok (Out.rt (if imm d then .fr else i' g) d)|_=>.no)=.ok f:=e;cases h:b[i]? with
  |none=>rw[h]at e;cases e
  |some o=>
   rw[h]at e;cases o with
   |none=>cases e
   |some gd=>obtain⟨g,d⟩:=gd;cases e;obtain⟨v,k,l⟩:=so.sl i g d h;exact⟨v,k,q v H so.ext (l.ret λa i e=>⟨(so.own a i e).1,(so.own a i e).2.1⟩)⟩
theorem bG.bS {K:Z5}:∀{kvs:List (Key×V)} es,kT es=Z7->bG K H B kvs es->bG K H B' kvs es
 |kvs,[],_,r=>r
 |kvs,(kd,d)::es,i,r=>by unfold kT at i;rw[b9,aq]at i;obtain⟨k,v,t,e,a,ok,h,q⟩:=r;exact⟨k,v,t,e,a,ok,Rep.bS d i.1 h,bG.bS es i.2 q⟩
theorem StOk.gL {K:Z5}(so:StOk K F H d ρ){a:Ad}(h:nw H a):Bin F a:=by
 cases a with
 |none=>exact h
 |some a=>
  refine⟨?_,Same.none so.ext h,so.aO a h⟩;cases b:F.O a with
  |none=>rfl
  |some j=>obtain⟨_,_,z⟩:=so.own a j b;rcases z with⟨c,z⟩|⟨c,z⟩<;>rw[h]at z<;>cases z
theorem StOk.BB {K:Z5}(so:StOk K F H σ ρ)(r:Rep K H (Bin F) v d):StOk K (F.drop i) H (σ.set i (Z9 v)) (ρ.set i (Z9 (.nu,d))):=by
 have z:=so.lD (i:=i) (x:=(.al,d)) (Rep.weak (λ_ b=>Bin.aO b) r);refine⟨z.ext,z.aO,z.own,by rw[dw,dw];exact so.len,λj g d' e=>?_⟩;by_cases hj:i=j
 .subst hj;rw[dq]at e;simp only[if_true]at e;split at e
  .rename_i hl;cases e;exact⟨v,by rw[dq];simp[so.len,hl],Rep.weak (λ_ b=>b.drop) r⟩
  .cases e
 .refine z.sl j g d' ?_;rw[cu hj]at e ⊢;exact e
def Fm.take (F:Fm)(i:Nat)(p:Addr):Fm:={F with O:=λa=>if a=p then Z9 i else if F.O a=Z9 i then Z8 else F.O a}
theorem bX.drop (s:Same H H'):bX F H (F.drop i) H':=λa o e n=>⟨s a o e,Fm.bR n⟩
theorem StOk.setA {K:Z5}(so:StOk K F H Q R)(t:Same H s)(r:Rep K s (BG F H x.1) v x.2):
  ∃f,StOk K f s (Q.set i (Z9 v)) (R.set i (Z9 (z1b x)))/\Run F f/\bX F H f s:=by
 have w:=so.same t;obtain⟨g,d⟩:=x
 have l:z1b (g,d)=lV (if imm d then .al else Fy g,d)->∃f,StOk K f s (Q.set i (Z9 v)) (R.set i (Z9 (z1b (g,d))))/\Run F f/\bX F H f s:=λe=>by
  rw[e];refine⟨F.drop i,w.lD ?_,Run.of rfl rfl rfl,bX.drop t⟩;by_cases k:imm d=Z7
  .rw[qe k];exact Rep.bS d k r
  .rw[qf k];cases g with
   |fr=>exact r.weak λ_ b=>nw.aO so.aO b
   |od=>exact r
   |al=>exact r
   |nu=>exact r.weak λ_ b=>b.elim (nw.aO so.aO) Bin.aO
 have A:z1b (g,d)=(.nu,d)->(∀a,BG F H g a->Bin F a)->∃f,StOk K f s (Q.set i (Z9 v)) (R.set i (Z9 (z1b (g,d))))/\Run F f/\bX F H f s:=λe E=>by rw[e];exact⟨F.drop i,w.BB (Rep.weak E r),Run.of rfl rfl rfl,bX.drop t⟩
 have own:∀p,F.O p=Z8->H p=Z8->F.H0 p=Z8->F.V p->v=.ref p->z1b (g,d)=(.fr,d)->(∀f,(∀a,Bin F a\/nw H a->a≠Z9 p->Bin f a)->f.O p=Z9 i->Slot K f s i .fr v d)->(((∃I,s p=Z9 (.lst I))\/∃kvs,s p=Z9 (.dK kvs)))->
   ∃f,StOk K f s (Q.set i (Z9 v)) (R.set i (Z9 (z1b (g,d))))/\Run F f/\bX F H f s:=λp U c X Y ev es Z J=>by
  have B:∀a,a≠p->(F.take i p).O a=(F.drop i).O a:=λa ha=>by show(if a=p then Z9 i else _)=_;rw[qf ha];rfl
  have N6:∀a,H a=Z8->F.O a=none:=λa e=>by
   cases C:F.O a with
   |none=>rfl
   |some j=>obtain⟨_,_,h⟩:=so.own a j C;rcases h with⟨I,h⟩|⟨I,h⟩<;>rw[e]at h<;>cases h
  have y:∀a,Bin F a\/nw H a->a≠Z9 p->Bin (F.take i p) a:=λa b sP=>by
   cases a with
   |none=>exact b.elim id id
   |some a=>have q:a≠p:=λz=>sP (by rw[z]);have E:=b.elim id λb=>⟨N6 a b,(λa e=>Same.none so.ext e) a b,so.aO a b⟩;exact⟨by rw[B a q];exact Fm.bR E.1,E.2⟩
  have L:(F.take i p).O p=Z9 i:=by show(if p=p then Z9 i else _)=_;rw[qe rfl]
  refine⟨F.take i p,⟨w.ext,w.aO,λa j e=>?_,by rw[dw,dw];exact so.len,λj g' d' e=>?_⟩,Run.of rfl rfl rfl,λa o e n=>⟨t a o e,?_⟩⟩
  .by_cases q:a=p
   .subst q;exact⟨X,Y,J⟩
   .rw[B a q]at e
    have e':F.O a=Z9 j:=by
     have:(if F.O a=Z9 i then Z8 else F.O a)=Z9 j:=e;split at this
     .cases this
     .exact this
    exact w.own a j e'
  .by_cases hj:i=j
   .subst hj;rw[dq]at e;simp only[if_true]at e;split at e
    .rename_i hl;have C:z1b (g,d)=(g',d'):=by simpa using e
     rw[es]at C;cases C;exact⟨v,by rw[dq];simp[so.len,hl],Z _ y L⟩
    .cases e
   .rw[cu hj]at e ⊢;obtain⟨u,h1,S⟩:=so.sl j g' d' e;refine⟨u,h1,?_⟩;cases g' with
    |fr=>
     obtain⟨T,C,o1,h3⟩:=S;refine⟨T,C,?_,?_⟩
     .rw[B T (λz=>by rw[z,U]at o1;cases o1)];show(if F.O T=Z9 i then Z8 else F.O T)=Z9 j;rw[o1,qf (λz=>hj (qg z).symm)]
     .have M:∀a,Bin F a/\¬nw H a->Bin (F.take i p) a:=λa b=>y a (.inl b.1) λz=>b.2 (z▸c);rcases h3 with⟨G,D,e3,e2,r3⟩|⟨G,D,e3,e2,r3⟩
      .exact .inl ⟨G,D,e3,t _ _ e2,Reps.same t M (Reps.there _ r3)⟩
      .exact .inr ⟨G,D,e3,t _ _ e2,bG.same t M (bG.there _ r3)⟩
    |od=>exact Rep.same t (λ_ b=>b) S
    |al=>exact Rep.same t (λ_ b=>b) S
    |nu=>exact Rep.same t (λa b=>y a (.inl b.1) λz=>b.2 (z▸c)) (Rep.there _ S)
  .have q:a≠p:=λz=>by rw[z,c]at e;cases e
   rw[B a q];exact Fm.bR n
 have N:∀p,H p=Z8->F.O p=none:=λp c=>by
  cases C:F.O p with
  |none=>rfl
  |some j=>obtain⟨_,_,P⟩:=so.own p j C;rcases P with⟨I,P⟩|⟨I,P⟩<;>rw[c]at P<;>cases P
 by_cases k:imm d=Z7
 .exact l (by show(if imm d then _ else _)=_;rw[qe k];rw[qe k];rfl)
 .cases g with
  |od=>exact l (by delta z1b;simp only[qf k];rfl)
  |al=>exact l (by delta z1b;simp only[qf k];cases d<;>rfl)
  |nu=>exact A (by delta z1b;simp only[qf k]) λa b=>b.elim so.gL id
  |fr=>
   cases d with
   |none=>exact absurd rfl k
   |bool b=>exact absurd rfl k
   |int b=>exact absurd rfl k
   |str b=>exact absurd rfl k
   |tuple D=>exact A (by delta z1b;simp only[qf k]) λa b=>so.gL b
   |list D=>
    by_cases m:imms D=Z7
    .obtain⟨p,G,ev,h,rs⟩:=r;rcases h with⟨h,b⟩|⟨_,b⟩
     .have c:H p=none:=b;exact own p (N p c) c (Same.none so.ext c) (so.aO p c) ev (by delta z1b;simp only[qf k,qe m]) (λf E ho=>⟨p,ev,ho,.inl ⟨G,D,rfl,h,Reps.bS D m rs⟩⟩) (.inl ⟨G,h⟩)
     .exact b.elim
    .exact A (by delta z1b;simp only[qf k,qf m]) λa b=>so.gL b
   |dict es=>
    by_cases m:kT es=Z7
    .obtain⟨p,kvs,ev,h,b,rs⟩:=r;have c:=b;exact own p (N p c) c (Same.none so.ext c) (so.aO p c) ev (by delta z1b;simp only[qf k,qe m]) (λf E ho=>⟨p,ev,ho,.inr ⟨kvs,es,rfl,h,bG.bS es m rs⟩⟩) (.inr ⟨kvs,h⟩)
    .exact A (by delta z1b;simp only[qf k,qf m]) λa b=>so.gL b
theorem Gj {K:Z5}{te:TE}(h:∀a H Q,tD K fa a H Q->te a H Q)(D:Ends)(a:L2.St)(H:Hp)(q:tDS K (λb=>fa b>>=λx=>.ok (.nx (b.set i (Z9 (z1b x))))) D a H):te a H λv c=>D.nx (a.set i (Z9 v)) c:=by obtain⟨b,F,g,so,e,q⟩:=q;obtain⟨x,j,e⟩:=Res.aA e;cases e;refine h a H _ ⟨b,F,x,so,j,λv c k l=>?_⟩;obtain⟨m,d,r,f⟩:=so.setA k l;exact q _ c m d r f
theorem zm9 (hN:X.N.Nodup)(b:X.N[i]?=Z9 x)(c:Loc X.env.scope x)(d:Sto X x)(hs:jc e (Z9 (.Name x px)) pos.line X.env=pure Z6)(f:PE X e (tD X.K fa)):
  PS X (.Assign [.Name x px] e pos) (tDS X.K λa=>fa a>>=λx=>.ok (.nx (a.set i (Z9 (z1b x))))):=
 PS.imp (z99 hN b c f hs d) λD g H q=>Gj (λ_ _ _ h=>h) D g H q
theorem zm3 (j:PG X te (tDG X.K (.tp is)))(k:PE X e (tD X.K fa))(hs:oh [te] e pos.line X.env=pure Z6)(l:oj [te] e X.env=pure Z8)(m:(eo [te] X.env).map (·.2)=[oo te X.env]):
  PS X (.Assign [te] e pos) (tDS X.K λf=>fa f>>=λx=>eZ (.tp is) x f>>=λd=>.ok (.nx d)):=
 PS.imp (zm0 k j hs l m) λD y H ⟨f,F,p,so,e,q⟩=>by obtain⟨x,r,e⟩:=Res.aA e;obtain⟨d,s,e⟩:=Res.aA e;cases e;refine⟨f,F,x,so,r,λv t i u=>⟨f,F,x,d,so.same i,u.weak λ_ b=>BI.of so.aO b,s,λg w h c=>?_⟩⟩;exact q g t w h (Run.of c.h0 c.v c.z) λa o e n=>⟨i a o e,c.o a n⟩
theorem yD {K:Z5}(so:StOk K F H σ ρ)(h:okIn y=Z7)(r:Rep K H1 (BG F H y.1) u y.2):Rep K H1 (Bin F) u y.2:=by
 obtain⟨g,d⟩:=y;rcases ew.mp h with hi|hg
 .exact Rep.bS d hi r
 rcases ew.mp hg with h|h
 .cases eq_of_beq h;exact Rep.weak (λa b=>so.gL b) r
 .cases eq_of_beq h;exact Rep.weak (λa b=>b.elim so.gL id) r
theorem StOk.mutate {K:Z5}(so:StOk K F H σ ρ)(hO:F.O p=Z9 i)(hσ:σ[i]?=Z9 (Z9 (.ref p)))(ho':(∃xs,o'=.lst xs)\/∃kvs,o'=.dK kvs)
  (hs:Slot K F (upd H p o') i .fr (.ref p) d'):StOk K F (upd H p o') σ ((ρ.set i (Z9 (.fr,d'))).map z08)/\bX F H F (upd H p o'):=by
 obtain⟨h0,hV,rO⟩:=so.own p i hO;have sP:∀a,F.O a=Z8->a≠p:=λa e z=>by rw[z,hO]at e;cases e
 have pL:∀a o,H a=Z9 o->Fix o->a≠p:=λa o e f z=>by subst z;rcases rO with⟨xs,h⟩|⟨xs,h⟩<;>rw[e]at h<;>cases h<;>exact f
 refine⟨⟨λa o e=>?_,λa e=>?_,λa j e=>?_,by rw[ai,dw];exact so.len,λj g d e=>?_⟩,(λa o e n=>⟨by rw[aL (sP a n)];exact e,n⟩)⟩
 .have jM:a≠p:=λz=>by rw[z,h0]at e;cases e
  rw[aL jM];exact so.ext a o e
 .by_cases jM:a=p
  .subst jM;exact hV
  .rw[aL jM]at e;exact so.aO a e
 .obtain⟨x1,x2,x3⟩:=so.own a j e;refine⟨x1,x2,?_⟩;by_cases jM:a=p
  .subst jM;rw[bL];rcases ho' with⟨xs,rfl⟩|⟨xs,rfl⟩
   .exact .inl ⟨xs,rfl⟩
   .exact .inr ⟨xs,rfl⟩
  .rw[aL jM];exact x3
 .rw[bu]at e;by_cases hj:i=j
  .subst hj;have hl:i<ρ.length:=by rw[<-so.len];exact(cj.mp hσ).1
   rw[dq]at e;simp only[if_true,hl]at e;cases(by simpa using e);exact⟨_,hσ,hs⟩
  .rw[cu hj]at e;cases e2:ρ[j]? with
   |none=>rw[e2]at e;cases e
   |some sl=>
    rw[e2]at e;have e3:z08 sl=Z9 (g,d):=by simpa using e
    cases sl with
    |none=>cases e3
    |some gd=>
     obtain⟨g0,d0⟩:=gd;obtain⟨v,h1,h2⟩:=so.sl j g0 d0 e2;refine⟨v,h1,?_⟩;cases g0 with
     |fr=>
      cases e3;obtain⟨p',e4,o4,h3⟩:=h2;have Gk:p'≠p:=λz=>by rw[z,hO]at o4;simp_all
      have hk:∀a o,H a=Z9 o->(Bin F (Z9 a)\/Fix o)->upd H p o' a=Z9 o:=λa o e b=>by have:a≠p:=b.elim (λb=>sP a b.1) λf=>pL a o e f;rw[aL this];exact e
      refine⟨p',e4,o4,?_⟩;rcases h3 with⟨vs,ds,e5,e6,r⟩|⟨vs,ds,e5,e6,r⟩
      .exact .inl ⟨vs,ds,e5,by rw[aL Gk];exact e6,Reps.keep hk (λ_ z=>z) ds r⟩
      .exact .inr ⟨vs,ds,e5,by rw[aL Gk];exact e6,bG.keep hk (λ_ z=>z) ds r⟩
     |od=>cases e3;exact Rep.keep (λa o e b=>by have:a≠p:=b.elim (λb z=>by have b1:F.H0 a≠Z8/\F.V a:=b;rw[z]at b1;exact b1.1 h0) λf=>pL a o e f;rw[aL this];exact e) (λ_ z=>z) _ h2
     |nu=>cases e3;exact Rep.keep (λa o e b=>by have:a≠p:=b.elim (λb=>sP a b.1) λf=>pL a o e f;rw[aL this];exact e) (λ_ z=>z) _ h2
     |al=>
      change(if imm d0 then Z9 (G.al,d0)else Z8)=_ at e3;split at e3
      .rename_i BD;cases e3;exact Rep.bT (λa o e f=>by rw[aL (pL a o e f)];exact e) _ BD h2
      .cases e3
theorem vU {K:Z5}(so:StOk K F H σ ρ)(e:ρ[i]?=Z9 (Z9 (.fr,d))):∃p,σ[i]?=Z9 (Z9 (.ref p))/\F.O p=Z9 i/\((∃vs ds,d=.list ds/\H p=Z9 (.lst vs)/\Reps K H (Bin F) vs ds)\/(∃kvs es,d=.dict es/\H p=Z9 (.dK kvs)/\bG K H (Bin F) kvs es)):=by obtain⟨v,h1,p,rfl,o,h⟩:=so.sl i .fr d e;exact⟨p,h1,o,h⟩
def BE (m:String)(i:Nat)(fs:Rho->Res (List GD)):Rho->Res Out:=λρ=>fs ρ>>=λys=>match ρ[i]? with
 |some (Z9 (.fr,.list xs))=>mW m xs ys>>=λA4=>.ok (.nx ((ρ.set i (Z9 (.fr,.list A4))).map z08))
 |_=>.no
theorem zfa {fs:Rho->Res (List GD)}(hN:X.N[i]?=Z9 x)(C:Vis X.env.scope x)(hd:VB x)(l:(x==("__classdict__":Str))=Z6)(E:PA X (e::es) (tDA X.K fs))(g:((e::es).all fun e=>!isStar e)=Z7)(G:(e::es).length<20)(d:(I.endLine==J.line)=Z7):
  PS X (.Expr (.Call (.Attribute (.Name x p) "append" I) (e::es) [] J) pos) (tDS X.K (BE "append" i fs)):=by
 have c:=g;rw[b9,aq]at c;refine PS.imp (oY (za9 PySem.F.plainAttrs_list PySem.F.slot_list_append PySem.F.type_list_append yg (mM hN C hd l) E rfl (z3a g G) d (dX (by simpa using c.1)) (lU c.2)) rfl) λD L H M=>?_;obtain⟨P,F,Q,so,e,q⟩:=M;obtain⟨R,S,e⟩:=Res.aA e;split at e
 .rename_i T hr;obtain⟨U,f,e⟩:=Res.aA e;cases e;obtain⟨pa,v,m,h⟩:=vU so hr;rcases h with⟨j,ds,n,w,r⟩|⟨_,_,n,_⟩
  .cases n;refine⟨_,v,.inl ⟨rfl,j,SqL.of w⟩,P,F,R,so,S,λus V k rs=>?_⟩;simp only[mW,if_true]at f;split at f
   .rename_i y;split at f
    case isFalse=>cases f
    rename_i hc;cases f;rw[aw,decide_eq_true_iff]at hc;obtain⟨u,rfl,W⟩:=rs.one;have A:=k _ _ w;refine⟨pa,j,u,rfl,rfl,A,jZ (by rw[r.length];omega),?_⟩
    have Y:Reps X.K (upd V pa (.lst (j++[u]))) (Bin F) (j++[u]) (T++[y.2]):=by
     refine Reps.keep (λa o e b=>?_) (λ_ z=>z) _ (Reps.append (r.same k λ_ z=>z) ⟨u,[],rfl,yD so hc.1 W,rfl⟩)
     have s:a≠pa:=by
      intro z;subst z;rcases b with b|b
      .have B:F.O a=none:=b.1;rw[m]at B;cases B
      .rw[A]at e;cases e;exact b
     rw[aL s];exact e
    obtain⟨t,Z⟩:=(so.same k).mutate m v (.inl ⟨_,rfl⟩) ⟨pa,rfl,m,.inl ⟨_,_,rfl,bL,Y⟩⟩;exact q L _ F t Run.refl ((bX.same k).trans Z)
   .cases f
  .cases n
 .cases e
end
section
variable {X:Cx}{e:Expr}{es:List Expr}{pos:Pos}
theorem _root_.Mi.Reps.eraseIdx {K:Z5}:∀{vs:List V} {ds:List D} (n:Nat),Reps K H B vs ds->Reps K H B (vs.eraseIdx n) (ds.eraseIdx n)
 |vs,[],n,r=>by have e:vs=[]:=r;subst e;exact rfl
 |vs,d::ds,0,r=>by obtain⟨v,t,e,_,p⟩:=r;subst e;exact p
 |vs,d::ds,n+1,r=>by obtain⟨v,t,e,h,p⟩:=r;subst e;exact⟨v,_,rfl,h,Reps.eraseIdx n p⟩
end
section
variable {X:Cx}{pos:Pos}
def vV (j i:Nat):Rho->Res Out:=λρ=>match ρ[i]? with
 |some (Z9 (.fr,.list xs))=>(match lW xs with
  |some d=>.ok (.nx (((ρ.set i (Z9 (.fr,.list xs.dropLast))).map z08).set j (Z9 (.al,d))))
  |none=>.no)
 |_=>.no
def BF (i:Nat)(fa:Rho->Res GD)(fr:Rho->Res (List GD)):Rho->Res Out:=λρ=>fa ρ>>=λx=>match ρ[i]? with
 |some (Z9 (.fr,.list xs))=>(match lW xs with
  |some d=>fr ((ρ.set i (Z9 (.fr,.list xs.dropLast))).map z08)>>=λzs=>if imm x.2&&imms (zs.map (·.2))&&decide (xs.length<=LIM)then .ok (.nx ((((ρ.set i (Z9 (.fr,.list xs.dropLast))).map z08).set i (Z9 (.fr,.list (xs.dropLast++[.tuple (x.2::d::zs.map (·.2))])))).map z08))else .no
  |none=>.no)
 |_=>.no
theorem Gp (h:lW a=Z9 d):a[a.length-1]?=Z9 d/\imm d=true:=by
 unfold lW at h;split at h
 .rename_i y e;split at h
  .rename_i hi;cases h;rw[List.getLast?_eq_getElem?]at e;exact⟨e,hi⟩
  .cases h
 .cases h
theorem Reps.front {K:Z5}(r:Reps K H B vs a):Reps K H B vs.dropLast a.dropLast:=by rw[m5,m5,r.length];exact r.take _
theorem zca (j:StOk X.K F H σ ρ)(d:F.O c=Z9 i)(k:σ[i]?=Z9 (Z9 (.ref c)))(l:H c=Z9 (.lst vs))(m:Reps X.K H (Bin F) ws g):
  StOk X.K F (upd H c (.lst ws)) σ ((ρ.set i (Z9 (.fr,.list g))).map z08)/\bX F H F (upd H c (.lst ws)):=by
 have n:Reps X.K (upd H c (.lst ws)) (Bin F) ws g:=by
  refine Reps.keep (λa o e b=>?_) (λ_ z=>z) _ m
  have f:a≠c:=by
   intro z;subst z;rcases b with b|b
   .have h:F.O a=none:=b.1;rw[d]at h;cases h
   .rw[l]at e;cases e;exact b
  rw[aL f];exact e
 exact j.mutate d k (.inl ⟨_,rfl⟩) ⟨c,rfl,d,.inl ⟨_,_,rfl,bL,n⟩⟩
theorem s_pop {i j:Nat}{x y:Str}{p ap cp px:Pos}(hN:X.N.Nodup)(hj:X.N[j]?=Z9 y)(hy:Loc X.env.scope y)(hf:Sto X y)(hi:X.N[i]?=Z9 x)(hv:Vis X.env.scope x)(hd:VB x)(hcd:(x==("__classdict__":Str))=Z6)(hline:(ap.endLine==cp.line)=Z7):
  PS X (.Assign [.Name y px] (.Call (.Attribute (.Name x p) "pop" ap) [] [] cp) pos) (tDS X.K (vV j i)):=by
 refine PS.imp (rR hN hj hy (zdu PySem.F.plainAttrs_list PySem.F.slot_list_pop PySem.F.type_list_pop Fd (mM hi hv hd hcd) rfl hline) rfl hf) λD σ H zz=>?_;obtain⟨ρ,F,out,so,e,q⟩:=zz;unfold vV at e;split at e
 .rename_i xs hr;split at e
  .rename_i d hl;cases e;obtain⟨hl,BD⟩:=Gp hl;obtain⟨pa,h1,hO,h⟩:=vU so hr;rcases h with⟨vs,ds,e3,e4,r⟩|⟨_,_,e3,_⟩
   .cases e3;obtain⟨v,Gq,hv2⟩:=r.get hl;rw[<-r.length]at Gq;obtain⟨qR,f2⟩:=zca so hO h1 e4 r.front
    have hp:∀a o,H a=Z9 o->Fix o->upd H pa (.lst vs.dropLast) a=Z9 o:=λa o e f=>by
     have:a≠pa:=λz=>by subst z;rw[e4]at e;cases e;exact f
     rw[aL this];exact e
    have pM:=qR.lD (i:=j) (x:=(.al,d)) (v:=v) (Rep.bT hp d BD hv2);exact⟨_,h1,.inl ⟨rfl,vs,SqL.of e4⟩,pa,vs,v,rfl,rfl,e4,Gq,q _ _ _ pM (Run.of rfl rfl rfl) (f2.trans (bX.drop (Same.refl _)))⟩
   .cases e3
  .cases e
 .cases e
theorem zs1 (hi:X.N[i]?=Z9 x)(V:Vis X.env.scope x)(hd:VB x)(n:(x==("__classdict__":Str))=Z6)(hs:isStar W=Z6)(s:PE X W (tD X.K fa))(hr:PA X er (tDA X.K fr))(hl:∀ρ Y,fr ρ=.ok Y->Y.length<=900)(l:(ap.endLine==cp.line)=Z7)(j:(I.endLine==J.line)=Z7):
  PS X (.Expr (.Call (.Attribute (.Name x p) "append" ap) [.Tuple (W::.Call (.Attribute (.Name x p2) "pop" I) [] [] J::er) kt tp] [] cp) pos) (tDS X.K (BF i fa fr)):=by
 refine PS.imp (oY (za9 PySem.F.plainAttrs_list PySem.F.slot_list_append PySem.F.type_list_append yg (mM hi V hd n) (dO (As (dO s (dO (zdu PySem.F.plainAttrs_list PySem.F.slot_list_pop PySem.F.type_list_pop Fd (mM hi V hd n) rfl j) hr rfl) hs)) kO rfl) rfl (z3a rfl (by show 1<20;omega)) l (dX rfl) rfl) rfl) λD σ H zz=>?_;obtain⟨ρ,F,out,L,e,q⟩:=zz;obtain⟨y,e1,e⟩:=Res.aA e;split at e
 .rename_i xs M;split at e
  .rename_i d c;obtain⟨Z,e2,e⟩:=Res.aA e;split at e
   .rename_i P;cases e;rw[aw,aw,decide_eq_true_iff]at P;obtain⟨c,Q⟩:=Gp c;obtain⟨t,G,R,h⟩:=vU L M;rcases h with⟨vs,ds,S,e4,r⟩|⟨_,_,S,_⟩
    .cases S;obtain⟨v,w,T⟩:=r.get c;rw[<-r.length]at w;refine⟨_,G,.inl ⟨rfl,vs,SqL.of e4⟩,ρ,F,y,L,e1,λu H1 s1 ru=>?_⟩;have A:=s1 _ _ e4;obtain⟨m,f2⟩:=zca (L.same s1) R G A (r.front.same s1 λ_ z=>z);refine⟨_,G,.inl ⟨rfl,vs,SqL.of A⟩,t,vs,v,rfl,rfl,A,w,_,F,Z,m,e2,λus B C rs=>?_⟩;have Vm:us.length<=900:=rs.len▸hl _ _ e2;refine⟨by rw[bz,am,am];omega,λpt g=>?_⟩;have e6:=C _ _ bL;have e7:upd B pt (.tup (u::v::us)) t=Z9 (.lst vs.dropLast):=aL (fQ e6 g)▸e6
     have k:∀a o,H1 a=Z9 o->Fix o->upd B pt (.tup (u::v::us)) a=Z9 o:=λa o e f=>by
      have s:a≠t:=λz=>by subst z;rw[A]at e;cases e;exact f
      have E:=C _ _ (by rw[aL s];exact e);rw[aL (fQ E g)];exact E
     have rf:Reps X.K (upd B pt (.tup (u::v::us))) (Bin F) vs.dropLast xs.dropLast:=Reps.keep (λa o e b=>by
      have s:a≠t:=by
       intro z;subst z;rcases b with b|b
       .have b1:F.O a=none:=b.1;rw[R]at b1;cases b1
       .rw[A]at e;cases e;exact b
      have E:=C _ _ (by rw[aL s];exact e);rw[aL (fQ E g)];exact E) (λ_ z=>z) _ (r.front.same s1 λ_ z=>z)
     have rt:Rep X.K (upd B pt (.tup (u::v::us))) (Bin F) (.ref pt) (.tuple (y.2::d::Z.map (·.2))):=⟨pt,u::v::us,rfl,cP.of bL,Reps.cons (Rep.bT k y.2 P.1.1 ru) (Reps.cons (Rep.bT k d Q (T.same s1 λ_ z=>z)) (Reps.bT (λa o e f=>by rw[aL (fQ e g)];exact e) _ P.1.2 (rs.iQ m.aO)))⟩;have Fp:=r.length;have N7:=by have:=(cj.mp c).1;omega
     refine⟨t,vs.dropLast,.ref pt,rfl,rfl,e7,jZ (by grind),?_⟩;obtain⟨U,f4⟩:=zca (m.same (C.trans (Same.upd (o:=.tup (u::v::us)) g))) R G e7 (Reps.append rf (Reps.cons rt (show Reps X.K (upd B pt (.tup (u::v::us))) (Bin F) [] []from rfl)));exact q σ _ F U Run.refl ((((bX.same s1).trans f2).trans (bX.same (C.trans (Same.upd g)))).trans f4)
    .cases S
   .cases e
  .cases e
 .cases e
end
theorem dZ.ins {K:Z5}{F:Fm}{H c:Hp}{d:L2.St}{f:Rho}(so:StOk K F H d f):∀{a:List V} {b:List GD},b.all okIn=Z7->dZ K F H c a b->Reps K c (Bin F) a (b.map (·.2))
 |a,[],_,r=>r
 |a,x::b,h,r=>by rw[b9]at h;rw[aq]at h;obtain⟨v,t,e,g,q⟩:=r;exact⟨v,t,e,yD so h.1 g,dZ.ins so h.2 q⟩
theorem StOk.iD {K:Z5}{F:Fm}{H:Hp}{s:L2.St}{f:Rho}(so:StOk K F H s f)(j:Nat):StOk K (F.drop j) H s (f.set j (vH (f.getD j Z8))):=by
 refine⟨so.ext,so.aO,λa i e=>?_,by rw[dw];exact so.len,λi g d e=>?_⟩
 .have x:F.O a=Z9 i:=by
   have e:(if F.O a=Z9 j then Z8 else F.O a)=Z9 i:=e;split at e
   .cases e
   .exact e
  exact so.own a i x
 .by_cases l:j=i
  .subst l;rw[dq]at e;simp only[if_true]at e;split at e
   .rename_i hl;cases t:f[j]? with
    |none=>exact absurd hl (by grind)
    |some sl=>
     have k:vH sl=Z9 (g,d):=by
      have:f.getD j Z8=sl:=by rw[ag,t];rfl
      rw[this]at e;exact qg e
     cases sl with
     |none=>cases k
     |some gd=>
      obtain⟨u,y⟩:=gd;obtain⟨v,m,c⟩:=so.sl j u y t;refine⟨v,m,?_⟩;cases u with
      |fr=>
       cases k;obtain⟨p,rfl,o,h⟩:=c;obtain⟨o1,o2,_⟩:=so.own p j o;have w:Bin (F.drop j) (Z9 p):=⟨by show(if F.O p=Z9 j then Z8 else F.O p)=Z8;rw[qe o],o1,o2⟩;rcases h with⟨n,A,rfl,q,r⟩|⟨n,A,rfl,q,r⟩
       .exact⟨p,n,rfl,.inl ⟨q,w⟩,r.weak λ_ b=>b.drop⟩
       .exact⟨p,n,rfl,q,w,bG.same (λ_ _ e=>e) (λ_ b=>b.drop) r⟩
      |od=>cases k;exact c
      |al=>cases k;exact c
      |nu=>cases k;exact Rep.weak (λ_ b=>b.drop) c
   .cases e
  .rw[cu l]at e;obtain⟨v,m,c⟩:=so.sl i g d e;exact⟨v,m,c.drop λz=>l z.symm⟩
section
variable {X:Cx}{tg a b c e:Expr}{es:List Expr}{fa fb fc:Rho->Res GD}{pos:Pos}{st:Stmt}{rest A Bs:List Stmt}{fs gs:Rho->Res Out}
theorem BH (k c:Key):eqK (kD c) (kD k)=decide (c=k):=by
 cases c<;>cases k
 .rename_i a b;show(a==b)=_;rw[jv,decide_eq_decide];exact⟨λh=>by rw[h],λh=>Sum.inl.inj h⟩
 .rfl
 .rfl
 .rename_i a b;show decide (a=b)=_;rw[decide_eq_decide];exact⟨λh=>by rw[h],λh=>Sum.inr.inj h⟩
theorem bG.any {K:Z5}(k:Key):∀{kvs:List (Key×V)} {es:dF},bG K H B kvs es->(es.any λe=>eqK e.1 (kD k))=kvs.any λa=>decide (a.1=k)
 |kvs,[],r=>by have e:kvs=[]:=r;subst e;rfl
 |kvs,(kd,d)::es,r=>by obtain⟨c,v,t,e,b,_,_,q⟩:=r;subst e b;rw[i5,i5,q.any k,BH]
theorem bG.nG {K:Z5}(k:Key)(h:Rep K H B v d):∀{kvs:List (Key×V)} {es:dF},bG K H B kvs es->bG K H B (kvs.map λa=>if a.1=k then(a.1,v)else a) (es.map λe=>if eqK e.1 (kD k)then(e.1,d)else e)
 |kvs,[],r=>by have e:kvs=[]:=r;subst e;exact rfl
 |kvs,(kd,d0)::es,r=>by
  obtain⟨b,f,t,e,g,ok,h0,q⟩:=r;subst e g;rw[bc,bc];have c:=q.nG k h;by_cases z:b=k
  .subst z;rw[qe rfl,qe (by rw[BH];simp)];exact⟨b,v,_,rfl,rfl,ok,h,c⟩
  .rw[qf z,qf (by rw[BH];simpa using z)];exact⟨b,f,_,rfl,rfl,ok,h0,c⟩
theorem bG.app {K:Z5}(ok:keyOk k)(h:Rep K H B v d):∀{kvs:List (Key×V)} {es:dF},bG K H B kvs es->bG K H B (kvs++[(k,v)]) (es++[(kD k,d)])
 |kvs,[],r=>by have e:kvs=[]:=r;subst e;exact⟨k,v,[],rfl,rfl,ok,h,rfl⟩
 |kvs,(kd,d0)::es,r=>by obtain⟨b,c,t,e,f,a,h0,q⟩:=r;subst e f;exact⟨b,c,_,rfl,rfl,a,h0,q.app ok h⟩
theorem bG.put {K:Z5}(ok:keyOk k)(h:Rep K H B v d){es:dF}(r:bG K H B kvs es):bG K H B (putK kvs k v) (dput es (kD k) d):=by
 unfold putK dput;rw[r.any k];split
 .exact r.nG k h
 .exact r.app ok h
def vW (td ty tv:TE):TS:=λD σ H=>tv σ H λv H1=>td σ H1 λx H2=>ty σ H2 λy H3=>(∃a H4,x=.ref a/\DPut H3 a y v H4/\D.nx σ H4)\/Fb x y v H3 λH4=>D.nx σ H4
theorem Gr (hu:X.A.units+1<cLine)(p:PE X o q)(t:PE X i ty)(w:PE X value tv)(hs:jc value (Z9 (.Subscript o i d)) pos.line X.env=pure Z6):PS X (.Assign [.Subscript o i d] value pos) (vW q ty tv):=by
 intro b s c H D I h;refine wpAny_Assign_Subscript (aM (w b s c H _ I h) λr z ⟨v,B,C,k,E⟩=>aM (p b z c B _ C E) λu F ⟨x,G,J,l,K⟩=>aM (t b F c G _ J K) λL M ⟨y,N,m,n,e⟩=>?_) hs;rcases e with⟨a,f,ex,g,e⟩|e
 .subst ex;obtain rfl:u=ZT a:=l;exact zel hu m g n k λO j=>⟨c,f,j,e⟩
 .exact aM (set_list b M c N x y v u L r _ m l n k e) λ_ O ⟨f,j,P⟩=>⟨c,f,j,P⟩
def BJ (i:Nat)(fv fk:Rho->Res GD):Rho->Res Out:=λρ=>fv ρ>>=λy=>fk ρ>>=λx=>match ρ[i]? with
 |some (Z9 (.fr,.dict es))=>if jY x.2&&okIn y&&decide (es.length<LIM)then .ok (.nx ((ρ.set i (Z9 (.fr,.dict (dput es x.2 y.2)))).map z08))else .no
 |some (Z9 (.fr,.list xs))=>(match x.2 with
  |.int j=>if okIn y then(match gZ xs.length j with|some n=>.ok (.nx ((ρ.set i (Z9 (.fr,.list (xs.set n y.2)))).map z08))|none=>.no)else .no
  |_=>.no)
 |_=>.no
theorem zsm (hu:X.A.units+64<cLine)(hN:X.N[i]?=Z9 x)(Y:Vis X.env.scope x)(hd:VB x)(J:(x==("__classdict__":Str))=Z6)(hs:z1u value=Z6)(hk:PE X Z (tD X.K fk))(L:PE X value (tD X.K fv)):
  PS X (.Assign [.Subscript (.Name x p) Z T] value pos) (tDS X.K (BJ i fv fk)):=by
 refine PS.imp (Gr (by omega) (mM hN Y hd J) hk L (rQ hs _ _ _)) λD U H zz=>?_;obtain⟨M,F,out,so,e,q⟩:=zz;obtain⟨y,e1,e⟩:=Res.aA e;obtain⟨P,V,e⟩:=Res.aA e;refine⟨M,F,y,so,e1,λv H1 Q rv=>?_⟩;have c:=so.same Q;split at e
 .rename_i es hr;split at e
  case isFalse=>cases e
  rename_i B;cases e;rw[aq,aq,decide_eq_true_eq]at B;obtain⟨f,E,l,h⟩:=vU c hr;rcases h with⟨_,_,m,_⟩|⟨s,Gs,m,R,r⟩
  .cases m
  .cases m;refine⟨_,E,M,F,P,c,V,λw C d g=>.inl ?_⟩;obtain⟨k,ek,rfl,ok⟩:=yt B.1.1 g;have G:=d _ _ R;refine⟨f,_,rfl,DPut.k G (r.length▸bo B.2 (jZ (ah _))),?_⟩
   have hk:∀a o,C a=Z9 o->(Bin F (Z9 a)\/Fix o)->upd C f (.dK (putK s k v)) a=Z9 o:=λa o e b=>by
    have t:a≠f:=by
     intro z;subst z;rcases b with b|b
     .have I:F.O a=none:=b.1;rw[l]at I;cases I
     .rw[G]at e;cases e;exact b
    rw[aL t];exact e
   have r':bG X.K (upd C f (.dK (putK s k v))) (Bin F) (putK s k v) (dput es P.2 y.2):=by rw[ek];exact bG.keep hk (λ_ z=>z) _ (bG.put ok (yD so B.1.2 (rv.same d λ_ z=>z)) (r.same d λ_ z=>z))
   obtain⟨u,S⟩:=(c.same d).mutate l E (.inr ⟨_,rfl⟩) ⟨f,rfl,l,.inr ⟨_,_,rfl,bL,r'⟩⟩;exact q U _ F u Run.refl ((bX.same (Q.trans d)).trans S)
 .rename_i xs hr;split at e
  case h_2=>cases e
  rename_i j hj;split at e
  case isFalse=>cases e
  rename_i B;split at e
  case h_2=>cases e
  rename_i n hn;cases e;obtain⟨f,E,l,h⟩:=vU c hr;rcases h with⟨W,ds,m,R,r⟩|⟨_,_,m,_⟩
  .cases m;refine⟨_,E,M,F,P,c,V,λw C d g=>.inr ?_⟩;rw[hj]at g;subst g;have G:=d _ _ R;refine⟨f,W,j,n,rfl,rfl,G,by rw[r.length];exact hn,?_⟩
   have hk:∀a o,C a=Z9 o->(Bin F (Z9 a)\/Fix o)->upd C f (.lst (W.set n v)) a=Z9 o:=λa o e b=>by
    have t:a≠f:=by
     intro z;subst z;rcases b with b|b
     .have I:F.O a=none:=b.1;rw[l]at I;cases I
     .rw[G]at e;cases e;exact b
    rw[aL t];exact e
   obtain⟨u,S⟩:=(c.same d).mutate l E (.inl ⟨_,rfl⟩) ⟨f,rfl,l,.inl ⟨_,_,rfl,bL,(Reps.keep hk (λ_ z=>z) _ (Reps.set (yD so B (rv.same d λ_ z=>z)) n (r.same d λ_ z=>z)))⟩⟩;exact q U _ F u Run.refl ((bX.same (Q.trans d)).trans S)
  .cases m
 .cases e
def tDF (K:Z5)(f:Rho->Res (G×List D×Rho)):TI:=λσ H R=>∃ρ F w,StOk K F H σ ρ/\f ρ=.ok w/\∀J B H' F',Same H H'->Run F F'->bX F H F' H'->StOk K F' H' σ w.2.2->(∀a,B (Z9 a)->F'.O a=Z8)->(∀a,B a->BI F' w.1 a)->Walk K J B H' w.2.1->R J H'
theorem BK {K:Z5}(so:StOk K F H i k){a:Addr}(f:g≠.al)(h:BG F H g (Z9 a)):F.O a=none:=by
 cases d:F.O a with
 |none=>rfl
 |some j=>
  obtain⟨h0,_,b⟩:=so.own a j d;cases g with
  |fr=>have c:=h;rcases b with⟨e,b⟩|⟨e,b⟩<;>rw[c]at b<;>cases b
  |od=>exact absurd h0 h.1
  |al=>exact absurd rfl f
  |nu=>
   rcases h with h|h
   .have c:H a=none:=h;rcases b with⟨e,b⟩|⟨e,b⟩<;>rw[c]at b<;>cases b
   .have c:F.O a=none:=h.1;rw[c]at d;cases d
theorem Gu (h:PI X i e (tDW X.K j)):PI X i e (tDF X.K λc=>j c>>=λw=>if w.1==.al then .no else .ok (w.1,w.2,c)):=
 PI.imp h λo H R ⟨c,F,w,so,e,q⟩=>by
  obtain⟨k,l,e⟩:=Res.aA e;refine⟨c,F,k,so,l,λJ B m d g n=>?_⟩;split at e
  .cases e
  .rename_i f;cases e;exact q J B m F d Run.refl (bX.same d) (so.same d) (λa b=>BK so (λz=>f (by rw[z];rfl)) (g _ b).1) (λa b=>BI.of so.aO (g a b).1) n
theorem StOk.giveUp {K:Z5}(so:StOk K F H σ ρ)(e:ρ[i]?=Z9 (Z9 (.fr,d))):StOk K (F.drop i) H σ (ρ.set i (Z9 (.al,d))):=by
 obtain⟨v,h1,h2⟩:=so.sl i .fr d e;have:=so.lD (i:=i) (x:=(.al,d)) (h2.rep so.jH)
 have es:σ.set i (Z9 v)=σ:=by
  apply List.ext_getElem?;intro j;by_cases hj:i=j
  .subst hj;rw[dq];simp only[if_true,(cj.mp h1).1];exact h1.symm
  .rw[cu hj]
 rw[es]at this;exact this
theorem N8 (hN:X.N[i]?=Z9 x)(o:Vis X.env.scope x)(hd:VB x)(h:(x==("__classdict__":Str))=Z6):PI X T (.Name x pos) (tDF X.K (AZ i)):=by
 rintro c s t H R I ⟨U,F,w,so,e,q⟩
 unfold AZ at e;split at e
 .rename_i d hr;obtain⟨W,z,e⟩:=Res.aA e;cases e;obtain⟨v,A,C⟩:=so.sl i .fr d hr;refine aM (mM hN o hd h c s t H (λu f=>u=v/\f=H) I ⟨v,A,rfl,rfl⟩) λu Y D=>?_;obtain⟨y,f,E,G,g,L⟩:=D;subst g L
  let B:Ad->Prop:=λa=>match a with|some a=>(F.drop i).O a=Z8/\F.V a|none=>False
  have M:Rep X.K f B y d:=by
   obtain⟨p,g,l,P⟩:=C
   have m:∀a,Bin F a->B a:=λa b=>by
    cases a with
    |none=>exact b
    |some a=>exact⟨Fm.bR b.1,b.2.2⟩
   have n:B (Z9 p):=⟨by show(if F.O p=Z9 i then Z8 else F.O p)=Z8;rw[qe l],so.jH p i l⟩;rcases P with⟨j,Q,rfl,k,r⟩|⟨j,Q,rfl,k,r⟩
   .exact⟨p,j,g,.inl ⟨k,n⟩,r.weak m⟩
   .exact⟨p,j,g,k,n,bG.same (λ_ _ e=>e) m r⟩
  refine z3g E G M z λJ S=>q J B f (F.drop i) (Same.refl _) (Run.of rfl rfl rfl) (bX.drop (Same.refl _)) (so.giveUp hr) (λa b=>b.1) (λa b=>?_) S;cases a with
  |none=>exact b.elim
  |some a=>exact b.2
 .cases e
def Fm.nH (F:Fm)(H:Hp):Fm:={F with O:=λa=>match H a with|some (.dK _)=>F.O a|_=>Z8}
theorem Fm.iR {F:Fm}{a:Addr}(h:F.O a=Z8):(F.nH H).O a=none:=by
 unfold Fm.nH
 dsimp only
 split<;>first|exact h|rfl
theorem StOk.nH {K:Z5}(so:StOk K F H q l):StOk K (F.nH H) H q (l.map A3) where
 ext:=so.ext
 aO:=so.aO
 own:=λa i e=>by
  have c:F.O a=Z9 i:=by
   unfold Fm.nH at e
   dsimp only at e
   split at e
   .exact e
   .cases e
  exact so.own a i c
 len:=by rw[ai];exact so.len
 sl:=λi g d e=>by
  rw[bu]at e;cases h:l[i]? with
  |none=>rw[h]at e;cases e
  |some o=>
   rw[h]at e;have c:A3 o=Z9 (g,d):=by simpa using e
   cases o with
   |none=>cases c
   |some gd=>
    obtain⟨m,d0⟩:=gd;obtain⟨v,s,f⟩:=so.sl i m d0 h;refine⟨v,s,?_⟩
    have n:∀a,Bin F a->Bin (F.nH H) a:=λa b=>by
     cases a with
     |none=>exact b
     |some a=>exact⟨Fm.iR b.1,b.2.1,b.2.2⟩
    cases m with
    |od=>cases c;exact f
    |al=>cases c;exact f
    |nu=>cases c;exact Rep.weak n f
    |fr=>
     obtain⟨p,ev,t,u⟩:=id f;rcases u with⟨y,w,rfl,j,r⟩|⟨kvs,es,rfl,j,r⟩
     .have k:Z9 (G.al,ZZ w)=Z9 (g,d):=c;cases k;have x:=Slot.rep so.jH f;exact x
     .have k:Z9 (G.fr,PyData.dict es)=Z9 (g,d):=c;cases k;refine⟨p,ev,?_,.inr ⟨kvs,es,rfl,j,bG.same (λ_ _ z=>z) n r⟩⟩;unfold Fm.nH
      dsimp only
      rw[j];exact t
theorem BL (A:PE X e (tD X.K fa)):PI X tg e (tDF X.K λk=>fa k>>=λx=>mX x k):=by
 rintro j s C H R I ⟨k,F,w,so,c,q⟩
 obtain⟨⟨g,d⟩,D,c⟩:=Res.aA c;unfold mX at c
 dsimp only at c
 split at c
 .rename_i l;split at c
  .rename_i E;cases c;refine aM (A j s C H (λv f=>Same H f/\Rep X.K f (BG F H g) v (.list l)) I ⟨k,F,_,so,D,λv f u m=>⟨u,m⟩⟩) λv u G=>?_;obtain⟨y,f,L,M,i,m⟩:=G
   let B:Ad->Prop:=λa=>match a with|some a=>(F.nH f).O a=Z8/\F.V a|none=>F.z
   have t:Rep X.K f B y (.list l):=by
    obtain⟨p,N,P,h,r⟩:=m;refine⟨p,N,P,?_,Reps.bS l E r⟩;rcases h with⟨h,b⟩|⟨h,b⟩
    .refine .inl ⟨h,?_,(BG.aO so.aO b:bU F (Z9 p))⟩;unfold Fm.nH
     dsimp only
     rw[h]
    .exact .inr ⟨h,(BG.aO so.aO b:bU F Z8)⟩
   refine z3g L M t rfl λJ Q=>q J B f (F.nH f) i (Run.of rfl rfl rfl) (λa o e n=>⟨i a o e,Fm.iR n⟩) ((so.same i).nH) (λa b=>b.1) (λa b=>?_) Q;cases a with
   |none=>exact b
   |some a=>exact b.2
  .cases c
 .cases c
theorem PI.Gv {k:Rho->Bool}(hf:PI X tg e (tDF X.K f))(hg:PI X tg e (tDF X.K g)):PI X tg e (tDF X.K λρ=>if k ρ then f ρ else g ρ):=by
 rintro pins s σ H R I ⟨ρ,F,w,so,e,q⟩
 dsimp only at e
 cases hk:k ρ with
 |true=>exact hf pins s σ H R I ⟨ρ,F,w,so,by rw[qe hk]at e;exact e,q⟩
 |false=>exact hg pins s σ H R I ⟨ρ,F,w,so,by rw[qf (hk▸fj)]at e;exact e,q⟩
theorem zud {t:Tg}{iter:Expr}{body:List Stmt}{fw:Rho->Res (G×List D×Rho)}(hp:fy (model X.prog X.w) X.A X.env X.xe)(hc:X.calm=Z7)(hi:PI X tg iter (tDF X.K fw))(hg:PG X tg (tDG X.K t))(hb:PSs X body (tDS X.K fs))(hs:∀x,ef iter X.env x=pure x):
  PS X (.For tg iter body [] pos) (tDS X.K λρ=>fw ρ>>=λw=>cG (λx ρ1=>eZ t (gJ x w.1,x) ρ1>>=λcR=>fs cR) w.2.1 w.2.2):=
 PS.imp (zc0 hp hc hi hg hb hs) λD σ H zz=>by
  obtain⟨ρ,F,out,so,e,q⟩:=zz;obtain⟨w,e1,e⟩:=Res.aA e;refine⟨ρ,F,w,so,e1,λJ B H1 F1 s1 r1 f1 sN N9 Oa wk=>?_⟩;have q1:sO X.K F1 H1 D out:=q.back r1 f1;generalize hf:(λx ρ1=>eZ t (gJ x w.1,x) ρ1>>=λcR=>fs cR)=f at e
  have kp:∀{F2:Fm} {H2:Hp},bX F1 H1 F2 H2->Kp B H1 H2:=λ{F2 H2} fr a o e b=>by
   have hO:F1.O a=none:=by
    rcases b with b|b
    .exact N9 a b
    .cases e2:F1.O a with
     |none=>rfl
     |some j=>obtain⟨_,_,h'⟩:=sN.own a j e2;rcases h' with⟨xs,h'⟩|⟨xs,h'⟩<;>rw[e]at h'<;>cases h'<;>exact b.elim
   exact(fr a o e hO).1
  let W:Nat->Nat->L2.St->Hp->Prop:=λi m kN H2=>m=w.2.1.length-i/\i<=w.2.1.length/\∃cR F2,StOk X.K F2 H2 kN cR/\Run F1 F2/\bX F1 H1 F2 H2/\cG f (w.2.1.drop i) cR=.ok out
  refine⟨W,⟨_,rfl,cn _,w.2.2,F1,sN,Run.refl,bX.refl,e⟩,?_⟩
  rintro i m kN H2 ⟨rfl,BM,cR,F2,qR,r2,f2,e2⟩
  by_cases gM:i<w.2.1.length
  .refine .inr ⟨wk.go H2 (kp f2) i gM,W (i+1) (w.2.1.length-(i+1)),λbA H' p=>⟨_,by omega,p⟩,λx H3 y=>?_⟩;obtain⟨s3,d,hd,rx⟩:=wk.kM H2 (kp f2) i x H3 gM y
   have ue:w.2.1.drop i=d::w.2.1.drop (i+1):=by
    have dc:=iw gM;rw[dc];have:w.2.1[i]=d:=by rw[a9 gM]at hd;exact qg hd
    rw[this]
   rw[ue]at e2;simp only[cG]at e2;have pM:=qR.same s3
   have Bz:Rep X.K H3 (BI F2 (gJ d w.1)) x d:=by
    have Ob:∀g a,BI F1 g a->BI F2 g a:=λg a b=>by cases g<;>cases a<;>first|exact b|(have b':F1.V _:=b;rw[<-r2.2.1]at b';exact b')|(have b':F1.z:=b;rw[<-r2.2.2]at b';exact b')|(have b':F1.H0 _≠Z8/\F1.V _:=b;exact⟨λz=>b'.1 (none_of r2.1 z),by rw[r2.2.1];exact b'.2⟩)
    unfold gJ;by_cases hi:imm d=Z7
    .rw[qe hi];exact Rep.bS d hi rx
    .rw[qf hi];exact rx.weak λa b=>Ob _ _ (Oa a b)
   cases e3:f d cR with
   |no=>rw[e3]at e2;cases e2
   |ok o1=>
    have Oc:(eZ t (gJ d w.1,d) cR>>=λyE=>fs yE)=.ok o1:=by rw[<-e3,<-hf]
    obtain⟨yE,e4,e5⟩:=Res.aA Oc;rw[e3]at e2;refine⟨cR,F2,(gJ d w.1,d),yE,pM,Bz,e4,λkR F4 yB nI=>⟨yE,F4,o1,yB,e5,?_⟩⟩;have r4:Run F1 F4:=r2.trans (Run.of nI.h0 nI.v nI.z);have f4:bX F1 H1 F4 H3:=f2.trans λa o e n=>⟨s3 a o e,nI.o a n⟩;cases o1 with
    |nx pN=>exact λbA H' F' j' r' f'=>⟨rfl,gM,pN,F',j',r4.trans r',f4.trans f',e2⟩
    |ct pN=>exact λbA H' F' j' r' f'=>⟨rfl,gM,pN,F',j',r4.trans r',f4.trans f',e2⟩
    |bk pN=>cases e2;exact λbA H' F' j' r' f'=>q1 bA H' F' j' (r4.trans r') (f4.trans f')
    |rt g d=>cases e2;exact(q1.back r4 f4:sO X.K F4 H3 D (.rt g d))
  .have vX:i=w.2.1.length:=by omega
   subst vX;rw[jx]at e2;cases e2;exact .inl ⟨wk.stop H2 (kp f2),q1 kN H2 F2 qR r2 f2⟩
theorem Od {body:List Stmt}{ft:Rho->Res Bool}{n:Nat}(hp:fy (model X.prog X.w) X.A X.env X.xe)(hc:PT X c (dS X.K ft))(hb:PSs X body (tDS X.K fs)):PS X (.While c body [] pos) (tDS X.K (qM ft fs n)):=
 PS.imp (EC hp hc hb) λD σ H zz=>by
  obtain⟨ρ,F,out,so,e,q⟩:=zz
  let W:Nat->L2.St->Hp->Prop:=λm kN H2=>∃cR F2,StOk X.K F2 H2 kN cR/\Run F F2/\bX F H F2 H2/\qM ft fs m cR=.ok out
  refine⟨W,⟨n,ρ,F,so,Run.refl,bX.refl,e⟩,?_⟩
  rintro m kN H2 ⟨cR,F2,qR,r2,f2,e2⟩
  cases m with
  |zero=>cases e2
  |succ m=>
   obtain⟨k,e3,e2⟩:=Res.aA e2;refine⟨cR,F2,k,qR,e3,λH3 s3=>?_⟩;have f3:bX F H F2 H3:=f2.trans (bX.same s3);cases k with
   |false=>cases e2;exact bC (q kN H3 F2 (qR.same s3) r2 f3)
   |true=>
    refine bE ⟨W m,λbA H' p=>⟨m,jw m,p⟩,?_⟩
    have e2:(match fs cR with
     |.ok (.nx aN)=>qM ft fs m aN
     |.ok (.ct aN)=>qM ft fs m aN
     |.ok (.bk aN)=>.ok (.nx aN)
     |.ok (.rt g d)=>.ok (.rt g d)
     |.no=>.no)=.ok out:=e2
    cases e4:fs cR with
    |no=>rw[e4]at e2;cases e2
    |ok o1=>
     rw[e4]at e2;refine⟨cR,F2,o1,qR.same s3,e4,?_⟩;cases o1 with
     |nx pN=>exact λbA H' F' j' r' f'=>⟨pN,F',j',r2.trans r',f3.trans f',e2⟩
     |ct pN=>exact λbA H' F' j' r' f'=>⟨pN,F',j',r2.trans r',f3.trans f',e2⟩
     |bk pN=>cases e2;exact λbA H' F' j' r' f'=>q bA H' F' j' (r2.trans r') (f3.trans f')
     |rt g d=>cases e2;exact(q.back r2 f3:sO X.K F2 H3 D (.rt g d))
end
def rAgg (K:Z5)(f:String):List V->Hp->VK->Prop:=λxs H Q=>∃B x dx l ys d,xs=[x]/\Rep K H B x dx/\z5q dx=.ok (l,ys)/\aggD f l ys=.ok d/\∀w H',Same H H'->Rep K H' (λa=>nw H a\/(imms ys=Z6/\B a)) w d->Q w H'
theorem yF {K:Z5}(r:Rep K H B x dx)(e:z5q dx=.ok (l,c)):∃a b,x=.ref a/\(if l then SqL K H a b else cP K H a b)/\Reps K H B b c:=by
 cases dx<;>try (cases e;done)
 .cases e;obtain⟨a,b,rfl,h,q⟩:=oG r;exact⟨a,b,rfl,h,q⟩
 .cases e;obtain⟨a,b,rfl,h,q⟩:=r;exact⟨a,b,rfl,h,q⟩
theorem Reps.sQ {K:Z5}(r:Reps K H B c b):Reps K H (λa=>nw H a\/(imms b=Z6/\B a)) c b:=by
 cases d:imms b with
 |true=>exact Reps.bS b d r
 |false=>exact r.weak λ_ z=>.inr ⟨rfl,z⟩
section
variable {X:Cx}{e:Expr}{fa:Rho->Res GD}{pos:Pos}
theorem zgy (so:StOk X.K F H l j)(e:((fa j>>=fun x=>z5q x.2>>=fun p=>Res.ok (x.1,p))>>=fun w=>aggD f w.2.1 w.2.2>>=fun d=>Res.ok ((gJ d (if imms w.2.2 then .fr else agG w.1),d):GD))=.ok z)(q:∀v g,Same H g->Rep X.K g (BG F H z.1) v z.2->Q v g):
  oU (rAgg X.K f) (mP (tD X.K fa) eQ) l H Q:=by
 obtain⟨w,b,e⟩:=Res.aA e;obtain⟨x,m,b⟩:=Res.aA b;obtain⟨p,n,b⟩:=Res.aA b;cases b;obtain⟨d,o,e⟩:=Res.aA e;cases e;refine⟨j,F,x,so,m,λv A c r=>⟨_,v,x.2,p.1,p.2,d,rfl,r,n,o,λs t u i=>q s t (c.trans u) (qO i λa h=>?_)⟩⟩;cases y:imms p.2 with
 |true=>
  rcases h with h|⟨h,_⟩
  .exact nw.back c h
  .rw[y]at h;cases h
 |false=>
  have al:bU F a:=by
   rcases h with h|⟨_,h⟩
   .exact(nw.back c h).aO so.aO
   .exact h.aO so.aO
  cases k:x.1 with
  |fr=>
   rcases h with h|⟨_,h⟩
   .exact nw.back c h
   .rw[k]at h;exact h
  |od=>exact al
  |al=>exact al
  |nu=>
   rcases h with h|⟨_,h⟩
   .exact .inl (nw.back c h)
   .rw[k]at h;exact h
theorem Oe:CallR X (.type "list") (rAgg X.K "list"):=by
 refine CallR.imp LY λi H Q h=>?_;obtain⟨B,x,dx,l,j,d,rfl,r,e,f,q⟩:=h;obtain⟨a,b,rfl,h,rs⟩:=yF r e;cases f
 have g:SqL X.K H a b\/cP X.K H a b:=by
  cases l with
  |true=>exact .inl h
  |false=>exact .inr h
 refine⟨a,b,rfl,g,λp c=>q _ _ (Same.upd c) (qP c rs.sQ (λ_ z=>z) (.inl c))⟩
theorem Of:CallR X (.type "tuple") (rAgg X.K "tuple"):=by
 refine CallR.imp LZ λg H Q h=>?_;obtain⟨B,x,dx,l,i,d,rfl,r,e,f,q⟩:=h;obtain⟨a,b,rfl,h,rs⟩:=yF r e;cases f;refine⟨a,b,rfl,?_⟩;cases l with
 |true=>exact .inl ⟨h,λp c=>q _ _ (Same.upd c) (yr c rs.sQ λ_ z=>z)⟩
 |false=>exact .inr ⟨h,q _ H (Same.refl H) ⟨a,b,rfl,h,rs.sQ⟩⟩
theorem Gy {K:Z5}:∀{a:List D} {bs:List Bool} {b:List V},allB a=Z9 bs->Reps K H B b a->b=bs.map V.bl
 | [],bs,b,e,r=>by cases e;exact r
 |d::a,bs,b,e,r=>by
  cases d<;>try (cases e;done)
  simp only[allB]at e;cases c:allB a with
  |none=>rw[c]at e;cases e
  |some f=>rw[c]at e;cases e;obtain⟨v,t,rfl,g,h⟩:=r;rw[g,Gy c h];rfl
theorem Gz {K:Z5}:∀{a:List D} {n:Int} {c:List V},hU a=Z9 n->Reps K H B c a->∃ns:List Int,c=ns.map V.int/\ns.sum=n
 | [],n,c,e,r=>by cases e;exact⟨[],r,rfl⟩
 |d::a,n,c,e,r=>by
  cases d<;>try (cases e;done)
  rename_i b;change(hU a).map (b+ ·)=_ at e;cases f:hU a with
  |none=>rw[f]at e;cases e
  |some m=>rw[f]at e;cases e;obtain⟨v,t,rfl,g,h⟩:=r;obtain⟨ns,i,j⟩:=Gz f h;exact⟨b::ns,by rw[g,i];rfl,by rw[jy,j]⟩
theorem Og (f:X.calm=Z7):CallR X (.builtin "all") (rAgg X.K "all"):=by
 refine CallR.imp (Mp f) λj H Q h=>?_;obtain⟨B,x,k,l,g,d,rfl,r,e,b,q⟩:=h;obtain⟨a,m,rfl,h,i⟩:=yF r e;simp only[aggD,show("all":String)≠"list" by decide,show("all":String)≠"tuple" by decide,show("all":String)≠"sorted" by decide,show("all":String)≠"sum" by decide,if_true,if_false]at b;cases l with
 |false=>cases b
 |true=>
  cases c:allB g with
  |none=>rw[c]at b;cases b
  |some bs=>rw[c]at b;cases b;have ev:=Gy c i;subst ev;exact⟨a,bs,rfl,h,q _ H (Same.refl H) rfl⟩
theorem Oh (e:X.calm=Z7):CallR X (.builtin "sum") (λa H Q=>∃(p:Addr) (ns:List Int),a=[.ref p]/\SqL X.K H p (ns.map V.int)/\Q (.int ns.sum) H):=by
 rintro c s h H a i Q I r ⟨p,ns,rfl,f,q⟩
 obtain⟨u,rfl,rfl⟩:=vals1 r;obtain⟨b,rv,pl,j⟩:=I.list f;have d:nv b.toArray.toList ns:=intsAre_of rv;have hl:=pl.isList;obtain⟨a,ex⟩:=d.allInts.items;have hn:=d.numsOf;rw[ex]at hl hn;refine sum_intListG (I.ok.hd e) hl λk l g hk=>⟨.int ns.sum,H,I.kept hk,⟨g,?_⟩,q⟩;rw[preSum_eq,jp (by simp)];rw[nums_intItems]at hn;rw[hn]
theorem Oi (f:X.calm=Z7):CallR X (.builtin "sum") (rAgg X.K "sum"):=by
 refine CallR.imp (Oh f) λj H Q h=>?_;obtain⟨B,x,k,l,g,d,rfl,r,e,b,q⟩:=h;obtain⟨a,m,rfl,h,i⟩:=yF r e;simp only[aggD,show("sum":String)≠"list" by decide,show("sum":String)≠"tuple" by decide,show("sum":String)≠"sorted" by decide,if_true,if_false]at b;cases l with
 |false=>cases b
 |true=>
  cases c:hU g with
  |none=>rw[c]at b;cases b
  |some n=>rw[c]at b;cases b;obtain⟨ns,ev,en⟩:=Gz c i;subst ev en;exact⟨a,ns,rfl,h,q _ H (Same.refl H) rfl⟩
theorem zi9 (hc:CallR X (.type f) (rAgg X.K f))(hm:X.mg x=Z8)(c:cr x=Z9 (.type f))(hs:isStar y=Z6)(g:PE X y (tD X.K fa))(h:Gl X x)(hn:x≠"__name__")(a:VB x):
  PE X (.Call (.Name x p) [y] [] pos) (tD X.K λb=>(fa b>>=λx=>z5q x.2>>=λp=>Res.ok (x.1,p))>>=λw=>aggD f w.2.1 w.2.2>>=λd=>.ok (gJ d (if imms w.2.2 then .fr else agG w.1),d)):=
 PE.imp (yk hc hm c (dO g kO hs) (by simp[hs]) h hn a) λi H Q ⟨b,F,z,so,e,q⟩=>zgy so e q
theorem zi2 (hc:CallR X (.builtin f) (rAgg X.K f))(hm:X.mg x=Z8)(c:cr x=Z9 (.builtin f))(hs:isStar y=Z6)(g:PE X y (tD X.K fa))(h:Gl X x)(hn:x≠"__name__")(a:VB x):
  PE X (.Call (.Name x p) [y] [] pos) (tD X.K λb=>(fa b>>=λx=>z5q x.2>>=λp=>Res.ok (x.1,p))>>=λw=>aggD f w.2.1 w.2.2>>=λd=>.ok (gJ d (if imms w.2.2 then .fr else agG w.1),d)):=
 PE.imp (yj hc hm c (dO g kO hs) (by simp[hs]) h hn a) λi H Q ⟨b,F,z,so,e,q⟩=>zgy so e q
end
structure NoKeys (T id:String):Prop where
 own:PySem.Slot T "__getattribute__" id
 entry:entryFor table id=some Builtin.«object.__getattribute__»
 two:∀a b:Value,argsOk id {pos:=[a,b]}
 rest:typeLookup (.type T) "__getattr__"=pure Z8
 miss:∀(a:Addr) (xs:Array Value) (k:Nat) (sl:Array (Option Value)) (u:Tok),Meets (Builtin.«object.__getattribute__» {pos:=[.ref a,.str "keys" u]}) λA R s=>s.heap.get? a=some {cls:=.type T,data:=.seq xs k,slots:=sl}/\raisesAttr (.ref a) "keys" A R s
theorem NoKeys.ask {T id:String}(N:NoKeys T id){prog:bp}{w:World}{A:d9}{E:Value->au->Prop}{s:au}{a:Addr}{o:Obj}{i:Array Value}{k:Nat}{Q:Option Value->au->Prop}
  (j:s.heap.get? a=Z9 o) (hc:o.cls=.type T) (d:o.data=.seq i k) (hd:o.dict=Z8) (m:A.handled=Z8)
  (h:∀l n e,Heap.NewExcOf s.heap l e "AttributeError"->Q Z8 {s with heap:=l,toks:=n}):
  wpAny (model prog w) A (getAttr? (.ref a) "keys") Q E s:=by
 cases o;cases hc;cases d;cases hd;cases s;rename_i b heap f c toks os;have ty:∀t,(⟨heap,f,c,t,os⟩:au).TypeIs (.ref a) T:=λt=>⟨_,j,rfl⟩;have p:=sub_AttributeError;have n1:=N.own.lookup;have n2:=N.own.bind (.ref a);have n3:=N.rest
 delta getAttr? getAttrBy? getAttrBy
 repeat' (first|assumption|exact ty _|(apply ja N.own (ty _) N.entry (N.two _ _) (N.miss a i k b _))|wp_step)
 refine⟨j,m,λq r ex nx=>?_⟩;obtain⟨u,v,there⟩:=nx.there;have g:=λt=>h _ t _ nx.of
 dsimp only[wants]
 delta getattributeRaised
 repeat' (first|assumption|apply g|wp_step)
namespace F
end F
open PySem.W
section
variable (key:Nat->Nat)
def yG (p:Array Nat)(i:Nat):Nat:=key (p.getD i 0)
variable {key}
def BN (key:Nat->Nat)(p:Array Nat)(m:Nat):Prop:=∀i,1<=i->i<m->yG key p (i-1)<=yG key p i
theorem BN.le (h:BN key p m):∀d i,i+d<m->yG key p i<=yG key p (i+d)
 |0,i,_=>ah _
 |d+1,i,hm=>by exact bh (BN.le h d i (by omega)) (h (i+d+1) (by omega) (by omega))
end
def uf {α:Type}(n:Nat)(Q:α->Prop):KasT α->Prop
 |.ret a=>Q a
 |.ask i j k=>i<n/\j<n/\∀b,uf n Q (k b)
theorem uf.bind {c d:Type}{Q:c->Prop}{R:d->Prop}{f:c->KasT d}(e:∀a,Q a->uf n R (f a)):∀{t:KasT c},uf n Q t->uf n R (t.bind f)
 |.ret a,h=>e a h
 |.ask i j k,h=>⟨h.1,h.2.1,λb=>uf.bind e (h.2.2 b)⟩
def AllIn (n:Nat)(p:Array Nat):Prop:=0<n/\∀x∈p,x<n
theorem AllIn.get (h:AllIn n p)(i:Nat):p.getD i 0<n:=by
 rw[Array.getD_eq_getD_getElem?];cases e:p[i]? with
 |none=>exact h.1
 |some x=>exact h.2 x (Array.mem_of_getElem? e)
structure kA (p:D->Prop):Prop where
 lE:∀x,p x->iZ x x=Z6
 tr:∀x y z,p x->p y->p z->iZ x y=Z7->iZ y z=Z7->iZ x z=Z7
 lF:∀x y z,p x->p y->p z->iZ x z=Z7->iZ x y=Z7\/iZ y z=Z7
 kB:∀x y,p x->p y->iZ x y=Z6->iZ y x=Z6->x=y
theorem nJ (h:AU x=Z7):∃i,x=.int i:=by cases x<;>first|(cases h;done)|exact⟨_,rfl⟩
theorem nK (h:AV x=Z7):∃i,x=.str i:=by cases x<;>first|(cases h;done)|exact⟨_,rfl⟩
theorem vY (a b:Int):iZ (.int a) (.int b)=decide (a<b):=rfl
theorem Oj (a b:Str):iZ (.str a) (.str b)=decide (a.cps.toList<b.cps.toList):=rfl
theorem BO:kA (λx=>AU x=Z7) where
 lE:=λx h=>by obtain⟨i,rfl⟩:=nJ h;rw[vY];simp
 tr:=λx y z hx a b c d=>by obtain⟨i,rfl⟩:=nJ hx;obtain⟨j,rfl⟩:=nJ a;obtain⟨k,rfl⟩:=nJ b;rw[vY,decide_eq_true_eq]at *;omega
 lF:=λx y z hx a b h=>by
  obtain⟨i,rfl⟩:=nJ hx;obtain⟨j,rfl⟩:=nJ a;obtain⟨k,rfl⟩:=nJ b;rw[vY,decide_eq_true_eq]at *
  rw[vY,decide_eq_true_eq];omega
 kB:=λx y hx a c d=>by
  obtain⟨i,rfl⟩:=nJ hx;obtain⟨j,rfl⟩:=nJ a;rw[vY,decide_eq_false_iff_not]at *
  rw[show i=j by omega]
theorem Ol {b:Str}(h:a.cps.toList=b.cps.toList):a=b:=by obtain⟨⟨l⟩⟩:=a;obtain⟨⟨m⟩⟩:=b;simp only at h;rw[h]
theorem BP:kA (λx=>AV x=Z7) where
 lE:=λx h=>by obtain⟨i,rfl⟩:=nK h;rw[Oj];simp_all
 tr:=λx y z hx a b c d=>by obtain⟨i,rfl⟩:=nK hx;obtain⟨j,rfl⟩:=nK a;obtain⟨k,rfl⟩:=nK b;exact strKind.trans _ _ _ c d
 lF:=λx y z hx a b h=>by obtain⟨i,rfl⟩:=nK hx;obtain⟨j,rfl⟩:=nK a;obtain⟨k,rfl⟩:=nK b;exact strKind.negTrans _ _ _ h
 kB:=λx y hx a c d=>by obtain⟨i,rfl⟩:=nK hx;obtain⟨j,rfl⟩:=nK a;rw[Ol (strKind.total _ _ c d)]
theorem BQ (b:Bool):kA (λx=>ub b x=Z7):=by
 cases b with
 |true=>exact BO
 |false=>exact BP
theorem Om (hx:ub b x=Z7)(a:ub b y=Z7):bO x y=Z7↔x=y:=by
 cases b with
 |true=>obtain⟨i,rfl⟩:=nJ hx;obtain⟨j,rfl⟩:=nJ a;show(i==j)=Z7↔_;rw[beq_iff_eq];exact⟨λh=>by rw[h],λh=>by cases h;rfl⟩
 |false=>obtain⟨i,rfl⟩:=nK hx;obtain⟨j,rfl⟩:=nK a;show(i==j)=Z7↔_;rw[beq_iff_eq];exact⟨λh=>by rw[h],λh=>by cases h;rfl⟩
theorem nM (h:kS (b::bs) a=Z7):∃x r,a=x::r/\ub b x=Z7/\kS bs r=true:=by
 cases a with
 |nil=>cases h
 |cons x r=>simp only[kS,aq]at h;exact⟨x,r,rfl,h.1,h.2⟩
theorem nN (h:kS [] a=Z7):a=[]:=by
 cases a with
 |nil=>rfl
 |cons x r=>cases h
theorem GA (x y:D)(a b:List D):aQ (x::a) (y::b)=if bO x y then aQ a b else iZ x y:=by simp only[aQ]
theorem BS:aQ [] []=false:=by simp[aQ]
theorem z1x.some (x:z1x P w H h a o):∃q,h.get? a=Z9 q:=by
 cases o with
 |lst b=>obtain⟨_,_,_,_,e⟩:=x;exact⟨_,e⟩
 |tup b=>obtain⟨_,_,_,_,e⟩:=x;exact⟨_,e⟩
 |dK kvs=>obtain⟨_,_,_,_,o,_,_,e,_⟩:=x;exact⟨_,e⟩
 |dT kvs=>obtain⟨_,_,_,_,o,_,_,e,_⟩:=x;exact⟨_,e⟩
 |set S n=>obtain⟨ob,es,ep,t,e,c⟩:=x;exact⟨_,e⟩
 |ins C dx fs=>obtain⟨d,z,ne,e,_⟩:=x;exact⟨_,e⟩
 |own y=>exact x
 |xd fs=>obtain⟨f,⟨od,es,ep,e,c⟩,r⟩:=x;exact⟨_,e⟩
 |iD ob u=>exact⟨_,x.1⟩
 |qH ps=>exact⟨_,x⟩
 |ext g=>obtain⟨p,⟨o,e⟩,st⟩:=x;exact⟨_,e⟩
structure iS (p:D->Prop):Prop extends kA p where
 eq:∀x y,p x->p y->(bO x y=Z7↔x=y)
structure cS (q:List D->Prop):Prop where
 lE:∀x,q x->aQ x x=Z6
 tr:∀x y z,q x->q y->q z->aQ x y=Z7->aQ y z=Z7->aQ x z=Z7
 lF:∀x y z,q x->q y->q z->aQ x z=Z7->aQ x y=Z7\/aQ y z=Z7
 kB:∀x y,q x->q y->aQ x y=Z6->aQ y x=Z6->x=y
 eq:∀x y,q x->q y->(ZU x y=Z7↔x=y)
section
variable {p:D->Prop}(O:iS p){x y z:D}{xs ys zs:List D}
include O
theorem fZ (hx:p x)(a:p y)(h:x=y):aQ (x::xs) (y::ys)=aQ xs ys:=by rw[GA,qe ((O.eq x y hx a).mpr h)]
theorem eA (hx:p x)(a:p y)(h:x≠y):aQ (x::xs) (y::ys)=iZ x y:=by rw[GA,qf λz=>h ((O.eq x y hx a).mp z)]
theorem vZ (hx:p x)(hy:p y)(hz:p z)(ih:aQ xs ys=Z7->aQ ys zs=Z7->aQ xs zs=Z7)(e1:aQ (x::xs) (y::ys)=Z7)(e2:aQ (y::ys) (z::zs)=Z7):aQ (x::xs) (z::zs)=true:=by
 by_cases xy:x=y
 .rw[fZ O hx hy xy]at e1;by_cases yz:y=z
  .rw[fZ O hy hz yz]at e2;rw[fZ O hx hz (xy.trans yz)];exact ih e1 e2
  .rw[eA O hy hz yz]at e2;rw[eA O hx hz (xy▸yz),xy];exact e2
 .rw[eA O hx hy xy]at e1;by_cases yz:y=z
  .rw[eA O hx hz (yz▸xy),<-yz];exact e1
  .rw[eA O hy hz yz]at e2;have e3:=O.tr x y z hx hy hz e1 e2;rw[eA O hx hz (λq=>by subst q;rw[O.lE x hx]at e3;cases e3)];exact e3
theorem GB (hx:p x)(a:p y)(c:p z)(g:aQ xs zs=Z7->aQ xs ys=Z7\/aQ ys zs=Z7)(e:aQ (x::xs) (z::zs)=Z7):aQ (x::xs) (y::ys)=Z7\/aQ (y::ys) (z::zs)=true:=by
 by_cases d:x=z
 .rw[fZ O hx c d]at e;by_cases b:x=y
  .rw[fZ O hx a b,fZ O a c (b.symm.trans d)];exact g e
  .rw[eA O hx a b,eA O a c (λq=>b (d.trans q.symm)),<-d];cases h:iZ x y with
   |true=>exact .inl rfl
   |false=>
    cases i:iZ y x with
    |true=>exact .inr rfl
    |false=>exact(b (O.kB x y hx a h i)).elim
 .rw[eA O hx c d]at e;by_cases b:x=y
  .rw[eA O a c (λq=>d (b.trans q)),<-b];exact .inr e
  .rw[eA O hx a b];by_cases f:y=z
   .rw[f];exact .inl e
   .rw[eA O a c f];exact O.lF x y z hx a c e
theorem GC (hx:p x)(b:p y)(e:aQ xs ys=Z6->aQ ys xs=Z6->xs=ys)(c:aQ (x::xs) (y::ys)=Z6)(d:aQ (y::ys) (x::xs)=Z6):x::xs=y::ys:=by
 by_cases a:x=y
 .rw[fZ O hx b a]at c;rw[fZ O b hx a.symm]at d;rw[a,e c d]
 .rw[eA O hx b a]at c;rw[eA O b hx (λq=>a q.symm)]at d;exact(a (O.kB x y hx b c d)).elim
theorem GF (hx:p x)(a:p y)(b:ZU xs ys=Z7↔xs=ys):ZU (x::xs) (y::ys)=Z7↔x::xs=y::ys:=by rw[ZU,aq,b,List.cons.injEq];exact and_congr (O.eq x y hx a) Iff.rfl
end
theorem cS.nil:cS (λl=>l=[]) where
 lE:=λx h=>by rw[h];exact BS
 tr:=λx y z a b c d f=>by rw[a,b]at d;cases d
 lF:=λx y z a b c e=>by rw[a,c]at e;cases e
 kB:=λx y a b _ _=>a.trans b.symm
 eq:=λx y a b=>by rw[a,b];exact⟨λ_=>rfl,λ_=>rfl⟩
theorem cS.cons {p:D->Prop}{q:List D->Prop}(O:iS p)(L:cS q):cS (λl=>∃x r,l=x::r/\p x/\q r) where
 lE:=λl h=>by obtain⟨x,r,rfl,hx,hr⟩:=h;rw[fZ O hx hx rfl];exact L.lE r hr
 tr:=λl1 l2 l3 h1 h2 h3=>by obtain⟨x,r,rfl,hx,hr⟩:=h1;obtain⟨y,t,rfl,hy,ht⟩:=h2;obtain⟨z,u,rfl,hz,hu⟩:=h3;exact vZ O hx hy hz (L.tr _ _ _ hr ht hu)
 lF:=λl1 l2 l3 h1 h2 h3=>by obtain⟨x,r,rfl,hx,hr⟩:=h1;obtain⟨y,t,rfl,hy,ht⟩:=h2;obtain⟨z,u,rfl,hz,hu⟩:=h3;exact GB O hx hy hz (L.lF _ _ _ hr ht hu)
 kB:=λl1 l2 h1 h2=>by obtain⟨x,r,rfl,hx,hr⟩:=h1;obtain⟨y,t,rfl,hy,ht⟩:=h2;exact GC O hx hy (L.kB _ _ hr ht)
 eq:=λl1 l2 h1 h2=>by obtain⟨x,r,rfl,hx,hr⟩:=h1;obtain⟨y,t,rfl,hy,ht⟩:=h2;exact GF O hx hy (L.eq _ _ hr ht)
theorem Oq (h:aQ [] a=Z7):∃y r,a=y::r:=by
 cases a with
 |nil=>rw[BS]at h;cases h
 |cons y r=>exact⟨y,r,rfl⟩
theorem wa (y:D)(r:List D):aQ [] (y::r)=true:=by simp[aQ]
theorem yH (y:D)(r:List D):aQ (y::r) []=false:=by simp[aQ]
section
variable {p:D->Prop}(O:iS p)
include O
theorem GH:∀a:List D,(∀x∈a,p x)->aQ a a=Z6
 | [],_=>BS
 |x::a,h=>by rw[fZ O (h x (by simp)) (h x (by simp)) rfl];exact GH a λz b=>h z (by simp[b])
theorem wc:∀c d a:List D,(∀x∈c,p x)->(∀x∈d,p x)->(∀x∈a,p x)->aQ c d=Z7->aQ d a=Z7->aQ c a=Z7
 | [],d,a,f,g,h,e,b=>by
  obtain⟨y,r,rfl⟩:=Oq e;cases a with
  |nil=>rw[yH]at b;cases b
  |cons z t=>exact wa z t
 |x::c,[],a,f,g,h,e,b=>by rw[yH]at e;cases e
 |x::c,y::d,[],f,g,h,e,b=>by rw[yH]at b;cases b
 |x::c,y::d,z::a,f,g,h,e,b=>vZ O (f x (by simp)) (g y (by simp)) (h z (by simp)) (wc c d a (λw i=>f w (by simp[i])) (λw i=>g w (by simp[i])) λw i=>h w (by simp[i])) e b
theorem GI:∀c b a:List D,(∀x∈c,p x)->(∀x∈b,p x)->(∀x∈a,p x)->aQ c a=Z7->aQ c b=Z7\/aQ b a=Z7
 | [],[],a,d,f,g,e=>.inr e
 | [],y::b,a,d,f,g,e=>.inl (wa y b)
 |x::c,b,[],d,f,g,e=>by rw[yH]at e;cases e
 |x::c,[],z::a,d,f,g,e=>.inr (wa z a)
 |x::c,y::b,z::a,d,f,g,e=>GB O (d x (by simp)) (f y (by simp)) (g z (by simp)) (GI c b a (λw h=>d w (by simp[h])) (λw h=>f w (by simp[h])) λw h=>g w (by simp[h])) e
theorem GJ:∀a b:List D,(∀x∈a,p x)->(∀x∈b,p x)->aQ a b=Z6->aQ b a=Z6->a=b
 | [],[],e,f,c,d=>rfl
 | [],y::b,e,f,c,d=>by rw[wa]at c;cases c
 |x::a,[],e,f,c,d=>by rw[wa]at d;cases d
 |x::a,y::b,e,f,c,d=>GC O (e x (by simp)) (f y (by simp)) (GJ a b (λw g=>e w (by simp[g])) λw g=>f w (by simp[g])) c d
theorem we:∀a b:List D,(∀x∈a,p x)->(∀x∈b,p x)->(ZU a b=Z7↔a=b)
 | [],[],c,d=>⟨λ_=>rfl,λ_=>rfl⟩
 | [],y::b,c,d=>⟨λh=>by simp[ZU]at h,λh=>nomatch h⟩
 |x::a,[],c,d=>⟨λh=>by simp[ZU]at h,λh=>nomatch h⟩
 |x::a,y::b,c,d=>GF O (c x (by simp)) (d y (by simp)) (we a b (λw e=>c w (by simp[e])) λw e=>d w (by simp[e]))
theorem cS.all:cS (λl=>∀x∈l,p x):=⟨GH O,wc O,GI O,GJ O,we O⟩
end
theorem cS.tup {q:List D->Prop}(L:cS q):iS (λd=>∃l,d=.tuple l/\q l) where
 lE:=λd h=>by obtain⟨l,rfl,h⟩:=h;exact L.lE l h
 tr:=λx y z a b c=>by obtain⟨l,rfl,a⟩:=a;obtain⟨m,rfl,b⟩:=b;obtain⟨n,rfl,c⟩:=c;exact L.tr l m n a b c
 lF:=λx y z a b c=>by obtain⟨l,rfl,a⟩:=a;obtain⟨m,rfl,b⟩:=b;obtain⟨n,rfl,c⟩:=c;exact L.lF l m n a b c
 kB:=λx y a b e f=>by obtain⟨l,rfl,a⟩:=a;obtain⟨m,rfl,b⟩:=b;rw[L.kB l m a b e f]
 eq:=λx y a b=>by obtain⟨l,rfl,a⟩:=a;obtain⟨m,rfl,b⟩:=b;show ZU l m=Z7↔_;rw[L.eq l m a b];exact⟨λh=>by rw[h],λh=>by cases h;rfl⟩
theorem iS.of (O:iS q)(h:∀d,p d->q d):iS p where
 lE:=λx hx=>O.lE x (h x hx)
 tr:=λx y z hx a b=>O.tr x y z (h x hx) (h y a) (h z b)
 lF:=λx y z hx a b=>O.lF x y z (h x hx) (h y a) (h z b)
 kB:=λx y hx a=>O.kB x y (h x hx) (h y a)
 eq:=λx y hx a=>O.eq x y (h x hx) (h y a)
theorem Ot (b:Bool):iS (λx=>ub b x=Z7):=⟨BQ b,λ_ _=>Om⟩
theorem cS.sh:∀bs,cS (λl=>kS bs l=Z7)
 | []=>⟨λx h=>cS.nil.lE x (nN h),λx y z h1 h2 h3=>cS.nil.tr x y z (nN h1) (nN h2) (nN h3),λx y z h1 h2 h3=>cS.nil.lF x y z (nN h1) (nN h2) (nN h3),λx y h1 h2=>cS.nil.kB x y (nN h1) (nN h2),λx y h1 h2=>cS.nil.eq x y (nN h1) (nN h2)⟩
 |b::bs=>by have L:=cS.cons (Ot b) (cS.sh bs);exact⟨λx h=>L.lE x (nM h),λx y z h1 h2 h3=>L.tr x y z (nM h1) (nM h2) (nM h3),λx y z h1 h2 h3=>L.lF x y z (nM h1) (nM h2) (nM h3),λx y h1 h2=>L.kB x y (nM h1) (nM h2),λx y h1 h2=>L.eq x y (nM h1) (nM h2)⟩
theorem Ou (h:(eX P w).is k u=Z7):RelV (kV k) u:=by
 rcases oB h with⟨i,t,rfl,rfl⟩|⟨x,t,rfl,rfl⟩
 .exact⟨t,rfl⟩
 .exact⟨t,rfl⟩
theorem bG.at {K:Z5}:∀{kvs:List (Key×V)} {es:dF} {i:Nat} {k:Key} {v:V},bG K H B kvs es->kvs[i]?=Z9 (k,v)->∃d,es[i]?=Z9 (kD k,d)/\keyOk k/\Rep K H B v d
 |kvs,[],i,k,v,r,e=>by have:kvs=[]:=r;subst this;simp at e
 |kvs,(kd,d)::es,i,k,v,r,e=>by
  obtain⟨c,f,t,rfl,rfl,ok,a,b⟩:=r;cases i with
  |zero=>cases e;exact⟨d,rfl,ok,a⟩
  |succ i=>rw[ej]at e ⊢;exact bG.at b e
theorem Ov {K:Z5}(ok:keyOk k):Rep K H B (kV k) (kD k):=by
 cases k with
 |inl i=>exact rfl
 |inr x=>exact⟨rfl,ok⟩
section
variable {X:Cx}
theorem Ow {K:Z5}{i:Nat}(so:StOk K F H k l)(e:l[i]?=Z9 (Z9 (g,.dict es))):∃d a B,k[i]?=Z9 (Z9 (.ref d))/\H d=Z9 (.dK a)/\F.V d/\bG K H B a es:=by
 obtain⟨v,f,j⟩:=so.sl i g _ e;cases g with
 |fr=>
  obtain⟨p,rfl,ho,h⟩:=j;rcases h with⟨_,_,z,_⟩|⟨a,m,z,c,r⟩
  .cases z
  .cases z;exact⟨p,a,_,f,c,(so.own p i ho).2.1,r⟩
 |od=>obtain⟨p,a,rfl,c,b,r⟩:=j;exact⟨p,a,_,f,c,b.2,r⟩
 |al=>obtain⟨p,a,rfl,c,b,r⟩:=j;exact⟨p,a,_,f,c,b,r⟩
 |nu=>obtain⟨p,a,rfl,c,b,r⟩:=j;exact⟨p,a,_,f,c,b.2.2,r⟩
end
theorem GK {P:bp}{w:World}:∀{kvs:List (Key×V)} {vs:List (Key×Value)} {us:List Value},KV kvs vs->us.length=vs.length->(∀(j:Nat) u,us[j]?=Z9 u->∃k x,vs[j]?=Z9 (k,x)/\(eX P w).is k u=Z7)->Vals (kvs.map λkv=>kV kv.1) us
 | [],_,us,.nil,hl,_=>by cases dt hl;exact .nil
 |(k,v)::kvs,_::vs,us,.cons hq t,hl,h=>by
  cases us with
  |nil=>cases hl
  |cons u us=>obtain⟨k',x,e,hk⟩:=h 0 u rfl;cases e;have Ox:k=k':=hq.1;subst Ox;exact .cons (Ou hk) (GK t (by simpa using hl) λj u e=>by simpa using h (j+1) u (by simpa using e))
theorem bG.keys {K:Z5}:∀{kvs:List (Key×V)} {es:dF},bG K H B kvs es->Reps K H B' (kvs.map λkv=>kV kv.1) (es.map (·.1))
 |kvs,[],r=>by have e:kvs=[]:=r;subst e;exact rfl
 |kvs,(kd,d)::es,r=>by obtain⟨k,v,t,e,e2,ok,h,q⟩:=r;subst e e2;exact Reps.cons (Ov ok) q.keys
section
variable {X:Cx}{a b:Expr}{pos:Pos}{fa fb:Rho->Res GD}
def Oy (K:Z5):List V->Hp->VK->Prop:=λxs H Q=>∃d kvs es B,xs=[.ref d]/\H d=Z9 (.dK kvs)/\bG K H B kvs es/\es.length<=LIM/\∀w H',Same H H'->Rep K H' (nw H) w (.list (es.map (·.1)))->Q w H'
theorem Oz (hc:X.calm=Z7):CallR X (.type "list") (Oy X.K):=by intro pins s σ H xs us Q I r h;obtain⟨d,kvs,es,B,rfl,hd,rs,hl,q⟩:=h;obtain⟨u,rfl,ru⟩:=vals1 r;cases ru;obtain⟨hz,BU,vs,rel,o,Gs,ep,ho,OA,BV,r3⟩:=vk I.hok hd;have OB:s.heap.DictAt (eX X.prog X.w) d vs ep:=⟨o,Gs,ho,OA,BV,r3⟩;have lk:kvs.length=vs.length:=rel.length;have le:kvs.length=es.length:=rs.length;refine kdl_call (kdl_dict (knd:=eX X.prog X.w) (kvs:=vs) (ep:=ep) BU) (I.ok.hd hc) OB (by omega) λh' tk acc c hk hS wg=>?_;have rv:Vals (kvs.map λkv=>kV kv.1) acc.toList:=GK rel (by rw[db];exact wg.1) λj u e=>wg.2 j u (by rw[<-ju];exact e);have hD:H s.heap.objs.size=none:=I.hok.fresh (ah _);have I3:=I.laid (a:=s.heap.objs.size) (o:=.lst (kvs.map λkv=>kV kv.1)) (t':=tk) (h':=h') hk (ah _) ⟨by rw[ai];omega,acc.toList,c,rv,by simpa using hS⟩;exact⟨.ref s.heap.objs.size,_,I3,rfl,q _ _ (Same.upd hD) (qP hD (bG.keys (B':=nw H) rs) (λ_ z=>z) hD)⟩
theorem d_lk {i:Nat}{f x:Str}{p p2:Pos}(hc:X.calm=Z7)(hm:X.mg f=Z8)(hb:cr f=Z9 (.type "list"))(hg:Gl X f)(hn:f≠"__name__")(hfd:VB f)
  (hN:X.N[i]?=Z9 x) (hv:Vis X.env.scope x) (Au:VB x) (hcd:(x==("__classdict__":Str))=Z6):
  PE X (.Call (.Name f p) [.Name x p2] [] pos) (tD X.K λρ=>match ρ[i]? with
   |some (Z9 (_,.dict es))=>if decide (es.length<=LIM)then .ok (.fr,.list (es.map (·.1)))else .no
   |_=>.no):=
 PE.imp (yk (Oz hc) hm hb (dO (mM hN hv Au hcd) kO rfl) rfl hg hn hfd) λσ H Q zz=>by
  obtain⟨ρ,F,z,so,e,q⟩:=zz
  dsimp only at e
  split at e
  case h_2=>cases e
  rename_i g es hr;split at e
  case isFalse=>cases e
  rename_i wj;cases e;obtain⟨d,kvs,B,hσ,hH,hV,rs⟩:=Ow so hr;exact⟨_,hσ,d,kvs,es,B,rfl,hH,rs,qj wj,λw H' sm vo=>q w H' sm vo⟩
theorem BW (ha:PE X a (tD X.K fa))(hb:PE X b (tD X.K fb)):PE X (.Dict [Z9 a] [b] pos) (tD X.K λρ=>fa ρ>>=λx=>fb ρ>>=λy=>if jY x.2&&imm y.2 then .ok (.fr,.dict [(x.2,y.2)])else .no):=
 PE.imp (zk3 (zgj ha hb Lx) rfl rfl (by simp) (by simp)) λσ H Q zz=>by
  obtain⟨ρ,F,z,so,e,q⟩:=zz;obtain⟨x,e1,e⟩:=Res.aA e;obtain⟨y,e2,e⟩:=Res.aA e;split at e
  .rename_i hc;cases e;rw[aw]at hc;intro p hp;have s0:Same H (upd H p (.dK [])):=Same.upd hp;refine⟨ρ,F,x,so.same s0,e1,λu H1 s1 ru=>⟨ρ,F,y,so.same (s0.trans s1),e2,λw H2 s2 vo=>?_⟩⟩;obtain⟨k,ek,OC,ok⟩:=yt hc.1 ru;subst OC;have e5:H2 p=Z9 (.dK []):=s2 _ _ (s1 _ _ bL);refine⟨e5,[(k,w)],rfl,by simp,q _ _ (λa o e=>?_) ⟨p,[(k,w)],rfl,bL,hp,⟨k,w,[],rfl,ek,ok,Rep.bT (λa o e f=>?_) y.2 hc.2 vo,rfl⟩⟩⟩
   .have jM:=fQ e hp;rw[aL jM];exact s2 _ _ (s1 _ _ (by rw[aL jM];exact e))
   .have jM:a≠p:=λz=>by subst z;rw[e5]at e;cases e;exact f
    rw[aL jM];exact e
  .cases e
end
section
variable {X:Cx}{tg a b c e:Expr}{es:List Expr}{fa fb:Rho->Res GD}{pos:Pos}
theorem zod (hc:CallR X (.type T) (z6p X.K m))(hm:X.mg x=Z8)(l:cr x=Z9 (.type T))(n:PA X (e::es) (tDA X.K fs))(c:((e::es).all fun e=>!isStar e)=Z7)(o:Gl X x)(hn:x≠"__name__")(f:VB x):
  PE X (.Call (.Name x p) (e::es) [] pos) (tD X.K λg=>fs g>>=λi=>m (i.map (·.2))>>=λd=>.ok (gJ d .al,d)):=by
 refine PE.imp (yk hc hm l n c o hn f) λy H Q r=>?_;obtain⟨g,F,z,so,b,q⟩:=r;obtain⟨i,s,b⟩:=Res.aA b;obtain⟨d,t,b⟩:=Res.aA b;cases b;exact⟨g,F,i,so,s,λA B k rs=>⟨_,_,d,rs.iQ so.aO,t,λw u v j=>q w u (k.trans v) (qO j λa h=>h.elim (λz=>(nw.back k z).aO so.aO) λz=>z)⟩⟩
theorem OD:CallR X (.type "int") (z6p X.K (iF "int")):=by
 refine CallR.imp (CallR.or Lb NT) λe H Q h=>?_;obtain⟨B,f,d,r,a,q⟩:=h;simp only[iF,show("int":String)≠"len" by decide,show("int":String)≠"max" by decide,if_true,if_false]at a;split at a
 .rename_i i;cases a;obtain⟨v,rfl,b⟩:=ud r;obtain rfl:v=.int i:=b;exact .inl (.inl ⟨i,rfl,q _ H (Same.refl H) rfl⟩)
 .rename_i k;cases a;obtain⟨v,rfl,b⟩:=ud r;obtain rfl:v=.bl k:=b;exact .inl (.inr ⟨k,rfl,q _ H (Same.refl H) rfl⟩)
 .rename_i x;unfold pA at a;split at a
  .rename_i c;cases a;rw[aw]at c;obtain⟨v,rfl,b⟩:=ud r;obtain rfl:v=.str x:=b.1;exact .inr ⟨x,rfl,c.1,qj c.2,q _ H (Same.refl H) rfl⟩
  .cases a
 .cases a
theorem OE (i:Int):Z1 (toString i:String)=true:=by
 have a:∀c:Char,c.toNat<1114112:=λc=>by
  rcases c.valid with h|h
  .have b:c.val.toNat<55296:=h;show c.val.toNat<_;omega
  .exact h.2
 unfold Z1;rw[Str.ofString_eq_toList];simp only[mn,List.all_toArray,be];intro c _;exact qk (a c)
theorem OG:CallR X (.type "str") (z6p X.K (iF "str")):=by
 refine CallR.imp Lc λc H Q h=>?_;obtain⟨B,e,d,r,a,q⟩:=h;simp only[iF,show("str":String)≠"len" by decide,show("str":String)≠"max" by decide,show("str":String)≠"int" by decide,if_true,if_false]at a;split at a
 .rename_i i;split at a
  .rename_i hi;cases a;obtain⟨v,rfl,b⟩:=ud r;obtain rfl:v=.int i:=b;exact⟨i,rfl,hi,q _ H (Same.refl H) ⟨rfl,OE i⟩⟩
  .cases a
 .cases a
end
abbrev ZRec (TI TO:Addr)(f0:Value)(f1:Bool):Obj:={cls:=.type "zip",dict:=Z8,data:=.fields #[f0,.bool f1,.bool Z6,.ref TI,.ref TO],slots:=#[]}
def ZF (f0:Value):Prop:=f0=Value.none\/∃T:Nat,f0=l9 T
section
variable {prog:bp}{w:World}{A:d9}{E:Value->au->Prop}{s:au}{z TI TO:Addr}{f0:Value}{f1:Bool}
theorem OH (h:Q (s.heap.get? a) s):wpAny (model prog w) A (loadIfAlive a) Q E s:=λ_ _ _=>h
theorem GL (hf:ZF f0)(a:s.heap.get? z=Z9 (ZRec TI TO f0 f1))(d:∀b c e,c.get? z=Z9 (ZRec TI TO f0 e)->bv z s.heap c->Q b {s with heap:=c}):wpAny (model prog w) A (i7 (.ref z)) Q E s:=by
 delta i7
 apply ae;refine dm a rfl rfl ?_;rcases hf with rfl|⟨T,rfl⟩
 .exact az (d Z7 s.heap f1 a (Heap.SameBut.refl ..))
 .show wpAny _ _ (loadIfAlive ((T:Int).toNat)>>=_) _ _ _;apply ae;refine OH ?_;cases s.heap.get? ((T:Int).toNat)with
  |none=>exact az (d Z7 s.heap f1 a (Heap.SameBut.refl ..))
  |some o=>
   apply ae;refine dm a rfl rfl ?_;cases f1 with
   |true=>exact az (d Z6 s.heap Z7 a (Heap.SameBut.refl ..))
   |false=>apply ae;exact dz a (by simp) λc f g=>az (d Z6 c Z7 f g)
structure ZApart (z TI TO i1 i2:Addr)(p1 p2:List Addr):Prop where
 TIz:TI≠z
 TOz:TO≠z
 i1z:i1≠z
 i2z:i2≠z
 TITO:TI≠TO
 TIi1:TI≠i1
 TIi2:TI≠i2
 TOi1:TO≠i1
 TOi2:TO≠i2
 i12:i1≠i2
 wm:z∉p1
 GN:TO∉p1
 GO:i2∉p1
 wo:z∉p2
 BX:TO∉p2
 yI:i1∉p2
variable {i1 i2:Addr}{p1 p2:List Addr}{n1 n2 i:Nat}{P1 P2:Nat->Value->Prop}{S1 S2:Nat->Heap->Prop}{a b:Value}
abbrev PairAt (h:Heap)(T:Addr)(a b:Value):Prop:=h.get? T=Z9 {cls:=.type "tuple",data:=.seq #[a,b]}
def Zk (z TO i1 i2:Addr)(h h':Heap):Prop:=∀c o,c≠z->c≠TO->c≠i1->c≠i2->h.get? c=Z9 o->h'.get? c=Z9 o
theorem BY (d:PairAt s.heap T a b)(h:∀c,c.get? T=Z9 {cls:=.type "tuple",data:=.seq ((#[a,b]:Array Value).setIfInBounds k x)}->bv T s.heap c->Q () {s with heap:=c}):wpAny (model prog w) A (updateSeq T (·.setIfInBounds k x)) Q E s:=wpAny_updateSeq d rfl (h _ (by rw[jt _ d rfl];simp[Obj.mapSeq]) (n7 ..))
theorem zem {Q:Value->au->Prop}(D:ZApart z TI TO i1 i2 p1 p2)(k:Draws prog w A i1 p1 n1 P1 S1)(l:Draws prog w A i2 p2 n2 P2 S2)(hf:ZF f0)(M:s.heap.get? z=Z9 (ZRec TI TO f0 f1))(N:PairAt s.heap TI (.ref i1) (.ref i2))(O:PairAt s.heap TO a b)(h1:S1 i s.heap)(h2:S2 i s.heap)(Y:i<n1)(l2:i<n2)
  (Z:∀x y n P F h a' b',P1 i x->P2 i y->ZF F->n.get? z=Z9 (ZRec TI TO F h)->PairAt n TO a' b'->S1 (i+1) n->S2 (i+1) n->PairAt n s.heap.objs.size x y->Zk z TO i1 i2 s.heap n->Q (.ref s.heap.objs.size) {s with heap:=n,toks:=P}):
  wpAny (model prog w) A (Builtin.«zip.__next__» {pos:=[.ref z],kw:=[]}) (λR s'=>∃v,R=.done (.ret v)/\Q v s') E s:=by
 show wpAny (model prog w) A (field (.ref z) 2>>=_) _ E s;apply ae;refine dm M rfl rfl ?_;apply ae;refine dm M rfl rfl ?_;apply ae;refine fq N rfl ?_;apply ae;refine GL hf M λbf G h f j=>?_;have H:=λc o hc e=>j.extBut c o hc e;have e1:=k.frame _ _ _ h1 λb hb o e=>H b o (λq=>D.wm (q▸hb)) e;have e2:=l.frame _ _ _ h2 λb hb o e=>H b o (λq=>D.wo (q▸hb)) e;have t0:=H _ _ D.TOz O;have I:=j.1;cases bf with
 |true=>
  apply ae;refine oy ?_;apply ae;refine dm f rfl rfl ?_;apply ae;refine dz f (by simp) λha S ka=>?_;replace S:ha.get? z=Z9 (ZRec TI TO .ellipsis h):=S;apply ae;apply ae;apply ae;apply lh;apply ae;refine k.item i _ _ _ Y (k.frame _ _ _ e1 λb hb o e=>ka.extBut b o (λq=>D.wm (q▸hb)) e) λx hb P p r g=>az ?_;replace g:bv i1 ha hb:=g;have tb:=g.extBut _ _ D.TOi1 (ka.extBut _ _ D.TOz t0);apply ae;refine fq tb rfl ?_;apply ae;refine BY tb λhc tc kc=>?_;replace tc:PairAt hc TO x b:=tc;replace kc:bv TO hb hc:=kc;apply ae;refine p8 (az ?_);apply ae;apply ae;apply lh;apply ae;refine l.item i _ _ _ l2 (l.frame _ _ _ (l.frame _ _ _ (l.frame _ _ _ e2 λb hb o e=>ka.extBut b o (λq=>D.wo (q▸hb)) e) λb d o e=>g.extBut b o (λq=>D.yI (q▸d)) e) λb d o e=>kc.extBut b o (λq=>D.BX (q▸d)) e) λy hd t u B kd=>az ?_;replace kd:bv i2 hc hd:=kd;have td:=kd.extBut _ _ D.TOi2 tc;apply ae;refine fq td rfl ?_;apply ae;refine BY td λm L C=>?_;replace L:PairAt m TO x y:=L;replace C:bv TO hd m:=C;apply ae;refine p8 (az (az ?_));apply ae;refine fq L rfl ?_;apply ae;refine wpAny_newTuple ?_;have sz:m.objs.size=s.heap.objs.size:=by rw[C.1,kd.1,kc.1,g.1,ka.1,I]
  have ze:=C.extBut _ _ D.TOz.symm (kd.extBut _ _ D.i2z.symm (kc.extBut _ _ D.TOz.symm (g.extBut _ _ D.i1z.symm S)));have J:=bd ze;apply ae
  delta Builtin.SmallTypes.ownedTupleHandOut
  have zf:(m.push {cls:=.type "tuple",data:=.seq #[x,y]}).get? z=Z9 (ZRec TI TO .ellipsis h):=ak _ ze;apply ae;refine dz zf (by simp) λhg T kg=>?_;replace T:hg.get? z=Z9 (ZRec TI TO (l9 m.objs.size) h):=T;refine dz T (by simp) λhh U kh=>?_;replace U:hh.get? z=Z9 (ZRec TI TO (l9 m.objs.size) Z6):=U;have up:∀c o,c≠z->m.get? c=Z9 o->hh.get? c=Z9 o:=λc o hc e=>kh.extBut _ _ hc (kg.extBut _ _ hc (ak _ e));have new:=kh.extBut _ _ (l8 J) (kg.extBut _ _ (l8 J) (a7 _ rfl));refine az ⟨.ref m.objs.size,rfl,?_⟩;rw[sz]at new ⊢;exact Z x y hh t _ _ x y p u (.inr ⟨_,rfl⟩) U (up _ _ D.TOz L) (k.frame _ _ _ (k.frame _ _ _ (k.frame _ _ _ (k.frame _ _ _ r λb d o e=>kc.extBut b o (λq=>D.GN (q▸d)) e) λb d o e=>kd.extBut b o (λq=>D.GO (q▸d)) e) λb d o e=>C.extBut b o (λq=>D.GN (q▸d)) e) λb d o e=>up b o (λq=>D.wm (q▸d)) e) (l.frame _ _ _ (l.frame _ _ _ B λb d o e=>C.extBut b o (λq=>D.BX (q▸d)) e) λb d o e=>up b o (λq=>D.wo (q▸d)) e) new λc o K V W X e=>up c o K (C.extBut _ _ V (kd.extBut _ _ X (kc.extBut _ _ V (g.extBut _ _ W (ka.extBut _ _ K (H c o K e))))))
 |false=>
  apply ae;apply ae;apply ae;apply i6;apply ae;refine k.item i _ _ _ Y e1 λx hb P p r g=>az (az ?_);replace g:bv i1 G hb:=g;apply ae;apply ae;apply i6;apply ae;refine l.item i _ _ _ l2 (l.frame _ _ _ e2 λb d o e=>g.extBut b o (λq=>D.yI (q▸d)) e) λy hd t u B kd=>az (az (az ?_));replace kd:bv i2 hb hd:=kd;have sz:hd.objs.size=s.heap.objs.size:=by rw[kd.1,g.1,I]
  apply ae;refine wpAny_newTuple (az ⟨_,rfl,?_⟩) (by show 2<=ay;decide);have up:∀c o,hd.get? c=Z9 o->(hd.push {cls:=.type "tuple",data:=.seq #[x,y]}).get? c=Z9 o:=λc o e=>ak _ e;have new:PairAt (hd.push {cls:=.type "tuple",data:=.seq #[x,y]}) hd.objs.size x y:=a7 _ rfl;rw[sz]at new ⊢;exact Z x y _ t f0 h a b p u hf (up _ _ (kd.extBut _ _ D.i2z.symm (g.extBut _ _ D.i1z.symm f))) (up _ _ (kd.extBut _ _ D.TOi2 (g.extBut _ _ D.TOi1 t0))) (k.frame _ _ _ (k.frame _ _ _ r λb d o e=>kd.extBut b o (λq=>D.GO (q▸d)) e) λb d o e=>up b o e) (l.frame _ _ _ B λb d o e=>up b o e) new λc o K V W X e=>up c o (kd.extBut _ _ X (g.extBut _ _ W (H c o K e)))
theorem zjf (D:ZApart z TI TO i1 i2 p1 p2)(B:Draws prog w A i1 p1 n1 P1 S1)(m:Draws prog w A i2 p2 n2 P2 S2)(hf:ZF f0)(N:s.heap.get? z=Z9 (ZRec TI TO f0 f1))(O:PairAt s.heap TI (.ref i1) (.ref i2))(P:PairAt s.heap TO a b)(h1:S1 i s.heap)(h2:S2 i s.heap)(hl:i=min n1 n2)
  (J:∀R C e,Zk z TO i1 i2 s.heap R->(∃o,R.get? e=Z9 o/\o.cls=.type "StopIteration")->E (.ref e) {s with heap:=R,toks:=C}):
  wpAny (model prog w) A (Builtin.«zip.__next__» {pos:=[.ref z],kw:=[]}) Q E s:=by
 show wpAny (model prog w) A (field (.ref z) 2>>=_) _ E s;apply ae;refine dm N rfl rfl ?_;apply ae;refine dm N rfl rfl ?_;apply ae;refine fq O rfl ?_;apply ae;refine GL hf N λbf l S f n=>?_;have p:=λc o K e=>n.extBut c o K e;have T:=B.frame _ _ _ h1 λb hb o e=>p b o (λq=>D.wm (q▸hb)) e;have e2:=m.frame _ _ _ h2 λb hb o e=>p b o (λq=>D.wo (q▸hb)) e;cases bf with
 |true=>
  apply ae;refine oy ?_;apply ae;refine dm f rfl rfl ?_;apply ae;refine dz f (by simp) λha L ka=>?_;replace L:ha.get? z=Z9 (ZRec TI TO .ellipsis S):=L;have F:=B.frame _ _ _ T λb hb o e=>ka.extBut b o (λq=>D.wm (q▸hb)) e;apply ae;apply ae;apply ae;apply lh;apply ae;by_cases U:i<n1
  .refine B.item i _ _ _ U F λx hb C V W g=>az ?_;replace g:bv i1 ha hb:=g;have tb:=g.extBut _ _ D.TOi1 (ka.extBut _ _ D.TOz (p _ _ D.TOz P));have r:=m.frame _ _ _ (m.frame _ _ _ e2 λb hb o e=>ka.extBut b o (λq=>D.wo (q▸hb)) e) λb h o e=>g.extBut b o (λq=>D.yI (q▸h)) e;apply ae;refine fq tb rfl ?_;apply ae;refine BY tb λK tc kc=>?_;replace kc:bv TO hb K:=kc;apply ae;refine p8 (az ?_);have X:S2 n2 K:=by rw[show n2=i by omega];exact m.frame _ _ _ r λb h o e=>kc.extBut b o (λq=>D.BX (q▸h)) e
   apply ae;apply ae;apply lh;apply ae;refine m.done _ _ _ X λhd e kd t=>?_;obtain⟨Y,d,j⟩:=t;have G:=kd _ _ D.i2z.symm (kc.extBut _ _ D.TOz.symm (g.extBut _ _ D.i1z.symm L));refine dz G (by simp) λu _ H=>J u C e (λc o k M v I q=>?_) ⟨Y,H.extBut _ _ (λq=>by subst q;rw[G]at d;cases d;simp at j) d,j⟩;exact H.extBut _ _ k (kd _ _ I (kc.extBut _ _ M (g.extBut _ _ v (ka.extBut _ _ k (p c o k q)))))
  .have y:S1 n1 ha:=show n1=i by omega▸F
   refine B.done _ _ _ y λhd e kd t=>?_;obtain⟨Y,d,j⟩:=t;have G:=kd _ _ D.i1z.symm L;refine dz G (by simp) λu _ H=>J u s.toks e (λc o k M v I q=>?_) ⟨Y,H.extBut _ _ (λq=>by subst q;rw[G]at d;cases d;simp at j) d,j⟩;exact H.extBut _ _ k (kd _ _ v (ka.extBut _ _ k (p c o k q)))
 |false=>
  apply ae;apply ae;apply ae;apply i6;apply ae;by_cases U:i<n1
  .refine B.item i _ _ _ U T λx hb C V W g=>az (az ?_);replace g:bv i1 l hb:=g;have r:S2 n2 hb:=by rw[show n2=i by omega];exact m.frame _ _ _ e2 λb h o e=>g.extBut b o (λq=>D.yI (q▸h)) e
   apply ae;apply ae;apply i6;apply ae;exact m.done _ _ _ r λhd e kd t=>J hd C e (λc o k M v I q=>kd _ _ I (g.extBut _ _ v (p c o k q))) t
  .have y:S1 n1 l:=show n1=i by omega▸T
   exact B.done _ _ _ y λhd e kd t=>J hd s.toks e (λc o k M v I q=>kd _ _ v (p c o k q)) t
end
section
variable {prog:bp}{w:World}{A:d9}{E:Value->au->Prop}{s:au}
theorem zaq (a:s.heap.IsTupleIter it t i)(m:s.heap.IsTuple t items)(o:items[i]?=Z9 x)
  (p:∀e,e.IsTupleIter it t (i+1)->bv it s.heap e->Q x {s with heap:=e}):wpAny (model prog w) A (km (.ref it)) Q E s:=by
 have ty:=a.typeIs;obtain⟨⟨k,f,g,b⟩,c,hc,hd⟩:=a;obtain⟨⟨l,h,j,d⟩,to,tc,n,q⟩:=m;cases hc;cases hd;cases tc;cases q;apply ae;refine eh ty F.slot_tuple_iterator_next (gh F.slot_tuple_iterator_next ty F.entry_tuple_iterator_next ?_ (F.args_tuple_iterator_next_1 _));show wpAny _ _ (field (.ref it) 0>>=_) _ _ _;apply ae;refine dm c rfl rfl ?_;apply ae;refine dm c rfl rfl ?_;apply ae;refine fq to rfl ?_
 dsimp only
 rw[pi i,o];apply ae;refine wpAny_setField c rfl (by simp) (az ⟨x,rfl,az (p _ ⟨_,jt _ c rfl,rfl,?_⟩ (n7 _ _ _))⟩);rfl
theorem z5t (hh:A.handled=Z8)(a:s.heap.IsTupleIter it t i)(q:s.heap.IsTuple t items)(r:items[i]?=Z8)
  (u:∀f e,Heap.ExtBut it s.heap f->(∃o,f.get? e=Z9 o/\o.cls=.type "StopIteration")->E (.ref e) {s with heap:=f}):wpAny (model prog w) A (km (.ref it)) Q E s:=by
 have ty:=a.typeIs;obtain⟨⟨m,g,h,c⟩,j,hc,hd⟩:=a;obtain⟨⟨p,k,l,d⟩,to,tc,n,v⟩:=q;cases hc;cases hd;cases tc;cases v;apply ae;refine eh ty F.slot_tuple_iterator_next (gh F.slot_tuple_iterator_next ty F.entry_tuple_iterator_next ?_ (F.args_tuple_iterator_next_1 _));show wpAny _ _ (field (.ref it) 0>>=_) _ _ _;apply ae;refine dm j rfl rfl ?_;apply ae;refine dm j rfl rfl ?_;apply ae;refine fq to rfl ?_
 dsimp only
 rw[pi i,r];apply ae;refine oy ?_;apply ae;refine wpAny_setField j rfl (by simp) ?_
 delta Builtin.SmallTypes.stopIteration
 repeat (any_goals (first|assumption|wp_step))
 refine wpAny_raiseNew_none hh (u _ _ (λb o x e=>?_) ⟨_,a7 _ rfl,rfl⟩);refine ak _ (ak _ ?_);rw[Heap.get?_update_ne _ _ _ _ x];exact e
theorem OI (hh:A.handled=Z8)(it t:Addr)(c:t≠it)(items:Array Value):Draws prog w A it [it,t] items.size (λi v=>items[i]?=Z9 v) (λi h=>h.IsTupleIter it t i/\h.IsTuple t items) where
 live:=λi h st=>let⟨⟨o,d,_⟩,_⟩:=st;⟨o,d⟩
 frame:=λi h f st k=>by obtain⟨⟨o,d,r⟩,b,a,e⟩:=st;exact⟨⟨o,k it (by simp) o d,r⟩,b,k t (by simp) b a,e⟩
 item:=λi l q u g st m=>by refine zaq st.1 st.2 (ko g) λf n j=>?_;obtain⟨b,a,e⟩:=st.2;exact m _ f l.toks (ko g) ⟨n,b,j.extBut t b c a,e⟩ j
 done:=λs Q E st p=>z5t hh st.1 st.2 (Array.getElem?_eq_none (ah _)) p
end
def IsB (h:Heap)(l:Bool)(a:Addr)(xs:Array Value):Prop:=match l with
 |true=>h.IsList a xs
 |false=>h.IsTuple a xs
def kC (h:Heap)(l:Bool)(it a:Addr)(i:Nat):Prop:=match l with
 |true=>h.IsListIter it a i
 |false=>h.IsTupleIter it a i
def iG (K:Z5)(H:Hp)(l:Bool)(a:Addr)(vs:List V):Prop:=match l with
 |true=>SqL K H a vs
 |false=>cP K H a vs
def oH (K:Z5)(H:Hp)(B:Ad->Prop)(l:Bool)(a:Addr)(vs:List V):Prop:=match l with
 |true=>(H a=Z9 (.lst vs)/\B (Z9 a))\/(FL K H a vs/\B Z8)
 |false=>cP K H a vs
abbrev dB (l:Bool)(a:Addr):Obj:={cls:=.type (if l then "list_iterator"else "tuple_iterator"),data:=.fields #[.ref a,.int 0 0]}
theorem oH.keep {K:Z5}(h:oH K H B l a c)(k:Kp B H d):iG K d l a c:=by
 cases l with
 |true=>
  rcases h with⟨h,b⟩|⟨⟨o,h⟩|h,_⟩
  .exact .inl (.inl (k a _ h (.inl b)))
  .exact .inl (.inr ⟨o,k a _ h (.inr True.intro)⟩)
  .exact .inr h
 |false=>exact cP.keep k h
theorem oH.of {K:Z5}(r:Rep K H B v d)(e:seqR d=.ok xs):∃l a vs,v=.ref a/\oH K H B l a vs/\Reps K H B vs xs/\xs.length<=LIM:=by
 cases d<;>try (exact(gK e).elim)
 case list ds=>
  have e:(if decide (ds.length<=LIM)=Z7 then Res.ok ds else Res.no)=Res.ok xs:=e;split at e
  .rename_i hc;cases e;obtain⟨a,vs,rfl,h,rs⟩:=r;exact⟨Z7,a,vs,rfl,h,rs,qj hc⟩
  .cases e
 case tuple ds=>
  have e:(if decide (ds.length<=LIM)=Z7 then Res.ok ds else Res.no)=Res.ok xs:=e;split at e
  .rename_i hc;cases e;obtain⟨a,vs,rfl,h,rs⟩:=r;exact⟨Z6,a,vs,rfl,h,rs,qj hc⟩
  .cases e
section
variable {X:Cx}{pins:List (Addr×Obj)}{σ:L2.St}{H:Hp}{s:au}
theorem iG.items (I:Inv X d f H s)(h:iG X.K H l a e):∃b,Vals e b/\IsB s.heap l a b.toArray/\e.length=b.length:=by
 cases l with
 |true=>obtain⟨b,c,p,_⟩:=I.list h;exact⟨b,c,p.isList,c.length⟩
 |false=>obtain⟨b,c,p,_⟩:=I.tuple h;exact⟨b,c,p,c.length⟩
end
theorem ug (hh:A.handled=Z8)(l:Bool)(it a:Addr)(b:a≠it)(items:Array Value):Draws prog w A it [it,a] items.size (λi v=>items[i]?=Z9 v) (λi h=>kC h l it a i/\IsB h l a items):=by
 cases l with
 |true=>exact Draws.list hh it a b items
 |false=>exact OI hh it a b items
theorem kC.live (x:kC h l it a i):∃o,h.get? it=Z9 o/\∀v,o.data≠.cell v:=by cases l<;>(obtain⟨o,b,_,hd⟩:=x;exact⟨o,b,λv z=>by rw[hd]at z;cases z⟩)
theorem kC.keep (x:kC h l it a i)(k:∀o,h.get? it=Z9 o->b.get? it=Z9 o):kC b l it a i:=by cases l<;>(obtain⟨o,c,r⟩:=x;exact⟨o,k o c,r⟩)
theorem kC.new (x:h.get? b=Z9 (dB l a)):kC h l b a 0:=by cases l<;>exact⟨_,x,rfl,rfl⟩
theorem IsB.lt (x:IsB h l a c):a<h.objs.size:=by cases l<;>(obtain⟨o,b,_⟩:=x;exact bd b)
theorem IsB.push (x:IsB h l a b)(o:Obj):IsB (h.push o) l a b:=by cases l<;>(obtain⟨q,c,r⟩:=x;exact⟨q,ak _ c,r⟩)
theorem yJ (h:IsB s.heap l a c)(b:Q (.ref s.heap.objs.size) {s with heap:=s.heap.push (dB l a)}):wpAny (model prog w) A (p6 (.ref a)) Q E s:=by
 cases l with
 |true=>exact jl h b
 |false=>exact ox h b
section
variable {X:Cx}{pins:List (Addr×Obj)}{σ:L2.St}{H:Hp}{s:au}
theorem _root_.L2.Inv.turnedTL {h:List Addr}(I:Inv X a l H s)(f:∀b∈h,FpOk X a H b)(keep:∀b q,b∉h->s.heap.get? b=Z9 q->i.get? b=Z9 q)(j:s.heap.objs.size<=p)
  (new:z1x X.prog X.w (upd H p (.tup xs)) i p (.tup xs)):Inv X a l (upd H p (.tup xs)) {s with heap:=i,toks:=t'}:=by
 have hn:=I.hok.fresh j;have d:∀b u,H b=Z9 u->b∉h:=λb u k z=>by rw[(f b z).1]at k;cases k
 refine I.step (λb g=>?_) (λb q _ _ hc e _=>keep b q hc e) (λb q _ _ hc e _=>⟨q.slots,keep b q hc e⟩) (λb q _ e n=>by rw[aL (b8 (bo (bd e) j))];exact n) (λb q hc e=>⟨q,keep b q hc e⟩) (λb xs q=>by rw[aL (fQ q hn)];exact q) (λb u xs q=>by rw[aL (fQ q hn)];exact q) (λb ps q=>⟨#[],by rw[aL (fQ q hn),q];simp⟩) (λm hm=>?_) (λb u e=>?_) I.bare
 .obtain⟨y,o,A,r,t,x⟩:=f b g;exact⟨r,o,t,x⟩
 .exact hm.at λq e=>keep _ q (λz=>(f _ z).2.1 rfl) e
 .by_cases g:b=p
  .subst g;rw[bL]at e;cases e;exact new
  .rw[aL g]at e;refine(I.hok b u e).stay (λc v hc q=>keep c v ?_ q) (λc q=>by rw[aL (fQ q hn)];exact q) λc xs q=>by rw[aL (fQ q hn)];exact q
   rcases hc with rfl|hc
   .exact d _ _ e
   .exact d _ _ hc
theorem _root_.L2.Inv.kE {g:List Addr}(I:Inv X a j H s)(f:∀b∈g,FpOk X a H b)(keep:∀b q,b∉g->s.heap.get? b=Z9 q->k.get? b=Z9 q):Inv X a j H {s with heap:=k,toks:=t'}:=by
 have d:∀b u,H b=Z9 u->b∉g:=λb u h z=>by rw[(f b z).1]at h;cases h
 refine I.step (λb l=>?_) (λb q _ _ hc e _=>keep b q hc e) (λb q _ _ hc e _=>⟨q.slots,keep b q hc e⟩) (λb q _ e n=>n) (λb q hc e=>⟨q,keep b q hc e⟩) (λb i q=>q) (λb u i q=>q) (λb ps q=>⟨#[],by rw[q];simp⟩) (λm hm=>?_) (λb u e=>?_) I.bare
 .obtain⟨w,o,x,p,r,t⟩:=f b l;exact⟨p,o,r,t⟩
 .exact hm.at λq e=>keep _ q (λz=>(f _ z).2.1 rfl) e
 .refine(I.hok b u e).stay (λc v hc q=>keep c v ?_ q) (λc q=>q) λc i q=>q;rcases hc with rfl|hc
  .exact d _ _ e
  .exact d _ _ hc
end
theorem BZ (f:Vals b a)(d:i<b.length)(g:a.toArray[i]?=Z9 x):∃v,b[i]?=Z9 v/\RelV v x:=by
 refine⟨b[i],a9 d,?_⟩;obtain⟨u,e,h⟩:=f.get (a9 d);have c:a[i]?=Z9 x:=by simpa using g
 rw[c]at e;cases e;exact h
def B0 (K:Z5)(l:Bool)(t:Addr)(vs:List V):It:=⟨λi H=>iG K H l t vs/\i<vs.length,λi H x H'=>∃p v,vs[i]?=Z9 v/\H p=Z8/\x=.ref p/\H'=upd H p (.tup [.int i,v]),λi H=>iG K H l t vs/\i=vs.length⟩
theorem zdw {K:Z5}(V:t≠c)(Y:t≠e)(B:e≠c):
  Turn P w K (.Tuple j x1 pos) (B0 K l t vs) [e,c] e (λi h=>(∃old,IsEnum h e c i old)/\kC h l c t i) where
 mem:=by simp
 obj:=λi h st b hb=>by
  obtain⟨⟨old,d⟩,a⟩:=st;rcases(ao.mp hb)with rfl|hb
  .exact⟨_,d,λv z=>by cases z⟩
  .obtain rfl:b=c:=by simpa using hb
   exact a.live
 keep:=λi h G st k=>by obtain⟨⟨old,d⟩,a⟩:=st;exact⟨⟨old,k e (by simp) _ d⟩,a.keep λo=>k c (by simp) o⟩
 item:=by
  intro X J L M N i m s σ H E I hf st O;subst J L M;obtain⟨Q,R⟩:=O;obtain⟨⟨old,d⟩,a⟩:=st;obtain⟨g,rv,p,hl⟩:=iG.items I Q;have S:X.A.in1.handled=none:=I.ok.hd N;have D:=ug (prog:=X.prog) (w:=X.w) S l c t V g.toArray;obtain⟨oi,T,_⟩:=a.live;refine wpAny_pyNext_enum_itemD D d ⟨a,p⟩ (by grind) B (by simp[B,Ne.symm Y]) λx G C hx n U r Z kp=>⟨_,rfl,?_⟩;have F:s.heap.objs.size≠e/\s.heap.objs.size≠c:=⟨λz=>cy _ (z▸bd d),λz=>cy _ (z▸bd T)⟩;refine(WalksT.enumerateD D e B (by simp[B,Ne.symm Y]) (by simp)).go j x1 pos i s.heap.objs.size {s with heap:=G,toks:=C+1} _ _ ⟨⟨x,n⟩,U,F.1,F.2⟩ λOJ f u=>?_;have y:s.heap.objs.size∉ [e,c]:=by simp[F.1,F.2]
  obtain⟨v,hv,rx⟩:=BZ rv R hx;have I1:=I.turnedTL (t':=C+1) (xs:=[.int i,v]) hf (λb q hb z=>u b q hb (kp b q (λz=>hb (by simp[z])) (λz=>hb (by simp[z])) z)) (ah _) ⟨by rw[bz];simp,[.int i C,x],.cons ⟨C,rfl⟩ (.cons rx .nil),0,(u s.heap.objs.size _ y r)⟩;refine⟨.ref s.heap.objs.size,_,I1,rfl,⟨_,v,hv,I.hok.fresh (ah _),rfl,rfl⟩,⟨f.1,f.2.1⟩,λb hb=>?_⟩;rw[aL λz:b=s.heap.objs.size=>y (z▸hb)];exact(hf b hb).1
 done:=by intro X J L M N i m s σ H E I hf st O;subst J L M;obtain⟨Q,R⟩:=O;obtain⟨⟨old,d⟩,a⟩:=st;obtain⟨g,rv,p,hl⟩:=iG.items I Q;have S:X.A.in1.handled=none:=I.ok.hd N;exact wpAny_pyNext_enum_endD (ug (prog:=X.prog) (w:=X.w) S l c t V g.toArray) d ⟨by rw[bg,<-hl,<-R];exact a,p⟩ λG eb=>⟨rfl,I.kE hf λb o hb z=>eb b o (λq=>hb (by simp[q])) z⟩
 self:=λ_ _ _ _ _ st h=>by obtain⟨⟨old,d⟩,_⟩:=st;exact pj d h
theorem GP:∀a (k i:Nat),(z19 k a)[i]?=(a[i]?).map λx=>.tuple [.int ((k+i:Nat):Int),x]
 | [],k,i=>by simp[z19]
 |x::a,k,0=>by simp[z19]
 |x::a,k,i+1=>by
  rw[z19,ej,ej,GP a (k+1) i];have:k+1+i=k+(i+1):=by omega
  rw[this]
theorem yK:∀a k,(z19 k a).length=a.length
 | [],_=>rfl
 |x::a,k=>by rw[z19,am,am,yK a]
theorem OK {K:Z5}(b:oH K H B l t c)(rs:Reps K H B c g)(n:g.length<=ay):Walk K (B0 K l t c) B H (z19 0 g):=by
 have o:=rs.length;constructor
 .rw[yK];exact n
 .intro j kp i h;rw[yK]at h;exact⟨b.keep kp,by omega⟩
 .intro j kp;exact⟨b.keep kp,by rw[yK];exact o.symm⟩
 .rintro j kp i x u h ⟨p,v,r,k,rfl,rfl⟩
  obtain⟨d,hd,s⟩:=Reps.lA rs r;refine⟨Same.upd k,.tuple [.int i,d],by rw[GP,hd];simp,p,[.int i,v],rfl,cP.of bL,?_⟩;refine Reps.cons rfl (Reps.cons ?_ rfl);exact Rep.keep (λa q e f=>by have m:=kp a q e f;rw[aL (fQ m k)];exact m) (λ_ z=>z) d s
theorem zag (l:Bool)(t:Addr)(items:Array Value):Meets (Builtin.«enumerate.__new__» {pos:=[.type "enumerate",.ref t]}) fun _ R s=>
  IsB s.heap l t items/\R (.ok (.ret (.ref (s.heap.push (dB l t)).objs.size))) {s with heap:=(s.heap.push (dB l t)).push {cls:=.type "enumerate",data:=.fields #[.none,.bool Z6,.ref s.heap.objs.size,l9 0,.none,.none]}}:=by
 rintro prog w A R s ⟨a,d⟩
 have sub:=sub_enumerate
 delta Builtin.«enumerate.__new__»
 repeat (any_goals (first|assumption|(apply yJ a)|wp_step))
 refine wpAny_stack λst _ _ _=>?_;refine l7 (Q:=λ_ c=>c=s) (az rfl) (λb c hs=>?_) λ_ _ x=>x;subst hs;cases b
 all_goals repeat (any_goals (first|assumption|(apply yJ a)|wp_step))
 all_goals exact d
theorem zfx (a:IsB s.heap l t items)
  (b:Q (.ref (s.heap.push (dB l t)).objs.size) {s with heap:=(s.heap.push (dB l t)).push {cls:=.type "enumerate",data:=.fields #[.none,.bool Z6,.ref s.heap.objs.size,l9 0,.none,.none]}}):wpAny (model prog w) A (call (.type "enumerate") [.ref t]) Q E s:=by
 refine callType_new F.called_enumerate dc (F.typeCall_enumerate_1 _) (F.newCall_enumerate_1 _) (λobj=>?_) F.entry_enumerate_new (zag l t items) ⟨a,⟨_,a7 _ rfl,rfl⟩,b⟩;exact F.args_object_init_2 _ _
section
variable {X:Cx}{pins:List (Addr×Obj)}{σ:L2.St}
theorem z3t (k:Inv X a m f c)(C:RelV y v)(D:Rep X.K f B y d)(e:seqR d=.ok E)(q:∀J,Walk X.K J B f (z19 0 E)->R J f):
  wpAny (model X.prog X.w) X.A (call (.type "enumerate") [v]) (λF G=>wpAny (model X.prog X.w) X.A (p6 F) (rA X a m (.Tuple u O tp) R) X.xe G) X.xe c:=by
 obtain⟨l,t,H,rfl,x,n,I⟩:=oH.of D e;cases C;obtain⟨L,M,pt,_⟩:=iG.items k (x.keep (Kp.of (Same.refl f)));refine zfx pt ?_;generalize p:c.heap.push (dB l t)=i;have j:i.objs.size=c.heap.objs.size+1:=p▸mo _ _;have r:Inv X a m f {c with heap:=i}:=k.kept λb o e=>p▸ak _ e;generalize g:i.push {cls:=.type "enumerate",data:=.fields #[.none,.bool Z6,.ref c.heap.objs.size,l9 0,.none,.none]}=h;have N:Inv X a m f {c with heap:=h}:=r.kept λb o e=>g▸ak _ e;have g1:h.get? i.objs.size=Z9 {cls:=.type "enumerate",data:=.fields #[.none,.bool Z6,.ref c.heap.objs.size,l9 0,.none,.none]}:=g▸a7 _ rfl;have g2:h.get? c.heap.objs.size=Z9 (dB l t):=by rw[<-g];refine ak _ ?_;rw[<-p];exact a7 _ rfl
 have z:=pt.lt;refine pj g1 (⟨i.objs.size,[i.objs.size,c.heap.objs.size],_,B0 X.K l t H,f,rfl,N,zdw (b8 z) (b8 (mf z (j▸jw _))) (j▸Nat.succ_ne_self _),⟨⟨.none,g1⟩,kC.new g2⟩,λb s=>?_,q _ (OK x n (jZ I))⟩);rcases(ao.mp s)with rfl|s
 .exact r.iO (ah _) (r.hok.fresh (ah _))
 .obtain rfl:b=c.heap.objs.size:=by simpa using s
  exact k.iO (ah _) (k.hok.fresh (ah _))
end
def GQ (K:Z5)(l1:Bool)(a1:Addr)(vs:List V)(l2:Bool)(a2:Addr)(ws:List V):It:=⟨λi H=>iG K H l1 a1 vs/\iG K H l2 a2 ws/\i<min vs.length ws.length,λi H x H'=>∃p v w,vs[i]?=Z9 v/\ws[i]?=Z9 w/\H p=Z8/\x=.ref p/\H'=upd H p (.tup [v,w]),λi H=>iG K H l1 a1 vs/\iG K H l2 a2 ws/\i=min vs.length ws.length⟩
def GR (z TI TO i1 i2:Addr)(l1:Bool)(a1:Addr)(l2:Bool)(a2:Addr)(i:Nat)(h:Heap):Prop:=(∃f0 f1,ZF f0/\h.get? z=Z9 (ZRec TI TO f0 f1))/\PairAt h TI (.ref i1) (.ref i2)/\(∃a b,PairAt h TO a b)/\kC h l1 i1 a1 i/\kC h l2 i2 a2 i
theorem zoh {TI TO:Addr}(ht:(isTup e||isNm e)=Z7)(hf:ZF a)(d:s.heap.get? z=Z9 (ZRec TI TO a i))
  (f:∀b c,ZF c->b.get? z=Z9 (ZRec TI TO c i)->bv z s.heap b->Q () {s with heap:=b}):wpAny (model prog w) A (gr e (.ref z) (.ref T)) Q E s:=by
 cases e<;>first|(cases ht;done)|exact az (f s.heap a hf d (Heap.SameBut.refl ..))|skip
 delta gr
 apply ae;refine wpAny_load d ?_;show wpAny _ _ (if(_&&(a::_:List Value).toArray[0]?==Z9 (l9 T))=Z7 then _ else _) Q E s;by_cases h:(Z9 a==Z9 (l9 T))=Z7
 .rw[qe (by simpa using h)];apply ae;exact oy (dz d (by simp) λb g j=>f b .none (.inl rfl) g j)
 .rw[qf (by simpa using h)];exact az (f s.heap a hf d (Heap.SameBut.refl ..))
theorem zg5 {TI TO:Addr}(D:ZApart z TI TO i1 f p q)(r:Draws prog w A.in1 i1 p t u m)(v:Draws prog w A.in1 f q B P2 n)(hf:ZF f0)(o:s.heap.get? z=Z9 (ZRec TI TO f0 T))(g:PairAt s.heap TI (.ref i1) (.ref f))(h:PairAt s.heap TO a b)(C:m i s.heap)(G:n i s.heap)(H:i<t)(l2:i<B)
  (I:∀x y c j d e k l,u i x->P2 i y->ZF d->c.get? z=Z9 (ZRec TI TO d e)->PairAt c TO k l->m (i+1) c->n (i+1) c->PairAt c s.heap.objs.size x y->Zk z TO i1 f s.heap c->Q (Z9 (.ref s.heap.objs.size)) {s with heap:=c,toks:=j}):wpAny (model prog w) A (p5 (.ref z)) Q E s:=by
 have ty:s.TypeIs (.ref z) "zip":=⟨_,o,rfl⟩
 delta p5
 apply ae;apply wpAny_attempt;refine eh ty F.slot_zip_next (gh F.slot_zip_next ty F.entry_zip_next ?_ (F.args_zip_next_1 _));exact zem D r v hf o g h C G H l2 λx y c j d e k l J K L M N O P R S=>az (I x y c j d e k l J K L M N O P R S)
theorem zg4 {TI TO:Addr}(D:ZApart z TI TO i1 c k l)(m:Draws prog w A.in1 i1 k n P1 p)(q:Draws prog w A.in1 c l r P2 t)(hf:ZF u)(h:s.heap.get? z=Z9 (ZRec TI TO u f1))(d:PairAt s.heap TI (.ref i1) (.ref c))(f:PairAt s.heap TO a b)(v:p i s.heap)(x:t i s.heap)(hl:i=min n r)
  (y:∀g j,Zk z TO i1 c s.heap g->Q Z8 {s with heap:=g,toks:=j}):wpAny (model prog w) A (p5 (.ref z)) Q E s:=by
 have ty:s.TypeIs (.ref z) "zip":=⟨_,h,rfl⟩
 delta p5
 apply ae;apply wpAny_attempt;refine eh ty F.slot_zip_next (gh F.slot_zip_next ty F.entry_zip_next ?_ (F.args_zip_next_1 _));refine zjf D m q hf h d f v x hl λg j e kp B=>?_;obtain⟨o,ho,hc⟩:=B;apply ae;exact wpAny_isInstance ⟨o,ho,hc⟩ isSubtype_stop (az (y _ _ kp))
theorem zg8 {K:Z5}{TI TO:Addr}(ht:(isTup tg||isNm tg)=Z7)(D:ZApart z TI TO i1 m [i1,B] [m,a2])(n1:B≠i1)(n2:a2≠m):
  Turn P w K tg (GQ K l1 B vs l2 a2 ws) [z,TI,TO,i1,m] z (GR z TI TO i1 m l1 B l2 a2) where
 mem:=by simp
 obj:=λi h st b hb=>by
  obtain⟨⟨C,G,_,g⟩,d,⟨a,c,f⟩,n,p⟩:=st;simp at hb;rcases hb with rfl|rfl|rfl|rfl|rfl
  .exact⟨_,g,λv q=>by cases q⟩
  .exact⟨_,d,λv q=>by cases q⟩
  .exact⟨_,f,λv q=>by cases q⟩
  .exact n.live
  .exact p.live
 keep:=λi h h' st k=>by obtain⟨⟨C,G,hf,g⟩,d,⟨a,c,f⟩,n,p⟩:=st;exact⟨⟨C,G,hf,k z (by simp) _ g⟩,k TI (by simp) _ d,⟨a,c,k TO (by simp) _ f⟩,n.keep λo=>k i1 (by simp) o,p.keep λo=>k m (by simp) o⟩
 item:=by
  intro X U V Y J i L s σ H E I hf st Z;subst U V Y;obtain⟨r,t,hi⟩:=Z;obtain⟨⟨C,G,zf,g⟩,d,⟨a,c,f⟩,n,p⟩:=st;obtain⟨j,M,b1,e1⟩:=iG.items I r;obtain⟨l,N,b2,e2⟩:=iG.items I t;have O:X.A.in1.handled=none:=I.ok.hd J;refine zg5 D (ug (prog:=X.prog) (w:=X.w) O l1 i1 B n1 j.toArray) (ug (prog:=X.prog) (w:=X.w) O l2 m a2 n2 l.toArray) zf g d f ⟨n,b1⟩ ⟨p,b2⟩ (by grind) (by grind) λx y h' tk Vn OL a' b' hx hy OM ON Q OO vE new kp=>⟨_,rfl,?_⟩;refine zoh ht OM ON λOJ R S T sb=>?_;have lt:∀{c o},s.heap.get? c=Z9 o->s.heap.objs.size≠c:=λe q=>cy _ (q▸bd e);obtain⟨o1,OP,_⟩:=n.live;obtain⟨o2,OQ,_⟩:=p.live;have OR:s.heap.objs.size∉ [z,TI,TO,i1,m]:=by simp[lt g,lt d,lt f,lt OP,lt OQ]
  have up:=λc o J e=>sb.extBut c o J e;obtain⟨v,hv,rx⟩:=BZ M (by omega) hx;obtain⟨u,hu,ry⟩:=BZ N (by omega) hy;have I1:=I.turnedTL (t':=tk) hf (λb q hb e=>up b q (λq=>hb (by simp[q])) (kp b q (λq=>hb (by simp[q])) (λq=>hb (by simp[q])) (λq=>hb (by simp[q])) (λq=>hb (by simp[q])) e)) (ah _) ⟨by rw[bz];simp,[x,y],.cons rx (.cons ry .nil),0,(up _ _ (lt g) new)⟩;refine⟨.ref s.heap.objs.size,_,I1,rfl,⟨_,v,u,hv,hu,I.hok.fresh (ah _),rfl,rfl⟩,⟨⟨R,OL,S,T⟩,up _ _ D.TIz (kp _ _ D.TIz D.TITO D.TIi1 D.TIi2 d),⟨a',b',up _ _ D.TOz Q⟩,OO.1.keep λo=>up _ o D.i1z,vE.1.keep λo=>up _ o D.i2z⟩,λb hb=>?_⟩;rw[aL λq:b=s.heap.objs.size=>OR (q▸hb)];exact(hf b hb).1
 done:=by intro X U V Y J i L s σ H E I hf st Z;subst U V Y;obtain⟨r,t,hi⟩:=Z;obtain⟨⟨C,G,zf,g⟩,d,⟨a,c,f⟩,n,p⟩:=st;obtain⟨j,M,b1,e1⟩:=iG.items I r;obtain⟨l,N,b2,e2⟩:=iG.items I t;have O:X.A.in1.handled=none:=I.ok.hd J;refine zg4 D (ug (prog:=X.prog) (w:=X.w) O l1 i1 B n1 j.toArray) (ug (prog:=X.prog) (w:=X.w) O l2 m a2 n2 l.toArray) zf g d f ⟨n,b1⟩ ⟨p,b2⟩ (by grind) λh' tk kp=>⟨rfl,I.kE hf λb q hb e=>?_⟩;exact kp b q (λq=>hb (by simp[q])) (λq=>hb (by simp[q])) (λq=>hb (by simp[q])) (λq=>hb (by simp[q])) e
 self:=λ_ _ _ _ _ st h=>by obtain⟨⟨C,G,_,g⟩,_⟩:=st;have ty:Shared.TypeIs _ (.ref z) "zip":=⟨_,g,rfl⟩;refine wpAny_pyIter_slot ty F.slot_zip_iter (gh F.slot_zip_iter ty F.entry_zip_iter ?_ (F.args_zip_iter_1 _));exact az ⟨_,rfl,"zip",_,ty,F.slot_zip_next.lookup,h⟩
theorem GS:∀a b (i:Nat) {x y:D},a[i]?=Z9 x->b[i]?=Z9 y->(zipD a b)[i]?=Z9 (.tuple [x,y])
 |x::a,y::b,0,_,_,c,d=>by cases c;cases d;rfl
 |x::a,y::b,i+1,_,_,c,d=>GS a b i c d
 | [],_,i,_,_,c,_=>by simp at c
 |_::_,[],i,_,_,_,d=>by simp at d
theorem yL:∀a b,(zipD a b).length=min a.length b.length
 | [],_=>by simp[zipD]
 |_::_,[]=>by simp[zipD]
 |x::a,y::b=>by show(zipD a b).length+1=min (a.length+1) (b.length+1);rw[yL a b];omega
theorem OS {K:Z5}(l:oH K H B w y m)(b:oH K H B l2 a2 ws)(n:Reps K H B m c)(o:Reps K H B ws r)(C:c.length<=ay):Walk K (GQ K w y m l2 a2 ws) B H (zipD c r):=by
 have D:=n.length;have E:=o.length;constructor
 .rw[yL];omega
 .intro g kp i h;rw[yL]at h;exact⟨l.keep kp,b.keep kp,by omega⟩
 .intro g kp;exact⟨l.keep kp,b.keep kp,by rw[yL];omega⟩
 .rintro g kp i x F h ⟨p,v,u,A,hu,s,rfl,rfl⟩
  obtain⟨d,hd,rv⟩:=Reps.lA n A;obtain⟨t,j,k⟩:=Reps.lA o hu;have kk:∀a q,H a=Z9 q->(B (Z9 a)\/Fix q)->upd g p (.tup [v,u]) a=Z9 q:=λa q e f=>by have b:=kp a q e f;rw[aL (fQ b s)];exact b
  exact⟨Same.upd s,.tuple [d,t],GS c r i hd j,p,[v,u],rfl,cP.of bL,Reps.cons (Rep.keep kk (λ_ z=>z) d rv) (Reps.cons (Rep.keep kk (λ_ z=>z) t k) rfl)⟩
theorem zcg (l1 l2:Bool)(a1 a2:Addr)(xs ys:Array Value):Meets (Builtin.«zip.__new__» ⟨[.type "zip",.ref a1,.ref a2],[]⟩) fun _ R s=>IsB s.heap l1 a1 xs/\IsB s.heap l2 a2 ys/\
  ∀h1 h2 h3 h4 h5,h1=s.heap.push (dB l1 a1)->h2=h1.push (dB l2 a2)->h3=h2.push {cls:=.type "tuple",data:=.seq #[.ref s.heap.objs.size,.ref h1.objs.size]}->h4=h3.push {cls:=.type "tuple",data:=.seq #[.none,.none]}->h5=h4.push {cls:=.type "zip",data:=.fields #[.none,.bool Z6,.bool Z6,.ref h2.objs.size,.ref h3.objs.size]}->R (.ok (.ret (.ref h4.objs.size))) {s with heap:=h5}:=by
 rintro prog w A R s ⟨b1,b2,hR⟩
 have sub:=sub_zip;obtain⟨hp,gs,dp,tk,os⟩:=s;have c1:=b1;have c2:IsB (Shared.heap ⟨hp.push (dB l1 a1),gs,dp,tk,os⟩) l2 a2 ys:=b2.push _
 wp_walk using yJ c1,yJ c2
 exact hR _ _ _ _ _ rfl rfl rfl rfl rfl
section
variable {X:Cx}{pins:List (Addr×Obj)}{σ:L2.St}
theorem z86 (ht:(isTup W||isNm W)=Z7)(t:Inv X pins σ g c)(r1:RelV y1 u1)(r2:RelV y2 u2)(L:Rep X.K g B y1 d1)(M:Rep X.K g B y2 d2)(e1:seqR d1=.ok xs)(e2:seqR d2=.ok ys)(q:∀J,Walk X.K J B g (zipD xs ys)->R J g):
  wpAny (model X.prog X.w) X.A (call (.type "zip") [u1,u2]) (λv' s2=>wpAny (model X.prog X.w) X.A (p6 v') (rA X pins σ W R) X.xe s2) X.xe c:=by
 obtain⟨G,N,Y,rfl,Z,w1,z1⟩:=oH.of L e1;obtain⟨l2,a2,ws,rfl,q2,w2,z2⟩:=oH.of M e2;cases r1;cases r2;obtain⟨u,_,b1,_⟩:=iG.items t (Z.keep (Kp.of (Same.refl g)));obtain⟨v,_,b2,_⟩:=iG.items t (q2.keep (Kp.of (Same.refl g)));refine callType_new F.called_zip (by decide) (F.typeCall_zip_2 _ _) (F.newCall_zip_2 _ _) (λobj=>F.args_object_init_3 obj _ _) F.entry_zip_new (zcg G l2 N a2 u.toArray v.toArray) ⟨b1,b2,?_⟩;intro m k s n H O Q S U k5;have d:m.objs.size=c.heap.objs.size+1:=O▸mo _ _;have p:k.objs.size=c.heap.objs.size+2:=by rw[Q,mo,d]
 have r:s.objs.size=c.heap.objs.size+3:=by rw[S,mo,p]
 have C:n.objs.size=c.heap.objs.size+4:=by rw[U,mo,r]
 have p2:∀b o,m.get? b=Z9 o->k.get? b=Z9 o:=λb o e=>by rw[Q];exact ak _ e
 have V:∀b o,k.get? b=Z9 o->s.get? b=Z9 o:=λb o e=>by rw[S];exact ak _ e
 have I:∀b o,s.get? b=Z9 o->n.get? b=Z9 o:=λb o e=>by rw[U];exact ak _ e
 have D:∀b o,n.get? b=Z9 o->H.get? b=Z9 o:=λb o e=>by rw[k5];exact ak _ e
 have I5:Inv X pins σ g {c with heap:=H}:=t.kept λb o e=>D b o (I b o (V b o (p2 b o ((λb o e=>by rw[O];exact ak _ e) b o e))));have g5:H.get? n.objs.size=Z9 (ZRec k.objs.size s.objs.size .none Z6):=k5▸a7 _ rfl;have t1:=b1.lt;have t2:=b2.lt;have Da:ZApart n.objs.size k.objs.size s.objs.size c.heap.objs.size m.objs.size [c.heap.objs.size,N] [m.objs.size,a2]:=by have f:∀{i j:Nat},i≠j->c.heap.objs.size+i≠c.heap.objs.size+j:=λh z=>h (Nat.add_left_cancel z);have l:∀{j:Nat},0≠j->c.heap.objs.size≠c.heap.objs.size+j:=λh=>f h;have no:∀{x y z:Addr},x≠y->x≠z->x∉ [y,z]:=λm k h=>(ao.mp h).elim m λq=>k (ar.mp q);have na:∀{a:Addr} {j:Nat},a<c.heap.objs.size->c.heap.objs.size+j≠a:=λh z=>cy _ (bo h (z▸gk _ _));rw[d,p,r,C];exact⟨f (by decide),f (by decide),l (by decide),f (by decide),f (by decide),(l (by decide)).symm,f (by decide),(l (by decide)).symm,f (by decide),l (by decide),no (l (by decide)).symm (na t1),no (l (by decide)).symm (na t1),no (l (by decide)).symm (na t1),no (f (by decide)) (na t2),no (f (by decide)) (na t2),no (l (by decide)) (na (j:=0) t2)⟩
 have T:=zg8 (P:=X.prog) (w:=X.w) (K:=X.K) (l1:=G) (l2:=l2) (vs:=Y) (ws:=ws) ht Da (b8 t1) (d▸b8 (Nat.lt_succ_of_lt t2));have St:GR n.objs.size k.objs.size s.objs.size c.heap.objs.size m.objs.size G N l2 a2 0 H:=⟨⟨.none,Z6,.inl rfl,g5⟩,D _ _ (I _ _ (S▸a7 _ rfl)),⟨_,_,(D _ _ (U▸a7 _ rfl))⟩,kC.new (D _ _ (I _ _ (V _ _ (p2 _ _ (O▸a7 _ rfl))))),kC.new (D _ _ (I _ _ (V _ _ (Q▸a7 _ rfl))))⟩;refine⟨⟨_,g5,rfl⟩,T.self _ 0 _ _ _ St ⟨n.objs.size,_,_,_,g,rfl,I5,T,St,λb hb=>?_,q _ (OS Z q2 w1 w2 (jZ z1))⟩⟩
 have E:c.heap.objs.size<=b:=by
  rw[d,p,r,C]at hb;simp at hb;rcases hb with rfl|rfl|rfl|rfl|rfl
  .exact gk _ _
  .exact gk _ _
  .exact gk _ _
  .exact ah _
  .exact gk _ _
 exact t.iO E (t.hok.fresh E)
end
section
variable {X:Cx}{a b:Expr}{fa fb:Rho->Res GD}{p pos:Pos}
theorem B3:cr "enumerate"=Z9 (.type "enumerate"):=by decide+kernel
theorem GU:cr "zip"=Z9 (.type "zip"):=by decide+kernel
theorem B4 (hs:isStar a=Z6)(c:PE X a (tD X.K fa)):PA X [a] (tDA X.K λb=>fa b>>=λx=>.ok [x]):=by refine PA.imp (Bp hs c FO) λg H Q ⟨b,F,z,so,e,q⟩=>⟨b,F,z,so,?_,q⟩;obtain⟨x,d,e⟩:=Res.aA e;show(fa b>>=λx=>Res.ok []>>=λf=>Res.ok (x::f))=_;rw[d];exact e
theorem GV (hs:isStar a=Z6)(d:isStar b=Z6)(f:PE X a (tD X.K fa))(hb:PE X b (tD X.K fb)):PA X [a,b] (tDA X.K λc=>fa c>>=λx=>fb c>>=λy=>.ok [x,y]):=by refine PA.imp (Bp hs f (B4 d hb)) λj H Q ⟨c,F,z,so,e,q⟩=>⟨c,F,z,so,?_,q⟩;obtain⟨x,g,e⟩:=Res.aA e;obtain⟨y,h,e⟩:=Res.aA e;show(fa c>>=λx=>(fb c>>=λy=>Res.ok [y])>>=λi=>Res.ok (x::i))=_;rw[g,h];exact e
theorem OT {fs:Rho->Res GD}(h:(fs ρ>>=λx=>Res.ok [x])=.ok ys):∃x,fs ρ=.ok x/\ys=[x]:=by obtain⟨x,e,h⟩:=Res.aA h;cases h;exact⟨x,e,rfl⟩
theorem B5 {K:Z5}(so:StOk K F H j k)(hc:mY x=Z7)(e:seqR x.2=.ok l)(c:Rep K f (BG F H x.1) v x.2):∃B,Rep K f B v x.2/\(∀a,B (Z9 a)->F.O a=Z8)/\∀a,B a->BI F .al a:=by
 obtain⟨g,d⟩:=x;cases d<;>try (exact(gK e).elim)
 case list ds=>
  have b:g≠.al:=λz=>by subst z;cases hc
  exact⟨_,c,λa h=>BK so b h,λa h=>BI.of so.aO (BG.aO so.aO h)⟩
 case tuple ds=>
  rcases ew.mp hc with b|i
  .have b:g≠ .al:=λz=>by subst z;cases b
   exact⟨_,c,λa h=>BK so b h,λa h=>BI.of so.aO (BG.aO so.aO h)⟩
  .exact⟨λ_=>False,Rep.bS _ i c,λ_ h=>h.elim,λ_ h=>h.elim⟩
theorem OU (h:(fa ρ>>=λx=>fb ρ>>=λy=>Res.ok [x,y])=.ok ys):∃x y,fa ρ=.ok x/\fb ρ=.ok y/\ys=[x,y]:=by obtain⟨x,e,h⟩:=Res.aA h;obtain⟨y,a,h⟩:=Res.aA h;cases h;exact⟨x,y,e,a,rfl⟩
theorem OV (ht:(isTup tg||isNm tg)=Z7)(hm:X.mg "zip"=Z8)(t:Gl X "zip")(hs:isStar a=Z6)(f:isStar b=Z6)(ha:PE X a (tD X.K fa))(hb:PE X b (tD X.K fb)):PI X tg (.Call (.Name "zip" p) [a,b] [] pos) (tDW X.K λρ=>fa ρ>>=λx=>fb ρ>>=λy=>seqR x.2>>=λn=>seqR y.2>>=λo=>.ok (.al,zipD n o)):=by
 rintro g s u H R I ⟨ρ,F,w,so,e,q⟩
 obtain⟨x,v,e⟩:=Res.aA e;obtain⟨y,A,e⟩:=Res.aA e;obtain⟨n,B,e⟩:=Res.aA e;obtain⟨o,C,e⟩:=Res.aA e;cases e;refine Call_ (z2m I t hm GU (PyProof.Rows.callWith_type1 (aM (GV hs f ha hb pos g s u H (λh d=>Same H d/\dZ X.K F H d h [x,y]) I ⟨ρ,F,[x,y],so,by show(fa ρ>>=λx=>fb ρ>>=λy=>Res.ok [x,y])=_;rw[v,A];rfl,λh d r i=>⟨r,i⟩⟩) λG r ⟨h,d,D,E,sm,i⟩=>?_) (dX hs) (by rw[dX f];rfl)));obtain⟨L,M,rfl,j,k⟩:=i.two;obtain⟨N,O,rfl,l,m⟩:=vals2 E;exact z86 ht D l m ((Rep.there _ j).weak (B':=λc=>bU F c/\¬nw d c) λc z=>⟨BG.aO so.aO z.1,z.2⟩) ((Rep.there _ k).weak (B':=λc=>bU F c/\¬nw d c) λc z=>⟨BG.aO so.aO z.1,z.2⟩) B C λJ wk=>q J _ d sm (λc z=>z) wk
theorem B6 (ht:(isTup tg||isNm tg)=Z7)(hm:X.mg "zip"=Z8)(hg:Gl X "zip")(hs:isStar a=Z6)(rD:isStar b=Z6)(ha:PE X a (tD X.K fa))(hb:PE X b (tD X.K fb)):PI X tg (.Call (.Name "zip" p) [a,b] [] pos) (tDF X.K λρ=>(fa ρ>>=λx=>fb ρ>>=λy=>.ok [x,y])>>=λys=>kY ys ρ):=by
 rintro pins s σ H R I ⟨ρ,F,w,so,e,q⟩
 obtain⟨zs,e0,e⟩:=Res.aA e;obtain⟨x,y,e1,e2,rfl⟩:=OU e0;have e:(if(mY x&&mY y)=Z7 then(seqR x.2>>=λxs=>seqR y.2>>=λzs=>Res.ok (G.al,zipD xs zs,ρ))else Res.no)=Res.ok w:=e;split at e
 case isFalse=>cases e
 rename_i hc;obtain⟨c1,c2⟩:=aw.mp hc;obtain⟨xs,e3,e⟩:=Res.aA e;obtain⟨ys,e4,e⟩:=Res.aA e;cases e;refine Call_ (z2m I hg hm GU (PyProof.Rows.callWith_type1 (aM (GV hs rD ha hb pos pins s σ H (λvs H1=>Same H H1/\dZ X.K F H H1 vs [x,y]) I ⟨ρ,F,[x,y],so,by show(fa ρ>>=λx=>fb ρ>>=λy=>Res.ok [x,y])=_;rw[e1,e2];rfl,λvs H1 s1 rs=>⟨s1,rs⟩⟩) λus s1 ⟨vs,H1,I1,r1,sm,rs⟩=>?_) (dX hs) (by rw[dX rD];rfl)));obtain⟨v1,v2,rfl,wu,wx⟩:=rs.two;obtain⟨u1,u2,rfl,OW,OX⟩:=vals2 r1;obtain⟨B1,k1,k2,k3⟩:=B5 so c1 e3 wu;obtain⟨B2,m1,m2,m3⟩:=B5 so c2 e4 wx;exact z86 ht I1 OW OX (k1.weak (B':=λc=>B1 c\/B2 c) λc z=>.inl z) (m1.weak (B':=λc=>B1 c\/B2 c) λc z=>.inr z) e3 e4 λJ wk=>q J _ H1 F sm Run.refl (bX.same sm) (so.same sm) (λc z=>z.elim (k2 c) (m2 c)) (λc z=>z.elim (k3 c) (m3 c)) wk
theorem OY (hm:X.mg "enumerate"=Z8)(k:Gl X "enumerate")(hs:isStar a=Z6)(l:PE X a (tD X.K fa)):PI X (.Tuple h x1 tp) (.Call (.Name "enumerate" p) [a] [] pos) (tDW X.K λf=>fa f>>=λx=>seqR x.2>>=λi=>.ok (.al,z19 0 i)):=by
 rintro b s m H R I ⟨f,F,w,so,e,q⟩
 obtain⟨x,n,e⟩:=Res.aA e;obtain⟨i,o,e⟩:=Res.aA e;cases e;refine Call_ (z2m I k hm B3 (PyProof.Rows.callWith_type1 (aM (B4 hs l pos b s m H (λg d=>Same H d/\dZ X.K F H d g [x]) I ⟨f,F,[x],so,by show(fa f>>=λx=>Res.ok [x])=_;rw[n];rfl,λg d j rs=>⟨j,rs⟩⟩) λC j ⟨g,d,r,t,sm,rs⟩=>?_) (dX hs) rfl));obtain⟨v,rfl,y⟩:=rs.one;obtain⟨u,rfl,A⟩:=vals1 t;exact z3t r A (Rep.there _ y) o λJ B=>q J _ d sm (λc z=>⟨BG.aO so.aO z.1,z.2⟩) B
theorem OZ (hm:X.mg "enumerate"=Z8)(l:Gl X "enumerate")(hs:isStar a=Z6)(m:PE X a (tD X.K fa)):PI X (.Tuple g M tp) (.Call (.Name "enumerate" p) [a] [] pos) (tDF X.K λb=>(fa b>>=λx=>.ok [x])>>=λh=>pD h b):=by
 rintro c s n H R I ⟨b,F,w,so,e,q⟩
 obtain⟨h,o,e⟩:=Res.aA e;obtain⟨x,r,rfl⟩:=OT o;have e:(if mY x=Z7 then(seqR x.2>>=λi=>Res.ok (G.al,z19 0 i,b))else Res.no)=Res.ok w:=e;split at e
 case isFalse=>cases e
 rename_i hc;obtain⟨i,j,e⟩:=Res.aA e;cases e;refine Call_ (z2m I l hm B3 (PyProof.Rows.callWith_type1 (aM (B4 hs m pos c s n H (λf d=>Same H d/\dZ X.K F H d f [x]) I ⟨b,F,[x],so,by show(fa b>>=λx=>Res.ok [x])=_;rw[r];rfl,λf d k rs=>⟨k,rs⟩⟩) λN k ⟨f,d,t,y,sm,rs⟩=>?_) (dX hs) rfl));obtain⟨v,rfl,z⟩:=rs.one;obtain⟨u,rfl,A⟩:=vals1 y;obtain⟨B,C,D,E⟩:=B5 so hc j z;exact z3t t A C j λJ L=>q J B d F sm Run.refl (bX.same sm) (so.same sm) D E L
end
abbrev wy:List Value:=[.type "ValueError",.type "Exception",.type "BaseException",.type "object"]
abbrev B7 (K:Z5)(C:Addr):Bool:=W.excIn K C wy "ValueError.__new__"
def wz (K:Z5)(C:Addr):Bool:=match K.lookup C with
 |some ⟨.type "type",_,.cls cd,sl⟩=>(match cd.mro,sl.toList with
  |.ref D::bm,[_,_,_,_,Z9 (.builtin n),_]=>(D==C)&&(n=="ValueError.__new__")&& !cd.hasDel&&W.tailIn K wy bm&&W.nsOkIn K cd.ns
  |_,_=>Z6)
 |_=>Z6
def XC (C:Addr)(h:Heap)(bm:List Value):Prop:=∃N nm q bs sR sn sub ab col dd k0 k1 k2 k3 k5 mN,h.get? C=Z9 (excClassObj nm q C N bs bm sR sn sub ab col dd k0 k1 k2 k3 k5 "ValueError.__new__")/\h.Ns N mN/\OwnTail h wy bm
def GW (C:Addr)(h:Heap)(bm:List Value):Prop:=∃N nm q bs sR sn sub ab col dd k0 k1 k2 k3 k5 mN,h.get? C=Z9 (excClassObj nm q C N bs bm sR sn sub ab col dd k0 k1 k2 k3 k5 "ValueError.__new__")/\h.Ns N mN/\mN "__init__"=Z8/\OwnTail h wy bm
theorem wB:(a&&b)=Z7->a=Z7/\b=true:=aw.mp
theorem O0 {K:Z5}{C:Addr}(q:B7 K C=Z7):wz K C=Z7/\∀a cd sl,K.lookup C=Z9 ⟨.type "type",a,.cls cd,sl⟩->W.nsIn K cd.ns "__init__"=Z9 none:=by
 unfold B7 W.excIn at q;unfold wz;split at q
 .rename_i a cd sl b;split at q
  .rename_i A bm h i j k n l hm hs;obtain⟨q,c⟩:=wB q;refine⟨?_,λd f g e=>by rw[b]at e;cases e;exact qm c⟩;simp only[b,hm,hs];exact q
  .cases q
 .cases q
theorem GX {K:Z5}{C:Addr}(q:wz K C=Z7):∃a cd bm h i j k l,K.lookup C=Z9 ⟨.type "type",a,.cls cd,#[h,i,j,k,Z9 (.builtin "ValueError.__new__"),l]⟩/\cd.mro=.ref C::bm/\cd.hasDel=Z6/\W.tailIn K wy bm=Z7/\W.nsOkIn K cd.ns=true:=by
 unfold wz at q;split at q
 .rename_i a cd sl m;split at q
  .rename_i A bm b c d e n f hm hs;obtain⟨q,o⟩:=wB q;obtain⟨q,p⟩:=wB q;obtain⟨q,g⟩:=wB q;obtain⟨r,s⟩:=wB q;have t:sl=#[b,c,d,e,Z9 (.builtin n),f]:=Array.toList_inj.mp (by rw[hs]);refine⟨a,cd,bm,b,c,d,e,f,?_,?_,?_,p,o⟩
   .rw[m,t,qm s]
   .rw[hm,qm r]
   .cases hd:cd.hasDel with
    |false=>rfl
    |true=>rw[hd]at g;cases g
  .cases q
 .cases q
theorem O1 {K:Z5}{C:Addr}(a:K.lookup C=Z9 ⟨.type "type",c,.cls cd,sl⟩)(hm:cd.mro=.ref C::bm)(e:W.subIn K (.ref C) v=Z9 b):(ZT C::bm).contains v=b:=by
 have e:W.mroIn K C v=Z9 b:=e;unfold W.mroIn W.clsIn at e;rw[a]at e
 dsimp at e
 rw[hm]at e;exact qg e
theorem XC.mk {K:Z5}{C:Addr}(X:K.In h)(q:wz K C=Z7):∃bm,XC C h bm/\∀v b,W.subIn K (.ref C) v=Z9 b->(ZT C::bm).contains v=b:=by
 obtain⟨d,cd,bm,f,g,i,j,k,a,hm,hd,l,m⟩:=GX q;refine⟨bm,⟨cd.ns,cd.name,cd.qualname,cd.bases,cd.hasDict,cd.slotNames,cd.subclasses,cd.abstract,cd.collection,d,f,g,i,j,k,h.nsMap cd.ns,?_,.of_isNs (W.isNs_of_in X m),W.tail_of_in X l⟩,λv b e=>O1 a hm e⟩;have c:=X _ _ a;cases cd
 dsimp only at hm hd
 rw[hm,hd]at c;exact c
theorem GW.mk {K:Z5}{C:Addr}(X:K.In h)(q:B7 K C=Z7):∃bm,GW C h bm:=by
 obtain⟨d,e⟩:=O0 q;obtain⟨f,cd,bm,g,i,j,k,l,a,hm,hd,m,b⟩:=GX d;refine⟨bm,cd.ns,cd.name,cd.qualname,cd.bases,cd.hasDict,cd.slotNames,cd.subclasses,cd.abstract,cd.collection,f,g,i,j,k,l,h.nsMap cd.ns,?_,.of_isNs (W.isNs_of_in X b),W.nsMap_none_of_in X b (e _ _ _ a),W.tail_of_in X m⟩;have c:=X _ _ a;cases cd
 dsimp only at hm hd
 rw[hm,hd]at c;exact c
section
variable {prog:bp}{w:World}{A:d9}{E:Value->au->Prop}{K:Z5}{h:Heap}{g:Array GenState}{d:Drawn}{t:Nat}{os:mr}{C e:Addr}{oe:Obj}
end
def O2 (h base:Heap)(e:Addr)(cls:Value)(dd:Option Addr)(fl:Value):Prop:=∃ob vs T tr ts,h.get? e=Z9 ob/\ob.cls=cls/\ob.dict=dd/\ob.data=.fields vs/\vs[1]?=Z9 (.ref T)/\base.get? T=Z8/\T≠e/\h.get? T=Z9 tr/\tr.data=.fields ts/\ts[3]?=Z9 fl
def GY (base:Heap)(l:List Env)(e:Addr)(cls:Value)(dd:Option Addr)(h:Heap):Prop:=base.StaysIn h/\base.get? e=Z8/\h.FunFrames base l/\O2 h base e cls dd .none
theorem GY.first (x:GY base l e cls b h):∃ob a,h.get? e=Z9 ob/\ob.cls=cls/\ob.dict=b/\ob.data=.fields a:=by obtain⟨_,_,_,ob,a,_,_,_,c,d,f,g,_⟩:=x;exact⟨ob,a,c,d,f,g⟩
section
variable {M:Model}{A:d9}{E:Value->au->Prop}{s:au}{base:Heap}{env:Env}{outer l:List Env}{L e:Addr}{Q:Unit->au->Prop}{cls:Value}{dd:Option Addr}
end
def CXE (P:bp)(w:World)(base:Heap):CXT:=λ_ _ _ _ _ _=>False
section
variable {P:bp}{w:World}{base:Heap}{outer:List Env}{H H':Hp}{s s':au}{C a:Addr}{dd:Option Addr}
end
section
variable {X:Cx}{pins:List (Addr×Obj)}{σ:L2.St}{H H':Hp}{s s':au}{C a:Addr}{dd:Option Addr}
end
section
variable {X:Cx}{n x:Str}{p p1 p2 pos:Pos}{a C:Addr}{oe:Obj}{v:V}{u:Value}{b:Bool}
end
section
theorem aD (h:(a&&b)=Z7):a=Z7/\b=true:=aw.mp h
theorem aT (h:(a&&b&&c)=Z7):a=Z7/\b=Z7/\c=true:=⟨(aD (aD h).1).1,(aD (aD h).1).2,(aD h).2⟩
theorem bQ (h:(a&&b&&c&&d)=Z7):a=Z7/\b=Z7/\c=Z7/\d=true:=⟨(aT (aD h).1).1,(aT (aD h).1).2.1,(aT (aD h).1).2.2,(aD h).2⟩
theorem fD (h:(a&&b&&c&&d&&e)=Z7):a=Z7/\b=Z7/\c=Z7/\d=Z7/\e=true:=⟨(bQ (aD h).1).1,(bQ (aD h).1).2.1,(bQ (aD h).1).2.2.1,(bQ (aD h).1).2.2.2,(aD h).2⟩
theorem cX (h:(!b)=Z7):b=false:=by cases b<;>first|rfl|cases h
theorem ff {p:Prop}(h:b=Z6)(z:b=Z7):p:=by rw[h]at z;cases z
theorem fM (h:l.isEmpty=Z7):l=[]:=by cases l<;>first|rfl|cases h
theorem sS (h:(!l.isEmpty)=Z7):∃x r,l=x::r:=by cases l<;>first|exact⟨_,_,rfl⟩|cases h
theorem aJ (h:o.any f=Z7):∃v,o=Z9 v/\f v=true:=by
 cases o with
 |none=>cases h
 |some v=>exact⟨v,rfl,h⟩
theorem bY {a:Type}{o:Option a}{v:a}{q:a->Prop}(h:o=Z9 v)(d:o=Z8\/∃u,o=Z9 u/\q u):q v:=by grind
theorem wC (h:A5 e=Z9 v):∃p,e=.Name v p:=bY (q:=λv=>∃p,e=.Name v p) h (by cases e<;>first|exact .inl rfl|exact .inr ⟨_,rfl,_,rfl⟩)
theorem wD (h:jJ e=Z9 v):∃k p,e=.Constant v k p:=bY (q:=λv=>∃k p,e=.Constant v k p) h (by cases e<;>first|exact .inl rfl|exact .inr ⟨_,rfl,_,_,rfl⟩)
theorem GZ (h:su e=Z9 v):∃p,e=.BinOp v.1 v.2.1 v.2.2 p:=bY (q:=λv=>∃p,e=.BinOp v.1 v.2.1 v.2.2 p) h (by cases e<;>first|exact .inl rfl|exact .inr ⟨_,rfl,_,rfl⟩)
theorem pO (h:vI e=Z9 v):∃p,e=.UnaryOp v.1 v.2 p:=bY (q:=λv=>∃p,e=.UnaryOp v.1 v.2 p) h (by cases e<;>first|exact .inl rfl|exact .inr ⟨_,rfl,_,rfl⟩)
theorem pP (h:sv e=Z9 v):∃p,e=.Compare v.1 v.2.1 v.2.2 p:=bY (q:=λv=>∃p,e=.Compare v.1 v.2.1 v.2.2 p) h (by cases e<;>first|exact .inl rfl|exact .inr ⟨_,rfl,_,rfl⟩)
theorem pQ (h:vJ e=Z9 v):e=.BoolOp v.1 v.2.1 v.2.2:=bY (q:=λv=>e=.BoolOp v.1 v.2.1 v.2.2) h (by cases e<;>first|exact .inl rfl|exact .inr ⟨_,rfl,rfl⟩)
theorem G0 (h:sx e=Z9 v):∃p,e=.IfExp v.1 v.2.1 v.2.2 p:=bY (q:=λv=>∃p,e=.IfExp v.1 v.2.1 v.2.2 p) h (by cases e<;>first|exact .inl rfl|exact .inr ⟨_,rfl,_,rfl⟩)
theorem wF (h:mZ e=Z9 v):∃k p,e=.Tuple v k p:=bY (q:=λv=>∃k p,e=.Tuple v k p) h (by cases e<;>first|exact .inl rfl|exact .inr ⟨_,rfl,_,_,rfl⟩)
theorem G1 (h:sA e=Z9 v):∃p,e=.List v p:=bY (q:=λv=>∃p,e=.List v p) h (by cases e<;>first|exact .inl rfl|exact .inr ⟨_,rfl,_,rfl⟩)
theorem sT (h:ym e=Z9 v):∃p,e=.Dict v.1 v.2 p:=bY (q:=λv=>∃p,e=.Dict v.1 v.2 p) h (by cases e<;>first|exact .inl rfl|exact .inr ⟨_,rfl,_,rfl⟩)
theorem wG (h:lB e=Z9 v):∃p,e=.Subscript v.1 v.2 p:=bY (q:=λv=>∃p,e=.Subscript v.1 v.2 p) h (by cases e<;>first|exact .inl rfl|exact .inr ⟨_,rfl,_,rfl⟩)
theorem O3 (h:vK e=Z9 v):∃p,e=.Slice v.1 v.2.1 v.2.2 p:=bY (q:=λv=>∃p,e=.Slice v.1 v.2.1 v.2.2 p) h (by cases e<;>first|exact .inl rfl|exact .inr ⟨_,rfl,_,rfl⟩)
theorem wH (h:A6 e=Z9 v):e=.Call v.1 v.2.1 v.2.2.1 v.2.2.2:=bY (q:=λv=>e=.Call v.1 v.2.1 v.2.2.1 v.2.2.2) h (by cases e<;>first|exact .inl rfl|exact .inr ⟨_,rfl,rfl⟩)
theorem sU (h:yn e=Z9 v):e=.Attribute v.1 v.2.1 v.2.2:=bY (q:=λv=>e=.Attribute v.1 v.2.1 v.2.2) h (by cases e<;>first|exact .inl rfl|exact .inr ⟨_,rfl,rfl⟩)
theorem wI (h:A7 e=Z9 v):∃p,e=.ListComp v.1 v.2.1 v.2.2 p:=bY (q:=λv=>∃p,e=.ListComp v.1 v.2.1 v.2.2 p) h (by cases e<;>first|exact .inl rfl|exact .inr ⟨_,rfl,_,rfl⟩)
theorem eR (h:bJ l=Z9 v):l=[v]:=by rcases l with _|⟨x,_|⟨y,l⟩⟩<;>cases h;rfl
theorem B8 (h:pF l=Z9 v):l=[v.1,v.2]:=by rcases l with _|⟨x,_|⟨y,_|⟨z,l⟩⟩⟩<;>cases h;rfl
theorem jN (h:jK e=Z9 v):∃q p,e=.Call (.Name v.1 q) v.2 [] p:=by
 obtain⟨u,hu,h⟩:=ji.mp h;cases a:u.2.2.1.isEmpty with
 |false=>rw[a]at h;simp_all
 |true=>rw[a]at h;obtain⟨x,b,rfl⟩:=dg.mp h;obtain⟨q,c⟩:=wC b;exact⟨q,_,by rw[wH hu,c,fM a]⟩
theorem gA (h:nA e=Z9 v):∃b c,e=.Call (.Attribute v.1 v.2.1 b) v.2.2.1 [] c/\v.2.2.2=(b.endLine==c.line):=by
 obtain⟨u,hu,h⟩:=ji.mp h;cases a:u.2.2.1.isEmpty with
 |false=>rw[a]at h;simp_all
 |true=>rw[a]at h;obtain⟨x,d,rfl⟩:=dg.mp h;exact⟨_,_,by rw[wH hu,sU d,fM a],rfl⟩
theorem iH (h:iP f e=Z7):∃x p,e=.Name x p/\f x=true:=by obtain⟨x,a,h⟩:=aJ h;obtain⟨p,b⟩:=wC a;exact⟨x,p,b,h⟩
structure Cok (Γ:Gm)(Κ:List D)(Φ:List Fn)(X:Cx)(r:Nat):Prop where
 hN:X.N=Γ.N
 hs:X.env.scope=Γ.sc
 nd:Γ.N.Nodup
 fn:Γ.blk=Z6->∀x,X.fn x=Z7
 kind:Γ.sc.kind=.function
 free:∀x,Γ.free.contains x=Z7->X.mg x=Z8
 fns:∀(j:Nat) f n,Γ.fns[j]?=Z9 (f,n)->∃m k ps,Φ[j]?=Z9 m/\k<=r/\Cal X.prog X.w X.K X.mg X.base k f ps (spD X.K n m)
 cst:∀(j:Nat) x,Γ.cst[j]?=Z9 x->∃d a,Κ[j]?=Z9 d/\X.mg x=Z9 (.ref a)/\∀H B,B Z8->Rep X.K H B (.ref a) d
 room:Γ.cm=Z7->Room r X.A
 calm:Γ.cm=Z7->X.calm=Z7
 hu:X.A.units+64<cLine
 wJ:Γ.blk=Z6->X.stack=X.env::X.outer/\X.env.frame=Z9 X.env.locals
 B9:Γ.xc=Z8->∀x u,(x,u)∈X.fx->Γ.kp.contains x=Z7
 xc:Γ.xc=Z8
section
variable {Γ:Gm}{Κ:List D}{Φ:List Fn}{X:Cx}{r:Nat}
theorem Cok.gl (k:Cok a Κ Φ X r)(h:pE a x=Z7):Gl X x/\VB x:=by unfold pE at h;rw[aq]at h;refine⟨?_,by simpa using h.2⟩;show X.env.scope.names.lookup x=_;rw[k.hs];simpa using h.1
theorem Cok.aO (k:Cok b Κ Φ X r)(h:fB b i x=Z7):X.N[i]?=Z9 x/\Vis X.env.scope x/\VB x/\(x==("__classdict__":Str))=false:=by
 unfold fB at h;simp at h;have⟨⟨⟨h1,a⟩,h3⟩,h4⟩:=h;refine⟨by rw[k.hN];exact h1,?_,by simpa using h3,by simpa using h4⟩;rw[k.hs];rcases a with(a|a)|a
 .exact .inl a
 .exact .inr (.inl a)
 .exact .inr (.inr a)
theorem Cok.loc (k:Cok Γ Κ Φ X r)(h:jI Γ i x=Z7):X.N[i]?=Z9 x/\Loc X.env.scope x/\Sto X x:=by
 unfold jI at h;simp only[aq,j2,beq_iff_eq,gz]at h;obtain⟨⟨c,a⟩,b,d⟩:=h;refine⟨by rw[k.hN];exact c,?_,?_,λu z=>?_⟩
 .unfold L2.Loc;rw[k.hs];rcases a with a|⟨_,a⟩
  .exact .inl a
  .exact .inr a
 .rcases a with a|⟨a,_⟩
  .exact .inr (k.hs▸a)
  .exact .inl (k.fn a x)
 .rw[k.B9 k.xc x u z]at b;cases b
theorem Cok.blt (k:Cok a Κ Φ X r)(h:dH a x=Z7):Gl X x/\X.mg x=Z8/\VB x/\x≠"__name__":=by unfold dH at h;simp only[aw]at h;obtain⟨⟨b,c⟩,d⟩:=h;obtain⟨g1,g2⟩:=k.gl b;exact⟨g1,k.free x c,g2,by simpa using d⟩
theorem O4 {C:Addr}:(blk X scope a C b s H).env.scope=yl scope X.env.scope:=rfl
theorem Cok.blk (k:Cok Γ Κ Φ X r)(hk:scope.kind=.function)(nd:a.Nodup)(C:Addr)(b:List Addr)(s:au)(H:Hp):Cok {Γ with N:=a,sc:=yl scope Γ.sc,blk:=Z7,xc:=Z8,kp:=[]} Κ Φ (blk X scope a C b s H) r where
 hN:=rfl
 hs:=by rw[O4,k.hs]
 nd:=nd
 fn:=λz=>by cases z
 kind:=hk
 free:=k.free
 fns:=k.fns
 cst:=k.cst
 room:=k.room
 calm:=k.calm
 hu:=k.hu
 wJ:=λz=>by cases z
 B9:=λ_ _ _ z=>by cases z
 xc:=rfl
theorem O5 (k:Cok a Κ Φ X r)(all:List Nat):∀{es:List Expr},A8 a is es=Z7->PGs X es (nD X.K all is)/\(eo es X.env).length=is.length/\(eo es X.env).findIdx? (·.1)=none:=by
 induction is with
 |nil=>intro es h;cases fM h;exact⟨Ny,rfl,rfl⟩
 |cons i is b=>
  intro es h;cases es with
  |nil=>cases h
  |cons e es=>
   obtain⟨h0,c⟩:=aD h;obtain⟨x,p,rfl,h0⟩:=iH h0;obtain⟨d,f,g⟩:=k.loc h0;obtain⟨a1,a2,a3⟩:=b c;refine⟨Nz (k.hN▸k.nd) d f g a1,?_,?_⟩
   .show(eo es X.env).length+1=_;rw[a2];rfl
   .show((Z6,oo (.Name x p) X.env)::eo es X.env).findIdx? (·.1)=Z8;rw[List.findIdx?_cons,a3];rfl
theorem uh (k:Cok b Κ Φ X r)(h:qN b t e=Z7):PG X e (tDG X.K t):=by
 cases t with
 |nm i=>obtain⟨x,p,rfl,a⟩:=iH h;obtain⟨c,d,f⟩:=k.loc a;exact Nw (k.hN▸k.nd) c d f
 |tp is=>obtain⟨h0,h⟩:=aD h;obtain⟨v,g,a⟩:=aJ h;obtain⟨_,_,rfl⟩:=wF g;obtain⟨a1,a2,a3⟩:=O5 k is a;exact NA (k.calm h0) a1 rfl a3 a2.symm
theorem G2 (h:plainT e=Z7)(env:Env):∀a,p4 e env a=(do let v <-a;standAt e.pos;holding [v] (truthy v)):=by
 intro a;cases e<;>first|(cases h;done)|rfl|skip
 rename_i b x p;cases b<;>first|(cases h;done)|rfl
theorem ui (h:sr e=Z7)(env:Env):∀x,ef e env x=pure x:=by intro x;cases e<;>first|(cases h;done)|rfl
end
variable (Κ:List D)(Φ:List Fn)
theorem O6 (c:C):∀b es d f,dY b c es=Z7->dG Κ Φ c d=.ok f->f.length=es.length/\(es.all λe=>!isStar e)=true:=by
 induction c with
 |nil=>intro b es d f h e;cases fM h;cases e;exact⟨rfl,rfl⟩
 |cons a r _ i=>
  intro b es d f h e;cases es with
  |nil=>cases h
  |cons x es=>obtain⟨j,_,k⟩:=aT h;obtain⟨y,_,e⟩:=Res.aA e;obtain⟨g,l,e⟩:=Res.aA e;cases e;obtain⟨m,n⟩:=i b es d g k l;exact⟨by rw[am,am,m],by rw[b9,n,j];rfl⟩
 |_=>exact λ_ _ _ _ h=>ff rfl h
end
section
theorem O7 (h:tyB a T t=Z7):∃x p,t=.Name x p/\x=Str.ofString T/\dH a x=Z7/\T∈tysB:=by obtain⟨x,p,e,h⟩:=iH h;obtain⟨b,c,d⟩:=aT h;exact⟨x,p,e,qm b,c,cw.mp d⟩
theorem O8 (h:T∈tysB):cr (Str.ofString T)=Z9 (.type T):=by simp only[tysB,ao,bw,or_false]at h;rcases h with rfl|rfl|rfl|rfl|rfl<;>decide+kernel
variable (Κ:List D)(Φ:List Fn)
theorem sV:∀{c:C} {es:List Expr},dY g c es=Z7->(es.all λe=>!isStar e)=true:=by
 intro c
 induction c with
 |nil=>intro es h;cases fM h;rfl
 |cons a r _ b=>
  intro es h;cases es with
  |nil=>rfl
  |cons e es=>obtain⟨d,_,f⟩:=aT h;rw[b9,b f,d];rfl
 |_=>exact λh=>ff rfl h
theorem wK (h:dY d c es=Z7):∀b a,dG Κ Φ c b=.ok a->a.length=es.length:=λb a e=>(O6 Κ Φ c d es b a h e).1
structure Sd (c:C):Prop where
 E:∀(Γ:Gm) (X:Cx) (r:Nat) (e:Expr),Cok Γ Κ Φ X r->chkE Γ c e=Z7->PE X e (tD X.K (aE Κ Φ c))
 T:∀(Γ:Gm) (X:Cx) (r:Nat) (e:Expr),Cok Γ Κ Φ X r->eK Γ c e=Z7->PT X e (dS X.K (dR Κ Φ c))/\((∃o l p,e=.BoolOp o l p)->PW X e (dS X.K (dR Κ Φ c)))
 Q:∀(Γ:Gm) (X:Cx) (r:Nat) (l:Expr) (ops:List CmpOp) (rs:List Expr) (pos:Pos),Cok Γ Κ Φ X r->chkE Γ c (.Compare l ops rs pos)=Z7->PT X (.Compare l ops rs pos) (dS X.K λρ=>aE Κ Φ c ρ>>=λx=>fU x.2)
 A:∀(Γ:Gm) (X:Cx) (r:Nat) (es:List Expr),Cok Γ Κ Φ X r->dY Γ c es=Z7->PA X es (tDA X.K (dG Κ Φ c))
 O:∀(Γ:Gm) (X:Cx) (r:Nat) (e:Option Expr),Cok Γ Κ Φ X r->pG Γ c e=Z7->PO X e (tDO X.K (si Κ Φ c))
 W:∀(Γ:Gm) (X:Cx) (r:Nat) (e tg:Expr),Cok Γ Κ Φ X r->yp c tg=Z7->jL Γ c e=Z7->PI X tg e (tDW X.K (evW Κ Φ c))
 G:∀(Γ:Gm) (X:Cx) (r:Nat) (e:Expr),Cok Γ Κ Φ X r->sF Γ c e=Z7->∃a,c=.tv a/\PE X e (tD X.K (aE Κ Φ a))
def qS:C->Nat
 |.and _ _|.or _ _|.not _|.tv _|.nil|.cons _ _|.fT _|.enum _|.zip _ _=>2
 |.cmp _ _ _|.chain _ _ _ _ _|.rW _ _=>1
 |_=>0
variable {Κ:List D}{Φ:List Fn}{a b c:C}
section
variable {Γ:Gm}{e tg:Expr}{es:List Expr}{o:Option Expr}
theorem O9 (h:qS c<2):eK Γ c e=false:=by cases c<;>first|rfl|exact absurd h (cy 2)
theorem Pa (h:qS c<2):dY Γ c es=false:=by cases c<;>first|rfl|exact absurd h (cy 2)
theorem Pb (h:qS c<2):pG Γ c o=false:=by cases c<;>first|rfl|exact absurd h (cy 2)
theorem Pc (h:qS c<2):jL Γ c e=false:=by cases c<;>first|rfl|exact absurd h (cy 2)
theorem Pd (h:qS c<2):sF Γ c e=false:=by cases c<;>first|rfl|exact absurd h (cy 2)
end
theorem Sd.q (hE:∀Γ X r e,Cok Γ Κ Φ X r->chkE Γ c e=Z7->PE X e (tD X.K (aE Κ Φ c)))(hQ:∀Γ X r l ops rs pos,Cok Γ Κ Φ X r->chkE Γ c (.Compare l ops rs pos)=Z7->PT X (.Compare l ops rs pos) (dS X.K λρ=>aE Κ Φ c ρ>>=λx=>fU x.2))(hx:qS c<2):Sd Κ Φ c:=⟨hE,λ_ _ _ _ _ h=>ff (O9 hx) h,hQ,λ_ _ _ _ _ h=>ff (Pa hx) h,λ_ _ _ _ _ h=>ff (Pb hx) h,λ_ _ _ _ _ _ _ h=>ff (Pc hx) h,λ_ _ _ _ _ h=>ff (Pd hx) h⟩
theorem Pe (h:qS c=0):chkE Γ c (.Compare l ops rs pos)=false:=by cases c<;>first|rfl|(cases h;done)
theorem Sd.x (b:∀Γ X r e,Cok Γ Κ Φ X r->chkE Γ c e=Z7->PE X e (tD X.K (aE Κ Φ c)))(a:qS c=0):Sd Κ Φ c:=Sd.q b (λ_ _ _ _ _ _ _ _ h=>ff (Pe a) h) (a▸Nat.zero_lt_two)
theorem Pf:Sd Κ Φ (.var i):=Sd.x (λf X r e k h=>by obtain⟨x,p,rfl,h⟩:=iH h;obtain⟨a,b,c,d⟩:=k.aO h;exact MQ a b c d) rfl
theorem Pg:Sd Κ Φ .non:=Sd.x (λa X r e k h=>by obtain⟨_,_,rfl⟩:=wD (qj h);exact yu Km λ_ _=>rfl) rfl
theorem Ca {b:Bool}:Sd Κ Φ (.bl b):=Sd.x (λa X r e k h=>by obtain⟨_,_,rfl⟩:=wD (qj h);exact yu Kl λ_ _=>rfl) rfl
theorem Ph {b:Int}:Sd Κ Φ (.int b):=Sd.x (λa X r e k h=>by obtain⟨_,_,rfl⟩:=wD (qj h);exact yu Kk λ_ _=>rfl) rfl
theorem Pj {b:Str}:Sd Κ Φ (.str b):=Sd.x (λd X r e k h=>by obtain⟨a,c⟩:=aD h;obtain⟨_,_,rfl⟩:=wD (qj a);exact yu Kn λ_ _=>⟨rfl,c⟩) rfl
theorem Pk:Sd Κ Φ (.glob j x):=Sd.x (λΓ X r e k h=>by
 obtain⟨y,p,rfl,f⟩:=iH h;obtain⟨g,i,l⟩:=aT f;cases qm g;obtain⟨m,g2⟩:=k.gl i;obtain⟨d,a,b,n,o⟩:=k.cst j _ (qm l);cases hi:imm d with
 |true=>
  refine PE.imp (MR m n g2 hi o) λσ H Q c=>?_
  have t:aE Κ Φ (.glob j x)=λ_=>.ok (.fr,d):=by
   funext ρ
   show(match Κ[j]? with|some d=>if imm d=Z7 then Res.ok (G.fr,d)else .no|none=>.no)=_;rw[b];show(if imm d=Z7 then Res.ok (G.fr,d)else .no)=_;rw[hi];rfl
  rw[t]at c;exact c
 |false=>intro pins s σ H Q I u;obtain⟨ρ,F,z,v,e,q⟩:=u;have e:(match Κ[j]? with|some d=>if imm d=Z7 then Res.ok (G.fr,d)else .no|none=>.no)=.ok z:=e;rw[b]at e;have e:(if imm d=Z7 then Res.ok (G.fr,d)else .no)=.ok z:=e;rw[hi]at e;cases e) rfl
theorem Pl (d:Sd Κ Φ a)(f:Sd Κ Φ b):Sd Κ Φ (.bin o a b):=Sd.x (λc X r e k h=>by obtain⟨v,g,i⟩:=aJ h;obtain⟨p,rfl⟩:=GZ g;obtain⟨j,l,m,n⟩:=bQ i;cases qj j;exact MS l (d.E c X r _ k m) (f.E c X r _ k n)) rfl
theorem Pm (b:Sd Κ Φ a):Sd Κ Φ (.neg a):=Sd.x (λc X r e k h=>by obtain⟨⟨o,x⟩,d,f⟩:=aJ h;obtain⟨p,rfl⟩:=pO d;obtain⟨g,i⟩:=aD f;cases qj g;exact MT (b.E c X r _ k i)) rfl
theorem G3 (h:chkE Γ (.cmp op a b) e=Z7):∃l r p,e=.Compare l [op] [r] p/\z2l op=Z7/\di op r=Z6/\chkE Γ a l=Z7/\chkE Γ b r=true:=by obtain⟨⟨l,o,rs⟩,hv,h9⟩:=aJ h;obtain⟨p,rfl⟩:=pP hv;obtain⟨h1,h2⟩:=aD h9;obtain⟨r,hr,h3⟩:=aJ h2;cases qj h1;cases eR hr;obtain⟨h2,h3,h4,h5⟩:=bQ h3;exact⟨l,r,p,rfl,h2,cX h3,h4,h5⟩
theorem Pn (j:Sd Κ Φ a)(m:Sd Κ Φ b):Sd Κ Φ (.cmp s a b):=Sd.q (λc X r e k h=>by
 obtain⟨_,_,_,rfl,d,f,g,i⟩:=G3 h;exact zrf k.hu d f (j.E c X r _ k g) (m.E c X r _ k i)) (λc X r l n rs p k h=>by
 obtain⟨_,_,_,o,d,f,g,i⟩:=G3 h;cases o;exact ztv k.hu d f (j.E c X r _ k g) (m.E c X r _ k i)) nn
theorem G4 (h:chkE Γ (.chain f d a b c) e=Z7):∃l m r p,e=.Compare l [f,d] [m,r] p/\z2l f=Z7/\z2l d=Z7/\ls [f,d] [m,r]=Z6/\chkE Γ a l=Z7/\chkE Γ b m=Z7/\chkE Γ c r=true:=by obtain⟨⟨l,o,rs⟩,k,n⟩:=aJ h;obtain⟨p,rfl⟩:=pP k;obtain⟨q,g⟩:=aD n;obtain⟨r,s,i⟩:=aJ g;cases qj q;cases B8 s;obtain⟨g,i,t,u,j⟩:=fD i;obtain⟨j,v⟩:=aD j;exact⟨l,r.1,r.2,p,rfl,g,i,cX t,u,j,v⟩
theorem Po (n:Sd Κ Φ a)(o:Sd Κ Φ b)(s:Sd Κ Φ c):Sd Κ Φ (.chain w t a b c):=Sd.q (λΓ X r e k h=>by
 obtain⟨_,_,_,_,rfl,d,f,g,i,j,m⟩:=G4 h;exact zjc k.hu d f g (n.E Γ X r _ k i) (o.E Γ X r _ k j) (s.E Γ X r _ k m)) (λΓ X r l u rs p k h=>by
 obtain⟨_,_,_,_,v,d,f,g,i,j,m⟩:=G4 h;cases v;exact zjo k.hu d f g (n.E Γ X r _ k i) (o.E Γ X r _ k j) (s.E Γ X r _ k m)) nn
theorem G5 (h:((sv e).any λv=>decide (v.2.1=[o])&&(bJ v.2.2).any λr=>decide (jJ r=Z9 w)&&chkE Γ a v.1)=Z7):∃l k q p,e=.Compare l [o] [.Constant w k q] p/\chkE Γ a l=true:=by obtain⟨⟨l,o,rs⟩,hv,h9⟩:=aJ h;obtain⟨p,rfl⟩:=pP hv;obtain⟨h1,h2⟩:=aD h9;obtain⟨r,hr,h3⟩:=aJ h2;obtain⟨h4,h5⟩:=aD h3;cases qj h1;cases eR hr;obtain⟨_,_,rfl⟩:=wD (qj h4);exact⟨_,_,_,_,rfl,h5⟩
theorem Pp (d:Sd Κ Φ a):Sd Κ Φ (.rW i a):=Sd.q (λb X r e k h=>by
 obtain⟨_,_,_,_,rfl,c⟩:=G5 h;exact MW rfl (d.E b X r _ k c)) (λb X r l f rs p k h=>by
 obtain⟨_,_,_,_,g,c⟩:=G5 h;cases g;exact MX rfl (d.E b X r _ k c)) nn
theorem yM (h:vL f g o p xs=Z7):(∃x y,xs=[x,y]/\f x=Z7/\g y=Z7)\/∃x y z r,xs=x::y::z::r/\f x=Z7/\g (.BoolOp o (y::z::r) p)=true:=by
 rcases xs with _|⟨x,_|⟨y,_|⟨z,xs⟩⟩⟩
 .cases h
 .cases h
 .exact .inl ⟨x,y,rfl,(aD h).1,(aD h).2⟩
 .exact .inr ⟨x,y,z,xs,rfl,(aD h).1,(aD h).2⟩
theorem Pq (g:Sd Κ Φ a)(i:Sd Κ Φ b):Sd Κ Φ (.and a b) where
 E:=λc X r e k h=>by
  obtain⟨⟨o,q,p⟩,j,l⟩:=aJ h;cases pQ j;obtain⟨m,n⟩:=aD l;cases qj m;rcases yM n with⟨x,y,rfl,d,f⟩|⟨x,y,z,t,rfl,d,f⟩
  .exact FJ (g.E c X r _ k d) (Er (i.E c X r _ k f))
  .exact FJ (g.E c X r _ k d) (i.E c X r _ k f)
 T:=λc X r e k h=>by
  obtain⟨⟨o,q,p⟩,j,l⟩:=aJ h;cases pQ j;obtain⟨m,n⟩:=aD l;cases qj m;rcases yM n with⟨x,y,rfl,d,f⟩|⟨x,y,z,t,rfl,d,f⟩
  .have w:=w_and (pos:=p) (g.T c X r _ k d).1 (Kt (i.T c X r _ k f).1);exact⟨w.pt,λ_=>w⟩
  .have w:=w_and (g.T c X r _ k d).1 ((i.T c X r _ k f).2 ⟨_,_,_,rfl⟩);exact⟨w.pt,λ_=>w⟩
 Q:=λ_ _ _ _ _ _ _ _ h=>ff rfl h
 A:=λ_ _ _ _ _ h=>ff rfl h
 O:=λ_ _ _ _ _ h=>ff rfl h
 W:=λ_ _ _ _ _ _ _ h=>ff rfl h
 G:=λ_ _ _ _ _ h=>ff rfl h
theorem Cb (g:Sd Κ Φ a)(i:Sd Κ Φ b):Sd Κ Φ (.or a b) where
 E:=λc X r e k h=>by
  obtain⟨⟨o,q,p⟩,j,l⟩:=aJ h;cases pQ j;obtain⟨m,n⟩:=aD l;cases qj m;rcases yM n with⟨x,y,rfl,d,f⟩|⟨x,y,z,t,rfl,d,f⟩
  .exact vT (g.E c X r _ k d) (Er (i.E c X r _ k f))
  .exact vT (g.E c X r _ k d) (i.E c X r _ k f)
 T:=λc X r e k h=>by
  obtain⟨⟨o,q,p⟩,j,l⟩:=aJ h;cases pQ j;obtain⟨m,n⟩:=aD l;cases qj m;rcases yM n with⟨x,y,rfl,d,f⟩|⟨x,y,z,t,rfl,d,f⟩
  .have w:=w_or (pos:=p) (g.T c X r _ k d).1 (Ku (i.T c X r _ k f).1);exact⟨w.pt,λ_=>w⟩
  .have w:=w_or (g.T c X r _ k d).1 ((i.T c X r _ k f).2 ⟨_,_,_,rfl⟩);exact⟨w.pt,λ_=>w⟩
 Q:=λ_ _ _ _ _ _ _ _ h=>ff rfl h
 A:=λ_ _ _ _ _ h=>ff rfl h
 O:=λ_ _ _ _ _ h=>ff rfl h
 W:=λ_ _ _ _ _ _ _ h=>ff rfl h
 G:=λ_ _ _ _ _ h=>ff rfl h
theorem Pr (i:Sd Κ Φ a):Sd Κ Φ (.not a) where
 E:=λb X r e k h=>by obtain⟨⟨o,x⟩,c,d⟩:=aJ h;obtain⟨p,rfl⟩:=pO c;obtain⟨f,g⟩:=aD d;cases qj f;exact MZ (i.E b X r _ k g)
 T:=λb X r e k h=>by obtain⟨⟨o,x⟩,c,d⟩:=aJ h;obtain⟨p,rfl⟩:=pO c;obtain⟨f,g⟩:=aD d;cases qj f;exact⟨qQ (i.T b X r _ k g).1,λ⟨_,_,_,z⟩=>by cases z⟩
 Q:=λ_ _ _ _ _ _ _ _ h=>ff rfl h
 A:=λ_ _ _ _ _ h=>ff rfl h
 O:=λ_ _ _ _ _ h=>ff rfl h
 W:=λ_ _ _ _ _ _ _ h=>ff rfl h
 G:=λ_ _ _ _ _ h=>ff rfl h
theorem Pu (h:Fz e=Z7):∃l o r p,e=.Compare l o r p:=by cases e<;>first|exact ff rfl h|exact⟨_,_,_,_,rfl⟩
theorem Cc (d:Sd Κ Φ a):Sd Κ Φ (.tv a) where
 E:=λ_ _ _ _ _ h=>ff rfl h
 T:=λb X r e k h=>by
  obtain⟨c,f⟩:=aD h;rcases ew.mp c with c|c
  .exact⟨M0 (d.E b X r _ k f) (G2 c _),λ⟨_,_,_,z⟩=>by subst z;cases c⟩
  .obtain⟨_,_,_,_,rfl⟩:=Pu c;exact⟨d.Q b X r _ _ _ _ k f,λ⟨_,_,_,z⟩=>by cases z⟩
 Q:=λ_ _ _ _ _ _ _ _ h=>ff rfl h
 A:=λ_ _ _ _ _ h=>ff rfl h
 O:=λb X r e k h=>by obtain⟨v,rfl,h⟩:=aJ h;exact Nk (d.E b X r _ k h)
 W:=λb X r e g k _ h=>fY (d.E b X r _ k (aD h).2)
 G:=λb X r e k h=>⟨a,rfl,d.E b X r _ k h⟩
theorem Pw (f:Sd Κ Φ c)(g:Sd Κ Φ a)(i:Sd Κ Φ b):Sd Κ Φ (.rX c a b):=Sd.x (λd X r e k h=>by obtain⟨v,j,l⟩:=aJ h;obtain⟨p,rfl⟩:=G0 j;obtain⟨m,n,o⟩:=aT l;exact M6 (f.T d X r _ k m).1 (g.E d X r _ k n) (i.E d X r _ k o)) rfl
theorem Px (c:Sd Κ Φ a):Sd Κ Φ (.tup a):=Sd.x (λd X r e k h=>by obtain⟨v,f,g⟩:=aJ h;obtain⟨_,_,rfl⟩:=wF f;obtain⟨i,b⟩:=aD g;exact M7 (c.A d X r _ k b) λj l e=>by rw[wK Κ Φ b j l e];exact Fw (qj i)) rfl
theorem Py (c:Sd Κ Φ a):Sd Κ Φ (.lst a):=Sd.x (λd X r e k h=>by obtain⟨v,f,g⟩:=aJ h;obtain⟨_,rfl⟩:=G1 f;obtain⟨i,b⟩:=aD g;exact M8 (c.A d X r _ k b) λj l e=>by rw[wK Κ Φ b j l e];exact Fw (qj i)) rfl
theorem Pz:Sd Κ Φ .hG:=Sd.x (λi X r e k h=>by obtain⟨⟨a,b⟩,c,d⟩:=aJ h;obtain⟨_,rfl⟩:=sT c;obtain⟨f,g⟩:=aD d;cases fM f;cases fM g;exact M9) rfl
theorem Cd (d:Sd Κ Φ a)(f:Sd Κ Φ b):Sd Κ Φ (.ix a b):=Sd.x (λc X r e k h=>by obtain⟨v,g,i⟩:=aJ h;obtain⟨_,rfl⟩:=wG g;obtain⟨j,l,m⟩:=aT i;exact d_ix k.hu j (d.E c X r _ k l) (f.E c X r _ k m)) rfl
theorem Ce {c:C}(d:Sd Κ Φ a)(f:Sd Κ Φ c)(g:Sd Κ Φ j):Sd Κ Φ (.sl a c j):=Sd.x (λb X r e k h=>by obtain⟨⟨x,i⟩,m,n⟩:=aJ h;obtain⟨_,rfl⟩:=wG m;obtain⟨⟨l,u,s⟩,hs,o⟩:=aJ n;obtain⟨_,rfl⟩:=O3 hs;obtain⟨p,q,t,v⟩:=bQ o;cases kq.mp p;exact d_sl (d.E b X r _ k q) (f.O b X r _ k t) (g.O b X r _ k v)) rfl
theorem PB (i:Sd Κ Φ args):Sd Κ Φ (.call j f args):=Sd.x (λl X r e k h=>by
 obtain⟨⟨x,es⟩,n,o⟩:=aJ h;obtain⟨_,_,rfl⟩:=jN n;obtain⟨a,p,q,b,s⟩:=fD o;obtain⟨y,es,rfl⟩:=sS s;obtain⟨h0,a⟩:=aD a;cases qm a;obtain⟨g1,g2⟩:=k.gl p;obtain⟨m,kk,ps,t,u,v⟩:=k.fns j _ _ (qm q);refine PE.imp (zpp v (k.room h0) u (i.A l X r _ k b) (sV b) g1 g2 (wK Κ Φ b)) λz H Q g=>?_
 have w:aE Κ Φ (.call j x args)=λc=>dG Κ Φ args c>>=λd=>m (d.map (·.2))>>=λr=>.ok (gJ r.2 (i' r.1),r.2):=by
  funext c
  show(dG Κ Φ args c>>=λd=>match Φ[j]? with|some m=>m (d.map (·.2))>>=λr=>.ok (gJ r.2 (i' r.1),r.2)|none=>.no)=_;rw[t]
 rw[w]at g;exact g) rfl
theorem Cf (l:Sd Κ Φ args):Sd Κ Φ (.bi f args):=Sd.x (λΓ X r e k h=>by
 obtain⟨⟨x,es⟩,m,n⟩:=aJ h;obtain⟨_,_,rfl⟩:=jN m;obtain⟨a,o,c,b,p⟩:=fD n;obtain⟨y,es,rfl⟩:=sS p;have a:=qm a;obtain⟨d,g2,g,i⟩:=k.blt o;obtain⟨c,q⟩:=aD c;have hf:=cw.mp c;have j:=l.A Γ X r _ k b;simp at hf;rcases hf with rfl|rfl|rfl
 .exact d_cB FT g2 (by rw[a];decide+kernel) j (sV b) d i g
 .exact zod OD g2 (by rw[a];decide+kernel) j (sV b) d i g
 .exact zod OG g2 (by rw[a];decide+kernel) j (sV b) d i g) rfl
theorem PD {f:String}(ia:Sd Κ Φ a):Sd Κ Φ (.hJ f a):=Sd.x (λΓ X r e k h=>by
 obtain⟨⟨x,es⟩,hv,h9⟩:=aJ h;obtain⟨_,_,rfl⟩:=jN hv;obtain⟨h1,h2,h3,h4⟩:=bQ h9;obtain⟨y,hy,k5⟩:=aJ h4;obtain⟨k4,k6⟩:=aD k5;cases eR hy;have k1:=qm h1;obtain⟨g1,g2,g3,g4⟩:=k.blt h2;obtain⟨a,rfl,ha⟩:=ia.G Γ X r _ k k6;have k7:=cX k4;obtain⟨h3,eN⟩:=aD h3;have hf:f∈sD:=cw.mp h3;simp only[sD,ao,bw,or_false]at hf;rcases hf with rfl|rfl|rfl|rfl
 .exact zi9 Oe g2 (by rw[k1];decide+kernel) k7 ha g1 g4 g3
 .exact zi9 Of g2 (by rw[k1];decide+kernel) k7 ha g1 g4 g3
 .exact zi2 (Oi (k.calm eN)) g2 (by rw[k1];decide+kernel) k7 ha g1 g4 g3
 .exact zi2 (Og (k.calm eN)) g2 (by rw[k1];decide+kernel) k7 ha g1 g4 g3) rfl
theorem PF (c:Sd Κ Φ a):Sd Κ Φ (.dP a ts):=Sd.x (λd X r e k h=>by obtain⟨⟨x,es⟩,f,g⟩:=aJ h;obtain⟨_,_,rfl⟩:=jN f;obtain⟨i,j,l⟩:=aT g;obtain⟨⟨y,t⟩,m,n⟩:=aJ l;obtain⟨o,p,q⟩:=aT n;obtain⟨T,s,u⟩:=aJ q;cases B8 m;cases eR s;cases qm i;obtain⟨g1,g2,g3,C⟩:=k.blt j;obtain⟨D,F,rfl,rfl,v,b⟩:=O7 u;obtain⟨w,z,A,B⟩:=k.blt v;exact zru g2 g1 z (O8 b) w B A b (cX o) (c.E d X r _ k p)) rfl
theorem Cg (d:Sd Κ Φ a)(f:Sd Κ Φ args):Sd Κ Φ (.mt m a args):=Sd.x (λΓ X r e k h=>by
 obtain⟨⟨x,n,es,b⟩,g,i⟩:=aJ h;obtain⟨B,C,rfl,j⟩:=gA g;obtain⟨h0,l,c,o⟩:=bQ i;obtain⟨p,q,s,t,u⟩:=fD h0;obtain⟨y,es,rfl⟩:=sS o;cases qm p;have v:=j.symm.trans t;have w:=d.E Γ X r _ k l;have z:=f.A Γ X r _ k c;have hm:=cw.mp q;simp at hm;rcases hm with rfl
 .exact d_mt PySem.F.plainAttrs_str PySem.F.slot_str_join PySem.F.type_str_join NI (λ_ _ _ _ _ _ r e=>NJ r e) w z s (sV c) (qj u) v) rfl
theorem PH (ic:Sd Κ Φ c)(k:Cok Γ Κ Φ X n)(h:vM (vN c) (λt=>eK Γ c t) ifs=Z7):oX X ifs (dS X.K (dR Κ Φ c)):=by
 cases ifs with
 |nil=>
  have:c=.nil:=by cases c<;>first|exact ff rfl h|rfl
  subst this;refine λpins s σ H Q I q=>Fl pins s σ H Q I ?_;obtain⟨ρ,F,b,so,e,q⟩:=q;cases e;exact q H (Same.refl H)
 |cons t r=>obtain⟨h1,h2⟩:=aD h;cases fM h1;exact Fo (ic.T Γ X n t k h2).1
theorem sC {c:C}(w:Sd Κ Φ it)(y:Sd Κ Φ c)(z:Sd Κ Φ f)(k:Cok l Κ Φ X r)(h:chkE l (.comp p A j q it c f) e=Z7):
  ∃el t i d a pos,e=.ListComp el [⟨t,i,d,0⟩] a pos/\BlkScope X a j p A/\(∀i∈tgIx q,i<p)/\PI X t i (tDW X.K (evW Κ Φ it))/\(∀C b s H,PG (blk X a j C b s H) t (tDG X.K q))/\(∀C b s H,oX (blk X a j C b s H) d (dS X.K (dR Κ Φ c)))/\(∀C b s H,PE (blk X a j C b s H) el (tD X.K (aE Κ Φ f)))/\(∀x,ef i X.env x=pure x)/\l.cm=true:=by
 obtain⟨⟨el,O,a⟩,B,g⟩:=aJ h;obtain⟨pos,rfl⟩:=wI B;obtain⟨⟨t,i,d,kk⟩,D,g⟩:=aJ g;cases eR D;obtain⟨h0,u,F,G,g⟩:=fD g;obtain⟨m,I,J,L,M⟩:=fD h0;obtain⟨n,m⟩:=aD m;cases qm m;have v:=Fj k.hN k.hs J;have o:=λC b s H=>k.blk v.kind (qj M) C b s H;exact⟨el,t,i,d,a,pos,rfl,v,λi N=>qj ((be.mp I) i N),w.W l X r _ t k (aD u).2 F,λC b s H=>uh (o C b s H) (aD u).1,λC b s H=>PH y (o C b s H) G,λC b s H=>z.E _ _ r _ (o C b s H) g,ui L _,n⟩
theorem PJ {cond:C}(ii:Sd Κ Φ it)(ic:Sd Κ Φ cond)(ie:Sd Κ Φ elt):Sd Κ Φ (.comp nt js N' tg it cond elt):=Sd.x (λΓ X r e k h=>by obtain⟨el,t,i,ifs,scope,pos,rfl,hB,h2,hi,hg,ht,he,hs,eN⟩:=sC ii ic ie k h;exact(zb2 (k.calm eN) hB h2 hi hg ht he hs).1) rfl
theorem Ci {i:Nat}:Sd Κ Φ (.lk i):=Sd.x (λΓ X r e k h=>by obtain⟨⟨f,as⟩,hv,h9⟩:=aJ h;obtain⟨_,_,rfl⟩:=jN hv;obtain⟨h1,h2,h3⟩:=aT h9;obtain⟨eN,h1⟩:=aD h1;obtain⟨y,hy,h4⟩:=aJ h3;cases eR hy;obtain⟨x,p,rfl,h5⟩:=iH h4;obtain⟨v1,v2,v3,v4⟩:=k.aO h5;cases qm h1;obtain⟨g1,g2,g3,g4⟩:=k.blt h2;exact d_lk (k.calm eN) g2 (by show cr ("list":Str)=_;decide+kernel) g1 g4 g3 v1 v2 v3 v4) rfl
theorem Cj (ia:Sd Κ Φ a)(ib:Sd Κ Φ b):Sd Κ Φ (.d1 a b):=Sd.x (λΓ X r e k h=>by obtain⟨⟨ks,vs⟩,hv,h9⟩:=aJ h;obtain⟨p,rfl⟩:=sT hv;obtain⟨o,ho,h8⟩:=aJ h9;obtain⟨y,hy,h7⟩:=aJ h8;cases eR ho;cases eR hy;obtain⟨h1,h2⟩:=aD h7;obtain⟨x,rfl,h3⟩:=aJ h1;exact BW (ia.E Γ X r _ k h3) (ib.E Γ X r _ k h2)) rfl
theorem PK (c:Sd Κ Φ a)(d:Sd Κ Φ b):Sd Κ Φ (.jF a b):=Sd.x (λΓ X r e k h=>by obtain⟨⟨x,n,es,v⟩,f,g⟩:=aJ h;obtain⟨w,z,rfl,i⟩:=gA f;obtain⟨h0,j,l⟩:=aT g;obtain⟨m,o,p⟩:=aT h0;obtain⟨y,q,s⟩:=aJ l;cases eR q;obtain⟨t,u⟩:=aD s;cases qm m;exact zss (c.E Γ X r _ k j) (d.E Γ X r _ k u) o (cX t) (i.symm.trans p)) rfl
theorem PM:Sd Κ Φ .nil where
 E:=λ_ _ _ _ _ h=>ff rfl h
 T:=λ_ _ _ _ _ h=>ff rfl h
 Q:=λ_ _ _ _ _ _ _ _ h=>ff rfl h
 A:=λa X r b k h=>by cases fM h;exact FO
 O:=λa X r e k h=>by cases kq.mp h;exact uc
 W:=λ_ _ _ _ _ _ _ h=>ff rfl h
 G:=λ_ _ _ _ _ h=>ff rfl h
theorem PN (d:Sd Κ Φ a)(f:Sd Κ Φ b):Sd Κ Φ (.cons a b) where
 E:=λ_ _ _ _ _ h=>ff rfl h
 T:=λ_ _ _ _ _ h=>ff rfl h
 Q:=λ_ _ _ _ _ _ _ _ h=>ff rfl h
 A:=λc X r es k h=>by
  cases es with
  |nil=>cases h
  |cons e es=>obtain⟨g,i,j⟩:=aT h;exact Bp (cX g) (d.E c X r _ k i) (f.A c X r _ k j)
 O:=λ_ _ _ _ _ h=>ff rfl h
 W:=λ_ _ _ _ _ _ _ h=>ff rfl h
 G:=λ_ _ _ _ _ h=>ff rfl h
theorem PQ (g:Sd Κ Φ a):Sd Κ Φ (.fT a) where
 E:=λ_ _ _ _ _ h=>ff rfl h
 T:=λ_ _ _ _ _ h=>ff rfl h
 Q:=λ_ _ _ _ _ _ _ _ h=>ff rfl h
 A:=λ_ _ _ _ _ h=>ff rfl h
 O:=λ_ _ _ _ _ h=>ff rfl h
 W:=λi X r e p k _ h=>by
  obtain⟨⟨x,es⟩,j,l⟩:=aJ h;obtain⟨_,_,rfl⟩:=jN j;obtain⟨m,n,b,c⟩:=bQ l;obtain⟨c,o⟩:=aD c;cases qm m;obtain⟨g1,g2,g3,q⟩:=k.blt n;have hs:=be.mp (sV b);have d:=wK Κ Φ b;have f:=g.A i X r _ k b;rcases es with _|⟨x,_|⟨y,_|⟨z,es⟩⟩⟩
  .cases c
  .exact Nt g2 g1 (cX (hs x (.head _))) f d
  .exact Nu g2 g1 (cX (hs x (.head _))) (cX (hs y (.tail _ (.head _)))) f d
  .exact absurd (qj o) (Nat.not_le.mpr (ly (ly (Nat.succ_pos _))))
 G:=λ_ _ _ _ _ h=>ff rfl h
theorem Ck (h:isTup e=Z7):∃a b c,e=.Tuple a b c:=by cases e<;>first|exact ff rfl h|exact⟨_,_,_,rfl⟩
theorem G6 (h:jL Γ (.enum a) e=Z7):∃y q p,e=.Call (.Name "enumerate" q) [y] [] p/\dH Γ "enumerate"=Z7/\isStar y=Z6/\chkE Γ a y=true:=by obtain⟨⟨x,es⟩,hv,h9⟩:=aJ h;obtain⟨q,p,rfl⟩:=jN hv;obtain⟨h1,h2,h3⟩:=aT h9;obtain⟨y,hy,h3⟩:=aJ h3;cases eR hy;cases qm h1;exact⟨y,q,p,rfl,h2,cX (aD h3).1,(aD h3).2⟩
theorem G7 (h:jL Γ (.zip a b) e=Z7):∃y z q p,e=.Call (.Name "zip" q) [y,z] [] p/\dH Γ "zip"=Z7/\isStar y=Z6/\isStar z=Z6/\chkE Γ a y=Z7/\chkE Γ b z=true:=by obtain⟨⟨x,es⟩,f,g⟩:=aJ h;obtain⟨q,p,rfl⟩:=jN f;obtain⟨i,j,c⟩:=aT g;obtain⟨⟨y,z⟩,k,c⟩:=aJ c;cases B8 k;cases qm i;obtain⟨d,l,m⟩:=aT c;exact⟨y,z,q,p,rfl,j,cX (aD d).1,cX (aD d).2,l,m⟩
theorem PU (b:Sd Κ Φ a):Sd Κ Φ (.enum a) where
 E:=λ_ _ _ _ _ h=>ff rfl h
 T:=λ_ _ _ _ _ h=>ff rfl h
 Q:=λ_ _ _ _ _ _ _ _ h=>ff rfl h
 A:=λ_ _ _ _ _ h=>ff rfl h
 O:=λ_ _ _ _ _ h=>ff rfl h
 W:=λc X r e j k d h=>by obtain⟨y,q,p,rfl,f,g,i⟩:=G6 h;obtain⟨_,_,_,rfl⟩:=Ck d;obtain⟨g1,g2,g3,l⟩:=k.blt f;exact OY g2 g1 g (b.E c X r _ k i)
 G:=λ_ _ _ _ _ h=>ff rfl h
theorem PV (d:Sd Κ Φ a)(f:Sd Κ Φ b):Sd Κ Φ (.zip a b) where
 E:=λ_ _ _ _ _ h=>ff rfl h
 T:=λ_ _ _ _ _ h=>ff rfl h
 Q:=λ_ _ _ _ _ _ _ _ h=>ff rfl h
 A:=λ_ _ _ _ _ h=>ff rfl h
 O:=λ_ _ _ _ _ h=>ff rfl h
 W:=λc X r e s k ht h=>by obtain⟨y,z,q,p,rfl,g,i,j,l,m⟩:=G7 h;obtain⟨n,o,t,u⟩:=k.blt g;exact OV ht o n i j (d.E c X r _ k l) (f.E c X r _ k m)
 G:=λ_ _ _ _ _ h=>ff rfl h
theorem all (c:C):Sd Κ Φ c:=by
 induction c with
 |var=>exact Pf
 |non=>exact Pg
 |bl=>exact Ca
 |int=>exact Ph
 |str=>exact Pj
 |glob=>exact Pk
 |bin _ _ _ ia ib=>exact Pl ia ib
 |neg _ ia=>exact Pm ia
 |cmp _ _ _ ia ib=>exact Pn ia ib
 |chain _ _ _ _ _ ia ib ic=>exact Po ia ib ic
 |rW _ _ ia=>exact Pp ia
 |and _ _ ia ib=>exact Pq ia ib
 |or _ _ ia ib=>exact Cb ia ib
 |not _ ia=>exact Pr ia
 |rX _ _ _ ic ia ib=>exact Pw ic ia ib
 |tup _ ia=>exact Px ia
 |lst _ ia=>exact Py ia
 |hG=>exact Pz
 |ix _ _ ia ib=>exact Cd ia ib
 |sl _ _ _ ia ib ic=>exact Ce ia ib ic
 |call _ _ _ ia=>exact PB ia
 |bi _ _ ia=>exact Cf ia
 |hJ _ _ ia=>exact PD ia
 |dP _ _ ia=>exact PF ia
 |mt _ _ _ ia ib=>exact Cg ia ib
 |comp _ _ _ _ _ _ _ ia ib ic=>exact PJ ia ib ic
 |jF _ _ ia ib=>exact PK ia ib
 |lk=>exact Ci
 |d1 _ _ ia ib=>exact Cj ia ib
 |fT _ ia=>exact PQ ia
 |enum _ ia=>exact PU ia
 |zip _ _ ia ib=>exact PV ia ib
 |tv _ ia=>exact Cc ia
 |nil=>exact PM
 |cons _ _ ia ib=>exact PN ia ib
end
section
variable (Κ:List D)(Φ:List Fn)
theorem uj:jc (.ListComp el a s p) (Z9 (.Name t px)) n env=pure (env.blockKind==.function&&env.kindOf t==Z9 .local&&px.line==p.line&& !(s.names.any λ(n,k)=>n==t&&(k==.local||k==.cell))):=rfl
theorem G8 (hn:lC c=Z6)(h:chkE i c (.ListComp el j s p)=Z7):∃d e f g it a b,c=.comp d e f g it a b:=by cases c<;>first|exact ff rfl h|exact⟨_,_,_,_,_,_,_,rfl⟩|(cases hn;done)
theorem G9 (h:chkE a c (.SetComp el b s p)=Z7):False:=by cases c<;>exact ff rfl h
theorem G' (h:chkE b c (.DictComp el a d s p)=Z7):False:=by cases c<;>exact ff rfl h
theorem Cm (k:Cok f Κ Φ X r)(J:jI f i x=Z7)(hn:lC c=Z6)(a:chkE f c v=Z7):PS X (.Assign [.Name x px] v pos) (tDS X.K λu=>aE Κ Φ c u>>=λx=>.ok (.nx (u.set i (Z9 (z1b x))))):=by
 obtain⟨h,w,j⟩:=k.loc J;have nd:X.N.Nodup:=k.hN▸k.nd;cases y:z1u v with
 |false=>exact zm9 nd h w j (rQ y _ _ _) ((all c).E f X r _ k a)
 |true=>
  cases v<;>first|(cases y;done)|skip
  .rename_i P R s p;cases g:(X.env.blockKind==.function&&X.env.kindOf x==Z9 .local&&px.line==p.line&& !(s.names.any λ(n,k)=>n==x&&(k==.local||k==.cell)))with
   |false=>exact zm9 nd h w j (by rw[uj,g]) ((all c).E f X r _ k a)
   |true=>
    obtain⟨S,T,U,V,it,b,l,rfl⟩:=G8 hn a;obtain⟨L,t,W,M,m,A,e,B,h0,C,F,G,I,hs,d⟩:=sC (all it) (all b) (all l) k a;cases e;have O:X.env.scope.names.lookup x=Z9 .local:=by simp at g;exact g.1.1.2
    exact PS.imp (z5u (k.calm d) nd h O j.2 B C F G I (by rw[uj,g]) hs) λD o H q=>Gj (λo H Q z=>(zb2 (pos:=p) (k.calm d) B h0 C F G I hs).2 o H Q z) D o H q
  .exact(G9 a).elim
  .exact(G' a).elim
theorem PX (k:Cok e Κ Φ X r)(w:vO e c t j=Z7):PI X t j (tDF X.K (evF Κ Φ c))/\sr j=true:=by
 obtain⟨ht,h⟩:=aD w;have u:=(all c).W e X r j t k ht h;cases c with
 |tv a=>
  have f:=PI.Gv (k:=λd=>kZ Κ Φ (.tv a) d) (BL ((all a).E e X r _ k (aD h).2)) (Gu u);refine⟨?_,(aD h).1⟩;cases a with
  |var i=>obtain⟨x,p,rfl,g⟩:=iH (aD h).2;obtain⟨A,B,C,D⟩:=k.aO g;exact PI.Gv (N8 A B C D) f
  |_=>exact f
 |enum a=>obtain⟨y,q,p,rfl,g,l,m⟩:=G6 h;obtain⟨_,_,_,rfl⟩:=Ck ht;obtain⟨n,o,F,G⟩:=k.blt g;exact⟨OZ o n l ((all a).E e X r _ k m),rfl⟩
 |zip a b=>
  obtain⟨y,z,q,p,rfl,g,l,m,H,I⟩:=G7 h;obtain⟨n,o,F,G⟩:=k.blt g
  have J:evF Κ Φ (.zip a b)=λd=>(aE Κ Φ a d>>=λx=>aE Κ Φ b d>>=λy=>Res.ok [x,y])>>=λs=>kY s d:=by
   funext d
   show((aE Κ Φ a d>>=λx=>(aE Κ Φ b d>>=λy=>Res.ok [y])>>=λL=>Res.ok (x::L))>>=λs=>kY s d)=_;cases aE Κ Φ a d with
   |ok x=>cases aE Κ Φ b d<;>rfl
   |no=>rfl
  rw[J];exact⟨B6 ht o n l m ((all a).E e X r _ k H) ((all b).E e X r _ k I),rfl⟩
 |fT a=>refine⟨Gu u,?_⟩;obtain⟨v,M,_⟩:=aJ h;obtain⟨_,_,rfl⟩:=jN M;rfl
 |_=>exact ff rfl h
theorem PY (h:isTup v=Z6):oj [.Tuple a b c] v env=pure none:=by cases v<;>first|rfl|(cases h;done)
theorem lG (h:sG s=Z9 v):∃p,s=.Assign v.1 v.2 p:=bY (q:=λv=>∃p,s=.Assign v.1 v.2 p) h (by cases s<;>first|exact .inl rfl|exact .inr ⟨_,rfl,_,rfl⟩)
theorem pR (h:vP s=Z9 v):∃p,s=.Expr v p:=bY (q:=λv=>∃p,s=.Expr v p) h (by cases s<;>first|exact .inl rfl|exact .inr ⟨_,rfl,_,rfl⟩)
theorem wL (h:Bb s=Z9 v):∃p,s=.Return v p:=bY (q:=λv=>∃p,s=.Return v p) h (by cases s<;>first|exact .inl rfl|exact .inr ⟨_,rfl,_,rfl⟩)
theorem wM (h:Bc s=Z9 v):∃p,s=.If v.1 v.2.1 v.2.2 p:=bY (q:=λv=>∃p,s=.If v.1 v.2.1 v.2.2 p) h (by cases s<;>first|exact .inl rfl|exact .inr ⟨_,rfl,_,rfl⟩)
theorem sW (h:yq s=Z9 v):∃p,s=.For v.1 v.2.1 v.2.2.1 v.2.2.2 p:=bY (q:=λv=>∃p,s=.For v.1 v.2.1 v.2.2.1 v.2.2.2 p) h (by cases s<;>first|exact .inl rfl|exact .inr ⟨_,rfl,_,rfl⟩)
theorem wN (h:Bd s=Z9 v):∃p,s=.While v.1 v.2.1 v.2.2 p:=bY (q:=λv=>∃p,s=.While v.1 v.2.1 v.2.2 p) h (by cases s<;>first|exact .inl rfl|exact .inr ⟨_,rfl,_,rfl⟩)
theorem Cn (h:FA s=Z9 v):(v=0/\∃p,s=.Pass p)\/(v=1/\∃p,s=.Break p)\/(v=2/\∃p,s=.Continue p):=bY (q:=λv=>(v=0/\∃p,s=.Pass p)\/(v=1/\∃p,s=.Break p)\/(v=2/\∃p,s=.Continue p)) h (by cases s<;>first|exact .inl rfl|exact .inr ⟨_,rfl,.inl ⟨rfl,_,rfl⟩⟩|exact .inr ⟨_,rfl,.inr (.inl ⟨rfl,_,rfl⟩)⟩|exact .inr ⟨_,rfl,.inr (.inr ⟨rfl,_,rfl⟩)⟩)
structure Ss (s:S):Prop where
 R:∀(Γ:Gm) (X:Cx) (r:Nat) (st:Stmt),Cok Γ Κ Φ X r->fy (model X.prog X.w) X.A X.env X.xe->pH Γ s st=Z7->PS X st (tDS X.K (aH Κ Φ s))
 L:∀(Γ:Gm) (X:Cx) (r:Nat) (st:List Stmt),Cok Γ Κ Φ X r->fy (model X.prog X.w) X.A X.env X.xe->chkL Γ s st=Z7->PSs X st (tDS X.K (aH Κ Φ s))
def Co:S->Bool
 |.nil=>Z6
 |.seq _ _=>Z6
 |_=>Z7
variable {Κ:List D}{Φ:List Fn}
theorem Ss.x (h:∀Γ X r st,Cok Γ Κ Φ X r->fy (model X.prog X.w) X.A X.env X.xe->pH Γ s st=Z7->PS X st (tDS X.K (aH Κ Φ s)))(a:Co s=Z7):Ss Κ Φ s:=⟨h,by cases s<;>first|(cases a;done)|exact λ_ _ _ _ _ _ h=>ff rfl h⟩
theorem PZ:Ss Κ Φ (.asg t e):=Ss.x (λd X r st k w h=>by
 obtain⟨⟨z,v⟩,f,g⟩:=aJ h;obtain⟨p,rfl⟩:=lG f;obtain⟨x,j,l⟩:=aJ g;cases eR j;obtain⟨a,m,n,c⟩:=bQ l;cases t with
 |nm i=>obtain⟨y,q,rfl,o⟩:=iH a;exact Cm Κ Φ k o (cX m) c
 |tp is=>obtain⟨s,u⟩:=aD n;obtain⟨es,b,_⟩:=aJ (aD a).2;obtain⟨_,_,rfl⟩:=wF b;exact zm3 (uh k a) ((all e).E d X r _ k c) ((show oh [_] _ _ _=jc _ _ _ _ from rfl).trans (rQ (cX s) _ _ _)) (PY (cX u)) rfl) rfl
theorem P0:Ss Κ Φ (.dN i a b):=Ss.x (λc X r st k B h=>by obtain⟨⟨C,v⟩,d,e⟩:=aJ h;obtain⟨p,rfl⟩:=lG d;obtain⟨x,hx,f⟩:=aJ e;cases eR hx;obtain⟨⟨y,D⟩,g,j⟩:=aJ f;obtain⟨_,rfl⟩:=wG g;obtain⟨l,F,m,n,o⟩:=fD j;obtain⟨z,q,rfl,s⟩:=iH l;obtain⟨t,u,w,A⟩:=k.aO s;exact zsm k.hu t u w A (cX m) ((all a).E c X r _ k n) ((all b).E c X r _ k o)) rfl
theorem zqz:Ss Κ Φ (.mut m i args):=Ss.x (λd X r st k F h=>by obtain⟨c,e,f⟩:=aJ h;obtain⟨p,rfl⟩:=pR e;obtain⟨⟨x,n,es,b⟩,hm,g⟩:=aJ f;obtain⟨G,H,rfl,j⟩:=gA hm;obtain⟨h0,l,a⟩:=aT g;obtain⟨o,s,t,u,v⟩:=fD h0;obtain⟨z,q,rfl,w⟩:=iH o;obtain⟨y,es,rfl⟩:=sS l;cases qm s;have hm:=cw.mp t;simp at hm;obtain⟨B,C,D,E⟩:=k.aO w;subst hm;exact zfa B C D E ((all args).A d X r _ k a) (sV a) (qj v) (j.symm.trans u)) rfl
theorem P4:Ss Κ Φ (.ret e):=Ss.x (λb X r st k s h=>by
 obtain⟨o,c,d⟩:=aJ h;obtain⟨p,rfl⟩:=wL c;obtain⟨v,rfl,a⟩:=aJ d;have g:=(all e).E b X r _ k a;cases e with
 |var i=>obtain⟨x,q,rfl,f⟩:=iH a;obtain⟨j,l,m,n⟩:=k.aO f;exact z8x j l m n
 |_=>exact N5 g) rfl
theorem Cp (f:Ss Κ Φ a)(g:Ss Κ Φ b):Ss Κ Φ (.aX c a b):=Ss.x (λd X r st k e h=>by obtain⟨v,i,j⟩:=aJ h;obtain⟨p,rfl⟩:=wM i;obtain⟨l,m,n⟩:=aT j;exact BA ((all c).T d X r _ k l).1 (f.L d X r _ k e m) (g.L d X r _ k e n)) rfl
theorem P5 (d:Ss Κ Φ b):Ss Κ Φ (.bH t it b):=Ss.x (λe X r st k c h=>by obtain⟨a,h⟩:=aD h;obtain⟨⟨t,i,B,o⟩,f,g⟩:=aJ h;obtain⟨p,rfl⟩:=sW f;obtain⟨j,l,m,n⟩:=bQ g;cases fM n;obtain⟨hf,hn⟩:=PX Κ Φ k l;exact zud c (k.calm a) hf (uh k j) (d.L e X r _ k c m) (ui hn _)) rfl
theorem Cq (e:Ss Κ Φ b):Ss Κ Φ (.wh n c b):=Ss.x (λa X r st k d h=>by obtain⟨⟨t,B,o⟩,f,g⟩:=aJ h;obtain⟨p,rfl⟩:=wN f;obtain⟨i,j,l⟩:=aT g;cases fM l;exact Od d ((all c).T a X r _ k i).1 (e.L a X r _ k d j)) rfl
theorem wO (h:sE (iP f) e=Z7):∃x p a c,e=.Call (.Attribute (.Name x p) "pop" a) [] [] c/\f x=Z7/\(a.endLine==c.line)=true:=by obtain⟨⟨o,n,es,b⟩,hm,g⟩:=aJ h;obtain⟨a,c,rfl,i⟩:=gA hm;obtain⟨d,j,k,l⟩:=bQ g;obtain⟨x,p,rfl,d⟩:=iH d;cases qm j;cases fM k;exact⟨x,p,a,c,rfl,d,i.symm.trans l⟩
theorem P6:Ss Κ Φ (.pop j i):=Ss.x (λΓ X r st k w h=>by obtain⟨⟨A,v⟩,a,b⟩:=aJ h;obtain⟨p,rfl⟩:=lG a;obtain⟨x,c,d⟩:=aJ b;cases eR c;obtain⟨e,f⟩:=aD d;obtain⟨y,q,rfl,g⟩:=iH e;obtain⟨l1,l2,l⟩:=k.loc g;obtain⟨z,B,C,D,rfl,m,n⟩:=wO f;obtain⟨o,s,t,u⟩:=k.aO m;exact s_pop (k.hN▸k.nd) l1 l2 l o s t u n) rfl
theorem P7:Ss Κ Φ (.pap i a c):=Ss.x (λΓ X r st k U h=>by
 obtain⟨e,o,s⟩:=aJ h;obtain⟨p,rfl⟩:=pR o;obtain⟨⟨x,n,es,b⟩,hm,u⟩:=aJ s;obtain⟨V,W,rfl,v⟩:=gA hm;obtain⟨h0,w⟩:=aD u;obtain⟨B,C,D⟩:=aT h0;obtain⟨z,q,rfl,k1⟩:=iH B;cases qm C;obtain⟨t,F,G⟩:=aJ w;cases eR F;obtain⟨l,H,d⟩:=aJ G;obtain⟨_,_,rfl⟩:=wF H;rcases l with _|⟨Y,_|⟨Z,l⟩⟩
 .cases d
 .cases d
 .obtain⟨I,g2,J⟩:=aT d;obtain⟨K,L⟩:=aD I;obtain⟨M,j⟩:=aD J;obtain⟨y,pz,N,O,rfl,f,g⟩:=wO g2;obtain⟨m,P,Q,R⟩:=k.aO k1;obtain⟨S,w2,w3,w4⟩:=k.aO f;have:y=z:=qg (S.symm.trans m);subst this;exact zs1 m P Q R (cX K) ((all a).E Γ X r _ k L) ((all c).A Γ X r _ k j) (λρ T e=>by rw[wK Κ Φ j ρ T e];exact qj M) (v.symm.trans D) g) rfl
theorem Cok.eP (k:Cok a Κ Φ X r)(E:Value->au->Prop):Cok a Κ Φ (X.eP E) r:=⟨k.hN,k.hs,k.nd,k.fn,k.kind,k.free,k.fns,k.cst,k.room,k.calm,k.hu,k.wJ,k.B9,k.xc⟩
theorem Ha (s:S):Ss Κ Φ s:=by
 induction s with
 |nil=>exact⟨λ_ _ _ _ _ _ h=>ff rfl h,λΓ X r st k hp h=>by cases fM h;exact NU⟩
 |seq a b ia ib=>
  refine⟨λ_ _ _ _ _ _ h=>ff rfl h,λΓ X r st k hp h=>?_⟩;cases st with
  |nil=>cases h
  |cons s st=>exact NV (ia.R Γ X r _ k hp (aD h).1) (ib.L Γ X r _ k hp (aD h).2)
 |bad=>refine Ss.x (λΓ X r st k hp h=>?_) rfl;intro pins s σ H D I q;obtain⟨ρ,F,out,so,e,_⟩:=q;cases e
 |cnt=>
  refine Ss.x (λΓ X r st k hp h=>?_) rfl;rcases Cn (qj h)with⟨z,_⟩|⟨z,_⟩|⟨_,p,rfl⟩
  .cases z
  .cases z
  .exact NY
 |asg=>exact PZ
 |pop=>exact P6
 |pap=>exact P7
 |dN=>exact P0
 | «mut»=>exact zqz
 |ret=>exact P4
 |aX _ _ _ ia ib=>exact Cp ia ib
 |bH _ _ _ ib=>exact P5 ib
 |wh _ _ _ ib=>exact Cq ib
theorem sL (Κ:List D)(Φ:List Fn)(s:S):∀a X r st,Cok a Κ Φ X r->fy (model X.prog X.w) X.A X.env X.xe->chkL a s st=Z7->PSs X st (tDS X.K (aH Κ Φ s)):=(Ha s).L
end
section
variable (Κ:List D)(Φ:List Fn)
variable {Κ Φ}
end
section
variable {P:bp}{w:World}{K:Z5}{mg:Str->Option Value}{base:Heap}
structure Dok (Γ:Gm)(Κ:List D)(Φ:List Fn)(P:bp)(w:World)(K:Z5)(mg:Str->Option Value)(base:Heap)(k:Nat):Prop where
 free:∀x,Γ.free.contains x=Z7->mg x=Z8
 fns:∀(j:Nat) f n,Γ.fns[j]?=Z9 (f,n)->∃m k' ps,Φ[j]?=Z9 m/\k'<=k/\Cal P w K mg base k' f ps (spD K n m)
 cst:∀(j:Nat) x,Γ.cst[j]?=Z9 x->∃d a,Κ[j]?=Z9 d/\mg x=Z9 (.ref a)/\∀H B,B Z8->Rep K H B (.ref a) d
theorem P8 (r:Reps K H A f b):StOk K ⟨H,λa=>H a=Z8\/A (Z9 a),λ_=>Z8,A Z8⟩ H (f.map Z9++bx (n-f.length) Z8) (b.map (λd=>Z9 (.od,d))++bx (n-b.length) Z8) where
 ext:=Same.refl H
 aO:=λa e=>.inl e
 own:=λa i e=>by cases e
 len:=by have:=r.length;simp;omega
 sl:=λi g d e=>by
  rw[jz]at e;split at e
  .rename_i j;rw[bu]at e;cases c:b[i]? with
   |none=>rw[c]at e;cases e
   |some m=>
    rw[c]at e;cases e;obtain⟨v,k,l⟩:=Reps.get r c;refine⟨v,?_,?_⟩
    .rw[jz,qe (by rw[ai,r.length];rw[ai]at j;exact j),bu,k];rfl
    .refine(Rep.there _ l).weak λa h=>?_;cases a with
     |none=>exact h.1
     |some a=>exact⟨λz=>h.2 z,.inr h.1⟩
  .rw[cx]at e;split at e<;>cases e
theorem d_fn {st:Stmt}(Fu:Fun K x x st f fd)(Sc:FnScope Γ.N ps (z0a st))(hs:Γ.sc=z0a st)(hb:Γ.blk=Z6)(hxc:Γ.xc=Z8)(dk:Dok Γ Κ Φ P w K mg base k)(hc:chkL Γ s (z0n st)=Z7):
  FnOk P w K mg base mR (k+1) f fd ps (spD K ps.length (aZ Κ Φ Γ.N.length s)):=by
 refine Fu.ok Sc (λvs H Q E h=>h.choose_spec.choose_spec.choose_spec.1) λcdv A outer s1 H vs Q E hr rN=>?_;obtain⟨B,ds,r,hl,rs,e,q⟩:=rN;refine⟨_,sL Κ Φ s Γ (jE mR P w K mg base Γ.N x (z0a st) f cdv A outer s1 H E).uU k _ ⟨rfl,hs.symm,Sc.nd,λ_ _=>rfl,by rw[hs];exact Sc.kind,dk.free,dk.fns,dk.cst,λ_=>hr,λ_=>rfl,hr.units,λ_=>⟨rfl,rfl⟩,λ_ _ _ z=>(by cases z),hxc⟩ PassesOwn.never hc,?_⟩;unfold aZ at e;have so:=P8 (n:=Γ.N.length) rs;generalize ho:aH Κ Φ s (ds.map (λd=>Z9 (.od,d))++bx (Γ.N.length-ds.length) Z8)=out at e
 match out,ho,e with
 |.ok (.nx aN),ho,e=>cases e;refine⟨_,_,_,so,ho,λbA H' F' j' ru fr=>q .non H' (λa o e=>(fr a o e rfl).1) rfl⟩
 |.ok (.rt g d),ho,e=>
  cases e;refine⟨_,_,_,so,ho,λv H' hk rv=>q v H' hk (rv.weak λa h=>?_)⟩;cases g with
  |fr=>cases a<;>exact h
  |nu=>cases a<;>exact h
  |od=>cases a with
   |none=>exact .inr h
   |some a=>exact h.elim .inl λz=>.inr z
  |al=>cases a with
   |none=>exact .inr h
   |some a=>exact h.elim .inl λz=>.inr z
 |.no,ho,e=>cases e
theorem P9 {ns:List Int}(h:SqL K H a (ns.map V.int)):Reps K H (λ_=>True) [.ref a] [.list (ns.map .int)]:=by
 refine⟨_,_,rfl,⟨a,ns.map V.int,rfl,?_,?_⟩,rfl⟩
 .rcases h with(h|h)|h
  .exact .inl ⟨h,trivial⟩
  .exact .inr ⟨.inl h,trivial⟩
  .exact .inr ⟨.inr h,trivial⟩
 .clear h
  induction ns with
  |nil=>rfl
  |cons n ns b=>exact⟨_,_,rfl,rfl,b⟩
end
structure Gd where
 kf:Nat
 args:C
 c:Str
 i:Nat
 j:Nat
 g:Str
 r:Bool
inductive Kd where
 |n
 |e (c:Str) (r:Bool)
 |g (d:Gd) (je:Nat)
structure aI where
 nm:Str
 st:Stmt
 N:List Str
 ps:List Str
 free:List Str
 fns:List Nat
 s:S
 F:Fn
 kd:Kd
 kc:List (Str×List Str):=[]
def cD (y:Str×List Str):D:=.tuple (y.2.map .str)
def sig (Rs:List aI)(j:Nat):Str×Nat:=match Rs[j]? with
 |some c=>(c.nm,c.ps.length)
 |none=>("",0)
def fnAt (Rs:List aI)(j:Nat):Fn:=match Rs[j]? with
 |some c=>c.F
 |none=>λ_=>.no
def aI.G (Rs:List aI)(r:aI):Gm:={N:=r.N,sc:=z0a r.st,free:=r.free,fns:=r.fns.map (sig Rs),cst:=r.kc.map (·.1)}
def Kd.Hb:Kd->Bool
 |.e _ _=>Z7
 |_=>Z6
def nE (Rs:List aI)(j:Nat):Bool:=match Rs[j]? with
 |some c=>!c.kd.Hb
 |none=>Z7
def aI.part (Rs:List aI)(i:Nat)(r:aI):Bool:=match r.kd with
 |.n=>chkL (r.G Rs) r.s (z0n r.st)
 |.e _ _=>Z6
 |.g _ _=>Z6
def aI.ok (Rs:List aI)(fr:List Str)(i:Nat)(r:aI):Bool:=
 (decide ((z0a r.st).kind=.function)&& !(z0a r.st).isCoroutine&& !(z0a r.st).isGenerator&&decide r.N.Nodup&&decide (r.N.take r.ps.length=r.ps))&&
 (r.ps.all (λx=>(z0a r.st).names.lookup x==Z9 .local||(z0a r.st).names.lookup x==Z9 .cell)&&(z0a r.st).names.all (λy=>!(y.2==.free))&&r.free.all (λx=>fr.contains x)&&r.fns.all (λj=>decide (j<i)&&nE Rs j)&&r.part Rs i)
def oks (Rs:List aI)(fr:List Str):Nat->List aI->Bool
 |_,[]=>Z7
 |i,r::l=>r.ok Rs fr i&&oks Rs fr (i+1) l
def aI.Cr (Rs:List aI)(r:aI):Prop:=match r.kd with
 |.n=>r.F=aZ (r.kc.map cD) (r.fns.map (fnAt Rs)) r.N.length r.s
 |.e _ _=>True
 |.g _ _=>True
def pS (Rs:List aI):List aI->Prop
 | []=>True
 |r::l=>r.Cr Rs/\pS Rs l
theorem yN:∀{l:List aI} {k i:Nat} {r:aI},oks Rs fr k l=Z7->l[i]?=Z9 r->r.ok Rs fr (k+i)=Z7
 | [],_,i,_,_,e=>by simp at e
 |r::l,k,0,_,h,e=>by cases e;exact(aD h).1
 |r::l,k,i+1,_,h,e=>by
  have:=yN (aD h).2 e
  rwa [show k+(i+1)=k+1+i by omega]
theorem Hc:∀{l:List aI} {i:Nat} {r:aI},pS a l->l[i]?=Z9 r->r.Cr a
 | [],i,_,_,e=>by simp at e
 |r::l,0,_,h,e=>by cases e;exact h.1
 |r::l,i+1,_,h,e=>Hc h.2 e
section
variable {P:bp}{w:World}{K:Z5}{mg:Str->Option Value}{base:Heap}{Rs:List aI}{fr:List Str}
theorem yO {r:aI}(h:r.ok Rs fr i=Z7):FnScope (r.G Rs).N r.ps (z0a r.st)/\(∀x,r.free.contains x=Z7->fr.contains x=Z7)/\(∀j∈r.fns,j<i/\nE Rs j=Z7)/\r.part Rs i=true:=by
 obtain⟨h1,h2⟩:=aD h;obtain⟨a1,a2,a3,a4,a5⟩:=fD h1;obtain⟨b1,b2,b3,b4,b5⟩:=fD h2;refine⟨⟨qj a1,cX a2,cX a3,qj a4,qj a5,λx hx=>?_,λy hy z=>?_⟩,λx hx=>?_,λj hj=>⟨qj (aD (be.mp b4 j hj)).1,(aD (be.mp b4 j hj)).2⟩,b5⟩
 .rcases ew.mp (be.mp b1 x hx)with q|q
  .exact .inl (qm q)
  .exact .inr (qm q)
 .have :=cX (be.mp b2 y hy);rw[z]at this;cases this
 .exact be.mp b3 x (cw.mp hx)
def uk (P:bp)(w:World)(K:Z5)(mg:Str->Option Value)(base:Heap)(i:Nat)(r:aI):Prop:=match r.kd with
 |.e _ _=>True
 |_=>Cal P w K mg base (i+1) r.nm r.ps (spD K r.ps.length r.F)
theorem sY (h:uk P w K mg base j c)(e:Rs[j]?=Z9 c)(n:nE Rs j=Z7):Cal P w K mg base (j+1) c.nm c.ps (spD K c.ps.length c.F):=by
 unfold nE at n;rw[e]at n;have n:(!c.kd.Hb)=true:=n;unfold uk at h;cases hk:c.kd with
 |n=>rw[hk]at h;exact h
 |g d a=>rw[hk]at h;exact h
 |e x b=>rw[hk]at n;cases n
def zaj (K:Z5)(mg:Str->Option Value)(y:Str×List Str):Prop:=∃a,mg y.1=Z9 (.ref a)/\∀H B,B Z8->Rep K H B (.ref a) (cD y)
theorem Hd (hr:Rs[i]?=Z9 r)(h:r.ok Rs fr i=Z7)(T:∀x∈fr,mg x=Z8)(o:∀y∈r.kc,zaj K mg y)(p:∀j c,j<i->Rs[j]?=Z9 c->uk P w K mg base j c):Dok (r.G Rs) (r.kc.map cD) (r.fns.map (fnAt Rs)) P w K mg base i where
 free:=λx hx=>T x (cw.mp ((yO h).2.1 x hx))
 fns:=λj f n e=>by
  have e:(r.fns.map (sig Rs))[j]?=Z9 (f,n):=e;rw[bu]at e;obtain⟨b,l,e⟩:=dg.mp e;obtain⟨d,k⟩:=(yO h).2.2.1 b (d4 l);have hl:=(cj.mp hr).1;have g:=a9 (mf d hl);unfold sig at e;rw[g]at e;cases e;refine⟨fnAt Rs b,b+1,Rs[b].ps,by rw[bu,l];rfl,d,?_⟩;have:fnAt Rs b=Rs[b].F:=by unfold fnAt;rw[g]
  rw[this];exact sY (p b _ d g) g k
 cst:=λj x e=>by have e:(r.kc.map (·.1))[j]?=Z9 x:=e;rw[bu]at e;obtain⟨y,m,rfl⟩:=dg.mp e;obtain⟨a,q,s⟩:=o y (d4 m);exact⟨cD y,a,by rw[bu,m];rfl,q,s⟩
theorem P' (hok:oks Rs fr 0 Rs=Z7)(l:pS Rs Rs)(T:∀x∈fr,mg x=Z8)(n:Nat)(o:∀r∈Rs,∀y∈r.kc,zaj K mg y)(O:∀i r,i<n->Rs[i]?=Z9 r->Own K mg r.nm r.st r.ps):∀i r,i<n->Rs[i]?=Z9 r->uk P w K mg base i r:=by
 intro i
 induction i using my with
 |ind i p=>
  intro r h hr
  have ho:r.ok Rs fr i=true:=by
   have:=yN hok hr
   rwa [Nat.zero_add]at this
  obtain⟨q,s,_,a⟩:=yO ho;have hf:=Hc l hr;obtain⟨f,fd,t,m,kp,b⟩:=O i r h hr;unfold aI.Cr at hf;unfold aI.part at a;unfold uk;cases hk:r.kd with
  |n=>rw[hk]at hf a;rw[hf];exact⟨f,fd,d_fn t q rfl rfl rfl (Hd hr ho T (o r (d4 hr)) (λj c k u=>p j k c (mf k h) u)) a,m,kp,b⟩
  |e c v=>rw[hk]at a;cases a
  |g d z=>rw[hk]at a;cases a
end
def Kf (K:Z5)(r:aI)(f:Addr)(fd:dv):Prop:=W.nsIn K bq r.nm=Z9 (Z9 (.ref f))/\∃(oc:Value) (od an:Option Addr) (sl:Array (Option Value)) (kV dc pm cd ct:Value),fd=W.fnOf r.nm r.nm (z1d r.st) (z0n r.st) (z0a r.st) .none kV dc pm an cd ct/\K.lookup f=Z9 ⟨oc,od,.func fd,sl⟩/\W.codeIn K cd r.nm=Z7/\Z3 K (.ref f)=Z7
def Cs (r:aI):Prop:=∀(kV doc pm:Value) (an:Option Addr) (cdv ct:Value) (us:List Value),us.length=r.ps.length->qb (W.fnOf r.nm r.nm (z1d r.st) (z0n r.st) (z0a r.st) .none kV doc pm an cdv ct) ⟨us,[]⟩=pure (r.ps.zip us)
theorem pT (h:b.length=n+1):∃a l,b=a::l/\l.length=n:=by
 cases b with
 |nil=>cases h
 |cons a l=>exact⟨a,l,rfl,Nat.succ.inj h⟩
theorem um {P:List Value->Prop}(h:∀a,P [a])(b:List Value)(z:b.length=1):P b:=by obtain⟨a,l,rfl,y⟩:=pT z;cases dt y;exact h a
theorem Ct {P:List Value->Prop}(h:∀a b,P [a,b])(c:List Value)(z:c.length=2):P c:=by obtain⟨a,l,rfl,y⟩:=pT z;exact um (P:=λl=>P (a::l)) (h a) l y
theorem He {P:List Value->Prop}(h:∀a b c,P [a,b,c])(d:List Value)(z:d.length=3):P d:=by obtain⟨a,l,rfl,y⟩:=pT z;exact Ct (P:=λl=>P (a::l)) (h a) l y
theorem by4 {P:List Value->Prop}(h:∀a b c d,P [a,b,c,d])(e:List Value)(z:e.length=4):P e:=by obtain⟨a,l,rfl,y⟩:=pT z;exact He (P:=λl=>P (a::l)) (h a) l y
def kOks (K:Z5):List aI->Prop
 | []=>True
 |r::l=>((∃f fd,Kf K r f fd)/\Cs r)/\kOks K l
theorem Hf {K:Z5}:∀{l:List aI} {i:Nat} {r:aI},kOks K l->l[i]?=Z9 r->(∃f fd,Kf K r f fd)/\Cs r
 | [],i,_,_,e=>by simp at e
 |r::l,0,_,h,e=>by cases e;exact h.1
 |r::l,i+1,_,h,e=>Hf h.2 e
def strOf:Value->Option Str
 |.str x _=>if Z1 x then Z9 x else Z8
 |_=>Z8
def ck1 (K:Z5)(y:Str×List Str):Bool:=match W.nsIn K bq y.1 with
 |some (Z9 (.ref a))=>(match K.lookup a with
  |some ⟨.type "tuple",Z8,.seq cC _,_⟩=>decide (cC.toList.map strOf=y.2.map Z9)&&decide (y.2.length<=1000)
  |_=>Z6)
 |_=>Z6
theorem Hg:∀{us:List Value} {ws:List Str},us.map strOf=ws.map Z9->Vals (ws.map V.str) us/\∀w∈ws,Z1 w=Z7
 | [],[],_=>⟨.nil,λ_ h=>by cases h⟩
 | [],_::_,h=>by cases h
 |_::_,[],h=>by cases h
 |u::us,w::ws,h=>by
  obtain⟨c,d⟩:=List.cons.inj h;obtain⟨a,b⟩:=Hg d;cases u with
  |str x t=>
   have c:(if Z1 x then Z9 x else Z8)=Z9 w:=c;split at c
   .rename_i f;cases c;exact⟨.cons ⟨t,rfl⟩ a,λz g=>(ao.mp g).elim (λe=>by rw[e];exact f) (b z)⟩
   .cases c
  |_=>cases c
theorem Hh {K:Z5}:∀{ws:List Str},(∀w∈ws,Z1 w=Z7)->Reps K H B (ws.map V.str) (ws.map Z0)
 | [],_=>rfl
 |w::ws,h=>Reps.cons ⟨rfl,h w (.head _)⟩ (Hh λz a=>h z (.tail _ a))
theorem Qa {K:Z5}(X:K.In h)(G:h.Ns bq mg)(c:ck1 K y=Z7):zaj K mg y:=by
 unfold ck1 at c;split at c
 .rename_i a d;split at c
  .rename_i b n sl f;obtain⟨g,i⟩:=aD c;obtain⟨v,ok⟩:=Hg (qj g);have j:b.size<=ay:=by have e:=v.length;rw[ai,db]at e;have:=qj i;rw[bz];omega
   exact⟨a,W.mg_of X G d,λH B _=>⟨a,y.2.map V.str,rfl,.inr ⟨_,b,n,f,rfl,rfl,rfl,j,v⟩,Hh ok⟩⟩
  .cases c
 .cases c
def qT (K:Z5)(r:aI):Option (dv×Bool):=match W.nsIn K bq r.nm with
 |some (Z9 (.ref f))=>(match K.lookup f with
  |some ⟨_,_,.func fd,_⟩=>Z9 (fd,W.codeIn K fd.code r.nm&&Z3 K (.ref f))
  |_=>Z8)
 |_=>Z8
def Hi (r:aI)(x:dv×Bool):dv×Bool:=(W.fnOf r.nm r.nm (z1d r.st) (z0n r.st) (z0a r.st) .none x.1.kwdefaults x.1.doc x.1.pyModule x.1.annotations x.1.code x.1.closureTuple,Z7)
def KEq (K:d8->Z5)(Rs:List aI)(fr:List Str):Prop:=∀P,(Rs.map λr=>(qT (K P) r).isSome,Rs.map λr=>qT (K P) r,fr.map λn=>W.nsIn (K P) bq n,Rs.map λr=>r.kc.map λy=>ck1 (K P) y)=(Rs.map λ_=>Z7,Rs.map λr=>(qT (K P) r).map (Hi r),fr.map λ_=>Z9 Z8,Rs.map λr=>r.kc.map λ_=>Z7)
theorem KEq_r:KEq=KEq:=rfl
theorem Qb {K:Z5}(h:(qT K r).isSome=Z7)(e:qT K r=(qT K r).map (Hi r)):∃f fd,Kf K r f fd:=by
 cases z:qT K r with
 |none=>rw[z]at h;cases h
 |some x=>
  rw[z]at e;have e:=qg e;unfold qT at z;split at z
  .rename_i f hf;split at z
   .rename_i oc od fd sl c;have z:=qg z;have d:=congrArg pp z;have a:=congrArg qd z;rw[congrArg qd e]at a;have b:=aw.mp a;subst d;exact⟨f,x.1,hf,oc,od,x.1.annotations,sl,x.1.kwdefaults,x.1.doc,x.1.pyModule,x.1.code,x.1.closureTuple,congrArg pp e,c,b.1,b.2⟩
   .cases z
  .cases z
theorem yP {K:d8->Z5}(h:KEq K d fr)(P:d8):(∀r∈d,∃f fd,Kf (K P) r f fd)/\(∀n∈fr,W.nsIn (K P) bq n=Z9 Z8)/\∀r∈d,∀y∈r.kc,ck1 (K P) y=true:=by have a:=qh (h P);have b:=qh a.2;have c:=qh b.2;exact⟨λr hr=>Qb (du.mp a.1 r hr) (du.mp b.1 r hr),λn hn=>du.mp c.1 n hn,λr hr=>du.mp (du.mp c.2 r hr)⟩
def sZ:List aI->Prop
 | []=>True
 |r::l=>Cs r/\sZ l
theorem Hj {K:Z5}:∀{l:List aI},(∀r∈l,∃f fd,Kf K r f fd)->sZ l->kOks K l
 | [],_,_=>trivial
 |r::_,h,b=>⟨⟨h r (.head _),b.1⟩,Hj (λr a=>h r (.tail _ a)) b.2⟩
end Mi
name_quick tkeq for Mi.KEq by Mi.KEq_r
namespace Mk
open Mi
section
open PySem
end
section
open PySem
section
variable {Κ:List D}{Φ:List Fn}{ρ:Rho}{a b c t:C}{p q:S}{i:Nat}{f:D->Rho->Res Out}{x:D}{xs:List D}
theorem yQ:aH Κ Φ (.seq p q) ρ=pC (aH Κ Φ p ρ) (aH Κ Φ q):=rfl
theorem Cu:aH Κ Φ (.asg (.nm i) t) ρ=(aE Κ Φ t ρ>>=λx=>.ok (.nx (ρ.set i (Z9 (z1b x))))):=rfl
theorem Cv:aH Κ Φ (.aX c p q) ρ=(dR Κ Φ c ρ>>=λk=>if k then aH Κ Φ p ρ else aH Κ Φ q ρ):=rfl
theorem Hk:aH Κ Φ (.ret (.var i)) ρ=(match ρ[i]? with|some (Z9 (g,d))=>.ok (.rt (if imm d then .fr else i' g) d)|_=>.no):=rfl
theorem Hl:aH Κ Φ (.dN i a b) ρ=(aE Κ Φ b ρ>>=λy=>aE Κ Φ a ρ>>=λx=>match ρ[i]? with
 |some (Z9 (.fr,.dict es))=>if jY x.2&&okIn y&&decide (es.length<LIM)then .ok (.nx ((ρ.set i (Z9 (.fr,.dict (dput es x.2 y.2)))).map z08))else .no
 |some (Z9 (.fr,.list xs))=>(match x.2 with
  |.int j=>if okIn y then(match gZ xs.length j with|some n=>.ok (.nx ((ρ.set i (Z9 (.fr,.list (xs.set n y.2)))).map z08))|none=>.no)else .no
  |_=>.no)
 |_=>.no):=rfl
theorem Qc:aH Κ Φ (.mut m i a) ρ=(dG Κ Φ a ρ>>=λc=>match ρ[i]? with
 |some (Z9 (.fr,.list xs))=>mW m xs c>>=λb=>.ok (.nx ((ρ.set i (Z9 (.fr,.list b))).map z08))
 |_=>.no):=rfl
theorem Qd:aH Κ Φ (.bH d a p) e=(evF Κ Φ a e>>=λw=>cG (λx b=>eZ d (gJ x w.1,x) b>>=λc=>aH Κ Φ p c) w.2.1 w.2.2):=rfl
theorem Qe:cG f (x::xs) ρ=(match f x ρ with
 |.ok (.nx aN)=>cG f xs aN
 |.ok (.ct aN)=>cG f xs aN
 |.ok (.bk aN)=>.ok (.nx aN)
 |.ok (.rt g d)=>.ok (.rt g d)
 |.no=>.no):=rfl
theorem Hm:dG Κ Φ .nil ρ=.ok []:=rfl
theorem uo:dG Κ Φ (.cons a b) ρ=(aE Κ Φ a ρ>>=λx=>dG Κ Φ b ρ>>=λxs=>.ok (x::xs)):=rfl
theorem Cw:si Κ Φ (.tv a) ρ=(aE Κ Φ a ρ>>=λx=>sf x.2):=rfl
theorem wQ:AX Κ Φ (.tv a) ρ=(aE Κ Φ a ρ>>=λx=>z5q x.2>>=λp=>.ok (x.1,p)):=rfl
theorem Cy:dR Κ Φ (.tv a) ρ=(aE Κ Φ a ρ>>=λx=>fU x.2):=rfl
theorem Qf:dR Κ Φ (.and a b) d=(dR Κ Φ a d>>=λc=>if c then dR Κ Φ b d else .ok Z6):=rfl
theorem Cz:dR Κ Φ (.or a b) d=(dR Κ Φ a d>>=λc=>if c then .ok Z7 else dR Κ Φ b d):=rfl
theorem Qg:dR Κ Φ (.not a) ρ=(dR Κ Φ a ρ>>=λc=>.ok (!c)):=rfl
theorem CB:evW Κ Φ (.tv a) ρ=(aE Κ Φ a ρ>>=λx=>z4q x.2>>=λxs=>.ok (x.1,xs)):=rfl
theorem Qh:evW Κ Φ (.fT a) ρ=(dG Κ Φ a ρ>>=λb=>iA (b.map (·.2))>>=λxs=>.ok (.fr,xs)):=rfl
theorem CD (b:∀i,a≠.var i):evF Κ Φ (.tv a) ρ=(if kZ Κ Φ (.tv a) ρ then aE Κ Φ a ρ>>=λx=>mX x ρ else sk Κ Φ (.tv a) ρ):=by cases a<;>first|exact absurd rfl (b _)|rfl
end
theorem lH (h:aH Κ Φ a ρ=.ok (.nx c))(k:aH Κ Φ b c=r):aH Κ Φ (.seq a b) ρ=r:=by rw[yQ,h];exact k
theorem eB (h:aH Κ Φ a ρ=.ok (.rt g d)):aH Κ Φ (.seq a b) ρ=.ok (.rt g d):=by rw[yQ,h];rfl
theorem gB (h:aH Κ Φ s (ds.map (λd=>Z9 (.od,d))++bx (n-ds.length) Z8)=.ok (.rt g d)):aZ Κ Φ n s ds=.ok (g,d):=by unfold aZ;rw[h]
theorem Hn {k:Type}{m:k->D}(I:List k->Rho->Prop):∀g pre a,(∀b x c a,pre++g=b++x::c->I b a->∃d,f (m x) a=.ok (.nx d)/\I (b++[x]) d)->I pre a->∃d,cG f (g.map m) a=.ok (.nx d)/\I (pre++g) d
 | [],pre,a,_,h=>⟨a,rfl,by rw[br];exact h⟩
 |x::g,pre,a,hf,h=>by
  obtain⟨i,e,n⟩:=hf pre x g a rfl h;have l:pre++[x]++g=pre++x::g:=by rw[c9];rfl
  obtain⟨j,o,p⟩:=Hn I g (pre++[x]) i (λb y c a q=>hf b y c a (l▸q)) n;exact⟨j,by rw[bc,Qe,e];exact o,l▸p⟩
theorem Ho {b:Type}{m:b->D}(g:b->Option D):∀(a:List b),(∀x∈a,f (m x)=.ok ((g x).map λd=>(.fr,d)))->kW f (a.map m)=.ok ((a.filterMap g).map λd=>(.fr,d))
 | [],_=>rfl
 |x::a,h=>by
  rw[bc,kW,h x ax,Ho g a λy c=>h y (av _ c)];cases e:g x with
  |none=>rw[li e];rfl
  |some d=>rw[lj e];rfl
theorem Qi (a:List D):qL (a.map λd=>(G.fr,d))=.fr:=by unfold qL;rw[qe];rw[mn];exact be.mpr λ_ _=>rfl
theorem Qj (a:List D):cF (a.map λd=>(G.fr,d))=.fr:=by unfold cF;rw[qe];rw[be];intro x b;obtain⟨d,_,rfl⟩:=bb.mp b;rfl
theorem CF (a:List D):(a.map λd=>(G.fr,d)).map (λx=>x.2)=a:=by rw[ci];exact np _
def chr (z:Str)(i:Int):Str:=⟨#[z.cps.toList.getD i.toNat 0]⟩
theorem Hq (z:Str)(i:Int):(chr z i).length=1:=rfl
theorem cT (a b:Str):(a++b).length=a.length+b.length:=by show Array.size (a.cps++b.cps)=_;rw[Array.size_append];rfl
theorem CG {b:Type}(a:List b)(i:Int)(d:b)(h0:0<=i)(c:i<a.length):cB a i=Z9 (a.getD i.toNat d):=by
 unfold cB gZ;rw[qe h0,qe c];show a[i.toNat]?=_;have:i.toNat<a.length:=by omega
 rw[ag,a9 this];rfl
theorem t6 (h0:0<=i)(a:i<z.length)(b:z.length<=1000):gH (.str z) (.int i)=.ok (.str (chr z i)):=by show(if z.length<=LIM then Res.eU ((cB z.cps.toList i).map λc=>Z0 ⟨#[c]⟩)else .no)=_;rw[qe (by unfold LIM;omega),CG _ i 0 h0 (db▸a)];rfl
theorem uq {ns:List Str}{i:Int}(h0:0<=i)(a:i<ns.length):gH (.list (ns.map .str)) (.int i)=.ok (.str (ns.getD i.toNat ⟨#[]⟩)):=by
 show Res.eU (cB (ns.map Z0) i)=_;rw[CG _ i (.str ⟨#[]⟩) h0 (by rw[ai];exact a)]
 congr 1
 have:i.toNat<ns.length:=by omega
 rw[ag,ag,bu,a9 this];rfl
theorem ur {ns:List Int}{i:Int}(h0:0<=i)(a:i<ns.length):gH (.list (ns.map .int)) (.int i)=.ok (.int (ns.getD i.toNat 0)):=by
 show Res.eU (cB (ns.map ZX) i)=_;rw[CG _ i (.int 0) h0 (by rw[ai];exact a)]
 congr 1
 have:i.toNat<ns.length:=by omega
 rw[ag,ag,bu,a9 this];rfl
theorem getD_mem {a:Type}{ns:List a}{i:Int}{d:a}(h0:0<=i)(b:i<ns.length):ns.getD i.toNat d∈ns:=by grind
theorem add_str (h:a.length+b.length<=1000):cM .Add (.str a) (.str b)=.ok (.str (a++b)):=by show(if _ then _ else _)=_;rw[qe (by unfold LIM;omega)]
theorem add_list (h:a.length+b.length<=1000):cM .Add (.list a) (.list b)=.ok (.list (a++b)):=by show(if _ then _ else _)=_;rw[qe (by unfold LIM;omega)]
theorem lI (h:-(2 ^ 64)<b/\b<2 ^ 64):cM .Mult (.int a) (.int b)=.ok (.int (a*b)):=by show(if _ then _ else _)=_;rw[qe (.inr h)]
theorem uu (h:-(2 ^ 64)<a/\a<2 ^ 64):cM .Mult (.int a) (.int b)=.ok (.int (a*b)):=by show(if _ then _ else _)=_;rw[qe (.inl h)]
theorem dC (h:0<b):cM .Mod (.int a) (.int b)=.ok (.int (a%b)):=by show(if _ then _ else _)=_;rw[qe h]
theorem Qk:cM .Pow (.int 10) (.int 30)=.ok (.int 1000000000000000000000000000000):=rfl
theorem uv (h0:0<=n)(a:n<=1000):iA [.int n]=.ok ((ce n.toNat).map λ(i:Nat)=>.int i):=by show(if _ then _ else _)=_;rw[qe (by unfold LIM;omega)]
theorem yi (h:z.length<=1000):se (.str z) i j=.ok (.str (gI z i j)):=by show(if _ then _ else _)=_;rw[qe (by unfold LIM;omega)]
theorem gO (ns:List Str):imms (ns.map .str)=true:=ua.mpr λx a=>by obtain⟨p,_,rfl⟩:=bb.mp a;rfl
theorem CH (ns:List Int):imms (ns.map .int)=true:=ua.mpr λx a=>by obtain⟨p,_,rfl⟩:=bb.mp a;rfl
theorem Hr:∀ns,fA (ns.map .str)=Z9 ns
 | []=>rfl
 |n::ns=>by rw[bc,fA,Hr ns];rfl
theorem Ql:∀a,(∀s∈a,s.length=1)->(bM "" a).length=a.length
 | [],_=>rfl
 |x::r,h=>by
  show(List.toArray (x.cps.toList++(r.map λp=>([]:List Nat)++p.cps.toList).flatten)).size=_
  have b:∀(r:List Str),(∀s∈r,s.length=1)->((r.map λp=>([]:List Nat)++p.cps.toList).flatten).length=r.length:=by
   intro r
   induction r with
   |nil=>intro _;rfl
   |cons y r c=>intro h;rw[bc,List.flatten_cons,af,c λs hs=>h s (av _ hs)];have:(([]:List Nat)++y.cps.toList).length=1:=h y ax;rw[am];omega
  rw[bg,af,b r λs hs=>h s (av _ hs)];have:x.cps.toList.length=1:=h x ax;rw[am];omega
theorem Qm (h:∀s∈a,s.length=1)(d:a.length<=1000):mtD "join" (.str "") [.list (a.map .str)]=.ok (.str (bM "" a)):=by
 have:mtD "join" (.str "") [.list (a.map .str)]=(match fA (a.map .str)with|some a=>if pB "" a<=LIM then .ok (.str (bM "" a))else .no|none=>.no):=rfl;rw[this,Hr]
 dsimp only
 rw[qe];unfold pB;have h0:("":Str).length=0:=rfl
 have b:∀(r:List Str),(∀s∈r,s.length=1)->(r.map (·.length)).sum=r.length:=by
  intro r
  induction r with
  |nil=>intro _;rfl
  |cons y r c=>intro h;rw[bc,jy,h y ax,c λs hs=>h s (av _ hs),am];omega
 rw[b a h,h0];unfold LIM;omega
theorem Hs (a b:Int):bO (.int a) (.int b)=decide (a=b):=by rfl
section
variable {Κ:List D}{Φ:List Fn}{ρ:Rho}
theorem wR:aE Κ Φ (.var i) ρ=(rY ρ[i]?):=rfl
theorem Qn:aE Κ Φ (.non) a=(.ok (.fr,.none)):=rfl
theorem CJ:aE Κ Φ (.bl b) a=(.ok (.fr,.bool b)):=rfl
theorem Qo:aE Κ Φ (.int i) a=(.ok (.fr,.int i)):=rfl
theorem Qp:aE Κ Φ (.str x) a=(.ok (.fr,.str x)):=rfl
theorem CK:aE Κ Φ (.bin e a b) c=(aE Κ Φ a c>>=λx=>aE Κ Φ b c>>=λy=>cM e x.2 y.2>>=λd=>.ok (gN d (cF [x,y]),d)):=rfl
theorem Qq:aE Κ Φ (.cmp c a b) ρ=(aE Κ Φ a ρ>>=λx=>aE Κ Φ b ρ>>=λy=>cmpD c x.2 y.2>>=λb=>.ok (.fr,.bool b)):=rfl
theorem Qr:aE Κ Φ (.chain e d a b c) ρ=(aE Κ Φ a ρ>>=λx=>aE Κ Φ b ρ>>=λy=>cmpD e x.2 y.2>>=λk=>if k then aE Κ Φ c ρ>>=λz=>cmpD d y.2 z.2>>=λf=>.ok (.fr,.bool f)else .ok (.fr,.bool Z6)):=rfl
theorem Qs:aE Κ Φ (.and a b) d=(aE Κ Φ a d>>=λx=>match x.2 with|.bool c=>if c then aE Κ Φ b d else .ok (.fr,.bool Z6)|_=>.no):=rfl
theorem Qt:aE Κ Φ (.not a) b=(aE Κ Φ a b>>=λx=>fU x.2>>=λc=>.ok (.fr,.bool (!c))):=rfl
theorem Ht:aE Κ Φ (.rX c a b) d=(dR Κ Φ c d>>=λk=>if k then aE Κ Φ a d else aE Κ Φ b d):=rfl
theorem Qu:aE Κ Φ (.tup b) c=(dG Κ Φ b c>>=λa=>.ok (gJ (.tuple (a.map (·.2))) (cF a),.tuple (a.map (·.2)))):=rfl
theorem Hu:aE Κ Φ (.lst b) ρ=(dG Κ Φ b ρ>>=λa=>.ok (cF a,.list (a.map (·.2)))):=rfl
theorem CL:aE Κ Φ (.ix a b) c=(aE Κ Φ a c>>=λx=>aE Κ Φ b c>>=λy=>gH x.2 y.2>>=λd=>.ok (gJ d x.1,d)):=rfl
theorem wU:aE Κ Φ (.sl a c e) b=(aE Κ Φ a b>>=λx=>si Κ Φ c b>>=λl=>si Κ Φ e b>>=λh=>se x.2 l h>>=λd=>.ok (gN d (cF [x]),d)):=rfl
theorem Hv:aE Κ Φ (.call k c args) a=(dG Κ Φ args a>>=λb=>match Φ[k]? with|some m=>m (b.map (·.2))>>=λr=>.ok (gJ r.2 (i' r.1),r.2)|none=>.no):=rfl
theorem CM:aE Κ Φ (.bi f args) a=(dG Κ Φ args a>>=λb=>iF f (b.map (·.2))>>=λd=>.ok (gJ d .al,d)):=rfl
theorem Hw:aE Κ Φ (.hJ f a) b=(AX Κ Φ a b>>=λw=>aggD f w.2.1 w.2.2>>=λd=>.ok (gJ d (if imms w.2.2 then .fr else agG w.1),d)):=rfl
theorem Qv:aE Κ Φ (.dP a b) ρ=(aE Κ Φ a ρ>>=λx=>.ok (.fr,.bool (b.any λT=>jG (hZ x.2) T))):=rfl
theorem CN:aE Κ Φ (.mt m o args) a=(aE Κ Φ o a>>=λx=>dG Κ Φ args a>>=λb=>mtD m x.2 (b.map (·.2))>>=λd=>.ok (gJ d .al,d)):=rfl
theorem Qw:aE Κ Φ (.jF a b) ρ=(aE Κ Φ a ρ>>=λx=>aE Κ Φ b ρ>>=λy=>fW x.2 y.2>>=λd=>.ok (.fr,d)):=rfl
theorem Qx {a:C}:aE Κ Φ (.comp f g i h it a c) d=(evW Κ Φ it d>>=λw=>kW (λx=>eZ h (gJ x w.1,x) (bx f Z8++g.map λj=>fV (d.getD j Z8))>>=λb=>dR Κ Φ a b>>=λk=>if k then aE Κ Φ c b>>=λy=>.ok (Z9 y)else .ok Z8) w.2>>=λe=>.ok (qL e,.list (e.map (·.2)))):=rfl
end
section
variable {Κ:List D}{Φ:List Fn}{ρ:Rho}{a b c t o args:C}{x y d:D}{ds:List D}{k k':Bool}{g:G}
def Ev (Κ:List D)(Φ:List Fn)(c:C)(ρ:Rho)(d:D):Prop:=∃g,aE Κ Φ c ρ=.ok (g,d)
def Vv (Κ:List D)(Φ:List Fn)(c:C)(ρ:Rho)(d:D):Prop:=aE Κ Φ c ρ=.ok (.fr,d)/\imm d=Z7
def Aa (Κ:List D)(Φ:List Fn)(c:C)(ρ:Rho)(ds:List D):Prop:=∃ys,dG Κ Φ c ρ=.ok ys/\ys.map (·.2)=ds
def Av (Κ:List D)(Φ:List Fn)(c:C)(ρ:Rho)(ds:List D):Prop:=dG Κ Φ c ρ=.ok (ds.map λd=>(.fr,d))/\imms ds=Z7
def Tt (Κ:List D)(Φ:List Fn)(c:C)(ρ:Rho)(k:Bool):Prop:=dR Κ Φ c ρ=.ok k
theorem Vv.e (h:Vv Κ Φ c ρ d):Ev Κ Φ c ρ d:=⟨_,h.1⟩
theorem Ev.of (h:aE Κ Φ c ρ=.ok (g,d)):Ev Κ Φ c ρ d:=⟨_,h⟩
theorem aC (h:ρ[i]?=Z9 (Z9 (g,d))):Ev Κ Φ (.var i) ρ d:=⟨_,by rw[wR];rw[h];rfl⟩
theorem v_var (h:ρ[i]?=Z9 (Z9 (g,d)))(a:imm d=Z7):Vv Κ Φ (.var i) ρ d:=⟨by rw[wR];rw[h];show Res.ok (if imm d=Z7 then _ else _,d)=_;rw[qe a],a⟩
theorem aG:Vv Κ Φ (.int i) ρ (.int i):=⟨by rw[Qo],rfl⟩
theorem bD:Vv Κ Φ (.str i) ρ (.str i):=⟨by rw[Qp],rfl⟩
theorem pU:Vv Κ Φ (.bl i) ρ (.bool i):=⟨by rw[CJ],rfl⟩
theorem CP:Vv Κ Φ .non ρ .none:=⟨by rw[Qn],rfl⟩
theorem lY (a:imm d=Z7):gJ d g=.fr:=by unfold gJ;rw[qe a]
theorem Hx (a:imm d=Z7):gN d g=.fr:=by cases d<;>first|exact lY a|cases a
theorem aP (ha:Ev Κ Φ a ρ x)(hb:Ev Κ Φ b ρ y)(h:cM op x y=.ok d)(c:imm d=Z7):Vv Κ Φ (.bin op a b) ρ d:=by obtain⟨e,ha⟩:=ha;obtain⟨f,hb⟩:=hb;refine⟨?_,c⟩;rw[CK];rw[ha,Res.aB,hb,Res.aB];dsimp only;rw[h,Res.aB,Hx c]
theorem Hy (ha:Ev Κ Φ a ρ x)(hb:Ev Κ Φ b ρ y)(h:cM op x y=.ok (.list xs))(hi:imms xs=Z7):aE Κ Φ (.bin op a b) ρ=.ok (.fr,.list xs):=by obtain⟨g1,ha⟩:=ha;obtain⟨g2,hb⟩:=hb;rw[CK];rw[ha,Res.aB,hb,Res.aB];dsimp only;rw[h];show Res.ok (if imms xs=Z7 then _ else _,_)=_;rw[qe hi]
theorem cU (c:Ev Κ Φ a ρ x)(d:Ev Κ Φ b ρ y)(h:cmpD e x y=.ok k):Vv Κ Φ (.cmp e a b) ρ (.bool k):=by obtain⟨g1,c⟩:=c;obtain⟨g2,d⟩:=d;refine⟨?_,rfl⟩;rw[Qq];rw[c,Res.aB,d,Res.aB];dsimp only;rw[h];rfl
theorem v_and (ha:Ev Κ Φ a ρ (.bool k))(hb:k=Z7->Vv Κ Φ b ρ (.bool k')):Vv Κ Φ (.and a b) ρ (.bool (k&&k')):=by
 obtain⟨g1,ha⟩:=ha;refine⟨?_,rfl⟩;rw[Qs];rw[ha];cases k with
 |true=>exact(hb rfl).1
 |false=>rfl
theorem v_not (b:Ev Κ Φ a ρ x)(h:fU x=.ok k):Vv Κ Φ (.not a) ρ (.bool (!k)):=by obtain⟨c,b⟩:=b;refine⟨?_,rfl⟩;rw[Qt];rw[b,Res.aB];dsimp only;rw[h];rfl
theorem Qy (hc:Tt Κ Φ c ρ k)(h1:k=Z7->Vv Κ Φ a ρ x)(h2:k=Z6->Vv Κ Φ b ρ y):Vv Κ Φ (.rX c a b) ρ (if k then x else y):=by
 cases k with
 |true=>exact⟨by rw[Ht];rw[hc];exact(h1 rfl).1,(h1 rfl).2⟩
 |false=>exact⟨by rw[Ht];rw[hc];exact(h2 rfl).1,(h2 rfl).2⟩
theorem dU:Av Κ Φ .nil ρ []:=⟨rfl,rfl⟩
theorem bF (ha:Vv Κ Φ a ρ x)(hb:Av Κ Φ b ρ ds):Av Κ Φ (.cons a b) ρ (x::ds):=⟨by rw[uo,ha.1,Res.aB,hb.1];rfl,by show(imm x&&imms ds)=Z7;rw[ha.2,hb.2];rfl⟩
theorem bN:Aa Κ Φ .nil ρ []:=⟨[],rfl,rfl⟩
theorem aW (ha:Ev Κ Φ a ρ x)(hb:Aa Κ Φ b ρ ds):Aa Κ Φ (.cons a b) ρ (x::ds):=by obtain⟨g1,ha⟩:=ha;obtain⟨ys,hb,e⟩:=hb;exact⟨_,by rw[uo,ha,hb];rfl,by rw[bc,e]⟩
theorem oI (h:Av Κ Φ args ρ ds):Vv Κ Φ (.tup args) ρ (.tuple ds):=by refine⟨?_,h.2⟩;rw[Qu];rw[h.1,Res.aB,CF,lY (d:=.tuple ds) h.2]
theorem iI (h:Av Κ Φ args ρ ds):aE Κ Φ (.lst args) ρ=.ok (.fr,.list ds):=by rw[Hu];rw[h.1,Res.aB,CF,Qj]
theorem aR (c:Ev Κ Φ a ρ x)(e:Ev Κ Φ b ρ y)(h:gH x y=.ok d)(f:imm d=Z7):Vv Κ Φ (.ix a b) ρ d:=by obtain⟨g1,c⟩:=c;obtain⟨g2,e⟩:=e;refine⟨?_,f⟩;rw[CL];rw[c,Res.aB,e,Res.aB];dsimp only;rw[h,Res.aB,lY f]
def Oo (Κ:List D)(Φ:List Fn)(c:C)(ρ:Rho)(i:Option Int):Prop:=si Κ Φ c ρ=.ok i
theorem uc:Oo Κ Φ .nil ρ none:=rfl
theorem oJ (h:Ev Κ Φ a ρ (.int i)):Oo Κ Φ (.tv a) ρ (Z9 i):=by obtain⟨b,h⟩:=h;unfold Oo;rw[Cw,h];rfl
theorem wV (e:Ev Κ Φ a f x)(g:Oo Κ Φ b f i)(hc:Oo Κ Φ c f j)(h:se x i j=.ok d)(k:imm d=Z7):Vv Κ Φ (.sl a b c) f d:=by obtain⟨g1,e⟩:=e;unfold Oo at g hc;refine⟨?_,k⟩;rw[wU];rw[e,Res.aB,g,Res.aB,hc,Res.aB];dsimp only;rw[h,Res.aB,Hx k]
theorem gP (ha:Aa Κ Φ args ρ ds)(hf:Φ[n]?=Z9 m)(h:m ds=.ok (g,d))(hi:imm d=Z7):Vv Κ Φ (.call n f args) ρ d:=by obtain⟨ys,ha,e⟩:=ha;refine⟨?_,hi⟩;rw[Hv];rw[ha,Res.aB,hf];dsimp only;rw[e,h,Res.aB,lY hi]
theorem uw (ha:Aa Κ Φ args ρ ds)(hf:Φ[n]?=Z9 m)(h:m ds=.ok (.fr,.list xs)):aE Κ Φ (.call n f args) ρ=.ok (.fr,.list xs):=by obtain⟨ys,ha,e⟩:=ha;rw[Hv];rw[ha,Res.aB,hf];dsimp only;rw[e,h];rfl
theorem fE (ha:Aa Κ Φ args ρ ds)(h:iF f ds=.ok d)(hi:imm d=Z7):Vv Κ Φ (.bi f args) ρ d:=by obtain⟨ys,ha,e⟩:=ha;refine⟨?_,hi⟩;rw[CM];rw[ha,Res.aB,e,h,Res.aB,lY hi]
theorem yR (b:Ev Κ Φ a ρ x)(hw:z5q x=.ok w)(h:aggD f w.1 w.2=.ok d)(c:imm d=Z7):Vv Κ Φ (.hJ f (.tv a)) ρ d:=by obtain⟨e,b⟩:=b;refine⟨?_,c⟩;rw[Hw];rw[wQ,b,Res.aB];dsimp only;rw[hw];simp only[Res.aB];rw[h,Res.aB,lY c]
theorem Hz (b:Ev Κ Φ a ρ x)(c:z5q x=.ok w)(h:aggD f w.1 w.2=.ok d)(e:imms w.2=Z7):aE Κ Φ (.hJ f (.tv a)) ρ=.ok (.fr,d):=by obtain⟨g1,b⟩:=b;rw[Hw];rw[wQ,b,Res.aB];dsimp only;rw[c];simp only[Res.aB];rw[h,Res.aB];unfold gJ;split<;>rfl
theorem kF (ha:Ev Κ Φ a ρ x):Vv Κ Φ (.dP a ts) ρ (.bool (ts.any λT=>jG (hZ x) T)):=by obtain⟨g1,ha⟩:=ha;refine⟨?_,rfl⟩;rw[Qv];rw[ha];rfl
theorem lJ (a:Ev Κ Φ o ρ x)(b:Aa Κ Φ args ρ f)(h:mtD m x f=.ok d)(c:imm d=Z7):Vv Κ Φ (.mt m o args) ρ d:=by obtain⟨g1,a⟩:=a;obtain⟨g,b,e⟩:=b;refine⟨?_,c⟩;rw[CN];rw[a,Res.aB,b,Res.aB,e];dsimp only;rw[h,Res.aB,lY c]
theorem aS (h:Ev Κ Φ a ρ x)(b:fU x=.ok k):Tt Κ Φ (.tv a) ρ k:=by obtain⟨g1,h⟩:=h;unfold Tt;rw[Cy,h];exact b
theorem yS:Tt Κ Φ .nil ρ true:=rfl
theorem ux (c:Tt Κ Φ a ρ k)(d:k=Z7->Tt Κ Φ b ρ k'):Tt Κ Φ (.and a b) ρ (k&&k'):=by
 unfold Tt at *
 rw[Qf,c];cases k with
 |true=>exact d rfl
 |false=>rfl
theorem jO (ha:Tt Κ Φ a ρ k)(hb:k=Z6->Tt Κ Φ b ρ k'):Tt Κ Φ (.or a b) ρ (k||k'):=by
 unfold Tt at *
 rw[Cz,ha];cases k with
 |false=>exact hb rfl
 |true=>rfl
theorem qQ (ha:Tt Κ Φ a ρ k):Tt Κ Φ (.not a) ρ (!k):=by
 unfold Tt at *
 rw[Qg,ha];rfl
theorem z6i {b:Type}{cond:C}{m:b->D}{xs:List b}(p:b->Bool)(f:b->D)(c:evW Κ Φ it ρ=.ok w)(a:w.2=xs.map m)(r:b->Rho)
  (d:∀x∈xs,eZ tg (gJ (m x) w.1,m x) (bx nt Z8++js.map λj=>fV (ρ.getD j Z8))=.ok (r x)) (hc:∀x∈xs,Tt Κ Φ cond (r x) (p x)) (g:∀x∈xs,p x=Z7->Vv Κ Φ elt (r x) (f x)):
  aE Κ Φ (.comp nt js N' tg it cond elt) ρ=.ok (.fr,.list ((xs.filter p).map f)):=by
 rw[Qx];rw[c,Res.aB,a]
 rw[Ho (λx=>if p x then Z9 (f x)else Z8) xs λx a=>by
  rw[d x a,Res.aB];have:=hc x a;rw[this];cases e:p x with
  |true=>rw[(g x a e).1];rfl
  |false=>rfl]
 rw[Res.aB,Qi,CF]
 have:(xs.filterMap λx=>if p x=Z7 then Z9 (f x)else Z8)=(xs.filter p).map f:=by
  clear a d hc g c
  induction xs with
  |nil=>rfl
  |cons x xs h=>
   cases e:p x with
   |true=>rw[lj (by rw[e];rfl),List.filter_cons_of_pos e,bc,h]
   |false=>rw[li (by rw[e];rfl),List.filter_cons_of_neg (e▸fj),h]
 rw[this]
theorem fY (h:aE Κ Φ a ρ=.ok (g,x))(hw:z4q x=.ok xs):evW Κ Φ (.tv a) ρ=.ok (g,xs):=by rw[CB,h,Res.aB];dsimp only;rw[hw];rfl
theorem CQ (h:Aa Κ Φ args ρ ds)(hw:iA ds=.ok xs):evW Κ Φ (.fT args) ρ=.ok (.fr,xs):=by obtain⟨ys,h,e⟩:=h;rw[Qh,h,Res.aB,e,hw];rfl
theorem cY (h:Vv Κ Φ t ρ d):aH Κ Φ (.asg (.nm i) t) ρ=.ok (.nx (ρ.set i (Z9 (.al,d)))):=by rw[Cu,h.1];show Res.ok (Out.nx (ρ.set i (Z9 (if imm d then(.al,d)else _))))=_;rw[qe h.2]
theorem fN (h:aE Κ Φ t ρ=.ok (.fr,.list xs))(a:imms xs=Z7):aH Κ Φ (.asg (.nm i) t) ρ=.ok (.nx (ρ.set i (Z9 (.fr,.list xs)))):=by rw[Cu,h];show Res.ok (Out.nx (ρ.set i (Z9 (if imms xs then .fr else .nu,.list xs))))=_;rw[qe a]
theorem Qz (h:aE Κ Φ t ρ=.ok (.fr,.dict es))(a:kT es=Z7):aH Κ Φ (.asg (.nm i) t) ρ=.ok (.nx (ρ.set i (Z9 (.fr,.dict es)))):=by rw[Cu,h];show Res.ok (Out.nx (ρ.set i (Z9 (if kT es then .fr else .nu,.dict es))))=_;rw[qe a]
theorem HA (hv:∀i,t≠.var i):aH Κ Φ (.ret t) ρ=(aE Κ Φ t ρ>>=λx=>.ok (.rt (i' x.1) x.2)):=by cases t<;>first|exact absurd rfl (hv _)|rfl
theorem fF (h:Vv Κ Φ t ρ d):aH Κ Φ (.ret t) ρ=.ok (.rt .fr d):=by
 by_cases c:∀i,t≠.var i
 .rw[HA c,h.1];rfl
 obtain⟨i,rfl⟩:∃i,t=.var i:=by cases t<;>first|exact⟨_,rfl⟩|exact(c λi z=>by cases z).elim
 have a:=h.1;rw[wR]at a;rw[Hk];cases hr:ρ[i]? with
 |none=>rw[hr]at a;cases a
 |some o=>
  cases o with
  |none=>rw[hr]at a;cases a
  |some gd=>
   obtain⟨g,b⟩:=gd;rw[hr]at a;have:b=d:=by have:=congrArg (λr:Res GD=>match r with|.ok p=>p.2|_=>.none) a;exact this
   subst this;show Res.ok (Out.rt (if imm b=Z7 then _ else _) b)=_;rw[qe h.2]
theorem QA (hv:∀i,t≠.var i)(h:aE Κ Φ t ρ=.ok (.fr,.list xs)):aH Κ Φ (.ret t) ρ=.ok (.rt .fr (.list xs)):=by rw[HA hv,h];rfl
theorem yT (hc:Tt Κ Φ c ρ k)(h1:k=Z7->aH Κ Φ p ρ=r)(h2:k=Z6->aH Κ Φ q ρ=r):aH Κ Φ (.aX c p q) ρ=r:=by
 rw[Cv,hc];cases k with
 |true=>exact h1 rfl
 |false=>exact h2 rfl
theorem uy:aH Κ Φ .nil ρ=.ok (.nx ρ):=rfl
theorem CS {y:GD}(h:imm y.2=Z7):okIn y=true:=by unfold okIn;rw[h];rfl
theorem QB (c:Vv Κ Φ b ρ x)(hk:Ev Κ Φ a ρ (.str n))(hr:ρ[i]?=Z9 (Z9 (.fr,.dict es)))(hl:es.length<LIM):aH Κ Φ (.dN i a b) ρ=.ok (.nx ((ρ.set i (Z9 (.fr,.dict (dput es (.str n) x)))).map z08)):=by
 obtain⟨d,hk⟩:=hk;rw[Hl,c.1,Res.aB,hk,Res.aB,hr]
 dsimp only
 rw[qe];rw[CS c.2];exact qk hl
theorem pV (hv:Vv Κ Φ a ρ x)(hr:ρ[i]?=Z9 (Z9 (.fr,.list xs)))(hl:xs.length<1000):aH Κ Φ (.mut "append" i (.cons a .nil)) ρ=.ok (.nx ((ρ.set i (Z9 (.fr,.list (xs++[x])))).map z08)):=by
 rw[Qc,uo,hv.1,Res.aB,Hm,Res.aB,Res.aB,hr]
 dsimp only
 have:mW "append" xs [(.fr,x)]=.ok (xs++[x]):=by show(if(okIn (G.fr,x)&&decide (xs.length<LIM))=Z7 then _ else _)=_;rw[qe];rw[CS hv.2];refine qk ?_;unfold LIM;omega
 rw[this];rfl
theorem wW (h:Aa Κ Φ args ρ ds)(hw:iA ds=.ok xs):evF Κ Φ (.fT args) ρ=.ok (.fr,xs,ρ):=by show sk Κ Φ (.fT args) ρ=_;unfold sk;rw[CQ h hw];rfl
theorem B6 {x y:GD}(ha:aE Κ Φ a ρ=.ok x)(hb:aE Κ Φ b ρ=.ok y)(ca:mY x=Z7)(cb:mY y=Z7)(hx:seqR x.2=.ok xs)(hy:seqR y.2=.ok ys):evF Κ Φ (.zip a b) ρ=.ok (.al,zipD xs ys,ρ):=by
 have e:dG Κ Φ (.cons a (.cons b .nil)) ρ=.ok [x,y]:=by rw[uo,ha,Res.aB,uo,hb,Res.aB,Hm];rfl
 show(dG Κ Φ (.cons a (.cons b .nil)) ρ>>=λys=>kY ys ρ)=_;rw[e,Res.aB];unfold kY
 dsimp only
 rw[ca,cb];rw[hx,Res.aB,hy];rfl
theorem QC {x:GD}(ha:aE Κ Φ a ρ=.ok x)(ca:mY x=Z7)(hx:seqR x.2=.ok xs):evF Κ Φ (.enum a) ρ=.ok (.al,z19 0 xs,ρ):=by
 have e:dG Κ Φ (.cons a .nil) ρ=.ok [x]:=by rw[uo,ha];rfl
 show(dG Κ Φ (.cons a .nil) ρ>>=λys=>pD ys ρ)=_;rw[e,Res.aB];unfold pD
 dsimp only
 rw[ca,hx];rfl
theorem QD (hl:xs.length<=1000):seqR (.list xs)=.ok xs:=by show(if decide (xs.length<=LIM)=Z7 then Res.ok xs else .no)=_;rw[qk (show xs.length<=LIM by unfold LIM;omega)];rfl
theorem HB {b:Type}(m:b->D):∀k (a:List b),z19 k (a.map m)=(a.zipIdx k).map λp=>.tuple [.int p.2,m p.1]
 |_,[]=>rfl
 |k,x::a=>by rw[bc,z19,HB m (k+1) a];rfl
theorem QE (a:imm x=Z7)(b:imm y=Z7):eZ (.tp [i,j]) (gJ (.tuple [x,y]) g,.tuple [x,y]) ρ=.ok ((ρ.set i (Z9 (.al,x))).set j (Z9 (.al,y))):=by show Res.eU (Z9 ((ρ.set i (Z9 (lV (gJ x _,x)))).set j (Z9 (lV (gJ y _,y)))))=_;rw[lY a,lY b];rfl
theorem HC (hv:∀i,e0≠.var i)(h:aE Κ Φ e0 ρ=.ok (.fr,x'))(hw:z4q x'=.ok xs):evF Κ Φ (.tv e0) ρ=.ok (.fr,xs,ρ):=by
 have e2:=fY h hw;have e3:kZ Κ Φ (.tv e0) ρ=false:=by unfold kZ;rw[e2];rfl
 rw[CD hv,e3];unfold sk;rw[e2];rfl
theorem CT (h:evF Κ Φ it ρ=.ok w)(k:cG (λx ρ1=>eZ t' (gJ x w.1,x) ρ1>>=λcR=>aH Κ Φ p cR) w.2.1 w.2.2=r):aH Κ Φ (.bH t' it p) ρ=r:=by rw[Qd,h];exact k
theorem oK (a:Tt Κ Φ c ρ k)(hk:k=Z7)(h:aH Κ Φ p ρ=.ok (.rt g d)):aH Κ Φ (.seq (.aX c p q) rest) ρ=.ok (.rt g d):=eB (yT a (λ_=>h) λz=>by rw[hk]at z;cases z)
theorem lK (hc:Tt Κ Φ c ρ k)(a:k=Z6)(h:aH Κ Φ rest ρ=r):aH Κ Φ (.seq (.aX c p .nil) rest) ρ=r:=lH (yT hc (λz=>by rw[a]at z;cases z) λ_=>uy) h
theorem z8x (h:ρ[i]?=Z9 (Z9 (.fr,.list xs))):aH Κ Φ (.ret (.var i)) ρ=.ok (.rt .fr (.list xs)):=by rw[Hk,h];rfl
theorem aF {Q:Res Out->Prop}(h:aH Κ Φ p ρ=.ok (.nx aN))(k:Q (aH Κ Φ q aN)):Q (aH Κ Φ (.seq p q) ρ):=by rw[lH h rfl];exact k
theorem zuf {Q:Res Out->Prop}{β:Type}{m:β->D}{xs:List β}(h:evF Κ Φ it ρ=.ok (g,xs.map m,ρ1))(I:List β->Rho->Prop)(h0:I [] ρ1)
  (hf:∀pre x post ρ,xs=pre++x::post->I pre ρ->∃aN,(eZ t' (gJ (m x) g,m x) ρ>>=λcR=>aH Κ Φ p cR)=.ok (.nx aN)/\I (pre++[x]) aN) (hk:∀aN,I xs aN->Q (aH Κ Φ rest aN)):Q (aH Κ Φ (.seq (.bH t' it p) rest) ρ):=by
 obtain⟨aN,e,i⟩:=Hn (f:=λx ρ1=>eZ t' (gJ x g,x) ρ1>>=λcR=>aH Κ Φ p cR) I xs [] ρ1 hf h0;rw[lH (CT h e) rfl];exact hk aN i
theorem znk {Q:Res Out->Prop}{d:Type}{m:d->D}{e:List d}(h:evF Κ Φ i ρ=.ok (g,e.map m,f))(I:List d->Rho->Prop)(h0:I [] f)
  (hf:∀pre x b ρ,e=pre++x::b->I pre ρ->∃c a,eZ j (gJ (m x) g,m x) ρ=.ok c/\aH Κ Φ p c=.ok (.nx a)/\I (pre++[x]) a) (hk:∀a,I e a->Q (aH Κ Φ rest a)):Q (aH Κ Φ (.seq (.bH j i p) rest) ρ):=
 zuf h I h0 (λpre x b ρ k l=>by obtain⟨c,a,n,o,q⟩:=hf pre x b ρ k l;exact⟨a,by rw[n,Res.aB,o],q⟩) hk
theorem tf {Q:Res Out->Prop}(hc:Tt Κ Φ c ρ k)(hk:k=Z6)(h:Q (aH Κ Φ rest ρ)):Q (aH Κ Φ (.seq (.aX c p .nil) rest) ρ):=by rw[lK hc hk rfl];exact h
theorem HD:Vv Κ Φ (.bin .Pow (.int 10) (.int 30)) ρ (.int 1000000000000000000000000000000):=aP aG.e aG.e Qk rfl
end
end
end Mk
namespace Mi
open PySem PySem.Spec PyProof.Rows L2
section
open PySem.SeqAt
section
variable {X:Cx}
theorem HE:∀{e:List Str} {a:List Value},Vals (e.map V.str) a->∀y∈a,∃b t,y=Value.str b t
 | [],_,r,y,c=>by cases r;cases c
 |s::e,_,r,y,c=>by
  cases r with
  |cons f g=>
   rcases ao.mp c with rfl|d
   .obtain⟨t,rfl⟩:=f;exact⟨_,_,rfl⟩
   .exact HE g y d
end
end
section
open PySem.MeetsSeq PySem.MeetsSeq3
section
variable {P:bp}{w:World}{l b:Addr}{xs ys:Array Value}{n m:Nat}{u v:Option Addr}{f g:Array (Option Value)}
end
end
open PySem.W
section
open PySem.SeqAt
def CU (d:Addr):Obj:={cls:=.type "dict_values",data:=.fields #[.ref d]}
def vw (v d:Addr):HO:=.ext λh=>h.get? v=Z9 (CU d)
theorem HF {κ:Type}:∀{a:List (κ×V)} {vs:List (κ×Value)},KV a vs->Vals (a.map (·.2)) (vs.map (·.2))
 |_,_,.nil=>.nil
 |_,_,.cons r t=>.cons r.2 (HF t)
section
variable {X:Cx}
def yU:V->List V->Hp->VK->Prop:=λx xs H Q=>∃d kvs,x=.ref d/\xs=[]/\H d=Z9 (.dK kvs)/\∀v,H v=Z8->Q (.ref v) (upd H v (vw v d))
theorem QF:MtR X "dict.values" yU:=by intro pins s σ H x y v us Q I j l h;obtain⟨d,m,rfl,rfl,hd,q⟩:=h;cases j;cases l;obtain⟨A,a,vs,n,o,f,r,g,c,e,t⟩:=vk I.hok hd;refine pc PySem.F.slot_dict_values ⟨_,g,c.1⟩ PySem.F.entry_dict_values (PySem.F.args_dict_values_1 _) (meets_dict_values (eX X.prog X.w) d a) ⟨⟨vs,o,f,r,g,c,e,t⟩,?_⟩;have hn:=I.hok.fresh (ah _);have i:(s.heap.push (CU d)).get? s.heap.objs.size=Z9 (CU d):=a7 _ rfl;exact⟨.ref s.heap.objs.size,_,I.laid (o:=vw s.heap.objs.size d) (λb u z=>ak _ z) (ah _) ⟨i,⟨_,i⟩,λB C p k=>k _ p⟩,rfl,q _ hn⟩
def yV:List V->Hp->VK->Prop:=λxs H Q=>∃v d kvs,xs=[.ref v]/\H v=Z9 (vw v d)/\H d=Z9 (.dK kvs)/\∀p,H p=Z8->Q (.ref p) (upd H p (.lst (kvs.map (·.2))))
theorem QG (t:X.calm=Z7):CallR X (.type "list") yV:=by
 intro pins s σ H K us Q I r h;obtain⟨v,d,f,rfl,x,hd,q⟩:=h;obtain⟨u,rfl,y⟩:=vals1 r;cases y;obtain⟨L,p,vs,g,o,k,z,A,l,i,B⟩:=vk I.hok hd;have m:s.heap.DictAt (eX X.prog X.w) d vs z:=⟨o,k,A,l,i,B⟩;have lk:=g.length;have n:=(I.hok v _ x).1;refine kdl_call (kdl_values) (I.ok.hd t) ⟨⟨_,n,rfl,rfl⟩,m⟩ (by omega) λM C b c hk D a=>?_;have E:=kdl_vals_eq b.toList (db▸a.1) λj u e=>a.2 j u (ju▸e);have F:Vals (f.map (·.2)) b.toList:=by rw[E];exact HF g
 have G:=I.hok.fresh (ah _);have J:=I.laid (o:=.lst (f.map (·.2))) (t':=C) hk (ah _) ⟨by rw[ai];omega,b.toList,c,F,by simpa using D⟩;exact⟨.ref s.heap.objs.size,_,J,rfl,q _ G⟩
theorem HG:∀{bs:List Bool} {a:List Value},Vals (bs.map V.bl) a->a=bs.map Value.bool
 | [],_,r=>by cases r;rfl
 |b::bs,_,r=>by
  cases r with
  |cons c d=>cases c;rw[HG d];rfl
theorem HH (c:∀b t,e (.str b t)=(b==s)):∀{d:List Str} {a:List Value},Vals (d.map V.str) a->a.countP e=d.countP (· ==s)
 | [],_,r=>by cases r;rfl
 |b::bs,_,r=>by
  cases r with
  |cons f g=>obtain⟨t,rfl⟩:=f;rw[l4,l4,HH c g,c]
def pW:V->List V->Hp->VK->Prop:=λx vs H Q=>∃l,x=.ref l/\((∃(ss:List Str) (s:Str),vs=[.str s]/\H l=Z9 (.lst (ss.map V.str))/\Q (.int (ss.countP (· ==s):Nat)) H)\/∃(bs:List Bool) (b:Bool),vs=[.bl b]/\H l=Z9 (.lst (bs.map V.bl))/\Q (.int (bs.countP (· ==b):Nat)) H)
theorem QH:MtR X "list.count" pW:=by
 rintro pins s σ H x vs v us Q I m j ⟨l,rfl,h⟩
 cases m;rcases h with⟨o,z,rfl,d,q⟩|⟨bs,b,rfl,d,q⟩
 .obtain⟨u,rfl,⟨k,rfl⟩⟩:=j.one;obtain⟨_,a,n,r,_,e⟩:=I.kQ d
  let f:Value->Bool:=λy=>match y with|.str b _=>b==z|_=>Z6
  refine ja PySem.F.slot_list_count ⟨_,e,rfl⟩ PySem.F.entry_list_count (PySem.F.args_list_count_2 _ _) (list_countAt l a.toArray n Z8 _ (.str z k) f) ⟨e,λy g=>?_,?_⟩
  .obtain⟨b,t,rfl⟩:=HE r y (by simpa using g);exact EqAt.str_str b t z k
  .have i:=HH (e:=f) (λ_ _=>rfl) r;refine⟨.int (o.countP (· ==z):Nat),H,I.tok _,⟨_,by rw[<-i]⟩,q⟩
 .obtain⟨u,rfl,rfl⟩:=j.one;obtain⟨_,a,n,r,_,e⟩:=I.kQ d;have p:=HG r;subst p
  let f:Value->Bool:=λy=>match y with|.bool c=>c==b|_=>Z6
  refine ja PySem.F.slot_list_count ⟨_,e,rfl⟩ PySem.F.entry_list_count (PySem.F.args_list_count_2 _ _) (list_countAt l _ n Z8 _ (.bool b) f) ⟨e,λy g=>?_,?_⟩
  .obtain⟨c,_,rfl⟩:=bb.mp (show y∈bs.map Value.bool by simpa using g);exact EqAt.bool_bool c b
  .have i:(bs.map Value.bool).countP f=bs.countP (· ==b):=by rw[List.countP_map];rfl
   exact⟨.int (bs.countP (· ==b):Nat),H,I.tok _,⟨_,by rw[<-i]⟩,q⟩
end
end
def HI (K:Z5)(en:Bool)(R:It->Hp->Prop)(v:V)(H1:Hp):Prop:=∃B d xs,Rep K H1 B v d/\(if en then seqR d else z4q d)=.ok xs/\∀J,Walk K J B H1 (if en then z19 0 xs else xs)->R J H1
def yW (K:Z5)(en:Bool)(t:TE):TI:=λσ H R=>t σ H (HI K en R)
section
variable {X:Cx}{a tg:Expr}{t:TE}
theorem QI (c:PE X a t):PI X k a (yW X.K Z6 t):=by intro b s f H R I h;exact aM (c b s f H _ I h) λv l ⟨y,m,g,i,B,d,n,j,e,q⟩=>z3g g i j e q
theorem QJ (hm:X.mg "enumerate"=Z8)(i:Gl X "enumerate")(hs:isStar a=Z6)(j:PE X a t):PI X (.Tuple f r tp) (.Call (.Name "enumerate" p) [a] [] pos) (yW X.K Z7 t):=by
 intro b s k H R I h;refine Call_ (z2m I i hm B3 (PyProof.Rows.callWith_type1 (aM (dO j kO hs pos b s k H (λc g=>match c with| [v]=>HI X.K Z7 R v g|_=>False) I h) λx y ⟨c,g,l,m,z⟩=>?_) (dX hs) rfl));rcases c with _|⟨v,_|⟨w,c⟩⟩
 .exact z.elim
 .obtain⟨u,rfl,n⟩:=vals1 m;obtain⟨B,d,A,o,e,q⟩:=z;exact z3t l n o e q
 .exact z.elim
end
inductive W where
 |aY (c:C)|raw (i:Nat)|bin (op:ni) (a b:W)|wX (c a b:W)|tup (xs:W)|lst (xs:W)|hG|ix (a b:W)|len (a:W)|get (o k:W)|bV (o:W) (f:Str)|cK (j:Nat) (as:W)|eC (o:W) (j:Nat) (as:W)|mk (j:Nat) (as:W)|tp (c:C)|tc (op:CmpOp) (a b:W)|wY (a:W)|not (a:W)|gi (j:Nat)|lv (o:W)|cnt (o k:W)|gf (j:Nat)|oM (i j:Nat) (as:W)|lc (nt:Nat) (js:List Nat) (N':List Str) (t:Tg) (en:Bool) (it c e:W)|nil|cons (a r:W)
 deriving Inhabited
structure Wc where
 K:Z5
 mg:Str->Option Value
 Κ:List D
 Φ:List Fn
 E:XK
 fn:List Sp
 me:List (Addr×Str×Sp)
 cl:List (Addr×Sp)
 xf:Option V:=Z8
 gi:List Int:=[]
 hf:List (Addr×Sp):=[]
 md:List (Addr×Str×Sp):=[]
 mq:List (Addr×Str×Sp):=[]
structure Gw where
 g:Gm
 fn:List (Str×Nat)
 me:List (Str×Nat)
 cl:List (Str×Nat)
 xf:Option Str:=Z8
 gi:List Str:=[]
 fld:List (Str×Str):=[]
 hf:List (Str×Nat):=[]
 md:List (Str×Nat):=[]
 mq:List (Str×Str):=[]
def HJ {α:Type}(us:List α):List α->List α
 | [w]=>us++[w]
 |_=>[]
def gC:TE:=λ_ _ _=>False
def HK (K:Z5)(t:TE):TT:=λσ H Q=>t σ H λx H'=>∃k,oS K x H' k/\Q k H'
mutual
def wE:Wc->W->TE
 |Z,.aY c=>tD Z.K (aE Z.Κ Z.Φ c)
 |Z,.raw i=>uR i
 |Z,.bin op a b=>lR (pJ Z.K (cM op)) (wE Z a) (wE Z b)
 |Z,.wX c a b=>Es (wT Z c) (wE Z a) (wE Z b)
 |Z,.tup xs=>ve (wA Z xs)
 |Z,.lst xs=>vf (wA Z xs)
 |Z,.hG=>EX
 |Z,.ix a b=>lR (sJ Z.K) (wE Z a) (wE Z b)
 |Z,.len a=>oU (z6p Z.K (iF "len")) (mP (wE Z a) eQ)
 |Z,.get o k=>E2 (wE Z o) (wE Z k)
 |Z,.bV o f=>rE Z.K (wE Z o) f
 |Z,.cK j as=>match Z.fn[j]? with|some sp=>jX sp [] Z.E (wA Z as)|none=>gC
 |Z,.eC o j as=>match Z.me[j]? with|some r=>qJ r.1 r.2.1 r.2.2 [] Z.E (wE Z o) (wA Z as)|none=>gC
 |Z,.mk j as=>match Z.cl[j]? with|some r=>tZ r.1 r.2 [] Z.E (wA Z as)|none=>gC
 |Z,.lv o=>oU yV (mP (rM Z.K "dict" yU (wE Z o)) eQ)
 |Z,.cnt o k=>vy Z.K "list" pW (wE Z o) (mP (wE Z k) eQ)
 |Z,.gi j=>match Z.gi[j]? with|some n=>λ_ H Q=>Q (.int n) H|none=>gC
 |Z,.gf j=>match Z.hf[j]? with|some r=>λ_ H Q=>Q (.ref r.1) H|none=>gC
 |Z,.oM i j as=>match Z.hf[j]? with|some r=>λσ H Q=>σ[i]?=Z9 (Z9 (.ref r.1))/\jX r.2 [] Z.E (wA Z as) σ H Q|none=>gC
 |Z,.lc nt js _ t en it c e=>vC (yW Z.K en (wE Z it)) (tDG Z.K t) (wT {Z with E:=λ_ _ _=>False,xf:=Z8} c) (wE {Z with E:=λ_ _ _=>False,xf:=Z8} e) (fS nt js)
 |_,_=>gC
def wA:Wc->W->TA
 |Z,.nil=>eQ
 |Z,.cons a r=>mP (wE Z a) (wA Z r)
 |_,_=>λ_ _ _=>False
def wT:Wc->W->TT
 |Z,.tp c=>dS Z.K (dR Z.Κ Z.Φ c)
 |Z,.tc op a b=>vc (lR (lX Z.K (mB (cmpD op))) (wE Z a) (wE Z b))
 |Z,.wY a=>HK Z.K (wE Z a)
 |Z,.not a=>uT (wT Z a)
 |_,.nil=>vB
 |_,_=>λ_ _ _=>False
end
def yX (Γ:Gw)(scope:Scope)(N':List Str):Gw:={Γ with g:={Γ.g with N:=N',sc:=yl scope Γ.g.sc,blk:=Z7,xc:=Z8,kp:=[]},xf:=Z8}
def QK:W->Bool
 |.nil=>Z7
 |_=>Z6
mutual
def cA:Gw->W->Expr->Bool
 |Γ,.aY c,e=>chkE Γ.g c e
 |Γ,.raw i,e=>iP (fB Γ.g i) e
 |Γ,.bin op a b,e=>(su e).any λv=>decide (v.2.1=op)&&yo op&&cA Γ a v.1&&cA Γ b v.2.2
 |Γ,.wX c a b,e=>(sx e).any λv=>qU Γ c v.1&&cA Γ a v.2.1&&cA Γ b v.2.2
 |Γ,.tup xs,e=>(mZ e).any λes=>lZ Γ xs es
 |Γ,.lst xs,e=>(sA e).any λes=>lZ Γ xs es
 |Γ,.hG,e=>(ym e).any λv=>v.1.isEmpty&&v.2.isEmpty
 |Γ,.ix a b,e=>(lB e).any λv=>z42 v.2&&cA Γ a v.1&&cA Γ b v.2
 |Γ,.len a,e=>(jK e).any λv=>(v.1==("len":Str))&&dH Γ.g v.1&&(bJ v.2).any λy=>!isStar y&&cA Γ a y
 |Γ,.get o k,e=>(nA e).any λv=>((v.2.1==("get":Str))&&z0v v.1&&v.2.2.2)&&cA Γ o v.1&&(bJ v.2.2.1).any λy=>!isStar y&&cA Γ k y
 |Γ,.bV o f,e=>(yn e).any λv=>(v.2.1==f)&&z0v v.1&&cA Γ o v.1
 |Γ,.cK j as,e=>(jK e).any λv=>pE Γ.g v.1&&(Γ.fn[j]?==Z9 (v.1,v.2.length))&&lZ Γ as v.2&&(Γ.g.cm&& !v.2.isEmpty)
 |Γ,.eC o j as,e=>Γ.g.cm&&(nA e).any λv=>(z0v v.1&&v.2.2.2&&decide (v.2.2.1.length<20))&&(Γ.me[j]?==Z9 (v.2.1,v.2.2.1.length))&&cA Γ o v.1&&lZ Γ as v.2.2.1
 |Γ,.mk j as,e=>(jK e).any λv=>pE Γ.g v.1&&(Γ.cl[j]?==Z9 (v.1,v.2.length))&&lZ Γ as v.2&&(Γ.g.cm&& !v.2.isEmpty)
 |Γ,.lv o,e=>Γ.g.cm&&(jK e).any λv=>(v.1==("list":Str))&&dH Γ.g v.1&&(bJ v.2).any λy=>(nA y).any λm=>((m.2.1==("values":Str))&&z0v m.1&&m.2.2.2)&&cA Γ o m.1&&m.2.2.1.isEmpty
 |Γ,.cnt o k,e=>(nA e).any λv=>((v.2.1==("count":Str))&&z0v v.1&&v.2.2.2)&&cA Γ o v.1&&(bJ v.2.2.1).any λy=>!isStar y&&cA Γ k y
 |Γ,.gi j,e=>iP (λx=>pE Γ.g x&&(Γ.gi[j]?==Z9 x)) e
 |Γ,.gf j,e=>iP (λx=>pE Γ.g x&&(Γ.hf[j]?.any λu=>u.1==x)) e
 |Γ,.oM i j as,e=>(jK e).any λv=>fB Γ.g i v.1&&(Γ.hf[j]?.any λu=>u.2==v.2.length)&&lZ Γ as v.2&&(Γ.g.cm&& !v.2.isEmpty)
 |Γ,.lc nt js N' t en it c x,e=>Γ.g.cm&&(A7 e).any λv=>(bJ v.2.1).any λg=>((g.is_async==0)&&oW Γ.g.N Γ.g.sc v.2.2 N' nt js&&decide N'.Nodup&&sr g.iter)&&(if en then isTup g.target&&(jK g.iter).any λu=>(u.1==("enumerate":Str))&&dH Γ.g u.1&&(bJ u.2).any λy=>!isStar y&&cA Γ it y else cA Γ it g.iter)&&qN (yX Γ v.2.2 N').g t g.target&&(match g.ifs with| []=>QK c| [y]=>qU (yX Γ v.2.2 N') c y|_=>Z6)&&cA (yX Γ v.2.2 N') x v.1
 |_,_,_=>Z6
def lZ:Gw->W->List Expr->Bool
 |Γ,.nil,es=>es.isEmpty
 |Γ,.cons a r,es=>match es with|e::es=>!isStar e&&cA Γ a e&&lZ Γ r es|_=>Z6
 |_,_,_=>Z6
def qU:Gw->W->Expr->Bool
 |Γ,.tp c,e=>eK Γ.g c e
 |Γ,.tc op a b,e=>(sv e).any λv=>decide (v.2.1=[op])&&(bJ v.2.2).any λr=>z2l op&& !(di op r)&&cA Γ a v.1&&cA Γ b r
 |Γ,.wY a,e=>plainT e&&cA Γ a e
 |Γ,.not a,e=>(vI e).any λv=>decide (v.1=.Not)&&qU Γ a v.2
 |_,_,_=>Z6
end
structure Zok (Γ:Gw)(Z:Wc)(CX:CXT)(P:bp)(w:World)(K:Z5)(mg:Str->Option Value)(base:Heap)(r:Nat):Prop where
 kk:Z.K=K
 mm:Z.mg=mg
 fn:∀(j:Nat) x n,Γ.fn[j]?=Z9 (x,n)->∃sp f fd ps k,Z.fn[j]?=Z9 sp/\k<=r/\FnOk P w K mg base CX k f fd ps sp/\mg x=Z9 (.ref f)/\Z3 K (.ref f)=Z7/\Binds K fd ps []
 me:∀(j:Nat) m n,Γ.me[j]?=Z9 (m,n)->∃C sp f fd ps k,Z.me[j]?=Z9 (C,m,sp)/\k<=r/\FnOk P w K mg base CX k f fd ps sp/\Cls K C/\Meth K C m f/\Binds K fd ps []
 cl:∀(j:Nat) x n,Γ.cl[j]?=Z9 (x,n)->∃C sp f fd ps k,Z.cl[j]?=Z9 (C,sp)/\k+1<=r/\FnOk P w K mg base CX k f fd ps sp/\Mk K C f/\mg x=Z9 (.ref C)/\Binds K fd ps []
 gi:∀(j:Nat) x,Γ.gi[j]?=Z9 x->∃n t,Z.gi[j]?=Z9 n/\mg x=Z9 (.int n t)
 hf:∀(j:Nat) x n,Γ.hf[j]?=Z9 (x,n)->∃sp f fd ps k,Z.hf[j]?=Z9 (f,sp)/\k<=r/\FnOk P w K mg base CX k f fd ps sp/\mg x=Z9 (.ref f)/\Z3 K (.ref f)=Z7/\Binds K fd ps []
 md:∀(j:Nat) m n,Γ.md[j]?=Z9 (m,n)->∃C sp f fd ps k,Z.md[j]?=Z9 (C,m,sp)/\k<=r/\FnOk P w K mg base CX k f fd ps sp/\Cls K C/\Meth K C m f/\Binds K fd ps [.none]
 mq:∀(j:Nat) m kn,Γ.mq[j]?=Z9 (m,kn)->∃C sp f fd ps k,Z.mq[j]?=Z9 (C,m,sp)/\k<=r/\FnOk P w K mg base CX k f fd ps sp/\Cls K C/\Meth K C m f/\rH K fd ps [kn] HJ HJ
structure l' (Γ:Gw)(Z:Wc)(CX:CXT)(X:Cx)(r:Nat):Prop extends Zok Γ Z CX X.prog X.w X.K X.mg X.base r where
 ck:Cok Γ.g Z.Κ Z.Φ X r
 room:Γ.g.cm=Z7->Room r X.A
 px:z2z CX X Z.E
 xf:∀f,Γ.xf=Z9 f->∃v,Z.xf=Z9 v/\∀n c,Γ.g.xc=Z9 (n,c)->∀p q,z0v (.Name n p)=Z7->PE X (.Attribute (.Name n p) f q) (λ_ H Q=>Q v H)
 HL:∀outer H s e s',¬CX outer H s (λ_ _ _=>False) e s'
section
variable {X:Cx}
theorem z90 {C:Addr}(v:PE X o y)(c:Cls X.K C)(hm:Meth X.K C m f)
  (n:z0v o=Z7) (p:(es.all λe=>!isStar e)=Z7) (z:es.length<20) (g:(k.endLine==b.line)=Z7)
  (go:∀d s j H Q a,Inv X d j H s->(t j H λvs B=>sp (.ref a::(vs++dvs)) B Q E)->wpAny (model X.prog X.w) X.A (callWith b (.ref f) [.ref a] (ik b (b7 es X.env)) (pb b (k8 [] X.env))) (EP X d j Q) X.xe s):
  PE X (.Call (.Attribute o m k) es [] b) (qJ C m sp dvs E y t):=by
 intro d s j H Q I h;rw[arm_eval_Call,mQ n];refine ae (aM (v d s j H _ I h) λu D ⟨x,F,r,G,a,dx,fs,ex,J,l,q⟩=>?_);subst ex;obtain rfl:u=ZT a:=G;refine ae (on ?_);have i:methodCallForm (es.length+([]:List kz).length) (ik b (b7 es X.env)) (pb b (k8 [] X.env))=true:=z3a p z;unfold methodCall;rw[i];refine ae (i6 (zal r J c hm l ?_));exact ae (wpAny_of_eq (by unfold methodCallPos;simp[g]) (go d D j F Q a r q))
variable {CX:CXT}{k:Nat}{f C:Addr}{fd:dv}{ps:List Str}{sp:Sp}{E:XK}{m:Str}{apos cpos:Pos}{o e:Expr}{es:List Expr}{ta:TE}{t:TA}
theorem zgv (l:PE X o ta)(c:Cls X.K C)(hm:Meth X.K C m f)(F:FnOk X.prog X.w X.K X.mg X.base CX k f fd ps sp)(hr:Room k X.A)(n:Binds X.K fd ps [])(p:z2z CX X E)(u:PA X (e::es) t)
  (h:z0v o=Z7) (b:((e::es).all λe=>!isStar e)=Z7) (v:(e::es).length<20) (d:(apos.endLine==cpos.line)=Z7):
  PE X (.Call (.Attribute o m apos) (e::es) [] cpos) (qJ C m sp [] E ta t):=
 z90 l c hm h b v d λg s x H Q a I q=>by rw[b9,aq]at b;refine W.callWith_K I.ok.mod.tX hm.kp (aM (u cpos g s x H _ I q) λz B ⟨i,D,j,r,y⟩=>⟨j.eJ,?_⟩) (dX (by simpa using b.1)) (lU b.2);exact z9b (vs:=.ref a::i) F hr n .nil p j (.cons rfl r) y
theorem zcx (g:PE X o ta)(c:Cls X.K C)(hm:Meth X.K C m f)(F:FnOk X.prog X.w X.K X.mg X.base CX k f fd ps sp)(hr:Room k X.A)(h:Binds X.K fd ps [])(i:z2z CX X E)
  (d:z0v o=Z7) (b:(apos.endLine==cpos.line)=Z7):
  PE X (.Call (.Attribute o m apos) [] [] cpos) (qJ C m sp [] E ta eQ):=
 z90 g c hm d rfl dc b λe s j H Q a I q=>W.callWith_K0 I.eJ hm.kp (z9b (vs:=[.ref a]) F hr h .nil i I (.cons rfl .nil) q)
end
section
variable {Γ:Gw}{Z:Wc}{CX:CXT}{X:Cx}{r:Nat}
structure We (w:W):Prop where
 E:∀(Γ:Gw) (Z:Wc) (CX:CXT) (X:Cx) (r:Nat) (e:Expr),l' Γ Z CX X r->cA Γ w e=Z7->PE X e (wE Z w)
 A:∀(Γ:Gw) (Z:Wc) (CX:CXT) (X:Cx) (r:Nat) (es:List Expr),l' Γ Z CX X r->lZ Γ w es=Z7->PA X es (wA Z w)
 T:∀(Γ:Gw) (Z:Wc) (CX:CXT) (X:Cx) (r:Nat) (e:Expr),l' Γ Z CX X r->qU Γ w e=Z7->PT X e (wT Z w)/\((∃o l p,e=.BoolOp o l p)->PW X e (wT Z w))
theorem We.x (h:∀Γ Z CX X r e,l' Γ Z CX X r->cA Γ w e=Z7->PE X e (wE Z w))(a:∀Γ es,lZ Γ w es=Z6)(b:∀Γ e,qU Γ w e=Z6):We w where
 E:=h
 A:=λΓ Z CX X r es k z=>ff (a Γ es) z
 T:=λΓ Z CX X r e k z=>ff (b Γ e) z
theorem We.t (h:∀Γ Z CX X r e,l' Γ Z CX X r->qU Γ w e=Z7->PT X e (wT Z w)/\((∃o l p,e=.BoolOp o l p)->PW X e (wT Z w)))(a:∀Γ e,cA Γ w e=Z6)(b:∀Γ es,lZ Γ w es=Z6):We w where
 E:=λΓ Z CX X r e k z=>ff (a Γ e) z
 A:=λΓ Z CX X r es k z=>ff (b Γ es) z
 T:=h
theorem zes {i:Nat}{g a}(hN:X.N[i]?=Z9 x)(m:Vis X.env.scope x)(hd:VB x)(b:(x==("__classdict__":Str))=Z6)(F:FnOk X.prog X.w X.K X.mg X.base CX k f fd ps sp)(n:Room k X.A)(hk:Z3 X.K (.ref f)=Z7)(o:Binds X.K fd ps g)(c:Vals a g)(y:z2z CX X E)
  (z:PA X (e::es) t) (B:b7 (e::es) X.env=(Z6,eval e X.env)::b7 es X.env) (d:(ik pos (b7 es X.env)).any (·.1)=Z6):
  PE X (.Call (.Name x p) (e::es) [] pos) (λσ H Q=>σ[i]?=Z9 (Z9 (.ref f))/\jX sp a E t σ H Q):=by
 intro pins s σ H Q I h;refine gp (aM (mM hN m hd b pins s σ H (λv H'=>v=.ref f/\jX sp a E t σ H' Q) I ⟨_,h.1,rfl,h.2⟩) λu s1 ⟨v,H1,j,r,C,h⟩=>?_);subst C;obtain rfl:u=ZT f:=r;refine W.callWith_K j.ok.mod.tX hk (aM (z pos pins s1 σ H1 _ j h) λus D ⟨vs,G,l,r,q⟩=>⟨l.eJ,?_⟩) B d;exact z9b F n o c y l r q
theorem wZ:∀{w:W} {es:List Expr},lZ Γ w es=Z7->(es.all λe=> !isStar e)=Z7
 |.nil,es,h=>by cases fM h;rfl
 |.cons a r,[],h=>by cases h
 |.cons a r,e::es,h=>by obtain⟨b,_,c⟩:=aT h;rw[b9,b,wZ c];rfl
theorem l'.rm (k:l' Γ Z CX X r)(a:Γ.g.cm=Z7)(h:j<=r):Room j X.A:=(k.room a).mono h
theorem eqB {c:Type} [BEq c] [LawfulBEq c] {a b:c}(h:(a==b)=Z7):a=b:=eq_of_beq h
theorem QL (h:((sv e).any λv=>decide (v.2.1=[c])&&(bJ v.2.2).any λr=>z2l c&& !(di c r)&&cA Γ a v.1&&cA Γ b r)=Z7):∃l r p,e=.Compare l [c] [r] p/\z2l c=Z7/\di c r=Z6/\cA Γ a l=Z7/\cA Γ b r=true:=by obtain⟨⟨l,o,rs⟩,g,i⟩:=aJ h;obtain⟨p,rfl⟩:=pP g;obtain⟨j,d⟩:=aD i;obtain⟨r,hr,f⟩:=aJ d;cases qj j;cases eR hr;obtain⟨d,f,k,m⟩:=bQ f;exact⟨l,r,p,rfl,d,cX f,k,m⟩
theorem CV (h:cA Γ (.eC o j as) e=Z7):Γ.g.cm=Z7/\∃b m a es c,e=.Call (.Attribute b m a) es [] c/\(a.endLine==c.line)=Z7/\z0v b=Z7/\es.length<20/\Γ.me[j]?=Z9 (m,es.length)/\cA Γ o b=Z7/\lZ Γ as es=true:=by obtain⟨d,h⟩:=aD h;obtain⟨⟨x,n,es,b⟩,f,i⟩:=aJ h;obtain⟨a,c,rfl,k⟩:=gA f;obtain⟨h0,l,p,q⟩:=bQ i;obtain⟨r,s,t⟩:=aT h0;exact⟨d,x,n,a,es,c,rfl,k.symm.trans s,r,qj t,eqB l,p,q⟩
theorem QM (b:z0v o=Z7)(a:(!isStar e)=Z7)(c:(d.endLine==f.line)=Z7):M1 X o m d e f:=⟨mQ b,z3a (by rw[b9,a];rfl) (show 1<20 by decide),c,by rw[dX (cX a)];rfl⟩
theorem w5 (G:We v)(Y:We c)(ie:We x):∀Γ Z CX X r e,l' Γ Z CX X r->cA Γ (.lc J L g t en v c x) e=Z7->PE X e (wE Z (.lc J L g t en v c x))/\∀{y:Str} {w d:Pos} {i:Nat},X.N.Nodup->X.N[i]?=Z9 y->Loc X.env.scope y->Sto X y->PS X (.Assign [.Name y w] e d) (jC (wE Z (.lc J L g t en v c x)) (rq i)):=by
 intro Γ Z CX X r e k h;obtain⟨m,h⟩:=aD h;obtain⟨⟨el,gs,a⟩,hv,o⟩:=aJ h;obtain⟨pos,rfl⟩:=wI hv;obtain⟨⟨M,p,q,ka⟩,hg,o⟩:=aJ o;cases eR hg;obtain⟨h0,j,h7,A,o⟩:=fD o;obtain⟨h1,h3,h5,O⟩:=bQ h0;cases qm h1;have B:=Fj k.ck.hN k.ck.hs h3;have P:=λC b s H=>k.ck.blk B.kind (qj h5) C b s H;have Q:∀C b s H,l' (yX Γ a g) {Z with E:=λ_ _ _=>False,xf:=Z8} CX (blk X a g C b s H) r:=λC b s H=>⟨⟨k.kk,k.mm,k.fn,k.me,k.cl,k.gi,k.hf,k.md,k.mq⟩,P C b s H,k.room,λR σ H s e s' I z=>(k.HL _ _ _ _ _ z).elim,λf z=>(by cases z),k.HL⟩
 have S:PI X M p (yW X.K en (wE Z v)):=by
  cases en with
  |false=>exact QI (G.E Γ Z CX X r _ k j)
  |true=>obtain⟨t1,j⟩:=aD j;obtain⟨⟨f,es⟩,hf,j⟩:=aJ j;obtain⟨_,_,rfl⟩:=jN hf;obtain⟨D,u2,u3⟩:=aT j;obtain⟨y,hy,u5⟩:=aJ u3;cases eR hy;obtain⟨u6,u4⟩:=aD u5;have D:=eqB D;subst D;obtain⟨_,_,_,rfl⟩:=Ck t1;obtain⟨g1,g2,g3,g4⟩:=k.ck.blt u2;exact QJ g2 g1 (cX u6) (G.E Γ Z CX X r _ k u4)
 have ht:∀C b s H,oX (blk X a g C b s H) q (wT {Z with E:=λ_ _ _=>False,xf:=Z8} c):=λC b s H=>by
  rcases q with _|⟨y,_|⟨z,l⟩⟩
  .have :c=.nil:=by cases c<;>first|rfl|cases A
   subst this;exact Fl
  .exact Fo (Y.T _ _ CX _ r _ (Q C b s H) A).1
  .cases A
 have u:∀C b s H,PG (blk X a g C b s H) M (tDG X.K t):=λC b s H=>uh (P C b s H) h7;have U:∀C b s H,PE (blk X a g C b s H) el (wE {Z with E:=λ_ _ _=>False,xf:=Z8} x):=λC b s H=>ie.E _ _ CX _ r _ (Q C b s H) o;have F:=z9q (pos:=pos) (k.ck.calm m) B S u ht U (ui O _);rw[<-k.kk]at F;refine⟨F,λ{y w d i} nd V l2 W=>?_⟩;cases hb:(X.env.blockKind==.function&&X.env.kindOf y==Z9 .local&&w.line==pos.line&& !(a.names.any λ(n,k)=>n==y&&(k==.local||k==.cell)))with
 |false=>exact z99 nd V l2 F (by rw[uj,hb]) W
 |true=>
  have hl:X.env.scope.names.lookup y=Z9 .local:=by simp at hb;exact hb.1.1.2
  have:=z5u (spos:=d) (k.ck.calm m) nd V hl W.2 B S u ht U (by rw[uj,hb]) (ui O _);rw[<-k.kk]at this;exact this
theorem dI (w:W):We w:=by
 induction w with
 |aY c=>exact We.x (λΓ Z CX X r e k h=>by show PE X e (tD Z.K (aE Z.Κ Z.Φ c));rw[k.kk];exact(all c).E Γ.g X r e k.ck h) (λ_ _=>rfl) λ_ _=>rfl
 |raw i=>exact We.x (λΓ Z CX X r e k h=>by obtain⟨x,p,rfl,h⟩:=iH h;obtain⟨h1,h2,h3,h4⟩:=k.ck.aO h;exact mM h1 h2 h3 h4) (λ_ _=>rfl) λ_ _=>rfl
 |bin op a b ia ib=>exact We.x (λΓ Z CX X r e k h=>by obtain⟨v,hv,h9⟩:=aJ h;obtain⟨p,rfl⟩:=GZ hv;obtain⟨h1,h2,h3,h4⟩:=bQ h9;cases qj h1;show PE X _ (lR (pJ Z.K (cM _)) _ _);rw[k.kk];exact EF (FD _ h2) (ia.E Γ Z CX X r _ k h3) (ib.E Γ Z CX X r _ k h4)) (λ_ _=>rfl) λ_ _=>rfl
 |wX c a b ic ia ib=>exact We.x (λΓ Z CX X r e k h=>by obtain⟨v,hv,h9⟩:=aJ h;obtain⟨p,rfl⟩:=G0 hv;obtain⟨h1,h2,h3⟩:=aT h9;exact Et (ic.T Γ Z CX X r _ k h1).1 (ia.E Γ Z CX X r _ k h2) (ib.E Γ Z CX X r _ k h3)) (λ_ _=>rfl) λ_ _=>rfl
 |tup xs ia=>exact We.x (λΓ Z CX X r e k h=>by obtain⟨v,hv,h9⟩:=aJ h;obtain⟨_,_,rfl⟩:=wF hv;exact As (ia.A Γ Z CX X r _ k h9)) (λ_ _=>rfl) λ_ _=>rfl
 |lst xs ia=>exact We.x (λΓ Z CX X r e k h=>by obtain⟨v,hv,h9⟩:=aJ h;obtain⟨_,rfl⟩:=G1 hv;exact EM (ia.A Γ Z CX X r _ k h9)) (λ_ _=>rfl) λ_ _=>rfl
 |hG=>exact We.x (λΓ Z CX X r e k h=>by obtain⟨⟨a,b⟩,hv,h9⟩:=aJ h;obtain⟨_,rfl⟩:=sT hv;obtain⟨h1,h2⟩:=aD h9;cases fM h1;cases fM h2;exact EY) (λ_ _=>rfl) λ_ _=>rfl
 |ix a b ia ib=>exact We.x (λΓ Z CX X r e k h=>by obtain⟨v,hv,h9⟩:=aJ h;obtain⟨_,rfl⟩:=wG hv;obtain⟨h1,h2,h3⟩:=aT h9;show PE X _ (lR (sJ Z.K) _ _);rw[k.kk];exact E9 (FP k.ck.hu) (ia.E Γ Z CX X r _ k h2) (ib.E Γ Z CX X r _ k h3) (FQ h1)) (λ_ _=>rfl) λ_ _=>rfl
 |len a ia=>exact We.x (λΓ Z CX X r e k h=>by obtain⟨⟨x,es⟩,hv,h9⟩:=aJ h;obtain⟨_,_,rfl⟩:=jN hv;obtain⟨h1,h2,h3⟩:=aT h9;obtain⟨y,hy,h4⟩:=aJ h3;cases eR hy;obtain⟨h4,h5⟩:=aD h4;have h1:x=("len":Str):=eqB h1;subst h1;obtain⟨g1,g2,g3,g4⟩:=k.ck.blt h2;show PE X _ (oU (z6p Z.K (iF "len")) _);rw[k.kk];exact yj FT g2 (show cr "len"=_ by decide+kernel) (dO (ia.E Γ Z CX X r _ k h5) kO (cX h4)) (by rw[b9,h4];rfl) g1 g4 g3) (λ_ _=>rfl) λ_ _=>rfl
 |get o y io iy=>exact We.x (λΓ Z CX X r e k h=>by obtain⟨⟨x,n,es,b⟩,hv,h9⟩:=aJ h;obtain⟨ap,cp,rfl,hb⟩:=gA hv;obtain⟨h0,h6,h7⟩:=aT h9;obtain⟨h1,h2,h3⟩:=aT h0;obtain⟨y,hy,h4⟩:=aJ h7;cases eR hy;obtain⟨h4,h5⟩:=aD h4;have h1:n=("get":Str):=eqB h1;subst h1;exact LB (j7 (n8 (by decide) _) k.ck.hu) (io.E Γ Z CX X r _ k h6) (iy.E Γ Z CX X r _ k h5) (QM h2 h4 (hb.symm.trans h3))) (λ_ _=>rfl) λ_ _=>rfl
 |bV o f io=>exact We.x (λΓ Z CX X r e k h=>by obtain⟨⟨x,n,p⟩,hv,h9⟩:=aJ h;cases sU hv;obtain⟨h1,h2,h3⟩:=aT h9;have h1:n=f:=eqB h1;subst h1;show PE X _ (rE Z.K _ _);rw[k.kk];exact Lm (io.E Γ Z CX X r _ k h3) (mQ h2)) (λ_ _=>rfl) λ_ _=>rfl
 |cK j as ia=>exact We.x (λΓ Z CX X r e k h=>by
  obtain⟨⟨x,es⟩,hv,h9⟩:=aJ h;obtain⟨_,_,rfl⟩:=jN hv;obtain⟨h1,h2,h3,h4⟩:=bQ h9;obtain⟨eN,h4⟩:=aD h4;obtain⟨y,es,rfl⟩:=sS h4;obtain⟨g1,g2⟩:=k.ck.gl h1;obtain⟨sp,f,fd,ps,n,c1,c2,c3,c4,c5,c6⟩:=k.fn j _ _ (eqB h2);obtain⟨s1,s2⟩:=b9.symm.trans (wZ h3) |> aw.mp;have ee:wE Z (.cK j as)=jX sp [] Z.E (wA Z as):=by show(match Z.fn[j]? with|some sp=>jX sp [] Z.E (wA Z as)|none=>gC)=_;rw[c1]
  rw[ee];exact zd7 c3 (k.rm eN c2) g1 c4 c5 c6 .nil k.px (ia.A Γ Z CX X r _ k h3) g2 (dX (cX s1)) (lU s2)) (λ_ _=>rfl) λ_ _=>rfl
 |eC o j as io ia=>exact We.x (λΓ Z CX X r e k h=>by
  obtain⟨eN,b,m,ap,es,cp,rfl,h1,h2,h3,h4,h5,h6⟩:=CV h;obtain⟨C,sp,f,fd,ps,n,c1,c2,c3,c4,c5,c6⟩:=k.me j _ _ h4;have ee:wE Z (.eC o j as)=qJ C m sp [] Z.E (wE Z o) (wA Z as):=by show(match Z.me[j]? with|some r=>qJ r.1 r.2.1 r.2.2 [] Z.E (wE Z o) (wA Z as)|none=>gC)=_;rw[c1]
  rw[ee];have ho:=io.E Γ Z CX X r _ k h5;have ha:=ia.A Γ Z CX X r _ k h6;have hs:=wZ h6;cases es with
  |nil=>
   refine PE.imp (zcx ho c4 c5 c3 (k.rm eN c2) c6 k.px h2 h1) λσ H Q q=>?_;have:wA Z as=eQ:=by cases as<;>first|rfl|(cases h6;done)
   rw[this]at q;exact q
  |cons y es=>exact zgv ho c4 c5 c3 (k.rm eN c2) c6 k.px ha h2 hs h3 h1) (λ_ _=>rfl) λ_ _=>rfl
 |mk j as ia=>exact We.x (λΓ Z CX X r e k h=>by
  obtain⟨⟨x,es⟩,hv,h9⟩:=aJ h;obtain⟨_,_,rfl⟩:=jN hv;obtain⟨h1,h2,h3,h4⟩:=bQ h9;obtain⟨eN,h4⟩:=aD h4;obtain⟨y,es,rfl⟩:=sS h4;obtain⟨g1,g2⟩:=k.ck.gl h1;obtain⟨C,sp,f,fd,ps,n,c1,c2,c3,c4,c5,c6⟩:=k.cl j _ _ (eqB h2);obtain⟨s1,s2⟩:=b9.symm.trans (wZ h3) |> aw.mp;have ee:wE Z (.mk j as)=tZ C sp [] Z.E (wA Z as):=by show(match Z.cl[j]? with|some r=>tZ r.1 r.2 [] Z.E (wA Z as)|none=>gC)=_;rw[c1]
  rw[ee];exact zl1 c4 c3 ((k.room eN).mono c2) g1 c5 c6 .nil k.px (ia.A Γ Z CX X r _ k h3) g2 (dX (cX s1)) (lU s2)) (λ_ _=>rfl) λ_ _=>rfl
 |tp c=>exact We.t (λΓ Z CX X r e k h=>by show PT X e (dS Z.K (dR Z.Κ Z.Φ c))/\(_->PW X e (dS Z.K (dR Z.Κ Z.Φ c)));rw[k.kk];exact(all c).T Γ.g X r e k.ck h) (λ_ _=>rfl) λ_ _=>rfl
 |tc op a b ia ib=>exact We.t (λΓ Z CX X r e k h=>by obtain⟨_,_,_,rfl,h2,h3,h4,h5⟩:=QL h;refine⟨?_,λ⟨_,_,_,z⟩=>by cases z⟩;show PT X _ (vc (lR (lX Z.K (mB (cmpD _))) _ _));rw[k.kk];exact EG (sI k.ck.hu _ h2) (ia.E Γ Z CX X r _ k h4) (ib.E Γ Z CX X r _ k h5) h3) (λ_ _=>rfl) λ_ _=>rfl
 |wY a ia=>exact We.t (λΓ Z CX X r e k h=>by have h:(plainT e&&cA Γ a e)=true:=h;obtain⟨h1,h2⟩:=aD h;refine⟨?_,λ⟨_,_,_,z⟩=>by subst z;cases h1⟩;show PT X _ (HK Z.K _);rw[k.kk];exact z8r (ia.E Γ Z CX X r _ k h2) (G2 h1 _)) (λ_ _=>rfl) λ_ _=>rfl
 |not a ia=>exact We.t (λΓ Z CX X r e k h=>by obtain⟨⟨o,x⟩,hv,h9⟩:=aJ h;obtain⟨p,rfl⟩:=pO hv;obtain⟨h1,h2⟩:=aD h9;cases qj h1;exact⟨Ep (ia.T Γ Z CX X r _ k h2).1,λ⟨_,_,_,z⟩=>by cases z⟩) (λ_ _=>rfl) λ_ _=>rfl
 |lv o io=>exact We.x (λΓ Z CX X r e k h=>by obtain⟨eN,h⟩:=aD h;obtain⟨⟨x,es⟩,hv,h9⟩:=aJ h;obtain⟨_,_,rfl⟩:=jN hv;obtain⟨h1,h2,h3⟩:=aT h9;obtain⟨y,hy,h4⟩:=aJ h3;cases eR hy;obtain⟨⟨b,n,es,l⟩,hm,h8⟩:=aJ h4;obtain⟨ap,cp,rfl,hb⟩:=gA hm;obtain⟨h0,h6,h7⟩:=aT h8;obtain⟨h5,QN,QO⟩:=aT h0;cases fM h7;have h5:n=("values":Str):=eqB h5;subst h5;have h1:x=("list":Str):=eqB h1;subst h1;obtain⟨g1,g2,g3,g4⟩:=k.ck.blt h2;show PE X _ (oU yV (mP (rM Z.K "dict" yU _) eQ));rw[k.kk];exact yk (QG (k.ck.calm eN)) g2 (show cr "list"=_ by decide+kernel) (dO (zdu PySem.F.plainAttrs_dict PySem.F.slot_dict_values PySem.F.type_dict_values QF (io.E Γ Z CX X r _ k h6) (mQ QN) (hb.symm.trans QO)) kO rfl) rfl g1 g4 g3) (λ_ _=>rfl) λ_ _=>rfl
 |cnt o y io iy=>exact We.x (λΓ Z CX X r e k h=>by obtain⟨⟨x,n,es,b⟩,hv,h9⟩:=aJ h;obtain⟨ap,cp,rfl,hb⟩:=gA hv;obtain⟨h0,h6,h7⟩:=aT h9;obtain⟨h1,h2,h3⟩:=aT h0;obtain⟨y,hy,h4⟩:=aJ h7;cases eR hy;obtain⟨h4,h5⟩:=aD h4;have h1:n=("count":Str):=eqB h1;subst h1;show PE X _ (vy Z.K "list" pW _ _);rw[k.kk];exact za9 PySem.F.plainAttrs_list PySem.F.slot_list_count PySem.F.type_list_count QH (io.E Γ Z CX X r _ k h6) (dO (iy.E Γ Z CX X r _ k h5) kO (cX h4)) (mQ h2) (z3a (by rw[b9,h4];rfl) (show 1<20 by decide)) (hb.symm.trans h3) (dX (cX h4)) (lU rfl)) (λ_ _=>rfl) λ_ _=>rfl
 |gi j=>exact We.x (λΓ Z CX X r e k h=>by
  obtain⟨x,p,rfl,h1⟩:=iH h;obtain⟨h2,h3⟩:=aD h1;obtain⟨g1,g2⟩:=k.ck.gl h2;obtain⟨n,t,e1,e2⟩:=k.gi j x (eqB h3);have ee:wE Z (.gi j)=λ_ H Q=>Q (.int n) H:=by show(match Z.gi[j]? with|some n=>(λ_ H Q=>Q (.int n) H:TE)|none=>gC)=_;rw[e1]
  rw[ee];exact λpins s σ H Q I h=>z4b I g1 e2 ⟨.int n,H,I,⟨t,rfl⟩,h⟩ g2) (λ_ _=>rfl) λ_ _=>rfl
 |gf j=>exact We.x (λΓ Z CX X r e k h=>by
  obtain⟨x,p,rfl,h1⟩:=iH h;obtain⟨h2,h3⟩:=aD h1;obtain⟨g1,g2⟩:=k.ck.gl h2;obtain⟨u,hu,h4⟩:=aJ h3;obtain⟨sp,f,fd,ps,n,c1,c2,c3,c4,c5⟩:=k.hf j u.1 u.2 hu;cases qm h4;have ee:wE Z (.gf j)=λ_ H Q=>Q (V.ref f) H:=by show(match Z.hf[j]? with|some r=>(λ_ H Q=>Q (.ref r.1) H:TE)|none=>gC)=_;rw[c1]
  rw[ee];exact λpins s σ H Q I h=>z4b I g1 c4 ⟨.ref f,H,I,rfl,h⟩ g2) (λ_ _=>rfl) λ_ _=>rfl
 |oM i j as ia=>exact We.x (λΓ Z CX X r e k h=>by
  obtain⟨⟨x,es⟩,hv,h9⟩:=aJ h;obtain⟨_,_,rfl⟩:=jN hv;obtain⟨h1,h2,h3,h4⟩:=bQ h9;obtain⟨eN,h4⟩:=aD h4;obtain⟨y,es,rfl⟩:=sS h4;obtain⟨v1,v2,v3,v4⟩:=k.ck.aO h1;obtain⟨u,hu,h5⟩:=aJ h2;obtain⟨sp,f,fd,ps,n,c1,c2,c3,c4,c5,c6⟩:=k.hf j u.1 u.2 hu;obtain⟨s1,s2⟩:=b9.symm.trans (wZ h3) |> aw.mp;have ee:wE Z (.oM i j as)=λσ H Q=>σ[i]?=Z9 (Z9 (V.ref f))/\jX sp [] Z.E (wA Z as) σ H Q:=by show(match Z.hf[j]? with|some r=>(λσ H Q=>σ[i]?=Z9 (Z9 (V.ref r.1))/\jX r.2 [] Z.E (wA Z as) σ H Q:TE)|none=>gC)=_;rw[c1]
  rw[ee];exact zes v1 v2 v3 v4 c3 (k.rm eN c2) c5 c6 .nil k.px (ia.A Γ Z CX X r _ k h3) (dX (cX s1)) (lU s2)) (λ_ _=>rfl) λ_ _=>rfl
 |lc nt js N' t en it c x ii ic ie=>exact We.x (λΓ Z CX X r e k h=>(w5 ii ic ie Γ Z CX X r e k h).1) (λ_ _=>rfl) λ_ _=>rfl
 |nil=>exact⟨λ_ _ _ _ _ _ _ h=>ff rfl h,λΓ Z CX X r es k h=>by cases fM h;exact kO,λ_ _ _ _ _ _ _ h=>ff rfl h⟩
 |cons a q ia iq=>exact⟨λ_ _ _ _ _ _ _ h=>ff rfl h,λΓ Z CX X r es k h=>by
  cases es with
  |nil=>cases h
  |cons e es=>obtain⟨h1,h2,h3⟩:=aT h;exact dO (ia.E Γ Z CX X r _ k h2) (iq.A Γ Z CX X r _ k h3) (cX h1),λ_ _ _ _ _ _ _ h=>ff rfl h⟩
end
theorem QP (outer:List Env)(H:Hp)(s:au)(e:Value)(a:au):¬CXE P w base outer H s (λ_ _ _=>False) e a:=λz=>z
section
open Builtin
open Builtin.ObjectAttr
end
def CW (_:Cx)(_:XK):Prop:=True
inductive WS where
 |nil|seq (a b:WS)|asg (i:Nat) (e:W)|fld (o:W) (f:Str) (e:W)|put (o k v:W)|exp (e:W)|app (o v:W)|ret (e:W)|aX (c:W) (a b:WS)|w6 (c:W) (b:WS)|bH (t:Tg) (it:C) (b:WS)|pX (s:S)|nO (t:Tg) (it:W) (b:WS)
 deriving Inhabited
def xa:W->Bool
 |.aY c=>!lC c
 |.lc _ _ _ _ _ _ _ _=>Z7
 |_=>Z6
theorem QQ (k:Cok f Κ Φ X r)(F:jI f i x=Z7)(hn:lC c=Z6)(a:chkE f c v=Z7):PS X (.Assign [.Name x px] v pos) (jC (tD X.K (aE Κ Φ c)) (rq i)):=by
 obtain⟨h,o,j⟩:=k.loc F;have nd:X.N.Nodup:=k.hN▸k.nd;cases u:z1u v with
 |false=>exact rR nd h o ((all c).E f X r _ k a) u j
 |true=>
  cases v<;>first|(cases u;done)|skip
  .rename_i M O s p;cases g:(X.env.blockKind==.function&&X.env.kindOf x==Z9 .local&&px.line==p.line&& !(s.names.any λ(n,k)=>n==x&&(k==.local||k==.cell)))with
   |false=>exact z99 nd h o ((all c).E f X r _ k a) (by rw[uj,g]) j
   |true=>
    obtain⟨P,Q,R,S,it,b,l,rfl⟩:=G8 hn a;obtain⟨G,t,T,I,m,w,e,y,h0,z,A,B,C,hs,d⟩:=sC (all it) (all b) (all l) k a;cases e;have J:X.env.scope.names.lookup x=Z9 .local:=by simp at g;exact g.1.1.2
    exact PS.imp (z5u (k.calm d) nd h J j.2 y z A B C (by rw[uj,g]) hs) λD L H q=>(zb2 (pos:=p) (k.calm d) y h0 z A B C hs).2 L H _ q
  .exact(G9 a).elim
  .exact(G' a).elim
def rz:WS->Bool
 |.seq a b=>rz a||rz b
 |.aX _ a b=>rz a||rz b
 |.w6 _ _=>Z7
 |.bH _ _ _=>Z7
 |.nO _ _ _=>Z7
 |.pX _=>Z7
 |_=>Z6
mutual
def wS:Wc->WS->TS
 |_,.nil=>Eu
 |Z,.seq a b=>uV (wS Z a) (wS Z b)
 |Z,.asg i e=>jC (wE Z e) (rq i)
 |Z,.fld o f e=>rF Z.K (wE Z o) (wE Z e) f
 |Z,.put o k v=>vW (wE Z o) (wE Z k) (wE Z v)
 |Z,.exp e=>uW (wE Z e)
 |Z,.app o v=>uW (vy Z.K "list" yf (wE Z o) (mP (wE Z v) eQ))
 |Z,.ret e=>uX (wE Z e)
 |Z,.aX c a b=>uY (wT Z c) (wS Z a) (wS Z b)
 |Z,.w6 c b=>EB (wT Z c) (wS Z b)
 |Z,.bH t it b=>jD (tDW Z.K (evW Z.Κ Z.Φ it)) (tDG Z.K t) (wS Z b)
 |Z,.pX s=>tDS Z.K (aH Z.Κ Z.Φ s)
 |Z,.nO t it b=>jD (vb Z.K (wE Z it)) (tDG Z.K t) (wS Z b)
end
mutual
def CY:Gw->WS->Stmt->Bool
 |Γ,.asg i e,s=>(sG s).any λu=>(bJ u.1).any λx=>qN Γ.g (.nm i) x&&(!z1u u.2||xa e)&&cA Γ e u.2
 |Γ,.fld o f e,s=>(sG s).any λu=>(bJ u.1).any λx=>(yn x).any λv=>(v.2.1==f)&& !z1u u.2&&cA Γ o v.1&&cA Γ e u.2
 |Γ,.put o k v,s=>(sG s).any λu=>(bJ u.1).any λx=>(lB x).any λw=>!z1u u.2&&cA Γ o w.1&&cA Γ k w.2&&cA Γ v u.2
 |Γ,.exp e,s=>(vP s).any λv=>!z1u v&&cA Γ e v
 |Γ,.app o e,s=>(vP s).any λc=>(nA c).any λv=>((v.2.1==("append":Str))&&z0v v.1&&v.2.2.2)&&cA Γ o v.1&&(bJ v.2.2.1).any λy=>!isStar y&&cA Γ e y
 |Γ,.ret e,s=>(Bb s).any λo=>o.any λv=>cA Γ e v
 |Γ,.aX c a b,s=>(Bc s).any λv=>qU Γ c v.1&&wkL Γ a v.2.1&&wkL Γ b v.2.2
 |Γ,.w6 c b,s=>(Bd s).any λv=>qU Γ c v.1&&wkL Γ b v.2.1&&v.2.2.isEmpty
 |Γ,.bH t it b,s=>Γ.g.cm&&(yq s).any λv=>(qN Γ.g t v.1&&yp it v.1&&sr v.2.1)&&jL Γ.g it v.2.1&&wkL Γ b v.2.2.1&&v.2.2.2.isEmpty
 |Γ,.pX x,s=>pH Γ.g x s
 |Γ,.nO t it b,s=>Γ.g.cm&&(yq s).any λv=>(qN Γ.g t v.1&&sr v.2.1)&&cA Γ it v.2.1&&wkL Γ b v.2.2.1&&v.2.2.2.isEmpty
 |_,_,_=>Z6
def wkL:Gw->WS->List Stmt->Bool
 |_,.nil,l=>l.isEmpty
 |Γ,.seq a b,l=>match l with|s::l=>CY Γ a s&&wkL Γ b l|_=>Z6
 |_,_,_=>Z6
end
def CZ (_:Gw)(_:Cx)(_:Nat):Prop:=True
structure Wz (s:WS):Prop where
 R:∀(Γ:Gw) (Z:Wc) (X:Cx) (r:Nat) (st:Stmt),l' Γ Z (CXE X.prog X.w X.base) X r->CZ Γ X r->(rz s=Z7->fy (model X.prog X.w) X.A X.env X.xe)->(rz s=Z7->CW X Z.E)->CY Γ s st=Z7->PS X st (wS Z s)
 L:∀(Γ:Gw) (Z:Wc) (X:Cx) (r:Nat) (st:List Stmt),l' Γ Z (CXE X.prog X.w X.base) X r->CZ Γ X r->(rz s=Z7->fy (model X.prog X.w) X.A X.env X.xe)->(rz s=Z7->CW X Z.E)->wkL Γ s st=Z7->PSs X st (wS Z s)
theorem Wz.x (h:∀Γ Z X r st,l' Γ Z (CXE X.prog X.w X.base) X r->CZ Γ X r->(rz s=Z7->fy (model X.prog X.w) X.A X.env X.xe)->(rz s=Z7->CW X Z.E)->CY Γ s st=Z7->PS X st (wS Z s))(a:∀Γ st,wkL Γ s st=Z6):Wz s:=⟨h,λΓ Z X r st k b c d z=>ff (a Γ st) z⟩
theorem pY (h:a=Z7):(a||b)=true:=by rw[h];rfl
theorem pZ (h:b=Z7):(a||b)=true:=by rw[h,Bool.or_true]
theorem QR (s:WS):Wz s:=by
 induction s with
 |nil=>exact⟨λ_ _ _ _ _ _ _ _ _ h=>ff rfl h,λΓ Z X r st k kx hp hr h=>by cases fM h;exact Ew⟩
 |seq a b ia ib=>exact⟨λ_ _ _ _ _ _ _ _ _ h=>ff rfl h,λΓ Z X r st k kx hp hr h=>by
  cases st with
  |nil=>cases h
  |cons s st=>obtain⟨h1,h2⟩:=aD h;exact Ey (ia.R Γ Z X r _ k kx (λz=>hp (pY z)) (λz=>hr (pY z)) h1) (ib.L Γ Z X r _ k kx (λz=>hp (pZ z)) (λz=>hr (pZ z)) h2)⟩
 |asg i e=>exact Wz.x (λΓ Z X r st k kx hp hr h=>by
  obtain⟨⟨ts,v⟩,hv,h9⟩:=aJ h;obtain⟨p,rfl⟩:=lG hv;obtain⟨x,hx,h8⟩:=aJ h9;cases eR hx;obtain⟨h1,h2,h3⟩:=aT h8;obtain⟨y,q,rfl,h5⟩:=iH h1;obtain⟨l1,l2,l3⟩:=k.ck.loc h5;cases hc:z1u v with
  |false=>exact rR (by rw[k.ck.hN];exact k.ck.nd) l1 l2 ((dI e).E Γ Z _ X r _ k h3) hc l3
  |true=>
   have h2:(!z1u v||xa e)=true:=h2;rw[hc]at h2;cases e<;>first|(cases h2;done)|skip
   .rename_i c QS;have hn:lC c=false:=cX h2;show PS X _ (jC (tD Z.K (aE Z.Κ Z.Φ c)) (rq i));rw[k.kk];exact QQ k.ck h5 hn h3
   .exact(w5 (dI _) (dI _) (dI _) Γ Z _ X r _ k h3).2 (by rw[k.ck.hN];exact k.ck.nd) l1 l2 l3) (λ_ _=>rfl)
 |fld o f e=>exact Wz.x (λΓ Z X r st k kx hp hr h=>by obtain⟨⟨ts,v⟩,hv,h9⟩:=aJ h;obtain⟨p,rfl⟩:=lG hv;obtain⟨x,hx,h8⟩:=aJ h9;cases eR hx;obtain⟨⟨o',f',p'⟩,ho,h7⟩:=aJ h8;cases sU ho;obtain⟨h1,h2,h3,h4⟩:=bQ h7;have h1:f'=f:=eqB h1;subst h1;show PS X _ (rF Z.K _ _ _);rw[k.kk];exact Ln ((dI o).E Γ Z _ X r _ k h3) ((dI e).E Γ Z _ X r _ k h4) (rQ (cX h2) _ _ _)) (λ_ _=>rfl)
 |put o y v=>exact Wz.x (λΓ Z X r st k kx hp hr h=>by obtain⟨⟨ts,v⟩,hv,h9⟩:=aJ h;obtain⟨p,rfl⟩:=lG hv;obtain⟨x,hx,h8⟩:=aJ h9;cases eR hx;obtain⟨w,ho,h7⟩:=aJ h8;obtain⟨_,rfl⟩:=wG ho;obtain⟨h1,h2,h3,h4⟩:=bQ h7;exact Gr (j7 (n8 (by decide) _) k.ck.hu) ((dI o).E Γ Z _ X r _ k h2) ((dI y).E Γ Z _ X r _ k h3) ((dI _).E Γ Z _ X r _ k h4) (rQ (cX h1) _ _ _)) (λ_ _=>rfl)
 |exp e=>exact Wz.x (λΓ Z X r st k kx hp hr h=>by obtain⟨v,hv,h9⟩:=aJ h;obtain⟨p,rfl⟩:=pR hv;obtain⟨h1,h2⟩:=aD h9;exact oY ((dI e).E Γ Z _ X r _ k h2) (cX h1)) (λ_ _=>rfl)
 |app o e=>exact Wz.x (λΓ Z X r st k kx hp hr h=>by obtain⟨c,hv,h9⟩:=aJ h;obtain⟨p,rfl⟩:=pR hv;obtain⟨⟨x,n,es,b⟩,hm,h8⟩:=aJ h9;obtain⟨ap,cp,rfl,hb⟩:=gA hm;obtain⟨h0,h6,h7⟩:=aT h8;obtain⟨h1,h2,h3⟩:=aT h0;obtain⟨y,hy,h4⟩:=aJ h7;cases eR hy;obtain⟨h4,h5⟩:=aD h4;have h1:n=("append":Str):=eqB h1;subst h1;show PS X _ (uW (vy Z.K "list" yf _ _));rw[k.kk];exact oY (za9 PySem.F.plainAttrs_list PySem.F.slot_list_append PySem.F.type_list_append yg ((dI o).E Γ Z _ X r _ k h6) (dO ((dI e).E Γ Z _ X r _ k h5) kO (cX h4)) (mQ h2) (z3a (by rw[b9,h4];rfl) (show 1<20 by decide)) (hb.symm.trans h3) (dX (cX h4)) (lU rfl)) rfl) (λ_ _=>rfl)
 |ret e=>exact Wz.x (λΓ Z X r st k kx hp hr h=>by obtain⟨o,hv,h9⟩:=aJ h;obtain⟨p,rfl⟩:=wL hv;obtain⟨v,rfl,h8⟩:=aJ h9;exact Af ((dI e).E Γ Z _ X r _ k h8)) (λ_ _=>rfl)
 |aX c a b ia ib=>exact Wz.x (λΓ Z X r st k kx hp hr h=>by obtain⟨v,hv,h9⟩:=aJ h;obtain⟨p,rfl⟩:=wM hv;obtain⟨h1,h2,h3⟩:=aT h9;exact Ez ((dI c).T Γ Z _ X r _ k h1).1 (ia.L Γ Z X r _ k kx (λz=>hp (pY z)) (λz=>hr (pY z)) h2) (ib.L Γ Z X r _ k kx (λz=>hp (pZ z)) (λz=>hr (pZ z)) h3)) (λ_ _=>rfl)
 |w6 c b ib=>exact Wz.x (λΓ Z X r st k kx hp hr h=>by obtain⟨⟨t,B,o⟩,hv,h9⟩:=aJ h;obtain⟨p,rfl⟩:=wN hv;obtain⟨h1,h2,h3⟩:=aT h9;cases fM h3;exact EC (hp rfl) ((dI c).T Γ Z _ X r _ k h1).1 (ib.L Γ Z X r _ k kx (λ_=>hp rfl) (λ_=>hr rfl) h2)) (λ_ _=>rfl)
 |bH t it b ib=>exact Wz.x (λΓ Z X r st k kx hp hr h=>by obtain⟨eN,h⟩:=aD h;obtain⟨⟨t',i,B,o⟩,hv,h9⟩:=aJ h;obtain⟨p,rfl⟩:=sW hv;obtain⟨h1,h2,h3,h4⟩:=bQ h9;obtain⟨h5,h6,h7⟩:=aT h1;cases fM h4;show PS X _ (jD (tDW Z.K _) (tDG Z.K _) _);rw[k.kk];exact zc0 (hp rfl) (k.ck.calm eN) ((all it).W Γ.g X r _ _ k.ck h6 h2) (uh k.ck h5) (ib.L Γ Z X r _ k kx (λ_=>hp rfl) (λ_=>hr rfl) h3) (ui h7 _)) (λ_ _=>rfl)
 |pX s=>exact Wz.x (λΓ Z X r st k kx hp hr h=>by show PS X _ (tDS Z.K _);rw[k.kk];exact(Ha s).R Γ.g X r st k.ck (hp rfl) h) (λ_ _=>rfl)
 |nO t it b ib=>exact Wz.x (λΓ Z X r st k kx hp hr h=>by obtain⟨eN,h⟩:=aD h;obtain⟨⟨t',i,B,o⟩,hv,h9⟩:=aJ h;obtain⟨p,rfl⟩:=sW hv;obtain⟨h1,h2,h3,h4⟩:=bQ h9;obtain⟨h5,h7⟩:=aD h1;cases fM h4;show PS X _ (jD (vb Z.K _) (tDG Z.K _) _);rw[k.kk];exact zc0 (hp rfl) (k.ck.calm eN) (KO ((dI it).E Γ Z _ X r _ k h2)) (uh k.ck h5) (ib.L Γ Z X r _ k kx (λ_=>hp rfl) (λ_=>hr rfl) h3) (ui h7 _)) (λ_ _=>rfl)
section
variable {P:bp}{w:World}{K:Z5}{mg:Str->Option Value}{base:Heap}
theorem ztt {Z:Wc}{st:Stmt}(Fu:∃dV oc od kV doc pm an cdv ct osl,fd=W.fnOf x qual (z1d st) (z0n st) (z0a st) dV kV doc pm an cdv ct/\K.lookup f=Z9 ⟨oc,od,.func fd,osl⟩/\W.codeIn K cdv qual=Z7)(Sc:FnScope Γ.g.N ps (z0a st))(hs:Γ.g.sc=z0a st)(hxc:Γ.g.xc=Z8)(dk:Dok Γ.g Z.Κ Z.Φ P w K mg base k)(zk:∀E,Zok Γ {Z with E:=E} (CXE P w base) P w K mg base k)(hxf:Γ.xf=Z8)(hc:wkL Γ s (z0n st)=Z7)
  (len:∀vs H Q E,sp vs H Q E->vs.length=ps.length) (run:∀vs H Q E,sp vs H Q E->wS {Z with E:=E} s {nx:=λ_ H'=>Q .non H',rt:=Q} (start Γ.g.N vs) H):
  FnOk P w K mg base (CXE P w base) (k+1) f fd ps sp:=by
 obtain⟨dV,oc,od,kV,doc,pm,an,cdv,ct,osl,rfl,lk,hcd⟩:=Fu;exact zop lk hcd Sc len λA outer s1 H vs Q E hr rN=>⟨_,(QR s).L Γ {Z with E:=E} (jE (CXE P w base) P w K mg base Γ.g.N qual (z0a st) f cdv A outer s1 H E) k _ ⟨zk E,⟨rfl,hs.symm,Sc.nd,λ_ _=>rfl,by rw[hs];exact Sc.kind,dk.free,dk.fns,dk.cst,λ_=>hr,λ_=>rfl,hr.units,λ_=>⟨rfl,rfl⟩,λ_ _ _ z=>(by cases z),hxc⟩,λ_=>hr,λ_ _ _ _ _ _ _ zz=>zz.elim,(λf z=>by have z:Γ.xf=Z9 f:=z;rw[hxf]at z;cases z),QP⟩ trivial (λ_=>PassesOwn.leaving) (λ_=>trivial) hc,run vs H Q E rN⟩
theorem w_fn {Z:Wc}{st:Stmt}(Fu:Fun K x qual st f fd)(Sc:FnScope Γ.g.N ps (z0a st))(hs:Γ.g.sc=z0a st)(hxc:Γ.g.xc=Z8)(dk:Dok Γ.g Z.Κ Z.Φ P w K mg base k)(zk:∀E,Zok Γ {Z with E:=E} (CXE P w base) P w K mg base k)(hxf:Γ.xf=Z8)(hc:wkL Γ s (z0n st)=Z7)
 (len:∀vs H Q E,sp vs H Q E->vs.length=ps.length) (run:∀vs H Q E,sp vs H Q E->wS {Z with E:=E} s {nx:=λ_ H'=>Q .non H',rt:=Q} (start Γ.g.N vs) H):
 FnOk P w K mg base (CXE P w base) (k+1) f fd ps sp:=ztt ⟨_,Fu.ex⟩ Sc hs hxc dk zk hxf hc len run
end
abbrev aK:Ad->Prop:=λ_=>True
abbrev F0 (H:Hp):Fm:=⟨H,λ_=>True,λ_=>Z8,True⟩
section
variable {K:Z5}{H H':Hp}
theorem Rep.old (r:Rep K H B v d):Rep K H (fX (F0 H)) v d:=(Rep.there _ r).weak λa h=>by
 cases a with
 |none=>exact trivial
 |some a=>exact⟨λz=>h.2 z,trivial⟩
theorem qo (f:b.length=c.length)(h:∀(i:Nat) g (d:D),c[i]?=Z9 (Z9 (g,d))->g=G.od/\∃v B,b[i]?=Z9 (Z9 v)/\Rep K H B v d):StOk K (F0 H) H b c where
 ext:=Same.refl H
 aO:=λ_ _=>trivial
 own:=λa i e=>by cases e
 len:=f
 sl:=λi g d e=>by obtain⟨rfl,v,B,j,r⟩:=h i g d e;exact⟨v,j,r.old⟩
def yY:D->Bool
 |.str _=>Z7
 |_=>Z6
end
section
variable {Z:Wc}{H:Hp}{σ:L2.St}{CC x dx d:Addr}{kvs:List (Key×V)}{es:dF}
theorem QT {x:V}{dx:D}(c:Rep Z.K H B x dx)(d:Rep Z.K H e y (.dict es))(f:jY dx=Z7)(q:∀a,Same H a->Q (.bl (eV es dx).isSome) a):lX Z.K (mB (cmpD .In)) x y H Q:=⟨B,e,dx,.dict es,.bool (eV es dx).isSome,c,d,by show((if jY dx=Z7 then Res.ok (eV es dx).isSome else Res.no)>>=λb=>Res.ok (ZV b))=_;rw[qe f];rfl,λw a s r=>by cases r;exact q a s⟩
theorem QU (h:a[i]?=Z9 (Z9 (.od,c))):aE Κ Φ (.dP (.var i) ["str"]) a=.ok (.fr,.bool (yY c)):=by show(rY a[i]?>>=λx=>Res.ok (G.fr,ZV (["str"].any λT=>jG (hZ x.2) T)))=_;rw[h];cases c<;>rfl
theorem uz {C:Addr}(h:Z.me[j]?=Z9 (C,m,a)):wE Z (.eC o j as)=qJ C m a [] Z.E (wE Z o) (wA Z as):=by show(match Z.me[j]? with|some r=>qJ r.1 r.2.1 r.2.2 [] Z.E (wE Z o) (wA Z as)|none=>gC)=_;rw[h]
end
namespace Rd
abbrev PL:W:=.bV (.raw 0) "place"
abbrev WD:W:=.bV (.raw 0) "words"
abbrev KD:W:=.bV (.raw 0) "kinds"
abbrev SD:W:=.bV (.raw 0) "said"
abbrev RN:WS:=.seq (.pX .bad) .nil
def init:WS:=.seq (.fld (.raw 0) "number" (.raw 1)) (.seq (.fld (.raw 0) "words" (.aY (.jF (.var 2) (.str " ")))) (.seq (.fld (.raw 0) "place" (.aY (.int 0))) (.seq (.fld (.raw 0) "kinds" (.raw 3)) (.seq (.fld (.raw 0) "said" (.lst .nil)) .nil))))
def peek:WS:=.seq (.ret (.wX (.tc .Lt PL (.len WD)) (.ix WD PL) (.aY (.str "")))) .nil
def take:WS:=.seq (.asg 1 (.eC (.raw 0) 0 .nil)) (.seq (.fld (.raw 0) "place" (.bin .Add PL (.aY (.int 1)))) (.seq (.ret (.raw 1)) .nil))
def takeWord:WS:=.seq (.aX (.tc .NotEq (.eC (.raw 0) 1 .nil) (.raw 1)) RN .nil) .nil
def iT:WS:=.seq (.asg 1 (.eC (.raw 0) 1 .nil)) (.seq (.aX (.not (.tp (.tv (.call 0 "is_name" (.cons (.var 1) .nil))))) RN .nil) (.seq (.ret (.raw 1)) .nil))
def takeEnd:WS:=.seq (.aX (.tc .Lt PL (.len WD)) RN .nil) .nil
end Rd
def eS (n:Int)(wl:Addr)(p:Nat)(kd sl:Addr):List (Str×V):=[("number",.int n),("words",.ref wl),("place",.int p),("kinds",.ref kd),("said",.ref sl)]
def okS (s:Str):Prop:=Z1 s=Z7/\s.length<=LIM
structure Rw (K:Z5)(CR:Addr)(H:Hp)(x dx wl kd sl:Addr)(n:Int)(ws:List Str)(p:Nat):Prop where
 ins:H x=Z9 (.ins CR dx (eS n wl p kd sl))
 tj:H wl=Z9 (.lst (ws.map V.str))
 gD:∀s∈ws,okS s
structure RowK (K:Z5)(CR:Addr):Prop where
 cls:Cls K CR
 na:∀f∈(["number","words","place","kinds","said"]:List Str),z3b K CR f
section
variable {K:Z5}{H H':Hp}{CR x dx wl kd sl:Addr}{n:Int}{ws:List Str}{p:Nat}
theorem Rw.same (r:Rw K CR H x dx wl kd sl n ws p)(s:Same H H'):Rw K CR H' x dx wl kd sl n ws p:=⟨s _ _ r.ins,s _ _ r.tj,r.gD⟩
theorem yZ:∀{a:List Str},(∀s∈a,Z1 s=Z7)->Reps K H B (a.map V.str) (a.map Z0)
 | [],_=>rfl
 |s::a,h=>⟨_,_,rfl,⟨rfl,h s ax⟩,yZ λt b=>h t (av _ b)⟩
theorem Rw.xb (r:Rw K CR H x dx wl kd sl n ws p):Rep K H aK (.ref wl) (.list (ws.map Z0)):=⟨wl,_,rfl,.inl ⟨r.tj,trivial⟩,yZ λs h=>(r.gD s h).1⟩
theorem Rw.move (r:Rw K CR H x dx wl kd sl n ws p)(k:∀b o,b≠x->H b=Z9 o->H' b=Z9 o)(e:H' x=Z9 (.ins CR dx (eS n wl a kd sl))):Rw K CR H' x dx wl kd sl n ws a:=⟨e,k _ _ (λz=>by have:=r.ins;rw[<-z,r.tj]at this;cases this) r.tj,r.gD⟩
end
section
variable {Z:Wc}{H:Hp}{σ:L2.St}{CR x dx wl kd sl:Addr}{n:Int}{ws:List Str}{p:Nat}
theorem nQ (a:RowK Z.K CR)(r:Rw Z.K CR H x dx wl kd sl n ws p)(h0:σ[0]?=Z9 (Z9 (.ref x)))(hf:f∈(["number","words","place","kinds","said"]:List Str))(b:(eS n wl p kd sl).lookup f=Z9 v)(q:Q v H):wE Z (.bV (.raw 0) f) σ H Q:=⟨.ref x,h0,x,CR,dx,_,v,rfl,r.ins,a.cls,a.na f hf,b,q⟩
theorem HM (d:RowK Z.K CR)(r:Rw Z.K CR H x dx wl kd sl n ws p)(h0:σ[0]?=Z9 (Z9 (.ref x)))(q:∀H',Same H H'->Q (decide (p<ws.length)) H'):wT Z (.tc .Lt Rd.PL (.len Rd.WD)) σ H Q:=by
 refine nQ (Q:=λa H1=>(wE Z (.len Rd.WD)) σ H1 λb c=>lX Z.K (mB (cmpD .Lt)) a b c _) d r h0 dc rfl ?_;refine nQ (Q:=λa H1=>z6p Z.K (iF "len") [a] H1 λb c=>lX Z.K (mB (cmpD .Lt)) (.int p) b c λx H'=>∃k,x=V.bl k/\Q k H') d r h0 dc rfl ?_;refine⟨aK,[.list (ws.map Z0)],.int ws.length,⟨_,_,rfl,r.xb,rfl⟩,by show Res.ok (ZX _)=_;simp,λw H1 s1 e=>?_⟩;cases e;refine⟨aK,aK,.int p,.int ws.length,.bool (decide (p<ws.length)),rfl,rfl,?_,λw c f g=>?_⟩
 .show Res.ok (ZV _)=_;simp
 .cases g;exact⟨_,rfl,q c (s1.trans f)⟩
theorem QV {a:List Str}(h:p<a.length):gH (.list (a.map Z0)) (.int p)=.ok (.str (a.getD p "")):=by
 show Res.eU (cB (a.map Z0) p)=_;have:cB (a.map Z0) p=Z9 (.str (a.getD p "")):=by unfold cB gZ;simp[h]
 rw[this];rfl
theorem jA {K:Z5}:StOk K (F0 H) H σ (bx σ.length Z8):=qo (by rw[da]) λi g a e=>by rw[cx]at e;split at e<;>cases e
def pk (ws:List Str)(p:Nat):Str:=ws.getD p ""
theorem eD (h:∀s∈ws,okS s):okS (pk ws p):=by
 unfold pk;by_cases e:p<ws.length
 .rw[ag,a9 e];simp_all
 .rw[ag,gw (by omega)];exact⟨by decide+kernel,by decide+kernel⟩
def z1k (K:Z5)(CR:Addr):Sp:=λvs H Q _=>∃x dx wl kd sl n ws p,vs=[.ref x]/\Rw K CR H x dx wl kd sl n ws p/\∀H',Same H H'->Q (.str (pk ws p)) H'
theorem QW (a:RowK Z.K CR)(r:Rw Z.K CR H x dx wl kd sl n ws p)(q:∀H',Same H H'->b.rt (.str (pk ws p)) H'):wS Z Rd.peek b [Z9 (.ref x)] H:=by
 refine HM a r rfl λH1 s1=>?_;by_cases e:p<ws.length
 .rw[qk e];refine bE ?_;show lR _ _ _ _ _ _;refine nQ a (r.same s1) rfl dc rfl ?_;refine nQ a (r.same s1) rfl dc rfl ?_;refine⟨aK,aK,_,.int p,.str (pk ws p),(r.same s1).xb,rfl,QV e,λw rw=>?_⟩;obtain⟨rfl,_⟩:=rw;exact q H1 s1
 .rw[ql e];refine bC ⟨_,F0 H1,_,jA,rfl,λv c d f=>?_⟩;have g:pk ws p="":=by unfold pk;rw[ag,gw (by omega)];rfl
  rw[g]at q;obtain⟨rfl,_⟩:=f;exact q c (s1.trans d)
def z1g (K:Z5)(CR:Addr):Sp:=λvs H Q _=>∃x dx wl kd sl n ws p,vs=[.ref x]/\Rw K CR H x dx wl kd sl n ws p/\∀H',(∀b o,b≠x->H b=Z9 o->H' b=Z9 o)->H' x=Z9 (.ins CR dx (eS n wl (p+1) kd sl))->Q (.str (pk ws p)) H'
theorem QX (c:RowK Z.K CR)(hm:Z.me[0]?=Z9 (CR,("peek":Str),z1k Z.K CR))(r:Rw Z.K CR H x dx wl kd sl n ws p)(q:∀H',(∀b o,b≠x->H b=Z9 o->H' b=Z9 o)->H' x=Z9 (.ins CR dx (eS n wl (p+1) kd sl))->j.rt (.str (pk ws p)) H'):wS Z Rd.take j [Z9 (.ref x),Z8] H:=by show wE Z (.eC _ 0 _) _ _ _;rw[uz hm];refine⟨.ref x,rfl,x,dx,_,rfl,r.ins,rfl,x,dx,wl,kd,sl,n,ws,p,rfl,r,λH1 s1=>?_⟩;have d:=r.same s1;refine nQ (Q:=λa f=>(wE Z (.aY (.int 1))) _ f λb g=>pJ Z.K (cM .Add) a b g _) c d rfl dc rfl ?_;refine⟨_,F0 H1,_,jA,rfl,λv f h k=>?_⟩;cases k;refine⟨aK,aK,.int p,.int 1,.int (p+1),rfl,rfl,rfl,λw g i l _=>?_⟩;cases l;have m:=(d.same h).same i;refine⟨.ref x,rfl,x,CR,dx,_,rfl,m.ins,c.cls,c.na _ dc,(show 5<1000 by decide),?_⟩;refine⟨.str (pk ws p),rfl,q _ (λb o s e=>by rw[aL s];exact i b o (h b o (s1 b o e))) ?_⟩;rw[bL];rfl
def qV (_:Str->Option Value)(_ _:Str)(_:V)(_:Addr)(_:Hp)(_:XK):Prop:=False
theorem C2 {H1:Hp}{D0:Ends}(rk:RowK Z.K CR)(r:Rw Z.K CR H1 x dx wl kd sl n ws p)(h0:σ[0]?=Z9 (Z9 (.ref x)))(k:∀b o,b≠x->H b=Z9 o->H1 b=Z9 o)(ex:qV Z.mg "NoRow" "row" (.int n) x H Z.E):wS Z Rd.RN D0 σ H1:=ex.elim
theorem C3 (hm:Z.me[1]?=Z9 (CR,("take":Str),z1g Z.K CR))(r:Rw Z.K CR H x dx wl kd sl n ws p)(h0:σ[0]?=Z9 (Z9 (.ref x)))(q:∀a,(∀b o,b≠x->H b=Z9 o->a b=Z9 o)->a x=Z9 (.ins CR dx (eS n wl (p+1) kd sl))->Q (.str (pk ws p)) a):wE Z (.eC (.raw 0) 1 .nil) σ H Q:=by rw[uz hm];exact⟨.ref x,h0,x,dx,_,rfl,r.ins,rfl,x,dx,wl,kd,sl,n,ws,p,rfl,r,q⟩
theorem iU (a b:Str):bO (.str a) (.str b)=decide (a=b):=by
 show(a==b)=_;by_cases h:a=b
 .subst h;simp
 .rw[ql h];simpa using h
def spTW (K:Z5)(CR:Addr)(mg:Str->Option Value):Sp:=λvs H Q E=>∃x dx wl kd sl n ws p w,vs=[.ref x,.str w]/\Rw K CR H x dx wl kd sl n ws p/\Z1 w=Z7/\if pk ws p=w then ∀H',(∀b o,b≠x->H b=Z9 o->H' b=Z9 o)->H' x=Z9 (.ins CR dx (eS n wl (p+1) kd sl))->Q .non H' else qV mg "NoRow" "row" (.int n) x H E
theorem zn0 (f:RowK Z.K CR)(hm:Z.me[1]?=Z9 (CR,("take":Str),z1g Z.K CR))(r:Rw Z.K CR H x dx wl kd sl n ws p)(g:Z1 w=Z7)
  (q:if pk ws p=w then ∀H',(∀b o,b≠x->H b=Z9 o->H' b=Z9 o)->H' x=Z9 (.ins CR dx (eS n wl (p+1) kd sl))->h.nx [Z9 (.ref x),Z9 (.str w)] H' else qV Z.mg "NoRow" "row" (.int n) x H Z.E):wS Z Rd.takeWord h [Z9 (.ref x),Z9 (.str w)] H:=by
 refine C3 hm r rfl λH1 k1 i=>?_;refine⟨.str w,rfl,aK,aK,.str (pk ws p),.str w,.bool (!decide (pk ws p=w)),⟨rfl,(eD r.gD).1⟩,⟨rfl,g⟩,?_,λv j c a=>?_⟩
 .show(Res.ok (!bO (.str (pk ws p)) (.str w))>>=λb=>Res.ok (ZV b))=_;rw[iU];rfl
 cases a;refine⟨_,rfl,?_⟩;have a:=(r.move k1 i).same c;by_cases e:pk ws p=w
 .rw[qe e]at q;rw[qk e];refine bC ?_;exact q j (λb o d z=>c b o (k1 b o d z)) a.ins
 .rw[qf e]at q;rw[ql e];refine bE (C2 f a rfl (λb o d z=>c b o (k1 b o d z)) q)
def NmOk (Z:Wc)(j:Nat)(nb:Str->Bool):Prop:=∃m,Z.Φ[j]?=Z9 m/\∀s,okS s->m [.str s]=.ok (.fr,.bool (nb s))
def spTN (K:Z5)(CR:Addr)(mg:Str->Option Value)(nb:Str->Bool):Sp:=λvs H Q E=>∃x dx wl kd sl n ws p,vs=[.ref x]/\Rw K CR H x dx wl kd sl n ws p/\if nb (pk ws p)=Z7 then ∀H',(∀b o,b≠x->H b=Z9 o->H' b=Z9 o)->H' x=Z9 (.ins CR dx (eS n wl (p+1) kd sl))->Q (.str (pk ws p)) H' else qV mg "NoRow" "row" (.int n) x H E
theorem zn5 (h:RowK Z.K CR)(hm:Z.me[1]?=Z9 (CR,("take":Str),z1g Z.K CR))(hn:NmOk Z 0 nb)(r:Rw Z.K CR H x dx wl kd sl n ws p)
  (q:if nb (pk ws p)=Z7 then ∀H',(∀b o,b≠x->H b=Z9 o->H' b=Z9 o)->H' x=Z9 (.ins CR dx (eS n wl (p+1) kd sl))->j.rt (.str (pk ws p)) H' else qV Z.mg "NoRow" "row" (.int n) x H Z.E):wS Z Rd.iT j [Z9 (.ref x),Z8] H:=by
 refine C3 hm r rfl λH1 k1 k=>?_;have l:=r.move k1 k;have ok:=eD (p:=p) r.gD;obtain⟨m,c,hn⟩:=hn;refine⟨[Z8,Z9 (.od,.str (pk ws p))],F0 H1,nb (pk ws p),qo rfl λi g t e=>?_,?_,λs d=>?_⟩
 .rcases i with _|_|i<;>cases e;exact⟨rfl,_,aK,rfl,rfl,ok.1⟩
 .show(((match Z.Φ[0]? with|some m=>m [.str (pk ws p)]>>=λr=>Res.ok (gJ r.2 (i' r.1),r.2)|none=>.no):Res GD)>>=λx=>fU x.2)=_;rw[c];show((m [.str (pk ws p)]>>=λr=>Res.ok (gJ r.2 (i' r.1),r.2))>>=λx=>fU x.2)=_;rw[hn _ ok];rfl
 have f:=l.same d;cases a:nb (pk ws p)with
 |true=>rw[qe a]at q;refine bC ?_;exact⟨.str (pk ws p),rfl,q s (λb o a z=>d b o (k1 b o a z)) f.ins⟩
 |false=>rw[qf (by rw[a];decide)]at q;exact bE (C2 h f rfl (λb o a z=>d b o (k1 b o a z)) q)
def y0 (K:Z5)(CR:Addr)(mg:Str->Option Value):Sp:=λvs H Q E=>∃x dx wl kd sl n ws p,vs=[.ref x]/\Rw K CR H x dx wl kd sl n ws p/\if p<ws.length then qV mg "NoRow" "row" (.int n) x H E else ∀H',Same H H'->Q .non H'
theorem QY (a:RowK Z.K CR)(r:Rw Z.K CR H x dx wl kd sl n ws p)(q:if p<ws.length then qV Z.mg "NoRow" "row" (.int n) x H Z.E else ∀H',Same H H'->c.nx [Z9 (.ref x)] H'):wS Z Rd.takeEnd c [Z9 (.ref x)] H:=by
 refine HM a r rfl λH1 s1=>?_;by_cases e:p<ws.length
 .rw[qe e]at q;rw[qk e];exact bE (C2 a (r.same s1) rfl (λb o _ z=>s1 b o z) q)
 .rw[qf e]at q;rw[ql e];exact bC (q H1 s1)
theorem HN:∀(d:List Nat),∀l∈aV c d,l.length<=d.length
 | [],l,h=>by rw[ar.mp h];simp_all
 |a::r,l,h=>by
  have b:=HN (c:=c) r;unfold aV at h;by_cases e:a=c
  .rw[qe e]at h;rcases ao.mp h with rfl|h
   .exact cn _
   .exact bh (b l h) (jf _)
  .rw[qf e]at h;cases hs:aV c r with
   |nil=>rw[hs]at h;rw[ar.mp h,am];simp_all
   |cons q t=>
    rw[hs]at h b;rcases ao.mp h with rfl|h
    .exact d6 (b q ax)
    .exact bh (b l (av _ h)) (jf _)
def spW (c:Nat)(t:Str):List Str:=(aV c t.cps.toList).map toS
theorem C4:∀s∈spW c t,s.length<=t.length:=λs h=>by obtain⟨l,a,rfl⟩:=bb.mp h;exact HN _ l a
theorem HP {K:Z5}:∀{a:List Str} {b:List V},Reps K H B b (a.map Z0)->b=a.map V.str/\∀s∈a,Z1 s=Z7
 | [],b,r=>⟨r,λ_ h=>nomatch h⟩
 |s::a,b,r=>by obtain⟨v,t,rfl,⟨rfl,ok⟩,r⟩:=r;obtain⟨rfl,h⟩:=HP r;exact⟨rfl,λu hu=>(ao.mp hu).elim (λe=>e▸ok) (h u)⟩
theorem QZ (k:c=⟨#[a]⟩)(hi:σ[i]?=Z9 (Z9 (.str t)))(ok:okS t)(q:∀H' l,Same H H'->H l=Z8->H' l=Z9 (.lst ((spW a t).map V.str))->(∀s∈spW a t,okS s)->Q (.ref l) H'):wE Z (.aY (.jF (.var i) (.str c))) σ H Q:=by
 subst k;have b:=(cj.mp hi).1;refine⟨(bx σ.length Z8).set i (Z9 (.od,.str t)),F0 H,(.fr,.list ((spW a t).map Z0)),qo (by simp) λj g d e=>?_,?_,λv H1 s1 m=>?_⟩
 .by_cases h:i=j
  .subst h;rw[e8 (by simpa using b)]at e;cases e;exact⟨rfl,_,aK,hi,rfl,ok.1⟩
  .rw[cu h,cx]at e;split at e<;>cases e
 .show((rY _>>=λx=>Res.ok (G.fr,Z0 ⟨#[a]⟩)>>=λy=>fW x.2 y.2>>=λd=>Res.ok (G.fr,d)):Res GD)=_;rw[e8 (by simpa using b)];show(fW (.str t) (.str ⟨#[a]⟩)>>=λd=>Res.ok (G.fr,d))=_;have:fW (.str t) (.str ⟨#[a]⟩)=.ok (.list ((spW a t).map Z0)):=by show(if decide (t.length<=LIM)=Z7 then Res.ok (ZZ ((aV a t.cps.toList).map λl=>Z0 (toS l)))else .no)=_;rw[qe (qk ok.2)];unfold spW;rw[ci];rfl
  rw[this];rfl
 .obtain⟨l,vs,rfl,f,rs⟩:=m;obtain⟨rfl,oks⟩:=HP rs;rcases f with⟨f,hn⟩|⟨_,hn⟩
  .exact q H1 l s1 hn f λs h=>⟨oks s h,bh (C4 s h) ok.2⟩
  .exact hn.elim
def spRI (K:Z5)(CR:Addr):Sp:=λvs H Q _=>∃x dx kd n t,vs=[.ref x,.int n,.str t,.ref kd]/\H x=Z9 (.ins CR dx [])/\okS t/\∀H' wl sl,(∀b o,b≠x->H b=Z9 o->H' b=Z9 o)->Rw K CR H' x dx wl kd sl n (spW 32 t) 0->H' sl=Z9 (.lst [])->H sl=Z8->wl≠sl->Q .non H'
theorem zlo (g:RowK Z.K CR)(s:H x=Z9 (.ins CR dx []))(ok:okS t)(q:∀H' wl sl,(∀b o,b≠x->H b=Z9 o->H' b=Z9 o)->Rw Z.K CR H' x dx wl kd sl n (spW 32 t) 0->H' sl=Z9 (.lst [])->H sl=Z8->wl≠sl->u.nx [Z9 (.ref x),Z9 (.int n),Z9 (.str t),Z9 (.ref kd)] H'):
  wS Z Rd.init u [Z9 (.ref x),Z9 (.int n),Z9 (.str t),Z9 (.ref kd)] H:=by
 refine⟨.int n,rfl,.ref x,rfl,x,CR,dx,_,rfl,s,g.cls,g.na _ dc,by decide,?_⟩;refine QZ (a:=32) (by decide+kernel) rfl ok λB wl m i r gD=>?_;have w:=m _ _ bL;have d:wl≠x:=by rintro rfl;rw[bL]at i;cases i
 refine⟨.ref x,rfl,x,CR,dx,_,rfl,w,g.cls,g.na _ dc,(show 1<1000 by decide),?_⟩;refine⟨_,F0 _,_,jA,rfl,λv y j z=>?_⟩;cases z;have A:=j _ _ bL;refine⟨.ref x,rfl,x,CR,dx,_,rfl,A,g.cls,g.na _ dc,(show 2<1000 by decide),?_⟩;refine⟨.ref kd,rfl,.ref x,rfl,x,CR,dx,_,rfl,bL,g.cls,g.na _ dc,(show 3<1000 by decide),?_⟩;refine⟨cn _,λsl c=>?_⟩;have f:sl≠x:=by rintro rfl;rw[bL]at c;cases c
 refine⟨.ref x,rfl,x,CR,dx,[("number",.int n),("words",.ref wl),("place",.int 0),("kinds",.ref kd)],rfl,(aL (Ne.symm f)).trans bL,g.cls,g.na _ dc,(show 4<1000 by decide),?_⟩
 have k:wl≠sl:=by
  rintro rfl
  rw[aL d,aL d]at c;rw[j _ _ (by rw[aL d];exact r)]at c;cases c
 have p:H sl=none:=by
  cases e:H sl with
  |none=>rfl
  |some o=>have l:=j sl o (aL f▸m sl o (aL f▸e));rw[aL f,aL f,l]at c;cases c
 refine q _ wl sl (λb o h e=>?_) ⟨?_,?_,gD⟩ ?_ p k
 .have l:y b=Z9 o:=j b o (aL h▸m b o (aL h▸e))
  have nb:b≠sl:=by
   rintro rfl
   rw[aL h,aL h,l]at c;cases c
  rw[aL h,aL nb,aL h,aL h];exact l
 .rw[bL];rfl
 .rw[aL d,aL k,aL d,aL d];exact j _ _ (aL d▸r)
 .rw[aL f,bL]
end
namespace Rd
abbrev TK:W:=.eC (.raw 0) 1 .nil
abbrev TN:W:=.eC (.raw 0) 3 .nil
def fG:WS:=.seq (.aX (.tc .In (.raw 1) KD) (.seq (.pX .bad) .nil) .nil) (.seq (.nO (.tp [2,3]) SD (.seq (.aX (.tc .NotIn (.get KD (.raw 2)) (.raw 3)) (.seq (.pX .bad) .nil) .nil) .nil)) .nil)
def readRow:WS:=.seq (.asg 1 TK)
 (.seq (.aX (.tc .Eq (.raw 1) (.aY (.str "fact"))) (.seq (.asg 2 (.tup (.cons (.aY (.str "fact")) (.cons TN .nil)))) .nil)
  (.seq (.aX (.tc .Eq (.raw 1) (.aY (.str "open"))) (.seq (.asg 2 (.cK 0 (.cons (.raw 0) .nil))) .nil)
   (.seq (.aX (.tc .Eq (.raw 1) (.aY (.str "word"))) (.seq (.asg 2 (.tup (.cons (.aY (.str "word")) (.cons (.cK 1 (.cons (.raw 0) .nil)) (.cons (.cK 2 (.cons (.raw 0) (.cons (.gi 2) .nil))) .nil))))) .nil)
    (.seq (.aX (.tc .Eq (.raw 1) (.aY (.str "claim"))) (.seq (.asg 2 (.tup (.cons (.aY (.str "claim")) (.cons (.cK 1 (.cons (.raw 0) .nil)) (.cons (.cK 3 (.cons (.raw 0) (.cons (.gi 2) .nil))) .nil))))) .nil) RN) .nil)) .nil)) .nil))
 (.seq (.exp (.eC (.raw 0) 4 .nil)) (.seq (.ret (.raw 2)) .nil)))
def iV:WS:=.seq (.asg 1 TN) (.seq (.exp (.eC (.raw 0) 2 (.cons (.aY (.str "if")) .nil))) (.seq (.ret (.raw 1)) .nil))
def readOpen:WS:=.seq (.aX (.tc .Eq (.cnt (.lv KD) (.aY (.str "open"))) (.gi 1)) RN .nil)
 (.seq (.asg 1 TN) (.seq (.exp (.eC (.raw 0) 2 (.cons (.aY (.str "for")) .nil))) (.seq (.asg 2 (.cK 0 (.cons (.raw 0) .nil))) (.seq (.exp (.eC (.raw 0) 2 (.cons (.aY (.str "against")) .nil)))
 (.seq (.ret (.tup (.cons (.aY (.str "open")) (.cons (.raw 1) (.cons (.raw 2) (.cons (.cK 0 (.cons (.raw 0) .nil)) .nil)))))) .nil)))))
def readBody:WS:=.seq (.aX (.tc .Eq (.raw 3) (.gi 0)) (.seq (.pX .bad) .nil) .nil)
 (.seq (.asg 5 (.mk 0 (.cons (.raw 3) (.cons (.raw 4) (.cons (.raw 2) .nil)))))
 (.seq (.asg 6 (.cK 0 (.cons (.raw 5) .nil)))
 (.seq (.exp (.cK 1 (.cons (.raw 5) (.cons (.ix (.raw 6) (.aY (.int 1))) .nil))))
 (.seq (.put (.raw 2) (.ix (.raw 6) (.aY (.int 1))) (.ix (.raw 6) (.aY (.int 0))))
 (.seq (.app (.raw 1) (.raw 6)) .nil)))))
def readAct:WS:=.seq (.aX (.not (.tp (.tv (.dP (.var 0) ["str"])))) (.seq (.pX .bad) .nil) .nil) (.seq (.asg 1 (.lst .nil)) (.seq (.asg 2 .hG) (.seq (.bH (.tp [3,4]) (.enum (.jF (.var 0) (.str "\n"))) readBody) (.seq (.ret (.raw 1)) .nil))))
end Rd
theorem Q0 (a b:Str):eqK (.str a) (.str b)=decide (a=b):=by
 show(a==b)=_;by_cases h:a=b
 .subst h;simp
 .rw[ql h];simpa using h
section
variable {Z:Wc}{H:Hp}{σ:L2.St}{CR x dx wl kd sl:Addr}{n:Int}{ws:List Str}{p:Nat}{ns:List Str}{nb:Str->Bool}
theorem zqf (hm:Z.me[3]?=Z9 (CR,("take_name":Str),spTN Z.K CR Z.mg nb))(r:Rw Z.K CR H x dx wl kd sl n ws p)(h0:σ[0]?=Z9 (Z9 (.ref x)))
  (q:if nb (pk ws p)=Z7 then ∀a,(∀b o,b≠x->H b=Z9 o->a b=Z9 o)->a x=Z9 (.ins CR dx (eS n wl (p+1) kd sl))->Q (.str (pk ws p)) a else qV Z.mg "NoRow" "row" (.int n) x H Z.E):wE Z Rd.TN σ H Q:=by
 rw[uz hm];exact⟨.ref x,h0,x,dx,_,rfl,r.ins,rfl,x,dx,wl,kd,sl,n,ws,p,rfl,r,q⟩
theorem mC (h:Z.fn[j]?=Z9 sp):wE Z (.cK j a)=jX sp [] Z.E (wA Z a):=by show(match Z.fn[j]? with|some sp=>jX sp [] Z.E (wA Z a)|none=>gC)=_;rw[h]
theorem xg (hi:σ[i]?=Z9 (Z9 (.str a)))(c:Z1 a=Z7)(q:∀H',Same H H'->Q (decide (a=b)) H'):wT Z (.tc .Eq (.raw i) (.aY (.str b))) σ H Q:=by
 refine⟨.str a,hi,_,F0 H,_,jA,rfl,λv H1 s1 d=>?_⟩;refine⟨aK,_,.str a,.str b,.bool (decide (a=b)),⟨rfl,c⟩,d,?_,λw e f g=>?_⟩
 .show(Res.ok (bO (.str a) (.str b))>>=λb=>Res.ok (ZV b))=_;rw[iU];rfl
 .cases g;exact⟨_,rfl,q e (s1.trans f)⟩
end
def lL (_:Str->Option Value)(_ _:Str)(_:V)(_:Hp)(_:XK):Prop:=False
theorem HQ:∀(a:List D) (k i:Nat),(z19 k a)[i]?=(a[i]?).map λx=>.tuple [.int ((k+i:Nat):Int),x]
 | [],_,i=>by simp[z19]
 |x::a,k,0=>by simp[z19]
 |x::a,k,i+1=>by
  unfold z19;rw[ej,HQ a (k+1) i,ej]
  congr 2
  funext y
  have:k+1+i=k+(i+1):=by omega
  rw[this]
theorem HR:∀a k,(z19 k a).length=a.length
 | [],_=>rfl
 |_::a,k=>by unfold z19;rw[am,am,HR a]
section
variable {Z:Wc}{H:Hp}{σ:L2.St}{CR:Addr}{nb:Str->Bool}
theorem Q1 {C:Addr}(h:Z.cl[j]?=Z9 (C,sp)):wE Z (.mk j a)=tZ C sp [] Z.E (wA Z a):=by show(match Z.cl[j]? with|some r=>tZ r.1 r.2 [] Z.E (wA Z a)|none=>gC)=_;rw[h]
theorem y3 (a b:Int):bO (.int a) (.int b)=decide (a=b):=by
 show(a==b)=_;by_cases h:a=b
 .subst h;simp
 .rw[ql h];simpa using h
theorem Q2 (h:l.length=7):∃a b c d e f g,l=[a,b,c,d,e,f,g]:=by rcases l with _|⟨a,_|⟨b,_|⟨c,_|⟨d,_|⟨e,_|⟨f,_|⟨g,_|⟨i,l⟩⟩⟩⟩⟩⟩⟩⟩<;>first|exact⟨_,_,_,_,_,_,_,rfl⟩|(simp at h;done)|(simp at h;omega)
theorem Q3 (ok:okS t)(b:(spW 10 t).length<=1000)(h0:ρ[0]?=Z9 (Z9 (.od,.str t))):evW Z.Κ Z.Φ (.enum (.jF (.var 0) (.str "\n"))) ρ=.ok (.al,z19 0 ((spW 10 t).map Z0)):=by
 show(((rY ρ[0]?>>=λx=>Res.ok (G.fr,Z0 "\n")>>=λy=>fW x.2 y.2>>=λd=>Res.ok (G.fr,d)):Res GD)>>=λx=>seqR x.2>>=λa=>Res.ok (G.al,z19 0 a))=_;rw[h0];show((fW (.str t) (.str "\n")>>=λd=>Res.ok (G.fr,d))>>=λx=>seqR x.2>>=λa=>Res.ok (G.al,z19 0 a))=_;have:fW (.str t) (.str "\n")=.ok (.list ((spW 10 t).map Z0)):=by show(if decide (t.length<=LIM)=Z7 then Res.ok (ZZ ((aV 10 t.cps.toList).map λl=>Z0 (toS l)))else .no)=_;rw[qe (qk ok.2)];unfold spW;rw[ci];rfl
 rw[this];show(seqR (.list ((spW 10 t).map Z0))>>=λa=>Res.ok (G.al,z19 0 a))=_;have:seqR (.list ((spW 10 t).map Z0))=.ok ((spW 10 t).map Z0):=by show(if decide (((spW 10 t).map Z0).length<=LIM)=Z7 then _ else _)=_;rw[qe (qk (by rw[ai];unfold LIM;omega))]
 rw[this];rfl
end
namespace Rd
abbrev PE:W:=.eC (.raw 0) 0 .nil
abbrev OF:W:=.aY (.glob 0 "OF_A_THING")
abbrev RM:W:=.bin .Sub (.raw 1) (.aY (.int 1))
def Q4:WS:=.seq (.asg 2 TK) (.seq (.aX (.tc .In (.raw 2) (.raw 1)) RN .nil) (.seq (.app (.raw 1) (.raw 2)) (.seq (.app SD (.tup (.cons (.raw 2) (.cons OF .nil)))) .nil)))
def readNames:WS:=.seq (.asg 1 (.lst .nil)) (.seq (.w6 (.wY (.cK 0 (.cons PE .nil))) Q4) (.seq (.ret (.aY (.hJ "tuple" (.tv (.var 1))))) .nil))
def kG:WS:=.seq (.asg 2 TN)
 (.seq (.aX (.tc .Eq PE (.aY (.str ">="))) (.seq (.ret (.tup (.cons (.aY (.str "at")) (.cons (.raw 2) (.cons (.cK 2 (.cons (.raw 0) (.cons (.raw 2) .nil))) .nil))))) .nil) .nil)
 (.seq (.app SD (.tup (.cons (.raw 2) (.cons OF .nil))))
 (.seq (.ret (.wX (.tc .Eq (.get KD (.raw 2)) (.aY (.str "fact"))) (.tup (.cons (.aY (.str "at")) (.cons (.raw 2) (.cons (.aY (.int 1)) .nil)))) (.tup (.cons (.aY (.str "is")) (.cons (.raw 2) .nil))))) .nil)))
def fH:WS:=.seq (.aX (.tc .Lt (.raw 1) (.aY (.int 1))) RN .nil)
 (.seq (.aX (.tc .Eq PE (.aY (.str "not"))) (.seq (.exp TK) (.seq (.ret (.tup (.cons (.aY (.str "not")) (.cons (.cK 0 (.cons (.raw 0) (.cons RM .nil))) .nil)))) .nil)) .nil)
 (.seq (.aX (.tc .Eq PE (.aY (.str "("))) (.seq (.ret (.cK 1 (.cons (.raw 0) (.cons (.gf 0) (.cons RM .nil))))) .nil) .nil) kG))
def fI:WS:=.seq (.aX (.tc .Lt (.raw 1) (.aY (.int 1))) RN .nil)
 (.seq (.aX (.tc .Eq PE (.aY (.str "("))) (.seq (.ret (.cK 1 (.cons (.raw 0) (.cons (.gf 0) (.cons RM .nil))))) .nil) .nil)
 (.seq (.asg 2 TK)
 (.seq (.aX (.tc .Eq (.raw 2) (.aY (.str "not"))) (.seq (.ret (.tup (.cons (.aY (.str "not")) (.cons (.cK 0 (.cons (.raw 0) (.cons RM .nil))) .nil)))) .nil) .nil)
 (.seq (.aX (.tc .NotIn (.raw 2) (.aY (.tup (.cons (.str "some") (.cons (.str "all") .nil))))) RN .nil)
 (.seq (.ret (.tup (.cons (.raw 2) (.cons (.cK 2 (.cons (.raw 0) (.cons RM .nil))) .nil)))) .nil)))))
def fJ:WS:=.seq (.exp (.eC (.raw 0) 2 (.cons (.aY (.str "(")) .nil)))
 (.seq (.asg 3 (.oM 1 0 (.cons (.raw 0) (.cons (.raw 2) .nil))))
 (.seq (.asg 4 TK)
 (.seq (.aX (.tc .NotIn (.raw 4) (.aY (.tup (.cons (.str "and") (.cons (.str "or") .nil))))) RN .nil)
 (.seq (.asg 5 (.oM 1 0 (.cons (.raw 0) (.cons (.raw 2) .nil))))
 (.seq (.exp (.eC (.raw 0) 2 (.cons (.aY (.str ")")) .nil)))
 (.seq (.ret (.tup (.cons (.raw 4) (.cons (.raw 3) (.cons (.raw 5) .nil))))) .nil))))))
def readBound:WS:=.seq (.exp (.eC (.raw 0) 2 (.cons (.aY (.str ">=")) .nil)))
 (.seq (.asg 2 (.cK 0 (.cons TK .nil)))
 (.seq (.aX (.tp (.or (.tv (.rW Z6 (.var 2))) (.not (.tv (.chain .LtE .LtE (.int 1) (.var 2) (.bin .Pow (.int 10) (.int 30))))))) RN .nil)
 (.seq (.app SD (.tup (.cons (.raw 1) (.cons (.aY (.tup (.cons (.str "fact") .nil))) .nil))))
 (.seq (.ret (.raw 2)) .nil))))
end Rd
def gQ (ks:List (Str×Str)):List (Key×V):=ks.map λy=>(.inr y.1,V.str y.2)
def y4 (ks:List (Str×Str)):dF:=ks.map λy=>(Z0 y.1,Z0 y.2)
theorem HS {K:Z5}:∀{ks:List (Str×Str)},(∀y∈ks,Z1 y.1=Z7/\Z1 y.2=Z7)->bG K H B (gQ ks) (y4 ks)
 | [],_=>rfl
 |y::ks,h=>⟨.inr y.1,.str y.2,gQ ks,rfl,rfl,(h y ax).1,⟨rfl,(h y ax).2⟩,HS λt a=>h t (av _ a)⟩
def Fr (x sl:Addr)(H H':Hp):Prop:=∀b o,b≠x->b≠sl->H b=Z9 o->H' b=Z9 o
theorem Fr.of_same (s:Same H a):Fr x sl H a:=λb o _ _ e=>s b o e
theorem Fr.trans (f:Fr x sl H H1)(g:Fr x sl H1 d):Fr x sl H d:=λb o a c e=>g b o a c (f b o a c e)
theorem Fr.iB (k:∀b o,b≠x->H b=Z9 o->a b=Z9 o):Fr x sl H a:=λb o h _ e=>k b o h e
def xh (d:D):Prop:=∃(nm:Str) (ts:List Str),d=.tuple [.str nm,.tuple (ts.map Z0)]
structure Rg (K:Z5)(CR:Addr)(H:Hp)(x dx wl kd sl:Addr)(n:Int)(ws:List Str)(ks:List (Str×Str))(p:Nat)(sd:List D):Prop where
 rw:Rw K CR H x dx wl kd sl n ws p
 kk:H kd=Z9 (.dK (gQ ks))
 mD:∀y∈ks,Z1 y.1=Z7/\Z1 y.2=Z7
 sq:∃vs,H sl=Z9 (.lst vs)/\Reps K H aK vs sd
 im:imms sd=Z7
 wf:∀d∈sd,xh d
 ne:wl≠sl
 len:sd.length<=p
 qW:ws.length<=LIM
section
variable {K:Z5}{H H':Hp}{CR x dx wl kd sl:Addr}{n:Int}{ws:List Str}{ks:List (Str×Str)}{p:Nat}{sd:List D}
theorem Rg.same (r:Rg K CR H x dx wl kd sl n ws ks p sd)(s:Same H H'):Rg K CR H' x dx wl kd sl n ws ks p sd:=by obtain⟨vs,a,b⟩:=r.sq;exact⟨r.rw.same s,s _ _ r.kk,r.mD,⟨vs,s _ _ a,b.same s λ_ h=>h⟩,r.im,r.wf,r.ne,r.len,r.qW⟩
theorem Rg.nx (r:Rg K CR H x dx wl kd sl n ws ks p sd):kd≠x/\sl≠x/\kd≠sl:=by
 obtain⟨vs,a,_⟩:=r.sq;refine⟨?_,?_,?_⟩
 .rintro rfl;have:=r.rw.ins;rw[r.kk]at this;cases this
 .rintro rfl;have:=r.rw.ins;rw[a]at this;cases this
 .rintro rfl;have:=r.kk;rw[a]at this;cases this
theorem Rg.move (r:Rg K CR H x dx wl kd sl n ws ks p sd)(k:∀b o,b≠x->H b=Z9 o->H' b=Z9 o)(e:H' x=Z9 (.ins CR dx (eS n wl d kd sl)))(f:p<=d):Rg K CR H' x dx wl kd sl n ws ks d sd:=by obtain⟨vs,g,h⟩:=r.sq;obtain⟨i,j,_⟩:=r.nx;exact⟨r.rw.move k e,k _ _ i r.kk,r.mD,⟨vs,k _ _ j g,Reps.bT (λa o c fx=>k a o (by rintro rfl;rw[r.rw.ins]at c;cases c;exact fx.elim) c) _ r.im h⟩,r.im,r.wf,r.ne,bh r.len f,r.qW⟩
theorem Rg.say (r:Rg K CR H x dx wl kd sl n ws ks p sd)(f:H sl=Z9 (.lst vs))(g:Reps K H aK vs sd)(i:Rep K H aK v d)(c:imm d=Z7)(j:xh d)(k:sd.length<p):Rg K CR (upd H sl (.lst (vs++[v]))) x dx wl kd sl n ws ks p (sd++[d]):=by
 obtain⟨A,l,m⟩:=r.nx;have fx:∀a o,H a=Z9 o->Fix o->upd H sl (.lst (vs++[v])) a=Z9 o:=λa o e fx=>by rw[aL (by rintro rfl;rw[f]at e;cases e;exact fx.elim)];exact e
 have xi:∀(a b:List D),imms a=Z7->imms b=Z7->imms (a++b)=true:=λa b q s=>by
  induction a with
  |nil=>exact s
  |cons y a t=>obtain⟨u,w⟩:=aD q;show(imm y&&imms (a++b))=Z7;rw[u,t w];rfl
 refine⟨⟨?_,?_,r.rw.gD⟩,?_,r.mD,⟨vs++[v],bL,?_⟩,xi sd [d] r.im (by show(imm d&&Z7)=Z7;rw[c];rfl),(λe z=>(a8.mp z).elim (r.wf e) λh=>ar.mp h▸j),r.ne,by rw[af];exact k,r.qW⟩
 .rw[aL (Ne.symm l)];exact r.rw.ins
 .rw[aL r.ne];exact r.rw.tj
 .rw[aL m];exact r.kk
 .exact(Reps.bT fx _ r.im g).append ⟨v,[],rfl,Rep.bT fx _ c i,rfl⟩
theorem Rg.fx (r:Rg K CR H x dx wl kd sl n ws ks p sd)(f:Fr x sl H H'):∀a o,H a=Z9 o->Fix o->H' a=Z9 o:=λa o e fx=>by obtain⟨vs,b,_⟩:=r.sq;exact f a o (by rintro rfl;rw[r.rw.ins]at e;cases e;exact fx.elim) (by rintro rfl;rw[b]at e;cases e;exact fx.elim) e
theorem gO:∀(ns:List Str),imms (ns.map Z0)=Z7
 | []=>rfl
 |s::ns=>by show(imm (.str s)&&imms (ns.map Z0))=Z7;rw[gO ns];rfl
theorem C5 (ns:List Str):imm (.tuple (ns.map Z0):D)=true:=gO ns
def nR (_:Str->Option Value)(_ _:Str)(_:V)(_ _:Addr)(_:Hp)(_:XK):Prop:=False
end
section
variable {Z:Wc}{H H0:Hp}{σ:L2.St}{CR x dx wl kd sl:Addr}{n:Int}{ws:List Str}{ks:List (Str×Str)}{p:Nat}{sd:List D}{nb:Str->Bool}
theorem HU (m0:Z.me[0]?=Z9 (CR,("peek":Str),z1k Z.K CR))(r:Rg Z.K CR H x dx wl kd sl n ws ks p sd)(h0:σ[0]?=Z9 (Z9 (.ref x)))(q:∀a,Same H a->Q (.str (pk ws p)) a):wE Z Rd.PE σ H Q:=by rw[uz m0];exact⟨.ref x,h0,x,dx,_,rfl,r.rw.ins,rfl,x,dx,wl,kd,sl,n,ws,p,rfl,r.rw,q⟩
theorem y6 (m0:Z.me[0]?=Z9 (CR,("peek":Str),z1k Z.K CR))(r:Rg Z.K CR H x dx wl kd sl n ws ks p sd)(h0:σ[0]?=Z9 (Z9 (.ref x)))(q:∀H',Same H H'->Q (decide (pk ws p=b)) H'):wT Z (.tc .Eq Rd.PE (.aY (.str b))) σ H Q:=by
 refine HU (Q:=λa H1=>(wE Z (.aY (.str b))) σ H1 λd c=>lX Z.K (mB (cmpD .Eq)) a d c λx H'=>∃k,x=V.bl k/\Q k H') m0 r h0 λH0 e=>?_;refine⟨_,F0 H0,_,jA,rfl,λv H1 s1 f=>?_⟩;refine⟨aK,_,.str (pk ws p),.str b,.bool (decide (pk ws p=b)),⟨rfl,(eD r.rw.gD).1⟩,f,?_,λw c g h=>?_⟩
 .show(Res.ok (bO (.str (pk ws p)) (.str b))>>=λb=>Res.ok (ZV b))=_;rw[iU];rfl
 .cases h;exact⟨_,rfl,q c ((e.trans s1).trans g)⟩
theorem uA (m1:Z.me[1]?=Z9 (CR,("take":Str),z1g Z.K CR))(r:Rg Z.K CR H x dx wl kd sl n ws ks p sd)(h0:σ[0]?=Z9 (Z9 (.ref x)))(q:∀a,(∀b o,b≠x->H b=Z9 o->a b=Z9 o)->Rg Z.K CR a x dx wl kd sl n ws ks (p+1) sd->Q (.str (pk ws p)) a):wE Z Rd.TK σ H Q:=C3 m1 r.rw h0 λa k e=>q a k (r.move k e (jf p))
theorem qp {D0:Ends}(rk:RowK Z.K CR)(r:Rg Z.K CR H x dx wl kd sl n ws ks p sd)(h0:σ[0]?=Z9 (Z9 (.ref x)))(k:Fr x sl H0 H)(ex:nR Z.mg "NoRow" "row" (.int n) x sl H0 Z.E):wS Z Rd.RN D0 σ H:=ex.elim
theorem zb1 (w:RowK Z.K CR)(r:Rg Z.K CR H x dx wl kd sl n ws ks p sd)(h0:σ[0]?=Z9 (Z9 (.ref x)))(hi:σ[i]?=Z9 (Z9 (.str nm)))(c:Z1 nm=Z7)(y:sd.length<p)(z:p<=LIM)(f:imm d=Z7)(hd:∃g:List Str,d=.tuple (g.map Z0))
  (A:∀(H:Hp) (Q:VK),(∀v H',Same H H'->Rep Z.K H' aK v d->Q v H')->wE Z e σ H Q)
  (q:∀H',Fr x sl H H'->Rg Z.K CR H' x dx wl kd sl n ws ks p (sd++[.tuple [.str nm,d]])->m.nx σ H'):wS Z (.app Rd.SD (.tup (.cons (.raw i) (.cons e .nil)))) m σ H:=by
 obtain⟨vs,j,s⟩:=r.sq;have go:∀Q:VK,Q (.ref sl) H->wE Z Rd.SD σ H Q:=λQ q=>nQ w r.rw h0 dc rfl q;show wE Z Rd.SD σ H λl H1=>tyV Z.K "list" l H1/\(mP (wE Z (.tup (.cons (.raw i) (.cons e .nil)))) eQ) σ H1 λB C=>yf l B C λ_ H'=>m.nx σ H';refine go _ ⟨.inl ⟨rfl,_,.inl (.inl j)⟩,?_⟩;refine⟨.str nm,hi,A H _ λv H1 s1 D=>⟨(show 2<=ay by rw[bz];decide),λt u=>?_⟩⟩;have a:=s1.trans (Same.upd (o:=.tup [.str nm,v]) u);have E:=r.same a;have rt:Rep Z.K (upd H1 t (.tup [.str nm,v])) aK (.ref t) (.tuple [.str nm,d]):=⟨t,_,rfl,.inl (.inl bL),⟨_,_,rfl,⟨rfl,c⟩,_,_,rfl,D.same (Same.upd u) (λ_ h=>h),rfl⟩⟩;refine⟨sl,vs,.ref t,rfl,rfl,a _ _ j,?_,?_⟩
 .have:=s.length;rw[bz];unfold LIM at z;omega
 .refine q _ (λb o F k e=>by rw[aL k];exact a b o e) ?_;exact E.say (a _ _ j) (s.same a λ_ h=>h) rt (by show(Z7&&(imm d&&Z7))=Z7;rw[f];rfl) (by obtain⟨g,rfl⟩:=hd;exact⟨nm,g,rfl⟩) y
end
def OFT:D:=.tuple [.str "fact",.str "open",.str "word"]
def dQ (nm:Str)(t:D):D:=.tuple [.str nm,t]
def tm (nb:Str->Bool)(ws:List Str):Nat->Nat->List Str->List D->Option (List Str×Nat×List D)
 |0,p,ns,sd=>Z9 (ns,p,sd)
 |k+1,p,ns,sd=>if nb (pk ws p)=Z7 then(if pk ws p∈ns then Z8 else tm nb ws k (p+1) (ns++[pk ws p]) (sd++[dQ (pk ws p) OFT]))else Z9 (ns,p,sd)
def z1h (nb:Str->Bool)(ws:List Str)(p:Nat)(sd:List D):Option (List Str×Nat×List D):=tm nb ws (ws.length-p) p [] sd
theorem C6 (h:ws.length<=p):pk ws p="":=by unfold pk;rw[ag,gw h];rfl
def OfK (Z:Wc):Prop:=Z.Κ[0]?=Z9 OFT
def xj (K:Z5)(CR:Addr)(mg:Str->Option Value)(x dx wl kd sl:Addr)(n:Int)(ws:List Str)(ks:List (Str×Str))(H:Hp)(Q:VK)(E:XK):Option (List Str×Nat×List D)->Prop
 |some (ns,p',mE)=>∀H' v,Fr x sl H H'->Rg K CR H' x dx wl kd sl n ws ks p' mE->Rep K H' aK v (.tuple (ns.map .str))->Q v H'
 |none=>nR mg "NoRow" "row" (.int n) x sl H E
def spNs (K:Z5)(CR:Addr)(mg:Str->Option Value)(nb:Str->Bool):Sp:=λvs H Q E=>∃x dx wl kd sl n ws ks p sd,vs=[.ref x]/\Rg K CR H x dx wl kd sl n ws ks p sd/\nb ""=Z6/\xj K CR mg x dx wl kd sl n ws ks H Q E (z1h nb ws p sd)
def NmSp (Z:Wc)(j:Nat)(nb:Str->Bool):Prop:=∃m,Z.fn[j]?=Z9 (spD Z.K 1 m)/\∀s,okS s->m [.str s]=.ok (.fr,.bool (nb s))
section
variable {Z:Wc}{H H0:Hp}{σ:L2.St}{CR x dx wl kd sl:Addr}{n:Int}{ws:List Str}{ks:List (Str×Str)}{p:Nat}{sd:List D}{nb:Str->Bool}
theorem Q5 (m0:Z.me[0]?=Z9 (CR,("peek":Str),z1k Z.K CR))(hn:NmSp Z 0 nb)(r:Rg Z.K CR H x dx wl kd sl n ws ks p sd)(h0:σ[0]?=Z9 (Z9 (.ref x)))(q:∀H',Same H H'->Q (nb (pk ws p)) H'):wT Z (.wY (.cK 0 (.cons Rd.PE .nil))) σ H Q:=by obtain⟨m,hm,hn⟩:=hn;show wE Z (.cK 0 (.cons Rd.PE .nil)) σ H _;rw[mC hm];refine HU m0 r h0 λH1 s1=>?_;have ok:=eD (p:=p) r.rw.gD;refine⟨aK,[.str (pk ws p)],(.fr,.bool (nb (pk ws p))),rfl,⟨_,_,rfl,⟨rfl,ok.1⟩,rfl⟩,hn _ ok,λv a b c=>?_⟩;cases c;exact⟨_,rfl,q a (s1.trans b)⟩
theorem C7:∀(ns:List Str),cL 40 (ns.map Z0)=Z7
 | []=>rfl
 |s::ns=>by show(aU 40 (.str s)&&cL 40 (ns.map Z0))=Z7;rw[C7 ns];rfl
theorem HV (s:Str):∀(ns:List Str),((ns.map Z0).any λy=>bO y (.str s))=decide (s∈ns)
 | []=>by simp
 |t::ns=>by
  rw[bc,i5,HV s ns,iU];by_cases h:t=s
  .subst h;simp
  .rw[ql h];have:s≠t:=λz=>h z.symm;simp[this]
theorem Q6 (s:Str)(ns:List Str):inD (.str s) (.list (ns.map Z0))=.ok (decide (s∈ns)):=by show(if(aU 40 (.str s)&&cL 40 (ns.map Z0))=Z7 then Res.ok ((ns.map Z0).any λy=>bO y (.str s))else .no)=_;rw[C7,HV];rfl
theorem z7z (hk:OfK Z)(H:Hp)(Q:VK)(q:∀v H',Same H H'->Rep Z.K H' aK v OFT->Q v H'):wE Z Rd.OF σ H Q:=by refine⟨_,F0 H,(.fr,OFT),jA,?_,λv H1 s1 r1=>q v H1 s1 (Rep.weak (λ_ _=>trivial) r1)⟩;show((match Z.Κ[0]? with|some d=>if imm d=Z7 then Res.ok (G.fr,d)else .no|none=>.no):Res GD)=_;rw[hk];rfl
theorem zqa (rk:RowK Z.K CR)(m0:Z.me[0]?=Z9 (CR,("peek":Str),z1k Z.K CR))(m1:Z.me[1]?=Z9 (CR,("take":Str),z1g Z.K CR))(hn:NmSp Z 0 nb)(hk:OfK Z)(n0:nb ""=Z6)(r:Rg Z.K CR H x dx wl kd sl n ws ks p sd)
  (q:xj Z.K CR Z.mg x dx wl kd sl n ws ks H D0.rt Z.E (z1h nb ws p sd)):wS Z Rd.readNames D0 [Z9 (.ref x),Z8,Z8] H:=by
 refine⟨cn _,λd f=>?_⟩;obtain⟨Vo,T,_⟩:=r.sq;have G:d≠sl:=by rintro rfl;rw[T]at f;cases f
 have U:d≠wl:=by rintro rfl;rw[r.rw.tj]at f;cases f
 have B:d≠x:=by rintro rfl;rw[r.rw.ins]at f;cases f
 have s0:Same H (upd H d (.lst [])):=Same.upd f;refine⟨λm I H'=>∃c ns l J,m=ws.length-c/\I=[Z9 (.ref x),Z9 (.ref d),J]/\Rg Z.K CR H' x dx wl kd sl n ws ks c l/\H' d=Z9 (.lst (ns.map V.str))/\(∀s∈ns,Z1 s=Z7)/\ns.length<=c/\Fr x sl H H'/\tm nb ws (ws.length-c) c ns l=z1h nb ws p sd,⟨_,p,[],sd,Z8,rfl,rfl,r.same s0,bL,(λ_ h=>by cases h),cn _,Fr.of_same s0,rfl⟩,?_⟩
 rintro m I H' ⟨c,ns,l,J,rfl,rfl,r',hl,oks,L,fr,A⟩
 refine Q5 m0 hn r' rfl λH1 s1=>?_;have W:=r'.same s1;have M:=fr.trans (Fr.of_same s1);cases S:nb (pk ws c)with
 |false=>
  refine bC ?_
  have e:z1h nb ws p sd=Z9 (ns,c,l):=by
   rw[<-A];cases hk:ws.length-c with
   |zero=>rfl
   |succ k=>show(if nb (pk ws c)=Z7 then _ else _)=_;rw[qf (by rw[S];decide)]
  rw[e]at q;refine⟨[Z8,Z9 (.od,.list (ns.map Z0)),Z8],F0 H1,(gJ (.tuple (ns.map Z0)) (if imms (ns.map Z0)then .fr else agG .od),.tuple (ns.map Z0)),qo rfl λi g d' e=>?_,rfl,λv C s2 N=>q C v (M.trans (Fr.of_same s2)) (W.same s2) (Rep.weak (λ_ _=>trivial) N)⟩;rcases i with _|_|_|i<;>cases e;exact⟨rfl,_,aK,rfl,d,_,rfl,.inl ⟨s1 _ _ hl,trivial⟩,yZ oks⟩
 |true=>
  refine bE ?_
  have oT:c<ws.length:=by
   cases pr c ws.length with
   |inl h=>exact h
   |inr h=>rw[C6 h,n0]at S;cases S
  have e:z1h nb ws p sd=if pk ws c∈ns then Z8 else tm nb ws (ws.length-(c+1)) (c+1) (ns++[pk ws c]) (l++[dQ (pk ws c) OFT]):=by
   rw[<-A];have:ws.length-c=(ws.length-(c+1))+1:=by omega
   rw[this];show(if nb (pk ws c)=Z7 then _ else _)=_;rw[qe S]
  have D:=(eD (p:=c) r.rw.gD).1;refine⟨λO C=>∃J,∃t,O=[Z9 (.ref x),Z9 (.ref d),J]/\Rg Z.K CR C x dx wl kd sl n ws ks (c+1) t/\C d=Z9 (.lst ((ns++[pk ws c]).map V.str))/\Fr x sl H C/\tm nb ws (ws.length-(c+1)) (c+1) (ns++[pk ws c]) t=z1h nb ws p sd,?_,?_⟩
  .rintro O C ⟨b3,t,rfl,N,u,F,P⟩
   refine⟨ws.length-(c+1),by omega,c+1,_,t,b3,rfl,rfl,N,u,λs hs=>?_,by rw[af];exact d6 L,F,P⟩;rcases a8.mp hs with h|h
   .exact oks s h
   .cases ar.mp h;exact D
  .show wE Z Rd.TK [Z9 (.ref x),Z9 (.ref d),J] H1 _;refine uA m1 W rfl λC k2 N=>?_;have F:=M.trans (Fr.iB k2);have u:=k2 _ _ B (s1 _ _ hl);refine⟨.str (pk ws c),rfl,.ref d,rfl,aK,aK,.str (pk ws c),.list (ns.map Z0),.bool (decide (pk ws c∈ns)),⟨rfl,D⟩,⟨d,_,rfl,.inl ⟨u,trivial⟩,yZ oks⟩,?_,λw H3 X j=>?_⟩
   .show(inD (.str (pk ws c)) (.list (ns.map Z0))>>=λb=>Res.ok (ZV b))=_;rw[Q6];rfl
   cases j;refine⟨_,rfl,?_⟩;have j:=N.same X;have Q:=F.trans (Fr.of_same X);by_cases y:pk ws c∈ns
   .rw[qe y]at e;rw[e]at q;rw[qk y];exact bE (qp rk j rfl Q q)
   .rw[qf y]at e;rw[ql y];refine bC ?_;have z:=X _ _ u;refine⟨.ref d,rfl,.inl ⟨rfl,_,.inl (.inl z)⟩,.str (pk ws c),rfl,d,_,.str (pk ws c),rfl,rfl,z,?_,?_⟩
    .rw[ai,bz];have:=r.qW;unfold LIM at this;omega
    have r4:Rg Z.K CR (upd H3 d (.lst (ns.map V.str++[.str (pk ws c)]))) x dx wl kd sl n ws ks (c+1) l:=by
     obtain⟨vs,Y,h2⟩:=j.sq;have Q7:kd≠d:=by rintro rfl;have:=j.kk;rw[z]at this;cases this
     exact⟨⟨by rw[aL (Ne.symm B)];exact j.rw.ins,by rw[aL (Ne.symm U)];exact j.rw.tj,j.rw.gD⟩,by rw[aL Q7];exact j.kk,j.mD,⟨vs,by rw[aL (Ne.symm G)];exact Y,Reps.bT (λa o P fx=>by rw[aL (by rintro rfl;rw[z]at P;cases P;exact fx.elim)];exact P) _ j.im h2⟩,j.im,j.wf,j.ne,j.len,j.qW⟩
    refine zb1 rk r4 rfl rfl D ?_ ?_ rfl ⟨["fact","open","word"],rfl⟩ (z7z hk) λH5 R r5=>?_
    .have:=W.len;omega
    .have:=r.qW;omega
    refine⟨Z9 (.str (pk ws c)),_,rfl,r5,?_,?_,e.symm⟩
    .rw[R d (.lst (ns.map V.str++[.str (pk ws c)])) B G bL,bn];rfl
    .refine Fr.trans (λb o Y h2 e=>?_) R;rw[aL (by rintro rfl;rw[f]at e;cases e)];exact Q b o Y h2 e
end
abbrev Ro:=Option (D×Nat×List D)
def lkG (ks:List (Str×Str))(nm:Str):Option Str:=(ks.find? λy=>decide (y.1=nm)).map (·.2)
def lM (nf:Str->Option Int)(ws:List Str)(nm:Str)(p:Nat)(sd:List D):Ro:=
 if pk ws p=">="then match nf (pk ws (p+1))with
  |some k=>if 1<=k/\k<=10 ^ 30 then Z9 (.int k,p+2,sd++[dQ nm (.tuple [.str "fact"])])else Z8
  |none=>Z8
 else Z8
def lN (ws:List Str)(f:Nat->List D->Ro)(p:Nat)(sd:List D):Ro:=
 if pk ws p="("then match f (p+1) sd with
  |none=>Z8
  |some (d1,p1,s1)=>if pk ws p1="and"\/pk ws p1="or"then match f (p1+1) s1 with
    |none=>Z8
    |some (d2,p2,s2)=>if pk ws p2=")"then Z9 (.tuple [.str (pk ws p1),d1,d2],p2+1,s2)else Z8
   else Z8
 else Z8
def fK (s:Str):Ro->Ro
 |some (d,p,sd)=>Z9 (.tuple [.str s,d],p,sd)
 |none=>Z8
def jP (s t:Str):Ro->Ro
 |some (d,p,sd)=>Z9 (.tuple [.str s,.str t,d],p,sd)
 |none=>Z8
def iW (nb:Str->Bool)(nf:Str->Option Int)(ws:List Str)(ks:List (Str×Str))(p:Nat)(sd:List D):Ro:=
 if nb (pk ws p)=Z7 then(if pk ws (p+1)=">="then jP "at" (pk ws p) (lM nf ws (pk ws p) (p+1) sd) else Z9 (if lkG ks (pk ws p)=Z9 ("fact":Str)then .tuple [.str "at",.str (pk ws p),.int 1]else .tuple [.str "is",.str (pk ws p)],p+1,sd++[dQ (pk ws p) OFT]))
 else Z8
def z18 (nb:Str->Bool)(nf:Str->Option Int)(ws:List Str)(ks:List (Str×Str)):Nat->Nat->List D->Ro
 |0,_,_=>Z8
 |r+1,p,sd=>if pk ws p="not"then fK "not" (z18 nb nf ws ks r (p+1) sd)
  else if pk ws p="("then lN ws (z18 nb nf ws ks r) p sd
  else iW nb nf ws ks p sd
def z1n (nb:Str->Bool)(nf:Str->Option Int)(ws:List Str)(ks:List (Str×Str)):Nat->Nat->List D->Ro
 |0,_,_=>Z8
 |r+1,p,sd=>if pk ws p="("then lN ws (z1n nb nf ws ks r) p sd
  else if pk ws p="not"then fK "not" (z1n nb nf ws ks r (p+1) sd)
  else if pk ws p="some"\/pk ws p="all"then fK (pk ws p) (z18 nb nf ws ks r (p+1) sd)
  else Z8
def RdOk (K:Z5)(CR:Addr)(mg:Str->Option Value)(x dx wl kd sl:Addr)(n:Int)(ws:List Str)(ks:List (Str×Str))(H:Hp)(Q:VK)(E:XK):Ro->Prop
 |some (d,p',mE)=>∀H' v,Fr x sl H H'->Rg K CR H' x dx wl kd sl n ws ks p' mE->Rep K H' aK v d->imm d=Z7->Q v H'
 |none=>nR mg "NoRow" "row" (.int n) x sl H E
def spR (K:Z5)(CR:Addr)(mg:Str->Option Value)(r:Nat)(f:List Str->List (Str×Str)->Nat->List D->Ro):Sp:=λvs H Q E=>∃x dx wl kd sl n ws ks p sd,vs=[.ref x,.int r]/\Rg K CR H x dx wl kd sl n ws ks p sd/\RdOk K CR mg x dx wl kd sl n ws ks H Q E (f ws ks p sd)
def jQ (K:Z5)(CR:Addr)(mg:Str->Option Value)(fa:Addr)(r:Nat)(f:List Str->List (Str×Str)->Nat->List D->Ro):Sp:=λvs H Q E=>∃x dx wl kd sl n ws ks p sd,vs=[.ref x,.ref fa,.int r]/\Rg K CR H x dx wl kd sl n ws ks p sd/\RdOk K CR mg x dx wl kd sl n ws ks H Q E (lN ws (f ws ks) p sd)
def spBd (K:Z5)(CR:Addr)(mg:Str->Option Value)(nf:Str->Option Int):Sp:=λvs H Q E=>∃x dx wl kd sl n ws ks p sd nm,vs=[.ref x,.str nm]/\Rg K CR H x dx wl kd sl n ws ks p sd/\Z1 nm=Z7/\RdOk K CR mg x dx wl kd sl n ws ks H Q E (lM nf ws nm p sd)
section
variable {Z:Wc}{H H0:Hp}{σ:L2.St}{CR x dx wl kd sl:Addr}{n:Int}{ws:List Str}{ks:List (Str×Str)}{p:Nat}{sd:List D}{nb:Str->Bool}
theorem RdOk.up {H1:Hp}{Q:VK}{E:XK}{K:Z5}{mg:Str->Option Value}{p':Nat}{mE:List D}{o:Ro}(q:RdOk K CR mg x dx wl kd sl n ws ks H Q E o)(fr:Fr x sl H H1)(r:Rg K CR H1 x dx wl kd sl n ws ks p' mE):RdOk K CR mg x dx wl kd sl n ws ks H1 Q E o:=by
 cases o with
 |none=>exact q.elim
 |some z=>exact λH' v f2 r2 rv im=>q H' v (fr.trans f2) r2 rv im
theorem z4v {Q:VK}{w:Str}(m2:Z.me[2]?=Z9 (CR,("take_word":Str),spTW Z.K CR Z.mg))(r:Rg Z.K CR H x dx wl kd sl n ws ks p sd)(h0:σ[0]?=Z9 (Z9 (.ref x)))(hw:Z1 w=Z7)
  (q:if pk ws p=w then ∀H',Fr x sl H H'->Rg Z.K CR H' x dx wl kd sl n ws ks (p+1) sd->Q .non H' else nR Z.mg "NoRow" "row" (.int n) x sl H Z.E):wE Z (.eC (.raw 0) 2 (.cons (.aY (.str w)) .nil)) σ H Q:=by
 rw[uz m2];refine⟨.ref x,h0,x,dx,_,rfl,r.rw.ins,rfl,_,F0 H,_,jA,rfl,λv H1 s1 r1=>?_⟩;obtain⟨rfl,_⟩:=r1;have r1:=r.same s1;refine⟨x,dx,wl,kd,sl,n,ws,p,w,rfl,r1.rw,hw,?_⟩;by_cases h:pk ws p=w
 .rw[qe h]at q ⊢;exact λH' k e=>q H' ((Fr.of_same s1).trans (Fr.iB k)) (r1.move k e (jf p))
 .rw[qf h]at q ⊢;exact q.elim
theorem HW (hi:σ[i]?=Z9 (Z9 (.str a)))(Q8:Z1 a=Z7)(q:∀H',Same H H'->Q (!decide (a=b1\/a=b2)) H'):wT Z (.tc .NotIn (.raw i) (.aY (.tup (.cons (.str b1) (.cons (.str b2) .nil))))) σ H Q:=by
 refine⟨.str a,hi,_,F0 H,_,jA,rfl,λv H1 s1 r1=>?_⟩;refine⟨aK,_,.str a,.tuple [.str b1,.str b2],.bool (!decide (a=b1\/a=b2)),⟨rfl,Q8⟩,r1,?_,λw H2 s2 r2=>?_⟩
 .show((Res.ok (bO (.str b1) (.str a)||(bO (.str b2) (.str a)||Z6))>>=λb=>Res.ok (!b))>>=λb=>Res.ok (ZV b))=_;rw[iU,iU]
  have:(decide (b1=a)||(decide (b2=a)||Z6))=decide (a=b1\/a=b2):=by
   by_cases h1:a=b1
   .subst h1;simp
   .by_cases h2:a=b2
    .subst h2;simp
    .have n1:b1≠a:=λz=>h1 z.symm;have n2:b2≠a:=λz=>h2 z.symm;simp[h1,h2,n1,n2]
  rw[this];rfl
 .cases r2;exact⟨_,rfl,q H2 (s1.trans s2)⟩
theorem zde (hf:Z.hf[0]?=Z9 (fa,spR Z.K CR Z.mg r f))(g:Rg Z.K CR H x dx wl kd sl n ws ks p sd)(h0:σ[0]?=Z9 (Z9 (.ref x)))(a:σ[1]?=Z9 (Z9 (.ref fa)))(b:σ[2]?=Z9 (Z9 (.int r)))
  (q:RdOk Z.K CR Z.mg x dx wl kd sl n ws ks H Q Z.E (f ws ks p sd)):wE Z (.oM 1 0 (.cons (.raw 0) (.cons (.raw 2) .nil))) σ H Q:=by
 have e:wE Z (.oM 1 0 (.cons (.raw 0) (.cons (.raw 2) .nil)))=λσ H Q=>σ[1]?=Z9 (Z9 (V.ref fa))/\jX (spR Z.K CR Z.mg r f) [] Z.E (wA Z (.cons (.raw 0) (.cons (.raw 2) .nil))) σ H Q:=by show(match Z.hf[0]? with|some r=>(λσ H Q=>σ[1]?=Z9 (Z9 (V.ref r.1))/\jX r.2 [] Z.E (wA Z (.cons (.raw 0) (.cons (.raw 2) .nil))) σ H Q:TE)|none=>gC)=_;rw[hf]
 rw[e];exact⟨a,.ref x,h0,.int r,b,x,dx,wl,kd,sl,n,ws,ks,p,sd,rfl,g,q⟩
theorem zfl {D0:Ends}{fa:Addr}{r:Nat}{f:List Str->List (Str×Str)->Nat->List D->Ro}(rk:RowK Z.K CR)(m1:Z.me[1]?=Z9 (CR,("take":Str),z1g Z.K CR))(m2:Z.me[2]?=Z9 (CR,("take_word":Str),spTW Z.K CR Z.mg))(hf:Z.hf[0]?=Z9 (fa,spR Z.K CR Z.mg r f))(g:Rg Z.K CR H x dx wl kd sl n ws ks p sd)
  (q:RdOk Z.K CR Z.mg x dx wl kd sl n ws ks H D0.rt Z.E (lN ws (f ws ks) p sd)):wS Z Rd.fJ D0 [Z9 (.ref x),Z9 (.ref fa),Z9 (.int r),Z8,Z8,Z8] H:=by
 show wE Z (.eC (.raw 0) 2 (.cons (.aY (.str "(")) .nil)) _ H _;refine z4v m2 g rfl (by decide+kernel) ?_;by_cases h:¬(pk ws p="(")
 .unfold lN at q;rw[qf h]at q ⊢;exact q
 have h:=qi h;unfold lN at q;rw[qe h]at q ⊢;intro H1 f1 g1;show wE Z (.oM 1 0 (.cons (.raw 0) (.cons (.raw 2) .nil))) [Z9 (.ref x),Z9 (.ref fa),Z9 (.int r),Z8,Z8,Z8] H1 _;refine zde hf g1 rfl rfl rfl ?_;cases e1:f ws ks (p+1) sd with
 |none=>rw[e1]at q;exact q.elim
 |some z=>
 obtain⟨d1,p1,s1⟩:=z;rw[e1]at q;intro H2 v1 f2 g2 wu oN;show wE Z Rd.TK [Z9 (.ref x),Z9 (.ref fa),Z9 (.int r),Z9 v1,Z8,Z8] H2 _;refine uA m1 g2 rfl λH3 k3 g3=>?_;have Q9:Rep Z.K H3 aK v1 d1:=Rep.bT (λa o e fx=>k3 a o (by rintro rfl;rw[g2.rw.ins]at e;cases e;exact fx.elim) e) _ oN wu;have qq:=(eD (p:=p1) g.rw.gD).1;show wS Z (.seq _ _) D0 [Z9 (.ref x),Z9 (.ref fa),Z9 (.int r),Z9 v1,Z9 (.str (pk ws p1)),Z8] H3;refine HW (i:=4) (a:=pk ws p1) (b1:="and") (b2:="or") rfl qq λH4 s4=>?_;have g4:=g3.same s4;have f4:Fr x sl H H4:=((f1.trans f2).trans (Fr.iB k3)).trans (Fr.of_same s4);by_cases ho:¬(pk ws p1="and"\/pk ws p1="or")
 .rw[ql ho];have q:RdOk Z.K CR Z.mg x dx wl kd sl n ws ks H D0.rt Z.E none:=by simpa only[qf ho]using q
  exact bE (qp rk g4 rfl f4 q)
 have ho:=qi ho;rw[qk ho];refine bC ?_;show wE Z (.oM 1 0 (.cons (.raw 0) (.cons (.raw 2) .nil))) [Z9 (.ref x),Z9 (.ref fa),Z9 (.int r),Z9 v1,Z9 (.str (pk ws p1)),Z8] H4 _;refine zde hf g4 rfl rfl rfl ?_
 have q:RdOk Z.K CR Z.mg x dx wl kd sl n ws ks H D0.rt Z.E (match f ws ks (p1+1) s1 with
  |none=>Z8
  |some (d2,p2,s2)=>if pk ws p2=")"then Z9 (.tuple [.str (pk ws p1),d1,d2],p2+1,s2)else Z8):=by simpa only[qe ho]using q
 cases e2:f ws ks (p1+1) s1 with
 |none=>rw[e2]at q;exact q.elim
 |some z=>
 obtain⟨d2,p2,s2⟩:=z;rw[e2]at q;have q:RdOk Z.K CR Z.mg x dx wl kd sl n ws ks H D0.rt Z.E (if pk ws p2=")"then Z9 (.tuple [.str (pk ws p1),d1,d2],p2+1,s2)else Z8):=q;intro H5 v2 f5 g5 wx HX
 have Q':∀a o,H4 a=Z9 o->Fix o->H5 a=Z9 o:=λa o e fx=>f5 a o (by rintro rfl;rw[g4.rw.ins]at e;cases e;exact fx.elim) (by
  obtain⟨vs,hs,_⟩:=g4.sq
  rintro rfl;rw[hs]at e;cases e;exact fx.elim) e
 have C8:Rep Z.K H5 aK v1 d1:=Rep.bT Q' _ oN (Q9.same s4 λ_ h=>h);show wE Z (.eC (.raw 0) 2 (.cons (.aY (.str ")")) .nil)) [Z9 (.ref x),Z9 (.ref fa),Z9 (.int r),Z9 v1,Z9 (.str (pk ws p1)),Z9 v2] H5 _;refine z4v m2 g5 rfl (by decide+kernel) ?_;by_cases hc:¬(pk ws p2=")")
 .rw[qf hc]at q ⊢;exact q.elim
 have hc:=qi hc;rw[qe hc]at q ⊢;intro H6 f6 g6
 have HY:∀a o,H5 a=Z9 o->Fix o->H6 a=Z9 o:=λa o e fx=>f6 a o (by rintro rfl;rw[g5.rw.ins]at e;cases e;exact fx.elim) (by
  obtain⟨vs,hs,_⟩:=g5.sq
  rintro rfl;rw[hs]at e;cases e;exact fx.elim) e
 refine⟨.str (pk ws p1),rfl,v1,rfl,v2,rfl,(show 3<=ay by rw[bz];decide),λt ht=>?_⟩;have s7:Same H6 (upd H6 t (.tup [.str (pk ws p1),v1,v2])):=Same.upd ht;refine q _ _ (((f4.trans f5).trans f6).trans (Fr.of_same s7)) (g6.same s7) ⟨t,_,rfl,.inl (.inl bL),⟨_,_,rfl,⟨rfl,qq⟩,_,_,rfl,(Rep.bT HY _ oN C8).same s7 (λ_ h=>h),_,_,rfl,(Rep.bT HY _ HX wx).same s7 (λ_ h=>h),rfl⟩⟩ ?_;show(Z7&&(imm d1&&(imm d2&&Z7)))=Z7;rw[oN,HX];rfl
end
def optD:Option Int->D
 |some k=>.int k
 |none=>.none
def NfSp (Z:Wc)(j:Nat)(nf:Str->Option Int):Prop:=∃m,Z.fn[j]?=Z9 (spD Z.K 1 m)/\∀s,okS s->m [.str s]=.ok (.fr,optD (nf s))
section
variable {Z:Wc}{H H0:Hp}{σ:L2.St}{CR x dx wl kd sl:Addr}{n:Int}{ws:List Str}{ks:List (Str×Str)}{p:Nat}{sd:List D}{nb:Str->Bool}{nf:Str->Option Int}
theorem Ra (k:Int):dR Κ Φ (.or (.tv (.rW Z6 (.var 2))) (.not (.tv (.chain .LtE .LtE (.int 1) (.var 2) (.bin .Pow (.int 10) (.int 30)))))) [Z8,Z8,Z9 (.od,.int k)]=.ok (!(decide (1<=k)&&decide (k<=10 ^ 30))):=by
 show(((Res.ok (decide (1<=k))>>=λc=>if c=Z7 then aE Κ Φ (.bin .Pow (.int 10) (.int 30)) [Z8,Z8,Z9 (.od,.int k)]>>=λz=>cmpD .LtE (.int k) z.2>>=λa=>Res.ok (G.fr,ZV a)else Res.ok (G.fr,ZV Z6))>>=λx=>fU x.2)>>=λc=>Res.ok (!c))=_;by_cases h:1<=k
 .rw[qk h];rfl
 .rw[ql h];rfl
theorem zo1 (c:RowK Z.K CR)(m1:Z.me[1]?=Z9 (CR,("take":Str),z1g Z.K CR))(t:Z.me[2]?=Z9 (CR,("take_word":Str),spTW Z.K CR Z.mg))(hn:NfSp Z 0 nf)(u:nf ""=Z8)(g:Rg Z.K CR H x dx wl kd sl n ws ks p sd)(d:Z1 nm=Z7)
  (q:RdOk Z.K CR Z.mg x dx wl kd sl n ws ks H f.rt Z.E (lM nf ws nm p sd)):wS Z Rd.readBound f [Z9 (.ref x),Z9 (.str nm),Z8] H:=by
 refine z4v t g rfl (by decide+kernel) ?_;unfold lM at q;by_cases h:¬(pk ws p=">=")
 .rw[qf h]at q ⊢;exact q
 have h:=qi h;rw[qe h]at q ⊢;intro H1 f1 w;obtain⟨m,hm,hn⟩:=hn;show wE Z (.cK 0 (.cons Rd.TK .nil)) [Z9 (.ref x),Z9 (.str nm),Z8] H1 _;rw[mC hm];refine uA m1 w rfl λF k2 g2=>?_;have ok:=eD (p:=p+1) g.rw.gD;have f2:=f1.trans (Fr.iB k2);refine⟨aK,[.str (pk ws (p+1))],(.fr,optD (nf (pk ws (p+1)))),rfl,⟨_,_,rfl,⟨rfl,ok.1⟩,rfl⟩,hn _ ok,λv j l b=>?_⟩;have o:=g2.same l;have f3:=f2.trans (Fr.of_same l);cases hf:nf (pk ws (p+1))with
 |none=>
  rw[hf]at q b;subst b;refine⟨[Z8,Z8,Z9 (.od,.none)],F0 j,Z7,qo rfl λi g y e=>?_,rfl,λz a=>?_⟩
  .rcases i with _|_|_|i<;>cases e;exact⟨rfl,_,aK,rfl,rfl⟩
  exact bE (qp c (o.same a) rfl (f3.trans (Fr.of_same a)) q)
 |some k=>
  rw[hf]at q b;subst b;have q:RdOk Z.K CR Z.mg x dx wl kd sl n ws ks H f.rt Z.E (if 1<=k/\k<=10 ^ 30 then Z9 (.int k,p+2,sd++[dQ nm (.tuple [.str "fact"])])else Z8):=q;refine⟨[Z8,Z8,Z9 (.od,.int k)],F0 j,!(decide (1<=k)&&decide (k<=10 ^ 30)),qo rfl λi g y e=>?_,?_,λz a=>?_⟩
  .rcases i with _|_|_|i<;>cases e;exact⟨rfl,_,aK,rfl,rfl⟩
  .exact Ra k
  have r:=o.same a;have s:=f3.trans (Fr.of_same a);by_cases hk:¬(1<=k/\k<=10 ^ 30)
  .rw[qf hk]at q;have:(!(decide (1<=k)&&decide (k<=10 ^ 30)))=true:=by rw[<-Bool.decide_and,ql hk];rfl
   rw[this];exact bE (qp c r rfl s q)
  have hk:=qi hk;rw[qe hk]at q;have:(!(decide (1<=k)&&decide (k<=10 ^ 30)))=false:=by rw[<-Bool.decide_and,qk hk];rfl
  rw[this];refine bC ?_
  have G:p+1<ws.length:=by
   cases pr (p+1) ws.length with
   |inl h=>exact h
   |inr h=>rw[C6 h,u]at hf;cases hf
  refine zb1 (e:=.aY (.tup (.cons (.str "fact") .nil))) c r rfl rfl d ?_ ?_ rfl ⟨["fact"],rfl⟩ (λH Q q=>⟨_,F0 H,_,jA,rfl,λv H1 s1 A=>q v H1 s1 (Rep.weak (λ_ _=>trivial) A)⟩) λB C D=>?_
  .have:=g.len;omega
  .have:=g.qW;omega
  exact⟨.int k,rfl,q B _ (s.trans C) D rfl rfl⟩
theorem HZ {r:Nat}(a:σ[1]?=Z9 (Z9 (.int r)))(q:∀H',Same H H'->Q (decide (r<1)) H'):wT Z (.tc .Lt (.raw 1) (.aY (.int 1))) σ H Q:=by
 refine⟨.int r,a,_,F0 H,_,jA,rfl,λv H1 s1 b=>?_⟩;cases b;refine⟨aK,aK,.int r,.int 1,.bool (decide (r<1)),rfl,rfl,?_,λw c d e=>?_⟩
 .show Res.ok (ZV (decide ((r:Int)<1)))=_
  have:decide ((r:Int)<1)=decide (r<1):=by
   by_cases h:r<1
   .rw[qk h,qk (by omega)]
   .rw[ql h,ql (by omega)]
  rw[this]
 .cases e;exact⟨_,rfl,q c (s1.trans d)⟩
theorem Ia {r:Nat}(a:σ[1]?=Z9 (Z9 (.int (r+1:Nat))))(q:∀H',Same H H'->Q (.int r) H'):wE Z Rd.RM σ H Q:=by
 refine⟨_,a,_,F0 H,_,jA,rfl,λv H1 s1 b=>?_⟩;cases b;refine⟨aK,aK,.int (r+1:Nat),.int 1,.int r,rfl,rfl,?_,λw c d e _=>?_⟩
 .show Res.ok (ZX (((r+1:Nat):Int)-1))=_;have:((r+1:Nat):Int)-1=r:=by omega
  rw[this]
 .cases e;exact q c (s1.trans d)
theorem Ib:cQ (gQ ks) (.inr nm)=(lkG ks nm).map V.str:=by
 unfold cQ lkG gQ
 induction ks with
 |nil=>rfl
 |cons y ks a=>
  rw[bc,cz,cz];by_cases h:y.1=nm
  .have :(Sum.inr y.1:Key)=.inr nm:=by rw[h]
   rw[qk h,qk this];rfl
  .have :¬(Sum.inr y.1:Key)=.inr nm:=λz=>h (Sum.inr.inj z);rw[ql h,ql this];exact a
theorem Ic (h:∀y∈ks,Z1 y.1=Z7/\Z1 y.2=Z7)(e:lkG ks nm=Z9 s):Z1 s=true:=by obtain⟨y,a,rfl⟩:=dg.mp e;exact(h y (kr a)).2
theorem Rb (j:RowK Z.K CR)(r:Rg Z.K CR H x dx wl kd sl n ws ks p sd)(h0:σ[0]?=Z9 (Z9 (.ref x)))(hi:σ[i]?=Z9 (Z9 (.str nm)))(q:∀H',Same H H'->Q (decide (lkG ks nm=Z9 s)) H'):wT Z (.tc .Eq (.get Rd.KD (.raw i)) (.aY (.str s))) σ H Q:=by
 show wE Z Rd.KD σ H λx H1=>∃a,x=.ref a/\IsD H1 a/\(wE Z (.raw i)) σ H1 λy c=>∃o,DGet c a y o/\(wE Z (.aY (.str s))) σ c λl m=>lX Z.K (mB (cmpD .Eq)) (o.getD .non) l m λx H'=>∃k,x=V.bl k/\Q k H';refine nQ j r.rw h0 dc rfl ⟨kd,rfl,.inl ⟨_,.inl r.kk⟩,.str nm,hi,_,.inl ⟨_,.inr nm,.inl r.kk,rfl,rfl⟩,?_⟩;rw[Ib];refine⟨_,F0 H,_,jA,rfl,λv H1 s1 g=>?_⟩;cases e:lkG ks nm with
 |none=>rw[e]at q;refine⟨aK,_,.none,.str s,.bool Z6,rfl,g,rfl,λw c d f=>?_⟩;cases f;exact⟨_,rfl,q c (s1.trans d)⟩
 |some t=>
  rw[e]at q;refine⟨aK,_,.str t,.str s,.bool (decide (t=s)),⟨rfl,Ic r.mD e⟩,g,?_,λw c d f=>?_⟩
  .show(Res.ok (bO (.str t) (.str s))>>=λb=>Res.ok (ZV b))=_;rw[iU];rfl
  cases f
  have:decide (Z9 t=Z9 s)=decide (t=s):=by
   by_cases h:t=s
   .subst h;simp
   .rw[ql h,ql (λz=>h (qg z))]
  rw[this]at q;exact⟨_,rfl,q c (s1.trans d)⟩
theorem zli {Dn:Ends}{e:W}{s:Str}{es:W}{f:Ro}(oks:Z1 s=Z7)(hs:∀(H:Hp) (Q:VK),(∀H',Same H H'->Q (.str s) H')->wE Z es σ H Q)(r:Rg Z.K CR H x dx wl kd sl n ws ks p sd)
  (he:∀(H':Hp) (Q:VK),Same H H'->RdOk Z.K CR Z.mg x dx wl kd sl n ws ks H' Q Z.E f->wE Z e σ H' Q)
  (q:RdOk Z.K CR Z.mg x dx wl kd sl n ws ks H Dn.rt Z.E (fK s f)):wS Z (.seq (.ret (.tup (.cons es (.cons e .nil)))) .nil) Dn σ H:=by
 refine hs H _ λH1 s1=>he H1 _ s1 ?_;cases f with
 |none=>exact q.elim
 |some z=>obtain⟨d,p',mE⟩:=z;intro H2 v f2 r2 rv im;refine⟨(show 2<=ay by rw[bz];decide),λt ht=>?_⟩;have s3:Same H2 (upd H2 t (.tup [.str s,v])):=Same.upd ht;refine q _ _ (((Fr.of_same s1).trans f2).trans (Fr.of_same s3)) (r2.same s3) ⟨t,_,rfl,.inl (.inl bL),⟨_,_,rfl,⟨rfl,oks⟩,_,_,rfl,rv.same s3 (λ_ h=>h),rfl⟩⟩ ?_;show(Z7&&(imm d&&Z7))=Z7;rw[im];rfl
theorem qX (H:Hp)(Q:VK)(q:∀H',Same H H'->Q (.str s) H'):wE Z (.aY (.str s)) σ H Q:=⟨_,F0 H,_,jA,rfl,λv H1 s1 a=>by obtain⟨rfl,_⟩:=a;exact q H1 s1⟩
theorem C9 (a:Z.fn[j]?=Z9 (spR Z.K CR Z.mg r f))(g:Rg Z.K CR H x dx wl kd sl n ws ks p sd)(h0:σ[0]?=Z9 (Z9 (.ref x)))(b:σ[1]?=Z9 (Z9 (.int (r+1:Nat))))(q:RdOk Z.K CR Z.mg x dx wl kd sl n ws ks H Q Z.E (f ws ks p sd)):wE Z (.cK j (.cons (.raw 0) (.cons Rd.RM .nil))) σ H Q:=by rw[mC a];exact⟨.ref x,h0,Ia b λH1 s1=>⟨x,dx,wl,kd,sl,n,ws,ks,p,sd,rfl,g.same s1,q.up (Fr.of_same s1) (g.same s1)⟩⟩
theorem Ie (a:Z.fn[1]?=Z9 (jQ Z.K CR Z.mg fa r f))(hf:Z.hf[0]?=Z9 (fa,sp))(g:Rg Z.K CR H x dx wl kd sl n ws ks p sd)(h0:σ[0]?=Z9 (Z9 (.ref x)))(b:σ[1]?=Z9 (Z9 (.int (r+1:Nat))))(q:RdOk Z.K CR Z.mg x dx wl kd sl n ws ks H Q Z.E (lN ws (f ws ks) p sd)):wE Z (.cK 1 (.cons (.raw 0) (.cons (.gf 0) (.cons Rd.RM .nil)))) σ H Q:=by
 rw[mC a];refine⟨.ref x,h0,?_⟩;have c:wE Z (.gf 0)=λ_ H Q=>Q (V.ref fa) H:=by show(match Z.hf[0]? with|some r=>(λ_ H Q=>Q (V.ref r.1) H:TE)|none=>gC)=_;rw[hf]
 show wE Z (.gf 0) σ H λy H1=>wE Z Rd.RM σ H1 λz d=>jQ Z.K CR Z.mg fa r f [.ref x,y,z] d Q Z.E;rw[c];exact Ia b λH1 s1=>⟨x,dx,wl,kd,sl,n,ws,ks,p,sd,rfl,g.same s1,q.up (Fr.of_same s1) (g.same s1)⟩
end
section
variable {Z:Wc}{H H0:Hp}{σ:L2.St}{CR x dx wl kd sl:Addr}{n:Int}{ws:List Str}{ks:List (Str×Str)}{p:Nat}{sd:List D}{nb:Str->Bool}{nf:Str->Option Int}
theorem zpn {D0:Ends}{a1 a2:Option V}(rk:RowK Z.K CR)(m0:Z.me[0]?=Z9 (CR,("peek":Str),z1k Z.K CR))(m3:Z.me[3]?=Z9 (CR,("take_name":Str),spTN Z.K CR Z.mg nb))(f2:Z.fn[2]?=Z9 (spBd Z.K CR Z.mg nf))(hk:OfK Z)(n0:nb ""=Z6)(g:Rg Z.K CR H x dx wl kd sl n ws ks p sd)
  (q:RdOk Z.K CR Z.mg x dx wl kd sl n ws ks H D0.rt Z.E (iW nb nf ws ks p sd)):wS Z Rd.kG D0 [Z9 (.ref x),a1,a2] H:=by
 show wE Z Rd.TN [Z9 (.ref x),a1,a2] H _;refine zqf m3 g.rw rfl ?_;unfold iW at q;by_cases hb:¬(nb (pk ws p)=Z7)
 .rw[qf hb]at q ⊢;exact q.elim
 have hb:=qi hb;rw[qe hb]at q ⊢;intro H1 k1 e1;have g1:=g.move k1 e1 (jf p);have Rc:Fr x sl H H1:=Fr.iB k1;have jR:=(eD (p:=p) g.rw.gD).1
 have oT:p<ws.length:=by
  cases pr p ws.length with
  |inl h=>exact h
  |inr h=>rw[C6 h,n0]at hb;cases hb
 show wS Z (.seq (.aX (.tc .Eq Rd.PE (.aY (.str ">="))) _ .nil) _) D0 [Z9 (.ref x),a1,Z9 (.str (pk ws p))] H1;refine y6 m0 g1 rfl λH2 s2=>?_;have g2:=g1.same s2;have Ig:Fr x sl H H2:=Rc.trans (Fr.of_same s2);by_cases hg:pk ws (p+1)=">="
 .rw[qe hg]at q;rw[qk hg];refine bE ?_;show wE Z (.aY (.str "at")) [Z9 (.ref x),a1,Z9 (.str (pk ws p))] H2 _;refine qX H2 _ λH3 s3=>?_;refine⟨.str (pk ws p),rfl,?_⟩;show wE Z (.cK 2 (.cons (.raw 0) (.cons (.raw 2) .nil))) [Z9 (.ref x),a1,Z9 (.str (pk ws p))] H3 _;rw[mC f2];have g3:=g2.same s3;have t7:Fr x sl H H3:=Ig.trans (Fr.of_same s3);refine⟨.ref x,rfl,.str (pk ws p),rfl,x,dx,wl,kd,sl,n,ws,ks,p+1,sd,pk ws p,rfl,g3,jR,?_⟩;cases hz:lM nf ws (pk ws p) (p+1) sd with
  |none=>rw[hz]at q;exact q.elim
  |some z=>obtain⟨d,p',mE⟩:=z;rw[hz]at q;intro H4 v f4 g4 rv im;refine⟨(show 3<=ay by rw[bz];decide),λt ht=>?_⟩;have s5:Same H4 (upd H4 t (.tup [.str "at",.str (pk ws p),v])):=Same.upd ht;refine q _ _ ((t7.trans f4).trans (Fr.of_same s5)) (g4.same s5) ⟨t,_,rfl,.inl (.inl bL),⟨_,_,rfl,⟨rfl,by decide+kernel⟩,_,_,rfl,⟨rfl,jR⟩,_,_,rfl,rv.same s5 (λ_ h=>h),rfl⟩⟩ ?_;show(Z7&&(Z7&&(imm d&&Z7)))=Z7;rw[im];rfl
 .rw[qf hg]at q;rw[ql hg];refine bC ?_;refine zb1 (d:=OFT) (nm:=pk ws p) rk g2 rfl rfl jR (Nat.lt_succ_of_le g.len) (bh oT g.qW) rfl ⟨["fact","open","word"],rfl⟩ (z7z hk) λH3 f3 g3=>?_;have t7:=Ig.trans f3;show wT Z (.tc .Eq (.get Rd.KD (.raw 2)) (.aY (.str "fact"))) [Z9 (.ref x),a1,Z9 (.str (pk ws p))] H3 _;refine Rb rk g3 rfl rfl λH4 s4=>?_;have g4:=g3.same s4;have Ih:=t7.trans (Fr.of_same (x:=x) (sl:=sl) s4);have q:∀H' v,Fr x sl H H'->Rg Z.K CR H' x dx wl kd sl n ws ks (p+1) (sd++[dQ (pk ws p) OFT])->Rep Z.K H' aK v (if lkG ks (pk ws p)=Z9 ("fact":Str)then .tuple [.str "at",.str (pk ws p),.int 1]else .tuple [.str "is",.str (pk ws p)])->imm (if lkG ks (pk ws p)=Z9 ("fact":Str)then .tuple [.str "at",.str (pk ws p),.int 1]else .tuple [.str "is",.str (pk ws p)]:D)=Z7->D0.rt v H':=q;by_cases hf:lkG ks (pk ws p)=Z9 ("fact":Str)
  .rw[qe hf]at q;rw[qk hf];refine bE ?_;show wE Z (.aY (.str "at")) [Z9 (.ref x),a1,Z9 (.str (pk ws p))] H4 _;refine qX H4 _ λH5 s5=>⟨.str (pk ws p),rfl,_,F0 H5,_,jA,rfl,λv H6 s6 r6=>?_⟩;cases r6;refine⟨(show 3<=ay by rw[bz];decide),λt ht=>?_⟩;have s7:=(s5.trans s6).trans (Same.upd (o:=.tup [.str "at",.str (pk ws p),.int 1]) ht);exact q _ _ (Ih.trans (Fr.of_same s7)) (g4.same s7) ⟨t,_,rfl,.inl (.inl bL),⟨_,_,rfl,⟨rfl,by decide+kernel⟩,_,_,rfl,⟨rfl,jR⟩,_,_,rfl,rfl,rfl⟩⟩ rfl
  .rw[qf hf]at q;rw[ql hf];refine bC ?_;show wE Z (.aY (.str "is")) [Z9 (.ref x),a1,Z9 (.str (pk ws p))] H4 _;refine qX H4 _ λH5 s5=>⟨.str (pk ws p),rfl,?_⟩;refine⟨(show 2<=ay by rw[bz];decide),λt ht=>?_⟩;have s7:=s5.trans (Same.upd (o:=.tup [.str "is",.str (pk ws p)]) ht);exact q _ _ (Ih.trans (Fr.of_same s7)) (g4.same s7) ⟨t,_,rfl,.inl (.inl bL),⟨_,_,rfl,⟨rfl,by decide+kernel⟩,_,_,rfl,⟨rfl,jR⟩,rfl⟩⟩ rfl
structure SayZ (Z:Wc)(CR:Addr)(nb:Str->Bool)(nf:Str->Option Int)(r:Nat):Prop where
 m0:Z.me[0]?=Z9 (CR,("peek":Str),z1k Z.K CR)
 m1:Z.me[1]?=Z9 (CR,("take":Str),z1g Z.K CR)
 m3:Z.me[3]?=Z9 (CR,("take_name":Str),spTN Z.K CR Z.mg nb)
 f2:Z.fn[2]?=Z9 (spBd Z.K CR Z.mg nf)
 hk:OfK Z
 dn:∀r',r=r'+1->Z.fn[0]?=Z9 (spR Z.K CR Z.mg r' λws ks=>z18 nb nf ws ks r')/\∃fa sp,Z.hf[0]?=Z9 (fa,sp)/\Z.fn[1]?=Z9 (jQ Z.K CR Z.mg fa r' λws ks=>z18 nb nf ws ks r')
theorem zlj (c:RowK Z.K CR)(z:SayZ Z CR nb nf r)(i:nb ""=Z6)(g:Rg Z.K CR H x dx wl kd sl n ws ks p sd)
  (q:RdOk Z.K CR Z.mg x dx wl kd sl n ws ks H d.rt Z.E (z18 nb nf ws ks r p sd)):wS Z Rd.fH d [Z9 (.ref x),Z9 (.int r),Z8] H:=by
 refine HZ rfl λH1 s1=>?_;have b:=g.same s1;have f1:Fr x sl H H1:=Fr.of_same s1;cases r with
 |zero=>exact bE (qp c b rfl f1 q)
 |succ r=>
  refine bC ?_;obtain⟨j,fa,sp,k,l⟩:=z.dn r rfl;have q:RdOk Z.K CR Z.mg x dx wl kd sl n ws ks H d.rt Z.E (if pk ws p="not"then fK "not" (z18 nb nf ws ks r (p+1) sd)else if pk ws p="("then lN ws (z18 nb nf ws ks r) p sd else iW nb nf ws ks p sd):=q;refine y6 z.m0 b rfl λo e=>?_;have g2:=b.same e;have f2:=f1.trans (Fr.of_same e);by_cases h:pk ws p="not"
  .rw[qe h]at q;rw[qk h];refine bE ?_;refine uA z.m1 g2 rfl λm k3 a=>?_;have f3:=f2.trans (Fr.iB k3);exact zli (by decide+kernel) qX a (λH' Q s q=>C9 j (a.same s) rfl rfl q) (q.up f3 a)
  rw[qf h]at q;rw[ql h];refine bC ?_;refine y6 z.m0 g2 rfl λm f=>?_;have a:=g2.same f;have f3:=f2.trans (Fr.of_same f);by_cases h:pk ws p="("
  .rw[qe h]at q;rw[qk h];exact bE (Ie l k a rfl rfl (q.up f3 a))
  rw[qf h]at q;rw[ql h];exact bC (zpn c z.m0 z.m3 z.f2 z.hk i a (q.up f3 a))
structure AskZ (Z:Wc)(CR:Addr)(nb:Str->Bool)(nf:Str->Option Int)(r:Nat):Prop where
 m0:Z.me[0]?=Z9 (CR,("peek":Str),z1k Z.K CR)
 m1:Z.me[1]?=Z9 (CR,("take":Str),z1g Z.K CR)
 dn:∀r',r=r'+1->Z.fn[0]?=Z9 (spR Z.K CR Z.mg r' λws ks=>z1n nb nf ws ks r')/\(∃fa sp,Z.hf[0]?=Z9 (fa,sp)/\Z.fn[1]?=Z9 (jQ Z.K CR Z.mg fa r' λws ks=>z1n nb nf ws ks r'))/\Z.fn[2]?=Z9 (spR Z.K CR Z.mg r' λws ks=>z18 nb nf ws ks r')
theorem zkm (e:RowK Z.K CR)(z:AskZ Z CR nb nf r)(g:Rg Z.K CR H x dx wl kd sl n ws ks p sd)
  (q:RdOk Z.K CR Z.mg x dx wl kd sl n ws ks H f.rt Z.E (z1n nb nf ws ks r p sd)):wS Z Rd.fI f [Z9 (.ref x),Z9 (.int r),Z8] H:=by
 refine HZ rfl λH1 s1=>?_;have d:=g.same s1;have f1:Fr x sl H H1:=Fr.of_same s1;cases r with
 |zero=>exact bE (qp e d rfl f1 q)
 |succ r=>
  refine bC ?_;obtain⟨o,⟨fa,sp,t,u⟩,v⟩:=z.dn r rfl;have q:RdOk Z.K CR Z.mg x dx wl kd sl n ws ks H f.rt Z.E (if pk ws p="("then lN ws (z1n nb nf ws ks r) p sd else if pk ws p="not"then fK "not" (z1n nb nf ws ks r (p+1) sd)else if pk ws p="some"\/pk ws p="all"then fK (pk ws p) (z18 nb nf ws ks r (p+1) sd)else Z8):=q;refine y6 z.m0 d rfl λy i=>?_;have g2:=d.same i;have f2:=f1.trans (Fr.of_same i);by_cases h:pk ws p="("
  .rw[qe h]at q;rw[qk h];exact bE (Ie u t g2 rfl rfl (q.up f2 g2))
  rw[qf h]at q;rw[ql h];refine bC ?_;refine uA z.m1 g2 rfl λA k3 w=>?_;have f3:=f2.trans (Fr.iB k3);have a:=(eD (p:=p) g.rw.gD).1;refine xg rfl a λB j=>?_;have b:=w.same j;have k:=f3.trans (Fr.of_same j);by_cases h:pk ws p="not"
  .rw[qe h]at q;rw[qk h];exact bE (zli (by decide+kernel) qX b (λH' Q s q=>C9 o (b.same s) rfl rfl q) (q.up k b))
  rw[qf h]at q;rw[ql h];refine bC ?_;refine HW rfl a λC l=>?_;have c:=b.same l;have m:=k.trans (Fr.of_same l);by_cases h:¬(pk ws p="some"\/pk ws p="all")
  .rw[qf h]at q;rw[ql h];exact bE (qp e c rfl m q)
  have h:=qi h;rw[qe h]at q;rw[qk h];exact bC (zli a (λH Q q=>⟨_,rfl,q H (Same.refl H)⟩) c (λH' Q s q=>C9 v (c.same s) rfl rfl q) (q.up m c))
end
def eM (nb:Str->Bool)(ws:List Str)(p:Nat):Bool:=nb (pk ws p)&&decide (pk ws (p+1)="if")
def cntO (ks:List (Str×Str)):Nat:=(ks.map (·.2)).countP (· ==("open":Str))
def iC (nb:Str->Bool)(ws:List Str)(ks:List (Str×Str))(p:Nat)(sd:List D):Ro:=
 if cntO ks=4 then Z8
 else if nb (pk ws p)=Z7 then
  (if pk ws (p+1)="for"then match z1h nb ws (p+2) sd with
   |none=>Z8
   |some (n1,p1,s1)=>if pk ws p1="against"then match z1h nb ws (p1+1) s1 with
     |none=>Z8
     |some (n2,p2,s2)=>Z9 (.tuple [.str "open",.str (pk ws p),.tuple (n1.map .str),.tuple (n2.map .str)],p2,s2)
    else Z8
  else Z8)
 else Z8
def cH (nb:Str->Bool)(nf:Str->Option Int)(ws:List Str)(ks:List (Str×Str))(sd:List D):Ro:=
 if pk ws 0="fact"then(if nb (pk ws 1)=Z7 then Z9 (.tuple [.str "fact",.str (pk ws 1)],2,sd)else Z8)
 else if pk ws 0="open"then iC nb ws ks 1 sd
 else if pk ws 0="word"then(if eM nb ws 1=Z7 then jP "word" (pk ws 1) (z18 nb nf ws ks 8 3 sd)else Z8)
 else if pk ws 0="claim"then(if eM nb ws 1=Z7 then jP "claim" (pk ws 1) (z1n nb nf ws ks 8 3 sd)else Z8)
 else Z8
def bZ (nb:Str->Bool)(nf:Str->Option Int)(ws:List Str)(ks:List (Str×Str))(sd:List D):Ro:=
 match cH nb nf ws ks sd with
 |none=>Z8
 |some (d,p,s)=>if p<ws.length then Z8 else Z9 (d,p,s)
def spHg (K:Z5)(CR:Addr)(mg:Str->Option Value)(nb:Str->Bool):Sp:=λvs H Q E=>∃x dx wl kd sl n ws ks p sd,vs=[.ref x]/\Rg K CR H x dx wl kd sl n ws ks p sd/\if eM nb ws p=Z7 then ∀H',Fr x sl H H'->Rg K CR H' x dx wl kd sl n ws ks (p+2) sd->Q (.str (pk ws p)) H' else nR mg "NoRow" "row" (.int n) x sl H E
def spOg (K:Z5)(CR:Addr)(mg:Str->Option Value)(nb:Str->Bool):Sp:=λvs H Q E=>∃x dx wl kd sl n ws ks p sd,vs=[.ref x]/\Rg K CR H x dx wl kd sl n ws ks p sd/\nb ""=Z6/\RdOk K CR mg x dx wl kd sl n ws ks H Q E (iC nb ws ks p sd)
def spRg (K:Z5)(CR:Addr)(mg:Str->Option Value)(nb:Str->Bool)(nf:Str->Option Int):Sp:=λvs H Q E=>∃x dx wl kd sl n ws ks sd,vs=[.ref x]/\Rg K CR H x dx wl kd sl n ws ks 0 sd/\nb ""=Z6/\RdOk K CR mg x dx wl kd sl n ws ks H Q E (bZ nb nf ws ks sd)
section
variable {Z:Wc}{H H0:Hp}{σ:L2.St}{CR x dx wl kd sl:Addr}{n:Int}{ws:List Str}{ks:List (Str×Str)}{p:Nat}{sd:List D}{nb:Str->Bool}{nf:Str->Option Int}
theorem zd1 {Q:VK}(m3:Z.me[3]?=Z9 (CR,("take_name":Str),spTN Z.K CR Z.mg nb))(g:Rg Z.K CR H x dx wl kd sl n ws ks p sd)(h0:σ[0]?=Z9 (Z9 (.ref x)))
  (q:if nb (pk ws p)=Z7 then ∀H',Fr x sl H H'->Rg Z.K CR H' x dx wl kd sl n ws ks (p+1) sd->Q (.str (pk ws p)) H' else nR Z.mg "NoRow" "row" (.int n) x sl H Z.E):wE Z Rd.TN σ H Q:=by
 refine zqf m3 g.rw h0 ?_;by_cases h:nb (pk ws p)=Z7
 .rw[qe h]at q ⊢;exact λH' k e=>q H' (Fr.iB k) (g.move k e (jf p))
 .rw[qf h]at q ⊢;exact q.elim
theorem zpe {D0:Ends}(m2:Z.me[2]?=Z9 (CR,("take_word":Str),spTW Z.K CR Z.mg))(m3:Z.me[3]?=Z9 (CR,("take_name":Str),spTN Z.K CR Z.mg nb))(g:Rg Z.K CR H x dx wl kd sl n ws ks p sd)
  (q:if eM nb ws p=Z7 then ∀H',Fr x sl H H'->Rg Z.K CR H' x dx wl kd sl n ws ks (p+2) sd->D0.rt (.str (pk ws p)) H' else nR Z.mg "NoRow" "row" (.int n) x sl H Z.E):wS Z Rd.iV D0 [Z9 (.ref x),Z8] H:=by
 show wE Z Rd.TN [Z9 (.ref x),Z8] H _;refine zd1 m3 g rfl ?_;unfold eM at q;by_cases h:¬(nb (pk ws p)=Z7)
 .rw[qf h];have:nb (pk ws p)=false:=by cases e:nb (pk ws p)<;>first|rfl|exact absurd e h
  rw[this]at q;exact q
 have h:=qi h;rw[qe h];intro H1 f1 g1;rw[h]at q;show wE Z (.eC (.raw 0) 2 (.cons (.aY (.str "if")) .nil)) [Z9 (.ref x),Z9 (.str (pk ws p))] H1 _;refine z4v m2 g1 rfl (by decide+kernel) ?_;by_cases h2:pk ws (p+1)="if"
 .rw[qe h2];rw[qk h2]at q;exact λH2 f2 g2=>⟨_,rfl,q H2 (f1.trans f2) g2⟩
 .rw[qf h2];rw[ql h2]at q;exact q.elim
theorem Rf (i:RowK Z.K CR)(g:Rg Z.K CR H x dx wl kd sl n ws ks p sd)(h0:σ[0]?=Z9 (Z9 (.ref x)))(q:∀H',Same H H'->Q (.int (cntO ks)) H'):wE Z (.cnt (.lv Rd.KD) (.aY (.str "open"))) σ H Q:=by
 show wE Z Rd.KD σ H λx H1=>tyV Z.K "dict" x H1/\yU x [] H1 λv b=>yV [v] b λl f=>tyV Z.K "list" l f/\(mP (wE Z (.aY (.str "open"))) eQ) σ f λj k=>pW l j k Q;refine nQ i g.rw h0 dc rfl ⟨.inr (.inr (.inl ⟨rfl,.inl ⟨_,g.kk⟩⟩)),kd,_,rfl,rfl,g.kk,λv c=>?_⟩;have d:kd≠v:=by rintro rfl;rw[g.kk]at c;cases c
 refine⟨v,kd,_,rfl,bL,by rw[aL d];exact g.kk,λl m=>?_⟩;have s1:Same H (upd (upd H v (vw v kd)) l (.lst ((gQ ks).map (·.2)))):=(Same.upd c).trans (Same.upd m);refine⟨.inl ⟨rfl,_,.inl (.inl bL)⟩,_,F0 _,_,jA,rfl,λw b h o=>?_⟩;obtain⟨rfl,_⟩:=o;have a:=h _ _ bL;have e:(gQ ks).map (·.2)=(ks.map (·.2)).map V.str:=by unfold gQ;rw[ci,ci];rfl
 rw[e]at a;exact⟨l,rfl,.inl ⟨_,"open",rfl,a,q b (s1.trans h)⟩⟩
theorem zng {D0:Ends}(rk:RowK Z.K CR)(hg:Z.gi[1]?=Z9 4)(m2:Z.me[2]?=Z9 (CR,("take_word":Str),spTW Z.K CR Z.mg))(m3:Z.me[3]?=Z9 (CR,("take_name":Str),spTN Z.K CR Z.mg nb))(f0:Z.fn[0]?=Z9 (spNs Z.K CR Z.mg nb))(n0:nb ""=Z6)(g:Rg Z.K CR H x dx wl kd sl n ws ks p sd)
  (q:RdOk Z.K CR Z.mg x dx wl kd sl n ws ks H D0.rt Z.E (iC nb ws ks p sd)):wS Z Rd.readOpen D0 [Z9 (.ref x),Z8,Z8] H:=by
 refine Rf rk g rfl λH2 s2=>?_;have eg:wE Z (.gi 1)=λ_ H Q=>Q (.int 4) H:=by show(match Z.gi[1]? with|some n=>(λ_ H Q=>Q (.int n) H:TE)|none=>gC)=_;rw[hg]
 rw[eg];refine⟨aK,aK,.int (cntO ks),.int 4,.bool (decide (cntO ks=4)),rfl,rfl,?_,λw H3 s3 r3=>?_⟩
 .show(Res.ok (bO (.int (cntO ks)) (.int 4))>>=λb=>Res.ok (ZV b))=_;rw[y3]
  have:decide ((cntO ks:Int)=4)=decide (cntO ks=4):=by
   by_cases h:cntO ks=4
   .rw[qk h,qk (by omega)]
   .rw[ql h,ql (by omega)]
  rw[this];rfl
 cases r3;refine⟨_,rfl,?_⟩;have Ii:=s2.trans s3;have g3:=g.same Ii;have f3:Fr x sl H H3:=Fr.of_same Ii;unfold iC at q;by_cases h:cntO ks=4
 .rw[qe h]at q;rw[qk h];exact bE (qp rk g3 rfl f3 q)
 rw[qf h]at q;rw[ql h];refine bC ?_;show wE Z Rd.TN [Z9 (.ref x),Z8,Z8] H3 _;refine zd1 m3 g3 rfl ?_;by_cases hb:¬(nb (pk ws p)=Z7)
 .rw[qf hb]at q ⊢;exact q.elim
 have hb:=qi hb;rw[qe hb]at q ⊢;intro H4 f4 g4;have f4:=f3.trans f4;have jR:=(eD (p:=p) g.rw.gD).1;show wE Z (.eC (.raw 0) 2 (.cons (.aY (.str "for")) .nil)) [Z9 (.ref x),Z9 (.str (pk ws p)),Z8] H4 _;refine z4v m2 g4 rfl (by decide+kernel) ?_;by_cases hf:¬(pk ws (p+1)="for")
 .rw[qf hf]at q ⊢;exact q.elim
 have hf:=qi hf;rw[qe hf]at q ⊢;intro H5 f5 g5;have f5:=f4.trans f5;show wE Z (.cK 0 (.cons (.raw 0) .nil)) [Z9 (.ref x),Z9 (.str (pk ws p)),Z8] H5 _;rw[mC f0];refine⟨.ref x,rfl,x,dx,wl,kd,sl,n,ws,ks,p+2,sd,rfl,g5,n0,?_⟩;cases e1:z1h nb ws (p+2) sd with
 |none=>rw[e1]at q;exact q.elim
 |some z=>
 obtain⟨n1,p1,s1⟩:=z;rw[e1]at q;intro H6 v1 f6 g6 wu;have f6:=f5.trans f6;have oN:imm (.tuple (n1.map Z0):D)=true:=C5 n1;show wE Z (.eC (.raw 0) 2 (.cons (.aY (.str "against")) .nil)) [Z9 (.ref x),Z9 (.str (pk ws p)),Z9 v1] H6 _;refine z4v m2 g6 rfl (by decide+kernel) ?_
 have q:RdOk Z.K CR Z.mg x dx wl kd sl n ws ks H D0.rt Z.E (if pk ws p1="against"then match z1h nb ws (p1+1) s1 with
   |none=>Z8
   |some (n2,p2,s2)=>Z9 (.tuple [.str "open",.str (pk ws p),.tuple (n1.map .str),.tuple (n2.map .str)],p2,s2)
  else Z8):=q
 by_cases ha:¬(pk ws p1="against")
 .rw[qf ha]at q ⊢;exact q.elim
 have ha:=qi ha;rw[qe ha]at q ⊢;intro H7 Ij g7;have C':Rep Z.K H7 aK v1 (.tuple (n1.map Z0)):=Rep.bT (g6.fx Ij) _ oN wu;have f7:=f6.trans Ij;show wE Z (.aY (.str "open")) [Z9 (.ref x),Z9 (.str (pk ws p)),Z9 v1] H7 _;refine qX H7 _ λH8 s8=>⟨_,rfl,v1,rfl,?_⟩;have g8:=g7.same s8;have f8:=f7.trans (Fr.of_same (x:=x) (sl:=sl) s8);show wE Z (.cK 0 (.cons (.raw 0) .nil)) [Z9 (.ref x),Z9 (.str (pk ws p)),Z9 v1] H8 _;rw[mC f0];refine⟨.ref x,rfl,x,dx,wl,kd,sl,n,ws,ks,p1+1,s1,rfl,g8,n0,?_⟩;cases e2:z1h nb ws (p1+1) s1 with
 |none=>rw[e2]at q;exact q.elim
 |some z=>
 obtain⟨n2,p2,s2⟩:=z;rw[e2]at q;intro H9 v2 f9 g9 wx;refine⟨(show 4<=ay by rw[bz];decide),λt ht=>?_⟩;have sX:Same H9 (upd H9 t (.tup [.str "open",.str (pk ws p),v1,v2])):=Same.upd ht;refine q _ _ ((f8.trans f9).trans (Fr.of_same sX)) (g9.same sX) ⟨t,_,rfl,.inl (.inl bL),⟨_,_,rfl,⟨rfl,by decide+kernel⟩,_,_,rfl,⟨rfl,jR⟩,_,_,rfl,(Rep.bT (g8.fx f9) _ oN (C'.same s8 λ_ h=>h)).same sX (λ_ h=>h),_,_,rfl,wx.same sX (λ_ h=>h),rfl⟩⟩ ?_;show(Z7&&(Z7&&(imm (.tuple (n1.map Z0))&&(imm (.tuple (n2.map Z0))&&Z7))))=Z7;rw[oN,C5 n2];rfl
end
def bI (ks:List (Str×Str)):List D->Option Str
 | []=>Z8
 |.tuple [.str nm,.tuple ts]::r=>if(ts.any λy=>bO y (match lkG ks nm with|some s=>.str s|none=>.none))=Z7 then bI ks r else Z9 nm
 |_::r=>bI ks r
def cI (ks:List (Str×Str))(nm:Str):Bool:=(lkG ks nm).isSome
section
variable {Z:Wc}{H H0:Hp}{σ:L2.St}{CR x dx wl kd sl:Addr}{n:Int}{ws:List Str}{ks:List (Str×Str)}{p:Nat}{sd:List D}{nb:Str->Bool}{nf:Str->Option Int}
theorem zns {e:W}{s t:Str}{f:Ro}{Q:VK}{j:Nat}(oks:Z1 s=Z7)(okt:Z1 t=Z7)(f1:Z.fn[1]?=Z9 (spHg Z.K CR Z.mg nb))(r:Rg Z.K CR H x dx wl kd sl n ws ks p sd)(h0:σ[0]?=Z9 (Z9 (.ref x)))(ht:t=pk ws p)
  (he:∀(H':Hp) (Q:VK),Rg Z.K CR H' x dx wl kd sl n ws ks (p+2) sd->RdOk Z.K CR Z.mg x dx wl kd sl n ws ks H' Q Z.E f->wE Z e σ H' Q)
  (q:RdOk Z.K CR Z.mg x dx wl kd sl n ws ks H Q Z.E (if eM nb ws p=Z7 then jP s t f else Z8)):wE Z (.tup (.cons (.aY (.str s)) (.cons (.cK 1 (.cons (.raw 0) .nil)) (.cons e .nil)))) σ H Q:=by
 show wE Z (.aY (.str s)) σ H _;refine qX H _ λH1 s1=>?_;have r1:=r.same s1;show wE Z (.cK 1 (.cons (.raw 0) .nil)) σ H1 _;rw[mC f1];refine⟨.ref x,h0,x,dx,wl,kd,sl,n,ws,ks,p,sd,rfl,r1,?_⟩;by_cases h:¬(eM nb ws p=Z7)
 .rw[qf h]at q ⊢;exact q.elim
 have h:=qi h;rw[qe h]at q ⊢;intro H2 f2 r2;have f2:Fr x sl H H2:=(Fr.of_same s1).trans f2;show wE Z e σ H2 _;refine he H2 _ r2 ?_;cases f with
 |none=>exact q.elim
 |some z=>obtain⟨d,p',mE⟩:=z;intro H3 v f3 r3 rv im;refine⟨(show 3<=ay by rw[bz];decide),λtt hh=>?_⟩;have s4:Same H3 (upd H3 tt (.tup [.str s,.str (pk ws p),v])):=Same.upd hh;subst ht;refine q _ _ ((f2.trans f3).trans (Fr.of_same s4)) (r3.same s4) ⟨tt,_,rfl,.inl (.inl bL),⟨_,_,rfl,⟨rfl,oks⟩,_,_,rfl,⟨rfl,okt⟩,_,_,rfl,rv.same s4 (λ_ h=>h),rfl⟩⟩ ?_;show(Z7&&(Z7&&(imm d&&Z7)))=Z7;rw[im];rfl
structure RowZ (Z:Wc)(CR:Addr)(nb:Str->Bool)(nf:Str->Option Int):Prop where
 g2:Z.gi[2]?=Z9 8
 m1:Z.me[1]?=Z9 (CR,("take":Str),z1g Z.K CR)
 m3:Z.me[3]?=Z9 (CR,("take_name":Str),spTN Z.K CR Z.mg nb)
 m4:Z.me[4]?=Z9 (CR,("take_end":Str),y0 Z.K CR Z.mg)
 f0:Z.fn[0]?=Z9 (spOg Z.K CR Z.mg nb)
 f1:Z.fn[1]?=Z9 (spHg Z.K CR Z.mg nb)
 f2:Z.fn[2]?=Z9 (spR Z.K CR Z.mg 8 λws ks=>z18 nb nf ws ks 8)
 f3:Z.fn[3]?=Z9 (spR Z.K CR Z.mg 8 λws ks=>z1n nb nf ws ks 8)
theorem Ik (g2:Z.gi[2]?=Z9 8)(a:Z.fn[j]?=Z9 (spR Z.K CR Z.mg 8 f))(g:Rg Z.K CR H x dx wl kd sl n ws ks p sd)(h0:σ[0]?=Z9 (Z9 (.ref x)))(q:RdOk Z.K CR Z.mg x dx wl kd sl n ws ks H Q Z.E (f ws ks p sd)):wE Z (.cK j (.cons (.raw 0) (.cons (.gi 2) .nil))) σ H Q:=by
 rw[mC a];refine⟨.ref x,h0,?_⟩;have b:wE Z (.gi 2)=λ_ H Q=>Q (.int 8) H:=by show(match Z.gi[2]? with|some n=>(λ_ H Q=>Q (.int n) H:TE)|none=>gC)=_;rw[g2]
 show wE Z (.gi 2) σ H λy H1=>spR Z.K CR Z.mg 8 f [.ref x,y] H1 Q Z.E;rw[b];exact⟨x,dx,wl,kd,sl,n,ws,ks,p,sd,rfl,g,q⟩
theorem znp {D0:Ends}(rk:RowK Z.K CR)(z:RowZ Z CR nb nf)(n0:nb ""=Z6)(g:Rg Z.K CR H x dx wl kd sl n ws ks 0 sd)
  (q:RdOk Z.K CR Z.mg x dx wl kd sl n ws ks H D0.rt Z.E (bZ nb nf ws ks sd)):wS Z Rd.readRow D0 [Z9 (.ref x),Z8,Z8] H:=by
 refine uA z.m1 g rfl λH1 k1 g1=>?_;have f1:Fr x sl H H1:=Fr.iB k1;have uB:=(eD (p:=0) g.rw.gD).1;have qq:=(eD (p:=1) g.rw.gD).1
 have fin:∀{o:Ro} {H2:Hp} {a2:Option V},cH nb nf ws ks sd=o->Fr x sl H H2->(∃p' mE,Rg Z.K CR H2 x dx wl kd sl n ws ks p' mE)->RdOk Z.K CR Z.mg x dx wl kd sl n ws ks H2 (λv H3=>wS Z (.seq (.exp (.eC (.raw 0) 4 .nil)) (.seq (.ret (.raw 2)) .nil)) D0 [Z9 (.ref x),Z9 (.str (pk ws 0)),Z9 v] H3) Z.E o:=by
  intro o H2 a2 e f2 ⟨p2,Vp,g2⟩;unfold bZ at q;rw[e]at q;cases o with
  |none=>exact q.elim
  |some y=>
   obtain⟨d,p',mE⟩:=y;intro H3 v f3 g3 rv im;show wE Z (.eC (.raw 0) 4 .nil) [Z9 (.ref x),Z9 (.str (pk ws 0)),Z9 v] H3 _;rw[uz z.m4];refine⟨.ref x,rfl,x,dx,_,rfl,g3.rw.ins,rfl,x,dx,wl,kd,sl,n,ws,_,rfl,g3.rw,?_⟩;have q:RdOk Z.K CR Z.mg x dx wl kd sl n ws ks H D0.rt Z.E (if p'<ws.length then Z8 else Z9 (d,p',mE)):=q;by_cases h:p'<ws.length
   .rw[qe h]at q ⊢;exact q.elim
   .rw[qf h]at q ⊢;exact λH4 s4=>⟨v,rfl,q H4 v ((f2.trans f3).trans (Fr.of_same s4)) (g3.same s4) (rv.same s4 λ_ h=>h) im⟩
 have ex:cH nb nf ws ks sd=Z8->nR Z.mg "NoRow" "row" (.int n) x sl H Z.E:=λe=>by unfold bZ at q;rw[e]at q;exact q
 show wS Z (.seq _ _) D0 [Z9 (.ref x),Z9 (.str (pk ws 0)),Z8] H1;refine xg (i:=1) (a:=pk ws 0) (b:="fact") rfl uB λH2 s2=>?_;have g2:=g1.same s2;have f2:=f1.trans (Fr.of_same (x:=x) (sl:=sl) s2);by_cases h:pk ws 0="fact"
 .have e:cH nb nf ws ks sd=if nb (pk ws 1)=Z7 then Z9 (.tuple [.str "fact",.str (pk ws 1)],2,sd)else none:=by unfold cH;rw[qe h]
  rw[qk h];refine bE ?_;show wE Z (.aY (.str "fact")) [Z9 (.ref x),Z9 (.str (pk ws 0)),Z8] H2 _;refine qX H2 _ λH3 s3=>?_;have g3:=g2.same s3;have f3:=f2.trans (Fr.of_same (x:=x) (sl:=sl) s3);show wE Z Rd.TN [Z9 (.ref x),Z9 (.str (pk ws 0)),Z8] H3 _;refine zd1 z.m3 g3 rfl ?_;by_cases hb:nb (pk ws 1)=Z7
  .rw[qe hb]at e ⊢;intro H4 f4 g4;refine⟨(show 2<=ay by rw[bz];decide),λt ht=>?_⟩;have s5:Same H4 (upd H4 t (.tup [.str "fact",.str (pk ws 1)])):=Same.upd ht;exact fin (a2:=Z8) e (f3.trans f4) ⟨_,_,g4⟩ _ (.ref t) (Fr.of_same s5) (g4.same s5) ⟨t,_,rfl,.inl (.inl bL),⟨_,_,rfl,⟨rfl,by decide+kernel⟩,_,_,rfl,⟨rfl,qq⟩,rfl⟩⟩ rfl
  .rw[qf hb]at e ⊢;exact(ex e).elim
 rw[ql h];refine bC ?_;refine xg (i:=1) (a:=pk ws 0) (b:="open") rfl uB λH3 s3=>?_;have g3:=g2.same s3;have f3:=f2.trans (Fr.of_same (x:=x) (sl:=sl) s3);by_cases ho:pk ws 0="open"
 .have e:cH nb nf ws ks sd=iC nb ws ks 1 sd:=by unfold cH;rw[qf h,qe ho]
  rw[qk ho];refine bE ?_;show wE Z (.cK 0 (.cons (.raw 0) .nil)) [Z9 (.ref x),Z9 (.str (pk ws 0)),Z8] H3 _;rw[mC z.f0];exact⟨.ref x,rfl,x,dx,wl,kd,sl,n,ws,ks,1,sd,rfl,g3,n0,fin (a2:=Z8) e f3 ⟨_,_,g3⟩⟩
 rw[ql ho];refine bC ?_;refine xg (i:=1) (a:=pk ws 0) (b:="word") rfl uB λH4 s4=>?_;have g4:=g3.same s4;have f4:=f3.trans (Fr.of_same (x:=x) (sl:=sl) s4);by_cases hw:pk ws 0="word"
 .have e:cH nb nf ws ks sd=if eM nb ws 1=Z7 then jP "word" (pk ws 1) (z18 nb nf ws ks 8 3 sd)else none:=by unfold cH;rw[qf h,qf ho,qe hw]
  rw[qk hw];refine bE ?_;exact zns (σ:=[Z9 (.ref x),Z9 (.str (pk ws 0)),Z8]) (j:=0) (by decide+kernel) qq z.f1 g4 rfl rfl (λH' Q g' q=>Ik z.g2 z.f2 g' rfl q) (fin (a2:=Z8) e f4 ⟨_,_,g4⟩)
 rw[ql hw];refine bC ?_;refine xg (i:=1) (a:=pk ws 0) (b:="claim") rfl uB λH5 s5=>?_;have g5:=g4.same s5;have f5:=f4.trans (Fr.of_same (x:=x) (sl:=sl) s5);by_cases hc:pk ws 0="claim"
 .have e:cH nb nf ws ks sd=if eM nb ws 1=Z7 then jP "claim" (pk ws 1) (z1n nb nf ws ks 8 3 sd)else none:=by unfold cH;rw[qf h,qf ho,qf hw,qe hc]
  rw[qk hc];refine bE ?_;exact zns (σ:=[Z9 (.ref x),Z9 (.str (pk ws 0)),Z8]) (j:=0) (by decide+kernel) qq z.f1 g5 rfl rfl (λH' Q g' q=>Ik z.g2 z.f3 g' rfl q) (fin (a2:=Z8) e f5 ⟨_,_,g5⟩)
 have e:cH nb nf ws ks sd=none:=by unfold cH;rw[qf h,qf ho,qf hw,qf hc]
 rw[ql hc];exact bC (qp rk g5 rfl f5 (ex e))
end
def mF (ks:List (Str×Str))(nm:Str):D:=match lkG ks nm with|some s=>.str s|none=>.none
theorem Il:∀{ks:List (Str×Str)},(eV (y4 ks) (.str nm)).isSome=cI ks nm
 | []=>rfl
 |y::ks=>by
  have a:=Il (nm:=nm) (ks:=ks);unfold eV y4 at a ⊢;unfold cI lkG at a ⊢;rw[bc,cz,cz];rw[Q0];by_cases h:y.1=nm
  .rw[qk h];rfl
  .rw[ql h];exact a
theorem Rh {a:List Str}:bI ks (.tuple [.str nm,.tuple (a.map .str)]::r)=if((a.map Z0).any λy=>bO y (mF ks nm))=Z7 then bI ks r else Z9 nm:=by rw[bI];rfl
theorem four (h:l.length=4):∃a b c d,l=[a,b,c,d]:=by rcases l with _|⟨a,_|⟨b,_|⟨c,_|⟨d,_|⟨e,l⟩⟩⟩⟩⟩<;>first|exact⟨_,_,_,_,rfl⟩|(simp at h;done)|(simp at h;omega)
def jS (mg:Str->Option Value)(x sl:Addr)(ks:List (Str×Str))(nm:Str)(sd:List D)(H:Hp)(Q:Hp->Prop)(E:XK):Prop:=
 if cI ks nm=Z7 then nR mg "Twice" "name" (.str nm) x sl H E else match bI ks sd with
  |some u=>nR mg "Unknown" "name" (.str u) x sl H E
  |none=>∀H',Same H H'->Q H'
def spCg (K:Z5)(CR:Addr)(mg:Str->Option Value):Sp:=λvs H Q E=>∃x dx wl kd sl n ws ks p sd nm,vs=[.ref x,.str nm]/\Rg K CR H x dx wl kd sl n ws ks p sd/\Z1 nm=Z7/\jS mg x sl ks nm sd H (λH'=>Q .non H') E
section
variable {Z:Wc}{H H0:Hp}{σ:L2.St}{CR x dx wl kd sl:Addr}{n:Int}{ws:List Str}{ks:List (Str×Str)}{p:Nat}{sd:List D}{nb:Str->Bool}{nf:Str->Option Int}
theorem Ri {D0:Ends}{nm:Str}(rk:RowK Z.K CR)(g:Rg Z.K CR H x dx wl kd sl n ws ks p sd)(jR:Z1 nm=Z7)(q:jS Z.mg x sl ks nm sd H (λH'=>∀bA,D0.nx bA H') Z.E):wS Z Rd.fG D0 [Z9 (.ref x),Z9 (.str nm),Z8,Z8] H:=by
 have rd:Rep Z.K H aK (.ref kd) (.dict (y4 ks)):=⟨kd,_,rfl,g.kk,trivial,HS g.mD⟩;refine⟨.str nm,rfl,nQ (f:="kinds") (v:=.ref kd) rk g.rw rfl (by decide) rfl (QT (B:=aK) (dx:=.str nm) ⟨rfl,jR⟩ rd rfl λH1 s1=>⟨_,rfl,?_⟩)⟩;rw[Il];have g1:=g.same s1;have f1:Fr x sl H H1:=Fr.of_same s1;unfold jS at q;cases hh:cI ks nm with
 |true=>rw[qe hh]at q;exact q.elim
 |false=>
  rw[qf (by rw[hh];decide)]at q;refine bC ?_;have go:∀Q:VK,Q (.ref sl) H1->wE Z Rd.SD [Z9 (.ref x),Z9 (.str nm),Z8,Z8] H1 Q:=λQ q=>nQ (f:="said") (v:=.ref sl) rk g1.rw rfl (by decide) rfl q;show jD (vb Z.K (wE Z Rd.SD)) _ _ _ _ H1;unfold jD vb;refine go _ ?_;obtain⟨vs,h1,h2⟩:=g1.sq;refine⟨sl,rfl,⟨vs,.inl (.inl h1)⟩,λi m bA H'=>m=sd.length-i/\i<=sd.length/\(∃a1 a2 a3,bA=[Z9 (.ref x),a1,a2,a3])/\Same H1 H'/\bI ks (sd.drop i)=bI ks sd,⟨_,rfl,cn _,⟨_,_,_,rfl⟩,Same.refl _,rfl⟩,?_⟩
  rintro i m bA H' ⟨rfl,hi,⟨a1,a2,a3,rfl⟩,s2,hu⟩
  have g2:=g1.same s2;have f2:=f1.trans (Fr.of_same (x:=x) (sl:=sl) s2);have Dc:SqL Z.K H' sl vs:=.inl (.inl (s2 _ _ h1));have hlen:vs.length=sd.length:=h2.length;by_cases gM:¬(i<sd.length)
  .have vX:i=sd.length:=by omega
   subst vX;rw[jx]at hu;rw[<-hu]at q;exact .inl ⟨⟨vs,Dc,o5 hlen⟩,q H' (s1.trans s2) _⟩
  have gM:=qi gM;have ue:sd.drop i=sd[i]::sd.drop (i+1):=iw gM;obtain⟨un,ts,Rj⟩:=g.wf _ (fh gM);have Rk:=h2.same s2 (λ_ h=>h);obtain⟨v,hv,rv⟩:=Reps.get Rk (a9 gM);rw[Rj]at rv ue;rw[ue,Rh]at hu;refine .inr ⟨⟨vs,v,Dc,hv⟩,λkN H2=>(∃a1 a2 a3,kN=[Z9 (.ref x),a1,a2,a3])/\Same H1 H2/\bI ks (sd.drop (i+1))=bI ks sd,λkN H2 ⟨w1,w2,w3⟩=>⟨sd.length-(i+1),by omega,rfl,gM,w1,w2,w3⟩,λy H2 hy=>?_⟩;obtain⟨rfl,hy⟩:=hy;cases hv.symm.trans (hy vs Dc);refine⟨bx 4 Z8,F0 H2,(.od,.tuple [.str un,.tuple (ts.map Z0)]),[Z8,Z8,Z9 (.al,.str un),Z9 (.al,.tuple (ts.map Z0))],qo rfl (λj g d' e=>?_),rv.old,?_,λiE F3 pM nI=>?_⟩
  .rw[cx]at e;split at e<;>cases e
  .have e:gJ (.tuple (ts.map Z0)) .od=.fr:=qe (C5 ts);show Res.ok [Z8,Z8,Z9 (lV (G.fr,.str un)),Z9 (lV (gJ (.tuple (ts.map Z0)) G.od,.tuple (ts.map Z0)))]=_;rw[e];rfl
  obtain⟨v2,hv2,r2⟩:=pM.sl 2 .al (.str un) rfl;obtain⟨v3,Dd,r3⟩:=pM.sl 3 .al (.tuple (ts.map Z0)) rfl;obtain⟨rfl,Vq⟩:=r2;have Rl:iE[0]?=Z9 (Z9 (.ref x)):=nI.rest 0 (by decide);obtain⟨b0,b1,b2,b3,rfl⟩:=four (l:=iE) nI.len;cases Rl;cases hv2;cases Dd;show wT Z (.tc .NotIn (.get Rd.KD (.raw 2)) (.raw 3)) [Z9 (.ref x),b1,Z9 (.str un),Z9 v3] H2 _;show wE Z Rd.KD [Z9 (.ref x),b1,Z9 (.str un),Z9 v3] H2 λx' H1=>∃a,x'=.ref a/\IsD H1 a/\(wE Z (.raw 2)) [Z9 (.ref x),b1,Z9 (.str un),Z9 v3] H1 λy H2=>∃o,DGet H2 a y o/\(wE Z (.raw 3)) [Z9 (.ref x),b1,Z9 (.str un),Z9 v3] H2 λb' H3=>lX Z.K (mB (cmpD .NotIn)) (o.getD .non) b' H3 _;refine nQ (f:="kinds") (v:=.ref kd) rk g2.rw rfl (by decide) rfl ⟨kd,rfl,.inl ⟨_,.inl g2.kk⟩,.str un,rfl,_,.inl ⟨_,.inr un,.inl g2.kk,rfl,rfl⟩,v3,rfl,?_⟩;rw[Ib]
  have rl:Rep Z.K H2 aK (((lkG ks un).map V.str).getD .non) (mF ks un):=by
   unfold mF;cases e:lkG ks un with
   |none=>exact rfl
   |some t=>exact⟨rfl,Ic g.mD e⟩
  have sh:aU 40 (mF ks un)=true:=by unfold mF;cases lkG ks un<;>rfl
  refine⟨aK,_,mF ks un,.tuple (ts.map Z0),.bool (!((ts.map Z0).any λy=>bO y (mF ks un))),rl,r3,?_,λw H3 s3 Rm=>?_⟩
  .show((inD (mF ks un) (.tuple (ts.map Z0))>>=λb=>Res.ok (!b))>>=λb=>Res.ok (ZV b))=_;have:inD (mF ks un) (.tuple (ts.map Z0))=.ok ((ts.map Z0).any λy=>bO y (mF ks un)):=by show(if(aU 40 (mF ks un)&&cL 40 (ts.map Z0))=Z7 then _ else _)=_;rw[sh,C7];rfl
   rw[this];rfl
  cases Rm;refine⟨_,rfl,?_⟩;cases xk:(ts.map Z0).any λy=>bO y (mF ks un)with
  |true=>rw[qe xk]at hu;exact bC ⟨⟨_,_,_,rfl⟩,s2.trans s3,hu⟩
  |false=>rw[qf (by rw[xk];decide)]at hu;rw[<-hu]at q;exact q.elim
end
inductive Rx where
 |ok (act:List D)|row (k:Nat)|tw (s:Str)|un (s:Str)
def iJ (nb:Str->Bool)(nf:Str->Option Int):Nat->List D->List (Str×Str)->List Str->Rx
 |_,act,_,[]=>.ok act
 |k,act,ks,r::rs=>if k=24 then .row k else match bZ nb nf (spW 32 r) ks []with
  |none=>.row k
  |some (d,_,sd)=>if cI ks (pk (spW 32 r) 1)=Z7 then .tw (pk (spW 32 r) 1)else match bI ks sd with
   |some u=>.un u
   |none=>iJ nb nf (k+1) (act++[d]) (ks++[(pk (spW 32 r) 1,pk (spW 32 r) 0)]) rs
def tq (nb:Str->Bool)(nf:Str->Option Int):D->Rx
 |.str t=>iJ nb nf 0 [] [] (spW 10 t)
 |_=>.row 0
def tu (K:Z5)(mg:Str->Option Value)(H:Hp)(Q:VK)(E:XK):Rx->Prop
 |.ok act=>∀H' l,Same H H'->Rep K H' (nw H) (.ref l) (.list act)->Q (.ref l) H'
 |.row k=>lL mg "NoRow" "row" (.int k) H E
 |.tw s=>lL mg "Twice" "name" (.str s) H E
 |.un s=>lL mg "Unknown" "name" (.str s) H E
theorem Im:∀(d:List Nat),(aV c d).length<=d.length+1
 | []=>ah _
 |a::r=>by
  have b:=Im (c:=c) r;unfold aV;split
  .exact d6 b
  .cases e:aV c r with
   |nil=>exact d6 (cn _)
   |cons h t=>rw[e]at b;exact pv b
theorem Rn:(spW c t).length<=t.length+1:=by
 unfold spW;rw[ai];have:=Im (c:=c) t.cps.toList;have e:t.cps.toList.length=t.length:=by rw[db];rfl
 omega
theorem Rq (h:bZ nb nf ws ks sd=Z9 (d,p,s)):∃r,d=.tuple (.str (pk ws 0)::.str (pk ws 1)::r):=by
 have c:∀{a b:Str} {o:Ro} {d:D} {p:Nat} {s:List D},jP a b o=Z9 (d,p,s)->∃r,d=.tuple (.str a::.str b::r):=by
  intro a b o d p s h;cases o with
  |none=>cases h
  |some z=>obtain⟨f,g,s'⟩:=z;cases h;exact⟨_,rfl⟩
 have key:∀{d:D} {p:Nat} {s:List D},cH nb nf ws ks sd=Z9 (d,p,s)->∃r,d=.tuple (.str (pk ws 0)::.str (pk ws 1)::r):=by
  intro d p s h;unfold cH at h;split at h
  .rename_i e;split at h
   .cases h;rw[e];exact⟨_,rfl⟩
   .cases h
  split at h
  .rename_i e;rw[e];unfold iC at h;split at h
   .cases h
   split at h
   .split at h
    .split at h
     .cases h
     .split at h
      .split at h
       .cases h
       .cases h;exact⟨_,rfl⟩
      .cases h
    .cases h
   .cases h
  split at h
  .rename_i e;rw[e];split at h
   .exact c h
   .cases h
  split at h
  .rename_i e;rw[e];split at h
   .exact c h
   .cases h
  .cases h
 unfold bZ at h;split at h
 .cases h
 .rename_i e;split at h
  .cases h
  .cases h;exact key e
theorem Rr (h:cI ks nm=Z6):putK (gQ ks) (.inr nm) (V.str kd)=gQ (ks++[(nm,kd)]):=by
 unfold putK;rw[qf]
 .unfold gQ;rw[bn];rfl
 .intro z;obtain⟨c,a,e⟩:=iu.mp z;obtain⟨y,b,rfl⟩:=bb.mp a;have e:=qj e;unfold cI lkG at h;rw[jn]at h;have:(ks.find? λy=>decide (y.1=nm)).isSome=true:=List.find?_isSome.mpr ⟨y,b,qk (Sum.inr.inj e)⟩;rw[this]at h;cases h
def spAg (K:Z5)(mg:Str->Option Value)(nb:Str->Bool)(nf:Str->Option Int):Sp:=λvs H Q E=>∃v d B,vs=[v]/\Rep K H B v d/\nb ""=Z6/\(∀t,d=.str t->okS t/\t.length<LIM/\(spW 10 t).length<=1000)/\tu K mg H Q E (tq nb nf d)
section
variable {Z:Wc}{H:Hp}{σ:L2.St}{CR:Addr}{nb:Str->Bool}{nf:Str->Option Int}
theorem De {c fl:Str}{y:V}{H1:Hp}{x sl:Addr}(ex:lL Z.mg c fl y H Z.E)(s:Same H H1)(hx:H x=Z8)(hs:H sl=Z8):nR Z.mg c fl y x sl H1 Z.E:=ex.elim
theorem Df (hi:σ[6]?=Z9 (Z9 v))(d:Rep Z.K H aK v (.tuple (.str a::.str b::r)))(e:gH (.tuple (.str a::.str b::r)) (.int j)=.ok (.str c))(q:∀H',Same H H'->Q (.str c) H'):wE Z (.ix (.raw 6) (.aY (.int j))) σ H Q:=by refine⟨v,hi,_,F0 H,_,jA,rfl,λw H1 s1 f=>?_⟩;cases f;refine⟨aK,aK,.tuple (.str a::.str b::r),.int j,.str c,d.same s1 (λ_ h=>h),rfl,e,λw rw=>?_⟩;obtain⟨rfl,_⟩:=rw;exact q H1 s1
theorem Dg:gH (.tuple (.str a::.str b::r)) (.int (0:Nat))=.ok (.str a):=by
 show Res.eU (cB (.str a::.str b::r) 0)=_;have:cB (.str a::.str b::r:List D) 0=Z9 (.str a):=by unfold cB gZ;rw[qe dc,qe (by grind)];rfl
 rw[this];rfl
theorem xl:gH (.tuple (.str a::.str b::r)) (.int (1:Nat))=.ok (.str b):=by
 show Res.eU (cB (.str a::.str b::r) 1)=_;have:cB (.str a::.str b::r:List D) 1=Z9 (.str b):=by unfold cB gZ;rw[qe dc,qe (by grind)];rfl
 rw[this];rfl
theorem zmr {D1:Ends}{ap kd:Addr}{k:Nat}{r:Str}{a0 a5 a6:Option V}{vs:List V}{ks:List (Str×Str)}(g0:Z.gi[0]?=Z9 24)(c0:Z.cl[0]?=Z9 (CR,spRI Z.K CR))(f0:Z.fn[0]?=Z9 (spRg Z.K CR Z.mg nb nf))(f1:Z.fn[1]?=Z9 (spCg Z.K CR Z.mg))
  (ha:H ap=Z9 (.lst vs)) (hk:H kd=Z9 (.dK (gQ ks))) (mD:∀y∈ks,Z1 y.1=Z7/\Z1 y.2=Z7) (Dh:okS r) (Rt:r.length<LIM) (n0:nb ""=Z6) (hv:vs.length<1000) (Vr:ks.length<1000)
  (q:if k=24 then lL Z.mg "NoRow" "row" (.int k) H Z.E else match bZ nb nf (spW 32 r) ks []with
   |none=>lL Z.mg "NoRow" "row" (.int k) H Z.E
   |some (d,_,sd)=>if cI ks (pk (spW 32 r) 1)=Z7 then lL Z.mg "Twice" "name" (.str (pk (spW 32 r) 1)) H Z.E else match bI ks sd with
    |some u=>lL Z.mg "Unknown" "name" (.str u) H Z.E
    |none=>∀b5 b6 H' v,(∀b o,b≠ap->b≠kd->H b=Z9 o->H' b=Z9 o)->H' ap=Z9 (.lst (vs++[v]))->H' kd=Z9 (.dK (gQ (ks++[(pk (spW 32 r) 1,pk (spW 32 r) 0)])))->Rep Z.K H' aK v d->imm d=Z7->(Z1 (pk (spW 32 r) 1)=Z7/\Z1 (pk (spW 32 r) 0)=Z7)->D1.nx [a0,Z9 (.ref ap),Z9 (.ref kd),Z9 (.int k),Z9 (.str r),b5,b6] H'):
  wS Z Rd.readBody D1 [a0,Z9 (.ref ap),Z9 (.ref kd),Z9 (.int k),Z9 (.str r),a5,a6] H:=by
 refine⟨.int k,rfl,?_⟩;have eg:wE Z (.gi 0)=λ_ H Q=>Q (.int 24) H:=by show(match Z.gi[0]? with|some n=>(λ_ H Q=>Q (.int n) H:TE)|none=>gC)=_;rw[g0]
 rw[eg];refine⟨aK,aK,.int k,.int 24,.bool (decide ((k:Int)=24)),rfl,rfl,?_,λw H1 s1 r1=>?_⟩
 .show(Res.ok (bO (.int k) (.int 24))>>=λb=>Res.ok (ZV b))=_;rw[y3];rfl
 cases r1;refine⟨_,rfl,?_⟩;by_cases xm:k=24
 .rw[qe xm]at q;rw[qk (by omega)];exact q.elim
 rw[qf xm]at q;rw[ql (by omega)];refine bC ?_;show wE Z (.mk 0 _) _ _ _;rw[Q1 c0];refine⟨.int k,rfl,.str r,rfl,.ref kd,rfl,λx dx hx Io ne=>⟨x,dx,kd,k,r,rfl,bL,Dh,λH2 wl sl k2 Di Ru Ip Rv=>⟨rfl,?_⟩⟩⟩;have y7:H x=none:=s1.none hx
 have s2:Same H H2:=λb o e=>by
  have e1:=s1 b o e;have nx:b≠x:=by rintro rfl;rw[hx]at e1;cases e1
  have nd:b≠dx:=by rintro rfl;rw[Io]at e1;cases e1
  exact k2 b o nx (by rw[aL nx,aL nd];exact e1)
 have qr:H sl=none:=by
  cases e:H sl with
  |none=>rfl
  |some o=>
   have e1:=s1 sl o e;have nx:sl≠x:=by rintro rfl;rw[hx]at e1;cases e1
   have nd:sl≠dx:=by rintro rfl;rw[Io]at e1;cases e1
   rw[aL nx,aL nd,e1]at Ip;cases Ip
 have g2:Rg Z.K CR H2 x dx wl kd sl k (spW 32 r) ks 0 []:=⟨Di,s2 _ _ hk,mD,⟨[],Ru,rfl⟩,rfl,(λ_ h=>by cases h),Rv,ah _,bh Rn Rt⟩;show wE Z (.cK 0 (.cons (.raw 5) .nil)) [a0,Z9 (.ref ap),Z9 (.ref kd),Z9 (.int k),Z9 (.str r),Z9 (.ref x),a6] H2 _;rw[mC f0];refine⟨.ref x,rfl,x,dx,wl,kd,sl,k,_,ks,[],rfl,g2,n0,?_⟩;cases hr:bZ nb nf (spW 32 r) ks []with
 |none=>rw[hr]at q;exact De q s2 y7 qr
 |some z=>
  obtain⟨d,p',sd⟩:=z;rw[hr]at q;obtain⟨rest,hd⟩:=Rq hr;have qq:=(eD (p:=1) Di.gD).1;have uB:=(eD (p:=0) Di.gD).1;intro H3 v f3 g3 rv im;have s3:Same H H3:=λb o e=>f3 b o (by rintro rfl;rw[y7]at e;cases e) (by rintro rfl;rw[qr]at e;cases e) (s2 b o e);have sM:Rep Z.K H3 aK v (.tuple (.str (pk (spW 32 r) 0)::.str (pk (spW 32 r) 1)::rest)):=by rw[<-hd];exact rv
  show wE Z (.cK 1 (.cons (.raw 5) (.cons (.ix (.raw 6) (.aY (.int (1:Nat)))) .nil))) [a0,Z9 (.ref ap),Z9 (.ref kd),Z9 (.int k),Z9 (.str r),Z9 (.ref x),Z9 v] H3 _;rw[mC f1];refine⟨.ref x,rfl,Df rfl sM xl λH4 s4=>?_⟩;have g4:=g3.same s4;refine⟨x,dx,wl,kd,sl,k,_,ks,p',sd,_,rfl,g4,qq,?_⟩;unfold jS
  have q:if cI ks (pk (spW 32 r) 1)=Z7 then lL Z.mg "Twice" "name" (.str (pk (spW 32 r) 1)) H Z.E else match bI ks sd with
   |some u=>lL Z.mg "Unknown" "name" (.str u) H Z.E
   |none=>∀b5 b6 H' v,(∀b o,b≠ap->b≠kd->H b=Z9 o->H' b=Z9 o)->H' ap=Z9 (.lst (vs++[v]))->H' kd=Z9 (.dK (gQ (ks++[(pk (spW 32 r) 1,pk (spW 32 r) 0)])))->Rep Z.K H' aK v d->imm d=Z7->(Z1 (pk (spW 32 r) 1)=Z7/\Z1 (pk (spW 32 r) 0)=Z7)->D1.nx [a0,Z9 (.ref ap),Z9 (.ref kd),Z9 (.int k),Z9 (.str r),b5,b6] H':=q
  by_cases hm:cI ks (pk (spW 32 r) 1)=Z7
  .rw[qe hm]at q ⊢;exact De q (s3.trans s4) y7 qr
  rw[qf hm]at q ⊢;have Ry:cI ks (pk (spW 32 r) 1)=false:=by cases e:cI ks (pk (spW 32 r) 1)<;>first|rfl|exact absurd e hm
  cases hu:bI ks sd with
  |some u=>rw[hu]at q;exact De q (s3.trans s4) y7 qr
  |none=>
   rw[hu]at q;intro H5 s5;have y8:=s4.trans s5;refine Df rfl (sM.same y8 λ_ h=>h) Dg λH6 s6=>⟨.ref kd,rfl,Df rfl (sM.same (y8.trans s6) λ_ h=>h) xl λH7 s7=>.inl ⟨kd,_,rfl,.inl ⟨gQ ks,.inr (pk (spW 32 r) 1),?_,rfl,?_,rfl⟩,?_⟩⟩
   .exact(s3.trans (y8.trans (s6.trans s7))) _ _ hk
   .have :(gQ ks).length=ks.length:=by unfold gQ;rw[ai]
    rw[this,bz];omega
   .have Iq:Same H3 H7:=y8.trans (s6.trans s7);have y9:Same H H7:=s3.trans Iq;have Ir:ap≠kd:=by rintro rfl;rw[ha]at hk;cases hk
    have C':=rv.same Iq λ_ h=>h;have Iu:upd H7 kd (.dK (putK (gQ ks) (.inr (pk (spW 32 r) 1)) (.str (pk (spW 32 r) 0)))) ap=Z9 (.lst vs):=by rw[aL Ir];exact y9 _ _ ha
    refine⟨.ref ap,rfl,.inl ⟨rfl,_,.inl (.inl Iu)⟩,v,rfl,ap,vs,v,rfl,rfl,Iu,by rw[bz];omega,?_⟩;refine q _ _ _ v (λb o h1 h2 e=>?_) bL ?_ ?_ im ⟨qq,uB⟩
    .rw[aL h1,aL h2];exact y9 b o e
    .rw[aL (Ne.symm Ir),bL,Rr Ry]
    .refine Rep.bT (λa o e fx=>?_) _ im C';rw[aL (by rintro rfl;rw[y9 _ _ ha]at e;cases e;exact fx.elim),aL (by rintro rfl;rw[y9 _ _ hk]at e;cases e;exact fx.elim)];exact e
end
section
variable {Z:Wc}{H:Hp}{σ:L2.St}{CR:Addr}{nb:Str->Bool}{nf:Str->Option Int}
theorem Iv:∀{a b:List D},imms a=Z7->imms b=Z7->imms (a++b)=Z7
 | [],_,_,c=>c
 |y::a,b,d,c=>by obtain⟨e,f⟩:=aD d;show(imm y&&imms (a++b))=Z7;rw[e,Iv f c];rfl
theorem RA (h:yY d=Z6):tq nb nf d=.row 0:=by cases d<;>first|(cases h;done)|rfl
theorem zml {D0:Ends}{v:V}{d:D}{B:Ad->Prop}(g0:Z.gi[0]?=Z9 24)(c0:Z.cl[0]?=Z9 (CR,spRI Z.K CR))(f0:Z.fn[0]?=Z9 (spRg Z.K CR Z.mg nb nf))(f1:Z.fn[1]?=Z9 (spCg Z.K CR Z.mg))
  (rv:Rep Z.K H B v d) (n0:nb ""=Z6) (hd:∀t,d=.str t->okS t/\t.length<LIM/\(spW 10 t).length<=1000) (q:tu Z.K Z.mg H D0.rt Z.E (tq nb nf d)):wS Z Rd.readAct D0 [Z9 v,Z8,Z8,Z8,Z8,Z8,Z8] H:=by
 refine⟨[Z9 (.od,d),Z8,Z8,Z8,Z8,Z8,Z8],F0 H,yY d,qo rfl λi g d' e=>?_,?_,λH1 s1=>?_⟩
 .rcases i with _|_|_|_|_|_|_|i<;>cases e;exact⟨rfl,v,B,rfl,rv⟩
 .show(aE Z.Κ Z.Φ (.dP (.var 0) ["str"]) _>>=λx=>fU x.2)=_;rw[QU (c:=d) rfl];rfl
 cases hs:yY d with
 |false=>rw[RA hs]at q;have q:lL Z.mg "NoRow" "row" (.int 0) H Z.E:=q;exact q.elim
 |true=>
  refine bC ?_;obtain⟨t,rfl⟩:∃t,d=.str t:=by cases d<;>first|(cases hs;done)|exact⟨_,rfl⟩
  obtain⟨okt,Dj,hlen⟩:=hd t rfl;obtain⟨rfl,_⟩:=rv;have q:tu Z.K Z.mg H D0.rt Z.E (iJ nb nf 0 [] [] (spW 10 t)):=q;refine⟨cn _,λap jM=>?_⟩;show ∀kd,upd H1 ap (.lst []) kd=Z8->_;intro kd xn;have Iw:kd≠ap:=by rintro rfl;rw[bL]at xn;cases xn
  have Dk:H1 kd=none:=by rw[aL Iw]at xn;exact xn
  generalize Dl:upd (upd H1 ap (.lst [])) kd (.dK [])=H2;have s2:Same H1 H2:=by rw[<-Dl];exact(Same.upd jM).trans (Same.upd xn)
  have Dm:H2 ap=Z9 (.lst []):=by rw[<-Dl,aL (Ne.symm Iw),bL]
  have Dp:H2 kd=Z9 (.dK (gQ [])):=by rw[<-Dl,bL];rfl
  have xo:H ap=none:=s1.none jM;have Dq:H kd=none:=s1.none Dk;show wS Z (.seq (.bH (.tp [3,4]) (.enum (.jF (.var 0) (.str "\n"))) Rd.readBody) (.seq (.ret (.raw 1)) .nil)) D0 [Z9 (.str t),Z9 (.ref ap),Z9 (.ref kd),Z8,Z8,Z8,Z8] H2
  let F1:Fm:=⟨λ_=>Z8,λa=>a≠ap/\a≠kd,λ_=>Z8,True⟩
  have sN:StOk Z.K F1 H2 [Z9 (.str t),Z9 (.ref ap),Z9 (.ref kd),Z8,Z8,Z8,Z8] [Z9 (.od,.str t),Z8,Z8,Z8,Z8,Z8,Z8]:=by refine⟨(λa o e=>by cases e),(λa e=>⟨(by rintro rfl;rw[Dm]at e;cases e),(by rintro rfl;rw[Dp]at e;cases e)⟩),(λa i e=>by cases e),rfl,λi g d' e=>?_⟩;rcases i with _|_|_|_|_|_|_|i<;>cases e;exact⟨_,rfl,rfl,okt.1⟩
  refine⟨_,F1,_,sN,Q3 okt hlen rfl,λJ B' H3 s3 hB wk=>?_⟩
  have kp:∀{H4:Hp},(∀b o,b≠ap->b≠kd->H3 b=Z9 o->H4 b=Z9 o)->Kp B' H3 H4:=λ{H4} k b o e z=>k b o (by
   rintro rfl
   rcases z with z|z
   .exact(show b≠b/\b≠kd from(hB _ z).1).1 rfl
   .rw[s3 _ _ Dm]at e;cases e;exact z) (by
   rintro rfl
   rcases z with z|z
   .exact(show b≠ap/\b≠b from(hB _ z).1).2 rfl
   .rw[s3 _ _ Dp]at e;cases e;exact z) e
  let rows:=spW 10 t
  have Iy:(z19 0 (rows.map Z0)).length=rows.length:=by rw[HR,ai]
  let W:Nat->Nat->L2.St->Hp->Prop:=λi m bA H'=>m=rows.length-i/\i<=rows.length/\(∃a0 a3 a4 a5 a6,bA=[a0,Z9 (.ref ap),Z9 (.ref kd),a3,a4,a5,a6])/\(∀b o,b≠ap->b≠kd->H3 b=Z9 o->H' b=Z9 o)/\∃vs act ks,H' ap=Z9 (.lst vs)/\H' kd=Z9 (.dK (gQ ks))/\Reps Z.K H' aK vs act/\imms act=Z7/\(∀y∈ks,Z1 y.1=Z7/\Z1 y.2=Z7)/\act.length=i/\ks.length=i/\iJ nb nf i act ks (rows.drop i)=iJ nb nf 0 [] [] rows
  refine⟨W,⟨_,rfl,cn _,⟨_,_,_,_,_,rfl⟩,λ_ _ _ _ e=>e,[],[],[],s3 _ _ Dm,s3 _ _ Dp,rfl,rfl,(λ_ h=>by cases h),rfl,rfl,rfl⟩,?_⟩
  rintro i m bA H' ⟨rfl,BM,⟨a0,a3,a4,a5,a6,rfl⟩,hk,vs,act,ks,Dr,Ds,rep,xi,mD,uC,RB,gR⟩
  have sH:Same H H':=λb o e=>hk b o (by rintro rfl;rw[xo]at e;cases e) (by rintro rfl;rw[Dq]at e;cases e) (s3 b o (s2 b o (s1 b o e)));have Vs:vs.length=act.length:=Reps.length rep;by_cases gM:i<rows.length
  .have xp:i<(z19 0 (rows.map Z0)).length:=by rw[Iy];exact gM
   refine .inr ⟨wk.go H' (kp hk) i xp,W (i+1) (rows.length-(i+1)),λkN H4 w=>⟨_,by omega,w⟩,λy H4 hy=>?_⟩;obtain⟨s4,e,he,ry⟩:=wk.kM H' (kp hk) i y H4 xp hy;rw[HQ,bu,a9 gM]at he;cases he;have ue:rows.drop i=rows[i]::rows.drop (i+1):=iw gM;rw[ue]at gR
   have ry:Rep Z.K H4 B' y (.tuple [.int i,.str rows[i]]):=by
    have e0:((0+i:Nat):Int)=(i:Int):=by rw[Nat.zero_add]
    rw[e0]at ry;exact ry
   refine⟨bx 7 Z8,F0 H4,(.od,.tuple [.int i,.str rows[i]]),[Z8,Z8,Z8,Z9 (.al,.int i),Z9 (.al,.str rows[i]),Z8,Z8],qo rfl (λj g d' e=>?_),ry.old,rfl,λiE F3 pM nI=>?_⟩
   .rw[cx]at e;split at e<;>cases e
   obtain⟨v3,Dd,r3⟩:=pM.sl 3 .al (.int i) rfl;obtain⟨v4,RC,r4⟩:=pM.sl 4 .al (.str rows[i]) rfl;cases r3;obtain⟨rfl,RD⟩:=r4;have RE:iE[1]?=Z9 (Z9 (.ref ap)):=nI.rest 1 (by decide);have RF:iE[2]?=Z9 (Z9 (.ref kd)):=nI.rest 2 (by decide);obtain⟨b0,b1,b2,b3,b4,b5,b6,rfl⟩:=Q2 (l:=iE) nI.len;cases RE;cases RF;cases Dd;cases RC;have xq:rows[i]∈rows:=fh gM;have Dh:okS rows[i]:=⟨RD,bh (C4 _ xq) okt.2⟩;have Vt:i<1000:=bo gM hlen;have Vu:Same H H4:=sH.trans s4;refine zmr (nb:=nb) (nf:=nf) (ks:=ks) (vs:=vs) g0 c0 f0 f1 (s4 _ _ Dr) (s4 _ _ Ds) mD Dh (j7 (C4 _ xq) Dj) n0 (by omega) (by omega) ?_
   have gR:(if i=24 then Rx.row i else match bZ nb nf (spW 32 rows[i]) ks []with
    |none=>.row i
    |some (d,_,sd)=>if cI ks (pk (spW 32 rows[i]) 1)=Z7 then .tw (pk (spW 32 rows[i]) 1)else match bI ks sd with
     |some u=>.un u
     |none=>iJ nb nf (i+1) (act++[d]) (ks++[(pk (spW 32 rows[i]) 1,pk (spW 32 rows[i]) 0)]) (rows.drop (i+1)))=iJ nb nf 0 [] [] rows:=gR
   have up:∀{c fl:Str} {y:V},lL Z.mg c fl y H Z.E->lL Z.mg c fl y H4 Z.E:=λex=>ex;by_cases xm:i=24
   .rw[qe xm]at gR ⊢;rw[<-gR]at q;exact up q
   rw[qf xm]at gR ⊢;cases hr:bZ nb nf (spW 32 rows[i]) ks []with
   |none=>rw[hr]at gR;rw[<-gR]at q;exact up q
   |some z=>
    obtain⟨d,p',sd⟩:=z;rw[hr]at gR
    have gR:(if cI ks (pk (spW 32 rows[i]) 1)=Z7 then Rx.tw (pk (spW 32 rows[i]) 1)else match bI ks sd with
     |some u=>.un u
     |none=>iJ nb nf (i+1) (act++[d]) (ks++[(pk (spW 32 rows[i]) 1,pk (spW 32 rows[i]) 0)]) (rows.drop (i+1)))=iJ nb nf 0 [] [] rows:=gR
    show if cI ks (pk (spW 32 rows[i]) 1)=Z7 then _ else _
    by_cases hm:cI ks (pk (spW 32 rows[i]) 1)=Z7
    .rw[qe hm]at gR ⊢;rw[<-gR]at q;exact up q
    rw[qf hm]at gR ⊢;cases hu:bI ks sd with
    |some u=>rw[hu]at gR;rw[<-gR]at q;exact up q
    |none=>
     rw[hu]at gR;intro c5 c6 H5 vv k5 RG RH C8 im jR;refine⟨rfl,gM,⟨_,_,_,_,_,rfl⟩,λb o h1 h2 e=>k5 b o h1 h2 (s4 b o (hk b o h1 h2 e)),vs++[vv],act++[d],ks++[(pk (spW 32 rows[i]) 1,pk (spW 32 rows[i]) 0)],RG,RH,?_,Iv xi (by show(imm d&&Z7)=Z7;rw[im];rfl),?_,by rw[af,uC];rfl,by rw[af,RB];rfl,gR⟩
     .refine Reps.append (Reps.bT (λa o e f=>?_) _ xi rep) ⟨_,_,rfl,C8,rfl⟩;exact k5 a o (by rintro rfl;rw[Dr]at e;cases e;exact f) (by rintro rfl;rw[Ds]at e;cases e;exact f) (s4 a o e)
     .intro y hy;rcases a8.mp hy with hy|hy
      .exact mD y hy
      .rw[ar.mp hy];exact jR
  .have vX:i=rows.length:=by omega
   subst vX;refine .inl ⟨?_,?_⟩
   .have :=wk.stop H' (kp hk);rw[Iy]at this;exact this
   .rw[jx]at gR;rw[<-gR]at q;exact⟨.ref ap,rfl,q H' ap sH ⟨ap,vs,rfl,.inl ⟨Dr,xo⟩,Reps.bT (λ_ _ e _=>e) _ xi rep⟩⟩
end
structure nT where
 c:Str
 f:List Str
 ms:List (Str×Stmt)
def qY (K:Z5)(C:Addr)(c:Str)(m:Str×Stmt):Option (dv×Bool):=match Z4 K (.ref C) m.1 with
 |some (Z9 (.ref p))=>(match K.lookup p with
  |some ⟨_,_,.func fd,_⟩=>Z9 (fd,W.codeIn K fd.code (c++"."++m.1)&&Z3 K (.ref p)&&W.isFn K (.ref p))
  |_=>Z8)
 |_=>Z8
def Iz (c:Str)(m:Str×Stmt)(x:dv×Bool):dv×Bool:=(W.fnOf m.1 (c++"."++m.1) (z1d m.2) (z0n m.2) (z0a m.2) .none x.1.kwdefaults x.1.doc x.1.pyModule x.1.annotations x.1.code x.1.closureTuple,Z7)
def za (K:Z5)(r:nT):Option (List Bool×Option (Option Value)×List (Option (Option Value))×List Bool×List (Option (dv×Bool))):=match W.nsIn K bq r.c with
 |some (Z9 (.ref C))=>Z9 ([W.plainGet K C Str.empty,W.hasDictIn K C,W.plainOver K C,W.makesIn K C,Z3 K (.ref C)],Z4 K (.ref C) "__setattr__",r.f.map (λf=>Z4 K (.ref C) f),r.ms.map (λm=>(qY K C r.c m).isSome),r.ms.map λm=>qY K C r.c m)
 |_=>Z8
def IA (K:Z5)(r:nT):Option (List Bool×Option (Option Value)×List (Option (Option Value))×List Bool×List (Option (dv×Bool))):=match W.nsIn K bq r.c with
 |some (Z9 (.ref C))=>Z9 ([Z7,Z7,Z7,Z7,Z7],Z9 (Z9 (.builtin "object.__setattr__")),r.f.map (λ_=>Z9 Z8),r.ms.map (λ_=>Z7),r.ms.map λm=>(qY K C r.c m).map (Iz r.c m))
 |_=>Z8
def KCq (K:d8->Z5)(r:nT):Prop:=∀P,((za (K P) r).isSome,za (K P) r)=(Z7,IA (K P) r)
theorem KCq_r:KCq=KCq:=rfl
structure ClsAt (K:Z5)(r:nT)(C:Addr):Prop where
 ns:W.nsIn K bq r.c=Z9 (Z9 (.ref C))
 cls:Cls K C
 na:∀f∈r.f,z3b K C f
 RJ:W.makesIn K C=Z7
 kp:Z3 K (.ref C)=Z7
 ms:∀m∈r.ms,∃f fd,Fun K m.1 (r.c++"."++m.1) m.2 f fd/\Meth K C m.1 f
theorem RK {K:Z5}{C:Addr}(h:(qY K C c m).isSome=Z7)(e:qY K C c m=(qY K C c m).map (Iz c m)):∃f fd,Fun K m.1 (c++"."++m.1) m.2 f fd/\Meth K C m.1 f:=by
 cases z:qY K C c m with
 |none=>rw[z]at h;cases h
 |some x=>
  rw[z]at e;have e:=qg e;unfold qY at z;split at z
  .rename_i f g;split at z
   .rename_i oc od fd sl i;have z:=qg z;have j:=congrArg pp z;have b:=congrArg qd z;rw[congrArg qd e]at b;obtain⟨a,k⟩:=aw.mp b;obtain⟨a,d⟩:=aw.mp a;subst j;exact⟨f,x.1,⟨⟨oc,od,x.1.kwdefaults,x.1.doc,x.1.pyModule,x.1.annotations,x.1.code,x.1.closureTuple,sl,congrArg pp e,i,a⟩,d⟩,g,k,d⟩
   .cases z
  .cases z
theorem RO {K:d8->Z5}(h:KCq K r)(P:d8):∃C,ClsAt (K P) r C:=by
 obtain⟨a,b⟩:=qh (h P);unfold za IA at b;unfold za at a;split at b
 .rename_i C c;obtain⟨a1,a2⟩:=qh (qg b);obtain⟨a2,a3⟩:=qh a2;obtain⟨a3,a4⟩:=qh a3;obtain⟨a4,d⟩:=qh a4;obtain⟨e,a1⟩:=List.cons.inj a1;obtain⟨g,a1⟩:=List.cons.inj a1;obtain⟨i,a1⟩:=List.cons.inj a1;obtain⟨j,a1⟩:=List.cons.inj a1;obtain⟨k,_⟩:=List.cons.inj a1;exact⟨C,c,⟨e,g,i,a2⟩,λf hf=>du.mp a3 f hf,j,k,λm hm=>RK (du.mp a4 m hm) (du.mp d m hm)⟩
 .rename_i hn;split at a
  .rename_i C c;simp_all
  .cases a
end Mi
name_quick tkcq for Mi.KCq by Mi.KCq_r
namespace Mi
open PySem PySem.Spec PyProof.Rows L2
def IB (K:Z5)(g:Str×Int):Option Int:=match W.nsIn K bq g.1 with
 |some (Z9 (.int n _))=>Z9 n
 |_=>Z8
def KXq (K:d8->Z5)(gs:List (Str×Int)):Prop:=∀P,gs.map (IB (K P))=gs.map λg=>Z9 g.2
theorem KXq_r:KXq=KXq:=rfl
theorem RP {K:d8->Z5}(h:KXq K gs)(P:d8):∀g∈gs,∃t,W.nsIn (K P) bq g.1=Z9 (Z9 (.int g.2 t)):=λg hg=>by
 have e:=du.mp (h P) g hg;unfold IB at e;split at e
 .rename_i n t q;cases e;exact⟨t,q⟩
 .cases e
end Mi
name_quick tkxq for Mi.KXq by Mi.KXq_r
namespace Mk
open PySem Mi
def xr:S:=(.seq (.ret (.and (.dP (.var 0) ["str"]) (.and (.chain .LtE .LtE (.int 1) (.bi "len" (.cons (.var 0) .nil)) (.int 12)) (.and (.hJ "all" (.tv (.comp 1 [] ["sign"] (.nm 0) (.tv (.var 0)) .nil (.chain .LtE .LtE (.str "a") (.var 0) (.str "z"))))) (.cmp .NotIn (.var 0) (.glob 0 "NO_NAMES")))))) .nil)
def F_z0:Fn:=aZ [(.tuple [(.str "and"),(.str "or"),(.str "not"),(.str "if"),(.str "is"),(.str "some"),(.str "all"),(.str "for"),(.str "against")])] [] 1 xr
def xt:S:=(.seq (.aX (.not (.tv (.chain .LtE .LtE (.int 1) (.bi "len" (.cons (.var 0) .nil)) (.int 31))))
 (.seq (.ret .non)
 .nil)
 .nil)
 (.seq (.aX (.not (.tv (.hJ "all" (.tv (.comp 1 [] ["sign"] (.nm 0) (.tv (.var 0)) .nil (.chain .LtE .LtE (.str "0") (.var 0) (.str "9")))))))
 (.seq (.ret .non)
 .nil)
 .nil)
 (.seq (.aX (.and (.tv (.cmp .Eq (.ix (.var 0) (.int 0)) (.str "0"))) (.tv (.cmp .Gt (.bi "len" (.cons (.var 0) .nil)) (.int 1))))
 (.seq (.ret .non)
 .nil)
 .nil)
 (.seq (.ret (.bi "int" (.cons (.var 0) .nil)))
 .nil))))
def tE:Fn:=aZ [] [] 1 xt
def eE:S:=(.seq (.asg (.nm 1) (.ix (.var 0) (.int 0)))
 (.seq (.aX (.tv (.cmp .Eq (.var 1) (.str "is")))
 (.seq (.ret (.ix (.var 0) (.int 1)))
 .nil)
 .nil)
 (.seq (.aX (.tv (.cmp .Eq (.var 1) (.str "at")))
 (.seq (.ret (.rX (.tv (.cmp .Eq (.ix (.var 0) (.int 2)) (.int 1))) (.ix (.var 0) (.int 1)) (.mt "join" (.str " ") (.cons (.lst (.cons (.ix (.var 0) (.int 1)) (.cons (.str ">=") (.cons (.bi "str" (.cons (.ix (.var 0) (.int 2)) .nil)) .nil)))) .nil))))
 .nil)
 .nil)
 (.seq (.aX (.tv (.cmp .In (.var 1) (.tup (.cons (.str "and") (.cons (.str "or") .nil)))))
 (.seq (.ret (.mt "join" (.str " ") (.cons (.lst (.cons (.str "(") (.cons (.call 0 "shown_part" (.cons (.ix (.var 0) (.int 1)) .nil)) (.cons (.var 1) (.cons (.call 0 "shown_part" (.cons (.ix (.var 0) (.int 2)) .nil)) (.cons (.str ")") .nil)))))) .nil)))
 .nil)
 .nil)
 (.seq (.ret (.mt "join" (.str " ") (.cons (.lst (.cons (.var 1) (.cons (.call 0 "shown_part" (.cons (.ix (.var 0) (.int 1)) .nil)) .nil))) .nil)))
 .nil)))))
def xu:S:=(.seq .bad (.seq .bad (.seq .bad (.seq .bad (.seq .bad .nil)))))
def bK:Nat->Fn
 |0=>aZ [] [] 2 xu
 |k+1=>aZ [] [bK k] 2 eE
def qs:S:=(.seq (.aX (.tv (.cmp .Eq (.ix (.var 0) (.int 0)) (.str "fact")))
 (.seq (.asg (.nm 1) (.lst (.cons (.str "fact") (.cons (.ix (.var 0) (.int 1)) .nil))))
 .nil)
 (.seq (.aX (.tv (.cmp .Eq (.ix (.var 0) (.int 0)) (.str "open")))
 (.seq (.asg (.nm 1) (.bin .Add (.bin .Add (.bin .Add (.lst (.cons (.str "open") (.cons (.ix (.var 0) (.int 1)) (.cons (.str "for") .nil)))) (.hJ "list" (.tv (.ix (.var 0) (.int 2))))) (.lst (.cons (.str "against") .nil))) (.hJ "list" (.tv (.ix (.var 0) (.int 3))))))
 .nil)
 (.seq (.asg (.nm 1) (.lst (.cons (.ix (.var 0) (.int 0)) (.cons (.ix (.var 0) (.int 1)) (.cons (.str "if") (.cons (.call 0 "shown_part" (.cons (.ix (.var 0) (.int 2)) .nil)) .nil))))))
 .nil))
 .nil))
 (.seq (.ret (.mt "join" (.str " ") (.cons (.var 1) .nil)))
 .nil))
def nU:Fn:=aZ [] [(bK 8)] 2 qs
def qt:S:=(.seq (.ret (.mt "join" (.str "\n") (.cons (.comp 1 [] ["row"] (.nm 0) (.tv (.var 0)) .nil (.call 0 "shown_row" (.cons (.var 0) .nil))) .nil))) .nil)
def lO:Fn:=aZ [] [nU] 1 qt
def tF:S:=(.seq (.ret (.bin .Mod (.bin .Mult (.bin .Add (.bin .Add (.bin .Mod (.var 0) (.bin .Pow (.int 10) (.int 15))) (.bin .Mult (.bin .Mult (.int 104729) (.var 1)) (.var 1))) (.int 11)) (.int 48271)) (.int 2147483647))) .nil)
def nV:Fn:=aZ [] [] 2 tF
def tG:S:=(.seq (.aX (.tv (.cmp .In (.var 0) (.lst (.cons (.str "and") (.cons (.str "or") (.cons (.str "not") (.cons (.str "if") (.cons (.str "is") (.cons (.str "some") (.cons (.str "all") (.cons (.str "for") (.cons (.str "against") .nil))))))))))))
 (.seq (.ret (.bin .Add (.var 0) (.str "x")))
 .nil)
 .nil)
 (.seq (.ret (.var 0))
 .nil))
def nW:Fn:=aZ [] [] 1 tG
def qu:S:=(.seq (.asg (.nm 1) (.str "bcdefghjklmnpqrstuvwxyz"))
 (.seq (.asg (.nm 2) (.call 1 "_law_mixed" (.cons (.var 0) (.cons (.int 0) .nil))))
 (.seq (.asg (.nm 3) (.bin .Mod (.var 2) (.int 11)))
 (.seq (.asg (.nm 4) (.mt "join" (.str "") (.cons (.comp 1 [1,2] ["_law_k","_law_letters","_law_number"] (.nm 0) (.fT (.cons (.var 3) .nil)) .nil (.ix (.var 1) (.bin .Mod (.bin .Add (.bin .FloorDiv (.var 2) (.int 11)) (.bin .Mult (.bin .Mult (.int 5) (.var 0)) (.var 0))) (.int 23)))) .nil)))
 (.seq (.asg (.nm 5) (.bin .Mod (.bin .FloorDiv (.var 2) (.int 253)) (.bin .Add (.var 3) (.int 1))))
 (.seq (.asg (.nm 6) (.comp 1 [1,2] ["_law_k","_law_letters","_law_number"] (.nm 0) (.fT (.cons (.int 23) .nil)) .nil (.ix (.var 1) (.bin .Mod (.bin .Add (.bin .FloorDiv (.var 2) (.int 7)) (.bin .Mult (.int 3) (.var 0))) (.int 23)))))
 (.seq (.aX (.tv (.cmp .Eq (.bin .Mod (.var 0) (.int 2)) (.int 1)))
 (.seq (.asg (.nm 1) (.str "abcdefghijklmnopqrstuvwxyz"))
 (.seq (.asg (.nm 2) (.bin .FloorDiv (.var 0) (.int 2)))
 (.seq (.asg (.nm 3) (.bin .Mod (.var 2) (.int 11)))
 (.seq (.asg (.nm 5) (.bin .Mod (.bin .FloorDiv (.var 2) (.int 11)) (.bin .Add (.var 3) (.int 1))))
 (.seq (.asg (.nm 6) (.comp 1 [1,2] ["_law_k","_law_letters","_law_number"] (.nm 0) (.fT (.cons (.int 23) .nil)) .nil (.ix (.var 1) (.bin .Mod (.bin .Add (.bin .FloorDiv (.var 2) (.int 132)) (.bin .Mult (.int 3) (.var 0))) (.int 26)))))
 (.seq (.asg (.nm 2) (.bin .FloorDiv (.var 2) (.int 3432)))
 (.seq (.asg (.nm 4) (.str ""))
 (.seq (.bH (.nm 7) (.fT (.cons (.var 3) .nil))
 (.seq (.asg (.nm 4) (.bin .Add (.var 4) (.ix (.var 1) (.bin .Mod (.var 2) (.int 26)))))
 (.seq (.asg (.nm 2) (.bin .FloorDiv (.var 2) (.int 26)))
 .nil)))
 .nil))))))))
 .nil)
 (.seq (.asg (.nm 8) (.comp 1 [4,5] ["_law_sign","_law_stem","_law_at"] (.nm 0) (.tv (.var 6)) .nil (.call 0 "_law_good_name" (.cons (.bin .Add (.bin .Add (.sl (.var 1) .nil (.tv (.var 2))) (.var 0)) (.sl (.var 1) (.tv (.var 2)) .nil)) .nil))))
 (.seq (.ret (.bin .Add (.var 8) (.comp 1 [] ["_law_name"] (.nm 0) (.tv (.sl (.var 8) .nil (.tv (.int 4)))) .nil (.bin .Add (.var 0) (.str "x")))))
 .nil)))))))))
def nX:Fn:=aZ [] [nW,nV] 9 qu
def qv:S:=(.seq (.asg (.nm 2) (.lst .nil))
 (.seq (.asg (.nm 3) (.bin .FloorDiv (.var 0) (.int 2)))
 (.seq (.bH (.nm 4) (.fT (.cons (.var 1) .nil))
 (.seq (.asg (.nm 5) (.bin .Mod (.bin .Mult (.bin .Add (.bin .Add (.bin .Mod (.var 0) (.int 1000000007)) (.bin .Mult (.bin .Mult (.int 7919) (.var 4)) (.var 4))) (.int 104729)) (.int 48271)) (.int 2147483629)))
 (.seq (.asg (.nm 5) (.bin .Mod (.bin .Mult (.var 5) (.var 5)) (.int 2147483587)))
 (.seq (.asg (.nm 6) (.bin .FloorDiv (.bin .Mult (.bin .Mult (.bin .Mult (.var 5) (.bin .Add (.var 5) (.int 1))) (.int 69621)) (.bin .Add (.bin .Add (.var 5) (.var 4)) (.int 2))) (.int 97)))
 (.seq (.mut "append" 2 (.cons (.bin .Mod (.ix (.lst (.cons (.var 6) (.cons (.var 3) .nil))) (.bin .Mod (.var 0) (.int 2))) (.bin .Pow (.int 10) (.int 34))) .nil))
 (.seq (.asg (.nm 3) (.bin .FloorDiv (.var 3) (.bin .Pow (.int 10) (.int 34))))
 .nil))))))
 (.seq (.ret (.var 2))
 .nil))))
def qw:Fn:=aZ [] [] 7 qv
def zb:S:=(.seq (.asg (.nm 2) (.lk 1))
 (.seq (.asg (.nm 3) (.ix (.var 2) (.bin .Mod (.bin .FloorDiv (.var 0) (.int 4)) (.bi "len" (.cons (.var 2) .nil)))))
 (.seq (.asg (.nm 4) (.bin .FloorDiv (.bin .FloorDiv (.var 0) (.int 4)) (.bi "len" (.cons (.var 2) .nil))))
 (.seq (.aX (.tv (.cmp .Eq (.ix (.var 1) (.var 3)) (.str "fact")))
 (.seq (.asg (.nm 5) (.lst (.cons (.int 1) (.cons (.bin .Add (.int 2) (.bin .Mod (.var 4) (.int 5))) (.cons (.bin .Sub (.bin .Pow (.int 10) (.int 30)) (.bin .Mod (.var 4) (.int 3))) (.cons (.bin .Add (.int 1) (.bin .Mod (.var 4) (.bin .Pow (.int 10) (.int 30)))) .nil))))))
 (.seq (.ret (.tup (.cons (.str "at") (.cons (.var 3) (.cons (.ix (.var 5) (.bin .Mod (.var 0) (.int 4))) .nil)))))
 .nil))
 .nil)
 (.seq (.ret (.tup (.cons (.str "is") (.cons (.var 3) .nil))))
 .nil)))))
def uD:Fn:=aZ [] [] 6 zb
def qZ:S:=(.seq (.asg (.nm 4) (.lst .nil))
 (.seq (.bH (.nm 5) (.fT (.cons (.var 2) .nil))
 (.seq (.asg (.nm 6) (.ix (.var 0) (.bin .Mult (.int 4) (.var 5))))
 (.seq (.aX (.and (.tv (.cmp .Gt (.bi "len" (.cons (.var 4) .nil)) (.int 1))) (.tv (.cmp .Lt (.bin .Mod (.var 6) (.int 5)) (.int 2))))
 (.seq (.pop 7 4)
 (.seq (.pap 4 (.ix (.lst (.cons (.str "and") (.cons (.str "or") .nil))) (.bin .Mod (.bin .FloorDiv (.var 6) (.int 5)) (.int 2))) (.cons (.var 7) .nil))
 .nil))
 (.seq (.aX (.and (.tv (.cmp .Gt (.bi "len" (.cons (.var 4) .nil)) (.int 0))) (.tv (.cmp .Eq (.bin .Mod (.var 6) (.int 5)) (.int 2))))
 (.seq (.pap 4 (.str "not") .nil)
 .nil)
 (.seq (.aX (.tv (.var 3))
 (.seq (.asg (.nm 8) (.lst .nil))
 (.seq (.bH (.nm 9) (.tv (.sl (.var 0) (.tv (.bin .Add (.bin .Mult (.int 4) (.var 5)) (.int 1))) (.tv (.bin .Add (.bin .Mult (.int 4) (.var 5)) (.int 4)))))
 (.seq (.asg (.nm 8) (.bin .Add (.var 8) (.lst (.cons (.var 9) (.cons (.int 0) (.cons (.int 0) (.cons (.int 0) .nil)))))))
 .nil))
 (.seq (.asg (.nm 10) (.call 0 "_law_tree" (.cons (.var 8) (.cons (.var 1) (.cons (.bin .Add (.int 1) (.bin .Mod (.bin .FloorDiv (.var 6) (.int 10)) (.int 2))) (.cons (.bl Z6) .nil))))))
 (.seq (.mut "append" 4 (.cons (.tup (.cons (.ix (.lst (.cons (.str "some") (.cons (.str "all") .nil))) (.bin .Mod (.bin .FloorDiv (.var 6) (.int 5)) (.int 2))) (.cons (.var 10) .nil))) .nil))
 .nil))))
 (.seq (.mut "append" 4 (.cons (.call 1 "_law_leaf" (.cons (.bin .FloorDiv (.var 6) (.int 5)) (.cons (.var 1) .nil))) .nil))
 .nil))
 .nil))
 .nil))
 .nil)))
 (.seq (.wh 100000 (.tv (.cmp .Gt (.bi "len" (.cons (.var 4) .nil)) (.int 1)))
 (.seq (.pop 7 4)
 (.seq (.pap 4 (.ix (.lst (.cons (.str "or") (.cons (.str "and") .nil))) (.bin .Mod (.bi "len" (.cons (.var 4) .nil)) (.int 2))) (.cons (.var 7) .nil))
 .nil)))
 (.seq (.ret (.ix (.var 4) (.int 0)))
 .nil))))
def IC:S:=(.seq .bad (.seq .bad (.seq .bad (.seq .bad .nil))))
def nY:Nat->Fn
 |0=>aZ [] [] 11 IC
 |k+1=>aZ [] [nY k,uD] 11 qZ
def zc:S:=(.seq (.asg (.nm 2) (.lst .nil))
 (.seq (.asg (.nm 3) (.bin .Mod (.var 0) (.int 6)))
 (.seq (.asg (.nm 0) (.bin .FloorDiv (.var 0) (.int 6)))
 (.seq (.bH (.nm 4) (.fT (.cons (.var 3) .nil))
 (.seq (.asg (.nm 5) (.ix (.var 1) (.bin .Mod (.var 0) (.bi "len" (.cons (.var 1) .nil)))))
 (.seq (.asg (.nm 0) (.bin .FloorDiv (.var 0) (.bi "len" (.cons (.var 1) .nil))))
 (.seq (.aX (.tv (.cmp .NotIn (.var 5) (.var 2)))
 (.seq (.mut "append" 2 (.cons (.var 5) .nil))
 .nil)
 .nil)
 .nil))))
 (.seq (.ret (.hJ "tuple" (.tv (.var 2))))
 .nil)))))
def zd:Fn:=aZ [] [] 6 zc
def zh:S:=(.seq (.asg (.nm 1) (.call 3 "_law_pool" (.cons (.int 0) .nil)))
 (.seq (.aX (.tv (.cmp .Gt (.bi "len" (.cons (.var 0) .nil)) (.int 0)))
 (.seq (.asg (.nm 1) (.call 3 "_law_pool" (.cons (.ix (.var 0) (.int 0)) .nil)))
 .nil)
 .nil)
 (.seq (.asg (.nm 2) (.lst (.cons (.tup (.cons (.str "fact") (.cons (.ix (.var 1) (.int 26)) .nil))) .nil)))
 (.seq (.asg (.nm 3) (.d1 (.ix (.var 1) (.int 26)) (.str "fact")))
 (.seq (.asg (.nm 4) (.int 0))
 (.seq (.bH (.tp [5,6]) (.enum (.sl (.var 0) (.tv (.int 1)) (.tv (.int 24))))
 (.seq (.asg (.nm 7) (.call 2 "_law_draws" (.cons (.bin .Add (.var 6) (.bin .Mult (.bin .Mult (.bin .Mult (.int 2) (.int 104729)) (.var 5)) (.var 5))) (.cons (.int 26) .nil))))
 (.seq (.asg (.nm 8) (.bin .Mod (.ix (.var 7) (.int 0)) (.int 6)))
 (.seq (.aX (.and (.tv (.cmp .Eq (.var 8) (.int 1))) (.tv (.cmp .Lt (.var 4) (.int 4))))
 (.seq (.asg (.nm 4) (.bin .Add (.var 4) (.int 1)))
 (.seq (.asg (.nm 9) (.lk 3))
 (.seq (.mut "append" 2 (.cons (.tup (.cons (.str "open") (.cons (.ix (.var 1) (.var 5)) (.cons (.call 0 "_law_list" (.cons (.ix (.var 7) (.int 1)) (.cons (.var 9) .nil))) (.cons (.call 0 "_law_list" (.cons (.ix (.var 7) (.int 2)) (.cons (.var 9) .nil))) .nil))))) .nil))
 .nil)))
 (.seq (.aX (.or (.tv (.cmp .Eq (.var 8) (.int 2))) (.tv (.cmp .Eq (.var 8) (.int 3))))
 (.seq (.mut "append" 2 (.cons (.tup (.cons (.str "word") (.cons (.ix (.var 1) (.var 5)) (.cons (.call 1 "_law_tree" (.cons (.sl (.var 7) (.tv (.int 2)) .nil) (.cons (.var 3) (.cons (.bin .Add (.int 1) (.bin .Mod (.ix (.var 7) (.int 1)) (.int 6))) (.cons (.bl Z6) .nil))))) .nil)))) .nil))
 .nil)
 (.seq (.aX (.tv (.cmp .Gt (.var 8) (.int 3)))
 (.seq (.mut "append" 2 (.cons (.tup (.cons (.str "claim") (.cons (.ix (.var 1) (.var 5)) (.cons (.call 1 "_law_tree" (.cons (.sl (.var 7) (.tv (.int 2)) .nil) (.cons (.var 3) (.cons (.bin .Add (.int 1) (.bin .Mod (.ix (.var 7) (.int 1)) (.int 3))) (.cons (.bl Z7) .nil))))) .nil)))) .nil))
 .nil)
 (.seq (.mut "append" 2 (.cons (.tup (.cons (.str "fact") (.cons (.ix (.var 1) (.var 5)) .nil))) .nil))
 .nil))
 .nil))
 .nil))
 (.seq (.aX (.tv (.cmp .Lt (.var 8) (.int 4)))
 (.seq (.dN 3 (.ix (.var 1) (.var 5)) (.ix (.ix (.var 2) (.neg (.int 1))) (.int 0)))
 .nil)
 .nil)
 .nil)))))
 (.seq (.ret (.var 2))
 .nil)))))))
def uE:Fn:=aZ [] [zd,(nY 2),qw,nX] 10 zh
def zi:S:=(.seq (.asg (.nm 3) (.lst .nil))
 (.seq (.bH (.nm 4) (.tv (.jF (.var 0) (.str "\n")))
 (.seq (.asg (.nm 5) (.jF (.var 4) (.str " ")))
 (.seq (.aX (.or (.tv (.cmp .Eq (.ix (.var 5) (.int 0)) (.str "word"))) (.tv (.cmp .Eq (.ix (.var 5) (.int 0)) (.str "claim"))))
 (.seq (.bH (.nm 6) (.fT (.cons (.int 3) (.cons (.bi "len" (.cons (.var 5) .nil)) .nil)))
 (.seq (.asg (.nm 2) (.bin .Mod (.bin .Mult (.var 2) (.int 48271)) (.int 2147483647)))
 (.seq (.aX (.and (.tv (.cmp .In (.ix (.var 5) (.var 6)) (.var 1))) (.and (.tv (.cmp .NotEq (.sl (.var 5) (.tv (.bin .Add (.var 6) (.int 1))) (.tv (.bin .Add (.var 6) (.int 2)))) (.lst (.cons (.str ">=") .nil)))) (.tv (.cmp .Eq (.bin .Mod (.var 2) (.int 2)) (.int 0)))))
 (.seq (.dN 5 (.var 6) (.bin .Add (.ix (.var 5) (.var 6)) (.str " >= 1")))
 .nil)
 .nil)
 .nil)))
 .nil)
 .nil)
 (.seq (.mut "append" 3 (.cons (.mt "join" (.str " ") (.cons (.var 5) .nil)) .nil))
 .nil))))
 (.seq (.ret (.mt "join" (.str "\n") (.cons (.var 3) .nil)))
 .nil)))
def uF:Fn:=aZ [] [] 7 zi
def oO:S:=(.seq (.aX (.tv (.dP (.var 1) ["str"]))
 (.seq (.ret (.and (.dP (.var 0) ["str"]) (.cmp .Eq (.var 0) (.var 1))))
 .nil)
 .nil)
 (.seq (.aX (.tv (.dP (.var 1) ["int"]))
 (.seq (.ret (.and (.dP (.var 0) ["int"]) (.and (.not (.dP (.var 0) ["bool"])) (.cmp .Eq (.var 0) (.var 1)))))
 .nil)
 .nil)
 (.seq (.aX (.or (.tv (.cmp .NotEq (.dP (.var 1) ["tuple"]) (.dP (.var 0) ["tuple"]))) (.tv (.cmp .NotEq (.dP (.var 1) ["list"]) (.dP (.var 0) ["list"]))))
 (.seq (.ret (.bl Z6))
 .nil)
 .nil)
 (.seq (.aX (.tv (.cmp .NotEq (.bi "len" (.cons (.var 0) .nil)) (.bi "len" (.cons (.var 1) .nil))))
 (.seq (.ret (.bl Z6))
 .nil)
 .nil)
 (.seq (.bH (.tp [2,3]) (.zip (.var 0) (.var 1))
 (.seq (.aX (.not (.tv (.call 0 "_law_alike" (.cons (.var 2) (.cons (.var 3) .nil)))))
 (.seq (.ret (.bl Z6))
 .nil)
 .nil)
 .nil))
 (.seq (.ret (.bl Z7))
 .nil))))))
def ID:S:=(.seq .bad (.seq .bad (.seq .bad (.seq .bad (.seq .bad (.seq .bad .nil))))))
def cV:Nat->Fn
 |0=>aZ [] [] 4 ID
 |k+1=>aZ [] [cV k] 4 oO
theorem qx {b:Str}(h:a.cps.toList=b.cps.toList):a=b:=by
 cases a with
 |mk x=>
  cases b with
  |mk y=>rw[show x=y from Array.ext' h]
theorem eI (a b:Str):(a++b).cps.toList=a.cps.toList++b.cps.toList:=by show(a.cps++b.cps).toList=_;rw[n9]
theorem kH (z:Str)(ss:List Str):(bM z ss).cps.toList=cW z.cps.toList ss:=by show(cW z.cps.toList ss).toArray.toList=_;rw[List.toList_toArray]
theorem tH (z:Str):z.length=z.cps.toList.length:=by rw[db];rfl
theorem RS (h:a.length+b.length<=100000):cM .Add (.str a) (.str b)=.ok (.str (a++b)):=by show(if a.length+b.length<=LIM then _ else _)=_;rw[qe (by unfold LIM;omega)]
theorem v_add (c:Ev Κ Φ s ρ (.str a))(d:Ev Κ Φ t ρ (.str b))(h:a.length+b.length<=100000):Vv Κ Φ (.bin .Add s t) ρ (.str (a++b)):=aP c d (RS h) rfl
theorem IE:∀a,fA (a.map .str)=Z9 a
 | []=>rfl
 |b::bs=>by rw[bc];show(fA (bs.map .str)).map (b:: ·)=_;rw[IE bs];rfl
theorem xv (h:pB z a<=LIM):mtD "join" (.str z) [.list (a.map .str)]=.ok (.str (bM z a)):=by
 show(match fA (a.map .str)with|some a=>if pB z a<=LIM then Res.ok (Z0 (bM z a))else .no|none=>.no)=_;rw[IE]
 dsimp only
 rw[qe h]
theorem tI (h:Ev Κ Φ t ρ (.int i)):Tt Κ Φ (.tv (.cmp .Eq t (.int j))) ρ (decide (i=j)):=aS (cU (k:=decide (i=j)) h aG.e (by show Res.ok (bO (.int _) (.int _))=_;rw[Hs])).e rfl
theorem mG (h:0<b)(c:b<2 ^ 200):cM .FloorDiv (.int a) (.int b)=.ok (.int (a/b)):=by show(if _ then _ else _)=_;rw[qe ⟨h,c⟩]
theorem RT (cs:List Int):iF "len" [.list (cs.map .int)]=.ok (.int (cs.length:Int)):=by show Res.ok (ZX ((cs.map ZX).length:Int))=_;rw[ai]
theorem RU {a c:Type}(f:a->c)(b:List a)(i j:Option Int):cut (b.map f) i j=(cut b i j).map f:=by unfold cut;rw[ai,List.map_take,List.map_drop]
def Nx (I:Rho->Prop)(z:Res Out):Prop:=∃aN,z=.ok (.nx aN)/\I aN
theorem eW (h:I ρ):Nx I (aH Κ Φ .nil ρ):=⟨ρ,uy,h⟩
theorem Dt (a:imm d=Z7):eZ (.nm j) (gJ d g,d) ρ=.ok (ρ.set j (Z9 (.al,d))):=by rw[lY a];rfl
theorem q_nm {Q:Res Out->Prop}{c:Type}{m:c->D}{xs:List c}(h:evF Κ Φ it ρ=.ok (g,xs.map m,d))(hm:∀x,imm (m x)=Z7)(I:List c->Rho->Prop)(h0:I [] d)
  (hf:∀pre x a ρ,xs=pre++x::a->I pre ρ->Nx (I (pre++[x])) (aH Κ Φ p (ρ.set j (Z9 (.al,m x))))) (e:∀b,I xs b->Q (aH Κ Φ rest b)):Q (aH Κ Φ (.seq (.bH (.nm j) it p) rest) ρ):=
 znk h I h0 (λpre x a ρ f i=>by obtain⟨b,k,l⟩:=hf pre x a ρ f i;exact⟨_,b,Dt (hm x),k,l⟩) e
theorem RV {a:Type}{m:a->D}(h:∀x,imm (m x)=Z7)(b:List a):imms (b.map m)=true:=ua.mpr λx c=>by obtain⟨p,_,rfl⟩:=bb.mp c;exact h p
theorem IF (h:imm d=Z7):z08 (Z9 (.al,d))=Z9 (.al,d):=by show(if imm d=Z7 then Z9 (G.al,d)else Z8)=_;rw[qe h]
theorem IG {β:Type}{f:D->Rho->Res Out}{m:β->D}{Q:Res Out->Prop}(I:List β->Rho->Prop):∀(xs pre:List β) (ρ:Rho),(∀Du x post ρ,pre++xs=Du++x::post->I Du ρ->(∃aN,f (m x) ρ=.ok (.nx aN)/\I (Du++[x]) aN)\/∃g d,f (m x) ρ=.ok (.rt g d)/\Q (.ok (.rt g d)))->I pre ρ->(∃aN,cG f (xs.map m) ρ=.ok (.nx aN)/\I (pre++xs) aN)\/∃g d,cG f (xs.map m) ρ=.ok (.rt g d)/\Q (.ok (.rt g d))
 | [],pre,ρ,_,h=>.inl ⟨ρ,rfl,by rw[br];exact h⟩
 |x::xs,pre,ρ,hf,h=>by
  rcases hf pre x xs ρ rfl h with⟨aN,e,h'⟩|⟨g,d,e,q⟩
  .have e2:pre++x::xs=(pre++[x])++xs:=by simp
   rcases IG I xs (pre++[x]) aN (λa b c r hh=>hf a b c r (e2.trans hh)) h' with⟨cR,e3,h3⟩|⟨g,d,e3,q⟩
   .exact .inl ⟨cR,by rw[bc];show(match f (m x) ρ with|.ok (.nx aN)=>cG f (xs.map m) aN|.ok (.ct aN)=>cG f (xs.map m) aN|.ok (.bk aN)=>.ok (.nx aN)|.ok (.rt g d)=>.ok (.rt g d)|.no=>.no)=_;rw[e];exact e3,by rw[e2];exact h3⟩
   .exact .inr ⟨g,d,by rw[bc];show(match f (m x) ρ with|.ok (.nx aN)=>cG f (xs.map m) aN|.ok (.ct aN)=>cG f (xs.map m) aN|.ok (.bk aN)=>.ok (.nx aN)|.ok (.rt g d)=>.ok (.rt g d)|.no=>.no)=_;rw[e];exact e3,q⟩
  .exact .inr ⟨g,d,by rw[bc];show(match f (m x) ρ with|.ok (.nx aN)=>cG f (xs.map m) aN|.ok (.ct aN)=>cG f (xs.map m) aN|.ok (.bk aN)=>.ok (.nx aN)|.ok (.rt g d)=>.ok (.rt g d)|.no=>.no)=_;rw[e],q⟩
theorem zrb {Q:Res Out->Prop}{β:Type}{m:β->D}{xs:List β}(h:evF Κ Φ it ρ=.ok (g,xs.map m,ρ1))(I:List β->Rho->Prop)(h0:I [] ρ1)
  (hf:∀pre x post ρ,xs=pre++x::post->I pre ρ->∃cR,eZ t' (gJ (m x) g,m x) ρ=.ok cR/\(Nx (I (pre++[x])) (aH Κ Φ p cR)\/∃g d,aH Κ Φ p cR=.ok (.rt g d)/\Q (.ok (.rt g d)))) (hk:∀aN,I xs aN->Q (aH Κ Φ rest aN)):Q (aH Κ Φ (.seq (.bH t' it p) rest) ρ):=by
 rcases IG (f:=λx ρ1=>eZ t' (gJ x g,x) ρ1>>=λcR=>aH Κ Φ p cR) I xs [] ρ1 (λpre x post ρ hx hI=>by
  obtain⟨cR,e,hh⟩:=hf pre x post ρ hx hI;rcases hh with⟨aN,h1,h2⟩|⟨g',d,h1,h2⟩
  .exact .inl ⟨aN,by rw[e,Res.aB,h1],h2⟩
  .exact .inr ⟨g',d,by rw[e,Res.aB,h1],h2⟩) h0 with⟨aN,e,i⟩|⟨g',d,e,q⟩
 .rw[lH (CT h e) rfl];exact hk aN i
 .rw[eB (CT h e)];exact q
def qy (w:Str):Bool:=([.str "and",.str "or",.str "not",.str "if",.str "is",.str "some",.str "all",.str "for",.str "against"]:List D).any λy=>bO y (.str w)
def gn (w:Str):Str:=if qy w then w++"x"else w
theorem RX {w:Str}(h:w.length<=100):nW [.str w]=.ok (.fr,.str (gn w)):=by
 unfold nW;refine gB ?_;unfold tG;have hc:Tt [] [] (.tv (.cmp .In (.var 0) (.lst (.cons (.str "and") (.cons (.str "or") (.cons (.str "not") (.cons (.str "if") (.cons (.str "is") (.cons (.str "some") (.cons (.str "all") (.cons (.str "for") (.cons (.str "against") .nil)))))))))))) [Z9 (.od,.str w)] (qy w):=aS (cU (aC rfl) (Ev.of (iI (bF bD (bF bD (bF bD (bF bD (bF bD (bF bD (bF bD (bF bD (bF bD (dU)))))))))))) rfl).e rfl;unfold gn;cases hk:qy w with
 |true=>refine oK hc hk (eB (fF (aP (aC rfl) bD.e (add_str (by have:("x":Str).length=1:=rfl;omega)) rfl)))
 |false=>exact lK hc hk (eB (fF (v_var rfl rfl)))
theorem Dv:("abcdefghijklmnopqrstuvwxyz":Str).length=26:=rfl
theorem Dw:("bcdefghjklmnpqrstuvwxyz":Str).length=23:=rfl
def p1 (c:Nat):Bool:=decide (97<=c)&&decide (c<=122)
def p2 (c:Nat):Bool:=p1 c&& !(c==97)&& !(c==105)&& !(c==111)
def Ch (p:Nat->Bool)(w:Str):Prop:=∀c∈w.cps.toList,p c=Z7
theorem Ch.app (e:Ch p a)(f:Ch p b):Ch p (a++b):=λc g=>by
 have d:c∈(a.cps++b.cps).toList:=g;rw[n9]at d;rcases a8.mp d with h|h
 .exact e c h
 .exact f c h
theorem Ch.sl (d:Ch p a)(i j:Option Int):Ch p (gI a i j):=λc e=>by
 have b:c∈cut a.cps.toList i j:=by have h0:c∈(cut a.cps.toList i j).toArray.toList:=e;simpa using h0
 exact d c (il (ip b))
theorem Ch.chr {i:Int}(h:Ch p z)(h0:0<=i)(a:i<z.length):Ch p (Mk.chr z i):=λc b=>by rw[ar.mp b];refine h _ (getD_mem h0 ?_);exact a
theorem Ch.weak (h:Ch p z)(a:∀c,p c=Z7->q c=Z7):Ch q z:=λc b=>a c (h c b)
theorem Ch.nil:Ch p "":=λc a=>by cases a
theorem RY (c:Nat)(h:p2 c=Z7):p1 c=true:=by unfold p2 at h;rw[aw,aw,aw]at h;exact h.1.1.1
theorem Ch.join (h:∀s∈ss,Ch p s):Ch p (bM "" ss):=λc hc=>by
 have fC:c∈(cW ("":Str).cps.toList ss).toArray.toList:=hc;cases ss with
 |nil=>cases fC
 |cons x r=>
  simp only[cW,a8,List.mem_flatten,bb]at fC;rcases fC with fC|⟨l,⟨y,hy,rfl⟩,fC⟩
  .exact h x ax c fC
  .rcases a8.mp fC with fC|fC
   .cases fC
   .exact h y (av _ hy) c fC
theorem IH:Ch p1 "abcdefghijklmnopqrstuvwxyz":=λc a=>be.mp (by decide+kernel) c a
theorem RZ:Ch p2 "bcdefghjklmnpqrstuvwxyz":=λc a=>be.mp (by decide+kernel) c a
structure NW (w:Str):Prop where
 l1:1<=w.length
 l2:w.length<=12
 ch:Ch p1 w
 kp:qy w=Z6
def rG:List Str:=["and","or","not","if","is","some","all","for","against"]
theorem zj (w:Str):qy w=Z7↔w∈rG:=by
 show(rG.map Z0).any (λy=>bO y (.str w))=Z7↔_;rw[List.any_map,iu];constructor
 .rintro⟨x,b,h⟩
  have a:(x==w)=true:=h;rw[beq_iff_eq]at a;rw[<-a];exact b
 .intro h;exact⟨w,h,by show(w==w)=Z7;rw[beq_self_eq_true]⟩
theorem R0 (b:1<=w.length)(d:w.length<=12)(h:Ch p1 w):NW (gn w):=by
 unfold gn;cases hk:qy w with
 |false=>rw[qf fj];exact⟨b,d,h,hk⟩
 |true=>
  rw[qe rfl];have e:Ch p1 ("x":Str):=λc f=>by rw[ar.mp f];rfl
  have g:∀v∈rG,v.length<=11/\qy (v++"x")=false:=by decide+kernel
  have a:=g w ((zj w).mp hk);refine⟨by rw[cT];omega,by rw[cT];have:("x":Str).length=1:=rfl;omega,h.app e,a.2⟩
theorem R1 (z:Str)(h:0<=i):(gI z Z8 (Z9 i)).length+(gI z (Z9 i) Z8).length=z.length:=by
 have e:∀a b,(gI z a b).length=(cut z.cps.toList a b).length:=λa b=>by show((cut z.cps.toList a b).toArray).size=_;rw[bg]
 rw[e,e,tH];generalize z.cps.toList=l;unfold cut;have s:Mi.bB l.length 0 (Z9 i)=min i.toNat l.length:=qf (by omega);have c:Mi.bB l.length l.length (Z9 i)=min i.toNat l.length:=qf (by omega);rw[s,c,cv,cv,d5,d5];show min (min i.toNat l.length-0) l.length+min (l.length-min i.toNat l.length) (l.length-min i.toNat l.length)=_;have:=Nat.min_le_right i.toNat l.length;generalize min i.toNat l.length=k at this;omega
theorem xw (hm:∀x,imm (m x)=Z7)(d:Ev Κ Φ a ρ (.list (xs.map m)))(e:Oo Κ Φ b ρ i)(f:Oo Κ Φ c ρ j):aE Κ Φ (.sl a b c) ρ=.ok (.fr,.list ((cut xs i j).map m)):=by obtain⟨g,d⟩:=d;rw[wU,d,Res.aB,e,Res.aB,f,Res.aB];rw[show se (.list (xs.map m)) i j=.ok (.list (cut (xs.map m) i j))from rfl,RU];show Res.ok (if imms ((cut xs i j).map m)=Z7 then G.fr else _,_)=_;rw[qe (RV hm _)]
theorem Dx:Ch p1 ("x":Str):=λc a=>by rw[ar.mp a];rfl
theorem II:Ch p1 "bcdefghjklmnpqrstuvwxyz":=RZ.weak RY
theorem R3 (c:Int){k:Int}(h0:0<=k)(h1:k<=100):∃n,0<=n/\nV [.int c,.int k]=.ok (.fr,.int n):=by have hk:0<=k*k/\k*k<=10000:=⟨Int.mul_nonneg h0 h0,by have:=Int.mul_le_mul h1 h1 h0 (by decide);omega⟩;refine⟨(c%1000000000000000+104729*k*k+11)*48271%2147483647,gt _ (by decide),?_⟩;unfold nV;refine gB ?_;unfold tF;exact eB (fF (aP (aP (aP (aP (aP (aC rfl) (aP (d:=.int 1000000000000000) aG.e aG.e rfl rfl).e (dC (by decide)) rfl).e (aP (aP aG.e (aC rfl) (uu (by decide)) rfl).e (aC rfl) (lI ⟨by omega,by omega⟩) rfl).e rfl rfl).e aG.e rfl rfl).e aG.e (lI (by decide)) rfl).e aG.e (dC (by decide)) rfl))
section
variable {Κ:List D}{Φ:List Fn}{ρ:Rho}{c:C}{k:Bool}{p q rest:S}{Q:Res Out->Prop}
theorem tJ (b:Tt Κ Φ c ρ k)(d:k=Z7->Nx (λa=>Q (aH Κ Φ rest a)) (aH Κ Φ p ρ))(f:k=Z6->Nx (λa=>Q (aH Κ Φ rest a)) (aH Κ Φ q ρ)):Q (aH Κ Φ (.seq (.aX c p q) rest) ρ):=by
 cases k with
 |true=>obtain⟨a,e,z⟩:=d rfl;exact aF (yT b (λ_=>e) nofun) z
 |false=>obtain⟨a,e,z⟩:=f rfl;exact aF (yT b nofun λ_=>e) z
theorem xx (b:Tt Κ Φ c ρ k)(d:k=Z7->Nx (λa=>Q (aH Κ Φ rest a)) (aH Κ Φ p ρ))(e:k=Z6->Q (aH Κ Φ rest ρ)):Q (aH Κ Φ (.seq (.aX c p .nil) rest) ρ):=tJ b d λh=>⟨_,uy,e h⟩
theorem R4 (a:Tt Κ Φ c ρ k)(b:k=Z7->∃g d,aH Κ Φ p ρ=.ok (.rt g d)/\Q (.ok (.rt g d)))(f:k=Z6->Q (aH Κ Φ rest ρ)):Q (aH Κ Φ (.seq (.aX c p .nil) rest) ρ):=by
 cases k with
 |true=>obtain⟨g,d,e,z⟩:=b rfl;rw[oK a rfl e];exact z
 |false=>exact tf a rfl (f rfl)
end
def Np (ns:List Str):Prop:=ns.length=27/\(∀w∈ns,NW w)/\(ns.take 23).Nodup/\ns.getD 26 ⟨#[]⟩∉ns.take 23
theorem R5 (xA:z.cps.toList.Nodup)(a:0<=i)(b:i<z.length)(c:0<=j)(d:j<z.length)(e:chr z i=chr z j):i=j:=by have e:=congrArg (λs:Str=>s.cps.toList) e;have e:=l5 e;have f:=tH z;rw[ag,ag,a9 (by omega),a9 (by omega)]at e;have:=(List.getElem_inj xA).mp e;omega
theorem R6 (h:w.length<=11):(gn w).length<=11:=by
 unfold gn;split
 .rename_i hk;have a:∀v∈rG,v.length<=7:=by decide+kernel
  have:=a w ((zj w).mp hk);rw[cT];have:("x":Str).length=1:=rfl;omega
 .exact h
theorem IJ (h:a++("x":Str)=b++"x"):a=b:=by have e:=congrArg (λs:Str=>s.cps.toList) h;rw[eI,eI]at e;exact qx (lm e)
theorem R7 (c:a.length=b.length)(h:gn a=gn b):a=b:=by
 have d:("x":Str).length=1:=rfl;unfold gn at h;split at h<;>split at h
 .exact IJ h
 .have :=congrArg Str.length h;rw[cT]at this;omega
 .have :=congrArg Str.length h;rw[cT]at this;omega
 .exact h
theorem Dy (h:v.length<=11)(n:NW v):NW (v++"x"):=by
 have b:("x":Str).length=1:=rfl;refine⟨by rw[cT];omega,by rw[cT];omega,n.ch.app Dx,?_⟩;cases hk:qy (v++"x")with
 |false=>rfl
 |true=>
  have a:∀k∈rG,k.cps.toList.getLast?≠Z9 120:=by decide+kernel
  refine absurd ?_ (a _ ((zj _).mp hk));rw[eI,show("x":Str).cps.toList=[120]from by decide+kernel,List.getLast?_append];rfl
theorem zec {β:Type}{m:β->D}{xs:List β}(f:β->Str)(hw:evW Κ Φ it ρ=.ok w)(hx:w.2=xs.map m)(r:β->Rho)
  (hb:∀x∈xs,eZ tg (gJ (m x) w.1,m x) (bx nt Z8++js.map λj=>fV (ρ.getD j Z8))=.ok (r x)) (he:∀x∈xs,Vv Κ Φ elt (r x) (.str (f x))):
  aE Κ Φ (.comp nt js N' tg it .nil elt) ρ=.ok (.fr,.list ((xs.map f).map .str)):=by
 have e:=z6i (N':=N') (λ_=>Z7) (λx=>.str (f x)) hw hx r hb (λ_ _=>yS) λx h _=>he x h;rw[i3.mpr λ_ _=>rfl]at e;rw[e,ci];rfl
theorem sgn (o:z.length=b.toNat)(d:Ch p1 z)(xA:z.cps.toList.Nodup)(f:b=23\/b=26)(q:ρ[1]?=Z9 (Z9 (.al,.str z)))(r:ρ[2]?=Z9 (Z9 (.al,.int n)))(hm:0<m/\m<2 ^ 200):∃c:List Str,(c.length=23/\(∀s∈c,s.length=1/\Ch p1 s)/\c.Nodup)/\aE [] Φ (.comp 1 [1,2] ["_law_k","_law_letters","_law_number"] (.nm 0) (.fT (.cons (.int 23) .nil)) .nil (.ix (.var 1) (.bin .Mod (.bin .Add (.bin .FloorDiv (.var 2) (.int m)) (.bin .Mult (.int 3) (.var 0))) (.int b)))) ρ=.ok (.fr,.list (c.map .str)):=by
 have h:0<b:=by omega
 have p:∀k:Nat,0<=(n/m+3*(k:Int))%b/\(n/m+3*(k:Int))%b<z.length:=λk=>⟨gt _ (by omega),by have:=j8 (n/m+3*(k:Int)) h;rw[o];omega⟩;refine⟨(ce 23).map λ(k:Nat)=>chr z ((n/m+3*(k:Int))%b),⟨by rw[ai,cg],λs hs=>?_,?_⟩,zec (m:=λi:Nat=>ZX i) _ (CQ (aW aG.e bN) (uv (by omega) (by omega))) rfl (λk=>[Z9 (.al,.int k),Z9 (.al,.str z),Z9 (.al,.int n)]) (λk _=>by show eZ (.nm 0) _ ([Z8]++[fV (ρ.getD 1 Z8),fV (ρ.getD 2 Z8)])=_;rw[ag,ag,q,r];rfl) λk _=>aR (aC rfl) (aP (aP (aP (aC rfl) aG.e (mG hm.1 hm.2) rfl).e (aP aG.e (aC rfl) (uu (by decide)) rfl).e rfl rfl).e aG.e (dC h) rfl).e (t6 (p k).1 (p k).2 (by omega)) rfl⟩
 .obtain⟨k,_,rfl⟩:=bb.mp hs;exact⟨rfl,d.chr (p k).1 (p k).2⟩
 .refine pw.mpr (lp (λ{i j} hi l g e=>g ?_) List.nodup_range);have hi:=fi.mp hi;have l:=fi.mp l;have:=R5 xA (p i).1 (p i).2 (p j).1 (p j).2 e;generalize n/m=a at this;rcases f with rfl|rfl<;>omega
abbrev zl:List Fn:=[nW,nV]
theorem R8 (c:Int):∃ns,Np ns/\nX [.int c]=.ok (.fr,.list (ns.map .str)):=by
 let Q:Res Out->Prop:=λr=>∃ns,Np ns/\r=.ok (.rt .fr (.list (ns.map .str)))
 suffices h:Q (aH [] zl qu [Z9 (.od,.int c),Z8,Z8,Z8,Z8,Z8,Z8,Z8,Z8]) by obtain⟨ns,h1,h2⟩:=h;exact⟨ns,h1,gB h2⟩
 unfold qu;obtain⟨n,n0,en⟩:=R3 c (k:=0) (by decide) (by decide);have bs:∀k:Nat,∀s,s=chr "bcdefghjklmnpqrstuvwxyz" ((n/11+5*(k:Int)*k)%23)->s.length=1/\Ch p1 s:=λk s h=>by rw[h];exact⟨rfl,II.chr (by omega) (by rw[Dw];omega)⟩
 have zm:∀s∈(ce (n%11).toNat).map λ(k:Nat)=>chr "bcdefghjklmnpqrstuvwxyz" ((n/11+5*(k:Int)*k)%23),s.length=1/\Ch p1 s:=λs h=>by obtain⟨k,_,e⟩:=bb.mp h;exact bs k s e.symm
 have hj:=λs h=>(zm s h).1;have R9:((ce (n%11).toNat).map λ(k:Nat)=>chr "bcdefghjklmnpqrstuvwxyz" ((n/11+5*(k:Int)*k)%23)).length<=10:=by rw[ai,cg];omega
 refine aF (cY bD) (aF (cY (gP (aW (aC rfl) (aW aG.e bN)) rfl en rfl)) (aF (cY (aP (aC rfl) aG.e (dC (by decide)) rfl)) (aF (cY (lJ bD.e (aW (Ev.of (zec (m:=λi:Nat=>ZX i) (xs:=ce (n%11).toNat) (λk=>chr "bcdefghjklmnpqrstuvwxyz" ((n/11+5*(k:Int)*k)%23)) (CQ (aW (aC rfl) bN) (uv (by omega) (by omega))) rfl (λk=>[Z9 (.al,.int k),Z9 (.al,.str "bcdefghjklmnpqrstuvwxyz"),Z9 (.al,.int n)]) (λk _=>rfl) (λk hk=>by
  have Ds:k<1000:=by have:=fi.mp hk;omega
  exact aR (aC rfl) (aP (aP (aP (d:=.int (n/11)) (aC rfl) aG.e rfl rfl).e (aP (aP aG.e (aC rfl) (uu (by decide)) rfl).e (aC rfl) (lI (by omega)) rfl).e rfl rfl).e aG.e (dC (by decide)) rfl).e (t6 (by omega) (by rw[Dw];omega) (by rw[Dw];omega)) rfl))) bN) (Qm hj (by omega)) rfl)) (aF (cY (aP (aP (d:=.int (n/253)) (aC rfl) aG.e rfl rfl).e (aP (aC rfl) aG.e rfl rfl).e (dC (by omega)) rfl)) ?_))))
 have Dz:=Ql _ hj;have xB:=Ch.join λs h=>(zm s h).2;generalize bM "" _=cN at Dz xB;have a0:0<=n/253%(n%11+1):=gt _ (by omega);generalize n/253%(n%11+1)=at' at a0;obtain⟨sg,R',Sa⟩:=sgn (Φ:=zl) (ρ:=[Z9 (.od,.int c),Z9 (.al,.str "bcdefghjklmnpqrstuvwxyz"),Z9 (.al,.int n),Z9 (.al,.int (n%11)),Z9 (.al,.str cN),Z9 (.al,.int at'),Z8,Z8,Z8]) (b:=23) (m:=7) rfl II (by decide+kernel) (.inl rfl) rfl rfl (by decide);refine aF (fN Sa (gO _)) ?_
 suffices fin:∀{u1 u2 u3 u7:Option GD} {cN:Str} {at':Int} {ss:List Str},cN.length<=10->Ch p1 cN->0<=at'->(ss.length=23/\(∀s∈ss,s.length=1/\Ch p1 s)/\ss.Nodup)->Q (aH [] zl _ [Z9 (.od,.int c),u1,u2,u3,Z9 (.al,.str cN),Z9 (.al,.int at'),Z9 (.fr,.list (ss.map .str)),u7,Z8]) by
  refine xx (tI (aP (aC rfl) aG.e (dC (by decide)) rfl).e) (λ_=>?_) λ_=>fin (by omega) xB a0 R';have a2:0<=c/2/11%(c/2%11+1):=gt _ (by omega);obtain⟨sh,Se,Sf⟩:=sgn (Φ:=zl) (ρ:=[Z9 (.od,.int c),Z9 (.al,.str "abcdefghijklmnopqrstuvwxyz"),Z9 (.al,.int (c/2)),Z9 (.al,.int (c/2%11)),Z9 (.al,.str cN),Z9 (.al,.int (c/2/11%(c/2%11+1))),Z9 (.fr,.list (sg.map .str)),Z8,Z8]) (b:=26) (m:=132) rfl IH (by decide+kernel) (.inr rfl) rfl rfl (by decide);refine aF (cY bD) (aF (cY (d:=.int (c/2)) (aP (aC rfl) aG.e rfl rfl)) (aF (cY (aP (aC rfl) aG.e (dC (by decide)) rfl)) (aF (cY (aP (aP (d:=.int (c/2/11)) (aC rfl) aG.e rfl rfl).e (aP (aC rfl) aG.e rfl rfl).e (dC (by omega)) rfl)) (aF (fN Sf (gO _)) (aF (cY (d:=.int (c/2/3432)) (aP (aC rfl) aG.e rfl rfl)) (aF (cY bD) ?_))))));refine q_nm (m:=λi:Nat=>.int i) (xs:=ce (c/2%11).toNat) (wW (aW (aC rfl) bN) (uv (by omega) (by omega))) (λ_=>rfl) (λpre ρ=>∃q st u7,ρ=[Z9 (.od,.int c),Z9 (.al,.str "abcdefghijklmnopqrstuvwxyz"),Z9 (.al,.int q),Z9 (.al,.int (c/2%11)),Z9 (.al,.str st),Z9 (.al,.int (c/2/11%(c/2%11+1))),Z9 (.fr,.list (sh.map .str)),u7,Z8]/\st.length=pre.length/\Ch p1 st) ⟨c/2/3432,"",Z8,rfl,rfl,Ch.nil⟩ ?_ ?_
  .rintro pre x post ρ hx ⟨q,st,u7,rfl,hl,uG⟩
   have hp:=congrArg c8 hx;simp only[cg,af,am]at hp;refine aF (cY (v_add (aC rfl) (aR (aC rfl) (aP (aC rfl) aG.e (dC (by decide)) rfl).e (t6 (z:="abcdefghijklmnopqrstuvwxyz") (i:=q%26) (by omega) (by rw[Dv];omega) (by rw[Dv];omega)) rfl).e (by rw[Hq];omega))) (aF (cY (d:=.int (q/26)) (aP (aC rfl) aG.e rfl rfl)) (eW ⟨q/26,_,Z9 (.al,.int x),rfl,by rw[cT,Hq,af,hl];rfl,uG.app (IH.chr (by omega) (by rw[Dv];omega))⟩))
  .rintro ρ ⟨q,st,u7,rfl,hl,uG⟩
   rw[cg]at hl;exact eW (fin (by omega) uG a2 Se)
 intro u1 u2 u3 u7 cN at' ss hs uG h0 ⟨hl,h1,xA⟩;have hc:=R1 cN h0
 let w:Str->Str:=λs=>gI cN Z8 (Z9 at')++s++gI cN (Z9 at') Z8
 have tK:∀s∈ss,(w s).length=cN.length+1:=λs zo=>by show(gI cN Z8 (Z9 at')++s++gI cN (Z9 at') Z8).length=_;rw[cT,cT,(h1 s zo).1];omega
 refine aF (fN (zec (m:=Z0) (xs:=ss) (w:=(.al,ss.map .str)) (λs=>gn (w s)) (fY (g:=.al) (x:=.list (ss.map .str)) rfl rfl) rfl (λs=>[Z9 (.al,.str s),Z9 (.al,.str cN),Z9 (.al,.int at')]) (λs _=>rfl) (λs hx=>gP (aW (v_add (v_add (wV (aC rfl) uc (oJ (aC rfl)) (yi (by omega)) rfl).e (aC rfl) (by have:=(h1 s hx).1;omega)).e (wV (aC rfl) (oJ (aC rfl)) uc (yi (by omega)) rfl).e (by rw[cT];have:=(h1 s hx).1;omega)).e bN) rfl (RX (by have:=tK s hx;show(w s).length<=_;omega)) rfl)) (gO _)) ?_;have uH:∀v∈ss.map (λs=>gn (w s)),v.length<=11/\NW v:=λv hv=>by obtain⟨s,zo,rfl⟩:=bb.mp hv;have:=tK s zo;exact⟨R6 (by omega),R0 (by omega) (by omega) (((uG.sl _ _).app (h1 s zo).2).app (uG.sl _ _))⟩
 have IK:(ss.map λs=>gn (w s)).Nodup:=by refine pw.mpr (lp (λ{a b} ha hb sP e=>sP ?_) xA);have e:=congrArg (λs:Str=>s.cps.toList) (show gI cN Z8 (Z9 at')++a++gI cN (Z9 at') Z8=gI cN Z8 (Z9 at')++b++gI cN (Z9 at') Z8 from R7 ((tK a ha).trans (tK b hb).symm) e);rw[eI,eI,eI,eI]at e;exact qx (List.append_cancel_left (lm e))
 have IL:∀v∈ss.map (λs=>gn (w s)),∀z∈ss.map (λs=>gn (w s)),v≠z++("x":Str):=λv hv z hz e=>by
  obtain⟨s,zm,rfl⟩:=bb.mp hv
  have lz:cN.length+1<=z.length:=by
   obtain⟨s',rD,rfl⟩:=bb.mp hz;have:=tK s' rD;unfold gn;split
   .rw[cT];omega
   .omega
  have tK:=tK s zm;have lx:("x":Str).length=1:=rfl;have el:=congrArg Str.length e;rw[cT]at el;unfold gn at e el;split at e
  .rename_i hk;have:=IJ e;rw[this,(uH z hz).2.kp]at hk;cases hk
  .rename_i hk;rw[qf hk]at el;omega
 have t8:(ss.map λs=>gn (w s)).length=23:=by rw[ai];exact hl
 generalize (ss.map λs=>gn (w s))=ns at uH t8 IK IL;have IM:(cut ns Z8 (Z9 4)).length=4:=by unfold cut;simp only[Mi.bB,qf (show ¬(4:Int)<0 by omega),cv,d5,t8];omega
 have eN:∀v∈cut ns Z8 (Z9 4),v∈ns:=λv hv=>il (ip hv)
 refine⟨ns++(cut ns Z8 (Z9 4)).map λ(v:Str)=>v++"x",⟨by rw[af,ai,t8,IM],λv hv=>?_,by rw[ed (by omega)];exact IK.sublist (o7 _ _),λh=>by
  rw[ed (by omega)]at h;have hm:(ns++(cut ns Z8 (Z9 4)).map λ(v:Str)=>v++("x":Str)).getD 26 ⟨#[]⟩∈(cut ns Z8 (Z9 4)).map λ(v:Str)=>v++("x":Str):=by rw[ag,cf (by omega),t8,a9 (by rw[ai,IM];decide)];exact fh _
  obtain⟨z,hz,ez⟩:=bb.mp hm;exact IL _ (ip h) z (eN z hz) ez.symm⟩,eB (QA nofun (Hy (aC rfl) (Ev.of (zec (m:=Z0) (xs:=cut ns Z8 (Z9 4)) (λv=>v++"x") (fY (xw (m:=Z0) (xs:=ns) (λ_=>rfl) (aC rfl) uc (oJ aG.e)) rfl) rfl (λv=>[Z9 (.al,.str v)]) (λv _=>rfl) (λv hx=>v_add (aC rfl) bD.e (by have:=uH v (eN v hx);have:("x":Str).length=1:=rfl;omega)))) (by rw[add_list (by simp only[ai];omega),<-bn]) (gO _)))⟩
 rcases a8.mp hv with h|h
 .exact(uH v h).2
 .obtain⟨z,hz,rfl⟩:=bb.mp h;exact Dy (uH z (eN z hz)).1 (uH z (eN z hz)).2
theorem zp (d:Ev Κ Φ a ρ x)(e:Ev Κ Φ b ρ y)(f:Ev Κ Φ c ρ z)(h:cmpD i x y=.ok k)(j:cmpD g y z=.ok l):Vv Κ Φ (.chain i g a b c) ρ (.bool (k&&l)):=by
 obtain⟨m,d⟩:=d;obtain⟨g2,e⟩:=e;obtain⟨n,f⟩:=f;refine⟨?_,rfl⟩;rw[Qr,d,Res.aB,e,Res.aB];rw[h,Res.aB];cases k with
 |true=>rw[f,Res.aB,j];rfl
 |false=>rfl
theorem len_str (h:w.length<=LIM):iF "len" [.str w]=.ok (.int (w.length:Int)):=by show(if w.length<=LIM then _ else _)=_;rw[qe h]
theorem Sg (h:Κ[k]?=Z9 d)(a:imm d=Z7):Vv Κ Φ (.glob k x) ρ d:=by
 refine⟨?_,a⟩;show(match Κ[k]? with|some d=>if imm d=Z7 then Res.ok (G.fr,d)else .no|none=>.no)=_;rw[h]
 dsimp only
 rw[qe a]
theorem DA:∀bs,allB (bs.map .bool)=Z9 bs
 | []=>rfl
 |b::bs=>by rw[bc];show(allB (bs.map .bool)).map (b:: ·)=_;rw[DA bs];rfl
def isn (w:Str):Bool:=(decide ((1:Int)<=w.length)&&decide ((w.length:Int)<=12))&&(w.cps.toList.all p1&& !qy w)
theorem qA (a b:Nat):decide ([a]< [b])=decide (a<b):=by
 rw[decide_eq_decide];constructor
 .intro h;cases h with
  |rel h=>exact h
  |cons h=>cases h
 .exact λh=>.rel h
theorem IP (b:w.length<=LIM):F_z0 [.str w]=.ok (.fr,.bool (isn w)):=by
 refine gB ?_;have g:z4q (.str w)=.ok (w.cps.toList.map λc=>Z0 ⟨#[c]⟩):=by show(if w.length<=LIM then _ else _)=_;rw[qe b]
 have d:=z6i (Κ:=[(.tuple [(.str "and"),(.str "or"),(.str "not"),(.str "if"),(.str "is"),(.str "some"),(.str "all"),(.str "for"),(.str "against")])]) (Φ:=[]) (ρ:=[Z9 (.od,.str w)]) (nt:=1) (js:=[]) (N':=["sign"]) (tg:=.nm 0) (it:=.tv (.var 0)) (elt:=.chain .LtE .LtE (.str "a") (.var 0) (.str "z")) (λ_=>Z7) (λc=>.bool (p1 c)) (fY (v_var rfl rfl).1 g) rfl (λc=>[Z9 (.al,.str ⟨#[c]⟩)]) (λc _=>rfl) (λc _=>yS)
  (λc _ _=>by
   refine zp bD.e (aC rfl) bD.e ?_ ?_
   .show Res.ok (!decide ([c]< [97]))=_;rw[qA,<-decide_not]
    congr 1
    rw[decide_eq_decide];omega
   .show Res.ok (!decide ([122]< [c]))=_;rw[qA,<-decide_not]
    congr 1
    rw[decide_eq_decide];omega)
 rw[i3.mpr λ_ _=>rfl]at d;have h:aggD "all" Z7 (w.cps.toList.map λc=>ZV (p1 c))=.ok (.bool (w.cps.toList.all p1)):=by have f:=DA (w.cps.toList.map p1);rw[ci]at f;show Res.eU ((allB (w.cps.toList.map λc=>ZV (p1 c))).map λbs=>ZV (bs.all id))=_;rw[show(w.cps.toList.map λc=>ZV (p1 c))=w.cps.toList.map (ZV∘p1)from rfl,f];show Res.ok (ZV ((w.cps.toList.map p1).all id))=_;rw[mn];rfl
 refine eB (fF ?_);exact v_and (k:=Z7) (kF (Κ:=[(.tuple [(.str "and"),(.str "or"),(.str "not"),(.str "if"),(.str "is"),(.str "some"),(.str "all"),(.str "for"),(.str "against")])]) (Φ:=[]) (ρ:=[Z9 (.od,.str w)]) (a:=.var 0) (ts:=["str"]) (aC rfl)).e λ_=>v_and (zp aG.e (fE (aW (aC rfl) bN) (len_str b) rfl).e aG.e rfl rfl).e λ_=>v_and (yR (Ev.of d) rfl h rfl).e λ_=>cU (aC rfl) (Sg rfl rfl).e rfl
def ac (c:Nat):Bool:=decide (c<128)&& !(c==10)
def iX (w:Str):Prop:=Ch ac w
theorem DB (h:Ch p1 w):iX w:=h.weak λc z=>by unfold p1 at z;unfold ac;rw[aq,decide_eq_true_eq,decide_eq_true_eq]at z;rw[aq,decide_eq_true_eq];exact⟨by omega,by simp;omega⟩
theorem Sh (h:w.cps.toList.all ac=Z7):iX w:=λc hc=>be.mp h c hc
theorem IQ (h:iX w):10∉w.cps.toList:=λz=>by have:=h 10 z;revert this;decide
theorem DC (h:Ch p1 w):32∉w.cps.toList:=λz=>by have:=h 32 z;revert this;decide
theorem zq:∀n (a:List Str),cL (n+1) (a.map .str)=Z7
 |_,[]=>rfl
 |n,s::a=>by show(aU (n+1) (.str s)&&cL (n+1) (a.map .str))=Z7;rw[zq n a];rfl
theorem IS (w:Str)(a:List Str):inD (.str w) (.list (a.map .str))=.ok (decide (w∈a)):=by
 show(if(aU 40 (.str w)&&cL 40 (a.map .str))=Z7 then Res.ok _ else .no)=_;rw[zq 39 a];show Res.ok _=_
 congr 1
 rw[List.any_map,i8,iu,decide_eq_true_iff];constructor
 .rintro⟨x,b,e⟩
  have e:bO (.str x) (.str w)=true:=e;rw[iU,decide_eq_true_eq]at e;rw[<-e];exact b
 .exact λh=>⟨w,h,by show bO (.str w) (.str w)=Z7;rw[iU];simp⟩
theorem DD:isn ""=false:=by decide+kernel
theorem IT:∀xs,zipD xs xs=xs.map λe=>.tuple [e,e]
 | []=>rfl
 |x::xs=>by show ZY [x,x]::zipD xs xs=_;rw[IT xs];rfl
theorem Si (h:imms a=Z7)(b:e∈a):imm e=true:=by
 induction a with
 |nil=>cases b
 |cons x a c=>
  have h:(imm x&&imms a)=true:=h;rw[aq]at h;rcases ao.mp b with rfl|b
  .exact h.1
  .exact c h.2 b
theorem lP (k:Nat)(s:Str):cV (k+1) [.str s,.str s]=.ok (.fr,.bool Z7):=by show aZ [] [cV k] 4 oO _=_;refine gB ?_;show aH [] [cV k] oO [Z9 (.od,.str s),Z9 (.od,.str s),Z8,Z8]=_;unfold oO;have v0:Vv [] [cV k] (.dP (.var 0) ["str"]) [Z9 (.od,.str s),Z9 (.od,.str s),Z8,Z8] (.bool Z7):=kF (x:=.str s) (aC rfl);refine oK (aS (kF (aC rfl)).e rfl) rfl (eB (fF (v_and (k:=Z7) v0.e λ_=>cU (aC rfl) (aC rfl) ?_)));show Res.ok (bO (.str s) (.str s))=_;rw[iU];simp
theorem Sj (k:Nat)(i:Int):cV (k+1) [.int i,.int i]=.ok (.fr,.bool Z7):=by show aZ [] [cV k] 4 oO _=_;refine gB ?_;show aH [] [cV k] oO [Z9 (.od,.int i),Z9 (.od,.int i),Z8,Z8]=_;unfold oO;have v0:Vv [] [cV k] (.dP (.var 0) ["int"]) [Z9 (.od,.int i),Z9 (.od,.int i),Z8,Z8] (.bool Z7):=kF (x:=.int i) (aC rfl);have v1:Vv [] [cV k] (.dP (.var 0) ["bool"]) [Z9 (.od,.int i),Z9 (.od,.int i),Z8,Z8] (.bool Z6):=kF (x:=.int i) (aC rfl);refine lK (aS (kF (aC rfl)).e rfl) rfl (oK (aS (kF (aC rfl)).e rfl) rfl (eB (fF (v_and (k:=Z7) v0.e λ_=>v_and (k:=Z7) (v_not (k:=Z6) v1.e rfl).e λ_=>cU (aC rfl) (aC rfl) ?_))));show Res.ok (bO (.int i) (.int i))=_;rw[y3];simp
theorem xC {k:Nat}{x:D}{xs:List D}(hx:x=.tuple xs\/x=.list xs)(hi:imms xs=Z7)(hl:xs.length<=100)(he:∀e∈xs,cV k [e,e]=.ok (.fr,.bool Z7)):cV (k+1) [x,x]=.ok (.fr,.bool Z7):=by
 show aZ [] [cV k] 4 oO _=_;refine gB ?_
 let Q:Res Out->Prop:=λr=>r=.ok (.rt .fr (.bool Z7))
 show Q _;unfold oO
 have sq:seqR x=.ok xs:=by
  rcases hx with rfl|rfl
  .show(if decide (xs.length<=LIM)=Z7 then _ else _)=_;rw[qe (qk (by unfold LIM;omega))]
  .show(if decide (xs.length<=LIM)=Z7 then _ else _)=_;rw[qe (qk (by unfold LIM;omega))]
 have ln:iF "len" [x]=.ok (.int xs.length):=by rcases hx with rfl|rfl<;>rfl
 have t1:Tt [] [cV k] (.tv (.dP (.var 1) ["str"])) [Z9 (.od,x),Z9 (.od,x),Z8,Z8] false:=by rcases hx with rfl|rfl<;>exact aS (kF (aC rfl)).e rfl
 have t2:Tt [] [cV k] (.tv (.dP (.var 1) ["int"])) [Z9 (.od,x),Z9 (.od,x),Z8,Z8] false:=by rcases hx with rfl|rfl<;>exact aS (kF (aC rfl)).e rfl
 have t3:Tt [] [cV k] (.or (.tv (.cmp .NotEq (.dP (.var 1) ["tuple"]) (.dP (.var 0) ["tuple"]))) (.tv (.cmp .NotEq (.dP (.var 1) ["list"]) (.dP (.var 0) ["list"])))) [Z9 (.od,x),Z9 (.od,x),Z8,Z8] (Z6||Z6):=by rcases hx with rfl|rfl<;>exact jO (aS (cU (kF (aC rfl)).e (kF (aC rfl)).e rfl).e rfl) λ_=>aS (cU (kF (aC rfl)).e (kF (aC rfl)).e rfl).e rfl
 have t4:Tt [] [cV k] (.tv (.cmp .NotEq (.bi "len" (.cons (.var 0) .nil)) (.bi "len" (.cons (.var 1) .nil)))) [Z9 (.od,x),Z9 (.od,x),Z8,Z8] false:=aS (cU (fE (aW (aC rfl) bN) ln rfl).e (fE (aW (aC rfl) bN) ln rfl).e (by show Res.ok (!bO (.int _) (.int _))=_;rw[y3];simp)).e rfl;refine tf t1 rfl (tf t2 rfl (tf t3 rfl (tf t4 rfl ?_)))
 have ev:∀i,i<2->∃g,aE [] [cV k] (.var i) [Z9 (.od,x),Z9 (.od,x),Z8,Z8]=.ok (g,x)/\mY (g,x)=true:=λi h=>by
  rcases hx with rfl|rfl
  .rcases i with _|_|i
   .exact⟨.fr,(v_var (i:=0) (g:=.od) (d:=.tuple xs) rfl hi).1,rfl⟩
   .exact⟨.fr,(v_var (i:=1) (g:=.od) (d:=.tuple xs) rfl hi).1,rfl⟩
   .omega
  .rcases i with _|_|i
   .exact⟨_,rfl,rfl⟩
   .exact⟨_,rfl,rfl⟩
   .omega
 obtain⟨g0,e0,c0⟩:=ev 0 (by decide);obtain⟨g1,e1,c1⟩:=ev 1 (by decide);have fz:=B6 (Κ:=[]) (Φ:=[cV k]) (ρ:=[Z9 (.od,x),Z9 (.od,x),Z8,Z8]) (a:=.var 0) (b:=.var 1) e0 e1 c0 c1 sq sq;rw[IT]at fz;refine zrb (m:=λe:D=>.tuple [e,e]) (xs:=xs) fz (λpre ρ=>∃u2 u3,ρ=[Z9 (.od,x),Z9 (.od,x),u2,u3]) ⟨Z8,Z8,rfl⟩ ?_ ?_
 .rintro pre e post ρ Sk ⟨u2,u3,rfl⟩
  have hm:e∈xs:=by rw[Sk];simp
  have ie:=Si hi hm;refine⟨[Z9 (.od,x),Z9 (.od,x),Z9 (.al,e),Z9 (.al,e)],?_,.inl ?_⟩
  .have ig:gJ (.tuple [e,e]) .al=.fr:=lY (by show(imm e&&(imm e&&Z7))=Z7;rw[ie];rfl);rw[ig];show Res.ok [Z9 (.od,x),Z9 (.od,x),Z9 (lV (gJ e .fr,e)),Z9 (lV (gJ e .fr,e))]=_;rw[lY ie];rfl
  .exact⟨_,lK (qQ (aS (gP (aW (v_var rfl ie).e (aW (v_var rfl ie).e bN)) rfl (he e hm) rfl).e rfl)) rfl uy,_,_,rfl⟩
 .rintro ρ ⟨u2,u3,rfl⟩
  exact eB (fF pU)
theorem DE {k:Nat}{a b:D}(ha:cV k [a,a]=.ok (.fr,.bool Z7))(hb:cV k [b,b]=.ok (.fr,.bool Z7))(hi:imms [a,b]=Z7):cV (k+1) [.tuple [a,b],.tuple [a,b]]=.ok (.fr,.bool Z7):=xC (.inl rfl) hi (show 2<=100 by decide) λe he=>by
 rcases ao.mp he with rfl|he
 .exact ha
 .rw[ar.mp he];exact hb
theorem Sl (s:Str):toS s.cps.toList=s:=qx (by show s.cps.toList.toArray.toList=_;simp)
theorem IU:∀{a:List Nat},x∉a->aV x a=[a]
 | [],_=>rfl
 |c::a,h=>by unfold aV;rw[qf (λz=>h (by rw[z];exact ax)),IU λz=>h (av _ z)]
theorem IV:∀{a b:List Nat},x∉a->aV x (a++x::b)=a::aV x b
 | [],b,_=>by show(if x=x then[]::aV x b else _)=_;rw[qe rfl]
 |c::a,b,h=>by show(if c=x then[]::aV x (a++x::b)else match aV x (a++x::b)with|h::t=>(c::h)::t| []=>[[c]])=_;rw[qf (λz=>h (by rw[z];exact ax)),IV λz=>h (av _ z)]
theorem fO (c:Nat)(x y:Str)(r:List Str):cW [c] (x::y::r)=x.cps.toList++c::cW [c] (y::r):=by show x.cps.toList++(List.map (λp:Str=>[c]++p.cps.toList) (y::r)).flatten=_;rw[bc];rfl
theorem IW:∀r x,(∀s∈x::r,c∉s.cps.toList)->aV c (cW [c] (x::r))=(x::r).map λs=>s.cps.toList
 | [],x,h=>by show aV c (x.cps.toList++[])=_;rw[br,IU (h x ax)];rfl
 |y::r,x,h=>by rw[fO,IV (h x ax),IW r y λs hs=>h s (av _ hs)];rfl
theorem zr (a:z.cps.toList=[c])(b:∀r∈rs,c∉r.cps.toList)(hn:rs≠[]):spW c (bM z rs)=rs:=by
 cases rs with
 |nil=>exact absurd rfl hn
 |cons x r=>unfold spW;rw[kH,a,IW r x b,ci];have:(toS∘λs:Str=>s.cps.toList)=id:=funext Sl;rw[this,np]
theorem zt:("\n":Str).cps.toList=[10]:=by decide+kernel
theorem qB:(" ":Str).cps.toList=[32]:=by decide+kernel
theorem zu:∀{rs:List Str} {c:Nat},c∈cW [x] rs->c=x\/∃r∈rs,c∈r.cps.toList
 | [],c,h=>by cases h
 | [y],c,h=>by have h:c∈y.cps.toList++[]:=h;rw[br]at h;exact .inr ⟨y,ax,h⟩
 |y::z::r,c,h=>by
  rw[fO]at h;rcases a8.mp h with h|h
  .exact .inr ⟨y,ax,h⟩
  .rcases ao.mp h with h|h
   .exact .inl h
   .rcases zu h with h|⟨q,a,h⟩
    .exact .inl h
    .exact .inr ⟨q,av _ a,h⟩
theorem zv:∀{rs:List Str},(∀r∈rs,r.length<=n)->(cW [x] rs).length<=(n+1)*rs.length
 | [],_=>ah _
 | [y],h=>by show(y.cps.toList++[]).length<=_;rw[br,<-tH];have:=h y ax;simp;omega
 |y::z::r,h=>by rw[fO,af,am,<-tH,am,Nat.mul_succ];have:=h y ax;have:=zv (x:=x) λs hs=>h s (av _ hs);omega
theorem DF:∀{rs:List Str},(∀r∈rs,r.length<=n)->(rs.map (·.length)).sum<=n*rs.length
 | [],_=>ah _
 |x::r,h=>by rw[bc,jy,am,Nat.mul_succ];have:=h x ax;have:=DF λs hs=>h s (av _ hs);omega
structure jT (r:Str):Prop where
 asc:iX r
 len:r.length<=1800
theorem Sm (h:∀w∈ws,iX w/\w.length<=13)(hl:ws.length<=14):jT (bM " " ws):=by
 refine⟨λc hc=>?_,?_⟩
 .rw[kH]at hc;rcases zu hc with rfl|⟨w,hw,hc⟩
  .decide
  .exact(h w hw).1 c hc
 .rw[tH,kH,qB];have:=zv (x:=32) λr hr=>(h r hr).2;omega
theorem Sn (h:∀c∈w.cps.toList,c<128):Z1 w=true:=by unfold Z1;rw[<-Array.all_toList,be];intro c a;have:=h c a;simp;omega
theorem So (h:ac c=Z7):c<128:=by unfold ac at h;rw[aq,decide_eq_true_eq]at h;exact h.1
theorem Sq (b:∀r∈rs,jT r):Z1 (bM "\n" rs)=true:=Sn λc a=>by
 rcases zu a with rfl|⟨r,h,a⟩
 .decide
 .exact So ((b r h).asc c a)
theorem zw {z:Str}{rs:List Str}{n:Nat}(hz:z.length=1)(h:∀r∈rs,r.length<=n)(hn:n<=2000)(hl:rs.length<=30):pB z rs<=LIM:=by unfold pB;have a:=DF h;have b:n*rs.length<=2000*30:=j9 hn hl;rw[hz];unfold LIM;omega
def iK (c:Nat):Bool:=decide (48<=c)&&decide (c<=57)
def dW (w:Str):Option Int:=if(1<=w.cps.toList.length/\w.cps.toList.length<=31)/\w.cps.toList.all iK=Z7/\¬(w.cps.toList.head?=Z9 48/\1<w.cps.toList.length)then Z9 (hX w.cps.toList:Int)else Z8
theorem Sr (h:1<=l.length)(b:l.all iK=Z7):mV l=true:=by
 unfold mV;rw[show(l.all λc=>decide (48<=c)&&decide (c<=57))=l.all iK from rfl,b];cases l with
 |nil=>exact absurd h dc
 |cons a r=>rfl
theorem Su (a:1<=w.length)(c:w.length<=31)(b:w.cps.toList.all iK=Z7):iF "int" [.str w]=.ok (.int (hX w.cps.toList:Int)):=by show pA w=_;unfold pA;rw[Sr (db▸a) b,qk (show w.length<=600 by omega)];rfl
theorem Sv (h:w.cps.toList=c::r)(a:w.length<=1000):gH (.str w) (.int 0)=.ok (.str ⟨#[c]⟩):=by
 have b:0<w.length:=by have:=congrArg c8 h;rw[db]at this;show 0<w.cps.size;rw[this];simp_all
 rw[t6 dc (by omega) a];show Res.ok (Z0 ⟨#[w.cps.toList.getD 0 0]⟩)=_;rw[h];rfl
theorem Sw (c d:Nat):cmpD .Eq (.str ⟨#[c]⟩) (.str ⟨#[d]⟩)=.ok (decide (c=d)):=by
 show Res.ok ((⟨#[c]⟩:Str)==⟨#[d]⟩)=_
 congr 1
 rw[i8,beq_iff_eq,decide_eq_true_iff];constructor
 .intro h;have:=congrArg (λs:Str=>s.cps.toList) h;simpa using this
 .intro h;rw[h]
theorem str_len (w:Str):w.cps.toList.length=w.length:=by rw[db];rfl
theorem Sx (i:w.length<=LIM):tE [.str w]=.ok (.fr,optD (dW w)):=by
 refine gB ?_;have wl:=str_len w;have j:∀{ρ:Rho},ρ[0]?=Z9 (Z9 (.od,.str w))->Vv [] [] (.bi "len" (.cons (.var 0) .nil)) ρ (.int w.length):=λh=>fE (aW (aC h) bN) (len_str i) rfl;have k:Tt [] [] (.not (.tv (.chain .LtE .LtE (.int 1) (.bi "len" (.cons (.var 0) .nil)) (.int 31)))) [Z9 (.od,.str w)] (!(decide ((1:Int)<=w.length)&&decide ((w.length:Int)<=31))):=qQ (aS (zp aG.e (j rfl).e aG.e rfl rfl).e rfl);unfold dW;by_cases f:1<=w.length/\w.length<=31
 .refine lK k (by rw[qk (show(1:Int)<=w.length by omega),qk (show(w.length:Int)<=31 by omega)];rfl) ?_;have q:z4q (.str w)=.ok (w.cps.toList.map λc=>Z0 ⟨#[c]⟩):=by show(if w.length<=LIM then _ else _)=_;rw[qe i]
  have l:=z6i (Κ:=[]) (Φ:=[]) (ρ:=[Z9 (.od,.str w)]) (nt:=1) (js:=[]) (N':=["sign"]) (tg:=.nm 0) (it:=.tv (.var 0)) (elt:=.chain .LtE .LtE (.str "0") (.var 0) (.str "9")) (λ_=>Z7) (λc=>.bool (iK c)) (fY (v_var rfl rfl).1 q) rfl (λc=>[Z9 (.al,.str ⟨#[c]⟩)]) (λ_ _=>rfl) (λ_ _=>yS)
   (λc _ _=>by
    refine zp bD.e (aC rfl) bD.e ?_ ?_
    .show Res.ok (!decide ([c]< [48]))=_;rw[qA,<-decide_not]
     congr 1
     rw[decide_eq_decide];omega
    .show Res.ok (!decide ([57]< [c]))=_;rw[qA,<-decide_not]
     congr 1
     rw[decide_eq_decide];omega)
  rw[i3.mpr λ_ _=>rfl]at l;have s:aggD "all" Z7 (w.cps.toList.map λc=>ZV (iK c))=.ok (.bool (w.cps.toList.all iK)):=by have m:=DA (w.cps.toList.map iK);rw[ci]at m;show Res.eU ((allB (w.cps.toList.map λc=>ZV (iK c))).map λbs=>ZV (bs.all id))=_;rw[show(w.cps.toList.map λc=>ZV (iK c))=w.cps.toList.map (ZV∘iK)from rfl,m];show Res.ok (ZV ((w.cps.toList.map iK).all id))=_;rw[mn];rfl
  have n:=qQ (aS (yR (Ev.of l) rfl s rfl).e rfl);by_cases d:w.cps.toList.all iK=Z7
  .refine lK n (by rw[d];rfl) ?_
   obtain⟨c,r,o⟩:∃c r,w.cps.toList=c::r:=by
    cases e:w.cps.toList with
    |nil=>rw[e]at wl;simp at wl;omega
    |cons c r=>exact⟨c,r,rfl⟩
   have p:Tt [] [] (.and (.tv (.cmp .Eq (.ix (.var 0) (.int 0)) (.str "0"))) (.tv (.cmp .Gt (.bi "len" (.cons (.var 0) .nil)) (.int 1)))) [Z9 (.od,.str w)] (decide (c=48)&&decide ((1:Int)<w.length)):=ux (aS (cU (aR (aC rfl) aG.e (Sv o (by omega)) rfl).e bD.e (Sw c 48)).e rfl) λ_=>aS (cU (j rfl).e aG.e rfl).e rfl
   have hh:(w.cps.toList.head?=Z9 48/\1<w.length)↔(decide (c=48)&&decide ((1:Int)<w.length))=true:=by
    rw[o,List.head?_cons,aq,decide_eq_true_eq,decide_eq_true_eq,Option.some.injEq];constructor
    .rintro⟨a,b⟩;exact⟨a,by omega⟩
    .rintro⟨a,b⟩;exact⟨a,by omega⟩
   by_cases g:w.cps.toList.head?=Z9 48/\1<w.length
   .rw[qf (λz=>z.2.2 g)];exact oK p (hh.mp g) (eB (fF CP))
   .rw[qe ⟨f,d,g⟩];exact lK p (eq_false_of_ne_true λz=>g (hh.mpr z)) (eB (fF (fE (aW (aC rfl) bN) (Su f.1 f.2 d) rfl)))
  .rw[qf (λz=>d z.2.1)];exact oK n (by rw[eq_false_of_ne_true d];rfl) (eB (fF CP))
 .rw[qf (λz=>f z.1)];refine oK k ?_ (eB (fF CP));rw[gz,Bool.and_eq_false_iff,decide_eq_false_iff_not,decide_eq_false_iff_not];omega
theorem Sz:dW ""=none:=by decide+kernel
theorem zx (h:NW w):isn w=true:=by unfold isn;rw[qk (show(1:Int)<=w.length by have:=h.l1;omega),qk (show(w.length:Int)<=12 by have:=h.l2;omega),be.mpr h.ch,h.kp];rfl
theorem SA {w:Str}(h:isn w=Z7):Ch p1 w:=by unfold isn at h;rw[aq]at h;have h:=h.2;rw[aq,be]at h;exact h.1
theorem zy (w:Str)(ws:List Str):Mi.pk (w::ws) 0=w:=rfl
theorem zA (p:Nat):Mi.pk [] p="":=rfl
theorem mH (h:ws.drop p=x::r):Mi.pk ws p=x/\ws.drop (p+1)=r:=by
 constructor
 .unfold Mi.pk;have e:=congrArg (λl=>l[0]?) h;rw[jb]at e;rw[ag,show p=p+0 from rfl,e];rfl
 .rw[<-jq,h];rfl
theorem IX (h:ws.drop p=[]):Mi.pk ws p="":=by unfold Mi.pk;rw[ag,gw (List.drop_eq_nil_iff.mp h)];rfl
section
variable {nb:Str->Bool}{ws:List Str}
theorem zcy:∀ns k p c sd rest,ws.drop p=ns++rest->(∀w∈ns,nb w=Z7)->nb (Mi.pk rest 0)=Z6->ns.length<=k->c.Nodup->
  tm nb ws k p c sd=if(c++ns).Nodup then Z9 (c++ns,p+ns.length,sd++ns.map λw=>dQ w OFT)else Z8
 | [],k,p,c,sd,rest,hd,_,f,_,d=>by
  rw[br,qe d];cases k with
  |zero=>show Z9 (c,p,sd)=Z9 (c,p+0,sd++[]);rw[br];rfl
  |succ k=>
   have e:Mi.pk ws p=Mi.pk rest 0:=by
    cases rest with
    |nil=>rw[IX (by simpa using hd)];rfl
    |cons x r=>exact(mH (x:=x) (by simpa using hd)).1
   show(if nb (Mi.pk ws p)=Z7 then _ else Z9 (c,p,sd))=Z9 (c,p+0,sd++[]);rw[e,f,br];rfl
 |w::ns,k,p,c,sd,rest,hd,hn,f,hk,d=>by
  cases k with
  |zero=>cases hk
  |succ k=>
   obtain⟨e,g⟩:=mH hd;show(if nb (Mi.pk ws p)=Z7 then(if Mi.pk ws p∈c then Z8 else tm nb ws k (p+1) (c++[Mi.pk ws p]) (sd++[dQ (Mi.pk ws p) OFT]))else Z9 (c,p,sd))=_;rw[e,qe (hn w ax)];by_cases hm:w∈c
   .rw[qe hm,qf];intro nd;rw[ij]at nd;exact nd.2.2 w hm w ax rfl
   .have h:(c++[w]).Nodup:=by
     rw[ij];exact⟨d,et.mpr ⟨nofun,ir⟩,λa d b i e=>by rw[ar.mp i]at e;exact hm (e▸d)⟩
    rw[qf hm,zcy ns k (p+1) (c++[w]) _ rest g (λz j=>hn z (av _ j)) f (fg hk) h];have l:c++[w]++ns=c++w::ns:=by simp
    rw[l,show p+1+ns.length=p+(ns.length+1) by omega,c9];rfl
theorem z4k (hd:ws.drop p=ns++rest)(hn:∀w∈ns,nb w=Z7)(a:nb (Mi.pk rest 0)=Z6):
  z1h nb ws p sd=if ns.Nodup then Z9 (ns,p+ns.length,sd++ns.map λw=>dQ w OFT)else none:=by
 have b:=congrArg c8 hd;rw[d5,af]at b;have:=zcy ns (ws.length-p) p [] sd rest hd hn a (by omega) ir;exact this
end
def nZ (w:Str)(a b:List Str):D:=.tuple [.str "open",.str w,.tuple (a.map .str),.tuple (b.map .str)]
def kI (w:Str)(a b:List Str):List Str:=("open":Str)::w::("for":Str)::(a++("against":Str)::b)
theorem tL (h:w∈rG):isn w=false:=by unfold isn;rw[(zj w).mpr h];simp
theorem SE:cH isn nf (("open":Str)::w::t) ks []=iC isn (("open":Str)::w::t) ks 1 []:=by unfold cH;rw[zy,qf dc,qe rfl]
theorem zex (e:isn w=Z7)(f:∀x∈a,isn x=Z7)(g:∀x∈b,isn x=Z7)(h:isn (Mi.pk rest 0)=Z6)(i:cntO ks≠4):
  iC isn (("open":Str)::w::("for":Str)::(a++("against":Str)::(b++rest))) ks 1 []=if a.Nodup/\b.Nodup then Z9 (nZ w a b,4+a.length+b.length,(a++b).map λw=>dQ w OFT)else none:=by
 unfold iC;rw[qf i,show Mi.pk (("open":Str)::w::("for":Str)::(a++("against":Str)::(b++rest))) 1=w from rfl,qe e,show Mi.pk (("open":Str)::w::("for":Str)::(a++("against":Str)::(b++rest))) (1+1)=("for":Str)from rfl,qe rfl];rw[z4k (rest:=("against":Str)::(b++rest)) rfl f (tL (w:="against") dc)];by_cases c:a.Nodup
 .rw[qe c];have hd:(("open":Str)::w::("for":Str)::(a++("against":Str)::(b++rest))).drop (1+2+a.length)=("against":Str)::(b++rest):=by rw[<-jq];show(a++("against":Str)::(b++rest)).drop a.length=_;rw[kb]
  obtain⟨j,k⟩:=mH hd
  dsimp only
  rw[j,qe rfl,z4k k g h];by_cases d:b.Nodup
  .rw[qe d,qe ⟨c,d⟩];rw[show 1+2+a.length+1+b.length=4+a.length+b.length by omega,List.nil_append,<-bn];rfl
  .rw[qf d,qf λz=>d z.2]
 .rw[qf c,qf λz=>c z.1]
section
variable {nf:Str->Option Int}{ks:List (Str×Str)}{w:Str}{a b:List Str}
theorem DG:(kI w a b).length=4+a.length+b.length:=by unfold kI;simp;omega
theorem zl9 (c:isn w=Z7)(d:∀x∈a,isn x=Z7)(e:∀x∈b,isn x=Z7)(f:cntO ks≠4):
  bZ isn nf (kI w a b) ks []=if a.Nodup/\b.Nodup then Z9 (nZ w a b,4+a.length+b.length,(a++b).map λw=>dQ w OFT)else none:=by
 unfold bZ;have:=zex (rest:=[]) c d e DD f;rw[br]at this;rw[show kI w a b=("open":Str)::w::(("for":Str)::(a++("against":Str)::b))from rfl,SE,this];by_cases h:a.Nodup/\b.Nodup
 .rw[qe h]
  dsimp only
  rw[qf];have:=DG (w:=w) (a:=a) (b:=b);unfold kI at this;omega
 .rw[qf h]
end
theorem SF (c:Ev [] Φ a ρ x)(e:Ev [] Φ b ρ y)(h:cM f x y=.ok d):Ev [] Φ (.bin f a b) ρ d:=by obtain⟨g,c⟩:=c;obtain⟨i,e⟩:=e;exact⟨gN d (cF [(g,x),(i,y)]),by rw[CK,c,Res.aB,e,Res.aB];dsimp only;rw[h];rfl⟩
theorem SG (h:Aa [] Φ a ρ b):Ev [] Φ (.lst a) ρ (.list b):=by obtain⟨c,d,e⟩:=h;exact⟨cF c,by rw[Hu,d,Res.aB,e]⟩
theorem SH (x:GD):(z1b x).2=x.2:=by
 obtain⟨g,d⟩:=x;unfold z1b
 dsimp only
 by_cases h:imm d=Z7
 .rw[qe h]
 .rw[qf h];cases g<;>cases d<;>rfl
theorem SI (h:Ev [] Φ t ρ d):∃g,aH [] Φ (.asg (.nm i) t) ρ=.ok (.nx (ρ.set i (Z9 (g,d)))):=by obtain⟨g,h⟩:=h;refine⟨(z1b (g,d)).1,?_⟩;show(aE [] Φ t ρ>>=λx=>Res.ok (Out.nx (ρ.set i (Z9 (z1b x)))))=_;rw[h];show Res.ok (Out.nx (ρ.set i (Z9 (z1b (g,d)))))=_;have e:z1b (g,d)=((z1b (g,d)).1,d):=Prod.ext rfl (SH (g,d));rw[e]
theorem IY (a:List Str):(a.map Z0:List D).length=a.length:=ai _
theorem DH {b:List Str}(c:Ev [] Φ t ρ (.list (a.map .str)))(d:Ev [] Φ u ρ (.list (b.map .str)))(e:a.length+b.length<=1000):Ev [] Φ (.bin .Add t u) ρ (.list ((a++b).map .str)):=SF c d (by rw[add_list (by rw[IY,IY];exact e),<-bn])
theorem SJ {Q:Res Out->Prop}(h:Ev [] Φ t ρ d)(q:∀g,Q (aH [] Φ rest (ρ.set i (Z9 (g,d))))):Q (aH [] Φ (.seq (.asg (.nm i) t) rest) ρ):=by obtain⟨g,e⟩:=SI h;exact aF e (q g)
structure Wd (x:Str):Prop where
 asc:iX x
 no:32∉x.cps.toList
 len:x.length<=13
theorem NW.wd (h:NW x):Wd x:=⟨DB h.ch,DC h.ch,by have:=h.l2;omega⟩
theorem IZ:∀{ks:List (Str×Str)} {nm:Str},nm∉ks.map (·.1)->lkG ks nm=Z8
 | [],nm,_=>rfl
 |y::ks,nm,h=>by rw[bc,ao,not_or]at h;have a:=IZ h.2;unfold lkG at a ⊢;rw[cz,ql (λz=>h.1 z.symm)];exact a
theorem xD:∀{ks:List (Str×Str)} {nm k:Str},(ks.map (·.1)).Nodup->(nm,k)∈ks->lkG ks nm=Z9 k
 |y::ks,nm,k,hd,h=>by
  rw[bc,et]at hd;unfold lkG;rw[cz];rcases ao.mp h with rfl|h
  .rw[qk rfl];rfl
  .rw[ql (λz=>hd.1 (by rw[z];exact bb.mpr ⟨_,h,rfl⟩))];exact xD hd.2 h
section
variable {ks:List (Str×Str)}{kn:List Str}{n5:Str}{j:Nat}{nf:Str->Option Int}
theorem SK:iJ isn nf k a ks (r::rs)=(if k=24 then Rx.row k else match bZ isn nf (spW 32 r) ks []with
 |none=>.row k
 |some (d,_,sd)=>if cI ks (Mi.pk (spW 32 r) 1)=Z7 then .tw (Mi.pk (spW 32 r) 1)else match bI ks sd with
  |some u=>.un u
  |none=>iJ isn nf (k+1) (a++[d]) (ks++[(Mi.pk (spW 32 r) 1,Mi.pk (spW 32 r) 0)]) rs):=rfl
theorem SM (hk:k≠24)(b:spW 32 r=ws)(h:bZ isn nf ws ks []=Z9 (d,p,sd))(hh:cI ks (Mi.pk ws 1)=Z6)(hu:bI ks sd=Z8):iJ isn nf k a ks (r::rs)=iJ isn nf (k+1) (a++[d]) (ks++[(Mi.pk ws 1,Mi.pk ws 0)]) rs:=by
 rw[SK,qf hk,b,h]
 dsimp only
 rw[hh,hu];rfl
theorem SN (h:isn n=Z7):bZ isn nf ["fact",n] ks []=Z9 (.tuple [.str "fact",.str n],2,[]):=by unfold bZ cH;rw[show Mi.pk ["fact",n] 0="fact"from rfl,qe rfl,show Mi.pk ["fact",n] 1=n from rfl,qe h];rfl
end
theorem SO (h:nm∉ks.map (·.1)):cI ks nm=false:=by unfold cI;rw[IZ h];rfl
inductive tM where
 |no|so|al
inductive Tr where
 |bV (n f:Str)|cJ (n:Str)|un (u:tM) (t:Tr)|two (o:Bool) (a b:Tr)
def opS (o:Bool):Str:=if o then "and"else "or"
def dJ:tM->Str
 |.no=>"not"
 |.so=>"some"
 |.al=>"all"
def Tr.ws:Tr->List Str
 |.bV n f=>[n,">=",f]
 |.cJ n=>[n]
 |.un u t=>dJ u::t.ws
 |.two o a b=>"("::(a.ws++opS o::(b.ws++[(")":Str)]))
def Tr.dp:Tr->Nat
 |.bV _ _=>1
 |.cJ _=>1
 |.un _ t=>t.dp+1
 |.two _ a b=>max a.dp b.dp+1
def Tr.sy:Tr->List D
 |.bV n _=>[dQ n (.tuple [.str "fact"])]
 |.cJ n=>[dQ n OFT]
 |.un _ t=>t.sy
 |.two _ a b=>a.sy++b.sy
def gE (nf:Str->Option Int)(f:Str):Option Int:=match nf f with
 |some k=>if 1<=k/\k<=10 ^ 30 then Z9 k else Z8
 |none=>Z8
def Tr.lk (nf:Str->Option Int)(ks:List (Str×Str)):Tr->D
 |.bV n f=>.tuple [.str "at",.str n,.int ((nf f).getD 0)]
 |.cJ n=>if lkG ks n=Z9 ("fact":Str)then .tuple [.str "at",.str n,.int 1]else .tuple [.str "is",.str n]
 |.un u t=>.tuple [.str (dJ u),t.lk nf ks]
 |.two o a b=>.tuple [.str (opS o),a.lk nf ks,b.lk nf ks]
def Tr.ok (nf:Str->Option Int):Tr->Bool
 |.bV _ f=>(gE nf f).isSome
 |.cJ _=>Z7
 |.un _ t=>t.ok nf
 |.two _ a b=>a.ok nf&&b.ok nf
def Tr.nms:Tr->List Str
 |.bV n _=>[n]
 |.cJ n=>[n]
 |.un _ t=>t.nms
 |.two _ a b=>a.nms++b.nms
def Tr.wf:Tr->Bool->Bool
 |.bV _ _,m=>!m
 |.cJ _,m=>!m
 |.un .no t,m=>t.wf m
 |.un _ t,m=>m&&t.wf Z6
 |.two _ a b,m=>a.wf m&&b.wf m
theorem SQ (o:Bool):opS o="and"\/opS o="or":=by cases o<;>simp[opS]
theorem SR (u:tM):u=.no\/(dJ u="some"\/dJ u="all")/\∀(t:Tr) (m:Bool),(Tr.un u t).wf m=(m&&t.wf Z6):=by
 cases u with
 |no=>exact .inl rfl
 |so=>exact .inr ⟨.inl rfl,λ_ _=>rfl⟩
 |al=>exact .inr ⟨.inr rfl,λ_ _=>rfl⟩
section
variable {nb:Str->Bool}{nf:Str->Option Int}{ws:List Str}{ks:List (Str×Str)}
theorem DI [Decidable P]:fK x (if P then Z9 (d,q,s)else Z8)=if P then Z9 (.tuple [.str x,d],q,s)else none:=by split<;>rfl
def zB (nb:Str->Bool)(nf:Str->Option Int)(ws:List Str)(ks:List (Str×Str))(m:Bool)(r p:Nat)(sd:List D):Ro:=if m=Z7 then z1n nb nf ws ks r p sd else z18 nb nf ws ks r p sd
theorem xE:z18 nb nf ws ks (r+1) p sd=if Mi.pk ws p="not"then fK "not" (z18 nb nf ws ks r (p+1) sd)else if Mi.pk ws p="("then lN ws (z18 nb nf ws ks r) p sd else iW nb nf ws ks p sd:=rfl
theorem zC:z1n nb nf ws ks (r+1) p sd=if Mi.pk ws p="("then lN ws (z1n nb nf ws ks r) p sd else if Mi.pk ws p="not"then fK "not" (z1n nb nf ws ks r (p+1) sd)else if Mi.pk ws p="some"\/Mi.pk ws p="all"then fK (Mi.pk ws p) (z18 nb nf ws ks r (p+1) sd)else none:=rfl
theorem zhy (h1:nb "not"=Z6)(h2:nb "("=Z6)(h3:nb "some"=Z6)(h4:nb "all"=Z6):∀(t:Tr) (m:Bool) (r p:Nat) (sd:List D) (rest:List Str),ws.drop p=t.ws++rest->(∀n∈t.nms,nb n=Z7)->Mi.pk rest 0≠(">=":Str)->
  zB nb nf ws ks m r p sd=if(t.dp<=r/\t.ok nf=Z7)/\t.wf m=Z7 then Z9 (t.lk nf ks,p+t.ws.length,sd++t.sy)else none:=by
 have ne:∀{n x:Str},nb n=Z7->nb x=Z6->n≠x:=λa b e=>by rw[e,b]at a;cases a
 have z0:∀(t:Tr) (m:Bool) (p:Nat) (sd:List D),zB nb nf ws ks m 0 p sd=if(t.dp<=0/\t.ok nf=Z7)/\t.wf m=Z7 then Z9 (t.lk nf ks,p+t.ws.length,sd++t.sy)else none:=λt m p sd=>by rw[qf (λz=>by cases t<;>exact absurd z.1.1 (by unfold Tr.dp;omega))];cases m<;>rfl
 have na:∀{n:Str} {r p:Nat} {sd:List D},nb n=Z7->Mi.pk ws p=n->z1n nb nf ws ks (r+1) p sd=none:=λ{n r p sd} hn e=>by rw[zC,e,qf (ne hn h2),qf (ne hn h1),qf λz=>z.elim (ne hn h3) (ne hn h4)]
 intro t
 induction t with
 |bV n f=>
  intro m r p sd rest hd hn hr;cases r with
  |zero=>exact z0 _ _ _ _
  |succ r=>
   obtain⟨e0,d1⟩:=mH hd;obtain⟨e1,d2⟩:=mH d1;obtain⟨e2,_⟩:=mH d2;have hn:=hn n (.head _);cases m with
   |true=>rw[qf (λz=>by cases z.2)];exact na hn e0
   |false=>
    show z18 nb nf ws ks (r+1) p sd=_;rw[xE,e0,qf (ne hn h1),qf (ne hn h2)];unfold iW;rw[e0,qe hn,e1,qe rfl];unfold lM;rw[e1,qe rfl,e2];have hok:(Tr.bV n f).ok nf=(gE nf f).isSome:=rfl;rw[hok];cases hf:nf f with
    |none=>
     have e:gE nf f=none:=by unfold gE;rw[hf]
     rw[e,qf (λz=>by cases z.1.2)];rfl
    |some k=>
     by_cases hk:1<=k/\k<=10 ^ 30
     .have e:gE nf f=Z9 k:=by unfold gE;rw[hf];exact qe hk
      rw[e,qe ⟨⟨d6 (cn _),rfl⟩,rfl⟩]
      dsimp only
      rw[qe hk];show Z9 (ZY [.str "at",.str n,.int k],p+1+2,_)=Z9 (ZY [.str "at",.str n,.int ((nf f).getD 0)],p+3,_);rw[hf];rfl
     .have e:gE nf f=none:=by unfold gE;rw[hf];exact qf hk
      rw[e,qf (λz=>by cases z.1.2)]
      dsimp only
      rw[qf hk];rfl
 |cJ n=>
  intro m r p sd rest hd hn hr;cases r with
  |zero=>exact z0 _ _ _ _
  |succ r=>
   obtain⟨e0,d1⟩:=mH hd;have hn:=hn n (.head _);cases m with
   |true=>rw[qf (λz=>by cases z.2)];exact na hn e0
   |false=>
    have e1:Mi.pk ws (p+1)=Mi.pk rest 0:=by
     cases rest with
     |nil=>rw[IX d1];rfl
     |cons x t=>exact(mH d1).1
    show z18 nb nf ws ks (r+1) p sd=_;rw[xE,e0,qf (ne hn h1),qf (ne hn h2)];unfold iW;rw[e0,qe hn,e1,qf hr,qe (show((Tr.cJ n).dp<=r+1/\(Tr.cJ n).ok nf=Z7)/\(Tr.cJ n).wf Z6=Z7 from⟨⟨d6 (cn _),rfl⟩,rfl⟩)];rfl
 |un u t ih=>
  intro m r p sd rest hd hn hr;cases r with
  |zero=>exact z0 _ _ _ _
  |succ r=>
   obtain⟨e0,d1⟩:=mH hd;have i1:=ih m r (p+1) sd rest d1 hn hr
   have go:∀{w:Bool},(if(t.dp<=r/\t.ok nf=Z7)/\w=Z7 then Z9 (ZY [.str (dJ u),t.lk nf ks],p+1+t.ws.length,sd++t.sy)else Z8)=(if((Tr.un u t).dp<=r+1/\(Tr.un u t).ok nf=Z7)/\w=Z7 then Z9 ((Tr.un u t).lk nf ks,p+(Tr.un u t).ws.length,sd++(Tr.un u t).sy)else Z8):=λ{w}=>by
    show _=if(t.dp+1<=r+1/\t.ok nf=Z7)/\w=Z7 then Z9 (ZY [.str (dJ u),t.lk nf ks],p+(t.ws.length+1),sd++t.sy)else Z8
    rw[show p+(t.ws.length+1)=p+1+t.ws.length by omega];by_cases h:(t.dp<=r/\t.ok nf=Z7)/\w=Z7
    .rw[qe h,qe ⟨⟨d6 h.1.1,h.1.2⟩,h.2⟩]
    .rw[qf h,qf λz=>h ⟨⟨fg z.1.1,z.1.2⟩,z.2⟩]
   rcases SR u with rfl|⟨hu,hw⟩
   .have e0:Mi.pk ws p="not":=e0;rw[<-go];show _=if(t.dp<=r/\t.ok nf=Z7)/\t.wf m=Z7 then Z9 (ZY [.str "not",t.lk nf ks],p+1+t.ws.length,sd++t.sy)else Z8
    cases m with
    |true=>show z1n nb nf ws ks (r+1) p sd=_;rw[zC,e0,qf dc,qe rfl,<-DI,<-i1];rfl
    |false=>show z18 nb nf ws ks (r+1) p sd=_;rw[xE,e0,qe rfl,<-DI,<-i1];rfl
   .have n1:dJ u≠"(":=by rcases hu with e|e<;>rw[e]<;>decide
    have n2:dJ u≠"not":=by rcases hu with e|e<;>rw[e]<;>decide
    rw[<-go,hw];cases m with
    |true=>show z1n nb nf ws ks (r+1) p sd=_;rw[zC,e0,qf n1,qf n2,qe hu,Bool.true_and,<-DI,<-ih Z6 r (p+1) sd rest d1 hn hr];rfl
    |false=>rw[qf (λz=>by cases z.2)];show z18 nb nf ws ks (r+1) p sd=_;rw[xE,e0,qf n2,qf n1];unfold iW;rw[e0,qf (by rcases hu with e|e<;>rw[e]<;>first|(rw[h3];decide)|(rw[h4];decide))]
 |two o a b ia ib=>
  intro m r p sd rest hd hn hr;cases r with
  |zero=>exact z0 _ _ _ _
  |succ r=>
   have hd:ws.drop p=("(":Str)::(a.ws++(opS o::(b.ws++(")":Str)::rest))):=by rw[hd];simp[Tr.ws]
   obtain⟨e0,d1⟩:=mH hd
   have st:zB nb nf ws ks m (r+1) p sd=lN ws (zB nb nf ws ks m r) p sd:=by
    cases m with
    |true=>show z1n nb nf ws ks (r+1) p sd=_;rw[zC,e0,qe rfl];rfl
    |false=>show z18 nb nf ws ks (r+1) p sd=_;rw[xE,e0,qf dc,qe rfl];rfl
   rw[st];unfold lN;have SS:opS o≠(">=":Str):=by cases o<;>decide
   rw[e0,qe rfl,ia m r (p+1) sd _ d1 (λn h=>hn n (de _ h)) SS];show _=if(max a.dp b.dp+1<=r+1/\(a.ok nf&&b.ok nf)=Z7)/\(a.wf m&&b.wf m)=Z7 then Z9 (ZY [.str (opS o),a.lk nf ks,b.lk nf ks],p+(a.ws++opS o::(b.ws++[(")":Str)])).length.succ,sd++(a.sy++b.sy))else Z8
   have an:∀{x y:Bool},(x&&y)=Z7↔x=Z7/\y=true:=λ{x y}=>by rw[aq]
   by_cases ha:(a.dp<=r/\a.ok nf=Z7)/\a.wf m=Z7
   .rw[qe ha]
    dsimp only
    obtain⟨e1,d3⟩:=mH (by rw[<-jq,d1,kb]);rw[e1,qe (SQ o),ib m r (p+1+a.ws.length+1) _ _ d3 (λn h=>hn n (ba _ h)) (by rw[zy];decide)];by_cases hb:(b.dp<=r/\b.ok nf=Z7)/\b.wf m=Z7
    .rw[qe hb]
     dsimp only
     rw[(mH (by rw[<-jq,d3,kb])).1,qe rfl,qe ⟨⟨by omega,an.mpr ⟨ha.1.2,hb.1.2⟩⟩,an.mpr ⟨ha.2,hb.2⟩⟩,c9];simp;rw[show p+1+a.ws.length+1+b.ws.length+1=p+(a.ws.length+(b.ws.length+(0+1)+1)).succ by omega]
    .rw[qf hb,qf λz=>hb ⟨⟨by omega,(an.mp z.1.2).2⟩,(an.mp z.2).2⟩]
   .rw[qf ha,qf λz=>ha ⟨⟨by omega,(an.mp z.1.2).1⟩,(an.mp z.2).1⟩]
end
theorem Tr.fL:∀t:Tr,imm (t.lk nf ks)=Z7
 |.bV _ _=>rfl
 |.cJ n=>by unfold Tr.lk;split<;>rfl
 |.un _ t=>by show(Z7&&(imm (t.lk nf ks)&&Z7))=Z7;rw[t.fL];rfl
 |.two o a b=>by show(Z7&&(imm (a.lk nf ks)&&(imm (b.lk nf ks)&&Z7)))=Z7;rw[a.fL,b.fL];rfl
def dec (i:Int):Str:=(toString i:String)
theorem SU (h0:0<=i)(h:i<10 ^ 40):(dec i).length<=40:=by
 obtain⟨n,rfl⟩:=jk h0;unfold dec;rw[Str.ofString_eq_toList];show(List.toArray (List.map ge n.repr.toList)).size<=40;rw[bg,ai,j5,nq];refine(ke dc dc).mpr ?_;have:n<((10 ^ 40:Nat):Int):=by simpa using h
 exact Int.ofNat_lt.mp this
theorem SV {i:Int}(h0:0<=i)(h:i<10 ^ 40):i.natAbs.log2<1920:=by
 by_cases z:i.natAbs=0
 .rw[z];decide
 .have a:i.natAbs<2 ^ 200:=by omega
  have:=(Nat.log2_lt z).mpr a;omega
theorem I' (n:Nat):(dec (n:Int)).cps.toList=(dh 10 n).map ge:=by have e:(toString (n:Int):String)=n.repr:=rfl;unfold dec;rw[e,Str.ofString_eq_toList,j5,nq]
theorem SW:∀n,∀c∈(dh 10 n).map ge,33<=c/\c<127:=by
 have dc:∀d,d<10->(lq d).toNat=48+d:=by decide
 intro n
 induction n using my with
 |_ n b=>
  by_cases h:n<10
  .rw[l6 h];intro c a;rw[ar.mp a,dc n h];omega
  .have t:dh 10 (n/10)++dh 10 (n%10)=dh 10 (10*(n/10)+n%10):=j4 (by decide) (by omega) (by omega);rw[show 10*(n/10)+n%10=n by omega]at t;rw[<-t,bn];intro c a;rcases a8.mp a with a|a
   .exact b (n/10) (by omega) c a
   .exact b (n%10) (by omega) c a
abbrev Ja (b:Nat)(f:Str):Prop:=f.length<=b/\∀c∈f.cps.toList,33<=c/\c<127
theorem Jb (h0:0<=i)(h:i<10 ^ 40):Ja 40 (dec i):=by refine⟨SU h0 h,?_⟩;obtain⟨n,rfl⟩:=jk h0;intro c a;exact SW n c (I' n▸a)
theorem Jc:∀d:Nat,d<10->(lq d).toNat=48+d:=by decide
theorem Jd (h:d<10):dh 10 d=[lq d]:=l6 h
theorem SX (a:0<q)(hd:d<10):dh 10 (q*10+d)=dh 10 q++[lq d]:=by rw[Nat.mul_comm,<-j4 dc a hd,Jd hd]
theorem SY (l:List Nat)(c:Nat):hX (l++[c])=hX l*10+(c-48):=by unfold hX;rw[List.foldl_append];rfl
theorem S0:∀n:Nat,0<n->hX ((dh 10 n).map ge)=n/\(∀c∈(dh 10 n).map ge,iK c=Z7)/\(dh 10 n).map ge≠[]/\((dh 10 n).map ge).head?≠Z9 48:=by
 intro n
 induction n using my with
 |_ n g=>
  intro h0;have hm:n%10<10:=Nat.mod_lt n dc;have b:iK (48+n%10)=true:=by unfold iK;rw[qk (by omega),qk (by omega)];rfl
  by_cases h:n<10
  .rw[Jd h,bc,Jc n h];refine⟨by show 0*10+(48+n-48)=n;omega,λc d=>?_,(by simp),λz=>?_⟩
   .rw[ar.mp d];rw[show n%10=n by omega]at b;exact b
   .have o:48+n=48:=qg z;omega
  .have e:n/10*10+n%10=n:=by omega
   have q0:0<n/10:=by omega
   obtain⟨i,j,k,l⟩:=g (n/10) (by omega) q0;have m:(dh 10 n).map ge=(dh 10 (n/10)).map ge++[48+n%10]:=by rw[<-Jc _ hm,<-e,SX q0 hm,bn,e];rfl
   rw[m];refine⟨by rw[SY,i];omega,λc d=>?_,by simp,λz=>l ?_⟩
   .rcases a8.mp d with d|d
    .exact j c d
    .rw[ar.mp d];exact b
   .cases f:(dh 10 (n/10)).map ge with
    |nil=>exact absurd f k
    |cons a r=>rw[f]at z;exact z
theorem S3 (h:n<=1000000000000000000000000000000):((dh 10 n).map ge).length<=31:=by rw[ai];exact(ke dc dc).mpr (by omega)
theorem DJ (h0:1<=n)(f:n<=1000000000000000000000000000000):(hX (dec n).cps.toList:Int)=n/\(∀c∈(dec n).cps.toList,iK c=Z7)/\1<=(dec n).cps.toList.length/\(dec n).cps.toList.length<=31/\(dec n).cps.toList.head?≠Z9 48:=by obtain⟨m,rfl⟩:=jk (show 0<=n by omega);rw[I'];obtain⟨a,b,d,e⟩:=S0 m (by omega);refine⟨by rw[a],b,?_,S3 (by omega),e⟩;have:=i4.mpr d;omega
theorem S4 (h0:1<=i)(f:i<=1000000000000000000000000000000):(gE dW (dec i)).isSome=true:=by
 obtain⟨a,b,c,d,e⟩:=DJ h0 f;have:dW (dec i)=Z9 i:=by unfold dW;rw[qe ⟨⟨c,d⟩,be.mpr b,λz=>e z.1⟩,a]
 unfold gE;rw[this]
 dsimp only
 rw[qe ⟨h0,by omega⟩];rfl
def Tr.q8 (b:Nat)(ns:List Str):Tr->Prop
 |.bV w f=>w∈ns/\Ja b f
 |.cJ w=>w∈ns
 |.un _ t=>t.q8 b ns
 |.two _ x y=>x.q8 b ns/\y.q8 b ns
theorem S5 (h0:0<=k)(h:k<10 ^ 40):iF "str" [.int k]=.ok (.str (dec k)):=by show(if k.natAbs.log2<1920 then _ else _)=_;rw[qe (SV h0 h)];rfl
def Tr.nd:Tr->Nat
 |.bV _ _=>1
 |.cJ _=>1
 |.un _ t=>t.nd+1
 |.two _ a b=>a.nd+b.nd
theorem zD:∀t:Tr,1<=t.nd
 |.bV _ _=>ah _
 |.cJ _=>ah _
 |.un _ t=>by show 1<=t.nd+1;omega
 |.two _ a b=>by show 1<=a.nd+b.nd;have:=zD a;omega
theorem xF:∀t:Tr,t.dp<=t.nd
 |.bV _ _=>ah _
 |.cJ _=>ah _
 |.un _ t=>d6 (xF t)
 |.two _ a b=>by show max a.dp b.dp+1<=a.nd+b.nd;have:=xF a;have:=xF b;have:=zD a;have:=zD b;omega
structure Cl (P:Tr->Prop)(w:Tr->Nat):Prop where
 pos:∀t,1<=w t
 w2:∀o a b,w (.two o a b)=w a+w b
 w1:∀a,w (.un .no a)=w a+1
 p2:∀o a b,P a->P b->P (.two o a b)
 p1:∀a,P a->P (.un .no a)
def lQ (P:Tr->Prop)(w:Tr->Nat)(B:Nat)(ts:List Tr):Prop:=(∀t∈ts,P t)/\(ts.map w).sum<=B
section
variable {P:Tr->Prop}{w:Tr->Nat}{B:Nat}{ts pre:List Tr}{a b t:Tr}{o:Bool}
theorem DK (c:Cl P w)(h:lQ P w B ts):ts.length<=B:=by
 refine bh ?_ h.2;clear h
 induction ts with
 |nil=>exact ah _
 |cons t ts a=>rw[bc,jy,am];have:=c.pos t;omega
theorem DL (h:∀x∈pre,P x)(b:P t)(hs:(pre.map w).sum+w t<=c):lQ P w c (pre++[t]):=by
 refine⟨λx d=>?_,?_⟩
 .rcases a8.mp d with a|a
  .exact h x a
  .rw[ar.mp a];exact b
 .simp;omega
theorem Je (c:Cl P w)(h:lQ P w B (pre++[a]++[b])):lQ P w B (pre++[.two o a b]):=by have z:=h.2;simp at z;exact DL (λx d=>h.1 x (by simp[d])) (c.p2 o a b (h.1 a (by simp)) (h.1 b (by simp))) (by rw[c.w2];omega)
theorem S6 (h:lQ P w B ts)(a:P t)(b:w t=1):lQ P w (B+1) (ts++[t]):=DL h.1 a (by have:=h.2;omega)
theorem S7 (c:Cl P w)(h:lQ P w B (pre++[a])):lQ P w (B+1) (pre++[.un .no a]):=by have z:=h.2;simp at z;exact DL (λx b=>h.1 x (by simp[b])) (c.p1 a (h.1 a (by simp))) (by rw[c.w1];omega)
theorem S8 (h:lQ P w B ts):lQ P w (B+1) ts:=⟨h.1,pv h.2⟩
end
theorem Jf {ts:List Tr}(h:1<ts.length):∃pre a b,ts=pre++[a]++[b]:=by refine⟨ts.dropLast.dropLast,ts.dropLast.getLast (λz=>by have:=congrArg c8 z;rw[nc]at this;simp at this;omega),ts.getLast (λz=>by rw[z]at h;simp at h),?_⟩;rw[gu,gu]
theorem Jg (h:ts≠[]):∃pre a,ts=pre++[a]:=⟨ts.dropLast,ts.getLast h,(gu h).symm⟩
theorem Jh (a:ws=([("and":Str),("or":Str)])\/ws=([("or":Str),("and":Str)]))(h0:0<=i)(b:i<2):∃o,gH (.list (ws.map .str)) (.int i)=.ok (.str (opS o)):=by
 rcases a with rfl|rfl<;>rcases(show i=0\/i=1 by omega)with rfl|rfl
 .exact⟨Z7,rfl⟩
 .exact⟨Z6,rfl⟩
 .exact⟨Z6,rfl⟩
 .exact⟨Z7,rfl⟩
theorem Ji {P:Rho->Prop}(I:Nat->Rho->Prop)(hs:∀k b,I k b->(c b=.ok Z6/\P b)\/∃d a,k=d+1/\c b=.ok Z7/\f b=.ok (.nx a)/\I d a):∀k n b,k<n->I k b->∃a,qM c f n b=.ok (.nx a)/\P a
 |k,0,_,h,_=>by omega
 |k,n+1,b,h,l=>by
  rcases hs k b l with⟨g,i⟩|⟨d,a,rfl,g,i,m⟩
  .exact⟨b,by show(c b>>=_)=_;rw[g];rfl,i⟩
  .obtain⟨j,e,p⟩:=Ji I hs d n a (by omega) m;refine⟨j,?_,p⟩;show(c b>>=_)=_;rw[g,i];exact e
theorem S9 {Q:Res Out->Prop}{P:Rho->Prop}(I:Nat->Rho->Prop)(k:Nat)(hn:k<n)(h0:I k ρ)(hs:∀k ρ,I k ρ->(Tt Κ Φ c ρ Z6/\P ρ)\/∃k' aN,k=k'+1/\Tt Κ Φ c ρ Z7/\aH Κ Φ b ρ=.ok (.nx aN)/\I k' aN)(hk:∀aN,P aN->Q (aH Κ Φ rest aN)):Q (aH Κ Φ (.seq (.wh n c b) rest) ρ):=by obtain⟨aN,e,p⟩:=Ji I hs k n ρ hn h0;exact aF e (hk aN p)
theorem oP (b:Tt Κ Φ c ρ k)(d:k=Z7->Nx I (aH Κ Φ p ρ))(f:k=Z6->Nx I (aH Κ Φ q ρ)):Nx I (aH Κ Φ (.seq (.aX c p q) .nil) ρ):=tJ (Q:=Nx I) (rest:=.nil) b (λh=>by
 obtain⟨a,e,z⟩:=d h;exact⟨a,e,eW z⟩) λh=>by
 obtain⟨a,e,z⟩:=f h;exact⟨a,e,eW z⟩
abbrev Tr.e (ks:List (Str×Str))(t:Tr):D:=t.lk dW ks
theorem Tr.ie {ks:List (Str×Str)}(t:Tr):imm (t.e ks)=true:=t.fL
def qC:List Str:=["fact","open","word"]
def Tr.kn (lo:Int)(ks:List (Str×Str)):Tr->Prop
 |.bV n f=>lkG ks n=Z9 ("fact":Str)/\∃k:Int,lo<=k/\k<=1000000000000000000000000000000/\f=dec k
 |.cJ n=>∃s∈qC,lkG ks n=Z9 s
 |.un _ t=>t.kn lo ks
 |.two _ a b=>a.kn lo ks/\b.kn lo ks
theorem DM {i:Int}(h0:1<=i)(h1:i<=1000000000000000000000000000000):dW (dec i)=Z9 i:=by obtain⟨a,b,c,d,e⟩:=DJ h0 h1;unfold dW;rw[qe ⟨⟨c,d⟩,be.mpr b,λz=>e z.1⟩,a]
section
variable {ks:List (Str×Str)}{Φ:List Fn}
theorem S' {ρ:Rho}{i j:Nat}{pre:List Tr}{t:Tr}(h:ρ[i]?=Z9 (Z9 (.fr,.list ((pre++[t]).map (Tr.e ks))))):aH [] Φ (.pop j i) ρ=.ok (.nx (((ρ.set i (Z9 (.fr,.list (pre.map (Tr.e ks))))).map z08).set j (Z9 (.al,t.e ks)))):=by
 show(match ρ[i]? with|some (Z9 (.fr,.list xs))=>(match lW xs with|some d=>Res.ok (Out.nx (((ρ.set i (Z9 (.fr,.list xs.dropLast))).map z08).set j (Z9 (.al,d))))|none=>.no)|_=>.no)=_;have e:lW ((pre++[t]).map (Tr.e ks))=Z9 (t.e ks):=by unfold lW;rw[bn];simp[Tr.ie]
 have e2:((pre++[t]).map (Tr.e ks)).dropLast=pre.map (Tr.e ks):=by rw[bn];simp
 rw[h]
 dsimp only
 rw[e]
 dsimp only
 rw[e2]
theorem Jj {ρ ρ1:Rho}{i:Nat}{a r:C}{x:D}{zs:List D}{pre:List Tr}{t:Tr}(h:ρ[i]?=Z9 (Z9 (.fr,.list ((pre++[t]).map (Tr.e ks)))))(hl:pre.length<=100)(h1:(ρ.set i (Z9 (.fr,.list (pre.map (Tr.e ks))))).map z08=ρ1)(ha:Vv [] Φ a ρ x)(hr:Av [] Φ r ρ1 zs):aH [] Φ (.pap i a r) ρ=.ok (.nx ((ρ1.set i (Z9 (.fr,.list (pre.map (Tr.e ks)++[.tuple (x::t.e ks::zs)])))).map z08)):=by
 show(aE [] Φ a ρ>>=λx=>match ρ[i]? with|some (Z9 (.fr,.list xs))=>(match lW xs with|some d=>dG [] Φ r ((ρ.set i (Z9 (.fr,.list xs.dropLast))).map z08)>>=λzs=>if(imm x.2&&imms (zs.map (·.2))&&decide (xs.length<=LIM))=Z7 then Res.ok (Out.nx ((((ρ.set i (Z9 (.fr,.list xs.dropLast))).map z08).set i (Z9 (.fr,.list (xs.dropLast++[.tuple (x.2::d::zs.map (·.2))])))).map z08))else .no|none=>.no)|_=>.no)=_;have e:lW ((pre++[t]).map (Tr.e ks))=Z9 (t.e ks):=by unfold lW;rw[bn];simp[Tr.ie]
 have e2:((pre++[t]).map (Tr.e ks)).dropLast=pre.map (Tr.e ks):=by rw[bn];simp
 rw[ha.1,Res.aB,h]
 dsimp only
 rw[e]
 dsimp only
 rw[e2,h1,hr.1,Res.aB];have e3:(zs.map λd=>((G.fr,d):GD)).map (·.2)=zs:=by rw[ci];exact np _
 rw[e3,ha.2,hr.2,qk (show((pre++[t]).map (Tr.e ks)).length<=LIM by rw[ai,af];show pre.length+1<=LIM;unfold LIM;omega)];rfl
abbrev RQ (ks:List (Str×Str))(x0 x1 x2 x3:D)(ts:List Tr)(u5 u6 u7 u8 u9 u10:Option GD):Rho:=[Z9 (.od,x0),Z9 (.od,x1),Z9 (.od,x2),Z9 (.od,x3),Z9 (.fr,.list (ts.map (Tr.e ks))),u5,u6,u7,u8,u9,u10]
theorem zE (pre:List Tr)(t:Tr):(pre++[t]).map (Tr.e ks)=pre.map (Tr.e ks)++[t.e ks]:=by rw[bn];rfl
theorem zi0 {x0 x1 x2 x3:D}{u5 u6 u7 u8 u9 u10:Option GD}{pre:List Tr}{a b:Tr}{o:Bool}{W:C}(hl:pre.length<=90)(hW:Vv [] Φ W (RQ ks x0 x1 x2 x3 (pre++[a]) (z08 u5) (z08 u6) (Z9 (.al,b.e ks)) (z08 u8) (z08 u9) (z08 u10)) (.str (opS o))):
  ∃v5 v6 v8 v9 v10,aH [] Φ (.seq (.pop 7 4) (.seq (.pap 4 W (.cons (.var 7) .nil)) .nil)) (RQ ks x0 x1 x2 x3 (pre++[a]++[b]) u5 u6 u7 u8 u9 u10)=.ok (.nx (RQ ks x0 x1 x2 x3 (pre++[.two o a b]) v5 v6 (Z9 (.al,b.e ks)) v8 v9 v10)):=by
 have e1:aH [] Φ (.pop 7 4) (RQ ks x0 x1 x2 x3 (pre++[a]++[b]) u5 u6 u7 u8 u9 u10)=.ok (.nx (RQ ks x0 x1 x2 x3 (pre++[a]) (z08 u5) (z08 u6) (Z9 (.al,b.e ks)) (z08 u8) (z08 u9) (z08 u10))):=S' rfl;have e2:=Jj (Φ:=Φ) (ks:=ks) (ρ:=RQ ks x0 x1 x2 x3 (pre++[a]) (z08 u5) (z08 u6) (Z9 (.al,b.e ks)) (z08 u8) (z08 u9) (z08 u10)) (ρ1:=RQ ks x0 x1 x2 x3 pre (z08 (z08 u5)) (z08 (z08 u6)) (Z9 (.al,b.e ks)) (z08 (z08 u8)) (z08 (z08 u9)) (z08 (z08 u10))) (i:=4) (a:=W) (r:=.cons (.var 7) .nil) (x:=.str (opS o)) (zs:=[b.e ks]) (pre:=pre) (t:=a) rfl (by omega) (by show[_,_,_,_,_,_,_,z08 (Z9 (.al,b.e ks)),_,_,_]=_;rw[IF b.ie];rfl) hW (bF (v_var rfl b.ie) dU);refine⟨z08 (z08 (z08 u5)),z08 (z08 (z08 u6)),z08 (z08 (z08 u8)),z08 (z08 (z08 u9)),z08 (z08 (z08 u10)),lH e1 (lH (e2.trans ?_) uy)⟩;show Res.ok (Out.nx [_,_,_,_,Z9 (.fr,.list (pre.map (Tr.e ks)++[.tuple [.str (opS o),a.e ks,b.e ks]])),_,_,z08 (Z9 (.al,b.e ks)),_,_,_])=_;rw[IF b.ie];show _=Res.ok (Out.nx [_,_,_,_,Z9 (.fr,.list ((pre++[Tr.two o a b]).map (Tr.e ks))),_,_,_,_,_,_]);rw[zE];rfl
theorem zF {ρ:Rho}{ts:List Tr}{g:G}(h:ρ[4]?=Z9 (Z9 (g,.list (ts.map (Tr.e ks))))):Vv [] Φ (.bi "len" (.cons (.var 4) .nil)) ρ (.int (ts.length:Int)):=fE (aW (aC h) bN) (by show Res.ok (ZX ((ts.map (Tr.e ks)).length:Int))=_;rw[ai]) rfl
end
abbrev Ta:S:=(.seq (.asg (.nm 8) (.lst .nil))
 (.seq (.bH (.nm 9) (.tv (.sl (.var 0) (.tv (.bin .Add (.bin .Mult (.int 4) (.var 5)) (.int 1))) (.tv (.bin .Add (.bin .Mult (.int 4) (.var 5)) (.int 4)))))
 (.seq (.asg (.nm 8) (.bin .Add (.var 8) (.lst (.cons (.var 9) (.cons (.int 0) (.cons (.int 0) (.cons (.int 0) .nil)))))))
 .nil))
 (.seq (.asg (.nm 10) (.call 0 "_law_tree" (.cons (.var 8) (.cons (.var 1) (.cons (.bin .Add (.int 1) (.bin .Mod (.bin .FloorDiv (.var 6) (.int 10)) (.int 2))) (.cons (.bl Z6) .nil))))))
 (.seq (.mut "append" 4 (.cons (.tup (.cons (.ix (.lst (.cons (.str "some") (.cons (.str "all") .nil))) (.bin .Mod (.bin .FloorDiv (.var 6) (.int 5)) (.int 2))) (.cons (.var 10) .nil))) .nil))
 .nil))))
abbrev Tb:S:=(.seq (.mut "append" 4 (.cons (.call 1 "_law_leaf" (.cons (.bin .FloorDiv (.var 6) (.int 5)) (.cons (.var 1) .nil))) .nil)) .nil)
theorem ze7 {Φ:List Fn}{ks:List (Str×Str)}{P:Tr->Prop}{w:Tr->Nat}(cl:Cl P w){ds:List Int}{x1:D}{B:Int}{fb:Bool}(hB:1<=B/\B<=6)(hd:4*B<=ds.length+3)
  (h3:∀(k:Nat) (x:Int) (ts:List Tr) (u7 u8 u9 u10:Option GD),(k:Int)<B->ts.length<=6->x∈ds->Nx (λρ=>∃t u5 u6 u7 u8 u9 u10,ρ=RQ ks (.list (ds.map .int)) x1 (.int B) (.bool fb) (ts++[t]) u5 u6 u7 u8 u9 u10/\P t/\w t=1) (aH [] Φ (.seq (.aX (.tv (.var 3)) Ta Tb) .nil) (RQ ks (.list (ds.map .int)) x1 (.int B) (.bool fb) ts (Z9 (.al,.int k)) (Z9 (.al,.int x)) u7 u8 u9 u10))):
  ∃t:Tr,P t/\w t<=B.toNat/\aZ [] Φ 11 qZ [.list (ds.map .int),x1,.int B,.bool fb]=.ok (.fr,t.e ks):=by
 let Q:Res Out->Prop:=λr=>∃t:Tr,P t/\w t<=B.toNat/\r=.ok (.rt .fr (t.e ks))
 suffices h:Q (aH [] Φ qZ [Z9 (.od,.list (ds.map .int)),Z9 (.od,x1),Z9 (.od,.int B),Z9 (.od,.bool fb),Z8,Z8,Z8,Z8,Z8,Z8,Z8]) by obtain⟨t,h1,h2,h3⟩:=h;exact⟨t,h1,h2,gB h3⟩
 unfold qZ;refine aF (fN (iI dU) rfl) (q_nm (m:=λi:Nat=>.int i) (xs:=ce B.toNat) (wW (aW (aC rfl) bN) (uv (by omega) (by omega))) (λ_=>rfl) (λpre ρ=>∃ts u5 u6 u7 u8 u9 u10,ρ=RQ ks (.list (ds.map .int)) x1 (.int B) (.bool fb) ts u5 u6 u7 u8 u9 u10/\lQ P w pre.length ts/\(pre≠[]->ts≠[])) ⟨[],Z8,Z8,Z8,Z8,Z8,Z8,rfl,⟨nofun,ah _⟩,λz=>absurd rfl z⟩ ?_ ?_)
 .rintro pre k post ρ hx ⟨ts,u5,u6,u7,u8,u9,u10,rfl,ok,ne⟩
  have hp:=congrArg c8 hx;rw[af,am,cg]at hp;have Tc:k∈ce B.toNat:=by rw[hx];simp
  have hk:k<B.toNat:=fi.mp Tc;have tl:=DK cl ok;have pl:(pre++[k]).length=pre.length+1:=by simp
  have i0:(0:Int)<=4*(k:Int):=by omega
  have i1:4*(k:Int)<ds.length:=by omega
  refine aF (cY (aR (aC rfl) (aP aG.e (aC rfl) (uu (by decide)) rfl).e (ur (i:=4*(k:Int)) i0 i1) rfl)) ?_;have Jk:ds.getD (4*(k:Int)).toNat 0∈ds:=getD_mem i0 i1;generalize ds.getD (4*(k:Int)).toNat 0=x at Jk;show Nx _ (aH [] Φ _ (RQ ks _ _ _ _ ts (Z9 (.al,.int (k:Int))) (Z9 (.al,.int x)) u7 u8 u9 u10));refine oP (ux (aS (k:=decide ((1:Int)<ts.length)) (cU (k:=decide ((1:Int)<ts.length)) (zF (ks:=ks) rfl).e aG.e rfl).e rfl) λ_=>aS (k:=decide (x%5<2)) (cU (k:=decide (x%5<2)) (aP (aC rfl) aG.e (dC (by decide)) rfl).e aG.e rfl).e rfl) (λh=>?_) λh=>oP (ux (aS (k:=decide ((0:Int)<ts.length)) (cU (k:=decide ((0:Int)<ts.length)) (zF (ks:=ks) rfl).e aG.e rfl).e rfl) λ_=>tI (aP (aC rfl) aG.e (dC (by decide)) rfl).e) (λh=>?_) λh=>?_
  .rw[aq,decide_eq_true_eq]at h;obtain⟨p0,a,b,rfl⟩:=Jf (ts:=ts) (by have:=h.1;omega);obtain⟨o,ho⟩:=Jh (i:=x/5%2) (.inl rfl) (by omega) (by omega);have oT:p0.length<=90:=by simp at tl;omega
   obtain⟨v5,v6,v8,v9,v10,e⟩:=zi0 (ks:=ks) (Φ:=Φ) (x0:=.list (ds.map .int)) (x1:=x1) (x2:=.int B) (x3:=.bool fb) (u5:=Z9 (.al,.int (k:Int))) (u6:=Z9 (.al,.int x)) (u7:=u7) (u8:=u8) (u9:=u9) (u10:=u10) (pre:=p0) (a:=a) (b:=b) (o:=o) (W:=.ix (.lst (.cons (.str "and") (.cons (.str "or") .nil))) (.bin .Mod (.bin .FloorDiv (.var 6) (.int 5)) (.int 2))) oT (aR (Ev.of (iI (bF bD (bF bD dU)))) (aP (aP (d:=.int (x/5)) (aC rfl) aG.e (mG (by decide) (by decide)) rfl).e aG.e (dC (by decide)) rfl).e ho rfl);exact⟨_,e,_,_,_,_,_,_,_,rfl,by rw[pl];exact S8 (Je cl ok),λ_ z=>by simp at z⟩
  .rw[aq,decide_eq_true_eq]at h;obtain⟨p0,a,rfl⟩:=Jg (ts:=ts) (λz=>by rw[z]at h;have:=h.1;simp at this);have oT:p0.length<=90:=by simp at tl;omega
   have e2:=Jj (ks:=ks) (Φ:=Φ) (ρ:=RQ ks (.list (ds.map .int)) x1 (.int B) (.bool fb) (p0++[a]) (Z9 (.al,.int (k:Int))) (Z9 (.al,.int x)) u7 u8 u9 u10) (ρ1:=RQ ks (.list (ds.map .int)) x1 (.int B) (.bool fb) p0 (Z9 (.al,.int (k:Int))) (Z9 (.al,.int x)) (z08 u7) (z08 u8) (z08 u9) (z08 u10)) (i:=4) (a:=.str "not") (r:=.nil) (x:=.str "not") (zs:=[]) (pre:=p0) (t:=a) rfl (by omega) rfl bD dU;refine⟨_,lH e2 uy,p0++[.un .no a],Z9 (.al,.int (k:Int)),Z9 (.al,.int x),z08 (z08 u7),z08 (z08 u8),z08 (z08 u9),z08 (z08 u10),?_,by rw[pl];exact S7 cl ok,λ_ z=>by simp at z⟩;show([_,_,_,_,Z9 (G.fr,ZZ (p0.map (Tr.e ks)++[(Tr.un .no a).e ks])),_,_,_,_,_,_]:Rho)=_;rw[<-zE];rfl
  .obtain⟨aN,e,t,v5,v6,v7,v8,v9,v10,rfl,q1,q2⟩:=h3 k x ts u7 u8 u9 u10 (by omega) (by omega) Jk;exact⟨_,e,ts++[t],v5,v6,v7,v8,v9,v10,rfl,by rw[pl];exact S6 ok q1 q2,λ_ z=>by simp at z⟩
 .rintro ρ ⟨ts,u5,u6,u7,u8,u9,u10,rfl,ok,ne⟩
  rw[cg]at ok;have tl:=DK cl ok;have ne:=ne λz=>by have:=congrArg c8 z;rw[cg]at this;simp at this;omega
  have t0:=i4.mpr ne;refine S9 (P:=λρ=>∃t u5 u6 u7 u8 u9 u10,ρ=RQ ks (.list (ds.map .int)) x1 (.int B) (.bool fb) [t] u5 u6 u7 u8 u9 u10/\lQ P w B.toNat [t]) (λk ρ=>∃ts u5 u6 u7 u8 u9 u10,ρ=RQ ks (.list (ds.map .int)) x1 (.int B) (.bool fb) ts u5 u6 u7 u8 u9 u10/\lQ P w B.toNat ts/\ts.length=k+1) (ts.length-1) (by omega) ⟨ts,u5,u6,u7,u8,u9,u10,rfl,ok,by omega⟩ ?_ ?_
  .rintro k ρ ⟨ts,u5,u6,u7,u8,u9,u10,rfl,ok,hk⟩
   have tl:=DK cl ok;have tc:Tt [] Φ (.tv (.cmp .Gt (.bi "len" (.cons (.var 4) .nil)) (.int 1))) (RQ ks (.list (ds.map .int)) x1 (.int B) (.bool fb) ts u5 u6 u7 u8 u9 u10) (decide ((1:Int)<ts.length)):=aS (cU (zF (ks:=ks) rfl).e aG.e rfl).e rfl;cases k with
   |zero=>rw[ql (by omega)]at tc;obtain⟨p0,a,rfl⟩:=Jg (ts:=ts) (λz=>by rw[z]at hk;cases hk);have hp:p0=[]:=dt (by simpa using hk);subst hp;exact .inl ⟨tc,a,_,_,_,_,_,_,rfl,ok⟩
   |succ k=>
    rw[qk (by omega)]at tc;obtain⟨p0,a,b,rfl⟩:=Jf (ts:=ts) (by omega);have oT:p0.length=k:=by simpa using hk
    obtain⟨o,ho⟩:=Jh (i:=((p0++[a]).length:Int)%2) (.inr rfl) (by omega) (by omega);obtain⟨v5,v6,v8,v9,v10,e⟩:=zi0 (ks:=ks) (Φ:=Φ) (x0:=.list (ds.map .int)) (x1:=x1) (x2:=.int B) (x3:=.bool fb) (u5:=u5) (u6:=u6) (u7:=u7) (u8:=u8) (u9:=u9) (u10:=u10) (pre:=p0) (a:=a) (b:=b) (o:=o) (W:=.ix (.lst (.cons (.str "or") (.cons (.str "and") .nil))) (.bin .Mod (.bi "len" (.cons (.var 4) .nil)) (.int 2))) (by omega) (aR (Ev.of (iI (bF bD (bF bD dU)))) (aP (zF (ks:=ks) rfl).e aG.e (dC (by decide)) rfl).e ho rfl);exact .inr ⟨k,_,rfl,tc,e,_,_,_,_,_,_,_,rfl,Je cl ok,by simp[oT]⟩
  .rintro ρ ⟨t,u5,u6,u7,u8,u9,u10,rfl,ok⟩
   exact⟨t,ok.1 t (by simp),by have:=ok.2;simpa using this,eB (fF (aR (aC rfl) aG.e rfl t.ie))⟩
def Tr.lf:Tr->Bool
 |.bV _ _=>Z7
 |.cJ _=>Z7
 |_=>Z6
theorem Jl:Vv [] Φ (.bin .Pow (.int 10) (.int 34)) a (.int 10000000000000000000000000000000000):=aP aG.e aG.e rfl rfl
theorem Td (c:Int):∃L:List Int,L.length=26/\qw [.int c,.int 26]=.ok (.fr,.list (L.map .int)):=by
 let E (L:List Int) (u3:Int) (u4 u5 u6:Option GD):Rho:=[Z9 (.od,.int c),Z9 (.od,.int 26),Z9 (.fr,.list (L.map .int)),Z9 (.al,.int u3),u4,u5,u6]
 let Q:Res Out->Prop:=λr=>∃L:List Int,L.length=26/\r=.ok (.rt .fr (.list (L.map .int)))
 suffices h:Q (aH [] [] qv [Z9 (.od,.int c),Z9 (.od,.int 26),Z8,Z8,Z8,Z8,Z8]) by obtain⟨L,h1,h2⟩:=h;exact⟨L,h1,gB h2⟩
 unfold qv;refine aF (fN (iI dU) rfl) (aF (cY (aP (d:=.int (c/2)) (aC rfl) aG.e (mG (by decide) (by decide)) rfl)) (q_nm (m:=λi:Nat=>.int i) (xs:=ce 26) (wW (aW (aC rfl) bN) (uv (n:=26) (by decide) (by decide))) (λ_=>rfl) (λpre ρ=>∃L u3 u4 u5 u6,ρ=E L u3 u4 u5 u6/\L.length=pre.length) ⟨[],_,Z8,Z8,Z8,rfl,rfl⟩ ?_ ?_))
 .rintro pre k post ρ hx ⟨L,u3,u4,u5,u6,rfl,hL⟩
  have hk:k∈ce 26:=by rw[hx];simp
  have hp:=congrArg c8 hx;simp only[cg,af,am]at hp;have hk:k<26:=fi.mp hk;have kk:(k:Int)<26:=by omega
  have e1:∀{ρ:Rho},ρ[4]?=Z9 (Z9 (.al,.int (k:Int)))->Vv [] [] (.bin .Mult (.bin .Mult (.int 7919) (.var 4)) (.var 4)) ρ (.int (7919*(k:Int)*k)):=λh=>aP (aP aG.e (aC h) (lI (by omega)) rfl).e (aC h) (lI (by omega)) rfl;have n1:∃n:Int,0<=n/\n<2147483629/\(c%1000000007+7919*(k:Int)*k+104729)*48271%2147483629=n:=⟨_,by omega,by omega,rfl⟩;obtain⟨n,n0,nl,en⟩:=n1;have n2:∃m:Int,0<=m/\m<2147483587/\n*n%2147483587=m:=⟨_,by omega,by omega,rfl⟩;obtain⟨m,m0,ml,em⟩:=n2;have i0:(0:Int)<=c%2:=by omega
  have i1:∀x y:Int,c%2<(([x,y]:List Int).length:Int):=λx y=>by show c%2<2;omega
  refine aF (cY (d:=.int n) (aP (aP (aP (aP (aP (aC rfl) aG.e (dC (by decide)) rfl).e (e1 rfl).e rfl rfl).e aG.e rfl rfl).e aG.e (lI (by decide)) rfl).e aG.e (by rw[dC (by decide),en]) rfl)) (aF (cY (d:=.int m) (aP (aP (aC rfl) (aC rfl) (lI (by omega)) rfl).e aG.e (by rw[dC (by decide),em]) rfl)) (aF (cY (aP (d:=.int (m*(m+1)*69621*(m+k+2)/97)) (aP (aP (aP (aC rfl) (aP (aC rfl) aG.e rfl rfl).e (lI (by omega)) rfl).e aG.e (lI (by decide)) rfl).e (aP (aP (aC rfl) (aC rfl) rfl rfl).e aG.e rfl rfl).e (lI (by omega)) rfl).e aG.e (mG (by decide) (by decide)) rfl)) ?_));generalize m*(m+1)*69621*(m+k+2)/97=z;refine aF (pV (xs:=L.map .int) (aP (aR (Ev.of (iI (ds:=([z,u3]:List Int).map .int) (bF (v_var rfl rfl) (bF (v_var rfl rfl) dU)))) (aP (aC rfl) aG.e (dC (by decide)) rfl).e (ur i0 (i1 z u3)) rfl).e Jl.e (dC (by decide)) rfl) rfl (by rw[ai];omega)) (aF (cY (aP (d:=.int (u3/10000000000000000000000000000000000)) (aC rfl) Jl.e (mG (by decide) (by decide)) rfl)) (eW ⟨L++[([z,u3]:List Int).getD (c%2).toNat 0%10000000000000000000000000000000000],u3/10000000000000000000000000000000000,Z9 (.al,.int k),Z9 (.al,.int m),Z9 (.al,.int z),?_,by rw[af,af,hL];rfl⟩));simp only[E,bn];rfl
 .rintro ρ ⟨L,u3,u4,u5,u6,rfl,hL⟩
  rw[cg]at hL;exact⟨L,hL,eB (z8x rfl)⟩
def eF (l:List (Str×Str)):dF:=l.map λp=>(.str p.1,.str p.2)
theorem Jm (n:Str):∀l:List (Str×Str),eV (eF l) (.str n)=(lkG l n).map Z0
 | []=>rfl
 |p::l=>by
  have ih:=Jm n l;have e1:eV (eF (p::l)) (.str n)=if decide (p.1=n)=Z7 then Z9 (.str p.2)else eV (eF l) (.str n):=by unfold eV eF;rw[bc,cz];show Option.map _ (match decide (p.1=n)with|true=>_|false=>_)=_;cases decide (p.1=n)<;>rfl
  have e2:lkG (p::l) n=if decide (p.1=n)=Z7 then Z9 p.2 else lkG l n:=by unfold lkG;rw[cz];cases decide (p.1=n)<;>rfl
  rw[e1,e2,ih];split<;>rfl
theorem Jo (l:List (Str×Str)):(eF l).map (λ(e:D×D)=>e.1)=(l.map (·.1)).map Z0:=by unfold eF;rw[ci,ci];rfl
structure q9 (ks kl:List (Str×Str)):Prop where
 nd:(ks.map (·.1)).Nodup
 nm:∀p∈ks,NW p.1
 le:ks.length<=24
 sb:p3 kl ks
 kk:∀p∈kl,p.2∈qC
 ne:kl≠[]
theorem q9.lk {ks kl:List (Str×Str)}(h:q9 ks kl){p:Str×Str}(hp:p∈kl):lkG ks p.1=Z9 p.2/\lkG kl p.1=Z9 p.2:=⟨xD h.nd (h.sb.subset hp),xD (h.nd.sublist (h.sb.map _)) hp⟩
theorem q9.ll {ks kl:List (Str×Str)}(h:q9 ks kl):kl.length<=24:=bh h.sb.length_le h.le
theorem xG {Κ:List D}{Φ:List Fn}{ρ:Rho}{i:Nat}{g:G}{es:dF}(h:ρ[i]?=Z9 (Z9 (g,.dict es)))(hl:es.length<=1000):aE Κ Φ (.lk i) ρ=.ok (.fr,.list (es.map λ(e:D×D)=>e.1)):=by
 show(match ρ[i]? with|some (Z9 (_,.dict es))=>if decide (es.length<=LIM)then Res.ok (G.fr,ZZ (es.map λ(e:D×D)=>e.1))else .no|_=>.no)=_;rw[h]
 dsimp only
 rw[qe (qk (show es.length<=LIM by unfold LIM;omega))]
theorem len_strs (ns:List Str):iF "len" [.list (ns.map .str)]=.ok (.int (ns.length:Int)):=by show Res.ok (ZX ((ns.map Z0).length:Int))=_;rw[ai]
theorem eT (a b:Str):cmpD .Eq (.str a) (.str b)=.ok (decide (a=b)):=by show Res.ok (bO (.str _) (.str _))=_;rw[iU]
theorem Te {n:Int}{ks kl:List (Str×Str)}(K:q9 ks kl):∃t:Tr,t.lf=Z7/\t.kn 2 ks/\uD [.int n,.dict (eF kl)]=.ok (.fr,t.e ks):=by
 let Q:Res Out->Prop:=λr=>∃t:Tr,t.lf=Z7/\t.kn 2 ks/\r=.ok (.rt .fr (t.e ks))
 suffices h:Q (aH [] [] zb [Z9 (.od,.int n),Z9 (.od,.dict (eF kl)),Z8,Z8,Z8,Z8]) by obtain⟨t,h1,h2,h3⟩:=h;exact⟨t,h1,h2,gB h3⟩
 unfold zb;have hl:=K.ll;have h0:0<kl.length:=i4.mpr K.ne;have hL:(kl.map (·.1)).length=kl.length:=ai _;refine aF (fN (xs:=(kl.map (·.1)).map .str) (by rw[xG rfl (by unfold eF;rw[ai];omega),Jo]) (gO _)) ?_;have i0:0<=n/4%(kl.map (·.1)).length:=gt _ (by omega);have i1:n/4%(kl.map (·.1)).length<(kl.map (·.1)).length:=j8 _ (by omega);have v1:∀{u3 u4:Option GD},Vv [] [] (.bin .FloorDiv (.var 0) (.int 4)) [Z9 (.od,.int n),Z9 (.od,.dict (eF kl)),Z9 (.fr,.list ((kl.map (·.1)).map .str)),u3,u4,Z8] (.int (n/4)):=aP (aC rfl) aG.e (mG (by decide) (by decide)) rfl;have v2:∀{u3 u4:Option GD},Vv [] [] (.bi "len" (.cons (.var 2) .nil)) [Z9 (.od,.int n),Z9 (.od,.dict (eF kl)),Z9 (.fr,.list ((kl.map (·.1)).map .str)),u3,u4,Z8] (.int ((kl.map (·.1)).length:Int)):=fE (aW (aC rfl) bN) (len_strs _) rfl;refine aF (cY (aR (aC rfl) (aP v1.e v2.e (dC (by omega)) rfl).e (uq i0 i1) rfl)) (aF (cY (aP (d:=.int (n/4/(kl.map (·.1)).length)) v1.e v2.e (mG (by omega) (by omega)) rfl)) ?_);have hw:=getD_mem (d:=(⟨#[]⟩:Str)) i0 i1;generalize (kl.map (·.1)).getD (n/4%(kl.map (·.1)).length).toNat ⟨#[]⟩=w at hw;generalize n/4/(kl.map (·.1)).length=m;obtain⟨p,hp,rfl⟩:=bb.mp hw;obtain⟨k1,k2⟩:=K.lk hp;have kd:gH (.dict (eF kl)) (.str p.1)=.ok (.str p.2):=by show Res.eU (eV (eF kl) (.str p.1))=_;rw[Jm,k2];rfl
 have hk:=K.kk p hp;refine R4 (aS (cU (k:=decide (p.2=("fact":Str))) (aR (aC rfl) (aC rfl) kd rfl).e bD.e (eT _ _)).e rfl) (λhf=>?_) λhf=>?_
 .have hf:p.2=("fact":Str):=qj hf;rw[hf]at k1;have j0:0<=n%4:=by omega
  have j1:n%4<(([1,2+m%5,1000000000000000000000000000000-m%3,1+m%1000000000000000000000000000000]:List Int).length:Int):=by show _<(4:Int);omega
  have hm:=getD_mem (d:=(0:Int)) j0 j1;simp only[ao,bw,or_false]at hm
  have e:∀{k:Int},k=1\/(2<=k/\k<=1000000000000000000000000000000)->∃t:Tr,t.lf=Z7/\t.kn 2 ks/\t.e ks=.tuple [.str "at",.str p.1,.int k]:=λ{k} h=>by
   rcases h with rfl|⟨a,b⟩
   .exact⟨.cJ p.1,rfl,⟨_,hf▸hk,k1⟩,qe k1⟩
   .exact⟨.bV p.1 (dec k),rfl,⟨k1,k,a,b,rfl⟩,by show ZY [.str "at",.str p.1,.int ((dW (dec k)).getD 0)]=_;rw[DM (by omega) b];rfl⟩
  obtain⟨t,t1,t2,t3⟩:=e (k:=([1,2+m%5,1000000000000000000000000000000-m%3,1+m%1000000000000000000000000000000]:List Int).getD (n%4).toNat 0) (by omega);refine⟨.fr,_,lH (fN (iI (ds:=([1,2+m%5,1000000000000000000000000000000-m%3,1+m%1000000000000000000000000000000]:List Int).map .int) (bF aG (bF (aP aG.e (aP (aC rfl) aG.e (dC (by decide)) rfl).e rfl rfl) (bF (aP HD.e (aP (aC rfl) aG.e (dC (by decide)) rfl).e rfl rfl) (bF (aP aG.e (aP (aC rfl) HD.e (dC (by decide)) rfl).e rfl rfl) dU))))) rfl) (eB (fF (oI (bF bD (bF (v_var rfl rfl) (bF (aR (aC rfl) (aP (aC rfl) aG.e (dC (by decide)) rfl).e (ur j0 j1) rfl) dU)))))),t,t1,t2,?_⟩;rw[t3]
 .have hf:¬p.2=("fact":Str):=of_decide_eq_false hf;refine⟨.cJ p.1,rfl,⟨_,hk,k1⟩,?_⟩;rw[show(Tr.cJ p.1).e ks=.tuple [.str "is",.str p.1]from qf λz=>hf (by rw[k1]at z;exact qg z)];exact eB (fF (oI (bF bD (bF (v_var rfl rfl) dU))))
theorem Jp {n:Int}{ns:List Str}(h0:0<ns.length)(h1:ns.length<=24):∃a:List Str,a.Nodup/\a.length<=5/\(∀x∈a,x∈ns)/\zd [.int n,.list (ns.map .str)]=.ok (.fr,.tuple (a.map .str)):=by
 let Q:Res Out->Prop:=λr=>∃a:List Str,a.Nodup/\a.length<=5/\(∀x∈a,x∈ns)/\r=.ok (.rt .fr (.tuple (a.map .str)))
 suffices h:Q (aH [] [] zc [Z9 (.od,.int n),Z9 (.od,.list (ns.map .str)),Z8,Z8,Z8,Z8]) by obtain⟨a,a1,a2,a3,a4⟩:=h;exact⟨a,a1,a2,a3,gB a4⟩
 unfold zc;refine aF (fN (iI dU) rfl) (aF (cY (aP (aC rfl) aG.e (dC (by decide)) rfl)) (aF (cY (aP (d:=.int (n/6)) (aC rfl) aG.e (mG (by decide) (by decide)) rfl)) (q_nm (m:=λi:Nat=>.int i) (xs:=ce (n%6).toNat) (wW (aW (aC rfl) bN) (uv (by omega) (by omega))) (λ_=>rfl) (λpre ρ=>∃(m:Int) (a:List Str) (u4 u5:Option GD),ρ=[Z9 (.al,.int m),Z9 (.od,.list (ns.map .str)),Z9 (.fr,.list (a.map .str)),Z9 (.al,.int (n%6)),u4,u5]/\a.Nodup/\a.length<=pre.length/\∀x∈a,x∈ns) ⟨n/6,[],Z8,Z8,rfl,ir,ah _,nofun⟩ ?_ ?_)))
 .rintro pre k post ρ hx ⟨m,a,u4,u5,rfl,nd,al,an⟩
  have hp:=congrArg c8 hx;rw[af,am,cg]at hp;have i0:0<=m%ns.length:=gt _ (by omega);have i1:m%ns.length<ns.length:=j8 _ (by omega);have v2:∀{u0:Int} {u4 u5:Option GD},Vv [] [] (.bi "len" (.cons (.var 1) .nil)) [Z9 (.al,.int u0),Z9 (.od,.list (ns.map .str)),Z9 (.fr,.list (a.map .str)),Z9 (.al,.int (n%6)),u4,u5] (.int (ns.length:Int)):=fE (aW (aC rfl) bN) (len_strs _) rfl;have hw:=getD_mem (d:=(⟨#[]⟩:Str)) i0 i1;refine aF (cY (aR (aC rfl) (aP (aC rfl) v2.e (dC (by omega)) rfl).e (uq i0 i1) rfl)) ?_;generalize ns.getD (m%ns.length).toNat ⟨#[]⟩=w at hw;refine aF (cY (aP (d:=.int (m/ns.length)) (aC rfl) v2.e (mG (by omega) (by omega)) rfl)) ?_;have pl:(pre++[k]).length=pre.length+1:=by simp
  refine oP (aS (k:=!decide (w∈a)) (cU (k:=!decide (w∈a)) (aC rfl) (aC rfl) (by show(inD (.str w) (.list (a.map .str))>>=λb=>Res.ok (!b))=_;rw[IS];rfl)).e rfl) (λh=>?_) λh=>eW ⟨m/ns.length,a,_,_,rfl,nd,by omega,an⟩;have hn:w∉a:=λz=>by rw[qk z]at h;cases h
  refine aF (pV (v_var rfl rfl) rfl (by rw[ai];omega)) (eW ⟨m/ns.length,a++[w],Z9 (.al,.int k),Z9 (.al,.str w),?_,?_,by rw[af];show a.length+1<=_;omega,λx hx=>(a8.mp hx).elim (an x) λz=>by rw[ar.mp z];exact hw⟩)
  .rw[bn];rfl
  .rw[ij];exact⟨nd,et.mpr ⟨nofun,ir⟩,λx hx y hy e=>hn (by rw[ar.mp hy]at e;exact e▸hx)⟩
 .rintro ρ ⟨m,a,u4,u5,rfl,nd,al,an⟩
  rw[cg]at al;exact⟨a,nd,by omega,an,eB (fF (yR (aC rfl) rfl rfl (gO a)))⟩
def zG (ks:List (Str×Str))(t:Tr):Prop:=t.kn 2 ks/\t.wf Z6=Z7
theorem Tf (ks:List (Str×Str)):Cl (zG ks) Tr.nd:=⟨zD,λ_ _ _=>rfl,λ_=>rfl,λ_ a b x y=>⟨⟨x.1,y.1⟩,by show(a.wf Z6&&b.wf Z6)=Z7;rw[x.2,y.2];rfl⟩,λ_ h=>h⟩
theorem Jq (b:Bool):fU (.bool b)=.ok b:=by cases b<;>rfl
theorem Jr {ks kl:List (Str×Str)}(K:q9 ks kl){ds:List Int}{B:Int}{j:Nat}(hB:1<=B/\B<=6)(hd:4*B<=ds.length+3):∃t:Tr,zG ks t/\t.nd<=B.toNat/\nY (j+1) [.list (ds.map .int),.dict (eF kl),.int B,.bool Z6]=.ok (.fr,t.e ks):=by
 show ∃t:Tr,zG ks t/\t.nd<=B.toNat/\aZ [] [nY j,uD] 11 qZ [.list (ds.map .int),.dict (eF kl),.int B,.bool Z6]=.ok (.fr,t.e ks);refine ze7 (Tf ks) hB hd λk x ts u7 u8 u9 u10 hk ht hx=>?_;refine oP (aS (aC rfl) (Jq Z6)) (λz=>by cases z) λ_=>?_;obtain⟨t,t1,t2,t3⟩:=Te (n:=x/5) K;refine aF (pV (gP (aW (aP (d:=.int (x/5)) (aC rfl) aG.e (mG (by decide) (by decide)) rfl).e (aW (aC rfl) bN)) rfl t3 t.ie) rfl (by rw[ai];omega)) (eW ⟨t,Z9 (.al,.int k),Z9 (.al,.int x),z08 u7,z08 u8,z08 u9,z08 u10,?_,⟨t2,?_⟩,?_⟩)
 .show([_,_,_,_,Z9 (G.fr,ZZ (ts.map (Tr.e ks)++[t.e ks])),_,_,_,_,_,_]:Rho)=_;rw[<-zE];rfl
 .cases t<;>first|rfl|cases t1
 .cases t<;>first|rfl|cases t1
def Tr.wq:Tr->Nat
 |.un .no t=>t.wq+1
 |.two _ a b=>a.wq+b.wq
 |_=>1
theorem zH:∀t:Tr,1<=t.wq
 |.bV _ _=>ah _
 |.cJ _=>ah _
 |.un .no t=>d6 (cn _)
 |.un .so _=>ah _
 |.un .al _=>ah _
 |.two _ a b=>bh (zH a) (gk _ _)
def zI (ks:List (Str×Str))(t:Tr):Prop:=(t.kn 2 ks/\t.wf Z7=Z7)/\t.nd<=3*t.wq/\t.dp<=2+t.wq
theorem Th (ks:List (Str×Str)):Cl (zI ks) Tr.wq:=⟨zH,λ_ _ _=>rfl,λ_=>rfl,λ_ a b x y=>⟨⟨⟨x.1.1,y.1.1⟩,by show(a.wf Z7&&b.wf Z7)=Z7;rw[x.1.2,y.1.2];rfl⟩,by
 show a.nd+b.nd<=3*(a.wq+b.wq);have:=x.2.1;have:=y.2.1;omega,by
 show max a.dp b.dp+1<=2+(a.wq+b.wq);have:=x.2.2;have:=y.2.2;have:=zH a;have:=zH b;omega⟩,λa x=>⟨x.1,by
 show a.nd+1<=3*(a.wq+1);have:=x.2.1;omega,by
 show a.dp+1<=2+(a.wq+1);have:=x.2.2;omega⟩⟩
theorem Ti (h0:0<=i)(a:i<2):∃u,u≠.no/\gH (.list (([("some":Str),("all":Str)]).map .str)) (.int i)=.ok (.str (dJ u)):=by
 rcases(show i=0\/i=1 by omega)with rfl|rfl
 .exact⟨.so,nofun,rfl⟩
 .exact⟨.al,nofun,rfl⟩
theorem Tj {ks:List (Str×Str)}{u:tM}{t:Tr}(hu:u≠.no)(h:zG ks t)(hn:t.nd<=2):zI ks (.un u t)/\(Tr.un u t).wq=1:=by
 have w:(Tr.un u t).wq=1:=by cases u<;>first|rfl|exact absurd rfl hu
 have e:(Tr.un u t).wf Z7=t.wf false:=by cases u<;>first|rfl|exact absurd rfl hu
 refine⟨⟨⟨h.1,by rw[e];exact h.2⟩,?_,?_⟩,w⟩
 .rw[w];show t.nd+1<=3;omega
 .rw[w];show t.dp+1<=3;have:=xF t;omega
theorem tN (h:0<=v):Mi.bB n d (Z9 v)=min v.toNat n:=qf (by omega)
theorem Tn {L:List Int}{k:Nat}(h:4*k+4<=L.length):(cut L (Z9 (4*(k:Int)+1)) (Z9 (4*(k:Int)+4))).length=3:=by unfold cut;rw[tN (v:=4*(k:Int)+1) (by omega),tN (v:=4*(k:Int)+4) (by omega),cv,d5,show(4*(k:Int)+1).toNat=4*k+1 by omega,show(4*(k:Int)+4).toNat=4*k+4 by omega];omega
theorem To {ks kl:List (Str×Str)}(K:q9 ks kl){ds:List Int}{B:Int}{j:Nat}(hB:1<=B/\B<=3)(hd:12<=ds.length):∃t:Tr,zI ks t/\t.wq<=B.toNat/\nY (j+2) [.list (ds.map .int),.dict (eF kl),.int B,.bool Z7]=.ok (.fr,t.e ks):=by
 show ∃t:Tr,zI ks t/\t.wq<=B.toNat/\aZ [] [nY (j+1),uD] 11 qZ [.list (ds.map .int),.dict (eF kl),.int B,.bool Z7]=.ok (.fr,t.e ks);refine ze7 (Th ks) ⟨hB.1,by omega⟩ (by omega) λk x ts u7 u8 u9 u10 hk ht hx=>?_;refine oP (aS (aC rfl) (Jq Z7)) (λ_=>?_) λz=>by cases z
 have cl:(cut ds (Z9 (4*(k:Int)+1)) (Z9 (4*(k:Int)+4))).length=3:=Tn (by omega);have ev:aE [] [nY (j+1),uD] (.sl (.var 0) (.tv (.bin .Add (.bin .Mult (.int 4) (.var 5)) (.int 1))) (.tv (.bin .Add (.bin .Mult (.int 4) (.var 5)) (.int 4)))) (RQ ks (.list (ds.map .int)) (.dict (eF kl)) (.int B) (.bool Z7) ts (Z9 (.al,.int k)) (Z9 (.al,.int x)) u7 (Z9 (.fr,.list [])) u9 u10)=.ok (.fr,.list ((cut ds (Z9 (4*(k:Int)+1)) (Z9 (4*(k:Int)+4))).map .int)):=xw (m:=ZX) (λ_=>rfl) (aC rfl) (oJ (aP (d:=.int (4*(k:Int)+1)) (aP aG.e (aC rfl) (uu (by decide)) rfl).e aG.e rfl rfl).e) (oJ (aP (d:=.int (4*(k:Int)+4)) (aP aG.e (aC rfl) (uu (by decide)) rfl).e aG.e rfl rfl).e);generalize cut ds (Z9 (4*(k:Int)+1)) (Z9 (4*(k:Int)+4))=cs at cl ev;refine aF (fN (iI dU) rfl) (q_nm (Q:=Nx _) (m:=ZX) (xs:=cs) (HC (λi=>nofun) ev rfl) (λ_=>rfl) (λpre ρ=>∃(L:List Int) (u9:Option GD),ρ=RQ ks (.list (ds.map .int)) (.dict (eF kl)) (.int B) (.bool Z7) ts (Z9 (.al,.int k)) (Z9 (.al,.int x)) u7 (Z9 (.fr,.list (L.map .int))) u9 u10/\L.length=4*pre.length) ⟨[],u9,rfl,rfl⟩ ?_ ?_)
 .rintro pre y post ρ hy ⟨L,u9,rfl,hL⟩
  have hp:=congrArg c8 hy;rw[af,am]at hp;refine aF (fN (xs:=(L++[y,0,0,0]).map .int) (Hy (aC rfl) (Ev.of (iI (ds:=([y,0,0,0]:List Int).map .int) (bF (v_var rfl rfl) (bF aG (bF aG (bF aG dU)))))) (by rw[add_list (by simp only[ai];simp;omega),<-bn]) (CH _)) (CH _)) (eW ⟨L++[y,0,0,0],Z9 (.al,.int y),rfl,by simp;omega⟩)
 .rintro ρ ⟨L,u9,rfl,hL⟩
  obtain⟨t,t1,t2,t3⟩:=Jr K (ds:=L) (B:=1+x/10%2) (j:=j) (by omega) (by omega);obtain⟨u,hu,eu⟩:=Ti (i:=x/5%2) (by omega) (by omega);obtain⟨q1,q2⟩:=Tj hu t1 (by omega);refine aF (cY (gP (aW (aC rfl) (aW (aC rfl) (aW (aP aG.e (aP (aP (d:=.int (x/10)) (aC rfl) aG.e (mG (by decide) (by decide)) rfl).e aG.e (dC (by decide)) rfl).e rfl rfl).e (aW pU.e bN)))) rfl t3 t.ie)) (aF (pV (oI (bF (aR (Ev.of (iI (bF bD (bF bD dU)))) (aP (aP (d:=.int (x/5)) (aC rfl) aG.e (mG (by decide) (by decide)) rfl).e aG.e (dC (by decide)) rfl).e eu rfl) (bF (v_var rfl t.ie) dU))) rfl (by rw[ai];omega)) (eW ⟨.un u t,Z9 (.al,.int k),Z9 (.al,.int x),z08 u7,z08 (Z9 (.fr,.list (L.map .int))),z08 u9,z08 (Z9 (.al,t.e ks)),?_,q1,q2⟩));show([_,_,_,_,Z9 (G.fr,ZZ (ts.map (Tr.e ks)++[(Tr.un u t).e ks])),_,_,_,_,_,_]:Rho)=_;rw[<-zE];rfl
inductive Rwq where
 |fa (n:Str)|op (n:Str) (a b:List Str)|gS (m:Bool) (n:Str) (t:Tr)
def fP (m:Bool):Str:=if m then "claim"else "word"
def Rwq.nm:Rwq->Str
 |.fa n=>n
 |.op n _ _=>n
 |.gS _ n _=>n
def Rwq.kd:Rwq->Str
 |.fa _=>"fact"
 |.op _ _ _=>"open"
 |.gS m _ _=>fP m
def Rwq.ws:Rwq->List Str
 |.fa n=>["fact",n]
 |.op n a b=>kI n a b
 |.gS m n t=>fP m::n::("if":Str)::t.ws
def Rwq.d (ks:List (Str×Str)):Rwq->D
 |.fa n=>.tuple [.str "fact",.str n]
 |.op n a b=>nZ n a b
 |.gS m n t=>.tuple [.str (fP m),.str n,t.e ks]
def bW (rs:List Rwq):List (Str×Str):=rs.map λr=>(r.nm,r.kd)
def Rwq.ok (lo:Int)(ks:List (Str×Str)):Rwq->Prop
 |.fa _=>True
 |.op _ a b=>(a.Nodup/\b.Nodup)/\(∀x∈a++b,∃s∈qC,lkG ks x=Z9 s)/\cntO ks<4/\a.length<=5/\b.length<=5
 |.gS m _ t=>t.kn lo ks/\t.wf m=Z7/\t.dp<=8/\t.nd<=12
inductive Ac (lo:Int):List Rwq->List D->Prop
 |nil:Ac lo [] []
 |snoc {rs:List Rwq} {ds:List D} {r:Rwq}:Ac lo rs ds->NW r.nm->r.nm∉(bW rs).map (·.1)->r.ok lo (bW rs)->Ac lo (rs++[r]) (ds++[r.d (bW rs)])
theorem rg (rs:List Rwq)(r:Rwq):bW (rs++[r])=bW rs++[(r.nm,r.kd)]:=by unfold bW;rw[bn];rfl
theorem Ac.len {lo:Int}{rs:List Rwq}{ds:List D}(h:Ac lo rs ds):ds.length=rs.length:=by
 induction h with
 |nil=>rfl
 |snoc _ _ _ _ ih=>rw[af,af,ih];rfl
theorem Js (n:Str)(a b:List Str):imm (nZ n a b)=true:=by show(Z7&&(Z7&&(imms (a.map .str)&&(imms (b.map .str)&&Z7))))=Z7;rw[gO,gO];rfl
theorem Rwq.im {ks:List (Str×Str)}(r:Rwq):imm (r.d ks)=true:=by
 cases r with
 |fa n=>rfl
 |op n a b=>exact Js n a b
 |gS m n t=>show(Z7&&(Z7&&(imm (t.e ks)&&Z7)))=Z7;rw[t.ie];rfl
theorem Ac.imms {lo:Int}{rs:List Rwq}{ds:List D}(h:Ac lo rs ds):imms ds=true:=by
 induction h with
 |nil=>rfl
 |snoc _ _ _ _ ih=>exact ua.mpr λe he=>(a8.mp he).elim (ua.mp ih e) λz=>by rw[ar.mp z];exact Rwq.im _
theorem Ac.nw {lo:Int}{rs:List Rwq}{ds:List D}(h:Ac lo rs ds):((bW rs).map (·.1)).Nodup/\∀p∈bW rs,NW p.1:=by
 induction h with
 |nil=>exact⟨ir,nofun⟩
 | @snoc rs ds r _ hw hn _ ih=>rw[rg];refine⟨?_,λp hp=>(a8.mp hp).elim (ih.2 p) λz=>by rw[ar.mp z];exact hw⟩;rw[bn,ij];exact⟨ih.1,et.mpr ⟨nofun,ir⟩,λx hx y hy e=>by have e:x=r.nm:=e.trans (ar.mp hy);exact hn (e▸hx)⟩
theorem Tq {kl:List (Str×Str)}{n s:Str}(h:n∉kl.map (·.1)):dput (eF kl) (.str n) (.str s)=eF (kl++[(n,s)]):=by
 unfold dput;rw[qf λz=>?_]
 .unfold eF;rw[bn];rfl
 .obtain⟨e,he,z⟩:=iu.mp z;unfold eF at he;obtain⟨p,hp,rfl⟩:=bb.mp he;have z:decide (p.1=n)=true:=z;exact h (bb.mpr ⟨p,hp,qj z⟩)
theorem Ts {ds:List D}{x:D}:gH (.list (ds++[x])) (.int (-1))=.ok x:=by
 show Res.eU (cB (ds++[x]) (-1))=_;have e:cB (ds++[x]) (-1)=Z9 x:=by unfold cB gZ;rw[af];simp;rw[qe (by omega)];show(ds++[x])[(-1+((ds.length:Int)+1)).toNat]?=Z9 x;rw[show(-1+((ds.length:Int)+1)).toNat=ds.length by omega];simp
 rw[e];rfl
structure RI (ns:List Str)(j:Nat)(rs:List Rwq)(ds:List D)(kl:List (Str×Str))(o:Nat):Prop where
 ac:Ac 2 rs ds
 nm:(bW rs).map (·.1)=ns.getD 26 ⟨#[]⟩::ns.take j
 kd:q9 (bW rs) kl
 op:cntO (bW rs)=o
 o4:o<=4
theorem Tu (ks:List (Str×Str))(p:Str×Str):cntO (ks++[p])=cntO ks+if p.2=("open":Str)then 1 else 0:=by
 unfold cntO;rw[bn,List.countP_append]
 congr 1
 show List.countP _ [p.2]=_;rw[l4,List.countP_nil];by_cases h:p.2=("open":Str)
 .rw[qe h,qe (by rw[h];exact beq_self_eq_true _)]
 .rw[qf h,qf (by rw[beq_iff_eq];exact h)]
theorem getD_at {ns:List Str}{j:Nat}(h:j<ns.length):ns.getD j ⟨#[]⟩=ns[j]:=by rw[ag,a9 h];rfl
theorem RI.new {ns:List Str}{j:Nat}{rs:List Rwq}{ds:List D}{kl:List (Str×Str)}{o:Nat}(h:RI ns j rs ds kl o)(hN:Np ns)(hj:j<23):NW (ns.getD j ⟨#[]⟩)/\ns.getD j ⟨#[]⟩∉(bW rs).map (·.1):=by
 have hl:j<ns.length:=by have:=hN.1;omega
 refine⟨hN.2.1 _ (by rw[getD_at hl];exact fh hl),λz=>?_⟩;rw[h.nm]at z;have hm:ns.getD j ⟨#[]⟩∈ns.take 23:=by rw[getD_at hl];exact nh.mpr ⟨j,by rw[cv];omega,List.getElem_take⟩
 rcases ao.mp z with z|z
 .exact hN.2.2.2 (z▸hm)
 .have hs:(ns.take (j+1)).Nodup:=hN.2.2.1.sublist ((List.take_sublist_take_left (by omega)));rw[List.take_succ,a9 hl,ij]at hs;exact hs.2.2 _ z _ (by rw[getD_at hl];exact .head _) rfl
theorem RI.add {ns:List Str}{j:Nat}{rs:List Rwq}{ds:List D}{kl DN:List (Str×Str)}{o:Nat}{r:Rwq}(h:RI ns j rs ds kl o)(hN:Np ns)(hj:j<23)(hn:r.nm=ns.getD j ⟨#[]⟩)(ok:r.ok 2 (bW rs))(hk:(r.kd∈qC/\DN=kl++[(r.nm,r.kd)])\/DN=kl):RI ns (j+1) (rs++[r]) (ds++[r.d (bW rs)]) DN (o+if r.kd=("open":Str)then 1 else 0):=by
 obtain⟨n1,n2⟩:=h.new hN hj;rw[<-hn]at n1 n2;have ac:=h.ac.snoc n1 n2 ok;have hl:j<ns.length:=by have:=hN.1;omega
 have le:(bW (rs++[r])).length<=24:=by have e:=congrArg c8 h.nm;rw[ai,am,cv]at e;rw[rg,af];show _+1<=24;omega
 refine⟨ac,?_,⟨ac.nw.1,ac.nw.2,le,?_,?_,?_⟩,?_,?_⟩
 .rw[rg,bn,h.nm,List.take_succ,a9 hl];show _::(ns.take j++[r.nm])=_;rw[hn,getD_at hl];rfl
 .rw[rg];rcases hk with⟨_,rfl⟩|rfl
  .exact h.kd.sb.append (List.Sublist.refl _)
  .exact h.kd.sb.trans (List.sublist_append_left _ _)
 .rcases hk with⟨a,rfl⟩|rfl
  .exact λp hp=>(a8.mp hp).elim (h.kd.kk p) λz=>by rw[ar.mp z];exact a
  .exact h.kd.kk
 .rcases hk with⟨a,rfl⟩|rfl
  .simp
  .exact h.kd.ne
 .rw[rg,Tu,h.op]
 .cases r with
  |op n a b=>have:=ok.2.2.1;rw[h.op]at this;show o+(if("open":Str)="open"then 1 else 0)<=4;rw[qe rfl];omega
  |fa n=>have:=h.o4;show o+(if("fact":Str)="open"then 1 else 0)<=4;rw[qf (by decide)];omega
  |gS m n t=>have:=h.o4;show o+(if fP m="open"then 1 else 0)<=4;rw[qf (by cases m<;>decide)];omega
abbrev PR:List Fn:=[zd,nY 2,qw,nX]
abbrev RW (xs:List Int)(ns:List Str)(ds:List D)(kl:List (Str×Str))(o:Int)(u5 u6 u7 u8 u9:Option GD):Rho:=[Z9 (.od,.list (xs.map .int)),Z9 (.fr,.list (ns.map .str)),Z9 (.fr,.list ds),Z9 (.fr,.dict (eF kl)),Z9 (.al,.int o),u5,u6,u7,u8,u9]
theorem Tv {L:List Int}(h:L.length=26):(cut L (Z9 2) Z8).length=24:=by unfold cut;rw[tN (v:=2) (by decide),cv,d5,h];show min (26-min 2 26) _=24;omega
theorem zqq {xs:List Int}{ns:List Str}{j:Nat}{rs:List Rwq}{ds:List D}{kl:List (Str×Str)}{o:Nat}{L:List Int}{c:Int}(h:RI ns j rs ds kl o)(hN:Np ns)(hj:j<23)(hL:L.length=26)(u9:Option GD):
  Nx (λρ=>∃(r:Rwq) (v9:Option GD),ρ=RW xs ns (ds++[r.d (bW rs)]) kl ((o+if r.kd=("open":Str)then 1 else 0:Nat):Int) (Z9 (.al,.int (j:Int))) (Z9 (.al,.int c)) (Z9 (.fr,.list (L.map .int))) (Z9 (.al,.int (L.getD 0 0%6))) v9/\r.nm=ns.getD j ⟨#[]⟩/\r.ok 2 (bW rs)/\(if L.getD 0 0%6<4 then r.kd∈qC else r.kd="claim"))
  (aH [] PR (.seq (.aX (.and (.tv (.cmp .Eq (.var 8) (.int 1))) (.tv (.cmp .Lt (.var 4) (.int 4))))
 (.seq (.asg (.nm 4) (.bin .Add (.var 4) (.int 1)))
 (.seq (.asg (.nm 9) (.lk 3))
 (.seq (.mut "append" 2 (.cons (.tup (.cons (.str "open") (.cons (.ix (.var 1) (.var 5)) (.cons (.call 0 "_law_list" (.cons (.ix (.var 7) (.int 1)) (.cons (.var 9) .nil))) (.cons (.call 0 "_law_list" (.cons (.ix (.var 7) (.int 2)) (.cons (.var 9) .nil))) .nil))))) .nil))
 .nil)))
 (.seq (.aX (.or (.tv (.cmp .Eq (.var 8) (.int 2))) (.tv (.cmp .Eq (.var 8) (.int 3))))
 (.seq (.mut "append" 2 (.cons (.tup (.cons (.str "word") (.cons (.ix (.var 1) (.var 5)) (.cons (.call 1 "_law_tree" (.cons (.sl (.var 7) (.tv (.int 2)) .nil) (.cons (.var 3) (.cons (.bin .Add (.int 1) (.bin .Mod (.ix (.var 7) (.int 1)) (.int 6))) (.cons (.bl Z6) .nil))))) .nil)))) .nil))
 .nil)
 (.seq (.aX (.tv (.cmp .Gt (.var 8) (.int 3)))
 (.seq (.mut "append" 2 (.cons (.tup (.cons (.str "claim") (.cons (.ix (.var 1) (.var 5)) (.cons (.call 1 "_law_tree" (.cons (.sl (.var 7) (.tv (.int 2)) .nil) (.cons (.var 3) (.cons (.bin .Add (.int 1) (.bin .Mod (.ix (.var 7) (.int 1)) (.int 3))) (.cons (.bl Z7) .nil))))) .nil)))) .nil))
 .nil)
 (.seq (.mut "append" 2 (.cons (.tup (.cons (.str "fact") (.cons (.ix (.var 1) (.var 5)) .nil))) .nil))
 .nil))
 .nil))
 .nil)) .nil) (RW xs ns ds kl (o:Int) (Z9 (.al,.int (j:Int))) (Z9 (.al,.int c)) (Z9 (.fr,.list (L.map .int))) (Z9 (.al,.int (L.getD 0 0%6))) u9)):=by
 have hd:ds.length<1000:=by have e:=congrArg c8 h.nm;rw[ai,am,cv]at e;unfold bW at e;rw[ai]at e;rw[h.ac.len];omega
 have K:=h.kd;have Jt:0<(kl.map (·.1)).length:=by rw[ai];exact i4.mpr K.ne
 have Ju:(kl.map (·.1)).length<=24:=by rw[ai];exact K.ll
 have Vw:=hN.1;have vn:∀{o:Int} {u7 u8 u9:Option GD},Vv [] PR (.ix (.var 1) (.var 5)) (RW xs ns ds kl o (Z9 (.al,.int (j:Int))) (Z9 (.al,.int c)) u7 u8 u9) (.str (ns.getD j ⟨#[]⟩)):=aR (aC rfl) (aC rfl) (uq (i:=(j:Int)) (by omega) (by omega)) rfl;have vl:∀{i o:Int} {u8 u9:Option GD},0<=i->i<26->Vv [] PR (.ix (.var 7) (.int i)) (RW xs ns ds kl o (Z9 (.al,.int (j:Int))) (Z9 (.al,.int c)) (Z9 (.fr,.list (L.map .int))) u8 u9) (.int (L.getD i.toNat 0)):=λh0 h1=>aR (aC rfl) aG.e (ur h0 (by omega)) rfl;have vs:∀{o:Int} {u8 u9:Option GD},Ev [] PR (.sl (.var 7) (.tv (.int 2)) .nil) (RW xs ns ds kl o (Z9 (.al,.int (j:Int))) (Z9 (.al,.int c)) (Z9 (.fr,.list (L.map .int))) u8 u9) (.list ((cut L (Z9 2) Z8).map .int)):=Ev.of (xw (m:=ZX) (λ_=>rfl) (aC rfl) (oJ aG.e) uc);have Vx:=Tv hL;have it:∀a:List Str,imm (.tuple (a.map .str))=true:=λa=>gO a;generalize hq:L.getD 0 0%6=q;have q0:0<=q/\q<6:=by omega
 refine oP (ux (tI (aC rfl)) λ_=>aS (k:=decide ((o:Int)<4)) (cU (k:=decide ((o:Int)<4)) (aC rfl) aG.e rfl).e rfl) (λhc=>?_) λhc=>oP (jO (tI (aC rfl)) λ_=>tI (aC rfl)) (λJv=>?_) λJv=>oP (aS (k:=decide (3<q)) (cU (k:=decide (3<q)) (aC rfl) aG.e rfl).e rfl) (λxH=>?_) λxH=>?_
 .rw[aq,decide_eq_true_eq,decide_eq_true_eq]at hc;obtain⟨a,a1,a2,a3,a4⟩:=Jp (n:=L.getD (1:Int).toNat 0) Jt Ju;obtain⟨b,b1,b2,b3,b4⟩:=Jp (n:=L.getD (2:Int).toNat 0) Jt Ju;have kn:∀x∈a++b,∃s∈qC,lkG (bW rs) x=Z9 s:=λx hx=>by have hx:x∈kl.map (·.1):=(a8.mp hx).elim (a3 x) (b3 x);obtain⟨p,hp,rfl⟩:=bb.mp hx;exact⟨p.2,K.kk p hp,(K.lk hp).1⟩
  refine aF (cY (aP (aC rfl) aG.e rfl rfl)) (aF (fN (xs:=(kl.map (·.1)).map .str) (by rw[xG rfl (by unfold eF;rw[ai];have:=K.ll;omega),Jo]) (gO _)) (aF (pV (oI (bF bD (bF vn (bF (gP (aW (vl (by decide) (by decide)).e (aW (aC rfl) bN)) rfl a4 (it a)) (bF (gP (aW (vl (by decide) (by decide)).e (aW (aC rfl) bN)) rfl b4 (it b)) dU))))) rfl hd) (eW ⟨.op (ns.getD j ⟨#[]⟩) a b,Z9 (.fr,.list ((kl.map (·.1)).map .str)),?_,rfl,⟨⟨a1,b1⟩,kn,by rw[h.op];omega,a2,b2⟩,?_⟩)))
  .show _=RW xs ns (ds++[nZ (ns.getD j ⟨#[]⟩) a b]) kl ((o+if("open":Str)="open"then 1 else 0:Nat):Int) _ _ _ _ _;rw[qe rfl];rfl
  .rw[qe (by omega)];exact .tail _ (.head _)
 .have hq4:q<4:=by
   rw[j2,decide_eq_true_eq,decide_eq_true_eq]at Jv;omega
  obtain⟨t,t1,t2,t3⟩:=Jr K (ds:=cut L (Z9 2) Z8) (B:=1+L.getD (1:Int).toNat 0%6) (j:=1) (by omega) (by omega);refine aF (pV (oI (bF bD (bF vn (bF (gP (aW vs (aW (aC rfl) (aW (aP aG.e (aP (vl (by decide) (by decide)).e aG.e (dC (by decide)) rfl).e rfl rfl).e (aW pU.e bN)))) rfl t3 t.ie) dU)))) rfl hd) (eW ⟨.gS Z6 (ns.getD j ⟨#[]⟩) t,z08 u9,rfl,rfl,⟨t1.1,t1.2,by have:=xF t;omega,by omega⟩,?_⟩);rw[qe hq4];exact .tail _ (.tail _ (.head _))
 .have xH:3<q:=qj xH;obtain⟨t,t1,t2,t3⟩:=To K (ds:=cut L (Z9 2) Z8) (B:=1+L.getD (1:Int).toNat 0%3) (j:=0) (by omega) (by omega);have d1:=t1.2.1;have d2:=t1.2.2;refine aF (pV (oI (bF bD (bF vn (bF (gP (aW vs (aW (aC rfl) (aW (aP aG.e (aP (vl (by decide) (by decide)).e aG.e (dC (by decide)) rfl).e rfl rfl).e (aW pU.e bN)))) rfl t3 t.ie) dU)))) rfl hd) (eW ⟨.gS Z7 (ns.getD j ⟨#[]⟩) t,z08 u9,rfl,rfl,⟨t1.1.1,t1.1.2,by omega,by omega⟩,?_⟩);rw[qf (by omega)];rfl
 .have xH:¬3<q:=of_decide_eq_false xH;refine aF (pV (oI (bF bD (bF vn dU))) rfl hd) (eW ⟨.fa (ns.getD j ⟨#[]⟩),z08 u9,rfl,rfl,trivial,?_⟩);rw[qe (by omega)];exact .head _
theorem DO {Κ:List D}{Φ:List Fn}{ρ:Rho}{a b:C}{n s:Str}(ha:Vv Κ Φ a ρ (.str n))(hb:Vv Κ Φ b ρ (.str s)):aE Κ Φ (.d1 a b) ρ=.ok (.fr,.dict (eF [(n,s)])):=by show(aE Κ Φ a ρ>>=λx=>aE Κ Φ b ρ>>=λy=>if jY x.2&&imm y.2 then Res.ok (G.fr,PyData.dict [(x.2,y.2)])else .no)=_;rw[ha.1,Res.aB,hb.1,Res.aB];rfl
theorem Tw {Φ:List Fn}{ρ aN:Rho}{c:C}{p q rest:S}{Q:Res Out->Prop}(h:aH [] Φ (.seq (.aX c p q) .nil) ρ=.ok (.nx aN))(k:Q (aH [] Φ rest aN)):Q (aH [] Φ (.seq (.aX c p q) rest) ρ):=by
 cases e:aH [] Φ (.aX c p q) ρ with
 |ok o=>
  cases o with
  |nx cR=>rw[lH e rfl]at h;have h:Res.ok (Out.nx cR)=Res.ok (Out.nx aN):=h;cases h;exact aF e k
  |rt g d=>rw[eB e]at h;cases h
  |_=>rw[yQ,e]at h;cases h
 |_=>rw[yQ,e]at h;cases h
theorem Tx {Κ:List D}{Φ:List Fn}{ρ:Rho}:Vv Κ Φ (.neg (.int 1)) ρ (.int (-1)):=⟨rfl,rfl⟩
theorem zuk {Κ:List D}{Φ:List Fn}{ρ:Rho}{g:G}{Q:Res Out->Prop}{β:Type}{i j:Nat}{it:C}{p rest:S}{m1 m2:β->D}{xs:List β}{ρ1:Rho}(h:evF Κ Φ it ρ=.ok (g,xs.map (fun x=>.tuple [m1 x,m2 x]),ρ1))(h1:∀x,imm (m1 x)=Z7)(h2:∀x,imm (m2 x)=Z7)(I:List β->Rho->Prop)(h0:I [] ρ1)
  (hf:∀pre x post ρ,xs=pre++x::post->I pre ρ->Nx (I (pre++[x])) (aH Κ Φ p ((ρ.set i (Z9 (.al,m1 x))).set j (Z9 (.al,m2 x))))) (hk:∀aN,I xs aN->Q (aH Κ Φ rest aN)):Q (aH Κ Φ (.seq (.bH (.tp [i,j]) it p) rest) ρ):=
 znk h I h0 (λpre x post ρ hx hI=>by obtain⟨aN,e,z⟩:=hf pre x post ρ hx hI;exact⟨_,aN,QE (h1 x) (h2 x),e,z⟩) hk
theorem Tz (xs:List Int)(hx:xs.length<=63):∃rs ds,Ac 2 rs ds/\rs.length<=24/\rs≠[]/\uE [.list (xs.map .int)]=.ok (.fr,.list ds):=by
 let Q:Res Out->Prop:=λr=>∃rs ds,Ac 2 rs ds/\rs.length<=24/\rs≠[]/\r=.ok (.rt .fr (.list ds))
 suffices h:Q (aH [] PR zh [Z9 (.od,.list (xs.map .int)),Z8,Z8,Z8,Z8,Z8,Z8,Z8,Z8,Z8]) by obtain⟨rs,ds,h1,h2,h3,h4⟩:=h;exact⟨rs,ds,h1,h2,h3,gB h4⟩
 unfold zh;have pl:∀c:Int,∃ns,Np ns/\nX [.int c]=.ok (.fr,.list (ns.map .str)):=R8;obtain⟨TB,N0,e0⟩:=pl 0;refine aF (fN (uw (aW aG.e bN) rfl e0) (gO _)) ?_
 suffices fin:∀ns,Np ns->Q (aH [] PR _ [Z9 (.od,.list (xs.map .int)),Z9 (.fr,.list (ns.map .str)),Z8,Z8,Z8,Z8,Z8,Z8,Z8,Z8]) by refine xx (aS (k:=decide ((0:Int)<xs.length)) (cU (k:=decide ((0:Int)<xs.length)) (fE (aW (aC rfl) bN) (RT xs) rfl).e aG.e rfl).e rfl) (λh=>?_) λ_=>fin TB N0;have h:(0:Int)<xs.length:=qj h;obtain⟨ns,N,e⟩:=pl (xs.getD (0:Int).toNat 0);exact aF (fN (uw (aW (aR (aC rfl) aG.e (ur (by decide) h) rfl).e bN) rfl e) (gO _)) (eW (fin ns N))
 intro ns N;have hl:=N.1;have vn:∀{u2:Option GD},Vv [] PR (.ix (.var 1) (.int 26)) [Z9 (.od,.list (xs.map .int)),Z9 (.fr,.list (ns.map .str)),u2,Z8,Z8,Z8,Z8,Z8,Z8,Z8] (.str (ns.getD 26 ⟨#[]⟩)):=aR (aC rfl) aG.e (uq (i:=26) (by decide) (by omega)) rfl;have TC:NW (ns.getD 26 ⟨#[]⟩):=N.2.1 _ (by rw[getD_at (by omega)];exact fh _);refine aF (fN (iI (ds:=[(Rwq.fa (ns.getD 26 ⟨#[]⟩)).d []]) (bF (oI (bF bD (bF vn dU))) dU)) rfl) (aF (Qz (DO vn bD) rfl) (aF (cY aG) ?_));have r0:RI ns 0 [.fa (ns.getD 26 ⟨#[]⟩)] [(Rwq.fa (ns.getD 26 ⟨#[]⟩)).d []] [(ns.getD 26 ⟨#[]⟩,"fact")] 0:=by have ac:Ac 2 ([]++[.fa (ns.getD 26 ⟨#[]⟩)]) ([]++[(Rwq.fa (ns.getD 26 ⟨#[]⟩)).d (bW [])]):=Ac.snoc .nil TC nofun trivial;refine⟨ac,rfl,⟨ac.nw.1,ac.nw.2,by show 1<=24;decide,List.Sublist.refl _,λp hp=>?_,nofun⟩,rfl,cn _⟩;rw[ar.mp hp];exact .head _
 have cl:(cut xs (Z9 1) (Z9 24)).length<=23:=by unfold cut;rw[tN (v:=1) (by decide),tN (v:=24) (by decide),cv];show min (min 24 xs.length-min 1 xs.length) _<=23;omega
 refine zuk (g:=.al) (m1:=λp:Int×Nat=>ZX p.2) (m2:=λp:Int×Nat=>ZX p.1) (xs:=(cut xs (Z9 1) (Z9 24)).zipIdx) ((QC (xs:=(cut xs (Z9 1) (Z9 24)).map .int) (xw (m:=ZX) (λ_=>rfl) (aC rfl) (oJ aG.e) (oJ aG.e)) rfl (QD (by rw[ai];omega))).trans (by rw[HB ZX];rfl)) (λ_=>rfl) (λ_=>rfl) (λpre ρ=>∃rs ds kl o u5 u6 u7 u8 u9,ρ=RW xs ns ds kl ((o:Nat):Int) u5 u6 u7 u8 u9/\RI ns pre.length rs ds kl o) ⟨_,_,_,0,Z8,Z8,Z8,Z8,Z8,rfl,r0⟩ ?_ ?_
 .rintro pre ⟨c,i⟩ post ρ hx ⟨rs,ds,kl,o,u5,u6,u7,u8,u9,rfl,h⟩
  have hp:=congrArg c8 hx;rw[af,am,oz]at hp
  have ei:i=pre.length:=by
   have z:(cut xs (Z9 1) (Z9 24)).zipIdx[pre.length]?=Z9 (c,i):=by rw[hx,cf (ah _),jr];rfl
   rw[List.getElem?_zipIdx]at z;cases e:(cut xs (Z9 1) (Z9 24))[pre.length]? with
   |none=>rw[e]at z;cases z
   |some y=>rw[e]at z;simp at z;omega
  subst ei;have hj:pre.length<23:=by omega
  have el:(pre++[(c,pre.length)]).length=pre.length+1:=by simp
  rw[el];show Nx _ (aH [] PR _ (RW xs ns ds kl ((o:Nat):Int) (Z9 (.al,.int (pre.length:Int))) (Z9 (.al,.int c)) u7 u8 u9));obtain⟨L,hL,eL⟩:=Td (c+2*104729*(pre.length:Int)*(pre.length:Int));refine aF (fN (uw (aW (aP (aC rfl) (aP (aP (aP aG.e aG.e rfl rfl).e (aC rfl) (lI (by omega)) rfl).e (aC rfl) (lI (by omega)) rfl).e rfl rfl).e (aW aG.e bN)) rfl eL) (CH _)) (aF (cY (aP (aR (aC rfl) aG.e (ur (i:=0) (by decide) (by omega)) rfl).e aG.e (dC (by decide)) rfl)) ?_);obtain⟨aN,e,r,v9,rfl,hn,ok,hk⟩:=zqq (xs:=xs) (c:=c) h N hj hL u9;refine Tw e ?_;have fr:=(h.new N hj).2;have TF:ns.getD pre.length ⟨#[]⟩∉kl.map (·.1):=λz=>fr ((h.kd.sb.map _).subset z);have vi:Vv [] PR (.ix (.ix (.var 2) (.neg (.int 1))) (.int 0)) (RW xs ns (ds++[r.d (bW rs)]) kl ((o+if r.kd=("open":Str)then 1 else 0:Nat):Int) (Z9 (.al,.int (pre.length:Int))) (Z9 (.al,.int c)) (Z9 (.fr,.list (L.map .int))) (Z9 (.al,.int (L.getD 0 0%6))) v9) (.str r.kd):=aR (aR (aC rfl) (Tx).e Ts r.im).e aG.e (by cases r<;>rfl) rfl;refine oP (aS (k:=decide (L.getD 0 0%6<4)) (cU (k:=decide (L.getD 0 0%6<4)) (aC rfl) aG.e rfl).e rfl) (λhc=>?_) λhc=>eW ⟨rs++[r],_,kl,_,_,_,_,_,v9,rfl,h.add N hj hn ok (.inr rfl)⟩;rw[qe (qj hc)]at hk;refine aF (QB vi (aR (aC rfl) (aC rfl) (uq (i:=(pre.length:Int)) (by omega) (by omega)) rfl).e rfl (by unfold eF;rw[ai];have:=h.kd.ll;unfold LIM;omega)) (eW ⟨rs++[r],_,kl++[(r.nm,r.kd)],_,Z9 (.al,.int (pre.length:Int)),Z9 (.al,.int c),Z9 (.fr,.list (L.map .int)),Z9 (.al,.int (L.getD 0 0%6)),z08 v9,?_,h.add N hj hn ok (.inl ⟨hk,rfl⟩)⟩);have ek:dput (eF kl) (.str (ns.getD ((pre.length:Int)).toNat ⟨#[]⟩)) (.str r.kd)=eF (kl++[(ns.getD pre.length ⟨#[]⟩,r.kd)]):=Tq TF;rw[hn,ek];rfl
 .rintro ρ ⟨rs,ds,kl,o,u5,u6,u7,u8,u9,rfl,h⟩
  have e:=congrArg c8 h.nm;rw[ai,am,cv]at e;unfold bW at e;rw[ai]at e;rw[oz]at e;exact⟨rs,ds,h.ac,by omega,λz=>by rw[z]at e;simp at e,eB (z8x rfl)⟩
def Tr.tx:Tr->Str
 |.bV n f=>n++(" >= ":Str)++f
 |.cJ n=>n
 |.un u t=>dJ u++(" ":Str)++t.tx
 |.two o a b=>("( ":Str)++a.tx++(" ":Str)++opS o++(" ":Str)++b.tx++(" )":Str)
theorem DP (u:tM):(dJ u).length<=4:=by cases u<;>decide
def Tr.wt:Tr->Nat
 |.bV _ _=>70
 |.cJ _=>70
 |.un _ t=>t.wt+5
 |.two _ a b=>a.wt+b.wt
theorem zJ:∀t:Tr,t.wt<=70*t.nd
 |.bV _ _=>ah _
 |.cJ _=>ah _
 |.un _ t=>by show t.wt+5<=70*(t.nd+1);have:=zJ t;omega
 |.two _ a b=>by show a.wt+b.wt<=70*(a.nd+b.nd);have:=zJ a;have:=zJ b;omega
theorem DQ (o:Bool):(opS o).length<=3:=by cases o<;>decide
theorem zK (c:d<=41)(hs:∀w∈ns,w.length<=13):∀{t:Tr},t.q8 d ns->t.tx.length+10<=t.wt
 |.bV w f,h=>by show(w++(" >= ":Str)++f).length+10<=70;rw[cT,cT];have:=hs w h.1;have:=h.2.1;have e:(" >= ":Str).length=4:=rfl;omega
 |.cJ w,h=>by show w.length+10<=70;have:=hs w h;omega
 |.un u t,h=>by show(dJ u++(" ":Str)++t.tx).length+10<=t.wt+5;rw[cT,cT];have:=zK c hs (t:=t) h;have g:=DP u;have i:(" ":Str).length=1:=rfl;omega
 |.two o a b,h=>by show(("( ":Str)++a.tx++(" ":Str)++opS o++(" ":Str)++b.tx++(" )":Str)).length+10<=a.wt+b.wt;rw[cT,cT,cT,cT,cT,cT];have:=zK c hs h.1;have:=zK c hs h.2;have:=DQ o;have g:("( ":Str).length=2:=rfl;have i:(" ":Str).length=1:=rfl;have j:(" )":Str).length=2:=rfl;omega
theorem gF:∀{a b:List Str},a≠[]->b≠[]->cW [z] (a++b)=cW [z] a++[z]++cW [z] b
 | [],_,h,_=>absurd rfl h
 | [x],[],_,h=>absurd rfl h
 | [x],y::b,_,_=>by
  show cW [z] (x::y::b)=_;rw[fO];have:cW [z] [x]=x.cps.toList:=by show x.cps.toList++[]=_;rw[br]
  rw[this];simp
 |x::y::a,b,_,h=>by show cW [z] (x::y::(a++b))=_;rw[fO,fO,show y::(a++b)=(y::a)++b from rfl,gF (z:=z) (a:=y::a) (by simp) h];simp
theorem oQ:∀t:Tr,t.ws≠[]
 |.bV _ _=>by simp[Tr.ws]
 |.cJ _=>by simp[Tr.ws]
 |.un _ _=>by simp[Tr.ws]
 |.two _ _ _=>by simp[Tr.ws]
theorem kJ (z:List Nat)(x:Str):cW z [x]=x.cps.toList:=by show x.cps.toList++[]=_;rw[br]
theorem iY:∀t:Tr,t.tx.cps.toList=cW [32] t.ws
 |.bV n f=>by show(n++(" >= ":Str)++f).cps.toList=cW [32] [n,">=",f];rw[eI,eI,fO,fO,kJ,show(" >= ":Str).cps.toList=[32,62,61,32]from rfl,show(">=":Str).cps.toList=[62,61]from rfl];simp
 |.cJ n=>by show n.cps.toList=cW [32] [n];rw[kJ]
 |.un u t=>by show(dJ u++(" ":Str)++t.tx).cps.toList=cW [32] ([dJ u]++t.ws);rw[eI,eI,gF (by simp) (oQ t),kJ,iY t];rfl
 |.two o a b=>by show(("( ":Str)++a.tx++(" ":Str)++opS o++(" ":Str)++b.tx++(" )":Str)).cps.toList=cW [32] ([("(":Str)]++(a.ws++([opS o]++(b.ws++[(")":Str)]))));rw[eI,eI,eI,eI,eI,eI,gF (by simp) (by simp),gF (oQ a) (by simp),gF (by simp) (by simp),gF (oQ b) (by simp),kJ,kJ,kJ,iY a,iY b,show("( ":Str).cps.toList=[40,32]from rfl,show(" ":Str).cps.toList=[32]from rfl,show(" )":Str).cps.toList=[32,41]from rfl,show("(":Str).cps.toList=[40]from rfl,show(")":Str).cps.toList=[41]from rfl];simp
theorem TH (t:Tr):t.tx=bM " " t.ws:=qx (by rw[iY,kH];rfl)
theorem zL (hn:∀w∈ns,Ch p1 w):∀{t:Tr},t.q8 g ns->∀w∈t.ws,∀c∈w.cps.toList,33<=c/\c<127
 |.bV n f,h,w,d=>by
  have d:w∈[n,">=",f]:=d;simp at d;rcases d with rfl|rfl|rfl
  .intro c e;have:=hn w h.1 c e;unfold p1 at this;rw[aq,decide_eq_true_eq,decide_eq_true_eq]at this;omega
  .decide
  .exact h.2.2
 |.cJ n,h,w,d=>by rw[ar.mp d];intro c e;have:=hn n h c e;unfold p1 at this;rw[aq,decide_eq_true_eq,decide_eq_true_eq]at this;omega
 |.un u t,h,w,d=>by
  rcases ao.mp d with rfl|d
  .cases u<;>decide
  .exact zL hn (t:=t) h w d
 |.two o a b,h,w,d=>by
  rcases ao.mp d with rfl|d
  .decide
  rcases a8.mp d with d|d
  .exact zL hn h.1 w d
  rcases ao.mp d with rfl|d
  .cases o<;>decide
  rcases a8.mp d with d|d
  .exact zL hn h.2 w d
  .rw[ar.mp d];decide
theorem DR {a:List Str}:((a.map Z0).any λy=>bO y (match o with|some s=>.str s|none=>.none))=decide (∃s∈a,o=Z9 s):=by
 rw[i8,iu,decide_eq_true_iff];constructor
 .rintro⟨x,b,e⟩
  obtain⟨s,hs,rfl⟩:=bb.mp b;cases o with
  |none=>cases e
  |some w=>
   rw[iU]at e;have:s=w:=by simpa using e
   exact⟨s,hs,by rw[this]⟩
 .rintro⟨s,hs,rfl⟩
  refine⟨.str s,bb.mpr ⟨s,hs,rfl⟩,?_⟩;rw[iU];simp
theorem TJ {t:Tr}(a:isn w=Z7)(hn:∀n∈t.nms,isn n=Z7):bZ isn nf (("word":Str)::w::("if":Str)::t.ws) ks []=if(t.dp<=8/\t.ok nf=Z7)/\t.wf Z6=Z7 then Z9 (.tuple [.str "word",.str w,t.lk nf ks],3+t.ws.length,t.sy)else none:=by
 unfold bZ cH;have hd:eM isn (("word":Str)::w::("if":Str)::t.ws) 1=true:=by unfold eM;rw[show Mi.pk (("word":Str)::w::("if":Str)::t.ws) 1=w from rfl,a];rfl
 have r:=zhy (nf:=nf) (ks:=ks) (tL dc) (show isn "("=Z6 by decide+kernel) (tL dc) (tL dc) (ws:=("word":Str)::w::("if":Str)::t.ws) t Z6 8 3 [] [] (by rw[br];rfl) hn (by rw[zA];decide);have r:z18 isn nf (("word":Str)::w::("if":Str)::t.ws) ks 8 3 []=_:=r;rw[qe hd,r];by_cases h:(t.dp<=8/\t.ok nf=Z7)/\t.wf Z6=Z7
 .rw[qe h,qe h];show(if 3+t.ws.length<(("word":Str)::w::("if":Str)::t.ws).length then Z8 else Z9 _)=_;rw[qf (by grind)];rfl
 .rw[qf h,qf h];rfl
theorem TL {t:Tr}(a:isn w=Z7)(hn:∀n∈t.nms,isn n=Z7):bZ isn nf (("claim":Str)::w::("if":Str)::t.ws) ks []=if(t.dp<=8/\t.ok nf=Z7)/\t.wf Z7=Z7 then Z9 (.tuple [.str "claim",.str w,t.lk nf ks],3+t.ws.length,t.sy)else none:=by
 unfold bZ cH;rw[show Mi.pk (("claim":Str)::w::("if":Str)::t.ws) 0="claim"from rfl,qf dc,qf dc,qf dc,qe rfl];have hd:eM isn (("claim":Str)::w::("if":Str)::t.ws) 1=true:=by unfold eM;rw[show Mi.pk (("claim":Str)::w::("if":Str)::t.ws) 1=w from rfl,a];rfl
 have r:=zhy (nf:=nf) (ks:=ks) (tL dc) (show isn "("=Z6 by decide+kernel) (tL dc) (tL dc) (ws:=("claim":Str)::w::("if":Str)::t.ws) t Z7 8 3 [] [] (by rw[br];rfl) hn (by rw[zA];decide);have r:z1n isn nf (("claim":Str)::w::("if":Str)::t.ws) ks 8 3 []=_:=r;rw[qe hd,r];by_cases h:(t.dp<=8/\t.ok nf=Z7)/\t.wf Z7=Z7
 .rw[qe h,qe h];show(if 3+t.ws.length<(("claim":Str)::w::("if":Str)::t.ws).length then Z8 else Z9 _)=_;rw[qf (by grind)];rfl
 .rw[qf h,qf h];rfl
theorem uI {ks:List (Str×Str)}{n s:Str}(h:lkG ks n=Z9 s):(n,s)∈ks:=by unfold lkG at h;obtain⟨p,hp,rfl⟩:=dg.mp h;have e:=List.find?_some hp;have e:p.1=n:=qj e;rw[<-e];exact kr hp
theorem zM {ks:List (Str×Str)}{n s:Str}(h:lkG ks n=Z9 s):n∈ks.map (·.1):=bb.mpr ⟨_,uI h,rfl⟩
theorem tO {lo:Int}{ks:List (Str×Str)}(h0:1<=lo):∀{t:Tr},t.kn lo ks->t.q8 40 (ks.map (·.1))/\t.ok dW=Z7/\∀n∈t.nms,n∈ks.map (·.1)
 |.bV n f,⟨h,k,a,b,e⟩=>by subst e;exact⟨⟨zM h,Jb (by omega) (by omega)⟩,S4 (by omega) b,λx hx=>by rw[ar.mp hx];exact zM h⟩
 |.cJ n,⟨s,_,h⟩=>⟨zM h,rfl,λx hx=>by rw[ar.mp hx];exact zM h⟩
 |.un _ t,h=>tO h0 (t:=t) h
 |.two _ a b,h=>by obtain⟨a1,a2,a3⟩:=tO h0 h.1;obtain⟨b1,b2,b3⟩:=tO h0 h.2;exact⟨⟨a1,b1⟩,by show(a.ok dW&&b.ok dW)=Z7;rw[a2,b2];rfl,λx hx=>(a8.mp hx).elim (a3 x) (b3 x)⟩
theorem zN {lo:Int}{ks:List (Str×Str)}:∀{t:Tr} (rest:List D),t.kn lo ks->bI ks (t.sy++rest)=bI ks rest
 |.bV n f,rest,⟨h,_⟩=>by show(if(([("fact":Str)].map Z0).any λy=>bO y (match lkG ks n with|some s=>.str s|none=>.none))=Z7 then bI ks rest else Z9 n)=_;rw[DR,qe (qk ⟨_,.head _,h⟩)]
 |.cJ n,rest,⟨s,hs,h⟩=>by show(if((qC.map Z0).any λy=>bO y (match lkG ks n with|some s=>.str s|none=>.none))=Z7 then bI ks rest else Z9 n)=_;rw[DR,qe (qk ⟨_,hs,h⟩)]
 |.un _ t,rest,h=>zN (t:=t) rest h
 |.two _ a b,rest,h=>by show bI ks (a.sy++b.sy++rest)=_;rw[c9,zN _ h.1,zN _ h.2]
theorem Jw {ks:List (Str×Str)}:∀{L:List Str},(∀n∈L,∃s∈qC,lkG ks n=Z9 s)->bI ks (L.map λw=>dQ w OFT)=Z8
 | [],_=>rfl
 |n::L,h=>by obtain⟨s,hs,e⟩:=h n (.head _);show(if((qC.map Z0).any λy=>bO y (match lkG ks n with|some s=>.str s|none=>.none))=Z7 then bI ks (L.map λw=>dQ w OFT)else Z9 n)=_;rw[DR,qe (qk ⟨_,hs,e⟩)];exact Jw λn hn=>h n (.tail _ hn)
def Rwq.tx (r:Rwq):Str:=bM " " r.ws
theorem DS (k a:Str)(t:Tr):bM " " (k::a::("if":Str)::t.ws)=k++(" ":Str)++a++" if "++t.tx:=(qx (by
 rw[eI,eI,eI,eI,kH,qB,iY,fO,fO];have:cW [32] (("if":Str)::t.ws)=("if":Str).cps.toList++[32]++cW [32] t.ws:=by rw[<-kJ [32] "if"];exact gF (a:=[("if":Str)]) (by simp) (oQ t)
 rw[this,show(" if ":Str).cps.toList=32::(("if":Str).cps.toList++[32])from by decide+kernel];simp)).symm
theorem TM (k a:Str)(t:Tr):bM " " [k,a,"if",t.tx]=bM " " (k::a::("if":Str)::t.ws):=qx (by
 rw[kH,kH,qB,fO,fO,fO,kJ,fO,fO,iY];have:cW [32] (("if":Str)::t.ws)=("if":Str).cps.toList++[32]++cW [32] t.ws:=by rw[<-kJ [32] "if"];exact gF (a:=[("if":Str)]) (by simp) (oQ t)
 rw[this];simp)
theorem xI:∀x∈(["fact","open","for","against","word","if","claim"]:List Str),Wd x:=by
 have h:∀x∈(["fact","open","for","against","word","if","claim"]:List Str),x.cps.toList.all ac=Z7/\32∉x.cps.toList/\x.length<=13:=by decide+kernel
 exact λx hx=>⟨Sh (h x hx).1,(h x hx).2.1,(h x hx).2.2⟩
theorem zO (m:Bool):fP m∈(["fact","open","for","against","word","if","claim"]:List Str):=by cases m<;>decide
theorem Jx {ns:List Str}{w:Str}{t:Tr}{m:Bool}(hn:∀w∈ns,NW w)(hw:NW w)(gl:t.q8 40 ns)(nd:t.nd<=12):spW 32 (bM " " (fP m::w::("if":Str)::t.ws))=fP m::w::("if":Str)::t.ws/\jT (bM " " (fP m::w::("if":Str)::t.ws))/\t.tx.length<=840:=by
 have hc:=zL (λw h=>(hn w h).ch) gl;have hl:=zK (by decide) (λw h=>by have:=(hn w h).l2;omega) gl;have h4:=bh (zJ t) (Nat.mul_le_mul_left 70 nd)
 have hd:∀x∈(fP m::w::("if":Str)::t.ws),iX x/\32∉x.cps.toList:=λx hx=>by
  have z:x=fP m\/x=w\/x="if"\/x∈t.ws:=by simpa only[ao]using hx
  have wd:Wd x->iX x/\32∉x.cps.toList:=λh=>⟨h.asc,h.no⟩;rcases z with rfl|rfl|rfl|z
  .exact wd (xI _ (zO m))
  .exact wd hw.wd
  .exact wd (xI _ (by decide))
  .refine⟨λc hx=>?_,λh=>by have :=hc x z 32 h;omega⟩;have:=hc x z c hx;unfold ac;rw[aq,decide_eq_true_eq];exact⟨by omega,by rw[gz,beq_eq_false_iff_ne];omega⟩
 refine⟨zr qB (λr hr=>(hd r hr).2) (by simp),⟨?_,?_⟩,by omega⟩
 .intro c hx;rw[kH,qB]at hx;rcases zu hx with rfl|⟨x,h,hx⟩
  .decide
  .exact(hd x h).1 c hx
 .rw[DS,cT,cT,cT,cT];have:=hw.l2;have:=(xI _ (zO m)).len;have a1:(" ":Str).length=1:=rfl;have a2:(" if ":Str).length=4:=rfl;omega
theorem Jy {lo:Int}{ks:List (Str×Str)}{r:Rwq}(h0:1<=lo)(hk:∀p∈ks,NW p.1)(hn:NW r.nm)(ok:r.ok lo ks):spW 32 r.tx=r.ws/\jT r.tx:=by
 have sm:∀ws:List Str,ws≠[]->ws.length<=14->(∀x∈ws,NW x\/x∈(["fact","open","for","against","word","if","claim"]:List Str))->spW 32 (bM " " ws)=ws/\jT (bM " " ws):=λws h1 h2 h3=>by have hd:∀x∈ws,Wd x:=λx hx=>(h3 x hx).elim (λh=>h.wd) (xI x);exact⟨zr qB (λr hr=>(hd r hr).no) h1,Sm (λx hx=>⟨(hd x hx).asc,(hd x hx).len⟩) h2⟩
 cases r with
 |fa n=>
  refine sm ["fact",n] (by simp) (by show 2<=14;decide) λx hx=>?_;simp only[ao,bw,or_false]at hx;rcases hx with rfl|rfl
  .exact .inr (by decide)
  .exact .inl hn
 |op n a b=>
  refine sm (kI n a b) (by unfold kI;simp) (by rw[DG];have:=ok.2.2.2;omega) λx hx=>?_;have z:x="open"\/x=n\/x="for"\/x∈a\/x="against"\/x∈b:=by unfold kI at hx;simpa only[ao,a8]using hx
  have kn:∀x∈a++b,NW x:=λx hx=>by obtain⟨s,_,e⟩:=ok.2.1 x hx;exact hk _ (uI e)
  rcases z with rfl|rfl|rfl|z|rfl|z
  .exact .inr (by decide)
  .exact .inl hn
  .exact .inr (by decide)
  .exact .inl (kn x (de _ z))
  .exact .inr (by decide)
  .exact .inl (kn x (ba _ z))
 |gS m n t=>
  have g:=tO h0 ok.1;have xJ:∀w∈ks.map (·.1),NW w:=λw hw=>by obtain⟨p,hp,rfl⟩:=bb.mp hw;exact hk p hp
  obtain⟨a,b,_⟩:=Jx (m:=m) xJ hn g.1 ok.2.2.2;exact⟨a,b⟩
theorem TQ {lo:Int}{ks:List (Str×Str)}{r:Rwq}(h0:1<=lo)(hk:∀p∈ks,NW p.1)(hn:NW r.nm)(ok:r.ok lo ks):∃p sd,bZ isn dW r.ws ks []=Z9 (r.d ks,p,sd)/\bI ks sd=Z8/\Mi.pk r.ws 1=r.nm/\Mi.pk r.ws 0=r.kd:=by
 have TR:∀{x s:Str},lkG ks x=Z9 s->isn x=true:=λh=>zx (hk _ (uI h));have uC:=zx hn;cases r with
 |fa n=>exact⟨2,[],SN uC,rfl,rfl,rfl⟩
 |op n a b=>
  have kn:∀x∈a++b,isn x=true:=λx hx=>by obtain⟨s,_,e⟩:=ok.2.1 x hx;exact TR e
  have e:=zl9 (nf:=dW) (ks:=ks) uC (λx hx=>kn x (de _ hx)) (λx hx=>kn x (ba _ hx)) (show cntO ks≠4 by have:=ok.2.2.1;omega);rw[qe ok.1]at e;exact⟨_,_,e,Jw ok.2.1,rfl,rfl⟩
 |gS m n t=>
  have g:=tO h0 ok.1;have gn:∀x∈t.nms,isn x=true:=λx hx=>by obtain⟨p,hp,rfl⟩:=bb.mp (g.2.2 x hx);exact zx (hk p hp)
  have u:bI ks t.sy=none:=by have:=zN [] ok.1;rw[br]at this;exact this
  cases m with
  |false=>have e:=TJ (nf:=dW) (ks:=ks) uC gn;rw[qe ⟨⟨ok.2.2.1,g.2.1⟩,ok.2.1⟩]at e;exact⟨_,_,e,u,rfl,rfl⟩
  |true=>have e:=TL (nf:=dW) (ks:=ks) uC gn;rw[qe ⟨⟨ok.2.2.1,g.2.1⟩,ok.2.1⟩]at e;exact⟨_,_,e,u,rfl,rfl⟩
theorem xK {lo:Int}(h0:1<=lo){rs:List Rwq}{ds:List D}(h:Ac lo rs ds):rs.length<=24->(∀r∈rs,jT r.tx)/\∀rest:List Str,iJ isn dW 0 [] [] (rs.map Rwq.tx++rest)=iJ isn dW rs.length ds (bW rs) rest:=by
 induction h with
 |nil=>exact λ_=>⟨nofun,λ_=>rfl⟩
 | @snoc rs ds r ac hn hf ok ih=>intro hl;rw[af]at hl;have hl:rs.length+1<=24:=hl;obtain⟨i1,i2⟩:=ih (by omega);obtain⟨s1,s2⟩:=Jy h0 ac.nw.2 hn ok;refine⟨λx hx=>(a8.mp hx).elim (i1 x) λz=>by rw[ar.mp z];exact s2,λrest=>?_⟩;obtain⟨p,sd,e1,e2,e3,e4⟩:=TQ h0 ac.nw.2 hn ok;rw[bn,c9,i2];show iJ isn dW rs.length ds (bW rs) (r.tx::rest)=_;rw[SM (by omega) s1 e1 (by rw[e3];exact SO hf) e2,e3,e4,rg,af];rfl
theorem Jz (u:tM):decide (dJ u=("at":Str))=Z6/\decide (dJ u=("is":Str))=false:=by cases u<;>decide
theorem JA (o:Bool):decide (opS o=("at":Str))=Z6/\decide (opS o=("is":Str))=false:=by cases o<;>decide
theorem DT {Φ:List Fn}{ρ:Rho}{a:C}{ss:List Str}(h:Aa [] Φ a ρ (ss.map .str))(hl:∀s∈ss,s.length<=1800)(hn:ss.length<=30):Vv [] Φ (.mt "join" (.str " ") (.cons (.lst a) .nil)) ρ (.str (bM " " ss)):=lJ bD.e (aW (SG h) bN) (xv (zw (n:=1800) rfl hl (by decide) hn)) rfl
theorem JB (w:Str):cmpD .In (.str w) (.tuple [.str "and",.str "or"])=.ok (decide (w="and"\/w="or")):=by
 show(inD (.str w) (.tuple [.str "and",.str "or"]))=_;show Res.ok (bO (.str "and") (.str w)||(bO (.str "or") (.str w)||Z6))=_;rw[iU,iU,Bool.or_false]
 congr 1
 rw[i8,j2,decide_eq_true_iff,decide_eq_true_iff,decide_eq_true_iff];exact⟨λh=>h.imp Eq.symm Eq.symm,λh=>h.imp Eq.symm Eq.symm⟩
theorem TU {ks:List (Str×Str)}:∀(t:Tr) (k:Nat),t.kn 2 ks->t.dp<=k->t.tx.length<=840->bK k [t.e ks]=.ok (.fr,.str t.tx):=by
 have at_:∀(k:Nat) (n:Str) (i:Int),1<=i->i<=1000000000000000000000000000000->n.length<=840->bK (k+1) [.tuple [.str "at",.str n,.int i]]=.ok (.fr,.str (if i=1 then n else bM " " [n,">=",dec i])):=λk n i i0 i1 hl=>by
  show aZ [] [bK k] 2 eE _=_;refine gB ?_;show aH [] [bK k] eE [Z9 (.od,.tuple [.str "at",.str n,.int i]),Z8]=_;unfold eE;have hd:=(Jb (i:=i) (by omega) (by omega)).1;refine lH (cY (d:=.str "at") (aR (aC rfl) aG.e rfl rfl)) (lK (aS (cU (k:=decide (("at":Str)="is")) (aC rfl) bD.e (eT _ _)).e rfl) (by decide) (oK (aS (cU (k:=decide (("at":Str)="at")) (aC rfl) bD.e (eT _ _)).e rfl) (by decide) ?_))
  have e:=Qy (Κ:=[]) (Φ:=[bK k]) (ρ:=[Z9 (.od,.tuple [.str "at",.str n,.int i]),Z9 (.al,.str "at")]) (c:=.tv (.cmp .Eq (.ix (.var 0) (.int 2)) (.int 1))) (a:=.ix (.var 0) (.int 1)) (b:=.mt "join" (.str " ") (.cons (.lst (.cons (.ix (.var 0) (.int 1)) (.cons (.str ">=") (.cons (.bi "str" (.cons (.ix (.var 0) (.int 2)) .nil)) .nil)))) .nil)) (k:=decide (i=1)) (tI (aR (aC rfl) aG.e rfl rfl).e) (λ_=>aR (d:=.str n) (aC rfl) aG.e rfl rfl) (λ_=>DT (ss:=[n,">=",dec i]) (aW (aR (aC rfl) aG.e rfl rfl).e (aW bD.e (aW (fE (aW (aR (aC rfl) aG.e rfl rfl).e bN) (S5 (by omega) (by omega)) rfl).e bN))) (λs hs=>by
   simp only[ao,bw,or_false]at hs;rcases hs with rfl|rfl|rfl
   .omega
   .decide
   .omega) (by show 3<=30;decide))
  refine eB ((fF e).trans ?_);by_cases h:i=1
  .rw[qe h,qe (qk h)]
  .rw[qf h,qf (by rw[ql h];decide)]
 intro t
 induction t with
 |bV n f=>
  intro k ⟨_,i,i0,i1,e⟩ hk hl;subst e;obtain _|k:=k
  .exact absurd hk (by unfold Tr.dp;omega)
  have ee:(Tr.bV n (dec i)).e ks=.tuple [.str "at",.str n,.int i]:=by show ZY [.str "at",.str n,.int ((dW (dec i)).getD 0)]=_;rw[DM (by omega) i1];rfl
  have nl:n.length<=840:=by unfold Tr.tx at hl;rw[cT,cT]at hl;omega
  rw[ee,at_ k n i (by omega) i1 nl,qf (by omega),TH];rfl
 |cJ n=>
  intro k jB hk hl;obtain _|k:=k
  .exact absurd hk (by unfold Tr.dp;omega)
  by_cases h:lkG ks n=Z9 ("fact":Str)
  .have ee:(Tr.cJ n).e ks=.tuple [.str "at",.str n,.int 1]:=qe h;rw[ee,at_ k n 1 (by decide) (by decide) hl,qe rfl];rfl
  .have ee:(Tr.cJ n).e ks=.tuple [.str "is",.str n]:=qf h;rw[ee];show aZ [] [bK k] 2 eE _=_;refine gB ?_;show aH [] [bK k] eE [Z9 (.od,.tuple [.str "is",.str n]),Z8]=_;unfold eE;exact lH (cY (d:=.str "is") (aR (aC rfl) aG.e rfl rfl)) (oK (aS (cU (k:=decide (("is":Str)="is")) (aC rfl) bD.e (eT _ _)).e rfl) (by decide) (eB (fF (aR (aC rfl) aG.e rfl rfl))))
 |un u t ih=>
  intro k jB hk hl;obtain _|k:=k
  .exact absurd hk (by unfold Tr.dp;omega)
  show aZ [] [bK k] 2 eE [.tuple [.str (dJ u),t.e ks]]=_;refine gB ?_;show aH [] [bK k] eE [Z9 (.od,.tuple [.str (dJ u),t.e ks]),Z8]=_;unfold eE;have tl:t.tx.length<=840:=by unfold Tr.tx at hl;rw[cT]at hl;omega
  have ih:=ih k jB (fg hk) tl
  have e:=DT (Φ:=[bK k]) (ρ:=[Z9 (.od,.tuple [.str (dJ u),t.e ks]),Z9 (.al,.str (dJ u))]) (a:=.cons (.var 1) (.cons (.call 0 "shown_part" (.cons (.ix (.var 0) (.int 1)) .nil)) .nil)) (ss:=[dJ u,t.tx]) (aW (aC rfl) (aW (gP (aW (aR (aC rfl) aG.e rfl t.ie).e bN) rfl ih rfl).e bN)) (λs hs=>by
   simp only[ao,bw,or_false]at hs;rcases hs with rfl|rfl
   .have:=DP u;omega
   .omega) (by show 2<=30;decide)
  have j:bM " " [dJ u,t.tx]=(Tr.un u t).tx:=qx (by rw[kH,qB,fO,kJ,iY (.un u t)];show _=cW [32] ([dJ u]++t.ws);rw[gF (by simp) (oQ t),kJ,iY];simp);rw[<-j];exact lH (cY (d:=.str (dJ u)) (aR (aC rfl) aG.e rfl rfl)) (lK (aS (cU (k:=decide (dJ u="is")) (aC rfl) bD.e (eT _ _)).e rfl) (Jz u).2 (lK (aS (cU (k:=decide (dJ u="at")) (aC rfl) bD.e (eT _ _)).e rfl) (Jz u).1 (lK (aS (cU (aC rfl) (oI (bF bD (bF bD dU))).e (JB _)).e rfl) (by cases u<;>decide) (eB (fF e)))))
 |two o a b ia ib=>
  intro k jB hk hl;obtain _|k:=k
  .exact absurd hk (by unfold Tr.dp;omega)
  have hd:max a.dp b.dp+1<=k+1:=hk;show aZ [] [bK k] 2 eE [.tuple [.str (opS o),a.e ks,b.e ks]]=_;refine gB ?_;show aH [] [bK k] eE [Z9 (.od,.tuple [.str (opS o),a.e ks,b.e ks]),Z8]=_;unfold eE;have x6:=hl;unfold Tr.tx at x6;rw[cT,cT,cT,cT,cT,cT]at x6;have ia:=ia k jB.1 (by omega) (by omega);have ib:=ib k jB.2 (by omega) (by omega)
  have e:=DT (Φ:=[bK k]) (ρ:=[Z9 (.od,.tuple [.str (opS o),a.e ks,b.e ks]),Z9 (.al,.str (opS o))]) (a:=.cons (.str "(") (.cons (.call 0 "shown_part" (.cons (.ix (.var 0) (.int 1)) .nil)) (.cons (.var 1) (.cons (.call 0 "shown_part" (.cons (.ix (.var 0) (.int 2)) .nil)) (.cons (.str ")") .nil))))) (ss:=["(",a.tx,opS o,b.tx,")"]) (aW bD.e (aW (gP (aW (aR (aC rfl) aG.e rfl a.ie).e bN) rfl ia rfl).e (aW (aC rfl) (aW (gP (aW (aR (aC rfl) aG.e rfl b.ie).e bN) rfl ib rfl).e (aW bD.e bN))))) (λs hs=>by
   simp only[ao,bw,or_false]at hs;rcases hs with rfl|rfl|rfl|rfl|rfl
   .decide
   .omega
   .have:=DQ o;omega
   .omega
   .decide) (by show 5<=30;decide)
  have j:bM " " ["(",a.tx,opS o,b.tx,")"]=(Tr.two o a b).tx:=qx (by rw[kH,qB,fO,fO,fO,fO,kJ];show _=(("( ":Str)++a.tx++(" ":Str)++opS o++(" ":Str)++b.tx++(" )":Str)).cps.toList;rw[eI,eI,eI,eI,eI,eI,show("( ":Str).cps.toList=[40,32]from rfl,show(" ":Str).cps.toList=[32]from rfl,show(" )":Str).cps.toList=[32,41]from rfl,show("(":Str).cps.toList=[40]from rfl,show(")":Str).cps.toList=[41]from rfl];simp);rw[<-j];exact lH (cY (d:=.str (opS o)) (aR (aC rfl) aG.e rfl rfl)) (lK (aS (cU (k:=decide (opS o="is")) (aC rfl) bD.e (eT _ _)).e rfl) (JA o).2 (lK (aS (cU (k:=decide (opS o="at")) (aC rfl) bD.e (eT _ _)).e rfl) (JA o).1 (oK (aS (cU (aC rfl) (oI (bF bD (bF bD dU))).e (JB _)).e rfl) (by cases o<;>decide) (eB (fF e)))))
theorem TV {ks:List (Str×Str)}{r:Rwq}(hk:∀p∈ks,NW p.1)(hn:NW r.nm)(ok:r.ok 2 ks):nU [r.d ks]=.ok (.fr,.str r.tx):=by
 let Q:Res Out->Prop:=λx=>x=.ok (.rt .fr (.str r.tx))
 suffices h:Q (aH [] [bK 8] qs [Z9 (.od,r.d ks),Z8])from gB h
 unfold qs;have fin:∀{g:G} {ws:List Str},bM " " ws=r.tx->(∀s∈ws,s.length<=1800)->ws.length<=30->Q (aH [] [bK 8] (.seq (.ret (.mt "join" (.str " ") (.cons (.var 1) .nil))) .nil) [Z9 (.od,r.d ks),Z9 (g,.list (ws.map .str))]):=λ{g ws} e h1 h2=>by show _=Res.ok (Out.rt .fr (.str r.tx));rw[<-e];exact eB (fF (lJ bD.e (aW (aC rfl) bN) (xv (zw (n:=1800) rfl h1 (by decide) h2)) rfl))
 have nx:∀{t:C} {ρ:Rho} {ws:List Str},Ev [] [bK 8] t ρ (.list (ws.map .str))->ρ=[Z9 (.od,r.d ks),Z8]->bM " " ws=r.tx->(∀s∈ws,s.length<=1800)->ws.length<=30->Nx (λaN=>Q (aH [] [bK 8] (.seq (.ret (.mt "join" (.str " ") (.cons (.var 1) .nil))) .nil) aN)) (aH [] [bK 8] (.seq (.asg (.nm 1) t) .nil) ρ):=λ{t ρ ws} h e e1 e2 e3=>by subst e;exact SJ h λg=>eW (fin e1 e2 e3)
 have wl:∀x∈(["fact","open","for","against","word","if","claim"]:List Str),x.length<=1800:=by decide+kernel
 have nl:∀{x:Str},NW x->x.length<=1800:=λh=>by have:=h.l2;omega
 have vh:∀w:Str,Tt [] [bK 8] (.tv (.cmp .Eq (.ix (.var 0) (.int 0)) (.str w))) [Z9 (.od,r.d ks),Z8] (decide (r.kd=w)):=λw=>aS (cU (k:=decide (r.kd=w)) (aR (d:=.str r.kd) (aC rfl) aG.e (by cases r<;>rfl) rfl).e bD.e (eT _ _)).e rfl;cases r with
 |fa n=>
  refine tJ (vh _) (λ_=>nx (ws:=["fact",n]) (Ev.of (iI (bF bD (bF (aR (d:=.str n) (aC rfl) aG.e rfl rfl) dU)))) rfl rfl (λs hs=>?_) (by show 2<=30;decide)) λz=>absurd (show decide (("fact":Str)="fact")=Z6 from z) (by decide);simp only[ao,bw,or_false]at hs;rcases hs with rfl|rfl
  .exact wl _ (by decide)
  .exact nl hn
 |op n a b=>
  refine tJ (vh _) (λz=>absurd (show decide (("open":Str)="fact")=Z7 from z) (by decide)) λ_=>tJ (Q:=Nx _) (rest:=.nil) (vh _) (λ_=>?_) λz=>absurd (show decide (("open":Str)="open")=Z6 from z) (by decide);have kn:∀x∈a++b,NW x:=λx hx=>by obtain⟨s,_,e⟩:=ok.2.1 x hx;exact hk _ (uI e)
  have la:=ok.2.2.2.1;have lb:=ok.2.2.2.2;have tl:∀{ρ:Rho} {i:Int} {c:List Str},ρ[0]?=Z9 (Z9 (.od,nZ n a b))->gH (nZ n a b) (.int i)=.ok (.tuple (c.map .str))->Ev [] [bK 8] (.hJ "list" (.tv (.ix (.var 0) (.int i)))) ρ (.list (c.map .str)):=λ{ρ i c} h e=>Ev.of (Hz (aR (aC h) aG.e e (gO c)).e rfl rfl (gO c));have ev:Ev [] [bK 8] (.bin .Add (.bin .Add (.bin .Add (.lst (.cons (.str "open") (.cons (.ix (.var 0) (.int 1)) (.cons (.str "for") .nil)))) (.hJ "list" (.tv (.ix (.var 0) (.int 2))))) (.lst (.cons (.str "against") .nil))) (.hJ "list" (.tv (.ix (.var 0) (.int 3))))) [Z9 (.od,nZ n a b),Z8] (.list ((([("open":Str),n,"for"]++a)++[("against":Str)]++b).map .str)):=DH (DH (DH (Ev.of (iI (bF bD (bF (aR (d:=.str n) (aC rfl) aG.e rfl rfl) (bF bD dU))))) (tl rfl rfl) (by show 3+_<=_;omega)) (Ev.of (iI (bF bD dU))) (by rw[af];show 3+_+1<=_;omega)) (tl rfl rfl) (by rw[af,af];show 3+_+1+_<=_;omega)
  obtain⟨aN,e,z⟩:=nx (ws:=([("open":Str),n,"for"]++a)++[("against":Str)]++b) ev rfl (by show bM " " _=bM " " (kI n a b);unfold kI;rw[c9,c9];rfl) (λs hs=>by
   have z:s="open"\/s=n\/s="for"\/s∈a\/s="against"\/s∈b:=by
    simp only[a8,ao,bw,or_false]at hs
    grind
   rcases z with rfl|rfl|rfl|z|rfl|z
   .exact wl _ (by decide)
   .exact nl hn
   .exact wl _ (by decide)
   .exact nl (kn s (de _ z))
   .exact wl _ (by decide)
   .exact nl (kn s (ba _ z))) (by simp only[af];show 3+_+1+_<=_;omega)
  exact⟨aN,e,eW z⟩
 |gS m n t=>
  have g:=tO (by decide) ok.1;have xJ:∀w∈ks.map (·.1),NW w:=λw hw=>by obtain⟨p,hp,rfl⟩:=bb.mp hw;exact hk p hp
  obtain⟨_,_,tl⟩:=Jx (m:=m) xJ hn g.1 ok.2.2.2;refine tJ (vh _) (λz=>absurd (show decide (fP m="fact")=Z7 from z) (by cases m<;>decide)) λ_=>tJ (Q:=Nx _) (rest:=.nil) (vh _) (λz=>absurd (show decide (fP m="open")=Z7 from z) (by cases m<;>decide)) λ_=>?_;have ev:Ev [] [bK 8] (.lst (.cons (.ix (.var 0) (.int 0)) (.cons (.ix (.var 0) (.int 1)) (.cons (.str "if") (.cons (.call 0 "shown_part" (.cons (.ix (.var 0) (.int 2)) .nil)) .nil))))) [Z9 (.od,(Rwq.gS m n t).d ks),Z8] (.list (([fP m,n,"if",t.tx]:List Str).map .str)):=Ev.of (iI (bF (aR (d:=.str (fP m)) (aC rfl) aG.e rfl rfl) (bF (aR (d:=.str n) (aC rfl) aG.e rfl rfl) (bF bD (bF (gP (aW (aR (aC rfl) aG.e rfl t.ie).e bN) (show[bK 8][0]?=_ from rfl) (TU t 8 ok.1 ok.2.2.1 tl) rfl) dU)))))
  obtain⟨aN,e,z⟩:=nx (ws:=[fP m,n,"if",t.tx]) ev rfl (TM _ _ _) (λs hs=>by
   simp only[ao,bw,or_false]at hs;rcases hs with rfl|rfl|rfl|rfl
   .exact wl _ (zO m)
   .exact nl hn
   .exact wl _ (by decide)
   .omega) (by show 4<=30;decide)
  exact⟨aN,e,eW z⟩
structure Zs (lo:Int)(rs:List Rwq)(ds:List D)(zs:List (List (Str×Str)×Rwq)):Prop where
 d:ds=zs.map λz=>z.2.d z.1
 r:rs=zs.map (·.2)
 ok:∀z∈zs,(∀p∈z.1,NW p.1)/\NW z.2.nm/\z.2.ok lo z.1
theorem Ac.zs {lo:Int}{rs:List Rwq}{ds:List D}(h:Ac lo rs ds):∃zs,Zs lo rs ds zs:=by
 induction h with
 |nil=>exact⟨[],rfl,rfl,nofun⟩
 | @snoc rs ds r ac hn _ ok ih=>obtain⟨zs,h⟩:=ih;refine⟨zs++[(bW rs,r)],by rw[bn,<-h.d];rfl,by rw[bn,<-h.r];rfl,λz hz=>(a8.mp hz).elim (h.ok z) λe=>?_⟩;rw[ar.mp e];exact⟨ac.nw.2,hn,ok⟩
theorem TX {rs:List Rwq}{ds:List D}(h:Ac 2 rs ds)(hl:rs.length<=24):lO [.list ds]=.ok (.fr,.str (bM "\n" (rs.map Rwq.tx))):=by
 obtain⟨zs,z⟩:=h.zs;refine gB ?_;show aH [] [nU] qt [Z9 (.od,.list ds)]=_;unfold qt;have e:=zec (Κ:=[]) (Φ:=[nU]) (ρ:=[Z9 (.od,.list ds)]) (nt:=1) (js:=[]) (N':=["row"]) (tg:=.nm 0) (it:=.tv (.var 0)) (elt:=.call 0 "shown_row" (.cons (.var 0) .nil)) (w:=(.od,ds)) (m:=λz:List (Str×Str)×Rwq=>z.2.d z.1) (xs:=zs) (λz=>z.2.tx) (fY rfl rfl) z.d (λz=>[Z9 (.al,z.2.d z.1)]) (λz _=>Dt z.2.im) λy hy=>gP (aW (aC rfl) bN) rfl (TV (z.ok y hy).1 (z.ok y hy).2.1 (z.ok y hy).2.2) rfl;have er:(zs.map λz=>z.2.tx)=rs.map Rwq.tx:=by rw[z.r,ci];rfl
 rw[er]at e;exact eB (fF (lJ bD.e (aW (Ev.of e) bN) (xv (zw (n:=1800) rfl (λr hr=>by obtain⟨x,hx,rfl⟩:=bb.mp hr;exact((xK (by decide) h hl).1 x hx).len) (by decide) (by rw[ai];omega))) rfl))
def Ex (F:List Str):List Str->List Str->Prop
 | [],M=>M=[]
 |x::v,M=>∃y M',M=y::M'/\Ex F v M'/\(y=x\/(x∈F/\Mi.pk v 0≠">="/\y=x++" >= 1"))
theorem TY {k:Int}(h0:1<=k)(h1:k<=1000000000000000000000000000000):isn (dec k)=false:=by
 obtain⟨_,b,c,_,_⟩:=DJ h0 h1;cases h:isn (dec k)with
 |false=>rfl
 |true=>
  have ch:=SA h;cases e:(dec k).cps.toList with
  |nil=>rw[e]at c;simp at c
  |cons x r=>have b:=b x (by rw[e];exact .head _);have p:=ch x (by rw[e];exact .head _);unfold iK at b;unfold p1 at p;rw[aq,decide_eq_true_eq,decide_eq_true_eq]at b p;omega
theorem TZ:isn ">="=false:=by decide+kernel
theorem T1 (u:tM):isn (dJ u)=false:=by cases u<;>decide+kernel
theorem T2 (o:Bool):isn (opS o)=false:=by cases o<;>decide+kernel
theorem JC:isn "("=Z6/\isn ")"=false:=by decide+kernel
theorem uJ {F v M:List Str}{x:Str}(hF:∀n∈F,isn n=Z7)(hx:isn x=Z6)(h:Ex F (x::v) M):∃M',M=x::M'/\Ex F v M':=by
 obtain⟨y,M',rfl,h2,rfl|⟨a,_,_⟩⟩:=h
 .exact⟨M',rfl,h2⟩
 .rw[hF x a]at hx;cases hx
theorem T3 (n:Str):cW [32] [n++(" >= 1":Str)]=cW [32] [n,">=",dec 1]:=by rw[kJ,eI,fO,fO,kJ,show(" >= 1":Str).cps.toList=[32,62,61,32,49]from rfl,show(">=":Str).cps.toList=[62,61]from rfl,show(dec 1).cps.toList=[49]from by decide+kernel];simp
theorem xM {ks:List (Str×Str)}:∀{t:Tr},t.kn 2 ks->t.kn 1 ks
 |.bV _ _,⟨h,k,a,b,e⟩=>⟨h,k,by omega,b,e⟩
 |.cJ _,h=>h
 |.un _ t,h=>xM (t:=t) h
 |.two _ _ _,h=>⟨xM h.1,xM h.2⟩
structure Lg (ks:List (Str×Str))(t t':Tr):Prop where
 kn:t'.kn 1 ks
 e:t'.e ks=t.e ks
 wf:∀m,t'.wf m=t.wf m
 dp:t'.dp=t.dp
 nd:t'.nd=t.nd
theorem zjk {F:List Str}{ks:List (Str×Str)}(hF:∀n∈F,isn n=Z7)(hk:∀n∈F,∀s,lkG ks n=Z9 s->s=("fact":Str)):∀(t:Tr) (rest M:List Str),Ex F (t.ws++rest) M->t.kn 2 ks->Mi.pk rest 0≠(">=":Str)->
  ∃t' N M',M=N++M'/\N≠[]/\cW [32] N=cW [32] t'.ws/\Ex F rest M'/\Lg ks t t':=by
 intro t
 induction t with
 |bV n f=>intro rest M h jB hr;obtain⟨_,k,k0,k1,e⟩:=id jB;obtain⟨y,M1,rfl,h1,hy⟩:=(show Ex F (n::(">=":Str)::f::rest) M from h);have hy:y=n:=hy.elim id λz=>absurd rfl z.2.1;obtain⟨M2,rfl,h2⟩:=uJ hF TZ h1;obtain⟨M3,rfl,h3⟩:=uJ hF (by rw[e];exact TY (by omega) k1) h2;exact⟨.bV n f,[n,">=",f],M3,by rw[hy];rfl,by simp,rfl,h3,xM jB,rfl,λ_=>rfl,rfl,rfl⟩
 |cJ n=>
  intro rest M h jB hr;obtain⟨y,M1,rfl,h1,rfl|⟨a,_,rfl⟩⟩:=(show Ex F (n::rest) M from h)
  .exact⟨.cJ y,[y],M1,rfl,by simp,rfl,h1,xM jB,rfl,λ_=>rfl,rfl,rfl⟩
  .obtain⟨s,_,e⟩:=id jB;have hs:=hk n a s e;subst hs;refine⟨.bV n (dec 1),[n++(" >= 1":Str)],M1,rfl,by simp,T3 n,h1,⟨e,1,by decide,by decide,rfl⟩,?_,λ_=>rfl,rfl,rfl⟩;show ZY [.str "at",.str n,.int ((dW (dec 1)).getD 0)]=if _ then _ else _
   rw[qe e,DM (by decide) (by decide)];rfl
 |un u t ih=>
  intro rest M h jB hr;obtain⟨M1,rfl,h1⟩:=uJ hF (T1 u) (show Ex F (dJ u::(t.ws++rest)) M from h);obtain⟨t',N,M',rfl,n0,nj,h2,g⟩:=ih rest M1 h1 jB hr;refine⟨.un u t',[dJ u]++N,M',rfl,by simp,?_,h2,g.kn,?_,λm=>?_,congrArg (· +1) g.dp,congrArg (· +1) g.nd⟩
  .show _=cW [32] ([dJ u]++t'.ws);rw[gF (by simp) n0,gF (by simp) (oQ t'),nj]
  .show ZY [.str (dJ u),t'.e ks]=ZY [.str (dJ u),t.e ks];rw[g.e]
  .cases u
   .exact g.wf m
   .show(m&&t'.wf Z6)=(m&&t.wf Z6);rw[g.wf]
   .show(m&&t'.wf Z6)=(m&&t.wf Z6);rw[g.wf]
 |two o a b ia ib=>
  intro rest M h jB hr
  have h:Ex F (("(":Str)::(a.ws++(opS o::(b.ws++(")":Str)::rest)))) M:=by
   have e:(Tr.two o a b).ws++rest=("(":Str)::(a.ws++(opS o::(b.ws++(")":Str)::rest))):=by simp[Tr.ws]
   rw[<-e];exact h
  obtain⟨M1,rfl,h1⟩:=uJ hF JC.1 h;obtain⟨a',Na,M2,rfl,a0,aj,h2,ga⟩:=ia _ M1 h1 jB.1 (by rw[zy];cases o<;>decide);obtain⟨M3,rfl,h3⟩:=uJ hF (T2 o) h2;obtain⟨b',Nb,M4,rfl,b0,bj,h4,gb⟩:=ib _ M3 h3 jB.2 (by rw[zy];decide);obtain⟨M5,rfl,h5⟩:=uJ hF JC.2 h4;refine⟨.two o a' b',[("(":Str)]++(Na++([opS o]++(Nb++[(")":Str)]))),M5,by simp,by simp,?_,h5,⟨ga.kn,gb.kn⟩,?_,λm=>?_,?_,?_⟩
  .show _=cW [32] ([("(":Str)]++(a'.ws++([opS o]++(b'.ws++[(")":Str)]))));rw[gF (by simp) (by simp),gF a0 (by simp),gF (by simp) (by simp),gF b0 (by simp),gF (by simp) (by simp),gF (oQ a') (by simp),gF (by simp) (by simp),gF (oQ b') (by simp),aj,bj]
  .show ZY [.str (opS o),a'.e ks,b'.e ks]=ZY [.str (opS o),a.e ks,b.e ks];rw[ga.e,gb.e]
  .show(a'.wf m&&b'.wf m)=(a.wf m&&b.wf m);rw[ga.wf,gb.wf]
  .show max a'.dp b'.dp+1=max a.dp b.dp+1;rw[ga.dp,gb.dp]
  .show a'.nd+b'.nd=a.nd+b.nd;rw[ga.nd,gb.nd]
def Pt (F v M:List Str):Prop:=M.length<=v.length/\∀i,i<M.length->M.getD i ⟨#[]⟩=v.getD i ⟨#[]⟩\/(v.getD i ⟨#[]⟩∈F/\Mi.pk v (i+1)≠">="/\M.getD i ⟨#[]⟩=v.getD i ⟨#[]⟩++" >= 1")
theorem JD {F:List Str}:∀{v M:List Str},Pt F v M->M.length=v.length->Ex F v M
 | [],M,_,hl=>dt hl
 |x::v,[],_,hl=>by cases hl
 |x::v,y::M,h,hl=>by refine⟨y,M,rfl,JD ⟨fg h.1,λi hi=>h.2 (i+1) (ly hi)⟩ (Nat.succ.inj hl),h.2 0 (Nat.succ_pos _)⟩
theorem JE {Κ:List D}{Φ:List Fn}{ρ:Rho}{a b:C}{t z:Str}{c:Nat}(ha:Ev Κ Φ a ρ (.str t))(hb:Ev Κ Φ b ρ (.str z))(hz:kU z=Z9 c)(hl:t.length<=100000):aE Κ Φ (.jF a b) ρ=.ok (.fr,.list ((spW c t).map .str)):=by
 obtain⟨g1,ha⟩:=ha;obtain⟨g2,hb⟩:=hb;rw[Qw,ha,Res.aB,hb,Res.aB];show((match kU z with|some c=>if decide (t.length<=LIM)then Res.ok (ZZ ((aV c t.cps.toList).map λl=>.str (toS l)))else .no|none=>.no)>>=λd=>Res.ok (G.fr,d))=_;rw[hz]
 dsimp only
 rw[qe (qk (show t.length<=LIM by unfold LIM;omega))];show Res.ok (G.fr,ZZ ((aV c t.cps.toList).map λl=>.str (toS l)))=_;unfold spW;rw[ci];rfl
theorem T4 {Κ:List D}{Φ:List Fn}{ρ:Rho}{a b:C}{i j n:Nat}{x:D}{xs:List D}(hv:Vv Κ Φ b ρ x)(hk:Ev Κ Φ a ρ (.int j))(hr:ρ[i]?=Z9 (Z9 (.fr,.list xs)))(hj:gZ xs.length (j:Int)=Z9 n):aH Κ Φ (.dN i a b) ρ=.ok (.nx ((ρ.set i (Z9 (.fr,.list (xs.set n x)))).map z08)):=by
 obtain⟨g1,hk⟩:=hk;rw[Hl,hv.1,Res.aB,hk,Res.aB,hr]
 dsimp only
 rw[qe (CS hv.2),hj]
theorem T5 {v:List Str}{i:Nat}:Mi.pk v i=Mi.pk (v.drop i) 0:=by unfold Mi.pk;rw[ag,ag,jb,Nat.add_zero]
theorem T6 {A w:List Str}{x:Str}{k:Nat}(hA:A.length=k):cut (A++x::w) (Z9 ((k:Int)+1)) (Z9 ((k:Int)+2))=w.take 1:=by
 unfold cut;rw[tN (v:=(k:Int)+1) (by omega),tN (v:=(k:Int)+2) (by omega),show((k:Int)+1).toNat=k+1 by omega,show((k:Int)+2).toNat=k+2 by omega];have hl:(A++x::w).length=k+1+w.length:=by rw[af,am,hA];omega
 rw[hl,Nat.min_eq_left (show k+1<=k+1+w.length by omega)];have hd:(A++x::w).drop (k+1)=w:=by rw[show A++x::w=(A++[x])++w by simp,show k+1=(A++[x]).length by simp[hA],kb]
 rw[hd];cases w with
 |nil=>simp
 |cons y w=>rw[Nat.min_eq_left (by rw[am];omega),show k+2-(k+1)=1 by omega]
theorem T7 (w:List Str):cmpD .NotEq (.list ((w.take 1).map .str)) (.list [.str ">="])=.ok (!decide (Mi.pk w 0=">=")):=by
 cases w with
 |nil=>rw[ql (show ¬Mi.pk [] 0=">=" by rw[zA];decide)];rfl
 |cons y w=>show Res.ok (!(bO (.str y) (.str ">=")&&Z7))=_;rw[iU,Bool.and_true];rfl
theorem DU {A w:List Str}{x:Str}{k:Nat}(hA:A.length=k):gH (.list ((A++x::w).map .str)) (.int (k:Int))=.ok (.str x):=by
 rw[uq (by omega) (by rw[af,am,hA];omega)]
 congr 2
 rw[ag,show(k:Int).toNat=k from rfl,cf (by omega),hA,jr];rfl
theorem T8 {A w:List Str}{x y:Str}{k:Nat}(hA:A.length=k):((A++x::w).map Z0).set k (.str y)=(A++y::w).map .str:=by rw[<-List.map_set,List.set_append_right _ _ (by omega),hA,jr];rfl
theorem zP:∀t:Tr,t.ws.length+3<=6*t.nd
 |.bV _ _=>ah _
 |.cJ _=>by show 1+3<=6;omega
 |.un _ t=>by show t.ws.length+1+3<=6*(t.nd+1);have:=zP t;omega
 |.two _ a b=>by show(a.ws++_::(b.ws++[_])).length+1+3<=6*(a.nd+b.nd);rw[af,am,af];show a.ws.length+(b.ws.length+1+1)+1+3<=_;have:=zP a;have:=zP b;omega
theorem zQ {ns:List Str}(hn:∀w∈ns,NW w):∀{t:Tr},t.q8 40 ns->∀w∈t.ws,w.length<=40
 |.bV n f,h,w,hw=>by
  have hw:w∈[n,">=",f]:=hw;simp only[ao,bw,or_false]at hw;rcases hw with rfl|rfl|rfl
  .have:=(hn w h.1).l2;omega
  .decide
  .exact h.2.1
 |.cJ n,h,w,hw=>by rw[ar.mp hw];have:=(hn n h).l2;omega
 |.un u t,h,w,hw=>by
  rcases ao.mp hw with rfl|hw
  .have:=DP u;omega
  .exact zQ hn (t:=t) h w hw
 |.two o a b,h,w,hw=>by
  rcases ao.mp hw with rfl|hw
  .decide
  rcases a8.mp hw with hw|hw
  .exact zQ hn h.1 w hw
  rcases ao.mp hw with rfl|hw
  .have:=DQ o;omega
  rcases a8.mp hw with hw|hw
  .exact zQ hn h.2 w hw
  .rw[ar.mp hw];decide
theorem DV {z:Str}{rs:List Str}{n:Nat}(hz:z.length=1)(h:∀r∈rs,r.length<=n)(hb:n*rs.length+rs.length<=100000):pB z rs<=LIM:=by unfold pB;have a:=DF h;rw[hz];unfold LIM;omega
abbrev RL (tx:Str)(F:List Str)(g2:G)(nu:Int)(L:List Str)(u4 u5 u6:Option GD):Rho:=[Z9 (.od,.str tx),Z9 (.od,.list (F.map .str)),Z9 (g2,.int nu),Z9 (.fr,.list (L.map .str)),u4,u5,u6]
abbrev T9:S:=(.seq (.asg (.nm 2) (.bin .Mod (.bin .Mult (.var 2) (.int 48271)) (.int 2147483647)))
 (.seq (.aX (.and (.tv (.cmp .In (.ix (.var 5) (.var 6)) (.var 1))) (.and (.tv (.cmp .NotEq (.sl (.var 5) (.tv (.bin .Add (.var 6) (.int 1))) (.tv (.bin .Add (.var 6) (.int 2)))) (.lst (.cons (.str ">=") .nil)))) (.tv (.cmp .Eq (.bin .Mod (.var 2) (.int 2)) (.int 0)))))
 (.seq (.dN 5 (.var 6) (.bin .Add (.ix (.var 5) (.var 6)) (.str " >= 1")))
 .nil)
 .nil)
 .nil))
theorem zk1 {tx:Str}{F:List Str}{g2:G}{nu:Int}{L:List Str}{s4:Str}{u6:Option GD}{a b c:Str}{v:List Str}(hv:∀w∈v,w.length<=40)(hl:v.length<=100):
  Nx (λρ=>∃g nu M u6,ρ=RL tx F g nu L (Z9 (.al,.str s4)) (Z9 (.fr,.list (([a,b,c]++M).map .str))) u6/\M.length=v.length/\Pt F v M) (aH [] [] (.seq (.bH (.nm 6) (.fT (.cons (.int 3) (.cons (.bi "len" (.cons (.var 5) .nil)) .nil))) T9) .nil) (RL tx F g2 nu L (Z9 (.al,.str s4)) (Z9 (.fr,.list (([a,b,c]++v).map .str))) u6)):=by
 have hr:iA [.int 3,.int ((([a,b,c]++v).length:Nat):Int)]=.ok ((ce v.length).map λ(i:Nat)=>.int (3+(i:Int))):=by
  have e:(([a,b,c]++v).length:Int)=3+v.length:=by rw[af];show((3+v.length:Nat):Int)=_;omega
  rw[e];show(if _ then _ else _)=_;rw[qe (by unfold LIM;omega),show((3:Int)+v.length-3).toNat=v.length by omega]
 refine q_nm (Q:=Nx _) (m:=λi:Nat=>.int (3+(i:Int))) (xs:=ce v.length) (wW (aW aG.e (aW (fE (aW (aC rfl) bN) (len_strs _) rfl).e bN)) hr) (λ_=>rfl) (λpre ρ=>∃g nu M u6,ρ=RL tx F g nu L (Z9 (.al,.str s4)) (Z9 (.fr,.list ((([a,b,c]++M)++v.drop M.length).map .str))) u6/\M.length=pre.length/\Pt F v M) ⟨g2,nu,[],u6,rfl,rfl,cn _,nofun⟩ ?_ ?_
 .rintro pre i post ρ hx ⟨g,nu,M,u6,rfl,hM,hp⟩
  have T':=congrArg c8 hx;rw[af,am,cg]at T'
  have ei:i=M.length:=by
   have z:(ce v.length)[pre.length]?=Z9 i:=by rw[hx,cf (ah _),jr];rfl
   rw[nz (by omega)]at z;have:=qg z;omega
  subst ei;have hi:M.length<v.length:=by omega
  obtain⟨x,w,hd⟩:∃x w,v.drop M.length=x::w:=by
   cases h:v.drop M.length with
   |nil=>have:=congrArg c8 h;rw[d5]at this;simp at this;omega
   |cons x w=>exact⟨x,w,rfl⟩
  have hw:v.drop (M.length+1)=w:=by rw[<-jq,hd];rfl
  have gx:v.getD M.length ⟨#[]⟩=x:=by have:=congrArg (λl:List Str=>l[0]?) hd;simp only[jb,Nat.add_zero]at this;rw[ag,this];rfl
  have Vy:x.length<=40:=hv x (il (i:=M.length) (by rw[hd];exact .head _));rw[hd];have hA:([a,b,c]++M).length=3+M.length:=by rw[af];rfl
  have ec:(3+(M.length:Int))=((3+M.length:Nat):Int):=by omega
  have pl:(pre++[M.length]).length=M.length+1:=by rw[af,<-hM];rfl
  refine aF (cY (aP (aP (aC rfl) aG.e (lI (by decide)) rfl).e aG.e (dC (by decide)) rfl)) ?_;generalize nu*48271%2147483647=qD;show Nx _ (aH [] [] _ (RL tx F .al qD L (Z9 (.al,.str s4)) (Z9 (.fr,.list ((([a,b,c]++M)++x::w).map .str))) (Z9 (.al,.int (3+(M.length:Int))))));rw[ec];have vx:Vv [] [] (.ix (.var 5) (.var 6)) (RL tx F .al qD L (Z9 (.al,.str s4)) (Z9 (.fr,.list ((([a,b,c]++M)++x::w).map .str))) (Z9 (.al,.int ((3+M.length:Nat):Int)))) (.str x):=aR (aC rfl) (aC rfl) (DU hA) rfl;have es:Ev [] [] (.sl (.var 5) (.tv (.bin .Add (.var 6) (.int 1))) (.tv (.bin .Add (.var 6) (.int 2)))) (RL tx F .al qD L (Z9 (.al,.str s4)) (Z9 (.fr,.list ((([a,b,c]++M)++x::w).map .str))) (Z9 (.al,.int ((3+M.length:Nat):Int)))) (.list ((w.take 1).map .str)):=by have e:=xw (Κ:=[]) (Φ:=[]) (ρ:=RL tx F .al qD L (Z9 (.al,.str s4)) (Z9 (.fr,.list ((([a,b,c]++M)++x::w).map .str))) (Z9 (.al,.int ((3+M.length:Nat):Int)))) (a:=.var 5) (b:=.tv (.bin .Add (.var 6) (.int 1))) (c:=.tv (.bin .Add (.var 6) (.int 2))) (m:=Z0) (λ_=>rfl) (aC rfl) (oJ (aP (d:=.int (((3+M.length:Nat):Int)+1)) (aC rfl) aG.e rfl rfl).e) (oJ (aP (d:=.int (((3+M.length:Nat):Int)+2)) (aC rfl) aG.e rfl rfl).e);rw[T6 hA]at e;exact Ev.of e
  refine oP (ux (aS (k:=decide (x∈F)) (cU (k:=decide (x∈F)) vx.e (aC rfl) (show cmpD .In (.str x) (.list (F.map .str))=_ from IS x F)).e rfl) λ_=>ux (aS (k:=!decide (Mi.pk w 0=">=")) (cU (k:=!decide (Mi.pk w 0=">=")) es (Ev.of (iI (bF bD dU))) (T7 w)).e rfl) λ_=>tI (aP (aC rfl) aG.e (dC (by decide)) rfl).e) (λh=>?_) λ_=>?_
  .rw[aq,aq,decide_eq_true_eq,gz,decide_eq_false_iff_not]at h;refine aF (T4 (n:=3+M.length) (v_add vx.e bD.e (by have:(" >= 1":Str).length=5:=rfl;omega)) (aC rfl) rfl ?_) (eW ⟨.al,qD,M++[x++" >= 1"],Z9 (.al,.int ((3+M.length:Nat):Int)),?_,by rw[af,pl];rfl,by rw[af];exact hi,λj hj=>?_⟩)
   .unfold gZ;rw[ai,af,hA,am,qe (by omega),qe (by omega)];rfl
   .rw[T8 hA,af];show _=RL tx F .al qD L _ (Z9 (.fr,.list (((([a,b,c]:List Str)++(M++[x++" >= 1"]))++v.drop (M.length+1)).map .str))) _;rw[hw,<-c9,c9 ([a,b,c]++M)];rfl
   .rw[af]at hj;have hj:j<M.length+1:=hj;by_cases e:j=M.length
    .subst e;refine .inr ⟨by rw[gx];exact h.1,by rw[T5,hw];exact h.2.1,?_⟩;rw[gx,ag,cf (ah _),jr];rfl
    .have :=hp.2 j (by omega);rw[show(M++[x++" >= 1"]).getD j ⟨#[]⟩=M.getD j ⟨#[]⟩ by rw[ag,ag,df (by omega)]];exact this
  .refine eW ⟨.al,qD,M++[x],Z9 (.al,.int ((3+M.length:Nat):Int)),?_,by rw[af,pl];rfl,by rw[af];exact hi,λj hj=>?_⟩
   .show _=RL tx F .al qD L _ (Z9 (.fr,.list (((([a,b,c]:List Str)++(M++[x]))++v.drop ((M++[x]).length)).map .str))) _;rw[af,show v.drop (M.length+ [x].length)=w from hw,<-c9,c9 ([a,b,c]++M)];rfl
   .rw[af]at hj;have hj:j<M.length+1:=hj;by_cases e:j=M.length
    .subst e;refine .inl ?_;rw[gx,ag,cf (ah _),jr];rfl
    .have :=hp.2 j (by omega);rw[show(M++[x]).getD j ⟨#[]⟩=M.getD j ⟨#[]⟩ by rw[ag,ag,df (by omega)]];exact this
 .rintro ρ ⟨g,nu,M,u6,rfl,hM,hp⟩
  rw[cg]at hM;refine eW ⟨g,nu,M,u6,?_,hM,hp⟩;rw[hM,jx,br]
theorem Ac.at {lo:Int}{rs:List Rwq}{ds:List D}(h:Ac lo rs ds):∀{pre:List Rwq} {r:Rwq} {post:List Rwq},rs=pre++r::post->(NW r.nm/\r.nm∉(bW pre).map (·.1)/\r.ok lo (bW pre))/\(∀p∈bW pre,NW p.1)/\ds.take (pre.length+1)=ds.take pre.length++[r.d (bW pre)]:=by
 induction h with
 |nil=>intro pre r post e;exact absurd (congrArg c8 e) (by simp)
 | @snoc rs ds r0 ac hn hf ok ih=>
  intro pre r post e;have hl:=ac.len;rcases List.eq_nil_or_concat post with rfl|⟨p',x,rfl⟩
  .obtain⟨e1,e2⟩:=List.append_inj' e rfl;obtain rfl:r0=r:=l5 e2;subst e1;refine⟨⟨hn,hf,ok⟩,ac.nw.2,?_⟩;rw[<-hl,List.take_left,jp (by simp)]
  .have e':rs++[r0]=(pre++r::p')++[x]:=by rw[e];simp
   obtain⟨e1,_⟩:=List.append_inj' e' rfl;obtain⟨a,b,c⟩:=ih e1;have hp:=congrArg c8 e1;rw[af,am]at hp;refine⟨a,b,?_⟩;rw[ed (by omega),ed (by omega)];exact c
def Ua (p:Str×Str):Bool:=decide (p.2=("fact":Str))
def jU (rs:List Rwq):List Str:=((bW rs).filter Ua).map (·.1)
theorem Ub {lo:Int}{rs:List Rwq}{ds:List D}(h:Ac lo rs ds){pre post:List Rwq}{r:Rwq}(e:rs=pre++r::post):(∀n∈jU rs,isn n=Z7)/\∀n∈jU rs,∀s,lkG (bW pre) n=Z9 s->s=("fact":Str):=by
 have hm:∀n∈jU rs,(n,("fact":Str))∈bW rs:=λn hn=>by obtain⟨p,hp,rfl⟩:=bb.mp hn;obtain⟨h1,h2⟩:=mv.mp hp;have h2:p.2=("fact":Str):=qj h2;rw[<-h2];exact h1
 refine⟨λn hn=>zx (h.nw.2 _ (hm n hn)),λn hn s hs=>?_⟩;have i1:(n,s)∈bW rs:=by rw[e];unfold bW;rw[bn];exact de _ (uI hs)
 have a1:=xD h.nw.1 i1;have a2:=xD h.nw.1 (hm n hn);rw[a1]at a2;exact qg a2
theorem Uc {rs:List Rwq}{ds:List D}(h:Ac 2 rs ds)(hl:rs.length<=24)(h0:rs≠[])(nu:Int):∃dM,Ac 1 dM ds/\dM.length=rs.length/\uF [.str (bM "\n" (rs.map Rwq.tx)),.list ((jU rs).map .str),.int nu]=.ok (.fr,.str (bM "\n" (dM.map Rwq.tx))):=by
 let Q:Res Out->Prop:=λx=>∃dM,Ac 1 dM ds/\dM.length=rs.length/\x=.ok (.rt .fr (.str (bM "\n" (dM.map Rwq.tx))))
 obtain⟨ra,_⟩:=xK (by decide) h hl;generalize hT:bM "\n" (rs.map Rwq.tx)=T;generalize Ud:jU rs=F
 suffices h:Q (aH [] [] zi [Z9 (.od,.str T),Z9 (.od,.list (F.map .str)),Z9 (.od,.int nu),Z8,Z8,Z8,Z8]) by obtain⟨dM,h1,h2,h3⟩:=h;exact⟨dM,h1,h2,gB h3⟩
 have sj:spW 10 T=rs.map Rwq.tx:=by rw[<-hT];exact zr zt (λr DW=>by obtain⟨x,hx,rfl⟩:=bb.mp DW;exact IQ (ra x hx).asc) (λz=>h0 (oa.mp z))
 have Tl:T.length<=1801*24:=by rw[<-hT,tH,kH,zt];refine bh (zv (x:=10) (n:=1800) λr h=>?_) (j9 (ah _) (by rw[ai];exact hl));obtain⟨x,hx,rfl⟩:=bb.mp h;exact(ra x hx).len
 unfold zi;refine aF (fN (xs:=[]) (iI dU) rfl) ?_;have ev:aE [] [] (.jF (.var 0) (.str "\n")) (RL T F .od nu [] Z8 Z8 Z8)=.ok (.fr,.list ((rs.map Rwq.tx).map .str)):=by rw[<-sj];exact JE (aC rfl) bD.e (by decide+kernel) (by omega)
 refine q_nm (m:=λr:Rwq=>Z0 r.tx) (xs:=rs) ((HC (e0:=.jF (.var 0) (.str "\n")) (λi=>nofun) ev rfl).trans (by rw[ci];rfl)) (λ_=>rfl) (λpre ρ=>∃g nu dM u4 u5 u6,ρ=RL T F g nu (dM.map Rwq.tx) u4 u5 u6/\Ac 1 dM (ds.take pre.length)/\bW dM=bW pre) ⟨.od,nu,[],Z8,Z8,Z8,rfl,.nil,rfl⟩ ?_ ?_
 .rintro pre r post ρ hx ⟨g,nu,dM,u4,u5,u6,rfl,ac,ek⟩
  obtain⟨⟨hn,hf,ok⟩,hk,ht⟩:=h.at hx;obtain⟨f1,f2⟩:=Ub h hx;rw[Ud]at f1 f2;obtain⟨s1,s2⟩:=Jy (by decide) hk hn ok;have hp:=congrArg c8 hx;rw[af,am]at hp;have rl:dM.length<=24:=by have:=congrArg c8 ek;unfold bW at this;rw[ai,ai]at this;omega
  have pl:(pre++[r]).length=pre.length+1:=by simp
  have fin:∀{g:G} {nu:Int} {ws:List Str} {r':Rwq} {u6:Option GD},bM " " ws=r'.tx->(∀w∈ws,w.length<=50)->ws.length<=200->r'.nm=r.nm->r'.kd=r.kd->r'.d (bW pre)=r.d (bW pre)->r'.ok 1 (bW pre)->Nx (λρ=>∃g nu dM u4 u5 u6,ρ=RL T F g nu (dM.map Rwq.tx) u4 u5 u6/\Ac 1 dM (ds.take (pre++[r]).length)/\bW dM=bW (pre++[r])) (aH [] [] (.seq (.mut "append" 3 (.cons (.mt "join" (.str " ") (.cons (.var 5) .nil)) .nil)) .nil) (RL T F g nu (dM.map Rwq.tx) (Z9 (.al,.str r.tx)) (Z9 (.fr,.list (ws.map .str))) u6)):=λ{g nu ws r' u6} e1 e2 e3 e4 e5 e6 e7=>by
   have wb:50*ws.length<=50*200:=j9 (ah _) e3;refine aF (pV (lJ bD.e (aW (aC rfl) bN) (xv (DV rfl e2 (by omega))) rfl) rfl (by rw[ai,ai];omega)) (eW ⟨g,nu,dM++[r'],Z9 (.al,.str r.tx),Z9 (.fr,.list (ws.map .str)),z08 u6,?_,?_,?_⟩)
   .have em:(dM++[r']).map Rwq.tx=dM.map Rwq.tx++[bM " " ws]:=by rw[bn,e1];rfl
    rw[em];show List.map z08 [Z9 (.od,.str T),Z9 (.od,.list (F.map .str)),Z9 (g,.int nu),Z9 (.fr,.list ((dM.map Rwq.tx).map .str++[.str (bM " " ws)])),Z9 (.al,.str r.tx),Z9 (.fr,.list (ws.map .str)),u6]=[Z9 (.od,.str T),Z9 (.od,.list (F.map .str)),Z9 (g,.int nu),Z9 (.fr,.list ((dM.map Rwq.tx++[bM " " ws]).map .str)),Z9 (.al,.str r.tx),Z9 (.fr,.list (ws.map .str)),z08 u6];rw[bn (f:=Z0)];cases g<;>rfl
   .rw[pl,ht,<-e6,<-ek];exact ac.snoc (by rw[e4];exact hn) (by rw[e4,ek];exact hf) (by rw[ek];exact e7)
   .rw[rg,rg,ek,e4,e5]
  refine aF (fN (xs:=r.ws.map .str) (by rw[<-s1];exact JE (aC rfl) bD.e (by decide+kernel) (by have:=s2.len;omega)) (gO _)) ?_;show Nx _ (aH [] [] _ (RL T F g nu (dM.map Rwq.tx) (Z9 (.al,.str r.tx)) (Z9 (.fr,.list (r.ws.map .str))) u6))
  have h0:gH (.list (r.ws.map .str)) (.int 0)=.ok (.str r.kd):=by
   cases r with
   |fa n=>rfl
   |op n a b=>exact DU (A:=[]) (k:=0) rfl
   |gS m n t=>exact DU (A:=[]) (k:=0) rfl
  have tw:∀w:Str,Tt [] [] (.tv (.cmp .Eq (.ix (.var 5) (.int 0)) (.str w))) (RL T F g nu (dM.map Rwq.tx) (Z9 (.al,.str r.tx)) (Z9 (.fr,.list (r.ws.map .str))) u6) (decide (r.kd=w)):=λw=>aS (cU (k:=decide (r.kd=w)) (aR (aC rfl) aG.e h0 rfl).e bD.e (eT _ _)).e rfl;have hW:∀x∈(["fact","open","for","against","word","if","claim"]:List Str),x.length<=50:=λx hx=>by have:=(xI x hx).len;omega
  have hN:∀{x:Str},NW x->x.length<=50:=λh=>by have:=h.l2;omega
  cases r with
  |fa n=>
   refine xx (jO (tw _) λ_=>tw _) (λz=>absurd (show(decide (("fact":Str)="word")||decide (("fact":Str)="claim"))=Z7 from z) (by decide)) λ_=>fin (r':=.fa n) rfl (λw hw=>?_) (by show 2<=200;decide) rfl rfl rfl trivial;simp only[Rwq.ws,ao,bw,or_false]at hw;rcases hw with rfl|rfl
   .exact hW _ (by decide)
   .exact hN hn
  |op n a b=>
   refine xx (jO (tw _) λ_=>tw _) (λz=>absurd (show(decide (("open":Str)="word")||decide (("open":Str)="claim"))=Z7 from z) (by decide)) λ_=>fin (r':=.op n a b) rfl (λw hw=>?_) (by show(kI n a b).length<=200;rw[DG];have:=ok.2.2.2;omega) rfl rfl rfl ok;have kn:∀x∈a++b,NW x:=λx hx=>by obtain⟨s,_,e⟩:=ok.2.1 x hx;exact hk _ (uI e)
   have z:w="open"\/w=n\/w="for"\/w∈a\/w="against"\/w∈b:=by have hw:w∈kI n a b:=hw;unfold kI at hw;simpa only[ao,a8]using hw
   rcases z with rfl|rfl|rfl|z|rfl|z
   .exact hW _ (by decide)
   .exact hN hn
   .exact hW _ (by decide)
   .exact hN (kn w (de _ z))
   .exact hW _ (by decide)
   .exact hN (kn w (ba _ z))
  |gS m n t=>
   have gl:=tO (by decide) ok.1;have xJ:∀w∈(bW pre).map (·.1),NW w:=λw hw=>by obtain⟨p,hp,rfl⟩:=bb.mp hw;exact hk p hp
   have wl:=zQ xJ gl.1;have wn:=zP t;have nd:=ok.2.2.2;refine xx (jO (tw _) λ_=>tw _) (λ_=>?_) λz=>absurd (show(decide (fP m="word")||decide (fP m="claim"))=Z6 from z) (by cases m<;>decide);obtain⟨aN,e,g',qD,M,Vz,rfl,hM,hp⟩:=zk1 (tx:=T) (F:=F) (g2:=g) (nu:=nu) (L:=dM.map Rwq.tx) (s4:=(Rwq.gS m n t).tx) (u6:=u6) (a:=fP m) (b:=n) (c:="if") (v:=t.ws) wl (by omega);refine⟨_,e,?_⟩;obtain⟨t',N,M',rfl,n0,nj,e5,lg⟩:=zjk f1 f2 t [] M (by rw[br];exact JD hp hM) ok.1 (by rw[zA];decide);have e5:M'=[]:=e5;subst e5;rw[br]at hM hp ⊢;refine fin (r':=.gS m n t') ?_ (λw hw=>?_) (by rw[af,hM];show 3+_<=_;omega) rfl rfl ?_ ⟨lg.kn,by rw[lg.wf];exact ok.2.1,by rw[lg.dp];exact ok.2.2.1,by rw[lg.nd];exact nd⟩
   .refine qx ?_;show _=(bM " " ([fP m,n,"if"]++t'.ws)).cps.toList;rw[kH,kH,qB,gF (by simp) n0,gF (by simp) (oQ t'),nj]
   .rcases a8.mp hw with hw|hw
    .simp only[ao,bw,or_false]at hw;rcases hw with rfl|rfl|rfl
     .exact hW _ (zO m)
     .exact hN hn
     .exact hW _ (by decide)
    .obtain⟨i,hi,rfl⟩:=List.getElem_of_mem hw;have hg:N.getD i ⟨#[]⟩=N[i]:=getD_at hi;have hv:t.ws.getD i ⟨#[]⟩∈t.ws:=by rw[getD_at (by omega)];exact fh _
     have hv:=wl _ hv;rcases hp.2 i hi with z|⟨_,_,z⟩
     .rw[hg]at z;rw[z];omega
     .rw[hg]at z;rw[z,cT];have:(" >= 1":Str).length=5:=rfl;omega
   .show ZY [.str (fP m),.str n,t'.e (bW pre)]=ZY [.str (fP m),.str n,t.e (bW pre)];rw[lg.e]
 .rintro ρ ⟨g,nu,dM,u4,u5,u6,rfl,ac,ek⟩
  rw[<-h.len,List.take_length]at ac;have rl:dM.length=rs.length:=by rw[<-ac.len,<-h.len]
  refine⟨dM,ac,rl,eB (fF (lJ bD.e (aW (aC rfl) bN) (xv (zw (n:=1800) rfl (λr hr=>?_) (by decide) (by rw[ai];omega))) rfl))⟩;obtain⟨x,hx,rfl⟩:=bb.mp hr;exact((xK (by decide) ac (by omega)).1 x hx).len
theorem DX {k:Nat}{xs:List D}(hi:imms xs=Z7)(hl:xs.length<=100)(he:∀e∈xs,cV k [e,e]=.ok (.fr,.bool Z7)):cV (k+1) [.tuple xs,.tuple xs]=.ok (.fr,.bool Z7):=xC (.inl rfl) hi hl he
theorem JF {k:Nat}{a:List Str}(hl:a.length<=5):cV (k+2) [.tuple (a.map .str),.tuple (a.map .str)]=.ok (.fr,.bool Z7):=DX (gO a) (by rw[ai];omega) λe he=>by obtain⟨s,_,rfl⟩:=bb.mp he;exact lP k s
theorem Ue {k:Nat}{w:Str}{a b:List Str}(ha:a.length<=5)(hb:b.length<=5)(io:imm (nZ w a b)=Z7):cV (k+3) [nZ w a b,nZ w a b]=.ok (.fr,.bool Z7):=DX io (by show 4<=100;decide) λe he=>by
 simp only[ao,bw,or_false]at he;rcases he with rfl|rfl|rfl|rfl
 .exact lP _ _
 .exact lP _ _
 .exact JF ha
 .exact JF hb
theorem Ug {nf:Str->Option Int}{ks:List (Str×Str)}:∀(t:Tr) (k:Nat),cV (k+t.dp+1) [t.lk nf ks,t.lk nf ks]=.ok (.fr,.bool Z7):=by
 have JG:∀(k:Nat) (a b:Str) (i:Int),cV (k+2) [.tuple [.str a,.str b,.int i],.tuple [.str a,.str b,.int i]]=.ok (.fr,.bool Z7):=λk a b i=>xC (.inl rfl) rfl (show 3<=100 by decide) λe he=>by
  simp only[ao,bw,or_false]at he;rcases he with rfl|rfl|rfl
  .exact lP k _
  .exact lP k _
  .exact Sj k _
 intro t
 induction t with
 |bV n f=>intro k;exact JG k _ _ _
 |cJ n=>
  intro k;unfold Tr.lk;split
  .exact JG k _ _ _
  .exact DE (k:=k+1) (lP k _) (lP k _) rfl
 |un u t ih=>intro k;exact DE (k:=k+t.dp+1) (lP (k+t.dp) _) (ih k) (by show(Z7&&(imm (t.lk nf ks)&&Z7))=Z7;rw[t.fL];rfl)
 |two o a b ia ib=>
  intro k;show cV (k+(max a.dp b.dp+1)+1) [.tuple [.str (opS o),a.lk nf ks,b.lk nf ks],.tuple [.str (opS o),a.lk nf ks,b.lk nf ks]]=_;refine xC (k:=k+max a.dp b.dp+1) (.inl rfl) (by show(Z7&&(imm (a.lk nf ks)&&(imm (b.lk nf ks)&&Z7)))=Z7;rw[a.fL,b.fL];rfl) (show 3<=100 by decide) λe he=>?_;simp only[ao,bw,or_false]at he;rcases he with rfl|rfl|rfl
  .exact lP (k+max a.dp b.dp) _
  .have :=ia (k+(max a.dp b.dp-a.dp));rw[show k+(max a.dp b.dp-a.dp)+a.dp+1=k+max a.dp b.dp+1 by omega]at this;exact this
  .have :=ib (k+(max a.dp b.dp-b.dp));rw[show k+(max a.dp b.dp-b.dp)+b.dp+1=k+max a.dp b.dp+1 by omega]at this;exact this
def DY (d:D):Prop:=isn ""=Z6/\∀t,d=.str t->okS t/\t.length<LIM/\(spW 10 t).length<=1000
open Classical in
def qE:Fn:=λds=>match ds with
 | [d]=>if DY d then(match tq isn dW d with|.ok act=>.ok (.fr,.list act)|_=>.no)else .no
 |_=>.no
theorem Uh {rs:List Str}{act:List D}(hr:∀r∈rs,jT r)(hl:rs.length<=24)(hn:rs≠[])(h:iJ isn dW 0 [] [] rs=.ok act):qE [.str (bM "\n" rs)]=.ok (.fr,.list act):=by
 have sj:spW 10 (bM "\n" rs)=rs:=zr zt (λr DW=>IQ (hr r DW).asc) hn;have ra:tq isn dW (.str (bM "\n" rs))=.ok act:=by show iJ isn dW 0 [] [] (spW 10 (bM "\n" rs))=_;rw[sj,h]
 have R9:(bM "\n" rs).length<=1801*24:=by rw[tH,kH,zt];exact bh (zv (x:=10) λr h=>(hr r h).len) (j9 (ah _) hl)
 have ok:DY (.str (bM "\n" rs)):=⟨DD,λt e=>by cases e;exact⟨⟨Sq hr,by unfold LIM;omega⟩,by unfold LIM;omega,by rw[sj];omega⟩⟩;have e:qE [.str (bM "\n" rs)]=(match tq isn dW (.str (bM "\n" rs))with|.ok act=>.ok (.fr,.list act)|_=>.no):=qe ok;rw[e,ra]
theorem JH {lo:Int}(h0:1<=lo){rs:List Rwq}{ds:List D}(h:Ac lo rs ds)(hl:rs.length<=24)(hn:rs≠[]):qE [.str (bM "\n" (rs.map Rwq.tx))]=.ok (.fr,.list ds):=by obtain⟨a,b⟩:=xK h0 h hl;have b:=b [];rw[br]at b;exact Uh (λr hr=>by obtain⟨x,hx,rfl⟩:=bb.mp hr;exact a x hx) (by rw[ai];exact hl) (λz=>hn (oa.mp z)) b
theorem uK (n:Nat)(x:Str):aU n (.str x)=true:=by cases n<;>rfl
theorem Ui (n:Nat)(x:Int):aU n (.int x)=true:=by cases n<;>rfl
theorem Uj {ks:List (Str×Str)}:∀(t:Tr) (n:Nat),t.dp<=n->aU n (t.e ks)=true:=by
 have two:∀(n:Nat) (a b:Str),aU (n+1) (.tuple [.str a,.str b])=true:=λn a b=>by rw[aU,cL,cL,cL,uK,uK];rfl
 have JI:∀(n:Nat) (a b:Str) (i:Int),aU (n+1) (.tuple [.str a,.str b,.int i])=true:=λn a b i=>by rw[aU,cL,cL,cL,cL,uK,uK,Ui];rfl
 intro t
 induction t with
 |bV w f=>
  intro n h;obtain _|n:=n
  .exact absurd h (by unfold Tr.dp;omega)
  exact JI n _ _ _
 |cJ w=>
  intro n h;obtain _|n:=n
  .exact absurd h (by unfold Tr.dp;omega)
  show aU (n+1) (if _ then _ else _)=Z7;split
  .exact JI n _ _ _
  .exact two n _ _
 |un u t ih=>
  intro n h;obtain _|n:=n
  .exact absurd h (by unfold Tr.dp;omega)
  show aU (n+1) (.tuple [.str (dJ u),t.e ks])=Z7;rw[aU,cL,cL,cL,uK,ih n (fg h)];rfl
 |two o a b ia ib=>
  intro n h;obtain _|n:=n
  .exact absurd h (by unfold Tr.dp;omega)
  have h:max a.dp b.dp+1<=n+1:=h;show aU (n+1) (.tuple [.str (opS o),a.e ks,b.e ks])=Z7;rw[aU,cL,cL,cL,cL,uK,ia n (by omega),ib n (by omega)];rfl
theorem Uk {lo:Int}{ks:List (Str×Str)}{r:Rwq}(ok:r.ok lo ks):aU 39 (r.d ks)=true:=by
 cases r with
 |fa n=>rfl
 |op n a b=>show(aU 38 (.str "open")&&(aU 38 (.str n)&&(cL 37 (a.map .str)&&(cL 37 (b.map .str)&&Z7))))=Z7;rw[zq 36 a,zq 36 b];rfl
 |gS m n t=>show(aU 38 (.str (fP m))&&(aU 38 (.str n)&&(aU 38 (t.e ks)&&Z7)))=Z7;rw[Uj t 38 (by have:=ok.2.2.1;omega)];rfl
mutual
theorem JJ:∀(d:D) (n:Nat),aU n d=Z7->bO d d=Z7
 |.tuple xs,0,h=>by cases h
 |.list xs,0,h=>by cases h
 |.tuple xs,n+1,h=>tP xs n h
 |.list xs,n+1,h=>tP xs n h
 |.dict _,0,h=>by cases h
 |.dict _,n+1,h=>by cases h
 |.none,_,_=>rfl
 |.bool b,_,_=>by cases b<;>rfl
 |.int i,_,_=>by show bO (.int i) (.int i)=Z7;rw[Hs];exact qk rfl
 |.str x,_,_=>by rw[iU];exact qk rfl
theorem tP:∀(l:List D) (n:Nat),cL n l=Z7->ZU l l=Z7
 | [],_,_=>rfl
 |x::l,n,h=>by rw[cL,aq]at h;show(bO x x&&ZU l l)=Z7;rw[JJ x n h.1,tP l n h.2];rfl
end
theorem Ul {ds:List D}(h:cL 39 ds=Z7):cmpD .NotEq (.list ds) (.list ds)=.ok false:=by show(if(aU 40 (.list ds)&&aU 40 (.list ds))=Z7 then Res.ok (!bO (.list ds) (.list ds))else .no)=_;rw[show aU 40 (.list ds)=Z7 from h,qe (show(Z7&&Z7)=Z7 from rfl),JJ (.list ds) 40 h];rfl
theorem Um {lo:Int}{ks:List (Str×Str)}{r:Rwq}(ok:r.ok lo ks):cV 11 [r.d ks,r.d ks]=.ok (.fr,.bool Z7):=by
 cases r with
 |fa n=>exact DE (lP _ _) (lP _ _) rfl
 |op n a b=>exact Ue ok.2.2.2.1 ok.2.2.2.2 (Js n a b)
 |gS m n t=>
  refine DX (Rwq.im (.gS m n t)) (show 3<=100 by decide) λe he=>?_;simp only[ao,bw,or_false]at he;rcases he with rfl|rfl|rfl
  .exact lP _ _
  .exact lP _ _
  .have e:=Ug (nf:=dW) (ks:=ks) t (9-t.dp);rw[show 9-t.dp+t.dp+1=10 by have:=ok.2.2.1;omega]at e;exact e
theorem Uo {lo:Int}{rs:List Rwq}{ds:List D}(h:Ac lo rs ds)(hl:rs.length<=24):cV 12 [.list ds,.list ds]=.ok (.fr,.bool Z7):=by obtain⟨zs,z⟩:=h.zs;refine xC (.inr rfl) h.imms (by rw[h.len];omega) λe he=>?_;rw[z.d]at he;obtain⟨y,hy,rfl⟩:=bb.mp he;exact Um (z.ok y hy).2.2
def tQ:S:=(.seq (.asg (.nm 1) (.call 4 "_law_rows" (.cons (.var 0) .nil)))
 (.seq (.asg (.nm 2) (.hJ "list" (.tv (.var 1))))
 (.seq (.asg (.nm 3) (.call 0 "shown_act" (.cons (.var 2) .nil)))
 (.seq (.aX (.or (.not (.tv (.dP (.var 3) ["str"]))) (.tv (.cmp .NotEq (.var 2) (.var 1))))
 (.seq (.ret (.bl Z6))
 .nil)
 .nil)
 (.seq (.asg (.nm 4) (.comp 1 [] ["_law_row"] (.nm 0) (.tv (.var 1)) (.tv (.cmp .Eq (.ix (.var 0) (.int 0)) (.str "fact"))) (.ix (.var 0) (.int 1))))
 (.seq (.asg (.nm 5) (.call 3 "_law_longer" (.cons (.var 3) (.cons (.var 4) (.cons (.bin .Add (.int 1) (.bin .Mod (.hJ "sum" (.tv (.comp 1 [] ["_law_cell"] (.nm 0) (.tv (.var 0)) .nil (.bin .Mod (.var 0) (.int 1000003))))) (.int 2147483646))) .nil)))))
 (.seq (.asg (.nm 6) (.call 2 "read_act" (.cons (.var 3) .nil)))
 (.seq (.asg (.nm 7) (.call 2 "read_act" (.cons (.var 5) .nil)))
 (.seq (.aX (.or (.not (.tv (.call 1 "_law_alike" (.cons (.var 6) (.cons (.var 1) .nil))))) (.not (.tv (.call 1 "_law_alike" (.cons (.var 7) (.cons (.var 1) .nil))))))
 (.seq (.ret (.bl Z6))
 .nil)
 .nil)
 (.seq (.ret (.and (.cmp .Eq (.call 0 "shown_act" (.cons (.var 6) .nil)) (.var 3)) (.cmp .Eq (.call 0 "shown_act" (.cons (.var 7) .nil)) (.var 3))))
 .nil))))))))))
def xN:Fn:=aZ [] [lO,(cV 12),qE,uF,uE] 8 tQ
abbrev rh:List Fn:=[lO,cV 12,qE,uF,uE]
theorem Up {lo:Int}{rs:List Rwq}{ds:List D}(h:Ac lo rs ds){ρ:Rho}(h1:ρ[1]?=Z9 (Z9 (.fr,.list ds))):aE [] rh (.comp 1 [] ["_law_row"] (.nm 0) (.tv (.var 1)) (.tv (.cmp .Eq (.ix (.var 0) (.int 0)) (.str "fact"))) (.ix (.var 0) (.int 1))) ρ=.ok (.fr,.list ((jU rs).map .str)):=by
 obtain⟨zs,z⟩:=h.zs;have e1:aE [] rh (.var 1) ρ=.ok (.al,.list ds):=by rw[wR,h1];rfl
 have e:=z6i (Κ:=[]) (Φ:=rh) (ρ:=ρ) (nt:=1) (js:=[]) (N':=["_law_row"]) (tg:=.nm 0) (it:=.tv (.var 1)) (cond:=.tv (.cmp .Eq (.ix (.var 0) (.int 0)) (.str "fact"))) (elt:=.ix (.var 0) (.int 1)) (m:=λz:List (Str×Str)×Rwq=>z.2.d z.1) (xs:=zs) (λz=>decide (z.2.kd=("fact":Str))) (λz=>.str z.2.nm) (fY e1 rfl) z.d (λz=>[Z9 (.al,z.2.d z.1)]) (λz _=>Dt z.2.im) (λy _=>aS (cU (k:=decide (y.2.kd=("fact":Str))) (aR (d:=.str y.2.kd) (aC rfl) aG.e (by cases y.2<;>rfl) rfl).e bD.e (eT _ _)).e rfl) λy _ _=>aR (aC rfl) aG.e (by cases y.2<;>rfl) rfl;rw[e];unfold jU bW;rw[z.r,List.filter_map,ci,ci,List.filter_map,ci];rfl
theorem Uq (xs:List Int):aggD "sum" Z7 (xs.map .int)=.ok (.int xs.sum):=by
 show Res.eU ((hU (xs.map ZX)).map ZX)=_
 have:∀xs:List Int,hU (xs.map ZX)=Z9 xs.sum:=λxs=>by
  induction xs with
  |nil=>rfl
  |cons x xs ih=>rw[bc,hU,ih,jy];rfl
 rw[this];rfl
theorem Ur {xs:List Int}{ρ:Rho}(h0:ρ[0]?=Z9 (Z9 (.od,.list (xs.map .int)))):aE [] rh (.comp 1 [] ["_law_cell"] (.nm 0) (.tv (.var 0)) .nil (.bin .Mod (.var 0) (.int 1000003))) ρ=.ok (.fr,.list ((xs.map λc=>c%1000003).map .int)):=by
 have e1:aE [] rh (.var 0) ρ=.ok (.od,.list (xs.map .int)):=by rw[wR,h0];rfl
 have e:=z6i (Κ:=[]) (Φ:=rh) (ρ:=ρ) (nt:=1) (js:=[]) (N':=["_law_cell"]) (tg:=.nm 0) (it:=.tv (.var 0)) (cond:=.nil) (elt:=.bin .Mod (.var 0) (.int 1000003)) (m:=ZX) (xs:=xs) (λ_=>Z7) (λc=>.int (c%1000003)) (fY e1 rfl) rfl (λc=>[Z9 (.al,.int c)]) (λ_ _=>rfl) (λ_ _=>yS) λc _ _=>aP (aC rfl) aG.e (dC (by decide)) rfl;rw[i3.mpr λ_ _=>rfl]at e;rw[e,ci];rfl
theorem Us {xs:List Int}(hl:xs.length<=63):xN [.list (xs.map .int)]=.ok (.fr,.bool Z7):=by
 unfold xN;refine gB ?_
 let Q:Res Out->Prop:=λr=>r=.ok (.rt .fr (.bool Z7))
 show Q (aH [] rh tQ [Z9 (.od,.list (xs.map .int)),Z8,Z8,Z8,Z8,Z8,Z8,Z8]);unfold tQ;obtain⟨rs,ds,ac,rl,rn,er⟩:=Tz xs hl;have im:=ac.imms;have es:=TX ac rl;have ra:=(xK (by decide) ac rl).1;refine aF (fN (uw (aW (aC rfl) bN) rfl er) im) (aF (fN (xs:=ds) (Hz (aC rfl) rfl rfl im) im) (aF (cY (gP (aW (aC rfl) bN) rfl es rfl)) ?_));obtain⟨zs,z⟩:=ac.zs;have sh:cL 39 ds=true:=Fx.mpr λe he=>by rw[z.d]at he;obtain⟨y,hy,rfl⟩:=bb.mp he;exact Uk (z.ok y hy).2.2
 refine tf (jO (qQ (aS (kF (aC rfl)).e rfl)) λ_=>aS (cU (k:=Z6) (aC rfl) (aC rfl) (Ul sh)).e rfl) rfl ?_;have DZ:∃k:Int,∀ρ:Rho,ρ[0]?=Z9 (Z9 (.od,.list (xs.map .int)))->Vv [] rh (.bin .Add (.int 1) (.bin .Mod (.hJ "sum" (.tv (.comp 1 [] ["_law_cell"] (.nm 0) (.tv (.var 0)) .nil (.bin .Mod (.var 0) (.int 1000003))))) (.int 2147483646))) ρ (.int k):=by refine⟨_,λρ h0=>aP aG.e (aP (d:=.int ((xs.map λc=>c%1000003).sum%2147483646)) (yR (Ev.of (Ur h0)) rfl (Uq _) rfl).e aG.e (dC (by decide)) rfl).e rfl rfl⟩
 obtain⟨k,ek⟩:=DZ;obtain⟨dM,Ut,JK,el⟩:=Uc ac rl rn k;have Uu:dM≠[]:=λz=>by rw[z]at JK;exact rn (dt JK.symm)
 refine aF (fN (Up ac rfl) (gO _)) (aF (cY (gP (aW (aC rfl) (aW (aC rfl) (aW (ek _ rfl).e bN))) rfl el rfl)) (aF (fN (uw (aW (aC rfl) bN) rfl (JH (by decide) ac rl rn)) im) (aF (fN (uw (aW (aC rfl) bN) rfl (JH (by decide) Ut (by omega) Uu)) im) ?_)));have al:=Uo ac rl;refine tf (jO (qQ (aS (gP (aW (aC rfl) (aW (aC rfl) bN)) rfl al rfl).e rfl)) λ_=>qQ (aS (gP (aW (aC rfl) (aW (aC rfl) bN)) rfl al rfl).e rfl)) rfl ?_;have eq:cmpD .Eq (.str (bM "\n" (rs.map Rwq.tx))) (.str (bM "\n" (rs.map Rwq.tx)))=.ok true:=by rw[eT,qk rfl]
 exact eB (fF (v_and (k:=Z7) (cU (gP (aW (aC rfl) bN) rfl es rfl).e (aC rfl) eq).e λ_=>cU (gP (aW (aC rfl) bN) rfl es rfl).e (aC rfl) eq))
open PySem.Spec PyProof.Rows L2
def top (i:Nat):Stmt:=PySem.Challenge.pw_likebook_k57_whole_read_again.main.body.getD i (.Pass ⟨0,0,0,0⟩)
def iL (i:Nat):Stmt->Stmt
 |.ClassDef _ _ _ b ..=>b.getD i (.Pass ⟨0,0,0,0⟩)
 |s=>s
def Sb:Nat->S
 |0=>.nil
 |n+1=>.seq .bad (Sb n)
def F0 (n k:Nat):Fn:=aZ [] [] n (Sb k)
def Uv:Fn:=aZ [] [lO,cV 12,F0 7 5,uF,uE] 8 tQ
abbrev FREE:List Str:=["isinstance","str","len","all","range","list","tuple","int","bool","zip","enumerate","ValueError","sum"]
abbrev dr (nm:Str)(i:Nat)(N:List Str)(k:Nat)(fr:List Str)(fs:List Nat)(s:S)(F:Fn):aI:=⟨nm,top i,N,N.take k,fr,fs,s,F,.n,[]⟩
abbrev oA:aI:=dr "number_of" 9 ["figures"] 1 ["int","len","all"] [] xt tE
abbrev hr (nm:Str)(st:Stmt)(N:List Str)(k n:Nat)(kc:List (Str×List Str):=[]):aI:=⟨nm,st,N,N.take k,FREE,[],Sb n,F0 N.length n,.n,kc⟩
abbrev hm (nm:Str)(st:Stmt)(N:List Str)(k n:Nat):aI:=⟨nm,st,N,N.take k,FREE,[],Sb n,λ_=>.no,.n,[]⟩
abbrev Rp:List aI:=[
 ⟨"is_name",top 7,["thing"],["thing"],["all","len","isinstance","str"],[],xr,F_z0,.n,[("NO_NAMES",["and","or","not","if","is","some","all","for","against"])]⟩,
 oA,
 hr "read_names" (top 21) ["row","names","name"] 1 3 [("OF_A_THING",["fact","open","word"])],
 hr "read_saying" (top 22) ["row","room","name"] 2 7 [("OF_A_THING",["fact","open","word"])],
 hr "read_asking" (top 23) ["row","room","word"] 2 6,
 hr "read_both" (top 24) ["row","read_part","room","one","sign","other"] 3 7,
 hr "read_bound" (top 25) ["row","name","number"] 2 5,
 hr "read_head" (top 19) ["row","name"] 1 3,
 hr "read_open" (top 20) ["row","name","fors"] 1 6,
 hr "read_row" (top 18) ["row","kind","told"] 1 4,
 hr "check_names" (top 17) ["row","told","name","tellers"] 2 2,
 hr "read_act" (top 16) ["text","act","kinds","number","written","row","told"] 1 5]
abbrev Mg:List aI:=[
 hm "__init__" (iL 0 (top 15)) ["self","number","text","kinds"] 4 5,
 hm "peek" (iL 1 (top 15)) ["self"] 1 1,
 hm "take" (iL 2 (top 15)) ["self","word"] 1 3,
 hm "take_word" (iL 3 (top 15)) ["self","word"] 2 1,
 hm "take_name" (iL 4 (top 15)) ["self","name"] 1 3,
 hm "take_end" (iL 5 (top 15)) ["self"] 1 1]
abbrev CRg:nT:=⟨"Row",["number","words","place","kinds","said"],[("__init__",iL 0 (top 15)),("peek",iL 1 (top 15)),("take",iL 2 (top 15)),("take_word",iL 3 (top 15)),("take_name",iL 4 (top 15)),("take_end",iL 5 (top 15))]⟩
abbrev Gg:List (Str×Int):=[("MOST_ROWS",24),("MOST_OPENS",4),("MOST_DEEP",8)]
abbrev eG (fs:List Nat)(s:S)(F:Fn):aI:=dr "shown_part" 29 ["part","kind"] 1 ["str"] fs s F
abbrev dD (fs:List Nat)(s:S)(F:Fn):aI:=dr "_law_tree" 36 ["_law_draws_here","_law_kinds","_law_most","_law_first","_law_held","_law_turn","_law_number","_law_last","_law_some","_law_one","_law_said"] 4 ["len","range"] fs s F
abbrev eH (fs:List Nat)(s:S)(F:Fn):aI:=dr "_law_alike" 40 ["_law_found","_law_due","_law_one","_law_two"] 2 ["zip","len","isinstance","list","tuple","int","bool","str"] fs s F
def lv (L:List Nat->S->Fn->aI)(s:S)(F:Nat->Fn)(i:Nat):Nat->Nat->List aI
 |0,_=>[]
 |n+1,k=>L [i+k] s (F (k+1))::lv L s F i n (k+1)
abbrev Lz:List aI:=[
 eG [] xu (bK 0)]++(lv eG eE bK 12 8 0++([
 dr "shown_row" 28 ["row","words"] 1 ["list"] [20] qs nU,
 dr "shown_act" 27 ["act"] 1 [] [21] qt lO,
 dr "_law_mixed" 31 ["_law_cell","_law_k"] 2 [] [] tF nV,
 dr "_law_good_name" 32 ["_law_word"] 1 [] [] tG nW,
 dr "_law_pool" 33 ["_law_cell","_law_letters","_law_number","_law_many","_law_stem","_law_at","_law_signs","_law_k","_law_names"] 1 ["range"] [24,23] qu nX,
 dr "_law_draws" 34 ["_law_cell","_law_many","_law_found","_law_digits","_law_k","_law_number","_law_mixed_here"] 2 ["range"] [] qv qw,
 dr "_law_leaf" 35 ["_law_number","_law_kinds","_law_names","_law_name","_law_more","_law_some"] 2 ["len","list"] [] zb uD,
 dD [] IC (nY 0),
 dD [28,27] qZ (nY 1),
 dD [29,27] qZ (nY 2),
 dr "_law_list" 37 ["_law_number","_law_names","_law_found","_law_many","_law_k","_law_name"] 2 ["tuple","range","len"] [] zc zd,
 dr "_law_rows" 38 ["_law_script","_law_names","_law_rows_here","_law_kinds","_law_opens","_law_k","_law_cell","_law_draws_here","_law_kind","_law_known"] 1 ["enumerate","list","len"] [31,30,26,25] zh uE,
 dr "_law_longer" 39 ["_law_text","_law_facts","_law_number","_law_rows_here","_law_row","_law_words","_law_k"] 3 ["range","len"] [] zi uF,
 eH [] ID (cV 0)]++(lv eH oO cV 34 12 0)))
abbrev Rz:List aI:=Rp++Lz
abbrev Lr:aI:=dr "law" 41 ["_law_script","_law_rows_here","_law_handed","_law_text","_law_facts","_law_longer_here","_law_found","_law_again"] 1 ["sum","isinstance","str","list"] [22,46,11,33,32] tQ Uv
theorem tR:oks (Rz++[Lr]) FREE 0 (Rz++[Lr])=true:=by decide+kernel
theorem Uw:pS (Rz++[Lr]) (Rz++[Lr]):=by repeat' first|exact trivial|refine⟨rfl,?_⟩
theorem t_P:oks Rp FREE 0 Rp=true:=by decide+kernel
theorem t_Mg:oks Mg FREE 0 Mg=true:=by decide+kernel
abbrev D2:List Str:=["MOST_ROWS","MOST_OPENS","MOST_DEEP"]
abbrev gBg (st:Stmt)(N:List Str)(fns:List (Str×Nat))(cs:List Str):Gm:={N:=N,sc:=z0a st,free:=FREE,fns:=fns,cst:=cs}
abbrev gg (r:aI)(fns:List (Str×Nat))(cs:List Str)(fn me cl hf:List (Str×Nat)):Gw:={g:=gBg r.st r.N fns cs,fn:=fn,me:=me,cl:=cl,gi:=D2,hf:=hf}
abbrev gg0 (r:aI)(me:List (Str×Nat)):Gw:={g:=gBg r.st r.N [] [],fn:=[],me:=me,cl:=[],gi:=D2}
abbrev N0:Str×Nat:=("peek",0)
abbrev N1:Str×Nat:=("take",0)
abbrev N2:Str×Nat:=("take_word",1)
abbrev N3:Str×Nat:=("take_name",0)
abbrev N4:Str×Nat:=("take_end",0)
abbrev NN:List (Str×Nat):=[N0,N1,N2,N3,N4]
abbrev OFc:List Str:=["OF_A_THING"]
abbrev mq (i:Nat):aI:=Mg.getD i oA
abbrev pq (i:Nat):aI:=Rp.getD i oA
theorem Ux {P:bp}{w:World}{K:Z5}{mg:Str->Option Value}{base:Heap}{k:Nat}{f:Addr}{fd:dv}{ps:List Str}{sp JL:Sp}(F:FnOk P w K mg base (CXE P w base) k f fd ps sp)(h:∀vs H Q E,JL vs H Q E->sp vs H Q λ_ _ _=>False):FnOk P w K mg base mR k f fd ps JL:=
 ⟨λvs H Q E q=>F.len vs H Q _ (h _ _ _ _ q),λA outer s H args us vs Q E hr he hb hv hs=>jm (F.run A outer s H args us vs Q _ hr he hb hv (h _ _ _ _ hs)) λr s' z=>by
  cases r with
  |error e=>exact z.elim
  |ok x=>cases x<;>exact z⟩
theorem xO {K:Z5}:FnOk P w K mg base a k f fd ps (λ_ _ _ _=>False):=⟨λ_ _ _ _ z=>z.elim,λ_ _ _ _ _ _ _ _ _ _ _ _ _ z=>z.elim⟩
abbrev FX (P:bp)(w:World)(K:Z5)(mg:Str->Option Value)(base:Heap)(k:Nat)(f:Addr)(fd:dv)(ps:List Str)(sp:Sp):Prop:=FnOk P w K mg base (CXE P w base) k f fd ps sp
theorem Uy {P:bp}{w:World}{K:Z5}{mg:Str->Option Value}{base:Heap}{Γ:Gm}{Κ:List D}{Φ:List Fn}{n i N k:Nat}{x:Str}{ps:List Str}{m:Fn}(D:Dok Γ Κ Φ P w K mg base n)(hx:Γ.fns[i]?=Z9 (x,N))(hi:i<Φ.length)(hk:k<=n)(C1:Cal P w K mg base k x ps (spD K N m)):Dok Γ Κ (Φ.set i m) P w K mg base n where
 free:=D.free
 fns:=λj f n e=>by
  by_cases h:i=j
  .subst h;cases hx.symm.trans e;exact⟨m,k,ps,e8 hi,hk,C1⟩
  .rw[cu h];exact D.fns j f n e
 cst:=D.cst
section
variable {P:bp}{w:World}{K:Z5}{mg:Str->Option Value}{base:Heap}{CR:Addr}
theorem scg {Rs:List aI}{i:Nat}{r:aI}(h:oks Rs FREE 0 Rs=Z7)(e:Rs[i]?=Z9 r):FnScope r.N r.ps (z0a r.st):=(yO (yN h e)).1
variable (T:∀n∈FREE,mg n=Z8)(G:∀(x:Str) (v:Value),W.nsIn K bq x=Z9 (Z9 v)->mg x=Z9 v)(GG:∀g∈Gg,∃t,W.nsIn K bq g.1=Z9 (Z9 (.int g.2 t)))
include T in
theorem dokg {st:Stmt}{N:List Str}{k:Nat}:Dok (gBg st N [] []) [] [] P w K mg base k where
 free:=λx hx=>T x (cw.mp hx)
 fns:=λj f n e=>by cases e
 cst:=λj x e=>by cases e
include T in
theorem dokc {st:Stmt}{N:List Str}{k:Nat}(CO:zaj K mg ("OF_A_THING",["fact","open","word"])):Dok (gBg st N [] OFc) [OFT] [] P w K mg base k where
 free:=λx hx=>T x (cw.mp hx)
 fns:=λj f n e=>by cases e
 cst:=λj x e=>by
  rcases j with _|j
  .cases e;obtain⟨a,h1,h2⟩:=CO;exact⟨_,a,rfl,h1,h2⟩
  .cases e
include G GG in
theorem JM:∀(j:Nat) x,D2[j]?=Z9 x->∃(n:Int) (t:Tok),([24,4,8]:List Int)[j]?=Z9 n/\mg x=Z9 (.int n t):=λj x e=>by
 rcases j with _|_|_|j
 .cases e;obtain⟨t,e⟩:=GG _ (.head _);exact⟨24,t,rfl,G _ _ e⟩
 .cases e;obtain⟨t,e⟩:=GG _ (.tail _ (.head _));simp_all
 .cases e;obtain⟨t,e⟩:=GG _ (.tail _ (.tail _ (.head _)));exact⟨8,t,rfl,G _ _ e⟩
 .cases e
end
section
variable {P:bp}{w:World}{K:Z5}{mg:Str->Option Value}{base:Heap}{CR:Addr}
variable (T:∀n∈FREE,mg n=Z8)(G:∀(x:Str) (v:Value),W.nsIn K bq x=Z9 (Z9 v)->mg x=Z9 v)(GG:∀g∈Gg,∃t,W.nsIn K bq g.1=Z9 (Z9 (.int g.2 t)))
abbrev zg (K:Z5)(mg:Str->Option Value)(fn:List Sp)(me:List (Addr×Str×Sp))(cl:List (Addr×Sp))(Κ:List D:=[])(hf:List (Addr×Sp):=[])(Φ:List Fn:=[]):Wc:={K:=K,mg:=mg,Κ:=Κ,Φ:=Φ,E:=λ_ _ _=>False,fn:=fn,me:=me,cl:=cl,gi:=[24,4,8],hf:=hf}
def uL (P:bp)(w:World)(K:Z5)(mg:Str->Option Value)(base:Heap)(CR:Addr)(k:Nat)(m:Str)(ps:List Str)(sp:Sp):Prop:=∃f fd,FX P w K mg base k f fd ps sp/\Meth K CR m f/\Binds K fd ps []
include T G GG in
theorem msg (CA:ClsAt K CRg CR)(Dn:Dok (gBg (mq 4).st (mq 4).N [("is_name",1)] []) [] [F_z0] P w K mg base 2):
  uL P w K mg base CR 1 "__init__" ["self","number","text","kinds"] (spRI K CR)/\uL P w K mg base CR 1 "peek" ["self"] (z1k K CR)/\uL P w K mg base CR 2 "take" ["self"] (z1g K CR)/\uL P w K mg base CR 3 "take_word" ["self","word"] (spTW K CR mg)/\uL P w K mg base CR 3 "take_name" ["self"] (spTN K CR mg isn)/\uL P w K mg base CR 3 "take_end" ["self"] (y0 K CR mg):=by
 have rk:RowK K CR:=⟨CA.cls,CA.na⟩;obtain⟨f0,xP,JN,zR⟩:=CA.ms ("__init__",iL 0 (top 15)) (.head _);obtain⟨f1,tS,JO,xQ⟩:=CA.ms ("peek",iL 1 (top 15)) (.tail _ (.head _));obtain⟨f2,fd2,Fu2,zS⟩:=CA.ms ("take",iL 2 (top 15)) (.tail _ (.tail _ (.head _)));obtain⟨f3,xR,JP,D3⟩:=CA.ms ("take_word",iL 3 (top 15)) (.tail _ (.tail _ (.tail _ (.head _))));obtain⟨f4,xS,JQ,D4⟩:=CA.ms ("take_name",iL 4 (top 15)) (.tail _ (.tail _ (.tail _ (.tail _ (.head _)))));obtain⟨f5,xT,JR,D5⟩:=CA.ms ("take_end",iL 5 (top 15)) (.tail _ (.tail _ (.tail _ (.tail _ (.tail _ (.head _))))));have b0:Binds K xP ["self","number","text","kinds"] []:=JN.binds λ_ _ _ _ _ _=>by4 λ_ _ _ _=>rfl;have b1:Binds K tS ["self"] []:=JO.binds λ_ _ _ _ _ _=>um λ_=>rfl;have b2:Binds K fd2 ["self"] []:=Fu2.binds λ_ _ _ _ _ _=>um λ_=>rfl;have b3:Binds K xR ["self","word"] []:=JP.binds λ_ _ _ _ _ _=>Ct λ_ _=>rfl;have b4:Binds K xS ["self"] []:=JQ.binds λ_ _ _ _ _ _=>um λ_=>rfl;have b5:Binds K xT ["self"] []:=JR.binds λ_ _ _ _ _ _=>um λ_=>rfl;have gi:=JM G GG;have F0:FX P w K mg base 1 f0 xP ["self","number","text","kinds"] (spRI K CR):=w_fn (Γ:=gg0 (mq 0) []) (Z:=zg K mg [] [] []) (s:=Rd.init) JN (scg t_Mg (i:=0) rfl) rfl rfl (dokg T) (λE=>⟨rfl,rfl,nofun,nofun,nofun,gi,nofun,nofun,nofun⟩) rfl (by decide+kernel) (by rintro _ _ _ _ ⟨_,_,_,_,_,rfl,_⟩;rfl) (by rintro _ _ _ _ ⟨x,dx,kd,n,t,rfl,hx,ok,q⟩;exact zlo rk hx ok q);have F1:FX P w K mg base 1 f1 tS ["self"] (z1k K CR):=w_fn (Γ:=gg0 (mq 1) []) (Z:=zg K mg [] [] []) (s:=Rd.peek) JO (scg t_Mg (i:=1) rfl) rfl rfl (dokg T) (λE=>⟨rfl,rfl,nofun,nofun,nofun,gi,nofun,nofun,nofun⟩) rfl (by decide+kernel) (by rintro _ _ _ _ ⟨_,_,_,_,_,_,_,_,rfl,_⟩;rfl) (by rintro _ _ _ _ ⟨x,dx,wl,kd,sl,n,ws,p,rfl,r,q⟩;exact QW rk r q)
 have F2:FX P w K mg base 2 f2 fd2 ["self"] (z1g K CR):=w_fn (Γ:=gg0 (mq 2) [N0]) (Z:=zg K mg [] [(CR,"peek",z1k K CR)] []) (s:=Rd.take) Fu2 (scg t_Mg (i:=2) rfl) rfl rfl (dokg T) (fun E=>⟨rfl,rfl,nofun,(fun j x n e=>by
   rcases j with _|j
   .cases e;exact⟨CR,_,f1,tS,_,1,rfl,ah _,F1,CA.cls,xQ,b1⟩
   .cases e),nofun,gi,nofun,nofun,nofun⟩) rfl (by decide+kernel)
  (by rintro _ _ _ _ ⟨_,_,_,_,_,_,_,_,rfl,_⟩;rfl) (by rintro _ _ _ _ ⟨x,dx,wl,kd,sl,n,ws,p,rfl,r,q⟩;exact QX rk rfl r q)
 have D6:∀(j:Nat) (m:Str) (n:Nat),[N0,N1][j]?=Z9 (m,n)->∃C sp f fd ps k,[(CR,(("peek":Str),z1k K CR)),(CR,(("take":Str),z1g K CR))][j]?=Z9 (C,m,sp)/\k<=2/\FX P w K mg base k f fd ps sp/\Cls K C/\Meth K C m f/\Binds K fd ps []:=λj m n e=>by
  rcases j with _|_|j
  .cases e;exact⟨CR,_,f1,tS,_,1,rfl,by decide,F1,CA.cls,xQ,b1⟩
  .cases e;exact⟨CR,_,f2,fd2,_,2,rfl,ah _,F2,CA.cls,zS,b2⟩
  .cases e
 have F3:FX P w K mg base 3 f3 xR ["self","word"] (spTW K CR mg):=w_fn (Γ:=gg (mq 3) [] [] [] [N0,N1] [] []) (Z:=zg K mg [] [(CR,"peek",z1k K CR),(CR,"take",z1g K CR)] []) (s:=Rd.takeWord) JP (scg t_Mg (i:=3) rfl) rfl rfl (dokg T) (λE=>⟨rfl,rfl,nofun,D6,nofun,gi,nofun,nofun,nofun⟩) rfl (by decide+kernel) (by rintro _ _ _ _ ⟨_,_,_,_,_,_,_,_,_,rfl,_⟩;rfl) (by rintro _ _ _ _ ⟨x,dx,wl,kd,sl,n,ws,p,w0,rfl,r,hw,q⟩;exact zn0 rk rfl r hw q);have F4:FX P w K mg base 3 f4 xS ["self"] (spTN K CR mg isn):=w_fn (Γ:=gg (mq 4) [("is_name",1)] [] [] [N0,N1] [] []) (Z:=zg K mg [] [(CR,"peek",z1k K CR),(CR,"take",z1g K CR)] [] [] [] [F_z0]) (s:=Rd.iT) JQ (scg t_Mg (i:=4) rfl) rfl rfl Dn (λE=>⟨rfl,rfl,nofun,D6,nofun,gi,nofun,nofun,nofun⟩) rfl (by decide+kernel) (by rintro _ _ _ _ ⟨_,_,_,_,_,_,_,_,rfl,_⟩;rfl) (by rintro _ _ _ _ ⟨x,dx,wl,kd,sl,n,ws,p,rfl,r,q⟩;exact zn5 rk rfl ⟨F_z0,rfl,λs ok=>IP ok.2⟩ r q);have F5:FX P w K mg base 3 f5 xT ["self"] (y0 K CR mg):=w_fn (Γ:=gg (mq 5) [] [] [] [N0,N1] [] []) (Z:=zg K mg [] [(CR,"peek",z1k K CR),(CR,"take",z1g K CR)] []) (s:=Rd.takeEnd) JR (scg t_Mg (i:=5) rfl) rfl rfl (dokg T) (λE=>⟨rfl,rfl,nofun,D6,nofun,gi,nofun,nofun,nofun⟩) rfl (by decide+kernel) (by rintro _ _ _ _ ⟨_,_,_,_,_,_,_,_,rfl,_⟩;rfl) (by rintro _ _ _ _ ⟨x,dx,wl,kd,sl,n,ws,p,rfl,r,q⟩;exact QY rk r q);exact⟨⟨f0,xP,F0,zR,b0⟩,⟨f1,tS,F1,xQ,b1⟩,⟨f2,fd2,F2,zS,b2⟩,⟨f3,xR,F3,D3,b3⟩,⟨f4,xS,F4,D4,b4⟩,⟨f5,xT,F5,D5,b5⟩⟩
theorem JS {P:bp}{w:World}{K:Z5}{mg:Str->Option Value}{base:Heap}{CX:CXT}{k:Nat}{f:Addr}{fd:dv}{ps:List Str}{n:Nat}{m:Fn}(F:FnOk P w K mg base mR k f fd ps (spD K n m)):FnOk P w K mg base CX k f fd ps (spD K n m):=
 ⟨F.len,λA outer s H args us vs Q E hr he hb hv hs=>jm (F.run A outer s H args us vs Q E hr he hb hv hs) λr s' z=>by
  cases r with
  |error e=>exact(show False from z).elim
  |ok x=>cases x<;>exact z⟩
theorem Uz {mg:Str->Option Value}{x sl:Addr}{ks:List (Str×Str)}{nm:Str}{sd:List D}{H:Hp}{Q:Hp->Prop}{E:XK}(q:jS mg x sl ks nm sd H Q E):jS mg x sl ks nm sd H (λH'=>∀_:L2.St,Q H') E:=by
 unfold jS at q ⊢;split at q
 .rename_i h;rw[qe h];exact q
 .rename_i h;rw[qf h];cases hu:bI ks sd with
  |some u=>rw[hu]at q;exact q
  |none=>rw[hu]at q;exact λH' s _=>q H' s
include T G GG in
theorem rd5 {nf:Str->Option Int}(CA:ClsAt K CRg CR)(CO:zaj K mg ("OF_A_THING",["fact","open","word"]))(Dn:Dok (gBg (mq 4).st (mq 4).N [("is_name",1)] []) [] [F_z0] P w K mg base 2)(C0:Cal P w K mg base 1 "is_name" ["thing"] (spD K 1 F_z0)){Fn1:Fn}(C1:Cal P w K mg base 2 "number_of" ["figures"] (spD K 1 Fn1))(hnf:∀s,okS s->Fn1 [.str s]=.ok (.fr,optD (nf s)))(nf0:nf ""=Z8)(hi0:isn ""=Z6)(O:∀i r,i<12->Rp[i]?=Z9 r->Own K mg r.nm r.st r.ps):
  ∃f fd,FX P w K mg base 24 f fd ["text"] (spAg K mg isn nf)/\mg "read_act"=Z9 (.ref f)/\Z3 K (.ref f)=Z7/\Binds K fd ["text"] []:=by
 have rk:RowK K CR:=⟨CA.cls,CA.na⟩;obtain⟨⟨f0,xP,F0,zR,b0⟩,⟨f1,tS,F1,xQ,b1⟩,⟨f2,fd2,F2,zS,b2⟩,⟨f3,xR,F3,D3,b3⟩,⟨f4,xS,F4,D4,b4⟩,⟨f5,xT,F5,D5,b5⟩⟩:=msg T G GG CA Dn;have gi:=JM G GG
 let ME:List (Addr×Str×Sp):=[(CR,(("peek":Str),z1k K CR)),(CR,(("take":Str),z1g K CR)),(CR,(("take_word":Str),spTW K CR mg)),(CR,(("take_name":Str),spTN K CR mg isn)),(CR,(("take_end":Str),y0 K CR mg))]
 have qF:∀(r j:Nat) (m:Str) (n:Nat),3<=r->NN[j]?=Z9 (m,n)->∃C sp f fd ps k,ME[j]?=Z9 (C,m,sp)/\k<=r/\FX P w K mg base k f fd ps sp/\Cls K C/\Meth K C m f/\Binds K fd ps []:=λr j m n hr e=>by
  rcases j with _|_|_|_|_|j
  .cases e;exact⟨CR,_,f1,tS,_,1,rfl,by omega,F1,CA.cls,xQ,b1⟩
  .cases e;exact⟨CR,_,f2,fd2,_,2,rfl,by omega,F2,CA.cls,zS,b2⟩
  .cases e;exact⟨CR,_,f3,xR,_,3,rfl,hr,F3,CA.cls,D3,b3⟩
  .cases e;exact⟨CR,_,f4,xS,_,3,rfl,hr,F4,CA.cls,D4,b4⟩
  .cases e;exact⟨CR,_,f5,xT,_,3,rfl,hr,F5,CA.cls,D5,b5⟩
  .cases e
 obtain⟨g2,gd2,Gu2,UA,UB,UC⟩:=O 2 _ (by decide) rfl;obtain⟨g3,qG,UD,xU,xV,xW⟩:=O 3 _ (by decide) rfl;obtain⟨g4,tT,UE,zT,zU,zV⟩:=O 4 _ (by decide) rfl;obtain⟨g5,xX,UG,JT,JU,JV⟩:=O 5 _ (by decide) rfl;obtain⟨g6,gd6,Gu6,UH,UI,UJ⟩:=O 6 _ (by decide) rfl;obtain⟨g7,JW,UK,UL,UM,UN⟩:=O 7 _ (by decide) rfl;obtain⟨g8,gd8,Gu8,UO,UP,UQ⟩:=O 8 _ (by decide) rfl;obtain⟨g9,gd9,Gu9,UR,US,UT⟩:=O 9 _ (by decide) rfl;obtain⟨JX,xY,D7,D8,D9,Ea⟩:=O 10 _ (by decide) rfl;obtain⟨g11,gd11,Gu11,Eb,Ec,Ed⟩:=O 11 _ (by decide) rfl;obtain⟨i0,UU,I0,UW,UX,UY⟩:=C0;obtain⟨i1,UZ,I1,oN,U0,U1⟩:=C1;have no:∀(j:Nat) (x:Str) (n:Nat) {α:Prop},([]:List (Str×Nat))[j]?=Z9 (x,n)->α:=λj x n α e=>by cases e
 have H2:FX P w K mg base 4 g2 gd2 ["row"] (spNs K CR mg isn):=w_fn (Γ:=gg (pq 2) [] OFc [("is_name",1)] NN [] []) (Z:=zg K mg [spD K 1 F_z0] ME [] [OFT]) (s:=Rd.readNames) Gu2 (scg t_P (i:=2) rfl) rfl rfl (dokc T CO) (fun E=>⟨rfl,rfl,(fun j x n e=>by
   rcases j with _|j
   .cases e;exact⟨_,i0,UU,_,1,rfl,by decide,JS I0,UW,UX,UY⟩
   .cases e),(λj m n e=>qF 3 j m n (ah _) e),nofun,gi,nofun,nofun,nofun⟩) rfl (by decide+kernel)
  (by rintro _ _ _ _ ⟨_,_,_,_,_,_,_,_,_,_,rfl,_⟩;rfl) (by rintro _ _ _ _ ⟨x,dx,wl,kd,sl,n,ws,ks,p,sd,rfl,r,n0,q⟩;exact zqa rk rfl rfl ⟨F_z0,rfl,λs ok=>IP ok.2⟩ rfl n0 r q)
 have H6:FX P w K mg base 4 g6 gd6 ["row","name"] (spBd K CR mg nf):=w_fn (Γ:=gg (pq 6) [] [] [("number_of",1)] NN [] []) (Z:=zg K mg [spD K 1 Fn1] ME []) (s:=Rd.readBound) Gu6 (scg t_P (i:=6) rfl) rfl rfl (dokg T) (fun E=>⟨rfl,rfl,(fun j x n e=>by
   rcases j with _|j
   .cases e;exact⟨_,i1,UZ,_,2,rfl,by decide,JS I1,oN,U0,U1⟩
   .cases e),(λj m n e=>qF 3 j m n (ah _) e),nofun,gi,nofun,nofun,nofun⟩) rfl (by decide+kernel)
  (by rintro _ _ _ _ ⟨_,_,_,_,_,_,_,_,_,_,_,rfl,_⟩;rfl) (by rintro _ _ _ _ ⟨x,dx,wl,kd,sl,n,ws,ks,p,sd,nm,rfl,r,jR,q⟩;exact zo1 rk rfl rfl ⟨Fn1,rfl,hnf⟩ nf0 r jR q)
 have Bo:∀(x:Str) (fa:Addr) (zW:dv) (k r:Nat) (f:List Str->List (Str×Str)->Nat->List D->Ro),wkL (gg (pq 5) [] [] [] NN [] [(x,2)]) Rd.fJ (z0n (pq 5).st)=Z7->3<=k->FX P w K mg base k fa zW ["row","room"] (spR K CR mg r f)->mg x=Z9 (.ref fa)->Z3 K (.ref fa)=Z7->Binds K zW ["row","room"] []->FX P w K mg base (k+1) g5 xX ["row","read_part","room"] (jQ K CR mg fa r f):=λx fa zW k r f hv hk Ff hm U2 hb=>
  w_fn (Γ:=gg (pq 5) [] [] [] NN [] [(x,2)]) (Z:=zg K mg [] ME [] [] [(fa,spR K CR mg r f)]) (s:=Rd.fJ) UG (scg t_P (i:=5) rfl) rfl rfl (dokg T) (λE=>⟨rfl,rfl,nofun,(λj m n e=>qF k j m n hk e),nofun,gi,(λj x' n e=>by
   rcases j with _|j
   .cases e;exact⟨_,fa,zW,_,k,rfl,ah _,Ff,hm,U2,hb⟩
   .cases e),nofun,nofun⟩) rfl hv
  (by rintro _ _ _ _ ⟨_,_,_,_,_,_,_,_,_,_,rfl,_⟩;rfl) (by rintro _ _ _ _ ⟨x,dx,wl,kd,sl,n,ws,ks,p,sd,rfl,g,q⟩;exact zfl rk rfl rfl rfl g q)
 have JY:∀(r k:Nat) (s0 s1:Sp),(∃k',k'<=k/\FX P w K mg base k' g3 qG ["row","room"] s0)->(∃k',k'<=k/\FX P w K mg base k' g5 xX ["row","read_part","room"] s1)->4<=k->(∀r',r=r'+1->s0=(spR K CR mg r' λws ks=>z18 isn nf ws ks r')/\s1=jQ K CR mg g3 r' λws ks=>z18 isn nf ws ks r')->FX P w K mg base (k+1) g3 qG ["row","room"] (spR K CR mg r λws ks=>z18 isn nf ws ks r):=λr k s0 s1 ⟨k0,l0,A0⟩ ⟨k1,l1,A1⟩ hk hz=>
  w_fn (Γ:=gg (pq 3) [] OFc [("read_saying",2),("read_both",3),("read_bound",2)] NN [] [("read_saying",2)]) (Z:=zg K mg [s0,s1,spBd K CR mg nf] ME [] [OFT] [(g3,s0)]) (s:=Rd.fH) UD (scg t_P (i:=3) rfl) rfl rfl (dokc T CO) (λE=>⟨rfl,rfl,(λj x n e=>by
   rcases j with _|_|_|j
   .cases e;exact⟨_,g3,qG,_,k0,rfl,l0,A0,xU,xV,xW⟩
   .cases e;exact⟨_,g5,xX,_,k1,rfl,l1,A1,JT,JU,JV⟩
   .cases e;exact⟨_,g6,gd6,_,4,rfl,hk,H6,UH,UI,UJ⟩
   .cases e),(λj m n e=>qF k j m n (by omega) e),nofun,gi,(λj x n e=>by
   rcases j with _|j
   .cases e;exact⟨_,g3,qG,_,k0,rfl,l0,A0,xU,xV,xW⟩
   .cases e),nofun,nofun⟩) rfl (by decide+kernel)
  (by rintro _ _ _ _ ⟨_,_,_,_,_,_,_,_,_,_,rfl,_⟩;rfl) (by rintro _ _ _ _ ⟨x,dx,wl,kd,sl,n,ws,ks,p,sd,rfl,g,q⟩;exact zlj rk ⟨rfl,rfl,rfl,rfl,rfl,λr' e=>by obtain⟨rfl,rfl⟩:=hz r' e;exact⟨rfl,g3,_,rfl,rfl⟩⟩ hi0 g q)
 have Sy:∀r,FX P w K mg base (5+2*r) g3 qG ["row","room"] (spR K CR mg r λws ks=>z18 isn nf ws ks r):=λr=>by
  induction r with
  |zero=>exact JY 0 4 (λ_ _ _ _=>False) (λ_ _ _ _=>False) ⟨0,by decide,xO⟩ ⟨0,by decide,xO⟩ (by decide) λr' e=>by cases e
  |succ r ih=>have hb:=Bo "read_saying" g3 qG (5+2*r) r _ (by decide+kernel) (by omega) ih xU xV xW;rw[show 5+2*(r+1)=6+2*r+1 by omega];exact JY (r+1) (6+2*r) _ _ ⟨_,by omega,ih⟩ ⟨_,by omega,hb⟩ (by omega) λr' e=>by cases e;exact⟨rfl,rfl⟩
 have JZ:∀(r k:Nat) (s0 s1 s2:Sp),(∃k',k'<=k/\FX P w K mg base k' g4 tT ["row","room"] s0)->(∃k',k'<=k/\FX P w K mg base k' g5 xX ["row","read_part","room"] s1)->(∃k',k'<=k/\FX P w K mg base k' g3 qG ["row","room"] s2)->4<=k->(∀r',r=r'+1->s0=(spR K CR mg r' λws ks=>z1n isn nf ws ks r')/\(s1=jQ K CR mg g4 r' λws ks=>z1n isn nf ws ks r')/\s2=spR K CR mg r' λws ks=>z18 isn nf ws ks r')->FX P w K mg base (k+1) g4 tT ["row","room"] (spR K CR mg r λws ks=>z1n isn nf ws ks r):=λr k s0 s1 s2 ⟨k0,l0,A0⟩ ⟨k1,l1,A1⟩ ⟨k2,l2,A2⟩ hk hz=>
  w_fn (Γ:=gg (pq 4) [] [] [("read_asking",2),("read_both",3),("read_saying",2)] NN [] [("read_asking",2)]) (Z:=zg K mg [s0,s1,s2] ME [] [] [(g4,s0)]) (s:=Rd.fI) UE (scg t_P (i:=4) rfl) rfl rfl (dokg T) (λE=>⟨rfl,rfl,(λj x n e=>by
   rcases j with _|_|_|j
   .cases e;exact⟨_,g4,tT,_,k0,rfl,l0,A0,zT,zU,zV⟩
   .cases e;exact⟨_,g5,xX,_,k1,rfl,l1,A1,JT,JU,JV⟩
   .cases e;exact⟨_,g3,qG,_,k2,rfl,l2,A2,xU,xV,xW⟩
   .cases e),(λj m n e=>qF k j m n (by omega) e),nofun,gi,(λj x n e=>by
   rcases j with _|j
   .cases e;exact⟨_,g4,tT,_,k0,rfl,l0,A0,zT,zU,zV⟩
   .cases e),nofun,nofun⟩) rfl (by decide+kernel)
  (by rintro _ _ _ _ ⟨_,_,_,_,_,_,_,_,_,_,rfl,_⟩;rfl) (by rintro _ _ _ _ ⟨x,dx,wl,kd,sl,n,ws,ks,p,sd,rfl,g,q⟩;exact zkm rk ⟨rfl,rfl,λr' e=>by obtain⟨rfl,rfl,rfl⟩:=hz r' e;exact⟨rfl,⟨g4,_,rfl,rfl⟩,rfl⟩⟩ g q)
 have Ak:∀r,FX P w K mg base (6+2*r) g4 tT ["row","room"] (spR K CR mg r λws ks=>z1n isn nf ws ks r):=λr=>by
  induction r with
  |zero=>exact JZ 0 5 (λ_ _ _ _=>False) (λ_ _ _ _=>False) (λ_ _ _ _=>False) ⟨0,by decide,xO⟩ ⟨0,by decide,xO⟩ ⟨0,by decide,xO⟩ (by decide) λr' e=>by cases e
  |succ r ih=>have hb:=Bo "read_asking" g4 tT (6+2*r) r _ (by decide+kernel) (by omega) ih zT zU zV;rw[show 6+2*(r+1)=7+2*r+1 by omega];exact JZ (r+1) (7+2*r) _ _ _ ⟨_,by omega,ih⟩ ⟨_,by omega,hb⟩ ⟨_,by omega,Sy r⟩ (by omega) λr' e=>by cases e;exact⟨rfl,rfl,rfl⟩
 have H7:FX P w K mg base 4 g7 JW ["row"] (spHg K CR mg isn):=w_fn (Γ:=gg (pq 7) [] [] [] NN [] []) (Z:=zg K mg [] ME []) (s:=Rd.iV) UK (scg t_P (i:=7) rfl) rfl rfl (dokg T) (λE=>⟨rfl,rfl,nofun,(λj m n e=>qF 3 j m n (ah _) e),nofun,gi,nofun,nofun,nofun⟩) rfl (by decide+kernel) (by rintro _ _ _ _ ⟨_,_,_,_,_,_,_,_,_,_,rfl,_⟩;rfl) (by rintro _ _ _ _ ⟨x,dx,wl,kd,sl,n,ws,ks,p,sd,rfl,g,q⟩;exact zpe rfl rfl g q)
 have H8:FX P w K mg base 5 g8 gd8 ["row"] (spOg K CR mg isn):=w_fn (Γ:=gg (pq 8) [] [] [("read_names",1)] NN [] []) (Z:=zg K mg [spNs K CR mg isn] ME []) (s:=Rd.readOpen) Gu8 (scg t_P (i:=8) rfl) rfl rfl (dokg T) (fun E=>⟨rfl,rfl,(fun j x n e=>by
   rcases j with _|j
   .cases e;exact⟨_,g2,gd2,_,4,rfl,by decide,H2,UA,UB,UC⟩
   .cases e),(λj m n e=>qF 4 j m n (by decide) e),nofun,gi,nofun,nofun,nofun⟩) rfl (by decide+kernel)
  (by rintro _ _ _ _ ⟨_,_,_,_,_,_,_,_,_,_,rfl,_⟩;rfl) (by rintro _ _ _ _ ⟨x,dx,wl,kd,sl,n,ws,ks,p,sd,rfl,g,n0,q⟩;exact zng rk rfl rfl rfl rfl n0 g q)
 have H9:FX P w K mg base 23 g9 gd9 ["row"] (spRg K CR mg isn nf):=w_fn (Γ:=gg (pq 9) [] [] [("read_open",1),("read_head",1),("read_saying",2),("read_asking",2)] NN [] []) (Z:=zg K mg [spOg K CR mg isn,spHg K CR mg isn,spR K CR mg 8 fun ws ks=>z18 isn nf ws ks 8,spR K CR mg 8 fun ws ks=>z1n isn nf ws ks 8] ME []) (s:=Rd.readRow) Gu9 (scg t_P (i:=9) rfl) rfl rfl (dokg T) (fun E=>⟨rfl,rfl,(fun j x n e=>by
   rcases j with _|_|_|_|j
   .cases e;exact⟨_,g8,gd8,_,5,rfl,by decide,H8,UO,UP,UQ⟩
   .cases e;exact⟨_,g7,JW,_,4,rfl,by decide,H7,UL,UM,UN⟩
   .cases e;exact⟨_,g3,qG,_,21,rfl,by decide,Sy 8,xU,xV,xW⟩
   .cases e;exact⟨_,g4,tT,_,22,rfl,by decide,Ak 8,zT,zU,zV⟩
   .cases e),(λj m n e=>qF 22 j m n (by decide) e),nofun,gi,nofun,nofun,nofun⟩) rfl (by decide+kernel)
  (by rintro _ _ _ _ ⟨_,_,_,_,_,_,_,_,_,rfl,_⟩;rfl) (by rintro _ _ _ _ ⟨x,dx,wl,kd,sl,n,ws,ks,sd,rfl,g,n0,q⟩;exact znp rk ⟨rfl,rfl,rfl,rfl,rfl,rfl,rfl,rfl⟩ n0 g q)
 have U3:FX P w K mg base 4 JX xY ["row","told"] (spCg K CR mg):=w_fn (Γ:=gg (pq 10) [] [] [] NN [] []) (Z:=zg K mg [] ME []) (s:=Rd.fG) D7 (scg t_P (i:=10) rfl) rfl rfl (dokg T) (λE=>⟨rfl,rfl,nofun,(λj m n e=>qF 3 j m n (ah _) e),nofun,gi,nofun,nofun,nofun⟩) rfl (by decide+kernel) (by rintro _ _ _ _ ⟨_,_,_,_,_,_,_,_,_,_,_,rfl,_⟩;rfl) (by rintro _ _ _ _ ⟨x,dx,wl,kd,sl,n,ws,ks,p,sd,nm,rfl,g,jR,q⟩;exact Ri rk g jR (Uz q))
 have H11:FX P w K mg base 24 g11 gd11 ["text"] (spAg K mg isn nf):=w_fn (Γ:=gg (pq 11) [] [] [("read_row",1),("check_names",2)] [] [("Row",3)] []) (Z:=zg K mg [spRg K CR mg isn nf,spCg K CR mg] [] [(CR,spRI K CR)]) (s:=Rd.readAct) Gu11 (scg t_P (i:=11) rfl) rfl rfl (dokg T) (fun E=>⟨rfl,rfl,(fun j x n e=>by
   rcases j with _|_|j
   .cases e;exact⟨_,g9,gd9,_,23,rfl,by decide,H9,UR,US,UT⟩
   .cases e;exact⟨_,JX,xY,_,4,rfl,by decide,U3,D8,D9,Ea⟩
   .cases e),nofun,(λj x n e=>by
   rcases j with _|j
   .cases e;exact⟨CR,_,f0,xP,_,1,rfl,by decide,F0,⟨CA.RJ,zR.at_,zR.fn,CA.kp⟩,G _ _ CA.ns,b0⟩
   .cases e),gi,nofun,nofun,nofun⟩) rfl (by decide+kernel)
  (by rintro _ _ _ _ ⟨_,_,_,rfl,_⟩;rfl) (by rintro _ _ _ _ ⟨v,d,B,rfl,rv,n0,hd,q⟩;exact zml rfl rfl rfl rfl rv n0 hd q)
 exact⟨g11,gd11,H11,Eb,Ec,Ed⟩
end
theorem Ee:chkL (Lr.G (Rz++[Lr])) tQ (z0n (top 41))=true:=by decide+kernel
theorem U4 {ds:List D}{x}(h:qE ds=.ok x):∃d act,ds=[d]/\DY d/\tq isn dW d=.ok act/\x=(.fr,.list act):=by
 unfold qE at h;split at h
 .rename_i d;split at h
  .rename_i ht;split at h
   .rename_i act he;cases h;exact⟨d,act,rfl,ht,he,rfl⟩
   .cases h
  .cases h
 .cases h
theorem allR {l:W.OpenLaw}{w:World}{K:Z5}{mg:Str->Option Value}{CR:Addr}{h:Heap}{fa:Addr}(X:K.In h)(Gn:h.Ns bq mg)(hfa:mg "law"=Z9 (.ref fa))(hK:kOks K Rz)(kl:∃f fd,Kf K Lr f fd)(hz:∀n∈FREE,W.nsIn K bq n=Z9 Z8)(hC:∀r∈Rz++[Lr],∀y∈r.kc,ck1 K y=Z7)(CA:ClsAt K CRg CR)(GG:∀g∈Gg,∃t,W.nsIn K bq g.1=Z9 (Z9 (.int g.2 t))):
  ∃fd:dv,(∀(s:au) (v:Value),nr s fd ⟨[v],[]⟩ [("_law_script",v)])/\∀base:Heap,K.In base->base.Ns bq mg->FnOk l.prog w K mg base mR 48 fa fd ["_law_script"] (spD K 1 xN):=by
 obtain⟨f,fd,a,oc,od,an,sl,kV,dc,pm,cd,ct,rfl,lk,hc,hk⟩:=kl;have e:=hfa.symm.trans (W.mg_of X Gn a);cases e;have T:∀n∈FREE,mg n=none:=λn hn=>W.mg_none_of X Gn (hz n hn);have Gx:∀(x:Str) (v:Value),W.nsIn K bq x=Z9 (Z9 v)->mg x=Z9 v:=λx v e=>W.mg_of X Gn e;refine⟨W.fnOf "law" "law" (z1d (top 41)) (z0n (top 41)) (z0a (top 41)) .none kV dc pm an cd ct,λs v=>.of_eq rfl,λbase _ _=>?_⟩;have O:∀i r,i<47->(Rz++[Lr])[i]?=Z9 r->Own K mg r.nm r.st r.ps:=λi r hi e=>by rw[df (show i<Rz.length from hi)]at e;obtain⟨⟨f,fd,a,oc,od,an,sl,kV,dc,pm,cd,ct,rfl,lk,hc,hk⟩,hb⟩:=Hf hK e;exact znv X Gn a lk hc hk hb
 have Ef:∀r∈Rz++[Lr],∀y∈r.kc,zaj K mg y:=λr hr y hy=>Qa X Gn (hC r hr y hy);have cK:∀j c,j<47->(Rz++[Lr])[j]?=Z9 c->uk l.prog w K mg base j c:=λj c hj hc=>P' tR Uw T 47 Ef O j c hj hc;have hr:(Rz++[Lr])[47]?=Z9 Lr:=rfl;have ho:Lr.ok (Rz++[Lr]) FREE 47=true:=yN tR hr;have D:=Hd (P:=l.prog) (w:=w) (K:=K) (base:=base) hr ho T (Ef Lr (ba _ (.head _))) cK;have n0:=sY (cK 0 _ (by decide) rfl) (Rs:=Rz++[Lr]) rfl rfl;have n1:=sY (cK 1 _ (by decide) rfl) (Rs:=Rz++[Lr]) rfl rfl
 have Dn:Dok (gBg (mq 4).st (mq 4).N [("is_name",1)] []) [] [F_z0] l.prog w K mg base 2:={
  free:=λx hx=>T x (cw.mp hx)
  fns:=λj f n e=>by
   rcases j with _|j
   .cases e;exact⟨F_z0,1,["thing"],rfl,by decide,n0⟩
   .cases e
  cst:=λj x e=>by cases e}
 have CO:=Ef (Rp.getD 2 Lr) (.tail _ (.tail _ (.head _))) ("OF_A_THING",["fact","open","word"]) (.head _);obtain⟨ft,U5,Ft,mt,kt,bt⟩:=rd5 (P:=l.prog) (w:=w) (base:=base) (nf:=dW) (Fn1:=tE) T Gx GG CA CO Dn n0 n1 (λs ok=>Sx ok.2) Sz DD λi r hi e=>O i r (by omega) (by have z:Rz++[Lr]=Rp++(Lz++[Lr]):=c9 ..;rw[z,df hi];exact e);have C1:Cal l.prog w K mg base 24 "read_act" ["text"] (spD K 1 qE):=by refine⟨ft,U5,Ux Ft λvs H Q E ⟨A,ds,x,h1,h2,h3,q⟩=>?_,mt,kt,bt⟩;obtain⟨d,act,rfl,ra,he,rfl⟩:=U4 h3;obtain⟨v,t,rfl,rv,rt⟩:=h2;cases rt;refine⟨v,d,A,rfl,rv,ra.1,ra.2,?_⟩;rw[he];exact λH' l s r=>q _ H' s r
 have D':Dok (Lr.G (Rz++[Lr])) [] [lO,cV 12,qE,uF,uE] l.prog w K mg base 47:=(Uy D (i:=2) rfl (by decide) (k:=24) (by decide) C1);exact d_fn (Γ:=Lr.G (Rz++[Lr])) (Κ:=[]) (s:=tQ) (AE (st:=top 41) lk hc hk) (scg tR (i:=47) rfl) rfl rfl rfl D' Ee
def tU:DefRec:=⟨"law",z1d (top 41),z0n (top 41),z0a (top 41),⟨302,0,314,84⟩⟩
theorem zX:KEq tV (Rz++[Lr]) FREE:=by
 rw[PySem.W.Fast.tkeq_eq];intro P
 kernel_rfl
theorem U6:Tp.said PySem.Challenge.rw_likebook_k57_whole_read_again=true:=by
 rw[PySem.W.Fast.tsaid_eq]
 kernel_rfl
theorem U7:W.opening mI=W.plainProg mI.main.scope.names:=by kernel_rfl
theorem U8:∀s,fenceModules? mI s=Z9 s:=λs=>by kernel_rfl
theorem U9:W.defOf uN PySem.Challenge.rw_likebook_k57_whole_read_again.row.name=Z9 (tU,[]):=by kernel_rfl
theorem U':mI.theDef PySem.Challenge.rw_likebook_k57_whole_read_again.row.name=Z9 (tU.params,tU.body,tU.scope):=by kernel_rfl
theorem Va:W.kwWritten? tU.params.kwonlyargs tU.params.kw_defaults=Z9 []:=by kernel_rfl
theorem Vb:(!PySem.Challenge.rw_likebook_k57_whole_read_again.row.writes||PySem.Challenge.rw_likebook_k57_whole_read_again.row.records.isEmpty)=true:=by kernel_rfl
theorem Vc:(W.chainsOk uN&&W.opensWell mI&&(W.frees PySem.Challenge.rw_likebook_k57_whole_read_again.row.toRowW&&PySem.Challenge.rw_likebook_k57_whole_read_again.row.within.isEmpty))=true:=by kernel_rfl
theorem walk {l:W.OpenLaw}{q:bp}{loose:List Str}{XP:(Str->Option Value)->Heap->Prop}{YP:World->Heap->Prop}{d:DefRec}{K:d8->Z5}(hn:l.most=Z9 63)(hdf:d.params.defaults=[])
  (hY:∀(w:World) (h:Heap),YP w h->(K w.params).In h)
  (F:∀(w:World) (mg:Str->Option Value) (fa:Addr) (h:Heap),(K w.params).In h->h.Ns bq mg->mg d.name=Z9 (.ref fa)->∃fd:dv,(∀(s:au) (u:Value),nr s fd ⟨[u],[]⟩ [("_law_script",u)])/\∀base:Heap,(K w.params).In base->base.Ns bq mg->FnOk l.prog w (K w.params) mg base mR 48 fa fd ["_law_script"] (spD (K w.params) 1 xN)):
  W.WalkO q loose XP YP l.row.toRowW d [] (λf vs=>PySem.call f vs):=
 L2.walk_of (n:=63) (k:=48) (x:="_law_script") (CX:=λ_=>mR) (sp:=λw=>spD (K w.params) 1 xN) hn (by decide) hdf ⟨rfl,by decide,by decide,rfl⟩ hY F (λ_ _ a ns hl _ hS=>⟨_,_,_,rfl,P9 hS,Us hl,λv H' _ r=>r⟩) λ_ _ _ _ _ z=>z
theorem Vd:KCq tV CRg:=by
 rw[PySem.W.Fast.tkcq_eq];intro P
 kernel_rfl
theorem kX:KXq tV Gg:=by
 rw[PySem.W.Fast.tkxq_eq];intro P
 kernel_rfl
theorem Eg:sZ Rz:=by repeat' first|exact trivial|refine⟨λ_ _ _ _ _ _=>um λ_=>rfl,?_⟩|refine⟨λ_ _ _ _ _ _=>Ct λ_ _=>rfl,?_⟩|refine⟨λ_ _ _ _ _ _=>He λ_ _ _=>rfl,?_⟩|refine⟨λ_ _ _ _ _ _=>by4 λ_ _ _ _=>rfl,?_⟩
end Mk
open PySem PySem.W PyProof.Rows Mi
set_option maxRecDepth 100000 in
set_option maxHeartbeats 0 in
theorem PySem.Challenge.cw_likebook_k57_whole_read_again_holds : PySem.Challenge.rw_likebook_k57_whole_read_again.Holds := by
 refine Tp.holds (l:=PySem.Challenge.rw_likebook_k57_whole_read_again) (q:=Mk.uN) (d:=Mk.tU) (K:=Mk.tV) (M:=100000) (N:=200000) Mk.U6 (Tp.uM _ _ Mk.xZ) Mk.U7 rfl Mk.U8 (by decide) Mk.J2 Mk.J3 Mk.U9 Mk.U' Mk.Va Mk.Vb Mk.Vc ⟨rfl,rfl,rfl,rfl,rfl,by decide+kernel⟩ (by w_witness2) ?_;refine Mk.walk (l:=PySem.Challenge.rw_likebook_k57_whole_read_again) rfl rfl (λw h Y=>Y) ?_;intro w mg fa h KX G AD;obtain⟨CR,CA⟩:=RO Mk.Vd w.params;exact Mk.allR (CR:=CR) KX G AD (Hj (λr hr=>(yP Mk.zX w.params).1 r (de _ hr)) Mk.Eg) ((yP Mk.zX w.params).1 Mk.Lr (ba _ (.head _))) (yP Mk.zX w.params).2.1 (yP Mk.zX w.params).2.2 CA (RP Mk.kX w.params)
