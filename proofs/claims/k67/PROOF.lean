import PyProof.Rows.All
import Wide.All
import OpenK.AllK
import PySem.Challenge.RW_likebook_k67_whole_more_rulings
open Lean.Parser.Command in
local macro_rules|`(def $a:declId $b:optDeclSig $c:declVal)=>`(noncomputable def $a:declId $b:optDeclSig $c:declVal)|`(abbrev $a:declId $b:optDeclSig $c:declVal)=>`(noncomputable abbrev $a:declId $b:optDeclSig $c:declVal)
noncomputable section
open Array renaming getD_eq_getD_getElem?→gp,getElem?_eq_some_iff→i8,length_toList→jl,getElem?_eq_getElem→oz,Perm→qr,toArray_toList→su,append_assoc→uu
open Bool renaming and_eq_true_iff→av,and_eq_true→bq,false_ne_true→eg,or_eq_true_iff→gv,or_eq_true→gy,eq_iff_iff→jw,not_eq_true'→j0,beq_eq_decide_eq→mv,and_false→oo,eq_false_iff→ph,and_true→ut,false_eq_true→vm,true_or→vq
open Int renaming toNat_natCast→j4,le_refl→tm,lt_irrefl→ur
open List renaming length_map→ae,mem_singleton→ah,getElem?_eq_getElem→ak,mem_cons→ao,getD_eq_getElem?_getD→au,size_toArray→ax,mem_append_right→ay,getElem?_map→az,mem_map→ba,map_cons→bg,mem_cons_self→bh,all_eq_true→bj,getElem?_eq_some_iff→bp,mem_cons_of_mem→br,length_cons→bt,length_append→bu,replicate→bv,mem_of_getElem?→b0,mem_append→ce,length_replicate→cf,map_append→cj,nodup_cons→cr,mem_append_left→cx,all_cons→db,filter_cons→dg,append_nil→dh,contains_iff_mem→dq,pairwise_cons→dt,getElem?_set_ne→d8,getElem_mem→d9,getElem?_replicate→eh,lookup_cons→e8,filter_eq_nil_iff→e9,mem_filter→fm,range→fq,getElem?_set_self→fz,map_map→gb,length_set→gc,length_take→gf,not_mem_nil→gg,map_inj_left→gj,getElem?_set→gu,filter_eq_self→gw,filter_append→g8,length_eq_zero_iff→ip,append_assoc→ir,filterMap_cons→iw,take_of_length_le→i5,length_zipIdx→i9,take_succ→ja,length_filter_le→jc,getElem?_append_left→jd,flatMap_cons→jk,pairwise_singleton→jp,nodup_nil→jq,mem_filterMap→jr,find?_cons→jv,any_cons→jy,getElem?_append_right→j7,take_length→km,toArray→ko,mem_flatMap→kr,isEmpty_map→kt,getElem?_cons_succ→lx,pairwise_map→ma,foldl_append→mh,any_eq_true→nh,getElem?_append→nq,dropLast_concat_getLast→ny,getElem_of_mem→nz,mem_range→oh,drop_eq_getElem_cons→ou,getElem?_zip_eq_some→ox,mem_or_eq_of_mem_set→pb,length_range→pi,nodup_append→pp,Pairwise→pv,filterMap_cons_none→qa,filterMap_cons_some→qb,sublist_append_left→qc,filter_cons_of_pos→qh,filter_cons_of_neg→qi,isEmpty_iff→qj,map_nil→qm,any_map→qw,of_mem_zip→qx,length_singleton→qz,countP_mono_left→q9,replicate_succ→tz,map_congr_left→t8,zipIdx_map_fst→ub,filter_sublist→uc,flatMap_append→ud,getElem_zipIdx→ue,mem_map_of_mem→uf,take_sublist→vp,ext_getElem?→wf,all_map→wt,map_id→xb
open Nat renaming le_refl→ag,le_trans→bo,zero_le→bw,lt_of_lt_of_le→cg,lt_irrefl→cq,ne_of_lt→cw,le_add_right→jo,lt_of_le_of_lt→ju,pow_le_pow_right→j8,le_of_lt→j9,lt_trans→n8,le_of_not_lt→qf,ne_of_gt→qk,zero_add→qv,add_sub_cancel'→tx,le_succ_of_le→wq
open Option renaming map_eq_some_iff→ci,bind_eq_some_iff→l5,isNone_iff_eq_none→o0,isSome_map→pd
open Prod renaming ext→vy,fst→xr
open PyProof.Rows renaming seqObj→fi,get?_update_seq→lm,kindOf→my,size_push'→mz,listUpdate_at→nl,AllBare→n5,subscriptTail_builtinR→qp,listItems_at→qt,envOfC→si,seqEpoch_at→sw,Constant_none→ug,plain_sorted→wj,entry_sorted→wm,args_sorted1→wp,kind_sorted→wz,IntsAre→xh,keyKind'→xq
open PySem renaming wpAny_bind→ac,wpAny_pure→am,PyData→aq,Shared→aw,sizeLine→bc,mainGlobals→bz,Program→cu,sizeLine_eq→cz,bootBuiltins→df,wpAny_holding→dj,compareOp→dz,wpAny_field→fj,starEach→gh,behindInMarks→gk,assignEach→gm,wpAny_setField_rec→gn,FuncData→gz,wpAny_call_entry→g7,wpAny_seqItems→g9,wpAny_truthy_bool→ig,foldedSetIterable→ij,wpAny_callSpecial?_slot→im,Params→iu,binaryOp→iy,Around→i6,NameKind→i7,letOwnedTupleGo→jg,wpAny_newObj_type→jh,wpAny_getItem_str_slice→jn,tupleKind_room_in1→jt,PassesOwn→jx,wpAny_pyIter_list→jz,sysModules→j5,rawInt→j6,Paired→kz,wpAny_newList→lg,wpAny_passesOwn→li,codeAny_builtin→lj,importedModules→lq,wpAny_Call_Name_kw→lr,wpAny_rule→ls,sliceBounds→lu,treeTable→l9,wpAny_setField→mf,wpAny_mono→mw,swapsWith→mx,codeAny→nk,post_val_or_str→nr,codeAny_mono→n6,wpAny_typeOf→n9,backTo→ol,wpAny_newTuple→oq,wpAny_loadPart_at→pj,wpAny_comprehension_free→pz,wpAny_onRaise→p8,tupleKind→qd,noFill_tuple_add→qe,concat_meets→qo,OsState→qu,wpAny_isTrue_Compare1→qy,wpAny_loadName_local→sh,sliceRange_one→sj,Operator→sr,codeAny_call_builtin→tf,BindsTo→tq,callerA→tu,noteFrame→tw,swapsWithSole→uh,swappedStores→ui,seq_tuple_add→uj,attributeBase→ul,wpAny_standAt→um,plainId_quiet→uq,wpAny_Name→uw,assign→ux,pyIter→uy,wpAny_load→uz,IsPart→vg,wpAny_pyIter_tuple→vj,wpAny_assign_Name→vn,Keyword→vo,valueAt→vw,getItem→vx,seqIndex_neg→vz,slot_list_getitem→wc,getAttr?→wg,wpAny_pyIter_enum→wr,isTrue→wu,pyNext→wv,seqIndex_of→wx,wpAny_letGo→w5,leaving→xg,builtinsNs→xl,bindArgs→xm,typeIs_str→xn,typeOf→xo,call_meets→xp
open PySem.Builtin.Dict renaming updateFrom→qg
open PySem.Builtin.List renaming listExtendWith→oa,listTooLong→pq
open PySem.Builtin.Slice renaming slicePlaces→jf,sliceAdjust→ot
open PySem.Builtin.SmallTypes renaming ownedTupleIsFree→lh,nextOf→oy
open PySem.Builtin.Str renaming strSliceIndices→iz,occurrences→jm
open PySem.Calls renaming call_function_entry→ku,Name_function_global→om
open PySem.Heap renaming get?_push_of_some→af,get?_push_size→a8,lt_size→bn,SameBut→cy,get?_update_other→gq,get?_update_self→jb,get?_none_of_le→se,get?_update_ne→t9,NewExcOf→uo
open PySem.Heap.SameBut renaming update→ua
set_option Elab.async false
set_option genInjectivity false
set_option genSizeOf false
set_option compiler.extract_closed false
set_option linter.all false
set_option maxRecDepth 100000
theorem dc {p:Prop} [Decidable p] (h:decide p=true:=by rfl):p:=by simpa using h
theorem xu {c:Prop}{d:Decidable c}(h:c){α:Sort _}{a b:α}:@ite α c d a b=a:=if_pos h
theorem xw {c:Prop}{d:Decidable c}(h:¬c){α:Sort _}{a b:α}:@ite α c d a b=b:=if_neg h
theorem xx {α}{a b:α}(h:some a=some b):a=b:=Option.some.inj h
theorem x4 {α β}{a c:α}{b d:β}(h:(a,b)=(c,d)):a=c∧b=d:=Prod.mk.inj h
theorem x5 {p:Prop} [Decidable p] (h:decide p=true):p:=of_decide_eq_true h
theorem x6 {p:Prop} [Decidable p] (h:p):decide p=true:=decide_eq_true h
theorem x8 {p:Prop} [Decidable p] (h:¬p):decide p=false:=decide_eq_false h
theorem x9 {α} [BEq α] [LawfulBEq α] {a b:α}(h:(a==b)=true):a=b:=beq_iff_eq.mp h
abbrev aac (x:PySem.Str):Prop:=(x==("__debug__":PySem.Str))=false
namespace Tp
open PySem PySem.W PyProof.Rows
def q0:Pos:=⟨0,0,0,0⟩
def an:Option Value:=some (.ref 6)
def ev (p:cu):Env:={scope:=p.main.scope,locals:=mainNs,globals:=mainNs,cells:=[],code:=.ref 13,frame:=some 14}
def cd (p:cu):Code:=.body (behindTheImports p) (ev p)
def grow:List Obj->Nat->BT->BT
 | [],_,t=>t
 |o::l,i,t=>grow l (i+1) (t.ins i o)
def lift (s:aw):SharedT:=⟨grow s.heap.objs.toList 0 .nil,s.heap.objs.size,s.heap.life,s.gens,s.drawn,s.toks,s.os⟩
def pre (p:cu)(H:iu->Heap)(d:Drawn)(k:Nat)(w:World)(os:qu):Option (aw×Thread):=topGo l9 p w 11 an 12 ⟨H w.params,#[],d,k,os⟩ (topStub p)
def qG (p:cu)(H:iu->Heap)(d:Drawn)(k:Nat)(w:World)(os:qu):SharedT:=lift (((pre p H d k w os).map xr).getD ⟨H w.params,#[],d,k,os⟩)
def run (p:cu)(H:iu->Heap)(d:Drawn)(k N:Nat)(w:World)(os:qu):Option (Flow×SharedT×Code×Pos):=segRunT l9 p w 11 an 1 N (qG p H d k w os) (piecesOf (behindTheImports p) (ev p) (cd p) q0 [topFrame q0])
def PreEq (p:cu)(H:iu->Heap)(d:Drawn)(k:Nat):Prop:=∀(w:World) (os:qu),((H w.params).isNs bz&&(#[]:Array GenState).size==0,(H w.params).objs.size,(H w.params).nsMap bz "__annotations__",pre p H d k w os,λs c=>segRun l9 p w 11 an 1 1 s (blockOf (behindTheImports p) (ev p) c q0 [topFrame q0]))=(true,11,an,some ((qG p H d k w os).abs,⟨denote l9 (cd p),cd p,q0,[topFrame q0]⟩),λs c=>some (.next,s,c,q0))
def seen (p q:cu)(R:WRecords)(as:List Addr)(H:iu->Heap)(w:World)(s:SharedT):=(staticsOk (lq p.main.body) (H w.params) s.abs.heap&&namesBound p s.abs.heap&&gensDone s.abs&&laidKept (H w.params) s.abs.heap,openSeen q [] (lq p.main.body) (λs=>xlAt q [] s&&recOk R s) true s.abs,as.map s.abs.heap.get?)
def pick {α:Type}(f:SharedT->α):Flow×SharedT×Code×Pos->Option (Code×α)
 |(.next,s,c,_)=>some (c,f s)
 |_=>none
def kP (p q:cu)(R:WRecords)(as:List Addr)(K:iu->List (Addr×Obj))(H:iu->Heap)(d:Drawn)(k N:Nat):Prop:=∀(w:World) (os:qu),(run p H d k N w os).bind (pick (seen p q R as H w))=some (cd p,true,openGood q [],(K w.params).map λx=>some x.2)
theorem Es (tb:String->Option Builtin)(p:cu)(w:World)(n:Nat)(a:Option Value)(s:aw)(c:Code)(ps q:Pos):topRun tb p w n a 2 s ⟨doneF .next,c,ps,[topFrame q]⟩=some s:=by rfl
theorem left {K:iu->List (Addr×Obj)}(o:∀w,(fencedOpening l9 p w N).map (fun s=>(s.heap,s.gens,s.drawn,s.toks))=some (boot_heap w.params,#[],boot_drawn,boot_toks))(le:12+(1+(M+2))<=N)
  (h1:PreEq p boot_heap boot_drawn boot_toks) (h2:kP p q R as K boot_heap boot_drawn boot_toks M):LeftO p q [] (λs=>xlAt q [] s&&recOk R s) (λs=>as.map s.heap.get?) (λw=>(K w.params).map λx=>some x.2) N:=λw=>by
 obtain⟨⟨h,gs,d,k,os⟩,e,e'⟩:=ci.mp (o w);have e1:=x4 e';have e2:=x4 e1.2;have e3:=x4 e2.2;obtain rfl:h=boot_heap w.params:=e1.1;obtain rfl:gs=#[]:=e2.1;obtain rfl:d=boot_drawn:=e3.1;obtain rfl:k=boot_toks:=e3.2;have a:=x4 (h1 w os);have a2:=x4 a.2;have a3:=x4 a2.2;have a4:=x4 a3.2;obtain⟨⟨f,s,c,ps⟩,r1,r2⟩:=l5.mp (h2 w os);cases f with
 |next=>
  have b:=x4 (xx r2);have b1:=x4 b.2;have b2:=x4 b1.2;obtain rfl:c=cd p:=b.1;have t1:topRun l9 p w 11 an (M+2) (qG p boot_heap boot_drawn boot_toks w os).abs (restOf (behindTheImports p++[]) (ev p) (cd p) q0 [topFrame q0])=some s.abs:=piece_app (segRun_of r1) (Es l9 p w 11 an s.abs (cd p) ps q0);rw[dh]at t1;have t4:=topRun_mono (N-(12+(1+(M+2)))) _ _ _ _ (go_top a4.1 (piece_block (congrFun (congrFun a4.2 (qG p boot_heap boot_drawn boot_toks w os).abs) (cd p)) t1));rw[tx le]at t4;have t:topFrom l9 p w N ⟨boot_heap w.params,#[],boot_drawn,boot_toks,os⟩=some s.abs:=by unfold topFrom;rw[a.1,a2.1,a3.1,t4];show(match staticsOk (lq p.main.body) (boot_heap w.params) s.abs.heap&&namesBound p s.abs.heap&&gensDone s.abs&&laidKept (boot_heap w.params) s.abs.heap with|true=>some s.abs|false=>none)=_;rw[b1.1]
  unfold openEnds;rw[e];show(topFrom l9 p w N _).map _=_;rw[t];exact congrArg some (vy b2.1 b2.2)
 |_=>cases r2
theorem pre_r:PreEq=PreEq:=rfl
def Et (p q:cu)(R:WRecords)(H:iu->Heap)(w:World)(s:SharedT):=(staticsOk (lq p.main.body) (H w.params) s.abs.heap&&namesBound p s.abs.heap&&gensDone s.abs&&laidKept (H w.params) s.abs.heap,openSeen q [] (lq p.main.body) (λs=>xlAt q [] s&&recOk R s) true s.abs)
def RunA (p q:cu)(R:WRecords)(H:iu->Heap)(d:Drawn)(k N:Nat):Prop:=∀(w:World) (os:qu),(run p H d k N w os).bind (pick (Et p q R H w))=some (cd p,true,openGood q [])
def RunB (p:cu)(as:List Addr)(K:iu->List (Addr×Obj))(H:iu->Heap)(d:Drawn)(k N:Nat):Prop:=∀(w:World) (os:qu),(run p H d k N w os).bind (pick λs=>as.map s.abs.heap.get?)=some (cd p,(K w.params).map λx=>some x.2)
theorem QJ {α β:Type}{f:SharedT->α}{g:SharedT->β}{x:Option (Flow×SharedT×Code×Pos)}{a:α}{b:β}(h1:x.bind (pick f)=some (c,a))(h2:x.bind (pick g)=some (c,b)):x.bind (pick λs=>(f s,g s))=some (c,a,b):=by
 cases x with
 |none=>cases h1
 |some y=>
  obtain⟨fl,s,c',ps⟩:=y;cases fl with
  |next=>have e1:=x4 (xx h1);show some (c',f s,g s)=_;rw[e1.1,e1.2,(x4 (xx h2)).2]
  |_=>cases h1
theorem uN {K:iu->List (Addr×Obj)}(h1:RunA p q R H d k N)(h2:RunB p as K H d k N):kP p q R as K H d k N:=λw os=>by
 have h:=QJ (h1 w os) (h2 w os);cases e:run p H d k N w os with
 |none=>rw[e]at h;cases h
 |some y=>
  rw[e]at h;obtain⟨fl,s,c',ps⟩:=y;cases fl with
  |next=>have e1:=x4 (xx h);have e2:=x4 e1.2;show some (c',(Et p q R H w s).1,(Et p q R H w s).2,as.map s.abs.heap.get?)=_;rw[e1.1,e2.2,e2.1]
  |_=>cases h
theorem runA_r:RunA=RunA:=rfl
theorem runB_r:RunB=RunB:=rfl
end Tp
lay_quick Tp.PreEq Tp.RunA Tp.RunB
name_quick tpre for Tp.PreEq by Tp.pre_r
name_quick truna for Tp.RunA by Tp.runA_r
name_quick trunb for Tp.RunB by Tp.runB_r
namespace Tp
open PySem PySem.W PyProof.Rows
theorem rn_r:run=run:=rfl
end Tp
name_quick trn for Tp.run by Tp.rn_r
namespace Tp
open PySem PySem.W PyProof.Rows
def obj (p:cu)(M:Nat)(P:iu)(a:Addr):Obj:=((PySem.W.Fast.trn p boot_heap boot_drawn boot_toks M ⟨λ_ _=>0,P⟩ default).map λx=>(x.2.1.tree.get a).getD default).getD default
def Ko (p:cu)(M:Nat)(as:List Addr)(P:iu):Frag:=as.map λa=>(a,obj p M P a)
theorem y6 (p:cu)(M:Nat)(as:List Addr)(P:iu):as=(Ko p M as P).map (·.1):=by unfold Ko;rw[gb];exact(xb _).symm
def said (l:OpenLaw):Bool:=l.wellSaid
theorem said_r:said=said:=rfl
theorem holds {K:iu->Frag}(ws:said l=true)(ek:∀P,as=(K P).map (·.1))(o1:opening l.row.prog=plainProg l.row.prog.main.scope.names)(o2:Nat.ble 600 N=true)(o3:∀s,fenceModules? l.row.prog s=some s)(le:12+(1+(M+2))<=N)
  (h1:PreEq l.row.prog boot_heap boot_drawn boot_toks) (h2:kP l.row.prog q l.row.records as K boot_heap boot_drawn boot_toks M) (a1:defOf q l.row.name=some (d,[])) (a2:l.row.prog.theDef l.row.name=some (d.params,d.body,d.scope)) (a3:kwWritten? d.params.kwonlyargs d.params.kw_defaults=some []) (a4:(!l.row.writes||l.row.records.isEmpty)=true)
  (a5:(chainsOk q&&opensWell l.row.prog&&(frees l.row.toRowW&&l.row.within.isEmpty))=true) (a6:l.row.prog.bare) (a7:l.row.toRowW.promised) (call:WalkO q [] (XL q []) (InK K) l.row.toRowW d [] λf vs=>PySem.call f vs):l.Holds:=
 holds_law ws λz=>holds_open (left (boot_open o1 o2 o3) le h1 h2) (InK.of ek) InK.keeps (λs e=>xl_of s (av.mp e).1) XL.keeps a1 a2 a3 (λs e=>recFacts_of (av.mp e).2) a4 z a5 a6 a7 call
end Tp
lay_quick Tp.said
name_quick tsaid for Tp.said by Tp.said_r
namespace Mk
open PySem PySem.Spec PyProof.Rows
abbrev nU:cu:=PySem.Challenge.rw_likebook_k67_whole_more_rulings.row.prog
def y7:cu:=W.view nU [1,2,3,4,5,7,8,9,11,12,13,14,16,17,18,19,21,22,24,25,26,27,28,30,31,32,33,34,35,36,37,38,40,41,42,43,44,45,46,47,48,49,50,51,52,53]
def CC:List Addr:=fq 331
def y8:iu->W.Frag:=Tp.Ko nU 100000 CC
theorem QK:Tp.PreEq nU W.boot_heap W.boot_drawn W.boot_toks:=by
 intro w os
 kernel_rfl
theorem Eu:Tp.RunA nU y7 PySem.Challenge.rw_likebook_k67_whole_more_rulings.row.records W.boot_heap W.boot_drawn W.boot_toks 100000:=by
 rw[PySem.W.Fast.truna_eq];intro w os
 kernel_rfl
theorem Ew:Tp.RunB nU CC y8 W.boot_heap W.boot_drawn W.boot_toks 100000:=by
 rw[PySem.W.Fast.trunb_eq];intro w os
 kernel_rfl
theorem QL:Tp.kP nU y7 PySem.Challenge.rw_likebook_k67_whole_more_rulings.row.records CC y8 W.boot_heap W.boot_drawn W.boot_toks 100000:=Tp.uN Eu Ew
end Mk
namespace L2
open PySem PySem.Spec PyProof.Rows
abbrev Key:=Sum Int Str
def yd:Key->Value->Bool
 |.inl k,v=>Value.isInt k v
 |.inr x,v=>Value.isStrOf x v
def Ex (w:World):Key->Int
 |.inl k=>hashInt k
 |.inr x=>hashStr w x
theorem pN:∀{k:Key} {v:Value},yd k v=true->(∃i t,k=Sum.inl i/\v=Value.int i t)\/(∃x t,k=Sum.inr x/\v=Value.str x t)
 |.inl i,v,h=>by obtain⟨t,e⟩:=Value.isInt_shape h;exact .inl ⟨i,t,rfl,e⟩
 |.inr x,v,h=>by obtain⟨t,e⟩:=Value.isStrOf_shape h;exact .inr ⟨x,t,rfl,e⟩
theorem QM (i:Int)(t:Tok):yd (.inl i) (.int i t)=true:=by simp[yd,Value.isInt]
theorem QN (x:Str)(t:Tok):yd (.inr x) (.str x t)=true:=by simp[yd,Value.isStrOf]
theorem QO (a b:Int):decide ((Sum.inl a:Key)=Sum.inl b)=(a==b):=by
 by_cases e:a=b
 ·subst e;simp
 ·have h:¬(Sum.inl a:Key)=Sum.inl b:=λq=>e (Sum.inl.inj q);rw[x8 h];exact(beq_eq_false_iff_ne.mpr e).symm
theorem QP (a b:Str):decide ((Sum.inr a:Key)=Sum.inr b)=decide (a=b):=by
 by_cases e:a=b
 ·subst e;simp
 ·have h:¬(Sum.inr a:Key)=Sum.inr b:=λq=>e (Sum.inr.inj q);rw[x8 h,x8 e]
theorem QQ (a:Int)(b:Str):decide ((Sum.inl a:Key)=Sum.inr b)=false:=x8 (λq=>nomatch q)
theorem QR (a:Str)(b:Int):decide ((Sum.inr a:Key)=Sum.inl b)=false:=x8 (λq=>nomatch q)
def gA (prog:cu)(w:World):PySem.KeyKind prog w Key where
 is:=yd
 hash:=Ex w
 inj:=λv a b ha hb=>by
  rcases pN ha with⟨i,t,rfl,rfl⟩|⟨x,t,rfl,rfl⟩
  ·rcases pN hb with⟨j,u,rfl,e⟩|⟨y,u,rfl,e⟩
   ·injection e with e1 _;rw[e1]
   ·exact nomatch e
  ·rcases pN hb with⟨j,u,rfl,e⟩|⟨y,u,rfl,e⟩
   ·exact nomatch e
   ·injection e with e1 _;rw[e1]
 byValue:=λk v h=>by rcases pN h with⟨i,t,rfl,rfl⟩|⟨x,t,rfl,rfl⟩<;>rfl
 pyHash:=λhv h=>by
  rcases pN hv with⟨i,t,rfl,rfl⟩|⟨x,t,rfl,rfl⟩
  ·exact wpAny_pyHash_int h
  ·exact wpAny_pyHash_str h
 eqBool:=λhu hv h=>by
  rcases pN hu with⟨i,t,rfl,rfl⟩|⟨x,t,rfl,rfl⟩
  ·rcases pN hv with⟨j,u,rfl,rfl⟩|⟨y,u,rfl,rfl⟩
   ·rw[QO]at h;exact wpAny_eqBool_int h
   ·rw[QQ]at h;exact SeqAt.EqAt.int_str i t y u _ _ _ _ h
  ·rcases pN hv with⟨j,u,rfl,rfl⟩|⟨y,u,rfl,rfl⟩
   ·rw[QR]at h;exact SeqAt.EqAt.str_int x t j u _ _ _ _ h
   ·rw[QP]at h;exact wpAny_eqBool_str h
 «strs»:=λk x t v h=>by
  rcases pN h with⟨i,u,rfl,e⟩|⟨y,u,rfl,e⟩
  ·exact nomatch e
  ·injection e with e1 _;subst e1;cases v<;>rfl
theorem QS (prog:cu)(w:World)(i:Int)(t:Tok):(gA prog w).is (.inl i) (.int i t)=true:=QM i t
theorem QT (prog:cu)(w:World)(x:Str)(t:Tok):(gA prog w).is (.inr x) (.str x t)=true:=QN x t
inductive V where
 |bD|bl (b:Bool)|int (i:Int)|str (x:Str)|ref (a:Addr)|ty (n:String)
 deriving DecidableEq
def RelV:V->Value->Prop
 |.bD,u=>u=Value.none
 |.bl b,u=>u=Value.bool b
 |.int i,u=>∃t,u=Value.int i t
 |.str x,u=>∃t,u=Value.str x t
 |.ref a,u=>u=Value.ref a
 |.ty n,u=>u=Value.type n
abbrev Vals:List V->List Value->Prop:=kz RelV
theorem Vals.length (r:Vals xs us):xs.length=us.length:=Paired.length r
theorem Vals.get:∀{xs:List V} {us:List Value} {i:Nat} {x:V},Vals xs us->xs[i]?=some x->∃u,us[i]?=some u/\RelV x u
 |_,_,_,_,.nil,e=>by simp at e
 |_,_,0,_,.cons r _,e=>by simp at e;subst e;exact⟨_,rfl,r⟩
 |_,_,i+1,x,.cons _ t,e=>by obtain⟨u,h1,h2⟩:=Vals.get t (by simpa using e);exact⟨u,by simpa using h1,h2⟩
theorem Vals.set (r:RelV x u):∀{xs:List V} {us:List Value} (i:Nat),Vals xs us->Vals (xs.set i x) (us.set i u)
 |_,_,_,.nil=>.nil
 |_,_,0,.cons _ t=>.cons r t
 |_,_,i+1,.cons q t=>.cons q (Vals.set r i t)
theorem Vals.append:∀{xs ys:List V} {us ws:List Value},Vals xs us->Vals ys ws->Vals (xs++ys) (us++ws)
 |_,_,_,_,.nil,s=>s
 |_,_,_,_,.cons r t,s=>.cons r (Vals.append t s)
theorem Vals.take:∀{xs:List V} {us:List Value} (n:Nat),Vals xs us->Vals (xs.take n) (us.take n)
 |_,_,0,_=>.nil
 |_,_,_+1,.nil=>.nil
 |_,_,n+1,.cons r t=>.cons r (Vals.take n t)
theorem Vals.drop:∀{xs:List V} {us:List Value} (n:Nat),Vals xs us->Vals (xs.drop n) (us.drop n)
 |_,_,0,r=>r
 |_,_,_+1,.nil=>.nil
 |_,_,n+1,.cons _ t=>Vals.drop n t
def eC:Option V->Option Value->Prop
 |some v,some u=>RelV v u
 |none,none=>True
 |_,_=>False
def KV {κ:Type}:List (κ×V)->List (κ×Value)->Prop:=kz λ(p:κ×V) (q:κ×Value)=>p.1=q.1/\RelV p.2 q.2
def kV:Key->V
 |.inl i=>.int i
 |.inr x=>.str x
inductive HO where
 |lst (xs:List V)
 |tup (xs:List V)
 |dK (kvs:List (Key×V))|dT (kvs:List (List Key×V))
 |set (S:Int->Bool) (n:Nat)
 |ins (C dx:Addr) (fs:List (Str×V))
 |own (x:Addr)
 |xd (fs:List (Str×V))
 |gO (o:Obj) (u:HO)
 |pO (ps:Array Value)
 |ext (φ:Heap->Prop)
abbrev Hp:=Addr->Option HO
def upd (H:Hp)(a:Addr)(o:HO):Hp:=λb=>if b=a then some o else H b
theorem aW:upd H a o a=some o:=by unfold upd;rw[xu rfl]
theorem aC (h:b≠a):upd H a o b=H b:=by unfold upd;rw[xw h]
theorem QU {H:Hp}(h:H a=some o)(h':H b=some u)(d:o≠u):a≠b:=by intro e;subst e;rw[h]at h';exact d (xx h')
theorem cQ {H:Hp}(h:H a=some o)(h':H b=none):a≠b:=by intro e;subst e;rw[h]at h';cases h'
def TupN (h:Heap)(a:Addr)(l:Array Value):Prop:=∃n,h.get? a=some {cls:=.type "tuple",data:=.seq l n}
theorem TupN.tup {h:Heap}{a:Addr}{l:Array Value}(x:TupN h a l):IsTup h a l:=let⟨n,q⟩:=x;⟨_,q,rfl,n,rfl⟩
theorem TupN.new (h:Heap)(l:Array Value):TupN (h.push {cls:=.type "tuple",data:=.seq l}) h.objs.size l:=⟨_,a8 _ rfl⟩
def QV (h:Heap)(a:Addr)(l:Array Value):Prop:=∃o n,h.get? a=some o/\o.cls=.type "tuple"/\o.dict=none/\o.data=.seq l n
section
variable (P:cu)(w:World)
def z15 (H:Hp)(h:Heap)(a:Addr):HO->Prop
 |.lst xs=>xs.length<=bc/\∃(its:List Value) (n:Nat),Vals xs its/\h.get? a=some {cls:=.type "list",data:=.seq its.toArray n}
 |.tup xs=>xs.length<=bc/\∃its:List Value,Vals xs its/\TupN h a its.toArray
 |.dK kvs=>kvs.length<=bc/\(a==j5)=false/\∃vs,KV kvs vs/\h.DictOf (gA P w) a vs
 |.dT kvs=>kvs.length<=bc/\(a==j5)=false/\∃xs:List (List Key×Addr×Value),
  kz (λ(p:List Key×V) (q:List Key×Addr×Value)=>p.1=q.1/\H q.2.1=some (.tup (p.1.map kV))/\RelV p.2 q.2.2) kvs xs/\
  ∃o es ep,h.get? a=some o/\o.ExactDict/\o.data=.dict es ep/\es.toList=xs.map (entryOfKey (qd (gA P w)))/\(xs.map (·.1)).Nodup
 |.set S n=>h.SetOf (intKind P w) a S n
 |.ins C dx fs=>H dx=some (.own a)/\fs.length<=1000/\dx≠a/\h.get? a=some (W.instObj C dx)/\∃mA,h.Ns1 dx mA/\(∀f,eC (fs.lookup f) (mA f))/\PySem.Within mA (fs.map (·.1))
 |.own _=>∃o,h.get? a=some o
 |.xd fs=>∃mA,h.Ns1 a mA/\∀f,eC (fs.lookup f) (mA f)
 |.gO o u=>h.get? a=some o/\z15 H h a u
 |.pO ps=>h.get? a=some {cls:=.none,data:=.fields ps}
 |.ext φ=>φ h/\(∃o,h.get? a=some o)/\∀h1 h2:Heap,φ h1->(∀o,h1.get? a=some o->h2.get? a=some o)->φ h2
def HOk (H:Hp)(h:Heap):Prop:=∀a o,H a=some o->z15 P w H h a o
end
section
variable {P:cu}{w:World}{H H':Hp}{h h':Heap}{a:Addr}{o:HO}
theorem z15.lt (x:z15 P w H h a o):a<h.objs.size:=by
 cases o with
 |lst xs=>obtain⟨_,_,_,_,e⟩:=x;exact bn e
 |tup xs=>obtain⟨_,_,_,_,q⟩:=x;exact bn q
 |dK kvs=>obtain⟨_,_,_,_,o,_,_,e,_⟩:=x;exact bn e
 |dT kvs=>obtain⟨_,_,_,_,o,_,_,e,_⟩:=x;exact bn e
 |set S n=>obtain⟨o,_,_,_,e,_⟩:=x;exact bn e
 |ins C dx fs=>obtain⟨_,_,_,e,_⟩:=x;exact bn e
 |own y=>obtain⟨_,e⟩:=x;exact bn e
 |xd fs=>obtain⟨_,⟨_,_,_,e,_⟩,_⟩:=x;exact bn e
 |gO ob u=>obtain⟨e,_⟩:=x;exact bn e
 |pO ps=>exact bn x
 |ext φ=>obtain⟨_,⟨_,e⟩,_⟩:=x;exact bn e
theorem Paired.uO {α β:Type}{F G:α->β->Prop}:∀{y9:List α} {zi:List β},kz F y9 zi->(∀a b,F a b->G a b)->kz G y9 zi
 |_,_,.nil,_=>.nil
 |_,_,.cons r t,f=>.cons (f _ _ r) (Paired.uO t f)
theorem z15.stay (x:z15 P w H h a o)(k:∀b u,(b=a\/H b=some (.own a))->h.get? b=some u->h'.get? b=some u)
  (ho:∀b,H b=some (.own a)->H' b=some (.own a)) (ht:∀b xs,H b=some (.tup xs)->H' b=some (.tup xs)):z15 P w H' h' a o:=by
 induction o with
 |lst xs=>obtain⟨z,its,n,r,e⟩:=x;exact⟨z,its,n,r,k _ _ (.inl rfl) e⟩
 |tup xs=>obtain⟨z,l,r,n,q⟩:=x;exact⟨z,l,r,n,k _ _ (.inl rfl) q⟩
 |dK kvs=>obtain⟨z,y,vs,r,ob,es,ep,e,c⟩:=x;exact⟨z,y,vs,r,ob,es,ep,k _ _ (.inl rfl) e,c⟩
 |dT kvs=>obtain⟨z,y,xs,r,ob,es,ep,e,c⟩:=x;exact⟨z,y,xs,Paired.uO r λp q z=>⟨z.1,ht _ _ z.2.1,z.2.2⟩,ob,es,ep,k _ _ (.inl rfl) e,c⟩
 |set S n=>obtain⟨ob,es,ep,t,e,c⟩:=x;exact⟨ob,es,ep,t,k _ _ (.inl rfl) e,c⟩
 |ins C dx fs=>obtain⟨d,z,ne,e,mA,⟨od,es,ep,e2,c⟩,r⟩:=x;exact⟨ho _ d,z,ne,k _ _ (.inl rfl) e,mA,⟨od,es,ep,k _ _ (.inr d) e2,c⟩,r⟩
 |own y=>obtain⟨ob,e⟩:=x;exact⟨ob,k _ _ (.inl rfl) e⟩
 |xd fs=>obtain⟨mA,⟨od,es,ep,e,c⟩,r⟩:=x;exact⟨mA,⟨od,es,ep,k _ _ (.inl rfl) e,c⟩,r⟩
 |gO ob u ih=>obtain⟨e,q⟩:=x;exact⟨k _ _ (.inl rfl) e,ih q⟩
 |pO ps=>have e:h.get? a=some {cls:=.none,data:=.fields ps}:=x;exact k a _ (.inl rfl) e
 |ext φ=>obtain⟨p,⟨o,e⟩,st⟩:=x;exact⟨st _ _ p λo q=>k _ _ (.inl rfl) q,⟨o,k _ _ (.inl rfl) e⟩,st⟩
theorem HOk.lt (x:HOk P w H h)(e:H a=some o):a<h.objs.size:=(x a o e).lt
theorem HOk.fresh (x:HOk P w H h)(e:h.objs.size<=a):H a=none:=by
 cases q:H a with
 |none=>rfl
 |some u=>exact absurd (cg (x.lt q) e) (cq _)
theorem HOk.kept (x:HOk P w H h)(k:∀b u,h.get? b=some u->h'.get? b=some u):HOk P w H h':=λa o e=>(x a o e).stay (λb u _ q=>k b u q) (λ_ q=>q) λ_ _ q=>q
theorem HOk.laid (x:HOk P w H h)(k:∀b u,h.get? b=some u->h'.get? b=some u)(hp:h.objs.size<=a)(new:z15 P w (upd H a o) h' a o):HOk P w (upd H a o) h':=λb u e=>by
 have hn:=x.fresh hp;by_cases hb:b=a
 ·subst hb;rw[aW]at e;cases e;exact new
 ·rw[aC hb]at e;exact(x b u e).stay (λc v _ q=>k c v q) (λc q=>by rw[aC (cQ q hn)];exact q) λc xs q=>by rw[aC (cQ q hn)];exact q
end
def Rd (H:Hp)(a:Addr)(u:HO):Prop:=H a=some u\/∃o,H a=some (.gO o u)
theorem Rd.ok (r:Rd H a u)(x:HOk P w H h):z15 P w H h a u:=by
 rcases r with r|⟨o,r⟩
 ·exact x a u r
 ·obtain⟨_,q⟩:=x a _ r;exact q
def Mut:Option HO->Prop
 |some (.lst _)=>True
 |some (.dK _)=>True
 |some (.dT _)=>True
 |some (.set _ _)=>True
 |some (.ins _ _ _)=>True
 |some (.ext _)=>True
 |_=>False
section
variable {P:cu}{w:World}{H:Hp}{h h':Heap}{x e:Addr}{o':HO}
theorem HOk.write (ok:HOk P w H h)(mu:Mut (H x))(he:e=x\/H e=some (.own x))(k:∀b u,b≠e->h.get? b=some u->h'.get? b=some u)(heo:∃u,h'.get? e=some u)
  (new:z15 P w (upd H x o') h' x o'):HOk P w (upd H x o') h':=λb u q=>by
 have zj:∀c y,H c=some (.own y)->c≠x:=λc y r z=>by subst z;rw[r]at mu;exact mu
 have Ey:∀c xs,H c=some (.tup xs)->c≠x:=λc xs r z=>by subst z;rw[r]at mu;exact mu
 by_cases hb:b=x
 ·subst hb;rw[aW]at q;cases q;exact new
 ·rw[aC hb]at q;by_cases uQ:b=e
  ·have q':H b=some (.own x):=by
    rcases he with z|z
    ·exact absurd (uQ.trans z) hb
    ·rw[uQ];exact z
   rw[q]at q';cases q';obtain⟨v,hv⟩:=heo;exact⟨v,by rw[uQ];exact hv⟩
  ·refine(ok b u q).stay (λc v hc r=>k c v ?_ r) (λc r=>by rw[aC (zj c b r)];exact r) λc xs r=>by rw[aC (Ey c xs r)];exact r
   rcases hc with rfl|hc
   ·exact uQ
   ·rintro rfl
    rcases he with z|z
    ·exact zj c b hc z
    ·rw[hc]at z;cases z;exact hb rfl
end
structure Un (fs ex:List Addr)(H H':Hp)(h h':Heap):Prop where
 keep:∀b o,h.get? b=some o->H b=none->b∉fs->b∉ex->h'.get? b=some o
 slot:∀b o,h.get? b=some o->H b=none->b∈fs->b∉ex->∃sl,h'.get? b=some {o with slots:=sl}
 free:∀b o,h.get? b=some o->H b=none->b∉ex->H' b=none
 there:∀b o,h.get? b=some o->b∉ex->∃o',h'.get? b=some o'
 dU:∀b xs,H b=some (.tup xs)->H' b=some (.tup xs)
 dO:∀b o u,H b=some (.gO o u)->H' b=some (.gO o u)
 dW:∀b ps,H b=some (.pO ps)->∃more,H' b=some (.pO (ps++more))
section
variable {fs QW ex ex':List Addr}{H H1 H2:Hp}{h h1 h2 h':Heap}{a x e:Addr}{o:HO}
theorem Un.any (u:Un fs ex H H1 h h1)(q:h.get? b=some ob)(n:H b=none)(hx:b∉ex):∃sl,h1.get? b=some {ob with slots:=sl}:=by
 by_cases hb:b∈fs
 ·exact u.slot b ob q n hb hx
 ·exact⟨ob.slots,u.keep b ob q n hb hx⟩
theorem Un.kept (k:∀b u,h.get? b=some u->h'.get? b=some u):Un fs ex H H h h':=⟨λb ob q _ _ _=>k b ob q,λb ob q _ _ _=>⟨ob.slots,k b ob q⟩,λ_ _ _ n _=>n,λb ob q _=>⟨ob,k b ob q⟩,λ_ _ q=>q,λ_ _ _ q=>q,λ_ ps q=>⟨#[],by rw[q];simp⟩⟩
theorem Un.refl:Un fs ex H H h h:=Un.kept λ_ _ q=>q
theorem Un.laid (k:∀b u,h.get? b=some u->h'.get? b=some u)(hp:h.objs.size<=a)(hn:H a=none):Un fs ex H (upd H a o) h h' where
 keep:=λb u q _ _ _=>k b u q
 slot:=λb u q _ _ _=>⟨u.slots,k b u q⟩
 free:=λb u q n _=>by rw[aC (cw (cg (bn q) hp))];exact n
 there:=λb u q _=>⟨u,k b u q⟩
 dU:=λb xs q=>by rw[aC (cQ q hn)];exact q
 dO:=λb u xs q=>by rw[aC (cQ q hn)];exact q
 dW:=λb ps q=>⟨#[],by rw[aC (cQ q hn),q];simp⟩
theorem Un.write (mu:Mut (H x))(he:e=x\/H e=some (.own x))(k:∀b u,b≠e->h.get? b=some u->h'.get? b=some u)(heo:∃u,h'.get? e=some u):Un fs ex H (upd H x o) h h':=by
 have hx:∀b,H b=none->b≠x:=λb n z=>by subst z;rw[n]at mu;exact mu
 have hb:∀b,H b=none->b≠e:=λb n z=>by
  subst z;rcases he with r|r
  ·exact hx b n r
  ·rw[n]at r;cases r
 have hm:∀b u,H b=some u->¬Mut (some u)->b≠x:=λb u q nm z=>by subst z;rw[q]at mu;exact nm mu
 refine⟨λb u q n _ _=>k b u (hb b n) q,λb u q n _ _=>⟨u.slots,k b u (hb b n) q⟩,λb u q n _=>by rw[aC (hx b n)];exact n,λb u q _=>?_,λb xs q=>by rw[aC (hm b _ q λz=>z)];exact q,λb u xs q=>by rw[aC (hm b _ q λz=>z)];exact q,λb ps q=>⟨#[],by rw[aC (hm b _ q λz=>z),q];simp⟩⟩;by_cases uQ:b=e
 ·subst uQ;exact heo
 ·exact⟨u,k b u uQ q⟩
end
def CD (h:Heap)(H:Hp):List Addr:=(fq h.objs.size).filter λa=>(H a).isSome
def iN (h:Heap)(H:Hp):Heap:=W.hideAll h (CD h H)
theorem QX (h:Heap)(H:Hp):(iN h H).objs.size=h.objs.size:=W.hideAll_size _ _
theorem QY (e:h.get? b=some o)(n:H b=none):(iN h H).get? b=some o:=W.hideAll_get _ e λhm=>by have q:=(fm.mp hm).2;rw[n]at q;simp at q
theorem QZ (e:(iN h H).get? b=some o):h.get? b=some o/\H b=none:=by
 have e':=W.of_hideAll (CD h H) e;refine⟨e',?_⟩;cases q:H b with
 |none=>rfl
 |some x=>have hm:b∈CD h H:=fm.mpr ⟨oh.mpr (bn e'),by simp[q]⟩;have z:(iN h H).get? b=none:=W.hideAll_none (CD h H) hm;rw[z]at e;cases e
def zl (g h:Heap)(L:Addr):List (Addr×Obj):=(fq h.objs.size).filterMap λa=>if a=L\/(g.get? a).isSome=true then none else(h.get? a).map λo=>(a,o)
theorem Ez (h1:a≠L)(h2:g.get? a=none)(h3:h.get? a=some o):(a,o)∈zl g h L:=jr.mpr ⟨a,oh.mpr (bn h3),by simp[h1,h2,h3]⟩
theorem Q0 (hp:p∈zl g h L):p.1≠L/\g.get? p.1=none/\h.get? p.1=some p.2:=by
 obtain⟨b,_,e⟩:=jr.mp hp;split at e
 ·cases e
 ·rename_i hn;cases q:h.get? b with
  |none=>rw[q]at e;simp at e
  |some u=>
   rw[q]at e;simp only[Option.map_some,Option.some.injEq]at e;subst e;refine⟨λz=>hn (.inl z),?_,q⟩;cases r:g.get? b with
   |none=>rfl
   |some v=>exact(hn (.inr (by simp[r]))).elim
def rest (g h:Heap)(L d:Addr):List (Addr×Obj):=(zl g h L).filter λp=>decide (p.1≠d)
theorem Ky:∀p∈rest g h L d,p.1≠d:=λp hp=>x5 (fm.mp hp).2
theorem Q3 (h1:a≠L)(h2:g.get? a=none)(h3:h.get? a=some o)(h4:a≠d):(a,o)∈rest g h L d:=fm.mpr ⟨Ez h1 h2 h3,x6 h4⟩
theorem Kz:News g L h (zl g h L):=λp hp=>let⟨a,b,c⟩:=Q0 hp;⟨c,a,b⟩
theorem qH (h1:d≠L)(h2:g.get? d=none)(h3:h.get? d=some o):News g L h ((d,o)::rest g h L d):=λp hp=>by
 rcases ao.mp hp with rfl|hp
 ·exact⟨h3,h1,h2⟩
 ·exact Kz p (fm.mp hp).1
theorem z77 (k:∀b o,g.get? b=some o->h.get? b=some o)(F:Fr g L h' m)(N:News g L h' (rest g h L d)):
  ∀b o,b≠L->b≠d->h.get? b=some o->h'.get? b=some o:=λb o h1 h2 e=>by
 cases q:g.get? b with
 |some u=>have:=k b u q;rw[e]at this;cases this;exact F.keep b _ q
 |none=>exact(N (b,o) (Q3 h1 q e h2)).1
structure Mod (K:W.Frag)(mg:Str->Option Value)(base:Heap):Prop where
 EA:K.In base
 glob:base.Ns bz mg
 blt:∃mb,base.Ns xl mb/\∀x:Str,x≠"__name__"->mb x=df x
 nolimit:base.NoLimit
structure Cx where
 prog:cu
 w:World
 K:W.Frag
 mg:Str->Option Value
 base:Heap
 A:i6
 N:List Str
 s₀:aw
 iO:Hp
 env:Env
 outer:List Env
 stack:List Env
 ex:List Addr
 fn:Str->Bool
 calm:Bool
 pn:List (Addr×Obj)
 xe:Value->aw->Prop
 fx:List (Str×Value):=[]
def frs (l:List Env):List Addr:=l.filterMap (·.frame)
abbrev Cx.fs (X:Cx):List Addr:=frs X.outer
def Vis (sc:Scope)(x:Str):Prop:=sc.names.lookup x=some .local\/sc.names.lookup x=some .cell\/sc.names.lookup x=some .free
def Loc (sc:Scope)(x:Str):Prop:=sc.names.lookup x=some .local\/sc.names.lookup x=some .cell
def Look (env:Env)(h:Heap)(m:Str->Option Value)(x:Str)(u:Value):Prop:=(env.kindOf x=some .local/\m x=some u)\/((env.kindOf x=some .cell\/env.kindOf x=some .free)/\∃c,env.cells.lookup x=some c/\h.IsCell c (some u))
def Sto (X:Cx)(x:Str):Prop:=(X.fn x=true\/X.env.scope.names.lookup x=some .local)/\∀u,(x,u)∉X.fx
structure Cx.Ok (X:Cx):Prop where
 mod:Mod X.K X.mg X.base
 kind:X.env.scope.kind=.function
 glob:X.env.globals=bz
 blt:X.env.builtins=xl
 above:X.s₀.heap.objs.size<=X.env.locals
 inj:∀x y c,X.env.cells.lookup x=some c->X.env.cells.lookup y=some c->x=y
 has:∀x,(X.env.kindOf x=some .cell\/X.env.kindOf x=some .free)->∃c,X.env.cells.lookup x=some c
 ye:∀x c,X.fn x=true->X.env.cells.lookup x=some c->X.s₀.heap.objs.size<=c
 hd:X.calm=true->X.A.handled=none
 frames:X.A.frames=some X.stack
 zp:X.stack=X.outer\/(X.stack=X.env::X.outer/\X.env.frame=some X.env.locals)
 zr:∀b∈X.ex,b≠X.env.locals/\∀x c,X.env.cells.lookup x=some c->c≠b
 bs:∀b o,X.base.get? b=some o->X.s₀.heap.get? b=some o/\X.iO b=none
 nB:X.base.objs.size<=X.s₀.heap.objs.size
 lK:∀b o,X.base.get? b=some o->b∉X.ex
 lM:∀b∈X.ex,b∉X.fs
 dX:X.s₀.heap.FunFrames X.base X.outer
 uR:∀b∈X.fs,X.iO b=none
 EB:∀x u,(x,u)∈X.fx->X.env.scope.names.lookup x=some .local
structure Inv (X:Cx)(pins:List (Addr×Obj))(U:List (Option V))(H:Hp)(s:aw):Prop where
 ok:X.Ok
 os:s.os=X.s₀.os
 bare:n5 s.gens
 base:Un X.fs X.ex X.iO H X.s₀.heap s.heap
 loc:∃m,s.heap.Ns X.env.locals m/\∀(i:Nat) (x:Str) (v:V),X.N[i]?=some x->U[i]?=some (some v)->Vis X.env.scope x->∃u,RelV v u/\Look X.env s.heap m x u
 cell:∀x c,X.env.cells.lookup x=some c->∃v,s.heap.IsCell c v
 free:H X.env.locals=none
 bX:∀x c,X.env.cells.lookup x=some c->H c=none
 pin:∀p∈X.pn++pins,s.heap.get? p.1=some p.2/\H p.1=none/\p.1≠X.env.locals/\p.1∉X.fs/\∀v,p.2.data≠.cell v
 hok:HOk X.prog X.w H s.heap
 len:U.length=X.N.length
 fx:∀x u,(x,u)∈X.fx->∃m,s.heap.Ns X.env.locals m/\m x=some u
section
variable {X:Cx}{pins:List (Addr×Obj)}{U:List (Option V)}{H H':Hp}{s:aw}{h':Heap}
theorem Cx.Ok.zt (ok:X.Ok)(e:X.base.get? b=some o):b∉X.fs:=λhb=>by have:=(ok.dX.mem hb).1;rw[e]at this;cases this
theorem Inv.bs (I:Inv X pins U H s):∀b o,X.base.get? b=some o->s.heap.get? b=some o/\H b=none:=λb o e=>⟨I.base.keep b o (I.ok.bs b o e).1 (I.ok.bs b o e).2 (I.ok.zt e) (I.ok.lK b o e),I.base.free b o (I.ok.bs b o e).1 (I.ok.bs b o e).2 (I.ok.lK b o e)⟩
theorem Inv.bk (I:Inv X pins U H s):∀b o,X.base.get? b=some o->s.heap.get? b=some o:=λb o e=>(I.bs b o e).1
theorem Inv.mod (I:Inv X pins U H s):Mod X.K X.mg X.base:=I.ok.mod
theorem Inv.gB (I:Inv X pins U H s):X.K.In s.heap:=I.ok.mod.EA.keeps I.bk
theorem Inv.fr (I:Inv X pins U H s):∃m,Fr X.base X.env.locals s.heap m:=
 let⟨m,hn,_⟩:=I.loc
 ⟨m,hn,I.bk,bo I.ok.nB I.ok.above⟩
theorem Inv.lt (I:Inv X pins U H s):X.env.locals<s.heap.objs.size:=let⟨_,hn,_⟩:=I.loc;hn.lt
theorem Inv.sz (I:Inv X pins U H s):X.s₀.heap.objs.size<=s.heap.objs.size:=bo I.ok.above (j9 I.lt)
theorem Inv.zu (I:Inv X pins U H s)(h:s.heap.objs.size<=a):a∉X.fs:=λhb=>by obtain⟨_,o,ho,_⟩:=I.ok.dX.mem hb;exact absurd (cg (bn ho) (bo I.sz h)) (cq _)
theorem Inv.tE (I:Inv X pins U H s):∀x c,X.env.cells.lookup x=some c->c≠X.env.locals:=λx c e z=>by obtain⟨v,o,ho,hd⟩:=I.cell x c e;obtain⟨m,⟨o',es,ep,ho',fB,_⟩,_⟩:=I.loc;rw[z,ho']at ho;cases ho;rw[fB]at hd;cases hd
theorem Inv.dX (I:Inv X pins U H s):s.heap.FunFrames X.base X.outer:=by
 have all:∀(l:List Env),(∀b∈frs l,b∈X.fs)->X.s₀.heap.FunFrames X.base l->s.heap.FunFrames X.base l:=by
  intro l
  induction l with
  |nil=>intro _ _;trivial
  |cons env r ih=>intro hs hl;obtain⟨hk,⟨L,o,hf,hn,ho,hd⟩,hr⟩:=hl;have hL:=hs L (by unfold frs;rw[iw,hf];exact bh);obtain⟨sl,e⟩:=I.base.slot L o ho (I.ok.uR L hL) hL λz=>I.ok.lM L z hL;exact⟨hk,⟨L,_,hf,hn,e,hd⟩,ih (λb hb=>hs b (by unfold frs;rw[iw,hf];exact br _ hb)) hr⟩
 exact all X.outer (λ_ hb=>hb) I.ok.dX
theorem Inv.stack (I:Inv X pins U H s):s.heap.FunFrames X.base X.stack:=by
 rcases I.ok.zp with e|⟨e,hf⟩
 ·rw[e];exact I.dX
 ·rw[e];obtain⟨m,hn,_⟩:=I.loc;refine .cons (by rw[I.ok.kind];decide) hf hn ?_ I.dX;exact se (bo I.ok.nB I.ok.above)
theorem Inv.gP (I:Inv X pins U H s):∀b∈frs X.stack,b∈X.env.locals::X.fs:=λb hb=>by
 rcases I.ok.zp with e|⟨e,hf⟩
 ·rw[e]at hb;exact br _ hb
 ·rw[e]at hb;unfold frs at hb;rw[iw,hf]at hb;exact hb
theorem Inv.gQ (I:Inv X pins U H s):∀b∈frs X.stack,H b=none:=λb hb=>by
 rcases ao.mp (I.gP b hb)with e|hb
 ·rw[e];exact I.free
 ·obtain⟨_,o,ho,_⟩:=I.ok.dX.mem hb;exact I.base.free b o ho (I.ok.uR b hb) λz=>I.ok.lM b z hb
theorem Inv.step {ch:List Addr}(I:Inv X pins U H s)
  (pP:∀b∈ch,(b∈X.ex\/X.s₀.heap.objs.size<=b)/\b≠X.env.locals/\(∀x c,X.env.cells.lookup x=some c->c≠b)/\∀p∈X.pn++pins,p.1≠b)
  (keep:∀b o,b≠X.env.locals->b∉X.fs->b∉ch->s.heap.get? b=some o->H b=none->h'.get? b=some o)
  (slot:∀b o,b≠X.env.locals->b∈X.fs->b∉ch->s.heap.get? b=some o->H b=none->∃sl,h'.get? b=some {o with slots:=sl}) (free:∀b o,b∉ch->s.heap.get? b=some o->H b=none->H' b=none)
  (there:∀b o,b∉ch->s.heap.get? b=some o->∃o',h'.get? b=some o')
  (dU:∀b xs,H b=some (.tup xs)->H' b=some (.tup xs)) (dO:∀b o u,H b=some (.gO o u)->H' b=some (.gO o u)) (dW:∀b ps,H b=some (.pO ps)->∃more,H' b=some (.pO (ps++more)))
  (ns:∀m,s.heap.Ns X.env.locals m->h'.Ns X.env.locals m) (hok:HOk X.prog X.w H' h') (hg:n5 g'):
  Inv X pins U H' {s with heap:=h',gens:=g',drawn:=d',toks:=t'}:=by
 have KA:∀b o,X.s₀.heap.get? b=some o->b≠X.env.locals:=λb o e=>cw (cg (bn e) I.ok.above)
 have CF:∀b o,X.s₀.heap.get? b=some o->b∉X.ex->b∉ch:=λb o e hx hb=>by
  rcases(pP b hb).1 with z|z
  ·exact hx z
  ·exact absurd (cg (bn e) z) (cq _)
 have cellK:∀x c,X.env.cells.lookup x=some c->∀v,s.heap.IsCell c v->h'.IsCell c v:=λx c e v ⟨o,ho,hd⟩=>by
  have zv:=λz=>(pP c z).2.2.1 x c e rfl;by_cases hc:c∈X.fs
  ·obtain⟨sl,q⟩:=slot c o (I.tE x c e) hc zv ho (I.bX x c e);exact⟨_,q,hd⟩
  ·exact⟨o,keep c o (I.tE x c e) hc zv ho (I.bX x c e),hd⟩
 refine⟨I.ok,I.os,hg,⟨λb o e n hb hx=>?_,λb o e n hb hx=>?_,λb o e n hx=>?_,λb o e hx=>?_,λb xs e=>dU b xs (I.base.dU b xs e),λb o xs e=>dO b o xs (I.base.dO b o xs e),λb ps e=>?_⟩,?_,λx c e=>?_,?_,λx c e=>?_,λp hp=>?_,hok,I.len,λx u e=>let⟨m,hn,q⟩:=I.fx x u e;⟨m,ns m hn,q⟩⟩
 ·exact keep b o (KA b o e) hb (CF b o e hx) (I.base.keep b o e n hb hx) (I.base.free b o e n hx)
 ·obtain⟨sl,e1⟩:=I.base.slot b o e n hb hx;obtain⟨zw,e2⟩:=slot b _ (KA b o e) hb (CF b o e hx) e1 (I.base.free b o e n hx);exact⟨zw,e2⟩
 ·obtain⟨o',e1⟩:=I.base.there b o e hx;exact free b o' (CF b o e hx) e1 (I.base.free b o e n hx)
 ·obtain⟨o',e1⟩:=I.base.there b o e hx;exact there b o' (CF b o e hx) e1
 ·obtain⟨m1,e1⟩:=I.base.dW b ps e;obtain⟨m2,e2⟩:=dW b _ e1;exact⟨m1++m2,by rw[e2,uu]⟩
 ·obtain⟨m,hn,hl⟩:=I.loc;refine⟨m,ns m hn,λi x v e1 e2 e3=>?_⟩;obtain⟨u,r,l⟩:=hl i x v e1 e2 e3;refine⟨u,r,?_⟩;rcases l with l|⟨k,c,e,z⟩
  ·exact .inl l
  ·exact .inr ⟨k,c,e,cellK x c e _ z⟩
 ·obtain⟨v,z⟩:=I.cell x c e;exact⟨v,cellK x c e v z⟩
 ·obtain⟨m,⟨o,_,_,ho,_⟩,_⟩:=I.loc;exact free _ o (λz=>(pP _ z).2.1 rfl) ho I.free
 ·obtain⟨v,o,ho,hd⟩:=I.cell x c e;exact free c o (λz=>(pP c z).2.2.1 x c e rfl) ho (I.bX x c e)
 ·obtain⟨e,n,ne,nf,d⟩:=I.pin p hp;have zv:=λz=>(pP p.1 z).2.2.2 p hp rfl;exact⟨keep p.1 p.2 ne nf zv e n,free p.1 p.2 zv e n,ne,nf,d⟩
theorem Inv.un (I:Inv X pins U H s)(u:Un X.fs [] H H' s.heap h')(hok:HOk X.prog X.w H' h'):Inv X pins U H' {s with heap:=h',toks:=t'}:=by obtain⟨m,⟨o,es,ep,ho,r⟩,_⟩:=id I.loc;obtain⟨sl,hL⟩:=u.any ho I.free (by simp);exact I.step (ch:=[]) (λ_ z=>nomatch z) (λb o _ hb _ e n=>u.keep b o e n hb (by simp)) (λb o _ hb _ e n=>u.slot b o e n hb (by simp)) (λb o _ e n=>u.free b o e n (by simp)) (λb o _ e=>u.there b o e (by simp)) u.dU u.dO u.dW (λm' hm=>by obtain⟨o',fN,yf,ho',r'⟩:=hm;rw[ho]at ho';cases ho';exact⟨_,fN,yf,hL,r'⟩) hok I.bare
theorem Inv.call (I:Inv X pins U H s)(u:Un (frs X.stack) ch H H' s.heap h')(hok:HOk X.prog X.w H' h')(hg:n5 g')
  (pP:∀b∈ch,(b∈X.ex\/X.s₀.heap.objs.size<=b)/\b≠X.env.locals/\(∀x c,X.env.cells.lookup x=some c->c≠b)/\∀p∈X.pn++pins,p.1≠b):
  Inv X pins U H' {s with heap:=h',gens:=g',drawn:=d',toks:=t'}:=by
 obtain⟨m,⟨o,es,ep,ho,r⟩,_⟩:=id I.loc;obtain⟨sl,hL⟩:=u.any ho I.free λz=>(pP _ z).2.1 rfl;exact I.step pP (λb o hL hb hc e n=>u.keep b o e n (λz=>(ao.mp (I.gP b z)).elim hL hb) hc) (λb o _ _ hc e n=>u.any e n hc) (λb o hc e n=>u.free b o e n hc) (λb o hc e=>u.there b o e hc) u.dU u.dO u.dW (λm' hm=>by obtain⟨o',fN,yf,ho',r'⟩:=hm;rw[ho]at ho';cases ho';exact⟨_,fN,yf,hL,r'⟩) hok hg
theorem Inv.turned (I:Inv X pins U H s)(k:∀b o,b≠it->s.heap.get? b=some o->h'.get? b=some o)(hn:H it=none)(hL:it≠X.env.locals)
  (h1:it∈X.ex\/X.s₀.heap.objs.size<=it) (h2:∀x c,X.env.cells.lookup x=some c->c≠it) (h3:∀p∈X.pn++pins,p.1≠it):Inv X pins U H {s with heap:=h',toks:=t'}:=by
 have KC:∀b u,H b=some u->b≠it:=λb u e z=>by rw[z,hn]at e;cases e
 refine I.step (ch:=[it]) (λb hb=>?_) (λb o _ _ hc e _=>k b o (λz=>hc (by simp[z])) e) (λb o _ _ hc e _=>⟨o.slots,k b o (λz=>hc (by simp[z])) e⟩) (λ_ _ _ _ n=>n) (λb o hc e=>⟨o,k b o (λz=>hc (by simp[z])) e⟩) (λ_ _ e=>e) (λ_ _ _ e=>e) (λb ps e=>⟨#[],by rw[e];simp⟩) (λm hm=>?_) (λb u e=>?_) I.bare
 ·have e:b=it:=by simpa using hb
  subst e;exact⟨h1,hL,h2,h3⟩
 ·obtain⟨o,es,ep,ho,r⟩:=hm;exact⟨o,es,ep,k _ o (Ne.symm hL) ho,r⟩
 ·refine(I.hok b u e).stay (λc v hc q=>k c v ?_ q) (λ_ q=>q) λ_ _ q=>q;rcases hc with z|z
  ·rw[z];exact KC b u e
  ·exact KC c _ z
theorem Inv.tok (I:Inv X pins U H s)(t:Nat):Inv X pins U H {s with toks:=t}:=I.un (h':=s.heap) (t':=t) Un.refl I.hok
theorem Inv.kept (I:Inv X pins U H s)(k:∀b u,s.heap.get? b=some u->h'.get? b=some u):Inv X pins U H {s with heap:=h',toks:=t'}:=I.un (Un.kept k) (I.hok.kept k)
theorem Inv.laid (I:Inv X pins U H s)(k:∀b u,s.heap.get? b=some u->h'.get? b=some u)(hp:s.heap.objs.size<=a)(new:z15 X.prog X.w (upd H a o) h' a o): Inv X pins U (upd H a o) {s with heap:=h',toks:=t'}:=I.un (Un.laid k hp (I.hok.fresh hp)) (I.hok.laid k hp new)
theorem Inv.write (I:Inv X pins U H s)(mu:Mut (H x))(he:e=x\/H e=some (.own x))(k:∀b u,b≠e->s.heap.get? b=some u->h'.get? b=some u)(heo:∃u,h'.get? e=some u) (new:z15 X.prog X.w (upd H x o) h' x o):Inv X pins U (upd H x o) {s with heap:=h',toks:=t'}:=I.un (Un.write mu he k heo) (I.hok.write mu he k heo new)
theorem Inv.weak (I:Inv X pins U H s)(hl:σ'.length=U.length)(w:∀(i:Nat) v,σ'[i]?=some (some v)->U[i]?=some (some v)):Inv X pins σ' H s:=⟨I.ok,I.os,I.bare,I.base,let⟨m,hn,zx⟩:=I.loc;⟨m,hn,λi x v e1 e2 e3=>zx i x v e1 (w i v e2) e3⟩,I.cell,I.free,I.bX,I.pin,I.hok,hl.trans I.len,I.fx⟩
theorem Inv.gR (I:Inv X pins U H s)(h:∀p∈zy,s.heap.get? p.1=some p.2/\H p.1=none/\p.1≠X.env.locals/\p.1∉X.fs/\∀v,p.2.data≠.cell v):Inv X zy U H s:=⟨I.ok,I.os,I.bare,I.base,I.loc,I.cell,I.free,I.bX,λp hp=>(ce.mp hp).elim (λz=>I.pin p (cx _ z)) (h p),I.hok,I.len,I.fx⟩
theorem Q4 {h:Heap}(x:h.Ns a m)(y:h.Ns a m')(n:Str):m n=m' n:=by obtain⟨o,es,ep,e,d,_,f⟩:=x;obtain⟨o',fN,yf,e',d',_,f'⟩:=y;rw[e]at e';cases e';rw[d]at d';cases d';rw[<-f n,f' n]
theorem KD {N:List Str}(hN:N.Nodup){j:Nat}(a:N[i]?=some x)(b:N[j]?=some x):i=j:=by obtain⟨h1,e1⟩:=bp.mp a;obtain⟨h2,e2⟩:=bp.mp b;exact(List.getElem_inj hN).mp (e1.trans e2.symm)
theorem zda (I:Inv X pins U H s)(hN:X.N.Nodup)(hi:X.N[i]?=some x)(hx:Loc X.env.scope x)(r:RelV v u)
  (h:∀s',Inv X pins (U.set i (some v)) H s'->(∃a,cy a s.heap s'.heap/\(a=X.env.locals\/X.env.cells.lookup x=some a))->Q () s') (hf:Sto X x:=by first|exact⟨.inl rfl,nofun⟩|exact⟨.inr rfl,nofun⟩|assumption):wpAny M A (storeName X.env x u) Q E s:=by
 obtain⟨m,hn,hl⟩:=id I.loc;have EC:(X.env.scope.kind==.class||(X.env.scope.kind==.module&&X.env.locals != X.env.globals))=false:=by rw[I.ok.kind];rfl
 have zA:i<U.length:=by rw[I.len];exact(bp.mp hi).1
 have tE:=I.tE
 have tracked:∀{a:Addr} {h':Heap},(∃o,s.heap.get? a=some o/\H a=none)->cy a s.heap h'->HOk X.prog X.w H h':=λ{a h'} ha hs b ob e=>by
  obtain⟨_,_,eO⟩:=ha;refine(I.hok b ob e).stay (λc w' hc q=>(hs.2 c ?_).trans q) (λ_ q=>q) λ_ _ q=>q
  rintro rfl
  rcases hc with rfl|hc
  ·rw[eO]at e;cases e
  ·rw[eO]at hc;cases hc
 rcases hx with hk|hk
 ·refine wpAny_storeName_local hk hn (λh' hn' hs=>?_) EC;obtain⟨oL,_,_,hoL,_⟩:=id hn;refine h _ ⟨I.ok,I.os,I.bare,⟨λb o e n hb hx=>?_,λb o e n hb hx=>?_,I.base.free,λb o e hx=>?_,I.base.dU,I.base.dO,I.base.dW⟩,⟨_,hn',λj y v' e1 e2 e3=>?_⟩,λy c e=>?_,I.free,I.bX,λp hp=>?_,tracked ⟨oL,hoL,I.free⟩ hs,by simpa using I.len,λy u e=>by obtain⟨m',hn2,q⟩:=I.fx y u e;refine⟨_,hn',?_⟩;have hy:y≠x:=λz=>hf.2 u (z▸e);have:=Q4 hn hn2 y;simp[hy,this,q]⟩ ⟨_,hs,.inl rfl⟩
  ·exact(hs.2 b (cw (cg (bn e) I.ok.above))).trans (I.base.keep b o e n hb hx)
  ·obtain⟨sl,e1⟩:=I.base.slot b o e n hb hx;exact⟨sl,(hs.2 b (cw (cg (bn e) I.ok.above))).trans e1⟩
  ·obtain⟨o',e1⟩:=I.base.there b o e hx;exact⟨o',(hs.2 b (cw (cg (bn e) I.ok.above))).trans e1⟩
  ·by_cases hj:j=i
   ·subst hj;rw[hi]at e1;cases e1;rw[fz zA]at e2;cases e2;exact⟨u,r,.inl ⟨hk,by simp⟩⟩
   ·rw[d8 (Ne.symm hj)]at e2;obtain⟨u',r',q⟩:=hl j y v' e1 e2 e3;refine⟨u',r',?_⟩;rcases q with⟨k,e⟩|⟨k,c,e,z⟩
    ·refine .inl ⟨k,?_⟩;have:y≠x:=λe=>hj (KD hN e1 (e▸hi));simp[this,e]
    ·exact .inr ⟨k,c,e,z.sameBut hs (tE y c e)⟩
  ·obtain⟨w',z⟩:=I.cell y c e;exact⟨w',z.sameBut hs (tE y c e)⟩
  ·obtain⟨e,n,ne,nf,d⟩:=I.pin p hp;exact⟨(hs.2 p.1 ne).trans e,n,ne,nf,d⟩
 ·have hfn:X.fn x=true:=by
   rcases hf.1 with z|z
   ·exact z
   ·rw[z]at hk;cases hk
  obtain⟨c,hc⟩:=I.ok.has x (.inl hk);obtain⟨w',z⟩:=I.cell x c hc;refine wpAny_storeName_cell I.ok.kind hk hc z (λh' tF hs=>?_);obtain⟨oc,KG,ED⟩:=id z;refine h {s with heap:=h'} ⟨I.ok,I.os,I.bare,⟨λb o e n hb hx=>?_,λb o e n hb hx=>?_,I.base.free,λb o e hx=>?_,I.base.dU,I.base.dO,I.base.dW⟩,⟨m,hn.sameBut hs (Ne.symm (tE x c hc)),λj y v' e1 e2 e3=>?_⟩,λy c' e=>?_,I.free,I.bX,λp hp=>?_,tracked ⟨oc,KG,I.bX x c hc⟩ hs,by simpa using I.len,λy u e=>let⟨m',hn2,q⟩:=I.fx y u e;⟨m',hn2.sameBut hs (Ne.symm (tE x c hc)),q⟩⟩ ⟨c,hs,.inr hc⟩
  ·exact(hs.2 b (cw (cg (bn e) (I.ok.ye x c hfn hc)))).trans (I.base.keep b o e n hb hx)
  ·obtain⟨sl,e1⟩:=I.base.slot b o e n hb hx;exact⟨sl,(hs.2 b (cw (cg (bn e) (I.ok.ye x c hfn hc)))).trans e1⟩
  ·obtain⟨o',e1⟩:=I.base.there b o e hx;exact⟨o',(hs.2 b (cw (cg (bn e) (I.ok.ye x c hfn hc)))).trans e1⟩
  ·by_cases hj:j=i
   ·subst hj;rw[hi]at e1;cases e1;rw[fz zA]at e2;cases e2;exact⟨u,r,.inr ⟨.inl hk,c,hc,tF⟩⟩
   ·rw[d8 (Ne.symm hj)]at e2;obtain⟨u',r',q⟩:=hl j y v' e1 e2 e3;refine⟨u',r',?_⟩;rcases q with q|⟨k,c',e,z'⟩
    ·exact .inl q
    ·refine .inr ⟨k,c',e,z'.sameBut hs ?_⟩
     rintro rfl
     exact hj (KD hN e1 (I.ok.inj _ _ _ e hc▸hi))
  ·by_cases KH:c'=c
   ·subst KH;exact⟨_,tF⟩
   ·obtain⟨w2,z2⟩:=I.cell y c' e;exact⟨w2,z2.sameBut hs KH⟩
  ·obtain⟨e,n,ne,nf,d⟩:=I.pin p hp;refine⟨(hs.2 p.1 ?_).trans e,n,ne,nf,d⟩;intro q;rw[q,KG]at e;have q':=xx e;exact d w' (by rw[<-q'];exact ED)
theorem z5r (I:Inv X pins U H s)(hN:X.N.Nodup)(hi:X.N[i]?=some x)(hx:Loc X.env.scope x)(r:RelV v u)
  (h:∀s',Inv X pins (U.set i (some v)) H s'->Q () s') (hf:Sto X x:=by first|exact⟨.inl rfl,nofun⟩|exact⟨.inr rfl,nofun⟩|assumption):wpAny M A (storeName X.env x u) Q E s:=
 zda I hN hi hx r (λs' I' _=>h s' I') hf
theorem Inv.call' (I:Inv X pins U H s)(ho:s'.os=s.os)(u:Un (frs X.stack) ch H H' s.heap s'.heap)(hok:HOk X.prog X.w H' s'.heap)(hg:n5 s'.gens)
  (pP:∀b∈ch,(b∈X.ex\/X.s₀.heap.objs.size<=b)/\b≠X.env.locals/\(∀x c,X.env.cells.lookup x=some c->c≠b)/\∀p∈X.pn++pins,p.1≠b):Inv X pins U H' s':=by
 obtain⟨h',g',d',t',o'⟩:=s';have e:=ho;subst e;exact I.call u hok hg pP
end
abbrev XK:=Value->Option Addr->Hp->Prop
abbrev St:=List (Option V)
abbrev VK:=V->Hp->Prop
abbrev TE:=St->Hp->VK->Prop
abbrev TT:=St->Hp->(Bool->Hp->Prop)->Prop
abbrev TA:=St->Hp->(List V->Hp->Prop)->Prop
structure Ends where
 nx:St->Hp->Prop
 rt:VK
 bk:St->Hp->Prop:=λ_ _=>False
 ct:St->Hp->Prop:=λ_ _=>False
abbrev TS:=Ends->St->Hp->Prop
def EP (X:Cx)(pins:List (Addr×Obj))(U:St)(Q:VK)(u:Value)(s':aw):Prop:=∃v H',Inv X pins U H' s'/\RelV v u/\Q v H'
def TP (X:Cx)(pins:List (Addr×Obj))(U:St)(Q:Bool->Hp->Prop)(b:Bool)(s':aw):Prop:=∃H',Inv X pins U H' s'/\Q b H'
def AP (X:Cx)(pins:List (Addr×Obj))(U:St)(Q:List V->Hp->Prop)(us:List Value)(s':aw):Prop:=∃vs H',Inv X pins U H' s'/\Vals vs us/\Q vs H'
def SP (X:Cx)(pins:List (Addr×Obj))(D:Ends)(f:Flow)(s':aw):Prop:=
 match f with
 |.next=>∃σ' H',Inv X pins σ' H' s'/\D.nx σ' H'
 |.brk=>∃σ' H',Inv X pins σ' H' s'/\D.bk σ' H'
 |.cont=>∃σ' H',Inv X pins σ' H' s'/\D.ct σ' H'
 |.ret u=>∃v σ' H',Inv X pins σ' H' s'/\RelV v u/\D.rt v H'
def PE (X:Cx)(e:Expr)(t:TE):Prop:=∀(pins:List (Addr×Obj)) (s:aw) (U:St) (H:Hp) (Q:VK),Inv X pins U H s->t U H Q->wpAny (model X.prog X.w) X.A (eval e X.env) (EP X pins U Q) X.xe s
def PT (X:Cx)(e:Expr)(t:TT):Prop:=∀(pins:List (Addr×Obj)) (s:aw) (U:St) (H:Hp) (Q:Bool->Hp->Prop),Inv X pins U H s->t U H Q->wpAny (model X.prog X.w) X.A (wu e X.env (eval e X.env)) (TP X pins U Q) X.xe s
def PW (X:Cx)(e:Expr)(t:TT):Prop:=∀(whole:Sem Value) (pins:List (Addr×Obj)) (s:aw) (U:St) (H:Hp) (Q:Bool->Hp->Prop),Inv X pins U H s->t U H Q->wpAny (model X.prog X.w) X.A (wu e X.env whole) (TP X pins U Q) X.xe s
theorem PW.pt (h:PW X e t):PT X e t:=h _
def PA (X:Cx)(es:List Expr)(t:TA):Prop:=∀(pos:Pos) (pins:List (Addr×Obj)) (s:aw) (U:St) (H:Hp) (Q:List V->Hp->Prop),Inv X pins U H s->t U H Q->wpAny (model X.prog X.w) X.A (spliced (ol pos (gh es X.env))) (AP X pins U Q) X.xe s
def PS (X:Cx)(st:Stmt)(t:TS):Prop:=∀(pins:List (Addr×Obj)) (s:aw) (U:St) (H:Hp) (D:Ends),Inv X pins U H s->t D U H->wpAny (model X.prog X.w) X.A (exec st X.env) (SP X pins D) X.xe s
def PSs (X:Cx)(st:List Stmt)(t:TS):Prop:=∀(pins:List (Addr×Obj)) (s:aw) (U:St) (H:Hp) (D:Ends),Inv X pins U H s->t D U H->wpAny (model X.prog X.w) X.A (execs st X.env) (SP X pins D) X.xe s
theorem aM (h:wpAny M A t Q E s)(hQ:∀a s,Q a s->Q' a s):wpAny M A t Q' E s:=mw h hQ λ_ _ x=>x
section
variable {X:Cx}
theorem bin (ha:PE X a ta)(hb:PE X b tb){R:V->V->Hp->Prop}(I:Inv X pins U H s)(h:ta U H fun x H1=>tb U H1 fun y H2=>R x y H2)
  {α:Type} {Q:α->aw->Prop} {f:Value->Value->Sem α}
  (hf:∀v u s2 x y H2,Inv X pins U H2 s2->RelV x v->RelV y u->R x y H2->wpAny (model X.prog X.w) X.A (f v u) Q X.xe s2):
  wpAny (model X.prog X.w) X.A (eval a X.env) (λv s₁=>wpAny (model X.prog X.w) X.A (eval b X.env) (λu jQ=>wpAny (model X.prog X.w) X.A (f v u) Q X.xe jQ) X.xe s₁) X.xe s:=by
 refine aM (ha pins s U H _ I h) λv s1 ⟨x,H1,I1,r1,q1⟩=>?_;refine aM (hb pins s1 U H1 _ I1 q1) λu s2 ⟨y,H2,I2,r2,q2⟩=>?_;exact hf v u s2 x y H2 I2 r1 r2 q2
def zB (i:Nat):TE:=λU H Q=>∃v,U[i]?=some (some v)/\Q v H
def tC (v:V):TE:=λ_ H Q=>Q v H
theorem uS (hN:X.N[i]?=some x)(hv:Vis X.env.scope x)(hd:aac x:=by decide)(hcd:(x==("__classdict__":Str))=false:=by decide):PE X (.Name x pos) (zB i):=by
 intro pins s U H Q I h;obtain⟨v,e,h⟩:=h;obtain⟨m,hn,hl⟩:=I.loc;obtain⟨u,r,l⟩:=hl i x v hN e hv;have fin:EP X pins U Q u s:=⟨v,H,I,r,h⟩;rcases l with⟨hk,hm⟩|⟨hk,c,hc,kQ⟩
 ·exact uw (sh I.ok.kind hk hn hm fin) hd
 ·rcases hk with hk|hk
  ·exact uw (wpAny_loadName_cell I.ok.kind hk hc kQ fin) hd
  ·exact uw (wpAny_loadName_free I.ok.kind hk hc kQ fin hcd) hd
theorem Q5 {i j pos}:PE X (.Constant (.int i) j pos) (tC (.int i)):=λ_ _ _ H _ I h=>wpAny_Constant_int ⟨.int i,H,I.tok _,⟨_,rfl⟩,h⟩
theorem Q6 {b j pos}:PE X (.Constant (.bool b) j pos) (tC (.bl b)):=λ_ _ _ H _ I h=>Constant_bool ⟨.bl b,H,I,rfl,h⟩
theorem Q7 {j pos}:PE X (.Constant .none j pos) (tC .bD):=λ_ _ _ H _ I h=>ug ⟨.bD,H,I,rfl,h⟩
theorem Q8 {x j pos}:PE X (.Constant (.str x) j pos) (tC (.str x)):=λ_ _ _ H _ I h=>Calls.Constant_str ⟨.str x,H,I.tok _,⟨_,rfl⟩,h⟩
def Gl (X:Cx)(x:Str):Prop:=X.env.kindOf x=some .globalImplicit
theorem z7v (I:Inv X pins U H s)(hg:Gl X x)(hm:X.mg x=some u)(h:Q u s)
  (hd:aac x:=by decide):wpAny (model X.prog X.w) X.A (eval (.Name x pos) X.env) Q E s:=
 om I.ok.kind hg (Calls.loadGlobal_global (by rw[I.ok.glob];exact I.mod.glob.keeps I.bk) hm h) hd
theorem z2e (I:Inv X pins U H s)(hg:Gl X x)(hm:X.mg x=none)(hv:df x=some u)(h:Q u s)
  (hn:x≠"__name__":=by decide) (hd:aac x:=by decide):wpAny (model X.prog X.w) X.A (eval (.Name x pos) X.env) Q E s:=by
 obtain⟨mb,h1,h2⟩:=I.mod.blt;exact om I.ok.kind hg (Calls.loadGlobal_builtin (by rw[I.ok.glob];exact I.mod.glob.keeps I.bk) hm (by rw[I.ok.blt];exact h1.keeps I.bk) ((h2 x hn).trans hv) h) hd
theorem Q9 (hg:Gl X x)(hm:X.mg x=none)(hv:df x=some u)(r:RelV v u)(hn:x≠"__name__":=by decide)(hd:aac x:=by decide):PE X (.Name x pos) (tC v):=λ_ _ _ H _ I h=>z2e I hg hm hv ⟨v,H,I,r,h⟩ hn hd
variable {a b:Expr}{ta tb:TE}{pos:Pos}
def PC (X:Cx)(op:CmpOp)(a b:Expr)(t:TE):Prop:=∀(pins:List (Addr×Obj)) (s:aw) (U:St) (H:Hp) (Q:VK),Inv X pins U H s->t U H Q->wpAny (model X.prog X.w) X.A (eval a X.env) (λv s₁=>wpAny (model X.prog X.w) X.A (eval b X.env) (λu jQ=>wpAny (model X.prog X.w) X.A (dz op v u) (EP X pins U Q) X.xe jQ) X.xe s₁) X.xe s
theorem Ra (b:Expr)(h:op≠.In)(h2:op≠.NotIn):gk op b=false:=by
 have e1:(op==CmpOp.In)=false:=by cases op<;>first|rfl|exact absurd rfl h
 have e2:(op==CmpOp.NotIn)=false:=by cases op<;>first|rfl|exact absurd rfl h2
 cases b<;>simp[gk,e1,e2]
def zC (ta:TE):TE:=λU H Q=>ta U H λx H1=>Q (.bl (decide (x=.bD))) H1
def KI (ta:TE):TE:=λU H Q=>ta U H λx H1=>Q (.bl (!decide (x=.bD))) H1
theorem RelV.iP (r:RelV x v):(v==Value.none)=decide (x=.bD):=by
 cases x with
 |bD=>cases r;rfl
 |bl _=>cases r;rfl
 |int _=>obtain⟨t,rfl⟩:=r;rfl
 |str _=>obtain⟨t,rfl⟩:=r;rfl
 |ref _=>cases r;rfl
 |ty _=>cases r;rfl
theorem Rb {j pos'}(ha:PE X a ta):PC X .Is a (.Constant .none j pos') (zC ta):=by intro pins s U H Q I h;refine aM (ha pins s U H _ I h) λv s1 ⟨x,H1,I1,r1,q1⟩=>?_;exact ug (is_none_gen ⟨.bl _,H1,I1,by rw[r1.iP];rfl,q1⟩)
theorem Rc {j pos'}(ha:PE X a ta):PC X .IsNot a (.Constant .none j pos') (KI ta):=by intro pins s U H Q I h;refine aM (ha pins s U H _ I h) λv s1 ⟨x,H1,I1,r1,q1⟩=>?_;exact ug (isnot_none_gen ⟨.bl _,H1,I1,by rw[r1.iP];rfl,q1⟩)
def tB (t:TE):TT:=λU H Q=>t U H λx H1=>∃c,x=.bl c/\Q c H1
theorem KJ (h:PC X op a b t)(h1:gk op b=false:=by first|exact Ra _ (by decide) (by decide)|rfl):PT X (.Compare a [op] [b] pos) (tB t):=by intro pins s U H Q I hw;refine qy (aM (h pins s U H _ I hw) λv s1 h1=>aM h1 λu s2 h2=>aM h2 λc s3 ⟨x,H1,I1,r1,q1⟩=>?_) h1;obtain⟨d,rfl,q⟩:=q1;cases r1;exact ig ⟨H1,I1,q⟩
variable {tA CG:TT}{rest:List Expr}
def zD (t u:TT):TT:=λU H Q=>t U H λc H1=>if c=true then u U H1 Q else Q false H1
def KN (t u:TT):TT:=λU H Q=>t U H λc H1=>if c=true then Q true H1 else u U H1 Q
def zE (t:TT):TT:=λU H Q=>t U H λc H1=>Q (!c) H1
theorem KO (ha:PT X a tA):PW X (.BoolOp .And [a] pos) tA:=by
 intro wh pins s U H Q I h;refine isTrue_and (aM (ha pins s U H Q I h) λc s1 e=>?_);cases c with
 |true=>exact isTrue_and_nil e
 |false=>exact e
theorem KP (ha:PT X a tA):PW X (.BoolOp .Or [a] pos) tA:=by
 intro wh pins s U H Q I h;refine isTrue_or (aM (ha pins s U H Q I h) λc s1 e=>?_);cases c with
 |false=>exact isTrue_or_nil e
 |true=>exact e
theorem EE (ha:PT X a tA)(hb:PW X (.BoolOp .And (b::rest) pos) CG):PW X (.BoolOp .And (a::b::rest) pos) (zD tA CG):=by
 intro wh pins s U H Q I h;refine isTrue_and (aM (ha pins s U H _ I h) λc s1 ⟨H1,I1,q1⟩=>?_);cases c with
 |true=>exact hb wh pins s1 U H1 Q I1 q1
 |false=>exact⟨H1,I1,q1⟩
theorem EF (ha:PT X a tA)(hb:PW X (.BoolOp .Or (b::rest) pos) CG):PW X (.BoolOp .Or (a::b::rest) pos) (KN tA CG):=by
 intro wh pins s U H Q I h;refine isTrue_or (aM (ha pins s U H _ I h) λc s1 ⟨H1,I1,q1⟩=>?_);cases c with
 |true=>exact⟨H1,I1,q1⟩
 |false=>exact hb wh pins s1 U H1 Q I1 q1
theorem KQ (ha:PT X a tA):PT X (.UnaryOp .Not a pos) (zE tA):=by intro pins s U H Q I h;exact isTrue_not (ha pins s U H (λc H1=>Q (!c) H1) I h)
def Rf (ta tb:TE):TE:=λU H Q=>ta U H λx H1=>∃c,x=.bl c/\if c=true then tb U H1 Q else Q (.bl false) H1
def EG (ta tb:TE):TE:=λU H Q=>ta U H λx H1=>∃c,x=.bl c/\if c=true then Q (.bl true) H1 else tb U H1 Q
theorem KR {op}(h:PE X a t):PE X (.BoolOp op [a] pos) t:=λpins s U H Q I hw=>BoolOp_one (h pins s U H Q I hw)
theorem Rg (ha:PE X a ta)(hb:PE X (.BoolOp .And (b::rest) pos) tb):PE X (.BoolOp .And (a::b::rest) pos) (Rf ta tb):=by
 intro pins s U H Q I h;refine BoolOp_and (aM (ha pins s U H _ I h) λv s1 ⟨x,H1,I1,r1,q1⟩=>?_);obtain⟨c,rfl,q1⟩:=q1;cases r1;refine ig ?_;cases c with
 |true=>exact hb pins s1 U H1 Q I1 q1
 |false=>exact⟨.bl false,H1,I1,rfl,q1⟩
theorem Rh (ha:PE X a ta)(hb:PE X (.BoolOp .Or (b::rest) pos) tb):PE X (.BoolOp .Or (a::b::rest) pos) (EG ta tb):=by
 intro pins s U H Q I h;refine BoolOp_or (aM (ha pins s U H _ I h) λv s1 ⟨x,H1,I1,r1,q1⟩=>?_);obtain⟨c,rfl,q1⟩:=q1;cases r1;refine ig ?_;cases c with
 |false=>exact hb pins s1 U H1 Q I1 q1
 |true=>exact⟨.bl true,H1,I1,rfl,q1⟩
def Ri (t:TT)(ta tb:TE):TE:=λU H Q=>t U H λc H1=>if c=true then ta U H1 Q else tb U H1 Q
theorem Rj (hc:PT X c tA)(ha:PE X a ta)(hb:PE X b tb):PE X (.IfExp c a b pos) (Ri tA ta tb):=by
 intro pins s U H Q I h;refine wpAny_IfExp (aM (hc pins s U H _ I h) λd s1 ⟨H1,I1,q1⟩=>?_);cases d with
 |true=>exact ha pins s1 U H1 Q I1 q1
 |false=>exact hb pins s1 U H1 Q I1 q1
end
def SqL (K:W.Frag)(H:Hp)(a:Addr)(xs:List V):Prop:=Rd H a (.lst xs)\/∃(o:Obj) (its:Array Value) (n:Nat),K.lookup a=some o/\o.cls=.type "list"/\o.dict=none/\o.data=.seq its n/\its.size<=bc/\Vals xs its.toList
def bL (K:W.Frag)(H:Hp)(a:Addr)(xs:List V):Prop:=Rd H a (.tup xs)\/∃(o:Obj) (its:Array Value) (n:Nat),K.lookup a=some o/\o.cls=.type "tuple"/\o.dict=none/\o.data=.seq its n/\its.size<=bc/\Vals xs its.toList
def EH:Value->Option V
 |.none=>some .bD
 |.bool b=>some (.bl b)
 |.int i _=>some (.int i)
 |.str x _=>some (.str x)
 |.ref a=>some (.ref a)
 |.type n=>some (.ty n)
 |_=>none
theorem RelV.abs (r:RelV x u):EH u=some x:=by
 cases x with
 |bD=>cases r;rfl
 |bl _=>cases r;rfl
 |int _=>obtain⟨t,rfl⟩:=r;rfl
 |str _=>obtain⟨t,rfl⟩:=r;rfl
 |ref _=>cases r;rfl
 |ty _=>cases r;rfl
theorem RelV.inj (r:RelV x u)(q:RelV y u):x=y:=xx (r.abs.symm.trans q.abs)
theorem Vals.inj:∀{xs ys:List V} {us:List Value},Vals xs us->Vals ys us->xs=ys
 |_,_,_,.nil,.nil=>rfl
 |_,_,_,.cons r t,.cons r' t'=>by rw[r.inj r',Vals.inj t t']
section
variable {X:Cx}{pins:List (Addr×Obj)}{U:St}{H:Hp}{s:aw}{a:Addr}{xs ys:List V}
theorem SqL.of {K:W.Frag}(h:H a=some (.lst xs)):SqL K H a xs:=.inl (.inl h)
theorem bL.of {K:W.Frag}(h:H a=some (.tup xs)):bL K H a xs:=.inl (.inl h)
theorem Inv.list (I:Inv X pins U H s)(h:SqL X.K H a xs):∃its:List Value,Vals xs its/\PlainL s.heap a its.toArray/\xs.length<=bc:=by
 rcases h with h|⟨o,its,n,hk,hc,hd,hs,hz,r⟩
 ·obtain⟨z,its,n,r,e⟩:=h.ok I.hok;exact⟨its,r,⟨_,n,e,rfl,rfl,rfl⟩,z⟩
 ·refine⟨its.toList,r,⟨o,n,I.gB a o hk,hc,hd,by simpa using hs⟩,?_⟩;have e:=r.length;simp only[jl]at e;omega
theorem Inv.tuple (I:Inv X pins U H s)(h:bL X.K H a xs):∃its:List Value,Vals xs its/\IsTup s.heap a its.toArray/\xs.length<=bc:=by
 rcases h with h|⟨o,its,n,hk,hc,_,hs,hz,r⟩
 ·obtain⟨z,its,r,p⟩:=h.ok I.hok;exact⟨its,r,p.tup,z⟩
 ·refine⟨its.toList,r,⟨o,I.gB a o hk,hc,n,by simpa using hs⟩,?_⟩;have e:=r.length;simp only[jl]at e;omega
theorem Inv.nV (I:Inv X pins U H s)(h:bL X.K H a xs):∃l:List Value,Vals xs l/\QV s.heap a l.toArray/\xs.length<=bc:=by
 rcases h with h|⟨o,l,n,q,hc,hd,hs,hz,r⟩
 ·obtain⟨z,l,r,n,q⟩:=h.ok I.hok;exact⟨l,r,⟨_,n,q,rfl,rfl,rfl⟩,z⟩
 ·exact⟨l.toList,r,⟨o,n,I.gB a o q,hc,hd,(by simpa using hs)⟩,(by have w:=r.length;simp only[jl]at w;omega)⟩
theorem Inv.nW (I:Inv X pins U H s)(h:SqL X.K H a xs)(h':SqL X.K H a ys):xs=ys:=by
 obtain⟨its,r,⟨o,n,e,_,_,d⟩,_⟩:=I.list h;obtain⟨fR,r',⟨o',n',e',_,_,d'⟩,_⟩:=I.list h';rw[e]at e';cases e';rw[d]at d';injection d' with d1 _;have:its=fR:=by simpa using congrArg Array.toList d1
 subst this;exact r.inj r'
theorem Inv.lN (I:Inv X pins U H s)(h:bL X.K H a xs)(h':bL X.K H a ys):xs=ys:=by
 obtain⟨its,r,⟨o,e,_,n,d⟩,_⟩:=I.tuple h;obtain⟨fR,r',⟨o',e',_,n',d'⟩,_⟩:=I.tuple h';rw[e]at e';cases e';rw[d]at d';injection d' with d1 _;have:its=fR:=by simpa using congrArg Array.toList d1
 subst this;exact r.inj r'
end
abbrev Cx.fT (X:Cx)(E:Value->aw->Prop):Cx:={X with xe:=E}
abbrev Cx.zF (X:Cx):Cx:=X.fT λ_ _=>False
theorem Cx.Ok.fT {X:Cx}(ok:X.Ok)(E:Value->aw->Prop):(X.fT E).Ok:=⟨ok.mod,ok.kind,ok.glob,ok.blt,ok.above,ok.inj,ok.has,ok.ye,ok.hd,ok.frames,ok.zp,ok.zr,ok.bs,ok.nB,ok.lK,ok.lM,ok.dX,ok.uR,ok.EB⟩
theorem Cx.Ok.cR {X:Cx}(ok:(X.fT E).Ok):X.Ok:=⟨ok.mod,ok.kind,ok.glob,ok.blt,ok.above,ok.inj,ok.has,ok.ye,ok.hd,ok.frames,ok.zp,ok.zr,ok.bs,ok.nB,ok.lK,ok.lM,ok.dX,ok.uR,ok.EB⟩
section
variable {X:Cx}{pins:List (Addr×Obj)}{U:St}{H:Hp}{s:aw}{E:Value->aw->Prop}
theorem Inv.fT (I:Inv X pins U H s)(E:Value->aw->Prop):Inv (X.fT E) pins U H s:=⟨I.ok.fT E,I.os,I.bare,I.base,I.loc,I.cell,I.free,I.bX,I.pin,I.hok,I.len,I.fx⟩
theorem Inv.cR (I:Inv (X.fT E) pins U H s):Inv X pins U H s:=⟨I.ok.cR,I.os,I.bare,I.base,I.loc,I.cell,I.free,I.bX,I.pin,I.hok,I.len,I.fx⟩
theorem SP.cR (h:SP (X.fT E) pins D f s'):SP X pins D f s':=by
 cases f with
 |next=>obtain⟨σ',H',I,q⟩:=h;exact⟨σ',H',I.cR,q⟩
 |brk=>obtain⟨σ',H',I,q⟩:=h;exact⟨σ',H',I.cR,q⟩
 |cont=>obtain⟨σ',H',I,q⟩:=h;exact⟨σ',H',I.cR,q⟩
 |ret u=>obtain⟨v,σ',H',I,r,q⟩:=h;exact⟨v,σ',H',I.cR,r,q⟩
theorem PSs.zF {st:List Stmt}(h:PSs X.zF st t):PSs X st t:=λpins s U H D I hw=>mw (h pins s U H D (I.fT _) hw) (λ_ _ q=>q.cR) λ_ _ z=>False.elim z
end
section
variable {X:Cx}{st:Stmt}{rest:List Stmt}{t u:TS}{e:Expr}{te:TE}{pos:Pos}
def KS:TS:=λD U H=>D.nx U H
def zI (t u:TS):TS:=λD U H=>t {D with nx:=u D} U H
theorem KU:PSs X [] KS:=λ_ _ U H _ I h=>wpAny_execs_nil ⟨U,H,I,h⟩
theorem KW (h1:PS X st t)(h2:PSs X rest u):PSs X (st::rest) (zI t u):=by
 intro pins s U H D I h;refine wpAny_execs_cons (aM (h1 pins s U H {D with nx:=u D} I h) λf s1 q=>?_);cases f with
 |next=>obtain⟨σ',H',I',q⟩:=q;exact h2 pins s1 σ' H' D I' q
 |ret v=>exact q
 |brk=>exact q
 |cont=>exact q
theorem Inv.quiet (I:Inv X pins U H s):interactive X.env=false:=by simp[interactive,I.ok.kind]
def yg (te:TE):TS:=λD U H=>te U H λ_ H1=>D.nx U H1
theorem Rk (he:PE X e te)(hs:mx e none pos.line X.env=pure false:=by rfl):PS X (.Expr e pos) (yg te):=by intro pins s U H D I h;exact wpAny_Expr_any (aM (he pins s U H _ I h) λv s1 ⟨x,H1,I1,r1,q1⟩=>⟨U,H1,I1,q1⟩) I.quiet hs
def zJ (te:TE):TS:=λD U H=>te U H D.rt
theorem EI (he:PE X e te):PS X (.Return (some e) pos) (zJ te):=by intro pins s U H D I h;exact wpAny_Return_some (aM (he pins s U H _ I h) λv s1 ⟨x,H1,I1,r1,q1⟩=>⟨x,U,H1,I1,r1,q1⟩)
def zK (c:TT)(t u:TS):TS:=λD U H=>c U H λb H1=>if b=true then t D U H1 else u D U H1
theorem KY (hc:PT X c tc)(ha:PSs X a t)(hb:PSs X b u):PS X (.If c a b pos) (zK tc t u):=by
 intro pins s U H D I h;refine wpAny_If (aM (hc pins s U H _ I h) λd s1 ⟨H1,I1,q1⟩=>?_);cases d with
 |true=>exact ha pins s1 U H1 D I1 q1
 |false=>exact hb pins s1 U H1 D I1 q1
end
abbrev TG:=V->St->Hp->(St->Hp->Prop)->Prop
abbrev uU:=List V->St->Hp->(St->Hp->Prop)->Prop
def PG (X:Cx)(target:Expr)(t:TG):Prop:=∀(pins:List (Addr×Obj)) (s:aw) (U:St) (H:Hp) (v:V) (u:Value) (Q:St->Hp->Prop),Inv X pins U H s->RelV v u->t v U H Q->wpAny (model X.prog X.w) X.A (ux target X.env u) (λ_ s'=>∃σ' H',Inv X pins σ' H' s'/\Q σ' H') X.xe s
def PGs (X:Cx)(ts:List Expr)(t:uU):Prop:=∀(pins:List (Addr×Obj)) (s:aw) (U:St) (H:Hp) (vs:List V) (us:List Value) (Q:St->Hp->Prop),Inv X pins U H s->Vals vs us->t vs U H Q->wpAny (model X.prog X.w) X.A (assignInOrder ((gm ts X.env).map (·.2)) us) (λ_ s'=>∃σ' H',Inv X pins σ' H' s'/\Q σ' H') X.xe s
abbrev EJ:=V->V->V->Hp->(Hp->Prop)->Prop
def EK (X:Cx)(t:EJ):Prop:=∀(pins:List (Addr×Obj)) (s:aw) (U:St) (H:Hp) (o i v:V) (ov iv u:Value) (Q:Hp->Prop),Inv X pins U H s->RelV o ov->RelV i iv->RelV v u->t o i v H Q->wpAny (model X.prog X.w) X.A (setItem ov iv u) (λ_ s'=>∃H',Inv X pins U H' s'/\Q H') X.xe s
section
variable {X:Cx}{pos:Pos}
def qI (i:Nat):TG:=λv U H Q=>Q (U.set i (some v)) H
theorem EL (hN:X.N.Nodup)(hi:X.N[i]?=some x)(hx:Loc X.env.scope x)(hf:Sto X x:=by first|exact⟨.inl rfl,nofun⟩|exact⟨.inr rfl,nofun⟩|assumption):PG X (.Name x pos) (qI i):=by intro pins s U H v u Q I r h;exact vn (z5r I hN hi hx r (λs' I'=>⟨_,H,I',h⟩) hf)
def EM:uU:=λvs U H Q=>vs=[]/\Q U H
def Rl (t:TG)(u:uU):uU:=λvs U H Q=>∃v r,vs=v::r/\t v U H λσ' H'=>u r σ' H' Q
theorem Rm:PGs X [] EM:=by intro pins s U H vs us Q I r h;obtain⟨e,h⟩:=h;subst e;cases r;exact assignInOrder_nil ⟨U,H,I,h⟩
theorem zf7 (h1:PG X e t)(h2:PGs X es u)
  (hs:(gm (e::es) X.env).map (·.2)=ux e X.env::(gm es X.env).map (·.2):=by rfl):PGs X (e::es) (Rl t u):=by
 intro pins s U H vs us Q I r h;obtain⟨v,vr,e1,h⟩:=h;subst e1;cases r with
 |cons r rr=>rw[hs];refine assignInOrder_cons (aM (h1 pins s U H _ _ _ I r h) λ_ s1 ⟨Rn,H1,I1,q1⟩=>?_);exact h2 pins s1 Rn H1 _ _ Q I1 rr q1
def EN (K:W.Frag)(n:Nat)(t:uU):TG:=λv U H Q=>∃a xs,v=.ref a/\bL K H a xs/\xs.length=n/\t xs U H Q
theorem zp2 (hc:X.calm=true)(h:PGs X es t)
  (hn:(gm es X.env).length=n:=by rfl) (hst:(gm es X.env).findIdx? (·.1)=none:=by rfl):PG X (.Tuple es k pos) (EN X.K n t):=by
 intro pins s U H v u Q I r hw;obtain⟨a,xs,e1,hq,hl,hw⟩:=hw;subst e1;cases r;obtain⟨its,rv,ht,hz⟩:=I.tuple hq;refine assign_Tuple_tuple (I.ok.hd hc) ht (by simp[hn,<-hl,rv.length]) hst λh' hx=>?_;have I1:Inv X pins U H {s with heap:=h'}:=I.kept λb o e=>hx b o (cw (bn e)) e;exact h pins _ U H xs _ Q I1 (by simpa using rv) hw
def jR (te:TE)(g:TG):TS:=λD U H=>te U H λx H1=>g x U H1 D.nx
theorem zob (he:PE X e te)(hg:PG X tg g)(hs:uh [tg] e pos.line X.env=pure false:=by rfl)(hw:ui [tg] e X.env=pure none:=by rfl)
  (h1:(gm [tg] X.env).map (·.2)=[ux tg X.env]:=by rfl):PS X (.Assign [tg] e pos) (jR te g):=by
 intro pins s U H D I h;refine wpAny_Assign_stores (aM (he pins s U H _ I h) λv s1 ⟨x,H1,I1,r1,q1⟩=>?_) hs hw;rw[h1];exact aM (hg pins s1 U H1 x v _ I1 r1 q1) λ_ s2 q=>q
theorem z97 (hN:X.N.Nodup)(hi:X.N[i]?=some x)(hx:Loc X.env.scope x)(he:PE X e te)(hs:mx e (some (.Name x pos')) pos.line X.env=pure false:=by rfl)(hf:Sto X x:=by first|exact⟨.inl rfl,nofun⟩|exact⟨.inr rfl,nofun⟩|assumption):
  PS X (.Assign [.Name x pos'] e pos) (jR te (qI i)):=by
 intro pins s U H D I h;refine wpAny_Assign_Name (aM (he pins s U H _ I h) λv s1 ⟨y,H1,I1,r1,q1⟩=>?_) hs;exact z5r I1 hN hi hx r1 (λs2 I2=>⟨_,H1,I2,q1⟩) hf
end
structure It where
 go:Nat->Hp->Prop
 fU:Nat->Hp->V->Hp->Prop
 stop:Nat->Hp->Prop
def FpOk (X:Cx)(pins:List (Addr×Obj))(H:Hp)(b:Addr):Prop:=H b=none/\b≠X.env.locals/\b∉X.fs/\(b∈X.ex\/X.s₀.heap.objs.size<=b)/\(∀x c,X.env.cells.lookup x=some c->c≠b)/\∀p∈X.pn++pins,p.1≠b
theorem Inv.gU (I:Inv X pins U H s)(hb:s.heap.objs.size<=b)(hn:H' b=none):FpOk X pins H' b:=by
 refine⟨hn,qk (cg I.lt hb),I.zu hb,.inr (bo I.sz hb),λx c e z=>?_,λp hp z=>?_⟩
 ·obtain⟨v,q⟩:=I.cell x c e;exact absurd (cg q.lt (by rw[z];exact hb)) (cq _)
 ·exact absurd (cg (bn (I.pin p hp).1) (by rw[z];exact hb)) (cq _)
structure Turn (P:cu)(w:World)(K:W.Frag)(tg:Expr)(J:It)(fp:List Addr)(it:Addr)(tn:Nat->Heap->Prop):Prop where
 mem:it∈fp
 obj:∀i h,tn i h->∀b∈fp,∃o,h.get? b=some o/\∀v,o.data≠.cell v
 keep:∀i h h',tn i h->(∀b∈fp,∀o,h.get? b=some o->h'.get? b=some o)->tn i h'
 item:∀(X:Cx),X.prog=P->X.w=w->X.K=K->X.calm=true->∀(i:Nat) (pins:List (Addr×Obj)) (s:aw) (U:St) (H:Hp) (E:Value->aw->Prop),Inv X pins U H s->(∀b∈fp,FpOk X pins H b)->tn i s.heap->J.go i H->wpAny (model P w) X.A (wv (.ref it)) (λr s1=>∃u,r=some u/\wpAny (model P w) X.A (jg tg (.ref it) u) (λ_ s2=>∃x H',Inv X pins U H' s2/\RelV x u/\J.fU i H x H'/\tn (i+1) s2.heap/\∀b∈fp,H' b=none) E s1) E s
 done:∀(X:Cx),X.prog=P->X.w=w->X.K=K->X.calm=true->∀(i:Nat) (pins:List (Addr×Obj)) (s:aw) (U:St) (H:Hp) (E:Value->aw->Prop),Inv X pins U H s->(∀b∈fp,FpOk X pins H b)->tn i s.heap->J.stop i H->wpAny (model P w) X.A (wv (.ref it)) (λr s1=>r=none/\Inv X pins U H s1) E s
 self:∀(A:i6) (i:Nat) (s:aw) (Q:Value->aw->Prop) (E:Value->aw->Prop),tn i s.heap->Q (.ref it) s->wpAny (model P w) A (uy (.ref it)) Q E s
abbrev TI:=St->Hp->(It->Hp->Prop)->Prop
def uV (X:Cx)(pins:List (Addr×Obj))(U:St)(tg:Expr)(R:It->Hp->Prop)(nX:Value)(s2:aw):Prop:=∃(it:Addr) (fp:List Addr) (tn:Nat->Heap->Prop) (J:It) (H':Hp),nX=.ref it/\Inv X pins U H' s2/\Turn X.prog X.w X.K tg J fp it tn/\tn 0 s2.heap/\(∀b∈fp,FpOk X pins H' b)/\R J H'
def PI (X:Cx)(tg iter:Expr)(wi:TI):Prop:=∀(pins:List (Addr×Obj)) (s:aw) (U:St) (H:Hp) (R:It->Hp->Prop),Inv X pins U H s->wi U H R->wpAny (model X.prog X.w) X.A (eval iter X.env) (λv s1=>wpAny (model X.prog X.w) X.A (uy v) (uV X pins U tg R) X.xe s1) X.xe s
theorem zfh (ho:s.heap.get? it=some o)(hc:o.cls=.type n)(hd:o.data=.fields vs)
  (hn:["enumerate","zip","dict_itemiterator","dict_reverseitemiterator","odict_iterator","itertools.zip_longest","itertools.pairwise"].contains n=false) (hQ:Q () s):wpAny M A (jg tg (.ref it) u) Q E s:=by
 cases tg<;>first
  |exact am hQ
  |(cases u<;>first
   |exact am hQ
   |(refine ac (uz ho ?_)
     rw[hc,hd];show wpAny M A (if(["enumerate","zip","dict_itemiterator","dict_reverseitemiterator","odict_iterator","itertools.zip_longest","itertools.pairwise"].contains n&&vs[0]?==some (j6 _))=true then _ else _) Q E s;rw[xw (by intro h;rw[hn,Bool.false_and]at h;cases h)];exact am hQ))
def EO (K:W.Frag)(a:Addr):It:=⟨λi H=>∃xs x,SqL K H a xs/\xs[i]?=some x,λi H x H'=>H'=H/\∀xs,SqL K H a xs->xs[i]?=some x,λi H=>∃xs,SqL K H a xs/\xs.length<=i⟩
def KZ (K:W.Frag)(a:Addr):It:=⟨λi H=>∃xs x,bL K H a xs/\xs[i]?=some x,λi H x H'=>H'=H/\∀xs,bL K H a xs->xs[i]?=some x,λi H=>∃xs,bL K H a xs/\xs.length<=i⟩
def CH (lo:Int)(n:Nat):It:=⟨λi _=>i<n,λi H x H'=>H'=H/\x=.int (lo+i),λi _=>n<=i⟩
theorem K0 {K:W.Frag}(a it:Addr):Turn P w K tg (EO K a) [it] it (λi h=>h.IsListIter it a i) where
 mem:=by simp
 obj:=λi h st b hb=>by
  have e:b=it:=by simpa using hb
  subst e;obtain⟨o,e,c,d⟩:=st;exact⟨o,e,λv z=>by rw[d]at z;cases z⟩
 keep:=λi h h' st k=>st.at λo e=>k it (by simp) o e
 item:=by intro X hP hw hK hc i pins s U H E I hf st hg;subst hP hw hK;obtain⟨xs,x,hq,hx⟩:=hg;obtain⟨its,rv,p,hz⟩:=I.list hq;obtain⟨u,hu,ru⟩:=rv.get hx;obtain⟨f0,f1,f2,f3,f4,f5⟩:=hf it (by simp);refine wpAny_pyNext_list_item st p.isList (by simpa using hu) λh' jS sb=>?_;have I1:Inv X pins U H {s with heap:=h'}:=I.turned (λb o hb e=>(sb.2 b hb).trans e) f0 f1 f3 f4 f5;obtain⟨o,e,c,d⟩:=id jS;exact⟨u,rfl,zfh e c d (by decide) ⟨x,H,I1,ru,⟨rfl,λys hy=>by rw[I.nW hy hq];exact hx⟩,jS,λb hb=>(hf b hb).1⟩⟩
 done:=by intro X hP hw hK hc i pins s U H E I hf st hg;subst hP hw hK;obtain⟨xs,hq,hx⟩:=hg;obtain⟨its,rv,p,hz⟩:=I.list hq;obtain⟨f0,f1,f2,f3,f4,f5⟩:=hf it (by simp);have hl:=rv.length;exact wpAny_pyNext_list_end (I.ok.hd hc) st p.isList (by simp;omega) λh' eb=>⟨rfl,I.turned (λb o hb e=>eb b o hb e) f0 f1 f3 f4 f5⟩
 self:=λ_ _ _ _ _ st h=>wpAny_pyIter_listiter st h
theorem Ro {K:W.Frag}(a it:Addr):Turn P w K tg (KZ K a) [it] it (λi h=>h.IsTupleIter it a i) where
 mem:=by simp
 obj:=λi h st b hb=>by
  have e:b=it:=by simpa using hb
  subst e;obtain⟨o,e,c,d⟩:=st;exact⟨o,e,λv z=>by rw[d]at z;cases z⟩
 keep:=λi h h' st k=>st.at λo e=>k it (by simp) o e
 item:=by intro X hP hw hK hc i pins s U H E I hf st hg;subst hP hw hK;obtain⟨xs,x,hq,hx⟩:=hg;obtain⟨its,rv,p,hz⟩:=I.tuple hq;obtain⟨u,hu,ru⟩:=rv.get hx;obtain⟨f0,f1,f2,f3,f4,f5⟩:=hf it (by simp);refine wpAny_pyNext_tuple_item st p (by simpa using hu) λh' jS sb=>?_;have I1:Inv X pins U H {s with heap:=h'}:=I.turned (λb o hb e=>(sb.2 b hb).trans e) f0 f1 f3 f4 f5;obtain⟨o,e,c,d⟩:=id jS;exact⟨u,rfl,zfh e c d (by decide) ⟨x,H,I1,ru,⟨rfl,λys hy=>by rw[I.lN hy hq];exact hx⟩,jS,λb hb=>(hf b hb).1⟩⟩
 done:=by intro X hP hw hK hc i pins s U H E I hf st hg;subst hP hw hK;obtain⟨xs,hq,hx⟩:=hg;obtain⟨its,rv,p,hz⟩:=I.tuple hq;obtain⟨f0,f1,f2,f3,f4,f5⟩:=hf it (by simp);have hl:=rv.length;exact wpAny_pyNext_tuple_end (I.ok.hd hc) st p (by simp;omega) λh' eb=>⟨rfl,I.turned (λb o hb e=>eb b o hb e) f0 f1 f3 f4 f5⟩
 self:=λ_ _ _ _ _ st h=>wpAny_pyIter_tupleiter st h
theorem Rp {K:W.Frag}(it:Addr)(lo:Int)(n:Nat):Turn P w K tg (CH lo n) [it] it (λi h=>IsRangeIter h it (lo+(i:Nat)*1) ((n:Int)-(i:Nat)) 1) where
 mem:=by simp
 obj:=λi h st b hb=>by
  have e:b=it:=by simpa using hb
  subst e;exact⟨_,st,λv z=>by have z':=z;cases z'⟩
 keep:=λi h h' st k=>k it (by simp) _ st
 item:=by intro X hP hw hK hc i pins s U H E I hf st hg;subst hP hw hK;obtain⟨f0,f1,f2,f3,f4,f5⟩:=hf it (by simp);have W:=Walks.range (prog:=X.prog) (w:=X.w) (I.ok.hd hc) it lo 1 n;refine W.item i s _ _ hg st λv h' tk hv jS kk=>?_;obtain⟨t,rfl⟩:=hv;have I1:Inv X pins U H {s with heap:=h',toks:=tk}:=I.turned (λb o hb e=>kk b o (by simpa using hb) e) f0 f1 f3 f4 f5;refine⟨_,rfl,zfh jS rfl rfl (by decide) ⟨.int (lo+i),H,I1,⟨t,?_⟩,⟨rfl,rfl⟩,jS,λb hb=>(hf b hb).1⟩⟩;rw[Int.mul_one]
 done:=by intro X hP hw hK hc i pins s U H E I hf st hg;obtain⟨f0,f1,f2,f3,f4,f5⟩:=hf it (by simp);exact wpAny_pyNext_range_end (I.ok.hd hc) st (by have:n<=i:=hg;omega) λh' eb=>⟨rfl,I.turned (λb o hb e=>eb b o hb e) f0 f1 f3 f4 f5⟩
 self:=λ_ _ _ _ _ st h=>wpAny_pyIter_rangeiter st h
section
variable {X:Cx}{tg:Expr}
def zL (K:W.Frag)(tl:TE):TI:=λU H R=>tl U H λx H1=>∃a,x=.ref a/\(∃xs,SqL K H1 a xs)/\R (EO K a) H1
theorem K1 (hl:PE X l tl):PI X tg l (zL X.K tl):=by
 intro pins s U H R I h;refine aM (hl pins s U H _ I h) λv s1 ⟨x,H1,I1,r1,q1⟩=>?_;obtain⟨a,e,⟨xs,hq⟩,q⟩:=q1;subst e;cases r1;obtain⟨its,rv,p,hz⟩:=I1.list hq;refine jz p.isList ?_;refine⟨s1.heap.objs.size,[s1.heap.objs.size],_,_,H1,rfl,I1.kept λb o e=>af _ e,K0 a _,⟨_,a8 _ rfl,rfl,rfl⟩,λb hb=>?_,q⟩;have e:b=s1.heap.objs.size:=by simpa using hb
 subst e;exact I1.gU (ag _) (I1.hok.fresh (ag _))
theorem zgg {lo:Int}(I:Inv X pins U H s)(h1:-(2 ^ 62)<=lo)(h2:lo<2 ^ 62)(h3:-(2 ^ 62)<=hi)(h4:hi<2 ^ 62)
  (q:R (CH lo (hi-lo).toNat) H):wpAny (model X.prog X.w) X.A (uy (.ref s.heap.objs.size)) (uV X pins U tg R) E {s with heap:=s.heap.push {cls:=.type "range",data:=.fields #[.int lo t,.int hi u,.int 1 v]},toks:=tk}:=by
 refine wpAny_pyIter_range (IsRange.new ..) (small_one h1 h2 h3 h4) ?_;have I1:Inv X pins U H {s with heap:=s.heap.push {cls:=.type "range",data:=.fields #[.int lo t,.int hi u,.int 1 v]},toks:=tk}:=I.kept λb o e=>af _ e;refine⟨(s.heap.push {cls:=.type "range",data:=.fields #[.int lo t,.int hi u,.int 1 v]}).objs.size,[(s.heap.push {cls:=.type "range",data:=.fields #[.int lo t,.int hi u,.int 1 v]}).objs.size],_,_,H,rfl,I1.kept λb o e=>af _ e,Rp _ lo (hi-lo).toNat,?_,λb hb=>?_,q⟩
 ·have e1:lo+((0:Nat):Int)*1=lo:=by simp
  have e2:(((hi-lo).toNat:Nat):Int)-((0:Nat):Int)=Builtin.Range.rangeSize lo hi 1:=by rw[rangeSize_one];split<;>omega
  rw[e1,e2];exact a8 _ rfl
 ·have e:b=(s.heap.push {cls:=.type "range",data:=.fields #[.int lo t,.int hi u,.int 1 v]}).objs.size:=by simpa using hb
  subst e;exact I1.gU (ag _) (I1.hok.fresh (ag _))
def Rq (ta:TA):TI:=λU H R=>ta U H λvs H1=>∃j:Int,vs=[.int j]/\-(2 ^ 62)<=j/\j<2 ^ 62/\R (CH 0 j.toNat) H1
theorem Rr (hg:Gl X "range")(hm:X.mg "range"=none)(ha:PA X [a] ta)(hs:gh [a] X.env=[(false,eval a X.env)]:=by rfl):PI X tg (.Call (.Name "range" p) [a] [] pos) (Rq ta):=by
 intro pins s U H R I h;refine Call_ (z2e I hg hm boot_range (PyProof.Rows.callWith_type1 (aM (ha pos pins s U H _ I h) λus s1 ⟨vs,H1,I1,r1,q1⟩=>?_) hs rfl));obtain⟨j,e,q1,q2,q⟩:=q1;subst e;cases r1 with
 |cons r rr=>cases rr;obtain⟨t,rfl⟩:=r;exact call_range_1 (zgg I1 (by omega) (by omega) q1 q2 (by simpa using q))
def jT (wi:TI)(g:TG)(tb:TS):TS:=λD U H=>wi U H λJ H1=>∃W:Nat->Nat->St->Hp->Prop,(∃m,W 0 m U H1)/\∀i m U H,W i m U H->(J.stop i H/\D.nx U H)\/(J.go i H/\∃N:St->Hp->Prop,(∀σ' H',N σ' H'->∃m',m'<m/\W (i+1) m' σ' H')/\∀x H',J.fU i H x H'->g x U H' λiE H2=>tb {D with nx:=N,ct:=N,bk:=D.nx} iE H2)
def z6m (fp:List Addr)(h:Heap):List (Addr×Obj):=fp.filterMap λb=>(h.get? b).map λo=>(b,o)
theorem yh (hb:b∈fp)(e:h.get? b=some o):(b,o)∈z6m fp h:=jr.mpr ⟨b,hb,by rw[e];rfl⟩
theorem Rt (hp:p∈z6m fp h):p.1∈fp/\h.get? p.1=some p.2:=by
 obtain⟨b,hb,e⟩:=jr.mp hp;cases q:h.get? b with
 |none=>rw[q]at e;cases e
 |some o=>rw[q]at e;have e':=xx e;subst e';exact⟨hb,q⟩
theorem Inv.pinned (I:Inv X pins U H s)(hf:∀b∈fp,FpOk X pins H b)(ho:∀b∈fp,∃o,s.heap.get? b=some o/\∀v,o.data≠.cell v):Inv X (pins++z6m fp s.heap) U H s:=I.gR λp hp=>(ce.mp hp).elim (λz=>I.pin p (ay _ z)) λz=>by obtain⟨hb,e⟩:=Rt z;obtain⟨f0,f1,f2,_⟩:=hf p.1 hb;obtain⟨o,e',d⟩:=ho p.1 hb;rw[e]at e';cases e';exact⟨e,f0,f1,f2,d⟩
theorem Inv.bY (I:Inv X (pins++pl) U H s):Inv X pins U H s:=I.gR λp hp=>I.pin p (ay _ (cx _ hp))
theorem z8r (hp:jx (model X.prog X.w) X.A X.env X.xe)(hc:X.calm=true)(hi:PI X tg iter wi)(hg:PG X tg g)(hb:PSs X body tb)
  (hs:∀x,ij iter X.env x=pure x:=by intro _;rfl):PS X (.For tg iter body [] pos) (jT wi g tb):=by
 intro pins s U H D I h;refine wpAny_For (aM (hi pins s U H _ I h) λv s1 h1=>aM h1 λnX s2 h2=>?_) hs;obtain⟨it,fp,tn,J,H2,e,I2,T,uW,f2,W,⟨m0,w0⟩,turn⟩:=h2;subst e;have uX:∀{H':Hp},(∀b∈fp,H' b=none)->∀b∈fp,FpOk X pins H' b:=λhn b hb=>⟨hn b hb,(f2 b hb).2⟩;refine codeAny_forLoop_any (λn s'=>∃i σ' H',Inv X pins σ' H' s'/\tn i s'.heap/\(∀b∈fp,H' b=none)/\W i n σ' H') ?_ m0 ⟨0,U,H2,I2,uW,λb hb=>(f2 b hb).1,w0⟩
 rintro n s3 ⟨i,eD,H3,I3,zM,zN,w3⟩
 rcases turn i n eD H3 w3 with⟨stop,qn⟩|⟨go,N,hN,step⟩
 ·refine li hp (aM (T.done X rfl rfl rfl hc i pins s3 eD H3 X.xe I3 (uX zN) zM stop) λr s4 ⟨hr,I4⟩=>?_);subst hr;exact wpAny_execs_nil ⟨eD,H3,I4,qn⟩
 ·refine li hp (aM (T.item X rfl rfl rfl hc i pins s3 eD H3 X.xe I3 (uX zN) zM go) λr s4 ⟨u,hr,h4⟩=>?_);subst hr;refine li hp (aM h4 λ_ s5 ⟨x,H5,I5,r5,y5,nY,zO⟩=>?_);have CJ:=I5.pinned (uX zO) (T.obj _ _ nY);refine li hp (aM (hg _ s5 eD H5 x u _ CJ r5 (step x H5 y5)) λ_ s6 ⟨σ6,H6,I6,q6⟩=>?_);refine li hp (aM (hb _ s6 σ6 H6 _ I6 q6) λf s7 q7=>?_);have again:∀{nZ:St} {H7:Hp},Inv X (pins++z6m fp s5.heap) nZ H7 s7->N nZ H7->∃m,m<n/\∃i σ' H',Inv X pins σ' H' s7/\tn i s7.heap/\(∀b∈fp,H' b=none)/\W i m σ' H':=λ{nZ H7} I7 n7=>by obtain⟨m',hm,w7⟩:=hN nZ H7 n7;refine⟨m',hm,i+1,nZ,H7,I7.bY,T.keep _ _ _ nY λb hb o e=>(I7.pin (b,o) (ay _ (ay _ (yh hb e)))).1,λb hb=>?_,w7⟩;obtain⟨o,e,d⟩:=T.obj _ _ nY b hb;exact(I7.pin (b,o) (ay _ (ay _ (yh hb e)))).2.1
  cases f with
  |next=>obtain⟨nZ,H7,I7,n7⟩:=q7;exact again I7 n7
  |cont=>obtain⟨nZ,H7,I7,n7⟩:=q7;exact again I7 n7
  |brk=>obtain⟨nZ,H7,I7,q7⟩:=q7;exact⟨nZ,H7,I7.bY,q7⟩
  |ret v=>obtain⟨x7,nZ,H7,I7,r7,q7⟩:=q7;exact⟨x7,nZ,H7,I7.bY,r7,q7⟩
end
abbrev R2:=V->V->Hp->VK->Prop
def OpR (X:Cx)(f:Value->Value->Sem Value)(r:R2):Prop:=∀(pins:List (Addr×Obj)) (s:aw) (U:St) (H:Hp) (x y:V) (v u:Value) (Q:VK),Inv X pins U H s->RelV x v->RelV y u->r x y H Q->wpAny (model X.prog X.w) X.A (f v u) (EP X pins U Q) X.xe s
def CallR (X:Cx)(f:Value)(r:List V->Hp->VK->Prop):Prop:=∀(pins:List (Addr×Obj)) (s:aw) (U:St) (H:Hp) (xs:List V) (us:List Value) (Q:VK),Inv X pins U H s->Vals xs us->r xs H Q->wpAny (model X.prog X.w) X.A (call f us) (EP X pins U Q) X.xe s
def ER (X:Cx)(r:V->Hp->(Bool->Hp->Prop)->Prop):Prop:=∀(pins:List (Addr×Obj)) (s:aw) (U:St) (H:Hp) (x:V) (v:Value) (Q:Bool->Hp->Prop),Inv X pins U H s->RelV x v->r x H Q->wpAny (model X.prog X.w) X.A (truthy v) (TP X pins U Q) X.xe s
def lO (r:R2)(ta tb:TE):TE:=λU H Q=>ta U H λx H1=>tb U H1 λy H2=>r x y H2 Q
def rI (C:Int->Int->Prop)(g:Int->Int->V):R2:=λx y H Q=>∃i j,x=.int i/\y=.int j/\C i j/\Q (g i j) H
def oA (g:Int->Int->V):R2:=λx y H Q=>∃i j,x=.int i/\y=.int j/\Q (g i j) H
section
variable {X:Cx}{a b c:Expr}{ta tb tc:TE}{pos:Pos}
theorem binT (ha:PE X a ta)(hb:PE X b tb){R:V->V->Hp->Prop}(I:Inv X pins U H s)
  (h:ta U H λx H1=>tb U H1 λy H2=>R x y H2) {f:Value->Value->Sem Value}
  (hf:∀v u s2 x y H2,Inv X pins U H2 s2->RelV x v->RelV y u->R x y H2->wpAny (model X.prog X.w) X.A (f v u) Q X.xe s2):
  wpAny (model X.prog X.w) X.A (eval a X.env) (λv s₁=>wpAny (model X.prog X.w) X.A (eval b X.env) (λu jQ=>wpAny (model X.prog X.w) X.A (f v u) Q X.xe jQ) X.xe s₁) X.xe s:=by
 refine aM (ha pins s U H _ I h) λv s1 ⟨x,H1,I1,r1,q1⟩=>?_;refine aM (hb pins s1 U H1 _ I1 q1) λu s2 ⟨y,H2,I2,r2,q2⟩=>?_;exact hf v u s2 x y H2 I2 r1 r2 q2
theorem K2 (ho:OpR X (iy op) r)(ha:PE X a ta)(hb:PE X b tb):PE X (.BinOp a op b pos) (lO r ta tb):=by intro pins s U H Q I h;exact wpAny_BinOp (binT ha hb I h λv u s2 x y H2 I2 rx ry q=>ho pins s2 U H2 x y v u Q I2 rx ry q)
theorem opI {g:Int->Int->Int}
  (rule:∀(i j:Int) (t u:Tok) (s:aw) (Q:Value->aw->Prop) (E:Value->aw->Prop),C i j->Q (.int (g i j) s.toks) {s with toks:=s.toks+1}->wpAny (model X.prog X.w) X.A (f (.int i t) (.int j u)) Q E s):
  OpR X f (rI C λi j=>.int (g i j)):=by
 intro pins s U H x y v u Q I rx ry h;obtain⟨i,j,rfl,rfl,hc,q⟩:=h;obtain⟨t,rfl⟩:=rx;obtain⟨t',rfl⟩:=ry;exact rule i j t t' s _ _ hc ⟨.int (g i j),H,I.tok _,⟨_,rfl⟩,q⟩
theorem opI0 {g:Int->Int->Int}
  (rule:∀(i j:Int) (t u:Tok) (s:aw) (Q:Value->aw->Prop) (E:Value->aw->Prop),Q (.int (g i j) s.toks) {s with toks:=s.toks+1}->wpAny (model X.prog X.w) X.A (f (.int i t) (.int j u)) Q E s):
  OpR X f (oA λi j=>.int (g i j)):=by
 intro pins s U H x y v u Q I rx ry h;obtain⟨i,j,rfl,rfl,q⟩:=h;obtain⟨t,rfl⟩:=rx;obtain⟨t',rfl⟩:=ry;exact rule i j t t' s _ _ ⟨.int (g i j),H,I.tok _,⟨_,rfl⟩,q⟩
theorem opB0 {g:Int->Int->Bool}
  (rule:∀(i j:Int) (t u:Tok) (s:aw) (Q:Value->aw->Prop) (E:Value->aw->Prop),Q (.bool (g i j)) s->wpAny (model X.prog X.w) X.A (f (.int i t) (.int j u)) Q E s):
  OpR X f (oA λi j=>.bl (g i j)):=by
 intro pins s U H x y v u Q I rx ry h;obtain⟨i,j,rfl,rfl,q⟩:=h;obtain⟨t,rfl⟩:=rx;obtain⟨t',rfl⟩:=ry;exact rule i j t t' s _ _ ⟨.bl (g i j),H,I,rfl,q⟩
def ES (i j:Int):Prop:=0<=j/\j<=1000000/\i.natAbs<2 ^ 64
def uY (i j:Int):Prop:=(-(2 ^ 64)<i/\i<2 ^ 64)\/(-(2 ^ 64)<j/\j<2 ^ 64)
theorem uY.ok (h:uY i j):IntMulOk i j:=by
 rcases h with⟨h1,h2⟩|⟨h1,h2⟩
 ·exact .of_left (intBits_le_64 h1 h2)
 ·exact .of_right (intBits_le_64 h1 h2)
theorem Rv:OpR X (iy .Add) (oA λi j=>.int (i+j)):=opI0 λ_ _ _ _ _ _ _ q=>add_int q
theorem Rx:OpR X (iy .Sub) (oA λi j=>.int (i-j)):=opI0 λ_ _ _ _ _ _ _ q=>sub_int q
theorem Ry:OpR X (iy .Mult) (rI uY λi j=>.int (i*j)):=opI λ_ _ _ _ _ _ _ hc q=>mul_int q hc.ok
theorem RA:OpR X (iy .Mod) (rI (λ_ j=>0<j) λi j=>.int (i%j)):=opI λi j _ _ _ _ _ hc q=>by exact mod_int' (by omega) (by rw[Int.fmod_eq_emod_of_nonneg i (by omega)];exact q)
theorem RB:OpR X (iy .Pow) (rI ES λi j=>.int (i ^ j.toNat)):=opI λ_ _ _ _ _ _ _ hc q=>pow_int_small hc.1 hc.2.1 hc.2.2 q
end
section
variable {X:Cx}{a b c:Expr}{ta tb tc:TE}{pos:Pos}
theorem K3 (I:Inv X pins U H s)(q:Q (.bl k) H)(e:k=k'):EP X pins U Q (.bool k') s:=by subst e;exact⟨.bl k,H,I,rfl,q⟩
theorem RC:OpR X (dz .Lt) (oA λi j=>.bl (decide (i<j))):=opB0 λ_ _ _ _ _ _ _ q=>lt_int q
theorem RD:OpR X (dz .Gt) (oA λi j=>.bl (decide (j<i))):=opB0 λ_ _ _ _ _ _ _ q=>gt_int q
theorem RE:OpR X (dz .GtE) (oA λi j=>.bl (decide (j<=i))):=opB0 λ_ _ _ _ _ _ _ q=>ge_int q
theorem RF:OpR X (dz .Lt) (λx y H Q=>∃i j,x=.str i/\y=.str j/\Q (.bl (decide (i.cps.toList<j.cps.toList))) H):=by intro pins s U H x y v u Q I rx ry h;obtain⟨i,j,rfl,rfl,q⟩:=h;obtain⟨t,rfl⟩:=rx;obtain⟨t',rfl⟩:=ry;exact lt_str (K3 I q rfl)
theorem RG:OpR X (dz .In) (λx y H Q=>∃i j,x=.str i/\y=.str j/\Q (.bl (!(jm j i 0 j.length 1).isEmpty)) H):=by intro pins s U H x y v u Q I rx ry h;obtain⟨i,j,rfl,rfl,q⟩:=h;obtain⟨t,rfl⟩:=rx;obtain⟨t',rfl⟩:=ry;exact in_str (K3 I q rfl)
theorem OpR.or (h:OpR X f r)(h':OpR X f r'):OpR X f (λx y H Q=>r x y H Q\/r' x y H Q):=by
 intro pins s U H x y v u Q I rx ry q;rcases q with q|q
 ·exact h pins s U H x y v u Q I rx ry q
 ·exact h' pins s U H x y v u Q I rx ry q
theorem RH (ho:OpR X (dz op) r)(ha:PE X a ta)(hb:PE X b tb)(hm:gk op b=false):PE X (.Compare a [op] [b] pos) (lO r ta tb):=by intro pins s U H Q I h;exact wpAny_Compare1 (binT ha hb I h λv u s2 x y H2 I2 rx ry q=>ho pins s2 U H2 x y v u Q I2 rx ry q) hm
def zP (t:TE):TT:=λU H Q=>t U H λx H'=>∃k,x=.bl k/\Q k H'
theorem K4 (ho:OpR X (dz op) r)(ha:PE X a ta)(hb:PE X b tb)(hm:gk op b=false):PT X (.Compare a [op] [b] pos) (zP (lO r ta tb)):=by intro pins s U H Q I h;refine qy (aM (ha pins s U H _ I h) λv s1 ⟨x,H1,I1,r1,q1⟩=>aM (hb pins s1 U H1 _ I1 q1) λu s2 ⟨y,H2,I2,r2,q2⟩=>aM (ho pins s2 U H2 x y v u _ I2 r1 r2 q2) λc s3 ⟨z,H3,I3,r3,k,e,q3⟩=>?_) hm;subst e;cases r3;exact ig ⟨H3,I3,q3⟩
def uZ (K:W.Frag)(x:V)(H:Hp)(k:Bool):Prop:=
 match x with
 |.bD=>k=false
 |.bl b=>k=b
 |.int i=>k=(i != 0)
 |.str y=>y.length<=bc/\k=((y.length:Int) != 0)
 |.ref p=>(∃xs,SqL K H p xs/\k=!xs.isEmpty)\/(∃xs,bL K H p xs/\k=!xs.isEmpty)\/∃kvs,H p=some (.dK kvs)/\k=!kvs.isEmpty
 |_=>False
theorem RI (r:KV kvs vs):(!vs.isEmpty)=!kvs.isEmpty:=by cases r<;>rfl
theorem K5 (r:Vals xs its):(!its.toArray.isEmpty)=!xs.isEmpty:=by cases r<;>simp
theorem vA:(bc:Nat)<2 ^ 63:=by rw[cz];decide
theorem K6:ER X (λx H Q=>∃k,uZ X.K x H k/\Q k H):=by
 intro pins s U H x v Q I rx h;obtain⟨k,e,q⟩:=h;have hl:=vA;cases x with
 |bD=>cases rx;have e':=e;subst e';exact truthy_none ⟨H,I,q⟩
 |bl b=>cases rx;have e':=e;subst e';exact ig ⟨H,I,q⟩
 |int i=>obtain⟨t,rfl⟩:=rx;have e':=e;subst e';exact PySem.P.truthy_int ⟨H,I,q⟩
 |str y=>obtain⟨t,rfl⟩:=rx;obtain⟨hy,e'⟩:=e;subst e';exact PySem.P.truthy_str (by omega) ⟨H,I.tok _,q⟩
 |ref p=>
  cases rx;have e':=e;rcases e' with⟨xs,hx,e'⟩|⟨xs,hx,e'⟩|⟨kvs,hx,e'⟩
  ·subst e';obtain⟨its,r,pl,hz⟩:=I.list hx;have hlen:=r.length;exact wpAny_truthy_list pl.isList (by simp only[ax];omega) ⟨H,I.tok _,by rw[K5 r];exact q⟩
  ·subst e';obtain⟨its,r,pl,hz⟩:=I.tuple hx;have hlen:=r.length;exact truthy_tuple pl (by simp only[ax];omega) ⟨H,I.tok _,by rw[K5 r];exact q⟩
  ·subst e';obtain⟨hz,hS,vs,r,m⟩:=I.hok p _ hx;have hlen:=Paired.length r;exact wpAny_truthy_dict hS m (by omega) ⟨H,I.tok _,by rw[RI r];exact q⟩
 |_=>exact e.elim
theorem zgj (ha:PE X a ta)(he:∀whole,wu a X.env whole=(do let v <-whole;standAt a.pos;holding [v] (truthy v))):
  PT X a (λU H Q=>ta U H λx H'=>∃k,uZ X.K x H' k/\Q k H'):=by
 intro pins s U H Q I h;exact isTrue_plain (aM (ha pins s U H _ I h) λv s1 ⟨x,H1,I1,r1,q1⟩=>K6 pins s1 U H1 x v Q I1 r1 q1) (he _)
theorem RJ:OpR X (iy .Add) (λx y H Q=>∃i j,x=.str i/\y=.str j/\i.length+j.length<=bc/\Q (.str (i++j)) H):=by intro pins s U H x y v u Q I rx ry h;obtain⟨i,j,rfl,rfl,hz,q⟩:=h;obtain⟨t,rfl⟩:=rx;obtain⟨t',rfl⟩:=ry;exact add_str (λt' tk=>⟨.str (i++j),H,I.tok _,⟨_,rfl⟩,q⟩) hz
theorem vals1 (r:Vals [x] us):∃u,us=[u]/\RelV x u:=by
 cases r with
 |cons r1 r2=>cases r2;exact⟨_,rfl,r1⟩
theorem vals2 (r:Vals [x,y] us):∃u w',us=[u,w']/\RelV x u/\RelV y w':=by
 cases r with
 |cons r1 r2=>
  cases r2 with
  |cons r3 r4=>cases r4;exact⟨_,_,rfl,r1,r3⟩
theorem RK (hc:X.calm=true):CallR X (.builtin "max") (λxs H Q=>∃i j,xs=[.int i,.int j]/\Q (.int (if j>i then j else i)) H):=by
 intro pins s U H xs us Q I r h;obtain⟨i,j,rfl,q⟩:=h;obtain⟨u,w',rfl,⟨t,rfl⟩,⟨t',rfl⟩⟩:=vals2 r;refine max_two_ints (I.ok.hd hc) λh' tk k=>⟨_,H,I.kept k,?_,q⟩;by_cases hj:j>i
 ·rw[xu hj,xu hj];exact⟨_,rfl⟩
 ·rw[xw hj,xw hj];exact⟨_,rfl⟩
theorem RL:CallR X (.type "int") (λxs H Q=>(∃i,xs=[.int i]/\Q (.int i) H)\/∃k,xs=[.bl k]/\Q (.int (if k then 1 else 0)) H):=by
 intro pins s U H xs us Q I r h;rcases h with⟨i,rfl,q⟩|⟨k,rfl,q⟩
 ·obtain⟨u,rfl,t,rfl⟩:=vals1 r;exact call_int_int ⟨.int i,H,I,⟨_,rfl⟩,q⟩
 ·obtain⟨u,rfl,r1⟩:=vals1 r;cases r1;exact call_int_bool ⟨.int (if k then 1 else 0),H,I.tok _,⟨_,rfl⟩,q⟩
end
structure vB (h:Heap)(x dx C:Addr)(mA:Str->Option Value):Prop where
 obj:h.get? x=some (W.instObj C dx)
 ns:h.Ns1 dx mA
 ne:dx≠x
theorem RM {h:Heap}(n:h.Ns1 dx mA):∃od,h.get? dx=some od/\∀name,W.lookIn name od=some (mA name):=by
 obtain⟨o,es,ep,ho,hd,hk,_,hm⟩:=n;refine⟨o,ho,λname=>?_⟩;have e:=hm name;unfold nsFind findBy at e;rw[<-Array.find?_toList]at e;unfold W.lookIn;rw[hd]
 dsimp only
 split
 ·rename_i y q;rw[q]at e;exact congrArg some e
 ·rename_i q;rw[q]at e;have a:es.toList.any (·.refKey)=false:=by rw[List.any_eq_false];intro y hy;obtain⟨z,t,ET⟩:=hk y (Array.mem_toList_iff.mp hy);simp[DictEntry.refKey,ET]
  have a':¬es.toList.any (·.refKey)=true:=by rw[a];exact eg
  rw[xw a'];exact congrArg some e
theorem vB.look (I:vB h x dx C mA):∃od,W.InstAt h x (W.instObj C dx) C (some od)/\∀name,W.lookIn name od=some (mA name):=
 let⟨od,ho,hl⟩:=RM I.ns
 ⟨od,⟨I.obj,rfl,rfl,ho⟩,hl⟩
theorem eC.some_of (r:eC (some v) o):∃u,o=some u/\RelV v u:=by
 cases o with
 |none=>exact r.elim
 |some u=>exact⟨u,rfl,r⟩
section
variable {P:cu}{w:World}{H H':Hp}{h h':Heap}{a C dx:Addr}{fs QW:List (Str×V)}
theorem RN (hok:HOk P w H h)(e:H a=some (.ins C dx fs)):∃mA,vB h a dx C mA/\(∀f,eC (fs.lookup f) (mA f))/\PySem.Within mA (fs.map (·.1))/\fs.length<=1000/\H dx=some (.own a):=by obtain⟨d,z,ne,ob,mA,n,r,q⟩:=(hok a _ e);exact⟨mA,⟨ob,n,ne⟩,r,q,z,d⟩
end
structure yi (K:W.Frag)(C:Addr):Prop where
 pg:W.plainGet K C Str.empty=true
 hd:W.hasDictIn K C=true
 po:W.plainOver K C=true
 sa:W.findIn K (.ref C) "__setattr__"=some (some (.builtin "object.__setattr__"))
theorem yi.get {K:W.Frag}(c:yi K C)(f:Str):W.plainGet K C f=true:=c.pg
structure Meth (K:W.Frag)(C:Addr)(m:Str)(f:Addr):Prop where
 at_:W.findIn K (.ref C) m=some (some (.ref f))
 fn:W.isFn K (.ref f)=true
 kp:W.keepIn K (.ref f)=true
section
variable {X:Cx}{pins:List (Addr×Obj)}{U:St}{H:Hp}{s:aw}{A:i6}{E:Value->aw->Prop}{Q:Value->aw->Prop}{c:Value}{b:Bool}
inductive TyOf (K:W.Frag)(H:Hp):V->Value->Prop where
 |bD:TyOf K H .bD (.type "NoneType")
 |bl (x:Bool):TyOf K H (.bl x) (.type "bool")
 |int (i:Int):TyOf K H (.int i) (.type "int")
 |str (x:Str):TyOf K H (.str x) (.type "str")
 |lst {a:Addr} {xs:List V} (e:H a=some (.lst xs)):TyOf K H (.ref a) (.type "list")
 |gO {a:Addr} {o:Obj} {xs:List V} (e:H a=some (.gO o (.lst xs))):TyOf K H (.ref a) (.type "list")
 |tup {a:Addr} {xs:List V} (e:H a=some (.tup xs)):TyOf K H (.ref a) (.type "tuple")
 |dK {a:Addr} {kvs:List (Key×V)} (e:H a=some (.dK kvs)):TyOf K H (.ref a) (.type "dict")
 |dT {a:Addr} {kvs:List (List Key×V)} (e:H a=some (.dT kvs)):TyOf K H (.ref a) (.type "dict")
 |ins {a C dx:Addr} {fs:List (Str×V)} (e:H a=some (.ins C dx fs)) (cl:yi K C) (ha:W.findIn K (.ref C) "__class__"=some (some (.builtin "object.__class__")))
  (hn:W.specialIn K (.builtin "object.__class__") "__get__"=some (some (.builtin "getset_descriptor.__get__"))) (yj:W.takesIn K (.builtin "object.__class__")=some true)
  (hm:W.mroIn K C (.type "object")=some true):TyOf K H (.ref a) (.ref C)
theorem z2b (I:Inv X pins U H s)(rx:RelV x u)(ty:TyOf X.K H x t)(e:W.kitOne X.K t c=some b)(h:∀tk,Q (.bool b) {s with toks:=tk}):
  wpAny (model X.prog X.w) A (call (.builtin "isinstance") [u,c]) Q E s:=by
 cases ty with
 |bD=>cases rx;exact W.kia_one W.kitx_none I.gB True.intro e (λz=>nomatch z) h
 |bl y=>cases rx;exact W.kia_one W.kitx_bool I.gB True.intro e (λz=>nomatch z) h
 |int i=>obtain⟨t,q⟩:=rx;cases q;exact W.kia_one W.kitx_int I.gB True.intro e (λz=>nomatch z) h
 |str y=>obtain⟨t,q⟩:=rx;cases q;exact W.kia_one W.kitx_str I.gB True.intro e (λz=>nomatch z) h
 | @lst a xs ea=>cases rx;obtain⟨_,_,n,_,h1⟩:=(I.hok a _ ea);exact W.kia_one W.kitx_list I.gB ⟨_,h1,rfl⟩ e (λz=>nomatch z) h
 | @gO a ob xs ea=>cases rx;obtain⟨_,_,_,n,_,h1⟩:=(I.hok a _ ea);exact W.kia_one W.kitx_list I.gB ⟨_,h1,rfl⟩ e (λz=>nomatch z) h
 | @tup a xs ea=>cases rx;obtain⟨_,_,_,p⟩:=(I.hok a _ ea);obtain⟨o,h1,h2,_⟩:=p.tup;exact W.kia_one W.kitx_tuple I.gB ⟨o,h1,h2⟩ e (λz=>nomatch z) h
 | @dK a kvs ea=>cases rx;obtain⟨_,_,vs,_,p⟩:=(I.hok a _ ea);obtain⟨o,es,ep,h1,h2,_⟩:=p;exact W.kia_one W.kitx_dict I.gB ⟨o,h1,h2.1⟩ e (λz=>nomatch z) h
 | @dT a kvs ea=>cases rx;obtain⟨_,_,xs,_,o,es,ep,h1,h2,_⟩:=(I.hok a _ ea);exact W.kia_one W.kitx_dict I.gB ⟨o,h1,h2.1⟩ e (λz=>nomatch z) h
 | @ins a C dx fs ea cl ha hn yj hm=>cases rx;obtain⟨mA,O,_⟩:=RN I.hok ea;obtain⟨od,J,_⟩:=O.look;exact W.kia_one (W.kitx_own (cl.get _) cl.hd ha hn yj hm) I.gB J e (λz=>nomatch z) h
end
structure Room (k:Nat)(A:i6):Prop where
 hd:A.handled=none
 dp:A.depth+3*k+5<recursionLimit
 un:A.units+16*k+200<cLine
theorem Room.mono (r:Room k A)(h:j<=k):Room j A:=⟨r.hd,by have:=r.dp;omega,by have:=r.un;omega⟩
theorem Room.deeper (r:Room (k+1) A)(env:Env):Room k (A.deeper env):=⟨r.hd,by have:=r.dp;show A.depth+1+3*k+5<_;omega,by have:=r.un;show A.units+3+16*k+200<_;omega⟩
theorem Room.depth (r:Room k A):A.depth<recursionLimit:=by have:=r.dp;omega
theorem Room.units (r:Room k A):A.units+64<cLine:=by have:=r.un;omega
def iQ:TA:=λ_ H Q=>Q [] H
def qJ (ta:TE)(tr:TA):TA:=λU H Q=>ta U H λx H1=>tr U H1 λxs H2=>Q (x::xs) H2
section
variable {X:Cx}{e:Expr}{es:List Expr}{te:TE}{t:TA}{pos:Pos}
theorem lP:PA X [] iQ:=λ_ _ _ _ H Q I h=>Calls.spliced_nil ⟨[],H,I,.nil,h⟩
theorem EU (ha:PE X e te)(hr:PA X es t)(hs:gh (e::es) X.env=(false,eval e X.env)::gh es X.env:=by rfl):PA X (e::es) (qJ te t):=by intro pos pins s U H Q I h;rw[hs];refine Calls.spliced_cons (aM (ha pins s U H _ I h) λu s1 ⟨x,H1,I1,r1,q1⟩=>?_);exact aM (hr pos pins s1 U H1 _ I1 q1) λus s2 ⟨xs,H2,I2,r2,q2⟩=>⟨x::xs,H2,I2,.cons r1 r2,q2⟩
def zQ (t:TA):TE:=λU H Q=>t U H λxs H1=>xs.length<=bc/\∀p,H1 p=none->Q (.ref p) (upd H1 p (.tup xs))
def zR (t:TA):TE:=λU H Q=>t U H λxs H1=>xs.length<=bc/\∀p,H1 p=none->Q (.ref p) (upd H1 p (.lst xs))
theorem K7 {x1}(h:PA X es t):PE X (.Tuple es x1 pos) (zQ t):=by intro pins s U H Q I hq;refine wpAny_Tuple_spliced (aM (h pos pins s U H _ I hq) λus s1 ⟨xs,H1,I1,r,z,q⟩=>⟨by rw[<-r.length];exact z,?_⟩);have hf:=I1.hok.fresh (ag _);refine⟨.ref s1.heap.objs.size,upd H1 s1.heap.objs.size (.tup xs),I1.laid (λb u e=>af _ e) (ag _) ?_,rfl,q _ hf⟩;exact⟨z,us,r,⟨_,a8 _ rfl⟩⟩
theorem K8 (h:PA X es t):PE X (.List es pos) (zR t):=by intro pins s U H Q I hq;refine wpAny_List_spliced (aM (h pos pins s U H _ I hq) λus s1 ⟨xs,H1,I1,r,z,q⟩=>⟨by rw[<-r.length];exact z,?_⟩);have hf:=I1.hok.fresh (ag _);refine⟨.ref s1.heap.objs.size,upd H1 s1.heap.objs.size (.lst xs),I1.laid (λb u e=>af _ e) (ag _) ?_,rfl,q _ hf⟩;exact⟨z,us,0,r,a8 _ rfl⟩
end
abbrev Sp:=List V->Hp->VK->XK->Prop
abbrev CXT:=List Env->Hp->aw->XK->Value->aw->Prop
structure qK (P:cu)(w:World)(K:W.Frag)(mg:Str->Option Value)(base:Heap)(A:i6)(outer:List Env)(s:aw)(H:Hp):Prop where
 frames:A.frames=some outer
 mod:Mod K mg base
 bs:∀b o,base.get? b=some o->s.heap.get? b=some o/\H b=none
 nB:base.objs.size<=s.heap.objs.size
 dX:s.heap.FunFrames base outer
 uR:∀b∈frs outer,H b=none
 hok:HOk P w H s.heap
 bare:n5 s.gens
def CE (outer:List Env)(P:cu)(w:World)(H:Hp)(s:aw)(Q:VK)(u:Value)(s':aw):Prop:=∃v H',s'.os=s.os/\n5 s'.gens/\Un (frs outer) [] H H' s.heap s'.heap/\HOk P w H' s'.heap/\RelV v u/\Q v H'
def CR (CX:CXT)(outer:List Env)(P:cu)(w:World)(H:Hp)(s:aw)(Q:VK)(E:XK)(r:Result)(s':aw):Prop:=
 match r with
 |.ok (.ret u)=>CE outer P w H s Q u s'
 |.ok _=>False
 |.error e=>CX outer H s E e s'
structure FnOk (P:cu)(w:World)(K:W.Frag)(mg:Str->Option Value)(base:Heap)(CX:CXT)(k:Nat)(f:Addr)(fd:gz)(ps:List Str)(sp:Sp):Prop where
 len:∀vs H Q E,sp vs H Q E->vs.length=ps.length
 run:∀(A:i6) (outer:List Env) (s:aw) (H:Hp) (args:Args) (us:List Value) (vs:List V) (Q:VK) (E:XK),Room k A->qK P w K mg base A outer s H->tq s fd args (ps.zip us)->Vals vs us->sp vs H Q E->nk (model P w) A (.call (.ref f) args) (CR CX outer P w H s Q E) s
section
variable {X:Cx}{pins:List (Addr×Obj)}{U:St}{H:Hp}{s s':aw}
theorem Inv.EV (I:Inv X pins U H s):qK X.prog X.w X.K X.mg X.base X.A X.stack s H:=⟨I.ok.frames,I.ok.mod,I.bs,bo I.ok.nB I.sz,I.stack,I.gQ,I.hok,I.bare⟩
theorem Inv.after (I:Inv X pins U H s)(h:CE X.stack X.prog X.w H s Q u s'):EP X pins U Q u s':=by obtain⟨v,H',os,bare,un,hok,r,q⟩:=h;obtain⟨hh,g,d,t,RO⟩:=s';obtain rfl:RO=s.os:=os;exact⟨v,H',I.call un hok bare (λb z=>absurd z (by simp)),r,q⟩
end
def vC (sp:Sp)(dvs:List V)(E:XK)(t:TA):TE:=λU H Q=>t U H λvs H1=>sp (vs++dvs) H1 Q E
def Binds (K:W.Frag)(fd:gz)(ps:List Str)(ds:List Value):Prop:=∀(s:aw) (us:List Value),K.In s.heap->(us++ds).length=ps.length->tq s fd ⟨us,[]⟩ (ps.zip (us++ds))
theorem Binds.all {K:W.Frag}(h:∀us:List Value,us.length=ps.length->xm fd ⟨us,[]⟩=pure (ps.zip us)):Binds K fd ps []:=λs us _ hl=>by rw[dh]at hl ⊢;exact .of_eq (h us hl)
def z98 (CX:CXT)(X:Cx)(E:XK):Prop:=∀(pins:List (Addr×Obj)) (U:St) (H:Hp) (s:aw) (e:Value) (s':aw),Inv X pins U H s->CX X.stack H s E e s'->X.xe e s'
section
variable {X:Cx}{CX:CXT}{k:Nat}{f C:Addr}{fd:gz}{ps:List Str}{sp:Sp}{dvs:List V}{ds:List Value}{E:XK}{x m:Str}{p pos apos:Pos}{e o:Expr}{es:List Expr}{ta:TE}{t:TA}
theorem zn5 (F:FnOk X.prog X.w X.K X.mg X.base CX k f fd ps sp)(hr:Room k X.A)(hb:Binds X.K fd ps ds)(hd:Vals dvs ds)(hx:z98 CX X E)
  (I:Inv X pins U H s) (r:Vals vs us) (h:sp (vs++dvs) H Q E):wpAny (model X.prog X.w) X.A (call (.ref f) us) (EP X pins U Q) X.xe s:=by
 have r2:=r.append hd;have hl:(us++ds).length=ps.length:=by rw[<-r2.length];exact F.len _ _ _ _ h
 refine wpAny_call (n6 (F.run X.A X.stack s H ⟨us,[]⟩ (us++ds) (vs++dvs) Q E hr I.EV (hb s us I.gB hl) r2 h) λr s' hq=>?_);cases r with
 |error e=>exact hx pins U H s e s' I hq
 |ok fl=>
  cases fl with
  |ret u=>exact I.after hq
  |next=>exact False.elim hq
  |brk=>exact False.elim hq
  |cont=>exact False.elim hq
theorem zdd (F:FnOk X.prog X.w X.K X.mg X.base CX k f fd ps sp)(hr:Room k X.A)(hg:Gl X x)(hm:X.mg x=some (.ref f))(hk:W.keepIn X.K (.ref f)=true)(hb:Binds X.K fd ps ds)(hd:Vals dvs ds)(hx:z98 CX X E)
  (ha:PA X (e::es) t) (hdb:aac x:=by decide) (he:gh (e::es) X.env=(false,eval e X.env)::gh es X.env:=by rfl) (tG:(ol pos (gh es X.env)).any (·.1)=false:=by rfl):
  PE X (.Call (.Name x p) (e::es) [] pos) (vC sp dvs E t):=by
 intro pins s U H Q I h;refine lr (z7v I hg hm ?_ hdb);refine W.callWith_K I.ok.mod.EA hk (aM (ha pos pins s U H _ I h) λus s1 ⟨vs,H1,I1,r,q⟩=>⟨I1.gB,?_⟩) he tG;exact zn5 F hr hb hd hx I1 r q
structure Mk (K:W.Frag)(C f:Addr):Prop where
 makes:W.makesIn K C=true
 init:W.findIn K (.ref C) "__init__"=some (some (.ref f))
 fn:W.isFn K (.ref f)=true
 kp:W.keepIn K (.ref C)=true
end
section
variable {X:Cx}{CX:CXT}{k:Nat}{f C:Addr}{fd:gz}{ps ks:List Str}{sp:Sp}{E:XK}{x m:Str}{p pos apos RP:Pos}{e o:Expr}{es:List Expr}{kws:List vo}{te ta:TE}{t tk:TA}{nm:Option Str}
structure vD (K:W.Frag)(fd:gz)(ps ks:List Str)(g:List Value->List Value->List Value)(gV:List V->List V->List V):Prop where
 to:∀(s:aw) (us ws:List Value),K.In s.heap->(g us ws).length=ps.length->tq s fd ⟨us,ks.zip ws⟩ (ps.zip (g us ws))
 rel:∀{vs:List V} {us:List Value} {zs:List V} {ws:List Value},Vals vs us->Vals zs ws->Vals (gV vs zs) (g us ws)
variable {g:List Value->List Value->List Value}{gV:List V->List V->List V}
end
structure FnScope (N P:List Str)(sc:Scope):Prop where
 kind:sc.kind=.function
 co:sc.isCoroutine=false
 gen:sc.isGenerator=false
 nd:N.Nodup
 pre:N.take P.length=P
 par:∀x∈P,sc.names.lookup x=some .local\/sc.names.lookup x=some .cell
 vE:∀y∈sc.names,y.2≠.free
theorem K9 {my:Str->Option i7}:∀{binds:List (Str×Value)} {m:Str->Option Value},(∀v,(x,v)∉binds)->bindL my binds m x=m x
 | [],_,_=>rfl
 |(n,v)::r,m,h=>by
  unfold bindL;rw[K9 λw hw=>h w (br _ hw)];split
  ·have :x≠n:=by rintro rfl;exact h v bh
   simp[this]
  ·rfl
theorem K' {my:Str->Option i7}:∀{binds:List (Str×Value)} {m:Str->Option Value},(∀v,(x,v)∉binds)->bindC my binds m x=m x
 | [],_,_=>rfl
 |(n,v)::r,m,h=>by
  unfold bindC;rw[K' λw hw=>h w (br _ hw)];split
  ·rfl
  ·have :x≠n:=by rintro rfl;exact h v bh
   simp[this]
theorem z70 {my:Str->Option i7}:∀{P:List Str} {vs:List Value} {i:Nat} {m:Str->Option Value},P.Nodup->P[i]?=some x->vs[i]?=some v->my x=some .local->
  bindL my (P.zip vs) m x=some v
 | [],_,_,_,_,h,_,_=>by simp at h
 |_::_,[],_,_,_,_,h,_=>by simp at h
 |p::P,w::vs,0,m,nd,h1,h2,hk=>by simp at h1 h2;subst h1;subst h2;show bindL my ((p,w)::P.zip vs) m p=_;unfold bindL;rw[K9 λv hv=>(cr.mp nd).1 (qx hv).1,xu hk];simp
 |p::P,w::vs,i+1,m,nd,h1,h2,hk=>by show bindL my ((p,w)::P.zip vs) m x=_;exact z70 (cr.mp nd).2 (by simpa using h1) (by simpa using h2) hk
theorem z6j {my:Str->Option i7}:∀{P:List Str} {vs:List Value} {i:Nat} {m:Str->Option Value},P.Nodup->P[i]?=some x->vs[i]?=some v->my x≠some .local->
  bindC my (P.zip vs) m x=some v
 | [],_,_,_,_,h,_,_=>by simp at h
 |_::_,[],_,_,_,_,h,_=>by simp at h
 |p::P,w::vs,0,m,nd,h1,h2,hk=>by simp at h1 h2;subst h1;subst h2;show bindC my ((p,w)::P.zip vs) m p=_;unfold bindC;rw[K' λv hv=>(cr.mp nd).1 (qx hv).1,xw hk];simp
 |p::P,w::vs,i+1,m,nd,h1,h2,hk=>by show bindC my ((p,w)::P.zip vs) m x=_;exact z6j (cr.mp nd).2 (by simpa using h1) (by simpa using h2) hk
def start (N:List Str)(vs:List V):St:=vs.map some++bv (N.length-vs.length) none
def gW (CX:CXT)(P:cu)(w:World)(K:W.Frag)(mg:Str->Option Value)(base:Heap)(N:List Str)(qual:Str)(scope:Scope)(f:Addr)(cd:Value)(A:i6)(outer:List Env)(s:aw)(H:Hp)(E:XK):Cx where
 prog:=P
 w:=w
 K:=K
 mg:=mg
 base:=base
 A:=A.deeper (si qual scope s.heap.objs.size f cd)
 N:=N
 s₀:=s
 iO:=H
 env:=si qual scope s.heap.objs.size f cd
 outer:=outer
 stack:=si qual scope s.heap.objs.size f cd::outer
 ex:=[]
 calm:=true
 fn:=λ_=>true
 pn:=[]
 xe:=λe s'=>wpAny (model P w) (A.deeper (si qual scope s.heap.objs.size f cd)) (xg (si qual scope s.heap.objs.size f cd) e) (λ_ pQ=>CX outer H s E e pQ) (λe' pQ=>CX outer H s E e' pQ) s'
theorem La {sc:Scope}(h:sc.names.lookup x=some .cell):∃c,(cellsFrom n sc.names []).lookup x=some c:=by have q:=W.cellsFrom_some sc.names n [] (.inl h);exact Option.isSome_iff_exists.mp q
theorem zdl {K:W.Frag}
  (S:FnScope N ps scope) (hd:A.handled=none) (e0:qK P w K mg base A outer s H) (hl:vs.length=ps.length) (r:Vals vs us)
  (x:InCallC s s.heap.objs.size (bindL (si qual scope s.heap.objs.size f cd).kindOf (ps.zip us) λ_=>none) (cellsFrom (s.heap.objs.size+1) scope.names []) (bindC (si qual scope s.heap.objs.size f cd).kindOf (ps.zip us) λ_=>none) s1):
  Inv (gW CX P w K mg base N qual scope f cd A outer s H E) [] (start N vs) H s1:=by
 have tG:=by have:=congrArg List.length S.pre;rw[gf]at this;omega
 obtain⟨h1,tk,rfl,hk⟩:=x.done;have zS:∀b:Addr,b∉(gW CX P w K mg base N qual scope f cd A outer s H E).ex:=λb z=>absurd (show b∈([]:List Addr)from z) (by simp);refine⟨⟨e0.mod,S.kind,rfl,rfl,ag _,λy z c h1 h2=>?_,λy hy=>?_,λy c _ h=>?_,λ_=>hd,Around.frames_deeper e0.frames,.inr ⟨rfl,rfl⟩,λb z=>absurd z (zS b),e0.bs,e0.nB,λb _ _=>zS b,λb z=>absurd z (zS b),e0.dX,e0.uR,λ_ _ z=>by cases z⟩,rfl,e0.bare,Un.kept hk,⟨_,x.toInCall.ns,λi y v h1 h2 h3=>?_⟩,λy c h=>⟨_,x.cell y c h⟩,e0.hok.fresh (ag _),λy c h=>?_,λp hp=>absurd (show p∈([]:List (Addr×Obj))from hp) (by simp),e0.hok.kept hk,?_,λ_ _ z=>by cases z⟩
 ·exact name_of_addr x.apart (PySem.mem_of_lookup h1) (PySem.mem_of_lookup h2)
 ·have hy:scope.names.lookup y=some .cell\/scope.names.lookup y=some .free:=hy;rcases hy with hy|hy
  ·exact La hy
  ·exact absurd rfl (S.vE _ (PySem.mem_of_lookup hy))
 ·exact j9 (x.above y c (PySem.mem_of_lookup h))
 ·have hi:i<vs.length:=by
   unfold start at h2;by_cases hi:i<vs.length
   ·exact hi
   ·rw[j7 (by simpa using hi)]at h2;rw[eh]at h2;split at h2<;>cases h2
  have ha:vs[i]?=some v:=by
   unfold start at h2;rw[jd (by simpa using hi),az]at h2;cases e:vs[i]? with
   |none=>rw[e]at h2;cases h2
   |some a=>rw[e]at h2;cases h2;rfl
  obtain⟨u,hu,rv⟩:=r.get ha;have hp:ps[i]?=some y:=by rw[<-S.pre,List.getElem?_take_of_lt (by omega)];exact h1
  have Lb:ps.Nodup:=by rw[<-S.pre];exact S.nd.sublist (vp _ _)
  refine⟨u,rv,?_⟩;rcases S.par y (b0 hp)with k|k
  ·exact .inl ⟨k,z70 Lb hp hu k⟩
  ·obtain⟨c,e⟩:=La k;refine .inr ⟨.inl k,c,e,?_⟩;have q:=x.cell y c e;rw[z6j Lb hp hu (by show scope.names.lookup y≠_;rw[k];decide)]at q;exact q
 ·exact e0.hok.fresh (j9 (x.above y c (PySem.mem_of_lookup h)))
 ·unfold start;show _=N.length;rw[bu,ae,cf];omega
theorem zls {K:W.Frag}{kV:Value}
  (lk:K.lookup f=some ⟨oc,od,.func (W.fnOf name qual params body scope dV kV doc pm an cdv ct),osl⟩) (hcd:W.codeIn K cdv qual=true) (S:FnScope N ps scope)
  (len:∀vs H Q E,sp vs H Q E->vs.length=ps.length)
  (oB:∀(A:i6) (outer:List Env) (s:aw) (H:Hp) (vs:List V) (Q:VK) (E:XK),Room k (A.deeper (si qual scope s.heap.objs.size f cdv))->sp vs H Q E->∃t,PSs (gW CX P w K mg base N qual scope f cdv A outer s H E) body t/\t {nx:=λ_ H'=>Q .bD H',rt:=Q} (start N vs) H):
  FnOk P w K mg base CX (k+1) f (W.fnOf name qual params body scope dV kV doc pm an cdv ct) ps sp:=by
 refine⟨len,λA outer s H args us vs Q E hr e0 hb r kR=>?_⟩;have hl:=len _ _ _ _ kR;have KX:=e0.mod.EA.keeps λb o e=>(e0.bs b o e).1;have lim:=e0.mod.nolimit.keeps λb o e=>(e0.bs b o e).1
 have zT:∀y∈ps.zip us,scope.names.lookup y.1=some .local\/(scope.names.lookup y.1=some .cell/\((cellsFrom (s.heap.objs.size+1) scope.names []).lookup y.1).isSome=true):=λ⟨n,v⟩ hy=>by
  rcases S.par n (qx hy).1 with q|q
  ·exact .inl q
  ·exact .inr ⟨q,W.cellsFrom_some _ _ _ (.inl q)⟩
 refine codeAny_call_function hr.depth (KX _ _ lk) rfl S.co S.gen rfl (W.codeRec_of KX hcd) (hb _ _ _ _ ?_);refine wpAny_newFunctionEnv_cells S.kind zT λenv he s1 x=>?_;subst he;refine⟨lim.keeps x.toInCall.keep,codeAny_func ?_⟩;obtain⟨t,ht,hq⟩:=oB A outer s H vs Q E (hr.deeper _) kR;have I:Inv (gW CX P w K mg base N qual scope f cdv A outer s H E) [] (start N vs) H s1:=zdl S hr.hd e0 hl r x;refine mw (ht [] s1 (start N vs) H _ I hq) (λfl s' hs=>?_) λe s' hs=>hs;have fin:∀{σ':St} {H':Hp} {v:V} {u:Value},Inv (gW CX P w K mg base N qual scope f cdv A outer s H E) [] σ' H' s'->RelV v u->Q v H'->CE outer P w H s Q u s':=λ{σ' H' v u} J rv q=>⟨v,H',J.os,J.bare,J.base,J.hok,rv,q⟩;cases fl with
 |ret u=>obtain⟨v,σ',H',J,rv,q⟩:=hs;exact fin J rv q
 |next=>obtain⟨σ',H',J,q⟩:=hs;exact fin (v:=V.bD) J rfl q
 |brk=>obtain⟨_,_,_,q⟩:=hs;exact False.elim q
 |cont=>obtain⟨_,_,_,q⟩:=hs;exact False.elim q
section
variable {X:Cx}{x:Str}{p pos:Pos}{e:Expr}{es:List Expr}{t:TA}{id T:String}{r:List V->Hp->VK->Prop}
def oD (r:List V->Hp->VK->Prop)(t:TA):TE:=λU H Q=>t U H λvs H1=>r vs H1 Q
theorem zh6 (hc:CallR X (.builtin id) r)(hg:Gl X x)(hm:X.mg x=none)(hv:df x=some (.builtin id))(ha:PA X (e::es) t)(hn:x≠"__name__":=by decide)(hdb:aac x:=by decide)
  (he:gh (e::es) X.env=(false,eval e X.env)::gh es X.env:=by rfl) (tG:(ol pos (gh es X.env)).any (·.1)=false:=by rfl):PE X (.Call (.Name x p) (e::es) [] pos) (oD r t):=by
 intro pins s U H Q I h;refine lr (z2e I hg hm hv ?_ hn hdb);exact PyProof.Rows.callWith_builtin1 (aM (ha pos pins s U H _ I h) λus s1 ⟨vs,H1,I1,r1,q1⟩=>hc pins s1 U H1 vs us Q I1 r1 q1) he tG
theorem zdn (hc:CallR X (.type T) r)(hg:Gl X x)(hm:X.mg x=none)(hv:df x=some (.type T))(ha:PA X (e::es) t)(hn:x≠"__name__":=by decide)(hdb:aac x:=by decide)
  (he:gh (e::es) X.env=(false,eval e X.env)::gh es X.env:=by rfl) (tG:(ol pos (gh es X.env)).any (·.1)=false:=by rfl):PE X (.Call (.Name x p) (e::es) [] pos) (oD r t):=by
 intro pins s U H Q I h;refine lr (z2e I hg hm hv ?_ hn hdb);exact PyProof.Rows.callWith_type1 (aM (ha pos pins s U H _ I h) λus s1 ⟨vs,H1,I1,r1,q1⟩=>hc pins s1 U H1 vs us Q I1 r1 q1) he tG
end
section
variable {κ:Type} [DecidableEq κ]
def cS (kvs:List (κ×V))(k:κ):Option V:=(kvs.find? λkv=>decide (kv.1=k)).map (·.2)
def putK (kvs:List (κ×V))(k:κ)(v:V):List (κ×V):=if(kvs.any λkv=>decide (kv.1=k))=true then kvs.map (λkv=>if kv.1=k then(kv.1,v)else kv)else kvs++[(k,v)]
theorem CK {p:κ×V}(e:p.1=k):cS (p::r) k=some p.2:=by simp[cS,jv,e]
theorem CL {p:κ×V}(e:¬p.1=k):cS (p::r) k=cS r k:=by simp[cS,jv,e]
theorem Lc (k:κ):∀kvs:List (κ×V),(kvs.any λkv=>decide (kv.1=k))=(cS kvs k).isSome
 | []=>rfl
 |p::r=>by
  rw[jy];by_cases e:p.1=k
  ·simp only[CK e,x6 e,vq,Option.isSome_some]
  ·rw[CL e,x8 e,Bool.false_or];exact Lc k r
theorem CM (kvs:List (κ×V))(k:κ)(v:V):(putK kvs k v).length<=kvs.length+1:=by
 unfold putK;split
 ·rw[ae];omega
 ·rw[bu,bt,List.length_nil];omega
theorem eC.bZ (r:eC o u):o.isSome=u.isSome:=by
 cases o with
 |none=>cases u with
  |none=>rfl
  |some _=>exact r.elim
 |some _=>cases u with
  |none=>exact r.elim
  |some _=>rfl
theorem eC.getD (r:eC o u)(rd:RelV d d'):RelV (o.getD d) (u.getD d'):=by
 cases o with
 |none=>cases u with
  |none=>exact rd
  |some _=>exact r.elim
 |some _=>cases u with
  |none=>exact r.elim
  |some _=>exact r
theorem KV.val (r:KV kvs vs)(k:κ):eC (cS kvs k) (vw vs k):=by
 induction r with
 |nil=>exact True.intro
 | @cons p q ps qs h t ih=>
  obtain⟨h1,h2⟩:=h;by_cases e:p.1=k
  ·have e':q.1=k:=h1.symm.trans e;have b:vw (q::qs) k=some q.2:=by simp[vw,jv,e']
   rw[CK e,b];exact h2
  ·have e':¬q.1=k:=λz=>e (h1.trans z);have b:vw (q::qs) k=vw qs k:=by simp[vw,jv,e']
   rw[CL e,b];exact ih
theorem KV.any (r:KV kvs vs)(k:κ):(kvs.any λkv=>decide (kv.1=k))=vs.any λkv=>decide (kv.1=k):=by
 induction r with
 |nil=>rfl
 |cons h t ih=>rw[jy,jy,ih,h.1]
theorem KV.repl (r:KV kvs vs)(k:κ)(ry:RelV y u):
  KV (kvs.map λkv=>if kv.1=k then(kv.1,y)else kv) (vs.map λkv=>if kv.1=k then(kv.1,u)else kv):=by
 induction r with
 |nil=>exact .nil
 | @cons p q ps qs h t ih=>
  rw[bg,bg];refine .cons ?_ ih;obtain⟨h1,h2⟩:=h;by_cases e:p.1=k
  ·rw[xu e,xu (h1.symm.trans e)];exact⟨h1,ry⟩
  ·rw[xw e,xw (λz=>e (h1.trans z))];exact⟨h1,h2⟩
theorem KV.put (r:KV kvs vs)(k:κ)(ry:RelV y u):KV (putK kvs k y) (stored vs k u):=by
 unfold putK stored;rw[r.any k];by_cases e:(vs.any λkv=>decide (kv.1=k))=true
 ·rw[xu e,xu e];exact r.repl k ry
 ·rw[xw e,xw e];exact Paired.snoc r ⟨rfl,ry⟩
theorem KV.length (r:KV kvs vs):kvs.length=vs.length:=Paired.length r
end
theorem tH (r:RelV (kV k) u):(gA P w).is k u=true:=by
 cases k with
 |inl i=>obtain⟨t,e⟩:=r;subst e;exact QS P w i t
 |inr x=>obtain⟨t,e⟩:=r;subst e;exact QT P w x t
theorem Ld:∀{ks:List Key} {us:List Value},Vals (ks.map kV) us->ItemsAre (gA P w) ks us
 | [],_,r=>by rw[qm]at r;cases r;exact .nil
 |k::ks,_,r=>by
  cases r with
  |cons h t=>exact .cons (tH h) (Ld t)
abbrev KT (H:Hp):List (List Key×V)->List (List Key×Addr×Value)->Prop:=kz λp q=>p.1=q.1/\H q.2.1=some (.tup (p.1.map kV))/\RelV p.2 q.2.2
theorem KT.val (r:KT H kvs xs)(k:List Key):eC (cS kvs k) ((atKey xs k).map (·.2)):=by
 induction r with
 |nil=>exact True.intro
 | @cons p q ps qs h t ih=>
  obtain⟨h1,_,h2⟩:=h;by_cases e:p.1=k
  ·have e':q.1=k:=h1.symm.trans e;have b:atKey (q::qs) k=some q.2:=by simp[atKey,jv,e']
   rw[CK e,b];exact h2
  ·have e':¬q.1=k:=λz=>e (h1.trans z);have b:atKey (q::qs) k=atKey qs k:=by simp[atKey,jv,e']
   rw[CL e,b];exact ih
theorem KT.repl (r:KT H kvs xs)(k:List Key)(ry:RelV y u):
  KT H (kvs.map λkv=>if kv.1=k then(kv.1,y)else kv) (xs.map (putAt k u)):=by
 induction r with
 |nil=>exact .nil
 | @cons p q ps qs h t ih=>
  rw[bg,bg];refine .cons ?_ ih;obtain⟨h1,h2,h3⟩:=h;unfold putAt;by_cases e:p.1=k
  ·rw[xu e,xu (h1.symm.trans e)];exact⟨h1,h2,ry⟩
  ·rw[xw e,xw (λz=>e (h1.trans z))];exact⟨h1,h2,h3⟩
theorem KT.put (r:KT H kvs xs)(k:List Key)(hb:H b=some (.tup (k.map kV)))(ry:RelV y u):
  KT H (putK kvs k y) (storedH xs k b u):=by
 have e:(kvs.any λkv=>decide (kv.1=k))=(atKey xs k).isSome:=by rw[Lc,(r.val k).bZ,pd]
 unfold putK storedH;rw[e];by_cases q:(atKey xs k).isSome=true
 ·rw[xu q,xu q];exact r.repl k ry
 ·rw[xw q,xw q];exact Paired.snoc r ⟨rfl,hb,ry⟩
theorem KT.keeps (r:KT H kvs xs)(ht:∀b ys,H b=some (.tup ys)->H' b=some (.tup ys)):KT H' kvs xs:=Paired.uO r λ_ _ z=>⟨z.1,ht _ _ z.2.1,z.2.2⟩
section
variable {P:cu}{w:World}{H:Hp}{h:Heap}{a:Addr}
theorem Lg (ok:HOk P w H h)(e:Rd H a u):z15 P w H h a u:=e.ok ok
theorem vF (ok:HOk P w H h)(e:Rd H a (.dK kvs)):kvs.length<=bc/\(a==j5)=false/\∃vs,KV kvs vs/\h.DictOf (gA P w) a vs:=show z15 P w H h a (.dK kvs)from Lg ok e
theorem zU (ok:HOk P w H h)(e:H a=some (.dK kvs)):kvs.length<=bc/\(a==j5)=false/\∃vs,KV kvs vs/\h.DictOf (gA P w) a vs:=vF ok (.inl e)
theorem yk (ok:HOk P w H h)(e:H a=some (.tup (ks.map kV))):(qd (gA P w)).is h ks a:=by obtain⟨_,its,r,n,h1⟩:=(ok a _ e);exact⟨_,its.toArray,n,h1,rfl,rfl,by simpa using Ld r⟩
theorem zab (ok:HOk P w H h)(e:Rd H a (.dT kvs)):kvs.length<=bc/\(a==j5)=false/\
  ∃xs,KT H kvs xs/\h.DictOfH (qd (gA P w)) a xs:=by
 obtain⟨z,y,xs,r,o,es,ep,h1,h2,h3,h4,h5⟩:=(Lg ok e);refine⟨z,y,xs,r,o,es,ep,h1,h2,h3,h4,λx hx=>?_,h5⟩
 have all:∀{l:List (List Key×V)} {m:List (List Key×Addr×Value)},KT H l m->∀x∈m,(qd (gA P w)).is h x.1 x.2.1:=by
  intro l m q
  induction q with
  |nil=>intro x hx;exact nomatch hx
  | @cons p q ps qs hq t ih=>
   intro x hx;rcases ao.mp hx with e|hx
   ·subst e;exact yk ok (by rw[<-hq.1];exact hq.2.1)
   ·exact ih x hx
 exact all r x hx
theorem RQ (ok:HOk P w H h)(e:H a=some (.dT kvs)):kvs.length<=bc/\(a==j5)=false/\∃xs,KT H kvs xs/\h.DictOfH (qd (gA P w)) a xs:=zab ok (.inl e)
end
def DGet (H:Hp)(a:Addr)(y:V)(r:Option V):Prop:=(∃kvs k,Rd H a (.dK kvs)/\y=kV k/\r=cS kvs k)\/∃kvs k b,Rd H a (.dT kvs)/\y=.ref b/\H b=some (.tup (k.map kV))/\r=cS kvs k
def DPut (H:Hp)(a:Addr)(y v:V)(H':Hp):Prop:=
 (∃kvs k,H a=some (.dK kvs)/\y=kV k/\kvs.length<bc/\H'=upd H a (.dK (putK kvs k v)))\/
 ∃kvs k b,H a=some (.dT kvs)/\y=.ref b/\H b=some (.tup (k.map kV))/\kvs.length<bc/\H'=upd H a (.dT (putK kvs k v))
theorem DGet.k {k:Key}(e:H a=some (.dK kvs)):DGet H a (kV k) (cS kvs k):=.inl ⟨kvs,k,.inl e,rfl,rfl⟩
theorem DPut.k {k:Key}(e:H a=some (.dK kvs))(hl:kvs.length<bc):DPut H a (kV k) v (upd H a (.dK (putK kvs k v))):=.inl ⟨kvs,k,e,rfl,hl,rfl⟩
section
variable {X:Cx}{pins:List (Addr×Obj)}{U:St}{H:Hp}{s:aw}{a:Addr}{y v:V}{u r:Value}{o:Option V}{A:i6}{E:Value->aw->Prop}
theorem Inv.big (I:Inv X pins U H s):j5<s.heap.objs.size:=by have h:=(I.mod.glob.keeps I.bk).lt;exact n8 (by decide) h
theorem zb8 (hu:A.units+1<cLine)(I:Inv X pins U H s)(g:DGet H a y (some v))(ry:RelV y u)(h:∀w' s',Inv X pins U H s'->RelV v w'->Q w' s'):
  wpAny (model X.prog X.w) A (vx (.ref a) u) Q E s:=by
 rcases g with⟨kvs,k,e,ey,l⟩|⟨kvs,k,b,e,ey,eb,l⟩
 ·subst ey;obtain⟨z,hd,vs,rel,dd⟩:=vF I.hok e;obtain⟨w',hw,bE⟩:=eC.some_of (by rw[l];exact rel.val k);exact wpAny_getItem_of (tH ry) dd.mapOf hw (h w' _ (I.tok _) bE)
 ·subst ey;cases ry;obtain⟨z,hd,xs,rel,dd⟩:=zab I.hok e;obtain⟨w',hw,bE⟩:=eC.some_of (by rw[l];exact rel.val k);obtain⟨p,hp,qL⟩:=ci.mp hw;refine wpAny_getItem_heap (jt hu) (yk I.hok eb) dd hp ?_;rw[qL];exact h w' _ (I.tok _) bE
theorem d_in (hu:A.units+1<cLine)(I:Inv X pins U H s)(g:DGet H a y o)(ry:RelV y u)(h:∀s',Inv X pins U H s'->Q (.bool o.isSome) s'):
  wpAny (model X.prog X.w) A (dz .In u (.ref a)) Q E s:=by
 rcases g with⟨kvs,k,e,ey,l⟩|⟨kvs,k,b,e,ey,eb,l⟩
 ·subst ey;obtain⟨z,hd,vs,rel,dd⟩:=vF I.hok e;refine wpAny_in_of (tH ry) hd dd.mapOf ?_;rw[<-(rel.val k).bZ,<-l];exact h _ (I.tok _)
 ·subst ey;cases ry;obtain⟨z,hd,xs,rel,dd⟩:=zab I.hok e;refine wpAny_in_heap (jt hu) (yk I.hok eb) hd dd ?_;have q:=(rel.val k).bZ;rw[pd]at q;rw[<-q,<-l];exact h _ (I.tok _)
theorem zmb (hu:A.units+1<cLine)(I:Inv X pins U H s)(g:DGet H a y o)(ry:RelV y u)(h:∀s',Inv X pins U H s'->Q (.bool (!o.isSome)) s'):
  wpAny (model X.prog X.w) A (dz .NotIn u (.ref a)) Q E s:=by
 rcases g with⟨kvs,k,e,ey,l⟩|⟨kvs,k,b,e,ey,eb,l⟩
 ·subst ey;obtain⟨z,hd,vs,rel,dd⟩:=vF I.hok e;refine wpAny_notIn_of (tH ry) hd dd.mapOf ?_;rw[<-(rel.val k).bZ,<-l];exact h _ (I.tok _)
 ·subst ey;cases ry;obtain⟨z,hd,xs,rel,dd⟩:=zab I.hok e;refine wpAny_notIn_heap (jt hu) (yk I.hok eb) hd dd ?_;have q:=(rel.val k).bZ;rw[pd]at q;rw[<-q,<-l];exact h _ (I.tok _)
theorem z66 (I:Inv X pins U H s)(mu:Mut (H a))(hs:cy a s.heap h')(he:∃q,h'.get? a=some q)(new:z15 X.prog X.w (upd H a ob) h' a ob):
  Inv X pins U (upd H a ob) {s with heap:=h',toks:=t'}:=
 I.write mu (.inl rfl) (λb q hb z=>(hs.2 b hb).trans z) he new
theorem EW (z:kvs.length<=bc)(hd:(a==j5)=false)(rel:KV kvs vs)(dd:h'.DictOf (gA P w) a vs): z15 P w H' h' a (.dK kvs):=⟨z,hd,vs,rel,dd⟩
theorem zc5 (hu:A.units+1<cLine)(I:Inv X pins U H s)(g:DPut H a y v H')(ry:RelV y u)(rv:RelV v r)(h:∀s',Inv X pins U H' s'->Q () s'):
  wpAny (model X.prog X.w) A (setItem (.ref a) u r) Q E s:=by
 rcases g with⟨kvs,k,e,ey,l,eH⟩|⟨kvs,k,b,e,ey,eb,l,eH⟩
 ·subst ey eH;obtain⟨z,hd,vs,rel,dd⟩:=zU I.hok e;have hz:vs.length<=bc:=by rw[<-rel.length];exact z
  have hl:(putK kvs k v).length<=bc:=by have:=CM kvs k v;omega
  refine wpAny_setItem_pairs (hsz:=hz) (tH ry) dd λh' kS hs=>h _ ?_;have he:∃q,h'.get? a=some q:=let⟨q,_,_,hq,_⟩:=kS;⟨q,hq⟩;exact z66 I (by rw[e];exact True.intro) hs he (EW hl hd (rel.put k rv) kS)
 ·subst ey eH;cases ry;obtain⟨z,hd,xs,rel,dd⟩:=RQ I.hok e;have hz:xs.length<=bc:=by rw[<-Paired.length rel];exact z
  have hl:(putK kvs k v).length<=bc:=by have:=CM kvs k v;omega
  refine wpAny_setItem_heap (jt hu) (yk I.hok eb) dd λh' kS hs=>h _ ?_;obtain⟨q,es,ep,hq,h2,h3,h4,_,h5⟩:=kS;refine z66 I (by rw[e];exact True.intro) hs ⟨q,hq⟩ ⟨hl,hd,_,(rel.put k eb rv).keeps λc ys ec=>?_,q,es,ep,hq,h2,h3,h4,h5⟩;rw[aC (QU ec e (λz=>nomatch z))];exact ec
end
section
variable {X:Cx}{pins:List (Addr×Obj)}{U:St}{H:Hp}{s:aw}{a:Addr}{kvs:List (Key×V)}{k:Key}{u:Value}{A:i6}{E:Value->aw->Prop}
theorem RS (I:Inv X pins U H s)(e:Rd H a (.dK kvs))(h:∀t s',Inv X pins U H s'->Q (.int kvs.length t) s'):wpAny (model X.prog X.w) A (call (.builtin "len") [.ref a]) Q E s:=by obtain⟨z,hd,vs,rel,dd⟩:=vF I.hok e;refine call_len_dict hd dd (by rw[<-rel.length];rw[cz]at z;omega) ?_;rw[<-rel.length];exact h _ _ (I.tok _)
end
theorem RT (I:Inv X pins U H s)(g:DGet H a y o):s.TypeIs (.ref a) "dict":=by
 rcases g with⟨kvs,k,e,_,_⟩|⟨kvs,k,b,e,_,_,_⟩
 ·obtain⟨_,_,vs,_,dd⟩:=vF I.hok e;exact dd.typeIs
 ·obtain⟨_,_,xs,_,dd⟩:=zab I.hok e;exact dd.typeIs
theorem EX (h:Heap)(hb:j5<h.objs.size):z15 P w H (h.push {cls:=.type "dict",data:=.dict #[]}) h.objs.size (.dK []):=⟨bw _,beq_eq_false_iff_ne.mpr (Ne.symm (cw hb)),[],.nil,Heap.DictOf.new h⟩
def RU:TE:=λ_ H Q=>∀p,H p=none->Q (.ref p) (upd H p (.dK []))
section
variable {X:Cx}{pos:Pos}
theorem RV:PE X (.Dict [] [] pos) RU:=λpins s U H Q I h=>wpAny_Dict_empty ⟨.ref s.heap.objs.size,_,I.laid (λ_ _ q=>af _ q) (ag _) (EX s.heap I.big),rfl,h _ (I.hok.fresh (ag _))⟩
end
def EY:List (TE×TE)->St->Hp->(List (V×V)->Hp->Prop)->Prop
 | [],_,H,Q=>Q [] H
 |(tk,tv)::r,U,H,Q=>tk U H λx H1=>tv U H1 λy H2=>EY r U H2 λps H3=>Q ((x,y)::ps) H3
abbrev VV:List (V×V)->List (Value×Value)->Prop:=kz λp q=>RelV p.1 q.1/\RelV p.2 q.2
def PPs (X:Cx)(pos:Pos)(keys:List (Option Expr))(values:List Expr)(trs:List (TE×TE)):Prop:=∀(pins:List (Addr×Obj)) (s:aw) (U:St) (H:Hp) (Q:List (V×V)->Hp->Prop),Inv X pins U H s->EY trs U H Q->wpAny (model X.prog X.w) X.A (evalPairs (pairTrees keys values X.env pos)) (λvs s'=>∃ps H',Inv X pins U H' s'/\VV ps vs/\Q ps H') X.xe s
theorem RW:PPs X pos [] [] []:=λpins s U H Q I h=>pairTrees_nil_walk ⟨[],H,I,.nil,h⟩
theorem z8y (hk:PE X k tk)(hv:PE X v tv)(hr:PPs X pos ks vs trs):
  PPs X pos (some k::ks) (v::vs) ((tk,tv)::trs):=λpins s U H Q I h=>
 pairTrees_cons_walk (aM (hk pins s U H _ I h) λu s1 ⟨x,H1,I1,rx,q1⟩=>aM (hv pins s1 U H1 _ I1 q1) λw2 s2 ⟨y,H2,I2,ry,q2⟩=>aM (hr pins s2 U H2 _ I2 q2) λws s3 ⟨ps,H3,I3,rel,q3⟩=>⟨(x,y)::ps,H3,I3,.cons ⟨rx,ry⟩ rel,q3⟩)
def yl (kvs more:List (Key×V)):List (Key×V):=more.foldl (λacc kv=>putK acc kv.1 kv.2) kvs
theorem KV.merge:∀{more:List (Key×V)} {rs:List (Key×Value)} {kvs:List (Key×V)} {vs:List (Key×Value)},KV more rs->KV kvs vs->KV (yl kvs more) (merged vs rs):=by
 intro more rs kvs vs r
 induction r generalizing kvs vs with
 |nil=>intro q;exact q
 | @cons p q ps qs h t ih=>
  intro r0;have e:KV (putK kvs p.1 p.2) (stored vs q.1 q.2):=by have:=r0.put p.1 h.2;rw[<-h.1];exact this
  exact ih e
theorem Lh:∀(more kvs:List (Key×V)),(yl kvs more).length<=kvs.length+more.length
 | [],kvs=>by show kvs.length<=kvs.length+0;omega
 |p::r,kvs=>by have h1:=Lh r (putK kvs p.1 p.2);have h2:=CM kvs p.1 p.2;show(yl (putK kvs p.1 p.2) r).length<=_;rw[bt];omega
theorem Li:∀{kvs:List (Key×V)} {ws:List (Value×Value)},VV (kvs.map λkv=>(kV kv.1,kv.2)) ws->∃rs,Carries (gA P w) ws rs/\KV kvs rs
 | [],_,r=>by rw[qm]at r;cases r;exact⟨[],True.intro,.nil⟩
 |p::kvs,_,r=>by
  cases r with
  | @cons a b as bs h t=>obtain⟨rs,c,q⟩:=Li t;obtain⟨b1,b2⟩:=b;exact⟨(p.1,b2)::rs,⟨tH h.1,rfl,c⟩,.cons ⟨rfl,h.2⟩ q⟩
def Lj (trs:List (TE×TE)):TE:=λU H Q=>∀p,H p=none->EY trs U (upd H p (.dK [])) λps H2=>H2 p=some (.dK [])/\∃kvs:List (Key×V),ps=kvs.map (λkv=>(kV kv.1,kv.2))/\kvs.length<=15/\Q (.ref p) (upd H2 p (.dK (yl [] kvs)))
theorem zk7 (h:PPs X pos keys values trs)(hall:keys.all (·.isSome)=true)(hl:keys.length=values.length)(h0:keys≠[])
  (RX:keys.length<=15):PE X (.Dict keys values pos) (Lj trs):=by
 intro pins s U H Q I q;have hn:=I.hok.fresh (ag s.heap.objs.size);have I1:=I.laid (t':=s.toks) (λ_ _ q=>af _ q) (ag _) (EX s.heap I.big);refine wpAny_Dict_walk (knd:=gA X.prog X.w) hall hl h0 RX (aM (h pins _ U _ _ I1 (q _ hn)) λws s2 ⟨ps,H2,I2,rel,e,kvs,ep,lk,q2⟩=>?_);subst ep;obtain⟨rs,c,rk⟩:=Li rel;obtain⟨z,hd,vs0,r0,dd⟩:=zU I2.hok e;cases r0;refine⟨rs,c,dd,λh' kS hs=>⟨.ref s.heap.objs.size,_,?_,rfl,q2⟩⟩;have hz:(yl [] kvs).length<=bc:=by have h1:=Lh kvs [];rw[List.length_nil]at h1;rw[cz];omega
 have he:∃q,h'.get? s.heap.objs.size=some q:=let⟨q,_,_,hq,_⟩:=kS;⟨q,hq⟩;exact z66 I2 (by rw[e];exact True.intro) hs he (EW hz hd (rk.merge .nil) kS)
section
variable {X:Cx}{pins:List (Addr×Obj)}{U:St}{H:Hp}{s:aw}{a:Addr}{y d:V}{u r:Value}{o:Option V}{A:i6}{E:Value->aw->Prop}
theorem zoj (hu:A.units+1<cLine)(I:Inv X pins U H s)(g:DGet H a y o)(ry:RelV y u)(rd:RelV d r)(h:∀w' s',Inv X pins U H s'->RelV (o.getD d) w'->Q w' s'):
  wpAny (model X.prog X.w) A (call (.builtin "dict.get") [.ref a,u,r]) Q E s:=by
 rcases g with⟨kvs,k,e,ey,l⟩|⟨kvs,k,b,e,ey,eb,l⟩
 ·subst ey;obtain⟨z,hd,vs,rel,dd⟩:=vF I.hok e;refine call_meetsIn PySem.F.slot_dict_get dd.typeIs PySem.F.entry_dict_get (PySem.F.args_dict_get_3 _ _ _) (meets_dict_get_default (gA X.prog X.w) a (tH ry) hd r) ⟨_,dd.mapOf,h _ _ (I.tok _) ?_⟩;rw[l];exact(rel.val k).getD rd
 ·subst ey;cases ry;obtain⟨z,hd,xs,rel,dd⟩:=zab I.hok e;refine call_meetsIn PySem.F.slot_dict_get dd.typeIs PySem.F.entry_dict_get (PySem.F.args_dict_get_3 _ _ _) (meetsH_dict_get_default (qd (gA X.prog X.w)) a b hd r) ⟨jt hu,k,xs,yk I.hok eb,dd,h _ _ (I.tok _) ?_⟩;rw[l];exact(rel.val k).getD rd
end
end L2
namespace HT
open PySem PyProof.Rows
section
variable {prog:cu}{w:World}{A:i6}{E:Value->aw->Prop}{s:aw}
theorem cat_tup (ht:IsTup s.heap t vs.toArray)(hb:IsTup s.heap b ws.toArray)(hv:vs≠[])
  (h1:ws=[]->Q (.ref t) s) (h2:ws≠[]->Q (.ref s.heap.objs.size) {s with heap:=s.heap.push {cls:=.type "tuple",data:=.seq (vs++ws).toArray}})
  (hz9z:vs.length+ws.length<=bc):wpAny (model prog w) A (iy .Add (.ref t) (.ref b)) Q E s:=by
 obtain⟨⟨cls,dd,data,sl⟩,ho,hc,n,hd⟩:=id ht;obtain⟨⟨zV,ym,data2,qM⟩,ho2,nD,n2,hd2⟩:=id hb;subst hc hd nD hd2;have e:vs.toArray++ws.toArray=(vs++ws).toArray:=by simp
 by_cases hw:ws=[]
 ·exact qo ⟨_,ho,rfl⟩ ⟨_,ho2,rfl⟩ qe uj PySem.F.slot_tuple_add PySem.F.entry_tuple_add (PySem.F.args_tuple_add_2 _ _) (tuple_addW1 t b vs.toArray ws.toArray n n2 dd ym sl qM (by simpa using hv) (by simp[hw])) ⟨ho,ho2,h1 hw⟩
 ·refine qo ⟨_,ho,rfl⟩ ⟨_,ho2,rfl⟩ qe uj PySem.F.slot_tuple_add PySem.F.entry_tuple_add (PySem.F.args_tuple_add_2 _ _)
   (tuple_addW2 t b vs.toArray ws.toArray n n2 dd ym sl qM (by simpa using hv) (by simpa using hw) (by rw[ax,ax];exact hz9z)) ⟨ho,ho2,?_⟩
  rw[e];exact h2 hw
def aZ (n d:Nat):Option Int->Nat
 |none=>d
 |some v=>if v<0 then(v+(n:Int)).toNat else min v.toNat n
theorem vG (n d:Nat)(hd:d<=n)(o:Option Int):aZ n d o<=n:=by
 cases o with
 |none=>exact hd
 |some v=>
  show(if v<0 then(v+(n:Int)).toNat else min v.toNat n)<=n;by_cases hv:v<0
  ·rw[xu hv];omega
  ·rw[xw hv];exact Nat.min_le_right _ _
theorem Lk (v:Int)(n d:Nat):(if v<0 then max (v+(n:Int)) 0 else min v (n:Int))=((aZ n d (some v):Nat):Int):=by
 show(if v<0 then max (v+(n:Int)) 0 else min v (n:Int))=(((if v<0 then(v+(n:Int)).toNat else min v.toNat n):Nat):Int);by_cases hv:v<0
 ·simp only[xu hv];omega
 ·simp only[xw hv];omega
theorem RY (lo hi:Option Int)(n:Nat):ot lo hi 1 (n:Int)=(((aZ n 0 lo:Nat):Int),((aZ n n hi:Nat):Int)):=by
 refine vy ?_ ?_
 ·cases lo with
  |none=>rfl
  |some v=>exact Lk v n 0
 ·cases hi with
  |none=>rfl
  |some v=>exact Lk v n n
theorem RZ (i j:Nat):jf (i:Int) (j:Int) 1=j-i:=by unfold jf;split<;>omega
theorem Ll (p:vg v o)(h:Q o s):wpAny (model prog w) A (Builtin.Slice.slicePartIndex v) Q E s:=by
 cases p with
 |none=>exact slicePart_none h
 |int i t=>exact slicePart_int h
theorem z3n {lo:Option Int}{n:Nat}(hs:s.heap.IsSliceOf sl vl vu .none)(pl:vg vl lo)(pu:vg vu hi)
  (h:Q (((aZ n 0 lo:Nat):Int),1,aZ n n hi-aZ n 0 lo) s):wpAny (model prog w) A (Builtin.Slice.sliceApplied (.ref sl) (pure (n:Int))) Q E s:=by
 obtain⟨os,zW,Lm,yn⟩:=id hs;refine ac (ac (fj zW yn rfl (ac (fj zW yn rfl (ac (fj zW yn rfl (am ?_)))))));refine ac (slicePart_none ?_);refine ac (Ll pl (ac (Ll pu (ac (am ?_)))));show wpAny _ _ (match ot lo hi 1 (n:Int)with|(lo,hi)=>pure (lo,(1:Int),jf lo hi 1)) _ _ s;rw[RY lo hi n];show wpAny _ _ (pure (((aZ n 0 lo:Nat):Int),(1:Int),jf ((aZ n 0 lo:Nat):Int) ((aZ n n hi:Nat):Int) 1)) _ _ s;rw[RZ];exact am h
theorem R0 (xs:Array Value)(i k:Nat):((fq k).filterMap λ(m:Nat)=>xs[((i:Int)+(m:Int)*1).toNat]?).toArray=((xs.toList.drop i).take k).toArray:=by
 have e:(λ(m:Nat)=>xs[((i:Int)+(m:Int)*1).toNat]?)=λm=>xs[i+m]?:=by
  funext m
  have:((i:Int)+(m:Int)*1).toNat=i+m:=by omega
  rw[this]
 rw[e];have:=pick_run xs i k;rw[List.filterMap_map]at this;have e2:((λx=>xs[x]?)∘λx=>i+x)=λm=>xs[i+m]?:=rfl;rw[e2]at this;rw[this]
theorem getItem_tuple_cut {lo:Option Int}(ht:IsTup s.heap t items)(hs:s.heap.IsSliceOf sl vl vu .none)(pl:vg vl lo)(pu:vg vu hi)
  (hw:¬(aZ items.size 0 lo=0/\aZ items.size items.size hi=items.size))
  (h:Q (.ref s.heap.objs.size) {s with heap:=s.heap.push {cls:=.type "tuple",data:=.seq ((items.toList.drop (aZ items.size 0 lo)).take (aZ items.size items.size hi-aZ items.size 0 lo)).toArray}})
  (hz9z:items.size<=bc):wpAny (model prog w) A (vx (.ref t) (.ref sl)) Q E s:=by
 have kU:sizeOk (.seq ((items.toList.drop (aZ items.size 0 lo)).take (aZ items.size items.size hi-aZ items.size 0 lo)).toArray):=by show((items.toList.drop (aZ items.size 0 lo)).take (aZ items.size items.size hi-aZ items.size 0 lo)).toArray.size<=bc;rw[ax,gf,List.length_drop,jl];omega
 obtain⟨os,zW,Lm,yn⟩:=id hs;have R1:s.TypeIs (.ref sl) "slice":=⟨os,zW,Lm⟩;unfold vx
 try with_reducible refine dj ?_
 first|refine ac (am ?_)|skip
 refine ac (wpAny_sequenceKey ht.typeIs (by decide) ?_);refine ac (im ht.typeIs PyProof.Rows.slot_tuple_getitem (g7 PyProof.Rows.slot_tuple_getitem ht.typeIs entry_tuple_getitem ?_ (args_tuple_getitem _ _)));show wpAny _ _ (Builtin.Tuple.tupleItemsOf (.ref t)>>=_) _ _ s;refine ac (tupleItemsOf_ ht ?_);refine ac (n9 R1 ?_);refine ac (z3n hs pl pu ?_);have R3:¬((((aZ items.size 0 lo:Nat):Int)==0&&(1:Int)==1&&(aZ items.size items.size hi-aZ items.size 0 lo)==items.size)=true):=by intro q;rw[bq,bq]at q;have q1:=eq_of_beq q.1.1;have q2:=eq_of_beq q.2;exact hw ⟨by omega,by omega⟩
 show wpAny _ _ (if(((aZ items.size 0 lo:Nat):Int)==0&&(1:Int)==1&&(aZ items.size items.size hi-aZ items.size 0 lo)==items.size)=true then _ else _) _ _ s;rw[xw R3,R0]
 first
  |exact ac (jh (am ⟨_,rfl,am h⟩) kU)
  |exact ac (jh (ac (am (am ⟨_,rfl,am h⟩))) kU)
  |exact ac (ac (jh (am (am ⟨_,rfl,am h⟩)) kU))
  |exact ac (ac (jh (am ⟨_,rfl,am h⟩) kU))
end
end HT
namespace L2
open PySem PySem.Spec PyProof.Rows
abbrev TO:=St->Hp->(Option Int->Hp->Prop)->Prop
def PO (X:Cx)(e:Option Expr)(t:TO):Prop:=∀(pins:List (Addr×Obj)) (s:aw) (U:St) (H:Hp) (Q:Option Int->Hp->Prop),Inv X pins U H s->t U H Q->wpAny (model X.prog X.w) X.A (evalPart e X.env) (λu s'=>∃o H',Inv X pins U H' s'/\vg u o/\Q o H') X.xe s
def R4:TO:=λ_ H Q=>Q none H
def R5 (t:TE):TO:=λU H Q=>t U H λx H1=>∃i,x=.int i/\Q (some i) H1
section
variable {X:Cx}{e:Expr}{te:TE}{lo hi:Option Expr}{tl th:TO}{pos p2:Pos}
theorem R6:PO X none R4:=by intro pins s U H Q I h;exact am ⟨none,H,I,.none,h⟩
theorem R7 (h:PE X e te):PO X (some e) (R5 te):=by intro pins s U H Q I hw;refine aM (h pins s U H _ I hw) λu s1 ⟨x,H1,I1,r1,q1⟩=>?_;obtain⟨i,rfl,q⟩:=q1;obtain⟨t,rfl⟩:=r1;exact⟨some i,H1,I1,.int i t,q⟩
def pR (X:Cx)(r:V->Option Int->Option Int->Hp->VK->Prop):Prop:=∀(pins:List (Addr×Obj)) (s:aw) (U:St) (H:Hp) (x:V) (v vl vu:Value) (lo hi:Option Int) (sl:Addr) (Q:VK),Inv X pins U H s->RelV x v->s.heap.IsSliceOf sl vl vu .none->vg vl lo->vg vu hi->r x lo hi H Q->∃T id,typeLookup (.type T) "__getitem__"=pure (some (.builtin id))/\s.TypeIs v T/\wpAny (model X.prog X.w) X.A (vx v (.ref sl)) (EP X pins U Q) X.xe s
theorem pR.or (h:pR X r)(h':pR X r'):pR X (λx lo hi H Q=>r x lo hi H Q\/r' x lo hi H Q):=by
 intro pins s U H x v vl vu lo hi sl Q I rx hs pl pu q;rcases q with q|q
 ·exact h pins s U H x v vl vu lo hi sl Q I rx hs pl pu q
 ·exact h' pins s U H x v vl vu lo hi sl Q I rx hs pl pu q
def R8 (r:V->Option Int->Option Int->Hp->VK->Prop)(te:TE)(tl th:TO):TE:=λU H Q=>te U H λx H1=>tl U H1 λl H2=>th U H2 λu H3=>r x l u H3 Q
theorem R9 (hr:pR X r)(he:PE X e te)(hl:PO X lo tl)(hu:PO X hi th):PE X (.Subscript e (.Slice lo hi none p2) pos) (R8 r te tl th):=by intro pins s U H Q I h;refine Subscript_ (aM (he pins s U H _ I h) λv s1 ⟨x,H1,I1,r1,q1⟩=>?_);refine wpAny_Slice (aM (hl pins s1 U H1 _ I1 q1) λvl s2 ⟨l,H2,I2,pl,q2⟩=>aM (hu pins s2 U H2 _ I2 q2) λvu s3 ⟨u,H3,I3,pu,q3⟩=>?_);refine am ?_;have I4:Inv X pins U H3 {s3 with heap:=s3.heap.push {cls:=.type "slice",data:=.fields #[vl,vu,.none]}}:=I3.kept λb ob q=>af _ q;obtain⟨T,id,hT,ht,hg⟩:=hr pins {s3 with heap:=s3.heap.push {cls:=.type "slice",data:=.fields #[vl,vu,.none]}} U H3 x v vl vu l u s3.heap.objs.size Q I4 r1 (Heap.IsSliceOf.new ..) pl pu q3;exact tail_any ht hT hg (by with_unfolding_all rfl)
def qN (xs:List V)(lo hi:Option Int):List V:=(xs.drop (HT.aZ xs.length 0 lo)).take (HT.aZ xs.length xs.length hi-HT.aZ xs.length 0 lo)
theorem Ln (xs:List V)(lo hi:Option Int):(qN xs lo hi).length<=xs.length:=by unfold qN;rw[gf,List.length_drop];omega
def EZ (K:W.Frag):V->Option Int->Option Int->Hp->VK->Prop:=λx lo hi H Q=>∃a xs,x=.ref a/\bL K H a xs/\¬(HT.aZ xs.length 0 lo=0/\HT.aZ xs.length xs.length hi=xs.length)/\∀p,H p=none->Q (.ref p) (upd H p (.tup (qN xs lo hi)))
theorem R':pR X (EZ X.K):=by
 intro pins s U H x v vl vu lo hi sl Q I rx hs pl pu h;obtain⟨a,xs,rfl,hx,hw,q⟩:=h;cases rx;obtain⟨its,r,ht,hz⟩:=I.tuple hx;have hlen:its.toArray.size=xs.length:=by rw[ax];exact r.length.symm
 refine⟨"tuple",_,PyProof.Rows.slot_tuple_getitem.lookup,ht.typeIs,?_⟩;refine HT.getItem_tuple_cut ht hs pl pu (by rw[hlen];exact hw) ?_ (by rw[hlen];exact hz);rw[hlen];refine⟨.ref s.heap.objs.size,_,I.laid (λb ob q=>af _ q) (ag _) ?_,rfl,q _ (I.hok.fresh (ag _))⟩;exact⟨bo (Ln xs lo hi) hz,_,(r.drop (HT.aZ xs.length 0 lo)).take (HT.aZ xs.length xs.length hi-HT.aZ xs.length 0 lo),TupN.new _ _⟩
def Lo (K:W.Frag):R2:=λx y H Q=>∃a b xs ys,x=.ref a/\y=.ref b/\bL K H a xs/\bL K H b ys/\xs≠ []/\xs.length+ys.length<=bc/\(ys=[]->Q (.ref a) H)/\(ys≠[]->∀p,H p=none->Q (.ref p) (upd H p (.tup (xs++ys))))
theorem Vals.gX (r:Vals xs us):us=[]↔xs=[]:=by
 cases r with
 |nil=>simp
 |cons _ _=>simp
theorem Sa:OpR X (iy .Add) (Lo X.K):=by intro pins s U H x y v u Q I rx ry h;obtain⟨a,b,xs,ys,rfl,rfl,ha,hb,hx,hz,q1,q2⟩:=h;cases rx;cases ry;obtain⟨its,r1,p1,_⟩:=I.tuple ha;obtain⟨cb,r2,p2,_⟩:=I.tuple hb;refine HT.cat_tup p1 p2 (λz=>hx (r1.gX.mp z)) (λz=>⟨.ref a,H,I,rfl,q1 (r2.gX.mp z)⟩) (λz=>?_) (by rw[<-r1.length,<-r2.length];exact hz);refine⟨.ref s.heap.objs.size,_,I.laid (λb ob q=>af _ q) (ag _) ?_,rfl,q2 (λw=>z (r2.gX.mpr w)) _ (I.hok.fresh (ag _))⟩;exact⟨by rw[bu];exact hz,_,r1.append r2,TupN.new _ _⟩
end
def jU (n:Nat)(i:Int):Option Nat:=if 0<=i then(if i<n then some i.toNat else none)else if -(n:Int)<=i then some (i+n).toNat else none
def dF {α:Type}(xs:List α)(i:Int):Option α:=(jU xs.length i).bind λj=>xs[j]?
theorem Lp (h:jU n i=some j):seqIndex? i n=some j/\j<n/\-(n:Int)<=i/\i<n:=by
 unfold jU at h;by_cases h0:0<=i
 ·rw[xu h0]at h;by_cases h1:i<n
  ·rw[xu h1]at h;have e:=xx h;exact⟨by rw[wx h0 h1,e],by omega,by omega,h1⟩
  ·rw[xw h1]at h;cases h
 ·rw[xw h0]at h;by_cases h1:-(n:Int)<=i
  ·rw[xu h1]at h;have e:=xx h;exact⟨by rw[vz (by omega) h1,e],by omega,h1,by omega⟩
  ·rw[xw h1]at h;cases h
theorem E2 (h:dF xs i=some v):∃j,seqIndex? i xs.length=some j/\xs[j]?=some v/\j<xs.length/\-(xs.length:Int)<=i/\i<xs.length:=by
 unfold dF at h;cases e:jU xs.length i with
 |none=>rw[e]at h;cases h
 |some j=>rw[e]at h;obtain⟨h1,h2,h3,h4⟩:=Lp e;exact⟨j,h1,h,h2,h3,h4⟩
def Lq (b:Expr):Prop:=∀o i,subscripted b false o i=operate [o,i] (vx o i)
def nG (X:Cx)(r:R2):Prop:=∀(value slice:Expr) (pins:List (Addr×Obj)) (s:aw) (U:St) (H:Hp) (x y:V) (v u:Value) (Q:VK),Inv X pins U H s->RelV x v->RelV y u->r x y H Q->subscripted slice false v u=operate [v,u] (vx v u)->wpAny (model X.prog X.w) X.A (subscriptTail value slice v u) (EP X pins U Q) X.xe s
def MtR (X:Cx)(id:String)(r:V->List V->Hp->VK->Prop):Prop:=∀(pins:List (Addr×Obj)) (s:aw) (U:St) (H:Hp) (x:V) (xs:List V) (v:Value) (us:List Value) (Q:VK),Inv X pins U H s->RelV x v->Vals xs us->r x xs H Q->wpAny (model X.prog X.w) X.A (call (.builtin id) (v::us)) (EP X pins U Q) X.xe s
section
variable {X:Cx}{a b:Expr}{ta tb:TE}{pos:Pos}
theorem nG.or (h:nG X r)(h':nG X r'):nG X (λx y H Q=>r x y H Q\/r' x y H Q):=by
 intro value slice pins s U H x y v u Q I rx ry q hs;rcases q with q|q
 ·exact h value slice pins s U H x y v u Q I rx ry q hs
 ·exact h' value slice pins s U H x y v u Q I rx ry q hs
theorem E3 (hr:nG X r)(ha:PE X a ta)(hb:PE X b tb)(hs:Lq b):PE X (.Subscript a b pos) (lO r ta tb):=by intro pins s U H Q I h;exact Subscript_ (binT ha hb I h λv u s2 x y H2 I2 rx ry q=>hr a b pins s2 U H2 x y v u Q I2 rx ry q (hs _ _))
def zX (K:W.Frag):R2:=λx y H Q=>∃p xs i v,x=.ref p/\y=.int i/\SqL K H p xs/\dF xs i=some v/\Q v H
def zY (K:W.Frag):R2:=λx y H Q=>∃p xs i v,x=.ref p/\y=.int i/\bL K H p xs/\dF xs i=some v/\Q v H
def zZ:R2:=λx y H Q=>∃z i c,x=.str z/\y=.int i/\z.length<=bc/\dF z.cps.toList i=some c/\Q (.str ⟨#[c]⟩) H
theorem Se:nG X (zX X.K):=by
 intro value slice pins s U H x y v u Q I rx ry h hs;obtain⟨p,xs,i,z,rfl,rfl,hq,he,q⟩:=h;cases rx;obtain⟨t,rfl⟩:=ry;obtain⟨its,r,pl,hz⟩:=I.list hq;obtain⟨j,h1,h2,h3,h4,h5⟩:=E2 he;obtain⟨w,ew,bE⟩:=r.get h2;have hl:=r.length;have hn:=vA;have fin:EP X pins U Q w s:=⟨z,H,I,bE,q⟩;by_cases h0:0<=i
 ·have hj:i.toNat=j:=by
   rw[wx h0 h5]at h1;exact xx h1
  exact item_listR pl.isList h0 (by omega) (by rw[hj];simpa using ew) fin hs
 ·have hj:(i+(its.toArray.size:Int)).toNat=j:=by
   rw[vz (by omega) h4]at h1;rw[ax,<-hl];exact xx h1
  exact qp pl.isList.typeIs slot_list_getitem.lookup (wpAny_getItem_list_neg pl.isList (by omega) (by rw[ax]<;>omega) (by omega) (by rw[hj];simpa using ew) ⟨rfl,fin⟩) hs
theorem Sf:nG X (zY X.K):=by intro value slice pins s U H x y v u Q I rx ry h hs;obtain⟨p,xs,i,z,rfl,rfl,hq,he,q⟩:=h;cases rx;obtain⟨t,rfl⟩:=ry;obtain⟨its,r,pl,hz⟩:=I.tuple hq;obtain⟨j,h1,h2,h3,h4,h5⟩:=E2 he;obtain⟨w,ew,bE⟩:=r.get h2;have hl:=r.length;have hn:=vA;have fin:EP X pins U Q w s:=⟨z,H,I,bE,q⟩;exact qp pl.typeIs slot_tuple_getitem.lookup (getItem_tuple pl (by omega) (by omega) (by rw[ax,<-hl];exact h1) (by simpa using ew) ⟨rfl,fin⟩) hs
theorem Sg:nG X zZ:=by
 intro value slice pins s U H x y v u Q I rx ry h hs;obtain⟨z,i,c,rfl,rfl,hz,he,q⟩:=h;obtain⟨t,rfl⟩:=rx;obtain⟨t',rfl⟩:=ry;obtain⟨j,h1,h2,h3,h4,h5⟩:=E2 he;have hl:z.cps.toList.length=z.length:=by simp[Str.length]
 rw[hl]at h1 h4 h5;have hn:=vA;exact tail_any (xn s z t) slot_str_getitem.lookup (getItem_str (by have e1:decide (i< -(2 ^ 63:Int))=false:=x8 (by omega);have e2:decide (i ≥ 2 ^ 63)=false:=x8 (by omega);rw[e1,e2,Bool.or_false]) (by rw[h1];simpa using h2) ⟨.str ⟨#[c]⟩,H,I.tok _,⟨_,rfl⟩,q⟩) hs
def vH (K:W.Frag):R2:=λx y H Q=>zX K x y H Q\/zY K x y H Q\/zZ x y H Q
theorem Lu:nG X (vH X.K):=Se.or (Sf.or Sg)
theorem Sh (its:List Value)(n j:Nat)(u:Value):Obj.mapSeq (·.setIfInBounds j u) {cls:=.type "list",data:=.seq its.toArray n}={cls:=.type "list",data:=.seq (its.set j u).toArray n}:=by simp[Obj.mapSeq]
theorem Inv.lst {pins:List (Addr×Obj)}{U:St}{H:Hp}{s:aw}{p:Addr}{xs:List V}(I:Inv X pins U H s)(h:H p=some (.lst xs)):
  ∃(its:List Value) (n:Nat),Vals xs its/\s.heap.get? p=some {cls:=.type "list",data:=.seq its.toArray n}/\xs.length<=bc:=by
 obtain⟨z,its,n,r,e⟩:=I.hok p _ h;exact⟨its,n,r,e,z⟩
theorem Inv.lstUpd {its:List Value}(I:Inv X pins U H s)(h:H p=some (.lst xs))
  (ho:s.heap.get? p=some {cls:=.type "list",data:=.seq its.toArray n}) (hf:f {cls:=.type "list",data:=.seq its.toArray n}={cls:=.type "list",data:=.seq fR.toArray n'}) (r:Vals ys fR) (hz:ys.length<=bc) (t:Nat):
  Inv X pins U (upd H p (.lst ys)) {s with heap:=s.heap.update p f,toks:=t}:=by
 have e:(s.heap.update p f).get? p=some {cls:=.type "list",data:=.seq fR.toArray n'}:=by rw[jb f ho (by rw[hf]<;>rfl),hf]
 refine I.write (by rw[h];trivial) (.inl rfl) (λb u hb q=>(gq _ _ (Ne.symm hb)).trans q) ⟨_,e⟩ ?_;exact⟨hz,fR,n',r,e⟩
def E4:V->V->V->Hp->(Hp->Prop)->Prop:=λo i v H Q=>∃p xs k j,o=.ref p/\i=.int k/\H p=some (.lst xs)/\jU xs.length k=some j/\Q (upd H p (.lst (xs.set j v)))
theorem set_list:EK X E4:=by
 intro pins s U H o i v ov iv u Q I ro ri rv h;obtain⟨p,xs,k,j,rfl,rfl,hp,hj,q⟩:=h;cases ro;obtain⟨t,rfl⟩:=ri;obtain⟨its,n,r,ho,hz⟩:=I.lst hp;obtain⟨h1,h2,h3,h4⟩:=Lp hj;have hl:=r.length;have hn:=vA;have I':Inv X pins U (upd H p (.lst (xs.set j v))) {s with heap:=s.heap.update p (Obj.mapSeq (·.setIfInBounds j u))}:=I.lstUpd hp ho (Sh its n j u) (r.set rv j) (by rw[gc];exact hz) s.toks;by_cases h0:0<=k
 ·have hk:k.toNat=j:=by
   rw[wx h0 h4]at h1;exact xx h1
  exact W.ki_setAt ho h0 (by omega) (by rw[ax,<-hl];exact h4) (by rw[hk];exact⟨_,I',q⟩)
 ·have hk:(k+(its.toArray.size:Int)).toNat=j:=by
   rw[vz (by omega) h3]at h1;rw[ax,<-hl];exact xx h1
  exact W.ki_setBack ho (by omega) (by rw[ax,<-hl];exact h3) (by omega) (by rw[hk];exact⟨_,I',q⟩)
theorem Si (lo hi:Option Int)(n:Nat):(lu lo hi none n).1=((HT.aZ n 0 lo:Nat):Int)/\(lu lo hi none n).2.1=((HT.aZ n n hi:Nat):Int)/\(lu lo hi none n).2.2=1:=by
 refine⟨?_,?_,rfl⟩
 ·cases lo with
  |none=>simp[lu,HT.aZ]
  |some i=>
   simp only[lu,HT.aZ,Option.getD_none,show(1:Int)>0 by decide,if_true];by_cases h:i<0
   ·simp only[h,if_true]<;>omega
   ·simp only[h,if_false]<;>omega
 ·cases hi with
  |none=>simp[lu,HT.aZ]
  |some i=>
   simp only[lu,HT.aZ,Option.getD_none,show(1:Int)>0 by decide,if_true];by_cases h:i<0
   ·simp only[h,if_true]<;>omega
   ·simp only[h,if_false]<;>omega
theorem Sj (its:List Value)(lo hi:Option Int):slicePick its.toArray lo hi none=((its.drop (HT.aZ its.length 0 lo)).take (HT.aZ its.length its.length hi-HT.aZ its.length 0 lo)).toArray:=by obtain⟨h1,h2,h3⟩:=Si lo hi its.toArray.size;unfold slicePick;rw[h1,h2,h3];simp only[sj,pick_run,ax]<;>rfl
def z0 (K:W.Frag):V->Option Int->Option Int->Hp->VK->Prop:=λx lo hi H Q=>∃a xs,x=.ref a/\SqL K H a xs/\∀p,H p=none->Q (.ref p) (upd H p (.lst (qN xs lo hi)))
theorem Sk:pR X (z0 X.K):=by intro pins s U H x v vl vu lo hi sl Q I rx hs pl pu h;obtain⟨a,xs,rfl,hx,q⟩:=h;cases rx;obtain⟨its,r,ht,hz⟩:=I.list hx;have hlen:=r.length;refine⟨"list",_,slot_list_getitem.lookup,ht.isList.typeIs,?_⟩;refine wpAny_getItem_list_slice ht.isList hs pl pu .none (by simp) ?_ (by rw[ax]<;>omega);rw[Sj,<-hlen];refine⟨.ref s.heap.objs.size,_,I.laid (λb ob q=>af _ q) (ag _) ?_,rfl,q _ (I.hok.fresh (ag _))⟩;exact⟨bo (Ln xs lo hi) hz,_,0,(r.drop (HT.aZ xs.length 0 lo)).take (HT.aZ xs.length xs.length hi-HT.aZ xs.length 0 lo),a8 _ rfl⟩
def tI:V->Bool
 |.bD=>true
 |.bl _=>true
 |.int _=>true
 |.str _=>true
 |_=>false
def tJ:V->V->Bool
 |.bD,.bD=>true
 |.bl a,.bl b=>a==b
 |.bl a,.int b=>(if a then 1 else 0)==b
 |.int a,.bl b=>a==(if b then 1 else 0)
 |.int a,.int b=>a==b
 |.str a,.str b=>a==b
 |_,_=>false
theorem Sm (ry:RelV y u)(rx:RelV x v)(fy:tI y=true)(fx:tI x=true):SeqAt.EqAt A s u v (tJ y x):=by
 cases y with
 |bD=>
  cases ry;cases x with
  |bD=>cases rx;exact SeqAt.EqAt.same _
  |bl b=>cases rx;exact SeqAt.EqAt.none_bool b
  |int b=>obtain⟨t,rfl⟩:=rx;exact SeqAt.EqAt.none_int b t
  |str b=>obtain⟨t,rfl⟩:=rx;exact SeqAt.EqAt.none_str b t
  |_=>exact absurd fx eg
 |bl a=>
  cases ry;cases x with
  |bD=>cases rx;exact SeqAt.EqAt.bool_none a
  |bl b=>cases rx;exact SeqAt.EqAt.bool_bool a b
  |int b=>obtain⟨t,rfl⟩:=rx;exact SeqAt.EqAt.bool_int a b t
  |str b=>obtain⟨t,rfl⟩:=rx;exact SeqAt.EqAt.bool_str a b t
  |_=>exact absurd fx eg
 |int a=>
  obtain⟨t',rfl⟩:=ry;cases x with
  |bD=>cases rx;exact SeqAt.EqAt.int_none a t'
  |bl b=>cases rx;exact SeqAt.EqAt.int_bool a t' b
  |int b=>obtain⟨t,rfl⟩:=rx;exact SeqAt.EqAt.int_int a t' b t
  |str b=>obtain⟨t,rfl⟩:=rx;exact SeqAt.EqAt.int_str a t' b t
  |_=>exact absurd fx eg
 |str a=>
  obtain⟨t',rfl⟩:=ry;cases x with
  |bD=>cases rx;exact SeqAt.EqAt.str_none a t'
  |bl b=>cases rx;exact SeqAt.EqAt.str_bool a t' b
  |int b=>obtain⟨t,rfl⟩:=rx;exact SeqAt.EqAt.str_int a t' b t
  |str b=>obtain⟨t,rfl⟩:=rx;exact SeqAt.EqAt.str_str a t' b t
  |_=>exact absurd fx eg
 |_=>exact absurd fy eg
def jV (x:V)(u:Value):Bool:=match u with
 |.none=>tJ .bD x
 |.bool b=>tJ (.bl b) x
 |.int i _=>tJ (.int i) x
 |.str z _=>tJ (.str z) x
 |_=>false
theorem Lv (r:RelV y u)(f:tI y=true):jV x u=tJ y x:=by
 cases y with
 |bD=>cases r;rfl
 |bl b=>cases r;rfl
 |int i=>obtain⟨t,rfl⟩:=r;rfl
 |str z=>obtain⟨t,rfl⟩:=r;rfl
 |_=>exact absurd f eg
theorem z4:∀{xs:List V} {us:List Value},Vals xs us->xs.all tI=true->us.any (jV x)=xs.any λy=>tJ y x
 |_,_,.nil,_=>rfl
 |y::xs,u::us,.cons r t,f=>by rw[db,bq]at f;rw[jy,jy,Lv r f.1,z4 t f.2]
theorem z5 (rx:RelV x v)(fx:tI x=true):∀{xs:List V} {us:List Value},Vals xs us->xs.all tI=true->∀u∈us,SeqAt.EqAt A s u v (jV x u)
 |_,_,.nil,_=>λu hu=>by cases hu
 |y::xs,u::us,.cons r t,f=>λu' hu=>by
  rw[db,bq]at f;rcases ao.mp hu with rfl|hu
  ·rw[Lv r f.1];exact Sm r rx f.1 fx
  ·exact z5 rx fx t f.2 u' hu
def Lw (x:V)(xs:List V):Bool:=xs.any λy=>tJ y x
def E5 (K:W.Frag)(neg:Bool):R2:=λx y H Q=>∃p xs,y=.ref p/\(SqL K H p xs\/bL K H p xs)/\tI x=true/\xs.all tI=true/\Q (.bl (if neg then !Lw x xs else Lw x xs)) H
theorem Sn:OpR X (dz .In) (E5 X.K false):=by
 intro pins s U H x y v u Q I rx ry h;obtain⟨p,xs,rfl,hq,fx,fs,q⟩:=h;cases ry;rcases hq with hq|hq
 ·obtain⟨its,r,pl,hz⟩:=I.list hq;refine SeqAt.in_listAt (jV x) pl.isList (λw hw=>z5 rx fx r fs w (by simpa using hw)) ⟨.bl _,H,I,rfl,?_⟩;rw[show its.toArray.any (jV x)=its.any (jV x) by simp,z4 r fs];exact q
 ·obtain⟨its,r,pl,hz⟩:=I.tuple hq;refine SeqAt.in_tupleAt (jV x) pl (λw hw=>z5 rx fx r fs w (by simpa using hw)) ⟨.bl _,H,I,rfl,?_⟩;rw[show its.toArray.any (jV x)=its.any (jV x) by simp,z4 r fs];exact q
theorem So:OpR X (dz .NotIn) (E5 X.K true):=by
 intro pins s U H x y v u Q I rx ry h;obtain⟨p,xs,rfl,hq,fx,fs,q⟩:=h;cases ry;rcases hq with hq|hq
 ·obtain⟨its,r,pl,hz⟩:=I.list hq;refine SeqAt.notIn_listAt (jV x) pl.isList (λw hw=>z5 rx fx r fs w (by simpa using hw)) ⟨.bl _,H,I,rfl,?_⟩;rw[show its.toArray.any (jV x)=its.any (jV x) by simp,z4 r fs];exact q
 ·obtain⟨its,r,pl,hz⟩:=I.tuple hq;refine SeqAt.notIn_tupleAt (jV x) pl (λw hw=>z5 rx fx r fs w (by simpa using hw)) ⟨.bl _,H,I,rfl,?_⟩;rw[show its.toArray.any (jV x)=its.any (jV x) by simp,z4 r fs];exact q
theorem Sq:OpR X (dz .NotIn) (λx y H Q=>∃i j,x=.str i/\y=.str j/\Q (.bl (!(!(jm j i 0 j.length 1).isEmpty))) H):=by intro pins s U H x y v u Q I rx ry h;obtain⟨i,j,rfl,rfl,q⟩:=h;obtain⟨t,rfl⟩:=rx;obtain⟨t',rfl⟩:=ry;exact notIn_str ⟨.bl _,H,I,rfl,q⟩
theorem Sr:CallR X (.builtin "len") (λxs H Q=>∃p ys,xs=[.ref p]/\(SqL X.K H p ys\/bL X.K H p ys)/\Q (.int ys.length) H):=by
 intro pins s U H xs us Q I r h;obtain⟨p,ys,rfl,hq,q⟩:=h;obtain⟨u,rfl,rx⟩:=vals1 r;cases rx;have hn:=vA;rcases hq with hq|hq
 ·obtain⟨its,r',pl,hz⟩:=I.list hq;have hlen:=r'.length;exact Calls.call_len_list pl.isList (by simp only[ax]<;>omega) ⟨.int ys.length,H,I.tok _,⟨s.toks+1,by rw[ax,hlen]⟩,q⟩
 ·obtain⟨its,r',pl,hz⟩:=I.tuple hq;have hlen:=r'.length;exact len_tuple pl (by simp only[ax]<;>omega) ⟨.int ys.length,H,I.tok _,⟨s.toks+1,by rw[ax,hlen]⟩,q⟩
theorem Su:CallR X (.builtin "len") (λxs H Q=>∃z,xs=[.str z]/\z.length<=bc/\Q (.int z.length) H):=by intro pins s U H xs us Q I r h;obtain⟨z,rfl,hz,q⟩:=h;obtain⟨u,rfl,t,rfl⟩:=vals1 r;have hn:=vA;exact len_str (by omega) ⟨.int z.length,H,I.tok _,⟨_,rfl⟩,q⟩
theorem CallR.or (h:CallR X f r)(h':CallR X f r'):CallR X f (λxs H Q=>r xs H Q\/r' xs H Q):=by
 intro pins s U H xs us Q I rs q;rcases q with q|q
 ·exact h pins s U H xs us Q I rs q
 ·exact h' pins s U H xs us Q I rs q
theorem Sv:CallR X (.type "list") (λxs H Q=>∃p ys,xs=[.ref p]/\(SqL X.K H p ys\/bL X.K H p ys)/\∀l,H l=none->Q (.ref l) (upd H l (.lst ys))):=by
 intro pins s U H xs us Q I r h;obtain⟨p,ys,rfl,hq,q⟩:=h;obtain⟨u,rfl,rx⟩:=vals1 r;cases rx
 have fin:∀(its:List Value),Vals ys its->ys.length<=bc->∀(h':Heap) (c':Nat),(∀b o',s.heap.get? b=some o'->h'.get? b=some o')->
   h'.get? s.heap.objs.size=some {cls:=.type "list",dict:=none,data:=.seq its.toArray c',slots:=#[]}->EP X pins U Q (.ref s.heap.objs.size) {s with heap:=h'}:=λits r' hz h' c' kp e=>
  ⟨.ref s.heap.objs.size,_,I.laid kp (ag _) (show z15 X.prog X.w _ h' _ (.lst ys)from⟨hz,its,c',r',e⟩),rfl,q _ (I.hok.fresh (ag _))⟩
 rcases hq with hq|hq
 ·obtain⟨its,r',pl,hz⟩:=I.list hq;have hlen:=r'.length;obtain⟨o,ho,hc,n,hd⟩:=pl.isList;exact call_list_seq p (.inl rfl) ho hc hd (λh' c' kp e=>fin its r' hz h' c' kp e) (by simp only[ax]<;>omega)
 ·obtain⟨its,r',pl,hz⟩:=I.tuple hq;have hlen:=r'.length;obtain⟨o,ho,hc,n,hd⟩:=pl;exact call_list_seq p (.inr rfl) ho hc hd (λh' c' kp e=>fin its r' hz h' c' kp e) (by simp only[ax]<;>omega)
theorem Sw:CallR X (.type "tuple") (λxs H Q=>∃p ys,xs=[.ref p]/\((SqL X.K H p ys/\∀l,H l=none->Q (.ref l) (upd H l (.tup ys)))\/(bL X.K H p ys/\Q (.ref p) H))):=by
 intro pins s U H xs us Q I r h;obtain⟨p,ys,rfl,h⟩:=h;obtain⟨u,rfl,rx⟩:=vals1 r;cases rx;rcases h with⟨hq,q⟩|⟨hq,q⟩
 ·obtain⟨its,r',pl,hz⟩:=I.list hq;have hlen:=r'.length;refine call_tuple_list pl.isList (λh' kp=>?_) (by simp only[ax]<;>omega);have I1:Inv X pins U H {s with heap:=h'}:=I.kept kp;have I2:Inv X pins U (upd H h'.objs.size (.tup ys)) {s with heap:=h'.push {cls:=.type "tuple",data:=.seq its.toArray}}:=I1.laid (λb o e=>af _ e) (ag _) (⟨hz,its,r',TupN.new _ _⟩);exact⟨.ref h'.objs.size,_,I2,rfl,q _ (I1.hok.fresh (ag _))⟩
 ·obtain⟨its,r',pl,hz⟩:=I.tuple hq;exact call_tuple_same pl ⟨.ref p,H,I,rfl,q⟩
def tyV (K:W.Frag)(T:String)(x:V)(H:Hp):Prop:=match x with
 |.str _=>T="str"
 |.int _=>T="int"
 |.ref p=>(T="list"/\∃xs,SqL K H p xs)\/(T="tuple"/\∃o,K.lookup p=some o/\o.cls=.type "tuple"/\o.dict=none)\/(T="dict"/\((∃kvs,H p=some (.dK kvs))\/∃kvs,H p=some (.dT kvs)))\/(T="set"/\∃S n,H p=some (.set S n))
 |_=>False
theorem zp0 (I:Inv X pins U H s)(r:RelV x v)(ty:tyV X.K T x H):
  s.TypeIs v T/\∀a,v=.ref a->∃ob,s.heap.get? a=some ob/\ob.dict=none:=by
 cases x with
 |str z=>obtain⟨t,rfl⟩:=r;cases ty;exact⟨xn s z t,λ_ e=>nomatch e⟩
 |int i=>obtain⟨t,rfl⟩:=r;cases ty;exact⟨typeIs_int s i t,λ_ e=>nomatch e⟩
 |ref p=>
  cases r;rcases ty with⟨rfl,xs,hq⟩|⟨rfl,o,hk,hc,hd⟩|⟨rfl,hk⟩|⟨rfl,S,n,hk⟩
  ·obtain⟨its,_,pl,_⟩:=I.list hq;refine⟨pl.isList.typeIs,λa e=>?_⟩;cases e;obtain⟨o,n,e,c,hd,_⟩:=pl;exact⟨o,e,hd⟩
  ·refine⟨⟨o,I.gB p o hk,hc⟩,λa e=>?_⟩;cases e;exact⟨o,I.gB _ o hk,hd⟩
  ·have z:∃o,s.heap.get? p=some o/\o.ExactDict:=by
    rcases hk with⟨kvs,hk⟩|⟨kvs,hk⟩
    ·obtain⟨_,_,_,_,o,_,_,e,ex,_⟩:=I.hok p _ hk;exact⟨o,e,ex⟩
    ·obtain⟨_,_,_,_,o,_,_,e,ex,_⟩:=I.hok p _ hk;exact⟨o,e,ex⟩
   obtain⟨o,e,ex⟩:=z;refine⟨⟨o,e,ex.1⟩,λa e2=>?_⟩;cases e2;exact⟨o,e,ex.2.1⟩
  ·obtain⟨o,_,_,_,e,ex,_⟩:=I.hok p _ hk;refine⟨⟨o,e,ex.1⟩,λa e2=>?_⟩;cases e2;exact⟨o,e,ex.2.1⟩
 |_=>exact False.elim ty
def z6 (K:W.Frag)(T:String)(r:V->List V->Hp->VK->Prop)(to:TE)(t:TA):TE:=λU H Q=>to U H λx H1=>tyV K T x H1/\t U H1 λxs H2=>r x xs H2 Q
variable {o e:Expr}{es:List Expr}{to:TE}{t:TA}{name:Str}{apos cpos:Pos}{T id:String}{r:V->List V->Hp->VK->Prop}
theorem zgm (pa:PlainAttrs T)(slot:Slot T name id)(hty:xo (.builtin id)=pure (.type "method_descriptor"))(hm:MtR X id r)(ho:PE X o to)(ha:PA X (e::es) t)
  (z7:ul o name X.env (eval o X.env)=eval o X.env:=by rfl)
  (E6:((ol cpos (gh (e::es) X.env)).all (λx=> !x.1)&&(backToKw cpos (keywordEach [] X.env)).all (λx=>x.1.isSome)
   &&decide ((e::es).length+([]:List vo).length+(if([]:List vo).isEmpty then 0 else 1)<30))=true:=by rfl)
  (hline:(apos.endLine==cpos.line)=true:=by rfl) (hs:gh (e::es) X.env=(false,eval e X.env)::gh es X.env:=by rfl) (vI:(ol cpos (gh es X.env)).any (·.1)=false:=by rfl):
  PE X (.Call (.Attribute o name apos) (e::es) [] cpos) (z6 X.K T r to t):=by
 intro pins s U H Q I h;refine wpAny_Call_method_late z7 E6 hline rfl (aM (ho pins s U H _ I h) λv s1 ⟨x,H1,I1,r1,ty,q1⟩=>?_);obtain⟨h1,h2⟩:=zp0 I1 r1 ty;refine⟨T,id,pa,slot,hty,h1,h2,?_⟩;have hA:=ha cpos pins s1 U H1 _ I1 q1;rw[hs]at hA ⊢;refine Calls.callWith_builtin (by show(false||(ol cpos (gh es X.env)).any (·.1))=false;rw[vI]<;>rfl) (Calls.evalArgs_plain ?_);exact aM hA λus s2 ⟨vs,H2,I2,r2,q2⟩=>hm pins s2 U H2 x vs v us Q I2 r1 r2 q2
end
def Lx (X:Cx)(id:String)(r:V->List V->Hp->VK->Prop):Prop:=∀(pins:List (Addr×Obj)) (s:aw) (U:St) (H:Hp) (x:V) (xs:List V) (v:Value) (us:List Value) (Q:VK),Inv X pins U H s->RelV x v->Vals xs us->r x xs H Q->wpAny (model X.prog X.w) X.A (call (.builtin id) (v::us)) (EP X pins U Q) X.xe s
theorem Vals.one (h:Vals [x] us):∃u,us=[u]/\RelV x u:=by
 cases h with
 |cons r h=>cases h;exact⟨_,rfl,r⟩
section
variable {X:Cx}{pins:List (Addr×Obj)}{U:St}{H:Hp}{s:aw}{l b:Addr}{xs ys zs:List V}
theorem Inv.lset {its:List Value}(I:Inv X pins U H s)(hH:H l=some (.lst xs))
  (e:s.heap.get? l=some {cls:=.type "list",data:=.seq its.toArray n}) (hf:f its.toArray=fR.toArray) (hv:Vals ys fR) (hz:ys.length<=bc):
  Inv X pins U (upd H l (.lst ys)) {s with heap:=s.heap.update l (Obj.mapSeq f),toks:=t'}:=by
 have q:=PySem.IsL.update e f;rw[hf]at q;refine I.write (by rw[hH];exact trivial) (.inl rfl) (λb' u hb hu=>(gq s.heap (Obj.mapSeq f) (Ne.symm hb)).trans hu) ⟨_,q⟩ ?_;exact⟨hz,fR,_,hv,q⟩
theorem Inv.lnew (I:Inv X pins U H s)(hv:Vals ys its)(hz:ys.length<=bc):
  Inv X pins U (upd H s.heap.objs.size (.lst ys)) {s with heap:=s.heap.push {cls:=.type "list",data:=.seq its.toArray},toks:=t'}:=
 I.laid (λ_ _ q=>af _ q) (ag _) ⟨hz,its,0,hv,a8 _ rfl⟩
theorem Inv.fresh (I:Inv X pins U H s):H s.heap.objs.size=none:=I.hok.fresh (ag _)
theorem Inv.oE (I:Inv X pins U H s)(hH:H l=some (.lst xs)):xs.length<=bc/\∃(its:List Value) (n:Nat),Vals xs its/\xs.length=its.length/\s.heap.get? l=some {cls:=.type "list",data:=.seq its.toArray n}:=by obtain⟨z,its,n,r,e⟩:=I.hok l _ hH;exact⟨z,its,n,r,r.length,e⟩
theorem Sx (h:n<=bc):pq n=false:=by exact x8 (by omega)
end
section
variable {X:Cx}
def CN:V->List V->Hp->VK->Prop:=λx vs H Q=>∃l xs y,x=.ref l/\vs=[y]/\H l=some (.lst xs)/\xs.length<bc/\Q .bD (upd H l (.lst (xs++[y])))
theorem E7:Lx X "list.append" CN:=by intro pins s U H x vs v us Q I rx rv h;obtain⟨l,xs,y,rfl,rfl,hH,hz,q⟩:=h;cases rx;obtain⟨u,rfl,ru⟩:=rv.one;obtain⟨z,its,n,r,hl,e⟩:=I.oE hH;refine xp F.slot_list_append ⟨_,e,rfl⟩ F.entry_list_append (F.args_list_append_2 _ _) (PySem.list_append l its.toArray n u (by rw[ax];omega)) ⟨e,?_⟩;refine⟨.bD,_,I.lset hH e (by simp) (r.append (.cons ru .nil)) ?_,rfl,q⟩;rw[bu,qz];omega
def CO:V->List V->Hp->VK->Prop:=λx vs H Q=>∃l b xs zs,x=.ref l/\vs=[.ref b]/\H l=some (.lst xs)/\H b=some (.lst zs)/\xs.length+zs.length<=bc/\Q .bD (upd H l (.lst (xs++zs)))
theorem Sz:Lx X "list.extend" CO:=by
 intro pins s U H x vs v us Q I rx rv h;obtain⟨l,b,xs,zs,rfl,rfl,hH,hB,hz,q⟩:=h;cases rx;obtain⟨u,rfl,ru⟩:=rv.one;cases ru;obtain⟨z,its,n,r,hl,e⟩:=I.oE hH;obtain⟨z2,cb,n2,r2,E8,e2⟩:=I.oE hB;have hz9z:its.toArray.size+cb.toArray.size<=bc:=by rw[ax,ax];omega
 have z8:¬(!its.toArray.isEmpty&&pq (its.toArray.size+cb.toArray.size))=true:=by rw[Sx hz9z,oo];exact eg
 refine xp F.slot_list_extend ⟨_,e,rfl⟩ F.entry_list_extend (F.args_list_extend_2 _ _) (AutoSeq1.list_extend_list_list_0 l its.toArray n b cb.toArray n2 z8 (by rw[ax];omega) (by omega)) ⟨e,e2,?_⟩;refine⟨.bD,_,I.lset hH e (by simp) (r.append r2) ?_,rfl,q⟩;rw[bu];omega
def z9:R2:=λx y H Q=>∃l b xs zs,x=.ref l/\y=.ref b/\H l=some (.lst xs)/\H b=some (.lst zs)/\xs.length+zs.length<=bc/\∀p,H p=none->Q (.ref p) (upd H p (.lst (xs++zs)))
theorem SA:OpR X (iy .Add) z9:=by
 intro pins s U H x y v u Q I rx ry h;obtain⟨l,b,xs,zs,rfl,rfl,hH,hB,hz,q⟩:=h;cases rx;cases ry;obtain⟨z,its,n,r,hl,e⟩:=I.oE hH;obtain⟨z2,cb,n2,r2,E8,e2⟩:=I.oE hB;refine PySem.P.add_list e e2 ?_ (by rw[ax,ax];omega);have ea:its.toArray++cb.toArray=(its++cb).toArray:=by simp
 rw[ea];exact⟨.ref _,_,I.lnew (r.append r2) (by rw[bu];omega),rfl,q _ I.fresh⟩
end
end L2
namespace Att
open PySem PySem.W PySem.Calls PyProof.Rows
theorem SD:∀(ns:List Int) (vs:List Value),WellAll P h vs (ns.map WData.int)->xh vs ns:=by
 intro ns
 induction ns with
 |nil=>intro vs w;cases w;exact .nil
 |cons n ns ih=>
  intro vs w;cases w with
  |cons a b=>cases a;exact .cons _ _ (ih _ b)
theorem ze2 {l:OpenLaw}(hn:l.most=some n)
  (lQ:l.row.toRowW.claim.pre args=true) (Ab:WellAll P h vals args):
  ∃a vs ns,vals=[Value.ref a]/\args=[WData.list (ns.map WData.int)]/\h.get? a=some {cls:=.type "list",data:=.seq vs.toArray}/\xh vs ns/\ns.length<=n:=by
 have SE:=(pre_splitW lQ).1;have hc:l.pre.holds [] {args:=args}=true:=(pre_splitW lQ).2;obtain⟨d,r,rfl,h1,h2⟩:=hasAllW_cons SE;obtain rfl:=hasAllW_nil h2;obtain⟨xs,rfl,h3⟩:=hasW_list h1;obtain⟨ns,rfl⟩:=items_int h3
 have hlen:ns.length<=n:=by
  have h4:(WTm.not (.lt (.lit (.int (n:Int))) (.len (.arg 0)))).holds [] {args:=[.list (ns.map .int)]}=true:=by have h4:=(holds_andW hc).1;rw[hn]at h4;exact h4
  have h5:=condW_of h4 (w_not (w_lt w_lit (w_len_list (w_arg rfl))));refine qf λq=>?_
  first
   |(rw[x6 q']at h5;exact absurd h5 (by decide))
   |(simp at h5;omega)
 cases Ab with
 |cons w1 w2=>
  cases w2;cases w1 with
  |list ho hall=>exact⟨_,_,ns,rfl,rfl,ho,SD ns _ hall,hlen⟩
theorem SF (l:OpenLaw)(args:List WData):l.row.toRowW.claim.post args (.bool true) args=true:=
 postW_of
  (show WShape.has [] (.bool true) .bool=true by first|rfl|decide|simp[WShape.has,WShape.arms,WShape.armsAll])
  (show(WTm.eq .res (.lit (.bool true))).value [] {args:=args,res:=some (.bool true),after:=args}=some (.bool (true==true))from w_eq_bool (w_res rfl) w_lit) rfl
theorem attach_call {l:OpenLaw}
  (hn:l.most=some n) (hdf:d.params.defaults=[])
  (call:∀(w:World) (s₀ s₁:aw) (mg mb:Str->Option Value) (fa:Addr) (o:Obj) (pm cd doc:Value) (a:Addr) (vs:List Value) (ns:List Int),
   Ground q loose [] XP w s₀ mg mb s₁.heap->YP w s₁.heap->
   s₁.heap.get? fa=some o->o.data=.func (docDef d.name d.params d.body d.scope pm cd doc)->s₁.heap.CodeRec cd d.name->mg d.name=some (.ref fa)->
   s₁.heap.get? a=some {cls:=.type "list",data:=.seq vs.toArray}->xh vs ns->ns.length<=n->s₁.gens=#[]->
   nk (model l.prog w) tu (.call (.ref fa) ⟨[.ref a],[]⟩) (λr s'=>r=.ok (.ret (.bool true))/\OldK s₁.heap s'.heap/\s'.os=s₁.os/\n5 s'.gens) s₁):
  WalkO q loose XP YP l.row.toRowW d [] (λf vs=>PySem.call f vs):=by
 intro w s₀ s₁ mg mb G aB fa o pm cd doc dV kV ho hd hcd hD Ac hg args vals as lQ SG hrd Ab hlo;obtain rfl:dV=.none:=Dflts.none hD hdf;obtain rfl:kV=.none:=Dflts.noKw hD;obtain⟨a,vs,ns,rfl,rfl,jW,hints,hlen⟩:=ze2 hn lQ Ab;refine enter_call (n6 (call w s₀ s₁ mg mb fa o pm cd doc a vs ns G aB ho (fd_plain hd) hcd Ac jW hints hlen hg) λr s' hq=>?_);obtain⟨rfl,h2,h3,h4⟩:=hq;exact⟨.inl ⟨.bool true,.bool true,[],rfl,λ_=>rfl,.bool true,SF l _,λ_=>⟨List.Pairwise.nil,λ_ hm=>(nomatch hm)⟩⟩,h2,h3,h4⟩
end Att
namespace L2
open PySem PySem.Spec PyProof.Rows
theorem Ly:∀{vs:List Value} {ns:List Int},xh vs ns->Vals (ns.map V.int) vs
 |_,_,.nil=>.nil
 |_,_,.cons n t h=>.cons ⟨t,rfl⟩ (Ly h)
def Only (H:Hp):Prop:=∀b,H b=none\/∃o xs,H b=some (.gO o (.lst xs))
theorem zgu {K:W.Frag}
  (KX:K.In s₁.heap) (CP:s₁.heap.Ns bz mg) (hb:s₁.heap.Ns xl mb) (SH:∀x:Str,x≠"__name__"->mb x=df x) (E9:s₁.heap.NoLimit) (hg:s₁.gens=#[])
  (ha:s₁.heap.get? a=some {cls:=.type "list",data:=.seq vs.toArray}) (hi:xh vs ns) (hl:ns.length<=bc) (hr:Room k tu)
  (F:∀base:Heap,K.In base->base.Ns bz mg->FnOk P w K mg base CX k fa fd [x] sp) (Ae:∀(s:aw) (u:Value),tq s fd ⟨[u],[]⟩ [(x,u)])
  (kR:∀H:Hp,Only H->SqL K H a (ns.map V.int)->sp [.ref a] H (λv _=>v=.bl true) λ_ _ _=>False)
  (Fe:∀H e s',CX [] H s₁ (λ_ _ _=>False) e s'->False):
  nk (model P w) tu (.call (.ref fa) ⟨[.ref a],[]⟩) (λr s'=>r=.ok (.ret (.bool true))/\OldK s₁.heap s'.heap/\s'.os=s₁.os/\n5 s'.gens) s₁:=by
 have rv:=Ly hi;have Ff:=hi.length
 have core:∀H:Hp,Only H->SqL K H a (ns.map V.int)->HOk P w H s₁.heap->(∀b,H b≠none->b=a)->(H a≠none->K.lookup a=none)->
   nk (model P w) tu (.call (.ref fa) ⟨[.ref a],[]⟩) (λr s'=>r=.ok (.ret (.bool true))/\OldK s₁.heap s'.heap/\s'.os=s₁.os/\n5 s'.gens) s₁:=by
  intro H hO hS hok hA hK;have yo:∀{b:Addr} {o:Obj},s₁.heap.get? b=some o->H b=none->(iN s₁.heap H).get? b=some o:=λe n=>QY e n
  have zS:∀{b:Addr} {o:Obj} {es:Array DictEntry} {ep:Nat},s₁.heap.get? b=some o->o.data=.dict es ep->H b=none:=λ{b o es ep} e d=>by
   cases q:H b with
   |none=>rfl
   |some u=>have e':=hA b (by rw[q];simp);subst e';rw[ha]at e;cases e;have d':=d;cases d'
  have CQ:∀{b:Addr} {m:Str->Option Value},s₁.heap.Ns b m->(iN s₁.heap H).Ns b m:=λ{b m} ⟨o,es,ep,e,d,r⟩=>⟨o,es,ep,yo e (zS e d),d,r⟩
  have Lz:=λb o e=>yo (KX b o e) (by
   cases q:H b with
   |none=>rfl
   |some u=>have e':=hA b (by rw[q];simp);subst e';rw[hK (by rw[q];simp)]at e;cases e)
  have hM:Mod K mg (iN s₁.heap H):=⟨Lz,CQ CP,⟨mb,CQ hb,SH⟩,let⟨mc,h1,h2⟩:=E9;⟨mc,CQ h1,h2⟩⟩;have e0:qK P w K mg (iN s₁.heap H) tu [] s₁ H:=⟨rfl,hM,λb o e=>QZ e,Nat.le_of_eq (QX _ _),trivial,λb hb=>absurd (show b∈([]:List Addr)from hb) (by simp),hok,.of_eq hg⟩;refine n6 ((F _ Lz (CQ CP)).run tu [] s₁ H ⟨[.ref a],[]⟩ [.ref a] [.ref a] _ _ hr e0 (Ae s₁ (.ref a)) (.cons rfl .nil) (kR H hO hS)) λr s' h=>?_;cases r with
  |error e=>exact(Fe H e s' h).elim
  |ok fl=>
   cases fl with
   |next=>exact False.elim h
   |brk=>exact False.elim h
   |cont=>exact False.elim h
   |ret u=>
    obtain⟨v,H',os,bare,un,Fg,r',q⟩:=h;have q':=q;subst q';obtain rfl:u=Value.bool true:=r';refine⟨rfl,OldK.of_keep λb o e=>?_,os,bare⟩;cases q:H b with
    |none=>exact un.keep b o e q (by intro z;exact absurd (show b∈([]:List Addr)from z) (by simp)) (by simp)
    |some u=>
     rcases hO b with z|⟨ob,xs,z⟩
     ·rw[q]at z;cases z
     ·have z2:=un.dO b ob _ z;obtain⟨e1,_⟩:=hok b _ z;obtain⟨e2,_⟩:=Fg b _ z2;rw[e]at e1;cases e1;exact e2
 cases hk:K.lookup a with
 |some o=>have e:=KX a o hk;rw[ha]at e;cases e;refine core (λ_=>none) (λ_=>.inl rfl) (.inr ⟨_,vs.toArray,_,hk,rfl,rfl,rfl,by rw[ax,Ff];exact hl,by simpa using rv⟩) (λb u z=>by have z':(none:Option HO)=some u:=z;cases z') (λb z=>absurd rfl z) λz=>absurd rfl z
 |none=>
  refine core (λb=>if b=a then some (.gO {cls:=.type "list",data:=.seq vs.toArray} (.lst (ns.map V.int)))else none) (λb=>?_) (.inl (.inr ⟨{cls:=.type "list",data:=.seq vs.toArray},xu rfl⟩)) (λb u z=>?_) (λb z=>?_) λ_=>hk
  ·by_cases hb:b=a
   ·exact .inr ⟨_,_,xu hb⟩
   ·exact .inl (xw hb)
  ·by_cases hb:b=a
   ·have z':=(xu hb).symm.trans z;cases z';subst hb;exact⟨ha,by rw[ae];exact hl,vs,_,rv,ha⟩
   ·have z':=(xw hb).symm.trans z;cases z'
  ·by_cases hb:b=a
   ·exact hb
   ·exact absurd (xw hb) z
theorem walk_of {l:W.OpenLaw}{K:iu->W.Frag}{CX:World->CXT}{sp:World->Sp}
  (hn:l.most=some n) (hn2:n<=bc) (hdf:d.params.defaults=[]) (hr:Room k tu)
  (hY:∀(w:World) (h:Heap),YP w h->(K w.params).In h)
  (F:∀(w:World) (mg:Str->Option Value) (fa:Addr) (h:Heap),(K w.params).In h->h.Ns bz mg->mg d.name=some (.ref fa)->∃fd:gz,(∀(s:aw) (u:Value),tq s fd ⟨[u],[]⟩ [(x,u)])/\∀base:Heap,(K w.params).In base->base.Ns bz mg->FnOk l.prog w (K w.params) mg base (CX w) k fa fd [x] (sp w))
  (kR:∀(w:World) (H:Hp) (a:Addr) (ns:List Int),ns.length<=n->Only H->SqL (K w.params) H a (ns.map V.int)->sp w [.ref a] H (λv _=>v=.bl true) λ_ _ _=>False)
  (Fe:∀(w:World) (H:Hp) (s:aw) (e:Value) (s':aw),CX w [] H s (λ_ _ _=>False) e s'->False):
  W.WalkO q loose XP YP l.row.toRowW d [] (λf vs=>PySem.call f vs):=by
 refine Att.attach_call hn hdf λw s₀ s₁ mg mb fa o pm cd doc a vs ns G aB ho hd hcd Ac jW hints hlen hg=>?_;have KX:=hY w _ aB;obtain⟨fd,hb,hF⟩:=F w mg fa _ KX G.T.g Ac;exact zgu KX G.T.g G.T.b G.T.builtins G.T.nolimit hg jW hints (bo hlen hn2) hr hF hb (λH hO hS=>kR w H a ns hlen hO hS) λH e s'=>Fe w H s₁ e s'
def z16 (s:Stmt):Arguments:=match s with
 |.FunctionDef _ a _ _ _ _ _ _ _ _=>a
 |_=>{posonlyargs:=[],args:=[],vararg:=none,kwonlyargs:=[],kw_defaults:=[],kwarg:=none,defaults:=[]}
def z0k (s:Stmt):List Stmt:=match s with
 |.FunctionDef _ _ b _ _ _ _ _ _ _=>b
 |_=>[]
def z06 (s:Stmt):Scope:=match s with
 |.FunctionDef _ _ _ _ _ _ sc _ _ _=>sc
 |_=>{kind:=.function,names:=[],isGenerator:=false,isCoroutine:=false}
abbrev oF:CXT:=λ_ _ _ _ _ _=>False
abbrev E0:XK:=λ_ _ _=>False
theorem SI:z98 oF X E0:=λ_ _ _ _ _ _ _ h=>h.elim
structure Fun (K:W.Frag)(x qual:Str)(st:Stmt)(f:Addr)(fd:gz):Prop where
 ex:∃(oc:Value) (od:Option Addr) (kV doc pm:Value) (an:Option Addr) (cdv ct:Value) (osl:Array (Option Value)),fd=W.fnOf x qual (z16 st) (z0k st) (z06 st) .none kV doc pm an cdv ct/\K.lookup f=some ⟨oc,od,.func fd,osl⟩/\W.codeIn K cdv qual=true
 kp:W.keepIn K (.ref f)=true
section
variable {P:cu}{w:World}{K:W.Frag}{mg:Str->Option Value}{base:Heap}
theorem Fun.ok {st:Stmt}(F:Fun K x qual st f fd)(S:FnScope N ps (z06 st))(len:∀vs H Q E,sp vs H Q E->vs.length=ps.length)
  (oB:∀(cdv:Value) (A:i6) (outer:List Env) (s:aw) (H:Hp) (vs:List V) (Q:VK) (E:XK),Room k (A.deeper (si qual (z06 st) s.heap.objs.size f cdv))->sp vs H Q E->∃t,PSs (gW oF P w K mg base N qual (z06 st) f cdv A outer s H E).zF (z0k st) t/\t {nx:=λ_ H'=>Q .bD H',rt:=Q} (start N vs) H):FnOk P w K mg base oF (k+1) f fd ps sp:=by
 obtain⟨oc,od,kV,doc,pm,an,cdv,ct,osl,rfl,lk,hcd⟩:=F.ex;refine zls lk hcd S len λA outer s H vs Q E hr kR=>?_;obtain⟨t,h,q⟩:=oB cdv A outer s H vs Q E hr kR;exact⟨t,h.zF,q⟩
theorem Fun.binds {st:Stmt}(F:Fun K x qual st f fd)
  (h:∀(kV doc pm:Value) (an:Option Addr) (cdv ct:Value) (us:List Value),us.length=ps.length->xm (W.fnOf x qual (z16 st) (z0k st) (z06 st) .none kV doc pm an cdv ct) ⟨us,[]⟩=pure (ps.zip us)):Binds K fd ps []:=by
 obtain⟨oc,od,kV,doc,pm,an,cdv,ct,osl,rfl,lk,hcd⟩:=F.ex;exact .all (h kV doc pm an cdv ct)
theorem Fh {st:Stmt}{kV:Value}(l:K.lookup f=some ⟨oc,od,.func (W.fnOf x qual (z16 st) (z0k st) (z06 st) .none kV doc pm an cdv ct),osl⟩) (c:W.codeIn K cdv qual=true) (k:W.keepIn K (.ref f)=true):Fun K x qual st f (W.fnOf x qual (z16 st) (z0k st) (z06 st) .none kV doc pm an cdv ct):=⟨⟨oc,od,kV,doc,pm,an,cdv,ct,osl,rfl,l,c⟩,k⟩
end
theorem lR {B:Prop}(h:B):if false=true then A else B:=by exact h
theorem lS {B:Prop}(h:A):if true=true then A else B:=by exact h
def Same (H H':Hp):Prop:=∀b o,H b=some o->H' b=some o
theorem Same.refl (H:Hp):Same H H:=λ_ _ h=>h
theorem Same.trans (a:Same H H1)(b:Same H1 H2):Same H H2:=λc o h=>b c o (a c o h)
section
variable {X:Cx}
theorem SJ:CallR X (.builtin "len") (λxs H Q=>∃a kvs,xs=[V.ref a]/\H a=some (.dK kvs)/\Q (.int kvs.length) H):=by intro pins s U H xs us Q I r h;obtain⟨a,kvs,rfl,ha,q⟩:=h;obtain⟨u,rfl,ru⟩:=vals1 r;cases ru;exact RS I (.inl ha) λt s' I'=>⟨.int kvs.length,H,I',⟨t,rfl⟩,q⟩
end
end L2
set_option maxHeartbeats 5000000
namespace L2
open PySem PySem.Spec PyProof.Rows
def fG (env:Env):List (Str×i7)->List (Str×Addr)->List (Str×Addr)
 | [],cs=>cs
 |(n,k)::r,cs=>fG env r (if(k==.free)=true then(n,(env.cells.lookup n).getD 0)::cs else cs)
theorem LA:∀l (cs:List (Str×Addr)),(∃c,cs.lookup x=some c)->∃c,(fG env l cs).lookup x=some c
 | [],cs,h=>h
 |(n,k)::r,cs,h=>by
  refine LA r _ ?_;split
  ·by_cases e:(x==n)=true
   ·exact⟨_,by rw[e8,e]⟩
   ·obtain⟨c,hc⟩:=h;exact⟨c,by rw[e8,ph.mpr e];exact hc⟩
  ·exact h
theorem Fi:∀(l:List (Str×i7)) cs,l.lookup x=some .free->∃c,(fG env l cs).lookup x=some c
 | [],cs,h=>by simp at h
 |(n,k)::r,cs,h=>by
  rw[e8]at h;cases e:(x==n)with
  |true=>rw[e]at h;have hk:=xx h;subst hk;exact LA r _ ⟨_,by rw[xu (by rfl),e8,e]⟩
  |false=>rw[e]at h;exact Fi r _ h
theorem zcl:∀l cs,(∀y∈l,y.2=.free->∃c,env.cells.lookup y.1=some c)->(∀x c,cs.lookup x=some c->env.cells.lookup x=some c)->
  ∀x c,(fG env l cs).lookup x=some c->env.cells.lookup x=some c
 | [],cs,_,h=>h
 |(n,k)::r,cs,hl,h=>by
  refine zcl r _ (λy hy=>hl y (br _ hy)) λx c hx=>?_;by_cases hk:(k==NameKind.free)=true
  ·rw[xu hk,e8]at hx;cases e:(x==n)with
   |true=>
    rw[e]at hx;have SK:x=n:=by simpa using e
    obtain⟨d,hd⟩:=hl (n,k) bh (by simpa using hk);have fB:=hd;rw[fB]at hx;rw[SK,fB];exact hx
   |false=>rw[e]at hx;exact h x c hx
  ·rw[xw hk]at hx;exact h x c hx
theorem LB (h:∀y∈scope.names,y.2=.free->∃c,env.cells.lookup y.1=some c):closureFor scope env=pure (fG env scope.names []):=by
 have go:∀l cs,(∀y∈l,y.2=.free->∃c,env.cells.lookup y.1=some c)->
   (forIn l cs λx r=>if(x.2==NameKind.free)=true then(do let a <-cellOf env x.1;pure (ForInStep.yield ((x.1,a)::r)):Sem _)else pure (ForInStep.yield r))=(pure (fG env l cs):Sem _):=by
  intro l
  induction l with
  |nil=>intro cs _;rfl
  |cons y r ih=>
   intro cs hl;obtain⟨n,k⟩:=y;rw[List.forIn_cons];unfold fG;by_cases hk:(k==NameKind.free)=true
   ·obtain⟨c,hc⟩:=hl (n,k) bh (by simpa using hk);have tF:=hc;have e:cellOf env n=pure c:=by unfold cellOf;rw[tF]
    rw[xu hk,xu hk];rw[e,tF];exact ih ((n,c)::cs) λy hy=>hl y (br _ hy)
   ·rw[xw hk,xw hk];exact ih cs λy hy=>hl y (br _ hy)
 have:=go scope.names [] h
 first
  |exact this
  |(show(forIn scope.names [] _>>=λr=>pure r)=_;rw[show(forIn scope.names ([]:List (Str×Addr)) _:Sem _)=_ from this];rfl)
theorem za9 (hc:∀y∈scope.names,y.2≠.cell):
  (relabel scope env).names.lookup x=some .cell\/(relabel scope env).names.lookup x=some .free->scope.names.lookup x=some .free:=by
 have go:∀(l:List (Str×i7)),(∀y∈l,y.2≠ .cell)->∀k,(k=NameKind.cell\/k=NameKind.free)->
   (l.map λ(n,k)=>if(k==.free&&env.scope.kind==.function&&env.kindOf n==some .cell)then(n,NameKind.cell)else(n,k)).lookup x=some k->l.lookup x=some .free:=by
  intro l
  induction l with
  |nil=>intro _ k _ h;simp at h
  |cons y r ih=>
   intro hl k hk h;obtain⟨n,q⟩:=y;rw[bg]at h;rw[e8];by_cases c:(q==NameKind.free&&env.scope.kind==.function&&env.kindOf n==some .cell)=true
   ·have hq:q=.free:=by
     simp at c;simpa using c.1.1
    dsimp only at h
    rw[xu c,e8]at h;cases e:(x==n)with
    |true=>rw[hq]
    |false=>rw[e]at h;exact ih (λy hy=>hl y (br _ hy)) k hk h
   ·dsimp only at h
    rw[xw c,e8]at h;cases e:(x==n)with
    |true=>
     rw[e]at h;have hq:=xx h;rcases hk with hk|hk
     ·exact absurd (hq.trans hk) (hl (n,q) bh)
     ·show some q=some .free;rw[hq,hk]
    |false=>rw[e]at h;exact ih (λy hy=>hl y (br _ hy)) k hk h
 rintro(h|h)
 ·exact go scope.names hc .cell (.inl rfl) h
 ·exact go scope.names hc .free (.inr rfl) h
def blk (X:Cx)(scope:Scope)(N':List Str)(C:Addr)(fp:List Addr)(s:aw)(H:Hp):Cx:={X with N:=N',s₀:=s,iO:=H,env:=compEnvC scope (fG X.env scope.names []) C X.env,outer:=X.stack,stack:=X.stack,ex:=fp,fn:=λ_=>false,xe:=λ_ _=>False,fx:=[]}
structure BlkScope (X:Cx)(scope:Scope)(N':List Str)(nt:Nat)(js:List Nat):Prop where
 kind:scope.kind=.function
 oG:∀y∈scope.names,y.2≠.cell
 names:∀y∈scope.names,y.2=.local->scope.names.lookup y.1=some .local
 frees:∀y∈scope.names,y.2=.free->X.env.scope.names.lookup y.1=some .cell\/X.env.scope.names.lookup y.1=some .free
 nd:N'.Nodup
 len:N'.length=nt+js.length
 pl:∀(i j:Nat),js[i]?=some j->N'[nt+i]?=X.N[j]?/\∃x,X.N[j]?=some x/\scope.names.lookup x=some .free
def qO (NX:List Str)(CS scope:Scope)(N':List Str)(nt:Nat)(js:List Nat):Bool:=
 (scope.kind==.function)&&scope.names.all (λy=>!(y.2==.cell))&&scope.names.all (λy=>!(y.2==.local)||(scope.names.lookup y.1==some .local))&&
 scope.names.all (λy=>!(y.2==.free)||(CS.names.lookup y.1==some .cell)||(CS.names.lookup y.1==some .free))&&decide N'.Nodup&&(N'.length==nt+js.length)&&
 (N'.drop nt==js.map λj=>NX.getD j "")&&js.all (λj=>decide (j<NX.length)&&(scope.names.lookup (NX.getD j "")==some .free))
theorem LC (hN:X.N=NX)(hs:X.env.scope=CS)(h:qO NX CS scope N' nt js=true):BlkScope X scope N' nt js:=by
 unfold qO at h;simp only[bq,bj,decide_eq_true_eq,beq_iff_eq,gy,j0,beq_eq_false_iff_ne]at h;obtain⟨⟨⟨⟨⟨⟨⟨h1,h2⟩,h3⟩,h4⟩,h5⟩,h6⟩,h7⟩,h8⟩:=h;refine⟨h1,h2,λy hy e=>(h3 y hy).resolve_left (λz=>z e),λy hy e=>?_,h5,h6,λi j hj=>?_⟩
 ·rw[hs];rcases h4 y hy with(z|z)|z
  ·exact absurd e z
  ·exact .inl z
  ·exact .inr z
 ·obtain⟨a,b⟩:=h8 j (b0 hj);have e:X.N[j]?=some (NX.getD j ""):=by rw[hN,au,ak a];rfl
  refine⟨?_,_,e,b⟩;rw[e,<-List.getElem?_drop,h7,az,hj];rfl
def fH (nt:Nat)(js:List Nat)(U:St):St:=bv nt none++js.map λj=>U.getD j none
section
variable {X:Cx}{scope:Scope}{N':List Str}{nt:Nat}{js:List Nat}
theorem zld (B:BlkScope X scope N' nt js)(I:Inv X pins U H s)
  (CT:∀b∈fp,FpOk X pins H b) (SM:∀b∈fp,∃o,s.heap.get? b=some o)
  (k:∀b o,s.heap.get? b=some o->h1.get? b=some o) (hn:h1.Ns s.heap.objs.size m1):
  Inv (blk X scope N' s.heap.objs.size fp s H) pins (fH nt js U) H {s with heap:=h1,toks:=t1}:=by
 have fI:∀x c,(fG X.env scope.names []).lookup x=some c->X.env.cells.lookup x=some c:=zcl _ _ (λy hy hf=>I.ok.has y.1 (B.frees y hy hf)) (λx c h=>by simp at h);have lt:∀b o,s.heap.get? b=some o->b≠s.heap.objs.size:=λb o e=>cw (bn e);refine⟨⟨I.ok.mod,B.kind,I.ok.glob,I.ok.blt,ag _,λx y c h1 h2=>I.ok.inj x y c (fI x c h1) (fI y c h2),λx hx=>Fi _ _ (za9 B.oG hx),λx c h=>(by cases h),I.ok.hd,I.ok.frames,.inl rfl,λb hb=>?_,I.bs,bo I.ok.nB I.sz,λb o e hb=>?_,λb hb hx=>?_,I.stack,I.gQ,λ_ _ z=>by cases z⟩,rfl,I.bare,Un.kept k,⟨m1,hn,λi x v e1 e2 e3=>?_⟩,λx c e=>?_,I.hok.fresh (ag _),λx c e=>I.bX x c (fI x c e),λp hp=>?_,I.hok.kept k,?_,λ_ _ z=>by cases z⟩
 ·obtain⟨o,ho⟩:=SM b hb;exact⟨lt b o ho,λx c h=>(CT b hb).2.2.2.2.1 x c (fI x c h)⟩
 ·rcases(CT b hb).2.2.2.1 with z|z
  ·exact I.ok.lK b o e z
  ·exact absurd (cg (bn e) (bo I.ok.nB z)) (cq _)
 ·rcases ao.mp (I.gP b hx)with z|z
  ·exact(CT b hb).2.1 z
  ·exact(CT b hb).2.2.1 z
 ·--a name with a value:one of the CU
  have hi:nt<=i:=by refine qf λh=>?_;unfold fH at e2;rw[jd (cf▸h),eh,xu h]at e2;cases e2
  unfold fH at e2;rw[j7 (cf▸hi),cf,az]at e2;cases ej:js[i-nt]? with
  |none=>rw[ej]at e2;cases e2
  |some j=>
   rw[ej]at e2;have CV:U.getD j none=some v:=xx e2;obtain⟨LD,y,hy,eO⟩:=B.pl (i-nt) j ej;rw[tx hi]at LD;have SN:x=y:=by have LF:N'[i]?=some x:=e1;rw[LD,hy]at LF;exact(xx LF).symm
   subst SN
   have hσ:U[j]?=some (some v):=by
    rw[au]at CV;cases q:U[j]? with
    |none=>rw[q]at CV;cases CV
    |some z=>rw[q]at CV;simp_all
   have Af:=B.frees (x,.free) (PySem.mem_of_lookup eO) rfl;obtain⟨m,hnm,hl⟩:=I.loc;obtain⟨u,r,l⟩:=hl j x v hy hσ (Af.elim (λz=>.inr (.inl z)) (λz=>.inr (.inr z)));refine⟨u,r,?_⟩;rcases l with⟨hk,_⟩|⟨hk,c,hc,kQ⟩
   ·rcases Af with z|z
    ·have vJ:X.env.scope.names.lookup x=some .local:=hk;rw[z]at vJ;cases vJ
    ·have vJ:X.env.scope.names.lookup x=some .local:=hk;rw[z]at vJ;cases vJ
   ·obtain⟨d,hd⟩:=Fi scope.names [] eO;have SQ:d=c:=by have:=fI x d hd;rw[hc]at this;cases this;rfl
    subst SQ;refine .inr ⟨?_,d,hd,?_⟩
    ·rcases e3 with z|z|z
     ·exfalso
      have:∀(l:List (Str×i7)),l.lookup x=some .free->(l.map λ(n,k)=>if(k==.free&&X.env.scope.kind==.function&&X.env.kindOf n==some .cell)then(n,NameKind.cell)else(n,k)).lookup x≠some .local:=by
       intro l
       induction l with
       |nil=>intro h;simp at h
       |cons y r ih=>
        intro h;obtain⟨n,q⟩:=y;rw[e8]at h;rw[bg]
        dsimp only
        cases e:(x==n)with
        |true=>
         rw[e]at h;have hq:=xx h;subst hq;split
         ·rw[e8,e];intro z;cases z
         ·rw[e8,e];intro z;cases z
        |false=>
         rw[e]at h;split
         ·rw[e8,e];exact ih h
         ·rw[e8,e];exact ih h
      exact this _ eO z
     ·exact .inl z
     ·exact .inr z
    ·obtain⟨o,ho,fB⟩:=kQ;exact⟨o,k _ _ ho,fB⟩
 ·obtain⟨v,o,ho,hd⟩:=I.cell x c (fI x c e);exact⟨v,o,k _ _ ho,hd⟩
 ·obtain⟨q1,q2,q3,q4,q5⟩:=I.pin p hp;refine⟨k _ _ q1,q2,lt _ _ q1,λz=>?_,q5⟩;rcases ao.mp (I.gP p.1 z)with z|z
  ·exact q3 z
  ·exact q4 z
 ·show(fH nt js U).length=N'.length;unfold fH;rw[bu,cf,ae,B.len]
end
section
variable (M:Model)(A:i6)(env:Env)
abbrev gC:Value->aw->Prop:=λ_ _=>False
def SR (acc:Value)(Z:aw->Prop)(x:Value):aw->Prop:=wpAny M A (call (.builtin "list.append") [acc,x]) (λ_=>Z) gC
def Fj (elt:Expr)(acc:Value)(Z:aw->Prop)(ok:Bool)(s:aw):Prop:=if ok=true then wpAny M A (eval elt env) (SR M A acc Z) gC s else Z s
def SS (ifs:List Expr)(elt:Expr)(acc:Value)(Z:aw->Prop):aw->Prop:=wpAny M A (forIn ifs true λc r=>if r=true then(wu c env (eval c env)>>=λok=>pure (ForInStep.yield ok))else pure (ForInStep.yield r)) (Fj M A env elt acc Z) gC
def Fo (tg:Expr)(ifs:List Expr)(elt:Expr)(acc:Value)(Z:aw->Prop)(v:Value):aw->Prop:=wpAny M A (ux tg env v) (λ_=>SS M A env ifs elt acc Z) gC
def Fp (tg:Expr)(ifs:List Expr)(elt:Expr)(it acc:Value)(End Z:aw->Prop)(r:Option Value)(s:aw):Prop:=match r with
 |some v=>wpAny M A (jg tg it v) (λ_=>Fo M A env tg ifs elt acc Z v) gC s
 |none=>End s
end
theorem zkn (I:Nat->aw->Prop)
  (one:∀k t,I k t->wpAny (model P w) A (wv it) (Fp (model P w) A env tg ifs elt it acc (R (.ok .next)) λt'=>∃m,m<k/\I m t') gC t) n (h:I n s):
  nk (model P w) A (.compLoop (.ListComp elt [⟨tg,iter,ifs,0⟩] scope pos) 0 it acc env) R s:=by
 apply codeAny_loop rfl I _ n h;intro k t hk;apply wpAny_noted;apply wpAny_noRaise;apply ac;apply um;apply ac;refine aM (one k t hk) ?_
 rintro(_|v) t1 h1
 ·exact am h1
 apply ac;refine aM h1 λ_ t2 h2=>?_;apply ac;refine aM h2 λ_ t3 h3=>?_;apply ac;refine aM h3 ?_
 rintro(_|_) t4 h4
 ·exact am ⟨rfl,h4⟩
 apply ac;apply ac;refine aM h4 λx t5 h5=>?_;apply ac;exact aM h5 λ_ t6 h6=>am (am ⟨rfl,h6⟩)
theorem Un.but (u:Un fs ex H H1 h h1)(hC:h.get? C=none)(sb:cy C h1 h'):Un fs ex H H1 h h':=by
 have ne:∀b o,h.get? b=some o->b≠C:=λb o e z=>by rw[z,hC]at e;cases e
 exact⟨λb o e n hb hx=>sb.extBut b o (ne b o e) (u.keep b o e n hb hx),λb o e n hb hx=>let⟨sl,q⟩:=u.slot b o e n hb hx;⟨sl,sb.extBut b _ (ne b o e) q⟩,u.free,λb o e hx=>let⟨o',q⟩:=u.there b o e hx;⟨o',sb.extBut b _ (ne b o e) q⟩,u.dU,u.dO,u.dW⟩
theorem HOk.but (ok:HOk P w H h)(hC:H C=none)(sb:cy C h h'):HOk P w H h':=λa o e=>by
 refine(ok a o e).stay (λb u hb q=>sb.extBut b u (λz=>?_) q) (λ_ q=>q) λ_ _ q=>q;rcases hb with hb|hb
 ·rw[z]at hb;rw[<-hb,hC]at e;cases e
 ·rw[z,hC]at hb;cases hb
def qP (X:Cx)(ifs:List Expr)(t:TT):Prop:=∀(pins:List (Addr×Obj)) (s:aw) (U:St) (H:Hp) (Q:Bool->Hp->Prop),Inv X pins U H s->t U H Q->wpAny (model X.prog X.w) X.A (forIn ifs true λc r=>if r=true then do let ok <-wu c X.env (eval c X.env);pure (ForInStep.yield ok)else pure (ForInStep.yield r)) (TP X pins U Q) X.xe s
def Ag:TT:=λ_ H Q=>Q true H
theorem LG:qP X [] Ag:=λ_ _ _ H _ I h=>wpAny_tests_nil ⟨H,I,h⟩
theorem LH (h:PT X c t):qP X [c] t:=λpins s U H Q I q=>wpAny_tests_one (h pins s U H Q I q)
def eE (a b:St):Prop:=a.length=b.length/\∀(i:Nat) v,a[i]?=some (some v)->b[i]?=some (some v)
def Ah (wi:TI)(g:TG)(tc:TT)(te:TE)(em:St->St):TE:=λU H Q=>wi U H λJ H1=>∀l,H1 l=none->∃P:Nat->Nat->List V->Hp->Prop,(∃m,P 0 m [] (upd H1 l (.lst [])))/\∀i m acc H2,P i m acc H2->(J.stop i H2/\Q (.ref l) H2)\/(J.go i H2/\acc.length<bc/\∃N:List V->Hp->Prop,(∀acc' H',N acc' H'->∃m',m'<m/\P (i+1) m' acc' H')/\∀x H3,J.fU i H2 x H3->g x (em U) H3 λbM H4=>eE (em U) bM/\tc bM H4 λb H5=>if b=true then te bM H5 λy H6=>H6 l=some (.lst acc)/\N (acc++[y]) (upd H6 l (.lst (acc++[y])))else N acc H5)
section
variable {X:Cx}{scope:Scope}{N':List Str}{nt:Nat}{js:List Nat}{tg iter elt:Expr}{ifs:List Expr}{wi:TI}{g:TG}{tc:TT}{te:TE}{pos:Pos}
theorem z58 {Q:VK}{RR:Value->Addr->Result->aw->Prop}(hc:X.calm=true)(B:BlkScope X scope N' nt js)
  (hg:∀C fp s H,PG (blk X scope N' C fp s H) tg g) (ht:∀C fp s H,qP (blk X scope N' C fp s H) ifs tc) (he:∀C fp s H,PE (blk X scope N' C fp s H) elt te)
  (h2:uV X pins U tg (λJ H1=>∀l,H1 l=none->∃P:Nat->Nat->List V->Hp->Prop,(∃m,P 0 m [] (upd H1 l (.lst [])))/\∀i m acc H2,P i m acc H2->(J.stop i H2/\Q (.ref l) H2)\/(J.go i H2/\acc.length<bc/\∃N:List V->Hp->Prop,(∀acc' H',N acc' H'->∃m',m'<m/\P (i+1) m' acc' H')/\∀x H3,J.fU i H2 x H3->g x (fH nt js U) H3 λbM H4=>eE (fH nt js U) bM/\tc bM H4 λb H5=>
  if b=true then te bM H5 λy H6=>H6 l=some (.lst acc)/\N (acc++[y]) (upd H6 l (.lst (acc++[y])))else N acc H5)) nX s2)
  (SU:∀l C H' s1,(∃m,s1.heap.Ns C m)->H' C=none->C≠X.env.locals->C∉X.fs->(∀x c,X.env.cells.lookup x=some c->c≠C)->X.s₀.heap.objs.size<=C->(∀p∈X.pn++pins,p.1≠C)->(∀h',cy C s1.heap h'->Inv X pins U H' {s1 with heap:=h'})->Q (.ref l) H'->RR (.ref l) C (.ok .next) s1):
  wpAny (model X.prog X.w) X.A (newList []) (λacc s₃=>wpAny (model X.prog X.w) X.A (newFunctionEnv scope X.env.globals (fG X.env scope.names []) [] X.env.qual none .none (some X.env)) (λAi Fq=>nk (model X.prog X.w) X.A (.compStart (.ListComp elt [⟨tg,iter,ifs,0⟩] scope pos) 0 nX acc {Ai with scope:=relabel scope X.env}) (RR acc Ai.locals) Fq) E s₃) E s2:=by
 obtain⟨it,fp,tn,J,H2,rfl,I2,T,uW,f2,q⟩:=h2;refine jh (wpAny_newFunctionEnv B.oG (by intro y hy;simp at hy) (λh₁ oH oI=>?_) B.kind);have Aj:∀b∈fp,∃o,s2.heap.get? b=some o:=λb hb=>let⟨o,e,_⟩:=T.obj 0 _ uW b hb;⟨o,e⟩;have hl:=I2.hok.fresh (ag _);have I3:=I2.lnew (t':=s2.toks) .nil (bw _);obtain⟨P,⟨m0,p0⟩,turn⟩:=q _ hl;generalize SV:s2.heap.push {cls:=.type "list",dict:=none,data:=.seq ([]:List Value).toArray}=Hh at oH oI I3 ⊢;generalize SW:s2.heap.objs.size=l at hl I3 p0 turn ⊢;have vK:∀b o,s2.heap.get? b=some o->Hh.get? b=some o:=λb o e=>SV▸af _ e;have k:=λb o e=>oI.extBut b o (cw (bn e)) (af _ e);have f3:∀b∈fp,FpOk X pins (upd H2 l (.lst [])) b:=λb hb=>by obtain⟨o,e⟩:=Aj b hb;exact⟨by rw[aC (SW▸cw (bn e))];exact(f2 b hb).1,(f2 b hb).2⟩
 have J0:=zld (t1:=s2.toks+([]:List (Str×Value)).length) B I3 f3 (λb hb=>let⟨o,e⟩:=Aj b hb;⟨o,vK b o e⟩) k oH;have Fs:∀{H':Hp},(∀b∈fp,H' b=none)->∀b∈fp,FpOk (blk X scope N' Hh.objs.size fp {s2 with heap:=Hh,toks:=s2.toks} (upd H2 l (.lst []))) pins H' b:=λhn b hb=>⟨hn b hb,(J0.ok.zr b hb).1,J0.ok.lM b hb,.inl hb,(J0.ok.zr b hb).2,(f2 b hb).2.2.2.2.2⟩;have out:∀{H':Hp} {s1:aw},Inv (blk X scope N' Hh.objs.size fp {s2 with heap:=Hh,toks:=s2.toks} (upd H2 l (.lst []))) pins (fH nt js U) H' s1->∀h',cy Hh.objs.size s1.heap h'->Inv X pins U H' {s1 with heap:=h'}:=λ{H' s1} Jn h' sb=>by exact I3.call' Jn.os (Un.but Jn.base (se (ag _)) sb) (Jn.hok.but Jn.free sb) Jn.bare λb hb=>⟨(f3 b hb).2.2.2.1,(f3 b hb).2.1,(f3 b hb).2.2.2.2.1,(f3 b hb).2.2.2.2.2⟩
 have nC:∀x c,X.env.cells.lookup x=some c->c≠Hh.objs.size:=λx c e z=>by obtain⟨v,q⟩:=I3.cell x c e;exact absurd q.lt (z▸cq _)
 have loop:∀s₃,s₃={s2 with heap:=h₁,toks:=s2.toks+([]:List (Str×Value)).length}->
   nk (model X.prog X.w) X.A (.compLoop (.ListComp elt [⟨tg,iter,ifs,0⟩] scope pos) 0 (.ref it) (.ref l) (compEnvC scope (fG X.env scope.names []) Hh.objs.size X.env)) (RR (.ref l) Hh.objs.size) s₃:=by
  rintro s₃ rfl
  refine zkn (λn s'=>∃i acc H',Inv (blk X scope N' Hh.objs.size fp {s2 with heap:=Hh,toks:=s2.toks} (upd H2 l (.lst []))) pins (fH nt js U) H' s'/\tn i s'.heap/\(∀b∈fp,H' b=none)/\P i n acc H') ?_ m0 ⟨0,[],_,J0,T.keep _ _ _ uW λb _ o e=>k b o (vK b o e),λb hb=>(f3 b hb).1,p0⟩
  rintro n s3 ⟨i,acc,H3,Jn,zM,zN,w3⟩
  rcases turn i n acc H3 w3 with⟨stop,qn⟩|⟨go,SX,N,hN,step⟩
  ·refine aM (T.done (blk X scope N' Hh.objs.size fp {s2 with heap:=Hh,toks:=s2.toks} (upd H2 l (.lst []))) rfl rfl rfl hc i pins s3 _ H3 (λ_ _=>False) Jn (Fs zN) zM stop) λr s4 ⟨hr,I4⟩=>?_;subst hr;obtain⟨m,hn,_⟩:=id I4.loc;exact SU l Hh.objs.size H3 s4 ⟨m,hn⟩ I4.free (qk (I3.lt)) (I3.zu (ag _)) nC I3.sz (λp hp=>cw (bn (I3.pin p hp).1)) (out I4) qn
  ·refine aM (T.item (blk X scope N' Hh.objs.size fp {s2 with heap:=Hh,toks:=s2.toks} (upd H2 l (.lst []))) rfl rfl rfl hc i pins s3 _ H3 (λ_ _=>False) Jn (Fs zN) zM go) λr s4 ⟨u,hr,h4⟩=>?_;subst hr;refine aM h4 λ_ s5 ⟨x,H5,I5,r5,y5,nY,zO⟩=>aM (hg _ _ _ _ _ s5 _ H5 x u _ (I5.pinned (Fs zO) (T.obj _ _ nY)) r5 (step x H5 y5)) λ_ s6 ⟨σ6,H6,I6,kp,q6⟩=>aM (ht _ _ _ _ _ s6 σ6 H6 _ I6 q6) λb s7 ⟨H7,I7,q7⟩=>?_
   have again:∀{s7:aw} {H7:Hp} {acc':List V},Inv (blk X scope N' Hh.objs.size fp {s2 with heap:=Hh,toks:=s2.toks} (upd H2 l (.lst []))) (pins++z6m fp s5.heap) σ6 H7 s7->N acc' H7->
     ∃m,m<n/\∃i acc H',Inv (blk X scope N' Hh.objs.size fp {s2 with heap:=Hh,toks:=s2.toks} (upd H2 l (.lst []))) pins (fH nt js U) H' s7/\tn i s7.heap/\(∀b∈fp,H' b=none)/\P i m acc H':=λ{s7 H7 acc'} I7 w7=>by
    obtain⟨n',hm,w7⟩:=hN _ _ w7;refine⟨n',hm,i+1,acc',H7,(I7.bY).weak kp.1 kp.2,T.keep _ _ _ nY λb hb o e=>(I7.pin (b,o) (ay _ (ay _ (yh hb e)))).1,λb hb=>?_,w7⟩;obtain⟨o,e,d⟩:=T.obj _ _ nY b hb;exact(I7.pin (b,o) (ay _ (ay _ (yh hb e)))).2.1
   cases b with
   |false=>exact again I7 q7
   |true=>exact aM (he _ _ _ _ _ s7 σ6 H7 _ I7 q7) λy' s8 ⟨y,H8,I8,r8,Ft,w8⟩=>aM (E7 _ s8 σ6 H8 (.ref l) [y] (.ref l) [y'] (λ_ H9=>N (acc++[y]) H9) I8 rfl (.cons r8 .nil) ⟨l,acc,y,rfl,rfl,Ft,SX,w8⟩) λ_ s9 ⟨v9,H9,I9,r9,w9⟩=>again I9 w9
 exact codeAny_compStart_list (loop _ rfl) (T.self _ 0 _ _ _ (T.keep _ _ _ uW λb _ o e=>k b o (vK b o e)) (loop _ rfl))
theorem z9t (hc:X.calm=true)(B:BlkScope X scope N' nt js)(hi:PI X tg iter wi)
  (hg:∀C fp s H,PG (blk X scope N' C fp s H) tg g) (ht:∀C fp s H,qP (blk X scope N' C fp s H) ifs tc) (he:∀C fp s H,PE (blk X scope N' C fp s H) elt te)
  (hs:∀x,ij iter X.env x=pure x:=by intro _;rfl):PE X (.ListComp elt [⟨tg,iter,ifs,0⟩] scope pos) (Ah wi g tc te (fH nt js)):=by
 intro pins s U H Q I h;refine pz rfl hs (LB λy hy hf=>I.ok.has y.1 (B.frees y hy hf)) B.kind B.names (aM (hi pins s U H _ I h) λv s1 h1=>aM h1 λnX s2 h2=>?_);refine z58 hc B hg ht he h2 ?_;intro l C H' s1 ns _ _ _ _ _ _ out q;obtain⟨m,hn⟩:=ns;exact⟨m,hn,λh' sb=>⟨.ref l,H',out h' sb,rfl,q⟩⟩
def SY (i:Nat)(t:TE):TS:=λD U H=>t U H λv H1=>D.nx (U.set i (some v)) H1
theorem z5f (hc:X.calm=true)(hN:X.N.Nodup)(hy:X.N[i]?=some y)(hl:X.env.scope.names.lookup y=some .local)(hz:∀u,(y,u)∉X.fx)(B:BlkScope X scope N' nt js)(hi:PI X tg iter wi)
  (hg:∀C fp s H,PG (blk X scope N' C fp s H) tg g) (ht:∀C fp s H,qP (blk X scope N' C fp s H) ifs tc) (he:∀C fp s H,PE (blk X scope N' C fp s H) elt te)
  (S0:mx (.ListComp elt [⟨tg,iter,ifs,0⟩] scope pos) (some (.Name y py)) lT.line X.env=pure true)
  (hs:∀x,ij iter X.env x=pure x:=by intro _;rfl):PS X (.Assign [.Name y py] (.ListComp elt [⟨tg,iter,ifs,0⟩] scope pos) lT) (SY i (Ah wi g tc te (fH nt js))):=by
 intro pins s U H D I h;rw[exec_Assign_Name_used _ _ _ _ S0];apply ac;apply um;apply ac;refine ac (mw (pz (use:=some (ux (.Name y py) X.env)) rfl hs (LB λz hz hf=>I.ok.has z.1 (B.frees z hz hf)) B.kind B.names (aM (hi pins s U H _ I h) λv s1 h1=>aM h1 λnX s2 h2=>?_)) (λ_ s' hq=>am (am hq)) λ_ _ e=>e);refine z58 (Q:=λv H1=>D.nx (U.set i (some v)) H1) (RR:=λacc C=>compPost (model X.prog X.w) X.A X.xe (some (ux (.Name y py) X.env)) (λ_ s'=>SP X pins D .next s') acc C) hc B hg ht he h2 ?_;intro l C H' s1 ns hH nL nF nC nS nP out q;obtain⟨m,hn⟩:=ns;have I1:=out s1.heap (.refl ..);obtain⟨oC,es,ep,S3,LI,S4⟩:=id hn
 have I2:Inv X (pins++[(C,oC)]) U H' s1:=I1.gR λp hp=>(ce.mp hp).elim (λz=>I1.pin p (ay _ z)) λz=>by
  have e:p=(C,oC):=by simpa using z
  subst e;exact⟨S3,hH,nL,nF,λv z=>by have z':=z;rw[LI]at z';cases z'⟩
 refine vn (z5r I2 hN hy (.inl hl) (v:=.ref l) rfl (λpQ LJ=>?_) ⟨.inr hl,hz⟩);refine⟨m,⟨oC,es,ep,(LJ.pin (C,oC) (ay _ (ay _ (ah.mpr rfl)))).1,LI,S4⟩,λh' sb=>⟨_,H',?_,q⟩⟩;exact(LJ.bY).turned (λb o hb e=>sb.extBut b o hb e) hH nL (.inr nS) nC nP
end
def Fv (z:Str):It:=⟨λi _=>i<z.cps.size,λi H x H'=>H'=H/\∃c,z.cps[i]?=some c/\x=.str ⟨#[c]⟩,λi _=>z.cps.size<=i⟩
theorem S5 {K:W.Frag}(hty:ty="str_ascii_iterator"\/ty="str_iterator")(it:Addr)(z:Str)(t:Tok):Turn P w K tg (Fv z) [it] it (λi h=>h.IsStrIter it ty z t i) where
 mem:=by simp
 obj:=λi h st b hb=>by
  have e:b=it:=by simpa using hb
  subst e;obtain⟨o,e,c,d⟩:=st;exact⟨o,e,λv z=>by rw[d]at z;cases z⟩
 keep:=λi h h' st k=>let⟨o,e,r⟩:=st;⟨o,k it (by simp) o e,r⟩
 item:=by
  intro X hP hw hK hc i pins s U H E I hf st hg;subst hP hw hK;obtain⟨f0,f1,f2,f3,f4,f5⟩:=hf it (by simp);have hi:=hg
  have fin:∀u h' tk,SignAt z i u->h'.IsStrIter it ty z t (i+1)->(∀b o,b∉ [it]->s.heap.get? b=some o->h'.get? b=some o)->
    ∃u',some u=some u'/\wpAny (model X.prog X.w) X.A (jg tg (.ref it) u') (λ_ s2=>∃x H',Inv X pins U H' s2/\RelV x u'/\(Fv z).fU i H x H'/\s2.heap.IsStrIter it ty z t (i+1)/\∀b∈[it],H' b=none) E {s with heap:=h',toks:=tk}:=by
   rintro u h' tk ⟨c,t',hx,rfl⟩ jS kk
   have I1:Inv X pins U H {s with heap:=h',toks:=tk}:=I.turned (λb o hb e=>kk b o (by simpa using hb) e) f0 f1 f3 f4 f5;obtain⟨o,e,cc,d⟩:=id jS;exact⟨_,rfl,zfh e cc d (by rcases hty with rfl|rfl<;>decide) ⟨.str ⟨#[c]⟩,H,I1,⟨t',rfl⟩,⟨rfl,c,hx,rfl⟩,jS,λb hb=>(hf b hb).1⟩⟩
  rcases hty with rfl|rfl
  ·exact(Walks.strAscii (I.ok.hd hc) it z t).item i s _ _ hi st λv h' tk hv jS kk=>fin v h' tk hv jS kk
  ·exact(Walks.strWide (I.ok.hd hc) it z t).item i s _ _ hi st λv h' tk hv jS kk=>fin v h' tk hv jS kk
 done:=by
  intro X hP hw hK hc i pins s U H E I hf st hg;obtain⟨f0,f1,f2,f3,f4,f5⟩:=hf it (by simp);have hi:z.cps[i]?=none:=by have:z.cps.size<=i:=hg;simpa using this
  rcases hty with rfl|rfl
  ·exact wpAny_pyNext_ascii_end (I.ok.hd hc) st hi λh' eb=>⟨rfl,I.turned (λb o hb e=>eb b o hb e) f0 f1 f3 f4 f5⟩
  ·exact wpAny_pyNext_wide_end (I.ok.hd hc) st hi λh' eb=>⟨rfl,I.turned (λb o hb e=>eb b o hb e) f0 f1 f3 f4 f5⟩
 self:=λ_ _ _ _ _ st h=>by
  rcases hty with rfl|rfl
  ·exact wpAny_pyIter_striter_ascii st h
  ·exact wpAny_pyIter_striter_wide st h
theorem zuk {J:It}{g:TG}{tc:TT}{te:TE}{Q:VK}(P:Nat->List V->Hp->Prop)(hn:n<=bc)(h0:P 0 [] (upd H1 l (.lst [])))
  (hlen:∀i acc H,P i acc H->acc.length<=i)
  (Ak:∀acc H,P n acc H->J.stop n H/\Q (.ref l) H) (S6:∀i acc H,i<n->P i acc H->J.go i H)
  (turn:∀i acc H x H3,i<n->P i acc H->J.fU i H x H3->g x σ' H3 λbM H4=>eE σ' bM/\tc bM H4 λb H5=>if b=true then te bM H5 λy H6=>H6 l=some (.lst acc)/\P (i+1) (acc++[y]) (upd H6 l (.lst (acc++[y])))else P (i+1) acc H5):
  ∃P:Nat->Nat->List V->Hp->Prop,(∃m,P 0 m [] (upd H1 l (.lst [])))/\∀i m acc H2,P i m acc H2->(J.stop i H2/\Q (.ref l) H2)\/(J.go i H2/\acc.length<bc/\∃N:List V->Hp->Prop,(∀acc' H',N acc' H'->∃m',m'<m/\P (i+1) m' acc' H')/\∀x H3,J.fU i H2 x H3->g x σ' H3 λbM H4=>eE σ' bM/\tc bM H4 λb H5=>if b=true then te bM H5 λy H6=>H6 l=some (.lst acc)/\N (acc++[y]) (upd H6 l (.lst (acc++[y])))else N acc H5):=by
 refine⟨λi m acc H=>i<=n/\m=n-i/\P i acc H,⟨n,bw _,rfl,h0⟩,?_⟩
 rintro i m acc H2 ⟨hi,rfl,p⟩
 by_cases bF:i<n
 ·have hl:=hlen i acc H2 p;exact .inr ⟨S6 i acc H2 bF p,by omega,P (i+1),λacc' H' p'=>⟨n-(i+1),by omega,bF,rfl,p'⟩,λx H3 y=>turn i acc H2 x H3 bF p y⟩
 ·have e:i=n:=by omega
  subst e;exact .inl (Ak acc H2 p)
section
variable {X:Cx}
theorem S7:OpR X (dz .Gt) (λx y H Q=>∃i j,x=.str i/\y=.str j/\Q (.bl (decide (j.cps.toList<i.cps.toList))) H):=by
 rintro pins s U H x y v u Q I rx ry ⟨i,j,rfl,rfl,q⟩
 obtain⟨t,rfl⟩:=rx;obtain⟨t',rfl⟩:=ry;exact PySem.P.gt_str ⟨.bl _,H,I,rfl,q⟩
def Al:V->Option Int->Option Int->Hp->VK->Prop:=λx lo hi H Q=>∃z,x=.str z/\z.length<=bc/\Q (.str (Txt.slice z lo hi)) H
theorem S8:pR X Al:=by
 rintro pins s U H x v vl vu lo hi sl Q I rx hs pl pu ⟨z,rfl,hz,q⟩
 obtain⟨t,rfl⟩:=rx;refine⟨"str",_,PySem.F.slot_str_getitem.lookup,xn _ _ _,?_⟩;obtain⟨o,ho,hc,hd⟩:=hs;have fin:∀t' k,EP X pins U Q (.str (Txt.slice z lo hi) t') {s with toks:=k}:=λt' k=>⟨.str _,H,I.tok _,⟨_,rfl⟩,q⟩;cases pl with
 |none=>
  cases pu with
  |none=>exact jn (l:=none) (u:=none) (st:=none) ⟨o,ho,hc,hd⟩ rfl (nr ⟨bo (Txt.slice_le z _ _) hz,fin⟩)
  |int j tj=>exact jn (l:=none) (u:=some (j,tj)) (st:=none) ⟨o,ho,hc,hd⟩ rfl (nr ⟨bo (Txt.slice_le z _ _) hz,fin⟩)
 |int i ti=>
  cases pu with
  |none=>exact jn (l:=some (i,ti)) (u:=none) (st:=none) ⟨o,ho,hc,hd⟩ rfl (nr ⟨bo (Txt.slice_le z _ _) hz,fin⟩)
  |int j tj=>exact jn (l:=some (i,ti)) (u:=some (j,tj)) (st:=none) ⟨o,ho,hc,hd⟩ rfl (nr ⟨bo (Txt.slice_le z _ _) hz,fin⟩)
theorem S9 (hc:X.calm=true):CallR X (.builtin "all") (λxs H Q=>∃(p:Addr) (bs:List Bool),xs=[.ref p]/\SqL X.K H p (bs.map V.bl)/\Q (.bl (bs.all id)) H):=by
 intro pins s U H xs us Q I r h;obtain⟨p,bs,rfl,hq,q⟩:=h;obtain⟨u,rfl,ru⟩:=vals1 r;cases ru;obtain⟨its,rv,pl,hz⟩:=I.list hq;refine call_all_walk (jz pl.isList ?_);have ne:p≠s.heap.objs.size:=by obtain⟨o,ho,_⟩:=pl.isList;exact cw (bn ho)
 have hlen:=by have:=rv.length;rw[ae]at this;exact this
 refine⟨s.heap.objs.size,_,_,_,_,_,λi=>bs.getD i true,rfl,Walks.list (A:=X.A.in1) (I.ok.hd hc) s.heap.objs.size p ne its.toArray,⟨⟨_,a8 _ rfl,rfl,rfl⟩,pl.isList.at λo e=>af _ e⟩,?_,?_⟩
 ·intro i v s' Q' E' hP hQ;have hi:its[i]?=some v:=by simpa using hP
  have hb:i<bs.length:=by rw[hlen];exact(bp.mp hi).1
  obtain⟨u',hu,ru⟩:=rv.get (by rw[az,ak hb];rfl);rw[hi]at hu;cases hu;cases ru;refine ig ?_;have e:bs.getD i true=bs[i]:=by simp[au,hb]
  have Am:Q' (bs.getD i true) s':=hQ;rw[e]at Am;exact Am
 ·intro h' tk k;refine⟨.bl (bs.all id),H,I.kept λb o e=>?_,?_,q⟩
  ·refine k b o (λz=>?_) (af _ e);have z':b=s.heap.objs.size:=by simpa using z
   exact absurd (bn e) (by rw[z'];exact cq _)
  ·have e:(fq its.toArray.size).all (fun i=>bs.getD i true)=bs.all id:=by
    rw[ax,<-hlen];apply jw.mpr;simp only[bj];constructor
    ·intro a b hb;obtain⟨i,hi,rfl⟩:=List.mem_iff_getElem.mp hb;have:=a i (oh.mpr hi);simpa[au,hi]using this
    ·intro a i hi;rw[oh]at hi;have qQ:=hi;have:=a bs[i] (d9 qQ);simpa[au,qQ]using this
   rw[e];rfl
end
def Own (K:W.Frag)(mg:Str->Option Value)(x:Str)(st:Stmt)(ps:List Str):Prop:=∃f fd,Fun K x x st f fd/\mg x=some (.ref f)/\W.keepIn K (.ref f)=true/\Binds K fd ps []
def Cal (P:cu)(w:World)(K:W.Frag)(mg:Str->Option Value)(base:Heap)(k:Nat)(x:Str)(ps:List Str)(sp:Sp):Prop:=∃f fd,FnOk P w K mg base oF k f fd ps sp/\mg x=some (.ref f)/\W.keepIn K (.ref f)=true/\Binds K fd ps []
section
variable {P:cu}{w:World}{K:W.Frag}{mg:Str->Option Value}{base:Heap}
theorem zqi {st:Stmt}{kV:Value}(X:K.In h)(G:h.Ns bz mg)
  (a:W.nsIn K bz x=some (some (.ref f))) (l:K.lookup f=some ⟨oc,od,.func (W.fnOf x x (z16 st) (z0k st) (z06 st) .none kV doc pm an cdv ct),osl⟩) (c:W.codeIn K cdv x=true) (k:W.keepIn K (.ref f)=true)
  (b:∀kV doc pm an cdv ct us,us.length=ps.length->xm (W.fnOf x x (z16 st) (z0k st) (z06 st) .none kV doc pm an cdv ct) ⟨us,[]⟩=pure (ps.zip us)):Own K mg x st ps:=
 ⟨f,_,Fh l c k,W.mg_of X G a,k,(Fh l c k).binds b⟩
end
def isStar:Expr->Bool
 |.Starred ..=>true
 |_=>false
theorem gY (h:isStar e=false):gh (e::es) env=(false,eval e env)::gh es env:=by cases e<;>first|rfl|cases h
theorem qR:∀{es:List Expr},(es.all λe=> !isStar e)=true->(ol pos (gh es env)).any (·.1)=false
 | [],_=>rfl
 |e::es,h=>by have h':=av.mp (db▸h);rw[gY (by simpa using h'.1)];show(false||(ol pos (gh es env)).any (·.1))=false;rw[qR h'.2];rfl
section
variable {X:Cx}{x:Str}{p pos:Pos}{e:Expr}{es:List Expr}{t:TA}{id T:String}{r:List V->Hp->VK->Prop}
theorem eF (ha:PE X e te)(hr:PA X es t)(hs:isStar e=false:=by rfl):PA X (e::es) (qJ te t):=EU ha hr (gY hs)
theorem An (hc:CallR X (.builtin id) r)(hm:X.mg x=none)(hv:df x=some (.builtin id))(ha:PA X (e::es) t)(hst:((e::es).all λe=> !isStar e)=true:=by rfl)(hg:Gl X x:=by rfl)(hn:x≠"__name__":=by decide)(hdb:aac x:=by decide):PE X (.Call (.Name x p) (e::es) [] pos) (oD r t):=by rw[db,bq]at hst;exact zh6 hc hg hm hv ha hn hdb (gY (by simpa using hst.1)) (qR hst.2)
theorem CW (hc:CallR X (.type T) r)(hm:X.mg x=none)(hv:df x=some (.type T))(ha:PA X (e::es) t)(hst:((e::es).all λe=> !isStar e)=true:=by rfl)(hg:Gl X x:=by rfl)(hn:x≠"__name__":=by decide)(hdb:aac x:=by decide):PE X (.Call (.Name x p) (e::es) [] pos) (oD r t):=by rw[db,bq]at hst;exact zdn hc hg hm hv ha hn hdb (gY (by simpa using hst.1)) (qR hst.2)
theorem zgh (C:Cal X.prog X.w X.K X.mg X.base k x ps sp)(hr:Room k' X.A)(ha:PA X (e::es) t)(hst:((e::es).all fun e=> !isStar e)=true:=by rfl)(hk:k<=k':=by decide)(hg:Gl X x:=by rfl)
  (hdb:aac x:=by decide):PE X (.Call (.Name x p) (e::es) [] pos) (vC sp [] E0 t):=by
 obtain⟨f,fd,F,m,kp,b⟩:=C;rw[db,bq]at hst;exact zdd F (hr.mono hk) hg m kp b .nil SI ha hdb (gY (by simpa using hst.1)) (qR hst.2)
end
def z1q:Expr->Bool
 |.ListComp ..=>true
 |.SetComp ..=>true
 |.DictComp ..=>true
 |_=>false
theorem yp (h:z1q e=false)(tg:Option Expr)(n:Nat)(env:Env):mx e tg n env=pure false:=by cases e<;>first|rfl|cases h
theorem Ao (hN:X.N.Nodup)(hi:X.N[i]?=some x)(hx:Loc X.env.scope x)(he:PE X e te)(hs:z1q e=false:=by rfl)(hf:Sto X x:=by first|exact⟨.inl rfl,nofun⟩|exact⟨.inr rfl,nofun⟩|assumption): PS X (.Assign [.Name x pos'] e pos) (jR te (qI i)):=z97 hN hi hx he (yp hs _ _ _) hf
theorem qS (he:PE X e te)(hs:z1q e=false:=by rfl):PS X (.Expr e pos) (yg te):=Rk he (yp hs _ _ _)
section
variable {X:Cx}
def Fw (K:W.Frag):R2:=λx y H Q=>oA (λi j=>.int (i+j)) x y H Q\/(∃i j,x=.str i/\y=.str j/\i.length+j.length<=bc/\Q (.str (i++j)) H)\/z9 x y H Q\/Lo K x y H Q
def vL:R2:=λx y H Q=>oA (λi j=>.bl (decide (i<j))) x y H Q\/∃i j,x=.str i/\y=.str j/\Q (.bl (decide (i.cps.toList<j.cps.toList))) H
def vM:R2:=λx y H Q=>oA (λi j=>.bl (decide (j<i))) x y H Q\/∃i j,x=.str i/\y=.str j/\Q (.bl (decide (j.cps.toList<i.cps.toList))) H
def qT (K:W.Frag)(neg:Bool):R2:=λx y H Q=>E5 K neg x y H Q\/∃i j,x=.str i/\y=.str j/\Q (.bl (if neg then !(!(jm j i 0 j.length 1).isEmpty)else !(jm j i 0 j.length 1).isEmpty)) H
def Fx (K:W.Frag):V->Option Int->Option Int->Hp->VK->Prop:=λx lo hi H Q=>z0 K x lo hi H Q\/Al x lo hi H Q
def S' (K:W.Frag):List V->Hp->VK->Prop:=λxs H Q=>(∃z,xs=[.str z]/\z.length<=bc/\Q (.int z.length) H)\/(∃p ys,xs=[.ref p]/\(SqL K H p ys\/bL K H p ys)/\Q (.int ys.length) H)
theorem Ta:OpR X (iy .Add) (Fw X.K):=Rv.or (RJ.or (SA.or Sa))
theorem Fy:OpR X (dz .Lt) vL:=RC.or RF
theorem Fz:OpR X (dz .Gt) vM:=RD.or S7
theorem FA:OpR X (dz .In) (qT X.K false):=Sn.or RG
theorem Tb:OpR X (dz .NotIn) (qT X.K true):=So.or Sq
theorem Tc:nG X (vH X.K):=Lu
theorem Td:pR X (Fx X.K):=Sk.or S8
theorem Tf:CallR X (.builtin "len") (S' X.K):=Su.or Sr
end
def vO (t T:String):Bool:=t==T||(t=="bool"&&T=="int")
def qU:List String:=["NoneType","bool","int","str","list","tuple","dict"]
def tysB:List String:=["str","int","bool","tuple","list"]
theorem Ti (K:W.Frag):∀t∈qU,∀T∈tysB,W.kitOne K (.type t) (.type T)=some (vO t T):=by intro t ht T hT;simp only[qU,ao,gg,or_false]at ht;simp only[tysB,ao,gg,or_false]at hT;rcases ht with rfl|rfl|rfl|rfl|rfl|rfl|rfl<;>rcases hT with rfl|rfl|rfl|rfl|rfl<;>kernel_rfl
section
variable {D:Ends}{U:St}{H:Hp}{Q:VK}{t u:TS}{te ta tb tc':TE}{r r':R2}{K:W.Frag}
theorem Tj (h:Q (.int (i+j)) H):Fw K (.int i) (.int j) H Q:=.inl ⟨i,j,rfl,rfl,h⟩
theorem Tn (c:i.length+j.length<=bc)(h:Q (.str (i++j)) H):Fw K (.str i) (.str j) H Q:=.inr (.inl ⟨i,j,rfl,rfl,c,h⟩)
theorem To (h:Q (.bl (decide (i<j))) H):vL (.int i) (.int j) H Q:=.inl ⟨i,j,rfl,rfl,h⟩
theorem Tq (h:Q (.bl (decide (j<i))) H):vM (.int i) (.int j) H Q:=.inl ⟨i,j,rfl,rfl,h⟩
theorem Tr (h:Q (.bl (decide (i.cps.toList<j.cps.toList))) H):vL (.str i) (.str j) H Q:=.inr ⟨i,j,rfl,rfl,h⟩
theorem Ts (h:Q (.bl (decide (j.cps.toList<i.cps.toList))) H):vM (.str i) (.str j) H Q:=.inr ⟨i,j,rfl,rfl,h⟩
end
section
variable {K:W.Frag}{H:Hp}{Q:VK}
theorem Tu (h:Q (.bl (decide (c∈z.cps.toList))) H):qT K false (.str ⟨#[c]⟩) (.str z) H Q:=.inr ⟨_,z,rfl,rfl,by rw[PySem.StrLaws.found_one z c];exact h⟩
theorem Tv (h:Q (.bl (!decide (c∈z.cps.toList))) H):qT K true (.str ⟨#[c]⟩) (.str z) H Q:=.inr ⟨_,z,rfl,rfl,by rw[congrArg Bool.not (PySem.StrLaws.found_one z c)];exact h⟩
end
section
variable {K:W.Frag}{H:Hp}{Q:VK}
theorem Same.upd (h:H p=none):Same H (L2.upd H p o):=λb u e=>by rw[aC (cQ e h)];exact e
theorem LK (h:n<=1000):n<=bc:=bo h (by rw[cz];decide)
end
end L2
namespace Mi
open PySem
abbrev D:=aq
set_option genInjectivity true in
inductive Res (α:Type) where
 |ok (a:α)|exc (e:D)|no
namespace Res
def bind {α β:Type}(x:Res α)(f:α->Res β):Res β:=match x with
 |.ok a=>f a
 |.exc e=>.exc e
 |.no=>.no
instance:Monad Res where
 pure:=.ok
 bind:=Res.bind
theorem aD {α β:Type}(a:α)(f:α->Res β):(Res.ok a>>=f)=f a:=rfl
def fO {α:Type}:Option α->Res α
 |some a=>.ok a
 |none=>.no
theorem aA {α β:Type}{x:Res α}{f:α->Res β}{b:β}(h:(x>>=f)=.ok b):∃a,x=.ok a/\f a=.ok b:=by
 cases x with
 |ok a=>exact⟨a,rfl,h⟩
 |exc e=>cases h
 |no=>cases h
end Res
mutual
def aP:aq->Bool
 |.tuple xs=>imms xs
 |.list _=>false
 |.dict _=>false
 |.none=>true
 |.bool _=>true
 |.int _=>true
 |.str _=>true
def imms:List aq->Bool
 | []=>true
 |x::xs=>aP x&&imms xs
end
theorem yq:∀{xs:List D},imms xs=true↔∀x∈xs,aP x=true
 | []=>by simp[imms]
 |x::xs=>by rw[imms,bq,yq];simp
abbrev bW:D->D->Bool:=PyData.eqv
mutual
def aN:Nat->aq->Bool
 |0,.tuple _=>false
 |0,.list _=>false
 |n+1,.tuple xs=>dQ n xs
 |n+1,.list xs=>dQ n xs
 |_,.dict _=>false
 |_,.none=>true
 |_,.bool _=>true
 |_,.int _=>true
 |_,.str _=>true
def dQ:Nat->List aq->Bool
 |_,[]=>true
 |n,x::xs=>aN n x&&dQ n xs
end
theorem kW:∀{xs:List D},dQ n xs=true↔∀x∈xs,aN n x=true
 | []=>by simp[dQ]
 |x::xs=>by rw[dQ,bq,kW];simp
def truth:aq->Bool
 |.none=>false
 |.bool b=>b
 |.int i=>!decide (i=0)
 |.str x=>!decide (x.length=0)
 |.tuple xs=>!xs.isEmpty
 |.list xs=>!xs.isEmpty
 |.dict es=>!es.isEmpty
def jU (n:Nat)(i:Int):Option Nat:=if 0<=i then(if i<n then some i.toNat else none)else if -(n:Int)<=i then some (i+n).toNat else none
def dF {α:Type}(xs:List α)(i:Int):Option α:=(jU xs.length i).bind λj=>xs[j]?
def aZ (n d:Nat):Option Int->Nat
 |none=>d
 |some v=>if v<0 then(v+(n:Int)).toNat else min v.toNat n
def cut {α:Type}(xs:List α)(lo hi:Option Int):List α:=(xs.drop (aZ xs.length 0 lo)).take (aZ xs.length xs.length hi-aZ xs.length 0 lo)
def eqK:aq->aq->Bool
 |.int a,y=>match y with|.int b=>a==b|_=>false
 |.str a,y=>match y with|.str b=>decide (a=b)|_=>false
 |_,_=>false
def lU:aq->Bool
 |.int _=>true
 |.str _=>true
 |_=>false
abbrev bK:=List (D×D)
def gD (es:bK)(k:D):Option D:=(es.find? λe=>eqK e.1 k).map (·.2)
def dput (es:bK)(k v:D):bK:=if es.any (λe=>eqK e.1 k)then es.map (λe=>if eqK e.1 k then(e.1,v)else e)else es++[(k,v)]
def ent (e:D×D):D:=.tuple [e.1,e.2]
def lV:bK->List D->Option bK
 |es,[]=>some es
 |es,p::ps=>match p with
  |.tuple [k,v]=>if lU k then lV (dput es k v) ps else none
  |_=>none
mutual
def cN:aq->aq->Bool
 |.int a,y=>match y with|.int b=>decide (a<b)|_=>false
 |.str a,y=>match y with|.str b=>decide (a.cps.toList<b.cps.toList)|_=>false
 |.tuple xs,y=>match y with|.tuple ys=>bR xs ys|_=>false
 |.none,_=>false
 |.bool _,_=>false
 |.list _,_=>false
 |.dict _,_=>false
def bR:List aq->List aq->Bool
 | [],ys=>!ys.isEmpty
 |x::xs,ys=>match ys with|y::ys=>if bW x y then bR xs ys else cN x y| []=>false
end
def iR (x:D):List D->List D
 | []=>[x]
 |y::ys=>if cN y x then y::iR x ys else x::y::ys
def z1w:List D->List D
 | []=>[]
 |x::xs=>iR x (z1w xs)
def yt:D->Bool
 |.int _=>true
 |_=>false
def CY:D->Bool
 |.str _=>true
 |_=>false
def ofK (b:Bool)(x:D):Bool:=if b then yt x else CY x
def cT:List Bool->List D->Bool
 | [],xs=>xs.isEmpty
 |b::bs,xs=>match xs with|x::xs=>ofK b x&&cT bs xs| []=>false
def zad (bs:List Bool):D->Bool
 |.tuple xs=>cT bs xs
 |_=>false
def pS (xs:List D):Bool:=xs.all yt||xs.all CY||(match xs with|.tuple ys::_=>!ys.isEmpty&&xs.all (zad (ys.map yt))|_=>false)
def FC (xs:List D):Bool:=pS xs||false
section
inductive G where
 |fr|od|al|nu
 deriving Inhabited,DecidableEq
abbrev Rho:=List (Option (G×D))
abbrev GD:=G×D
inductive Tg where
 |nm (i:Nat)|tp (is:List Nat)
 deriving Inhabited,DecidableEq
inductive C where
 |var (i:Nat)|bD|bl (b:Bool)|int (i:Int)|str (x:Str)|glob (k:Nat) (x:Str)|bin (op:sr) (a b:C)|cmp (op:CmpOp) (a b:C)|and (a b:C)|or (a b:C)|not (a:C)|oJ (c a b:C)|tup (xs:C)|lst (xs:C)|jX|ix (a b:C)|sl (a lo hi:C)|call (k:Nat) (f:Str) (args:C)|bi (f:String) (args:C)|iF (f:String) (a:C)|vO (a:C) (ts:List String)|mt (m:String) (o args:C)|comp (nt:Nat) (js:List Nat) (N':List Str) (tg:Tg) (it cond elt:C)|sortI (i:Nat)|jY (args:C)|enum (a:C)|zip (a b:C)|tv (a:C)|vP (b:Bool) (x:Str)|nil|cons (a r:C)
 deriving Inhabited
inductive S where
 |nil|seq (a b:S)|bad|asg (t:Tg) (e:C)|eP (i:Nat) (k v:C)|mut (m:String) (i:Nat) (args:C)|drop (e:C)|ret (e:C)|bI (c:C) (a b:S)|bA (t:Tg) (it:C) (b:S)
 deriving Inhabited
inductive Out where
 |nx (Y:Rho)|rt (g:G) (d:D)
abbrev Fn:=List D->Res GD
def bJ:Nat:=1000000
def LL:G->G
 |.fr=>.al
 |.od=>.od
 |.al=>.al
 |.nu=>.nu
def CZ:Option (Option GD)->Res GD
 |some (some (g,d))=>.ok (if aP d then .fr else LL g,d)
 |_=>.no
def kY:D->Res Bool
 |.str x=>if x.length<=bJ then .ok (!decide (x.length=0))else .no
 |d=>.ok (truth d)
def kZ:G->G
 |.fr=>.fr
 |.od=>.al
 |.al=>.al
 |.nu=>.fr
def agG:G->G
 |.fr=>.fr
 |.od=>.al
 |.al=>.al
 |.nu=>.nu
def gJ (d:D)(g:G):G:=if aP d then .fr else g
def gN (d:D)(g:G):G:=match d with
 |.list xs=>if imms xs then .fr else g
 |d=>gJ d g
def cU (xs:List GD):G:=if xs.all (λx=>x.1==.fr)then .fr else if xs.all (λx=>x.1==.fr||x.1==.nu)then .nu else .al
def tK (xs:List GD):G:=if xs.all (λx=>x.1==.fr)then .fr else .al
def okIn (x:GD):Bool:=aP x.2||(x.1==.fr||x.1==.nu)
def cA (es:bK):Bool:=es.all λe=>aP e.2
def z1u:GD->GD
 |(g,d)=>if aP d then(.al,d)else match g,d with
  |.fr,.list xs=>(if imms xs then .fr else .nu,.list xs)
  |.fr,.dict es=>(if cA es then .fr else .nu,.dict es)
  |.fr,d=>(.nu,d)
  |.nu,d=>(.nu,d)
  |.od,d=>(.od,d)
  |.al,d=>(.al,d)
def z1l:GD->GD
 |(g,d)=>match g with|.od=>(.od,d)|_=>(.al,d)
def cV:Option GD->Option GD
 |some (.fr,d)=>some (.al,d)
 |some (.nu,d)=>some (.al,d)
 |s=>s
def jI:Option GD->Option GD
 |some (.al,d)=>if aP d then some (.al,d)else none
 |s=>s
def tL:Rho->List Nat->List D->G->Option Rho
 |Y,[],[],_=>some Y
 |Y,i::is,d::ds,g=>tL (Y.set i (some (z1l (gJ d g,d)))) is ds g
 |_,_,_,_=>none
def eG:Tg->GD->Rho->Res Rho
 |.nm i,x,Y=>.ok (Y.set i (some (z1l x)))
 |.tp is,(g,.tuple ds),Y=>Res.fO (tL Y is ds g)
 |.tp is,(g,.list ds),Y=>Res.fO (tL Y is ds g)
 |_,_,_=>.no
def FD:D->Res D
 |.str x=>if x.length<=bJ then .ok (.int x.length)else .no
 |.tuple xs=>.ok (.int xs.length)
 |.list xs=>.ok (.int xs.length)
 |.dict es=>.ok (.int es.length)
 |_=>.no
def qV {α:Type}(n:Nat)(xs:List α):List α:=(bv n xs).flatten
def cW:sr->D->D->Res D
 |.Add,.int a,.int b=>.ok (.int (a+b))
 |.Add,.str a,.str b=>if a.length+b.length<=bJ then .ok (.str (a++b))else .no
 |.Add,.list a,.list b=>if a.length+b.length<=bJ then .ok (.list (a++b))else .no
 |.Add,.tuple a,.tuple b=>if a.length+b.length<=bJ then .ok (.tuple (a++b))else .no
 |.Sub,.int a,.int b=>.ok (.int (a-b))
 |.Mult,.str a,.int n=>if 0<=n/\n<=bJ/\a.length*n.toNat<=bJ then .ok (.str ⟨(qV n.toNat a.cps.toList).toArray⟩)else .no
 |.Mult,.int a,.int b=>if(-(2 ^ 64)<a/\a<2 ^ 64)\/(-(2 ^ 64)<b/\b<2 ^ 64)then .ok (.int (a*b))else .no
 |.FloorDiv,.int a,.int b=>if 0<b/\b<2 ^ 200 then .ok (.int (a/b))else .no
 |.Mod,.int a,.int b=>if 0<b then .ok (.int (a%b))else .no
 |.Pow,.int a,.int b=>if 0<=b/\b<=1000/\a.natAbs<2 ^ 64 then .ok (.int (a ^ b.toNat))else .no
 |_,_,_=>.no
def inD (x:D):D->Res Bool
 |.list xs=>if aN 40 x&&dQ 40 xs then .ok (xs.any λy=>bW y x)else .no
 |.tuple xs=>if aN 40 x&&dQ 40 xs then .ok (xs.any λy=>bW y x)else .no
 |.dict es=>if lU x then .ok (gD es x).isSome else .no
 |.str z=>match x with
  |.str w=>(match w.cps.toList with| [c]=>.ok (decide (c∈z.cps.toList))|_=>.no)
  |_=>.no
 |_=>.no
def cmpD:CmpOp->D->D->Res Bool
 |.Eq,x,y=>if aN 40 x&&aN 40 y then .ok (bW x y)else .no
 |.NotEq,x,y=>if aN 40 x&&aN 40 y then .ok (!bW x y)else .no
 |.Lt,.int a,.int b=>.ok (decide (a<b))
 |.Gt,.int a,.int b=>.ok (decide (b<a))
 |.GtE,.int a,.int b=>.ok (decide (b<=a))
 |.Lt,.str a,.str b=>.ok (decide (a.cps.toList<b.cps.toList))
 |.Gt,.str a,.str b=>.ok (decide (b.cps.toList<a.cps.toList))
 |.In,x,y=>inD x y
 |.NotIn,x,y=>inD x y>>=λb=>.ok (!b)
 |_,_,_=>.no
def fC:D->D->Res D
 |.list xs,.int i=>Res.fO (dF xs i)
 |.tuple xs,.int i=>Res.fO (dF xs i)
 |.str z,.int i=>if z.length<=bJ then Res.fO ((dF z.cps.toList i).map λc=>.str ⟨#[c]⟩)else .no
 |.dict es,k=>if lU k then Res.fO (gD es k)else .no
 |_,_=>.no
def vQ (z:Str)(lo hi:Option Int):Str:=⟨(cut z.cps.toList lo hi).toArray⟩
def FE:D->Option Int->Option Int->Res D
 |.list xs,lo,hi=>.ok (.list (cut xs lo hi))
 |.tuple xs,lo,hi=>if aZ xs.length 0 lo=0/\aZ xs.length xs.length hi=xs.length then .no else .ok (.tuple (cut xs lo hi))
 |.str z,lo,hi=>if z.length<=bJ then .ok (.str (vQ z lo hi))else .no
 |_,_,_=>.no
def Ap:D->Res (Option Int)
 |.int i=>.ok (some i)
 |_=>.no
def z4s:D->Res (List D)
 |.list xs=>.ok xs
 |.tuple xs=>.ok xs
 |.str z=>if z.length<=bJ then .ok (z.cps.toList.map λc=>.str ⟨#[c]⟩)else .no
 |_=>.no
def allB:List D->Option (List Bool)
 | []=>some []
 |.bool b::r=>(allB r).map (b:: ·)
 |_=>none
def Aq:List D->Option (List Str)
 | []=>some []
 |.str b::r=>(Aq r).map (b:: ·)
 |_=>none
def z4v:D->Res (Bool×List D)
 |.list xs=>.ok (true,xs)
 |.tuple xs=>.ok (false,xs)
 |_=>.no
def aggD (f:String)(l:Bool)(xs:List D):Res D:=
 if f="list"then .ok (.list xs)
 else if f="tuple"then .ok (.tuple xs)
 else if f="sorted"then(if(l||imms xs)&&FC xs&&decide (xs.length<64)then .ok (.list (z1w xs))else .no)
 else if f="all"then(if l then Res.fO ((allB xs).map λbs=>.bool (bs.all id))else .no)
 else if f="any"then(if l then Res.fO ((allB xs).map λbs=>.bool (bs.any id))else .no)
 else if f="dict"then Res.fO ((lV [] xs).map .dict)
 else .no
def vR (l:List Nat):Bool:=!l.isEmpty&&l.all λc=>decide (48<=c)&&decide (c<=57)
def Ar (l:List Nat):Nat:=l.foldl (λn c=>n*10+(c-48)) 0
def As (x:Str):Res D:=if vR x.cps.toList&&decide (x.length<=600)then .ok (.int (Ar x.cps.toList:Int))else .no
def Au (y:Str):Option Nat:=match y.cps.toList with
 | [c]=>some c
 |_=>none
def toS (l:List Nat):Str:=⟨l.toArray⟩
def FF (x y:Str):Res D:=match Au y with
 |some c=>if decide (x.length<=bJ)then .ok (.tuple [.str (toS (x.cps.toList.takeWhile (· != c))),.str (if x.cps.toList.contains c then y else ""),.str (toS ((x.cps.toList.dropWhile (· != c)).drop 1))])else .no
 |none=>.no
def FG (x y:Str):Res D:=match Au y with
 |some c=>.ok (.int (match x.cps.toList.findIdx? (· ==c)with|some i=>(i:Int)|none=>-1))
 |none=>.no
def nH (f:String)(xs:List D):Res D:=
 if f="len"then(match xs with| [x]=>FD x|_=>.no)
 else if f="max"then(match xs with| [.int a,.int b]=>.ok (.int (max a b))|_=>.no)
 else if f="int"then(match xs with| [.int a]=>.ok (.int a)| [.bool b]=>.ok (.int (if b then 1 else 0))| [.str x]=>As x|_=>.no)
 else .no
def lW:D->String
 |.none=>"NoneType"|.bool _=>"bool"|.int _=>"int"|.str _=>"str"|.tuple _=>"tuple"|.list _=>"list"|.dict _=>"dict"
def qW (t T:String):Bool:=t==T||(t=="bool"&&T=="int")
def Tw (sep:List Nat):List Str->List Nat
 | []=>[]
 |x::r=>x.cps.toList++(r.map λp=>sep++p.cps.toList).flatten
def Tz (sep:Str)(xs:List Str):Str:=⟨(Tw sep.cps.toList xs).toArray⟩
def TB (sep:Str)(xs:List Str):Nat:=(xs.map (·.length)).sum+xs.length*sep.length
def mtD (m:String)(o:D)(xs:List D):Res D:=
 if m="get"then(match o,xs with|.dict es,[k,d]=>if lU k then .ok ((gD es k).getD d)else .no|_,_=>.no)
 else if m="join"then(match o,xs with|.str z,[.list ys]=>(match Aq ys with|some ss=>if TB z ss<=bJ then .ok (.str (Tz z ss))else .no|none=>.no)|_,_=>.no)
 else if m="partition"then(match o,xs with|.str x,[.str y]=>FF x y|_,_=>.no)
 else if m="find"then(match o,xs with|.str x,[.str y]=>FG x y|_,_=>.no)
 else .no
def lX:List D->Res (List D)
 | [.int n]=>if n<=bJ/\-bJ<=n then .ok ((fq n.toNat).map λ(i:Nat)=>.int i)else .no
 |_=>.no
def z24:Nat->List D->List D
 |_,[]=>[]
 |i,x::xs=>.tuple [.int i,x]::z24 (i+1) xs
def zipD:List D->List D->List D
 |x::xs,y::ys=>.tuple [x,y]::zipD xs ys
 |_,_=>[]
def seqR:D->Res (List D)
 |.list xs=>if decide (xs.length<=bJ)then .ok xs else .no
 |.tuple xs=>if decide (xs.length<=bJ)then .ok xs else .no
 |_=>.no
def oc:Option GD->List GD->List GD
 |some y,r=>y::r
 |none,r=>r
def lY (f:D->Res (Option GD)):List D->Res (List GD)
 | []=>.ok []
 |x::xs=>f x>>=λo=>lY f xs>>=λr=>.ok (oc o r)
variable (Κ:List D)(Φ:List Fn)
mutual
def aG:C->Rho->Res GD
 |.var i,Y=>CZ Y[i]?
 |.bD,_=>.ok (.fr,.none)
 |.bl b,_=>.ok (.fr,.bool b)
 |.int i,_=>.ok (.fr,.int i)
 |.str x,_=>.ok (.fr,.str x)
 |.vP b _,_=>.ok (.fr,.bool b)
 |.glob k _,_=>match Κ[k]? with|some d=>if aP d then .ok (.fr,d)else .no|none=>.no
 |.bin op a b,Y=>aG a Y>>=λx=>aG b Y>>=λy=>cW op x.2 y.2>>=λd=>.ok (gN d (cU [x,y]),d)
 |.cmp op a b,Y=>aG a Y>>=λx=>aG b Y>>=λy=>cmpD op x.2 y.2>>=λb=>.ok (.fr,.bool b)
 |.and a b,Y=>aG a Y>>=λx=>match x.2 with|.bool c=>if c then aG b Y else .ok (.fr,.bool false)|_=>.no
 |.or a b,Y=>aG a Y>>=λx=>match x.2 with|.bool c=>if c then .ok (.fr,.bool true)else aG b Y|_=>.no
 |.not a,Y=>aG a Y>>=λx=>kY x.2>>=λc=>.ok (.fr,.bool (!c))
 |.oJ c a b,Y=>eQ c Y>>=λk=>if k then aG a Y else aG b Y
 |.tup xs,Y=>dY xs Y>>=λys=>.ok (gJ (.tuple (ys.map (·.2))) (cU ys),.tuple (ys.map (·.2)))
 |.lst xs,Y=>dY xs Y>>=λys=>.ok (cU ys,.list (ys.map (·.2)))
 |.jX,_=>.ok (.fr,.dict [])
 |.ix a b,Y=>aG a Y>>=λx=>aG b Y>>=λy=>fC x.2 y.2>>=λd=>.ok (gJ d x.1,d)
 |.sl a lo hi,Y=>aG a Y>>=λx=>FH lo Y>>=λl=>FH hi Y>>=λh=>FE x.2 l h>>=λd=>.ok (gN d (cU [x]),d)
 |.call k _ args,Y=>dY args Y>>=λys=>match Φ[k]? with|some m=>m (ys.map (·.2))>>=λr=>.ok (gJ r.2 (kZ r.1),r.2)|none=>.no
 |.bi f args,Y=>dY args Y>>=λys=>nH f (ys.map (·.2))>>=λd=>.ok (gJ d .al,d)
 |.iF f a,Y=>FI a Y>>=λw=>aggD f w.2.1 w.2.2>>=λd=>.ok (gJ d (if imms w.2.2 then .fr else agG w.1),d)
 |.vO a ts,Y=>aG a Y>>=λx=>.ok (.fr,.bool (ts.any λT=>qW (lW x.2) T))
 |.mt m o args,Y=>aG o Y>>=λx=>dY args Y>>=λys=>mtD m x.2 (ys.map (·.2))>>=λd=>.ok (gJ d .al,d)
 |.sortI i,Y=>match Y[i]? with
  |some (some (_,.dict es))=>if cA es&&pS (es.map ent)&&decide (es.length<64)then .ok (.fr,.list (z1w (es.map ent)))else .no
  |_=>.no
 |.comp nt js _ tg it cond elt,Y=>evW it Y>>=λw=>lY (λx=>eG tg (gJ x w.1,x) (bv nt none++js.map λj=>cV (Y.getD j none))>>=λρ1=>eQ cond ρ1>>=λk=>if k then aG elt ρ1>>=λy=>.ok (some y)else .ok none) w.2>>=λys=>.ok (tK ys,.list (ys.map (·.2)))
 |_,_=>.no
def eQ:C->Rho->Res Bool
 |.and a b,Y=>eQ a Y>>=λc=>if c then eQ b Y else .ok false
 |.or a b,Y=>eQ a Y>>=λc=>if c then .ok true else eQ b Y
 |.not a,Y=>eQ a Y>>=λc=>.ok (!c)
 |.nil,_=>.ok true
 |.tv a,Y=>aG a Y>>=λx=>kY x.2
 |_,_=>.no
def dY:C->Rho->Res (List GD)
 |.nil,_=>.ok []
 |.cons a r,Y=>aG a Y>>=λx=>dY r Y>>=λxs=>.ok (x::xs)
 |_,_=>.no
def FH:C->Rho->Res (Option Int)
 |.nil,_=>.ok none
 |.tv a,Y=>aG a Y>>=λx=>Ap x.2
 |_,_=>.no
def FI:C->Rho->Res (G×Bool×List D)
 |.tv a,Y=>aG a Y>>=λx=>z4v x.2>>=λp=>.ok (x.1,p)
 |_,_=>.no
def evW:C->Rho->Res (G×List D)
 |.jY args,Y=>dY args Y>>=λys=>lX (ys.map (·.2))>>=λxs=>.ok (.fr,xs)
 |.tv a,Y=>aG a Y>>=λx=>z4s x.2>>=λxs=>.ok (x.1,xs)
 |.enum a,Y=>aG a Y>>=λx=>seqR x.2>>=λxs=>.ok (.al,z24 0 xs)
 |.zip a b,Y=>aG a Y>>=λx=>aG b Y>>=λy=>seqR x.2>>=λxs=>seqR y.2>>=λys=>.ok (.al,zipD xs ys)
 |_,_=>.no
end
def qX:Res Out->(Rho->Res Out)->Res Out
 |.ok (.nx Y),k=>k Y
 |r,_=>r
def dD (f:D->Rho->Res Out):List D->Rho->Res Out
 | [],Y=>.ok (.nx Y)
 |x::xs,Y=>match f x Y with
  |.ok (.nx aO)=>dD f xs aO
  |.ok (.rt g d)=>.ok (.rt g d)
  |.exc e=>.exc e
  |.no=>.no
def putAt (xs:List D)(ys:List GD):Res (List D):=match ys with
 | [x,y]=>(match x.2 with
  |.int i=>if okIn y&&decide (xs.length<bJ)&&decide (0<=i)&&decide (i<=xs.length)then .ok (xs.take i.toNat++y.2::xs.drop i.toNat)else .no
  |_=>.no)
 |_=>.no
def oK (m:String)(xs:List D)(ys:List GD):Res (List D):=
 if m="append"then(match ys with| [y]=>if okIn y&&decide (xs.length<bJ)then .ok (xs++[y.2])else .no|_=>.no)
 else .no
def lZ (Y:Rho)(i:Nat):Bool:=match Y[i]? with
 |some (some (.fr,_))=>true
 |_=>false
def C0 (i:Nat)(Y:Rho):Res (G×List D×Rho):=match Y[i]? with
 |some (some (.fr,d))=>z4s d>>=λxs=>.ok (.al,xs,Y.set i (some (.al,d)))
 |_=>.no
def FJ:Option GD->Option GD
 |some (.fr,.list xs)=>some (.al,.list xs)
 |s=>s
def oM (x:GD)(Y:Rho):Res (G×List D×Rho):=match x.2 with
 |.list xs=>if imms xs then .ok (.al,xs,Y.map FJ)else .no
 |_=>.no
def tM (x:GD):Bool:=match x.2 with
 |.list _=>!(x.1==.al)
 |d=>!(x.1==.al)||aP d
def qY (ys:List GD)(Y:Rho):Res (G×List D×Rho):=match ys with
 | [x]=>if tM x then seqR x.2>>=λxs=>.ok (.al,z24 0 xs,Y)else .no
 |_=>.no
def qZ (ys:List GD)(Y:Rho):Res (G×List D×Rho):=match ys with
 | [x,y]=>if tM x&&tM y then seqR x.2>>=λxs=>seqR y.2>>=λzs=>.ok (.al,zipD xs zs,Y)else .no
 |_=>.no
def iS (it:C)(Y:Rho):Bool:=match evW Κ Φ it Y with
 |.ok w=>w.1==.al
 |_=>false
def pT (it:C)(Y:Rho):Res (G×List D×Rho):=evW Κ Φ it Y>>=λw=>if w.1==.al then .no else .ok (w.1,w.2,Y)
def evF (it:C)(Y:Rho):Res (G×List D×Rho):=match it with
 |.tv (.var i)=>if lZ Y i then C0 i Y else if iS Κ Φ it Y then aG Κ Φ (.var i) Y>>=λx=>oM x Y else pT Κ Φ it Y
 |.tv a=>if iS Κ Φ it Y then aG Κ Φ a Y>>=λx=>oM x Y else pT Κ Φ it Y
 |.enum a=>dY Κ Φ (.cons a .nil) Y>>=λys=>qY ys Y
 |.zip a b=>dY Κ Φ (.cons a (.cons b .nil)) Y>>=λys=>qZ ys Y
 |it=>pT Κ Φ it Y
def excOf:Res GD->Option Str
 |.exc (.str c)=>some c
 |_=>none
mutual
def Aw:aq->aq->Bool
 |.list xs,y=>match y with|.list ys=>LM xs ys|_=>false
 |.tuple _,y=>match y with|.list _=>false|_=>true
 |.dict _,y=>match y with|.list _=>false|_=>true
 |.none,y=>match y with|.list _=>false|_=>true
 |.bool _,y=>match y with|.list _=>false|_=>true
 |.int _,y=>match y with|.list _=>false|_=>true
 |.str _,y=>match y with|.list _=>false|_=>true
def LM:List aq->List aq->Bool
 | [],ys=>ys.isEmpty
 |x::xs,ys=>match ys with|y::ys=>Aw x y&&LM xs ys| []=>false
end
mutual
def apart (z:D):aq->Bool
 |.tuple xs=>FK z xs
 |.list xs=>!(Aw (.list xs) z)&&FK z xs
 |.dict _=>false
 |.none=>true
 |.bool _=>true
 |.int _=>true
 |.str _=>true
def FK (z:D):List aq->Bool
 | []=>true
 |x::xs=>apart z x&&FK z xs
end
def aX:S->Rho->Res Out
 |.nil,Y=>.ok (.nx Y)
 |.seq a b,Y=>qX (aX a Y) (aX b)
 |.bad,_=>.no
 |.asg (.nm i) e,Y=>aG Κ Φ e Y>>=λx=>.ok (.nx (Y.set i (some (z1u x))))
 |.asg t e,Y=>aG Κ Φ e Y>>=λx=>eG t x Y>>=λaO=>.ok (.nx aO)
 |.eP i k v,Y=>aG Κ Φ v Y>>=λy=>aG Κ Φ k Y>>=λx=>match Y[i]? with
  |some (some (.fr,.dict es))=>if lU x.2&&okIn y&&decide (es.length<bJ)then .ok (.nx ((Y.set i (some (.fr,.dict (dput es x.2 y.2)))).map jI))else .no
  |some (some (.fr,.list xs))=>(match x.2 with
   |.int j=>if okIn y then(match jU xs.length j with|some n=>.ok (.nx ((Y.set i (some (.fr,.list (xs.set n y.2)))).map jI))|none=>.no)else .no
   |_=>.no)
  |_=>.no
 |.mut m i args,Y=>dY Κ Φ args Y>>=λys=>match Y[i]? with
  |some (some (.fr,.list xs))=>oK m xs ys>>=λtN=>.ok (.nx ((Y.set i (some (.fr,.list tN))).map jI))
  |_=>.no
 |.drop e,Y=>aG Κ Φ e Y>>=λ_=>.ok (.nx Y)
 |.ret e,Y=>match e with
  |.var i=>match Y[i]? with
   |some (some (g,d))=>.ok (.rt (if aP d then .fr else kZ g) d)
   |_=>.no
  |e=>aG Κ Φ e Y>>=λx=>.ok (.rt (kZ x.1) x.2)
 |.bI c a b,Y=>eQ Κ Φ c Y>>=λk=>if k then aX a Y else aX b Y
 |.bA t it b,Y=>evF Κ Φ it Y>>=λw=>dD (λx ρ1=>eG t (gJ x w.1,x) ρ1>>=λcF=>aX b cF) w.2.1 w.2.2
def TC (Κ:List D)(Φ:List Fn)(_:S)(_:Rho):Option Str:=none
def aL (n:Nat)(s:S)(ds:List D):Res GD:=match aX Κ Φ s (ds.map (λd=>some (.od,d))++bv (n-ds.length) none)with
 |.ok (.nx _)=>.ok (.fr,.none)
 |.ok (.rt g d)=>.ok (g,d)
 |_=>match TC Κ Φ s (ds.map (λd=>some (.od,d))++bv (n-ds.length) none)with
  |some c=>.exc (.str c)
  |none=>.no
end
open PySem.Spec PyProof.Rows L2
def kD:Key->D
 |.inl i=>.int i
 |.inr x=>.str x
def keyOk:Key->Prop
 |.inl _=>True
 |.inr x=>PyData.strOk x=true
def KL (K:W.Frag)(a:Addr)(xs:List V):Prop:=∃(o:Obj) (its:Array Value) (n:Nat),K.lookup a=some o/\o.cls=.type "list"/\o.dict=none/\o.data=.seq its n/\its.size<=bc/\Vals xs its.toList
abbrev Ad:=Option Addr
def FL (K:W.Frag)(H:Hp)(a:Addr)(xs:List V):Prop:=(∃o,H a=some (.gO o (.lst xs)))\/KL K a xs
def nw (H:Hp):Ad->Prop
 |some a=>H a=none
 |none=>False
section
variable (K:W.Frag)(H:Hp)(B:Ad->Prop)
mutual
def Rep:V->aq->Prop
 |v,.none=>v=.bD
 |v,.bool b=>v=.bl b
 |v,.int i=>v=.int i
 |v,.str x=>v=.str x/\PyData.strOk x=true
 |v,.tuple ds=>∃a vs,v=.ref a/\bL K H a vs/\Reps vs ds
 |v,.list ds=>∃a vs,v=.ref a/\((H a=some (.lst vs)/\B (some a))\/(FL K H a vs/\B none))/\Reps vs ds
 |v,.dict es=>∃a kvs,v=.ref a/\H a=some (.dK kvs)/\B (some a)/\bC kvs es
def Reps:List V->List aq->Prop
 |vs,[]=>vs=[]
 |vs,d::ds=>∃v r,vs=v::r/\Rep v d/\Reps r ds
def bC:List (Key×V)->List (aq×aq)->Prop
 |kvs,[]=>kvs=[]
 |kvs,(kd,d)::es=>∃k v r,kvs=(k,v)::r/\kd=kD k/\keyOk k/\Rep v d/\bC r es
end
end
def Fix:HO->Prop
 |.tup _=>True
 |.gO _ (.lst _)=>True
 |.gO _ (.tup _)=>True
 |_=>False
section
variable {K:W.Frag}{H H':Hp}{B B':Ad->Prop}
theorem FL.keep (hH:∀a o,H a=some o->(B (some a)\/Fix o)->H' a=some o)(r:FL K H a vs):FL K H' a vs:=by
 rcases r with⟨o,r⟩|r
 ·exact .inl ⟨o,hH a _ r (.inr True.intro)⟩
 ·exact .inr r
theorem _root_.L2.bL.keep (hH:∀a o,H a=some o->(B (some a)\/Fix o)->H' a=some o)(r:bL K H a vs):bL K H' a vs:=by
 rcases r with(r|⟨o,r⟩)|r
 ·exact .inl (.inl (hH a _ r (.inr True.intro)))
 ·exact .inl (.inr ⟨o,hH a _ r (.inr True.intro)⟩)
 ·exact .inr r
mutual
theorem Rep.keep (hH:∀a o,H a=some o->(B (some a)\/Fix o)->H' a=some o)(hB:∀a,B a->B' a):∀{v:V} (d:aq),Rep K H B v d->Rep K H' B' v d
 |v,.none,r=>r
 |v,.bool b,r=>r
 |v,.int i,r=>r
 |v,.str x,r=>r
 |v,.tuple ds,r=>by obtain⟨a,vs,e,h,q⟩:=r;exact⟨a,vs,e,h.keep hH,Reps.keep hH hB ds q⟩
 |v,.list ds,r=>by
  obtain⟨a,vs,e,h,q⟩:=r;refine⟨a,vs,e,?_,Reps.keep hH hB ds q⟩;rcases h with⟨h,b⟩|h
  ·exact .inl ⟨hH a _ h (.inl b),hB _ b⟩
  ·exact .inr ⟨FL.keep hH h.1,hB _ h.2⟩
 |v,.dict es,r=>by obtain⟨a,kvs,e,h,b,q⟩:=r;exact⟨a,kvs,e,hH a _ h (.inl b),hB _ b,bC.keep hH hB es q⟩
theorem Reps.keep (hH:∀a o,H a=some o->(B (some a)\/Fix o)->H' a=some o)(hB:∀a,B a->B' a):∀{vs:List V} (ds:List aq),Reps K H B vs ds->Reps K H' B' vs ds
 |vs,[],r=>r
 |vs,d::ds,r=>by obtain⟨v,t,e,h,q⟩:=r;exact⟨v,t,e,Rep.keep hH hB d h,Reps.keep hH hB ds q⟩
theorem bC.keep (hH:∀a o,H a=some o->(B (some a)\/Fix o)->H' a=some o)(hB:∀a,B a->B' a):∀{kvs:List (Key×V)} (es:List (aq×aq)),bC K H B kvs es->bC K H' B' kvs es
 |kvs,[],r=>r
 |kvs,(kd,d)::es,r=>by obtain⟨k,v,t,e,e2,ok,h,q⟩:=r;exact⟨k,v,t,e,e2,ok,Rep.keep hH hB d h,bC.keep hH hB es q⟩
end
theorem Rep.same (s:Same H H')(hB:∀a,B a->B' a)(r:Rep K H B v d):Rep K H' B' v d:=Rep.keep (λa o e _=>s a o e) hB d r
theorem Reps.same (s:Same H H')(hB:∀a,B a->B' a)(r:Reps K H B vs ds):Reps K H' B' vs ds:=Reps.keep (λa o e _=>s a o e) hB ds r
theorem bC.same (s:Same H H')(hB:∀a,B a->B' a)(r:bC K H B vs ds):bC K H' B' vs ds:=bC.keep (λa o e _=>s a o e) hB ds r
theorem Rep.weak (hB:∀a,B a->B' a)(r:Rep K H B v d):Rep K H B' v d:=r.same (λ_ _ e=>e) hB
theorem Reps.weak (hB:∀a,B a->B' a)(r:Reps K H B v d):Reps K H B' v d:=r.same (λ_ _ e=>e) hB
mutual
theorem Rep.bB:∀{v:V} (d:aq),aP d=true->Rep K H B v d->Rep K H B' v d
 |v,.none,_,r=>r
 |v,.bool b,_,r=>r
 |v,.int i,_,r=>r
 |v,.str x,_,r=>r
 |v,.tuple ds,i,r=>by obtain⟨a,vs,e,h,q⟩:=r;exact⟨a,vs,e,h,Reps.bB ds (i) q⟩
 |v,.list ds,i,r=>by cases(show false=true from i)
 |v,.dict es,i,r=>by cases(show false=true from i)
theorem Reps.bB:∀{vs:List V} (ds:List aq),imms ds=true->Reps K H B vs ds->Reps K H B' vs ds
 |vs,[],_,r=>r
 |vs,d::ds,i,r=>by have i:=av.mp (show(aP d&&imms ds)=true from i);obtain⟨v,t,e,h,q⟩:=r;exact⟨v,t,e,Rep.bB d i.1 h,Reps.bB ds i.2 q⟩
end
mutual
theorem Rep.mD (hH:∀a o,H a=some o->Fix o->H' a=some o):∀{v:V} (d:aq),aP d=true->Rep K H B v d->Rep K H' B' v d
 |v,.none,_,r=>r
 |v,.bool b,_,r=>r
 |v,.int i,_,r=>r
 |v,.str x,_,r=>r
 |v,.tuple ds,i,r=>by obtain⟨a,vs,e,h,q⟩:=r;exact⟨a,vs,e,h.keep (B:=λ_=>False) (λa o e f=>hH a o e (f.resolve_left id)),Reps.mD hH ds (i) q⟩
 |v,.list ds,i,r=>by cases(show false=true from i)
 |v,.dict es,i,r=>by cases(show false=true from i)
theorem Reps.mD (hH:∀a o,H a=some o->Fix o->H' a=some o):∀{vs:List V} (ds:List aq),imms ds=true->Reps K H B vs ds->Reps K H' B' vs ds
 |vs,[],_,r=>r
 |vs,d::ds,i,r=>by have i:=av.mp (show(aP d&&imms ds)=true from i);obtain⟨v,t,e,h,q⟩:=r;exact⟨v,t,e,Rep.mD hH d i.1 h,Reps.mD hH ds i.2 q⟩
end
theorem Reps.length:∀{vs:List V} {ds:List D},Reps K H B vs ds->vs.length=ds.length
 |vs,[],r=>by have e:vs=[]:=r;subst e;rfl
 |vs,d::ds,r=>by obtain⟨v,t,rfl,h,q⟩:=r;rw[bt,bt,q.length]
theorem Reps.get:∀{vs:List V} {ds:List D} {i:Nat} {d:D},Reps K H B vs ds->ds[i]?=some d->∃v,vs[i]?=some v/\Rep K H B v d
 |vs,[],i,d,r,e=>by simp at e
 |vs,d0::ds,0,d,r,e=>by
  obtain⟨v,t,rfl,h,q⟩:=r;have:d0=d:=by simpa using e
  subst this;exact⟨v,rfl,h⟩
 |vs,d0::ds,i+1,d,r,e=>by obtain⟨v,t,rfl,h,q⟩:=r;obtain⟨u,h1,h2⟩:=q.get (by simpa using e);exact⟨u,by simpa using h1,h2⟩
theorem Reps.gZ:∀{vs:List V} {ds:List D} {i:Nat} {v:V},Reps K H B vs ds->vs[i]?=some v->∃d,ds[i]?=some d/\Rep K H B v d
 |vs,[],i,v,r,e=>by have e1:vs=[]:=r;subst e1;simp at e
 |vs,d0::ds,0,v,r,e=>by
  obtain⟨u,t,rfl,h,q⟩:=r;have:u=v:=by simpa using e
  subst this;exact⟨d0,rfl,h⟩
 |vs,d0::ds,i+1,v,r,e=>by obtain⟨u,t,rfl,h,q⟩:=r;obtain⟨d,h1,h2⟩:=q.gZ (by simpa using e);exact⟨d,by simpa using h1,h2⟩
theorem Reps.cons {v:V}{d:D}{vs:List V}{ds:List D}(h:Rep K H B v d)(r:Reps K H B vs ds):Reps K H B (v::vs) (d::ds):=⟨v,vs,rfl,h,r⟩
theorem Reps.append:∀{vs ws:List V} {ds es:List D},Reps K H B vs ds->Reps K H B ws es->Reps K H B (vs++ws) (ds++es)
 |vs,ws,[],es,r,q=>by have e:vs=[]:=r;subst e;exact q
 |vs,ws,d::ds,es,r,q=>by obtain⟨v,t,rfl,h,p⟩:=r;exact⟨v,t++ws,rfl,h,p.append q⟩
theorem Reps.take:∀{vs:List V} {ds:List D} n,Reps K H B vs ds->Reps K H B (vs.take n) (ds.take n)
 |vs,ds,0,r=>by rw[List.take_zero];exact rfl
 |vs,[],n+1,r=>by have e:vs=[]:=r;subst e;exact rfl
 |vs,d::ds,n+1,r=>by obtain⟨v,t,rfl,h,p⟩:=r;exact⟨v,t.take n,rfl,h,p.take n⟩
theorem Reps.drop:∀{vs:List V} {ds:List D} n,Reps K H B vs ds->Reps K H B (vs.drop n) (ds.drop n)
 |vs,ds,0,r=>r
 |vs,[],n+1,r=>by have e:vs=[]:=r;subst e;exact rfl
 |vs,d::ds,n+1,r=>by obtain⟨v,t,rfl,h,p⟩:=r;exact p.drop n
theorem Reps.set (h:Rep K H B v d):∀{vs:List V} {ds:List D} n,Reps K H B vs ds->Reps K H B (vs.set n v) (ds.set n d)
 |vs,[],n,r=>by have e:vs=[]:=r;subst e;exact rfl
 |vs,d::ds,0,r=>by obtain⟨u,t,rfl,_,p⟩:=r;exact⟨_,_,rfl,h,p⟩
 |vs,d::ds,n+1,r=>by obtain⟨u,t,rfl,h0,p⟩:=r;exact⟨_,_,rfl,h0,p.set h n⟩
mutual
theorem Rep.there:∀{v:V} (d:aq),Rep K H B v d->Rep K H (λa=>B a/\¬nw H a) v d
 |v,.none,r=>r
 |v,.bool b,r=>r
 |v,.int i,r=>r
 |v,.str x,r=>r
 |v,.tuple ds,r=>by obtain⟨a,vs,e,h,q⟩:=r;exact⟨a,vs,e,h,Reps.there ds q⟩
 |v,.list ds,r=>by
  obtain⟨a,vs,e,h,q⟩:=r;refine⟨a,vs,e,?_,Reps.there ds q⟩;rcases h with⟨h,b⟩|h
  ·refine .inl ⟨h,b,λz=>?_⟩;have z':H a=none:=z;rw[h]at z';cases z'
  ·exact .inr ⟨h.1,h.2,λz=>z⟩
 |v,.dict es,r=>by obtain⟨a,kvs,e,h,b,q⟩:=r;exact⟨a,kvs,e,h,⟨b,λz=>by have z':H a=none:=z;rw[h]at z';cases z'⟩,bC.there es q⟩
theorem Reps.there:∀{vs:List V} (ds:List aq),Reps K H B vs ds->Reps K H (λa=>B a/\¬nw H a) vs ds
 |vs,[],r=>r
 |vs,d::ds,r=>by obtain⟨v,t,e,h,q⟩:=r;exact⟨v,t,e,Rep.there d h,Reps.there ds q⟩
theorem bC.there:∀{kvs:List (Key×V)} (es:List (aq×aq)),bC K H B kvs es->bC K H (λa=>B a/\¬nw H a) kvs es
 |kvs,[],r=>r
 |kvs,(kd,d)::es,r=>by obtain⟨k,v,t,e,e2,ok,h,q⟩:=r;exact⟨k,v,t,e,e2,ok,Rep.there d h,bC.there es q⟩
end
end
structure Fm where
 H0:Hp
 V:Addr->Prop
 O:Addr->Option Nat
 z:Prop
def Bin (F:Fm):Ad->Prop
 |some a=>F.O a=none/\F.H0 a=none/\F.V a
 |none=>False
def bP (F:Fm):Ad->Prop
 |some a=>F.V a
 |none=>F.z
def fV (F:Fm):Ad->Prop
 |some a=>F.H0 a≠none/\F.V a
 |none=>F.z
def Slot (K:W.Frag)(F:Fm)(H:Hp)(i:Nat):G->V->D->Prop
 |.fr,v,d=>∃p,v=.ref p/\F.O p=some i/\((∃vs ds,d=.list ds/\H p=some (.lst vs)/\Reps K H (Bin F) vs ds)\/(∃kvs es,d=.dict es/\H p=some (.dK kvs)/\bC K H (Bin F) kvs es))
 |.od,v,d=>Rep K H (fV F) v d
 |.al,v,d=>Rep K H (bP F) v d
 |.nu,v,d=>Rep K H (Bin F) v d
structure StOk (K:W.Frag)(F:Fm)(H:Hp)(U:L2.St)(Y:Rho):Prop where
 ext:Same F.H0 H
 aJ:∀a,H a=none->F.V a
 own:∀a i,F.O a=some i->F.H0 a=none/\F.V a/\((∃xs,H a=some (.lst xs))\/∃kvs,H a=some (.dK kvs))
 len:U.length=Y.length
 sl:∀i g d,Y[i]?=some (some (g,d))->∃v,U[i]?=some (some v)/\Slot K F H i g v d
def BG (F:Fm)(H:Hp):G->Ad->Prop
 |.fr=>nw H
 |.od=>fV F
 |.al=>bP F
 |.nu=>λa=>nw H a\/Bin F a
section
variable {K:W.Frag}{F:Fm}{H H':Hp}{U:L2.St}{Y:Rho}
theorem Slot.same (s:Same H H')(h:Slot K F H i g v d):Slot K F H' i g v d:=by
 cases g with
 |fr=>
  obtain⟨p,e,o,h⟩:=h;refine⟨p,e,o,?_⟩;rcases h with⟨vs,ds,e1,e2,r⟩|⟨vs,ds,e1,e2,r⟩
  ·exact .inl ⟨vs,ds,e1,s _ _ e2,r.same s λ_ b=>b⟩
  ·exact .inr ⟨vs,ds,e1,s _ _ e2,r.same s λ_ b=>b⟩
 |od=>exact Rep.same s (λ_ b=>b) h
 |al=>exact Rep.same s (λ_ b=>b) h
 |nu=>exact Rep.same s (λ_ b=>b) h
theorem _root_.L2.Same.none (s:Same H H')(h:H' a=none):H a=none:=by
 cases e:H a with
 |none=>rfl
 |some o=>rw[s a o e]at h;cases h
theorem StOk.same (s:Same H H')(h:StOk K F H U Y):StOk K F H' U Y where
 ext:=λa o e=>s a o (h.ext a o e)
 aJ:=λa e=>h.aJ a (s.none e)
 own:=λa i e=>by
  obtain⟨h1,h3,h2⟩:=h.own a i e;refine⟨h1,h3,?_⟩;rcases h2 with⟨xs,h2⟩|⟨xs,h2⟩
  ·exact .inl ⟨xs,s _ _ h2⟩
  ·exact .inr ⟨xs,s _ _ h2⟩
 len:=h.len
 sl:=λi g d e=>by obtain⟨v,h1,h2⟩:=h.sl i g d e;exact⟨v,h1,h2.same s⟩
theorem nw.back (s:Same H H')(h:nw H' a):nw H a:=by
 cases a with
 |none=>exact h
 |some a=>exact s.none h
theorem nw.aJ (hv:∀a,H a=none->F.V a)(h:nw H a):bP F a:=by
 cases a with
 |none=>exact h.elim
 |some a=>exact hv a h
theorem fV.aJ (h:fV F a):bP F a:=by
 cases a with
 |none=>exact h
 |some a=>exact h.2
theorem Bin.aJ (h:Bin F a):bP F a:=by
 cases a with
 |none=>exact h.elim
 |some a=>exact h.2.2
theorem BG.back (s:Same H H')(h:BG F H' g a):BG F H g a:=by
 cases g with
 |fr=>exact nw.back s h
 |od=>exact h
 |al=>exact h
 |nu=>exact h.elim (λh=>.inl (nw.back s h)) .inr
theorem BG.aJ (hv:∀a,H a=none->F.V a)(h:BG F H g a):bP F a:=by
 cases g with
 |fr=>exact nw.aJ hv h
 |od=>exact fV.aJ h
 |al=>exact h
 |nu=>exact h.elim (nw.aJ hv) Bin.aJ
theorem Slot.rep (so:∀a i,F.O a=some i->F.V a)(h:Slot K F H i g v d):Rep K H (bP F) v d:=by
 cases g with
 |fr=>
  obtain⟨p,e,o,h⟩:=h;rcases h with⟨vs,ds,rfl,e2,r⟩|⟨vs,ds,rfl,e2,r⟩
  ·exact⟨p,vs,e,.inl ⟨e2,so _ _ o⟩,r.weak λ_ b=>b.aJ⟩
  ·exact⟨p,vs,e,e2,so _ _ o,bC.same (λ_ _ e=>e) (λ_ b=>b.aJ) r⟩
 |od=>exact Rep.weak (λ_ b=>b.aJ) h
 |al=>exact h
 |nu=>exact Rep.weak (λ_ b=>Bin.aJ b) h
theorem StOk.jZ (h:StOk K F H U Y):∀a i,F.O a=some i->F.V a:=λa i e=>(h.own a i e).2.1
theorem StOk.rd (h:StOk K F H U Y){i:Nat}(e:CZ Y[i]?=.ok x):∃v,U[i]?=some (some v)/\Rep K H (BG F H x.1) v x.2:=by
 cases e1:Y[i]? with
 |none=>rw[e1]at e;cases e
 |some o=>
  cases o with
  |none=>rw[e1]at e;cases e
  |some gd=>
   obtain⟨g,d⟩:=gd;rw[e1]at e;obtain⟨v,h1,h2⟩:=h.sl i g d e1;have e':=(Res.ok.inj e).symm;subst e';refine⟨v,h1,?_⟩;by_cases hi:aP d=true
   ·show Rep K H (BG F H (if aP d=true then _ else _)) v d;exact Rep.bB d hi (h2.rep h.jZ)
   ·show Rep K H (BG F H (if aP d=true then _ else _)) v d;rw[xw hi];cases g with
    |fr=>exact h2.rep h.jZ
    |od=>exact h2
    |al=>exact h2
    |nu=>exact Rep.weak (λ_ b=>.inr b) h2
end
structure Gm where
 N:List Str
 sc:Scope
 blk:Bool:=false
 free:List Str
 fns:List (Str×Nat)
 cst:List Str
 cm:Bool:=true
 xc:Option (Str×Str):=none
 sub:List (Str×Str×Bool):=[]
 rs:List Str:=[]
 pU:List (Str×Str):=[]
 kp:List Str:=[]
section
variable (Γ:Gm)
def hJ (i:Nat)(x:Str):Bool:=(Γ.N[i]?==some x)&&(Γ.sc.names.lookup x==some .local||Γ.sc.names.lookup x==some .cell||Γ.sc.names.lookup x==some .free)&& !(x==("__debug__":Str))&& !(x==("__classdict__":Str))
def vS (x:Str):Bool:=(Γ.sc.names.lookup x==some .globalImplicit)&& !(x==("__debug__":Str))
def cM (x:Str):Bool:=vS Γ x&&Γ.free.contains x&& !(x==("__name__":Str))
def mE (i:Nat)(x:Str):Bool:=(Γ.N[i]?==some x)&&(Γ.sc.names.lookup x==some .local||(!Γ.blk&&Γ.sc.names.lookup x==some .cell))&&(!Γ.kp.contains x&&Γ.xc.all λp=>!(p.1==x))
end
def tgIx:Tg->List Nat
 |.nm i=>[i]
 |.tp is=>is
def C1 (scope sc:Scope):Scope:={scope with names:=scope.names.map λ(n,k)=>if(k==.free&&sc.kind==.function&&sc.names.lookup n==some .cell)then(n,.cell)else(n,k)}
def plainT:Expr->Bool
 |.UnaryOp .Not _ _=>false
 |.BoolOp _ _ _=>false
 |.IfExp _ _ _ _=>false
 |.Compare _ _ _ _=>false
 |_=>true
def LN:Expr->Bool
 |.Compare _ _ _ _=>true
 |_=>false
def z3f:Expr->Bool
 |.Slice _ _ _ _=>false
 |_=>true
def yu:Expr->Bool
 |.Call (.Name _ _) [] [] _=>false
 |_=>true
def tO:Expr->Bool
 |.Set _ _ _=>false
 |_=>true
def isTup:Expr->Bool
 |.Tuple _ _ _=>true
 |_=>false
def FN:Expr->Option Str
 |.Name x _=>some x
 |_=>none
def j':Expr->Option Const
 |.Constant v _ _=>some v
 |_=>none
def vT:Expr->Option (Expr×sr×Expr)
 |.BinOp l o r _=>some (l,o,r)
 |_=>none
def C2:Expr->Option (UnaryOp×Expr)
 |.UnaryOp o x _=>some (o,x)
 |_=>none
def yw:Expr->Option (Expr×List CmpOp×List Expr)
 |.Compare l o r _=>some (l,o,r)
 |_=>none
def vU:Expr->Option (BoolOp×List Expr×Pos)
 |.BoolOp o xs p=>some (o,xs,p)
 |_=>none
def Ax:Expr->Option (Expr×Expr×Expr)
 |.IfExp t x y _=>some (t,x,y)
 |_=>none
def rA:Expr->Option (List Expr)
 |.Tuple es _ _=>some es
 |_=>none
def vV:Expr->Option (List Expr)
 |.List es _=>some es
 |_=>none
def FO:Expr->Option (List (Option Expr)×List Expr)
 |.Dict k v _=>some (k,v)
 |_=>none
def kA:Expr->Option (Expr×Expr)
 |.Subscript x i _=>some (x,i)
 |_=>none
def Ay:Expr->Option (Option Expr×Option Expr×Option Expr)
 |.Slice l h s _=>some (l,h,s)
 |_=>none
def FP:Expr->Option (Expr×List Expr×List vo×Pos)
 |.Call f es k p=>some (f,es,k,p)
 |_=>none
def LO:Expr->Option (Expr×Str×Pos)
 |.Attribute x n p=>some (x,n,p)
 |_=>none
def FQ:Expr->Option (Expr×List Comprehension×Scope)
 |.ListComp el gs s _=>some (el,gs,s)
 |_=>none
def bS {α:Type}:List α->Option α
 | [x]=>some x
 |_=>none
def mF {α:Type}:List α->Option (α×α)
 | [x,y]=>some (x,y)
 |_=>none
def kB (e:Expr):Option (Str×List Expr):=(FP e).bind λv=>if v.2.2.1.isEmpty then(FN v.1).map λx=>(x,v.2.1)else none
def vW (e:Expr):Option (Expr×Str×List Expr×Bool):=(FP e).bind λv=>if v.2.2.1.isEmpty then(LO v.1).map λu=>(u.1,u.2.1,v.2.1,u.2.2.endLine==v.2.2.2.line)else none
def vX (f g:Expr->Bool)(o:BoolOp)(p:Pos):List Expr->Bool
 |x::y::r=>f x&&(if r.isEmpty then g y else g (.BoolOp o (y::r) p))
 |_=>false
def Az (n:Bool)(f:Expr->Bool):List Expr->Bool
 | []=>n
 |t::r=>r.isEmpty&&f t
def AA:C->Bool
 |.nil=>true
 |_=>false
def mG (f:Str->Bool)(e:Expr):Bool:=(FN e).any f
def FR (Γ:Gm):List Nat->List Expr->Bool
 | [],es=>es.isEmpty
 |i::is,es=>match es with|e::es=>mG (mE Γ i) e&&FR Γ is es| []=>false
def rC (Γ:Gm):Tg->Expr->Bool
 |.nm i,e=>mG (mE Γ i) e
 |.tp is,e=>Γ.cm&&(rA e).any (FR Γ is)
def C3:sr->Bool
 |.Add|.Sub|.Mult|.FloorDiv|.Mod|.Pow=>true
 |_=>false
def z6r:CmpOp->Bool
 |.Is|.IsNot|.LtE=>false
 |_=>true
def FT (T:String):Bool:=tysB.contains T
def tyB (Γ:Gm)(T:String)(t:Expr):Bool:=mG (λx=>(x==Str.ofString T)&&cM Γ x&&FT T) t
def vY:List String:=["tuple","sorted","all","any","dict"]
def TF:Tg->Bool
 |.nm _=>true
 |.tp _=>false
def isNm:Expr->Bool
 |.Name _ _=>true
 |_=>false
def C4:C->Expr->Bool
 |.enum _,e=>isTup e
 |.zip _ _,e=>isTup e||isNm e
 |_,_=>true
mutual
def chkE (Γ:Gm):C->Expr->Bool
 |.var i,e=>mG (hJ Γ i) e
 |.bD,e=>decide (j' e=some .none)
 |.bl b,e=>decide (j' e=some (.bool b))
 |.int i,e=>decide (j' e=some (.int i))
 |.str x,e=>decide (j' e=some (.str x))&&PyData.strOk x
 |.glob _ _,_=>false
 |.bin op a b,e=>(vT e).any λv=>decide (op=v.2.1)&&C3 op&&chkE Γ a v.1&&chkE Γ b v.2.2
 |.cmp op a b,e=>(yw e).any λv=>decide (v.2.1=[op])&&(bS v.2.2).any λr=>z6r op&& !(gk op r)&&chkE Γ a v.1&&chkE Γ b r
 |.and a b,e=>(vU e).any λv=>decide (v.1=.And)&&vX (λx=>chkE Γ a x) (λx=>chkE Γ b x) .And v.2.2 v.2.1
 |.or a b,e=>(vU e).any λv=>decide (v.1=.Or)&&vX (λx=>chkE Γ a x) (λx=>chkE Γ b x) .Or v.2.2 v.2.1
 |.not a,e=>(C2 e).any λv=>decide (v.1=.Not)&&chkE Γ a v.2
 |.oJ c a b,e=>(Ax e).any λv=>eV Γ c v.1&&chkE Γ a v.2.1&&chkE Γ b v.2.2
 |.tup xs,e=>(rA e).any λes=>decide (es.length<=1000)&&eI Γ xs es
 |.lst xs,e=>(vV e).any λes=>decide (es.length<=1000)&&eI Γ xs es
 |.jX,e=>(FO e).any λv=>v.1.isEmpty&&v.2.isEmpty
 |.ix a b,e=>(kA e).any λv=>z3f v.2&&chkE Γ a v.1&&chkE Γ b v.2
 |.sl a lo hi,e=>(kA e).any λv=>(Ay v.2).any λs=>s.2.2.isNone&&chkE Γ a v.1&&rD Γ lo s.1&&rD Γ hi s.2.1
 |.call k f args,e=>(kB e).any λv=>(Γ.cm&&(v.1==f))&&vS Γ v.1&&(Γ.fns[k]?==some (f,v.2.length))&&eI Γ args v.2&& !v.2.isEmpty
 |.bi f args,e=>(kB e).any λv=>(v.1==Str.ofString f)&&cM Γ v.1&&((["len","max","int"].contains f)&&(Γ.cm||f=="int"))&&eI Γ args v.2&& !v.2.isEmpty
 |.iF f a,e=>(kB e).any λv=>(v.1==Str.ofString f)&&cM Γ v.1&&(vY.contains f&&Γ.cm)&&(bS v.2).any λy=>!isStar y&&vZ Γ a y
 |.vO a ts,e=>(kB e).any λv=>(v.1==("isinstance":Str))&&cM Γ v.1&&(mF v.2).any λy=>!isStar y.1&&chkE Γ a y.1&&(bS ts).any λT=>tyB Γ T y.2
 |.mt m o args,e=>(vW e).any λv=>((v.2.1==Str.ofString m)&& ["get"].contains m&&yu v.1&&v.2.2.2&&decide (v.2.2.1.length<20))&&chkE Γ o v.1&&eI Γ args v.2.2.1&& !v.2.2.1.isEmpty
 |.comp nt js N' tg it cond elt,e=>(FQ e).any λv=>(bS v.2.1).any λg=>let FU:Gm:={Γ with N:=N',sc:=C1 v.2.2 Γ.sc,blk:=true,xc:=none,kp:=[]}
  ((Γ.cm&&(g.is_async==0))&&(tgIx tg).all (λi=>decide (i<nt))&&qO Γ.N Γ.sc v.2.2 N' nt js&&tO g.iter&&decide N'.Nodup)&&(rC FU tg g.target&&C4 it g.target)&&kC Γ it g.iter&&Az (AA cond) (λt=>eV FU cond t) g.ifs&&chkE FU elt v.1
 |.sortI i,e=>(kB e).any λv=>(Γ.cm&&(v.1==("sorted":Str)))&&cM Γ v.1&&(bS v.2).any λy=>(vW y).any λm=>mG (hJ Γ i) m.1&&(m.2.1==("items":Str))&&m.2.2.1.isEmpty&&m.2.2.2
 |.vP b x,e=>(kB e).any λv=>(v.1==("isinstance":Str))&&cM Γ v.1&&(mF v.2).any λy=>Γ.xc.any λz=>mG (λn=>(n==z.1)&&(Γ.sc.names.lookup n==some .local)&& !(n==("__debug__":Str))&& !(n==("__classdict__":Str))) y.1&&mG (λC=>(C==x)&&vS Γ C&&Γ.sub.contains (z.2,x,b)) y.2
 |.jY _,_=>false
 |.enum _,_=>false
 |.zip _ _,_=>false
 |.tv _,_=>false
 |.nil,_=>false
 |.cons _ _,_=>false
def eV (Γ:Gm):C->Expr->Bool
 |.and a b,e=>(vU e).any λv=>decide (v.1=.And)&&vX (λx=>eV Γ a x) (λx=>eV Γ b x) .And v.2.2 v.2.1
 |.or a b,e=>(vU e).any λv=>decide (v.1=.Or)&&vX (λx=>eV Γ a x) (λx=>eV Γ b x) .Or v.2.2 v.2.1
 |.not a,e=>(C2 e).any λv=>decide (v.1=.Not)&&eV Γ a v.2
 |.tv a,e=>(plainT e||LN e)&&chkE Γ a e
 |_,_=>false
def eI (Γ:Gm):C->List Expr->Bool
 |.nil,es=>es.isEmpty
 |.cons a r,es=>match es with|e::es=>!isStar e&&chkE Γ a e&&eI Γ r es|_=>false
 |_,_=>false
def rD (Γ:Gm):C->Option Expr->Bool
 |.nil,e=>e.isNone
 |.tv a,e=>e.any λe=>chkE Γ a e
 |_,_=>false
def kC (Γ:Gm):C->Expr->Bool
 |.jY args,e=>(kB e).any λv=>(v.1==("range":Str))&&cM Γ v.1&&eI Γ args v.2&&(!v.2.isEmpty&&decide (v.2.length<=1))
 |.tv a,e=>tO e&&chkE Γ a e
 |.enum a,e=>(kB e).any λv=>(v.1==("enumerate":Str))&&cM Γ v.1&&(bS v.2).any λy=>!isStar y&&chkE Γ a y
 |.zip a b,e=>(kB e).any λv=>(v.1==("zip":Str))&&cM Γ v.1&&(mF v.2).any λy=>(!isStar y.1&& !isStar y.2)&&chkE Γ a y.1&&chkE Γ b y.2
 |_,_=>false
def vZ (Γ:Gm):C->Expr->Bool
 |.tv a,e=>chkE Γ a e
 |_,_=>false
end
def mH:C->Bool
 |_=>false
def AB (Γ:Gm)(it:C)(tg ie:Expr):Bool:=C4 it tg&&kC Γ it ie
def AD:Stmt->Option (List Expr×Expr)
 |.Assign t v _=>some (t,v)
 |_=>none
def AE:Stmt->Option Expr
 |.Expr v _=>some v
 |_=>none
def FV:Stmt->Option (Option Expr)
 |.Return v _=>some v
 |_=>none
def FW:Stmt->Option (Expr×List Stmt×List Stmt)
 |.If t A B _=>some (t,A,B)
 |_=>none
def AF:Stmt->Option (Expr×Expr×List Stmt×List Stmt)
 |.For t i B o _=>some (t,i,B,o)
 |_=>none
mutual
def rE (Γ:Gm):S->Stmt->Bool
 |.bad,_=>true
 |.asg t e,s=>(AD s).any λu=>(bS u.1).any λx=>rC Γ t x&& !mH e&&(TF t||(!z1q u.2&& !isTup u.2))&&chkE Γ e u.2
 |.eP i k v,s=>(AD s).any λu=>(bS u.1).any λx=>(kA x).any λw=>mG (hJ Γ i) w.1&&z3f w.2&& !z1q u.2&&chkE Γ k w.2&&chkE Γ v u.2
 |.mut m i args,s=>(AE s).any λc=>(vW c).any λv=>(mG (hJ Γ i) v.1&&(v.2.1==Str.ofString m)&& ["append"].contains m&&v.2.2.2&&decide (v.2.2.1.length<20))&& !v.2.2.1.isEmpty&&eI Γ args v.2.2.1
 |.drop e,s=>(AE s).any λv=>!z1q v&&chkE Γ e v
 |.ret e,s=>(FV s).any λo=>o.any λv=>chkE Γ e v
 |.bI c a b,s=>(FW s).any λv=>eV Γ c v.1&&chkL Γ a v.2.1&&chkL Γ b v.2.2
 |.bA t it b,s=>Γ.cm&&(AF s).any λv=>rC Γ t v.1&&AB Γ it v.1 v.2.1&&chkL Γ b v.2.2.1&&v.2.2.2.isEmpty
 |.nil,_=>false
 |.seq _ _,_=>false
def chkL (Γ:Gm):S->List Stmt->Bool
 |.nil,l=>l.isEmpty
 |.seq a b,l=>match l with|s::r=>rE Γ a s&&chkL Γ b r|_=>false
 |_,_=>false
end
def tD (K:W.Frag)(f:Rho->Res GD):TE:=λU H Q=>∃Y F x,StOk K F H U Y/\f Y=.ok x/\∀v H',Same H H'->Rep K H' (BG F H x.1) v x.2->Q v H'
def eJ (K:W.Frag)(f:Rho->Res Bool):TT:=λU H Q=>∃Y F b,StOk K F H U Y/\f Y=.ok b/\∀H',Same H H'->Q b H'
def tDO (K:W.Frag)(f:Rho->Res (Option Int)):TO:=λU H Q=>∃Y F b,StOk K F H U Y/\f Y=.ok b/\∀H',Same H H'->Q b H'
def eR (K:W.Frag)(F:Fm)(H H':Hp):List V->List GD->Prop
 |vs,[]=>vs=[]
 |vs,x::xs=>∃v r,vs=v::r/\Rep K H' (BG F H x.1) v x.2/\eR K F H H' r xs
def tDA (K:W.Frag)(f:Rho->Res (List GD)):TA:=λU H Q=>∃Y F xs,StOk K F H U Y/\f Y=.ok xs/\∀vs H',Same H H'->eR K F H H' vs xs->Q vs H'
theorem _root_.L2.PE.imp (h:PE X e t)(i:∀U H Q,t' U H Q->t U H Q):PE X e t':=λpins s U H Q I q=>h pins s U H Q I (i U H Q q)
theorem _root_.L2.PT.imp (h:PT X e t)(i:∀U H Q,t' U H Q->t U H Q):PT X e t':=λpins s U H Q I q=>h pins s U H Q I (i U H Q q)
theorem _root_.L2.PW.imp (h:PW X e t)(i:∀U H Q,t' U H Q->t U H Q):PW X e t':=λwh pins s U H Q I q=>h wh pins s U H Q I (i U H Q q)
theorem _root_.L2.PA.imp (h:PA X e t)(i:∀U H Q,t' U H Q->t U H Q):PA X e t':=λpos pins s U H Q I q=>h pos pins s U H Q I (i U H Q q)
theorem _root_.L2.PO.imp (h:PO X e t)(i:∀U H Q,t' U H Q->t U H Q):PO X e t':=λpins s U H Q I q=>h pins s U H Q I (i U H Q q)
theorem _root_.L2.PS.imp (h:PS X e t)(i:∀D U H,t' D U H->t D U H):PS X e t':=λpins s U H D I q=>h pins s U H D I (i D U H q)
theorem _root_.L2.PSs.imp (h:PSs X e t)(i:∀D U H,t' D U H->t D U H):PSs X e t':=λpins s U H D I q=>h pins s U H D I (i D U H q)
section
variable {K:W.Frag}{F:Fm}{H H1 H':Hp}
theorem eR.back:∀{vs:List V} {xs:List GD},Same H H1->eR K F H1 H' vs xs->eR K F H H' vs xs
 |vs,[],_,r=>r
 |vs,x::xs,s,r=>by obtain⟨v,t,e,h,q⟩:=r;exact⟨v,t,e,h.weak λ_ b=>b.back s,q.back s⟩
theorem eR.oN:∀{vs:List V} {xs:List GD},(∀x∈xs,∀a,BG F H x.1 a->B a)->eR K F H H' vs xs->Reps K H' B vs (xs.map (·.2))
 |vs,[],_,r=>r
 |vs,x::xs,hB,r=>by obtain⟨v,t,e,h,q⟩:=r;exact⟨v,t,e,h.weak (hB x bh),q.oN λy hy=>hB y (br _ hy)⟩
theorem eR.lA (hv:∀a,H a=none->F.V a)(r:eR K F H H' vs xs):Reps K H' (bP F) vs (xs.map (·.2)):=r.oN λ_ _ _ h=>h.aJ hv
theorem AG (hv:∀a,H a=none->F.V a)(hx:x∈xs)(h:BG F H x.1 a):BG F H (cU xs) a:=by
 unfold cU;by_cases e:(xs.all λx=>x.1==.fr)=true
 ·rw[xu e];have:=(bj.mp e) x hx;have e1:x.1=.fr:=by simpa using this
  rw[e1]at h;exact h
 ·rw[xw e];split
  ·rename_i e2;have:=(bj.mp e2) x hx;rcases gv.mp this with e1|e1
   ·rw[eq_of_beq e1]at h;exact .inl h
   ·rw[eq_of_beq e1]at h;exact h
  ·exact h.aJ hv
theorem FY (hv:∀a,H a=none->F.V a)(s:Same H H1)(h:nw H1 a):BG F H (cU xs) a:=by
 unfold cU;by_cases e:(xs.all λx=>x.1==.fr)=true
 ·rw[xu e];exact nw.back s h
 ·rw[xw e];split
  ·exact .inl (nw.back s h)
  ·exact(nw.back s h).aJ hv
theorem tP (r:Rep K H' B v d)(h:∀a,B a->BG F H g a):Rep K H' (BG F H (gJ d g)) v d:=by
 unfold gJ;by_cases e:aP d=true
 ·rw[xu e];exact Rep.bB d e r
 ·rw[xw e];exact r.weak h
end
def yx (K:W.Frag)(m:D->D->Res D):R2:=λx y H Q=>∃Bx By dx dy d,Rep K H Bx x dx/\Rep K H By y dy/\m dx dy=.ok d/\∀w H',Same H H'->Rep K H' (λa=>nw H a\/Bx a\/By a) w d->Q w H'
def rG (X:Cx)(f:Value->Value->Sem Value)(m:D->D->Res D):Prop:=OpR X f (yx X.K m)
def rH (K:W.Frag)(m:D->D->Res D):R2:=λx y H Q=>∃Bx By dx dy d,Rep K H Bx x dx/\Rep K H By y dy/\m dx dy=.ok d/\∀w H',Same H H'->Rep K H' (λa=>nw H a\/Bx a\/By a) w d->(∀ds,d=.list ds->imms ds=true->Rep K H' (nw H) w d)->Q w H'
def FZ (X:Cx)(f:Value->Value->Sem Value)(m:D->D->Res D):Prop:=OpR X f (rH X.K m)
theorem _root_.L2.OpR.imp (h:OpR X f r)(i:∀x y H Q,r' x y H Q->r x y H Q):OpR X f r':=λpins s U H x y v u Q I rx ry q=>h pins s U H x y v u Q I rx ry (i x y H Q q)
def ze6 (K:W.Frag)(m:List D->Res D):List V->Hp->VK->Prop:=λxs H Q=>∃B ds d,Reps K H B xs ds/\m ds=.ok d/\∀w H',Same H H'->Rep K H' (λa=>nw H a\/B a) w d->Q w H'
theorem _root_.L2.CallR.imp (h:CallR X f r)(i:∀x H Q,r' x H Q->r x H Q):CallR X f r':=λpins s U H x v Q I rx q=>h pins s U H x v Q I rx (i x H Q q)
theorem TH (hx:PyData.strOk x=true)(hy:PyData.strOk y=true):PyData.strOk (x++y)=true:=by
 unfold PyData.strOk at *
 show(x.cps++y.cps).all _=true;rw[Array.all_append,hx,hy];rfl
theorem C5:PyData.strOk x=true↔∀c∈x.cps.toList,c<0x110000:=by unfold PyData.strOk;rw[<-Array.all_toList];rw[bj];exact⟨λh c hc=>by simpa using h c hc,λh c hc=>by simpa using h c hc⟩
theorem LP (hx:PyData.strOk x=true)(hc:c∈x.cps.toList):PyData.strOk ⟨#[c]⟩=true:=
 C5.mpr λd hd=>by
  have e:d=c:=by simpa using hd
  rw[e];exact C5.mp hx c hc
theorem mI (h:n<=bJ):n<=bc:=bo h (by rw[cz];unfold bJ;decide)
theorem _root_.L2.bL.rel {K:W.Frag}(s:Same H H')(h:bL K H a xs):bL K H' a xs:=h.keep (B:=λ_=>True) λa o e _=>s a o e
section
variable {X:Cx}
def TJ (K:W.Frag):R2:=λx y H Q=>∃l b xs zs,x=.ref l/\y=.ref b/\SqL K H l xs/\SqL K H b zs/\xs.length+zs.length<=bc/\∀p,H p=none->Q (.ref p) (upd H p (.lst (xs++zs)))
theorem TK:OpR X (iy .Add) (TJ X.K):=by
 rintro pins s U H x y v u Q I rx ry ⟨l,b,xs,zs,rfl,rfl,hH,hB,hz,q⟩
 cases rx;cases ry;obtain⟨its,r1,p1,_⟩:=I.list hH;obtain⟨cb,r2,p2,_⟩:=I.list hB;obtain⟨⟨cls,dd,data,sl⟩,n,ho,hc,_,hd⟩:=p1;obtain⟨⟨zV,ym,data2,qM⟩,n2,ho2,nD,_,hd2⟩:=p2;subst hc hd nD hd2;have hz9z:its.toArray.size+cb.toArray.size<=bc:=by rw[ax,ax,<-r1.length,<-r2.length];exact hz
 refine qo ⟨_,ho,rfl⟩ ⟨_,ho2,rfl⟩ noFill_list_add seq_list_add PySem.F.slot_list_add PySem.F.entry_list_add (PySem.F.args_list_add_2 _ _) (list_addW l b its.toArray cb.toArray n n2 dd ym sl qM hz9z) ⟨ho,ho2,?_⟩;have ea:its.toArray++cb.toArray=(its++cb).toArray:=by simp
 rw[ea];exact⟨.ref _,_,I.lnew (r1.append r2) (bu▸hz),rfl,q _ I.fresh⟩
def TL (K:W.Frag):R2:=λx y H Q=>∃a b ys,x=.ref a/\y=.ref b/\bL K H a []/\bL K H b ys/\Q (.ref b) H
theorem TM:OpR X (iy .Add) (TL X.K):=by
 rintro pins s U H x y v u Q I rx ry ⟨l,b,zs,rfl,rfl,hH,hB,q⟩
 cases rx;cases ry;obtain⟨its,r1,p1,_⟩:=I.tuple hH;obtain⟨cb,r2,p2,_⟩:=I.tuple hB;cases r1;obtain⟨⟨cls,dd,data,sl⟩,ho,hc,n,hd⟩:=p1;obtain⟨⟨zV,ym,data2,qM⟩,ho2,nD,n2,hd2⟩:=p2;subst hc hd nD hd2;refine qo ⟨_,ho,rfl⟩ ⟨_,ho2,rfl⟩ qe uj PySem.F.slot_tuple_add PySem.F.entry_tuple_add (PySem.F.args_tuple_add_2 _ _) (tuple_addW0 l b _ cb.toArray n n2 dd ym sl qM (by simp)) ⟨ho,ho2,?_⟩;exact⟨.ref b,H,I,rfl,q⟩
variable {K:W.Frag}{H:Hp}{B:Ad->Prop}{v:V}
theorem pV (r:Rep K H B v (.list ds)):∃a vs,v=.ref a/\SqL K H a vs/\Reps K H B vs ds:=by
 obtain⟨a,vs,e,h,q⟩:=r;refine⟨a,vs,e,?_,q⟩;rcases h with⟨h,_⟩|⟨h|h,_⟩
 ·exact .inl (.inl h)
 ·exact .inl (.inr h)
 ·exact .inr h
theorem tQ (hp:H p=none)(r:Reps K H B vs ds)(hB:∀a,B a->B' a)(hb:B' (some p)):Rep K (upd H p (.lst vs)) B' (.ref p) (.list ds):=⟨p,vs,rfl,.inl ⟨aW,hb⟩,r.same (Same.upd hp) hB⟩
theorem C6 (hp:H p=none)(r:Reps K H B vs ds)(hB:∀a,B a->B' a):Rep K (upd H p (.tup vs)) B' (.ref p) (.tuple ds):=⟨p,vs,rfl,.inl (.inl aW),r.same (Same.upd hp) hB⟩
theorem gE {α:Type}{a:α}(h:(Res.no:Res α)=.ok a):False:=by cases h
theorem TN:FZ X (iy .Add) (cW .Add):=by
 refine OpR.imp ((Ta.or TK).or TM) λx y H Q h=>?_;obtain⟨Bx,By,dx,dy,d,rx,ry,e,q⟩:=h;cases dx<;>try (exact(gE e).elim)
 all_goals cases dy<;>try (exact(gE e).elim)
 case int.int i j=>cases e;have e1:=rx;have e2:=ry;subst e1 e2;exact .inl (.inl (Tj (q _ H (Same.refl H) rfl λds z=>by cases z)))
 case str.str i j=>
  have e1:=rx.1;have e2:=ry.1;subst e1 e2;have e:(if i.length+j.length<=bJ then Res.ok (PyData.str (i++j))else Res.no)=Res.ok d:=e;split at e
  ·rename_i hl;cases e;exact .inl (.inl (Tn (mI hl) (q _ H (Same.refl H) ⟨rfl,TH rx.2 ry.2⟩ λds z=>by cases z)))
  ·cases e
 case list.list xs ys=>
  have e:(if xs.length+ys.length<=bJ then Res.ok (PyData.list (xs++ys))else Res.no)=Res.ok d:=e;split at e
  ·rename_i hl;cases e;obtain⟨a,vs,rfl,h1,q1⟩:=pV rx;obtain⟨b,ws,rfl,h2,q2⟩:=pV ry;refine .inl (.inr ⟨a,b,vs,ws,rfl,rfl,h1,h2,mI (by rw[q1.length,q2.length];exact hl),λp hp=>q _ _ (Same.upd hp) ?_ ?_⟩)
   ·exact tQ hp (Reps.append (q1.weak λ_ z=>.inr (.inl z)) (q2.weak λ_ z=>.inr (.inr z))) (λ_ z=>z) (.inl hp)
   ·intro ds z hi;cases z;exact tQ hp (Reps.bB _ hi (Reps.append (q1.weak (B':=λa=>nw H a\/Bx a\/By a) λ_ z=>.inr (.inl z)) (q2.weak λ_ z=>.inr (.inr z)))) (λ_ z=>z) hp
  ·cases e
 case tuple.tuple xs ys=>
  have e:(if xs.length+ys.length<=bJ then Res.ok (PyData.tuple (xs++ys))else Res.no)=Res.ok d:=e;split at e
  ·rename_i hl;cases e;obtain⟨a,vs,rfl,h1,q1⟩:=rx;obtain⟨b,ws,rfl,h2,q2⟩:=ry;cases vs with
   |nil=>
    have:xs=[]:=by have:=q1.length;exact ip.mp this.symm
    subst this;exact .inr ⟨a,b,ws,rfl,rfl,h1,h2,q _ H (Same.refl H) ⟨b,ws,rfl,h2,q2.weak λ_ z=>.inr (.inr z)⟩ λds z=>by cases z⟩
   |cons v0 vr=>
    refine .inl (.inl (.inr (.inr (.inr ⟨a,b,v0::vr,ws,rfl,rfl,h1,h2,by simp,mI (by rw[q1.length,q2.length];exact hl),λz=>?_,λz p hp=>q _ _ (Same.upd hp) ?_ λds z=>by cases z⟩))))
    ·subst z;have:ys=[]:=by have:=q2.length;exact ip.mp this.symm
     subst this;rw[dh]at q;exact q _ H (Same.refl H) ⟨a,_,rfl,h1,q1.weak λ_ z=>.inr (.inl z)⟩ λds z=>by cases z
    ·exact C6 hp (Reps.append (q1.weak λ_ z=>.inr (.inl z)) (q2.weak λ_ z=>.inr (.inr z))) (λ_ z=>z)
  ·cases e
theorem C7 {gd:Int->Int->D}(h:OpR X f (rI Cc g))(hg:∀i j H B,Rep X.K H B (g i j) (gd i j))(hm:∀dx dy d,m dx dy=.ok d->∃i j,dx=.int i/\dy=.int j/\Cc i j/\d=gd i j):FZ X f m:=by refine OpR.imp h λx y H Q h=>?_;obtain⟨Bx,By,dx,dy,d,rx,ry,e,q⟩:=h;obtain⟨i,j,rfl,rfl,c,rfl⟩:=hm dx dy d e;exact⟨i,j,rx,ry,c,q _ H (Same.refl H) (hg i j _ _) λ_ _ _=>hg i j _ _⟩
theorem TQ (h:OpR X f (oA g)):OpR X f (rI (λ_ _=>True) g):=OpR.imp h λx y H Q ⟨i,j,e1,e2,_,q⟩=>⟨i,j,e1,e2,q⟩
theorem TR:OpR X (iy .FloorDiv) (rI (λ_ j=>0<j/\j<2 ^ 200) λi j=>.int (i/j)):=opI λi j _ _ _ _ _ hc q=>by
 refine floordiv_int (by omega) (by rw[Int.fdiv_eq_ediv_of_nonneg i (by omega)];exact q) (.inl (PyProof.noPylong_of_log2 ?_));have h2:j.natAbs<2 ^ 200:=by omega
 have h3:=(Nat.log2_lt (by omega)).mpr h2;omega
def TU:R2:=λx y H Q=>∃a n,x=.str a/\y=.int n/\(0<=n/\n<=bJ/\a.length*n.toNat<=bJ)/\Q (.str ⟨(qV n.toNat a.cps.toList).toArray⟩) H
theorem TV {α:Type}(n:Nat):qV n ([]:List α)=[]:=by
 unfold qV
 induction n with
 |zero=>rfl
 |succ n ih=>rw[tz,List.flatten_cons,ih];rfl
theorem LQ (a:Array Nat):∀k acc,(bv k a).foldl (·++·) acc.toArray=(acc++qV k a.toList).toArray
 |0,acc=>by simp[qV]
 |k+1,acc=>by
  rw[tz,List.foldl_cons];have e:acc.toArray++a=(acc++a.toList).toArray:=by simp
  rw[e,LQ a k];rw[ir];rfl
theorem TX (h:0<=n):Txt.mul a n=⟨(qV n.toNat a.cps.toList).toArray⟩:=by
 unfold Txt.mul;by_cases h1:n<1
 ·obtain rfl:n=0:=by omega
  rw[xu h1];rfl
 ·rw[xw h1];split
  ·rename_i h2;rcases gv.mp h2 with h2|h2
   ·obtain rfl:n=1:=x9 h2;show a=⟨(a.cps.toList++[]).toArray⟩;rw[dh]
   ·have h3:a.cps.size=0:=x9 h2;have h4:=ip.mp (jl▸h3);rw[h4,TV];have h5:a.cps=#[]:=by rw[<-su (xs:=a.cps),h4]
    cases a;cases h5;rfl
  ·have :=LQ a.cps n.toNat [];exact congrArg Str.mk this
theorem TY (h:PyData.strOk a=true)(n:Nat):PyData.strOk ⟨(qV n a.cps.toList).toArray⟩=true:=by unfold PyData.strOk at h ⊢;rw[<-Array.all_toList,bj]at h ⊢;intro c hc;obtain⟨l,hl,fI⟩:=List.mem_flatten.mp hc;rw[(List.mem_replicate.mp hl).2]at fI;exact h c fI
theorem TZ:OpR X (iy .Mult) TU:=by
 rintro pins s U H x y v u Q I rx ry ⟨a,n,rfl,rfl,⟨h0,hn,h1⟩,q⟩
 obtain⟨t,rfl⟩:=rx;obtain⟨t',rfl⟩:=ry;unfold bJ at hn h1;refine SB.mul (PyProof.Rows.mulOk_of a.length n.toNat (ag _) (by omega) (by omega) (by omega) (by omega)) λt2 k=>?_;rw[TX h0];exact⟨.str _,H,I.tok _,⟨_,rfl⟩,q⟩
theorem LR (op:sr)(h:C3 op=true):FZ X (iy op) (cW op):=by
 cases op<;>try (cases h;done)
 case Add=>exact TN
 case Sub=>
  refine C7 (TQ Rx) (gd:=λi j=>.int (i-j)) (λ_ _ _ _=>rfl) λdx dy d e=>?_;cases dx<;>try (exact(gE e).elim)
  cases dy<;>try (exact(gE e).elim)
  cases e;simp_all
 case Mult=>
  refine OpR.imp (Ry.or TZ) λx y H Q h=>?_;obtain⟨Bx,By,dx,dy,d,rx,ry,e,q⟩:=h;cases dx<;>try (exact(gE e).elim)
  all_goals cases dy<;>try (exact(gE e).elim)
  case int.int i j=>
   have e:(if(-(2 ^ 64)<i/\i<2 ^ 64)\/(-(2 ^ 64)<j/\j<2 ^ 64)then Res.ok (PyData.int (i*j))else Res.no)=Res.ok d:=e;split at e
   ·rename_i hc;cases e;exact .inl ⟨i,j,rx,ry,hc,q _ H (Same.refl H) rfl λds z=>by cases z⟩
   ·cases e
  case str.int a n=>
   have e:(if 0<=n/\n<=bJ/\a.length*n.toNat<=bJ then Res.ok (PyData.str ⟨(qV n.toNat a.cps.toList).toArray⟩)else Res.no)=Res.ok d:=e;split at e
   ·rename_i hc;cases e;obtain⟨T1,T2⟩:=rx;exact .inr ⟨a,n,T1,ry,hc,q _ H (Same.refl H) ⟨rfl,TY T2 _⟩ λds z=>by cases z⟩
   ·cases e
 case FloorDiv=>
  refine C7 TR (gd:=λi j=>.int (i/j)) (λ_ _ _ _=>rfl) λdx dy d e=>?_;cases dx<;>try (exact(gE e).elim)
  cases dy<;>try (exact(gE e).elim)
  rename_i i j;have e:(if 0<j/\j<2 ^ 200 then Res.ok (PyData.int (i/j))else Res.no)=Res.ok d:=e;split at e
  ·rename_i hc;cases e;simp_all
  ·cases e
 case Mod=>
  refine C7 RA (gd:=λi j=>.int (i%j)) (λ_ _ _ _=>rfl) λdx dy d e=>?_;cases dx<;>try (exact(gE e).elim)
  cases dy<;>try (exact(gE e).elim)
  rename_i i j;have e:(if 0<j then Res.ok (PyData.int (i%j))else Res.no)=Res.ok d:=e;split at e
  ·rename_i hc;cases e;simp_all
  ·cases e
 case Pow=>
  refine C7 RB (gd:=λi j=>.int (i ^ j.toNat)) (λ_ _ _ _=>rfl) λdx dy d e=>?_;cases dx<;>try (exact(gE e).elim)
  cases dy<;>try (exact(gE e).elim)
  rename_i i j;have e:(if 0<=j/\j<=1000/\i.natAbs<2 ^ 64 then Res.ok (PyData.int (i ^ j.toNat))else Res.no)=Res.ok d:=e;split at e
  ·rename_i hc;cases e;exact⟨_,_,rfl,rfl,⟨hc.1,by omega,hc.2.2⟩,rfl⟩
  ·cases e
end
section
variable {X:Cx}{pins:List (Addr×Obj)}{U:L2.St}{H:Hp}{s:aw}{B:Ad->Prop}
mutual
theorem Rep.reads (I:Inv X pins U H s):∀{v:V} {u:Value} (d:aq) (n:Nat),aN n d=true->Rep X.K H B v d->RelV v u->(∃as,Reads s.heap u d as)/\d.canLay0=true/\d.depth<=n
 |v,u,.none,n,_,r,q=>by have e:v=.bD:=r;subst e;cases q;exact⟨⟨[],.none⟩,by simp only[PyData.canLay0],bw _⟩
 |v,u,.bool b,n,_,r,q=>by have e:v=.bl b:=r;subst e;cases q;exact⟨⟨[],.bool b⟩,by simp only[PyData.canLay0],bw _⟩
 |v,u,.int b,n,_,r,q=>by have e:v=.int b:=r;subst e;obtain⟨t,rfl⟩:=q;exact⟨⟨[],.int b t⟩,by simp only[PyData.canLay0],bw _⟩
 |v,u,.str b,n,_,r,q=>by obtain⟨e,ok⟩:v=.str b/\_:=r;subst e;obtain⟨t,rfl⟩:=q;exact⟨⟨[],.str b t⟩,by simp only[PyData.canLay0];exact ok,bw _⟩
 |v,u,.tuple ds,0,h,r,q=>by cases h
 |v,u,.list ds,0,h,r,q=>by cases h
 |v,u,.tuple ds,n+1,h,r,q=>by obtain⟨a,vs,e,h1,r1⟩:=r;subst e;cases q;obtain⟨its,rv,⟨o,ho,hc,k,hd⟩,_⟩:=I.tuple h1;obtain⟨⟨as,ra⟩,c,dp⟩:=Reps.reads I ds n (h) r1 rv;refine⟨⟨as,.tuple ho hc hd (by simpa using ra)⟩,by simp only[PyData.canLay0];exact c,?_⟩;simp only[PyData.depth];omega
 |v,u,.list ds,n+1,h,r,q=>by obtain⟨a,vs,e,h1,r1⟩:=pV r;subst e;cases q;obtain⟨its,rv,⟨o,k,ho,hc,_,hd⟩,_⟩:=I.list h1;obtain⟨⟨as,ra⟩,c,dp⟩:=Reps.reads I ds n (h) r1 rv;refine⟨⟨a::as,.list ho hc hd (by simpa using ra)⟩,by simp only[PyData.canLay0];exact c,?_⟩;simp only[PyData.depth];omega
 |v,u,.dict es,n,h,r,q=>by cases n<;>cases h
theorem Reps.reads (I:Inv X pins U H s):∀{vs:List V} {us:List Value} (ds:List aq) (n:Nat),dQ n ds=true->Reps X.K H B vs ds->Vals vs us->(∃as,ReadsAll s.heap us ds as)/\PyData.canLayAll0 ds=true/\PyData.depthAll ds<=n
 |vs,us,[],n,_,r,q=>by have e:vs=[]:=r;subst e;cases q;exact⟨⟨[],.nil⟩,by simp only[PyData.canLayAll0],bw _⟩
 |vs,us,d::ds,n,h,r,q=>by
  obtain⟨v,t,e,h1,r1⟩:=r;subst e;rw[dQ,bq]at h;cases q with
  |cons q1 q2=>obtain⟨⟨as,ra⟩,c,dp⟩:=Rep.reads I d n h.1 h1 q1;obtain⟨⟨bs,rb⟩,c2,T4⟩:=Reps.reads I ds n h.2 r1 q2;refine⟨⟨as++bs,.cons ra rb⟩,by simp only[PyData.canLayAll0,c,c2,Bool.and_self],?_⟩;simp only[PyData.depthAll];exact Nat.max_le.mpr ⟨dp,T4⟩
end
end
section
variable {X:Cx}
def mB (m:D->D->Res Bool):D->D->Res D:=λx y=>m x y>>=λb=>.ok (.bool b)
theorem AH (h:mB m x y=.ok d):∃b,m x y=.ok b/\d=.bool b:=by obtain⟨b,h1,h2⟩:=Res.aA h;exact⟨b,h1,(Res.ok.inj h2).symm⟩
theorem F5 (hu:X.A.units+64<cLine):rG X (dz .Eq) (mB (cmpD .Eq)):=by
 rintro pins s U H x y v u Q I rx ry ⟨Bx,By,dx,dy,d,r1,r2,e,q⟩
 obtain⟨b,e',rfl⟩:=AH e;have e:=e';have e:(if(aN 40 dx&&aN 40 dy)=true then Res.ok (bW dx dy)else Res.no)=Res.ok b:=e;split at e
 ·rename_i hs;cases e;rw[bq]at hs;obtain⟨⟨as,ra⟩,c1,p1⟩:=Rep.reads I dx 40 hs.1 r1 rx;obtain⟨⟨bs,rb⟩,c2,p2⟩:=Rep.reads I dy 40 hs.2 r2 ry;exact SeqAt.compareEq_reads ra rb c1 c2 (by omega) ⟨.bl _,H,I,rfl,q _ H (Same.refl H) rfl⟩
 ·cases e
theorem F6 (hu:X.A.units+64<cLine):rG X (dz .NotEq) (mB (cmpD .NotEq)):=by
 rintro pins s U H x y v u Q I rx ry ⟨Bx,By,dx,dy,d,r1,r2,e,q⟩
 obtain⟨b,e',rfl⟩:=AH e;have e:=e';have e:(if(aN 40 dx&&aN 40 dy)=true then Res.ok (!bW dx dy)else Res.no)=Res.ok b:=e;split at e
 ·rename_i hs;cases e;rw[bq]at hs;obtain⟨⟨as,ra⟩,c1,p1⟩:=Rep.reads I dx 40 hs.1 r1 rx;obtain⟨⟨bs,rb⟩,c2,p2⟩:=Rep.reads I dy 40 hs.2 r2 ry;exact SeqAt.compareNe_reads ra rb c1 c2 (by omega) ⟨.bl _,H,I,rfl,q _ H (Same.refl H) rfl⟩
 ·cases e
theorem zkv (h:OpR X (dz op) r)(hI:∀i j b H Q,cmpD op (.int i) (.int j)=.ok b->Q (.bl b) H->r (.int i) (.int j) H Q)(hS:∀i j b H Q,cmpD op (.str i) (.str j)=.ok b->Q (.bl b) H->r (.str i) (.str j) H Q)
  (hm:∀dx dy b,cmpD op dx dy=.ok b->(∃i j,dx=.int i/\dy=.int j)\/∃i j,dx=.str i/\dy=.str j):rG X (dz op) (mB (cmpD op)):=by
 refine OpR.imp h λx y H Q h=>?_;obtain⟨Bx,By,dx,dy,d,rx,ry,e,q⟩:=h;obtain⟨b,e',rfl⟩:=AH e;have e:=e';rcases hm dx dy b e with⟨i,j,rfl,rfl⟩|⟨i,j,rfl,rfl⟩
 ·have e1:x=.int i:=rx;have e2:=ry;subst e1 e2;exact hI i j b H Q e (q _ H (Same.refl H) rfl)
 ·have e1:x=.str i:=rx.1;have e2:=ry.1;subst e1 e2;exact hS i j b H Q e (q _ H (Same.refl H) rfl)
theorem F7:rG X (dz .Lt) (mB (cmpD .Lt)):=zkv Fy (λi j b H Q e q=>by cases e;exact To q) (λi j b H Q e q=>by cases e;exact Tr q) λdx dy b e=>by cases dx<;>first|exact(gE e).elim|(cases dy<;>first|exact .inl ⟨_,_,rfl,rfl⟩|exact .inr ⟨_,_,rfl,rfl⟩|exact(gE e).elim)
theorem F9:rG X (dz .Gt) (mB (cmpD .Gt)):=zkv Fz (λi j b H Q e q=>by cases e;exact Tq q) (λi j b H Q e q=>by cases e;exact Ts q) λdx dy b e=>by cases dx<;>first|exact(gE e).elim|(cases dy<;>first|exact .inl ⟨_,_,rfl,rfl⟩|exact .inr ⟨_,_,rfl,rfl⟩|exact(gE e).elim)
theorem Ga:rG X (dz .GtE) (mB (cmpD .GtE)):=zkv RE (λi j b H Q e q=>by cases e;exact⟨i,j,rfl,rfl,q⟩) (λi j b H Q e q=>by cases e) λdx dy b e=>by cases dx<;>first|exact(gE e).elim|(cases dy<;>first|exact .inl ⟨_,_,rfl,rfl⟩|exact .inr ⟨_,_,rfl,rfl⟩|exact(gE e).elim)
theorem bC.val {K:W.Frag}(k:Key):∀{kvs:List (Key×V)} {es:bK},bC K H B kvs es->match gD es (kD k)with|some d=>∃v,cS kvs k=some v/\Rep K H B v d|none=>cS kvs k=none
 |kvs,[],r=>by have e:=r;subst e;exact rfl
 |kvs,(kd,d)::es,r=>by
  obtain⟨k',v,t,e,e2,ok,h,q⟩:=r;subst e e2;by_cases z:k'=k
  ·subst z
   have e1:gD ((kD k',d)::es) (kD k')=some d:=by
    have:eqK (kD k') (kD k')=true:=by cases k'<;>simp[kD,eqK]
    unfold gD;rw[List.find?_cons_of_pos (by exact this)];rfl
   rw[e1];exact⟨v,CK rfl,h⟩
  ·have e0:eqK (kD k') (kD k)=false:=by
    rw[ph];intro w;apply z;cases k'<;>cases k<;>simp[kD,eqK]at w<;>rw[w]
   have e1:gD ((kD k',d)::es) (kD k)=gD es (kD k):=by unfold gD;rw[List.find?_cons_of_neg (e0▸eg)]
   rw[e1,CL z];exact bC.val k q
theorem AI {K:W.Frag}(h:lU d=true)(r:Rep K H B v d):∃k,d=kD k/\v=kV k/\keyOk k:=by
 cases d<;>try (cases h;done)
 case int i=>exact⟨.inl i,rfl,r,True.intro⟩
 case str x=>exact⟨.inr x,rfl,r.1,r.2⟩
theorem ziu (hu:X.A.units+64<cLine)(ng:Bool)(I:Inv X pins U H s)(rx:RelV x v)(ry:RelV y u)
  (r1:Rep X.K H Bx x dx) (r2:Rep X.K H By y dy) (e:inD dx dy=.ok b) (q:Q (.bl (if ng then !b else b)) H):
  wpAny (model X.prog X.w) X.A (dz (if ng then .NotIn else .In) v u) (EP X pins U Q) X.xe s:=by
 cases dy<;>try (cases e;done)
 case list xs=>
  change(if(aN 40 dx&&dQ 40 xs)=true then Res.ok (xs.any λy=>bW y dx)else .no)=_ at e;split at e
  ·rename_i hs;cases e;rw[bq]at hs;obtain⟨⟨as,ra⟩,c1,p1⟩:=Rep.reads I dx 40 hs.1 r1 rx;obtain⟨⟨bs,rb⟩,c2,p2⟩:=Rep.reads I (.list xs) 41 hs.2 r2 ry;have AJ:PyData.canLayAll0 xs=true:=by simpa only[PyData.canLay0]using c2
   cases ng
   ·exact SeqAt.in_list_reads rb ra AJ c1 (by omega) ⟨.bl _,H,I,rfl,q⟩
   ·exact SeqAt.notIn_list_reads rb ra AJ c1 (by omega) ⟨.bl _,H,I,rfl,q⟩
  ·cases e
 case tuple xs=>
  change(if(aN 40 dx&&dQ 40 xs)=true then Res.ok (xs.any λy=>bW y dx)else .no)=_ at e;split at e
  ·rename_i hs;cases e;rw[bq]at hs;obtain⟨⟨as,ra⟩,c1,p1⟩:=Rep.reads I dx 40 hs.1 r1 rx;obtain⟨⟨bs,rb⟩,c2,p2⟩:=Rep.reads I (.tuple xs) 41 hs.2 r2 ry;have AJ:PyData.canLayAll0 xs=true:=by simpa only[PyData.canLay0]using c2
   cases ng
   ·exact SeqAt.in_tuple_reads rb ra AJ c1 (by omega) ⟨.bl _,H,I,rfl,q⟩
   ·exact SeqAt.notIn_tuple_reads rb ra AJ c1 (by omega) ⟨.bl _,H,I,rfl,q⟩
  ·cases e
 case dict es=>
  change(if lU dx=true then Res.ok (gD es dx).isSome else .no)=_ at e;split at e
  ·rename_i hk;cases e;obtain⟨k,rfl,rfl,_⟩:=AI hk r1;obtain⟨a,kvs,rfl,h1,_,h2⟩:=r2;cases ry;have hv:=h2.val k;have g:DGet H a (kV k) (cS kvs k):=DGet.k h1
   have hb:(cS kvs k).isSome=(gD es (kD k)).isSome:=by
    cases e:gD es (kD k)with
    |none=>rw[e]at hv;rw[show cS kvs k=none from hv];rfl
    |some d=>rw[e]at hv;obtain⟨v,hv,_⟩:=hv;rw[hv];rfl
   cases ng
   ·exact d_in (by omega) I g rx λs' I'=>⟨.bl _,H,I',rfl,by rw[hb];exact q⟩
   ·exact zmb (by omega) I g rx λs' I'=>⟨.bl _,H,I',rfl,by rw[hb];exact q⟩
  ·cases e
 case str z=>
  cases dx<;>try (cases e;done)
  rename_i w;have e1:=r1.1;have e2:=r2.1;subst e1 e2;change(match w.cps.toList with| [c]=>Res.ok (decide (c∈z.cps.toList))|_=>.no)=_ at e;split at e
  ·rename_i c hw;cases e
   have ew:w=⟨#[c]⟩:=by
    obtain⟨cps⟩:=w;have:cps=#[c]:=by rw[<-su (xs:=cps)];rw[show cps.toList=[c]from hw]
    rw[this]
   subst ew;cases ng
   ·exact FA pins s U H _ _ v u Q I rx ry (Tu q)
   ·exact Tb pins s U H _ _ v u Q I rx ry (Tv q)
  ·cases e
theorem Gb (hu:X.A.units+64<cLine):rG X (dz .In) (mB (cmpD .In)):=by
 rintro pins s U H x y v u Q I rx ry ⟨Bx,By,dx,dy,d,r1,r2,e,q⟩
 obtain⟨b,e',rfl⟩:=AH e;exact ziu hu false I rx ry r1 r2 e' (q _ H (Same.refl H) rfl)
theorem T5 (hu:X.A.units+64<cLine):rG X (dz .NotIn) (mB (cmpD .NotIn)):=by
 rintro pins s U H x y v u Q I rx ry ⟨Bx,By,dx,dy,d,r1,r2,e,q⟩
 obtain⟨b,e',rfl⟩:=AH e;obtain⟨b',e1,e2⟩:=Res.aA e';cases e2;exact ziu hu true I rx ry r1 r2 e1 (q _ H (Same.refl H) rfl)
theorem Ge (hu:X.A.units+64<cLine)(op:CmpOp)(h:z6r op=true):rG X (dz op) (mB (cmpD op)):=by
 cases op<;>try (cases h;done)
 ·exact F5 hu
 ·exact F6 hu
 ·exact F7
 ·exact F9
 ·exact Ga
 ·exact Gb hu
 ·exact T5 hu
end
section
variable {X:Cx}{a b c e:Expr}{es:List Expr}{fa fb fc:Rho->Res GD}{pos:Pos}
theorem C8 (h:PE X e (tC v))(r:∀H B,Rep X.K H B v d):PE X e (tD X.K λ_=>.ok (.fr,d)):=PE.imp h λU H Q ⟨Y,F,x,so,e,q⟩=>by cases e;exact q v H (Same.refl H) (r H _)
theorem T6 {i:Nat}(hN:X.N[i]?=some x)(hv:Vis X.env.scope x)(hd:aac x)(hcd:(x==("__classdict__":Str))=false):PE X (.Name x pos) (tD X.K λY=>CZ Y[i]?):=PE.imp (uS hN hv hd hcd) λU H Q ⟨Y,F,x,so,e,q⟩=>by obtain⟨v,h1,h2⟩:=so.rd e;exact⟨v,h1,q v H (Same.refl H) h2⟩
theorem LS {K:W.Frag}(r:Rep K H' B v d)(h:∀a,B a->BG F H g a)(n:∀ds,d=.list ds->imms ds=true->Rep K H' (nw H) v d):Rep K H' (BG F H (gN d g)) v d:=by
 cases d with
 |list ds=>
  show Rep K H' (BG F H (if imms ds=true then .fr else g)) v _;split
  ·rename_i hi;exact n ds rfl hi
  ·exact r.weak h
 |_=>exact tP r h
theorem T7 (ho:C3 op=true)(ha:PE X a (tD X.K fa))(hb:PE X b (tD X.K fb)):PE X (.BinOp a op b pos) (tD X.K λY=>fa Y>>=λx=>fb Y>>=λy=>cW op x.2 y.2>>=λd=>.ok (gN d (cU [x,y]),d)):=
 PE.imp (K2 (LR op ho) ha hb) λU H Q ⟨Y,F,z,so,e,q⟩=>by
  obtain⟨x,e1,e⟩:=Res.aA e;obtain⟨y,e2,e⟩:=Res.aA e;obtain⟨d,e3,e⟩:=Res.aA e;cases e;refine⟨Y,F,x,so,e1,λv H1 s1 rv=>⟨Y,F,y,so.same s1,e2,λu H2 s2 ru=>⟨_,_,x.2,y.2,d,rv.same s2 λ_ z=>z,ru,e3,λw H3 s3 bE nn=>q w H3 ((s1.trans s2).trans s3) (LS bE (λa h=>?_) λds z hi=>(nn ds z hi).weak λ_ z=>nw.back (s1.trans s2) z)⟩⟩⟩;rcases h with h|h|h
  ·exact FY so.aJ (s1.trans s2) h
  ·exact AG so.aJ (by simp) h
  ·exact AG so.aJ (by simp) (h.back s1)
theorem LU (h:tD X.K (λY=>fa Y>>=λx=>fb Y>>=λy=>cmpD op x.2 y.2>>=λb=>.ok (.fr,.bool b)) U H Q):lO (yx X.K (mB (cmpD op))) (tD X.K fa) (tD X.K fb) U H Q:=by obtain⟨Y,F,z,so,e,q⟩:=h;obtain⟨x,e1,e⟩:=Res.aA e;obtain⟨y,e2,e⟩:=Res.aA e;obtain⟨d,e3,e⟩:=Res.aA e;cases e;exact⟨Y,F,x,so,e1,λv H1 s1 rv=>⟨Y,F,y,so.same s1,e2,λu H2 s2 ru=>⟨_,_,x.2,y.2,.bool d,rv.same s2 λ_ z=>z,ru,by show(cmpD op x.2 y.2>>=λb=>Res.ok (PyData.bool b))=_;rw[e3];rfl,λw H3 s3 bE=>q w H3 ((s1.trans s2).trans s3) bE⟩⟩⟩
theorem zs6 (hu:X.A.units+64<cLine)(ho:z6r op=true)(hm:gk op b=false)(ha:PE X a (tD X.K fa))(hb:PE X b (tD X.K fb)):
  PE X (.Compare a [op] [b] pos) (tD X.K λY=>fa Y>>=λx=>fb Y>>=λy=>cmpD op x.2 y.2>>=λb=>.ok (.fr,.bool b)):=
 PE.imp (RH (Ge hu op ho) ha hb hm) λU H Q h=>LU h
theorem T8 (ht:∀U H Q,tD X.K f U H Q->t U H Q)(hb:∀Y x,f Y=.ok x->∃c,x.2=.bool c)(U:L2.St)(H:Hp)(Q:Bool->Hp->Prop)(h:eJ X.K (λY=>f Y>>=λx=>kY x.2) U H Q):zP t U H Q:=by obtain⟨Y,F,c,so,e,q⟩:=h;obtain⟨x,e1,e⟩:=Res.aA e;obtain⟨k,e2⟩:=hb Y x e1;rw[e2]at e;cases e;refine ht U H _ ⟨Y,F,x,so,e1,λv H' s r=>?_⟩;rw[e2]at r;exact⟨k,r,q H' s⟩
theorem T9 (e:(fa Y>>=λx=>fb Y>>=λy=>cmpD op x.2 y.2>>=λb=>Res.ok ((.fr,.bool b):GD))=.ok x):∃c,x.2=.bool c:=by obtain⟨x,e1,e⟩:=Res.aA e;obtain⟨y,e2,e⟩:=Res.aA e;obtain⟨d,e3,e⟩:=Res.aA e;cases e;exact⟨d,rfl⟩
theorem zsu (hu:X.A.units+64<cLine)(ho:z6r op=true)(hm:gk op b=false)(ha:PE X a (tD X.K fa))(hb:PE X b (tD X.K fb)):
  PT X (.Compare a [op] [b] pos) (eJ X.K λY=>(fa Y>>=λx=>fb Y>>=λy=>cmpD op x.2 y.2>>=λb=>Res.ok ((.fr,.bool b):GD))>>=λx=>kY x.2):=
 PT.imp (K4 (Ge hu op ho) ha hb hm) (T8 (λU H Q h=>LU h) λY x e=>T9 e)
def Gf (fa fb:Rho->Res GD):Rho->Res GD:=λY=>fa Y>>=λx=>match x.2 with|.bool c=>if c then fb Y else .ok (.fr,.bool false)|_=>.no
def T' (fa fb:Rho->Res GD):Rho->Res GD:=λY=>fa Y>>=λx=>match x.2 with|.bool c=>if c then .ok (.fr,.bool true)else fb Y|_=>.no
theorem C9 (s1:Same H H1)(so:StOk X.K F H U Y)(e:f Y=.ok x)(q:∀v H',Same H H'->Rep X.K H' (BG F H x.1) v x.2->Q v H'):tD X.K f U H1 Q:=⟨Y,F,x,so.same s1,e,λv H' s r=>q v H' (s1.trans s) (r.weak λ_ b=>b.back s1)⟩
theorem LV {rest:List Expr}(ha:PE X a (tD X.K fa))(hb:PE X (.BoolOp .And (b::rest) pos) (tD X.K fb)):PE X (.BoolOp .And (a::b::rest) pos) (tD X.K (Gf fa fb)):=
 PE.imp (Rg ha hb) λU H Q ⟨Y,F,z,so,e,q⟩=>by
  obtain⟨x,e1,e⟩:=Res.aA e;refine⟨Y,F,x,so,e1,λv H1 s1 rv=>?_⟩;obtain⟨g,d⟩:=x;cases d<;>try (cases e;done)
  rename_i c;refine⟨c,rv,?_⟩;cases c with
  |true=>exact lS (C9 s1 so e q)
  |false=>cases e;exact lR (q _ H1 s1 rfl)
theorem AK {rest:List Expr}(ha:PE X a (tD X.K fa))(hb:PE X (.BoolOp .Or (b::rest) pos) (tD X.K fb)):PE X (.BoolOp .Or (a::b::rest) pos) (tD X.K (T' fa fb)):=
 PE.imp (Rh ha hb) λU H Q ⟨Y,F,z,so,e,q⟩=>by
  obtain⟨x,e1,e⟩:=Res.aA e;refine⟨Y,F,x,so,e1,λv H1 s1 rv=>?_⟩;obtain⟨g,d⟩:=x;cases d<;>try (cases e;done)
  rename_i c;refine⟨c,rv,?_⟩;cases c with
  |false=>exact lR (C9 s1 so e q)
  |true=>cases e;exact lS (q _ H1 s1 rfl)
theorem LW {K:W.Frag}(r:Rep K H B v d)(e:kY d=.ok k):uZ K v H k:=by
 cases d with
 |none=>cases e;have e1:v=.bD:=r;subst e1;exact rfl
 |bool b=>cases e;have e1:v=.bl b:=r;subst e1;exact rfl
 |int b=>cases e;have e1:v=.int b:=r;subst e1;show(!decide (b=0))=(b != 0);rw[bne,mv]
 |str b=>
  have e1:=r.1;subst e1;simp only[kY]at e;split at e
  ·rename_i hl;cases e;refine⟨mI hl,?_⟩;rw[bne,mv]
   congr 1
   rw[decide_eq_decide];omega
  ·cases e
 |tuple ds=>cases e;obtain⟨a,vs,e1,h,q⟩:=r;subst e1;refine .inr (.inl ⟨vs,h,?_⟩);show(!ds.isEmpty)=!vs.isEmpty;have:=q.length;cases vs<;>cases ds<;>simp at this ⊢
 |list ds=>cases e;obtain⟨a,vs,e1,h,q⟩:=pV r;subst e1;refine .inl ⟨vs,h,?_⟩;show(!ds.isEmpty)=!vs.isEmpty;have:=q.length;cases vs<;>cases ds<;>simp at this ⊢
 |dict es=>
  cases e;obtain⟨a,kvs,e1,h,_,q⟩:=r;subst e1;refine .inr (.inr ⟨kvs,h,?_⟩);cases es with
  |nil=>have e2:kvs=[]:=q;subst e2;rfl
  |cons e0 er=>obtain⟨k,v,t,e2,_⟩:=q;subst e2;rfl
theorem Ua (ha:PE X a (tD X.K fa)):PE X (.UnaryOp .Not a pos) (tD X.K λY=>fa Y>>=λx=>kY x.2>>=λc=>.ok (.fr,.bool (!c))):=by
 rintro pins s U H Q I ⟨Y,F,z,so,e,q⟩
 obtain⟨x,e1,e⟩:=Res.aA e;obtain⟨k,e2,e⟩:=Res.aA e;cases e;refine UnaryOp_ (aM (ha pins s U H (λv H1=>Same H H1/\Rep X.K H1 (BG F H x.1) v x.2) I ⟨Y,F,x,so,e1,λv H1 s1 rv=>⟨s1,rv⟩⟩) λv s1 zz=>?_);obtain⟨y,H1,I1,r1,s2,rv⟩:=zz;exact not_of (aM (K6 pins s1 U H1 y v (λb H2=>b=k/\H2=H1) I1 r1 ⟨k,LW rv e2,rfl,rfl⟩) λb hU ⟨H2,I2,eb,eH⟩=>by subst eb eH;exact⟨.bl _,H2,I2,rfl,q _ H2 s2 rfl⟩)
theorem Ub (ha:PE X e (tD X.K fa))(he:∀whole,wu e X.env whole=(do let v <-whole;standAt e.pos;holding [v] (truthy v))):PT X e (eJ X.K λY=>fa Y>>=λx=>kY x.2):=PT.imp (zgj ha he) λU H Q ⟨Y,F,k,so,e,q⟩=>by obtain⟨x,e1,e⟩:=Res.aA e;exact⟨Y,F,x,so,e1,λv H1 s1 rv=>⟨k,LW rv e,q H1 s1⟩⟩
section
variable {ta tb:Rho->Res Bool}{rest:List Expr}
theorem LX (s1:Same H H1)(so:StOk X.K F H U Y)(e:f Y=.ok x)(q:∀H',Same H H'->Q x H'):eJ X.K f U H1 Q:=⟨Y,F,x,so.same s1,e,λH' s=>q H' (s1.trans s)⟩
theorem w_and (ha:PT X a (eJ X.K ta))(hb:PW X (.BoolOp .And (b::rest) pos) (eJ X.K tb)):PW X (.BoolOp .And (a::b::rest) pos) (eJ X.K λY=>ta Y>>=λc=>if c then tb Y else .ok false):=
 PW.imp (EE ha hb) λU H Q ⟨Y,F,k,so,e,q⟩=>by
  obtain⟨x,e1,e⟩:=Res.aA e;refine⟨Y,F,x,so,e1,λH1 s1=>?_⟩;cases x with
  |true=>exact lS (LX s1 so e q)
  |false=>cases e;simp_all
theorem w_or (ha:PT X a (eJ X.K ta))(hb:PW X (.BoolOp .Or (b::rest) pos) (eJ X.K tb)):PW X (.BoolOp .Or (a::b::rest) pos) (eJ X.K λY=>ta Y>>=λc=>if c then .ok true else tb Y):=
 PW.imp (EF ha hb) λU H Q ⟨Y,F,k,so,e,q⟩=>by
  obtain⟨x,e1,e⟩:=Res.aA e;refine⟨Y,F,x,so,e1,λH1 s1=>?_⟩;cases x with
  |false=>exact lR (LX s1 so e q)
  |true=>cases e;simp_all
theorem Gg (ha:PT X a (eJ X.K ta)):PT X (.UnaryOp .Not a pos) (eJ X.K λY=>ta Y>>=λc=>.ok (!c)):=PT.imp (KQ ha) λU H Q ⟨Y,F,k,so,e,q⟩=>by obtain⟨x,e1,e⟩:=Res.aA e;cases e;exact⟨Y,F,x,so,e1,λH1 s1=>q H1 s1⟩
theorem Uc (hc:PT X c (eJ X.K ta))(ha:PE X a (tD X.K fa))(hb:PE X b (tD X.K fb)):PE X (.IfExp c a b pos) (tD X.K λY=>ta Y>>=λk=>if k then fa Y else fb Y):=
 PE.imp (Rj hc ha hb) λU H Q ⟨Y,F,z,so,e,q⟩=>by
  obtain⟨x,e1,e⟩:=Res.aA e;refine⟨Y,F,x,so,e1,λH1 s1=>?_⟩;cases x with
  |true=>exact lS (C9 s1 so e q)
  |false=>exact lR (C9 s1 so e q)
end
theorem LY:PA X [] (tDA X.K λ_=>.ok []):=PA.imp lP λU H Q ⟨Y,F,z,so,e,q⟩=>by cases e;exact q [] H (Same.refl H) rfl
theorem Gh (hs:isStar e=false)(ha:PE X e (tD X.K fa))(hr:PA X es (tDA X.K fs)):PA X (e::es) (tDA X.K λY=>fa Y>>=λx=>fs Y>>=λxs=>.ok (x::xs)):=PA.imp (eF ha hr hs) λU H Q ⟨Y,F,z,so,e,q⟩=>by obtain⟨x,e1,e⟩:=Res.aA e;obtain⟨xs,e2,e⟩:=Res.aA e;cases e;refine⟨Y,F,x,so,e1,λv H1 s1 rv=>⟨Y,F,xs,so.same s1,e2,λvs H2 s2 rs=>q _ H2 (s1.trans s2) ?_⟩⟩;exact⟨v,vs,rfl,rv.same s2 λ_ z=>z,rs.back s1⟩
theorem Ud {x1}(h:PA X es (tDA X.K fs))(hl:∀Y xs,fs Y=.ok xs->xs.length<=bc):PE X (.Tuple es x1 pos) (tD X.K λY=>fs Y>>=λys=>.ok (gJ (.tuple (ys.map (·.2))) (cU ys),.tuple (ys.map (·.2)))):=PE.imp (K7 h) λU H Q ⟨Y,F,z,so,e,q⟩=>by obtain⟨ys,e1,e⟩:=Res.aA e;cases e;refine⟨Y,F,ys,so,e1,λvs H1 s1 rs=>?_⟩;have r:=rs.oN λx hx a h=>AG so.aJ hx h;refine⟨by rw[r.length,ae];exact hl Y ys e1,λp hp=>q _ _ (s1.trans (Same.upd hp)) (tP (C6 hp r λ_ z=>z) λ_ z=>z)⟩
theorem Ue (h:PA X es (tDA X.K fs))(hl:∀Y xs,fs Y=.ok xs->xs.length<=bc):PE X (.List es pos) (tD X.K λY=>fs Y>>=λys=>.ok (cU ys,.list (ys.map (·.2)))):=PE.imp (K8 h) λU H Q ⟨Y,F,z,so,e,q⟩=>by obtain⟨ys,e1,e⟩:=Res.aA e;cases e;refine⟨Y,F,ys,so,e1,λvs H1 s1 rs=>?_⟩;have r:=rs.oN λx hx a h=>AG so.aJ hx h;refine⟨by rw[r.length,ae];exact hl Y ys e1,λp hp=>q _ _ (s1.trans (Same.upd hp)) (tQ hp r (λ_ z=>z) (FY so.aJ s1 hp))⟩
theorem Ug:PE X (.Dict [] [] pos) (tD X.K λ_=>.ok (.fr,.dict [])):=PE.imp RV λU H Q ⟨Y,F,z,so,e,q⟩=>by cases e;intro p hp;exact q _ _ (Same.upd hp) ⟨p,[],rfl,aW,hp,rfl⟩
end
theorem Uh {α:Type}(xs:List α)(i:Int):L2.dF xs i=Mi.dF xs i:=rfl
theorem Ui (n d:Nat)(o:Option Int):HT.aZ n d o=Mi.aZ n d o:=by cases o<;>rfl
theorem Reps.cut {K:W.Frag}(lo hi:Option Int)(r:Reps K H B vs ds):Reps K H B (Mi.cut vs lo hi) (Mi.cut ds lo hi):=by unfold Mi.cut;rw[r.length];exact(r.drop _).take _
theorem Reps.dF {K:W.Frag}(r:Reps K H B vs ds)(e:Mi.dF ds i=some d):∃v,L2.dF vs i=some v/\Rep K H B v d:=by
 unfold Mi.dF at e;cases e1:Mi.jU ds.length i with
 |none=>rw[e1]at e;cases e
 |some j=>rw[e1]at e;obtain⟨v,h1,h2⟩:=r.get e;refine⟨v,?_,h2⟩;rw[Uh];unfold Mi.dF;rw[r.length,e1];exact h1
section
variable {X:Cx}{a b c e:Expr}{es:List Expr}{fa fb fc:Rho->Res GD}{pos:Pos}
theorem Uj (hu:X.A.units+64<cLine):nG X (λx y H Q=>∃a v,x=.ref a/\DGet H a y (some v)/\Q v H):=by intro value slice pins s U H x y v u Q I rx ry h hs;obtain⟨a,z,rfl,g,q⟩:=h;cases rx;exact tail_any (RT I g) PySem.F.slot_dict_getitem.lookup (zb8 (by omega) I g ry λw' s' I' bE=>⟨z,H,I',bE,q⟩) hs
def oO (K:W.Frag):R2:=λx y H Q=>∃B B' dx dy d,Rep K H B x dx/\Rep K H B' y dy/\fC dx dy=.ok d/\∀w,Rep K H B w d->Q w H
theorem LZ (hu:X.A.units+64<cLine):nG X (oO X.K):=by
 intro value slice pins s U H x y v u Q I rx ry h hs;refine(Tc.or (Uj hu)) value slice pins s U H x y v u Q I rx ry ?_ hs;obtain⟨B,B',dx,dy,d,r1,r2,e,q⟩:=h;cases dx<;>try (cases e;done)
 case list xs=>
  cases dy<;>try (cases e;done)
  rename_i i;subst r2;obtain⟨a,vs,rfl,h1,q1⟩:=pV r1;change Res.fO (Mi.dF xs i)=_ at e;cases e3:Mi.dF xs i with
  |none=>rw[e3]at e;cases e
  |some d'=>rw[e3]at e;cases e;obtain⟨w,h3,h4⟩:=q1.dF e3;exact .inl (.inl ⟨a,vs,i,w,rfl,rfl,h1,h3,q w h4⟩)
 case tuple xs=>
  cases dy<;>try (cases e;done)
  rename_i i;subst r2;obtain⟨a,vs,rfl,h1,q1⟩:=r1;change Res.fO (Mi.dF xs i)=_ at e;cases e3:Mi.dF xs i with
  |none=>rw[e3]at e;cases e
  |some d'=>rw[e3]at e;cases e;obtain⟨w,h3,h4⟩:=q1.dF e3;exact .inl (.inr (.inl ⟨a,vs,i,w,rfl,rfl,h1,h3,q w h4⟩))
 case str z=>
  cases dy<;>try (cases e;done)
  rename_i i;have e1:=r1.1;subst e1 r2;change(if z.length<=bJ then Res.fO ((Mi.dF z.cps.toList i).map λc=>PyData.str ⟨#[c]⟩)else .no)=_ at e;split at e
  ·rename_i hl;cases e3:Mi.dF z.cps.toList i with
   |none=>rw[e3]at e;cases e
   |some c=>
    rw[e3]at e;cases e
    have hc:c∈z.cps.toList:=by
     unfold Mi.dF at e3;cases e4:Mi.jU z.cps.toList.length i with
     |none=>rw[e4]at e3;cases e3
     |some j=>rw[e4]at e3;exact b0 e3
    exact .inl (.inr (.inr ⟨z,i,c,rfl,rfl,mI hl,e3,q _ ⟨rfl,LP r1.2 hc⟩⟩))
  ·cases e
 case dict es=>
  change(if lU _=true then Res.fO (gD es _)else Res.no)=_ at e;split at e
  ·rename_i hk;obtain⟨k,rfl,rfl,_⟩:=AI hk r2;obtain⟨a,kvs,rfl,h1,_,h2⟩:=r1;have hv:=h2.val k;cases e3:gD es (kD k)with
   |none=>rw[e3]at e;cases e
   |some d'=>rw[e3]at e hv;cases e;obtain⟨w,h3,h4⟩:=hv;exact .inr ⟨a,w,rfl,by rw[<-h3];exact DGet.k h1,q w h4⟩
  ·cases e
theorem Gi (h:z3f i=true):Lq i:=λo v=>by cases i<;>first|rfl|cases h
theorem d_ix (hu:X.A.units+64<cLine)(hs:z3f i=true)(ha:PE X a (tD X.K fa))(hb:PE X i (tD X.K fb)):
  PE X (.Subscript a i pos) (tD X.K λY=>fa Y>>=λx=>fb Y>>=λy=>fC x.2 y.2>>=λd=>.ok (gJ d x.1,d)):=
 PE.imp (E3 (LZ hu) ha hb (Gi hs)) λU H Q ⟨Y,F,z,so,e,q⟩=>by obtain⟨x,e1,e⟩:=Res.aA e;obtain⟨y,e2,e⟩:=Res.aA e;obtain⟨d,e3,e⟩:=Res.aA e;cases e;exact⟨Y,F,x,so,e1,λv H1 s1 rv=>⟨Y,F,y,so.same s1,e2,λu H2 s2 ru=>⟨_,_,x.2,y.2,d,rv.same s2 λ_ z=>z,ru,e3,λw bE=>q w H2 (s1.trans s2) (tP bE λ_ z=>z)⟩⟩⟩
theorem Uk (h:PyData.strOk z=true)(lo hi:Option Int):PyData.strOk (vQ z lo hi)=true:=
 C5.mpr λc hc=>C5.mp h c (by
  have:c∈Mi.cut z.cps.toList lo hi:=by simpa[vQ]using hc
  exact List.mem_of_mem_drop (List.mem_of_mem_take this))
theorem L0 (lo hi:Option Int)(n:Nat):iz lo hi 1 n=sliceRange ((Mi.aZ n 0 lo:Nat):Int) ((Mi.aZ n n hi:Nat):Int) 1:=by
 delta iz
 simp
 congr 1
 ·cases lo with
  |none=>rfl
  |some v=>
   simp only[Mi.aZ];by_cases h:v<0
   ·simp only[xu h];omega
   ·simp only[xw h];omega
 ·cases hi with
  |none=>rfl
  |some v=>
   simp only[Mi.aZ];by_cases h:v<0
   ·simp only[xu h];omega
   ·simp only[xw h];omega
theorem Ul (n d:Nat)(hd:d<=n)(o:Option Int):Mi.aZ n d o<=n:=by rw[<-Ui];exact HT.vG n d hd o
theorem Um (z:Str)(lo hi:Option Int):Txt.slice z lo hi=vQ z lo hi:=by
 have hn:z.cps.toList.length=z.length:=by simp[Str.length]
 have e:(iz lo hi 1 z.length).filterMap (z.cps[·]?)=Mi.cut z.cps.toList lo hi:=by rw[L0,sj,pick_run];unfold Mi.cut;rw[hn]
 have hl:(iz lo hi 1 z.length).length=Mi.aZ z.length z.length hi-Mi.aZ z.length 0 lo:=by rw[L0,sj,ae,pi]
 unfold Txt.slice;split
 ·rename_i hc;simp at hc;have h2:=Ul z.length z.length (ag _) hi
  have e2:Mi.cut z.cps.toList lo hi=z.cps.toList:=by
   unfold Mi.cut;rw[hn];by_cases h0:Mi.aZ z.length 0 lo=0
   ·rw[h0,List.drop_zero,i5 (by grind)]
   ·have hz:z.length=0:=by omega
    have:z.cps.toList=[]:=ip.mp (hn▸hz);rw[this];simp
  unfold vQ;rw[e2]
 ·unfold vQ;rw[<-e]
def Gj (K:W.Frag):V->Option Int->Option Int->Hp->VK->Prop:=λx lo hi H Q=>∃B dx d,Rep K H B x dx/\FE dx lo hi=.ok d/\∀w H',Same H H'->Rep K H' (λa=>nw H a\/B a) w d->(∀ds,d=.list ds->imms ds=true->Rep K H' (nw H) w d)->Q w H'
theorem Uo:pR X (Gj X.K):=by
 intro pins s U H x v vl vu lo hi sl Q I rx hs pl pu h;refine(Td.or R') pins s U H x v vl vu lo hi sl Q I rx hs pl pu ?_;obtain⟨B,dx,d,r,e,q⟩:=h;cases dx<;>try (cases e;done)
 case list xs=>cases e;obtain⟨a,vs,rfl,h1,q1⟩:=pV r;refine .inl (.inl ⟨a,vs,rfl,h1,λp hp=>?_⟩);exact q _ _ (Same.upd hp) (tQ hp (q1.cut lo hi) (λ_ z=>.inr z) (.inl hp)) λds z qQ=>by cases z;exact tQ hp (Reps.bB _ qQ (q1.cut lo hi)) (λ_ z=>z) hp
 case tuple xs=>
  change(if aZ xs.length 0 lo=0/\aZ xs.length xs.length hi=xs.length then Res.no else Res.ok (PyData.tuple (cut xs lo hi)))=_ at e;split at e
  ·cases e
  ·rename_i hw;cases e;obtain⟨a,vs,rfl,h1,q1⟩:=r;refine .inr ⟨a,vs,rfl,h1,by rw[q1.length];exact hw,λp hp=>?_⟩;exact q _ _ (Same.upd hp) (C6 hp (q1.cut lo hi) λ_ z=>.inr z) λds z=>by cases z
 case str z=>
  change(if z.length<=bJ then Res.ok (PyData.str (vQ z lo hi))else .no)=_ at e;split at e
  ·rename_i hl;cases e;have e1:=r.1;subst e1;refine .inl (.inr ⟨z,rfl,mI hl,?_⟩);rw[Um];exact q _ H (Same.refl H) ⟨rfl,Uk r.2 lo hi⟩ λds z=>by cases z
  ·cases e
theorem Up:PO X none (tDO X.K λ_=>.ok none):=PO.imp R6 λU H Q ⟨Y,F,z,so,e,q⟩=>by cases e;exact q H (Same.refl H)
theorem Uq (ha:PE X a (tD X.K fa)):PO X (some a) (tDO X.K λY=>fa Y>>=λx=>Ap x.2):=
 PO.imp (R7 ha) λU H Q ⟨Y,F,z,so,e,q⟩=>by
  obtain⟨x,e1,e⟩:=Res.aA e;refine⟨Y,F,x,so,e1,λv H1 s1 rv=>?_⟩;obtain⟨g,d⟩:=x;cases d<;>try (cases e;done)
  cases e;exact⟨_,rv,q H1 s1⟩
theorem d_sl {lo:Option Expr}(ha:PE X a (tD X.K fa))(hl:PO X lo (tDO X.K fl))(hh:PO X hi (tDO X.K fh)):
  PE X (.Subscript a (.Slice lo hi none p2) pos) (tD X.K λY=>fa Y>>=λx=>fl Y>>=λl=>fh Y>>=λh=>FE x.2 l h>>=λd=>.ok (gN d (cU [x]),d)):=
 PE.imp (R9 Uo ha hl hh) λU H Q ⟨Y,F,z,so,e,q⟩=>by
  obtain⟨x,e1,e⟩:=Res.aA e;obtain⟨l,e2,e⟩:=Res.aA e;obtain⟨h,e3,e⟩:=Res.aA e;obtain⟨d,e4,e⟩:=Res.aA e;cases e;refine⟨Y,F,x,so,e1,λv H1 s1 rv=>⟨Y,F,l,so.same s1,e2,λH2 s2=>⟨Y,F,h,so.same (s1.trans s2),e3,λH3 s3=>⟨_,x.2,d,rv.same (s2.trans s3) λ_ z=>z,e4,λw H4 s4 bE nn=>q w H4 ((s1.trans (s2.trans s3)).trans s4) (LS bE (λa h=>?_) λds z hi=>(nn ds z hi).weak λ_ z=>nw.back (s1.trans (s2.trans s3)) z)⟩⟩⟩⟩;rcases h with h|h
  ·exact FY so.aJ (s1.trans (s2.trans s3)) h
  ·exact AG so.aJ (by simp) h
theorem d_cB {id:String}(hc:CallR X (.builtin id) (ze6 X.K m))(hm:X.mg x=none)(hv:df x=some (.builtin id))(ha:PA X (e::es) (tDA X.K fs))(hst:((e::es).all fun e=>!isStar e)=true)(hg:Gl X x)(hn:x≠"__name__")(hdb:aac x):
  PE X (.Call (.Name x p) (e::es) [] pos) (tD X.K λY=>fs Y>>=λys=>m (ys.map (·.2))>>=λd=>.ok (gJ d .al,d)):=
 PE.imp (An hc hm hv ha hst hg hn hdb) λU H Q ⟨Y,F,z,so,e,q⟩=>by obtain⟨ys,e1,e⟩:=Res.aA e;obtain⟨d,e2,e⟩:=Res.aA e;cases e;exact⟨Y,F,ys,so,e1,λvs H1 s1 rs=>⟨_,_,d,rs.lA so.aJ,e2,λw H2 s2 bE=>q w H2 (s1.trans s2) (tP bE λa h=>h.elim (λz=>(nw.back s1 z).aJ so.aJ) λz=>z)⟩⟩
theorem bC.length {K:W.Frag}:∀{kvs:List (Key×V)} {es:bK},bC K H B kvs es->kvs.length=es.length
 |kvs,[],r=>by have e:kvs=[]:=r;subst e;rfl
 |kvs,(kd,d)::es,r=>by obtain⟨k,v,t,rfl,_,_,_,q⟩:=r;rw[bt,bt,q.length]
theorem AL {K:W.Frag}(r:Reps K H B xs [d]):∃v,xs=[v]/\Rep K H B v d:=by obtain⟨v,t,e,h,q⟩:=r;subst e q;exact⟨v,rfl,h⟩
theorem Gk {K:W.Frag}(r:Reps K H B xs [d,d']):∃v v',xs=[v,v']/\Rep K H B v d/\Rep K H B v' d':=by obtain⟨v,t,e,h,q⟩:=r;obtain⟨v',e2,h'⟩:=AL q;subst e e2;exact⟨v,v',rfl,h,h'⟩
theorem Ur:CallR X (.builtin "len") (ze6 X.K (nH "len")):=by
 refine CallR.imp (Tf.or SJ) λxs H Q h=>?_;obtain⟨B,ds,d,r,e,q⟩:=h;simp only[nH,if_true]at e;split at e
 ·rename_i x;obtain⟨v,rfl,r1⟩:=AL r;clear r;have r:=r1;cases x<;>try (cases e;done)
  case str z=>
   change(if z.length<=bJ then Res.ok (PyData.int z.length)else .no)=_ at e;split at e
   ·rename_i hl;cases e;have e1:=r.1;subst e1;exact .inl (.inl ⟨z,rfl,mI hl,q _ H (Same.refl H) rfl⟩)
   ·cases e
  case tuple ds=>cases e;obtain⟨a,vs,rfl,h1,q1⟩:=r;exact .inl (.inr ⟨a,vs,rfl,.inr h1,q _ H (Same.refl H) (q1.length▸rfl)⟩)
  case list ds=>cases e;obtain⟨a,vs,rfl,h1,q1⟩:=pV r;exact .inl (.inr ⟨a,vs,rfl,.inl h1,q _ H (Same.refl H) (q1.length▸rfl)⟩)
  case dict ds=>cases e;obtain⟨a,vs,rfl,h1,_,q1⟩:=r;exact .inr ⟨a,vs,rfl,h1,q _ H (Same.refl H) (q1.length▸rfl)⟩
 ·cases e
theorem Us (hc:X.calm=true):CallR X (.builtin "max") (ze6 X.K (nH "max")):=by
 refine CallR.imp (RK hc) λxs H Q h=>?_;obtain⟨B,ds,d,r,e,q⟩:=h;simp only[nH,show("max":String)≠"len" by decide,if_true,if_false]at e;split at e
 ·rename_i i j;cases e;obtain⟨v,v',rfl,h1,h2⟩:=Gk r;subst h1 h2;refine⟨i,j,rfl,q _ H (Same.refl H) ?_⟩
  congr 1
  split<;>omega
 ·cases e
theorem zgv (I:Inv X pins U H s)(rx:RelV x u)(r:Rep X.K H B x d)(hT:T∈tysB)
  (h:∀tk,Q (.bool (qW (lW d) T)) {s with toks:=tk}):wpAny (model X.prog X.w) A (call (.builtin "isinstance") [u,.type T]) Q E s:=by
 have ht:lW d∈qU:=by cases d<;>simp[lW,qU]
 have e:=Ti X.K _ ht T hT;cases d with
 |none=>have e1:x=.bD:=r;subst e1;exact z2b I rx .bD e h
 |bool b=>have e1:x=.bl b:=r;subst e1;exact z2b I rx (.bl b) e h
 |int b=>have e1:x=.int b:=r;subst e1;exact z2b I rx (.int b) e h
 |str b=>have e1:x=.str b:=r.1;subst e1;exact z2b I rx (.str b) e h
 |tuple ds=>obtain⟨a,vs,rfl,h1,_⟩:=r;cases rx;obtain⟨_,_,⟨o,ho,hc,_⟩,_⟩:=I.tuple h1;exact W.kia_one W.kitx_tuple I.gB ⟨o,ho,hc⟩ e (λz=>nomatch z) h
 |list ds=>obtain⟨a,vs,rfl,h1,_⟩:=pV r;cases rx;obtain⟨_,_,⟨o,_,ho,hc,_⟩,_⟩:=I.list h1;exact W.kia_one W.kitx_list I.gB ⟨o,ho,hc⟩ e (λz=>nomatch z) h
 |dict es=>obtain⟨a,vs,rfl,h1,_⟩:=r;exact z2b I rx (.dK h1) e h
def Gn (K:W.Frag):List V->Hp->VK->Prop:=λxs H Q=>∃B x d T,xs=[x,.ty T]/\Rep K H B x d/\T∈tysB/\Q (.bl (qW (lW d) T)) H
theorem Ut:CallR X (.builtin "isinstance") (Gn X.K):=by
 rintro pins s U H xs us Q I r ⟨B,x,d,T,rfl,rx,hT,q⟩
 obtain⟨u,w',rfl,r1,r2⟩:=vals2 r;obtain rfl:w'=Value.type T:=r2;exact zgv I r1 rx hT λtk=>⟨.bl _,H,I.tok _,rfl,q⟩
theorem zv6 (hm:X.mg "isinstance"=none)(hg:Gl X "isinstance")(hm2:X.mg x2=none)(hv2:df x2=some (.type T))(hg2:Gl X x2)(hn2:x2≠"__name__")(hd2:aac x2)(hT:T∈tysB)(hs:isStar y=false)(ha:PE X y (tD X.K fa)):
  PE X (.Call (.Name "isinstance" p) [y,.Name x2 p2] [] pos) (tD X.K λY=>fa Y>>=λx=>.ok (.fr,.bool ([T].any λT=>qW (lW x.2) T))):=
 PE.imp (An Ut hm (by decide+kernel) (eF ha (eF (Q9 (v:=.ty T) hg2 hm2 hv2 rfl hn2 hd2) lP) hs) (by simp[hs];rfl) hg dc dc) λU H Q ⟨Y,F,z,so,e,q⟩=>by obtain⟨x,e1,e⟩:=Res.aA e;cases e;refine⟨Y,F,x,so,e1,λv H1 s1 rv=>?_⟩;refine⟨_,v,x.2,T,rfl,rv,hT,q _ H1 s1 ?_⟩;show V.bl _=V.bl _;simp
end
section
variable {X:Cx}{pos:Pos}
def Gp (K:W.Frag)(n:Nat)(t:uU):TG:=λv U H Q=>∃a xs,v=.ref a/\SqL K H a xs/\xs.length=n/\t xs U H Q
theorem Uu (hc:X.calm=true)(h:PGs X es t)(hn:(gm es X.env).length=n)(hst:(gm es X.env).findIdx? (·.1)=none):PG X (.Tuple es k pos) (Gp X.K n t):=by
 rintro pins s U H v u Q I r ⟨a,xs,rfl,hq,hl,hw⟩
 cases r;obtain⟨its,rv,pl,hz⟩:=I.list hq;apply ac;refine um ?_
 delta unpack
 rw[hst,show(gm es X.env).length=its.toArray.size by rw[hn,<-hl,rv.length,ax]];apply ac;refine dj (W.kun_itemsOf (I.ok.hd hc) pl.isList λh' hx=>?_);have I1:Inv X pins U H {s with heap:=h'}:=I.kept λb o e=>hx b o (cw (bn e)) e;exact h pins _ U H xs _ Q I1 (by simpa using rv) hw
end
def Kp (B:Ad->Prop)(H1 H2:Hp):Prop:=∀a o,H1 a=some o->(B (some a)\/Fix o)->H2 a=some o
theorem Kp.of (s:Same H1 H2):Kp B H1 H2:=λa o e _=>s a o e
structure Walk (K:W.Frag)(J:It)(B:Ad->Prop)(H1:Hp)(xs:List D):Prop where
 len:xs.length<=bc
 go:∀H2,Kp B H1 H2->∀i,i<xs.length->J.go i H2
 stop:∀H2,Kp B H1 H2->J.stop xs.length H2
 fU:∀H2,Kp B H1 H2->∀i x H3,i<xs.length->J.fU i H2 x H3->Same H2 H3/\∃d,xs[i]?=some d/\Rep K H3 B x d
def tDW (K:W.Frag)(f:Rho->Res (G×List D)):TI:=λU H R=>∃Y F w,StOk K F H U Y/\f Y=.ok w/\∀J B H',Same H H'->(∀a,B a->BG F H w.1 a/\¬nw H' a)->Walk K J B H' w.2->R J H'
theorem _root_.L2.PI.imp (h:PI X tg e t)(i:∀U H Q,t' U H Q->t U H Q):PI X tg e t':=λpins s U H Q I q=>h pins s U H Q I (i U H Q q)
section
variable {K:W.Frag}{H:Hp}{B:Ad->Prop}
theorem Uv (h:(H a=some (.lst vs)/\B (some a))\/(FL K H a vs/\B none))(r:Reps K H B vs ds)(hz:ds.length<=bc):Walk K (EO K a) B H ds:=by
 have sq:∀H2,Kp B H H2->SqL K H2 a vs:=λH2 k=>by
  rcases h with⟨h,b⟩|⟨⟨o,h⟩|h,_⟩
  ·exact .inl (.inl (k a _ h (.inl b)))
  ·exact .inl (.inr ⟨o,k a _ h (.inr True.intro)⟩)
  ·exact .inr h
 refine⟨hz,λH2 k i hi=>?_,λH2 k=>⟨vs,sq H2 k,by rw[r.length];exact ag _⟩,λH2 k i x H3 hi y=>?_⟩
 ·have hv:i<vs.length:=r.length▸hi;exact⟨vs,vs[i],sq H2 k,by simp[hv]⟩
 ·obtain⟨rfl,y⟩:=y;obtain⟨d,h1,h2⟩:=r.gZ (y vs (sq _ k));exact⟨Same.refl _,d,h1,Rep.keep k (λ_ z=>z) d h2⟩
theorem Uw (h:bL K H a vs)(r:Reps K H B vs ds)(hz:ds.length<=bc):Walk K (KZ K a) B H ds:=by
 have sq:∀H2,Kp B H H2->bL K H2 a vs:=λH2 k=>h.keep k;refine⟨hz,λH2 k i hi=>?_,λH2 k=>⟨vs,sq H2 k,by rw[r.length];exact ag _⟩,λH2 k i x H3 hi y=>?_⟩
 ·have hv:i<vs.length:=r.length▸hi;exact⟨vs,vs[i],sq H2 k,by simp[hv]⟩
 ·obtain⟨rfl,y⟩:=y;obtain⟨d,h1,h2⟩:=r.gZ (y vs (sq _ k));exact⟨Same.refl _,d,h1,Rep.keep k (λ_ z=>z) d h2⟩
theorem Ux (ok:PyData.strOk z=true)(hz:z.length<=bc):Walk K (Fv z) B H (z.cps.toList.map λc=>.str ⟨#[c]⟩):=by
 have hl:(z.cps.toList.map λc=>(PyData.str ⟨#[c]⟩:D)).length=z.cps.size:=by simp
 refine⟨by rw[hl];exact hz,λH2 k i hi=>?_,λH2 k=>?_,λH2 k i x H3 hi y=>?_⟩
 ·rw[hl]at hi;exact hi
 ·show z.cps.size<=_;rw[hl];simp_all
 ·obtain⟨rfl,c,hc,rfl⟩:=y;have tF:z.cps.toList[i]?=some c:=by simpa using hc
  refine⟨Same.refl _,.str ⟨#[c]⟩,by rw[az,tF];rfl,rfl,LP ok (b0 tF)⟩
theorem Uy {lo:Int}(hz:n<=bc):Walk K (CH lo n) B H ((fq n).map λ(i:Nat)=>.int (lo+i)):=by
 have hl:((fq n).map λ(i:Nat)=>(PyData.int (lo+i):D)).length=n:=by simp
 refine⟨by rw[hl];exact hz,λH2 k i hi=>?_,λH2 k=>?_,λH2 k i x H3 hi y=>?_⟩
 ·rw[hl]at hi;exact hi
 ·show n<=_;rw[hl];simp_all
 ·obtain⟨rfl,rfl⟩:=y;rw[hl]at hi;exact⟨Same.refl _,.int (lo+i),by rw[az,List.getElem?_range hi];rfl,rfl⟩
end
section
variable {X:Cx}{tg a b c e:Expr}{es:List Expr}{fa fb fc:Rho->Res GD}{pos:Pos}
theorem z36 (I1:Inv X pins U H1 s1)(r1:RelV y v)(rv:Rep X.K H1 B y d)(e:z4s d=.ok xs)
  (q:∀J,Walk X.K J B H1 xs->R J H1):wpAny (model X.prog X.w) X.A (uy v) (uV X pins U tg R) X.xe s1:=by
 cases d<;>try (cases e;done)
 case list ds=>
  cases e;obtain⟨a,vs,rfl,h,rs⟩:=rv
  have hq:SqL X.K H1 a vs:=by
   rcases h with⟨h,_⟩|⟨h|h,_⟩
   ·exact .inl (.inl h)
   ·exact .inl (.inr h)
   ·exact .inr h
  cases r1;obtain⟨its,wB,p,hz⟩:=I1.list hq;refine jz p.isList (⟨s1.heap.objs.size,[s1.heap.objs.size],_,_,H1,rfl,I1.kept λb o e=>af _ e,K0 a _,⟨_,a8 _ rfl,rfl,rfl⟩,λb hb=>?_,q _ (Uv h rs (rs.length▸hz))⟩);have e:b=s1.heap.objs.size:=by simpa using hb
  subst e;exact I1.gU (ag _) (I1.hok.fresh (ag _))
 case tuple ds=>
  cases e;obtain⟨a,vs,rfl,hq,rs⟩:=rv;cases r1;obtain⟨its,wB,p,hz⟩:=I1.tuple hq;refine vj p (⟨s1.heap.objs.size,[s1.heap.objs.size],_,_,H1,rfl,I1.kept λb o e=>af _ e,Ro a _,⟨_,a8 _ rfl,rfl,rfl⟩,λb hb=>?_,q _ (Uw hq rs (rs.length▸hz))⟩);have e:b=s1.heap.objs.size:=by simpa using hb
  subst e;exact I1.gU (ag _) (I1.hok.fresh (ag _))
 case str z=>
  change(if z.length<=bJ then Res.ok (z.cps.toList.map λc=>PyData.str ⟨#[c]⟩)else .no)=_ at e;split at e
  case isFalse=>cases e
  rename_i hs;cases e;have e1:=rv.1;subst e1;obtain⟨t,rfl⟩:=r1
  have fin:∀ty hty,uV X pins U tg R (.ref s1.heap.objs.size) {s1 with heap:=s1.heap.push {cls:=.type ty,data:=.fields #[.str z t,.int 0 0]}}:=λty hty=>by
   refine⟨s1.heap.objs.size,[s1.heap.objs.size],_,_,H1,rfl,I1.kept λb o e=>af _ e,S5 hty _ z t,⟨_,a8 _ rfl,rfl,rfl⟩,λb hb=>?_,(q _ (Ux rv.2 (mI hs)))⟩;have e:b=s1.heap.objs.size:=by simpa using hb
   subst e;exact I1.gU (ag _) (I1.hok.fresh (ag _))
  cases ha:z.cps.all (· <128)
  ·exact wpAny_pyIter_wide ha (fin _ (.inr rfl))
  ·exact wpAny_pyIter_ascii ha (fin _ (.inl rfl))
theorem cX (ha:PE X a (tD X.K fa)):PI X tg a (tDW X.K λY=>fa Y>>=λx=>z4s x.2>>=λxs=>.ok (x.1,xs)):=by
 rintro pins s U H R I ⟨Y,F,w,so,e,q⟩
 obtain⟨x,e1,e⟩:=Res.aA e;obtain⟨xs,e2,e⟩:=Res.aA e;cases e;refine aM (ha pins s U H (λv H1=>Same H H1/\Rep X.K H1 (BG F H x.1) v x.2) I ⟨Y,F,x,so,e1,λv H1 s1 rv=>⟨s1,rv⟩⟩) λv s1 zz=>?_;obtain⟨y,H1,I1,r1,eW,rv⟩:=zz;exact z36 I1 r1 (Rep.there _ rv) e2 λJ wk=>q J _ H1 eW (λ_ z=>z) wk
theorem Uz {n:Int}(h1:n<=bJ)(h2:-bJ<=n):-(2 ^ 62)<=n/\n<2 ^ 62:=by unfold bJ at *;omega
theorem eR.one {K:W.Frag}(r:eR K F H H' vs [x]):∃v,vs=[v]/\Rep K H' (BG F H x.1) v x.2:=by obtain⟨v,t,e,h,q⟩:=r;subst e q;exact⟨v,rfl,h⟩
theorem eR.two {K:W.Frag}(r:eR K F H H' vs [x,y]):∃v w,vs=[v,w]/\Rep K H' (BG F H x.1) v x.2/\Rep K H' (BG F H y.1) w y.2:=by obtain⟨v,t,e,h,q⟩:=r;obtain⟨w,e2,h2⟩:=q.one;subst e e2;exact⟨v,w,rfl,h,h2⟩
theorem UA (hm:X.mg "range"=none)(hg:Gl X "range")(hs:isStar a=false)(ha:PA X [a] (tDA X.K fs))(hl:∀Y ys,fs Y=.ok ys->ys.length=1):PI X tg (.Call (.Name "range" p) [a] [] pos) (tDW X.K λY=>fs Y>>=λys=>lX (ys.map (·.2))>>=λxs=>.ok (.fr,xs)):=
 PI.imp (Rr hg hm ha (gY hs)) λU H R ⟨Y,F,w,so,e,q⟩=>by
  obtain⟨ys,e1,e⟩:=Res.aA e;obtain⟨xs,e2,e⟩:=Res.aA e;cases e;refine⟨Y,F,ys,so,e1,λvs H1 s1 rs=>?_⟩
  match ys,(hl Y ys e1)with
  | [(g,d)],hy1=>
   obtain⟨v,rfl,rv⟩:=rs.one;cases d<;>try (cases e2;done)
   rename_i n;subst rv;change(if n<=bJ/\-bJ<=n then Res.ok ((fq n.toNat).map λ(i:Nat)=>PyData.int i)else .no)=_ at e2;split at e2
   case isFalse=>cases e2
   rename_i hn;cases e2;have L1:=Uz hn.1 hn.2;refine⟨n,rfl,L1.1,L1.2,q _ (λ_=>False) H1 s1 (λ_ z=>z.elim) ?_⟩;have e0:((fq n.toNat).map λ(i:Nat)=>(PyData.int i:D))=(fq n.toNat).map λi=>.int (0+i):=by apply t8;intro i _;rw[Int.zero_add]
   rw[e0];exact Uy (mI (by unfold bJ at *;omega))
def Fm.drop (F:Fm)(i:Nat):Fm:={F with O:=λa=>if F.O a=some i then none else F.O a}
theorem Fm.bO {F:Fm}{a:Addr}(h:F.O a=none):(F.drop i).O a=none:=by show(if F.O a=some i then none else F.O a)=none;rw[h];rfl
theorem Bin.drop {a:Ad}(h:Bin F a):Bin (F.drop i) a:=by
 cases a with
 |none=>exact h
 |some a=>exact⟨Fm.bO h.1,h.2⟩
theorem Slot.drop {K:W.Frag}(hij:j≠i)(h:Slot K F H j g v d):Slot K (F.drop i) H j g v d:=by
 cases g with
 |fr=>
  obtain⟨p,e,o,h⟩:=h;refine⟨p,e,?_,?_⟩
  ·show(if F.O p=some i then none else F.O p)=some j;rw[o,xw (λz=>hij (xx z))]
  ·rcases h with⟨vs,ds,e1,e2,r⟩|⟨vs,ds,e1,e2,r⟩
   ·exact .inl ⟨vs,ds,e1,e2,r.weak λ_ b=>b.drop⟩
   ·exact .inr ⟨vs,ds,e1,e2,bC.same (λ_ _ e=>e) (λ_ b=>b.drop) r⟩
 |od=>exact h
 |al=>exact h
 |nu=>exact Rep.weak (λ_ b=>b.drop) h
def BI (F:Fm):G->Ad->Prop
 |.od=>fV F
 |.fr=>bP F
 |.al=>bP F
 |.nu=>bP F
theorem BI.of {a:Ad}(hv:∀a,H a=none->F.V a)(h:BG F H g a):BI F g a:=by
 cases g with
 |fr=>exact nw.aJ hv h
 |od=>exact h
 |al=>exact h
 |nu=>exact h.elim (nw.aJ hv) Bin.aJ
theorem StOk.oP {K:W.Frag}(so:StOk K F H U Y)(r:Rep K H (BI F x.1) v x.2):StOk K (F.drop i) H (U.set i (some v)) (Y.set i (some (z1l x))) where
 ext:=so.ext
 aJ:=so.aJ
 own:=λa j e=>by
  have e':F.O a=some j:=by
   have:(if F.O a=some i then none else F.O a)=some j:=e;split at this
   ·cases this
   ·exact this
  exact so.own a j e'
 len:=by rw[gc,gc];exact so.len
 sl:=λj g d e=>by
  by_cases hj:i=j
  ·subst hj;rw[gu]at e;simp only[if_true]at e;split at e
   ·rename_i hl;have e1:z1l x=(g,d):=by simpa using e
    refine⟨v,?_,?_⟩
    ·rw[gu];simp[so.len,hl]
    ·obtain⟨gx,dx⟩:=x;cases gx with
     |fr=>cases e1;exact r
     |od=>cases e1;exact r
     |al=>cases e1;exact r
     |nu=>cases e1;exact r
   ·cases e
  ·rw[d8 hj]at e ⊢;obtain⟨u,h1,h2⟩:=so.sl j g d e;exact⟨u,h1,h2.drop λz=>hj z.symm⟩
structure Keeps (F F':Fm)(is:List Nat)(U σ':L2.St):Prop where
 h0:F'.H0=F.H0
 v:F'.V=F.V
 z:F'.z=F.z
 o:∀a,F.O a=none->F'.O a=none
 len:σ'.length=U.length
 rest:∀j,j∉is->σ'[j]?=U[j]?
theorem Keeps.refl:Keeps F F is U U:=⟨rfl,rfl,rfl,λ_ h=>h,rfl,λ_ _=>rfl⟩
theorem Keeps.set {v:Option V}(h:i∈is):Keeps F (F.drop i) is U (U.set i v):=⟨rfl,rfl,rfl,λ_ h=>Fm.bO h,gc,λj hj=>d8 λz=>hj (by rw[<-z];exact h)⟩
theorem Keeps.trans (a:Keeps F F' is U σ')(b:Keeps F' iT is σ' wC):Keeps F iT is U wC:=⟨b.h0.trans a.h0,b.v.trans a.v,b.z.trans a.z,λx h=>b.o x (a.o x h),b.len.trans a.len,λj hj=>(b.rest j hj).trans (a.rest j hj)⟩
def tDG (K:W.Frag)(t:Tg):TG:=λv U H Q=>∃Y F x aO,StOk K F H U Y/\Rep K H (BI F x.1) v x.2/\eG t x Y=.ok aO/\∀σ' F',StOk K F' H σ' aO->Keeps F F' (tgIx t) U σ'->Q σ' H
theorem _root_.L2.PG.imp (h:PG X e t)(i:∀v U H Q,t' v U H Q->t v U H Q):PG X e t':=λpins s U H v u Q I r q=>h pins s U H v u Q I r (i v U H Q q)
theorem _root_.L2.PGs.imp {e:List Expr}(h:PGs X e t)(i:∀v U H Q,t' v U H Q->t v U H Q):PGs X e t':=λpins s U H v u Q I r q=>h pins s U H v u Q I r (i v U H Q q)
theorem UB (hN:X.N.Nodup)(hi:X.N[i]?=some x)(hx:Loc X.env.scope x)(hf:Sto X x):PG X (.Name x pos) (tDG X.K (.nm i)):=PG.imp (EL hN hi hx hf) λv U H Q ⟨Y,F,x,aO,so,r,e,q⟩=>by cases e;exact q _ _ (so.oP r) (Keeps.set (by simp[tgIx]))
def oQ (K:W.Frag)(all is:List Nat):uU:=λvs U H Q=>∃Y F g ds aO,(∀i∈is,i∈all)/\StOk K F H U Y/\Reps K H (BI F g) vs ds/\tL Y is ds g=some aO/\∀σ' F',StOk K F' H σ' aO->Keeps F F' all U σ'->Q σ' H
theorem UC:PGs X [] (oQ X.K all []):=
 PGs.imp Rm λvs U H Q ⟨Y,F,g,ds,aO,_,so,r,e,q⟩=>by
  cases ds with
  |nil=>cases e;exact⟨r,q U F so Keeps.refl⟩
  |cons d ds=>cases e
theorem UD (hN:X.N.Nodup)(hi:X.N[i]?=some x)(hx:Loc X.env.scope x)(hf:Sto X x)(h:PGs X es (oQ X.K all is)):PGs X (.Name x p::es) (oQ X.K all (i::is)):=
 PGs.imp (zf7 (EL hN hi hx hf) h (by rfl)) λvs U H Q ⟨Y,F,g,ds,aO,tR,so,r,e,q⟩=>by
  cases ds with
  |nil=>cases e
  |cons d ds=>
   obtain⟨v,t,rfl,h1,h2⟩:=r;refine⟨v,t,rfl,Y.set i (some (z1l (gJ d g,d))),F.drop i,g,ds,aO,λj hj=>tR j (br _ hj),?_,?_,e,λσ' F' pW k=>q σ' F' pW ((Keeps.set (tR i bh)).trans k)⟩
   ·refine so.oP ?_;unfold gJ;by_cases hi:aP d=true
    ·rw[xu hi];exact Rep.bB d hi h1
    ·rw[xw hi];exact h1
   ·exact h2.weak λa b=>by cases g<;>exact b
theorem UE (hc:X.calm=true)(h:PGs X es (oQ X.K is is))(hn:(gm es X.env).length=n)(hst:(gm es X.env).findIdx? (·.1)=none)(hl:is.length=n):PG X (.Tuple es k pos) (tDG X.K (.tp is)):=
 λpins s U H v u Q I ru ⟨Y,F,⟨g,d⟩,aO,so,r,e,q⟩=>by
  have hlen:∀is ds Y ρ1,tL Y is ds g=some ρ1->is.length=ds.length:=by
   intro is
   induction is with
   |nil=>intro ds Y ρ1 h;cases ds with
    |nil=>rfl
    |cons _ _=>cases h
   |cons i is ih=>intro ds Y ρ1 h;cases ds with
    |nil=>cases h
    |cons d ds=>rw[bt,bt,ih ds _ _ h]
  have got:∀ds,Res.fO (tL Y is ds g)=.ok aO->tL Y is ds g=some aO:=λds e=>by
   cases e1:tL Y is ds g with
   |none=>rw[e1]at e;cases e
   |some ρ1=>rw[e1]at e;rw[Res.ok.inj e]
  cases d<;>try (cases e;done)
  case tuple ds=>have e1:=got ds e;obtain⟨a,vs,rfl,h1,h2⟩:=r;exact zp2 hc h hn hst pins s U H _ u Q I ru ⟨a,vs,rfl,h1,by rw[h2.length,<-hlen _ _ _ _ e1];exact hl,Y,F,g,ds,aO,λ_ h=>h,so,h2,e1,q⟩
  case list ds=>
   have e1:=got ds e;obtain⟨a,vs,rfl,h1,h2⟩:=r
   have h3:SqL X.K H a vs:=by
    rcases h1 with⟨h1,_⟩|⟨h1|h1,_⟩
    ·exact .inl (.inl h1)
    ·exact .inl (.inr h1)
    ·exact .inr h1
   exact Uu hc h hn hst pins s U H _ u Q I ru ⟨a,vs,rfl,h3,by rw[h2.length,<-hlen _ _ _ _ e1];exact hl,Y,F,g,ds,aO,λ_ h=>h,so,h2,e1,q⟩
theorem StOk.blk {K:W.Frag}(so:StOk K F H U Y)(nt:Nat)(js:List Nat)(l:Addr)(xs:List V)(hl:H l=none):
  StOk K {F with V:=λa=>F.V a/\a≠l,O:=λ_=>none} (upd H l (.lst xs)) (fH nt js U) (bv nt none++js.map λj=>cV (Y.getD j none)) where
 ext:=λa o e=>by have:=so.ext a o e;rw[aC (cQ this hl)];exact this
 aJ:=λa e=>by
  by_cases h:a=l
  ·subst h;rw[aW]at e;cases e
  ·rw[aC h]at e;exact⟨so.aJ a e,h⟩
 own:=λa i e=>by cases e
 len:=by unfold fH;simp
 sl:=λi g d e=>by
  have hB:∀a,bP F a/\¬nw H a->bP {F with V:=λa=>F.V a/\a≠l,O:=λ_=>none} a:=λa h=>by
   cases a with
   |none=>exact h.1
   |some a=>exact⟨h.1,λz=>h.2 (z▸hl)⟩
  have UG:∀a,fV F a/\¬nw H a->fV {F with V:=λa=>F.V a/\a≠l,O:=λ_=>none} a:=λa h=>by
   cases a with
   |none=>exact h.1
   |some a=>exact⟨h.1.1,h.1.2,λz=>h.2 (z▸hl)⟩
  rw[nq]at e;split at e
  ·rw[eh]at e;split at e<;>cases e
  ·rename_i hi;rw[cf]at hi e;rw[az]at e;cases ej:js[i-nt]? with
   |none=>rw[ej]at e;cases e
   |some j=>
    rw[ej]at e;have e1:cV (Y.getD j none)=some (g,d):=xx e;cases er:Y[j]? with
    |none=>rw[au,er]at e1;cases e1
    |some o=>
     rw[au,er]at e1;cases o with
     |none=>cases e1
     |some gd=>
      obtain⟨g0,d0⟩:=gd;obtain⟨v,h1,h2⟩:=so.sl j g0 d0 er;refine⟨v,?_,?_⟩
      ·unfold fH;rw[j7 (by grind),cf,az,ej];show some (U.getD j none)=_;rw[au,h1];rfl
      ·cases g0 with
       |fr=>cases e1;exact Rep.same (Same.upd hl) hB (Rep.there _ (h2.rep so.jZ))
       |od=>cases e1;exact Rep.same (Same.upd hl) UG (Rep.there _ h2)
       |al=>cases e1;exact Rep.same (Same.upd hl) hB (Rep.there _ h2)
       |nu=>cases e1;exact Rep.same (Same.upd hl) hB (Rep.there _ (h2.rep so.jZ))
theorem Gq:∀l m r,lY f (l++m)=.ok r->∃r1 r2,lY f l=.ok r1/\lY f m=.ok r2/\r=r1++r2
 | [],m,r,h=>⟨[],r,rfl,h,rfl⟩
 |x::l,m,r,h=>by
  obtain⟨o,e1,h⟩:=Res.aA h;obtain⟨r',e2,h⟩:=Res.aA h;obtain⟨r1,r2,h1,h2,rfl⟩:=Gq l m r' e2;cases h;refine⟨oc o r1,r2,?_,h2,?_⟩
  ·show(f x>>=λo=>lY f l>>=λr=>Res.ok (oc o r))=_;rw[e1,Res.aD,h1,Res.aD]
  ·cases o<;>rfl
theorem eR.snoc {K:W.Frag}:∀{vs:List V} {xs:List GD} {v:V} {x:GD},eR K F H H' vs xs->Rep K H' (BG F H x.1) v x.2->eR K F H H' (vs++[v]) (xs++[x])
 |vs,[],v,x,r,h=>by have e:vs=[]:=r;subst e;exact⟨v,[],rfl,h,rfl⟩
 |vs,y::ys,v,x,r,h=>by obtain⟨u,t,rfl,h1,q⟩:=r;exact⟨u,t++[v],rfl,h1,q.snoc h⟩
theorem eR.keep {K:W.Frag}(hk:∀a o g,H1 a=some o->(BG F H g (some a)\/Fix o)->H2 a=some o):∀{vs:List V} {xs:List GD},eR K F H H1 vs xs->eR K F H H2 vs xs
 |vs,[],r=>r
 |vs,y::ys,r=>by obtain⟨u,t,e,h1,q⟩:=r;exact⟨u,t,e,Rep.keep (λa o e b=>hk a o y.1 e b) (λ_ z=>z) _ h1,q.keep hk⟩
theorem eR.len {K:W.Frag}:∀{vs:List V} {xs:List GD},eR K F H H' vs xs->vs.length=xs.length
 |vs,[],r=>by have e:vs=[]:=r;subst e;rfl
 |vs,y::ys,r=>by obtain⟨u,t,rfl,h1,q⟩:=r;rw[bt,bt,q.len]
theorem L3:∀l r,lY f l=.ok r->r.length<=l.length
 | [],r,h=>by cases h;simp_all
 |x::l,r,h=>by
  obtain⟨o,e1,h⟩:=Res.aA h;obtain⟨r',e2,h⟩:=Res.aA h;have:=L3 l r' e2;cases h;cases o with
  |none=>exact bo this (by simp)
  |some y=>simp only[oc,bt];omega
def zgp (nt:Nat)(js:List Nat)(t:Tg)(fw:Rho->Res (G×List D))(fc:Rho->Res Bool)(fe:Rho->Res GD):Rho->Res GD:=λY=>fw Y>>=λw=>lY (λx=>eG t (gJ x w.1,x) (bv nt none++js.map λj=>cV (Y.getD j none))>>=λρ1=>fc ρ1>>=λk=>if k then fe ρ1>>=λy=>.ok (some y)else .ok none) w.2>>=λys=>.ok (tK ys,.list (ys.map (·.2)))
def UH (g:TG)(tc:TT)(te:TE)(em:L2.St->L2.St)(U:L2.St)(Q:VK):It->Hp->Prop:=λJ H1=>∀l,H1 l=none->∃P:Nat->Nat->List V->Hp->Prop,(∃m,P 0 m [] (upd H1 l (.lst [])))/\∀i m acc H2,P i m acc H2->(J.stop i H2/\Q (.ref l) H2)\/(J.go i H2/\acc.length<bc/\∃N:List V->Hp->Prop,(∀acc' H',N acc' H'->∃m',m'<m/\P (i+1) m' acc' H')/\∀x H3,J.fU i H2 x H3->g x (em U) H3 λbM H4=>eE (em U) bM/\tc bM H4 λb H5=>if b=true then te bM H5 λy H6=>H6 l=some (.lst acc)/\N (acc++[y]) (upd H6 l (.lst (acc++[y])))else N acc H5)
abbrev CI (K:W.Frag)(F:Fm)(f:D->Res (Option GD))(ds:List D)(H1:Hp)(l:Nat)(i:Nat)(acc:List V)(H2:Hp):Prop:=H2 l=some (.lst acc)/\(∀a o,H1 a=some o->H2 a=some o)/\∃ys,lY f (ds.take i)=.ok ys/\eR K F (upd H1 l (.lst [])) H2 acc ys
theorem zan {fc:Rho->Res Bool}(ht0:∀i∈tgIx t,i<nt)(so:StOk X.K F H U Y)(e:zgp nt js t fw fc fe Y=.ok z)(q:∀v H',Same H H'->Rep X.K H' (BG F H z.1) v z.2->Q v H'):
  ∃w,fw Y=.ok w/\∀J B H',Same H H'->(∀a,B a->BG F H w.1 a/\¬nw H' a)->Walk X.K J B H' w.2->UH (tDG X.K t) (eJ X.K fc) (tD X.K fe) (fH nt js) U Q J H':=by
 obtain⟨w,e1,e⟩:=Res.aA e;obtain⟨L4,e2,e⟩:=Res.aA e;cases e;refine⟨w,e1,λJ B H1 s1 hB wk l hl=>?_⟩;generalize hr:(bv nt none++js.map λj=>cV (Y.getD j none))=L5 at e2;generalize hf:(λx=>eG t (gJ x w.1,x) L5>>=λρ1=>fc ρ1>>=λk=>if k then fe ρ1>>=λy=>Res.ok (some y)else .ok none)=f at e2;have iG:=so.same s1;have lQ:∀i,∃ys,lY f (w.2.take i)=.ok ys:=λi=>by rw[<-List.take_append_drop i w.2]at e2;obtain⟨r1,r2,h1,_,_⟩:=Gq _ _ _ e2;exact⟨r1,h1⟩
 let Fb:Fm:={F with V:=λa=>F.V a/\a≠l,O:=λ_=>none}
 refine zuk (CI X.K Fb f w.2 H1 l) wk.len ?_ ?_ ?_ ?_ ?_
 ·exact⟨aW,λa o e=>by rw[aC (cQ e hl)];exact e,[],rfl,rfl⟩
 ·rintro i acc H2 ⟨_,_,ys,hy,rs⟩
  rw[rs.len];have:=L3 _ _ hy;rw[gf]at this;omega
 ·rintro acc H2 ⟨h1,h2,ys,hy,rs⟩
  rw[km]at hy;rw[e2]at hy;cases hy;refine⟨wk.stop H2 (λa o e _=>h2 a o e),q _ _ (λa o e=>h2 a o (s1 a o e)) ?_⟩;have L6:=s1.none hl;refine⟨l,acc,rfl,.inl ⟨h1,?_⟩,rs.oN λx hx a hb=>?_⟩
  ·show BG F H (tK L4) (some l);unfold tK;split
   ·exact L6
   ·exact so.aJ l L6
  ·unfold tK;by_cases ea:(L4.all λx=>x.1==.fr)=true
   ·rw[xu ea];have UI:x.1=.fr:=by simpa using bj.mp ea x hx
    rw[UI]at hb;cases a with
    |none=>exact hb
    |some a=>
     have dE:upd H1 l (.lst []) a=none:=hb
     have:H1 a=none:=by
      by_cases hal:a=l
      ·subst hal;exact hl
      ·rw[aC hal]at dE;exact dE
     exact s1.none this
   ·rw[xw ea];have:bP Fb a:=BG.aJ (λa e=>((iG.blk nt js l [] hl).aJ a e)) hb;cases a with
    |none=>exact this
    |some a=>exact this.1
 ·rintro i acc H2 hi ⟨_,h2,_⟩
  exact wk.go H2 (λa o e _=>h2 a o e) i hi
 ·rintro i acc H2 x H3 hi ⟨h1,h2,ys,hy,rs⟩ y
  obtain⟨s3,d,hd,rx⟩:=wk.fU H2 (λa o e _=>h2 a o e) i x H3 hi y;obtain⟨L7,C'⟩:=lQ (i+1);have yj:w.2.take (i+1)=w.2.take i++[d]:=by rw[List.take_add_one,hd];rfl
  rw[yj]at C';obtain⟨r1,r2,g1,g2,g3⟩:=Gq _ _ _ C';rw[hy]at g1;cases g1;obtain⟨o,g4,g2⟩:=Res.aA g2;obtain⟨r3,g5,g2⟩:=Res.aA g2;cases g5;rw[<-hf]at g4;obtain⟨ρ1,k1,g4⟩:=Res.aA g4;obtain⟨k,k2,g4⟩:=Res.aA g4
  have sb:StOk X.K Fb H3 (fH nt js U) L5:=by
   rw[<-hr];refine(iG.blk nt js l acc hl).same λa o e=>s3 a o ?_;by_cases hal:a=l
   ·subst hal;rw[aW]at e;rw[h1];exact e
   ·rw[aC hal]at e;exact h2 a o e
  have Gr:Rep X.K H3 (BI Fb (gJ d w.1)) x d:=by
   unfold gJ;by_cases hi:aP d=true
   ·rw[xu hi];exact Rep.bB d hi rx
   ·rw[xw hi];refine rx.weak λa b=>?_;obtain⟨b1,b2⟩:=hB a b;have b3:=BI.of so.aJ b1;cases a with
    |none=>cases hw:w.1<;>rw[hw]at b3<;>exact b3
    |some a=>
     have hal:a≠l:=λz=>b2 (by rw[z];exact hl);cases hw:w.1<;>rw[hw]at b3
     ·exact⟨b3,hal⟩
     ·exact⟨b3.1,b3.2,hal⟩
     ·exact⟨b3,hal⟩
     ·exact⟨b3,hal⟩
  refine⟨_,Fb,(gJ d w.1,d),ρ1,sb,Gr,k1,λbM F4 Dc hW=>⟨⟨hW.len.symm,λj v hj=>?_⟩,ρ1,F4,k,Dc,k2,λH5 s5=>?_⟩⟩
  ·by_cases L8:j∈tgIx t
   ·have :=ht0 j L8;unfold fH at hj;rw[jd (cf▸this),eh,xu this]at hj;cases hj
   ·rw[hW.rest j L8];exact hj
  ·have h5:∀a o,H1 a=some o->H5 a=some o:=λa o e=>s5 a o (s3 a o (h2 a o e));have AM:=s5 _ _ (s3 _ _ h1);have L9:=rs.keep λa o g e _=>s5 a o (s3 a o e);cases k with
   |false=>cases g4;cases g2;refine lR ⟨AM,h5,ys,?_,L9⟩;rw[yj,C',g3];simp[oc]
   |true=>
    obtain⟨yv,k3,g4⟩:=Res.aA g4;cases g4;cases g2;refine lS ⟨ρ1,F4,yv,Dc.same s5,k3,λv H6 s6 rv=>⟨s6 _ _ AM,aW,λa o e=>?_,ys++[yv],?_,?_⟩⟩
    ·rw[aC (cQ e hl)];exact s6 a o (h5 a o e)
    ·rw[yj,C',g3];rfl
    ·have UJ:=s6 _ _ AM
     have hk:∀a o g,H6 a=some o->(BG Fb (upd H1 l (.lst [])) g (some a)\/Fix o)->upd H6 l (.lst (acc++[v])) a=some o:=λa o g e b=>by
      have hal:a≠l:=by
       intro z;subst z;rcases b with b|b
       ·cases g with
        |fr=>have b':upd H1 a (.lst []) a=none:=b;rw[aW]at b';cases b'
        |od=>exact b.2.2 rfl
        |al=>exact b.2 rfl
        |nu=>
         rcases b with b|b
         ·have b':upd H1 a (.lst []) a=none:=b;rw[aW]at b';cases b'
         ·exact b.2.2.2 rfl
       ·rw[UJ]at e;cases e;exact b
      rw[aC hal];exact e
     have wB:Rep X.K H6 (BG Fb (upd H1 l (.lst [])) yv.1) v yv.2:=by
      refine rv.weak λa b=>?_;cases hg:yv.1 with
      |fr=>
       rw[hg]at b;cases a with
       |none=>exact b
       |some a=>
        have b':H5 a=none:=b;show upd H1 l (.lst []) a=none;rw[aC (λz=>by rw[z,AM]at b';cases b')];cases e1:H1 a with
        |none=>rfl
        |some o=>rw[h5 a o e1]at b';cases b'
      |nu=>
       rw[hg]at b;cases a with
       |none=>exact b
       |some a=>
        rcases b with b|b
        ·have b':H5 a=none:=b;refine .inl ?_;show upd H1 l (.lst []) a=none;rw[aC (λz=>by rw[z,AM]at b';cases b')];cases e1:H1 a with
         |none=>rfl
         |some o=>rw[h5 a o e1]at b';cases b'
        ·refine .inr ⟨rfl,?_,?_⟩
         ·have:=b.2.1;rw[hW.h0]at this;exact this
         ·have:=b.2.2;rw[hW.v]at this;exact this
      |od=>
       rw[hg]at b;cases a with
       |none=>have b1:F4.z:=b;rw[hW.z]at b1;exact b1
       |some a=>have b1:F4.H0 a≠none/\F4.V a:=b;rw[hW.h0,hW.v]at b1;exact b1
      |al=>
       rw[hg]at b;cases a with
       |none=>have b1:F4.z:=b;rw[hW.z]at b1;exact b1
       |some a=>have b1:F4.V a:=b;rw[hW.v]at b1;exact b1
     exact((L9.keep λa o g e _=>s6 a o e).snoc wB).keep hk
theorem UK {fc:Rho->Res Bool}(ht0:∀i∈tgIx t,i<nt):∀U H Q,tD X.K (zgp nt js t fw fc fe) U H Q->Ah (tDW X.K fw) (tDG X.K t) (eJ X.K fc) (tD X.K fe) (fH nt js) U H Q:=by
 rintro U H Q ⟨Y,F,z,so,e,q⟩
 obtain⟨w,e1,h⟩:=zan ht0 so e q;exact⟨Y,F,w,so,e1,h⟩
theorem zbq {fc:Rho->Res Bool}(hc:X.calm=true)(Bk:BlkScope X scope N' nt js)(ht0:∀i∈tgIx t,i<nt)(hi:PI X tg iter (tDW X.K fw))
  (hg:∀C fp s H,PG (blk X scope N' C fp s H) tg (tDG X.K t)) (ht:∀C fp s H,qP (blk X scope N' C fp s H) ifs (eJ X.K fc)) (he:∀C fp s H,PE (blk X scope N' C fp s H) elt (tD X.K fe)) (hs:∀x,ij iter X.env x=pure x):
  PE X (.ListComp elt [⟨tg,iter,ifs,0⟩] scope pos) (tD X.K (zgp nt js t fw fc fe))/\∀U H Q,tD X.K (zgp nt js t fw fc fe) U H Q->Ah (tDW X.K fw) (tDG X.K t) (eJ X.K fc) (tD X.K fe) (fH nt js) U H Q:=by
 have main:=UK (X:=X) (js:=js) (fw:=fw) (fc:=fc) (fe:=fe) ht0;exact⟨PE.imp (z9t hc Bk hi hg ht he hs) main,main⟩
end
def BC (H:Hp)(A:Ad->Prop):G->Ad->Prop
 |.fr=>nw H
 |.od=>λa=>nw H a\/A a
 |.al=>λa=>nw H a\/A a
 |.nu=>nw H
def spD (K:W.Frag)(n:Nat)(m:Fn):Sp:=λvs H Q _=>∃A ds x,vs.length=n/\Reps K H A vs ds/\m ds=.ok x/\∀v H',Same H H'->Rep K H' (BC H A x.1) v x.2->Q v H'
section
variable {X:Cx}{tg a b c e o:Expr}{es:List Expr}{fa fb fc:Rho->Res GD}{pos:Pos}
theorem zmz (Cc:Cal X.prog X.w X.K X.mg X.base k x ps (spD X.K n m))(hr:Room k' X.A)(hk:k<=k')(ha:PA X (e::es) (tDA X.K fs))(hst:((e::es).all fun e=> !isStar e)=true)(hg:Gl X x)(hdb:aac x)
  (hl:∀Y ys,fs Y=.ok ys->ys.length=n):PE X (.Call (.Name x p) (e::es) [] pos) (tD X.K λY=>fs Y>>=λys=>m (ys.map (·.2))>>=λr=>.ok (gJ r.2 (kZ r.1),r.2)):=
 PE.imp (zgh Cc hr ha hst hk hg hdb) λU H Q ⟨Y,F,z,so,e,q⟩=>by
  obtain⟨ys,e1,e⟩:=Res.aA e;obtain⟨r,e2,e⟩:=Res.aA e;cases e;refine⟨Y,F,ys,so,e1,λvs H1 s1 rs=>?_⟩;show spD X.K n m (vs++[]) H1 Q E0;rw[dh];refine⟨_,_,r,by rw[rs.len];exact hl Y ys e1,rs.lA so.aJ,e2,λv H2 s2 rv=>q v H2 (s1.trans s2) (tP rv λa h=>?_)⟩;have al:(nw H1 a\/bP F a)->bP F a:=λh=>h.elim (λh=>(nw.back s1 h).aJ so.aJ) λh=>h;cases hg:r.1 with
  |fr=>rw[hg]at h;exact nw.back s1 h
  |od=>rw[hg]at h;exact al h
  |al=>rw[hg]at h;exact al h
  |nu=>rw[hg]at h;exact nw.back s1 h
def rMt (K:W.Frag)(m:String):V->List V->Hp->VK->Prop:=λx xs H Q=>∃B B' dx ds d,Rep K H B x dx/\Reps K H B' xs ds/\mtD m dx ds=.ok d/\∀w H',Same H H'->Rep K H' (λa=>nw H a\/B a\/B' a) w d->Q w H'
theorem yo (h:yu o=true):ul o n env w=w:=by
 unfold ul;split
 ·rename_i id p pos;cases h
 ·rfl
theorem L':∀{es:List Expr},(es.all λe=> !isStar e)=true->(ol pos (gh es env)).all (λx=> !x.1)=true
 | [],_=>rfl
 |e::es,h=>by have h:=av.mp (db▸h);rw[gY (by simpa using h.1)];show(true&&(ol pos (gh es env)).all (λx=>!x.1))=true;rw[L' h.2];rfl
theorem z8i (h:(es.all fun e=> !isStar e)=true)(hl:es.length<20):((ol cpos (gh es env)).all (fun x=> !x.1)&&(backToKw cpos (keywordEach [] env)).all (fun x=>x.1.isSome)
  &&decide (es.length+([]:List vo).length+(if([]:List vo).isEmpty then 0 else 1)<30))=true:=by
 rw[L' h];show(true&&true&&decide (es.length+0+0<30))=true;rw[x6 (by omega)];rfl
theorem d_mt {id:String}(pa:PlainAttrs T)(slot:PySem.Slot T n id)(hty:xo (.builtin id)=pure (.type "method_descriptor"))(hm:MtR X id (rMt X.K m))(hT:∀H B x dx ds d,Rep X.K H B x dx->mtD m dx ds=.ok d->tyV X.K T x H)
  (ho:PE X o (tD X.K fa)) (ha:PA X (e::es) (tDA X.K fs)) (CP:yu o=true) (hst:((e::es).all λe=>!isStar e)=true) (hl:(e::es).length<20) (hline:(apos.endLine==cpos.line)=true):
  PE X (.Call (.Attribute o n apos) (e::es) [] cpos) (tD X.K λY=>fa Y>>=λx=>fs Y>>=λys=>mtD m x.2 (ys.map (·.2))>>=λd=>.ok (gJ d .al,d)):=by
 have kE:=hst;rw[db,bq]at kE;refine PE.imp (zgm pa slot hty hm ho ha (yo CP) (z8i hst hl) hline (gY (by simpa using kE.1)) (qR kE.2)) λU H Q zz=>?_;obtain⟨Y,F,z,so,e,q⟩:=zz;obtain⟨x,e1,e⟩:=Res.aA e;obtain⟨ys,e2,e⟩:=Res.aA e;obtain⟨d,e3,e⟩:=Res.aA e;cases e;refine⟨Y,F,x,so,e1,λv H1 s1 rv=>⟨hT H1 _ v x.2 _ d rv e3,Y,F,ys,so.same s1,e2,λvs H2 s2 rs=>?_⟩⟩;refine⟨_,_,x.2,_,d,rv.same s2 λ_ z=>z,rs.lA (so.same s1).aJ,e3,λw H3 s3 bE=>q w H3 ((s1.trans s2).trans s3) (tP bE λa h=>?_)⟩;rcases h with h|h|h
 ·exact(nw.back (s1.trans s2) h).aJ so.aJ
 ·exact h.aJ so.aJ
 ·exact h
theorem UL (hu:X.A.units+64<cLine):MtR X "dict.get" (rMt X.K "get"):=by
 rintro pins s U H x xs v us Q I rx rs ⟨B,B',dx,ds,d,r1,r2,e,q⟩
 simp only[mtD,if_true]at e;split at e
 ·rename_i es k d0;split at e
  case isFalse=>cases e
  rename_i hk;cases e;obtain⟨vk,vd,rfl,h1,h2⟩:=Gk r2;obtain⟨kk,rfl,rfl,_⟩:=AI hk h1;obtain⟨a,kvs,rfl,g1,_,g2⟩:=r1;cases rx;obtain⟨u1,u2,rfl,q1,q2⟩:=vals2 rs;have hv:=g2.val kk;refine zoj (by omega) I (DGet.k g1) q1 q2 λw' s' I' bE=>⟨_,H,I',bE,q _ H (Same.refl H) ?_⟩;cases e3:gD es (kD kk)with
  |none=>rw[e3]at hv;rw[show cS kvs kk=none from hv];exact h2.weak λ_ z=>.inr (.inr z)
  |some d'=>rw[e3]at hv;obtain⟨w,h3,h4⟩:=hv;rw[h3];exact h4.weak λ_ z=>.inr (.inl z)
 ·cases e
theorem UM (r:Rep X.K H B x dx)(e:mtD "get" dx ds=.ok d):tyV X.K "dict" x H:=by
 simp only[mtD,if_true]at e;split at e
 ·obtain⟨a,kvs,rfl,g1,_,_⟩:=r;exact .inr (.inr (.inl ⟨rfl,.inl ⟨kvs,g1⟩⟩))
 ·cases e
end
section
variable {X:Cx}{o e:Expr}{fa fb:Rho->Res GD}
theorem UN:CallR X (.type "int") (λxs H Q=>∃x,xs=[.str x]/\vR x.cps.toList=true/\x.length<=600/\Q (.int (Ar x.cps.toList:Int)) H):=by
 rintro pins s U H xs us Q I r ⟨x,rfl,hf,hl,q⟩
 obtain⟨u,rfl,t,rfl⟩:=vals1 r;unfold vR at hf;rw[av]at hf;have hd:=λc hc=>by have:=bj.mp hf.2 c hc;rw[av,decide_eq_true_iff,decide_eq_true_iff]at this;exact this
 exact W.KIN.call_text (intText_digits hd (λz=>by rw[z]at hf;cases hf.1) (by omega)) (by omega) ⟨.int _,H,I.tok _,⟨_,rfl⟩,q⟩
end
def dA (F:Fm)(H:Hp)(F':Fm)(H':Hp):Prop:=∀a o,H a=some o->F.O a=none->H' a=some o/\F'.O a=none
theorem dA.refl:dA F H F H:=λ_ _ e o=>⟨e,o⟩
theorem dA.trans (a:dA F H F' H')(b:dA F' H' iT wD):dA F H iT wD:=λx o e n=>by obtain⟨e1,n1⟩:=a x o e n;exact b x o e1 n1
theorem dA.same (s:Same H H'):dA F H F H':=λa o e n=>⟨s a o e,n⟩
def Run (F F':Fm):Prop:=Same F.H0 F'.H0/\F'.V=F.V/\F'.z=F.z
theorem Run.refl:Run F F:=⟨λ_ _ e=>e,rfl,rfl⟩
theorem Run.trans (a:Run F F')(b:Run F' iT):Run F iT:=⟨λx o e=>b.1 x o (a.1 x o e),b.2.1.trans a.2.1,b.2.2.trans a.2.2⟩
theorem Run.of (h:F'.H0=F.H0)(v:F'.V=F.V)(z:F'.z=F.z):Run F F':=⟨λ_ _ e=>by rw[h];exact e,v,z⟩
def BR (F:Fm):G->Ad->Prop
 |.fr=>λa=>match a with|some a=>F.H0 a=none|none=>False
 |.od=>bP F
 |.al=>bP F
 |.nu=>λa=>match a with|some a=>F.H0 a=none|none=>False
def AN (K:W.Frag)(F:Fm)(H:Hp)(D:Ends):Out->Prop
 |.nx aO=>∀σ' H' F',StOk K F' H' σ' aO->Run F F'->dA F H F' H'->D.nx σ' H'
 |.rt g d=>∀v H',(∀a o,F.H0 a=some o->H' a=some o)->Rep K H' (BR F g) v d->D.rt v H'
def tDS (K:W.Frag)(f:Rho->Res Out):TS:=λD U H=>∃Y F out,StOk K F H U Y/\f Y=.ok out/\AN K F H D out
theorem none_of (s:Same H H')(h:H' a=none):H a=none:=by
 cases e:H a with
 |none=>rfl
 |some o=>rw[s a o e]at h;cases h
theorem BR.run (r:Run F F')(h:BR F' g a):BR F g a:=by obtain⟨r1,r2,r3⟩:=r;cases g<;>cases a<;>first|exact h|(exact none_of r1 h)|(have h':F'.V _:=h;rw[r2]at h';exact h')|(have h':F'.z:=h;rw[r3]at h';exact h')
theorem AN.back {K:W.Frag}{D:Ends}(r:Run F F')(f:dA F H F' H')(h:AN K F H D out):AN K F' H' D out:=by
 cases out with
 |nx aO=>exact λwC wD iT so r2 f2=>h wC wD iT so (r.trans r2) (f.trans f2)
 |rt g d=>exact λv wD k rv=>h v wD (λa o e=>k a o (r.1 a o e)) (rv.weak λ_ b=>b.run r)
section
variable {X:Cx}{tg a b c e:Expr}{es:List Expr}{fa fb fc:Rho->Res GD}{pos:Pos}{st:Stmt}{rest A Bs:List Stmt}{fs gs:Rho->Res Out}
theorem UO:PSs X [] (tDS X.K λY=>.ok (.nx Y)):=PSs.imp KU λD U H ⟨Y,F,out,so,e,q⟩=>by cases e;exact q U H F so Run.refl dA.refl
theorem UP (h1:PS X st (tDS X.K fs))(h2:PSs X rest (tDS X.K gs)):PSs X (st::rest) (tDS X.K λY=>qX (fs Y) gs):=
 PSs.imp (KW h1 h2) λD U H ⟨Y,F,out,so,e,q⟩=>by
  have e:qX (fs Y) gs=.ok out:=e;cases e1:fs Y with
  |no=>rw[e1]at e;cases e
  |exc x=>rw[e1]at e;cases e
  |ok o1=>
   rw[e1]at e;cases o1 with
   |nx ρ1=>exact⟨Y,F,.nx ρ1,so,e1,λσ' H' F' pW r f=>⟨ρ1,F',out,pW,e,q.back r f⟩⟩
   |rt g d=>cases e;exact⟨Y,F,.rt g d,so,e1,q⟩
theorem Gs (hc:PT X c (eJ X.K ft))(ha:PSs X A (tDS X.K fs))(hb:PSs X Bs (tDS X.K gs)):PS X (.If c A Bs pos) (tDS X.K λY=>ft Y>>=λk=>if k then fs Y else gs Y):=
 PS.imp (KY hc ha hb) λD U H ⟨Y,F,out,so,e,q⟩=>by
  obtain⟨k,e1,e⟩:=Res.aA e;refine⟨Y,F,k,so,e1,λH1 s1=>?_⟩;cases k with
  |true=>exact lS ⟨Y,F,out,so.same s1,e,q.back Run.refl (dA.same s1)⟩
  |false=>exact lR ⟨Y,F,out,so.same s1,e,q.back Run.refl (dA.same s1)⟩
theorem UQ {K:W.Frag}(so:∀a o,F.H0 a=some o->H a=some o)(hv:∀a,H a=none->F.V a)(r:Rep K H' (BG F H g) v d):Rep K H' (BR F (kZ g)) v d:=by
 refine r.weak λa b=>?_;cases g with
 |fr=>
  cases a with
  |none=>exact b
  |some a=>exact Same.none so b
 |od=>exact fV.aJ b
 |al=>exact b
 |nu=>
  cases a with
  |none=>exact b.elim id id
  |some a=>exact b.elim (λb=>Same.none so b) λb=>b.2.1
theorem UR (ha:PE X e (tD X.K fa)):PS X (.Return (some e) pos) (tDS X.K λY=>fa Y>>=λx=>.ok (.rt (kZ x.1) x.2)):=PS.imp (EI ha) λD U H ⟨Y,F,out,so,e,q⟩=>by obtain⟨x,e1,e⟩:=Res.aA e;cases e;exact⟨Y,F,x,so,e1,λv H1 s1 rv=>q v H1 (λa o e=>s1 a o (so.ext a o e)) (UQ so.ext so.aJ rv)⟩
theorem Slot.ret {K:W.Frag}(so:∀a i,F.O a=some i->F.H0 a=none/\F.V a)(h:Slot K F H i g v d):Rep K H (BR F (if aP d then .fr else kZ g)) v d:=by
 by_cases hi:aP d=true
 ·rw[xu hi];exact Rep.bB d hi (h.rep λa i e=>(so a i e).2)
 ·rw[xw hi];cases g with
  |fr=>
   obtain⟨p,e,o,h⟩:=h
   have hb:∀a,Bin F a->BR F .fr a:=λa b=>by
    cases a with
    |none=>exact b
    |some a=>exact b.2.1
   rcases h with⟨vs,ds,rfl,e2,r⟩|⟨vs,ds,rfl,e2,r⟩
   ·exact⟨p,vs,e,.inl ⟨e2,(so _ _ o).1⟩,r.weak hb⟩
   ·exact⟨p,vs,e,e2,(so _ _ o).1,bC.same (λ_ _ e=>e) hb r⟩
  |od=>exact Rep.weak (λ_ b=>b.aJ) h
  |al=>exact h
  |nu=>
   refine Rep.weak (λa b=>?_) h;cases a with
   |none=>exact b
   |some a=>exact b.2.1
theorem zc1 {i:Nat}(hN:X.N[i]?=some x)(hv:Vis X.env.scope x)(hd:aac x)(hcd:(x==("__classdict__":Str))=false):
  PS X (.Return (some (.Name x p)) pos) (tDS X.K λY=>match Y[i]? with|some (some (g,d))=>.ok (.rt (if aP d then .fr else kZ g) d)|_=>.no):=
 PS.imp (EI (uS hN hv hd hcd)) λD U H ⟨Y,F,out,so,e,q⟩=>by
  have e:(match Y[i]? with|some (some (g,d))=>Res.ok (Out.rt (if aP d then .fr else kZ g) d)|_=>.no)=.ok out:=e;cases e1:Y[i]? with
  |none=>rw[e1]at e;cases e
  |some o=>
   rw[e1]at e;cases o with
   |none=>cases e
   |some gd=>obtain⟨g,d⟩:=gd;cases e;obtain⟨v,h1,h2⟩:=so.sl i g d e1;exact⟨v,h1,q v H so.ext (h2.ret λa i e=>⟨(so.own a i e).1,(so.own a i e).2.1⟩)⟩
theorem US (hs:z1q e=false)(ha:PE X e (tD X.K fa)):PS X (.Expr e pos) (tDS X.K λY=>fa Y>>=λ_=>.ok (.nx Y)):=PS.imp (qS ha hs) λD U H ⟨Y,F,out,so,e,q⟩=>by obtain⟨x,e1,e⟩:=Res.aA e;cases e;exact⟨Y,F,x,so,e1,λv H1 s1 rv=>q U H1 F (so.same s1) Run.refl (dA.same s1)⟩
theorem bC.bB {K:W.Frag}:∀{kvs:List (Key×V)} es,cA es=true->bC K H B kvs es->bC K H B' kvs es
 |kvs,[],_,r=>r
 |kvs,(kd,d)::es,i,r=>by unfold cA at i;rw[db,bq]at i;obtain⟨k,v,t,e,e2,ok,h,q⟩:=r;exact⟨k,v,t,e,e2,ok,Rep.bB d i.1 h,bC.bB es i.2 q⟩
theorem StOk.gF {K:W.Frag}(so:StOk K F H U Y){a:Ad}(h:nw H a):Bin F a:=by
 cases a with
 |none=>exact h
 |some a=>
  refine⟨?_,Same.none so.ext h,so.aJ a h⟩;cases e1:F.O a with
  |none=>rfl
  |some j=>obtain⟨_,_,z⟩:=so.own a j e1;rcases z with⟨xs,z⟩|⟨xs,z⟩<;>rw[h]at z<;>cases z
theorem StOk.Gu {K:W.Frag}(so:StOk K F H U Y)(r:Rep K H (Bin F) v d):StOk K (F.drop i) H (U.set i (some v)) (Y.set i (some (.nu,d))):=by
 have z:=so.oP (i:=i) (x:=(.al,d)) (Rep.weak (λ_ b=>Bin.aJ b) r);refine⟨z.ext,z.aJ,z.own,by rw[gc,gc];exact so.len,λj g d' e=>?_⟩;by_cases hj:i=j
 ·subst hj;rw[gu]at e;simp only[if_true]at e;split at e
  ·rename_i hl;cases e;exact⟨v,by rw[gu];simp[so.len,hl],Rep.weak (λ_ b=>b.drop) r⟩
  ·cases e
 ·refine z.sl j g d' ?_;rw[d8 hj]at e ⊢;exact e
def Fm.take (F:Fm)(i:Nat)(p:Addr):Fm:={F with O:=λa=>if a=p then some i else if F.O a=some i then none else F.O a}
theorem dA.drop (s:Same H H'):dA F H (F.drop i) H':=λa o e n=>⟨s a o e,Fm.bO n⟩
theorem StOk.setA {K:W.Frag}(so:StOk K F H U Y)(s1:Same H H1)(r:Rep K H1 (BG F H x.1) v x.2):
  ∃F',StOk K F' H1 (U.set i (some v)) (Y.set i (some (z1u x)))/\Run F F'/\dA F H F' H1:=by
 have iG:=so.same s1;obtain⟨g,d⟩:=x
 have plain:z1u (g,d)=z1l (if aP d then .al else LL g,d)->∃F',StOk K F' H1 (U.set i (some v)) (Y.set i (some (z1u (g,d))))/\Run F F'/\dA F H F' H1:=λe=>by
  rw[e];refine⟨F.drop i,iG.oP ?_,Run.of rfl rfl rfl,dA.drop s1⟩;by_cases hi:aP d=true
  ·rw[xu hi];exact Rep.bB d hi r
  ·rw[xw hi];cases g with
   |fr=>exact r.weak λ_ b=>nw.aJ so.aJ b
   |od=>exact r
   |al=>exact r
   |nu=>exact r.weak λ_ b=>b.elim (nw.aJ so.aJ) Bin.aJ
 have Dd:z1u (g,d)=(.nu,d)->(∀a,BG F H g a->Bin F a)->∃F',StOk K F' H1 (U.set i (some v)) (Y.set i (some (z1u (g,d))))/\Run F F'/\dA F H F' H1:=λe hb=>by rw[e];exact⟨F.drop i,iG.Gu (Rep.weak hb r),Run.of rfl rfl rfl,dA.drop s1⟩
 have own:∀p,F.O p=none->H p=none->F.H0 p=none->F.V p->v=.ref p->z1u (g,d)=(.fr,d)->(∀F',(∀a,Bin F a\/nw H a->a≠some p->Bin F' a)->F'.O p=some i->Slot K F' H1 i .fr v d)->(((∃xs,H1 p=some (.lst xs))\/∃kvs,H1 p=some (.dK kvs)))->
   ∃F',StOk K F' H1 (U.set i (some v)) (Y.set i (some (z1u (g,d))))/\Run F F'/\dA F H F' H1:=λp UT iU UU UW ev es UX jW=>by
  have yy:∀a,a≠p->(F.take i p).O a=(F.drop i).O a:=λa ha=>by show(if a=p then some i else _)=_;rw[xw ha];rfl
  have UY:∀a,H a=none->F.O a=none:=λa e=>by
   cases e1:F.O a with
   |none=>rfl
   |some j=>obtain⟨_,_,h⟩:=so.own a j e1;rcases h with⟨xs,h⟩|⟨xs,h⟩<;>rw[e]at h<;>cases h
  have wF:∀a,Bin F a\/nw H a->a≠some p->Bin (F.take i p) a:=λa b eA=>by
   cases a with
   |none=>exact b.elim id id
   |some a=>have gG:a≠p:=λz=>eA (by rw[z]);have hb:=b.elim id λb=>⟨UY a b,(λa e=>Same.none so.ext e) a b,so.aJ a b⟩;exact⟨by rw[yy a gG];exact Fm.bO hb.1,hb.2⟩
  have Gv:(F.take i p).O p=some i:=by show(if p=p then some i else _)=_;rw[xu rfl]
  refine⟨F.take i p,⟨iG.ext,iG.aJ,λa j e=>?_,by rw[gc,gc];exact so.len,λj g' d' e=>?_⟩,Run.of rfl rfl rfl,λa o e n=>⟨s1 a o e,?_⟩⟩
  ·by_cases gG:a=p
   ·subst gG;exact⟨UU,UW,jW⟩
   ·rw[yy a gG]at e
    have e':F.O a=some j:=by
     have:(if F.O a=some i then none else F.O a)=some j:=e;split at this
     ·cases this
     ·exact this
    exact iG.own a j e'
  ·by_cases hj:i=j
   ·subst hj;rw[gu]at e;simp only[if_true]at e;split at e
    ·rename_i hl;have e1:z1u (g,d)=(g',d'):=by simpa using e
     rw[es]at e1;cases e1;exact⟨v,by rw[gu];simp[so.len,hl],UX _ wF Gv⟩
    ·cases e
   ·rw[d8 hj]at e ⊢;obtain⟨u,h1,h2⟩:=so.sl j g' d' e;refine⟨u,h1,?_⟩;cases g' with
    |fr=>
     obtain⟨p',e1,o1,h3⟩:=h2;refine⟨p',e1,?_,?_⟩
     ·rw[yy p' (λz=>by rw[z,UT]at o1;cases o1)];show(if F.O p'=some i then none else F.O p')=some j;rw[o1,xw (λz=>hj (xx z).symm)]
     ·have dE:∀a,Bin F a/\¬nw H a->Bin (F.take i p) a:=λa b=>wF a (.inl b.1) λz=>b.2 (z▸iU);rcases h3 with⟨vs,ds,e3,e2,r3⟩|⟨vs,ds,e3,e2,r3⟩
      ·exact .inl ⟨vs,ds,e3,s1 _ _ e2,Reps.same s1 dE (Reps.there _ r3)⟩
      ·exact .inr ⟨vs,ds,e3,s1 _ _ e2,bC.same s1 dE (bC.there _ r3)⟩
    |od=>exact Rep.same s1 (λ_ b=>b) h2
    |al=>exact Rep.same s1 (λ_ b=>b) h2
    |nu=>exact Rep.same s1 (λa b=>wF a (.inl b.1) λz=>b.2 (z▸iU)) (Rep.there _ h2)
  ·have gG:a≠p:=λz=>by rw[z,iU]at e;cases e
   rw[yy a gG];exact Fm.bO n
 have Ma:∀p,H p=none->F.O p=none:=λp iU=>by
  cases e1:F.O p with
  |none=>rfl
  |some j=>obtain⟨_,_,h'⟩:=so.own p j e1;rcases h' with⟨xs,h'⟩|⟨xs,h'⟩<;>rw[iU]at h'<;>cases h'
 by_cases hi:aP d=true
 ·exact plain (by show(if aP d then _ else _)=_;rw[xu hi];rw[xu hi];rfl)
 ·cases g with
  |od=>exact plain (by delta z1u;simp only[xw hi];rfl)
  |al=>exact plain (by delta z1u;simp only[xw hi];cases d<;>rfl)
  |nu=>exact Dd (by delta z1u;simp only[xw hi]) λa b=>b.elim so.gF id
  |fr=>
   cases d with
   |none=>exact absurd rfl hi
   |bool b=>exact absurd rfl hi
   |int b=>exact absurd rfl hi
   |str b=>exact absurd rfl hi
   |tuple ds=>exact Dd (by delta z1u;simp only[xw hi]) λa b=>so.gF b
   |list ds=>
    by_cases mJ:imms ds=true
    ·obtain⟨p,vs,ev,h,rs⟩:=r;rcases h with⟨h,b⟩|⟨_,b⟩
     ·have iU:H p=none:=b;exact own p (Ma p iU) iU (Same.none so.ext iU) (so.aJ p iU) ev (by delta z1u;simp only[xw hi,xu mJ]) (λF' hb ho=>⟨p,ev,ho,.inl ⟨vs,ds,rfl,h,Reps.bB ds mJ rs⟩⟩) (.inl ⟨vs,h⟩)
     ·exact b.elim
    ·exact Dd (by delta z1u;simp only[xw hi,xw mJ]) λa b=>so.gF b
   |dict es=>
    by_cases mJ:cA es=true
    ·obtain⟨p,kvs,ev,h,b,rs⟩:=r;have iU:=b;exact own p (Ma p iU) iU (Same.none so.ext iU) (so.aJ p iU) ev (by delta z1u;simp only[xw hi,xu mJ]) (λF' hb ho=>⟨p,ev,ho,.inr ⟨kvs,es,rfl,h,bC.bB es mJ rs⟩⟩) (.inr ⟨kvs,h⟩)
    ·exact Dd (by delta z1u;simp only[xw hi,xw mJ]) λa b=>so.gF b
theorem Mb {K:W.Frag}{te:TE}(h:∀U H Q,tD K fa U H Q->te U H Q)(D:Ends)(U:L2.St)(H:Hp)(q:tDS K (λY=>fa Y>>=λx=>.ok (.nx (Y.set i (some (z1u x))))) D U H):te U H λv H1=>D.nx (U.set i (some v)) H1:=by obtain⟨Y,F,out,so,e,q⟩:=q;obtain⟨x,e1,e⟩:=Res.aA e;cases e;refine h U H _ ⟨Y,F,x,so,e1,λv H1 s1 rv=>?_⟩;obtain⟨F',pW,r,f⟩:=so.setA s1 rv;exact q _ H1 F' pW r f
theorem zp3 (hN:X.N.Nodup)(hi:X.N[i]?=some x)(hx:Loc X.env.scope x)(hf:Sto X x)(hs:mx e (some (.Name x px)) pos.line X.env=pure false)(ha:PE X e (tD X.K fa)):
  PS X (.Assign [.Name x px] e pos) (tDS X.K λY=>fa Y>>=λx=>.ok (.nx (Y.set i (some (z1u x))))):=
 PS.imp (z97 hN hi hx ha hs hf) λD U H q=>Mb (λ_ _ _ h=>h) D U H q
theorem zrb (hg:PG X te (tDG X.K (.tp is)))(ha:PE X e (tD X.K fa))(hs:uh [te] e pos.line X.env=pure false)(hw:ui [te] e X.env=pure none)(h1:(gm [te] X.env).map (·.2)=[ux te X.env]):
  PS X (.Assign [te] e pos) (tDS X.K λY=>fa Y>>=λx=>eG (.tp is) x Y>>=λaO=>.ok (.nx aO)):=
 PS.imp (zob ha hg hs hw h1) λD U H ⟨Y,F,out,so,e,q⟩=>by obtain⟨x,e1,e⟩:=Res.aA e;obtain⟨aO,e2,e⟩:=Res.aA e;cases e;refine⟨Y,F,x,so,e1,λv H1 s1 rv=>⟨Y,F,x,aO,so.same s1,rv.weak λ_ b=>BI.of so.aJ b,e2,λσ' F' pW hW=>?_⟩⟩;exact q σ' H1 F' pW (Run.of hW.h0 hW.v hW.z) λa o e n=>⟨s1 a o e,hW.o a n⟩
theorem Gx {K:W.Frag}(so:StOk K F H U Y)(h:okIn y=true)(r:Rep K H1 (BG F H y.1) u y.2):Rep K H1 (Bin F) u y.2:=by
 obtain⟨g,d⟩:=y;rcases gv.mp h with hi|hg
 ·exact Rep.bB d hi r
 rcases gv.mp hg with h|h
 ·cases eq_of_beq h;exact Rep.weak (λa b=>so.gF b) r
 ·cases eq_of_beq h;exact Rep.weak (λa b=>b.elim so.gF id) r
theorem StOk.mutate {K:W.Frag}(so:StOk K F H U Y)(hO:F.O p=some i)(hσ:U[i]?=some (some (.ref p)))(ho':(∃xs,o'=.lst xs)\/∃kvs,o'=.dK kvs)
  (hs:Slot K F (upd H p o') i .fr (.ref p) d'):StOk K F (upd H p o') U ((Y.set i (some (.fr,d'))).map jI)/\dA F H F (upd H p o'):=by
 obtain⟨h0,hV,jW⟩:=so.own p i hO;have eA:∀a,F.O a=none->a≠p:=λa e z=>by rw[z,hO]at e;cases e
 have rJ:∀a o,H a=some o->Fix o->a≠p:=λa o e f z=>by subst z;rcases jW with⟨xs,h⟩|⟨xs,h⟩<;>rw[e]at h<;>cases h<;>exact f
 refine⟨⟨λa o e=>?_,λa e=>?_,λa j e=>?_,by rw[ae,gc];exact so.len,λj g d e=>?_⟩,(λa o e n=>⟨by rw[aC (eA a n)];exact e,n⟩)⟩
 ·have gG:a≠p:=λz=>by rw[z,h0]at e;cases e
  rw[aC gG];exact so.ext a o e
 ·by_cases gG:a=p
  ·subst gG;exact hV
  ·rw[aC gG]at e;exact so.aJ a e
 ·obtain⟨x1,x2,x3⟩:=so.own a j e;refine⟨x1,x2,?_⟩;by_cases gG:a=p
  ·subst gG;rw[aW];rcases ho' with⟨xs,rfl⟩|⟨xs,rfl⟩
   ·exact .inl ⟨xs,rfl⟩
   ·exact .inr ⟨xs,rfl⟩
  ·rw[aC gG];exact x3
 ·rw[az]at e;by_cases hj:i=j
  ·subst hj;have hl:i<Y.length:=by rw[<-so.len];exact(bp.mp hσ).1
   rw[gu]at e;simp only[if_true,hl]at e;cases(by simpa using e);exact⟨_,hσ,hs⟩
  ·rw[d8 hj]at e;cases e2:Y[j]? with
   |none=>rw[e2]at e;cases e
   |some sl=>
    rw[e2]at e;have e3:jI sl=some (g,d):=by simpa using e
    cases sl with
    |none=>cases e3
    |some gd=>
     obtain⟨g0,d0⟩:=gd;obtain⟨v,h1,h2⟩:=so.sl j g0 d0 e2;refine⟨v,h1,?_⟩;cases g0 with
     |fr=>
      cases e3;obtain⟨p',e4,o4,h3⟩:=h2;have Mc:p'≠p:=λz=>by rw[z,hO]at o4;simp_all
      have hk:∀a o,H a=some o->(Bin F (some a)\/Fix o)->upd H p o' a=some o:=λa o e b=>by have:a≠p:=b.elim (λb=>eA a b.1) λf=>rJ a o e f;rw[aC this];exact e
      refine⟨p',e4,o4,?_⟩;rcases h3 with⟨vs,ds,e5,e6,r⟩|⟨vs,ds,e5,e6,r⟩
      ·exact .inl ⟨vs,ds,e5,by rw[aC Mc];exact e6,Reps.keep hk (λ_ z=>z) ds r⟩
      ·exact .inr ⟨vs,ds,e5,by rw[aC Mc];exact e6,bC.keep hk (λ_ z=>z) ds r⟩
     |od=>cases e3;exact Rep.keep (λa o e b=>by have:a≠p:=b.elim (λb z=>by have b1:F.H0 a≠none/\F.V a:=b;rw[z]at b1;exact b1.1 h0) λf=>rJ a o e f;rw[aC this];exact e) (λ_ z=>z) _ h2
     |nu=>cases e3;exact Rep.keep (λa o e b=>by have:a≠p:=b.elim (λb=>eA a b.1) λf=>rJ a o e f;rw[aC this];exact e) (λ_ z=>z) _ h2
     |al=>
      change(if aP d0 then some (G.al,d0)else none)=_ at e3;split at e3
      ·rename_i mJ;cases e3;exact Rep.mD (λa o e f=>by rw[aC (rJ a o e f)];exact e) _ mJ h2
      ·cases e3
theorem Gy {K:W.Frag}(so:StOk K F H U Y)(e:Y[i]?=some (some (.fr,d))):∃p,U[i]?=some (some (.ref p))/\F.O p=some i/\((∃vs ds,d=.list ds/\H p=some (.lst vs)/\Reps K H (Bin F) vs ds)\/(∃kvs es,d=.dict es/\H p=some (.dK kvs)/\bC K H (Bin F) kvs es)):=by obtain⟨v,h1,p,rfl,o,h⟩:=so.sl i .fr d e;exact⟨p,h1,o,h⟩
def Gz (m:String)(i:Nat)(fs:Rho->Res (List GD)):Rho->Res Out:=λY=>fs Y>>=λys=>match Y[i]? with
 |some (some (.fr,.list xs))=>oK m xs ys>>=λtN=>.ok (.nx ((Y.set i (some (.fr,.list tN))).map jI))
 |_=>.no
theorem zhb {fs:Rho->Res (List GD)}(hN:X.N[i]?=some x)(hv:Vis X.env.scope x)(hd:aac x)(hcd:(x==("__classdict__":Str))=false)(ha:PA X (e::es) (tDA X.K fs))(hst:((e::es).all fun e=>!isStar e)=true)(hl:(e::es).length<20)(hline:(ap.endLine==cp.line)=true):
  PS X (.Expr (.Call (.Attribute (.Name x p) "append" ap) (e::es) [] cp) pos) (tDS X.K (Gz "append" i fs)):=by
 have kE:=hst;rw[db,bq]at kE;refine PS.imp (qS (zgm PySem.F.plainAttrs_list PySem.F.slot_list_append PySem.F.type_list_append E7 (uS hN hv hd hcd) ha rfl (z8i hst hl) hline (gY (by simpa using kE.1)) (qR kE.2)) rfl) λD U H zz=>?_;obtain⟨Y,F,out,so,e,q⟩:=zz;obtain⟨ys,e1,e⟩:=Res.aA e;split at e
 ·rename_i xs hr;obtain⟨tN,e2,e⟩:=Res.aA e;cases e;obtain⟨pa,h1,hO,h⟩:=Gy so hr;rcases h with⟨vs,ds,e3,e4,r⟩|⟨_,_,e3,_⟩
  ·cases e3;refine⟨_,h1,.inl ⟨rfl,vs,SqL.of e4⟩,Y,F,ys,so,e1,λus H1 s1 rs=>?_⟩;simp only[oK,if_true]at e2;split at e2
   ·rename_i y;split at e2
    case isFalse=>cases e2
    rename_i hc;cases e2;rw[av,decide_eq_true_iff]at hc;obtain⟨u,rfl,ru⟩:=rs.one;have e5:=s1 _ _ e4;refine⟨pa,vs,u,rfl,rfl,e5,mI (by rw[r.length];omega),?_⟩
    have r':Reps X.K (upd H1 pa (.lst (vs++[u]))) (Bin F) (vs++[u]) (xs++[y.2]):=by
     refine Reps.keep (λa o e b=>?_) (λ_ z=>z) _ (Reps.append (r.same s1 λ_ z=>z) ⟨u,[],rfl,Gx so hc.1 ru,rfl⟩)
     have gG:a≠pa:=by
      intro z;subst z;rcases b with b|b
      ·have b1:F.O a=none:=b.1;rw[hO]at b1;cases b1
      ·rw[e5]at e;cases e;exact b
     rw[aC gG];exact e
    obtain⟨tT,f2⟩:=(so.same s1).mutate hO h1 (.inl ⟨_,rfl⟩) ⟨pa,rfl,hO,.inl ⟨_,_,rfl,aW,r'⟩⟩;exact q U _ F tT Run.refl ((dA.same s1).trans f2)
   ·cases e2
  ·cases e3
 ·cases e
end
section
variable {X:Cx}{tg a b c e:Expr}{es:List Expr}{fa fb fc:Rho->Res GD}{pos:Pos}{st:Stmt}{rest A Bs:List Stmt}{fs gs:Rho->Res Out}
theorem GA (k k':Key):eqK (kD k') (kD k)=decide (k'=k):=by
 cases k'<;>cases k
 ·rename_i a b;show(a==b)=_;rw[mv,decide_eq_decide];exact⟨λh=>by rw[h],λh=>Sum.inl.inj h⟩
 ·rfl
 ·rfl
 ·rename_i a b;show decide (a=b)=_;rw[decide_eq_decide];exact⟨λh=>by rw[h],λh=>Sum.inr.inj h⟩
theorem bC.any {K:W.Frag}(k:Key):∀{kvs:List (Key×V)} {es:bK},bC K H B kvs es->(es.any λe=>eqK e.1 (kD k))=kvs.any λkv=>decide (kv.1=k)
 |kvs,[],r=>by have e:kvs=[]:=r;subst e;rfl
 |kvs,(kd,d)::es,r=>by obtain⟨k',v,t,e,e2,_,_,q⟩:=r;subst e e2;rw[jy,jy,q.any k,GA]
theorem bC.oR {K:W.Frag}(k:Key)(h:Rep K H B v d):∀{kvs:List (Key×V)} {es:bK},bC K H B kvs es->bC K H B (kvs.map λkv=>if kv.1=k then(kv.1,v)else kv) (es.map λe=>if eqK e.1 (kD k)then(e.1,d)else e)
 |kvs,[],r=>by have e:kvs=[]:=r;subst e;exact rfl
 |kvs,(kd,d0)::es,r=>by
  obtain⟨k',v0,t,e,e2,ok,h0,q⟩:=r;subst e e2;rw[bg,bg];have ih:=q.oR k h;by_cases z:k'=k
  ·subst z;rw[xu rfl,xu (by rw[GA];simp)];exact⟨k',v,_,rfl,rfl,ok,h,ih⟩
  ·rw[xw z,xw (by rw[GA];simpa using z)];exact⟨k',v0,_,rfl,rfl,ok,h0,ih⟩
theorem bC.app {K:W.Frag}(ok:keyOk k)(h:Rep K H B v d):∀{kvs:List (Key×V)} {es:bK},bC K H B kvs es->bC K H B (kvs++[(k,v)]) (es++[(kD k,d)])
 |kvs,[],r=>by have e:kvs=[]:=r;subst e;exact⟨k,v,[],rfl,rfl,ok,h,rfl⟩
 |kvs,(kd,d0)::es,r=>by obtain⟨k',v0,t,e,e2,UZ,h0,q⟩:=r;subst e e2;exact⟨k',v0,_,rfl,rfl,UZ,h0,q.app ok h⟩
theorem bC.put {K:W.Frag}(ok:keyOk k)(h:Rep K H B v d){es:bK}(r:bC K H B kvs es):bC K H B (putK kvs k v) (dput es (kD k) d):=by
 unfold putK dput;rw[r.any k];split
 ·exact r.oR k h
 ·exact r.app ok h
def AO (td ty tv:TE):TS:=λD U H=>tv U H λv H1=>td U H1 λx H2=>ty U H2 λy H3=>(∃a H4,x=.ref a/\DPut H3 a y v H4/\D.nx U H4)\/E4 x y v H3 λH4=>D.nx U H4
theorem Md (hu:X.A.units+1<cLine)(ho:PE X o td)(hi:PE X i ty)(hv:PE X value tv)(hs:mx value (some (.Subscript o i pos')) pos.line X.env=pure false):PS X (.Assign [.Subscript o i pos'] value pos) (AO td ty tv):=by
 intro pins s U H D I h;refine wpAny_Assign_Subscript (aM (hv pins s U H _ I h) λr s1 ⟨v,H1,I1,rv,q1⟩=>aM (ho pins s1 U H1 _ I1 q1) λu s2 ⟨x,H2,I2,rx,q2⟩=>aM (hi pins s2 U H2 _ I2 q2) λiv s3 ⟨y,H3,I3,ry,q3⟩=>?_) hs;rcases q3 with⟨a,H4,ex,g,q3⟩|q3
 ·subst ex;obtain rfl:u=Value.ref a:=rx;exact zc5 hu I3 g ry rv λs4 I4=>⟨U,H4,I4,q3⟩
 ·exact aM (set_list pins s3 U H3 x y v u iv r _ I3 rx ry rv q3) λ_ s4 ⟨H4,I4,q4⟩=>⟨U,H4,I4,q4⟩
def GB (i:Nat)(fv fk:Rho->Res GD):Rho->Res Out:=λY=>fv Y>>=λy=>fk Y>>=λx=>match Y[i]? with
 |some (some (.fr,.dict es))=>if lU x.2&&okIn y&&decide (es.length<bJ)then .ok (.nx ((Y.set i (some (.fr,.dict (dput es x.2 y.2)))).map jI))else .no
 |some (some (.fr,.list xs))=>(match x.2 with
  |.int j=>if okIn y then(match jU xs.length j with|some n=>.ok (.nx ((Y.set i (some (.fr,.list (xs.set n y.2)))).map jI))|none=>.no)else .no
  |_=>.no)
 |_=>.no
theorem zru (hu:X.A.units+64<cLine)(hN:X.N[i]?=some x)(hv:Vis X.env.scope x)(hd:aac x)(hcd:(x==("__classdict__":Str))=false)(hs:z1q value=false)(hk:PE X ie (tD X.K fk))(hva:PE X value (tD X.K fv)):
  PS X (.Assign [.Subscript (.Name x p) ie pos'] value pos) (tDS X.K (GB i fv fk)):=by
 refine PS.imp (Md (by omega) (uS hN hv hd hcd) hk hva (yp hs _ _ _)) λD U H zz=>?_;obtain⟨Y,F,out,so,e,q⟩:=zz;obtain⟨y,e1,e⟩:=Res.aA e;obtain⟨kx,e2,e⟩:=Res.aA e;refine⟨Y,F,y,so,e1,λv H1 s1 rv=>?_⟩;have iG:=so.same s1;split at e
 ·rename_i es hr;split at e
  case isFalse=>cases e
  rename_i hc;cases e;rw[bq,bq,decide_eq_true_eq]at hc;obtain⟨pa,h1,hO,h⟩:=Gy iG hr;rcases h with⟨_,_,e3,_⟩|⟨kvs,fN,e3,e4,r⟩
  ·cases e3
  ·cases e3;refine⟨_,h1,Y,F,kx,iG,e2,λw H2 s2 bE=>.inl ?_⟩;obtain⟨k,ek,rfl,ok⟩:=AI hc.1.1 bE;have e5:=s2 _ _ e4;refine⟨pa,_,rfl,DPut.k e5 (by rw[r.length];exact cg hc.2 (mI (ag _))),?_⟩
   have hk:∀a o,H2 a=some o->(Bin F (some a)\/Fix o)->upd H2 pa (.dK (putK kvs k v)) a=some o:=λa o e b=>by
    have gG:a≠pa:=by
     intro z;subst z;rcases b with b|b
     ·have b1:F.O a=none:=b.1;rw[hO]at b1;cases b1
     ·rw[e5]at e;cases e;exact b
    rw[aC gG];exact e
   have r':bC X.K (upd H2 pa (.dK (putK kvs k v))) (Bin F) (putK kvs k v) (dput es kx.2 y.2):=by rw[ek];exact bC.keep hk (λ_ z=>z) _ (bC.put ok (Gx so hc.1.2 (rv.same s2 λ_ z=>z)) (r.same s2 λ_ z=>z))
   obtain⟨tT,f2⟩:=(iG.same s2).mutate hO h1 (.inr ⟨_,rfl⟩) ⟨pa,rfl,hO,.inr ⟨_,_,rfl,aW,r'⟩⟩;exact q U _ F tT Run.refl ((dA.same (s1.trans s2)).trans f2)
 ·rename_i xs hr;split at e
  case h_2=>cases e
  rename_i j hj;split at e
  case isFalse=>cases e
  rename_i hc;split at e
  case h_2=>cases e
  rename_i n hn;cases e;obtain⟨pa,h1,hO,h⟩:=Gy iG hr;rcases h with⟨vs,ds,e3,e4,r⟩|⟨_,_,e3,_⟩
  ·cases e3;refine⟨_,h1,Y,F,kx,iG,e2,λw H2 s2 bE=>.inr ?_⟩;rw[hj]at bE;have ew:=bE;subst ew;have e5:=s2 _ _ e4;refine⟨pa,vs,j,n,rfl,rfl,e5,by rw[r.length];exact hn,?_⟩
   have hk:∀a o,H2 a=some o->(Bin F (some a)\/Fix o)->upd H2 pa (.lst (vs.set n v)) a=some o:=λa o e b=>by
    have gG:a≠pa:=by
     intro z;subst z;rcases b with b|b
     ·have b1:F.O a=none:=b.1;rw[hO]at b1;cases b1
     ·rw[e5]at e;cases e;exact b
    rw[aC gG];exact e
   have r':=Reps.keep hk (λ_ z=>z) _ (Reps.set (Gx so hc (rv.same s2 λ_ z=>z)) n (r.same s2 λ_ z=>z));obtain⟨tT,f2⟩:=(iG.same s2).mutate hO h1 (.inl ⟨_,rfl⟩) ⟨pa,rfl,hO,.inl ⟨_,_,rfl,aW,r'⟩⟩;exact q U _ F tT Run.refl ((dA.same (s1.trans s2)).trans f2)
  ·cases e3
 ·cases e
def tDF (K:W.Frag)(f:Rho->Res (G×List D×Rho)):TI:=λU H R=>∃Y F w,StOk K F H U Y/\f Y=.ok w/\∀J B H' F',Same H H'->Run F F'->dA F H F' H'->StOk K F' H' U w.2.2->(∀a,B (some a)->F'.O a=none)->(∀a,B a->BI F' w.1 a)->Walk K J B H' w.2.1->R J H'
theorem GC {K:W.Frag}(so:StOk K F H U Y){a:Addr}(hg:g≠.al)(h:BG F H g (some a)):F.O a=none:=by
 cases e1:F.O a with
 |none=>rfl
 |some j=>
  obtain⟨h0,_,h'⟩:=so.own a j e1;cases g with
  |fr=>have hb:=h;rcases h' with⟨xs,h'⟩|⟨xs,h'⟩<;>rw[hb]at h'<;>cases h'
  |od=>exact absurd h0 h.1
  |al=>exact absurd rfl hg
  |nu=>
   rcases h with h|h
   ·have hb:H a=none:=h;rcases h' with⟨xs,h'⟩|⟨xs,h'⟩<;>rw[hb]at h'<;>cases h'
   ·have hb:F.O a=none:=h.1;rw[hb]at e1;cases e1
theorem Me (hw:PI X tg e (tDW X.K fw)):PI X tg e (tDF X.K λY=>fw Y>>=λw=>if w.1==.al then .no else .ok (w.1,w.2,Y)):=
 PI.imp hw λU H R ⟨Y,F,w,so,e,q⟩=>by
  obtain⟨w0,e1,e⟩:=Res.aA e;refine⟨Y,F,w0,so,e1,λJ B H1 s1 hB wk=>?_⟩;split at e
  ·cases e
  ·rename_i hal;cases e;exact q J B H1 F s1 Run.refl (dA.same s1) (so.same s1) (λa b=>GC so (λz=>hal (by rw[z];rfl)) (hB _ b).1) (λa b=>BI.of so.aJ (hB a b).1) wk
theorem StOk.giveUp {K:W.Frag}(so:StOk K F H U Y)(e:Y[i]?=some (some (.fr,d))):StOk K (F.drop i) H U (Y.set i (some (.al,d))):=by
 obtain⟨v,h1,h2⟩:=so.sl i .fr d e;have:=so.oP (i:=i) (x:=(.al,d)) (h2.rep so.jZ)
 have es:U.set i (some v)=U:=by
  apply wf;intro j;by_cases hj:i=j
  ·subst hj;rw[gu];simp only[if_true,(bp.mp h1).1];exact h1.symm
  ·rw[d8 hj]
 rw[es]at this;exact this
theorem U0 (hN:X.N[i]?=some x)(hv:Vis X.env.scope x)(hd:aac x)(hcd:(x==("__classdict__":Str))=false):PI X tg (.Name x pos) (tDF X.K (C0 i)):=by
 rintro pins s U H R I ⟨Y,F,w,so,e,q⟩
 unfold C0 at e;split at e
 ·rename_i d hr;obtain⟨xs,e2,e⟩:=Res.aA e;cases e;obtain⟨v,h1,h2⟩:=so.sl i .fr d hr;refine aM (uS hN hv hd hcd pins s U H (λu H1=>u=v/\H1=H) I ⟨v,h1,rfl,rfl⟩) λu s1 zz=>?_;obtain⟨y,H1,I1,r1,ey,eH⟩:=zz;subst ey eH
  let B:Ad->Prop:=λa=>match a with|some a=>(F.drop i).O a=none/\F.V a|none=>False
  have rv:Rep X.K H1 B y d:=by
   obtain⟨p,ey,hO,h3⟩:=h2
   have hb:∀a,Bin F a->B a:=λa b=>by
    cases a with
    |none=>exact b
    |some a=>exact⟨Fm.bO b.1,b.2.2⟩
   have hp:B (some p):=⟨by show(if F.O p=some i then none else F.O p)=none;rw[xu hO],so.jZ p i hO⟩;rcases h3 with⟨vs,ds,rfl,e4,r⟩|⟨vs,ds,rfl,e4,r⟩
   ·exact⟨p,vs,ey,.inl ⟨e4,hp⟩,r.weak hb⟩
   ·exact⟨p,vs,ey,e4,hp,bC.same (λ_ _ e=>e) hb r⟩
  refine z36 I1 r1 rv e2 λJ wk=>q J B H1 (F.drop i) (Same.refl _) (Run.of rfl rfl rfl) (dA.drop (Same.refl _)) (so.giveUp hr) (λa b=>b.1) (λa b=>?_) wk;cases a with
  |none=>exact b.elim
  |some a=>exact b.2
 ·cases e
def Fm.oS (F:Fm)(H:Hp):Fm:={F with O:=λa=>match H a with|some (.dK _)=>F.O a|_=>none}
theorem Fm.iV {F:Fm}{a:Addr}(h:F.O a=none):(F.oS H).O a=none:=by
 unfold Fm.oS
 dsimp only
 split<;>first|exact h|rfl
theorem StOk.oS {K:W.Frag}(so:StOk K F H U Y):StOk K (F.oS H) H U (Y.map FJ) where
 ext:=so.ext
 aJ:=so.aJ
 own:=λa i e=>by
  have e':F.O a=some i:=by
   unfold Fm.oS at e
   dsimp only at e
   split at e
   ·exact e
   ·cases e
  exact so.own a i e'
 len:=by rw[ae];exact so.len
 sl:=λi g d e=>by
  rw[az]at e;cases h1:Y[i]? with
  |none=>rw[h1]at e;cases e
  |some o=>
   rw[h1]at e;have e':FJ o=some (g,d):=by simpa using e
   cases o with
   |none=>cases e'
   |some gd=>
    obtain⟨g0,d0⟩:=gd;obtain⟨v,h2,h3⟩:=so.sl i g0 d0 h1;refine⟨v,h2,?_⟩
    have hb:∀a,Bin F a->Bin (F.oS H) a:=λa b=>by
     cases a with
     |none=>exact b
     |some a=>exact⟨Fm.iV b.1,b.2.1,b.2.2⟩
    cases g0 with
    |od=>cases e';exact h3
    |al=>cases e';exact h3
    |nu=>cases e';exact Rep.weak hb h3
    |fr=>
     obtain⟨p,ev,hO,h4⟩:=id h3;rcases h4 with⟨vs,ds,rfl,e4,r⟩|⟨kvs,es,rfl,e4,r⟩
     ·have e2:some (G.al,PyData.list ds)=some (g,d):=e';cases e2;have h5:=Slot.rep so.jZ h3;exact h5
     ·have e2:some (G.fr,PyData.dict es)=some (g,d):=e';cases e2;refine⟨p,ev,?_,.inr ⟨kvs,es,rfl,e4,bC.same (λ_ _ z=>z) hb r⟩⟩;unfold Fm.oS
      dsimp only
      rw[e4];exact hO
theorem GF (ha:PE X e (tD X.K fa)):PI X tg e (tDF X.K λY=>fa Y>>=λx=>oM x Y):=by
 rintro pins s U H R I ⟨Y,F,w,so,e0,q⟩
 obtain⟨⟨g,d⟩,e1,e0⟩:=Res.aA e0;unfold oM at e0
 dsimp only at e0
 split at e0
 ·rename_i xs;split at e0
  ·rename_i hi;cases e0;refine aM (ha pins s U H (λv H1=>Same H H1/\Rep X.K H1 (BG F H g) v (.list xs)) I ⟨Y,F,_,so,e1,λv H1 s1 rv=>⟨s1,rv⟩⟩) λv s1 zz=>?_;obtain⟨y,H1,I1,r1,eW,rv⟩:=zz
   let B:Ad->Prop:=λa=>match a with|some a=>(F.oS H1).O a=none/\F.V a|none=>F.z
   have wB:Rep X.K H1 B y (.list xs):=by
    obtain⟨p,vs,ey,h,r⟩:=rv;refine⟨p,vs,ey,?_,Reps.bB xs hi r⟩;rcases h with⟨h,b⟩|⟨h,b⟩
    ·refine .inl ⟨h,?_,(BG.aJ so.aJ b:bP F (some p))⟩;unfold Fm.oS
     dsimp only
     rw[h]
    ·exact .inr ⟨h,(BG.aJ so.aJ b:bP F none)⟩
   refine z36 I1 r1 wB rfl λJ wk=>q J B H1 (F.oS H1) eW (Run.of rfl rfl rfl) (λa o e n=>⟨eW a o e,Fm.iV n⟩) ((so.same eW).oS) (λa b=>b.1) (λa b=>?_) wk;cases a with
   |none=>exact b
   |some a=>exact b.2
  ·cases e0
 ·cases e0
theorem PI.Mf {k:Rho->Bool}(hf:PI X tg e (tDF X.K f))(hg:PI X tg e (tDF X.K g)):PI X tg e (tDF X.K λY=>if k Y then f Y else g Y):=by
 rintro pins s U H R I ⟨Y,F,w,so,e,q⟩
 dsimp only at e
 cases hk:k Y with
 |true=>exact hf pins s U H R I ⟨Y,F,w,so,by rw[xu hk]at e;exact e,q⟩
 |false=>exact hg pins s U H R I ⟨Y,F,w,so,by rw[xw (hk▸eg)]at e;exact e,q⟩
theorem ztd (hp:jx (model X.prog X.w) X.A X.env X.xe)(hc:X.calm=true)(hi:PI X tg iter (tDF X.K fw))(hg:PG X tg (tDG X.K t))(hb:PSs X body (tDS X.K fs))(hs:∀x,ij iter X.env x=pure x):
  PS X (.For tg iter body [] pos) (tDS X.K λY=>fw Y>>=λw=>dD (λx ρ1=>eG t (gJ x w.1,x) ρ1>>=λcF=>fs cF) w.2.1 w.2.2):=
 PS.imp (z8r hp hc hi hg hb hs) λD U H ⟨Y,F,out,so,e,q⟩=>by
  obtain⟨w,e1,e⟩:=Res.aA e;refine⟨Y,F,w,so,e1,λJ B H1 F1 s1 r1 f1 iG U1 U2 wk=>?_⟩;have q1:=q.back r1 f1;generalize hf:(λx ρ1=>eG t (gJ x w.1,x) ρ1>>=λcF=>fs cF)=f at e
  have kp:∀{F2:Fm} {H2:Hp},dA F1 H1 F2 H2->Kp B H1 H2:=λ{F2 H2} fr a o e b=>by
   have hO:F1.O a=none:=by
    rcases b with b|b
    ·exact U1 a b
    ·cases e2:F1.O a with
     |none=>rfl
     |some j=>obtain⟨_,_,h'⟩:=iG.own a j e2;rcases h' with⟨xs,h'⟩|⟨xs,h'⟩<;>rw[e]at h'<;>cases h'<;>exact b.elim
   exact(fr a o e hO).1
  let W:Nat->Nat->L2.St->Hp->Prop:=λi m iE H2=>m=w.2.1.length-i/\i<=w.2.1.length/\∃cF F2,StOk X.K F2 H2 iE cF/\Run F1 F2/\dA F1 H1 F2 H2/\dD f (w.2.1.drop i) cF=.ok out
  refine⟨W,⟨_,rfl,bw _,w.2.2,F1,iG,Run.refl,dA.refl,e⟩,?_⟩
  rintro i m iE H2 ⟨rfl,U3,cF,F2,tT,r2,f2,e2⟩
  by_cases bF:i<w.2.1.length
  ·refine .inr ⟨wk.go H2 (kp f2) i bF,W (i+1) (w.2.1.length-(i+1)),λσ' H' p=>⟨_,by omega,p⟩,λx H3 y=>?_⟩;obtain⟨s3,d,hd,rx⟩:=wk.fU H2 (kp f2) i x H3 bF y
   have yy:w.2.1.drop i=d::w.2.1.drop (i+1):=by
    rw[ou bF];have:w.2.1[i]=d:=by rw[ak bF]at hd;simp_all
    rw[this]
   rw[yy]at e2;simp only[dD]at e2
   have Gr:Rep X.K H3 (BI F2 (gJ d w.1)) x d:=by
    have U4:∀g a,BI F1 g a->BI F2 g a:=λg a b=>by cases g<;>cases a<;>first|exact b|(have b':F1.V _:=b;rw[<-r2.2.1]at b';exact b')|(have b':F1.z:=b;rw[<-r2.2.2]at b';exact b')|(have b':F1.H0 _≠none/\F1.V _:=b;exact⟨λz=>b'.1 (none_of r2.1 z),by rw[r2.2.1];exact b'.2⟩)
    unfold gJ;by_cases hi:aP d=true
    ·rw[xu hi];exact Rep.bB d hi rx
    ·rw[xw hi];exact rx.weak λa b=>U4 _ _ (U2 a b)
   cases e3:f d cF with
   |no=>rw[e3]at e2;cases e2
   |exc z=>rw[e3]at e2;cases e2
   |ok o1=>
    obtain⟨Mg,e4,e5⟩:=Res.aA (by rw[<-e3,<-hf]);rw[e3]at e2;refine⟨cF,F2,(gJ d w.1,d),Mg,tT.same s3,Gr,e4,λbM F4 Dc hW=>⟨Mg,F4,o1,Dc,e5,?_⟩⟩;have r4:=r2.trans (Run.of hW.h0 hW.v hW.z);have f4:=f2.trans λa o e n=>⟨s3 a o e,hW.o a n⟩;cases o1 with
    |nx U5=>exact λσ' H' F' pW r' f'=>⟨rfl,bF,U5,F',pW,r4.trans r',f4.trans f',e2⟩
    |rt g d=>cases e2;exact(q1.back r4 f4:AN X.K F4 H3 D (.rt g d))
  ·have rK:i=w.2.1.length:=by omega
   subst rK;rw[List.drop_length]at e2;cases e2;exact .inl ⟨wk.stop H2 (kp f2),q1 iE H2 F2 tT r2 f2⟩
end
def rAgg (K:W.Frag)(f:String):List V->Hp->VK->Prop:=λxs H Q=>∃B x dx l ys d,xs=[x]/\Rep K H B x dx/\z4v dx=.ok (l,ys)/\aggD f l ys=.ok d/\∀w H',Same H H'->Rep K H' (λa=>nw H a\/(imms ys=false/\B a)) w d->Q w H'
theorem wG {K:W.Frag}(r:Rep K H B x dx)(e:z4v dx=.ok (l,ys)):∃a vs,x=.ref a/\(if l then SqL K H a vs else bL K H a vs)/\Reps K H B vs ys:=by
 cases dx<;>try (cases e;done)
 ·cases e;obtain⟨a,vs,rfl,h,q⟩:=pV r;exact⟨a,vs,rfl,h,q⟩
 ·cases e;obtain⟨a,vs,rfl,h,q⟩:=r;exact⟨a,vs,rfl,h,q⟩
theorem Reps.oU {K:W.Frag}(r:Reps K H B vs ys):Reps K H (λa=>nw H a\/(imms ys=false/\B a)) vs ys:=by
 cases hi:imms ys with
 |true=>exact Reps.bB ys hi r
 |false=>exact r.weak λ_ z=>.inr ⟨rfl,z⟩
section
variable {X:Cx}{e:Expr}{fa:Rho->Res GD}{pos:Pos}
theorem zic (so:StOk X.K F H U Y)(e:((fa Y>>=fun x=>z4v x.2>>=fun p=>Res.ok (x.1,p))>>=fun w=>aggD f w.2.1 w.2.2>>=fun d=>Res.ok ((gJ d (if imms w.2.2 then .fr else agG w.1),d):GD))=.ok z)(q:∀v H',Same H H'->Rep X.K H' (BG F H z.1) v z.2->Q v H'):
  oD (rAgg X.K f) (qJ (tD X.K fa) iQ) U H Q:=by
 obtain⟨w,e0,e⟩:=Res.aA e;obtain⟨x,e1,e0⟩:=Res.aA e0;obtain⟨p,e2,e0⟩:=Res.aA e0;cases e0;obtain⟨d,e3,e⟩:=Res.aA e;cases e;refine⟨Y,F,x,so,e1,λv H1 s1 rv=>⟨_,v,x.2,p.1,p.2,d,rfl,rv,e2,e3,λw' H2 s2 bE=>q w' H2 (s1.trans s2) (tP bE λa h=>?_)⟩⟩;cases hi:imms p.2 with
 |true=>
  rcases h with h|⟨h,_⟩
  ·exact nw.back s1 h
  ·rw[hi]at h;cases h
 |false=>
  have al:bP F a:=by
   rcases h with h|⟨_,h⟩
   ·exact(nw.back s1 h).aJ so.aJ
   ·exact h.aJ so.aJ
  cases hg:x.1 with
  |fr=>
   rcases h with h|⟨_,h⟩
   ·exact nw.back s1 h
   ·rw[hg]at h;exact h
  |od=>exact al
  |al=>exact al
  |nu=>
   rcases h with h|⟨_,h⟩
   ·exact .inl (nw.back s1 h)
   ·rw[hg]at h;exact h
theorem U6:CallR X (.type "list") (rAgg X.K "list"):=by
 refine CallR.imp Sv λxs H Q h=>?_;obtain⟨B,x,dx,l,ys,d,rfl,r,e,e2,q⟩:=h;obtain⟨a,vs,rfl,h,rs⟩:=wG r e;cases e2
 have h':SqL X.K H a vs\/bL X.K H a vs:=by
  cases l with
  |true=>exact .inl h
  |false=>exact .inr h
 refine⟨a,vs,rfl,h',λp hp=>q _ _ (Same.upd hp) (tQ hp rs.oU (λ_ z=>z) (.inl hp))⟩
theorem Mh:CallR X (.type "tuple") (rAgg X.K "tuple"):=by
 refine CallR.imp Sw λxs H Q h=>?_;obtain⟨B,x,dx,l,ys,d,rfl,r,e,e2,q⟩:=h;obtain⟨a,vs,rfl,h,rs⟩:=wG r e;cases e2;refine⟨a,vs,rfl,?_⟩;cases l with
 |true=>exact .inl ⟨h,λp hp=>q _ _ (Same.upd hp) (C6 hp rs.oU λ_ z=>z)⟩
 |false=>exact .inr ⟨h,q _ H (Same.refl H) ⟨a,vs,rfl,h,rs.oU⟩⟩
theorem GG {K:W.Frag}:∀{ds:List D} {bs:List Bool} {vs:List V},allB ds=some bs->Reps K H B vs ds->vs=bs.map V.bl
 | [],bs,vs,e,r=>by cases e;exact r
 |d::ds,bs,vs,e,r=>by
  cases d<;>try (cases e;done)
  simp only[allB]at e;cases e1:allB ds with
  |none=>rw[e1]at e;cases e
  |some bs'=>rw[e1]at e;cases e;obtain⟨v,t,rfl,h1,h2⟩:=r;have ev:=h1;rw[ev,GG e1 h2];rfl
theorem U7 (hc:X.calm=true):CallR X (.builtin "all") (rAgg X.K "all"):=by
 refine CallR.imp (S9 hc) λxs H Q h=>?_;obtain⟨B,x,dx,l,ys,d,rfl,r,e,e2,q⟩:=h;obtain⟨a,vs,rfl,h,rs⟩:=wG r e;simp only[aggD,show("all":String)≠"list" by decide,show("all":String)≠"tuple" by decide,show("all":String)≠"sorted" by decide,show("all":String)≠"sum" by decide,if_true,if_false]at e2;cases l with
 |false=>cases e2
 |true=>
  cases e3:allB ys with
  |none=>rw[e3]at e2;cases e2
  |some bs=>rw[e3]at e2;cases e2;have ev:=GG e3 rs;subst ev;exact⟨a,bs,rfl,h,q _ H (Same.refl H) rfl⟩
theorem zj4 (hc:CallR X (.type f) (rAgg X.K f))(hm:X.mg x=none)(hv:df x=some (.type f))(hs:isStar y=false)(ha:PE X y (tD X.K fa))(hg:Gl X x)(hn:x≠"__name__")(hdb:aac x):
  PE X (.Call (.Name x p) [y] [] pos) (tD X.K λY=>(fa Y>>=λx=>z4v x.2>>=λp=>Res.ok (x.1,p))>>=λw=>aggD f w.2.1 w.2.2>>=λd=>.ok (gJ d (if imms w.2.2 then .fr else agG w.1),d)):=
 PE.imp (CW hc hm hv (eF ha lP hs) (by simp[hs]) hg hn hdb) λU H Q ⟨Y,F,z,so,e,q⟩=>zic so e q
theorem zbs (hc:CallR X (.builtin f) (rAgg X.K f))(hm:X.mg x=none)(hv:df x=some (.builtin f))(hs:isStar y=false)(ha:PE X y (tD X.K fa))(hg:Gl X x)(hn:x≠"__name__")(hdb:aac x):
  PE X (.Call (.Name x p) [y] [] pos) (tD X.K λY=>(fa Y>>=λx=>z4v x.2>>=λp=>Res.ok (x.1,p))>>=λw=>aggD f w.2.1 w.2.2>>=λd=>.ok (gJ d (if imms w.2.2 then .fr else agG w.1),d)):=
 PE.imp (An hc hm hv (eF ha lP hs) (by simp[hs]) hg hn hdb) λU H Q ⟨Y,F,z,so,e,q⟩=>zic so e q
end
structure NoKeys (T id:String):Prop where
 own:PySem.Slot T "__getattribute__" id
 entry:entryFor table id=some Builtin.«object.__getattribute__»
 two:∀a b:Value,argsOk id {pos:=[a,b]}
 rest:typeLookup (.type T) "__getattr__"=pure none
 miss:∀(a:Addr) (xs:Array Value) (k:Nat) (sl:Array (Option Value)) (u:Tok),Meets (Builtin.«object.__getattribute__» {pos:=[.ref a,.str "keys" u]}) λA R s=>s.heap.get? a=some {cls:=.type T,data:=.seq xs k,slots:=sl}/\raisesAttr (.ref a) "keys" A R s
theorem U8:NoKeys "list" "list.__getattribute__" where
 own:=F.slot_list_getattribute
 entry:=am_entry_list_getattribute
 two:=F.args_list_getattribute_2
 rest:=am_list_getattr_none
 miss:=λa xs k sl u=>meets_getattribute_miss_list a xs k sl "keys" u (by rw[typeLookup_type,builtinLookup_eq_fast];kernel_rfl) dc (by size_fits)
theorem U9:NoKeys "tuple" "tuple.__getattribute__" where
 own:=F.slot_tuple_getattribute
 entry:=am_entry_tuple_getattribute
 two:=F.args_tuple_getattribute_2
 rest:=am_tuple_getattr_none
 miss:=λa xs k sl u=>meets_getattribute_miss_tuple a xs k sl "keys" u (by rw[typeLookup_type];kernel_rfl) dc (by size_fits)
theorem NoKeys.ask {T id:String}(N:NoKeys T id){prog:cu}{w:World}{A:i6}{E:Value->aw->Prop}{s:aw}{a:Addr}{o:Obj}{xs:Array Value}{k:Nat}{Q:Option Value->aw->Prop}
  (hx:s.heap.get? a=some o) (hc:o.cls=.type T) (kF:o.data=.seq xs k) (hd:o.dict=none) (hA:A.handled=none)
  (h:∀h' tk e,uo s.heap h' e "AttributeError"->Q none {s with heap:=h',toks:=tk}):
  wpAny (model prog w) A (wg (.ref a) "keys") Q E s:=by
 cases o;cases hc;cases kF;cases hd;cases s;rename_i slots heap gens drawn toks os;have ty:∀t,(⟨heap,gens,drawn,t,os⟩:aw).TypeIs (.ref a) T:=λt=>⟨_,hx,rfl⟩;have isA:=sub_AttributeError;have n1:=N.own.lookup;have n2:=N.own.bind (.ref a);have n3:=N.rest
 delta wg getAttrBy? getAttrBy
 repeat' (first|assumption|exact ty _|(apply xp N.own (ty _) N.entry (N.two _ _) (N.miss a xs k slots _))|wp_step)
 refine⟨hx,hA,λqL De ex nx=>?_⟩;obtain⟨t2,u2,there⟩:=nx.there;have fin:=λt=>h _ t _ nx.of
 dsimp only[wants]
 delta getattributeRaised
 repeat' (first|assumption|apply fin|wp_step)
theorem U'
 (hx:s.heap.get? a=some o) (hc:o.cls=.type "list") (kF:o.data=.seq xs k) (hd:o.dict=none) (hA:A.handled=none) (h:∀h' tk e,uo s.heap h' e "AttributeError"->Q none {s with heap:=h',toks:=tk}):
 wpAny (model prog w) A (wg (.ref a) "keys") Q E s:=U8.ask hx hc kF hd hA h
theorem Va
 (hx:s.heap.get? a=some o) (hc:o.cls=.type "tuple") (kF:o.data=.seq xs k) (hd:o.dict=none) (hA:A.handled=none) (h:∀h' tk e,uo s.heap h' e "AttributeError"->Q none {s with heap:=h',toks:=tk}):
 wpAny (model prog w) A (wg (.ref a) "keys") Q E s:=U9.ask hx hc kF hd hA h
abbrev yA (X:Cx)(A:i6)(E:Value->aw->Prop):Cx:={X with A:=A,xe:=E}
theorem _root_.L2.Inv.yA (I:Inv X pins U H s)(hd:A.handled=X.A.handled)(hf:A.frames=X.A.frames):Inv (yA X A E) pins U H s:=⟨⟨I.ok.mod,I.ok.kind,I.ok.glob,I.ok.blt,I.ok.above,I.ok.inj,I.ok.has,I.ok.ye,λz=>hd.trans (I.ok.hd z),hf.trans I.ok.frames,I.ok.zp,I.ok.zr,I.ok.bs,I.ok.nB,I.ok.lK,I.ok.lM,I.ok.dX,I.ok.uR,I.ok.EB⟩,I.os,I.bare,I.base,I.loc,I.cell,I.free,I.bX,I.pin,I.hok,I.len,I.fx⟩
theorem _root_.L2.Inv.GH (ok:X.Ok)(I:Inv (yA X A E) pins U H s):Inv X pins U H s:=⟨ok,I.os,I.bare,I.base,I.loc,I.cell,I.free,I.bX,I.pin,I.hok,I.len,I.fx⟩
namespace F
theorem entry_dict_loop:entryFor table "dict.update.loop"=some Builtin.«dict.update.loop»:=entryFor_of_tree (by kernel_rfl)
theorem aT:plainId "dict.update.loop"=true:=by decide+kernel
end F
section
variable {X:Cx}{pins:List (Addr×Obj)}{U:L2.St}
theorem Vb (p:IsTup s.heap a its.toArray)(h:Q its s):wpAny (model prog w) A (Builtin.Dict.pairItems (.ref a)) Q E s:=by have hT:=p.typeIs;obtain⟨o,ho,hc,n,hd⟩:=p;apply ac;refine n9 hT ?_;apply ac;refine g9 ho hd ?_;apply am;simpa using h
theorem zta (hc:X.calm=true)(hA:X.A=A.in1)(T:Turn X.prog X.w X.K (.Name x0 p0) J fp it tn)(Wk:Walk X.K J B H1 ds)(hdB:¬B (some d)):
  ∀n i s H kvs (es:bK) t iv,ds.length-i=n->i<=ds.length->Inv X pins U H s->tn i s.heap->(∀b∈fp,FpOk X pins H b)->H d=some (.dK kvs)->kvs.length<=i->bC X.K H B kvs es->lV es (ds.drop i)=some fN->Kp B H1 H->
   (∀s' H' mK,Inv X pins U H' s'->H' d=some (.dK mK)->bC X.K H' B mK fN->(∀a o,a≠d->H a=some o->H' a=some o)->R (.ok (.ret .none)) s')->
   nk (model X.prog X.w) A (.builtin "dict.update.loop" ⟨[.ref d,.ref it,.int iv t,.none],[]⟩) R s:=by
 intro n
 induction n with
 |zero=>
  intro i s H kvs es t iv hn hi I st fo hd hl rs em kp hR;have e:i=ds.length:=by omega
  subst e;refine lj F.entry_dict_loop ?_;rw[Around.under_plainId F.aT _,<-hA];refine ac (aM (T.done X rfl rfl rfl hc _ pins s U H _ I fo st (Wk.stop H kp)) λr s1 zz=>?_);obtain⟨rfl,I1⟩:=zz;rw[List.drop_length]at em;cases em;exact ac (am (am (hR s1 H kvs I1 hd rs λ_ _ _ e=>e)))
 |succ n ih=>
  intro i s H kvs es t iv hn hi I st fo hd hl rs em kp hR;have bF:i<ds.length:=by omega
  refine lj F.entry_dict_loop ?_;rw[Around.under_plainId F.aT _,<-hA];refine ac (aM (T.item X rfl rfl rfl hc i pins s U H _ I fo st (Wk.go H kp i bF)) λr s1 zz=>?_);obtain⟨u,rfl,h4⟩:=zz;have key:∀(m:Sem PySem.Fin) Q' E',wpAny (model X.prog X.w) X.A (jg (.Name x0 p0) (.ref it) u>>=λ_=>m) Q' E' s1->wpAny (model X.prog X.w) X.A m Q' E' s1:=λm Q' E' h=>h;refine key _ _ _ (ac (aM h4 λ_ s5 zz=>?_));obtain⟨x,H5,I5,r5,y5,nY,zO⟩:=zz;obtain⟨sm,di,wH,rx⟩:=Wk.fU H kp i x H5 bF y5;have ed:ds.drop i=di::ds.drop (i+1):=by rw[ou bF];rw[ak bF]at wH;cases wH;rfl
  rw[ed]at em;unfold lV at em;split at em
  case h_2=>cases em
  rename_i kd vd;split at em
  case isFalse=>cases em
  rename_i hk;obtain⟨a,vs,rfl,sq,gI⟩:=rx;obtain⟨vk,vv,rfl,rk,rv⟩:=Gk gI;cases r5;obtain⟨its,GI,pt,_⟩:=I5.tuple sq;obtain⟨uk,uv,rfl,Vc,Vd⟩:=vals2 GI;have CJ:=I5.pinned (λb hb=>⟨zO b hb,(fo b hb).2⟩) (T.obj _ _ nY);have GJ:=sm _ _ hd;obtain⟨k,rfl,rfl,ok⟩:=AI hk rk;obtain⟨z,yn,eB,rel,dd⟩:=zU CJ.hok GJ;have yB:eB.length<=bc:=rel.length▸z;have hz:=Wk.len;have tG:(putK kvs k vv).length<=i+1:=by have:=CM kvs k vv;omega
  refine ac (dj (ac (wpAny_tryCatch (Vb pt ?_))));refine dj (wpAny_dictSet_pairs (tH Vc) dd λh' kS hs=>?_);have I6:=z66 (t':=s5.toks+1) CJ (GJ▸True.intro) hs (let⟨q,_,_,hq,_⟩:=kS;⟨q,hq⟩) (EW (by omega) yn (rel.put k Vd) kS)
  have Mj:Kp B H5 (upd H5 d (.dK (putK kvs k vv))):=λb o e z=>by
   have:b≠d:=by
    rintro rfl
    rcases z with z|z
    ·exact hdB z
    ·rw[GJ]at e;cases e;exact z
   rw[aC this];exact e
  refine am ⟨uq F.aT _,?_⟩;refine ih (i+1) _ (upd H5 d (.dK (putK kvs k vv))) (putK kvs k vv) (dput es (kD k) vd) _ _ (by omega) bF I6.bY ?_ ?_ aW tG ?_ em ?_ ?_
  ·exact T.keep _ _ _ nY λb hb o e=>(I6.pin (b,o) (ay _ (ay _ (yh hb e)))).1
  ·intro b hb;obtain⟨o,e,_⟩:=T.obj _ _ nY b hb;exact⟨(I6.pin (b,o) (ay _ (ay _ (yh hb e)))).2.1,(fo b hb).2⟩
  ·exact bC.keep Mj (λ_ z=>z) _ (bC.put ok rv (rs.same sm λ_ z=>z))
  ·exact λb o e z=>Mj b o (sm b o (kp b o e z)) z
  ·intro s' H' mK I' fB Df ext;refine hR s' H' mK I' fB Df λb o hb e=>ext b o hb ?_;rw[aC hb];exact sm b o e
theorem Ve {K:W.Frag}(s:Same H H')(h:SqL K H a xs):SqL K H' a xs:=by
 rcases h with(h|⟨o,h⟩)|h
 ·exact .inl (.inl (s _ _ h))
 ·exact .inl (.inr ⟨o,s _ _ h⟩)
 ·exact .inr h
theorem Vf (es:bK)(k v:D)(h1:cA es=true)(h:aP v=true):cA (es++[(k,v)])=true:=by
 unfold cA at *
 rw[List.all_append,h1];simp[h]
theorem Vg (k v:D)(hv:aP v=true)(es:bK)(h:cA es=true):cA (es.map λe=>if eqK e.1 k then(e.1,v)else e)=true:=by
 unfold cA at *
 rw[bj]at *
 intro e he;obtain⟨e',h1,rfl⟩:=ba.mp he;split
 ·exact hv
 ·exact h e' h1
theorem Ml:∀(ys:List D) es fN,imms ys=true->cA es=true->lV es ys=some fN->cA fN=true
 | [],es,fN,_,h,e=>by cases e;exact h
 |y::ys,es,fN,h1,h2,e=>by
  simp only[imms,bq]at h1;unfold lV at e;split at e
  case h_2=>cases e
  rename_i k v;split at e
  case isFalse=>cases e
  have hv:aP v=true:=by have:=h1.1;change(aP k&&(aP v&&true))=true at this;simp only[bq]at this;exact this.2.1
  refine Ml ys _ fN h1.2 ?_ e;unfold dput;split
  ·exact Vg k v hv es h2
  ·exact Vf es k v h2 hv
theorem Vh (hc:X.calm=true):CallR X (.type "dict") (rAgg X.K "dict"):=by
 rintro pins s U H xs us Q I r ⟨B,x,dx,l,ys,d,rfl,rx,e,e2,q⟩
 obtain⟨a,vs,rfl,yC,rs⟩:=wG rx e
 have e3:∃fN,lV [] ys=some fN/\d=.dict fN:=by
  simp only[aggD,show("dict":String)≠"list" by decide,show("dict":String)≠"tuple" by decide,show("dict":String)≠"sorted" by decide,show("dict":String)≠"sum" by decide,show("dict":String)≠"all" by decide,show("dict":String)≠"any" by decide,if_true,if_false]at e2;cases h:lV [] ys with
  |none=>rw[h]at e2;cases e2
  |some es=>rw[h]at e2;cases e2;simp_all
 obtain⟨fN,em,rfl⟩:=e3;have ew:z4s dx=.ok ys:=by cases dx<;>first|(cases e;done)|(cases e;rfl)
 obtain⟨u,rfl,rfl⟩:=vals1 r;have hp:=I.hok.fresh (ag _);have I1:Inv X pins U (upd H s.heap.objs.size (.dK [])) {s with heap:=s.heap.push {cls:=.type "dict",data:=.dict #[]}}:=I.laid (λ_ _ q=>af _ q) (ag _) (EX s.heap I.big);refine callType_codes (Q₁:=λobj s₁=>obj=.ref s.heap.objs.size/\s₁={s with heap:=s.heap.push {cls:=.type "dict",data:=.dict #[]}}) PySem.F.kt_called_dict (PySem.F.kt_typeCall_dict_1 _) PySem.F.entry_dict_init (kt_code_dict_new _ ⟨rfl,rfl⟩) ?_
 rintro obj s₁ ⟨rfl,rfl⟩
 have AQ:(⟨s.heap.push {cls:=.type "dict",data:=.dict #[]},s.gens,s.drawn,s.toks,s.os⟩:aw).TypeIs (.ref s.heap.objs.size) "dict":=⟨_,a8 _ rfl,rfl⟩;refine⟨AQ,PySem.F.args_dict_init_2 _ _,?_⟩
 delta Builtin.«dict.__init__»
 refine ac ?_
 delta Builtin.Dict.selfAndRest
 refine ac (wpAny_notOrdered_dict AQ ?_);refine am ?_;show wpAny _ _ (qg "dict.__init__" s.heap.objs.size (.ref a) [] .none) _ _ _
 delta qg
 have rest:∀h' tk,(∀b o,(s.heap.push {cls:=.type "dict",data:=.dict #[]}).get? b=some o->h'.get? b=some o)->wpAny (model X.prog X.w) X.A.in1.in1 (uy (.ref a)) (λnX s2=>nk (model X.prog X.w) X.A.in1 (.builtin "dict.update.loop" ⟨[.ref s.heap.objs.size,nX,j6 0,.none],[]⟩) (wants (λr jQ=>r=.none/\EP X pins U Q (.ref s.heap.objs.size) jQ) X.xe) s2) (λ_ _=>False) ⟨h',s.gens,s.drawn,tk,s.os⟩:=by
  intro h' tk kp;have I2:Inv (yA X X.A.in1.in1 (λ_ _=>False)) pins U (upd H s.heap.objs.size (.dK [])) ⟨h',s.gens,s.drawn,tk,s.os⟩:=(I1.kept kp).yA rfl rfl;refine aM (z36 (tg:=.Name "" default) (R:=λJ H'=>Walk X.K J (λa=>B a/\¬nw H a) H' ys/\H'=upd H s.heap.objs.size (.dK [])) I2 (show RelV (.ref a) (.ref a)from rfl) ((Rep.there _ rx).same (Same.upd hp) λ_ z=>z) ew λJ wk=>⟨wk,rfl⟩) λnX s2 zz=>?_;obtain⟨it,fp,tn,J,H',Vi,I3,T,st,fo,wk,eH⟩:=zz;subst Vi eH;refine zta (X:=yA X X.A.in1.in1 (λ_ _=>False)) hc rfl T wk (λz=>z.2 hp) ys.length 0 s2 _ [] [] _ _ (by omega) (by omega) I3 st fo aW (ag _) rfl em (λ_ _ e _=>e) ?_;intro s' H' mK I' fB Df ext;refine⟨rfl,.ref s.heap.objs.size,H',I'.GH I.ok,rfl,q _ H' (λb o e=>ext b o (cQ e hp) (aC (cQ e hp)▸e)) ⟨_,mK,rfl,fB,.inl hp,?_⟩⟩;cases hi:imms ys with
  |true=>exact bC.bB fN (Ml ys [] fN hi rfl em) Df
  |false=>exact Df.same (Same.refl H') λ_ z=>.inr ⟨rfl,z.1⟩
 have hA:=I.ok.hd hc;cases l with
 |true=>obtain⟨its,_,⟨o,n,ho,fI,wH,AR⟩,_⟩:=I1.list (Ve (Same.upd hp) yC);refine ac (n9 ⟨o,ho,fI⟩ ?_);refine ac (U' ho fI AR wH hA λh' tk e hx=>?_);refine ac (ls (ac (mw (rest h' tk hx.keeps) (λnX s2 nD=>?_) λ_ _ z=>z.elim)));exact am ⟨uq F.aT _,nD⟩
 |false=>obtain⟨its,_,⟨o,n,ho,fI,wH,AR⟩,_⟩:=I1.nV (bL.rel (Same.upd hp) yC);refine ac (n9 ⟨o,ho,fI⟩ ?_);refine ac (Va ho fI AR wH hA λh' tk e hx=>?_);refine ac (ls (ac (mw (rest h' tk hx.keeps) (λnX s2 nD=>?_) λ_ _ z=>z.elim)));exact am ⟨uq F.aT _,nD⟩
end
open PySem.W
def runT {α:Type}(lt:Nat->Nat->Bool):KasT α->α
 |.ret a=>a
 |.ask i j k=>runT lt (k (lt i j))
theorem yD {α β:Type}(lt:Nat->Nat->Bool)(f:α->KasT β):∀t,runT lt (t.bind f)=runT lt (f (runT lt t))
 |.ret _=>rfl
 |.ask i j k=>yD lt f (k (lt i j))
section
variable (key:Nat->Nat)
abbrev ltk:Nat->Nat->Bool:=λi j=>decide (key i<key j)
def Kp' (p:Array Nat)(i:Nat):Nat:=key (p.getD i 0)
variable {key}
theorem AS (h:p[i]?=q[j]?):Kp' key p i=Kp' key q j:=by unfold Kp';rw[gp,gp,h]
theorem AU (hj:j<=p.size)(k:Nat):Kp' key (kas_rev p i j) k=if i<=k/\k<j then Kp' key p (i+j-1-k)else Kp' key p k:=by
 have h:=getElem?_mirror_all (i:=i) hj k;split
 ·rename_i hk;refine AS ?_;unfold kas_rev;rw[h,xu hk]
 ·rename_i hk;refine AS ?_;unfold kas_rev;rw[h,xw hk]
theorem Mm (hs:src<p.size)(hd:d<=src)(k:Nat):Kp' key (bubble p src d) k=if k=src-d then Kp' key p src else if src-d<k/\k<=src then Kp' key p (k-1)else Kp' key p k:=by
 have h:=getElem?_bubble hs d hd k;split
 ·rename_i hk;exact AS (by rw[h,xu hk])
 ·rename_i hk;split
  ·rename_i GK;exact AS (by rw[h,xw hk,xu GK])
  ·rename_i GK;exact AS (by rw[h,xw hk,xw GK])
theorem Dg (p:Array Nat)(i j:Nat):(kas_rev p i j).size=p.size:=mirror_size _ _ _ _
theorem AV (p:Array Nat)(i j:Nat):(kas_rev p i j).Perm p:=mirror_perm _ _ _ _
theorem z5q (p:Array Nat):∀f n,1<=n->n<=runT (ltk key) (kas_asc p f n)/\runT (ltk key) (kas_asc p f n)<=n+f/\(∀i,n<=i->i<runT (ltk key) (kas_asc p f n)->Kp' key p (i-1)<=Kp' key p i)/\
  (runT (ltk key) (kas_asc p f n)<n+f->Kp' key p (runT (ltk key) (kas_asc p f n))<Kp' key p (runT (ltk key) (kas_asc p f n)-1))
 |0,n,h=>⟨ag _,ag _,λi h1 h2=>absurd (ju h1 h2) (cq _),λh2=>absurd h2 (cq _)⟩
 |f+1,n,h=>by
  have e:runT (ltk key) (kas_asc p (f+1) n)=runT (ltk key) (if decide (Kp' key p n<Kp' key p (n-1))=true then .ret n else kas_asc p f (n+1)):=rfl;rw[e];by_cases hc:Kp' key p n<Kp' key p (n-1)
  ·rw[xu (x6 hc)];exact⟨ag _,jo _ _,λi h1 h2=>absurd (ju h1 h2) (cq _),λ_=>hc⟩
  ·rw[xw (by simpa using hc)];obtain⟨i1,i2,i3,i4⟩:=z5q p f (n+1) (by omega);refine⟨by omega,by omega,λi h1 h2=>?_,λh2=>i4 (by omega)⟩;by_cases hi:i=n
   ·subst hi;omega
   ·exact i3 i (by omega) h2
structure DPre (key:Nat->Nat)(p:Array Nat)(n q:Nat):Prop where
 one:1<=n
 qn:q+1<=n
 sz:n<=p.size
 de:∀i,1<=i->i<n->Kp' key p i<=Kp' key p (i-1)
 eq:∀i,n<=i+1+q->i<n->Kp' key p i=Kp' key p (n-1)
theorem DPre.rev (h:DPre key p n q)(k:Nat):Kp' key (kas_rev p (n-(q+1)) n) k=Kp' key p k:=by
 rw[AU h.sz];split
 ·rename_i hk;rw[h.eq k (by omega) hk.2,h.eq _ (by omega) (by omega)]
 ·rfl
theorem z2y:∀f p n q,DPre key p n q->n+f<=p.size->
  DPre key (runT (ltk key) (kas_desc f p n q)).1 (runT (ltk key) (kas_desc f p n q)).2.1 (runT (ltk key) (kas_desc f p n q)).2.2/\(runT (ltk key) (kas_desc f p n q)).1.Perm p/\(runT (ltk key) (kas_desc f p n q)).2.1<=n+f
 |0,p,n,q,h,hz=>⟨h,Array.Perm.refl _,ag _⟩
 |f+1,p,n,q,h,hz=>by
  have e:runT (ltk key) (kas_desc (f+1) p n q)=runT (ltk key) (if decide (Kp' key p n<Kp' key p (n-1))=true then(if q>0 then kas_desc f (kas_rev p (n-(q+1)) n) (n+1) 0 else kas_desc f p (n+1) 0) else .ask (p.getD (n-1) 0) (p.getD n 0) λd=>if d=true then .ret (p,n,q)else kas_desc f p (n+1) (q+1)):=rfl;rw[e];by_cases hc:Kp' key p n<Kp' key p (n-1)
  ·rw[xu (x6 hc)];by_cases hq:q>0
   ·rw[xu hq]
    have h1:DPre key (kas_rev p (n-(q+1)) n) (n+1) 0:=⟨by omega,by omega,by rw[Dg];omega,λi i1 i2=>by
     rw[h.rev,h.rev];by_cases hi:i=n
     ·subst hi;omega
     ·exact h.de i i1 (by omega),λi i1 i2=>by
     have:i=n:=by omega
     subst this;rfl⟩
    obtain⟨r1,r2,r3⟩:=z2y f _ (n+1) 0 h1 (by rw[Dg];omega);exact⟨r1,r2.trans (AV _ _ _),by omega⟩
   ·rw[xw hq]
    have h1:DPre key p (n+1) 0:=⟨by omega,by omega,by omega,λi i1 i2=>by
     by_cases hi:i=n
     ·subst hi;omega
     ·exact h.de i i1 (by omega),λi i1 i2=>by
     have:i=n:=by omega
     subst this;rfl⟩
    obtain⟨r1,r2,r3⟩:=z2y f _ (n+1) 0 h1 (by omega);exact⟨r1,r2,by omega⟩
  ·rw[xw (by simpa using hc)];have e2:runT (ltk key) (KasT.ask (p.getD (n-1) 0) (p.getD n 0) λd=>if d=true then .ret (p,n,q)else kas_desc f p (n+1) (q+1))=runT (ltk key) (if decide (Kp' key p (n-1)<Kp' key p n)=true then .ret (p,n,q)else kas_desc f p (n+1) (q+1)):=rfl;rw[e2];by_cases nD:Kp' key p (n-1)<Kp' key p n
   ·rw[xu (x6 nD)];exact⟨h,Array.Perm.refl _,by show n<=_;omega⟩
   ·rw[xw (by simpa using nD)]
    have h1:DPre key p (n+1) (q+1):=⟨by omega,by have :=h.qn;omega,by omega,λi i1 i2=>by
     by_cases hi:i=n
     ·subst hi;omega
     ·exact h.de i i1 (by omega),λi i1 i2=>by
     by_cases hi:i=n
     ·subst hi;rfl
     ·have :=h.eq i (by omega) (by omega);rw[Nat.add_sub_cancel];omega⟩
    obtain⟨r1,r2,r3⟩:=z2y f _ (n+1) (q+1) h1 (by omega);exact⟨r1,r2,by omega⟩
def Asc (key:Nat->Nat)(p:Array Nat)(m:Nat):Prop:=∀i,1<=i->i<m->Kp' key p (i-1)<=Kp' key p i
theorem z56 (h1:1<=n)(hn:n<=nrem)(hz:nrem<=p.size)(de:∀i,1<=i->i<n->Kp' key p i<=Kp' key p (i-1)):
  Asc key (runT (ltk key) (kas_tail3 n nrem p)).2 (runT (ltk key) (kas_tail3 n nrem p)).1/\(runT (ltk key) (kas_tail3 n nrem p)).2.Perm p/\1<=(runT (ltk key) (kas_tail3 n nrem p)).1/\(runT (ltk key) (kas_tail3 n nrem p)).1<=nrem:=by
 unfold kas_tail3;rw[yD];obtain⟨a1,a2,a3,_⟩:=z5q (key:=key) (kas_rev p 0 n) (nrem-n) n h1;refine⟨λi i1 i2=>?_,AV _ _ _,by show 1<=runT _ _;omega,by show runT _ _<=_;omega⟩;by_cases hi:i<n
 ·show Kp' key (kas_rev p 0 n) (i-1)<=Kp' key (kas_rev p 0 n) i;rw[AU (by omega),AU (by omega),xu (by omega),xu (by omega)];have:=de (0+n-1-(i-1)) (by omega) (by omega);have e:0+n-1-(i-1)-1=0+n-1-i:=by omega
  rw[e]at this;exact this
 ·exact a3 i (by omega) i2
theorem descPart_spec (h1:1<=n)(hn:n<nrem)(hz:nrem<=p.size)(eq:∀i,i<n->Kp' key p i=Kp' key p (n-1))(lt:Kp' key p n<Kp' key p (n-1)):
  Asc key (runT (ltk key) (kas_descPart n nrem p)).2 (runT (ltk key) (kas_descPart n nrem p)).1/\(runT (ltk key) (kas_descPart n nrem p)).2.Perm p/\1<=(runT (ltk key) (kas_descPart n nrem p)).1/\(runT (ltk key) (kas_descPart n nrem p)).1<=nrem:=by
 unfold kas_descPart;rw[yD]
 have h:DPre key p (n+1) 0:=⟨by omega,by omega,by omega,λi i1 i2=>by
  by_cases hi:i=n
  ·subst hi;omega
  ·rw[eq i (by omega),eq (i-1) (by omega)];exact ag _,λi i1 i2=>by
  have:i=n:=by omega
  subst this;rfl⟩
 obtain⟨r1,r2,r3⟩:=z2y (nrem-(n+1)) p (n+1) 0 h (by omega);generalize runT (ltk key) (kas_desc (nrem-(n+1)) p (n+1) 0)=r at r1 r2 r3 ⊢;have hz9z:=r2.size_eq;by_cases hq:r.2.2>0
 ·rw[xu hq];obtain⟨t1,t2,t3,t4⟩:=z56 (p:=kas_rev r.1 (r.2.1-(r.2.2+1)) r.2.1) (nrem:=nrem) r1.one (by omega) (by rw[Dg,hz9z];exact hz) λi i1 i2=>by rw[r1.rev,r1.rev];exact r1.de i i1 i2
  exact⟨t1,t2.trans ((AV _ _ _).trans r2),t3,t4⟩
 ·rw[xw hq];obtain⟨t1,t2,t3,t4⟩:=z56 (nrem:=nrem) r1.one (by omega) (hz9z▸hz) r1.de;exact⟨t1,t2.trans r2,t3,t4⟩
theorem Asc.le (h:Asc key p m):∀d i,i+d<m->Kp' key p i<=Kp' key p (i+d)
 |0,i,_=>ag _
 |d+1,i,hm=>by exact bo (Asc.le h d i (by omega)) (h (i+d+1) (by omega) (by omega))
theorem za4 (h1:1<=nrem)(hz:nrem<=p.size):
  Asc key (runT (ltk key) (kas_count nrem p)).2 (runT (ltk key) (kas_count nrem p)).1/\(runT (ltk key) (kas_count nrem p)).2.Perm p/\1<=(runT (ltk key) (kas_count nrem p)).1/\(runT (ltk key) (kas_count nrem p)).1<=nrem:=by
 unfold kas_count;rw[yD];obtain⟨a1,a2,a3,a4⟩:=z5q p (nrem-1) 1 (ag _);generalize runT (ltk key) (kas_asc p (nrem-1) 1)=n at a1 a2 a3 a4 ⊢;have ha:Asc key p n:=a3;by_cases hn:n=nrem
 ·rw[xu (by simpa using hn)];exact⟨ha,Array.Perm.refl _,a1,by show n<=_;omega⟩
 ·rw[xw (by simpa using hn)];have lt:=a4 (by omega);by_cases h2:n>1
  ·rw[xu h2];have e:runT (ltk key) (KasT.ask (p.getD 0 0) (p.getD (n-1) 0) λc=>if c=true then .ret (n,p)else kas_descPart n nrem (kas_rev p 0 n))=runT (ltk key) (if decide (Kp' key p 0<Kp' key p (n-1))=true then .ret (n,p)else kas_descPart n nrem (kas_rev p 0 n)):=rfl;rw[e];by_cases hc:Kp' key p 0<Kp' key p (n-1)
   ·rw[xu (x6 hc)];exact⟨ha,Array.Perm.refl _,a1,by show n<=_;omega⟩
   ·rw[xw (by simpa using hc)]
    have eq:∀i,i<n->Kp' key p i=Kp' key p (n-1):=λi hi=>by
     have b1:=ha.le i 0 (by omega);have b2:=ha.le (n-1-i) i (by omega);have e1:0+i=i:=by omega
     have e2:i+(n-1-i)=n-1:=by omega
     rw[e1]at b1;rw[e2]at b2;omega
    have yE:∀i,i<n->Kp' key (kas_rev p 0 n) i=Kp' key p (n-1):=λi hi=>by rw[AU (by omega),xu (by omega)];exact eq _ (by omega)
    obtain⟨t1,t2,t3,t4⟩:=descPart_spec (p:=kas_rev p 0 n) (nrem:=nrem) (by omega) (by omega) (by rw[Dg];exact hz) (λi hi=>by rw[yE i hi,yE (n-1) (by omega)]) (by rw[yE (n-1) (by omega),AU (by omega),xw (by omega)];exact lt);exact⟨t1,t2.trans (AV _ _ _),t3,t4⟩
  ·rw[xw h2];have AW:n=1:=by omega
   subst AW
   exact descPart_spec (Nat.le_refl _) (by omega) hz (fun i hi=>by have :i=0:=by omega
                                                                   subst this;rfl) lt
theorem place_spec (ha:Asc key p k):∀f l r,r-l<=f->l<=r->r<=k->(∀i,i<l->Kp' key p i<=Kp' key p k)->(∀i,r<=i->i<k->Kp' key p k<Kp' key p i)->
  runT (ltk key) (kas_place p k f l r)<=k/\(∀i,i<runT (ltk key) (kas_place p k f l r)->Kp' key p i<=Kp' key p k)/\(∀i,runT (ltk key) (kas_place p k f l r)<=i->i<k->Kp' key p k<Kp' key p i)
 |0,l,r,hf,hl,hr,h1,h2=>by
  have:l=r:=by omega
  subst this;exact⟨hr,h1,h2⟩
 |f+1,l,r,hf,hl,hr,h1,h2=>by
  unfold kas_place;by_cases hc:l ≥ r
  ·rw[xu hc];have:l=r:=by omega
   subst this;exact⟨hr,h1,h2⟩
  ·rw[xw hc];have e:runT (ltk key) (KasT.ask (p.getD k 0) (p.getD ((l+r)/2) 0) λc=>if c=true then kas_place p k f l ((l+r)/2)else kas_place p k f ((l+r)/2+1) r)=runT (ltk key) (if decide (Kp' key p k<Kp' key p ((l+r)/2))=true then kas_place p k f l ((l+r)/2)else kas_place p k f ((l+r)/2+1) r):=rfl;rw[e];have Mn:l<=(l+r)/2:=by omega
   have hm2:(l+r)/2<r:=by omega
   generalize (l+r)/2=m at Mn hm2 ⊢;by_cases hx:Kp' key p k<Kp' key p m
   ·rw[xu (x6 hx)];refine place_spec ha f l m (by omega) Mn (by omega) h1 λi i1 i2=>?_;have:=ha.le (i-m) m (by omega);have e2:m+(i-m)=i:=by omega
    rw[e2]at this;omega
   ·rw[xw (by simpa using hx)];refine place_spec ha f (m+1) r (by omega) (by omega) hr (λi i1=>?_) h2;have:=ha.le (m-i) i (by omega);have e2:i+(m-i)=m:=by omega
    rw[e2]at this;omega
theorem Mo:∀f p k,Asc key p k->k+f<=p.size->Asc key (runT (ltk key) (kas_bin f p k)) (k+f)/\(runT (ltk key) (kas_bin f p k)).Perm p
 |0,p,k,ha,hz=>⟨ha,Array.Perm.refl _⟩
 |f+1,p,k,ha,hz=>by
  unfold kas_bin;rw[yD];obtain⟨l1,l2,l3⟩:=place_spec ha k 0 k (by omega) (bw _) (ag _) (λi hi=>absurd hi (Nat.not_lt_zero _)) λi i1 i2=>absurd (ju i1 i2) (cq _);generalize runT (ltk key) (kas_place p k k 0 k)=l at l1 l2 l3 ⊢
  have hb:Asc key (bubble p k (k-l)) (k+1):=λi i1 i2=>by
   have e:k-(k-l)=l:=by omega
   rw[Mm (by omega) (by omega),Mm (by omega) (by omega),e];by_cases c1:i=l
   ·rw[xw (by omega),xw (by omega),xu c1];exact l2 _ (by omega)
   ·rw[xw c1];by_cases c2:i-1=l
    ·rw[xu c2,xu (by omega)];rw[c2];exact j9 (l3 l (ag _) (by omega))
    ·rw[xw c2];by_cases c3:l<i
     ·rw[xu (by omega),xu (by omega)];exact ha (i-1) (by omega) (by omega)
     ·rw[xw (by omega),xw (by omega)];exact ha i i1 (by omega)
  obtain⟨b1,b2⟩:=Mo f (bubble p k (k-l)) (k+1) hb (by rw[bubble_size];omega);refine⟨?_,b2.trans (bubble_perm _ _ _)⟩;have e:k+1+f=k+(f+1):=by omega
  rw[e]at b1;exact b1
theorem GL (n:Nat)(h1:1<=n):Asc key (runT (ltk key) (kas_sort n)) n/\(runT (ltk key) (kas_sort n)).Perm (ko (fq n)):=by
 unfold kas_sort;rw[yD];have hz9z:(ko (fq n)).size=n:=by simp
 obtain⟨c1,c2,c3,c4⟩:=za4 h1 (by rw[hz9z];exact ag _);generalize runT (ltk key) (kas_count n (ko (fq n)))=r at c1 c2 c3 c4 ⊢;have hr:r.2.size=n:=by rw[c2.size_eq,hz9z]
 by_cases h:r.1<n
 ·rw[xu h];have e:max r.1 1=r.1:=by omega
  rw[e];obtain⟨b1,b2⟩:=Mo (n-r.1) r.2 r.1 c1 (by omega);refine⟨?_,b2.trans c2⟩;have e:r.1+(n-r.1)=n:=by omega
  rw[e]at b1;exact b1
 ·rw[xw h];have e:r.1=n:=by omega
  rw[e]at c1;exact⟨c1,c2⟩
end
theorem yF {h:Heap}(hb:b≠a)(e:h.get? b=some o):(h.update a f).get? b=some o:=by rw[t9 _ _ _ _ hb];exact e
theorem z6u {vs:List Value}(hl:s.heap.IsList l vs.toArray)(h2:vs.length<2)
  (h:∀D h' n,s.heap.objs.size<=D->(∀b o,s.heap.get? b=some o->h'.get? b=some o)->h'.get? D=some (fi "list" vs.toArray n)->Q (.ref D) {s with heap:=h'}):wpAny (model prog w) A (call (.builtin "sorted") [.ref l]) Q E s:=by
 apply ku wz wj wm (wp _);apply ac;apply am;apply ac;refine collect_list hl ?_ (by rw[cz];omega);apply ac;refine lg ?_ (by rw[cz];omega);have k1:∀b o,s.heap.get? b=some o->((s.heap.push (fi "list" #[] 0)).update s.heap.objs.size (Obj.mapSeq (· ++vs.toArray))).get? b=some o:=λb o e=>yF (cw (bn e)) (af _ e);have z1:s.heap.objs.size<=((s.heap.push (fi "list" #[] 0)).update s.heap.objs.size (Obj.mapSeq (· ++vs.toArray))).objs.size:=by rw[Heap.size_update,mz];omega
 generalize ((s.heap.push (fi "list" #[] 0)).update s.heap.objs.size (Obj.mapSeq (·++vs.toArray)))=h1 at k1 z1 ⊢;have hoL:(h1.push (fi "list" vs.toArray 0)).get? h1.objs.size=some (fi "list" vs.toArray 0):=a8 _ rfl;have k2:∀b o,s.heap.get? b=some o->b≠h1.objs.size/\(h1.push (fi "list" vs.toArray 0)).get? b=some o:=λb o e=>⟨cw (cg (bn e) z1),af _ (k1 b o e)⟩;generalize hD:h1.objs.size=D at hoL k2 z1 ⊢;generalize h1.push (fi "list" vs.toArray 0)=fD at hoL k2 ⊢;apply ac;apply dj;refine g7 slot_list_sort ⟨_,hoL,rfl⟩ entry_list_sort ?body (args_list_sort _);rw[list_sort_plain];refine ac (qt hoL rfl ?_);refine ac (nl hoL rfl ?_);obtain⟨e1,rL⟩:∃e1,(fD.update D (Obj.mapSeq λ_=>(#[]:Array Value))).get? D=some (fi "list" #[] e1):=⟨_,lm hoL λ_=>#[]⟩;have k3:∀b o,s.heap.get? b=some o->b≠D/\(fD.update D (Obj.mapSeq λ_=>(#[]:Array Value))).get? b=some o:=λb o e=>⟨(k2 b o e).1,yF (k2 b o e).1 (k2 b o e).2⟩;generalize (fD.update D (Obj.mapSeq λ_=>(#[]:Array Value)))=h3 at rL k3 ⊢;refine ac (sw rL rfl ?_);refine ac (oq ?_ (by rw[cz];simp;omega));apply ac;refine lg (dj ?_);have rM:((h3.push (fi "tuple" vs.toArray 0)).push (fi "list" #[] 0)).get? D=some (fi "list" #[] e1):=af _ (af _ rL);have k6:∀b o,s.heap.get? b=some o->b≠D/\((h3.push (fi "tuple" vs.toArray 0)).push (fi "list" #[] 0)).get? b=some o:=λb o e=>⟨(k3 b o e).1,af _ (af _ (k3 b o e).2)⟩;generalize ((h3.push (fi "tuple" vs.toArray 0)).push (fi "list" #[] 0))=h6 at rM k6 ⊢;have hz:vs.toArray.size<2:=by simpa using h2
 rw[xu hz,xu hz];refine ac (am ?_);refine ac (am ?_);refine ac (sw rM rfl ?_);have em:(arrOf (SortSt.mk' general' (vs.toArray.zip vs.toArray) #[] 7 none)).map (·.2)=vs.toArray:=by show(vs.toArray.zip vs.toArray).map (·.2)=vs.toArray;simp;exact List.map_snd_zip (ag _)
 rw[em];refine ac (nl rM rfl ?_);simp only[if_false,vm,bne_self_eq_false];refine am ⟨_,rfl,am ⟨_,rfl,h D _ _ z1 (λb o e=>yF (k6 b o e).1 (k6 b o e).2) (lm rM λ_=>vs.toArray)⟩⟩
def dG {α:Type}(n:Nat)(Q:α->Prop):KasT α->Prop
 |.ret a=>Q a
 |.ask i j k=>i<n/\j<n/\∀b,dG n Q (k b)
theorem dG.bind {α β:Type}{Q:α->Prop}{R:β->Prop}{f:α->KasT β}(hf:∀a,Q a->dG n R (f a)):∀{t:KasT α},dG n Q t->dG n R (t.bind f)
 |.ret a,h=>hf a h
 |.ask i j k,h=>⟨h.1,h.2.1,λb=>dG.bind hf (h.2.2 b)⟩
theorem dG.ite [Decidable c] (h1:dG n Q a)(h2:dG n Q b):dG n Q (if c then a else b):=by
 split
 ·exact h1
 ·exact h2
def AllIn (n:Nat)(p:Array Nat):Prop:=0<n/\∀x∈p,x<n
theorem AllIn.get (h:AllIn n p)(i:Nat):p.getD i 0<n:=by
 rw[gp];cases e:p[i]? with
 |none=>exact h.1
 |some x=>exact h.2 x (Array.mem_of_getElem? e)
theorem AllIn.perm (h:AllIn n p)(hp:q.Perm p):AllIn n q:=⟨h.1,λx hx=>h.2 x (hp.mem_iff.mp hx)⟩
theorem AllIn.rev (h:AllIn n p)(i j:Nat):AllIn n (kas_rev p i j):=h.perm (AV _ _ _)
theorem GN (h:AllIn n p):∀f m,dG n (λ_=>True) (kas_asc p f m)
 |0,m=>trivial
 |f+1,m=>⟨h.get _,h.get _,λb=>dG.ite trivial (GN h f (m+1))⟩
theorem Dh:∀f p m q,AllIn n p->dG n (λr=>AllIn n r.1) (kas_desc f p m q)
 |0,p,m,q,h=>h
 |f+1,p,m,q,h=>⟨h.get _,h.get _,λb=>dG.ite (dG.ite (Dh f _ _ _ (h.rev _ _)) (Dh f _ _ _ h)) ⟨h.get _,h.get _,λd=>dG.ite h (Dh f _ _ _ h)⟩⟩
theorem Mp (h:AllIn n p):dG n (λr=>AllIn n r.2) (kas_tail3 m r p):=by refine dG.bind (λa _=>?_) (GN (h.rev _ _) _ _);exact h.rev _ _
theorem Mq (h:AllIn n p):dG n (λr=>AllIn n r.2) (kas_descPart m r p):=dG.bind (λa ha=>dG.ite (Mp (AllIn.rev ha _ _)) (Mp ha)) (Dh _ _ _ _ h)
theorem Vj (h:AllIn n p):dG n (λr=>AllIn n r.2) (kas_count r p):=by
 refine dG.bind (λm _=>?_) (GN h _ _);split
 ·exact h
 ·split
  ·refine⟨h.get _,h.get _,λc=>?_⟩;show dG n _ (if c=true then _ else _);split
   ·exact h
   ·exact Mq (h.rev _ _)
  ·exact Mq h
theorem GO (h:AllIn n p)(k:Nat):∀f l r,dG n (λ_=>True) (kas_place p k f l r)
 |0,l,r=>trivial
 |f+1,l,r=>by exact dG.ite trivial ⟨h.get _,h.get _,λc=>dG.ite (GO h k f _ _) (GO h k f _ _)⟩
theorem Mr:∀(f:Nat) (p:Array Nat) (k:Nat),AllIn n p->dG n (λ_=>True) (kas_bin f p k)
 |0,p,k,h=>trivial
 |f+1,p,k,h=>dG.bind (λl _=>Mr f _ _ (h.perm (bubble_perm _ _ _))) (GO h k _ _ _)
theorem Ms (h:0<n):dG n (λ_=>True) (kas_sort n):=by
 have h0:AllIn n (ko (fq n)):=⟨h,λx hx=>by simpa using hx⟩;refine dG.bind (λr hr=>?_) (Vj h0);split
 ·exact Mr _ _ _ hr
 ·exact trivial
theorem GP {α:Type}{P:aw->Prop}(h:∀i j C s,i<n->j<n->P s->(∀s',P s'->C (lt i j) s')->cmp i j C s){Q:α->aw->Prop}:∀(t:KasT α) (s:aw),dG n (λ_=>True) t->P s->(∀s',P s'->Q (runT lt t) s')->t.kasWp cmp Q s
 |.ret a,s,_,p,q=>q s p
 |.ask i j k,s,a,p,q=>h i j _ s a.1 a.2.1 p λs' p'=>GP h (k (lt i j)) s' (a.2.2 _) p' q
structure OrdOn (p:D->Prop):Prop where
 tU:∀x,p x->cN x x=false
 tr:∀x y z,p x->p y->p z->cN x y=true->cN y z=true->cN x z=true
 yG:∀x y z,p x->p y->p z->cN x z=true->cN x y=true\/cN y z=true
 yH:∀x y,p x->p y->cN x y=false->cN y x=false->x=y
theorem nI (h:yt x=true):∃i,x=.int i:=by cases x<;>first|(cases h;done)|exact⟨_,rfl⟩
theorem nJ (h:CY x=true):∃i,x=.str i:=by cases x<;>first|(cases h;done)|exact⟨_,rfl⟩
theorem AX (a b:Int):cN (.int a) (.int b)=decide (a<b):=rfl
theorem Vk (a b:Str):cN (.str a) (.str b)=decide (a.cps.toList<b.cps.toList):=rfl
theorem rO:OrdOn (λx=>yt x=true) where
 tU:=λx h=>by obtain⟨i,rfl⟩:=nI h;rw[AX];simp
 tr:=λx y z hx hy hz h1 h2=>by obtain⟨i,rfl⟩:=nI hx;obtain⟨j,rfl⟩:=nI hy;obtain⟨k,rfl⟩:=nI hz;rw[AX,decide_eq_true_eq]at *;omega
 yG:=λx y z hx hy hz h=>by
  obtain⟨i,rfl⟩:=nI hx;obtain⟨j,rfl⟩:=nI hy;obtain⟨k,rfl⟩:=nI hz;rw[AX,decide_eq_true_eq]at *
  rw[AX,decide_eq_true_eq];omega
 yH:=λx y hx hy h1 h2=>by
  obtain⟨i,rfl⟩:=nI hx;obtain⟨j,rfl⟩:=nI hy;rw[AX,decide_eq_false_iff_not]at *
  rw[show i=j by omega]
theorem Vl {b:Str}(h:a.cps.toList=b.cps.toList):a=b:=by obtain⟨⟨l⟩⟩:=a;obtain⟨⟨m⟩⟩:=b;simp only at h;rw[h]
theorem rP:OrdOn (λx=>CY x=true) where
 tU:=λx h=>by obtain⟨i,rfl⟩:=nJ h;rw[Vk];simp_all
 tr:=λx y z hx hy hz h1 h2=>by obtain⟨i,rfl⟩:=nJ hx;obtain⟨j,rfl⟩:=nJ hy;obtain⟨k,rfl⟩:=nJ hz;exact strKind.trans _ _ _ h1 h2
 yG:=λx y z hx hy hz h=>by obtain⟨i,rfl⟩:=nJ hx;obtain⟨j,rfl⟩:=nJ hy;obtain⟨k,rfl⟩:=nJ hz;exact strKind.negTrans _ _ _ h
 yH:=λx y hx hy h1 h2=>by obtain⟨i,rfl⟩:=nJ hx;obtain⟨j,rfl⟩:=nJ hy;rw[Vl (strKind.total _ _ h1 h2)]
theorem wI (b:Bool):OrdOn (λx=>ofK b x=true):=by
 cases b with
 |true=>exact rO
 |false=>exact rP
theorem Mt (hx:ofK b x=true)(hy:ofK b y=true):bW x y=true↔x=y:=by
 cases b with
 |true=>obtain⟨i,rfl⟩:=nI hx;obtain⟨j,rfl⟩:=nI hy;show(i==j)=true↔_;rw[beq_iff_eq];exact⟨λh=>by rw[h],λh=>by cases h;rfl⟩
 |false=>obtain⟨i,rfl⟩:=nJ hx;obtain⟨j,rfl⟩:=nJ hy;show(i==j)=true↔_;rw[beq_iff_eq];exact⟨λh=>by rw[h],λh=>by cases h;rfl⟩
theorem pX (h:cT (b::bs) xs=true):∃x r,xs=x::r/\ofK b x=true/\cT bs r=true:=by
 cases xs with
 |nil=>cases h
 |cons x r=>simp only[cT,bq]at h;exact⟨x,r,rfl,h.1,h.2⟩
theorem tV (h:cT [] xs=true):xs=[]:=by
 cases xs with
 |nil=>rfl
 |cons x r=>cases h
theorem GQ (x y:D)(xs ys:List D):bR (x::xs) (y::ys)=if bW x y then bR xs ys else cN x y:=by simp only[bR]
theorem rQ (hx:ofK b x=true)(hy:ofK b y=true)(h:x=y):bR (x::xs) (y::ys)=bR xs ys:=by rw[GQ,xu ((Mt hx hy).mpr h)]
theorem lB (hx:ofK b x=true)(hy:ofK b y=true)(h:x≠y):bR (x::xs) (y::ys)=cN x y:=by rw[GQ,xw λz=>h ((Mt hx hy).mp z)]
theorem GR:bR [] []=false:=by simp[bR]
theorem Mu:∀(bs:List Bool) (xs:List D),cT bs xs=true->bR xs xs=false
 | [],xs,h=>by rw[tV h];exact GR
 |b::bs,xs,h=>by obtain⟨x,r,rfl,h1,h2⟩:=pX h;rw[rQ h1 h1 rfl];exact Mu bs r h2
theorem Mv:∀(bs:List Bool) (xs ys zs:List D),cT bs xs=true->cT bs ys=true->cT bs zs=true->bR xs ys=true->bR ys zs=true->bR xs zs=true
 | [],xs,ys,zs,h1,h2,h3,e1,e2=>by rw[tV h1,tV h2,GR]at e1;cases e1
 |b::bs,xs,ys,zs,h1,h2,h3,e1,e2=>by
  obtain⟨x,xs,rfl,hx,h1⟩:=pX h1;obtain⟨y,ys,rfl,hy,h2⟩:=pX h2;obtain⟨z,zs,rfl,hz,h3⟩:=pX h3;have O:=wI b;by_cases xy:x=y
  ·rw[rQ hx hy xy]at e1;by_cases yz:y=z
   ·rw[rQ hy hz yz]at e2;rw[rQ hx hz (xy.trans yz)];exact Mv bs xs ys zs h1 h2 h3 e1 e2
   ·rw[lB hy hz yz]at e2;rw[lB hx hz (by rw[xy];exact yz),xy];exact e2
  ·rw[lB hx hy xy]at e1;by_cases yz:y=z
   ·rw[lB hx hz (by rw[<-yz];exact xy),<-yz];exact e1
   ·rw[lB hy hz yz]at e2;have e3:=O.tr x y z hx hy hz e1 e2;rw[lB hx hz (λq=>by subst q;rw[O.tU x hx]at e3;cases e3)];exact e3
theorem Mw:∀(bs:List Bool) (xs ys zs:List D),cT bs xs=true->cT bs ys=true->cT bs zs=true->bR xs zs=true->bR xs ys=true\/bR ys zs=true
 | [],xs,ys,zs,h1,h2,h3,e1=>by rw[tV h1,tV h3,GR]at e1;cases e1
 |b::bs,xs,ys,zs,h1,h2,h3,e=>by
  obtain⟨x,xs,rfl,hx,h1⟩:=pX h1;obtain⟨y,ys,rfl,hy,h2⟩:=pX h2;obtain⟨z,zs,rfl,hz,h3⟩:=pX h3;have O:=wI b;by_cases xz:x=z
  ·rw[rQ hx hz xz]at e;by_cases xy:x=y
   ·rw[rQ hx hy xy,rQ hy hz (xy.symm.trans xz)];exact Mw bs xs ys zs h1 h2 h3 e
   ·rw[lB hx hy xy,lB hy hz (λq=>xy (xz.trans q.symm)),<-xz];cases e1:cN x y with
    |true=>exact .inl rfl
    |false=>
     cases e2:cN y x with
     |true=>exact .inr rfl
     |false=>exact(xy (O.yH x y hx hy e1 e2)).elim
  ·rw[lB hx hz xz]at e;by_cases xy:x=y
   ·rw[lB hy hz (λq=>xz (xy.trans q)),<-xy];exact .inr e
   ·rw[lB hx hy xy];by_cases yz:y=z
    ·rw[yz];exact .inl e
    ·rw[lB hy hz yz];exact O.yG x y z hx hy hz e
theorem Mx:∀(bs:List Bool) (xs ys:List D),cT bs xs=true->cT bs ys=true->bR xs ys=false->bR ys xs=false->xs=ys
 | [],xs,ys,h1,h2,e1,e2=>by rw[tV h1,tV h2]
 |b::bs,xs,ys,h1,h2,e1,e2=>by
  obtain⟨x,xs,rfl,hx,h1⟩:=pX h1;obtain⟨y,ys,rfl,hy,h2⟩:=pX h2;by_cases xy:x=y
  ·rw[rQ hx hy xy]at e1;rw[rQ hy hx xy.symm]at e2;rw[xy,Mx bs xs ys h1 h2 e1 e2]
  ·rw[lB hx hy xy]at e1;rw[lB hy hx (λq=>xy q.symm)]at e2;exact(xy ((wI b).yH x y hx hy e1 e2)).elim
theorem oV (h:zad bs x=true):∃xs,x=.tuple xs/\cT bs xs=true:=by cases x<;>first|(cases h;done)|exact⟨_,rfl,h⟩
theorem My (a b:List D):cN (.tuple a) (.tuple b)=bR a b:=rfl
theorem wJ (bs:List Bool):OrdOn (λx=>zad bs x=true) where
 tU:=λx h=>by obtain⟨i,rfl,h⟩:=oV h;rw[My];exact Mu bs i h
 tr:=λx y z hx hy hz h1 h2=>by obtain⟨i,rfl,hx⟩:=oV hx;obtain⟨j,rfl,hy⟩:=oV hy;obtain⟨k,rfl,hz⟩:=oV hz;exact Mv bs _ _ _ hx hy hz h1 h2
 yG:=λx y z hx hy hz h=>by obtain⟨i,rfl,hx⟩:=oV hx;obtain⟨j,rfl,hy⟩:=oV hy;obtain⟨k,rfl,hz⟩:=oV hz;exact Mw bs _ _ _ hx hy hz h
 yH:=λx y hx hy h1 h2=>by obtain⟨i,rfl,hx⟩:=oV hx;obtain⟨j,rfl,hy⟩:=oV hy;rw[Mx bs _ _ hx hy h1 h2]
def mL (l:List D):Prop:=l.Pairwise λa b=>cN b a=false
theorem GS (x:D):∀l:List D,(iR x l).Perm (x::l)
 | []=>.refl _
 |y::l=>by
  unfold iR;split
  ·exact((GS x l).cons y).trans (.swap x y l)
  ·exact .refl _
theorem GU:∀l:List D,(z1w l).Perm l
 | []=>.refl _
 |x::l=>(GS x (z1w l)).trans ((GU l).cons x)
section
variable {p:D->Prop}(O:OrdOn p)
include O
theorem OrdOn.GV (hx:p x)(hy:p y)(h:cN x y=true):cN y x=false:=by
 cases e:cN y x with
 |false=>rfl
 |true=>have:=O.tr x y x hx hy hx h e;rw[O.tU x hx]at this;cases this
theorem Mz (x:D)(hx:p x):∀l:List D,(∀y∈l,p y)->mL l->mL (iR x l)
 | [],_,_=>jp _ _
 |y::l,hp,hs=>by
  have hy:=hp y (by simp);have hl:∀z∈l,p z:=λz hz=>hp z (by simp[hz]);obtain⟨h1,h2⟩:=dt.mp hs;unfold iR;split
  ·rename_i hc;refine dt.mpr ⟨λz hz=>?_,Mz x hx l hl h2⟩;rcases ao.mp ((GS x l).mem_iff.mp hz)with rfl|hz
   ·exact O.GV hy hx hc
   ·exact h1 z hz
  ·rename_i hc;refine dt.mpr ⟨λz hz=>?_,hs⟩;rcases(ao.mp hz)with rfl|hz
   ·exact by simpa using hc
   ·cases e:cN z x with
    |false=>rfl
    |true=>
     rcases O.yG z y x (hl z hz) hy hx e with q|q
     ·rw[h1 z hz]at q;cases q
     ·exact(hc q).elim
theorem MA:∀l:List D,(∀y∈l,p y)->mL (z1w l)
 | [],_=>List.Pairwise.nil
 |x::l,hp=>Mz O x (hp x (by simp)) _ (λz hz=>hp z (by simp[(GU l).mem_iff.mp hz])) (MA l λz hz=>hp z (by simp[hz]))
theorem MB:∀{a b:List D},(∀y∈a,p y)->a.Perm b->mL a->mL b->a=b
 | [],b,_,hp,_,_=>(hp.symm.eq_nil).symm
 |x::a,[],_,hp,_,_=>by have:=hp.length_eq;simp at this
 |x::a,y::b,hq,hp,ha,hb=>by
  obtain⟨a1,a2⟩:=dt.mp ha;obtain⟨b1,b2⟩:=dt.mp hb;have hx:=hq x (by simp);have hy:=hq y (hp.mem_iff.mpr (by simp))
  have e:x=y:=by
   refine O.yH x y hx hy ?_ ?_
   ·rcases ao.mp (hp.mem_iff.mp (show x∈x::a by simp))with q|q
    ·rw[<-q];exact O.tU x hx
    ·exact b1 x q
   ·rcases ao.mp (hp.mem_iff.mpr (show y∈y::b by simp))with q|q
    ·rw[<-q];exact O.tU y hy
    ·exact a1 y q
  subst e;rw[MB (λz hz=>hq z (by simp[hz])) (List.perm_cons x |>.mp hp) a2 b2]
def rank (ds:List D)(i:Nat):Nat:=ds.countP λd=>cN d (ds.getD i .none)
omit O in
theorem MC {q r:D->Bool}:∀(l:List D),(∀x∈l,q x=true->r x=true)->(∃x∈l,r x=true/\q x=false)->l.countP q<l.countP r
 | [],_,⟨_,h,_⟩=>by simp at h
 |x::l,h,⟨y,hy,h1,h2⟩=>by
  have hl:l.countP q<=l.countP r:=q9 λz hz=>h z (by simp[hz]);rcases(ao.mp hy)with rfl|hy
  ·rw[List.countP_cons_of_neg (by rw[h2];simp),List.countP_cons_of_pos h1];omega
  ·have :=MC l (λz hz=>h z (by simp[hz])) ⟨y,hy,h1,h2⟩;rw[List.countP_cons,List.countP_cons];have hx:=h x (by simp);cases e:q x with
   |true=>rw[hx e];simp;exact this
   |false=>simp;split<;>omega
theorem GW (hp:∀d∈ds,p d)(hi:i<ds.length)(hj:j<ds.length):decide (rank ds i<rank ds j)=cN (ds.getD i .none) (ds.getD j .none):=by
 have ei:ds.getD i .none=ds[i]:=by simp[hi]
 have ej:ds.getD j .none=ds[j]:=by simp[hj]
 have mi:=d9 hi;have mj:=d9 hj;unfold rank;rw[ei,ej];cases e:cN ds[i] ds[j]with
 |true=>rw[decide_eq_true_eq];exact MC ds (λx hx h=>O.tr x _ _ (hp x hx) (hp _ mi) (hp _ mj) h e) ⟨ds[i],mi,e,O.tU _ (hp _ mi)⟩
 |false=>
  rw[decide_eq_false_iff_not]
  have:ds.countP (λd=>cN d ds[j])<=ds.countP λd=>cN d ds[i]:=q9 λx hx h=>by
   rcases O.yG x _ _ (hp x hx) (hp _ mi) (hp _ mj) h with q|q
   ·exact q
   ·rw[e]at q;cases q
  omega
theorem MD (hp:∀d∈ds,p d)(hn:1<=ds.length):(runT (ltk (rank ds)) (kas_sort ds.length)).toList.map (λi=>ds.getD i .none)=z1w ds:=by
 obtain⟨h1,h2⟩:=GL ds.length hn;generalize runT (ltk (rank ds)) (kas_sort ds.length)=q at h1 h2 ⊢;have hq:q.toList.Perm (fq ds.length):=by simpa using h2.toList
 have hz9z:q.size=ds.length:=by rw[h2.size_eq];simp
 have dH:(q.toList.map λi=>ds.getD i .none).Perm ds:=by
  refine(hq.map _).trans ?_
  have:(fq ds.length).map (λi=>ds.getD i .none)=ds:=by
   apply List.ext_getElem
   ·simp
   ·intro i h1 h2;simp;rw[ak (by simpa using h2)];rfl
  rw[this]
 refine MB O (λy hy=>hp y (dH.mem_iff.mp hy)) (dH.trans (GU ds).symm) ?_ (MA O ds hp);unfold mL;rw[ma,List.pairwise_iff_getElem];intro i j hi hj hij;have qQ:i<ds.length:=by rw[<-hz9z];simpa using hi
 have hj':j<ds.length:=by rw[<-hz9z];simpa using hj
 have le:=h1.le (j-i) i (by omega);have e:i+(j-i)=j:=by omega
 rw[e]at le;have ki:Kp' (rank ds) q i=rank ds q.toList[i]:=by unfold Kp';rw[gp];simp[hz9z,qQ]
 have kj:Kp' (rank ds) q j=rank ds q.toList[j]:=by unfold Kp';rw[gp];simp[hz9z,hj']
 have m1:q.toList[i]<ds.length:=by simpa using hq.mem_iff.mp (d9 hi)
 have m2:q.toList[j]<ds.length:=by simpa using hq.mem_iff.mp (d9 hj)
 rw[<-GW O hp m2 m1,decide_eq_false_iff_not];omega
end
def tW (b:Bool)(x:D)(u:Value):Prop:=if b then ∃i t,x=.int i/\u=.int i t else ∃z t,x=.str z/\u=.str z t
theorem ME {K:W.Frag}(hx:ofK b x=true)(r:Rep K H B v x)(ru:RelV v u):tW b x u:=by
 cases b with
 |true=>obtain⟨i,rfl⟩:=nI hx;have e:=r;subst e;obtain⟨t,rfl⟩:=ru;exact⟨i,t,rfl,rfl⟩
 |false=>obtain⟨z,rfl⟩:=nJ hx;have e:=r.1;subst e;obtain⟨t,rfl⟩:=ru;exact⟨z,t,rfl,rfl⟩
section
variable {prog:cu}{w:World}{A:i6}{E:Value->aw->Prop}{s:aw}{b:Bool}{x y:D}{u v:Value}{Q:Bool->aw->Prop}
theorem Vm (h1:tW b x u)(h2:tW b y v)(q:Q (bW x y) s):wpAny (model prog w) A (eqBool u v) Q E s:=by
 cases b with
 |true=>obtain⟨i,t,rfl,rfl⟩:=h1;obtain⟨j,t',rfl,rfl⟩:=h2;exact wpAny_eqBool_int q
 |false=>
  obtain⟨i,t,rfl,rfl⟩:=h1;obtain⟨j,t',rfl,rfl⟩:=h2;refine wpAny_eqBool_str ?_;have e:bW (.str i) (.str j)=decide (i=j):=by show(i==j)=decide (i=j);apply jw.mpr;rw[beq_iff_eq,decide_eq_true_eq]
  rw[<-e];exact q
theorem MF (c:Bool)(h1:tW b x u)(h2:tW b y v)(q:Q (cN x y) s):wpAny (model prog w) A (oneLt' c u v) Q E s:=by
 cases b with
 |true=>
  obtain⟨i,t,rfl,rfl⟩:=h1;obtain⟨j,t',rfl,rfl⟩:=h2;cases c with
  |true=>exact oneLt_int q
  |false=>exact kat_one _ _ (PyProof.Rows.lt_int q)
 |false=>
  obtain⟨i,t,rfl,rfl⟩:=h1;obtain⟨j,t',rfl,rfl⟩:=h2;cases c with
  |true=>exact oneLt_str q
  |false=>exact kat_one _ _ (PyProof.Rows.lt_str q)
end
def mM:List Bool->List D->List Value->Prop
 | [],xs,us=>xs=[]/\us=[]
 |b::bs,xs,us=>∃x r u t,xs=x::r/\us=u::t/\ofK b x=true/\tW b x u/\mM bs r t
theorem GX {K:W.Frag}:∀{bs:List Bool} {xs:List D} {vs:List V} {us:List Value},cT bs xs=true->Reps K H B vs xs->Vals vs us->mM bs xs us
 | [],xs,vs,us,h,r,rv=>by have e:=tV h;subst e;have e2:=r;subst e2;cases rv;exact⟨rfl,rfl⟩
 |b::bs,xs,vs,us,h,r,rv=>by
  obtain⟨x,tN,rfl,h1,h2⟩:=pX h;obtain⟨v,t,rfl,r1,r2⟩:=r;cases rv with
  |cons a c=>exact⟨x,tN,_,_,rfl,rfl,h1,ME h1 r1 a,GX h2 r2 c⟩
theorem MG:∀{bs:List Bool} {xs ys:List D} {us vs:List Value} (i:Nat),mM bs xs us->mM bs ys vs->Q (bR xs ys) s->KatLex prog w A b false Q (us.zip vs) i s
 | [],xs,ys,us,vs,i,h1,h2,q=>by obtain⟨rfl,rfl⟩:=h1;obtain⟨rfl,rfl⟩:=h2;exact q
 |c::bs,xs,ys,us,vs,i,h1,h2,q=>by
  obtain⟨x,xs,u,us,rfl,rfl,hx,sx,h1⟩:=h1;obtain⟨y,ys,v,vs,rfl,rfl,hy,sy,h2⟩:=h2;refine kat_cons (Vm sx sy ?_);rw[GQ]at q;cases e:bW x y with
  |true=>rw[e,xu rfl]at q;exact kat_yes (MG (i+1) h1 h2 q)
  |false=>rw[e,xw eg]at q;exact kat_no (MF _ sx sy q)
theorem GY:∀{bs:List Bool} {xs:List D} {us:List Value},mM bs xs us->us.length=bs.length
 | [],_,_,h=>by rw[h.2];rfl
 |b::bs,_,_,h=>by obtain⟨x,r,u,t,rfl,rfl,_,_,h⟩:=h;rw[bt,bt,GY h]
theorem z15.some (x:z15 P w H h a o):∃q,h.get? a=some q:=by
 cases o with
 |lst xs=>obtain⟨_,_,_,_,e⟩:=x;exact⟨_,e⟩
 |tup xs=>obtain⟨_,_,_,_,e⟩:=x;exact⟨_,e⟩
 |dK kvs=>obtain⟨_,_,_,_,o,_,_,e,_⟩:=x;exact⟨_,e⟩
 |dT kvs=>obtain⟨_,_,_,_,o,_,_,e,_⟩:=x;exact⟨_,e⟩
 |set S n=>obtain⟨ob,es,ep,t,e,c⟩:=x;exact⟨_,e⟩
 |ins C dx fs=>obtain⟨d,z,ne,e,_⟩:=x;exact⟨_,e⟩
 |own y=>exact x
 |xd fs=>obtain⟨mA,⟨od,es,ep,e,c⟩,r⟩:=x;exact⟨_,e⟩
 |gO ob u=>exact⟨_,x.1⟩
 |pO ps=>exact⟨_,x⟩
 |ext φ=>obtain⟨p,⟨o,e⟩,st⟩:=x;exact⟨_,e⟩
theorem _root_.L2.Inv.laidF {D:Addr}(I:Inv X pins U H s)(hm:s.heap.Ns X.env.locals m)(hn':h'.Ns X.env.locals m)
  (kp:∀b u,b≠X.env.locals->s.heap.get? b=some u->h'.get? b=some u) (hD:s.heap.get? D=none) (new:z15 X.prog X.w (upd H D o) h' D o):Inv X pins U (upd H D o) {s with heap:=h',toks:=t'}:=by
 have hH:H D=none:=by
  cases e:H D with
  |none=>rfl
  |some u=>obtain⟨q,hq⟩:=z15.some (I.hok D u e);rw[hD]at hq;cases hq
 refine I.step (ch:=[]) (λ_ z=>nomatch z) (λb q hL _ _ e _=>kp b q hL e) (λb q hL _ _ e _=>⟨q.slots,kp b q hL e⟩) (λb q _ e n=>?_) (λb q _ e=>?_) (λb xs q=>by rw[aC (cQ q hH)];exact q) (λb u xs q=>by rw[aC (cQ q hH)];exact q) (λb ps q=>⟨#[],by rw[aC (cQ q hH),q];simp⟩) (λm' GZ=>?_) (λb u e=>?_) I.bare
 ·rw[aC (λz=>by subst z;rw[hD]at e;cases e)];exact n
 ·by_cases hb:b=X.env.locals
  ·subst hb;obtain⟨o',_,_,ho',_⟩:=hn';exact⟨o',ho'⟩
  ·exact⟨q,kp b q hb e⟩
 ·rw[GZ.eq_nsMap,<-hm.eq_nsMap];exact hn'
 ·by_cases hb:b=D
  ·subst hb;rw[aW]at e;cases e;exact new
  ·rw[aC hb]at e;have nL:∀c v,H c=some v->c≠X.env.locals:=λc v ec z=>by subst z;rw[I.free]at ec;cases ec
   refine(I.hok b u e).stay (λc v hc q=>kp c v ?_ q) (λc q=>by rw[aC (cQ q hH)];exact q) λc xs q=>by rw[aC (cQ q hH)];exact q
   rcases hc with rfl|hc
   ·exact nL _ _ e
   ·exact nL _ _ hc
theorem G0 (r:Vals vs us):∀(is:List Nat),(∀i∈is,i<vs.length)->Vals (is.map λi=>vs.getD i .bD) (is.map λi=>us.getD i Value.none)
 | [],_=>.nil
 |i::is,h=>by
  have hi:=h i (by simp);obtain⟨u,hu,ru⟩:=r.get (i:=i) (x:=vs[i]) (by simp[hi]);have e1:vs.getD i .bD=vs[i]:=by simp[hi]
  have e2:us.getD i Value.none=u:=by rw[au,hu];rfl
  rw[bg,bg,e1,e2];exact .cons ru (G0 r is λj hj=>h j (by simp[hj]))
theorem G1 {K:W.Frag}(r:Reps K H B vs ds):∀(is:List Nat),(∀i∈is,i<ds.length)->Reps K H B (is.map λi=>vs.getD i .bD) (is.map λi=>ds.getD i .none)
 | [],_=>rfl
 |i::is,h=>by
  have hi:=h i (by simp);obtain⟨v,hv,rv⟩:=r.get (i:=i) (d:=ds[i]) (by simp[hi]);have e1:ds.getD i .none=ds[i]:=by simp[hi]
  have e2:vs.getD i .bD=v:=by rw[au,hv];rfl
  rw[bg,bg,e1,e2];exact Reps.cons rv (G1 r is λj hj=>h j (by simp[hj]))
section
variable {X:Cx}
theorem z2s (O:OrdOn p)(I:Inv X pins U H s)
  (hl:s.heap.IsList a its.toArray) (rv:Vals vs its) (rs:Reps X.K H B vs ys) (h2:2<=ys.length) (mO:ys.length<64) (hp:∀d∈ys,p d)
  (ask:∀h':Heap,(∀b o,b≠X.env.locals->s.heap.get? b=some o->h'.get? b=some o)->wpAny (model X.prog X.w) X.A.in1.in1 (xq its.toArray) (λκ s'=>s'={s with heap:=h'}/\∀i j (C:Bool->aw->Prop),i<ys.length->j<ys.length->C (cN (ys.getD i .none) (ys.getD j .none)) {s with heap:=h'}->kas_ask X.prog X.w X.A.in1.in1 κ its i j C {s with heap:=h'}) (λ_ _=>False) {s with heap:=h'})
  (q:∀w H',Same H H'->Rep X.K H' (λa=>nw H a\/(imms ys=false/\B a)) w (.list (z1w ys))->Q w H'):
  wpAny (model X.prog X.w) X.A (call (.builtin "sorted") [.ref a]) (EP X pins U Q) X.xe s:=by
 have l1:=rs.length;have l2:=rv.length;obtain⟨m,oW,_⟩:=id I.loc;have F:Fr X.base X.env.locals s.heap m:=⟨oW,I.bk,bo I.ok.nB I.ok.above⟩;refine kat_sorted F (Kz) hl (by omega) (by omega) λD e1 h' F' N' MH=>?_
 have oX:∀{dB:Heap} {o:Obj},Fr X.base X.env.locals dB m->News X.base X.env.locals dB ((D,o)::zl X.base s.heap X.env.locals)->∀b o,b≠X.env.locals->s.heap.get? b=some o->dB.get? b=some o:=λiT rR b o hb e=>by
  cases qq:X.base.get? b with
  |some u=>have:=I.bk b u qq;rw[e]at this;cases this;exact iT.keep b _ qq
  |none=>exact(rR (b,o) (br _ (Ez hb qq e))).1
 have MI:=N' (D,fi "list" #[] e1) bh
 have hD:s.heap.get? D=none:=by
  cases e:s.heap.get? D with
  |none=>rfl
  |some o=>exact absurd (MH (D,o) (Ez MI.2.1 MI.2.2 e)) (cq _)
 have pY:H D=none:=by
  cases e:H D with
  |none=>rfl
  |some u=>obtain⟨q,hq⟩:=z15.some (I.hok D u e);rw[hD]at hq;cases hq
 refine aM (ask h' (oX F' N')) λκ s' zz=>?_;obtain⟨es,wK⟩:=zz;subst es;have el:its.length=ys.length:=by omega
 rw[el];refine GP (lt:=ltk (rank ys)) (λi j C s' hi hj e hC=>?_) (kas_sort ys.length) _ (Ms (by omega)) rfl λs' e=>?_
 ·subst e;refine wK i j C hi hj ?_;rw[<-GW O hp hi hj];exact hC _ rfl
 ·subst e;refine⟨_,_,F',N',.head (λp hp=>cw (MH p hp)),λdB c iT rR=>?_⟩;have rS:=(rR _ bh).1;have out:=MD O hp (by omega);obtain⟨_,dH⟩:=GL ys.length (by omega);generalize runT (ltk (rank ys)) (kas_sort ys.length)=pm at out dH rS ⊢;have tR:∀i∈pm.toList,i<ys.length:=λi hi=>by have:=(dH.toList.mem_iff).mp hi;simpa using this
  have G2:(pm.toList.map λi=>vs.getD i .bD).length=ys.length:=by have:=dH.toList.length_eq;simpa using this
  have new:z15 X.prog X.w (upd H D (.lst (pm.toList.map λi=>vs.getD i .bD))) dB D (.lst (pm.toList.map λi=>vs.getD i .bD)):=⟨by rw[G2,cz];omega,_,c,G0 rv pm.toList (λi hi=>by rw[l1];exact tR i hi),rS⟩;have I2:=I.laidF (t':=s.toks) oW iT.ns (oX iT rR) hD new;refine⟨.ref D,_,I2,rfl,q _ _ (Same.upd pY) ?_⟩;rw[<-out];exact tQ pY (G1 (Reps.oU rs) pm.toList tR) (λ_ z=>z) (.inl pY)
end
section
variable {X:Cx}
theorem MJ {K:W.Frag}(rs:Reps K H B vs ys)(rv:Vals vs its)(hi:i<ys.length):∃v,Rep K H B v (ys.getD i .none)/\RelV v (its.getD i Value.none)/\its[i]?=some (its.getD i Value.none):=by
 obtain⟨v,h1,h2⟩:=rs.get (i:=i) (d:=ys[i]) (by simp[hi]);obtain⟨u,h3,h4⟩:=rv.get h1;have e1:ys.getD i .none=ys[i]:=by simp[hi]
 have e2:its.getD i Value.none=u:=by rw[au,h3];rfl
 rw[e1,e2];exact⟨v,h2,h4,h3⟩
theorem Vn {its:List Value}(h:u∈its):∃i,i<its.length/\its.getD i Value.none=u:=by obtain⟨i,hi,e⟩:=nz h;exact⟨i,hi,by rw[<-e];simp[hi]⟩
theorem z55 {s:aw}(b:Bool)(hy:∀d∈ys,ofK b d=true)(rs:Reps X.K H B vs ys)(rv:Vals vs its)(h2:2<=ys.length)(h':Heap):
  wpAny (model X.prog X.w) A (xq its.toArray) (λκ s'=>s'={s with heap:=h'}/\∀i j (C:Bool->aw->Prop),i<ys.length->j<ys.length->C (cN (ys.getD i .none) (ys.getD j .none)) {s with heap:=h'}->kas_ask X.prog X.w A κ its i j C {s with heap:=h'}) (λ_ _=>False) {s with heap:=h'}:=by
 have hl:its.length=ys.length:=by rw[<-rv.length,rs.length]
 have sc:∀i,i<ys.length->tW b (ys.getD i .none) (its.getD i Value.none):=λi hi=>by obtain⟨v,h1,h2,_⟩:=MJ rs rv hi;exact ME (hy _ (by rw[au,ak hi];exact d9 hi)) h1 h2
 have ty:∀u∈its,Looks (model X.prog X.w) h' (xo u) (.type (if b then "int"else "str")):=λu hu=>by
  obtain⟨i,hi,rfl⟩:=Vn hu;have:=sc i (by omega);cases b with
  |true=>obtain⟨k,t,_,e⟩:=this;rw[e];exact Looks.of_pure rfl
  |false=>obtain⟨k,t,_,e⟩:=this;rw[e];exact Looks.of_pure rfl
 refine kas_kind (by omega) ty (by cases b<;>decide) (by cases b<;>decide) ⟨rfl,λi j C hi hj hC=>?_⟩;exact MF true (sc i hi) (sc j hj) hC
theorem zor (I:Inv X pins U H s)(kp:∀b o,s.heap.get? b=some o->o.cls=.type "tuple"->b≠X.env.locals->h'.get? b=some o)(b:Bool)(bs:List Bool):
  ∀{ys:List D} {vs:List V} {its:List Value},(∀d∈ys,zad (b::bs) d=true)->Reps X.K H B vs ys->Vals vs its->∃fs,KatTups h' its fs/\fs.length=its.length/\∀f∈fs,∃x,tW b x f
 | [],vs,its,_,r,rv=>by have e:=r;subst e;cases rv;exact⟨[],trivial,rfl,λ_ z=>nomatch z⟩
 |y::ys,vs,its,hy,r,rv=>by
  obtain⟨v,t,rfl,r1,r2⟩:=r;cases rv with
  |cons a c=>
   obtain⟨fs,k1,k2,k3⟩:=zor I kp b bs (λd hd=>hy d (by simp[hd])) r2 c;obtain⟨xs,rfl,hs⟩:=oV (hy y (by simp));obtain⟨ad,ws,rfl,sq,bE⟩:=r1;cases a;obtain⟨AY,rj,pt,_⟩:=I.tuple sq;obtain⟨o,ho,hc,n,hd⟩:=pt;have eA:ad≠X.env.locals:=by intro z;subst z;obtain⟨_,⟨o',es,ep,ho',fB,_⟩,_⟩:=id I.loc;rw[ho]at ho';cases ho';rw[hd]at fB;cases fB
   have sc:=GX hs bE rj;obtain⟨x,r,u,t',rfl,rfl,_,sx,_⟩:=sc;exact⟨u::fs,KatTups.cons (kp _ _ ho hc eA) hc hd (by simp) k1,by simp[k2],λf hf=>(ao.mp hf).elim (λz=>⟨x,by rw[z];exact sx⟩) (k3 f)⟩
theorem zcq (I:Inv X pins U H s)(b:Bool)(bs:List Bool)(hy:∀d∈ys,zad (b::bs) d=true)(rs:Reps X.K H B vs ys)(rv:Vals vs its)(h2:2<=ys.length)(kp:∀b o,s.heap.get? b=some o->o.cls=.type "tuple"->b≠X.env.locals->h'.get? b=some o):
  wpAny (model X.prog X.w) A (xq its.toArray) (λκ s'=>s'={s with heap:=h'}/\∀i j (C:Bool->aw->Prop),i<ys.length->j<ys.length->C (cN (ys.getD i .none) (ys.getD j .none)) {s with heap:=h'}->kas_ask X.prog X.w A κ its i j C {s with heap:=h'}) (λ_ _=>False) {s with heap:=h'}:=by
 have hl:its.length=ys.length:=by rw[<-rv.length,rs.length]
 obtain⟨fs,k1,k2,k3⟩:=zor I kp b bs hy rs rv
 have ty:∀u∈fs,Looks (model X.prog X.w) h' (xo u) (.type (if b then "int"else "str")):=λu hu=>by
  obtain⟨x,this⟩:=k3 u hu;cases b with
  |true=>obtain⟨k,t,_,e⟩:=this;rw[e];exact Looks.of_pure rfl
  |false=>obtain⟨k,t,_,e⟩:=this;rw[e];exact Looks.of_pure rfl
 have part:∀i,i<ys.length->∃ad xs o AY n,its.getD i Value.none=.ref ad/\ys.getD i .none=.tuple xs/\h'.get? ad=some o/\o.data=.seq (ko AY) n/\mM (b::bs) xs AY:=λi hi=>by
  obtain⟨v,r1,r2,_⟩:=MJ rs rv hi;obtain⟨xs,ex,hs⟩:=oV (hy (ys.getD i .none) (by rw[au,ak hi];exact d9 hi));rw[ex]at r1;obtain⟨ad,ws,rfl,sq,bE⟩:=r1;obtain⟨AY,rj,⟨o,ho,hc,n,hd⟩,_⟩:=I.tuple sq;have eA:ad≠X.env.locals:=by intro z;subst z;obtain⟨_,⟨o',es,ep,ho',fB,_⟩,_⟩:=id I.loc;rw[ho]at ho';cases ho';rw[hd]at fB;cases fB
  exact⟨ad,xs,o,AY,n,r2,ex,kp _ _ ho hc eA,hd,GX hs bE rj⟩
 refine kat_kind k1 (by omega) ty (by cases b<;>decide) ⟨rfl,λi j C hi hj hC=>?_⟩;obtain⟨ai,xi,oi,ji,ni,e1,e2,e3,e4,e5⟩:=part i hi;obtain⟨aj,xj,oj,jj,nj,f1,f2,f3,f4,f5⟩:=part j hj;show wpAny _ _ (keyLt' _ (its.getD i Value.none) (its.getD j Value.none)) C _ _;rw[e1,f1];refine kat_lt e3 e4 f3 f4 ?_;have ef:decide ((ko ji).size<(ko jj).size)=false:=by rw[ax,ax,GY e5,GY f5];simp
 rw[ef];rw[e2,f2,My]at hC;exact MG 0 e5 f5 hC
end
section
variable {X:Cx}
theorem zd2 (hu:X.A.units+64<cLine)(I:Inv X pins U H s)(r:Vals xs us)(hx:xs=[x])(rx:Rep X.K H B x dx)(e:z4v dx=.ok (true,ys))(e2:aggD "sorted" true ys=.ok d)
  (q:∀w H',Same H H'->Rep X.K H' (λa=>nw H a\/(imms ys=false/\B a)) w d->Q w H'):wpAny (model X.prog X.w) X.A (call (.builtin "sorted") us) (EP X pins U Q) X.xe s:=by
 subst hx;obtain⟨a,vs,rfl,yC,rs⟩:=wG rx e;simp only[aggD,show("sorted":String)≠"list" by decide,show("sorted":String)≠"tuple" by decide,if_true,if_false]at e2;split at e2
 case isFalse=>cases e2
 rename_i hc;cases e2;simp only[decide_eq_true_eq,bq,vq,true_and]at hc;obtain⟨hs,mO⟩:=hc;obtain⟨u,rfl,ru⟩:=vals1 r;cases ru;obtain⟨its,rv,pl,hz⟩:=I.list yC;have Vo:its.length=ys.length:=by rw[<-rv.length,rs.length]
 by_cases h2:ys.length<2
 ·refine z6u pl.isList (by omega) λD h' n hD kp ho=>?_;have hH:=I.hok.fresh hD;have I2:=I.laid (o:=.lst vs) (t':=s.toks) kp hD ⟨hz,its,n,rv,ho⟩;refine⟨.ref D,_,I2,rfl,q _ _ (Same.upd hH) ?_⟩
  have es:z1w ys=ys:=by
   match ys,h2 with
   | [],_=>rfl
   | [y],_=>rfl
   |_::_::_,h2=>simp at h2;omega
  rw[es];exact tQ hH (Reps.oU rs) (λ_ z=>z) (.inl hH)
 ·have fD:2<=ys.length:=by omega
  replace hs:=(gy _ _).mp hs;rcases hs with hs|hs
  case inr=>cases hs
  unfold pS at hs;simp only[gy,bj]at hs;rcases hs with(hs|hs)|hs
  ·exact z2s rO I pl.isList rv rs fD mO hs (λh' kp=>z55 true hs rs rv fD h') q
  ·exact z2s rP I pl.isList rv rs fD mO hs (λh' kp=>z55 false hs rs rv fD h') q
  ·split at hs
   case h_2=>cases hs
   rename_i y0 _;simp only[bq,bj,j0]at hs;obtain⟨eA,hs⟩:=hs;cases y0 with
   |nil=>cases eA
   |cons y1 yr=>exact z2s (wJ _) I pl.isList rv rs fD mO hs (λh' kp=>zcq I _ _ hs rs rv fD λb o e _ hL=>kp b o hL e) q
end
section
variable {X:Cx}
theorem Vp (hc:X.calm=true):CallR X (.builtin "any") (λxs H Q=>∃(p:Addr) (bs:List Bool),xs=[.ref p]/\SqL X.K H p (bs.map V.bl)/\Q (.bl (bs.any id)) H):=by
 intro pins s U H xs us Q I r h;obtain⟨p,bs,rfl,hq,q⟩:=h;obtain⟨u,rfl,ru⟩:=vals1 r;cases ru;obtain⟨its,rv,pl,hz⟩:=I.list hq;refine call_any_walk (jz pl.isList ?_);have ne:p≠s.heap.objs.size:=by obtain⟨o,ho,_⟩:=pl.isList;exact cw (bn ho)
 have hlen:=by have:=rv.length;rw[ae]at this;exact this
 refine⟨s.heap.objs.size,_,_,_,_,_,λi=>bs.getD i false,rfl,Walks.list (A:=X.A.in1) (I.ok.hd hc) s.heap.objs.size p ne its.toArray,⟨⟨_,a8 _ rfl,rfl,rfl⟩,pl.isList.at λo e=>af _ e⟩,?_,?_⟩
 ·intro i v s' Q' E' hP hQ;have hi:its[i]?=some v:=by simpa using hP
  have hb:i<bs.length:=by rw[hlen];exact(bp.mp hi).1
  obtain⟨u',hu,ru⟩:=rv.get (by rw[az,ak hb];rfl);rw[hi]at hu;cases hu;cases ru;refine ig ?_;have e:bs.getD i false=bs[i]:=by simp[au,hb]
  have Am:Q' (bs.getD i false) s':=hQ;rw[e]at Am;exact Am
 ·intro h' tk k;refine⟨.bl (bs.any id),H,I.kept λb o e=>?_,?_,q⟩
  ·refine k b o (λz=>?_) (af _ e);have z':b=s.heap.objs.size:=by simpa using z
   exact absurd (bn e) (by rw[z'];exact cq _)
  ·have e:(fq its.toArray.size).any (fun i=>bs.getD i false)=bs.any id:=by
    rw[ax,<-hlen];apply jw.mpr;simp only[nh];constructor
    ·rintro⟨i,hi,h⟩
     have qQ:i<bs.length:=by simpa using hi
     exact⟨bs[i],d9 qQ,by simpa[au,qQ]using h⟩
    ·rintro⟨b,hb,h⟩
     have⟨i,hi,ei⟩:=nz hb;subst ei;exact⟨i,by simpa using hi,by simpa[au,hi]using h⟩
   rw[e];rfl
theorem Vq (hc:X.calm=true):CallR X (.builtin "any") (rAgg X.K "any"):=by
 refine CallR.imp (Vp hc) λxs H Q h=>?_;obtain⟨B,x,dx,l,ys,d,rfl,r,e,e2,q⟩:=h;obtain⟨a,vs,rfl,h,rs⟩:=wG r e;simp only[aggD,show("any":String)≠"list" by decide,show("any":String)≠"tuple" by decide,show("any":String)≠"sorted" by decide,show("any":String)≠"sum" by decide,show("any":String)≠"all" by decide,if_true,if_false]at e2;cases l with
 |false=>cases e2
 |true=>
  cases e3:allB ys with
  |none=>rw[e3]at e2;cases e2
  |some bs=>rw[e3]at e2;cases e2;have ev:=GG e3 rs;subst ev;exact⟨a,bs,rfl,h,q _ H (Same.refl H) rfl⟩
end
theorem Vr (r:KV kvs vs){i:Nat}(h:kvs[i]?=some (k,v)):∃u,vs[i]?=some (k,u)/\RelV v u:=by
 induction r generalizing i with
 |nil=>simp at h
 |cons a b ih=>
  cases i with
  |zero=>cases h;rename_i bb _ _;obtain⟨b1,b2⟩:=bb;obtain⟨rfl,a2⟩:=a;exact⟨b2,rfl,a2⟩
  |succ i=>exact ih h
theorem Vs (h:(gA P w).is k u=true):RelV (kV k) u:=by
 rcases pN h with⟨i,t,rfl,rfl⟩|⟨x,t,rfl,rfl⟩
 ·exact⟨t,rfl⟩
 ·exact⟨t,rfl⟩
theorem bC.at {K:W.Frag}:∀{kvs:List (Key×V)} {es:bK} {i:Nat} {k:Key} {v:V},bC K H B kvs es->kvs[i]?=some (k,v)->∃d,es[i]?=some (kD k,d)/\keyOk k/\Rep K H B v d
 |kvs,[],i,k,v,r,e=>by have:kvs=[]:=r;subst this;simp at e
 |kvs,(kd,d)::es,i,k,v,r,e=>by
  obtain⟨k',v',t,rfl,rfl,ok,h1,h2⟩:=r;cases i with
  |zero=>cases e;exact⟨d,rfl,ok,h1⟩
  |succ i=>rw[lx]at e ⊢;exact bC.at h2 e
theorem Vt {K:W.Frag}(ok:keyOk k):Rep K H B (kV k) (kD k):=by
 cases k with
 |inl i=>exact rfl
 |inr x=>exact⟨rfl,ok⟩
section
variable {X:Cx}
theorem Vu {K:W.Frag}{i:Nat}(so:StOk K F H U Y)(e:Y[i]?=some (some (g,.dict es))):∃d kvs B,U[i]?=some (some (.ref d))/\H d=some (.dK kvs)/\F.V d/\bC K H B kvs es:=by
 obtain⟨v,h1,h2⟩:=so.sl i g _ e;cases g with
 |fr=>
  obtain⟨p,rfl,ho,h⟩:=h2;rcases h with⟨_,_,z,_⟩|⟨kvs,fN,z,h3,r⟩
  ·cases z
  ·cases z;exact⟨p,kvs,_,h1,h3,(so.own p i ho).2.1,r⟩
 |od=>obtain⟨p,kvs,rfl,h3,b,r⟩:=h2;exact⟨p,kvs,_,h1,h3,b.2,r⟩
 |al=>obtain⟨p,kvs,rfl,h3,b,r⟩:=h2;exact⟨p,kvs,_,h1,h3,b,r⟩
 |nu=>obtain⟨p,kvs,rfl,h3,b,r⟩:=h2;exact⟨p,kvs,_,h1,h3,b.2.2,r⟩
end
section
variable {X:Cx}{pins:List (Addr×Obj)}{U:L2.St}{H:Hp}{s:aw}
theorem _root_.L2.Inv.AZ (I:Inv X pins U H s)(f:FpOk X pins H a)(new:z15 X.prog X.w (upd H a u) s.heap a u):Inv X pins U (upd H a u) s:=by
 obtain⟨f0,f1,f2,f3,f4,f5⟩:=f
 exact I.step (ch:=[a]) (fun b hb=>by
   have e:b=a:=by simpa using hb
   subst e;exact⟨f3,f1,f4,f5⟩) (λb q _ _ _ e _=>e) (λb q _ _ _ e _=>⟨q.slots,e⟩) (λb q hc _ n=>by rw[aC (λz=>hc (by simp[z]))];exact n) (λb q _ e=>⟨q,e⟩)
  (λb xs q=>by rw[aC (cQ q f0)];exact q) (λb v xs q=>by rw[aC (cQ q f0)];exact q) (λb ps q=>⟨#[],by rw[aC (cQ q f0),q];simp⟩) (λm h=>h) (λb v e=>by
   by_cases hb:b=a
   ·subst hb;rw[aW]at e;cases e;exact new
   ·rw[aC hb]at e;exact(I.hok b v e).stay (λc w _ q=>q) (λc q=>by rw[aC (cQ q f0)];exact q) λc xs q=>by rw[aC (cQ q f0)];exact q) I.bare
theorem z6q:∀(l:List (Addr×List V)) {H:Hp},Inv X pins U H s->(l.map (·.1)).Nodup->(∀q∈l,FpOk X pins H q.1)->(∀q∈l,q.2.length<=bc/\∃its,Vals q.2 its/\TupN s.heap q.1 its.toArray)->
  ∃H1,Inv X pins U H1 s/\Same H H1/\(∀q∈l,H1 q.1=some (.tup q.2))/\∀a,a∉l.map (·.1)->H1 a=H a
 | [],H,I,_,_,_=>⟨H,I,Same.refl H,(λq hq=>absurd hq (by simp)),λ_ _=>rfl⟩
 |(a,xs)::l,H,I,nd,hf,ht=>by
  rw[bg,cr]at nd;have fa:=hf (a,xs) (by simp);obtain⟨H1,J1,sm,h1,h2⟩:=z6q l (I.AZ (u:=.tup xs) fa (ht (a,xs) (by simp))) nd.2 (λq hq=>by obtain⟨f0,r⟩:=hf q (by simp[hq]);exact⟨by rw[aC ((λq hq z=>nd.1 (ba.mpr ⟨q,hq,z⟩)) q hq)];exact f0,r⟩) λq hq=>ht q (by simp[hq]);refine⟨H1,J1,(Same.upd fa.1).trans sm,λq hq=>?_,λb hb=>?_⟩
  ·rcases ao.mp hq with e0|hq;subst e0
   ·rw[h2 a nd.1];exact aW
   ·exact h1 q hq
  ·rw[bg,ao,not_or]at hb;rw[h2 b hb.2,aC hb.1]
theorem _root_.L2.Inv.writeF {D:Addr}(I:Inv X pins U H s)(hH:H D=some (.lst xs))(hm:s.heap.Ns X.env.locals m)(hn':h'.Ns X.env.locals m)
  (kp:∀b u,b≠X.env.locals->b≠D->s.heap.get? b=some u->h'.get? b=some u) (new:z15 X.prog X.w (upd H D (.lst ys)) h' D (.lst ys)):Inv X pins U (upd H D (.lst ys)) {s with heap:=h',toks:=t'}:=by
 have nd:∀b v,H b=some v->v≠.lst xs->upd H D (.lst ys) b=some v:=λb v q hv=>by rw[aC (λz=>by subst z;rw[hH]at q;cases q;exact hv rfl)];exact q
 have ne:∀b,H b=none->b≠D:=λb n z=>by subst z;rw[hH]at n;cases n
 have nL:∀c v,H c=some v->c≠X.env.locals:=λc v ec z=>by subst z;rw[I.free]at ec;cases ec
 refine I.step (ch:=[]) (λ_ z=>nomatch z) (λb q hL _ _ e n=>kp b q hL (ne b n) e) (λb q hL _ _ e n=>⟨q.slots,kp b q hL (ne b n) e⟩) (λb q _ e n=>by rw[aC (ne b n)];exact n) (λb q _ e=>?_) (λb xs q=>nd b _ q (λz=>nomatch z)) (λb u xs q=>nd b _ q (λz=>nomatch z)) (λb ps q=>⟨#[],by rw[nd b _ q (λz=>nomatch z)];simp⟩) (λm' GZ=>?_) (λb u e=>?_) I.bare
 ·by_cases hb:b=X.env.locals
  ·subst hb;obtain⟨o',_,_,ho',_⟩:=hn';exact⟨o',ho'⟩
  ·by_cases hd:b=D
   ·subst hd;obtain⟨_,_,_,_,e'⟩:=new;exact⟨_,e'⟩
   ·exact⟨q,kp b q hb hd e⟩
 ·rw[GZ.eq_nsMap,<-hm.eq_nsMap];exact hn'
 ·by_cases hb:b=D
  ·subst hb;rw[aW]at e;cases e;exact new
  ·rw[aC hb]at e;refine(I.hok b u e).stay (λc v hc q=>?_) (λc q=>nd c _ q (λz=>nomatch z)) λc xs q=>nd c _ q (λz=>nomatch z);rcases hc with rfl|hc
   ·exact kp _ v (nL _ _ e) hb q
   ·exact kp c v (nL _ _ hc) (λz=>by subst z;rw[hH]at hc;cases hc) q
def Vw (i:Nat):TE:=λU H Q=>∃d kvs,U[i]?=some (some (.ref d))/\H d=some (.dK kvs)/\∀p,H p=none->Q (.ref p) (upd H p (.ext λh=>h.IsItemsView p d))
theorem zfa (hN:X.N[i]?=some x)(hv:Vis X.env.scope x)(hdb:aac x)(hcd:(x==("__classdict__":Str))=false)(hline:(ap.endLine==cp.line)=true):
  PE X (.Call (.Attribute (.Name x p) "items" ap) [] [] cp) (Vw i):=by
 intro pins s U H Q I h;obtain⟨d,kvs,hσ,hd,q⟩:=h;refine wpAny_Call_method rfl rfl hline PySem.F.plainAttrs_dict PySem.F.slot_dict_items PySem.F.type_dict_items (aM (uS hN hv hdb hcd pins s U H (λv H1=>v=.ref d/\H1=H) I ⟨_,hσ,rfl,rfl⟩) λov s1 zz=>?_);obtain⟨y,H1,I1,r1,ey,eH⟩:=zz;subst ey eH;cases r1;obtain⟨_,A0,vs,rel,Di⟩:=zU I1.hok hd;refine⟨Di.typeIs,Di.mapOf.noDict,?_⟩;refine method_meetsIn PySem.F.slot_dict_items PySem.F.entry_dict_items rfl (PySem.evalArgs_none ⟨rfl,Di.typeIs,PySem.F.args_dict_items_1 _,_,meets_dict_items (gA X.prog X.w) d A0,⟨vs,Di⟩,?_⟩);have hp:=I1.hok.fresh (ag _);refine⟨.ref s1.heap.objs.size,_,I1.laid (o:=.ext λh=>h.IsItemsView s1.heap.objs.size d) (λ_ _ q=>af _ q) (ag _) ⟨⟨_,a8 _ rfl,rfl,rfl⟩,⟨_,a8 _ rfl⟩,λh1 h2 ⟨o,ho,r⟩ k=>⟨o,k o ho,r⟩⟩,rfl,q _ hp⟩
end
section
variable {X:Cx}{pins:List (Addr×Obj)}{U:L2.St}{H:Hp}{s:aw}
theorem z1f (O:OrdOn p)(I:Inv X pins U H s)
  (hH:H l=some (.lst vs)) (ho:s.heap.get? l=some (listOf its.toArray n)) (rv:Vals vs its) (rs:Reps X.K H B vs ys) (h2:2<=ys.length) (mO:ys.length<64) (hp:∀d∈ys,p d)
  (ask:∀h':Heap,(∀b o,b≠X.env.locals->b≠l->s.heap.get? b=some o->h'.get? b=some o)->wpAny (model X.prog X.w) A.in1 (xq its.toArray) (λκ s'=>s'={s with heap:=h'}/\∀i j (C:Bool->aw->Prop),i<ys.length->j<ys.length->C (cN (ys.getD i .none) (ys.getD j .none)) {s with heap:=h'}->kas_ask X.prog X.w A.in1 κ its i j C {s with heap:=h'}) (λ_ _=>False) {s with heap:=h'})
  (q:∀s' eB,Inv X pins U (upd H l (.lst eB)) s'->Reps X.K H B eB (z1w ys)->Q .none s'):wpAny (model X.prog X.w) A (call (.builtin "list.sort") [.ref l]) Q E s:=by
 have l1:=rs.length;have l2:=rv.length;obtain⟨m,oW,_⟩:=id I.loc;have F:Fr X.base X.env.locals s.heap m:=⟨oW,I.bk,bo I.ok.nB I.ok.above⟩;have hL:l≠X.env.locals:=λz=>by subst z;rw[I.free]at hH;cases hH
 have hb:X.base.get? l=none:=by
  cases e:X.base.get? l with
  |none=>rfl
  |some u=>have:=(I.bs l u e).2;rw[hH]at this;cases this
 refine kat_lsort (vs:=its) F (qH hL hb ho) (.head Ky) (by simp) (by omega) (by omega) λe1 h' F' N'=>?_;have oX:∀{dB:Heap} {o:Obj},Fr X.base X.env.locals dB m->News X.base X.env.locals dB ((l,o)::rest X.base s.heap X.env.locals l)->∀b o,b≠X.env.locals->b≠l->s.heap.get? b=some o->dB.get? b=some o:=λiT rR b o h1 h2 e=>z77 I.bk iT (λq hq=>rR q (br _ hq)) b o h1 h2 e;refine aM (ask h' (oX F' N')) λκ s' zz=>?_;obtain⟨es,wK⟩:=zz;subst es;have el:its.length=ys.length:=by omega
 rw[el];refine GP (lt:=ltk (rank ys)) (λi j C s' hi hj e hC=>?_) (kas_sort ys.length) _ (Ms (by omega)) rfl λs' e=>?_
 ·subst e;refine wK i j C hi hj ?_;rw[<-GW O hp hi hj];exact hC _ rfl
 ·subst e;refine⟨_,_,F',N',.head Ky,λdB c iT rR=>?_⟩;have rS:=(rR _ bh).1;have out:=MD O hp (by omega);obtain⟨_,dH⟩:=GL ys.length (by omega);generalize runT (ltk (rank ys)) (kas_sort ys.length)=pm at out dH rS ⊢;have tR:∀i∈pm.toList,i<ys.length:=λi hi=>by have:=(dH.toList.mem_iff).mp hi;simpa using this
  have G2:(pm.toList.map λi=>vs.getD i .bD).length=ys.length:=by have:=dH.toList.length_eq;simpa using this
  refine q _ (pm.toList.map λi=>vs.getD i .bD) (I.writeF hH oW iT.ns (oX iT rR) ⟨by rw[G2,cz];omega,_,c,G0 rv pm.toList (λi hi=>by rw[l1];exact tR i hi),rS⟩) ?_;rw[<-out];exact G1 rs pm.toList tR
end
theorem z49 {vs:List Value}(hoL:s.heap.get? l=some (fi "list" vs.toArray n))(h2:vs.length<2)
  (h:∀h' n',(∀b o,b≠l->s.heap.get? b=some o->h'.get? b=some o)->h'.get? l=some (fi "list" vs.toArray n')->Q .none {s with heap:=h'}):
  wpAny (model prog w) A (call (.builtin "list.sort") [.ref l]) Q E s:=by
 refine g7 slot_list_sort ⟨_,hoL,rfl⟩ entry_list_sort ?body (args_list_sort _);rw[list_sort_plain];refine ac (qt hoL rfl ?_);refine ac (nl hoL rfl ?_);obtain⟨e1,rL⟩:∃e1,(s.heap.update l (Obj.mapSeq λ_=>(#[]:Array Value))).get? l=some (fi "list" #[] e1):=⟨_,lm hoL λ_=>#[]⟩;have k3:∀b o,b≠l->s.heap.get? b=some o->(s.heap.update l (Obj.mapSeq λ_=>(#[]:Array Value))).get? b=some o:=λb o hb e=>yF hb e;generalize (s.heap.update l (Obj.mapSeq λ_=>(#[]:Array Value)))=h3 at rL k3 ⊢;refine ac (sw rL rfl ?_);refine ac (oq ?_ (by rw[cz];simp;omega));apply ac;refine lg ?_;refine dj ?_;have rM:((h3.push (fi "tuple" vs.toArray 0)).push (fi "list" #[] 0)).get? l=some (fi "list" #[] e1):=af _ (af _ rL);have k6:∀b o,b≠l->s.heap.get? b=some o->((h3.push (fi "tuple" vs.toArray 0)).push (fi "list" #[] 0)).get? b=some o:=λb o hb e=>af _ (af _ (k3 b o hb e));generalize ((h3.push (fi "tuple" vs.toArray 0)).push (fi "list" #[] 0))=h6 at rM k6 ⊢;have hz:vs.toArray.size<2:=by simpa using h2
 rw[xu hz,xu hz];refine ac (am ?_);refine ac (am ?_);refine ac (sw rM rfl ?_);have em:(arrOf (SortSt.mk' general' (vs.toArray.zip vs.toArray) #[] 7 none)).map (·.2)=vs.toArray:=by show(vs.toArray.zip vs.toArray).map (·.2)=vs.toArray;simp;exact List.map_snd_zip (ag _)
 rw[em];refine ac (nl rM rfl ?_);simp only[if_false,vm,bne_self_eq_false];exact am ⟨_,rfl,h _ _ (λb o hb e=>yF hb (k6 b o hb e)) (lm rM λ_=>vs.toArray)⟩
theorem MK {K:W.Frag}:∀{vs:List V} {ds:List D},vs.length=ds.length->(∀(i:Nat) v d,vs[i]?=some v->ds[i]?=some d->Rep K H B v d)->Reps K H B vs ds
 | [],[],_,_=>rfl
 |v::vs,d::ds,hl,h=>Reps.cons (h 0 v d rfl rfl) (MK (by simpa using hl) λi v d h1 h2=>h (i+1) v d (by simpa using h1) (by simpa using h2))
 | [],_::_,hl,_=>by cases hl
 |_::_,[],hl,_=>by cases hl
theorem rT:∀as:List Addr,Vals (as.map V.ref) (as.map Value.ref)
 | []=>.nil
 |a::as=>.cons rfl (rT as)
section
variable {X:Cx}
def Vx (K:W.Frag):List V->Hp->VK->Prop:=λxs H Q=>∃p d kvs es B,xs=[.ref p]/\H p=some (.ext λh=>h.IsItemsView p d)/\H d=some (.dK kvs)/\bC K H B kvs es/\cA es=true/\pS (es.map ent)=true/\es.length<64/\∀w H',Same H H'->Rep K H' (nw H) w (.list (z1w (es.map ent)))->Q w H'
theorem Vy (hc:X.calm=true):CallR X (.builtin "sorted") (Vx X.K):=by
 intro pins s U H xs us Q I r h;obtain⟨p,d,kvs,es,B,rfl,hp,hd,rs,mJ,hok,mO,q⟩:=h;obtain⟨u,rfl,ru⟩:=vals1 r;cases ru;obtain⟨A7,_,_⟩:=I.hok p _ hp;obtain⟨hz,A0,vs,rel,o,fN,ep,ho,Vz,kF,r3⟩:=zU I.hok hd;have VA:s.heap.DictAt (gA X.prog X.w) d vs ep:=⟨o,fN,ho,Vz,kF,r3⟩;have lk:=rel.length;have le:=rs.length;apply ku wz wj wm (wp _);apply ac;apply am;refine ac (kdx_collect (I.ok.hd hc) A7 VA (by omega) λh' tk as hk hl hG=>?_);have I1:Inv X pins U H {s with heap:=h',toks:=tk}:=I.kept hk;have lz:as.length=kvs.length:=by omega
 have e1:((as.zip (kvs.map λkv=>[kV kv.1,kv.2])).map (·.1))=as:=List.map_fst_zip (by rw[ae];omega)
 have A8:∀z∈as.zip (kvs.map λkv=>[kV kv.1,kv.2]),∃j k v,as[j]?=some z.1/\kvs[j]?=some (k,v)/\z.2=[kV k,v]:=λz VB=>by
  obtain⟨j,hj,ej⟩:=nz VB;have hj':j<as.length/\j<kvs.length:=by rw[List.length_zip,ae]at hj;omega
  refine⟨j,(kvs[j]'hj'.2).1,(kvs[j]'hj'.2).2,?_,ak hj'.2,?_⟩
  ·rw[<-ej,List.getElem_zip];exact ak hj'.1
  ·rw[<-ej,List.getElem_zip];simp
 obtain⟨H1,I2,sm,ht,_⟩:=z6q (as.zip (kvs.map λkv=>[kV kv.1,kv.2])) I1 (by rw[e1];exact hG.rise.imp λh=>cw h)
  (λz hz=>by obtain⟨j,k,v,h1,_,_⟩:=A8 z hz;have ha:=hG.above z.1 (b0 h1);exact I.gU (j9 ha) (I.hok.fresh (j9 ha)))
  (λz hz=>by obtain⟨j,k,v,h1,h2,h3⟩:=A8 z hz;obtain⟨key,k',x,g1,g2,g3⟩:=hG.pairs j z.1 h1;obtain⟨u,g4,ru⟩:=Vr rel h2;rw[g4]at g1;cases g1;rw[h3];exact⟨by rw[cz];simp,[key,_],.cons (Vs g2) (.cons ru .nil),0,g3⟩)
 refine ac (lg ?_ (by rw[ae];omega));have hD:=I2.hok.fresh (ag _);have I3:Inv X pins U (upd H1 h'.objs.size (.lst (as.map V.ref))) {s with heap:=h'.push (fi "list" (as.map Value.ref).toArray 0),toks:=tk}:=I2.laid (λ_ _ q=>af _ q) (ag _) ⟨by rw[ae];omega,_,0,rT as,a8 _ rfl⟩
 have rp:Reps X.K (upd H1 h'.objs.size (.lst (as.map V.ref))) (λ_=>False) (as.map V.ref) (es.map ent):=by
  refine MK (by rw[ae,ae];omega) λi v dd h1 h2=>?_;rw[az]at h1 h2;obtain⟨a,ha,rfl⟩:=ci.mp h1;obtain⟨ev,ML,rfl⟩:=ci.mp h2;have hi:i<kvs.length:=by rw[<-lz];exact(bp.mp ha).1
  have MM:kvs[i]?=some (kvs[i].1,kvs[i].2):=by simp[hi]
  obtain⟨dv,h4,ok,rv⟩:=bC.at rs MM;rw[h4]at ML;cases ML;have MN:=ht (a,[kV kvs[i].1,kvs[i].2]) (by refine List.mem_iff_getElem?.mpr ⟨i,?_⟩;rw[ox];exact⟨ha,by rw[az,MM];rfl⟩);have VC:=bj.mp mJ _ (b0 h4);refine⟨a,_,rfl,bL.of (by rw[aC (cQ MN hD)];exact MN),Reps.cons (Vt ok) (Reps.cons ?_ rfl)⟩;exact Rep.mD (λb u e f=>by have:=sm b u e;rw[aC (cQ this hD)];exact this) dv VC rv
 have pY:H h'.objs.size=none:=by
  cases e:H h'.objs.size with
  |none=>rfl
  |some u=>have:=sm _ _ e;rw[hD]at this;cases this
 have fin:∀s' eB,Inv X pins U (upd (upd H1 h'.objs.size (.lst (as.map V.ref))) h'.objs.size (.lst eB)) s'->Reps X.K (upd H1 h'.objs.size (.lst (as.map V.ref))) (λ_=>False) eB (z1w (es.map ent))->EP X pins U Q (.ref h'.objs.size) s':=λs' eB I4 r4=>by
  refine⟨.ref h'.objs.size,_,I4,rfl,q _ _ (λb u e=>?_) ⟨_,eB,rfl,.inl ⟨aW,pY⟩,?_⟩⟩
  ·have hb:=cQ e pY;rw[aC hb,aC hb];exact sm b u e
  ·exact Reps.keep (fun b u e f=>by
    rcases f with f|f
    ·exact f.elim
    ·have hb:b≠h'.objs.size:=λz=>by subst z;rw[aW]at e;cases e;exact f
     rw[aC hb];exact e) (λ_ z=>z.elim) _ r4
 have dC:(h'.push (fi "list" (as.map Value.ref).toArray 0)).get? h'.objs.size=some (fi "list" (as.map Value.ref).toArray 0):=a8 _ rfl;obtain⟨m,oW,_⟩:=id I3.loc;have G3:X.env.locals≠h'.objs.size:=λz=>by have:=I2.lt;rw[z]at this;exact cq _ this
 by_cases h2:es.length<2
 ·refine ac (dj (z49 (s:={s with heap:=h'.push (fi "list" (as.map Value.ref).toArray 0),toks:=tk}) dC (by rw[ae];omega) λdB n' kp rS=>am ⟨_,rfl,fin _ _ (I3.writeF aW oW (oW.at λo e=>kp _ o G3 e) (λb u _ hb e=>kp b u hb e) ⟨by rw[ae];omega,_,n',rT as,rS⟩) ?_⟩))
  have VD:z1w (es.map ent)=es.map ent:=by
   match es,h2 with
   | [],_=>rfl
   | [y],_=>rfl
   |_::_::_,h2=>simp at h2;omega
  rw[VD];exact rp
 ·have fD:2<=(es.map ent).length:=by rw[ae];omega
  have wL:(es.map ent).length<64:=by rw[ae];exact mO
  unfold pS at hok;simp only[gy,bj]at hok;have G4:∀dB:Heap,(∀b o,b≠X.env.locals->b≠h'.objs.size->(h'.push (fi "list" (as.map Value.ref).toArray 0)).get? b=some o->dB.get? b=some o)->∀b o,(h'.push (fi "list" (as.map Value.ref).toArray 0)).get? b=some o->o.cls=.type "tuple"->b≠X.env.locals->dB.get? b=some o:=λdB kp b o e fI hL=>kp b o hL (λz=>by subst z;rw[dC]at e;cases e;exact absurd fI (by simp)) e;rcases hok with(hs|hs)|hs
  ·exact ac (dj (z1f rO I3 aW dC (rT as) rp fD wL hs (λdB kp=>z55 true hs rp (rT as) fD dB) λs' eB I4 r4=>am ⟨_,rfl,fin s' eB I4 r4⟩))
  ·exact ac (dj (z1f rP I3 aW dC (rT as) rp fD wL hs (λdB kp=>z55 false hs rp (rT as) fD dB) λs' eB I4 r4=>am ⟨_,rfl,fin s' eB I4 r4⟩))
  ·split at hs
   case h_2=>cases hs
   rename_i y0 _ _;simp only[bq,bj,j0]at hs;obtain⟨eA,hs⟩:=hs;cases y0 with
   |nil=>cases eA
   |cons y1 yr=>exact ac (dj (z1f (wJ _) I3 aW dC (rT as) rp fD wL hs (λdB kp=>zcq I3 _ _ hs rp (rT as) fD (G4 dB kp)) λs' eB I4 r4=>am ⟨_,rfl,fin s' eB I4 r4⟩))
end
section
variable {X:Cx}
theorem zm5 {i:Nat}(hc:X.calm=true)(hm:X.mg f=none)(hb:df f=some (.builtin "sorted"))(hg:Gl X f)(hn:f≠"__name__")(hfd:aac f)
  (hN:X.N[i]?=some x) (hv:Vis X.env.scope x) (hdb:aac x) (hcd:(x==("__classdict__":Str))=false) (hline:(ap.endLine==cp.line)=true):
  PE X (.Call (.Name f p) [.Call (.Attribute (.Name x p2) "items" ap) [] [] cp] [] pos) (tD X.K λY=>match Y[i]? with
   |some (some (_,.dict es))=>if cA es&&pS (es.map ent)&&decide (es.length<64)then .ok (.fr,.list (z1w (es.map ent)))else .no
   |_=>.no):=
 PE.imp (An (Vy hc) hm hb (eF (zfa hN hv hdb hcd hline) lP rfl) rfl hg hn hfd) λU H Q zz=>by
  obtain⟨Y,F,z,so,e,q⟩:=zz
  dsimp only at e
  split at e
  case h_2=>cases e
  rename_i g es hr;split at e
  case isFalse=>cases e
  rename_i tX;cases e;simp only[bq,decide_eq_true_eq]at tX;obtain⟨⟨h1,h2⟩,h3⟩:=tX;obtain⟨d,kvs,B,hσ,hH,hV,rs⟩:=Vu so hr;refine⟨d,kvs,hσ,hH,λv hp=>⟨v,d,kvs,es,B,rfl,aW,by rw[aC (cQ hH hp)];exact hH,rs.same (Same.upd hp) λ_ z=>z,h1,h2,h3,λw H' sm bE=>q w H' ((Same.upd hp).trans sm) (bE.weak λa ha=>?_)⟩⟩;cases a with
  |none=>exact ha
  |some a=>
   have wM:upd H v (.ext λh=>h.IsItemsView v d) a=none:=ha;by_cases MO:a=v
   ·subst MO;exact hp
   ·rw[aC MO]at wM;exact wM
end
theorem z81 (ho:s.heap.get? t=some o)(hc:o.cls=.type "tuple")(hd:o.data=.seq its.toArray n)(hz9z:its.length<=bc)
  (h:∀h',(∀b u,s.heap.get? b=some u->h'.get? b=some u)->s.heap.objs.size<=h'.objs.size->Q its {s with heap:=h'}):wpAny (model prog w) A (collect (.ref t)) Q E s:=by
 have h1:(s.heap.push (fi "list" #[] 0)).get? t=some o:=af _ ho;have h2:(s.heap.push (fi "list" #[] 0)).get? s.heap.objs.size=some (fi "list" #[] 0):=a8 _ rfl;have fit:((#[]:Array Value)++its.toArray).size<=bc+1:=by exact wq (by simpa using hz9z)
 apply ac;apply wpAny_runValue;refine lj entry_proto_collect' ?_;apply ac;refine lg (am ⟨Code.quiet_builtin _ (by decide+kernel),lj entry_list_iadd' ?_⟩);show wpAny (model prog w) _ (oa (.ref s.heap.objs.size) (.ref t) (.ref s.heap.objs.size)) _ E ⟨s.heap.push (fi "list" #[] 0),s.gens,s.drawn,s.toks,s.os⟩;unfold oa;apply ac;refine n9 ⟨o,h1,hc⟩ ?_;have tt:(Value.type "tuple"==Value.type "tuple")=true:=by rfl
 rw[tt,Bool.or_true,xu rfl];apply ac;refine qt h1 hd ?_;apply ac;refine qt h2 rfl ?_;apply ac;refine nl h2 rfl ?_ (bw _) fit;apply am;have hq:=h ((s.heap.push (fi "list" #[] 0)).update s.heap.objs.size (Obj.mapSeq (·++its.toArray))) (λb u e=>yF (cw (bn e)) (af _ e)) (by rw[Heap.size_update,mz];exact Nat.le_succ _);have h3:=lm h2 (·++its.toArray);apply ac;refine uz h3 ?_;show wpAny (model prog w) A (pure ((#[]:Array Value)++its.toArray).toList) Q E _;have el:((#[]:Array Value)++its.toArray).toList=its:=by simp
 rw[el];exact am hq
section
variable {X:Cx}
theorem VE (hu:X.A.units+64<cLine):CallR X (.builtin "sorted") (rAgg X.K "sorted"):=by
 intro pins s U H xs us Q I r h;obtain⟨B,x,dx,l,ys,d,hx,rx,e,e2,q⟩:=h;cases l with
 |true=>exact zd2 hu I r hx rx e e2 q
 |false=>
  subst hx;obtain⟨a,vs,rfl,yC,rs⟩:=wG rx e;have e3:(if((false||imms ys)&&FC ys&&decide (ys.length<64))=true then Res.ok (PyData.list (z1w ys))else .no)=.ok d:=e2;cases hc:(false||imms ys)&&FC ys&&decide (ys.length<64)with
  |false=>rw[hc]at e3;cases e3
  |true=>
   rw[hc]at e3;cases e3;obtain⟨hc,mO⟩:=av.mp hc;obtain⟨mJ,hok⟩:=av.mp hc;have mO:=x5 mO;obtain⟨u,rfl,ru⟩:=vals1 r;cases ru;obtain⟨its,rv,⟨o,n,ho,fI,wH,AR⟩,hz⟩:=I.nV yC;have Vo:its.length=ys.length:=by rw[<-rv.length,rs.length]
   have sz:its.length<=bc:=by rw[<-rv.length];exact hz
   apply ku wz wj wm (wp _);apply ac;apply am;refine ac (z81 ho fI AR sz λh' hk hz9z=>?_);have I1:Inv X pins U H {s with heap:=h'}:=I.kept hk;refine ac (lg ?_ sz);have pY:=I1.hok.fresh (ag _);have dC:(h'.push (fi "list" its.toArray 0)).get? h'.objs.size=some (fi "list" its.toArray 0):=a8 _ rfl;have I3:Inv X pins U (upd H h'.objs.size (.lst vs)) {s with heap:=h'.push (fi "list" its.toArray 0)}:=I1.laid (λ_ _ z=>af _ z) (ag _) ⟨hz,its,0,rv,dC⟩;have rp:Reps X.K (upd H h'.objs.size (.lst vs)) (λ_=>False) vs ys:=(Reps.bB ys mJ rs).same (Same.upd pY) λ_ z=>z
   have fin:∀s' eB,Inv X pins U (upd (upd H h'.objs.size (.lst vs)) h'.objs.size (.lst eB)) s'->Reps X.K (upd H h'.objs.size (.lst vs)) (λ_=>False) eB (z1w ys)->EP X pins U Q (.ref h'.objs.size) s':=λs' eB I4 r4=>by
    refine⟨.ref h'.objs.size,_,I4,rfl,q _ _ (λb u z=>?_) ⟨_,eB,rfl,.inl ⟨aW,.inl pY⟩,?_⟩⟩
    ·have hb:=cQ z pY;rw[aC hb,aC hb];exact z
    ·refine Reps.keep (λb u z f=>?_) (λ_ z=>z.elim) _ r4;rcases f with f|f
     ·exact f.elim
     ·have hb:b≠h'.objs.size:=λz'=>by subst z';rw[aW]at z;cases z;exact f
      rw[aC hb];exact z
   obtain⟨m,oW,_⟩:=id I3.loc;have G3:X.env.locals≠h'.objs.size:=λz=>by have:=I1.lt;rw[z]at this;exact cq _ this
   by_cases h2:ys.length<2
   ·have es:z1w ys=ys:=by
     match ys,h2 with
     | [],_=>rfl
     | [y],_=>rfl
     |_::_::_,h2=>simp at h2;omega
    refine ac (dj (z49 dC (by omega) λdB n' kp rS=>am ⟨_,rfl,fin _ vs (I3.writeF aW oW (oW.at λo e=>kp _ o G3 e) (λb u _ hb e=>kp b u hb e) ⟨hz,its,n',rv,rS⟩) (by rw[es];exact rp)⟩))
   ·have fD:2<=ys.length:=qf h2;have G4:∀dB:Heap,(∀b o,b≠X.env.locals->b≠h'.objs.size->(h'.push (fi "list" its.toArray 0)).get? b=some o->dB.get? b=some o)->∀b o,(h'.push (fi "list" its.toArray 0)).get? b=some o->o.cls=.type "tuple"->b≠X.env.locals->dB.get? b=some o:=λdB kp b o e fI hL=>kp b o hL (λz=>by subst z;rw[dC]at e;cases e;exact absurd fI (by simp)) e;replace hok:=(gy _ _).mp hok;rcases hok with hok|hok
    case inr=>cases hok
    unfold pS at hok;simp only[gy,bj]at hok;rcases hok with(hs|hs)|hs
    ·exact ac (dj (z1f rO I3 aW dC rv rp fD mO hs (λdB kp=>z55 true hs rp rv fD dB) λs' eB I4 r4=>am ⟨_,rfl,fin s' eB I4 r4⟩))
    ·exact ac (dj (z1f rP I3 aW dC rv rp fD mO hs (λdB kp=>z55 false hs rp rv fD dB) λs' eB I4 r4=>am ⟨_,rfl,fin s' eB I4 r4⟩))
    ·split at hs
     case h_2=>cases hs
     rename_i y0 _ _ _;simp only[bq,bj,j0]at hs;obtain⟨eA,hs⟩:=hs;cases y0 with
     |nil=>cases eA
     |cons y1 yr=>exact ac (dj (z1f (wJ _) I3 aW dC rv rp fD mO hs (λdB kp=>zcq I3 _ _ hs rp rv fD (G4 dB kp)) λs' eB I4 r4=>am ⟨_,rfl,fin s' eB I4 r4⟩))
end
section
variable {X:Cx}{tg a b c e:Expr}{es:List Expr}{fa fb:Rho->Res GD}{pos:Pos}
theorem zvm (hc:CallR X (.type T) (ze6 X.K m))(hm:X.mg x=none)(hv:df x=some (.type T))(ha:PA X (e::es) (tDA X.K fs))(hst:((e::es).all fun e=>!isStar e)=true)(hg:Gl X x)(hn:x≠"__name__")(hdb:aac x):
  PE X (.Call (.Name x p) (e::es) [] pos) (tD X.K λY=>fs Y>>=λys=>m (ys.map (·.2))>>=λd=>.ok (gJ d .al,d)):=by
 refine PE.imp (CW hc hm hv ha hst hg hn hdb) λU H Q hq=>?_;obtain⟨Y,F,z,so,e0,q⟩:=hq;obtain⟨ys,e1,e0⟩:=Res.aA e0;obtain⟨d,e2,e0⟩:=Res.aA e0;cases e0;exact⟨Y,F,ys,so,e1,λvs H1 s1 rs=>⟨_,_,d,rs.lA so.aJ,e2,λw H2 s2 bE=>q w H2 (s1.trans s2) (tP bE λa h=>h.elim (λz=>(nw.back s1 z).aJ so.aJ) λz=>z)⟩⟩
theorem VF:CallR X (.type "int") (ze6 X.K (nH "int")):=by
 refine CallR.imp (CallR.or RL UN) λxs H Q h=>?_;obtain⟨B,ds,d,r,e0,q⟩:=h;simp only[nH,show("int":String)≠"len" by decide,show("int":String)≠"max" by decide,if_true,if_false]at e0;split at e0
 ·rename_i i;cases e0;obtain⟨v,rfl,h1⟩:=AL r;obtain rfl:v=.int i:=h1;exact .inl (.inl ⟨i,rfl,q _ H (Same.refl H) rfl⟩)
 ·rename_i k;cases e0;obtain⟨v,rfl,h1⟩:=AL r;obtain rfl:v=.bl k:=h1;exact .inl (.inr ⟨k,rfl,q _ H (Same.refl H) rfl⟩)
 ·rename_i x;unfold As at e0;split at e0
  ·rename_i hc;cases e0;rw[av]at hc;obtain⟨v,rfl,h1⟩:=AL r;obtain rfl:v=.str x:=h1.1;exact .inr ⟨x,rfl,hc.1,x5 hc.2,q _ H (Same.refl H) rfl⟩
  ·cases e0
 ·cases e0
end
abbrev ZRec (TI TO:Addr)(f0:Value)(f1:Bool):Obj:={cls:=.type "zip",dict:=none,data:=.fields #[f0,.bool f1,.bool false,.ref TI,.ref TO],slots:=#[]}
def ZF (f0:Value):Prop:=f0=Value.none\/∃T:Nat,f0=j6 T
section
variable {prog:cu}{w:World}{A:i6}{E:Value->aw->Prop}{s:aw}{z TI TO:Addr}{f0:Value}{f1:Bool}
theorem VG (h:Q (s.heap.get? a) s):wpAny (model prog w) A (loadIfAlive a) Q E s:=λ_ _ _=>h
theorem MP (hf:ZF f0)(hz:s.heap.get? z=some (ZRec TI TO f0 f1))(hQ:∀b h' jJ,h'.get? z=some (ZRec TI TO f0 jJ)->cy z s.heap h'->Q b {s with heap:=h'}):wpAny (model prog w) A (lh (.ref z)) Q E s:=by
 delta lh
 apply ac;refine fj hz rfl rfl ?_;rcases hf with rfl|⟨T,rfl⟩
 ·exact am (hQ true s.heap f1 hz (Heap.SameBut.refl ..))
 ·show wpAny _ _ (loadIfAlive ((T:Int).toNat)>>=_) _ _ _;apply ac;refine VG ?_;cases s.heap.get? ((T:Int).toNat)with
  |none=>exact am (hQ true s.heap f1 hz (Heap.SameBut.refl ..))
  |some o=>
   apply ac;refine fj hz rfl rfl ?_;cases f1 with
   |true=>exact am (hQ false s.heap true hz (Heap.SameBut.refl ..))
   |false=>apply ac;exact gn hz (by simp) λh' yB sb=>am (hQ false h' true yB sb)
structure ZApart (z TI TO i1 i2:Addr)(p1 p2:List Addr):Prop where
 TIz:TI≠z
 TOz:TO≠z
 i1z:i1≠z
 i2z:i2≠z
 TITO:TI≠TO
 TIi1:TI≠i1
 TIi2:TI≠i2
 TOi1:TO≠i1
 TOi2:TO≠i2
 i12:i1≠i2
 A9:z∉p1
 MQ:TO∉p1
 MR:i2∉p1
 A':z∉p2
 G5:TO∉p2
 Dj:i1∉p2
variable {i1 i2:Addr}{p1 p2:List Addr}{n1 n2 i:Nat}{P1 P2:Nat->Value->Prop}{S1 S2:Nat->Heap->Prop}{a b:Value}
abbrev PairAt (h:Heap)(T:Addr)(a b:Value):Prop:=h.get? T=some {cls:=.type "tuple",data:=.seq #[a,b]}
def Zk (z TO i1 i2:Addr)(h h':Heap):Prop:=∀c o,c≠z->c≠TO->c≠i1->c≠i2->h.get? c=some o->h'.get? c=some o
theorem G6 (hT:PairAt s.heap T a b)(h:∀h',h'.get? T=some {cls:=.type "tuple",data:=.seq ((#[a,b]:Array Value).setIfInBounds k x)}->cy T s.heap h'->Q () {s with heap:=h'}):wpAny (model prog w) A (updateSeq T (·.setIfInBounds k x)) Q E s:=by exact wpAny_updateSeq hT rfl (h _ (by rw[jb _ hT rfl];simp[Obj.mapSeq]) (ua ..))
theorem zfm {Q:Value->aw->Prop}(D:ZApart z TI TO i1 i2 p1 p2)(D1:Draws prog w A i1 p1 n1 P1 S1)(D2:Draws prog w A i2 p2 n2 P2 S2)(hf:ZF f0)(hz:s.heap.get? z=some (ZRec TI TO f0 f1))(hTI:PairAt s.heap TI (.ref i1) (.ref i2))(hTO:PairAt s.heap TO a b)(h1:S1 i s.heap)(h2:S2 i s.heap)(l1:i<n1)(l2:i<n2)
  (hQ:∀x y h' tk oY jJ a' b',P1 i x->P2 i y->ZF oY->h'.get? z=some (ZRec TI TO oY jJ)->PairAt h' TO a' b'->S1 (i+1) h'->S2 (i+1) h'->PairAt h' s.heap.objs.size x y->Zk z TO i1 i2 s.heap h'->Q (.ref s.heap.objs.size) {s with heap:=h',toks:=tk}):
  wpAny (model prog w) A (Builtin.«zip.__next__» {pos:=[.ref z],kw:=[]}) (λfin s'=>∃v,fin=.done (.ret v)/\Q v s') E s:=by
 show wpAny (model prog w) A (field (.ref z) 2>>=_) _ E s;apply ac;refine fj hz rfl rfl ?_;apply ac;refine fj hz rfl rfl ?_;apply ac;refine g9 hTI rfl ?_;apply ac;refine MP hf hz λbf h₀ jJ gK lC=>?_;have k0:=λc o hc e=>lC.extBut c o hc e;have e1:=D1.frame _ _ _ h1 λb hb o e=>k0 b o (λq=>D.A9 (q▸hb)) e;have e2:=D2.frame _ _ _ h2 λb hb o e=>k0 b o (λq=>D.A' (q▸hb)) e;have t0:=k0 _ _ D.TOz hTO;have MS:=lC.1;cases bf with
 |true=>
  apply ac;refine ls ?_;apply ac;refine fj gK rfl rfl ?_;apply ac;refine gn gK (by simp) λha za ka=>?_;replace za:ha.get? z=some (ZRec TI TO .ellipsis jJ):=za;have Dk:=D1.frame _ _ _ e1 λb hb o e=>ka.extBut b o (λq=>D.A9 (q▸hb)) e;have G7:=D2.frame _ _ _ e2 λb hb o e=>ka.extBut b o (λq=>D.A' (q▸hb)) e;have ta:=ka.extBut _ _ D.TOz t0;apply ac;apply ac;apply ac;apply p8;apply ac;refine D1.item i _ _ _ l1 Dk λx hb tk Ba Bb kb=>am ?_;replace kb:cy i1 ha hb:=kb;have tb:=kb.extBut _ _ D.TOi1 ta;have zb:=kb.extBut _ _ D.i1z.symm za;have wN:=D2.frame _ _ _ G7 λb dE o e=>kb.extBut b o (λq=>D.Dj (q▸dE)) e;apply ac;refine g9 tb rfl ?_;apply ac;refine G6 tb λhc tc kc=>?_;replace tc:PairAt hc TO x b:=tc;replace kc:cy TO hb hc:=kc;apply ac;refine w5 (am ?_);have zc:=kc.extBut _ _ D.TOz.symm zb;have VH:=D1.frame _ _ _ Bb λb dE o e=>kc.extBut b o (λq=>D.MQ (q▸dE)) e;have G8:=D2.frame _ _ _ wN λb dE o e=>kc.extBut b o (λq=>D.G5 (q▸dE)) e;apply ac;apply ac;apply p8;apply ac;refine D2.item i _ _ _ l2 G8 λy hd De G9 G' kd=>am ?_;replace kd:cy i2 hc hd:=kd;have td:=kd.extBut _ _ D.TOi2 tc;have zd:=kd.extBut _ _ D.i2z.symm zc;have Hc:=D1.frame _ _ _ VH λb dE o e=>kd.extBut b o (λq=>D.MR (q▸dE)) e;apply ac;refine g9 td rfl ?_;apply ac;refine G6 td λhe te ke=>?_;replace te:PairAt he TO x y:=te;replace ke:cy TO hd he:=ke;apply ac;refine w5 (am (am ?_));apply ac;refine g9 te rfl ?_;apply ac;refine oq ?_;have sz:he.objs.size=s.heap.objs.size:=by rw[ke.1,kd.1,kc.1,kb.1,ka.1,MS]
  have ze:=ke.extBut _ _ D.TOz.symm zd;have MT:=bn ze;have VI:=D1.frame _ _ _ Hc λb dE o e=>ke.extBut b o (λq=>D.MQ (q▸dE)) e;have VJ:=D2.frame _ _ _ G' λb dE o e=>ke.extBut b o (λq=>D.G5 (q▸dE)) e;apply ac
  delta Builtin.SmallTypes.ownedTupleHandOut
  have zf:(he.push {cls:=.type "tuple",data:=.seq #[x,y]}).get? z=some (ZRec TI TO .ellipsis jJ):=af _ ze;apply ac;refine gn zf (by simp) λhg zg kg=>?_;replace zg:hg.get? z=some (ZRec TI TO (j6 he.objs.size) jJ):=zg;refine gn zg (by simp) λhh zh kh=>?_;replace zh:hh.get? z=some (ZRec TI TO (j6 he.objs.size) false):=zh;have up:∀c o,c≠z->he.get? c=some o->hh.get? c=some o:=λc o hc e=>kh.extBut _ _ hc (kg.extBut _ _ hc (af _ e));have new:=kh.extBut _ _ (qk MT) (kg.extBut _ _ (qk MT) (a8 _ rfl));refine am ⟨.ref he.objs.size,rfl,?_⟩;rw[sz]at new ⊢;refine hQ x y hh De _ _ x y Ba G9 (.inr ⟨_,rfl⟩) zh (up _ _ D.TOz te) (D1.frame _ _ _ VI λb dE o e=>up b o (λq=>D.A9 (q▸dE)) e) (D2.frame _ _ _ VJ λb dE o e=>up b o (λq=>D.A' (q▸dE)) e) new λc o c1 c2 c3 c4 e=>?_;exact up c o c1 (ke.extBut _ _ c2 (kd.extBut _ _ c4 (kc.extBut _ _ c2 (kb.extBut _ _ c3 (ka.extBut _ _ c1 (k0 c o c1 e))))))
 |false=>
  apply ac;apply ac;apply ac;apply dj;apply ac;refine D1.item i _ _ _ l1 e1 λx hb tk Ba Bb kb=>am (am ?_);replace kb:cy i1 h₀ hb:=kb;have wN:=D2.frame _ _ _ e2 λb dE o e=>kb.extBut b o (λq=>D.Dj (q▸dE)) e;apply ac;apply ac;apply dj;apply ac;refine D2.item i _ _ _ l2 wN λy hd De G9 G' kd=>am (am (am ?_));replace kd:cy i2 hb hd:=kd;have Hc:=D1.frame _ _ _ Bb λb dE o e=>kd.extBut b o (λq=>D.MR (q▸dE)) e;have sz:hd.objs.size=s.heap.objs.size:=by rw[kd.1,kb.1,MS]
  apply ac;refine oq (am ⟨_,rfl,?_⟩) (by show 2<=bc;decide);have up:∀c o,hd.get? c=some o->(hd.push {cls:=.type "tuple",data:=.seq #[x,y]}).get? c=some o:=λc o e=>af _ e;have zd:=kd.extBut _ _ D.i2z.symm (kb.extBut _ _ D.i1z.symm gK);have td:=kd.extBut _ _ D.TOi2 (kb.extBut _ _ D.TOi1 t0);have new:PairAt (hd.push {cls:=.type "tuple",data:=.seq #[x,y]}) hd.objs.size x y:=a8 _ rfl;rw[sz]at new ⊢;refine hQ x y _ De f0 jJ a b Ba G9 hf (up _ _ zd) (up _ _ td) (D1.frame _ _ _ Hc λb dE o e=>up b o e) (D2.frame _ _ _ G' λb dE o e=>up b o e) new λc o c1 c2 c3 c4 e=>?_;exact up c o (kd.extBut _ _ c4 (kb.extBut _ _ c3 (k0 c o c1 e)))
theorem zl0 (D:ZApart z TI TO i1 i2 p1 p2)(D1:Draws prog w A i1 p1 n1 P1 S1)(D2:Draws prog w A i2 p2 n2 P2 S2)(hf:ZF f0)(hz:s.heap.get? z=some (ZRec TI TO f0 f1))(hTI:PairAt s.heap TI (.ref i1) (.ref i2))(hTO:PairAt s.heap TO a b)(h1:S1 i s.heap)(h2:S2 i s.heap)(hl:i=min n1 n2)
  (hE:∀h' tk e,Zk z TO i1 i2 s.heap h'->(∃o,h'.get? e=some o/\o.cls=.type "StopIteration")->E (.ref e) {s with heap:=h',toks:=tk}):
  wpAny (model prog w) A (Builtin.«zip.__next__» {pos:=[.ref z],kw:=[]}) Q E s:=by
 show wpAny (model prog w) A (field (.ref z) 2>>=_) _ E s;apply ac;refine fj hz rfl rfl ?_;apply ac;refine fj hz rfl rfl ?_;apply ac;refine g9 hTI rfl ?_;apply ac;refine MP hf hz λbf h₀ jJ gK lC=>?_;have k0:=λc o hc e=>lC.extBut c o hc e;have e1:=D1.frame _ _ _ h1 λb hb o e=>k0 b o (λq=>D.A9 (q▸hb)) e;have e2:=D2.frame _ _ _ h2 λb hb o e=>k0 b o (λq=>D.A' (q▸hb)) e;have t0:=k0 _ _ D.TOz hTO;cases bf with
 |true=>
  apply ac;refine ls ?_;apply ac;refine fj gK rfl rfl ?_;apply ac;refine gn gK (by simp) λha za ka=>?_;replace za:ha.get? z=some (ZRec TI TO .ellipsis jJ):=za;have Dk:=D1.frame _ _ _ e1 λb hb o e=>ka.extBut b o (λq=>D.A9 (q▸hb)) e;have G7:=D2.frame _ _ _ e2 λb hb o e=>ka.extBut b o (λq=>D.A' (q▸hb)) e;have ta:=ka.extBut _ _ D.TOz t0;apply ac;apply ac;apply ac;apply p8;apply ac;by_cases hi:i<n1
  ·refine D1.item i _ _ _ hi Dk λx hb tk Ba Bb kb=>am ?_;replace kb:cy i1 ha hb:=kb;have tb:=kb.extBut _ _ D.TOi1 ta;have zb:=kb.extBut _ _ D.i1z.symm za;have wN:=D2.frame _ _ _ G7 λb dE o e=>kb.extBut b o (λq=>D.Dj (q▸dE)) e;apply ac;refine g9 tb rfl ?_;apply ac;refine G6 tb λhc tc kc=>?_;replace kc:cy TO hb hc:=kc;apply ac;refine w5 (am ?_);have zc:=kc.extBut _ _ D.TOz.symm zb;have G8:S2 n2 hc:=by rw[show n2=i by omega];exact D2.frame _ _ _ wN λb dE o e=>kc.extBut b o (λq=>D.G5 (q▸dE)) e
   apply ac;apply ac;apply p8;apply ac;refine D2.done _ _ _ G8 λhd e kd he=>?_;obtain⟨oe,wO,Bc⟩:=he;have zd:=kd _ _ D.i2z.symm zc;have Hd:e≠z:=λq=>by subst q;rw[zd]at wO;cases wO;simp at Bc
   refine gn zd (by simp) λHe _ ke=>hE He tk e (λc o c1 c2 c3 c4 q=>?_) ⟨oe,ke.extBut _ _ Hd wO,Bc⟩;exact ke.extBut _ _ c1 (kd _ _ c4 (kc.extBut _ _ c2 (kb.extBut _ _ c3 (ka.extBut _ _ c1 (k0 c o c1 q)))))
  ·have Hf:S1 n1 ha:=by rw[show n1=i by omega];exact Dk
   refine D1.done _ _ _ Hf λhd e kd he=>?_;obtain⟨oe,wO,Bc⟩:=he;have zd:=kd _ _ D.i1z.symm za;have Hd:e≠z:=λq=>by subst q;rw[zd]at wO;cases wO;simp at Bc
   refine gn zd (by simp) λHe _ ke=>hE He s.toks e (λc o c1 c2 c3 c4 q=>?_) ⟨oe,ke.extBut _ _ Hd wO,Bc⟩;exact ke.extBut _ _ c1 (kd _ _ c3 (ka.extBut _ _ c1 (k0 c o c1 q)))
 |false=>
  apply ac;apply ac;apply ac;apply dj;apply ac;by_cases hi:i<n1
  ·refine D1.item i _ _ _ hi e1 λx hb tk Ba Bb kb=>am (am ?_);replace kb:cy i1 h₀ hb:=kb;have wN:S2 n2 hb:=by rw[show n2=i by omega];exact D2.frame _ _ _ e2 λb dE o e=>kb.extBut b o (λq=>D.Dj (q▸dE)) e
   apply ac;apply ac;apply dj;apply ac;exact D2.done _ _ _ wN λhd e kd he=>hE hd tk e (λc o c1 c2 c3 c4 q=>kd _ _ c4 (kb.extBut _ _ c3 (k0 c o c1 q))) he
  ·have Hf:S1 n1 h₀:=by rw[show n1=i by omega];exact e1
   exact D1.done _ _ _ Hf λhd e kd he=>hE hd s.toks e (λc o c1 c2 c3 c4 q=>kd _ _ c3 (k0 c o c1 q)) he
end
section
variable {prog:cu}{w:World}{A:i6}{E:Value->aw->Prop}{s:aw}
theorem zau (hit:s.heap.IsTupleIter it t i)(ht:s.heap.IsTuple t items)(hx:items[i]?=some x)
  (hQ:∀h',h'.IsTupleIter it t (i+1)->cy it s.heap h'->Q x {s with heap:=h'}):wpAny (model prog w) A (oy (.ref it)) Q E s:=by
 have ty:=hit.typeIs;obtain⟨⟨Hg,Be,Bf,wQ⟩,ho,hc,hd⟩:=hit;obtain⟨⟨Hi,Bg,Bh,wR⟩,to,tc,n,td⟩:=ht;cases hc;cases hd;cases tc;cases td;apply ac;refine im ty F.slot_tuple_iterator_next (g7 F.slot_tuple_iterator_next ty F.entry_tuple_iterator_next ?_ (F.args_tuple_iterator_next_1 _));show wpAny _ _ (field (.ref it) 0>>=_) _ _ _;apply ac;refine fj ho rfl rfl ?_;apply ac;refine fj ho rfl rfl ?_;apply ac;refine g9 to rfl ?_
 dsimp only
 rw[j4 i,hx];apply ac;refine mf ho rfl (by simp) (am ⟨x,rfl,am (hQ _ ⟨_,jb _ ho rfl,rfl,?_⟩ (ua _ _ _))⟩);rfl
theorem z61 (hh:A.handled=none)(hit:s.heap.IsTupleIter it t i)(ht:s.heap.IsTuple t items)(hx:items[i]?=none)
  (hE:∀h' e,Heap.ExtBut it s.heap h'->(∃o,h'.get? e=some o/\o.cls=.type "StopIteration")->E (.ref e) {s with heap:=h'}):wpAny (model prog w) A (oy (.ref it)) Q E s:=by
 have ty:=hit.typeIs;obtain⟨⟨Hg,Be,Bf,wQ⟩,ho,hc,hd⟩:=hit;obtain⟨⟨Hi,Bg,Bh,wR⟩,to,tc,n,td⟩:=ht;cases hc;cases hd;cases tc;cases td;apply ac;refine im ty F.slot_tuple_iterator_next (g7 F.slot_tuple_iterator_next ty F.entry_tuple_iterator_next ?_ (F.args_tuple_iterator_next_1 _));show wpAny _ _ (field (.ref it) 0>>=_) _ _ _;apply ac;refine fj ho rfl rfl ?_;apply ac;refine fj ho rfl rfl ?_;apply ac;refine g9 to rfl ?_
 dsimp only
 rw[j4 i,hx];apply ac;refine ls ?_;apply ac;refine mf ho rfl (by simp) ?_
 delta Builtin.SmallTypes.stopIteration
 repeat (any_goals (first|assumption|wp_step))
 refine wpAny_raiseNew_none hh (hE _ _ (λb o hb e=>?_) ⟨_,a8 _ rfl,rfl⟩);refine af _ (af _ ?_);rw[t9 _ _ _ _ hb];exact e
theorem VL (hh:A.handled=none)(it t:Addr)(eA:t≠it)(items:Array Value):Draws prog w A it [it,t] items.size (λi v=>items[i]?=some v) (λi h=>h.IsTupleIter it t i/\h.IsTuple t items) where
 live:=λi h st=>let⟨⟨o,ho,_⟩,_⟩:=st;⟨o,ho⟩
 frame:=λi h h' st k=>by obtain⟨⟨o,ho,r⟩,o2,ho2,r2⟩:=st;exact⟨⟨o,k it (by simp) o ho,r⟩,o2,k t (by simp) o2 ho2,r2⟩
 item:=λi s1 Q1 E1 hi st hQ=>by refine zau st.1 st.2 (oz hi) λh' h1 sb=>?_;obtain⟨o2,ho2,r2⟩:=st.2;exact hQ _ h' s1.toks (oz hi) ⟨h1,o2,sb.extBut t o2 eA ho2,r2⟩ sb
 done:=λs Q E st hE=>z61 hh st.1 st.2 (Array.getElem?_eq_none (ag _)) hE
end
def IsB (h:Heap)(l:Bool)(a:Addr)(xs:Array Value):Prop:=match l with
 |true=>h.IsList a xs
 |false=>h.IsTuple a xs
def lD (h:Heap)(l:Bool)(it a:Addr)(i:Nat):Prop:=match l with
 |true=>h.IsListIter it a i
 |false=>h.IsTupleIter it a i
def iH (K:W.Frag)(H:Hp)(l:Bool)(a:Addr)(vs:List V):Prop:=match l with
 |true=>SqL K H a vs
 |false=>bL K H a vs
def pZ (K:W.Frag)(H:Hp)(B:Ad->Prop)(l:Bool)(a:Addr)(vs:List V):Prop:=match l with
 |true=>(H a=some (.lst vs)/\B (some a))\/(FL K H a vs/\B none)
 |false=>bL K H a vs
abbrev cY (l:Bool)(a:Addr):Obj:={cls:=.type (if l then "list_iterator"else "tuple_iterator"),data:=.fields #[.ref a,.int 0 0]}
theorem pZ.keep {K:W.Frag}(h:pZ K H B l a vs)(k:Kp B H H2):iH K H2 l a vs:=by
 cases l with
 |true=>
  rcases h with⟨h,b⟩|⟨⟨o,h⟩|h,_⟩
  ·exact .inl (.inl (k a _ h (.inl b)))
  ·exact .inl (.inr ⟨o,k a _ h (.inr True.intro)⟩)
  ·exact .inr h
 |false=>exact bL.keep k h
theorem pZ.of {K:W.Frag}(r:Rep K H B v d)(e:seqR d=.ok xs):∃l a vs,v=.ref a/\pZ K H B l a vs/\Reps K H B vs xs/\xs.length<=bJ:=by
 cases d<;>try (exact(gE e).elim)
 case list ds=>
  have e:(if decide (ds.length<=bJ)=true then Res.ok ds else Res.no)=Res.ok xs:=e;split at e
  ·rename_i hc;cases e;obtain⟨a,vs,rfl,h,rs⟩:=r;exact⟨true,a,vs,rfl,h,rs,x5 hc⟩
  ·cases e
 case tuple ds=>
  have e:(if decide (ds.length<=bJ)=true then Res.ok ds else Res.no)=Res.ok xs:=e;split at e
  ·rename_i hc;cases e;obtain⟨a,vs,rfl,h,rs⟩:=r;exact⟨false,a,vs,rfl,h,rs,x5 hc⟩
  ·cases e
section
variable {X:Cx}{pins:List (Addr×Obj)}{U:L2.St}{H:Hp}{s:aw}
theorem iH.items (I:Inv X pins U H s)(h:iH X.K H l a vs):∃its,Vals vs its/\IsB s.heap l a its.toArray/\vs.length=its.length:=by
 cases l with
 |true=>obtain⟨its,rv,p,_⟩:=I.list h;exact⟨its,rv,p.isList,rv.length⟩
 |false=>obtain⟨its,rv,p,_⟩:=I.tuple h;exact⟨its,rv,p,rv.length⟩
end
theorem yI (hh:A.handled=none)(l:Bool)(it a:Addr)(eA:a≠it)(items:Array Value):Draws prog w A it [it,a] items.size (λi v=>items[i]?=some v) (λi h=>lD h l it a i/\IsB h l a items):=by
 cases l with
 |true=>exact Draws.list hh it a eA items
 |false=>exact VL hh it a eA items
theorem lD.live (x:lD h l it a i):∃o,h.get? it=some o/\∀v,o.data≠.cell v:=by cases l<;>(obtain⟨o,ho,_,hd⟩:=x;exact⟨o,ho,λv z=>by rw[hd]at z;cases z⟩)
theorem lD.keep (x:lD h l it a i)(k:∀o,h.get? it=some o->h'.get? it=some o):lD h' l it a i:=by cases l<;>(obtain⟨o,ho,r⟩:=x;exact⟨o,k o ho,r⟩)
theorem lD.new (x:h.get? it=some (cY l a)):lD h l it a 0:=by cases l<;>exact⟨_,x,rfl,rfl⟩
theorem IsB.lt (x:IsB h l a xs):a<h.objs.size:=by cases l<;>(obtain⟨o,ho,_⟩:=x;exact bn ho)
theorem IsB.push (x:IsB h l a xs)(o:Obj):IsB (h.push o) l a xs:=by cases l<;>(obtain⟨q,hq,r⟩:=x;exact⟨q,af _ hq,r⟩)
theorem Dl (h:IsB s.heap l a xs)(hQ:Q (.ref s.heap.objs.size) {s with heap:=s.heap.push (cY l a)}):wpAny (model prog w) A (uy (.ref a)) Q E s:=by
 cases l with
 |true=>exact jz h hQ
 |false=>exact vj h hQ
section
variable {X:Cx}{pins:List (Addr×Obj)}{U:L2.St}{H:Hp}{s:aw}
theorem _root_.L2.Inv.turnedTL {fp:List Addr}(I:Inv X pins U H s)(f:∀b∈fp,FpOk X pins H b)(keep:∀b q,b∉fp->s.heap.get? b=some q->h'.get? b=some q)(hp:s.heap.objs.size<=p)
  (new:z15 X.prog X.w (upd H p (.tup xs)) h' p (.tup xs)):Inv X pins U (upd H p (.tup xs)) {s with heap:=h',toks:=t'}:=by
 have hn:=I.hok.fresh hp;have away:∀b u,H b=some u->b∉fp:=λb u e1 z=>by rw[(f b z).1]at e1;cases e1
 refine I.step (λb hb=>?_) (λb q _ _ hc e _=>keep b q hc e) (λb q _ _ hc e _=>⟨q.slots,keep b q hc e⟩) (λb q _ e n=>by rw[aC (cw (cg (bn e) hp))];exact n) (λb q hc e=>⟨q,keep b q hc e⟩) (λb xs q=>by rw[aC (cQ q hn)];exact q) (λb u xs q=>by rw[aC (cQ q hn)];exact q) (λb ps q=>⟨#[],by rw[aC (cQ q hn),q];simp⟩) (λm hm=>?_) (λb u e=>?_) I.bare
 ·obtain⟨f0,f1,f2,f3,f4,f5⟩:=f b hb;exact⟨f3,f1,f4,f5⟩
 ·exact hm.at λq e=>keep _ q (λz=>(f _ z).2.1 rfl) e
 ·by_cases hb:b=p
  ·subst hb;rw[aW]at e;cases e;exact new
  ·rw[aC hb]at e;refine(I.hok b u e).stay (λc v hc q=>keep c v ?_ q) (λc q=>by rw[aC (cQ q hn)];exact q) λc xs q=>by rw[aC (cQ q hn)];exact q
   rcases hc with rfl|hc
   ·exact away _ _ e
   ·exact away _ _ hc
theorem _root_.L2.Inv.lE {fp:List Addr}(I:Inv X pins U H s)(f:∀b∈fp,FpOk X pins H b)(keep:∀b q,b∉fp->s.heap.get? b=some q->h'.get? b=some q):Inv X pins U H {s with heap:=h',toks:=t'}:=by
 have away:∀b u,H b=some u->b∉fp:=λb u e1 z=>by rw[(f b z).1]at e1;cases e1
 refine I.step (λb hb=>?_) (λb q _ _ hc e _=>keep b q hc e) (λb q _ _ hc e _=>⟨q.slots,keep b q hc e⟩) (λb q _ e n=>n) (λb q hc e=>⟨q,keep b q hc e⟩) (λb xs q=>q) (λb u xs q=>q) (λb ps q=>⟨#[],by rw[q];simp⟩) (λm hm=>?_) (λb u e=>?_) I.bare
 ·obtain⟨f0,f1,f2,f3,f4,f5⟩:=f b hb;exact⟨f3,f1,f4,f5⟩
 ·exact hm.at λq e=>keep _ q (λz=>(f _ z).2.1 rfl) e
 ·refine(I.hok b u e).stay (λc v hc q=>keep c v ?_ q) (λc q=>q) λc xs q=>q;rcases hc with rfl|hc
  ·exact away _ _ e
  ·exact away _ _ hc
end
theorem Hj (rv:Vals vs its)(hi:i<vs.length)(hx:its.toArray[i]?=some x):∃v,vs[i]?=some v/\RelV v x:=by
 refine⟨vs[i],ak hi,?_⟩;obtain⟨u,e1,e2⟩:=rv.get (ak hi);have VM:its[i]?=some x:=by simpa using hx
 rw[VM]at e1;cases e1;exact e2
def Hk (K:W.Frag)(l:Bool)(t:Addr)(vs:List V):It:=⟨λi H=>iH K H l t vs/\i<vs.length,λi H x H'=>∃p v,vs[i]?=some v/\H p=none/\x=.ref p/\H'=upd H p (.tup [.int i,v]),λi H=>iH K H l t vs/\i=vs.length⟩
theorem zdm {K:W.Frag}(h1:t≠it)(h2:t≠e)(h3:e≠it):
  Turn P w K (.Tuple elts x1 pos) (Hk K l t vs) [e,it] e (λi h=>(∃old,IsEnum h e it i old)/\lD h l it t i) where
 mem:=by simp
 obj:=λi h st b hb=>by
  obtain⟨⟨old,he⟩,hit⟩:=st;rcases(ao.mp hb)with rfl|hb
  ·exact⟨_,he,λv z=>by cases z⟩
  ·obtain rfl:b=it:=by simpa using hb
   exact hit.live
 keep:=λi h h' st k=>by obtain⟨⟨old,he⟩,hit⟩:=st;exact⟨⟨old,k e (by simp) _ he⟩,hit.keep λo=>k it (by simp) o⟩
 item:=by
  intro X hP hw hK hc i pins s U H E I hf st hg;subst hP hw hK;obtain⟨hq,hi⟩:=hg;obtain⟨⟨old,he⟩,hit⟩:=st;obtain⟨its,rv,p,hl⟩:=iH.items I hq;have hA:X.A.in1.handled=none:=I.ok.hd hc;have D:=yI (prog:=X.prog) (w:=X.w) hA l it t h1 its.toArray;obtain⟨oi,VN,_⟩:=hit.live;refine wpAny_pyNext_enum_itemD D he ⟨hit,p⟩ (by grind) h3 (by simp[h3,Ne.symm h2]) λx h' tk hx Hl hst Hm hz9z kp=>⟨_,rfl,?_⟩;have hT:s.heap.objs.size≠e/\s.heap.objs.size≠it:=⟨λz=>cq _ (z▸bn he),λz=>cq _ (z▸bn VN)⟩;refine(WalksT.enumerateD D e h3 (by simp[h3,Ne.symm h2]) (by simp)).go elts x1 pos i s.heap.objs.size {s with heap:=h',toks:=tk+1} _ _ ⟨⟨x,Hl⟩,hst,hT.1,hT.2⟩ λdB Bi MU=>?_;have Dm:s.heap.objs.size∉ [e,it]:=by simp[hT.1,hT.2]
  obtain⟨v,hv,rx⟩:=Hj rv hi hx;have I1:=I.turnedTL (t':=tk+1) (xs:=[.int i,v]) hf (λb q hb z=>MU b q hb (kp b q (λz=>hb (by simp[z])) (λz=>hb (by simp[z])) z)) (ag _) ⟨by rw[cz];simp,[.int i tk,x],.cons ⟨tk,rfl⟩ (.cons rx .nil),0,(MU s.heap.objs.size _ Dm Hm)⟩;refine⟨.ref s.heap.objs.size,_,I1,rfl,⟨_,v,hv,I.hok.fresh (ag _),rfl,rfl⟩,⟨Bi.1,Bi.2.1⟩,λb hb=>?_⟩;rw[aC λz:b=s.heap.objs.size=>Dm (z▸hb)];exact(hf b hb).1
 done:=by intro X hP hw hK hc i pins s U H E I hf st hg;subst hP hw hK;obtain⟨hq,hi⟩:=hg;obtain⟨⟨old,he⟩,hit⟩:=st;obtain⟨its,rv,p,hl⟩:=iH.items I hq;have hA:X.A.in1.handled=none:=I.ok.hd hc;exact wpAny_pyNext_enum_endD (yI (prog:=X.prog) (w:=X.w) hA l it t h1 its.toArray) he ⟨by rw[ax,<-hl,<-hi];exact hit,p⟩ λh' eb=>⟨rfl,I.lE hf λb o hb z=>eb b o (λq=>hb (by simp[q])) z⟩
 self:=λ_ _ _ _ _ st h=>by obtain⟨⟨old,he⟩,_⟩:=st;exact wr he h
theorem MV:∀xs (k i:Nat),(z24 k xs)[i]?=(xs[i]?).map λx=>.tuple [.int ((k+i:Nat):Int),x]
 | [],k,i=>by simp[z24]
 |x::xs,k,0=>by simp[z24]
 |x::xs,k,i+1=>by
  rw[z24,lx,lx,MV xs (k+1) i];have:k+1+i=k+(i+1):=by omega
  rw[this]
theorem Dn:∀xs k,(z24 k xs).length=xs.length
 | [],_=>rfl
 |x::xs,k=>by rw[z24,bt,bt,Dn xs]
theorem VO {K:W.Frag}(hq:pZ K H B l t vs)(rs:Reps K H B vs xs)(hz:xs.length<=bc):Walk K (Hk K l t vs) B H (z24 0 xs):=by
 have hl:=rs.length;constructor
 ·rw[Dn];exact hz
 ·intro H2 kp i h;rw[Dn]at h;exact⟨hq.keep kp,by omega⟩
 ·intro H2 kp;exact⟨hq.keep kp,by rw[Dn];exact hl.symm⟩
 ·rintro H2 kp i x H3 h ⟨p,v,hv,hp,rfl,rfl⟩
  obtain⟨d,hd,rv⟩:=Reps.gZ rs hv;refine⟨Same.upd hp,.tuple [.int i,d],by rw[MV,hd];simp,p,[.int i,v],rfl,bL.of aW,?_⟩;refine Reps.cons rfl (Reps.cons ?_ rfl);exact Rep.keep (λa q e f=>by have h2:=kp a q e f;rw[aC (cQ h2 hp)];exact h2) (λ_ z=>z) d rv
theorem zal (l:Bool)(t:Addr)(items:Array Value):Meets (Builtin.«enumerate.__new__» {pos:=[.type "enumerate",.ref t]}) fun _ R s=>
  IsB s.heap l t items/\R (.ok (.ret (.ref (s.heap.push (cY l t)).objs.size))) {s with heap:=(s.heap.push (cY l t)).push {cls:=.type "enumerate",data:=.fields #[.none,.bool false,.ref s.heap.objs.size,j6 0,.none,.none]}}:=by
 rintro prog w A R s ⟨ht,hR⟩
 have sub:=sub_enumerate
 delta Builtin.«enumerate.__new__»
 repeat (any_goals (first|assumption|(apply Dl ht)|wp_step))
 refine wpAny_stack λst _ _ _=>?_;refine mw (Q:=λ_ s'=>s'=s) (am rfl) (λb s' hs=>?_) λ_ _ x=>x;subst hs;cases b
 all_goals repeat (any_goals (first|assumption|(apply Dl ht)|wp_step))
 all_goals exact hR
theorem zgd (ht:IsB s.heap l t items)
  (hQ:Q (.ref (s.heap.push (cY l t)).objs.size) {s with heap:=(s.heap.push (cY l t)).push {cls:=.type "enumerate",data:=.fields #[.none,.bool false,.ref s.heap.objs.size,j6 0,.none,.none]}}):wpAny (model prog w) A (call (.type "enumerate") [.ref t]) Q E s:=by
 refine callType_new F.called_enumerate dc (F.typeCall_enumerate_1 _) (F.newCall_enumerate_1 _) (λobj=>?_) F.entry_enumerate_new (zal l t items) ⟨ht,⟨_,a8 _ rfl,rfl⟩,hQ⟩;exact F.args_object_init_2 _ _
section
variable {X:Cx}{pins:List (Addr×Obj)}{U:L2.St}
theorem z4q (I1:Inv X pins U H1 s1)(r1:RelV y v)(rv:Rep X.K H1 B y d)(e:seqR d=.ok xs)(q:∀J,Walk X.K J B H1 (z24 0 xs)->R J H1):
  wpAny (model X.prog X.w) X.A (call (.type "enumerate") [v]) (λv' s2=>wpAny (model X.prog X.w) X.A (uy v') (uV X pins U (.Tuple elts x1 tp) R) X.xe s2) X.xe s1:=by
 obtain⟨l,t,ts,rfl,hq,VP,hz⟩:=pZ.of rv e;cases r1;obtain⟨its,gI,pt,_⟩:=iH.items I1 (hq.keep (Kp.of (Same.refl H1)));refine zgd pt ?_;generalize hR:s1.heap.push (cY l t)=hp;have MW:hp.objs.size=s1.heap.objs.size+1:=hR▸mz _ _;have I2:Inv X pins U H1 {s1 with heap:=hp}:=I1.kept λb o e=>hR▸af _ e;generalize Hn:hp.push {cls:=.type "enumerate",data:=.fields #[.none,.bool false,.ref s1.heap.objs.size,j6 0,.none,.none]}=qL;have I3:Inv X pins U H1 {s1 with heap:=qL}:=I2.kept λb o e=>Hn▸af _ e;have g1:qL.get? hp.objs.size=some {cls:=.type "enumerate",data:=.fields #[.none,.bool false,.ref s1.heap.objs.size,j6 0,.none,.none]}:=Hn▸a8 _ rfl;have g2:qL.get? s1.heap.objs.size=some (cY l t):=by rw[<-Hn];refine af _ ?_;rw[<-hR];exact a8 _ rfl
 have ht:=pt.lt;refine wr g1 (⟨hp.objs.size,[hp.objs.size,s1.heap.objs.size],_,Hk X.K l t ts,H1,rfl,I3,zdm (cw ht) (cw (n8 ht (MW▸Nat.lt_succ_self _))) (MW▸Nat.succ_ne_self _),⟨⟨.none,g1⟩,lD.new g2⟩,λb hb=>?_,q _ (VO hq VP (mI hz))⟩);rcases(ao.mp hb)with rfl|hb
 ·exact I2.gU (ag _) (I2.hok.fresh (ag _))
 ·obtain rfl:b=s1.heap.objs.size:=by simpa using hb
  exact I1.gU (ag _) (I1.hok.fresh (ag _))
end
def MX (K:W.Frag)(l1:Bool)(a1:Addr)(vs:List V)(l2:Bool)(a2:Addr)(ws:List V):It:=⟨λi H=>iH K H l1 a1 vs/\iH K H l2 a2 ws/\i<min vs.length ws.length,λi H x H'=>∃p v w,vs[i]?=some v/\ws[i]?=some w/\H p=none/\x=.ref p/\H'=upd H p (.tup [v,w]),λi H=>iH K H l1 a1 vs/\iH K H l2 a2 ws/\i=min vs.length ws.length⟩
def MY (z TI TO i1 i2:Addr)(l1:Bool)(a1:Addr)(l2:Bool)(a2:Addr)(i:Nat)(h:Heap):Prop:=(∃f0 f1,ZF f0/\h.get? z=some (ZRec TI TO f0 f1))/\PairAt h TI (.ref i1) (.ref i2)/\(∃a b,PairAt h TO a b)/\lD h l1 i1 a1 i/\lD h l2 i2 a2 i
theorem zqy {TI TO:Addr}(ht:(isTup tg||isNm tg)=true)(hf:ZF f0)(hz:s.heap.get? z=some (ZRec TI TO f0 f1))
  (hQ:∀h' oY,ZF oY->h'.get? z=some (ZRec TI TO oY f1)->cy z s.heap h'->Q () {s with heap:=h'}):wpAny (model prog w) A (jg tg (.ref z) (.ref T)) Q E s:=by
 cases tg<;>first|(cases ht;done)|exact am (hQ s.heap f0 hf hz (Heap.SameBut.refl ..))|skip
 delta jg
 apply ac;refine uz hz ?_;show wpAny _ _ (if(_&&(f0::_:List Value).toArray[0]?==some (j6 T))=true then _ else _) Q E s;by_cases hc:(some f0==some (j6 T))=true
 ·rw[xu (by simpa using hc)];apply ac;refine ls ?_;exact gn hz (by simp) λh' yB sb=>hQ h' .none (.inl rfl) yB sb
 ·rw[xw (by simpa using hc)];exact am (hQ s.heap f0 hf hz (Heap.SameBut.refl ..))
theorem zgi {TI TO:Addr}(D:ZApart z TI TO i1 i2 p1 p2)(D1:Draws prog w A.in1 i1 p1 n1 P1 S1)(D2:Draws prog w A.in1 i2 p2 n2 P2 S2)(hf:ZF f0)(hz:s.heap.get? z=some (ZRec TI TO f0 f1))(hTI:PairAt s.heap TI (.ref i1) (.ref i2))(hTO:PairAt s.heap TO a b)(h1:S1 i s.heap)(h2:S2 i s.heap)(l1:i<n1)(l2:i<n2)
  (hQ:∀x y h' tk oY jJ a' b',P1 i x->P2 i y->ZF oY->h'.get? z=some (ZRec TI TO oY jJ)->PairAt h' TO a' b'->S1 (i+1) h'->S2 (i+1) h'->PairAt h' s.heap.objs.size x y->Zk z TO i1 i2 s.heap h'->Q (some (.ref s.heap.objs.size)) {s with heap:=h',toks:=tk}):wpAny (model prog w) A (wv (.ref z)) Q E s:=by
 have ty:s.TypeIs (.ref z) "zip":=⟨_,hz,rfl⟩
 delta wv
 apply ac;apply wpAny_attempt;refine im ty F.slot_zip_next (g7 F.slot_zip_next ty F.entry_zip_next ?_ (F.args_zip_next_1 _));exact zfm D D1 D2 hf hz hTI hTO h1 h2 l1 l2 λx y h' tk oY jJ a' b' c1 c2 c3 c4 c5 c6 c7 c8 c9=>am (hQ x y h' tk oY jJ a' b' c1 c2 c3 c4 c5 c6 c7 c8 c9)
theorem zf9 {TI TO:Addr}(D:ZApart z TI TO i1 i2 p1 p2)(D1:Draws prog w A.in1 i1 p1 n1 P1 S1)(D2:Draws prog w A.in1 i2 p2 n2 P2 S2)(hf:ZF f0)(hz:s.heap.get? z=some (ZRec TI TO f0 f1))(hTI:PairAt s.heap TI (.ref i1) (.ref i2))(hTO:PairAt s.heap TO a b)(h1:S1 i s.heap)(h2:S2 i s.heap)(hl:i=min n1 n2)
  (hQ:∀h' tk,Zk z TO i1 i2 s.heap h'->Q none {s with heap:=h',toks:=tk}):wpAny (model prog w) A (wv (.ref z)) Q E s:=by
 have ty:s.TypeIs (.ref z) "zip":=⟨_,hz,rfl⟩
 delta wv
 apply ac;apply wpAny_attempt;refine im ty F.slot_zip_next (g7 F.slot_zip_next ty F.entry_zip_next ?_ (F.args_zip_next_1 _));refine zl0 D D1 D2 hf hz hTI hTO h1 h2 hl λh' tk e kp he=>?_;obtain⟨o,ho,hc⟩:=he;apply ac;refine wpAny_isInstance ⟨o,ho,hc⟩ isSubtype_stop ?_;exact am (hQ _ _ kp)
theorem zgq {K:W.Frag}{TI TO:Addr}(ht:(isTup tg||isNm tg)=true)(D:ZApart z TI TO i1 i2 [i1,a1] [i2,a2])(n1:a1≠i1)(n2:a2≠i2):
  Turn P w K tg (MX K l1 a1 vs l2 a2 ws) [z,TI,TO,i1,i2] z (MY z TI TO i1 i2 l1 a1 l2 a2) where
 mem:=by simp
 obj:=λi h st b hb=>by
  obtain⟨⟨f0,f1,_,hz⟩,hTI,⟨a,c,hTO⟩,h1,h2⟩:=st;simp only[gg,ao,or_false]at hb;rcases hb with rfl|rfl|rfl|rfl|rfl
  ·exact⟨_,hz,λv q=>by cases q⟩
  ·exact⟨_,hTI,λv q=>by cases q⟩
  ·exact⟨_,hTO,λv q=>by cases q⟩
  ·exact h1.live
  ·exact h2.live
 keep:=λi h h' st k=>by obtain⟨⟨f0,f1,hf,hz⟩,hTI,⟨a,c,hTO⟩,h1,h2⟩:=st;exact⟨⟨f0,f1,hf,k z (by simp) _ hz⟩,k TI (by simp) _ hTI,⟨a,c,k TO (by simp) _ hTO⟩,h1.keep λo=>k i1 (by simp) o,h2.keep λo=>k i2 (by simp) o⟩
 item:=by
  intro X hP hw hK hc i pins s U H E I hf st hg;subst hP hw hK;obtain⟨Ho,Hq,hi⟩:=hg;obtain⟨⟨f0,f1,zf,hz⟩,hTI,⟨a,c,hTO⟩,h1,h2⟩:=st;obtain⟨oZ,rv1,b1,e1⟩:=iH.items I Ho;obtain⟨cb,rv2,b2,e2⟩:=iH.items I Hq;have hA:X.A.in1.handled=none:=I.ok.hd hc;have D1:=yI (prog:=X.prog) (w:=X.w) hA l1 i1 a1 n1 oZ.toArray;have D2:=yI (prog:=X.prog) (w:=X.w) hA l2 i2 a2 n2 cb.toArray;refine zgi D D1 D2 zf hz hTI hTO ⟨h1,b1⟩ ⟨h2,b2⟩ (by rw[ax];omega) (by rw[ax];omega) λx y h' tk oY jJ a' b' hx hy VQ yB Hr Dp uW new kp=>⟨_,rfl,?_⟩;refine zqy ht VQ yB λdB Hs Ht Hu sb=>?_;have lt:∀{c o},s.heap.get? c=some o->s.heap.objs.size≠c:=λe q=>cq _ (q▸bn e);obtain⟨o1,rL,_⟩:=h1.live;obtain⟨o2,ho2,_⟩:=h2.live;have Dm:s.heap.objs.size∉ [z,TI,TO,i1,i2]:=by simp[lt hz,lt hTI,lt hTO,lt rL,lt ho2]
  have up:=λc o hc e=>sb.extBut c o hc e;have Hv:=up _ _ (lt hz) new;obtain⟨v,hv,rx⟩:=Hj rv1 (by omega) hx;obtain⟨u,hu,ry⟩:=Hj rv2 (by omega) hy;have iU:=I.hok.fresh (ag _);have I1:=I.turnedTL (t':=tk) hf (λb q hb e=>up b q (λq=>hb (by simp[q])) (kp b q (λq=>hb (by simp[q])) (λq=>hb (by simp[q])) (λq=>hb (by simp[q])) (λq=>hb (by simp[q])) e)) (ag _) ⟨by rw[cz];simp,[x,y],.cons rx (.cons ry .nil),0,Hv⟩;refine⟨.ref s.heap.objs.size,_,I1,rfl,⟨_,v,u,hv,hu,iU,rfl,rfl⟩,⟨⟨Hs,jJ,Ht,Hu⟩,up _ _ D.TIz (kp _ _ D.TIz D.TITO D.TIi1 D.TIi2 hTI),⟨a',b',up _ _ D.TOz Hr⟩,Dp.1.keep λo=>up _ o D.i1z,uW.1.keep λo=>up _ o D.i2z⟩,λb hb=>?_⟩;rw[aC λq:b=s.heap.objs.size=>Dm (by rw[<-q];exact hb)];exact(hf b hb).1
 done:=by intro X hP hw hK hc i pins s U H E I hf st hg;subst hP hw hK;obtain⟨Ho,Hq,hi⟩:=hg;obtain⟨⟨f0,f1,zf,hz⟩,hTI,⟨a,c,hTO⟩,h1,h2⟩:=st;obtain⟨oZ,rv1,b1,e1⟩:=iH.items I Ho;obtain⟨cb,rv2,b2,e2⟩:=iH.items I Hq;have hA:X.A.in1.handled=none:=I.ok.hd hc;have D1:=yI (prog:=X.prog) (w:=X.w) hA l1 i1 a1 n1 oZ.toArray;have D2:=yI (prog:=X.prog) (w:=X.w) hA l2 i2 a2 n2 cb.toArray;refine zf9 D D1 D2 zf hz hTI hTO ⟨h1,b1⟩ ⟨h2,b2⟩ (by rw[ax,ax];omega) λh' tk kp=>⟨rfl,I.lE hf λb q hb e=>?_⟩;exact kp b q (λq=>hb (by simp[q])) (λq=>hb (by simp[q])) (λq=>hb (by simp[q])) (λq=>hb (by simp[q])) e
 self:=λ_ _ _ _ _ st h=>by obtain⟨⟨f0,f1,_,hz⟩,_⟩:=st;have ty:Shared.TypeIs _ (.ref z) "zip":=⟨_,hz,rfl⟩;refine wpAny_pyIter_slot ty F.slot_zip_iter (g7 F.slot_zip_iter ty F.entry_zip_iter ?_ (F.args_zip_iter_1 _));exact am ⟨_,rfl,"zip",_,ty,F.slot_zip_next.lookup,h⟩
theorem MZ:∀(xs ys:List D) (i:Nat) {x y:D},xs[i]?=some x->ys[i]?=some y->(zipD xs ys)[i]?=some (.tuple [x,y])
 |x::xs,y::ys,0,_,_,h1,h2=>by cases h1;cases h2;rfl
 |x::xs,y::ys,i+1,_,_,h1,h2=>MZ xs ys i h1 h2
 | [],_,i,_,_,h1,_=>by simp at h1
 |_::_,[],i,_,_,_,h2=>by simp at h2
theorem Dq:∀(xs ys:List D),(zipD xs ys).length=min xs.length ys.length
 | [],_=>by simp[zipD]
 |_::_,[]=>by simp[zipD]
 |x::xs,y::ys=>by show(zipD xs ys).length+1=min (xs.length+1) (ys.length+1);rw[Dq xs ys];omega
theorem VR {K:W.Frag}(h1:pZ K H B l1 a1 vs)(h2:pZ K H B l2 a2 ws)(r1:Reps K H B vs xs)(r2:Reps K H B ws ys)(hz:xs.length<=bc):Walk K (MX K l1 a1 vs l2 a2 ws) B H (zipD xs ys):=by
 have e1:=r1.length;have e2:=r2.length;constructor
 ·rw[Dq];omega
 ·intro H2 kp i h;rw[Dq]at h;exact⟨h1.keep kp,h2.keep kp,by omega⟩
 ·intro H2 kp;exact⟨h1.keep kp,h2.keep kp,by rw[Dq];omega⟩
 ·intro H2 kp i x H3 h y;obtain⟨p,v,u,hv,hu,hp,rfl,rfl⟩:=y;obtain⟨d,hd,rv⟩:=Reps.gZ r1 hv;obtain⟨d',fB,wB⟩:=Reps.gZ r2 hu;have kk:∀a q,H a=some q->(B (some a)\/Fix q)->upd H2 p (.tup [v,u]) a=some q:=λa q e f=>by have h2:=kp a q e f;rw[aC (cQ h2 hp)];exact h2
  exact⟨Same.upd hp,.tuple [d,d'],MZ xs ys i hd fB,p,[v,u],rfl,bL.of aW,Reps.cons (Rep.keep kk (λ_ z=>z) d rv) (Reps.cons (Rep.keep kk (λ_ z=>z) d' wB) rfl)⟩
theorem zb2 (l1 l2:Bool)(a1 a2:Addr)(xs ys:Array Value):Meets (Builtin.«zip.__new__» ⟨[.type "zip",.ref a1,.ref a2],[]⟩) fun _ R s=>IsB s.heap l1 a1 xs/\IsB s.heap l2 a2 ys/\
  ∀h1 h2 h3 h4 h5,h1=s.heap.push (cY l1 a1)->h2=h1.push (cY l2 a2)->h3=h2.push {cls:=.type "tuple",data:=.seq #[.ref s.heap.objs.size,.ref h1.objs.size]}->h4=h3.push {cls:=.type "tuple",data:=.seq #[.none,.none]}->h5=h4.push {cls:=.type "zip",data:=.fields #[.none,.bool false,.bool false,.ref h2.objs.size,.ref h3.objs.size]}->R (.ok (.ret (.ref h4.objs.size))) {s with heap:=h5}:=by
 rintro prog w A R s ⟨b1,b2,hR⟩
 have sub:=sub_zip;obtain⟨hp,gs,dp,tk,os⟩:=s;have c1:IsB (Shared.heap ⟨hp,gs,dp,tk,os⟩) l1 a1 xs:=b1;have c2:IsB (Shared.heap ⟨hp.push (cY l1 a1),gs,dp,tk,os⟩) l2 a2 ys:=b2.push _
 wp_walk using Dl c1,Dl c2
 exact hR _ _ _ _ _ rfl rfl rfl rfl rfl
section
variable {X:Cx}{pins:List (Addr×Obj)}{U:L2.St}
theorem z9j (ht:(isTup tg||isNm tg)=true)(I1:Inv X pins U H1 s1)(r1:RelV y1 u1)(r2:RelV y2 u2)(rv1:Rep X.K H1 B y1 d1)(rv2:Rep X.K H1 B y2 d2)(e1:seqR d1=.ok xs)(e2:seqR d2=.ok ys)(q:∀J,Walk X.K J B H1 (zipD xs ys)->R J H1):
  wpAny (model X.prog X.w) X.A (call (.type "zip") [u1,u2]) (λv' s2=>wpAny (model X.prog X.w) X.A (uy v') (uV X pins U tg R) X.xe s2) X.xe s1:=by
 obtain⟨l1,a1,vs,rfl,q1,w1,z1⟩:=pZ.of rv1 e1;obtain⟨l2,a2,ws,rfl,q2,w2,z2⟩:=pZ.of rv2 e2;cases r1;cases r2;obtain⟨oZ,_,b1,_⟩:=iH.items I1 (q1.keep (Kp.of (Same.refl H1)));obtain⟨cb,_,b2,_⟩:=iH.items I1 (q2.keep (Kp.of (Same.refl H1)));refine callType_new F.called_zip (by decide) (F.typeCall_zip_2 _ _) (F.newCall_zip_2 _ _) (λobj=>F.args_object_init_3 obj _ _) F.entry_zip_new (zb2 l1 l2 a1 a2 oZ.toArray cb.toArray) ⟨b1,b2,?_⟩;intro h1 h2 h3 h4 h5 k1 k2 k3 k4 k5;have Dr:h1.objs.size=s1.heap.objs.size+1:=by rw[k1];exact mz _ _
 have Hw:h2.objs.size=s1.heap.objs.size+2:=by rw[k2,mz,Dr]
 have Hx:h3.objs.size=s1.heap.objs.size+3:=by rw[k3,mz,Hw]
 have M0:h4.objs.size=s1.heap.objs.size+4:=by rw[k4,mz,Hx]
 have p1:∀b o,s1.heap.get? b=some o->h1.get? b=some o:=λb o e=>by rw[k1];exact af _ e
 have p2:∀b o,h1.get? b=some o->h2.get? b=some o:=λb o e=>by rw[k2];exact af _ e
 have p3:∀b o,h2.get? b=some o->h3.get? b=some o:=λb o e=>by rw[k3];exact af _ e
 have p4:∀b o,h3.get? b=some o->h4.get? b=some o:=λb o e=>by rw[k4];exact af _ e
 have p5:∀b o,h4.get? b=some o->h5.get? b=some o:=λb o e=>by rw[k5];exact af _ e
 have I5:Inv X pins U H1 {s1 with heap:=h5}:=I1.kept λb o e=>p5 b o (p4 b o (p3 b o (p2 b o (p1 b o e))));have g1:=p5 _ _ (p4 _ _ (p3 _ _ (p2 _ _ (by rw[k1];exact a8 _ rfl))));have g2:=p5 _ _ (p4 _ _ (p3 _ _ (by rw[k2];exact a8 _ rfl)));have g3:=p5 _ _ (p4 _ _ (by rw[k3];exact a8 _ rfl));have g4:=p5 _ _ (by rw[k4];exact a8 _ rfl);have g5:h5.get? h4.objs.size=some (ZRec h2.objs.size h3.objs.size .none false):=by rw[k5];exact a8 _ rfl
 have t1:=b1.lt;have t2:=b2.lt;have Da:ZApart h4.objs.size h2.objs.size h3.objs.size s1.heap.objs.size h1.objs.size [s1.heap.objs.size,a1] [h1.objs.size,a2]:=by have nn:∀{i j:Nat},i≠j->s1.heap.objs.size+i≠s1.heap.objs.size+j:=λh z=>h (Nat.add_left_cancel z);have n0:∀{j:Nat},0≠j->s1.heap.objs.size≠s1.heap.objs.size+j:=λh=>nn h;have no:∀{x y z:Addr},x≠y->x≠z->x∉ [y,z]:=λh1 h2 h=>(ao.mp h).elim h1 λq=>h2 (ah.mp q);have na:∀{a:Addr} {j:Nat},a<s1.heap.objs.size->s1.heap.objs.size+j≠a:=λh z=>cq _ (cg h (z▸jo _ _));rw[Dr,Hw,Hx,M0];exact⟨nn (by decide),nn (by decide),n0 (by decide),nn (by decide),nn (by decide),(n0 (by decide)).symm,nn (by decide),(n0 (by decide)).symm,nn (by decide),n0 (by decide),no (n0 (by decide)).symm (na t1),no (n0 (by decide)).symm (na t1),no (n0 (by decide)).symm (na t1),no (nn (by decide)) (na t2),no (nn (by decide)) (na t2),no (n0 (by decide)) (na (j:=0) t2)⟩
 have T:=zgq (P:=X.prog) (w:=X.w) (K:=X.K) (l1:=l1) (l2:=l2) (vs:=vs) (ws:=ws) ht Da (cw t1) (by rw[Dr];exact cw (Nat.lt_succ_of_lt t2));have St:MY h4.objs.size h2.objs.size h3.objs.size s1.heap.objs.size h1.objs.size l1 a1 l2 a2 0 h5:=⟨⟨.none,false,.inl rfl,g5⟩,g3,⟨_,_,g4⟩,lD.new g1,lD.new g2⟩;refine⟨⟨_,g5,rfl⟩,T.self _ 0 _ _ _ St ⟨h4.objs.size,_,_,_,H1,rfl,I5,T,St,λb hb=>?_,q _ (VR q1 q2 w1 w2 (mI z1))⟩⟩
 have M1:s1.heap.objs.size<=b:=by
  rw[Dr,Hw,Hx,M0]at hb;simp only[gg,ao,or_false]at hb;rcases hb with rfl|rfl|rfl|rfl|rfl
  ·exact jo _ _
  ·exact jo _ _
  ·exact jo _ _
  ·exact ag _
  ·exact jo _ _
 exact I1.gU M1 (I1.hok.fresh M1)
end
section
variable {X:Cx}{a b:Expr}{fa fb:Rho->Res GD}{p pos:Pos}
theorem Hy:df "enumerate"=some (.type "enumerate"):=by decide+kernel
theorem M3:df "zip"=some (.type "zip"):=by decide+kernel
theorem Hz (hs:isStar a=false)(ha:PE X a (tD X.K fa)):PA X [a] (tDA X.K λY=>fa Y>>=λx=>.ok [x]):=by refine PA.imp (Gh hs ha LY) λU H Q ⟨Y,F,z,so,e,q⟩=>⟨Y,F,z,so,?_,q⟩;obtain⟨x,e1,e⟩:=Res.aA e;show(fa Y>>=λx=>Res.ok []>>=λxs=>Res.ok (x::xs))=_;rw[e1];exact e
theorem M4 (hs:isStar a=false)(wU:isStar b=false)(ha:PE X a (tD X.K fa))(hb:PE X b (tD X.K fb)):PA X [a,b] (tDA X.K λY=>fa Y>>=λx=>fb Y>>=λy=>.ok [x,y]):=by refine PA.imp (Gh hs ha (Hz wU hb)) λU H Q ⟨Y,F,z,so,e,q⟩=>⟨Y,F,z,so,?_,q⟩;obtain⟨x,e1,e⟩:=Res.aA e;obtain⟨y,e2,e⟩:=Res.aA e;show(fa Y>>=λx=>(fb Y>>=λy=>Res.ok [y])>>=λxs=>Res.ok (x::xs))=_;rw[e1,e2];exact e
theorem HB {fs:Rho->Res GD}(h:(fs Y>>=λx=>Res.ok [x])=.ok ys):∃x,fs Y=.ok x/\ys=[x]:=by obtain⟨x,e,h⟩:=Res.aA h;cases h;exact⟨x,e,rfl⟩
theorem HC {K:W.Frag}(so:StOk K F H U Y)(hc:tM x=true)(e:seqR x.2=.ok xs)(rv:Rep K H1 (BG F H x.1) v x.2):∃B,Rep K H1 B v x.2/\(∀a,B (some a)->F.O a=none)/\∀a,B a->BI F .al a:=by
 obtain⟨g,d⟩:=x;cases d<;>try (exact(gE e).elim)
 case list ds=>
  have hg:g≠.al:=λz=>by subst z;cases hc
  exact⟨_,rv,λa h=>GC so hg h,λa h=>BI.of so.aJ (BG.aJ so.aJ h)⟩
 case tuple ds=>
  rcases gv.mp hc with hg|hi
  ·have hg:g≠ .al:=λz=>by subst z;cases hg
   exact⟨_,rv,λa h=>GC so hg h,λa h=>BI.of so.aJ (BG.aJ so.aJ h)⟩
  ·exact⟨λ_=>False,Rep.bB _ hi rv,λ_ h=>h.elim,λ_ h=>h.elim⟩
theorem VS (h:(fa Y>>=λx=>fb Y>>=λy=>Res.ok [x,y])=.ok ys):∃x y,fa Y=.ok x/\fb Y=.ok y/\ys=[x,y]:=by obtain⟨x,e,h⟩:=Res.aA h;obtain⟨y,e2,h⟩:=Res.aA h;cases h;exact⟨x,y,e,e2,rfl⟩
theorem HD (ht:(isTup tg||isNm tg)=true)(hm:X.mg "zip"=none)(hg:Gl X "zip")(hs:isStar a=false)(wU:isStar b=false)(ha:PE X a (tD X.K fa))(hb:PE X b (tD X.K fb)):PI X tg (.Call (.Name "zip" p) [a,b] [] pos) (tDW X.K λY=>fa Y>>=λx=>fb Y>>=λy=>seqR x.2>>=λxs=>seqR y.2>>=λys=>.ok (.al,zipD xs ys)):=by intro pins s U H R I h;obtain⟨Y,F,w,so,e,q⟩:=h;obtain⟨x,e1,e⟩:=Res.aA e;obtain⟨y,e2,e⟩:=Res.aA e;obtain⟨xs,e3,e⟩:=Res.aA e;obtain⟨ys,e4,e⟩:=Res.aA e;cases e;refine Call_ (z2e I hg hm M3 (PyProof.Rows.callWith_type1 (aM (M4 hs wU ha hb pos pins s U H (λvs H1=>Same H H1/\eR X.K F H H1 vs [x,y]) I ⟨Y,F,[x,y],so,by show(fa Y>>=λx=>fb Y>>=λy=>Res.ok [x,y])=_;rw[e1,Res.aD,e2];rfl,λvs H1 s1 rs=>⟨s1,rs⟩⟩) λus s1 ⟨vs,H1,I1,r1,sm,rs⟩=>?_) (gY hs) (by rw[gY wU];rfl)));obtain⟨v1,v2,rfl,rv1,rv2⟩:=rs.two;obtain⟨u1,u2,rfl,HE,HF⟩:=vals2 r1;have q1:=(Rep.there _ rv1).weak (B':=λc=>bP F c/\¬nw H1 c) λc z=>⟨BG.aJ so.aJ z.1,z.2⟩;have q2:=(Rep.there _ rv2).weak (B':=λc=>bP F c/\¬nw H1 c) λc z=>⟨BG.aJ so.aJ z.1,z.2⟩;exact z9j ht I1 HE HF q1 q2 e3 e4 λJ wk=>q J _ H1 sm (λc z=>z) wk
theorem VT (ht:(isTup tg||isNm tg)=true)(hm:X.mg "zip"=none)(hg:Gl X "zip")(hs:isStar a=false)(wU:isStar b=false)(ha:PE X a (tD X.K fa))(hb:PE X b (tD X.K fb)):PI X tg (.Call (.Name "zip" p) [a,b] [] pos) (tDF X.K λY=>(fa Y>>=λx=>fb Y>>=λy=>.ok [x,y])>>=λys=>qZ ys Y):=by
 intro pins s U H R I h;obtain⟨Y,F,w,so,e,q⟩:=h;obtain⟨zs,e0,e⟩:=Res.aA e;obtain⟨x,y,e1,e2,rfl⟩:=VS e0;have e:(if(tM x&&tM y)=true then(seqR x.2>>=λxs=>seqR y.2>>=λzs=>Res.ok (G.al,zipD xs zs,Y))else Res.no)=Res.ok w:=e;split at e
 case isFalse=>cases e
 rename_i hc;obtain⟨c1,c2⟩:=av.mp hc;obtain⟨xs,e3,e⟩:=Res.aA e;obtain⟨ys,e4,e⟩:=Res.aA e;cases e;refine Call_ (z2e I hg hm M3 (PyProof.Rows.callWith_type1 (aM (M4 hs wU ha hb pos pins s U H (λvs H1=>Same H H1/\eR X.K F H H1 vs [x,y]) I ⟨Y,F,[x,y],so,by show(fa Y>>=λx=>fb Y>>=λy=>Res.ok [x,y])=_;rw[e1,Res.aD,e2];rfl,λvs H1 s1 rs=>⟨s1,rs⟩⟩) λus s1 ⟨vs,H1,I1,r1,sm,rs⟩=>?_) (gY hs) (by rw[gY wU];rfl)));obtain⟨v1,v2,rfl,rv1,rv2⟩:=rs.two;obtain⟨u1,u2,rfl,HE,HF⟩:=vals2 r1;obtain⟨B1,k1,k2,k3⟩:=HC so c1 e3 rv1;obtain⟨B2,m1,m2,m3⟩:=HC so c2 e4 rv2;have q1:=k1.weak (B':=λc=>B1 c\/B2 c) λc z=>.inl z;have q2:=m1.weak (B':=λc=>B1 c\/B2 c) λc z=>.inr z;exact z9j ht I1 HE HF q1 q2 e3 e4 λJ wk=>q J _ H1 F sm Run.refl (dA.same sm) (so.same sm) (λc z=>z.elim (k2 c) (m2 c)) (λc z=>z.elim (k3 c) (m3 c)) wk
theorem HG (hm:X.mg "enumerate"=none)(hg:Gl X "enumerate")(hs:isStar a=false)(ha:PE X a (tD X.K fa)):PI X (.Tuple elts x1 tp) (.Call (.Name "enumerate" p) [a] [] pos) (tDW X.K λY=>fa Y>>=λx=>seqR x.2>>=λxs=>.ok (.al,z24 0 xs)):=by
 rintro pins s U H R I ⟨Y,F,w,so,e,q⟩
 obtain⟨x,e1,e⟩:=Res.aA e;obtain⟨xs,e2,e⟩:=Res.aA e;cases e;refine Call_ (z2e I hg hm Hy (PyProof.Rows.callWith_type1 (aM (Hz hs ha pos pins s U H (λvs H1=>Same H H1/\eR X.K F H H1 vs [x]) I ⟨Y,F,[x],so,by show(fa Y>>=λx=>Res.ok [x])=_;rw[e1];rfl,λvs H1 s1 rs=>⟨s1,rs⟩⟩) λus s1 ⟨vs,H1,I1,r1,sm,rs⟩=>?_) (gY hs) rfl));obtain⟨v,rfl,rv⟩:=rs.one;obtain⟨u,rfl,ru⟩:=vals1 r1;exact z4q I1 ru (Rep.there _ rv) e2 λJ wk=>q J _ H1 sm (λc z=>⟨BG.aJ so.aJ z.1,z.2⟩) wk
theorem VU (hm:X.mg "enumerate"=none)(hg:Gl X "enumerate")(hs:isStar a=false)(ha:PE X a (tD X.K fa)):PI X (.Tuple elts x1 tp) (.Call (.Name "enumerate" p) [a] [] pos) (tDF X.K λY=>(fa Y>>=λx=>.ok [x])>>=λys=>qY ys Y):=by
 rintro pins s U H R I ⟨Y,F,w,so,e,q⟩
 obtain⟨ys,e0,e⟩:=Res.aA e;obtain⟨x,e1,rfl⟩:=HB e0;have e:(if tM x=true then(seqR x.2>>=λxs=>Res.ok (G.al,z24 0 xs,Y))else Res.no)=Res.ok w:=e;split at e
 case isFalse=>cases e
 rename_i hc;obtain⟨xs,e2,e⟩:=Res.aA e;cases e;refine Call_ (z2e I hg hm Hy (PyProof.Rows.callWith_type1 (aM (Hz hs ha pos pins s U H (λvs H1=>Same H H1/\eR X.K F H H1 vs [x]) I ⟨Y,F,[x],so,by show(fa Y>>=λx=>Res.ok [x])=_;rw[e1];rfl,λvs H1 s1 rs=>⟨s1,rs⟩⟩) λus s1 ⟨vs,H1,I1,r1,sm,rs⟩=>?_) (gY hs) rfl));obtain⟨v,rfl,rv⟩:=rs.one;obtain⟨u,rfl,ru⟩:=vals1 r1;obtain⟨B,rB,hB,hV⟩:=HC so hc e2 rv;exact z4q I1 ru rB e2 λJ wk=>q J B H1 F sm Run.refl (dA.same sm) (so.same sm) hB hV wk
end
abbrev Ds:List Value:=[.type "ValueError",.type "Exception",.type "BaseException",.type "object"]
abbrev HH (K:W.Frag)(C:Addr):Bool:=W.excIn K C Ds "ValueError.__new__"
def mP (K:W.Frag)(C:Addr):Bool:=match K.lookup C with
 |some ⟨.type "type",_,.cls cd,sl⟩=>(match cd.mro,sl.toList with
  |.ref D::bm,[_,_,_,_,some (.builtin n),_]=>(D==C)&&(n=="ValueError.__new__")&& !cd.hasDel&&W.tailIn K Ds bm&&W.nsOkIn K cd.ns
  |_,_=>false)
 |_=>false
def XC (C:Addr)(h:Heap)(bm:List Value):Prop:=∃N nm q bs HI sn sub ab col dd k0 k1 k2 k3 k5 mN,h.get? C=some (excClassObj nm q C N bs bm HI sn sub ab col dd k0 k1 k2 k3 k5 "ValueError.__new__")/\h.Ns N mN/\OwnTail h Ds bm
theorem Bj:(a&&b)=true->a=true/\b=true:=av.mp
theorem HJ {K:W.Frag}{C:Addr}(q:HH K C=true):mP K C=true/\∀dd cd sl,K.lookup C=some ⟨.type "type",dd,.cls cd,sl⟩->W.nsIn K cd.ns "__init__"=some none:=by
 unfold HH W.excIn at q;unfold mP;split at q
 ·rename_i dd cd sl ho;split at q
  ·rename_i A bm y0 y1 y2 y3 n y5 hm hs;obtain⟨q,q6⟩:=Bj q;refine⟨?_,λkS HK zw e=>by rw[ho]at e;cases e;exact x9 q6⟩;simp only[ho,hm,hs];exact q
  ·cases q
 ·cases q
theorem M5 {K:W.Frag}{C:Addr}(q:mP K C=true):∃dd cd bm k0 k1 k2 k3 k5,K.lookup C=some ⟨.type "type",dd,.cls cd,#[k0,k1,k2,k3,some (.builtin "ValueError.__new__"),k5]⟩/\cd.mro=.ref C::bm/\cd.hasDel=false/\W.tailIn K Ds bm=true/\W.nsOkIn K cd.ns=true:=by
 unfold mP at q;split at q
 ·rename_i dd cd sl ho;split at q
  ·rename_i A bm y0 y1 y2 y3 n y5 hm hs;obtain⟨q,q5⟩:=Bj q;obtain⟨q,q4⟩:=Bj q;obtain⟨q,q3⟩:=Bj q;obtain⟨q1,q2⟩:=Bj q;have e3:sl=#[y0,y1,y2,y3,some (.builtin n),y5]:=Array.toList_inj.mp (by rw[hs]);refine⟨dd,cd,bm,y0,y1,y2,y3,y5,?_,?_,?_,q4,q5⟩
   ·rw[ho,e3,x9 q2]
   ·rw[hm,x9 q1]
   ·cases hd:cd.hasDel with
    |false=>rfl
    |true=>rw[hd]at q3;cases q3
  ·cases q
 ·cases q
theorem M6 {K:W.Frag}{C:Addr}(ho:K.lookup C=some ⟨.type "type",dd,.cls cd,sl⟩)(hm:cd.mro=.ref C::bm)(e:W.subIn K (.ref C) v=some b):(Value.ref C::bm).contains v=b:=by
 have e:W.mroIn K C v=some b:=e;unfold W.mroIn W.clsIn at e;rw[ho]at e
 dsimp at e
 rw[hm]at e;exact xx e
theorem XC.mk {K:W.Frag}{C:Addr}(X:K.In h)(q:mP K C=true):∃bm,XC C h bm/\∀v b,W.subIn K (.ref C) v=some b->(Value.ref C::bm).contains v=b:=by
 obtain⟨dd,cd,bm,k0,k1,k2,k3,k5,ho,hm,hd,ht,hk⟩:=M5 q;refine⟨bm,⟨cd.ns,cd.name,cd.qualname,cd.bases,cd.hasDict,cd.slotNames,cd.subclasses,cd.abstract,cd.collection,dd,k0,k1,k2,k3,k5,h.nsMap cd.ns,?_,.of_isNs (W.isNs_of_in X hk),W.tail_of_in X ht⟩,λv b e=>M6 ho hm e⟩;have h2:=X _ _ ho;cases cd
 dsimp only at hm hd
 rw[hm,hd]at h2;exact h2
section
variable {prog:cu}{w:World}{A:i6}{E:Value->aw->Prop}{K:W.Frag}{h:Heap}{g:Array GenState}{d:Drawn}{t:Nat}{os:qu}{C e:Addr}{oe:Obj}
structure XA (K:W.Frag)(C:Addr):Prop where
 cl:W.findIn K (.ref C) "__class__"=some (some (.builtin "object.__class__"))
 ga:W.findIn K (.ref C) "__getattribute__"=some (some (.builtin "BaseException.__getattribute__"))
 gt:W.findIn K (.ref C) "__getattr__"=some none
 ob:W.subIn K (.ref C) (.type "object")=some true
 be:W.subIn K (.ref C) (.type "BaseException")=some true
 ty:W.typeIn K (.ref C)=some (.type "type")
 is:(W.clsIn K C).isSome=true
 ex:mP K C=true
theorem z6o (he:h.get? e=some oe)(hc:oe.cls=.ref C):W.Looks M h (xo (.ref e)) (.ref C):=by intro A Q E s k q;refine ac (wpAny_loadPart (k _ _ he) ?_);rw[hc];exact am q
theorem zu6 (X:K.In h)(a:XA K C)(he:h.get? e=some oe)(hc:oe.cls=.ref C)(hq:R (.ok (.ret (.ref C))) ⟨h,g,d,t,os⟩):
  nk (model prog w) A (.call (.builtin "getset_descriptor.__get__") ⟨[.builtin "object.__class__",.ref e,tp],[]⟩) R ⟨h,g,d,t,os⟩:=by
 have l0:=z6o (M:=model prog w) he hc;have l1:=W.looks_subIn (M:=model prog w) X a.ob;refine tf W.KF.slot_gs.plain W.KF.entry_gs (W.KF.slot_gs.check _ _ _ _ _ _ _ _ W.KF.type_class (W.KF.args_gs _ _ _) (ac (am ?_)));unfold Builtin.Getset_descriptor.descrGetter Builtin.Getset_descriptor.descrCheckInstance Builtin.Getset_descriptor.descrNameAndClass isInstance;simp only[W.KF.owner_class]
 repeat lk
 refine⟨Code.quiet_builtin _ (by decide+kernel),?_⟩;refine lj W.KF.entry_class ?_;unfold Builtin.«object.__class__»;unfold shownTypeOf;repeat lk
 exact hq
theorem zkb {tk:Tok}{Q:Fin->aw->Prop}(X:K.In h)(a:XA K C)(he:h.get? e=some oe)(hc:oe.cls=.ref C)(hq:Q (.done (.ret (.ref C))) ⟨h,g,d,t,os⟩):
  wpAny (model prog w) A (Builtin.«object.__getattribute__» ⟨[.ref e,.str "__class__" tk],[]⟩) Q E ⟨h,g,d,t,os⟩:=by
 have hT:(⟨h,g,d,t,os⟩:aw).TypeIs (.builtin "object.__class__") "getset_descriptor":=F.typeOf_object_class;have⟨f5,f6,f7⟩:=And.intro F.typeOf_object_class (And.intro F.slot_gs_get.lookup F.slot_gs_set.lookup);have l0:=W.looks_findIn (M:=model prog w) X a.cl
 repeat (any_goals (first|assumption|(with_reducible refine pj he ?_;rw[hc])|with_reducible refine l0.at ?_|wp_step))
 refine zu6 X a he hc ?_
 repeat' first|assumption|wp_step
theorem x_call {tk:Tok}{R:Result->aw->Prop}(X:K.In h)(a:XA K C)(he:h.get? e=some oe)(hc:oe.cls=.ref C)(hq:R (.ok (.ret (.ref C))) ⟨h,g,d,t,os⟩):
  nk (model prog w) A (.call (.builtin "BaseException.__getattribute__") ⟨[.ref e,.str "__class__" tk],[]⟩) R ⟨h,g,d,t,os⟩:=by
 refine tf F.excAttr_ValueError.ga.plain F.entry_bexc_ga ?_;have l1:=W.looks_subIn (M:=model prog w) X a.be;have ar:=F.args_bexc_ga (.ref e) (.str "__class__" tk);have z1:builtinKind "BaseException.__getattribute__"=some .slot:=by decide+kernel
 have z2:splitId "BaseException.__getattribute__"=some ("BaseException","__getattribute__"):=by decide+kernel
 simp only[checkBuiltinCall,z1,z2];refine ac ?_;unfold isInstance
 repeat (first|(with_reducible refine zkb X a he hc ?_;exact hq)|(with_reducible refine pj he ?_;rw[hc])|with_reducible refine l1.at ?_|wp_step)
theorem x_by (X:K.In h)(a:XA K C)(he:h.get? e=some oe)(hc:oe.cls=.ref C)(hq:Q (.ref C) ⟨h,g,d,t,os⟩):
  wpAny (model prog w) A (getAttrBy (.ref e) (.str "__class__" tk) false) Q E ⟨h,g,d,t,os⟩:=by
 have f3:=F.excAttr_ValueError.ga.bind (.ref e)
 repeat (any_goals (first|assumption|(with_reducible refine pj he ?_;rw[hc])|with_reducible refine(W.looks_findIn (M:=model prog w) X a.ga).at ?_|with_reducible refine(W.looks_findIn (M:=model prog w) X a.gt).at ?_|wp_step))
 refine x_call X a he hc ?_
 repeat' first|assumption|wp_step
theorem VW (X:K.In h)(a:XA K C)(he:h.get? e=some oe)(hc:oe.cls=.ref C)(hq:Q (some (.ref C)) ⟨h,g,d,t+1,os⟩):wpAny (model prog w) A (wg (.ref e) "__class__") Q E ⟨h,g,d,t,os⟩:=by repeat (any_goals (first|assumption|with_reducible apply x_by X a he hc|wp_step))
theorem VX (q:mP K C=true)(e:W.subIn K (.ref C) (.ref C)=some b):b=true:=by obtain⟨dd,cd,bm,k0,k1,k2,k3,k5,ho,hm,_⟩:=M5 q;rw[<-M6 ho hm e,List.contains_cons,beq_self_eq_true,vq]
structure XV (K:W.Frag)(v:Value):Prop where
 ty:∀(M:Model) (h:Heap),K.In h->W.Looks M h (xo v) (.type "type")
 is:∀(M:Model) (h:Heap),K.In h->W.Looks M h (isType v) true
theorem M7 {D:Addr}(X:K.In h)(q:(W.clsIn K D).isSome=true):W.Looks M h (isType (.ref D)) true:=by
 unfold W.clsIn at q;split at q
 ·rename_i ho;intro A Q E s k z;refine ac (uz (k _ _ (X _ _ ho)) ?_);exact am z
 ·cases q
theorem XV.own {D:Addr}(t:W.typeIn K (.ref D)=some (.type "type"))(q:(W.clsIn K D).isSome=true):XV K (.ref D):=⟨λM h X=>W.looks_typeIn X t,λM h X=>M7 X q⟩
theorem XV.val:XV K (.type "ValueError"):=⟨λM h X=>W.Looks.of_pure (by kernel_rfl),λM h X=>W.Looks.of_pure rfl⟩
theorem zud (X:K.In h)(a:XA K C)(he:h.get? e=some oe)(hc:oe.cls=.ref C)(hv:XV K v)(hs:W.subIn K (.ref C) v=some b)(h1:Q (.done (.ret (.bool b))) ⟨h,g,d,t,os⟩)(h2:Q (.done (.ret (.bool b))) ⟨h,g,d,t+1,os⟩):
  wpAny (model prog w) A (Builtin.«isinstance.nested» ⟨[.ref e,v,.int dep tk],[]⟩) Q E ⟨h,g,d,t,os⟩:=by
 have l0:=z6o (M:=model prog w) he hc;have l4:=W.looks_subIn (M:=model prog w) X hs;unfold Builtin.«isinstance.nested»;refine ac (l0.at ?_);by_cases q:(Value.ref C==v)=true
 ·rw[xu q];have hb:b=true:=by cases x9 q;exact VX a.ex hs
  subst hb;exact ac (ls (ac (am (am h1))))
 ·rw[xw q];refine ac ((hv.ty (model prog w) h X).at ?_)
  k_delta "plainIsInstance"
  refine ac (ac ((hv.is (model prog w) h X).at ?_));refine ac ((l0.andThen l4).at ?_);cases b with
  |true=>exact am (am h1)
  |false=>refine ac (VW X a he hc ?_);refine ac ((M7 (M:=model prog w) X a.is).at ?_);refine ac (ls ?_);exact l4.at (am h2)
theorem zvv (X:K.In s.heap)(a:XA K C)(he:s.heap.get? e=some oe)(hc:oe.cls=.ref C)(hv:XV K v)(hs:W.subIn K (.ref C) v=some b)(hq:∀t',Q (.bool b) {s with toks:=t'}):
  wpAny (model prog w) A (call (.builtin "isinstance") [.ref e,v]) Q E s:=
 call_isinstance (S:=λ_ R s=>(K.In s.heap/\s.heap.get? e=some oe)/\∀t',R (.ok (.ret (.bool b))) {s with toks:=t'}) (λ_ _ _ _ s wV=>isinstance_outer (by obtain⟨h,g,d,t,os⟩:=s;exact zud wV.1.1 a wV.1.2 hc hv hs (wV.2 t) (wV.2 (t+1))) nofun) ⟨⟨X,he⟩,hq⟩
end
theorem VY (f:Array Value->Array Value)(o:Obj):(Obj.mapFields f o).dict=o.dict:=by unfold Obj.mapFields;split<;>rfl
def TrD (h base:Heap)(e:Addr)(cls:Value)(dd:Option Addr)(fl:Value):Prop:=∃ob vs T tr ts,h.get? e=some ob/\ob.cls=cls/\ob.dict=dd/\ob.data=.fields vs/\vs[1]?=some (.ref T)/\base.get? T=none/\T≠e/\h.get? T=some tr/\tr.data=.fields ts/\ts[3]?=some fl
def FlD (base:Heap)(l:List Env)(e:Addr)(cls:Value)(dd:Option Addr)(h:Heap):Prop:=base.StaysIn h/\base.get? e=none/\h.FunFrames base l/\TrD h base e cls dd .none
def M8 (base:Heap)(l:List Env)(e:Addr)(cls:Value)(dd:Option Addr)(L:Addr)(h:Heap):Prop:=base.StaysIn h/\base.get? e=none/\h.FunFrames base l/\TrD h base e cls dd (j6 L)
theorem FlD.first (x:FlD base l e cls dd h):∃ob vs,h.get? e=some ob/\ob.cls=cls/\ob.dict=dd/\ob.data=.fields vs:=by obtain⟨_,_,_,ob,vs,_,_,_,h1,h2,h3,h4,_⟩:=x;exact⟨ob,vs,h1,h2,h3,h4⟩
section
variable {M:Model}{A:i6}{E:Value->aw->Prop}{s:aw}{base:Heap}{env:Env}{outer l:List Env}{L e:Addr}{Q:Unit->aw->Prop}{cls:Value}{dd:Option Addr}
theorem z9a (fr:A.frames=some (env::outer))(ff:s.heap.FunFrames base (env::outer))(el:env.frame=some L)(ge:s.heap.get? e=some ob)(st:base.StaysIn s.heap)(be:base.get? e=none)(da:ob.data=.fields vs)(sz:1<vs.size)
  (go:∀h',base.StaysIn h'->h'.FunFrames base (env::outer)->TrD h' base e ob.cls ob.dict (j6 L)->s.heap.UpToSlots h'->Q () {s with heap:=h'}):
  wpAny M A (do
   let a <-frameOf env
   let pl <-entryPlaceOf L hn
   let b <-EntryCells.newEntry head a .none (j6 L) .none pl
   setField (.ref e) 1 b) Q E s:=by
 have VZ:e∉(env::outer).filterMap (·.frame):=λz=>by obtain⟨_,o,q,n⟩:=ff.mem z;rw[ge]at q;cases q;exact n vs da
 refine ac (wpAny_frameOf_fun fr ff el λh1 k1=>ac (wpAny_entryPlaceOf λpl hp=>?_));refine ac (jh ?_ (hp.sizeOk5 _ _ _ _ _));have ge1:h1.get? e=some ob:=k1.2.1 e VZ▸ge;have Dp:base.StaysIn h1:=λb o q=>by rw[k1.2.1 b λz=>by rw[(ff.mem z).1]at q;cases q];exact st b o q
 generalize ht:({cls:=.type "traceback",dict:=none,data:=.fields ([head,.ref L,.none,j6 L,.none]++(if pl.isEmpty then bv 6 Value.none else pl)).toArray}:Obj)=tr;have M9:=af tr ge1;have Te:h1.objs.size≠e:=λz=>absurd (bn ge1) (z▸cq _);refine mf M9 da sz (go _ ?_ ?_ ?_ ?_)
 all_goals generalize hg:(λv:Array Value=>v.setIfInBounds 1 (Value.ref h1.objs.size))=g
 all_goals
  have dm:=Obj.data_mapFields da g;have T3:((h1.push tr).update e (Obj.mapFields g)).get? h1.objs.size=some tr:=by rw[gq _ _ (Ne.symm Te)];exact a8 h1 (by rw[<-ht];rfl)
  have keep:∀b o,b≠e->h1.get? b=some o->((h1.push tr).update e (Obj.mapFields g)).get? b=some o:=λb o n q=>by rw[gq _ _ (Ne.symm n)];exact af _ q
  have eS:∀b o,s.heap.get? b=some o->(∀vs,o.data≠.fields vs)->b≠e:=λb o q n z=>by rw[z,ge]at q;cases q;exact n vs da
 ·exact λb o q=>keep b o (λz=>by rw[z,be]at q;cases q) (Dp b o q)
 ·refine ff.of_keeps λb o q n=>?_;obtain⟨sl,z⟩:=k1.2.2 b o q;exact⟨_,keep b _ (eS b o q n) z,rfl⟩
 ·refine⟨_,_,h1.objs.size,tr,_,jb (Obj.mapFields g) M9 (Obj.isFreed_of_fields dm),Obj.cls_mapFields _ _,VY _ _,dm,?_,Dp.fresh,Te,T3,by rw[<-ht],?_⟩
  ·rw[<-hg];simp[sz]
  ·first|(simp;done)|(rcases hp with rfl|⟨_,_,_,_,_,_,_,rfl⟩<;>simp)
 ·exact λb o q n=>by obtain⟨sl,z⟩:=k1.2.2 b o q;exact⟨sl,keep b _ (eS b o q n) z⟩
theorem zgk (fr:A.frames=some (env::outer))(ff:s.heap.FunFrames base (env::outer))(el:env.frame=some L)(ge:s.heap.get? e=some ob)(st:base.StaysIn s.heap)(be:base.get? e=none)(da:ob.data=.fields vs)(v1:vs[1]?=some .none)
  (go:∀h',base.StaysIn h'->h'.FunFrames base (env::outer)->TrD h' base e ob.cls ob.dict (j6 L)->s.heap.UpToSlots h'->Q () {s with heap:=h'}):wpAny M A (tw (.ref e) env) Q E s:=by
 unfold tw;simp only[el];refine ac (fj ge da v1 ?_);exact z9a fr ff el ge st be da (i8.mp v1).1 go
theorem zk3 (fr:A.frames=some (env::outer))(ff:s.heap.FunFrames base (env::outer))(el:env.frame=some L)(tr:TrD s.heap base e cls dd .none)(st:base.StaysIn s.heap)(be:base.get? e=none)
  (go:∀h',base.StaysIn h'->h'.FunFrames base (env::outer)->TrD h' base e cls dd (j6 L)->s.heap.UpToSlots h'->Q () {s with heap:=h'}):wpAny M A (tw (.ref e) env) Q E s:=by
 obtain⟨ob,vs,T,oT,ts,ge,rfl,rfl,da,v1,bT,Te,gT,dT,t3⟩:=tr;unfold tw;simp only[el];refine ac (fj ge da v1 ?_);refine ac (fj gT dT t3 ?_);refine ac (mf gT dT (i8.mp t3).1 ?_);generalize hg:(λv:Array Value=>v.setIfInBounds 3 Value.none)=g;have rU:∀b,b≠T->(s.heap.update T (Obj.mapFields g)).get? b=s.heap.get? b:=λb n=>gq _ _ (Ne.symm n);have eS:∀b o,s.heap.get? b=some o->(∀vs,o.data≠.fields vs)->b≠T:=λb o q n z=>by rw[z,gT]at q;cases q;exact n ts dT
 refine z9a fr (ff.of_keeps λb o q n=>⟨o,by rw[<-q];exact rU b (eS b o q n),rfl⟩) el ((rU e (Ne.symm Te)).trans ge) (λb o q=>(rU b λz=>by rw[z,bT]at q;cases q).trans (st b o q)) be da (i8.mp v1).1 λh' k1 k2 k3 k4=>go h' k1 k2 k3 λb o q n=>k4 b o ((rU b (eS b o q n)).trans q) n
theorem zi5 (st:base.StaysIn s.heap)(ff:s.heap.FunFrames base l)(tr:TrD s.heap base e cls dd fl)
  (go:∀h',base.StaysIn h'->h'.FunFrames base l->TrD h' base e cls dd .none->s.heap.UpToSlots h'->Q () {s with heap:=h'}):wpAny M A (setFlight (.ref e) none) Q E s:=by
 obtain⟨ob,vs,T,oT,ts,ge,hc,hd,da,v1,bT,Te,gT,dT,t3⟩:=tr;have sz:=(i8.mp t3).1;refine ac (fj ge da v1 ?_);refine mf gT dT sz ?_;generalize hg:(λv:Array Value=>v.setIfInBounds 3 ((none:Option Addr).elim Value.none λf=>j6 f))=g;have rU:∀b,b≠T->(s.heap.update T (Obj.mapFields g)).get? b=s.heap.get? b:=λb n=>gq _ _ (Ne.symm n);have eS:∀b o,s.heap.get? b=some o->(∀vs,o.data≠.fields vs)->b≠T:=λb o q n z=>by rw[z,gT]at q;cases q;exact n ts dT
 refine go _ (λb o q=>(rU b λz=>by rw[z,bT]at q;cases q).trans (st b o q)) (ff.of_keeps λb o q n=>⟨o,(rU b (eS b o q n)).trans q,rfl⟩) ⟨ob,vs,T,_,_,(rU e (Ne.symm Te)).trans ge,hc,hd,da,v1,bT,Te,jb _ gT (Obj.isFreed_of_fields (Obj.data_mapFields dT _)),Obj.data_mapFields dT _,by rw[<-hg];simp[sz]⟩ λb o q n=>⟨o.slots,(rU b (eS b o q n)).trans q⟩
theorem zfw (fr:A.frames=some (env::outer))(el:env.frame=some L)(fl:FlD base (env::outer) e cls dd s.heap)
  (go:∀h',M8 base (env::outer) e cls dd L h'->s.heap.UpToSlots h'->Q () {s with heap:=h'}):wpAny M A (tw (.ref e) env) Q E s:=by
 obtain⟨f1,f2,f3,f4⟩:=fl;exact zk3 fr f3 el f4 f1 f2 λh' k1 k2 k3 k4=>go h' ⟨k1,f2,k2,k3⟩ k4
theorem V0 (x:M8 base l e cls dd L s.heap)(go:∀h',FlD base l e cls dd h'->s.heap.UpToSlots h'->Q () {s with heap:=h'}):wpAny M A (setFlight (.ref e) none) Q E s:=by obtain⟨f1,f2,f3,f4⟩:=x;exact zi5 f1 f3 f4 λh' k1 k2 k3 k4=>go h' ⟨k1,f2,k2,k3⟩ k4
theorem zgs (fr:A.frames=some (env::outer))(el:env.frame=some L)(fl:FlD base (env::outer) e cls dd s.heap)
  (go:∀h',FlD base outer e cls dd h'->s.heap.UpToSlots h'->Q () {s with heap:=h'}):wpAny M A (xg env (.ref e)) Q E s:=by
 refine ac (zfw fr el fl λh1 k1 u1=>V0 k1 λh2 k2 u2=>?_);obtain⟨f1,f2,⟨_,_,f3⟩,f4⟩:=k2;exact go h2 ⟨f1,f2,f3,f4⟩ (u1.trans u2)
theorem zc7 (fr:A.frames=some (env::outer))(ff:s.heap.FunFrames base (env::outer))(el:env.frame=some L)(ge:s.heap.get? e=some ob)(st:base.StaysIn s.heap)(be:base.get? e=none)(da:ob.data=.fields vs)(v1:vs[1]?=some .none)
  (go:∀h',FlD base outer e ob.cls ob.dict h'->s.heap.UpToSlots h'->Q () {s with heap:=h'}):wpAny M A (xg env (.ref e)) Q E s:=by
 refine ac (zgk fr ff el ge st be da v1 λh1 k1 k2 k3 u1=>zi5 k1 k2 k3 λh2 j1 j2 j3 u2=>?_);obtain⟨_,_,f3⟩:=j2;exact go h2 ⟨j1,be,f3,j3⟩ (u1.trans u2)
end
structure Fly (P:cu)(w:World)(base:Heap)(outer:List Env)(H:Hp)(s:aw)(C a:Addr)(H':Hp)(s':aw)(dd:Option Addr):Prop where
 os:s'.os=s.os
 bare:n5 s'.gens
 dU:∀b xs,H b=some (.tup xs)->H' b=some (.tup xs)
 dO:∀b o u,H b=some (.gO o u)->H' b=some (.gO o u)
 dW:∀b ps,H b=some (.pO ps)->∃more,H' b=some (.pO (ps++more))
 free:∀b o,s.heap.get? b=some o->H b=none->H' b=none
 hh:∃B,base.StaysIn B/\HOk P w H' B/\(∀b o,s.heap.get? b=some o->b∉frs outer->∃o',B.get? b=some o'/\(H b=none->o'=o))/\FlD B outer a (.ref C) dd s'.heap
 slot:∀b o,s.heap.get? b=some o->H b=none->b∈frs outer->∃sl,s'.heap.get? b=some {o with slots:=sl}
def CXE (P:cu)(w:World)(base:Heap):CXT:=λouter H s E e s'=>∃a C dd H',e=.ref a/\Fly P w base outer H s C a H' s' dd/\E (.ref C) dd H'
section
variable {P:cu}{w:World}{base:Heap}{outer:List Env}{H H':Hp}{s s':aw}{C a:Addr}{dd:Option Addr}
theorem Fly.hok (f:Fly P w base outer H s C a H' s' dd):HOk P w H' s'.heap:=by obtain⟨B,_,hB,_,fl⟩:=f.hh;exact hB.kept fl.1
theorem Fly.un (f:Fly P w base outer H s C a H' s' dd):Un (frs outer) [] H H' s.heap s'.heap:=by
 obtain⟨B,_,hB,Dt,fl⟩:=f.hh;refine⟨λb o e n hb _=>?_,λb o e n hb _=>f.slot b o e n hb,λb o e n _=>f.free b o e n,λb o e _=>?_,f.dU,f.dO,f.dW⟩
 ·obtain⟨o',e1,e2⟩:=Dt b o e hb;rw[e2 n]at e1;exact fl.1 b o e1
 ·by_cases hb:b∈frs outer
  ·obtain⟨_,o3,e3,_⟩:=fl.2.2.1.mem hb;exact⟨o3,e3⟩
  ·obtain⟨o',e1,_⟩:=Dt b o e hb;exact⟨o',fl.1 b o' e1⟩
end
section
variable {X:Cx}{pins:List (Addr×Obj)}{U:L2.St}{H H':Hp}{s s':aw}{C a:Addr}{dd:Option Addr}
theorem Fly.leave {M:Model}{outer:List Env}{Q:Unit->aw->Prop}{E:Value->aw->Prop}(f:Fly X.prog X.w X.base X.stack H s C a H' s' dd)(I:Inv X pins U H s)(hs:X.stack=X.env::X.outer)(hf:X.env.frame=some X.env.locals)(hx:X.ex=[])
  (hQ:∀pQ,Fly X.prog X.w X.base X.outer X.iO X.s₀ C a H' pQ dd->Q () pQ):wpAny M X.A (xg X.env (.ref a)) Q E s':=by
 obtain⟨B,hb,hB,Dt,fl⟩:=f.hh;rw[hs]at fl;have Af:X.A.frames=some (X.env::X.outer):=by rw[<-hs];exact I.ok.frames
 have u0:=I.base
 have rV:∀b o,X.s₀.heap.get? b=some o->b∉frs X.outer->b∉frs X.stack:=λb o e hn z=>by
  rw[hs]at z;unfold frs at z hn;rw[iw,hf]at z;rcases ao.mp z with z|z
  ·exact absurd (bn e) (by rw[z];exact Nat.not_lt.mpr I.ok.above)
  ·exact hn z
 have slot:∀h',s'.heap.UpToSlots h'->∀b o,X.s₀.heap.get? b=some o->X.iO b=none->b∈frs X.outer->∃sl,h'.get? b=some {o with slots:=sl}:=λh' up b o e n hn=>by
  have nx:b∉X.ex:=by rw[hx];simp
  obtain⟨sl,e1⟩:=I.base.slot b o e n hn nx;have hst:b∈frs X.stack:=by rw[hs];unfold frs;rw[iw,hf];exact br _ hn
  obtain⟨qM,e2⟩:=f.slot b _ e1 (I.base.free b o e n nx) hst;obtain⟨_,o3,e3,nd⟩:=I.ok.dX.mem hn;rw[e]at e3;cases e3;obtain⟨HL,e4⟩:=up b _ e2 nd;exact⟨HL,e4⟩
 refine zgs Af hf fl λh' V1 up=>hQ _ ⟨f.os.trans I.os,f.bare,λb xs e=>f.dU b xs (u0.dU b xs e),λb o u e=>f.dO b o u (u0.dO b o u e),λb ps e=>?_,λb o e n=>?_,⟨B,hb,hB,λb o e hn=>?_,V1⟩,slot h' up⟩
 ·obtain⟨m1,e1⟩:=u0.dW b ps e;obtain⟨m2,e2⟩:=f.dW b _ e1;exact⟨m1++m2,by rw[e2,uu]⟩
 ·have nx:b∉X.ex:=by rw[hx];simp
  obtain⟨o',e'⟩:=I.base.there b o e nx;exact f.free b o' e' (I.base.free b o e n nx)
 ·have nx:b∉X.ex:=by rw[hx];simp
  obtain⟨o1,e1⟩:=I.base.there b o e nx;obtain⟨o2,e2,e3⟩:=Dt b o1 e1 (rV b o e hn);refine⟨o2,e2,λn=>?_⟩;rw[e3 (I.base.free b o e n nx)];have:=I.base.keep b o e n hn nx;rw[this]at e1;cases e1;rfl
theorem V2 (x:HOk P w H h)(n:∀b∈l,H b=none):HOk P w H (W.hideAll h l):=λb o e=>by
 refine(x b o e).stay (λc u hc q=>W.hideAll_get _ q λz=>?_) (λ_ q=>q) λ_ _ q=>q;rcases hc with rfl|hc
 ·rw[n c z]at e;cases e
 ·rw[n c z]at hc;cases hc
theorem zef (I:Inv X pins U H s)(h0:X.s₀.heap.get? a=none)(hH:H a=none)(ge:s.heap.get? a=some ob)(hc:ob.cls=.ref C)(da:ob.data=.fields vs)(v1:vs[1]?=some .none)(hs:X.stack=X.env::X.outer)(hf:X.env.frame=some X.env.locals)(hx:X.ex=[])
  (hQ:∀pQ,Fly X.prog X.w X.base X.outer X.iO X.s₀ C a H pQ ob.dict->Q () pQ):wpAny M X.A (xg X.env (.ref a)) Q E s:=by
 have nx:∀b,b∉X.ex:=λb=>by rw[hx];simp
 have hst:=I.stack;rw[hs]at hst
 have eO:∀b∈a::frs (X.env::X.outer),H b=none:=λb hb=>by
  rcases ao.mp hb with rfl|hb
  ·exact hH
  ·exact I.gQ b (hs▸hb)
 have rV:∀b o,X.s₀.heap.get? b=some o->b∉frs X.outer->b∉a::frs (X.env::X.outer):=λb o e hn z=>by
  rcases ao.mp z with rfl|z
  ·rw[h0]at e;cases e
  unfold frs at z hn;rw[iw,hf]at z;rcases ao.mp z with z|z
  ·exact absurd (bn e) (z▸Nat.not_lt.mpr I.ok.above)
  ·exact hn z
 refine zc7 (base:=W.hideAll s.heap (a::frs (X.env::X.outer))) (hs▸I.ok.frames) (W.funFrames_hide hst (λenv he b hb=>br _ (jr.mpr ⟨env,he,hb⟩))) hf ge (λb o q=>W.of_hideAll _ q) (W.hideAll_none _ bh) da v1 λh' fl up=>hQ _ ⟨I.os,I.bare,I.base.dU,I.base.dO,I.base.dW,λb o e n=>I.base.free b o e n (nx b),⟨_,λb o e=>W.hideAll_get _ (I.bk b o e) (rV b o (I.ok.bs b o e).1 (I.ok.zt e)),V2 I.hok eO,λb o e hn=>?_,by rw[hc]at fl;exact fl⟩,λb o e n hn=>?_⟩
 ·obtain⟨o1,e1⟩:=I.base.there b o e (nx b);refine⟨o1,W.hideAll_get _ e1 (rV b o e hn),λn=>?_⟩;rw[I.base.keep b o e n hn (nx b)]at e1;cases e1;rfl
 obtain⟨sl,e1⟩:=I.base.slot b o e n hn (nx b);obtain⟨_,o3,e3,nd⟩:=I.ok.dX.mem hn;rw[e]at e3;cases e3;obtain⟨HL,e4⟩:=up b _ e1 nd;exact⟨HL,e4⟩
end
def M' (K:W.Frag)(mg:Str->Option Value)(n:Nat)(m:Fn):Sp:=λvs H _ E=>∃A ds c,vs.length=n/\Reps K H A vs ds/\excOf (m ds)=some c/\∀C H',mg c=some (.ref C)->Same H H'->E (.ref C) none H'
def pA (P:cu)(w:World)(K:W.Frag)(mg:Str->Option Value)(base:Heap)(k:Nat)(x:Str)(ps:List Str)(n:Nat)(m:Fn):Prop:=∃f fd,FnOk P w K mg base (CXE P w base) k f fd ps (M' K mg n m)/\mg x=some (.ref f)/\W.keepIn K (.ref f)=true/\Binds K fd ps []
section
variable {X:Cx}{n x:Str}{p p1 p2 pos:Pos}{a C:Addr}{oe:Obj}{v:V}{u:Value}{b:Bool}
theorem V3 (hx:X.fx=[(n,.ref a)])(hl:X.env.scope.names.lookup n=some .local)(hd:aac n):PE X (.Name n p) (λ_ H Q=>Q (.ref a) H):=by intro pins s U H Q I h;obtain⟨m,hn,hm⟩:=I.fx n _ (hx▸ah.mpr rfl);exact uw (sh I.ok.kind hl hn hm ⟨.ref a,H,I,rfl,h⟩) hd
theorem V4 (hg:Gl X x)(hm:X.mg x=some u\/(X.mg x=none/\df x=some u/\x≠"__name__"))(r:RelV v u)(hd:aac x):PE X (.Name x p) (λ_ H Q=>Q v H):=by
 intro pins s U H Q I h;rcases hm with hm|⟨h1,h2,h3⟩
 ·exact z7v I hg hm ⟨v,H,I,r,h⟩ hd
 ·exact z2e I hg h1 h2 ⟨v,H,I,r,h⟩ h3 hd
def Xh (X:Cx)(a:Addr)(oe:Obj):Prop:=∀pins U H s,Inv X pins U H s->s.heap.get? a=some oe
theorem zvs (hm:X.mg "isinstance"=none)(hg:Gl X "isinstance")(hx:X.fx=[(n,.ref a)])(hl:X.env.scope.names.lookup n=some .local)(hd:aac n)(hp:Xh X a oe)(hc:oe.cls=.ref C)
  (HM:Gl X x) (V5:X.mg x=some u\/(X.mg x=none/\df x=some u/\x≠"__name__")) (r:RelV v u) (ru:∀w,RelV v w->w=u) (V6:aac x) (xa:XA X.K C) (xv:XV X.K u) (hs:W.subIn X.K (.ref C) u=some b):
  PE X (.Call (.Name "isinstance" p) [.Name n p1,.Name x p2] [] pos) (tD X.K λ_=>.ok (.fr,.bool b)):=by
 rintro pins s U H Q I ⟨Y,F,z,so,e,q⟩
 cases e;refine lr (z2e (u:=.builtin "isinstance") I hg hm (by decide+kernel) ?_ dc dc);refine PyProof.Rows.callWith_builtin1 (aM ((EU (V3 (p:=p1) hx hl hd) (EU (V4 (p:=p2) HM V5 r V6) lP)) pos pins s U H (λvs H1=>vs=[.ref a,v]/\H1=H) I ⟨rfl,rfl⟩) λus s1 zz=>?_) rfl rfl;obtain⟨vs,H1,I1,r1,rfl,rfl⟩:=zz;cases r1 with
 |cons ra rt=>
  cases rt with
  |cons rb rn=>cases rn;rename_i w1 w2;obtain rfl:w1=Value.ref a:=ra;have e2:=ru w2 rb;subst e2;exact zvv I1.gB xa (hp _ _ _ _ I1) hc xv hs λt'=>⟨.bl b,H1,I1.tok _,rfl,q _ H1 (Same.refl H1) rfl⟩
end
section
theorem aE (h:(a&&b)=true):a=true/\b=true:=av.mp h
theorem aY (h:(a&&b&&c)=true):a=true/\b=true/\c=true:=⟨(aE (aE h).1).1,(aE (aE h).1).2,(aE h).2⟩
theorem bU (h:(a&&b&&c&&d)=true):a=true/\b=true/\c=true/\d=true:=⟨(aY (aE h).1).1,(aY (aE h).1).2.1,(aY (aE h).1).2.2,(aE h).2⟩
theorem fW (h:(a&&b&&c&&d&&e)=true):a=true/\b=true/\c=true/\d=true/\e=true:=⟨(bU (aE h).1).1,(bU (aE h).1).2.1,(bU (aE h).1).2.2.1,(bU (aE h).1).2.2.2,(aE h).2⟩
theorem dR (h:(!b)=true):b=false:=by cases b<;>first|rfl|cases h
theorem ff {p:Prop}(h:b=false)(z:b=true):p:=by rw[h]at z;cases z
theorem iI (h:l.isEmpty=true):l=[]:=by cases l<;>first|rfl|cases h
theorem Bl (h:(!l.isEmpty)=true):∃x r,l=x::r:=by cases l<;>first|exact⟨_,_,rfl⟩|cases h
theorem aK (h:o.any f=true):∃v,o=some v/\f v=true:=by
 cases o with
 |none=>cases h
 |some v=>exact⟨v,rfl,h⟩
theorem cB {α:Type}{o:Option α}{v:α}{q:α->Prop}(h:o=some v)(d:o=none\/∃u,o=some u/\q u):q v:=by grind
theorem Bm (h:FN e=some v):∃p,e=.Name v p:=cB (q:=λv=>∃p,e=.Name v p) h (by cases e<;>first|exact .inl rfl|exact .inr ⟨_,rfl,_,rfl⟩)
theorem Bn (h:j' e=some v):∃k p,e=.Constant v k p:=cB (q:=λv=>∃k p,e=.Constant v k p) h (by cases e<;>first|exact .inl rfl|exact .inr ⟨_,rfl,_,_,rfl⟩)
theorem Na (h:vT e=some v):∃p,e=.BinOp v.1 v.2.1 v.2.2 p:=cB (q:=λv=>∃p,e=.BinOp v.1 v.2.1 v.2.2 p) h (by cases e<;>first|exact .inl rfl|exact .inr ⟨_,rfl,_,rfl⟩)
theorem wW (h:C2 e=some v):∃p,e=.UnaryOp v.1 v.2 p:=cB (q:=λv=>∃p,e=.UnaryOp v.1 v.2 p) h (by cases e<;>first|exact .inl rfl|exact .inr ⟨_,rfl,_,rfl⟩)
theorem wX (h:yw e=some v):∃p,e=.Compare v.1 v.2.1 v.2.2 p:=cB (q:=λv=>∃p,e=.Compare v.1 v.2.1 v.2.2 p) h (by cases e<;>first|exact .inl rfl|exact .inr ⟨_,rfl,_,rfl⟩)
theorem mQ (h:vU e=some v):e=.BoolOp v.1 v.2.1 v.2.2:=cB (q:=λv=>e=.BoolOp v.1 v.2.1 v.2.2) h (by cases e<;>first|exact .inl rfl|exact .inr ⟨_,rfl,rfl⟩)
theorem V7 (h:Ax e=some v):∃p,e=.IfExp v.1 v.2.1 v.2.2 p:=cB (q:=λv=>∃p,e=.IfExp v.1 v.2.1 v.2.2 p) h (by cases e<;>first|exact .inl rfl|exact .inr ⟨_,rfl,_,rfl⟩)
theorem Du (h:rA e=some v):∃k p,e=.Tuple v k p:=cB (q:=λv=>∃k p,e=.Tuple v k p) h (by cases e<;>first|exact .inl rfl|exact .inr ⟨_,rfl,_,_,rfl⟩)
theorem Nb (h:vV e=some v):∃p,e=.List v p:=cB (q:=λv=>∃p,e=.List v p) h (by cases e<;>first|exact .inl rfl|exact .inr ⟨_,rfl,_,rfl⟩)
theorem Bo (h:FO e=some v):∃p,e=.Dict v.1 v.2 p:=cB (q:=λv=>∃p,e=.Dict v.1 v.2 p) h (by cases e<;>first|exact .inl rfl|exact .inr ⟨_,rfl,_,rfl⟩)
theorem yJ (h:kA e=some v):∃p,e=.Subscript v.1 v.2 p:=cB (q:=λv=>∃p,e=.Subscript v.1 v.2 p) h (by cases e<;>first|exact .inl rfl|exact .inr ⟨_,rfl,_,rfl⟩)
theorem V8 (h:Ay e=some v):∃p,e=.Slice v.1 v.2.1 v.2.2 p:=cB (q:=λv=>∃p,e=.Slice v.1 v.2.1 v.2.2 p) h (by cases e<;>first|exact .inl rfl|exact .inr ⟨_,rfl,_,rfl⟩)
theorem Bp (h:FP e=some v):e=.Call v.1 v.2.1 v.2.2.1 v.2.2.2:=cB (q:=λv=>e=.Call v.1 v.2.1 v.2.2.1 v.2.2.2) h (by cases e<;>first|exact .inl rfl|exact .inr ⟨_,rfl,rfl⟩)
theorem HN (h:LO e=some v):e=.Attribute v.1 v.2.1 v.2.2:=cB (q:=λv=>e=.Attribute v.1 v.2.1 v.2.2) h (by cases e<;>first|exact .inl rfl|exact .inr ⟨_,rfl,rfl⟩)
theorem Bq (h:FQ e=some v):∃p,e=.ListComp v.1 v.2.1 v.2.2 p:=cB (q:=λv=>∃p,e=.ListComp v.1 v.2.1 v.2.2 p) h (by cases e<;>first|exact .inl rfl|exact .inr ⟨_,rfl,_,rfl⟩)
theorem hX (h:bS l=some v):l=[v]:=by rcases l with _|⟨x,_|⟨y,l⟩⟩<;>cases h;rfl
theorem Br (h:mF l=some v):l=[v.1,v.2]:=by rcases l with _|⟨x,_|⟨y,_|⟨z,l⟩⟩⟩<;>cases h;rfl
theorem kG (h:kB e=some v):∃q p,e=.Call (.Name v.1 q) v.2 [] p:=by
 obtain⟨u,hu,h⟩:=l5.mp h;cases hk:u.2.2.1.isEmpty with
 |false=>rw[hk]at h;simp_all
 |true=>rw[hk]at h;obtain⟨x,hx,rfl⟩:=ci.mp h;obtain⟨q,hq⟩:=Bm hx;exact⟨q,_,by rw[Bp hu,hq,iI hk]⟩
theorem pB (h:vW e=some v):∃ap cp,e=.Call (.Attribute v.1 v.2.1 ap) v.2.2.1 [] cp/\v.2.2.2=(ap.endLine==cp.line):=by
 obtain⟨u,hu,h⟩:=l5.mp h;cases hk:u.2.2.1.isEmpty with
 |false=>rw[hk]at h;simp_all
 |true=>rw[hk]at h;obtain⟨x,hx,rfl⟩:=ci.mp h;exact⟨_,_,by rw[Bp hu,HN hx,iI hk],rfl⟩
theorem jK (h:mG f e=true):∃x p,e=.Name x p/\f x=true:=by obtain⟨x,hx,h⟩:=aK h;obtain⟨p,hp⟩:=Bm hx;exact⟨x,p,hp,h⟩
def V9 (K:W.Frag)(mg:Str->Option Value)(c C:Str)(b:Bool):Prop:=∃A v u,mg c=some (.ref A)/\XA K A/\XV K u/\W.subIn K (.ref A) u=some b/\RelV v u/\(∀w,RelV v w->w=u)/\(mg C=some u\/(mg C=none/\df C=some u/\C≠"__name__"))
def HP (K:W.Frag)(mg:Str->Option Value)(c:Str):Prop:=∃C,mg c=some (.ref C)/\HH K C=true
def V' (K:W.Frag)(mg:Str->Option Value)(c B:Str):Prop:=∃C D,mg c=some (.ref C)/\mg B=some (.ref D)/\mP K C=true/\mP K D=true/\W.subIn K (.ref C) (.ref D)=some true
structure wY (Γ:Gm)(K:W.Frag)(mg:Str->Option Value):Prop where
 sub:∀c C b,Γ.sub.contains (c,C,b)=true->V9 K mg c C b
 rs:∀c,Γ.rs.contains c=true->HP K mg c
 pU:∀c B,Γ.pU.contains (c,B)=true->V' K mg c B
structure Cok (Γ:Gm)(Κ:List D)(Φ:List Fn)(X:Cx)(r:Nat):Prop where
 hN:X.N=Γ.N
 hs:X.env.scope=Γ.sc
 nd:Γ.N.Nodup
 fn:Γ.blk=false->∀x,X.fn x=true
 kind:Γ.sc.kind=.function
 free:∀x,Γ.free.contains x=true->X.mg x=none
 fns:∀(j:Nat) f n,Γ.fns[j]?=some (f,n)->∃m k ps,Φ[j]?=some m/\k<=r/\Cal X.prog X.w X.K X.mg X.base k f ps (spD X.K n m)
 cst:∀(j:Nat) x,Γ.cst[j]?=some x->∃d a,Κ[j]?=some d/\X.mg x=some (.ref a)/\∀H B,B none->Rep X.K H B (.ref a) d
 wZ:∀(j:Nat) f n,Γ.fns[j]?=some (f,n)->∃m k ps,Φ[j]?=some m/\k<=r/\pA X.prog X.w X.K X.mg X.base k f ps n m
 room:Γ.cm=true->Room r X.A
 calm:Γ.cm=true->X.calm=true
 hu:X.A.units+64<cLine
 HQ:Γ.blk=false->X.stack=X.env::X.outer/\X.env.frame=some X.env.locals
 Nc:Γ.xc=none->∀x u,(x,u)∈X.fx->Γ.kp.contains x=true
 xc:∀n c,Γ.xc=some (n,c)->∃a oe C,X.fx=[(n,.ref a)]/\Xh X a oe/\oe.cls=.ref C/\X.mg c=some (.ref C)
 xk:wY Γ X.K X.mg
section
variable {Γ:Gm}{Κ:List D}{Φ:List Fn}{X:Cx}{r:Nat}
theorem Cok.gl (k:Cok Γ Κ Φ X r)(h:vS Γ x=true):Gl X x/\aac x:=by unfold vS at h;rw[bq]at h;refine⟨?_,by simpa using h.2⟩;show X.env.scope.names.lookup x=_;rw[k.hs];simpa using h.1
theorem Cok.aJ (k:Cok Γ Κ Φ X r)(h:hJ Γ i x=true):X.N[i]?=some x/\Vis X.env.scope x/\aac x/\(x==("__classdict__":Str))=false:=by
 unfold hJ at h;simp at h;have⟨⟨⟨h1,h2⟩,h3⟩,h4⟩:=h;refine⟨by rw[k.hN];exact h1,?_,by simpa using h3,by simpa using h4⟩;rw[k.hs];rcases h2 with(h2|h2)|h2
 ·exact .inl h2
 ·exact .inr (.inl h2)
 ·exact .inr (.inr h2)
theorem Cok.loc (k:Cok Γ Κ Φ X r)(h:mE Γ i x=true):X.N[i]?=some x/\Loc X.env.scope x/\Sto X x:=by
 unfold mE at h;simp only[bq,gy,beq_iff_eq,j0]at h;obtain⟨⟨h1,h2⟩,h3,h4⟩:=h;refine⟨by rw[k.hN];exact h1,?_,?_,λu z=>?_⟩
 ·unfold L2.Loc;rw[k.hs];rcases h2 with h2|⟨_,h2⟩
  ·exact .inl h2
  ·exact .inr h2
 ·rcases h2 with h2|⟨h2,_⟩
  ·exact .inr (k.hs▸h2)
  ·exact .inl (k.fn h2 x)
 ·cases e:Γ.xc with
  |none=>rw[k.Nc e x u z]at h3;cases h3
  |some p=>obtain⟨a,oe,C,e1,_⟩:=k.xc p.1 p.2 e;rw[e1]at z;have e2:x=p.1:=congrArg xr (ah.mp z);rw[e]at h4;have h4:(!(p.1==x))=true:=h4;rw[e2,beq_self_eq_true]at h4;cases h4
theorem Cok.blt (k:Cok Γ Κ Φ X r)(h:cM Γ x=true):Gl X x/\X.mg x=none/\aac x/\x≠"__name__":=by unfold cM at h;simp only[av]at h;obtain⟨⟨h1,h2⟩,h3⟩:=h;obtain⟨g1,g2⟩:=k.gl h1;exact⟨g1,k.free x h2,g2,by simpa using h3⟩
theorem Wa {C:Addr}:(blk X scope N' C fp s H).env.scope=C1 scope X.env.scope:=rfl
theorem Cok.blk (k:Cok Γ Κ Φ X r)(hk:scope.kind=.function)(nd:N'.Nodup)(C:Addr)(fp:List Addr)(s:aw)(H:Hp):Cok {Γ with N:=N',sc:=C1 scope Γ.sc,blk:=true,xc:=none,kp:=[]} Κ Φ (blk X scope N' C fp s H) r where
 hN:=rfl
 hs:=by rw[Wa,k.hs]
 nd:=nd
 fn:=λz=>by cases z
 kind:=hk
 free:=k.free
 fns:=k.fns
 cst:=k.cst
 wZ:=k.wZ
 room:=k.room
 calm:=k.calm
 hu:=k.hu
 HQ:=λz=>by cases z
 Nc:=λ_ _ _ z=>by cases z
 xc:=λ_ _ z=>by cases z
 xk:=⟨k.xk.sub,k.xk.rs,k.xk.pU⟩
theorem Wb (k:Cok Γ Κ Φ X r)(all:List Nat):∀{es:List Expr},FR Γ is es=true->PGs X es (oQ X.K all is)/\(gm es X.env).length=is.length/\(gm es X.env).findIdx? (·.1)=none:=by
 induction is with
 |nil=>intro es h;cases iI h;exact⟨UC,rfl,rfl⟩
 |cons i is ih=>
  intro es h;cases es with
  |nil=>cases h
  |cons e es=>
   obtain⟨h0,h9⟩:=aE h;obtain⟨x,p,rfl,h0⟩:=jK h0;obtain⟨h1,h2,h3⟩:=k.loc h0;obtain⟨a1,a2,a3⟩:=ih h9;refine⟨UD (k.hN▸k.nd) h1 h2 h3 a1,?_,?_⟩
   ·show(gm es X.env).length+1=_;rw[a2];rfl
   ·show((false,ux (.Name x p) X.env)::gm es X.env).findIdx? (·.1)=none;rw[List.findIdx?_cons,a3];rfl
theorem yK (k:Cok Γ Κ Φ X r)(h:rC Γ t e=true):PG X e (tDG X.K t):=by
 cases t with
 |nm i=>obtain⟨x,p,rfl,h9⟩:=jK h;obtain⟨h1,h2,h3⟩:=k.loc h9;exact UB (k.hN▸k.nd) h1 h2 h3
 |tp is=>obtain⟨h0,h⟩:=aE h;obtain⟨v,hv,h9⟩:=aK h;obtain⟨_,_,rfl⟩:=Du hv;obtain⟨a1,a2,a3⟩:=Wb k is h9;exact UE (k.calm h0) a1 rfl a3 a2.symm
theorem Wd (h:plainT e=true)(env:Env):∀whole,wu e env whole=(do let v <-whole;standAt e.pos;holding [v] (truthy v)):=by
 intro whole;cases e<;>first|(cases h;done)|rfl|skip
 rename_i op x p;cases op<;>first|(cases h;done)|rfl
theorem xA (h:tO e=true)(env:Env):∀x,ij e env x=pure x:=by intro x;cases e<;>first|(cases h;done)|rfl
end
variable (Κ:List D)(Φ:List Fn)
theorem Wf (c:C):∀Γ es Y ys,eI Γ c es=true->dY Κ Φ c Y=.ok ys->ys.length=es.length/\(es.all λe=>!isStar e)=true:=by
 induction c with
 |nil=>intro Γ es Y ys h e;cases iI h;cases e;exact⟨rfl,rfl⟩
 |cons a r _ ih=>
  intro Γ es Y ys h e;cases es with
  |nil=>cases h
  |cons x es=>obtain⟨h1,_,h3⟩:=aY h;obtain⟨y,_,e⟩:=Res.aA e;obtain⟨L7,e2,e⟩:=Res.aA e;cases e;obtain⟨i1,i2⟩:=ih Γ es Y L7 h3 e2;exact⟨by rw[bt,bt,i1],by rw[db,i2,h1];rfl⟩
 |_=>exact λ_ _ _ _ h=>ff rfl h
end
section
theorem Wg (h:tyB Γ T t=true):∃x p,t=.Name x p/\x=Str.ofString T/\cM Γ x=true/\T∈tysB:=by obtain⟨x,p,e,h⟩:=jK h;obtain⟨h1,h2,h3⟩:=aY h;exact⟨x,p,e,x9 h1,h2,dq.mp h3⟩
theorem HR (h:(a||b)=true)(n:b=false):a=true:=by rw[n,Bool.or_false]at h;exact h
theorem Wh (h:T∈tysB):df (Str.ofString T)=some (.type T):=by simp only[tysB,ao,gg,or_false]at h;rcases h with rfl|rfl|rfl|rfl|rfl<;>decide+kernel
variable (Κ:List D)(Φ:List Fn)
theorem xB:∀{c:C} {es:List Expr},eI Γ c es=true->(es.all λe=>!isStar e)=true:=by
 intro c
 induction c with
 |nil=>intro es h;cases iI h;rfl
 |cons a r _ ih=>
  intro es h;cases es with
  |nil=>rfl
  |cons e es=>obtain⟨h1,_,h3⟩:=aY h;rw[db,ih h3,h1];rfl
 |_=>exact λh=>ff rfl h
theorem Dv (h:eI Γ c es=true):∀Y ys,dY Κ Φ c Y=.ok ys->ys.length=es.length:=λY ys e=>(Wf Κ Φ c Γ es Y ys h e).1
structure Sd (c:C):Prop where
 E:∀(Γ:Gm) (X:Cx) (r:Nat) (e:Expr),Cok Γ Κ Φ X r->chkE Γ c e=true->PE X e (tD X.K (aG Κ Φ c))
 T:∀(Γ:Gm) (X:Cx) (r:Nat) (e:Expr),Cok Γ Κ Φ X r->eV Γ c e=true->PT X e (eJ X.K (eQ Κ Φ c))/\((∃o l p,e=.BoolOp o l p)->PW X e (eJ X.K (eQ Κ Φ c)))
 Q:∀(Γ:Gm) (X:Cx) (r:Nat) (l:Expr) (ops:List CmpOp) (rs:List Expr) (pos:Pos),Cok Γ Κ Φ X r->chkE Γ c (.Compare l ops rs pos)=true->PT X (.Compare l ops rs pos) (eJ X.K λY=>aG Κ Φ c Y>>=λx=>kY x.2)
 A:∀(Γ:Gm) (X:Cx) (r:Nat) (es:List Expr),Cok Γ Κ Φ X r->eI Γ c es=true->PA X es (tDA X.K (dY Κ Φ c))
 O:∀(Γ:Gm) (X:Cx) (r:Nat) (e:Option Expr),Cok Γ Κ Φ X r->rD Γ c e=true->PO X e (tDO X.K (FH Κ Φ c))
 W:∀(Γ:Gm) (X:Cx) (r:Nat) (e tg:Expr),Cok Γ Κ Φ X r->C4 c tg=true->kC Γ c e=true->PI X tg e (tDW X.K (evW Κ Φ c))
 G:∀(Γ:Gm) (X:Cx) (r:Nat) (e:Expr),Cok Γ Κ Φ X r->vZ Γ c e=true->∃a,c=.tv a/\PE X e (tD X.K (aG Κ Φ a))
def rW:C->Nat
 |.and _ _|.or _ _|.not _|.tv _|.nil|.cons _ _|.jY _|.enum _|.zip _ _=>2
 |.cmp _ _ _=>1
 |_=>0
variable {Κ:List D}{Φ:List Fn}{a b c:C}
section
variable {Γ:Gm}{e tg:Expr}{es:List Expr}{o:Option Expr}
theorem Wi (h:rW c<2):eV Γ c e=false:=by cases c<;>first|rfl|exact absurd h (cq 2)
theorem Wj (h:rW c<2):eI Γ c es=false:=by cases c<;>first|rfl|exact absurd h (cq 2)
theorem Wl (h:rW c<2):rD Γ c o=false:=by cases c<;>first|rfl|exact absurd h (cq 2)
theorem Wm (h:rW c<2):kC Γ c e=false:=by cases c<;>first|rfl|exact absurd h (cq 2)
theorem Wn (h:rW c<2):vZ Γ c e=false:=by cases c<;>first|rfl|exact absurd h (cq 2)
end
theorem Sd.q (hE:∀Γ X r e,Cok Γ Κ Φ X r->chkE Γ c e=true->PE X e (tD X.K (aG Κ Φ c)))(hQ:∀Γ X r l ops rs pos,Cok Γ Κ Φ X r->chkE Γ c (.Compare l ops rs pos)=true->PT X (.Compare l ops rs pos) (eJ X.K λY=>aG Κ Φ c Y>>=λx=>kY x.2))(hx:rW c<2):Sd Κ Φ c:=⟨hE,λ_ _ _ _ _ h=>ff (Wi hx) h,hQ,λ_ _ _ _ _ h=>ff (Wj hx) h,λ_ _ _ _ _ h=>ff (Wl hx) h,λ_ _ _ _ _ _ _ h=>ff (Wm hx) h,λ_ _ _ _ _ h=>ff (Wn hx) h⟩
theorem Wo (h:rW c=0):chkE Γ c (.Compare l ops rs pos)=false:=by cases c<;>first|rfl|(cases h;done)
theorem Sd.x (hE:∀Γ X r e,Cok Γ Κ Φ X r->chkE Γ c e=true->PE X e (tD X.K (aG Κ Φ c)))(hx:rW c=0):Sd Κ Φ c:=Sd.q hE (λ_ _ _ _ _ _ _ _ h=>ff (Wo hx) h) (hx▸Nat.zero_lt_two)
theorem Wq:Sd Κ Φ (.var i):=Sd.x (λΓ X r e k h=>by obtain⟨x,p,rfl,h⟩:=jK h;obtain⟨h1,h2,h3,h4⟩:=k.aJ h;exact T6 h1 h2 h3 h4) rfl
theorem Wr:Sd Κ Φ .bD:=Sd.x (λΓ X r e k h=>by obtain⟨_,_,rfl⟩:=Bn (x5 h);exact C8 Q7 λ_ _=>rfl) rfl
theorem HS {b:Bool}:Sd Κ Φ (.bl b):=Sd.x (λΓ X r e k h=>by obtain⟨_,_,rfl⟩:=Bn (x5 h);exact C8 Q6 λ_ _=>rfl) rfl
theorem Ws {b:Int}:Sd Κ Φ (.int b):=Sd.x (λΓ X r e k h=>by obtain⟨_,_,rfl⟩:=Bn (x5 h);exact C8 Q5 λ_ _=>rfl) rfl
theorem Wt {b:Str}:Sd Κ Φ (.str b):=Sd.x (λΓ X r e k h=>by obtain⟨h1,h2⟩:=aE h;obtain⟨_,_,rfl⟩:=Bn (x5 h1);exact C8 Q8 λ_ _=>⟨rfl,h2⟩) rfl
theorem Wu (ia:Sd Κ Φ a)(ib:Sd Κ Φ b):Sd Κ Φ (.bin op a b):=Sd.x (λΓ X r e k h=>by obtain⟨v,hv,h9⟩:=aK h;obtain⟨p,rfl⟩:=Na hv;obtain⟨h1,h2,h3,h4⟩:=bU h9;cases x5 h1;exact T7 h2 (ia.E Γ X r _ k h3) (ib.E Γ X r _ k h4)) rfl
theorem Nd (h:chkE Γ (.cmp op a b) e=true):∃l r p,e=.Compare l [op] [r] p/\z6r op=true/\gk op r=false/\chkE Γ a l=true/\chkE Γ b r=true:=by obtain⟨⟨l,o,rs⟩,hv,h9⟩:=aK h;obtain⟨p,rfl⟩:=wX hv;obtain⟨h1,h2⟩:=aE h9;obtain⟨r,hr,h3⟩:=aK h2;cases x5 h1;cases hX hr;obtain⟨h2,h3,h4,h5⟩:=bU h3;exact⟨l,r,p,rfl,h2,dR h3,h4,h5⟩
theorem Wv (ia:Sd Κ Φ a)(ib:Sd Κ Φ b):Sd Κ Φ (.cmp op a b):=Sd.q (λΓ X r e k h=>by
 obtain⟨_,_,_,rfl,h2,h3,h4,h5⟩:=Nd h;exact zs6 k.hu h2 h3 (ia.E Γ X r _ k h4) (ib.E Γ X r _ k h5)) (λΓ X r l ops rs p k h=>by
 obtain⟨_,_,_,he,h2,h3,h4,h5⟩:=Nd h;cases he;exact zsu k.hu h2 h3 (ia.E Γ X r _ k h4) (ib.E Γ X r _ k h5)) Nat.one_lt_two
theorem yL (h:vX f g o p xs=true):(∃x y,xs=[x,y]/\f x=true/\g y=true)\/∃x y z r,xs=x::y::z::r/\f x=true/\g (.BoolOp o (y::z::r) p)=true:=by
 rcases xs with _|⟨x,_|⟨y,_|⟨z,xs⟩⟩⟩
 ·cases h
 ·cases h
 ·exact .inl ⟨x,y,rfl,(aE h).1,(aE h).2⟩
 ·exact .inr ⟨x,y,z,xs,rfl,(aE h).1,(aE h).2⟩
theorem Ww (ia:Sd Κ Φ a)(ib:Sd Κ Φ b):Sd Κ Φ (.and a b) where
 E:=λΓ X r e k h=>by
  obtain⟨⟨o,xs,p⟩,hv,h9⟩:=aK h;cases mQ hv;obtain⟨h1,h2⟩:=aE h9;cases x5 h1;rcases yL h2 with⟨x,y,rfl,h3,h4⟩|⟨x,y,z,t,rfl,h3,h4⟩
  ·exact LV (ia.E Γ X r _ k h3) (KR (ib.E Γ X r _ k h4))
  ·exact LV (ia.E Γ X r _ k h3) (ib.E Γ X r _ k h4)
 T:=λΓ X r e k h=>by
  obtain⟨⟨o,xs,p⟩,hv,h9⟩:=aK h;cases mQ hv;obtain⟨h1,h2⟩:=aE h9;cases x5 h1;rcases yL h2 with⟨x,y,rfl,h3,h4⟩|⟨x,y,z,t,rfl,h3,h4⟩
  ·have w:=w_and (pos:=p) (ia.T Γ X r _ k h3).1 (KO (ib.T Γ X r _ k h4).1);exact⟨w.pt,λ_=>w⟩
  ·have w:=w_and (ia.T Γ X r _ k h3).1 ((ib.T Γ X r _ k h4).2 ⟨_,_,_,rfl⟩);exact⟨w.pt,λ_=>w⟩
 Q:=λ_ _ _ _ _ _ _ _ h=>ff rfl h
 A:=λ_ _ _ _ _ h=>ff rfl h
 O:=λ_ _ _ _ _ h=>ff rfl h
 W:=λ_ _ _ _ _ _ _ h=>ff rfl h
 G:=λ_ _ _ _ _ h=>ff rfl h
theorem HU (ia:Sd Κ Φ a)(ib:Sd Κ Φ b):Sd Κ Φ (.or a b) where
 E:=λΓ X r e k h=>by
  obtain⟨⟨o,xs,p⟩,hv,h9⟩:=aK h;cases mQ hv;obtain⟨h1,h2⟩:=aE h9;cases x5 h1;rcases yL h2 with⟨x,y,rfl,h3,h4⟩|⟨x,y,z,t,rfl,h3,h4⟩
  ·exact AK (ia.E Γ X r _ k h3) (KR (ib.E Γ X r _ k h4))
  ·exact AK (ia.E Γ X r _ k h3) (ib.E Γ X r _ k h4)
 T:=λΓ X r e k h=>by
  obtain⟨⟨o,xs,p⟩,hv,h9⟩:=aK h;cases mQ hv;obtain⟨h1,h2⟩:=aE h9;cases x5 h1;rcases yL h2 with⟨x,y,rfl,h3,h4⟩|⟨x,y,z,t,rfl,h3,h4⟩
  ·have w:=w_or (pos:=p) (ia.T Γ X r _ k h3).1 (KP (ib.T Γ X r _ k h4).1);exact⟨w.pt,λ_=>w⟩
  ·have w:=w_or (ia.T Γ X r _ k h3).1 ((ib.T Γ X r _ k h4).2 ⟨_,_,_,rfl⟩);exact⟨w.pt,λ_=>w⟩
 Q:=λ_ _ _ _ _ _ _ _ h=>ff rfl h
 A:=λ_ _ _ _ _ h=>ff rfl h
 O:=λ_ _ _ _ _ h=>ff rfl h
 W:=λ_ _ _ _ _ _ _ h=>ff rfl h
 G:=λ_ _ _ _ _ h=>ff rfl h
theorem Wx (ia:Sd Κ Φ a):Sd Κ Φ (.not a) where
 E:=λΓ X r e k h=>by obtain⟨⟨o,x⟩,hv,h9⟩:=aK h;obtain⟨p,rfl⟩:=wW hv;obtain⟨h1,h2⟩:=aE h9;cases x5 h1;exact Ua (ia.E Γ X r _ k h2)
 T:=λΓ X r e k h=>by obtain⟨⟨o,x⟩,hv,h9⟩:=aK h;obtain⟨p,rfl⟩:=wW hv;obtain⟨h1,h2⟩:=aE h9;cases x5 h1;exact⟨Gg (ia.T Γ X r _ k h2).1,λ⟨_,_,_,z⟩=>by cases z⟩
 Q:=λ_ _ _ _ _ _ _ _ h=>ff rfl h
 A:=λ_ _ _ _ _ h=>ff rfl h
 O:=λ_ _ _ _ _ h=>ff rfl h
 W:=λ_ _ _ _ _ _ _ h=>ff rfl h
 G:=λ_ _ _ _ _ h=>ff rfl h
theorem Wy (h:LN e=true):∃l o r p,e=.Compare l o r p:=by cases e<;>first|exact ff rfl h|exact⟨_,_,_,_,rfl⟩
theorem HV (ia:Sd Κ Φ a):Sd Κ Φ (.tv a) where
 E:=λ_ _ _ _ _ h=>ff rfl h
 T:=λΓ X r e k h=>by
  obtain⟨h1,h2⟩:=aE h;rcases gv.mp h1 with h1|h1
  ·exact⟨Ub (ia.E Γ X r _ k h2) (Wd h1 _),λ⟨_,_,_,z⟩=>by subst z;cases h1⟩
  ·obtain⟨_,_,_,_,rfl⟩:=Wy h1;exact⟨ia.Q Γ X r _ _ _ _ k h2,λ⟨_,_,_,z⟩=>by cases z⟩
 Q:=λ_ _ _ _ _ _ _ _ h=>ff rfl h
 A:=λ_ _ _ _ _ h=>ff rfl h
 O:=λΓ X r e k h=>by obtain⟨v,rfl,h⟩:=aK h;exact Uq (ia.E Γ X r _ k h)
 W:=λΓ X r e tg k _ h=>cX (ia.E Γ X r _ k (aE h).2)
 G:=λΓ X r e k h=>⟨a,rfl,ia.E Γ X r _ k h⟩
theorem WA (ic:Sd Κ Φ c)(ia:Sd Κ Φ a)(ib:Sd Κ Φ b):Sd Κ Φ (.oJ c a b):=Sd.x (λΓ X r e k h=>by obtain⟨v,hv,h9⟩:=aK h;obtain⟨p,rfl⟩:=V7 hv;obtain⟨h1,h2,h3⟩:=aY h9;exact Uc (ic.T Γ X r _ k h1).1 (ia.E Γ X r _ k h2) (ib.E Γ X r _ k h3)) rfl
theorem WB (ia:Sd Κ Φ a):Sd Κ Φ (.tup a):=Sd.x (λΓ X r e k h=>by obtain⟨v,hv,h9⟩:=aK h;obtain⟨_,_,rfl⟩:=Du hv;obtain⟨h1,h2⟩:=aE h9;exact Ud (ia.A Γ X r _ k h2) λY ys e=>by rw[Dv Κ Φ h2 Y ys e];exact LK (x5 h1)) rfl
theorem WC (ia:Sd Κ Φ a):Sd Κ Φ (.lst a):=Sd.x (λΓ X r e k h=>by obtain⟨v,hv,h9⟩:=aK h;obtain⟨_,rfl⟩:=Nb hv;obtain⟨h1,h2⟩:=aE h9;exact Ue (ia.A Γ X r _ k h2) λY ys e=>by rw[Dv Κ Φ h2 Y ys e];exact LK (x5 h1)) rfl
theorem WD:Sd Κ Φ .jX:=Sd.x (λΓ X r e k h=>by obtain⟨⟨a,b⟩,hv,h9⟩:=aK h;obtain⟨_,rfl⟩:=Bo hv;obtain⟨h1,h2⟩:=aE h9;cases iI h1;cases iI h2;exact Ug) rfl
theorem HW (ia:Sd Κ Φ a)(ib:Sd Κ Φ b):Sd Κ Φ (.ix a b):=Sd.x (λΓ X r e k h=>by obtain⟨v,hv,h9⟩:=aK h;obtain⟨_,rfl⟩:=yJ hv;obtain⟨h1,h2,h3⟩:=aY h9;exact d_ix k.hu h1 (ia.E Γ X r _ k h2) (ib.E Γ X r _ k h3)) rfl
theorem HX {lo:C}(ia:Sd Κ Φ a)(il:Sd Κ Φ lo)(ih:Sd Κ Φ hi):Sd Κ Φ (.sl a lo hi):=Sd.x (λΓ X r e k h=>by obtain⟨⟨x,i⟩,hv,h9⟩:=aK h;obtain⟨_,rfl⟩:=yJ hv;obtain⟨⟨l,u,s⟩,hs,h8⟩:=aK h9;obtain⟨_,rfl⟩:=V8 hs;obtain⟨h1,h2,h3,h4⟩:=bU h8;cases o0.mp h1;exact d_sl (ia.E Γ X r _ k h2) (il.O Γ X r _ k h3) (ih.O Γ X r _ k h4)) rfl
theorem WE (ia:Sd Κ Φ args):Sd Κ Φ (.call j f args):=Sd.x (λΓ X r e k h=>by
 obtain⟨⟨x,es⟩,hv,h9⟩:=aK h;obtain⟨_,_,rfl⟩:=kG hv;obtain⟨h1,h2,h3,h4,h5⟩:=fW h9;obtain⟨y,es,rfl⟩:=Bl h5;obtain⟨h0,h1⟩:=aE h1;cases x9 h1;obtain⟨g1,g2⟩:=k.gl h2;obtain⟨m,kk,ps,c1,c2,c3⟩:=k.fns j _ _ (x9 h3);refine PE.imp (zmz c3 (k.room h0) c2 (ia.A Γ X r _ k h4) (xB h4) g1 g2 (Dv Κ Φ h4)) λU H Q hq=>?_
 have ee:aG Κ Φ (.call j x args)=λY=>dY Κ Φ args Y>>=λys=>m (ys.map (·.2))>>=λr=>.ok (gJ r.2 (kZ r.1),r.2):=by
  funext Y
  show(dY Κ Φ args Y>>=λys=>match Φ[j]? with|some m=>m (ys.map (·.2))>>=λr=>.ok (gJ r.2 (kZ r.1),r.2)|none=>.no)=_;rw[c1]
 rw[ee]at hq;exact hq) rfl
theorem HY (ia:Sd Κ Φ args):Sd Κ Φ (.bi f args):=Sd.x (λΓ X r e k h=>by
 obtain⟨⟨x,es⟩,hv,h9⟩:=aK h;obtain⟨_,_,rfl⟩:=kG hv;obtain⟨h1,h2,h3,h4,h5⟩:=fW h9;obtain⟨y,es,rfl⟩:=Bl h5;have h1:=x9 h1;obtain⟨g1,g2,g3,g4⟩:=k.blt h2;obtain⟨h3,dS⟩:=aE h3;have hf:=dq.mp h3;have ha:=ia.A Γ X r _ k h4;simp only[ao,gg,or_false]at hf;rcases hf with rfl|rfl|rfl
 ·exact d_cB Ur g2 (by rw[h1];decide+kernel) ha (xB h4) g1 g4 g3
 ·exact d_cB (Us (k.calm (HR dS rfl))) g2 (by rw[h1];decide+kernel) ha (xB h4) g1 g4 g3
 ·exact zvm VF g2 (by rw[h1];decide+kernel) ha (xB h4) g1 g4 g3) rfl
theorem WG {f:String}(ia:Sd Κ Φ a):Sd Κ Φ (.iF f a):=Sd.x (λΓ X r e k h=>by
 obtain⟨⟨x,es⟩,hv,h9⟩:=aK h;obtain⟨_,_,rfl⟩:=kG hv;obtain⟨h1,h2,h3,h4⟩:=bU h9;obtain⟨y,hy,k5⟩:=aK h4;obtain⟨k4,k6⟩:=aE k5;cases hX hy;have k1:=x9 h1;obtain⟨g1,g2,g3,g4⟩:=k.blt h2;obtain⟨a,rfl,ha⟩:=ia.G Γ X r _ k k6;have k7:=dR k4;obtain⟨h3,dS⟩:=aE h3;have hf:f∈vY:=dq.mp h3;simp only[vY,ao,gg,or_false]at hf;rcases hf with rfl|rfl|rfl|rfl|rfl
 ·exact zj4 Mh g2 (by rw[k1];decide+kernel) k7 ha g1 g4 g3
 ·exact zbs (VE k.hu) g2 (by rw[k1];decide+kernel) k7 ha g1 g4 g3
 ·exact zbs (U7 (k.calm dS)) g2 (by rw[k1];decide+kernel) k7 ha g1 g4 g3
 ·exact zbs (Vq (k.calm dS)) g2 (by rw[k1];decide+kernel) k7 ha g1 g4 g3
 ·exact zj4 (Vh (k.calm dS)) g2 (by rw[k1];decide+kernel) k7 ha g1 g4 g3) rfl
theorem WH (ia:Sd Κ Φ a):Sd Κ Φ (.vO a ts):=Sd.x (λΓ X r e k h=>by obtain⟨⟨x,es⟩,hv,h9⟩:=aK h;obtain⟨_,_,rfl⟩:=kG hv;obtain⟨h1,h2,h3⟩:=aY h9;obtain⟨⟨y,t⟩,hy,k3⟩:=aK h3;obtain⟨k4,h4,k5⟩:=aY k3;obtain⟨T,hT,k6⟩:=aK k5;cases Br hy;cases hX hT;cases x9 h1;obtain⟨g1,g2,g3,g4⟩:=k.blt h2;obtain⟨x2,p2,rfl,rfl,hb,kT⟩:=Wg k6;obtain⟨b1,b2,b3,b4⟩:=k.blt hb;exact zv6 g2 g1 b2 (Wh kT) b1 b4 b3 kT (dR k4) (ia.E Γ X r _ k h4)) rfl
theorem HZ (io:Sd Κ Φ a)(ia:Sd Κ Φ args):Sd Κ Φ (.mt m a args):=Sd.x (λΓ X r e k h=>by
 obtain⟨⟨x,n,es,b⟩,hv,h9⟩:=aK h;obtain⟨ap,cp,rfl,hb⟩:=pB hv;obtain⟨h0,h6,h7,h8⟩:=bU h9;obtain⟨h1,h2,h3,h4,h5⟩:=fW h0;obtain⟨y,es,rfl⟩:=Bl h8;cases x9 h1;have k4:=hb.symm.trans h4;have ho:=io.E Γ X r _ k h6;have ha:=ia.A Γ X r _ k h7;have hm:=dq.mp h2;simp only[gg,ao,or_false]at hm;rcases hm with rfl
 ·exact d_mt PySem.F.plainAttrs_dict PySem.F.slot_dict_get PySem.F.type_dict_get (UL k.hu) (λ_ _ _ _ _ _ r e=>UM r e) ho ha h3 (xB h7) (x5 h5) k4) rfl
theorem WI (ic:Sd Κ Φ c)(k:Cok Γ Κ Φ X n)(h:Az (AA c) (λt=>eV Γ c t) ifs=true):qP X ifs (eJ X.K (eQ Κ Φ c)):=by
 cases ifs with
 |nil=>
  have:c=.nil:=by cases c<;>first|exact ff rfl h|rfl
  subst this;refine λpins s U H Q I q=>LG pins s U H Q I ?_;obtain⟨Y,F,b,so,e,q⟩:=q;cases e;exact q H (Same.refl H)
 |cons t r=>obtain⟨h1,h2⟩:=aE h;cases iI h1;exact LH (ic.T Γ X n t k h2).1
theorem sC {cond:C}(ii:Sd Κ Φ it)(ic:Sd Κ Φ cond)(ie:Sd Κ Φ elt)(k:Cok Γ Κ Φ X r)(h:chkE Γ (.comp nt js N' tg it cond elt) e=true):
  ∃el t i ifs scope pos,e=.ListComp el [⟨t,i,ifs,0⟩] scope pos/\BlkScope X scope N' nt js/\(∀i∈tgIx tg,i<nt)/\PI X t i (tDW X.K (evW Κ Φ it))/\(∀C fp s H,PG (blk X scope N' C fp s H) t (tDG X.K tg))/\(∀C fp s H,qP (blk X scope N' C fp s H) ifs (eJ X.K (eQ Κ Φ cond)))/\(∀C fp s H,PE (blk X scope N' C fp s H) el (tD X.K (aG Κ Φ elt)))/\(∀x,ij i X.env x=pure x)/\Γ.cm=true:=by
 obtain⟨⟨el,gs,scope⟩,hv,h9⟩:=aK h;obtain⟨pos,rfl⟩:=Bq hv;obtain⟨⟨t,i,ifs,kk⟩,hg,h9⟩:=aK h9;cases hX hg;obtain⟨h0,h6,h7,h8,h9⟩:=fW h9;obtain⟨h1,h2,h3,h4,h5⟩:=fW h0;obtain⟨dS,h1⟩:=aE h1;cases x9 h1;have hB:=LC k.hN k.hs h3;have kb:=λC fp s H=>k.blk hB.kind (x5 h5) C fp s H;exact⟨el,t,i,ifs,scope,pos,rfl,hB,λi hi=>x5 ((bj.mp h2) i hi),ii.W Γ X r _ t k (aE h6).2 h7,λC fp s H=>yK (kb C fp s H) (aE h6).1,λC fp s H=>WI ic (kb C fp s H) h8,λC fp s H=>ie.E _ _ r _ (kb C fp s H) h9,xA h4 _,dS⟩
theorem WJ {cond:C}(ii:Sd Κ Φ it)(ic:Sd Κ Φ cond)(ie:Sd Κ Φ elt):Sd Κ Φ (.comp nt js N' tg it cond elt):=Sd.x (λΓ X r e k h=>by obtain⟨el,t,i,ifs,scope,pos,rfl,hB,h2,hi,hg,ht,he,hs,dS⟩:=sC ii ic ie k h;exact(zbq (k.calm dS) hB h2 hi hg ht he hs).1) rfl
theorem WK (h:((vW e).any λm=>mG (hJ Γ i) m.1&&(m.2.1==("items":Str))&&m.2.2.1.isEmpty&&m.2.2.2)=true):∃x p ap cp,e=.Call (.Attribute (.Name x p) "items" ap) [] [] cp/\hJ Γ i x=true/\(ap.endLine==cp.line)=true:=by obtain⟨⟨x,n,es,b⟩,hv,h9⟩:=aK h;obtain⟨ap,cp,rfl,hb⟩:=pB hv;obtain⟨h1,h2,h3,h4⟩:=bU h9;obtain⟨y,p,hy,h1⟩:=jK h1;cases hy;cases x9 h2;cases iI h3;exact⟨y,p,ap,cp,rfl,h1,hb.symm.trans h4⟩
theorem WL:Sd Κ Φ (.sortI i):=Sd.x (λΓ X r e k h=>by obtain⟨⟨x,es⟩,hv,h9⟩:=aK h;obtain⟨_,_,rfl⟩:=kG hv;obtain⟨h1,h2,h3⟩:=aY h9;obtain⟨y,hy,k3⟩:=aK h3;cases hX hy;obtain⟨x2,p2,ap,cp,rfl,k4,k5⟩:=WK k3;obtain⟨dS,h1⟩:=aE h1;cases x9 h1;obtain⟨g1,g2,g3,g4⟩:=k.blt h2;obtain⟨v1,v2,v3,v4⟩:=k.aJ k4;exact zm5 (k.calm dS) g2 (by show df ("sorted":Str)=_;decide+kernel) g1 g4 g3 v1 v2 v3 v4 k5) rfl
theorem WM {b:Bool}:Sd Κ Φ (.vP b x):=Sd.x (λΓ X r e k h=>by obtain⟨⟨f,es⟩,hv,h9⟩:=aK h;obtain⟨_,_,rfl⟩:=kG hv;obtain⟨h1,h2,h3⟩:=aY h9;obtain⟨⟨y1,y2⟩,hy,h4⟩:=aK h3;cases Br hy;obtain⟨⟨n,c⟩,hz,h5⟩:=aK h4;obtain⟨h6,h7⟩:=aE h5;obtain⟨n',p1,hn,h6⟩:=jK h6;obtain⟨C,p2,hC,h7⟩:=jK h7;cases hn;cases hC;obtain⟨a1,a2,a3,a4⟩:=bU h6;obtain⟨b1,b2,b3⟩:=aY h7;cases x9 h1;cases x9 a1;cases x9 b1;obtain⟨g1,g2,g3,g4⟩:=k.blt h2;obtain⟨g5,g6⟩:=k.gl b2;obtain⟨a,oe,Cc,e1,e2,e3,e4⟩:=k.xc n c hz;obtain⟨A,v,u,m1,xa,xv,sb,rv,ru,mC⟩:=k.xk.sub c x b b3;rw[m1]at e4;cases e4;exact zvs g2 g1 e1 (k.hs▸x9 a2) (dR a3) e2 e3 g5 mC rv ru g6 xa xv sb) rfl
theorem WN:Sd Κ Φ .nil where
 E:=λ_ _ _ _ _ h=>ff rfl h
 T:=λ_ _ _ _ _ h=>ff rfl h
 Q:=λ_ _ _ _ _ _ _ _ h=>ff rfl h
 A:=λΓ X r es k h=>by cases iI h;exact LY
 O:=λΓ X r e k h=>by cases o0.mp h;exact Up
 W:=λ_ _ _ _ _ _ _ h=>ff rfl h
 G:=λ_ _ _ _ _ h=>ff rfl h
theorem WO (ia:Sd Κ Φ a)(ib:Sd Κ Φ b):Sd Κ Φ (.cons a b) where
 E:=λ_ _ _ _ _ h=>ff rfl h
 T:=λ_ _ _ _ _ h=>ff rfl h
 Q:=λ_ _ _ _ _ _ _ _ h=>ff rfl h
 A:=λΓ X r es k h=>by
  cases es with
  |nil=>cases h
  |cons e es=>obtain⟨h1,h2,h3⟩:=aY h;exact Gh (dR h1) (ia.E Γ X r _ k h2) (ib.A Γ X r _ k h3)
 O:=λ_ _ _ _ _ h=>ff rfl h
 W:=λ_ _ _ _ _ _ _ h=>ff rfl h
 G:=λ_ _ _ _ _ h=>ff rfl h
theorem WQ (ia:Sd Κ Φ a):Sd Κ Φ (.jY a) where
 E:=λ_ _ _ _ _ h=>ff rfl h
 T:=λ_ _ _ _ _ h=>ff rfl h
 Q:=λ_ _ _ _ _ _ _ _ h=>ff rfl h
 A:=λ_ _ _ _ _ h=>ff rfl h
 O:=λ_ _ _ _ _ h=>ff rfl h
 W:=λΓ X r e tg k _ h=>by
  obtain⟨⟨x,es⟩,hv,h9⟩:=aK h;obtain⟨_,_,rfl⟩:=kG hv;obtain⟨h1,h2,h3,h4⟩:=bU h9;obtain⟨h4,h5⟩:=aE h4;cases x9 h1;obtain⟨g1,g2,g3,g4⟩:=k.blt h2;rcases es with _|⟨x,_|⟨y,es⟩⟩
  ·cases h4
  ·exact UA g2 g1 (dR ((bj.mp (xB h3)) x (.head _))) (ia.A Γ X r _ k h3) (Dv Κ Φ h3)
  ·exact absurd (x5 h5) (Nat.not_le.mpr (Nat.succ_lt_succ (Nat.succ_pos _)))
 G:=λ_ _ _ _ _ h=>ff rfl h
theorem Ia (h:isTup e=true):∃a b c,e=.Tuple a b c:=by cases e<;>first|exact ff rfl h|exact⟨_,_,_,rfl⟩
theorem Nf (h:kC Γ (.enum a) e=true):∃y q p,e=.Call (.Name "enumerate" q) [y] [] p/\cM Γ "enumerate"=true/\isStar y=false/\chkE Γ a y=true:=by obtain⟨⟨x,es⟩,hv,h9⟩:=aK h;obtain⟨q,p,rfl⟩:=kG hv;obtain⟨h1,h2,h3⟩:=aY h9;obtain⟨y,hy,h3⟩:=aK h3;cases hX hy;cases x9 h1;exact⟨y,q,p,rfl,h2,dR (aE h3).1,(aE h3).2⟩
theorem Ng (h:kC Γ (.zip a b) e=true):∃y z q p,e=.Call (.Name "zip" q) [y,z] [] p/\cM Γ "zip"=true/\isStar y=false/\isStar z=false/\chkE Γ a y=true/\chkE Γ b z=true:=by obtain⟨⟨x,es⟩,hv,h9⟩:=aK h;obtain⟨q,p,rfl⟩:=kG hv;obtain⟨h1,h2,h3⟩:=aY h9;obtain⟨⟨y,z⟩,hy,h3⟩:=aK h3;cases Br hy;cases x9 h1;obtain⟨h4,h5,h6⟩:=aY h3;exact⟨y,z,q,p,rfl,h2,dR (aE h4).1,dR (aE h4).2,h5,h6⟩
theorem WR (ia:Sd Κ Φ a):Sd Κ Φ (.enum a) where
 E:=λ_ _ _ _ _ h=>ff rfl h
 T:=λ_ _ _ _ _ h=>ff rfl h
 Q:=λ_ _ _ _ _ _ _ _ h=>ff rfl h
 A:=λ_ _ _ _ _ h=>ff rfl h
 O:=λ_ _ _ _ _ h=>ff rfl h
 W:=λΓ X r e tg k ht h=>by obtain⟨y,q,p,rfl,h2,h3,h4⟩:=Nf h;obtain⟨_,_,_,rfl⟩:=Ia ht;obtain⟨g1,g2,g3,g4⟩:=k.blt h2;exact HG g2 g1 h3 (ia.E Γ X r _ k h4)
 G:=λ_ _ _ _ _ h=>ff rfl h
theorem WT (ia:Sd Κ Φ a)(ib:Sd Κ Φ b):Sd Κ Φ (.zip a b) where
 E:=λ_ _ _ _ _ h=>ff rfl h
 T:=λ_ _ _ _ _ h=>ff rfl h
 Q:=λ_ _ _ _ _ _ _ _ h=>ff rfl h
 A:=λ_ _ _ _ _ h=>ff rfl h
 O:=λ_ _ _ _ _ h=>ff rfl h
 W:=λΓ X r e tg k ht h=>by obtain⟨y,z,q,p,rfl,h2,h3,h4,h5,h6⟩:=Ng h;obtain⟨g1,g2,g3,g4⟩:=k.blt h2;exact HD ht g2 g1 h3 h4 (ia.E Γ X r _ k h5) (ib.E Γ X r _ k h6)
 G:=λ_ _ _ _ _ h=>ff rfl h
theorem WU (hx:rW c=0)(hn:∀Γ e,chkE Γ c e=false):Sd Κ Φ c:=Sd.x (λΓ X r e k h=>ff (hn Γ e) h) hx
theorem all (c:C):Sd Κ Φ c:=by
 induction c with
 |var=>exact Wq
 |bD=>exact Wr
 |bl=>exact HS
 |int=>exact Ws
 |str=>exact Wt
 |bin _ _ _ ia ib=>exact Wu ia ib
 |cmp _ _ _ ia ib=>exact Wv ia ib
 |and _ _ ia ib=>exact Ww ia ib
 |or _ _ ia ib=>exact HU ia ib
 |not _ ia=>exact Wx ia
 |oJ _ _ _ ic ia ib=>exact WA ic ia ib
 |tup _ ia=>exact WB ia
 |lst _ ia=>exact WC ia
 |jX=>exact WD
 |ix _ _ ia ib=>exact HW ia ib
 |sl _ _ _ ia ib ic=>exact HX ia ib ic
 |call _ _ _ ia=>exact WE ia
 |bi _ _ ia=>exact HY ia
 |iF _ _ ia=>exact WG ia
 |vO _ _ ia=>exact WH ia
 |mt _ _ _ ia ib=>exact HZ ia ib
 |comp _ _ _ _ _ _ _ ia ib ic=>exact WJ ia ib ic
 |sortI=>exact WL
 |jY _ ia=>exact WQ ia
 |enum _ ia=>exact WR ia
 |zip _ _ ia ib=>exact WT ia ib
 |tv _ ia=>exact HV ia
 |vP=>exact WM
 |nil=>exact WN
 |cons _ _ ia ib=>exact WO ia ib
 |_=>exact WU rfl λ_ _=>rfl
end
section
variable (Κ:List D)(Φ:List Fn)
theorem yM:mx (.ListComp el gs s p) (some (.Name t px)) n env=pure (env.blockKind==.function&&env.kindOf t==some .local&&px.line==p.line&& !(s.names.any λ(n,k)=>n==t&&(k==.local||k==.cell))):=rfl
theorem Nh (hn:mH c=false)(h:chkE Γ c (.ListComp el gs s p)=true):∃nt js N' tg it cond elt,c=.comp nt js N' tg it cond elt:=by cases c<;>first|exact ff rfl h|exact⟨_,_,_,_,_,_,_,rfl⟩|(cases hn;done)
theorem Ni (h:chkE Γ c (.SetComp el gs s p)=true):False:=by cases c<;>exact ff rfl h
theorem Nj (h:chkE Γ c (.DictComp el el2 gs s p)=true):False:=by cases c<;>exact ff rfl h
theorem Ib (k:Cok Γ Κ Φ X r)(h1:mE Γ i x=true)(hn:mH c=false)(h2:chkE Γ c v=true):PS X (.Assign [.Name x px] v pos) (tDS X.K λY=>aG Κ Φ c Y>>=λx=>.ok (.nx (Y.set i (some (z1u x))))):=by
 obtain⟨l1,l2,l3⟩:=k.loc h1;have nd:X.N.Nodup:=k.hN▸k.nd;cases hc:z1q v with
 |false=>exact zp3 nd l1 l2 l3 (yp hc _ _ _) ((all c).E Γ X r _ k h2)
 |true=>
  cases v<;>first|(cases hc;done)|skip
  ·rename_i el gs s p;cases hb:(X.env.blockKind==.function&&X.env.kindOf x==some .local&&px.line==p.line&& !(s.names.any λ(n,k)=>n==x&&(k==.local||k==.cell)))with
   |false=>exact zp3 nd l1 l2 l3 (by rw[yM,hb]) ((all c).E Γ X r _ k h2)
   |true=>
    obtain⟨nt,js,N',tg,it,cond,elt,rfl⟩:=Nh hn h2;obtain⟨Ic,t,i',ifs,scope,pos',e,hB,h0,hi,hg,ht,he,hs,dS⟩:=sC (all it) (all cond) (all elt) k h2;cases e;have hl:X.env.scope.names.lookup x=some .local:=by simp at hb;exact hb.1.1.2
    exact PS.imp (z5f (k.calm dS) nd l1 hl l3.2 hB hi hg ht he (by rw[yM,hb]) hs) λD U H q=>Mb (λU H Q z=>(zbq (pos:=p) (k.calm dS) hB h0 hi hg ht he hs).2 U H Q z) D U H q
  ·exact(Ni h2).elim
  ·exact(Nj h2).elim
theorem WV (k:Cok Γ Κ Φ X r)(hh:AB Γ c tg ie=true):PI X tg ie (tDF X.K (evF Κ Φ c))/\tO ie=true:=by
 obtain⟨ht,h⟩:=aE hh;have hw:=(all c).W Γ X r ie tg k ht h;cases c with
 |tv a=>
  have hal:=PI.Mf (k:=λY=>iS Κ Φ (.tv a) Y) (GF ((all a).E Γ X r _ k (aE h).2)) (Me hw);refine⟨?_,(aE h).1⟩;cases a with
  |var i=>obtain⟨x,p,rfl,h2⟩:=jK (aE h).2;obtain⟨v1,v2,v3,v4⟩:=k.aJ h2;exact PI.Mf (U0 v1 v2 v3 v4) hal
  |_=>exact hal
 |enum a=>obtain⟨y,q,p,rfl,h2,h3,h4⟩:=Nf h;obtain⟨_,_,_,rfl⟩:=Ia ht;obtain⟨g1,g2,g3,g4⟩:=k.blt h2;exact⟨VU g2 g1 h3 ((all a).E Γ X r _ k h4),rfl⟩
 |zip a b=>
  obtain⟨y,z,q,p,rfl,h2,h3,h4,h5,h6⟩:=Ng h;obtain⟨g1,g2,g3,g4⟩:=k.blt h2
  have ez:evF Κ Φ (.zip a b)=λY=>(aG Κ Φ a Y>>=λx=>aG Κ Φ b Y>>=λy=>Res.ok [x,y])>>=λys=>qZ ys Y:=by
   funext Y
   show((aG Κ Φ a Y>>=λx=>(aG Κ Φ b Y>>=λy=>Res.ok [y])>>=λxs=>Res.ok (x::xs))>>=λys=>qZ ys Y)=_;cases aG Κ Φ a Y with
   |ok x=>cases aG Κ Φ b Y<;>rfl
   |exc=>rfl
   |no=>rfl
  rw[ez];exact⟨VT ht g2 g1 h3 h4 ((all a).E Γ X r _ k h5) ((all b).E Γ X r _ k h6),rfl⟩
 |jY a=>refine⟨Me hw,?_⟩;obtain⟨v,hv,_⟩:=aK h;obtain⟨_,_,rfl⟩:=kG hv;rfl
 |_=>exact ff rfl h
theorem WW (h:isTup v=false):ui [.Tuple a b c] v env=pure none:=by cases v<;>first|rfl|(cases h;done)
theorem rX (h:AD s=some v):∃p,s=.Assign v.1 v.2 p:=cB (q:=λv=>∃p,s=.Assign v.1 v.2 p) h (by cases s<;>first|exact .inl rfl|exact .inr ⟨_,rfl,_,rfl⟩)
theorem rY (h:AE s=some v):∃p,s=.Expr v p:=cB (q:=λv=>∃p,s=.Expr v p) h (by cases s<;>first|exact .inl rfl|exact .inr ⟨_,rfl,_,rfl⟩)
theorem Bt (h:FV s=some v):∃p,s=.Return v p:=cB (q:=λv=>∃p,s=.Return v p) h (by cases s<;>first|exact .inl rfl|exact .inr ⟨_,rfl,_,rfl⟩)
theorem Bu (h:FW s=some v):∃p,s=.If v.1 v.2.1 v.2.2 p:=cB (q:=λv=>∃p,s=.If v.1 v.2.1 v.2.2 p) h (by cases s<;>first|exact .inl rfl|exact .inr ⟨_,rfl,_,rfl⟩)
theorem rZ (h:AF s=some v):∃p,s=.For v.1 v.2.1 v.2.2.1 v.2.2.2 p:=cB (q:=λv=>∃p,s=.For v.1 v.2.1 v.2.2.1 v.2.2.2 p) h (by cases s<;>first|exact .inl rfl|exact .inr ⟨_,rfl,_,rfl⟩)
structure Ss (s:S):Prop where
 R:∀(Γ:Gm) (X:Cx) (r:Nat) (st:Stmt),Cok Γ Κ Φ X r->jx (model X.prog X.w) X.A X.env X.xe->rE Γ s st=true->PS X st (tDS X.K (aX Κ Φ s))
 L:∀(Γ:Gm) (X:Cx) (r:Nat) (st:List Stmt),Cok Γ Κ Φ X r->jx (model X.prog X.w) X.A X.env X.xe->chkL Γ s st=true->PSs X st (tDS X.K (aX Κ Φ s))
def Ie:S->Bool
 |.nil=>false
 |.seq _ _=>false
 |_=>true
variable {Κ:List D}{Φ:List Fn}
theorem Ss.x (h:∀Γ X r st,Cok Γ Κ Φ X r->jx (model X.prog X.w) X.A X.env X.xe->rE Γ s st=true->PS X st (tDS X.K (aX Κ Φ s)))(hx:Ie s=true):Ss Κ Φ s:=⟨h,by cases s<;>first|(cases hx;done)|exact λ_ _ _ _ _ _ h=>ff rfl h⟩
theorem WX:Ss Κ Φ (.asg t e):=Ss.x (λΓ X r st k hp h=>by
 obtain⟨⟨ts,v⟩,hv,h9⟩:=aK h;obtain⟨p,rfl⟩:=rX hv;obtain⟨x,hx,h8⟩:=aK h9;cases hX hx;obtain⟨h1,h2,h3,h4⟩:=bU h8;cases t with
 |nm i=>obtain⟨y,q,rfl,h5⟩:=jK h1;exact Ib Κ Φ k h5 (dR h2) h4
 |tp is=>obtain⟨k1,k2⟩:=aE h3;obtain⟨es,WY,_⟩:=aK (aE h1).2;obtain⟨_,_,rfl⟩:=Du WY;exact zrb (yK k h1) ((all e).E Γ X r _ k h4) ((show uh [_] _ _ _=mx _ _ _ _ from rfl).trans (yp (dR k1) _ _ _)) (WW (dR k2)) rfl) rfl
theorem WZ:Ss Κ Φ (.eP i a b):=Ss.x (λΓ X r st k hp h=>by obtain⟨⟨ts,v⟩,hv,h9⟩:=aK h;obtain⟨p,rfl⟩:=rX hv;obtain⟨x,hx,h8⟩:=aK h9;cases hX hx;obtain⟨⟨y,ie⟩,hy,h7⟩:=aK h8;obtain⟨_,rfl⟩:=yJ hy;obtain⟨h1,h2,h3,h4,h5⟩:=fW h7;obtain⟨z,q,hz,h6⟩:=jK h1;cases hz;obtain⟨v1,v2,v3,v4⟩:=k.aJ h6;exact zru k.hu v1 v2 v3 v4 (dR h3) ((all a).E Γ X r _ k h4) ((all b).E Γ X r _ k h5)) rfl
theorem zsp:Ss Κ Φ (.mut m i args):=Ss.x (λΓ X r st k hp h=>by obtain⟨c,hv,h9⟩:=aK h;obtain⟨p,rfl⟩:=rY hv;obtain⟨⟨x,n,es,b⟩,hm,h8⟩:=aK h9;obtain⟨ap,cp,rfl,hb⟩:=pB hm;obtain⟨h0,h6,h7⟩:=aY h8;obtain⟨h1,h2,h3,h4,h5⟩:=fW h0;obtain⟨z,q,rfl,k1⟩:=jK h1;obtain⟨y,es,rfl⟩:=Bl h6;cases x9 h2;have hm:=dq.mp h3;simp at hm;obtain⟨v1,v2,v3,v4⟩:=k.aJ k1;subst hm;exact zhb v1 v2 v3 v4 ((all args).A Γ X r _ k h7) (xB h7) (x5 h5) (hb.symm.trans h4)) rfl
theorem W0:Ss Κ Φ (.drop e):=Ss.x (λΓ X r st k hp h=>by obtain⟨v,hv,h9⟩:=aK h;obtain⟨p,rfl⟩:=rY hv;obtain⟨h1,h2⟩:=aE h9;exact US (dR h1) ((all e).E Γ X r _ k h2)) rfl
theorem W2:Ss Κ Φ (.ret e):=Ss.x (λΓ X r st k hp h=>by
 obtain⟨o,hv,h9⟩:=aK h;obtain⟨p,rfl⟩:=Bt hv;obtain⟨v,rfl,h8⟩:=aK h9;have g:=(all e).E Γ X r _ k h8;cases e with
 |var i=>obtain⟨x,q,rfl,h7⟩:=jK h8;obtain⟨v1,v2,v3,v4⟩:=k.aJ h7;exact zc1 v1 v2 v3 v4
 |_=>exact UR g) rfl
theorem Ig (ia:Ss Κ Φ a)(ib:Ss Κ Φ b):Ss Κ Φ (.bI c a b):=Ss.x (λΓ X r st k hp h=>by obtain⟨v,hv,h9⟩:=aK h;obtain⟨p,rfl⟩:=Bu hv;obtain⟨h1,h2,h3⟩:=aY h9;exact Gs ((all c).T Γ X r _ k h1).1 (ia.L Γ X r _ k hp h2) (ib.L Γ X r _ k hp h3)) rfl
theorem W3 (ib:Ss Κ Φ b):Ss Κ Φ (.bA t it b):=Ss.x (λΓ X r st k hp h=>by obtain⟨dS,h⟩:=aE h;obtain⟨⟨t,i,B,o⟩,hv,h9⟩:=aK h;obtain⟨p,rfl⟩:=rZ hv;obtain⟨h1,h2,h3,h4⟩:=bU h9;cases iI h4;obtain⟨hf,hn⟩:=WV Κ Φ k h2;exact ztd hp (k.calm dS) hf (yK k h1) (ib.L Γ X r _ k hp h3) (xA hn _)) rfl
theorem Nk (s:S):Ss Κ Φ s:=by
 induction s with
 |nil=>exact⟨λ_ _ _ _ _ _ h=>ff rfl h,λΓ X r st k hp h=>by cases iI h;exact UO⟩
 |seq a b ia ib=>
  refine⟨λ_ _ _ _ _ _ h=>ff rfl h,λΓ X r st k hp h=>?_⟩;cases st with
  |nil=>cases h
  |cons s st=>exact UP (ia.R Γ X r _ k hp (aE h).1) (ib.L Γ X r _ k hp (aE h).2)
 |bad=>refine Ss.x (λΓ X r st k hp h=>?_) rfl;intro pins s U H D I q;obtain⟨Y,F,out,so,e,_⟩:=q;cases e
 |asg=>exact WX
 |eP=>exact WZ
 | «mut»=>exact zsp
 |drop=>exact W0
 |ret=>exact W2
 |bI _ _ _ ia ib=>exact Ig ia ib
 |bA _ _ _ ib=>exact W3 ib
theorem sL (Κ:List D)(Φ:List Fn)(s:S):∀Γ X r st,Cok Γ Κ Φ X r->jx (model X.prog X.w) X.A X.env X.xe->chkL Γ s st=true->PSs X st (tDS X.K (aX Κ Φ s)):=(Nk s).L
end
section
variable (Κ:List D)(Φ:List Fn)
variable {Κ Φ}
end
section
variable {P:cu}{w:World}{K:W.Frag}{mg:Str->Option Value}{base:Heap}
structure Dok (Γ:Gm)(Κ:List D)(Φ:List Fn)(P:cu)(w:World)(K:W.Frag)(mg:Str->Option Value)(base:Heap)(k:Nat):Prop where
 free:∀x,Γ.free.contains x=true->mg x=none
 fns:∀(j:Nat) f n,Γ.fns[j]?=some (f,n)->∃m k' ps,Φ[j]?=some m/\k'<=k/\Cal P w K mg base k' f ps (spD K n m)
 cst:∀(j:Nat) x,Γ.cst[j]?=some x->∃d a,Κ[j]?=some d/\mg x=some (.ref a)/\∀H B,B none->Rep K H B (.ref a) d
 wZ:∀(j:Nat) f n,Γ.fns[j]?=some (f,n)->∃m k' ps,Φ[j]?=some m/\k'<=k/\pA P w K mg base k' f ps n m
 xk:wY Γ K mg
theorem W4 (r:Reps K H A vs ds):StOk K ⟨H,λa=>H a=none\/A (some a),λ_=>none,A none⟩ H (vs.map some++bv (n-vs.length) none) (ds.map (λd=>some (.od,d))++bv (n-ds.length) none) where
 ext:=Same.refl H
 aJ:=λa e=>.inl e
 own:=λa i e=>by cases e
 len:=by have:=r.length;simp;omega
 sl:=λi g d e=>by
  rw[nq]at e;split at e
  ·rename_i hi;rw[az]at e;cases h1:ds[i]? with
   |none=>rw[h1]at e;cases e
   |some d'=>
    rw[h1]at e;cases e;obtain⟨v,h2,h3⟩:=Reps.get r h1;refine⟨v,?_,?_⟩
    ·rw[nq,xu (by rw[ae,r.length];rw[ae]at hi;exact hi),az,h2];rfl
    ·refine(Rep.there _ h3).weak λa h=>?_;cases a with
     |none=>exact h.1
     |some a=>exact⟨λz=>h.2 z,.inr h.1⟩
  ·rw[eh]at e;split at e<;>cases e
theorem d_fn {st:Stmt}(Fu:Fun K x x st f fd)(Sc:FnScope Γ.N ps (z06 st))(hs:Γ.sc=z06 st)(hb:Γ.blk=false)(hxc:Γ.xc=none)(dk:Dok Γ Κ Φ P w K mg base k)(hc:chkL Γ s (z0k st)=true):
  FnOk P w K mg base oF (k+1) f fd ps (spD K ps.length (aL Κ Φ Γ.N.length s)):=by
 refine Fu.ok Sc (λvs H Q E h=>h.choose_spec.choose_spec.choose_spec.1) λcdv A outer s1 H vs Q E hr kR=>?_;obtain⟨B,ds,r,hl,rs,e,q⟩:=kR;refine⟨_,sL Κ Φ s Γ (gW oF P w K mg base Γ.N x (z06 st) f cdv A outer s1 H E).zF k _ ⟨rfl,hs.symm,Sc.nd,λ_ _=>rfl,by rw[hs];exact Sc.kind,dk.free,dk.fns,dk.cst,dk.wZ,λ_=>hr,λ_=>rfl,hr.units,λ_=>⟨rfl,rfl⟩,λ_ _ _ z=>(by cases z),λ_ _ z=>(by rw[hxc]at z;cases z),dk.xk⟩ PassesOwn.never hc,?_⟩;unfold aL at e;have so:=W4 (n:=Γ.N.length) rs;generalize ho:aX Κ Φ s (ds.map (λd=>some (.od,d))++bv (Γ.N.length-ds.length) none)=out at e
 match out,ho,e with
 |.ok (.nx aO),ho,e=>cases e;refine⟨_,_,_,so,ho,λσ' H' F' pW ru fr=>q .bD H' (λa o e=>(fr a o e rfl).1) rfl⟩
 |.ok (.rt g d),ho,e=>
  cases e;refine⟨_,_,_,so,ho,λv H' hk rv=>q v H' hk (rv.weak λa h=>?_)⟩;cases g with
  |fr=>cases a<;>exact h
  |nu=>cases a<;>exact h
  |od=>cases a with
   |none=>exact .inr h
   |some a=>exact h.elim .inl λz=>.inr z
  |al=>cases a with
   |none=>exact .inr h
   |some a=>exact h.elim .inl λz=>.inr z
 |.exc _,ho,e=>cases e
 |.no,ho,e=>cases e
theorem zvq {st:Stmt}(Fu:Fun K x x st f fd)(Sc:FnScope Γ.N ps (z06 st))(hs:Γ.sc=z06 st)(hb:Γ.blk=false)(hxc:Γ.xc=none)(dk:Dok Γ Κ Φ P w K mg base k)(hc:chkL Γ s (z0k st)=true):
  FnOk P w K mg base (CXE P w base) (k+1) f fd ps (M' K mg ps.length (aL Κ Φ Γ.N.length s)):=by
 obtain⟨oc,od,kV,doc,pm,an,cdv,ct,osl,rfl,lk,hcd⟩:=Fu.ex;refine zls lk hcd Sc (λvs H Q E h=>h.choose_spec.choose_spec.choose_spec.1) λA outer s1 H vs Q E hr kR=>?_;obtain⟨B,ds,c,hl,rs,e,q⟩:=kR;unfold aL at e;split at e<;>cases e
theorem W5 {ns:List Int}(h:SqL K H a (ns.map V.int)):Reps K H (λ_=>True) [.ref a] [.list (ns.map .int)]:=by
 refine⟨_,_,rfl,⟨a,ns.map V.int,rfl,?_,?_⟩,rfl⟩
 ·rcases h with(h|h)|h
  ·exact .inl ⟨h,trivial⟩
  ·exact .inr ⟨.inl h,trivial⟩
  ·exact .inr ⟨.inr h,trivial⟩
 ·clear h
  induction ns with
  |nil=>rfl
  |cons n ns ih=>exact⟨_,_,rfl,rfl,ih⟩
end
structure Gd where
 kf:Nat
 args:C
 c:Str
 i:Nat
 j:Nat
 g:Str
 r:Bool
structure XR where
 c:Str
 cs:List (Str×Bool)
 B:Str
def XR.subs (r:XR):List (Str×Str×Bool):=(r.c,"ValueError",true)::r.cs.map λy=>(r.c,y.1,y.2)
def Dx (K:W.Frag)(A:Addr):List (Str×Bool)->Prop
 | []=>True
 |y::l=>(∃D dd cd sl,W.nsIn K bz y.1=some (some (.ref D))/\K.lookup D=some ⟨.type "type",dd,.cls cd,sl⟩/\W.subIn K (.ref A) (.ref D)=some y.2)/\Dx K A l
structure Kx (K:W.Frag)(r:XR)(A D:Addr):Prop where
 a:W.nsIn K bz r.c=some (some (.ref A))
 l:∃dd cd sl,K.lookup A=some ⟨.type "type",dd,.cls cd,sl⟩
 e:W.excIn K A [.type "ValueError",.type "Exception",.type "BaseException",.type "object"] "ValueError.__new__"=true
 cl:W.findIn K (.ref A) "__class__"=some (some (.builtin "object.__class__"))
 ga:W.findIn K (.ref A) "__getattribute__"=some (some (.builtin "BaseException.__getattribute__"))
 gt:W.findIn K (.ref A) "__getattr__"=some none
 ob:W.subIn K (.ref A) (.type "object")=some true
 be:W.subIn K (.ref A) (.type "BaseException")=some true
 v:W.subIn K (.ref A) (.type "ValueError")=some true
 b:W.nsIn K bz r.B=some (some (.ref D))
 f:W.excIn K D [.type "ValueError",.type "Exception",.type "BaseException",.type "object"] "ValueError.__new__"=true
 s:W.subIn K (.ref A) (.ref D)=some true
 cs:Dx K A r.cs
def kxs (K:W.Frag):List XR->Prop
 | []=>True
 |r::l=>(∃A D,Kx K r A D)/\kxs K l
theorem Dy {K:W.Frag}:∀{l:List XR} {r:XR},kxs K l->r∈l->∃A D,Kx K r A D
 | [],_,_,z=>nomatch z
 |_::_,_,h,.head _=>h.1
 |_::_,_,h,.tail _ z=>Dy h.2 z
theorem Nl {K:W.Frag}:∀{l:List (Str×Bool)} {y:Str×Bool},Dx K A l->y∈l->∃D dd cd sl,W.nsIn K bz y.1=some (some (.ref D))/\K.lookup D=some ⟨.type "type",dd,.cls cd,sl⟩/\W.subIn K (.ref A) (.ref D)=some y.2
 | [],_,_,z=>nomatch z
 |_::_,_,h,.head _=>h.1
 |_::_,_,h,.tail _ z=>Nl h.2 z
theorem Dz {K:W.Frag}{D:Addr}(l:K.lookup D=some ⟨.type "type",dd,.cls cd,sl⟩):W.typeIn K (.ref D)=some (.type "type")/\(W.clsIn K D).isSome=true:=by
 constructor
 ·show(K.lookup D).map (·.cls)=_;rw[l];rfl
 ·unfold W.clsIn;rw[l];rfl
theorem W6 {K:W.Frag}(X:K.In h)(G:h.Ns bz mg)(hk:kxs K xt)(hz:xt≠[]->mg "ValueError"=none)(h1:Γ.sub=(xt.map XR.subs).flatten)(h2:Γ.rs=xt.map (·.c))(h3:Γ.pU=xt.map λr=>(r.c,r.B)):wY Γ K mg:=by
 refine⟨λc C b z=>?_,λc z=>?_,λc B z=>?_⟩
 ·rw[h1]at z;obtain⟨l,hl,z⟩:=List.mem_flatten.mp (dq.mp z);obtain⟨r,hr,rfl⟩:=ba.mp hl;obtain⟨A,D,k⟩:=Dy hk hr;obtain⟨dd,cd,sl,kl⟩:=k.l;have xa:XA K A:=⟨k.cl,k.ga,k.gt,k.ob,k.be,(Dz kl).1,(Dz kl).2,(HJ k.e).1⟩;rcases ao.mp z with e|z
  ·cases e;exact⟨A,.ty "ValueError",.type "ValueError",W.mg_of X G k.a,xa,XV.val,k.v,rfl,λw q=>q,.inr ⟨hz (λq=>by rw[q]at hr;cases hr),by decide+kernel,by decide⟩⟩
  ·obtain⟨y,hy,e⟩:=ba.mp z;cases e;obtain⟨D',kS,HK,zw,e1,e2,e3⟩:=Nl k.cs hy;exact⟨A,.ref D',.ref D',W.mg_of X G k.a,xa,XV.own (Dz e2).1 (Dz e2).2,e3,rfl,λw q=>q,.inl (W.mg_of X G e1)⟩
 ·rw[h2]at z;obtain⟨r,hr,rfl⟩:=ba.mp (dq.mp z);obtain⟨A,D,k⟩:=Dy hk hr;exact⟨A,W.mg_of X G k.a,k.e⟩
 ·rw[h3]at z;obtain⟨r,hr,e⟩:=ba.mp (dq.mp z);cases e;obtain⟨A,D,k⟩:=Dy hk hr;exact⟨A,D,W.mg_of X G k.a,W.mg_of X G k.b,(HJ k.e).1,(HJ k.f).1,k.s⟩
inductive Kd where
 |n
 |e (c:Str) (r:Bool)
 |g (d:Gd) (je:Nat)
structure aR where
 nm:Str
 st:Stmt
 N:List Str
 ps:List Str
 free:List Str
 fns:List Nat
 s:S
 F:Fn
 kd:Kd
 kc:List (Str×List Str):=[]
def cD (y:Str×List Str):D:=.tuple (y.2.map .str)
def sig (Rs:List aR)(j:Nat):Str×Nat:=match Rs[j]? with
 |some c=>(c.nm,c.ps.length)
 |none=>("",0)
def fnAt (Rs:List aR)(j:Nat):Fn:=match Rs[j]? with
 |some c=>c.F
 |none=>λ_=>.no
def aR.G (Rs:List aR)(xt:List XR)(r:aR):Gm:={N:=r.N,sc:=z06 r.st,free:=r.free,fns:=r.fns.map (sig Rs),cst:=r.kc.map (·.1),sub:=(xt.map XR.subs).flatten,rs:=xt.map (·.c),pU:=xt.map λr=>(r.c,r.B)}
def Kd.vP:Kd->Bool
 |.e _ _=>true
 |_=>false
def nE (Rs:List aR)(j:Nat):Bool:=match Rs[j]? with
 |some c=>!c.kd.vP
 |none=>true
def aR.part (Rs:List aR)(xt:List XR)(i:Nat)(r:aR):Bool:=match r.kd with
 |.n=>chkL (r.G Rs xt) r.s (z0k r.st)
 |.e _ _=>false
 |.g _ _=>false
def aR.ok (Rs:List aR)(xt:List XR)(fr:List Str)(i:Nat)(r:aR):Bool:=
 (decide ((z06 r.st).kind=.function)&& !(z06 r.st).isCoroutine&& !(z06 r.st).isGenerator&&decide r.N.Nodup&&decide (r.N.take r.ps.length=r.ps))&&
 (r.ps.all (λx=>(z06 r.st).names.lookup x==some .local||(z06 r.st).names.lookup x==some .cell)&&(z06 r.st).names.all (λy=>!(y.2==.free))&&r.free.all (λx=>fr.contains x)&&r.fns.all (λj=>decide (j<i)&&nE Rs j)&&r.part Rs xt i)
def xC (Rs:List aR)(xt:List XR)(fr:List Str):Nat->List aR->Bool
 |_,[]=>true
 |i,r::l=>r.ok Rs xt fr i&&xC Rs xt fr (i+1) l
def aR.Ih (Rs:List aR)(r:aR):Prop:=match r.kd with
 |.n=>r.F=aL (r.kc.map cD) (r.fns.map (fnAt Rs)) r.N.length r.s
 |.e _ _=>True
 |.g _ _=>True
def sD (Rs:List aR):List aR->Prop
 | []=>True
 |r::l=>r.Ih Rs/\sD Rs l
theorem Ii:∀{l:List aR} {k i:Nat} {r:aR},xC Rs xt fr k l=true->l[i]?=some r->r.ok Rs xt fr (k+i)=true
 | [],_,i,_,_,e=>by simp at e
 |r::l,k,0,_,h,e=>by cases e;exact(aE h).1
 |r::l,k,i+1,_,h,e=>by
  have:=Ii (aE h).2 e
  rwa [show k+(i+1)=k+1+i by omega]
theorem Nm:∀{l:List aR} {i:Nat} {r:aR},sD Rs l->l[i]?=some r->r.Ih Rs
 | [],i,_,_,e=>by simp at e
 |r::l,0,_,h,e=>by cases e;exact h.1
 |r::l,i+1,_,h,e=>Nm h.2 e
section
variable {P:cu}{w:World}{K:W.Frag}{mg:Str->Option Value}{base:Heap}{Rs:List aR}{xt:List XR}{fr:List Str}
theorem Bv {r:aR}(h:r.ok Rs xt fr i=true):FnScope (r.G Rs xt).N r.ps (z06 r.st)/\(∀x,r.free.contains x=true->fr.contains x=true)/\(∀j∈r.fns,j<i/\nE Rs j=true)/\r.part Rs xt i=true:=by
 obtain⟨h1,h2⟩:=aE h;obtain⟨a1,a2,a3,a4,a5⟩:=fW h1;obtain⟨b1,b2,b3,b4,b5⟩:=fW h2;refine⟨⟨x5 a1,dR a2,dR a3,x5 a4,x5 a5,λx hx=>?_,λy hy z=>?_⟩,λx hx=>?_,λj hj=>⟨x5 (aE (bj.mp b4 j hj)).1,(aE (bj.mp b4 j hj)).2⟩,b5⟩
 ·rcases gv.mp (bj.mp b1 x hx)with q|q
  ·exact .inl (x9 q)
  ·exact .inr (x9 q)
 ·have :=dR (bj.mp b2 y hy);rw[z]at this;cases this
 ·exact bj.mp b3 x (dq.mp hx)
def qA (P:cu)(w:World)(K:W.Frag)(mg:Str->Option Value)(base:Heap)(i:Nat)(r:aR):Prop:=match r.kd with
 |.e _ _=>True
 |_=>Cal P w K mg base (i+1) r.nm r.ps (spD K r.ps.length r.F)/\pA P w K mg base (i+1) r.nm r.ps r.ps.length r.F
theorem Bw (h:qA P w K mg base j c)(e:Rs[j]?=some c)(n:nE Rs j=true):Cal P w K mg base (j+1) c.nm c.ps (spD K c.ps.length c.F)/\pA P w K mg base (j+1) c.nm c.ps c.ps.length c.F:=by
 unfold nE at n;rw[e]at n;have n:(!c.kd.vP)=true:=n;unfold qA at h;cases hk:c.kd with
 |n=>rw[hk]at h;exact h
 |g d je=>rw[hk]at h;exact h
 |e x b=>rw[hk]at n;cases n
def Ij (K:W.Frag)(mg:Str->Option Value)(y:Str×List Str):Prop:=∃a,mg y.1=some (.ref a)/\∀H B,B none->Rep K H B (.ref a) (cD y)
theorem W7 (hr:Rs[i]?=some r)(h:r.ok Rs xt fr i=true)(T:∀x∈fr,mg x=none)(xk:∀Γ,Γ.sub=(xt.map XR.subs).flatten->Γ.rs=xt.map (·.c)->(Γ.pU=xt.map λr=>(r.c,r.B))->wY Γ K mg)(hC:∀y∈r.kc,Ij K mg y)(ih:∀j c,j<i->Rs[j]?=some c->qA P w K mg base j c):Dok (r.G Rs xt) (r.kc.map cD) (r.fns.map (fnAt Rs)) P w K mg base i where
 free:=λx hx=>T x (dq.mp ((Bv h).2.1 x hx))
 fns:=λj f n e=>by
  have e:(r.fns.map (sig Rs))[j]?=some (f,n):=e;rw[az]at e;obtain⟨jj,ej,e⟩:=ci.mp e;obtain⟨bF,eA⟩:=(Bv h).2.2.1 jj (b0 ej);have hl:=(bp.mp hr).1;have hc:=ak (n8 bF hl);unfold sig at e;rw[hc]at e;cases e;refine⟨fnAt Rs jj,jj+1,Rs[jj].ps,by rw[az,ej];rfl,bF,?_⟩;have:fnAt Rs jj=Rs[jj].F:=by unfold fnAt;rw[hc]
  rw[this];exact(Bw (ih jj _ bF hc) hc eA).1
 cst:=λj x e=>by have e:(r.kc.map (·.1))[j]?=some x:=e;rw[az]at e;obtain⟨y,ey,rfl⟩:=ci.mp e;obtain⟨a,h1,h2⟩:=hC y (b0 ey);exact⟨cD y,a,by rw[az,ey];rfl,h1,h2⟩
 wZ:=λj f n e=>by
  have e:(r.fns.map (sig Rs))[j]?=some (f,n):=e;rw[az]at e;obtain⟨jj,ej,e⟩:=ci.mp e;obtain⟨bF,eA⟩:=(Bv h).2.2.1 jj (b0 ej);have hl:=(bp.mp hr).1;have hc:=ak (n8 bF hl);unfold sig at e;rw[hc]at e;cases e;refine⟨fnAt Rs jj,jj+1,Rs[jj].ps,by rw[az,ej];rfl,bF,?_⟩;have:fnAt Rs jj=Rs[jj].F:=by unfold fnAt;rw[hc]
  rw[this];exact(Bw (ih jj _ bF hc) hc eA).2
 xk:=xk _ rfl rfl rfl
theorem W8 (hok:xC Rs xt fr 0 Rs=true)(hF:sD Rs Rs)(T:∀x∈fr,mg x=none)(xk:∀Γ,Γ.sub=(xt.map XR.subs).flatten->Γ.rs=xt.map (·.c)->(Γ.pU=xt.map λr=>(r.c,r.B))->wY Γ K mg)(n:Nat)(hC:∀r∈Rs,∀y∈r.kc,Ij K mg y)(O:∀i r,i<n->Rs[i]?=some r->Own K mg r.nm r.st r.ps):∀i r,i<n->Rs[i]?=some r->qA P w K mg base i r:=by
 intro i
 induction i using Nat.strongRecOn with
 |ind i ih=>
  intro r hi hr
  have ho:r.ok Rs xt fr i=true:=by
   have:=Ii hok hr
   rwa [qv]at this
  have D:=W7 hr ho T xk (hC r (b0 hr)) (λj c hj hc=>ih j hj c (n8 hj hi) hc);obtain⟨Sc,Af,_,hp⟩:=Bv ho;have hf:=Nm hF hr;obtain⟨f,fd,Fu,m,kp,b⟩:=O i r hi hr;unfold aR.Ih at hf;unfold aR.part at hp;unfold qA;cases hk:r.kd with
  |n=>rw[hk]at hf hp;rw[hf];exact⟨⟨f,fd,d_fn (Γ:=r.G Rs xt) Fu Sc rfl rfl rfl D hp,m,kp,b⟩,f,fd,zvq Fu Sc rfl rfl rfl D hp,m,kp,b⟩
  |e c bb=>rw[hk]at hp;cases hp
  |g d je=>rw[hk]at hp;cases hp
end
def Kf (K:W.Frag)(r:aR)(f:Addr)(fd:gz):Prop:=W.nsIn K bz r.nm=some (some (.ref f))/\∃(oc:Value) (od an:Option Addr) (sl:Array (Option Value)) (kV dc pm cd ct:Value),fd=W.fnOf r.nm r.nm (z16 r.st) (z0k r.st) (z06 r.st) .none kV dc pm an cd ct/\K.lookup f=some ⟨oc,od,.func fd,sl⟩/\W.codeIn K cd r.nm=true/\W.keepIn K (.ref f)=true
def Ik (r:aR):Prop:=∀(kV doc pm:Value) (an:Option Addr) (cdv ct:Value) (us:List Value),us.length=r.ps.length->xm (W.fnOf r.nm r.nm (z16 r.st) (z0k r.st) (z06 r.st) .none kV doc pm an cdv ct) ⟨us,[]⟩=pure (r.ps.zip us)
theorem pC (h:us.length=n+1):∃a l,us=a::l/\l.length=n:=by
 cases us with
 |nil=>cases h
 |cons a l=>exact⟨a,l,rfl,Nat.succ.inj h⟩
theorem xD {P:List Value->Prop}(h:∀a,P [a])(us:List Value)(z:us.length=1):P us:=by obtain⟨a,l,rfl,y⟩:=pC z;cases List.eq_nil_of_length_eq_zero y;exact h a
theorem hZ {P:List Value->Prop}(h:∀a b,P [a,b])(us:List Value)(z:us.length=2):P us:=by obtain⟨a,l,rfl,y⟩:=pC z;exact xD (P:=λl=>P (a::l)) (h a) l y
theorem lF {P:List Value->Prop}(h:∀a b c,P [a,b,c])(us:List Value)(z:us.length=3):P us:=by obtain⟨a,l,rfl,y⟩:=pC z;exact hZ (P:=λl=>P (a::l)) (h a) l y
theorem by4 {P:List Value->Prop}(h:∀a b c d,P [a,b,c,d])(us:List Value)(z:us.length=4):P us:=by obtain⟨a,l,rfl,y⟩:=pC z;exact lF (P:=λl=>P (a::l)) (h a) l y
theorem W9 {P:List Value->Prop}(h:∀a b c d e,P [a,b,c,d,e])(us:List Value)(z:us.length=5):P us:=by obtain⟨a,l,rfl,y⟩:=pC z;exact by4 (P:=λl=>P (a::l)) (h a) l y
def kOks (K:W.Frag):List aR->Prop
 | []=>True
 |r::l=>((∃f fd,Kf K r f fd)/\Ik r)/\kOks K l
theorem Nn {K:W.Frag}:∀{l:List aR} {i:Nat} {r:aR},kOks K l->l[i]?=some r->(∃f fd,Kf K r f fd)/\Ik r
 | [],i,_,_,e=>by simp at e
 |r::l,0,_,h,e=>by cases e;exact h.1
 |r::l,i+1,_,h,e=>Nn h.2 e
def strOf:Value->Option Str
 |.str x _=>if PyData.strOk x then some x else none
 |_=>none
def Np (K:W.Frag)(y:Str×List Str):Bool:=match W.nsIn K bz y.1 with
 |some (some (.ref a))=>(match K.lookup a with
  |some ⟨.type "tuple",none,.seq its _,_⟩=>decide (its.toList.map strOf=y.2.map some)&&decide (y.2.length<=1000)
  |_=>false)
 |_=>false
def tY (K:W.Frag)(r:aR):Option (gz×Bool):=match W.nsIn K bz r.nm with
 |some (some (.ref f))=>(match K.lookup f with
  |some ⟨_,_,.func fd,_⟩=>some (fd,W.codeIn K fd.code r.nm&&W.keepIn K (.ref f))
  |_=>none)
 |_=>none
def Nq (r:aR)(x:gz×Bool):gz×Bool:=(W.fnOf r.nm r.nm (z16 r.st) (z0k r.st) (z06 r.st) .none x.1.kwdefaults x.1.doc x.1.pyModule x.1.annotations x.1.code x.1.closureTuple,true)
def Bz (K:W.Frag)(A:Addr):Bool:=match K.lookup A with
 |some ⟨.type "type",_,.cls _,_⟩=>true
 |_=>false
def BA:List Value:=[.type "ValueError",.type "Exception",.type "BaseException",.type "object"]
def Il (K:W.Frag)(r:XR):Option (Bool×Bool×Option (Option Value)×Option (Option Value)×Option (Option Value)×Option Bool×Option Bool×Option Bool×Bool×Option Bool×List (Bool×Option Bool)):=match W.nsIn K bz r.c,W.nsIn K bz r.B with
 |some (some (.ref A)),some (some (.ref D))=>some (Bz K A,W.excIn K A BA "ValueError.__new__",W.findIn K (.ref A) "__class__",W.findIn K (.ref A) "__getattribute__",W.findIn K (.ref A) "__getattr__",W.subIn K (.ref A) (.type "object"),W.subIn K (.ref A) (.type "BaseException"),W.subIn K (.ref A) (.type "ValueError"),W.excIn K D BA "ValueError.__new__",W.subIn K (.ref A) (.ref D),r.cs.map λy=>match W.nsIn K bz y.1 with
  |some (some (.ref E))=>(Bz K E,W.subIn K (.ref A) (.ref E))
  |_=>(false,none))
 |_,_=>none
def Im (r:XR):Option (Bool×Bool×Option (Option Value)×Option (Option Value)×Option (Option Value)×Option Bool×Option Bool×Option Bool×Bool×Option Bool×List (Bool×Option Bool)):=some (true,true,some (some (.builtin "object.__class__")),some (some (.builtin "BaseException.__getattribute__")),some none,some true,some true,some true,true,some true,r.cs.map λy=>(true,some y.2))
theorem Nr {K:W.Frag}(h:Bz K A=true):∃dd cd sl,K.lookup A=some ⟨.type "type",dd,.cls cd,sl⟩:=by
 unfold Bz at h;split at h
 ·rename_i dd cd sl e;simp_all
 ·cases h
theorem zd3 {K:W.Frag}:∀{l:List (Str×Bool)},(l.map fun y=>match W.nsIn K bz y.1 with
  |some (some (.ref E))=>(Bz K E,W.subIn K (.ref A) (.ref E))
  |_=>(false,none))=(l.map λy=>(true,some y.2))->Dx K A l
 | [],_=>trivial
 |y::l,h=>by
  have h:=List.cons.inj h;refine⟨?_,zd3 h.2⟩;have e:=h.1
  dsimp only at e
  split at e
  ·rename_i E hE;have e:=x4 e;obtain⟨dd,cd,sl,q⟩:=Nr e.1;exact⟨E,dd,cd,sl,hE,q,e.2⟩
  ·cases(x4 e).1
theorem W' {K:W.Frag}(h:Il K r=Im r):∃A D,Kx K r A D:=by
 unfold Il Im at h;split at h
 ·rename_i A D hA hD;have h:=x4 (xx h);have h2:=x4 h.2;have h3:=x4 h2.2;have h4:=x4 h3.2;have h5:=x4 h4.2;have h6:=x4 h5.2;have h7:=x4 h6.2;have h8:=x4 h7.2;have h9:=x4 h8.2;have Nt:=x4 h9.2;exact⟨A,D,hA,Nr h.1,h2.1,h3.1,h4.1,h5.1,h6.1,h7.1,h8.1,hD,h9.1,Nt.1,zd3 Nt.2⟩
 ·cases h
theorem Nu {K:W.Frag}:∀{l:List XR},(∀r∈l,∃A D,Kx K r A D)->kxs K l
 | [],_=>trivial
 |r::_,h=>⟨h r (.head _),Nu λr hr=>h r (.tail _ hr)⟩
def KEq (K:iu->W.Frag)(Rs:List aR)(fr:List Str)(xt:List XR):Prop:=∀P,(Rs.map λr=>(tY (K P) r).isSome,Rs.map λr=>tY (K P) r,fr.map λn=>W.nsIn (K P) bz n,xt.map λr=>Il (K P) r,Rs.map λr=>r.kc.map λy=>Np (K P) y)=(Rs.map λ_=>true,Rs.map λr=>(tY (K P) r).map (Nq r),fr.map λ_=>some none,xt.map Im,Rs.map λr=>r.kc.map λ_=>true)
theorem KEq_r:KEq=KEq:=rfl
theorem Xa {K:W.Frag}(h:(tY K r).isSome=true)(e:tY K r=(tY K r).map (Nq r)):∃f fd,Kf K r f fd:=by
 cases z:tY K r with
 |none=>rw[z]at h;cases h
 |some x=>
  rw[z]at e;have e:=xx e;unfold tY at z;split at z
  ·rename_i f hf;split at z
   ·rename_i oc od fd sl hl;have z:=xx z;have z1:=congrArg xr z;have z2:=congrArg Prod.snd z;rw[congrArg Prod.snd e]at z2;have z3:=av.mp z2;subst z1;exact⟨f,x.1,hf,oc,od,x.1.annotations,sl,x.1.kwdefaults,x.1.doc,x.1.pyModule,x.1.code,x.1.closureTuple,congrArg xr e,hl,z3.1,z3.2⟩
   ·cases z
  ·cases z
theorem DA {K:iu->W.Frag}(h:KEq K Rs fr xt)(P:iu):(∀r∈Rs,∃f fd,Kf (K P) r f fd)/\(∀n∈fr,W.nsIn (K P) bz n=some none)/\kxs (K P) xt/\∀r∈Rs,∀y∈r.kc,Np (K P) y=true:=by have a:=x4 (h P);have b:=x4 a.2;have c:=x4 b.2;have d:=x4 c.2;exact⟨λr hr=>Xa (gj.mp a.1 r hr) (gj.mp b.1 r hr),λn hn=>gj.mp c.1 n hn,Nu λr hr=>W' (gj.mp d.1 r hr),λr hr=>gj.mp (gj.mp d.2 r hr)⟩
def xE:List aR->Prop
 | []=>True
 |r::l=>Ik r/\xE l
theorem Nv {K:W.Frag}:∀{l:List aR},(∀r∈l,∃f fd,Kf K r f fd)->xE l->kOks K l
 | [],_,_=>trivial
 |r::_,h,b=>⟨⟨h r (.head _),b.1⟩,Nv (λr hr=>h r (.tail _ hr)) b.2⟩
end Mi
name_quick tkeq for Mi.KEq by Mi.KEq_r
namespace Mk
open Mi
section
open PySem
abbrev P:=List (Str×Int)
def pr (p:Str×Int):D:=.tuple [.str p.1,.int p.2]
def pk (l:P):D:=.tuple (l.map pr)
def ep (p:Str×Int):D×D:=(.str p.1,.int p.2)
def en (l:P):bK:=l.map ep
def fnd:P->Str->Option Int
 | [],_=>none
 |p::l,n=>if p.1=n then some p.2 else fnd l n
def look (l:P)(n:Str):Int:=(fnd l n).getD 0
def ks (l:P):List Str:=l.map (·.1)
def put:P->Str->Int->P
 | [],n,v=>[(n,v)]
 |p::l,n,v=>if p.1=n then(p.1,v)::l else p::put l n v
def sl (a b:Str):Prop:=a.cps.toList<b.cps.toList
theorem Io (a:Str):¬sl a a:=List.lt_irrefl _
theorem Nw (h:sl a b)(k:sl b c):sl a c:=List.lt_trans h k
theorem Xb {b:Str}(h:a.cps.toList=b.cps.toList):a=b:=by cases a;cases b;simp at h;subst h;rfl
theorem Ny (h:a≠b):sl a b\/sl b a:=by
 by_cases h1:sl a b
 ·exact .inl h1
 ·by_cases h2:sl b a
  ·exact .inr h2
  ·exact(h (Xb (List.le_antisymm (List.not_lt.mp h2) (List.not_lt.mp h1)))).elim
theorem Xc (h:sl a b):a≠b:=λe=>Io b (e▸h)
theorem z21:∀{l:P},n∉ks l->fnd l n=none
 | [],_=>rfl
 |p::l,h=>by simp only[ks,bg,ao,not_or]at h;rw[fnd,xw (λe=>h.1 e.symm)];exact z21 h.2
theorem tZ:∀{l:P},fnd l n=some v->(n,v)∈l
 | [],h=>by cases h
 |p::l,h=>by
  rw[fnd]at h;split at h
  ·rename_i e;cases h;subst e;simp_all
  ·exact br _ (tZ h)
theorem Xd (h:fnd l n=some v):n∈ks l:=ba.mpr ⟨_,tZ h,rfl⟩
theorem xF:∀{l:P} {p:Str×Int},(ks l).Nodup->p∈l->fnd l p.1=some p.2
 |q::l,p,nd,h=>by
  rw[ks,bg,cr]at nd;rw[fnd];rcases(ao.mp h)with rfl|h
  ·rw[xu rfl]
  ·rw[xw λe:q.1=p.1=>nd.1 (ba.mpr ⟨p,h,e.symm⟩)];exact xF nd.2 h
theorem Nz (h:n∈ks l):∃v,fnd l n=some v:=by
 cases e:fnd l n with
 |some v=>exact⟨v,rfl⟩
 |none=>
  exfalso
  induction l with
  |nil=>cases h
  |cons p l ih=>
   rw[fnd]at e;split at e
   ·cases e
   ·rename_i hn;rcases ao.mp h with h|h
    ·exact hn h.symm
    ·exact ih h e
theorem NA (n:Str)(v:Int)(m:Str):∀l:P,fnd (put l n v) m=if n=m then some v else fnd l m
 | []=>by simp[put,fnd]
 |p::l=>by
  rw[put];split
  ·rename_i e;subst e;rw[fnd,fnd];split<;>rfl
  ·rename_i e;rw[fnd,fnd,NA n v m l];split
   ·rename_i e2;rw[xw λz=>e (e2.trans z.symm)]
   ·rfl
theorem Xe (n:Str)(v:Int)(m:Str)(l:P):look (put l n v) m=if n=m then v else look l m:=by rw[look,NA];split<;>rfl
theorem Ip (n:Str)(v:Int):∀l:P,∀m,m∈ks (put l n v)↔m=n\/m∈ks l
 | [],m=>by simp[put,ks]
 |p::l,m=>by
  rw[put];split
  ·rename_i e;subst e;simp[ks]
  ·have :=Ip n v l m;simp only[ks,bg,ao]at this ⊢;rw[this];constructor
   ·rintro(h|h|h)<;>simp[h]
   ·rintro(h|h|h)<;>simp[h]
theorem Iq (n:Str)(v:Int):∀l:P,(ks l).Nodup->(ks (put l n v)).Nodup
 | [],_=>by simp[put,ks]
 |p::l,h=>by
  rw[put];split
  ·exact h
  ·rename_i e;rw[ks,bg,cr]at h ⊢;refine⟨λz=>?_,Iq n v l h.2⟩;rcases(Ip n v l p.1).mp z with z|z
   ·exact e z
   ·exact h.1 z
theorem NB:∀{a b:List Str},a.Nodup->(∀x∈a,x∈b)->a.length<=b.length
 | [],b,_,_=>bw _
 |x::a,b,nd,h=>by rw[cr]at nd;have hx:=h x bh;have:=NB nd.2 λy hy=>(List.mem_erase_of_ne λe:y=x=>nd.1 (e▸hy)).mpr (h y (br _ hy));rw[List.length_erase_of_mem hx]at this;have:0<b.length:=List.length_pos_of_mem hx;simp only[bt];omega
theorem DB (a b:Str):eqK (.str a) (.str b)=decide (a=b):=by simp only[eqK]
theorem NC (a:Str):lU (.str a)=true:=by simp only[lU]
theorem ND (n:Str):∀l,gD (en l) (.str n)=(fnd l n).map .int
 | []=>rfl
 |p::l=>by
  have ih:=ND n l;unfold gD at ih ⊢;rw[fnd];show Option.map _ (match eqK (.str p.1) (.str n)with|true=>_|false=>_)=_;rw[DB];by_cases h:p.1=n
  ·rw[xu h];simp[h,ep]
  ·rw[xw h];simp only[h,decide_false];exact ih
theorem Ir (n:Str):∀l,((en l).any λe=>eqK e.1 (.str n))=true↔n∈ks l
 | []=>by simp[en,ks]
 |p::l=>by show(eqK (.str p.1) (.str n)||_)=true↔_;rw[DB,gy,ks];have:=Ir n l;rw[en,ks]at this;rw[this];simp[eq_comm]
theorem NF:∀{l:P},(ks l).Nodup->n∈ks l->(en l).map (λe=>if eqK e.1 (.str n)then(e.1,.int v)else e)=en (put l n v)
 |p::l,nd,h=>by
  rw[ks,bg,cr]at nd;rw[put];show(if eqK (.str p.1) (.str n)=true then _ else _)::_=_;rw[DB];by_cases e:p.1=n
  ·have hn:∀q∈l,¬q.1=n:=λq hq z=>nd.1 (ba.mpr ⟨q,hq,z.trans e.symm⟩);rw[xu e,xu (by simpa using e)]
   congr 1
   rw[gb];apply t8;intro q hq;show(if eqK (.str q.1) (.str n)=true then _ else _)=ep q;rw[DB,xw (by simpa using hn q hq)]
  ·rw[xw e,xw (by simpa using e)]
   congr 1
   refine NF nd.2 ?_;rcases ao.mp h with h|h
   ·exact(e h.symm).elim
   ·exact h
theorem Iu:∀{l:P},n∉ks l->put l n v=l++[(n,v)]
 | [],_=>rfl
 |p::l,h=>by simp only[ks,bg,ao,not_or]at h;rw[put,xw λe=>h.1 e.symm,Iu h.2];rfl
theorem NG (nd:(ks l).Nodup):dput (en l) (.str n) (.int v)=en (put l n v):=by
 unfold dput;by_cases h:n∈ks l
 ·rw[xu ((Ir n l).mpr h)];exact NF nd h
 ·rw[xw λz=>h ((Ir n l).mp z),Iu h];simp[en,ep]
theorem NH:∀l acc,(ks (acc++l)).Nodup->lV (en acc) (l.map pr)=some (en (acc++l))
 | [],acc,_=>by simp[lV]
 |p::l,acc,nd=>by
  have Xf:=nd;rw[ks,cj]at nd;have h1:=λz=>by rw[pp]at nd;exact nd.2.2 _ z _ bh rfl
  show(if lU (.str p.1)then lV (dput (en acc) (.str p.1) (.int p.2)) (l.map pr)else none)=_;rw[xu (NC _),NG (by rw[pp]at nd;exact nd.1),Iu h1,NH l (acc++[(p.1,p.2)]) (by rw[ir];exact Xf),ir];rfl
theorem Xg (nd:(ks l).Nodup):lV [] (l.map pr)=some (en l):=by have:=NH l [] (by simpa using nd);simpa[en]using this
theorem Xi (l:P):(en l).map ent=l.map pr:=by rw[en,gb];rfl
theorem NI (l:P):(en l).length=l.length:=by rw[en,ae]
theorem NJ (l:P):cA (en l)=true:=by unfold cA;rw[bj];intro e he;obtain⟨p,_,rfl⟩:=ba.mp he;rfl
theorem NK (p:Str×Int):aP (pr p)=true:=rfl
theorem Iv (l:P):imms (l.map pr)=true:=yq.mpr λx hx=>by obtain⟨p,_,rfl⟩:=ba.mp hx;rfl
theorem cO (l:P):aP (pk l)=true:=Iv l
theorem Xj (l:P):pS (l.map pr)=true:=by
 cases l with
 |nil=>rfl
 |cons p l=>
  unfold pS;have:((p::l).map pr).all (zad ([PyData.str p.1,PyData.int p.2].map yt))=true:=by rw[bj];intro x hx;obtain⟨q,_,rfl⟩:=ba.mp hx;rfl
  rw[gy];right;exact av.mpr ⟨rfl,this⟩
def lp (p q:Str×Int):Bool:=cN (pr p) (pr q)
def iW (x:Str×Int):P->P
 | []=>[x]
 |y::ys=>if lp y x then y::iW x ys else x::y::ys
def sE:P->P
 | []=>[]
 |x::xs=>iW x (sE xs)
theorem NL (x:Str×Int):∀l:P,iR (pr x) (l.map pr)=(iW x l).map pr
 | []=>rfl
 |y::l=>by
  rw[bg,iR,iW,lp];split
  ·rw[NL x l];rfl
  ·rfl
theorem NN:∀l:P,z1w (l.map pr)=(sE l).map pr
 | []=>rfl
 |x::l=>by rw[bg,z1w,NN l,NL,sE]
theorem Iw (x:Str×Int):∀l:P,(iW x l).Perm (x::l)
 | []=>.refl _
 |y::l=>by
  rw[iW];split
  ·exact((Iw x l).cons y).trans (.swap x y l)
  ·exact .refl _
theorem Iy:∀l:P,(sE l).Perm l
 | []=>.refl _
 |x::l=>(Iw x (sE l)).trans ((Iy l).cons x)
theorem NO (h:p.1≠q.1):lp p q=true↔sl p.1 q.1:=by
 show cN (.tuple [.str p.1,.int p.2]) (.tuple [.str q.1,.int q.2])=true↔_;simp only[cN,bR];have:bW (.str p.1) (.str q.1)=false:=by simp[bW,PyData.eqv,h]
 rw[this];simp[sl]
def Sd (l:P):Prop:=l.Pairwise λp q=>sl p.1 q.1
theorem NP:∀{l:P},Sd l->x.1∉ks l->Sd (iW x l)
 | [],_,_=>jp _ _
 |y::l,h,hx=>by
  have h':=dt.1 h;simp only[ks,bg,ao,not_or]at hx;rw[iW];split
  ·rename_i hl;have hy:=(NO (λe=>hx.1 e.symm)).mp hl;refine dt.mpr ⟨λz hz=>?_,NP h'.2 hx.2⟩;rcases ao.mp ((Iw x l).mem_iff.mp hz)with rfl|hz
   ·exact hy
   ·exact h'.1 z hz
  ·rename_i hl
   have hy:sl x.1 y.1:=by
    rcases Ny hx.1 with z|z
    ·exact z
    ·exact(hl ((NO (λe=>hx.1 e.symm)).mpr z)).elim
   refine dt.mpr ⟨λz hz=>?_,h⟩;rcases(ao.mp hz)with rfl|hz
   ·exact hy
   ·exact Nw hy (h'.1 z hz)
theorem Iz:∀{l:P},(ks l).Nodup->Sd (sE l)
 | [],_=>List.Pairwise.nil
 |x::l,nd=>by rw[ks,bg,cr]at nd;exact NP (Iz nd.2) λz=>nd.1 (((Iy l).map (·.1)).mem_iff.mp z)
theorem NQ (h:Sd l):(ks l).Nodup:=by unfold ks List.Nodup;rw[ma];exact List.Pairwise.imp (λz=>Xc z) h
theorem Xk (h:a.Perm b)(nd:(ks b).Nodup)(n:Str):fnd a n=fnd b n:=by
 have Xl:=(List.Perm.nodup_iff (h.map (λp:Str×Int=>p.1))).mpr nd;cases e:fnd b n with
 |some v=>exact xF Xl (h.mem_iff.mpr (tZ e))
 |none=>
  cases e2:fnd a n with
  |none=>rfl
  |some v=>rw[xF nd (h.mem_iff.mp (tZ e2))]at e;cases e
structure PK (l:P):Prop where
 sd:Sd l
 pos:∀p∈l,0<p.2
theorem PK.nd (h:PK l):(ks l).Nodup:=NQ h.sd
theorem PK.lG (h:PK l)(n:Str):0<=look l n:=by
 unfold look;cases e:fnd l n with
 |none=>exact tm _
 |some v=>exact Int.le_of_lt (h.pos _ (tZ e))
theorem PK.key (h:PK l):n∈ks l↔0<look l n:=by
 constructor
 ·intro z;obtain⟨v,e⟩:=Nz z;unfold look;rw[e];exact h.pos _ (tZ e)
 ·intro z;unfold look at z;cases e:fnd l n with
  |none=>rw[e]at z;exact absurd z (by decide)
  |some v=>exact Xd e
theorem PK.cC (h:PK l)(hp:p∈l):look l p.1=p.2:=by unfold look;rw[xF h.nd hp];rfl
theorem PK.ext:∀{a b:P},PK a->PK b->(∀n,look a n=look b n)->a=b
 | [],[],_,_,_=>rfl
 | [],q::b,_,hb,h=>by have:=h q.1;rw[hb.cC bh]at this;have z:=hb.pos _ bh;rw[<-this]at z;exact absurd z (ur 0)
 |p::a,[],ha,_,h=>by have:=h p.1;rw[ha.cC bh]at this;have z:=ha.pos _ bh;rw[this]at z;exact absurd z (ur 0)
 |p::a,q::b,ha,hb,h=>by
  have no:∀{x y:Str×Int} {l m:P},PK (x::l)->PK (y::m)->(∀n,look (x::l) n=look (y::m) n)->¬sl x.1 y.1:=λ{x y l m} hx hy h z=>by
   have e:=h x.1;rw[hx.cC bh]at e;have k:=hy.key.mpr (e▸hx.pos _ bh);rcases ao.mp k with k|k
   ·exact Io _ (k▸z)
   ·obtain⟨w,hw,e2⟩:=ba.mp k;have:=(dt.mp hy.sd).1 w hw;rw[e2]at this;exact Io _ (Nw z this)
  have e1:p.1=q.1:=by
   by_cases e:p.1=q.1
   ·exact e
   ·rcases Ny e with z|z
    ·exact(no ha hb h z).elim
    ·exact(no hb ha (λn=>(h n).symm) z).elim
  have e2:p.2=q.2:=by have:=h p.1;rw[ha.cC bh,e1,hb.cC bh]at this;exact this
  have yf:=vy e1 e2;subst yf
  congr 1
  have ta:PK a:=⟨(dt.mp ha.sd).2,λx hx=>ha.pos x (br _ hx)⟩;have tb:PK b:=⟨(dt.mp hb.sd).2,λx hx=>hb.pos x (br _ hx)⟩;refine PK.ext ta tb λn=>?_;have hn:=h n;unfold look at hn ⊢;rw[fnd,fnd]at hn;by_cases e:p.1=n
  ·have na:n∉ks a:=by have :=ha.nd;rw[ks,bg,cr]at this;exact e▸this.1
   have nb:=by have:=hb.nd;rw[ks,bg,cr]at this;exact e▸this.1
   rw[z21 na,z21 nb]
  ·rw[xw e,xw e]at hn;exact hn
end
section
open PySem
section
variable {Κ:List D}{Φ:List Fn}{Y:Rho}{a b c t:C}{p q:S}{i:Nat}{f:D->Rho->Res Out}{x:D}{xs:List D}
theorem NR:aX Κ Φ (.seq p q) Y=qX (aX Κ Φ p Y) (aX Κ Φ q):=rfl
theorem IA:aX Κ Φ (.asg (.nm i) t) Y=(aG Κ Φ t Y>>=λx=>.ok (.nx (Y.set i (some (z1u x))))):=rfl
theorem IB:aX Κ Φ (.bI c p q) Y=(eQ Κ Φ c Y>>=λk=>if k then aX Κ Φ p Y else aX Κ Φ q Y):=rfl
theorem NS:aX Κ Φ (.ret (.var i)) Y=(match Y[i]? with|some (some (g,d))=>.ok (.rt (if aP d then .fr else kZ g) d)|_=>.no):=rfl
theorem Xm:aX Κ Φ (.eP i a b) Y=(aG Κ Φ b Y>>=λy=>aG Κ Φ a Y>>=λx=>match Y[i]? with
 |some (some (.fr,.dict es))=>if lU x.2&&okIn y&&decide (es.length<bJ)then .ok (.nx ((Y.set i (some (.fr,.dict (dput es x.2 y.2)))).map jI))else .no
 |some (some (.fr,.list xs))=>(match x.2 with
  |.int j=>if okIn y then(match jU xs.length j with|some n=>.ok (.nx ((Y.set i (some (.fr,.list (xs.set n y.2)))).map jI))|none=>.no)else .no
  |_=>.no)
 |_=>.no):=rfl
theorem Xn:aX Κ Φ (.mut m i a) Y=(dY Κ Φ a Y>>=λys=>match Y[i]? with
 |some (some (.fr,.list xs))=>oK m xs ys>>=λtN=>.ok (.nx ((Y.set i (some (.fr,.list tN))).map jI))
 |_=>.no):=rfl
theorem Xo:aX Κ Φ (.bA t' a p) Y=(evF Κ Φ a Y>>=λw=>dD (λx ρ1=>eG t' (gJ x w.1,x) ρ1>>=λcF=>aX Κ Φ p cF) w.2.1 w.2.2):=rfl
theorem NT:dD f (x::xs) Y=(match f x Y with
 |.ok (.nx aO)=>dD f xs aO
 |.ok (.rt g d)=>.ok (.rt g d)
 |.exc e=>.exc e
 |.no=>.no):=rfl
theorem Xp:dY Κ Φ .nil Y=.ok []:=rfl
theorem DC:dY Κ Φ (.cons a b) Y=(aG Κ Φ a Y>>=λx=>dY Κ Φ b Y>>=λxs=>.ok (x::xs)):=rfl
theorem BB:FI Κ Φ (.tv a) Y=(aG Κ Φ a Y>>=λx=>z4v x.2>>=λp=>.ok (x.1,p)):=rfl
theorem IC:eQ Κ Φ (.tv a) Y=(aG Κ Φ a Y>>=λx=>kY x.2):=rfl
theorem Xq:eQ Κ Φ (.and a b) Y=(eQ Κ Φ a Y>>=λc=>if c then eQ Κ Φ b Y else .ok false):=rfl
theorem Xr:eQ Κ Φ (.not a) Y=(eQ Κ Φ a Y>>=λc=>.ok (!c)):=rfl
theorem ID:evW Κ Φ (.tv a) Y=(aG Κ Φ a Y>>=λx=>z4s x.2>>=λxs=>.ok (x.1,xs)):=rfl
theorem Xs:evW Κ Φ (.jY a) Y=(dY Κ Φ a Y>>=λys=>lX (ys.map (·.2))>>=λxs=>.ok (.fr,xs)):=rfl
theorem NU:evF Κ Φ (.tv (.var i)) Y=(if lZ Y i then C0 i Y else if iS Κ Φ (.tv (.var i)) Y then aG Κ Φ (.var i) Y>>=λx=>oM x Y else pT Κ Φ (.tv (.var i)) Y):=rfl
end
theorem eT (h:aX Κ Φ a Y=.ok (.nx aO))(k:aX Κ Φ b aO=r):aX Κ Φ (.seq a b) Y=r:=by rw[NR,h];exact k
theorem cE (h:aX Κ Φ a Y=.ok (.rt g d)):aX Κ Φ (.seq a b) Y=.ok (.rt g d):=by rw[NR,h];rfl
theorem eX (h:aX Κ Φ s (ds.map (λd=>some (.od,d))++bv (n-ds.length) none)=.ok (.rt g d)):aL Κ Φ n s ds=.ok (g,d):=by unfold aL;rw[h]
theorem NV {α β:Type}{m:β->D}(I:α->Rho->Prop)(step:α->β->α):∀(xs:List β) (a:α) (Y:Rho),(∀a x Y,x∈xs->I a Y->∃aO,f (m x) Y=.ok (.nx aO)/\I (step a x) aO)->I a Y->∃aO,dD f (xs.map m) Y=.ok (.nx aO)/\I (xs.foldl step a) aO
 | [],a,Y,_,h=>⟨Y,rfl,h⟩
 |x::xs,a,Y,hf,h=>by obtain⟨ρ1,e,h1⟩:=hf a x Y bh h;obtain⟨cF,e2,h2⟩:=NV I step xs (step a x) ρ1 (λa y Y hy=>hf a y Y (br _ hy)) h1;exact⟨cF,by rw[bg,NT,e];exact e2,h2⟩
theorem NW {β:Type}{m:β->D}(I:List β->Rho->Prop):∀xs pre Y,(∀sF x post Y,pre++xs=sF++x::post->I sF Y->∃aO,f (m x) Y=.ok (.nx aO)/\I (sF++[x]) aO)->I pre Y->∃aO,dD f (xs.map m) Y=.ok (.nx aO)/\I (pre++xs) aO
 | [],pre,Y,_,h=>⟨Y,rfl,by rw[dh];exact h⟩
 |x::xs,pre,Y,hf,h=>by
  obtain⟨ρ1,e,h1⟩:=hf pre x xs Y rfl h;have e0:pre++[x]++xs=pre++x::xs:=by rw[ir];rfl
  obtain⟨cF,e2,h2⟩:=NW I xs (pre++[x]) ρ1 (λsF y post Y hy=>hf sF y post Y (e0▸hy)) h1;exact⟨cF,by rw[bg,NT,e];exact e2,e0▸h2⟩
theorem IE {β:Type}{m:β->D}(g:β->Option D):∀(xs:List β),(∀x∈xs,f (m x)=.ok ((g x).map λd=>(.fr,d)))->lY f (xs.map m)=.ok ((xs.filterMap g).map λd=>(.fr,d))
 | [],_=>rfl
 |x::xs,h=>by
  rw[bg,lY,h x bh,IE g xs λy hy=>h y (br _ hy)];cases e:g x with
  |none=>rw[qa e];rfl
  |some d=>rw[qb e];rfl
theorem NY (xs:List D):tK (xs.map λd=>(G.fr,d))=.fr:=by unfold tK;rw[xu];rw[wt];exact bj.mpr λ_ _=>rfl
theorem Xu (xs:List D):cU (xs.map λd=>(G.fr,d))=.fr:=by unfold cU;rw[xu];rw[bj];intro x hx;obtain⟨d,_,rfl⟩:=ba.mp hx;rfl
theorem DD (xs:List D):(xs.map λd=>(G.fr,d)).map (λx=>x.2)=xs:=by rw[gb];exact xb _
theorem Xv (a b:Int):nH "max" [.int a,.int b]=.ok (.int (max a b)):=rfl
theorem Xw (l:P)(n:Str)(v:Int):mtD "get" (.dict (en l)) [.str n,.int v]=.ok (.int ((fnd l n).getD v)):=by have:mtD "get" (.dict (en l)) [.str n,.int v]=.ok ((gD (en l) (.str n)).getD (.int v)):=rfl;rw[this,ND];cases fnd l n<;>rfl
theorem IF (l:P)(n:Str):mtD "get" (.dict (en l)) [.str n,.int 0]=.ok (.int (look l n)):=Xw l n 0
theorem IG (l:Bool)(xs:List D):aggD "tuple" l xs=.ok (.tuple xs):=rfl
theorem NZ (b:Bool)(nd:(ks l).Nodup):aggD "dict" b (l.map pr)=.ok (.dict (en l)):=by show Res.fO ((lV [] (l.map pr)).map PyData.dict)=_;rw[Xg nd];rfl
theorem IH {α:Type}(xs:List α)(i:Int)(d:α)(h0:0<=i)(h1:i<xs.length):dF xs i=some (xs.getD i.toNat d):=by
 unfold dF jU;rw[xu h0,xu h1];show xs[i.toNat]?=_;have:i.toNat<xs.length:=by omega
 rw[au,ak this];rfl
theorem Xx {ns:List Int}{i:Int}(h0:0<=i)(h1:i<ns.length):fC (.list (ns.map .int)) (.int i)=.ok (.int (ns.getD i.toNat 0)):=by
 show Res.fO (dF (ns.map PyData.int) i)=_;rw[IH _ i (.int 0) h0 (by rw[ae];exact h1)]
 congr 1
 have:i.toNat<ns.length:=by omega
 rw[au,au,az,ak this];rfl
theorem add_list (h:a.length+b.length<=1000):cW .Add (.list a) (.list b)=.ok (.list (a++b)):=by show(if _ then _ else _)=_;rw[xu (by unfold bJ;omega)]
theorem II (h:-(2 ^ 64)<b/\b<2 ^ 64):cW .Mult (.int a) (.int b)=.ok (.int (a*b)):=by show(if _ then _ else _)=_;rw[xu (.inr h)]
theorem Xy (h:-(2 ^ 64)<a/\a<2 ^ 64):cW .Mult (.int a) (.int b)=.ok (.int (a*b)):=by show(if _ then _ else _)=_;rw[xu (.inl h)]
theorem xG (h:0<b):cW .Mod (.int a) (.int b)=.ok (.int (a%b)):=by show(if _ then _ else _)=_;rw[xu h]
theorem Xz (h0:0<=n)(h1:n<=1000):lX [.int n]=.ok ((fq n.toNat).map λ(i:Nat)=>.int i):=by show(if _ then _ else _)=_;rw[xu (by unfold bJ;omega)]
theorem xH (ns:List Str):imms (ns.map .str)=true:=yq.mpr λx hx=>by obtain⟨p,_,rfl⟩:=ba.mp hx;rfl
theorem uA (a b:Int):bW (.int a) (.int b)=decide (a=b):=by rfl
section
variable {Κ:List D}{Φ:List Fn}{Y:Rho}
theorem nK:aG Κ Φ (.var i) Y=(CZ Y[i]?):=rfl
theorem XB:aG Κ Φ (.bD) Y=(.ok (.fr,.none)):=rfl
theorem IJ:aG Κ Φ (.bl b) Y=(.ok (.fr,.bool b)):=rfl
theorem XE:aG Κ Φ (.int i) Y=(.ok (.fr,.int i)):=rfl
theorem XG:aG Κ Φ (.str x) Y=(.ok (.fr,.str x)):=rfl
theorem N0:aG Κ Φ (.bin op a b) Y=(aG Κ Φ a Y>>=λx=>aG Κ Φ b Y>>=λy=>cW op x.2 y.2>>=λd=>.ok (gN d (cU [x,y]),d)):=rfl
theorem XH:aG Κ Φ (.cmp op a b) Y=(aG Κ Φ a Y>>=λx=>aG Κ Φ b Y>>=λy=>cmpD op x.2 y.2>>=λb=>.ok (.fr,.bool b)):=rfl
theorem XJ:aG Κ Φ (.and a b) Y=(aG Κ Φ a Y>>=λx=>match x.2 with|.bool c=>if c then aG Κ Φ b Y else .ok (.fr,.bool false)|_=>.no):=rfl
theorem IK:aG Κ Φ (.or a b) Y=(aG Κ Φ a Y>>=λx=>match x.2 with|.bool c=>if c then .ok (.fr,.bool true)else aG Κ Φ b Y|_=>.no):=rfl
theorem XM:aG Κ Φ (.not a) Y=(aG Κ Φ a Y>>=λx=>kY x.2>>=λc=>.ok (.fr,.bool (!c))):=rfl
theorem IL:aG Κ Φ (.oJ c a b) Y=(eQ Κ Φ c Y>>=λk=>if k then aG Κ Φ a Y else aG Κ Φ b Y):=rfl
theorem XN:aG Κ Φ (.tup xs) Y=(dY Κ Φ xs Y>>=λys=>.ok (gJ (.tuple (ys.map (·.2))) (cU ys),.tuple (ys.map (·.2)))):=rfl
theorem XO:aG Κ Φ (.lst xs) Y=(dY Κ Φ xs Y>>=λys=>.ok (cU ys,.list (ys.map (·.2)))):=rfl
theorem XQ:aG Κ Φ (.jX) Y=(.ok (.fr,.dict [])):=rfl
theorem pD:aG Κ Φ (.ix a b) Y=(aG Κ Φ a Y>>=λx=>aG Κ Φ b Y>>=λy=>fC x.2 y.2>>=λd=>.ok (gJ d x.1,d)):=rfl
theorem IM:aG Κ Φ (.call k w1 args) Y=(dY Κ Φ args Y>>=λys=>match Φ[k]? with|some m=>m (ys.map (·.2))>>=λr=>.ok (gJ r.2 (kZ r.1),r.2)|none=>.no):=rfl
theorem IP:aG Κ Φ (.bi f args) Y=(dY Κ Φ args Y>>=λys=>nH f (ys.map (·.2))>>=λd=>.ok (gJ d .al,d)):=rfl
theorem N1:aG Κ Φ (.iF f a) Y=(FI Κ Φ a Y>>=λw=>aggD f w.2.1 w.2.2>>=λd=>.ok (gJ d (if imms w.2.2 then .fr else agG w.1),d)):=rfl
theorem IQ:aG Κ Φ (.mt m o args) Y=(aG Κ Φ o Y>>=λx=>dY Κ Φ args Y>>=λys=>mtD m x.2 (ys.map (·.2))>>=λd=>.ok (gJ d .al,d)):=rfl
theorem XS:aG Κ Φ (.sortI i) Y=(match Y[i]? with
 |some (some (_,.dict es))=>if cA es&&pS (es.map ent)&&decide (es.length<64)then .ok (.fr,.list (z1w (es.map ent)))else .no
 |_=>.no):=rfl
theorem N2 {cond:C}:aG Κ Φ (.comp nt js w1 tg it cond elt) Y=(evW Κ Φ it Y>>=λw=>lY (λx=>eG tg (gJ x w.1,x) (bv nt none++js.map λj=>cV (Y.getD j none))>>=λρ1=>eQ Κ Φ cond ρ1>>=λk=>if k then aG Κ Φ elt ρ1>>=λy=>.ok (some y)else .ok none) w.2>>=λys=>.ok (tK ys,.list (ys.map (·.2)))):=rfl
end
section
variable {Κ:List D}{Φ:List Fn}{Y:Rho}{a b c t o args:C}{x y d:D}{ds:List D}{k k':Bool}{g:G}
def Ev (Κ:List D)(Φ:List Fn)(c:C)(Y:Rho)(d:D):Prop:=∃g,aG Κ Φ c Y=.ok (g,d)
def Vv (Κ:List D)(Φ:List Fn)(c:C)(Y:Rho)(d:D):Prop:=aG Κ Φ c Y=.ok (.fr,d)/\aP d=true
def Aa (Κ:List D)(Φ:List Fn)(c:C)(Y:Rho)(ds:List D):Prop:=∃ys,dY Κ Φ c Y=.ok ys/\ys.map (·.2)=ds
def Av (Κ:List D)(Φ:List Fn)(c:C)(Y:Rho)(ds:List D):Prop:=dY Κ Φ c Y=.ok (ds.map λd=>(.fr,d))/\imms ds=true
def Tt (Κ:List D)(Φ:List Fn)(c:C)(Y:Rho)(k:Bool):Prop:=eQ Κ Φ c Y=.ok k
theorem Vv.e (h:Vv Κ Φ c Y d):Ev Κ Φ c Y d:=⟨_,h.1⟩
theorem Ev.of (h:aG Κ Φ c Y=.ok (g,d)):Ev Κ Φ c Y d:=⟨_,h⟩
theorem aF (h:Y[i]?=some (some (g,d))):Ev Κ Φ (.var i) Y d:=⟨_,by rw[nK];rw[h];rfl⟩
theorem v_var (h:Y[i]?=some (some (g,d)))(hi:aP d=true):Vv Κ Φ (.var i) Y d:=⟨by rw[nK];rw[h];show Res.ok (if aP d=true then _ else _,d)=_;rw[xu hi],hi⟩
theorem aQ:Vv Κ Φ (.int i) Y (.int i):=⟨by rw[XE],rfl⟩
theorem eY:Vv Κ Φ (.str i) Y (.str i):=⟨by rw[XG],rfl⟩
theorem mR:Vv Κ Φ (.bl i) Y (.bool i):=⟨by rw[IJ],rfl⟩
theorem XT:Vv Κ Φ .bD Y .none:=⟨by rw[XB],rfl⟩
theorem pE (hi:aP d=true):gJ d g=.fr:=by unfold gJ;rw[xu hi]
theorem XU (hi:aP d=true):gN d g=.fr:=by cases d<;>first|exact pE hi|cases hi
theorem fP (ha:Ev Κ Φ a Y x)(hb:Ev Κ Φ b Y y)(h:cW op x y=.ok d)(hi:aP d=true):Vv Κ Φ (.bin op a b) Y d:=by obtain⟨g1,ha⟩:=ha;obtain⟨g2,hb⟩:=hb;refine⟨?_,hi⟩;rw[N0];rw[ha,Res.aD,hb,Res.aD];dsimp only;rw[h,Res.aD,XU hi]
theorem DE (ha:Ev Κ Φ a Y x)(hb:Ev Κ Φ b Y y)(h:cW op x y=.ok (.list xs))(hi:imms xs=true):aG Κ Φ (.bin op a b) Y=.ok (.fr,.list xs):=by obtain⟨g1,ha⟩:=ha;obtain⟨g2,hb⟩:=hb;rw[N0];rw[ha,Res.aD,hb,Res.aD];dsimp only;rw[h];show Res.ok (if imms xs=true then _ else _,_)=_;rw[xu hi]
theorem cG (ha:Ev Κ Φ a Y x)(hb:Ev Κ Φ b Y y)(h:cmpD op x y=.ok k):Vv Κ Φ (.cmp op a b) Y (.bool k):=by obtain⟨g1,ha⟩:=ha;obtain⟨g2,hb⟩:=hb;refine⟨?_,rfl⟩;rw[XH];rw[ha,Res.aD,hb,Res.aD];dsimp only;rw[h];rfl
theorem v_and (ha:Ev Κ Φ a Y (.bool k))(hb:k=true->Vv Κ Φ b Y (.bool k')):Vv Κ Φ (.and a b) Y (.bool (k&&k')):=by
 obtain⟨g1,ha⟩:=ha;refine⟨?_,rfl⟩;rw[XJ];rw[ha];cases k with
 |true=>exact(hb rfl).1
 |false=>rfl
theorem v_or (ha:Ev Κ Φ a Y (.bool k))(hb:k=false->Vv Κ Φ b Y (.bool k')):Vv Κ Φ (.or a b) Y (.bool (k||k')):=by
 obtain⟨g1,ha⟩:=ha;refine⟨?_,rfl⟩;rw[IK];rw[ha];cases k with
 |false=>exact(hb rfl).1
 |true=>rfl
theorem v_not (ha:Ev Κ Φ a Y x)(h:kY x=.ok k):Vv Κ Φ (.not a) Y (.bool (!k)):=by obtain⟨g1,ha⟩:=ha;refine⟨?_,rfl⟩;rw[XM];rw[ha,Res.aD];dsimp only;rw[h];rfl
theorem IS (hc:Tt Κ Φ c Y k)(h1:k=true->Vv Κ Φ a Y x)(h2:k=false->Vv Κ Φ b Y y):Vv Κ Φ (.oJ c a b) Y (if k then x else y):=by
 cases k with
 |true=>exact⟨by rw[IL];rw[hc];exact(h1 rfl).1,(h1 rfl).2⟩
 |false=>exact⟨by rw[IL];rw[hc];exact(h2 rfl).1,(h2 rfl).2⟩
theorem eU:Av Κ Φ .nil Y []:=⟨rfl,rfl⟩
theorem dI (ha:Vv Κ Φ a Y x)(hb:Av Κ Φ b Y ds):Av Κ Φ (.cons a b) Y (x::ds):=⟨by rw[DC,ha.1,Res.aD,hb.1];rfl,by show(aP x&&imms ds)=true;rw[ha.2,hb.2];rfl⟩
theorem bH:Aa Κ Φ .nil Y []:=⟨[],rfl,rfl⟩
theorem aI (ha:Ev Κ Φ a Y x)(hb:Aa Κ Φ b Y ds):Aa Κ Φ (.cons a b) Y (x::ds):=by obtain⟨g1,ha⟩:=ha;obtain⟨ys,hb,e⟩:=hb;exact⟨_,by rw[DC,ha,hb];rfl,by rw[bg,e]⟩
theorem sG (h:Av Κ Φ args Y ds):Vv Κ Φ (.tup args) Y (.tuple ds):=by refine⟨?_,h.2⟩;rw[XN];rw[h.1,Res.aD,DD,pE (d:=.tuple ds) h.2]
theorem iX (h:Av Κ Φ args Y ds):aG Κ Φ (.lst args) Y=.ok (.fr,.list ds):=by rw[XO];rw[h.1,Res.aD,DD,Xu]
theorem XW:aG Κ Φ .jX Y=.ok (.fr,.dict []):=by rw[XQ]
theorem aH (ha:Ev Κ Φ a Y x)(hb:Ev Κ Φ b Y y)(h:fC x y=.ok d)(hi:aP d=true):Vv Κ Φ (.ix a b) Y d:=by obtain⟨g1,ha⟩:=ha;obtain⟨g2,hb⟩:=hb;refine⟨?_,hi⟩;rw[pD];rw[ha,Res.aD,hb,Res.aD];dsimp only;rw[h,Res.aD,pE hi]
theorem iA (ha:Aa Κ Φ args Y ds)(hf:Φ[n]?=some m)(h:m ds=.ok (g,d))(hi:aP d=true):Vv Κ Φ (.call n f args) Y d:=by obtain⟨ys,ha,e⟩:=ha;refine⟨?_,hi⟩;rw[IM];rw[ha,Res.aD,hf];dsimp only;rw[e,h,Res.aD,pE hi]
theorem iB (ha:Aa Κ Φ args Y ds)(hf:Φ[n]?=some m)(h:m ds=.ok (g,d)):Ev Κ Φ (.call n f args) Y d:=by obtain⟨ys,ha,e⟩:=ha;exact⟨_,by rw[IM];rw[ha,Res.aD,hf];dsimp only;rw[e,h,Res.aD]⟩
theorem N3 (ha:Aa Κ Φ args Y ds)(hf:Φ[n]?=some m)(h:m ds=.ok (.fr,.list xs)):aG Κ Φ (.call n f args) Y=.ok (.fr,.list xs):=by obtain⟨ys,ha,e⟩:=ha;rw[IM];rw[ha,Res.aD,hf];dsimp only;rw[e,h];rfl
theorem kH (ha:Aa Κ Φ args Y ds)(h:nH f ds=.ok d)(hi:aP d=true):Vv Κ Φ (.bi f args) Y d:=by obtain⟨ys,ha,e⟩:=ha;refine⟨?_,hi⟩;rw[IP];rw[ha,Res.aD,e,h,Res.aD,pE hi]
theorem yN (ha:Ev Κ Φ a Y x)(hw:z4v x=.ok w)(h:aggD f w.1 w.2=.ok d)(hi:aP d=true):Vv Κ Φ (.iF f (.tv a)) Y d:=by obtain⟨g1,ha⟩:=ha;refine⟨?_,hi⟩;rw[N1];rw[BB,ha,Res.aD];dsimp only;rw[hw];simp only[Res.aD];rw[h,Res.aD,pE hi]
theorem IT (ha:Ev Κ Φ a Y x)(hw:z4v x=.ok w)(h:aggD f w.1 w.2=.ok d)(hi:imms w.2=true):aG Κ Φ (.iF f (.tv a)) Y=.ok (.fr,d):=by obtain⟨g1,ha⟩:=ha;rw[N1];rw[BB,ha,Res.aD];dsimp only;rw[hw];simp only[Res.aD];rw[h,Res.aD];unfold gJ;split<;>rfl
theorem xI (ho:Ev Κ Φ o Y x)(ha:Aa Κ Φ args Y ds)(h:mtD m x ds=.ok d)(hi:aP d=true):Vv Κ Φ (.mt m o args) Y d:=by obtain⟨g1,ho⟩:=ho;obtain⟨ys,ha,e⟩:=ha;refine⟨?_,hi⟩;rw[IQ];rw[ho,Res.aD,ha,Res.aD,e];dsimp only;rw[h,Res.aD,pE hi]
theorem aU (h:Ev Κ Φ a Y x)(ht:kY x=.ok k):Tt Κ Φ (.tv a) Y k:=by obtain⟨g1,h⟩:=h;unfold Tt;rw[IC,h];exact ht
theorem yO:Tt Κ Φ .nil Y true:=rfl
theorem IU (ha:Tt Κ Φ a Y k)(hb:k=true->Tt Κ Φ b Y k'):Tt Κ Φ (.and a b) Y (k&&k'):=by
 unfold Tt at *
 rw[Xq,ha];cases k with
 |true=>exact hb rfl
 |false=>rfl
theorem Gg (ha:Tt Κ Φ a Y k):Tt Κ Φ (.not a) Y (!k):=by
 unfold Tt at *
 rw[Xr,ha];rfl
theorem z2g {β:Type}{cond:C}{m:β->D}{xs:List β}(p:β->Bool)(f:β->D)(hw:evW Κ Φ it Y=.ok w)(hx:w.2=xs.map m)(r:β->Rho)
  (hb:∀x∈xs,eG tg (gJ (m x) w.1,m x) (bv nt none++js.map λj=>cV (Y.getD j none))=.ok (r x)) (hc:∀x∈xs,Tt Κ Φ cond (r x) (p x)) (he:∀x∈xs,p x=true->Vv Κ Φ elt (r x) (f x)):
  aG Κ Φ (.comp nt js N' tg it cond elt) Y=.ok (.fr,.list ((xs.filter p).map f)):=by
 rw[N2];rw[hw,Res.aD,hx]
 rw[IE (λx=>if p x then some (f x)else none) xs λx hx=>by
  rw[hb x hx,Res.aD];have:=hc x hx;rw[this];cases e:p x with
  |true=>rw[(he x hx e).1];rfl
  |false=>rfl]
 rw[Res.aD,NY,DD]
 have:(xs.filterMap λx=>if p x=true then some (f x)else none)=(xs.filter p).map f:=by
  clear hx hb hc he hw
  induction xs with
  |nil=>rfl
  |cons x xs ih=>
   cases e:p x with
   |true=>rw[qb (by rw[e];rfl),qh e,bg,ih]
   |false=>rw[qa (by rw[e];rfl),qi (e▸eg),ih]
 rw[this]
theorem cX (h:aG Κ Φ a Y=.ok (g,x))(hw:z4s x=.ok xs):evW Κ Φ (.tv a) Y=.ok (g,xs):=by rw[ID,h,Res.aD];dsimp only;rw[hw];rfl
theorem IV (h:Aa Κ Φ args Y ds)(hw:lX ds=.ok xs):evW Κ Φ (.jY args) Y=.ok (.fr,xs):=by obtain⟨ys,h,e⟩:=h;rw[Xs,h,Res.aD,e,hw];rfl
theorem yP (h:Vv Κ Φ t Y d):aX Κ Φ (.asg (.nm i) t) Y=.ok (.nx (Y.set i (some (.al,d)))):=by rw[IA,h.1];show Res.ok (Out.nx (Y.set i (some (if aP d then(.al,d)else _))))=_;rw[xu h.2]
theorem DF (h:aG Κ Φ t Y=.ok (.fr,.list xs))(hi:imms xs=true):aX Κ Φ (.asg (.nm i) t) Y=.ok (.nx (Y.set i (some (.fr,.list xs)))):=by rw[IA,h];show Res.ok (Out.nx (Y.set i (some (if imms xs then .fr else .nu,.list xs))))=_;rw[xu hi]
theorem N4 (h:aG Κ Φ t Y=.ok (.fr,.dict es))(hi:cA es=true):aX Κ Φ (.asg (.nm i) t) Y=.ok (.nx (Y.set i (some (.fr,.dict es)))):=by rw[IA,h];show Res.ok (Out.nx (Y.set i (some (if cA es then .fr else .nu,.dict es))))=_;rw[xu hi]
theorem N5 (hv:∀i,t≠.var i):aX Κ Φ (.ret t) Y=(aG Κ Φ t Y>>=λx=>.ok (.rt (kZ x.1) x.2)):=by cases t<;>first|exact absurd rfl (hv _)|rfl
theorem dZ (h:Vv Κ Φ t Y d):aX Κ Φ (.ret t) Y=.ok (.rt .fr d):=by
 by_cases hv:∀i,t≠.var i
 ·rw[N5 hv,h.1];rfl
 obtain⟨i,rfl⟩:∃i,t=.var i:=by cases t<;>first|exact⟨_,rfl⟩|exact(hv λi z=>by cases z).elim
 have h1:=h.1;rw[nK]at h1;rw[NS];cases hr:Y[i]? with
 |none=>rw[hr]at h1;cases h1
 |some o=>
  cases o with
  |none=>rw[hr]at h1;cases h1
  |some gd=>
   obtain⟨g,d'⟩:=gd;rw[hr]at h1;have:d'=d:=by have:=congrArg (λr:Res GD=>match r with|.ok p=>p.2|_=>.none) h1;exact this
   subst this;show Res.ok (Out.rt (if aP d'=true then _ else _) d')=_;rw[xu h.2]
theorem N6 (hv:∀i,t≠.var i)(h:aG Κ Φ t Y=.ok (.fr,.list xs)):aX Κ Φ (.ret t) Y=.ok (.rt .fr (.list xs)):=by rw[N5 hv,h];rfl
theorem jL (hc:Tt Κ Φ c Y k)(h1:k=true->aX Κ Φ p Y=r)(h2:k=false->aX Κ Φ q Y=r):aX Κ Φ (.bI c p q) Y=r:=by
 rw[IB,hc];cases k with
 |true=>exact h1 rfl
 |false=>exact h2 rfl
theorem iY:aX Κ Φ .nil Y=.ok (.nx Y):=rfl
theorem N7 {y:GD}(h:aP y.2=true):okIn y=true:=by unfold okIn;rw[h];rfl
theorem XX (hv:Vv Κ Φ b Y x)(hk:Ev Κ Φ a Y (.str n))(hr:Y[i]?=some (some (.fr,.dict es)))(hl:es.length<bJ):aX Κ Φ (.eP i a b) Y=.ok (.nx ((Y.set i (some (.fr,.dict (dput es (.str n) x)))).map jI)):=by
 obtain⟨g1,hk⟩:=hk;rw[Xm,hv.1,Res.aD,hk,Res.aD,hr]
 dsimp only
 rw[xu];rw[NC,N7 hv.2,Bool.true_and,Bool.true_and];exact x6 hl
theorem XY (hv:Vv Κ Φ b Y (.int v))(hk:Ev Κ Φ a Y (.str n))(hr:Y[i]?=some (some (.fr,.dict (en l))))(nd:(ks l).Nodup)(hl:l.length<64):aX Κ Φ (.eP i a b) Y=.ok (.nx ((Y.set i (some (.fr,.dict (en (put l n v))))).map jI)):=by rw[XX hv hk hr (by rw[NI];unfold bJ;omega),NG nd]
theorem XZ (hv:Vv Κ Φ a Y x)(hr:Y[i]?=some (some (.fr,.list xs)))(hl:xs.length<1000):aX Κ Φ (.mut "append" i (.cons a .nil)) Y=.ok (.nx ((Y.set i (some (.fr,.list (xs++[x])))).map jI)):=by
 rw[Xn,DC,hv.1,Res.aD,Xp,Res.aD,Res.aD,hr]
 dsimp only
 have:oK "append" xs [(.fr,x)]=.ok (xs++[x]):=by show(if(okIn (G.fr,x)&&decide (xs.length<bJ))=true then _ else _)=_;rw[xu];rw[N7 hv.2];refine x6 ?_;unfold bJ;omega
 rw[this];rfl
theorem X0 (h:Y[i]?=some (some (g,d)))(hg:g≠.fr)(hi:aP d=true)(hw:z4s d=.ok xs):evF Κ Φ (.tv (.var i)) Y=.ok (.fr,xs,Y):=by
 have e3:lZ Y i=false:=by
  unfold lZ;rw[h];cases g with
  |fr=>exact absurd rfl hg
  |od=>rfl
  |al=>rfl
  |nu=>rfl
 rw[NU,e3];unfold iS pT;rw[cX ((v_var h hi).1) hw];rfl
theorem BD (h:Y[i]?=some (some (.od,d)))(hi:aP d=false)(hw:z4s d=.ok xs):evF Κ Φ (.tv (.var i)) Y=.ok (.od,xs,Y):=by
 have e1:aG Κ Φ (.var i) Y=.ok (.od,d):=by rw[nK];rw[h];show Res.ok (if aP d=true then _ else _,d)=_;rw[hi];rfl
 have e3:lZ Y i=false:=by unfold lZ;rw[h]
 rw[NU,e3];unfold iS pT;rw[cX e1 hw];rfl
theorem X1 (h:Aa Κ Φ args Y ds)(hw:lX ds=.ok xs):evF Κ Φ (.jY args) Y=.ok (.fr,xs,Y):=by show pT Κ Φ (.jY args) Y=_;unfold pT;rw[IV h hw];rfl
theorem HD (ha:Ev Κ Φ a Y x)(hb:Ev Κ Φ b Y y)(hx:seqR x=.ok xs)(hy:seqR y=.ok ys):evW Κ Φ (.zip a b) Y=.ok (.al,zipD xs ys):=by obtain⟨g,ha⟩:=ha;obtain⟨g',hb⟩:=hb;show(aG Κ Φ a Y>>=λx=>aG Κ Φ b Y>>=λy=>seqR x.2>>=λxs=>seqR y.2>>=λys=>Res.ok (G.al,zipD xs ys))=_;rw[ha,Res.aD,hb,Res.aD];rw[hx,Res.aD,hy];rfl
theorem HG (ha:Ev Κ Φ a Y x)(hx:seqR x=.ok xs):evW Κ Φ (.enum a) Y=.ok (.al,z24 0 xs):=by obtain⟨g,ha⟩:=ha;show(aG Κ Φ a Y>>=λx=>seqR x.2>>=λxs=>Res.ok (G.al,z24 0 xs))=_;rw[ha,Res.aD];rw[hx];rfl
theorem N8 {x:GD}(ha:aG Κ Φ a Y=.ok x)(ca:tM x=true)(hx:seqR x.2=.ok xs):evF Κ Φ (.enum a) Y=.ok (.al,z24 0 xs,Y):=by
 have e:dY Κ Φ (.cons a .nil) Y=.ok [x]:=by rw[DC,ha];rfl
 show(dY Κ Φ (.cons a .nil) Y>>=λys=>qY ys Y)=_;rw[e,Res.aD];unfold qY
 dsimp only
 rw[ca,hx];rfl
theorem DG (hl:xs.length<=1000):seqR (.list xs)=.ok xs:=by show(if decide (xs.length<=bJ)=true then Res.ok xs else .no)=_;rw[x6 (show xs.length<=bJ by unfold bJ;omega)];rfl
theorem N9 (h:imms xs=true)(hl:xs.length<=1000):seqR (.list xs)=.ok xs:=DG hl
theorem DH {β:Type}(m:β->D):∀(k:Nat) (xs:List β),z24 k (xs.map m)=(xs.zipIdx k).map λp=>.tuple [.int p.2,m p.1]
 |_,[]=>rfl
 |k,x::xs=>by rw[bg,z24,DH m (k+1) xs];rfl
theorem DI (hx:aP x=true)(hy:aP y=true):eG (.tp [i,j]) (gJ (.tuple [x,y]) g,.tuple [x,y]) Y=.ok ((Y.set i (some (.al,x))).set j (some (.al,y))):=by show Res.fO (some ((Y.set i (some (z1l (gJ x _,x)))).set j (some (z1l (gJ y _,y)))))=_;rw[pE hx,pE hy];rfl
theorem DJ (h:evF Κ Φ it Y=.ok w)(k:dD (λx ρ1=>eG t' (gJ x w.1,x) ρ1>>=λcF=>aX Κ Φ p cF) w.2.1 w.2.2=r):aX Κ Φ (.bA t' it p) Y=r:=by rw[Xo,h];exact k
theorem zmj {α β:Type}{m:β->D}{xs:List β}(h:evF Κ Φ it Y=.ok (g,xs.map m,ρ1))(I:α->Rho->Prop)(step:α->β->α)(a0:α)(h0:I a0 ρ1)
  (hf:∀a x Y,x∈xs->I a Y->∃aO,(eG t' (gJ (m x) g,m x) Y>>=λcF=>aX Κ Φ p cF)=.ok (.nx aO)/\I (step a x) aO) (hk:∀aO,I (xs.foldl step a0) aO->aX Κ Φ rest aO=r):aX Κ Φ (.seq (.bA t' it p) rest) Y=r:=by
 obtain⟨aO,e,i⟩:=NV (f:=λx ρ1=>eG t' (gJ x g,x) ρ1>>=λcF=>aX Κ Φ p cF) I step xs a0 ρ1 hf h0;exact eT (DJ h e) (hk aO i)
theorem Oa (hc:Tt Κ Φ c Y k)(hk:k=true)(h:aX Κ Φ p Y=.ok (.rt g d)):aX Κ Φ (.seq (.bI c p q) rest) Y=.ok (.rt g d):=cE (jL hc (λ_=>h) λz=>by rw[hk]at z;cases z)
theorem lH (hc:Tt Κ Φ c Y k)(hk:k=false)(h:aX Κ Φ rest Y=r):aX Κ Φ (.seq (.bI c p .nil) rest) Y=r:=eT (jL hc (λz=>by rw[hk]at z;cases z) λ_=>iY) h
theorem zc1 (h:Y[i]?=some (some (.fr,.list xs))):aX Κ Φ (.ret (.var i)) Y=.ok (.rt .fr (.list xs)):=by rw[NS,h];rfl
theorem IW {Q:Res Out->Prop}(h:aX Κ Φ p Y=.ok (.nx aO))(k:Q (aX Κ Φ q aO)):Q (aX Κ Φ (.seq p q) Y):=by rw[eT h rfl];exact k
theorem zsj {Q:Res Out->Prop}{β:Type}{m:β->D}{xs:List β}(h:evF Κ Φ it Y=.ok (g,xs.map m,ρ1))(I:List β->Rho->Prop)(h0:I [] ρ1)
  (hf:∀pre x post Y,xs=pre++x::post->I pre Y->∃aO,(eG t' (gJ (m x) g,m x) Y>>=λcF=>aX Κ Φ p cF)=.ok (.nx aO)/\I (pre++[x]) aO) (hk:∀aO,I xs aO->Q (aX Κ Φ rest aO)):Q (aX Κ Φ (.seq (.bA t' it p) rest) Y):=by
 obtain⟨aO,e,i⟩:=NW (f:=λx ρ1=>eG t' (gJ x g,x) ρ1>>=λcF=>aX Κ Φ p cF) I xs [] ρ1 hf h0;rw[eT (DJ h e) rfl];exact hk aO i
theorem ze9 {Q:Res Out->Prop}{β:Type}{m:β->D}{xs:List β}(h:evF Κ Φ it Y=.ok (g,xs.map m,ρ1))(I:List β->Rho->Prop)(h0:I [] ρ1)
  (hf:∀pre x post Y,xs=pre++x::post->I pre Y->∃cF aO,eG t' (gJ (m x) g,m x) Y=.ok cF/\aX Κ Φ p cF=.ok (.nx aO)/\I (pre++[x]) aO) (hk:∀aO,I xs aO->Q (aX Κ Φ rest aO)):Q (aX Κ Φ (.seq (.bA t' it p) rest) Y):=
 zsj h I h0 (λpre x post Y hx hI=>by obtain⟨cF,aO,h1,h2,h3⟩:=hf pre x post Y hx hI;exact⟨aO,by rw[h1,Res.aD,h2],h3⟩) hk
end
end
end Mk
namespace Mi
open PySem PySem.Spec PyProof.Rows L2
section
open PySem.SeqAt
end
open PySem.W
section
open PySem.SeqAt
end
def IX (K:W.Frag)(en:Bool)(R:It->Hp->Prop)(v:V)(H1:Hp):Prop:=∃B d xs,Rep K H1 B v d/\(if en then seqR d else z4s d)=.ok xs/\∀J,Walk K J B H1 (if en then z24 0 xs else xs)->R J H1
def DK (K:W.Frag)(en:Bool)(t:TE):TI:=λU H R=>t U H (IX K en R)
section
variable {X:Cx}{a tg:Expr}{t:TE}
theorem X2 (ha:PE X a t):PI X tg a (DK X.K false t):=by intro pins s U H R I h;exact aM (ha pins s U H _ I h) λv s1 ⟨y,H1,I1,r1,B,d,xs,rv,e,q⟩=>z36 I1 r1 rv e q
theorem X3 (hm:X.mg "enumerate"=none)(hg:Gl X "enumerate")(hs:isStar a=false)(ha:PE X a t):PI X (.Tuple elts x1 tp) (.Call (.Name "enumerate" p) [a] [] pos) (DK X.K true t):=by
 intro pins s U H R I h;refine Call_ (z2e I hg hm Hy (PyProof.Rows.callWith_type1 (aM (eF ha lP hs pos pins s U H (λvs H1=>match vs with| [v]=>IX X.K true R v H1|_=>False) I h) λus s1 ⟨vs,H1,I1,r1,z⟩=>?_) (gY hs) rfl));rcases vs with _|⟨v,_|⟨w,vs⟩⟩
 ·exact z.elim
 ·obtain⟨u,rfl,ru⟩:=vals1 r1;obtain⟨B,d,xs,rv,e,q⟩:=z;exact z4q I1 ru rv e q
 ·exact z.elim
end
def xJ:List V->Hp->VK->Prop:=λxs H Q=>∃i:Int,xs=[.int i]/\Q (.int (if i<0 then -i else i)) H
theorem X4:CallR X (.builtin "abs") xJ:=λpins s U H xs us Q I r h=>by obtain⟨i,rfl,q⟩:=h;obtain⟨u,rfl,ru⟩:=vals1 r;obtain⟨t,rfl⟩:=ru;exact PyProof.Rows.call_abs_int λu tk=>⟨.int _,H,I.tok _,⟨u,rfl⟩,q⟩
inductive W where
 |bG (c:C)|raw (i:Nat)|bin (op:sr) (a b:W)|tup (xs:W)|lst (xs:W)|ix (a b:W)|eZ (j:Nat) (as:W)|tp (c:C)|tc (op:CmpOp) (a b:W)|ti (ng:Bool) (a:W)|not (a:W)|mS (a b:W)|BE (a b:W)|gi (j:Nat)|qB (a b:W)|DL (a:W)|lc (nt:Nat) (js:List Nat) (N':List Str) (t:Tg) (en:Bool) (it c e:W)|DM (p q:Str) (a b:W)|ab (a:W)|BF (a:W)|nil|cons (a r:W)
 deriving Inhabited
structure Wc where
 K:W.Frag
 mg:Str->Option Value
 Κ:List D
 Φ:List Fn
 E:XK
 fn:List Sp
 me:List (Addr×Str×Sp)
 cl:List (Addr×Sp)
 xf:Option V:=none
 gi:List Int:=[]
 hf:List (Addr×Sp):=[]
 md:List (Addr×Str×Sp):=[]
 mq:List (Addr×Str×Sp):=[]
structure Gw where
 g:Gm
 fn:List (Str×Nat)
 me:List (Str×Nat)
 cl:List (Str×Nat)
 xf:Option Str:=none
 gi:List Str:=[]
 fld:List (Str×Str):=[]
 hf:List (Str×Nat):=[]
 md:List (Str×Nat):=[]
 mq:List (Str×Str):=[]
def Ob {α:Type}(us:List α):List α->List α
 | [w]=>us++[w]
 |_=>[]
def uB:TE:=λ_ _ _=>False
mutual
def wE:Wc->W->TE
 |Z,.bG c=>tD Z.K (aG Z.Κ Z.Φ c)
 |Z,.raw i=>zB i
 |Z,.bin op a b=>lO (rH Z.K (cW op)) (wE Z a) (wE Z b)
 |Z,.tup xs=>zQ (wA Z xs)
 |Z,.lst xs=>zR (wA Z xs)
 |Z,.ix a b=>lO (oO Z.K) (wE Z a) (wE Z b)
 |Z,.eZ j as=>match Z.fn[j]? with|some sp=>vC sp [] Z.E (wA Z as)|none=>uB
 |Z,.gi j=>match Z.gi[j]? with|some n=>λ_ H Q=>Q (.int n) H|none=>uB
 |Z,.qB a b=>lO (vH Z.K) (wE Z a) (wE Z b)
 |Z,.DM p q a b=>Lj [(tD Z.K (aG Z.Κ Z.Φ (.str p)),wE Z a),(tD Z.K (aG Z.Κ Z.Φ (.str q)),wE Z b)]
 |Z,.ab a=>oD xJ (qJ (wE Z a) iQ)
 |Z,.BF a=>oD (rAgg Z.K "tuple") (qJ (wE Z a) iQ)
 |Z,.DL a=>oD (rAgg Z.K "list") (qJ (wE Z a) iQ)
 |Z,.lc nt js _ t en it c e=>Ah (DK Z.K en (wE Z it)) (tDG Z.K t) (wT {Z with E:=λ_ _ _=>False,xf:=none} c) (wE {Z with E:=λ_ _ _=>False,xf:=none} e) (fH nt js)
 |_,_=>uB
def wA:Wc->W->TA
 |Z,.nil=>iQ
 |Z,.cons a r=>qJ (wE Z a) (wA Z r)
 |_,_=>λ_ _ _=>False
def wT:Wc->W->TT
 |Z,.tp c=>eJ Z.K (eQ Z.Κ Z.Φ c)
 |Z,.tc op a b=>zP (lO (yx Z.K (mB (cmpD op))) (wE Z a) (wE Z b))
 |Z,.ti ng a=>zP (if ng then KI (wE Z a)else zC (wE Z a))
 |Z,.not a=>zE (wT Z a)
 |Z,.mS a b=>zD (wT Z a) (wT Z b)
 |Z,.BE a b=>KN (wT Z a) (wT Z b)
 |_,.nil=>Ag
 |_,_=>λ_ _ _=>False
end
def DN (Γ:Gw)(scope:Scope)(N':List Str):Gw:={Γ with g:={Γ.g with N:=N',sc:=C1 scope Γ.g.sc,blk:=true,xc:=none,kp:=[]},xf:=none}
def Oc (g:Gm)(x:Str)(o:Option Expr):Bool:=o.any λk=>chkE g (.str x) k
def X5:W->Bool
 |.nil=>true
 |_=>false
mutual
def cI:Gw->W->Expr->Bool
 |Γ,.bG c,e=>chkE Γ.g c e
 |Γ,.raw i,e=>mG (hJ Γ.g i) e
 |Γ,.bin op a b,e=>(vT e).any λv=>decide (v.2.1=op)&&C3 op&&cI Γ a v.1&&cI Γ b v.2.2
 |Γ,.tup xs,e=>(rA e).any λes=>uC Γ xs es
 |Γ,.lst xs,e=>(vV e).any λes=>uC Γ xs es
 |Γ,.ix a b,e=>(kA e).any λv=>z3f v.2&&cI Γ a v.1&&cI Γ b v.2
 |Γ,.eZ j as,e=>(kB e).any λv=>vS Γ.g v.1&&(Γ.fn[j]?==some (v.1,v.2.length))&&uC Γ as v.2&&(Γ.g.cm&& !v.2.isEmpty)
 |Γ,.gi j,e=>mG (λx=>vS Γ.g x&&(Γ.gi[j]?==some x)) e
 |Γ,.qB a b,e=>(kA e).any λv=>z3f v.2&&cI Γ a v.1&&cI Γ b v.2
 |Γ,.DM p q a b,e=>(FO e).any λv=>(mF v.1).any λk=>(mF v.2).any λx=>(Oc Γ.g p k.1&&Oc Γ.g q k.2)&&cI Γ a x.1&&cI Γ b x.2
 |Γ,.ab a,e=>(kB e).any λv=>(v.1==("abs":Str))&&cM Γ.g v.1&&(bS v.2).any λy=>!isStar y&&cI Γ a y
 |Γ,.BF a,e=>(kB e).any λv=>(v.1==("tuple":Str))&&cM Γ.g v.1&&(bS v.2).any λy=>!isStar y&&cI Γ a y
 |Γ,.DL a,e=>(kB e).any λv=>(v.1==("list":Str))&&cM Γ.g v.1&&(bS v.2).any λy=>!isStar y&&cI Γ a y
 |Γ,.lc nt js N' t en it c x,e=>Γ.g.cm&&(FQ e).any λv=>(bS v.2.1).any λg=>((g.is_async==0)&&qO Γ.g.N Γ.g.sc v.2.2 N' nt js&&decide N'.Nodup&&tO g.iter)&&(if en then isTup g.target&&(kB g.iter).any λu=>(u.1==("enumerate":Str))&&cM Γ.g u.1&&(bS u.2).any λy=>!isStar y&&cI Γ it y else cI Γ it g.iter)&&rC (DN Γ v.2.2 N').g t g.target&&(match g.ifs with| []=>X5 c| [y]=>qC (DN Γ v.2.2 N') c y|_=>false)&&cI (DN Γ v.2.2 N') x v.1
 |_,_,_=>false
def uC:Gw->W->List Expr->Bool
 |Γ,.nil,es=>es.isEmpty
 |Γ,.cons a r,es=>match es with|e::es=>!isStar e&&cI Γ a e&&uC Γ r es|_=>false
 |_,_,_=>false
def qC:Gw->W->Expr->Bool
 |Γ,.tp c,e=>eV Γ.g c e
 |Γ,.tc op a b,e=>(yw e).any λv=>decide (v.2.1=[op])&&(bS v.2.2).any λr=>z6r op&& !(gk op r)&&cI Γ a v.1&&cI Γ b r
 |Γ,.ti ng a,e=>(yw e).any λv=>decide (v.2.1=[if ng then .IsNot else .Is])&&(bS v.2.2).any λr=>decide (j' r=some .none)&&cI Γ a v.1
 |Γ,.not a,e=>(C2 e).any λv=>decide (v.1=.Not)&&qC Γ a v.2
 |Γ,.mS a b,e=>(vU e).any λv=>decide (v.1=.And)&&vX (λx=>qC Γ a x) (λx=>qC Γ b x) .And v.2.2 v.2.1
 |Γ,.BE a b,e=>(vU e).any λv=>decide (v.1=.Or)&&vX (λx=>qC Γ a x) (λx=>qC Γ b x) .Or v.2.2 v.2.1
 |_,_,_=>false
end
structure Zok (Γ:Gw)(Z:Wc)(CX:CXT)(P:cu)(w:World)(K:W.Frag)(mg:Str->Option Value)(base:Heap)(r:Nat):Prop where
 kk:Z.K=K
 mm:Z.mg=mg
 fn:∀(j:Nat) x n,Γ.fn[j]?=some (x,n)->∃sp f fd ps k,Z.fn[j]?=some sp/\k<=r/\FnOk P w K mg base CX k f fd ps sp/\mg x=some (.ref f)/\W.keepIn K (.ref f)=true/\Binds K fd ps []
 me:∀(j:Nat) m n,Γ.me[j]?=some (m,n)->∃C sp f fd ps k,Z.me[j]?=some (C,m,sp)/\k<=r/\FnOk P w K mg base CX k f fd ps sp/\yi K C/\Meth K C m f/\Binds K fd ps []
 cl:∀(j:Nat) x n,Γ.cl[j]?=some (x,n)->∃C sp f fd ps k,Z.cl[j]?=some (C,sp)/\k+1<=r/\FnOk P w K mg base CX k f fd ps sp/\Mk K C f/\mg x=some (.ref C)/\Binds K fd ps []
 gi:∀(j:Nat) x,Γ.gi[j]?=some x->∃n t,Z.gi[j]?=some n/\mg x=some (.int n t)
 hf:∀(j:Nat) x n,Γ.hf[j]?=some (x,n)->∃sp f fd ps k,Z.hf[j]?=some (f,sp)/\k<=r/\FnOk P w K mg base CX k f fd ps sp/\mg x=some (.ref f)/\W.keepIn K (.ref f)=true/\Binds K fd ps []
 md:∀(j:Nat) m n,Γ.md[j]?=some (m,n)->∃C sp f fd ps k,Z.md[j]?=some (C,m,sp)/\k<=r/\FnOk P w K mg base CX k f fd ps sp/\yi K C/\Meth K C m f/\Binds K fd ps [.none]
 mq:∀(j:Nat) m kn,Γ.mq[j]?=some (m,kn)->∃C sp f fd ps k,Z.mq[j]?=some (C,m,sp)/\k<=r/\FnOk P w K mg base CX k f fd ps sp/\yi K C/\Meth K C m f/\vD K fd ps [kn] Ob Ob
structure nM (Γ:Gw)(Z:Wc)(CX:CXT)(X:Cx)(r:Nat):Prop extends Zok Γ Z CX X.prog X.w X.K X.mg X.base r where
 ck:Cok Γ.g Z.Κ Z.Φ X r
 room:Γ.g.cm=true->Room r X.A
 px:z98 CX X Z.E
 xf:∀f,Γ.xf=some f->∃v,Z.xf=some v/\∀n c,Γ.g.xc=some (n,c)->∀p q,yu (.Name n p)=true->PE X (.Attribute (.Name n p) f q) (λ_ H Q=>Q v H)
 Od:∀outer H s e s',¬CX outer H s (λ_ _ _=>False) e s'
section
variable {Γ:Gw}{Z:Wc}{CX:CXT}{X:Cx}{r:Nat}
structure We (w:W):Prop where
 E:∀(Γ:Gw) (Z:Wc) (CX:CXT) (X:Cx) (r:Nat) (e:Expr),nM Γ Z CX X r->cI Γ w e=true->PE X e (wE Z w)
 A:∀(Γ:Gw) (Z:Wc) (CX:CXT) (X:Cx) (r:Nat) (es:List Expr),nM Γ Z CX X r->uC Γ w es=true->PA X es (wA Z w)
 T:∀(Γ:Gw) (Z:Wc) (CX:CXT) (X:Cx) (r:Nat) (e:Expr),nM Γ Z CX X r->qC Γ w e=true->PT X e (wT Z w)/\((∃o l p,e=.BoolOp o l p)->PW X e (wT Z w))
theorem We.x (h:∀Γ Z CX X r e,nM Γ Z CX X r->cI Γ w e=true->PE X e (wE Z w))(ha:∀Γ es,uC Γ w es=false)(ht:∀Γ e,qC Γ w e=false):We w where
 E:=h
 A:=λΓ Z CX X r es k z=>ff (ha Γ es) z
 T:=λΓ Z CX X r e k z=>ff (ht Γ e) z
theorem We.t (h:∀Γ Z CX X r e,nM Γ Z CX X r->qC Γ w e=true->PT X e (wT Z w)/\((∃o l p,e=.BoolOp o l p)->PW X e (wT Z w)))(he:∀Γ e,cI Γ w e=false)(ha:∀Γ es,uC Γ w es=false):We w where
 E:=λΓ Z CX X r e k z=>ff (he Γ e) z
 A:=λΓ Z CX X r es k z=>ff (ha Γ es) z
 T:=h
theorem Oe:∀{w:W} {es:List Expr},uC Γ w es=true->(es.all λe=> !isStar e)=true
 |.nil,es,h=>by cases iI h;rfl
 |.cons a r,[],h=>by cases h
 |.cons a r,e::es,h=>by obtain⟨h1,_,h3⟩:=aY h;rw[db,h1,Oe h3];rfl
theorem nM.rm (k:nM Γ Z CX X r)(hc:Γ.g.cm=true)(h:j<=r):Room j X.A:=(k.room hc).mono h
theorem eqB {α:Type} [BEq α] [LawfulBEq α] {a b:α}(h:(a==b)=true):a=b:=eq_of_beq h
theorem X6 (h:((yw e).any λv=>decide (v.2.1=[op])&&(bS v.2.2).any λr=>z6r op&& !(gk op r)&&cI Γ a v.1&&cI Γ b r)=true):∃l r p,e=.Compare l [op] [r] p/\z6r op=true/\gk op r=false/\cI Γ a l=true/\cI Γ b r=true:=by obtain⟨⟨l,o,rs⟩,hv,h9⟩:=aK h;obtain⟨p,rfl⟩:=wX hv;obtain⟨h1,h2⟩:=aE h9;obtain⟨r,hr,h3⟩:=aK h2;cases x5 h1;cases hX hr;obtain⟨h2,h3,h4,h5⟩:=bU h3;exact⟨l,r,p,rfl,h2,dR h3,h4,h5⟩
theorem X7 {ng:Bool}(h:((yw e).any λv=>decide (v.2.1=[if ng then .IsNot else .Is])&&(bS v.2.2).any λr=>decide (j' r=some .none)&&cI Γ a v.1)=true):∃l j p2 p,e=.Compare l [if ng then .IsNot else .Is] [.Constant .none j p2] p/\cI Γ a l=true:=by obtain⟨⟨l,o,rs⟩,hv,h9⟩:=aK h;obtain⟨p,rfl⟩:=wX hv;obtain⟨h1,h2⟩:=aE h9;obtain⟨r,hr,h3⟩:=aK h2;cases x5 h1;cases hX hr;obtain⟨h3,h4⟩:=aE h3;obtain⟨j,p2,rfl⟩:=Bn (x5 h3);exact⟨l,j,p2,p,rfl,h4⟩
theorem BH (ii:We it)(ic:We c)(ie:We x):∀(Γ:Gw) (Z:Wc) (CX:CXT) (X:Cx) (r:Nat) (e:Expr),nM Γ Z CX X r->cI Γ (.lc nt js N' t en it c x) e=true->PE X e (wE Z (.lc nt js N' t en it c x))/\∀{y:Str} {py lT:Pos} {i:Nat},X.N.Nodup->X.N[i]?=some y->Loc X.env.scope y->Sto X y->PS X (.Assign [.Name y py] e lT) (jR (wE Z (.lc nt js N' t en it c x)) (qI i)):=by
 intro Γ Z CX X r e k h;obtain⟨dS,h⟩:=aE h;obtain⟨⟨el,gs,scope⟩,hv,h9⟩:=aK h;obtain⟨pos,rfl⟩:=Bq hv;obtain⟨⟨tg,iter,ifs,ka⟩,hg,h9⟩:=aK h9;cases hX hg;obtain⟨h0,h6,h7,h8,h9⟩:=fW h9;obtain⟨h1,h3,h5,h4⟩:=bU h0;cases x9 h1;have hB:=LC k.ck.hN k.ck.hs h3;have kb:=λC fp s H=>k.ck.blk hB.kind (x5 h5) C fp s H;have wb:∀C fp s H,nM (DN Γ scope N') {Z with E:=λ_ _ _=>False,xf:=none} CX (blk X scope N' C fp s H) r:=λC fp s H=>⟨⟨k.kk,k.mm,k.fn,k.me,k.cl,k.gi,k.hf,k.md,k.mq⟩,kb C fp s H,k.room,λpins U H s e s' I z=>(k.Od _ _ _ _ _ z).elim,λf z=>(by cases z),k.Od⟩
 have hi:PI X tg iter (DK X.K en (wE Z it)):=by
  cases en with
  |false=>exact X2 (ii.E Γ Z CX X r _ k h6)
  |true=>obtain⟨t1,h6⟩:=aE h6;obtain⟨⟨f,es⟩,hf,h6⟩:=aK h6;obtain⟨_,_,rfl⟩:=kG hf;obtain⟨u1,u2,u3⟩:=aY h6;obtain⟨y,hy,u5⟩:=aK u3;cases hX hy;obtain⟨u6,u4⟩:=aE u5;have u1:=eqB u1;subst u1;obtain⟨_,_,_,rfl⟩:=Ia t1;obtain⟨g1,g2,g3,g4⟩:=k.ck.blt u2;exact X3 g2 g1 (dR u6) (ii.E Γ Z CX X r _ k u4)
 have ht:∀C fp s H,qP (blk X scope N' C fp s H) ifs (wT {Z with E:=λ_ _ _=>False,xf:=none} c):=λC fp s H=>by
  rcases ifs with _|⟨y,_|⟨z,l⟩⟩
  ·have :c=.nil:=by cases c<;>first|rfl|cases h8
   subst this;exact LG
  ·exact LH (ic.T _ _ CX _ r _ (wb C fp s H) h8).1
  ·cases h8
 have Of:∀C fp s H,PG (blk X scope N' C fp s H) tg (tDG X.K t):=λC fp s H=>yK (kb C fp s H) h7;have he:∀C fp s H,PE (blk X scope N' C fp s H) el (wE {Z with E:=λ_ _ _=>False,xf:=none} x):=λC fp s H=>ie.E _ _ CX _ r _ (wb C fp s H) h9;have hh:=z9t (pos:=pos) (k.ck.calm dS) hB hi Of ht he (xA h4 _);rw[<-k.kk]at hh;refine⟨hh,λ{y py lT i} nd l1 l2 l3=>?_⟩;cases hb:(X.env.blockKind==.function&&X.env.kindOf y==some .local&&py.line==pos.line&& !(scope.names.any λ(n,k)=>n==y&&(k==.local||k==.cell)))with
 |false=>exact z97 nd l1 l2 hh (by rw[yM,hb]) l3
 |true=>
  have hl:X.env.scope.names.lookup y=some .local:=by simp only[bq,beq_iff_eq]at hb;exact hb.1.1.2
  have:=z5f (lT:=lT) (k.ck.calm dS) nd l1 hl l3.2 hB hi Of ht he (by rw[yM,hb]) (xA h4 _);rw[<-k.kk]at this;exact this
theorem dP (w:W):We w:=by
 induction w with
 |bG c=>exact We.x (λΓ Z CX X r e k h=>by show PE X e (tD Z.K (aG Z.Κ Z.Φ c));rw[k.kk];exact(all c).E Γ.g X r e k.ck h) (λ_ _=>rfl) λ_ _=>rfl
 |raw i=>exact We.x (λΓ Z CX X r e k h=>by obtain⟨x,p,rfl,h⟩:=jK h;obtain⟨h1,h2,h3,h4⟩:=k.ck.aJ h;exact uS h1 h2 h3 h4) (λ_ _=>rfl) λ_ _=>rfl
 |bin op a b ia ib=>exact We.x (λΓ Z CX X r e k h=>by obtain⟨v,hv,h9⟩:=aK h;obtain⟨p,rfl⟩:=Na hv;obtain⟨h1,h2,h3,h4⟩:=bU h9;cases x5 h1;show PE X _ (lO (rH Z.K (cW _)) _ _);rw[k.kk];exact K2 (LR _ h2) (ia.E Γ Z CX X r _ k h3) (ib.E Γ Z CX X r _ k h4)) (λ_ _=>rfl) λ_ _=>rfl
 |tup xs ia=>exact We.x (λΓ Z CX X r e k h=>by obtain⟨v,hv,h9⟩:=aK h;obtain⟨_,_,rfl⟩:=Du hv;exact K7 (ia.A Γ Z CX X r _ k h9)) (λ_ _=>rfl) λ_ _=>rfl
 |lst xs ia=>exact We.x (λΓ Z CX X r e k h=>by obtain⟨v,hv,h9⟩:=aK h;obtain⟨_,rfl⟩:=Nb hv;exact K8 (ia.A Γ Z CX X r _ k h9)) (λ_ _=>rfl) λ_ _=>rfl
 |ix a b ia ib=>exact We.x (λΓ Z CX X r e k h=>by obtain⟨v,hv,h9⟩:=aK h;obtain⟨_,rfl⟩:=yJ hv;obtain⟨h1,h2,h3⟩:=aY h9;show PE X _ (lO (oO Z.K) _ _);rw[k.kk];exact E3 (LZ k.ck.hu) (ia.E Γ Z CX X r _ k h2) (ib.E Γ Z CX X r _ k h3) (Gi h1)) (λ_ _=>rfl) λ_ _=>rfl
 |eZ j as ia=>exact We.x (λΓ Z CX X r e k h=>by
  obtain⟨⟨x,es⟩,hv,h9⟩:=aK h;obtain⟨_,_,rfl⟩:=kG hv;obtain⟨h1,h2,h3,h4⟩:=bU h9;obtain⟨dS,h4⟩:=aE h4;obtain⟨y,es,rfl⟩:=Bl h4;obtain⟨g1,g2⟩:=k.ck.gl h1;obtain⟨sp,f,fd,ps,n,c1,c2,c3,c4,c5,c6⟩:=k.fn j _ _ (eqB h2);obtain⟨s1,s2⟩:=db.symm.trans (Oe h3) |> av.mp;have ee:wE Z (.eZ j as)=vC sp [] Z.E (wA Z as):=by show(match Z.fn[j]? with|some sp=>vC sp [] Z.E (wA Z as)|none=>uB)=_;rw[c1]
  rw[ee];exact zdd c3 (k.rm dS c2) g1 c4 c5 c6 .nil k.px (ia.A Γ Z CX X r _ k h3) g2 (gY (dR s1)) (qR s2)) (λ_ _=>rfl) λ_ _=>rfl
 |tp c=>exact We.t (λΓ Z CX X r e k h=>by show PT X e (eJ Z.K (eQ Z.Κ Z.Φ c))/\(_->PW X e (eJ Z.K (eQ Z.Κ Z.Φ c)));rw[k.kk];exact(all c).T Γ.g X r e k.ck h) (λ_ _=>rfl) λ_ _=>rfl
 |tc op a b ia ib=>exact We.t (λΓ Z CX X r e k h=>by obtain⟨_,_,_,rfl,h2,h3,h4,h5⟩:=X6 h;refine⟨?_,λ⟨_,_,_,z⟩=>by cases z⟩;show PT X _ (zP (lO (yx Z.K (mB (cmpD _))) _ _));rw[k.kk];exact K4 (Ge k.ck.hu _ h2) (ia.E Γ Z CX X r _ k h4) (ib.E Γ Z CX X r _ k h5) h3) (λ_ _=>rfl) λ_ _=>rfl
 |ti ng a ia=>exact We.t (λΓ Z CX X r e k h=>by
  obtain⟨_,_,_,_,rfl,h2⟩:=X7 h;have ha:=ia.E Γ Z CX X r _ k h2;refine⟨?_,λ⟨_,_,_,z⟩=>by cases z⟩;cases ng with
  |true=>exact KJ (Rc ha)
  |false=>exact KJ (Rb ha)) (λ_ _=>rfl) λ_ _=>rfl
 |not a ia=>exact We.t (λΓ Z CX X r e k h=>by obtain⟨⟨o,x⟩,hv,h9⟩:=aK h;obtain⟨p,rfl⟩:=wW hv;obtain⟨h1,h2⟩:=aE h9;cases x5 h1;exact⟨KQ (ia.T Γ Z CX X r _ k h2).1,λ⟨_,_,_,z⟩=>by cases z⟩) (λ_ _=>rfl) λ_ _=>rfl
 |mS a b ia ib=>exact We.t (λΓ Z CX X r e k h=>by
  obtain⟨⟨o,xs,p⟩,hv,h9⟩:=aK h;cases mQ hv;obtain⟨h1,h2⟩:=aE h9;cases x5 h1;rcases yL h2 with⟨x,y,rfl,h3,h4⟩|⟨x,y,z,t,rfl,h3,h4⟩
  ·have w:=EE (pos:=p) (ia.T Γ Z CX X r _ k h3).1 (KO (ib.T Γ Z CX X r _ k h4).1);exact⟨w.pt,λ_=>w⟩
  ·have w:=EE (pos:=p) (ia.T Γ Z CX X r _ k h3).1 ((ib.T Γ Z CX X r _ k h4).2 ⟨_,_,_,rfl⟩);exact⟨w.pt,λ_=>w⟩) (λ_ _=>rfl) λ_ _=>rfl
 |BE a b ia ib=>exact We.t (λΓ Z CX X r e k h=>by
  obtain⟨⟨o,xs,p⟩,hv,h9⟩:=aK h;cases mQ hv;obtain⟨h1,h2⟩:=aE h9;cases x5 h1;rcases yL h2 with⟨x,y,rfl,h3,h4⟩|⟨x,y,z,t,rfl,h3,h4⟩
  ·have w:=EF (pos:=p) (ia.T Γ Z CX X r _ k h3).1 (KP (ib.T Γ Z CX X r _ k h4).1);exact⟨w.pt,λ_=>w⟩
  ·have w:=EF (pos:=p) (ia.T Γ Z CX X r _ k h3).1 ((ib.T Γ Z CX X r _ k h4).2 ⟨_,_,_,rfl⟩);exact⟨w.pt,λ_=>w⟩) (λ_ _=>rfl) λ_ _=>rfl
 |gi j=>exact We.x (λΓ Z CX X r e k h=>by
  obtain⟨x,p,rfl,h1⟩:=jK h;obtain⟨h2,h3⟩:=aE h1;obtain⟨g1,g2⟩:=k.ck.gl h2;obtain⟨n,t,e1,e2⟩:=k.gi j x (eqB h3);have ee:wE Z (.gi j)=λ_ H Q=>Q (.int n) H:=by show(match Z.gi[j]? with|some n=>(λ_ H Q=>Q (.int n) H:TE)|none=>uB)=_;rw[e1]
  rw[ee];exact λpins s U H Q I h=>z7v I g1 e2 ⟨.int n,H,I,⟨t,rfl⟩,h⟩ g2) (λ_ _=>rfl) λ_ _=>rfl
 |qB a b ia ib=>exact We.x (λΓ Z CX X r e k h=>by obtain⟨v,hv,h9⟩:=aK h;obtain⟨_,rfl⟩:=yJ hv;obtain⟨h1,h2,h3⟩:=aY h9;show PE X _ (lO (vH Z.K) _ _);rw[k.kk];exact E3 Lu (ia.E Γ Z CX X r _ k h2) (ib.E Γ Z CX X r _ k h3) (Gi h1)) (λ_ _=>rfl) λ_ _=>rfl
 |DM p q a b ia ib=>exact We.x (λΓ Z CX X r e k h=>by
  obtain⟨⟨ks,vs⟩,hv,h9⟩:=aK h;obtain⟨_,rfl⟩:=Bo hv;obtain⟨⟨k1,k2⟩,hk,h9⟩:=aK h9;obtain⟨⟨v1,v2⟩,hx,h9⟩:=aK h9;cases Br hk;cases Br hx;obtain⟨g0,h1,h2⟩:=aY h9;obtain⟨g1,g2⟩:=aE g0;obtain⟨y1,e1,g1⟩:=aK g1;cases e1;obtain⟨y2,e2,g2⟩:=aK g2;cases e2;have ky:∀{y:Expr} {p:Str},chkE Γ.g (.str p) y=true->PE X y (tD Z.K (aG Z.Κ Z.Φ (.str p))):=λ{y p} g=>by rw[k.kk];exact(all (.str p)).E Γ.g X r y k.ck g
  exact zk7 (z8y (ky g1) (ia.E Γ Z CX X r _ k h1) (z8y (ky g2) (ib.E Γ Z CX X r _ k h2) RW)) rfl rfl (by simp) (by show 2<=15;decide)) (λ_ _=>rfl) λ_ _=>rfl
 |ab a ia=>exact We.x (λΓ Z CX X r e k h=>by obtain⟨⟨x,es⟩,hv,h9⟩:=aK h;obtain⟨_,_,rfl⟩:=kG hv;obtain⟨h1,h2,h3⟩:=aY h9;obtain⟨y,hy,h4⟩:=aK h3;cases hX hy;obtain⟨h4,h5⟩:=aE h4;have h1:x=("abs":Str):=eqB h1;subst h1;obtain⟨g1,g2,g3,g4⟩:=k.ck.blt h2;show PE X _ (oD xJ _);exact An X4 g2 (show df "abs"=_ by decide+kernel) (eF (ia.E Γ Z CX X r _ k h5) lP (dR h4)) (by rw[db,h4];rfl) g1 g4 g3) (λ_ _=>rfl) λ_ _=>rfl
 |BF a ia=>exact We.x (λΓ Z CX X r e k h=>by obtain⟨⟨x,es⟩,hv,h9⟩:=aK h;obtain⟨_,_,rfl⟩:=kG hv;obtain⟨h1,h2,h3⟩:=aY h9;obtain⟨y,hy,h4⟩:=aK h3;cases hX hy;obtain⟨h4,h5⟩:=aE h4;have h1:x=("tuple":Str):=eqB h1;subst h1;obtain⟨g1,g2,g3,g4⟩:=k.ck.blt h2;show PE X _ (oD (rAgg Z.K "tuple") _);rw[k.kk];exact CW Mh g2 (show df "tuple"=_ by decide+kernel) (eF (ia.E Γ Z CX X r _ k h5) lP (dR h4)) (by rw[db,h4];rfl) g1 g4 g3) (λ_ _=>rfl) λ_ _=>rfl
 |DL a ia=>exact We.x (λΓ Z CX X r e k h=>by obtain⟨⟨x,es⟩,hv,h9⟩:=aK h;obtain⟨_,_,rfl⟩:=kG hv;obtain⟨h1,h2,h3⟩:=aY h9;obtain⟨y,hy,h4⟩:=aK h3;cases hX hy;obtain⟨h4,h5⟩:=aE h4;have h1:x=("list":Str):=eqB h1;subst h1;obtain⟨g1,g2,g3,g4⟩:=k.ck.blt h2;show PE X _ (oD (rAgg Z.K "list") _);rw[k.kk];exact CW U6 g2 (show df "list"=_ by decide+kernel) (eF (ia.E Γ Z CX X r _ k h5) lP (dR h4)) (by rw[db,h4];rfl) g1 g4 g3) (λ_ _=>rfl) λ_ _=>rfl
 |lc nt js N' t en it c x ii ic ie=>exact We.x (λΓ Z CX X r e k h=>(BH ii ic ie Γ Z CX X r e k h).1) (λ_ _=>rfl) λ_ _=>rfl
 |nil=>exact⟨λ_ _ _ _ _ _ _ h=>ff rfl h,λΓ Z CX X r es k h=>by cases iI h;exact lP,λ_ _ _ _ _ _ _ h=>ff rfl h⟩
 |cons a q ia iq=>exact⟨λ_ _ _ _ _ _ _ h=>ff rfl h,λΓ Z CX X r es k h=>by
  cases es with
  |nil=>cases h
  |cons e es=>obtain⟨h1,h2,h3⟩:=aY h;exact eF (ia.E Γ Z CX X r _ k h2) (iq.A Γ Z CX X r _ k h3) (dR h1),λ_ _ _ _ _ _ _ h=>ff rfl h⟩
end
theorem X8 (outer:List Env)(H:Hp)(s:aw)(e:Value)(s':aw):¬CXE P w base outer H s (λ_ _ _=>False) e s':=λz=>by obtain⟨_,_,_,_,_,_,z⟩:=z;exact z
section
open Builtin
open Builtin.ObjectAttr
structure XF (K:W.Frag)(C:Addr)(f:Str):Prop where
 ex:mP K C=true
 hd:∀dd cd sl,K.lookup C=some ⟨.type "type",dd,.cls cd,sl⟩->cd.hasDict=true
 sa:W.findIn K (.ref C) "__setattr__"=some (some (.builtin "object.__setattr__"))
 nf:W.findIn K (.ref C) f=some none
 ga:W.findIn K (.ref C) "__getattribute__"=some (some (.builtin "BaseException.__getattribute__"))
 gt:W.findIn K (.ref C) "__getattr__"=some none
 ob:W.subIn K (.ref C) (.type "object")=some true
 be:W.subIn K (.ref C) (.type "BaseException")=some true
end
def Og (a:Addr)(ob:Obj):HO:=.ext λh=>h.get? a=some ob
def IY (K:W.Frag)(f:Str):Sp:=λvs H Q _=>∃a C ob ws y,vs=[.ref a,y]/\H a=some (Og a ob)/\ob.cls=.ref C/\ob.dict=none/\ob.data=.fields ws/\XF K C f/\∀dp,H dp=none->dp≠a->Q .bD (upd (upd H dp (.xd [(f,y)])) a (Og a {ob with dict:=some dp}))
structure XI (K:W.Frag)(C f:Addr):Prop where
 ini:∀dd cd sl,K.lookup C=some ⟨.type "type",dd,.cls cd,sl⟩->W.nsIn K cd.ns "__init__"=some (some (.ref f))
 fn:W.isFn K (.ref f)=true
def IZ (X:Cx)(E:XK):Prop:=∀pins U H s a C ob vs,Inv X pins U H s->H a=none->(∃H1 s1,Inv X pins U H1 s1/\s1.heap.get? a=none)->s.heap.get? a=some ob->ob.cls=.ref C->ob.data=.fields vs->vs[1]?=some .none->E (.ref C) ob.dict H->X.xe (.ref a) s
inductive WS where
 |nil|seq (a b:WS)|asg (i:Nat) (e:W)|put (o k v:W)|app (o v:W)|ext (o v:W)|ret (e:W)|bI (c:W) (a b:WS)|bA (t:Tg) (it:C) (b:WS)|yQ (s:S)|kI (t:Tg) (it:W) (b:WS)|iZ (i:Nat) (it:W) (b:WS)
 deriving Inhabited
def BJ:W->Bool
 |.bG c=>!mH c
 |.lc _ _ _ _ _ _ _ _=>true
 |_=>false
theorem X9 (k:Cok Γ Κ Φ X r)(h1:mE Γ i x=true)(hn:mH c=false)(h2:chkE Γ c v=true):PS X (.Assign [.Name x px] v pos) (jR (tD X.K (aG Κ Φ c)) (qI i)):=by
 obtain⟨l1,l2,l3⟩:=k.loc h1;have nd:X.N.Nodup:=k.hN▸k.nd;cases hc:z1q v with
 |false=>exact Ao nd l1 l2 ((all c).E Γ X r _ k h2) hc l3
 |true=>
  cases v<;>first|(cases hc;done)|skip
  ·rename_i el gs s p;cases hb:(X.env.blockKind==.function&&X.env.kindOf x==some .local&&px.line==p.line&& !(s.names.any λ(n,k)=>n==x&&(k==.local||k==.cell)))with
   |false=>exact z97 nd l1 l2 ((all c).E Γ X r _ k h2) (by rw[yM,hb]) l3
   |true=>
    obtain⟨nt,js,N',tg,it,cond,elt,rfl⟩:=Nh hn h2;obtain⟨Ic,t,i',ifs,scope,pos',e,hB,h0,hi,hg,ht,he,hs,dS⟩:=sC (all it) (all cond) (all elt) k h2;cases e;have hl:X.env.scope.names.lookup x=some .local:=by simp at hb;exact hb.1.1.2
    exact PS.imp (z5f (k.calm dS) nd l1 hl l3.2 hB hi hg ht he (by rw[yM,hb]) hs) λD U H q=>(zbq (pos:=p) (k.calm dS) hB h0 hi hg ht he hs).2 U H _ q
  ·exact(Ni h2).elim
  ·exact(Nj h2).elim
def rz:WS->Bool
 |.seq a b=>rz a||rz b
 |.bI _ a b=>rz a||rz b
 |.bA _ _ _=>true
 |.kI _ _ _=>true
 |.iZ _ _ _=>true
 |.yQ _=>true
 |_=>false
mutual
def wS:Wc->WS->TS
 |_,.nil=>KS
 |Z,.seq a b=>zI (wS Z a) (wS Z b)
 |Z,.asg i e=>jR (wE Z e) (qI i)
 |Z,.put o k v=>AO (wE Z o) (wE Z k) (wE Z v)
 |Z,.app o v=>yg (z6 Z.K "list" CN (wE Z o) (qJ (wE Z v) iQ))
 |Z,.ext o v=>yg (z6 Z.K "list" CO (wE Z o) (qJ (wE Z v) iQ))
 |Z,.ret e=>zJ (wE Z e)
 |Z,.bI c a b=>zK (wT Z c) (wS Z a) (wS Z b)
 |Z,.bA t it b=>jT (tDW Z.K (evW Z.Κ Z.Φ it)) (tDG Z.K t) (wS Z b)
 |Z,.yQ s=>tDS Z.K (aX Z.Κ Z.Φ s)
 |Z,.kI t it b=>jT (zL Z.K (wE Z it)) (tDG Z.K t) (wS Z b)
 |Z,.iZ i it b=>jT (zL Z.K (wE Z it)) (qI i) (wS Z b)
end
mutual
def I0:Gw->WS->Stmt->Bool
 |Γ,.asg i e,s=>(AD s).any λu=>(bS u.1).any λx=>rC Γ.g (.nm i) x&&(!z1q u.2||BJ e)&&cI Γ e u.2
 |Γ,.put o k v,s=>(AD s).any λu=>(bS u.1).any λx=>(kA x).any λw=>!z1q u.2&&cI Γ o w.1&&cI Γ k w.2&&cI Γ v u.2
 |Γ,.app o e,s=>(AE s).any λc=>(vW c).any λv=>((v.2.1==("append":Str))&&yu v.1&&v.2.2.2)&&cI Γ o v.1&&(bS v.2.2.1).any λy=>!isStar y&&cI Γ e y
 |Γ,.ext o e,s=>(AE s).any λc=>(vW c).any λv=>((v.2.1==("extend":Str))&&yu v.1&&v.2.2.2)&&cI Γ o v.1&&(bS v.2.2.1).any λy=>!isStar y&&cI Γ e y
 |Γ,.ret e,s=>(FV s).any λo=>o.any λv=>cI Γ e v
 |Γ,.bI c a b,s=>(FW s).any λv=>qC Γ c v.1&&wkL Γ a v.2.1&&wkL Γ b v.2.2
 |Γ,.bA t it b,s=>Γ.g.cm&&(AF s).any λv=>(rC Γ.g t v.1&&C4 it v.1&&tO v.2.1)&&kC Γ.g it v.2.1&&wkL Γ b v.2.2.1&&v.2.2.2.isEmpty
 |Γ,.yQ x,s=>rE Γ.g x s
 |Γ,.kI t it b,s=>Γ.g.cm&&(AF s).any λv=>(rC Γ.g t v.1&&tO v.2.1)&&cI Γ it v.2.1&&wkL Γ b v.2.2.1&&v.2.2.2.isEmpty
 |Γ,.iZ i it b,s=>Γ.g.cm&&(AF s).any λv=>(rC Γ.g (.nm i) v.1&&tO v.2.1)&&cI Γ it v.2.1&&wkL Γ b v.2.2.1&&v.2.2.2.isEmpty
 |_,_,_=>false
def wkL:Gw->WS->List Stmt->Bool
 |_,.nil,l=>l.isEmpty
 |Γ,.seq a b,l=>match l with|s::l=>I0 Γ a s&&wkL Γ b l|_=>false
 |_,_,_=>false
end
def Wfk (Γ:Gw)(X:Cx)(r:Nat):Prop:=∀c fl,Γ.fld.contains (c,fl)=true->∃C f fd ps k,X.mg c=some (.ref C)/\XF X.K C fl/\XI X.K C f/\k+1<=r/\FnOk X.prog X.w X.K X.mg X.base (CXE X.prog X.w X.base) k f fd ps (IY X.K fl)/\Binds X.K fd ps []
structure Wz (s:WS):Prop where
 R:∀(Γ:Gw) (Z:Wc) (X:Cx) (r:Nat) (st:Stmt),nM Γ Z (CXE X.prog X.w X.base) X r->Wfk Γ X r->(rz s=true->jx (model X.prog X.w) X.A X.env X.xe)->(rz s=true->IZ X Z.E)->I0 Γ s st=true->PS X st (wS Z s)
 L:∀(Γ:Gw) (Z:Wc) (X:Cx) (r:Nat) (st:List Stmt),nM Γ Z (CXE X.prog X.w X.base) X r->Wfk Γ X r->(rz s=true->jx (model X.prog X.w) X.A X.env X.xe)->(rz s=true->IZ X Z.E)->wkL Γ s st=true->PSs X st (wS Z s)
theorem Wz.x (h:∀Γ Z X r st,nM Γ Z (CXE X.prog X.w X.base) X r->Wfk Γ X r->(rz s=true->jx (model X.prog X.w) X.A X.env X.xe)->(rz s=true->IZ X Z.E)->I0 Γ s st=true->PS X st (wS Z s))(hl:∀Γ st,wkL Γ s st=false):Wz s:=⟨h,λΓ Z X r st k kx hp hr z=>ff (hl Γ st) z⟩
theorem sI (h:a=true):(a||b)=true:=by rw[h];rfl
theorem sJ (h:b=true):(a||b)=true:=by rw[h,Bool.or_true]
theorem X' (s:WS):Wz s:=by
 induction s with
 |nil=>exact⟨λ_ _ _ _ _ _ _ _ _ h=>ff rfl h,λΓ Z X r st k kx hp hr h=>by cases iI h;exact KU⟩
 |seq a b ia ib=>exact⟨λ_ _ _ _ _ _ _ _ _ h=>ff rfl h,λΓ Z X r st k kx hp hr h=>by
  cases st with
  |nil=>cases h
  |cons s st=>obtain⟨h1,h2⟩:=aE h;exact KW (ia.R Γ Z X r _ k kx (λz=>hp (sI z)) (λz=>hr (sI z)) h1) (ib.L Γ Z X r _ k kx (λz=>hp (sJ z)) (λz=>hr (sJ z)) h2)⟩
 |asg i e=>exact Wz.x (λΓ Z X r st k kx hp hr h=>by
  obtain⟨⟨ts,v⟩,hv,h9⟩:=aK h;obtain⟨p,rfl⟩:=rX hv;obtain⟨x,hx,h8⟩:=aK h9;cases hX hx;obtain⟨h1,h2,h3⟩:=aY h8;obtain⟨y,q,rfl,h5⟩:=jK h1;obtain⟨l1,l2,l3⟩:=k.ck.loc h5;cases hc:z1q v with
  |false=>exact Ao (by rw[k.ck.hN];exact k.ck.nd) l1 l2 ((dP e).E Γ Z _ X r _ k h3) hc l3
  |true=>
   have h2:(!z1q v||BJ e)=true:=h2;rw[hc]at h2;cases e<;>first|(cases h2;done)|skip
   ·rename_i c Ya;have hn:mH c=false:=dR h2;show PS X _ (jR (tD Z.K (aG Z.Κ Z.Φ c)) (qI i));rw[k.kk];exact X9 k.ck h5 hn h3
   ·exact(BH (dP _) (dP _) (dP _) Γ Z _ X r _ k h3).2 (by rw[k.ck.hN];exact k.ck.nd) l1 l2 l3) (λ_ _=>rfl)
 |put o y v=>exact Wz.x (λΓ Z X r st k kx hp hr h=>by obtain⟨⟨ts,v⟩,hv,h9⟩:=aK h;obtain⟨p,rfl⟩:=rX hv;obtain⟨x,hx,h8⟩:=aK h9;cases hX hx;obtain⟨w,ho,h7⟩:=aK h8;obtain⟨_,rfl⟩:=yJ ho;obtain⟨h1,h2,h3,h4⟩:=bU h7;exact Md (ju (Nat.add_le_add_left (by decide) _) k.ck.hu) ((dP o).E Γ Z _ X r _ k h2) ((dP y).E Γ Z _ X r _ k h3) ((dP _).E Γ Z _ X r _ k h4) (yp (dR h1) _ _ _)) (λ_ _=>rfl)
 |app o e=>exact Wz.x (λΓ Z X r st k kx hp hr h=>by obtain⟨c,hv,h9⟩:=aK h;obtain⟨p,rfl⟩:=rY hv;obtain⟨⟨x,n,es,b⟩,hm,h8⟩:=aK h9;obtain⟨ap,cp,rfl,hb⟩:=pB hm;obtain⟨h0,h6,h7⟩:=aY h8;obtain⟨h1,h2,h3⟩:=aY h0;obtain⟨y,hy,h4⟩:=aK h7;cases hX hy;obtain⟨h4,h5⟩:=aE h4;have h1:n=("append":Str):=eqB h1;subst h1;show PS X _ (yg (z6 Z.K "list" CN _ _));rw[k.kk];exact qS (zgm PySem.F.plainAttrs_list PySem.F.slot_list_append PySem.F.type_list_append E7 ((dP o).E Γ Z _ X r _ k h6) (eF ((dP e).E Γ Z _ X r _ k h5) lP (dR h4)) (yo h2) (z8i (by rw[db,h4];rfl) (show 1<20 by decide)) (hb.symm.trans h3) (gY (dR h4)) (qR rfl)) rfl) (λ_ _=>rfl)
 |ext o e=>exact Wz.x (λΓ Z X r st k kx hp hr h=>by obtain⟨c,hv,h9⟩:=aK h;obtain⟨p,rfl⟩:=rY hv;obtain⟨⟨x,n,es,b⟩,hm,h8⟩:=aK h9;obtain⟨ap,cp,rfl,hb⟩:=pB hm;obtain⟨h0,h6,h7⟩:=aY h8;obtain⟨h1,h2,h3⟩:=aY h0;obtain⟨y,hy,h4⟩:=aK h7;cases hX hy;obtain⟨h4,h5⟩:=aE h4;have h1:n=("extend":Str):=eqB h1;subst h1;show PS X _ (yg (z6 Z.K "list" CO _ _));rw[k.kk];exact qS (zgm PySem.F.plainAttrs_list PySem.F.slot_list_extend PySem.F.type_list_extend Sz ((dP o).E Γ Z _ X r _ k h6) (eF ((dP e).E Γ Z _ X r _ k h5) lP (dR h4)) (yo h2) (z8i (by rw[db,h4];rfl) (show 1<20 by decide)) (hb.symm.trans h3) (gY (dR h4)) (qR rfl)) rfl) (λ_ _=>rfl)
 |ret e=>exact Wz.x (λΓ Z X r st k kx hp hr h=>by obtain⟨o,hv,h9⟩:=aK h;obtain⟨p,rfl⟩:=Bt hv;obtain⟨v,rfl,h8⟩:=aK h9;exact EI ((dP e).E Γ Z _ X r _ k h8)) (λ_ _=>rfl)
 |bI c a b ia ib=>exact Wz.x (λΓ Z X r st k kx hp hr h=>by obtain⟨v,hv,h9⟩:=aK h;obtain⟨p,rfl⟩:=Bu hv;obtain⟨h1,h2,h3⟩:=aY h9;exact KY ((dP c).T Γ Z _ X r _ k h1).1 (ia.L Γ Z X r _ k kx (λz=>hp (sI z)) (λz=>hr (sI z)) h2) (ib.L Γ Z X r _ k kx (λz=>hp (sJ z)) (λz=>hr (sJ z)) h3)) (λ_ _=>rfl)
 |bA t it b ib=>exact Wz.x (λΓ Z X r st k kx hp hr h=>by obtain⟨dS,h⟩:=aE h;obtain⟨⟨t',i,B,o⟩,hv,h9⟩:=aK h;obtain⟨p,rfl⟩:=rZ hv;obtain⟨h1,h2,h3,h4⟩:=bU h9;obtain⟨h5,h6,h7⟩:=aY h1;cases iI h4;show PS X _ (jT (tDW Z.K _) (tDG Z.K _) _);rw[k.kk];exact z8r (hp rfl) (k.ck.calm dS) ((all it).W Γ.g X r _ _ k.ck h6 h2) (yK k.ck h5) (ib.L Γ Z X r _ k kx (λ_=>hp rfl) (λ_=>hr rfl) h3) (xA h7 _)) (λ_ _=>rfl)
 |yQ s=>exact Wz.x (λΓ Z X r st k kx hp hr h=>by show PS X _ (tDS Z.K _);rw[k.kk];exact(Nk s).R Γ.g X r st k.ck (hp rfl) h) (λ_ _=>rfl)
 |kI t it b ib=>exact Wz.x (λΓ Z X r st k kx hp hr h=>by obtain⟨dS,h⟩:=aE h;obtain⟨⟨t',i,B,o⟩,hv,h9⟩:=aK h;obtain⟨p,rfl⟩:=rZ hv;obtain⟨h1,h2,h3,h4⟩:=bU h9;obtain⟨h5,h7⟩:=aE h1;cases iI h4;show PS X _ (jT (zL Z.K _) (tDG Z.K _) _);rw[k.kk];exact z8r (hp rfl) (k.ck.calm dS) (K1 ((dP it).E Γ Z _ X r _ k h2)) (yK k.ck h5) (ib.L Γ Z X r _ k kx (λ_=>hp rfl) (λ_=>hr rfl) h3) (xA h7 _)) (λ_ _=>rfl)
 |iZ j it b ib=>exact Wz.x (λΓ Z X r st k kx hp hr h=>by obtain⟨dS,h⟩:=aE h;obtain⟨⟨t',i,B,o⟩,hv,h9⟩:=aK h;obtain⟨p,rfl⟩:=rZ hv;obtain⟨h1,h2,h3,h4⟩:=bU h9;obtain⟨h5,h7⟩:=aE h1;cases iI h4;obtain⟨y,q,rfl,h5⟩:=jK h5;obtain⟨l1,l2,l3⟩:=k.ck.loc h5;show PS X _ (jT (zL Z.K _) (qI _) _);rw[k.kk];exact z8r (hp rfl) (k.ck.calm dS) (K1 ((dP it).E Γ Z _ X r _ k h2)) (EL (by rw[k.ck.hN];exact k.ck.nd) l1 l2 l3) (ib.L Γ Z X r _ k kx (λ_=>hp rfl) (λ_=>hr rfl) h3) (xA h7 _)) (λ_ _=>rfl)
section
variable {P:cu}{w:World}{K:W.Frag}{mg:Str->Option Value}{base:Heap}
theorem zv7 {Z:Wc}{st:Stmt}(Fu:∃dV oc od kV doc pm an cdv ct osl,fd=W.fnOf x qual (z16 st) (z0k st) (z06 st) dV kV doc pm an cdv ct/\K.lookup f=some ⟨oc,od,.func fd,osl⟩/\W.codeIn K cdv qual=true)(Sc:FnScope Γ.g.N ps (z06 st))(hs:Γ.g.sc=z06 st)(hxc:Γ.g.xc=none)(dk:Dok Γ.g Z.Κ Z.Φ P w K mg base k)(zk:∀E,Zok Γ {Z with E:=E} (CXE P w base) P w K mg base k)(hxf:Γ.xf=none)(kf:Γ.fld=[]\/∀X,X.prog=P->X.w=w->X.K=K->X.mg=mg->X.base=base->Wfk Γ X k)(hc:wkL Γ s (z0k st)=true)
  (len:∀vs H Q E,sp vs H Q E->vs.length=ps.length) (run:∀vs H Q E,sp vs H Q E->wS {Z with E:=E} s {nx:=λ_ H'=>Q .bD H',rt:=Q} (start Γ.g.N vs) H):
  FnOk P w K mg base (CXE P w base) (k+1) f fd ps sp:=by
 obtain⟨dV,oc,od,kV,doc,pm,an,cdv,ct,osl,rfl,lk,hcd⟩:=Fu;refine zls lk hcd Sc len λA outer s1 H vs Q E hr kR=>⟨_,(X' s).L Γ {Z with E:=E} (gW (CXE P w base) P w K mg base Γ.g.N qual (z06 st) f cdv A outer s1 H E) k _ ⟨zk E,⟨rfl,hs.symm,Sc.nd,λ_ _=>rfl,by rw[hs];exact Sc.kind,dk.free,dk.fns,dk.cst,dk.wZ,λ_=>hr,λ_=>rfl,hr.units,λ_=>⟨rfl,rfl⟩,λ_ _ _ z=>(by cases z),λ_ _ z=>(by rw[hxc]at z;cases z),dk.xk⟩,λ_=>hr,λpins U H1 s2 e s' I zz=>?_,(λf z=>by have z:Γ.xf=some f:=z;rw[hxf]at z;cases z),X8⟩ (kf.elim (λe c fl z=>by rw[e]at z;cases z) λg=>g _ rfl rfl rfl rfl rfl) (λ_=>PassesOwn.leaving) (λ_ pins U H1 s2 a C ob vs I q1 q2 q3 q4 q5 q6 q7=>?_) hc,run vs H Q E kR⟩
 ·obtain⟨a,C,dd,H',rfl,fl,q⟩:=zz;exact fl.leave (outer:=[]) I rfl rfl rfl λs3 fl=>⟨a,C,dd,H',rfl,fl,q⟩
 ·obtain⟨H2,s4,I2,n2⟩:=q2;refine zef I ?_ q1 q3 q4 q5 q6 rfl rfl rfl λs3 fl=>⟨a,C,ob.dict,H1,rfl,fl,q7⟩;cases e:(gW (CXE P w base) P w K mg base Γ.g.N qual (z06 st) f cdv A outer s1 H E).s₀.heap.get? a with
  |none=>rfl
  |some o=>obtain⟨o',e'⟩:=I2.base.there a o e (by show a∉ [];simp);rw[n2]at e';cases e'
theorem Ja {Z:Wc}{st:Stmt}(Fu:Fun K x qual st f fd)(Sc:FnScope Γ.g.N ps (z06 st))(hs:Γ.g.sc=z06 st)(hxc:Γ.g.xc=none)(dk:Dok Γ.g Z.Κ Z.Φ P w K mg base k)(zk:∀E,Zok Γ {Z with E:=E} (CXE P w base) P w K mg base k)(hxf:Γ.xf=none)(kf:Γ.fld=[]\/∀X,X.prog=P->X.w=w->X.K=K->X.mg=mg->X.base=base->Wfk Γ X k)(hc:wkL Γ s (z0k st)=true)
 (len:∀vs H Q E,sp vs H Q E->vs.length=ps.length) (run:∀vs H Q E,sp vs H Q E->wS {Z with E:=E} s {nx:=λ_ H'=>Q .bD H',rt:=Q} (start Γ.g.N vs) H):
 FnOk P w K mg base (CXE P w base) (k+1) f fd ps sp:=zv7 ⟨_,Fu.ex⟩ Sc hs hxc dk zk hxf kf hc len run
end
abbrev NoB:Ad->Prop:=λ_=>False
abbrev AnyB:Ad->Prop:=λ_=>True
abbrev F0 (H:Hp):Fm:=⟨H,λ_=>True,λ_=>none,True⟩
section
variable {K:W.Frag}{H H':Hp}
theorem Rep.old (r:Rep K H B v d):Rep K H (fV (F0 H)) v d:=(Rep.there _ r).weak λa h=>by
 cases a with
 |none=>exact trivial
 |some a=>exact⟨λz=>h.2 z,trivial⟩
theorem DO (hl:U.length=Y.length)(h:∀(i:Nat) g (d:D),Y[i]?=some (some (g,d))->g=G.od/\∃v B,U[i]?=some (some v)/\Rep K H B v d):StOk K (F0 H) H U Y where
 ext:=Same.refl H
 aJ:=λ_ _=>trivial
 own:=λa i e=>by cases e
 len:=hl
 sl:=λi g d e=>by obtain⟨rfl,v,B,e1,r⟩:=h i g d e;exact⟨v,e1,r.old⟩
end
namespace Ct
end Ct
structure sM where
 c:Str
 fl:Str
 B:Str
 cs:List (Str×Bool)
 st:Stmt
abbrev XD:=List Bool×List (Option (Option Value))×List (Option Bool)×List (Option (Bool×Option Value×Option Bool))×gz
def Oh (K:W.Frag)(A:Addr)(y:Str×Bool):Option (Bool×Option Value×Option Bool):=match W.nsIn K bz y.1 with
 |some (some (.ref E))=>some ((W.clsIn K E).isSome,W.typeIn K (.ref E),W.subIn K (.ref A) (.ref E))
 |_=>none
def uF (K:W.Frag)(r:sM):Option XD:=match W.nsIn K bz r.c,W.nsIn K bz r.B with
 |some (some (.ref A)),some (some (.ref D))=>(match K.lookup A with
  |some ⟨.type "type",_,.cls cd,_⟩=>(match W.nsIn K cd.ns "__init__"with
   |some (some (.ref f))=>(match K.lookup f with
    |some ⟨_,_,.func fd,_⟩=>some ([mP K A,cd.hasDict,W.isFn K (.ref f),W.codeIn K fd.code (r.c++"."++"__init__"),mP K D,(W.clsIn K A).isSome,W.keepIn K (.ref f)],
     [W.findIn K (.ref A) "__setattr__",W.findIn K (.ref A) r.fl,W.findIn K (.ref A) "__getattribute__",W.findIn K (.ref A) "__getattr__",W.findIn K (.ref A) "__class__"],
     [W.subIn K (.ref A) (.type "object"),W.subIn K (.ref A) (.type "BaseException"),W.subIn K (.ref A) (.type "ValueError"),W.subIn K (.ref A) (.ref D)],r.cs.map (Oh K A),fd)
    |_=>none)
   |_=>none)
  |_=>none)
 |_,_=>none
def Oi (r:sM)(x:XD):XD:=([true,true,true,true,true,true,true],[some (some (.builtin "object.__setattr__")),some none,some (some (.builtin "BaseException.__getattribute__")),some none,some (some (.builtin "object.__class__"))],[some true,some true,some true,some true],r.cs.map (λy=>some (true,some (.type "type"),some y.2)),W.fnOf "__init__" (r.c++"."++"__init__") (z16 r.st) (z0k r.st) (z06 r.st) .none x.2.2.2.2.kwdefaults x.2.2.2.2.doc x.2.2.2.2.pyModule x.2.2.2.2.annotations x.2.2.2.2.code x.2.2.2.2.closureTuple)
def Oj (K:W.Frag)(g:Str×Int):Option Int:=match W.nsIn K bz g.1 with
 |some (some (.int n _))=>some n
 |_=>none
def KXq (K:iu->W.Frag)(rs:List sM)(gs:List (Str×Int)):Prop:=∀P,(rs.map (λr=>(uF (K P) r).isSome),rs.map (λr=>uF (K P) r),gs.map (Oj (K P)))=(rs.map (λ_=>true),rs.map (λr=>(uF (K P) r).map (Oi r)),gs.map λg=>some g.2)
theorem KXq_r:KXq=KXq:=rfl
structure Ol (K:W.Frag)(r:sM)(A D f:Addr)(fd:gz):Prop where
 ns:W.nsIn K bz r.c=some (some (.ref A))
 nb:W.nsIn K bz r.B=some (some (.ref D))
 xf:XF K A r.fl
 xa:XA K A
 xi:XI K A f
 fu:Fun K "__init__" (r.c++"."++"__init__") r.st f fd
 ed:mP K D=true
 sd:W.subIn K (.ref A) (.ref D)=some true
 sv:W.subIn K (.ref A) (.type "ValueError")=some true
 cs:∀y∈r.cs,∃E,W.nsIn K bz y.1=some (some (.ref E))/\(W.clsIn K E).isSome=true/\W.typeIn K (.ref E)=some (.type "type")/\W.subIn K (.ref A) (.ref E)=some y.2
theorem Yb {K:W.Frag}(h:(uF K r).isSome=true)(e:uF K r=(uF K r).map (Oi r)):∃A D f fd,Ol K r A D f fd:=by
 cases z:uF K r with
 |none=>rw[z]at h;cases h
 |some x=>
  rw[z]at e;have e:=xx e;unfold uF at z;split at z
  ·rename_i A D hA hD;split at z
   ·rename_i dd cd sl hl;split at z
    ·rename_i f hf;split at z
     ·rename_i oc od fd qM E8;have z:=xx z;rw[<-z]at e;obtain⟨e1,e⟩:=x4 e;obtain⟨e2,e⟩:=x4 e;obtain⟨e3,e⟩:=x4 e;obtain⟨e4,e5⟩:=x4 e;obtain⟨b1,e1⟩:=List.cons.inj e1;obtain⟨b2,e1⟩:=List.cons.inj e1;obtain⟨b3,e1⟩:=List.cons.inj e1;obtain⟨b4,e1⟩:=List.cons.inj e1;obtain⟨b5,e1⟩:=List.cons.inj e1;obtain⟨b6,e1⟩:=List.cons.inj e1;obtain⟨b7,_⟩:=List.cons.inj e1;obtain⟨c1,e2⟩:=List.cons.inj e2;obtain⟨c2,e2⟩:=List.cons.inj e2;obtain⟨c3,e2⟩:=List.cons.inj e2;obtain⟨c4,e2⟩:=List.cons.inj e2;obtain⟨c5,_⟩:=List.cons.inj e2;obtain⟨d1,e3⟩:=List.cons.inj e3;obtain⟨d2,e3⟩:=List.cons.inj e3;obtain⟨d3,e3⟩:=List.cons.inj e3;obtain⟨d4,_⟩:=List.cons.inj e3;refine⟨A,D,f,fd,hA,hD,⟨b1,λkS HK zw q=>by rw[hl]at q;cases q;exact b2,c1,c2,c3,c4,d1,d2⟩,⟨c5,c3,c4,d1,d2,?_,b6,b1⟩,⟨λkS HK zw q=>by rw[hl]at q;cases q;exact hf,b3⟩,⟨⟨oc,od,fd.kwdefaults,fd.doc,fd.pyModule,fd.annotations,fd.code,fd.closureTuple,qM,e5,E8,b4⟩,b7⟩,b5,d4,d3,λy hy=>?_⟩
      ·show(K.lookup A).map (·.cls)=_;rw[hl];rfl
      ·have q:=gj.mp e4 y hy;unfold Oh at q;split at q
       ·rename_i E hE;obtain⟨q1,q⟩:=x4 (xx q);obtain⟨q2,q3⟩:=x4 q;exact⟨E,hE,q1,q2,q3⟩
       ·cases q
     ·cases z
    ·cases z
   ·cases z
  ·cases z
theorem Yc {K:iu->W.Frag}(h:KXq K rs gs)(P:iu):(∀r∈rs,∃A D f fd,Ol (K P) r A D f fd)/\∀g∈gs,∃t,W.nsIn (K P) bz g.1=some (some (.int g.2 t)):=by
 obtain⟨h1,h2⟩:=x4 (h P);obtain⟨h2,h3⟩:=x4 h2;refine⟨λr hr=>Yb (gj.mp h1 r hr) (gj.mp h2 r hr),λg hg=>?_⟩;have q:=gj.mp h3 g hg;unfold Oj at q;split at q
 ·rename_i n t e;cases q;exact⟨t,e⟩
 ·cases q
end Mi
name_quick tkxq for Mi.KXq by Mi.KXq_r
namespace Mi
open PySem PySem.Spec PyProof.Rows L2
section
variable {K:W.Frag}
theorem Reps.xK (h:H l=some (.lst zs))(r:Reps K H NoB vs ds):Reps K (upd H l (.lst ys)) NoB vs ds:=
 Reps.keep (λa o e z=>by
  rw[aC]
  ·exact e
  ·rintro rfl
   rw[h]at e;cases e;exact z.elim id id) (λ_ z=>z) _ r
theorem zfb (r:Rep K H B v d)(hi:i<U.length)
  (q:∀σ' w,σ'.length=U.length->σ'[i]?=some (some w)->Rep K H AnyB w d->(∀j,j≠i->σ'[j]?=U[j]?)->Q σ' H):tDG K (.nm i) v U H Q:=by
 refine⟨bv U.length none,F0 H,(.od,d),(bv U.length none).set i (some (z1l (.od,d))),DO (by rw[cf]) λj g d' e=>?_,r.old,rfl,λσ' F' so kp=>?_⟩
 ·rw[eh]at e;split at e<;>cases e
 ·have e1:((bv U.length none).set i (some (z1l (G.od,d))))[i]?=some (some (z1l (G.od,d))):=by
   rw[fz];rw[cf];exact hi
  obtain⟨w,e2,r2⟩:=so.sl i _ _ e1;exact q σ' w kp.len e2 (r2.weak λ_ _=>trivial) λj hj=>kp.rest j (by simpa[tgIx]using hj)
theorem zvy (r:Rep K H B v (.tuple [a,b]))(hi:i<U.length)(hj:j<U.length)(hij:i≠j)
  (q:∀σ' u w,σ'.length=U.length->σ'[i]?=some (some u)->σ'[j]?=some (some w)->Rep K H AnyB u a->Rep K H AnyB w b->(∀k,k≠i->k≠j->σ'[k]?=U[k]?)->Q σ' H):tDG K (.tp [i,j]) v U H Q:=by
 have h9:∀g e,z1l (g,e)=(.od,e)\/z1l (g,e)=(.al,e):=λg e=>by cases g<;>first|exact .inl rfl|exact .inr rfl
 refine⟨bv U.length none,F0 H,(.od,.tuple [a,b]),((bv U.length none).set i (some (z1l (gJ a .od,a)))).set j (some (z1l (gJ b .od,b))),DO (by rw[cf]) λj g d' e=>?_,r.old,rfl,λσ' F' so kp=>?_⟩
 ·rw[eh]at e;split at e<;>cases e
 ·have sl:∀k e g,(((bv U.length none).set i (some (z1l (gJ a .od,a)))).set j (some (z1l (gJ b .od,b))))[k]?=some (some (z1l (g,e)))->∃v,σ'[k]?=some (some v)/\Rep K H AnyB v e:=fun k e g h=>by
   rcases h9 g e with h8|h8
   ·rw[h8]at h;obtain⟨v,e1,r1⟩:=so.sl k _ _ h;exact⟨v,e1,r1.weak λ_ _=>trivial⟩
   ·rw[h8]at h;obtain⟨v,e1,r1⟩:=so.sl k _ _ h;exact⟨v,e1,r1.weak λ_ _=>trivial⟩
  obtain⟨u,e1,r1⟩:=sl i a _ (by rw[d8 (Ne.symm hij),fz];rw[cf];exact hi);obtain⟨w,e2,r2⟩:=sl j b _ (by rw[fz];rw[gc,cf];exact hj);exact q σ' u w kp.len e1 e2 r1 r2 λk h1 h2=>kp.rest k (by simpa[tgIx]using⟨h1,h2⟩)
end
section
variable {Z:Wc}{U:L2.St}{H:Hp}{Q:VK}
theorem Om:StOk Z.K (F0 H) H U (bv U.length none):=DO (by rw[cf]) λi g d e=>by rw[eh]at e;split at e<;>cases e
theorem fX (q:∀H',Same H H'->Q (.int n) H'):wE Z (.bG (.int n)) U H Q:=⟨_,F0 H,(.fr,.int n),Om,rfl,λv H1 s1 r=>by cases r;exact q H1 s1⟩
theorem Oo (hx:PyData.strOk x=true)(q:∀H',Same H H'->Q (.str x) H'):wE Z (.bG (.str x)) U H Q:=⟨_,F0 H,(.fr,.str x),Om,rfl,λv H1 s1 r=>by cases r.1;exact q H1 s1⟩
theorem BK {K:W.Frag}(rx:Rep K H B x dx)(ry:Rep K H B' y dy)(e:cmpD op dx dy=.ok b)(q:∀H',Same H H'->Q (.bl b) H'):yx K (mB (cmpD op)) x y H Q:=⟨B,B',dx,dy,.bool b,rx,ry,by show(cmpD op dx dy>>=λb=>Res.ok (PyData.bool b))=_;rw[e];rfl,λw H' s r=>by cases r;exact q H' s⟩
theorem Yd {K:W.Frag}(rx:Rep K H B x dx)(e:fC dx (.int i)=.ok d)(q:∀w,Rep K H B w d->Q w H):oO K x (.int i) H Q:=⟨B,AnyB,dx,.int i,d,rx,rfl,e,q⟩
theorem Ye (h:Z.fn[j]?=some (spD Z.K n m))(q:wA Z as U H λvs H1=>spD Z.K n m vs H1 Q Z.E):wE Z (.eZ j as) U H Q:=by show(match Z.fn[j]? with|some sp=>vC sp [] Z.E (wA Z as)|none=>uB) U H Q;rw[h];show wA Z as U H λvs H1=>spD Z.K n m (vs++[]) H1 Q Z.E;simpa only[dh]using q
theorem Yf (so:StOk Z.K (F0 H) H U Y)(e:aG Z.Κ Z.Φ c Y=.ok (g,d))(q:∀v H',Same H H'->Rep Z.K H' AnyB v d->Q v H'):wE Z (.bG c) U H Q:=⟨Y,F0 H,(g,d),so,e,λv H' s r=>q v H' s (r.weak λ_ _=>trivial)⟩
theorem Yg (so:StOk Z.K (F0 H) H U Y)(e:eQ Z.Κ Z.Φ c Y=.ok b)(q:∀H',Same H H'->R b H'):wT Z (.tp c) U H R:=⟨Y,F0 H,b,so,e,q⟩
theorem Jb (q:wE Z a U H λx H1=>wE Z b U H1 λy H2=>oO Z.K x y H2 Q):wE Z (.ix a b) U H Q:=q
theorem DP (q:wE Z a U H λx H1=>wE Z b U H1 λy H2=>vH Z.K x y H2 Q):wE Z (.qB a b) U H Q:=q
theorem aS (q:wE Z a U H λx H1=>wA Z r U H1 λxs H2=>R (x::xs) H2):wA Z (.cons a r) U H R:=q
theorem cH (q:R [] H):wA Z .nil U H R:=q
theorem aV (e:U[i]?=some (some v))(q:Q v H):wE Z (.raw i) U H Q:=⟨v,e,q⟩
theorem BL (q:wE Z a U H λx H1=>wE Z b U H1 λy H2=>yx Z.K (mB (cmpD op)) x y H2 λz H3=>∃k,z=.bl k/\R k H3):wT Z (.tc op a b) U H R:=q
theorem Oq (q:wT Z a U H λc H1=>if c=true then wT Z b U H1 R else R false H1):wT Z (.mS a b) U H R:=q
theorem DQ (q:wA Z xs U H λvs H1=>vs.length<=bc/\∀p,H1 p=none->Q (.ref p) (upd H1 p (.tup vs))):wE Z (.tup xs) U H Q:=q
theorem jM (q:wA Z xs U H λvs H1=>vs.length<=bc/\∀p,H1 p=none->Q (.ref p) (upd H1 p (.lst vs))):wE Z (.lst xs) U H Q:=q
theorem DR (q:wE Z it U H (IX Z.K en λJ H1=>∀l,H1 l=none->∃P:Nat->Nat->List V->Hp->Prop,(∃m,P 0 m [] (upd H1 l (.lst [])))/\∀i m acc H2,P i m acc H2->(J.stop i H2/\Q (.ref l) H2)\/(J.go i H2/\acc.length<bc/\∃N:List V->Hp->Prop,(∀acc' H',N acc' H'->∃m',m'<m/\P (i+1) m' acc' H')/\∀x H3,J.fU i H2 x H3->tDG Z.K t x (fH nt js U) H3 λbM H4=>eE (fH nt js U) bM/\wT {Z with E:=λ_ _ _=>False,xf:=none} c bM H4 λb H5=>if b=true then wE {Z with E:=λ_ _ _=>False,xf:=none} e bM H5 λy H6=>H6 l=some (.lst acc)/\N (acc++[y]) (upd H6 l (.lst (acc++[y])))else N acc H5))):wE Z (.lc nt js N' t en it c e) U H Q:=q
end
mutual
theorem yE:∀(d:aq) (n:Nat),aN n d=true->PyData.eqv d d=true
 |.none,_,_=>rfl
 |.bool b,_,_=>by cases b<;>rfl
 |.int i,_,_=>by rw[PyData.eqv];exact x6 rfl
 |.str s,_,_=>by rw[PyData.eqv];exact beq_self_eq_true s
 |.tuple xs,0,h=>by cases h
 |.list xs,0,h=>by cases h
 |.tuple xs,n+1,h=>by rw[PyData.eqv];exact xM xs n h
 |.list xs,n+1,h=>by rw[PyData.eqv];exact xM xs n h
 |.dict es,n,h=>by cases n<;>cases h
theorem xM:∀(ds:List aq) (n:Nat),dQ n ds=true->PyData.eqvAll ds ds=true
 | [],_,_=>rfl
 |d::ds,n,h=>by obtain⟨h1,h2⟩:=av.mp h;rw[PyData.eqvAll,yE d n h1,xM ds n h2];rfl
end
end Mi
namespace Mk
open PySem Mi
def BM:S:=(.seq (.bI (.not (.and (.tv (.vO (.var 0) ["str"])) (.tv (.cmp .In (.var 0) (.tup (.cons (.str "for") (.cons (.str "against") .nil)))))))
 (.seq .bad
 .nil)
 .nil)
 .nil)
def sN:Fn:=aL [] [] 1 BM
def BN:S:=(.seq (.drop (.call 0 "check_side" (.cons (.var 0) .nil)))
 (.seq (.ret (.oJ (.tv (.cmp .Eq (.var 0) (.str "for"))) (.str "against") (.str "for")))
 .nil))
def mT:Fn:=aL [] [sN] 1 BN
def BO:S:=(.seq (.drop (.call 0 "check_side" (.cons (.var 1) .nil)))
 (.seq (.ret (.oJ (.tv (.cmp .Eq (.var 1) (.str "for"))) (.ix (.var 0) (.int 0)) (.ix (.var 0) (.int 1))))
 .nil))
def jA:Fn:=aL [] [sN] 2 BO
def BP:S:=(.seq (.asg (.nm 1) .jX)
 (.seq (.bA (.tp [2,3]) (.tv (.var 0))
 (.seq (.eP 1 (.var 2) (.bi "max" (.cons (.var 3) (.cons (.mt "get" (.var 1) (.cons (.var 2) (.cons (.int 0) .nil))) .nil))))
 .nil))
 (.seq (.ret (.iF "tuple" (.tv (.comp 1 [] ["pair"] (.nm 0) (.tv (.sortI 1)) (.tv (.cmp .Gt (.ix (.var 0) (.int 1)) (.int 0))) (.var 0)))))
 .nil)))
def sO:Fn:=aL [] [] 4 BP
def BQ:S:=(.seq (.ret (.mt "get" (.iF "dict" (.tv (.var 0))) (.cons (.var 1) (.cons (.int 0) .nil)))) .nil)
def mU:Fn:=aL [] [] 2 BQ
def BS:S:=(.seq (.asg (.nm 2) (.iF "dict" (.tv (.var 1))))
 (.seq (.ret (.comp 2 [2] ["name","amount","held"] (.tp [0,1]) (.tv (.var 0)) (.tv (.cmp .Gt (.var 1) (.mt "get" (.var 2) (.cons (.var 0) (.cons (.int 0) .nil))))) (.var 0)))
 .nil))
def mV:Fn:=aL [] [] 3 BS
def BU:S:=(.seq (.ret (.cmp .Eq (.call 0 "over" (.cons (.var 0) (.cons (.var 1) .nil))) (.lst .nil))) .nil)
def xN:Fn:=aL [] [mV] 2 BU
def BV:S:=(.seq (.bI (.not (.tv (.call 0 "within" (.cons (.var 2) (.cons (.call 1 "side_of" (.cons (.var 0) (.cons (.var 1) .nil))) .nil)))))
 (.seq .bad
 .nil)
 .nil)
 (.seq (.ret (.tup (.cons (.var 0) (.cons (.var 1) (.cons (.var 2) .nil)))))
 .nil))
def xO:Fn:=aL [] [xN,jA] 3 BV
def BW:S:=(.seq (.ret (.call 0 "side_of" (.cons (.ix (.var 0) (.int 0)) (.cons (.call 1 "other_side" (.cons (.ix (.var 0) (.int 1)) .nil)) .nil)))) .nil)
def pF:Fn:=aL [] [jA,mT] 1 BW
def BX:S:=(.seq (.asg (.nm 2) (.ix (.var 0) (.int 1)))
 (.seq (.asg (.nm 3) (.call 0 "over" (.cons (.ix (.var 0) (.int 2)) (.cons (.call 2 "side_of" (.cons (.var 1) (.cons (.var 2) .nil))) .nil))))
 (.seq (.asg (.nm 4) (.call 0 "over" (.cons (.call 2 "side_of" (.cons (.var 1) (.cons (.call 3 "other_side" (.cons (.var 2) .nil)) .nil))) (.cons (.call 1 "opposed_of" (.cons (.var 0) .nil)) .nil))))
 (.seq (.ret (.bin .Add (.comp 1 [] ["name"] (.nm 0) (.tv (.var 3)) .nil (.tup (.cons (.str "less") (.cons (.var 0) .nil)))) (.comp 1 [] ["name"] (.nm 0) (.tv (.var 4)) .nil (.tup (.cons (.str "more") (.cons (.var 0) .nil))))))
 .nil))))
def xP:Fn:=aL [] [mV,pF,jA,mT] 5 BX
def Ot:S:=(.seq (.ret (.cmp .Eq (.call 0 "apart" (.cons (.var 0) (.cons (.var 1) .nil))) (.lst .nil))) .nil)
def yR:Fn:=aL [] [xP] 2 Ot
def Jc:S:=(.seq (.bA (.tp [2,3]) (.enum (.var 0))
 (.seq (.bI (.tv (.call 0 "binds" (.cons (.var 3) (.cons (.var 1) .nil))))
 (.seq (.ret (.tup (.cons (.ix (.var 3) (.int 1)) (.cons (.var 2) .nil))))
 .nil)
 .nil)
 .nil))
 (.seq (.ret .bD)
 .nil))
def Jd:Fn:=aL [] [yR] 4 Jc
def Ou:S:=(.seq (.ret (.call 0 "ruling" (.cons (.var 0) (.cons (.var 1) (.cons (.call 1 "side_of" (.cons (.var 0) (.cons (.var 1) .nil))) .nil))))) .nil)
def Je:Fn:=aL [] [xO,jA] 2 Ou
def Ov:S:=(.seq (.asg (.nm 2) (.comp 1 [] ["row"] (.nm 0) (.tv (.var 0)) (.tv (.cmp .Eq (.ix (.var 0) (.int 0)) (.str "fact"))) (.ix (.var 0) (.int 1))))
 (.seq (.ret (.iF "tuple" (.tv (.comp 1 [2] ["pair","facts"] (.nm 0) (.tv (.var 1)) (.tv (.cmp .In (.ix (.var 0) (.int 0)) (.var 1))) (.var 0)))))
 .nil))
def xQ:Fn:=aL [] [] 3 Ov
def DS:S:=(.seq (.asg (.nm 3) (.ix (.var 0) (.int 0)))
 (.seq (.bI (.tv (.cmp .Eq (.var 3) (.str "at")))
 (.seq (.ret (.cmp .GtE (.call 1 "degree" (.cons (.var 1) (.cons (.ix (.var 0) (.int 1)) .nil))) (.ix (.var 0) (.int 2))))
 .nil)
 .nil)
 (.seq (.bI (.tv (.cmp .Eq (.var 3) (.str "is")))
 (.seq (.ret (.cmp .In (.ix (.var 0) (.int 1)) (.var 2)))
 .nil)
 .nil)
 (.seq (.bI (.tv (.cmp .Eq (.var 3) (.str "not")))
 (.seq (.ret (.not (.call 0 "holds" (.cons (.ix (.var 0) (.int 1)) (.cons (.var 1) (.cons (.var 2) .nil))))))
 .nil)
 .nil)
 (.seq (.bI (.tv (.cmp .Eq (.var 3) (.str "and")))
 (.seq (.ret (.and (.call 0 "holds" (.cons (.ix (.var 0) (.int 1)) (.cons (.var 1) (.cons (.var 2) .nil)))) (.call 0 "holds" (.cons (.ix (.var 0) (.int 2)) (.cons (.var 1) (.cons (.var 2) .nil))))))
 .nil)
 .nil)
 (.seq (.ret (.or (.call 0 "holds" (.cons (.ix (.var 0) (.int 1)) (.cons (.var 1) (.cons (.var 2) .nil)))) (.call 0 "holds" (.cons (.ix (.var 0) (.int 2)) (.cons (.var 1) (.cons (.var 2) .nil))))))
 .nil))))))
def Ow:S:=(.seq .bad (.seq .bad (.seq .bad (.seq .bad (.seq .bad (.seq .bad .nil))))))
def qD:Nat->Fn
 |0=>aL [] [] 4 Ow
 |k+1=>aL [] [qD k,mU] 4 DS
def Ox:S:=(.seq (.asg (.nm 3) (.ix (.var 0) (.int 0)))
 (.seq (.bI (.tv (.cmp .Eq (.var 3) (.str "some")))
 (.seq (.ret (.iF "any" (.tv (.comp 2 [0] ["thing","words","asking"] (.tp [0,1]) (.zip (.var 1) (.var 2)) .nil (.call 1 "holds" (.cons (.ix (.var 2) (.int 1)) (.cons (.var 0) (.cons (.var 1) .nil))))))))
 .nil)
 .nil)
 (.seq (.bI (.tv (.cmp .Eq (.var 3) (.str "all")))
 (.seq (.ret (.iF "all" (.tv (.comp 2 [0] ["thing","words","asking"] (.tp [0,1]) (.zip (.var 1) (.var 2)) .nil (.call 1 "holds" (.cons (.ix (.var 2) (.int 1)) (.cons (.var 0) (.cons (.var 1) .nil))))))))
 .nil)
 .nil)
 (.seq (.bI (.tv (.cmp .Eq (.var 3) (.str "not")))
 (.seq (.ret (.not (.call 0 "so" (.cons (.ix (.var 0) (.int 1)) (.cons (.var 1) (.cons (.var 2) .nil))))))
 .nil)
 .nil)
 (.seq (.bI (.tv (.cmp .Eq (.var 3) (.str "and")))
 (.seq (.ret (.and (.call 0 "so" (.cons (.ix (.var 0) (.int 1)) (.cons (.var 1) (.cons (.var 2) .nil)))) (.call 0 "so" (.cons (.ix (.var 0) (.int 2)) (.cons (.var 1) (.cons (.var 2) .nil))))))
 .nil)
 .nil)
 (.seq (.ret (.or (.call 0 "so" (.cons (.ix (.var 0) (.int 1)) (.cons (.var 1) (.cons (.var 2) .nil)))) (.call 0 "so" (.cons (.ix (.var 0) (.int 2)) (.cons (.var 1) (.cons (.var 2) .nil))))))
 .nil))))))
def Oy:S:=(.seq .bad (.seq .bad (.seq .bad (.seq .bad (.seq .bad (.seq .bad .nil))))))
def pG:Nat->Fn
 |0=>aL [] [] 4 Oy
 |k+1=>aL [] [pG k,(qD 3)] 4 Ox
def Oz:S:=(.seq (.ret (.call 0 "greatest" (.cons (.comp 1 [2,1] ["name","words","thing"] (.nm 0) (.tv (.var 0)) .nil (.tup (.cons (.var 0) (.cons (.oJ (.tv (.cmp .In (.var 0) (.var 1))) (.int 1) (.call 1 "degree" (.cons (.var 2) (.cons (.var 0) .nil)))) .nil)))) .nil))) .nil)
def Jf:Fn:=aL [] [sO,mU] 3 Oz
def OA:S:=(.seq (.ret (.tup (.cons (.call 0 "pack_of" (.cons (.ix (.var 0) (.int 2)) (.cons (.var 1) (.cons (.var 2) .nil)))) (.cons (.call 0 "pack_of" (.cons (.ix (.var 0) (.int 3)) (.cons (.var 1) (.cons (.var 2) .nil)))) .nil)))) .nil)
def Jg:Fn:=aL [] [Jf] 3 OA
def OB:S:=(.seq (.ret (.bin .Mult (.bi "len" (.cons (.comp 1 [] ["row"] (.nm 0) (.tv (.var 0)) (.tv (.cmp .Eq (.ix (.var 0) (.int 0)) (.str "open"))) (.var 0)) .nil)) (.var 1))) .nil)
def DT:Fn:=aL [] [] 2 OB
def OC:S:=(.seq (.bA (.nm 2) (.tv (.var 0))
 (.seq (.bI (.and (.tv (.cmp .Eq (.ix (.var 2) (.int 0)) (.str "claim"))) (.tv (.cmp .Eq (.ix (.var 2) (.int 1)) (.var 1))))
 (.seq (.ret (.ix (.var 2) (.int 2)))
 .nil)
 .nil)
 .nil))
 (.seq .bad
 .nil))
def BY:Fn:=aL [] [] 3 OC
def OD:S:=(.seq (.bI (.tv (.cmp .Lt (.var 1) (.bi "len" (.cons (.var 0) .nil))))
 (.seq (.ret (.ix (.var 0) (.var 1)))
 .nil)
 .nil)
 (.seq (.ret (.int 0))
 .nil))
def Jh:Fn:=aL [] [] 2 OD
def OE:S:=(.seq (.bA (.tp [2,3]) (.tv (.var 0))
 (.seq (.bI (.tv (.cmp .Eq (.comp 1 [2,3] ["_law_more","_law_name","_law_count_here"] (.nm 0) (.tv (.var 1)) (.and (.tv (.cmp .Eq (.ix (.var 0) (.int 0)) (.var 1))) (.tv (.cmp .GtE (.ix (.var 0) (.int 1)) (.var 2)))) (.var 0)) (.lst .nil)))
 (.seq (.ret (.bl false))
 .nil)
 .nil)
 .nil))
 (.seq (.ret (.bl true))
 .nil))
def DU:Fn:=aL [] [] 4 OE
def OF:S:=(.seq (.bI (.tv (.cmp .Eq (.ix (.var 0) (.int 1)) (.ix (.var 1) (.int 1))))
 (.seq (.ret (.bl false))
 .nil)
 .nil)
 (.seq (.asg (.nm 2) (.bi "int" (.cons (.cmp .Eq (.ix (.var 0) (.int 1)) (.str "against")) .nil)))
 (.seq (.ret (.and (.call 0 "_law_within" (.cons (.ix (.var 1) (.int 2)) (.cons (.ix (.ix (.var 0) (.int 0)) (.bin .Sub (.int 1) (.var 2))) .nil))) (.call 0 "_law_within" (.cons (.ix (.var 0) (.int 2)) (.cons (.ix (.ix (.var 1) (.int 0)) (.var 2)) .nil)))))
 .nil)))
def Ji:Fn:=aL [] [DU] 3 OF
def OG:S:=(.seq (.asg (.nm 1) (.lst (.cons (.tup (.cons (.str "fact") (.cons (.str "fa") .nil))) (.cons (.tup (.cons (.str "fact") (.cons (.str "fb") .nil))) (.cons (.tup (.cons (.str "fact") (.cons (.str "fc") .nil))) (.cons (.tup (.cons (.str "open") (.cons (.str "wopen") (.cons (.tup (.cons (.str "fa") (.cons (.str "fb") .nil))) (.cons (.tup (.cons (.str "fc") .nil)) .nil))))) .nil))))))
 (.seq (.mut "append" 1 (.cons (.tup (.cons (.str "open") (.cons (.str "wrude") (.cons (.ix (.lst (.cons (.tup (.cons (.str "wopen") (.cons (.str "fc") .nil))) (.cons (.tup (.cons (.str "fa") .nil)) .nil))) (.bin .Mod (.var 0) (.int 2))) (.cons (.ix (.lst (.cons (.tup (.cons (.str "fb") .nil)) (.cons (.tup (.cons (.str "fb") (.cons (.str "wopen") .nil))) .nil))) (.bin .Mod (.var 0) (.int 2))) .nil))))) .nil))
 (.seq (.mut "append" 1 (.cons (.tup (.cons (.str "claim") (.cons (.str "ca") (.cons (.tup (.cons (.str "some") (.cons (.tup (.cons (.str "and") (.cons (.tup (.cons (.str "is") (.cons (.str "wopen") .nil))) (.cons (.tup (.cons (.str "is") (.cons (.str "wrude") .nil))) .nil)))) .nil))) .nil)))) .nil))
 (.seq (.ret (.bin .Add (.var 1) (.lst (.cons (.tup (.cons (.str "claim") (.cons (.str "cb") (.cons (.tup (.cons (.str "all") (.cons (.tup (.cons (.str "or") (.cons (.tup (.cons (.str "is") (.cons (.str "wopen") .nil))) (.cons (.tup (.cons (.str "not") (.cons (.tup (.cons (.str "is") (.cons (.str "wrude") .nil))) .nil))) .nil)))) .nil))) .nil)))) .nil))))
 .nil))))
def zgr:Fn:=aL [] [] 2 OG
def OH:S:=(.seq (.asg (.nm 1) (.lst .nil))
 (.seq (.bA (.nm 2) (.tv (.var 0))
 (.seq (.asg (.nm 3) (.iF "tuple" (.tv (.comp 1 [] ["_law_pair"] (.nm 0) (.tv (.var 2)) (.tv (.cmp .NotEq (.ix (.var 0) (.int 0)) (.str "fc"))) (.var 0)))))
 (.seq (.mut "append" 1 (.cons (.tup (.cons (.var 3) (.cons (.iF "tuple" (.tv (.comp 1 [] ["_law_pair"] (.nm 0) (.tv (.var 2)) (.tv (.cmp .Eq (.ix (.var 0) (.int 0)) (.str "fc"))) (.var 0)))) .nil))) .nil))
 .nil)))
 (.seq (.ret (.var 1))
 .nil)))
def Jj:Fn:=aL [] [] 4 OH
def OI:S:=(.seq (.bA (.nm 2) (.tv (.ix (.var 1) (.int 0)))
 (.seq (.bI (.tv (.cmp .NotIn (.var 2) (.ix (.var 0) (.int 0))))
 (.seq (.ret (.bl false))
 .nil)
 .nil)
 .nil))
 (.seq (.bA (.nm 3) (.jY (.cons (.int 2) .nil))
 (.seq (.bI (.and (.tv (.cmp .NotEq (.ix (.ix (.var 0) (.int 1)) (.var 3)) (.str "open"))) (.tv (.cmp .NotEq (.ix (.ix (.var 0) (.int 1)) (.var 3)) (.ix (.ix (.var 1) (.int 1)) (.var 3)))))
 (.seq (.ret (.bl false))
 .nil)
 .nil)
 .nil))
 (.seq (.ret (.cmp .Gt (.bi "len" (.cons (.ix (.var 1) (.int 0)) .nil)) (.int 0)))
 .nil)))
def Jk:Fn:=aL [] [] 4 OI
def OJ:S:=(.seq (.bA (.tp [3,4]) (.enum (.var 1))
 (.seq (.bI (.tv (.cmp .Eq (.var 4) (.ix (.var 0) (.int 0))))
 (.seq (.bA (.nm 5) (.tv (.ix (.var 2) (.int 0)))
 (.seq (.bI (.tv (.cmp .NotEq (.cmp .In (.str "wopen") (.ix (.var 5) (.var 3))) (.cmp .Eq (.ix (.var 0) (.int 1)) (.str "for"))))
 (.seq (.ret (.bl false))
 .nil)
 .nil)
 .nil))
 .nil)
 .nil)
 .nil))
 (.seq (.ret (.bl true))
 .nil))
def Jl:Fn:=aL [] [] 6 OJ
section
variable {R C:Type}(bi:R->C->Bool)(sd:R->Bool)(full:C->Bool->R)(st:C->C->Bool)
def dJ:List R->C->Option Bool
 | [],_=>none
 |r::rs,c=>if bi r c then some (sd r)else dJ rs c
structure Bk:Prop where
 sf:∀c b,sd (full c b)=b
 t1:∀c c',bi (full c true) c'=st c c'
 t2:∀c c',bi (full c false) c'=st c' c
 rf:∀c,st c c=true
 up:∀r c c',sd r=true->bi r c=true->st c c'=true->bi r c'=true
 dn:∀r c c',sd r=false->bi r c=true->st c' c=true->bi r c'=true
def Cons (l:List R):Prop:=∀r∈l,∀r'∈l,∀c,bi r c=true->bi r' c=true->sd r=sd r'
def sP (book:List R)(c:C)(x:List R×List Bool):List (List R×List Bool):=
 match dJ bi sd (book++x.1) c with
 |some s=>[(x.1,x.2++[s])]
 |none=>[(x.1++[full c true],x.2++[true]),(x.1++[full c false],x.2++[false])]
def mW (book:List R)(cs:List C):List (List R×List Bool):=cs.foldl (λl c=>l.flatMap (sP bi sd full book c)) [([],[])]
def bits:Nat->List (List Bool)
 |0=>[[]]
 |m+1=>(bits m).flatMap λd=>[d++[true],d++[false]]
def BZ (book:List R)(o:List R)(p:C×Bool):List R:=if dJ bi sd (book++o) p.1=none then o++[full p.1 p.2]else o
def bV (book:List R)(cs:List C)(d:List Bool):List R:=(cs.zip d).foldl (BZ bi sd full book) []
def okR (book:List R)(cs:List C)(d:List Bool):Prop:=(∀p∈cs.zip d,∀s,dJ bi sd book p.1=some s->p.2=s)/\∀p∈cs.zip d,∀q∈cs.zip d,st p.1 q.1=true->p.2=true->q.2=true
variable {bi sd full st}
theorem DV (h:dJ bi sd l c=some s):∃r∈l,bi r c=true/\sd r=s:=by
 induction l with
 |nil=>cases h
 |cons r l ih=>
  unfold dJ at h;by_cases e:bi r c=true
  ·rw[xu e]at h;cases h;exact⟨r,.head _,e,rfl⟩
  ·rw[xw e]at h;obtain⟨r',h1,h2⟩:=ih h;exact⟨r',.tail _ h1,h2⟩
theorem Jm:dJ bi sd l c=none↔∀r∈l,bi r c=false:=by
 induction l with
 |nil=>exact⟨λ_ r h=>(by cases h),λ_=>rfl⟩
 |cons r l ih=>
  unfold dJ;by_cases e:bi r c=true
  ·rw[xu e];exact⟨λh=>(by cases h),λh=>by rw[h r (.head _)]at e;cases e⟩
  ·rw[xw e,ih];refine⟨λh r' hr=>?_,λh r' hr=>h r' (.tail _ hr)⟩;rcases ao.mp hr with rfl|hr
   ·exact ph.mpr e
   ·exact h r' hr
theorem B0 (h:Cons bi sd l)(hr:r∈l)(e:bi r c=true):dJ bi sd l c=some (sd r):=by
 cases hb:dJ bi sd l c with
 |none=>rw[Jm.mp hb r hr]at e;cases e
 |some s=>obtain⟨r',h1,h2,h3⟩:=DV hb;rw[<-h3,h r' h1 r hr c h2 e]
theorem Yh (k:Bk bi sd full st)(h:Cons bi sd l)(hn:dJ bi sd l c=none):Cons bi sd (l++[full c b]):=by
 have hn:=Jm.mp hn
 have one:∀r∈l,∀x,bi r x=true->bi (full c b) x=true->sd r=b:=λr hr x h1 h2=>by
  cases b with
  |true=>
   rw[k.t1]at h2;cases hs:sd r with
   |true=>rfl
   |false=>have:=k.dn r x c hs h1 h2;rw[hn r hr]at this;cases this
  |false=>
   rw[k.t2]at h2;cases hs:sd r with
   |false=>rfl
   |true=>have:=k.up r x c hs h1 h2;rw[hn r hr]at this;cases this
 intro r hr r' pH x h1 h2;rcases ce.mp hr with hr|hr<;>rcases ce.mp pH with pH|pH
 ·exact h r hr r' pH x h1 h2
 ·rw[ah.mp pH]at h2 ⊢;rw[one r hr x h1 h2,k.sf]
 ·rw[ah.mp hr]at h1 ⊢;rw[one r' pH x h2 h1,k.sf]
 ·rw[ah.mp hr,ah.mp pH]
theorem xR (h:b.length=a.length):(a++[x]).zip (b++[y])=a.zip b++[(x,y)]:=by rw[List.zip_append h.symm];rfl
theorem DW (h:d.length=cs.length):bV bi sd full book (cs++[c]) (d++[b])=BZ bi sd full book (bV bi sd full book cs d) (c,b):=by unfold bV;rw[xR h,mh];rfl
structure Gd (bi:R->C->Bool)(sd:R->Bool)(full:C->Bool->R)(book:List R)(cs:List C)(d:List Bool):Prop where
 co:Cons bi sd (book++bV bi sd full book cs d)
 sQ:∀p∈cs.zip d,∃r∈book++bV bi sd full book cs d,bi r p.1=true/\sd r=p.2
 of:∀r∈bV bi sd full book cs d,∃p∈cs.zip d,r=full p.1 p.2
theorem zbl (k:Bk bi sd full st)(hl:d.length=cs.length)(g:Gd bi sd full book cs d)(ok:okR bi sd st book cs d):
  (∀b,okR bi sd st book (cs++[c]) (d++[b])↔∀s,dJ bi sd (book++bV bi sd full book cs d) c=some s->b=s)/\∀b,okR bi sd st book (cs++[c]) (d++[b])->Gd bi sd full book (cs++[c]) (d++[b]):=by
 have main:∀b,okR bi sd st book (cs++[c]) (d++[b])↔∀s,dJ bi sd (book++bV bi sd full book cs d) c=some s->b=s:=λb=>by
  unfold okR;rw[xR hl];constructor
  ·rintro⟨h1,h2⟩ s e
   obtain⟨r,hr,e1,e2⟩:=DV e;rcases ce.mp hr with hr|hr
   ·have co:Cons bi sd book:=λr hr r' pH=>g.co r (cx _ hr) r' (cx _ pH);exact h1 (c,b) (ay _ (.head _)) s (by rw[<-e2];exact B0 co hr e1)
   ·obtain⟨p,hp,rfl⟩:=g.of r hr;rw[k.sf]at e2;cases s with
    |true=>rw[e2,k.t1]at e1;exact h2 p (cx _ hp) (c,b) (ay _ (.head _)) e1 e2
    |false=>
     rw[e2,k.t2]at e1;cases hb:b with
     |false=>rfl
     |true=>have:=h2 (c,b) (ay _ (.head _)) p (cx _ hp) e1 hb;rw[e2]at this;cases this
  ·intro h;refine⟨λp hp s e=>?_,λp hp q hq e1 e2=>?_⟩
   ·rcases ce.mp hp with hp|hp
    ·exact ok.1 p hp s e
    ·cases ah.mp hp;obtain⟨r,hr,f1,f2⟩:=DV e;exact h s (by rw[<-f2];exact B0 g.co (cx _ hr) f1)
   ·rcases ce.mp hp with hp|hp<;>rcases ce.mp hq with hq|hq
    ·exact ok.2 p hp q hq e1 e2
    ·cases ah.mp hq;obtain⟨r,hr,f1,f2⟩:=g.sQ p hp;have:=k.up r p.1 c (f2.trans e2) f1 e1;exact(h _ (B0 g.co hr this)).trans (f2.trans e2)
    ·cases ah.mp hp;obtain⟨r,hr,f1,f2⟩:=g.sQ q hq;cases hb:q.2 with
     |true=>rfl
     |false=>have:=k.dn r q.1 c (f2.trans hb) f1 e1;have:=h _ (B0 g.co hr this);rw[f2.trans hb]at this;have e2:b=true:=e2;rw[e2]at this;cases this
    ·cases ah.mp hp;cases ah.mp hq;exact e2
 refine⟨main,λb hb=>?_⟩;have hb:=(main b).mp hb;cases e:dJ bi sd (book++bV bi sd full book cs d) c with
 |none=>
  have ed:bV bi sd full book (cs++[c]) (d++[b])=bV bi sd full book cs d++[full c b]:=by rw[DW hl];exact xu e
  refine⟨by rw[ed,<-ir];exact Yh k g.co e,λp hp=>?_,λr hr=>?_⟩
  ·rw[xR hl]at hp;rw[ed];rcases ce.mp hp with hp|hp
   ·obtain⟨r,hr,f⟩:=g.sQ p hp;exact⟨r,by rw[<-ir];exact cx _ hr,f⟩
   ·cases ah.mp hp;refine⟨full c b,ay _ (ay _ (.head _)),?_,k.sf c b⟩;cases b with
    |true=>rw[k.t1];exact k.rf c
    |false=>rw[k.t2];exact k.rf c
  ·rw[ed]at hr;rw[xR hl];rcases ce.mp hr with hr|hr
   ·obtain⟨p,hp,f⟩:=g.of r hr;exact⟨p,cx _ hp,f⟩
   ·exact⟨(c,b),ay _ (.head _),ah.mp hr⟩
 |some s=>
  have ed:bV bi sd full book (cs++[c]) (d++[b])=bV bi sd full book cs d:=by rw[DW hl];exact xw (by rw[e];intro z;cases z)
  refine⟨by rw[ed];exact g.co,λp hp=>?_,λr hr=>?_⟩
  ·rw[xR hl]at hp;rw[ed];rcases ce.mp hp with hp|hp
   ·exact g.sQ p hp
   ·cases ah.mp hp;obtain⟨r,hr,f1,f2⟩:=DV e;exact⟨r,hr,f1,f2.trans (hb s e).symm⟩
  ·rw[ed]at hr;rw[xR hl];obtain⟨p,hp,f⟩:=g.of r hr;exact⟨p,cx _ hp,f⟩
theorem DX:∀(m:Nat) (d:List Bool),d∈bits m->d.length=m
 |0,d,h=>by cases ah.mp h;rfl
 |m+1,d,h=>by
  obtain⟨e,he,h⟩:=kr.mp h;rcases ao.mp h with rfl|h
  ·rw[bu,DX m e he];rfl
  ·rw[ah.mp h,bu,DX m e he];rfl
theorem OK (hl:d.length=cs.length)(h:okR bi sd st book (cs++[c]) (d++[b])):okR bi sd st book cs d:=by unfold okR at h;rw[xR hl]at h;exact⟨λp hp=>h.1 p (cx _ hp),λp hp q hq=>h.2 p (cx _ hp) q (cx _ hq)⟩
theorem zbg (k:Bk bi sd full st)(hb:Cons bi sd book)(D:List C->List Bool->Bool)(hD:∀cs d,D cs d=true↔okR bi sd st book cs d):∀(n:Nat) (cs:List C),cs.length=n->
  mW bi sd full book cs=((bits n).filter (D cs)).map (λd=>(bV bi sd full book cs d,d))/\∀d∈bits n,okR bi sd st book cs d->Gd bi sd full book cs d:=by
 intro n
 induction n with
 |zero=>
  intro cs h;cases cs with
  |cons c cs=>cases h
  |nil=>
   have o:okR bi sd st book ([]:List C) []:=⟨λp hp=>(by cases hp),λp hp=>(by cases hp)⟩;refine⟨?_,λd hd _=>?_⟩
   ·show[([],[])]=(([[]]:List (List Bool)).filter (D [])).map _;rw[dg,xu ((hD _ _).mpr o)];rfl
   ·cases ah.mp hd;exact⟨by rw[show bV bi sd full book ([]:List C) []=[]from rfl,dh];exact hb,λp hp=>(by cases hp),λr hr=>(by cases hr)⟩
 |succ n ih=>
  intro Jo h;obtain⟨cs,c,rfl⟩:∃cs c,Jo=cs++[c]:=⟨Jo.dropLast,Jo.getLast (λz=>by rw[z]at h;cases h),(ny _).symm⟩;rw[bu]at h;have hn:cs.length=n:=by have:cs.length+1=n+1:=h;omega
  obtain⟨h1,h2⟩:=ih cs hn;have len:=λd hd=>(DX n d hd).trans hn.symm;refine⟨?_,λd0 Yi ok=>?_⟩
  ·have e:mW bi sd full book (cs++[c])=(mW bi sd full book cs).flatMap (sP bi sd full book c):=by unfold mW;rw[mh];rfl
   rw[e,h1]
   have go:∀l:List (List Bool),(∀d∈l,d∈bits n)->((l.filter (D cs)).map λd=>(bV bi sd full book cs d,d)).flatMap (sP bi sd full book c)=((l.flatMap λd=>[d++[true],d++[false]]).filter (D (cs++[c]))).map λd=>(bV bi sd full book (cs++[c]) d,d):=by
    intro l hl
    induction l with
    |nil=>rfl
    |cons d l il=>
     have il:=il λd hd=>hl d (.tail _ hd);have hd:=hl d (.head _);have hlen:=len d hd;rw[jk,g8,cj,<-il,dg];by_cases ok:okR bi sd st book cs d
     ·rw[xu ((hD _ _).mpr ok),bg,jk];refine congrArg (·++_) ?_;obtain⟨m1,m2⟩:=zbl k hlen (h2 d hd ok) ok;unfold sP;cases e:dJ bi sd (book++bV bi sd full book cs d) c with
      |some s=>
       have y:∀b,D (cs++[c]) (d++[b])=(b==s):=λb=>by
        rw[jw,hD,m1,e];constructor
        ·intro z;rw[z s rfl];exact beq_self_eq_true _
        ·intro z s' e';cases e';exact eq_of_beq z
       have du:∀b,bV bi sd full book (cs++[c]) (d++[b])=bV bi sd full book cs d:=λb=>by rw[DW hlen];exact xw (by rw[e];intro z;cases z)
       cases s
       ·rw[dg,xw (by rw[y];decide),dg,xu (by rw[y];rfl)];show _=[(_,_)];rw[du]
       ·rw[dg,xu (by rw[y];rfl),dg,xw (by rw[y];decide)];show _=[(_,_)];rw[du]
      |none=>
       have y:=λb=>(hD _ _).mpr ((m1 b).mpr λs z=>by rw[e]at z;cases z);have du:∀b,bV bi sd full book (cs++[c]) (d++[b])=bV bi sd full book cs d++[full c b]:=λb=>by rw[DW hlen];exact xu e
       rw[dg,xu (y true),dg,xu (y false)];show _=[(_,_),(_,_)];rw[du,du]
     ·rw[xw λz=>ok ((hD _ _).mp z)];have no:∀b,¬D (cs++[c]) (d++[b])=true:=λb z=>ok (OK hlen ((hD _ _).mp z));rw[dg,xw (no true),dg,xw (no false)];rfl
   exact go (bits n) λ_ h=>h
  ·obtain⟨d,hd,z⟩:=kr.mp Yi;have hlen:=len d hd
   obtain⟨b,rfl⟩:∃b,d0=d++[b]:=by
    rcases ao.mp z with rfl|z
    ·exact⟨true,rfl⟩
    ·exact⟨false,ah.mp z⟩
   have o:=OK hlen ok;exact(zbl k hlen (h2 d hd o) o).2 b ok
end
theorem Yj (h:Y[i]?=some (some (g,.dict (en l))))(hl:l.length<64):aG Κ Φ (.sortI i) Y=.ok (.fr,.list ((sE l).map pr)):=by rw[XS];rw[h];dsimp only;rw[NJ,Xi,Xj,NI,NN];simp only[hl,decide_true,Bool.and_self,if_true]
def yS (acc:P)(l:P):P:=l.foldl (λa p=>put a p.1 (max p.2 (look a p.1))) acc
theorem Jp:∀(l:P) (acc:P),(ks acc).Nodup->(ks (yS acc l)).Nodup
 | [],_,h=>h
 |p::l,acc,h=>Jp l _ (Iq _ _ _ h)
theorem OL (n:Str):∀(l acc:P),look (yS acc l) n=l.foldl (λm p=>if p.1=n then max p.2 m else m) (look acc n)
 | [],_=>rfl
 |p::l,acc=>by
  have h3:yS acc (p::l)=yS (put acc p.1 (max p.2 (look acc p.1))) l:=rfl;rw[h3,OL n l,List.foldl_cons,Xe];split
  ·rename_i e;rw[e]
  ·rfl
def gr (l:P):P:=(sE (yS [] l)).filter λp=>decide (0<p.2)
def up (l:P):P:=(sE l).filter λp=>decide (0<p.2)
theorem OM (n:Str):∀(l:P),(ks l).Nodup->fnd (l.filter λp=>decide (0<p.2)) n=(fnd l n).filter λv=>decide (0<v)
 | [],_=>rfl
 |p::l,nd=>by
  rw[ks,bg,cr]at nd;have ih:=OM n l nd.2;by_cases h:0<p.2
  ·rw[qh (by simpa using h),fnd,fnd];by_cases e:p.1=n
   ·rw[xu e,xu e];show _=if decide (0<p.2)=true then some p.2 else none
    rw[xu (x6 h)]
   ·rw[xw e,xw e];exact ih
  ·rw[qi (by simpa using h),ih,fnd];by_cases e:p.1=n
   ·rw[xu e,z21 (e▸nd.1)];show none=if decide (0<p.2)=true then some p.2 else none
    rw[xw (by simpa using h)]
   ·rw[xw e]
theorem Yk (nd:(ks l).Nodup):PK (up l):=⟨(Iz nd).filter _,λp hp=>by simpa using(fm.mp hp).2⟩
theorem Yl (nd:(ks l).Nodup)(n:Str):look (up l) n=max (look l n) 0:=by
 unfold look up;rw[OM n _ (NQ (Iz nd)),Xk (Iy l) nd];cases h:fnd l n with
 |none=>rfl
 |some v=>
  show Option.getD (if _ then _ else _) 0=max v 0;by_cases h:0<v
  ·rw[xu (by simpa using h)];show v=_;omega
  ·rw[xw (by simpa using h)];show 0=_;omega
theorem Ym (l:P):PK (gr l):=Yk (Jp l [] jq)
theorem ON (nd:(ks l).Nodup)(h:∀k∈ks l,k∈ks m):l.length<=m.length:=by have:=NB nd h;simpa[ks]using this
theorem xS (hb:PK b):mV [pk a,pk b]=.ok (.fr,.list ((a.filter λp=>decide (look b p.1<p.2)).map λp=>.str p.1)):=by refine eX ?_;refine eT (N4 (IT (aF rfl) rfl (NZ _ hb.nd) (Iv b)) (NJ b)) ?_;exact cE (N6 (λi z=>by cases z) (z2g (λp=>decide (look b p.1<p.2)) (λp=>.str p.1) (cX (v_var rfl (cO a)).1 rfl) rfl (λp=>[some (.al,.str p.1),some (.al,.int p.2),some (.al,.dict (en b))]) (λp _=>rfl) (λp _=>aU (cG (aF rfl) (xI (aF rfl) (aI (aF rfl) (aI aQ.e bH)) (IF _ _) rfl).e rfl).e rfl) (λp _ _=>v_var rfl rfl)))
theorem eq_nil (xs:List D)(h:dQ 39 xs=true):cmpD .Eq (.list xs) (.list [])=.ok xs.isEmpty:=by show(if(aN 40 (.list xs)&&aN 40 (.list []))=true then Res.ok (bW (.list xs) (.list []))else .no)=_;rw[xu (by show(dQ 39 xs&&true)=true;rw[h];rfl)];cases xs<;>simp[bW,PyData.eqv,PyData.eqvAll]
theorem Yn (l:P):dQ 39 (l.map λp=>PyData.str p.1)=true:=kW.mpr λx hx=>by obtain⟨p,_,rfl⟩:=ba.mp hx;rfl
def wi (a b:P):Bool:=(a.filter λp=>decide (look b p.1<p.2)).isEmpty
theorem Jq (hb:PK b):xN [pk a,pk b]=.ok (.fr,.bool (wi a b)):=by refine eX ?_;refine cE (dZ (cG (iB (aI (aF rfl) (aI (aF rfl) bH)) rfl (xS hb)) (Ev.of (iX eU)) ?_));rw[eq_nil _ (Yn _)];unfold wi;rw[kt]
theorem DY (ha:PK a)(hb:PK b):wi a b=true↔∀n,look a n<=look b n:=by
 unfold wi;rw[qj,e9];constructor
 ·intro h n;by_cases hn:n∈ks a
  ·obtain⟨v,e⟩:=Nz hn;have:=h _ (tZ e);have e2:look a n=v:=by unfold look;rw[e];rfl
   simp at this;rw[e2];omega
  ·have :look a n=0:=by unfold look;rw[z21 hn];rfl
   rw[this];exact hb.lG n
 ·intro h p hp;have:=h p.1;rw[ha.cC hp]at this;simp;omega
def sd (b:Bool):Str:=if b then "for"else "against"
def own (b:Bool)(f a:P):P:=if b then f else a
def kJ (b:Bool)(f a:P):P:=if b then a else f
def mX (f a:P):D:=.tuple [pk f,pk a]
def rl (b:Bool)(f a r:P):D:=.tuple [mX f a,.str (sd b),pk r]
theorem yT (f a:P):aP (mX f a)=true:=by show imms [pk f,pk a]=true;rw[imms,imms,cO,cO];rfl
theorem OO (b:Bool)(f a r:P):aP (rl b f a r)=true:=by show imms [mX f a,.str (sd b),pk r]=true;rw[imms,imms,imms,yT,cO];rfl
theorem Yo (b:Bool):sN [.str (sd b)]=.ok (.fr,.none):=by cases b<;>rfl
theorem OP (b:Bool):mT [.str (sd b)]=.ok (.fr,.str (sd (!b))):=by cases b<;>rfl
theorem Yp (h:Ev Κ Φ t Y d):aX Κ Φ (.drop t) Y=.ok (.nx Y):=by obtain⟨g,h⟩:=h;show(aG Κ Φ t Y>>=λ_=>Res.ok (Out.nx Y))=_;rw[h];rfl
theorem B6 (b:Bool)(f a:P):jA [mX f a,.str (sd b)]=.ok (.fr,pk (own b f a)):=by
 refine eX (eT (Yp (iB (aI (aF rfl) bH) rfl (Yo b))) ?_);cases b with
 |true=>exact cE (dZ (IS (k:=true) (aU (cG (aF rfl) eY.e rfl).e rfl) (λ_=>aH (aF rfl) aQ.e rfl (cO f)) (y:=pk f) λz=>by cases z))
 |false=>exact cE (dZ (IS (k:=false) (aU (cG (aF rfl) eY.e rfl).e rfl) (x:=pk a) nofun λ_=>aH (aF rfl) aQ.e rfl (cO a)))
theorem OQ (b:Bool)(f a:P):own (!b) f a=kJ b f a:=by cases b<;>rfl
theorem Yq (b:Bool)(f a r:P):pF [rl b f a r]=.ok (.fr,pk (kJ b f a)):=by refine eX ?_;rw[<-OQ];exact cE (dZ (iA (aI (aH (aF rfl) aQ.e rfl (yT f a)).e (aI (iB (aI (aH (aF rfl) aQ.e rfl rfl).e bH) rfl (OP b)) bH)) rfl (B6 (!b) f a) (cO _)))
def ov (a b:P):List Str:=(a.filter λp=>decide (look b p.1<p.2)).map (·.1)
theorem Yr (a b:P):((a.filter λp=>decide (look b p.1<p.2)).map λp=>PyData.str p.1)=(ov a b).map .str:=by unfold ov;rw[gb];rfl
theorem OR (a b:P):(ov a b).isEmpty=wi a b:=by unfold ov wi;rw[kt]
def yU (x:Str)(n:Str):D:=.tuple [.str x,.str n]
theorem Jr (hf:PK f)(ha:PK a)(OS:PK f')(wM:PK a')(hr:r.length<=60)(l1:f'.length<=60)(l2:a'.length<=60):xP [rl b f a r,mX f' a']=.ok (.fr,.list ((ov r (own b f' a')).map (yU "less")++(ov (kJ b f' a') (kJ b f a)).map (yU "more"))):=by
 refine eX ?_;have ho:PK (own b f' a'):=by cases b<;>assumption
 have hp:PK (kJ b f a):=by cases b<;>assumption
 have lo:(kJ b f' a').length<=60:=by cases b<;>assumption
 have e1:=xS (a:=r) ho;have e2:=xS (a:=kJ b f' a') hp;rw[Yr]at e1 e2;refine eT (yP (aH (aF rfl) aQ.e rfl rfl)) ?_;refine eT (DF (N3 (aI (aH (aF rfl) aQ.e rfl (cO r)).e (aI (iB (aI (aF rfl) (aI (aF rfl) bH)) rfl (B6 b f' a')) bH)) rfl e1) (xH _)) ?_;refine eT (DF (N3 (aI (iB (aI (aF rfl) (aI (iB (aI (aF rfl) bH) rfl (OP b)) bH)) rfl (by rw[B6,OQ])) (aI (iB (aI (aF rfl) bH) rfl (Yq b f a r)) bH)) rfl e2) (xH _)) ?_;have cp:∀(Y:Rho) (i:Nat) (x:Str) (ns:List Str),Y[i]?=some (some (.fr,.list (ns.map .str)))->aG [] [mV,pF,jA,mT] (.comp 1 [] ["name"] (.nm 0) (.tv (.var i)) .nil (.tup (.cons (.str x) (.cons (.var 0) .nil)))) Y=.ok (.fr,.list (ns.map (yU x))):=λY i x ns hi=>by have:=z2g (Κ:=[]) (Φ:=[mV,pF,jA,mT]) (nt:=1) (js:=[]) (N':=["name"]) (tg:=.nm 0) (elt:=.tup (.cons (.str x) (.cons (.var 0) .nil))) (λ_=>true) (yU x) (cX (by rw[nK];rw[hi];rfl) rfl) rfl (λn=>[some (.al,.str n)]) (λn _=>rfl) (λn _=>yO) (λn _ _=>sG (dI eY (dI (v_var rfl rfl) eU)));rw[gw.mpr λ_ _=>rfl]at this;exact this
 have Ys:(ov r (own b f' a')).length<=60:=by unfold ov;rw[ae];exact bo (jc _ _) hr
 have Yt:(ov (kJ b f' a') (kJ b f a)).length<=60:=by unfold ov;rw[ae];exact bo (jc _ _) lo
 refine cE (N6 (λi z=>by cases z) (DE (Ev.of (cp _ 3 "less" (ov r (own b f' a')) rfl)) (Ev.of (cp _ 4 "more" (ov (kJ b f' a') (kJ b f a)) rfl)) (add_list (by rw[ae,ae];omega)) (yq.mpr λz hz=>?_)));rcases(ce.mp hz)with hz|hz
 ·obtain⟨n,_,rfl⟩:=ba.mp hz;rfl
 ·obtain⟨n,_,rfl⟩:=ba.mp hz;rfl
theorem Yu {α:Type}(xs ys:List α):(xs++ys).isEmpty=(xs.isEmpty&&ys.isEmpty):=by cases xs<;>simp
def bi (b:Bool)(f a r f' a':P):Bool:=wi r (own b f' a')&&wi (kJ b f' a') (kJ b f a)
theorem Yv (x y:Str)(xs ys:List Str):dQ 39 (xs.map (yU x)++ys.map (yU y))=true:=kW.mpr λz hz=>by
 rcases(ce.mp hz)with hz|hz
 ·obtain⟨n,_,rfl⟩:=ba.mp hz;rfl
 ·obtain⟨n,_,rfl⟩:=ba.mp hz;rfl
theorem Yw (hf:PK f)(ha:PK a)(OS:PK f')(wM:PK a')(hr:r.length<=60)(l1:f'.length<=60)(l2:a'.length<=60):yR [rl b f a r,mX f' a']=.ok (.fr,.bool (bi b f a r f' a')):=by refine eX ?_;refine cE (dZ (cG (iB (aI (aF rfl) (aI (aF rfl) bH)) rfl (Jr hf ha OS wM hr l1 l2)) (Ev.of (iX eU)) ?_));rw[eq_nil _ (Yv _ _ _ _)];unfold bi;rw[Yu,kt,kt,OR,OR]
theorem OT (h:0<b)(h2:b<2 ^ 200):cW .FloorDiv (.int a) (.int b)=.ok (.int (a/b)):=by show(if _ then _ else _)=_;rw[xu ⟨h,h2⟩]
theorem Yx {α β:Type}(f:α->β)(xs:List α)(i j:Option Int):cut (xs.map f) i j=(cut xs i j).map f:=by unfold cut;rw[ae,List.map_take,List.map_drop]
def Nx (I:Rho->Prop)(z:Res Out):Prop:=∃aO,z=.ok (.nx aO)/\I aO
theorem yV (hi:aP d=true):eG (.nm j) (gJ d g,d) Y=.ok (Y.set j (some (.al,d))):=by rw[pE hi];rfl
theorem Js {β:Type}(m:β->D){xs:List β}{i:Int}(d:β)(h0:0<=i)(h1:i<xs.length):fC (.list (xs.map m)) (.int i)=.ok (m (xs.getD i.toNat d)):=by
 show Res.fO (dF (xs.map m) i)=_;rw[IH _ i (m d) h0 (by rw[ae];exact h1)]
 congr 1
 have:i.toNat<xs.length:=by omega
 rw[au,au,az,ak this];rfl
theorem B7 {β:Type}{m:β->D}(h:∀x,aP (m x)=true)(xs:List β):imms (xs.map m)=true:=yq.mpr λx hx=>by obtain⟨p,_,rfl⟩:=ba.mp hx;exact h p
theorem OU {β:Type}{m:β->D}{Q:Res Out->Prop}(I:List β->Rho->Prop):∀xs pre Y,(∀sF x post Y,pre++xs=sF++x::post->I sF Y->(∃aO,f (m x) Y=.ok (.nx aO)/\I (sF++[x]) aO)\/∃g d,f (m x) Y=.ok (.rt g d)/\Q (.ok (.rt g d)))->I pre Y->(∃aO,dD f (xs.map m) Y=.ok (.nx aO)/\I (pre++xs) aO)\/∃g d,dD f (xs.map m) Y=.ok (.rt g d)/\Q (.ok (.rt g d))
 | [],pre,Y,_,h=>.inl ⟨Y,rfl,by rw[dh];exact h⟩
 |x::xs,pre,Y,hf,h=>by
  rcases hf pre x xs Y rfl h with⟨aO,e,h'⟩|⟨g,d,e,q⟩
  ·have e2:pre++x::xs=(pre++[x])++xs:=by simp
   rcases OU I xs (pre++[x]) aO (λa b c r hh=>hf a b c r (e2.trans hh)) h' with⟨cF,e3,h3⟩|⟨g,d,e3,q⟩
   ·exact .inl ⟨cF,by rw[bg];show(match f (m x) Y with|.ok (.nx aO)=>dD f (xs.map m) aO|.ok (.rt g d)=>.ok (.rt g d)|.exc e=>.exc e|.no=>.no)=_;rw[e];exact e3,by rw[e2];exact h3⟩
   ·exact .inr ⟨g,d,by rw[bg];show(match f (m x) Y with|.ok (.nx aO)=>dD f (xs.map m) aO|.ok (.rt g d)=>.ok (.rt g d)|.exc e=>.exc e|.no=>.no)=_;rw[e];exact e3,q⟩
  ·exact .inr ⟨g,d,by rw[bg];show(match f (m x) Y with|.ok (.nx aO)=>dD f (xs.map m) aO|.ok (.rt g d)=>.ok (.rt g d)|.exc e=>.exc e|.no=>.no)=_;rw[e],q⟩
theorem zqm {Q:Res Out->Prop}{β:Type}{m:β->D}{xs:List β}(h:evF Κ Φ it Y=.ok (g,xs.map m,ρ1))(I:List β->Rho->Prop)(h0:I [] ρ1)
  (hf:∀pre x post Y,xs=pre++x::post->I pre Y->∃cF,eG t' (gJ (m x) g,m x) Y=.ok cF/\(Nx (I (pre++[x])) (aX Κ Φ p cF)\/∃g d,aX Κ Φ p cF=.ok (.rt g d)/\Q (.ok (.rt g d)))) (hk:∀aO,I xs aO->Q (aX Κ Φ rest aO)):Q (aX Κ Φ (.seq (.bA t' it p) rest) Y):=by
 rcases OU (f:=λx ρ1=>eG t' (gJ x g,x) ρ1>>=λcF=>aX Κ Φ p cF) I xs [] ρ1 (λpre x post Y hx hI=>by
  obtain⟨cF,e,hh⟩:=hf pre x post Y hx hI;rcases hh with⟨aO,h1,h2⟩|⟨g',d,h1,h2⟩
  ·exact .inl ⟨aO,by rw[e,Res.aD,h1],h2⟩
  ·exact .inr ⟨g',d,by rw[e,Res.aD,h1],h2⟩) h0 with⟨aO,e,i⟩|⟨g',d,e,q⟩
 ·rw[eT (DJ h e) rfl];exact hk aO i
 ·rw[cE (DJ h e)];exact q
theorem Yy {α:Type}{xs:List α}{x:α×Nat}(h:x∈xs.zipIdx):xs[x.2]?=some x.1:=List.mem_zipIdx_iff_getElem?.mp h
theorem uG (ha:PK a)(hb:PK b)(hc:PK c)(h1:wi a b=true)(h2:wi b c=true):wi a c=true:=(DY ha hc).mpr λn=>Int.le_trans ((DY ha hb).mp h1 n) ((DY hb hc).mp h2 n)
theorem DZ (ha:PK a):wi a a=true:=(DY ha ha).mpr λ_=>tm _
theorem B8 (hf:PK f)(ha:PK a):PK (own b f a):=by cases b<;>assumption
def mr (p:Bool×P×P×P):D:=rl p.1 p.2.1 p.2.2.1 p.2.2.2
theorem Yz (p:Bool×P×P×P):aP (mr p)=true:=OO _ _ _ _
theorem Jt (h:Y[i]?=some (some (g,mr p))):Vv [] Φ (.ix (.var i) (.int 1)) Y (.str (sd p.1)):=aH (aF h) aQ.e rfl rfl
theorem OV (b:Bool)(f a:P):fC (mX f a) (.int (if b then 0 else 1))=.ok (pk (own b f a)):=by cases b<;>rfl
theorem jN (a b:Str):bW (.str a) (.str b)=decide (a=b):=by
 by_cases h:a=b
 ·rw[x6 h,h];exact beq_self_eq_true b
 ·rw[x8 h];exact beq_false_of_ne h
theorem D4 (n:Nat)(ws:List Str):dQ n (ws.map .str)=true:=kW.mpr λx hx=>by obtain⟨w,_,rfl⟩:=ba.mp hx;cases n<;>rfl
theorem D5 (w:Str)(ws:List Str):cmpD .In (.str w) (.list (ws.map .str))=.ok (decide (w∈ws)):=by
 show(if(aN 40 (.str w)&&dQ 40 (ws.map .str))=true then Res.ok ((ws.map PyData.str).any λy=>bW y (.str w))else .no)=_;rw[D4,show aN 40 (.str w)=true from rfl,qw];show Res.ok _=_
 congr 1
 apply jw.mpr;rw[nh,decide_eq_true_iff];refine⟨λ⟨x,h1,h2⟩=>?_,λh=>⟨w,h,?_⟩⟩
 ·have h2:bW (.str x) (.str w)=true:=h2;exact x5 h2▸h1
 ·show bW (.str w) (.str w)=true;rw[jN];exact x6 rfl
def tS (a:List Str):D:=.tuple (a.map .str)
theorem xT (a:List Str):aP (tS a)=true:=xH a
theorem YA (l:P)(hl:l.length<64):sO [.list (l.map pr)]=.ok (.fr,pk (gr l)):=by
 refine eX ?_;refine eT (N4 XW rfl) ?_;refine zmj (BD rfl rfl rfl) (λa Y=>∃u v,Y=[some (.od,.list (l.map pr)),some (.fr,.dict (en a)),u,v]/\(ks a).Nodup/\∀k∈ks a,k∈ks l) (λa p=>put a p.1 (max p.2 (look a p.1))) [] ⟨none,none,rfl,jq,λ_ h=>by cases h⟩ ?_ ?_
 ·rintro a p Y hp ⟨u,v,rfl,nd,hs⟩
  refine⟨_,eT (XY (kH (aI (aF rfl) (aI (xI (aF rfl) (aI (aF rfl) (aI aQ.e bH)) (IF _ _) rfl).e bH)) (Xv _ _) rfl) (aF rfl) rfl nd (by have:=ON nd hs;omega)) iY,_,_,rfl,Iq _ _ _ nd,λk hk=>?_⟩;rcases(Ip _ _ _ _).mp hk with rfl|hk
  ·exact ba.mpr ⟨p,hp,rfl⟩
  ·exact hs k hk
 ·rintro Y ⟨u,v,rfl,nd,hs⟩
  refine cE (dZ (yN (Ev.of (z2g (λp=>decide (0<p.2)) pr (cX (Yj rfl (by have:=ON nd hs;exact ju this hl)) rfl) rfl (λp=>[some (.al,pr p)]) (λp _=>rfl) (λp _=>aU (cG (aH (aF rfl) aQ.e rfl rfl).e aQ.e rfl).e rfl) (λp _ _=>v_var rfl rfl))) rfl rfl (cO _)))
theorem YB (h:PK al)(n:Str):mU [pk al,.str n]=.ok (.fr,.int (look al n)):=by refine eX ?_;exact cE (dZ (xI (Ev.of (IT (aF rfl) rfl (NZ _ h.nd) (Iv al))) (aI (aF rfl) (aI aQ.e bH)) (IF _ _) rfl))
def vv (wd:List Str)(al:P)(n:Str):Int:=if n∈wd then 1 else look al n
def nv (wd:List Str)(al:P)(ns:List Str):P:=ns.map λn=>(n,vv wd al n)
theorem OW (h:PK al)(wd ns:List Str)(hl:ns.length<=8):Jf [tS ns,pk al,.list (wd.map .str)]=.ok (.fr,pk (gr (nv wd al ns))):=by
 refine eX ?_
 have hc:=z2g (Y:=[some (.od,tS ns),some (.od,pk al),some (.od,.list (wd.map .str))]) (nt:=1) (js:=[2,1]) (N':=["name","words","thing"]) (tg:=.nm 0) (it:=.tv (.var 0)) (elt:=.tup (.cons (.var 0) (.cons (.oJ (.tv (.cmp .In (.var 0) (.var 1))) (.int 1) (.call 1 "degree" (.cons (.var 2) (.cons (.var 0) .nil)))) .nil))) (λ_=>true) (λn=>pr (n,vv wd al n)) (cX (v_var rfl (xT ns)).1 rfl) rfl (λn=>[some (.al,.str n),some (.od,.list (wd.map .str)),some (.od,pk al)]) (λ_ _=>rfl) (λ_ _=>yO) λn _ _=>by
  have hi:=IS (Κ:=[]) (Φ:=[sO,mU]) (Y:=[some (.al,.str n),some (.od,.list (wd.map .str)),some (.od,pk al)]) (c:=.tv (.cmp .In (.var 0) (.var 1))) (a:=.int 1) (b:=.call 1 "degree" (.cons (.var 2) (.cons (.var 0) .nil))) (aU (cG (aF rfl) (aF rfl) (D5 n wd)).e rfl) (λ_=>aQ) λ_=>iA (aI (aF rfl) (aI (aF rfl) bH)) rfl (YB h n) rfl
  have e:(if truth (.bool (decide (n∈wd)))=true then PyData.int 1 else .int (look al n))=.int (vv wd al n):=by
   unfold vv;by_cases hn:n∈wd
   ·rw[xu hn,x6 hn];rfl
   ·rw[xw hn,x8 hn];rfl
  rw[e]at hi;exact sG (dI (v_var rfl rfl) (dI hi eU))
 rw[gw.mpr (λ_ _=>rfl),show(ns.map λn=>pr (n,vv wd al n))=(nv wd al ns).map pr by unfold nv;rw[gb];rfl]at hc;exact cE (dZ (iA (aI (Ev.of hc) bH) rfl (YA _ (by unfold nv;rw[ae];omega)) (cO _)))
theorem OX (h:Ev [] Φ t Y (mX f a))(h2:Ev [] Φ u Y (.int (if b then 0 else 1))):Vv [] Φ (.ix t u) Y (pk (own b f a)):=aH h h2 (OV b f a) (cO _)
theorem YC (b:Bool):cW .Sub (.int 1) (.int (if b then 0 else 1))=.ok (.int (if !b then 0 else 1)):=by cases b<;>rfl
theorem YD (hf:PK f)(ha:PK a)(h:wi r (own b f a)=true):xO [mX f a,.str (sd b),pk r]=.ok (.fr,rl b f a r):=by refine eX ?_;refine lH (Gg (aU (iA (aI (aF rfl) (aI (iB (aI (aF rfl) (aI (aF rfl) bH)) rfl (B6 b f a)) bH)) rfl (Jq (B8 hf ha)) rfl).e rfl)) (by rw[h];rfl) ?_;exact cE (dZ (sG (dI (v_var rfl (yT _ _)) (dI (v_var rfl rfl) (dI (v_var rfl (cO _)) eU)))))
def OY (fs:List Str)(th:P):P:=th.filter λp=>decide (p.1∈fs)
theorem YE (h:evW [] Φ it Y=.ok (g,th.map pr))(hj:cV (Y.getD j none)=some (.al,.list (fs.map .str))\/cV (Y.getD j none)=some (.od,.list (fs.map .str)))(N':List Str):aG [] Φ (.comp 1 [j] N' (.nm 0) it (.tv (.cmp .In (.ix (.var 0) (.int 0)) (.var 1))) (.var 0)) Y=.ok (.fr,.list ((OY fs th).map pr)):=by obtain⟨g',hj⟩:∃g',cV (Y.getD j none)=some (g',.list (fs.map .str)):=hj.elim (λz=>⟨_,z⟩) λz=>⟨_,z⟩;exact z2g (nt:=1) (js:=[j]) (tg:=.nm 0) (cond:=.tv (.cmp .In (.ix (.var 0) (.int 0)) (.var 1))) (elt:=.var 0) (λp=>decide (p.1∈fs)) pr h rfl (λp=>[some (.al,pr p),some (g',.list (fs.map .str))]) (λp _=>by show Res.ok _=_;rw[bg,hj];rfl) (λp _=>aU (cG (aH (aF rfl) aQ.e rfl rfl).e (aF rfl) (D5 _ _)).e rfl) λp _ _=>v_var rfl (NK p)
abbrev Q2:={p:P//PK p/\p.length<=2}
abbrev Cs:=Q2×Q2
abbrev Ru:=Bool×Q2×Q2×Q2
def cD (c:Cs):D:=mX c.1.1 c.2.1
def ruD (r:Ru):D:=mr (r.1,r.2.1.1,r.2.2.1.1,r.2.2.2.1)
def biR (r:Ru)(c:Cs):Bool:=bi r.1 r.2.1.1 r.2.2.1.1 r.2.2.2.1 c.1.1 c.2.1
def stC (c c':Cs):Bool:=wi c.1.1 c'.1.1&&wi c'.2.1 c.2.1
def sdR (r:Ru):Bool:=r.1
def sR (c:Cs)(b:Bool):Ru:=(b,c.1,c.2,if b then c.1 else c.2)
theorem pI (r:Ru):aP (ruD r)=true:=Yz _
theorem sS (c:Cs):aP (cD c)=true:=yT _ _
theorem yW:Bk biR sdR sR stC where
 sf:=λ_ _=>rfl
 t1:=λ_ _=>rfl
 t2:=λc c'=>Bool.and_comm _ _
 rf:=λc=>by unfold stC;rw[DZ c.1.2.1,DZ c.2.2.1];rfl
 up:=λr c c' hs h1 h2=>by obtain⟨b,f,a,q⟩:=r;cases hs;obtain⟨x1,x2⟩:=av.mp h1;obtain⟨y1,y2⟩:=av.mp h2;exact av.mpr ⟨uG q.2.1 c.1.2.1 c'.1.2.1 x1 y1,uG c'.2.2.1 c.2.2.1 a.2.1 y2 x2⟩
 dn:=λr c c' hs h1 h2=>by obtain⟨b,f,a,q⟩:=r;cases hs;obtain⟨x1,x2⟩:=av.mp h1;obtain⟨y1,y2⟩:=av.mp h2;exact av.mpr ⟨uG q.2.1 c.2.2.1 c'.2.2.1 x1 y2,uG c'.1.2.1 c.1.2.1 f.2.1 y1 x2⟩
theorem YF (r:Ru)(c:Cs):yR [ruD r,cD c]=.ok (.fr,.bool (biR r c)):=Yw r.2.1.2.1 r.2.2.1.2.1 c.1.2.1 c.2.2.1 (bo r.2.2.2.2.2 (by decide)) (bo c.1.2.2 (by decide)) (bo c.2.2.2 (by decide))
def uH (k:Nat):Option Bool->D
 |none=>.none
 |some s=>.tuple [.str (sd s),.int k]
theorem YG (k:Nat)(o:Option Bool):aP (uH k o)=true:=by cases o<;>rfl
theorem YH {R C:Type}{bi:R->C->Bool}{sd:R->Bool}{pre post:List R}{r:R}{c:C}(h:∀y∈pre,bi y c=false)(hr:bi r c=true):dJ bi sd (pre++r::post) c=some (sd r):=by
 induction pre with
 |nil=>exact xu hr
 |cons y pre ih=>show(if bi y c=true then _ else _)=_;rw[xw (by rw[h y (.head _)];decide)];exact ih λz hz=>h z (.tail _ hz)
theorem YI {rs:List Ru}(h:Y[i]?=some (some (.od,.list (rs.map ruD))))(hl:rs.length<=100):evF Κ Φ (.enum (.var i)) Y=.ok (.al,rs.zipIdx.map λx=>.tuple [.int x.2,ruD x.1],Y):=by
 have e:aG Κ Φ (.var i) Y=.ok (.od,.list (rs.map ruD)):=by rw[nK];rw[h];rfl
 rw[N8 e rfl (N9 (B7 pI rs) (by rw[ae];omega)),DH]
theorem YJ (hl:rs.length<=100):∃k,Jd [.list (rs.map ruD),cD c]=.ok (.fr,uH k (dJ biR sdR rs c)):=by
 suffices h:∃k,aX [] [yR] Jc [some (.od,.list (rs.map ruD)),some (.od,cD c),none,none]=.ok (.rt .fr (uH k (dJ biR sdR rs c))) by obtain⟨k,h⟩:=h;exact⟨k,eX h⟩
 let Q:Res Out->Prop:=λz=>∃k,z=.ok (.rt .fr (uH k (dJ biR sdR rs c)))
 show Q _;refine zqm (YI rfl hl) (λpre Y=>(∀y∈pre,biR y.1 c=false)/\∃u2 u3,Y=[some (.od,.list (rs.map ruD)),some (.od,cD c),u2,u3]) ⟨(λ_ h=>by cases h),none,none,rfl⟩ ?_ ?_
 ·rintro pre x post Y hx ⟨hn,u2,u3,rfl⟩
  refine⟨_,DI rfl (pI x.1),?_⟩;have ht:Tt [] [yR] (.tv (.call 0 "binds" (.cons (.var 3) (.cons (.var 1) .nil)))) [some (.od,.list (rs.map ruD)),some (.od,cD c),some (.al,.int x.2),some (.al,ruD x.1)] (biR x.1 c):=aU (iA (aI (aF rfl) (aI (aF rfl) bH)) rfl (YF x.1 c) rfl).e rfl;cases hb:biR x.1 c with
  |true=>
   refine .inr ⟨.fr,uH x.2 (some x.1.1),cE (jL ht (λ_=>cE (dZ (sG (dI (Jt (p:=(x.1.1,x.1.2.1.1,x.1.2.2.1.1,x.1.2.2.2.1)) rfl) (dI (v_var rfl rfl) eU))))) λz=>by rw[hb]at z;cases z),x.2,?_⟩;have e:rs=pre.map (·.1)++x.1::post.map (·.1):=by have:rs.zipIdx.map (·.1)=(pre++x::post).map (·.1):=congrArg _ hx;rw[ub,cj,bg]at this;exact this
   rw[e,YH (λy hy=>by obtain⟨z,hz,rfl⟩:=ba.mp hy;exact hn z hz) hb];rfl
  |false=>
   refine .inl ⟨_,eT (jL ht (λz=>by rw[hb]at z;cases z) λ_=>iY) iY,λy hy=>?_,_,_,rfl⟩;rcases ce.mp hy with z|z
   ·exact hn y z
   ·rw[ah.mp z];exact hb
 ·rintro Y ⟨hn,u2,u3,rfl⟩
  refine⟨0,?_⟩;have e:dJ biR sdR rs c=none:=Jm.mpr λr hr=>by rw[<-ub 0 rs]at hr;obtain⟨z,hz,rfl⟩:=ba.mp hr;exact hn z hz
  rw[e];exact cE (dZ XT)
theorem YK (c:Cs)(b:Bool):Je [cD c,.str (sd b)]=.ok (.fr,ruD (sR c b)):=by
 have e:ruD (sR c b)=rl b c.1.1 c.2.1 (own b c.1.1 c.2.1):=by cases b<;>rfl
 refine eX ?_;rw[e];exact cE (dZ (iA (aI (aF rfl) (aI (aF rfl) (aI (iB (aI (aF rfl) (aI (aF rfl) bH)) rfl (B6 b c.1.1 c.2.1)) bH))) rfl (YD c.1.2.1 c.2.2.1 (DZ (B8 c.1.2.1 c.2.2.1))) (OO _ _ _ _)))
theorem B9 (xs:List Int)(h0:0<=k):∃v,Jh [.list (xs.map .int),.int k]=.ok (.fr,.int v):=by
 have hc:Tt [] [] (.tv (.cmp .Lt (.var 1) (.bi "len" (.cons (.var 0) .nil)))) [some (.od,.list (xs.map .int)),some (.od,.int k)] (decide (k<xs.length)):=aU (cG (aF rfl) (kH (aI (aF rfl) bH) (by show Res.ok (PyData.int ((xs.map PyData.int).length:Nat))=_;rw[ae]) rfl).e rfl).e rfl;cases hk:decide (k<xs.length)with
 |true=>exact⟨_,eX (Oa hc hk (cE (dZ (aH (aF rfl) (aF rfl) (Xx h0 (x5 hk)) rfl))))⟩
 |false=>exact⟨0,eX (lH hc hk (cE (dZ aQ)))⟩
theorem Ju:wi a b=a.all λp=>!decide (look b p.1<p.2):=by
 unfold wi
 induction a with
 |nil=>rfl
 |cons p a ih=>
  rw[dg,db,<-ih];by_cases h:look b p.1<p.2
  ·rw[xu (x6 h),x6 h];rfl
  ·rw[xw (by rw[x8 h];decide),x8 h];rfl
def Jv (b:P)(p:Str×Int):P:=b.filter λq=>decide (q.1=p.1)&&decide (q.2 ≥ p.2)
theorem YL (hb:PK b)(hp:0<p.2):(Jv b p).isEmpty=decide (look b p.1<p.2):=by
 rw[jw,decide_eq_true_iff,qj];unfold Jv;rw[e9];constructor
 ·intro h;by_cases z:look b p.1<p.2
  ·exact z
  ·unfold look at z ⊢;cases e:fnd b p.1 with
   |none=>rw[e]at z;exact absurd hp z
   |some v=>rw[e]at z;have z:¬v<p.2:=z;exact absurd (h _ (tZ e)) (by simp;omega)
 ·intro h q hq z;obtain⟨z1,z2⟩:=av.mp z;have z1:=x5 z1;have z2:=x5 z2;have:=xF hb.nd hq;unfold look at h;rw[<-z1,this]at h;have h:q.2<p.2:=h;omega
theorem YM (l:P):dQ 39 (l.map pr)=true:=kW.mpr λx hx=>by obtain⟨p,_,rfl⟩:=ba.mp hx;rfl
theorem OZ (ha:PK a)(hb:PK b):DU [pk a,pk b]=.ok (.fr,.bool (wi a b)):=by
 refine eX ?_
 let Q:Res Out->Prop:=λz=>z=.ok (.rt .fr (.bool (wi a b)))
 show Q _;refine zqm (X0 rfl (by decide) (cO a) rfl) (λpre Y=>(∀p∈pre,¬look b p.1<p.2)/\∃u2 u3,Y=[some (.od,pk a),some (.od,pk b),u2,u3]) ⟨(λ_ h=>by cases h),none,none,rfl⟩ ?_ ?_
 ·rintro pre p post Y hx ⟨hn,u2,u3,rfl⟩
  have hm:p∈a:=by rw[hx];exact ay _ bh
  refine⟨_,DI rfl rfl,?_⟩;have hc:=z2g (Κ:=[]) (Φ:=[]) (Y:=[some (.od,pk a),some (.od,pk b),some (.al,.str p.1),some (.al,.int p.2)]) (nt:=1) (js:=[2,3]) (N':=["_law_more","_law_name","_law_count_here"]) (tg:=.nm 0) (it:=.tv (.var 1)) (cond:=.and (.tv (.cmp .Eq (.ix (.var 0) (.int 0)) (.var 1))) (.tv (.cmp .GtE (.ix (.var 0) (.int 1)) (.var 2)))) (elt:=.var 0) (λq=>decide (q.1=p.1)&&decide (q.2 ≥ p.2)) pr (cX (v_var rfl (cO b)).1 rfl) rfl (λq=>[some (.al,pr q),some (.al,.str p.1),some (.al,.int p.2)]) (λq _=>rfl) (λq _=>IU (aU (cG (aH (aF rfl) aQ.e rfl rfl).e (aF rfl) (by show Res.ok _=_;exact congrArg Res.ok (jN q.1 p.1))).e rfl) λ_=>aU (cG (aH (aF rfl) aQ.e rfl rfl).e (aF rfl) rfl).e rfl) λq _ _=>v_var rfl (NK q);have ht:Tt [] [] (.tv (.cmp .Eq (.comp 1 [2,3] ["_law_more","_law_name","_law_count_here"] (.nm 0) (.tv (.var 1)) (.and (.tv (.cmp .Eq (.ix (.var 0) (.int 0)) (.var 1))) (.tv (.cmp .GtE (.ix (.var 0) (.int 1)) (.var 2)))) (.var 0)) (.lst .nil))) [some (.od,pk a),some (.od,pk b),some (.al,.str p.1),some (.al,.int p.2)] (decide (look b p.1<p.2)):=by refine aU (cG (k:=decide (look b p.1<p.2)) (Ev.of hc) (Ev.of (iX eU)) ?_).e rfl;rw[show(List.filter (λq=>decide (q.1=p.1)&&decide (q.2 ≥ p.2)) b)=Jv b p from rfl,eq_nil _ (YM _),kt,YL hb (ha.pos p hm)]
  by_cases h:look b p.1<p.2
  ·refine .inr ⟨.fr,.bool false,cE (jL ht (λ_=>cE (dZ mR)) λz=>by rw[x6 h]at z;cases z),?_⟩;show _=_;have e:wi a b=false:=by rw[Ju,hx,List.all_append,db,x6 h];exact oo _
   rw[e]
  ·refine .inl ⟨_,eT (jL ht (λz=>by rw[x8 h]at z;cases z) λ_=>iY) iY,λy hy=>?_,_,_,rfl⟩;rcases ce.mp hy with z|z
   ·exact hn y z
   ·rw[ah.mp z];exact h
 ·rintro Y ⟨hn,u2,u3,rfl⟩
  have e:wi a b=true:=by rw[Ju];exact bj.mpr λp hp=>by rw[x8 (hn p hp)];rfl
  show aX _ _ _ _=_;rw[e];exact cE (dZ mR)
theorem YN (b:Bool):nH "int" [.bool (decide ((sd b)=("against":Str)))]=.ok (.int (if b then 0 else 1)):=by cases b<;>rfl
theorem YO (h:Ev [] Φ t Y (.str (sd b))):Vv [] Φ (.bi "int" (.cons (.cmp .Eq t (.str "against")) .nil)) Y (.int (if b then 0 else 1)):=kH (aI (cG (k:=decide (sd b=("against":Str))) h eY.e (by show Res.ok _=_;exact congrArg Res.ok (jN _ _))).e bH) (YN b) rfl
def agR (r s:Ru):Bool:=!(r.1==s.1)&&(wi s.2.2.2.1 (own (!r.1) r.2.1.1 r.2.2.1.1)&&wi r.2.2.2.1 (own r.1 s.2.1.1 s.2.2.1.1))
theorem YQ (b c:Bool):decide (sd b=sd c)=(b==c):=by cases b<;>cases c<;>rfl
theorem YR (r s:Ru):Ji [ruD r,ruD s]=.ok (.fr,.bool (agR r s)):=by
 obtain⟨b,f,a,q⟩:=r;obtain⟨b',f',a',q'⟩:=s;refine eX ?_;have ht:Tt [] [DU] (.tv (.cmp .Eq (.ix (.var 0) (.int 1)) (.ix (.var 1) (.int 1)))) [some (.od,ruD (b,f,a,q)),some (.od,ruD (b',f',a',q')),none] (b==b'):=aU (cG (aH (aF rfl) aQ.e rfl rfl).e (aH (aF rfl) aQ.e rfl rfl).e (by show Res.ok _=_;rw[jN,YQ])).e rfl;have e:agR (b,f,a,q) (b',f',a',q')=(!(b==b')&&(wi q'.1 (own (!b) f.1 a.1)&&wi q.1 (own b f'.1 a'.1))):=rfl;rw[e];cases h:b==b' with
 |true=>exact Oa ht h (cE (dZ mR))
 |false=>refine lH ht h ?_;rw[show((!false)&&(wi q'.1 (own (!b) f.1 a.1)&&wi q.1 (own b f'.1 a'.1)))=(wi q'.1 (own (!b) f.1 a.1)&&wi q.1 (own b f'.1 a'.1))from rfl];refine eT (yP (YO (aH (aF rfl) aQ.e rfl rfl).e)) ?_;exact cE (dZ (v_and (iA (aI (aH (aF rfl) aQ.e rfl (cO _)).e (aI (OX (aH (aF rfl) aQ.e rfl (yT _ _)).e (fP aQ.e (aF rfl) (YC b) rfl).e).e bH)) rfl (OZ q'.2.1 (B8 f.2.1 a.2.1)) rfl).e λ_=>iA (aI (aH (aF rfl) aQ.e rfl (cO _)).e (aI (OX (aH (aF rfl) aQ.e rfl (yT _ _)).e (aF rfl)).e bH)) rfl (OZ q.2.1 (B8 f'.2.1 a'.2.1)) rfl))
theorem YS (bs:List Bool):((bs.map PyData.bool).any λy=>bW y (.bool true))=bs.any id:=by
 rw[qw]
 congr 1
 funext b
 cases b<;>rfl
theorem YT (bs:List Bool):cmpD .NotIn (.bool true) (.list (bs.map .bool))=.ok (!bs.any id):=by
 have e:inD (.bool true) (.list (bs.map .bool))=.ok (bs.any id):=by show(if(aN 40 (.bool true)&&dQ 40 (bs.map .bool))=true then Res.ok ((bs.map PyData.bool).any λy=>bW y (.bool true))else .no)=_;have h:(aN 40 (.bool true)&&dQ 40 (bs.map .bool))=true:=av.mpr ⟨rfl,kW.mpr λx hx=>by obtain⟨b,_,rfl⟩:=ba.mp hx;rfl⟩;rw[xu h,YS]
 show(inD (.bool true) (.list (bs.map .bool))>>=λb=>Res.ok (!b))=_;rw[e];rfl
theorem D6 (h:∀r∈l,∀s∈l,agR r s=false):Cons biR sdR l:=λr hr s hs c h1 h2=>by
 have z:=h r hr s hs;by_cases e:r.1=s.1
 ·exact e
 ·exfalso;obtain⟨b,f,a,q⟩:=r;obtain⟨b',f',a',q'⟩:=s;have z:(!(b==b')&&(wi q'.1 (own (!b) f.1 a.1)&&wi q.1 (own b f'.1 a'.1)))=false:=z;obtain⟨x1,x2⟩:=av.mp h1;obtain⟨y1,y2⟩:=av.mp h2;have w:wi q'.1 (own (!b) f.1 a.1)=true/\wi q.1 (own b f'.1 a'.1)=true:=by cases b<;>cases b'<;>first|exact absurd rfl e|exact⟨uG q'.2.1 c.1.2.1 f.2.1 y1 x2,uG q.2.1 c.2.2.1 a'.2.1 x1 y2⟩|exact⟨uG q'.2.1 c.2.2.1 a.2.1 y1 x2,uG q.2.1 c.1.2.1 f'.2.1 x1 y2⟩
  rw[w.1,w.2,show(b==b')=false from beq_false_of_ne e]at z;cases z
theorem YU (r s:Ru):agR r s=agR s r:=by obtain⟨b,f,a,q⟩:=r;obtain⟨b',f',a',q'⟩:=s;cases b<;>cases b'<;>first|rfl|(show(true&&(_&&_))=(true&&(_&&_));exact congrArg (true&& ·) (Bool.and_comm _ _))
def NM:List Str:=["fa","fb","fc","wopen"]
theorem YV (h:n∈NM):∃s,fC (.str n) (.int 0)=.ok (.str s):=by
 rcases ao.mp h with rfl|h
 ·exact⟨_,rfl⟩
 rcases ao.mp h with rfl|h
 ·exact⟨_,rfl⟩
 rcases ao.mp h with rfl|h
 ·exact⟨_,rfl⟩
 rw[ah.mp h];exact⟨_,rfl⟩
theorem YW (h:n∈NM):PyData.strOk n=true:=by
 have:NM.all PyData.strOk=true:=by decide+kernel
 exact bj.mp this n h
structure SO (fs sf:List Str):Prop where
 nd:fs.Nodup
 lf:fs.length<=2
 l2:sf.length<=2
 pw:sf.Pairwise sl
 mm:∀n,n∈sf↔n∈fs
 ev:∀b,aggD "sorted" b (fs.map .str)=.ok (.list (sf.map .str))
 nm:∀n∈sf,n∈NM
structure Op where
 n:Str
 fs:List Str
 gs:List Str
 sf:List Str
 sg:List Str
 of:SO fs sf
 og:SO gs sg
 so:PyData.strOk n=true
def opD (o:Op):D:=.tuple [.str "open",.str o.n,tS o.fs,tS o.gs]
theorem Jw (o:Op):aP (opD o)=true:=by show imms [.str "open",.str o.n,tS o.fs,tS o.gs]=true;rw[imms,imms,imms,imms,imms,xT,xT];rfl
theorem O0 {ns:List Str}(h:∀p∈l,p.1∈ns)(hn:n∉ns):look l n=0:=by unfold look;rw[z21 λz=>by obtain⟨p,hp,rfl⟩:=ba.mp z;exact hn (h p hp)];rfl
def cv (ws:List Str)(th:P)(l:List Str):P:=(nv ws th l).filter λp=>decide (0<p.2)
theorem Ca (h:l.Pairwise sl):PK (cv ws th l) where
 sd:=(ma.mpr (h.imp λ{a b} h=>h):(nv ws th l).Pairwise _).sublist uc
 pos:=λp hp=>x5 (fm.mp hp).2
theorem O1:(cv ws th l).length<=l.length:=by have:=jc (λp:Str×Int=>decide (0<p.2)) (nv ws th l);unfold cv;unfold nv at this ⊢;rw[ae]at this;exact this
theorem YX:∀p∈cv ws th l,p.1∈l:=λp hp=>by obtain⟨n,hn,rfl⟩:=ba.mp (fm.mp hp).1;exact hn
theorem O2 (h:l.Pairwise sl)(n:Str):look (cv ws th l) n=if n∈l then max (vv ws th n) 0 else 0:=by
 by_cases hn:n∈l
 ·rw[xu hn];by_cases hp:0<vv ws th n
  ·have :(n,vv ws th n)∈cv ws th l:=fm.mpr ⟨ba.mpr ⟨n,hn,rfl⟩,x6 hp⟩;unfold look;rw[xF (Ca h).nd this];show vv ws th n=_;omega
  ·have e:fnd (cv ws th l) n=none:=z21 fun z=>by
    obtain⟨p,Jx,rfl⟩:=ba.mp z;obtain⟨h1,h2⟩:=fm.mp Jx;obtain⟨m,_,rfl⟩:=ba.mp h1;exact hp (x5 h2)
   unfold look;rw[e];show(0:Int)=_;omega
 ·rw[xw hn];exact O0 YX hn
theorem Jy (ws:List Str)(th:P)(n:Str):∀(ns:List Str) (m:Int),ns.Nodup->0<=m->(nv ws th ns).foldl (λm p=>if p.1=n then max p.2 m else m) m=if n∈ns then max (vv ws th n) m else m
 | [],m,_,_=>rfl
 |x::ns,m,nd,h=>by
  obtain⟨h1,h2⟩:=cr.mp nd;show(nv ws th ns).foldl _ (if x=n then max (vv ws th x) m else m)=_;by_cases e:x=n
  ·subst e;rw[xu rfl,Jy ws th x ns _ h2 (by omega),xw h1,xu bh]
  ·rw[xw e,Jy ws th n ns m h2 h];by_cases hn:n∈ns
   ·rw[xu hn,xu (br _ hn)]
   ·rw[xw hn,xw λz=>(ao.mp z).elim (λz=>e z.symm) hn]
theorem O3 (s:SO fs sf):gr (nv ws th fs)=cv ws th sf:=by
 refine PK.ext (Ym _) (Ca s.pw) λn=>?_;have e:look (gr (nv ws th fs)) n=max (look (yS [] (nv ws th fs)) n) 0:=Yl (Jp _ [] jq) n;rw[e,OL,show look [] n=0 from rfl,Jy ws th n fs 0 s.nd (tm 0),O2 s.pw];by_cases hn:n∈fs
 ·rw[xu hn,xu ((s.mm n).mpr hn)];omega
 ·rw[xw hn,xw λz=>hn ((s.mm n).mp z)];rfl
def dM (o:Op)(th:P)(ws:List Str):Cs:=(⟨cv ws th o.sf,Ca o.of.pw,bo O1 o.of.l2⟩,⟨cv ws th o.sg,Ca o.og.pw,bo O1 o.og.l2⟩)
theorem YY (o:Op)(h:PK th)(ws:List Str):Jg [opD o,pk th,.list (ws.map .str)]=.ok (.fr,cD (dM o th ws)):=by have e1:=OW h ws o.fs (bo o.of.lf (by decide));have e2:=OW h ws o.gs (bo o.og.lf (by decide));rw[O3 o.of]at e1;rw[O3 o.og]at e2;refine eX ?_;exact cE (dZ (sG (dI (iA (aI (aH (aF rfl) aQ.e rfl (xT _)).e (aI (aF rfl) (aI (aF rfl) bH))) rfl e1 (cO _)) (dI (iA (aI (aH (aF rfl) aQ.e rfl (xT _)).e (aI (aF rfl) (aI (aF rfl) bH))) rfl e2 (cO _)) eU))))
abbrev Ce:=Nat×Cs
abbrev Re:=Nat×Ru
def iJ (r:Re)(c:Ce):Bool:=biR r.2 c.2
def jB (r:Re):Bool:=r.2.1
def yX (c:Ce)(b:Bool):Re:=(c.1,sR c.2 b)
def xU (c c':Ce):Bool:=stC c.2 c'.2
theorem O4:Bk iJ jB yX xU where
 sf:=λc b=>yW.sf c.2 b
 t1:=λc c'=>yW.t1 c.2 c'.2
 t2:=λc c'=>yW.t2 c.2 c'.2
 rf:=λc=>yW.rf c.2
 up:=λr c c'=>yW.up r.2 c.2 c'.2
 dn:=λr c c'=>yW.dn r.2 c.2 c'.2
def nN (rs:List Ru):List Re:=rs.map λr=>(0,r)
theorem YZ (rs:List Ru):(nN rs).map (·.2)=rs:=by unfold nN;rw[gb];exact List.map_id' rs
theorem O5:∀(l:List Re) (c:Ce),dJ iJ jB l c=dJ biR sdR (l.map (·.2)) c.2
 | [],_=>rfl
 |r::l,c=>by show(if biR r.2 c.2=true then _ else _)=(if biR r.2 c.2=true then _ else _);rw[O5 l c];rfl
theorem Jz (h:Cons biR sdR rs):Cons iJ jB (nN rs):=λr hr r' pH c h1 h2=>by obtain⟨a,ha,rfl⟩:=ba.mp hr;obtain⟨a',wM,rfl⟩:=ba.mp pH;exact h a ha a' wM c.2 h1 h2
abbrev En:=Str×Nat×Ru
abbrev bN:=List En×List (List Str)
def ho (o:Op)(b:Bool):List Str:=if b then[o.n]else[]
def tag (o:Op)(r:Re):En:=(o.n,r.1,r.2)
def kK (o:Op)(k:Nat)(x:bN)(es:List En)(b:Bool):bN:=(x.1++es,x.2.set k (x.2.getD k []++ho o b))
def fE (o:Op)(rs:List Ru)(k:Nat)(th:P)(x:bN):List bN:=
 match dJ biR sdR (rs++(x.1.filter λe=>decide (e.1=o.n)).map (·.2.2)) (dM o th (x.2.getD k []))with
 |some s=>[kK o k x [] s]
 |none=>[kK o k x [(o.n,k,sR (dM o th (x.2.getD k [])) true)] true,kK o k x [(o.n,k,sR (dM o th (x.2.getD k [])) false)] false]
def openK (o:Op)(rs:List Ru)(ts:List (P×Nat))(l:List bN):List bN:=ts.foldl (λl x=>l.flatMap (fE o rs x.2 x.1)) l
def jC (o:Op)(rs:List Ru)(ths:List P)(l:List bN):List bN:=openK o rs ths.zipIdx l
def fJ (o:Op):List (List Str)->List Bool->List (List Str)
 |w::hs,b::d=>(w++ho o b)::fJ o hs d
 |hs,[]=>hs
 | [],_::_=>[]
theorem yY (o:Op):∀(hs:List (List Str)) (d:List Bool),(fJ o hs d).length=hs.length
 | [],[]=>rfl
 | [],_::_=>rfl
 |_::_,[]=>rfl
 |_::hs,_::d=>congrArg (· +1) (yY o hs d)
theorem O6 (o:Op):∀(hs:List (List Str)) (d:List Bool) (k:Nat),d.length<=k->(fJ o hs d).getD k []=hs.getD k []
 | [],[],_,_=>rfl
 | [],_::_,_,_=>rfl
 |_::_,[],_,_=>rfl
 |w::hs,b::d,0,h=>by simp at h
 |w::hs,b::d,k+1,h=>by exact O6 o hs d k (by simpa using h)
theorem JA (o:Op):∀(hs:List (List Str)) (d:List Bool) (k:Nat) (hk:k<d.length),k<hs.length->(fJ o hs d).getD k []=hs.getD k []++ho o d[k]
 | [],_,_,_,h=>by cases h
 |_::_,[],_,h,_=>by cases h
 |w::hs,b::d,0,_,_=>rfl
 |w::hs,b::d,k+1,h,h'=>JA o hs d k (by simpa using h) (by simpa using h')
theorem O7 (o:Op)(b:Bool):∀(hs:List (List Str)) (d:List Bool),d.length<hs.length->fJ o hs (d++[b])=(fJ o hs d).set d.length ((fJ o hs d).getD d.length []++ho o b)
 | [],_,h=>by cases h
 |w::hs,[],_=>by cases hs<;>rfl
 |w::hs,c::d,h=>by show(w++ho o c)::fJ o hs (d++[b])=(w++ho o c)::(fJ o hs d).set d.length ((fJ o hs d).getD d.length []++ho o b);rw[O7 o b hs d (by simpa using h)]
section
variable {o:Op}{rs:List Ru}{es:List En}{hs:List (List Str)}
def stK (o:Op)(es:List En)(hs:List (List Str))(y:List Re×List Bool):bN:=(es++y.1.map (tag o),fJ o hs y.2)
theorem Y0 (hn:∀e∈es,e.1≠o.n)(l:List Re):((es++l.map (tag o)).filter λe=>decide (e.1=o.n)).map (λe:En=>e.2.2)=l.map (·.2):=by rw[g8,e9.mpr λe he=>by rw[decide_eq_true_iff];exact hn e he,List.nil_append,gw.mpr λe he=>by obtain⟨r,_,rfl⟩:=ba.mp he;exact x6 rfl,gb];rfl
theorem zmg (hn:∀e∈es,e.1≠o.n)(hk:y.2.length=k)(h:k<hs.length):
  fE o rs k th (stK o es hs y)=(sP iJ jB yX (nN rs) (k,dM o th (hs.getD k [])) y).map (stK o es hs):=by
 have e1:(stK o es hs y).2.getD k []=hs.getD k []:=O6 o hs y.2 k (by omega);have nw:∀(z:List Re) (b:Bool),kK o k (stK o es hs y) (z.map (tag o)) b=stK o es hs (y.1++z,y.2++[b]):=λz b=>by unfold kK stK;rw[O7 o b hs y.2 (by omega),hk,cj,ir]
 unfold fE sP;rw[e1,show(stK o es hs y).1=es++y.1.map (tag o)from rfl,Y0 hn,O5,cj,YZ];cases dJ biR sdR (rs++y.1.map (·.2)) (dM o th (hs.getD k []))with
 |some s=>show[kK o k (stK o es hs y) (([]:List Re).map (tag o)) s]=[_];rw[nw,dh]
 |none=>show[kK o k (stK o es hs y) ([yX (k,dM o th (hs.getD k [])) true].map (tag o)) true,kK o k (stK o es hs y) ([yX (k,dM o th (hs.getD k [])) false].map (tag o)) false]=[_,_];rw[nw,nw]
def sT (o:Op)(hs:List (List Str))(ts:List (P×Nat)):List Ce:=ts.map λx=>(x.2,dM o x.1 (hs.getD x.2 []))
theorem z7y (hn:∀e∈es,e.1≠o.n):∀(ts:List P) (k:Nat) (l:List (List Re×List Bool)),(∀y∈l,y.2.length=k)->k+ts.length<=hs.length->
  openK o rs (ts.zipIdx k) (l.map (stK o es hs))=((sT o hs (ts.zipIdx k)).foldl (λl c=>l.flatMap (sP iJ jB yX (nN rs) c)) l).map (stK o es hs)
 | [],_,_,_,_=>rfl
 |t::ts,k,l,hl,h=>by
  have hk:k<hs.length:=by rw[bt]at h;omega
  have e:(l.map (stK o es hs)).flatMap (fE o rs k t)=(l.flatMap (sP iJ jB yX (nN rs) (k,dM o t (hs.getD k [])))).map (stK o es hs):=by
   rw[List.flatMap_map,List.map_flatMap]
   induction l with
   |nil=>rfl
   |cons y l ih=>rw[jk,jk,ih λy hy=>hl y (.tail _ hy),zmg hn (hl y (.head _)) hk]
  show openK o rs (ts.zipIdx (k+1)) ((l.map (stK o es hs)).flatMap (fE o rs k t))=_;rw[e];refine z7y hn ts (k+1) _ (λy hy=>?_) (by rw[bt]at h;omega);obtain⟨z,hz,hy⟩:=kr.mp hy;have hz:=hl z hz;unfold sP at hy;cases hb:dJ iJ jB (nN rs++z.1) (k,dM o t (hs.getD k []))with
  |some s=>rw[hb]at hy;rw[ah.mp hy,bu,hz];rfl
  |none=>
   rw[hb]at hy;rcases ao.mp hy with rfl|hy
   ·rw[bu,hz];rfl
   ·rw[ah.mp hy,bu,hz];rfl
def okN (o:Op)(rs:List Ru)(ths:List P)(hs:List (List Str))(d:List Bool):Prop:=d.length=ths.length/\okR iJ jB xU (nN rs) (sT o hs ths.zipIdx) d
theorem Y1:∀(d:List Bool) (n:Nat),d.length=n->d∈bits n:=by
 intro d n h
 induction n generalizing d with
 |zero=>rw[ip.mp h];exact .head _
 |succ n ih=>
  obtain⟨e,b,rfl⟩:∃e b,d=e++[b]:=⟨d.dropLast,d.getLast (λz=>by rw[z]at h;cases h),(ny _).symm⟩;refine kr.mpr ⟨e,ih e (by rw[bu]at h;simpa using h),?_⟩;cases b
  ·exact .tail _ (.head _)
  ·exact .head _
theorem zbp (hc:Cons biR sdR rs)(hn:∀e∈es,e.1≠o.n)(hl:ths.length=hs.length):
  x∈jC o rs ths [(es,hs)]->∃(d:List Bool) (l:List Re),okN o rs ths hs d/\x=(es++l.map (tag o),fJ o hs d):=by
 intro hx;have e:=z7y (rs:=rs) (hs:=hs) hn ths 0 [([],[])] (λy hy=>by rw[ah.mp hy];rfl) (by omega);have e0:[([],[])].map (stK o es hs)=[(es,hs)]:=by show[(es++[],fJ o hs [])]=_;rw[dh];cases hs<;>rfl
 rw[e0]at e;unfold jC at hx;rw[e]at hx;have cl:(sT o hs ths.zipIdx).length=ths.length:=by unfold sT;rw[ae,i9]
 have r:=(zbg O4 (Jz hc) (λcs d=>@decide _ (Classical.propDecidable (okR iJ jB xU (nN rs) cs d))) (λcs d=>@decide_eq_true_iff _ (Classical.propDecidable _)) ths.length _ cl).1;unfold mW at r;rw[r,gb]at hx;obtain⟨d,hd,rfl⟩:=ba.mp hx;obtain⟨h1,h2⟩:=fm.mp hd;exact⟨d,_,⟨DX _ d h1,(@decide_eq_true_iff _ (Classical.propDecidable _)).mp h2⟩,rfl⟩
theorem zb7 (hc:Cons biR sdR rs)(hn:∀e∈es,e.1≠o.n)(hl:ths.length=hs.length)(h:okN o rs ths hs d):
  ∃l:List Re,(es++l.map (tag o),fJ o hs d)∈jC o rs ths [(es,hs)]:=by
 have e:=z7y (rs:=rs) (hs:=hs) hn ths 0 [([],[])] (λy hy=>by rw[ah.mp hy];rfl) (by omega);have e0:[([],[])].map (stK o es hs)=[(es,hs)]:=by show[(es++[],fJ o hs [])]=_;rw[dh];cases hs<;>rfl
 rw[e0]at e;have cl:(sT o hs ths.zipIdx).length=ths.length:=by unfold sT;rw[ae,i9]
 have r:=(zbg O4 (Jz hc) (λcs d=>@decide _ (Classical.propDecidable (okR iJ jB xU (nN rs) cs d))) (λcs d=>@decide_eq_true_iff _ (Classical.propDecidable _)) ths.length _ cl).1;unfold mW at r;unfold jC;rw[e,r,gb];exact⟨_,ba.mpr ⟨d,fm.mpr ⟨Y1 d _ h.1,(@decide_eq_true_iff _ (Classical.propDecidable _)).mpr h.2⟩,rfl⟩⟩
end
theorem O8 (o:Op)(rs:List Ru):∀(ts:List (P×Nat)) (l l':List bN),openK o rs ts (l++l')=openK o rs ts l++openK o rs ts l'
 | [],_,_=>rfl
 |t::ts,l,l'=>by show openK o rs ts ((l++l').flatMap _)=openK o rs ts (l.flatMap _)++openK o rs ts (l'.flatMap _);rw[ud,O8 o rs ts]
theorem JB:∀{l:List bN},x∈jC o rs ths l↔∃y∈l,x∈jC o rs ths [y]
 | []=>by
  have:∀ts:List (P×Nat),openK o rs ts []=[]:=λts=>by
   induction ts with
   |nil=>rfl
   |cons t ts ih=>exact ih
  unfold jC;rw[this];exact⟨λh=>(by cases h),λ⟨y,hy,_⟩=>(by cases hy)⟩
 |y::l=>by
  have e:jC o rs ths (y::l)=jC o rs ths [y]++jC o rs ths l:=O8 o rs _ [y] l;rw[e,ce,JB (l:=l)];constructor
  ·rintro(h|⟨z,hz,h⟩)
   ·exact⟨y,.head _,h⟩
   ·exact⟨z,.tail _ hz,h⟩
  ·rintro⟨z,hz,h⟩
   rcases ao.mp hz with rfl|hz
   ·exact .inl h
   ·exact .inr ⟨z,hz,h⟩
theorem Y2 (o:Op)(rs:List Ru)(k:Nat)(th:P)(x:bN):fE o rs k th x≠[]:=by unfold fE;split<;>exact λz=>by cases z
theorem JC:∀(ts:List (P×Nat)) {l:List bN},l≠[]->openK o rs ts l≠[]
 | [],_,h=>h
 |t::ts,l,h=>JC ts (l:=l.flatMap (fE o rs t.2 t.1)) λz=>by
  cases l with
  |nil=>exact h rfl
  |cons x l=>rw[jk,List.append_eq_nil_iff]at z;exact Y2 o rs t.2 t.1 x z.1
theorem O9 (h:okN o (rs++[r]) ths hs d):okN o rs ths hs d:=by
 refine⟨h.1,λp hp s e=>h.2.1 p hp s ?_,h.2.2⟩
 have:∀l l':List Re,∀c,dJ iJ jB l c=some s->dJ iJ jB (l++l') c=some s:=λl l' c h=>by
  induction l with
  |nil=>cases h
  |cons a l ih=>
   show(if iJ a c=true then some (jB a)else dJ iJ jB (l++l') c)=_;have h:(if iJ a c=true then some (jB a)else dJ iJ jB l c)=some s:=h;by_cases z:iJ a c=true
   ·rw[xu z]at h ⊢;exact h
   ·rw[xw z]at h ⊢;exact ih h
 unfold nN;rw[cj];exact this _ _ _ e
open PySem.Spec PyProof.Rows L2
namespace L67
abbrev i1 (k:Int):W:=.bG (.int k)
abbrev a2 (a b:W):W:=.cons a (.cons b .nil)
abbrev a3 (a b c:W):W:=.cons a (a2 b c)
abbrev a4 (a b c d:W):W:=.cons a (a3 b c d)
abbrev O':W:=.lc 1 [] ["words"] (.nm 0) false (.ix (.raw 0) (i1 1)) .nil (.DL (.raw 0))
def ct:WS:=.seq (.asg 4 O') (.seq (.ext (.qB (.raw 4) (.raw 2)) (.raw 3)) (.seq (.ret (.tup (.cons (.bG (.bin .Add (.ix (.var 0) (.int 0)) (.var 1))) (.cons (.raw 4) .nil)))) .nil))
abbrev Pa:C:=.call 1 "binding" (.cons (.bin .Add (.var 1) (.comp 1 [5] ["entry","name"] (.nm 0) (.tv (.ix (.var 4) (.int 0))) (.tv (.cmp .Eq (.ix (.var 0) (.int 0)) (.var 1))) (.ix (.var 0) (.int 2)))) (.cons (.var 6) .nil))
abbrev Pb (s:Str):W:=.bG (.lst (.cons (.tup (.cons (.var 5) (.cons (.var 2) (.cons (.call 0 "fullest" (.cons (.var 6) (.cons (.str s) .nil))) .nil)))) .nil))
abbrev JD (e n:W):W:=.eZ 0 (a4 (.raw 4) e (.raw 2) n)
def wy:WS:=.seq (.asg 5 (.bG (.ix (.var 0) (.int 1)))) (.seq (.asg 6 (.bG (.call 2 "case_of" (.cons (.var 0) (.cons (.var 3) (.cons (.ix (.ix (.var 4) (.int 1)) (.var 2)) .nil))))))
 (.seq (.asg 7 (.bG Pa))
 (.seq (.bI (.ti true (.raw 7)) (.seq (.ret (.lst (.cons (JD (.bG (.lst .nil)) (.bG (.oJ (.tv (.cmp .Eq (.ix (.var 7) (.int 0)) (.str "for"))) (.lst (.cons (.var 5) .nil)) (.lst .nil)))) .nil))) .nil) .nil)
 (.seq (.ret (.lst (a2 (JD (Pb "for") (.bG (.lst (.cons (.var 5) .nil)))) (JD (Pb "against") (.bG (.lst .nil)))))) .nil))))
abbrev Y3:WS:=.seq (.iZ 7 (.raw 3) (.seq (.ext (.raw 6) (.eZ 0 (.cons (.raw 0) (a4 (.raw 1) (.raw 4) (.raw 5) (.raw 7))))) .nil)) (.seq (.asg 3 (.raw 6)) .nil)
def wo:WS:=.seq (.bA (.tp [4,5]) (.enum (.var 2)) (.seq (.asg 6 (.lst .nil)) Y3)) (.seq (.ret (.raw 3)) .nil)
abbrev kn:C:=.comp 1 [0] ["thing","act"] (.nm 0) (.tv (.var 2)) .nil (.call 0 "of_facts" (.cons (.var 1) (.cons (.var 0) .nil)))
abbrev Y4:W:=.eZ 0 (a4 (.raw 5) (.bG (.mt "get" (.var 1) (.cons (.ix (.var 5) (.int 1)) (.cons (.lst .nil) .nil)))) (.raw 3) (.raw 4))
def rg:WS:=.seq (.bI (.tc .Gt (.bG (.call 1 "open_uses" (.cons (.var 0) (.cons (.bi "len" (.cons (.var 2) .nil)) .nil)))) (.gi 0)) (.seq (.yQ .bad) .nil) .nil)
 (.seq (.asg 3 (.bG kn))
 (.seq (.asg 4 (.lst (.cons (.tup (a2 (.lst .nil) (.bG (.comp 1 [] ["thing"] (.nm 0) (.tv (.var 3)) .nil (.lst .nil))))) .nil)))
 (.seq (.kI (.nm 5) (.raw 0) (.seq (.bI (.tp (.tv (.cmp .Eq (.ix (.var 5) (.int 0)) (.str "word")))) (.seq (.yQ .bad) .nil) (.seq (.bI (.tp (.tv (.cmp .Eq (.ix (.var 5) (.int 0)) (.str "open")))) (.seq (.asg 4 Y4) .nil) .nil) .nil)) .nil))
 (.seq (.ret (.raw 4)) .nil))))
abbrev D7 (s:Str)(x:W):WS:=.seq (.ret (.tup (a2 (.bG (.str s)) x))) .nil
abbrev Y5:WS:=.seq (.bI (.tp (.tv (.call 1 "so" (.cons (.var 4) (.cons (.var 5) (.cons (.ix (.var 8) (.int 1)) .nil)))))) (.seq (.app (.raw 6) (.raw 8)) .nil) (.seq (.app (.raw 7) (.raw 8)) .nil)) .nil
abbrev xU:WS:=.seq (.bI (.tp (.tv (.cmp .Eq (.var 7) (.lst .nil)))) (D7 "must" (.lst .nil)) .nil) (.seq (.bI (.tp (.tv (.cmp .Eq (.var 6) (.lst .nil)))) (D7 "never" (.lst .nil)) .nil) (D7 "open" (.lst (a2 (.qB (.raw 6) (i1 0)) (.qB (.raw 7) (i1 0))))))
def st:WS:=.seq (.asg 4 (.bG (.call 2 "asking_of" (.cons (.var 0) (.cons (.var 3) .nil))))) (.seq (.asg 5 (.bG kn)) (.seq (.asg 6 (.lst .nil)) (.seq (.asg 7 (.lst .nil)) (.seq (.iZ 8 (.eZ 0 (a3 (.raw 0) (.raw 1) (.raw 2))) Y5) xU))))
def dn:WS:=.seq (.bI (.tp (.tv (.var 1))) (.seq (.ret (.lst (a2 (.ab (.raw 0)) (i1 0)))) .nil) .nil) (.seq (.ret (.lst (a2 (.bG (.bin .Mod (.var 0) (.int 2147483629))) (i1 1)))) .nil)
def dr:WS:=.seq (.asg 2 (.bG (.ix (.var 0) (.int 0))))
 (.seq (.bI (.tp (.tv (.cmp .Eq (.ix (.var 0) (.int 1)) (.int 0)))) (.seq (.put (.raw 0) (i1 0) (.bG (.bin .FloorDiv (.var 2) (.var 1)))) (.seq (.ret (.bG (.bin .Mod (.var 2) (.var 1)))) .nil)) .nil)
 (.seq (.put (.raw 0) (i1 0) (.bG (.bin .Mod (.bin .Add (.bin .Mult (.var 2) (.int 69621)) (.int 48271)) (.int 2147483629))))
 (.seq (.ret (.bG (.bin .Mod (.bin .FloorDiv (.bin .Mod (.bin .Mult (.ix (.var 0) (.int 0)) (.int 16807)) (.int 2147483647)) (.int 64)) (.var 1)))) .nil)))
abbrev big:C:=.bin .Add (.bin .Pow (.int 10) (.int 30)) (.int 1)
abbrev dw (n:W):W:=.eZ 0 (a2 (.raw 0) n)
def cn:WS:=.seq (.bI (.BE (.tp (.tv (.var 1))) (.tc .Eq (dw (i1 2)) (i1 0))) (.seq (.ret (dw (i1 3))) .nil) .nil)
 (.seq (.bI (.tp (.tv (.cmp .Eq (.ix (.var 0) (.int 1)) (.int 0)))) (.seq (.ret (dw (.bG big))) .nil) .nil)
 (.seq (.asg 2 (i1 0)) (.seq (.bA (.nm 3) (.jY (.cons (.int 4) .nil)) (.seq (.asg 2 (.bin .Add (.bG (.bin .Mult (.var 2) (.int 100000007))) (dw (i1 33554432)))) .nil))
 (.seq (.ret (.bG (.bin .Mod (.var 2) big))) .nil))))
abbrev Y6:WS:=.seq (.asg 5 (.eZ 0 (a2 (.raw 1) (.raw 2)))) (.seq (.bI (.tp (.and (.tv (.cmp .Gt (.var 5) (.int 0))) (.tv (.cmp .Eq (.ix (.var 4) (.int 0)) (.str "w"))))) (.seq (.asg 5 (i1 1)) .nil) .nil) (.seq (.bI (.tp (.tv (.cmp .Gt (.var 5) (.int 0)))) (.seq (.app (.raw 3) (.bG (.tup (.cons (.var 4) (.cons (.var 5) .nil))))) .nil) .nil) .nil))
def pc:WS:=.seq (.asg 3 (.lst .nil)) (.seq (.kI (.nm 4) (.raw 0) Y6) (.seq (.ret (.bG (.iF "tuple" (.tv (.var 3))))) .nil))
abbrev Cb (k:Int):W:=.eZ 1 (a3 (.bG (.iF "sorted" (.tv (.ix (.var 1) (.int k))))) (.raw 0) (.raw 2))
abbrev Y7:W:=.lc 1 [0] ["_law_pair","_law_drawn_here"] (.nm 0) false (.bG (.ix (.var 4) (.var 6))) (.tc .Eq (.eZ 0 (a2 (.raw 1) (i1 2))) (i1 0)) (.raw 0)
abbrev JE:WS:=.seq (.asg 6 (dw (i1 2))) (.seq (.asg 7 (.bG (.ix (.var 4) (.var 6)))) (.seq (.bI (.tc .Eq (dw (i1 2)) (i1 0)) (.seq (.asg 7 (.BF Y7)) .nil) .nil) (.seq (.ret (.bG (.tup (.cons (.var 4) (.cons (.ix (.lst (.cons (.str "for") (.cons (.str "against") .nil))) (.var 6)) (.cons (.var 7) .nil)))))) .nil)))
def rl:WS:=.seq (.bI (.mS (.tp (.tv (.cmp .Eq (.ix (.var 1) (.int 1)) (.str "wopen")))) (.tc .Eq (dw (i1 3)) (i1 0)))
 (.seq (.asg 4 (.ix (.raw 3) (dw (.bG (.bi "len" (.cons (.var 3) .nil)))))) .nil)
 (.seq (.asg 5 (Cb 2)) (.seq (.asg 4 (.tup (a2 (.raw 5) (Cb 3)))) .nil))) JE
def nw:WS:=.seq (.asg 3 (.lc 1 [0,1,2] ["_law_name","_law_rows_here","_law_books","_law_things"] (.nm 0) false (.bG (.lst (.cons (.str "ca") (.cons (.str "cb") .nil)))) .nil (.qB (.eZ 1 (a4 (.raw 1) (.raw 2) (.raw 3) (.raw 0))) (i1 0)))) (.seq (.ret (.lst (a2 (.lc 1 [] ["_law_reading"] (.nm 0) false (.eZ 0 (a3 (.raw 0) (.raw 1) (.raw 2))) .nil (.qB (.raw 0) (i1 1))) (.raw 3)))) .nil)
abbrev rF:WS:=.seq (.ret (.bG (.bl false))) .nil
abbrev ca (k:Int):C:=.call 4 "_law_cell_at" (.cons (.var 0) (.cons (.int k) .nil))
abbrev now:W:=.eZ 0 (a3 (.raw 3) (.raw 7) (.raw 4))
abbrev Pc:WS:=.bA (.nm 5) (.jY (.cons (.bin .Add (.int 1) (.bin .Mod (.bin .FloorDiv (ca 0) (.int 3)) (.int 2))) .nil)) (.seq (.app (.raw 4) (.eZ 4 (a3 (.bG (.lst (.cons (.str "fa") (.cons (.str "fb") (.cons (.str "fc") .nil))))) (.eZ 3 (a2 (.bG (.call 4 "_law_cell_at" (.cons (.var 0) (.cons (.bin .Add (.int 3) (.var 5)) .nil)))) (.raw 2))) (.raw 1)))) .nil)
abbrev r1:C:=.ix (.var 11) (.int 1)
abbrev Y8:W:=.tp (.tv (.cmp .NotIn (.bl true) (.comp 1 [12] ["_law_two","_law_one"] (.nm 0) (.tv (.ix (.var 7) r1)) .nil (.call 0 "_law_against" (.cons (.var 1) (.cons (.var 0) .nil))))))
abbrev Pd:WS:=.seq (.put (.raw 7) (.bG r1) (.bG (.bin .Add (.ix (.var 7) r1) (.lst (.cons (.var 12) .nil))))) (.seq (.asg 13 (.raw 8)) (.seq (.asg 8 now)
 (.seq (.bI (.not (.tp (.tv (.call 2 "_law_kept" (.cons (.var 13) (.cons (.var 8) .nil)))))) rF .nil)
 (.seq (.bI (.mS (.tp (.tv (.cmp .Eq r1 (.str "wopen")))) (.not (.tp (.tv (.call 1 "_law_said" (.cons (.var 12) (.cons (.var 6) (.cons (.var 8) .nil)))))))) rF .nil) .nil))))
abbrev Pe:WS:=.seq (.asg 10 (.eZ 3 (a2 (.raw 9) (.raw 2)))) (.seq (.asg 11 (.ix (.raw 3) (.bin .Add (i1 3) (.eZ 2 (a2 (.raw 10) (i1 2)))))) (.seq (.asg 12 (.eZ 1 (a4 (.raw 10) (.raw 11) (.raw 1) (.raw 6)))) (.seq (.bI Y8 Pd .nil) .nil)))
abbrev Y9:WS:=.bA (.nm 9) (.tv (.sl (.var 0) (.tv (.int 5)) (.tv (.int 15)))) Pe
def lw:WS:=.seq (.asg 1 (.bG (.cmp .Gt (.bin .Mod (ca 0) (.int 3)) (.int 0)))) (.seq (.asg 2 (.bG (.cmp .Eq (.bin .Mod (ca 2) (.int 2)) (.int 1))))
 (.seq (.asg 3 (.eZ 5 (.cons (.eZ 2 (a2 (.eZ 3 (a2 (.bG (ca 1)) (.raw 2))) (i1 2))) .nil)))
 (.seq (.asg 4 (.lst .nil)) (.seq Pc (.seq (.asg 6 (.bG (.call 3 "_law_cases" (.cons (.var 4) .nil))))
 (.seq (.asg 7 (.DM "wopen" "wrude" (.lst .nil) (.lst .nil))) (.seq (.asg 8 now) (.seq Y9 (.seq (.ret (.bG (.bl true))) .nil)))))))))
end L67
def dN (H:Hp):List Addr->List (List Str)->Prop
 | [],[]=>True
 |w::ws,x::xs=>H w=some (.lst (x.map V.str))/\dN H ws xs
 |_,_=>False
theorem dN.len:∀{ws:List Addr} {xs:List (List Str)},dN H ws xs->ws.length=xs.length
 | [],[],_=>rfl
 |_::_,_::_,h=>congrArg (· +1) (dN.len h.2)
theorem dN.keep:∀{ws:List Addr} {xs:List (List Str)},dN H ws xs->(∀w∈ws,∀o,H w=some o->H' w=some o)->dN H' ws xs
 | [],[],_,_=>trivial
 |w::ws,_::_,h,k=>⟨k w (.head _) _ h.1,dN.keep h.2 λv hv=>k v (.tail _ hv)⟩
theorem dN.app:∀{ws:List Addr} {xs:List (List Str)},dN H ws xs->H w=some (.lst (x.map V.str))->dN H (ws++[w]) (xs++[x])
 | [],[],_,h=>⟨h,trivial⟩
 |_::_,_::_,h,k=>⟨h.1,dN.app h.2 k⟩
theorem dN.there:∀{ws:List Addr} {xs:List (List Str)},dN H ws xs->∀w∈ws,∃l,H w=some (.lst l)
 | [],[],_,_,h=>by cases h
 |w::ws,x::xs,h,v,hv=>by
  rcases ao.mp hv with rfl|hv
  ·exact⟨_,h.1⟩
  ·exact dN.there h.2 v hv
theorem dN.set:∀{ws:List Addr} {xs:List (List Str)},dN H ws xs->ws.Nodup->∀w,ws[k]?=some w->dN (upd H w (.lst (y.map V.str))) ws (xs.set k y)
 | [],[],_,_,_,e=>by cases e
 |w::ws,x::xs,h,nd,v,e=>by
  obtain⟨n1,n2⟩:=cr.mp nd;cases k with
  |zero=>cases e;exact⟨aW,dN.keep h.2 λu hu o e=>by rw[aC (λz=>by rw[z]at hu;exact n1 hu)];exact e⟩
  |succ k=>have e:ws[k]?=some v:=e;have hv:=b0 e;exact⟨by rw[aC (λz=>by rw[<-z]at hv;exact n1 hv)];exact h.1,dN.set h.2 n2 v e⟩
theorem dN.at {k:Nat}:∀{ws:List Addr} {xs:List (List Str)},dN H ws xs->∀w,ws[k]?=some w->∃x,xs[k]?=some x/\H w=some (.lst (x.map V.str))
 | [],[],_,_,e=>by cases e
 |w::ws,x::xs,h,v,e=>by
  cases k with
  |zero=>cases e;exact⟨x,rfl,h.1⟩
  |succ k=>exact dN.at h.2 v e
def fQ (x:List Str):D:=.list (x.map .str)
def D8 (hs:List (List Str)):Prop:=∀x∈hs,∀s∈x,PyData.strOk s=true
theorem Pf {K:W.Frag}:∀{x:List Str},(∀s∈x,PyData.strOk s=true)->Reps K H B (x.map V.str) (x.map .str)
 | [],_=>rfl
 |s::x,h=>⟨.str s,x.map V.str,rfl,⟨rfl,h s (.head _)⟩,Pf λt ht=>h t (.tail _ ht)⟩
theorem zqv {K:W.Frag}{α:Type}{L:List α}{e:α->D}{f:α->List Str}{g:TG}{tc:TT}{te:TE}{em:L2.St->L2.St}{Q:VK}(wk:Walk K J B H1 (L.map e))
  (one:∀a∈L,∀(v:V) (H3:Hp) (N:Hp->Prop) (M:VK),Same H1 H3->Rep K H3 B v (e a)->(∀p H',Same H3 H'->H3 p=none->H' p=some (.lst ((f a).map V.str))->M (.ref p) H')->g v (em U) H3 λbM H4=>eE (em U) bM/\tc bM H4 λb H5=>if b=true then te bM H5 M else N H5)
  (q:∀l ws H',H1 l=none->Same H1 H'->H' l=some (.lst (ws.map .ref))->(∀w∈ws,H1 w=none)->(l::ws).Nodup->dN H' ws (L.map f)->Q (.ref l) H'):
  ∀l,H1 l=none->∃P:Nat->Nat->List V->Hp->Prop,(∃m,P 0 m [] (upd H1 l (.lst [])))/\∀i m acc H2,P i m acc H2->(J.stop i H2/\Q (.ref l) H2)\/(J.go i H2/\acc.length<bc/\∃N:List V->Hp->Prop,(∀acc' H',N acc' H'->∃m',m'<m/\P (i+1) m' acc' H')/\∀x H3,J.fU i H2 x H3->g x (em U) H3 λbM H4=>eE (em U) bM/\tc bM H4 λb H5=>if b=true then te bM H5 λy H6=>H6 l=some (.lst acc)/\N (acc++[y]) (upd H6 l (.lst (acc++[y])))else N acc H5):=by
 intro l hl
 let P:Nat->Nat->List V->Hp->Prop:=λi m acc H2=>m=L.length-i/\i<=L.length/\Same H1 H2/\H2 l=some (.lst acc)/\∃ws:List Addr,acc=ws.map .ref/\(∀w∈ws,H1 w=none)/\(l::ws).Nodup/\dN H2 ws ((L.take i).map f)
 refine⟨P,⟨_,rfl,bw _,Same.upd hl,aW,[],rfl,(λ_ h=>by cases h),cr.mpr ⟨(λz=>by cases z),jq⟩,trivial⟩,?_⟩
 rintro i m acc H2 ⟨rfl,hi,s2,fY,ws,rfl,wn,nd,hw⟩
 have ll:(L.map e).length=L.length:=ae ..;by_cases bF:i<L.length
 ·have hal:(ws.map V.ref).length<bc:=by
   have h1:=hw.len;have h2:=wk.len;rw[ae,gf]at h1;rw[ae];omega
  have tk:L.take (i+1)=L.take i++[L[i]]:=by rw[ja,ak bF];rfl
  refine .inr ⟨wk.go H2 (Kp.of s2) i (by rw[ll];exact bF),hal,P (i+1) (L.length-(i+1)),λacc' H' w=>⟨_,by omega,w⟩,λx H3 hy=>?_⟩;obtain⟨s3,d,hd,rx⟩:=wk.fU H2 (Kp.of s2) i x H3 (by rw[ll];exact bF) hy;rw[az,ak bF]at hd;cases hd;refine one L[i] (d9 bF) x H3 _ _ (s2.trans s3) rx λp H' s4 hp ep=>?_;have Cd:=s4 _ _ (s3 _ _ fY);have pl:p≠l:=λz=>by rw[z,s3 _ _ fY]at hp;cases hp
  have pw:∀w∈ws,w≠p:=λw h z=>by obtain⟨y,ey⟩:=hw.there w h;rw[<-z,s3 _ _ ey]at hp;cases hp
  obtain⟨n1,n2⟩:=cr.mp nd;refine⟨Cd,rfl,bF,λb o eb=>?_,aW,ws++[p],by rw[cj];rfl,λw h=>?_,?_,?_⟩
  ·rw[aC (cQ eb hl)];exact s4 b o (s3 b o (s2 b o eb))
  ·rcases ce.mp h with h|h
   ·exact wn w h
   ·rw[ah.mp h];exact(s2.trans s3).none hp
  ·rw[<-List.cons_append]
   exact pp.mpr ⟨nd,cr.mpr ⟨(λz=>by cases z),jq⟩,λa ha b hb=>by
    rw[ah.mp hb];rcases ao.mp ha with rfl|ha
    ·exact λz=>pl z.symm
    ·exact pw a ha⟩
  ·rw[tk,cj];refine dN.app (dN.keep hw λw h o e=>?_) ?_
   ·rw[aC (λz=>by rw[z]at h;exact n1 h)];exact s4 _ _ (s3 _ _ e)
   ·rw[aC pl];exact ep
 ·have rK:i=L.length:=by omega
  subst rK;refine .inl ⟨by rw[<-ll];exact wk.stop H2 (Kp.of s2),q l ws H2 hl s2 fY wn nd ?_⟩;rw[km]at hw;exact hw
inductive Sl (K:W.Frag)(H:Hp):L2.St->Rho->Prop where
 |nil:Sl K H [] []
 |no {o:Option V} {U:L2.St} {Y:Rho} (t:Sl K H U Y):Sl K H (o::U) (none::Y)
 |da {v:V} {d:D} {B:Ad->Prop} {U:L2.St} {Y:Rho} (r:Rep K H B v d) (t:Sl K H U Y):Sl K H (some v::U) (some (.od,d)::Y)
theorem Sl.len {K:W.Frag}(s:Sl K H U Y):U.length=Y.length:=by
 induction s with
 |nil=>rfl
 |no t ih=>rw[bt,bt,ih]
 |da r t ih=>rw[bt,bt,ih]
theorem Sl.at {K:W.Frag}(s:Sl K H U Y):∀(i:Nat) g d,Y[i]?=some (some (g,d))->g=G.od/\∃v B,U[i]?=some (some v)/\Rep K H B v d:=by
 induction s with
 |nil=>intro i g d e;cases e
 |no t ih=>
  intro i g d e;cases i with
  |zero=>cases e
  |succ i=>exact ih i g d e
 |da r t ih=>
  intro i g d e;cases i with
  |zero=>cases e;exact⟨rfl,_,_,rfl,r⟩
  |succ i=>exact ih i g d e
theorem Sl.so {K:W.Frag}(s:Sl K H U Y):StOk K (F0 H) H U Y:=DO s.len s.at
theorem Cf {K:W.Frag}(tl:L2.St):Sl K H tl (bv tl.length none):=by
 induction tl with
 |nil=>exact .nil
 |cons o tl ih=>exact .no ih
theorem cP (hκ:Z.Κ=[])(hφ:Z.Φ=Φ)(s:Sl Z.K H U Y)(e:Ev [] Φ c Y d)(q:∀v H',Same H H'->Rep Z.K H' AnyB v d->Q v H'):wE Z (.bG c) U H Q:=by obtain⟨g',e⟩:=e;exact Yf s.so (by rw[hκ,hφ];exact e) q
theorem iK (hκ:Z.Κ=[])(hφ:Z.Φ=Φ)(s:Sl Z.K H U Y)(e:Tt [] Φ c Y b)(q:∀H',Same H H'->R b H'):wT Z (.tp c) U H R:=Yg s.so (by rw[hκ,hφ];exact e) q
theorem Sl.nO {K:W.Frag}(t:Sl K H U Y):Sl K H (some (.int i)::U) (some (.od,.int i)::Y):=.da (B:=AnyB) (d:=.int i) rfl t
theorem z9y (I:Addr->Nat->L2.St->Hp->Prop)(hit:∀R:VK,(∀a H1,SqL Z.K H1 a vs->I a 0 U H1->R (.ref a) H1)->wE Z it U H R)(sq:∀a k σ' H',I a k σ' H'->SqL Z.K H' a vs)
  (one:∀a k v σ' H',vs[k]?=some v->I a k σ' H'->∀D2:Ends,D2.rt=D0.rt->(∀eD H3,I a (k+1) eD H3->D2.nx eD H3)->tDG Z.K (.nm i) v σ' H' (wS Z b D2)) (q:∀a σ' H',I a vs.length σ' H'->D0.nx σ' H'):wS Z (.kI (.nm i) it b) D0 U H:=by
 refine hit _ λa H1 h1 i1=>⟨a,rfl,⟨vs,h1⟩,λk m σ' H'=>m=vs.length-k/\k<=vs.length/\I a k σ' H',⟨_,rfl,bw _,i1⟩,?_⟩
 rintro k m σ' H' ⟨rfl,hk,ik⟩
 have hs:=sq a k σ' H' ik;by_cases bF:k<vs.length
 ·refine .inr ⟨⟨vs,vs[k],hs,ak bF⟩,λiE H2=>vs.length-(k+1)=vs.length-(k+1)/\k+1<=vs.length/\I a (k+1) iE H2,λiE H2 w=>⟨_,by omega,w⟩,λy H2 hy=>?_⟩;obtain⟨e2,hy⟩:=hy;have hy:=hy _ hs;rw[e2];exact one a k y σ' H' hy ik _ rfl λeD H3 w=>⟨rfl,bF,w⟩
 ·have :k=vs.length:=by omega
  subst this;exact .inl ⟨⟨vs,hs,ag _⟩,q a σ' H' ik⟩
theorem SqL.same {K:W.Frag}(h:SqL K H a vs)(s:Same H H'):SqL K H' a vs:=by
 rcases h with(h|⟨o,h⟩)|h
 ·exact .inl (.inl (s _ _ h))
 ·exact .inl (.inr ⟨o,s _ _ h⟩)
 ·exact .inr h
theorem Pg {U:L2.St}(hl:σ'.length=U.length)(e:σ'[i]?=some (some w))(r:∀j,j≠i->σ'[j]?=U[j]?):σ'=U.set i (some w):=by
 refine wf λj=>?_;by_cases hj:j=i
 ·subst hj;rw[e,fz (hl▸(bp.mp e).1)]
 ·rw[r j hj,d8 (Ne.symm hj)]
theorem Cg {K:W.Frag}(r:Rep K H B v d)(hi:i<U.length)(q:∀w,Rep K H AnyB w d->Q (U.set i (some w)) H):tDG K (.nm i) v U H Q:=zfb r hi λσ' w hl e r' rest=>by rw[Pg hl e rest];exact q w r'
section
variable {Z:Wc}{Φ:List Fn}{D0:Ends}{U:L2.St}{Y:Rho}{H:Hp}{t:Tg}{it:C}{b:WS}{g:G}{ds:List D}
theorem zeq (hκ:Z.Κ=[])(hφ:Z.Φ=Φ)(sl:Sl Z.K H U Y)(ev:evW [] Φ it Y=.ok (g,ds))(M:Hp->Hp->Prop)(m0:∀H1,M H1 H1)(m2:∀H1 H2 H3,M H1 H2->M H2 H3->M H1 H3)(ms:∀H1 H2,Same H1 H2->M H1 H2)
  (mk:∀H1 H2,Same H H1->M H1 H2->∀b o,H1 b=some o->(BG (F0 H) H g (some b)/\¬nw H1 (some b)\/Fix o)->H2 b=some o) (I:Nat->L2.St->Hp->Prop) (i0:∀H1,Same H H1->I 0 U H1)
  (one:∀k y d σ' H' H2 D2,ds[k]?=some d->I k σ' H'->Same H' H2->Rep Z.K H2 AnyB y d->D2.rt=D0.rt->(∀eD H3,I (k+1) eD H3->M H' H3->D2.nx eD H3)->tDG Z.K t y σ' H2 (wS Z b D2))
  (q:∀σ' H',I ds.length σ' H'->D0.nx σ' H'):wS Z (.bA t it b) D0 U H:=by
 refine⟨Y,F0 H,(g,ds),sl.so,by rw[hκ,hφ];exact ev,λJ B H1 s1 hB wk=>?_⟩;have kp:∀H',M H1 H'->Kp B H1 H':=λH' m b o e z=>mk H1 H' s1 m b o e (z.imp (λz=>hB _ z) id);refine⟨λk n σ' H'=>n=ds.length-k/\k<=ds.length/\M H1 H'/\I k σ' H',⟨_,rfl,bw _,m0 _,i0 H1 s1⟩,?_⟩
 rintro k n σ' H' ⟨rfl,hk,m',i'⟩
 by_cases bF:k<ds.length
 ·refine .inr ⟨wk.go H' (kp _ m') k bF,λiE H2=>k+1<=ds.length/\M H1 H2/\I (k+1) iE H2,λiE H2 w=>⟨ds.length-(k+1),by omega,rfl,w⟩,λy H2 hy=>?_⟩;obtain⟨s2,d,e,r⟩:=wk.fU H' (kp _ m') k y H2 bF hy;exact one k y d σ' H' H2 _ e i' s2 (r.weak λ_ _=>trivial) rfl λeD H3 i3 m3=>⟨bF,m2 _ _ _ m' m3,i3⟩
 ·have rK:k=ds.length:=by omega
  subst rK;exact .inl ⟨wk.stop H' (kp _ m'),q σ' H' i'⟩
theorem zjn (hκ:Z.Κ=[])(hφ:Z.Φ=Φ)(sl:Sl Z.K H U Y)(ev:evW [] Φ it Y=.ok (g,ds))(I:Nat->L2.St->Hp->Prop)(i0:∀H1,Same H H1->I 0 U H1)
  (one:∀k y d σ' H' H2 D2,ds[k]?=some d->I k σ' H'->Same H' H2->Rep Z.K H2 AnyB y d->D2.rt=D0.rt->(∀eD H3,I (k+1) eD H3->Same H' H3->D2.nx eD H3)->tDG Z.K t y σ' H2 (wS Z b D2))
  (q:∀σ' H',I ds.length σ' H'->D0.nx σ' H'):wS Z (.bA t it b) D0 U H:=
 zeq hκ hφ sl ev Same Same.refl (λ_ _ _=>Same.trans) (λ_ _ h=>h) (λH1 H2 _ m b o e _=>m b o e) I i0 one q
theorem z83 (hκ:Z.Κ=[])(hφ:Z.Φ=Φ)(sl:Sl Z.K H U Y)(ev:evW [] Φ it Y=.ok (.fr,ds))(T:Addr->Prop)(hT:∀b,T b->∃o,H b=some o/\¬Fix o)(I:Nat->L2.St->Hp->Prop)(i0:∀H1,Same H H1->I 0 U H1)
  (one:∀k y d σ' H' H2 D2,ds[k]?=some d->I k σ' H'->Same H' H2->Rep Z.K H2 AnyB y d->D2.rt=D0.rt->(∀eD H3,I (k+1) eD H3->(∀b o,¬T b->H' b=some o->H3 b=some o)->D2.nx eD H3)->tDG Z.K t y σ' H2 (wS Z b D2))
  (q:∀σ' H',I ds.length σ' H'->D0.nx σ' H'):wS Z (.bA t it b) D0 U H:=
 zeq hκ hφ sl ev (λH1 H2=>∀b o,¬T b->H1 b=some o->H2 b=some o) (λ_ _ _ _ e=>e) (λ_ _ _ m1 m2 b o n e=>m2 b o n (m1 b o n e)) (λ_ _ s b o _ e=>s b o e) (λH1 H2 s m b o e z=>m b o (λw=>by
  obtain⟨o',e',nf⟩:=hT b w;have e1:=s b o' e';rw[e]at e1;cases e1;rcases z with z|z
  ·have z1:nw H (some b):=z.1;have:H b=none:=z1;rw[this]at e';cases e'
  ·exact nf z) e) I i0 one q
end
theorem D9 (hl:σ'.length=(none::τ).length)(h:∀k,k≠0->σ'[k]?=(none::τ)[k]?):eE (none::τ) σ':=⟨hl.symm,λi v e=>by rw[h i (by rintro rfl;cases e)];exact e⟩
theorem Ea {K:W.Frag}:∀{xs:List Str} {vs:List V},Reps K H B vs (xs.map PyData.str)->vs=xs.map V.str/\∀s∈xs,PyData.strOk s=true
 | [],vs,r=>⟨r,λ_ h=>nomatch h⟩
 |s::xs,vs,r=>by obtain⟨v,t,rfl,⟨rfl,ok⟩,r⟩:=r;obtain⟨rfl,h⟩:=Ea r;exact⟨rfl,λu hu=>(ao.mp hu).elim (λe=>e▸ok) (h u)⟩
theorem cJ (q:wE Z e U H λv H1=>wS Z b D0 (U.set i (some v)) H1):wS Z (.seq (.asg i e) b) D0 U H:=q
theorem cK (q:wS Z a {D0 with nx:=wS Z b D0} U H):wS Z (.seq a b) D0 U H:=q
theorem fZ (q:wT Z c U H λk H1=>if k=true then wS Z a D0 U H1 else wS Z b D0 U H1):wS Z (.bI c a b) D0 U H:=q
theorem jD (q:wE Z e U H D0.rt):wS Z (.seq (.ret e) b) D0 U H:=q
theorem cL (Z:Wc)(q:D0.nx U H):wS Z .nil D0 U H:=q
def eK (e:En):D:=.tuple [.str e.1,.int e.2.1,ruD e.2.2]
theorem Ph (e:En):aP (eK e)=true:=by show imms [.str e.1,.int e.2.1,ruD e.2.2]=true;rw[imms,imms,imms,imms,pI];rfl
def rdD (x:bN):D:=.tuple [.list (x.1.map eK),.list (x.2.map fQ)]
theorem Y' (o:List En):imms (o.map eK)=true:=B7 Ph o
theorem Pj (q:wE Z o U H λx H1=>tyV Z.K "list" x H1/\wE Z v U H1 λy H2=>CO x [y] H2 λ_ H3=>D0.nx U H3):wS Z (.ext o v) D0 U H:=q
theorem Pk {K:W.Frag}{k:Nat}(h:H p=some (.lst xs))(e:xs[k]?=some v)(hk:k<1000)(q:Q v H):vH K (.ref p) (.int k) H Q:=.inl ⟨p,xs,k,v,rfl,rfl,SqL.of h,by unfold L2.dF L2.jU;have:k<xs.length:=(bp.mp e).1;rw[xu (by omega),xu (by omega)];rw[j4];exact e,q⟩
theorem JF (so:StOk Z.K (F0 H) H U Y)(e:aG Z.Κ Z.Φ c Y=.ok (.fr,d))(q:∀v H',Same H H'->Rep Z.K H' (nw H) v d->Q v H'):wE Z (.bG c) U H Q:=⟨Y,F0 H,(.fr,d),so,e,q⟩
theorem JG {K:W.Frag}(r:Rep K H' (Mi.nw H) v (.list ds)):∃p vs,v=.ref p/\H p=none/\H' p=some (.lst vs)/\Reps K H' (Mi.nw H) vs ds:=by
 obtain⟨p,vs,rfl,h,r⟩:=r;rcases h with⟨h,z⟩|⟨_,z⟩
 ·exact⟨p,vs,rfl,z,h,r⟩
 ·exact z.elim
theorem nw.wk (s:Same H H'):∀a,Mi.nw H' a->Mi.nw H a:=λ_ z=>nw.back s z
structure CtA (K:W.Frag)(H:Hp)(x:bN)(es:List En)(k:Nat)(ns:List Str)(v ve:V)(pn:Addr):Prop where
 rv:Rep K H AnyB v (rdD x)
 re:Rep K H AnyB ve (.list (es.map eK))
 rn:H pn=some (.lst (ns.map V.str))
 on:∀s∈ns,PyData.strOk s=true
 hk:k<x.2.length
 hl:x.2.length<=8
 ho:x.1.length+es.length<=100
 hx:∀w∈x.2,w.length<=20
 hn:ns.length<=20
def spCt (K:W.Frag):Sp:=λvs H Q _=>∃x es,∃k:Nat,∃ns v ve pn,vs=[v,ve,.int k,.ref pn]/\CtA K H x es k ns v ve pn/\∀H' u,Same H H'->Rep K H' (Mi.nw H) u (rdD (x.1++es,x.2.set k (x.2.getD k []++ns)))->Q u H'
theorem dN.uI {K:W.Frag}:∀{ws:List Addr} {xs:List (List Str)},dN H ws xs->D8 xs->(∀w∈ws,H0 w=none)->Reps K H (Mi.nw H0) (ws.map .ref) (xs.map fQ)
 | [],[],_,_,_=>rfl
 |w::ws,x::xs,h,o,n=>⟨.ref w,ws.map .ref,rfl,⟨w,_,rfl,.inl ⟨h.1,n w (.head _)⟩,Pf (o x (.head _))⟩,dN.uI h.2 (λy hy=>o y (.tail _ hy)) λw hw=>n w (.tail _ hw)⟩
theorem Pl {K:W.Frag}:∀{xs:List (List Str)} {vs:List V},Reps K H B vs (xs.map fQ)->D8 xs
 | [],_,_=>λ_ h=>by cases h
 |x::xs,_,h=>by
  obtain⟨v,r,rfl,hv,hr⟩:=h;intro y hy;rcases ao.mp hy with rfl|hy
  ·obtain⟨p,vs,_,_,rv⟩:=hv;exact(Ea rv).2
  ·exact Pl hr y hy
section
variable {Z:Wc}{H:Hp}{D0:Ends}{v ve:V}{pn:Addr}{k:Nat}{x:bN}{es:List En}{ns:List Str}
theorem zr5 (hκ:Z.Κ=[])(hφ:Z.Φ=[])(a:CtA Z.K H x es k ns v ve pn)(q:∀H' u,Same H H'->Rep Z.K H' (Mi.nw H) u (rdD (x.1++es,x.2.set k (x.2.getD k []++ns)))->D0.rt u H'):
  wS Z L67.ct D0 [some v,some ve,some (.int k),some (.ref pn),none] H:=by
 obtain⟨o,hs⟩:=x;have hk:=a.hk;have hl:hs.length<=8:=a.hl;have ho:o.length+es.length<=100:=a.ho;have ok:D8 hs:=by obtain⟨_,_,_,_,_,_,_,_,_,_,_,⟨_,_,_,_,r⟩,_⟩:=a.rv;exact Pl r
 have cl:∀Q:VK,(∀l ws H1,H l=none->Same H H1->H1 l=some (.lst (ws.map .ref))->(∀w∈ws,H w=none)->(l::ws).Nodup->dN H1 ws (hs.map id)->Q (.ref l) H1)->wE Z L67.O' [some v,some ve,some (.int k),some (.ref pn),none] H Q:=λQ kq=>by
  refine DR (Jb (aV rfl (fX λH0 s0=>Yd (a.rv.same s0 λ_ z=>z) rfl λw bE=>⟨AnyB,.list (hs.map fQ),hs.map fQ,bE,rfl,λJ wk=>?_⟩)));refine zqv wk (λa ha u H3 N M s3 ru hM=>?_) λl ws H1 Eb s1 e1 wn nd hw=>kq l ws H1 (s0.none Eb) (s0.trans s1) e1 (λw h=>s0.none (wn w h)) nd hw;refine zfb (U:=[none]) ru (by decide) λσ' u' hlen e0 Ci rest=>⟨D9 hlen rest,?_⟩;refine⟨u',e0,AnyB,u',fQ a,true,a.map .str,fQ a,rfl,Ci,rfl,rfl,λy H4 s4 ry=>?_⟩;obtain⟨p,vs,rfl,hp,gI⟩:=ry;obtain⟨rfl,_⟩:=Ea gI;rcases hp with⟨hp,z⟩|⟨_,z⟩
  ·refine hM p H4 s4 ?_ hp;rcases z with z|⟨z,_⟩
   ·exact z
   ·rw[xH]at z;cases z
  ·rcases z with z|⟨z,_⟩
   ·exact z.elim
   ·rw[xH]at z;cases z
 refine cJ (cl _ λl ws H1 Eb Pm e1 wn nd hw=>?_);rw[xb]at hw;have Ab:=hw.len;obtain⟨n1,n2⟩:=cr.mp nd;have JH:k<ws.length:=by rw[Ab];exact hk
 have ew:=ak JH;obtain⟨x,ex,Pn⟩:=hw.at _ ew;have HM:hs.getD k []=x:=by rw[au,ex];rfl
 have Za:=Pm _ _ a.rn;refine cK (Pj (DP (aV rfl (aV rfl (Pk e1 (v:=.ref ws[k]) (by rw[az,ew];rfl) (by omega) ⟨.inl ⟨rfl,_,SqL.of Pn⟩,aV rfl ⟨ws[k],pn,x.map V.str,ns.map V.str,rfl,rfl,Pn,Za,?_,?_⟩⟩)))))
 ·rw[ae,ae,cz];have:=a.hx x (b0 ex);have:=a.hn;omega
 rw[<-cj];have Po:=hw.set (y:=x++ns) n2 _ ew;have lw:l≠ws[k]:=λz=>n1 (z▸d9 JH);have e2:upd H1 ws[k] (.lst ((x++ns).map V.str)) l=some (.lst (ws.map .ref)):=by rw[aC lw];exact e1
 have s2:Same H (upd H1 ws[k] (.lst ((x++ns).map V.str))):=λb ob e=>by rw[aC λz=>by have:=wn _ (d9 JH);rw[<-z,e]at this;cases this];exact Pm b ob e
 have xC:D8 (hs.set k (x++ns)):=λy hy s wV=>by
  rcases pb hy with hy|rfl
  ·exact ok y hy s wV
  ·rcases ce.mp wV with z|z
   ·exact ok x (b0 ex) s z
   ·exact a.on s z
 generalize upd H1 ws[k] (.lst ((x++ns).map V.str))=H2 at Po e2 s2 ⊢;have sl:Sl Z.K H2 [some v,some ve,some (.int k),some (.ref pn),some (.ref l)] [some (.od,rdD (o,hs)),some (.od,.list (es.map eK)),none,none,none]:=.da (a.rv.same s2 λ_ z=>z) (.da (a.re.same s2 λ_ z=>z) (.no (.no (.no .nil))));have ee:aG Z.Κ Z.Φ (.bin .Add (.ix (.var 0) (.int 0)) (.var 1)) [some (.od,rdD (o,hs)),some (.od,.list (es.map eK)),none,none,none]=.ok (.fr,.list ((o++es).map eK)):=by rw[hκ,hφ,cj];exact DE (Ev.of (by rw[pD,nK];rfl)) (aF rfl) (add_list (by rw[ae,ae];omega)) (by rw[<-cj];exact Y' _)
 refine jD (DQ (aS (JF sl.so ee λy H3 s3 ry=>aS (aV rfl (cH ⟨by rw[cz];simp,λp hp=>?_⟩)))));have uD:Same H3 (upd H3 p (.tup [y,.ref l])):=Same.upd hp;have JI:=s3.trans uD;rw[show(o,hs).2.getD k []=x from HM]at q;refine q _ _ (s2.trans JI) ⟨p,_,rfl,bL.of aW,⟨y,_,rfl,(ry.same uD λ_ z=>z).weak (nw.wk s2),⟨.ref l,_,rfl,⟨l,ws.map .ref,rfl,.inl ⟨JI _ _ e2,Eb⟩,?_⟩,rfl⟩⟩⟩;exact dN.uI (Po.keep λw _=>JI w) xC wn
end
abbrev Φy:List Fn:=[Je,Jd,Jg]
theorem Pp (s:Bool):decide (sd s=("for":Str))=s:=by cases s<;>rfl
theorem xV {β:Type}(m:β->D){xs:List β}(h:k<xs.length):fC (.list (xs.map m)) (.int k)=.ok (m xs[k]):=by rw[Js m xs[k] (by omega) (by omega)];rw[j4,au,ak h];rfl
theorem jE (ha:Ev Κ Φ a Y x)(hb:Ev Κ Φ b Y y)(h:fC x y=.ok d):Ev Κ Φ (.ix a b) Y d:=by obtain⟨g1,ha⟩:=ha;obtain⟨g2,hb⟩:=hb;exact⟨gJ d g1,by rw[pD,ha,Res.aD,hb,Res.aD];dsimp only;rw[h,Res.aD]⟩
theorem Cj (so:StOk Z.K (F0 H) H U Y)(e:aG Z.Κ Z.Φ c Y=.ok (.fr,fQ ns))(q:∀p H',Same H H'->H' p=some (.lst (ns.map V.str))->Q (.ref p) H'):wE Z (.bG c) U H Q:=JF so e λv H' s r=>by obtain⟨p,vs,rfl,_,hp,gI⟩:=JG r;obtain⟨rfl,_⟩:=Ea gI;exact q p H' s hp
theorem gL (h:Z.fn[j]?=some sp)(q:wA Z as U H λvs H1=>sp (vs++[]) H1 Q Z.E):wE Z (.eZ j as) U H Q:=by show(match Z.fn[j]? with|some sp=>vC sp [] Z.E (wA Z as)|none=>uB) U H Q;rw[h];exact q
structure WyA (K:W.Frag)(H:Hp)(o:Op)(rs:List Ru)(th:P)(k:Nat)(x:bN)(vr vb vt v:V):Prop where
 rr:Rep K H AnyB vr (opD o)
 rb:Rep K H AnyB vb (.list (rs.map ruD))
 rt:Rep K H AnyB vt (pk th)
 rv:Rep K H AnyB v (rdD x)
 ht:PK th
 hk:k<x.2.length
 hl:x.2.length<=8
 ho:x.1.length<=20
 hr:rs.length<=20
 hx:∀w∈x.2,w.length<=15
def spWy (K:W.Frag):Sp:=λvs H Q _=>∃o rs th,∃k:Nat,∃x vr vb vt v,vs=[vr,vb,.int k,vt,v]/\WyA K H o rs th k x vr vb vt v/\∀H' u,Same H H'->Rep K H' (Mi.nw H) u (.list ((fE o rs k th x).map rdD))->Q u H'
theorem Zb (o:Op)(b:Bool):∀s∈ho o b,PyData.strOk s=true:=λs hs=>by
 cases b with
 |false=>cases hs
 |true=>rw[ah.mp hs];exact o.so
section
variable {Z:Wc}{H:Hp}{D0:Ends}{o:Op}{rs:List Ru}{th:P}{c:Cs}{k:Nat}{x:bN}{vr vb vt v:V}
theorem Zc (hr:rs.length<=20)(hx:x.1.length<=20)(h1:Y[1]?=some (some (.od,.list (rs.map ruD))))(h4:Y[4]?=some (some (.od,rdD x)))(h5:cV (Y.getD 5 none)=some (.od,.str o.n))(h6:Y[6]?=some (some (.od,cD c))):∃kk,Vv [] Φy L67.Pa Y (uH kk (dJ biR sdR (rs++(x.1.filter λe=>decide (e.1=o.n)).map (·.2.2)) c)):=by have hc:=z2g (Κ:=[]) (Φ:=Φy) (nt:=1) (js:=[5]) (N':=["entry","name"]) (it:=.tv (.ix (.var 4) (.int 0))) (cond:=.tv (.cmp .Eq (.ix (.var 0) (.int 0)) (.var 1))) (elt:=.ix (.var 0) (.int 2)) (λe=>decide (e.1=o.n)) (λe=>ruD e.2.2) (cX (by rw[pD,nK];rw[h4];rfl) rfl) rfl (λe=>[some (.al,eK e),some (.od,.str o.n)]) (λe _=>by show eG (.nm 0) _ [none,cV (Y.getD 5 none)]=_;rw[h5];exact yV (Ph e)) (λe _=>aU (cG (k:=decide (e.1=o.n)) (aH (aF rfl) aQ.e rfl rfl).e (aF rfl) (by show Res.ok _=_;rw[jN])).e rfl) λe _ _=>aH (aF rfl) aQ.e rfl (pI _);rw[show((x.1.filter λe=>decide (e.1=o.n)).map λe=>ruD e.2.2)=((x.1.filter λe=>decide (e.1=o.n)).map (·.2.2)).map ruD by rw[gb];rfl]at hc;have fl:=jc (λe:En=>decide (e.1=o.n)) x.1;have ha:=DE (aF h1) (Ev.of hc) (add_list (by rw[ae,ae,ae];omega)) (by rw[<-cj];exact B7 pI _);rw[<-cj]at ha;obtain⟨kk,hb⟩:=YJ (rs:=rs++(x.1.filter λe=>decide (e.1=o.n)).map (·.2.2)) (by rw[bu,ae];omega);exact⟨kk,iA (aI (Ev.of ha) (aI (aF h6) bH)) rfl hb (YG _ _)⟩
theorem zoa (hκ:Z.Κ=[])(hφ:Z.Φ=Φy)(f0:Z.fn[0]?=some (spCt Z.K))(a:WyA Z.K H o rs th k x vr vb vt v)
  (q:∀H' u,Same H H'->Rep Z.K H' (Mi.nw H) u (.list ((fE o rs k th x).map rdD))->D0.rt u H'):wS Z L67.wy D0 [some vr,some vb,some (.int k),some vt,some v,none,none,none] H:=by
 have hk:=a.hk;have sl:∀{H':Hp} {o5 o6 o7:Option V} {r5 r6 r7:Option GD},Same H H'->Sl Z.K H' [o5,o6,o7] [r5,r6,r7]->Sl Z.K H' [some vr,some vb,some (.int k),some vt,some v,o5,o6,o7] [some (.od,opD o),some (.od,.list (rs.map ruD)),some (.od,.int k),some (.od,pk th),some (.od,rdD x),r5,r6,r7]:=λ{H' o5 o6 o7 r5 r6 r7} s t=>.da (a.rr.same s λ_ z=>z) (.da (a.rb.same s λ_ z=>z) (.nO (.da (a.rt.same s λ_ z=>z) (.da (a.rv.same s λ_ z=>z) t))));refine cJ (cP hκ hφ (sl (Same.refl H) (.no (.no (.no .nil)))) (aH (aF rfl) aQ.e rfl rfl).e λv5 H1 s1 r5=>?_);have ek:fC (.list (x.2.map fQ)) (.int k)=.ok (fQ (x.2.getD k [])):=by rw[xV fQ hk,au,ak hk];rfl
 refine cJ (cP hκ hφ (sl s1 (.da r5 (.no (.no .nil)))) (d:=cD (dM o th (x.2.getD k []))) (iB (aI (aF rfl) (aI (aF rfl) (aI (jE (jE (aF rfl) aQ.e rfl) (aF rfl) ek) bH))) rfl (YY o a.ht _)) λv6 H2 s2 r6=>?_);have Ck:=s1.trans s2;have Pq:=r5.same s2 λ_ z=>z;obtain⟨kk,eb⟩:=Zc a.hr a.ho (Y:=[some (.od,opD o),some (.od,.list (rs.map ruD)),some (.od,.int k),some (.od,pk th),some (.od,rdD x),some (.od,.str o.n),some (.od,cD (dM o th (x.2.getD k []))),none]) rfl rfl rfl rfl;refine cJ (cP hκ hφ (sl Ck (.da Pq (.da r6 (.no .nil)))) eb.e λv7 H3 s3 r7=>?_);have jF:=Ck.trans s3;have Pr:=Pq.same s3 λ_ z=>z;have Pt:=r6.same s3 λ_ z=>z;have ct:∀{H4:Hp} {es:List En} {ve:V} {pn:Addr} {b:Bool} {Q:VK},Same H H4->Rep Z.K H4 AnyB ve (.list (es.map eK))->es.length<=2->H4 pn=some (.lst ((ho o b).map V.str))->(∀H' u,Same H4 H'->Rep Z.K H' (Mi.nw H4) u (rdD (kK o k x es b))->Q u H')->spCt Z.K [v,ve,.int k,.ref pn] H4 Q Z.E:=λ{H4 es ve pn b Q} s4 re hl hn kq=>by refine⟨x,es,k,ho o b,v,ve,pn,rfl,⟨a.rv.same s4 λ_ z=>z,re,hn,Zb o b,hk,a.hl,?_,λw hw=>bo (a.hx w hw) (by decide),by cases b<;>(first|exact bw _|(show 1<=20;decide))⟩,kq⟩;have:=a.ho;omega
 have Pu:∀{H4:Hp} {us:List V} {ds:List bN},Same H H4->us.length<=2->Reps Z.K H4 (Mi.nw H) us (ds.map rdD)->fE o rs k th x=ds->wA Z .nil [some vr,some vb,some (.int k),some vt,some v,some v5,some v6,some v7] H4 λys H5=>(us++ys).length<=bc/\∀p,H5 p=none->D0.rt (.ref p) (upd H5 p (.lst (us++ys))):=λ{H4 us ds} s4 hl ru e=>by refine cH ⟨by rw[dh,cz];omega,λp hp=>?_⟩;rw[dh];have uP:Same H4 (upd H4 p (.lst us)):=Same.upd hp;refine q _ _ (s4.trans uP) ?_;rw[e];exact⟨p,us,rfl,.inl ⟨aW,s4.none hp⟩,ru.same uP λ_ z=>z⟩
 cases hb:dJ biR sdR (rs++(x.1.filter λe=>decide (e.1=o.n)).map (·.2.2)) (dM o th (x.2.getD k []))with
 |some s=>
  have es:fE o rs k th x=[kK o k x [] s]:=by unfold fE;rw[hb]
  rw[hb]at r7;have nn:v7≠.bD:=λz=>by subst z;obtain⟨p,vs,e,_⟩:=r7;cases e
  refine cK (fZ (aV (Z:=Z) rfl ⟨true,by rw[x8 nn];rfl,?_⟩));have Pw:∀{H4:Hp},Same H3 H4->Sl Z.K H4 [some vr,some vb,some (.int k),some vt,some v,some v5,some v6,some v7] [some (.od,opD o),some (.od,.list (rs.map ruD)),some (.od,.int k),some (.od,pk th),some (.od,rdD x),some (.od,.str o.n),some (.od,cD (dM o th (x.2.getD k []))),some (.od,uH kk (some s))]:=λ{H4} s4=>sl (jF.trans s4) (.da (Pr.same s4 λ_ z=>z) (.da (Pt.same s4 λ_ z=>z) (.da (r7.same s4 λ_ z=>z) .nil)));refine jD (jM (aS (gL f0 (aS (aV rfl (aS (cP hκ hφ (Pw (Same.refl H3)) (d:=.list (([]:List En).map eK)) (Ev.of (iX eU)) λve H4 s4 re=>?_)))))));refine aS (aV rfl (aS (Cj (ns:=ho o s) (Sl.so (Pw s4)) ?_ λpn H5 s5 en=>cH ?_)))
  ·rw[hκ,hφ];have t7:Tt [] Φy (.tv (.cmp .Eq (.ix (.var 7) (.int 0)) (.str "for"))) [some (.od,opD o),some (.od,.list (rs.map ruD)),some (.od,.int k),some (.od,pk th),some (.od,rdD x),some (.od,.str o.n),some (.od,cD (dM o th (x.2.getD k []))),some (.od,uH kk (some s))] s:=aU (cG (aH (aF rfl) aQ.e rfl rfl).e eY.e (by show Res.ok _=_;rw[jN,Pp])).e rfl;rw[IL,t7,Res.aD];cases s with
   |true=>exact iX (dI (v_var rfl rfl) eU)
   |false=>exact iX eU
  ·have jG:=jF.trans (s4.trans s5);refine ct jG (re.same s5 λ_ z=>z) (by decide) en λH6 u s6 ru=>?_;exact Pu (ds:=[_]) (jG.trans s6) (by show 1<=2;decide) ⟨u,[],rfl,ru.weak (nw.wk jG),rfl⟩ es
 |none=>
  have es:fE o rs k th x=[kK o k x [(o.n,k,sR (dM o th (x.2.getD k [])) true)] true,kK o k x [(o.n,k,sR (dM o th (x.2.getD k [])) false)] false]:=by unfold fE;rw[hb]
  rw[hb]at r7;have e7:=r7;subst e7;refine cK (fZ (aV (Z:=Z) rfl ⟨false,rfl,cL Z ?_⟩));have Ec:∀{H4:Hp},Same H3 H4->Sl Z.K H4 [some vr,some vb,some (.int k),some vt,some v,some v5,some v6,some .bD] [some (.od,opD o),some (.od,.list (rs.map ruD)),some (.od,.int k),some (.od,pk th),some (.od,rdD x),some (.od,.str o.n),some (.od,cD (dM o th (x.2.getD k []))),none]:=λ{H4} s4=>sl (jF.trans s4) (.da (Pr.same s4 λ_ z=>z) (.da (Pt.same s4 λ_ z=>z) (.no .nil)));have ev:∀b:Bool,Ev [] Φy (.lst (.cons (.tup (.cons (.var 5) (.cons (.var 2) (.cons (.call 0 "fullest" (.cons (.var 6) (.cons (.str (sd b)) .nil))) .nil)))) .nil)) [some (.od,opD o),some (.od,.list (rs.map ruD)),some (.od,.int k),some (.od,pk th),some (.od,rdD x),some (.od,.str o.n),some (.od,cD (dM o th (x.2.getD k []))),none] (.list ([((o.n,k,sR (dM o th (x.2.getD k [])) b):En)].map eK)):=λb=>Ev.of (iX (dI (sG (dI (v_var rfl rfl) (dI (v_var rfl rfl) (dI (iA (aI (aF rfl) (aI eY.e bH)) rfl (YK _ b) (pI _)) eU)))) eU));refine jD (jM (aS (gL f0 (aS (aV rfl (aS (cP hκ hφ (Ec (Same.refl H3)) (ev true) λve H4 s4 re=>?_)))))));refine aS (aV rfl (aS (Cj (ns:=ho o true) (Sl.so (Ec s4)) (by rw[hκ,hφ];exact iX (dI (v_var rfl rfl) eU)) λpn H5 s5 en=>cH ?_)));have jG:=jF.trans (s4.trans s5);refine ct jG (re.same s5 λ_ z=>z) (by show 1<=2;decide) en λH6 u s6 ru=>?_;have JJ:=s4.trans (s5.trans s6);refine aS (gL f0 (aS (aV rfl (aS (cP hκ hφ (Ec JJ) (ev false) λve' H7 s7 Zd=>?_)))));refine aS (aV rfl (aS (Cj (ns:=ho o false) (Sl.so (Ec (JJ.trans s7))) (by rw[hκ,hφ];exact iX eU) λpn' H8 s8 Ze=>cH ?_)));have JK:=jF.trans (JJ.trans (s7.trans s8));refine ct JK (Zd.same s8 λ_ z=>z) (by show 1<=2;decide) Ze λH9 u' s9 Ci=>?_;exact Pu (us:=[u,u']) (ds:=[_,_]) (JK.trans s9) (ag 2) ⟨u,[u'],rfl,(ru.weak (nw.wk jG)).same (s7.trans (s8.trans s9)) λ_ z=>z,⟨u',[],rfl,Ci.weak (nw.wk JK),rfl⟩⟩ es
end
structure Bd (n m c:Nat)(x:bN):Prop where
 n:x.2.length=n
 m:x.1.length<=m
 c:∀w∈x.2,w.length<=c
theorem Zf (o:Op)(b:Bool):(ho o b).length<=1:=by cases b<;>(first|exact bw _|exact ag 1)
theorem JL (h:Bd n m c x)(he:es.length<=1):Bd n (m+1) (c+1) (kK o k x es b):=by
 have hm:=h.m;refine⟨by unfold kK;rw[gc];exact h.n,by unfold kK;rw[bu];omega,λw hw=>?_⟩;have hh:=Zf o b;rcases pb hw with hw|rfl
 ·exact wq (h.c w hw)
 ·rw[bu]
  have:(x.2.getD k []).length<=c:=by
   rw[au];cases e:x.2[k]? with
   |none=>exact bw _
   |some w=>exact h.c w (b0 e)
  omega
theorem Zg (h:Bd n m c x)(hy:y∈fE o rs k th x):Bd n (m+1) (c+1) y:=by
 unfold fE at hy;split at hy
 ·rw[ah.mp hy];exact JL h (bw _)
 ·rcases ao.mp hy with rfl|hy
  ·exact JL h (ag 1)
  ·rw[ah.mp hy];exact JL h (ag 1)
theorem Px (o:Op)(rs:List Ru)(k:Nat)(th:P)(x:bN):(fE o rs k th x).length<=2:=by
 unfold fE;split
 ·show 1<=2;decide
 ·exact ag 2
theorem JM (o:Op)(rs:List Ru)(k:Nat)(th:P):∀l:List bN,(l.flatMap (fE o rs k th)).length<=2*l.length
 | []=>ag _
 |x::l=>by rw[jk,bu,bt];have:=Px o rs k th x;have:=JM o rs k th l;omega
def lI (o:Op)(rs:List Ru)(ths:List P)(l:List bN)(k:Nat):List bN:=openK o rs (ths.zipIdx.take k) l
theorem Py (h:k<ths.length):lI o rs ths l (k+1)=(lI o rs ths l k).flatMap (fE o rs k ths[k]):=by unfold lI openK;rw[ja,ak (by rw[i9];exact h),ue];rw[mh,qv];rfl
theorem Pz:lI o rs ths l ths.length=jC o rs ths l:=by unfold lI jC;rw[i5 (by rw[i9];exact ag _)]
theorem JN (h:∀x∈l,Bd n m c x):∀{k:Nat},k<=ths.length->(lI o rs ths l k).length<=l.length*2 ^ k/\∀x∈lI o rs ths l k,Bd n (m+k) (c+k) x
 |0,_=>⟨by rw[Nat.pow_zero,Nat.mul_one];exact ag _,h⟩
 |k+1,hk=>by
  obtain⟨h1,h2⟩:=JN (o:=o) (rs:=rs) (ths:=ths) h (k:=k) (by omega);rw[Py (by omega)];refine⟨?_,λx hx=>?_⟩
  ·have :=JM o rs k ths[k] (lI o rs ths l k);rw[Nat.pow_succ,<-Nat.mul_assoc];omega
  ·obtain⟨y,hy,hx⟩:=kr.mp hx;exact Zg (h2 y hy) hx
theorem zgt (I:Addr->Nat->L2.St->Hp->Prop)(hit:∀R,(∀a H1,SqL Z.K H1 a vs->I a 0 U H1->R (.ref a) H1)->wE Z it U H R)(sq:∀a k σ' H',I a k σ' H'->SqL Z.K H' a vs)
  (one:∀a k v σ' H',vs[k]?=some v->I a k σ' H'->∀D2,D2.rt=D0.rt->(∀eD H3,I a (k+1) eD H3->D2.nx eD H3)->wS Z b D2 (σ'.set i (some v)) H') (q:∀a σ' H',I a vs.length σ' H'->D0.nx σ' H'):wS Z (.iZ i it b) D0 U H:=by
 refine hit _ λa H1 h1 i1=>⟨a,rfl,⟨vs,h1⟩,λk m σ' H'=>m=vs.length-k/\k<=vs.length/\I a k σ' H',⟨_,rfl,bw _,i1⟩,?_⟩
 rintro k m σ' H' ⟨rfl,hk,ik⟩
 have hs:=sq a k σ' H' ik;by_cases bF:k<vs.length
 ·refine .inr ⟨⟨vs,vs[k],hs,ak bF⟩,λiE H2=>vs.length-(k+1)=vs.length-(k+1)/\k+1<=vs.length/\I a (k+1) iE H2,λiE H2 w=>⟨_,by omega,w⟩,λy H2 hy=>?_⟩;obtain⟨e2,hy⟩:=hy;rw[e2];exact one a k y σ' H' (hy _ hs) ik _ rfl λeD H3 w=>⟨rfl,bF,w⟩
 ·have :k=vs.length:=by omega
  subst this;exact .inl ⟨⟨vs,hs,ag _⟩,q a σ' H' ik⟩
theorem Zh {U:L2.St}(hij:i≠j)(hl:σ'.length=U.length)(e1:σ'[i]?=some (some u))(e2:σ'[j]?=some (some w))(r:∀k,k≠i->k≠j->σ'[k]?=U[k]?):σ'=(U.set i (some u)).set j (some w):=by
 refine Pg (by rw[gc];exact hl) e2 λk hk=>?_;by_cases z:k=i
 ·subst z;rw[e1,fz (hl▸(bp.mp e1).1)]
 ·rw[r k z hk,d8 (Ne.symm z)]
def nQ (T:List Addr):Ad->Prop
 |some a=>a∉T
 |none=>True
theorem Reps.aC {K:W.Frag}(hp:H p=some (.lst xs))(hT:p∈T)(hB:∀a,B a->nQ T a)(r:Reps K H B vs ds):Reps K (upd H p (.lst ys)) B vs ds:=
 Reps.keep (λx ob e z=>by
  rw[L2.aC λw=>by
   rcases z with z|z
   ·exact hB _ z (w▸hT)
   ·rw[w,hp]at e;cases e;exact z]
  exact e) (λ_ z=>z) _ r
theorem PB (h:∀p∈T,∃o,H p=some o)(a:Ad)(z:Mi.nw H a):nQ T a:=by
 cases a with
 |none=>exact trivial
 |some a=>intro w;obtain⟨o,e⟩:=h a w;have z:H a=none:=z;rw[e]at z;cases z
theorem HB {H:Hp}(h:H p=some o):∀x∈[p],∃o,H x=some o:=λx hx=>⟨o,(ah.mp hx)▸h⟩
structure WoA (K:W.Frag)(H:Hp)(o:Op)(rs:List Ru)(ths:List P)(l:List bN)(B:Ad->Prop)(vr vb vk vf:V):Prop where
 rr:Rep K H AnyB vr (opD o)
 rb:Rep K H AnyB vb (.list (rs.map ruD))
 rk:Rep K H AnyB vk (.list (ths.map pk))
 rf:Rep K H B vf (.list (l.map rdD))
 ht:∀t∈ths,PK t
 hl:ths.length<=4
 hr:rs.length<=20
 hb:∀x∈l,Bd ths.length 10 10 x
 ll:l.length<=100
def spWo (K:W.Frag):Sp:=λvs H Q _=>∃o rs ths l B vr vb vk vf,vs=[vr,vb,vk,vf]/\WoA K H o rs ths l B vr vb vk vf/\∀H' u,Same H H'->Rep K H' (λa=>Mi.nw H a\/B a) u (.list ((jC o rs ths l).map rdD))->Q u H'
theorem PD {K:W.Frag}(r:Rep K H B v (.list ds)):∃a vs,v=.ref a/\SqL K H a vs/\Reps K H B vs ds:=pV r
section
variable {Z:Wc}{H:Hp}{D0:Ends}{o:Op}{rs:List Ru}{ths:List P}{l:List bN}{B:Ad->Prop}{vr vb vk vf:V}
theorem zpy (hκ:Z.Κ=[])(hφ:Z.Φ=[])(f0:Z.fn[0]?=some (spWy Z.K))(a:WoA Z.K H o rs ths l B vr vb vk vf)
  (q:∀H' u,Same H H'->Rep Z.K H' (λa=>Mi.nw H a\/B a) u (.list ((jC o rs ths l).map rdD))->D0.rt u H'):wS Z L67.wo D0 [some vr,some vb,some vk,some vf,none,none,none,none] H:=by
 have sl:Sl Z.K H [some vr,some vb,some vk,some vf,none,none,none,none] [none,none,some (.od,.list (ths.map pk)),none,none,none,none,none]:=.no (.no (.da a.rk (.no (.no (.no (.no (.no .nil)))))));have ev:evW [] [] (.enum (.var 2)) [none,none,some (.od,.list (ths.map pk)),none,none,none,none,none]=.ok (.al,ths.zipIdx.map λx=>.tuple [.int x.2,pk x.1]):=by rw[HG (aF rfl) (DG (by rw[ae];have:=a.hl;omega)),DH]
 refine cK (zjn hκ hφ sl ev (λk σ' H'=>Same H H'/\∃u o4 o5 o6 o7,σ'=[some vr,some vb,some vk,some u,o4,o5,o6,o7]/\Rep Z.K H' (λa=>Mi.nw H a\/B a) u (.list ((lI o rs ths l k).map rdD))) (λH1 s1=>⟨s1,vf,_,_,_,_,rfl,a.rf.same s1 λ_ z=>.inr z⟩) ?_ ?_)
 ·rintro k y d σ' H' H2 D2 hd ⟨s',u,o4,o5,o6,o7,rfl,ru⟩ s2 ry yZ nx
  rw[az]at hd;obtain⟨x,hx,rfl⟩:=ci.mp hd;have hk:=by have:=(bp.mp hx).1;rw[i9]at this;exact this
  have ex:x=(ths[k],k):=by have:=(bp.mp hx).2;rw[ue,qv]at this;exact this.symm
  subst ex;refine zvy ry (by simp) (by simp) (by decide) λiE w4 w hlen e4 e5 r4 bE rest=>?_;have Zi:=Zh (by decide) hlen e4 e5 rest;subst Zi;cases r4;refine cJ (jM (cH ⟨bw _,λp6 h6=>?_⟩));have iL:=s'.trans s2;have Cd:=a.hl;obtain⟨lc,ly⟩:=JN (o:=o) (rs:=rs) a.hb (j9 hk);have pow:2 ^ k<=2 ^ 4:=j8 (by decide) (by omega);have l16:(lI o rs ths l k).length<=1600:=by have h1:=Nat.mul_le_mul a.ll pow;omega
  obtain⟨pf,vs,rfl,PF,gI⟩:=PD (ru.same s2 λ_ z=>z);have lv:=gI.length;refine cK (zgt (λb j σ' H'=>b=pf/\Same H2 H'/\∃ws o7,σ'=[some vr,some vb,some vk,some (.ref pf),some (.int k),some w,some (.ref p6),o7]/\H' p6=some (.lst ws)/\Reps Z.K H' (λa=>nQ [p6] a/\Mi.nw H a) ws ((((lI o rs ths l k).take j).flatMap (fE o rs k ths[k])).map rdD)) (λR hR=>aV rfl (hR pf _ (SqL.same PF (Same.upd h6)) ⟨rfl,Same.upd h6,[],_,rfl,aW,rfl⟩)) (λb j σ' H' h=>?_) ?_ ?_)
  ·obtain⟨rfl,s3,_⟩:=h;exact SqL.same PF s3
  ·rintro b j v σ' H3 hv ⟨rfl,s3,ws,Zj,rfl,uJ,rl⟩ D3 Zl Zm
   obtain⟨d,hd,rd⟩:=Reps.gZ gI hv;rw[az]at hd;obtain⟨y,hy,rfl⟩:=ci.mp hd;have sQ:=ly y (b0 hy);have mY:=iL.trans s3;have wa:WyA Z.K H3 o rs ths[k] k y vr vb w v:=⟨a.rr.same mY λ_ z=>z,a.rb.same mY λ_ z=>z,bE.same s3 λ_ z=>z,(rd.same s3 λ_ z=>z).weak λ_ _=>trivial,a.ht _ (d9 hk),by rw[sQ.n];exact hk,by rw[sQ.n];omega,by have:=sQ.m;omega,a.hr,λw hw=>by have:=sQ.c w hw;omega⟩;refine cK (Pj (aV rfl ⟨.inl ⟨rfl,_,SqL.of uJ⟩,gL f0 (aS (aV rfl (aS (aV rfl (aS (aV rfl (aS (aV rfl (aS (aV rfl (cH ?_)))))))))))⟩));refine⟨o,rs,ths[k],k,y,vr,vb,w,v,rfl,wa,λH4 u4 s4 r4=>?_⟩;obtain⟨p4,Zn,rfl,n4,Zo,PH⟩:=JG r4;have Cm:=s4 _ _ uJ;have lw:=rl.length;have l4:=PH.length;refine⟨p6,p4,_,_,rfl,rfl,Cm,Zo,?_,?_⟩
   ·rw[lw,l4,ae,ae,cz];have h1:=JM o rs k ths[k] ((lI o rs ths l k).take j);rw[gf]at h1;have h2:=Px o rs k ths[k] y;omega
   refine Zm _ _ ⟨rfl,λb ob e=>?_,ws++Zn,_,rfl,aW,?_⟩
   ·rw[aC λz=>by rw[z,h6]at e;cases e];exact s4 _ _ (s3 _ _ e)
   ·have tk:(lI o rs ths l k).take (j+1)=(lI o rs ths l k).take j++[y]:=by rw[ja,hy];rfl
    rw[tk,ud,cj,show[y].flatMap (fE o rs k ths[k])=fE o rs k ths[k] y from dh _];exact Reps.aC Cm (.head _) (λ_ z=>z.1) ((rl.same s4 λ_ z=>z).append (PH.weak λa z=>⟨PB (HB uJ) a z,nw.wk mY a z⟩))
  ·rintro b σ' H3 ⟨rfl,s3,ws,Zj,rfl,uJ,rl⟩
   refine cJ (aV rfl (cL Z ?_));refine nx _ _ ⟨iL.trans s3,.ref p6,_,_,_,_,rfl,?_⟩ (s2.trans s3);rw[lv,ae,i5 (ag _),<-Py hk]at rl;exact⟨p6,ws,rfl,.inl ⟨uJ,.inl (iL.none h6)⟩,rl.weak λ_ z=>.inl z.2⟩
 ·rintro σ' H' ⟨s',u,o4,o5,o6,o7,rfl,ru⟩
  rw[ae,i9,Pz]at ru;exact jD (aV rfl (q H' u s' ru))
end
section
variable {Κ:List D}{Φ:List Fn}{Y:Rho}
theorem zka {β:Type}{m:β->D}{xs:List β}(f:β->D)(hw:evW Κ Φ it Y=.ok w)(hx:w.2=xs.map m)(r:β->Rho)
  (hb:∀x∈xs,eG tg (gJ (m x) w.1,m x) (bv nt none++js.map λj=>cV (Y.getD j none))=.ok (r x)) (he:∀x∈xs,aG Κ Φ elt (r x)=.ok (.fr,f x)):
  aG Κ Φ (.comp nt js N' tg it .nil elt) Y=.ok (.fr,.list (xs.map f)):=by
 rw[N2];rw[hw,Res.aD,hx];rw[IE (λx=>some (f x)) xs λx hx=>by rw[hb x hx,Res.aD];have:=yO (Κ:=Κ) (Φ:=Φ) (Y:=r x);rw[this,Res.aD,xu rfl,he x hx];rfl];rw[Res.aD,NY,DD]
 have:(xs.filterMap λx=>some (f x))=xs.map f:=by
  clear hx hb he hw
  induction xs with
  |nil=>rfl
  |cons x xs ih=>rw[bg,<-ih];rfl
 rw[this]
end
theorem JO (x:D)(xs:List D):fC (.tuple (x::xs)) (.int 0)=.ok x:=by show Res.fO (Mi.dF (x::xs) 0)=_;rw[IH _ 0 x (tm 0) (by rw[bt];omega)];rfl
inductive Rw where
 |op (o:Op)
 |id (k:Str) (r:List D)
def iM:Rw->D
 |.op o=>opD o
 |.id k r=>.tuple (.str k::r)
def eL:Rw->Bool
 |.op _=>true
 |.id _ _=>false
structure Cn (rows:List Rw)(es:bK)(bk:Str->List Ru):Prop where
 id:∀k r,Rw.id k r∈rows->k≠"word"/\k≠"open"
 op:∀o,Rw.op o∈rows->(gD es (.str o.n)).getD (.list [])=.list ((bk o.n).map ruD)/\(bk o.n).length<=20
 two:(rows.filter eL).length<=2
def xW (bk:Str->List Ru)(ths:List P)(l:List bN):Rw->List bN
 |.op o=>jC o (bk o.n) ths l
 |.id _ _=>l
def iC (bk:Str->List Ru)(ths:List P)(rows:List Rw):List bN:=rows.foldl (xW bk ths) [([],ths.map λ_=>[])]
theorem JP (hl:ths.length<=4)(rows:List Rw):∀(l:List bN) (c:Nat),l.length<=16 ^ c->(∀x∈l,Bd ths.length (4*c) (4*c) x)->(rows.foldl (xW bk ths) l).length<=16 ^ (c+(rows.filter eL).length)/\∀x∈rows.foldl (xW bk ths) l,Bd ths.length (4*(c+(rows.filter eL).length)) (4*(c+(rows.filter eL).length)) x:=by
 induction rows with
 |nil=>exact λl c h1 h2=>⟨h1,h2⟩
 |cons r rows ih=>
  intro l c h1 h2;cases r with
  |id k r=>exact ih l c h1 h2
  |op o=>
   have e:c+((Rw.op o::rows).filter eL).length=(c+1)+(rows.filter eL).length:=by show c+((rows.filter eL).length+1)=_;omega
   rw[e];obtain⟨g1,g2⟩:=JN h2 (ag ths.length);rw[Pz]at g1 g2;refine ih _ (c+1) ?_ λx hx=>?_
   ·have p:2 ^ ths.length<=2 ^ 4:=j8 (by decide) hl;have:=Nat.mul_le_mul h1 p;exact bo g1 this
   ·have b:=g2 x hx;exact⟨b.n,bo b.m (by omega),λw hw=>bo (b.c w hw) (by omega)⟩
structure RgA (K:W.Frag)(H:Hp)(rows:List Rw)(es:bK)(bk:Str->List Ru)(hd:List P)(fa:P->P)(va vb vt:V):Prop where
 ok:Cn rows es bk
 ra:Rep K H AnyB va (.list (rows.map iM))
 rb:Rep K H AnyB vb (.dict es)
 rt:Rep K H AnyB vt (.list (hd.map pk))
 hf:∀t∈hd,xQ [.list (rows.map iM),pk t]=.ok (.fr,pk (fa t))/\PK (fa t)
 hu:∃u:Int,u<=8/\DT [.list (rows.map iM),.int hd.length]=.ok (.fr,.int u)
 hl:hd.length<=4
def spRd (K:W.Frag):Sp:=λvs H Q _=>∃rows es bk hd fa va vb vt,vs=[va,vb,vt]/\RgA K H rows es bk hd fa va vb vt/\∀H' u,Same H H'->Rep K H' (Mi.nw H) u (.list ((iC bk (hd.map fa) rows).map rdD))->Q u H'
abbrev Φr:List Fn:=[xQ,DT]
theorem PJ {rows:List Rw}{hd:List P}(f0:Φ[0]?=some xQ)(hf:∀t∈hd,xQ [.list (rows.map iM),pk t]=.ok (.fr,pk (fa t))/\PK (fa t))(h0:cV (Y.getD 0 none)=some (.od,.list (rows.map iM)))(h2:Y[2]?=some (some (.od,.list (hd.map pk)))):aG [] Φ L67.kn Y=.ok (.fr,.list ((hd.map fa).map pk)):=by have hc:=z2g (Κ:=[]) (nt:=1) (js:=[0]) (N':=["thing","act"]) (elt:=.call 0 "of_facts" (.cons (.var 1) (.cons (.var 0) .nil))) (λ_=>true) (λt=>pk (fa t)) (cX (by rw[nK];rw[h2];rfl) rfl) rfl (λt=>[some (.al,pk t),some (.od,.list (rows.map iM))]) (λt _=>by show eG (.nm 0) _ [none,cV (Y.getD 0 none)]=_;rw[h0];exact yV (cO _)) (λ_ _=>yO) λt ht _=>iA (aI (aF rfl) (aI (aF rfl) bH)) f0 (hf t ht).1 (cO _);rw[gw.mpr λ_ _=>rfl]at hc;rw[gb];exact hc
theorem Zp (h:Z.gi[j]?=some n)(q:Q (.int n) H):wE Z (.gi j) U H Q:=by show(match Z.gi[j]? with|some n=>(λ(_:L2.St) (H:Hp) (Q:VK)=>Q (.int n) H)|none=>uB) U H Q;rw[h];exact q
section
variable {Z:Wc}{H:Hp}{D0:Ends}{rows:List Rw}{es:bK}{bk:Str->List Ru}{hd:List P}{fa:P->P}{va vb vt:V}
theorem zps (hκ:Z.Κ=[])(hφ:Z.Φ=Φr)(hg:Z.gi[0]?=some 8)(f0:Z.fn[0]?=some (spWo Z.K))(a:RgA Z.K H rows es bk hd fa va vb vt)
  (q:∀H' u,Same H H'->Rep Z.K H' (Mi.nw H) u (.list ((iC bk (hd.map fa) rows).map rdD))->D0.rt u H'):wS Z L67.rg D0 [some va,some vb,some vt,none,none,none] H:=by
 have sl:∀{H':Hp} {o3 o4 o5:Option V} {r3 r4 r5:Option GD},Same H H'->Sl Z.K H' [o3,o4,o5] [r3,r4,r5]->Sl Z.K H' [some va,some vb,some vt,o3,o4,o5] [some (.od,.list (rows.map iM)),some (.od,.dict es),some (.od,.list (hd.map pk)),r3,r4,r5]:=λ{H' o3 o4 o5 r3 r4 r5} s t=>.da (a.ra.same s λ_ z=>z) (.da (a.rb.same s λ_ z=>z) (.da (a.rt.same s λ_ z=>z) t));have hlen:nH "len" [.list (hd.map pk)]=.ok (.int hd.length):=by show Res.ok (PyData.int ((hd.map pk).length:Nat))=_;rw[ae]
 obtain⟨n,hn,eu⟩:=a.hu;refine cK (fZ (BL (cP hκ hφ (sl (Same.refl H) (.no (.no (.no .nil)))) (iB (aI (aF rfl) (aI (kH (aI (aF rfl) bH) hlen rfl).e bH)) rfl eu) λv1 H1 s1 r1=>Zp hg (BK (B':=AnyB) (dy:=.int 8) r1 rfl (by show Res.ok (decide ((8:Int)<n))=_;rw[x8 (by omega)]) λH2 s2=>⟨false,rfl,cL Z ?_⟩))));have Ck:=s1.trans s2;refine cJ (cP hκ hφ (sl Ck (.no (.no (.no .nil)))) (Ev.of (PJ rfl a.hf rfl rfl)) λv3 H3 s3 r3=>?_);have mY:=Ck.trans s3;refine cJ (jM (aS (DQ (aS (jM (cH ⟨bw _,λpe he=>?_⟩))))));have uE:Same H3 (upd H3 pe (.lst [])):=Same.upd he;refine aS (JF (Sl.so (sl (mY.trans uE) (.da (r3.same uE λ_ z=>z) (.no (.no .nil))))) (d:=.list ((hd.map fa).map λ_=>.list [])) (by rw[hκ,hφ];exact(zka (λ_=>.list []) (cX (x:=.list ((hd.map fa).map pk)) (by rw[nK];rfl) rfl) rfl (λt=>[some (.al,pk t)]) (λt _=>yV (cO t)) λt _=>iX eU)) λvh H5 s5 rh=>cH ⟨by rw[cz];simp,λt ht=>cH ⟨by rw[cz];simp,λp0 PL=>?_⟩⟩);have uT:Same H5 (upd H5 t (.tup [.ref pe,vh])):=Same.upd ht;have uP:Same (upd H5 t (.tup [.ref pe,vh])) (upd (upd H5 t (.tup [.ref pe,vh])) p0 (.lst [.ref t])):=Same.upd PL;have sA:=(uE.trans s5).trans (uT.trans uP);have rf:Rep Z.K (upd (upd H5 t (.tup [.ref pe,vh])) p0 (.lst [.ref t])) (Mi.nw H) (.ref p0) (.list ([(([],(hd.map fa).map λ_=>[]):bN)].map rdD)):=by refine⟨p0,[.ref t],rfl,.inl ⟨aW,((mY.trans uE).trans (s5.trans uT)).none PL⟩,⟨.ref t,[],rfl,⟨t,_,rfl,bL.of (uP _ _ aW),⟨.ref pe,[vh],rfl,⟨pe,[],rfl,.inl ⟨uP _ _ (uT _ _ (s5 _ _ aW)),mY.none he⟩,rfl⟩,⟨vh,[],rfl,?_,rfl⟩⟩⟩,rfl⟩⟩;rw[gb];exact(rh.same (uT.trans uP) λ_ z=>z).weak (nw.wk (mY.trans uE))
 generalize upd (upd H5 t (.tup [.ref pe,vh])) p0 (.lst [.ref t])=HA at rf sA ⊢;have Ed:=mY.trans sA;obtain⟨aa,vs,rfl,hq,gI⟩:=PD (a.ra.same Ed λ_ z=>z);have lv:=gI.length;refine cK (z9y (λb j σ' H'=>b=aa/\Same HA H'/\∃u o5,σ'=[some (.ref aa),some vb,some vt,some v3,some u,o5]/\Rep Z.K H' (Mi.nw H) u (.list (((rows.take j).foldl (xW bk (hd.map fa)) [([],(hd.map fa).map λ_=>[])]).map rdD))) (λR hR=>aV rfl (hR aa HA hq ⟨rfl,Same.refl HA,_,_,rfl,rf⟩)) (λb j σ' H' h=>by obtain⟨rfl,s,_⟩:=h;exact SqL.same hq s) ?_ ?_)
 ·rintro b j v σ' H' hv ⟨rfl,sH,u,o5,rfl,ru⟩ D2 yZ nx
  obtain⟨d,fB,rd⟩:=Reps.gZ gI hv;rw[az]at fB;obtain⟨r,hr,rfl⟩:=ci.mp fB;have rd:=rd.same sH λ_ z=>z;have tk:rows.take (j+1)=rows.take j++[r]:=by rw[ja,hr];rfl
  have fo:(rows.take (j+1)).foldl (xW bk (hd.map fa)) [([],(hd.map fa).map λ_=>[])]=xW bk (hd.map fa) ((rows.take j).foldl (xW bk (hd.map fa)) [([],(hd.map fa).map λ_=>[])]) r:=by rw[tk,mh];rfl
  have mem:=b0 hr;have bd:=JP (bk:=bk) (ths:=hd.map fa) (by rw[ae];exact a.hl) (rows.take j) [([],(hd.map fa).map λ_=>[])] 0 (ag 1) λx hx=>by rw[ah.mp hx];exact⟨ae ..,bw _,λw hw=>by obtain⟨_,_,rfl⟩:=ba.mp hw;exact bw _⟩
  have ct:∀o,r=.op o->((rows.take j).filter eL).length<=1:=λo e=>by have h1:((rows.take (j+1)).filter eL).length<=(rows.filter eL).length:=((vp _ _).filter _).length_le;rw[tk,g8,bu,e,show[Rw.op o].filter eL=[Rw.op o]from rfl]at h1;have h2:=a.ok.two;have h3:[Rw.op o].length=1:=rfl;omega
  refine Cg rd (by simp) λw bE=>?_;have Co:∀{H6:Hp},Same H' H6->Sl Z.K H6 [some (.ref b),some vb,some vt,some v3,some u,some w] [some (.od,.list (rows.map iM)),some (.od,.dict es),some (.od,.list (hd.map pk)),none,none,some (.od,iM r)]:=λ{H6} s6=>sl (Ed.trans (sH.trans s6)) (.no (.no (.da (bE.same s6 λ_ z=>z) .nil)));cases r with
  |id k rr=>obtain⟨n1,n2⟩:=a.ok.id k rr mem;have Cp:∀(s:Str),k≠s->Tt [] Φr (.tv (.cmp .Eq (.ix (.var 5) (.int 0)) (.str s))) [some (.od,.list (rows.map iM)),some (.od,.dict es),some (.od,.list (hd.map pk)),none,none,some (.od,iM (.id k rr))] false:=λs hs=>aU (cG (aH (aF rfl) aQ.e (JO _ _) rfl).e eY.e (by show Res.ok _=_;rw[jN,x8 hs])).e rfl;refine cK (fZ (iK hκ hφ (Co (Same.refl H')) (Cp _ n1) λH6 s6=>?_));refine cK (fZ (iK hκ hφ (Co s6) (Cp _ n2) λH7 s7=>cL Z (cL Z ?_)));refine cL Z (nx _ _ ⟨rfl,sH.trans (s6.trans s7),_,_,rfl,?_⟩);rw[fo];exact ru.same (s6.trans s7) λ_ z=>z
  |op o=>
   obtain⟨eb,lb⟩:=a.ok.op o mem;have ct:=ct o rfl;refine cK (fZ (iK hκ hφ (Co (Same.refl H')) (aU (cG (aH (aF rfl) aQ.e rfl rfl).e eY.e (by rfl)).e rfl) λH6 s6=>?_));refine cK (fZ (iK hκ hφ (Co s6) (aU (cG (aH (aF rfl) aQ.e rfl rfl).e eY.e (by rfl)).e rfl) λH7 s7=>?_));have PM:=s6.trans s7;refine cJ (gL f0 (aS (aV rfl (aS (cP hκ hφ (Co PM) (d:=.list ((bk o.n).map ruD)) ?_ λfA H8 s8 Zq=>?_)))))
   ·have e1:Ev [] Φr (.ix (.var 5) (.int 1)) [some (.od,.list (rows.map iM)),some (.od,.dict es),some (.od,.list (hd.map pk)),none,none,some (.od,iM (.op o))] (.str o.n):=(aH (aF rfl) aQ.e rfl rfl).e;obtain⟨ys,ea,ed⟩:=aI e1 (aI (Ev.of (iX eU)) bH);refine⟨gJ (.list ((bk o.n).map ruD)) .al,?_⟩;show(Res.ok (G.od,PyData.dict es)>>=λx=>_)=_;rw[Res.aD,ea,Res.aD,ed];show((Res.ok ((gD es (.str o.n)).getD (.list [])))>>=λd=>_)=_;rw[eb];rfl
   have Cq:=PM.trans s8;refine aS (aV rfl (aS (aV rfl (cH ⟨o,bk o.n,hd.map fa,_,Mi.nw H,w,fA,v3,u,rfl,⟨bE.same Cq λ_ z=>z,Zq,r3.same (sA.trans (sH.trans Cq)) λ_ z=>z,ru.same Cq λ_ z=>z,λt ht=>?_,by rw[ae];exact a.hl,lb,λx hx=>?_,?_⟩,λH9 u9 s9 r9=>?_⟩))))
   ·obtain⟨t',Zr,rfl⟩:=ba.mp ht;exact(a.hf t' Zr).2
   ·have b:=bd.2 x hx;exact⟨b.n,bo b.m (by omega),λw hw=>bo (b.c w hw) (by omega)⟩
   ·have Zs:16 ^ (0+((rows.take j).filter eL).length)<=16 ^ 1:=j8 (by decide) (by omega);exact bo bd.1 (bo Zs (by decide))
   ·refine cL Z (cL Z (nx _ _ ⟨rfl,(sH.trans Cq).trans s9,_,_,rfl,?_⟩));rw[fo];exact r9.weak λa z=>z.elim (nw.wk ((Ed.trans sH).trans Cq) a) id
 ·rintro b σ' H' ⟨rfl,sH,u,o5,rfl,ru⟩
  rw[lv,ae,i5 (ag _)]at ru;exact jD (aV rfl (q H' u (Ed.trans sH) ru))
end
theorem Ee (q:wE Z o U H λx H1=>tyV Z.K "list" x H1/\wE Z v U H1 λy H2=>CN x [y] H2 λ_ H3=>D0.nx U H3):wS Z (.app o v) D0 U H:=q
theorem zgy (I:Addr->List V->Nat->L2.St->Hp->Prop)(hit:∀R:VK,(∀a vs H1,SqL Z.K H1 a vs->I a vs 0 U H1->R (.ref a) H1)->wE Z it U H R)(sq:∀a vs k σ' H',I a vs k σ' H'->SqL Z.K H' a vs)
  (one:∀a vs k v σ' H',vs[k]?=some v->I a vs k σ' H'->∀D2:Ends,D2.rt=D0.rt->(∀eD H3,I a vs (k+1) eD H3->D2.nx eD H3)->wS Z b D2 (σ'.set i (some v)) H') (q:∀a vs σ' H',I a vs vs.length σ' H'->D0.nx σ' H'):wS Z (.iZ i it b) D0 U H:=by
 refine hit _ λa vs H1 h1 i1=>⟨a,rfl,⟨vs,h1⟩,λk m σ' H'=>m=vs.length-k/\k<=vs.length/\I a vs k σ' H',⟨_,rfl,bw _,i1⟩,?_⟩
 rintro k m σ' H' ⟨rfl,hk,ik⟩
 have hs:=sq a vs k σ' H' ik;by_cases bF:k<vs.length
 ·refine .inr ⟨⟨vs,vs[k],hs,ak bF⟩,λiE H2=>vs.length-(k+1)=vs.length-(k+1)/\k+1<=vs.length/\I a vs (k+1) iE H2,λiE H2 w=>⟨_,by omega,w⟩,λy H2 hy=>?_⟩;obtain⟨e2,hy⟩:=hy;have hy:=hy _ hs;rw[e2];exact one a vs k y σ' H' hy ik _ rfl λeD H3 w=>⟨rfl,bF,w⟩
 ·have :k=vs.length:=by omega
  subst this;exact .inl ⟨⟨vs,hs,ag _⟩,q a vs σ' H' ik⟩
def cZ (f:List (List Str)->Bool)(l:List bN):Str:=if(l.filter λx=>!f x.2)=[]then "must"else if(l.filter λx=>f x.2)=[]then "never"else "open"
structure StA (K:W.Frag)(H:Hp)(rows:List Rw)(es:bK)(bk:Str->List Ru)(hd:List P)(fa:P->P)(cl:Str)(ask:D)(f:List (List Str)->Bool)(va vb vt:V):Prop extends RgA K H rows es bk hd fa va vb vt where
 ha:BY [.list (rows.map iM),.str cl]=.ok (.fr,ask)
 sc:PyData.strOk cl=true
 hs:∀hs:List (List Str),hs.length=hd.length->(∀w∈hs,w.length<=20)->pG 1 [ask,.list ((hd.map fa).map pk),.list (hs.map fQ)]=.ok (.fr,.bool (f hs))
def spSe (K:W.Frag):Sp:=λvs H Q _=>∃rows es bk hd fa cl ask f va vb vt,vs=[va,vb,vt,.str cl]/\StA K H rows es bk hd fa cl ask f va vb vt/\∀H' t v,Same H H'->H' t=some (.tup [.str (cZ f (iC bk (hd.map fa) rows)),v])->Q (.ref t) H'
abbrev Φs:List Fn:=[xQ,pG 1,BY]
theorem JQ (n:Nat)(l:P):aN (n+2) (pk l)=true:=by exact kW.mpr λx hx=>by obtain⟨p,_,rfl⟩:=ba.mp hx;cases n<;>rfl
theorem JR (n:Nat)(f a:P):aN (n+3) (mX f a)=true:=by show(aN (n+2) (pk f)&&(aN (n+2) (pk a)&&true))=true;rw[JQ,JQ];rfl
theorem JS (n:Nat)(r:Ru):aN (n+4) (ruD r)=true:=by show(aN (n+3) (mX r.2.1.1 r.2.2.1.1)&&(true&&(aN (n+1+2) (pk r.2.2.2.1)&&true)))=true;rw[JR,JQ];rfl
theorem Zt (n:Nat)(e:En):aN (n+5) (eK e)=true:=by show(true&&(true&&(aN (n+4) (ruD e.2.2)&&true)))=true;rw[JS];rfl
theorem PN (n:Nat)(x:List Str):aN (n+1) (fQ x)=true:=by exact D4 n x
theorem Zu (n:Nat)(x:bN):aN (n+7) (rdD x)=true:=by show(dQ (n+5) (x.1.map eK)&&(dQ (n+5) (x.2.map fQ)&&true))=true;rw[kW.mpr λy hy=>by obtain⟨e,_,rfl⟩:=ba.mp hy;exact Zt n e,kW.mpr λy hy=>by obtain⟨b,_,rfl⟩:=ba.mp hy;exact PN (n+4) b];rfl
theorem Zv (l:List bN):cmpD .Eq (.list (l.map rdD)) (.list [])=.ok (decide (l=[])):=by show(if(aN 40 (.list (l.map rdD))&&aN 40 (.list []))=true then Res.ok (bW (.list (l.map rdD)) (.list []))else .no)=_;rw[xu (by show(dQ 39 (l.map rdD)&&true)=true;rw[kW.mpr λy hy=>by obtain⟨e,_,rfl⟩:=ba.mp hy;exact Zu 32 e];rfl)];cases l<;>rfl
section
variable {Z:Wc}{H:Hp}{D0:Ends}{rows:List Rw}{es:bK}{bk:Str->List Ru}{hd:List P}{fa:P->P}{cl:Str}{ask:D}{f:List (List Str)->Bool}{va vb vt:V}
theorem zqd (hκ:Z.Κ=[])(hφ:Z.Φ=Φs)(f0:Z.fn[0]?=some (spRd Z.K))(a:StA Z.K H rows es bk hd fa cl ask f va vb vt)
  (q:∀H' t v,Same H H'->H' t=some (.tup [.str (cZ f (iC bk (hd.map fa) rows)),v])->D0.rt (.ref t) H'):wS Z L67.st D0 [some va,some vb,some vt,some (.str cl),none,none,none,none,none] H:=by
 have fI:=a.sc;have sl:∀{H':Hp} {o4 o5 o6 o7 o8:Option V} {r4 r5 r6 r7 r8:Option GD},Same H H'->Sl Z.K H' [o4,o5,o6,o7,o8] [r4,r5,r6,r7,r8]->Sl Z.K H' [some va,some vb,some vt,some (.str cl),o4,o5,o6,o7,o8] [some (.od,.list (rows.map iM)),some (.od,.dict es),some (.od,.list (hd.map pk)),some (.od,.str cl),r4,r5,r6,r7,r8]:=λ{H' o4 o5 o6 o7 o8 r4 r5 r6 r7 r8} s t=>.da (a.ra.same s λ_ z=>z) (.da (a.rb.same s λ_ z=>z) (.da (a.rt.same s λ_ z=>z) (.da (B:=AnyB) ⟨rfl,fI⟩ t)));refine cJ (cP hκ hφ (sl (Same.refl H) (.no (.no (.no (.no (.no .nil)))))) (iB (aI (aF rfl) (aI (aF rfl) bH)) rfl a.ha) λv4 H1 s1 r4=>?_);refine cJ (cP hκ hφ (sl s1 (.no (.no (.no (.no (.no .nil)))))) (Ev.of (PJ rfl a.hf rfl rfl)) λv5 H2 s2 r5=>?_);refine cJ (jM (cH ⟨bw _,λp6 h6=>?_⟩));refine cJ (jM (cH ⟨bw _,λp7 h7=>?_⟩));have Zw:=(Same.upd h6).none h7;have JT:p6≠p7:=λz=>by rw[<-z,aW]at h7;cases h7
 have JU:Same H2 (upd (upd H2 p6 (.lst [])) p7 (.lst [])):=(Same.upd h6).trans (Same.upd h7);have e6:upd (upd H2 p6 (.lst [])) p7 (.lst []) p6=some (.lst []):=by rw[aC JT];exact aW
 have e7:upd (upd H2 p6 (.lst [])) p7 (.lst []) p7=some (.lst []):=aW;generalize upd (upd H2 p6 (.lst [])) p7 (.lst [])=H3 at JU e6 e7 ⊢;have mY:=(s1.trans s2).trans JU
 let L:=iC bk (hd.map fa) rows
 have bd:=JP (bk:=bk) (ths:=hd.map fa) (by rw[ae];exact a.hl) rows [([],(hd.map fa).map λ_=>[])] 0 (ag 1) λx hx=>by rw[ah.mp hx];exact⟨ae ..,bw _,λw hw=>by obtain⟨_,_,rfl⟩:=ba.mp hw;exact bw _⟩
 have two:=a.ok.two;have lL:L.length<=256:=bo bd.1 (j8 (by decide) (by omega):16 ^ (0+(rows.filter eL).length)<=16 ^ 2)
 have Zx:∀p∈[p6,p7],∃o,H3 p=some o:=λp hp=>by
  rcases ao.mp hp with rfl|hp
  ·exact⟨_,e6⟩
  ·rw[ah.mp hp];exact⟨_,e7⟩
 have eA:=PB Zx;have fl:∀{l:List bN} {p:bN->Bool},l.length<=256->(l.filter p).length<=256:=λh=>bo (jc _ _) h
 have fin:∀{w6 w7:List V} {o8:Option V} {H':Hp},Same H2 H'->H' p6=some (.lst w6)->H' p7=some (.lst w7)->Reps Z.K H' (Mi.nw H3) w6 ((L.filter λx=>f x.2).map rdD)->Reps Z.K H' (Mi.nw H3) w7 ((L.filter λx=>!f x.2).map rdD)->wS Z L67.xU D0 [some va,some vb,some vt,some (.str cl),some v4,some v5,some (.ref p6),some (.ref p7),o8] H':=λ{w6 w7 o8 H'} sH sU iD r6 r7=>by
  have Ef:=(s1.trans s2).trans sH;have PQ:∀{H4:Hp},Same H' H4->Sl Z.K H4 [some va,some vb,some vt,some (.str cl),some v4,some v5,some (.ref p6),some (.ref p7),o8] [some (.od,.list (rows.map iM)),some (.od,.dict es),some (.od,.list (hd.map pk)),some (.od,.str cl),none,none,some (.od,.list ((L.filter λx=>f x.2).map rdD)),some (.od,.list ((L.filter λx=>!f x.2).map rdD)),none]:=λ{H4} s4=>sl (Ef.trans s4) (.no (.no (.da ⟨p6,w6,rfl,.inl ⟨s4 _ _ sU,trivial⟩,(r6.same s4 λ_ z=>z).weak λ_ _=>trivial⟩ (.da ⟨p7,w7,rfl,.inl ⟨s4 _ _ iD,trivial⟩,(r7.same s4 λ_ z=>z).weak λ_ _=>trivial⟩ (.no .nil)))));have tell:∀{s:Str} {H4:Hp} {x:W} {D1:Ends},D1.rt=D0.rt->s=cZ f L->Same H' H4->(∀(H5:Hp) (Q:VK),Same H' H5->(∀v H6,Same H5 H6->Q v H6)->wE Z x [some va,some vb,some vt,some (.str cl),some v4,some v5,some (.ref p6),some (.ref p7),o8] H5 Q)->wS Z (L67.D7 s x) D1 [some va,some vb,some vt,some (.str cl),some v4,some v5,some (.ref p6),some (.ref p7),o8] H4:=λ{s H4 x D1} er e s4 hx=>by refine jD (DQ (aS (cP hκ hφ (Cf _) eY.e λv H5 s5 r5=>?_)));obtain⟨rfl,_⟩:=r5;refine aS (hx H5 _ (s4.trans s5) λv H6 s6=>cH ⟨by rw[cz];simp,λt ht=>?_⟩);rw[er];refine q _ t v (Ef.trans (s4.trans (s5.trans (s6.trans (Same.upd ht))))) ?_;rw[<-e];exact aW
  have nil:∀(H5:Hp) (Q:VK),Same H' H5->(∀v H6,Same H5 H6->Q v H6)->wE Z (.lst .nil) [some va,some vb,some vt,some (.str cl),some v4,some v5,some (.ref p6),some (.ref p7),o8] H5 Q:=λH5 Q _ k=>jM (cH ⟨bw _,λp hp=>k _ _ (Same.upd hp)⟩);have Cp:∀{l:List bN} {i:Nat} {Y:Rho},Y[i]?=some (some (.od,.list (l.map rdD)))->Tt [] Φs (.tv (.cmp .Eq (.var i) (.lst .nil))) Y (decide (l=[])):=λ{l i Y} h=>aU (cG (aF h) (Ev.of (iX eU)) (Zv l)).e rfl;refine cK (fZ (iK hκ hφ (PQ (Same.refl H')) (Cp rfl) λH4 s4=>?_));by_cases z1:(L.filter λx=>!f x.2)=[]
  ·rw[xu (x6 z1)];exact tell rfl (by unfold cZ;rw[xu z1]) s4 nil
  rw[xw (by rw[x8 z1];decide)];refine cL Z (cK (fZ (iK hκ hφ (PQ s4) (Cp rfl) λH5 s5=>?_)));by_cases z2:(L.filter λx=>f x.2)=[]
  ·rw[xu (x6 z2)];exact tell rfl (by unfold cZ;rw[xw z1,xu z2]) (s4.trans s5) nil
  rw[xw (by rw[x8 z2];decide)];refine cL Z (tell rfl (by unfold cZ;rw[xw z1,xw z2]) (s4.trans s5) λH6 Q s6 k=>?_)
  have first:∀{ws:List V} {l:List bN} {p:Addr} {H7:Hp} {i:Nat} {Q:VK},l≠[]->Reps Z.K H' (Mi.nw H3) ws (l.map rdD)->H7 p=some (.lst ws)->[some va,some vb,some vt,some (.str cl),some v4,some v5,some (.ref p6),some (.ref p7),o8][i]?=some (some (.ref p))->(∀v H8,Same H7 H8->Q v H8)->wE Z (.qB (.raw i) (L67.i1 0)) [some va,some vb,some vt,some (.str cl),some v4,some v5,some (.ref p6),some (.ref p7),o8] H7 Q:=λ{ws l p H7 i Q} eA r hp hi kq=>by
   cases l with
   |nil=>exact absurd rfl eA
   |cons y l=>obtain⟨v,r',rfl,_⟩:=r;exact DP (aV hi (fX λH8 s8=>Pk (s8 _ _ hp) rfl (by decide) (kq v H8 s8)))
  refine jM (aS (first z2 r6 (s6 _ _ sU) rfl λv H7 s7=>aS (first z1 r7 (s7 _ _ (s6 _ _ iD)) rfl λv' H8 s8=>cH ⟨by rw[cz];simp,λp hp=>?_⟩)));exact k _ _ (s7.trans (s8.trans (Same.upd hp)))
 refine cK (zgy (λb vs j σ' H'=>b≠p6/\b≠p7/\Same H2 H'/\H' b=some (.lst vs)/\Reps Z.K H' (Mi.nw H3) vs (L.map rdD)/\∃w6 w7 o8,σ'=[some va,some vb,some vt,some (.str cl),some v4,some v5,some (.ref p6),some (.ref p7),o8]/\H' p6=some (.lst w6)/\H' p7=some (.lst w7)/\Reps Z.K H' (Mi.nw H3) w6 (((L.take j).filter λx=>f x.2).map rdD)/\Reps Z.K H' (Mi.nw H3) w7 (((L.take j).filter λx=>!f x.2).map rdD)) (λR hR=>?_) (λb vs j σ' H' h=>SqL.of h.2.2.2.1) ?_ ?_)
 ·refine gL f0 (aS (aV rfl (aS (aV rfl (aS (aV rfl (cH ?_)))))));refine⟨rows,es,bk,hd,fa,va,vb,vt,rfl,⟨a.ok,a.ra.same mY λ_ z=>z,a.rb.same mY λ_ z=>z,a.rt.same mY λ_ z=>z,a.hf,a.hu,a.hl⟩,λH4 u s4 ru=>?_⟩;obtain⟨b,vs,rfl,nb,hb,rv⟩:=JG ru;exact hR b vs H4 (SqL.of hb) ⟨(λz=>by rw[z,e6]at nb;cases nb),(λz=>by rw[z,e7]at nb;cases nb),JU.trans s4,hb,rv,[],[],none,rfl,s4 _ _ e6,s4 _ _ e7,rfl,rfl⟩
 ·rintro b vs j v σ' H' hv ⟨b6,b7,sH,hb,gI,w6,w7,o8,rfl,sU,iD,r6,r7⟩ D2 yZ nx
  obtain⟨d,fB,rd⟩:=Reps.gZ gI hv;rw[az]at fB;obtain⟨x,hx,rfl⟩:=ci.mp fB;have bx:=bd.2 x (b0 hx);have Ef:=(s1.trans s2).trans sH;have tk:L.take (j+1)=L.take j++[x]:=by rw[ja,hx];rfl
  have lt:(L.take j).length<=256:=by rw[gf];omega
  have Zy:=a.hs x.2 (by rw[bx.n,ae]) λw hw=>bo (bx.c w hw) (by omega);refine cK (fZ (iK hκ hφ (sl Ef (.da ((r4.same s2 λ_ z=>z).same sH λ_ z=>z) (.da (r5.same sH λ_ z=>z) (.no (.no (.da rd .nil)))))) (aU (iA (aI (aF rfl) (aI (aF rfl) (aI (jE (aF rfl) aQ.e rfl) bH))) rfl Zy rfl).e rfl) λH5 s5=>?_))
  have up:∀{p:Addr} {w:List V} {H6:Hp},(p=p6\/p=p7)->H5 p=some (.lst w)->H6=upd H5 p (.lst (w++[v]))->Same H2 H6/\H6 b=some (.lst vs)/\(∀us ds,Reps Z.K H' (Mi.nw H3) us ds->Reps Z.K H6 (Mi.nw H3) us ds)/\∀p',p'≠p->H6 p'=H5 p':=λ{p w H6} hp e eH=>by
   subst eH;have Zz:p∈[p6,p7]:=by rcases hp with rfl|rfl<;>simp
   have n2:H2 p=none:=by rcases hp with rfl|rfl;exact h6;exact Zw
   refine⟨λc ob ec=>?_,?_,λus ds r=>Reps.aC e Zz eA (r.same s5 λ_ z=>z),λp' Jx=>aC Jx⟩
   ·rw[aC λz=>by rw[z,n2]at ec;cases ec];exact s5 _ _ (sH _ _ ec)
   ·rw[aC λz=>by rcases hp with rfl|rfl;exact b6 z;exact b7 z];exact s5 _ _ hb
  have rv1:Reps Z.K H' (Mi.nw H3) [v] [rdD x]:=⟨v,[],rfl,rd,rfl⟩;have PR:∀{w:List V} {l:List bN},Reps Z.K H' (Mi.nw H3) w (l.map rdD)->l.length<=256->w.length<bc:=λ{w l} r hl=>by have:=r.length;rw[ae]at this;rw[cz];omega
  cases hf:f x.2 with
  |true=>
   refine cK (Ee (aV rfl ⟨.inl ⟨rfl,_,SqL.of (s5 _ _ sU)⟩,aV rfl ⟨p6,w6,v,rfl,rfl,s5 _ _ sU,PR r6 (fl lt),?_⟩⟩));obtain⟨g1,g2,g3,g4⟩:=up (.inl rfl) (s5 _ _ sU) rfl;refine cL Z (cL Z (nx _ _ ⟨b6,b7,g1,g2,g3 _ _ gI,w6++[v],w7,_,rfl,aW,?_,?_,?_⟩))
   ·rw[g4 _ (Ne.symm JT)];exact s5 _ _ iD
   ·rw[tk,g8,cj,dg,xu hf];exact g3 _ _ (r6.append rv1)
   ·rw[tk,g8,dg,xw (by rw[hf];decide)];rw[List.filter_nil,dh];exact g3 _ _ r7
  |false=>
   refine cK (Ee (aV rfl ⟨.inl ⟨rfl,_,SqL.of (s5 _ _ iD)⟩,aV rfl ⟨p7,w7,v,rfl,rfl,s5 _ _ iD,PR r7 (fl lt),?_⟩⟩));obtain⟨g1,g2,g3,g4⟩:=up (.inr rfl) (s5 _ _ iD) rfl;refine cL Z (cL Z (nx _ _ ⟨b6,b7,g1,g2,g3 _ _ gI,w6,w7++[v],_,rfl,?_,aW,?_,?_⟩))
   ·rw[g4 _ JT];exact s5 _ _ sU
   ·rw[tk,g8,dg,xw (by rw[hf];decide)];rw[List.filter_nil,dh];exact g3 _ _ r6
   ·rw[tk,g8,cj,dg,xu (by rw[hf];rfl)];exact g3 _ _ (r7.append rv1)
 ·rintro b vs σ' H' ⟨b6,b7,sH,hb,gI,w6,w7,o8,rfl,sU,iD,r6,r7⟩
  have lv:=gI.length;rw[lv,ae,i5 (ag _)]at r6 r7;exact fin sH sU iD r6 r7
end
theorem JV (q:wE Z v U H λv H1=>wE Z o U H1 λx H2=>wE Z k U H2 λy H3=>(∃a H4,x=.ref a/\DPut H3 a y v H4/\D0.nx U H4)\/E4 x y v H3 λH4=>D0.nx U H4):wS Z (.put o k v) D0 U H:=q
def Dw (H:Hp)(p:Addr)(a m:Int):Prop:=H p=some (.lst [.int a,.int m])
def Ch (p:Addr)(H H':Hp):Prop:=∀b o,b≠p->H b=some o->H' b=some o
theorem Ch.of (s:Same H H'):Ch p H H':=λb o _ e=>s b o e
theorem Ch.trans (s:Ch p H H')(t:Ch p H' wD):Ch p H wD:=λb o n e=>t b o n (s b o n e)
theorem Ch.same (s:Ch p H H')(n:H0 p=none)(t:Same H0 H):Same H0 H':=λb o e=>s b o (λz=>by rw[z,n]at e;cases e) (t b o e)
theorem Ch.fix (s:Ch p H H')(d:Dw H p a m):∀b o,H b=some o->Fix o->H' b=some o:=λb o e z=>s b o (λw=>by rw[w,show H p=_ from d]at e;cases e;exact z) e
theorem Ch.aP {K:W.Frag}(s:Ch p H H')(w:Dw H p a m)(i:aP d=true)(r:Rep K H B v d):Rep K H' B' v d:=(Rep.keep (B:=NoB) (λx ob e z=>s.fix w x ob e (z.elim (λz=>z.elim) _root_.id)) (λ_ z=>z) _ (Rep.bB _ i r)).weak λ_ z=>z.elim
theorem Dw.rep {K:W.Frag}(d:Dw H p a m):Rep K H AnyB (.ref p) (.list [.int a,.int m]):=⟨p,_,rfl,.inl ⟨d,trivial⟩,⟨_,_,rfl,rfl,⟨_,_,rfl,rfl,rfl⟩⟩⟩
def spDn (K:W.Frag):Sp:=λvs H Q _=>∃c b,vs=[.int c,.bl b]/\∀H' p a m,H p=none->Same H H'->Dw H' p a m->Q (.ref p) H'
def spDr (K:W.Frag):Sp:=λvs H Q _=>∃p a m n,vs=[.ref p,.int n]/\Dw H p a m/\0<n/\n<2 ^ 200/\∀H' r a',0<=r->r<n->Ch p H H'->Dw H' p a' m->Q (.int r) H'
def Cr (K:W.Frag):Sp:=λvs H Q _=>∃p a m b,vs=[.ref p,.bl b]/\Dw H p a m/\∀H' r a',0<=r->Ch p H H'->Dw H' p a' m->Q (.int r) H'
section
variable {Z:Wc}{H:Hp}{D0:Ends}{p:Addr}{a m n c:Int}{b:Bool}
theorem ZA (hκ:Z.Κ=[])(hφ:Z.Φ=[])(q:∀H' p a m,H p=none->Same H H'->Dw H' p a m->D0.rt (.ref p) H'):wS Z L67.dn D0 [some (.int c),some (.bl b)] H:=by
 have sl:∀{H':Hp},Sl Z.K H' [some (.int c),some (.bl b)] [some (.od,.int c),some (.od,.bool b)]:=λ{H'}=>.nO (.da (B:=AnyB) rfl .nil);refine cK (fZ (iK hκ hφ sl (aU (aF rfl) rfl) λH1 s1=>?_));cases b with
 |true=>refine jD (jM (aS (aV (Z:=Z) rfl ⟨c,rfl,?_⟩)));exact aS (fX λH2 s2=>cH ⟨by rw[cz];simp,λp hp=>q _ p _ 0 ((s1.trans s2).none hp) ((s1.trans s2).trans (Same.upd hp)) aW⟩)
 |false=>refine cL Z (jD (jM (aS (cP hκ hφ sl (fP (aF rfl) aQ.e (xG (by decide)) rfl).e λv H2 s2 r=>?_))));obtain rfl:v=.int (c%2147483629):=r;exact aS (fX λH3 s3=>cH ⟨by rw[cz];simp,λp hp=>q _ p _ 1 ((s1.trans (s2.trans s3)).none hp) ((s1.trans (s2.trans s3)).trans (Same.upd hp)) aW⟩)
theorem ZC (hκ:Z.Κ=[])(hφ:Z.Φ=[])(d:Dw H p a m)(h0:0<n)(h1:n<2 ^ 200)(q:∀H' r a',0<=r->r<n->Ch p H H'->Dw H' p a' m->D0.rt (.int r) H'):wS Z L67.dr D0 [some (.ref p),some (.int n),none] H:=by
 have sl:∀{H':Hp} {a':Int} {o2:Option V} {r2:Option GD},Dw H' p a' m->Sl Z.K H' [o2] [r2]->Sl Z.K H' [some (.ref p),some (.int n),o2] [some (.od,.list [.int a',.int m]),some (.od,.int n),r2]:=λ{H' a' o2 r2} d' t=>.da d'.rep (.nO t);have up:∀{H1 H2:Hp} {a':Int},Same H H1->Same H1 H2->Dw (upd H2 p (.lst ([V.int a,.int m].set 0 (.int a')))) p a' m/\Ch p H (upd H2 p (.lst ([V.int a,.int m].set 0 (.int a')))):=λ{H1 H2 a'} s1 s2=>⟨aW,λb o hb e=>by rw[aC hb];exact s2 _ _ (s1 _ _ e)⟩;have m0:∀x:Int,0<=x%n:=λx=>Int.emod_nonneg _ (by omega);have mn:∀x:Int,x%n<n:=λx=>Int.emod_lt_of_pos _ h0;have md:∀x:Int,cW .Mod (.int x) (.int n)=.ok (.int (x%n)):=λx=>by show(if 0<n then Res.ok (PyData.int (x%n))else .no)=_;rw[xu h0]
 refine cJ (cP hκ hφ (sl d (.no .nil)) (aH (aF rfl) aQ.e rfl rfl).e λv2 H1 s1 r2=>?_);obtain rfl:v2=.int a:=r2;have d1:=s1 _ _ d;refine cK (fZ (iK hκ hφ (sl d1 (.nO .nil)) (b:=decide (m=0)) (aU (cG (aH (aF rfl) aQ.e rfl rfl).e aQ.e (by show Res.ok _=_;exact congrArg Res.ok (uA _ _))).e rfl) λH2 s2=>?_));have d2:=s2 _ _ d1;by_cases z:m=0
 ·rw[xu (x6 z)];refine cK (JV (cP hκ hφ (sl d2 (.nO .nil)) (fP (aF rfl) (aF rfl) (by show(if 0<n/\n<2 ^ 200 then Res.ok (PyData.int (a/n))else .no)=_;rw[xu ⟨h0,h1⟩]) rfl).e λv3 H3 s3 r3=>aV rfl (fX λH4 s4=>.inr ?_)));obtain rfl:v3=.int (a/n):=r3;refine⟨p,[.int a,.int m],0,0,rfl,rfl,s4 _ _ (s3 _ _ d2),rfl,?_⟩;obtain⟨g1,g2⟩:=up (s1.trans s2) (s3.trans s4);refine jD (cP hκ hφ (sl g1 (.nO .nil)) (fP (aF rfl) (aF rfl) (md a) rfl).e λv5 H5 s5 r5=>?_);obtain rfl:v5=.int (a%n):=r5;exact q _ _ _ (m0 _) (mn _) (g2.trans (.of s5)) (s5 _ _ g1)
 ·rw[xw (by rw[x8 z];decide)];refine cL Z (cK (JV (cP hκ hφ (sl d2 (.nO .nil)) (d:=.int ((a*69621+48271)%2147483629)) (fP (fP (fP (aF rfl) aQ.e (II (by decide)) rfl).e aQ.e rfl rfl).e aQ.e (xG (by decide)) rfl).e λv3 H3 s3 r3=>aV rfl (fX λH4 s4=>.inr ?_))));obtain rfl:v3=.int ((a*69621+48271)%2147483629):=r3;refine⟨p,[.int a,.int m],0,0,rfl,rfl,s4 _ _ (s3 _ _ d2),rfl,?_⟩;obtain⟨g1,g2⟩:=up (s1.trans s2) (s3.trans s4);refine jD (cP hκ hφ (sl g1 (.nO .nil)) (d:=.int ((a*69621+48271)%2147483629*16807%2147483647/64%n)) (fP (fP (fP (fP (aH (aF rfl) aQ.e rfl rfl).e aQ.e (II (by decide)) rfl).e aQ.e (xG (by decide)) rfl).e aQ.e (OT (by decide) (by decide)) rfl).e (aF rfl) (md _) rfl).e λv5 H5 s5 r5=>?_);obtain rfl:v5=.int ((a*69621+48271)%2147483629*16807%2147483647/64%n):=r5;exact q _ _ _ (m0 _) (mn _) (g2.trans (.of s5)) (s5 _ _ g1)
end
theorem ZD (q:wT Z a U H λc H1=>if c=true then R true H1 else wT Z b U H1 R):wT Z (.BE a b) U H R:=q
theorem PU (q:wE Z a U H λx H1=>wE Z b U H1 λy H2=>rH Z.K (cW op) x y H2 Q):wE Z (.bin op a b) U H Q:=q
abbrev Eg:Int:=1000000000000000000000000000001
section
variable {Z:Wc}{H:Hp}{D0:Ends}{p:Addr}{a m:Int}{b:Bool}
theorem uK (f0:Z.fn[0]?=some (spDr Z.K))(hp:U[0]?=some (some (.ref p)))(d:Dw H p a m)(h0:0<n)(h1:n<2 ^ 200)(hn:∀Q:VK,(∀H',Same H H'->Q (.int n) H')->wE Z as U H Q)(q:∀H' r a',0<=r->r<n->Ch p H H'->Dw H' p a' m->Q (.int r) H'):wE Z (L67.dw as) U H Q:=by refine gL f0 (aS (aV hp (aS (hn _ λH1 s1=>cH ⟨p,a,m,n,rfl,s1 _ _ d,h0,h1,λH' r a' g1 g2 g3 g4=>q H' r a' g1 g2 ((Ch.of s1).trans g3) g4⟩))))
theorem PV:Vv [] [] L67.big Y (.int Eg):=fP (fP aQ.e aQ.e (d:=.int 1000000000000000000000000000000) (by rfl) rfl).e aQ.e (by rfl) rfl
theorem ZE (hκ:Z.Κ=[])(hφ:Z.Φ=[])(f0:Z.fn[0]?=some (spDr Z.K))(d:Dw H p a m)(q:∀H' r a',0<=r->Ch p H H'->Dw H' p a' m->D0.rt (.int r) H'):wS Z L67.cn D0 [some (.ref p),some (.bl b),none,none] H:=by
 have JW:∀{U:L2.St} {H1:Hp} (n:Int) (Q:VK),(∀H',Same H1 H'->Q (.int n) H')->wE Z (L67.i1 n) U H1 Q:=λn Q k=>fX k;have sl:∀{H':Hp} {a':Int} {o2 o3:Option V} {r2 r3:Option GD},Dw H' p a' m->Sl Z.K H' [o2,o3] [r2,r3]->Sl Z.K H' [some (.ref p),some (.bl b),o2,o3] [some (.od,.list [.int a',.int m]),some (.od,.bool b),r2,r3]:=λ{H' a' o2 o3 r2 r3} d' t=>.da d'.rep (.da (B:=AnyB) rfl t);have three:∀{H1:Hp} {a1:Int} {D1:Ends} {B:WS},D1.rt=D0.rt->Ch p H H1->Dw H1 p a1 m->wS Z (.seq (.ret (L67.dw (L67.i1 3))) B) D1 [some (.ref p),some (.bl b),none,none] H1:=λ{H1 a1 D1 B} er c1 d1=>jD (uK f0 rfl d1 (by decide) (by decide) (JW 3) λH' r a' g1 _ g3 g4=>by rw[er];exact q H' r a' g1 (c1.trans g3) g4);refine cK (fZ (ZD (iK hκ hφ (sl d (.no (.no .nil))) (b:=b) (aU (aF rfl) rfl) λH1 s1=>?_)));have d1:=s1 _ _ d;cases hb:b with
 |true=>rw[xu rfl,xu rfl,<-hb];exact three rfl (.of s1) d1
 |false=>
  rw[xw (by decide),<-hb];refine BL (uK f0 rfl d1 (by decide) (by decide) (JW 2) λH2 r a2 g1 g2 g3 g4=>fX λH3 s3=>BK (B:=AnyB) (B':=AnyB) (dx:=.int r) (dy:=.int 0) rfl rfl (by show Res.ok _=_;exact congrArg Res.ok (uA _ _)) λH4 s4=>⟨_,rfl,?_⟩);have c4:=(Ch.of s1).trans (g3.trans (.of (s3.trans s4)));have d4:=s4 _ _ (s3 _ _ g4);by_cases z:r=0
  ·rw[xu (x6 z)];exact three rfl c4 d4
  rw[xw (by rw[x8 z];decide)];refine cL Z (cK (fZ (iK hκ hφ (sl d4 (.no (.no .nil))) (b:=decide (m=0)) (aU (cG (aH (aF rfl) aQ.e rfl rfl).e aQ.e (by show Res.ok _=_;exact congrArg Res.ok (uA _ _))).e rfl) λH5 s5=>?_)));have d5:=s5 _ _ d4;have c5:=c4.trans (.of s5);by_cases zm:m=0
  ·rw[xu (x6 zm)];exact jD (uK (n:=Eg) f0 rfl d5 (by decide) (by decide) (λQ k=>cP hκ hφ (Cf _) PV.e λv H6 s6 r6=>by obtain rfl:v=.int Eg:=r6;exact k H6 s6) λH' r a' g1 _ g3 g4=>q H' r a' g1 (c5.trans g3) g4)
  rw[xw (by rw[x8 zm];decide)];refine cL Z (cJ (fX λH6 s6=>?_));have d6:=s6 _ _ d5;have c6:=c5.trans (.of s6);refine cK (z83 hκ hφ (.no (.no (.no (.no .nil)))) (IV (aI aQ.e bH) rfl) (λx=>x=p) (λx hx=>⟨.lst [.int a2,.int m],by rw[hx];exact d6,λz=>z⟩) (λj σ' H'=>Ch p H H'/\∃a',Dw H' p a' m/\∃(i:Int) (o3:Option V),σ'=[some (.ref p),some (.bl b),some (.int i),o3]) (λH7 s7=>⟨c6.trans (.of s7),a2,s7 _ _ d6,0,none,rfl⟩) ?_ ?_)
  ·rintro j y dd σ' H' H7 D2 hd ⟨c',a',d',i,o3,rfl⟩ s7 ry yZ nx
   refine Cg ry (by simp) λw bE=>?_;have d7:=s7 _ _ d';refine cJ (PU (cP hκ hφ (sl d7 (.nO (.no .nil))) (fP (aF rfl) aQ.e (II (by decide)) rfl).e λv8 H8 s8 r8=>?_));obtain rfl:v8=.int (i*100000007):=r8;refine uK f0 rfl (s8 _ _ d7) (by decide) (by decide) (JW _) λH9 r a9 g1 g2 g3 g4=>?_;refine⟨AnyB,AnyB,.int (i*100000007),.int r,.int (i*100000007+r),rfl,rfl,rfl,λv Eh sV ZG _=>?_⟩;obtain rfl:v=.int (i*100000007+r):=ZG;have PX:=(Ch.of (s7.trans s8)).trans (g3.trans (.of sV));exact cL Z (nx _ _ ⟨c'.trans PX,a9,sV _ _ g4,_,_,rfl⟩ λx o hx e=>PX x o hx e)
  ·rintro σ' H' ⟨c',a',d',i,o3,rfl⟩
   refine jD (cP hκ hφ (.no (.no (.nO (.no .nil)))) (fP (aF rfl) PV.e (xG (by decide)) rfl).e λv H8 s8 r8=>?_);obtain rfl:v=.int (i%Eg):=r8;exact q _ _ _ (Int.emod_nonneg _ (by decide)) (c'.trans (.of s8)) (s8 _ _ d')
end
structure PY (H:Hp)(ns:List Str)(an p:Addr)(a m:Int):Prop where
 na:H an=some (.lst (ns.map V.str))
 so:∀s∈ns,PyData.strOk s=true
 dw:Dw H p a m
 ne:an≠p
 hl:ns.length<=3
 hs:ns.Pairwise sl
 nm:∀n∈ns,n∈NM
structure Cu (ns:List Str)(q:P):Prop where
 pk:PK q
 sub:(q.map (·.1)).Sublist ns
theorem Cu.len (h:Cu ns q):q.length<=ns.length:=by have:=h.sub.length_le;rw[ae]at this;exact this
def spPc (K:W.Frag):Sp:=λvs H Q _=>∃ns an p a m b,vs=[.ref an,.ref p,.bl b]/\PY H ns an p a m/\∀H' u q a',Ch p H H'->Dw H' p a' m->Cu ns q->Rep K H' NoB u (pk q)->Q u H'
section
variable {Z:Wc}{H:Hp}{D0:Ends}{ns:List Str}{an p:Addr}{a m:Int}{b:Bool}
theorem ZH (hκ:Z.Κ=[])(hφ:Z.Φ=[])(f0:Z.fn[0]?=some (Cr Z.K))(h:PY H ns an p a m)(q:∀H' u q a',Ch p H H'->Dw H' p a' m->Cu ns q->Rep Z.K H' NoB u (pk q)->D0.rt u H'):wS Z L67.pc D0 [some (.ref an),some (.ref p),some (.bl b),none,none,none] H:=by
 refine cJ (jM (cH ⟨bw _,λp3 h3=>?_⟩));have PZ:p3≠p:=λz=>by rw[z,show H p=_ from h.dw]at h3;cases h3
 have s3:Same H (upd H p3 (.lst [])):=Same.upd h3;refine cK (z9y (λb' j σ' H'=>b'=an/\Ch p H H'/\∃(a':Int) (q:P) (vs:List V) (o4 o5:Option V),Dw H' p a' m/\σ'=[some (.ref an),some (.ref p),some (.bl b),some (.ref p3),o4,o5]/\H' p3=some (.lst vs)/\Reps Z.K H' NoB vs (q.map pr)/\(q.map (·.1)).Sublist (ns.take j)/\∀x∈q,0<x.2) (λR hR=>aV rfl (hR an _ (SqL.of (s3 _ _ h.na)) ⟨rfl,.of s3,a,[],[],none,none,s3 _ _ h.dw,rfl,aW,rfl,.refl _,λ_ h=>by cases h⟩)) (λb' j σ' H' hh=>by obtain⟨rfl,c,_⟩:=hh;exact SqL.of (c _ _ h.ne h.na)) ?_ ?_)
 ·rintro b' j v σ' H' hv ⟨rfl,c',a',q',vs,o4,o5,d',rfl,JX,rq,sub,pos⟩ D2 yZ nx
  rw[az]at hv;obtain⟨n,hn,rfl⟩:=ci.mp hv;have mem:=b0 hn;have tk:ns.take (j+1)=ns.take j++[n]:=by rw[ja,hn];rfl
  have ql:q'.length<=3:=by have h1:=sub.length_le;rw[ae,gf]at h1;have:=h.hl;omega
  refine Cg (d:=.str n) (B:=AnyB) ⟨rfl,h.so n mem⟩ (by simp) λw bE=>?_;obtain⟨rfl,_⟩:=bE;refine cJ (gL f0 (aS (aV rfl (aS (aV rfl (cH ⟨p,a',m,b,rfl,d',λH1 r a1 r0 c1 d1=>?_⟩))))));have q3:=c1 _ _ PZ JX;have JY:=Reps.keep (λx ob e z=>c1.fix d' x ob e (z.elim (λz=>z.elim) _root_.id)) (λ_ z=>z) _ rq;obtain⟨fl,ef⟩:=YV (h.nm n mem);have sl:∀{H2:Hp} {i:Int},Sl Z.K H2 [some (.ref b'),some (.ref p),some (.bl b),some (.ref p3),some (.str n),some (.int i)] [none,none,none,none,some (.od,.str n),some (.od,.int i)]:=λ{H2 i}=>.no (.no (.no (.no (.da (B:=AnyB) ⟨rfl,h.so n mem⟩ (.nO .nil)))));have ht:∀{i:Int},Tt [] [] (.tv (.cmp .Gt (.var 5) (.int 0))) [none,none,none,none,some (.od,.str n),some (.od,.int i)] (decide (0<i)):=λ{i}=>aU (cG (aF rfl) aQ.e rfl).e rfl
  have fin:∀{i:Int} {H2:Hp},0<=i->Same H1 H2->wS Z (.seq (.bI (.tp (.tv (.cmp .Gt (.var 5) (.int 0)))) (.seq (.app (.raw 3) (.bG (.tup (.cons (.var 4) (.cons (.var 5) .nil))))) .nil) .nil) .nil) D2 [some (.ref b'),some (.ref p),some (.bl b),some (.ref p3),some (.str n),some (.int i)] H2:=λ{i H2} i0 s2=>by
   refine cK (fZ (iK hκ hφ sl ht λH3 s3=>?_));have jF:=s2.trans s3;by_cases z:0<i
   ·rw[xu (x6 z)];refine cK (Ee (aV rfl ⟨.inl ⟨rfl,_,SqL.of (jF _ _ q3)⟩,cP hκ hφ sl (sG (dI (v_var rfl rfl) (dI (v_var rfl rfl) eU))).e λv H4 s4 r4=>?_⟩));have kL:=jF.trans s4;have lv:=JY.length;refine⟨p3,vs,v,rfl,rfl,kL _ _ q3,by rw[lv,ae,cz];omega,cL Z (cL Z ?_)⟩;have ne:∀x,x≠p3->upd H4 p3 (.lst (vs++[v])) x=H4 x:=λx hx=>aC hx;refine nx _ _ ⟨rfl,λx o hx e=>?_,a1,q'++[(n,i)],vs++[v],_,_,?_,rfl,aW,?_,?_,λx hx=>?_⟩
    ·rw[ne x λw=>by rw[w,h3]at e;cases e];exact kL _ _ (c1 _ _ hx (c' _ _ hx e))
    ·show upd H4 p3 _ p=_;rw[ne p (Ne.symm PZ)];exact kL _ _ d1
    ·rw[cj];exact Reps.xK (kL _ _ q3) ((JY.same kL λ_ z=>z).append (Reps.cons (Rep.bB _ rfl r4) rfl))
    ·rw[cj,tk];exact sub.append (.refl _)
    ·rcases ce.mp hx with hx|hx
     ·exact pos x hx
     ·rw[ah.mp hx];exact z
   ·rw[xw (by rw[x8 z];decide)];refine cL Z (cL Z ?_);refine nx _ _ ⟨rfl,c'.trans (c1.trans (.of jF)),a1,q',vs,_,_,jF _ _ d1,rfl,jF _ _ q3,JY.same jF λ_ z=>z,?_,pos⟩;rw[tk];exact sub.trans (qc _ _)
  refine cK (fZ (iK hκ hφ sl (b:=decide (0<r)&&decide (fl=("w":Str))) (IU ht λ_=>aU (cG (k:=decide (fl=("w":Str))) (aH (aF rfl) aQ.e ef rfl).e eY.e (by show Res.ok _=_;rw[jN])).e rfl) λH2 s2=>?_));cases hc:decide (0<r)&&decide (fl=("w":Str))with
  |true=>refine cJ (fX λH3 s3=>cL Z ?_);exact fin (by decide) (s2.trans s3)
  |false=>exact cL Z (fin r0 s2)
 ·rintro b' σ' H' ⟨rfl,c',a',q',vs,o4,o5,d',rfl,JX,rq,sub,pos⟩
  rw[ae,km]at sub;refine jD (cP hκ hφ (Y:=[none,none,none,some (.od,.list (q'.map pr)),none,none]) (.no (.no (.no (.da (B:=AnyB) ⟨p3,vs,rfl,.inl ⟨JX,trivial⟩,rq.weak λ_ z=>z.elim⟩ (.no (.no .nil)))))) (yN (w:=(true,q'.map pr)) (aF rfl) rfl (IG _ _) (cO q')).e λv H2 s2 r2=>?_);exact q H2 v q' a' (c'.trans (.of s2)) (s2 _ _ d') ⟨⟨ma.mp (h.hs.sublist sub),pos⟩,sub⟩ (Rep.bB _ (cO q') r2)
end
theorem zng {K:W.Frag}{g:TG}{tc:TT}{te:TE}{em:L2.St->L2.St}{Q:Addr->Hp->Prop}(wk:Walk K J NoB H1 (L.map pr))(d:Dw H1 p a m)
  (one:∀x∈L,∀(v:V) (H3:Hp) (a3:Int) (N:Hp->Prop) (M:VK),Ch p H1 H3->Dw H3 p a3 m->Rep K H3 NoB v (pr x)->(∀H' a',Ch p H3 H'->Dw H' p a' m->N H')->(∀y H' a',Ch p H3 H'->Dw H' p a' m->Rep K H' NoB y (pr x)->M y H')->g v (em U) H3 λbM H4=>eE (em U) bM/\tc bM H4 λb H5=>if b=true then te bM H5 M else N H5)
  (q:∀l vs (ys:P) H' a',H1 l=none->Ch p H1 H'->Dw H' p a' m->H' l=some (.lst vs)->Reps K H' NoB vs (ys.map pr)->ys.Sublist L->Q l H'):
  ∀l,H1 l=none->∃P:Nat->Nat->List V->Hp->Prop,(∃m,P 0 m [] (upd H1 l (.lst [])))/\∀i m acc H2,P i m acc H2->(J.stop i H2/\Q l H2)\/(J.go i H2/\acc.length<bc/\∃N:List V->Hp->Prop,(∀acc' H',N acc' H'->∃m',m'<m/\P (i+1) m' acc' H')/\∀x H3,J.fU i H2 x H3->g x (em U) H3 λbM H4=>eE (em U) bM/\tc bM H4 λb H5=>if b=true then te bM H5 λy H6=>H6 l=some (.lst acc)/\N (acc++[y]) (upd H6 l (.lst (acc++[y])))else N acc H5):=by
 intro l hl;have lp:l≠p:=λz=>by rw[z,show H1 p=_ from d]at hl;cases hl
 let P:Nat->Nat->List V->Hp->Prop:=λi k acc H2=>k=L.length-i/\i<=L.length/\Ch p H1 H2/\H2 l=some (.lst acc)/\∃(a2:Int) (ys:Mk.P),Dw H2 p a2 m/\Reps K H2 NoB acc (ys.map pr)/\ys.Sublist (L.take i)
 have fx:∀{H2:Hp},Ch p H1 H2->Kp NoB H1 H2:=λ{H2} c b o e z=>c.fix d b o e (z.elim (λz=>z.elim) _root_.id);refine⟨P,⟨_,rfl,bw _,.of (Same.upd hl),aW,a,[],(Same.upd hl) _ _ d,rfl,.refl _⟩,?_⟩
 rintro i k acc H2 ⟨rfl,hi,c2,fY,a2,ys,d2,ry,sub⟩
 have ll:(L.map pr).length=L.length:=ae ..;by_cases bF:i<L.length
 ·have hal:acc.length<bc:=by
   have h1:=ry.length;have h2:=wk.len;have h3:=sub.length_le;rw[ae]at h1 h2;rw[gf]at h3;omega
  have tk:L.take (i+1)=L.take i++[L[i]]:=by rw[ja,ak bF];rfl
  refine .inr ⟨wk.go H2 (fx c2) i (by rw[ll];exact bF),hal,P (i+1) (L.length-(i+1)),λacc' H' w=>⟨_,by omega,w⟩,λx H3 hy=>?_⟩;obtain⟨s3,dd,hd,rx⟩:=wk.fU H2 (fx c2) i x H3 (by rw[ll];exact bF) hy;rw[az,ak bF]at hd;cases hd;have d3:=s3 _ _ d2;have c3:=c2.trans (.of s3);refine one L[i] (d9 bF) x H3 a2 _ _ c3 d3 rx (λH' a' c' d'=>?_) λy H' a' c' d' ZI=>?_
  ·refine⟨rfl,bF,c3.trans c',c' _ _ lp (s3 _ _ fY),a',ys,d',?_,?_⟩
   ·exact Reps.keep (λx ob e z=>c'.fix d3 x ob e (z.elim (λz=>z.elim) _root_.id)) (λ_ z=>z) _ (ry.same s3 λ_ z=>z)
   ·rw[tk];exact sub.trans (qc _ _)
  ·have zx:=c' _ _ lp (s3 _ _ fY);refine⟨zx,rfl,bF,λb o hb e=>?_,aW,a',ys++[L[i]],?_,?_,?_⟩
   ·rw[aC λz=>by rw[z,hl]at e;cases e];exact c' _ _ hb (c3 _ _ hb e)
   ·show upd H' l _ p=_;rw[aC (Ne.symm lp)];exact d'
   ·rw[cj];exact Reps.xK zx ((Reps.keep (λx ob e z=>c'.fix d3 x ob e (z.elim (λz=>z.elim) _root_.id)) (λ_ z=>z) _ (ry.same s3 λ_ z=>z)).append (Reps.cons ZI rfl))
   ·rw[tk];exact sub.append (.refl _)
 ·have rK:i=L.length:=by omega
  subst rK;refine .inl ⟨by rw[<-ll];exact wk.stop H2 (fx c2),q l acc ys H2 a2 hl c2 d2 fY ry ?_⟩;rw[km]at sub;exact sub
theorem ZJ (q:wE Z a U H λx H1=>rAgg Z.K "tuple" [x] H1 Q):wE Z (.BF a) U H Q:=q
def OwnR (r:Ru):Prop:=biR r (r.2.1,r.2.2.1)=true
theorem ZK (h:r.1.Sublist (own b f.1 a.1)):OwnR (b,f,a,r):=by show(wi r.1 (own b f.1 a.1)&&wi (kJ b f.1 a.1) (kJ b f.1 a.1))=true;have hw:PK (own b f.1 a.1):=B8 f.2.1 a.2.1;rw[show wi r.1 (own b f.1 a.1)=true by rw[Ju];exact bj.mpr λp hp=>by unfold look;rw[xF hw.nd (h.subset hp)];show(!decide (p.2<p.2))=true;rw[x8 (ur _)];rfl,DZ (by cases b;exact f.2.1;exact a.2.1)];rfl
structure RlA (K:W.Frag)(H:Hp)(o:Op)(cs:List Cs)(p:Addr)(a m:Int)(vr vc:V):Prop where
 dw:Dw H p a m
 rr:Rep K H NoB vr (opD o)
 rc:Rep K H (nQ [p]) vc (.list (cs.map cD))
 c1:1<=cs.length
 c2:cs.length<=8
def spRl (K:W.Frag):Sp:=λvs H Q _=>∃o cs p a m b vr vc,vs=[.ref p,vr,.bl b,vc]/\RlA K H o cs p a m vr vc/\∀H' u r a',Ch p H H'->Dw H' p a' m->OwnR r->Rep K H' NoB u (ruD r)->Q u H'
theorem Ch.rep {K:W.Frag}(c:Ch p H H')(w:Dw H p a m)(hB:∀x,B x->nQ [p] x)(r:Rep K H B v d):Rep K H' B v d:=Rep.keep (λx ob e z=>by
 rcases z with z|z
 ·exact c x ob (λw=>hB _ z (w▸ .head _)) e
 ·exact c.fix w x ob e z) (λ_ z=>z) _ r
section
variable {Z:Wc}{H:Hp}{D0:Ends}{o:Op}{cs:List Cs}{p:Addr}{a m:Int}{b:Bool}{vr vc:V}{c:Cs}
theorem JZ (s:Bool)(f g:P):fC (mX f g) (.int (if s then 0 else 1))=.ok (pk (own s f g)):=OV s f g
theorem J2 {r:Int}(h0:0<=r)(h1:r<2):∃s:Bool,r=if s then 0 else 1:=by
 have:r=0\/r=1:=by omega
 rcases this with rfl|rfl
 ·exact⟨true,rfl⟩
 ·exact⟨false,rfl⟩
theorem ze0 (hκ:Z.Κ=[])(hφ:Z.Φ=[])(f0:Z.fn[0]?=some (spDr Z.K))(d:Dw H p a m)(r4:Rep Z.K H NoB v4 (cD c))
  (q:∀H' u r a',Ch p H H'->Dw H' p a' m->OwnR r->Rep Z.K H' NoB u (ruD r)->D0.rt u H'):wS Z L67.JE D0 [some (.ref p),some vr,some (.bl b),some vc,some v4,o5,none,none] H:=by
 have i2:∀{U:L2.St} {H1:Hp} (Q:VK),(∀H',Same H1 H'->Q (.int 2) H')->wE Z (L67.i1 2) U H1 Q:=λQ k=>fX k;refine cJ (uK f0 rfl d (by decide) (by decide) i2 λH1 r a1 g1 g2 c1 d1=>?_);obtain⟨s,rfl⟩:=J2 g1 g2;have P0:Rep Z.K H1 NoB v4 (cD c):=c1.aP d (sS c) r4;have sl:∀{H2:Hp} {o7:Option V} {q7:Option GD},Rep Z.K H2 NoB v4 (cD c)->Sl Z.K H2 [o7] [q7]->Sl Z.K H2 [some (.ref p),some vr,some (.bl b),some vc,some v4,o5,some (.int (if s then 0 else 1)),o7] [none,none,none,none,some (.od,cD c),none,some (.od,.int (if s then 0 else 1)),q7]:=λ{H2 o7 q7} r t=>.no (.no (.no (.no (.da r (.no (.nO t))))));have e7:∀{q7:Option GD},Vv [] [] (.ix (.var 4) (.var 6)) [none,none,none,none,some (.od,cD c),none,some (.od,.int (if s then 0 else 1)),q7] (pk (own s c.1.1 c.2.1)):=λ{q7}=>aH (aF rfl) (aF rfl) (JZ s _ _) (cO _);refine cJ (cP hκ hφ (sl P0 (.no .nil)) e7.e λv7 H2 s2 r7=>?_);have c2:=c1.trans (.of s2);have d2:=s2 _ _ d1;have ZL:=P0.same s2 λ_ z=>z
 have fin:∀{H3:Hp} {a3:Int} {v:V} {x:Q2} {D1:Ends},D1.rt=D0.rt->Ch p H H3->Dw H3 p a3 m->Rep Z.K H3 NoB v4 (cD c)->Rep Z.K H3 NoB v (pk x.1)->x.1.Sublist (own s c.1.1 c.2.1)->wS Z (.seq (.ret (.bG (.tup (.cons (.var 4) (.cons (.ix (.lst (.cons (.str "for") (.cons (.str "against") .nil))) (.var 6)) (.cons (.var 7) .nil)))))) .nil) D1 [some (.ref p),some vr,some (.bl b),some vc,some v4,o5,some (.int (if s then 0 else 1)),some v] H3:=λ{H3 a3 v x D1} er c3 d3 ZM rx sub=>by
  have eu:ruD (s,c.1,c.2,x)=.tuple [cD c,.str (sd s),pk x.1]:=by cases s<;>rfl
  refine jD (cP hκ hφ (sl ZM (.da rx .nil)) (d:=ruD (s,c.1,c.2,x)) ?_ λu H4 s4 ru=>?_)
  ·rw[eu];exact(sG (dI (v_var rfl (sS c)) (dI (aH (Ev.of (iX (dI eY (dI eY eU)))) (aF rfl) (by cases s<;>rfl) rfl) (dI (v_var rfl (cO _)) eU)))).e
  ·rw[er];exact q H4 u _ a3 (c3.trans (.of s4)) (s4 _ _ d3) (ZK sub) (Rep.bB _ (pI _) ru)
 have sW:PK (own s c.1.1 c.2.1)/\(own s c.1.1 c.2.1).length<=2:=by cases s;exact c.2.2;exact c.1.2
 refine cK (fZ (BL (uK f0 rfl d2 (by decide) (by decide) i2 λH3 r a3 g1 g2 g3 g4=>fX λH4 s4=>BK (B:=AnyB) (B':=AnyB) (dx:=.int r) (dy:=.int 0) rfl rfl (by show Res.ok _=_;exact congrArg Res.ok (uA _ _)) λH5 s5=>⟨_,rfl,?_⟩)));have jG:=s4.trans s5;have c5:=g3.trans (.of jG);have d5:=jG _ _ g4;have J3:Rep Z.K H5 NoB v4 (cD c):=c5.aP d2 (sS c) ZL;have ZN:Rep Z.K H5 NoB v7 (pk (own s c.1.1 c.2.1)):=c5.aP d2 (cO _) r7;by_cases z:r=0
 ·rw[xu (x6 z)];refine cJ (ZJ (DR (cP hκ hφ (sl J3 (.no .nil)) e7.e λw H6 s6 bE=>⟨NoB,_,(own s c.1.1 c.2.1).map pr,Rep.bB _ (cO _) bE,rfl,λJ wk=>?_⟩)));have d6:=s6 _ _ d5;refine zng wk d6 (λx hx v H7 a7 N M c7 d7 rv hN hM=>?_) λl vs ys H7 a7 Eb c7 d7 el ZO sub=>?_
  ·refine zfb (U:=[none,some (.ref p)]) rv (by simp) λσ' u hlen e0 ru rest=>⟨D9 hlen rest,?_⟩;have e1:=rest 1 (by decide);refine BL (gL f0 (aS (aV e1 (aS (fX λH8 s8=>cH ⟨p,a7,m,2,rfl,s8 _ _ d7,by decide,by decide,λH9 r' a9 k1 k2 k3 k4=>?_⟩)))));refine fX λEh sV=>BK (B:=AnyB) (B':=AnyB) (dx:=.int r') (dy:=.int 0) rfl rfl (by show Res.ok _=_;exact congrArg Res.ok (uA _ _)) λpJ xX=>⟨_,rfl,?_⟩;have J4:=(Ch.of s8).trans (k3.trans (.of (sV.trans xX)));have P4:=(sV.trans xX) _ _ k4;by_cases z:r'=0
   ·rw[xu (x6 z)];exact aV e0 (hM u pJ a9 J4 P4 (J4.aP d7 rfl ru))
   ·rw[xw (by rw[x8 z];decide)];exact hN pJ a9 J4 P4
  ·refine⟨AnyB,.ref l,.list (ys.map pr),true,ys.map pr,pk ys,rfl,⟨l,vs,rfl,.inl ⟨el,trivial⟩,ZO.weak λ_ z=>z.elim⟩,rfl,IG _ _,λu H8 s8 ru=>?_⟩;have P5:=(Ch.of s6).trans (c7.trans (.of s8));refine cL Z (fin (x:=⟨ys,⟨sW.1.sd.sublist sub,λp hp=>sW.1.pos p (sub.subset hp)⟩,bo sub.length_le sW.2⟩) rfl (c2.trans (c5.trans P5)) (s8 _ _ d7) (P5.aP d5 (sS c) J3) (Rep.bB _ (cO ys) ru) sub)
 ·rw[xw (by rw[x8 z];decide)];exact cL Z (fin (x:=⟨_,sW⟩) rfl (c2.trans c5) d5 J3 ZN (.refl _))
theorem znj {H1:Hp}{ns:List Str}{p:Addr}{a1:Int}{k:Int}{Y:Rho}{U:L2.St}{Q:VK}(hκ:Z.Κ=[])(hφ:Z.Φ=[])(f1:Z.fn[1]?=some (spPc Z.K))(s:Sl Z.K H1 U Y)(h0:U[0]?=some (some (.ref p)))(h2:U[2]?=some (some (.bl b)))(d1:Dw H1 p a1 m){x:D}{fs:List Str}(so:SO fs ns)
  (ex:Ev [] [] (.ix (.var 1) (.int k)) Y (tS fs)) (q:∀H' u q a',Ch p H1 H'->Dw H' p a' m->Cu ns q->Rep Z.K H' NoB u (pk q)->Q u H'):wE Z (L67.Cb k) U H1 Q:=by
 refine gL f1 (aS (Cj (ns:=ns) s.so (by rw[hκ,hφ];exact IT ex rfl (so.ev _) (xH _)) λpn H2 s2 en=>aS (aV h0 (aS (aV h2 (cH ?_))))));have d2:Dw H2 p a1 m:=s2 _ _ d1;refine⟨ns,pn,p,a1,m,b,rfl,⟨en,λs hs=>YW (so.nm s hs),d2,λz=>?_,bo so.l2 (by decide),so.pw,so.nm⟩,λH' u q' a' g1 g2 g3 g4=>q H' u q' a' ((Ch.of s2).trans g1) g2 g3 g4⟩;rw[z,show H2 p=_ from d2]at en;cases ns with
 |nil=>cases en
 |cons n ns=>cases en
theorem zrd (hκ:Z.Κ=[])(hφ:Z.Φ=[])(f0:Z.fn[0]?=some (spDr Z.K))(f1:Z.fn[1]?=some (spPc Z.K))(h:RlA Z.K H o cs p a m vr vc)
  (q:∀H' u r a',Ch p H H'->Dw H' p a' m->OwnR r->Rep Z.K H' NoB u (ruD r)->D0.rt u H'):wS Z L67.rl D0 [some (.ref p),some vr,some (.bl b),some vc,none,none,none,none] H:=by
 have d:=h.dw;have P6:∀{H1:Hp},Ch p H H1->Rep Z.K H1 (nQ [p]) vc (.list (cs.map cD)):=λ{H1} c1=>c1.rep d (λ_ z=>z) h.rc;have ZP:∀{H1:Hp},Ch p H H1->Rep Z.K H1 NoB vr (opD o):=λ{H1} c1=>c1.aP d (Jw o) h.rr;have sl:∀{H1:Hp} {o4 o5 o6 o7:Option V},Ch p H H1->Sl Z.K H1 [some (.ref p),some vr,some (.bl b),some vc,o4,o5,o6,o7] [none,some (.od,opD o),none,some (.od,.list (cs.map cD)),none,none,none,none]:=λ{H1 o4 o5 o6 o7} c1=>.no (.da (ZP c1) (.no (.da (P6 c1) (.no (.no (.no (.no .nil)))))));have ln:∀{Y:Rho},Y[3]?=some (some (.od,.list (cs.map cD)))->Vv [] [] (.bi "len" (.cons (.var 3) .nil)) Y (.int cs.length):=λ{Y} e=>kH (aI (aF e) bH) (by show Res.ok (PyData.int ((cs.map cD).length:Nat))=_;rw[ae]) rfl;have two:∀{H1:Hp} {a1:Int},Ch p H H1->Dw H1 p a1 m->wS Z (.seq (.asg 5 (L67.Cb 2)) (.seq (.asg 4 (.tup (L67.a2 (.raw 5) (L67.Cb 3)))) .nil)) {D0 with nx:=wS Z L67.JE D0} [some (.ref p),some vr,some (.bl b),some vc,none,none,none,none] H1:=λ{H1 a1} c1 d1=>by refine cJ (znj (x:=.none) hκ hφ f1 (sl c1) rfl rfl d1 o.of (aH (aF rfl) aQ.e rfl (xT _)).e λH2 u2 q2 a2 c2 d2 o2 r2=>?_);refine cJ (DQ (aS (aV rfl (aS (znj (x:=.none) hκ hφ f1 (sl (c1.trans c2)) rfl rfl d2 o.og (aH (aF rfl) aQ.e rfl (xT _)).e λH3 u3 q3 a3 c3 d3 o3 r3=>cH ⟨by rw[cz];simp,λt ht=>cL Z ?_⟩)))));have u:Same H3 (upd H3 t (.tup [u2,u3])):=Same.upd ht;have J5:=c1.trans (c2.trans (c3.trans (.of u)));refine ze0 (c:=(⟨q2,o2.pk,bo o2.len o.of.l2⟩,⟨q3,o3.pk,bo o3.len o.og.l2⟩)) hκ hφ f0 (u _ _ d3) ?_ λH' x r a' g1 g2 g3 g4=>q H' x r a' (J5.trans g1) g2 g3 g4;exact⟨t,_,rfl,bL.of aW,⟨u2,[u3],rfl,(c3.aP d2 (cO q2) r2).same u λ_ z=>z,⟨u3,[],rfl,r3.same u λ_ z=>z,rfl⟩⟩⟩
 refine cK (fZ (Oq (iK hκ hφ (sl (.of (Same.refl H))) (b:=decide (o.n="wopen")) (aU (cG (k:=decide (o.n="wopen")) (aH (aF rfl) aQ.e rfl rfl).e eY.e (by show Res.ok _=_;rw[jN])).e rfl) λH1 s1=>?_)));have d1:=s1 _ _ d;by_cases zo:o.n="wopen"
 ·rw[xu (x6 zo)];refine BL (uK f0 rfl d1 (by decide) (by decide) (λQ k=>fX k) λH2 r a2 g1 g2 c2 d2=>fX λH3 s3=>BK (B:=AnyB) (B':=AnyB) (dx:=.int r) (dy:=.int 0) rfl rfl (by show Res.ok _=_;exact congrArg Res.ok (uA _ _)) λH4 s4=>⟨_,rfl,?_⟩);have c4:=(Ch.of s1).trans (c2.trans (.of (s3.trans s4)));have d4:=(s3.trans s4) _ _ d2;by_cases z:r=0
  ·rw[xu (x6 z)];have c1:=h.c1;have c28:=h.c2;refine cJ (Jb (aV rfl (uK (n:=cs.length) f0 rfl d4 (by omega) (by omega) (λQ k=>cP hκ hφ (sl c4) (ln rfl).e λv H5 s5 r5=>by obtain rfl:v=.int cs.length:=r5;exact k H5 s5) λH5 r5 a5 k1 k2 k3 k4=>?_)));obtain⟨i,rfl⟩:=Int.eq_ofNat_of_zero_le k1;have hi:i<cs.length:=by omega
   have c5:=c4.trans k3;refine⟨nQ [p],AnyB,.list (cs.map cD),.int i,cD cs[i],P6 c5,rfl,xV cD hi,λw bE=>cL Z ?_⟩;exact ze0 hκ hφ f0 k4 (Rep.bB _ (sS _) bE) λH' x r a' g1 g2 g3 g4=>q H' x r a' (c5.trans g1) g2 g3 g4
  ·rw[xw (by rw[x8 z];decide)];exact two c4 d4
 ·rw[xw (by rw[x8 zo];decide)];exact two (.of s1) d1
end
theorem zj5 {K:W.Frag}{α:Type}{L:List α}{e f:α->D}{g:TG}{tc:TT}{te:TE}{em:L2.St->L2.St}{Q:Addr->Hp->Prop}(wk:Walk K J B H1 (L.map e))(hB:∀x,B2 (some x)->H1 x≠none)
  (one:∀a∈L,∀(v:V) (H3:Hp) (N:Hp->Prop) (M:VK),Same H1 H3->Rep K H3 B v (e a)->(∀y H',Same H3 H'->Rep K H' B2 y (f a)->M y H')->g v (em U) H3 λbM H4=>eE (em U) bM/\tc bM H4 λb H5=>if b=true then te bM H5 M else N H5)
  (q:∀l vs H',H1 l=none->Same H1 H'->H' l=some (.lst vs)->Reps K H' B2 vs (L.map f)->Q l H'):
  ∀l,H1 l=none->∃P:Nat->Nat->List V->Hp->Prop,(∃m,P 0 m [] (upd H1 l (.lst [])))/\∀i m acc H2,P i m acc H2->(J.stop i H2/\Q l H2)\/(J.go i H2/\acc.length<bc/\∃N:List V->Hp->Prop,(∀acc' H',N acc' H'->∃m',m'<m/\P (i+1) m' acc' H')/\∀x H3,J.fU i H2 x H3->g x (em U) H3 λbM H4=>eE (em U) bM/\tc bM H4 λb H5=>if b=true then te bM H5 λy H6=>H6 l=some (.lst acc)/\N (acc++[y]) (upd H6 l (.lst (acc++[y])))else N acc H5):=by
 intro l hl
 have ZQ:∀a,B2 a->nQ [l] a:=λa z=>by
  cases a with
  |none=>exact trivial
  |some x=>exact λw=>hB x z ((ah.mp w)▸hl)
 let P:Nat->Nat->List V->Hp->Prop:=λi m acc H2=>m=L.length-i/\i<=L.length/\Same H1 H2/\H2 l=some (.lst acc)/\Reps K H2 B2 acc ((L.take i).map f)
 refine⟨P,⟨_,rfl,bw _,Same.upd hl,aW,rfl⟩,?_⟩
 rintro i m acc H2 ⟨rfl,hi,s2,fY,ra⟩
 have ll:(L.map e).length=L.length:=ae ..;by_cases bF:i<L.length
 ·have hal:acc.length<bc:=by
   have h1:=ra.length;have h2:=wk.len;rw[ae,gf]at h1;omega
  have tk:L.take (i+1)=L.take i++[L[i]]:=by rw[ja,ak bF];rfl
  refine .inr ⟨wk.go H2 (Kp.of s2) i (by rw[ll];exact bF),hal,P (i+1) (L.length-(i+1)),λacc' H' w=>⟨_,by omega,w⟩,λx H3 hy=>?_⟩;obtain⟨s3,d,hd,rx⟩:=wk.fU H2 (Kp.of s2) i x H3 (by rw[ll];exact bF) hy;rw[az,ak bF]at hd;cases hd;refine one L[i] (d9 bF) x H3 _ _ (s2.trans s3) rx λy H' s4 ry=>?_;have Cd:=s4 _ _ (s3 _ _ fY);refine⟨Cd,rfl,bF,λb o eb=>?_,aW,?_⟩
  ·rw[aC (cQ eb hl)];exact s4 b o (s3 b o (s2 b o eb))
  ·rw[tk,cj];exact Reps.aC Cd (.head _) ZQ ((ra.same (s3.trans s4) λ_ z=>z).append ⟨y,[],rfl,ry,rfl⟩)
 ·have rK:i=L.length:=by omega
  subst rK;refine .inl ⟨by rw[<-ll];exact wk.stop H2 (Kp.of s2),q l acc H2 hl s2 fY ?_⟩;rw[km]at ra;exact ra
theorem bL.same {K:W.Frag}(h:bL K H a vs)(s:Same H H'):bL K H' a vs:=by
 rcases h with(h|⟨o,h⟩)|h
 ·exact .inl (.inl (s _ _ h))
 ·exact .inl (.inr ⟨o,s _ _ h⟩)
 ·exact .inr h
theorem zrg {K:W.Frag}(s:Same H0 H)(r:Rep K H (fun a=>¬Mi.nw H0 a) v d)(hi:i<U.length)
  (q:∀σ' w,σ'.length=U.length->σ'[i]?=some (some w)->Rep K H (λa=>¬Mi.nw H0 a) w d->(∀j,j≠i->σ'[j]?=U[j]?)->Q σ' H):tDG K (.nm i) v U H Q:=by
 refine⟨bv U.length none,⟨H0,λ_=>True,λ_=>none,True⟩,(.od,d),(bv U.length none).set i (some (z1l (.od,d))),⟨s,λ_ _=>trivial,λa i e=>(by cases e),by rw[cf],λj g d' e=>?_⟩,r.weak λx z=>?_,rfl,λσ' F' so kp=>?_⟩
 ·rw[eh]at e;split at e<;>cases e
 ·cases x with
  |none=>exact trivial
  |some x=>exact⟨z,trivial⟩
 ·have e1:((bv U.length none).set i (some (z1l (G.od,d))))[i]?=some (some (z1l (G.od,d))):=by
   rw[fz];rw[cf];exact hi
  obtain⟨w,e2,r2⟩:=so.sl i _ _ e1;refine q σ' w kp.len e2 (Rep.weak (r:=r2) λx z=>?_) λj hj=>kp.rest j (by simpa[tgIx]using hj);cases x with
  |none=>exact λz=>z
  |some x=>exact λw=>by have:=z.1;rw[kp.h0]at this;exact this w
def P7 (H:Hp):Ad->Prop
 |some x=>∃l,H x=some (.lst l)
 |none=>True
mutual
theorem Rep.mZ {K:W.Frag}{H:Hp}{B:Ad->Prop}:∀{v:V} (d:aq) (n:Nat),aN n d=true->Rep K H B v d->Rep K H (λa=>B a/\P7 H a) v d
 |v,.none,_,_,r=>r
 |v,.bool _,_,_,r=>r
 |v,.int _,_,_,r=>r
 |v,.str _,_,_,r=>r
 |v,.tuple ds,n,s,r=>by
  obtain⟨a,vs,e,h,q⟩:=r;cases n with
  |zero=>cases s
  |succ n=>exact⟨a,vs,e,h,Reps.mZ ds n s q⟩
 |v,.list ds,n,s,r=>by
  obtain⟨a,vs,e,h,q⟩:=r;cases n with
  |zero=>cases s
  |succ n=>
   refine⟨a,vs,e,?_,Reps.mZ ds n s q⟩;rcases h with⟨h,z⟩|⟨h,z⟩
   ·exact .inl ⟨h,z,vs,h⟩
   ·exact .inr ⟨h,z,trivial⟩
 |v,.dict es,n,s,r=>by cases n<;>cases s
theorem Reps.mZ {K:W.Frag}{H:Hp}{B:Ad->Prop}:∀{vs:List V} (ds:List aq) (n:Nat),dQ n ds=true->Reps K H B vs ds->Reps K H (λa=>B a/\P7 H a) vs ds
 |vs,[],_,_,r=>r
 |vs,d::ds,n,s,r=>by obtain⟨v,t,e,h,q⟩:=r;have s:=av.mp s;exact⟨v,t,e,Rep.mZ d n s.1 h,Reps.mZ ds n s.2 q⟩
end
def bQ (f g:List (List Str)->Bool)(L:List bN):D:=.list [.list (L.map λx=>.list (x.2.map fQ)),.list [.str (cZ f L),.str (cZ g L)]]
structure NwA (K:W.Frag)(H:Hp)(rows:List Rw)(es:bK)(bk:Str->List Ru)(hd:List P)(fa:P->P)(ask:Str->D)(fo:Str->List (List Str)->Bool)(va vb vt:V):Prop extends RgA K H rows es bk hd fa va vb vt where
 ha:∀cl∈(["ca","cb"]:List Str),BY [.list (rows.map iM),.str cl]=.ok (.fr,ask cl)
 hs:∀cl∈(["ca","cb"]:List Str),∀hs:List (List Str),hs.length=hd.length->(∀w∈hs,w.length<=20)->pG 1 [ask cl,.list ((hd.map fa).map pk),.list (hs.map fQ)]=.ok (.fr,.bool (fo cl hs))
def spNw (K:W.Frag):Sp:=λvs H Q _=>∃rows es bk hd fa ask fo va vb vt,vs=[va,vb,vt]/\NwA K H rows es bk hd fa ask fo va vb vt/\∀H' u,Same H H'->Rep K H' AnyB u (bQ (fo "ca") (fo "cb") (iC bk (hd.map fa) rows))->Q u H'
theorem ZR (f:List (List Str)->Bool)(L:List bN):PyData.strOk (cZ f L)=true:=by
 unfold cZ;split
 ·decide+kernel
 ·split<;>decide+kernel
theorem P8 {K:W.Frag}{k:Nat}(h:bL K H t xs)(e:xs[k]?=some v)(q:Q v H):vH K (.ref t) (.int k) H Q:=.inr (.inl ⟨t,xs,k,v,rfl,rfl,h,by unfold L2.dF L2.jU;have:k<xs.length:=(bp.mp e).1;rw[xu (by omega),xu (by omega)];rw[j4];exact e,q⟩)
section
variable {Z:Wc}{H:Hp}{D0:Ends}{rows:List Rw}{es:bK}{bk:Str->List Ru}{hd:List P}{fa:P->P}{ask:Str->D}{fo:Str->List (List Str)->Bool}{va vb vt:V}
theorem zn2 (hκ:Z.Κ=[])(hφ:Z.Φ=[])(f0:Z.fn[0]?=some (spRd Z.K))(f1:Z.fn[1]?=some (spSe Z.K))(a:NwA Z.K H rows es bk hd fa ask fo va vb vt)
  (q:∀H' u,Same H H'->Rep Z.K H' AnyB u (bQ (fo "ca") (fo "cb") (iC bk (hd.map fa) rows))->D0.rt u H'):wS Z L67.nw D0 [some va,some vb,some vt,none] H:=by
 have sk:=λcl h=>by
  have:(["ca","cb"]:List Str).all PyData.strOk=true:=by decide+kernel
  exact bj.mp this cl h
 have rg:∀{H':Hp},Same H H'->RgA Z.K H' rows es bk hd fa va vb vt:=λ{H'} s=>⟨a.ok,a.ra.same s λ_ z=>z,a.rb.same s λ_ z=>z,a.rt.same s λ_ z=>z,a.hf,a.hu,a.hl⟩;refine cJ (DR (cP hκ hφ (Cf _) (d:=.list ((["ca","cb"]:List Str).map .str)) (Ev.of (iX (dI eY (dI eY eU)))) λw H1 s1 bE=>⟨AnyB,_,(["ca","cb"]:List Str).map .str,bE,rfl,λJ wk=>?_⟩));refine zj5 (B2:=NoB) (f:=λcl=>.str (cZ (fo cl) (iC bk (hd.map fa) rows))) wk (λ_ z=>z.elim) (λcl hc v H3 N M s3 rv hM=>?_) λl vs H2 hl s2 el gI=>?_
 ·refine zfb (U:=[none,some va,some vb,some vt]) rv (by simp) λσ' u hlen e0 ru rest=>⟨D9 hlen rest,?_⟩;obtain⟨rfl,_⟩:=ru;refine DP (gL f1 (aS (aV (rest 1 (by decide)) (aS (aV (rest 2 (by decide)) (aS (aV (rest 3 (by decide)) (aS (aV e0 (cH ?_))))))))));refine⟨rows,es,bk,hd,fa,cl,ask cl,fo cl,va,vb,vt,rfl,⟨rg (s1.trans s3),a.ha cl hc,sk cl hc,a.hs cl hc⟩,λH4 t v s4 et=>fX λH5 s5=>P8 (bL.of (s5 _ _ et)) rfl ?_⟩;exact hM _ _ (s4.trans s5) ⟨rfl,ZR _ _⟩
 have iL:=s1.trans s2;refine jD (jM (aS (DR (gL f0 (aS (aV rfl (aS (aV rfl (aS (aV rfl (cH ⟨rows,es,bk,hd,fa,va,vb,vt,rfl,rg iL,λH3 u s3 ru=>⟨_,_,(iC bk (hd.map fa) rows).map rdD,(Rep.there _ ru).weak λ_ z=>z.2,rfl,λJ wk=>?_⟩⟩)))))))))));refine zj5 (B2:=λa=>¬Mi.nw H3 a) (f:=λx=>.list (x.2.map fQ)) wk (λx z=>z) (λx hx v H4 N M s4 rv hM=>?_) λl' eB H4 zx s4 Ic J6=>?_
 ·refine zrg (U:=[none]) s4 rv (by decide) λσ' u' hlen e0 Ci rest=>⟨D9 hlen rest,?_⟩;obtain⟨t,vs,rfl,hq,⟨ve,r1,rfl,_,⟨vh,r2,rfl,rh,_⟩⟩⟩:=Ci;refine DP (aV e0 (fX λH5 s5=>P8 (bL.same hq s5) rfl (hM _ _ s5 (rh.same s5 λ_ z=>z))))
 refine aS (aV rfl (cH ⟨by rw[cz];simp,λp hp=>?_⟩));have u:Same H4 (upd H4 p (.lst [.ref l',.ref l])):=Same.upd hp;have J7:=s3.trans s4;refine q _ _ (iL.trans (J7.trans u)) ⟨p,_,rfl,.inl ⟨aW,trivial⟩,⟨.ref l',[.ref l],rfl,⟨l',eB,rfl,.inl ⟨u _ _ Ic,trivial⟩,(J6.same u λ_ z=>z).weak λ_ _=>trivial⟩,⟨.ref l,[],rfl,⟨l,vs,rfl,.inl ⟨u _ _ (J7 _ _ el),trivial⟩,(gI.same (J7.trans u) λ_ z=>z).weak λ_ _=>trivial⟩,rfl⟩⟩⟩
end
theorem P9 (h:sl a b):[a,b].Pairwise sl:=dt.mpr ⟨λy hy=>by rw[ah.mp hy];exact h,jp _ _⟩
theorem J8 (h:a∈NM)(e:∀b,aggD "sorted" b [.str a]=.ok (.list [.str a])):SO [a] [a] where
 nd:=cr.mpr ⟨(λz=>by cases z),jq⟩
 lf:=by show 1<=2;decide
 l2:=by show 1<=2;decide
 pw:=jp _ _
 mm:=λ_=>Iff.rfl
 ev:=e
 nm:=λn hn=>by rw[ah.mp hn];exact h
theorem J9 (hn:a≠b)(h:sl c d)(hm:c∈NM/\d∈NM)(p:(c=a/\d=b)\/(c=b/\d=a))(e:∀k,aggD "sorted" k [.str a,.str b]=.ok (.list [.str c,.str d])):SO [a,b] [c,d] where
 nd:=cr.mpr ⟨(λz=>hn (ah.mp z)),cr.mpr ⟨(λz=>by cases z),jq⟩⟩
 lf:=ag 2
 l2:=ag 2
 pw:=P9 h
 mm:=λn=>by
  rcases p with⟨rfl,rfl⟩|⟨rfl,rfl⟩
  ·exact Iff.rfl
  ·simp only[ao,gg,or_false];exact Or.comm
 ev:=e
 nm:=λn hn=>by
  rcases ao.mp hn with rfl|hn
  ·exact hm.1
  ·rw[ah.mp hn];exact hm.2
def o1:Op where
 n:="wopen"
 fs:=["fa","fb"]
 gs:=["fc"]
 sf:=["fa","fb"]
 sg:=["fc"]
 of:=J9 (by decide) (show _<_ by decide) (by decide) (.inl ⟨rfl,rfl⟩) (λk=>by cases k<;>rfl)
 og:=J8 (by decide) (λk=>by cases k<;>rfl)
 so:=by decide+kernel
def o2 (z:Bool):Op where
 n:="wrude"
 fs:=if z then["wopen","fc"]else["fa"]
 gs:=if z then["fb"]else["fb","wopen"]
 sf:=if z then["fc","wopen"]else["fa"]
 sg:=if z then["fb"]else["fb","wopen"]
 of:=by
  cases z
  ·exact J8 (by decide) (λk=>by cases k<;>rfl)
  ·exact J9 (by decide) (show _<_ by decide) (by decide) (.inr ⟨rfl,rfl⟩) (λk=>by cases k<;>rfl)
 og:=by
  cases z
  ·exact J9 (by decide) (show _<_ by decide) (by decide) (.inl ⟨rfl,rfl⟩) (λk=>by cases k<;>rfl)
  ·exact J8 (by decide) (λk=>by cases k<;>rfl)
 so:=by decide+kernel
def P':D:=.tuple [.str "and",.tuple [.str "is",.str "wopen"],.tuple [.str "is",.str "wrude"]]
def Qa:D:=.tuple [.str "or",.tuple [.str "is",.str "wopen"],.tuple [.str "not",.tuple [.str "is",.str "wrude"]]]
def xY (c:Str):D:=if c="ca"then .tuple [.str "some",P']else .tuple [.str "all",Qa]
def nA (z:Bool):List Rw:=[.id "fact" [.str "fa"],.id "fact" [.str "fb"],.id "fact" [.str "fc"],.op o1,.op (o2 z),.id "claim" [.str "ca",.tuple [.str "some",P']],.id "claim" [.str "cb",.tuple [.str "all",Qa]]]
def fK (z:Bool):D:=.list ((nA z).map iM)
theorem ZS (z:Bool):∃g,zgr [.int (if z then 0 else 1)]=.ok (g,fK z):=by
 cases z
 ·exact⟨_,rfl⟩
 ·exact⟨_,rfl⟩
theorem ZT (z:Bool)(c:Str)(h:c∈(["ca","cb"]:List Str)):BY [fK z,.str c]=.ok (.fr,xY c):=by
 rcases ao.mp h with rfl|h
 ·cases z<;>rfl
 ·rw[ah.mp h];cases z<;>rfl
abbrev Th:=P×List Str
def wl (t:Th):D:=.list (t.2.map .str)
inductive Sy where
 |qE (n:Str)|kM (a:Sy)|kN (a b:Sy)|xZ (a b:Sy)
def sy:Sy->D
 |.qE n=>.tuple [.str "is",.str n]
 |.kM a=>.tuple [.str "not",sy a]
 |.kN a b=>.tuple [.str "and",sy a,sy b]
 |.xZ a b=>.tuple [.str "or",sy a,sy b]
def dp:Sy->Nat
 |.qE _=>1
 |.kM a=>dp a+1
 |.kN a b=>1+max (dp a) (dp b)
 |.xZ a b=>1+max (dp a) (dp b)
def jH:Sy->Th->Bool
 |.qE n,t=>decide (n∈t.2)
 |.kM a,t=>!jH a t
 |.kN a b,t=>jH a t&&jH b t
 |.xZ a b,t=>jH a t||jH b t
theorem x':∀s:Sy,aP (sy s)=true
 |.qE _=>rfl
 |.kM a=>by show(true&&(aP (sy a)&&true))=true;rw[x' a];rfl
 |.kN a b=>by show(true&&(aP (sy a)&&(aP (sy b)&&true)))=true;rw[x' a,x' b];rfl
 |.xZ a b=>by show(true&&(aP (sy a)&&(aP (sy b)&&true)))=true;rw[x' a,x' b];rfl
def kd:Sy->Str
 |.qE _=>"is"
 |.kM _=>"not"
 |.kN _ _=>"and"
 |.xZ _ _=>"or"
theorem ZU (s:Sy):fC (sy s) (.int 0)=.ok (.str (kd s)):=by cases s<;>rfl
theorem jO (h:Y[i]?=some (some (g,.str a))):Tt [] Φ (.tv (.cmp .Eq (.var i) (.str b))) Y (decide (a=b)):=aU (cG (k:=decide (a=b)) (aF h) eY.e (by show Res.ok (bW (.str a) (.str b))=_;rw[jN])).e rfl
theorem Qb:∀(k:Nat) (s:Sy),dp s<=k->∀{t:Th},qD k [sy s,pk t.1,wl t]=.ok (.fr,.bool (jH s t))
 |0,s,h,t=>by cases s<;>simp[dp]at h
 |k+1,s,h,t=>by
  refine eX ?_;refine eT (yP (aH (aF rfl) aQ.e (ZU s) rfl)) ?_
  let R:Rho:=[some (.od,sy s),some (.od,pk t.1),some (.od,wl t),some (.al,.str (kd s))]
  have hx:∀(a:Sy),dp a<=k->∀{i:Int},fC (sy s) (.int i)=.ok (sy a)->Vv [] [qD k,mU] (.call 0 "holds" (.cons (.ix (.var 0) (.int i)) (.cons (.var 1) (.cons (.var 2) .nil)))) R (.bool (jH a t)):=λa ha i hi=>iA (aI (aH (aF rfl) aQ.e hi (x' a)).e (aI (aF rfl) (aI (aF rfl) bH))) rfl (Qb k a ha) rfl;cases s with
  |qE n=>refine lH (jO rfl) rfl ?_;refine cE (jL (jO rfl) (λ_=>cE (dZ (cG (aH (aF rfl) aQ.e rfl rfl).e (aF rfl) (D5 n t.2)))) λz=>(of_decide_eq_false z rfl).elim)
  |kM a=>refine lH (jO rfl) rfl ?_;refine lH (jO rfl) rfl ?_;refine cE (jL (jO rfl) (λ_=>cE (dZ (v_not (hx a (by simp only[dp]at h;omega) rfl).e rfl))) λz=>(of_decide_eq_false z rfl).elim)
  |kN a b=>refine lH (jO rfl) rfl ?_;refine lH (jO rfl) rfl ?_;refine lH (jO rfl) rfl ?_;refine cE (jL (jO rfl) (λ_=>cE (dZ (v_and (hx a (by simp only[dp]at h;omega) rfl).e λ_=>hx b (by simp only[dp]at h;omega) rfl))) λz=>(of_decide_eq_false z rfl).elim)
  |xZ a b=>refine lH (jO rfl) rfl ?_;refine lH (jO rfl) rfl ?_;refine lH (jO rfl) rfl ?_;refine lH (jO rfl) rfl ?_;exact cE (dZ (v_or (hx a (by simp only[dp]at h;omega) rfl).e λ_=>hx b (by simp only[dp]at h;omega) rfl))
theorem Qc:∀ts:List Th,zipD (ts.map λt=>pk t.1) (ts.map wl)=ts.map λt=>.tuple [pk t.1,wl t]
 | []=>rfl
 |t::ts=>by rw[bg,bg,zipD,Qc ts];rfl
theorem J' {α:Type}(f:α->Bool):∀l:List α,allB (l.map λx=>PyData.bool (f x))=some (l.map f)
 | []=>rfl
 |x::l=>by show(allB (l.map λx=>PyData.bool (f x))).map _=_;rw[J' f l];rfl
theorem ZV {α:Type}(f:α->Bool)(l:List α):aggD "any" true (l.map λx=>PyData.bool (f x))=.ok (.bool (l.any f)):=by show Res.fO ((allB (l.map λx=>PyData.bool (f x))).map λbs=>PyData.bool (bs.any id))=_;rw[J'];show Res.ok (PyData.bool ((l.map f).any id))=_;rw[qw];rfl
theorem ZW {α:Type}(f:α->Bool)(l:List α):aggD "all" true (l.map λx=>PyData.bool (f x))=.ok (.bool (l.all f)):=by show Res.fO ((allB (l.map λx=>PyData.bool (f x))).map λbs=>PyData.bool (bs.all id))=_;rw[J'];show Res.ok (PyData.bool ((l.map f).all id))=_;rw[wt];rfl
theorem ZX (t:Th):eG (.tp [i,j]) (gJ (.tuple [pk t.1,wl t]) .al,.tuple [pk t.1,wl t]) Y=.ok ((Y.set i (some (.al,pk t.1))).set j (some (.al,wl t))):=by
 have e:gJ (.tuple [pk t.1,wl t]) .al=.al:=by show(if(aP (pk t.1)&&(false&&true))=true then G.fr else .al)=_;rw[Bool.false_and,oo];rfl
 rw[e];show Res.fO (some ((Y.set i (some (z1l (gJ (pk t.1) .al,pk t.1)))).set j (some (z1l (gJ (wl t) .al,wl t)))))=_;rw[pE (cO _)];rfl
theorem Qd (s:Sy)(hs:dp s<=3){ts:List Th}(hl:ts.length<=10)(hi:fC x (.int 1)=.ok (sy s)):aG [] [pG k,qD 3] (.comp 2 [0] ["thing","words","asking"] (.tp [0,1]) (.zip (.var 1) (.var 2)) .nil (.call 1 "holds" (.cons (.ix (.var 2) (.int 1)) (.cons (.var 0) (.cons (.var 1) .nil))))) [some (.od,x),some (.od,.list (ts.map λt=>pk t.1)),some (.od,.list (ts.map wl)),some (.al,.str ZY)]=.ok (.fr,.list (ts.map λt=>.bool (jH s t))):=by have hw:=HD (Κ:=[]) (Φ:=[pG k,qD 3]) (Y:=[some (.od,x),some (.od,.list (ts.map λt=>pk t.1)),some (.od,.list (ts.map wl)),some (.al,.str ZY)]) (aF (i:=1) rfl) (aF (i:=2) rfl) (DG (by rw[ae];omega)) (DG (by rw[ae];omega));rw[Qc]at hw;have:=z2g (nt:=2) (js:=[0]) (N':=["thing","words","asking"]) (tg:=.tp [0,1]) (elt:=.call 1 "holds" (.cons (.ix (.var 2) (.int 1)) (.cons (.var 0) (.cons (.var 1) .nil)))) (λ_=>true) (λt=>.bool (jH s t)) hw rfl (λt=>[some (.al,pk t.1),some (.al,wl t),some (.od,x)]) (λt _=>ZX t) (λ_ _=>yO) λt _ _=>iA (aI (aH (aF rfl) aQ.e hi (x' s)).e (aI (aF rfl) (aI (aF rfl) bH))) rfl (Qb 3 s hs) rfl;rw[gw.mpr (λ_ _=>rfl)]at this;exact this
theorem ZZ (s:Sy)(hs:dp s<=3){ts:List Th}(hl:ts.length<=10):pG 1 [.tuple [.str "some",sy s],.list (ts.map λt=>pk t.1),.list (ts.map wl)]=.ok (.fr,.bool (ts.any (jH s))):=by refine eX ?_;refine eT (yP (aH (aF rfl) aQ.e rfl rfl)) ?_;exact cE (jL (jO rfl) (λ_=>cE (dZ (yN (w:=(true,ts.map λt=>.bool (jH s t))) (Ev.of (Qd s hs hl rfl)) rfl (ZV (jH s) ts) rfl))) λz=>(of_decide_eq_false z rfl).elim)
theorem Z0 (s:Sy)(hs:dp s<=3){ts:List Th}(hl:ts.length<=10):pG 1 [.tuple [.str "all",sy s],.list (ts.map λt=>pk t.1),.list (ts.map wl)]=.ok (.fr,.bool (ts.all (jH s))):=by refine eX ?_;refine eT (yP (aH (aF rfl) aQ.e rfl rfl)) ?_;refine lH (jO rfl) rfl ?_;exact cE (jL (jO rfl) (λ_=>cE (dZ (yN (w:=(true,ts.map λt=>.bool (jH s t))) (Ev.of (Qd s hs hl rfl)) rfl (ZW (jH s) ts) rfl))) λz=>(of_decide_eq_false z rfl).elim)
def Qe:Sy:=.kN (.qE "wopen") (.qE "wrude")
def Qf:Sy:=.xZ (.qE "wopen") (.kM (.qE "wrude"))
def qF (ths:List P)(c:Str)(hs:List (List Str)):Bool:=if c="ca"then(ths.zip hs).any (jH Qe)else(ths.zip hs).all (jH Qf)
theorem uL {α β:Type}:∀{a:List α} {b:List β},b.length=a.length->(a.zip b).map (·.1)=a/\(a.zip b).map (·.2)=b
 | [],[],_=>⟨rfl,rfl⟩
 |x::a,y::b,h=>by obtain⟨h1,h2⟩:=uL (by simpa using h);exact⟨congrArg (x:: ·) h1,congrArg (y:: ·) h2⟩
theorem Z1 (hl:ths.length<=4)(c:Str)(hc:c∈(["ca","cb"]:List Str))(hs:List (List Str))(h:hs.length=ths.length):pG 1 [xY c,.list (ths.map pk),.list (hs.map fQ)]=.ok (.fr,.bool (qF ths c hs)):=by
 obtain⟨e1,e2⟩:=uL h;have Qg:(ths.zip hs).length<=10:=by rw[List.length_zip];omega
 have q1:ths.map pk=(ths.zip hs).map λt=>pk t.1:=by
  conv=>lhs;rw[<-e1]
  rw[gb];rfl
 have q2:hs.map fQ=(ths.zip hs).map wl:=by
  conv=>lhs;rw[<-e2]
  rw[gb];rfl
 rw[q1,q2];rcases ao.mp hc with rfl|hc
 ·exact ZZ Qe (by decide) Qg
 ·rw[ah.mp hc];exact Z0 Qf (by decide) Qg
def F3:List Str:=["fa","fb","fc"]
theorem Z2 (z:Bool)(h:∀p∈t,p.1∈F3):xQ [fK z,pk t]=.ok (.fr,pk t):=by
 refine eX ?_;have h1:aG [] [] (.comp 1 [] ["row"] (.nm 0) (.tv (.var 0)) (.tv (.cmp .Eq (.ix (.var 0) (.int 0)) (.str "fact"))) (.ix (.var 0) (.int 1))) [some (.od,fK z),some (.od,pk t),none]=.ok (.fr,.list (F3.map .str)):=by cases z<;>rfl
 refine eT (DF h1 (xH _)) ?_;have h2:=YE (Φ:=[]) (Y:=[some (.od,fK z),some (.od,pk t),some (.fr,.list (F3.map .str))]) (it:=.tv (.var 1)) (j:=2) (cX (v_var rfl (cO _)).1 rfl) (.inl rfl) ["pair","facts"];have e:OY F3 t=t:=gw.mpr λp hp=>x6 (h p hp);rw[e]at h2;exact cE (dZ (yN (Ev.of h2) rfl rfl (cO _)))
theorem Z3 (z:Bool)(n:Int):DT [fK z,.int n]=.ok (.fr,.int (2*n)):=by
 refine eX ?_;have h1:aG [] [] (.comp 1 [] ["row"] (.nm 0) (.tv (.var 0)) (.tv (.cmp .Eq (.ix (.var 0) (.int 0)) (.str "open"))) (.var 0)) [some (.od,fK z),some (.od,.int n)]=.ok (.fr,.list [opD o1,opD (o2 z)]):=by cases z<;>rfl
 exact cE (dZ (fP (kH (aI (Ev.of h1) bH) rfl rfl).e (aF rfl) (Xy (by decide)) rfl))
theorem Qh (p:Str->Bool)(n:Str):∀l:P,fnd (l.filter λx=>p x.1) n=if p n then fnd l n else none
 | []=>by split<;>rfl
 |x::l=>by
  have ih:=Qh p n l;rw[dg];by_cases hx:p x.1=true
  ·rw[xu hx,fnd,fnd,ih];by_cases e:x.1=n
   ·rw[xu e,xu e,xu (e▸hx)]
   ·rw[xw e,xw e]
  ·rw[xw hx,ih,fnd];by_cases e:x.1=n
   ·rw[xw (e▸hx),xw (e▸hx)]
   ·rw[xw e]
theorem Z4 (p:Str->Bool)(n:Str)(l:P):look (l.filter λx=>p x.1) n=if p n then look l n else 0:=by unfold look;rw[Qh];split<;>rfl
structure Cv (t:P):Prop where
 pk:PK t
 f3:∀p∈t,p.1∈F3
theorem Qi (h:Cv t)(hl:l.Pairwise sl)(p:Str->Bool)(hp:∀n∈F3,p n=decide (n∈l))(hs:∀n∈l,n∈F3):t.filter (λx=>p x.1)=cv [] t l:=by
 refine PK.ext ⟨h.pk.sd.sublist uc,λx hx=>h.pk.pos x (fm.mp hx).1⟩ (Ca hl) λn=>?_;rw[Z4,O2 hl];have hv:vv [] t n=look t n:=xw (λz=>by cases z);have nn:=h.pk.lG n;by_cases hn:n∈F3
 ·rw[hp n hn];by_cases hm:n∈l
  ·rw[xu (x6 hm),xu hm];omega
  ·rw[xw (by rw[x8 hm];decide),xw hm]
 ·rw[O0 h.f3 hn,xw λz=>hn (hs n z)];split<;>rfl
def fF (ths:List P):List Cs:=ths.map λt=>dM o1 t []
theorem Z5 (hl:ths.length<=4)(h:∀t∈ths,Cv t):Jj [.list (ths.map pk)]=.ok (.fr,.list ((fF ths).map cD)):=by
 refine eX ?_
 let Q:Res Out->Prop:=λz=>z=.ok (.rt .fr (.list ((fF ths).map cD)))
 show Q _;refine IW (DF (iX eU) rfl) ?_;refine ze9 (BD rfl (by cases ths with|nil=>rfl|cons t l=>rfl) rfl) (λpre Y=>∃u2 u3,Y=[some (.od,.list (ths.map pk)),some (.fr,.list ((fF pre).map cD)),u2,u3]) ⟨_,_,rfl⟩ ?_ ?_
 ·rintro pre t post Y hx ⟨u2,u3,rfl⟩
  have ht:=h t (by rw[hx];exact ay _ bh);have pl:pre.length<=4:=by rw[hx,bu]at hl;omega
  have a1:=Qi ht o1.of.pw (λn=>!decide (n=("fc":Str))) (by decide) (by decide);have a2:=Qi ht o1.og.pw (λn=>decide (n=("fc":Str))) (by decide) (by decide)
  let R:Rho:=[some (.od,.list (ths.map pk)),some (.fr,.list ((fF pre).map cD)),some (.al,pk t),u3]
  have c1:∀(op:CmpOp) (f:Str×Int->Bool) {Y:Rho},Y[2]?=some (some (.al,pk t))->(∀x:Str×Int,cmpD op (.str x.1) (.str "fc")=.ok (f x))->Vv [] [] (.iF "tuple" (.tv (.comp 1 [] ["_law_pair"] (.nm 0) (.tv (.var 2)) (.tv (.cmp op (.ix (.var 0) (.int 0)) (.str "fc"))) (.var 0)))) Y (pk (t.filter f)):=λop f {Y} h2 hf=>by have hc:=z2g (Κ:=[]) (Φ:=[]) (nt:=1) (js:=[]) (N':=["_law_pair"]) (tg:=.nm 0) (cond:=.tv (.cmp op (.ix (.var 0) (.int 0)) (.str "fc"))) (elt:=.var 0) f pr (cX (v_var h2 (cO t)).1 rfl) rfl (λx=>[some (.al,pr x)]) (λx _=>yV rfl) (λx _=>aU (cG (aH (aF rfl) aQ.e rfl rfl).e eY.e (hf x)).e rfl) λx _ _=>v_var rfl rfl;exact yN (w:=(true,(t.filter f).map pr)) (Ev.of hc) rfl (IG _ _) (cO _)
  have f1:∀x:Str×Int,cmpD .NotEq (.str x.1) (.str "fc")=.ok (!decide (x.1=("fc":Str))):=λx=>by show Res.ok (!bW _ _)=_;rw[jN]
  have f2:∀x:Str×Int,cmpD .Eq (.str x.1) (.str "fc")=.ok (decide (x.1=("fc":Str))):=λx=>by show Res.ok (bW _ _)=_;rw[jN]
  have v1:=c1 .NotEq _ (Y:=R) rfl f1;rw[a1]at v1;have v2:=c1 .Eq _ (Y:=[some (.od,.list (ths.map pk)),some (.fr,.list ((fF pre).map cD)),some (.al,pk t),some (.al,pk (cv [] t o1.sf))]) rfl f2;rw[a2]at v2;refine⟨_,_,yV (cO t),eT (yP v1) (eT (XZ (sG (dI (v_var rfl (cO _)) (dI v2 eU))) rfl (by rw[ae];show(pre.map _).length<_;rw[ae];omega)) iY),jI (some (.al,pk t)),jI (some (.al,pk (cv [] t o1.sf))),?_⟩;have e:fF (pre++[t])=fF pre++[dM o1 t []]:=cj;rw[e,cj];rfl
 ·rintro Y ⟨u2,u3,rfl⟩
  exact cE (zc1 rfl)
def bkO (r1 r2:List Ru)(n:Str):List Ru:=if n="wopen"then r1 else r2
def nR (z:Bool)(r1 r2:List Ru)(ths:List P):List bN:=jC (o2 z) r2 ths (jC o1 r1 ths [([],ths.map λ_=>[])])
theorem kO (z:Bool):o1.n≠(o2 z).n:=by cases z<;>decide
section
variable {z:Bool}{r1 r2:List Ru}{ths:List P}
theorem Ka (c1:Cons biR sdR r1)(c2:Cons biR sdR r2)(hx:x∈nR z r1 r2 ths):∃d1 d2,okN o1 r1 ths (ths.map λ_=>[]) d1/\okN (o2 z) r2 ths (fJ o1 (ths.map λ_=>[]) d1) d2/\x.2=fJ (o2 z) (fJ o1 (ths.map λ_=>[]) d1) d2:=by obtain⟨y,hy,hx⟩:=JB.mp hx;obtain⟨d1,l1,k1,rfl⟩:=zbp c1 (λe he=>by cases he) (by rw[ae]) hy;obtain⟨d2,l2,k2,rfl⟩:=zbp c2 (λe he=>by obtain⟨r,_,rfl⟩:=ba.mp he;exact kO z) (by rw[yY,ae]) hx;exact⟨d1,d2,k1,k2,rfl⟩
theorem Z6 (c1:Cons biR sdR r1)(c2:Cons biR sdR r2)(k1:okN o1 r1 ths (ths.map λ_=>[]) d1)(k2:okN (o2 z) r2 ths (fJ o1 (ths.map λ_=>[]) d1) d2):∃x∈nR z r1 r2 ths,x.2=fJ (o2 z) (fJ o1 (ths.map λ_=>[]) d1) d2:=by obtain⟨l1,h1⟩:=zb7 (es:=[]) c1 (λe he=>by cases he) (by rw[ae]) k1;obtain⟨l2,h2⟩:=zb7 (es:=[]++l1.map (tag o1)) c2 (λe he=>by obtain⟨r,_,rfl⟩:=ba.mp he;exact kO z) (by rw[yY,ae]) k2;exact⟨_,JB.mpr ⟨_,h1,h2⟩,rfl⟩
theorem Z7:nR z r1 r2 ths≠[]:=JC _ (JC _ (λz=>by cases z))
def More (r1 r2 s1 s2:List Ru)(r:Ru):Prop:=(s1=r1++[r]/\s2=r2)\/(s1=r1/\s2=r2++[r])
theorem Z8 (c1:Cons biR sdR r1)(c2:Cons biR sdR r2)(e1:Cons biR sdR s1)(e2:Cons biR sdR s2)(m:More r1 r2 s1 s2 r)(hx:x∈nR z s1 s2 ths):∃y∈nR z r1 r2 ths,y.2=x.2:=by
 obtain⟨d1,d2,k1,k2,e⟩:=Ka e1 e2 hx
 have g1:okN o1 r1 ths (ths.map λ_=>[]) d1:=by
  rcases m with⟨rfl,rfl⟩|⟨rfl,rfl⟩
  ·exact O9 k1
  ·exact k1
 have g2:okN (o2 z) r2 ths (fJ o1 (ths.map λ_=>[]) d1) d2:=by
  rcases m with⟨rfl,rfl⟩|⟨rfl,rfl⟩
  ·exact k2
  ·exact O9 k2
 obtain⟨y,hy,e'⟩:=Z6 c1 c2 g1 g2;exact⟨y,hy,e'.trans e.symm⟩
theorem Z9 (f:List (List Str)->Bool)(h:∀x∈M,∃y∈L,y.2=x.2)(ne:M≠[]):cZ f L="open"\/cZ f L=cZ f M:=by
 by_cases z1:(L.filter λx=>!f x.2)=[]
 ·right;have:(M.filter λx=>!f x.2)=[]:=e9.mpr λx hx=>by obtain⟨y,hy,e⟩:=h x hx;have:=e9.mp z1 y hy;rw[e]at this;exact this
  unfold cZ;rw[xu z1,xu this]
 by_cases z2:(L.filter λx=>f x.2)=[]
 ·right;have m2:=e9.mpr λx hx=>by obtain⟨y,hy,e⟩:=h x hx;have:=e9.mp z2 y hy;rw[e]at this;exact this
  have m1:(M.filter λx=>!f x.2)≠[]:=λw=>by
   cases M with
   |nil=>exact ne rfl
   |cons x M=>
    have a:=e9.mp m2 x (.head _);have b:=e9.mp w x (.head _);cases hf:f x.2
    ·rw[hf]at b;exact b rfl
    ·exact a hf
  unfold cZ;rw[xw z1,xu z2,xw m1,xu m2]
 ·left;unfold cZ;rw[xw z1,xw z2]
theorem Z' (h:k<ths.length):(sT o hs ths.zipIdx)[k]?=some (k,dM o ths[k] (hs.getD k [])):=by unfold sT;rw[az,List.getElem?_zipIdx,ak h];show some (0+k,dM o ths[k] (hs.getD (0+k) []))=_;rw[qv]
theorem zf3 (c1:Cons biR sdR r1)(c2:Cons biR sdR r2)(hr:r∈r1)(ow:OwnR r)(hk:k<ths.length)(e:dM o1 ths[k] []=(r.2.1,r.2.2.1))(hx:x∈nR z r1 r2 ths):decide (o1.n∈x.2.getD k [])=r.1:=by
 obtain⟨d1,d2,k1,k2,ex⟩:=Ka c1 c2 hx;have l1:k<d1.length:=by rw[k1.1];exact hk
 have l2:k<d2.length:=by rw[k2.1];exact hk
 have h0:(ths.map λ_=>([]:List Str)).getD k []=[]:=by rw[au,az,ak hk];rfl
 have hb:dJ iJ jB (nN r1) (k,dM o1 ths[k] [])=some r.1:=B0 (Jz c1) (ba.mpr ⟨r,hr,rfl⟩) (by show biR r _=true;rw[e];exact ow);have hm:((k,dM o1 ths[k] []),d1[k])∈(sT o1 (ths.map λ_=>[]) ths.zipIdx).zip d1:=by refine b0 (i:=k) ?_;rw[ox];exact⟨by rw[Z' hk,h0],ak l1⟩
 have e1:d1[k]=r.1:=k1.2.1 _ hm r.1 hb;have a1:=JA o1 (ths.map λ_=>[]) d1 k l1 (by rw[ae];exact hk);rw[h0,List.nil_append,e1]at a1;have a2:=JA (o2 z) (fJ o1 (ths.map λ_=>[]) d1) d2 k l2 (by rw[yY,ae];exact hk);rw[ex,a2,a1];cases hr1:r.1 with
 |true=>rw[decide_eq_true_iff];exact cx _ (.head _)
 |false=>
  rw[decide_eq_false_iff_not];intro w;rcases ce.mp w with w|w
  ·cases w
  ·revert w;cases d2[k]with
   |true=>exact λw=>kO z (ah.mp w)
   |false=>exact λw=>by cases w
end
def dC (x:bN):D:=.list (x.2.map fQ)
theorem Ei (n:Nat)(x:bN):aN (n+2) (dC x)=true:=by exact kW.mpr λy hy=>by obtain⟨b,_,rfl⟩:=ba.mp hy;exact PN n b
theorem Qj (h:Y[i]?=some (some (.od,x)))(e:fC x (.int k)=.ok (.list xs))(hi:aP x=false):evF [] Φ (.tv (.ix (.var i) (.int k))) Y=.ok (.od,xs,Y):=by
 have e1:aG [] Φ (.ix (.var i) (.int k)) Y=.ok (.od,.list xs):=by rw[pD,nK];rw[h];show(Res.ok (if aP x=true then G.fr else G.od,x)>>=λa=>_)=_;rw[hi,Res.aD];show((fC x (.int k))>>=λd=>Res.ok (gJ d _,d))=_;rw[e];rfl
 have e2:=cX e1 rfl;show(if iS [] Φ (.tv (.ix (.var i) (.int k))) Y then _ else pT [] Φ (.tv (.ix (.var i) (.int k))) Y)=_;unfold iS pT;rw[e2];rfl
theorem zn0 {L:List bN}(h:∃y∈L,y.2=x.2):cmpD .NotIn (dC x) (.list (L.map dC))=.ok false:=by show((if(aN 40 (dC x)&&dQ 40 (L.map dC))=true then Res.ok ((L.map dC).any λy=>bW y (dC x))else .no)>>=λb=>Res.ok (!b))=_;rw[xu (by rw[Ei 38,kW.mpr λy hy=>by obtain⟨b,_,rfl⟩:=ba.mp hy;exact Ei 38 b];rfl),Res.aD];obtain⟨y,hy,e⟩:=h;have:((L.map dC).any λy=>bW y (dC x))=true:=nh.mpr ⟨dC y,uf hy,by rw[show dC y=dC x by unfold dC;rw[e]];exact yE (dC x) 40 (Ei 38 x)⟩;rw[this];rfl
theorem zrn (h:∀x∈M,∃y∈L,y.2=x.2)(ne:M≠[])(hM:M.length<=300):Jk [bQ f g L,bQ f g M]=.ok (.fr,.bool true):=by
 refine eX ?_
 let Q:Res Out->Prop:=λz=>z=.ok (.rt .fr (.bool true))
 show Q _;refine ze9 (Qj rfl rfl rfl) (λpre Y=>∃u2 u3,Y=[some (.od,bQ f g L),some (.od,bQ f g M),u2,u3]) ⟨_,_,rfl⟩ ?_ ?_
 ·rintro pre x post Y hx ⟨u2,u3,rfl⟩
  have hm:x∈M:=by rw[hx];exact ay _ bh
  refine⟨[some (.od,bQ f g L),some (.od,bQ f g M),some (.od,dC x),u3],_,rfl,eT (jL (aU (cG (aF rfl) (jE (aF rfl) aQ.e rfl) (zn0 (h x hm))).e rfl) (λz=>by cases z) λ_=>iY) iY,_,_,rfl⟩
 ·rintro Y ⟨u2,u3,rfl⟩
  have wd:∀(fg:List (List Str)->Bool),(!decide (cZ fg L="open")&& !decide (cZ fg L=cZ fg M))=false:=λfg=>by
   rcases Z9 fg h ne with e|e
   ·rw[x6 e];rfl
   ·rw[x6 e,Bool.not_true,oo]
  have ix1:∀(N:List bN) (k:Bool),fC (.list [.str (cZ f N),.str (cZ g N)]) (.int (if k then 0 else 1))=.ok (.str (if k then cZ f N else cZ g N)):=λN k=>by cases k<;>rfl
  refine ze9 (m:=λk:Bool=>.int (if k then 0 else 1)) (xs:=[true,false]) (X1 (aI aQ.e bH) rfl) (λpre Y=>∃u3,Y=[some (.od,bQ f g L),some (.od,bQ f g M),u2,u3]) ⟨_,rfl⟩ ?_ ?_
  ·rintro pre k post Y hx ⟨u3,rfl⟩
   have e1:∀(N:List bN) {i:Nat} {Y:Rho},Y[i]?=some (some (.od,bQ f g N))->Y[3]?=some (some (.al,.int (if k then 0 else 1)))->Vv [] [] (.ix (.ix (.var i) (.int 1)) (.var 3)) Y (.str (if k then cZ f N else cZ g N)):=λN {i Y} h1 h2=>aH (jE (aF h1) aQ.e rfl) (aF h2) (ix1 N k) rfl;have ww:=wd (if k then f else g);have we:∀N:List bN,cZ (if k then f else g) N=if k then cZ f N else cZ g N:=λN=>by cases k<;>rfl
   rw[we,we]at ww;refine⟨[some (.od,bQ f g L),some (.od,bQ f g M),u2,some (.al,.int (if k then 0 else 1))],_,rfl,eT (jL (k:=false) ?_ (λz=>by cases z) λ_=>iY) iY,_,rfl⟩;rw[<-ww];exact IU (aU (cG (k:=!decide ((if k then cZ f L else cZ g L)=("open":Str))) (e1 L rfl rfl).e eY.e (by show Res.ok (!bW _ _)=_;rw[jN])).e rfl) λ_=>aU (cG (k:=!decide ((if k then cZ f L else cZ g L)=(if k then cZ f M else cZ g M))) (e1 L rfl rfl).e (e1 M rfl rfl).e (by show Res.ok (!bW _ _)=_;rw[jN])).e rfl
  ·rintro Y ⟨u3,rfl⟩
   refine cE (dZ (cG (kH (aI (jE (aF rfl) aQ.e rfl) bH) (by show Res.ok (PyData.int ((M.map dC).length:Nat))=_;rw[ae]) rfl).e aQ.e ?_));show Res.ok (decide ((0:Int)<M.length))=_;rw[x6 (by cases M with|nil=>exact absurd rfl ne|cons x M=>rw[bt];omega)]
theorem Kb:∀a b:P,PyData.eqvAll (a.map pr) (b.map pr)=true->a=b
 | [],[],_=>rfl
 | [],_::_,h=>by simp[PyData.eqvAll]at h
 |_::_,[],h=>by simp[PyData.eqvAll]at h
 |x::a,y::b,h=>by obtain⟨h1,h2⟩:=av.mp h;have h1:(bW (.str x.1) (.str y.1)&&(bW (.int x.2) (.int y.2)&&true))=true:=h1;obtain⟨g1,g2⟩:=av.mp h1;rw[uA,ut]at g2;rw[Kb a b h2,show x=y from vy (x5 g1) (x5 g2)]
theorem zts (h:bW (cD c) (cD c')=true):c=c':=by have h:(bW (pk c.1.1) (pk c'.1.1)&&(bW (pk c.2.1) (pk c'.2.1)&&true))=true:=h;obtain⟨h1,h2⟩:=av.mp h;rw[ut]at h2;exact vy (Subtype.ext (Kb _ _ h1)) (Subtype.ext (Kb _ _ h2))
theorem zfq (a b:Bool):cmpD .NotEq (.bool a) (.bool b)=.ok (!(a==b)):=by cases a<;>cases b<;>rfl
theorem znu (hl:ths.length<=4)(h:∀k (hk:k<ths.length),dM o1 ths[k] []=(r.2.1,r.2.2.1)->∀x∈L,k<x.2.length/\decide (o1.n∈x.2.getD k [])=r.1):Jl [ruD r,.list ((fF ths).map cD),bQ f g L]=.ok (.fr,.bool true):=by
 refine eX ?_
 let Q:Res Out->Prop:=λz=>z=.ok (.rt .fr (.bool true))
 show Q _;have cl:(fF ths).length=ths.length:=ae ..;have hen:evF [] [] (.enum (.var 1)) [some (.od,ruD r),some (.od,.list ((fF ths).map cD)),some (.od,bQ f g L),none,none,none]=.ok (.al,(fF ths).zipIdx.map λx=>.tuple [.int x.2,cD x.1],[some (.od,ruD r),some (.od,.list ((fF ths).map cD)),some (.od,bQ f g L),none,none,none]):=by rw[N8 (x:=(.od,.list ((fF ths).map cD))) (by rw[nK];rfl) rfl (N9 (B7 sS _) (by rw[ae];omega)),DH]
 refine ze9 hen (λpre Y=>∃u3 u4 u5,Y=[some (.od,ruD r),some (.od,.list ((fF ths).map cD)),some (.od,bQ f g L),u3,u4,u5]) ⟨_,_,_,rfl⟩ ?_ ?_
 ·rintro pre x post Y hx ⟨u3,u4,u5,rfl⟩
  have Cw:=Yy (show x∈(fF ths).zipIdx by rw[hx];exact ay _ bh);have hk:x.2<ths.length:=by rw[<-cl];exact(bp.mp Cw).1
  have ex:x.1=dM o1 ths[x.2] []:=by have Cw:(ths.map λt=>dM o1 t [])[x.2]?=some x.1:=Cw;rw[az,ak hk]at Cw;exact(xx Cw).symm
  let R:Option GD->Rho:=λu=>[some (.od,ruD r),some (.od,.list ((fF ths).map cD)),some (.od,bQ f g L),some (.al,.int x.2),some (.al,cD x.1),u]
  have er:fC (ruD r) (.int 0)=.ok (cD (r.2.1,r.2.2.1)):=rfl;have ht:Tt [] [] (.tv (.cmp .Eq (.var 4) (.ix (.var 0) (.int 0)))) (R u5) (bW (cD x.1) (cD (r.2.1,r.2.2.1))):=aU (cG (aF rfl) (aH (aF rfl) aQ.e er (sS _)).e (by show(if(aN 40 (cD x.1)&&aN 40 (cD (r.2.1,r.2.2.1)))=true then Res.ok (bW _ _)else .no)=_;rw[xu (by rw[show aN 40 (cD x.1)=true from JR 37 _ _,show aN 40 (cD (r.2.1,r.2.2.1))=true from JR 37 _ _];rfl)];rfl)).e rfl;cases he:bW (cD x.1) (cD (r.2.1,r.2.2.1))with
  |false=>exact⟨R u5,R u5,DI rfl (sS x.1),eT (jL ht (λw=>by rw[he]at w;cases w) λ_=>iY) iY,_,_,_,rfl⟩
  |true=>
   have hc:dM o1 ths[x.2] []=(r.2.1,r.2.2.1):=by rw[<-ex];exact zts he
   obtain⟨u,hu⟩:∃u,aX [] [] (.seq (.bA (.nm 5) (.tv (.ix (.var 2) (.int 0))) (.seq (.bI (.tv (.cmp .NotEq (.cmp .In (.str "wopen") (.ix (.var 5) (.var 3))) (.cmp .Eq (.ix (.var 0) (.int 1)) (.str "for")))) (.seq (.ret (.bl false)) .nil) .nil) .nil)) .nil) (R u5)=.ok (.nx (R u)):=by
    let Q':Res Out->Prop:=λz=>∃u,z=.ok (.nx (R u))
    show Q' _;refine ze9 (Qj rfl rfl rfl) (λpre Y=>∃u,Y=R u) ⟨_,rfl⟩ ?_ ?_
    ·rintro pre y post Y hy ⟨u,rfl⟩
     obtain⟨ky,ey⟩:=h x.2 hk hc y (by rw[hy];exact ay _ bh);have ek:fC (dC y) (.int x.2)=.ok (fQ (y.2.getD x.2 [])):=by unfold dC;rw[xV fQ ky,au,ak ky];rfl
     refine⟨R (some (.od,dC y)),R (some (.od,dC y)),rfl,eT (jL (k:=false) (aU (cG (cG (k:=decide (o1.n∈y.2.getD x.2 [])) eY.e (jE (aF rfl) (aF rfl) ek) (D5 _ _)).e (cG (aH (aF rfl) aQ.e rfl rfl).e eY.e (by show Res.ok (bW _ _)=_;rw[jN,Pp])).e (by rw[zfq,ey,beq_self_eq_true];rfl)).e rfl) (λw=>by cases w) λ_=>iY) iY,_,rfl⟩
    ·rintro Y ⟨u,rfl⟩
     exact⟨u,iY⟩
   exact⟨R u5,R u,DI rfl (sS x.1),eT (jL ht (λ_=>hu) λw=>by rw[he]at w;cases w) iY,_,_,_,rfl⟩
 ·rintro Y ⟨u3,u4,u5,rfl⟩
  exact cE (dZ mR)
abbrev Φl:List Fn:=[Ji,Jl,Jk,Jj,Jh]
theorem Rep.Kc {K:W.Frag}(h:H p=some (.dK kvs))(s:aN n d=true)(r:Rep K H B v d):Rep K H (nQ [p]) v d:=(Rep.mZ d n s r).weak λa z=>by
 cases a with
 |none=>exact trivial
 |some x=>intro w;obtain⟨l,e⟩:=z.2;rw[ah.mp w,h]at e;cases e
theorem Rep.pK {K:W.Frag}(h:H p=some (.dK kvs))(s:aN n d=true)(r:Rep K H B v d):Rep K (upd H p o) AnyB v d:=(Rep.keep (B:=nQ [p]) (B':=nQ [p]) (λx ob e z=>by
 rw[aC λw=>by
  rcases z with z|z
  ·exact z (w▸ .head _)
  ·rw[w,h]at e;cases e;exact z]
 exact e) (λ_ z=>z) _ (Rep.Kc h s r)).weak λ_ _=>trivial
def sX (r1 r2:List Ru):bK:=[(.str "wopen",.list (r1.map ruD)),(.str "wrude",.list (r2.map ruD))]
abbrev kvO (va vb:V):List (Key×V):=[(.inr "wopen",va),(.inr "wrude",vb)]
theorem Qk:PyData.strOk "wopen"=true:=by decide+kernel
theorem Ql:PyData.strOk "wrude"=true:=by decide+kernel
theorem Ej {K:W.Frag}(h:H p=some (.dK (kvO va vb)))(ra:Rep K H AnyB va (.list (r1.map ruD)))(rb:Rep K H AnyB vb (.list (r2.map ruD))):Rep K H AnyB (.ref p) (.dict (sX r1 r2)):=⟨p,_,rfl,h,trivial,⟨_,_,_,rfl,rfl,Qk,ra,⟨_,_,_,rfl,rfl,Ql,rb,rfl⟩⟩⟩
theorem Qm (n:Nat)(rs:List Ru):aN (n+5) (.list (rs.map ruD))=true:=kW.mpr λy hy=>by obtain⟨r,_,rfl⟩:=ba.mp hy;exact JS n r
theorem zqr (f g:List (List Str)->Bool)(L:List bN):aN 10 (bQ f g L)=true:=by show(dQ 8 (L.map dC)&&(true&&true))=true;rw[kW.mpr λy hy=>by obtain⟨b,_,rfl⟩:=ba.mp hy;exact Ei 6 b];rfl
theorem ztn (z:Bool){r1 r2:List Ru}(h1:r1.length<=20)(h2:r2.length<=20):Cn (nA z) (sX r1 r2) (bkO r1 r2) where
 id:=λk r h=>by unfold nA at h;simp only[ao,gg,or_false]at h;rcases h with h|h|h|h|h|h|h<;>cases h<;>decide
 op:=λo h=>by
  unfold nA at h;simp only[ao,gg,or_false]at h;rcases h with h|h|h|h|h|h|h<;>cases h
  ·exact⟨rfl,h1⟩
  ·cases z
   ·exact⟨rfl,h2⟩
   ·exact⟨rfl,h2⟩
 two:=by cases z<;>decide
section
variable {Z:Wc}{Hb:Hp}{D0:Ends}{xs:List Int}{v0:V}{B:Ad->Prop}{b1 b2:Bool}{v3:V}{p4:Addr}
theorem zvt:∀s∈F3,PyData.strOk s=true:=λs hs=>by
 have:F3.all PyData.strOk=true:=by decide+kernel
 exact bj.mp this s hs
theorem zt7:F3.Pairwise sl:=dt.mpr ⟨λy hy=>by
 rcases ao.mp hy with rfl|hy
 ·show _<_;decide
 ·rw[ah.mp hy];show _<_;decide,P9 (show _<_ by decide)⟩
theorem zoo (hκ:Z.Κ=[])(hφ:Z.Φ=Φl)(f3:Z.fn[3]?=some (spDn Z.K))(f4:Z.fn[4]?=some (spPc Z.K))(r0:Rep Z.K Hb B v0 (.list (xs.map .int)))(h4:Hb p4=none)
  (q:∀H' (ths:List P) vs o5,Same Hb H'->H' p4=some (.lst vs)->Reps Z.K H' NoB vs (ths.map pk)->1<=ths.length->ths.length<=2->(∀t∈ths,Cv t)->D0.nx [some v0,some (.bl b1),some (.bl b2),some v3,some (.ref p4),o5,none,none,none,none,none,none,none,none] H'):
  wS Z L67.Pc D0 [some v0,some (.bl b1),some (.bl b2),some v3,some (.ref p4),none,none,none,none,none,none,none,none,none] (upd Hb p4 (.lst [])):=by
 have tl:∀{H':Hp},Sl Z.K H' [none,none,none,none,none,none,none,none] [none,none,none,none,none,none,none,none]:=λ{H'}=>.no (.no (.no (.no (.no (.no (.no (.no .nil)))))));have sl:∀{H':Hp} {o5:Option V} {q5:Option GD},Same Hb H'->Sl Z.K H' [o5,none,none,none,none,none,none,none,none] [q5,none,none,none,none,none,none,none,none]->Sl Z.K H' [some v0,some (.bl b1),some (.bl b2),some v3,some (.ref p4),o5,none,none,none,none,none,none,none,none] [some (.od,.list (xs.map .int)),none,none,none,none,q5,none,none,none,none,none,none,none,none]:=λ{H' o5 q5} s t=>.da (r0.same s λ_ z=>z) (.no (.no (.no (.no t))));obtain⟨c0,e0⟩:=B9 xs (k:=0) (by decide);have ev:evW [] Φl (.jY (.cons (.bin .Add (.int 1) (.bin .Mod (.bin .FloorDiv (L67.ca 0) (.int 3)) (.int 2))) .nil)) [some (.od,.list (xs.map .int)),none,none,none,none,none,none,none,none,none,none,none,none,none]=.ok (.fr,(fq (1+c0/3%2).toNat).map λ(i:Nat)=>.int i):=IV (aI (fP aQ.e (fP (fP (iB (aI (aF rfl) (aI aQ.e bH)) rfl e0) aQ.e (OT (by decide) (by decide)) rfl).e aQ.e (xG (by decide)) rfl).e rfl rfl).e bH) (Xz (by omega) (by omega));refine z83 hκ hφ (sl (Same.upd h4) (.no tl)) ev (λb=>b=p4) (λb hb=>⟨.lst [],by rw[hb];exact aW,λz=>z⟩) (λj σ' H'=>Same Hb H'/\∃(ths:List P) (vs:List V) (o5:Option V),ths.length=j/\(∀t∈ths,Cv t)/\H' p4=some (.lst vs)/\Reps Z.K H' NoB vs (ths.map pk)/\σ'=[some v0,some (.bl b1),some (.bl b2),some v3,some (.ref p4),o5,none,none,none,none,none,none,none,none]) (λH1 s1=>⟨(Same.upd h4).trans s1,[],[],none,rfl,(λ_ z=>by cases z),s1 _ _ aW,rfl,rfl⟩) ?_ ?_
 ·rintro k y d σ' H' H2 D2 hd ⟨s',ths,vs,o5,hl,hw,hp,rv,rfl⟩ s2 ry yZ nx
  rw[az]at hd;obtain⟨k',vJ,rfl⟩:=ci.mp hd;have hkk:=by have:=(bp.mp vJ).1;rw[pi]at this;exact this
  refine Cg ry (by simp) λw bE=>?_;obtain⟨c,ec⟩:=B9 xs (k:=3+k') (by omega);have qL:=s2 _ _ hp;refine cK (Ee (aV rfl ⟨.inl ⟨rfl,_,SqL.of qL⟩,gL f4 (aS (Cj (ns:=F3) (Sl.so (sl (s'.trans s2) (.da bE tl))) (by rw[hκ,hφ];exact iX (dI eY (dI eY (dI eY eU)))) λpn H3 s3 en=>?_))⟩));refine aS (gL f3 (aS (cP hκ hφ (sl (s'.trans (s2.trans s3)) (.da (bE.same s3 λ_ z=>z) tl)) (iB (aI (aF rfl) (aI (fP aQ.e (aF rfl) rfl rfl).e bH)) rfl ec) λvc H4 s4 rc=>?_)));obtain rfl:vc=.int c:=rc;refine aS (aV rfl (cH ⟨c,b2,rfl,λH5 p a m np s5 d5=>?_⟩));refine aS (aV rfl (cH ⟨F3,pn,p,a,m,b1,rfl,⟨(s4.trans s5) _ _ en,zvt,d5,(λz=>by rw[<-z,s4 _ _ en]at np;cases np),ag 3,zt7,by decide⟩,λH6 u q6 a6 c6 d6 o6 r6=>?_⟩));have Qn:=s3.trans s4;have Qo:=c6.same (Qn.none np) (Qn.trans s5);have uJ:=Qo _ _ qL;have vl:=rv.length;refine⟨p4,vs,u,rfl,rfl,uJ,by rw[vl,ae,hl,cz];omega,cL Z ?_⟩;have uM:=s2.trans Qo;have fr:∀b o,b≠p4->H' b=some o->upd H6 p4 (.lst (vs++[u])) b=some o:=λb o hb e=>by rw[aC hb];exact uM b o e
  refine nx _ _ ⟨λb o e=>?_,ths++[q6],vs++[u],_,by rw[bu,hl];rfl,λt ht=>?_,aW,?_,rfl⟩ fr
  ·rw[aC λz=>by rw[z,h4]at e;cases e];exact uM _ _ (s' _ _ e)
  ·rcases ce.mp ht with ht|ht
   ·exact hw t ht
   ·rw[ah.mp ht];exact⟨o6.pk,λp hp=>o6.sub.subset (uf hp)⟩
  ·rw[cj];exact Reps.xK uJ ((rv.same uM λ_ z=>z).append (Reps.cons r6 rfl))
 ·rintro σ' H' ⟨s',ths,vs,o5,hl,hw,hp,rv,rfl⟩
  rw[ae,pi]at hl;exact q H' ths vs o5 s' hp rv (by omega) (by omega) hw
end
structure Lf (K:W.Frag)(Ha:Hp)(z:Bool)(ths:List P)(p7:Addr)(v3 v4 v6:V):Prop where
 r3:Rep K Ha AnyB v3 (fK z)
 r4:Rep K Ha AnyB v4 (.list (ths.map pk))
 r6:Rep K Ha AnyB v6 (.list ((fF ths).map cD))
 th:∀t∈ths,Cv t
 t1:1<=ths.length
 t2:ths.length<=2
 h7:Ha p7=none
structure Ls (K:W.Frag)(H:Hp)(z:Bool)(ths:List P)(p7:Addr)(r1 r2:List Ru)(va vb v8:V):Prop where
 bk:H p7=some (.dK (kvO va vb))
 ra:Rep K H AnyB va (.list (r1.map ruD))
 rb:Rep K H AnyB vb (.list (r2.map ruD))
 rn:Rep K H AnyB v8 (bQ (qF ths "ca") (qF ths "cb") (nR z r1 r2 ths))
 c1:∀r∈r1,∀s∈r1,agR r s=false
 c2:∀r∈r2,∀s∈r2,agR r s=false
section
variable {Z:Wc}{Ha:Hp}{D2:Ends}{z:Bool}{ths:List P}{p7:Addr}{v0 v3 v4 v6:V}{b1 b2:Bool}
theorem Qp {α:Type}(l:List α):(l.map λt=>t)=l:=List.map_id' l
theorem zt1 {K:W.Frag}(f:Lf K Ha z ths p7 v3 v4 v6)(s:Same Ha H)(bk:H p7=some (.dK (kvO va vb)))(ra:Rep K H AnyB va (.list (r1.map ruD)))(rb:Rep K H AnyB vb (.list (r2.map ruD)))(l1:r1.length<=20)(l2:r2.length<=20):NwA K H (nA z) (sX r1 r2) (bkO r1 r2) ths (λt=>t) xY (qF ths) v3 (.ref p7) v4 where
 ok:=ztn z l1 l2
 ra:=f.r3.same s λ_ z=>z
 rb:=Ej bk ra rb
 rt:=f.r4.same s λ_ z=>z
 hf:=λt ht=>⟨Z2 z (f.th t ht).f3,(f.th t ht).pk⟩
 hu:=⟨2*ths.length,by have:=f.t2;omega,Z3 z _⟩
 hl:=by have:=f.t2;omega
 ha:=λc hc=>ZT z c hc
 hs:=λc hc hs hl _=>by rw[Qp];exact Z1 (by have:=f.t2;omega) c hc hs hl
theorem zj1 (f0:Z.fn[0]?=some (spNw Z.K))(f:Lf Z.K Ha z ths p7 v3 v4 v6)(h3:U[3]?=some (some v3))(h7:U[7]?=some (some (.ref p7)))(h4:U[4]?=some (some v4))(s:Same Ha H)(bk:H p7=some (.dK (kvO va vb)))(ra:Rep Z.K H AnyB va (.list (r1.map ruD)))(rb:Rep Z.K H AnyB vb (.list (r2.map ruD)))(l1:r1.length<=20)(l2:r2.length<=20)
  (q:∀H' u,Same H H'->Rep Z.K H' AnyB u (bQ (qF ths "ca") (qF ths "cb") (nR z r1 r2 ths))->Q u H'):wE Z L67.now U H Q:=by
 refine gL f0 (aS (aV h3 (aS (aV h7 (aS (aV h4 (cH ⟨_,_,_,_,_,_,_,_,_,_,rfl,zt1 f s bk ra rb l1 l2,λH' u s' r'=>q H' u s' ?_⟩)))))));rw[Qp]at r';exact r'
theorem Qq (ho:o=o1\/o=o2 z)(h7:Y[7]?=some (some (.od,.dict (sX r1 r2))))(AW:Y[11]?=some (some (.od,opD o))):Ev [] Φl (.ix (.var 7) L67.r1) Y (.list ((bkO r1 r2 o.n).map ruD)):=by
 refine jE (aF h7) (aH (aF AW) aQ.e rfl rfl).e ?_;rcases ho with rfl|rfl
 ·rfl
 ·cases z<;>rfl
theorem zgn (ho:o=o1\/o=o2 z)(h7:Y[7]?=some (some (.od,.dict (sX r1 r2))))(AW:Y[11]?=some (some (.od,opD o)))(h12:cV (Y.getD 12 none)=some (.od,ruD r)):Tt [] Φl (.tv (.cmp .NotIn (.bl true) (.comp 1 [12] ["_law_two","_law_one"] (.nm 0) (.tv (.ix (.var 7) L67.r1)) .nil (.call 0 "_law_against" (.cons (.var 1) (.cons (.var 0) .nil)))))) Y (!(bkO r1 r2 o.n).any (agR r)):=by obtain⟨g,eb⟩:=Qq ho h7 AW;have hc:=z2g (nt:=1) (js:=[12]) (N':=["_law_two","_law_one"]) (it:=.tv (.ix (.var 7) L67.r1)) (elt:=.call 0 "_law_against" (.cons (.var 1) (.cons (.var 0) .nil))) (λ_=>true) (λs=>.bool (agR r s)) (cX eb rfl) rfl (λs=>[some (.al,ruD s),some (.od,ruD r)]) (λs _=>by show eG (.nm 0) _ [none,cV (Y.getD 12 none)]=_;rw[h12];exact yV (pI s)) (λ_ _=>yO) λs _ _=>iA (aI (aF rfl) (aI (aF rfl) bH)) rfl (YR r s) rfl;rw[gw.mpr λ_ _=>rfl,show((bkO r1 r2 o.n).map λs=>PyData.bool (agR r s))=((bkO r1 r2 o.n).map (agR r)).map .bool by rw[gb];rfl]at hc;exact aU (cG mR.e (Ev.of hc) (by rw[YT,qw];rfl)).e rfl
theorem Qr (h:∀a∈rs,∀b∈rs,agR a b=false)(hr:rs.any (agR r)=false):∀a∈rs++[r],∀b∈rs++[r],agR a b=false:=by
 have hn:∀a∈rs,agR r a=false:=λa ha=>by
  cases e:agR r a with
  |false=>rfl
  |true=>rw[nh.mpr ⟨a,ha,e⟩]at hr;cases hr
 have rr:agR r r=false:=by unfold agR;rw[beq_self_eq_true];rfl
 intro a ha b hb;rcases ce.mp ha with ha|ha<;>rcases ce.mp hb with hb|hb
 ·exact h a ha b hb
 ·rw[ah.mp hb,YU];exact hn a ha
 ·rw[ah.mp ha];exact hn b hb
 ·rw[ah.mp ha,ah.mp hb];exact rr
theorem zux:putK (kvO va vb) (.inr "wopen") v=kvO v vb:=by unfold putK;rw[xu (by simp)];simp only[bg,qm,if_true];rw[xw (by decide)]
theorem zvc:putK (kvO va vb) (.inr "wrude") v=kvO va v:=by unfold putK;rw[xu (by simp)];simp only[bg,qm,if_true];rw[xw (by decide)]
end
section
variable {Z:Wc}{Ha H:Hp}{D2:Ends}{z:Bool}{ths:List P}{p7:Addr}{v0 v3 v4 v6 va vb v8:V}{b1 b2:Bool}{r1 r2:List Ru}{o5 pL pM kO jP:Option V}
abbrev ya (v0:V)(b1 b2:Bool)(v3 v4:V)(o5:Option V)(v6:V)(p7:Addr)(v8:V)(o9 pL pM kO jP:Option V):L2.St:=[some v0,some (.bl b1),some (.bl b2),some v3,some v4,o5,some v6,some (.ref p7),some v8,o9,pL,pM,kO,jP]
theorem Qs (q:wT Z a U H λb H1=>R (!b) H1):wT Z (.not a) U H R:=q
theorem zqc (hκ:Z.Κ=[])(hφ:Z.Φ=Φl)(f0:Z.fn[0]?=some (spNw Z.K))(f:Lf Z.K Ha z ths p7 v3 v4 v6)(s:Same Ha H)(l:Ls Z.K H z ths p7 r1 r2 va vb v8)(hl:r1.length+r2.length<=15)(ho:o=o1\/o=o2 z)(r11:Rep Z.K H NoB v11 (opD o))(r12:Rep Z.K H NoB v12 (ruD r))(ow:OwnR r)(nc:(bkO r1 r2 o.n).any (agR r)=false)
  (nx:∀H3 s1 s2 fL fA sY sZ,Ch p7 H H3->Ls Z.K H3 z ths p7 s1 s2 fL fA sY->s1.length+s2.length<=r1.length+r2.length+1->D2.nx (ya v0 b1 b2 v3 v4 o5 v6 p7 sY (some v9) (some v10) (some v11) (some v12) sZ) H3):
  wS Z L67.Pd D2 (ya v0 b1 b2 v3 v4 o5 v6 p7 v8 (some v9) (some v10) (some v11) (some v12) jP) H:=by
 have sl:∀{H1:Hp} {va vb:V} {r1 r2:List Ru} {w8:V} {jP:Option V} {q8 Ke:Option GD},H1 p7=some (.dK (kvO va vb))->Rep Z.K H1 AnyB va (.list (r1.map ruD))->Rep Z.K H1 AnyB vb (.list (r2.map ruD))->Rep Z.K H1 AnyB v11 (opD o)->Rep Z.K H1 AnyB v12 (ruD r)->Sl Z.K H1 [some v6,some (.ref p7),some w8] [some (.od,.list ((fF ths).map cD)),some (.od,.dict (sX r1 r2)),q8]->Sl Z.K H1 [jP] [Ke]->Sl Z.K H1 (ya v0 b1 b2 v3 v4 o5 v6 p7 w8 (some v9) (some v10) (some v11) (some v12) jP) [none,none,none,none,none,none,some (.od,.list ((fF ths).map cD)),some (.od,.dict (sX r1 r2)),q8,none,none,some (.od,opD o),some (.od,ruD r),Ke]:=λ{H1 va vb r1 r2 w8 jP q8 Ke} b a1 a2 Qt Qu t t'=>by
  cases t with
  |da r6 t=>cases t with
   |da r7 t=>cases t with
    |no t=>exact .no (.no (.no (.no (.no (.no (.da r6 (.da r7 (.no (.no (.no (.da Qt (.da Qu t'))))))))))))
    |da r8 t=>exact .no (.no (.no (.no (.no (.no (.da r6 (.da r7 (.da r8 (.no (.no (.da Qt (.da Qu t'))))))))))))
 have bl:(bkO r1 r2 o.n).length<=15:=by unfold bkO;split<;>omega
 refine cK (JV (cP hκ hφ (sl l.bk l.ra l.rb (r11.weak λ_ z=>z.elim) (r12.weak λ_ z=>z.elim) (.da (f.r6.same s λ_ z=>z) (.da (Ej l.bk l.ra l.rb) (.no .nil))) (.no .nil)) (d:=.list ((bkO r1 r2 o.n).map ruD++[ruD r])) (Ev.of (DE (Qq ho rfl rfl) (Ev.of (iX (dI (v_var rfl (pI r)) eU))) (add_list (by rw[ae];show _+1<=1000;omega)) (yq.mpr λd hd=>by
  rcases ce.mp hd with hd|hd
  ·obtain⟨x,_,rfl⟩:=ba.mp hd;exact pI x
  ·rw[ah.mp hd];exact pI r))) λvN H1 s1 rN=>aV rfl (cP hκ hφ (.no (.no (.no (.no (.no (.no (.no (.no (.no (.no (.no (.da (r11.same s1 λ_ z=>z) (.no (.no .nil)))))))))))))) (aH (aF rfl) aQ.e rfl rfl).e λvk H2 s2 rk=>?_)))
 obtain⟨rfl,_⟩:=rk;have iL:=s1.trans s2;have y4:=iL _ _ l.bk;rw[show(bkO r1 r2 o.n).map ruD++[ruD r]=(bkO r1 r2 o.n++[r]).map ruD by rw[cj];rfl]at rN
 obtain⟨fL,fA,eW,hU,Kg,e1,mo,la,lb,Qv,Qw⟩:∃fL fA eW hU,putK (kvO va vb) (.inr o.n) vN=kvO fL fA/\(o.n="wopen"->eW=r1++[r])/\More r1 r2 eW hU r/\Rep Z.K H2 AnyB fL (.list (eW.map ruD))/\Rep Z.K H2 AnyB fA (.list (hU.map ruD))/\(∀a∈eW,∀b∈eW,agR a b=false)/\(∀a∈hU,∀b∈hU,agR a b=false):=by
  have Qx:=rN.same s2 λ_ z=>z;rcases ho with rfl|rfl
  ·exact⟨vN,vb,r1++[r],r2,zux,λ_=>rfl,.inl ⟨rfl,rfl⟩,Qx,l.rb.same iL λ_ z=>z,Qr l.c1 nc,l.c2⟩
  ·have e:(o2 z).n="wrude":=by cases z<;>rfl
   rw[e];exact⟨va,vN,r1,r2++[r],zvc,(λw=>absurd w (by decide)),.inr ⟨rfl,rfl⟩,l.ra.same iL λ_ z=>z,Qx,l.c1,Qr l.c2 nc⟩
 refine .inl ⟨p7,_,rfl,.inl ⟨_,.inr o.n,y4,rfl,by rw[cz];show 2<_;decide,rfl⟩,?_⟩;rw[Kg];have Ek:upd H2 p7 (.dK (kvO fL fA)) p7=some (.dK (kvO fL fA)):=aW;have El:=Rep.pK (o:=.dK (kvO fL fA)) y4 (Qm 0 _) la;have Em:=Rep.pK (o:=.dK (kvO fL fA)) y4 (Qm 0 _) lb;have Qy:=Rep.pK (o:=.dK (kvO fL fA)) y4 (zqr _ _ _) (l.rn.same iL λ_ z=>z);have Cy:=Rep.pK (o:=.dK (kvO fL fA)) (n:=3) y4 (by show(true&&(true&&(dQ 1 (o.fs.map .str)&&(dQ 1 (o.gs.map .str)&&true))))=true;rw[D4,D4];rfl) (r11.same iL λ_ z=>z);have Cz:=Rep.pK (o:=.dK (kvO fL fA)) y4 (JS 0 r) (r12.same iL λ_ z=>z);have Eo:Ch p7 H (upd H2 p7 (.dK (kvO fL fA))):=λb ob hb e=>by rw[aC hb];exact iL _ _ e
 generalize upd H2 p7 (.dK (kvO fL fA))=H3 at Ek El Em Qy Cy Cz Eo ⊢;have Qz:=Eo.same f.h7 s;have ml:eW.length+hU.length=r1.length+r2.length+1:=by rcases mo with⟨rfl,rfl⟩|⟨rfl,rfl⟩<;>(rw[bu];show _=_;simp only[qz];omega)
 refine cJ (aV rfl (cJ (zj1 f0 f rfl rfl rfl Qz Ek El Em (by omega) (by omega) λH4 u8 s4 r8=>?_)));have Kh:∀{H5:Hp},Same H4 H5->Sl Z.K H5 (ya v0 b1 b2 v3 v4 o5 v6 p7 u8 (some v9) (some v10) (some v11) (some v12) (some v8)) [none,none,none,none,none,none,some (.od,.list ((fF ths).map cD)),some (.od,.dict (sX eW hU)),some (.od,bQ (qF ths "ca") (qF ths "cb") (nR z eW hU ths)),none,none,some (.od,opD o),some (.od,ruD r),some (.od,bQ (qF ths "ca") (qF ths "cb") (nR z r1 r2 ths))]:=λ{H5} s5=>by have jG:=s4.trans s5;have b5:=jG _ _ Ek;have a5:=El.same jG λ_ z=>z;have c5:=Em.same jG λ_ z=>z;exact sl b5 a5 c5 (Cy.same jG λ_ z=>z) (Cz.same jG λ_ z=>z) (.da (f.r6.same (Qz.trans jG) λ_ z=>z) (.da (Ej b5 a5 c5) (.da (r8.same s5 λ_ z=>z) .nil))) (.da (Qy.same jG λ_ z=>z) .nil)
 have k1:=D6 l.c1;have k2:=D6 l.c2;have g1:=D6 Qv;have g2:=D6 Qw
 have len:(nR z eW hU ths).length<=300:=by
  have bd:=JP (bk:=bkO eW hU) (ths:=ths) (by have :=f.t2;omega) (nA z) [([],ths.map λ_=>[])] 0 (ag 1) λx hx=>by rw[ah.mp hx];exact⟨ae ..,bw _,λw hw=>by obtain⟨_,_,rfl⟩:=ba.mp hw;exact bw _⟩
  exact bo bd.1 (by cases z<;>decide)
 refine cK (fZ (Qs (iK hκ hφ (Kh (Same.refl H4)) (aU (iA (aI (aF rfl) (aI (aF rfl) bH)) rfl (zrn (λx hx=>Z8 k1 k2 g1 g2 mo hx) Z7 len) rfl).e rfl) λH5 s5=>cL Z ?_)));have Le:∀{H6:Hp},Same H4 H6->Ls Z.K H6 z ths p7 eW hU fL fA u8:=λ{H6} s6=>⟨(s4.trans s6) _ _ Ek,El.same (s4.trans s6) λ_ z=>z,Em.same (s4.trans s6) λ_ z=>z,r8.same s6 λ_ z=>z,Qv,Qw⟩;refine cK (fZ (Oq (iK hκ hφ (Kh s5) (b:=decide (o.n="wopen")) (aU (cG (k:=decide (o.n="wopen")) (aH (aF rfl) aQ.e rfl rfl).e eY.e (by show Res.ok _=_;rw[jN])).e rfl) λH6 s6=>?_)));by_cases zo:o.n="wopen"
 ·rw[xu (x6 zo)];have e1:=e1 zo;have bdx:∀x∈nR z eW hU ths,x.2.length=ths.length:=λx hx=>by obtain⟨d1,d2,_,_,ex⟩:=Ka g1 g2 hx;rw[ex,yY,yY,ae]
  refine Qs (iK hκ hφ (Kh (s5.trans s6)) (aU (iA (aI (aF rfl) (aI (aF rfl) (aI (aF rfl) bH))) rfl (znu (by have:=f.t2;omega) λk hk ec x hx=>⟨by rw[bdx x hx];exact hk,zf3 g1 g2 (by rw[e1];exact ay _ (.head _)) ow hk ec hx⟩) rfl).e rfl) λH7 s7=>cL Z (cL Z ?_));have QA:=s5.trans (s6.trans s7);exact nx H7 eW hU fL fA u8 _ (Eo.trans (.of (s4.trans QA))) (Le QA) (by omega)
 ·rw[xw (by rw[x8 zo];decide)];have QB:=s5.trans s6;exact cL Z (cL Z (nx H6 eW hU fL fA u8 _ (Eo.trans (.of (s4.trans QB))) (Le QB) (by omega)))
end
section
variable {Z:Wc}{Ha H:Hp}{D2:Ends}{z:Bool}{ths:List P}{p7:Addr}{v0 v3 v4 v6 va vb v8:V}{b1 b2:Bool}{r1 r2:List Ru}{o5 pL pM kO jP:Option V}
theorem Ep {K:W.Frag}(l:Ls K H z ths p7 r1 r2 va vb v8)(s:Same H H'):Ls K H' z ths p7 r1 r2 va vb v8:=⟨s _ _ l.bk,l.ra.same s λ_ z=>z,l.rb.same s λ_ z=>z,l.rn.same s λ_ z=>z,l.c1,l.c2⟩
theorem zpo (hκ:Z.Κ=[])(hφ:Z.Φ=Φl)(f0:Z.fn[0]?=some (spNw Z.K))(f1:Z.fn[1]?=some (spRl Z.K))(f2:Z.fn[2]?=some (spDr Z.K))(f3:Z.fn[3]?=some (spDn Z.K))(f:Lf Z.K Ha z ths p7 v3 v4 v6)(s:Same Ha H)(l:Ls Z.K H z ths p7 r1 r2 va vb v8)(hl:r1.length+r2.length<=15)
  (nx:∀H3 s1 s2 fL fA sY o9' Ki Kj Kk sZ,Ch p7 H H3->Ls Z.K H3 z ths p7 s1 s2 fL fA sY->s1.length+s2.length<=r1.length+r2.length+1->D2.nx (ya v0 b1 b2 v3 v4 o5 v6 p7 sY o9' Ki Kj Kk sZ) H3):
  wS Z L67.Pe D2 (ya v0 b1 b2 v3 v4 o5 v6 p7 v8 (some (.int c)) pL pM kO jP) H:=by
 refine cJ (gL f3 (aS (aV rfl (aS (aV rfl (cH ⟨c,b2,rfl,λH1 p a m np s1 d1=>?_⟩))))));refine cJ (Jb (aV rfl (PU (fX λH2 s2=>gL f2 (aS (aV rfl (aS (fX λH3 s3=>cH ⟨p,a,m,2,rfl,(s2.trans s3) _ _ d1,by decide,by decide,λH4 r a4 g1 g2 c4 d4=>?_⟩))))))));obtain⟨y,rfl⟩:=J2 g1 g2;refine⟨AnyB,AnyB,.int 3,.int (if y then 0 else 1),.int (3+if y then 0 else 1),rfl,rfl,rfl,λvi H5 s5 ri _=>?_⟩;obtain rfl:vi=.int (3+if y then 0 else 1):=ri;have QC:=(c4.same np ((s1.trans s2).trans s3)).trans s5;have QD:=s.trans QC
 obtain⟨o,ho,eo⟩:∃o,(o=o1\/o=o2 z)/\fC (fK z) (.int (3+if y then 0 else 1))=.ok (opD o):=by
  cases y
  ·exact⟨o2 z,.inr rfl,rfl⟩
  ·exact⟨o1,.inl rfl,rfl⟩
 refine⟨AnyB,AnyB,fK z,.int (3+if y then 0 else 1),opD o,f.r3.same QD λ_ z=>z,rfl,eo,λv11 r11=>?_⟩;have r11:Rep Z.K H5 NoB v11 (opD o):=Rep.bB _ (Jw o) r11;have d5:=s5 _ _ d4;have n0:=s.none np
 have r6p:Rep Z.K H5 (nQ [p]) v6 (.list ((fF ths).map cD)):=((Rep.there _ f.r6).same QD λ_ z=>z).weak λx w=>by
  cases x with
  |none=>exact trivial
  |some x=>intro e;exact w.2 (by show Ha x=none;rw[ah.mp e];exact n0)
 have cl:(fF ths).length=ths.length:=ae ..;have t1:=f.t1;have t2:=f.t2;refine cJ (gL f1 (aS (aV rfl (aS (aV rfl (aS (aV rfl (aS (aV rfl (cH ⟨o,fF ths,p,a4,m,b1,v11,v6,rfl,⟨d5,r11,r6p,by omega,by omega⟩,λH6 v12 r a6 c6 d6 ow r12=>?_⟩))))))))));have uM:=c6.same np QC;have CA:Rep Z.K H6 NoB v11 (opD o):=c6.aP d5 (Jw o) r11;have l6:=Ep l uM;refine cK (fZ (iK hκ hφ (Y:=[none,none,none,none,none,none,none,some (.od,.dict (sX r1 r2)),none,none,none,some (.od,opD o),some (.od,ruD r),none]) (.no (.no (.no (.no (.no (.no (.no (.da (Ej l6.bk l6.ra l6.rb) (.no (.no (.no (.da CA (.da r12 (.no .nil)))))))))))))) (zgn ho rfl rfl rfl) λH7 s7=>?_));have yb:=uM.trans s7;have l7:=Ep l yb;cases hc:(bkO r1 r2 o.n).any (agR r)with
 |true=>refine cL Z (cL Z (nx H7 r1 r2 va vb v8 _ _ _ _ _ (.of yb) l7 (by omega)))
 |false=>refine zqc hκ hφ f0 f (s.trans yb) l7 hl ho (CA.same s7 λ_ z=>z) (r12.same s7 λ_ z=>z) ow hc λH8 eW hU fL fA sY sZ c8 l8 Ft=>cL Z (nx H8 eW hU fL fA sY _ _ _ _ _ ((Ch.of yb).trans c8) l8 Ft)
end
theorem zqs {α:Type}(xs:List α):(cut xs (some 5) (some 15)).length<=10:=by unfold cut;rw[gf];show min (min 15 xs.length-min 5 xs.length) _<=10;omega
section
variable {Z:Wc}{H:Hp}{D0:Ends}{xs:List Int}{v0:V}{B:Ad->Prop}
theorem zn1 (hκ:Z.Κ=[])(hφ:Z.Φ=Φl)(f0:Z.fn[0]?=some (spNw Z.K))(f1:Z.fn[1]?=some (spRl Z.K))(f2:Z.fn[2]?=some (spDr Z.K))(f3:Z.fn[3]?=some (spDn Z.K))(f4:Z.fn[4]?=some (spPc Z.K))(f5:Z.fn[5]?=some (spD Z.K 1 zgr))(hx:xs.length<=63)(r0:Rep Z.K H B v0 (.list (xs.map .int)))(q:∀H',Same H H'->D0.rt (.bl true) H'):
  wS Z L67.lw D0 [some v0,none,none,none,none,none,none,none,none,none,none,none,none,none] H:=by
 have tl:=λ{H' n}=>by have:=Cf (K:=Z.K) (H:=H') (bv n none);rw[cf]at this;exact this
 have no:∀{H':Hp} {o1 o2 o3 o4 o5 o6 o7 o8 o9 pL pM kO jP:Option V},Same H H'->Sl Z.K H' [some v0,o1,o2,o3,o4,o5,o6,o7,o8,o9,pL,pM,kO,jP] [some (.od,.list (xs.map .int)),none,none,none,none,none,none,none,none,none,none,none,none,none]:=λ{H' o1 o2 o3 o4 o5 o6 o7 o8 o9 pL pM kO jP} s=>.da (r0.same s λ_ z=>z) (.no (.no (.no (.no (.no (.no (.no (.no (.no (.no (.no (.no (.no .nil)))))))))))));obtain⟨c0,e0⟩:=B9 xs (k:=0) (by decide);obtain⟨c1,e1⟩:=B9 xs (k:=1) (by decide);obtain⟨c2,e2⟩:=B9 xs (k:=2) (by decide);refine cJ (cP hκ hφ (no (Same.refl H)) (d:=.bool (decide (0<c0%3))) (cG (fP (iB (aI (aF rfl) (aI aQ.e bH)) rfl e0) aQ.e (xG (by decide)) rfl).e aQ.e rfl).e λv1 H1 s1 q1=>?_);obtain rfl:v1=.bl (decide (0<c0%3)):=q1;refine cJ (cP hκ hφ (no s1) (d:=.bool (decide (c2%2=1))) (cG (fP (iB (aI (aF rfl) (aI aQ.e bH)) rfl e2) aQ.e (xG (by decide)) rfl).e aQ.e (by show Res.ok _=_;exact congrArg Res.ok (uA _ _))).e λv2 H2 s2 q2=>?_);obtain rfl:v2=.bl (decide (c2%2=1)):=q2;generalize decide (0<c0%3)=b1;generalize decide (c2%2=1)=b2;have iL:=s1.trans s2;refine cJ (Ye f5 (aS (gL f2 (aS (gL f3 (aS (cP hκ hφ (no iL) (iB (aI (aF rfl) (aI aQ.e bH)) rfl e1) λvc H3 s3 rc=>?_)))))));obtain rfl:vc=.int c1:=rc;refine aS (aV rfl (cH ⟨c1,b2,rfl,λH4 p a m np s4 d4=>?_⟩));refine aS (fX λH5 s5=>cH ⟨p,a,m,2,rfl,s5 _ _ d4,by decide,by decide,λH6 r a6 g1 g2 c6 d6=>?_⟩);obtain⟨z,rfl⟩:=J2 g1 g2;have uM:=c6.same ((iL.trans s3).none np) ((iL.trans s3).trans (s4.trans s5));obtain⟨g,er⟩:=ZS z;refine cH ⟨AnyB,[.int (if z then 0 else 1)],(g,fK z),rfl,⟨_,_,rfl,rfl,rfl⟩,er,λv3 H7 s7 r3=>?_⟩;have r3:=r3.weak λ_ _=>trivial;have yb:=uM.trans s7;refine cJ (jM (cH ⟨bw _,λp4 h4=>?_⟩));refine cK (zoo hκ hφ f3 f4 (r0.same yb λ_ z=>z) h4 λH8 ths vs o5 s8 hp4 rv t1 t2 ht=>?_);have r4:Rep Z.K H8 AnyB (.ref p4) (.list (ths.map pk)):=⟨p4,vs,rfl,.inl ⟨hp4,trivial⟩,rv.weak λ_ z=>z.elim⟩;have s08:=yb.trans s8;refine cJ (cP hκ hφ (Y:=[none,none,none,none,some (.od,.list (ths.map pk)),none,none,none,none,none,none,none,none,none]) (.no (.no (.no (.no (.da r4 (.no (tl (n:=8)))))))) (d:=.list ((fF ths).map cD)) (iB (aI (aF rfl) bH) rfl (Z5 (by omega) ht)) λv6 H9 s9 r6=>?_);have QE:=s08.trans s9;refine cJ ?_;intro p7 h7;have u7:Same H9 (upd H9 p7 (.dK [])):=Same.upd h7;refine Oo Qk λEh sV=>jM (cH ⟨bw _,λla hla=>?_⟩);refine Oo Ql λpJ xX=>jM (cH ⟨bw _,λlb Kl=>?_⟩);have sA:Same Eh (upd Eh la (.lst [])):=Same.upd hla;have sB:Same pJ (upd pJ lb (.lst [])):=Same.upd Kl;have e7:=sB _ _ (xX _ _ (sA _ _ (sV _ _ aW)));refine⟨e7,kvO (.ref la) (.ref lb),rfl,by show 2<=15;decide,?_⟩;have eM:yl [] (kvO (.ref la) (.ref lb))=kvO (.ref la) (.ref lb):=rfl;rw[eM];have s9B:=u7.trans (sV.trans (sA.trans (xX.trans sB)));have ea:=sB _ _ (xX _ _ aW);have eb:upd pJ lb (.lst []) lb=some (.lst []):=aW;have nla:la≠p7:=λw=>by rw[w,e7]at ea;cases ea
 have nlb:lb≠p7:=λw=>by rw[w,xX _ _ (sA _ _ (sV _ _ aW))]at Kl;cases Kl
 have Km:Same H9 (upd (upd pJ lb (.lst [])) p7 (.dK (kvO (.ref la) (.ref lb)))):=λx o e=>by rw[aC λw=>by rw[w,h7]at e;cases e];exact s9B _ _ e
 have bk:upd (upd pJ lb (.lst [])) p7 (.dK (kvO (.ref la) (.ref lb))) p7=some (.dK (kvO (.ref la) (.ref lb))):=aW;have ra:Rep Z.K (upd (upd pJ lb (.lst [])) p7 (.dK (kvO (.ref la) (.ref lb)))) AnyB (.ref la) (.list (([]:List Ru).map ruD)):=⟨la,[],rfl,.inl ⟨by rw[aC nla];exact ea,trivial⟩,rfl⟩;have rb:Rep Z.K (upd (upd pJ lb (.lst [])) p7 (.dK (kvO (.ref la) (.ref lb)))) AnyB (.ref lb) (.list (([]:List Ru).map ruD)):=⟨lb,[],rfl,.inl ⟨by rw[aC nlb];exact eb,trivial⟩,rfl⟩;generalize upd (upd pJ lb (.lst [])) p7 (.dK (kvO (.ref la) (.ref lb)))=H12 at Km bk ra rb ⊢;have lf:Lf Z.K H9 z ths p7 v3 (.ref p4) v6:=⟨r3.same (s8.trans s9) λ_ z=>z,r4.same s9 λ_ z=>z,r6,ht,t1,t2,h7⟩;refine cJ (zj1 f0 lf rfl rfl rfl Km bk ra rb (bw _) (bw _) λH13 v8 jF r8=>?_);have QF:Ls Z.K H13 z ths p7 [] [] (.ref la) (.ref lb) v8:=⟨jF _ _ bk,ra.same jF λ_ z=>z,rb.same jF λ_ z=>z,r8,(λ_ h=>by cases h),(λ_ h=>by cases h)⟩;have QG:=Km.trans jF;have ev:evW [] Φl (.tv (.sl (.var 0) (.tv (.int 5)) (.tv (.int 15)))) [some (.od,.list (xs.map .int)),none,none,none,none,none,none,none,none,none,none,none,none,none]=.ok (.fr,((cut xs (some 5) (some 15)).map .int)):=by refine cX (x:=.list ((cut xs (some 5) (some 15)).map .int)) ?_ rfl;show(Res.ok (PyData.list (cut (xs.map .int) (some 5) (some 15)))>>=λd=>Res.ok (gN d _,d))=_;rw[Yx,Res.aD];have:imms ((cut xs (some 5) (some 15)).map .int)=true:=B7 (λ_=>rfl) _;show Res.ok ((if imms ((cut xs (some 5) (some 15)).map .int)=true then G.fr else _),_)=_;rw[xu this]
 refine cK (z83 hκ hφ (no (QE.trans QG)) ev (λb=>b=p7) (λb hb=>⟨.dK (kvO (.ref la) (.ref lb)),by rw[hb];exact QF.bk,λz=>z⟩) (λj σ' H'=>Same H9 H'/\∃(r1 r2:List Ru) (va vb v8:V) (o9 pL pM kO jP:Option V),r1.length+r2.length<=j/\Ls Z.K H' z ths p7 r1 r2 va vb v8/\σ'=ya v0 b1 b2 v3 (.ref p4) o5 v6 p7 v8 o9 pL pM kO jP) (λKn kL=>⟨QG.trans kL,[],[],_,_,v8,none,none,none,none,none,ag _,Ep QF kL,rfl⟩) ?_ ?_)
 ·rintro j y d σ' H' Kn D2 hd ⟨s',r1,r2,va,vb,w8,o9,pL,pM,kO,jP,hl,l',rfl⟩ kL ry yZ nx
  rw[az]at hd;obtain⟨c,hc,rfl⟩:=ci.mp hd;have hj:j<10:=by have:=(bp.mp hc).1;exact cg this (zqs xs)
  refine Cg ry (by simp) λw bE=>?_;obtain rfl:w=.int c:=bE;refine zpo hκ hφ f0 f1 f2 f3 lf (s'.trans kL) (Ep l' kL) (by omega) λH15 eW hU fL fA sY p9 p10 p11 p12 p13 QH l15 aaa=>?_;exact nx _ _ ⟨QH.same h7 (s'.trans kL),eW,hU,fL,fA,sY,_,_,_,_,_,by omega,l15,rfl⟩ λb o hb e=>QH b o hb (kL _ _ e)
 ·rintro σ' H' ⟨s',r1,r2,va,vb,w8,o9,pL,pM,kO,jP,hl,l',rfl⟩
  refine jD (cP hκ hφ (Cf _) mR.e λv Kn kL r14=>?_);obtain rfl:v=.bl true:=r14;exact q Kn (QE.trans (s'.trans kL))
end
def top (i:Nat):Stmt:=PySem.Challenge.pw_likebook_k67_whole_more_rulings.main.body.getD i (.Pass ⟨0,0,0,0⟩)
def Sb:Nat->S
 |0=>.nil
 |n+1=>.seq .bad (Sb n)
abbrev FREE:List Str:=["isinstance","str","len","range","list","min","max","ValueError","int","bool","enumerate","dict","sorted","tuple","abs","any","all","zip"]
abbrev Rz:List aR:=[
 ⟨"check_side",top 7,["side"],["side"],["isinstance","str"],[],BM,sN,.n,[]⟩,
 ⟨"other_side",top 8,["side"],["side"],[],[0],BN,mT,.n,[]⟩,
 ⟨"side_of",top 9,["case","side"],["case","side"],[],[0],BO,jA,.n,[]⟩,
 ⟨"greatest",top 11,["pairs","found","name","amount"],["pairs"],["tuple","sorted","max"],[],BP,sO,.n,[]⟩,
 ⟨"degree",top 12,["one","name"],["one","name"],["dict"],[],BQ,mU,.n,[]⟩,
 ⟨"over",top 14,["one","other","held"],["one","other"],["dict"],[],BS,mV,.n,[]⟩,
 ⟨"within",top 13,["one","other"],["one","other"],[],[5],BU,xN,.n,[]⟩,
 ⟨"ruling",top 16,["case","side","reason"],["case","side","reason"],[],[6,2],BV,xO,.n,[]⟩,
 ⟨"opposed_of",top 17,["one"],["one"],[],[2,1],BW,pF,.n,[]⟩,
 ⟨"apart",top 19,["one","case","side","less","more"],["one","case"],[],[5,8,2,1],BX,xP,.n,[]⟩,
 ⟨"binds",top 18,["one","case"],["one","case"],[],[9],Ot,yR,.n,[]⟩,
 ⟨"binding",top 21,["book","case","k","one"],["book","case"],["enumerate"],[10],Jc,Jd,.n,[]⟩,
 ⟨"fullest",top 22,["case","side"],["case","side"],[],[7,2],Ou,Je,.n,[]⟩,
 ⟨"of_facts",top 24,["act","thing","facts"],["act","thing"],["tuple"],[],Ov,xQ,.n,[]⟩,
 ⟨"holds",top 25,["saying","thing","words","kind"],["saying","thing","words"],[],[],Ow,qD 0,.n,[]⟩,
 ⟨"holds",top 25,["saying","thing","words","kind"],["saying","thing","words"],[],[14,4],DS,qD 1,.n,[]⟩,
 ⟨"holds",top 25,["saying","thing","words","kind"],["saying","thing","words"],[],[15,4],DS,qD 2,.n,[]⟩,
 ⟨"holds",top 25,["saying","thing","words","kind"],["saying","thing","words"],[],[16,4],DS,qD 3,.n,[]⟩,
 ⟨"so",top 26,["asking","things","holding","kind"],["asking","things","holding"],["all","zip","any"],[],Oy,pG 0,.n,[]⟩,
 ⟨"so",top 26,["asking","things","holding","kind"],["asking","things","holding"],["all","zip","any"],[18,17],Ox,pG 1,.n,[]⟩,
 ⟨"pack_of",top 27,["names","thing","words"],["names","thing","words"],[],[3,4],Oz,Jf,.n,[]⟩,
 ⟨"case_of",top 28,["row","thing","words"],["row","thing","words"],[],[20],OA,Jg,.n,[]⟩,
 ⟨"open_uses",top 31,["act","many"],["act","many"],["len"],[],OB,DT,.n,[]⟩,
 ⟨"asking_of",top 37,["act","claim","row"],["act","claim"],[],[],OC,BY,.n,[]⟩,
 ⟨"_law_cell_at",top 40,["_law_script","_law_k"],["_law_script","_law_k"],["len"],[],OD,Jh,.n,[]⟩,
 ⟨"_law_within",top 45,["_law_one","_law_two","_law_name","_law_count_here"],["_law_one","_law_two"],[],[],OE,DU,.n,[]⟩,
 ⟨"_law_against",top 46,["_law_one","_law_two","_law_at"],["_law_one","_law_two"],["int"],[25],OF,Ji,.n,[]⟩,
 ⟨"_law_rows",top 48,["_law_cell","_law_rows_here"],["_law_cell"],[],[],OG,zgr,.n,[]⟩,
 ⟨"_law_cases",top 49,["_law_things","_law_cases_here","_law_thing","_law_fors"],["_law_things"],["tuple"],[],OH,Jj,.n,[]⟩,
 ⟨"_law_kept",top 51,["_law_ahead","_law_behind","_law_holding","_law_k"],["_law_ahead","_law_behind"],["len","range"],[],OI,Jk,.n,[]⟩,
 ⟨"_law_said",top 52,["_law_one","_law_cases_here","_law_now_here","_law_k","_law_case","_law_holding"],["_law_one","_law_cases_here","_law_now_here"],["enumerate"],[],OJ,Jl,.n,[]⟩,
 ⟨"continued",top 36,["reading","entries","number","names","holding"],["reading","entries","number","names"],FREE,[],Sb 3,aL [] [] 5 (Sb 3),.n,[]⟩,
 ⟨"ways",top 35,["row","book","number","thing","reading","name","case","bound"],["row","book","number","thing","reading"],FREE,[12,11,21],Sb 5,aL [] Φy 8 (Sb 5),.n,[]⟩,
 ⟨"with_open",top 34,["row","book","known","found","number","thing","longer","reading"],["row","book","known","found"],FREE,[],Sb 2,aL [] [] 8 (Sb 2),.n,[]⟩,
 ⟨"readings",top 32,["act","books","things","known","found","row"],["act","books","things"],FREE,[13,22],Sb 5,aL [] Φr 6 (Sb 5),.n,[]⟩,
 ⟨"settled",top 38,["act","books","things","claim","asking","known","yes","no","reading"],["act","books","things","claim"],FREE,[13,19,23],Sb 8,aL [] Φs 9 (Sb 8),.n,[]⟩,
 ⟨"_law_drawn",top 41,["_law_cell","_law_digits"],["_law_cell","_law_digits"],FREE,[],Sb 2,aL [] [] 2 (Sb 2),.n,[]⟩,
 ⟨"_law_draw",top 42,["_law_drawn_here","_law_many","_law_number"],["_law_drawn_here","_law_many"],FREE,[],Sb 4,aL [] [] 3 (Sb 4),.n,[]⟩,
 ⟨"_law_count",top 43,["_law_drawn_here","_law_small","_law_count_here","_law_k"],["_law_drawn_here","_law_small"],FREE,[],Sb 5,aL [] [] 4 (Sb 5),.n,[]⟩,
 ⟨"_law_pack",top 44,["_law_names","_law_drawn_here","_law_small","_law_pairs","_law_name","_law_count_here"],["_law_names","_law_drawn_here","_law_small"],FREE,[],Sb 3,aL [] [] 6 (Sb 3),.n,[]⟩,
 ⟨"_law_ruling",top 47,["_law_drawn_here","_law_row","_law_small","_law_cases_here","_law_case","_law_fors","_law_at","_law_reason"],["_law_drawn_here","_law_row","_law_small","_law_cases_here"],FREE,[],Sb 5,aL [] [] 8 (Sb 5),.n,[]⟩,
 ⟨"_law_now",top 50,["_law_rows_here","_law_books","_law_things","_law_words"],["_law_rows_here","_law_books","_law_things"],FREE,[],Sb 2,aL [] [] 4 (Sb 2),.n,[]⟩]
abbrev Lr:aR:=⟨"law",top 53,["_law_script","_law_small","_law_digits","_law_rows_here","_law_things","_law_k","_law_cases_here","_law_books","_law_now_here","_law_cell","_law_drawn_here","_law_row","_law_one","_law_ahead"],["_law_script"],FREE,[26,30,29,28,24],Sb 10,aL [] Φl 14 (Sb 10),.n,[]⟩
abbrev Xt:List XR:=[]
theorem eN:xC (Rz++[Lr]) Xt FREE 0 (Rz++[Lr])=true:=by decide+kernel
theorem t_F:sD (Rz++[Lr]) (Rz++[Lr]):=⟨rfl,rfl,rfl,rfl,rfl,rfl,rfl,rfl,rfl,rfl,rfl,rfl,rfl,rfl,rfl,rfl,rfl,rfl,rfl,rfl,rfl,rfl,rfl,rfl,rfl,rfl,rfl,rfl,rfl,rfl,rfl,rfl,rfl,rfl,rfl,rfl,rfl,rfl,rfl,rfl,rfl,rfl,rfl,trivial⟩
inductive fM {α β:Type}(R:α->β->Prop):List α->List β->Prop where
 |nil:fM R [] []
 |cons {a:α} {b:β} {l:List α} {m:List β} (h:R a b) (t:fM R l m):fM R (a::l) (b::m)
theorem fM.at {α β:Type}{R:α->β->Prop}{l:List α}{m:List β}(h:fM R l m):∀{j:Nat} {a:α},l[j]?=some a->∃b,m[j]?=some b/\R a b:=by
 induction h with
 |nil=>intro j a e;cases e
 |cons h t ih=>
  intro j a e;cases j with
  |zero=>cases e;exact⟨_,rfl,h⟩
  |succ j=>exact ih e
section
variable (P:cu)(w:World)(K:W.Frag)(mg:Str->Option Value)(base:Heap)
abbrev FX (k:Nat)(f:Addr)(fd:gz)(ps:List Str)(sp:Sp):Prop:=FnOk P w K mg base (CXE P w base) k f fd ps sp
def Fc (r:Nat)(x:Str×Nat)(sp:Sp):Prop:=∃f fd ps k,k<=r/\FX P w K mg base k f fd ps sp/\mg x.1=some (.ref f)/\W.keepIn K (.ref f)=true/\Binds K fd ps []
variable {P w K mg base}
theorem zvn (e1:Z.K=K)(e2:Z.mg=mg)(f:fM (Fc P w K mg base r) Γ.fn Z.fn)(g:fM (λ(x:Str) (n:Int)=>∃t,mg x=some (.int n t)) Γ.gi Z.gi)(h1:Γ.me=[])(h2:Γ.cl=[])(h3:Γ.hf=[])(h4:Γ.md=[])(h5:Γ.mq=[]):Zok Γ Z (CXE P w base) P w K mg base r where
 kk:=e1
 mm:=e2
 fn:=λj x n e=>by obtain⟨sp,e1,f,fd,ps,k,h1,h2,h3,h4,h5⟩:=f.at e;exact⟨sp,f,fd,ps,k,e1,h1,h2,h3,h4,h5⟩
 me:=λj x n e=>by rw[h1]at e;cases e
 cl:=λj x n e=>by rw[h2]at e;cases e
 gi:=λj x e=>by obtain⟨n,e1,t,e2⟩:=g.at e;exact⟨n,t,e1,e2⟩
 hf:=λj x n e=>by rw[h3]at e;cases e
 md:=λj x n e=>by rw[h4]at e;cases e
 mq:=λj x n e=>by rw[h5]at e;cases e
end
abbrev gM (st:Stmt)(N:List Str)(fns:List (Str×Nat)):Gm:={N:=N,sc:=z06 st,free:=FREE,fns:=fns,cst:=[],sub:=(Xt.map XR.subs).flatten,rs:=Xt.map (·.c),pU:=Xt.map λr=>(r.c,r.B)}
abbrev gH (r:aR)(fn fns:List (Str×Nat))(gi:List Str):Gw:={g:=gM r.st r.N fns,fn:=fn,me:=[],cl:=[],gi:=gi}
abbrev zH (K:W.Frag)(mg:Str->Option Value)(fn:List Sp)(Φ:List Fn)(gi:List Int):Wc:={K:=K,mg:=mg,Κ:=[],Φ:=Φ,E:=λ_ _ _=>False,fn:=fn,me:=[],cl:=[],gi:=gi}
theorem nT {i:Nat}(h:xC Rs Xt FREE 0 Rs=true)(e:Rs[i]?=some r):FnScope r.N r.ps (z06 r.st):=(Bv (Ii h e)).1
theorem to0 {P:cu}{w:World}{K:W.Frag}{mg:Str->Option Value}{base:Heap}{k:Nat}{f:Addr}{fd:gz}{ps:List Str}{sp QI:Sp}(F:FnOk P w K mg base (CXE P w base) k f fd ps sp)(h:∀vs H Q E,QI vs H Q E->sp vs H Q λ_ _ _=>False):FnOk P w K mg base oF k f fd ps QI:=
 ⟨λvs H Q E q=>F.len vs H Q _ (h _ _ _ _ q),λA outer s H args us vs Q E hr he hb hv hs=>n6 (F.run A outer s H args us vs Q _ hr he hb hv (h _ _ _ _ hs)) λr s' z=>by
  cases r with
  |error e=>obtain⟨_,_,_,_,_,_,z⟩:=z;exact z.elim
  |ok x=>cases x<;>exact z⟩
def CB:Fn:=λds=>match ds with
 | [.list xs]=>if(xs.all λx=>match x with|.int _=>true|_=>false)&&decide (xs.length<=63)then .ok (.fr,.bool true)else .no
 |_=>.no
theorem zs0 {xs:List Int}(hl:xs.length<=63):CB [.list (xs.map .int)]=.ok (.fr,.bool true):=by show(if((xs.map PyData.int).all _&&decide ((xs.map PyData.int).length<=63))=true then Res.ok (G.fr,PyData.bool true)else Res.no)=_;rw[xu];rw[ae,x6 hl,ut,wt,bj];intro x _;rfl
theorem lJ:∀{ys:List D},(ys.all λx=>match x with|.int _=>true|_=>false)=true->∃xs:List Int,ys=xs.map .int
 | [],_=>⟨[],rfl⟩
 |y::ys,h=>by
  rw[db,av]at h;obtain⟨xs,e⟩:=lJ h.2;cases y with
  |int i=>exact⟨i::xs,by rw[e];rfl⟩
  |_=>cases h.1
theorem up0 {P:cu}{w:World}{K:W.Frag}{mg:Str->Option Value}{base:Heap}{CX:CXT}{k:Nat}{f:Addr}{fd:gz}{ps:List Str}{n:Nat}{m:Fn}(F:FnOk P w K mg base oF k f fd ps (spD K n m)):FnOk P w K mg base CX k f fd ps (spD K n m):=
 ⟨F.len,λA outer s H args us vs Q E hr he hb hv hs=>n6 (F.run A outer s H args us vs Q E hr he hb hv hs) λr s' z=>by
  cases r with
  |error e=>exact(show False from z).elim
  |ok x=>cases x<;>exact z⟩
section
variable {P:cu}{w:World}{K:W.Frag}{mg:Str->Option Value}{base:Heap}
structure Tx (K:W.Frag)(mg:Str->Option Value):Prop where
 T:∀n∈FREE,mg n=none
 xk:∀Γ:Gm,Γ.sub=(Xt.map XR.subs).flatten->Γ.rs=Xt.map (·.c)->(Γ.pU=Xt.map λr=>(r.c,r.B))->wY Γ K mg
 mu:∃t,mg "MOST_USES"=some (.int 8 t)
def Fd (P:cu)(w:World)(K:W.Frag)(mg:Str->Option Value)(base:Heap)(k:Nat)(x:Str×Nat)(m:Fn):Prop:=∃ps k',k'<=k/\Cal P w K mg base k' x.1 ps (spD K x.2 m)/\pA P w K mg base k' x.1 ps x.2 m
theorem fdD (h:qA P w K mg base i r)(hk:r.kd=.n)(hi:i+1<=k):Fd P w K mg base k (r.nm,r.ps.length) r.F:=by unfold qA at h;rw[hk]at h;exact⟨r.ps,i+1,hi,h.1,h.2⟩
theorem Kq (t:Tx K mg){st:Stmt}(h:fM (Fd P w K mg base k) fns Φ):Dok (gM st N fns) [] Φ P w K mg base k where
 free:=λx hx=>t.T x (dq.mp hx)
 fns:=λj f n e=>by obtain⟨m,e1,ps,k',h1,h2,h3⟩:=h.at e;exact⟨m,k',ps,e1,h1,h2⟩
 cst:=λj x e=>by cases e
 wZ:=λj f n e=>by obtain⟨m,e1,ps,k',h1,h2,h3⟩:=h.at e;exact⟨m,k',ps,e1,h1,h3⟩
 xk:=t.xk _ rfl rfl rfl
theorem wm67 (t:Tx K mg)(Fu:Fun K x qual r.st f fd)(Sc:FnScope r.N r.ps (z06 r.st))
  (a0:fM (Fd P w K mg base k) fns Φ:=by exact .nil) (a1:fM (Fc P w K mg base k) fn fS:=by exact .nil) (a2:fM (λ(x:Str) (n:Int)=>∃t,mg x=some (.int n t)) gi gS:=by exact .nil)
  (hc:wkL (gH r fn fns gi) s (z0k r.st)=true:=by decide+kernel) (run:∀vs H Q E (zG:Prop),(vs.length=r.ps.length->wS {zH K mg fS Φ gS with E:=E} s {nx:=λ_ H'=>Q .bD H',rt:=Q} (start r.N vs) H->zG)->sp vs H Q E->zG):FX P w K mg base (k+1) f fd r.ps sp:=
 Ja (Γ:=gH r fn fns gi) Fu Sc rfl rfl (Kq t a0) (λE=>zvn rfl rfl a1 a2 rfl rfl rfl rfl rfl) rfl (.inl rfl) hc (λvs H Q E=>run vs H Q E _ λa _=>a) λvs H Q E=>run vs H Q E _ λ_ b=>b
theorem Fc.mono (h:Fc P w K mg base r x sp)(hr:r<=r'):Fc P w K mg base r' x sp:=by obtain⟨f,fd,ps,k,h1,h2⟩:=h;exact⟨f,fd,ps,k,bo h1 hr,h2⟩
theorem fcD (h:qA P w K mg base i r)(hk:r.kd=.n)(hi:i<k):Fc P w K mg base k (r.nm,n) (spD K r.ps.length r.F):=by unfold qA at h;rw[hk]at h;obtain⟨⟨f,fd,F,m,k,b⟩,_⟩:=h;exact⟨f,fd,r.ps,i+1,hi,up0 F,m,k,b⟩
theorem zt6 (t:Tx K mg)(dd:∀i r,i<31->(Rz++[Lr])[i]?=some r->qA P w K mg base i r)(O:∀i r,i<42->(Rz++[Lr])[i]?=some r->Own K mg r.nm r.st r.ps){f:Addr}{fd:gz}(Fl:Fun K "law" "law" (top 53) f fd):FnOk P w K mg base oF 38 f fd ["_law_script"] (spD K 1 CB):=by
 obtain⟨f1,fd1,Fu1,m1,k1,b1⟩:=O 31 _ (by decide) rfl;obtain⟨f2,fd2,Fu2,m2,k2,b2⟩:=O 32 _ (by decide) rfl;obtain⟨f3,fd3,Fu3,m3,k3,b3⟩:=O 33 _ (by decide) rfl;obtain⟨f4,fd4,Fu4,m4,k4,b4⟩:=O 34 _ (by decide) rfl;obtain⟨f5,fd5,Fu5,m5,k5,b5⟩:=O 35 _ (by decide) rfl;obtain⟨f6,fd6,Fu6,m6,k6,b6⟩:=O 36 _ (by decide) rfl;obtain⟨f7,fd7,Fu7,m7,k7,b7⟩:=O 37 _ (by decide) rfl;obtain⟨f8,fd8,Fu8,m8,k8,b8⟩:=O 38 _ (by decide) rfl;obtain⟨f9,fd9,Fu9,m9,k9,b9⟩:=O 39 _ (by decide) rfl;obtain⟨f10,Kr,Ks,m10,k10,b10⟩:=O 40 _ (by decide) rfl;obtain⟨f11,Kt,Ku,m11,k11,b11⟩:=O 41 _ (by decide) rfl;have d:∀{i k:Nat} {r:aR},(Rz++[Lr])[i]?=some r->i<31->r.kd=.n->i<k->Fd P w K mg base k (r.nm,r.ps.length) r.F:=λe hi hk h=>fdD (dd _ _ hi e) hk h;have A1:Fc P w K mg base 32 ("continued",4) (spCt K):=⟨f1,fd1,_,32,ag _,wm67 (s:=L67.ct) t Fu1 (nT eN (i:=31) rfl) (run:=by rintro _ _ _ _ _ zq ⟨x,es,k,ns,v,ve,pn,rfl,a,q⟩;exact zq rfl (zr5 rfl rfl a q)),m1,k1,b1⟩;have A2:Fc P w K mg base 33 ("ways",5) (spWy K):=⟨f2,fd2,_,33,ag _,wm67 (s:=L67.wy) t Fu2 (nT eN (i:=32) rfl) (a0:=.cons (d (i:=12) rfl (by decide) rfl (by decide)) (.cons (d (i:=11) rfl (by decide) rfl (by decide)) (.cons (d (i:=21) rfl (by decide) rfl (by decide)) .nil))) (a1:=.cons A1 .nil) (run:=by rintro _ _ _ _ _ zq ⟨o,rs,th,k,x,vr,vb,vt,v,rfl,a,q⟩;exact zq rfl (zoa rfl rfl rfl a q)),m2,k2,b2⟩;have A3:Fc P w K mg base 34 ("with_open",4) (spWo K):=⟨f3,fd3,_,34,ag _,wm67 (s:=L67.wo) t Fu3 (nT eN (i:=33) rfl) (a1:=.cons A2 .nil) (run:=by rintro _ _ _ _ _ zq ⟨o,rs,ths,l,B,vr,vb,vk,vf,rfl,a,q⟩;exact zq rfl (zpy rfl rfl rfl a q)),m3,k3,b3⟩;have A4:Fc P w K mg base 35 ("readings",3) (spRd K):=⟨f4,fd4,_,35,ag _,wm67 (s:=L67.rg) t Fu4 (nT eN (i:=34) rfl) (a0:=.cons (d (i:=13) rfl (by decide) rfl (by decide)) (.cons (d (i:=22) rfl (by decide) rfl (by decide)) .nil)) (a1:=.cons A3 .nil) (a2:=.cons (b:=8) t.mu .nil) (run:=by rintro _ _ _ _ _ zq ⟨rows,es,bk,hd,fa,va,vb,vt,rfl,a,q⟩;exact zq rfl (zps rfl rfl rfl rfl a q)),m4,k4,b4⟩;have A5:Fc P w K mg base 36 ("settled",4) (spSe K):=⟨f5,fd5,_,36,ag _,wm67 (s:=L67.st) t Fu5 (nT eN (i:=35) rfl) (a0:=.cons (d (i:=13) rfl (by decide) rfl (by decide)) (.cons (d (i:=19) rfl (by decide) rfl (by decide)) (.cons (d (i:=23) rfl (by decide) rfl (by decide)) .nil))) (a1:=.cons A4 .nil) (run:=by rintro _ _ _ _ _ zq ⟨rows,es,bk,hd,fa,cl,ask,f,va,vb,vt,rfl,a,q⟩;exact zq rfl (zqd rfl rfl rfl a q)),m5,k5,b5⟩;have B1:Fc P w K mg base 32 ("_law_drawn",2) (spDn K):=⟨f6,fd6,_,32,ag _,wm67 (s:=L67.dn) t Fu6 (nT eN (i:=36) rfl) (run:=by rintro _ _ _ _ _ zq ⟨c,b,rfl,q⟩;exact zq rfl (ZA rfl rfl q)),m6,k6,b6⟩;have B2:Fc P w K mg base 32 ("_law_draw",2) (spDr K):=⟨f7,fd7,_,32,ag _,wm67 (s:=L67.dr) t Fu7 (nT eN (i:=37) rfl) (run:=by rintro _ _ _ _ _ zq ⟨p,a,m,n,rfl,d,h0,h1,q⟩;exact zq rfl (ZC rfl rfl d h0 h1 q)),m7,k7,b7⟩;have B3:Fc P w K mg base 33 ("_law_count",2) (Cr K):=⟨f8,fd8,_,33,ag _,wm67 (s:=L67.cn) t Fu8 (nT eN (i:=38) rfl) (a1:=.cons B2 .nil) (run:=by rintro _ _ _ _ _ zq ⟨p,a,m,b,rfl,d,q⟩;exact zq rfl (ZE rfl rfl rfl d q)),m8,k8,b8⟩;have B4:Fc P w K mg base 34 ("_law_pack",3) (spPc K):=⟨f9,fd9,_,34,ag _,wm67 (s:=L67.pc) t Fu9 (nT eN (i:=39) rfl) (a1:=.cons B3 .nil) (run:=by rintro _ _ _ _ _ zq ⟨ns,an,p,a,m,b,rfl,h,q⟩;exact zq rfl (ZH rfl rfl rfl h q)),m9,k9,b9⟩;have B5:Fc P w K mg base 35 ("_law_ruling",4) (spRl K):=⟨f10,Kr,_,35,ag _,wm67 (s:=L67.rl) t Ks (nT eN (i:=40) rfl) (a1:=.cons (B2.mono (by decide)) (.cons (B4.mono (by decide)) .nil)) (run:=by rintro _ _ _ _ _ zq ⟨o,cs,p,a,m,b,vr,vc,rfl,h,q⟩;exact zq rfl (zrd rfl rfl rfl rfl h q)),m10,k10,b10⟩;have A6:Fc P w K mg base 37 ("_law_now",3) (spNw K):=⟨f11,Kt,_,37,ag _,wm67 (s:=L67.nw) t Ku (nT eN (i:=41) rfl) (a1:=.cons (A4.mono (by decide)) (.cons (A5.mono (by decide)) .nil)) (run:=by rintro _ _ _ _ _ zq ⟨rows,es,bk,hd,fa,ask,fo,va,vb,vt,rfl,a,q⟩;exact zq rfl (zn2 rfl rfl rfl rfl a q)),m11,k11,b11⟩;have D1:Fc P w K mg base 37 ("_law_rows",1) (spD K 1 zgr):=fcD (dd 27 _ (by decide) rfl) rfl (by decide)
 let sp:Sp:=λvs H Q _=>∃(v0:V) (xs:List Int) (B:Ad->Prop),vs=[v0]/\xs.length<=63/\Rep K H B v0 (.list (xs.map PyData.int))/\∀H',Same H H'->Q (.bl true) H'
 have F8:FX P w K mg base 38 f fd ["_law_script"] sp:=wm67 (r:=Lr) (s:=L67.lw) t Fl (nT eN (i:=42) rfl) (a0:=.cons (d (i:=26) rfl (by decide) rfl (by decide)) (.cons (d (i:=30) rfl (by decide) rfl (by decide)) (.cons (d (i:=29) rfl (by decide) rfl (by decide)) (.cons (d (i:=28) rfl (by decide) rfl (by decide)) (.cons (d (i:=24) rfl (by decide) rfl (by decide)) .nil))))) (a1:=.cons A6 (.cons (B5.mono (by decide)) (.cons (B2.mono (by decide)) (.cons (B1.mono (by decide)) (.cons (B4.mono (by decide)) (.cons D1 .nil)))))) (run:=by rintro _ _ _ _ _ zq ⟨v0,xs,B,rfl,hx,r0,q⟩;exact zq rfl (zn1 rfl rfl rfl rfl rfl rfl rfl rfl hx r0 q));refine to0 F8 λvs H Q E ⟨A,ds,x,h1,h2,h3,q⟩=>?_;unfold CB at h3;split at h3
 ·rename_i ys;split at h3
  ·rename_i hc;rw[av,decide_eq_true_eq]at hc;cases h3;obtain⟨xs,rfl⟩:=lJ hc.1;obtain⟨v,t,rfl,r0,hr⟩:=h2;have:t=[]:=hr;subst this;exact⟨v,xs,A,rfl,by have:=hc.2;rw[ae]at this;exact this,r0,λH' s=>q (.bl true) H' s rfl⟩
  ·cases h3
 ·cases h3
end
section
variable {w:World}{K:W.Frag}{mg:Str->Option Value}
theorem all67 {l:W.OpenLaw}(X:K.In h)(G:h.Ns bz mg)(hfa:mg "law"=some (.ref fa))(hK:kOks K Rz)(kl:∃f fd,Kf K Lr f fd)(hz:∀n∈FREE,W.nsIn K bz n=some none)(hkx:kxs K Xt)(mu:∃t,W.nsIn K bz "MOST_USES"=some (some (.int 8 t))):
  ∃fd:gz,(∀(s:aw) (v:Value),tq s fd ⟨[v],[]⟩ [("_law_script",v)])/\∀base:Heap,K.In base->base.Ns bz mg->FnOk l.prog w K mg base oF 38 fa fd ["_law_script"] (spD K 1 CB):=by
 obtain⟨f,fd,a,oc,od,an,sl,kV,dc,pm,cd,ct,rfl,lk,hc,hk⟩:=kl;have e:=hfa.symm.trans (W.mg_of X G a);cases e;have T:=λn hn=>W.mg_none_of X G (hz n hn);refine⟨W.fnOf "law" "law" (z16 (top 53)) (z0k (top 53)) (z06 (top 53)) .none kV dc pm an cd ct,λs v=>.of_eq rfl,λbase _ _=>?_⟩;have O:∀i r,i<42->(Rz++[Lr])[i]?=some r->Own K mg r.nm r.st r.ps:=λi r hi e=>by rw[jd hi]at e;obtain⟨⟨f,fd,a,oc,od,an,sl,kV,dc,pm,cd,ct,rfl,lk,hc,hk⟩,hb⟩:=Nn hK e;exact zqi X G a lk hc hk hb
 have xk:∀Γ:Gm,Γ.sub=(Xt.map XR.subs).flatten->Γ.rs=Xt.map (·.c)->(Γ.pU=Xt.map λr=>(r.c,r.B))->wY Γ K mg:=λΓ h1 h2 h3=>W6 X G hkx (λ_=>T "ValueError" (by decide)) h1 h2 h3;have Kv:((Rz++[Lr]).all λr=>r.kc.isEmpty)=true:=rfl;have hCs:∀r∈Rz++[Lr],∀y∈r.kc,Ij K mg y:=λr hr y hy=>by have:=bj.mp Kv r hr;rw[qj.mp this]at hy;cases hy
 obtain⟨t,mu⟩:=mu;exact zt6 ⟨T,xk,t,W.mg_of X G mu⟩ (λi r hi e=>W8 eN t_F T xk 31 hCs (λi r hi e=>O i r (by omega) e) i r hi e) O (Fh lk hc hk)
end
def yc:DefRec:=⟨"law",z16 (top 53),z0k (top 53),z06 (top 53),⟨232,0,254,15⟩⟩
theorem Er:KEq y8 (Rz++[Lr]) FREE Xt:=by
 rw[PySem.W.Fast.tkeq_eq];intro P
 kernel_rfl
theorem zT1:Tp.said PySem.Challenge.rw_likebook_k67_whole_more_rulings=true:=by
 rw[PySem.W.Fast.tsaid_eq]
 kernel_rfl
theorem zT2:W.opening nU=W.plainProg nU.main.scope.names:=by kernel_rfl
theorem zT3:∀s,fenceModules? nU s=some s:=λs=>by kernel_rfl
theorem zT4:W.defOf y7 PySem.Challenge.rw_likebook_k67_whole_more_rulings.row.name=some (yc,[]):=by kernel_rfl
theorem zT5:nU.theDef PySem.Challenge.rw_likebook_k67_whole_more_rulings.row.name=some (yc.params,yc.body,yc.scope):=by kernel_rfl
theorem zT6:W.kwWritten? yc.params.kwonlyargs yc.params.kw_defaults=some []:=by kernel_rfl
theorem zT7:(!PySem.Challenge.rw_likebook_k67_whole_more_rulings.row.writes||PySem.Challenge.rw_likebook_k67_whole_more_rulings.row.records.isEmpty)=true:=by kernel_rfl
theorem zT8:(W.chainsOk y7&&W.opensWell nU&&(W.frees PySem.Challenge.rw_likebook_k67_whole_more_rulings.row.toRowW&&PySem.Challenge.rw_likebook_k67_whole_more_rulings.row.within.isEmpty))=true:=by kernel_rfl
theorem walk {l:W.OpenLaw}{K:iu->W.Frag}(hn:l.most=some 63)(hdf:d.params.defaults=[])
  (hY:∀(w:World) (h:Heap),YP w h->(K w.params).In h)
  (F:∀(w:World) (mg:Str->Option Value) (fa:Addr) (h:Heap),(K w.params).In h->h.Ns bz mg->mg d.name=some (.ref fa)->∃fd:gz,(∀(s:aw) (u:Value),tq s fd ⟨[u],[]⟩ [("_law_script",u)])/\∀base:Heap,(K w.params).In base->base.Ns bz mg->FnOk l.prog w (K w.params) mg base oF 38 fa fd ["_law_script"] (spD (K w.params) 1 CB)):
  W.WalkO q loose XP YP l.row.toRowW d [] (λf vs=>PySem.call f vs):=
 L2.walk_of hn (by decide) hdf ⟨rfl,by decide,by decide⟩ hY F (λ_ _ a ns hl _ hS=>⟨_,_,_,rfl,W5 hS,zs0 hl,λv H' _ r=>r⟩) λ_ _ _ _ _ z=>z
theorem kX:KXq y8 [] [("MOST_USES",8)]:=by
 rw[PySem.W.Fast.tkxq_eq];intro P
 kernel_rfl
theorem Kw:xE Rz:=⟨λ_ _ _ _ _ _=>xD λ_=>rfl,λ_ _ _ _ _ _=>xD λ_=>rfl,λ_ _ _ _ _ _=>hZ λ_ _=>rfl,λ_ _ _ _ _ _=>xD λ_=>rfl,λ_ _ _ _ _ _=>hZ λ_ _=>rfl,λ_ _ _ _ _ _=>hZ λ_ _=>rfl,λ_ _ _ _ _ _=>hZ λ_ _=>rfl,λ_ _ _ _ _ _=>lF λ_ _ _=>rfl,λ_ _ _ _ _ _=>xD λ_=>rfl,λ_ _ _ _ _ _=>hZ λ_ _=>rfl,λ_ _ _ _ _ _=>hZ λ_ _=>rfl,λ_ _ _ _ _ _=>hZ λ_ _=>rfl,λ_ _ _ _ _ _=>hZ λ_ _=>rfl,λ_ _ _ _ _ _=>hZ λ_ _=>rfl,λ_ _ _ _ _ _=>lF λ_ _ _=>rfl,λ_ _ _ _ _ _=>lF λ_ _ _=>rfl,λ_ _ _ _ _ _=>lF λ_ _ _=>rfl,λ_ _ _ _ _ _=>lF λ_ _ _=>rfl,λ_ _ _ _ _ _=>lF λ_ _ _=>rfl,λ_ _ _ _ _ _=>lF λ_ _ _=>rfl,λ_ _ _ _ _ _=>lF λ_ _ _=>rfl,λ_ _ _ _ _ _=>lF λ_ _ _=>rfl,λ_ _ _ _ _ _=>hZ λ_ _=>rfl,λ_ _ _ _ _ _=>hZ λ_ _=>rfl,λ_ _ _ _ _ _=>hZ λ_ _=>rfl,λ_ _ _ _ _ _=>hZ λ_ _=>rfl,λ_ _ _ _ _ _=>hZ λ_ _=>rfl,λ_ _ _ _ _ _=>xD λ_=>rfl,λ_ _ _ _ _ _=>xD λ_=>rfl,λ_ _ _ _ _ _=>hZ λ_ _=>rfl,λ_ _ _ _ _ _=>lF λ_ _ _=>rfl,λ_ _ _ _ _ _=>by4 λ_ _ _ _=>rfl,λ_ _ _ _ _ _=>W9 λ_ _ _ _ _=>rfl,λ_ _ _ _ _ _=>by4 λ_ _ _ _=>rfl,λ_ _ _ _ _ _=>lF λ_ _ _=>rfl,λ_ _ _ _ _ _=>by4 λ_ _ _ _=>rfl,λ_ _ _ _ _ _=>hZ λ_ _=>rfl,λ_ _ _ _ _ _=>hZ λ_ _=>rfl,λ_ _ _ _ _ _=>hZ λ_ _=>rfl,λ_ _ _ _ _ _=>lF λ_ _ _=>rfl,λ_ _ _ _ _ _=>by4 λ_ _ _ _=>rfl,λ_ _ _ _ _ _=>lF λ_ _ _=>rfl,trivial⟩
end Mk
open PySem PySem.W PyProof.Rows Mi
set_option maxRecDepth 100000 in
set_option maxHeartbeats 0 in
theorem PySem.Challenge.cw_likebook_k67_whole_more_rulings_holds : PySem.Challenge.rw_likebook_k67_whole_more_rulings.Holds := by
 refine Tp.holds (l:=PySem.Challenge.rw_likebook_k67_whole_more_rulings) (q:=Mk.y7) (d:=Mk.yc) (K:=Mk.y8) (M:=100000) (N:=200000) Mk.zT1 (Tp.y6 _ _ Mk.CC) Mk.zT2 rfl Mk.zT3 (by decide) Mk.QK Mk.QL Mk.zT4 Mk.zT5 Mk.zT6 Mk.zT7 Mk.zT8 ⟨rfl,rfl,rfl,rfl,rfl,by decide+kernel⟩ (by w_witness2) ?_;refine Mk.walk (l:=PySem.Challenge.rw_likebook_k67_whole_more_rulings) rfl rfl (λw h aB=>aB) ?_;intro w mg fa h KX G Ac;exact Mk.all67 KX G Ac (Nv (λr hr=>(DA Mk.Er w.params).1 r (cx _ hr)) Mk.Kw) ((DA Mk.Er w.params).1 Mk.Lr (ay _ (.head _))) (DA Mk.Er w.params).2.1 (DA Mk.Er w.params).2.2.1 ((Yc Mk.kX w.params).2 ("MOST_USES",8) (.head _))
