import PyProof.Rows.All
import Wide.All
import OpenK.AllK
import Wide.FinOn
import Lean
import PyProof.EqAt
import PyProof.EqKinds
import PyProof.TupleCall
import PySem.Syntax
import PyProof.P3Statements
import PyProof.SliceList
import KE.KUnpack
import KE.KIntText
import PyProof.Rows.StrFirst
import PyProof.StrLawsTight
import PyProof.StrCalls2
import PyProof.AttrMissSeq
import PyProof.AttrMissHeap
import KE.KDictOf
import KE.KSortTup
import PyProof.DictItemsLoops
import KE.KPairComp
import KE.KItemsList
import KE.KDictSum
import PyProof.Draws
import PyProof.ZipIter
import PyProof.EnumMake
import PyProof.WalksEnum
import PyProof.Rows.SetFrom
import PyProof.SetRoads
import KE.KRevIter
import Open.Pieces
import OpenK.KWalk
import PyProof.Rows.Walk
import PyProof.P3In
import PyProof.FactsAll.dict
import PyProof.DictIter
import PySem.Challenge.RW_likebook_k41_lines_of_courts
noncomputable section
open Array renaming length_toList→dw,getElem?_toList→ji,toArray_toList→jo,append_assoc→jx
open Bool renaming and_eq_true→aj,and_eq_true_iff→aq,false_ne_true→bf,or_eq_true_iff→dh,beq_eq_decide_eq→jk,or_eq_true→li,eq_false_iff→ny,not_eq_true'→nz
open Int renaming emod_nonneg→gr,emod_lt_of_pos→i7,natCast_nonneg→m4
open List renaming size_toArray→ae,replicate→ai,mem_cons_of_mem→ao,mem_cons_self→av,length_map→aw,length_cons→ay,getElem?_map→az,getElem?_eq_some_iff→a8,mem_cons→a9,length_append→ba,getElem?_set_ne→bd,map_cons→bg,getElem?_eq_getElem→bh,mem_append_right→bj,all_cons→bn,getElem?_replicate→bo,length_replicate→bq,all_eq_true→br,mem_of_getElem?→bu,length_set→bx,getD_eq_getElem?_getD→ca,contains_iff_mem→ce,filterMap_cons→cn,lookup_cons→cq,range→cr,getElem?_set→cy,getElem?_set_self→cz,replicate_succ→da,not_mem_nil→df,map_inj_left→di,mem_singleton→dm,flatten_cons→du,getElem?_eq_none_iff→d4,mem_map→d6,mem_append→et,getElem?_append_right→fg,getElem?_append_left→fj,append_nil→fq,nodup_cons→fu,mem_append_left→fz,length_take→gf,length_eq_zero_iff→gh,find?_cons→gq,any_cons→gu,length_drop→ij,drop_eq_getElem_cons→ip,lookup→i9,length_range→jf,map→jg,eraseIdxIfInBounds_toArray→jh,getElem?_append→jp,eq_nil_of_length_eq_zero→jq,map_append→jt,mem_filterMap→jy,pairwise_cons→j3,filterMap_cons_none→j9,filterMap_cons_some→ka,mem_flatten→kj,drop_length→km,getElem?_cons_zero→kn,getElem?_cons_succ→ko,find?_cons_of_pos→k9,take_of_length_le→la,map_map→lb,of_mem_zip→lc,foldl_cons→lf,nil_append→lh,dropLast_eq_take→lm,length_dropLast→lz,getElem?_range→mf,filter_eq_self→mi,Pairwise→mv,contains_cons→m3,any_eq_false→nh,reverse_cons→nr,append_assoc→nv,ext_getElem?→n5,set_set→n6,find?_isSome→n9,find?_append→oa,foldl→o6
open Nat renaming le_refl→ak,lt_of_lt_of_le→bp,le_trans→cb,ne_of_lt→cg,zero_le→cj,lt_irrefl→de,lt_succ_self→ig,add_le_add_left→ju,lt_of_le_of_lt→j4,lt_trans→kr,add_sub_cancel'→md,le_of_lt→m8
open Option renaming map_eq_some_iff→cf,isNone_iff_eq_none→dg,isSome_map→f8,bind_eq_some_iff→gi
open Prod renaming fst→n8,snd→pb
open PyProof.Rows renaming kindOf→jm,AllBare→jv,subscriptTail_builtinR→kz,envOfC→lw,Constant_none→mj,subscriptTail→mq,IntsAre→om,Subscript_→ox
open PySem renaming Shared→aa,PyData→ac,wpAny_bind→ag,sizeLine→ah,Program→am,wpAny_pure→a0,mainGlobals→bc,compareOp→bt,starEach→bv,Around→bz,bootBuiltins→ci,FuncData→cu,behindInMarks→cx,PassesOwn→db,assignEach→dj,sizeLine_eq→dq,foldedSetIterable→dr,NameKind→dt,Params→dz,wpAny_Call_Name_kw→d5,binaryOp→d8,wpAny_truthy_bool→d9,sysModules→ez,backTo→fi,wpAny_passesOwn→fo,sliceBounds→gb,attributeBase→gc,wpAny_getItem_str_slice→gg,wpAny_mono→gk,tupleKind_room_in1→gm,call_meets→gn,wpAny_execs_nil→gp,wpAny_newObj_type→gv,wpAny_loadPart_at→gy,unbindBehindTheSuite→g9,Operator→iu,Comprehension→iz,letOwnedTupleGo→i0,Keyword→i3,importedModules→i4,Paired→i5,swapsWith→i8,keywordEach→ja,treeTable→jb,codeAny_mono→jc,wpAny_execs_cons→jl,codeAny→jn,post_val_or_str→jr,DictEntry→jw,OsState→j5,wpAny_holding→j6,wpAny_standAt→j7,wpAny_comprehension_free→j8,tupleKind→ke,backToKw→kh,noFill_tuple_add→ki,assign→kq,getItem→ku,concat_meets→ky,wpAny_isTrue_Compare1→lj,wpAny_Raise_call_subT→ln,isTrue→lr,wpAny_loadName_local→ls,subscripted→lx,sliceRange_one→ly,fitsIndex_both→l6,codeAny_call_builtin→l7,valueAt→l9,callerA→ma,wpAny_isSubtype_exc→mh,swapsWithSole→ml,swappedStores→mo,seq_tuple_add→mr,wpAny_Name→mw,wpAny_load→mx,IsPart→my,wpAny_pyIter_tuple→mz,GenState→m9,wpAny_assign_Name→nc,BindsTo→nj,seqIndex_neg→nk,slot_list_getitem→nq,seqIndex?→og,wpAny_field→oh,seqIndex_of→oi,standAt→oj,holding→ol,builtinsNs→on,truthy→oo,Result→oq,bindArgs→ot,wpAny_call→ou,typeLookup→ow,typeIs_str→oy,typeIs_int→oz,PlainAttrs→o0,typeOf→o5,intItems→o7,getAttr?→o8,isInstance→o9,pyIter→pc,DefRec→pd,relabel→pe
open PySem.Builtin.List renaming listTooLong→iw
open PySem.Builtin.Slice renaming slicePlaces→fm,sliceAdjust→ik,sliceApplied→j2
open PySem.Builtin.Str renaming occurrences→cw,strSliceIndices→eu,glued→n4
open PySem.Builtin.Tuple renaming tupleExact→ge
open PySem.Calls renaming Name_function_global→gz,evalArgs_plain→g8,spliced_cons→i6,callWith_builtin→jd,loadGlobal_global→kg,spliced_nil→ni
open PySem.Heap renaming get?_push_of_some→au,lt_size→ax,get?_push_size→bw,SameBut→gj,get?_update_other→k8,get?_none_of_le→lq,size_push→lu,MadeExcOf→l8
set_option Elab.async false
set_option linter.all false
set_option maxRecDepth 100000
theorem pf {p:Prop} [Decidable p] (h:decide p=true):p:=of_decide_eq_true h
theorem ph {p:Prop} [Decidable p] (h:¬p):decide p=false:=decide_eq_false h
theorem pi {α} [BEq α] [LawfulBEq α] {a b:α}(h:(a==b)=true):a=b:=beq_iff_eq.mp h
namespace Tp
open PySem PySem.W PyProof.Rows
def q0:Pos:=⟨0,0,0,0⟩
def an:Option Value:=some (.ref 6)
def ev (p:am):Env:={scope:=p.main.scope,locals:=mainNs,globals:=mainNs,cells:=[],code:=.ref 13,frame:=some 14}
def cd (p:am):Code:=.body (behindTheImports p) (ev p)
def grow:List Obj->Nat->BT->BT
 | [],_,t=>t
 |o::l,i,t=>grow l (i+1) (t.ins i o)
def lift (s:aa):SharedT:=⟨grow s.heap.objs.toList 0 .nil,s.heap.objs.size,s.heap.life,s.gens,s.drawn,s.toks,s.os⟩
def pre (p:am)(H:dz->Heap)(d:Drawn)(k:Nat)(w:World)(os:j5):Option (aa×Thread):=topGo jb p w 11 an 12 ⟨H w.params,#[],d,k,os⟩ (topStub p)
def preS (p:am)(H:dz->Heap)(d:Drawn)(k:Nat)(w:World)(os:j5):SharedT:=lift (((pre p H d k w os).map n8).getD ⟨H w.params,#[],d,k,os⟩)
def run (p:am)(H:dz->Heap)(d:Drawn)(k N:Nat)(w:World)(os:j5):Option (Flow×SharedT×Code×Pos):=segRunT jb p w 11 an 1 N (preS p H d k w os) (piecesOf (behindTheImports p) (ev p) (cd p) q0 [topFrame q0])
def PreEq (p:am)(H:dz->Heap)(d:Drawn)(k:Nat):Prop:=∀(w:World) (os:j5),((H w.params).isNs bc&&(#[]:Array m9).size==0,(H w.params).objs.size,(H w.params).nsMap bc "__annotations__",pre p H d k w os,fun s c=>segRun jb p w 11 an 1 1 s (blockOf (behindTheImports p) (ev p) c q0 [topFrame q0]))=(true,11,an,some ((preS p H d k w os).abs,⟨denote jb (cd p),cd p,q0,[topFrame q0]⟩),fun s c=>some (.next,s,c,q0))
def seen (p q:am)(R:WRecords)(as:List Addr)(H:dz->Heap)(w:World)(s:SharedT):=(staticsOk (i4 p.main.body) (H w.params) s.abs.heap&&namesBound p s.abs.heap&&gensDone s.abs&&laidKept (H w.params) s.abs.heap,openSeen q [] (i4 p.main.body) (fun s=>xlAt q [] s&&recOk R s) true s.abs,as.map s.abs.heap.get?)
def pick {α:Type}(f:SharedT->α):Flow×SharedT×Code×Pos->Option (Code×α)
 |(.next,s,c,_)=>some (c,f s)
 |_=>none
def RunEq (p q:am)(R:WRecords)(as:List Addr)(K:dz->List (Addr×Obj))(H:dz->Heap)(d:Drawn)(k N:Nat):Prop:=∀(w:World) (os:j5),(run p H d k N w os).bind (pick (seen p q R as H w))=some (cd p,true,openGood q [],(K w.params).map fun x=>some x.2)
theorem fin_ (tb:String->Option Builtin)(p:am)(w:World)(n:Nat)(a:Option Value)(s:aa)(c:Code)(ps q:Pos):topRun tb p w n a 2 s ⟨doneF .next,c,ps,[topFrame q]⟩=some s:=by obtain⟨h,g,d,k,os⟩:=s;rfl
theorem left {p q:am}{R:WRecords}{as:List Addr}{K:dz->List (Addr×Obj)}{M N:Nat}(o:∀w,(fencedOpening jb p w N).map (fun s=>(s.heap,s.gens,s.drawn,s.toks))=some (boot_heap w.params,#[],boot_drawn,boot_toks))(le:12+(1+(M+2))<=N)
  (h1:PreEq p boot_heap boot_drawn boot_toks) (h2:RunEq p q R as K boot_heap boot_drawn boot_toks M):LeftO p q [] (fun s=>xlAt q [] s&&recOk R s) (fun s=>as.map s.heap.get?) (fun w=>(K w.params).map fun x=>some x.2) N:=fun w=>by
 obtain⟨⟨h,gs,d,k,os⟩,e,e'⟩:=cf.mp (o w);have e1:=Prod.mk.inj e';have e2:=Prod.mk.inj e1.2;have e3:=Prod.mk.inj e2.2;obtain rfl:h=boot_heap w.params:=e1.1;obtain rfl:gs=#[]:=e2.1;obtain rfl:d=boot_drawn:=e3.1;obtain rfl:k=boot_toks:=e3.2;have a:=Prod.mk.inj (h1 w os);have a2:=Prod.mk.inj a.2;have a3:=Prod.mk.inj a2.2;have a4:=Prod.mk.inj a3.2;obtain⟨⟨f,s,c,ps⟩,r1,r2⟩:=gi.mp (h2 w os);cases f with
 |next=>
  have b:=Prod.mk.inj (Option.some.inj r2);have b1:=Prod.mk.inj b.2;have b2:=Prod.mk.inj b1.2;obtain rfl:c=cd p:=b.1;have t1:topRun jb p w 11 an (M+2) (preS p boot_heap boot_drawn boot_toks w os).abs (restOf (behindTheImports p++[]) (ev p) (cd p) q0 [topFrame q0])=some s.abs:=piece_app (segRun_of r1) (fin_ jb p w 11 an s.abs (cd p) ps q0);rw[fq]at t1;have t2:=piece_block (congrFun (congrFun a4.2 (preS p boot_heap boot_drawn boot_toks w os).abs) (cd p)) t1;have t3:=go_top a4.1 t2;have t4:=topRun_mono (N-(12+(1+(M+2)))) _ _ _ _ t3;rw[md le]at t4
  have t:topFrom jb p w N ⟨boot_heap w.params,#[],boot_drawn,boot_toks,os⟩=some s.abs:=by
   unfold topFrom
   dsimp only
   rw[a.1,a2.1,a3.1,t4];show(match staticsOk (i4 p.main.body) (boot_heap w.params) s.abs.heap&&namesBound p s.abs.heap&&gensDone s.abs&&laidKept (boot_heap w.params) s.abs.heap with|true=>some s.abs|false=>none)=_;rw[b1.1]
  unfold openEnds;rw[e];show(topFrom jb p w N _).map _=_;rw[t];exact congrArg some (Prod.ext b2.1 b2.2)
 |_=>cases r2
theorem pre_r:PreEq=PreEq:=rfl
def zar (p q:am)(R:WRecords)(H:dz->Heap)(w:World)(s:SharedT):=(staticsOk (i4 p.main.body) (H w.params) s.abs.heap&&namesBound p s.abs.heap&&gensDone s.abs&&laidKept (H w.params) s.abs.heap,openSeen q [] (i4 p.main.body) (fun s=>xlAt q [] s&&recOk R s) true s.abs)
def RunA (p q:am)(R:WRecords)(H:dz->Heap)(d:Drawn)(k N:Nat):Prop:=∀(w:World) (os:j5),(run p H d k N w os).bind (pick (zar p q R H w))=some (cd p,true,openGood q [])
def RunB (p:am)(as:List Addr)(K:dz->List (Addr×Obj))(H:dz->Heap)(d:Drawn)(k N:Nat):Prop:=∀(w:World) (os:j5),(run p H d k N w os).bind (pick fun s=>as.map s.abs.heap.get?)=some (cd p,(K w.params).map fun x=>some x.2)
theorem zam {α β:Type}{f:SharedT->α}{g:SharedT->β}{x:Option (Flow×SharedT×Code×Pos)}{c:Code}{a:α}{b:β}(h1:x.bind (pick f)=some (c,a))(h2:x.bind (pick g)=some (c,b)):x.bind (pick fun s=>(f s,g s))=some (c,a,b):=by
 cases x with
 |none=>cases h1
 |some y=>
  obtain⟨fl,s,c',ps⟩:=y;cases fl with
  |next=>have e1:=Prod.mk.inj (Option.some.inj (show some (c',f s)=some (c,a)from h1));have e2:=Prod.mk.inj (Option.some.inj (show some (c',g s)=some (c,b)from h2));show some (c',f s,g s)=_;rw[e1.1,e1.2,e2.2]
  |_=>cases h1
theorem run_ab {p q:am}{R:WRecords}{as:List Addr}{K:dz->List (Addr×Obj)}{H:dz->Heap}{d:Drawn}{k N:Nat}(h1:RunA p q R H d k N)(h2:RunB p as K H d k N):RunEq p q R as K H d k N:=fun w os=>by
 have h:=zam (h1 w os) (h2 w os);cases e:run p H d k N w os with
 |none=>rw[e]at h;cases h
 |some y=>
  rw[e]at h;obtain⟨fl,s,c',ps⟩:=y;cases fl with
  |next=>have e1:=Prod.mk.inj (Option.some.inj (show some (c',(zar p q R H w s,as.map s.abs.heap.get?))=some (cd p,(true,openGood q []),_)from h));have e2:=Prod.mk.inj e1.2;show some (c',(zar p q R H w s).1,(zar p q R H w s).2,as.map s.abs.heap.get?)=_;rw[e1.1,e2.2,e2.1]
  |_=>cases h
theorem runA_r:RunA=RunA:=rfl
theorem runB_r:RunB=RunB:=rfl
end Tp
lay_quick Tp.PreEq Tp.RunA Tp.RunB
name_quick tpre for Tp.PreEq by Tp.pre_r
name_quick truna for Tp.RunA by Tp.runA_r
name_quick trunb for Tp.RunB by Tp.runB_r
namespace Tp
open PySem PySem.W PyProof.Rows
theorem rn_r:run=run:=rfl
end Tp
name_quick trn for Tp.run by Tp.rn_r
namespace Tp
open PySem PySem.W PyProof.Rows
def obj (p:am)(M:Nat)(P:dz)(a:Addr):Obj:=((PySem.W.Fast.trn p boot_heap boot_drawn boot_toks M ⟨fun _ _=>0,P⟩ default).map fun x=>(x.2.1.tree.get a).getD default).getD default
def Ko (p:am)(M:Nat)(as:List Addr)(P:dz):Frag:=as.map fun a=>(a,obj p M P a)
theorem Ko_as (p:am)(M:Nat)(as:List Addr)(P:dz):as=(Ko p M as P).map (·.1):=by unfold Ko;rw[lb];exact(List.map_id _).symm
def said (l:OpenLaw):Bool:=l.wellSaid
theorem said_r:said=said:=rfl
theorem holds {l:OpenLaw}{q:am}{d:pd}{as:List Addr}{K:dz->Frag}{M N:Nat}(ws:said l=true)(ek:∀P,as=(K P).map (·.1))(o1:opening l.row.prog=plainProg l.row.prog.main.scope.names)(o2:Nat.ble 600 N=true)(o3:∀s,fenceModules? l.row.prog s=some s)(le:12+(1+(M+2))<=N)
  (h1:PreEq l.row.prog boot_heap boot_drawn boot_toks) (h2:RunEq l.row.prog q l.row.records as K boot_heap boot_drawn boot_toks M) (a1:defOf q l.row.name=some (d,[])) (a2:l.row.prog.theDef l.row.name=some (d.params,d.body,d.scope)) (a3:kwWritten? d.params.kwonlyargs d.params.kw_defaults=some []) (a4:(!l.row.writes||l.row.records.isEmpty)=true)
  (a5:(chainsOk q&&opensWell l.row.prog&&(frees l.row.toRowW&&l.row.within.isEmpty))=true) (a6:l.row.prog.bare) (a7:l.row.toRowW.promised) (call:WalkO q [] (XL q []) (InK K) l.row.toRowW d [] fun f vs=>PySem.call f vs):l.Holds:=
 holds_law ws fun z=>holds_open (left (boot_open o1 o2 o3) le h1 h2) (InK.of ek) InK.keeps (fun s e=>xl_of s (aq.mp e).1) XL.keeps a1 a2 a3 (fun s e=>recFacts_of (aq.mp e).2) a4 z a5 a6 a7 call
end Tp
lay_quick Tp.said
name_quick tsaid for Tp.said by Tp.said_r
namespace Mk
open PySem PySem.Spec PyProof.Rows
abbrev zRp:am:=PySem.Challenge.rw_likebook_k41_lines_of_courts.row.prog
def zQv:am:=W.view zRp [0,2,3,4,5,6,7,8,9,10,11,12,13,14,16,18,19,20,21,22,23,24]
def zAs:List Addr:=cr 303
def zKz:dz->W.Frag:=Tp.Ko zRp 100000 zAs
theorem zH1:Tp.PreEq zRp W.boot_heap W.boot_drawn W.boot_toks:=by
 rw[PySem.W.Fast.tpre_eq];intro w os
 kernel_rfl
theorem zH2a:Tp.RunA zRp zQv PySem.Challenge.rw_likebook_k41_lines_of_courts.row.records W.boot_heap W.boot_drawn W.boot_toks 100000:=by
 rw[PySem.W.Fast.truna_eq];intro w os
 kernel_rfl
theorem zH2b:Tp.RunB zRp zAs zKz W.boot_heap W.boot_drawn W.boot_toks 100000:=by
 rw[PySem.W.Fast.trunb_eq];intro w os
 kernel_rfl
theorem zH2:Tp.RunEq zRp zQv PySem.Challenge.rw_likebook_k41_lines_of_courts.row.records zAs zKz W.boot_heap W.boot_drawn W.boot_toks 100000:=Tp.run_ab zH2a zH2b
end Mk
namespace L2
open PySem PySem.Spec PyProof.Rows
abbrev Key:=Sum Int Str
def z5b:Key->Value->Bool
 |.inl k,v=>Value.isInt k v
 |.inr x,v=>Value.isStrOf x v
def keyH (w:World):Key->Int
 |.inl k=>hashInt k
 |.inr x=>hashStr w x
theorem z0a:∀{k:Key} {v:Value},z5b k v=true->(∃i t,k=Sum.inl i/\v=Value.int i t)\/(∃x t,k=Sum.inr x/\v=Value.str x t)
 |.inl i,v,h=>by obtain⟨t,e⟩:=Value.isInt_shape (k:=i) (v:=v) h;exact .inl ⟨i,t,rfl,e⟩
 |.inr x,v,h=>by obtain⟨t,e⟩:=Value.isStrOf_shape (x:=x) (v:=v) h;exact .inr ⟨x,t,rfl,e⟩
theorem z7z (i:Int)(t:Tok):z5b (.inl i) (.int i t)=true:=by simp[z5b,Value.isInt]
theorem z85 (x:Str)(t:Tok):z5b (.inr x) (.str x t)=true:=by simp[z5b,Value.isStrOf]
theorem zja (a b:Int):decide ((Sum.inl a:Key)=Sum.inl b)=(a==b):=by
 by_cases e:a=b
 ·subst e;simp
 ·have h:¬(Sum.inl a:Key)=Sum.inl b:=fun q=>e (Sum.inl.inj q);rw[ph h];exact(beq_eq_false_iff_ne.mpr e).symm
theorem zhm (a b:Str):decide ((Sum.inr a:Key)=Sum.inr b)=decide (a=b):=by
 by_cases e:a=b
 ·subst e;simp
 ·have h:¬(Sum.inr a:Key)=Sum.inr b:=fun q=>e (Sum.inr.inj q);rw[ph h,ph e]
theorem zho (a:Int)(b:Str):decide ((Sum.inl a:Key)=Sum.inr b)=false:=ph (fun q=>nomatch q)
theorem zid (a:Str)(b:Int):decide ((Sum.inr a:Key)=Sum.inl b)=false:=ph (fun q=>nomatch q)
def z07 (prog:am)(w:World):PySem.KeyKind prog w Key where
 is:=z5b
 hash:=keyH w
 inj:=fun v a b ha hb=>by
  rcases z0a ha with⟨i,t,rfl,rfl⟩|⟨x,t,rfl,rfl⟩
  ·rcases z0a hb with⟨j,u,rfl,e⟩|⟨y,u,rfl,e⟩
   ·injection e with e1 _;rw[e1]
   ·exact nomatch e
  ·rcases z0a hb with⟨j,u,rfl,e⟩|⟨y,u,rfl,e⟩
   ·exact nomatch e
   ·injection e with e1 _;rw[e1]
 byValue:=fun k v h=>by rcases z0a h with⟨i,t,rfl,rfl⟩|⟨x,t,rfl,rfl⟩<;>rfl
 pyHash:=fun hv h=>by
  rcases z0a hv with⟨i,t,rfl,rfl⟩|⟨x,t,rfl,rfl⟩
  ·exact wpAny_pyHash_int h
  ·exact wpAny_pyHash_str h
 eqBool:=fun hu hv h=>by
  rcases z0a hu with⟨i,t,rfl,rfl⟩|⟨x,t,rfl,rfl⟩
  ·rcases z0a hv with⟨j,u,rfl,rfl⟩|⟨y,u,rfl,rfl⟩
   ·rw[zja]at h;exact wpAny_eqBool_int h
   ·rw[zho]at h;exact SeqAt.EqAt.int_str i t y u _ _ _ _ h
  ·rcases z0a hv with⟨j,u,rfl,rfl⟩|⟨y,u,rfl,rfl⟩
   ·rw[zid]at h;exact SeqAt.EqAt.str_int x t j u _ _ _ _ h
   ·rw[zhm]at h;exact wpAny_eqBool_str h
 «strs»:=fun k x t v h=>by
  rcases z0a h with⟨i,u,rfl,e⟩|⟨y,u,rfl,e⟩
  ·exact nomatch e
  ·injection e with e1 _;subst e1;cases v<;>rfl
theorem z6u (prog:am)(w:World)(k:Key)(v:Value):(z07 prog w).is k v=z5b k v:=rfl
theorem z53 (prog:am)(w:World)(i:Int)(t:Tok):(z07 prog w).is (.inl i) (.int i t)=true:=z7z i t
theorem z56 (prog:am)(w:World)(x:Str)(t:Tok):(z07 prog w).is (.inr x) (.str x t)=true:=z85 x t
inductive V where
 |non|bl (b:Bool)|int (i:Int)|str (x:Str)|byt (b:Array UInt8)|flt (b:UInt64)|ref (a:Addr)|ty (n:String)
 deriving DecidableEq
def RelV:V->Value->Prop
 |.non,u=>u=Value.none
 |.bl b,u=>u=Value.bool b
 |.int i,u=>∃t,u=Value.int i t
 |.str x,u=>∃t,u=Value.str x t
 |.byt b,u=>∃t,u=Value.bytes b t
 |.flt b,u=>∃t,u=Value.float b t
 |.ref a,u=>u=Value.ref a
 |.ty n,u=>u=Value.type n
abbrev Vals:List V->List Value->Prop:=i5 RelV
theorem Vals.length {xs:List V}{us:List Value}(r:Vals xs us):xs.length=us.length:=Paired.length r
theorem Vals.get:∀{xs:List V} {us:List Value} {i:Nat} {x:V},Vals xs us->xs[i]?=some x->∃u,us[i]?=some u/\RelV x u
 |_,_,_,_,.nil,e=>by simp at e
 |_,_,0,_,.cons r _,e=>by simp at e;subst e;exact⟨_,rfl,r⟩
 |_,_,i+1,x,.cons _ t,e=>by obtain⟨u,h1,h2⟩:=Vals.get (i:=i) (x:=x) t (by simpa using e);exact⟨u,by simpa using h1,h2⟩
theorem Vals.set {x:V}{u:Value}(r:RelV x u):∀{xs:List V} {us:List Value} (i:Nat),Vals xs us->Vals (xs.set i x) (us.set i u)
 |_,_,_,.nil=>.nil
 |_,_,0,.cons _ t=>.cons r t
 |_,_,i+1,.cons q t=>.cons q (Vals.set r i t)
theorem Vals.append:∀{xs ys:List V} {us ws:List Value},Vals xs us->Vals ys ws->Vals (xs++ys) (us++ws)
 |_,_,_,_,.nil,s=>s
 |_,_,_,_,.cons r t,s=>.cons r (Vals.append t s)
theorem Vals.take:∀{xs:List V} {us:List Value} (n:Nat),Vals xs us->Vals (xs.take n) (us.take n)
 |_,_,0,_=>.nil
 |_,_,_+1,.nil=>.nil
 |_,_,n+1,.cons r t=>.cons r (Vals.take n t)
theorem Vals.drop:∀{xs:List V} {us:List Value} (n:Nat),Vals xs us->Vals (xs.drop n) (us.drop n)
 |_,_,0,r=>r
 |_,_,_+1,.nil=>.nil
 |_,_,n+1,.cons _ t=>Vals.drop n t
theorem Vals.none_of:∀{xs:List V} {us:List Value} {i:Nat},Vals xs us->xs[i]?=none->us[i]?=none:=fun{xs us i} r e=>by have h1:=r.length;have h2:xs.length<=i:=d4.mp e;exact d4.mpr (by omega)
def RelO:Option V->Option Value->Prop
 |some v,some u=>RelV v u
 |none,none=>True
 |_,_=>False
def KV {κ:Type}:List (κ×V)->List (κ×Value)->Prop:=i5 fun(p:κ×V) (q:κ×Value)=>p.1=q.1/\RelV p.2 q.2
def kV:Key->V
 |.inl i=>.int i
 |.inr x=>.str x
inductive HO where
 |lst (xs:List V)
 |tup (xs:List V)
 |dK (kvs:List (Key×V))|dT (kvs:List (List Key×V))
 |set (S:Int->Bool) (n:Nat)
 |ins (C dx:Addr) (fs:List (Str×V))
 |own (x:Addr)
 |xd (fs:List (Str×V))
 |met (f x:Addr)
 |rng (lo hi:Int)
 |frz (o:Obj) (u:HO)
 |tbl (ps:Array Value)
 |ext (φ:Heap->Prop)
abbrev Hp:=Addr->Option HO
def upd (H:Hp)(a:Addr)(o:HO):Hp:=fun b=>if b=a then some o else H b
theorem z02 {H:Hp}{a:Addr}{o:HO}:upd H a o a=some o:=by unfold upd;rw[if_pos rfl]
theorem z01 {H:Hp}{a b:Addr}{o:HO}(h:b≠a):upd H a o b=H b:=by unfold upd;rw[if_neg h]
theorem zmz {H:Hp}{a b:Addr}{o u:HO}(h:H a=some o)(h':H b=some u)(d:o≠u):a≠b:=by intro e;subst e;rw[h]at h';exact d (Option.some.inj h')
theorem z08 {H:Hp}{a b:Addr}{o:HO}(h:H a=some o)(h':H b=none):a≠b:=by intro e;subst e;rw[h]at h';cases h'
def TupN (h:Heap)(a:Addr)(l:Array Value):Prop:=∃n,h.get? a=some {cls:=.type "tuple",data:=.seq l n}
theorem TupN.tup {h:Heap}{a:Addr}{l:Array Value}(x:TupN h a l):IsTup h a l:=let⟨n,q⟩:=x;⟨_,q,rfl,n,rfl⟩
theorem TupN.new (h:Heap)(l:Array Value):TupN (h.push {cls:=.type "tuple",data:=.seq l}) h.objs.size l:=⟨_,bw _ rfl⟩
section
variable (P:am)(w:World)
def z0i (H:Hp)(h:Heap)(a:Addr):HO->Prop
 |.lst xs=>xs.length<=ah/\∃(its:List Value) (n:Nat),Vals xs its/\h.get? a=some {cls:=.type "list",data:=.seq its.toArray n}
 |.tup xs=>xs.length<=ah/\∃its:List Value,Vals xs its/\TupN h a its.toArray
 |.dK kvs=>kvs.length<=ah/\(a==ez)=false/\∃vs,KV kvs vs/\h.DictOf (z07 P w) a vs
 |.dT kvs=>kvs.length<=ah/\(a==ez)=false/\∃xs:List (List Key×Addr×Value),
  i5 (fun(p:List Key×V) (q:List Key×Addr×Value)=>p.1=q.1/\H q.2.1=some (.tup (p.1.map kV))/\RelV p.2 q.2.2) kvs xs/\
  ∃o es ep,h.get? a=some o/\o.ExactDict/\o.data=.dict es ep/\es.toList=xs.map (entryOfKey (ke (z07 P w)))/\(xs.map (·.1)).Nodup
 |.set S n=>h.SetOf (intKind P w) a S n
 |.ins C dx fs=>H dx=some (.own a)/\fs.length<=1000/\dx≠a/\h.get? a=some (W.instObj C dx)/\∃mA,h.Ns1 dx mA/\(∀f,RelO (fs.lookup f) (mA f))/\PySem.Within mA (fs.map (·.1))
 |.own _=>∃o,h.get? a=some o
 |.xd fs=>∃mA,h.Ns1 a mA/\∀f,RelO (fs.lookup f) (mA f)
 |.rng lo hi=>∃t u v,h.get? a=some {cls:=.type "range",data:=.fields #[.int lo t,.int hi u,.int 1 v]}
 |.frz o u=>h.get? a=some o/\z0i H h a u
 |.tbl ps=>h.get? a=some {cls:=.none,data:=.fields ps}
 |.met f x=>h.get? a=some (W.methodObj (.ref f) (.ref x))
 |.ext φ=>φ h/\(∃o,h.get? a=some o)/\∀h1 h2:Heap,φ h1->(∀o,h1.get? a=some o->h2.get? a=some o)->φ h2
def HOk (H:Hp)(h:Heap):Prop:=∀a o,H a=some o->z0i P w H h a o
end
section
variable {P:am}{w:World}{H H':Hp}{h h':Heap}{a:Addr}{o:HO}
theorem z0i.lt (x:z0i P w H h a o):a<h.objs.size:=by
 cases o with
 |lst xs=>obtain⟨_,_,_,_,e⟩:=x;exact ax e
 |tup xs=>obtain⟨_,_,_,_,q⟩:=x;exact ax q
 |dK kvs=>obtain⟨_,_,_,_,o,_,_,e,_⟩:=x;exact ax e
 |dT kvs=>obtain⟨_,_,_,_,o,_,_,e,_⟩:=x;exact ax e
 |set S n=>obtain⟨o,_,_,_,e,_⟩:=x;exact ax e
 |ins C dx fs=>obtain⟨_,_,_,e,_⟩:=x;exact ax e
 |own y=>obtain⟨_,e⟩:=x;exact ax e
 |xd fs=>obtain⟨_,⟨_,_,_,e,_⟩,_⟩:=x;exact ax e
 |rng lo hi=>obtain⟨_,_,_,e⟩:=x;exact ax e
 |frz ob u=>obtain⟨e,_⟩:=x;exact ax e
 |tbl ps=>exact ax (show h.get? a=some _ from x)
 |met f y=>exact ax (show h.get? a=some _ from x)
 |ext φ=>obtain⟨_,⟨_,e⟩,_⟩:=x;exact ax e
theorem Paired.mapP {α β:Type}{F G:α->β->Prop}:∀{l₁:List α} {l₂:List β},i5 F l₁ l₂->(∀a b,F a b->G a b)->i5 G l₁ l₂
 |_,_,.nil,_=>.nil
 |_,_,.cons r t,f=>.cons (f _ _ r) (Paired.mapP t f)
theorem z0i.stay (x:z0i P w H h a o)(k:∀b u,(b=a\/H b=some (.own a))->h.get? b=some u->h'.get? b=some u)
  (ho:∀b,H b=some (.own a)->H' b=some (.own a)) (ht:∀b xs,H b=some (.tup xs)->H' b=some (.tup xs)):z0i P w H' h' a o:=by
 induction o with
 |lst xs=>obtain⟨z,its,n,r,e⟩:=x;exact⟨z,its,n,r,k _ _ (.inl rfl) e⟩
 |tup xs=>obtain⟨z,l,r,n,q⟩:=x;exact⟨z,l,r,n,k _ _ (.inl rfl) q⟩
 |dK kvs=>obtain⟨z,y,vs,r,ob,es,ep,e,c⟩:=x;exact⟨z,y,vs,r,ob,es,ep,k _ _ (.inl rfl) e,c⟩
 |dT kvs=>obtain⟨z,y,xs,r,ob,es,ep,e,c⟩:=x;exact⟨z,y,xs,Paired.mapP r fun p q z=>⟨z.1,ht _ _ z.2.1,z.2.2⟩,ob,es,ep,k _ _ (.inl rfl) e,c⟩
 |set S n=>obtain⟨ob,es,ep,t,e,c⟩:=x;exact⟨ob,es,ep,t,k _ _ (.inl rfl) e,c⟩
 |ins C dx fs=>obtain⟨d,z,ne,e,mA,⟨od,es,ep,e2,c⟩,r⟩:=x;exact⟨ho _ d,z,ne,k _ _ (.inl rfl) e,mA,⟨od,es,ep,k _ _ (.inr d) e2,c⟩,r⟩
 |own y=>obtain⟨ob,e⟩:=x;exact⟨ob,k _ _ (.inl rfl) e⟩
 |xd fs=>obtain⟨mA,⟨od,es,ep,e,c⟩,r⟩:=x;exact⟨mA,⟨od,es,ep,k _ _ (.inl rfl) e,c⟩,r⟩
 |rng lo hi=>obtain⟨t,u,v,e⟩:=x;exact⟨t,u,v,k _ _ (.inl rfl) e⟩
 |frz ob u ih=>obtain⟨e,q⟩:=x;exact⟨k _ _ (.inl rfl) e,ih q⟩
 |tbl ps=>have e:h.get? a=some {cls:=.none,data:=.fields ps}:=x;show h'.get? a=some {cls:=.none,data:=.fields ps};exact k a _ (.inl rfl) e
 |met f y=>have e:h.get? a=some (W.methodObj (.ref f) (.ref y)):=x;show h'.get? a=some (W.methodObj (.ref f) (.ref y));exact k a _ (.inl rfl) e
 |ext φ=>obtain⟨p,⟨o,e⟩,st⟩:=x;exact⟨st _ _ p fun o q=>k _ _ (.inl rfl) q,⟨o,k _ _ (.inl rfl) e⟩,st⟩
theorem HOk.lt (x:HOk P w H h)(e:H a=some o):a<h.objs.size:=(x a o e).lt
theorem HOk.fresh (x:HOk P w H h)(e:h.objs.size<=a):H a=none:=by
 cases q:H a with
 |none=>rfl
 |some u=>exact absurd (bp (x.lt q) e) (de _)
theorem HOk.kept (x:HOk P w H h)(k:∀b u,h.get? b=some u->h'.get? b=some u):HOk P w H h':=fun a o e=>(x a o e).stay (fun b u _ q=>k b u q) (fun _ q=>q) fun _ _ q=>q
theorem HOk.laid (x:HOk P w H h)(k:∀b u,h.get? b=some u->h'.get? b=some u)(hp:h.objs.size<=a)(new:z0i P w (upd H a o) h' a o):HOk P w (upd H a o) h':=fun b u e=>by
 have hn:=x.fresh hp;by_cases hb:b=a
 ·subst hb;rw[z02]at e;cases e;exact new
 ·rw[z01 hb]at e;exact(x b u e).stay (fun c v _ q=>k c v q) (fun c q=>by rw[z01 (z08 q hn)];exact q) fun c xs q=>by rw[z01 (z08 q hn)];exact q
end
def Rd (H:Hp)(a:Addr)(u:HO):Prop:=H a=some u\/∃o,H a=some (.frz o u)
theorem Rd.of {H:Hp}{a:Addr}{u:HO}(h:H a=some u):Rd H a u:=.inl h
theorem Rd.ok {P:am}{w:World}{H:Hp}{h:Heap}{a:Addr}{u:HO}(r:Rd H a u)(x:HOk P w H h):z0i P w H h a u:=by
 rcases r with r|⟨o,r⟩
 ·exact x a u r
 ·obtain⟨_,q⟩:=x a _ r;exact q
def Mut:Option HO->Prop
 |some (.lst _)=>True
 |some (.dK _)=>True
 |some (.dT _)=>True
 |some (.set _ _)=>True
 |some (.ins _ _ _)=>True
 |some (.ext _)=>True
 |_=>False
section
variable {P:am}{w:World}{H:Hp}{h h':Heap}{x e:Addr}{o':HO}
theorem HOk.write (ok:HOk P w H h)(mu:Mut (H x))(he:e=x\/H e=some (.own x))(k:∀b u,b≠e->h.get? b=some u->h'.get? b=some u)(heo:∃u,h'.get? e=some u)
  (new:z0i P w (upd H x o') h' x o'):HOk P w (upd H x o') h':=fun b u q=>by
 have nown:∀c y,H c=some (.own y)->c≠x:=fun c y r z=>by subst z;rw[r]at mu;exact mu
 have ntup:∀c xs,H c=some (.tup xs)->c≠x:=fun c xs r z=>by subst z;rw[r]at mu;exact mu
 by_cases hb:b=x
 ·subst hb;rw[z02]at q;cases q;exact new
 ·rw[z01 hb]at q;by_cases hbe:b=e
  ·have q':H b=some (.own x):=by
    rcases he with z|z
    ·exact absurd (hbe.trans z) hb
    ·rw[hbe];exact z
   rw[q]at q';cases q';obtain⟨v,hv⟩:=heo;exact⟨v,by rw[hbe];exact hv⟩
  ·refine(ok b u q).stay (fun c v hc r=>k c v ?_ r) (fun c r=>by rw[z01 (nown c b r)];exact r) fun c xs r=>by rw[z01 (ntup c xs r)];exact r
   rcases hc with rfl|hc
   ·exact hbe
   ·rintro rfl
    rcases he with z|z
    ·exact nown c b hc z
    ·rw[hc]at z;cases z;exact hb rfl
end
structure Un (fs ex:List Addr)(H H':Hp)(h h':Heap):Prop where
 keep:∀b o,h.get? b=some o->H b=none->b∉fs->b∉ex->h'.get? b=some o
 slot:∀b o,h.get? b=some o->H b=none->b∈fs->b∉ex->∃sl,h'.get? b=some {o with slots:=sl}
 free:∀b o,h.get? b=some o->H b=none->b∉ex->H' b=none
 there:∀b o,h.get? b=some o->b∉ex->∃o',h'.get? b=some o'
 tups:∀b xs,H b=some (.tup xs)->H' b=some (.tup xs)
 frzs:∀b o u,H b=some (.frz o u)->H' b=some (.frz o u)
 tbls:∀b ps,H b=some (.tbl ps)->∃more,H' b=some (.tbl (ps++more))
section
variable {fs fs' ex ex':List Addr}{H H1 H2:Hp}{h h1 h2 h':Heap}{a x e:Addr}{o:HO}
theorem Un.any (u:Un fs ex H H1 h h1){b:Addr}{ob:Obj}(q:h.get? b=some ob)(n:H b=none)(hx:b∉ex):∃sl,h1.get? b=some {ob with slots:=sl}:=by
 by_cases hb:b∈fs
 ·exact u.slot b ob q n hb hx
 ·exact⟨ob.slots,u.keep b ob q n hb hx⟩
theorem Un.trans (a:Un fs ex H H1 h h1)(b:Un fs ex H1 H2 h1 h2):Un fs ex H H2 h h2 where
 keep:=fun c ob q n hc hx=>b.keep c ob (a.keep c ob q n hc hx) (a.free c ob q n hx) hc hx
 slot:=fun c ob q n hc hx=>by obtain⟨sl,e1⟩:=a.slot c ob q n hc hx;obtain⟨sl',e2⟩:=b.slot c _ e1 (a.free c ob q n hx) hc hx;exact⟨sl',e2⟩
 free:=fun c ob q n hx=>by obtain⟨o',e1⟩:=a.there c ob q hx;exact b.free c o' e1 (a.free c ob q n hx) hx
 there:=fun c ob q hx=>by obtain⟨o',e1⟩:=a.there c ob q hx;exact b.there c o' e1 hx
 tups:=fun c xs q=>b.tups c xs (a.tups c xs q)
 frzs:=fun c ob xs q=>b.frzs c ob xs (a.frzs c ob xs q)
 tbls:=fun c ps q=>by obtain⟨m1,e1⟩:=a.tbls c ps q;obtain⟨m2,e2⟩:=b.tbls c _ e1;exact⟨m1++m2,by rw[e2,jx]⟩
theorem Un.kept (k:∀b u,h.get? b=some u->h'.get? b=some u):Un fs ex H H h h':=⟨fun b ob q _ _ _=>k b ob q,fun b ob q _ _ _=>⟨ob.slots,k b ob q⟩,fun _ _ _ n _=>n,fun b ob q _=>⟨ob,k b ob q⟩,fun _ _ q=>q,fun _ _ _ q=>q,fun _ ps q=>⟨#[],by rw[q];simp⟩⟩
theorem Un.refl:Un fs ex H H h h:=Un.kept fun _ _ q=>q
theorem Un.laid (k:∀b u,h.get? b=some u->h'.get? b=some u)(hp:h.objs.size<=a)(hn:H a=none):Un fs ex H (upd H a o) h h' where
 keep:=fun b u q _ _ _=>k b u q
 slot:=fun b u q _ _ _=>⟨u.slots,k b u q⟩
 free:=fun b u q n _=>by rw[z01 (cg (bp (ax q) hp))];exact n
 there:=fun b u q _=>⟨u,k b u q⟩
 tups:=fun b xs q=>by rw[z01 (z08 q hn)];exact q
 frzs:=fun b u xs q=>by rw[z01 (z08 q hn)];exact q
 tbls:=fun b ps q=>⟨#[],by rw[z01 (z08 q hn),q];simp⟩
theorem Un.write (mu:Mut (H x))(he:e=x\/H e=some (.own x))(k:∀b u,b≠e->h.get? b=some u->h'.get? b=some u)(heo:∃u,h'.get? e=some u):Un fs ex H (upd H x o) h h':=by
 have hx:∀b,H b=none->b≠x:=fun b n z=>by subst z;rw[n]at mu;exact mu
 have hb:∀b,H b=none->b≠e:=fun b n z=>by
  subst z;rcases he with r|r
  ·exact hx b n r
  ·rw[n]at r;cases r
 have hm:∀b u,H b=some u->¬Mut (some u)->b≠x:=fun b u q nm z=>by subst z;rw[q]at mu;exact nm mu
 refine⟨fun b u q n _ _=>k b u (hb b n) q,fun b u q n _ _=>⟨u.slots,k b u (hb b n) q⟩,fun b u q n _=>by rw[z01 (hx b n)];exact n,fun b u q _=>?_,fun b xs q=>by rw[z01 (hm b _ q fun z=>z)];exact q,fun b u xs q=>by rw[z01 (hm b _ q fun z=>z)];exact q,fun b ps q=>⟨#[],by rw[z01 (hm b _ q fun z=>z),q];simp⟩⟩;by_cases hbe:b=e
 ·subst hbe;exact heo
 ·exact⟨u,k b u hbe q⟩
theorem Un.mono (u:Un fs ex H H1 h h1)(hs:∀b∈fs,b∈fs')(hx:∀b∈ex,b∈ex'):Un fs' ex' H H1 h h1:=⟨fun b ob q n hb he=>u.keep b ob q n (fun z=>hb (hs b z)) fun z=>he (hx b z),fun _ _ q n _ he=>u.any q n fun z=>he (hx _ z),fun b ob q n he=>u.free b ob q n fun z=>he (hx b z),fun b ob q he=>u.there b ob q fun z=>he (hx b z),u.tups,u.frzs,u.tbls⟩
end
def trk (h:Heap)(H:Hp):List Addr:=(cr h.objs.size).filter fun a=>(H a).isSome
def hidT (h:Heap)(H:Hp):Heap:=W.hideAll h (trk h H)
theorem z92 (h:Heap)(H:Hp):(hidT h H).objs.size=h.objs.size:=W.hideAll_size _ _
theorem zb0 {h:Heap}{H:Hp}{b:Addr}{o:Obj}(e:h.get? b=some o)(n:H b=none):(hidT h H).get? b=some o:=W.hideAll_get _ e fun hm=>by have q:(H b).isSome=true:=(List.mem_filter.mp hm).2;rw[n]at q;simp at q
theorem zeh {h:Heap}{H:Hp}{b:Addr}{o:Obj}(e:(hidT h H).get? b=some o):h.get? b=some o/\H b=none:=by
 have e':h.get? b=some o:=W.of_hideAll (trk h H) e;refine⟨e',?_⟩;cases q:H b with
 |none=>rfl
 |some x=>have hm:b∈trk h H:=List.mem_filter.mpr ⟨List.mem_range.mpr (ax e'),by simp[q]⟩;have z:(hidT h H).get? b=none:=W.hideAll_none (trk h H) hm;rw[z]at e;cases e
def zf6 (g h:Heap)(L:Addr):List (Addr×Obj):=(cr h.objs.size).filterMap fun a=>if a=L\/(g.get? a).isSome=true then none else(h.get? a).map fun o=>(a,o)
def rest (g h:Heap)(L d:Addr):List (Addr×Obj):=(zf6 g h L).filter fun p=>decide (p.1≠d)
structure Mod (K:W.Frag)(mg:Str->Option Value)(base:Heap):Prop where
 kin:K.In base
 glob:base.Ns bc mg
 blt:∃mb,base.Ns on mb/\∀x:Str,x≠"__name__"->mb x=ci x
 nolimit:base.NoLimit
structure Cx where
 prog:am
 w:World
 K:W.Frag
 mg:Str->Option Value
 base:Heap
 A:bz
 N:List Str
 s₀:aa
 H₀:Hp
 env:Env
 outer:List Env
 stack:List Env
 ex:List Addr
 fn:Str->Bool
 calm:Bool
 pn:List (Addr×Obj)
 xe:Value->aa->Prop
 fx:Option (Str×Value):=none
def frs (l:List Env):List Addr:=l.filterMap (·.frame)
abbrev Cx.fs (X:Cx):List Addr:=frs X.outer
def Vis (sc:Scope)(x:Str):Prop:=sc.names.lookup x=some .local\/sc.names.lookup x=some .cell\/sc.names.lookup x=some .free
def Loc (sc:Scope)(x:Str):Prop:=sc.names.lookup x=some .local\/sc.names.lookup x=some .cell
def Look (env:Env)(h:Heap)(m:Str->Option Value)(x:Str)(u:Value):Prop:=(env.kindOf x=some .local/\m x=some u)\/((env.kindOf x=some .cell\/env.kindOf x=some .free)/\∃c,env.cells.lookup x=some c/\h.IsCell c (some u))
structure Cx.Ok (X:Cx):Prop where
 mod:Mod X.K X.mg X.base
 kind:X.env.scope.kind=.function
 glob:X.env.globals=bc
 blt:X.env.builtins=on
 above:X.s₀.heap.objs.size<=X.env.locals
 inj:∀x y c,X.env.cells.lookup x=some c->X.env.cells.lookup y=some c->x=y
 has:∀x,(X.env.kindOf x=some .cell\/X.env.kindOf x=some .free)->∃c,X.env.cells.lookup x=some c
 cab:∀x c,X.fn x=true->X.env.cells.lookup x=some c->X.s₀.heap.objs.size<=c
 hd:X.calm=true->X.A.handled=none
 frames:X.A.frames=some X.stack
 stk:X.stack=X.outer\/(X.stack=X.env::X.outer/\X.env.frame=some X.env.locals)
 exf:∀b∈X.ex,b≠X.env.locals/\∀x c,X.env.cells.lookup x=some c->c≠b
 bs:∀b o,X.base.get? b=some o->X.s₀.heap.get? b=some o/\X.H₀ b=none
 bsz:X.base.objs.size<=X.s₀.heap.objs.size
 noex:∀b o,X.base.get? b=some o->b∉X.ex
 exfs:∀b∈X.ex,b∉X.fs
 funs:X.s₀.heap.FunFrames X.base X.outer
 frf:∀b∈X.fs,X.H₀ b=none
 fxN:∀x u,X.fx=some (x,u)->x∉X.N/\X.env.scope.names.lookup x=some .local
structure Inv (X:Cx)(pins:List (Addr×Obj))(σ:List (Option V))(H:Hp)(s:aa):Prop where
 ok:X.Ok
 os:s.os=X.s₀.os
 bare:jv s.gens
 base:Un X.fs X.ex X.H₀ H X.s₀.heap s.heap
 loc:∃m,s.heap.Ns X.env.locals m/\∀(i:Nat) (x:Str) (v:V),X.N[i]?=some x->σ[i]?=some (some v)->Vis X.env.scope x->∃u,RelV v u/\Look X.env s.heap m x u
 cell:∀x c,X.env.cells.lookup x=some c->∃v,s.heap.IsCell c v
 free:H X.env.locals=none
 freeC:∀x c,X.env.cells.lookup x=some c->H c=none
 pin:∀p∈X.pn++pins,s.heap.get? p.1=some p.2/\H p.1=none/\p.1≠X.env.locals/\p.1∉X.fs/\∀v,p.2.data≠.cell v
 hok:HOk X.prog X.w H s.heap
 len:σ.length=X.N.length
 fx:∀x u,X.fx=some (x,u)->∃m,s.heap.Ns X.env.locals m/\m x=some u
section
variable {X:Cx}{pins:List (Addr×Obj)}{σ:List (Option V)}{H H':Hp}{s:aa}{h':Heap}
theorem Cx.Ok.nofr (ok:X.Ok){b:Addr}{o:Obj}(e:X.base.get? b=some o):b∉X.fs:=fun hb=>by have:=(ok.funs.mem hb).1;rw[e]at this;cases this
theorem Inv.bs (I:Inv X pins σ H s):∀b o,X.base.get? b=some o->s.heap.get? b=some o/\H b=none:=fun b o e=>⟨I.base.keep b o (I.ok.bs b o e).1 (I.ok.bs b o e).2 (I.ok.nofr e) (I.ok.noex b o e),I.base.free b o (I.ok.bs b o e).1 (I.ok.bs b o e).2 (I.ok.noex b o e)⟩
theorem Inv.bk (I:Inv X pins σ H s):∀b o,X.base.get? b=some o->s.heap.get? b=some o:=fun b o e=>(I.bs b o e).1
theorem Inv.mod (I:Inv X pins σ H s):Mod X.K X.mg X.base:=I.ok.mod
theorem Inv.kIn (I:Inv X pins σ H s):X.K.In s.heap:=I.ok.mod.kin.keeps I.bk
theorem Inv.nolimit (I:Inv X pins σ H s):s.heap.NoLimit:=I.ok.mod.nolimit.keeps I.bk
theorem Inv.fr (I:Inv X pins σ H s):∃m,Fr X.base X.env.locals s.heap m:=
 let⟨m,hn,_⟩:=I.loc
 ⟨m,hn,I.bk,cb I.ok.bsz I.ok.above⟩
theorem Inv.lt (I:Inv X pins σ H s):X.env.locals<s.heap.objs.size:=let⟨_,hn,_⟩:=I.loc;hn.lt
theorem Inv.sz (I:Inv X pins σ H s):X.s₀.heap.objs.size<=s.heap.objs.size:=cb I.ok.above (m8 I.lt)
theorem Inv.nofs (I:Inv X pins σ H s){a:Addr}(h:s.heap.objs.size<=a):a∉X.fs:=fun hb=>by obtain⟨_,o,ho,_⟩:=I.ok.funs.mem hb;exact absurd (bp (ax ho) (cb I.sz h)) (de _)
theorem Inv.cne (I:Inv X pins σ H s):∀x c,X.env.cells.lookup x=some c->c≠X.env.locals:=fun x c e z=>by obtain⟨v,o,ho,hd⟩:=I.cell x c e;obtain⟨m,⟨o',es,ep,ho',hd',_⟩,_⟩:=I.loc;rw[z,ho']at ho;cases ho;rw[hd']at hd;cases hd
theorem Inv.funs (I:Inv X pins σ H s):s.heap.FunFrames X.base X.outer:=by
 have all:∀(l:List Env),(∀b∈frs l,b∈X.fs)->X.s₀.heap.FunFrames X.base l->s.heap.FunFrames X.base l:=by
  intro l
  induction l with
  |nil=>intro _ _;trivial
  |cons env r ih=>intro hs hl;obtain⟨hk,⟨L,o,hf,hn,ho,hd⟩,hr⟩:=hl;have hL:L∈X.fs:=hs L (by unfold frs;rw[cn,hf];exact av);obtain⟨sl,e⟩:=I.base.slot L o ho (I.ok.frf L hL) hL fun z=>I.ok.exfs L z hL;exact⟨hk,⟨L,_,hf,hn,e,hd⟩,ih (fun b hb=>hs b (by unfold frs;rw[cn,hf];exact ao _ hb)) hr⟩
 exact all X.outer (fun _ hb=>hb) I.ok.funs
theorem Inv.stack (I:Inv X pins σ H s):s.heap.FunFrames X.base X.stack:=by
 rcases I.ok.stk with e|⟨e,hf⟩
 ·rw[e];exact I.funs
 ·rw[e];obtain⟨m,hn,_⟩:=I.loc;refine .cons (by rw[I.ok.kind];decide) hf hn ?_ I.funs;exact lq (cb I.ok.bsz I.ok.above)
theorem Inv.stkSub (I:Inv X pins σ H s):∀b∈frs X.stack,b∈X.env.locals::X.fs:=fun b hb=>by
 rcases I.ok.stk with e|⟨e,hf⟩
 ·rw[e]at hb;exact ao _ hb
 ·rw[e]at hb;unfold frs at hb;rw[cn,hf]at hb;exact hb
theorem Inv.stkFree (I:Inv X pins σ H s):∀b∈frs X.stack,H b=none:=fun b hb=>by
 rcases a9.mp (I.stkSub b hb)with e|hb
 ·rw[e];exact I.free
 ·obtain⟨_,o,ho,_⟩:=I.ok.funs.mem hb;exact I.base.free b o ho (I.ok.frf b hb) fun z=>I.ok.exfs b z hb
theorem Inv.step {g':Array m9}{t':Nat}{d':Drawn}{ch:List Addr}(I:Inv X pins σ H s)
  (hch:∀b∈ch,(b∈X.ex\/X.s₀.heap.objs.size<=b)/\b≠X.env.locals/\(∀x c,X.env.cells.lookup x=some c->c≠b)/\∀p∈X.pn++pins,p.1≠b)
  (keep:∀b o,b≠X.env.locals->b∉X.fs->b∉ch->s.heap.get? b=some o->H b=none->h'.get? b=some o)
  (slot:∀b o,b≠X.env.locals->b∈X.fs->b∉ch->s.heap.get? b=some o->H b=none->∃sl,h'.get? b=some {o with slots:=sl}) (free:∀b o,b∉ch->s.heap.get? b=some o->H b=none->H' b=none)
  (there:∀b o,b∉ch->s.heap.get? b=some o->∃o',h'.get? b=some o')
  (tups:∀b xs,H b=some (.tup xs)->H' b=some (.tup xs)) (frzs:∀b o u,H b=some (.frz o u)->H' b=some (.frz o u)) (tbls:∀b ps,H b=some (.tbl ps)->∃more,H' b=some (.tbl (ps++more)))
  (ns:∀m,s.heap.Ns X.env.locals m->h'.Ns X.env.locals m) (hok:HOk X.prog X.w H' h') (hg:jv g'):
  Inv X pins σ H' {s with heap:=h',gens:=g',drawn:=d',toks:=t'}:=by
 have neL:∀b o,X.s₀.heap.get? b=some o->b≠X.env.locals:=fun b o e=>cg (bp (ax e) I.ok.above)
 have neC:∀b o,X.s₀.heap.get? b=some o->b∉X.ex->b∉ch:=fun b o e hx hb=>by
  rcases(hch b hb).1 with z|z
  ·exact hx z
  ·exact absurd (bp (ax e) z) (de _)
 have cellK:∀x c,X.env.cells.lookup x=some c->∀v,s.heap.IsCell c v->h'.IsCell c v:=fun x c e v ⟨o,ho,hd⟩=>by
  have nch:c∉ch:=fun z=>(hch c z).2.2.1 x c e rfl;by_cases hc:c∈X.fs
  ·obtain⟨sl,q⟩:=slot c o (I.cne x c e) hc nch ho (I.freeC x c e);exact⟨_,q,hd⟩
  ·exact⟨o,keep c o (I.cne x c e) hc nch ho (I.freeC x c e),hd⟩
 refine⟨I.ok,I.os,hg,⟨fun b o e n hb hx=>?_,fun b o e n hb hx=>?_,fun b o e n hx=>?_,fun b o e hx=>?_,fun b xs e=>tups b xs (I.base.tups b xs e),fun b o xs e=>frzs b o xs (I.base.frzs b o xs e),fun b ps e=>?_⟩,?_,fun x c e=>?_,?_,fun x c e=>?_,fun p hp=>?_,hok,I.len,fun x u e=>let⟨m,hn,q⟩:=I.fx x u e;⟨m,ns m hn,q⟩⟩
 ·exact keep b o (neL b o e) hb (neC b o e hx) (I.base.keep b o e n hb hx) (I.base.free b o e n hx)
 ·obtain⟨sl,e1⟩:=I.base.slot b o e n hb hx;obtain⟨sl',e2⟩:=slot b _ (neL b o e) hb (neC b o e hx) e1 (I.base.free b o e n hx);exact⟨sl',e2⟩
 ·obtain⟨o',e1⟩:=I.base.there b o e hx;exact free b o' (neC b o e hx) e1 (I.base.free b o e n hx)
 ·obtain⟨o',e1⟩:=I.base.there b o e hx;exact there b o' (neC b o e hx) e1
 ·obtain⟨m1,e1⟩:=I.base.tbls b ps e;obtain⟨m2,e2⟩:=tbls b _ e1;exact⟨m1++m2,by rw[e2,jx]⟩
 ·obtain⟨m,hn,hl⟩:=I.loc;refine⟨m,ns m hn,fun i x v e1 e2 e3=>?_⟩;obtain⟨u,r,l⟩:=hl i x v e1 e2 e3;refine⟨u,r,?_⟩;rcases l with l|⟨k,c,e,z⟩
  ·exact .inl l
  ·exact .inr ⟨k,c,e,cellK x c e _ z⟩
 ·obtain⟨v,z⟩:=I.cell x c e;exact⟨v,cellK x c e v z⟩
 ·obtain⟨m,⟨o,_,_,ho,_⟩,_⟩:=I.loc;exact free _ o (fun z=>(hch _ z).2.1 rfl) ho I.free
 ·obtain⟨v,o,ho,hd⟩:=I.cell x c e;exact free c o (fun z=>(hch c z).2.2.1 x c e rfl) ho (I.freeC x c e)
 ·obtain⟨e,n,ne,nf,d⟩:=I.pin p hp;have nch:p.1∉ch:=fun z=>(hch p.1 z).2.2.2 p hp rfl;exact⟨keep p.1 p.2 ne nf nch e n,free p.1 p.2 nch e n,ne,nf,d⟩
theorem Inv.un {t':Nat}(I:Inv X pins σ H s)(u:Un X.fs [] H H' s.heap h')(hok:HOk X.prog X.w H' h'):Inv X pins σ H' {s with heap:=h',toks:=t'}:=by obtain⟨m,⟨o,es,ep,ho,r⟩,_⟩:=id I.loc;obtain⟨sl,hL⟩:=u.any ho I.free (by simp);exact I.step (g':=s.gens) (d':=s.drawn) (ch:=[]) (fun _ z=>nomatch z) (fun b o _ hb _ e n=>u.keep b o e n hb (by simp)) (fun b o _ hb _ e n=>u.slot b o e n hb (by simp)) (fun b o _ e n=>u.free b o e n (by simp)) (fun b o _ e=>u.there b o e (by simp)) u.tups u.frzs u.tbls (fun m' hm=>by obtain⟨o',es',ep',ho',r'⟩:=hm;rw[ho]at ho';cases ho';exact⟨_,es',ep',hL,r'⟩) hok I.bare
theorem Inv.call {g':Array m9}{t':Nat}{d':Drawn}{ch:List Addr}(I:Inv X pins σ H s)(u:Un (frs X.stack) ch H H' s.heap h')(hok:HOk X.prog X.w H' h')(hg:jv g')
  (hch:∀b∈ch,(b∈X.ex\/X.s₀.heap.objs.size<=b)/\b≠X.env.locals/\(∀x c,X.env.cells.lookup x=some c->c≠b)/\∀p∈X.pn++pins,p.1≠b):
  Inv X pins σ H' {s with heap:=h',gens:=g',drawn:=d',toks:=t'}:=by
 obtain⟨m,⟨o,es,ep,ho,r⟩,_⟩:=id I.loc;obtain⟨sl,hL⟩:=u.any ho I.free fun z=>(hch _ z).2.1 rfl;exact I.step (ch:=ch) hch (fun b o hL hb hc e n=>u.keep b o e n (fun z=>(a9.mp (I.stkSub b z)).elim hL hb) hc) (fun b o _ _ hc e n=>u.any e n hc) (fun b o hc e n=>u.free b o e n hc) (fun b o hc e=>u.there b o e hc) u.tups u.frzs u.tbls (fun m' hm=>by obtain⟨o',es',ep',ho',r'⟩:=hm;rw[ho]at ho';cases ho';exact⟨_,es',ep',hL,r'⟩) hok hg
theorem Inv.turned {t':Nat}{it:Addr}(I:Inv X pins σ H s)(k:∀b o,b≠it->s.heap.get? b=some o->h'.get? b=some o)(hn:H it=none)(hL:it≠X.env.locals)
  (h1:it∈X.ex\/X.s₀.heap.objs.size<=it) (h2:∀x c,X.env.cells.lookup x=some c->c≠it) (h3:∀p∈X.pn++pins,p.1≠it):Inv X pins σ H {s with heap:=h',toks:=t'}:=by
 have nit:∀b u,H b=some u->b≠it:=fun b u e z=>by rw[z,hn]at e;cases e
 refine I.step (g':=s.gens) (d':=s.drawn) (ch:=[it]) (fun b hb=>?_) (fun b o _ _ hc e _=>k b o (fun z=>hc (by simp[z])) e) (fun b o _ _ hc e _=>⟨o.slots,k b o (fun z=>hc (by simp[z])) e⟩) (fun _ _ _ _ n=>n) (fun b o hc e=>⟨o,k b o (fun z=>hc (by simp[z])) e⟩) (fun _ _ e=>e) (fun _ _ _ e=>e) (fun b ps e=>⟨#[],by rw[e];simp⟩) (fun m hm=>?_) (fun b u e=>?_) I.bare
 ·have e:b=it:=by simpa using hb
  subst e;exact⟨h1,hL,h2,h3⟩
 ·obtain⟨o,es,ep,ho,r⟩:=hm;exact⟨o,es,ep,k _ o (Ne.symm hL) ho,r⟩
 ·refine(I.hok b u e).stay (fun c v hc q=>k c v ?_ q) (fun _ q=>q) fun _ _ q=>q;rcases hc with z|z
  ·rw[z];exact nit b u e
  ·exact nit c _ z
theorem Inv.tok (I:Inv X pins σ H s)(t:Nat):Inv X pins σ H {s with toks:=t}:=I.un (h':=s.heap) (t':=t) Un.refl I.hok
theorem Inv.kept {t':Nat}(I:Inv X pins σ H s)(k:∀b u,s.heap.get? b=some u->h'.get? b=some u):Inv X pins σ H {s with heap:=h',toks:=t'}:=I.un (Un.kept k) (I.hok.kept k)
theorem Inv.laid {a:Addr}{o:HO}{t':Nat}(I:Inv X pins σ H s)(k:∀b u,s.heap.get? b=some u->h'.get? b=some u)(hp:s.heap.objs.size<=a)(new:z0i X.prog X.w (upd H a o) h' a o): Inv X pins σ (upd H a o) {s with heap:=h',toks:=t'}:=I.un (Un.laid k hp (I.hok.fresh hp)) (I.hok.laid k hp new)
theorem Inv.write {x e:Addr}{o:HO}{t':Nat}(I:Inv X pins σ H s)(mu:Mut (H x))(he:e=x\/H e=some (.own x))(k:∀b u,b≠e->s.heap.get? b=some u->h'.get? b=some u)(heo:∃u,h'.get? e=some u) (new:z0i X.prog X.w (upd H x o) h' x o):Inv X pins σ (upd H x o) {s with heap:=h',toks:=t'}:=I.un (Un.write mu he k heo) (I.hok.write mu he k heo new)
theorem Inv.weak {σ':List (Option V)}(I:Inv X pins σ H s)(hl:σ'.length=σ.length)(w:∀(i:Nat) v,σ'[i]?=some (some v)->σ[i]?=some (some v)):Inv X pins σ' H s:=⟨I.ok,I.os,I.bare,I.base,let⟨m,hn,hl'⟩:=I.loc;⟨m,hn,fun i x v e1 e2 e3=>hl' i x v e1 (w i v e2) e3⟩,I.cell,I.free,I.freeC,I.pin,I.hok,hl.trans I.len,I.fx⟩
theorem Inv.pins_of {pins':List (Addr×Obj)}(I:Inv X pins σ H s)(h:∀p∈pins',s.heap.get? p.1=some p.2/\H p.1=none/\p.1≠X.env.locals/\p.1∉X.fs/\∀v,p.2.data≠.cell v):Inv X pins' σ H s:=⟨I.ok,I.os,I.bare,I.base,I.loc,I.cell,I.free,I.freeC,fun p hp=>(et.mp hp).elim (fun z=>I.pin p (fz _ z)) (h p),I.hok,I.len,I.fx⟩
theorem zft {h:Heap}{a:Addr}{m m':Str->Option Value}(x:h.Ns a m)(y:h.Ns a m')(n:Str):m n=m' n:=by obtain⟨o,es,ep,e,d,_,f⟩:=x;obtain⟨o',es',ep',e',d',_,f'⟩:=y;rw[e]at e';cases e';rw[d]at d';cases d';rw[<-f n,f' n]
theorem z2f {N:List Str}(hN:N.Nodup){i j:Nat}{x:Str}(a:N[i]?=some x)(b:N[j]?=some x):i=j:=by obtain⟨h1,e1⟩:=a8.mp a;obtain⟨h2,e2⟩:=a8.mp b;exact(List.getElem_inj hN).mp (e1.trans e2.symm)
theorem z2j {M:Model}{A:bz}{E:Value->aa->Prop}{i:Nat}{x:Str}{v:V}{u:Value}{Q:Unit->aa->Prop}(I:Inv X pins σ H s)(hN:X.N.Nodup)(hi:X.N[i]?=some x)(hx:Loc X.env.scope x)(r:RelV v u)
  (h:∀s',Inv X pins (σ.set i (some v)) H s'->(∃a,gj a s.heap s'.heap/\(a=X.env.locals\/X.env.cells.lookup x=some a))->Q () s') (hf:X.fn x=true\/X.env.scope.names.lookup x=some .local:=by first|exact .inl rfl|exact .inr rfl|assumption):wpAny M A (storeName X.env x u) Q E s:=by
 obtain⟨m,hn,hl⟩:=id I.loc;have hcls:(X.env.scope.kind==.class||(X.env.scope.kind==.module&&X.env.locals != X.env.globals))=false:=by rw[I.ok.kind];rfl
 have hiσ:i<σ.length:=by rw[I.len];exact(a8.mp hi).1
 have cne:=I.cne
 have tracked:∀{a:Addr} {h':Heap},(∃o,s.heap.get? a=some o/\H a=none)->gj a s.heap h'->HOk X.prog X.w H h':=fun{a h'} ha hs b ob e=>by
  obtain⟨_,_,hfree⟩:=ha;refine(I.hok b ob e).stay (fun c w' hc q=>(hs.2 c ?_).trans q) (fun _ q=>q) fun _ _ q=>q
  rintro rfl
  rcases hc with rfl|hc
  ·rw[hfree]at e;cases e
  ·rw[hfree]at hc;cases hc
 rcases hx with hk|hk
 ·refine wpAny_storeName_local hk hn (fun h' hn' hs=>?_) hcls;obtain⟨oL,_,_,hoL,_⟩:=id hn;refine h _ ⟨I.ok,I.os,I.bare,⟨fun b o e n hb hx=>?_,fun b o e n hb hx=>?_,I.base.free,fun b o e hx=>?_,I.base.tups,I.base.frzs,I.base.tbls⟩,⟨_,hn',fun j y v' e1 e2 e3=>?_⟩,fun y c e=>?_,I.free,I.freeC,fun p hp=>?_,tracked ⟨oL,hoL,I.free⟩ hs,by simpa using I.len,fun y u e=>by obtain⟨m',hn2,q⟩:=I.fx y u e;refine⟨_,hn',?_⟩;have hy:y≠x:=fun z=>(I.ok.fxN y u e).1 (z▸bu hi);have:=zft hn hn2 y;simp[hy,this,q]⟩ ⟨_,hs,.inl rfl⟩
  ·exact(hs.2 b (cg (bp (ax e) I.ok.above))).trans (I.base.keep b o e n hb hx)
  ·obtain⟨sl,e1⟩:=I.base.slot b o e n hb hx;exact⟨sl,(hs.2 b (cg (bp (ax e) I.ok.above))).trans e1⟩
  ·obtain⟨o',e1⟩:=I.base.there b o e hx;exact⟨o',(hs.2 b (cg (bp (ax e) I.ok.above))).trans e1⟩
  ·by_cases hj:j=i
   ·subst hj;rw[hi]at e1;cases e1;rw[cz hiσ]at e2;cases e2;exact⟨u,r,.inl ⟨hk,by simp⟩⟩
   ·rw[bd (Ne.symm hj)]at e2;obtain⟨u',r',q⟩:=hl j y v' e1 e2 e3;refine⟨u',r',?_⟩;rcases q with⟨k,e⟩|⟨k,c,e,z⟩
    ·refine .inl ⟨k,?_⟩;have:y≠x:=fun e=>hj (z2f hN e1 (e▸hi));simp[this,e]
    ·exact .inr ⟨k,c,e,z.sameBut hs (cne y c e)⟩
  ·obtain⟨w',z⟩:=I.cell y c e;exact⟨w',z.sameBut hs (cne y c e)⟩
  ·obtain⟨e,n,ne,nf,d⟩:=I.pin p hp;exact⟨(hs.2 p.1 ne).trans e,n,ne,nf,d⟩
 ·have hfn:X.fn x=true:=by
   rcases hf with z|z
   ·exact z
   ·rw[z]at hk;cases hk
  obtain⟨c,hc⟩:=I.ok.has x (.inl hk);obtain⟨w',z⟩:=I.cell x c hc;refine wpAny_storeName_cell I.ok.kind hk hc z (fun h' hc' hs=>?_);obtain⟨oc,hoc,hocd⟩:=id z;refine h {s with heap:=h'} ⟨I.ok,I.os,I.bare,⟨fun b o e n hb hx=>?_,fun b o e n hb hx=>?_,I.base.free,fun b o e hx=>?_,I.base.tups,I.base.frzs,I.base.tbls⟩,⟨m,hn.sameBut hs (Ne.symm (cne x c hc)),fun j y v' e1 e2 e3=>?_⟩,fun y c' e=>?_,I.free,I.freeC,fun p hp=>?_,tracked ⟨oc,hoc,I.freeC x c hc⟩ hs,by simpa using I.len,fun y u e=>let⟨m',hn2,q⟩:=I.fx y u e;⟨m',hn2.sameBut hs (Ne.symm (cne x c hc)),q⟩⟩ ⟨c,hs,.inr hc⟩
  ·exact(hs.2 b (cg (bp (ax e) (I.ok.cab x c hfn hc)))).trans (I.base.keep b o e n hb hx)
  ·obtain⟨sl,e1⟩:=I.base.slot b o e n hb hx;exact⟨sl,(hs.2 b (cg (bp (ax e) (I.ok.cab x c hfn hc)))).trans e1⟩
  ·obtain⟨o',e1⟩:=I.base.there b o e hx;exact⟨o',(hs.2 b (cg (bp (ax e) (I.ok.cab x c hfn hc)))).trans e1⟩
  ·by_cases hj:j=i
   ·subst hj;rw[hi]at e1;cases e1;rw[cz hiσ]at e2;cases e2;exact⟨u,r,.inr ⟨.inl hk,c,hc,hc'⟩⟩
   ·rw[bd (Ne.symm hj)]at e2;obtain⟨u',r',q⟩:=hl j y v' e1 e2 e3;refine⟨u',r',?_⟩;rcases q with q|⟨k,c',e,z'⟩
    ·exact .inl q
    ·refine .inr ⟨k,c',e,z'.sameBut hs ?_⟩
     rintro rfl
     exact hj (z2f hN e1 (I.ok.inj _ _ _ e hc▸hi))
  ·by_cases hcc:c'=c
   ·subst hcc;exact⟨_,hc'⟩
   ·obtain⟨w2,z2⟩:=I.cell y c' e;exact⟨w2,z2.sameBut hs hcc⟩
  ·obtain⟨e,n,ne,nf,d⟩:=I.pin p hp;refine⟨(hs.2 p.1 ?_).trans e,n,ne,nf,d⟩;intro q;rw[q,hoc]at e;have q':oc=p.2:=Option.some.inj e;exact d w' (by rw[<-q'];exact hocd)
theorem z3t {M:Model}{A:bz}{E:Value->aa->Prop}{i:Nat}{x:Str}{v:V}{u:Value}{Q:Unit->aa->Prop}(I:Inv X pins σ H s)(hN:X.N.Nodup)(hi:X.N[i]?=some x)(hx:Loc X.env.scope x)(r:RelV v u)
  (h:∀s',Inv X pins (σ.set i (some v)) H s'->Q () s') (hf:X.fn x=true\/X.env.scope.names.lookup x=some .local:=by first|exact .inl rfl|exact .inr rfl|assumption):wpAny M A (storeName X.env x u) Q E s:=
 z2j I hN hi hx r (fun s' I' _=>h s' I') hf
theorem Inv.call' {s':aa}{ch:List Addr}(I:Inv X pins σ H s)(ho:s'.os=s.os)(u:Un (frs X.stack) ch H H' s.heap s'.heap)(hok:HOk X.prog X.w H' s'.heap)(hg:jv s'.gens)
  (hch:∀b∈ch,(b∈X.ex\/X.s₀.heap.objs.size<=b)/\b≠X.env.locals/\(∀x c,X.env.cells.lookup x=some c->c≠b)/\∀p∈X.pn++pins,p.1≠b):Inv X pins σ H' s':=by
 obtain⟨h',g',d',t',o'⟩:=s';have e:o'=s.os:=ho;subst e;exact I.call (g':=g') (t':=t') (d':=d') u hok hg hch
end
abbrev XK:=Value->Option Addr->Hp->Prop
abbrev St:=List (Option V)
abbrev VK:=V->Hp->Prop
abbrev TE:=St->Hp->VK->Prop
abbrev TT:=St->Hp->(Bool->Hp->Prop)->Prop
abbrev TA:=St->Hp->(List V->Hp->Prop)->Prop
structure Ends where
 nx:St->Hp->Prop
 rt:VK
 bk:St->Hp->Prop:=fun _ _=>False
 ct:St->Hp->Prop:=fun _ _=>False
abbrev TS:=Ends->St->Hp->Prop
def EP (X:Cx)(pins:List (Addr×Obj))(σ:St)(Q:VK)(u:Value)(s':aa):Prop:=∃v H',Inv X pins σ H' s'/\RelV v u/\Q v H'
def TP (X:Cx)(pins:List (Addr×Obj))(σ:St)(Q:Bool->Hp->Prop)(b:Bool)(s':aa):Prop:=∃H',Inv X pins σ H' s'/\Q b H'
def AP (X:Cx)(pins:List (Addr×Obj))(σ:St)(Q:List V->Hp->Prop)(us:List Value)(s':aa):Prop:=∃vs H',Inv X pins σ H' s'/\Vals vs us/\Q vs H'
def SP (X:Cx)(pins:List (Addr×Obj))(D:Ends)(f:Flow)(s':aa):Prop:=
 match f with
 |.next=>∃σ' H',Inv X pins σ' H' s'/\D.nx σ' H'
 |.brk=>∃σ' H',Inv X pins σ' H' s'/\D.bk σ' H'
 |.cont=>∃σ' H',Inv X pins σ' H' s'/\D.ct σ' H'
 |.ret u=>∃v σ' H',Inv X pins σ' H' s'/\RelV v u/\D.rt v H'
def PE (X:Cx)(e:Expr)(t:TE):Prop:=∀(pins:List (Addr×Obj)) (s:aa) (σ:St) (H:Hp) (Q:VK),Inv X pins σ H s->t σ H Q->wpAny (model X.prog X.w) X.A (eval e X.env) (EP X pins σ Q) X.xe s
def PT (X:Cx)(e:Expr)(t:TT):Prop:=∀(pins:List (Addr×Obj)) (s:aa) (σ:St) (H:Hp) (Q:Bool->Hp->Prop),Inv X pins σ H s->t σ H Q->wpAny (model X.prog X.w) X.A (lr e X.env (eval e X.env)) (TP X pins σ Q) X.xe s
def PW (X:Cx)(e:Expr)(t:TT):Prop:=∀(whole:Sem Value) (pins:List (Addr×Obj)) (s:aa) (σ:St) (H:Hp) (Q:Bool->Hp->Prop),Inv X pins σ H s->t σ H Q->wpAny (model X.prog X.w) X.A (lr e X.env whole) (TP X pins σ Q) X.xe s
theorem PW.pt {X:Cx}{e:Expr}{t:TT}(h:PW X e t):PT X e t:=h _
def PA (X:Cx)(es:List Expr)(t:TA):Prop:=∀(pos:Pos) (pins:List (Addr×Obj)) (s:aa) (σ:St) (H:Hp) (Q:List V->Hp->Prop),Inv X pins σ H s->t σ H Q->wpAny (model X.prog X.w) X.A (spliced (fi pos (bv es X.env))) (AP X pins σ Q) X.xe s
def PS (X:Cx)(st:Stmt)(t:TS):Prop:=∀(pins:List (Addr×Obj)) (s:aa) (σ:St) (H:Hp) (D:Ends),Inv X pins σ H s->t D σ H->wpAny (model X.prog X.w) X.A (exec st X.env) (SP X pins D) X.xe s
def PSs (X:Cx)(st:List Stmt)(t:TS):Prop:=∀(pins:List (Addr×Obj)) (s:aa) (σ:St) (H:Hp) (D:Ends),Inv X pins σ H s->t D σ H->wpAny (model X.prog X.w) X.A (execs st X.env) (SP X pins D) X.xe s
theorem thn {α:Type}{t:Sem α}{Q Q':α->aa->Prop}{M:Model}{A:bz}{E:Value->aa->Prop}{s:aa}(h:wpAny M A t Q E s)(hQ:∀a s,Q a s->Q' a s):wpAny M A t Q' E s:=gk h hQ fun _ _ x=>x
section
variable {X:Cx}
theorem bin {a b:Expr}{ta tb:TE}(ha:PE X a ta)(hb:PE X b tb){pins:List (Addr×Obj)}{s:aa}{σ:St}{H:Hp}{R:V->V->Hp->Prop}(I:Inv X pins σ H s)(h:ta σ H fun x H1=>tb σ H1 fun y H2=>R x y H2)
  {α:Type} {Q:α->aa->Prop} {f:Value->Value->Sem α}
  (hf:∀v u s2 x y H2,Inv X pins σ H2 s2->RelV x v->RelV y u->R x y H2->wpAny (model X.prog X.w) X.A (f v u) Q X.xe s2):
  wpAny (model X.prog X.w) X.A (eval a X.env) (fun v s₁=>wpAny (model X.prog X.w) X.A (eval b X.env) (fun u s₂=>wpAny (model X.prog X.w) X.A (f v u) Q X.xe s₂) X.xe s₁) X.xe s:=by
 refine thn (ha pins s σ H _ I h) fun v s1 ⟨x,H1,I1,r1,q1⟩=>?_;refine thn (hb pins s1 σ H1 _ I1 q1) fun u s2 ⟨y,H2,I2,r2,q2⟩=>?_;exact hf v u s2 x y H2 I2 r1 r2 q2
def tVar (i:Nat):TE:=fun σ H Q=>∃v,σ[i]?=some (some v)/\Q v H
def tC (v:V):TE:=fun _ H Q=>Q v H
theorem z15 {i:Nat}{x:Str}{pos:Pos}(hN:X.N[i]?=some x)(hv:Vis X.env.scope x)(hd:(x==("__debug__":Str))=false:=by decide)(hcd:(x==("__classdict__":Str))=false:=by decide):PE X (.Name x pos) (tVar i):=by
 intro pins s σ H Q I h;obtain⟨v,e,h⟩:=h;obtain⟨m,hn,hl⟩:=I.loc;obtain⟨u,r,l⟩:=hl i x v hN e hv;have fin:EP X pins σ Q u s:=⟨v,H,I,r,h⟩;rcases l with⟨hk,hm⟩|⟨hk,c,hc,hcell⟩
 ·exact mw (ls I.ok.kind hk hn hm fin) hd
 ·rcases hk with hk|hk
  ·exact mw (wpAny_loadName_cell I.ok.kind hk hc hcell fin) hd
  ·exact mw (wpAny_loadName_free I.ok.kind hk hc hcell fin hcd) hd
theorem zgy {i j pos}:PE X (.Constant (.int i) j pos) (tC (.int i)):=fun _ _ _ H _ I h=>wpAny_Constant_int ⟨.int i,H,I.tok _,⟨_,rfl⟩,h⟩
theorem zlf {b j pos}:PE X (.Constant (.bool b) j pos) (tC (.bl b)):=fun _ _ _ H _ I h=>Constant_bool ⟨.bl b,H,I,rfl,h⟩
theorem zil {j pos}:PE X (.Constant .none j pos) (tC .non):=fun _ _ _ H _ I h=>mj ⟨.non,H,I,rfl,h⟩
theorem z8n {x j pos}:PE X (.Constant (.str x) j pos) (tC (.str x)):=fun _ _ _ H _ I h=>Calls.Constant_str ⟨.str x,H,I.tok _,⟨_,rfl⟩,h⟩
def Gl (X:Cx)(x:Str):Prop:=X.env.kindOf x=some .globalImplicit
theorem z1d {E:Value->aa->Prop}{pins:List (Addr×Obj)}{s:aa}{σ:St}{H:Hp}{x:Str}{u:Value}{pos:Pos}{Q:Value->aa->Prop}(I:Inv X pins σ H s)(hg:Gl X x)(hm:X.mg x=some u)(h:Q u s)
  (hd:(x==("__debug__":Str))=false:=by decide):wpAny (model X.prog X.w) X.A (eval (.Name x pos) X.env) Q E s:=
 gz I.ok.kind hg (kg (by rw[I.ok.glob];exact I.mod.glob.keeps I.bk) hm h) hd
theorem z36 {E:Value->aa->Prop}{pins:List (Addr×Obj)}{s:aa}{σ:St}{H:Hp}{x:Str}{u:Value}{pos:Pos}{Q:Value->aa->Prop}(I:Inv X pins σ H s)(hg:Gl X x)(hm:X.mg x=none)(hv:ci x=some u)(h:Q u s)
  (hn:x≠"__name__":=by decide) (hd:(x==("__debug__":Str))=false:=by decide):wpAny (model X.prog X.w) X.A (eval (.Name x pos) X.env) Q E s:=by
 obtain⟨mb,h1,h2⟩:=I.mod.blt;exact gz I.ok.kind hg (Calls.loadGlobal_builtin (by rw[I.ok.glob];exact I.mod.glob.keeps I.bk) hm (by rw[I.ok.blt];exact h1.keeps I.bk) ((h2 x hn).trans hv) h) hd
theorem zcu {x:Str}{v:V}{u:Value}{pos:Pos}(hg:Gl X x)(hm:X.mg x=some u)(r:RelV v u)(hd:(x==("__debug__":Str))=false:=by decide):PE X (.Name x pos) (tC v):=fun _ _ _ H _ I h=>z1d I hg hm ⟨v,H,I,r,h⟩ hd
theorem zdc {x:Str}{v:V}{u:Value}{pos:Pos}(hg:Gl X x)(hm:X.mg x=none)(hv:ci x=some u)(r:RelV v u)(hn:x≠"__name__":=by decide)(hd:(x==("__debug__":Str))=false:=by decide):PE X (.Name x pos) (tC v):=fun _ _ _ H _ I h=>z36 I hg hm hv ⟨v,H,I,r,h⟩ hn hd
variable {a b:Expr}{ta tb:TE}{pos:Pos}
def PC (X:Cx)(op:CmpOp)(a b:Expr)(t:TE):Prop:=∀(pins:List (Addr×Obj)) (s:aa) (σ:St) (H:Hp) (Q:VK),Inv X pins σ H s->t σ H Q->wpAny (model X.prog X.w) X.A (eval a X.env) (fun v s₁=>wpAny (model X.prog X.w) X.A (eval b X.env) (fun u s₂=>wpAny (model X.prog X.w) X.A (bt op v u) (EP X pins σ Q) X.xe s₂) X.xe s₁) X.xe s
theorem z6a (b:Expr){op:CmpOp}(h:op≠.In)(h2:op≠.NotIn):cx op b=false:=by
 have e1:(op==CmpOp.In)=false:=by cases op<;>first|rfl|exact absurd rfl h
 have e2:(op==CmpOp.NotIn)=false:=by cases op<;>first|rfl|exact absurd rfl h2
 cases b<;>simp[cx,e1,e2]
def tIsN (ta:TE):TE:=fun σ H Q=>ta σ H fun x H1=>Q (.bl (decide (x=.non))) H1
def zaj (ta:TE):TE:=fun σ H Q=>ta σ H fun x H1=>Q (.bl (!decide (x=.non))) H1
theorem RelV.none_iff {x:V}{v:Value}(r:RelV x v):(v==Value.none)=decide (x=.non):=by
 cases x with
 |non=>cases r;rfl
 |bl _=>cases r;rfl
 |int _=>obtain⟨t,rfl⟩:=r;rfl
 |str _=>obtain⟨t,rfl⟩:=r;rfl
 |byt _=>obtain⟨t,rfl⟩:=r;rfl
 |flt _=>obtain⟨t,rfl⟩:=r;rfl
 |ref _=>cases r;rfl
 |ty _=>cases r;rfl
theorem z6e {j pos'}(ha:PE X a ta):PC X .Is a (.Constant .none j pos') (tIsN ta):=by intro pins s σ H Q I h;refine thn (ha pins s σ H _ I h) fun v s1 ⟨x,H1,I1,r1,q1⟩=>?_;exact mj (is_none_gen ⟨.bl _,H1,I1,by rw[r1.none_iff];rfl,q1⟩)
theorem z3u {j pos'}(ha:PE X a ta):PC X .IsNot a (.Constant .none j pos') (zaj ta):=by intro pins s σ H Q I h;refine thn (ha pins s σ H _ I h) fun v s1 ⟨x,H1,I1,r1,q1⟩=>?_;exact mj (isnot_none_gen ⟨.bl _,H1,I1,by rw[r1.none_iff];rfl,q1⟩)
def tB (t:TE):TT:=fun σ H Q=>t σ H fun x H1=>∃c,x=.bl c/\Q c H1
theorem z5y {op:CmpOp}{t:TE}(h:PC X op a b t)(h1:cx op b=false:=by first|exact z6a _ (by decide) (by decide)|rfl):PE X (.Compare a [op] [b] pos) t:=fun pins s σ H Q I hw=>wpAny_Compare1 (h pins s σ H Q I hw) h1
theorem z6o {op:CmpOp}{t:TE}(h:PC X op a b t)(h1:cx op b=false:=by first|exact z6a _ (by decide) (by decide)|rfl):PT X (.Compare a [op] [b] pos) (tB t):=by intro pins s σ H Q I hw;refine lj (thn (h pins s σ H _ I hw) fun v s1 h1=>thn h1 fun u s2 h2=>thn h2 fun c s3 ⟨x,H1,I1,r1,q1⟩=>?_) h1;obtain⟨d,rfl,q⟩:=q1;cases r1;exact d9 ⟨H1,I1,q⟩
theorem zhd {e:Expr}{t:TE}(h:PE X e t)(he:∀whole,lr e X.env whole=(do let v <-whole;oj e.pos;ol [v] (oo v)):=by intro _;rfl):PT X e (tB t):=by intro pins s σ H Q I hw;refine isTrue_plain (thn (h pins s σ H _ I hw) fun v s1 ⟨x,H1,I1,r1,q1⟩=>?_) (he _);obtain⟨d,rfl,q⟩:=q1;cases r1;exact d9 ⟨H1,I1,q⟩
variable {tA tB':TT}{rest:List Expr}
def tAnd (t u:TT):TT:=fun σ H Q=>t σ H fun c H1=>if c=true then u σ H1 Q else Q false H1
def tOr (t u:TT):TT:=fun σ H Q=>t σ H fun c H1=>if c=true then Q true H1 else u σ H1 Q
def tNot (t:TT):TT:=fun σ H Q=>t σ H fun c H1=>Q (!c) H1
theorem z9g (ha:PT X a tA):PW X (.BoolOp .And [a] pos) tA:=by
 intro wh pins s σ H Q I h;refine isTrue_and (thn (ha pins s σ H Q I h) fun c s1 e=>?_);cases c with
 |true=>exact isTrue_and_nil e
 |false=>exact e
theorem zbu (ha:PT X a tA):PW X (.BoolOp .Or [a] pos) tA:=by
 intro wh pins s σ H Q I h;refine isTrue_or (thn (ha pins s σ H Q I h) fun c s1 e=>?_);cases c with
 |false=>exact isTrue_or_nil e
 |true=>exact e
theorem z9h (ha:PT X a tA)(hb:PW X (.BoolOp .And (b::rest) pos) tB'):PW X (.BoolOp .And (a::b::rest) pos) (tAnd tA tB'):=by
 intro wh pins s σ H Q I h;refine isTrue_and (thn (ha pins s σ H _ I h) fun c s1 ⟨H1,I1,q1⟩=>?_);cases c with
 |true=>exact hb wh pins s1 σ H1 Q I1 q1
 |false=>exact⟨H1,I1,q1⟩
theorem zcy (ha:PT X a tA)(hb:PW X (.BoolOp .Or (b::rest) pos) tB'):PW X (.BoolOp .Or (a::b::rest) pos) (tOr tA tB'):=by
 intro wh pins s σ H Q I h;refine isTrue_or (thn (ha pins s σ H _ I h) fun c s1 ⟨H1,I1,q1⟩=>?_);cases c with
 |true=>exact⟨H1,I1,q1⟩
 |false=>exact hb wh pins s1 σ H1 Q I1 q1
theorem z9a (ha:PT X a tA):PT X (.UnaryOp .Not a pos) (tNot tA):=by intro pins s σ H Q I h;exact isTrue_not (ha pins s σ H (fun c H1=>Q (!c) H1) I h)
def zi7 (ta tb:TE):TE:=fun σ H Q=>ta σ H fun x H1=>∃c,x=.bl c/\if c=true then tb σ H1 Q else Q (.bl false) H1
def tOrV (ta tb:TE):TE:=fun σ H Q=>ta σ H fun x H1=>∃c,x=.bl c/\if c=true then Q (.bl true) H1 else tb σ H1 Q
theorem z6p {op}{t:TE}(h:PE X a t):PE X (.BoolOp op [a] pos) t:=fun pins s σ H Q I hw=>BoolOp_one (h pins s σ H Q I hw)
theorem z7m (ha:PE X a ta)(hb:PE X (.BoolOp .And (b::rest) pos) tb):PE X (.BoolOp .And (a::b::rest) pos) (zi7 ta tb):=by
 intro pins s σ H Q I h;refine BoolOp_and (thn (ha pins s σ H _ I h) fun v s1 ⟨x,H1,I1,r1,q1⟩=>?_);obtain⟨c,rfl,q1⟩:=q1;cases r1;refine d9 ?_;cases c with
 |true=>exact hb pins s1 σ H1 Q I1 q1
 |false=>exact⟨.bl false,H1,I1,rfl,q1⟩
theorem zef (ha:PE X a ta)(hb:PE X (.BoolOp .Or (b::rest) pos) tb):PE X (.BoolOp .Or (a::b::rest) pos) (tOrV ta tb):=by
 intro pins s σ H Q I h;refine BoolOp_or (thn (ha pins s σ H _ I h) fun v s1 ⟨x,H1,I1,r1,q1⟩=>?_);obtain⟨c,rfl,q1⟩:=q1;cases r1;refine d9 ?_;cases c with
 |false=>exact hb pins s1 σ H1 Q I1 q1
 |true=>exact⟨.bl true,H1,I1,rfl,q1⟩
def tIf (t:TT)(ta tb:TE):TE:=fun σ H Q=>t σ H fun c H1=>if c=true then ta σ H1 Q else tb σ H1 Q
theorem z5x {c:Expr}(hc:PT X c tA)(ha:PE X a ta)(hb:PE X b tb):PE X (.IfExp c a b pos) (tIf tA ta tb):=by
 intro pins s σ H Q I h;refine wpAny_IfExp (thn (hc pins s σ H _ I h) fun d s1 ⟨H1,I1,q1⟩=>?_);cases d with
 |true=>exact ha pins s1 σ H1 Q I1 q1
 |false=>exact hb pins s1 σ H1 Q I1 q1
end
def SqL (K:W.Frag)(H:Hp)(a:Addr)(xs:List V):Prop:=Rd H a (.lst xs)\/∃(o:Obj) (its:Array Value) (n:Nat),K.lookup a=some o/\o.cls=.type "list"/\o.dict=none/\o.data=.seq its n/\its.size<=ah/\Vals xs its.toList
def SqT (K:W.Frag)(H:Hp)(a:Addr)(xs:List V):Prop:=Rd H a (.tup xs)\/∃(o:Obj) (its:Array Value) (n:Nat),K.lookup a=some o/\o.cls=.type "tuple"/\o.dict=none/\o.data=.seq its n/\its.size<=ah/\Vals xs its.toList
def absV:Value->Option V
 |.none=>some .non
 |.bool b=>some (.bl b)
 |.int i _=>some (.int i)
 |.str x _=>some (.str x)
 |.bytes b _=>some (.byt b)
 |.float b _=>some (.flt b)
 |.ref a=>some (.ref a)
 |.type n=>some (.ty n)
 |_=>none
theorem RelV.abs {x:V}{u:Value}(r:RelV x u):absV u=some x:=by
 cases x with
 |non=>cases r;rfl
 |bl _=>cases r;rfl
 |int _=>obtain⟨t,rfl⟩:=r;rfl
 |str _=>obtain⟨t,rfl⟩:=r;rfl
 |byt _=>obtain⟨t,rfl⟩:=r;rfl
 |flt _=>obtain⟨t,rfl⟩:=r;rfl
 |ref _=>cases r;rfl
 |ty _=>cases r;rfl
theorem RelV.inj {x y:V}{u:Value}(r:RelV x u)(q:RelV y u):x=y:=Option.some.inj (r.abs.symm.trans q.abs)
theorem Vals.inj:∀{xs ys:List V} {us:List Value},Vals xs us->Vals ys us->xs=ys
 |_,_,_,.nil,.nil=>rfl
 |_,_,_,.cons r t,.cons r' t'=>by rw[r.inj r',Vals.inj t t']
section
variable {X:Cx}{pins:List (Addr×Obj)}{σ:St}{H:Hp}{s:aa}{a:Addr}{xs ys:List V}
theorem SqL.of {K:W.Frag}(h:H a=some (.lst xs)):SqL K H a xs:=.inl (.inl h)
theorem SqT.of {K:W.Frag}(h:H a=some (.tup xs)):SqT K H a xs:=.inl (.inl h)
theorem Inv.list (I:Inv X pins σ H s)(h:SqL X.K H a xs):∃its:List Value,Vals xs its/\PlainL s.heap a its.toArray/\xs.length<=ah:=by
 rcases h with h|⟨o,its,n,hk,hc,hd,hs,hz,r⟩
 ·obtain⟨z,its,n,r,e⟩:=h.ok I.hok;exact⟨its,r,⟨_,n,e,rfl,rfl,rfl⟩,z⟩
 ·refine⟨its.toList,r,⟨o,n,I.kIn a o hk,hc,hd,by simpa using hs⟩,?_⟩;have e:=r.length;simp only[dw]at e;omega
theorem Inv.tuple (I:Inv X pins σ H s)(h:SqT X.K H a xs):∃its:List Value,Vals xs its/\IsTup s.heap a its.toArray/\xs.length<=ah:=by
 rcases h with h|⟨o,its,n,hk,hc,_,hs,hz,r⟩
 ·obtain⟨z,its,r,p⟩:=h.ok I.hok;exact⟨its,r,p.tup,z⟩
 ·refine⟨its.toList,r,⟨o,I.kIn a o hk,hc,n,by simpa using hs⟩,?_⟩;have e:=r.length;simp only[dw]at e;omega
theorem Inv.list_inj (I:Inv X pins σ H s)(h:SqL X.K H a xs)(h':SqL X.K H a ys):xs=ys:=by
 obtain⟨its,r,⟨o,n,e,_,_,d⟩,_⟩:=I.list h;obtain⟨its',r',⟨o',n',e',_,_,d'⟩,_⟩:=I.list h';rw[e]at e';cases e';rw[d]at d';injection d' with d1 _;have:its=its':=by simpa using congrArg Array.toList d1
 subst this;exact r.inj r'
theorem Inv.tuple_inj (I:Inv X pins σ H s)(h:SqT X.K H a xs)(h':SqT X.K H a ys):xs=ys:=by
 obtain⟨its,r,⟨o,e,_,n,d⟩,_⟩:=I.tuple h;obtain⟨its',r',⟨o',e',_,n',d'⟩,_⟩:=I.tuple h';rw[e]at e';cases e';rw[d]at d';injection d' with d1 _;have:its=its':=by simpa using congrArg Array.toList d1
 subst this;exact r.inj r'
end
abbrev Cx.wish (X:Cx)(E:Value->aa->Prop):Cx:={X with xe:=E}
abbrev Cx.nox (X:Cx):Cx:=X.wish fun _ _=>False
theorem Cx.Ok.wish {X:Cx}(ok:X.Ok)(E:Value->aa->Prop):(X.wish E).Ok:=⟨ok.mod,ok.kind,ok.glob,ok.blt,ok.above,ok.inj,ok.has,ok.cab,ok.hd,ok.frames,ok.stk,ok.exf,ok.bs,ok.bsz,ok.noex,ok.exfs,ok.funs,ok.frf,ok.fxN⟩
theorem Cx.Ok.unwish {X:Cx}{E:Value->aa->Prop}(ok:(X.wish E).Ok):X.Ok:=⟨ok.mod,ok.kind,ok.glob,ok.blt,ok.above,ok.inj,ok.has,ok.cab,ok.hd,ok.frames,ok.stk,ok.exf,ok.bs,ok.bsz,ok.noex,ok.exfs,ok.funs,ok.frf,ok.fxN⟩
section
variable {X:Cx}{pins:List (Addr×Obj)}{σ:St}{H:Hp}{s:aa}{E:Value->aa->Prop}
theorem Inv.wish (I:Inv X pins σ H s)(E:Value->aa->Prop):Inv (X.wish E) pins σ H s:=⟨I.ok.wish E,I.os,I.bare,I.base,I.loc,I.cell,I.free,I.freeC,I.pin,I.hok,I.len,I.fx⟩
theorem Inv.unwish (I:Inv (X.wish E) pins σ H s):Inv X pins σ H s:=⟨I.ok.unwish,I.os,I.bare,I.base,I.loc,I.cell,I.free,I.freeC,I.pin,I.hok,I.len,I.fx⟩
theorem SP.unwish {D:Ends}{f:Flow}{s':aa}(h:SP (X.wish E) pins D f s'):SP X pins D f s':=by
 cases f with
 |next=>obtain⟨σ',H',I,q⟩:=h;exact⟨σ',H',I.unwish,q⟩
 |brk=>obtain⟨σ',H',I,q⟩:=h;exact⟨σ',H',I.unwish,q⟩
 |cont=>obtain⟨σ',H',I,q⟩:=h;exact⟨σ',H',I.unwish,q⟩
 |ret u=>obtain⟨v,σ',H',I,r,q⟩:=h;exact⟨v,σ',H',I.unwish,r,q⟩
theorem PE.nox {e:Expr}{t:TE}(h:PE X.nox e t):PE X e t:=fun pins s σ H Q I hw=>gk (h pins s σ H Q (I.wish _) hw) (fun _ _ ⟨v,H',I',r,q⟩=>⟨v,H',I'.unwish,r,q⟩) fun _ _ z=>False.elim z
theorem PT.nox {e:Expr}{t:TT}(h:PT X.nox e t):PT X e t:=fun pins s σ H Q I hw=>gk (h pins s σ H Q (I.wish _) hw) (fun _ _ ⟨H',I',q⟩=>⟨H',I'.unwish,q⟩) fun _ _ z=>False.elim z
theorem PSs.nox {st:List Stmt}{t:TS}(h:PSs X.nox st t):PSs X st t:=fun pins s σ H D I hw=>gk (h pins s σ H D (I.wish _) hw) (fun _ _ q=>q.unwish) fun _ _ z=>False.elim z
end
section
variable {X:Cx}{st:Stmt}{rest:List Stmt}{t u:TS}{e:Expr}{te:TE}{pos:Pos}
def zg1:TS:=fun D σ H=>D.nx σ H
def tSeq (t u:TS):TS:=fun D σ H=>t {D with nx:=u D} σ H
theorem z7x:PSs X [] zg1:=fun _ _ σ H _ I h=>gp ⟨σ,H,I,h⟩
theorem z3f (h1:PS X st t)(h2:PSs X rest u):PSs X (st::rest) (tSeq t u):=by
 intro pins s σ H D I h;refine jl (thn (h1 pins s σ H {D with nx:=u D} I h) fun f s1 q=>?_);cases f with
 |next=>obtain⟨σ',H',I',q⟩:=q;exact h2 pins s1 σ' H' D I' q
 |ret v=>exact q
 |brk=>exact q
 |cont=>exact q
theorem z7s (h1:PS X st t):PSs X [st] t:=by
 intro pins s σ H D I h;refine jl (thn (h1 pins s σ H D I h) fun f s1 q=>?_);cases f with
 |next=>exact gp q
 |ret v=>exact q
 |brk=>exact q
 |cont=>exact q
theorem Inv.quiet {pins:List (Addr×Obj)}{σ:St}{H:Hp}{s:aa}(I:Inv X pins σ H s):interactive X.env=false:=by simp[interactive,I.ok.kind]
def z58 (te:TE):TS:=fun D σ H=>te σ H fun _ H1=>D.nx σ H1
theorem zex (he:PE X e te)(hs:i8 e none pos.line X.env=pure false:=by rfl):PS X (.Expr e pos) (z58 te):=by intro pins s σ H D I h;exact wpAny_Expr_any (thn (he pins s σ H _ I h) fun v s1 ⟨x,H1,I1,r1,q1⟩=>⟨σ,H1,I1,q1⟩) I.quiet hs
def tRet (te:TE):TS:=fun D σ H=>te σ H D.rt
theorem z6m (he:PE X e te):PS X (.Return (some e) pos) (tRet te):=by intro pins s σ H D I h;exact wpAny_Return_some (thn (he pins s σ H _ I h) fun v s1 ⟨x,H1,I1,r1,q1⟩=>⟨x,σ,H1,I1,r1,q1⟩)
def tIfS (c:TT)(t u:TS):TS:=fun D σ H=>c σ H fun b H1=>if b=true then t D σ H1 else u D σ H1
theorem zdi {c:Expr}{a b:List Stmt}{tc:TT}(hc:PT X c tc)(ha:PSs X a t)(hb:PSs X b u):PS X (.If c a b pos) (tIfS tc t u):=by
 intro pins s σ H D I h;refine wpAny_If (thn (hc pins s σ H _ I h) fun d s1 ⟨H1,I1,q1⟩=>?_);cases d with
 |true=>exact ha pins s1 σ H1 D I1 q1
 |false=>exact hb pins s1 σ H1 D I1 q1
end
abbrev TG:=V->St->Hp->(St->Hp->Prop)->Prop
abbrev TGs:=List V->St->Hp->(St->Hp->Prop)->Prop
def PG (X:Cx)(target:Expr)(t:TG):Prop:=∀(pins:List (Addr×Obj)) (s:aa) (σ:St) (H:Hp) (v:V) (u:Value) (Q:St->Hp->Prop),Inv X pins σ H s->RelV v u->t v σ H Q->wpAny (model X.prog X.w) X.A (kq target X.env u) (fun _ s'=>∃σ' H',Inv X pins σ' H' s'/\Q σ' H') X.xe s
def PGs (X:Cx)(ts:List Expr)(t:TGs):Prop:=∀(pins:List (Addr×Obj)) (s:aa) (σ:St) (H:Hp) (vs:List V) (us:List Value) (Q:St->Hp->Prop),Inv X pins σ H s->Vals vs us->t vs σ H Q->wpAny (model X.prog X.w) X.A (assignInOrder ((dj ts X.env).map (·.2)) us) (fun _ s'=>∃σ' H',Inv X pins σ' H' s'/\Q σ' H') X.xe s
abbrev TSet:=V->V->V->Hp->(Hp->Prop)->Prop
def PSet (X:Cx)(t:TSet):Prop:=∀(pins:List (Addr×Obj)) (s:aa) (σ:St) (H:Hp) (o i v:V) (ov iv u:Value) (Q:Hp->Prop),Inv X pins σ H s->RelV o ov->RelV i iv->RelV v u->t o i v H Q->wpAny (model X.prog X.w) X.A (setItem ov iv u) (fun _ s'=>∃H',Inv X pins σ H' s'/\Q H') X.xe s
section
variable {X:Cx}{pos:Pos}
def z94 (i:Nat):TG:=fun v σ H Q=>Q (σ.set i (some v)) H
theorem z5e {i:Nat}{x:Str}(hN:X.N.Nodup)(hi:X.N[i]?=some x)(hx:Loc X.env.scope x)(hf:X.fn x=true\/X.env.scope.names.lookup x=some .local:=by first|exact .inl rfl|exact .inr rfl|assumption):PG X (.Name x pos) (z94 i):=by intro pins s σ H v u Q I r h;exact nc (z3t I hN hi hx r (fun s' I'=>⟨_,H,I',h⟩) hf)
def gNil:TGs:=fun vs σ H Q=>vs=[]/\Q σ H
def zlq (t:TG)(u:TGs):TGs:=fun vs σ H Q=>∃v r,vs=v::r/\t v σ H fun σ' H'=>u r σ' H' Q
theorem zda:PGs X [] gNil:=by intro pins s σ H vs us Q I r h;obtain⟨e,h⟩:=h;subst e;cases r;exact assignInOrder_nil ⟨σ,H,I,h⟩
theorem zaw {e:Expr}{es:List Expr}{t:TG}{u:TGs}(h1:PG X e t)(h2:PGs X es u)
  (hs:(dj (e::es) X.env).map (·.2)=kq e X.env::(dj es X.env).map (·.2):=by rfl):PGs X (e::es) (zlq t u):=by
 intro pins s σ H vs us Q I r h;obtain⟨v,vr,e1,h⟩:=h;subst e1;cases r with
 |cons r rr=>rw[hs];refine assignInOrder_cons (thn (h1 pins s σ H _ _ _ I r h) fun _ s1 ⟨σ1,H1,I1,q1⟩=>?_);exact h2 pins s1 σ1 H1 _ _ Q I1 rr q1
def gTup (K:W.Frag)(n:Nat)(t:TGs):TG:=fun v σ H Q=>∃a xs,v=.ref a/\SqT K H a xs/\xs.length=n/\t xs σ H Q
theorem zfy {es:List Expr}{k:Nat}{t:TGs}{n:Nat}(hc:X.calm=true)(h:PGs X es t)
  (hn:(dj es X.env).length=n:=by rfl) (hst:(dj es X.env).findIdx? (·.1)=none:=by rfl):PG X (.Tuple es k pos) (gTup X.K n t):=by
 intro pins s σ H v u Q I r hw;obtain⟨a,xs,e1,hq,hl,hw⟩:=hw;subst e1;cases r;obtain⟨its,rv,ht,hz⟩:=I.tuple hq;refine assign_Tuple_tuple (I.ok.hd hc) ht (by simp[hn,<-hl,rv.length]) hst fun h' hx=>?_;have I1:Inv X pins σ H {s with heap:=h'}:=I.kept (t':=s.toks) fun b o e=>hx b o (cg (ax e)) e;exact h pins _ σ H xs _ Q I1 (by simpa using rv) hw
def tAsg (te:TE)(g:TG):TS:=fun D σ H=>te σ H fun x H1=>g x σ H1 D.nx
theorem zhq {tg e:Expr}{te:TE}{g:TG}(he:PE X e te)(hg:PG X tg g)(hs:ml [tg] e pos.line X.env=pure false:=by rfl)(hw:mo [tg] e X.env=pure none:=by rfl)
  (h1:(dj [tg] X.env).map (·.2)=[kq tg X.env]:=by rfl):PS X (.Assign [tg] e pos) (tAsg te g):=by
 intro pins s σ H D I h;refine wpAny_Assign_stores (thn (he pins s σ H _ I h) fun v s1 ⟨x,H1,I1,r1,q1⟩=>?_) hs hw;rw[h1];exact thn (hg pins s1 σ H1 x v _ I1 r1 q1) fun _ s2 q=>q
theorem zcj {i:Nat}{x:Str}{e:Expr}{te:TE}{pos':Pos}(hN:X.N.Nodup)(hi:X.N[i]?=some x)(hx:Loc X.env.scope x)(he:PE X e te)(hs:i8 e (some (.Name x pos')) pos.line X.env=pure false:=by rfl)(hf:X.fn x=true\/X.env.scope.names.lookup x=some .local:=by first|exact .inl rfl|exact .inr rfl|assumption):
  PS X (.Assign [.Name x pos'] e pos) (tAsg te (z94 i)):=by
 intro pins s σ H D I h;refine wpAny_Assign_Name (thn (he pins s σ H _ I h) fun v s1 ⟨y,H1,I1,r1,q1⟩=>?_) hs;exact z3t I1 hN hi hx r1 (fun s2 I2=>⟨_,H1,I2,q1⟩) hf
end
section
variable {X:Cx}{pos:Pos}
def zc5 (c:TT)(tb:TS):TS:=fun D σ H=>∃W:Nat->St->Hp->Prop,(∃m,W m σ H)/\∀m σ H,W m σ H->c σ H fun b H1=>if b=true then ∃N:St->Hp->Prop,(∀σ' H',N σ' H'->∃m',m'<m/\W m' σ' H')/\tb {D with nx:=N,ct:=N,bk:=D.nx} σ H1 else D.nx σ H1
theorem z64 {c:Expr}{body:List Stmt}{tc:TT}{tb:TS}(hp:db (model X.prog X.w) X.A X.env X.xe)(hc:PT X c tc)(hb:PSs X body tb):PS X (.While c body [] pos) (zc5 tc tb):=by
 intro pins s σ H D I h;obtain⟨W,⟨m0,w0⟩,turn⟩:=h;refine wpAny_While (codeAny_whileLoop (fun n s'=>∃σ' H',Inv X pins σ' H' s'/\W n σ' H') ?_ m0 ⟨σ,H,I,w0⟩)
 rintro n s1 ⟨σ1,H1,I1,w1⟩
 refine fo hp (thn (hc pins s1 σ1 H1 _ I1 (turn n σ1 H1 w1)) fun b s2 ⟨H2,I2,q2⟩=>?_);cases b with
 |true=>
  obtain⟨N,hN,q2⟩:=q2;rw[if_pos rfl];refine fo hp (thn (hb pins s2 σ1 H2 _ I2 q2) fun f s3 q3=>?_);cases f with
  |next=>obtain⟨σ3,H3,I3,n3⟩:=q3;obtain⟨m',hm,w3⟩:=hN σ3 H3 n3;exact⟨m',hm,σ3,H3,I3,w3⟩
  |cont=>obtain⟨σ3,H3,I3,n3⟩:=q3;obtain⟨m',hm,w3⟩:=hN σ3 H3 n3;exact⟨m',hm,σ3,H3,I3,w3⟩
  |brk=>exact q3
  |ret v=>exact q3
 |false=>rw[if_neg bf];exact gp ⟨σ1,H2,I2,q2⟩
end
structure It where
 go:Nat->Hp->Prop
 yld:Nat->Hp->V->Hp->Prop
 stop:Nat->Hp->Prop
def FpOk (X:Cx)(pins:List (Addr×Obj))(H:Hp)(b:Addr):Prop:=H b=none/\b≠X.env.locals/\b∉X.fs/\(b∈X.ex\/X.s₀.heap.objs.size<=b)/\(∀x c,X.env.cells.lookup x=some c->c≠b)/\∀p∈X.pn++pins,p.1≠b
theorem Inv.fpOk {X:Cx}{pins:List (Addr×Obj)}{σ:St}{H H':Hp}{s:aa}{b:Addr}(I:Inv X pins σ H s)(hb:s.heap.objs.size<=b)(hn:H' b=none):FpOk X pins H' b:=by
 refine⟨hn,Nat.ne_of_gt (bp I.lt hb),I.nofs hb,.inr (cb I.sz hb),fun x c e z=>?_,fun p hp z=>?_⟩
 ·obtain⟨v,q⟩:=I.cell x c e;exact absurd (bp q.lt (by rw[z];exact hb)) (de _)
 ·exact absurd (bp (ax (I.pin p hp).1) (by rw[z];exact hb)) (de _)
structure Turn (P:am)(w:World)(K:W.Frag)(tg:Expr)(J:It)(fp:List Addr)(it:Addr)(tn:Nat->Heap->Prop):Prop where
 mem:it∈fp
 obj:∀i h,tn i h->∀b∈fp,∃o,h.get? b=some o/\∀v,o.data≠.cell v
 keep:∀i h h',tn i h->(∀b∈fp,∀o,h.get? b=some o->h'.get? b=some o)->tn i h'
 item:∀(X:Cx),X.prog=P->X.w=w->X.K=K->X.calm=true->∀(i:Nat) (pins:List (Addr×Obj)) (s:aa) (σ:St) (H:Hp) (E:Value->aa->Prop),Inv X pins σ H s->(∀b∈fp,FpOk X pins H b)->tn i s.heap->J.go i H->wpAny (model P w) X.A (pyNext (.ref it)) (fun r s1=>∃u,r=some u/\wpAny (model P w) X.A (i0 tg (.ref it) u) (fun _ s2=>∃x H',Inv X pins σ H' s2/\RelV x u/\J.yld i H x H'/\tn (i+1) s2.heap/\∀b∈fp,H' b=none) E s1) E s
 done:∀(X:Cx),X.prog=P->X.w=w->X.K=K->X.calm=true->∀(i:Nat) (pins:List (Addr×Obj)) (s:aa) (σ:St) (H:Hp) (E:Value->aa->Prop),Inv X pins σ H s->(∀b∈fp,FpOk X pins H b)->tn i s.heap->J.stop i H->wpAny (model P w) X.A (pyNext (.ref it)) (fun r s1=>r=none/\Inv X pins σ H s1) E s
 self:∀(A:bz) (i:Nat) (s:aa) (Q:Value->aa->Prop) (E:Value->aa->Prop),tn i s.heap->Q (.ref it) s->wpAny (model P w) A (pc (.ref it)) Q E s
abbrev TI:=St->Hp->(It->Hp->Prop)->Prop
def PIE (X:Cx)(pins:List (Addr×Obj))(σ:St)(tg:Expr)(R:It->Hp->Prop)(itv:Value)(s2:aa):Prop:=∃(it:Addr) (fp:List Addr) (tn:Nat->Heap->Prop) (J:It) (H':Hp),itv=.ref it/\Inv X pins σ H' s2/\Turn X.prog X.w X.K tg J fp it tn/\tn 0 s2.heap/\(∀b∈fp,FpOk X pins H' b)/\R J H'
def PI (X:Cx)(tg iter:Expr)(wi:TI):Prop:=∀(pins:List (Addr×Obj)) (s:aa) (σ:St) (H:Hp) (R:It->Hp->Prop),Inv X pins σ H s->wi σ H R->wpAny (model X.prog X.w) X.A (eval iter X.env) (fun v s1=>wpAny (model X.prog X.w) X.A (pc v) (PIE X pins σ tg R) X.xe s1) X.xe s
theorem z8e {M:Model}{A:bz}{E:Value->aa->Prop}{s:aa}{tg:Expr}{it:Addr}{u:Value}{o:Obj}{n:String}{vs:Array Value}{Q:Unit->aa->Prop}(ho:s.heap.get? it=some o)(hc:o.cls=.type n)(hd:o.data=.fields vs)
  (hn:["enumerate","zip","dict_itemiterator","dict_reverseitemiterator","odict_iterator","itertools.zip_longest","itertools.pairwise"].contains n=false) (hQ:Q () s):wpAny M A (i0 tg (.ref it) u) Q E s:=by
 unfold i0
 cases tg<;>first
  |exact a0 hQ
  |(cases u<;>first
   |exact a0 hQ
   |(refine ag (mx ho ?_)
     rw[hc,hd];show wpAny M A (if(["enumerate","zip","dict_itemiterator","dict_reverseitemiterator","odict_iterator","itertools.zip_longest","itertools.pairwise"].contains n&&vs[0]?==some (rawInt _))=true then _ else _) Q E s;rw[if_neg (by intro h;rw[hn,Bool.false_and]at h;cases h)];exact a0 hQ))
def Itl (K:W.Frag)(a:Addr):It:=⟨fun i H=>∃xs x,SqL K H a xs/\xs[i]?=some x,fun i H x H'=>H'=H/\∀xs,SqL K H a xs->xs[i]?=some x,fun i H=>∃xs,SqL K H a xs/\xs.length<=i⟩
def Itt (K:W.Frag)(a:Addr):It:=⟨fun i H=>∃xs x,SqT K H a xs/\xs[i]?=some x,fun i H x H'=>H'=H/\∀xs,SqT K H a xs->xs[i]?=some x,fun i H=>∃xs,SqT K H a xs/\xs.length<=i⟩
def Itr (lo:Int)(n:Nat):It:=⟨fun i _=>i<n,fun i H x H'=>H'=H/\x=.int (lo+i),fun i _=>n<=i⟩
theorem z9m {P:am}{w:World}{K:W.Frag}{tg:Expr}(a it:Addr):Turn P w K tg (Itl K a) [it] it (fun i h=>h.IsListIter it a i) where
 mem:=by simp
 obj:=fun i h st b hb=>by
  have e:b=it:=by simpa using hb
  subst e;obtain⟨o,e,c,d⟩:=st;exact⟨o,e,fun v z=>by rw[d]at z;cases z⟩
 keep:=fun i h h' st k=>st.at fun o e=>k it (by simp) o e
 item:=by intro X hP hw hK hc i pins s σ H E I hf st hg;subst hP hw hK;obtain⟨xs,x,hq,hx⟩:=hg;obtain⟨its,rv,p,hz⟩:=I.list hq;obtain⟨u,hu,ru⟩:=rv.get hx;obtain⟨f0,f1,f2,f3,f4,f5⟩:=hf it (by simp);refine wpAny_pyNext_list_item st p.isList (x:=u) (by simpa using hu) fun h' st' sb=>?_;have I1:Inv X pins σ H {s with heap:=h'}:=I.turned (t':=s.toks) (fun b o hb e=>(sb.2 b hb).trans e) f0 f1 f3 f4 f5;obtain⟨o,e,c,d⟩:=id st';exact⟨u,rfl,z8e (s:={s with heap:=h'}) e c d (by decide) ⟨x,H,I1,ru,⟨rfl,fun ys hy=>by rw[I.list_inj hy hq];exact hx⟩,st',fun b hb=>(hf b hb).1⟩⟩
 done:=by intro X hP hw hK hc i pins s σ H E I hf st hg;subst hP hw hK;obtain⟨xs,hq,hx⟩:=hg;obtain⟨its,rv,p,hz⟩:=I.list hq;obtain⟨f0,f1,f2,f3,f4,f5⟩:=hf it (by simp);have hl:=rv.length;exact wpAny_pyNext_list_end (I.ok.hd hc) st p.isList (by simp;omega) fun h' eb=>⟨rfl,I.turned (t':=s.toks) (fun b o hb e=>eb b o hb e) f0 f1 f3 f4 f5⟩
 self:=fun _ _ _ _ _ st h=>wpAny_pyIter_listiter st h
theorem z79 {P:am}{w:World}{K:W.Frag}{tg:Expr}(a it:Addr):Turn P w K tg (Itt K a) [it] it (fun i h=>h.IsTupleIter it a i) where
 mem:=by simp
 obj:=fun i h st b hb=>by
  have e:b=it:=by simpa using hb
  subst e;obtain⟨o,e,c,d⟩:=st;exact⟨o,e,fun v z=>by rw[d]at z;cases z⟩
 keep:=fun i h h' st k=>st.at fun o e=>k it (by simp) o e
 item:=by intro X hP hw hK hc i pins s σ H E I hf st hg;subst hP hw hK;obtain⟨xs,x,hq,hx⟩:=hg;obtain⟨its,rv,p,hz⟩:=I.tuple hq;obtain⟨u,hu,ru⟩:=rv.get hx;obtain⟨f0,f1,f2,f3,f4,f5⟩:=hf it (by simp);refine wpAny_pyNext_tuple_item st (show s.heap.IsTuple a its.toArray from p) (x:=u) (by simpa using hu) fun h' st' sb=>?_;have I1:Inv X pins σ H {s with heap:=h'}:=I.turned (t':=s.toks) (fun b o hb e=>(sb.2 b hb).trans e) f0 f1 f3 f4 f5;obtain⟨o,e,c,d⟩:=id st';exact⟨u,rfl,z8e (s:={s with heap:=h'}) e c d (by decide) ⟨x,H,I1,ru,⟨rfl,fun ys hy=>by rw[I.tuple_inj hy hq];exact hx⟩,st',fun b hb=>(hf b hb).1⟩⟩
 done:=by intro X hP hw hK hc i pins s σ H E I hf st hg;subst hP hw hK;obtain⟨xs,hq,hx⟩:=hg;obtain⟨its,rv,p,hz⟩:=I.tuple hq;obtain⟨f0,f1,f2,f3,f4,f5⟩:=hf it (by simp);have hl:=rv.length;exact wpAny_pyNext_tuple_end (I.ok.hd hc) st (show s.heap.IsTuple a its.toArray from p) (by simp;omega) fun h' eb=>⟨rfl,I.turned (t':=s.toks) (fun b o hb e=>eb b o hb e) f0 f1 f3 f4 f5⟩
 self:=fun _ _ _ _ _ st h=>wpAny_pyIter_tupleiter st h
theorem z7g {P:am}{w:World}{K:W.Frag}{tg:Expr}(it:Addr)(lo:Int)(n:Nat):Turn P w K tg (Itr lo n) [it] it (fun i h=>IsRangeIter h it (lo+(i:Nat)*1) ((n:Int)-(i:Nat)) 1) where
 mem:=by simp
 obj:=fun i h st b hb=>by
  have e:b=it:=by simpa using hb
  subst e;exact⟨_,st,fun v z=>by have z':Data.fields _=Data.cell v:=z;cases z'⟩
 keep:=fun i h h' st k=>k it (by simp) _ st
 item:=by intro X hP hw hK hc i pins s σ H E I hf st hg;subst hP hw hK;obtain⟨f0,f1,f2,f3,f4,f5⟩:=hf it (by simp);have W:=Walks.range (prog:=X.prog) (w:=X.w) (I.ok.hd hc) it lo 1 n;refine W.item i s _ _ hg st fun v h' tk hv st' kk=>?_;obtain⟨t,rfl⟩:=hv;have I1:Inv X pins σ H {s with heap:=h',toks:=tk}:=I.turned (fun b o hb e=>kk b o (by simpa using hb) e) f0 f1 f3 f4 f5;refine⟨_,rfl,z8e (s:={s with heap:=h',toks:=tk}) (n:="range_iterator") st' rfl rfl (by decide) ⟨.int (lo+i),H,I1,⟨t,?_⟩,⟨rfl,rfl⟩,st',fun b hb=>(hf b hb).1⟩⟩;rw[Int.mul_one]
 done:=by intro X hP hw hK hc i pins s σ H E I hf st hg;subst hP hw hK;obtain⟨f0,f1,f2,f3,f4,f5⟩:=hf it (by simp);exact wpAny_pyNext_range_end (I.ok.hd hc) st (by have:n<=i:=hg;omega) fun h' eb=>⟨rfl,I.turned (t':=s.toks) (fun b o hb e=>eb b o hb e) f0 f1 f3 f4 f5⟩
 self:=fun _ _ _ _ _ st h=>wpAny_pyIter_rangeiter st h
section
variable {X:Cx}{tg:Expr}
theorem zbg {pins:List (Addr×Obj)}{σ:St}{H:Hp}{s:aa}{R:It->Hp->Prop}{E:Value->aa->Prop}{lo hi:Int}{t u v:Tok}{tk:Nat}(I:Inv X pins σ H s)(h1:-(2 ^ 62)<=lo)(h2:lo<2 ^ 62)(h3:-(2 ^ 62)<=hi)(h4:hi<2 ^ 62)
  (q:R (Itr lo (hi-lo).toNat) H):wpAny (model X.prog X.w) X.A (pc (.ref s.heap.objs.size)) (PIE X pins σ tg R) E {s with heap:=s.heap.push {cls:=.type "range",data:=.fields #[.int lo t,.int hi u,.int 1 v]},toks:=tk}:=by
 refine wpAny_pyIter_range (IsRange.new ..) (small_one h1 h2 h3 h4) ?_;have I1:Inv X pins σ H {s with heap:=s.heap.push {cls:=.type "range",data:=.fields #[.int lo t,.int hi u,.int 1 v]},toks:=tk}:=I.kept fun b o e=>au _ e;refine⟨(s.heap.push {cls:=.type "range",data:=.fields #[.int lo t,.int hi u,.int 1 v]}).objs.size,[(s.heap.push {cls:=.type "range",data:=.fields #[.int lo t,.int hi u,.int 1 v]}).objs.size],_,_,H,rfl,I1.kept (t':=tk) fun b o e=>au _ e,z7g _ lo (hi-lo).toNat,?_,fun b hb=>?_,q⟩
 ·have e1:lo+((0:Nat):Int)*1=lo:=by simp
  have e2:(((hi-lo).toNat:Nat):Int)-((0:Nat):Int)=Builtin.Range.rangeSize lo hi 1:=by rw[rangeSize_one];split<;>omega
  show IsRangeIter _ _ (lo+((0:Nat):Int)*1) ((((hi-lo).toNat:Nat):Int)-((0:Nat):Int)) 1;rw[e1,e2];exact bw _ rfl
 ·have e:b=(s.heap.push {cls:=.type "range",data:=.fields #[.int lo t,.int hi u,.int 1 v]}).objs.size:=by simpa using hb
  subst e;exact I1.fpOk (ak _) (I1.hok.fresh (ak _))
def zka (ta:TA):TI:=fun σ H R=>ta σ H fun vs H1=>∃j:Int,vs=[.int j]/\-(2 ^ 62)<=j/\j<2 ^ 62/\R (Itr 0 j.toNat) H1
theorem z9x {a:Expr}{ta:TA}{p pos:Pos}(hg:Gl X "range")(hm:X.mg "range"=none)(ha:PA X [a] ta)(hs:bv [a] X.env=[(false,eval a X.env)]:=by rfl):PI X tg (.Call (.Name "range" p) [a] [] pos) (zka ta):=by
 intro pins s σ H R I h;refine Call_ (z36 I hg hm boot_range (PyProof.Rows.callWith_type1 (thn (ha pos pins s σ H _ I h) fun us s1 ⟨vs,H1,I1,r1,q1⟩=>?_) hs rfl));obtain⟨j,e,q1,q2,q⟩:=q1;subst e;cases r1 with
 |cons r rr=>cases rr;obtain⟨t,rfl⟩:=r;exact call_range_1 (zbg I1 (by omega) (by omega) q1 q2 (by simpa using q))
def tFor (wi:TI)(g:TG)(tb:TS):TS:=fun D σ H=>wi σ H fun J H1=>∃W:Nat->Nat->St->Hp->Prop,(∃m,W 0 m σ H1)/\∀i m σ H,W i m σ H->(J.stop i H/\D.nx σ H)\/(J.go i H/\∃N:St->Hp->Prop,(∀σ' H',N σ' H'->∃m',m'<m/\W (i+1) m' σ' H')/\∀x H',J.yld i H x H'->g x σ H' fun σ2 H2=>tb {D with nx:=N,ct:=N,bk:=D.nx} σ2 H2)
def z3v (fp:List Addr)(h:Heap):List (Addr×Obj):=fp.filterMap fun b=>(h.get? b).map fun o=>(b,o)
theorem z1m {fp:List Addr}{h:Heap}{b:Addr}{o:Obj}(hb:b∈fp)(e:h.get? b=some o):(b,o)∈z3v fp h:=jy.mpr ⟨b,hb,by rw[e];rfl⟩
theorem z96 {fp:List Addr}{h:Heap}{p:Addr×Obj}(hp:p∈z3v fp h):p.1∈fp/\h.get? p.1=some p.2:=by
 obtain⟨b,hb,e⟩:=jy.mp hp;cases q:h.get? b with
 |none=>rw[q]at e;cases e
 |some o=>rw[q]at e;have e':(b,o)=p:=Option.some.inj e;subst e';exact⟨hb,q⟩
theorem Inv.pinned {pins:List (Addr×Obj)}{σ:St}{H:Hp}{s:aa}{fp:List Addr}(I:Inv X pins σ H s)(hf:∀b∈fp,FpOk X pins H b)(ho:∀b∈fp,∃o,s.heap.get? b=some o/\∀v,o.data≠.cell v):Inv X (pins++z3v fp s.heap) σ H s:=I.pins_of fun p hp=>(et.mp hp).elim (fun z=>I.pin p (bj _ z)) fun z=>by obtain⟨hb,e⟩:=z96 z;obtain⟨f0,f1,f2,_⟩:=hf p.1 hb;obtain⟨o,e',d⟩:=ho p.1 hb;rw[e]at e';cases e';exact⟨e,f0,f1,f2,d⟩
theorem Inv.unpinned {pins pl:List (Addr×Obj)}{σ:St}{H:Hp}{s:aa}(I:Inv X (pins++pl) σ H s):Inv X pins σ H s:=I.pins_of fun p hp=>I.pin p (bj _ (fz _ hp))
theorem z63 {iter:Expr}{body:List Stmt}{wi:TI}{g:TG}{tb:TS}{pos:Pos}(hp:db (model X.prog X.w) X.A X.env X.xe)(hc:X.calm=true)(hi:PI X tg iter wi)(hg:PG X tg g)(hb:PSs X body tb)
  (hs:∀x,dr iter X.env x=pure x:=by intro _;rfl):PS X (.For tg iter body [] pos) (tFor wi g tb):=by
 intro pins s σ H D I h;refine wpAny_For (thn (hi pins s σ H _ I h) fun v s1 h1=>thn h1 fun itv s2 h2=>?_) hs;obtain⟨it,fp,tn,J,H2,e,I2,T,st2,f2,W,⟨m0,w0⟩,turn⟩:=h2;subst e;have stat:∀{H':Hp},(∀b∈fp,H' b=none)->∀b∈fp,FpOk X pins H' b:=fun hn b hb=>⟨hn b hb,(f2 b hb).2⟩;refine codeAny_forLoop_any (fun n s'=>∃i σ' H',Inv X pins σ' H' s'/\tn i s'.heap/\(∀b∈fp,H' b=none)/\W i n σ' H') ?_ m0 ⟨0,σ,H2,I2,st2,fun b hb=>(f2 b hb).1,w0⟩
 rintro n s3 ⟨i,σ3,H3,I3,st3,fr3,w3⟩
 rcases turn i n σ3 H3 w3 with⟨stop,qn⟩|⟨go,N,hN,step⟩
 ·refine fo hp (thn (T.done X rfl rfl rfl hc i pins s3 σ3 H3 X.xe I3 (stat fr3) st3 stop) fun r s4 ⟨hr,I4⟩=>?_);subst hr;exact gp ⟨σ3,H3,I4,qn⟩
 ·refine fo hp (thn (T.item X rfl rfl rfl hc i pins s3 σ3 H3 X.xe I3 (stat fr3) st3 go) fun r s4 ⟨u,hr,h4⟩=>?_);subst hr;refine fo hp (thn h4 fun _ s5 ⟨x,H5,I5,r5,y5,st5,fr5⟩=>?_);have I5':=I5.pinned (stat fr5) (T.obj _ _ st5);refine fo hp (thn (hg _ s5 σ3 H5 x u _ I5' r5 (step x H5 y5)) fun _ s6 ⟨σ6,H6,I6,q6⟩=>?_);refine fo hp (thn (hb _ s6 σ6 H6 _ I6 q6) fun f s7 q7=>?_);have again:∀{σ7:St} {H7:Hp},Inv X (pins++z3v fp s5.heap) σ7 H7 s7->N σ7 H7->∃m,m<n/\∃i σ' H',Inv X pins σ' H' s7/\tn i s7.heap/\(∀b∈fp,H' b=none)/\W i m σ' H':=fun{σ7 H7} I7 n7=>by obtain⟨m',hm,w7⟩:=hN σ7 H7 n7;refine⟨m',hm,i+1,σ7,H7,I7.unpinned,T.keep _ _ _ st5 fun b hb o e=>(I7.pin (b,o) (bj _ (bj _ (z1m hb e)))).1,fun b hb=>?_,w7⟩;obtain⟨o,e,d⟩:=T.obj _ _ st5 b hb;exact(I7.pin (b,o) (bj _ (bj _ (z1m hb e)))).2.1
  cases f with
  |next=>obtain⟨σ7,H7,I7,n7⟩:=q7;exact again I7 n7
  |cont=>obtain⟨σ7,H7,I7,n7⟩:=q7;exact again I7 n7
  |brk=>obtain⟨σ7,H7,I7,q7⟩:=q7;exact⟨σ7,H7,I7.unpinned,q7⟩
  |ret v=>obtain⟨x7,σ7,H7,I7,r7,q7⟩:=q7;exact⟨x7,σ7,H7,I7.unpinned,r7,q7⟩
end
abbrev R2:=V->V->Hp->VK->Prop
def OpR (X:Cx)(f:Value->Value->Sem Value)(r:R2):Prop:=∀(pins:List (Addr×Obj)) (s:aa) (σ:St) (H:Hp) (x y:V) (v u:Value) (Q:VK),Inv X pins σ H s->RelV x v->RelV y u->r x y H Q->wpAny (model X.prog X.w) X.A (f v u) (EP X pins σ Q) X.xe s
def UnR (X:Cx)(f:Value->Sem Value)(r:V->Hp->VK->Prop):Prop:=∀(pins:List (Addr×Obj)) (s:aa) (σ:St) (H:Hp) (x:V) (v:Value) (Q:VK),Inv X pins σ H s->RelV x v->r x H Q->wpAny (model X.prog X.w) X.A (f v) (EP X pins σ Q) X.xe s
def CallR (X:Cx)(f:Value)(r:List V->Hp->VK->Prop):Prop:=∀(pins:List (Addr×Obj)) (s:aa) (σ:St) (H:Hp) (xs:List V) (us:List Value) (Q:VK),Inv X pins σ H s->Vals xs us->r xs H Q->wpAny (model X.prog X.w) X.A (call f us) (EP X pins σ Q) X.xe s
def TruR (X:Cx)(r:V->Hp->(Bool->Hp->Prop)->Prop):Prop:=∀(pins:List (Addr×Obj)) (s:aa) (σ:St) (H:Hp) (x:V) (v:Value) (Q:Bool->Hp->Prop),Inv X pins σ H s->RelV x v->r x H Q->wpAny (model X.prog X.w) X.A (oo v) (TP X pins σ Q) X.xe s
def tOp (r:R2)(ta tb:TE):TE:=fun σ H Q=>ta σ H fun x H1=>tb σ H1 fun y H2=>r x y H2 Q
def tUn (r:V->Hp->VK->Prop)(ta:TE):TE:=fun σ H Q=>ta σ H fun x H1=>r x H1 Q
def rI (C:Int->Int->Prop)(g:Int->Int->V):R2:=fun x y H Q=>∃i j,x=.int i/\y=.int j/\C i j/\Q (g i j) H
def rI0 (g:Int->Int->V):R2:=fun x y H Q=>∃i j,x=.int i/\y=.int j/\Q (g i j) H
def rU (g:Int->V):V->Hp->VK->Prop:=fun x H Q=>∃i,x=.int i/\Q (g i) H
section
variable {X:Cx}{a b c:Expr}{ta tb tc:TE}{pos:Pos}
theorem binT (ha:PE X a ta)(hb:PE X b tb){pins:List (Addr×Obj)}{s:aa}{σ:St}{H:Hp}{R:V->V->Hp->Prop}(I:Inv X pins σ H s)
  (h:ta σ H fun x H1=>tb σ H1 fun y H2=>R x y H2) {Q:Value->aa->Prop} {f:Value->Value->Sem Value}
  (hf:∀v u s2 x y H2,Inv X pins σ H2 s2->RelV x v->RelV y u->R x y H2->wpAny (model X.prog X.w) X.A (f v u) Q X.xe s2):
  wpAny (model X.prog X.w) X.A (eval a X.env) (fun v s₁=>wpAny (model X.prog X.w) X.A (eval b X.env) (fun u s₂=>wpAny (model X.prog X.w) X.A (f v u) Q X.xe s₂) X.xe s₁) X.xe s:=by
 refine thn (ha pins s σ H _ I h) fun v s1 ⟨x,H1,I1,r1,q1⟩=>?_;refine thn (hb pins s1 σ H1 _ I1 q1) fun u s2 ⟨y,H2,I2,r2,q2⟩=>?_;exact hf v u s2 x y H2 I2 r1 r2 q2
theorem zdd {op:iu}{r:R2}(ho:OpR X (d8 op) r)(ha:PE X a ta)(hb:PE X b tb):PE X (.BinOp a op b pos) (tOp r ta tb):=by intro pins s σ H Q I h;exact wpAny_BinOp (binT ha hb I h fun v u s2 x y H2 I2 rx ry q=>ho pins s2 σ H2 x y v u Q I2 rx ry q)
theorem zmx {op:UnaryOp}{r:V->Hp->VK->Prop}(ho:UnR X (unaryOp op) r)(ha:PE X a ta):PE X (.UnaryOp op a pos) (tUn r ta):=by intro pins s σ H Q I h;exact UnaryOp_ (thn (ha pins s σ H _ I h) fun v s1 ⟨x,H1,I1,r1,q1⟩=>ho pins s1 σ H1 x v Q I1 r1 q1)
theorem opI {f:Value->Value->Sem Value}{C:Int->Int->Prop}{g:Int->Int->Int}
  (rule:∀(i j:Int) (t u:Tok) (s:aa) (Q:Value->aa->Prop) (E:Value->aa->Prop),C i j->Q (.int (g i j) s.toks) {s with toks:=s.toks+1}->wpAny (model X.prog X.w) X.A (f (.int i t) (.int j u)) Q E s):
  OpR X f (rI C fun i j=>.int (g i j)):=by
 intro pins s σ H x y v u Q I rx ry h;obtain⟨i,j,rfl,rfl,hc,q⟩:=h;obtain⟨t,rfl⟩:=rx;obtain⟨t',rfl⟩:=ry;exact rule i j t t' s _ _ hc ⟨.int (g i j),H,I.tok _,⟨_,rfl⟩,q⟩
theorem opI0 {f:Value->Value->Sem Value}{g:Int->Int->Int}
  (rule:∀(i j:Int) (t u:Tok) (s:aa) (Q:Value->aa->Prop) (E:Value->aa->Prop),Q (.int (g i j) s.toks) {s with toks:=s.toks+1}->wpAny (model X.prog X.w) X.A (f (.int i t) (.int j u)) Q E s):
  OpR X f (rI0 fun i j=>.int (g i j)):=by
 intro pins s σ H x y v u Q I rx ry h;obtain⟨i,j,rfl,rfl,q⟩:=h;obtain⟨t,rfl⟩:=rx;obtain⟨t',rfl⟩:=ry;exact rule i j t t' s _ _ ⟨.int (g i j),H,I.tok _,⟨_,rfl⟩,q⟩
theorem opB0 {f:Value->Value->Sem Value}{g:Int->Int->Bool}
  (rule:∀(i j:Int) (t u:Tok) (s:aa) (Q:Value->aa->Prop) (E:Value->aa->Prop),Q (.bool (g i j)) s->wpAny (model X.prog X.w) X.A (f (.int i t) (.int j u)) Q E s):
  OpR X f (rI0 fun i j=>.bl (g i j)):=by
 intro pins s σ H x y v u Q I rx ry h;obtain⟨i,j,rfl,rfl,q⟩:=h;obtain⟨t,rfl⟩:=rx;obtain⟨t',rfl⟩:=ry;exact rule i j t t' s _ _ ⟨.bl (g i j),H,I,rfl,q⟩
def CPow (i j:Int):Prop:=0<=j/\j<=1000000/\i.natAbs<2 ^ 64
def CMul (i j:Int):Prop:=(-(2 ^ 64)<i/\i<2 ^ 64)\/(-(2 ^ 64)<j/\j<2 ^ 64)
theorem CMul.ok {i j:Int}(h:CMul i j):IntMulOk i j:=by
 rcases h with⟨h1,h2⟩|⟨h1,h2⟩
 ·exact .of_left (intBits_le_64 h1 h2)
 ·exact .of_right (intBits_le_64 h1 h2)
theorem zgc:OpR X (d8 .Add) (rI0 fun i j=>.int (i+j)):=opI0 fun _ _ _ _ _ _ _ q=>add_int q
theorem zgo:OpR X (d8 .Sub) (rI0 fun i j=>.int (i-j)):=opI0 fun _ _ _ _ _ _ _ q=>sub_int q
theorem zfr:OpR X (d8 .Mult) (rI CMul fun i j=>.int (i*j)):=opI fun _ _ _ _ _ _ _ hc q=>mul_int q hc.ok
theorem zhn:OpR X (d8 .Mod) (rI (fun _ j=>0<j) fun i j=>.int (i%j)):=opI fun i j _ _ _ _ _ hc q=>by have h1:(0:Int)<j:=hc;exact mod_int' (by omega) (by rw[Int.fmod_eq_emod_of_nonneg i (by omega)];exact q)
theorem zj3:OpR X (d8 .Pow) (rI CPow fun i j=>.int (i ^ j.toNat)):=opI fun _ _ _ _ _ _ _ hc q=>pow_int_small hc.1 hc.2.1 hc.2.2 q
theorem unI {f:Value->Sem Value}{g:Int->Int}
  (rule:∀(i:Int) (t:Tok) (s:aa) (Q:Value->aa->Prop) (E:Value->aa->Prop),Q (.int (g i) s.toks) {s with toks:=s.toks+1}->wpAny (model X.prog X.w) X.A (f (.int i t)) Q E s):
  UnR X f (rU fun i=>.int (g i)):=by
 intro pins s σ H x v Q I rx h;obtain⟨i,rfl,q⟩:=h;obtain⟨t,rfl⟩:=rx;exact rule i t s _ _ ⟨.int (g i),H,I.tok _,⟨_,rfl⟩,q⟩
theorem zjg:UnR X (unaryOp .USub) (rU fun i=>.int (-i)):=unI fun _ _ _ _ _ q=>neg_int q
end
section
variable {X:Cx}{a b c:Expr}{ta tb tc:TE}{pos:Pos}
theorem zce {pins:List (Addr×Obj)}{σ:St}{H:Hp}{s:aa}{Q:VK}{k k':Bool}(I:Inv X pins σ H s)(q:Q (.bl k) H)(e:k=k'):EP X pins σ Q (.bool k') s:=by subst e;exact⟨.bl k,H,I,rfl,q⟩
theorem zkk:OpR X (bt .Lt) (rI0 fun i j=>.bl (decide (i<j))):=opB0 fun _ _ _ _ _ _ _ q=>lt_int q
theorem zlb:OpR X (bt .LtE) (rI0 fun i j=>.bl (decide (i<=j))):=opB0 fun _ _ _ _ _ _ _ q=>le_int q
theorem zll:OpR X (bt .Gt) (rI0 fun i j=>.bl (decide (j<i))):=opB0 fun _ _ _ _ _ _ _ q=>gt_int q
theorem zm7:OpR X (bt .GtE) (rI0 fun i j=>.bl (decide (j<=i))):=opB0 fun _ _ _ _ _ _ _ q=>ge_int q
theorem z8x:OpR X (bt .Lt) (fun x y H Q=>∃i j,x=.str i/\y=.str j/\Q (.bl (decide (i.cps.toList<j.cps.toList))) H):=by intro pins s σ H x y v u Q I rx ry h;obtain⟨i,j,rfl,rfl,q⟩:=h;obtain⟨t,rfl⟩:=rx;obtain⟨t',rfl⟩:=ry;exact lt_str (zce I q rfl)
theorem za3:OpR X (bt .In) (fun x y H Q=>∃i j,x=.str i/\y=.str j/\Q (.bl (!(cw j i 0 j.length 1).isEmpty)) H):=by intro pins s σ H x y v u Q I rx ry h;obtain⟨i,j,rfl,rfl,q⟩:=h;obtain⟨t,rfl⟩:=rx;obtain⟨t',rfl⟩:=ry;exact in_str (zce I q rfl)
def isObj:HO->Bool
 |.lst _=>true
 |.ins _ _ _=>true
 |_=>false
theorem z4s {pins:List (Addr×Obj)}{s:aa}{σ:St}{H:Hp}{a:Addr}{o:HO}(I:Inv X pins σ H s)(h:H a=some o)(p:isObj o=true):∃ob,s.heap.get? a=some ob/\ob.cls≠.type "tuple":=by
 cases o with
 |lst xs=>obtain⟨_,its,n,_,e⟩:xs.length<=ah/\∃(its:List Value) (n:Nat),Vals xs its/\s.heap.get? a=some {cls:=.type "list",data:=.seq its.toArray n}:=I.hok a _ h;exact⟨_,e,(by show Value.type "list"≠.type "tuple";decide+kernel)⟩
 |ins C dx fs=>have x:=I.hok a _ h;obtain⟨_,_,_,e,_⟩:=x;exact⟨_,e,(by show Value.ref C≠.type "tuple";exact fun z=>by cases z)⟩
 |_=>exact absurd (show false=true from p) bf
theorem OpR.or {f:Value->Value->Sem Value}{r r':R2}(h:OpR X f r)(h':OpR X f r'):OpR X f (fun x y H Q=>r x y H Q\/r' x y H Q):=by
 intro pins s σ H x y v u Q I rx ry q;rcases q with q|q
 ·exact h pins s σ H x y v u Q I rx ry q
 ·exact h' pins s σ H x y v u Q I rx ry q
theorem z80 {op:CmpOp}{r:R2}(ho:OpR X (bt op) r)(ha:PE X a ta)(hb:PE X b tb)(hm:cx op b=false):PE X (.Compare a [op] [b] pos) (tOp r ta tb):=by intro pins s σ H Q I h;exact wpAny_Compare1 (binT ha hb I h fun v u s2 x y H2 I2 rx ry q=>ho pins s2 σ H2 x y v u Q I2 rx ry q) hm
def z5a (t:TE):TT:=fun σ H Q=>t σ H fun x H'=>∃k,x=.bl k/\Q k H'
theorem z5h {op:CmpOp}{r:R2}(ho:OpR X (bt op) r)(ha:PE X a ta)(hb:PE X b tb)(hm:cx op b=false):PT X (.Compare a [op] [b] pos) (z5a (tOp r ta tb)):=by intro pins s σ H Q I h;refine lj (thn (ha pins s σ H _ I h) fun v s1 ⟨x,H1,I1,r1,q1⟩=>thn (hb pins s1 σ H1 _ I1 q1) fun u s2 ⟨y,H2,I2,r2,q2⟩=>thn (ho pins s2 σ H2 x y v u _ I2 r1 r2 q2) fun c s3 ⟨z,H3,I3,r3,k,e,q3⟩=>?_) hm;subst e;cases r3;exact d9 ⟨H3,I3,q3⟩
def TruV (K:W.Frag)(x:V)(H:Hp)(k:Bool):Prop:=
 match x with
 |.non=>k=false
 |.bl b=>k=b
 |.int i=>k=(i != 0)
 |.str y=>y.length<=ah/\k=((y.length:Int) != 0)
 |.byt y=>y.size<=ah/\k=((y.size:Int) != 0)
 |.ref p=>(∃xs,SqL K H p xs/\k=!xs.isEmpty)\/(∃xs,SqT K H p xs/\k=!xs.isEmpty)\/∃kvs,H p=some (.dK kvs)/\k=!kvs.isEmpty
 |_=>False
theorem z6x {κ:Type}{kvs:List (κ×V)}{vs:List (κ×Value)}(r:KV kvs vs):(!vs.isEmpty)=!kvs.isEmpty:=by cases r<;>rfl
theorem z38 {xs:List V}{its:List Value}(r:Vals xs its):(!its.toArray.isEmpty)=!xs.isEmpty:=by cases r<;>simp
theorem z2r:(ah:Nat)<2 ^ 63:=by rw[dq];decide
theorem zcg:TruR X (fun x H Q=>∃k,TruV X.K x H k/\Q k H):=by
 intro pins s σ H x v Q I rx h;obtain⟨k,e,q⟩:=h;have hl:=z2r;have hs:ah=16777216:=dq;cases x with
 |non=>cases rx;have e':k=false:=e;subst e';exact truthy_none ⟨H,I,q⟩
 |bl b=>cases rx;have e':k=b:=e;subst e';exact d9 ⟨H,I,q⟩
 |int i=>obtain⟨t,rfl⟩:=rx;have e':k=(i != 0):=e;subst e';exact PySem.P.truthy_int ⟨H,I,q⟩
 |str y=>obtain⟨t,rfl⟩:=rx;obtain⟨hy,e'⟩:y.length<=ah/\k=((y.length:Int) != 0):=e;subst e';exact PySem.P.truthy_str (by omega) ⟨H,I.tok _,q⟩
 |byt y=>obtain⟨t,rfl⟩:=rx;obtain⟨hy,e'⟩:y.size<=ah/\k=((y.size:Int) != 0):=e;subst e';exact W.truthy_bytes (by omega) ⟨H,I.tok _,q⟩
 |ref p=>
  cases rx;have e':(∃xs,SqL X.K H p xs/\k=!xs.isEmpty)\/(∃xs,SqT X.K H p xs/\k=!xs.isEmpty)\/∃kvs,H p=some (.dK kvs)/\k=!kvs.isEmpty:=e;rcases e' with⟨xs,hx,e'⟩|⟨xs,hx,e'⟩|⟨kvs,hx,e'⟩
  ·subst e';obtain⟨its,r,pl,hz⟩:=I.list hx;have hlen:=r.length;exact wpAny_truthy_list pl.isList (by simp only[ae];omega) ⟨H,I.tok _,by rw[z38 r];exact q⟩
  ·subst e';obtain⟨its,r,pl,hz⟩:=I.tuple hx;have hlen:=r.length;exact truthy_tuple pl (by simp only[ae];omega) ⟨H,I.tok _,by rw[z38 r];exact q⟩
  ·subst e';obtain⟨hz,hS,vs,r,m⟩:kvs.length<=ah/\(p==ez)=false/\∃vs,KV kvs vs/\s.heap.DictOf (z07 X.prog X.w) p vs:=I.hok p _ hx;have hlen:kvs.length=vs.length:=Paired.length r;exact wpAny_truthy_dict hS m (by omega) ⟨H,I.tok _,by rw[z6x r];exact q⟩
 |_=>exact(show False from e).elim
theorem z6q (ha:PE X a ta)(he:∀whole,lr a X.env whole=(do let v <-whole;oj a.pos;ol [v] (oo v))):
  PT X a (fun σ H Q=>ta σ H fun x H'=>∃k,TruV X.K x H' k/\Q k H'):=by
 intro pins s σ H Q I h;exact isTrue_plain (thn (ha pins s σ H _ I h) fun v s1 ⟨x,H1,I1,r1,q1⟩=>zcg pins s1 σ H1 x v Q I1 r1 q1) (he _)
theorem z6z:OpR X (d8 .Add) (fun x y H Q=>∃i j,x=.str i/\y=.str j/\i.length+j.length<=ah/\Q (.str (i++j)) H):=by intro pins s σ H x y v u Q I rx ry h;obtain⟨i,j,rfl,rfl,hz,q⟩:=h;obtain⟨t,rfl⟩:=rx;obtain⟨t',rfl⟩:=ry;exact add_str (fun t' tk=>⟨.str (i++j),H,I.tok _,⟨_,rfl⟩,q⟩) hz
theorem vals1 {x:V}{us:List Value}(r:Vals [x] us):∃u,us=[u]/\RelV x u:=by
 cases r with
 |cons r1 r2=>cases r2;exact⟨_,rfl,r1⟩
theorem vals2 {x y:V}{us:List Value}(r:Vals [x,y] us):∃u w',us=[u,w']/\RelV x u/\RelV y w':=by
 cases r with
 |cons r1 r2=>
  cases r2 with
  |cons r3 r4=>cases r4;exact⟨_,_,rfl,r1,r3⟩
theorem z91 (hc:X.calm=true):CallR X (.builtin "min") (fun xs H Q=>∃i j,xs=[.int i,.int j]/\Q (.int (if j<i then j else i)) H):=by
 intro pins s σ H xs us Q I r h;obtain⟨i,j,rfl,q⟩:=h;obtain⟨u,w',rfl,⟨t,rfl⟩,⟨t',rfl⟩⟩:=vals2 r;refine min_two_ints (I.ok.hd hc) fun h' tk k=>⟨_,H,I.kept k,?_,q⟩;by_cases hj:j<i
 ·rw[if_pos hj,if_pos hj];exact⟨_,rfl⟩
 ·rw[if_neg hj,if_neg hj];exact⟨_,rfl⟩
theorem z9e:CallR X (.type "int") (fun xs H Q=>(∃i,xs=[.int i]/\Q (.int i) H)\/∃k,xs=[.bl k]/\Q (.int (if k then 1 else 0)) H):=by
 intro pins s σ H xs us Q I r h;rcases h with⟨i,rfl,q⟩|⟨k,rfl,q⟩
 ·obtain⟨u,rfl,t,rfl⟩:=vals1 r;exact call_int_int ⟨.int i,H,I,⟨_,rfl⟩,q⟩
 ·obtain⟨u,rfl,r1⟩:=vals1 r;cases r1;exact call_int_bool ⟨.int (if k then 1 else 0),H,I.tok _,⟨_,rfl⟩,q⟩
end
structure ObjM (h:Heap)(x dx C:Addr)(mA:Str->Option Value):Prop where
 obj:h.get? x=some (W.instObj C dx)
 ns:h.Ns1 dx mA
 ne:dx≠x
theorem z8v {h:Heap}{dx:Addr}{mA:Str->Option Value}(n:h.Ns1 dx mA):∃od,h.get? dx=some od/\∀name,W.lookIn name od=some (mA name):=by
 obtain⟨o,es,ep,ho,hd,hk,_,hm⟩:=n;refine⟨o,ho,fun name=>?_⟩;have e:=hm name;unfold nsFind findBy at e;rw[<-Array.find?_toList]at e;unfold W.lookIn;rw[hd]
 dsimp only
 split
 ·rename_i y q;rw[q]at e;exact congrArg some e
 ·rename_i q;rw[q]at e;have a:es.toList.any (·.refKey)=false:=by rw[nh];intro y hy;obtain⟨z,t,hkey⟩:=hk y (Array.mem_toList_iff.mp hy);simp[DictEntry.refKey,hkey]
  have a':¬es.toList.any (·.refKey)=true:=by rw[a];exact bf
  rw[if_neg a'];exact congrArg some e
theorem ObjM.look {h:Heap}{x dx C:Addr}{mA:Str->Option Value}(I:ObjM h x dx C mA):∃od,W.InstAt h x (W.instObj C dx) C (some od)/\∀name,W.lookIn name od=some (mA name):=
 let⟨od,ho,hl⟩:=z8v I.ns
 ⟨od,⟨I.obj,rfl,rfl,ho⟩,hl⟩
section
variable {prog:am}{w:World}{A:bz}{E:Value->aa->Prop}{s:aa}{K:W.Frag}{x dx C f:Addr}{mA:Str->Option Value}{name:Str}{v:Value}
theorem ze5 {expr:Bool}{Q:Value->aa->Prop}(X:K.In s.heap)(I:ObjM s.heap x dx C mA)(hg:W.plainGet K C name=true)(hh:W.hasDictIn K C=true)
  (ha:W.findIn K (.ref C) name=some none) (hv:mA name=some v) (hv':W.handedIn v=true) (h:Q v {s with toks:=s.toks+1}):
  wpAny (model prog w) A (getAttr (.ref x) name expr) Q E s:=by
 obtain⟨od,J,hl⟩:=I.look;exact W.get_value X J (W.plainGet_of hg).1 (W.findObj_own hh ha rfl (by rw[hl,hv])) hv' h
theorem zbo {pl:Sem Bool}{Q:Value×List Value->aa->Prop}(X:K.In s.heap)(I:ObjM s.heap x dx C mA)(hg:W.plainGet K C name=true)
  (hf:W.findIn K (.ref C) name=some (some (.ref f))) (ht:W.isFn K (.ref f)=true) (hv:mA name=none) (h:Q (.ref f,[.ref x]) s):
  wpAny (model prog w) A (getMethod (.ref x) name pl) Q E s:=by
 obtain⟨od,J,hl⟩:=I.look;exact W.method_fn X J (W.plainGet_of hg).1 (W.plainGet_of hg).2 hf (pi ht) (by show(W.lookIn name od).map (·.isSome)=some false;rw[hl,hv];rfl) h
theorem zfb {ns:List Str}{Q:Unit->aa->Prop}(X:K.In s.heap)(I:ObjM s.heap x dx C mA)
  (hs:W.findIn K (.ref C) "__setattr__"=some (some (.builtin "object.__setattr__"))) (hp:W.plainOver K C=true) (ht:W.takerIn K C name=some none) (hh:W.hasDictIn K C=true)
  (hw:PySem.Within mA ns) (hsz:ns.length<=ah)
  (h:∀h',ObjM h' x dx C (fun y=>if y=name then some v else mA y)->gj dx s.heap h'->Q () {s with heap:=h',toks:=s.toks+2}):
  wpAny (model prog w) A (setAttr (.ref x) name v) Q E s:=by
 obtain⟨od,J,hl⟩:=I.look;refine W.set_plain X J hs (W.osa_open (s:={s with toks:=s.toks+1}) (r:=none) X J hp ht fun b=>?_);obtain⟨cd,hc,hd'⟩:=W.any_some hh;have hx:s.heap.get? x=some ⟨.ref C,some dx,.plain,#[]⟩:=I.obj;refine ag (a0 (ag (ag (wpAny_loadPart hx (ag (W.Looks.here (s:={s with toks:=s.toks+1}) (W.looks_clsIn X hc) ?_))))));rw[hd'];refine a0 (a:=some dx) (ag (a0 (ag ?_)));refine wpAny_nsSet1 (s:={s with toks:=s.toks+1}) I.ns fun h' hn2 hs2=>?_;obtain⟨oD,esD,epD,hoD,hdD,hcD⟩:=hn2.count (PySem.Within.cons name v hw);refine ag (wpAny_lookBehind hoD (by rw[hdD];exact pastItsLine_dict (cb hcD (by rw[ay];omega))) ?_);exact a0 (h _ ⟨(hs2.2 _ (Ne.symm I.ne)).trans I.obj,hn2,I.ne⟩ hs2)
theorem zb7 {R:oq->aa->Prop}{vs:List Value}{kw:List (Str×Value)}(X:K.In s.heap)(hm:W.makesIn K C=true)
  (hi:W.findIn K (.ref C) "__init__"=some (some (.ref f))) (hf:W.typeIn K (.ref f)=some (.type "function"))
  (h:jn (model prog w) (A.under (.builtin "type.__call__" ⟨.ref C::vs,kw⟩)) (.call (.ref f) ⟨.ref (s.heap.objs.size+1)::vs,kw⟩) (W.InitBack (s.heap.objs.size+1) R)
   {s with heap:=(s.heap.push W.emptyDict).push (W.instObj C s.heap.objs.size)}):
  jn (model prog w) A (.call (.ref C) ⟨vs,kw⟩) R s:=by
 obtain⟨hh,g,d,t,os⟩:=s;exact W.make_core (W.makes_of X hm) (W.looks_findIn X hi) (fun self=>W.bind_fn X self hf) (.inl rfl) h
end
def putF (f:Str)(v:V):List (Str×V)->List (Str×V)
 | []=>[(f,v)]
 |(g,x)::r=>if g=f then(g,v)::r else(g,x)::putF f v r
theorem z2i (f g:Str)(v:V):∀fs:List (Str×V),(putF f v fs).lookup g=if g=f then some v else fs.lookup g
 | []=>by
  show i9 g [(f,v)]=_;by_cases h:g=f
  ·have hb:(g==f)=true:=beq_iff_eq.mpr h;simp only[i9,hb,if_pos h]
  ·have hb:(g==f)=false:=beq_eq_false_iff_ne.mpr h;simp only[i9,hb,if_neg h]
 |(k,x)::r=>by
  have ih:=z2i f g v r;rw[show putF f v ((k,x)::r)=(if k=f then(k,v)::r else(k,x)::putF f v r)from rfl];by_cases hk:k=f
  ·rw[if_pos hk];by_cases h:g=k
   ·have hb:(g==k)=true:=beq_iff_eq.mpr h;simp only[i9,hb,if_pos (h.trans hk)]
   ·have hb:(g==k)=false:=beq_eq_false_iff_ne.mpr h;simp only[i9,hb,if_neg (fun e:g=f=>h (e.trans hk.symm))]
  ·rw[if_neg hk];by_cases h:g=k
   ·have hb:(g==k)=true:=beq_iff_eq.mpr h;simp only[i9,hb,if_neg (fun e:g=f=>hk (h.symm.trans e))]
   ·have hb:(g==k)=false:=beq_eq_false_iff_ne.mpr h;simp only[i9,hb];exact ih
theorem z31 (f:Str)(v:V):∀fs:List (Str×V),f∈(putF f v fs).map (·.1)/\∀g,g∈fs.map (·.1)->g∈(putF f v fs).map (·.1)
 | []=>⟨by simp[putF],fun g h=>by simp at h⟩
 |(k,x)::r=>by
  obtain⟨i1,i2⟩:=z31 f v r;rw[show putF f v ((k,x)::r)=(if k=f then(k,v)::r else(k,x)::putF f v r)from rfl];by_cases hk:k=f
  ·rw[if_pos hk];subst hk;exact⟨by simp,fun g h=>by simpa using h⟩
  ·rw[if_neg hk];refine⟨?_,fun g h=>?_⟩
   ·rw[bg];exact ao _ i1
   ·rw[bg]at h ⊢;rcases a9.mp h with e|e
    ·exact a9.mpr (.inl e)
    ·exact ao _ (i2 g e)
theorem z2m (f:Str)(v:V):∀fs:List (Str×V),(putF f v fs).length<=fs.length+1
 | []=>by simp[putF]
 |(k,x)::r=>by
  have ih:=z2m f v r;rw[show putF f v ((k,x)::r)=(if k=f then(k,v)::r else(k,x)::putF f v r)from rfl];by_cases hk:k=f
  ·rw[if_pos hk,ay,ay];omega
  ·rw[if_neg hk,ay,ay];omega
theorem RelO.some_of {v:V}{o:Option Value}(r:RelO (some v) o):∃u,o=some u/\RelV v u:=by
 cases o with
 |none=>exact(show False from r).elim
 |some u=>exact⟨u,rfl,r⟩
theorem RelO.none_of {o:Option Value}(r:RelO none o):o=none:=by
 cases o with
 |none=>rfl
 |some u=>exact(show False from r).elim
theorem z8d {v:V}{u:Value}(r:RelV v u):W.handedIn u=true:=by
 cases v with
 |non=>cases(show u=Value.none from r);rfl
 |bl b=>cases(show u=Value.bool b from r);rfl
 |int i=>obtain⟨t,e⟩:=(show ∃t,u=Value.int i t from r);cases e;rfl
 |str x=>obtain⟨t,e⟩:=(show ∃t,u=Value.str x t from r);cases e;rfl
 |byt b=>obtain⟨t,e⟩:=(show ∃t,u=Value.bytes b t from r);cases e;rfl
 |flt b=>obtain⟨t,e⟩:=(show ∃t,u=Value.float b t from r);cases e;rfl
 |ref a=>cases(show u=Value.ref a from r);rfl
 |ty n=>cases(show u=Value.type n from r);rfl
section
variable {P:am}{w:World}{H H':Hp}{h h':Heap}{a C dx:Addr}{fs fs':List (Str×V)}
theorem z3q (hok:HOk P w H h)(e:H a=some (.ins C dx fs)):∃mA,ObjM h a dx C mA/\(∀f,RelO (fs.lookup f) (mA f))/\PySem.Within mA (fs.map (·.1))/\fs.length<=1000/\H dx=some (.own a):=by obtain⟨d,z,ne,ob,mA,n,r,q⟩:=(show z0i P w H h a (.ins C dx fs)from hok a _ e);exact⟨mA,⟨ob,n,ne⟩,r,q,z,d⟩
end
structure Cls (K:W.Frag)(C:Addr):Prop where
 pg:W.plainGet K C Str.empty=true
 hd:W.hasDictIn K C=true
 po:W.plainOver K C=true
 sa:W.findIn K (.ref C) "__setattr__"=some (some (.builtin "object.__setattr__"))
theorem Cls.get {K:W.Frag}{C:Addr}(c:Cls K C)(f:Str):W.plainGet K C f=true:=c.pg
def z26 (K:W.Frag)(C:Addr)(f:Str):Prop:=W.findIn K (.ref C) f=some none
theorem z26.taker {K:W.Frag}{C:Addr}{f:Str}(n:z26 K C f):W.takerIn K C f=some none:=by unfold W.takerIn;rw[show W.findIn K (.ref C) f=some none from n];rfl
structure Meth (K:W.Frag)(C:Addr)(m:Str)(f:Addr):Prop where
 at_:W.findIn K (.ref C) m=some (some (.ref f))
 fn:W.isFn K (.ref f)=true
 kp:W.keepIn K (.ref f)=true
section
variable {X:Cx}{pins:List (Addr×Obj)}{σ:St}{H:Hp}{s:aa}{a C dx:Addr}{fs:List (Str×V)}{f:Str}{v:V}{A:bz}{E:Value->aa->Prop}
theorem z74 {b:Bool}{Q:Value->aa->Prop}(I:Inv X pins σ H s)(e:H a=some (.ins C dx fs))(c:Cls X.K C)(n:z26 X.K C f)(l:fs.lookup f=some v)
  (h:∀u s',Inv X pins σ H s'->RelV v u->Q u s'):wpAny (model X.prog X.w) A (getAttr (.ref a) f b) Q E s:=by
 obtain⟨mA,O,r,_,_,_⟩:=z3q I.hok e;obtain⟨u,hu,ru⟩:=RelO.some_of (v:=v) (o:=mA f) (by rw[<-l];exact r f);exact ze5 I.kIn O (c.get f) c.hd n hu (z8d ru) (h u _ (I.tok _) ru)
theorem z7i {m:Str}{g:Addr}{pl:Sem Bool}{Q:Value×List Value->aa->Prop}(I:Inv X pins σ H s)(e:H a=some (.ins C dx fs))(c:Cls X.K C)(k:Meth X.K C m g)(l:fs.lookup m=none)
  (h:Q (.ref g,[.ref a]) s):wpAny (model X.prog X.w) A (getMethod (.ref a) m pl) Q E s:=by
 obtain⟨mA,O,r,_,_,_⟩:=z3q I.hok e;have hn:mA m=none:=RelO.none_of (by rw[<-l];exact r m);exact zbo I.kIn O (c.get m) k.at_ k.fn hn h
theorem z6t {y:V}{u:Value}{Q:Unit->aa->Prop}(I:Inv X pins σ H s)(e:H a=some (.ins C dx fs))(c:Cls X.K C)(n:z26 X.K C f)(hl:fs.length<1000)(ry:RelV y u)
  (h:∀s',Inv X pins σ (upd H a (.ins C dx (putF f y fs))) s'->Q () s'):wpAny (model X.prog X.w) A (setAttr (.ref a) f u) Q E s:=by
 obtain⟨mA,O,r,wi,_,ho⟩:=z3q I.hok e;have hz:(fs.map (·.1)).length<=ah:=by rw[aw,dq];omega
 refine zfb I.kIn O c.sa c.po n.taker c.hd wi hz fun h' O' sb=>h _ ?_;have hd:∃o,h'.get? dx=some o:=let⟨o,_,_,e',_⟩:=O'.ns;⟨o,e'⟩;refine I.write (x:=a) (e:=dx) (by rw[e];exact True.intro) (.inr ho) (fun b q hb z=>(sb.2 b hb).trans z) hd ?_;refine⟨by rw[z01 O.ne];exact ho,?_,O.ne,O'.obj,_,O'.ns,fun g=>?_,fun g hg=>?_⟩
 ·have:=z2m f y fs;omega
 ·show RelO ((putF f y fs).lookup g) (if g=f then some u else mA g);rw[z2i];by_cases q:g=f
  ·rw[if_pos q,if_pos q];exact ry
  ·rw[if_neg q,if_neg q];exact r g
 ·by_cases q:g=f
  ·rw[q];exact(z31 f y fs).1
  ·refine(z31 f y fs).2 g (wi g fun z=>hg ?_);show(if g=f then some u else mA g)=none;rw[if_neg q];exact z
theorem Inv.made (I:Inv X pins σ H s):Inv X pins σ (upd (upd H s.heap.objs.size (.own (s.heap.objs.size+1))) (s.heap.objs.size+1) (.ins C s.heap.objs.size []))
  {s with heap:=(s.heap.push W.emptyDict).push (W.instObj C s.heap.objs.size)}:=by
 have e1:(s.heap.push W.emptyDict).get? s.heap.objs.size=some W.emptyDict:=bw s.heap rfl
 have e2:((s.heap.push W.emptyDict).push (W.instObj C s.heap.objs.size)).get? (s.heap.objs.size+1)=some (W.instObj C s.heap.objs.size):=by
  have:=bw (s.heap.push W.emptyDict) (o:=W.instObj C s.heap.objs.size) rfl
  rwa [lu]at this
 have e3:(s.heap.push W.emptyDict).Ns s.heap.objs.size (fun _=>none):=⟨W.emptyDict,#[],_,e1,rfl,(fun e he=>absurd he (by simp)),fun _=>rfl⟩;have I1:=I.laid (a:=s.heap.objs.size) (o:=.own (s.heap.objs.size+1)) (h':=s.heap.push W.emptyDict) (t':=s.toks) (fun b u q=>au _ q) (ak _) ⟨_,e1⟩;refine I1.laid (a:=s.heap.objs.size+1) (o:=.ins C s.heap.objs.size []) (t':=s.toks) (fun b u q=>au _ q) (Nat.le_of_eq (lu _ _)) ?_;have ne:s.heap.objs.size≠s.heap.objs.size+1:=cg (ig _);refine⟨by rw[z01 ne,z02],cj _,ne,e2,fun _=>none,(Heap.Ns1.of_empty e3).at fun o q=>au _ q,fun _=>True.intro,fun y hy=>absurd rfl hy⟩
theorem zdm {prog:am}{w:World}{env:Env}{e:Expr}{f:Str}{pos:Pos}{s:aa}{Q:Value->aa->Prop}(hb:gc e f env (eval e env)=eval e env)
  (h:wpAny (model prog w) A (eval e env) (fun o s₁=>wpAny (model prog w) A (getAttr o f true) Q E s₁) E s):wpAny (model prog w) A (eval (.Attribute e f pos) env) Q E s:=
 Attribute_any_ h (by rw[arm_eval_Attribute,hb])
end
def tFld (K:W.Frag)(ta:TE)(f:Str):TE:=fun σ H Q=>ta σ H fun x H1=>∃a C dx fs v,x=.ref a/\H1 a=some (.ins C dx fs)/\Cls K C/\z26 K C f/\fs.lookup f=some v/\Q v H1
def sFld (K:W.Frag)(ta tv:TE)(f:Str):TS:=fun D σ H=>tv σ H fun y H1=>ta σ H1 fun x H2=>∃a C dx fs,x=.ref a/\H2 a=some (.ins C dx fs)/\Cls K C/\z26 K C f/\fs.length<1000/\D.nx σ (upd H2 a (.ins C dx (putF f y fs)))
section
variable {X:Cx}{o e value:Expr}{f:Str}{pos pos' tpos:Pos}{ta tv:TE}
theorem zfv (he:PE X e ta)(hb:gc e f X.env (eval e X.env)=eval e X.env):PE X (.Attribute e f pos) (tFld X.K ta f):=by intro pins s σ H Q I h;refine zdm hb (thn (he pins s σ H _ I h) fun u s1 ⟨x,H1,I1,rx,a,C,dx,fs,v,ex,ea,c,n,l,q⟩=>?_);subst ex;obtain rfl:u=Value.ref a:=rx;exact z74 I1 ea c n l fun u' s2 I2 ru=>⟨v,H1,I2,ru,q⟩
theorem zii (ha:PE X o ta)(hv:PE X value tv)(hs:i8 value (some (.Attribute o f pos')) pos.line X.env=pure false):PS X (.Assign [.Attribute o f pos'] value pos) (sFld X.K ta tv f):=by intro pins s σ H D I h;refine plainObj_wpAny_Assign_Attribute (thn (hv pins s σ H _ I h) fun u s1 ⟨y,H1,I1,ry,q⟩=>thn (ha pins s1 σ H1 _ I1 q) fun ov s2 ⟨x,H2,I2,rx,a,C,dx,fs,ex,ea,c,n,l,q2⟩=>?_) hs;subst ex;obtain rfl:ov=Value.ref a:=rx;exact z6t I2 ea c n l ry fun s3 I3=>⟨σ,_,I3,q2⟩
end
section
variable {X:Cx}{pins:List (Addr×Obj)}{σ:St}{H:Hp}{s:aa}{A:bz}{E:Value->aa->Prop}{Q:Value->aa->Prop}{c:Value}{b:Bool}
inductive TyOf (K:W.Frag)(H:Hp):V->Value->Prop where
 |non:TyOf K H .non (.type "NoneType")
 |bl (x:Bool):TyOf K H (.bl x) (.type "bool")
 |int (i:Int):TyOf K H (.int i) (.type "int")
 |str (x:Str):TyOf K H (.str x) (.type "str")
 |flt (x:UInt64):TyOf K H (.flt x) (.type "float")
 |lst {a:Addr} {xs:List V} (e:H a=some (.lst xs)):TyOf K H (.ref a) (.type "list")
 |frz {a:Addr} {o:Obj} {xs:List V} (e:H a=some (.frz o (.lst xs))):TyOf K H (.ref a) (.type "list")
 |tup {a:Addr} {xs:List V} (e:H a=some (.tup xs)):TyOf K H (.ref a) (.type "tuple")
 |dK {a:Addr} {kvs:List (Key×V)} (e:H a=some (.dK kvs)):TyOf K H (.ref a) (.type "dict")
 |dT {a:Addr} {kvs:List (List Key×V)} (e:H a=some (.dT kvs)):TyOf K H (.ref a) (.type "dict")
 |ins {a C dx:Addr} {fs:List (Str×V)} (e:H a=some (.ins C dx fs)) (cl:Cls K C) (ha:W.findIn K (.ref C) "__class__"=some (some (.builtin "object.__class__")))
  (hn:W.specialIn K (.builtin "object.__class__") "__get__"=some (some (.builtin "getset_descriptor.__get__"))) (htk:W.takesIn K (.builtin "object.__class__")=some true)
  (hm:W.mroIn K C (.type "object")=some true):TyOf K H (.ref a) (.ref C)
theorem z1e {x:V}{u t:Value}(I:Inv X pins σ H s)(rx:RelV x u)(ty:TyOf X.K H x t)(e:W.kitOne X.K t c=some b)(h:∀tk,Q (.bool b) {s with toks:=tk}):
  wpAny (model X.prog X.w) A (call (.builtin "isinstance") [u,c]) Q E s:=by
 cases ty with
 |non=>cases(show u=Value.none from rx);exact W.kia_one W.kitx_none I.kIn True.intro e (fun z=>nomatch z) h
 |bl y=>cases(show u=Value.bool y from rx);exact W.kia_one W.kitx_bool I.kIn True.intro e (fun z=>nomatch z) h
 |int i=>obtain⟨t,q⟩:=(show ∃t,u=Value.int i t from rx);cases q;exact W.kia_one W.kitx_int I.kIn True.intro e (fun z=>nomatch z) h
 |str y=>obtain⟨t,q⟩:=(show ∃t,u=Value.str y t from rx);cases q;exact W.kia_one W.kitx_str I.kIn True.intro e (fun z=>nomatch z) h
 |flt y=>obtain⟨t,q⟩:=(show ∃t,u=Value.float y t from rx);cases q;exact W.kia_one W.kitx_float I.kIn True.intro e (fun z=>nomatch z) h
 | @lst a xs ea=>cases(show u=Value.ref a from rx);obtain⟨_,_,n,_,h1⟩:=(show z0i X.prog X.w H s.heap a (.lst xs)from I.hok a _ ea);exact W.kia_one W.kitx_list I.kIn ⟨_,h1,rfl⟩ e (fun z=>nomatch z) h
 | @frz a ob xs ea=>cases(show u=Value.ref a from rx);obtain⟨_,_,_,n,_,h1⟩:=(show z0i X.prog X.w H s.heap a (.frz ob (.lst xs))from I.hok a _ ea);exact W.kia_one W.kitx_list I.kIn ⟨_,h1,rfl⟩ e (fun z=>nomatch z) h
 | @tup a xs ea=>cases(show u=Value.ref a from rx);obtain⟨_,_,_,p⟩:=(show z0i X.prog X.w H s.heap a (.tup xs)from I.hok a _ ea);obtain⟨o,h1,h2,_⟩:=p.tup;exact W.kia_one W.kitx_tuple I.kIn ⟨o,h1,h2⟩ e (fun z=>nomatch z) h
 | @dK a kvs ea=>cases(show u=Value.ref a from rx);obtain⟨_,_,vs,_,p⟩:=(show z0i X.prog X.w H s.heap a (.dK kvs)from I.hok a _ ea);obtain⟨o,es,ep,h1,h2,_⟩:=p;exact W.kia_one W.kitx_dict I.kIn ⟨o,h1,h2.1⟩ e (fun z=>nomatch z) h
 | @dT a kvs ea=>cases(show u=Value.ref a from rx);obtain⟨_,_,xs,_,o,es,ep,h1,h2,_⟩:=(show z0i X.prog X.w H s.heap a (.dT kvs)from I.hok a _ ea);exact W.kia_one W.kitx_dict I.kIn ⟨o,h1,h2.1⟩ e (fun z=>nomatch z) h
 | @ins a C dx fs ea cl ha hn htk hm=>cases(show u=Value.ref a from rx);obtain⟨mA,O,_⟩:=z3q I.hok ea;obtain⟨od,J,_⟩:=O.look;exact W.kia_one (W.kitx_own (cl.get _) cl.hd ha hn htk hm) I.kIn J e (fun z=>nomatch z) h
end
structure Room (k:Nat)(A:bz):Prop where
 hd:A.handled=none
 dp:A.depth+3*k+5<recursionLimit
 un:A.units+16*k+200<cLine
theorem Room.mono {j k:Nat}{A:bz}(r:Room k A)(h:j<=k):Room j A:=⟨r.hd,by have:=r.dp;omega,by have:=r.un;omega⟩
theorem Room.deeper {k:Nat}{A:bz}(r:Room (k+1) A)(env:Env):Room k (A.deeper env):=⟨r.hd,by have:=r.dp;show A.depth+1+3*k+5<_;omega,by have:=r.un;show A.units+3+16*k+200<_;omega⟩
theorem Room.in1 {k:Nat}{A:bz}(r:Room (k+1) A):Room k A.in1:=⟨r.hd,by have:=r.dp;show A.depth+3*k+5<_;omega,by have:=r.un;show A.units+1+16*k+200<_;omega⟩
theorem z71 {A:bz}{C:Addr}{us:List Value}{kw:List (Str×Value)}:(A.under (.builtin "type.__call__" ⟨.ref C::us,kw⟩)).depth=A.depth+1:=by first|rfl|simp[Around.under,Code.weight,Code.isCreation,Code.isGuard,Code.isCaller,Code.frames,Code.isFrame,guardIds]
theorem z7j {A:bz}{C:Addr}{us:List Value}{kw:List (Str×Value)}:(A.under (.builtin "type.__call__" ⟨.ref C::us,kw⟩)).units=A.units+1:=by first|rfl|simp[Around.under,Code.cUnits,Code.frames,Code.isFrame]
theorem Room.make {k:Nat}{A:bz}(r:Room (k+1) A)(C:Addr)(us:List Value)(kw:List (Str×Value)):Room k (A.under (.builtin "type.__call__" ⟨.ref C::us,kw⟩)):=⟨r.hd,by have:=r.dp;rw[z71];omega,by have:=r.un;rw[z7j];omega⟩
theorem Room.depth {k:Nat}{A:bz}(r:Room k A):A.depth<recursionLimit:=by have:=r.dp;omega
theorem Room.units {k:Nat}{A:bz}(r:Room k A):A.units+64<cLine:=by have:=r.un;omega
def tNil:TA:=fun _ H Q=>Q [] H
def z7d (ta:TE)(tr:TA):TA:=fun σ H Q=>ta σ H fun x H1=>tr σ H1 fun xs H2=>Q (x::xs) H2
section
variable {X:Cx}{e:Expr}{es:List Expr}{te:TE}{t:TA}{pos:Pos}
theorem z1i:PA X [] tNil:=fun _ _ _ _ H Q I h=>ni ⟨[],H,I,.nil,h⟩
theorem z2o (ha:PE X e te)(hr:PA X es t)(hs:bv (e::es) X.env=(false,eval e X.env)::bv es X.env:=by rfl):PA X (e::es) (z7d te t):=by intro pos pins s σ H Q I h;rw[hs];show wpAny _ _ (spliced ((false,eval e X.env)::fi pos (bv es X.env))) _ _ s;refine i6 (thn (ha pins s σ H _ I h) fun u s1 ⟨x,H1,I1,r1,q1⟩=>?_);exact thn (hr pos pins s1 σ H1 _ I1 q1) fun us s2 ⟨xs,H2,I2,r2,q2⟩=>⟨x::xs,H2,I2,.cons r1 r2,q2⟩
def tTup (t:TA):TE:=fun σ H Q=>t σ H fun xs H1=>xs.length<=ah/\∀p,H1 p=none->Q (.ref p) (upd H1 p (.tup xs))
def tLst (t:TA):TE:=fun σ H Q=>t σ H fun xs H1=>xs.length<=ah/\∀p,H1 p=none->Q (.ref p) (upd H1 p (.lst xs))
theorem z8c {x1}(h:PA X es t):PE X (.Tuple es x1 pos) (tTup t):=by intro pins s σ H Q I hq;refine wpAny_Tuple_spliced (thn (h pos pins s σ H _ I hq) fun us s1 ⟨xs,H1,I1,r,z,q⟩=>⟨by rw[<-r.length];exact z,?_⟩);have hf:H1 s1.heap.objs.size=none:=I1.hok.fresh (ak _);refine⟨.ref s1.heap.objs.size,upd H1 s1.heap.objs.size (.tup xs),I1.laid (t':=s1.toks) (fun b u e=>au _ e) (ak _) ?_,rfl,q _ hf⟩;exact⟨z,us,r,⟨_,bw _ rfl⟩⟩
theorem z82 (h:PA X es t):PE X (.List es pos) (tLst t):=by intro pins s σ H Q I hq;refine wpAny_List_spliced (thn (h pos pins s σ H _ I hq) fun us s1 ⟨xs,H1,I1,r,z,q⟩=>⟨by rw[<-r.length];exact z,?_⟩);have hf:H1 s1.heap.objs.size=none:=I1.hok.fresh (ak _);refine⟨.ref s1.heap.objs.size,upd H1 s1.heap.objs.size (.lst xs),I1.laid (t':=s1.toks) (fun b u e=>au _ e) (ak _) ?_,rfl,q _ hf⟩;exact⟨z,us,0,r,bw _ rfl⟩
end
abbrev Sp:=List V->Hp->VK->XK->Prop
abbrev CXT:=List Env->Hp->aa->XK->Value->aa->Prop
structure Env0 (P:am)(w:World)(K:W.Frag)(mg:Str->Option Value)(base:Heap)(A:bz)(outer:List Env)(s:aa)(H:Hp):Prop where
 frames:A.frames=some outer
 mod:Mod K mg base
 bs:∀b o,base.get? b=some o->s.heap.get? b=some o/\H b=none
 bsz:base.objs.size<=s.heap.objs.size
 funs:s.heap.FunFrames base outer
 frf:∀b∈frs outer,H b=none
 hok:HOk P w H s.heap
 bare:jv s.gens
def CE (outer:List Env)(P:am)(w:World)(H:Hp)(s:aa)(Q:VK)(u:Value)(s':aa):Prop:=∃v H',s'.os=s.os/\jv s'.gens/\Un (frs outer) [] H H' s.heap s'.heap/\HOk P w H' s'.heap/\RelV v u/\Q v H'
def CR (CX:CXT)(outer:List Env)(P:am)(w:World)(H:Hp)(s:aa)(Q:VK)(E:XK)(r:oq)(s':aa):Prop:=
 match r with
 |.ok (.ret u)=>CE outer P w H s Q u s'
 |.ok _=>False
 |.error e=>CX outer H s E e s'
structure FnOk (P:am)(w:World)(K:W.Frag)(mg:Str->Option Value)(base:Heap)(CX:CXT)(k:Nat)(f:Addr)(fd:cu)(ps:List Str)(sp:Sp):Prop where
 len:∀vs H Q E,sp vs H Q E->vs.length=ps.length
 run:∀(A:bz) (outer:List Env) (s:aa) (H:Hp) (args:Args) (us:List Value) (vs:List V) (Q:VK) (E:XK),Room k A->Env0 P w K mg base A outer s H->nj s fd args (ps.zip us)->Vals vs us->sp vs H Q E->jn (model P w) A (.call (.ref f) args) (CR CX outer P w H s Q E) s
theorem FnOk.mono {P:am}{w:World}{K:W.Frag}{mg:Str->Option Value}{base:Heap}{CX:CXT}{j k:Nat}{f:Addr}{fd:cu}{ps:List Str}{sp:Sp}(F:FnOk P w K mg base CX j f fd ps sp)(h:j<=k): FnOk P w K mg base CX k f fd ps sp:=⟨F.len,fun A outer s H args us vs Q E hr=>F.run A outer s H args us vs Q E (hr.mono h)⟩
theorem FnOk.imp {P:am}{w:World}{K:W.Frag}{mg:Str->Option Value}{base:Heap}{CX:CXT}{k:Nat}{f:Addr}{fd:cu}{ps:List Str}{sp sp':Sp}(F:FnOk P w K mg base CX k f fd ps sp)
  (h:∀vs H Q E,sp' vs H Q E->sp vs H Q E):FnOk P w K mg base CX k f fd ps sp':=
 ⟨fun vs H Q E q=>F.len vs H Q E (h _ _ _ _ q),fun A outer s H args us vs Q E hr he hb hv hs=>F.run A outer s H args us vs Q E hr he hb hv (h _ _ _ _ hs)⟩
theorem Env0.make {P:am}{w:World}{K:W.Frag}{mg:Str->Option Value}{base:Heap}{A:bz}{outer:List Env}{s:aa}{H:Hp}(e:Env0 P w K mg base A outer s H)(C:Addr)(us:List Value)(kw:List (Str×Value)): Env0 P w K mg base (A.under (.builtin "type.__call__" ⟨.ref C::us,kw⟩)) outer s H:=⟨by first|exact e.frames|(simpa[Around.under,Code.envs,Code.isFrame,pushEnvs]using e.frames),e.mod,e.bs,e.bsz,e.funs,e.frf,e.hok,e.bare⟩
theorem Env0.in1 {P:am}{w:World}{K:W.Frag}{mg:Str->Option Value}{base:Heap}{A:bz}{outer:List Env}{s:aa}{H:Hp}(e:Env0 P w K mg base A outer s H): Env0 P w K mg base A.in1 outer s H:=⟨e.frames,e.mod,e.bs,e.bsz,e.funs,e.frf,e.hok,e.bare⟩
section
variable {X:Cx}{pins:List (Addr×Obj)}{σ:St}{H:Hp}{s s':aa}
theorem Inv.env0 (I:Inv X pins σ H s):Env0 X.prog X.w X.K X.mg X.base X.A X.stack s H:=⟨I.ok.frames,I.ok.mod,I.bs,cb I.ok.bsz I.sz,I.stack,I.stkFree,I.hok,I.bare⟩
theorem Inv.after {Q:VK}{u:Value}(I:Inv X pins σ H s)(h:CE X.stack X.prog X.w H s Q u s'):EP X pins σ Q u s':=by obtain⟨v,H',os,bare,un,hok,r,q⟩:=h;obtain⟨hh,g,d,t,os'⟩:=s';obtain rfl:os'=s.os:=os;exact⟨v,H',I.call (h':=hh) (g':=g) (d':=d) (t':=t) (ch:=[]) un hok bare (fun b z=>absurd z (by simp)),r,q⟩
end
def z55 (sp:Sp)(dvs:List V)(E:XK)(t:TA):TE:=fun σ H Q=>t σ H fun vs H1=>sp (vs++dvs) H1 Q E
def z4h (C:Addr)(m:Str)(sp:Sp)(dvs:List V)(E:XK)(ta:TE)(t:TA):TE:=fun σ H Q=>ta σ H fun x H1=>∃a dx fs,x=.ref a/\H1 a=some (.ins C dx fs)/\fs.lookup m=none/\t σ H1 fun vs H2=>sp (x::(vs++dvs)) H2 Q E
def z7b (C:Addr)(sp:Sp)(dvs:List V)(E:XK)(t:TA):TE:=fun σ H Q=>t σ H fun vs H1=>∀x dx,H1 x=none->H1 dx=none->dx≠x->sp (.ref x::(vs++dvs)) (upd (upd H1 dx (.own x)) x (.ins C dx [])) (fun v H2=>v=.non/\Q (.ref x) H2) E
def Binds (K:W.Frag)(fd:cu)(ps:List Str)(ds:List Value):Prop:=∀(s:aa) (us:List Value),K.In s.heap->(us++ds).length=ps.length->nj s fd ⟨us,[]⟩ (ps.zip (us++ds))
theorem Binds.all {K:W.Frag}{fd:cu}{ps:List Str}(h:∀us:List Value,us.length=ps.length->ot fd ⟨us,[]⟩=pure (ps.zip us)):Binds K fd ps []:=fun s us _ hl=>by rw[fq]at hl ⊢;exact .of_eq (h us hl)
def z1y (CX:CXT)(X:Cx)(E:XK):Prop:=∀(pins:List (Addr×Obj)) (σ:St) (H:Hp) (s:aa) (e:Value) (s':aa),Inv X pins σ H s->CX X.stack H s E e s'->X.xe e s'
section
variable {X:Cx}{CX:CXT}{k:Nat}{f C:Addr}{fd:cu}{ps:List Str}{sp:Sp}{dvs:List V}{ds:List Value}{E:XK}{x m:Str}{p pos apos:Pos}{e o:Expr}{es:List Expr}{ta:TE}{t:TA}
theorem z99 {pins:List (Addr×Obj)}{σ:St}{H:Hp}{s:aa}{Q:VK}{us:List Value}{vs:List V}(F:FnOk X.prog X.w X.K X.mg X.base CX k f fd ps sp)(hr:Room k X.A)(hb:Binds X.K fd ps ds)(hd:Vals dvs ds)(hx:z1y CX X E)
  (I:Inv X pins σ H s) (r:Vals vs us) (h:sp (vs++dvs) H Q E):wpAny (model X.prog X.w) X.A (call (.ref f) us) (EP X pins σ Q) X.xe s:=by
 have r2:Vals (vs++dvs) (us++ds):=r.append hd;have hl:(us++ds).length=ps.length:=by rw[<-r2.length];exact F.len _ _ _ _ h
 refine ou (jc (F.run X.A X.stack s H ⟨us,[]⟩ (us++ds) (vs++dvs) Q E hr I.env0 (hb s us I.kIn hl) r2 h) fun r s' hq=>?_);cases r with
 |error e=>exact hx pins σ H s e s' I hq
 |ok fl=>
  cases fl with
  |ret u=>exact I.after hq
  |next=>exact False.elim hq
  |brk=>exact False.elim hq
  |cont=>exact False.elim hq
theorem z8z (F:FnOk X.prog X.w X.K X.mg X.base CX k f fd ps sp)(hr:Room k X.A)(hg:Gl X x)(hm:X.mg x=some (.ref f))(hk:W.keepIn X.K (.ref f)=true)(hb:Binds X.K fd ps ds)(hd:Vals dvs ds)(hx:z1y CX X E)
  (ha:PA X (e::es) t) (hdb:(x==("__debug__":Str))=false:=by decide) (he:bv (e::es) X.env=(false,eval e X.env)::bv es X.env:=by rfl) (hpl:(fi pos (bv es X.env)).any (·.1)=false:=by rfl):
  PE X (.Call (.Name x p) (e::es) [] pos) (z55 sp dvs E t):=by
 intro pins s σ H Q I h;refine d5 (z1d I hg hm ?_ hdb);refine W.callWith_K (h₀:=X.base) I.ok.mod.kin hk (thn (ha pos pins s σ H _ I h) fun us s1 ⟨vs,H1,I1,r,q⟩=>⟨I1.kIn,?_⟩) he hpl;exact z99 F hr hb hd hx I1 r q
structure Mk (K:W.Frag)(C f:Addr):Prop where
 makes:W.makesIn K C=true
 init:W.findIn K (.ref C) "__init__"=some (some (.ref f))
 fn:W.isFn K (.ref f)=true
 kp:W.keepIn K (.ref C)=true
theorem zbp {pins:List (Addr×Obj)}{σ:St}{H:Hp}{s:aa}{Q:VK}{us:List Value}{vs:List V}(M:Mk X.K C f)(F:FnOk X.prog X.w X.K X.mg X.base CX k f fd ps sp)(hr:Room (k+1) X.A)(hb:Binds X.K fd ps ds)(hd:Vals dvs ds)
  (hx:z1y CX X E) (I:Inv X pins σ H s) (r:Vals vs us)
  (h:∀x dx,H x=none->H dx=none->dx≠x->sp (.ref x::(vs++dvs)) (upd (upd H dx (.own x)) x (.ins C dx [])) (fun v H2=>v=.non/\Q (.ref x) H2) E):
  wpAny (model X.prog X.w) X.A (call (.ref C) us) (EP X pins σ Q) X.xe s:=by
 have hq:=h (s.heap.objs.size+1) s.heap.objs.size (I.hok.fresh (Nat.le_succ _)) (I.hok.fresh (ak _)) (cg (ig _));have I2:=Inv.made (C:=C) I;have r2:Vals (V.ref (s.heap.objs.size+1)::(vs++dvs)) (Value.ref (s.heap.objs.size+1)::(us++ds)):=.cons rfl (r.append hd);have hl:(Value.ref (s.heap.objs.size+1)::us++ds).length=ps.length:=by have e:=r2.length;rw[F.len _ _ _ _ hq]at e;exact e.symm
 refine ou (zb7 (f:=f) I.kIn M.makes M.init (pi M.fn) (jc (F.run _ X.stack _ _ ⟨Value.ref (s.heap.objs.size+1)::us,[]⟩ (Value.ref (s.heap.objs.size+1)::(us++ds)) _ _ E (hr.make C us []) (I2.env0.make C us []) (hb _ (Value.ref (s.heap.objs.size+1)::us) I2.kIn hl) r2 hq) fun r s' hq'=>?_));cases r with
 |error e=>exact hx pins σ _ _ e s' I2 hq'
 |ok fl=>
  cases fl with
  |ret u=>obtain⟨v,H',I3,rv,ev,q3⟩:=I2.after hq';subst ev;exact⟨rv,⟨V.ref (s.heap.objs.size+1),H',I3,rfl,q3⟩⟩
  |next=>exact False.elim hq'
  |brk=>exact False.elim hq'
  |cont=>exact False.elim hq'
theorem zej (M:Mk X.K C f)(F:FnOk X.prog X.w X.K X.mg X.base CX k f fd ps sp)(hr:Room (k+1) X.A)(hg:Gl X x)(hm:X.mg x=some (.ref C))(hb:Binds X.K fd ps ds)(hd:Vals dvs ds)(hx:z1y CX X E)
  (ha:PA X (e::es) t) (hdb:(x==("__debug__":Str))=false:=by decide) (he:bv (e::es) X.env=(false,eval e X.env)::bv es X.env:=by rfl) (hpl:(fi pos (bv es X.env)).any (·.1)=false:=by rfl):
  PE X (.Call (.Name x p) (e::es) [] pos) (z7b C sp dvs E t):=by
 intro pins s σ H Q I h;refine d5 (z1d I hg hm ?_ hdb);refine W.callWith_K (h₀:=X.base) I.ok.mod.kin M.kp (thn (ha pos pins s σ H _ I h) fun us s1 ⟨vs,H1,I1,r,q⟩=>⟨I1.kIn,?_⟩) he hpl;exact zbp M F hr hb hd hx I1 r q
end
def PK (X:Cx)(kws:List i3)(t:TA):Prop:=∀(pos:Pos) (pins:List (Addr×Obj)) (s:aa) (σ:St) (H:Hp) (Q:List V->Hp->Prop),Inv X pins σ H s->t σ H Q->wpAny (model X.prog X.w) X.A (evalAll ((kh pos (ja kws X.env)).map (·.2))) (AP X pins σ Q) X.xe s
section
variable {X:Cx}{CX:CXT}{k:Nat}{f C:Addr}{fd:cu}{ps ks:List Str}{sp:Sp}{E:XK}{x m:Str}{p pos apos kpos:Pos}{e o:Expr}{es:List Expr}{kws:List i3}{te ta:TE}{t tk:TA}{nm:Option Str}
variable {g:List Value->List Value->List Value}{gV:List V->List V->List V}
end
structure FnScope (N P:List Str)(sc:Scope):Prop where
 kind:sc.kind=.function
 co:sc.isCoroutine=false
 gen:sc.isGenerator=false
 nd:N.Nodup
 pre:N.take P.length=P
 par:∀x∈P,sc.names.lookup x=some .local\/sc.names.lookup x=some .cell
 nofree:∀y∈sc.names,y.2≠.free
theorem z4d {jm:Str->Option dt}{x:Str}:∀{binds:List (Str×Value)} {m:Str->Option Value},(∀v,(x,v)∉binds)->bindL jm binds m x=m x
 | [],_,_=>rfl
 |(n,v)::r,m,h=>by
  unfold bindL;rw[z4d fun w hw=>h w (ao _ hw)];split
  ·have :x≠n:=by rintro rfl;exact h v av
   simp[this]
  ·rfl
theorem z3w {jm:Str->Option dt}{x:Str}:∀{binds:List (Str×Value)} {m:Str->Option Value},(∀v,(x,v)∉binds)->bindC jm binds m x=m x
 | [],_,_=>rfl
 |(n,v)::r,m,h=>by
  unfold bindC;rw[z3w fun w hw=>h w (ao _ hw)];split
  ·rfl
  ·have :x≠n:=by rintro rfl;exact h v av
   simp[this]
theorem z4r {jm:Str->Option dt}{x:Str}{v:Value}:∀{P:List Str} {vs:List Value} {i:Nat} {m:Str->Option Value},P.Nodup->P[i]?=some x->vs[i]?=some v->jm x=some .local->
  bindL jm (P.zip vs) m x=some v
 | [],_,_,_,_,h,_,_=>by simp at h
 |_::_,[],_,_,_,_,h,_=>by simp at h
 |p::P,w::vs,0,m,nd,h1,h2,hk=>by simp at h1 h2;subst h1;subst h2;show bindL jm ((p,w)::P.zip vs) m p=_;unfold bindL;rw[z4d fun v hv=>(fu.mp nd).1 (lc hv).1,if_pos hk];simp
 |p::P,w::vs,i+1,m,nd,h1,h2,hk=>by show bindL jm ((p,w)::P.zip vs) m x=_;unfold bindL;exact z4r (i:=i) (fu.mp nd).2 (by simpa using h1) (by simpa using h2) hk
theorem z50 {jm:Str->Option dt}{x:Str}{v:Value}:∀{P:List Str} {vs:List Value} {i:Nat} {m:Str->Option Value},P.Nodup->P[i]?=some x->vs[i]?=some v->jm x≠some .local->
  bindC jm (P.zip vs) m x=some v
 | [],_,_,_,_,h,_,_=>by simp at h
 |_::_,[],_,_,_,_,h,_=>by simp at h
 |p::P,w::vs,0,m,nd,h1,h2,hk=>by simp at h1 h2;subst h1;subst h2;show bindC jm ((p,w)::P.zip vs) m p=_;unfold bindC;rw[z3w fun v hv=>(fu.mp nd).1 (lc hv).1,if_neg hk];simp
 |p::P,w::vs,i+1,m,nd,h1,h2,hk=>by show bindC jm ((p,w)::P.zip vs) m x=_;unfold bindC;exact z50 (i:=i) (fu.mp nd).2 (by simpa using h1) (by simpa using h2) hk
def start (N:List Str)(vs:List V):St:=vs.map some++ai (N.length-vs.length) none
def cxOf (CX:CXT)(P:am)(w:World)(K:W.Frag)(mg:Str->Option Value)(base:Heap)(N:List Str)(qual:Str)(scope:Scope)(f:Addr)(cd:Value)(A:bz)(outer:List Env)(s:aa)(H:Hp)(E:XK):Cx where
 prog:=P
 w:=w
 K:=K
 mg:=mg
 base:=base
 A:=A.deeper (lw qual scope s.heap.objs.size f cd)
 N:=N
 s₀:=s
 H₀:=H
 env:=lw qual scope s.heap.objs.size f cd
 outer:=outer
 stack:=lw qual scope s.heap.objs.size f cd::outer
 ex:=[]
 calm:=true
 fn:=fun _=>true
 pn:=[]
 xe:=fun e s'=>wpAny (model P w) (A.deeper (lw qual scope s.heap.objs.size f cd)) (leaving (lw qual scope s.heap.objs.size f cd) e) (fun _ s''=>CX outer H s E e s'') (fun e' s''=>CX outer H s E e' s'') s'
theorem z69 {sc:Scope}{n:Nat}{x:Str}(h:sc.names.lookup x=some .cell):∃c,(cellsFrom n sc.names []).lookup x=some c:=by have q:=W.cellsFrom_some sc.names n [] (.inl h);exact Option.isSome_iff_exists.mp q
theorem za4 {CX:CXT}{P:am}{w:World}{K:W.Frag}{mg:Str->Option Value}{base:Heap}{N ps:List Str}{qual:Str}{scope:Scope}{f:Addr}{cd:Value}{A:bz}{outer:List Env}{s s1:aa}{H:Hp}{E:XK}{us:List Value}{vs:List V}
  (S:FnScope N ps scope) (hd:A.handled=none) (e0:Env0 P w K mg base A outer s H) (hl:vs.length=ps.length) (r:Vals vs us)
  (x:InCallC s s.heap.objs.size (bindL (lw qual scope s.heap.objs.size f cd).kindOf (ps.zip us) fun _=>none) (cellsFrom (s.heap.objs.size+1) scope.names []) (bindC (lw qual scope s.heap.objs.size f cd).kindOf (ps.zip us) fun _=>none) s1):
  Inv (cxOf CX P w K mg base N qual scope f cd A outer s H E) [] (start N vs) H s1:=by
 have hpl:ps.length<=N.length:=by have:=congrArg List.length S.pre;rw[gf]at this;omega
 obtain⟨h1,tk,rfl,hk⟩:=x.done;have noA:∀b:Addr,b∉(cxOf CX P w K mg base N qual scope f cd A outer s H E).ex:=fun b z=>absurd (show b∈([]:List Addr)from z) (by simp);refine⟨⟨e0.mod,S.kind,rfl,rfl,ak _,fun y z c h1 h2=>?_,fun y hy=>?_,fun y c _ h=>?_,fun _=>hd,Around.frames_deeper e0.frames,.inr ⟨rfl,rfl⟩,fun b z=>absurd z (noA b),e0.bs,e0.bsz,fun b _ _=>noA b,fun b z=>absurd z (noA b),e0.funs,e0.frf,fun _ _ z=>by cases z⟩,rfl,e0.bare,Un.kept hk,⟨_,x.toInCall.ns,fun i y v h1 h2 h3=>?_⟩,fun y c h=>⟨_,x.cell y c h⟩,e0.hok.fresh (ak _),fun y c h=>?_,fun p hp=>absurd (show p∈([]:List (Addr×Obj))from hp) (by simp),e0.hok.kept hk,?_,fun _ _ z=>by cases z⟩
 ·exact name_of_addr x.apart (PySem.mem_of_lookup h1) (PySem.mem_of_lookup h2)
 ·have hy:scope.names.lookup y=some .cell\/scope.names.lookup y=some .free:=hy;rcases hy with hy|hy
  ·exact z69 hy
  ·exact absurd rfl (S.nofree _ (PySem.mem_of_lookup hy))
 ·exact m8 (x.above y c (PySem.mem_of_lookup h))
 ·have hi:i<vs.length:=by
   unfold start at h2;by_cases hi:i<vs.length
   ·exact hi
   ·rw[fg (by simpa using hi)]at h2;rw[bo]at h2;split at h2<;>cases h2
  have ha:vs[i]?=some v:=by
   unfold start at h2;rw[fj (by simpa using hi),az]at h2;cases e:vs[i]? with
   |none=>rw[e]at h2;cases h2
   |some a=>rw[e]at h2;cases h2;rfl
  obtain⟨u,hu,rv⟩:=r.get ha;have hp:ps[i]?=some y:=by rw[<-S.pre,List.getElem?_take_of_lt (by omega)];exact h1
  have ndP:ps.Nodup:=by rw[<-S.pre];exact S.nd.sublist (List.take_sublist _ _)
  refine⟨u,rv,?_⟩;rcases S.par y (bu hp)with k|k
  ·exact .inl ⟨k,z4r ndP hp hu k⟩
  ·obtain⟨c,e⟩:=z69 (n:=s.heap.objs.size+1) k;refine .inr ⟨.inl k,c,e,?_⟩;have q:=x.cell y c e;rw[z50 ndP hp hu (by show scope.names.lookup y≠_;rw[k];decide)]at q;exact q
 ·exact e0.hok.fresh (m8 (x.above y c (PySem.mem_of_lookup h)))
 ·unfold start;show _=N.length;rw[ba,aw,bq];omega
theorem zcv {CX:CXT}{P:am}{w:World}{K:W.Frag}{mg:Str->Option Value}{base:Heap}{k:Nat}{f:Addr}{name qual:Str}{params:Arguments}{body:List Stmt}{scope:Scope}{dV kV doc pm cdv ct oc:Value}{an od:Option Addr}
  {osl:Array (Option Value)} {N ps:List Str} {sp:Sp} (lk:K.lookup f=some ⟨oc,od,.func (W.fnOf name qual params body scope dV kV doc pm an cdv ct),osl⟩) (hcd:W.codeIn K cdv qual=true) (S:FnScope N ps scope)
  (len:∀vs H Q E,sp vs H Q E->vs.length=ps.length)
  (hbody:∀(A:bz) (outer:List Env) (s:aa) (H:Hp) (vs:List V) (Q:VK) (E:XK),Room k (A.deeper (lw qual scope s.heap.objs.size f cdv))->sp vs H Q E->∃t,PSs (cxOf CX P w K mg base N qual scope f cdv A outer s H E) body t/\t {nx:=fun _ H'=>Q .non H',rt:=Q} (start N vs) H):
  FnOk P w K mg base CX (k+1) f (W.fnOf name qual params body scope dV kV doc pm an cdv ct) ps sp:=by
 refine⟨len,fun A outer s H args us vs Q E hr e0 hb r hsp=>?_⟩;have hl:=len _ _ _ _ hsp;have KX:K.In s.heap:=e0.mod.kin.keeps fun b o e=>(e0.bs b o e).1;have lim:s.heap.NoLimit:=e0.mod.nolimit.keeps fun b o e=>(e0.bs b o e).1
 have hkind:∀y∈ps.zip us,scope.names.lookup y.1=some .local\/(scope.names.lookup y.1=some .cell/\((cellsFrom (s.heap.objs.size+1) scope.names []).lookup y.1).isSome=true):=fun⟨n,v⟩ hy=>by
  rcases S.par n (lc hy).1 with q|q
  ·exact .inl q
  ·exact .inr ⟨q,W.cellsFrom_some _ _ _ (.inl q)⟩
 refine codeAny_call_function hr.depth (KX _ _ lk) rfl S.co S.gen rfl (W.codeRec_of KX hcd) (hb _ _ _ _ ?_);refine wpAny_newFunctionEnv_cells S.kind hkind fun env he s1 x=>?_;subst he;refine⟨lim.keeps x.toInCall.keep,codeAny_func ?_⟩;obtain⟨t,ht,hq⟩:=hbody A outer s H vs Q E (hr.deeper _) hsp;have I:Inv (cxOf CX P w K mg base N qual scope f cdv A outer s H E) [] (start N vs) H s1:=za4 S hr.hd e0 hl r x;refine gk (ht [] s1 (start N vs) H _ I hq) (fun fl s' hs=>?_) fun e s' hs=>hs;have fin:∀{σ':St} {H':Hp} {v:V} {u:Value},Inv (cxOf CX P w K mg base N qual scope f cdv A outer s H E) [] σ' H' s'->RelV v u->Q v H'->CE outer P w H s Q u s':=fun{σ' H' v u} J rv q=>⟨v,H',J.os,J.bare,J.base,J.hok,rv,q⟩;cases fl with
 |ret u=>obtain⟨v,σ',H',J,rv,q⟩:=hs;exact fin J rv q
 |next=>obtain⟨σ',H',J,q⟩:=hs;exact fin (v:=V.non) (u:=Value.none) J rfl q
 |brk=>obtain⟨_,_,_,q⟩:=hs;exact False.elim q
 |cont=>obtain⟨_,_,_,q⟩:=hs;exact False.elim q
section
variable {X:Cx}{x:Str}{p pos:Pos}{e:Expr}{es:List Expr}{t:TA}{id T:String}{r:List V->Hp->VK->Prop}
def tCB (r:List V->Hp->VK->Prop)(t:TA):TE:=fun σ H Q=>t σ H fun vs H1=>r vs H1 Q
theorem zbm (hc:CallR X (.builtin id) r)(hg:Gl X x)(hm:X.mg x=none)(hv:ci x=some (.builtin id))(ha:PA X (e::es) t)(hn:x≠"__name__":=by decide)(hdb:(x==("__debug__":Str))=false:=by decide)
  (he:bv (e::es) X.env=(false,eval e X.env)::bv es X.env:=by rfl) (hpl:(fi pos (bv es X.env)).any (·.1)=false:=by rfl):PE X (.Call (.Name x p) (e::es) [] pos) (tCB r t):=by
 intro pins s σ H Q I h;refine d5 (z36 I hg hm hv ?_ hn hdb);exact PyProof.Rows.callWith_builtin1 (thn (ha pos pins s σ H _ I h) fun us s1 ⟨vs,H1,I1,r1,q1⟩=>hc pins s1 σ H1 vs us Q I1 r1 q1) he hpl
theorem z7y (hc:CallR X (.type T) r)(hg:Gl X x)(hm:X.mg x=none)(hv:ci x=some (.type T))(ha:PA X (e::es) t)(hn:x≠"__name__":=by decide)(hdb:(x==("__debug__":Str))=false:=by decide)
  (he:bv (e::es) X.env=(false,eval e X.env)::bv es X.env:=by rfl) (hpl:(fi pos (bv es X.env)).any (·.1)=false:=by rfl):PE X (.Call (.Name x p) (e::es) [] pos) (tCB r t):=by
 intro pins s σ H Q I h;refine d5 (z36 I hg hm hv ?_ hn hdb);exact PyProof.Rows.callWith_type1 (thn (ha pos pins s σ H _ I h) fun us s1 ⟨vs,H1,I1,r1,q1⟩=>hc pins s1 σ H1 vs us Q I1 r1 q1) he hpl
end
section
variable {κ:Type} [DecidableEq κ]
def valV (kvs:List (κ×V))(k:κ):Option V:=(kvs.find? fun kv=>decide (kv.1=k)).map (·.2)
def putK (kvs:List (κ×V))(k:κ)(v:V):List (κ×V):=if(kvs.any fun kv=>decide (kv.1=k))=true then kvs.map (fun kv=>if kv.1=k then(kv.1,v)else kv)else kvs++[(k,v)]
def zj0 (kvs:List (κ×V))(k:κ):List (κ×V):=kvs.filter fun kv=>decide (kv.1≠k)
theorem z2g {p:κ×V}{r:List (κ×V)}{k:κ}(e:p.1=k):valV (p::r) k=some p.2:=by simp[valV,gq,e]
theorem z2d {p:κ×V}{r:List (κ×V)}{k:κ}(e:¬p.1=k):valV (p::r) k=valV r k:=by simp[valV,gq,e]
theorem z5t (k:κ):∀kvs:List (κ×V),(kvs.any fun kv=>decide (kv.1=k))=(valV kvs k).isSome
 | []=>rfl
 |p::r=>by
  rw[gu];by_cases e:p.1=k
  ·simp only[z2g e,decide_eq_true e,Bool.true_or,Option.isSome_some]
  ·rw[z2d e,ph e,Bool.false_or];exact z5t k r
theorem z2t (kvs:List (κ×V))(k:κ)(v:V):(putK kvs k v).length<=kvs.length+1:=by
 unfold putK;split
 ·rw[aw];omega
 ·rw[ba,ay,List.length_nil];omega
theorem RelO.isSome_eq {o:Option V}{u:Option Value}(r:RelO o u):o.isSome=u.isSome:=by
 cases o with
 |none=>cases u with
  |none=>rfl
  |some _=>exact(show False from r).elim
 |some _=>cases u with
  |none=>exact(show False from r).elim
  |some _=>rfl
theorem RelO.getD {o:Option V}{u:Option Value}{d:V}{d':Value}(r:RelO o u)(rd:RelV d d'):RelV (o.getD d) (u.getD d'):=by
 cases o with
 |none=>cases u with
  |none=>exact rd
  |some _=>exact(show False from r).elim
 |some _=>cases u with
  |none=>exact(show False from r).elim
  |some _=>exact r
theorem KV.val {kvs:List (κ×V)}{vs:List (κ×Value)}(r:KV kvs vs)(k:κ):RelO (valV kvs k) (l9 vs k):=by
 unfold KV at r
 induction r with
 |nil=>exact True.intro
 | @cons p q ps qs h t ih=>
  obtain⟨h1,h2⟩:=h;by_cases e:p.1=k
  ·have e':q.1=k:=h1.symm.trans e;have b:l9 (q::qs) k=some q.2:=by simp[l9,gq,e']
   rw[z2g e,b];exact h2
  ·have e':¬q.1=k:=fun z=>e (h1.trans z);have b:l9 (q::qs) k=l9 qs k:=by simp[l9,gq,e']
   rw[z2d e,b];exact ih
theorem KV.any {kvs:List (κ×V)}{vs:List (κ×Value)}(r:KV kvs vs)(k:κ):(kvs.any fun kv=>decide (kv.1=k))=vs.any fun kv=>decide (kv.1=k):=by
 unfold KV at r
 induction r with
 |nil=>rfl
 |cons h t ih=>rw[gu,gu,ih,h.1]
theorem KV.repl {kvs:List (κ×V)}{vs:List (κ×Value)}(r:KV kvs vs)(k:κ){y:V}{u:Value}(ry:RelV y u):
  KV (kvs.map fun kv=>if kv.1=k then(kv.1,y)else kv) (vs.map fun kv=>if kv.1=k then(kv.1,u)else kv):=by
 unfold KV at r ⊢
 induction r with
 |nil=>exact .nil
 | @cons p q ps qs h t ih=>
  rw[bg,bg];refine .cons ?_ ih;obtain⟨h1,h2⟩:=h;by_cases e:p.1=k
  ·rw[if_pos e,if_pos (h1.symm.trans e)];exact⟨h1,ry⟩
  ·rw[if_neg e,if_neg (fun z=>e (h1.trans z))];exact⟨h1,h2⟩
theorem KV.put {kvs:List (κ×V)}{vs:List (κ×Value)}(r:KV kvs vs)(k:κ){y:V}{u:Value}(ry:RelV y u):KV (putK kvs k y) (stored vs k u):=by
 unfold putK stored;rw[r.any k];by_cases e:(vs.any fun kv=>decide (kv.1=k))=true
 ·rw[if_pos e,if_pos e];exact r.repl k ry
 ·rw[if_neg e,if_neg e];exact Paired.snoc r ⟨rfl,ry⟩
theorem KV.drop {kvs:List (κ×V)}{vs:List (κ×Value)}(r:KV kvs vs)(k:κ):KV (zj0 kvs k) (without vs k):=by
 unfold KV at r ⊢;unfold zj0 without
 induction r with
 |nil=>exact .nil
 | @cons p q ps qs h t ih=>
  obtain⟨h1,h2⟩:=h;rw[List.filter_cons,List.filter_cons];by_cases e:p.1=k
  ·have a:¬decide (p.1≠k)=true:=by simp[e]
   have b:¬decide (q.1≠k)=true:=by simp[h1.symm.trans e]
   rw[if_neg a,if_neg b];exact ih
  ·have e':¬q.1=k:=fun z=>e (h1.trans z);have a:decide (p.1≠k)=true:=by simp[e]
   have b:decide (q.1≠k)=true:=by simp[e']
   rw[if_pos a,if_pos b];exact .cons ⟨h1,h2⟩ ih
theorem KV.keys {kvs:List (κ×V)}{vs:List (κ×Value)}(r:KV kvs vs):kvs.map (·.1)=vs.map (·.1):=by
 unfold KV at r
 induction r with
 |nil=>rfl
 |cons h t ih=>rw[bg,bg,ih,h.1]
theorem KV.length {kvs:List (κ×V)}{vs:List (κ×Value)}(r:KV kvs vs):kvs.length=vs.length:=Paired.length r
end
theorem z7a {P:am}{w:World}{k:Key}{u:Value}(r:RelV (kV k) u):(z07 P w).is k u=true:=by
 cases k with
 |inl i=>obtain⟨t,e⟩:=(show ∃t,u=Value.int i t from r);subst e;exact z53 P w i t
 |inr x=>obtain⟨t,e⟩:=(show ∃t,u=Value.str x t from r);subst e;exact z56 P w x t
theorem z4q {P:am}{w:World}:∀{ks:List Key} {us:List Value},Vals (ks.map kV) us->ItemsAre (z07 P w) ks us
 | [],_,r=>by rw[List.map_nil]at r;cases r;exact .nil
 |k::ks,_,r=>by
  rw[bg]at r;cases r with
  |cons h t=>exact .cons (z7a h) (z4q t)
abbrev KT (H:Hp):List (List Key×V)->List (List Key×Addr×Value)->Prop:=i5 fun p q=>p.1=q.1/\H q.2.1=some (.tup (p.1.map kV))/\RelV p.2 q.2.2
theorem KT.val {H:Hp}{kvs:List (List Key×V)}{xs:List (List Key×Addr×Value)}(r:KT H kvs xs)(k:List Key):RelO (valV kvs k) ((atKey xs k).map (·.2)):=by
 induction r with
 |nil=>exact True.intro
 | @cons p q ps qs h t ih=>
  obtain⟨h1,_,h2⟩:=h;by_cases e:p.1=k
  ·have e':q.1=k:=h1.symm.trans e;have b:atKey (q::qs) k=some q.2:=by simp[atKey,gq,e']
   rw[z2g e,b];exact h2
  ·have e':¬q.1=k:=fun z=>e (h1.trans z);have b:atKey (q::qs) k=atKey qs k:=by simp[atKey,gq,e']
   rw[z2d e,b];exact ih
theorem KT.repl {H:Hp}{kvs:List (List Key×V)}{xs:List (List Key×Addr×Value)}(r:KT H kvs xs)(k:List Key){y:V}{u:Value}(ry:RelV y u):
  KT H (kvs.map fun kv=>if kv.1=k then(kv.1,y)else kv) (xs.map (putAt k u)):=by
 induction r with
 |nil=>exact .nil
 | @cons p q ps qs h t ih=>
  rw[bg,bg];refine .cons ?_ ih;obtain⟨h1,h2,h3⟩:=h;unfold putAt;by_cases e:p.1=k
  ·rw[if_pos e,if_pos (h1.symm.trans e)];exact⟨h1,h2,ry⟩
  ·rw[if_neg e,if_neg (fun z=>e (h1.trans z))];exact⟨h1,h2,h3⟩
theorem KT.put {H:Hp}{kvs:List (List Key×V)}{xs:List (List Key×Addr×Value)}(r:KT H kvs xs)(k:List Key){b:Addr}{y:V}{u:Value}(hb:H b=some (.tup (k.map kV)))(ry:RelV y u):
  KT H (putK kvs k y) (storedH xs k b u):=by
 have e:(kvs.any fun kv=>decide (kv.1=k))=(atKey xs k).isSome:=by rw[z5t,(r.val k).isSome_eq,f8]
 unfold putK storedH;rw[e];by_cases q:(atKey xs k).isSome=true
 ·rw[if_pos q,if_pos q];exact r.repl k ry
 ·rw[if_neg q,if_neg q];exact Paired.snoc r ⟨rfl,hb,ry⟩
theorem KT.keeps {H H':Hp}{kvs:List (List Key×V)}{xs:List (List Key×Addr×Value)}(r:KT H kvs xs)(ht:∀b ys,H b=some (.tup ys)->H' b=some (.tup ys)):KT H' kvs xs:=Paired.mapP r fun _ _ z=>⟨z.1,ht _ _ z.2.1,z.2.2⟩
section
variable {P:am}{w:World}{H:Hp}{h:Heap}{a:Addr}
theorem zgb {u:HO}(ok:HOk P w H h)(e:Rd H a u):z0i P w H h a u:=e.ok ok
theorem z4n {kvs:List (Key×V)}(ok:HOk P w H h)(e:Rd H a (.dK kvs)):kvs.length<=ah/\(a==ez)=false/\∃vs,KV kvs vs/\h.DictOf (z07 P w) a vs:=show z0i P w H h a (.dK kvs)from zgb ok e
theorem zgs {kvs:List (Key×V)}(ok:HOk P w H h)(e:H a=some (.dK kvs)):kvs.length<=ah/\(a==ez)=false/\∃vs,KV kvs vs/\h.DictOf (z07 P w) a vs:=z4n ok (.inl e)
theorem z3c {ks:List Key}(ok:HOk P w H h)(e:H a=some (.tup (ks.map kV))):(ke (z07 P w)).is h ks a:=by obtain⟨_,its,r,n,h1⟩:=(show z0i P w H h a (.tup (ks.map kV))from ok a _ e);exact⟨_,its.toArray,n,h1,rfl,rfl,by simpa using z4q r⟩
theorem z5c {kvs:List (List Key×V)}(ok:HOk P w H h)(e:Rd H a (.dT kvs)):kvs.length<=ah/\(a==ez)=false/\
  ∃xs,KT H kvs xs/\h.DictOfH (ke (z07 P w)) a xs:=by
 obtain⟨z,y,xs,r,o,es,ep,h1,h2,h3,h4,h5⟩:=(show z0i P w H h a (.dT kvs)from zgb ok e);refine⟨z,y,xs,r,o,es,ep,h1,h2,h3,h4,fun x hx=>?_,h5⟩
 have all:∀{l:List (List Key×V)} {m:List (List Key×Addr×Value)},KT H l m->∀x∈m,(ke (z07 P w)).is h x.1 x.2.1:=by
  intro l m q
  induction q with
  |nil=>intro x hx;exact nomatch hx
  | @cons p q ps qs hq t ih=>
   intro x hx;rcases a9.mp hx with e|hx
   ·subst e;exact z3c ok (by rw[<-hq.1];exact hq.2.1)
   ·exact ih x hx
 exact all r x hx
theorem zjy {kvs:List (List Key×V)}(ok:HOk P w H h)(e:H a=some (.dT kvs)):kvs.length<=ah/\(a==ez)=false/\∃xs,KT H kvs xs/\h.DictOfH (ke (z07 P w)) a xs:=z5c ok (.inl e)
end
def DGet (H:Hp)(a:Addr)(y:V)(r:Option V):Prop:=(∃kvs k,Rd H a (.dK kvs)/\y=kV k/\r=valV kvs k)\/∃kvs k b,Rd H a (.dT kvs)/\y=.ref b/\H b=some (.tup (k.map kV))/\r=valV kvs k
def DPut (H:Hp)(a:Addr)(y v:V)(H':Hp):Prop:=
 (∃kvs k,H a=some (.dK kvs)/\y=kV k/\kvs.length<ah/\H'=upd H a (.dK (putK kvs k v)))\/
 ∃kvs k b,H a=some (.dT kvs)/\y=.ref b/\H b=some (.tup (k.map kV))/\kvs.length<ah/\H'=upd H a (.dT (putK kvs k v))
theorem DGet.k {H:Hp}{a:Addr}{kvs:List (Key×V)}{k:Key}(e:H a=some (.dK kvs)):DGet H a (kV k) (valV kvs k):=.inl ⟨kvs,k,.inl e,rfl,rfl⟩
theorem DGet.t {H:Hp}{a b:Addr}{kvs:List (List Key×V)}{k:List Key}(e:H a=some (.dT kvs))(eb:H b=some (.tup (k.map kV))):DGet H a (.ref b) (valV kvs k):=.inr ⟨kvs,k,b,.inl e,rfl,eb,rfl⟩
theorem DPut.k {H:Hp}{a:Addr}{kvs:List (Key×V)}{k:Key}{v:V}(e:H a=some (.dK kvs))(hl:kvs.length<ah):DPut H a (kV k) v (upd H a (.dK (putK kvs k v))):=.inl ⟨kvs,k,e,rfl,hl,rfl⟩
theorem DPut.t {H:Hp}{a b:Addr}{kvs:List (List Key×V)}{k:List Key}{v:V}(e:H a=some (.dT kvs))(eb:H b=some (.tup (k.map kV)))(hl:kvs.length<ah): DPut H a (.ref b) v (upd H a (.dT (putK kvs k v))):=.inr ⟨kvs,k,b,e,rfl,eb,hl,rfl⟩
section
variable {X:Cx}{pins:List (Addr×Obj)}{σ:St}{H:Hp}{s:aa}{a:Addr}{y v:V}{u r:Value}{o:Option V}{A:bz}{E:Value->aa->Prop}
theorem Inv.big (I:Inv X pins σ H s):ez<s.heap.objs.size:=by have h:bc<s.heap.objs.size:=(I.mod.glob.keeps I.bk).lt;exact kr (by decide) h
theorem z4y {Q:Value->aa->Prop}(hu:A.units+1<cLine)(I:Inv X pins σ H s)(g:DGet H a y (some v))(ry:RelV y u)(h:∀w' s',Inv X pins σ H s'->RelV v w'->Q w' s'):
  wpAny (model X.prog X.w) A (ku (.ref a) u) Q E s:=by
 rcases g with⟨kvs,k,e,ey,l⟩|⟨kvs,k,b,e,ey,eb,l⟩
 ·subst ey;obtain⟨z,hd,vs,rel,dd⟩:=z4n I.hok e;obtain⟨w',hw,rw'⟩:=RelO.some_of (v:=v) (o:=l9 vs k) (by rw[l];exact rel.val k);exact wpAny_getItem_of (z7a ry) dd.mapOf hw (h w' _ (I.tok _) rw')
 ·subst ey;cases(show u=Value.ref b from ry);obtain⟨z,hd,xs,rel,dd⟩:=z5c I.hok e;obtain⟨w',hw,rw'⟩:=RelO.some_of (v:=v) (o:=(atKey xs k).map (·.2)) (by rw[l];exact rel.val k);obtain⟨p,hp,hp2⟩:=cf.mp hw;refine wpAny_getItem_heap (gm hu) (z3c I.hok eb) dd hp ?_;rw[hp2];exact h w' _ (I.tok _) rw'
theorem d_in {Q:Value->aa->Prop}(hu:A.units+1<cLine)(I:Inv X pins σ H s)(g:DGet H a y o)(ry:RelV y u)(h:∀s',Inv X pins σ H s'->Q (.bool o.isSome) s'):
  wpAny (model X.prog X.w) A (bt .In u (.ref a)) Q E s:=by
 rcases g with⟨kvs,k,e,ey,l⟩|⟨kvs,k,b,e,ey,eb,l⟩
 ·subst ey;obtain⟨z,hd,vs,rel,dd⟩:=z4n I.hok e;refine wpAny_in_of (z7a ry) hd dd.mapOf ?_;rw[<-(rel.val k).isSome_eq,<-l];exact h _ (I.tok _)
 ·subst ey;cases(show u=Value.ref b from ry);obtain⟨z,hd,xs,rel,dd⟩:=z5c I.hok e;refine wpAny_in_heap (gm hu) (z3c I.hok eb) hd dd ?_;have q:=(rel.val k).isSome_eq;rw[f8]at q;rw[<-q,<-l];exact h _ (I.tok _)
theorem zds {Q:Value->aa->Prop}(hu:A.units+1<cLine)(I:Inv X pins σ H s)(g:DGet H a y o)(ry:RelV y u)(h:∀s',Inv X pins σ H s'->Q (.bool (!o.isSome)) s'):
  wpAny (model X.prog X.w) A (bt .NotIn u (.ref a)) Q E s:=by
 rcases g with⟨kvs,k,e,ey,l⟩|⟨kvs,k,b,e,ey,eb,l⟩
 ·subst ey;obtain⟨z,hd,vs,rel,dd⟩:=z4n I.hok e;refine wpAny_notIn_of (z7a ry) hd dd.mapOf ?_;rw[<-(rel.val k).isSome_eq,<-l];exact h _ (I.tok _)
 ·subst ey;cases(show u=Value.ref b from ry);obtain⟨z,hd,xs,rel,dd⟩:=z5c I.hok e;refine wpAny_notIn_heap (gm hu) (z3c I.hok eb) hd dd ?_;have q:=(rel.val k).isSome_eq;rw[f8]at q;rw[<-q,<-l];exact h _ (I.tok _)
theorem z93 {h':Heap}{t':Nat}{ob:HO}(I:Inv X pins σ H s)(mu:Mut (H a))(hs:gj a s.heap h')(he:∃q,h'.get? a=some q)(new:z0i X.prog X.w (upd H a ob) h' a ob):
  Inv X pins σ (upd H a ob) {s with heap:=h',toks:=t'}:=
 I.write (x:=a) (e:=a) mu (.inl rfl) (fun b q hb z=>(hs.2 b hb).trans z) he new
theorem zhb {P:am}{w:World}{H':Hp}{h':Heap}{kvs:List (Key×V)}{vs:List (Key×Value)}(z:kvs.length<=ah)(hd:(a==ez)=false)(rel:KV kvs vs)(dd:h'.DictOf (z07 P w) a vs): z0i P w H' h' a (.dK kvs):=⟨z,hd,vs,rel,dd⟩
theorem z7p {H':Hp}{Q:Unit->aa->Prop}(hu:A.units+1<cLine)(I:Inv X pins σ H s)(g:DPut H a y v H')(ry:RelV y u)(rv:RelV v r)(h:∀s',Inv X pins σ H' s'->Q () s'):
  wpAny (model X.prog X.w) A (setItem (.ref a) u r) Q E s:=by
 rcases g with⟨kvs,k,e,ey,l,eH⟩|⟨kvs,k,b,e,ey,eb,l,eH⟩
 ·subst ey eH;obtain⟨z,hd,vs,rel,dd⟩:=zgs I.hok e;have hz:vs.length<=ah:=by rw[<-rel.length];exact z
  have hl:(putK kvs k v).length<=ah:=by have:=z2t kvs k v;omega
  refine wpAny_setItem_pairs (hsz:=hz) (z7a ry) dd fun h' dd' hs=>h _ ?_;have he:∃q,h'.get? a=some q:=let⟨q,_,_,hq,_⟩:=dd';⟨q,hq⟩;exact z93 I (by rw[e];exact True.intro) hs he (zhb hl hd (rel.put k rv) dd')
 ·subst ey eH;cases(show u=Value.ref b from ry);obtain⟨z,hd,xs,rel,dd⟩:=zjy I.hok e;have hz:xs.length<=ah:=by rw[<-Paired.length rel];exact z
  have hl:(putK kvs k v).length<=ah:=by have:=z2t kvs k v;omega
  refine wpAny_setItem_heap (hsz:=hz) (gm hu) (z3c I.hok eb) dd fun h' dd' hs=>h _ ?_;obtain⟨q,es,ep,hq,h2,h3,h4,_,h5⟩:=dd';refine z93 I (by rw[e];exact True.intro) hs ⟨q,hq⟩ ⟨hl,hd,_,(rel.put k eb rv).keeps fun c ys ec=>?_,q,es,ep,hq,h2,h3,h4,h5⟩;rw[z01 (zmz ec e (fun z=>nomatch z))];exact ec
end
section
variable {X:Cx}{pins:List (Addr×Obj)}{σ:St}{H:Hp}{s:aa}{a:Addr}{kvs:List (Key×V)}{k:Key}{u:Value}{A:bz}{E:Value->aa->Prop}
theorem zmp {Q:Value->aa->Prop}(I:Inv X pins σ H s)(e:Rd H a (.dK kvs))(h:∀t s',Inv X pins σ H s'->Q (.int kvs.length t) s'):wpAny (model X.prog X.w) A (call (.builtin "len") [.ref a]) Q E s:=by obtain⟨z,hd,vs,rel,dd⟩:=z4n I.hok e;refine call_len_dict hd dd (by rw[<-rel.length];rw[dq]at z;omega) ?_;rw[<-rel.length];exact h _ _ (I.tok _)
end
def NoSl (i:Expr):Prop:=∀ov iv,lx i false ov iv=operate [ov,iv] (ku ov iv)
theorem zdv {prog:am}{w:World}{A:bz}{E:Value->aa->Prop}{s:aa}{env:Env}{value slice:Expr}{pos:Pos}{T id:String}{Q:Value->aa->Prop}
  (hl:ow (.type T) "__getitem__"=pure (some (.builtin id))) (hs:NoSl slice)
  (h:wpAny (model prog w) A (eval value env) (fun o s₁=>wpAny (model prog w) A (eval slice env) (fun i s₂=>s₂.TypeIs o T/\wpAny (model prog w) A (ku o i) Q E s₂) E s₁) E s):
  wpAny (model prog w) A (eval (.Subscript value slice pos) env) Q E s:=by
 refine ox (gk h (fun o s₁ h₁=>gk h₁ (fun i s₂ h₂=>?_) fun _ _ x=>x) fun _ _ x=>x);obtain⟨hT,h₂⟩:=h₂;unfold mq;refine ag ?_;rw[getitemInPython_of_ne hT.not_modules];refine ag (wpAny_specialOf hT hl ?_);have fin:wpAny (model prog w) A (lx slice false o i) (fun r s₃=>wpAny (model prog w) A (letTemporaryGo value o r>>=fun _=>pure r) Q E s₃) E s₂:=by rw[hs o i];exact wpAny_operating (gk h₂ (fun r s₃ h₃=>ag (wpAny_letTemporaryGo (a0 h₃))) fun _ _ x=>x)
 first
  |exact a0 (ag fin)
  |exact ag (a0 (ag fin))
  |exact ag fin
theorem z2v {X:Cx}{pins:List (Addr×Obj)}{σ:St}{H:Hp}{s:aa}{a:Addr}{y:V}{o:Option V}(I:Inv X pins σ H s)(g:DGet H a y o):s.TypeIs (.ref a) "dict":=by
 rcases g with⟨kvs,k,e,_,_⟩|⟨kvs,k,b,e,_,_,_⟩
 ·obtain⟨_,_,vs,_,dd⟩:=z4n I.hok e;exact dd.typeIs
 ·obtain⟨_,_,xs,_,dd⟩:=z5c I.hok e;exact dd.typeIs
def zgf (td ty:TE):TE:=fun σ H Q=>td σ H fun x H1=>ty σ H1 fun y H2=>∃a v,x=.ref a/\DGet H2 a y (some v)/\Q v H2
section
variable {X:Cx}{o i e value:Expr}{pos pos' tpos:Pos}{td ty tv:TE}
theorem zd8 (hu:X.A.units+1<cLine)(ho:PE X o td)(hi:PE X i ty)(hs:NoSl i):PE X (.Subscript o i pos) (zgf td ty):=by intro pins s σ H Q I h;refine zdv PySem.F.slot_dict_getitem.lookup hs (thn (ho pins s σ H _ I h) fun u s1 ⟨x,H1,I1,rx,q1⟩=>thn (hi pins s1 σ H1 _ I1 q1) fun iv s2 ⟨y,H2,I2,ry,a,v,ex,g,q2⟩=>?_);subst ex;obtain rfl:u=Value.ref a:=rx;exact⟨z2v I2 g,z4y hu I2 g ry fun w' s3 I3 rw'=>⟨v,H2,I3,rw',q2⟩⟩
end
theorem zb3 {P:am}{w:World}{H:Hp}(h:Heap)(hb:ez<h.objs.size):z0i P w H (h.push {cls:=.type "dict",data:=.dict #[]}) h.objs.size (.dK []):=⟨cj _,beq_eq_false_iff_ne.mpr (Ne.symm (cg hb)),[],.nil,Heap.DictOf.new h⟩
def zcn:TE:=fun _ H Q=>∀p,H p=none->Q (.ref p) (upd H p (.dK []))
section
variable {X:Cx}{pos:Pos}
theorem z66:PE X (.Dict [] [] pos) zcn:=fun pins s σ H Q I h=>wpAny_Dict_empty ⟨.ref s.heap.objs.size,_,I.laid (a:=s.heap.objs.size) (o:=.dK []) (t':=s.toks) (fun _ _ q=>au _ q) (ak _) (zb3 s.heap I.big),rfl,h _ (I.hok.fresh (ak _))⟩
end
structure M1 (X:Cx)(o:Expr)(m:Str)(apos:Pos)(e:Expr)(cpos:Pos):Prop where
 base:gc o m X.env (eval o X.env)=eval o X.env
 few:((fi cpos (bv [e] X.env)).all (fun x=> !x.1)&&(kh cpos (ja [] X.env)).all (fun x=>x.1.isSome) &&decide (([e]:List Expr).length+([]:List i3).length+(if([]:List i3).isEmpty then 0 else 1)<30))=true
 line:(apos.endLine==cpos.line)=true
 trees:fi cpos (bv [e] X.env)=[(false,eval e X.env)]
structure M2 (X:Cx)(o:Expr)(m:Str)(apos:Pos)(e f:Expr)(cpos:Pos):Prop where
 base:gc o m X.env (eval o X.env)=eval o X.env
 few:((fi cpos (bv [e,f] X.env)).all (fun x=> !x.1)&&(kh cpos (ja [] X.env)).all (fun x=>x.1.isSome) &&decide (([e,f]:List Expr).length+([]:List i3).length+(if([]:List i3).isEmpty then 0 else 1)<30))=true
 line:(apos.endLine==cpos.line)=true
 trees:fi cpos (bv [e,f] X.env)=[(false,eval e X.env),(false,eval f X.env)]
def IsD (H:Hp)(a:Addr):Prop:=(∃kvs,Rd H a (.dK kvs))\/∃kvs,Rd H a (.dT kvs)
theorem zia {X:Cx}{pins:List (Addr×Obj)}{σ:St}{H:Hp}{s:aa}{a:Addr}(I:Inv X pins σ H s)(d:IsD H a):
  s.TypeIs (.ref a) "dict"/\(∀b,Value.ref a=.ref b->∃ob,s.heap.get? b=some ob/\ob.dict=none)/\(a==ez)=false:=by
 rcases d with⟨kvs,e⟩|⟨kvs,e⟩
 ·obtain⟨_,hd,vs,_,dd⟩:=z4n I.hok e;refine⟨dd.typeIs,fun b q=>?_,hd⟩;cases q;obtain⟨ob,_,_,h1,h2,_⟩:=dd;exact⟨ob,h1,h2.2.1⟩
 ·obtain⟨_,hd,xs,_,dd⟩:=z5c I.hok e;refine⟨dd.typeIs,fun b q=>?_,hd⟩;cases q;obtain⟨ob,_,_,h1,h2,_⟩:=dd;exact⟨ob,h1,h2.2.1⟩
section
variable {X:Cx}{pins:List (Addr×Obj)}{σ:St}{H:Hp}{s:aa}{a:Addr}{y d:V}{u r:Value}{o:Option V}{A:bz}{E:Value->aa->Prop}
theorem zhk {Q:Value->aa->Prop}(hu:A.units+1<cLine)(I:Inv X pins σ H s)(g:DGet H a y o)(ry:RelV y u)(h:∀w' s',Inv X pins σ H s'->RelV (o.getD .non) w'->Q w' s'):
  wpAny (model X.prog X.w) A (call (.builtin "dict.get") [.ref a,u]) Q E s:=by
 rcases g with⟨kvs,k,e,ey,l⟩|⟨kvs,k,b,e,ey,eb,l⟩
 ·subst ey;obtain⟨z,hd,vs,rel,dd⟩:=z4n I.hok e;refine call_meetsIn PySem.F.slot_dict_get dd.typeIs PySem.F.entry_dict_get (PySem.F.args_dict_get_2 _ _) (meets_dict_get (z07 X.prog X.w) a (z7a ry) hd) ⟨_,dd.mapOf,h _ _ (I.tok _) ?_⟩;rw[l];exact(rel.val k).getD rfl
 ·subst ey;cases(show u=Value.ref b from ry);obtain⟨z,hd,xs,rel,dd⟩:=z5c I.hok e;refine call_meetsIn PySem.F.slot_dict_get dd.typeIs PySem.F.entry_dict_get (PySem.F.args_dict_get_2 _ _) (meetsH_dict_get (ke (z07 X.prog X.w)) a b hd) ⟨gm hu,k,xs,z3c I.hok eb,dd,h _ _ (I.tok _) ?_⟩;rw[l];exact(rel.val k).getD rfl
end
def zcp (td ty:TE):TE:=fun σ H Q=>td σ H fun x H1=>∃a,x=.ref a/\IsD H1 a/\ty σ H1 fun y H2=>∃o,DGet H2 a y o/\Q (o.getD .non) H2
section
variable {X:Cx}{o e f:Expr}{apos cpos:Pos}{td ty tx:TE}
theorem zbc (hu:X.A.units+1<cLine)(ho:PE X o td)(he:PE X e ty)(m:M1 X o "get" apos e cpos):PE X (.Call (.Attribute o "get" apos) [e] [] cpos) (zcp td ty):=by intro pins s σ H Q I h;refine wpAny_Call_method m.base m.few m.line PySem.F.plainAttrs_dict PySem.F.slot_dict_get PySem.F.type_dict_get (thn (ho pins s σ H _ I h) fun u s1 ⟨x,H1,I1,rx,a,ex,d,q1⟩=>?_);subst ex;obtain rfl:u=Value.ref a:=rx;obtain⟨t1,t2,_⟩:=zia I1 d;refine⟨t1,t2,?_⟩;rw[m.trees];refine jd rfl (g8 (i6 (thn (he pins s1 σ H1 _ I1 q1) fun iv s2 ⟨y,H2,I2,ry,ov,g,q2⟩=>ni ?_)));exact zhk hu I2 g ry fun w' s3 I3 rw'=>⟨_,H2,I3,rw',q2⟩
end
section
variable {X:Cx}{pins:List (Addr×Obj)}{σ:St}{H:Hp}{s:aa}{a:Addr}{kvs:List (Key×V)}{A:bz}{E:Value->aa->Prop}
end
section
variable {X:Cx}{pins:List (Addr×Obj)}{σ:St}{H:Hp}{s:aa}{a:Addr}{y:V}{u:Value}{A:bz}{E:Value->aa->Prop}
end
end L2
namespace HT
open PySem PyProof.Rows
section
open PySem.SeqAt
open PySem.AutoSeq1 (wpAny_loadPart')
open PySem.MeetsSeq PySem.MeetsSeq2 PySem.MeetsSeq3
end
section
variable {prog:am}{w:World}{A:bz}{E:Value->aa->Prop}{s:aa}
theorem cat_tup {t b:Addr}{vs ws:List Value}{Q:Value->aa->Prop}(ht:IsTup s.heap t vs.toArray)(hb:IsTup s.heap b ws.toArray)(hv:vs≠[])
  (h1:ws=[]->Q (.ref t) s) (h2:ws≠[]->Q (.ref s.heap.objs.size) {s with heap:=s.heap.push {cls:=.type "tuple",data:=.seq (vs++ws).toArray}})
  (hsz:vs.length+ws.length<=ah):wpAny (model prog w) A (d8 .Add (.ref t) (.ref b)) Q E s:=by
 obtain⟨⟨cls,dd,data,sl⟩,ho,hc,n,hd⟩:=id ht;obtain⟨⟨cls2,dd2,data2,sl2⟩,ho2,hc2,n2,hd2⟩:=id hb;simp only at hc hd hc2 hd2;subst hc hd hc2 hd2;have e:vs.toArray++ws.toArray=(vs++ws).toArray:=by simp
 by_cases hw:ws=[]
 ·exact ky ⟨_,ho,rfl⟩ ⟨_,ho2,rfl⟩ ki mr PySem.F.slot_tuple_add PySem.F.entry_tuple_add (PySem.F.args_tuple_add_2 _ _) (tuple_addW1 t b vs.toArray ws.toArray n n2 dd dd2 sl sl2 (by simpa using hv) (by simp[hw])) ⟨ho,ho2,h1 hw⟩
 ·refine ky ⟨_,ho,rfl⟩ ⟨_,ho2,rfl⟩ ki mr PySem.F.slot_tuple_add PySem.F.entry_tuple_add (PySem.F.args_tuple_add_2 _ _)
   (tuple_addW2 t b vs.toArray ws.toArray n n2 dd dd2 sl sl2 (by simpa using hv) (by simpa using hw) (by rw[ae,ae];exact hsz)) ⟨ho,ho2,?_⟩
  rw[e];exact h2 hw
def sIx (n d:Nat):Option Int->Nat
 |none=>d
 |some v=>if v<0 then(v+(n:Int)).toNat else min v.toNat n
theorem sIx_le (n d:Nat)(hd:d<=n)(o:Option Int):sIx n d o<=n:=by
 cases o with
 |none=>exact hd
 |some v=>
  show(if v<0 then(v+(n:Int)).toNat else min v.toNat n)<=n;by_cases hv:v<0
  ·rw[if_pos hv];omega
  ·rw[if_neg hv];exact Nat.min_le_right _ _
theorem z8l (v:Int)(n d:Nat):(if v<0 then max (v+(n:Int)) 0 else min v (n:Int))=((sIx n d (some v):Nat):Int):=by
 show(if v<0 then max (v+(n:Int)) 0 else min v (n:Int))=(((if v<0 then(v+(n:Int)).toNat else min v.toNat n):Nat):Int);by_cases hv:v<0
 ·simp only[if_pos hv];omega
 ·simp only[if_neg hv];omega
theorem z6w (lo hi:Option Int)(n:Nat):ik lo hi 1 (n:Int)=(((sIx n 0 lo:Nat):Int),((sIx n n hi:Nat):Int)):=by
 have h1:¬((1:Int)<0):=by omega
 unfold ik;simp only[h1,if_false];refine Prod.ext ?_ ?_
 ·cases lo with
  |none=>rfl
  |some v=>exact z8l v n 0
 ·cases hi with
  |none=>rfl
  |some v=>exact z8l v n n
theorem z7f (i j:Nat):fm (i:Int) (j:Int) 1=j-i:=by
 unfold fm;have h1:(1:Int)>0:=by omega
 simp only[h1,if_true,Int.ediv_one];split<;>omega
theorem z3a {v:Value}{o:Option Int}{Q:Option Int->aa->Prop}(p:my v o)(h:Q o s):wpAny (model prog w) A (Builtin.Slice.slicePartIndex v) Q E s:=by
 cases p with
 |none=>exact slicePart_none h
 |int i t=>exact slicePart_int h
theorem z2c {sl:Addr}{vl vu:Value}{lo hi:Option Int}{n:Nat}{Q:Int×Int×Nat->aa->Prop}(hs:s.heap.IsSliceOf sl vl vu .none)(pl:my vl lo)(pu:my vu hi)
  (h:Q (((sIx n 0 lo:Nat):Int),1,sIx n n hi-sIx n 0 lo) s):wpAny (model prog w) A (j2 (.ref sl) (pure (n:Int))) Q E s:=by
 obtain⟨os,hos,hcs,hds⟩:=id hs;unfold j2 Builtin.Slice.sliceFields;refine ag (ag (oh hos hds (x:=vl) rfl (ag (oh hos hds (x:=vu) rfl (ag (oh hos hds (x:=.none) rfl (a0 ?_)))))));refine ag (slicePart_none ?_);show wpAny _ _ (if((1:Int)==0)=true then _ else _) _ _ s;rw[if_neg (by decide)];refine ag (z3a pl (ag (z3a pu (ag (a0 ?_)))));show wpAny _ _ (match ik lo hi 1 (n:Int)with|(lo,hi)=>pure (lo,(1:Int),fm lo hi 1)) _ _ s;rw[z6w lo hi n];show wpAny _ _ (pure (((sIx n 0 lo:Nat):Int),(1:Int),fm ((sIx n 0 lo:Nat):Int) ((sIx n n hi:Nat):Int) 1)) _ _ s;rw[z7f];exact a0 h
theorem zbd (xs:Array Value)(i k:Nat):((cr k).filterMap fun(m:Nat)=>xs[((i:Int)+(m:Int)*1).toNat]?).toArray=((xs.toList.drop i).take k).toArray:=by
 have e:(fun(m:Nat)=>xs[((i:Int)+(m:Int)*1).toNat]?)=fun m=>xs[i+m]?:=by
  funext m
  have:((i:Int)+(m:Int)*1).toNat=i+m:=by omega
  rw[this]
 rw[e];have:=pick_run xs i k;rw[List.filterMap_map]at this;have e2:((fun x=>xs[x]?)∘fun x=>i+x)=fun m=>xs[i+m]?:=rfl;rw[e2]at this;rw[this]
theorem getItem_tuple_cut {t sl:Addr}{items:Array Value}{vl vu:Value}{lo hi:Option Int}{Q:Value->aa->Prop}(ht:IsTup s.heap t items)(hs:s.heap.IsSliceOf sl vl vu .none)(pl:my vl lo)(pu:my vu hi)
  (hw:¬(sIx items.size 0 lo=0/\sIx items.size items.size hi=items.size))
  (h:Q (.ref s.heap.objs.size) {s with heap:=s.heap.push {cls:=.type "tuple",data:=.seq ((items.toList.drop (sIx items.size 0 lo)).take (sIx items.size items.size hi-sIx items.size 0 lo)).toArray}})
  (hsz:items.size<=ah):wpAny (model prog w) A (ku (.ref t) (.ref sl)) Q E s:=by
 have htake:sizeOk (.seq ((items.toList.drop (sIx items.size 0 lo)).take (sIx items.size items.size hi-sIx items.size 0 lo)).toArray):=by show((items.toList.drop (sIx items.size 0 lo)).take (sIx items.size items.size hi-sIx items.size 0 lo)).toArray.size<=ah;rw[ae,gf,ij,dw];omega
 have hj:sIx items.size items.size hi<=items.size:=sIx_le _ _ (ak _) hi;obtain⟨os,hos,hcs,hds⟩:=id hs;have hTs:s.TypeIs (.ref sl) "slice":=⟨os,hos,hcs⟩;unfold ku
 try with_reducible refine j6 ?_
 first|refine ag (a0 ?_)|skip
 refine ag (wpAny_sequenceKey ht.typeIs (by decide) ?_);refine ag (wpAny_callSpecial?_slot (name:=Str.ofString "__getitem__") ht.typeIs PyProof.Rows.slot_tuple_getitem (wpAny_call_entry PyProof.Rows.slot_tuple_getitem ht.typeIs entry_tuple_getitem ?_ (args_tuple_getitem _ _)));show wpAny _ _ (Builtin.Tuple.tupleItemsOf (.ref t)>>=_) _ _ s;refine ag (tupleItemsOf_ ht ?_);refine ag (wpAny_typeOf hTs ?_);rw[if_pos (by decide)];refine ag (z2c hs pl pu ?_);have hno:¬((((sIx items.size 0 lo:Nat):Int)==0&&(1:Int)==1&&(sIx items.size items.size hi-sIx items.size 0 lo)==items.size)=true):=by intro q;rw[aj,aj]at q;have q1:((sIx items.size 0 lo:Nat):Int)=0:=eq_of_beq q.1.1;have q2:sIx items.size items.size hi-sIx items.size 0 lo=items.size:=eq_of_beq q.2;exact hw ⟨by omega,by omega⟩
 show wpAny _ _ (if(((sIx items.size 0 lo:Nat):Int)==0&&(1:Int)==1&&(sIx items.size items.size hi-sIx items.size 0 lo)==items.size)=true then _ else _) _ _ s;rw[if_neg hno,zbd]
 first
  |exact ag (m:=ge _) (gv (a0 ⟨_,rfl,a0 h⟩) htake)
  |exact ag (m:=ge _) (gv (ag (a0 (a0 ⟨_,rfl,a0 h⟩))) htake)
  |exact ag (ag (m:=ge _) (gv (a0 (a0 ⟨_,rfl,a0 h⟩)) htake))
  |exact ag (ag (m:=ge _) (gv (a0 ⟨_,rfl,a0 h⟩) htake))
end
end HT
namespace L2
open PySem PySem.Spec PyProof.Rows
abbrev TO:=St->Hp->(Option Int->Hp->Prop)->Prop
def PO (X:Cx)(e:Option Expr)(t:TO):Prop:=∀(pins:List (Addr×Obj)) (s:aa) (σ:St) (H:Hp) (Q:Option Int->Hp->Prop),Inv X pins σ H s->t σ H Q->wpAny (model X.prog X.w) X.A (evalPart e X.env) (fun u s'=>∃o H',Inv X pins σ H' s'/\my u o/\Q o H') X.xe s
def zd0:TO:=fun _ H Q=>Q none H
def zmu (t:TE):TO:=fun σ H Q=>t σ H fun x H1=>∃i,x=.int i/\Q (some i) H1
section
variable {X:Cx}{e:Expr}{te:TE}{lo hi:Option Expr}{tl th:TO}{pos p2:Pos}
theorem zf0:PO X none zd0:=by intro pins s σ H Q I h;rw[evalPart_none];exact a0 ⟨none,H,I,.none,h⟩
theorem zdp (h:PE X e te):PO X (some e) (zmu te):=by intro pins s σ H Q I hw;rw[evalPart_some];refine thn (h pins s σ H _ I hw) fun u s1 ⟨x,H1,I1,r1,q1⟩=>?_;obtain⟨i,rfl,q⟩:=q1;obtain⟨t,rfl⟩:=r1;exact⟨some i,H1,I1,.int i t,q⟩
def SlR (X:Cx)(r:V->Option Int->Option Int->Hp->VK->Prop):Prop:=∀(pins:List (Addr×Obj)) (s:aa) (σ:St) (H:Hp) (x:V) (v vl vu:Value) (lo hi:Option Int) (sl:Addr) (Q:VK),Inv X pins σ H s->RelV x v->s.heap.IsSliceOf sl vl vu .none->my vl lo->my vu hi->r x lo hi H Q->∃T id,ow (.type T) "__getitem__"=pure (some (.builtin id))/\s.TypeIs v T/\wpAny (model X.prog X.w) X.A (ku v (.ref sl)) (EP X pins σ Q) X.xe s
theorem SlR.or {r r':V->Option Int->Option Int->Hp->VK->Prop}(h:SlR X r)(h':SlR X r'):SlR X (fun x lo hi H Q=>r x lo hi H Q\/r' x lo hi H Q):=by
 intro pins s σ H x v vl vu lo hi sl Q I rx hs pl pu q;rcases q with q|q
 ·exact h pins s σ H x v vl vu lo hi sl Q I rx hs pl pu q
 ·exact h' pins s σ H x v vl vu lo hi sl Q I rx hs pl pu q
def tSl (r:V->Option Int->Option Int->Hp->VK->Prop)(te:TE)(tl th:TO):TE:=fun σ H Q=>te σ H fun x H1=>tl σ H1 fun l H2=>th σ H2 fun u H3=>r x l u H3 Q
theorem zan {r:V->Option Int->Option Int->Hp->VK->Prop}(hr:SlR X r)(he:PE X e te)(hl:PO X lo tl)(hu:PO X hi th):PE X (.Subscript e (.Slice lo hi none p2) pos) (tSl r te tl th):=by intro pins s σ H Q I h;refine ox (thn (he pins s σ H _ I h) fun v s1 ⟨x,H1,I1,r1,q1⟩=>?_);refine wpAny_Slice (thn (hl pins s1 σ H1 _ I1 q1) fun vl s2 ⟨l,H2,I2,pl,q2⟩=>thn (hu pins s2 σ H2 _ I2 q2) fun vu s3 ⟨u,H3,I3,pu,q3⟩=>?_);rw[evalPart_none];refine a0 ?_;have I4:Inv X pins σ H3 {s3 with heap:=s3.heap.push {cls:=.type "slice",data:=.fields #[vl,vu,.none]}}:=I3.kept (t':=s3.toks) fun b ob q=>au _ q;obtain⟨T,id,hT,ht,hg⟩:=hr pins {s3 with heap:=s3.heap.push {cls:=.type "slice",data:=.fields #[vl,vu,.none]}} σ H3 x v vl vu l u s3.heap.objs.size Q I4 r1 (Heap.IsSliceOf.new ..) pl pu q3;show wpAny (model X.prog X.w) X.A (mq e (.Slice lo hi none p2) v (.ref s3.heap.objs.size)) (EP X pins σ Q) X.xe {s3 with heap:=s3.heap.push {cls:=.type "slice",data:=.fields #[vl,vu,.none]}};exact tail_any (ops:=[.ref s3.heap.objs.size,v]) ht hT hg (by with_unfolding_all rfl)
def cutV (xs:List V)(lo hi:Option Int):List V:=(xs.drop (HT.sIx xs.length 0 lo)).take (HT.sIx xs.length xs.length hi-HT.sIx xs.length 0 lo)
theorem z2s (xs:List V)(lo hi:Option Int):(cutV xs lo hi).length<=xs.length:=by unfold cutV;rw[gf,ij];omega
def rSlT (K:W.Frag):V->Option Int->Option Int->Hp->VK->Prop:=fun x lo hi H Q=>∃a xs,x=.ref a/\SqT K H a xs/\¬(HT.sIx xs.length 0 lo=0/\HT.sIx xs.length xs.length hi=xs.length)/\∀p,H p=none->Q (.ref p) (upd H p (.tup (cutV xs lo hi)))
theorem zfz:SlR X (rSlT X.K):=by
 intro pins s σ H x v vl vu lo hi sl Q I rx hs pl pu h;obtain⟨a,xs,rfl,hx,hw,q⟩:=h;cases rx;obtain⟨its,r,ht,hz⟩:=I.tuple hx;have hlen:its.toArray.size=xs.length:=by rw[ae];exact r.length.symm
 refine⟨"tuple",_,PyProof.Rows.slot_tuple_getitem.lookup,ht.typeIs,?_⟩;refine HT.getItem_tuple_cut ht hs pl pu (by rw[hlen];exact hw) ?_ (by rw[hlen];exact hz);rw[hlen];refine⟨.ref s.heap.objs.size,_,I.laid (t':=s.toks) (o:=.tup (cutV xs lo hi)) (fun b ob q=>au _ q) (ak _) ?_,rfl,q _ (I.hok.fresh (ak _))⟩;exact⟨cb (z2s xs lo hi) hz,_,(r.drop (HT.sIx xs.length 0 lo)).take (HT.sIx xs.length xs.length hi-HT.sIx xs.length 0 lo),TupN.new _ _⟩
def zfi (K:W.Frag):R2:=fun x y H Q=>∃a b xs ys,x=.ref a/\y=.ref b/\SqT K H a xs/\SqT K H b ys/\xs≠ []/\xs.length+ys.length<=ah/\(ys=[]->Q (.ref a) H)/\(ys≠[]->∀p,H p=none->Q (.ref p) (upd H p (.tup (xs++ys))))
theorem Vals.nil_iff {xs:List V}{us:List Value}(r:Vals xs us):us=[]↔xs=[]:=by
 cases r with
 |nil=>simp
 |cons _ _=>simp
theorem zed:OpR X (d8 .Add) (zfi X.K):=by intro pins s σ H x y v u Q I rx ry h;obtain⟨a,b,xs,ys,rfl,rfl,ha,hb,hx,hz,q1,q2⟩:=h;cases rx;cases ry;obtain⟨its,r1,p1,_⟩:=I.tuple ha;obtain⟨its2,r2,p2,_⟩:=I.tuple hb;refine HT.cat_tup p1 p2 (fun z=>hx (r1.nil_iff.mp z)) (fun z=>⟨.ref a,H,I,rfl,q1 (r2.nil_iff.mp z)⟩) (fun z=>?_) (by rw[<-r1.length,<-r2.length];exact hz);refine⟨.ref s.heap.objs.size,_,I.laid (t':=s.toks) (o:=.tup (xs++ys)) (fun b ob q=>au _ q) (ak _) ?_,rfl,q2 (fun w=>z (r2.nil_iff.mpr w)) _ (I.hok.fresh (ak _))⟩;exact⟨by rw[ba];exact hz,_,r1.append r2,TupN.new _ _⟩
end
def ixN (n:Nat)(i:Int):Option Nat:=if 0<=i then(if i<n then some i.toNat else none)else if -(n:Int)<=i then some (i+n).toNat else none
def atI {α:Type}(xs:List α)(i:Int):Option α:=(ixN xs.length i).bind fun j=>xs[j]?
theorem z9y {n:Nat}{i:Int}{j:Nat}(h:ixN n i=some j):og i n=some j/\j<n/\-(n:Int)<=i/\i<n:=by
 unfold ixN at h;by_cases h0:0<=i
 ·rw[if_pos h0]at h;by_cases h1:i<n
  ·rw[if_pos h1]at h;have e:i.toNat=j:=Option.some.inj h;exact⟨by rw[oi h0 h1,e],by omega,by omega,h1⟩
  ·rw[if_neg h1]at h;cases h
 ·rw[if_neg h0]at h;by_cases h1:-(n:Int)<=i
  ·rw[if_pos h1]at h;have e:(i+n).toNat=j:=Option.some.inj h;exact⟨by rw[nk (by omega) h1,e],by omega,h1,by omega⟩
  ·rw[if_neg h1]at h;cases h
theorem z54 {α:Type}{xs:List α}{i:Int}{v:α}(h:atI xs i=some v):∃j,og i xs.length=some j/\xs[j]?=some v/\j<xs.length/\-(xs.length:Int)<=i/\i<xs.length:=by
 unfold atI at h;cases e:ixN xs.length i with
 |none=>rw[e]at h;cases h
 |some j=>rw[e]at h;obtain⟨h1,h2,h3,h4⟩:=z9y e;exact⟨j,h1,h,h2,h3,h4⟩
def z7w (b:Expr):Prop:=∀o i,lx b false o i=operate [o,i] (ku o i)
def IxR (X:Cx)(r:R2):Prop:=∀(value slice:Expr) (pins:List (Addr×Obj)) (s:aa) (σ:St) (H:Hp) (x y:V) (v u:Value) (Q:VK),Inv X pins σ H s->RelV x v->RelV y u->r x y H Q->lx slice false v u=operate [v,u] (ku v u)->wpAny (model X.prog X.w) X.A (mq value slice v u) (EP X pins σ Q) X.xe s
def MtR (X:Cx)(id:String)(r:V->List V->Hp->VK->Prop):Prop:=∀(pins:List (Addr×Obj)) (s:aa) (σ:St) (H:Hp) (x:V) (xs:List V) (v:Value) (us:List Value) (Q:VK),Inv X pins σ H s->RelV x v->Vals xs us->r x xs H Q->wpAny (model X.prog X.w) X.A (call (.builtin id) (v::us)) (EP X pins σ Q) X.xe s
section
variable {X:Cx}{a b:Expr}{ta tb:TE}{pos:Pos}
theorem IxR.or {r r':R2}(h:IxR X r)(h':IxR X r'):IxR X (fun x y H Q=>r x y H Q\/r' x y H Q):=by
 intro value slice pins s σ H x y v u Q I rx ry q hs;rcases q with q|q
 ·exact h value slice pins s σ H x y v u Q I rx ry q hs
 ·exact h' value slice pins s σ H x y v u Q I rx ry q hs
theorem MtR.or {id:String}{r r':V->List V->Hp->VK->Prop}(h:MtR X id r)(h':MtR X id r'):MtR X id (fun x xs H Q=>r x xs H Q\/r' x xs H Q):=by
 intro pins s σ H x xs v us Q I rx rs q;rcases q with q|q
 ·exact h pins s σ H x xs v us Q I rx rs q
 ·exact h' pins s σ H x xs v us Q I rx rs q
theorem zfu {r:R2}(hr:IxR X r)(ha:PE X a ta)(hb:PE X b tb)(hs:z7w b):PE X (.Subscript a b pos) (tOp r ta tb):=by intro pins s σ H Q I h;exact ox (binT ha hb I h fun v u s2 x y H2 I2 rx ry q=>hr a b pins s2 σ H2 x y v u Q I2 rx ry q (hs _ _))
def rIxL (K:W.Frag):R2:=fun x y H Q=>∃p xs i v,x=.ref p/\y=.int i/\SqL K H p xs/\atI xs i=some v/\Q v H
def rIxT (K:W.Frag):R2:=fun x y H Q=>∃p xs i v,x=.ref p/\y=.int i/\SqT K H p xs/\atI xs i=some v/\Q v H
def rIxS:R2:=fun x y H Q=>∃z i c,x=.str z/\y=.int i/\z.length<=ah/\atI z.cps.toList i=some c/\Q (.str ⟨#[c]⟩) H
theorem ze6:IxR X (rIxL X.K):=by
 intro value slice pins s σ H x y v u Q I rx ry h hs;obtain⟨p,xs,i,z,rfl,rfl,hq,he,q⟩:=h;cases rx;obtain⟨t,rfl⟩:=ry;obtain⟨its,r,pl,hz⟩:=I.list hq;obtain⟨j,h1,h2,h3,h4,h5⟩:=z54 he;obtain⟨w,ew,rw'⟩:=r.get h2;have hl:=r.length;have hn:=z2r;have fin:EP X pins σ Q w s:=⟨z,H,I,rw',q⟩;by_cases h0:0<=i
 ·have hj:i.toNat=j:=by
   rw[oi h0 h5]at h1;exact Option.some.inj h1
  exact item_listR pl.isList h0 (by omega) (by rw[hj];simpa using ew) fin hs
 ·have hj:(i+(its.toArray.size:Int)).toNat=j:=by
   rw[nk (by omega) h4]at h1;rw[ae,<-hl];exact Option.some.inj h1
  exact kz (x:=w) pl.isList.typeIs slot_list_getitem.lookup (wpAny_getItem_list_neg (Q:=fun r s'=>r=w/\EP X pins σ Q r s') pl.isList (by omega) (by rw[ae]<;>omega) (by omega) (by rw[hj];simpa using ew) ⟨rfl,fin⟩) hs
theorem zhc:IxR X (rIxT X.K):=by intro value slice pins s σ H x y v u Q I rx ry h hs;obtain⟨p,xs,i,z,rfl,rfl,hq,he,q⟩:=h;cases rx;obtain⟨t,rfl⟩:=ry;obtain⟨its,r,pl,hz⟩:=I.tuple hq;obtain⟨j,h1,h2,h3,h4,h5⟩:=z54 he;obtain⟨w,ew,rw'⟩:=r.get h2;have hl:=r.length;have hn:=z2r;have fin:EP X pins σ Q w s:=⟨z,H,I,rw',q⟩;exact kz (x:=w) pl.typeIs slot_tuple_getitem.lookup (getItem_tuple (j:=j) (Q:=fun r s'=>r=w/\EP X pins σ Q r s') pl (by omega) (by omega) (by rw[ae,<-hl];exact h1) (by simpa using ew) ⟨rfl,fin⟩) hs
theorem z9t:IxR X rIxS:=by
 intro value slice pins s σ H x y v u Q I rx ry h hs;obtain⟨z,i,c,rfl,rfl,hz,he,q⟩:=h;obtain⟨t,rfl⟩:=rx;obtain⟨t',rfl⟩:=ry;obtain⟨j,h1,h2,h3,h4,h5⟩:=z54 he;have hl:z.cps.toList.length=z.length:=by simp[Str.length]
 rw[hl]at h1 h4 h5;have hn:=z2r;exact tail_any (oy s z t) slot_str_getitem.lookup (getItem_str (c:=c) (by have e1:decide (i< -(2 ^ 63:Int))=false:=ph (by omega);have e2:decide (i ≥ 2 ^ 63)=false:=ph (by omega);rw[e1,e2,Bool.or_false]) (by rw[h1];simpa using h2) ⟨.str ⟨#[c]⟩,H,I.tok _,⟨_,rfl⟩,q⟩) hs
def rIx (K:W.Frag):R2:=fun x y H Q=>rIxL K x y H Q\/rIxT K x y H Q\/rIxS x y H Q
theorem ziu:IxR X (rIx X.K):=ze6.or (zhc.or z9t)
theorem z73 (its:List Value)(n j:Nat)(u:Value):Obj.mapSeq (·.setIfInBounds j u) {cls:=.type "list",data:=.seq its.toArray n}={cls:=.type "list",data:=.seq (its.set j u).toArray n}:=by simp[Obj.mapSeq]
theorem Inv.lst {pins:List (Addr×Obj)}{σ:St}{H:Hp}{s:aa}{p:Addr}{xs:List V}(I:Inv X pins σ H s)(h:H p=some (.lst xs)):
  ∃(its:List Value) (n:Nat),Vals xs its/\s.heap.get? p=some {cls:=.type "list",data:=.seq its.toArray n}/\xs.length<=ah:=by
 obtain⟨z,its,n,r,e⟩:=I.hok p _ h;exact⟨its,n,r,e,z⟩
theorem Inv.lstUpd {pins:List (Addr×Obj)}{σ:St}{H:Hp}{s:aa}{p:Addr}{xs ys:List V}{its its':List Value}{n n':Nat}{f:Obj->Obj}(I:Inv X pins σ H s)(h:H p=some (.lst xs))
  (ho:s.heap.get? p=some {cls:=.type "list",data:=.seq its.toArray n}) (hf:f {cls:=.type "list",data:=.seq its.toArray n}={cls:=.type "list",data:=.seq its'.toArray n'}) (r:Vals ys its') (hz:ys.length<=ah) (t:Nat):
  Inv X pins σ (upd H p (.lst ys)) {s with heap:=s.heap.update p f,toks:=t}:=by
 have e:(s.heap.update p f).get? p=some {cls:=.type "list",data:=.seq its'.toArray n'}:=by rw[Heap.get?_update_self f ho (by rw[hf]<;>rfl),hf]
 refine I.write (x:=p) (e:=p) (by rw[h];trivial) (.inl rfl) (fun b u hb q=>(k8 _ _ (Ne.symm hb)).trans q) ⟨_,e⟩ ?_;exact⟨hz,its',n',r,e⟩
def zfm:V->V->V->Hp->(Hp->Prop)->Prop:=fun o i v H Q=>∃p xs k j,o=.ref p/\i=.int k/\H p=some (.lst xs)/\ixN xs.length k=some j/\Q (upd H p (.lst (xs.set j v)))
theorem set_list:PSet X zfm:=by
 intro pins s σ H o i v ov iv u Q I ro ri rv h;obtain⟨p,xs,k,j,rfl,rfl,hp,hj,q⟩:=h;cases ro;obtain⟨t,rfl⟩:=ri;obtain⟨its,n,r,ho,hz⟩:=I.lst hp;obtain⟨h1,h2,h3,h4⟩:=z9y hj;have hl:=r.length;have hn:=z2r;have I':Inv X pins σ (upd H p (.lst (xs.set j v))) {s with heap:=s.heap.update p (Obj.mapSeq (·.setIfInBounds j u))}:=I.lstUpd hp ho (z73 its n j u) (r.set rv j) (by rw[bx];exact hz) s.toks;by_cases h0:0<=k
 ·have hk:k.toNat=j:=by
   rw[oi h0 h4]at h1;exact Option.some.inj h1
  exact W.ki_setAt ho h0 (by omega) (by rw[ae,<-hl];exact h4) (by rw[hk];exact⟨_,I',q⟩)
 ·have hk:(k+(its.toArray.size:Int)).toNat=j:=by
   rw[nk (by omega) h3]at h1;rw[ae,<-hl];exact Option.some.inj h1
  exact W.ki_setBack ho (by omega) (by rw[ae,<-hl];exact h3) (by omega) (by rw[hk];exact⟨_,I',q⟩)
theorem z4z (lo hi:Option Int)(n:Nat):(gb lo hi none n).1=((HT.sIx n 0 lo:Nat):Int)/\(gb lo hi none n).2.1=((HT.sIx n n hi:Nat):Int)/\(gb lo hi none n).2.2=1:=by
 refine⟨?_,?_,rfl⟩
 ·cases lo with
  |none=>simp[gb,HT.sIx]
  |some i=>
   simp only[gb,HT.sIx,Option.getD_none,show(1:Int)>0 by decide,if_true];by_cases h:i<0
   ·simp only[h,if_true]<;>omega
   ·simp only[h,if_false]<;>omega
 ·cases hi with
  |none=>simp[gb,HT.sIx]
  |some i=>
   simp only[gb,HT.sIx,Option.getD_none,show(1:Int)>0 by decide,if_true];by_cases h:i<0
   ·simp only[h,if_true]<;>omega
   ·simp only[h,if_false]<;>omega
theorem z3g (its:List Value)(lo hi:Option Int):slicePick its.toArray lo hi none=((its.drop (HT.sIx its.length 0 lo)).take (HT.sIx its.length its.length hi-HT.sIx its.length 0 lo)).toArray:=by obtain⟨h1,h2,h3⟩:=z4z lo hi its.toArray.size;unfold slicePick;rw[h1,h2,h3];simp only[ly,pick_run,ae]<;>rfl
def rSlL (K:W.Frag):V->Option Int->Option Int->Hp->VK->Prop:=fun x lo hi H Q=>∃a xs,x=.ref a/\SqL K H a xs/\∀p,H p=none->Q (.ref p) (upd H p (.lst (cutV xs lo hi)))
theorem zew:SlR X (rSlL X.K):=by intro pins s σ H x v vl vu lo hi sl Q I rx hs pl pu h;obtain⟨a,xs,rfl,hx,q⟩:=h;cases rx;obtain⟨its,r,ht,hz⟩:=I.list hx;have hlen:=r.length;refine⟨"list",_,slot_list_getitem.lookup,ht.isList.typeIs,?_⟩;refine wpAny_getItem_list_slice ht.isList hs pl pu .none (by simp) ?_ (by rw[ae]<;>omega);rw[z3g,<-hlen];refine⟨.ref s.heap.objs.size,_,I.laid (t':=s.toks) (o:=.lst (cutV xs lo hi)) (fun b ob q=>au _ q) (ak _) ?_,rfl,q _ (I.hok.fresh (ak _))⟩;exact⟨cb (z2s xs lo hi) hz,_,0,(r.drop (HT.sIx xs.length 0 lo)).take (HT.sIx xs.length xs.length hi-HT.sIx xs.length 0 lo),bw _ rfl⟩
def z45:V->Bool
 |.non=>true
 |.bl _=>true
 |.int _=>true
 |.str _=>true
 |_=>false
def eqV:V->V->Bool
 |.non,.non=>true
 |.bl a,.bl b=>a==b
 |.bl a,.int b=>(if a then 1 else 0)==b
 |.int a,.bl b=>a==(if b then 1 else 0)
 |.int a,.int b=>a==b
 |.str a,.str b=>a==b
 |_,_=>false
theorem zgi {A:bz}{s:aa}{y x:V}{u v:Value}(ry:RelV y u)(rx:RelV x v)(fy:z45 y=true)(fx:z45 x=true):SeqAt.EqAt A s u v (eqV y x):=by
 cases y with
 |non=>
  cases ry;cases x with
  |non=>cases rx;exact SeqAt.EqAt.same _
  |bl b=>cases rx;exact SeqAt.EqAt.none_bool b
  |int b=>obtain⟨t,rfl⟩:=rx;exact SeqAt.EqAt.none_int b t
  |str b=>obtain⟨t,rfl⟩:=rx;exact SeqAt.EqAt.none_str b t
  |_=>exact absurd (show false=true from fx) bf
 |bl a=>
  cases ry;cases x with
  |non=>cases rx;exact SeqAt.EqAt.bool_none a
  |bl b=>cases rx;exact SeqAt.EqAt.bool_bool a b
  |int b=>obtain⟨t,rfl⟩:=rx;exact SeqAt.EqAt.bool_int a b t
  |str b=>obtain⟨t,rfl⟩:=rx;exact SeqAt.EqAt.bool_str a b t
  |_=>exact absurd (show false=true from fx) bf
 |int a=>
  obtain⟨t',rfl⟩:=ry;cases x with
  |non=>cases rx;exact SeqAt.EqAt.int_none a t'
  |bl b=>cases rx;exact SeqAt.EqAt.int_bool a t' b
  |int b=>obtain⟨t,rfl⟩:=rx;exact SeqAt.EqAt.int_int a t' b t
  |str b=>obtain⟨t,rfl⟩:=rx;exact SeqAt.EqAt.int_str a t' b t
  |_=>exact absurd (show false=true from fx) bf
 |str a=>
  obtain⟨t',rfl⟩:=ry;cases x with
  |non=>cases rx;exact SeqAt.EqAt.str_none a t'
  |bl b=>cases rx;exact SeqAt.EqAt.str_bool a t' b
  |int b=>obtain⟨t,rfl⟩:=rx;exact SeqAt.EqAt.str_int a t' b t
  |str b=>obtain⟨t,rfl⟩:=rx;exact SeqAt.EqAt.str_str a t' b t
  |_=>exact absurd (show false=true from fx) bf
 |_=>exact absurd (show false=true from fy) bf
def eqU (x:V)(u:Value):Bool:=match u with
 |.none=>eqV .non x
 |.bool b=>eqV (.bl b) x
 |.int i _=>eqV (.int i) x
 |.str z _=>eqV (.str z) x
 |_=>false
theorem zca {x y:V}{u:Value}(r:RelV y u)(f:z45 y=true):eqU x u=eqV y x:=by
 cases y with
 |non=>cases r;rfl
 |bl b=>cases r;rfl
 |int i=>obtain⟨t,rfl⟩:=r;rfl
 |str z=>obtain⟨t,rfl⟩:=r;rfl
 |_=>exact absurd (show false=true from f) bf
theorem z2l {x:V}:∀{xs:List V} {us:List Value},Vals xs us->xs.all z45=true->us.any (eqU x)=xs.any fun y=>eqV y x
 |_,_,.nil,_=>rfl
 |y::xs,u::us,.cons r t,f=>by rw[bn,aj]at f;rw[gu,gu,zca r f.1,z2l t f.2]
theorem z1s {A:bz}{s:aa}{x:V}{v:Value}(rx:RelV x v)(fx:z45 x=true):∀{xs:List V} {us:List Value},Vals xs us->xs.all z45=true->∀u∈us,SeqAt.EqAt A s u v (eqU x u)
 |_,_,.nil,_=>fun u hu=>by cases hu
 |y::xs,u::us,.cons r t,f=>fun u' hu=>by
  rw[bn,aj]at f;rcases a9.mp hu with rfl|hu
  ·rw[zca r f.1];exact zgi r rx f.1 fx
  ·exact z1s rx fx t f.2 u' hu
def inV (x:V)(xs:List V):Bool:=xs.any fun y=>eqV y x
def rIn (K:W.Frag)(neg:Bool):R2:=fun x y H Q=>∃p xs,y=.ref p/\(SqL K H p xs\/SqT K H p xs)/\z45 x=true/\xs.all z45=true/\Q (.bl (if neg then !inV x xs else inV x xs)) H
theorem z8y:OpR X (bt .In) (rIn X.K false):=by
 intro pins s σ H x y v u Q I rx ry h;obtain⟨p,xs,rfl,hq,fx,fs,q⟩:=h;cases ry;rcases hq with hq|hq
 ·obtain⟨its,r,pl,hz⟩:=I.list hq;refine SeqAt.in_listAt (eqU x) pl.isList (fun w hw=>z1s rx fx r fs w (by simpa using hw)) ⟨.bl _,H,I,rfl,?_⟩;rw[show its.toArray.any (eqU x)=its.any (eqU x) by simp,z2l r fs];exact q
 ·obtain⟨its,r,pl,hz⟩:=I.tuple hq;refine SeqAt.in_tupleAt (eqU x) pl (fun w hw=>z1s rx fx r fs w (by simpa using hw)) ⟨.bl _,H,I,rfl,?_⟩;rw[show its.toArray.any (eqU x)=its.any (eqU x) by simp,z2l r fs];exact q
theorem z4w:OpR X (bt .NotIn) (rIn X.K true):=by
 intro pins s σ H x y v u Q I rx ry h;obtain⟨p,xs,rfl,hq,fx,fs,q⟩:=h;cases ry;rcases hq with hq|hq
 ·obtain⟨its,r,pl,hz⟩:=I.list hq;refine SeqAt.notIn_listAt (eqU x) pl.isList (fun w hw=>z1s rx fx r fs w (by simpa using hw)) ⟨.bl _,H,I,rfl,?_⟩;rw[show its.toArray.any (eqU x)=its.any (eqU x) by simp,z2l r fs];exact q
 ·obtain⟨its,r,pl,hz⟩:=I.tuple hq;refine SeqAt.notIn_tupleAt (eqU x) pl (fun w hw=>z1s rx fx r fs w (by simpa using hw)) ⟨.bl _,H,I,rfl,?_⟩;rw[show its.toArray.any (eqU x)=its.any (eqU x) by simp,z2l r fs];exact q
theorem z44:OpR X (bt .NotIn) (fun x y H Q=>∃i j,x=.str i/\y=.str j/\Q (.bl (!(!(cw j i 0 j.length 1).isEmpty))) H):=by intro pins s σ H x y v u Q I rx ry h;obtain⟨i,j,rfl,rfl,q⟩:=h;obtain⟨t,rfl⟩:=rx;obtain⟨t',rfl⟩:=ry;exact notIn_str ⟨.bl _,H,I,rfl,q⟩
theorem z48:CallR X (.builtin "len") (fun xs H Q=>∃p ys,xs=[.ref p]/\(SqL X.K H p ys\/SqT X.K H p ys)/\Q (.int ys.length) H):=by
 intro pins s σ H xs us Q I r h;obtain⟨p,ys,rfl,hq,q⟩:=h;obtain⟨u,rfl,rx⟩:=vals1 r;cases rx;have hn:=z2r;rcases hq with hq|hq
 ·obtain⟨its,r',pl,hz⟩:=I.list hq;have hlen:=r'.length;exact Calls.call_len_list pl.isList (by simp only[ae]<;>omega) ⟨.int ys.length,H,I.tok _,⟨s.toks+1,by rw[ae,hlen]⟩,q⟩
 ·obtain⟨its,r',pl,hz⟩:=I.tuple hq;have hlen:=r'.length;exact len_tuple pl (by simp only[ae]<;>omega) ⟨.int ys.length,H,I.tok _,⟨s.toks+1,by rw[ae,hlen]⟩,q⟩
theorem z4f:CallR X (.builtin "len") (fun xs H Q=>∃z,xs=[.str z]/\z.length<=ah/\Q (.int z.length) H):=by intro pins s σ H xs us Q I r h;obtain⟨z,rfl,hz,q⟩:=h;obtain⟨u,rfl,t,rfl⟩:=vals1 r;have hn:=z2r;exact len_str (by omega) ⟨.int z.length,H,I.tok _,⟨_,rfl⟩,q⟩
theorem CallR.or {f:Value}{r r':List V->Hp->VK->Prop}(h:CallR X f r)(h':CallR X f r'):CallR X f (fun xs H Q=>r xs H Q\/r' xs H Q):=by
 intro pins s σ H xs us Q I rs q;rcases q with q|q
 ·exact h pins s σ H xs us Q I rs q
 ·exact h' pins s σ H xs us Q I rs q
theorem z4j:CallR X (.type "list") (fun xs H Q=>∃p ys,xs=[.ref p]/\(SqL X.K H p ys\/SqT X.K H p ys)/\∀l,H l=none->Q (.ref l) (upd H l (.lst ys))):=by
 intro pins s σ H xs us Q I r h;obtain⟨p,ys,rfl,hq,q⟩:=h;obtain⟨u,rfl,rx⟩:=vals1 r;cases rx
 have fin:∀(its:List Value),Vals ys its->ys.length<=ah->∀(h':Heap) (c':Nat),(∀b o',s.heap.get? b=some o'->h'.get? b=some o')->
   h'.get? s.heap.objs.size=some {cls:=.type "list",dict:=none,data:=.seq its.toArray c',slots:=#[]}->EP X pins σ Q (.ref s.heap.objs.size) {s with heap:=h'}:=fun its r' hz h' c' kp e=>
  ⟨.ref s.heap.objs.size,_,I.laid (t':=s.toks) kp (ak _) (show z0i X.prog X.w _ h' _ (.lst ys)from⟨hz,its,c',r',e⟩),rfl,q _ (I.hok.fresh (ak _))⟩
 rcases hq with hq|hq
 ·obtain⟨its,r',pl,hz⟩:=I.list hq;have hlen:=r'.length;obtain⟨o,ho,hc,n,hd⟩:=pl.isList;exact call_list_seq p (.inl rfl) ho hc hd (fun h' c' kp e=>fin its r' hz h' c' kp e) (by simp only[ae]<;>omega)
 ·obtain⟨its,r',pl,hz⟩:=I.tuple hq;have hlen:=r'.length;obtain⟨o,ho,hc,n,hd⟩:=pl;exact call_list_seq p (.inr rfl) ho hc hd (fun h' c' kp e=>fin its r' hz h' c' kp e) (by simp only[ae]<;>omega)
def tyV (K:W.Frag)(T:String)(x:V)(H:Hp):Prop:=match x with
 |.str _=>T="str"
 |.int _=>T="int"
 |.ref p=>(T="list"/\∃xs,SqL K H p xs)\/(T="tuple"/\∃o,K.lookup p=some o/\o.cls=.type "tuple"/\o.dict=none)\/(T="dict"/\((∃kvs,H p=some (.dK kvs))\/∃kvs,H p=some (.dT kvs)))\/(T="set"/\∃S n,H p=some (.set S n))
 |_=>False
theorem zcm {pins:List (Addr×Obj)}{σ:St}{H:Hp}{s:aa}{T:String}{x:V}{v:Value}(I:Inv X pins σ H s)(r:RelV x v)(ty:tyV X.K T x H):
  s.TypeIs v T/\∀a,v=.ref a->∃ob,s.heap.get? a=some ob/\ob.dict=none:=by
 cases x with
 |str z=>obtain⟨t,rfl⟩:=r;cases(show T="str"from ty);exact⟨oy s z t,fun _ e=>nomatch e⟩
 |int i=>obtain⟨t,rfl⟩:=r;cases(show T="int"from ty);exact⟨oz s i t,fun _ e=>nomatch e⟩
 |ref p=>
  cases r;rcases ty with⟨rfl,xs,hq⟩|⟨rfl,o,hk,hc,hd⟩|⟨rfl,hk⟩|⟨rfl,S,n,hk⟩
  ·obtain⟨its,_,pl,_⟩:=I.list hq;refine⟨pl.isList.typeIs,fun a e=>?_⟩;cases e;obtain⟨o,n,e,c,hd,_⟩:=pl;exact⟨o,e,hd⟩
  ·refine⟨⟨o,I.kIn p o hk,hc⟩,fun a e=>?_⟩;cases e;exact⟨o,I.kIn _ o hk,hd⟩
  ·have z:∃o,s.heap.get? p=some o/\o.ExactDict:=by
    rcases hk with⟨kvs,hk⟩|⟨kvs,hk⟩
    ·obtain⟨_,_,_,_,o,_,_,e,ex,_⟩:=I.hok p _ hk;exact⟨o,e,ex⟩
    ·obtain⟨_,_,_,_,o,_,_,e,ex,_⟩:=I.hok p _ hk;exact⟨o,e,ex⟩
   obtain⟨o,e,ex⟩:=z;refine⟨⟨o,e,ex.1⟩,fun a e2=>?_⟩;cases e2;exact⟨o,e,ex.2.1⟩
  ·obtain⟨o,_,_,_,e,ex,_⟩:=I.hok p _ hk;refine⟨⟨o,e,ex.1⟩,fun a e2=>?_⟩;cases e2;exact⟨o,e,ex.2.1⟩
 |_=>exact False.elim ty
def tBM0 (K:W.Frag)(T:String)(r:V->List V->Hp->VK->Prop)(to:TE):TE:=fun σ H Q=>to σ H fun x H1=>tyV K T x H1/\r x [] H1 Q
def tBM (K:W.Frag)(T:String)(r:V->List V->Hp->VK->Prop)(to:TE)(t:TA):TE:=fun σ H Q=>to σ H fun x H1=>tyV K T x H1/\t σ H1 fun xs H2=>r x xs H2 Q
variable {o e:Expr}{es:List Expr}{to:TE}{t:TA}{name:Str}{apos cpos:Pos}{T id:String}{r:V->List V->Hp->VK->Prop}
theorem z8o (pa:o0 T)(slot:Slot T name id)(hty:o5 (.builtin id)=pure (.type "method_descriptor"))(hm:MtR X id r)(ho:PE X o to)
  (hbase:gc o name X.env (eval o X.env)=eval o X.env:=by rfl) (hline:(apos.endLine==cpos.line)=true:=by rfl):PE X (.Call (.Attribute o name apos) [] [] cpos) (tBM0 X.K T r to):=by
 intro pins s σ H Q I h;refine wpAny_Call_method0_late hbase hline (thn (ho pins s σ H _ I h) fun v s1 ⟨x,H1,I1,r1,ty,q1⟩=>?_);obtain⟨h1,h2⟩:=zcm I1 r1 ty;exact⟨T,id,pa,slot,hty,h1,h2,jd rfl (PySem.evalArgs_none (hm pins s1 σ H1 x [] v [] Q I1 r1 .nil q1))⟩
theorem z75 (pa:o0 T)(slot:Slot T name id)(hty:o5 (.builtin id)=pure (.type "method_descriptor"))(hm:MtR X id r)(ho:PE X o to)(ha:PA X (e::es) t)
  (hbase:gc o name X.env (eval o X.env)=eval o X.env:=by rfl)
  (hfew:((fi cpos (bv (e::es) X.env)).all (fun x=> !x.1)&&(kh cpos (ja [] X.env)).all (fun x=>x.1.isSome)
   &&decide ((e::es).length+([]:List i3).length+(if([]:List i3).isEmpty then 0 else 1)<30))=true:=by rfl)
  (hline:(apos.endLine==cpos.line)=true:=by rfl) (hs:bv (e::es) X.env=(false,eval e X.env)::bv es X.env:=by rfl) (hplain:(fi cpos (bv es X.env)).any (·.1)=false:=by rfl):
  PE X (.Call (.Attribute o name apos) (e::es) [] cpos) (tBM X.K T r to t):=by
 intro pins s σ H Q I h;refine wpAny_Call_method_late hbase hfew hline rfl (thn (ho pins s σ H _ I h) fun v s1 ⟨x,H1,I1,r1,ty,q1⟩=>?_);obtain⟨h1,h2⟩:=zcm I1 r1 ty;refine⟨T,id,pa,slot,hty,h1,h2,?_⟩;have hA:=ha cpos pins s1 σ H1 _ I1 q1;rw[hs]at hA ⊢;refine jd (by show(false||(fi cpos (bv es X.env)).any (·.1))=false;rw[hplain]<;>rfl) (g8 ?_);exact thn hA fun us s2 ⟨vs,H2,I2,r2,q2⟩=>hm pins s2 σ H2 x vs v us Q I2 r1 r2 q2
end
def MtM (X:Cx)(id:String)(r:V->List V->Hp->VK->Prop):Prop:=∀(pins:List (Addr×Obj)) (s:aa) (σ:St) (H:Hp) (x:V) (xs:List V) (v:Value) (us:List Value) (Q:VK),Inv X pins σ H s->RelV x v->Vals xs us->r x xs H Q->wpAny (model X.prog X.w) X.A (call (.builtin id) (v::us)) (EP X pins σ Q) X.xe s
theorem Vals.one {x:V}{us:List Value}(h:Vals [x] us):∃u,us=[u]/\RelV x u:=by
 cases h with
 |cons r h=>cases h;exact⟨_,rfl,r⟩
theorem Vals.two {x y:V}{us:List Value}(h:Vals [x,y] us):∃u v,us=[u,v]/\RelV x u/\RelV y v:=by
 cases h with
 |cons r h=>cases h with
  |cons q h=>cases h;exact⟨_,_,rfl,r,q⟩
theorem Vals.zero:∀{us:List Value},Vals [] us->us=[]
 |_,.nil=>rfl
theorem Vals.dropLast {xs:List V}{us:List Value}(h:Vals xs us):Vals xs.dropLast us.dropLast:=by
 induction h with
 |nil=>exact .nil
 |cons r t ih=>
  cases t with
  |nil=>exact .nil
  |cons q t'=>exact .cons r ih
theorem Vals.eraseIdx:∀{xs:List V} {us:List Value} (i:Nat),Vals xs us->Vals (xs.eraseIdx i) (us.eraseIdx i)
 |_,_,_,.nil=>.nil
 |_,_,0,.cons _ t=>t
 |_,_,i+1,.cons r t=>.cons r (Vals.eraseIdx i t)
theorem Vals.reverse {xs:List V}{us:List Value}(h:Vals xs us):Vals xs.reverse us.reverse:=by
 induction h with
 |nil=>exact .nil
 |cons r t ih=>rw[nr,nr];exact Vals.append ih (.cons r .nil)
theorem Vals.rep {xs:List V}{us:List Value}(h:Vals xs us):∀k:Nat,Vals (ai k xs).flatten (ai k us).flatten
 |0=>.nil
 |k+1=>by rw[da,da,du,du];exact Vals.append h (Vals.rep h k)
theorem z6v {α:Type}(l:List α):l.eraseIdx (l.length-1)=l.dropLast:=by
 induction l with
 |nil=>rfl
 |cons a r ih=>
  cases r with
  |nil=>rfl
  |cons b r=>
   have e:(a::b::r).length-1=((b::r).length-1)+1:=by have h1:(a::b::r).length=r.length+2:=rfl;have h2:(b::r).length=r.length+1:=rfl;omega
   rw[e,List.eraseIdx_cons_succ,ih]
   all_goals rfl
theorem z4a {α:Type}:∀(l:List α) (i:Nat),(l.eraseIdx i).length<=l.length
 | [],_=>ak _
 |_::_,0=>Nat.le_succ _
 |_::r,i+1=>Nat.succ_le_succ (z4a r i)
theorem foldl_rep (its:List Value):∀(k:Nat) (acc:List Value),
  o6 (fun x1 x2=>x1++x2) acc.toArray (ai k its.toArray)=(acc++(ai k its).flatten).toArray
 |0,acc=>by simp
 |k+1,acc=>by
  have e:acc.toArray++its.toArray=(acc++its).toArray:=by simp
  have e2:(acc++its)++(ai k its).flatten=acc++(ai (k+1) its).flatten:=by rw[da,du,nv]
  rw[<-e2,<-foldl_rep its k (acc++its),<-e,da,lf]
section
variable {X:Cx}{pins:List (Addr×Obj)}{σ:St}{H:Hp}{s:aa}{l b:Addr}{xs ys zs:List V}
theorem Inv.lset {its its':List Value}{n:Nat}{f:Array Value->Array Value}{t':Nat}(I:Inv X pins σ H s)(hH:H l=some (.lst xs))
  (e:s.heap.get? l=some {cls:=.type "list",data:=.seq its.toArray n}) (hf:f its.toArray=its'.toArray) (hv:Vals ys its') (hz:ys.length<=ah):
  Inv X pins σ (upd H l (.lst ys)) {s with heap:=s.heap.update l (Obj.mapSeq f),toks:=t'}:=by
 have q:=PySem.IsL.update e f;rw[hf]at q;refine I.write (x:=l) (e:=l) (by rw[hH];exact trivial) (.inl rfl) (fun b' u hb hu=>(k8 s.heap (Obj.mapSeq f) (Ne.symm hb)).trans hu) ⟨_,q⟩ ?_;exact⟨hz,its',_,hv,q⟩
theorem Inv.lnew {its:List Value}{t':Nat}(I:Inv X pins σ H s)(hv:Vals ys its)(hz:ys.length<=ah):
  Inv X pins σ (upd H s.heap.objs.size (.lst ys)) {s with heap:=s.heap.push {cls:=.type "list",data:=.seq its.toArray},toks:=t'}:=
 I.laid (fun _ _ q=>au _ q) (ak _) ⟨hz,its,0,hv,bw _ rfl⟩
theorem Inv.fresh (I:Inv X pins σ H s):H s.heap.objs.size=none:=I.hok.fresh (ak _)
theorem Inv.lstM (I:Inv X pins σ H s)(hH:H l=some (.lst xs)):xs.length<=ah/\∃(its:List Value) (n:Nat),Vals xs its/\xs.length=its.length/\s.heap.get? l=some {cls:=.type "list",data:=.seq its.toArray n}:=by obtain⟨z,its,n,r,e⟩:=I.hok l _ hH;exact⟨z,its,n,r,r.length,e⟩
theorem zat {n:Nat}(h:n<=ah):iw n=false:=by unfold iw;exact ph (by omega)
end
section
variable {X:Cx}
def z5g:V->List V->Hp->VK->Prop:=fun x vs H Q=>∃l xs y,x=.ref l/\vs=[y]/\H l=some (.lst xs)/\xs.length<ah/\Q .non (upd H l (.lst (xs++[y])))
theorem z1p:MtM X "list.append" z5g:=by intro pins s σ H x vs v us Q I rx rv h;obtain⟨l,xs,y,rfl,rfl,hH,hz,q⟩:=h;cases rx;obtain⟨u,rfl,ru⟩:=rv.one;obtain⟨z,its,n,r,hl,e⟩:=I.lstM hH;refine gn F.slot_list_append ⟨_,e,rfl⟩ F.entry_list_append (F.args_list_append_2 _ _) (PySem.list_append l its.toArray n u (by rw[ae];omega)) ⟨e,?_⟩;refine⟨.non,_,I.lset (its':=its++[u]) hH e (by simp) (r.append (.cons ru .nil)) ?_,rfl,q⟩;rw[ba,List.length_singleton];omega
def rPop:V->List V->Hp->VK->Prop:=fun x vs H Q=>∃l xs y,x=.ref l/\vs=[]/\H l=some (.lst xs)/\xs[xs.length-1]?=some y/\Q y (upd H l (.lst xs.dropLast))
theorem zcc:MtM X "list.pop" rPop:=by
 intro pins s σ H x vs v us Q I rx rv h;obtain⟨l,xs,y,rfl,rfl,hH,hy,q⟩:=h;cases rx;have hus:=rv.zero;subst hus;obtain⟨z,its,n,r,hl,e⟩:=I.lstM hH;obtain⟨u,hu,ru⟩:=r.get hy;have hy':its.toArray[its.toArray.size-1]?=some u:=by show its.toArray[its.length-1]?=some u;rw[<-ji,<-hl];exact hu
 refine gn F.slot_list_pop ⟨_,e,rfl⟩ F.entry_list_pop (F.args_list_pop_1 _) (MeetsSeq.list_pop_last l its.toArray n u hy' (by rw[ae];omega)) ⟨e,?_⟩;refine⟨y,_,I.lset (its':=its.dropLast) hH e ?_ r.dropLast ?_,ru,q⟩
 ·show its.toArray.eraseIdxIfInBounds (its.toArray.size-1)=its.dropLast.toArray;rw[ae,jh,z6v]
 ·rw[lz];omega
def zfj:V->List V->Hp->VK->Prop:=fun x vs H Q=>∃l xs i k y,x=.ref l/\vs=[.int i]/\H l=some (.lst xs)/\-(2 ^ 63)<=i/\i<2 ^ 63/\og i xs.length=some k/\xs[k]?=some y/\Q y (upd H l (.lst (xs.eraseIdx k)))
theorem zaf:MtM X "list.pop" zfj:=by
 intro pins s σ H x vs v us Q I rx rv h;obtain⟨l,xs,i,k,y,rfl,rfl,hH,h1,h2,hk,hy,q⟩:=h;cases rx;obtain⟨u,rfl,ru⟩:=rv.one;obtain⟨t,rfl⟩:=ru;obtain⟨z,its,n,r,hl,e⟩:=I.lstM hH;obtain⟨w,hw,rw'⟩:=r.get hy;refine gn F.slot_list_pop ⟨_,e,rfl⟩ F.entry_list_pop (F.args_list_pop_2 _ _) (MeetsSeq.list_pop_at l its.toArray n i t k w (l6 h1 h2) (by rw[ae,<-hl];exact hk) (by rw[<-ji];exact hw) (by rw[ae];omega)) ⟨e,?_⟩;refine⟨y,_,I.lset (its':=its.eraseIdx k) hH e ?_ (r.eraseIdx k) ?_,rw',q⟩
 ·show its.toArray.eraseIdxIfInBounds k=(its.eraseIdx k).toArray;rw[jh]
 ·have :=z4a xs k;omega
def z7o:V->List V->Hp->VK->Prop:=fun x vs H Q=>∃l xs,x=.ref l/\vs=[]/\H l=some (.lst xs)/\Q .non (upd H l (.lst []))
theorem zap:MtM X "list.clear" z7o:=by intro pins s σ H x vs v us Q I rx rv h;obtain⟨l,xs,rfl,rfl,hH,q⟩:=h;cases rx;have hus:=rv.zero;subst hus;obtain⟨z,its,n,r,hl,e⟩:=I.lstM hH;refine gn F.slot_list_clear ⟨_,e,rfl⟩ F.entry_list_clear (F.args_list_clear_1 _) (AutoSeq1.list_clear_list_0 l its.toArray n (by rw[ae];omega)) ⟨e,?_⟩;exact⟨.non,_,I.lset (its':=[]) (ys:=[]) hH e rfl .nil (cj _),rfl,q⟩
def rCat:R2:=fun x y H Q=>∃l b xs zs,x=.ref l/\y=.ref b/\H l=some (.lst xs)/\H b=some (.lst zs)/\xs.length+zs.length<=ah/\∀p,H p=none->Q (.ref p) (upd H p (.lst (xs++zs)))
theorem zgg:OpR X (d8 .Add) rCat:=by
 intro pins s σ H x y v u Q I rx ry h;obtain⟨l,b,xs,zs,rfl,rfl,hH,hB,hz,q⟩:=h;cases rx;cases ry;obtain⟨z,its,n,r,hl,e⟩:=I.lstM hH;obtain⟨z2,its2,n2,r2,hl2,e2⟩:=I.lstM hB;refine PySem.P.add_list e e2 ?_ (by rw[ae,ae];omega);have ea:its.toArray++its2.toArray=(its++its2).toArray:=by simp
 rw[ea];exact⟨.ref _,_,I.lnew (t':=s.toks) (r.append r2) (by rw[ba];omega),rfl,q _ I.fresh⟩
def rRep:R2:=fun x y H Q=>∃l k xs,x=.ref l/\y=.int k/\H l=some (.lst xs)/\ -(2 ^ 63)<=k/\k<2 ^ 63/\xs.length*k.toNat<=ah/\∀p,H p=none->Q (.ref p) (upd H p (.lst (ai k.toNat xs).flatten))
theorem len_rep {α:Type}(xs:List α)(k:Nat):(ai k xs).flatten.length=k*xs.length:=by
 induction k with
 |zero=>simp
 |succ k ih=>rw[da,du,ba,ih,Nat.succ_mul,Nat.add_comm]
theorem zhx:OpR X (d8 .Mult) rRep:=by
 intro pins s σ H x y v u Q I rx ry h;obtain⟨l,k,xs,rfl,rfl,hH,h1,h2,hz,q⟩:=h;cases rx;obtain⟨t,rfl⟩:=ry;obtain⟨z,its,n,r,hl,e⟩:=I.lstM hH;have hlen:its.toArray.size*k.toNat<=ah:=by rw[ae,<-hl];exact hz
 have hcap:¬its.toArray.size*k.toNat>(2 ^ 63-1)/8:=by
  have:(ah:Nat)<=(2 ^ 63-1)/8:=by decide
  omega
 have hfit:¬(!Builtin.List.listFitsIndex k)=true:=by rw[l6 h1 h2];exact bf
 have hlong:¬iw (its.toArray.size*k.toNat)=true:=by rw[zat hlen];exact bf
 have hnew:o6 (fun x1 x2=>x1++x2) #[] (ai (if its.toArray.isEmpty=true then 0 else k.toNat) its.toArray)=(ai k.toNat its).flatten.toArray:=by
  have f0:∀m:Nat,o6 (fun x1 x2=>x1++x2) #[] (ai m its.toArray)=(ai m its).flatten.toArray:=fun m=>by have:=foldl_rep its m [];rw[lh]at this;exact this
  rw[f0];cases its with
  |nil=>simp
  |cons a r'=>rw[if_neg (by simp)]
 refine wpAny_binaryOp_repeat_ref (T:="list") (U:="int") (by decide) ⟨_,e,rfl⟩ (fun s'=>oz s' k t) noFill_list_mul F.fills_int_mul F.slot_int_rmul repeat_list F.slot_int_index.lookup
  (gn F.slot_int_rmul (oz s k t) F.entry_int_rmul (F.args_int_rmul_2 _ _) (int___rmul___int_list k t l its.toArray n)
   ⟨e,rfl,⟨_,e,rfl⟩,gn F.slot_list_mul ⟨_,e,rfl⟩ F.entry_list_mul (F.args_list_mul_2 _ _) (AutoListH.list___mul___list_int_3 l its.toArray n k t hfit hcap hlong) ⟨e,?_⟩⟩)
 rw[hnew];exact⟨.ref _,_,I.lnew (t':=s.toks) (r.rep k.toNat) (by rw[len_rep,Nat.mul_comm];exact hz),rfl,q _ I.fresh⟩
end
section
variable {prog:am}{w:World}{A:bz}{E:Value->aa->Prop}{s:aa}
end
section
variable {X:Cx}
end
end L2
namespace Att
open PySem PySem.W PySem.Calls PyProof.Rows
theorem z30 {P:dz}{h:Heap}:∀(ns:List Int) (vs:List Value),WellAll P h vs (ns.map WData.int)->om vs ns:=by
 intro ns
 induction ns with
 |nil=>intro vs w;rw[List.map_nil]at w;cases w;exact .nil
 |cons n ns ih=>
  intro vs w;rw[bg]at w;cases w with
  |cons a b=>cases a;exact .cons _ _ (ih _ b)
theorem z8q {l:OpenLaw}{n:Nat}(hn:l.most=some n){P:dz}{h:Heap}{args:List WData}{vals:List Value}
  (hpre:l.row.toRowW.claim.pre args=true) (hwl:WellAll P h vals args):
  ∃a vs ns,vals=[Value.ref a]/\args=[WData.list (ns.map WData.int)]/\h.get? a=some {cls:=.type "list",data:=.seq vs.toArray}/\om vs ns/\ns.length<=n:=by
 have hsh:WShape.hasAll [] args [.list .int]=true:=(pre_splitW hpre).1;have hc:l.pre.holds [] {args:=args}=true:=(pre_splitW hpre).2;obtain⟨d,r,rfl,h1,h2⟩:=hasAllW_cons hsh;obtain rfl:=hasAllW_nil h2;obtain⟨xs,rfl,h3⟩:=hasW_list h1;obtain⟨ns,rfl⟩:=items_int h3
 have hlen:ns.length<=n:=by
  unfold OpenLaw.pre at hc;have h4:(WTm.not (.lt (.lit (.int (n:Int))) (.len (.arg 0)))).holds [] {args:=[.list (ns.map .int)]}=true:=by have h4:=(holds_andW hc).1;rw[hn]at h4;exact h4
  have h5:=condW_of h4 (w_not (w_lt w_lit (w_len_list (w_arg rfl))));rw[aw]at h5;refine Nat.le_of_not_lt fun q=>?_;have q':(n:Int)<((ns.length:Nat):Int):=by omega
  first
   |(rw[decide_eq_true q']at h5;exact absurd h5 (by decide))
   |(simp at h5;omega)
 cases hwl with
 |cons w1 w2=>
  cases w2;cases w1 with
  |list ho hall=>exact⟨_,_,ns,rfl,rfl,ho,z30 ns _ hall,hlen⟩
theorem z9n (l:OpenLaw)(args:List WData):l.row.toRowW.claim.post args (.bool true) args=true:=
 postW_of (r:=l.row.toRowW) (X:=(true==true))
  (show WShape.has [] (.bool true) .bool=true by first|rfl|decide|simp[WShape.has,WShape.arms,WShape.armsAll])
  (show(WTm.eq .res (.lit (.bool true))).value [] {args:=args,res:=some (.bool true),after:=args}=some (.bool (true==true))from w_eq_bool (w_res rfl) w_lit) rfl
theorem attach_call {l:OpenLaw}{n:Nat}{q:am}{loose:List Str}{XP:(Str->Option Value)->Heap->Prop}{YP:World->Heap->Prop}{d:pd}
  (hn:l.most=some n) (hdf:d.params.defaults=[])
  (call:∀(w:World) (s₀ s₁:aa) (mg mb:Str->Option Value) (fa:Addr) (o:Obj) (pm cd doc:Value) (a:Addr) (vs:List Value) (ns:List Int),
   Ground q loose [] XP w s₀ mg mb s₁.heap->YP w s₁.heap->
   s₁.heap.get? fa=some o->o.data=.func (docDef d.name d.params d.body d.scope pm cd doc)->s₁.heap.CodeRec cd d.name->mg d.name=some (.ref fa)->
   s₁.heap.get? a=some {cls:=.type "list",data:=.seq vs.toArray}->om vs ns->ns.length<=n->s₁.gens=#[]->
   jn (model l.prog w) ma (.call (.ref fa) ⟨[.ref a],[]⟩) (fun r s'=>r=.ok (.ret (.bool true))/\OldK s₁.heap s'.heap/\s'.os=s₁.os/\jv s'.gens) s₁):
  WalkO q loose XP YP l.row.toRowW d [] (fun f vs=>PySem.call f vs):=by
 intro w s₀ s₁ mg mb G Y fa o pm cd doc dV kV ho hd hcd hD hmg hg args vals as hpre hlay hrd hwl hlo;obtain rfl:dV=.none:=Dflts.none hD hdf;obtain rfl:kV=.none:=Dflts.noKw hD;obtain⟨a,vs,ns,rfl,rfl,hobj,hints,hlen⟩:=z8q hn hpre hwl;refine enter_call (jc (call w s₀ s₁ mg mb fa o pm cd doc a vs ns G Y ho (fd_plain hd) hcd hmg hobj hints hlen hg) fun r s' hq=>?_);obtain⟨rfl,h2,h3,h4⟩:=hq;exact⟨.inl ⟨.bool true,.bool true,[],rfl,fun _=>rfl,.bool true,z9n l _,fun _=>⟨List.Pairwise.nil,fun _ hm=>(nomatch hm)⟩⟩,h2,h3,h4⟩
section
variable {prog:am}{w:World}{A:bz}{E:Value->aa->Prop}{s:aa}{K:Frag}
end
end Att
namespace L2
open PySem PySem.Spec PyProof.Rows
theorem z4t:∀{vs:List Value} {ns:List Int},om vs ns->Vals (ns.map V.int) vs
 |_,_,.nil=>.nil
 |_,_,.cons n t h=>.cons ⟨t,rfl⟩ (z4t h)
def Only (H:Hp):Prop:=∀b,H b=none\/∃o xs,H b=some (.frz o (.lst xs))
theorem zb5 {P:am}{w:World}{K:W.Frag}{mg mb:Str->Option Value}{CX:CXT}{k:Nat}{fa a:Addr}{fd:cu}{x:Str}{sp:Sp}{s₁:aa}{vs:List Value}{ns:List Int}
  (KX:K.In s₁.heap) (hns:s₁.heap.Ns bc mg) (hb:s₁.heap.Ns on mb) (hbb:∀x:Str,x≠"__name__"->mb x=ci x) (hlim:s₁.heap.NoLimit) (hg:s₁.gens=#[])
  (ha:s₁.heap.get? a=some {cls:=.type "list",data:=.seq vs.toArray}) (hi:om vs ns) (hl:ns.length<=ah) (hr:Room k ma)
  (F:∀base:Heap,K.In base->base.Ns bc mg->FnOk P w K mg base CX k fa fd [x] sp) (hbind:∀(s:aa) (u:Value),nj s fd ⟨[u],[]⟩ [(x,u)])
  (hsp:∀H:Hp,Only H->SqL K H a (ns.map V.int)->sp [.ref a] H (fun v _=>v=.bl true) fun _ _ _=>False)
  (hCX:∀H e s',CX [] H s₁ (fun _ _ _=>False) e s'->False):
  jn (model P w) ma (.call (.ref fa) ⟨[.ref a],[]⟩) (fun r s'=>r=.ok (.ret (.bool true))/\OldK s₁.heap s'.heap/\s'.os=s₁.os/\jv s'.gens) s₁:=by
 have rv:=z4t hi;have lenV:=hi.length
 have core:∀H:Hp,Only H->SqL K H a (ns.map V.int)->HOk P w H s₁.heap->(∀b,H b≠none->b=a)->(H a≠none->K.lookup a=none)->
   jn (model P w) ma (.call (.ref fa) ⟨[.ref a],[]⟩) (fun r s'=>r=.ok (.ret (.bool true))/\OldK s₁.heap s'.heap/\s'.os=s₁.os/\jv s'.gens) s₁:=by
  intro H hO hS hok hA hK;have z18:∀{b:Addr} {o:Obj},s₁.heap.get? b=some o->H b=none->(hidT s₁.heap H).get? b=some o:=fun e n=>zb0 e n
  have noA:∀{b:Addr} {o:Obj} {es:Array jw} {ep:Nat},s₁.heap.get? b=some o->o.data=.dict es ep->H b=none:=fun{b o es ep} e d=>by
   cases q:H b with
   |none=>rfl
   |some u=>have e':b=a:=hA b (by rw[q];simp);subst e';rw[ha]at e;cases e;have d':Data.seq vs.toArray _=Data.dict es ep:=d;cases d'
  have nsK:∀{b:Addr} {m:Str->Option Value},s₁.heap.Ns b m->(hidT s₁.heap H).Ns b m:=fun{b m} ⟨o,es,ep,e,d,r⟩=>⟨o,es,ep,z18 e (noA e d),d,r⟩
  have hKb:K.In (hidT s₁.heap H):=fun b o e=>z18 (KX b o e) (by
   cases q:H b with
   |none=>rfl
   |some u=>have e':b=a:=hA b (by rw[q];simp);subst e';rw[hK (by rw[q];simp)]at e;cases e)
  have hM:Mod K mg (hidT s₁.heap H):=⟨hKb,nsK hns,⟨mb,nsK hb,hbb⟩,let⟨mc,h1,h2⟩:=hlim;⟨mc,nsK h1,h2⟩⟩;have e0:Env0 P w K mg (hidT s₁.heap H) ma [] s₁ H:=⟨rfl,hM,fun b o e=>zeh e,Nat.le_of_eq (z92 _ _),trivial,fun b hb=>absurd (show b∈([]:List Addr)from hb) (by simp),hok,.of_eq hg⟩;refine jc ((F _ hKb (nsK hns)).run ma [] s₁ H ⟨[.ref a],[]⟩ [.ref a] [.ref a] _ _ hr e0 (hbind s₁ (.ref a)) (.cons rfl .nil) (hsp H hO hS)) fun r s' h=>?_;cases r with
  |error e=>exact(hCX H e s' h).elim
  |ok fl=>
   cases fl with
   |next=>exact False.elim h
   |brk=>exact False.elim h
   |cont=>exact False.elim h
   |ret u=>
    obtain⟨v,H',os,bare,un,hok',r',q⟩:=h;have q':v=.bl true:=q;subst q';obtain rfl:u=Value.bool true:=r';refine⟨rfl,OldK.of_keep fun b o e=>?_,os,bare⟩;cases q:H b with
    |none=>exact un.keep b o e q (by intro z;exact absurd (show b∈([]:List Addr)from z) (by simp)) (by simp)
    |some u=>
     rcases hO b with z|⟨ob,xs,z⟩
     ·rw[q]at z;cases z
     ·have z2:=un.frzs b ob _ z;obtain⟨e1,_⟩:=hok b _ z;obtain⟨e2,_⟩:=hok' b _ z2;rw[e]at e1;cases e1;exact e2
 cases hk:K.lookup a with
 |some o=>have e:=KX a o hk;rw[ha]at e;cases e;refine core (fun _=>none) (fun _=>.inl rfl) (.inr ⟨_,vs.toArray,_,hk,rfl,rfl,rfl,by rw[ae,lenV];exact hl,by simpa using rv⟩) (fun b u z=>by have z':(none:Option HO)=some u:=z;cases z') (fun b z=>absurd rfl z) fun z=>absurd rfl z
 |none=>
  refine core (fun b=>if b=a then some (.frz {cls:=.type "list",data:=.seq vs.toArray} (.lst (ns.map V.int)))else none) (fun b=>?_) (.inl (.inr ⟨{cls:=.type "list",data:=.seq vs.toArray},if_pos rfl⟩)) (fun b u z=>?_) (fun b z=>?_) fun _=>hk
  ·by_cases hb:b=a
   ·exact .inr ⟨_,_,if_pos hb⟩
   ·exact .inl (if_neg hb)
  ·by_cases hb:b=a
   ·have z':=(if_pos hb).symm.trans z;cases z';subst hb;exact⟨ha,by rw[aw];exact hl,vs,_,rv,ha⟩
   ·have z':=(if_neg hb).symm.trans z;cases z'
  ·by_cases hb:b=a
   ·exact hb
   ·exact absurd (if_neg hb) z
theorem walk_of {l:W.OpenLaw}{n k:Nat}{q:am}{loose:List Str}{XP:(Str->Option Value)->Heap->Prop}{YP:World->Heap->Prop}{d:pd}{K:dz->W.Frag}{CX:World->CXT}{sp:World->Sp}{x:Str}
  (hn:l.most=some n) (hn2:n<=ah) (hdf:d.params.defaults=[]) (hr:Room k ma)
  (hY:∀(w:World) (h:Heap),YP w h->(K w.params).In h)
  (F:∀(w:World) (mg:Str->Option Value) (fa:Addr) (h:Heap),(K w.params).In h->h.Ns bc mg->mg d.name=some (.ref fa)->∃fd:cu,(∀(s:aa) (u:Value),nj s fd ⟨[u],[]⟩ [(x,u)])/\∀base:Heap,(K w.params).In base->base.Ns bc mg->FnOk l.prog w (K w.params) mg base (CX w) k fa fd [x] (sp w))
  (hsp:∀(w:World) (H:Hp) (a:Addr) (ns:List Int),ns.length<=n->Only H->SqL (K w.params) H a (ns.map V.int)->sp w [.ref a] H (fun v _=>v=.bl true) fun _ _ _=>False)
  (hCX:∀(w:World) (H:Hp) (s:aa) (e:Value) (s':aa),CX w [] H s (fun _ _ _=>False) e s'->False):
  W.WalkO q loose XP YP l.row.toRowW d [] (fun f vs=>PySem.call f vs):=by
 refine Att.attach_call hn hdf fun w s₀ s₁ mg mb fa o pm cd doc a vs ns G Y ho hd hcd hmg hobj hints hlen hg=>?_;have KX:=hY w _ Y;obtain⟨fd,hb,hF⟩:=F w mg fa _ KX G.T.g hmg;exact zb5 KX G.T.g G.T.b G.T.builtins G.T.nolimit hg hobj hints (cb hlen hn2) hr hF hb (fun H hO hS=>hsp w H a ns hlen hO hS) fun H e s'=>hCX w H s₁ e s'
def z0s (s:Stmt):Arguments:=match s with
 |.FunctionDef _ a _ _ _ _ _ _ _ _=>a
 |_=>{posonlyargs:=[],args:=[],vararg:=none,kwonlyargs:=[],kw_defaults:=[],kwarg:=none,defaults:=[]}
def z06 (s:Stmt):List Stmt:=match s with
 |.FunctionDef _ _ b _ _ _ _ _ _ _=>b
 |_=>[]
def z03 (s:Stmt):Scope:=match s with
 |.FunctionDef _ _ _ _ _ _ sc _ _ _=>sc
 |_=>{kind:=.function,names:=[],isGenerator:=false,isCoroutine:=false}
abbrev CX0:CXT:=fun _ _ _ _ _ _=>False
abbrev E0:XK:=fun _ _ _=>False
theorem zlz {X:Cx}:z1y CX0 X E0:=fun _ _ _ _ _ _ _ h=>h.elim
structure Fun (K:W.Frag)(x qual:Str)(st:Stmt)(f:Addr)(fd:cu):Prop where
 ex:∃(oc:Value) (od:Option Addr) (kV doc pm:Value) (an:Option Addr) (cdv ct:Value) (osl:Array (Option Value)),fd=W.fnOf x qual (z0s st) (z06 st) (z03 st) .none kV doc pm an cdv ct/\K.lookup f=some ⟨oc,od,.func fd,osl⟩/\W.codeIn K cdv qual=true
 kp:W.keepIn K (.ref f)=true
section
variable {P:am}{w:World}{K:W.Frag}{mg:Str->Option Value}{base:Heap}
theorem Fun.ok {x qual:Str}{st:Stmt}{f:Addr}{fd:cu}{N ps:List Str}{k:Nat}{sp:Sp}(F:Fun K x qual st f fd)(S:FnScope N ps (z03 st))(len:∀vs H Q E,sp vs H Q E->vs.length=ps.length)
  (hbody:∀(cdv:Value) (A:bz) (outer:List Env) (s:aa) (H:Hp) (vs:List V) (Q:VK) (E:XK),Room k (A.deeper (lw qual (z03 st) s.heap.objs.size f cdv))->sp vs H Q E->∃t,PSs (cxOf CX0 P w K mg base N qual (z03 st) f cdv A outer s H E).nox (z06 st) t/\t {nx:=fun _ H'=>Q .non H',rt:=Q} (start N vs) H):FnOk P w K mg base CX0 (k+1) f fd ps sp:=by
 obtain⟨oc,od,kV,doc,pm,an,cdv,ct,osl,rfl,lk,hcd⟩:=F.ex;refine zcv lk hcd S len fun A outer s H vs Q E hr hsp=>?_;obtain⟨t,h,q⟩:=hbody cdv A outer s H vs Q E hr hsp;exact⟨t,h.nox,q⟩
theorem Fun.binds {x qual:Str}{st:Stmt}{f:Addr}{fd:cu}{ps:List Str}(F:Fun K x qual st f fd)
  (h:∀(kV doc pm:Value) (an:Option Addr) (cdv ct:Value) (us:List Value),us.length=ps.length->ot (W.fnOf x qual (z0s st) (z06 st) (z03 st) .none kV doc pm an cdv ct) ⟨us,[]⟩=pure (ps.zip us)):Binds K fd ps []:=by
 obtain⟨oc,od,kV,doc,pm,an,cdv,ct,osl,rfl,lk,hcd⟩:=F.ex;exact .all (h kV doc pm an cdv ct)
theorem z87 {x qual:Str}{st:Stmt}{f:Addr}{oc:Value}{od an:Option Addr}{osl:Array (Option Value)}{kV doc pm cdv ct:Value}(l:K.lookup f=some ⟨oc,od,.func (W.fnOf x qual (z0s st) (z06 st) (z03 st) .none kV doc pm an cdv ct),osl⟩) (c:W.codeIn K cdv qual=true) (k:W.keepIn K (.ref f)=true):Fun K x qual st f (W.fnOf x qual (z0s st) (z06 st) (z03 st) .none kV doc pm an cdv ct):=⟨⟨oc,od,kV,doc,pm,an,cdv,ct,osl,rfl,l,c⟩,k⟩
end
section
variable {X:Cx}
end
theorem iteF {A B:Prop}(h:B):if false=true then A else B:=by rw[if_neg bf];exact h
theorem iteT {A B:Prop}(h:A):if true=true then A else B:=by rw[if_pos rfl];exact h
def Same (H H':Hp):Prop:=∀b o,H b=some o->H' b=some o
theorem Same.refl (H:Hp):Same H H:=fun _ _ h=>h
theorem Same.trans {H H1 H2:Hp}(a:Same H H1)(b:Same H1 H2):Same H H2:=fun c o h=>b c o (a c o h)
theorem Same.free {H H':Hp}(e:Same H H'){l:Addr}(h:H' l=Option.none):H l=Option.none:=by
 cases q:H l with
 |none=>rfl
 |some o=>rw[e l o q]at h;cases h
theorem Same.seq {K:W.Frag}{H H':Hp}{a:Addr}{xs:List V}(e:Same H H')(h:SqL K H a xs):SqL K H' a xs:=by
 rcases h with(h|⟨o,h⟩)|h
 ·exact .inl (.inl (e _ _ h))
 ·exact .inl (.inr ⟨o,e _ _ h⟩)
 ·exact .inr h
section
variable {X:Cx}
theorem z8g:CallR X (.builtin "len") (fun xs H Q=>∃a kvs,xs=[V.ref a]/\H a=some (.dK kvs)/\Q (.int kvs.length) H):=by intro pins s σ H xs us Q I r h;obtain⟨a,kvs,rfl,ha,q⟩:=h;obtain⟨u,rfl,ru⟩:=vals1 r;cases ru;exact zmp I (.inl ha) fun t s' I'=>⟨.int kvs.length,H,I',⟨t,rfl⟩,q⟩
end
section
variable {κ:Type} [DecidableEq κ]
end
end L2
set_option maxHeartbeats 5000000
namespace L2
open PySem PySem.Spec PyProof.Rows
def clOf (env:Env):List (Str×dt)->List (Str×Addr)->List (Str×Addr)
 | [],cs=>cs
 |(n,k)::r,cs=>clOf env r (if(k==.free)=true then(n,(env.cells.lookup n).getD 0)::cs else cs)
theorem z62 {env:Env}{x:Str}:∀(l:List (Str×dt)) (cs:List (Str×Addr)),(∃c,cs.lookup x=some c)->∃c,(clOf env l cs).lookup x=some c
 | [],cs,h=>h
 |(n,k)::r,cs,h=>by
  unfold clOf;refine z62 r _ ?_;split
  ·by_cases e:(x==n)=true
   ·exact⟨_,by rw[cq,e]⟩
   ·obtain⟨c,hc⟩:=h;exact⟨c,by rw[cq,ny.mpr e];exact hc⟩
  ·exact h
theorem z2z {env:Env}{x:Str}:∀(l:List (Str×dt)) (cs:List (Str×Addr)),l.lookup x=some .free->∃c,(clOf env l cs).lookup x=some c
 | [],cs,h=>by simp at h
 |(n,k)::r,cs,h=>by
  rw[cq]at h;unfold clOf;cases e:(x==n)with
  |true=>rw[e]at h;have hk:k=.free:=Option.some.inj h;subst hk;exact z62 r _ ⟨_,by rw[if_pos (by rfl),cq,e]⟩
  |false=>rw[e]at h;exact z2z r _ h
theorem z9f {env:Env}:∀(l:List (Str×dt)) (cs:List (Str×Addr)),(∀y∈l,y.2=.free->∃c,env.cells.lookup y.1=some c)->(∀x c,cs.lookup x=some c->env.cells.lookup x=some c)->
  ∀x c,(clOf env l cs).lookup x=some c->env.cells.lookup x=some c
 | [],cs,_,h=>h
 |(n,k)::r,cs,hl,h=>by
  unfold clOf;refine z9f r _ (fun y hy=>hl y (ao _ hy)) fun x c hx=>?_;by_cases hk:(k==NameKind.free)=true
  ·rw[if_pos hk,cq]at hx;cases e:(x==n)with
   |true=>
    rw[e]at hx;have hxn:x=n:=by simpa using e
    obtain⟨d,hd⟩:=hl (n,k) av (by simpa using hk);have hd':env.cells.lookup n=some d:=hd;rw[hd']at hx;rw[hxn,hd'];exact hx
   |false=>rw[e]at hx;exact h x c hx
  ·rw[if_neg hk]at hx;exact h x c hx
theorem z1z {env:Env}{scope:Scope}(h:∀y∈scope.names,y.2=.free->∃c,env.cells.lookup y.1=some c):closureFor scope env=pure (clOf env scope.names []):=by
 have go:∀(l:List (Str×dt)) (cs:List (Str×Addr)),(∀y∈l,y.2=.free->∃c,env.cells.lookup y.1=some c)->
   (forIn l cs fun(x:Str×dt) (r:List (Str×Addr))=>if(x.2==NameKind.free)=true then(do let a <-cellOf env x.1;pure (ForInStep.yield ((x.1,a)::r)):Sem _)else pure (ForInStep.yield r))=(pure (clOf env l cs):Sem _):=by
  intro l
  induction l with
  |nil=>intro cs _;rfl
  |cons y r ih=>
   intro cs hl;obtain⟨n,k⟩:=y;rw[List.forIn_cons];unfold clOf;by_cases hk:(k==NameKind.free)=true
   ·obtain⟨c,hc⟩:=hl (n,k) av (by simpa using hk);have hc':env.cells.lookup n=some c:=hc;have e:cellOf env n=pure c:=by unfold cellOf;rw[hc']
    rw[if_pos hk,if_pos hk]
    dsimp only
    rw[e,hc'];exact ih ((n,c)::cs) fun y hy=>hl y (ao _ hy)
   ·rw[if_neg hk,if_neg hk];exact ih cs fun y hy=>hl y (ao _ hy)
 unfold closureFor;have:=go scope.names [] h
 first
  |exact this
  |(show(forIn scope.names [] _>>=fun r=>pure r)=_;rw[show(forIn scope.names ([]:List (Str×Addr)) _:Sem _)=_ from this];rfl)
theorem z70 {scope:Scope}{env:Env}(hc:∀y∈scope.names,y.2≠.cell){x:Str}:
  (pe scope env).names.lookup x=some .cell\/(pe scope env).names.lookup x=some .free->scope.names.lookup x=some .free:=by
 have go:∀(l:List (Str×dt)),(∀y∈l,y.2≠ .cell)->∀k,(k=NameKind.cell\/k=NameKind.free)->
   (l.map fun(n,k)=>if(k==.free&&env.scope.kind==.function&&env.kindOf n==some .cell)then(n,NameKind.cell)else(n,k)).lookup x=some k->l.lookup x=some .free:=by
  intro l
  induction l with
  |nil=>intro _ k _ h;simp at h
  |cons y r ih=>
   intro hl k hk h;obtain⟨n,q⟩:=y;rw[bg]at h;rw[cq];by_cases c:(q==NameKind.free&&env.scope.kind==.function&&env.kindOf n==some .cell)=true
   ·have hq:q=.free:=by
     simp only[aj]at c;simpa using c.1.1
    dsimp only at h
    rw[if_pos c,cq]at h;cases e:(x==n)with
    |true=>rw[hq]
    |false=>rw[e]at h;exact ih (fun y hy=>hl y (ao _ hy)) k hk h
   ·dsimp only at h
    rw[if_neg c,cq]at h;cases e:(x==n)with
    |true=>
     rw[e]at h;have hq:q=k:=Option.some.inj h;rcases hk with hk|hk
     ·exact absurd (hq.trans hk) (hl (n,q) av)
     ·show some q=some .free;rw[hq,hk]
    |false=>rw[e]at h;exact ih (fun y hy=>hl y (ao _ hy)) k hk h
 rintro(h|h)
 ·exact go scope.names hc .cell (.inl rfl) h
 ·exact go scope.names hc .free (.inr rfl) h
def blk (X:Cx)(scope:Scope)(N':List Str)(C:Addr)(fp:List Addr)(s:aa)(H:Hp):Cx:={X with N:=N',s₀:=s,H₀:=H,env:=compEnvC scope (clOf X.env scope.names []) C X.env,outer:=X.stack,stack:=X.stack,ex:=fp,fn:=fun _=>false,xe:=fun _ _=>False,fx:=none}
structure BlkScope (X:Cx)(scope:Scope)(N':List Str)(nt:Nat)(js:List Nat):Prop where
 kind:scope.kind=.function
 nocell:∀y∈scope.names,y.2≠.cell
 names:∀y∈scope.names,y.2=.local->scope.names.lookup y.1=some .local
 frees:∀y∈scope.names,y.2=.free->X.env.scope.names.lookup y.1=some .cell\/X.env.scope.names.lookup y.1=some .free
 nd:N'.Nodup
 len:N'.length=nt+js.length
 pl:∀(i j:Nat),js[i]?=some j->N'[nt+i]?=X.N[j]?/\∃x,X.N[j]?=some x/\scope.names.lookup x=some .free
def blkB (NX:List Str)(sc0 scope:Scope)(N':List Str)(nt:Nat)(js:List Nat):Bool:=
 (scope.kind==.function)&&scope.names.all (fun y=>!(y.2==.cell))&&scope.names.all (fun y=>!(y.2==.local)||(scope.names.lookup y.1==some .local))&&
 scope.names.all (fun y=>!(y.2==.free)||(sc0.names.lookup y.1==some .cell)||(sc0.names.lookup y.1==some .free))&&decide N'.Nodup&&(N'.length==nt+js.length)&&
 (N'.drop nt==js.map fun j=>NX.getD j "")&&js.all (fun j=>decide (j<NX.length)&&(scope.names.lookup (NX.getD j "")==some .free))
theorem zga {X:Cx}{NX:List Str}{sc0 scope:Scope}{N':List Str}{nt:Nat}{js:List Nat}(hN:X.N=NX)(hs:X.env.scope=sc0)(h:blkB NX sc0 scope N' nt js=true):BlkScope X scope N' nt js:=by
 unfold blkB at h;simp only[aj,br,decide_eq_true_eq,beq_iff_eq,li,nz,beq_eq_false_iff_ne]at h;obtain⟨⟨⟨⟨⟨⟨⟨h1,h2⟩,h3⟩,h4⟩,h5⟩,h6⟩,h7⟩,h8⟩:=h;refine⟨h1,h2,fun y hy e=>(h3 y hy).resolve_left (fun z=>z e),fun y hy e=>?_,h5,h6,fun i j hj=>?_⟩
 ·rw[hs];rcases h4 y hy with(z|z)|z
  ·exact absurd e z
  ·exact .inl z
  ·exact .inr z
 ·obtain⟨a,b⟩:=h8 j (bu hj);have e:X.N[j]?=some (NX.getD j ""):=by rw[hN,bh a,ca,bh a];rfl
  refine⟨?_,_,e,b⟩;rw[e,<-List.getElem?_drop,h7,az,hj];rfl
def emb (nt:Nat)(js:List Nat)(σ:St):St:=ai nt none++js.map fun j=>σ.getD j none
section
variable {X:Cx}{scope:Scope}{N':List Str}{nt:Nat}{js:List Nat}
theorem ze3 {pins:List (Addr×Obj)}{σ:St}{H:Hp}{s:aa}{fp:List Addr}{h1:Heap}{m1:Str->Option Value}{t1:Nat}(B:BlkScope X scope N' nt js)(I:Inv X pins σ H s)
  (hfp:∀b∈fp,FpOk X pins H b) (hob:∀b∈fp,∃o,s.heap.get? b=some o)
  (k:∀b o,s.heap.get? b=some o->h1.get? b=some o) (hn:h1.Ns s.heap.objs.size m1):
  Inv (blk X scope N' s.heap.objs.size fp s H) pins (emb nt js σ) H {s with heap:=h1,toks:=t1}:=by
 have hcs:∀y∈scope.names,y.2=.free->∃c,X.env.cells.lookup y.1=some c:=fun y hy hf=>I.ok.has y.1 (B.frees y hy hf);have hcl:∀x c,(clOf X.env scope.names []).lookup x=some c->X.env.cells.lookup x=some c:=z9f _ _ hcs (fun x c h=>by simp at h);have lt:∀b o,s.heap.get? b=some o->b≠s.heap.objs.size:=fun b o e=>cg (ax e);have hf:H s.heap.objs.size=none:=I.hok.fresh (ak _);refine⟨⟨I.ok.mod,B.kind,I.ok.glob,I.ok.blt,ak _,fun x y c h1 h2=>I.ok.inj x y c (hcl x c h1) (hcl y c h2),fun x hx=>z2z _ _ (z70 B.nocell hx),fun x c h=>(by cases h),I.ok.hd,I.ok.frames,.inl rfl,fun b hb=>?_,I.bs,cb I.ok.bsz I.sz,fun b o e hb=>?_,fun b hb hx=>?_,I.stack,I.stkFree,fun _ _ z=>by cases z⟩,rfl,I.bare,Un.kept k,⟨m1,hn,fun i x v e1 e2 e3=>?_⟩,fun x c e=>?_,hf,fun x c e=>I.freeC x c (hcl x c e),fun p hp=>?_,I.hok.kept k,?_,fun _ _ z=>by cases z⟩
 ·obtain⟨o,ho⟩:=hob b hb;exact⟨lt b o ho,fun x c h=>(hfp b hb).2.2.2.2.1 x c (hcl x c h)⟩
 ·rcases(hfp b hb).2.2.2.1 with z|z
  ·exact I.ok.noex b o e z
  ·exact absurd (bp (ax e) (cb I.ok.bsz z)) (de _)
 ·rcases a9.mp (I.stkSub b hx)with z|z
  ·exact(hfp b hb).2.1 z
  ·exact(hfp b hb).2.2.1 z
 ·--a name with a value:one of the frame's
  have hi:nt<=i:=by refine Nat.le_of_not_lt fun h=>?_;unfold emb at e2;rw[fj (by rw[bq];exact h),bo,if_pos h]at e2;cases e2
  unfold emb at e2;rw[fg (by rw[bq];exact hi),bq,az]at e2;cases ej:js[i-nt]? with
  |none=>rw[ej]at e2;cases e2
  |some j=>
   rw[ej]at e2;have e2':σ.getD j none=some v:=Option.some.inj e2;obtain⟨h1',y,hy,hfree⟩:=B.pl (i-nt) j ej;rw[md hi]at h1';have exy:x=y:=by have e1':N'[i]?=some x:=e1;rw[h1',hy]at e1';exact(Option.some.inj e1').symm
   subst exy
   have hσ:σ[j]?=some (some v):=by
    rw[ca]at e2';cases q:σ[j]? with
    |none=>rw[q]at e2';cases e2'
    |some z=>rw[q]at e2';exact congrArg some e2'
   have hfr:=B.frees (x,.free) (PySem.mem_of_lookup hfree) rfl;have hvis:Vis X.env.scope x:=hfr.elim (fun z=>.inr (.inl z)) (fun z=>.inr (.inr z));obtain⟨m,hnm,hl⟩:=I.loc;obtain⟨u,r,l⟩:=hl j x v hy hσ hvis;refine⟨u,r,?_⟩;rcases l with⟨hk,_⟩|⟨hk,c,hc,hcell⟩
   ·rcases hfr with z|z
    ·have hk':X.env.scope.names.lookup x=some .local:=hk;rw[z]at hk';cases hk'
    ·have hk':X.env.scope.names.lookup x=some .local:=hk;rw[z]at hk';cases hk'
   ·obtain⟨d,hd⟩:=z2z (env:=X.env) scope.names [] hfree;have hdc:d=c:=by have:=hcl x d hd;rw[hc]at this;cases this;rfl
    subst hdc;refine .inr ⟨?_,d,hd,?_⟩
    ·rcases e3 with z|z|z
     ·exfalso;have z':(pe scope X.env).names.lookup x=some .local:=z
      have:∀(l:List (Str×dt)),l.lookup x=some .free->(l.map fun(n,k)=>if(k==.free&&X.env.scope.kind==.function&&X.env.kindOf n==some .cell)then(n,NameKind.cell)else(n,k)).lookup x≠some .local:=by
       intro l
       induction l with
       |nil=>intro h;simp at h
       |cons y r ih=>
        intro h;obtain⟨n,q⟩:=y;rw[cq]at h;rw[bg]
        dsimp only
        cases e:(x==n)with
        |true=>
         rw[e]at h;have hq:q=.free:=Option.some.inj h;subst hq;split
         ·rw[cq,e];intro z;cases z
         ·rw[cq,e];intro z;cases z
        |false=>
         rw[e]at h;split
         ·rw[cq,e];exact ih h
         ·rw[cq,e];exact ih h
      exact this _ hfree z'
     ·exact .inl z
     ·exact .inr z
    ·obtain⟨o,ho,hd'⟩:=hcell;exact⟨o,k _ _ ho,hd'⟩
 ·obtain⟨v,o,ho,hd⟩:=I.cell x c (hcl x c e);exact⟨v,o,k _ _ ho,hd⟩
 ·obtain⟨q1,q2,q3,q4,q5⟩:=I.pin p hp;refine⟨k _ _ q1,q2,lt _ _ q1,fun z=>?_,q5⟩;rcases a9.mp (I.stkSub p.1 z)with z|z
  ·exact q3 z
  ·exact q4 z
 ·show(emb nt js σ).length=N'.length;unfold emb;rw[ba,bq,aw,B.len]
end
section
variable (M:Model)(A:bz)(env:Env)
abbrev calmX:Value->aa->Prop:=fun _ _=>False
def zmg (acc:Value)(Z:aa->Prop)(x:Value):aa->Prop:=wpAny M A (call (.builtin "list.append") [acc,x]) (fun _=>Z) calmX
def cElt (elt:Expr)(acc:Value)(Z:aa->Prop)(ok:Bool)(s:aa):Prop:=if ok=true then wpAny M A (eval elt env) (zmg M A acc Z) calmX s else Z s
def zm4 (ifs:List Expr)(elt:Expr)(acc:Value)(Z:aa->Prop):aa->Prop:=wpAny M A (forIn ifs true fun c r=>if r=true then(lr c env (eval c env)>>=fun ok=>pure (ForInStep.yield ok))else pure (ForInStep.yield r)) (cElt M A env elt acc Z) calmX
def cPut (tg:Expr)(ifs:List Expr)(elt:Expr)(acc:Value)(Z:aa->Prop)(v:Value):aa->Prop:=wpAny M A (kq tg env v) (fun _=>zm4 M A env ifs elt acc Z) calmX
def cVal (tg:Expr)(ifs:List Expr)(elt:Expr)(it acc:Value)(End Z:aa->Prop)(r:Option Value)(s:aa):Prop:=match r with
 |some v=>wpAny M A (i0 tg it v) (fun _=>cPut M A env tg ifs elt acc Z v) calmX s
 |none=>End s
end
theorem zdz {P:am}{w:World}{A:bz}{R:oq->aa->Prop}{s:aa}{elt tg iter:Expr}{ifs:List Expr}{scope:Scope}{pos:Pos}{it acc:Value}{env:Env}(I:Nat->aa->Prop)
  (one:∀k t,I k t->wpAny (model P w) A (pyNext it) (cVal (model P w) A env tg ifs elt it acc (R (.ok .next)) fun t'=>∃m,m<k/\I m t') calmX t) (n:Nat) (h:I n s):
  jn (model P w) A (.compLoop (.ListComp elt [⟨tg,iter,ifs,0⟩] scope pos) 0 it acc env) R s:=by
 apply codeAny_loop rfl I _ n h;intro k t hk;apply wpAny_noted;apply wpAny_noRaise;rw[compTurn_list];apply ag;apply j7;apply ag;refine thn (one k t hk) ?_
 rintro(_|v) t1 h1
 ·exact a0 h1
 apply ag;refine thn (show wpAny _ _ _ _ _ _ from h1) fun _ t2 h2=>?_;apply ag;refine thn (show wpAny _ _ _ _ _ _ from h2) fun _ t3 h3=>?_;apply ag;refine thn (show wpAny _ _ _ _ _ _ from h3) ?_
 rintro(_|_) t4 h4
 ·exact a0 ⟨rfl,h4⟩
 apply ag;apply ag;refine thn (show wpAny _ _ _ _ _ _ from h4) fun x t5 h5=>?_;apply ag;refine thn (show wpAny _ _ _ _ _ _ from h5) fun _ t6 h6=>?_;exact a0 (a0 ⟨rfl,h6⟩)
theorem Un.but {fs ex:List Addr}{H H1:Hp}{h h1 h':Heap}{C:Addr}(u:Un fs ex H H1 h h1)(hC:h.get? C=none)(sb:gj C h1 h'):Un fs ex H H1 h h':=by
 have ne:∀b o,h.get? b=some o->b≠C:=fun b o e z=>by rw[z,hC]at e;cases e
 exact⟨fun b o e n hb hx=>sb.extBut b o (ne b o e) (u.keep b o e n hb hx),fun b o e n hb hx=>let⟨sl,q⟩:=u.slot b o e n hb hx;⟨sl,sb.extBut b _ (ne b o e) q⟩,u.free,fun b o e hx=>let⟨o',q⟩:=u.there b o e hx;⟨o',sb.extBut b _ (ne b o e) q⟩,u.tups,u.frzs,u.tbls⟩
theorem HOk.but {P:am}{w:World}{H:Hp}{h h':Heap}{C:Addr}(ok:HOk P w H h)(hC:H C=none)(sb:gj C h h'):HOk P w H h':=fun a o e=>by
 refine(ok a o e).stay (fun b u hb q=>sb.extBut b u (fun z=>?_) q) (fun _ q=>q) fun _ _ q=>q;rcases hb with hb|hb
 ·rw[z]at hb;rw[<-hb,hC]at e;cases e
 ·rw[z,hC]at hb;cases hb
def PTs (X:Cx)(ifs:List Expr)(t:TT):Prop:=∀(pins:List (Addr×Obj)) (s:aa) (σ:St) (H:Hp) (Q:Bool->Hp->Prop),Inv X pins σ H s->t σ H Q->wpAny (model X.prog X.w) X.A (forIn ifs true fun c r=>if r=true then do let ok <-lr c X.env (eval c X.env);pure (ForInStep.yield ok)else pure (ForInStep.yield r)) (TP X pins σ Q) X.xe s
def tYes:TT:=fun _ H Q=>Q true H
theorem zf7 {X:Cx}:PTs X [] tYes:=fun _ _ _ H _ I h=>wpAny_tests_nil ⟨H,I,h⟩
theorem zeu {X:Cx}{c:Expr}{t:TT}(h:PT X c t):PTs X [c] t:=fun pins s σ H Q I q=>wpAny_tests_one (h pins s σ H Q I q)
def Keep (a b:St):Prop:=a.length=b.length/\∀(i:Nat) v,a[i]?=some (some v)->b[i]?=some (some v)
theorem Keep.refl (a:St):Keep a a:=⟨rfl,fun _ _ h=>h⟩
def tLC (wi:TI)(g:TG)(tc:TT)(te:TE)(em:St->St):TE:=fun σ H Q=>wi σ H fun J H1=>∀l,H1 l=none->∃P:Nat->Nat->List V->Hp->Prop,(∃m,P 0 m [] (upd H1 l (.lst [])))/\∀i m acc H2,P i m acc H2->(J.stop i H2/\Q (.ref l) H2)\/(J.go i H2/\acc.length<ah/\∃N:List V->Hp->Prop,(∀acc' H',N acc' H'->∃m',m'<m/\P (i+1) m' acc' H')/\∀x H3,J.yld i H2 x H3->g x (em σ) H3 fun σ4 H4=>Keep (em σ) σ4/\tc σ4 H4 fun b H5=>if b=true then te σ4 H5 fun y H6=>H6 l=some (.lst acc)/\N (acc++[y]) (upd H6 l (.lst (acc++[y])))else N acc H5)
section
variable {X:Cx}{scope:Scope}{N':List Str}{nt:Nat}{js:List Nat}{tg iter elt:Expr}{ifs:List Expr}{wi:TI}{g:TG}{tc:TT}{te:TE}{pos:Pos}
theorem z34 {pins:List (Addr×Obj)}{σ:St}{s2:aa}{Q:VK}{itv:Value}{E:Value->aa->Prop}{RR:Value->Addr->oq->aa->Prop}(hc:X.calm=true)(B:BlkScope X scope N' nt js)
  (hg:∀C fp s H,PG (blk X scope N' C fp s H) tg g) (ht:∀C fp s H,PTs (blk X scope N' C fp s H) ifs tc) (he:∀C fp s H,PE (blk X scope N' C fp s H) elt te)
  (h2:PIE X pins σ tg (fun J H1=>∀l,H1 l=none->∃P:Nat->Nat->List V->Hp->Prop,(∃m,P 0 m [] (upd H1 l (.lst [])))/\∀i m acc H2,P i m acc H2->(J.stop i H2/\Q (.ref l) H2)\/(J.go i H2/\acc.length<ah/\∃N:List V->Hp->Prop,(∀acc' H',N acc' H'->∃m',m'<m/\P (i+1) m' acc' H')/\∀x H3,J.yld i H2 x H3->g x (emb nt js σ) H3 fun σ4 H4=>Keep (emb nt js σ) σ4/\tc σ4 H4 fun b H5=>
  if b=true then te σ4 H5 fun y H6=>H6 l=some (.lst acc)/\N (acc++[y]) (upd H6 l (.lst (acc++[y])))else N acc H5)) itv s2)
  (hRR:∀(l C:Addr) (H':Hp) (s1:aa),(∃m,s1.heap.Ns C m)->H' C=none->C≠X.env.locals->C∉X.fs->(∀x c,X.env.cells.lookup x=some c->c≠C)->X.s₀.heap.objs.size<=C->(∀p∈X.pn++pins,p.1≠C)->(∀h',gj C s1.heap h'->Inv X pins σ H' {s1 with heap:=h'})->Q (.ref l) H'->RR (.ref l) C (.ok .next) s1):
  wpAny (model X.prog X.w) X.A (newList []) (fun acc s₃=>wpAny (model X.prog X.w) X.A (newFunctionEnv scope X.env.globals (clOf X.env scope.names []) [] X.env.qual none .none (some X.env)) (fun cenv s₄=>jn (model X.prog X.w) X.A (.compStart (.ListComp elt [⟨tg,iter,ifs,0⟩] scope pos) 0 itv acc {cenv with scope:=pe scope X.env}) (RR acc cenv.locals) s₄) E s₃) E s2:=by
 obtain⟨it,fp,tn,J,H2,rfl,I2,T,st2,f2,q⟩:=h2;refine gv (wpAny_newFunctionEnv B.nocell (by intro y hy;simp at hy) (fun h₁ hns₁ hsb₁=>?_) B.kind)
 dsimp only at hns₁ hsb₁ ⊢
 have hob2:∀b∈fp,∃o,s2.heap.get? b=some o:=fun b hb=>let⟨o,e,_⟩:=T.obj 0 _ st2 b hb;⟨o,e⟩;have hl:H2 s2.heap.objs.size=none:=I2.hok.fresh (ak _);have I3:=I2.lnew (ys:=[]) (its:=[]) (t':=s2.toks) .nil (cj _);obtain⟨P,⟨m0,p0⟩,turn⟩:=q _ hl;generalize hHh:s2.heap.push {cls:=.type "list",dict:=none,data:=.seq ([]:List Value).toArray}=Hh at hns₁ hsb₁ I3 ⊢;generalize hlv:s2.heap.objs.size=l at hl I3 p0 turn ⊢;have old2:∀b o,s2.heap.get? b=some o->Hh.get? b=some o:=fun b o e=>hHh▸au _ e;have k:∀b o,Hh.get? b=some o->h₁.get? b=some o:=fun b o e=>hsb₁.extBut b o (cg (ax e)) (au _ e)
 have f3:∀b∈fp,FpOk X pins (upd H2 l (.lst [])) b:=fun b hb=>by
  obtain⟨o,e⟩:=hob2 b hb;have nl:b≠l:=by rw[<-hlv];exact cg (ax e)
  exact⟨by rw[z01 nl];exact(f2 b hb).1,(f2 b hb).2⟩
 have hob3:∀b∈fp,∃o,Hh.get? b=some o:=fun b hb=>let⟨o,e⟩:=hob2 b hb;⟨o,old2 b o e⟩;have J0:=ze3 (s:={s2 with heap:=Hh,toks:=s2.toks}) (t1:=s2.toks+([]:List (Str×Value)).length) B I3 f3 hob3 k hns₁;have stA:∀{H':Hp},(∀b∈fp,H' b=none)->∀b∈fp,FpOk (blk X scope N' Hh.objs.size fp {s2 with heap:=Hh,toks:=s2.toks} (upd H2 l (.lst []))) pins H' b:=fun hn b hb=>⟨hn b hb,(J0.ok.exf b hb).1,J0.ok.exfs b hb,.inl hb,(J0.ok.exf b hb).2,(f2 b hb).2.2.2.2.2⟩;have hCn:Hh.get? Hh.objs.size=none:=lq (ak _);have out:∀{H':Hp} {s1:aa},Inv (blk X scope N' Hh.objs.size fp {s2 with heap:=Hh,toks:=s2.toks} (upd H2 l (.lst []))) pins (emb nt js σ) H' s1->∀h',gj Hh.objs.size s1.heap h'->Inv X pins σ H' {s1 with heap:=h'}:=fun{H' s1} Jn h' sb=>by refine I3.call' (s':={s1 with heap:=h'}) (ch:=fp) Jn.os (Un.but Jn.base hCn sb) (Jn.hok.but Jn.free sb) Jn.bare fun b hb=>?_;exact⟨(f3 b hb).2.2.2.1,(f3 b hb).2.1,(f3 b hb).2.2.2.2.1,(f3 b hb).2.2.2.2.2⟩
 have nL:Hh.objs.size≠X.env.locals:=Nat.ne_of_gt (I3.lt);have nF:Hh.objs.size∉X.fs:=I3.nofs (ak _);have nC:∀x c,X.env.cells.lookup x=some c->c≠Hh.objs.size:=fun x c e z=>by obtain⟨v,q⟩:=I3.cell x c e;exact absurd q.lt (by rw[z];exact de _)
 have nS:X.s₀.heap.objs.size<=Hh.objs.size:=I3.sz;have nP:∀p∈X.pn++pins,p.1≠Hh.objs.size:=fun p hp=>cg (ax (I3.pin p hp).1)
 have loop:∀s₃:aa,s₃={s2 with heap:=h₁,toks:=s2.toks+([]:List (Str×Value)).length}->
   jn (model X.prog X.w) X.A (.compLoop (.ListComp elt [⟨tg,iter,ifs,0⟩] scope pos) 0 (.ref it) (.ref l) (compEnvC scope (clOf X.env scope.names []) Hh.objs.size X.env)) (RR (.ref l) Hh.objs.size) s₃:=by
  rintro s₃ rfl
  refine zdz (fun n s'=>∃i acc H',Inv (blk X scope N' Hh.objs.size fp {s2 with heap:=Hh,toks:=s2.toks} (upd H2 l (.lst []))) pins (emb nt js σ) H' s'/\tn i s'.heap/\(∀b∈fp,H' b=none)/\P i n acc H') ?_ m0 ⟨0,[],_,J0,T.keep _ _ _ st2 fun b _ o e=>k b o (old2 b o e),fun b hb=>(f3 b hb).1,p0⟩
  rintro n s3 ⟨i,acc,H3,Jn,st3,fr3,w3⟩
  rcases turn i n acc H3 w3 with⟨stop,qn⟩|⟨go,hz8,N,hN,step⟩
  ·refine thn (T.done (blk X scope N' Hh.objs.size fp {s2 with heap:=Hh,toks:=s2.toks} (upd H2 l (.lst []))) rfl rfl rfl hc i pins s3 _ H3 (fun _ _=>False) Jn (stA fr3) st3 stop) fun r s4 ⟨hr,I4⟩=>?_;subst hr;obtain⟨m,hn,_⟩:=id I4.loc;exact hRR l Hh.objs.size H3 s4 ⟨m,hn⟩ I4.free nL nF nC nS nP (out I4) qn
  ·refine thn (T.item (blk X scope N' Hh.objs.size fp {s2 with heap:=Hh,toks:=s2.toks} (upd H2 l (.lst []))) rfl rfl rfl hc i pins s3 _ H3 (fun _ _=>False) Jn (stA fr3) st3 go) fun r s4 ⟨u,hr,h4⟩=>?_;subst hr;refine thn h4 fun _ s5 ⟨x,H5,I5,r5,y5,st5,fr5⟩=>?_;have I5':=I5.pinned (stA fr5) (T.obj _ _ st5);refine thn (hg _ _ _ _ _ s5 _ H5 x u _ I5' r5 (step x H5 y5)) fun _ s6 ⟨σ6,H6,I6,kp,q6⟩=>?_;refine thn (ht _ _ _ _ _ s6 σ6 H6 _ I6 q6) fun b s7 ⟨H7,I7,q7⟩=>?_
   have again:∀{s7:aa} {H7:Hp} {acc':List V},Inv (blk X scope N' Hh.objs.size fp {s2 with heap:=Hh,toks:=s2.toks} (upd H2 l (.lst []))) (pins++z3v fp s5.heap) σ6 H7 s7->N acc' H7->
     ∃m,m<n/\∃i acc H',Inv (blk X scope N' Hh.objs.size fp {s2 with heap:=Hh,toks:=s2.toks} (upd H2 l (.lst []))) pins (emb nt js σ) H' s7/\tn i s7.heap/\(∀b∈fp,H' b=none)/\P i m acc H':=fun{s7 H7 acc'} I7 w7=>by
    obtain⟨n',hm,w7⟩:=hN _ _ w7;refine⟨n',hm,i+1,acc',H7,(I7.unpinned).weak kp.1 kp.2,T.keep _ _ _ st5 fun b hb o e=>(I7.pin (b,o) (bj _ (bj _ (z1m hb e)))).1,fun b hb=>?_,w7⟩;obtain⟨o,e,d⟩:=T.obj _ _ st5 b hb;exact(I7.pin (b,o) (bj _ (bj _ (z1m hb e)))).2.1
   cases b with
   |false=>rw[if_neg bf]at q7;unfold cElt;rw[if_neg bf];exact again I7 q7
   |true=>rw[if_pos rfl]at q7;unfold cElt;rw[if_pos rfl];refine thn (he _ _ _ _ _ s7 σ6 H7 _ I7 q7) fun y' s8 ⟨y,H8,I8,r8,hl8,w8⟩=>?_;refine thn (z1p _ s8 σ6 H8 (.ref l) [y] (.ref l) [y'] (fun _ H9=>N (acc++[y]) H9) I8 rfl (.cons r8 .nil) ⟨l,acc,y,rfl,rfl,hl8,hz8,w8⟩) fun _ s9 ⟨v9,H9,I9,r9,w9⟩=>?_;exact again I9 w9
 exact codeAny_compStart_list (loop _ rfl) (T.self _ 0 _ _ _ (T.keep _ _ _ st2 fun b _ o e=>k b o (old2 b o e)) (loop _ rfl))
theorem zbs (hc:X.calm=true)(B:BlkScope X scope N' nt js)(hi:PI X tg iter wi)
  (hg:∀C fp s H,PG (blk X scope N' C fp s H) tg g) (ht:∀C fp s H,PTs (blk X scope N' C fp s H) ifs tc) (he:∀C fp s H,PE (blk X scope N' C fp s H) elt te)
  (hs:∀x,dr iter X.env x=pure x:=by intro _;rfl):PE X (.ListComp elt [⟨tg,iter,ifs,0⟩] scope pos) (tLC wi g tc te (emb nt js)):=by
 intro pins s σ H Q I h;rw[eval_ListComp];refine j8 (use:=none) rfl hs (z1z fun y hy hf=>I.ok.has y.1 (B.frees y hy hf)) B.kind B.names (thn (hi pins s σ H _ I h) fun v s1 h1=>thn h1 fun itv s2 h2=>?_);refine z34 (RR:=fun acc C=>compPost (model X.prog X.w) X.A X.xe none (EP X pins σ Q) acc C) hc B hg ht he h2 ?_;intro l C H' s1 ns _ _ _ _ _ _ out q;obtain⟨m,hn⟩:=ns;exact⟨m,hn,fun h' sb=>⟨.ref l,H',out h' sb,rfl,q⟩⟩
def zfp (i:Nat)(t:TE):TS:=fun D σ H=>t σ H fun v H1=>D.nx (σ.set i (some v)) H1
theorem zb9 {y:Str}{py spos:Pos}{i:Nat}(hc:X.calm=true)(hN:X.N.Nodup)(hy:X.N[i]?=some y)(hl:X.env.scope.names.lookup y=some .local)(B:BlkScope X scope N' nt js)(hi:PI X tg iter wi)
  (hg:∀C fp s H,PG (blk X scope N' C fp s H) tg g) (ht:∀C fp s H,PTs (blk X scope N' C fp s H) ifs tc) (he:∀C fp s H,PE (blk X scope N' C fp s H) elt te)
  (hsw:i8 (.ListComp elt [⟨tg,iter,ifs,0⟩] scope pos) (some (.Name y py)) spos.line X.env=pure true)
  (hs:∀x,dr iter X.env x=pure x:=by intro _;rfl):PS X (.Assign [.Name y py] (.ListComp elt [⟨tg,iter,ifs,0⟩] scope pos) spos) (zfp i (tLC wi g tc te (emb nt js))):=by
 intro pins s σ H D I h;have ex:=exec_Assign_Name_used _ _ _ _ hsw;rw[ex];apply ag;apply j7;apply ag;show wpAny _ X.A (do let _ <-comprehension (.ListComp elt [⟨tg,iter,ifs,0⟩] scope pos) scope X.env _ (newList []) false (eval iter X.env) (some (kq (.Name y py) X.env))) _ _ s;refine ag (gk (j8 (use:=some (kq (.Name y py) X.env)) (Q:=fun _ s'=>SP X pins D .next s') rfl hs (z1z fun z hz hf=>I.ok.has z.1 (B.frees z hz hf)) B.kind B.names (thn (hi pins s σ H _ I h) fun v s1 h1=>thn h1 fun itv s2 h2=>?_)) (fun _ s' hq=>a0 (a0 hq)) fun _ _ e=>e);refine z34 (Q:=fun v H1=>D.nx (σ.set i (some v)) H1) (RR:=fun acc C=>compPost (model X.prog X.w) X.A X.xe (some (kq (.Name y py) X.env)) (fun _ s'=>SP X pins D .next s') acc C) hc B hg ht he h2 ?_;intro l C H' s1 ns hH nL nF nC nS nP out q;obtain⟨m,hn⟩:=ns;have I1:Inv X pins σ H' s1:=out s1.heap (.refl ..);obtain⟨oC,es,ep,hoC,hdC,hrC⟩:=id hn
 have I2:Inv X (pins++[(C,oC)]) σ H' s1:=I1.pins_of fun p hp=>(et.mp hp).elim (fun z=>I1.pin p (bj _ z)) fun z=>by
  have e:p=(C,oC):=by simpa using z
  subst e;exact⟨hoC,hH,nL,nF,fun v z=>by have z':oC.data=.cell v:=z;rw[hdC]at z';cases z'⟩
 show wpAny _ X.A (kq (.Name y py) X.env (.ref l)) _ _ s1;refine nc (z3t I2 hN hy (.inl hl) (v:=.ref l) rfl (fun s'' I''=>?_) (.inr hl));have hC2:=(I''.pin (C,oC) (bj _ (bj _ (dm.mpr rfl)))).1;refine⟨m,⟨oC,es,ep,hC2,hdC,hrC⟩,fun h' sb=>⟨_,H',?_,q⟩⟩;exact(I''.unpinned).turned (t':=s''.toks) (fun b o hb e=>sb.extBut b o hb e) hH nL (.inr nS) nC nP
end
def Its (z:Str):It:=⟨fun i _=>i<z.cps.size,fun i H x H'=>H'=H/\∃c,z.cps[i]?=some c/\x=.str ⟨#[c]⟩,fun i _=>z.cps.size<=i⟩
theorem zb6 {P:am}{w:World}{K:W.Frag}{tg:Expr}{ty:String}(hty:ty="str_ascii_iterator"\/ty="str_iterator")(it:Addr)(z:Str)(t:Tok):Turn P w K tg (Its z) [it] it (fun i h=>h.IsStrIter it ty z t i) where
 mem:=by simp
 obj:=fun i h st b hb=>by
  have e:b=it:=by simpa using hb
  subst e;obtain⟨o,e,c,d⟩:=st;exact⟨o,e,fun v z=>by rw[d]at z;cases z⟩
 keep:=fun i h h' st k=>let⟨o,e,r⟩:=st;⟨o,k it (by simp) o e,r⟩
 item:=by
  intro X hP hw hK hc i pins s σ H E I hf st hg;subst hP hw hK;obtain⟨f0,f1,f2,f3,f4,f5⟩:=hf it (by simp);have hi:i<z.cps.size:=hg
  have fin:∀(u:Value) (h':Heap) (tk:Nat),SignAt z i u->h'.IsStrIter it ty z t (i+1)->(∀b o,b∉ [it]->s.heap.get? b=some o->h'.get? b=some o)->
    ∃u',some u=some u'/\wpAny (model X.prog X.w) X.A (i0 tg (.ref it) u') (fun _ s2=>∃x H',Inv X pins σ H' s2/\RelV x u'/\(Its z).yld i H x H'/\s2.heap.IsStrIter it ty z t (i+1)/\∀b∈[it],H' b=none) E {s with heap:=h',toks:=tk}:=by
   rintro u h' tk ⟨c,t',hx,rfl⟩ st' kk
   have I1:Inv X pins σ H {s with heap:=h',toks:=tk}:=I.turned (fun b o hb e=>kk b o (by simpa using hb) e) f0 f1 f3 f4 f5;obtain⟨o,e,cc,d⟩:=id st';exact⟨_,rfl,z8e (s:={s with heap:=h',toks:=tk}) e cc d (by rcases hty with rfl|rfl<;>decide) ⟨.str ⟨#[c]⟩,H,I1,⟨t',rfl⟩,⟨rfl,c,hx,rfl⟩,st',fun b hb=>(hf b hb).1⟩⟩
  rcases hty with rfl|rfl
  ·exact(Walks.strAscii (prog:=X.prog) (w:=X.w) (I.ok.hd hc) it z t).item i s _ _ hi st fun v h' tk hv st' kk=>fin v h' tk hv st' kk
  ·exact(Walks.strWide (prog:=X.prog) (w:=X.w) (I.ok.hd hc) it z t).item i s _ _ hi st fun v h' tk hv st' kk=>fin v h' tk hv st' kk
 done:=by
  intro X hP hw hK hc i pins s σ H E I hf st hg;subst hP hw hK;obtain⟨f0,f1,f2,f3,f4,f5⟩:=hf it (by simp);have hi:z.cps[i]?=none:=by have:z.cps.size<=i:=hg;simpa using this
  rcases hty with rfl|rfl
  ·exact wpAny_pyNext_ascii_end (I.ok.hd hc) st hi fun h' eb=>⟨rfl,I.turned (t':=s.toks) (fun b o hb e=>eb b o hb e) f0 f1 f3 f4 f5⟩
  ·exact wpAny_pyNext_wide_end (I.ok.hd hc) st hi fun h' eb=>⟨rfl,I.turned (t':=s.toks) (fun b o hb e=>eb b o hb e) f0 f1 f3 f4 f5⟩
 self:=fun _ _ _ _ _ st h=>by
  rcases hty with rfl|rfl
  ·exact wpAny_pyIter_striter_ascii st h
  ·exact wpAny_pyIter_striter_wide st h
section
variable {X:Cx}{tg:Expr}
end
theorem zml {J:It}{n:Nat}{g:TG}{tc:TT}{te:TE}{σ':St}{Q:VK}{H1:Hp}{l:Addr}(P:Nat->List V->Hp->Prop)(hn:n<=ah)(h0:P 0 [] (upd H1 l (.lst [])))
  (hlen:∀i acc H,P i acc H->acc.length<=i)
  (hstop:∀acc H,P n acc H->J.stop n H/\Q (.ref l) H) (hgo:∀i acc H,i<n->P i acc H->J.go i H)
  (turn:∀i acc H x H3,i<n->P i acc H->J.yld i H x H3->g x σ' H3 fun σ4 H4=>Keep σ' σ4/\tc σ4 H4 fun b H5=>if b=true then te σ4 H5 fun y H6=>H6 l=some (.lst acc)/\P (i+1) (acc++[y]) (upd H6 l (.lst (acc++[y])))else P (i+1) acc H5):
  ∃P:Nat->Nat->List V->Hp->Prop,(∃m,P 0 m [] (upd H1 l (.lst [])))/\∀i m acc H2,P i m acc H2->(J.stop i H2/\Q (.ref l) H2)\/(J.go i H2/\acc.length<ah/\∃N:List V->Hp->Prop,(∀acc' H',N acc' H'->∃m',m'<m/\P (i+1) m' acc' H')/\∀x H3,J.yld i H2 x H3->g x σ' H3 fun σ4 H4=>Keep σ' σ4/\tc σ4 H4 fun b H5=>if b=true then te σ4 H5 fun y H6=>H6 l=some (.lst acc)/\N (acc++[y]) (upd H6 l (.lst (acc++[y])))else N acc H5):=by
 refine⟨fun i m acc H=>i<=n/\m=n-i/\P i acc H,⟨n,cj _,rfl,h0⟩,?_⟩
 rintro i m acc H2 ⟨hi,rfl,p⟩
 by_cases hlt:i<n
 ·have hl:=hlen i acc H2 p;exact .inr ⟨hgo i acc H2 hlt p,by omega,P (i+1),fun acc' H' p'=>⟨n-(i+1),by omega,hlt,rfl,p'⟩,fun x H3 y=>turn i acc H2 x H3 hlt p y⟩
 ·have e:i=n:=by omega
  subst e;exact .inl (hstop acc H2 p)
section
variable {X:Cx}
theorem z8k:OpR X (bt .LtE) (fun x y H Q=>∃i j,x=.str i/\y=.str j/\Q (.bl (!decide (j.cps.toList<i.cps.toList))) H):=by intro pins s σ H x y v u Q I rx ry h;obtain⟨i,j,rfl,rfl,q⟩:=h;obtain⟨t,rfl⟩:=rx;obtain⟨t',rfl⟩:=ry;exact PySem.P.le_str ⟨.bl _,H,I,rfl,q⟩
theorem z9l:OpR X (bt .Gt) (fun x y H Q=>∃i j,x=.str i/\y=.str j/\Q (.bl (decide (j.cps.toList<i.cps.toList))) H):=by intro pins s σ H x y v u Q I rx ry h;obtain⟨i,j,rfl,rfl,q⟩:=h;obtain⟨t,rfl⟩:=rx;obtain⟨t',rfl⟩:=ry;exact PySem.P.gt_str ⟨.bl _,H,I,rfl,q⟩
def rSlS:V->Option Int->Option Int->Hp->VK->Prop:=fun x lo hi H Q=>∃z,x=.str z/\z.length<=ah/\Q (.str (Txt.slice z lo hi)) H
theorem z5n:SlR X rSlS:=by
 intro pins s σ H x v vl vu lo hi sl Q I rx hs pl pu h;obtain⟨z,rfl,hz,q⟩:=h;obtain⟨t,rfl⟩:=rx;refine⟨"str",_,PySem.F.slot_str_getitem.lookup,oy _ _ _,?_⟩;obtain⟨o,ho,hc,hd⟩:=hs;have fin:∀t' k,EP X pins σ Q (.str (Txt.slice z lo hi) t') {s with toks:=k}:=fun t' k=>⟨.str _,H,I.tok _,⟨_,rfl⟩,q⟩;cases pl with
 |none=>
  cases pu with
  |none=>exact gg (l:=none) (u:=none) (st:=none) ⟨o,ho,hc,hd⟩ rfl (jr ⟨cb (Txt.slice_le z _ _) hz,fin⟩)
  |int j tj=>exact gg (l:=none) (u:=some (j,tj)) (st:=none) ⟨o,ho,hc,hd⟩ rfl (jr ⟨cb (Txt.slice_le z _ _) hz,fin⟩)
 |int i ti=>
  cases pu with
  |none=>exact gg (l:=some (i,ti)) (u:=none) (st:=none) ⟨o,ho,hc,hd⟩ rfl (jr ⟨cb (Txt.slice_le z _ _) hz,fin⟩)
  |int j tj=>exact gg (l:=some (i,ti)) (u:=some (j,tj)) (st:=none) ⟨o,ho,hc,hd⟩ rfl (jr ⟨cb (Txt.slice_le z _ _) hz,fin⟩)
end
def Own (K:W.Frag)(mg:Str->Option Value)(x:Str)(st:Stmt)(ps:List Str):Prop:=∃f fd,Fun K x x st f fd/\mg x=some (.ref f)/\W.keepIn K (.ref f)=true/\Binds K fd ps []
def Cal (P:am)(w:World)(K:W.Frag)(mg:Str->Option Value)(base:Heap)(k:Nat)(x:Str)(ps:List Str)(sp:Sp):Prop:=∃f fd,FnOk P w K mg base CX0 k f fd ps sp/\mg x=some (.ref f)/\W.keepIn K (.ref f)=true/\Binds K fd ps []
section
variable {P:am}{w:World}{K:W.Frag}{mg:Str->Option Value}{base:Heap}
theorem zih {h:Heap}{x:Str}{st:Stmt}{f:Addr}{ps:List Str}{oc:Value}{od an:Option Addr}{osl:Array (Option Value)}{kV doc pm cdv ct:Value}(X:K.In h)(G:h.Ns bc mg)
  (a:W.nsIn K bc x=some (some (.ref f))) (l:K.lookup f=some ⟨oc,od,.func (W.fnOf x x (z0s st) (z06 st) (z03 st) .none kV doc pm an cdv ct),osl⟩) (c:W.codeIn K cdv x=true) (k:W.keepIn K (.ref f)=true)
  (b:∀(kV doc pm:Value) (an:Option Addr) (cdv ct:Value) (us:List Value),us.length=ps.length->ot (W.fnOf x x (z0s st) (z06 st) (z03 st) .none kV doc pm an cdv ct) ⟨us,[]⟩=pure (ps.zip us)):Own K mg x st ps:=
 ⟨f,_,z87 l c k,W.mg_of X G a,k,(z87 (st:=st) l c k).binds b⟩
theorem Cal.imp {k:Nat}{x:Str}{ps:List Str}{sp sp':Sp}(C:Cal P w K mg base k x ps sp)(h:∀vs H Q E,sp' vs H Q E->sp vs H Q E):Cal P w K mg base k x ps sp':=by obtain⟨f,fd,F,r⟩:=C;exact⟨f,fd,F.imp h,r⟩
end
def isStar:Expr->Bool
 |.Starred ..=>true
 |_=>false
theorem z04 {e:Expr}{es:List Expr}{env:Env}(h:isStar e=false):bv (e::es) env=(false,eval e env)::bv es env:=by cases e<;>first|rfl|cases h
theorem z0b {pos:Pos}{env:Env}:∀{es:List Expr},(es.all fun e=> !isStar e)=true->(fi pos (bv es env)).any (·.1)=false
 | [],_=>rfl
 |e::es,h=>by have h':=aq.mp (bn▸h);rw[z04 (by simpa using h'.1)];show(false||(fi pos (bv es env)).any (·.1))=false;rw[z0b h'.2];rfl
section
variable {X:Cx}{x:Str}{p pos:Pos}{e:Expr}{es:List Expr}{t:TA}{id T:String}{r:List V->Hp->VK->Prop}
theorem pa_c {te:TE}(ha:PE X e te)(hr:PA X es t)(hs:isStar e=false:=by rfl):PA X (e::es) (z7d te t):=z2o ha hr (z04 hs)
theorem zeg (hc:CallR X (.builtin id) r)(hm:X.mg x=none)(hv:ci x=some (.builtin id))(ha:PA X (e::es) t)(hst:((e::es).all fun e=> !isStar e)=true:=by rfl)(hg:Gl X x:=by rfl)(hn:x≠"__name__":=by decide)(hdb:(x==("__debug__":Str))=false:=by decide):PE X (.Call (.Name x p) (e::es) [] pos) (tCB r t):=by rw[bn,aj]at hst;exact zbm hc hg hm hv ha hn hdb (z04 (by simpa using hst.1)) (z0b hst.2)
theorem zea (hc:CallR X (.type T) r)(hm:X.mg x=none)(hv:ci x=some (.type T))(ha:PA X (e::es) t)(hst:((e::es).all fun e=> !isStar e)=true:=by rfl)(hg:Gl X x:=by rfl)(hn:x≠"__name__":=by decide)(hdb:(x==("__debug__":Str))=false:=by decide):PE X (.Call (.Name x p) (e::es) [] pos) (tCB r t):=by rw[bn,aj]at hst;exact z7y hc hg hm hv ha hn hdb (z04 (by simpa using hst.1)) (z0b hst.2)
theorem zbj {k k':Nat}{ps:List Str}{sp:Sp}(C:Cal X.prog X.w X.K X.mg X.base k x ps sp)(hr:Room k' X.A)(ha:PA X (e::es) t)(hst:((e::es).all fun e=> !isStar e)=true:=by rfl)(hk:k<=k':=by decide)(hg:Gl X x:=by rfl)
  (hdb:(x==("__debug__":Str))=false:=by decide):PE X (.Call (.Name x p) (e::es) [] pos) (z55 sp [] E0 t):=by
 obtain⟨f,fd,F,m,kp,b⟩:=C;rw[bn,aj]at hst;exact z8z F (hr.mono hk) hg m kp b .nil zlz ha hdb (z04 (by simpa using hst.1)) (z0b hst.2)
end
def z0k:Expr->Bool
 |.ListComp ..=>true
 |.SetComp ..=>true
 |.DictComp ..=>true
 |_=>false
theorem z0w {e:Expr}(h:z0k e=false)(tg:Option Expr)(n:Nat)(env:Env):i8 e tg n env=pure false:=by cases e<;>first|rfl|cases h
theorem ps_s {X:Cx}{pos:Pos}{i:Nat}{x:Str}{e:Expr}{te:TE}{pos':Pos}(hN:X.N.Nodup)(hi:X.N[i]?=some x)(hx:Loc X.env.scope x)(he:PE X e te)(hs:z0k e=false:=by rfl)(hf:X.fn x=true\/X.env.scope.names.lookup x=some .local:=by first|exact .inl rfl|exact .inr rfl|assumption): PS X (.Assign [.Name x pos'] e pos) (tAsg te (z94 i)):=zcj hN hi hx he (z0w hs _ _ _) hf
theorem ps_e {X:Cx}{pos:Pos}{e:Expr}{te:TE}(he:PE X e te)(hs:z0k e=false:=by rfl):PS X (.Expr e pos) (z58 te):=zex he (z0w hs _ _ _)
section
variable {X:Cx}
def zct (K:W.Frag):R2:=fun x y H Q=>rI0 (fun i j=>.int (i+j)) x y H Q\/(∃i j,x=.str i/\y=.str j/\i.length+j.length<=ah/\Q (.str (i++j)) H)\/rCat x y H Q\/zfi K x y H Q
def rLtA:R2:=fun x y H Q=>rI0 (fun i j=>.bl (decide (i<j))) x y H Q\/∃i j,x=.str i/\y=.str j/\Q (.bl (decide (i.cps.toList<j.cps.toList))) H
def rLeA:R2:=fun x y H Q=>rI0 (fun i j=>.bl (decide (i<=j))) x y H Q\/∃i j,x=.str i/\y=.str j/\Q (.bl (!decide (j.cps.toList<i.cps.toList))) H
def rGtA:R2:=fun x y H Q=>rI0 (fun i j=>.bl (decide (j<i))) x y H Q\/∃i j,x=.str i/\y=.str j/\Q (.bl (decide (j.cps.toList<i.cps.toList))) H
def rInA (K:W.Frag)(neg:Bool):R2:=fun x y H Q=>rIn K neg x y H Q\/∃i j,x=.str i/\y=.str j/\Q (.bl (if neg then !(!(cw j i 0 j.length 1).isEmpty)else !(cw j i 0 j.length 1).isEmpty)) H
def rSlA (K:W.Frag):V->Option Int->Option Int->Hp->VK->Prop:=fun x lo hi H Q=>rSlL K x lo hi H Q\/rSlS x lo hi H Q
def zkg (K:W.Frag):List V->Hp->VK->Prop:=fun xs H Q=>(∃z,xs=[.str z]/\z.length<=ah/\Q (.int z.length) H)\/(∃p ys,xs=[.ref p]/\(SqL K H p ys\/SqT K H p ys)/\Q (.int ys.length) H)
theorem zkf:OpR X (d8 .Add) (zct X.K):=zgc.or (z6z.or (zgg.or zed))
theorem opLt:OpR X (bt .Lt) rLtA:=zkk.or z8x
theorem opLe:OpR X (bt .LtE) rLeA:=zlb.or z8k
theorem opGt:OpR X (bt .Gt) rGtA:=zll.or z9l
theorem opIn:OpR X (bt .In) (rInA X.K false):=z8y.or za3
theorem zcx:OpR X (bt .NotIn) (rInA X.K true):=z4w.or z44
theorem zm8:IxR X (rIx X.K):=ziu
theorem zks:SlR X (rSlA X.K):=zew.or z5n
theorem ze4:CallR X (.builtin "len") (zkg X.K):=z4f.or z48
theorem PI.or {tg iter:Expr}{wi wi':TI}(h:PI X tg iter wi)(h':PI X tg iter wi'):PI X tg iter (fun σ H R=>wi σ H R\/wi' σ H R):=by
 intro pins s σ H R I q;rcases q with q|q
 ·exact h pins s σ H R I q
 ·exact h' pins s σ H R I q
end
def isT (t T:String):Bool:=t==T||(t=="bool"&&T=="int")
def tysA:List String:=["NoneType","bool","int","str","list","tuple","dict"]
def tysB:List String:=["str","int","bool","tuple","list"]
theorem zfc (K:W.Frag):∀t∈tysA,∀T∈tysB,W.kitOne K (.type t) (.type T)=some (isT t T):=by intro t ht T hT;simp only[tysA,a9,df,or_false]at ht;simp only[tysB,a9,df,or_false]at hT;rcases ht with rfl|rfl|rfl|rfl|rfl|rfl|rfl<;>rcases hT with rfl|rfl|rfl|rfl|rfl<;>kernel_rfl
section
variable {D:Ends}{σ:St}{H:Hp}{g:TG}{tb:TS}
end
section
variable {σ:St}{H:Hp}{R:It->Hp->Prop}{K:W.Frag}{te:TE}{ta:TA}
end
section
variable {D:Ends}{σ:St}{H:Hp}{Q:VK}{t u:TS}{te ta tb tc':TE}{r r':R2}{K:W.Frag}
theorem zin {i j:Int}(h:Q (.int (i+j)) H):zct K (.int i) (.int j) H Q:=.inl ⟨i,j,rfl,rfl,h⟩
theorem ziz {i j:Str}(c:i.length+j.length<=ah)(h:Q (.str (i++j)) H):zct K (.str i) (.str j) H Q:=.inr (.inl ⟨i,j,rfl,rfl,c,h⟩)
theorem zl6 {i j:Int}(h:Q (.bl (decide (i<j))) H):rLtA (.int i) (.int j) H Q:=.inl ⟨i,j,rfl,rfl,h⟩
theorem zme {i j:Int}(h:Q (.bl (decide (i<=j))) H):rLeA (.int i) (.int j) H Q:=.inl ⟨i,j,rfl,rfl,h⟩
theorem zm6 {i j:Int}(h:Q (.bl (decide (j<i))) H):rGtA (.int i) (.int j) H Q:=.inl ⟨i,j,rfl,rfl,h⟩
theorem zl3 {i j:Str}(h:Q (.bl (decide (i.cps.toList<j.cps.toList))) H):rLtA (.str i) (.str j) H Q:=.inr ⟨i,j,rfl,rfl,h⟩
theorem zl1 {i j:Str}(h:Q (.bl (!decide (j.cps.toList<i.cps.toList))) H):rLeA (.str i) (.str j) H Q:=.inr ⟨i,j,rfl,rfl,h⟩
theorem zm1 {i j:Str}(h:Q (.bl (decide (j.cps.toList<i.cps.toList))) H):rGtA (.str i) (.str j) H Q:=.inr ⟨i,j,rfl,rfl,h⟩
section
variable {q:Bool->Hp->Prop}{s t:TT}
end
section
variable {q:List V->Hp->Prop}{a:TA}
end
end
section
variable {g:TG}{tc:TT}{te:TE}{σ':St}{l:Addr}{Q:VK}{H1:Hp}
end
section
variable {K:W.Frag}{H:Hp}{Q:VK}
theorem zlm {z:Str}{c:Nat}(h:Q (.bl (decide (c∈z.cps.toList))) H):rInA K false (.str ⟨#[c]⟩) (.str z) H Q:=.inr ⟨_,z,rfl,rfl,by have e:(if false=true then !(!(cw z ⟨#[c]⟩ 0 z.length 1).isEmpty)else !(cw z ⟨#[c]⟩ 0 z.length 1).isEmpty)=decide (c∈z.cps.toList):=PySem.StrLaws.found_one z c;rw[e];exact h⟩
theorem zg7 {z:Str}{c:Nat}(h:Q (.bl (!decide (c∈z.cps.toList))) H):rInA K true (.str ⟨#[c]⟩) (.str z) H Q:=.inr ⟨_,z,rfl,rfl,by have e:(if true=true then !(!(cw z ⟨#[c]⟩ 0 z.length 1).isEmpty)else !(cw z ⟨#[c]⟩ 0 z.length 1).isEmpty)=!decide (c∈z.cps.toList):=congrArg Bool.not (PySem.StrLaws.found_one z c);rw[e];exact h⟩
end
section
variable {K:W.Frag}{H:Hp}{Q:VK}
theorem Same.upd {H:Hp}{p:Addr}{o:HO}(h:H p=none):Same H (L2.upd H p o):=fun b u e=>by rw[z01 (z08 e h)];exact e
theorem z86 {n:Nat}(h:n<=1000):n<=ah:=cb h (by rw[dq];decide)
end
theorem TyOf.same {K:W.Frag}{H H':Hp}{x:V}{t:Value}(s:Same H H')(h:TyOf K H x t):TyOf K H' x t:=by
 cases h with
 |non=>exact .non
 |bl b=>exact .bl b
 |int i=>exact .int i
 |str z=>exact .str z
 |flt z=>exact .flt z
 |lst e=>exact .lst (s _ _ e)
 |frz e=>exact .frz (s _ _ e)
 |tup e=>exact .tup (s _ _ e)
 |dK e=>exact .dK (s _ _ e)
 |dT e=>exact .dT (s _ _ e)
 |ins e a b c d f=>exact .ins (s _ _ e) a b c d f
section
variable {X:Cx}{a b c e o value i f:Expr}{es:List Expr}{ta tb tc te td ty tv tx to:TE}{t:TA}{pos pos' p p2 tpos apos cpos:Pos}
section
variable {tA tB':TT}{rest:List Expr}
end
section
variable {st:Stmt}{sts:List Stmt}{u v:TS}
end
end
section
variable {P:am}{w:World}{K:W.Frag}{mg:Str->Option Value}{base:Heap}
end
end L2
namespace Mi
open PySem
abbrev D:=ac
inductive Res (α:Type) where
 |ok (a:α)|exc (e:D)|no
namespace Res
def bind {α β:Type}(x:Res α)(f:α->Res β):Res β:=match x with
 |.ok a=>f a
 |.exc e=>.exc e
 |.no=>.no
instance:Monad Res where
 pure:=.ok
 bind:=Res.bind
theorem ok_bind {α β:Type}(a:α)(f:α->Res β):(Res.ok a>>=f)=f a:=rfl
theorem exc_bind {α β:Type}(e:D)(f:α->Res β):((Res.exc e:Res α)>>=f)=.exc e:=rfl
theorem no_bind {α β:Type}(f:α->Res β):((Res.no:Res α)>>=f)=.no:=rfl
def ofO {α:Type}:Option α->Res α
 |some a=>.ok a
 |none=>.no
theorem bind_ok {α β:Type}{x:Res α}{f:α->Res β}{b:β}(h:(x>>=f)=.ok b):∃a,x=.ok a/\f a=.ok b:=by
 cases x with
 |ok a=>exact⟨a,rfl,h⟩
 |exc e=>cases h
 |no=>cases h
end Res
mutual
def imm:ac->Bool
 |.tuple xs=>imms xs
 |.list _=>false
 |.dict _=>false
 |.none=>true
 |.bool _=>true
 |.int _=>true
 |.str _=>true
def imms:List ac->Bool
 | []=>true
 |x::xs=>imm x&&imms xs
end
abbrev eqD:D->D->Bool:=PyData.eqv
mutual
def shal:Nat->ac->Bool
 |0,.tuple _=>false
 |0,.list _=>false
 |n+1,.tuple xs=>z29 n xs
 |n+1,.list xs=>z29 n xs
 |_,.dict _=>false
 |_,.none=>true
 |_,.bool _=>true
 |_,.int _=>true
 |_,.str _=>true
def z29:Nat->List ac->Bool
 |_,[]=>true
 |n,x::xs=>shal n x&&z29 n xs
end
def truth:ac->Bool
 |.none=>false
 |.bool b=>b
 |.int i=>!decide (i=0)
 |.str x=>!decide (x.length=0)
 |.tuple xs=>!xs.isEmpty
 |.list xs=>!xs.isEmpty
 |.dict es=>!es.isEmpty
def ixN (n:Nat)(i:Int):Option Nat:=if 0<=i then(if i<n then some i.toNat else none)else if -(n:Int)<=i then some (i+n).toNat else none
def atI {α:Type}(xs:List α)(i:Int):Option α:=(ixN xs.length i).bind fun j=>xs[j]?
def sIx (n d:Nat):Option Int->Nat
 |none=>d
 |some v=>if v<0 then(v+(n:Int)).toNat else min v.toNat n
def cut {α:Type}(xs:List α)(lo hi:Option Int):List α:=(xs.drop (sIx xs.length 0 lo)).take (sIx xs.length xs.length hi-sIx xs.length 0 lo)
def cut3 {α:Type}(xs:List α)(lo hi st:Option Int):List α:=(sliceRange (gb lo hi st xs.length).1 (gb lo hi st xs.length).2.1 (gb lo hi st xs.length).2.2).filterMap (xs[·]?)
def eqK:ac->ac->Bool
 |.int a,y=>match y with|.int b=>a==b|_=>false
 |.str a,y=>match y with|.str b=>decide (a=b)|_=>false
 |_,_=>false
def isK:ac->Bool
 |.int _=>true
 |.str _=>true
 |_=>false
abbrev Ents:=List (D×D)
def z05 (es:Ents)(k:D):Option D:=(es.find? fun e=>eqK e.1 k).map (·.2)
def dput (es:Ents)(k v:D):Ents:=if es.any (fun e=>eqK e.1 k)then es.map (fun e=>if eqK e.1 k then(e.1,v)else e)else es++[(k,v)]
def ent (e:D×D):D:=.tuple [e.1,e.2]
def zhl:Ents->List D->Option Ents
 |es,[]=>some es
 |es,p::ps=>match p with
  |.tuple [k,v]=>if isK k then zhl (dput es k v) ps else none
  |_=>none
mutual
def ltD:ac->ac->Bool
 |.int a,y=>match y with|.int b=>decide (a<b)|_=>false
 |.str a,y=>match y with|.str b=>decide (a.cps.toList<b.cps.toList)|_=>false
 |.tuple xs,y=>match y with|.tuple ys=>ltDs xs ys|_=>false
 |.none,_=>false
 |.bool _,_=>false
 |.list _,_=>false
 |.dict _,_=>false
def ltDs:List ac->List ac->Bool
 | [],ys=>!ys.isEmpty
 |x::xs,ys=>match ys with|y::ys=>if eqD x y then ltDs xs ys else ltD x y| []=>false
end
def insD (x:D):List D->List D
 | []=>[x]
 |y::ys=>if ltD y x then y::insD x ys else x::y::ys
def zbi:List D->List D
 | []=>[]
 |x::xs=>insD x (zbi xs)
def isI:D->Bool
 |.int _=>true
 |_=>false
def isS:D->Bool
 |.str _=>true
 |_=>false
def ofK (b:Bool)(x:D):Bool:=if b then isI x else isS x
def shps:List Bool->List D->Bool
 | [],xs=>xs.isEmpty
 |b::bs,xs=>match xs with|x::xs=>ofK b x&&shps bs xs| []=>false
def zep (bs:List Bool):D->Bool
 |.tuple xs=>shps bs xs
 |_=>false
def zc0 (xs:List D):Bool:=xs.all isI||xs.all isS||(match xs with|.tuple ys::_=>!ys.isEmpty&&xs.all (zep (ys.map isI))|_=>false)
def isPk:D->Bool
 |.tuple xs=>xs.all (zep [false,true])
 |_=>false
def neP:D->Bool
 |.tuple (x::xs)=>(x::xs).all (zep [false,true])
 |_=>false
def isCo:D->Bool
 |.tuple [.str _,a,b]=>isPk a&&isPk b
 |_=>false
def zig (xs:List D):Bool:=zc0 xs||(xs.all neP||xs.all isCo)
section
inductive G where
 |fr|od|al|nu
 deriving Inhabited,DecidableEq
abbrev Rho:=List (Option (G×D))
abbrev GD:=G×D
inductive Tg where
 |nm (i:Nat)|tp (is:List Nat)
 deriving Inhabited,DecidableEq
inductive C where
 |var (i:Nat)|non|bl (b:Bool)|int (i:Int)|str (x:Str)
 |glob (k:Nat) (x:Str)
 |bin (op:iu) (a b:C)|neg (a:C)
 |cmp (op:CmpOp) (a b:C)|chain (op op':CmpOp) (a b c:C)
 |isN (neg:Bool) (a:C)|isB (neg:Bool) (a:C) (b:Bool)
 |and (a b:C)|or (a b:C)|not (a:C)|ife (c a b:C)
 |tup (xs:C)|lst (xs:C)|rep (xs b:C)|dnew|dis (ks:List Str) (xs:C)
 |ix (a b:C)|sl (a lo hi:C)|sl3 (a lo hi st:C)
 |call (k:Nat) (f:Str) (args:C)|bi (f:String) (args:C)|agg (f:String) (a:C)|isT (a:C) (ts:List String)
 |mt (m:String) (o args:C)
 |fst (parts:C)|fs (a:C) (x:Str) (b:C)
 |comp (nt:Nat) (js:List Nat) (N':List Str) (tg:Tg) (it cond elt:C)
 |compI (i nt:Nat) (N':List Str) (tg:Tg) (cond elt:C)|sortI (i:Nat)|sortK (i:Nat)|upr (a:C)|lk (i:Nat)|d1 (k v:C)|rv (a:C)|caln (k:Nat) (f:Str) (args:C)|spl (a b:C)
 |rng (args:C)|items (o:C)|vals (o:C)|enum (a:C)|zip (a b:C)
 |tv (a:C)|isE (b:Bool) (x:Str)|lset (a:C)
 |nil|cons (a r:C)
 deriving Inhabited
inductive S where
 |nil|seq (a b:S)|pass|bad|asg (t:Tg) (e:C)|setIx (i:Nat) (k v:C)|mut (m:String) (i:Nat) (args:C)
 |drop (e:C)|ret (e:C)|retN|ifS (c:C) (a b:S)|for_ (t:Tg) (it:C) (b:S)|wh (n:Nat) (c:C) (b:S)|brk|cnt|pop (j i:Nat)|pap (i:Nat) (a r:C)|stl (s:S)|dap (e a:C) (b:S)|frz (j:Nat) (s:S)|dpp (i:Nat) (a:C) (b:S)
 |rse (c:Str)|tr (k:Nat) (f:Str) (args:C) (c:Str) (i:Nat) (b:S)|alt (a b:S)
 deriving Inhabited
inductive Out where
 |nx (ρ:Rho)|rt (g:G) (d:D)|bk (ρ:Rho)|ct (ρ:Rho)
abbrev Fn:=List D->Res GD
def LIM:Nat:=1000000
def rdG:G->G
 |.fr=>.al
 |.od=>.od
 |.al=>.al
 |.nu=>.nu
def rdS:Option (Option GD)->Res GD
 |some (some (g,d))=>.ok (if imm d then .fr else rdG g,d)
 |_=>.no
def z0p:D->Res Bool
 |.str x=>if x.length<=LIM then .ok (!decide (x.length=0))else .no
 |d=>.ok (truth d)
def rtG:G->G
 |.fr=>.fr
 |.od=>.al
 |.al=>.al
 |.nu=>.fr
def agG:G->G
 |.fr=>.fr
 |.od=>.al
 |.al=>.al
 |.nu=>.nu
def gJ (d:D)(g:G):G:=if imm d then .fr else g
def gN (d:D)(g:G):G:=match d with
 |.list xs=>if imms xs then .fr else g
 |d=>gJ d g
def gAll (xs:List GD):G:=if xs.all (fun x=>x.1==.fr)then .fr else if xs.all (fun x=>x.1==.fr||x.1==.nu)then .nu else .al
def gCo (xs:List GD):G:=if xs.all (fun x=>x.1==.fr)then .fr else .al
def okIn (x:GD):Bool:=imm x.2||(x.1==.fr||x.1==.nu)
def calG (g:G)(ys:List GD):G:=if rtG g==.fr then .fr else if ys.all okIn then .nu else .al
def immE (es:Ents):Bool:=es.all fun e=>imm e.2
def z0z:GD->GD
 |(g,d)=>if imm d then(.al,d)else match g,d with
  |.fr,.list xs=>(if imms xs then .fr else .nu,.list xs)
  |.fr,.dict es=>(if immE es then .fr else .nu,.dict es)
  |.fr,d=>(.nu,d)
  |.nu,d=>(.nu,d)
  |.od,d=>(.od,d)
  |.al,d=>(.al,d)
def z1w:GD->GD
 |(g,d)=>match g with|.od=>(.od,d)|_=>(.al,d)
def toAl:Option GD->Option GD
 |some (.fr,d)=>some (.al,d)
 |some (.nu,d)=>some (.al,d)
 |s=>s
def z16:Option GD->Option GD
 |some (.al,d)=>if imm d then some (.al,d)else none
 |s=>s
def settle:Option GD->Option GD
 |some (.nu,d)=>some (.od,d)
 |some (.al,d)=>if imm d then some (.al,d)else some (.od,d)
 |s=>s
def settleA:Option GD->Option GD
 |some (g,d)=>if imm d then some (.al,d)else some (.od,d)
 |none=>none
def isFr:Option GD->Bool
 |some (.fr,_)=>true
 |_=>false
def noOwn (ρ:Rho):Bool:=ρ.all fun s=>!isFr s
def z27:Rho->List Nat->List D->G->Option Rho
 |ρ,[],[],_=>some ρ
 |ρ,i::is,d::ds,g=>z27 (ρ.set i (some (z1w (gJ d g,d)))) is ds g
 |_,_,_,_=>none
def z0v:Tg->GD->Rho->Res Rho
 |.nm i,x,ρ=>.ok (ρ.set i (some (z1w x)))
 |.tp is,(g,.tuple ds),ρ=>Res.ofO (z27 ρ is ds g)
 |.tp is,(g,.list ds),ρ=>Res.ofO (z27 ρ is ds g)
 |_,_,_=>.no
def lenD:D->Res D
 |.str x=>if x.length<=LIM then .ok (.int x.length)else .no
 |.tuple xs=>.ok (.int xs.length)
 |.list xs=>.ok (.int xs.length)
 |.dict es=>.ok (.int es.length)
 |_=>.no
def z0u {α:Type}(n:Nat)(xs:List α):List α:=(ai n xs).flatten
def binD:iu->D->D->Res D
 |.Add,.int a,.int b=>.ok (.int (a+b))
 |.Add,.str a,.str b=>if a.length+b.length<=LIM then .ok (.str (a++b))else .no
 |.Add,.list a,.list b=>if a.length+b.length<=LIM then .ok (.list (a++b))else .no
 |.Add,.tuple a,.tuple b=>if a.length+b.length<=LIM then .ok (.tuple (a++b))else .no
 |.Sub,.int a,.int b=>.ok (.int (a-b))
 |.Mult,.str a,.int n=>if 0<=n/\n<=LIM/\a.length*n.toNat<=LIM then .ok (.str ⟨(z0u n.toNat a.cps.toList).toArray⟩)else .no
 |.Mult,.int a,.int b=>if(-(2 ^ 64)<a/\a<2 ^ 64)\/(-(2 ^ 64)<b/\b<2 ^ 64)then .ok (.int (a*b))else .no
 |.FloorDiv,.int a,.int b=>if 0<b/\b<2 ^ 200 then .ok (.int (a/b))else .no
 |.Mod,.int a,.int b=>if 0<b then .ok (.int (a%b))else .no
 |.Pow,.int a,.int b=>if 0<=b/\b<=1000/\a.natAbs<2 ^ 64 then .ok (.int (a ^ b.toNat))else .no
 |_,_,_=>.no
def inD (x:D):D->Res Bool
 |.list xs=>if shal 40 x&&z29 40 xs then .ok (xs.any fun y=>eqD y x)else .no
 |.tuple xs=>if shal 40 x&&z29 40 xs then .ok (xs.any fun y=>eqD y x)else .no
 |.dict es=>if isK x then .ok (z05 es x).isSome else .no
 |.str z=>match x with
  |.str w=>(match w.cps.toList with| [c]=>.ok (decide (c∈z.cps.toList))|_=>.no)
  |_=>.no
 |_=>.no
def cmpD:CmpOp->D->D->Res Bool
 |.Eq,x,y=>if shal 40 x&&shal 40 y then .ok (eqD x y)else .no
 |.NotEq,x,y=>if shal 40 x&&shal 40 y then .ok (!eqD x y)else .no
 |.Lt,.int a,.int b=>.ok (decide (a<b))
 |.LtE,.int a,.int b=>.ok (decide (a<=b))
 |.Gt,.int a,.int b=>.ok (decide (b<a))
 |.GtE,.int a,.int b=>.ok (decide (b<=a))
 |.Lt,.str a,.str b=>.ok (decide (a.cps.toList<b.cps.toList))
 |.LtE,.str a,.str b=>.ok (!decide (b.cps.toList<a.cps.toList))
 |.Gt,.str a,.str b=>.ok (decide (b.cps.toList<a.cps.toList))
 |.In,x,y=>inD x y
 |.NotIn,x,y=>inD x y>>=fun b=>.ok (!b)
 |_,_,_=>.no
def ixD:D->D->Res D
 |.list xs,.int i=>Res.ofO (atI xs i)
 |.tuple xs,.int i=>Res.ofO (atI xs i)
 |.str z,.int i=>if z.length<=LIM then Res.ofO ((atI z.cps.toList i).map fun c=>.str ⟨#[c]⟩)else .no
 |.dict es,k=>if isK k then Res.ofO (z05 es k)else .no
 |_,_=>.no
def z1a (z:Str)(lo hi:Option Int):Str:=⟨(cut z.cps.toList lo hi).toArray⟩
def sl3D:D->Option Int->Option Int->Option Int->Res D
 |.list xs,lo,hi,st=>if st=some 0 then .no else .ok (.list (cut3 xs lo hi st))
 |_,_,_,_=>.no
def slD:D->Option Int->Option Int->Res D
 |.list xs,lo,hi=>.ok (.list (cut xs lo hi))
 |.tuple xs,lo,hi=>if sIx xs.length 0 lo=0/\sIx xs.length xs.length hi=xs.length then .no else .ok (.tuple (cut xs lo hi))
 |.str z,lo,hi=>if z.length<=LIM then .ok (.str (z1a z lo hi))else .no
 |_,_,_=>.no
def intO:D->Res (Option Int)
 |.int i=>.ok (some i)
 |_=>.no
def z5f:D->Res (List D)
 |.list xs=>.ok xs
 |.tuple xs=>.ok xs
 |.str z=>if z.length<=LIM then .ok (z.cps.toList.map fun c=>.str ⟨#[c]⟩)else .no
 |_=>.no
def sumD:List D->Option Int
 | []=>some 0
 |.int i::r=>(sumD r).map (i+ ·)
 |_=>none
def allB:List D->Option (List Bool)
 | []=>some []
 |.bool b::r=>(allB r).map (b:: ·)
 |_=>none
def allS:List D->Option (List Str)
 | []=>some []
 |.str b::r=>(allS r).map (b:: ·)
 |_=>none
def z9q:D->Res (Bool×List D)
 |.list xs=>.ok (true,xs)
 |.tuple xs=>.ok (false,xs)
 |_=>.no
def aggD (f:String)(l:Bool)(xs:List D):Res D:=
 if f="list"then .ok (.list xs)
 else if f="tuple"then .ok (.tuple xs)
 else if f="sorted"then(if(l||imms xs)&&zig xs&&decide (xs.length<64)then .ok (.list (zbi xs))else .no)
 else if f="sum"then(if l then Res.ofO ((sumD xs).map .int)else .no)
 else if f="all"then(if l then Res.ofO ((allB xs).map fun bs=>.bool (bs.all id))else .no)
 else if f="any"then(if l then Res.ofO ((allB xs).map fun bs=>.bool (bs.any id))else .no)
 else if f="dict"then Res.ofO ((zhl [] xs).map .dict)
 else .no
def vI:D->Option Int
 |.int i=>some i
 |_=>none
def vT:D->Option (List D)
 |.tuple xs=>some xs
 |_=>none
def min2 (x y:D):Res D:=Res.ofO ((vI x).bind fun a=>(vI y).map fun b=>.int (min a b))
def minD (xs:List D):Res D:=if xs.length=2 then min2 (xs.getD 0 .none) (xs.getD 1 .none)else if xs.length=1 then(match vT (xs.getD 0 .none)with|some ys=>if ys.length=2 then min2 (ys.getD 0 .none) (ys.getD 1 .none)else .no|none=>.no)else .no
def zfh:List Str->List Str->List Str
 |acc,[]=>acc
 |acc,z::ws=>zfh (if z∈acc then acc else acc++[z]) ws
def zmh:D->Res D
 |.list xs=>match allS xs with
  |some ws=>if decide (ws.length<4000)then .ok (.int ((zfh [] ws).length:Int))else .no
  |none=>.no
 |_=>.no
def figs (l:List Nat):Bool:=!l.isEmpty&&l.all fun c=>decide (48<=c)&&decide (c<=57)
def digV (l:List Nat):Nat:=l.foldl (fun n c=>n*10+(c-48)) 0
def intS (x:Str):Res D:=if figs x.cps.toList&&decide (x.length<=600)then .ok (.int (digV x.cps.toList:Int))else .no
def oneC (y:Str):Option Nat:=match y.cps.toList with
 | [c]=>some c
 |_=>none
def toS (l:List Nat):Str:=⟨l.toArray⟩
def splC (c:Nat):List Nat->List (List Nat)
 | []=>[[]]
 |a::r=>if a=c then[]::splC c r else(match splC c r with|h::t=>(a::h)::t| []=>[[a]])
def splD:D->D->Res D
 |.str x,.str y=>match oneC y with
  |some c=>if decide (x.length<=LIM)then .ok (.list ((splC c x.cps.toList).map fun l=>.str (toS l)))else .no
  |none=>.no
 |_,_=>.no
def parD (x y:Str):Res D:=match oneC y with
 |some c=>if decide (x.length<=LIM)then .ok (.tuple [.str (toS (x.cps.toList.takeWhile (· != c))),.str (if x.cps.toList.contains c then y else ""),.str (toS ((x.cps.toList.dropWhile (· != c)).drop 1))])else .no
 |none=>.no
def fndD (x y:Str):Res D:=match oneC y with
 |some c=>.ok (.int (match x.cps.toList.findIdx? (· ==c)with|some i=>(i:Int)|none=>-1))
 |none=>.no
def biD (f:String)(xs:List D):Res D:=
 if f="len"then(match xs with| [x]=>lenD x|_=>.no)
 else if f="max"then(match xs with| [.int a,.int b]=>.ok (.int (max a b))|_=>.no)
 else if f="int"then(match xs with| [.int a]=>.ok (.int a)| [.bool b]=>.ok (.int (if b then 1 else 0))| [.str x]=>intS x|_=>.no)
 else if f="str"then(match xs with| [.int a]=>if a.natAbs.log2<1920 then .ok (.str (toString a))else .no|_=>.no)
 else if f="min"then minD xs
 else .no
def tyOf:D->String
 |.none=>"NoneType"|.bool _=>"bool"|.int _=>"int"|.str _=>"str"|.tuple _=>"tuple"|.list _=>"list"|.dict _=>"dict"
def isTy (t T:String):Bool:=t==T||(t=="bool"&&T=="int")
def z8u (sep:List Nat):List Str->List Nat
 | []=>[]
 |x::r=>x.cps.toList++(r.map fun p=>sep++p.cps.toList).flatten
def z3h (sep:Str)(xs:List Str):Str:=⟨(z8u sep.cps.toList xs).toArray⟩
def zdx (sep:Str)(xs:List Str):Nat:=(xs.map (·.length)).sum+xs.length*sep.length
def mtD (m:String)(o:D)(xs:List D):Res D:=
 if m="get"then(match o,xs with|.dict es,[k,d]=>if isK k then .ok ((z05 es k).getD d)else .no|_,_=>.no)
 else if m="join"then(match o,xs with|.str z,[.list ys]=>(match allS ys with|some ss=>if zdx z ss<=LIM then .ok (.str (z3h z ss))else .no|none=>.no)|_,_=>.no)
 else if m="partition"then(match o,xs with|.str x,[.str y]=>parD x y|_,_=>.no)
 else if m="find"then(match o,xs with|.str x,[.str y]=>fndD x y|_,_=>.no)
 else .no
def rvD:D->Res D
 |.list xs=>if imms xs&&decide (xs.length<=LIM)then .ok (.list xs.reverse)else .no
 |_=>.no
def upD:D->Res D
 |.str z=>if z.cps.toList.all (fun c=>decide (97<=c)&&decide (c<=122))&&decide (z.length<=LIM)then .ok (.str ⟨(z.cps.toList.map (· -32)).toArray⟩)else .no
 |_=>.no
def rngD:List D->Res (List D)
 | [.int n]=>if n<=LIM/\-LIM<=n then .ok ((cr n.toNat).map fun(i:Nat)=>.int i)else .no
 | [.int a,.int b]=>if -LIM<=a/\b<=LIM/\a<=LIM/\-LIM<=b then .ok ((cr (b-a).toNat).map fun(i:Nat)=>.int (a+i))else .no
 | [.int a,.int b,.int c]=>if -LIM<=a/\b<=LIM/\a<=LIM/\-LIM<=b/\0<c/\c<=LIM then .ok ((cr (if a<b then((b-a-1)/c+1).toNat else 0)).map fun(i:Nat)=>.int (a+i*c))else .no
 |_=>.no
def zeq:Nat->List D->List D
 |_,[]=>[]
 |i,x::xs=>.tuple [.int i,x]::zeq (i+1) xs
def zipD:List D->List D->List D
 |x::xs,y::ys=>.tuple [x,y]::zipD xs ys
 |_,_=>[]
def seqR:D->Res (List D)
 |.list xs=>if decide (xs.length<=LIM)then .ok xs else .no
 |.tuple xs=>if decide (xs.length<=LIM)then .ok xs else .no
 |_=>.no
def txtD:D->Res Str
 |.str z=>if z.length<=LIM then .ok z else .no
 |.int i=>if i.natAbs.log2<1920 then .ok (toString i)else .no
 |_=>.no
def repD (ys:List GD):D->Res GD
 |.int n=>if imms (ys.map (·.2))=true/\0<=n/\n<=LIM/\ys.length*n.toNat<=LIM then .ok (.fr,.list (z0u n.toNat (ys.map (·.2))))else .no
 |_=>.no
def oc:Option GD->List GD->List GD
 |some y,r=>y::r
 |none,r=>r
def z1q (f:D->Res (Option GD)):List D->Res (List GD)
 | []=>.ok []
 |x::xs=>f x>>=fun o=>z1q f xs>>=fun r=>.ok (oc o r)
variable (Κ:List D)(Φ:List Fn)
mutual
def evE:C->Rho->Res GD
 |.var i,ρ=>rdS ρ[i]?
 |.non,_=>.ok (.fr,.none)
 |.bl b,_=>.ok (.fr,.bool b)
 |.int i,_=>.ok (.fr,.int i)
 |.str x,_=>.ok (.fr,.str x)
 |.isE b _,_=>.ok (.fr,.bool b)
 |.lset a,ρ=>evE a ρ>>=fun x=>zmh x.2>>=fun d=>.ok (.fr,d)
 |.glob k _,_=>match Κ[k]? with|some d=>if imm d then .ok (.fr,d)else .no|none=>.no
 |.bin op a b,ρ=>evE a ρ>>=fun x=>evE b ρ>>=fun y=>binD op x.2 y.2>>=fun d=>.ok (gN d (gAll [x,y]),d)
 |.neg a,ρ=>evE a ρ>>=fun x=>match x.2 with|.int i=>.ok (.fr,.int (-i))|_=>.no
 |.cmp op a b,ρ=>evE a ρ>>=fun x=>evE b ρ>>=fun y=>cmpD op x.2 y.2>>=fun b=>.ok (.fr,.bool b)
 |.chain op op' a b c,ρ=>evE a ρ>>=fun x=>evE b ρ>>=fun y=>cmpD op x.2 y.2>>=fun k=>if k then evE c ρ>>=fun z=>cmpD op' y.2 z.2>>=fun k'=>.ok (.fr,.bool k')else .ok (.fr,.bool false)
 |.isN ng a,ρ=>evE a ρ>>=fun x=>.ok (.fr,.bool (match x.2 with|.none=>!ng|_=>ng))
 |.isB ng a b,ρ=>evE a ρ>>=fun x=>match x.2 with|.bool c=>.ok (.fr,.bool (if ng then !(c==b)else c==b))|_=>.no
 |.and a b,ρ=>evE a ρ>>=fun x=>match x.2 with|.bool c=>if c then evE b ρ else .ok (.fr,.bool false)|_=>.no
 |.or a b,ρ=>evE a ρ>>=fun x=>match x.2 with|.bool c=>if c then .ok (.fr,.bool true)else evE b ρ|_=>.no
 |.not a,ρ=>evE a ρ>>=fun x=>z0p x.2>>=fun c=>.ok (.fr,.bool (!c))
 |.ife c a b,ρ=>evT c ρ>>=fun k=>if k then evE a ρ else evE b ρ
 |.tup xs,ρ=>evA xs ρ>>=fun ys=>.ok (gJ (.tuple (ys.map (·.2))) (gAll ys),.tuple (ys.map (·.2)))
 |.lst xs,ρ=>evA xs ρ>>=fun ys=>.ok (gAll ys,.list (ys.map (·.2)))
 |.rep xs b,ρ=>evA xs ρ>>=fun ys=>evE b ρ>>=fun n=>repD ys n.2
 |.dnew,_=>.ok (.fr,.dict [])
 |.ix a b,ρ=>evE a ρ>>=fun x=>evE b ρ>>=fun y=>ixD x.2 y.2>>=fun d=>.ok (gJ d x.1,d)
 |.sl a lo hi,ρ=>evE a ρ>>=fun x=>evO lo ρ>>=fun l=>evO hi ρ>>=fun h=>slD x.2 l h>>=fun d=>.ok (gN d (gAll [x]),d)
 |.sl3 a lo hi st,ρ=>evE a ρ>>=fun x=>evO lo ρ>>=fun l=>evO hi ρ>>=fun h=>(evE st ρ>>=fun z=>intO z.2)>>=fun k=>sl3D x.2 l h k>>=fun d=>.ok (gJ d (gAll [x]),d)
 |.call k _ args,ρ=>evA args ρ>>=fun ys=>match Φ[k]? with|some m=>m (ys.map (·.2))>>=fun r=>.ok (gJ r.2 (rtG r.1),r.2)|none=>.no
 |.caln k _ args,ρ=>evA args ρ>>=fun ys=>match Φ[k]? with|some m=>m (ys.map (·.2))>>=fun r=>.ok (gJ r.2 (calG r.1 ys),r.2)|none=>.no
 |.bi f args,ρ=>evA args ρ>>=fun ys=>biD f (ys.map (·.2))>>=fun d=>.ok (gJ d .al,d)
 |.agg f a,ρ=>evG a ρ>>=fun w=>aggD f w.2.1 w.2.2>>=fun d=>.ok (gJ d (if imms w.2.2 then .fr else agG w.1),d)
 |.isT a ts,ρ=>evE a ρ>>=fun x=>.ok (.fr,.bool (ts.any fun T=>isTy (tyOf x.2) T))
 |.mt m o args,ρ=>evE o ρ>>=fun x=>evA args ρ>>=fun ys=>mtD m x.2 (ys.map (·.2))>>=fun d=>.ok (gJ d .al,d)
 |.fs a x b,ρ=>evE a ρ>>=fun u=>txtD u.2>>=fun p=>evE b ρ>>=fun v=>txtD v.2>>=fun q=>if p.length+x.length+q.length<=LIM then .ok (.fr,.str (p++x++q))else .no
 |.sortK i,ρ=>match ρ[i]? with
  |some (some (_,.dict es))=>if((es.map (·.1)).all isI||(es.map (·.1)).all isS)&&decide (es.length<64)then .ok (.fr,.list (zbi (es.map (·.1))))else .no
  |_=>.no
 |.lk i,ρ=>match ρ[i]? with
  |some (some (_,.dict es))=>if decide (es.length<=LIM)then .ok (.fr,.list (es.map (·.1)))else .no
  |_=>.no
 |.d1 k v,ρ=>evE k ρ>>=fun x=>evE v ρ>>=fun y=>if isK x.2&&imm y.2 then .ok (.fr,.dict [(x.2,y.2)])else .no
 |.rv a,ρ=>evE a ρ>>=fun x=>rvD x.2>>=fun d=>.ok (.fr,d)
 |.spl a b,ρ=>evE a ρ>>=fun x=>evE b ρ>>=fun y=>splD x.2 y.2>>=fun d=>.ok (.fr,d)
 |.upr a,ρ=>evE a ρ>>=fun x=>upD x.2>>=fun d=>.ok (.fr,d)
 |.sortI i,ρ=>match ρ[i]? with
  |some (some (_,.dict es))=>if immE es&&zc0 (es.map ent)&&decide (es.length<64)then .ok (.fr,.list (zbi (es.map ent)))else .no
  |_=>.no
 |.compI i nt _ tg cond elt,ρ=>match ρ[i]? with
  |some (some (_,.dict es))=>if immE es&&decide (es.length<=LIM)then z1q (fun x=>z0v tg (gJ x .al,x) (ai nt none++([]:List Nat).map fun j=>toAl (([]:Rho).getD j none))>>=fun ρ1=>evT cond ρ1>>=fun k=>if k then evE elt ρ1>>=fun y=>.ok (some y)else .ok none) (es.map ent)>>=fun ys=>.ok (gCo ys,.list (ys.map (·.2)))else .no
  |_=>.no
 |.comp nt js _ tg it cond elt,ρ=>evW it ρ>>=fun w=>z1q (fun x=>z0v tg (gJ x w.1,x) (ai nt none++js.map fun j=>toAl (ρ.getD j none))>>=fun ρ1=>evT cond ρ1>>=fun k=>if k then evE elt ρ1>>=fun y=>.ok (some y)else .ok none) w.2>>=fun ys=>.ok (gCo ys,.list (ys.map (·.2)))
 |_,_=>.no
def evT:C->Rho->Res Bool
 |.and a b,ρ=>evT a ρ>>=fun c=>if c then evT b ρ else .ok false
 |.or a b,ρ=>evT a ρ>>=fun c=>if c then .ok true else evT b ρ
 |.not a,ρ=>evT a ρ>>=fun c=>.ok (!c)
 |.nil,_=>.ok true
 |.tv a,ρ=>evE a ρ>>=fun x=>z0p x.2
 |_,_=>.no
def evA:C->Rho->Res (List GD)
 |.nil,_=>.ok []
 |.cons a r,ρ=>evE a ρ>>=fun x=>evA r ρ>>=fun xs=>.ok (x::xs)
 |_,_=>.no
def evO:C->Rho->Res (Option Int)
 |.nil,_=>.ok none
 |.tv a,ρ=>evE a ρ>>=fun x=>intO x.2
 |_,_=>.no
def evG:C->Rho->Res (G×Bool×List D)
 |.tv a,ρ=>evE a ρ>>=fun x=>z9q x.2>>=fun p=>.ok (x.1,p)
 |_,_=>.no
def evW:C->Rho->Res (G×List D)
 |.rng args,ρ=>evA args ρ>>=fun ys=>rngD (ys.map (·.2))>>=fun xs=>.ok (.fr,xs)
 |.tv a,ρ=>evE a ρ>>=fun x=>z5f x.2>>=fun xs=>.ok (x.1,xs)
 |.enum a,ρ=>evE a ρ>>=fun x=>seqR x.2>>=fun xs=>.ok (.al,zeq 0 xs)
 |.zip a b,ρ=>evE a ρ>>=fun x=>evE b ρ>>=fun y=>seqR x.2>>=fun xs=>seqR y.2>>=fun ys=>.ok (.al,zipD xs ys)
 |_,_=>.no
end
def outB:Res Out->(Rho->Res Out)->Res Out
 |.ok (.nx ρ),k=>k ρ
 |r,_=>r
def forD (f:D->Rho->Res Out):List D->Rho->Res Out
 | [],ρ=>.ok (.nx ρ)
 |x::xs,ρ=>match f x ρ with
  |.ok (.nx ρ')=>forD f xs ρ'
  |.ok (.ct ρ')=>forD f xs ρ'
  |.ok (.bk ρ')=>.ok (.nx ρ')
  |.ok (.rt g d)=>.ok (.rt g d)
  |.exc e=>.exc e
  |.no=>.no
def whD (c:Rho->Res Bool)(f:Rho->Res Out):Nat->Rho->Res Out
 |0,_=>.no
 |n+1,ρ=>c ρ>>=fun k=>if k then(match f ρ with
  |.ok (.nx ρ')=>whD c f n ρ'
  |.ok (.ct ρ')=>whD c f n ρ'
  |.ok (.bk ρ')=>.ok (.nx ρ')
  |.ok (.rt g d)=>.ok (.rt g d)
  |.exc e=>.exc e
  |.no=>.no)else .ok (.nx ρ)
def putAt (xs:List D)(ys:List GD):Res (List D):=match ys with
 | [x,y]=>(match x.2 with
  |.int i=>if okIn y&&decide (xs.length<LIM)&&decide (0<=i)&&decide (i<=xs.length)then .ok (xs.take i.toNat++y.2::xs.drop i.toNat)else .no
  |_=>.no)
 |_=>.no
def zdh (xs:List D)(ys:List GD):Res (List D):=match ys with
 | [x]=>(match x.2 with
  |.int i=>if decide (0<=i)&&decide (i<xs.length)&&decide (xs.length<=LIM)then .ok (xs.eraseIdx i.toNat)else .no
  |_=>.no)
 |_=>.no
def mutD (m:String)(xs:List D)(ys:List GD):Res (List D):=
 if m="append"then(match ys with| [y]=>if okIn y&&decide (xs.length<LIM)then .ok (xs++[y.2])else .no|_=>.no)
 else if m="insert"then putAt xs ys
 else if m="pop"then zdh xs ys
 else .no
def ownB (ρ:Rho)(i:Nat):Bool:=match ρ[i]? with
 |some (some (.fr,_))=>true
 |_=>false
def zf3 (i:Nat)(ρ:Rho):Res (G×List D×Rho):=match ρ[i]? with
 |some (some (.fr,d))=>z5f d>>=fun xs=>.ok (.al,xs,ρ.set i (some (.al,d)))
 |_=>.no
def zd6:Option GD->Option GD
 |some (.fr,.list xs)=>some (.al,.list xs)
 |s=>s
def evAl (x:GD)(ρ:Rho):Res (G×List D×Rho):=match x.2 with
 |.list xs=>if imms xs then .ok (.al,xs,ρ.map zd6)else .no
 |_=>.no
def zd1 (x:GD):Bool:=match x.2 with
 |.list _=>!(x.1==.al)
 |d=>!(x.1==.al)||imm d
def evEn (ys:List GD)(ρ:Rho):Res (G×List D×Rho):=match ys with
 | [x]=>if zd1 x then seqR x.2>>=fun xs=>.ok (.al,zeq 0 xs,ρ)else .no
 |_=>.no
def evZi (ys:List GD)(ρ:Rho):Res (G×List D×Rho):=match ys with
 | [x,y]=>if zd1 x&&zd1 y then seqR x.2>>=fun xs=>seqR y.2>>=fun zs=>.ok (.al,zipD xs zs,ρ)else .no
 |_=>.no
def isAl (it:C)(ρ:Rho):Bool:=match evW Κ Φ it ρ with
 |.ok w=>w.1==.al
 |_=>false
def evN (it:C)(ρ:Rho):Res (G×List D×Rho):=evW Κ Φ it ρ>>=fun w=>if w.1==.al then .no else .ok (w.1,w.2,ρ)
def evF (it:C)(ρ:Rho):Res (G×List D×Rho):=match it with
 |.tv (.var i)=>if ownB ρ i then zf3 i ρ else if isAl Κ Φ it ρ then evE Κ Φ (.var i) ρ>>=fun x=>evAl x ρ else evN Κ Φ it ρ
 |.tv a=>if isAl Κ Φ it ρ then evE Κ Φ a ρ>>=fun x=>evAl x ρ else evN Κ Φ it ρ
 |.enum a=>evA Κ Φ (.cons a .nil) ρ>>=fun ys=>evEn ys ρ
 |.zip a b=>evA Κ Φ (.cons a (.cons b .nil)) ρ>>=fun ys=>evZi ys ρ
 |it=>evN Κ Φ it ρ
def outI (i:Nat):Res Out->Res Out
 |.ok (.nx ρ)=>.ok (.nx (ρ.set i none))
 |.ok (.rt g d)=>.ok (.rt g d)
 |_=>.no
def excOf:Res GD->Option Str
 |.exc (.str c)=>some c
 |_=>none
def z7h (xs:List D):Option D:=match xs.getLast? with
 |some d=>if imm d then some d else none
 |none=>none
def frzS:Option GD->Option GD
 |some (.fr,d)=>some (.nu,d)
 |s=>s
mutual
def mayE:ac->ac->Bool
 |.list xs,y=>match y with|.list ys=>zio xs ys|_=>false
 |.tuple _,y=>match y with|.list _=>false|_=>true
 |.dict _,y=>match y with|.list _=>false|_=>true
 |.none,y=>match y with|.list _=>false|_=>true
 |.bool _,y=>match y with|.list _=>false|_=>true
 |.int _,y=>match y with|.list _=>false|_=>true
 |.str _,y=>match y with|.list _=>false|_=>true
def zio:List ac->List ac->Bool
 | [],ys=>ys.isEmpty
 |x::xs,ys=>match ys with|y::ys=>mayE x y&&zio xs ys| []=>false
end
mutual
def apart (z:D):ac->Bool
 |.tuple xs=>z5z z xs
 |.list xs=>!(mayE (.list xs) z)&&z5z z xs
 |.dict _=>false
 |.none=>true
 |.bool _=>true
 |.int _=>true
 |.str _=>true
def z5z (z:D):List ac->Bool
 | []=>true
 |x::xs=>apart z x&&z5z z xs
end
def zk0 (z:D):Option GD->Option GD
 |some (g,d)=>if imm d then some (.al,d)else match g with
  |.od=>some (.od,d)
  |.nu=>if apart z d then some (.nu,d)else none
  |_=>none
 |none=>none
def zkn:Option GD->Option GD
 |some (g,d)=>if imm d then some (.al,d)else match g with|.od=>some (.od,d)|_=>none
 |none=>none
def dapD (x y:GD):Res Unit:=match x.2 with
 |.list xs=>if x.1==.nu&&imm y.2&&decide (xs.length<LIM)then .ok ()else .no
 |_=>.no
def zdw:Res Out->Res Out
 |.ok (.rt g d)=>.ok (.rt g d)
 |_=>.no
def evS:S->Rho->Res Out
 |.nil,ρ=>.ok (.nx ρ)
 |.seq a b,ρ=>outB (evS a ρ) (evS b)
 |.pass,ρ=>.ok (.nx ρ)
 |.bad,_=>.no
 |.asg (.nm i) e,ρ=>evE Κ Φ e ρ>>=fun x=>.ok (.nx (ρ.set i (some (z0z x))))
 |.asg t e,ρ=>evE Κ Φ e ρ>>=fun x=>z0v t x ρ>>=fun ρ'=>.ok (.nx ρ')
 |.setIx i k v,ρ=>evE Κ Φ v ρ>>=fun y=>evE Κ Φ k ρ>>=fun x=>match ρ[i]? with
  |some (some (.fr,.dict es))=>if isK x.2&&okIn y&&decide (es.length<LIM)then .ok (.nx ((ρ.set i (some (.fr,.dict (dput es x.2 y.2)))).map z16))else .no
  |some (some (.fr,.list xs))=>(match x.2 with
   |.int j=>if okIn y then(match ixN xs.length j with|some n=>.ok (.nx ((ρ.set i (some (.fr,.list (xs.set n y.2)))).map z16))|none=>.no)else .no
   |_=>.no)
  |_=>.no
 |.mut m i args,ρ=>evA Κ Φ args ρ>>=fun ys=>match ρ[i]? with
  |some (some (.fr,.list xs))=>mutD m xs ys>>=fun xs'=>.ok (.nx ((ρ.set i (some (.fr,.list xs'))).map z16))
  |_=>.no
 |.drop e,ρ=>evE Κ Φ e ρ>>=fun _=>.ok (.nx ρ)
 |.ret e,ρ=>match e with
  |.var i=>match ρ[i]? with
   |some (some (g,d))=>.ok (.rt (if imm d then .fr else rtG g) d)
   |_=>.no
  |e=>evE Κ Φ e ρ>>=fun x=>.ok (.rt (rtG x.1) x.2)
 |.retN,_=>.ok (.rt .fr .none)
 |.ifS c a b,ρ=>evT Κ Φ c ρ>>=fun k=>if k then evS a ρ else evS b ρ
 |.for_ t it b,ρ=>evF Κ Φ it ρ>>=fun w=>forD (fun x ρ1=>z0v t (gJ x w.1,x) ρ1>>=fun ρ2=>evS b ρ2) w.2.1 w.2.2
 |.wh n c b,ρ=>whD (evT Κ Φ c) (evS b) n ρ
 |.brk,ρ=>.ok (.bk ρ)
 |.cnt,ρ=>.ok (.ct ρ)
 |.pop j i,ρ=>match ρ[i]? with
  |some (some (.fr,.list xs))=>(match z7h xs with
   |some d=>.ok (.nx (((ρ.set i (some (.fr,.list xs.dropLast))).map z16).set j (some (.al,d))))
   |none=>.no)
  |_=>.no
 |.pap i a r,ρ=>evE Κ Φ a ρ>>=fun x=>match ρ[i]? with
  |some (some (.fr,.list xs))=>(match z7h xs with
   |some d=>evA Κ Φ r ((ρ.set i (some (.fr,.list xs.dropLast))).map z16)>>=fun zs=>if imm x.2&&imms (zs.map (·.2))&&decide (xs.length<=LIM)then .ok (.nx ((((ρ.set i (some (.fr,.list xs.dropLast))).map z16).set i (some (.fr,.list (xs.dropLast++[.tuple (x.2::d::zs.map (·.2))])))).map z16))else .no
   |none=>.no)
  |_=>.no
 |.dap e a b,ρ=>evE Κ Φ e ρ>>=fun x=>evE Κ Φ a ρ>>=fun y=>dapD x y>>=fun _=>zdw (evS b (ρ.map zkn))
 |.frz j s,ρ=>evS s (ρ.set j (frzS (ρ.getD j none)))
 |.dpp i a b,ρ=>evE Κ Φ a ρ>>=fun y=>match ρ[i]? with
  |some (some (.fr,.list xs))=>if okIn y&&decide (xs.length<LIM)then zdw (evS b ((ρ.set i (some (.fr,.list (xs++[y.2])))).map z16))else .no
  |some (some (.nu,.list xs))=>if(y.1==.fr||imm y.2)&&z5z (.list xs) xs&&decide (xs.length<LIM)then zdw (evS b ((ρ.map (zk0 (.list xs))).set i (some (.nu,.list (xs++[y.2])))))else .no
  |_=>.no
 |.stl s,ρ=>if noOwn ρ then evS s (ρ.map settle)else evS s (ρ.map settleA)
 |.rse _,_=>.no
 |.tr k _ args c i b,ρ=>evA Κ Φ args ρ>>=fun ys=>match Φ[k]? with
  |some m=>(match m (ys.map (·.2))with
   |.ok _=>.ok (.nx ρ)
   |r=>if excOf r=some c then outI i (evS b (ρ.set i none))else .no)
  |none=>.no
 |.alt a b,ρ=>match evS a ρ with
  |.ok o=>.ok o
  |_=>evS b ρ
mutual
def exE:C->Rho->Option Str
 |.call k _ args,ρ=>match evA Κ Φ args ρ with
  |.ok ys=>(match Φ[k]? with|some m=>excOf (m (ys.map (·.2)))|none=>none)
  |_=>exA args ρ
 |_,_=>none
def exA:C->Rho->Option Str
 |.cons a r,ρ=>match evE Κ Φ a ρ with
  |.ok _=>exA r ρ
  |_=>exE a ρ
 |_,_=>none
end
def exT:C->Rho->Option Str
 |.not a,ρ=>exT a ρ
 |.tv a,ρ=>exE Κ Φ a ρ
 |_,_=>none
def forX (f:D->Rho->Res Out)(g:D->Rho->Option Str):List D->Rho->Option Str
 | [],_=>none
 |x::xs,ρ=>match f x ρ with
  |.ok (.nx ρ')=>forX f g xs ρ'
  |.ok (.ct ρ')=>forX f g xs ρ'
  |.ok _=>none
  |_=>g x ρ
def evX:S->Rho->Option Str
 |.rse c,_=>some c
 |.seq a b,ρ=>match evS Κ Φ a ρ with
  |.ok (.nx ρ')=>evX b ρ'
  |.ok _=>none
  |_=>evX a ρ
 |.ifS c a b,ρ=>match evT Κ Φ c ρ with
  |.ok k=>if k then evX a ρ else evX b ρ
  |_=>exT Κ Φ c ρ
 |.drop e,ρ=>exE Κ Φ e ρ
 |.ret e,ρ=>exE Κ Φ e ρ
 |.asg (.nm _) e,ρ=>exE Κ Φ e ρ
 |.for_ t it b,ρ=>match evF Κ Φ it ρ with
  |.ok w=>forX (fun x ρ1=>z0v t (gJ x w.1,x) ρ1>>=fun ρ2=>evS Κ Φ b ρ2) (fun x ρ1=>match z0v t (gJ x w.1,x) ρ1 with|.ok ρ2=>evX b ρ2|_=>none) w.2.1 w.2.2
  |_=>none
 |_,_=>none
def runD (n:Nat)(s:S)(ds:List D):Res GD:=match evS Κ Φ s (ds.map (fun d=>some (.od,d))++ai (n-ds.length) none)with
 |.ok (.nx _)=>.ok (.fr,.none)
 |.ok (.rt g d)=>.ok (g,d)
 |.ok _=>.no
 |_=>match evX Κ Φ s (ds.map (fun d=>some (.od,d))++ai (n-ds.length) none)with
  |some c=>.exc (.str c)
  |none=>.no
end
end Mi
namespace Mi
open PySem PySem.Spec PyProof.Rows L2
def kD:Key->D
 |.inl i=>.int i
 |.inr x=>.str x
def keyOk:Key->Prop
 |.inl _=>True
 |.inr x=>PyData.strOk x=true
def KL (K:W.Frag)(a:Addr)(xs:List V):Prop:=∃(o:Obj) (its:Array Value) (n:Nat),K.lookup a=some o/\o.cls=.type "list"/\o.dict=none/\o.data=.seq its n/\its.size<=ah/\Vals xs its.toList
abbrev Ad:=Option Addr
def FL (K:W.Frag)(H:Hp)(a:Addr)(xs:List V):Prop:=(∃o,H a=some (.frz o (.lst xs)))\/KL K a xs
def nw (H:Hp):Ad->Prop
 |some a=>H a=none
 |none=>False
section
variable (K:W.Frag)(H:Hp)(B:Ad->Prop)
mutual
def Rep:V->ac->Prop
 |v,.none=>v=.non
 |v,.bool b=>v=.bl b
 |v,.int i=>v=.int i
 |v,.str x=>v=.str x/\PyData.strOk x=true
 |v,.tuple ds=>∃a vs,v=.ref a/\SqT K H a vs/\Reps vs ds
 |v,.list ds=>∃a vs,v=.ref a/\((H a=some (.lst vs)/\B (some a))\/(FL K H a vs/\B none))/\Reps vs ds
 |v,.dict es=>∃a kvs,v=.ref a/\H a=some (.dK kvs)/\B (some a)/\REs kvs es
def Reps:List V->List ac->Prop
 |vs,[]=>vs=[]
 |vs,d::ds=>∃v r,vs=v::r/\Rep v d/\Reps r ds
def REs:List (Key×V)->List (ac×ac)->Prop
 |kvs,[]=>kvs=[]
 |kvs,(kd,d)::es=>∃k v r,kvs=(k,v)::r/\kd=kD k/\keyOk k/\Rep v d/\REs r es
end
end
def Fix:HO->Prop
 |.tup _=>True
 |.frz _ (.lst _)=>True
 |.frz _ (.tup _)=>True
 |_=>False
section
variable {K:W.Frag}{H H':Hp}{B B':Ad->Prop}
theorem FL.keep {a:Addr}{vs:List V}(hH:∀a o,H a=some o->(B (some a)\/Fix o)->H' a=some o)(r:FL K H a vs):FL K H' a vs:=by
 rcases r with⟨o,r⟩|r
 ·exact .inl ⟨o,hH a _ r (.inr True.intro)⟩
 ·exact .inr r
theorem _root_.L2.SqT.keep {a:Addr}{vs:List V}(hH:∀a o,H a=some o->(B (some a)\/Fix o)->H' a=some o)(r:SqT K H a vs):SqT K H' a vs:=by
 rcases r with(r|⟨o,r⟩)|r
 ·exact .inl (.inl (hH a _ r (.inr True.intro)))
 ·exact .inl (.inr ⟨o,hH a _ r (.inr True.intro)⟩)
 ·exact .inr r
mutual
theorem Rep.keep (hH:∀a o,H a=some o->(B (some a)\/Fix o)->H' a=some o)(hB:∀a,B a->B' a):∀{v:V} (d:ac),Rep K H B v d->Rep K H' B' v d
 |v,.none,r=>r
 |v,.bool b,r=>r
 |v,.int i,r=>r
 |v,.str x,r=>r
 |v,.tuple ds,r=>by obtain⟨a,vs,e,h,q⟩:=r;exact⟨a,vs,e,h.keep hH,Reps.keep hH hB ds q⟩
 |v,.list ds,r=>by
  obtain⟨a,vs,e,h,q⟩:=r;refine⟨a,vs,e,?_,Reps.keep hH hB ds q⟩;rcases h with⟨h,b⟩|h
  ·exact .inl ⟨hH a _ h (.inl b),hB _ b⟩
  ·exact .inr ⟨FL.keep hH h.1,hB _ h.2⟩
 |v,.dict es,r=>by obtain⟨a,kvs,e,h,b,q⟩:=r;exact⟨a,kvs,e,hH a _ h (.inl b),hB _ b,REs.keep hH hB es q⟩
theorem Reps.keep (hH:∀a o,H a=some o->(B (some a)\/Fix o)->H' a=some o)(hB:∀a,B a->B' a):∀{vs:List V} (ds:List ac),Reps K H B vs ds->Reps K H' B' vs ds
 |vs,[],r=>r
 |vs,d::ds,r=>by obtain⟨v,t,e,h,q⟩:=r;exact⟨v,t,e,Rep.keep hH hB d h,Reps.keep hH hB ds q⟩
theorem REs.keep (hH:∀a o,H a=some o->(B (some a)\/Fix o)->H' a=some o)(hB:∀a,B a->B' a):∀{kvs:List (Key×V)} (es:List (ac×ac)),REs K H B kvs es->REs K H' B' kvs es
 |kvs,[],r=>r
 |kvs,(kd,d)::es,r=>by obtain⟨k,v,t,e,e2,ok,h,q⟩:=r;exact⟨k,v,t,e,e2,ok,Rep.keep hH hB d h,REs.keep hH hB es q⟩
end
theorem Rep.same {v:V}{d:D}(s:Same H H')(hB:∀a,B a->B' a)(r:Rep K H B v d):Rep K H' B' v d:=Rep.keep (fun a o e _=>s a o e) hB d r
theorem Reps.same {vs:List V}{ds:List D}(s:Same H H')(hB:∀a,B a->B' a)(r:Reps K H B vs ds):Reps K H' B' vs ds:=Reps.keep (fun a o e _=>s a o e) hB ds r
theorem REs.same {vs:List (Key×V)}{ds:Ents}(s:Same H H')(hB:∀a,B a->B' a)(r:REs K H B vs ds):REs K H' B' vs ds:=REs.keep (fun a o e _=>s a o e) hB ds r
theorem Rep.weak {v:V}{d:D}(hB:∀a,B a->B' a)(r:Rep K H B v d):Rep K H B' v d:=r.same (fun _ _ e=>e) hB
theorem Reps.weak {v:List V}{d:List D}(hB:∀a,B a->B' a)(r:Reps K H B v d):Reps K H B' v d:=r.same (fun _ _ e=>e) hB
mutual
theorem Rep.immB:∀{v:V} (d:ac),imm d=true->Rep K H B v d->Rep K H B' v d
 |v,.none,_,r=>r
 |v,.bool b,_,r=>r
 |v,.int i,_,r=>r
 |v,.str x,_,r=>r
 |v,.tuple ds,i,r=>by obtain⟨a,vs,e,h,q⟩:=r;exact⟨a,vs,e,h,Reps.immB ds (i) q⟩
 |v,.list ds,i,r=>by cases(show false=true from i)
 |v,.dict es,i,r=>by cases(show false=true from i)
theorem Reps.immB:∀{vs:List V} (ds:List ac),imms ds=true->Reps K H B vs ds->Reps K H B' vs ds
 |vs,[],_,r=>r
 |vs,d::ds,i,r=>by have i:=aq.mp (show(imm d&&imms ds)=true from i);obtain⟨v,t,e,h,q⟩:=r;exact⟨v,t,e,Rep.immB d i.1 h,Reps.immB ds i.2 q⟩
end
mutual
theorem Rep.immK (hH:∀a o,H a=some o->Fix o->H' a=some o):∀{v:V} (d:ac),imm d=true->Rep K H B v d->Rep K H' B' v d
 |v,.none,_,r=>r
 |v,.bool b,_,r=>r
 |v,.int i,_,r=>r
 |v,.str x,_,r=>r
 |v,.tuple ds,i,r=>by obtain⟨a,vs,e,h,q⟩:=r;exact⟨a,vs,e,h.keep (B:=fun _=>False) (fun a o e f=>hH a o e (f.resolve_left id)),Reps.immK hH ds (i) q⟩
 |v,.list ds,i,r=>by cases(show false=true from i)
 |v,.dict es,i,r=>by cases(show false=true from i)
theorem Reps.immK (hH:∀a o,H a=some o->Fix o->H' a=some o):∀{vs:List V} (ds:List ac),imms ds=true->Reps K H B vs ds->Reps K H' B' vs ds
 |vs,[],_,r=>r
 |vs,d::ds,i,r=>by have i:=aq.mp (show(imm d&&imms ds)=true from i);obtain⟨v,t,e,h,q⟩:=r;exact⟨v,t,e,Rep.immK hH d i.1 h,Reps.immK hH ds i.2 q⟩
end
theorem Reps.length:∀{vs:List V} {ds:List D},Reps K H B vs ds->vs.length=ds.length
 |vs,[],r=>by have e:vs=[]:=r;subst e;rfl
 |vs,d::ds,r=>by obtain⟨v,t,e,h,q⟩:=r;subst e;rw[ay,ay,q.length]
theorem Reps.get:∀{vs:List V} {ds:List D} {i:Nat} {d:D},Reps K H B vs ds->ds[i]?=some d->∃v,vs[i]?=some v/\Rep K H B v d
 |vs,[],i,d,r,e=>by simp at e
 |vs,d0::ds,0,d,r,e=>by
  obtain⟨v,t,e1,h,q⟩:=r;subst e1;have:d0=d:=by simpa using e
  subst this;exact⟨v,rfl,h⟩
 |vs,d0::ds,i+1,d,r,e=>by obtain⟨v,t,e1,h,q⟩:=r;subst e1;obtain⟨u,h1,h2⟩:=q.get (i:=i) (d:=d) (by simpa using e);exact⟨u,by simpa using h1,h2⟩
theorem Reps.getV:∀{vs:List V} {ds:List D} {i:Nat} {v:V},Reps K H B vs ds->vs[i]?=some v->∃d,ds[i]?=some d/\Rep K H B v d
 |vs,[],i,v,r,e=>by have e1:vs=[]:=r;subst e1;simp at e
 |vs,d0::ds,0,v,r,e=>by
  obtain⟨u,t,e1,h,q⟩:=r;subst e1;have:u=v:=by simpa using e
  subst this;exact⟨d0,rfl,h⟩
 |vs,d0::ds,i+1,v,r,e=>by obtain⟨u,t,e1,h,q⟩:=r;subst e1;obtain⟨d,h1,h2⟩:=q.getV (i:=i) (v:=v) (by simpa using e);exact⟨d,by simpa using h1,h2⟩
theorem Reps.cons {v:V}{d:D}{vs:List V}{ds:List D}(h:Rep K H B v d)(r:Reps K H B vs ds):Reps K H B (v::vs) (d::ds):=⟨v,vs,rfl,h,r⟩
theorem Reps.append:∀{vs ws:List V} {ds es:List D},Reps K H B vs ds->Reps K H B ws es->Reps K H B (vs++ws) (ds++es)
 |vs,ws,[],es,r,q=>by have e:vs=[]:=r;subst e;exact q
 |vs,ws,d::ds,es,r,q=>by obtain⟨v,t,e,h,p⟩:=r;subst e;exact⟨v,t++ws,rfl,h,p.append q⟩
theorem Reps.take:∀{vs:List V} {ds:List D} (n:Nat),Reps K H B vs ds->Reps K H B (vs.take n) (ds.take n)
 |vs,ds,0,r=>by rw[List.take_zero,List.take_zero];exact rfl
 |vs,[],n+1,r=>by have e:vs=[]:=r;subst e;exact rfl
 |vs,d::ds,n+1,r=>by obtain⟨v,t,e,h,p⟩:=r;subst e;exact⟨v,t.take n,rfl,h,p.take n⟩
theorem Reps.drop:∀{vs:List V} {ds:List D} (n:Nat),Reps K H B vs ds->Reps K H B (vs.drop n) (ds.drop n)
 |vs,ds,0,r=>r
 |vs,[],n+1,r=>by have e:vs=[]:=r;subst e;exact rfl
 |vs,d::ds,n+1,r=>by obtain⟨v,t,e,h,p⟩:=r;subst e;exact p.drop n
theorem Reps.set {v:V}{d:D}(h:Rep K H B v d):∀{vs:List V} {ds:List D} (n:Nat),Reps K H B vs ds->Reps K H B (vs.set n v) (ds.set n d)
 |vs,[],n,r=>by have e:vs=[]:=r;subst e;exact rfl
 |vs,d::ds,0,r=>by obtain⟨u,t,e,_,p⟩:=r;subst e;exact⟨_,_,rfl,h,p⟩
 |vs,d::ds,n+1,r=>by obtain⟨u,t,e,h0,p⟩:=r;subst e;exact⟨_,_,rfl,h0,p.set h n⟩
mutual
theorem Rep.there:∀{v:V} (d:ac),Rep K H B v d->Rep K H (fun a=>B a/\¬nw H a) v d
 |v,.none,r=>r
 |v,.bool b,r=>r
 |v,.int i,r=>r
 |v,.str x,r=>r
 |v,.tuple ds,r=>by obtain⟨a,vs,e,h,q⟩:=r;exact⟨a,vs,e,h,Reps.there ds q⟩
 |v,.list ds,r=>by
  obtain⟨a,vs,e,h,q⟩:=r;refine⟨a,vs,e,?_,Reps.there ds q⟩;rcases h with⟨h,b⟩|h
  ·refine .inl ⟨h,b,fun z=>?_⟩;have z':H a=none:=z;rw[h]at z';cases z'
  ·exact .inr ⟨h.1,h.2,fun z=>z⟩
 |v,.dict es,r=>by obtain⟨a,kvs,e,h,b,q⟩:=r;exact⟨a,kvs,e,h,⟨b,fun z=>by have z':H a=none:=z;rw[h]at z';cases z'⟩,REs.there es q⟩
theorem Reps.there:∀{vs:List V} (ds:List ac),Reps K H B vs ds->Reps K H (fun a=>B a/\¬nw H a) vs ds
 |vs,[],r=>r
 |vs,d::ds,r=>by obtain⟨v,t,e,h,q⟩:=r;exact⟨v,t,e,Rep.there d h,Reps.there ds q⟩
theorem REs.there:∀{kvs:List (Key×V)} (es:List (ac×ac)),REs K H B kvs es->REs K H (fun a=>B a/\¬nw H a) kvs es
 |kvs,[],r=>r
 |kvs,(kd,d)::es,r=>by obtain⟨k,v,t,e,e2,ok,h,q⟩:=r;exact⟨k,v,t,e,e2,ok,Rep.there d h,REs.there es q⟩
end
end
structure Fm where
 H0:Hp
 V:Addr->Prop
 O:Addr->Option Nat
 z:Prop
def Bin (F:Fm):Ad->Prop
 |some a=>F.O a=none/\F.H0 a=none/\F.V a
 |none=>False
def visA (F:Fm):Ad->Prop
 |some a=>F.V a
 |none=>F.z
def oldA (F:Fm):Ad->Prop
 |some a=>F.H0 a≠none/\F.V a
 |none=>F.z
def Slot (K:W.Frag)(F:Fm)(H:Hp)(i:Nat):G->V->D->Prop
 |.fr,v,d=>∃p,v=.ref p/\F.O p=some i/\((∃vs ds,d=.list ds/\H p=some (.lst vs)/\Reps K H (Bin F) vs ds)\/(∃kvs es,d=.dict es/\H p=some (.dK kvs)/\REs K H (Bin F) kvs es))
 |.od,v,d=>Rep K H (oldA F) v d
 |.al,v,d=>Rep K H (visA F) v d
 |.nu,v,d=>Rep K H (Bin F) v d
structure StOk (K:W.Frag)(F:Fm)(H:Hp)(σ:L2.St)(ρ:Rho):Prop where
 ext:Same F.H0 H
 vis:∀a,H a=none->F.V a
 own:∀a i,F.O a=some i->F.H0 a=none/\F.V a/\((∃xs,H a=some (.lst xs))\/∃kvs,H a=some (.dK kvs))
 len:σ.length=ρ.length
 sl:∀i g d,ρ[i]?=some (some (g,d))->∃v,σ[i]?=some (some v)/\Slot K F H i g v d
def BG (F:Fm)(H:Hp):G->Ad->Prop
 |.fr=>nw H
 |.od=>oldA F
 |.al=>visA F
 |.nu=>fun a=>nw H a\/Bin F a
section
variable {K:W.Frag}{F:Fm}{H H':Hp}{σ:L2.St}{ρ:Rho}
theorem Slot.same {i:Nat}{g:G}{v:V}{d:D}(s:Same H H')(h:Slot K F H i g v d):Slot K F H' i g v d:=by
 cases g with
 |fr=>
  obtain⟨p,e,o,h⟩:=h;refine⟨p,e,o,?_⟩;rcases h with⟨vs,ds,e1,e2,r⟩|⟨vs,ds,e1,e2,r⟩
  ·exact .inl ⟨vs,ds,e1,s _ _ e2,r.same s fun _ b=>b⟩
  ·exact .inr ⟨vs,ds,e1,s _ _ e2,r.same s fun _ b=>b⟩
 |od=>exact Rep.same s (fun _ b=>b) h
 |al=>exact Rep.same s (fun _ b=>b) h
 |nu=>exact Rep.same s (fun _ b=>b) h
theorem _root_.L2.Same.none {a:Addr}(s:Same H H')(h:H' a=none):H a=none:=by
 cases e:H a with
 |none=>rfl
 |some o=>rw[s a o e]at h;cases h
theorem StOk.same (s:Same H H')(h:StOk K F H σ ρ):StOk K F H' σ ρ where
 ext:=fun a o e=>s a o (h.ext a o e)
 vis:=fun a e=>h.vis a (s.none e)
 own:=fun a i e=>by
  obtain⟨h1,h3,h2⟩:=h.own a i e;refine⟨h1,h3,?_⟩;rcases h2 with⟨xs,h2⟩|⟨xs,h2⟩
  ·exact .inl ⟨xs,s _ _ h2⟩
  ·exact .inr ⟨xs,s _ _ h2⟩
 len:=h.len
 sl:=fun i g d e=>by obtain⟨v,h1,h2⟩:=h.sl i g d e;exact⟨v,h1,h2.same s⟩
theorem nw.back {a:Ad}(s:Same H H')(h:nw H' a):nw H a:=by
 cases a with
 |none=>exact h
 |some a=>exact s.none h
theorem nw.vis {a:Ad}(hv:∀a,H a=none->F.V a)(h:nw H a):visA F a:=by
 cases a with
 |none=>exact h.elim
 |some a=>exact hv a h
theorem oldA.vis {a:Ad}(h:oldA F a):visA F a:=by
 cases a with
 |none=>exact h
 |some a=>exact h.2
theorem Bin.vis {a:Ad}(h:Bin F a):visA F a:=by
 cases a with
 |none=>exact h.elim
 |some a=>exact h.2.2
theorem BG.back {g:G}{a:Ad}(s:Same H H')(h:BG F H' g a):BG F H g a:=by
 cases g with
 |fr=>exact nw.back s h
 |od=>exact h
 |al=>exact h
 |nu=>exact h.elim (fun h=>.inl (nw.back s h)) .inr
theorem BG.vis {g:G}{a:Ad}(hv:∀a,H a=none->F.V a)(h:BG F H g a):visA F a:=by
 cases g with
 |fr=>exact nw.vis hv h
 |od=>exact oldA.vis h
 |al=>exact h
 |nu=>exact h.elim (nw.vis hv) Bin.vis
theorem Slot.rep {i:Nat}{g:G}{v:V}{d:D}(so:∀a i,F.O a=some i->F.V a)(h:Slot K F H i g v d):Rep K H (visA F) v d:=by
 cases g with
 |fr=>
  obtain⟨p,e,o,h⟩:=h;rcases h with⟨vs,ds,rfl,e2,r⟩|⟨vs,ds,rfl,e2,r⟩
  ·exact⟨p,vs,e,.inl ⟨e2,so _ _ o⟩,r.weak fun _ b=>b.vis⟩
  ·exact⟨p,vs,e,e2,so _ _ o,REs.same (fun _ _ e=>e) (fun _ b=>b.vis) r⟩
 |od=>exact Rep.weak (fun _ b=>b.vis) h
 |al=>exact h
 |nu=>exact Rep.weak (fun _ b=>Bin.vis b) h
theorem StOk.ownV (h:StOk K F H σ ρ):∀a i,F.O a=some i->F.V a:=fun a i e=>(h.own a i e).2.1
theorem StOk.rd (h:StOk K F H σ ρ){i:Nat}{x:GD}(e:rdS ρ[i]?=.ok x):∃v,σ[i]?=some (some v)/\Rep K H (BG F H x.1) v x.2:=by
 cases e1:ρ[i]? with
 |none=>rw[e1]at e;cases e
 |some o=>
  cases o with
  |none=>rw[e1]at e;cases e
  |some gd=>
   obtain⟨g,d⟩:=gd;rw[e1]at e;obtain⟨v,h1,h2⟩:=h.sl i g d e1;have e':x=(if imm d then .fr else rdG g,d):=(Res.ok.inj e).symm;subst e';refine⟨v,h1,?_⟩;by_cases hi:imm d=true
   ·show Rep K H (BG F H (if imm d=true then _ else _)) v d;rw[if_pos hi];exact Rep.immB d hi (h2.rep h.ownV)
   ·show Rep K H (BG F H (if imm d=true then _ else _)) v d;rw[if_neg hi];cases g with
    |fr=>exact h2.rep h.ownV
    |od=>exact h2
    |al=>exact h2
    |nu=>exact Rep.weak (fun _ b=>.inr b) h2
end
structure Gm where
 N:List Str
 sc:Scope
 blk:Bool:=false
 free:List Str
 fns:List (Str×Nat)
 cst:List Str
 cm:Bool:=true
 xc:Option (Str×Str):=none
 sub:List (Str×Str×Bool):=[]
 rs:List Str:=[]
 hnd:List (Str×Str):=[]
section
variable (Γ:Gm)
def visB (i:Nat)(x:Str):Bool:=(Γ.N[i]?==some x)&&(Γ.sc.names.lookup x==some .local||Γ.sc.names.lookup x==some .cell||Γ.sc.names.lookup x==some .free)&& !(x==("__debug__":Str))&& !(x==("__classdict__":Str))
def glB (x:Str):Bool:=(Γ.sc.names.lookup x==some .globalImplicit)&& !(x==("__debug__":Str))
def bltB (x:Str):Bool:=glB Γ x&&Γ.free.contains x&& !(x==("__name__":Str))
def locB (i:Nat)(x:Str):Bool:=(Γ.N[i]?==some x)&&(Γ.sc.names.lookup x==some .local||(!Γ.blk&&Γ.sc.names.lookup x==some .cell))
end
def tgIx:Tg->List Nat
 |.nm i=>[i]
 |.tp is=>is
def zee (scope sc:Scope):Scope:={scope with names:=scope.names.map fun(n,k)=>if(k==.free&&sc.kind==.function&&sc.names.lookup n==some .cell)then(n,.cell)else(n,k)}
def plainT:Expr->Bool
 |.UnaryOp .Not _ _=>false
 |.BoolOp _ _ _=>false
 |.IfExp _ _ _ _=>false
 |.Compare _ _ _ _=>false
 |_=>true
def zch:Expr->Bool
 |.Compare _ _ _ _=>true
 |_=>false
def z1o:Expr->Bool
 |.Slice _ _ _ _=>false
 |_=>true
def z0q:Expr->Bool
 |.Call (.Name _ _) [] [] _=>false
 |_=>true
def za5:Expr->Bool
 |.Set _ _ _=>false
 |_=>true
def isTup:Expr->Bool
 |.Tuple _ _ _=>true
 |_=>false
def vNm:Expr->Option Str
 |.Name x _=>some x
 |_=>none
def vCst:Expr->Option Const
 |.Constant v _ _=>some v
 |_=>none
def vBin:Expr->Option (Expr×iu×Expr)
 |.BinOp l o r _=>some (l,o,r)
 |_=>none
def vUn:Expr->Option (UnaryOp×Expr)
 |.UnaryOp o x _=>some (o,x)
 |_=>none
def vCm:Expr->Option (Expr×List CmpOp×List Expr)
 |.Compare l o r _=>some (l,o,r)
 |_=>none
def vBo:Expr->Option (BoolOp×List Expr×Pos)
 |.BoolOp o xs p=>some (o,xs,p)
 |_=>none
def vIfE:Expr->Option (Expr×Expr×Expr)
 |.IfExp t x y _=>some (t,x,y)
 |_=>none
def vTup:Expr->Option (List Expr)
 |.Tuple es _ _=>some es
 |_=>none
def vLst:Expr->Option (List Expr)
 |.List es _=>some es
 |_=>none
def vDi:Expr->Option (List (Option Expr)×List Expr)
 |.Dict k v _=>some (k,v)
 |_=>none
def vSub:Expr->Option (Expr×Expr)
 |.Subscript x i _=>some (x,i)
 |_=>none
def vSli:Expr->Option (Option Expr×Option Expr×Option Expr)
 |.Slice l h s _=>some (l,h,s)
 |_=>none
def vCa:Expr->Option (Expr×List Expr×List i3×Pos)
 |.Call f es k p=>some (f,es,k,p)
 |_=>none
def vAt:Expr->Option (Expr×Str×Pos)
 |.Attribute x n p=>some (x,n,p)
 |_=>none
def vLC:Expr->Option (Expr×List iz×Scope)
 |.ListComp el gs s _=>some (el,gs,s)
 |_=>none
def vOne {α:Type}:List α->Option α
 | [x]=>some x
 |_=>none
def vTwo {α:Type}:List α->Option (α×α)
 | [x,y]=>some (x,y)
 |_=>none
def z20 (e:Expr):Option (Str×List Expr):=(vCa e).bind fun v=>if v.2.2.1.isEmpty then(vNm v.1).map fun x=>(x,v.2.1)else none
def vMt (e:Expr):Option (Expr×Str×List Expr×Bool):=(vCa e).bind fun v=>if v.2.2.1.isEmpty then(vAt v.1).map fun u=>(u.1,u.2.1,v.2.1,u.2.2.endLine==v.2.2.2.line)else none
def z3j (f g:Expr->Bool)(o:BoolOp)(p:Pos):List Expr->Bool
 |x::y::r=>f x&&(if r.isEmpty then g y else g (.BoolOp o (y::r) p))
 |_=>false
def ifsB (n:Bool)(f:Expr->Bool):List Expr->Bool
 | []=>n
 |t::r=>r.isEmpty&&f t
def isNl:C->Bool
 |.nil=>true
 |_=>false
def hd1 (f:Str->Bool)(e:Expr):Bool:=(vNm e).any f
def zfd (Γ:Gm):List Nat->List Expr->Bool
 | [],es=>es.isEmpty
 |i::is,es=>match es with|e::es=>hd1 (locB Γ i) e&&zfd Γ is es| []=>false
def z5j (Γ:Gm):Tg->Expr->Bool
 |.nm i,e=>hd1 (locB Γ i) e
 |.tp is,e=>Γ.cm&&(vTup e).any (zfd Γ is)
def zaz:iu->Bool
 |.Add|.Sub|.Mult|.FloorDiv|.Mod|.Pow=>true
 |_=>false
def z33:CmpOp->Bool
 |.Is|.IsNot=>false
 |_=>true
def okTy (T:String):Bool:=tysB.contains T
def tyB (Γ:Gm)(T:String)(t:Expr):Bool:=hd1 (fun x=>(x==Str.ofString T)&&bltB Γ x&&okTy T) t
def aggs:List String:=["list"]
def tgN:Tg->Bool
 |.nm _=>true
 |.tp _=>false
def isNm:Expr->Bool
 |.Name _ _=>true
 |_=>false
def zas:C->Expr->Bool
 |.enum _,e=>isTup e
 |.zip _ _,e=>isTup e||isNm e
 |_,_=>true
def popB (f:Expr->Bool)(e:Expr):Bool:=(vMt e).any fun m=>f m.1&&(m.2.1==("pop":Str))&&m.2.2.1.isEmpty&&m.2.2.2
def papB (f g:Expr->Bool)(h:List Expr->Bool):List Expr->Bool
 |a::b::l=>f a&&g b&&h l
 |_=>false
mutual
def chkE (Γ:Gm):C->Expr->Bool
 |.var i,e=>hd1 (visB Γ i) e
 |.non,e=>decide (vCst e=some .none)
 |.bl b,e=>decide (vCst e=some (.bool b))
 |.int i,e=>decide (vCst e=some (.int i))
 |.str x,e=>decide (vCst e=some (.str x))&&PyData.strOk x
 |.glob k x,e=>hd1 (fun y=>(x==y)&&glB Γ x&&(Γ.cst[k]?==some x)) e
 |.bin op a b,e=>(vBin e).any fun v=>decide (op=v.2.1)&&zaz op&&chkE Γ a v.1&&chkE Γ b v.2.2
 |.neg a,e=>(vUn e).any fun v=>decide (v.1=.USub)&&chkE Γ a v.2
 |.cmp op a b,e=>(vCm e).any fun v=>decide (v.2.1=[op])&&(vOne v.2.2).any fun r=>z33 op&& !(cx op r)&&chkE Γ a v.1&&chkE Γ b r
 |.chain _ _ _ _ _,_=>false
 |.isN ng a,e=>(vCm e).any fun v=>decide (v.2.1=[if ng then .IsNot else .Is])&&(vOne v.2.2).any fun r=>decide (vCst r=some .none)&&chkE Γ a v.1
 |.isB _ _ _,_=>false
 |.and a b,e=>(vBo e).any fun v=>decide (v.1=.And)&&z3j (fun x=>chkE Γ a x) (fun x=>chkE Γ b x) .And v.2.2 v.2.1
 |.or a b,e=>(vBo e).any fun v=>decide (v.1=.Or)&&z3j (fun x=>chkE Γ a x) (fun x=>chkE Γ b x) .Or v.2.2 v.2.1
 |.not a,e=>(vUn e).any fun v=>decide (v.1=.Not)&&chkE Γ a v.2
 |.ife c a b,e=>(vIfE e).any fun v=>chkT Γ c v.1&&chkE Γ a v.2.1&&chkE Γ b v.2.2
 |.tup xs,e=>(vTup e).any fun es=>decide (es.length<=1000)&&chkA Γ xs es
 |.lst xs,e=>(vLst e).any fun es=>decide (es.length<=1000)&&chkA Γ xs es
 |.rep xs b,e=>(vBin e).any fun v=>decide (v.2.1=.Mult)&&(vLst v.1).any fun es=>decide (es.length<=1000)&&chkA Γ xs es&&chkE Γ b v.2.2
 |.dnew,e=>(vDi e).any fun v=>v.1.isEmpty&&v.2.isEmpty
 |.ix a b,e=>(vSub e).any fun v=>z1o v.2&&chkE Γ a v.1&&chkE Γ b v.2
 |.fs _ _ _,_=>false
 |.sl a lo hi,e=>(vSub e).any fun v=>(vSli v.2).any fun s=>s.2.2.isNone&&chkE Γ a v.1&&chkO Γ lo s.1&&chkO Γ hi s.2.1
 |.call k f args,e=>(z20 e).any fun v=>(Γ.cm&&(v.1==f))&&glB Γ v.1&&(Γ.fns[k]?==some (f,v.2.length))&&chkA Γ args v.2&& !v.2.isEmpty
 |.caln _ _ _,_=>false
 |.lset _,_=>false
 |.bi f args,e=>(z20 e).any fun v=>(v.1==Str.ofString f)&&bltB Γ v.1&&((["len","min","int"].contains f)&&(Γ.cm||f=="int"))&&chkA Γ args v.2&& !v.2.isEmpty
 |.agg f a,e=>(z20 e).any fun v=>(v.1==Str.ofString f)&&bltB Γ v.1&&(aggs.contains f&&Γ.cm)&&(vOne v.2).any fun y=>!isStar y&&chkG Γ a y
 |.isT a ts,e=>(z20 e).any fun v=>(v.1==("isinstance":Str))&&bltB Γ v.1&&(vTwo v.2).any fun y=>!isStar y.1&&chkE Γ a y.1&&(vOne ts).any fun T=>tyB Γ T y.2
 |.mt m o args,e=>(vMt e).any fun v=>((v.2.1==Str.ofString m)&& ["join"].contains m&&z0q v.1&&v.2.2.2&&decide (v.2.2.1.length<20))&&chkE Γ o v.1&&chkA Γ args v.2.2.1&& !v.2.2.1.isEmpty
 |.comp nt js N' tg it cond elt,e=>(vLC e).any fun v=>(vOne v.2.1).any fun g=>let Γ':Gm:={Γ with N:=N',sc:=zee v.2.2 Γ.sc,blk:=true,xc:=none}
  ((Γ.cm&&(g.is_async==0))&&(tgIx tg).all (fun i=>decide (i<nt))&&blkB Γ.N Γ.sc v.2.2 N' nt js&&za5 g.iter&&decide N'.Nodup)&&(z5j Γ' tg g.target&&zas it g.target)&&chkW Γ it g.iter&&ifsB (isNl cond) (fun t=>chkT Γ' cond t) g.ifs&&chkE Γ' elt v.1
 |.sortK _,_=>false
 |.lk i,e=>(z20 e).any fun v=>(Γ.cm&&(v.1==("list":Str)))&&bltB Γ v.1&&(vOne v.2).any fun y=>hd1 (visB Γ i) y
 |.rv _,_=>false
 |.d1 _ _,_=>false
 |.spl _ _,_=>false
 |.upr _,_=>false
 |.sortI _,_=>false
 |.compI _ _ _ _ _ _,_=>false
 |.sl3 _ _ _ _,_=>false
 |.isE b x,e=>(z20 e).any fun v=>(v.1==("isinstance":Str))&&bltB Γ v.1&&(vTwo v.2).any fun y=>Γ.xc.any fun z=>hd1 (fun n=>(n==z.1)&&(Γ.sc.names.lookup n==some .local)&& !(n==("__debug__":Str))&& !(n==("__classdict__":Str))) y.1&&hd1 (fun C=>(C==x)&&glB Γ C&&Γ.sub.contains (z.2,x,b)) y.2
 |.dis _ _,_=>false
 |.fst _,_=>false
 |.rng _,_=>false
 |.items _,_=>false
 |.vals _,_=>false
 |.enum _,_=>false
 |.zip _ _,_=>false
 |.tv _,_=>false
 |.nil,_=>false
 |.cons _ _,_=>false
def chkT (Γ:Gm):C->Expr->Bool
 |.and a b,e=>(vBo e).any fun v=>decide (v.1=.And)&&z3j (fun x=>chkT Γ a x) (fun x=>chkT Γ b x) .And v.2.2 v.2.1
 |.or a b,e=>(vBo e).any fun v=>decide (v.1=.Or)&&z3j (fun x=>chkT Γ a x) (fun x=>chkT Γ b x) .Or v.2.2 v.2.1
 |.not a,e=>(vUn e).any fun v=>decide (v.1=.Not)&&chkT Γ a v.2
 |.tv a,e=>(plainT e||zch e)&&chkE Γ a e
 |_,_=>false
def chkA (Γ:Gm):C->List Expr->Bool
 |.nil,es=>es.isEmpty
 |.cons a r,es=>match es with|e::es=>!isStar e&&chkE Γ a e&&chkA Γ r es|_=>false
 |_,_=>false
def chkO (Γ:Gm):C->Option Expr->Bool
 |.nil,e=>e.isNone
 |.tv a,e=>e.any fun e=>chkE Γ a e
 |_,_=>false
def chkW (Γ:Gm):C->Expr->Bool
 |.rng args,e=>(z20 e).any fun v=>(v.1==("range":Str))&&bltB Γ v.1&&chkA Γ args v.2&&(!v.2.isEmpty&&decide (v.2.length<=1))
 |.tv a,e=>za5 e&&chkE Γ a e
 |_,_=>false
def chkG (Γ:Gm):C->Expr->Bool
 |.tv a,e=>chkE Γ a e
 |_,_=>false
end
def isCI:C->Bool
 |.compI _ _ _ _ _ _=>true
 |_=>false
def chkF (Γ:Gm)(it:C)(tg ie:Expr):Bool:=zas it tg&&chkW Γ it ie
def vAs:Stmt->Option (List Expr×Expr)
 |.Assign t v _=>some (t,v)
 |_=>none
def vEx:Stmt->Option Expr
 |.Expr v _=>some v
 |_=>none
def vRt:Stmt->Option (Option Expr)
 |.Return v _=>some v
 |_=>none
def vIf:Stmt->Option (Expr×List Stmt×List Stmt)
 |.If t A B _=>some (t,A,B)
 |_=>none
def vFo:Stmt->Option (Expr×Expr×List Stmt×List Stmt)
 |.For t i B o _=>some (t,i,B,o)
 |_=>none
def vWh:Stmt->Option (Expr×List Stmt×List Stmt)
 |.While t B o _=>some (t,B,o)
 |_=>none
def vRa:Stmt->Option (Str×List Expr)
 |.Raise (some c) none _=>z20 c
 |_=>none
def zcs (e:Expr):Bool:=(vCst e).any fun k=>match k with|.str x=>PyData.strOk x|_=>false
def vEh:ExceptHandler->Option (Str×Str×List Stmt)
 |.ExceptHandler (some (.Name x _)) (some n) b _=>some (x,n,b)
 |_=>none
def vTr:Stmt->Option (Str×List Expr×Str×Str×List Stmt)
 |.Try [.Expr c _] [h] [] [] _=>(z20 c).bind fun v=>(vEh h).map fun u=>(v.1,v.2,u)
 |_=>none
mutual
def chk1 (Γ:Gm):S->Stmt->Bool
 |.pass,_=>false
 |.bad,_=>true
 |.asg t e,s=>(vAs s).any fun u=>(vOne u.1).any fun x=>z5j Γ t x&& !isCI e&&(tgN t||(!z0k u.2&& !isTup u.2))&&chkE Γ e u.2
 |.setIx i k v,s=>(vAs s).any fun u=>(vOne u.1).any fun x=>(vSub x).any fun w=>hd1 (visB Γ i) w.1&&z1o w.2&& !z0k u.2&&chkE Γ k w.2&&chkE Γ v u.2
 |.mut m i args,s=>(vEx s).any fun c=>(vMt c).any fun v=>(hd1 (visB Γ i) v.1&&(v.2.1==Str.ofString m)&& ["append","insert","pop"].contains m&&v.2.2.2&&decide (v.2.2.1.length<20))&& !v.2.2.1.isEmpty&&chkA Γ args v.2.2.1
 |.drop e,s=>(vEx s).any fun v=>!z0k v&&chkE Γ e v
 |.ret e,s=>(vRt s).any fun o=>o.any fun v=>chkE Γ e v
 |.retN,_=>false
 |.ifS c a b,s=>(vIf s).any fun v=>chkT Γ c v.1&&chkL Γ a v.2.1&&chkL Γ b v.2.2
 |.for_ t it b,s=>Γ.cm&&(vFo s).any fun v=>z5j Γ t v.1&&chkF Γ it v.1 v.2.1&&chkL Γ b v.2.2.1&&v.2.2.2.isEmpty
 |.wh _ c b,s=>(vWh s).any fun v=>chkT Γ c v.1&&chkL Γ b v.2.1&&v.2.2.isEmpty
 |.brk,_=>false
 |.cnt,_=>false
 |.pop j i,s=>(vAs s).any fun u=>(vOne u.1).any fun x=>hd1 (locB Γ j) x&&popB (hd1 (visB Γ i)) u.2
 |.pap i a r,s=>(vEx s).any fun c=>(vMt c).any fun v=>(hd1 (visB Γ i) v.1&&(v.2.1==("append":Str))&&v.2.2.2)&&(vOne v.2.2.1).any fun t=>(vTup t).any fun es=>papB (fun e=>!isStar e&&chkE Γ a e) (popB (hd1 (visB Γ i))) (fun l=>decide (l.length<=900)&&chkA Γ r l) es
 |.stl s,st=>chk1 Γ s st
 |.frz _ s,st=>chk1 Γ s st
 |.rse c,s=>(vRa s).any fun v=>(v.1==c)&&glB Γ c&&Γ.rs.contains c&&Γ.cm&&(vOne v.2).any zcs
 |.tr k f args c i b,s=>(vTr s).any fun v=>(Γ.cm&&(Γ.xc.isNone&& !Γ.blk)&&(Γ.N[i]?==some v.2.2.2.1)&&(Γ.sc.names.lookup v.2.2.2.1==some .local)&&decide (Γ.N.set i "").Nodup)&&
  ((Γ.sc.names.lookup ("":Str)).isNone&&glB Γ v.2.2.1&&Γ.hnd.contains (c,v.2.2.1)&&(v.1==f)&&glB Γ f)&&((Γ.fns[k]?==some (f,v.2.1.length))&&chkA Γ args v.2.1&& !v.2.1.isEmpty&& !v.2.2.2.2.isEmpty&&chkL {Γ with N:=Γ.N.set i "",cm:=false,xc:=some (v.2.2.2.1,c),fns:=[]} b v.2.2.2.2)
 |.alt a b,s=>chk1 Γ a s&&chk1 Γ b s
 |.nil,_=>false
 |.seq _ _,_=>false
 |.dap _ _ _,_=>false
 |.dpp _ _ _,_=>false
def chkL (Γ:Gm):S->List Stmt->Bool
 |.nil,l=>l.isEmpty
 |.seq a b,l=>match l with|s::r=>chk1 Γ a s&&chkL Γ b r|_=>false
 |_,_=>false
end
def tD (K:W.Frag)(f:Rho->Res GD):TE:=fun σ H Q=>∃ρ F x,StOk K F H σ ρ/\f ρ=.ok x/\∀v H',Same H H'->Rep K H' (BG F H x.1) v x.2->Q v H'
def tDT (K:W.Frag)(f:Rho->Res Bool):TT:=fun σ H Q=>∃ρ F b,StOk K F H σ ρ/\f ρ=.ok b/\∀H',Same H H'->Q b H'
def tDO (K:W.Frag)(f:Rho->Res (Option Int)):TO:=fun σ H Q=>∃ρ F b,StOk K F H σ ρ/\f ρ=.ok b/\∀H',Same H H'->Q b H'
def RGs (K:W.Frag)(F:Fm)(H H':Hp):List V->List GD->Prop
 |vs,[]=>vs=[]
 |vs,x::xs=>∃v r,vs=v::r/\Rep K H' (BG F H x.1) v x.2/\RGs K F H H' r xs
def tDA (K:W.Frag)(f:Rho->Res (List GD)):TA:=fun σ H Q=>∃ρ F xs,StOk K F H σ ρ/\f ρ=.ok xs/\∀vs H',Same H H'->RGs K F H H' vs xs->Q vs H'
theorem _root_.L2.PE.imp {X:Cx}{e:Expr}{t t':TE}(h:PE X e t)(i:∀σ H Q,t' σ H Q->t σ H Q):PE X e t':=fun pins s σ H Q I q=>h pins s σ H Q I (i σ H Q q)
theorem _root_.L2.PT.imp {X:Cx}{e:Expr}{t t':TT}(h:PT X e t)(i:∀σ H Q,t' σ H Q->t σ H Q):PT X e t':=fun pins s σ H Q I q=>h pins s σ H Q I (i σ H Q q)
theorem _root_.L2.PW.imp {X:Cx}{e:Expr}{t t':TT}(h:PW X e t)(i:∀σ H Q,t' σ H Q->t σ H Q):PW X e t':=fun wh pins s σ H Q I q=>h wh pins s σ H Q I (i σ H Q q)
theorem _root_.L2.PA.imp {X:Cx}{e:List Expr}{t t':TA}(h:PA X e t)(i:∀σ H Q,t' σ H Q->t σ H Q):PA X e t':=fun pos pins s σ H Q I q=>h pos pins s σ H Q I (i σ H Q q)
theorem _root_.L2.PO.imp {X:Cx}{e:Option Expr}{t t':TO}(h:PO X e t)(i:∀σ H Q,t' σ H Q->t σ H Q):PO X e t':=fun pins s σ H Q I q=>h pins s σ H Q I (i σ H Q q)
theorem _root_.L2.PS.imp {X:Cx}{e:Stmt}{t t':TS}(h:PS X e t)(i:∀D σ H,t' D σ H->t D σ H):PS X e t':=fun pins s σ H D I q=>h pins s σ H D I (i D σ H q)
theorem _root_.L2.PSs.imp {X:Cx}{e:List Stmt}{t t':TS}(h:PSs X e t)(i:∀D σ H,t' D σ H->t D σ H):PSs X e t':=fun pins s σ H D I q=>h pins s σ H D I (i D σ H q)
section
variable {K:W.Frag}{F:Fm}{H H1 H':Hp}
theorem RGs.same:∀{vs:List V} {xs:List GD},Same H1 H'->Same H H1->RGs K F H H1 vs xs->RGs K F H H' vs xs
 |vs,[],_,_,r=>r
 |vs,x::xs,s,s0,r=>by obtain⟨v,t,e,h,q⟩:=r;exact⟨v,t,e,h.same s fun _ b=>b,q.same s s0⟩
theorem RGs.back:∀{vs:List V} {xs:List GD},Same H H1->RGs K F H1 H' vs xs->RGs K F H H' vs xs
 |vs,[],_,r=>r
 |vs,x::xs,s,r=>by obtain⟨v,t,e,h,q⟩:=r;exact⟨v,t,e,h.weak fun _ b=>b.back s,q.back s⟩
theorem RGs.reps {B:Ad->Prop}:∀{vs:List V} {xs:List GD},(∀x∈xs,∀a,BG F H x.1 a->B a)->RGs K F H H' vs xs->Reps K H' B vs (xs.map (·.2))
 |vs,[],_,r=>r
 |vs,x::xs,hB,r=>by obtain⟨v,t,e,h,q⟩:=r;exact⟨v,t,e,h.weak (hB x av),q.reps fun y hy=>hB y (ao _ hy)⟩
theorem RGs.repsV {vs:List V}{xs:List GD}(hv:∀a,H a=none->F.V a)(r:RGs K F H H' vs xs):Reps K H' (visA F) vs (xs.map (·.2)):=r.reps fun _ _ _ h=>h.vis hv
theorem z35 {xs:List GD}{x:GD}{a:Ad}(hv:∀a,H a=none->F.V a)(hx:x∈xs)(h:BG F H x.1 a):BG F H (gAll xs) a:=by
 unfold gAll;by_cases e:(xs.all fun x=>x.1==.fr)=true
 ·rw[if_pos e];have:=(br.mp e) x hx;have e1:x.1=.fr:=by simpa using this
  rw[e1]at h;exact h
 ·rw[if_neg e];split
  ·rename_i e2;have:=(br.mp e2) x hx;rcases dh.mp this with e1|e1
   ·rw[eq_of_beq e1]at h;exact .inl h
   ·rw[eq_of_beq e1]at h;exact h
  ·exact h.vis hv
theorem z3d {xs:List GD}{a:Ad}(hv:∀a,H a=none->F.V a)(s:Same H H1)(h:nw H1 a):BG F H (gAll xs) a:=by
 unfold gAll;by_cases e:(xs.all fun x=>x.1==.fr)=true
 ·rw[if_pos e];exact nw.back s h
 ·rw[if_neg e];split
  ·exact .inl (nw.back s h)
  ·exact(nw.back s h).vis hv
theorem z24 {B:Ad->Prop}{v:V}{d:D}{g:G}(r:Rep K H' B v d)(h:∀a,B a->BG F H g a):Rep K H' (BG F H (gJ d g)) v d:=by
 unfold gJ;by_cases e:imm d=true
 ·rw[if_pos e];exact Rep.immB d e r
 ·rw[if_neg e];exact r.weak h
end
def rOp (K:W.Frag)(m:D->D->Res D):R2:=fun x y H Q=>∃Bx By dx dy d,Rep K H Bx x dx/\Rep K H By y dy/\m dx dy=.ok d/\∀w H',Same H H'->Rep K H' (fun a=>nw H a\/Bx a\/By a) w d->Q w H'
def OpD (X:Cx)(f:Value->Value->Sem Value)(m:D->D->Res D):Prop:=OpR X f (rOp X.K m)
def rOpN (K:W.Frag)(m:D->D->Res D):R2:=fun x y H Q=>∃Bx By dx dy d,Rep K H Bx x dx/\Rep K H By y dy/\m dx dy=.ok d/\∀w H',Same H H'->Rep K H' (fun a=>nw H a\/Bx a\/By a) w d->(∀ds,d=.list ds->imms ds=true->Rep K H' (nw H) w d)->Q w H'
def OpN (X:Cx)(f:Value->Value->Sem Value)(m:D->D->Res D):Prop:=OpR X f (rOpN X.K m)
theorem _root_.L2.OpR.imp {X:Cx}{f:Value->Value->Sem Value}{r r':R2}(h:OpR X f r)(i:∀x y H Q,r' x y H Q->r x y H Q):OpR X f r':=fun pins s σ H x y v u Q I rx ry q=>h pins s σ H x y v u Q I rx ry (i x y H Q q)
def z5d (K:W.Frag)(m:List D->Res D):List V->Hp->VK->Prop:=fun xs H Q=>∃B ds d,Reps K H B xs ds/\m ds=.ok d/\∀w H',Same H H'->Rep K H' (fun a=>nw H a\/B a) w d->Q w H'
theorem _root_.L2.CallR.imp {X:Cx}{f:Value}{r r':List V->Hp->VK->Prop}(h:CallR X f r)(i:∀x H Q,r' x H Q->r x H Q):CallR X f r':=fun pins s σ H x v Q I rx q=>h pins s σ H x v Q I rx (i x H Q q)
theorem z42 {x y:Str}(hx:PyData.strOk x=true)(hy:PyData.strOk y=true):PyData.strOk (x++y)=true:=by
 unfold PyData.strOk at *
 show(x.cps++y.cps).all _=true;rw[Array.all_append,hx,hy];rfl
theorem z0r {x:Str}:PyData.strOk x=true↔∀c∈x.cps.toList,c<0x110000:=by unfold PyData.strOk;rw[<-Array.all_toList];rw[br];exact⟨fun h c hc=>by simpa using h c hc,fun h c hc=>by simpa using h c hc⟩
theorem z43 {c:Nat}{x:Str}(hx:PyData.strOk x=true)(hc:c∈x.cps.toList):PyData.strOk ⟨#[c]⟩=true:=
 z0r.mpr fun d hd=>by
  have e:d=c:=by simpa using hd
  rw[e];exact z0r.mp hx c hc
theorem z0c {n:Nat}(h:n<=LIM):n<=ah:=cb h (by rw[dq];unfold LIM;decide)
theorem _root_.L2.SqT.rel {K:W.Frag}{H H':Hp}{a:Addr}{xs:List V}(s:Same H H')(h:SqT K H a xs):SqT K H' a xs:=h.keep (B:=fun _=>True) fun a o e _=>s a o e
section
variable {X:Cx}
def zmi (K:W.Frag):R2:=fun x y H Q=>∃l b xs zs,x=.ref l/\y=.ref b/\SqL K H l xs/\SqL K H b zs/\xs.length+zs.length<=ah/\∀p,H p=none->Q (.ref p) (upd H p (.lst (xs++zs)))
theorem zd4:OpR X (d8 .Add) (zmi X.K):=by
 intro pins s σ H x y v u Q I rx ry h;obtain⟨l,b,xs,zs,rfl,rfl,hH,hB,hz,q⟩:=h;cases rx;cases ry;obtain⟨its,r1,p1,_⟩:=I.list hH;obtain⟨its2,r2,p2,_⟩:=I.list hB;obtain⟨⟨cls,dd,data,sl⟩,n,ho,hc,_,hd⟩:=p1;obtain⟨⟨cls2,dd2,data2,sl2⟩,n2,ho2,hc2,_,hd2⟩:=p2;simp only at hc hd hc2 hd2;subst hc hd hc2 hd2;have hsz:its.toArray.size+its2.toArray.size<=ah:=by rw[ae,ae,<-r1.length,<-r2.length];exact hz
 refine ky ⟨_,ho,rfl⟩ ⟨_,ho2,rfl⟩ noFill_list_add seq_list_add PySem.F.slot_list_add PySem.F.entry_list_add (PySem.F.args_list_add_2 _ _) (list_addW l b its.toArray its2.toArray n n2 dd dd2 sl sl2 hsz) ⟨ho,ho2,?_⟩;have ea:its.toArray++its2.toArray=(its++its2).toArray:=by simp
 rw[ea];exact⟨.ref _,_,I.lnew (t':=s.toks) (r1.append r2) (by rw[ba];exact hz),rfl,q _ I.fresh⟩
def zi2 (K:W.Frag):R2:=fun x y H Q=>∃a b ys,x=.ref a/\y=.ref b/\SqT K H a []/\SqT K H b ys/\Q (.ref b) H
theorem zb1:OpR X (d8 .Add) (zi2 X.K):=by intro pins s σ H x y v u Q I rx ry h;obtain⟨l,b,zs,rfl,rfl,hH,hB,q⟩:=h;cases rx;cases ry;obtain⟨its,r1,p1,_⟩:=I.tuple hH;obtain⟨its2,r2,p2,_⟩:=I.tuple hB;cases r1;obtain⟨⟨cls,dd,data,sl⟩,ho,hc,n,hd⟩:=p1;obtain⟨⟨cls2,dd2,data2,sl2⟩,ho2,hc2,n2,hd2⟩:=p2;simp only at hc hd hc2 hd2;subst hc hd hc2 hd2;refine ky ⟨_,ho,rfl⟩ ⟨_,ho2,rfl⟩ ki mr PySem.F.slot_tuple_add PySem.F.entry_tuple_add (PySem.F.args_tuple_add_2 _ _) (tuple_addW0 l b _ its2.toArray n n2 dd dd2 sl sl2 (by simp)) ⟨ho,ho2,?_⟩;exact⟨.ref b,H,I,rfl,q⟩
variable {K:W.Frag}{H:Hp}{B:Ad->Prop}{v:V}
theorem z14 {ds:List D}(r:Rep K H B v (.list ds)):∃a vs,v=.ref a/\SqL K H a vs/\Reps K H B vs ds:=by
 obtain⟨a,vs,e,h,q⟩:=r;refine⟨a,vs,e,?_,q⟩;rcases h with⟨h,_⟩|⟨h|h,_⟩
 ·exact .inl (.inl h)
 ·exact .inl (.inr h)
 ·exact .inr h
theorem z0x {p:Addr}{vs:List V}{ds:List D}{B':Ad->Prop}(hp:H p=none)(r:Reps K H B vs ds)(hB:∀a,B a->B' a)(hb:B' (some p)):Rep K (upd H p (.lst vs)) B' (.ref p) (.list ds):=⟨p,vs,rfl,.inl ⟨z02,hb⟩,r.same (Same.upd hp) hB⟩
theorem z3e {p:Addr}{vs:List V}{ds:List D}{B':Ad->Prop}(hp:H p=none)(r:Reps K H B vs ds)(hB:∀a,B a->B' a):Rep K (upd H p (.tup vs)) B' (.ref p) (.tuple ds):=⟨p,vs,rfl,.inl (.inl z02),r.same (Same.upd hp) hB⟩
theorem z0l {α:Type}{a:α}(h:(Res.no:Res α)=.ok a):False:=by cases h
theorem zlk:OpN X (d8 .Add) (binD .Add):=by
 refine OpR.imp ((zkf.or zd4).or zb1) fun x y H Q h=>?_;obtain⟨Bx,By,dx,dy,d,rx,ry,e,q⟩:=h;cases dx<;>try (exact(z0l e).elim)
 all_goals cases dy<;>try (exact(z0l e).elim)
 case int.int i j=>cases e;have e1:x=.int i:=rx;have e2:y=.int j:=ry;subst e1 e2;exact .inl (.inl (zin (q _ H (Same.refl H) rfl fun ds z=>by cases z)))
 case str.str i j=>
  have e1:x=.str i:=rx.1;have e2:y=.str j:=ry.1;subst e1 e2;have e:(if i.length+j.length<=LIM then Res.ok (PyData.str (i++j))else Res.no)=Res.ok d:=e;split at e
  ·rename_i hl;cases e;exact .inl (.inl (ziz (z0c hl) (q _ H (Same.refl H) ⟨rfl,z42 rx.2 ry.2⟩ fun ds z=>by cases z)))
  ·cases e
 case list.list xs ys=>
  have e:(if xs.length+ys.length<=LIM then Res.ok (PyData.list (xs++ys))else Res.no)=Res.ok d:=e;split at e
  ·rename_i hl;cases e;obtain⟨a,vs,rfl,h1,q1⟩:=z14 rx;obtain⟨b,ws,rfl,h2,q2⟩:=z14 ry;refine .inl (.inr ⟨a,b,vs,ws,rfl,rfl,h1,h2,z0c (by rw[q1.length,q2.length];exact hl),fun p hp=>q _ _ (Same.upd hp) ?_ ?_⟩)
   ·exact z0x hp (Reps.append (q1.weak (B':=fun a=>nw H a\/Bx a\/By a) fun _ z=>.inr (.inl z)) (q2.weak fun _ z=>.inr (.inr z))) (fun _ z=>z) (.inl hp)
   ·intro ds z hi;cases z;exact z0x hp (Reps.immB (B':=nw H) _ hi (Reps.append (q1.weak (B':=fun a=>nw H a\/Bx a\/By a) fun _ z=>.inr (.inl z)) (q2.weak fun _ z=>.inr (.inr z)))) (fun _ z=>z) hp
  ·cases e
 case tuple.tuple xs ys=>
  have e:(if xs.length+ys.length<=LIM then Res.ok (PyData.tuple (xs++ys))else Res.no)=Res.ok d:=e;split at e
  ·rename_i hl;cases e;obtain⟨a,vs,rfl,h1,q1⟩:=rx;obtain⟨b,ws,rfl,h2,q2⟩:=ry;cases vs with
   |nil=>
    have:xs=[]:=by have:=q1.length;exact gh.mp this.symm
    subst this;exact .inr ⟨a,b,ws,rfl,rfl,h1,h2,q _ H (Same.refl H) ⟨b,ws,rfl,h2,q2.weak fun _ z=>.inr (.inr z)⟩ fun ds z=>by cases z⟩
   |cons v0 vr=>
    refine .inl (.inl (.inr (.inr (.inr ⟨a,b,v0::vr,ws,rfl,rfl,h1,h2,by simp,z0c (by rw[q1.length,q2.length];exact hl),fun z=>?_,fun z p hp=>q _ _ (Same.upd hp) ?_ fun ds z=>by cases z⟩))))
    ·subst z;have:ys=[]:=by have:=q2.length;exact gh.mp this.symm
     subst this;rw[fq]at q;exact q _ H (Same.refl H) ⟨a,_,rfl,h1,q1.weak fun _ z=>.inr (.inl z)⟩ fun ds z=>by cases z
    ·exact z3e hp (Reps.append (q1.weak (B':=fun a=>nw H a\/Bx a\/By a) fun _ z=>.inr (.inl z)) (q2.weak fun _ z=>.inr (.inr z))) (fun _ z=>z)
  ·cases e
theorem zav {f:Value->Value->Sem Value}{m:D->D->Res D}{Cc:Int->Int->Prop}{g:Int->Int->V}{gd:Int->Int->D}(h:OpR X f (rI Cc g))(hg:∀i j H B,Rep X.K H B (g i j) (gd i j))(hm:∀dx dy d,m dx dy=.ok d->∃i j,dx=.int i/\dy=.int j/\Cc i j/\d=gd i j):OpN X f m:=by refine OpR.imp h fun x y H Q h=>?_;obtain⟨Bx,By,dx,dy,d,rx,ry,e,q⟩:=h;obtain⟨i,j,rfl,rfl,c,rfl⟩:=hm dx dy d e;exact⟨i,j,rx,ry,c,q _ H (Same.refl H) (hg i j _ _) fun _ _ _=>hg i j _ _⟩
theorem zlx {f:Value->Value->Sem Value}{g:Int->Int->V}(h:OpR X f (rI0 g)):OpR X f (rI (fun _ _=>True) g):=OpR.imp h fun x y H Q ⟨i,j,e1,e2,_,q⟩=>⟨i,j,e1,e2,q⟩
theorem za7:OpR X (d8 .FloorDiv) (rI (fun _ j=>0<j/\j<2 ^ 200) fun i j=>.int (i/j)):=opI fun i j _ _ _ _ _ hc q=>by
 refine floordiv_int (by omega) (by rw[Int.fdiv_eq_ediv_of_nonneg i (by omega)];exact q) (.inl (PyProof.noPylong_of_log2 ?_));have h1:j.natAbs≠0:=by omega
 have h2:j.natAbs<2 ^ 200:=by omega
 have h3:=(Nat.log2_lt h1).mpr h2;omega
def zel:R2:=fun x y H Q=>∃a n,x=.str a/\y=.int n/\(0<=n/\n<=LIM/\a.length*n.toNat<=LIM)/\Q (.str ⟨(z0u n.toNat a.cps.toList).toArray⟩) H
theorem z9c {α:Type}(n:Nat):z0u n ([]:List α)=[]:=by
 unfold z0u
 induction n with
 |zero=>rfl
 |succ n ih=>rw[da,du,ih];rfl
theorem z47 (a:Array Nat):∀(k:Nat) (acc:List Nat),(ai k a).foldl (·++·) acc.toArray=(acc++z0u k a.toList).toArray
 |0,acc=>by simp[z0u]
 |k+1,acc=>by
  rw[da,lf];have e:acc.toArray++a=(acc++a.toList).toArray:=by simp
  rw[e,z47 a k];show(acc++a.toList++z0u k a.toList).toArray=_;rw[nv];rfl
theorem zbq {a:Str}{n:Int}(h:0<=n):Txt.mul a n=⟨(z0u n.toNat a.cps.toList).toArray⟩:=by
 unfold Txt.mul;by_cases h1:n<1
 ·obtain rfl:n=0:=by omega
  rw[if_pos h1];rfl
 ·rw[if_neg h1];split
  ·rename_i h2;rcases dh.mp h2 with h2|h2
   ·obtain rfl:n=1:=pi h2;show a=⟨(a.cps.toList++[]).toArray⟩;rw[fq]
   ·have h3:a.cps.size=0:=pi h2;have h4:a.cps.toList=[]:=gh.mp (by rw[dw];exact h3);rw[h4,z9c];have h5:a.cps=#[]:=by rw[<-jo (xs:=a.cps),h4]
    cases a;cases h5;rfl
  ·have :=z47 a.cps n.toNat [];rw[lh]at this;exact congrArg Str.mk this
theorem zbr {a:Str}(h:PyData.strOk a=true)(n:Nat):PyData.strOk ⟨(z0u n a.cps.toList).toArray⟩=true:=by unfold PyData.strOk at h ⊢;rw[<-Array.all_toList,br]at h ⊢;intro c hc;have hc:c∈(ai n a.cps.toList).flatten:=hc;obtain⟨l,hl,hcl⟩:=kj.mp hc;rw[(List.mem_replicate.mp hl).2]at hcl;exact h c hcl
theorem z8j:OpR X (d8 .Mult) zel:=by intro pins s σ H x y v u Q I rx ry h;obtain⟨a,n,rfl,rfl,⟨h0,hn,h1⟩,q⟩:=h;obtain⟨t,rfl⟩:=rx;obtain⟨t',rfl⟩:=ry;unfold LIM at hn h1;refine SB.mul (PyProof.Rows.mulOk_of a.length n.toNat (ak _) (by omega) (by omega) (by omega) (by omega)) fun t2 k=>?_;rw[zbq h0];exact⟨.str _,H,I.tok _,⟨_,rfl⟩,q⟩
theorem zgq (op:iu)(h:zaz op=true):OpN X (d8 op) (binD op):=by
 cases op<;>try (cases h;done)
 case Add=>exact zlk
 case Sub=>
  refine zav (zlx zgo) (gd:=fun i j=>.int (i-j)) (fun _ _ _ _=>rfl) fun dx dy d e=>?_;cases dx<;>try (exact(z0l e).elim)
  cases dy<;>try (exact(z0l e).elim)
  cases e;exact⟨_,_,rfl,rfl,trivial,rfl⟩
 case Mult=>
  refine OpR.imp (zfr.or z8j) fun x y H Q h=>?_;obtain⟨Bx,By,dx,dy,d,rx,ry,e,q⟩:=h;cases dx<;>try (exact(z0l e).elim)
  all_goals cases dy<;>try (exact(z0l e).elim)
  case int.int i j=>
   have e:(if(-(2 ^ 64)<i/\i<2 ^ 64)\/(-(2 ^ 64)<j/\j<2 ^ 64)then Res.ok (PyData.int (i*j))else Res.no)=Res.ok d:=e;split at e
   ·rename_i hc;cases e;exact .inl ⟨i,j,rx,ry,hc,q _ H (Same.refl H) rfl fun ds z=>by cases z⟩
   ·cases e
  case str.int a n=>
   have e:(if 0<=n/\n<=LIM/\a.length*n.toNat<=LIM then Res.ok (PyData.str ⟨(z0u n.toNat a.cps.toList).toArray⟩)else Res.no)=Res.ok d:=e;split at e
   ·rename_i hc;cases e;obtain⟨rx1,rx2⟩:=rx;exact .inr ⟨a,n,rx1,ry,hc,q _ H (Same.refl H) ⟨rfl,zbr rx2 _⟩ fun ds z=>by cases z⟩
   ·cases e
 case FloorDiv=>
  refine zav za7 (gd:=fun i j=>.int (i/j)) (fun _ _ _ _=>rfl) fun dx dy d e=>?_;cases dx<;>try (exact(z0l e).elim)
  cases dy<;>try (exact(z0l e).elim)
  rename_i i j;have e:(if 0<j/\j<2 ^ 200 then Res.ok (PyData.int (i/j))else Res.no)=Res.ok d:=e;split at e
  ·rename_i hc;cases e;exact⟨_,_,rfl,rfl,hc,rfl⟩
  ·cases e
 case Mod=>
  refine zav zhn (gd:=fun i j=>.int (i%j)) (fun _ _ _ _=>rfl) fun dx dy d e=>?_;cases dx<;>try (exact(z0l e).elim)
  cases dy<;>try (exact(z0l e).elim)
  rename_i i j;have e:(if 0<j then Res.ok (PyData.int (i%j))else Res.no)=Res.ok d:=e;split at e
  ·rename_i hc;cases e;exact⟨_,_,rfl,rfl,hc,rfl⟩
  ·cases e
 case Pow=>
  refine zav zj3 (gd:=fun i j=>.int (i ^ j.toNat)) (fun _ _ _ _=>rfl) fun dx dy d e=>?_;cases dx<;>try (exact(z0l e).elim)
  cases dy<;>try (exact(z0l e).elim)
  rename_i i j;have e:(if 0<=j/\j<=1000/\i.natAbs<2 ^ 64 then Res.ok (PyData.int (i ^ j.toNat))else Res.no)=Res.ok d:=e;split at e
  ·rename_i hc;cases e;exact⟨_,_,rfl,rfl,⟨hc.1,by omega,hc.2.2⟩,rfl⟩
  ·cases e
end
section
variable {X:Cx}{pins:List (Addr×Obj)}{σ:L2.St}{H:Hp}{s:aa}{B:Ad->Prop}
mutual
theorem Rep.reads (I:Inv X pins σ H s):∀{v:V} {u:Value} (d:ac) (n:Nat),shal n d=true->Rep X.K H B v d->RelV v u->(∃as,Reads s.heap u d as)/\d.canLay0=true/\d.depth<=n
 |v,u,.none,n,_,r,q=>by have e:v=.non:=r;subst e;cases q;exact⟨⟨[],.none⟩,by simp only[PyData.canLay0],cj _⟩
 |v,u,.bool b,n,_,r,q=>by have e:v=.bl b:=r;subst e;cases q;exact⟨⟨[],.bool b⟩,by simp only[PyData.canLay0],cj _⟩
 |v,u,.int b,n,_,r,q=>by have e:v=.int b:=r;subst e;obtain⟨t,rfl⟩:=q;exact⟨⟨[],.int b t⟩,by simp only[PyData.canLay0],cj _⟩
 |v,u,.str b,n,_,r,q=>by obtain⟨e,ok⟩:v=.str b/\_:=r;subst e;obtain⟨t,rfl⟩:=q;exact⟨⟨[],.str b t⟩,by simp only[PyData.canLay0];exact ok,cj _⟩
 |v,u,.tuple ds,0,h,r,q=>by cases h
 |v,u,.list ds,0,h,r,q=>by cases h
 |v,u,.tuple ds,n+1,h,r,q=>by obtain⟨a,vs,e,h1,r1⟩:=r;subst e;cases q;obtain⟨its,rv,⟨o,ho,hc,k,hd⟩,_⟩:=I.tuple h1;obtain⟨⟨as,ra⟩,c,dp⟩:=Reps.reads I ds n (h) r1 rv;refine⟨⟨as,.tuple ho hc hd (by simpa using ra)⟩,by simp only[PyData.canLay0];exact c,?_⟩;simp only[PyData.depth];omega
 |v,u,.list ds,n+1,h,r,q=>by obtain⟨a,vs,e,h1,r1⟩:=z14 r;subst e;cases q;obtain⟨its,rv,⟨o,k,ho,hc,_,hd⟩,_⟩:=I.list h1;obtain⟨⟨as,ra⟩,c,dp⟩:=Reps.reads I ds n (h) r1 rv;refine⟨⟨a::as,.list ho hc hd (by simpa using ra)⟩,by simp only[PyData.canLay0];exact c,?_⟩;simp only[PyData.depth];omega
 |v,u,.dict es,n,h,r,q=>by cases n<;>cases h
theorem Reps.reads (I:Inv X pins σ H s):∀{vs:List V} {us:List Value} (ds:List ac) (n:Nat),z29 n ds=true->Reps X.K H B vs ds->Vals vs us->(∃as,ReadsAll s.heap us ds as)/\PyData.canLayAll0 ds=true/\PyData.depthAll ds<=n
 |vs,us,[],n,_,r,q=>by have e:vs=[]:=r;subst e;cases q;exact⟨⟨[],.nil⟩,by simp only[PyData.canLayAll0],cj _⟩
 |vs,us,d::ds,n,h,r,q=>by
  obtain⟨v,t,e,h1,r1⟩:=r;subst e;rw[z29,aj]at h;cases q with
  |cons q1 q2=>obtain⟨⟨as,ra⟩,c,dp⟩:=Rep.reads I d n h.1 h1 q1;obtain⟨⟨bs,rb⟩,c2,dp2⟩:=Reps.reads I ds n h.2 r1 q2;refine⟨⟨as++bs,.cons ra rb⟩,by simp only[PyData.canLayAll0,c,c2,Bool.and_self],?_⟩;simp only[PyData.depthAll];exact Nat.max_le.mpr ⟨dp,dp2⟩
end
end
section
variable {X:Cx}
def mB (m:D->D->Res Bool):D->D->Res D:=fun x y=>m x y>>=fun b=>.ok (.bool b)
theorem za1 {m:D->D->Res Bool}{x y d:D}(h:mB m x y=.ok d):∃b,m x y=.ok b/\d=.bool b:=by obtain⟨b,h1,h2⟩:=Res.bind_ok h;exact⟨b,h1,(Res.ok.inj h2).symm⟩
theorem c_eq (hu:X.A.units+64<cLine):OpD X (bt .Eq) (mB (cmpD .Eq)):=by
 intro pins s σ H x y v u Q I rx ry h;obtain⟨Bx,By,dx,dy,d,r1,r2,e,q⟩:=h;obtain⟨b,e',ed⟩:=za1 e;subst ed;clear e;have e:=e';clear e';have e:(if(shal 40 dx&&shal 40 dy)=true then Res.ok (eqD dx dy)else Res.no)=Res.ok b:=e;split at e
 ·rename_i hs;cases e;rw[aj]at hs;obtain⟨⟨as,ra⟩,c1,p1⟩:=Rep.reads I dx 40 hs.1 r1 rx;obtain⟨⟨bs,rb⟩,c2,p2⟩:=Rep.reads I dy 40 hs.2 r2 ry;exact SeqAt.compareEq_reads ra rb c1 c2 (by omega) ⟨.bl _,H,I,rfl,q _ H (Same.refl H) rfl⟩
 ·cases e
theorem c_ne (hu:X.A.units+64<cLine):OpD X (bt .NotEq) (mB (cmpD .NotEq)):=by
 intro pins s σ H x y v u Q I rx ry h;obtain⟨Bx,By,dx,dy,d,r1,r2,e,q⟩:=h;obtain⟨b,e',ed⟩:=za1 e;subst ed;clear e;have e:=e';clear e';have e:(if(shal 40 dx&&shal 40 dy)=true then Res.ok (!eqD dx dy)else Res.no)=Res.ok b:=e;split at e
 ·rename_i hs;cases e;rw[aj]at hs;obtain⟨⟨as,ra⟩,c1,p1⟩:=Rep.reads I dx 40 hs.1 r1 rx;obtain⟨⟨bs,rb⟩,c2,p2⟩:=Rep.reads I dy 40 hs.2 r2 ry;exact SeqAt.compareNe_reads ra rb c1 c2 (by omega) ⟨.bl _,H,I,rfl,q _ H (Same.refl H) rfl⟩
 ·cases e
theorem zbl {op:CmpOp}{r:R2}(h:OpR X (bt op) r)(hI:∀i j b H Q,cmpD op (.int i) (.int j)=.ok b->Q (.bl b) H->r (.int i) (.int j) H Q)(hS:∀i j b H Q,cmpD op (.str i) (.str j)=.ok b->Q (.bl b) H->r (.str i) (.str j) H Q)
  (hm:∀dx dy b,cmpD op dx dy=.ok b->(∃i j,dx=.int i/\dy=.int j)\/∃i j,dx=.str i/\dy=.str j):OpD X (bt op) (mB (cmpD op)):=by
 refine OpR.imp h fun x y H Q h=>?_;obtain⟨Bx,By,dx,dy,d,rx,ry,e,q⟩:=h;obtain⟨b,e',ed⟩:=za1 e;subst ed;clear e;have e:=e';clear e';rcases hm dx dy b e with⟨i,j,rfl,rfl⟩|⟨i,j,rfl,rfl⟩
 ·have e1:x=.int i:=rx;have e2:y=.int j:=ry;subst e1 e2;exact hI i j b H Q e (q _ H (Same.refl H) rfl)
 ·have e1:x=.str i:=rx.1;have e2:y=.str j:=ry.1;subst e1 e2;exact hS i j b H Q e (q _ H (Same.refl H) rfl)
theorem c_lt:OpD X (bt .Lt) (mB (cmpD .Lt)):=zbl opLt (fun i j b H Q e q=>by cases e;exact zl6 q) (fun i j b H Q e q=>by cases e;exact zl3 q) fun dx dy b e=>by cases dx<;>first|exact(z0l e).elim|(cases dy<;>first|exact .inl ⟨_,_,rfl,rfl⟩|exact .inr ⟨_,_,rfl,rfl⟩|exact(z0l e).elim)
theorem c_le:OpD X (bt .LtE) (mB (cmpD .LtE)):=zbl opLe (fun i j b H Q e q=>by cases e;exact zme q) (fun i j b H Q e q=>by cases e;exact zl1 q) fun dx dy b e=>by cases dx<;>first|exact(z0l e).elim|(cases dy<;>first|exact .inl ⟨_,_,rfl,rfl⟩|exact .inr ⟨_,_,rfl,rfl⟩|exact(z0l e).elim)
theorem c_gt:OpD X (bt .Gt) (mB (cmpD .Gt)):=zbl opGt (fun i j b H Q e q=>by cases e;exact zm6 q) (fun i j b H Q e q=>by cases e;exact zm1 q) fun dx dy b e=>by cases dx<;>first|exact(z0l e).elim|(cases dy<;>first|exact .inl ⟨_,_,rfl,rfl⟩|exact .inr ⟨_,_,rfl,rfl⟩|exact(z0l e).elim)
theorem c_ge:OpD X (bt .GtE) (mB (cmpD .GtE)):=zbl zm7 (fun i j b H Q e q=>by cases e;exact⟨i,j,rfl,rfl,q⟩) (fun i j b H Q e q=>by cases e) fun dx dy b e=>by cases dx<;>first|exact(z0l e).elim|(cases dy<;>first|exact .inl ⟨_,_,rfl,rfl⟩|exact .inr ⟨_,_,rfl,rfl⟩|exact(z0l e).elim)
theorem REs.val {K:W.Frag}{H:Hp}{B:Ad->Prop}(k:Key):∀{kvs:List (Key×V)} {es:Ents},REs K H B kvs es->match z05 es (kD k)with|some d=>∃v,valV kvs k=some v/\Rep K H B v d|none=>valV kvs k=none
 |kvs,[],r=>by have e:kvs=[]:=r;subst e;exact rfl
 |kvs,(kd,d)::es,r=>by
  obtain⟨k',v,t,e,e2,ok,h,q⟩:=r;subst e e2;have ih:=REs.val k q;by_cases z:k'=k
  ·subst z
   have e1:z05 ((kD k',d)::es) (kD k')=some d:=by
    have:eqK (kD k') (kD k')=true:=by cases k'<;>simp[kD,eqK]
    unfold z05;rw[k9 (by exact this)];rfl
   rw[e1];exact⟨v,z2g (p:=(k',v)) rfl,h⟩
  ·have e0:eqK (kD k') (kD k)=false:=by
    rw[ny];intro w;apply z;cases k'<;>cases k<;>simp[kD,eqK]at w<;>rw[w]
   have e1:z05 ((kD k',d)::es) (kD k)=z05 es (kD k):=by unfold z05;rw[List.find?_cons_of_neg (by rw[e0];exact bf)]
   rw[e1,z2d (p:=(k',v)) z];exact ih
theorem z3p {K:W.Frag}{H:Hp}{B:Ad->Prop}{v:V}{d:D}(h:isK d=true)(r:Rep K H B v d):∃k,d=kD k/\v=kV k/\keyOk k:=by
 cases d<;>try (cases h;done)
 case int i=>exact⟨.inl i,rfl,r,True.intro⟩
 case str x=>exact⟨.inr x,rfl,r.1,r.2⟩
theorem zc7 (hu:X.A.units+64<cLine){pins:List (Addr×Obj)}{s:aa}{σ:L2.St}{H:Hp}{x y:V}{v u:Value}{Q:VK}(ng:Bool)(I:Inv X pins σ H s)(rx:RelV x v)(ry:RelV y u)
  {Bx By:Ad->Prop} {dx dy:D} {b:Bool} (r1:Rep X.K H Bx x dx) (r2:Rep X.K H By y dy) (e:inD dx dy=.ok b) (q:Q (.bl (if ng then !b else b)) H):
  wpAny (model X.prog X.w) X.A (bt (if ng then .NotIn else .In) v u) (EP X pins σ Q) X.xe s:=by
 cases dy<;>try (cases e;done)
 case list xs=>
  change(if(shal 40 dx&&z29 40 xs)=true then Res.ok (xs.any fun y=>eqD y dx)else .no)=_ at e;split at e
  ·rename_i hs;cases e;rw[aj]at hs;obtain⟨⟨as,ra⟩,c1,p1⟩:=Rep.reads I dx 40 hs.1 r1 rx;obtain⟨⟨bs,rb⟩,c2,p2⟩:=Rep.reads I (.list xs) 41 hs.2 r2 ry;have c2':PyData.canLayAll0 xs=true:=by simpa only[PyData.canLay0]using c2
   cases ng
   ·exact SeqAt.in_list_reads rb ra c2' c1 (by omega) ⟨.bl _,H,I,rfl,q⟩
   ·exact SeqAt.notIn_list_reads rb ra c2' c1 (by omega) ⟨.bl _,H,I,rfl,q⟩
  ·cases e
 case tuple xs=>
  change(if(shal 40 dx&&z29 40 xs)=true then Res.ok (xs.any fun y=>eqD y dx)else .no)=_ at e;split at e
  ·rename_i hs;cases e;rw[aj]at hs;obtain⟨⟨as,ra⟩,c1,p1⟩:=Rep.reads I dx 40 hs.1 r1 rx;obtain⟨⟨bs,rb⟩,c2,p2⟩:=Rep.reads I (.tuple xs) 41 hs.2 r2 ry;have c2':PyData.canLayAll0 xs=true:=by simpa only[PyData.canLay0]using c2
   cases ng
   ·exact SeqAt.in_tuple_reads rb ra c2' c1 (by omega) ⟨.bl _,H,I,rfl,q⟩
   ·exact SeqAt.notIn_tuple_reads rb ra c2' c1 (by omega) ⟨.bl _,H,I,rfl,q⟩
  ·cases e
 case dict es=>
  change(if isK dx=true then Res.ok (z05 es dx).isSome else .no)=_ at e;split at e
  ·rename_i hk;cases e;obtain⟨k,rfl,rfl,_⟩:=z3p hk r1;obtain⟨a,kvs,rfl,h1,_,h2⟩:=r2;cases ry;have hv:=h2.val k;have g:DGet H a (kV k) (valV kvs k):=DGet.k h1
   have hb:(valV kvs k).isSome=(z05 es (kD k)).isSome:=by
    cases e:z05 es (kD k)with
    |none=>rw[e]at hv;rw[show valV kvs k=none from hv];rfl
    |some d=>rw[e]at hv;obtain⟨v,hv,_⟩:=hv;rw[hv];rfl
   cases ng
   ·exact d_in (by omega) I g rx fun s' I'=>⟨.bl _,H,I',rfl,by rw[hb];exact q⟩
   ·exact zds (by omega) I g rx fun s' I'=>⟨.bl _,H,I',rfl,by rw[hb];exact q⟩
  ·cases e
 case str z=>
  cases dx<;>try (cases e;done)
  rename_i w;have e1:x=.str w:=r1.1;have e2:y=.str z:=r2.1;subst e1 e2;change(match w.cps.toList with| [c]=>Res.ok (decide (c∈z.cps.toList))|_=>.no)=_ at e;split at e
  ·rename_i c hw;cases e
   have ew:w=⟨#[c]⟩:=by
    obtain⟨cps⟩:=w;have:cps=#[c]:=by rw[<-jo (xs:=cps)];rw[show cps.toList=[c]from hw]
    rw[this]
   subst ew;cases ng
   ·exact opIn pins s σ H _ _ v u Q I rx ry (zlm q)
   ·exact zcx pins s σ H _ _ v u Q I rx ry (zg7 q)
  ·cases e
theorem c_in (hu:X.A.units+64<cLine):OpD X (bt .In) (mB (cmpD .In)):=by intro pins s σ H x y v u Q I rx ry h;obtain⟨Bx,By,dx,dy,d,r1,r2,e,q⟩:=h;obtain⟨b,e',ed⟩:=za1 e;subst ed;clear e;have e:=e';clear e';exact zc7 hu false I rx ry r1 r2 e (q _ H (Same.refl H) rfl)
theorem zf9 (hu:X.A.units+64<cLine):OpD X (bt .NotIn) (mB (cmpD .NotIn)):=by intro pins s σ H x y v u Q I rx ry h;obtain⟨Bx,By,dx,dy,d,r1,r2,e,q⟩:=h;obtain⟨b,e',ed⟩:=za1 e;subst ed;clear e;have e:=e';clear e';have e:(inD dx dy>>=fun b=>Res.ok (!b))=Res.ok b:=e;obtain⟨b',e1,e2⟩:=Res.bind_ok e;cases e2;exact zc7 hu true I rx ry r1 r2 e1 (q _ H (Same.refl H) rfl)
theorem z9u (hu:X.A.units+64<cLine)(op:CmpOp)(h:z33 op=true):OpD X (bt op) (mB (cmpD op)):=by
 cases op<;>try (cases h;done)
 ·exact c_eq hu
 ·exact c_ne hu
 ·exact c_lt
 ·exact c_le
 ·exact c_gt
 ·exact c_ge
 ·exact c_in hu
 ·exact zf9 hu
end
section
variable {X:Cx}{a b c e:Expr}{es:List Expr}{fa fb fc:Rho->Res GD}{pos:Pos}
theorem z3k {e:Expr}{v:V}{d:D}(h:PE X e (tC v))(r:∀H B,Rep X.K H B v d):PE X e (tD X.K fun _=>.ok (.fr,d)):=PE.imp h fun σ H Q ⟨ρ,F,x,so,e,q⟩=>by cases e;exact q v H (Same.refl H) (r H _)
theorem zjv {i:Nat}{x:Str}(hN:X.N[i]?=some x)(hv:Vis X.env.scope x)(hd:(x==("__debug__":Str))=false)(hcd:(x==("__classdict__":Str))=false):PE X (.Name x pos) (tD X.K fun ρ=>rdS ρ[i]?):=PE.imp (z15 hN hv hd hcd) fun σ H Q zz=>by obtain⟨ρ,F,x,so,e,q⟩:=zz;obtain⟨v,h1,h2⟩:=so.rd e;exact⟨v,h1,q v H (Same.refl H) h2⟩
theorem zir {x:Str}{d:D}{g:Addr}(hg:Gl X x)(hm:X.mg x=some (.ref g))(hd:(x==("__debug__":Str))=false)(hi:imm d=true)(r:∀H (B:Ad->Prop),B none->Rep X.K H B (.ref g) d):PE X (.Name x pos) (tD X.K fun _=>.ok (.fr,d)):=PE.imp (zcu (v:=.ref g) hg hm rfl hd) fun σ H Q ⟨ρ,F,x,so,e,q⟩=>by cases e;exact q _ H (Same.refl H) (Rep.immB d hi (r H (fun _=>True) True.intro))
theorem zci {K:W.Frag}{F:Fm}{H H':Hp}{B:Ad->Prop}{v:V}{d:D}{g:G}(r:Rep K H' B v d)(h:∀a,B a->BG F H g a)(n:∀ds,d=.list ds->imms ds=true->Rep K H' (nw H) v d):Rep K H' (BG F H (gN d g)) v d:=by
 cases d with
 |list ds=>
  show Rep K H' (BG F H (if imms ds=true then .fr else g)) v _;split
  ·rename_i hi;exact n ds rfl hi
  ·exact r.weak h
 |_=>exact z24 r h
theorem zk9 {op:iu}(ho:zaz op=true)(ha:PE X a (tD X.K fa))(hb:PE X b (tD X.K fb)):PE X (.BinOp a op b pos) (tD X.K fun ρ=>fa ρ>>=fun x=>fb ρ>>=fun y=>binD op x.2 y.2>>=fun d=>.ok (gN d (gAll [x,y]),d)):=
 PE.imp (zdd (zgq op ho) ha hb) fun σ H Q zz=>by
  obtain⟨ρ,F,z,so,e,q⟩:=zz;obtain⟨x,e1,e⟩:=Res.bind_ok e;obtain⟨y,e2,e⟩:=Res.bind_ok e;obtain⟨d,e3,e⟩:=Res.bind_ok e;cases e;refine⟨ρ,F,x,so,e1,fun v H1 s1 rv=>⟨ρ,F,y,so.same s1,e2,fun u H2 s2 ru=>⟨_,_,x.2,y.2,d,rv.same s2 fun _ z=>z,ru,e3,fun w H3 s3 rw' nn=>q w H3 ((s1.trans s2).trans s3) (zci rw' (fun a h=>?_) fun ds z hi=>(nn ds z hi).weak fun _ z=>nw.back (s1.trans s2) z)⟩⟩⟩;rcases h with h|h|h
  ·exact z3d so.vis (s1.trans s2) h
  ·exact z35 so.vis (x:=x) (by simp) h
  ·exact z35 so.vis (x:=y) (by simp) (h.back s1)
theorem zkb (ha:PE X a (tD X.K fa)):PE X (.UnaryOp .USub a pos) (tD X.K fun ρ=>fa ρ>>=fun x=>match x.2 with|.int i=>.ok (.fr,.int (-i))|_=>.no):=
 PE.imp (zmx zjg ha) fun σ H Q zz=>by
  obtain⟨ρ,F,z,so,e,q⟩:=zz;obtain⟨x,e1,e⟩:=Res.bind_ok e;refine⟨ρ,F,x,so,e1,fun v H1 s1 rv=>?_⟩;obtain⟨g,d⟩:=x;cases d<;>try (cases e;done)
  rename_i i;cases e;exact⟨i,rv,q _ H1 s1 rfl⟩
theorem zby {op:CmpOp}{σ:L2.St}{H:Hp}{Q:VK}(h:tD X.K (fun ρ=>fa ρ>>=fun x=>fb ρ>>=fun y=>cmpD op x.2 y.2>>=fun b=>.ok (.fr,.bool b)) σ H Q):tOp (rOp X.K (mB (cmpD op))) (tD X.K fa) (tD X.K fb) σ H Q:=by obtain⟨ρ,F,z,so,e,q⟩:=h;obtain⟨x,e1,e⟩:=Res.bind_ok e;obtain⟨y,e2,e⟩:=Res.bind_ok e;obtain⟨d,e3,e⟩:=Res.bind_ok e;cases e;exact⟨ρ,F,x,so,e1,fun v H1 s1 rv=>⟨ρ,F,y,so.same s1,e2,fun u H2 s2 ru=>⟨_,_,x.2,y.2,.bool d,rv.same s2 fun _ z=>z,ru,by show(cmpD op x.2 y.2>>=fun b=>Res.ok (PyData.bool b))=_;rw[e3];rfl,fun w H3 s3 rw'=>q w H3 ((s1.trans s2).trans s3) rw'⟩⟩⟩
theorem zmv {op:CmpOp}(hu:X.A.units+64<cLine)(ho:z33 op=true)(hm:cx op b=false)(ha:PE X a (tD X.K fa))(hb:PE X b (tD X.K fb)):
  PE X (.Compare a [op] [b] pos) (tD X.K fun ρ=>fa ρ>>=fun x=>fb ρ>>=fun y=>cmpD op x.2 y.2>>=fun b=>.ok (.fr,.bool b)):=
 PE.imp (z80 (z9u hu op ho) ha hb hm) fun σ H Q h=>zby h
theorem z5i {f:Rho->Res GD}{t:TE}(ht:∀σ H Q,tD X.K f σ H Q->t σ H Q)(hb:∀ρ x,f ρ=.ok x->∃c,x.2=.bool c)(σ:L2.St)(H:Hp)(Q:Bool->Hp->Prop)(h:tDT X.K (fun ρ=>f ρ>>=fun x=>z0p x.2) σ H Q):z5a t σ H Q:=by obtain⟨ρ,F,c,so,e,q⟩:=h;obtain⟨x,e1,e⟩:=Res.bind_ok e;obtain⟨k,e2⟩:=hb ρ x e1;rw[e2]at e;cases e;refine ht σ H _ ⟨ρ,F,x,so,e1,fun v H' s r=>?_⟩;rw[e2]at r;exact⟨k,r,q H' s⟩
theorem zab {op:CmpOp}{ρ:Rho}{x:GD}(e:(fa ρ>>=fun x=>fb ρ>>=fun y=>cmpD op x.2 y.2>>=fun b=>Res.ok ((.fr,.bool b):GD))=.ok x):∃c,x.2=.bool c:=by obtain⟨x,e1,e⟩:=Res.bind_ok e;obtain⟨y,e2,e⟩:=Res.bind_ok e;obtain⟨d,e3,e⟩:=Res.bind_ok e;cases e;exact⟨d,rfl⟩
theorem zlw {op:CmpOp}(hu:X.A.units+64<cLine)(ho:z33 op=true)(hm:cx op b=false)(ha:PE X a (tD X.K fa))(hb:PE X b (tD X.K fb)):
  PT X (.Compare a [op] [b] pos) (tDT X.K fun ρ=>(fa ρ>>=fun x=>fb ρ>>=fun y=>cmpD op x.2 y.2>>=fun b=>Res.ok ((.fr,.bool b):GD))>>=fun x=>z0p x.2):=
 PT.imp (z5h (z9u hu op ho) ha hb hm) (z5i (fun σ H Q h=>zby h) fun ρ x e=>zab e)
theorem z8b {K:W.Frag}{H:Hp}{B:Ad->Prop}{v:V}{d:D}(r:Rep K H B v d):decide (v=.non)=(match d with|.none=>true|_=>false):=by
 cases d with
 |none=>have e:v=.non:=r;subst e;rfl
 |bool b=>have e:v=.bl b:=r;subst e;rfl
 |int b=>have e:v=.int b:=r;subst e;rfl
 |str b=>have e:v=.str b:=r.1;subst e;rfl
 |tuple ds=>obtain⟨a,vs,e,_⟩:=r;subst e;rfl
 |list ds=>obtain⟨a,vs,e,_⟩:=r;subst e;rfl
 |dict ds=>obtain⟨a,vs,e,_⟩:=r;subst e;rfl
def isNF (ng:Bool)(fa:Rho->Res GD):Rho->Res GD:=fun ρ=>fa ρ>>=fun x=>.ok (.fr,.bool (match x.2 with|.none=>!ng|_=>ng))
theorem z6c {ng:Bool}{σ:L2.St}{H:Hp}{Q:VK}(h:tD X.K (isNF ng fa) σ H Q):(if ng then zaj (tD X.K fa)else tIsN (tD X.K fa)) σ H Q:=by
 obtain⟨ρ,F,z,so,e,q⟩:=h;obtain⟨x,e1,e⟩:=Res.bind_ok e;cases e;cases ng with
 |false=>
  refine⟨ρ,F,x,so,e1,fun v H1 s1 rv=>?_⟩
  dsimp only
  rw[z8b rv];refine q _ H1 s1 ?_;obtain⟨g,d⟩:=x;cases d<;>rfl
 |true=>
  refine⟨ρ,F,x,so,e1,fun v H1 s1 rv=>?_⟩
  dsimp only
  rw[z8b rv];refine q _ H1 s1 ?_;obtain⟨g,d⟩:=x;cases d<;>rfl
theorem z6b {ng:Bool}{ρ:Rho}{x:GD}(e:isNF ng fa ρ=.ok x):∃c,x.2=.bool c:=by obtain⟨x,e1,e⟩:=Res.bind_ok e;cases e;exact⟨_,rfl⟩
theorem zkc {ng:Bool}{o:CmpOp}{j p2}(ho:o=if ng then .IsNot else .Is)(ha:PE X a (tD X.K fa)):PE X (.Compare a [o] [.Constant .none j p2] pos) (tD X.K (isNF ng fa)):=by
 subst ho;cases ng with
 |false=>exact PE.imp (z5y (z6e ha)) fun σ H Q h=>z6c (ng:=false) h
 |true=>exact PE.imp (z5y (z3u ha)) fun σ H Q h=>z6c (ng:=true) h
theorem zm0 {ng:Bool}{o:CmpOp}{j p2}(ho:o=if ng then .IsNot else .Is)(ha:PE X a (tD X.K fa)):PT X (.Compare a [o] [.Constant .none j p2] pos) (tDT X.K fun ρ=>isNF ng fa ρ>>=fun x=>z0p x.2):=by
 subst ho;cases ng with
 |false=>exact PT.imp (z6o (z6e ha)) (z5i (fun σ H Q h=>z6c (ng:=false) h) fun ρ x e=>z6b e)
 |true=>exact PT.imp (z6o (z3u ha)) (z5i (fun σ H Q h=>z6c (ng:=true) h) fun ρ x e=>z6b e)
def andF (fa fb:Rho->Res GD):Rho->Res GD:=fun ρ=>fa ρ>>=fun x=>match x.2 with|.bool c=>if c then fb ρ else .ok (.fr,.bool false)|_=>.no
def orF (fa fb:Rho->Res GD):Rho->Res GD:=fun ρ=>fa ρ>>=fun x=>match x.2 with|.bool c=>if c then .ok (.fr,.bool true)else fb ρ|_=>.no
theorem z3l {f:Rho->Res GD}{ρ:Rho}{F:Fm}{H H1:Hp}{x:GD}{σ:L2.St}{Q:VK}(s1:Same H H1)(so:StOk X.K F H σ ρ)(e:f ρ=.ok x)(q:∀v H',Same H H'->Rep X.K H' (BG F H x.1) v x.2->Q v H'):tD X.K f σ H1 Q:=⟨ρ,F,x,so.same s1,e,fun v H' s r=>q v H' (s1.trans s) (r.weak fun _ b=>b.back s1)⟩
theorem zis {rest:List Expr}(ha:PE X a (tD X.K fa))(hb:PE X (.BoolOp .And (b::rest) pos) (tD X.K fb)):PE X (.BoolOp .And (a::b::rest) pos) (tD X.K (andF fa fb)):=
 PE.imp (z7m ha hb) fun σ H Q zz=>by
  obtain⟨ρ,F,z,so,e,q⟩:=zz;obtain⟨x,e1,e⟩:=Res.bind_ok e;refine⟨ρ,F,x,so,e1,fun v H1 s1 rv=>?_⟩;obtain⟨g,d⟩:=x;cases d<;>try (cases e;done)
  rename_i c;refine⟨c,rv,?_⟩;cases c with
  |true=>exact iteT (z3l s1 so e q)
  |false=>cases e;exact iteF (q _ H1 s1 rfl)
theorem d_or {rest:List Expr}(ha:PE X a (tD X.K fa))(hb:PE X (.BoolOp .Or (b::rest) pos) (tD X.K fb)):PE X (.BoolOp .Or (a::b::rest) pos) (tD X.K (orF fa fb)):=
 PE.imp (zef ha hb) fun σ H Q zz=>by
  obtain⟨ρ,F,z,so,e,q⟩:=zz;obtain⟨x,e1,e⟩:=Res.bind_ok e;refine⟨ρ,F,x,so,e1,fun v H1 s1 rv=>?_⟩;obtain⟨g,d⟩:=x;cases d<;>try (cases e;done)
  rename_i c;refine⟨c,rv,?_⟩;cases c with
  |false=>exact iteF (z3l s1 so e q)
  |true=>cases e;exact iteT (q _ H1 s1 rfl)
theorem z95 {K:W.Frag}{H:Hp}{B:Ad->Prop}{v:V}{d:D}{k:Bool}(r:Rep K H B v d)(e:z0p d=.ok k):TruV K v H k:=by
 cases d with
 |none=>cases e;have e1:v=.non:=r;subst e1;exact rfl
 |bool b=>cases e;have e1:v=.bl b:=r;subst e1;exact rfl
 |int b=>cases e;have e1:v=.int b:=r;subst e1;show(!decide (b=0))=(b != 0);rw[bne,jk]
 |str b=>
  have e1:v=.str b:=r.1;subst e1;simp only[z0p]at e;split at e
  ·rename_i hl;cases e;refine⟨z0c hl,?_⟩;show(!decide (b.length=0))=((b.length:Int) != 0);rw[bne,jk]
   congr 1
   rw[decide_eq_decide];omega
  ·cases e
 |tuple ds=>cases e;obtain⟨a,vs,e1,h,q⟩:=r;subst e1;refine .inr (.inl ⟨vs,h,?_⟩);show(!ds.isEmpty)=!vs.isEmpty;have:=q.length;cases vs<;>cases ds<;>simp at this ⊢
 |list ds=>cases e;obtain⟨a,vs,e1,h,q⟩:=z14 r;subst e1;refine .inl ⟨vs,h,?_⟩;show(!ds.isEmpty)=!vs.isEmpty;have:=q.length;cases vs<;>cases ds<;>simp at this ⊢
 |dict es=>
  cases e;obtain⟨a,kvs,e1,h,_,q⟩:=r;subst e1;refine .inr (.inr ⟨kvs,h,?_⟩);show(!es.isEmpty)=!kvs.isEmpty;cases es with
  |nil=>have e2:kvs=[]:=q;subst e2;rfl
  |cons e0 er=>obtain⟨k,v,t,e2,_⟩:=q;subst e2;rfl
theorem zlu (ha:PE X a (tD X.K fa)):PE X (.UnaryOp .Not a pos) (tD X.K fun ρ=>fa ρ>>=fun x=>z0p x.2>>=fun c=>.ok (.fr,.bool (!c))):=by intro pins s σ H Q I h;obtain⟨ρ,F,z,so,e,q⟩:=h;obtain⟨x,e1,e⟩:=Res.bind_ok e;obtain⟨k,e2,e⟩:=Res.bind_ok e;cases e;refine UnaryOp_ (thn (ha pins s σ H (fun v H1=>Same H H1/\Rep X.K H1 (BG F H x.1) v x.2) I ⟨ρ,F,x,so,e1,fun v H1 s1 rv=>⟨s1,rv⟩⟩) fun v s1 zz=>?_);obtain⟨y,H1,I1,r1,s2,rv⟩:=zz;exact not_of (thn (zcg pins s1 σ H1 y v (fun b H2=>b=k/\H2=H1) I1 r1 ⟨k,z95 rv e2,rfl,rfl⟩) fun b s2' zz=>by obtain⟨H2,I2,eb,eH⟩:=zz;subst eb eH;exact⟨.bl _,H2,I2,rfl,q _ H2 s2 rfl⟩)
theorem zku (ha:PE X e (tD X.K fa))(he:∀whole,lr e X.env whole=(do let v <-whole;oj e.pos;ol [v] (oo v))):PT X e (tDT X.K fun ρ=>fa ρ>>=fun x=>z0p x.2):=PT.imp (z6q ha he) fun σ H Q zz=>by obtain⟨ρ,F,k,so,e,q⟩:=zz;obtain⟨x,e1,e⟩:=Res.bind_ok e;exact⟨ρ,F,x,so,e1,fun v H1 s1 rv=>⟨k,z95 rv e,q H1 s1⟩⟩
section
variable {ta tb:Rho->Res Bool}{rest:List Expr}
theorem z5o {f:Rho->Res Bool}{ρ:Rho}{F:Fm}{H H1:Hp}{x:Bool}{σ:L2.St}{Q:Bool->Hp->Prop}(s1:Same H H1)(so:StOk X.K F H σ ρ)(e:f ρ=.ok x)(q:∀H',Same H H'->Q x H'):tDT X.K f σ H1 Q:=⟨ρ,F,x,so.same s1,e,fun H' s=>q H' (s1.trans s)⟩
theorem w_and (ha:PT X a (tDT X.K ta))(hb:PW X (.BoolOp .And (b::rest) pos) (tDT X.K tb)):PW X (.BoolOp .And (a::b::rest) pos) (tDT X.K fun ρ=>ta ρ>>=fun c=>if c then tb ρ else .ok false):=
 PW.imp (z9h ha hb) fun σ H Q zz=>by
  obtain⟨ρ,F,k,so,e,q⟩:=zz;obtain⟨x,e1,e⟩:=Res.bind_ok e;refine⟨ρ,F,x,so,e1,fun H1 s1=>?_⟩;cases x with
  |true=>exact iteT (z5o s1 so e q)
  |false=>cases e;exact iteF (q H1 s1)
theorem w_or (ha:PT X a (tDT X.K ta))(hb:PW X (.BoolOp .Or (b::rest) pos) (tDT X.K tb)):PW X (.BoolOp .Or (a::b::rest) pos) (tDT X.K fun ρ=>ta ρ>>=fun c=>if c then .ok true else tb ρ):=
 PW.imp (zcy ha hb) fun σ H Q zz=>by
  obtain⟨ρ,F,k,so,e,q⟩:=zz;obtain⟨x,e1,e⟩:=Res.bind_ok e;refine⟨ρ,F,x,so,e1,fun H1 s1=>?_⟩;cases x with
  |false=>exact iteF (z5o s1 so e q)
  |true=>cases e;exact iteT (q H1 s1)
theorem zj7 (ha:PT X a (tDT X.K ta)):PT X (.UnaryOp .Not a pos) (tDT X.K fun ρ=>ta ρ>>=fun c=>.ok (!c)):=PT.imp (z9a ha) fun σ H Q zz=>by obtain⟨ρ,F,k,so,e,q⟩:=zz;obtain⟨x,e1,e⟩:=Res.bind_ok e;cases e;exact⟨ρ,F,x,so,e1,fun H1 s1=>q H1 s1⟩
theorem zjr (hc:PT X c (tDT X.K ta))(ha:PE X a (tD X.K fa))(hb:PE X b (tD X.K fb)):PE X (.IfExp c a b pos) (tD X.K fun ρ=>ta ρ>>=fun k=>if k then fa ρ else fb ρ):=
 PE.imp (z5x hc ha hb) fun σ H Q zz=>by
  obtain⟨ρ,F,z,so,e,q⟩:=zz;obtain⟨x,e1,e⟩:=Res.bind_ok e;refine⟨ρ,F,x,so,e1,fun H1 s1=>?_⟩;cases x with
  |true=>exact iteT (z3l s1 so e q)
  |false=>exact iteF (z3l s1 so e q)
end
theorem zkz:PA X [] (tDA X.K fun _=>.ok []):=PA.imp z1i fun σ H Q ⟨ρ,F,z,so,e,q⟩=>by cases e;exact q [] H (Same.refl H) rfl
theorem zjj {fs:Rho->Res (List GD)}(hs:isStar e=false)(ha:PE X e (tD X.K fa))(hr:PA X es (tDA X.K fs)):PA X (e::es) (tDA X.K fun ρ=>fa ρ>>=fun x=>fs ρ>>=fun xs=>.ok (x::xs)):=PA.imp (pa_c ha hr hs) fun σ H Q zz=>by obtain⟨ρ,F,z,so,e,q⟩:=zz;obtain⟨x,e1,e⟩:=Res.bind_ok e;obtain⟨xs,e2,e⟩:=Res.bind_ok e;cases e;refine⟨ρ,F,x,so,e1,fun v H1 s1 rv=>⟨ρ,F,xs,so.same s1,e2,fun vs H2 s2 rs=>q _ H2 (s1.trans s2) ?_⟩⟩;exact⟨v,vs,rfl,rv.same s2 fun _ z=>z,rs.back s1⟩
theorem zmk {x1}{fs:Rho->Res (List GD)}(h:PA X es (tDA X.K fs))(hl:∀ρ xs,fs ρ=.ok xs->xs.length<=ah):PE X (.Tuple es x1 pos) (tD X.K fun ρ=>fs ρ>>=fun ys=>.ok (gJ (.tuple (ys.map (·.2))) (gAll ys),.tuple (ys.map (·.2)))):=PE.imp (z8c h) fun σ H Q zz=>by obtain⟨ρ,F,z,so,e,q⟩:=zz;obtain⟨ys,e1,e⟩:=Res.bind_ok e;cases e;refine⟨ρ,F,ys,so,e1,fun vs H1 s1 rs=>?_⟩;have r:=rs.reps (B:=BG F H (gAll ys)) fun x hx a h=>z35 so.vis hx h;refine⟨by rw[r.length,aw];exact hl ρ ys e1,fun p hp=>q _ _ (s1.trans (Same.upd hp)) (z24 (z3e hp r fun _ z=>z) fun _ z=>z)⟩
theorem zkm {fs:Rho->Res (List GD)}(h:PA X es (tDA X.K fs))(hl:∀ρ xs,fs ρ=.ok xs->xs.length<=ah):PE X (.List es pos) (tD X.K fun ρ=>fs ρ>>=fun ys=>.ok (gAll ys,.list (ys.map (·.2)))):=PE.imp (z82 h) fun σ H Q zz=>by obtain⟨ρ,F,z,so,e,q⟩:=zz;obtain⟨ys,e1,e⟩:=Res.bind_ok e;cases e;refine⟨ρ,F,ys,so,e1,fun vs H1 s1 rs=>?_⟩;have r:=rs.reps (B:=BG F H (gAll ys)) fun x hx a h=>z35 so.vis hx h;refine⟨by rw[r.length,aw];exact hl ρ ys e1,fun p hp=>q _ _ (s1.trans (Same.upd hp)) (z0x hp r (fun _ z=>z) (z3d so.vis s1 hp))⟩
theorem zjf:PE X (.Dict [] [] pos) (tD X.K fun _=>.ok (.fr,.dict [])):=PE.imp z66 fun σ H Q zz=>by obtain⟨ρ,F,z,so,e,q⟩:=zz;cases e;intro p hp;exact q _ _ (Same.upd hp) ⟨p,[],rfl,z02,hp,rfl⟩
end
theorem zif {α:Type}(xs:List α)(i:Int):L2.atI xs i=Mi.atI xs i:=rfl
theorem z4o (n d:Nat)(o:Option Int):HT.sIx n d o=Mi.sIx n d o:=by cases o<;>rfl
theorem za6 (xs:List V)(lo hi:Option Int):L2.cutV xs lo hi=Mi.cut xs lo hi:=by unfold L2.cutV Mi.cut;rw[z4o,z4o]
theorem Reps.cut {K:W.Frag}{H:Hp}{B:Ad->Prop}{vs:List V}{ds:List D}(lo hi:Option Int)(r:Reps K H B vs ds):Reps K H B (Mi.cut vs lo hi) (Mi.cut ds lo hi):=by unfold Mi.cut;rw[r.length];exact(r.drop _).take _
theorem Reps.atI {K:W.Frag}{H:Hp}{B:Ad->Prop}{vs:List V}{ds:List D}{i:Int}{d:D}(r:Reps K H B vs ds)(e:Mi.atI ds i=some d):∃v,L2.atI vs i=some v/\Rep K H B v d:=by
 unfold Mi.atI at e;cases e1:Mi.ixN ds.length i with
 |none=>rw[e1]at e;cases e
 |some j=>rw[e1]at e;obtain⟨v,h1,h2⟩:=r.get (i:=j) (d:=d) e;refine⟨v,?_,h2⟩;rw[zif];unfold Mi.atI;rw[r.length,e1];exact h1
section
variable {X:Cx}{a b c e:Expr}{es:List Expr}{fa fb fc:Rho->Res GD}{pos:Pos}
theorem zei (hu:X.A.units+64<cLine):IxR X (fun x y H Q=>∃a v,x=.ref a/\DGet H a y (some v)/\Q v H):=by intro value slice pins s σ H x y v u Q I rx ry h hs;obtain⟨a,z,rfl,g,q⟩:=h;cases rx;exact tail_any (z2v I g) PySem.F.slot_dict_getitem.lookup (z4y (by omega) I g ry fun w' s' I' rw'=>⟨z,H,I',rw',q⟩) hs
def rIxD (K:W.Frag):R2:=fun x y H Q=>∃B B' dx dy d,Rep K H B x dx/\Rep K H B' y dy/\ixD dx dy=.ok d/\∀w,Rep K H B w d->Q w H
theorem zgu (hu:X.A.units+64<cLine):IxR X (rIxD X.K):=by
 intro value slice pins s σ H x y v u Q I rx ry h hs;refine(zm8.or (zei hu)) value slice pins s σ H x y v u Q I rx ry ?_ hs;obtain⟨B,B',dx,dy,d,r1,r2,e,q⟩:=h;cases dx<;>try (cases e;done)
 case list xs=>
  cases dy<;>try (cases e;done)
  rename_i i;have e2:y=.int i:=r2;subst e2;obtain⟨a,vs,rfl,h1,q1⟩:=z14 r1;change Res.ofO (Mi.atI xs i)=_ at e;cases e3:Mi.atI xs i with
  |none=>rw[e3]at e;cases e
  |some d'=>rw[e3]at e;cases e;obtain⟨w,h3,h4⟩:=q1.atI e3;exact .inl (.inl ⟨a,vs,i,w,rfl,rfl,h1,h3,q w h4⟩)
 case tuple xs=>
  cases dy<;>try (cases e;done)
  rename_i i;have e2:y=.int i:=r2;subst e2;obtain⟨a,vs,rfl,h1,q1⟩:=r1;change Res.ofO (Mi.atI xs i)=_ at e;cases e3:Mi.atI xs i with
  |none=>rw[e3]at e;cases e
  |some d'=>rw[e3]at e;cases e;obtain⟨w,h3,h4⟩:=q1.atI e3;exact .inl (.inr (.inl ⟨a,vs,i,w,rfl,rfl,h1,h3,q w h4⟩))
 case str z=>
  cases dy<;>try (cases e;done)
  rename_i i;have e2:y=.int i:=r2;have e1:x=.str z:=r1.1;subst e1 e2;change(if z.length<=LIM then Res.ofO ((Mi.atI z.cps.toList i).map fun c=>PyData.str ⟨#[c]⟩)else .no)=_ at e;split at e
  ·rename_i hl;cases e3:Mi.atI z.cps.toList i with
   |none=>rw[e3]at e;cases e
   |some c=>
    rw[e3]at e;cases e
    have hc:c∈z.cps.toList:=by
     unfold Mi.atI at e3;cases e4:Mi.ixN z.cps.toList.length i with
     |none=>rw[e4]at e3;cases e3
     |some j=>rw[e4]at e3;exact bu e3
    exact .inl (.inr (.inr ⟨z,i,c,rfl,rfl,z0c hl,e3,q _ ⟨rfl,z43 r1.2 hc⟩⟩))
  ·cases e
 case dict es=>
  change(if isK _=true then Res.ofO (z05 es _)else Res.no)=_ at e;split at e
  ·rename_i hk;obtain⟨k,rfl,rfl,_⟩:=z3p hk r2;obtain⟨a,kvs,rfl,h1,_,h2⟩:=r1;have hv:=h2.val k;cases e3:z05 es (kD k)with
   |none=>rw[e3]at e;cases e
   |some d'=>rw[e3]at e hv;cases e;obtain⟨w,h3,h4⟩:=hv;exact .inr ⟨a,w,rfl,by rw[<-h3];exact DGet.k h1,q w h4⟩
  ·cases e
theorem z6k {i:Expr}(h:z1o i=true):z7w i:=fun o v=>by cases i<;>first|rfl|cases h
theorem d_ix {i:Expr}(hu:X.A.units+64<cLine)(hs:z1o i=true)(ha:PE X a (tD X.K fa))(hb:PE X i (tD X.K fb)):
  PE X (.Subscript a i pos) (tD X.K fun ρ=>fa ρ>>=fun x=>fb ρ>>=fun y=>ixD x.2 y.2>>=fun d=>.ok (gJ d x.1,d)):=
 PE.imp (zfu (zgu hu) ha hb (z6k hs)) fun σ H Q zz=>by obtain⟨ρ,F,z,so,e,q⟩:=zz;obtain⟨x,e1,e⟩:=Res.bind_ok e;obtain⟨y,e2,e⟩:=Res.bind_ok e;obtain⟨d,e3,e⟩:=Res.bind_ok e;cases e;exact⟨ρ,F,x,so,e1,fun v H1 s1 rv=>⟨ρ,F,y,so.same s1,e2,fun u H2 s2 ru=>⟨_,_,x.2,y.2,d,rv.same s2 fun _ z=>z,ru,e3,fun w rw'=>q w H2 (s1.trans s2) (z24 rw' fun _ z=>z)⟩⟩⟩
theorem z9k {z:Str}(h:PyData.strOk z=true)(lo hi:Option Int):PyData.strOk (z1a z lo hi)=true:=
 z0r.mpr fun c hc=>z0r.mp h c (by
  have:c∈Mi.cut z.cps.toList lo hi:=by simpa[z1a]using hc
  unfold Mi.cut at this;exact List.mem_of_mem_drop (List.mem_of_mem_take this))
theorem zcl (lo hi:Option Int)(n:Nat):eu lo hi 1 n=sliceRange ((Mi.sIx n 0 lo:Nat):Int) ((Mi.sIx n n hi:Nat):Int) 1:=by
 delta eu
 have h1:(1:Int)>0:=Int.one_pos;simp only[h1,if_true]
 congr 1
 ·cases lo with
  |none=>rfl
  |some v=>
   simp only[Mi.sIx];by_cases h:v<0
   ·simp only[if_pos h];omega
   ·simp only[if_neg h];omega
 ·cases hi with
  |none=>rfl
  |some v=>
   simp only[Mi.sIx];by_cases h:v<0
   ·simp only[if_pos h];omega
   ·simp only[if_neg h];omega
theorem z8h (n d:Nat)(hd:d<=n)(o:Option Int):Mi.sIx n d o<=n:=by rw[<-z4o];exact HT.sIx_le n d hd o
theorem zbh (z:Str)(lo hi:Option Int):Txt.slice z lo hi=z1a z lo hi:=by
 have hn:z.cps.toList.length=z.length:=by simp[Str.length]
 have e:(eu lo hi 1 z.length).filterMap (z.cps[·]?)=Mi.cut z.cps.toList lo hi:=by rw[zcl,ly,pick_run];unfold Mi.cut;rw[hn]
 have hl:(eu lo hi 1 z.length).length=Mi.sIx z.length z.length hi-Mi.sIx z.length 0 lo:=by rw[zcl,ly,aw,jf]
 unfold Txt.slice;split
 ·rename_i hc;simp only[beq_self_eq_true,Bool.true_and,beq_iff_eq]at hc;rw[hl]at hc;have h1:=z8h z.length 0 (cj _) lo;have h2:=z8h z.length z.length (ak _) hi
  have e2:Mi.cut z.cps.toList lo hi=z.cps.toList:=by
   unfold Mi.cut;rw[hn];by_cases h0:Mi.sIx z.length 0 lo=0
   ·rw[h0,List.drop_zero,la (by rw[hn];omega)]
   ·have hz:z.length=0:=by omega
    have:z.cps.toList=[]:=gh.mp (by rw[hn];exact hz);rw[this];simp
  unfold z1a;rw[e2]
 ·unfold z1a;rw[<-e]
def rSlD (K:W.Frag):V->Option Int->Option Int->Hp->VK->Prop:=fun x lo hi H Q=>∃B dx d,Rep K H B x dx/\slD dx lo hi=.ok d/\∀w H',Same H H'->Rep K H' (fun a=>nw H a\/B a) w d->(∀ds,d=.list ds->imms ds=true->Rep K H' (nw H) w d)->Q w H'
theorem zky:SlR X (rSlD X.K):=by
 intro pins s σ H x v vl vu lo hi sl Q I rx hs pl pu h;refine(zks.or zfz) pins s σ H x v vl vu lo hi sl Q I rx hs pl pu ?_;obtain⟨B,dx,d,r,e,q⟩:=h;cases dx<;>try (cases e;done)
 case list xs=>cases e;obtain⟨a,vs,rfl,h1,q1⟩:=z14 r;refine .inl (.inl ⟨a,vs,rfl,h1,fun p hp=>?_⟩);rw[za6];exact q _ _ (Same.upd hp) (z0x hp (q1.cut lo hi) (fun _ z=>.inr z) (.inl hp)) fun ds z hi'=>by cases z;exact z0x hp (Reps.immB (B':=nw H) _ hi' (q1.cut lo hi)) (fun _ z=>z) hp
 case tuple xs=>
  change(if sIx xs.length 0 lo=0/\sIx xs.length xs.length hi=xs.length then Res.no else Res.ok (PyData.tuple (cut xs lo hi)))=_ at e;split at e
  ·cases e
  ·rename_i hw;cases e;obtain⟨a,vs,rfl,h1,q1⟩:=r;refine .inr ⟨a,vs,rfl,h1,by rw[z4o,z4o,q1.length];exact hw,fun p hp=>?_⟩;rw[za6];exact q _ _ (Same.upd hp) (z3e hp (q1.cut lo hi) fun _ z=>.inr z) fun ds z=>by cases z
 case str z=>
  change(if z.length<=LIM then Res.ok (PyData.str (z1a z lo hi))else .no)=_ at e;split at e
  ·rename_i hl;cases e;have e1:x=.str z:=r.1;subst e1;refine .inl (.inr ⟨z,rfl,z0c hl,?_⟩);rw[zbh];exact q _ H (Same.refl H) ⟨rfl,z9k r.2 lo hi⟩ fun ds z=>by cases z
  ·cases e
theorem zbb:PO X none (tDO X.K fun _=>.ok none):=PO.imp zf0 fun σ H Q ⟨ρ,F,z,so,e,q⟩=>by cases e;exact q H (Same.refl H)
theorem zgk (ha:PE X a (tD X.K fa)):PO X (some a) (tDO X.K fun ρ=>fa ρ>>=fun x=>intO x.2):=
 PO.imp (zdp ha) fun σ H Q zz=>by
  obtain⟨ρ,F,z,so,e,q⟩:=zz;obtain⟨x,e1,e⟩:=Res.bind_ok e;refine⟨ρ,F,x,so,e1,fun v H1 s1 rv=>?_⟩;obtain⟨g,d⟩:=x;cases d<;>try (cases e;done)
  cases e;exact⟨_,rv,q H1 s1⟩
theorem d_sl {lo hi:Option Expr}{p2:Pos}{fl fh:Rho->Res (Option Int)}(ha:PE X a (tD X.K fa))(hl:PO X lo (tDO X.K fl))(hh:PO X hi (tDO X.K fh)):
  PE X (.Subscript a (.Slice lo hi none p2) pos) (tD X.K fun ρ=>fa ρ>>=fun x=>fl ρ>>=fun l=>fh ρ>>=fun h=>slD x.2 l h>>=fun d=>.ok (gN d (gAll [x]),d)):=
 PE.imp (zan zky ha hl hh) fun σ H Q zz=>by
  obtain⟨ρ,F,z,so,e,q⟩:=zz;obtain⟨x,e1,e⟩:=Res.bind_ok e;obtain⟨l,e2,e⟩:=Res.bind_ok e;obtain⟨h,e3,e⟩:=Res.bind_ok e;obtain⟨d,e4,e⟩:=Res.bind_ok e;cases e;refine⟨ρ,F,x,so,e1,fun v H1 s1 rv=>⟨ρ,F,l,so.same s1,e2,fun H2 s2=>⟨ρ,F,h,so.same (s1.trans s2),e3,fun H3 s3=>⟨_,x.2,d,rv.same (s2.trans s3) fun _ z=>z,e4,fun w H4 s4 rw' nn=>q w H4 ((s1.trans (s2.trans s3)).trans s4) (zci rw' (fun a h=>?_) fun ds z hi=>(nn ds z hi).weak fun _ z=>nw.back (s1.trans (s2.trans s3)) z)⟩⟩⟩⟩;rcases h with h|h
  ·exact z3d so.vis (s1.trans (s2.trans s3)) h
  ·exact z35 so.vis (x:=x) (by simp) h
theorem Reps.pick {K:W.Frag}{H:Hp}{B:Ad->Prop}{vs:List V}{ds:List D}(r:Reps K H B vs ds):∀is:List Nat,Reps K H B (is.filterMap (vs[·]?)) (is.filterMap (ds[·]?))
 | []=>rfl
 |i::is=>by
  rw[cn,cn];cases h:ds[i]? with
  |some d=>obtain⟨v,h1,h2⟩:=r.get h;rw[h1];exact Reps.cons h2 (Reps.pick r is)
  |none=>
   have:vs[i]?=none:=by rw[d4]at h ⊢;rw[r.length];exact h
   rw[this];exact Reps.pick r is
theorem Vals.pick {vs:List V}{us:List Value}(r:Vals vs us):∀is:List Nat,Vals (is.filterMap (vs[·]?)) (is.filterMap (us[·]?))
 | []=>.nil
 |i::is=>by
  rw[cn,cn];cases h:vs[i]? with
  |some d=>obtain⟨v,h1,h2⟩:=r.get h;rw[h1];exact .cons h2 (Vals.pick r is)
  |none=>
   have:us[i]?=none:=by rw[d4]at h ⊢;rw[<-r.length];exact h
   rw[this];exact Vals.pick r is
theorem d_cB {x:Str}{id:String}{m:List D->Res D}{fs:Rho->Res (List GD)}(hc:CallR X (.builtin id) (z5d X.K m))(hm:X.mg x=none)(hv:ci x=some (.builtin id))(ha:PA X (e::es) (tDA X.K fs))(hst:((e::es).all fun e=>!isStar e)=true)(hg:Gl X x)(hn:x≠"__name__")(hdb:(x==("__debug__":Str))=false){p:Pos}:
  PE X (.Call (.Name x p) (e::es) [] pos) (tD X.K fun ρ=>fs ρ>>=fun ys=>m (ys.map (·.2))>>=fun d=>.ok (gJ d .al,d)):=
 PE.imp (zeg hc hm hv ha hst hg hn hdb) fun σ H Q zz=>by obtain⟨ρ,F,z,so,e,q⟩:=zz;obtain⟨ys,e1,e⟩:=Res.bind_ok e;obtain⟨d,e2,e⟩:=Res.bind_ok e;cases e;exact⟨ρ,F,ys,so,e1,fun vs H1 s1 rs=>⟨_,_,d,rs.repsV so.vis,e2,fun w H2 s2 rw'=>q w H2 (s1.trans s2) (z24 rw' fun a h=>h.elim (fun z=>(nw.back s1 z).vis so.vis) fun z=>z)⟩⟩
theorem REs.length {K:W.Frag}{H:Hp}{B:Ad->Prop}:∀{kvs:List (Key×V)} {es:Ents},REs K H B kvs es->kvs.length=es.length
 |kvs,[],r=>by have e:kvs=[]:=r;subst e;rfl
 |kvs,(kd,d)::es,r=>by obtain⟨k,v,t,e,_,_,_,q⟩:=r;subst e;rw[ay,ay,q.length]
theorem z59 {K:W.Frag}{H:Hp}{B:Ad->Prop}{xs:List V}{d:D}(r:Reps K H B xs [d]):∃v,xs=[v]/\Rep K H B v d:=by obtain⟨v,t,e,h,q⟩:=r;have e2:t=[]:=q;subst e e2;exact⟨v,rfl,h⟩
theorem zjq {K:W.Frag}{H:Hp}{B:Ad->Prop}{xs:List V}{d d':D}(r:Reps K H B xs [d,d']):∃v v',xs=[v,v']/\Rep K H B v d/\Rep K H B v' d':=by obtain⟨v,t,e,h,q⟩:=r;obtain⟨v',e2,h'⟩:=z59 q;subst e e2;exact⟨v,v',rfl,h,h'⟩
theorem z88:CallR X (.builtin "len") (z5d X.K (biD "len")):=by
 refine CallR.imp (ze4.or z8g) fun xs H Q h=>?_;obtain⟨B,ds,d,r,e,q⟩:=h;simp only[biD,if_true]at e;split at e
 ·rename_i x;obtain⟨v,rfl,r1⟩:=z59 r;clear r;have r:=r1;clear r1;cases x<;>try (cases e;done)
  case str z=>
   change(if z.length<=LIM then Res.ok (PyData.int z.length)else .no)=_ at e;split at e
   ·rename_i hl;cases e;have e1:v=.str z:=r.1;subst e1;exact .inl (.inl ⟨z,rfl,z0c hl,q _ H (Same.refl H) rfl⟩)
   ·cases e
  case tuple ds=>cases e;obtain⟨a,vs,rfl,h1,q1⟩:=r;exact .inl (.inr ⟨a,vs,rfl,.inr h1,q _ H (Same.refl H) (by rw[q1.length];exact rfl)⟩)
  case list ds=>cases e;obtain⟨a,vs,rfl,h1,q1⟩:=z14 r;exact .inl (.inr ⟨a,vs,rfl,.inl h1,q _ H (Same.refl H) (by rw[q1.length];exact rfl)⟩)
  case dict ds=>cases e;obtain⟨a,vs,rfl,h1,_,q1⟩:=r;exact .inr ⟨a,vs,rfl,h1,q _ H (Same.refl H) (by rw[q1.length];exact rfl)⟩
 ·cases e
theorem zb4 {prog:am}{w:World}{A:bz}{E:Value->aa->Prop}{s:aa}{p:Addr}{a b:Int}{t u:Tok}{Q:Value->aa->Prop}(hh:A.handled=none)(hp:s.heap.IsTuple p #[.int a t,.int b u])
  (hQ:∀z h' tk,(∀c o,s.heap.get? c=some o->h'.get? c=some o)->Q (.int (if b<a then b else a) z) {s with heap:=h',toks:=tk}):wpAny (model prog w) A (call (.builtin "min") [.ref p]) Q E s:=by
 have ei:o7 #[(a,t),(b,u)]=#[.int a t,.int b u]:=by simp[o7]
 have hp2:s.heap.IsTuple p (o7 #[(a,t),(b,u)]):=by rw[ei];exact hp
 have lt:p<s.heap.objs.size:=by obtain⟨o,ho,_⟩:=hp;exact ax ho
 refine call_min_walk ?_;refine mz hp2 ?_;refine⟨_,[s.heap.objs.size,p],[s.heap.objs.size],_,_,_,_,rfl,Walks.tuple (A:=A.in1) hh _ p (cg lt) _,⟨⟨_,bw _ rfl,rfl,rfl⟩,hp2.push _⟩,fun c hc=>?_,(by rw[ei];exact Nat.succ_pos 1),CmpOf.ints_lt (numAt #[(a,t),(b,u)]) (fun _ _=>intItems_at),fun v h' tk hP hk=>?_⟩
 ·rw[lu];simp only[a9,df,or_false]at hc;rcases hc with rfl|rfl
  ·exact ig _
  ·exact Nat.lt_succ_of_lt lt
 ·have keep:∀c o,s.heap.get? c=some o->h'.get? c=some o:=fun c o e=>hk c o (fun z=>de _ (dm.mp z▸ax e)) (au _ e);have es:(o7 #[(a,t),(b,u)]).size-1=1:=by rw[ei];rfl
  rw[es]at hP;by_cases hba:b<a
  ·have e1:argBest (fun i j=>decide (numAt #[(a,t),(b,u)] i<numAt #[(a,t),(b,u)] j)) 1=1:=by
    show(if decide (b<a)=true then 1 else 0)=1;rw[decide_eq_true hba];rfl
   rw[e1,ei]at hP;cases(Option.some.inj hP);have:=hQ u h' tk keep
   rwa [if_pos hba]at this
  ·have e1:argBest (fun i j=>decide (numAt #[(a,t),(b,u)] i<numAt #[(a,t),(b,u)] j)) 1=0:=by
    show(if decide (b<a)=true then 1 else 0)=0;rw[ph hba];rfl
   rw[e1,ei]at hP;cases(Option.some.inj hP);have:=hQ t h' tk keep
   rwa [if_neg hba]at this
theorem z9j (hc:X.calm=true):CallR X (.builtin "min") (fun xs H Q=>∃p i j,xs=[.ref p]/\SqT X.K H p [.int i,.int j]/\Q (.int (if j<i then j else i)) H):=by intro pins s σ H xs us Q I r h;obtain⟨p,i,j,rfl,hq,q⟩:=h;obtain⟨u,rfl,r1⟩:=vals1 r;cases r1;obtain⟨its,rv,hp,_⟩:=I.tuple hq;obtain⟨a,b,rfl,⟨t,rfl⟩,⟨t',rfl⟩⟩:=vals2 rv;exact zb4 (I.ok.hd hc) hp fun z h' tk k=>⟨.int (if j<i then j else i),H,I.kept k,⟨z,rfl⟩,q⟩
theorem zfn (hc:X.calm=true):CallR X (.builtin "min") (z5d X.K (biD "min")):=by
 refine CallR.imp ((z91 hc).or (z9j hc)) fun xs H Q h=>?_;obtain⟨B,ds,d,r,e,q⟩:=h;replace e:minD ds=Res.ok d:=e;have mn:∀i j:Int,(if j<i then j else i)=min i j:=fun i j=>by split<;>omega
 have m2:∀{x y:D},min2 x y=.ok d->∃i j,x=.int i/\y=.int j/\d=.int (min i j):=fun{x y} h=>by
  cases x<;>try (exact(z0l h).elim)
  cases y<;>try (exact(z0l h).elim)
  cases h;exact⟨_,_,rfl,rfl,rfl⟩
 rcases ds with _|⟨a,_|⟨b,_|⟨c,ds⟩⟩⟩
 ·exact(z0l e).elim
 ·cases a<;>try (exact(z0l e).elim)
  rename_i ys;rcases ys with _|⟨a,_|⟨b,_|⟨c,ys⟩⟩⟩
  ·exact(z0l e).elim
  ·exact(z0l e).elim
  ·obtain⟨i,j,rfl,rfl,rfl⟩:=m2 e;obtain⟨v,rfl,p,vs,rfl,hq,rs⟩:=z59 r;obtain⟨v1,v2,rfl,h1,h2⟩:=zjq rs;have e1:v1=.int i:=h1;have e2:v2=.int j:=h2;subst e1 e2;exact .inr ⟨p,i,j,rfl,hq,q _ H (Same.refl H) (show V.int _=V.int _ by rw[mn])⟩
  ·unfold minD vT at e;exact(z0l e).elim
 ·obtain⟨i,j,rfl,rfl,rfl⟩:=m2 e;obtain⟨v,v',rfl,h1,h2⟩:=zjq r;have e1:v=.int i:=h1;have e2:v'=.int j:=h2;subst e1 e2;exact .inl ⟨i,j,rfl,q _ H (Same.refl H) (show V.int _=V.int _ by rw[mn])⟩
 ·exact(z0l e).elim
theorem za9 {pins:List (Addr×Obj)}{σ:L2.St}{H:Hp}{s:aa}{A:bz}{E:Value->aa->Prop}{Q:Value->aa->Prop}{B:Ad->Prop}{x:V}{u:Value}{d:D}{T:String}(I:Inv X pins σ H s)(rx:RelV x u)(r:Rep X.K H B x d)(hT:T∈tysB)
  (h:∀tk,Q (.bool (isTy (tyOf d) T)) {s with toks:=tk}):wpAny (model X.prog X.w) A (call (.builtin "isinstance") [u,.type T]) Q E s:=by
 have ht:tyOf d∈tysA:=by cases d<;>simp[tyOf,tysA]
 have e:W.kitOne X.K (.type (tyOf d)) (.type T)=some (isTy (tyOf d) T):=zfc X.K _ ht T hT;cases d with
 |none=>have e1:x=.non:=r;subst e1;exact z1e I rx .non e h
 |bool b=>have e1:x=.bl b:=r;subst e1;exact z1e I rx (.bl b) e h
 |int b=>have e1:x=.int b:=r;subst e1;exact z1e I rx (.int b) e h
 |str b=>have e1:x=.str b:=r.1;subst e1;exact z1e I rx (.str b) e h
 |tuple ds=>obtain⟨a,vs,e1,h1,_⟩:=r;subst e1;cases rx;obtain⟨_,_,⟨o,ho,hc,_⟩,_⟩:=I.tuple h1;exact W.kia_one W.kitx_tuple I.kIn ⟨o,ho,hc⟩ e (fun z=>nomatch z) h
 |list ds=>obtain⟨a,vs,e1,h1,_⟩:=z14 r;subst e1;cases rx;obtain⟨_,_,⟨o,_,ho,hc,_⟩,_⟩:=I.list h1;exact W.kia_one W.kitx_list I.kIn ⟨o,ho,hc⟩ e (fun z=>nomatch z) h
 |dict es=>obtain⟨a,vs,e1,h1,_⟩:=r;subst e1;exact z1e I rx (.dK h1) e h
def rIsD (K:W.Frag):List V->Hp->VK->Prop:=fun xs H Q=>∃B x d T,xs=[x,.ty T]/\Rep K H B x d/\T∈tysB/\Q (.bl (isTy (tyOf d) T)) H
theorem zae:CallR X (.builtin "isinstance") (rIsD X.K):=by intro pins s σ H xs us Q I r h;obtain⟨B,x,d,T,rfl,rx,hT,q⟩:=h;obtain⟨u,w',rfl,r1,r2⟩:=vals2 r;obtain rfl:w'=Value.type T:=r2;exact za9 I r1 rx hT fun tk=>⟨.bl _,H,I.tok _,rfl,q⟩
theorem zmw {y:Expr}{T:String}{x2:Str}{p p2:Pos}(hm:X.mg "isinstance"=none)(hg:Gl X "isinstance")(hm2:X.mg x2=none)(hv2:ci x2=some (.type T))(hg2:Gl X x2)(hn2:x2≠"__name__")(hd2:(x2==("__debug__":Str))=false)(hT:T∈tysB)(hs:isStar y=false)(ha:PE X y (tD X.K fa)):
  PE X (.Call (.Name "isinstance" p) [y,.Name x2 p2] [] pos) (tD X.K fun ρ=>fa ρ>>=fun x=>.ok (.fr,.bool ([T].any fun T=>isTy (tyOf x.2) T))):=
 PE.imp (zeg zae hm (by decide+kernel) (pa_c ha (pa_c (zdc (v:=.ty T) hg2 hm2 hv2 rfl hn2 hd2) z1i) hs) (by simp[hs];rfl) hg (by decide) (by decide)) fun σ H Q zz=>by obtain⟨ρ,F,z,so,e,q⟩:=zz;obtain⟨x,e1,e⟩:=Res.bind_ok e;cases e;refine⟨ρ,F,x,so,e1,fun v H1 s1 rv=>?_⟩;refine⟨_,v,x.2,T,rfl,rv,hT,q _ H1 s1 ?_⟩;show V.bl _=V.bl _;simp
end
section
variable {X:Cx}{pos:Pos}
def gLst (K:W.Frag)(n:Nat)(t:TGs):TG:=fun v σ H Q=>∃a xs,v=.ref a/\SqL K H a xs/\xs.length=n/\t xs σ H Q
theorem zi8 {es:List Expr}{k:Nat}{t:TGs}{n:Nat}(hc:X.calm=true)(h:PGs X es t)(hn:(dj es X.env).length=n)(hst:(dj es X.env).findIdx? (·.1)=none):PG X (.Tuple es k pos) (gLst X.K n t):=by
 intro pins s σ H v u Q I r hw;obtain⟨a,xs,e1,hq,hl,hw⟩:=hw;subst e1;cases r;obtain⟨its,rv,pl,hz⟩:=I.list hq;rw[assign_Tuple];apply ag;refine j7 ?_
 delta unpack
 rw[hst,show(dj es X.env).length=its.toArray.size by rw[hn,<-hl,rv.length,ae]];apply ag;refine j6 (W.kun_itemsOf (I.ok.hd hc) pl.isList fun h' hx=>?_);have I1:Inv X pins σ H {s with heap:=h'}:=I.kept (t':=s.toks) fun b o e=>hx b o (cg (ax e)) e;exact h pins _ σ H xs _ Q I1 (by simpa using rv) hw
end
def Kp (B:Ad->Prop)(H1 H2:Hp):Prop:=∀a o,H1 a=some o->(B (some a)\/Fix o)->H2 a=some o
theorem Kp.of {B:Ad->Prop}{H1 H2:Hp}(s:Same H1 H2):Kp B H1 H2:=fun a o e _=>s a o e
structure Walk (K:W.Frag)(J:It)(B:Ad->Prop)(H1:Hp)(xs:List D):Prop where
 len:xs.length<=ah
 go:∀H2,Kp B H1 H2->∀i,i<xs.length->J.go i H2
 stop:∀H2,Kp B H1 H2->J.stop xs.length H2
 yld:∀H2,Kp B H1 H2->∀i x H3,i<xs.length->J.yld i H2 x H3->Same H2 H3/\∃d,xs[i]?=some d/\Rep K H3 B x d
def tDW (K:W.Frag)(f:Rho->Res (G×List D)):TI:=fun σ H R=>∃ρ F w,StOk K F H σ ρ/\f ρ=.ok w/\∀J B H',Same H H'->(∀a,B a->BG F H w.1 a/\¬nw H' a)->Walk K J B H' w.2->R J H'
theorem _root_.L2.PI.imp {X:Cx}{tg e:Expr}{t t':TI}(h:PI X tg e t)(i:∀σ H Q,t' σ H Q->t σ H Q):PI X tg e t':=fun pins s σ H Q I q=>h pins s σ H Q I (i σ H Q q)
section
variable {K:W.Frag}{H:Hp}{B:Ad->Prop}
theorem z9p {a:Addr}{vs:List V}{ds:List D}(h:(H a=some (.lst vs)/\B (some a))\/(FL K H a vs/\B none))(r:Reps K H B vs ds)(hz:ds.length<=ah):Walk K (Itl K a) B H ds:=by
 have sq:∀H2,Kp B H H2->SqL K H2 a vs:=fun H2 k=>by
  rcases h with⟨h,b⟩|⟨⟨o,h⟩|h,_⟩
  ·exact .inl (.inl (k a _ h (.inl b)))
  ·exact .inl (.inr ⟨o,k a _ h (.inr True.intro)⟩)
  ·exact .inr h
 refine⟨hz,fun H2 k i hi=>?_,fun H2 k=>⟨vs,sq H2 k,by rw[r.length];exact ak _⟩,fun H2 k i x H3 hi y=>?_⟩
 ·have hv:i<vs.length:=by rw[r.length];exact hi
  exact⟨vs,vs[i],sq H2 k,by simp[hv]⟩
 ·obtain⟨e,y⟩:=y;subst e;have hx:=y vs (sq _ k);obtain⟨d,h1,h2⟩:=r.getV hx;exact⟨Same.refl _,d,h1,Rep.keep k (fun _ z=>z) d h2⟩
theorem za8 {a:Addr}{vs:List V}{ds:List D}(h:SqT K H a vs)(r:Reps K H B vs ds)(hz:ds.length<=ah):Walk K (Itt K a) B H ds:=by
 have sq:∀H2,Kp B H H2->SqT K H2 a vs:=fun H2 k=>h.keep k;refine⟨hz,fun H2 k i hi=>?_,fun H2 k=>⟨vs,sq H2 k,by rw[r.length];exact ak _⟩,fun H2 k i x H3 hi y=>?_⟩
 ·have hv:i<vs.length:=by rw[r.length];exact hi
  exact⟨vs,vs[i],sq H2 k,by simp[hv]⟩
 ·obtain⟨e,y⟩:=y;subst e;have hx:=y vs (sq _ k);obtain⟨d,h1,h2⟩:=r.getV hx;exact⟨Same.refl _,d,h1,Rep.keep k (fun _ z=>z) d h2⟩
theorem zbe {z:Str}(ok:PyData.strOk z=true)(hz:z.length<=ah):Walk K (Its z) B H (z.cps.toList.map fun c=>.str ⟨#[c]⟩):=by
 have hl:(z.cps.toList.map fun c=>(PyData.str ⟨#[c]⟩:D)).length=z.cps.size:=by simp
 refine⟨by rw[hl];exact hz,fun H2 k i hi=>?_,fun H2 k=>?_,fun H2 k i x H3 hi y=>?_⟩
 ·rw[hl]at hi;exact hi
 ·show z.cps.size<=_;rw[hl];exact ak _
 ·obtain⟨e,c,hc,rfl⟩:=y;subst e;have hc':z.cps.toList[i]?=some c:=by simpa using hc
  refine⟨Same.refl _,.str ⟨#[c]⟩,by rw[az,hc'];rfl,rfl,z43 ok (bu hc')⟩
theorem zag {lo:Int}{n:Nat}(hz:n<=ah):Walk K (Itr lo n) B H ((cr n).map fun(i:Nat)=>.int (lo+i)):=by
 have hl:((cr n).map fun(i:Nat)=>(PyData.int (lo+i):D)).length=n:=by simp
 refine⟨by rw[hl];exact hz,fun H2 k i hi=>?_,fun H2 k=>?_,fun H2 k i x H3 hi y=>?_⟩
 ·rw[hl]at hi;exact hi
 ·show n<=_;rw[hl];exact ak _
 ·obtain⟨e,rfl⟩:=y;subst e;rw[hl]at hi;exact⟨Same.refl _,.int (lo+i),by rw[az,mf hi];rfl,rfl⟩
end
section
variable {X:Cx}{tg a b c e:Expr}{es:List Expr}{fa fb fc:Rho->Res GD}{pos:Pos}
theorem z3s {pins:List (Addr×Obj)}{σ:L2.St}{H1:Hp}{s1:aa}{v:Value}{y:V}{B:Ad->Prop}{d:D}{xs:List D}{R:It->Hp->Prop}(I1:Inv X pins σ H1 s1)(r1:RelV y v)(rv:Rep X.K H1 B y d)(e:z5f d=.ok xs)
  (q:∀J,Walk X.K J B H1 xs->R J H1):wpAny (model X.prog X.w) X.A (pc v) (PIE X pins σ tg R) X.xe s1:=by
 cases d<;>try (cases e;done)
 case list ds=>
  cases e;obtain⟨a,vs,rfl,h,rs⟩:=rv
  have hq:SqL X.K H1 a vs:=by
   rcases h with⟨h,_⟩|⟨h|h,_⟩
   ·exact .inl (.inl h)
   ·exact .inl (.inr h)
   ·exact .inr h
  cases r1;obtain⟨its,rv',p,hz⟩:=I1.list hq;refine wpAny_pyIter_list p.isList ?_;refine⟨s1.heap.objs.size,[s1.heap.objs.size],_,_,H1,rfl,I1.kept (t':=s1.toks) fun b o e=>au _ e,z9m a _,⟨_,bw _ rfl,rfl,rfl⟩,fun b hb=>?_,q _ (z9p h rs (by rw[<-rs.length];exact hz))⟩;have e:b=s1.heap.objs.size:=by simpa using hb
  subst e;exact I1.fpOk (ak _) (I1.hok.fresh (ak _))
 case tuple ds=>
  cases e;obtain⟨a,vs,rfl,hq,rs⟩:=rv;cases r1;obtain⟨its,rv',p,hz⟩:=I1.tuple hq;refine mz (show s1.heap.IsTuple a its.toArray from p) ?_;refine⟨s1.heap.objs.size,[s1.heap.objs.size],_,_,H1,rfl,I1.kept (t':=s1.toks) fun b o e=>au _ e,z79 a _,⟨_,bw _ rfl,rfl,rfl⟩,fun b hb=>?_,q _ (za8 hq rs (by rw[<-rs.length];exact hz))⟩;have e:b=s1.heap.objs.size:=by simpa using hb
  subst e;exact I1.fpOk (ak _) (I1.hok.fresh (ak _))
 case str z=>
  change(if z.length<=LIM then Res.ok (z.cps.toList.map fun c=>PyData.str ⟨#[c]⟩)else .no)=_ at e;split at e
  case isFalse=>cases e
  rename_i hs;cases e;have e1:y=.str z:=rv.1;subst e1;obtain⟨t,rfl⟩:=r1;have qz:=q _ (zbe rv.2 (z0c hs))
  have fin:∀(ty:String) (hty:ty="str_ascii_iterator"\/ty="str_iterator"),PIE X pins σ tg R (.ref s1.heap.objs.size) {s1 with heap:=s1.heap.push {cls:=.type ty,data:=.fields #[.str z t,.int 0 0]}}:=fun ty hty=>by
   refine⟨s1.heap.objs.size,[s1.heap.objs.size],_,_,H1,rfl,I1.kept (t':=s1.toks) fun b o e=>au _ e,zb6 hty _ z t,⟨_,bw _ rfl,rfl,rfl⟩,fun b hb=>?_,qz⟩;have e:b=s1.heap.objs.size:=by simpa using hb
   subst e;exact I1.fpOk (ak _) (I1.hok.fresh (ak _))
  cases ha:z.cps.all (· <128)
  ·exact wpAny_pyIter_wide ha (fin _ (.inr rfl))
  ·exact wpAny_pyIter_ascii ha (fin _ (.inl rfl))
theorem w_tv (ha:PE X a (tD X.K fa)):PI X tg a (tDW X.K fun ρ=>fa ρ>>=fun x=>z5f x.2>>=fun xs=>.ok (x.1,xs)):=by intro pins s σ H R I h;obtain⟨ρ,F,w,so,e,q⟩:=h;obtain⟨x,e1,e⟩:=Res.bind_ok e;obtain⟨xs,e2,e⟩:=Res.bind_ok e;cases e;refine thn (ha pins s σ H (fun v H1=>Same H H1/\Rep X.K H1 (BG F H x.1) v x.2) I ⟨ρ,F,x,so,e1,fun v H1 s1 rv=>⟨s1,rv⟩⟩) fun v s1 zz=>?_;obtain⟨y,H1,I1,r1,s1',rv⟩:=zz;exact z3s I1 r1 (Rep.there _ rv) e2 fun J wk=>q J _ H1 s1' (fun _ z=>z) wk
theorem zh9 {n:Int}(h1:n<=LIM)(h2:-LIM<=n):-(2 ^ 62)<=n/\n<2 ^ 62:=by unfold LIM at *;omega
theorem RGs.one {K:W.Frag}{F:Fm}{H H':Hp}{vs:List V}{x:GD}(r:RGs K F H H' vs [x]):∃v,vs=[v]/\Rep K H' (BG F H x.1) v x.2:=by obtain⟨v,t,e,h,q⟩:=r;have e2:t=[]:=q;subst e e2;exact⟨v,rfl,h⟩
theorem RGs.two {K:W.Frag}{F:Fm}{H H':Hp}{vs:List V}{x y:GD}(r:RGs K F H H' vs [x,y]):∃v w,vs=[v,w]/\Rep K H' (BG F H x.1) v x.2/\Rep K H' (BG F H y.1) w y.2:=by obtain⟨v,t,e,h,q⟩:=r;obtain⟨w,e2,h2⟩:=q.one;subst e e2;exact⟨v,w,rfl,h,h2⟩
theorem zi9 {p:Pos}{fs:Rho->Res (List GD)}(hm:X.mg "range"=none)(hg:Gl X "range")(hs:isStar a=false)(ha:PA X [a] (tDA X.K fs))(hl:∀ρ ys,fs ρ=.ok ys->ys.length=1):PI X tg (.Call (.Name "range" p) [a] [] pos) (tDW X.K fun ρ=>fs ρ>>=fun ys=>rngD (ys.map (·.2))>>=fun xs=>.ok (.fr,xs)):=
 PI.imp (z9x hg hm ha (z04 hs)) fun σ H R zz=>by
  obtain⟨ρ,F,w,so,e,q⟩:=zz;obtain⟨ys,e1,e⟩:=Res.bind_ok e;obtain⟨xs,e2,e⟩:=Res.bind_ok e;cases e;refine⟨ρ,F,ys,so,e1,fun vs H1 s1 rs=>?_⟩;have hy:=hl ρ ys e1
  match ys,hy with
  | [(g,d)],hy1=>
   clear hy1;obtain⟨v,rfl,rv⟩:=rs.one;cases d<;>try (cases e2;done)
   rename_i n;have ev:v=.int n:=rv;subst ev;change(if n<=LIM/\-LIM<=n then Res.ok ((cr n.toNat).map fun(i:Nat)=>PyData.int i)else .no)=_ at e2;split at e2
   case isFalse=>cases e2
   rename_i hn;cases e2;have h62:=zh9 hn.1 hn.2;refine⟨n,rfl,h62.1,h62.2,q _ (fun _=>False) H1 s1 (fun _ z=>z.elim) ?_⟩;have e0:((cr n.toNat).map fun(i:Nat)=>(PyData.int i:D))=(cr n.toNat).map fun(i:Nat)=>.int (0+i):=by apply List.map_congr_left;intro i _;rw[Int.zero_add]
   show Walk X.K (Itr 0 n.toNat) _ H1 ((cr n.toNat).map fun(i:Nat)=>(PyData.int i:D));rw[e0];exact zag (z0c (by unfold LIM at *;omega))
def Fm.drop (F:Fm)(i:Nat):Fm:={F with O:=fun a=>if F.O a=some i then none else F.O a}
theorem Fm.drop_none {F:Fm}{i:Nat}{a:Addr}(h:F.O a=none):(F.drop i).O a=none:=by show(if F.O a=some i then none else F.O a)=none;rw[h];rfl
theorem Bin.drop {F:Fm}{i:Nat}{a:Ad}(h:Bin F a):Bin (F.drop i) a:=by
 cases a with
 |none=>exact h
 |some a=>exact⟨Fm.drop_none h.1,h.2⟩
theorem Slot.drop {K:W.Frag}{F:Fm}{H:Hp}{i j:Nat}{g:G}{v:V}{d:D}(hij:j≠i)(h:Slot K F H j g v d):Slot K (F.drop i) H j g v d:=by
 cases g with
 |fr=>
  obtain⟨p,e,o,h⟩:=h;refine⟨p,e,?_,?_⟩
  ·show(if F.O p=some i then none else F.O p)=some j;rw[o,if_neg (fun z=>hij (Option.some.inj z))]
  ·rcases h with⟨vs,ds,e1,e2,r⟩|⟨vs,ds,e1,e2,r⟩
   ·exact .inl ⟨vs,ds,e1,e2,r.weak fun _ b=>b.drop⟩
   ·exact .inr ⟨vs,ds,e1,e2,REs.same (fun _ _ e=>e) (fun _ b=>b.drop) r⟩
 |od=>exact h
 |al=>exact h
 |nu=>exact Rep.weak (fun _ b=>b.drop) h
def BI (F:Fm):G->Ad->Prop
 |.od=>oldA F
 |.fr=>visA F
 |.al=>visA F
 |.nu=>visA F
theorem BI.of {F:Fm}{H:Hp}{g:G}{a:Ad}(hv:∀a,H a=none->F.V a)(h:BG F H g a):BI F g a:=by
 cases g with
 |fr=>exact nw.vis hv h
 |od=>exact h
 |al=>exact h
 |nu=>exact h.elim (nw.vis hv) Bin.vis
theorem StOk.setI {K:W.Frag}{F:Fm}{H:Hp}{σ:L2.St}{ρ:Rho}{x:GD}{v:V}{i:Nat}(so:StOk K F H σ ρ)(r:Rep K H (BI F x.1) v x.2):StOk K (F.drop i) H (σ.set i (some v)) (ρ.set i (some (z1w x))) where
 ext:=so.ext
 vis:=so.vis
 own:=fun a j e=>by
  have e':F.O a=some j:=by
   have:(if F.O a=some i then none else F.O a)=some j:=e;split at this
   ·cases this
   ·exact this
  exact so.own a j e'
 len:=by rw[bx,bx];exact so.len
 sl:=fun j g d e=>by
  by_cases hj:i=j
  ·subst hj;rw[cy]at e;simp only[if_true]at e;split at e
   ·rename_i hl;have e1:z1w x=(g,d):=by simpa using e
    refine⟨v,?_,?_⟩
    ·rw[cy];simp[so.len,hl]
    ·obtain⟨gx,dx⟩:=x;cases gx with
     |fr=>cases e1;exact r
     |od=>cases e1;exact r
     |al=>cases e1;exact r
     |nu=>cases e1;exact r
   ·cases e
  ·rw[bd hj]at e ⊢;obtain⟨u,h1,h2⟩:=so.sl j g d e;exact⟨u,h1,h2.drop fun z=>hj z.symm⟩
structure Keeps (F F':Fm)(is:List Nat)(σ σ':L2.St):Prop where
 h0:F'.H0=F.H0
 v:F'.V=F.V
 z:F'.z=F.z
 o:∀a,F.O a=none->F'.O a=none
 len:σ'.length=σ.length
 rest:∀j,j∉is->σ'[j]?=σ[j]?
theorem Keeps.refl {F:Fm}{is:List Nat}{σ:L2.St}:Keeps F F is σ σ:=⟨rfl,rfl,rfl,fun _ h=>h,rfl,fun _ _=>rfl⟩
theorem Keeps.set {F:Fm}{is:List Nat}{i:Nat}{σ:L2.St}{v:Option V}(h:i∈is):Keeps F (F.drop i) is σ (σ.set i v):=⟨rfl,rfl,rfl,fun _ h=>Fm.drop_none h,bx,fun j hj=>bd fun z=>hj (by rw[<-z];exact h)⟩
theorem Keeps.trans {F F' F'':Fm}{is:List Nat}{σ σ' σ'':L2.St}(a:Keeps F F' is σ σ')(b:Keeps F' F'' is σ' σ''):Keeps F F'' is σ σ'':=⟨b.h0.trans a.h0,b.v.trans a.v,b.z.trans a.z,fun x h=>b.o x (a.o x h),b.len.trans a.len,fun j hj=>(b.rest j hj).trans (a.rest j hj)⟩
def tDG (K:W.Frag)(t:Tg):TG:=fun v σ H Q=>∃ρ F x ρ',StOk K F H σ ρ/\Rep K H (BI F x.1) v x.2/\z0v t x ρ=.ok ρ'/\∀σ' F',StOk K F' H σ' ρ'->Keeps F F' (tgIx t) σ σ'->Q σ' H
theorem _root_.L2.PG.imp {X:Cx}{e:Expr}{t t':TG}(h:PG X e t)(i:∀v σ H Q,t' v σ H Q->t v σ H Q):PG X e t':=fun pins s σ H v u Q I r q=>h pins s σ H v u Q I r (i v σ H Q q)
theorem _root_.L2.PGs.imp {X:Cx}{e:List Expr}{t t':TGs}(h:PGs X e t)(i:∀v σ H Q,t' v σ H Q->t v σ H Q):PGs X e t':=fun pins s σ H v u Q I r q=>h pins s σ H v u Q I r (i v σ H Q q)
theorem zg5 {i:Nat}{x:Str}(hN:X.N.Nodup)(hi:X.N[i]?=some x)(hx:Loc X.env.scope x)(hf:X.fn x=true\/X.env.scope.names.lookup x=some .local):PG X (.Name x pos) (tDG X.K (.nm i)):=PG.imp (z5e hN hi hx hf) fun v σ H Q zz=>by obtain⟨ρ,F,x,ρ',so,r,e,q⟩:=zz;cases e;exact q _ _ (so.setI r) (Keeps.set (by simp[tgIx]))
def tDGs (K:W.Frag)(all is:List Nat):TGs:=fun vs σ H Q=>∃ρ F g ds ρ',(∀i∈is,i∈all)/\StOk K F H σ ρ/\Reps K H (BI F g) vs ds/\z27 ρ is ds g=some ρ'/\∀σ' F',StOk K F' H σ' ρ'->Keeps F F' all σ σ'->Q σ' H
theorem zhz {all:List Nat}:PGs X [] (tDGs X.K all []):=
 PGs.imp zda fun vs σ H Q zz=>by
  obtain⟨ρ,F,g,ds,ρ',_,so,r,e,q⟩:=zz;cases ds with
  |nil=>cases e;have e2:vs=[]:=r;exact⟨e2,q σ F so Keeps.refl⟩
  |cons d ds=>cases e
theorem zek {all is:List Nat}{i:Nat}{x:Str}{es:List Expr}{p:Pos}(hN:X.N.Nodup)(hi:X.N[i]?=some x)(hx:Loc X.env.scope x)(hf:X.fn x=true\/X.env.scope.names.lookup x=some .local)(h:PGs X es (tDGs X.K all is)):PGs X (.Name x p::es) (tDGs X.K all (i::is)):=
 PGs.imp (zaw (z5e hN hi hx hf) h (by rfl)) fun vs σ H Q zz=>by
  obtain⟨ρ,F,g,ds,ρ',hin,so,r,e,q⟩:=zz;cases ds with
  |nil=>cases e
  |cons d ds=>
   obtain⟨v,t,rfl,h1,h2⟩:=r;refine⟨v,t,rfl,ρ.set i (some (z1w (gJ d g,d))),F.drop i,g,ds,ρ',fun j hj=>hin j (ao _ hj),?_,?_,e,fun σ' F' so' k=>q σ' F' so' ((Keeps.set (hin i av)).trans k)⟩
   ·refine so.setI ?_;show Rep X.K H (BI F (gJ d g)) v d;unfold gJ;by_cases hi:imm d=true
    ·rw[if_pos hi];exact Rep.immB d hi h1
    ·rw[if_neg hi];exact h1
   ·exact h2.weak fun a b=>by cases g<;>exact b
theorem zle {is:List Nat}{es:List Expr}{k:Nat}{n:Nat}(hc:X.calm=true)(h:PGs X es (tDGs X.K is is))(hn:(dj es X.env).length=n)(hst:(dj es X.env).findIdx? (·.1)=none)(hl:is.length=n):PG X (.Tuple es k pos) (tDG X.K (.tp is)):=
 fun pins s σ H v u Q I ru zz=>by
  obtain⟨ρ,F,x,ρ',so,r,e,q⟩:=zz;obtain⟨g,d⟩:=x
  have hlen:∀(is:List Nat) (ds:List D) (ρ ρ1:Rho),z27 ρ is ds g=some ρ1->is.length=ds.length:=by
   intro is
   induction is with
   |nil=>intro ds ρ ρ1 h;cases ds with
    |nil=>rfl
    |cons _ _=>cases h
   |cons i is ih=>intro ds ρ ρ1 h;cases ds with
    |nil=>cases h
    |cons d ds=>rw[ay,ay,ih ds _ _ h]
  have got:∀ds:List D,Res.ofO (z27 ρ is ds g)=.ok ρ'->z27 ρ is ds g=some ρ':=fun ds e=>by
   cases e1:z27 ρ is ds g with
   |none=>rw[e1]at e;cases e
   |some ρ1=>rw[e1]at e;rw[Res.ok.inj e]
  cases d<;>try (cases e;done)
  case tuple ds=>have e1:=got ds e;obtain⟨a,vs,rfl,h1,h2⟩:=r;exact zfy hc h hn hst pins s σ H _ u Q I ru ⟨a,vs,rfl,h1,by rw[h2.length,<-hlen _ _ _ _ e1];exact hl,ρ,F,g,ds,ρ',fun _ h=>h,so,h2,e1,q⟩
  case list ds=>
   have e1:=got ds e;obtain⟨a,vs,rfl,h1,h2⟩:=r
   have h3:SqL X.K H a vs:=by
    rcases h1 with⟨h1,_⟩|⟨h1|h1,_⟩
    ·exact .inl (.inl h1)
    ·exact .inl (.inr h1)
    ·exact .inr h1
   exact zi8 hc h hn hst pins s σ H _ u Q I ru ⟨a,vs,rfl,h3,by rw[h2.length,<-hlen _ _ _ _ e1];exact hl,ρ,F,g,ds,ρ',fun _ h=>h,so,h2,e1,q⟩
theorem StOk.blk {K:W.Frag}{F:Fm}{H:Hp}{σ:L2.St}{ρ:Rho}(so:StOk K F H σ ρ)(nt:Nat)(js:List Nat)(l:Addr)(xs:List V)(hl:H l=none):
  StOk K {F with V:=fun a=>F.V a/\a≠l,O:=fun _=>none} (upd H l (.lst xs)) (emb nt js σ) (ai nt none++js.map fun j=>toAl (ρ.getD j none)) where
 ext:=fun a o e=>by have:=so.ext a o e;rw[z01 (z08 this hl)];exact this
 vis:=fun a e=>by
  by_cases h:a=l
  ·subst h;rw[z02]at e;cases e
  ·rw[z01 h]at e;exact⟨so.vis a e,h⟩
 own:=fun a i e=>by cases e
 len:=by unfold emb;simp
 sl:=fun i g d e=>by
  have hB:∀(a:Ad),visA F a/\¬nw H a->visA {F with V:=fun a=>F.V a/\a≠l,O:=fun _=>none} a:=fun a h=>by
   cases a with
   |none=>exact h.1
   |some a=>exact⟨h.1,fun z=>h.2 (by rw[z];exact hl)⟩
  have hB2:∀(a:Ad),oldA F a/\¬nw H a->oldA {F with V:=fun a=>F.V a/\a≠l,O:=fun _=>none} a:=fun a h=>by
   cases a with
   |none=>exact h.1
   |some a=>exact⟨h.1.1,h.1.2,fun z=>h.2 (by rw[z];exact hl)⟩
  rw[jp]at e;split at e
  ·rw[bo]at e;split at e<;>cases e
  ·rename_i hi;rw[bq]at hi e;rw[az]at e;cases ej:js[i-nt]? with
   |none=>rw[ej]at e;cases e
   |some j=>
    rw[ej]at e;have e1:toAl (ρ.getD j none)=some (g,d):=Option.some.inj e;cases er:ρ[j]? with
    |none=>rw[ca,er]at e1;cases e1
    |some o=>
     rw[ca,er]at e1;cases o with
     |none=>cases e1
     |some gd=>
      obtain⟨g0,d0⟩:=gd;obtain⟨v,h1,h2⟩:=so.sl j g0 d0 er;refine⟨v,?_,?_⟩
      ·unfold emb;rw[fg (by rw[bq];omega),bq,az,ej];show some (σ.getD j none)=_;rw[ca,h1];rfl
      ·cases g0 with
       |fr=>cases e1;exact Rep.same (Same.upd hl) hB (Rep.there _ (h2.rep so.ownV))
       |od=>cases e1;exact Rep.same (Same.upd hl) hB2 (Rep.there _ h2)
       |al=>cases e1;exact Rep.same (Same.upd hl) hB (Rep.there _ h2)
       |nu=>cases e1;exact Rep.same (Same.upd hl) hB (Rep.there _ (h2.rep so.ownV))
theorem z2u {f:D->Res (Option GD)}:∀(l m:List D) (r:List GD),z1q f (l++m)=.ok r->∃r1 r2,z1q f l=.ok r1/\z1q f m=.ok r2/\r=r1++r2
 | [],m,r,h=>⟨[],r,rfl,h,rfl⟩
 |x::l,m,r,h=>by
  obtain⟨o,e1,h⟩:=Res.bind_ok h;obtain⟨r',e2,h⟩:=Res.bind_ok h;obtain⟨r1,r2,h1,h2,h3⟩:=z2u l m r' e2;subst h3;cases h;refine⟨oc o r1,r2,?_,h2,?_⟩
  ·show(f x>>=fun o=>z1q f l>>=fun r=>Res.ok (oc o r))=_;rw[e1,Res.ok_bind,h1,Res.ok_bind]
  ·cases o<;>rfl
theorem RGs.snoc {K:W.Frag}{F:Fm}{H H':Hp}:∀{vs:List V} {xs:List GD} {v:V} {x:GD},RGs K F H H' vs xs->Rep K H' (BG F H x.1) v x.2->RGs K F H H' (vs++[v]) (xs++[x])
 |vs,[],v,x,r,h=>by have e:vs=[]:=r;subst e;exact⟨v,[],rfl,h,rfl⟩
 |vs,y::ys,v,x,r,h=>by obtain⟨u,t,e,h1,q⟩:=r;subst e;exact⟨u,t++[v],rfl,h1,q.snoc h⟩
theorem RGs.keep {K:W.Frag}{F:Fm}{H H1 H2:Hp}(hk:∀a o (g:G),H1 a=some o->(BG F H g (some a)\/Fix o)->H2 a=some o):∀{vs:List V} {xs:List GD},RGs K F H H1 vs xs->RGs K F H H2 vs xs
 |vs,[],r=>r
 |vs,y::ys,r=>by obtain⟨u,t,e,h1,q⟩:=r;exact⟨u,t,e,Rep.keep (fun a o e b=>hk a o y.1 e b) (fun _ z=>z) _ h1,q.keep hk⟩
theorem RGs.len {K:W.Frag}{F:Fm}{H H':Hp}:∀{vs:List V} {xs:List GD},RGs K F H H' vs xs->vs.length=xs.length
 |vs,[],r=>by have e:vs=[]:=r;subst e;rfl
 |vs,y::ys,r=>by obtain⟨u,t,e,h1,q⟩:=r;subst e;rw[ay,ay,q.len]
theorem z3y {f:D->Res (Option GD)}:∀(l:List D) (r:List GD),z1q f l=.ok r->r.length<=l.length
 | [],r,h=>by cases h;exact ak _
 |x::l,r,h=>by
  obtain⟨o,e1,h⟩:=Res.bind_ok h;obtain⟨r',e2,h⟩:=Res.bind_ok h;have:=z3y l r' e2;cases h;cases o with
  |none=>exact cb this (by simp)
  |some y=>simp only[oc,ay];omega
def z77 (nt:Nat)(js:List Nat)(t:Tg)(fw:Rho->Res (G×List D))(fc:Rho->Res Bool)(fe:Rho->Res GD):Rho->Res GD:=fun ρ=>fw ρ>>=fun w=>z1q (fun x=>z0v t (gJ x w.1,x) (ai nt none++js.map fun j=>toAl (ρ.getD j none))>>=fun ρ1=>fc ρ1>>=fun k=>if k then fe ρ1>>=fun y=>.ok (some y)else .ok none) w.2>>=fun ys=>.ok (gCo ys,.list (ys.map (·.2)))
def lcB (g:TG)(tc:TT)(te:TE)(em:L2.St->L2.St)(σ:L2.St)(Q:VK):It->Hp->Prop:=fun J H1=>∀l,H1 l=none->∃P:Nat->Nat->List V->Hp->Prop,(∃m,P 0 m [] (upd H1 l (.lst [])))/\∀i m acc H2,P i m acc H2->(J.stop i H2/\Q (.ref l) H2)\/(J.go i H2/\acc.length<ah/\∃N:List V->Hp->Prop,(∀acc' H',N acc' H'->∃m',m'<m/\P (i+1) m' acc' H')/\∀x H3,J.yld i H2 x H3->g x (em σ) H3 fun σ4 H4=>Keep (em σ) σ4/\tc σ4 H4 fun b H5=>if b=true then te σ4 H5 fun y H6=>H6 l=some (.lst acc)/\N (acc++[y]) (upd H6 l (.lst (acc++[y])))else N acc H5)
abbrev CI (K:W.Frag)(F:Fm)(f:D->Res (Option GD))(ds:List D)(H1:Hp)(l:Nat)(i:Nat)(acc:List V)(H2:Hp):Prop:=H2 l=some (.lst acc)/\(∀a o,H1 a=some o->H2 a=some o)/\∃ys,z1q f (ds.take i)=.ok ys/\RGs K F (upd H1 l (.lst [])) H2 acc ys
theorem z76 {nt:Nat}{js:List Nat}{t:Tg}{fw:Rho->Res (G×List D)}{fc:Rho->Res Bool}{fe:Rho->Res GD}(ht0:∀i∈tgIx t,i<nt){σ:L2.St}{H:Hp}{Q:VK}{ρ:Rho}{F:Fm}{z:GD}(so:StOk X.K F H σ ρ)(e:z77 nt js t fw fc fe ρ=.ok z)(q:∀v H',Same H H'->Rep X.K H' (BG F H z.1) v z.2->Q v H'):
  ∃w,fw ρ=.ok w/\∀J B H',Same H H'->(∀a,B a->BG F H w.1 a/\¬nw H' a)->Walk X.K J B H' w.2->lcB (tDG X.K t) (tDT X.K fc) (tD X.K fe) (emb nt js) σ Q J H':=by
 obtain⟨w,e1,e⟩:=Res.bind_ok e;obtain⟨ysA,e2,e⟩:=Res.bind_ok e;cases e;refine⟨w,e1,fun J B H1 s1 hB wk l hl=>?_⟩;generalize hr:(ai nt none++js.map fun j=>toAl (ρ.getD j none))=ρ0 at e2;generalize hf:(fun x=>z0v t (gJ x w.1,x) ρ0>>=fun ρ1=>fc ρ1>>=fun k=>if k then fe ρ1>>=fun y=>Res.ok (some y)else .ok none)=f at e2;have so1:=so.same s1;have hpre:∀i,∃ys,z1q f (w.2.take i)=.ok ys:=fun i=>by rw[<-List.take_append_drop i w.2]at e2;obtain⟨r1,r2,h1,_,_⟩:=z2u _ _ _ e2;exact⟨r1,h1⟩
 let Fb:Fm:={F with V:=fun a=>F.V a/\a≠l,O:=fun _=>none}
 refine zml (n:=w.2.length) (CI X.K Fb f w.2 H1 l) wk.len ?_ ?_ ?_ ?_ ?_
 ·exact⟨z02,fun a o e=>by rw[z01 (z08 e hl)];exact e,[],rfl,rfl⟩
 ·rintro i acc H2 ⟨_,_,ys,hy,rs⟩
  rw[rs.len];have:=z3y _ _ hy;rw[gf]at this;omega
 ·rintro acc H2 ⟨h1,h2,ys,hy,rs⟩
  rw[List.take_length]at hy;rw[e2]at hy;cases hy;have kp:Kp B H1 H2:=fun a o e _=>h2 a o e;refine⟨wk.stop H2 kp,q _ _ (fun a o e=>h2 a o (s1 a o e)) ?_⟩;have hHl:H l=none:=s1.none hl;refine⟨l,acc,rfl,.inl ⟨h1,?_⟩,rs.reps fun x hx a hb=>?_⟩
  ·show BG F H (gCo ysA) (some l);unfold gCo;split
   ·exact hHl
   ·exact so.vis l hHl
  ·unfold gCo;by_cases ea:(ysA.all fun x=>x.1==.fr)=true
   ·rw[if_pos ea];have hx1:x.1=.fr:=by simpa using br.mp ea x hx
    rw[hx1]at hb;cases a with
    |none=>exact hb
    |some a=>
     have hb':upd H1 l (.lst []) a=none:=hb
     have:H1 a=none:=by
      by_cases hal:a=l
      ·subst hal;exact hl
      ·rw[z01 hal]at hb';exact hb'
     exact s1.none this
   ·rw[if_neg ea];have:visA Fb a:=BG.vis (F:=Fb) (H:=upd H1 l (.lst [])) (fun a e=>((so1.blk nt js l [] hl).vis a e)) hb;cases a with
    |none=>exact this
    |some a=>exact this.1
 ·rintro i acc H2 hi ⟨_,h2,_⟩
  exact wk.go H2 (fun a o e _=>h2 a o e) i hi
 ·rintro i acc H2 x H3 hi ⟨h1,h2,ys,hy,rs⟩ y
  obtain⟨s3,d,hd,rx⟩:=wk.yld H2 (fun a o e _=>h2 a o e) i x H3 hi y;obtain⟨ys',hy'⟩:=hpre (i+1);have htk:w.2.take (i+1)=w.2.take i++[d]:=by rw[List.take_add_one,hd];rfl
  rw[htk]at hy';obtain⟨r1,r2,g1,g2,g3⟩:=z2u _ _ _ hy';rw[hy]at g1;cases g1;obtain⟨o,g4,g2⟩:=Res.bind_ok g2;obtain⟨r3,g5,g2⟩:=Res.bind_ok g2;cases g5;rw[<-hf]at g4;obtain⟨ρ1,k1,g4⟩:=Res.bind_ok g4;obtain⟨k,k2,g4⟩:=Res.bind_ok g4
  have sb:StOk X.K Fb H3 (emb nt js σ) ρ0:=by
   rw[<-hr];refine(so1.blk nt js l acc hl).same fun a o e=>s3 a o ?_;by_cases hal:a=l
   ·subst hal;rw[z02]at e;rw[h1];exact e
   ·rw[z01 hal]at e;exact h2 a o e
  have rx':Rep X.K H3 (BI Fb (gJ d w.1)) x d:=by
   unfold gJ;by_cases hi:imm d=true
   ·rw[if_pos hi];exact Rep.immB d hi rx
   ·rw[if_neg hi];refine rx.weak fun a b=>?_;obtain⟨b1,b2⟩:=hB a b;have b3:=BI.of so.vis b1;cases a with
    |none=>cases hw:w.1<;>rw[hw]at b3<;>exact b3
    |some a=>
     have hal:a≠l:=fun z=>b2 (by show H1 a=none;rw[z];exact hl);cases hw:w.1<;>rw[hw]at b3
     ·exact⟨b3,hal⟩
     ·exact⟨b3.1,b3.2,hal⟩
     ·exact⟨b3,hal⟩
     ·exact⟨b3,hal⟩
  refine⟨_,Fb,(gJ d w.1,d),ρ1,sb,rx',k1,fun σ4 F4 so4 kps=>⟨⟨kps.len.symm,fun j v hj=>?_⟩,ρ1,F4,k,so4,k2,fun H5 s5=>?_⟩⟩
  ·by_cases hjt:j∈tgIx t
   ·have :=ht0 j hjt;unfold emb at hj;rw[fj (by rw[bq];exact this),bo,if_pos this]at hj;cases hj
   ·rw[kps.rest j hjt];exact hj
  ·have h5:∀a o,H1 a=some o->H5 a=some o:=fun a o e=>s5 a o (s3 a o (h2 a o e));have h5l:H5 l=some (.lst acc):=s5 _ _ (s3 _ _ h1);have rs5:RGs X.K Fb (upd H1 l (.lst [])) H5 acc ys:=rs.keep fun a o g e _=>s5 a o (s3 a o e);cases k with
   |false=>cases g4;cases g2;refine iteF ⟨h5l,h5,ys,?_,rs5⟩;rw[htk,hy',g3];simp[oc]
   |true=>
    obtain⟨yv,k3,g4⟩:=Res.bind_ok g4;cases g4;cases g2;refine iteT ⟨ρ1,F4,yv,so4.same s5,k3,fun v H6 s6 rv=>⟨s6 _ _ h5l,z02,fun a o e=>?_,ys++[yv],?_,?_⟩⟩
    ·rw[z01 (z08 e hl)];exact s6 a o (h5 a o e)
    ·rw[htk,hy',g3];rfl
    ·have h6l:=s6 _ _ h5l
     have hk:∀a o (g:G),H6 a=some o->(BG Fb (upd H1 l (.lst [])) g (some a)\/Fix o)->upd H6 l (.lst (acc++[v])) a=some o:=fun a o g e b=>by
      have hal:a≠l:=by
       intro z;subst z;rcases b with b|b
       ·cases g with
        |fr=>have b':upd H1 a (.lst []) a=none:=b;rw[z02]at b';cases b'
        |od=>exact b.2.2 rfl
        |al=>exact b.2 rfl
        |nu=>
         rcases b with b|b
         ·have b':upd H1 a (.lst []) a=none:=b;rw[z02]at b';cases b'
         ·exact b.2.2.2 rfl
       ·rw[h6l]at e;cases e;exact b
      rw[z01 hal];exact e
     have rs6:RGs X.K Fb (upd H1 l (.lst [])) H6 acc ys:=rs5.keep fun a o g e _=>s6 a o e
     have rv':Rep X.K H6 (BG Fb (upd H1 l (.lst [])) yv.1) v yv.2:=by
      refine rv.weak fun a b=>?_;cases hg:yv.1 with
      |fr=>
       rw[hg]at b;cases a with
       |none=>exact b
       |some a=>
        have b':H5 a=none:=b;show upd H1 l (.lst []) a=none;have hal:a≠l:=fun z=>by rw[z,h5l]at b';cases b'
        rw[z01 hal];cases e1:H1 a with
        |none=>rfl
        |some o=>rw[h5 a o e1]at b';cases b'
      |nu=>
       rw[hg]at b;cases a with
       |none=>exact b
       |some a=>
        rcases b with b|b
        ·have b':H5 a=none:=b;refine .inl ?_;show upd H1 l (.lst []) a=none;have hal:a≠l:=fun z=>by rw[z,h5l]at b';cases b'
         rw[z01 hal];cases e1:H1 a with
         |none=>rfl
         |some o=>rw[h5 a o e1]at b';cases b'
        ·refine .inr ⟨rfl,?_,?_⟩
         ·have:=b.2.1;rw[kps.h0]at this;exact this
         ·have:=b.2.2;rw[kps.v]at this;exact this
      |od=>
       rw[hg]at b;cases a with
       |none=>have b1:F4.z:=b;rw[kps.z]at b1;exact b1
       |some a=>have b1:F4.H0 a≠none/\F4.V a:=b;rw[kps.h0,kps.v]at b1;exact b1
      |al=>
       rw[hg]at b;cases a with
       |none=>have b1:F4.z:=b;rw[kps.z]at b1;exact b1
       |some a=>have b1:F4.V a:=b;rw[kps.v]at b1;exact b1
     exact(rs6.snoc rv').keep hk
theorem z8p {nt:Nat}{js:List Nat}{t:Tg}{fw:Rho->Res (G×List D)}{fc:Rho->Res Bool}{fe:Rho->Res GD}(ht0:∀i∈tgIx t,i<nt):∀σ H Q,tD X.K (z77 nt js t fw fc fe) σ H Q->tLC (tDW X.K fw) (tDG X.K t) (tDT X.K fc) (tD X.K fe) (emb nt js) σ H Q:=by intro σ H Q h;obtain⟨ρ,F,z,so,e,q⟩:=h;obtain⟨w,e1,h⟩:=z76 (X:=X) (js:=js) (fw:=fw) (fc:=fc) (fe:=fe) ht0 so e q;exact⟨ρ,F,w,so,e1,h⟩
theorem zco {scope:Scope}{N':List Str}{nt:Nat}{js:List Nat}{t:Tg}{iter elt:Expr}{ifs:List Expr}{fw:Rho->Res (G×List D)}{fc:Rho->Res Bool}{fe:Rho->Res GD}(hc:X.calm=true)(Bk:BlkScope X scope N' nt js)(ht0:∀i∈tgIx t,i<nt)(hi:PI X tg iter (tDW X.K fw))
  (hg:∀C fp s H,PG (blk X scope N' C fp s H) tg (tDG X.K t)) (ht:∀C fp s H,PTs (blk X scope N' C fp s H) ifs (tDT X.K fc)) (he:∀C fp s H,PE (blk X scope N' C fp s H) elt (tD X.K fe)) (hs:∀x,dr iter X.env x=pure x):
  PE X (.ListComp elt [⟨tg,iter,ifs,0⟩] scope pos) (tD X.K (z77 nt js t fw fc fe))/\∀σ H Q,tD X.K (z77 nt js t fw fc fe) σ H Q->tLC (tDW X.K fw) (tDG X.K t) (tDT X.K fc) (tD X.K fe) (emb nt js) σ H Q:=by
 have main:=z8p (X:=X) (js:=js) (fw:=fw) (fc:=fc) (fe:=fe) ht0;exact⟨PE.imp (zbs hc Bk hi hg ht he hs) main,main⟩
end
def BC (H:Hp)(A:Ad->Prop):G->Ad->Prop
 |.fr=>nw H
 |.od=>fun a=>nw H a\/A a
 |.al=>fun a=>nw H a\/A a
 |.nu=>nw H
def spD (K:W.Frag)(n:Nat)(m:Fn):Sp:=fun vs H Q _=>∃A ds x,vs.length=n/\Reps K H A vs ds/\m ds=.ok x/\∀v H',Same H H'->Rep K H' (BC H A x.1) v x.2->Q v H'
section
variable {X:Cx}{tg a b c e o:Expr}{es:List Expr}{fa fb fc:Rho->Res GD}{pos:Pos}
theorem zc3 {x:Str}{k k' n:Nat}{ps:List Str}{m:Fn}{fs:Rho->Res (List GD)}{p:Pos}(Cc:Cal X.prog X.w X.K X.mg X.base k x ps (spD X.K n m))(hr:Room k' X.A)(hk:k<=k')(ha:PA X (e::es) (tDA X.K fs))(hst:((e::es).all fun e=> !isStar e)=true)(hg:Gl X x)(hdb:(x==("__debug__":Str))=false)
  (hl:∀ρ ys,fs ρ=.ok ys->ys.length=n):PE X (.Call (.Name x p) (e::es) [] pos) (tD X.K fun ρ=>fs ρ>>=fun ys=>m (ys.map (·.2))>>=fun r=>.ok (gJ r.2 (rtG r.1),r.2)):=
 PE.imp (zbj Cc hr ha hst hk hg hdb) fun σ H Q zz=>by
  obtain⟨ρ,F,z,so,e,q⟩:=zz;obtain⟨ys,e1,e⟩:=Res.bind_ok e;obtain⟨r,e2,e⟩:=Res.bind_ok e;cases e;refine⟨ρ,F,ys,so,e1,fun vs H1 s1 rs=>?_⟩;show spD X.K n m (vs++[]) H1 Q E0;rw[fq];refine⟨_,_,r,by rw[rs.len];exact hl ρ ys e1,rs.repsV so.vis,e2,fun v H2 s2 rv=>q v H2 (s1.trans s2) (z24 rv fun a h=>?_)⟩;have al:(nw H1 a\/visA F a)->visA F a:=fun h=>h.elim (fun h=>(nw.back s1 h).vis so.vis) fun h=>h;cases hg:r.1 with
  |fr=>rw[hg]at h;exact nw.back s1 h
  |od=>rw[hg]at h;exact al h
  |al=>rw[hg]at h;exact al h
  |nu=>rw[hg]at h;exact nw.back s1 h
def rMt (K:W.Frag)(m:String):V->List V->Hp->VK->Prop:=fun x xs H Q=>∃B B' dx ds d,Rep K H B x dx/\Reps K H B' xs ds/\mtD m dx ds=.ok d/\∀w H',Same H H'->Rep K H' (fun a=>nw H a\/B a\/B' a) w d->Q w H'
theorem z18 {o:Expr}{n:Str}{env:Env}{w:Sem Value}(h:z0q o=true):gc o n env w=w:=by
 unfold gc;split
 ·rename_i id p pos;cases h
 ·rfl
theorem z5v {pos:Pos}{env:Env}:∀{es:List Expr},(es.all fun e=> !isStar e)=true->(fi pos (bv es env)).all (fun x=> !x.1)=true
 | [],_=>rfl
 |e::es,h=>by have h:=aq.mp (bn▸h);rw[z04 (by simpa using h.1)];show(true&&(fi pos (bv es env)).all (fun x=>!x.1))=true;rw[z5v h.2];rfl
theorem z28 {cpos:Pos}{env:Env}{es:List Expr}(h:(es.all fun e=> !isStar e)=true)(hl:es.length<20):((fi cpos (bv es env)).all (fun x=> !x.1)&&(kh cpos (ja [] env)).all (fun x=>x.1.isSome)
  &&decide (es.length+([]:List i3).length+(if([]:List i3).isEmpty then 0 else 1)<30))=true:=by
 rw[z5v h];show(true&&true&&decide (es.length+0+0<30))=true;rw[decide_eq_true (by omega)];rfl
theorem d_mt {m T id:String}{n:Str}{apos cpos:Pos}{fs:Rho->Res (List GD)}(pa:o0 T)(slot:PySem.Slot T n id)(hty:o5 (.builtin id)=pure (.type "method_descriptor"))(hm:MtR X id (rMt X.K m))(hT:∀H B x dx ds d,Rep X.K H B x dx->mtD m dx ds=.ok d->tyV X.K T x H)
  (ho:PE X o (tD X.K fa)) (ha:PA X (e::es) (tDA X.K fs)) (hns:z0q o=true) (hst:((e::es).all fun e=>!isStar e)=true) (hl:(e::es).length<20) (hline:(apos.endLine==cpos.line)=true):
  PE X (.Call (.Attribute o n apos) (e::es) [] cpos) (tD X.K fun ρ=>fa ρ>>=fun x=>fs ρ>>=fun ys=>mtD m x.2 (ys.map (·.2))>>=fun d=>.ok (gJ d .al,d)):=by
 have hst':=hst;rw[bn,aj]at hst';refine PE.imp (z75 pa slot hty hm ho ha (z18 hns) (z28 hst hl) hline (z04 (by simpa using hst'.1)) (z0b hst'.2)) fun σ H Q zz=>?_;obtain⟨ρ,F,z,so,e,q⟩:=zz;obtain⟨x,e1,e⟩:=Res.bind_ok e;obtain⟨ys,e2,e⟩:=Res.bind_ok e;obtain⟨d,e3,e⟩:=Res.bind_ok e;cases e;refine⟨ρ,F,x,so,e1,fun v H1 s1 rv=>⟨hT H1 _ v x.2 _ d rv e3,ρ,F,ys,so.same s1,e2,fun vs H2 s2 rs=>?_⟩⟩;refine⟨_,_,x.2,_,d,rv.same s2 fun _ z=>z,rs.repsV (so.same s1).vis,e3,fun w H3 s3 rw'=>q w H3 ((s1.trans s2).trans s3) (z24 rw' fun a h=>?_)⟩;rcases h with h|h|h
 ·exact(nw.back (s1.trans s2) h).vis so.vis
 ·exact h.vis so.vis
 ·exact h
theorem z4k {K:W.Frag}{H:Hp}{B:Ad->Prop}:∀{ds:List D} {ss:List Str} {vs:List V} {us:List Value},allS ds=some ss->Reps K H B vs ds->Vals vs us->StrsAre us ss/\∀s∈ss,PyData.strOk s=true
 | [],ss,vs,us,e,r,q=>by cases e;have e1:vs=[]:=r;subst e1;cases q;exact⟨.nil,fun _ h=>nomatch h⟩
 |d::ds,ss,vs,us,e,r,q=>by
  cases d<;>try (cases e;done)
  rename_i z;change(allS ds).map (z:: ·)=_ at e;cases e1:allS ds with
  |none=>rw[e1]at e;cases e
  |some ss'=>
   rw[e1]at e;cases e;obtain⟨v,t,rfl,h1,h2⟩:=r;have ev:v=.str z:=h1.1;subst ev;cases q with
   |cons q1 q2=>
    obtain⟨tk,rfl⟩:=q1;obtain⟨i1,i2⟩:=z4k e1 h2 q2;refine⟨.cons z tk i1,fun s hs=>?_⟩;rcases(a9.mp hs)with rfl|hs
    ·exact h1.2
    ·exact i2 s hs
theorem zak (z:Str)(ss:List Str):Txt.join z ss=z3h z ss:=by
 have go:∀(r:List Str) (acc:Array Nat),(r.foldl (fun acc p=>acc++z.cps++p.cps) acc).toList=acc.toList++(r.map fun p=>z.cps.toList++p.cps.toList).flatten:=by
  intro r
  induction r with
  |nil=>intro acc;simp
  |cons p r ih=>intro acc;rw[lf,ih];simp
 show n4 z ss=_;unfold n4 z3h z8u;cases ss with
 |nil=>rfl
 |cons x r=>
  have:=go r x.cps;show(⟨r.foldl (fun acc p=>acc++z.cps++p.cps) x.cps⟩:Str)=⟨(x.cps.toList++(r.map fun p=>z.cps.toList++p.cps.toList).flatten).toArray⟩
  congr 1
  rw[<-this,jo]
theorem z7k {z:Str}{ss:List Str}(hz:PyData.strOk z=true)(h:∀s∈ss,PyData.strOk s=true):PyData.strOk (z3h z ss)=true:=
 z0r.mpr fun c hc=>by
  have hc':c∈z8u z.cps.toList ss:=by simpa[z3h]using hc
  cases ss with
  |nil=>simp[z8u]at hc'
  |cons x r=>
   simp only[z8u,et,kj,d6]at hc';rcases hc' with hc'|⟨l,⟨p,hp,rfl⟩,hc'⟩
   ·exact z0r.mp (h x av) c hc'
   ·rcases et.mp hc' with hc'|hc'
    ·exact z0r.mp hz c hc'
    ·exact z0r.mp (h p (ao _ hp)) c hc'
theorem zhp:MtR X "str.join" (rMt X.K "join"):=by
 intro pins s σ H x xs v us Q I rx rs h;obtain⟨B,B',dx,ds,d,r1,r2,e,q⟩:=h;simp only[mtD,show("join":String)≠"get" by decide,if_true,if_false]at e;split at e
 ·rename_i z ys;split at e
  case h_2=>cases e
  rename_i ss hss;split at e
  case isFalse=>cases e
  rename_i hw;cases e;obtain⟨vl,rfl,h1⟩:=z59 r2;obtain⟨a,vs,rfl,hq,rl⟩:=z14 h1;obtain⟨u,rfl,ru⟩:=vals1 rs;cases ru;have ex:x=.str z:=r1.1;subst ex;obtain⟨t,rfl⟩:=rx;obtain⟨its,rv,pl,_⟩:=I.list hq;obtain⟨sa,ok⟩:=z4k hss rl rv;refine join_list pl.isList (by simpa using sa) (cb hw (by unfold LIM;decide)) fun t' k=>?_;rw[zak];exact⟨.str _,H,I.tok _,⟨_,rfl⟩,q _ H (Same.refl H) ⟨rfl,z7k r1.2 ok⟩⟩
 ·cases e
theorem zd5 {H:Hp}{B:Ad->Prop}{x:V}{dx d:D}{ds:List D}(r:Rep X.K H B x dx)(e:mtD "join" dx ds=.ok d):tyV X.K "str" x H:=by
 simp only[mtD,show("join":String)≠"get" by decide,if_true,if_false]at e;split at e
 ·have ex:x=.str _:=r.1;subst ex;exact rfl
 ·cases e
end
section
variable {X:Cx}{o:Expr}{fa:Rho->Res GD}
end
section
variable {X:Cx}{o e:Expr}{fa fb:Rho->Res GD}
theorem z9i:CallR X (.type "int") (fun xs H Q=>∃x,xs=[.str x]/\figs x.cps.toList=true/\x.length<=600/\Q (.int (digV x.cps.toList:Int)) H):=by
 intro pins s σ H xs us Q I r h;obtain⟨x,rfl,hf,hl,q⟩:=h;obtain⟨u,rfl,t,rfl⟩:=vals1 r;unfold figs at hf;rw[aq]at hf;have hd:NumText.AllDigits x.cps.toList:=fun c hc=>by have:=br.mp hf.2 c hc;rw[aq,decide_eq_true_iff,decide_eq_true_iff]at this;exact this
 have hn:=intText_digits hd (fun z=>by rw[z]at hf;cases hf.1) (by omega);exact W.KIN.call_text hn (by omega) ⟨.int _,H,I.tok _,⟨_,rfl⟩,q⟩
end
def Frm (F:Fm)(H:Hp)(F':Fm)(H':Hp):Prop:=∀a o,H a=some o->F.O a=none->H' a=some o/\F'.O a=none
theorem Frm.refl {F:Fm}{H:Hp}:Frm F H F H:=fun _ _ e o=>⟨e,o⟩
theorem Frm.trans {F F' F'':Fm}{H H' H'':Hp}(a:Frm F H F' H')(b:Frm F' H' F'' H''):Frm F H F'' H'':=fun x o e n=>by obtain⟨e1,n1⟩:=a x o e n;exact b x o e1 n1
theorem Frm.same {F:Fm}{H H':Hp}(s:Same H H'):Frm F H F H':=fun a o e n=>⟨s a o e,n⟩
def Run (F F':Fm):Prop:=Same F.H0 F'.H0/\F'.V=F.V/\F'.z=F.z
theorem Run.refl {F:Fm}:Run F F:=⟨fun _ _ e=>e,rfl,rfl⟩
theorem Run.trans {F F' F'':Fm}(a:Run F F')(b:Run F' F''):Run F F'':=⟨fun x o e=>b.1 x o (a.1 x o e),b.2.1.trans a.2.1,b.2.2.trans a.2.2⟩
theorem Run.of {F F':Fm}(h:F'.H0=F.H0)(v:F'.V=F.V)(z:F'.z=F.z):Run F F':=⟨fun _ _ e=>by rw[h];exact e,v,z⟩
def BR (F:Fm):G->Ad->Prop
 |.fr=>fun a=>match a with|some a=>F.H0 a=none|none=>False
 |.od=>visA F
 |.al=>visA F
 |.nu=>fun a=>match a with|some a=>F.H0 a=none|none=>False
def z2a (K:W.Frag)(F:Fm)(H:Hp)(D:Ends):Out->Prop
 |.nx ρ'=>∀σ' H' F',StOk K F' H' σ' ρ'->Run F F'->Frm F H F' H'->D.nx σ' H'
 |.bk ρ'=>∀σ' H' F',StOk K F' H' σ' ρ'->Run F F'->Frm F H F' H'->D.bk σ' H'
 |.ct ρ'=>∀σ' H' F',StOk K F' H' σ' ρ'->Run F F'->Frm F H F' H'->D.ct σ' H'
 |.rt g d=>∀v H',(∀a o,F.H0 a=some o->H' a=some o)->Rep K H' (BR F g) v d->D.rt v H'
def tDS (K:W.Frag)(f:Rho->Res Out):TS:=fun D σ H=>∃ρ F out,StOk K F H σ ρ/\f ρ=.ok out/\z2a K F H D out
theorem none_of {H H':Hp}{a:Addr}(s:Same H H')(h:H' a=none):H a=none:=by
 cases e:H a with
 |none=>rfl
 |some o=>rw[s a o e]at h;cases h
theorem BR.run {F F':Fm}(r:Run F F'){g:G}{a:Ad}(h:BR F' g a):BR F g a:=by obtain⟨r1,r2,r3⟩:=r;cases g<;>cases a<;>first|exact h|(exact none_of r1 h)|(have h':F'.V _:=h;rw[r2]at h';exact h')|(have h':F'.z:=h;rw[r3]at h';exact h')
theorem z2a.back {K:W.Frag}{F F':Fm}{H H':Hp}{D:Ends}{out:Out}(r:Run F F')(f:Frm F H F' H')(h:z2a K F H D out):z2a K F' H' D out:=by
 cases out with
 |nx ρ'=>exact fun σ'' H'' F'' so r2 f2=>h σ'' H'' F'' so (r.trans r2) (f.trans f2)
 |bk ρ'=>exact fun σ'' H'' F'' so r2 f2=>h σ'' H'' F'' so (r.trans r2) (f.trans f2)
 |ct ρ'=>exact fun σ'' H'' F'' so r2 f2=>h σ'' H'' F'' so (r.trans r2) (f.trans f2)
 |rt g d=>exact fun v H'' k rv=>h v H'' (fun a o e=>k a o (r.1 a o e)) (rv.weak fun _ b=>b.run r)
section
variable {X:Cx}{tg a b c e:Expr}{es:List Expr}{fa fb fc:Rho->Res GD}{pos:Pos}{st:Stmt}{rest A Bs:List Stmt}{fs gs:Rho->Res Out}
theorem zk8:PSs X [] (tDS X.K fun ρ=>.ok (.nx ρ)):=PSs.imp z7x fun D σ H ⟨ρ,F,out,so,e,q⟩=>by cases e;exact q σ H F so Run.refl Frm.refl
theorem zl4 (h1:PS X st (tDS X.K fs))(h2:PSs X rest (tDS X.K gs)):PSs X (st::rest) (tDS X.K fun ρ=>outB (fs ρ) gs):=
 PSs.imp (z3f h1 h2) fun D σ H zz=>by
  obtain⟨ρ,F,out,so,e,q⟩:=zz;have e:outB (fs ρ) gs=.ok out:=e;cases e1:fs ρ with
  |no=>rw[e1]at e;cases e
  |exc x=>rw[e1]at e;cases e
  |ok o1=>
   rw[e1]at e;cases o1 with
   |nx ρ1=>exact⟨ρ,F,.nx ρ1,so,e1,fun σ' H' F' so' r f=>⟨ρ1,F',out,so',e,q.back r f⟩⟩
   |bk ρ1=>cases e;exact⟨ρ,F,.bk ρ1,so,e1,q⟩
   |ct ρ1=>cases e;exact⟨ρ,F,.ct ρ1,so,e1,q⟩
   |rt g d=>cases e;exact⟨ρ,F,.rt g d,so,e1,q⟩
theorem s_if {ft:Rho->Res Bool}(hc:PT X c (tDT X.K ft))(ha:PSs X A (tDS X.K fs))(hb:PSs X Bs (tDS X.K gs)):PS X (.If c A Bs pos) (tDS X.K fun ρ=>ft ρ>>=fun k=>if k then fs ρ else gs ρ):=
 PS.imp (zdi hc ha hb) fun D σ H zz=>by
  obtain⟨ρ,F,out,so,e,q⟩:=zz;obtain⟨k,e1,e⟩:=Res.bind_ok e;refine⟨ρ,F,k,so,e1,fun H1 s1=>?_⟩;cases k with
  |true=>exact iteT ⟨ρ,F,out,so.same s1,e,q.back Run.refl (Frm.same s1)⟩
  |false=>exact iteF ⟨ρ,F,out,so.same s1,e,q.back Run.refl (Frm.same s1)⟩
theorem zgn {K:W.Frag}{F:Fm}{H H':Hp}{g:G}{v:V}{d:D}(so:∀a o,F.H0 a=some o->H a=some o)(hv:∀a,H a=none->F.V a)(r:Rep K H' (BG F H g) v d):Rep K H' (BR F (rtG g)) v d:=by
 refine r.weak fun a b=>?_;cases g with
 |fr=>
  cases a with
  |none=>exact b
  |some a=>show F.H0 a=none;exact Same.none so b
 |od=>exact oldA.vis b
 |al=>exact b
 |nu=>
  cases a with
  |none=>exact b.elim id id
  |some a=>exact b.elim (fun b=>Same.none so b) fun b=>b.2.1
theorem zju (ha:PE X e (tD X.K fa)):PS X (.Return (some e) pos) (tDS X.K fun ρ=>fa ρ>>=fun x=>.ok (.rt (rtG x.1) x.2)):=PS.imp (z6m ha) fun D σ H zz=>by obtain⟨ρ,F,out,so,e,q⟩:=zz;obtain⟨x,e1,e⟩:=Res.bind_ok e;cases e;exact⟨ρ,F,x,so,e1,fun v H1 s1 rv=>q v H1 (fun a o e=>s1 a o (so.ext a o e)) (zgn so.ext so.vis rv)⟩
theorem Slot.ret {K:W.Frag}{F:Fm}{H:Hp}{i:Nat}{g:G}{v:V}{d:D}(so:∀a i,F.O a=some i->F.H0 a=none/\F.V a)(h:Slot K F H i g v d):Rep K H (BR F (if imm d then .fr else rtG g)) v d:=by
 by_cases hi:imm d=true
 ·rw[if_pos hi];exact Rep.immB d hi (h.rep fun a i e=>(so a i e).2)
 ·rw[if_neg hi];cases g with
  |fr=>
   obtain⟨p,e,o,h⟩:=h
   have hb:∀a,Bin F a->BR F .fr a:=fun a b=>by
    cases a with
    |none=>exact b
    |some a=>exact b.2.1
   rcases h with⟨vs,ds,rfl,e2,r⟩|⟨vs,ds,rfl,e2,r⟩
   ·exact⟨p,vs,e,.inl ⟨e2,(so _ _ o).1⟩,r.weak hb⟩
   ·exact⟨p,vs,e,e2,(so _ _ o).1,REs.same (fun _ _ e=>e) hb r⟩
  |od=>exact Rep.weak (fun _ b=>b.vis) h
  |al=>exact h
  |nu=>
   refine Rep.weak (fun a b=>?_) h;cases a with
   |none=>exact b
   |some a=>exact b.2.1
theorem zc4 {i:Nat}{x:Str}{p:Pos}(hN:X.N[i]?=some x)(hv:Vis X.env.scope x)(hd:(x==("__debug__":Str))=false)(hcd:(x==("__classdict__":Str))=false):
  PS X (.Return (some (.Name x p)) pos) (tDS X.K fun ρ=>match ρ[i]? with|some (some (g,d))=>.ok (.rt (if imm d then .fr else rtG g) d)|_=>.no):=
 PS.imp (z6m (z15 hN hv hd hcd)) fun D σ H zz=>by
  obtain⟨ρ,F,out,so,e,q⟩:=zz;have e:(match ρ[i]? with|some (some (g,d))=>Res.ok (Out.rt (if imm d then .fr else rtG g) d)|_=>.no)=.ok out:=e;cases e1:ρ[i]? with
  |none=>rw[e1]at e;cases e
  |some o=>
   rw[e1]at e;cases o with
   |none=>cases e
   |some gd=>obtain⟨g,d⟩:=gd;cases e;obtain⟨v,h1,h2⟩:=so.sl i g d e1;exact⟨v,h1,q v H so.ext (h2.ret fun a i e=>⟨(so.own a i e).1,(so.own a i e).2.1⟩)⟩
theorem zgd (hs:z0k e=false)(ha:PE X e (tD X.K fa)):PS X (.Expr e pos) (tDS X.K fun ρ=>fa ρ>>=fun _=>.ok (.nx ρ)):=PS.imp (ps_e ha hs) fun D σ H zz=>by obtain⟨ρ,F,out,so,e,q⟩:=zz;obtain⟨x,e1,e⟩:=Res.bind_ok e;cases e;exact⟨ρ,F,x,so,e1,fun v H1 s1 rv=>q σ H1 F (so.same s1) Run.refl (Frm.same s1)⟩
theorem REs.immB {K:W.Frag}{H:Hp}{B B':Ad->Prop}:∀{kvs:List (Key×V)} (es:Ents),immE es=true->REs K H B kvs es->REs K H B' kvs es
 |kvs,[],_,r=>r
 |kvs,(kd,d)::es,i,r=>by unfold immE at i;rw[bn,aj]at i;obtain⟨k,v,t,e,e2,ok,h,q⟩:=r;exact⟨k,v,t,e,e2,ok,Rep.immB d i.1 h,REs.immB es i.2 q⟩
theorem StOk.nwBin {K:W.Frag}{F:Fm}{H:Hp}{σ:L2.St}{ρ:Rho}(so:StOk K F H σ ρ){a:Ad}(h:nw H a):Bin F a:=by
 cases a with
 |none=>exact h
 |some a=>
  have h:H a=none:=h;refine⟨?_,Same.none so.ext h,so.vis a h⟩;cases e1:F.O a with
  |none=>rfl
  |some j=>obtain⟨_,_,z⟩:=so.own a j e1;rcases z with⟨xs,z⟩|⟨xs,z⟩<;>rw[h]at z<;>cases z
theorem StOk.setN {K:W.Frag}{F:Fm}{H:Hp}{σ:L2.St}{ρ:Rho}{d:D}{v:V}{i:Nat}(so:StOk K F H σ ρ)(r:Rep K H (Bin F) v d):StOk K (F.drop i) H (σ.set i (some v)) (ρ.set i (some (.nu,d))):=by
 have z:=so.setI (i:=i) (x:=(.al,d)) (v:=v) (Rep.weak (fun _ b=>Bin.vis b) r);refine⟨z.ext,z.vis,z.own,by rw[bx,bx];exact so.len,fun j g d' e=>?_⟩;by_cases hj:i=j
 ·subst hj;rw[cy]at e;simp only[if_true]at e;split at e
  ·rename_i hl;cases e;exact⟨v,by rw[cy];simp[so.len,hl],Rep.weak (fun _ b=>b.drop) r⟩
  ·cases e
 ·refine z.sl j g d' ?_;rw[bd hj]at e ⊢;exact e
def Fm.take (F:Fm)(i:Nat)(p:Addr):Fm:={F with O:=fun a=>if a=p then some i else if F.O a=some i then none else F.O a}
theorem Frm.drop {F:Fm}{H H':Hp}{i:Nat}(s:Same H H'):Frm F H (F.drop i) H':=fun a o e n=>⟨s a o e,Fm.drop_none n⟩
theorem StOk.setA {K:W.Frag}{F:Fm}{H H1:Hp}{σ:L2.St}{ρ:Rho}{x:GD}{v:V}{i:Nat}(so:StOk K F H σ ρ)(s1:Same H H1)(r:Rep K H1 (BG F H x.1) v x.2):
  ∃F',StOk K F' H1 (σ.set i (some v)) (ρ.set i (some (z0z x)))/\Run F F'/\Frm F H F' H1:=by
 have so1:=so.same s1;obtain⟨g,d⟩:=x
 have plain:z0z (g,d)=z1w (if imm d then .al else rdG g,d)->∃F',StOk K F' H1 (σ.set i (some v)) (ρ.set i (some (z0z (g,d))))/\Run F F'/\Frm F H F' H1:=fun e=>by
  rw[e];refine⟨F.drop i,so1.setI ?_,Run.of rfl rfl rfl,Frm.drop s1⟩;show Rep K H1 (BI F (if imm d then .al else rdG g)) v d;by_cases hi:imm d=true
  ·rw[if_pos hi];exact Rep.immB d hi r
  ·rw[if_neg hi];cases g with
   |fr=>exact r.weak fun _ b=>nw.vis so.vis b
   |od=>exact r
   |al=>exact r
   |nu=>exact r.weak fun _ b=>b.elim (nw.vis so.vis) Bin.vis
 have nuc:z0z (g,d)=(.nu,d)->(∀a,BG F H g a->Bin F a)->∃F',StOk K F' H1 (σ.set i (some v)) (ρ.set i (some (z0z (g,d))))/\Run F F'/\Frm F H F' H1:=fun e hb=>by rw[e];exact⟨F.drop i,so1.setN (Rep.weak hb r),Run.of rfl rfl rfl,Frm.drop s1⟩
 have own:∀(p:Addr),F.O p=none->H p=none->F.H0 p=none->F.V p->v=.ref p->z0z (g,d)=(.fr,d)->(∀F':Fm,(∀a,Bin F a\/nw H a->a≠some p->Bin F' a)->F'.O p=some i->Slot K F' H1 i .fr v d)->(((∃xs,H1 p=some (.lst xs))\/∃kvs,H1 p=some (.dK kvs)))->
   ∃F',StOk K F' H1 (σ.set i (some v)) (ρ.set i (some (z0z (g,d))))/\Run F F'/\Frm F H F' H1:=fun p hOp hHp hH0 hVp ev es hsl hobj=>by
  have hdr:∀a,a≠p->(F.take i p).O a=(F.drop i).O a:=fun a ha=>by show(if a=p then some i else _)=_;rw[if_neg ha];rfl
  have hnw:∀a,H a=none->F.O a=none:=fun a e=>by
   cases e1:F.O a with
   |none=>rfl
   |some j=>obtain⟨_,_,h⟩:=so.own a j e1;rcases h with⟨xs,h⟩|⟨xs,h⟩<;>rw[e]at h<;>cases h
  have hnw0:∀a,H a=none->F.H0 a=none:=fun a e=>Same.none so.ext e
  have hbin:∀a,Bin F a\/nw H a->a≠some p->Bin (F.take i p) a:=fun a b hne=>by
   cases a with
   |none=>exact b.elim id id
   |some a=>have hap:a≠p:=fun z=>hne (by rw[z]);have hb:F.O a=none/\F.H0 a=none/\F.V a:=b.elim id fun b=>⟨hnw a b,hnw0 a b,so.vis a b⟩;exact⟨by rw[hdr a hap];exact Fm.drop_none hb.1,hb.2⟩
  have hOp':(F.take i p).O p=some i:=by show(if p=p then some i else _)=_;rw[if_pos rfl]
  refine⟨F.take i p,⟨so1.ext,so1.vis,fun a j e=>?_,by rw[bx,bx];exact so.len,fun j g' d' e=>?_⟩,Run.of rfl rfl rfl,fun a o e n=>⟨s1 a o e,?_⟩⟩
  ·by_cases hap:a=p
   ·subst hap;exact⟨hH0,hVp,hobj⟩
   ·rw[hdr a hap]at e
    have e':F.O a=some j:=by
     have:(if F.O a=some i then none else F.O a)=some j:=e;split at this
     ·cases this
     ·exact this
    exact so1.own a j e'
  ·by_cases hj:i=j
   ·subst hj;rw[cy]at e;simp only[if_true]at e;split at e
    ·rename_i hl;have e1:z0z (g,d)=(g',d'):=by simpa using e
     rw[es]at e1;cases e1;exact⟨v,by rw[cy];simp[so.len,hl],hsl _ hbin hOp'⟩
    ·cases e
   ·rw[bd hj]at e ⊢;obtain⟨u,h1,h2⟩:=so.sl j g' d' e;refine⟨u,h1,?_⟩;cases g' with
    |fr=>
     obtain⟨p',e1,o1,h3⟩:=h2;have hpp:p'≠p:=fun z=>by rw[z,hOp]at o1;cases o1
     refine⟨p',e1,?_,?_⟩
     ·rw[hdr p' hpp];show(if F.O p'=some i then none else F.O p')=some j;rw[o1,if_neg (fun z=>hj (Option.some.inj z).symm)]
     ·have hb':∀(a:Ad),Bin F a/\¬nw H a->Bin (F.take i p) a:=fun a b=>hbin a (.inl b.1) fun z=>b.2 (by rw[z];exact hHp);rcases h3 with⟨vs,ds,e3,e2,r3⟩|⟨vs,ds,e3,e2,r3⟩
      ·exact .inl ⟨vs,ds,e3,s1 _ _ e2,Reps.same s1 hb' (Reps.there _ r3)⟩
      ·exact .inr ⟨vs,ds,e3,s1 _ _ e2,REs.same s1 hb' (REs.there _ r3)⟩
    |od=>exact Rep.same s1 (fun _ b=>b) h2
    |al=>exact Rep.same s1 (fun _ b=>b) h2
    |nu=>exact Rep.same s1 (fun a b=>hbin a (.inl b.1) fun z=>b.2 (by rw[z];exact hHp)) (Rep.there _ h2)
  ·have hap:a≠p:=fun z=>by rw[z,hHp]at e;cases e
   rw[hdr a hap];exact Fm.drop_none n
 have hOn:∀p,H p=none->F.O p=none:=fun p hHp=>by
  cases e1:F.O p with
  |none=>rfl
  |some j=>obtain⟨_,_,h'⟩:=so.own p j e1;rcases h' with⟨xs,h'⟩|⟨xs,h'⟩<;>rw[hHp]at h'<;>cases h'
 by_cases hi:imm d=true
 ·exact plain (by show(if imm d then _ else _)=_;rw[if_pos hi];show _=z1w (if imm d then _ else _,d);rw[if_pos hi];rfl)
 ·cases g with
  |od=>exact plain (by delta z0z;simp only[if_neg hi];rfl)
  |al=>exact plain (by delta z0z;simp only[if_neg hi];cases d<;>rfl)
  |nu=>exact nuc (by delta z0z;simp only[if_neg hi]) fun a b=>b.elim so.nwBin id
  |fr=>
   cases d with
   |none=>exact absurd rfl hi
   |bool b=>exact absurd rfl hi
   |int b=>exact absurd rfl hi
   |str b=>exact absurd rfl hi
   |tuple ds=>exact nuc (by delta z0z;simp only[if_neg hi]) fun a b=>so.nwBin b
   |list ds=>
    by_cases him:imms ds=true
    ·obtain⟨p,vs,ev,h,rs⟩:=r;rcases h with⟨h,b⟩|⟨_,b⟩
     ·have hHp:H p=none:=b;exact own p (hOn p hHp) hHp (Same.none so.ext hHp) (so.vis p hHp) ev (by delta z0z;simp only[if_neg hi,if_pos him]) (fun F' hb ho=>⟨p,ev,ho,.inl ⟨vs,ds,rfl,h,Reps.immB ds him rs⟩⟩) (.inl ⟨vs,h⟩)
     ·exact b.elim
    ·exact nuc (by delta z0z;simp only[if_neg hi,if_neg him]) fun a b=>so.nwBin b
   |dict es=>
    by_cases him:immE es=true
    ·obtain⟨p,kvs,ev,h,b,rs⟩:=r;have hHp:H p=none:=b;exact own p (hOn p hHp) hHp (Same.none so.ext hHp) (so.vis p hHp) ev (by delta z0z;simp only[if_neg hi,if_pos him]) (fun F' hb ho=>⟨p,ev,ho,.inr ⟨kvs,es,rfl,h,REs.immB es him rs⟩⟩) (.inr ⟨kvs,h⟩)
    ·exact nuc (by delta z0z;simp only[if_neg hi,if_neg him]) fun a b=>so.nwBin b
theorem zc6 {K:W.Frag}{i:Nat}{te:TE}(h:∀σ H Q,tD K fa σ H Q->te σ H Q)(D:Ends)(σ:L2.St)(H:Hp)(q:tDS K (fun ρ=>fa ρ>>=fun x=>.ok (.nx (ρ.set i (some (z0z x))))) D σ H):te σ H fun v H1=>D.nx (σ.set i (some v)) H1:=by obtain⟨ρ,F,out,so,e,q⟩:=q;obtain⟨x,e1,e⟩:=Res.bind_ok e;cases e;refine h σ H _ ⟨ρ,F,x,so,e1,fun v H1 s1 rv=>?_⟩;obtain⟨F',so',r,f⟩:=so.setA (i:=i) s1 rv;exact q _ H1 F' so' r f
theorem zj6 {i:Nat}{x:Str}{px:Pos}(hN:X.N.Nodup)(hi:X.N[i]?=some x)(hx:Loc X.env.scope x)(hf:X.fn x=true\/X.env.scope.names.lookup x=some .local)(hs:i8 e (some (.Name x px)) pos.line X.env=pure false)(ha:PE X e (tD X.K fa)):
  PS X (.Assign [.Name x px] e pos) (tDS X.K fun ρ=>fa ρ>>=fun x=>.ok (.nx (ρ.set i (some (z0z x))))):=
 PS.imp (zcj hN hi hx ha hs hf) fun D σ H q=>zc6 (fun _ _ _ h=>h) D σ H q
theorem ziw {is:List Nat}{te:Expr}(hg:PG X te (tDG X.K (.tp is)))(ha:PE X e (tD X.K fa))(hs:ml [te] e pos.line X.env=pure false)(hw:mo [te] e X.env=pure none)(h1:(dj [te] X.env).map (·.2)=[kq te X.env]):
  PS X (.Assign [te] e pos) (tDS X.K fun ρ=>fa ρ>>=fun x=>z0v (.tp is) x ρ>>=fun ρ'=>.ok (.nx ρ')):=
 PS.imp (zhq ha hg hs hw h1) fun D σ H zz=>by obtain⟨ρ,F,out,so,e,q⟩:=zz;obtain⟨x,e1,e⟩:=Res.bind_ok e;obtain⟨ρ',e2,e⟩:=Res.bind_ok e;cases e;refine⟨ρ,F,x,so,e1,fun v H1 s1 rv=>⟨ρ,F,x,ρ',so.same s1,rv.weak fun _ b=>BI.of so.vis b,e2,fun σ' F' so' kps=>?_⟩⟩;exact q σ' H1 F' so' (Run.of kps.h0 kps.v kps.z) fun a o e n=>⟨s1 a o e,kps.o a n⟩
theorem StOk.settle {K:W.Frag}{F:Fm}{H:Hp}{σ:L2.St}{ρ:Rho}(so:StOk K F H σ ρ)(hn:noOwn ρ=true):StOk K ⟨H,F.V,fun _=>none,F.z⟩ H σ (ρ.map Mi.settle):=by
 refine⟨fun _ _ e=>e,so.vis,fun a i e=>(by cases e),(by rw[aw];exact so.len),fun i g d e=>?_⟩;rw[az]at e;cases e2:ρ[i]? with
 |none=>rw[e2]at e;cases e
 |some sl=>
  rw[e2]at e;have e3:Mi.settle sl=some (g,d):=Option.some.inj e;have hf:=br.mp hn sl (bu e2);cases sl with
  |none=>cases e3
  |some x=>
   obtain⟨g0,d0⟩:=x
   have old:∀{B:Ad->Prop} {v:V},(∀a,B a->visA F a)->Rep K H B v d0->Rep K H (oldA ⟨H,F.V,fun _=>none,F.z⟩) v d0:=fun hB h=>(Rep.there d0 h).weak fun a b=>by
    obtain⟨b1,b2⟩:=b;cases a with
    |none=>exact hB _ b1
    |some a=>exact⟨b2,hB _ b1⟩
   obtain⟨v,hv,h⟩:=so.sl i g0 d0 e2;cases g0 with
   |fr=>cases hf
   |od=>cases e3;exact⟨v,hv,old (fun a b=>by cases a with|none=>exact b|some a=>exact b.2) h⟩
   |nu=>cases e3;exact⟨v,hv,old (fun a b=>Bin.vis b) h⟩
   |al=>
    cases hi:imm d0 with
    |true=>
     have e4:Mi.settle (some (.al,d0))=some (.al,d0):=by show(if imm d0=true then _ else _)=_;rw[hi];rfl
     rw[e4]at e3;cases e3;exact⟨v,hv,h⟩
    |false=>
     have e4:Mi.settle (some (.al,d0))=some (.od,d0):=by show(if imm d0=true then _ else _)=_;rw[hi];rfl
     rw[e4]at e3;cases e3;exact⟨v,hv,old (fun _ b=>b) h⟩
theorem StOk.settleA {K:W.Frag}{F:Fm}{H:Hp}{σ:L2.St}{ρ:Rho}(so:StOk K F H σ ρ):StOk K ⟨H,F.V,fun _=>none,F.z⟩ H σ (ρ.map Mi.settleA):=by
 refine⟨fun _ _ e=>e,so.vis,fun a i e=>(by cases e),(by rw[aw];exact so.len),fun i g d e=>?_⟩;rw[az]at e;cases e2:ρ[i]? with
 |none=>rw[e2]at e;cases e
 |some sl=>
  rw[e2]at e;have e3:Mi.settleA sl=some (g,d):=Option.some.inj e;cases sl with
  |none=>cases e3
  |some x=>
   obtain⟨g0,d0⟩:=x;obtain⟨v,hv,h⟩:=so.sl i g0 d0 e2;have r:=h.rep fun a i e=>(so.own a i e).2.1;have e3:(if imm d0 then some (G.al,d0)else some (G.od,d0))=some (g,d):=e3;refine⟨v,hv,?_⟩;split at e3
   ·cases e3;exact r
   ·cases e3
    exact Rep.weak (B':=oldA ⟨H,F.V,fun _=>none,F.z⟩) (fun a b=>by
     obtain⟨b1,b2⟩:=b;cases a with
     |none=>exact b1
     |some a=>exact⟨b2,b1⟩) (Rep.there _ r)
theorem z1x {K:W.Frag}{F:Fm}{H H1:Hp}{σ:L2.St}{ρ:Rho}{y:GD}{u:V}(so:StOk K F H σ ρ)(h:okIn y=true)(r:Rep K H1 (BG F H y.1) u y.2):Rep K H1 (Bin F) u y.2:=by
 obtain⟨g,d⟩:=y;rcases dh.mp h with hi|hg
 ·exact Rep.immB d hi r
 rcases dh.mp hg with h|h
 ·cases eq_of_beq h;exact Rep.weak (fun a b=>so.nwBin b) r
 ·cases eq_of_beq h;exact Rep.weak (fun a b=>b.elim so.nwBin id) r
theorem StOk.mutate {K:W.Frag}{F:Fm}{H:Hp}{σ:L2.St}{ρ:Rho}{i:Nat}{p:Addr}{d':D}{o':HO}(so:StOk K F H σ ρ)(hO:F.O p=some i)(hσ:σ[i]?=some (some (.ref p)))(ho':(∃xs,o'=.lst xs)\/∃kvs,o'=.dK kvs)
  (hs:Slot K F (upd H p o') i .fr (.ref p) d'):StOk K F (upd H p o') σ ((ρ.set i (some (.fr,d'))).map z16)/\Frm F H F (upd H p o'):=by
 obtain⟨h0,hV,hobj⟩:=so.own p i hO;have hne:∀a,F.O a=none->a≠p:=fun a e z=>by rw[z,hO]at e;cases e
 have hfix:∀a o,H a=some o->Fix o->a≠p:=fun a o e f z=>by subst z;rcases hobj with⟨xs,h⟩|⟨xs,h⟩<;>rw[e]at h<;>cases h<;>exact f
 have frm:Frm F H F (upd H p o'):=fun a o e n=>⟨by rw[z01 (hne a n)];exact e,n⟩;refine⟨⟨fun a o e=>?_,fun a e=>?_,fun a j e=>?_,by rw[aw,bx];exact so.len,fun j g d e=>?_⟩,frm⟩
 ·have hap:a≠p:=fun z=>by rw[z,h0]at e;cases e
  rw[z01 hap];exact so.ext a o e
 ·by_cases hap:a=p
  ·subst hap;exact hV
  ·rw[z01 hap]at e;exact so.vis a e
 ·obtain⟨x1,x2,x3⟩:=so.own a j e;refine⟨x1,x2,?_⟩;by_cases hap:a=p
  ·subst hap;rw[z02];rcases ho' with⟨xs,rfl⟩|⟨xs,rfl⟩
   ·exact .inl ⟨xs,rfl⟩
   ·exact .inr ⟨xs,rfl⟩
  ·rw[z01 hap];exact x3
 ·rw[az]at e;by_cases hj:i=j
  ·subst hj;have hl:i<ρ.length:=by rw[<-so.len];exact(a8.mp hσ).1
   rw[cy]at e;simp only[if_true,hl]at e;have e1:z16 (some (.fr,d'))=some (g,d):=by simpa using e
   cases e1;exact⟨_,hσ,hs⟩
  ·rw[bd hj]at e;cases e2:ρ[j]? with
   |none=>rw[e2]at e;cases e
   |some sl=>
    rw[e2]at e;have e3:z16 sl=some (g,d):=by simpa using e
    cases sl with
    |none=>cases e3
    |some gd=>
     obtain⟨g0,d0⟩:=gd;obtain⟨v,h1,h2⟩:=so.sl j g0 d0 e2;refine⟨v,h1,?_⟩;cases g0 with
     |fr=>
      cases e3;obtain⟨p',e4,o4,h3⟩:=h2;have hpp:p'≠p:=fun z=>by rw[z,hO]at o4;exact hj (Option.some.inj o4)
      have hk:∀a o,H a=some o->(Bin F (some a)\/Fix o)->upd H p o' a=some o:=fun a o e b=>by have:a≠p:=b.elim (fun b=>hne a b.1) fun f=>hfix a o e f;rw[z01 this];exact e
      refine⟨p',e4,o4,?_⟩;rcases h3 with⟨vs,ds,e5,e6,r⟩|⟨vs,ds,e5,e6,r⟩
      ·exact .inl ⟨vs,ds,e5,by rw[z01 hpp];exact e6,Reps.keep hk (fun _ z=>z) ds r⟩
      ·exact .inr ⟨vs,ds,e5,by rw[z01 hpp];exact e6,REs.keep hk (fun _ z=>z) ds r⟩
     |od=>cases e3;exact Rep.keep (fun a o e b=>by have:a≠p:=b.elim (fun b z=>by have b1:F.H0 a≠none/\F.V a:=b;rw[z]at b1;exact b1.1 h0) fun f=>hfix a o e f;rw[z01 this];exact e) (fun _ z=>z) _ h2
     |nu=>cases e3;exact Rep.keep (fun a o e b=>by have:a≠p:=b.elim (fun b=>hne a b.1) fun f=>hfix a o e f;rw[z01 this];exact e) (fun _ z=>z) _ h2
     |al=>
      change(if imm d0 then some (G.al,d0)else none)=_ at e3;split at e3
      ·rename_i him;cases e3;exact Rep.immK (fun a o e f=>by rw[z01 (hfix a o e f)];exact e) _ him h2
      ·cases e3
theorem z19 {K:W.Frag}{F:Fm}{H:Hp}{σ:L2.St}{ρ:Rho}{i:Nat}{d:D}(so:StOk K F H σ ρ)(e:ρ[i]?=some (some (.fr,d))):∃p,σ[i]?=some (some (.ref p))/\F.O p=some i/\((∃vs ds,d=.list ds/\H p=some (.lst vs)/\Reps K H (Bin F) vs ds)\/(∃kvs es,d=.dict es/\H p=some (.dK kvs)/\REs K H (Bin F) kvs es)):=by obtain⟨v,h1,p,rfl,o,h⟩:=so.sl i .fr d e;exact⟨p,h1,o,h⟩
def mutF (m:String)(i:Nat)(fs:Rho->Res (List GD)):Rho->Res Out:=fun ρ=>fs ρ>>=fun ys=>match ρ[i]? with
 |some (some (.fr,.list xs))=>mutD m xs ys>>=fun xs'=>.ok (.nx ((ρ.set i (some (.fr,.list xs'))).map z16))
 |_=>.no
theorem zbn {i:Nat}{x:Str}{p ap cp:Pos}{fs:Rho->Res (List GD)}(hN:X.N[i]?=some x)(hv:Vis X.env.scope x)(hd:(x==("__debug__":Str))=false)(hcd:(x==("__classdict__":Str))=false)(ha:PA X (e::es) (tDA X.K fs))(hst:((e::es).all fun e=>!isStar e)=true)(hl:(e::es).length<20)(hline:(ap.endLine==cp.line)=true):
  PS X (.Expr (.Call (.Attribute (.Name x p) "append" ap) (e::es) [] cp) pos) (tDS X.K (mutF "append" i fs)):=by
 have hst':=hst;rw[bn,aj]at hst';refine PS.imp (ps_e (z75 PySem.F.plainAttrs_list PySem.F.slot_list_append PySem.F.type_list_append z1p (z15 hN hv hd hcd) ha rfl (z28 hst hl) hline (z04 (by simpa using hst'.1)) (z0b hst'.2)) rfl) fun D σ H zz=>?_;obtain⟨ρ,F,out,so,e,q⟩:=zz;obtain⟨ys,e1,e⟩:=Res.bind_ok e;split at e
 ·rename_i xs hr;obtain⟨xs',e2,e⟩:=Res.bind_ok e;cases e;obtain⟨pa,h1,hO,h⟩:=z19 so hr;rcases h with⟨vs,ds,e3,e4,r⟩|⟨_,_,e3,_⟩
  ·cases e3;refine⟨_,h1,.inl ⟨rfl,vs,SqL.of e4⟩,ρ,F,ys,so,e1,fun us H1 s1 rs=>?_⟩;simp only[mutD,if_true]at e2;split at e2
   ·rename_i y;split at e2
    case isFalse=>cases e2
    rename_i hc;cases e2;rw[aq,decide_eq_true_iff]at hc;obtain⟨u,rfl,ru⟩:=rs.one;have so1:=so.same s1;have e5:=s1 _ _ e4;refine⟨pa,vs,u,rfl,rfl,e5,z0c (by rw[r.length];omega),?_⟩
    have r':Reps X.K (upd H1 pa (.lst (vs++[u]))) (Bin F) (vs++[u]) (xs++[y.2]):=by
     have r0:Reps X.K H1 (Bin F) (vs++[u]) (xs++[y.2]):=Reps.append (r.same s1 fun _ z=>z) ⟨u,[],rfl,z1x so hc.1 ru,rfl⟩;refine Reps.keep (fun a o e b=>?_) (fun _ z=>z) _ r0
     have hap:a≠pa:=by
      intro z;subst z;rcases b with b|b
      ·have b1:F.O a=none:=b.1;rw[hO]at b1;cases b1
      ·rw[e5]at e;cases e;exact b
     rw[z01 hap];exact e
    obtain⟨so2,f2⟩:=so1.mutate (o':=.lst (vs++[u])) (d':=.list (xs++[y.2])) hO h1 (.inl ⟨_,rfl⟩) ⟨pa,rfl,hO,.inl ⟨_,_,rfl,z02,r'⟩⟩;exact q σ _ F so2 Run.refl ((Frm.same s1).trans f2)
   ·cases e2
  ·cases e3
 ·cases e
end
section
variable {X:Cx}{e:Expr}{es:List Expr}{pos:Pos}
def rIns:V->List V->Hp->VK->Prop:=fun x vs H Q=>∃l xs i y,x=.ref l/\vs=[.int i,y]/\H l=some (.lst xs)/\0<=i/\i<=(xs.length:Int)/\xs.length<ah/\Q .non (upd H l (.lst (xs.take i.toNat++y::xs.drop i.toNat)))
theorem zdr {its:List Value}{u:Value}{i:Int}(h0:0<=i)(h1:i<=(its.length:Int)):(fun ws:Array Value=>have k:=if i<0 then(i+(ws.size:Int)).toNat else min i.toNat ws.size;(ws.extract 0 k).push u++ws.extract k) its.toArray=(its.take i.toNat++u::its.drop i.toNat).toArray:=by
 have hk:min i.toNat its.length=i.toNat:=Nat.min_eq_left (by omega);show(fun k=>(its.toArray.extract 0 k).push u++its.toArray.extract k) (if i<0 then(i+(its.toArray.size:Int)).toNat else min i.toNat its.toArray.size)=_;rw[if_neg (by omega),ae,hk]
 dsimp only
 apply Array.ext';simp[List.extract_eq_take_drop];exact la (by rw[ij];exact ak _)
theorem zi1:MtM X "list.insert" rIns:=by intro pins s σ H x vs v us Q I rx rv h;obtain⟨l,xs,i,y,rfl,rfl,hH,h0,h1,hz,q⟩:=h;cases rx;obtain⟨a,u,rfl,ra,ru⟩:=rv.two;obtain⟨t,rfl⟩:=ra;obtain⟨z,its,n,r,hl,e⟩:=I.lstM hH;have hsl:=dq;refine gn F.slot_list_insert ⟨_,e,rfl⟩ F.entry_list_insert (F.args_list_insert_3 _ _ _) (AutoSeq1.list_insert_list_int_val_1 l its.toArray n i t u (by rw[l6 (by omega) (by omega)];decide) (by rw[ae];omega)) ⟨e,?_⟩;refine⟨.non,_,I.lset (its':=its.take i.toNat++u::its.drop i.toNat) hH e (zdr h0 (by omega)) ((r.take _).append (.cons ru (r.drop _))) ?_,rfl,q⟩;rw[ba,gf,ay,ij];omega
theorem z90 {F:Fm}{H H1:Hp}{σ:L2.St}{ρ:Rho}{i:Nat}{pa:Addr}{vs ws:List V}{zs:List D}{D:Ends}(so:StOk X.K F H σ ρ)(s1:Same H H1)(hO:F.O pa=some i)(h1:σ[i]?=some (some (.ref pa)))(e4:H pa=some (.lst vs))(r0:Reps X.K H1 (Bin F) ws zs)
  (q:z2a X.K F H D (.nx ((ρ.set i (some (.fr,.list zs))).map z16))):D.nx σ (upd H1 pa (.lst ws)):=by
 have e5:=s1 _ _ e4
 have r':Reps X.K (upd H1 pa (.lst ws)) (Bin F) ws zs:=by
  refine Reps.keep (fun a o e b=>?_) (fun _ z=>z) _ r0
  have hap:a≠pa:=by
   intro z;subst z;rcases b with b|b
   ·have b1:F.O a=none:=b.1;rw[hO]at b1;cases b1
   ·rw[e5]at e;cases e;exact b
  rw[z01 hap];exact e
 obtain⟨so2,f2⟩:=(so.same s1).mutate (o':=.lst ws) (d':=.list zs) hO h1 (.inl ⟨_,rfl⟩) ⟨pa,rfl,hO,.inl ⟨_,_,rfl,z02,r'⟩⟩;exact q σ _ F so2 Run.refl ((Frm.same s1).trans f2)
theorem zjm {xs xs':List D}{ys:List GD}(h:putAt xs ys=.ok xs'):∃g i y,ys=[(g,.int i),y]/\okIn y=true/\xs.length<LIM/\0<=i/\i<=(xs.length:Int)/\xs'=xs.take i.toNat++y.2::xs.drop i.toNat:=by
 unfold putAt at h;split at h
 ·rename_i x y;obtain⟨g,d⟩:=x
  dsimp only at h
  split at h
  ·split at h
   ·rename_i i hc;simp only[aq,decide_eq_true_iff]at hc;cases h;exact⟨g,_,y,rfl,hc.1.1.1,hc.1.1.2,hc.1.2,hc.2,rfl⟩
   ·cases h
  ·cases h
 ·cases h
theorem zfg {xs xs':List D}{ys:List GD}(h:zdh xs ys=.ok xs'):∃g i,ys=[(g,.int i)]/\0<=i/\i<(xs.length:Int)/\xs.length<=LIM/\xs'=xs.eraseIdx i.toNat:=by
 unfold zdh at h;split at h
 ·rename_i x;obtain⟨g,d⟩:=x
  dsimp only at h
  split at h
  ·split at h
   ·rename_i i hc;simp only[aq,decide_eq_true_iff]at hc;cases h;exact⟨g,_,rfl,hc.1.1,hc.1.2,hc.2,rfl⟩
   ·cases h
  ·cases h
 ·cases h
theorem zao {i:Nat}{x:Str}{p ap cp:Pos}{fs:Rho->Res (List GD)}(hN:X.N[i]?=some x)(hv:Vis X.env.scope x)(hd:(x==("__debug__":Str))=false)(hcd:(x==("__classdict__":Str))=false)(ha:PA X (e::es) (tDA X.K fs))(hst:((e::es).all fun e=>!isStar e)=true)(hl:(e::es).length<20)(hline:(ap.endLine==cp.line)=true):
  PS X (.Expr (.Call (.Attribute (.Name x p) "insert" ap) (e::es) [] cp) pos) (tDS X.K (mutF "insert" i fs)):=by
 have hst':=hst;rw[bn,aj]at hst';refine PS.imp (ps_e (z75 PySem.F.plainAttrs_list PySem.F.slot_list_insert PySem.F.type_list_insert zi1 (z15 hN hv hd hcd) ha rfl (z28 hst hl) hline (z04 (by simpa using hst'.1)) (z0b hst'.2)) rfl) fun D σ H zz=>?_;obtain⟨ρ,F,out,so,e,q⟩:=zz;obtain⟨ys,e1,e⟩:=Res.bind_ok e;split at e
 ·rename_i xs hr;obtain⟨xs',e2,e⟩:=Res.bind_ok e;cases e;obtain⟨pa,h1,hO,h⟩:=z19 so hr;rcases h with⟨vs,ds,e3,e4,r⟩|⟨_,_,e3,_⟩
  ·cases e3;refine⟨_,h1,.inl ⟨rfl,vs,SqL.of e4⟩,ρ,F,ys,so,e1,fun us H1 s1 rs=>?_⟩;simp only[mutD,show("insert":String)≠"append" by decide,if_true,if_false]at e2;obtain⟨g,j,y,rfl,hy,hlen,j0,j1,rfl⟩:=zjm e2;obtain⟨w,u,rfl,rw',ru⟩:=rs.two;have ew:w=.int j:=rw';subst ew;have hlv:=r.length;refine⟨pa,vs,j,u,rfl,rfl,s1 _ _ e4,j0,by omega,z0c (by omega),?_⟩;have r1:=r.same s1 fun _ z=>z;exact z90 so s1 hO h1 e4 (Reps.append (r1.take _) (Reps.cons (z1x so hy ru) (r1.drop _))) q
  ·cases e3
 ·cases e
theorem _root_.Mi.Reps.eraseIdx {K:W.Frag}{H:Hp}{B:Ad->Prop}:∀{vs:List V} {ds:List D} (n:Nat),Reps K H B vs ds->Reps K H B (vs.eraseIdx n) (ds.eraseIdx n)
 |vs,[],n,r=>by have e:vs=[]:=r;subst e;exact rfl
 |vs,d::ds,0,r=>by obtain⟨v,t,e,_,p⟩:=r;subst e;exact p
 |vs,d::ds,n+1,r=>by obtain⟨v,t,e,h,p⟩:=r;subst e;exact⟨v,_,rfl,h,Reps.eraseIdx n p⟩
theorem zdq {i:Nat}{x:Str}{p ap cp:Pos}{fs:Rho->Res (List GD)}(hN:X.N[i]?=some x)(hv:Vis X.env.scope x)(hd:(x==("__debug__":Str))=false)(hcd:(x==("__classdict__":Str))=false)(ha:PA X (e::es) (tDA X.K fs))(hst:((e::es).all fun e=>!isStar e)=true)(hl:(e::es).length<20)(hline:(ap.endLine==cp.line)=true):
  PS X (.Expr (.Call (.Attribute (.Name x p) "pop" ap) (e::es) [] cp) pos) (tDS X.K (mutF "pop" i fs)):=by
 have hst':=hst;rw[bn,aj]at hst';refine PS.imp (ps_e (z75 PySem.F.plainAttrs_list PySem.F.slot_list_pop PySem.F.type_list_pop zaf (z15 hN hv hd hcd) ha rfl (z28 hst hl) hline (z04 (by simpa using hst'.1)) (z0b hst'.2)) rfl) fun D σ H zz=>?_;obtain⟨ρ,F,out,so,e,q⟩:=zz;obtain⟨ys,e1,e⟩:=Res.bind_ok e;split at e
 ·rename_i xs hr;obtain⟨xs',e2,e⟩:=Res.bind_ok e;cases e;obtain⟨pa,h1,hO,h⟩:=z19 so hr;rcases h with⟨vs,ds,e3,e4,r⟩|⟨_,_,e3,_⟩
  ·cases e3;refine⟨_,h1,.inl ⟨rfl,vs,SqL.of e4⟩,ρ,F,ys,so,e1,fun us H1 s1 rs=>?_⟩;simp only[mutD,show("pop":String)≠"append" by decide,show("pop":String)≠"insert" by decide,if_true,if_false]at e2;obtain⟨g,j,rfl,j0,j1,hlen,rfl⟩:=zfg e2;obtain⟨w,rfl,rw'⟩:=rs.one;have ew:w=.int j:=rw';subst ew;have hlv:=r.length;have hj:j.toNat<vs.length:=by omega
   have hL:LIM=1000000:=rfl;refine⟨pa,vs,j,j.toNat,vs[j.toNat],rfl,rfl,s1 _ _ e4,by omega,by omega,?_,bh hj,?_⟩
   ·unfold og;simp only[if_neg (show ¬j<0 by omega)];rw[if_pos (by simp;omega)]
   ·exact z90 so s1 hO h1 e4 ((r.same s1 fun _ z=>z).eraseIdx _) q
  ·cases e3
 ·cases e
end
section
variable {X:Cx}{pos:Pos}
def popF (j i:Nat):Rho->Res Out:=fun ρ=>match ρ[i]? with
 |some (some (.fr,.list xs))=>(match z7h xs with
  |some d=>.ok (.nx (((ρ.set i (some (.fr,.list xs.dropLast))).map z16).set j (some (.al,d))))
  |none=>.no)
 |_=>.no
def papF (i:Nat)(fa:Rho->Res GD)(fr:Rho->Res (List GD)):Rho->Res Out:=fun ρ=>fa ρ>>=fun x=>match ρ[i]? with
 |some (some (.fr,.list xs))=>(match z7h xs with
  |some d=>fr ((ρ.set i (some (.fr,.list xs.dropLast))).map z16)>>=fun zs=>if imm x.2&&imms (zs.map (·.2))&&decide (xs.length<=LIM)then .ok (.nx ((((ρ.set i (some (.fr,.list xs.dropLast))).map z16).set i (some (.fr,.list (xs.dropLast++[.tuple (x.2::d::zs.map (·.2))])))).map z16))else .no
  |none=>.no)
 |_=>.no
theorem z97 {xs:List D}{d:D}(h:z7h xs=some d):xs[xs.length-1]?=some d/\imm d=true:=by
 unfold z7h at h;split at h
 ·rename_i y e;split at h
  ·rename_i hi;cases h;rw[List.getLast?_eq_getElem?]at e;exact⟨e,hi⟩
  ·cases h
 ·cases h
theorem Reps.front {K:W.Frag}{H:Hp}{B:Ad->Prop}{vs:List V}{ds:List D}(r:Reps K H B vs ds):Reps K H B vs.dropLast ds.dropLast:=by rw[lm,lm,r.length];exact r.take _
theorem z7r {F:Fm}{H:Hp}{σ:L2.St}{ρ:Rho}{i:Nat}{pa:Addr}{vs ws:List V}{zs:List D}(so:StOk X.K F H σ ρ)(hO:F.O pa=some i)(h1:σ[i]?=some (some (.ref pa)))(e4:H pa=some (.lst vs))(r0:Reps X.K H (Bin F) ws zs):
  StOk X.K F (upd H pa (.lst ws)) σ ((ρ.set i (some (.fr,.list zs))).map z16)/\Frm F H F (upd H pa (.lst ws)):=by
 have r':Reps X.K (upd H pa (.lst ws)) (Bin F) ws zs:=by
  refine Reps.keep (fun a o e b=>?_) (fun _ z=>z) _ r0
  have hap:a≠pa:=by
   intro z;subst z;rcases b with b|b
   ·have b1:F.O a=none:=b.1;rw[hO]at b1;cases b1
   ·rw[e4]at e;cases e;exact b
  rw[z01 hap];exact e
 exact so.mutate (o':=.lst ws) (d':=.list zs) hO h1 (.inl ⟨_,rfl⟩) ⟨pa,rfl,hO,.inl ⟨_,_,rfl,z02,r'⟩⟩
theorem s_pop {i j:Nat}{x y:Str}{p ap cp px:Pos}(hN:X.N.Nodup)(hj:X.N[j]?=some y)(hy:Loc X.env.scope y)(hf:X.fn y=true\/X.env.scope.names.lookup y=some .local)(hi:X.N[i]?=some x)(hv:Vis X.env.scope x)(hd:(x==("__debug__":Str))=false)(hcd:(x==("__classdict__":Str))=false)(hline:(ap.endLine==cp.line)=true):
  PS X (.Assign [.Name y px] (.Call (.Attribute (.Name x p) "pop" ap) [] [] cp) pos) (tDS X.K (popF j i)):=by
 refine PS.imp (ps_s hN hj hy (z8o PySem.F.plainAttrs_list PySem.F.slot_list_pop PySem.F.type_list_pop zcc (z15 hi hv hd hcd) rfl hline) rfl hf) fun D σ H zz=>?_;obtain⟨ρ,F,out,so,e,q⟩:=zz;unfold popF at e;split at e
 ·rename_i xs hr;split at e
  ·rename_i d hl;cases e;obtain⟨hl,him⟩:=z97 hl;obtain⟨pa,h1,hO,h⟩:=z19 so hr;rcases h with⟨vs,ds,e3,e4,r⟩|⟨_,_,e3,_⟩
   ·cases e3;obtain⟨v,hv1,hv2⟩:=r.get hl;rw[<-r.length]at hv1;obtain⟨so2,f2⟩:=z7r so hO h1 e4 r.front
    have hp:∀a o,H a=some o->Fix o->upd H pa (.lst vs.dropLast) a=some o:=fun a o e f=>by
     have:a≠pa:=fun z=>by subst z;rw[e4]at e;cases e;exact f
     rw[z01 this];exact e
    have so3:=so2.setI (i:=j) (x:=(.al,d)) (v:=v) (Rep.immK hp d him hv2);exact⟨_,h1,.inl ⟨rfl,vs,SqL.of e4⟩,pa,vs,v,rfl,rfl,e4,hv1,q _ _ _ so3 (Run.of rfl rfl rfl) (f2.trans (Frm.drop (Same.refl _)))⟩
   ·cases e3
  ·cases e
 ·cases e
theorem zmd {i:Nat}{x:Str}{p ap cp p2 ap2 cp2 tp:Pos}{kt:Nat}{ea:Expr}{er:List Expr}{fa:Rho->Res GD}{fr:Rho->Res (List GD)}(hi:X.N[i]?=some x)(hv:Vis X.env.scope x)(hd:(x==("__debug__":Str))=false)(hcd:(x==("__classdict__":Str))=false)(hs:isStar ea=false)(ha:PE X ea (tD X.K fa))(hr:PA X er (tDA X.K fr))(hl:∀ρ ys,fr ρ=.ok ys->ys.length<=900)(hline:(ap.endLine==cp.line)=true)(hline2:(ap2.endLine==cp2.line)=true):
  PS X (.Expr (.Call (.Attribute (.Name x p) "append" ap) [.Tuple (ea::.Call (.Attribute (.Name x p2) "pop" ap2) [] [] cp2::er) kt tp] [] cp) pos) (tDS X.K (papF i fa fr)):=by
 refine PS.imp (ps_e (z75 PySem.F.plainAttrs_list PySem.F.slot_list_append PySem.F.type_list_append z1p (z15 hi hv hd hcd) (pa_c (z8c (pa_c ha (pa_c (z8o PySem.F.plainAttrs_list PySem.F.slot_list_pop PySem.F.type_list_pop zcc (z15 hi hv hd hcd) rfl hline2) hr rfl) hs)) z1i rfl) rfl (z28 (es:=[.Tuple _ _ _]) rfl (by show 1<20;omega)) hline (z04 rfl) rfl) rfl) fun D σ H zz=>?_;obtain⟨ρ,F,out,so,e,q⟩:=zz;obtain⟨y,e1,e⟩:=Res.bind_ok e;split at e
 ·rename_i xs hrr;split at e
  ·rename_i d hlast;obtain⟨zs,e2,e⟩:=Res.bind_ok e;split at e
   ·rename_i hc;cases e;rw[aq,aq,decide_eq_true_iff]at hc;obtain⟨hlast,him⟩:=z97 hlast;obtain⟨pa,h1,hO,h⟩:=z19 so hrr;rcases h with⟨vs,ds,e3,e4,r⟩|⟨_,_,e3,_⟩
    ·cases e3;obtain⟨v,hv1,hv2⟩:=r.get hlast;rw[<-r.length]at hv1;refine⟨_,h1,.inl ⟨rfl,vs,SqL.of e4⟩,ρ,F,y,so,e1,fun u H1 s1 ru=>?_⟩;have so1:=so.same s1;have e5:=s1 _ _ e4;obtain⟨so2,f2⟩:=z7r so1 hO h1 e5 (r.front.same s1 fun _ z=>z);refine⟨_,h1,.inl ⟨rfl,vs,SqL.of e5⟩,pa,vs,v,rfl,rfl,e5,hv1,_,F,zs,so2,e2,fun us H3 s3 rs=>?_⟩;have hul:us.length<=900:=by rw[rs.len];exact hl _ _ e2
     refine⟨by rw[dq,ay,ay];omega,fun pt hpt=>?_⟩;have e6:H3 pa=some (.lst vs.dropLast):=s3 _ _ z02;have hne:pa≠pt:=z08 e6 hpt;have e7:upd H3 pt (.tup (u::v::us)) pa=some (.lst vs.dropLast):=by rw[z01 hne];exact e6
     have so3:=so2.same (s3.trans (Same.upd (o:=.tup (u::v::us)) hpt))
     have fix1:∀a o,H1 a=some o->Fix o->upd H3 pt (.tup (u::v::us)) a=some o:=fun a o e f=>by
      have ha:a≠pa:=fun z=>by subst z;rw[e5]at e;cases e;exact f
      have e8:H3 a=some o:=s3 _ _ (by rw[z01 ha];exact e);rw[z01 (z08 e8 hpt)];exact e8
     have rf:Reps X.K (upd H3 pt (.tup (u::v::us))) (Bin F) vs.dropLast xs.dropLast:=Reps.keep (fun a o e b=>by
      have ha:a≠pa:=by
       intro z;subst z;rcases b with b|b
       ·have b1:F.O a=none:=b.1;rw[hO]at b1;cases b1
       ·rw[e5]at e;cases e;exact b
      have e8:H3 a=some o:=s3 _ _ (by rw[z01 ha];exact e);rw[z01 (z08 e8 hpt)];exact e8) (fun _ z=>z) _ (r.front.same s1 fun _ z=>z)
     have rt:Rep X.K (upd H3 pt (.tup (u::v::us))) (Bin F) (.ref pt) (.tuple (y.2::d::zs.map (·.2))):=⟨pt,u::v::us,rfl,SqT.of z02,Reps.cons (Rep.immK fix1 y.2 hc.1.1 ru) (Reps.cons (Rep.immK fix1 d him (hv2.same s1 fun _ z=>z)) (Reps.immK (fun a o e f=>by rw[z01 (z08 e hpt)];exact e) _ hc.1.2 (rs.repsV so2.vis)))⟩;have hlv:=r.length;have hpos:0<xs.length:=by have:=(a8.mp hlast).1;omega
     refine⟨pa,vs.dropLast,.ref pt,rfl,rfl,e7,z0c (by rw[lz];omega),?_⟩;obtain⟨so4,f4⟩:=z7r so3 hO h1 e7 (Reps.append rf (Reps.cons rt (show Reps X.K (upd H3 pt (.tup (u::v::us))) (Bin F) [] []from rfl)));exact q σ _ F so4 Run.refl ((((Frm.same s1).trans f2).trans (Frm.same (s3.trans (Same.upd hpt)))).trans f4)
    ·cases e3
   ·cases e
  ·cases e
 ·cases e
end
theorem RGs.ins {K:W.Frag}{F:Fm}{H H1:Hp}{σ:L2.St}{ρ:Rho}(so:StOk K F H σ ρ):∀{vs:List V} {xs:List GD},xs.all okIn=true->RGs K F H H1 vs xs->Reps K H1 (Bin F) vs (xs.map (·.2))
 |vs,[],_,r=>r
 |vs,x::xs,h,r=>by rw[bn]at h;rw[aj]at h;obtain⟨v,t,e,hv,q⟩:=r;exact⟨v,t,e,z1x so h.1 hv,RGs.ins so h.2 q⟩
theorem StOk.frz {K:W.Frag}{F:Fm}{H:Hp}{σ:L2.St}{ρ:Rho}(so:StOk K F H σ ρ)(j:Nat):StOk K (F.drop j) H σ (ρ.set j (frzS (ρ.getD j none))):=by
 refine⟨so.ext,so.vis,fun a i e=>?_,by rw[bx];exact so.len,fun i g d e=>?_⟩
 ·have e':F.O a=some i:=by
   have e:(if F.O a=some j then none else F.O a)=some i:=e;split at e
   ·cases e
   ·exact e
  exact so.own a i e'
 ·by_cases hj:j=i
  ·subst hj;rw[cy]at e;simp only[if_true]at e;split at e
   ·rename_i hl;cases e2:ρ[j]? with
    |none=>exact absurd hl (by have:=d4.mp e2;omega)
    |some sl=>
     have e3:frzS sl=some (g,d):=by
      have:ρ.getD j none=sl:=by rw[ca,e2];rfl
      rw[this]at e;exact Option.some.inj e
     cases sl with
     |none=>cases e3
     |some gd=>
      obtain⟨g0,d0⟩:=gd;obtain⟨v,h1,h2⟩:=so.sl j g0 d0 e2;refine⟨v,h1,?_⟩;cases g0 with
      |fr=>
       cases e3;obtain⟨p,rfl,o,h⟩:=h2;obtain⟨o1,o2,_⟩:=so.own p j o;have hp:Bin (F.drop j) (some p):=⟨by show(if F.O p=some j then none else F.O p)=none;rw[if_pos o],o1,o2⟩;rcases h with⟨vs,ds,rfl,h3,r⟩|⟨vs,ds,rfl,h3,r⟩
       ·exact⟨p,vs,rfl,.inl ⟨h3,hp⟩,r.weak fun _ b=>b.drop⟩
       ·exact⟨p,vs,rfl,h3,hp,REs.same (fun _ _ e=>e) (fun _ b=>b.drop) r⟩
      |od=>cases e3;exact h2
      |al=>cases e3;exact h2
      |nu=>cases e3;exact Rep.weak (fun _ b=>b.drop) h2
   ·cases e
  ·rw[bd hj]at e;obtain⟨v,h1,h2⟩:=so.sl i g d e;exact⟨v,h1,h2.drop fun z=>hj z.symm⟩
section
variable {K:W.Frag}{H:Hp}{B B':Ad->Prop}
end
section
variable {K:W.Frag}{H:Hp}{Bz:Ad->Prop}{p:Addr}{zs:List D}{vz:List V}
end
section
variable {X:Cx}{tg a b c e:Expr}{es:List Expr}{fa fb fc:Rho->Res GD}{pos:Pos}{st:Stmt}{rest A Bs:List Stmt}{fs gs:Rho->Res Out}
theorem za0 (k k':Key):eqK (kD k') (kD k)=decide (k'=k):=by
 cases k'<;>cases k
 ·rename_i a b;show(a==b)=_;rw[jk,decide_eq_decide];exact⟨fun h=>by rw[h],fun h=>Sum.inl.inj h⟩
 ·rfl
 ·rfl
 ·rename_i a b;show decide (a=b)=_;rw[decide_eq_decide];exact⟨fun h=>by rw[h],fun h=>Sum.inr.inj h⟩
theorem REs.any {K:W.Frag}{H:Hp}{B:Ad->Prop}(k:Key):∀{kvs:List (Key×V)} {es:Ents},REs K H B kvs es->(es.any fun e=>eqK e.1 (kD k))=kvs.any fun kv=>decide (kv.1=k)
 |kvs,[],r=>by have e:kvs=[]:=r;subst e;rfl
 |kvs,(kd,d)::es,r=>by obtain⟨k',v,t,e,e2,_,_,q⟩:=r;subst e e2;rw[gu,gu,q.any k,za0]
theorem REs.mapPut {K:W.Frag}{H:Hp}{B:Ad->Prop}(k:Key){v:V}{d:D}(h:Rep K H B v d):∀{kvs:List (Key×V)} {es:Ents},REs K H B kvs es->REs K H B (kvs.map fun kv=>if kv.1=k then(kv.1,v)else kv) (es.map fun e=>if eqK e.1 (kD k)then(e.1,d)else e)
 |kvs,[],r=>by have e:kvs=[]:=r;subst e;exact rfl
 |kvs,(kd,d0)::es,r=>by
  obtain⟨k',v0,t,e,e2,ok,h0,q⟩:=r;subst e e2;rw[bg,bg];have ih:=q.mapPut k h;by_cases z:k'=k
  ·subst z;rw[if_pos rfl,if_pos (by rw[za0];simp)];exact⟨k',v,_,rfl,rfl,ok,h,ih⟩
  ·rw[if_neg z,if_neg (by rw[za0];simpa using z)];exact⟨k',v0,_,rfl,rfl,ok,h0,ih⟩
theorem REs.app {K:W.Frag}{H:Hp}{B:Ad->Prop}{k:Key}{v:V}{d:D}(ok:keyOk k)(h:Rep K H B v d):∀{kvs:List (Key×V)} {es:Ents},REs K H B kvs es->REs K H B (kvs++[(k,v)]) (es++[(kD k,d)])
 |kvs,[],r=>by have e:kvs=[]:=r;subst e;exact⟨k,v,[],rfl,rfl,ok,h,rfl⟩
 |kvs,(kd,d0)::es,r=>by obtain⟨k',v0,t,e,e2,ok',h0,q⟩:=r;subst e e2;exact⟨k',v0,_,rfl,rfl,ok',h0,q.app ok h⟩
theorem REs.put {K:W.Frag}{H:Hp}{B:Ad->Prop}{k:Key}{v:V}{d:D}(ok:keyOk k)(h:Rep K H B v d){kvs:List (Key×V)}{es:Ents}(r:REs K H B kvs es):REs K H B (putK kvs k v) (dput es (kD k) d):=by
 unfold putK dput;rw[r.any k];split
 ·exact r.mapPut k h
 ·exact r.app ok h
def sSet (td ty tv:TE):TS:=fun D σ H=>tv σ H fun v H1=>td σ H1 fun x H2=>ty σ H2 fun y H3=>(∃a H4,x=.ref a/\DPut H3 a y v H4/\D.nx σ H4)\/zfm x y v H3 fun H4=>D.nx σ H4
theorem z8s {o i value:Expr}{pos':Pos}{td ty tv:TE}(hu:X.A.units+1<cLine)(ho:PE X o td)(hi:PE X i ty)(hv:PE X value tv)(hs:i8 value (some (.Subscript o i pos')) pos.line X.env=pure false):PS X (.Assign [.Subscript o i pos'] value pos) (sSet td ty tv):=by
 intro pins s σ H D I h;refine wpAny_Assign_Subscript (thn (hv pins s σ H _ I h) fun r s1 ⟨v,H1,I1,rv,q1⟩=>thn (ho pins s1 σ H1 _ I1 q1) fun u s2 ⟨x,H2,I2,rx,q2⟩=>thn (hi pins s2 σ H2 _ I2 q2) fun iv s3 ⟨y,H3,I3,ry,q3⟩=>?_) hs;rcases q3 with⟨a,H4,ex,g,q3⟩|q3
 ·subst ex;obtain rfl:u=Value.ref a:=rx;exact z7p hu I3 g ry rv fun s4 I4=>⟨σ,H4,I4,q3⟩
 ·exact thn (set_list pins s3 σ H3 x y v u iv r _ I3 rx ry rv q3) fun _ s4 ⟨H4,I4,q4⟩=>⟨σ,H4,I4,q4⟩
def setF (i:Nat)(fv fk:Rho->Res GD):Rho->Res Out:=fun ρ=>fv ρ>>=fun y=>fk ρ>>=fun x=>match ρ[i]? with
 |some (some (.fr,.dict es))=>if isK x.2&&okIn y&&decide (es.length<LIM)then .ok (.nx ((ρ.set i (some (.fr,.dict (dput es x.2 y.2)))).map z16))else .no
 |some (some (.fr,.list xs))=>(match x.2 with
  |.int j=>if okIn y then(match ixN xs.length j with|some n=>.ok (.nx ((ρ.set i (some (.fr,.list (xs.set n y.2)))).map z16))|none=>.no)else .no
  |_=>.no)
 |_=>.no
theorem zk2 {i:Nat}{x:Str}{p pos':Pos}{ie value:Expr}{fv fk:Rho->Res GD}(hu:X.A.units+64<cLine)(hN:X.N[i]?=some x)(hv:Vis X.env.scope x)(hd:(x==("__debug__":Str))=false)(hcd:(x==("__classdict__":Str))=false)(hs:z0k value=false)(hk:PE X ie (tD X.K fk))(hva:PE X value (tD X.K fv)):
  PS X (.Assign [.Subscript (.Name x p) ie pos'] value pos) (tDS X.K (setF i fv fk)):=by
 refine PS.imp (z8s (by omega) (z15 hN hv hd hcd) hk hva (z0w hs _ _ _)) fun D σ H zz=>?_;obtain⟨ρ,F,out,so,e,q⟩:=zz;obtain⟨y,e1,e⟩:=Res.bind_ok e;obtain⟨kx,e2,e⟩:=Res.bind_ok e;refine⟨ρ,F,y,so,e1,fun v H1 s1 rv=>?_⟩;have so1:=so.same s1;split at e
 ·rename_i es hr;split at e
  case isFalse=>cases e
  rename_i hc;cases e;rw[aj,aj,decide_eq_true_eq]at hc;obtain⟨pa,h1,hO,h⟩:=z19 so1 hr;rcases h with⟨_,_,e3,_⟩|⟨kvs,es',e3,e4,r⟩
  ·cases e3
  ·cases e3;refine⟨_,h1,ρ,F,kx,so1,e2,fun w H2 s2 rw'=>.inl ?_⟩;obtain⟨k,ek,rfl,ok⟩:=z3p hc.1.1 rw';have e5:=s2 _ _ e4;refine⟨pa,_,rfl,DPut.k e5 (by rw[r.length];exact bp hc.2 (z0c (ak _))),?_⟩
   have hk:∀a o,H2 a=some o->(Bin F (some a)\/Fix o)->upd H2 pa (.dK (putK kvs k v)) a=some o:=fun a o e b=>by
    have hap:a≠pa:=by
     intro z;subst z;rcases b with b|b
     ·have b1:F.O a=none:=b.1;rw[hO]at b1;cases b1
     ·rw[e5]at e;cases e;exact b
    rw[z01 hap];exact e
   have r':REs X.K (upd H2 pa (.dK (putK kvs k v))) (Bin F) (putK kvs k v) (dput es kx.2 y.2):=by rw[ek];exact REs.keep hk (fun _ z=>z) _ (REs.put ok (z1x so hc.1.2 (rv.same s2 fun _ z=>z)) (r.same s2 fun _ z=>z))
   obtain⟨so2,f2⟩:=(so1.same s2).mutate (o':=.dK (putK kvs k v)) (d':=.dict (dput es kx.2 y.2)) hO h1 (.inr ⟨_,rfl⟩) ⟨pa,rfl,hO,.inr ⟨_,_,rfl,z02,r'⟩⟩;exact q σ _ F so2 Run.refl ((Frm.same (s1.trans s2)).trans f2)
 ·rename_i xs hr;split at e
  case h_2=>cases e
  rename_i j hj;split at e
  case isFalse=>cases e
  rename_i hc;split at e
  case h_2=>cases e
  rename_i n hn;cases e;obtain⟨pa,h1,hO,h⟩:=z19 so1 hr;rcases h with⟨vs,ds,e3,e4,r⟩|⟨_,_,e3,_⟩
  ·cases e3;refine⟨_,h1,ρ,F,kx,so1,e2,fun w H2 s2 rw'=>.inr ?_⟩;rw[hj]at rw';have ew:w=.int j:=rw';subst ew;have e5:=s2 _ _ e4;refine⟨pa,vs,j,n,rfl,rfl,e5,by rw[r.length];exact hn,?_⟩
   have hk:∀a o,H2 a=some o->(Bin F (some a)\/Fix o)->upd H2 pa (.lst (vs.set n v)) a=some o:=fun a o e b=>by
    have hap:a≠pa:=by
     intro z;subst z;rcases b with b|b
     ·have b1:F.O a=none:=b.1;rw[hO]at b1;cases b1
     ·rw[e5]at e;cases e;exact b
    rw[z01 hap];exact e
   have r':Reps X.K (upd H2 pa (.lst (vs.set n v))) (Bin F) (vs.set n v) (xs.set n y.2):=Reps.keep hk (fun _ z=>z) _ (Reps.set (z1x so hc (rv.same s2 fun _ z=>z)) n (r.same s2 fun _ z=>z));obtain⟨so2,f2⟩:=(so1.same s2).mutate (o':=.lst (vs.set n v)) (d':=.list (xs.set n y.2)) hO h1 (.inl ⟨_,rfl⟩) ⟨pa,rfl,hO,.inl ⟨_,_,rfl,z02,r'⟩⟩;exact q σ _ F so2 Run.refl ((Frm.same (s1.trans s2)).trans f2)
  ·cases e3
 ·cases e
def tDF (K:W.Frag)(f:Rho->Res (G×List D×Rho)):TI:=fun σ H R=>∃ρ F w,StOk K F H σ ρ/\f ρ=.ok w/\∀J B H' F',Same H H'->Run F F'->Frm F H F' H'->StOk K F' H' σ w.2.2->(∀a,B (some a)->F'.O a=none)->(∀a,B a->BI F' w.1 a)->Walk K J B H' w.2.1->R J H'
theorem zau {K:W.Frag}{F:Fm}{H:Hp}{σ:L2.St}{ρ:Rho}(so:StOk K F H σ ρ){a:Addr}{g:G}(hg:g≠.al)(h:BG F H g (some a)):F.O a=none:=by
 cases e1:F.O a with
 |none=>rfl
 |some j=>
  obtain⟨h0,_,h'⟩:=so.own a j e1;cases g with
  |fr=>have hb:H a=none:=h;rcases h' with⟨xs,h'⟩|⟨xs,h'⟩<;>rw[hb]at h'<;>cases h'
  |od=>exact absurd h0 h.1
  |al=>exact absurd rfl hg
  |nu=>
   rcases h with h|h
   ·have hb:H a=none:=h;rcases h' with⟨xs,h'⟩|⟨xs,h'⟩<;>rw[hb]at h'<;>cases h'
   ·have hb:F.O a=none:=h.1;rw[hb]at e1;cases e1
theorem zje {fw:Rho->Res (G×List D)}(hw:PI X tg e (tDW X.K fw)):PI X tg e (tDF X.K fun ρ=>fw ρ>>=fun w=>if w.1==.al then .no else .ok (w.1,w.2,ρ)):=
 PI.imp hw fun σ H R zz=>by
  obtain⟨ρ,F,w,so,e,q⟩:=zz;obtain⟨w0,e1,e⟩:=Res.bind_ok e;refine⟨ρ,F,w0,so,e1,fun J B H1 s1 hB wk=>?_⟩;split at e
  ·cases e
  ·rename_i hal;cases e;have hal':w0.1≠.al:=fun z=>hal (by rw[z];rfl);exact q J B H1 F s1 Run.refl (Frm.same s1) (so.same s1) (fun a b=>zau so hal' (hB _ b).1) (fun a b=>BI.of so.vis (hB a b).1) wk
theorem StOk.giveUp {K:W.Frag}{F:Fm}{H:Hp}{σ:L2.St}{ρ:Rho}{i:Nat}{d:D}(so:StOk K F H σ ρ)(e:ρ[i]?=some (some (.fr,d))):StOk K (F.drop i) H σ (ρ.set i (some (.al,d))):=by
 obtain⟨v,h1,h2⟩:=so.sl i .fr d e;have:=so.setI (i:=i) (x:=(.al,d)) (v:=v) (h2.rep so.ownV)
 have es:σ.set i (some v)=σ:=by
  apply n5;intro j;by_cases hj:i=j
  ·subst hj;rw[cy];have hl:=(a8.mp h1).1;simp only[if_true,hl];exact h1.symm
  ·rw[bd hj]
 rw[es]at this;exact this
theorem zkj {i:Nat}{x:Str}(hN:X.N[i]?=some x)(hv:Vis X.env.scope x)(hd:(x==("__debug__":Str))=false)(hcd:(x==("__classdict__":Str))=false):PI X tg (.Name x pos) (tDF X.K (zf3 i)):=by
 intro pins s σ H R I h;obtain⟨ρ,F,w,so,e,q⟩:=h;unfold zf3 at e;split at e
 ·rename_i d hr;obtain⟨xs,e2,e⟩:=Res.bind_ok e;cases e;obtain⟨v,h1,h2⟩:=so.sl i .fr d hr;refine thn (z15 hN hv hd hcd pins s σ H (fun u H1=>u=v/\H1=H) I ⟨v,h1,rfl,rfl⟩) fun u s1 zz=>?_;obtain⟨y,H1,I1,r1,ey,eH⟩:=zz;subst ey eH;have so':=so.giveUp hr
  let B:Ad->Prop:=fun a=>match a with|some a=>(F.drop i).O a=none/\F.V a|none=>False
  have rv:Rep X.K H1 B y d:=by
   obtain⟨p,ey,hO,h3⟩:=h2
   have hb:∀a,Bin F a->B a:=fun a b=>by
    cases a with
    |none=>exact b
    |some a=>exact⟨Fm.drop_none b.1,b.2.2⟩
   have hp:B (some p):=⟨by show(if F.O p=some i then none else F.O p)=none;rw[if_pos hO],so.ownV p i hO⟩;rcases h3 with⟨vs,ds,rfl,e4,r⟩|⟨vs,ds,rfl,e4,r⟩
   ·exact⟨p,vs,ey,.inl ⟨e4,hp⟩,r.weak hb⟩
   ·exact⟨p,vs,ey,e4,hp,REs.same (fun _ _ e=>e) hb r⟩
  refine z3s I1 r1 rv e2 fun J wk=>q J B H1 (F.drop i) (Same.refl _) (Run.of rfl rfl rfl) (Frm.drop (Same.refl _)) so' (fun a b=>b.1) (fun a b=>?_) wk;cases a with
  |none=>exact b.elim
  |some a=>exact b.2
 ·cases e
def Fm.noL (F:Fm)(H:Hp):Fm:={F with O:=fun a=>match H a with|some (.dK _)=>F.O a|_=>none}
theorem Fm.noL_none {F:Fm}{H:Hp}{a:Addr}(h:F.O a=none):(F.noL H).O a=none:=by
 unfold Fm.noL
 dsimp only
 split<;>first|exact h|rfl
theorem StOk.noL {K:W.Frag}{F:Fm}{H:Hp}{σ:L2.St}{ρ:Rho}(so:StOk K F H σ ρ):StOk K (F.noL H) H σ (ρ.map zd6) where
 ext:=so.ext
 vis:=so.vis
 own:=fun a i e=>by
  have e':F.O a=some i:=by
   unfold Fm.noL at e
   dsimp only at e
   split at e
   ·exact e
   ·cases e
  exact so.own a i e'
 len:=by rw[aw];exact so.len
 sl:=fun i g d e=>by
  rw[az]at e;cases h1:ρ[i]? with
  |none=>rw[h1]at e;cases e
  |some o=>
   rw[h1]at e;have e':zd6 o=some (g,d):=by simpa using e
   cases o with
   |none=>cases e'
   |some gd=>
    obtain⟨g0,d0⟩:=gd;obtain⟨v,h2,h3⟩:=so.sl i g0 d0 h1;refine⟨v,h2,?_⟩
    have hb:∀a,Bin F a->Bin (F.noL H) a:=fun a b=>by
     cases a with
     |none=>exact b
     |some a=>exact⟨Fm.noL_none b.1,b.2.1,b.2.2⟩
    cases g0 with
    |od=>cases e';exact h3
    |al=>cases e';exact h3
    |nu=>cases e';exact Rep.weak hb h3
    |fr=>
     obtain⟨p,ev,hO,h4⟩:=id h3;rcases h4 with⟨vs,ds,rfl,e4,r⟩|⟨kvs,es,rfl,e4,r⟩
     ·have e2:some (G.al,PyData.list ds)=some (g,d):=e';cases e2;have h5:Rep K H (visA F) v (.list ds):=Slot.rep (F:=F) so.ownV h3;exact h5
     ·have e2:some (G.fr,PyData.dict es)=some (g,d):=e';cases e2;refine⟨p,ev,?_,.inr ⟨kvs,es,rfl,e4,REs.same (fun _ _ z=>z) hb r⟩⟩;unfold Fm.noL
      dsimp only
      rw[e4];exact hO
theorem f_al {fa:Rho->Res GD}(ha:PE X e (tD X.K fa)):PI X tg e (tDF X.K fun ρ=>fa ρ>>=fun x=>evAl x ρ):=by
 intro pins s σ H R I h;obtain⟨ρ,F,w,so,e0,q⟩:=h;obtain⟨x,e1,e0⟩:=Res.bind_ok e0;obtain⟨g,d⟩:=x;unfold evAl at e0
 dsimp only at e0
 split at e0
 ·rename_i xs;split at e0
  ·rename_i hi;cases e0;refine thn (ha pins s σ H (fun v H1=>Same H H1/\Rep X.K H1 (BG F H g) v (.list xs)) I ⟨ρ,F,_,so,e1,fun v H1 s1 rv=>⟨s1,rv⟩⟩) fun v s1 zz=>?_;obtain⟨y,H1,I1,r1,s1',rv⟩:=zz;have so1:=(so.same s1').noL
   let B:Ad->Prop:=fun a=>match a with|some a=>(F.noL H1).O a=none/\F.V a|none=>F.z
   have rv':Rep X.K H1 B y (.list xs):=by
    obtain⟨p,vs,ey,h,r⟩:=rv;refine⟨p,vs,ey,?_,Reps.immB xs hi r⟩;rcases h with⟨h,b⟩|⟨h,b⟩
    ·refine .inl ⟨h,?_,(BG.vis so.vis b:visA F (some p))⟩;unfold Fm.noL
     dsimp only
     rw[h]
    ·exact .inr ⟨h,(BG.vis so.vis b:visA F none)⟩
   refine z3s I1 r1 rv' rfl fun J wk=>q J B H1 (F.noL H1) s1' (Run.of rfl rfl rfl) (fun a o e n=>⟨s1' a o e,Fm.noL_none n⟩) so1 (fun a b=>b.1) (fun a b=>?_) wk;cases a with
   |none=>exact b
   |some a=>exact b.2
  ·cases e0
 ·cases e0
theorem PI.orD {f g:Rho->Res (G×List D×Rho)}{k:Rho->Bool}(hf:PI X tg e (tDF X.K f))(hg:PI X tg e (tDF X.K g)):PI X tg e (tDF X.K fun ρ=>if k ρ then f ρ else g ρ):=by
 intro pins s σ H R I h;obtain⟨ρ,F,w,so,e,q⟩:=h
 dsimp only at e
 cases hk:k ρ with
 |true=>exact hf pins s σ H R I ⟨ρ,F,w,so,by rw[if_pos hk]at e;exact e,q⟩
 |false=>exact hg pins s σ H R I ⟨ρ,F,w,so,by rw[if_neg (by rw[hk];exact bf)]at e;exact e,q⟩
theorem zjs {t:Tg}{iter:Expr}{body:List Stmt}{fw:Rho->Res (G×List D×Rho)}(hp:db (model X.prog X.w) X.A X.env X.xe)(hc:X.calm=true)(hi:PI X tg iter (tDF X.K fw))(hg:PG X tg (tDG X.K t))(hb:PSs X body (tDS X.K fs))(hs:∀x,dr iter X.env x=pure x):
  PS X (.For tg iter body [] pos) (tDS X.K fun ρ=>fw ρ>>=fun w=>forD (fun x ρ1=>z0v t (gJ x w.1,x) ρ1>>=fun ρ2=>fs ρ2) w.2.1 w.2.2):=
 PS.imp (z63 hp hc hi hg hb hs) fun D σ H zz=>by
  obtain⟨ρ,F,out,so,e,q⟩:=zz;obtain⟨w,e1,e⟩:=Res.bind_ok e;refine⟨ρ,F,w,so,e1,fun J B H1 F1 s1 r1 f1 so1 hBo hBi wk=>?_⟩;have q1:z2a X.K F1 H1 D out:=q.back r1 f1;generalize hf:(fun x ρ1=>z0v t (gJ x w.1,x) ρ1>>=fun ρ2=>fs ρ2)=f at e
  have kp:∀{F2:Fm} {H2:Hp},Frm F1 H1 F2 H2->Kp B H1 H2:=fun{F2 H2} fr a o e b=>by
   have hO:F1.O a=none:=by
    rcases b with b|b
    ·exact hBo a b
    ·cases e2:F1.O a with
     |none=>rfl
     |some j=>obtain⟨_,_,h'⟩:=so1.own a j e2;rcases h' with⟨xs,h'⟩|⟨xs,h'⟩<;>rw[e]at h'<;>cases h'<;>exact b.elim
   exact(fr a o e hO).1
  let W:Nat->Nat->L2.St->Hp->Prop:=fun i m σ2 H2=>m=w.2.1.length-i/\i<=w.2.1.length/\∃ρ2 F2,StOk X.K F2 H2 σ2 ρ2/\Run F1 F2/\Frm F1 H1 F2 H2/\forD f (w.2.1.drop i) ρ2=.ok out
  refine⟨W,⟨_,rfl,cj _,w.2.2,F1,so1,Run.refl,Frm.refl,e⟩,?_⟩
  rintro i m σ2 H2 ⟨rfl,hile,ρ2,F2,so2,r2,f2,e2⟩
  by_cases hlt:i<w.2.1.length
  ·refine .inr ⟨wk.go H2 (kp f2) i hlt,W (i+1) (w.2.1.length-(i+1)),fun σ' H' p=>⟨_,by omega,p⟩,fun x H3 y=>?_⟩;obtain⟨s3,d,hd,rx⟩:=wk.yld H2 (kp f2) i x H3 hlt y
   have hdr:w.2.1.drop i=d::w.2.1.drop (i+1):=by
    have dc:=ip hlt;rw[dc];have:w.2.1[i]=d:=by rw[bh hlt]at hd;exact Option.some.inj hd
    rw[this]
   rw[hdr]at e2;simp only[forD]at e2;have so3:=so2.same s3
   have rx':Rep X.K H3 (BI F2 (gJ d w.1)) x d:=by
    have hBI:∀g a,BI F1 g a->BI F2 g a:=fun g a b=>by cases g<;>cases a<;>first|exact b|(have b':F1.V _:=b;rw[<-r2.2.1]at b';exact b')|(have b':F1.z:=b;rw[<-r2.2.2]at b';exact b')|(have b':F1.H0 _≠none/\F1.V _:=b;exact⟨fun z=>b'.1 (none_of r2.1 z),by rw[r2.2.1];exact b'.2⟩)
    unfold gJ;by_cases hi:imm d=true
    ·rw[if_pos hi];exact Rep.immB d hi rx
    ·rw[if_neg hi];exact rx.weak fun a b=>hBI _ _ (hBi a b)
   cases e3:f d ρ2 with
   |no=>rw[e3]at e2;cases e2
   |exc z=>rw[e3]at e2;cases e2
   |ok o1=>
    have e3':(z0v t (gJ d w.1,d) ρ2>>=fun ρ3=>fs ρ3)=.ok o1:=by rw[<-e3,<-hf]
    obtain⟨ρ3,e4,e5⟩:=Res.bind_ok e3';rw[e3]at e2;refine⟨ρ2,F2,(gJ d w.1,d),ρ3,so3,rx',e4,fun σ4 F4 so4 kps=>⟨ρ3,F4,o1,so4,e5,?_⟩⟩;have r4:Run F1 F4:=r2.trans (Run.of kps.h0 kps.v kps.z);have f4:Frm F1 H1 F4 H3:=f2.trans fun a o e n=>⟨s3 a o e,kps.o a n⟩;cases o1 with
    |nx ρ5=>exact fun σ' H' F' so' r' f'=>⟨rfl,hlt,ρ5,F',so',r4.trans r',f4.trans f',e2⟩
    |ct ρ5=>exact fun σ' H' F' so' r' f'=>⟨rfl,hlt,ρ5,F',so',r4.trans r',f4.trans f',e2⟩
    |bk ρ5=>cases e2;exact fun σ' H' F' so' r' f'=>q1 σ' H' F' so' (r4.trans r') (f4.trans f')
    |rt g d=>cases e2;exact(q1.back r4 f4:z2a X.K F4 H3 D (.rt g d))
  ·have hie:i=w.2.1.length:=by omega
   subst hie;rw[km]at e2;cases e2;exact .inl ⟨wk.stop H2 (kp f2),q1 σ2 H2 F2 so2 r2 f2⟩
theorem zez {body:List Stmt}{ft:Rho->Res Bool}{n:Nat}(hp:db (model X.prog X.w) X.A X.env X.xe)(hc:PT X c (tDT X.K ft))(hb:PSs X body (tDS X.K fs)):PS X (.While c body [] pos) (tDS X.K (whD ft fs n)):=
 PS.imp (z64 hp hc hb) fun D σ H zz=>by
  obtain⟨ρ,F,out,so,e,q⟩:=zz
  let W:Nat->L2.St->Hp->Prop:=fun m σ2 H2=>∃ρ2 F2,StOk X.K F2 H2 σ2 ρ2/\Run F F2/\Frm F H F2 H2/\whD ft fs m ρ2=.ok out
  refine⟨W,⟨n,ρ,F,so,Run.refl,Frm.refl,e⟩,?_⟩
  rintro m σ2 H2 ⟨ρ2,F2,so2,r2,f2,e2⟩
  cases m with
  |zero=>cases e2
  |succ m=>
   obtain⟨k,e3,e2⟩:=Res.bind_ok e2;refine⟨ρ2,F2,k,so2,e3,fun H3 s3=>?_⟩;have f3:Frm F H F2 H3:=f2.trans (Frm.same s3);cases k with
   |false=>cases e2;exact iteF (q σ2 H3 F2 (so2.same s3) r2 f3)
   |true=>
    refine iteT ⟨W m,fun σ' H' p=>⟨m,ig m,p⟩,?_⟩
    have e2:(match fs ρ2 with
     |.ok (.nx ρ')=>whD ft fs m ρ'
     |.ok (.ct ρ')=>whD ft fs m ρ'
     |.ok (.bk ρ')=>.ok (.nx ρ')
     |.ok (.rt g d)=>.ok (.rt g d)
     |.exc e=>.exc e
     |.no=>.no)=.ok out:=e2
    cases e4:fs ρ2 with
    |no=>rw[e4]at e2;cases e2
    |exc z=>rw[e4]at e2;cases e2
    |ok o1=>
     rw[e4]at e2;refine⟨ρ2,F2,o1,so2.same s3,e4,?_⟩;cases o1 with
     |nx ρ5=>exact fun σ' H' F' so' r' f'=>⟨ρ5,F',so',r2.trans r',f3.trans f',e2⟩
     |ct ρ5=>exact fun σ' H' F' so' r' f'=>⟨ρ5,F',so',r2.trans r',f3.trans f',e2⟩
     |bk ρ5=>cases e2;exact fun σ' H' F' so' r' f'=>q σ' H' F' so' (r2.trans r') (f3.trans f')
     |rt g d=>cases e2;exact(q.back r2 f3:z2a X.K F2 H3 D (.rt g d))
end
def rAgg (K:W.Frag)(f:String):List V->Hp->VK->Prop:=fun xs H Q=>∃B x dx l ys d,xs=[x]/\Rep K H B x dx/\z9q dx=.ok (l,ys)/\aggD f l ys=.ok d/\∀w H',Same H H'->Rep K H' (fun a=>nw H a\/(imms ys=false/\B a)) w d->Q w H'
theorem z8i {K:W.Frag}{H:Hp}{B:Ad->Prop}{x:V}{dx:D}{l:Bool}{ys:List D}(r:Rep K H B x dx)(e:z9q dx=.ok (l,ys)):∃a vs,x=.ref a/\(if l then SqL K H a vs else SqT K H a vs)/\Reps K H B vs ys:=by
 cases dx<;>try (cases e;done)
 ·cases e;obtain⟨a,vs,rfl,h,q⟩:=z14 r;exact⟨a,vs,rfl,h,q⟩
 ·cases e;obtain⟨a,vs,rfl,h,q⟩:=r;exact⟨a,vs,rfl,h,q⟩
theorem Reps.aggB {K:W.Frag}{H:Hp}{B:Ad->Prop}{vs:List V}{ys:List D}(r:Reps K H B vs ys):Reps K H (fun a=>nw H a\/(imms ys=false/\B a)) vs ys:=by
 cases hi:imms ys with
 |true=>exact Reps.immB ys hi r
 |false=>exact r.weak fun _ z=>.inr ⟨rfl,z⟩
section
variable {X:Cx}{e:Expr}{fa:Rho->Res GD}{pos:Pos}
theorem zjk {f:String}{ρ:Rho}{F:Fm}{z:GD}{σ:L2.St}{H:Hp}{Q:VK}(so:StOk X.K F H σ ρ)(e:((fa ρ>>=fun x=>z9q x.2>>=fun p=>Res.ok (x.1,p))>>=fun w=>aggD f w.2.1 w.2.2>>=fun d=>Res.ok ((gJ d (if imms w.2.2 then .fr else agG w.1),d):GD))=.ok z)(q:∀v H',Same H H'->Rep X.K H' (BG F H z.1) v z.2->Q v H'):
  tCB (rAgg X.K f) (z7d (tD X.K fa) tNil) σ H Q:=by
 obtain⟨w,e0,e⟩:=Res.bind_ok e;obtain⟨x,e1,e0⟩:=Res.bind_ok e0;obtain⟨p,e2,e0⟩:=Res.bind_ok e0;cases e0;obtain⟨d,e3,e⟩:=Res.bind_ok e;cases e;refine⟨ρ,F,x,so,e1,fun v H1 s1 rv=>⟨_,v,x.2,p.1,p.2,d,rfl,rv,e2,e3,fun w' H2 s2 rw'=>q w' H2 (s1.trans s2) (z24 rw' fun a h=>?_)⟩⟩
 dsimp only
 cases hi:imms p.2 with
 |true=>
  rw[if_pos rfl];rcases h with h|⟨h,_⟩
  ·exact nw.back s1 h
  ·rw[hi]at h;cases h
 |false=>
  rw[if_neg bf]
  have al:visA F a:=by
   rcases h with h|⟨_,h⟩
   ·exact(nw.back s1 h).vis so.vis
   ·exact h.vis so.vis
  cases hg:x.1 with
  |fr=>
   rcases h with h|⟨_,h⟩
   ·exact nw.back s1 h
   ·rw[hg]at h;exact h
  |od=>exact al
  |al=>exact al
  |nu=>
   rcases h with h|⟨_,h⟩
   ·exact .inl (nw.back s1 h)
   ·rw[hg]at h;exact h
theorem zhe:CallR X (.type "list") (rAgg X.K "list"):=by
 refine CallR.imp z4j fun xs H Q h=>?_;obtain⟨B,x,dx,l,ys,d,rfl,r,e,e2,q⟩:=h;obtain⟨a,vs,rfl,h,rs⟩:=z8i r e;simp only[aggD,if_true]at e2;cases e2
 have h':SqL X.K H a vs\/SqT X.K H a vs:=by
  cases l with
  |true=>exact .inl h
  |false=>exact .inr h
 refine⟨a,vs,rfl,h',fun p hp=>q _ _ (Same.upd hp) (z0x hp rs.aggB (fun _ z=>z) (.inl hp))⟩
theorem zfw {f:String}{x:Str}{p:Pos}{y:Expr}(hc:CallR X (.type f) (rAgg X.K f))(hm:X.mg x=none)(hv:ci x=some (.type f))(hs:isStar y=false)(ha:PE X y (tD X.K fa))(hg:Gl X x)(hn:x≠"__name__")(hdb:(x==("__debug__":Str))=false):
  PE X (.Call (.Name x p) [y] [] pos) (tD X.K fun ρ=>(fa ρ>>=fun x=>z9q x.2>>=fun p=>Res.ok (x.1,p))>>=fun w=>aggD f w.2.1 w.2.2>>=fun d=>.ok (gJ d (if imms w.2.2 then .fr else agG w.1),d)):=
 PE.imp (zea hc hm hv (pa_c ha z1i hs) (by simp[hs]) hg hn hdb) fun σ H Q ⟨ρ,F,z,so,e,q⟩=>zjk so e q
end
end Mi
namespace Mi
open PySem PySem.Spec
structure NoKeys (T id:String):Prop where
 own:PySem.Slot T "__getattribute__" id
 entry:entryFor table id=some Builtin.«object.__getattribute__»
 two:∀a b:Value,argsOk id {pos:=[a,b]}
 rest:ow (.type T) "__getattr__"=pure none
 miss:∀(a:Addr) (xs:Array Value) (k:Nat) (sl:Array (Option Value)) (u:Tok),Meets (Builtin.«object.__getattribute__» {pos:=[.ref a,.str "keys" u]}) fun A R s=>s.heap.get? a=some {cls:=.type T,data:=.seq xs k,slots:=sl}/\raisesAttr (.ref a) "keys" A R s
theorem NoKeys.ask {T id:String}(N:NoKeys T id){prog:am}{w:World}{A:bz}{E:Value->aa->Prop}{s:aa}{a:Addr}{o:Obj}{xs:Array Value}{k:Nat}{Q:Option Value->aa->Prop}
  (hx:s.heap.get? a=some o) (hc:o.cls=.type T) (hdat:o.data=.seq xs k) (hd:o.dict=none) (hA:A.handled=none)
  (h:∀h' tk e,Heap.NewExcOf s.heap h' e "AttributeError"->Q none {s with heap:=h',toks:=tk}):
  wpAny (model prog w) A (o8 (.ref a) "keys") Q E s:=by
 cases o;cases hc;cases hdat;cases hd;cases s;rename_i slots heap gens drawn toks os;have ty:∀t,(⟨heap,gens,drawn,t,os⟩:aa).TypeIs (.ref a) T:=fun t=>⟨_,hx,rfl⟩;have isA:=sub_AttributeError;have n1:=N.own.lookup;have n2:=N.own.bind (.ref a);have n3:=N.rest
 delta o8 getAttrBy? getAttrBy
 repeat' (first|assumption|exact ty _|(apply gn N.own (ty _) N.entry (N.two _ _) (N.miss a xs k slots _))|wp_step)
 refine⟨hx,hA,fun hp2 tk2 ex nx=>?_⟩;obtain⟨t2,u2,there⟩:=nx.there;have fin:=fun t=>h _ t _ nx.of
 dsimp only[wants]
 delta getattributeRaised
 repeat' (first|assumption|apply fin|wp_step)
end Mi
namespace Mi
open PySem PySem.Spec PyProof.Rows L2
namespace F
end F
section
variable {X:Cx}{pins:List (Addr×Obj)}{σ:L2.St}
end
end Mi
namespace Mi
open PySem PySem.Spec PyProof.Rows PySem.W
section
variable (key:Nat->Nat)
def Kp' (p:Array Nat)(i:Nat):Nat:=key (p.getD i 0)
variable {key}
def Asc (key:Nat->Nat)(p:Array Nat)(m:Nat):Prop:=∀i,1<=i->i<m->Kp' key p (i-1)<=Kp' key p i
theorem Asc.le {p:Array Nat}{m:Nat}(h:Asc key p m):∀(d i:Nat),i+d<m->Kp' key p i<=Kp' key p (i+d)
 |0,i,_=>ak _
 |d+1,i,hm=>by
  have h1:=Asc.le h d i (by omega);have h2:=h (i+d+1) (by omega) (by omega);have e:i+d+1-1=i+d:=by omega
  rw[e]at h2;exact cb h1 h2
end
def z6s {α:Type}(n:Nat)(Q:α->Prop):KasT α->Prop
 |.ret a=>Q a
 |.ask i j k=>i<n/\j<n/\∀b,z6s n Q (k b)
theorem z6s.bind {α β:Type}{n:Nat}{Q:α->Prop}{R:β->Prop}{f:α->KasT β}(hf:∀a,Q a->z6s n R (f a)):∀{t:KasT α},z6s n Q t->z6s n R (t.bind f)
 |.ret a,h=>hf a h
 |.ask i j k,h=>⟨h.1,h.2.1,fun b=>z6s.bind hf (h.2.2 b)⟩
def AllIn (n:Nat)(p:Array Nat):Prop:=0<n/\∀x∈p,x<n
theorem AllIn.get {n:Nat}{p:Array Nat}(h:AllIn n p)(i:Nat):p.getD i 0<n:=by
 rw[Array.getD_eq_getD_getElem?];cases e:p[i]? with
 |none=>exact h.1
 |some x=>exact h.2 x (Array.mem_of_getElem? e)
structure OrdOn (p:D->Prop):Prop where
 irr:∀x,p x->ltD x x=false
 tr:∀x y z,p x->p y->p z->ltD x y=true->ltD y z=true->ltD x z=true
 ntr:∀x y z,p x->p y->p z->ltD x z=true->ltD x y=true\/ltD y z=true
 tot:∀x y,p x->p y->ltD x y=false->ltD y x=false->x=y
theorem z1j {x:D}(h:isI x=true):∃i,x=.int i:=by cases x<;>first|(cases h;done)|exact⟨_,rfl⟩
theorem z1k {x:D}(h:isS x=true):∃i,x=.str i:=by cases x<;>first|(cases h;done)|exact⟨_,rfl⟩
theorem z2y (a b:Int):ltD (.int a) (.int b)=decide (a<b):=rfl
theorem z2w (a b:Str):ltD (.str a) (.str b)=decide (a.cps.toList<b.cps.toList):=rfl
theorem ordI:OrdOn (fun x=>isI x=true) where
 irr:=fun x h=>by obtain⟨i,rfl⟩:=z1j h;rw[z2y];simp
 tr:=fun x y z hx hy hz h1 h2=>by obtain⟨i,rfl⟩:=z1j hx;obtain⟨j,rfl⟩:=z1j hy;obtain⟨k,rfl⟩:=z1j hz;rw[z2y,decide_eq_true_eq]at *;omega
 ntr:=fun x y z hx hy hz h=>by
  obtain⟨i,rfl⟩:=z1j hx;obtain⟨j,rfl⟩:=z1j hy;obtain⟨k,rfl⟩:=z1j hz;rw[z2y,decide_eq_true_eq]at *
  rw[z2y,decide_eq_true_eq];omega
 tot:=fun x y hx hy h1 h2=>by
  obtain⟨i,rfl⟩:=z1j hx;obtain⟨j,rfl⟩:=z1j hy;rw[z2y,decide_eq_false_iff_not]at *
  rw[show i=j by omega]
theorem zdf {a b:Str}(h:a.cps.toList=b.cps.toList):a=b:=by obtain⟨⟨l⟩⟩:=a;obtain⟨⟨m⟩⟩:=b;simp only at h;rw[h]
theorem ordS:OrdOn (fun x=>isS x=true) where
 irr:=fun x h=>by obtain⟨i,rfl⟩:=z1k h;rw[z2w];exact strKind.irrefl _
 tr:=fun x y z hx hy hz h1 h2=>by
  obtain⟨i,rfl⟩:=z1k hx;obtain⟨j,rfl⟩:=z1k hy;obtain⟨k,rfl⟩:=z1k hz;rw[z2w]at *
  exact strKind.trans _ _ _ h1 h2
 ntr:=fun x y z hx hy hz h=>by
  obtain⟨i,rfl⟩:=z1k hx;obtain⟨j,rfl⟩:=z1k hy;obtain⟨k,rfl⟩:=z1k hz;rw[z2w]at *
  rw[z2w];exact strKind.negTrans _ _ _ h
 tot:=fun x y hx hy h1 h2=>by
  obtain⟨i,rfl⟩:=z1k hx;obtain⟨j,rfl⟩:=z1k hy;rw[z2w]at *
  rw[zdf (strKind.total _ _ h1 h2)]
theorem ordK (b:Bool):OrdOn (fun x=>ofK b x=true):=by
 cases b with
 |true=>exact ordI
 |false=>exact ordS
theorem zh4 {b:Bool}{x y:D}(hx:ofK b x=true)(hy:ofK b y=true):eqD x y=true↔x=y:=by
 cases b with
 |true=>obtain⟨i,rfl⟩:=z1j hx;obtain⟨j,rfl⟩:=z1j hy;show(i==j)=true↔_;rw[beq_iff_eq];exact⟨fun h=>by rw[h],fun h=>by cases h;rfl⟩
 |false=>obtain⟨i,rfl⟩:=z1k hx;obtain⟨j,rfl⟩:=z1k hy;show(i==j)=true↔_;rw[beq_iff_eq];exact⟨fun h=>by rw[h],fun h=>by cases h;rfl⟩
theorem z0e {b:Bool}{bs:List Bool}{xs:List D}(h:shps (b::bs) xs=true):∃x r,xs=x::r/\ofK b x=true/\shps bs r=true:=by
 cases xs with
 |nil=>cases h
 |cons x r=>simp only[shps,aj]at h;exact⟨x,r,rfl,h.1,h.2⟩
theorem z0m {xs:List D}(h:shps [] xs=true):xs=[]:=by
 cases xs with
 |nil=>rfl
 |cons x r=>cases h
theorem z40 (x y:D)(xs ys:List D):ltDs (x::xs) (y::ys)=if eqD x y then ltDs xs ys else ltD x y:=by simp only[ltDs]
theorem z1v:ltDs [] []=false:=by simp[ltDs]
section
variable {p:D->Prop}(O:OrdOn p)
include O
end
end Mi
namespace Mi
open PySem PySem.Spec PyProof.Rows L2 PySem.W
section
variable {prog:am}{w:World}{A:bz}{E:Value->aa->Prop}{s:aa}{b:Bool}{x y:D}{u v:Value}{Q:Bool->aa->Prop}
end
theorem z0i.some {P:am}{w:World}{H:Hp}{h:Heap}{a:Addr}{o:HO}(x:z0i P w H h a o):∃q,h.get? a=some q:=by
 cases o with
 |lst xs=>obtain⟨_,_,_,_,e⟩:=x;exact⟨_,e⟩
 |tup xs=>obtain⟨_,_,_,_,e⟩:=x;exact⟨_,e⟩
 |dK kvs=>obtain⟨_,_,_,_,o,_,_,e,_⟩:=x;exact⟨_,e⟩
 |dT kvs=>obtain⟨_,_,_,_,o,_,_,e,_⟩:=x;exact⟨_,e⟩
 |set S n=>obtain⟨ob,es,ep,t,e,c⟩:=x;exact⟨_,e⟩
 |ins C dx fs=>obtain⟨d,z,ne,e,_⟩:=x;exact⟨_,e⟩
 |own y=>exact x
 |xd fs=>obtain⟨mA,⟨od,es,ep,e,c⟩,r⟩:=x;exact⟨_,e⟩
 |rng lo hi=>obtain⟨t,u,v,e⟩:=x;exact⟨_,e⟩
 |frz ob u=>exact⟨_,x.1⟩
 |tbl ps=>exact⟨_,x⟩
 |met f y=>exact⟨_,x⟩
 |ext φ=>obtain⟨p,⟨o,e⟩,st⟩:=x;exact⟨_,e⟩
section
variable {X:Cx}
end
section
variable {X:Cx}
end
structure OrdE (p:D->Prop):Prop extends OrdOn p where
 eq:∀x y,p x->p y->(eqD x y=true↔x=y)
structure OrdL (q:List D->Prop):Prop where
 irr:∀x,q x->ltDs x x=false
 tr:∀x y z,q x->q y->q z->ltDs x y=true->ltDs y z=true->ltDs x z=true
 ntr:∀x y z,q x->q y->q z->ltDs x z=true->ltDs x y=true\/ltDs y z=true
 tot:∀x y,q x->q y->ltDs x y=false->ltDs y x=false->x=y
 eq:∀x y,q x->q y->(PyData.eqvAll x y=true↔x=y)
section
variable {p:D->Prop}(O:OrdE p){x y z:D}{xs ys zs:List D}
include O
theorem l_eq (hx:p x)(hy:p y)(h:x=y):ltDs (x::xs) (y::ys)=ltDs xs ys:=by rw[z40,if_pos ((O.eq x y hx hy).mpr h)]
theorem l_ne (hx:p x)(hy:p y)(h:x≠y):ltDs (x::xs) (y::ys)=ltD x y:=by rw[z40,if_neg fun z=>h ((O.eq x y hx hy).mp z)]
theorem l_tr (hx:p x)(hy:p y)(hz:p z)(ih:ltDs xs ys=true->ltDs ys zs=true->ltDs xs zs=true)(e1:ltDs (x::xs) (y::ys)=true)(e2:ltDs (y::ys) (z::zs)=true):ltDs (x::xs) (z::zs)=true:=by
 by_cases xy:x=y
 ·rw[l_eq O hx hy xy]at e1;by_cases yz:y=z
  ·rw[l_eq O hy hz yz]at e2;rw[l_eq O hx hz (xy.trans yz)];exact ih e1 e2
  ·rw[l_ne O hy hz yz]at e2;rw[l_ne O hx hz (by rw[xy];exact yz),xy];exact e2
 ·rw[l_ne O hx hy xy]at e1;by_cases yz:y=z
  ·rw[l_ne O hx hz (by rw[<-yz];exact xy),<-yz];exact e1
  ·rw[l_ne O hy hz yz]at e2;have e3:=O.tr x y z hx hy hz e1 e2;rw[l_ne O hx hz (fun q=>by subst q;rw[O.irr x hx]at e3;cases e3)];exact e3
theorem zhy (hx:p x)(hy:p y)(hz:p z)(ih:ltDs xs zs=true->ltDs xs ys=true\/ltDs ys zs=true)(e:ltDs (x::xs) (z::zs)=true):ltDs (x::xs) (y::ys)=true\/ltDs (y::ys) (z::zs)=true:=by
 by_cases xz:x=z
 ·rw[l_eq O hx hz xz]at e;by_cases xy:x=y
  ·rw[l_eq O hx hy xy,l_eq O hy hz (xy.symm.trans xz)];exact ih e
  ·rw[l_ne O hx hy xy,l_ne O hy hz (fun q=>xy (xz.trans q.symm)),<-xz];cases e1:ltD x y with
   |true=>exact .inl rfl
   |false=>
    cases e2:ltD y x with
    |true=>exact .inr rfl
    |false=>exact(xy (O.tot x y hx hy e1 e2)).elim
 ·rw[l_ne O hx hz xz]at e;by_cases xy:x=y
  ·rw[l_ne O hy hz (fun q=>xz (xy.trans q)),<-xy];exact .inr e
  ·rw[l_ne O hx hy xy];by_cases yz:y=z
   ·rw[yz];exact .inl e
   ·rw[l_ne O hy hz yz];exact O.ntr x y z hx hy hz e
theorem zib (hx:p x)(hy:p y)(ih:ltDs xs ys=false->ltDs ys xs=false->xs=ys)(e1:ltDs (x::xs) (y::ys)=false)(e2:ltDs (y::ys) (x::xs)=false):x::xs=y::ys:=by
 by_cases xy:x=y
 ·rw[l_eq O hx hy xy]at e1;rw[l_eq O hy hx xy.symm]at e2;rw[xy,ih e1 e2]
 ·rw[l_ne O hx hy xy]at e1;rw[l_ne O hy hx (fun q=>xy q.symm)]at e2;exact(xy (O.tot x y hx hy e1 e2)).elim
theorem zh7 (hx:p x)(hy:p y)(ih:PyData.eqvAll xs ys=true↔xs=ys):PyData.eqvAll (x::xs) (y::ys)=true↔x::xs=y::ys:=by rw[PyData.eqvAll,aj,ih,List.cons.injEq];exact and_congr (O.eq x y hx hy) Iff.rfl
end
theorem OrdL.nil:OrdL (fun l=>l=[]) where
 irr:=fun x h=>by rw[h];exact z1v
 tr:=fun x y z h1 h2 h3 e1 e2=>by rw[h1,h2,z1v]at e1;cases e1
 ntr:=fun x y z h1 h2 h3 e=>by rw[h1,h3,z1v]at e;cases e
 tot:=fun x y h1 h2 _ _=>h1.trans h2.symm
 eq:=fun x y h1 h2=>by rw[h1,h2];exact⟨fun _=>rfl,fun _=>rfl⟩
theorem OrdL.cons {p:D->Prop}{q:List D->Prop}(O:OrdE p)(L:OrdL q):OrdL (fun l=>∃x r,l=x::r/\p x/\q r) where
 irr:=fun l h=>by obtain⟨x,r,rfl,hx,hr⟩:=h;rw[l_eq O hx hx rfl];exact L.irr r hr
 tr:=fun l1 l2 l3 h1 h2 h3=>by obtain⟨x,r,rfl,hx,hr⟩:=h1;obtain⟨y,t,rfl,hy,ht⟩:=h2;obtain⟨z,u,rfl,hz,hu⟩:=h3;exact l_tr O hx hy hz (L.tr _ _ _ hr ht hu)
 ntr:=fun l1 l2 l3 h1 h2 h3=>by obtain⟨x,r,rfl,hx,hr⟩:=h1;obtain⟨y,t,rfl,hy,ht⟩:=h2;obtain⟨z,u,rfl,hz,hu⟩:=h3;exact zhy O hx hy hz (L.ntr _ _ _ hr ht hu)
 tot:=fun l1 l2 h1 h2=>by obtain⟨x,r,rfl,hx,hr⟩:=h1;obtain⟨y,t,rfl,hy,ht⟩:=h2;exact zib O hx hy (L.tot _ _ hr ht)
 eq:=fun l1 l2 h1 h2=>by obtain⟨x,r,rfl,hx,hr⟩:=h1;obtain⟨y,t,rfl,hy,ht⟩:=h2;exact zh7 O hx hy (L.eq _ _ hr ht)
theorem ze2 {ys:List D}(h:ltDs [] ys=true):∃y r,ys=y::r:=by
 cases ys with
 |nil=>rw[z1v]at h;cases h
 |cons y r=>exact⟨y,r,rfl⟩
theorem z2x (y:D)(r:List D):ltDs [] (y::r)=true:=by simp[ltDs]
theorem z3m (y:D)(r:List D):ltDs (y::r) []=false:=by simp[ltDs]
section
variable {p:D->Prop}(O:OrdE p)
include O
theorem zi4:∀xs:List D,(∀x∈xs,p x)->ltDs xs xs=false
 | [],_=>z1v
 |x::xs,h=>by rw[l_eq O (h x (by simp)) (h x (by simp)) rfl];exact zi4 xs fun z hz=>h z (by simp[hz])
theorem a_tr:∀xs ys zs:List D,(∀x∈xs,p x)->(∀x∈ys,p x)->(∀x∈zs,p x)->ltDs xs ys=true->ltDs ys zs=true->ltDs xs zs=true
 | [],ys,zs,h1,h2,h3,e1,e2=>by
  obtain⟨y,r,rfl⟩:=ze2 e1;cases zs with
  |nil=>rw[z3m]at e2;cases e2
  |cons z t=>exact z2x z t
 |x::xs,[],zs,h1,h2,h3,e1,e2=>by rw[z3m]at e1;cases e1
 |x::xs,y::ys,[],h1,h2,h3,e1,e2=>by rw[z3m]at e2;cases e2
 |x::xs,y::ys,z::zs,h1,h2,h3,e1,e2=>l_tr O (h1 x (by simp)) (h2 y (by simp)) (h3 z (by simp)) (a_tr xs ys zs (fun w hw=>h1 w (by simp[hw])) (fun w hw=>h2 w (by simp[hw])) fun w hw=>h3 w (by simp[hw])) e1 e2
theorem zh6:∀xs ys zs:List D,(∀x∈xs,p x)->(∀x∈ys,p x)->(∀x∈zs,p x)->ltDs xs zs=true->ltDs xs ys=true\/ltDs ys zs=true
 | [],[],zs,h1,h2,h3,e=>.inr e
 | [],y::ys,zs,h1,h2,h3,e=>.inl (z2x y ys)
 |x::xs,ys,[],h1,h2,h3,e=>by rw[z3m]at e;cases e
 |x::xs,[],z::zs,h1,h2,h3,e=>.inr (z2x z zs)
 |x::xs,y::ys,z::zs,h1,h2,h3,e=>zhy O (h1 x (by simp)) (h2 y (by simp)) (h3 z (by simp)) (zh6 xs ys zs (fun w hw=>h1 w (by simp[hw])) (fun w hw=>h2 w (by simp[hw])) fun w hw=>h3 w (by simp[hw])) e
theorem zi5:∀xs ys:List D,(∀x∈xs,p x)->(∀x∈ys,p x)->ltDs xs ys=false->ltDs ys xs=false->xs=ys
 | [],[],h1,h2,e1,e2=>rfl
 | [],y::ys,h1,h2,e1,e2=>by rw[z2x]at e1;cases e1
 |x::xs,[],h1,h2,e1,e2=>by rw[z2x]at e2;cases e2
 |x::xs,y::ys,h1,h2,e1,e2=>zib O (h1 x (by simp)) (h2 y (by simp)) (zi5 xs ys (fun w hw=>h1 w (by simp[hw])) fun w hw=>h2 w (by simp[hw])) e1 e2
theorem a_eq:∀xs ys:List D,(∀x∈xs,p x)->(∀x∈ys,p x)->(PyData.eqvAll xs ys=true↔xs=ys)
 | [],[],h1,h2=>⟨fun _=>rfl,fun _=>rfl⟩
 | [],y::ys,h1,h2=>⟨fun h=>by simp[PyData.eqvAll]at h,fun h=>nomatch h⟩
 |x::xs,[],h1,h2=>⟨fun h=>by simp[PyData.eqvAll]at h,fun h=>nomatch h⟩
 |x::xs,y::ys,h1,h2=>zh7 O (h1 x (by simp)) (h2 y (by simp)) (a_eq xs ys (fun w hw=>h1 w (by simp[hw])) fun w hw=>h2 w (by simp[hw]))
theorem OrdL.all:OrdL (fun l=>∀x∈l,p x):=⟨zi4 O,a_tr O,zh6 O,zi5 O,a_eq O⟩
end
theorem OrdL.tup {q:List D->Prop}(L:OrdL q):OrdE (fun d=>∃l,d=.tuple l/\q l) where
 irr:=fun d h=>by obtain⟨l,rfl,h⟩:=h;exact L.irr l h
 tr:=fun x y z h1 h2 h3=>by obtain⟨l,rfl,h1⟩:=h1;obtain⟨m,rfl,h2⟩:=h2;obtain⟨n,rfl,h3⟩:=h3;exact L.tr l m n h1 h2 h3
 ntr:=fun x y z h1 h2 h3=>by obtain⟨l,rfl,h1⟩:=h1;obtain⟨m,rfl,h2⟩:=h2;obtain⟨n,rfl,h3⟩:=h3;exact L.ntr l m n h1 h2 h3
 tot:=fun x y h1 h2 e1 e2=>by obtain⟨l,rfl,h1⟩:=h1;obtain⟨m,rfl,h2⟩:=h2;rw[L.tot l m h1 h2 e1 e2]
 eq:=fun x y h1 h2=>by obtain⟨l,rfl,h1⟩:=h1;obtain⟨m,rfl,h2⟩:=h2;show PyData.eqvAll l m=true↔_;rw[L.eq l m h1 h2];exact⟨fun h=>by rw[h],fun h=>by cases h;rfl⟩
theorem OrdE.of {p q:D->Prop}(O:OrdE q)(h:∀d,p d->q d):OrdE p where
 irr:=fun x hx=>O.irr x (h x hx)
 tr:=fun x y z hx hy hz=>O.tr x y z (h x hx) (h y hy) (h z hz)
 ntr:=fun x y z hx hy hz=>O.ntr x y z (h x hx) (h y hy) (h z hz)
 tot:=fun x y hx hy=>O.tot x y (h x hx) (h y hy)
 eq:=fun x y hx hy=>O.eq x y (h x hx) (h y hy)
theorem zjw (b:Bool):OrdE (fun x=>ofK b x=true):=⟨ordK b,fun _ _=>zh4⟩
theorem OrdL.sh:∀bs:List Bool,OrdL (fun l=>shps bs l=true)
 | []=>⟨fun x h=>OrdL.nil.irr x (z0m h),fun x y z h1 h2 h3=>OrdL.nil.tr x y z (z0m h1) (z0m h2) (z0m h3),fun x y z h1 h2 h3=>OrdL.nil.ntr x y z (z0m h1) (z0m h2) (z0m h3),fun x y h1 h2=>OrdL.nil.tot x y (z0m h1) (z0m h2),fun x y h1 h2=>OrdL.nil.eq x y (z0m h1) (z0m h2)⟩
 |b::bs=>by have L:=OrdL.cons (zjw b) (OrdL.sh bs);exact⟨fun x h=>L.irr x (z0e h),fun x y z h1 h2 h3=>L.tr x y z (z0e h1) (z0e h2) (z0e h3),fun x y z h1 h2 h3=>L.ntr x y z (z0e h1) (z0e h2) (z0e h3),fun x y h1 h2=>L.tot x y (z0e h1) (z0e h2),fun x y h1 h2=>L.eq x y (z0e h1) (z0e h2)⟩
section
variable {X:Cx}{pins:List (Addr×Obj)}{σ:L2.St}{H:Hp}{s:aa}{B:Ad->Prop}{h':Heap}
end
section
variable {X:Cx}{pins:List (Addr×Obj)}{σ:L2.St}{H:Hp}{s:aa}{B:Ad->Prop}{h':Heap}{t:Bool}
end
section
variable {X:Cx}
end
end Mi
namespace Mi
open PySem PySem.Spec PyProof.Rows L2
section
variable {X:Cx}
end
section
variable {X:Cx}{pins pins0:List (Addr×Obj)}{σ σ0:L2.St}{H H0:Hp}{s s0:aa}{d:Addr}{o:Obj}{kvs kvs0:List (Key×V)}
theorem z1t {H:Hp}{d b:Addr}{u:HO}(n:H b=none)(e:∃v,H d=some v):upd H d u b=none:=by obtain⟨v,e⟩:=e;rw[z01 (fun z=>by subst z;rw[n]at e;cases e)];exact n
theorem _root_.L2.Inv.freeze (I:Inv X pins σ H s)(e:H d=some (.dK kvs))(ho:s.heap.get? d=some o):Inv X pins σ (upd H d (.frz o (.dK kvs))) s:=by
 have nd:∀b v,H b=some v->v≠.dK kvs->upd H d (.frz o (.dK kvs)) b=some v:=fun b v q hv=>by rw[z01 (fun z=>by subst z;rw[e]at q;cases q;exact hv rfl)];exact q
 have stay:∀b u,z0i X.prog X.w H s.heap b u->z0i X.prog X.w (upd H d (.frz o (.dK kvs))) s.heap b u:=fun b u x=>x.stay (fun c v _ q=>q) (fun c q=>nd c _ q (fun z=>nomatch z)) fun c xs q=>nd c _ q (fun z=>nomatch z)
 exact I.step (g':=s.gens) (d':=s.drawn) (t':=s.toks) (h':=s.heap) (ch:=[]) (fun _ z=>nomatch z) (fun b q _ _ _ e _=>e) (fun b q _ _ _ e _=>⟨q.slots,e⟩) (fun b q _ _ n=>z1t n ⟨_,e⟩) (fun b q _ e=>⟨q,e⟩)
  (fun b xs q=>nd b _ q (fun z=>nomatch z)) (fun b u xs q=>nd b _ q (fun z=>nomatch z)) (fun b ps q=>⟨#[],by rw[nd b _ q (fun z=>nomatch z)];simp⟩) (fun m h=>h) (fun b u q=>by
   by_cases hb:b=d
   ·subst hb;rw[z02]at q;cases q;exact⟨ho,stay b _ (I.hok b _ e)⟩
   ·rw[z01 hb]at q;exact stay b u (I.hok b u q)) I.bare
theorem _root_.L2.Inv.thaw (I0:Inv X pins0 σ0 H0 s0)(e0:H0 d=some (.dK kvs0))(I:Inv X pins σ H s)(e:H d=some (.frz o (.dK kvs))):Inv X pins σ (upd H d (.dK kvs)) s:=by
 have nd:∀b v,H b=some v->v≠.frz o (.dK kvs)->upd H d (.dK kvs) b=some v:=fun b v q hv=>by rw[z01 (fun z=>by subst z;rw[e]at q;cases q;exact hv rfl)];exact q
 have stay:∀b u,z0i X.prog X.w H s.heap b u->z0i X.prog X.w (upd H d (.dK kvs)) s.heap b u:=fun b u x=>x.stay (fun c v _ q=>q) (fun c q=>nd c _ q (fun z=>nomatch z)) fun c xs q=>nd c _ q (fun z=>nomatch z);refine⟨I.ok,I.os,I.bare,⟨I.base.keep,I.base.slot,fun b q h1 h2 h3=>z1t (I.base.free b q h1 h2 h3) ⟨_,e⟩,I.base.there,fun b xs q=>nd b _ (I.base.tups b xs q) (fun z=>nomatch z),fun b u v q=>?_,fun b ps q=>?_⟩,I.loc,I.cell,z1t I.free ⟨_,e⟩,fun x c h=>z1t (I.freeC x c h) ⟨_,e⟩,fun p hp=>?_,fun b u q=>?_,I.len,I.fx⟩
 ·have h1:=I.base.frzs b u v q;have h2:=I0.base.frzs b u v q;rw[z01 (fun z=>by subst z;rw[e0]at h2;cases h2)];exact h1
 ·obtain⟨more,h1⟩:=I.base.tbls b ps q;exact⟨more,nd b _ h1 (fun z=>nomatch z)⟩
 ·obtain⟨a1,a2,a3⟩:=I.pin p hp;exact⟨a1,z1t a2 ⟨_,e⟩,a3⟩
 ·by_cases hb:b=d
  ·subst hb;rw[z02]at q;cases q;exact stay b _ (I.hok b _ e).2
  ·rw[z01 hb]at q;exact stay b u (I.hok b u q)
end
section
variable {X:Cx}{pins:List (Addr×Obj)}{σ:L2.St}{H:Hp}{s:aa}
theorem z98 {d:Addr}{o:Obj}{kvs:List (Key×V)}{es:Array jw}{ep:Nat}(I:Inv X pins σ H s)(e:H d=some (.frz o (.dK kvs)))(hd:o.data=.dict es ep):
  ∃vs,KV kvs vs/\s.heap.DictAt (z07 X.prog X.w) d vs ep/\(d==ez)=false/\s.heap.get? d=some o:=by
 obtain⟨h1,_,hs,vs,rel,o',es',ep',ho',hc,hdat,r⟩:=I.hok d _ e;rw[h1]at ho';cases ho';rw[hd]at hdat;cases hdat;exact⟨vs,rel,⟨_,_,h1,hc,hd,r⟩,hs,h1⟩
end
theorem zjz {kvs:List (Key×V)}{vs:List (Key×Value)}(r:KV kvs vs){i:Nat}{k:Key}{v:V}(h:kvs[i]?=some (k,v)):∃u,vs[i]?=some (k,u)/\RelV v u:=by
 induction r generalizing i with
 |nil=>simp at h
 |cons a b ih=>
  cases i with
  |zero=>rw[kn]at h ⊢;cases h;rename_i bb _ _;obtain⟨b1,b2⟩:=bb;obtain⟨a1,a2⟩:=a;have a1':k=b1:=a1;subst a1';exact⟨b2,rfl,a2⟩
  |succ i=>rw[ko]at h ⊢;exact ih h
theorem z3b {P:am}{w:World}{k:Key}{u:Value}(h:(z07 P w).is k u=true):RelV (kV k) u:=by
 rw[z6u]at h;rcases z0a h with⟨i,t,rfl,rfl⟩|⟨x,t,rfl,rfl⟩
 ·exact⟨t,rfl⟩
 ·exact⟨t,rfl⟩
theorem REs.at {K:W.Frag}{H:Hp}{B:Ad->Prop}:∀{kvs:List (Key×V)} {es:Ents} {i:Nat} {k:Key} {v:V},REs K H B kvs es->kvs[i]?=some (k,v)->∃d,es[i]?=some (kD k,d)/\keyOk k/\Rep K H B v d
 |kvs,[],i,k,v,r,e=>by have:kvs=[]:=r;subst this;simp at e
 |kvs,(kd,d)::es,i,k,v,r,e=>by
  obtain⟨k',v',t,rfl,rfl,ok,h1,h2⟩:=r;cases i with
  |zero=>rw[kn]at e ⊢;cases e;exact⟨d,rfl,ok,h1⟩
  |succ i=>rw[ko]at e ⊢;exact REs.at h2 e
theorem zge {K:W.Frag}{H:Hp}{B:Ad->Prop}{k:Key}(ok:keyOk k):Rep K H B (kV k) (kD k):=by
 cases k with
 |inl i=>exact rfl
 |inr x=>exact⟨rfl,ok⟩
section
variable {X:Cx}
end
section
variable {X:Cx}
def compI (i nt:Nat)(t:Tg)(fc:Rho->Res Bool)(fe:Rho->Res GD):Rho->Res GD:=fun ρ=>match ρ[i]? with
 |some (some (_,.dict es))=>if immE es&&decide (es.length<=LIM)then z77 nt [] t (fun _=>.ok (.al,es.map ent)) fc fe []else .no
 |_=>.no
theorem z9w {K:W.Frag}{F:Fm}{H:Hp}{σ:L2.St}{ρ:Rho}{i:Nat}{g:G}{es:Ents}(so:StOk K F H σ ρ)(e:ρ[i]?=some (some (g,.dict es))):∃d kvs B,σ[i]?=some (some (.ref d))/\H d=some (.dK kvs)/\F.V d/\REs K H B kvs es:=by
 obtain⟨v,h1,h2⟩:=so.sl i g _ e;cases g with
 |fr=>
  obtain⟨p,rfl,ho,h⟩:=h2;rcases h with⟨_,_,z,_⟩|⟨kvs,es',z,h3,r⟩
  ·cases z
  ·cases z;exact⟨p,kvs,_,h1,h3,(so.own p i ho).2.1,r⟩
 |od=>obtain⟨p,kvs,rfl,h3,b,r⟩:=h2;exact⟨p,kvs,_,h1,h3,b.2,r⟩
 |al=>obtain⟨p,kvs,rfl,h3,b,r⟩:=h2;exact⟨p,kvs,_,h1,h3,b,r⟩
 |nu=>obtain⟨p,kvs,rfl,h3,b,r⟩:=h2;exact⟨p,kvs,_,h1,h3,b.2.2,r⟩
end
section
variable {X:Cx}{pins:List (Addr×Obj)}{σ:L2.St}{H:Hp}{s:aa}
end
end Mi
namespace Mi
open PySem PySem.Spec PyProof.Rows L2 PySem.W
section
variable {X:Cx}{pins:List (Addr×Obj)}{σ:L2.St}{H:Hp}{s:aa}
end
section
variable {X:Cx}
end
end Mi
namespace Mi
open PySem PySem.Spec PyProof.Rows L2
section
variable {X:Cx}
end
end Mi
namespace Mi
open PySem PySem.Spec PyProof.Rows L2 PySem.W
theorem z51 {P:am}{w:World}:∀{kvs:List (Key×V)} {vs:List (Key×Value)} {us:List Value},KV kvs vs->us.length=vs.length->(∀(j:Nat) u,us[j]?=some u->∃k x,vs[j]?=some (k,x)/\(z07 P w).is k u=true)->Vals (kvs.map fun kv=>kV kv.1) us
 | [],_,us,.nil,hl,_=>by cases jq hl;exact .nil
 |(k,v)::kvs,_::vs,us,.cons hq t,hl,h=>by
  cases us with
  |nil=>cases hl
  |cons u us=>obtain⟨k',x,e,hk⟩:=h 0 u rfl;cases e;have hk1:k=k':=hq.1;subst hk1;exact .cons (z3b hk) (z51 t (by simpa using hl) fun j u e=>by simpa using h (j+1) u (by simpa using e))
theorem REs.keys {K:W.Frag}{H:Hp}{B B':Ad->Prop}:∀{kvs:List (Key×V)} {es:Ents},REs K H B kvs es->Reps K H B' (kvs.map fun kv=>kV kv.1) (es.map (·.1))
 |kvs,[],r=>by have e:kvs=[]:=r;subst e;exact rfl
 |kvs,(kd,d)::es,r=>by obtain⟨k,v,t,e,e2,ok,h,q⟩:=r;subst e e2;exact Reps.cons (zge ok) q.keys
section
variable {X:Cx}
end
section
variable {X:Cx}{a b:Expr}{pos:Pos}{fa fb:Rho->Res GD}
def rLK (K:W.Frag):List V->Hp->VK->Prop:=fun xs H Q=>∃d kvs es B,xs=[.ref d]/\H d=some (.dK kvs)/\REs K H B kvs es/\es.length<=LIM/\∀w H',Same H H'->Rep K H' (nw H) w (.list (es.map (·.1)))->Q w H'
theorem ze7 (hc:X.calm=true):CallR X (.type "list") (rLK X.K):=by intro pins s σ H xs us Q I r h;obtain⟨d,kvs,es,B,rfl,hd,rs,hl,q⟩:=h;obtain⟨u,rfl,ru⟩:=vals1 r;cases ru;obtain⟨hz,hsys,vs,rel,o,es',ep,ho,hcx,hdat,r3⟩:=zgs I.hok hd;have hat:s.heap.DictAt (z07 X.prog X.w) d vs ep:=⟨o,es',ho,hcx,hdat,r3⟩;have lk:kvs.length=vs.length:=rel.length;have le:kvs.length=es.length:=rs.length;refine kdl_call (kdl_dict (knd:=z07 X.prog X.w) (kvs:=vs) (ep:=ep) hsys) (I.ok.hd hc) hat (by omega) fun h' tk acc c hk hS hacc=>?_;have rv:Vals (kvs.map fun kv=>kV kv.1) acc.toList:=z51 rel (by rw[dw];exact hacc.1) fun j u e=>hacc.2 j u (by rw[<-ji];exact e);have hD:H s.heap.objs.size=none:=I.hok.fresh (ak _);have I3:=I.laid (a:=s.heap.objs.size) (o:=.lst (kvs.map fun kv=>kV kv.1)) (t':=tk) (h':=h') hk (ak _) ⟨by rw[aw];omega,acc.toList,c,rv,by simpa using hS⟩;exact⟨.ref s.heap.objs.size,_,I3,rfl,q _ _ (Same.upd hD) (z0x hD (REs.keys (B':=nw H) rs) (fun _ z=>z) hD)⟩
theorem d_lk {i:Nat}{f x:Str}{p p2:Pos}(hc:X.calm=true)(hm:X.mg f=none)(hb:ci f=some (.type "list"))(hg:Gl X f)(hn:f≠"__name__")(hfd:(f==("__debug__":Str))=false)
  (hN:X.N[i]?=some x) (hv:Vis X.env.scope x) (hdb:(x==("__debug__":Str))=false) (hcd:(x==("__classdict__":Str))=false):
  PE X (.Call (.Name f p) [.Name x p2] [] pos) (tD X.K fun ρ=>match ρ[i]? with
   |some (some (_,.dict es))=>if decide (es.length<=LIM)then .ok (.fr,.list (es.map (·.1)))else .no
   |_=>.no):=
 PE.imp (zea (ze7 hc) hm hb (pa_c (z15 hN hv hdb hcd) z1i rfl) rfl hg hn hfd) fun σ H Q zz=>by
  obtain⟨ρ,F,z,so,e,q⟩:=zz
  dsimp only at e
  split at e
  case h_2=>cases e
  rename_i g es hr;split at e
  case isFalse=>cases e
  rename_i hcond;cases e;obtain⟨d,kvs,B,hσ,hH,hV,rs⟩:=z9w so hr;exact⟨_,hσ,d,kvs,es,B,rfl,hH,rs,pf hcond,fun w H' sm rw'=>q w H' sm rw'⟩
end
section
variable {X:Cx}
end
end Mi
namespace Mi
open PySem PySem.Spec PyProof.Rows L2
section
variable {X:Cx}{tg a b c e:Expr}{es:List Expr}{fa fb:Rho->Res GD}{pos:Pos}
theorem zm9 {x:Str}{T:String}{m:List D->Res D}{fs:Rho->Res (List GD)}{p:Pos}(hc:CallR X (.type T) (z5d X.K m))(hm:X.mg x=none)(hv:ci x=some (.type T))(ha:PA X (e::es) (tDA X.K fs))(hst:((e::es).all fun e=>!isStar e)=true)(hg:Gl X x)(hn:x≠"__name__")(hdb:(x==("__debug__":Str))=false):
  PE X (.Call (.Name x p) (e::es) [] pos) (tD X.K fun ρ=>fs ρ>>=fun ys=>m (ys.map (·.2))>>=fun d=>.ok (gJ d .al,d)):=by
 refine PE.imp (zea hc hm hv ha hst hg hn hdb) fun σ H Q hq=>?_;obtain⟨ρ,F,z,so,e0,q⟩:=hq;obtain⟨ys,e1,e0⟩:=Res.bind_ok e0;obtain⟨d,e2,e0⟩:=Res.bind_ok e0;cases e0;exact⟨ρ,F,ys,so,e1,fun vs H1 s1 rs=>⟨_,_,d,rs.repsV so.vis,e2,fun w H2 s2 rw'=>q w H2 (s1.trans s2) (z24 rw' fun a h=>h.elim (fun z=>(nw.back s1 z).vis so.vis) fun z=>z)⟩⟩
theorem zd7:CallR X (.type "int") (z5d X.K (biD "int")):=by
 refine CallR.imp (CallR.or z9e z9i) fun xs H Q h=>?_;obtain⟨B,ds,d,r,e0,q⟩:=h;simp only[biD,show("int":String)≠"len" by decide,show("int":String)≠"max" by decide,if_true,if_false]at e0;split at e0
 ·rename_i i;cases e0;obtain⟨v,rfl,h1⟩:=z59 r;obtain rfl:v=.int i:=h1;exact .inl (.inl ⟨i,rfl,q _ H (Same.refl H) rfl⟩)
 ·rename_i k;cases e0;obtain⟨v,rfl,h1⟩:=z59 r;obtain rfl:v=.bl k:=h1;exact .inl (.inr ⟨k,rfl,q _ H (Same.refl H) rfl⟩)
 ·rename_i x;unfold intS at e0;split at e0
  ·rename_i hc;cases e0;rw[aq]at hc;obtain⟨v,rfl,h1⟩:=z59 r;obtain rfl:v=.str x:=h1.1;exact .inr ⟨x,rfl,hc.1,pf hc.2,q _ H (Same.refl H) rfl⟩
  ·cases e0
 ·cases e0
end
end Mi
namespace Mi
open PySem
section
variable {prog:am}{w:World}{A:bz}{E:Value->aa->Prop}{s:aa}{z TI TO:Addr}{f0:Value}{f1:Bool}
variable {i1 i2:Addr}{p1 p2:List Addr}{n1 n2 i:Nat}{P1 P2:Nat->Value->Prop}{S1 S2:Nat->Heap->Prop}{a b:Value}
end
end Mi
namespace Mi
open PySem PySem.Spec PyProof.Rows L2
section
variable {prog:am}{w:World}{A:bz}{E:Value->aa->Prop}{s:aa}
end
def IsB (h:Heap)(l:Bool)(a:Addr)(xs:Array Value):Prop:=match l with
 |true=>h.IsList a xs
 |false=>h.IsTuple a xs
def ItB (h:Heap)(l:Bool)(it a:Addr)(i:Nat):Prop:=match l with
 |true=>h.IsListIter it a i
 |false=>h.IsTupleIter it a i
def SqB (K:W.Frag)(H:Hp)(l:Bool)(a:Addr)(vs:List V):Prop:=match l with
 |true=>SqL K H a vs
 |false=>SqT K H a vs
def SrB (K:W.Frag)(H:Hp)(B:Ad->Prop)(l:Bool)(a:Addr)(vs:List V):Prop:=match l with
 |true=>(H a=some (.lst vs)/\B (some a))\/(FL K H a vs/\B none)
 |false=>SqT K H a vs
abbrev itObj (l:Bool)(a:Addr):Obj:={cls:=.type (if l then "list_iterator"else "tuple_iterator"),data:=.fields #[.ref a,.int 0 0]}
theorem SrB.keep {K:W.Frag}{H H2:Hp}{B:Ad->Prop}{l:Bool}{a:Addr}{vs:List V}(h:SrB K H B l a vs)(k:Kp B H H2):SqB K H2 l a vs:=by
 cases l with
 |true=>
  rcases h with⟨h,b⟩|⟨⟨o,h⟩|h,_⟩
  ·exact .inl (.inl (k a _ h (.inl b)))
  ·exact .inl (.inr ⟨o,k a _ h (.inr True.intro)⟩)
  ·exact .inr h
 |false=>exact SqT.keep k h
theorem SrB.of {K:W.Frag}{H:Hp}{B:Ad->Prop}{v:V}{d:D}{xs:List D}(r:Rep K H B v d)(e:seqR d=.ok xs):∃l a vs,v=.ref a/\SrB K H B l a vs/\Reps K H B vs xs/\xs.length<=LIM:=by
 cases d<;>try (exact(z0l e).elim)
 case list ds=>
  have e:(if decide (ds.length<=LIM)=true then Res.ok ds else Res.no)=Res.ok xs:=e;split at e
  ·rename_i hc;cases e;obtain⟨a,vs,rfl,h,rs⟩:=r;exact⟨true,a,vs,rfl,h,rs,pf hc⟩
  ·cases e
 case tuple ds=>
  have e:(if decide (ds.length<=LIM)=true then Res.ok ds else Res.no)=Res.ok xs:=e;split at e
  ·rename_i hc;cases e;obtain⟨a,vs,rfl,h,rs⟩:=r;exact⟨false,a,vs,rfl,h,rs,pf hc⟩
  ·cases e
section
variable {X:Cx}{pins:List (Addr×Obj)}{σ:L2.St}{H:Hp}{s:aa}
theorem SqB.items {l:Bool}{a:Addr}{vs:List V}(I:Inv X pins σ H s)(h:SqB X.K H l a vs):∃its:List Value,Vals vs its/\IsB s.heap l a its.toArray/\vs.length=its.length:=by
 cases l with
 |true=>obtain⟨its,rv,p,_⟩:=I.list h;exact⟨its,rv,p.isList,rv.length⟩
 |false=>obtain⟨its,rv,p,_⟩:=I.tuple h;exact⟨its,rv,p,rv.length⟩
end
theorem ItB.keep {h h':Heap}{l:Bool}{it a:Addr}{i:Nat}(x:ItB h l it a i)(k:∀o,h.get? it=some o->h'.get? it=some o):ItB h' l it a i:=by cases l<;>(obtain⟨o,ho,r⟩:=x;exact⟨o,k o ho,r⟩)
theorem ItB.new {h:Heap}{l:Bool}{it a:Addr}(x:h.get? it=some (itObj l a)):ItB h l it a 0:=by cases l<;>exact⟨_,x,rfl,rfl⟩
theorem IsB.lt {h:Heap}{l:Bool}{a:Addr}{xs:Array Value}(x:IsB h l a xs):a<h.objs.size:=by cases l<;>(obtain⟨o,ho,_⟩:=x;exact ax ho)
theorem IsB.push {h:Heap}{l:Bool}{a:Addr}{xs:Array Value}(x:IsB h l a xs)(o:Obj):IsB (h.push o) l a xs:=by cases l<;>(obtain⟨q,hq,r⟩:=x;exact⟨q,au _ hq,r⟩)
section
variable {X:Cx}{pins:List (Addr×Obj)}{σ:L2.St}{H:Hp}{s:aa}
end
section
variable {X:Cx}{pins:List (Addr×Obj)}{σ:L2.St}
end
section
variable {X:Cx}{pins:List (Addr×Obj)}{σ:L2.St}
end
section
variable {X:Cx}{a b:Expr}{fa fb:Rho->Res GD}{p pos:Pos}
theorem zl9 {es:List Expr}{fs:Rho->Res (List GD)}{lp:Pos}(h:PA X es (tDA X.K fs))(hb:PE X b (tD X.K fb))(hl:∀ρ xs,fs ρ=.ok xs->xs.length<=ah):PE X (.BinOp (.List es lp) .Mult b pos) (tD X.K fun ρ=>fs ρ>>=fun ys=>fb ρ>>=fun n=>repD ys n.2):=by
 refine PE.imp (zdd zhx (z82 h) hb) fun σ H Q zz=>?_;obtain⟨ρ,F,z,so,e,q⟩:=zz;obtain⟨ys,e1,e⟩:=Res.bind_ok e;obtain⟨n,e2,e⟩:=Res.bind_ok e;refine⟨ρ,F,ys,so,e1,fun vs H1 s1 rs=>?_⟩;have r:=rs.reps (B:=BG F H (gAll ys)) fun x hx a h=>z35 so.vis hx h;refine⟨by rw[r.length,aw];exact hl ρ ys e1,fun p hp=>?_⟩;have sm:=s1.trans (Same.upd (o:=.lst vs) hp);refine⟨ρ,F,n,so.same sm,e2,fun v H2 s2 rv=>?_⟩;obtain⟨g,d⟩:=n;cases d<;>try (exact(z0l e).elim)
 rename_i k;have e:(if imms (ys.map (·.2))=true/\0<=k/\k<=LIM/\ys.length*k.toNat<=LIM then Res.ok (G.fr,PyData.list (z0u k.toNat (ys.map (·.2))))else Res.no)=Res.ok z:=e;split at e
 case isFalse=>cases e
 rename_i hc;obtain⟨hi,h0,h1,h2⟩:=hc;cases e;obtain rfl:v=.int k:=rv;have hvl:vs.length=ys.length:=by rw[r.length,aw]
 refine⟨p,k,vs,rfl,rfl,s2 _ _ z02,by unfold LIM at h1;omega,by unfold LIM at h1;omega,z0c (by rw[hvl];exact h2),fun p2 hp2=>?_⟩;refine q _ _ ((sm.trans s2).trans (Same.upd hp2)) ?_
 have r2:Reps X.K H2 (BG F H .fr) (z0u k.toNat vs) (z0u k.toNat (ys.map (·.2))):=by
  have r0:Reps X.K H2 (BG F H .fr) vs (ys.map (·.2)):=Reps.immB _ hi (r.same ((Same.upd hp).trans s2) fun _ z=>z);unfold z0u;generalize k.toNat=m
  induction m with
  |zero=>exact rfl
  |succ m ih=>rw[da,da,du,du];exact Reps.append r0 ih
 have hnw:H p2=none:=by
  cases hh:H p2 with
  |none=>rfl
  |some o=>have:=(sm.trans s2) _ _ hh;rw[hp2]at this;cases this
 exact z0x hp2 r2 (fun _ z=>z) hnw
end
abbrev bmV:List Value:=[.type "ValueError",.type "Exception",.type "BaseException",.type "object"]
abbrev exV (K:W.Frag)(C:Addr):Bool:=W.excIn K C bmV "ValueError.__new__"
def XC (C:Addr)(h:Heap)(bm:List Value):Prop:=∃N nm q bs hdct sn sub ab col dd k0 k1 k2 k3 k5 mN,h.get? C=some (excClassObj nm q C N bs bm hdct sn sub ab col dd k0 k1 k2 k3 k5 "ValueError.__new__")/\h.Ns N mN/\mN "__init__"=none/\OwnTail h bmV bm
theorem z4g {K:W.Frag}{C:Addr}(q:exV K C=true):∃dd cd bm k0 k1 k2 k3 k5,K.lookup C=some ⟨.type "type",dd,.cls cd,#[k0,k1,k2,k3,some (.builtin "ValueError.__new__"),k5]⟩/\cd.mro=.ref C::bm/\cd.hasDel=false/\W.tailIn K bmV bm=true/\W.nsOkIn K cd.ns=true/\W.nsIn K cd.ns "__init__"=some none:=by
 have two:∀{a b:Bool},(a&&b)=true->a=true/\b=true:=aq.mp;unfold exV W.excIn at q;split at q
 ·rename_i dd cd sl ho;split at q
  ·rename_i A bm y0 y1 y2 y3 n y5 hm hs;obtain⟨q,q6⟩:=two q;obtain⟨q,q5⟩:=two q;obtain⟨q,q4⟩:=two q;obtain⟨q,q3⟩:=two q;obtain⟨q1,q2⟩:=two q;have e1:A=C:=pi q1;have e2:n="ValueError.__new__":=pi q2;have e3:sl=#[y0,y1,y2,y3,some (.builtin n),y5]:=Array.toList_inj.mp (by rw[hs]);refine⟨dd,cd,bm,y0,y1,y2,y3,y5,?_,?_,?_,q4,q5,pi q6⟩
   ·rw[ho,e3,e2]
   ·rw[hm,e1]
   ·cases hd:cd.hasDel with
    |false=>rfl
    |true=>rw[hd]at q3;cases q3
  ·cases q
 ·cases q
theorem z5u {K:W.Frag}{C:Addr}{dd:Option Addr}{cd:ClassData}{sl:Array (Option Value)}{bm:List Value}{v:Value}{b:Bool}(ho:K.lookup C=some ⟨.type "type",dd,.cls cd,sl⟩)(hm:cd.mro=.ref C::bm)(e:W.subIn K (.ref C) v=some b):(Value.ref C::bm).contains v=b:=by
 have e:W.mroIn K C v=some b:=e;unfold W.mroIn W.clsIn at e;rw[ho]at e
 dsimp only[Option.bind_some]at e
 rw[hm]at e;exact Option.some.inj e
theorem XC.mk {K:W.Frag}{C:Addr}{h:Heap}(X:K.In h)(q:exV K C=true):∃bm,XC C h bm/\∀v b,W.subIn K (.ref C) v=some b->(Value.ref C::bm).contains v=b:=by
 obtain⟨dd,cd,bm,k0,k1,k2,k3,k5,ho,hm,hd,ht,hk,hi⟩:=z4g q;refine⟨bm,⟨cd.ns,cd.name,cd.qualname,cd.bases,cd.hasDict,cd.slotNames,cd.subclasses,cd.abstract,cd.collection,dd,k0,k1,k2,k3,k5,h.nsMap cd.ns,?_,.of_isNs (W.isNs_of_in X hk),W.nsMap_none_of_in X hk hi,W.tail_of_in X ht⟩,fun v b e=>z5u ho hm e⟩;have h2:=X _ _ ho;cases cd
 dsimp only at hm hd
 rw[hm,hd]at h2;exact h2
section
variable {M:Model}{A:bz}{E:Value->aa->Prop}{h:Heap}{g:Array m9}{d:Drawn}{t:Nat}{os:j5}{C B e:Addr}{bm bm':List Value}{oe:Obj}{Q:Bool->aa->Prop}
theorem z8m {l:List Value}(T:OwnTail h bmV l):l.contains (.type "BaseException")=true:=T.hasType rfl
theorem zba (hC:XC C h bm)(hB:XC B h bm')(he:h.get? e=some oe)(hc:oe.cls=.ref C)(hin:(Value.ref C::bm).contains (.ref B)=true)(hq:Q true ⟨h,g,d,t,os⟩):wpAny M A (excMatches (.ref e) (.ref B)) Q E ⟨h,g,d,t,os⟩:=by
 obtain⟨_,_,_,_,_,_,_,_,_,_,_,_,_,_,_,_,oC,_,_,_⟩:=hC;obtain⟨_,_,_,_,_,_,_,_,_,_,_,_,_,_,_,_,oB,_,_,tB⟩:=hB;have hcB:(Value.ref B::bm').contains (.type "BaseException")=true:=by rw[m3,z8m tB,Bool.or_true]
 have f:=tc_notTuple;unfold excMatches
 repeat (first|(with_reducible refine gy he ?_;rw[hc])|with_reducible refine gy oB ?_|(with_reducible refine mh oB ?_;rw[hcB])|(with_reducible refine mh oC ?_;rw[hin])|wp_step)
 exact hq
end
section
variable {prog:am}{w:World}{A:bz}{E:Value->aa->Prop}{K:W.Frag}{h:Heap}{g:Array m9}{d:Drawn}{t:Nat}{os:j5}{C e:Addr}{oe:Obj}
structure XA (K:W.Frag)(C:Addr):Prop where
 cl:W.findIn K (.ref C) "__class__"=some (some (.builtin "object.__class__"))
 ga:W.findIn K (.ref C) "__getattribute__"=some (some (.builtin "BaseException.__getattribute__"))
 gt:W.findIn K (.ref C) "__getattr__"=some none
 ob:W.subIn K (.ref C) (.type "object")=some true
 be:W.subIn K (.ref C) (.type "BaseException")=some true
 ty:W.typeIn K (.ref C)=some (.type "type")
 is:(W.clsIn K C).isSome=true
 ex:exV K C=true
theorem z49 {M:Model}(he:h.get? e=some oe)(hc:oe.cls=.ref C):W.Looks M h (o5 (.ref e)) (.ref C):=by intro A Q E s k q;unfold o5;refine ag (wpAny_loadPart (k _ _ he) ?_);rw[hc];exact a0 q
theorem zk1 {R:oq->aa->Prop}{tp:Value}(X:K.In h)(a:XA K C)(he:h.get? e=some oe)(hc:oe.cls=.ref C)(hq:R (.ok (.ret (.ref C))) ⟨h,g,d,t,os⟩):
  jn (model prog w) A (.call (.builtin "getset_descriptor.__get__") ⟨[.builtin "object.__class__",.ref e,tp],[]⟩) R ⟨h,g,d,t,os⟩:=by
 have l0:=z49 (M:=model prog w) he hc;have l1:=W.looks_subIn (M:=model prog w) X a.ob;refine l7 W.KF.slot_gs.plain W.KF.entry_gs ?_;refine W.KF.slot_gs.check _ _ _ _ _ _ _ _ W.KF.type_class (W.KF.args_gs _ _ _) ?_;unfold Builtin.«getset_descriptor.__get__» Builtin.Getset_descriptor.descrGet;rw[W.dga_obj];refine ag (a0 ?_);unfold Builtin.Getset_descriptor.descrGetter Builtin.Getset_descriptor.descrCheckInstance Builtin.Getset_descriptor.descrNameAndClass o9;simp only[W.KF.owner_class]
 repeat lk
 refine⟨Code.quiet_builtin _ (by decide+kernel),?_⟩;refine codeAny_builtin W.KF.entry_class ?_;unfold Builtin.«object.__class__»;unfold shownTypeOf;repeat lk
 exact hq
theorem zer {tk:Tok}{Q:Fin->aa->Prop}(X:K.In h)(a:XA K C)(he:h.get? e=some oe)(hc:oe.cls=.ref C)(hq:Q (.done (.ret (.ref C))) ⟨h,g,d,t,os⟩):
  wpAny (model prog w) A (Builtin.«object.__getattribute__» ⟨[.ref e,.str "__class__" tk],[]⟩) Q E ⟨h,g,d,t,os⟩:=by
 have hT:(⟨h,g,d,t,os⟩:aa).TypeIs (.builtin "object.__class__") "getset_descriptor":=F.typeOf_object_class;have⟨f5,f6,f7⟩:=And.intro F.typeOf_object_class (And.intro F.slot_gs_get.lookup F.slot_gs_set.lookup);have l0:=W.looks_findIn (M:=model prog w) X a.cl
 repeat (any_goals (first|assumption|(with_reducible refine gy he ?_;rw[hc])|with_reducible refine l0.at ?_|wp_step))
 refine zk1 X a he hc ?_
 repeat' first|assumption|wp_step
theorem x_call {tk:Tok}{R:oq->aa->Prop}(X:K.In h)(a:XA K C)(he:h.get? e=some oe)(hc:oe.cls=.ref C)(hq:R (.ok (.ret (.ref C))) ⟨h,g,d,t,os⟩):
  jn (model prog w) A (.call (.builtin "BaseException.__getattribute__") ⟨[.ref e,.str "__class__" tk],[]⟩) R ⟨h,g,d,t,os⟩:=by
 refine l7 F.excAttr_ValueError.ga.plain F.entry_bexc_ga ?_;have l1:=W.looks_subIn (M:=model prog w) X a.be;have ar:=F.args_bexc_ga (.ref e) (.str "__class__" tk);have z1:builtinKind "BaseException.__getattribute__"=some .slot:=by decide+kernel
 have z2:splitId "BaseException.__getattribute__"=some ("BaseException","__getattribute__"):=by decide+kernel
 simp only[checkBuiltinCall,z1,z2];refine ag ?_;unfold o9
 repeat (first|(with_reducible refine zer X a he hc ?_;exact hq)|(with_reducible refine gy he ?_;rw[hc])|with_reducible refine l1.at ?_|wp_step)
theorem x_by {tk:Tok}{Q:Value->aa->Prop}(X:K.In h)(a:XA K C)(he:h.get? e=some oe)(hc:oe.cls=.ref C)(hq:Q (.ref C) ⟨h,g,d,t,os⟩):
  wpAny (model prog w) A (getAttrBy (.ref e) (.str "__class__" tk) false) Q E ⟨h,g,d,t,os⟩:=by
 have f3:=F.excAttr_ValueError.ga.bind (.ref e);have x2:(Value.builtin "BaseException.__getattribute__"==Value.builtin "object.__getattribute__")=false:=by decide+kernel
 have x1:(onTheHeap (Value.ref C)&&Value.builtin "BaseException.__getattribute__"==Value.builtin "object.__getattribute__")=false:=by rw[x2];rfl
 have l1:=W.looks_findIn (M:=model prog w) X a.ga;have l2:=W.looks_findIn (M:=model prog w) X a.gt
 repeat (any_goals (first|assumption|(with_reducible refine gy he ?_;rw[hc])|with_reducible refine l1.at ?_|with_reducible refine l2.at ?_|wp_step))
 refine x_call X a he hc ?_
 repeat' first|assumption|wp_step
theorem zfo {Q:Option Value->aa->Prop}(X:K.In h)(a:XA K C)(he:h.get? e=some oe)(hc:oe.cls=.ref C)(hq:Q (some (.ref C)) ⟨h,g,d,t+1,os⟩):wpAny (model prog w) A (o8 (.ref e) "__class__") Q E ⟨h,g,d,t,os⟩:=by
 unfold o8 getAttrBy?
 repeat (any_goals (first|assumption|with_reducible apply x_by X a he hc|wp_step))
theorem zhu {b:Bool}(q:exV K C=true)(e:W.subIn K (.ref C) (.ref C)=some b):b=true:=by obtain⟨dd,cd,bm,k0,k1,k2,k3,k5,ho,hm,_⟩:=z4g q;rw[<-z5u ho hm e,m3,beq_self_eq_true,Bool.true_or]
structure XV (K:W.Frag)(v:Value):Prop where
 ty:∀(M:Model) (h:Heap),K.In h->W.Looks M h (o5 v) (.type "type")
 is:∀(M:Model) (h:Heap),K.In h->W.Looks M h (isType v) true
theorem z5p {M:Model}{D:Addr}(X:K.In h)(q:(W.clsIn K D).isSome=true):W.Looks M h (isType (.ref D)) true:=by
 unfold W.clsIn at q;split at q
 ·rename_i ho;intro A Q E s k z;unfold isType;refine ag (mx (k _ _ (X _ _ ho)) ?_);exact a0 z
 ·cases q
theorem XV.own {D:Addr}(t:W.typeIn K (.ref D)=some (.type "type"))(q:(W.clsIn K D).isSome=true):XV K (.ref D):=⟨fun M h X=>W.looks_typeIn X t,fun M h X=>z5p X q⟩
theorem XV.val:XV K (.type "ValueError"):=⟨fun M h X=>W.Looks.of_pure (by kernel_rfl),fun M h X=>W.Looks.of_pure rfl⟩
theorem zma {v:Value}{b:Bool}{dep:Int}{tk:Tok}{Q:Fin->aa->Prop}(X:K.In h)(a:XA K C)(he:h.get? e=some oe)(hc:oe.cls=.ref C)(hv:XV K v)(hs:W.subIn K (.ref C) v=some b)(h1:Q (.done (.ret (.bool b))) ⟨h,g,d,t,os⟩)(h2:Q (.done (.ret (.bool b))) ⟨h,g,d,t+1,os⟩):
  wpAny (model prog w) A (Builtin.«isinstance.nested» ⟨[.ref e,v,.int dep tk],[]⟩) Q E ⟨h,g,d,t,os⟩:=by
 have l0:=z49 (M:=model prog w) he hc;have l1:=hv.ty (model prog w) h X;have l2:=hv.is (model prog w) h X;have l4:=W.looks_subIn (M:=model prog w) X hs;have l3:W.Looks (model prog w) h (o9 (.ref e) v) b:=l0.andThen l4;have l5:=z5p (M:=model prog w) X a.is;unfold Builtin.«isinstance.nested»;refine ag (l0.at ?_);by_cases q:(Value.ref C==v)=true
 ·rw[if_pos q];have hb:b=true:=by cases pi q;exact zhu a.ex hs
  subst hb;exact ag (wpAny_rule (ag (a0 (a0 h1))))
 ·rw[if_neg q];refine ag (l1.at ?_);rw[if_pos (beq_self_eq_true _)]
  k_delta "plainIsInstance"
  refine ag (ag (l2.at ?_));rw[if_neg (by decide)];refine ag (l3.at ?_);cases b with
  |true=>rw[if_pos rfl];exact a0 (a0 h1)
  |false=>rw[if_neg (by decide)];refine ag (zfo X a he hc ?_);refine ag (l5.at ?_);rw[if_neg (by decide)];refine ag (wpAny_rule ?_);exact l4.at (a0 h2)
theorem zki {v:Value}{b:Bool}{Q:Value->aa->Prop}{s:aa}(X:K.In s.heap)(a:XA K C)(he:s.heap.get? e=some oe)(hc:oe.cls=.ref C)(hv:XV K v)(hs:W.subIn K (.ref C) v=some b)(hq:∀t',Q (.bool b) {s with toks:=t'}):
  wpAny (model prog w) A (call (.builtin "isinstance") [.ref e,v]) Q E s:=
 call_isinstance (S:=fun _ R s=>(K.In s.heap/\s.heap.get? e=some oe)/\∀t',R (.ok (.ret (.bool b))) {s with toks:=t'}) (fun _ _ _ _ s hs'=>isinstance_outer (by obtain⟨h,g,d,t,os⟩:=s;exact zma hs'.1.1 a hs'.1.2 hc hv hs (hs'.2 t) (hs'.2 (t+1))) nofun) ⟨⟨X,he⟩,hq⟩
end
structure Fly (P:am)(w:World)(base:Heap)(outer:List Env)(H:Hp)(s:aa)(C a:Addr)(H':Hp)(s':aa):Prop where
 os:s'.os=s.os
 bare:jv s'.gens
 tups:∀b xs,H b=some (.tup xs)->H' b=some (.tup xs)
 frzs:∀b o u,H b=some (.frz o u)->H' b=some (.frz o u)
 tbls:∀b ps,H b=some (.tbl ps)->∃more,H' b=some (.tbl (ps++more))
 free:∀b o,s.heap.get? b=some o->H b=none->H' b=none
 hh:∃B t,base.StaysIn B/\HOk P w H' B/\(∀b o,s.heap.get? b=some o->b∉frs outer->∃o',B.get? b=some o'/\(H b=none->o'=o))/\Heap.FlyingW B outer a (.ref C) (.ref t) s'.heap
 slot:∀b o,s.heap.get? b=some o->H b=none->b∈frs outer->∃sl,s'.heap.get? b=some {o with slots:=sl}
def CXE (P:am)(w:World)(base:Heap):CXT:=fun outer H s E e s'=>∃a C H',e=.ref a/\Fly P w base outer H s C a H' s'/\E (.ref C) none H'
theorem z4s {P:am}{w:World}{H:Hp}{h:Heap}{a:Addr}{o:HO}(x:z0i P w H h a o):∃ob,h.get? a=some ob:=by
 cases o with
 |lst xs=>obtain⟨_,_,_,_,e⟩:=x;exact⟨_,e⟩
 |tup xs=>obtain⟨_,_,_,_,e⟩:=x;exact⟨_,e⟩
 |dK kvs=>obtain⟨_,_,_,_,o,_,_,e,_⟩:=x;exact⟨_,e⟩
 |dT kvs=>obtain⟨_,_,_,_,o,_,_,e,_⟩:=x;exact⟨_,e⟩
 |set S n=>obtain⟨o,_,_,_,e,_⟩:=x;exact⟨_,e⟩
 |ins C dx fs=>obtain⟨_,_,_,e,_⟩:=x;exact⟨_,e⟩
 |own y=>exact x
 |xd fs=>obtain⟨_,⟨_,_,_,e,_⟩,_⟩:=x;exact⟨_,e⟩
 |rng lo hi=>obtain⟨_,_,_,e⟩:=x;exact⟨_,e⟩
 |frz ob u=>exact⟨_,x.1⟩
 |tbl ps=>exact⟨_,x⟩
 |met f y=>exact⟨_,x⟩
 |ext φ=>exact x.2.1
section
variable {P:am}{w:World}{base:Heap}{outer:List Env}{H H':Hp}{s s':aa}{C a:Addr}
theorem Fly.hok (f:Fly P w base outer H s C a H' s'):HOk P w H' s'.heap:=by obtain⟨B,t,_,hB,_,fl⟩:=f.hh;exact hB.kept fl.1
theorem Fly.un (f:Fly P w base outer H s C a H' s'):Un (frs outer) [] H H' s.heap s'.heap:=by
 obtain⟨B,t,_,hB,cov,fl⟩:=f.hh;refine⟨fun b o e n hb _=>?_,fun b o e n hb _=>f.slot b o e n hb,fun b o e n _=>f.free b o e n,fun b o e _=>?_,f.tups,f.frzs,f.tbls⟩
 ·obtain⟨o',e1,e2⟩:=cov b o e hb;rw[e2 n]at e1;exact fl.1 b o e1
 ·by_cases hb:b∈frs outer
  ·obtain⟨_,o3,e3,_⟩:=fl.2.2.1.mem hb;exact⟨o3,e3⟩
  ·obtain⟨o',e1,_⟩:=cov b o e hb;exact⟨o',fl.1 b o' e1⟩
end
section
variable {X:Cx}{pins:List (Addr×Obj)}{σ:L2.St}{H H':Hp}{s s':aa}{C a:Addr}
theorem Fly.inv (f:Fly X.prog X.w X.base X.stack H s C a H' s')(I:Inv X pins σ H s):Inv X pins σ H' s':=by obtain⟨h',g,d,t,o⟩:=s';obtain rfl:o=s.os:=f.os;exact I.call (h':=h') (g':=g) (d':=d) (t':=t) (ch:=[]) f.un f.hok f.bare fun b z=>nomatch z
theorem Fly.leave {M:Model}{outer:List Env}{Q:Unit->aa->Prop}{E:Value->aa->Prop}(f:Fly X.prog X.w X.base X.stack H s C a H' s')(I:Inv X pins σ H s)(hs:X.stack=X.env::X.outer)(hf:X.env.frame=some X.env.locals)(hx:X.ex=[])
  (hQ:∀s'',Fly X.prog X.w X.base X.outer X.H₀ X.s₀ C a H' s''->Q () s''):wpAny M X.A (leaving X.env (.ref a)) Q E s':=by
 obtain⟨B,t,hb,hB,cov,fl⟩:=f.hh;rw[hs]at fl;have hfr:X.A.frames=some (X.env::X.outer):=by rw[<-hs];exact I.ok.frames
 have u0:=I.base
 have notF:∀b o,X.s₀.heap.get? b=some o->b∉frs X.outer->b∉frs X.stack:=fun b o e hn z=>by
  rw[hs]at z;unfold frs at z hn;rw[cn,hf]at z;rcases a9.mp z with z|z
  ·exact absurd (ax e) (by rw[z];exact Nat.not_lt.mpr I.ok.above)
  ·exact hn z
 have slot:∀h',s'.heap.UpToSlots h'->∀b o,X.s₀.heap.get? b=some o->X.H₀ b=none->b∈frs X.outer->∃sl,h'.get? b=some {o with slots:=sl}:=fun h' up b o e n hn=>by
  have nx:b∉X.ex:=by rw[hx];simp
  obtain⟨sl,e1⟩:=I.base.slot b o e n hn nx;have hst:b∈frs X.stack:=by rw[hs];unfold frs;rw[cn,hf];exact ao _ hn
  obtain⟨sl2,e2⟩:=f.slot b _ e1 (I.base.free b o e n nx) hst;obtain⟨_,o3,e3,nd⟩:=I.ok.funs.mem hn;rw[e]at e3;cases e3;obtain⟨sl3,e4⟩:=up b _ e2 nd;exact⟨sl3,e4⟩
 refine wpAny_leaves_onW hfr hf fl fun h' fl' up=>hQ _ ⟨f.os.trans I.os,f.bare,fun b xs e=>f.tups b xs (u0.tups b xs e),fun b o u e=>f.frzs b o u (u0.frzs b o u e),fun b ps e=>?_,fun b o e n=>?_,⟨B,t,hb,hB,fun b o e hn=>?_,fl'⟩,slot h' up⟩
 ·obtain⟨m1,e1⟩:=u0.tbls b ps e;obtain⟨m2,e2⟩:=f.tbls b _ e1;exact⟨m1++m2,by rw[e2,jx]⟩
 ·have nx:b∉X.ex:=by rw[hx];simp
  obtain⟨o',e'⟩:=I.base.there b o e nx;exact f.free b o' e' (I.base.free b o e n nx)
 ·have nx:b∉X.ex:=by rw[hx];simp
  obtain⟨o1,e1⟩:=I.base.there b o e nx;obtain⟨o2,e2,e3⟩:=cov b o1 e1 (notF b o e hn);refine⟨o2,e2,fun n=>?_⟩;rw[e3 (I.base.free b o e n nx)];have:=I.base.keep b o e n hn nx;rw[this]at e1;cases e1;rfl
theorem zb8 {P:am}{w:World}{H:Hp}{h:Heap}{l:List Addr}(x:HOk P w H h)(n:∀b∈l,H b=none):HOk P w H (W.hideAll h l):=fun b o e=>by
 refine(x b o e).stay (fun c u hc q=>W.hideAll_get _ q fun z=>?_) (fun _ q=>q) fun _ _ q=>q;rcases hc with rfl|hc
 ·rw[n c z]at e;cases e
 ·rw[n c z]at hc;cases hc
theorem z37 {M:Model}{Q:Unit->aa->Prop}{E:Value->aa->Prop}{args:List Value}{h1:Heap}(I:Inv X pins σ H s)(hm:l8 s.heap h1 a (.ref C) args)(hs:X.stack=X.env::X.outer)(hf:X.env.frame=some X.env.locals)(hx:X.ex=[])
  (hQ:∀s'',Fly X.prog X.w X.base X.outer X.H₀ X.s₀ C a H s''->Q () s''):wpAny M X.A (leaving X.env (.ref a)) Q E {s with heap:=h1}:=by
 have hfr:X.A.frames=some (X.env::X.outer):=by rw[<-hs];exact I.ok.frames
 have nx:∀b,b∉X.ex:=fun b=>by rw[hx];simp
 have hst:=I.stack;rw[hs]at hst;have hfree:∀b∈frs (X.env::X.outer),H b=none:=fun b hb=>I.stkFree b (by rw[hs];exact hb);have hin:∀env∈X.env::X.outer,∀b,env.frame=some b->b∈frs (X.env::X.outer):=fun env he b hb=>jy.mpr ⟨env,he,hb⟩
 have notF:∀b o,X.s₀.heap.get? b=some o->b∉frs X.outer->b∉frs (X.env::X.outer):=fun b o e hn z=>by
  unfold frs at z hn;rw[cn,hf]at z;rcases a9.mp z with z|z
  ·exact absurd (ax e) (by rw[z];exact Nat.not_lt.mpr I.ok.above)
  ·exact hn z
 have hbase:X.base.StaysIn (W.hideAll s.heap (frs (X.env::X.outer))):=fun b o e=>W.hideAll_get _ (I.bk b o e) (notF b o (I.ok.bs b o e).1 (I.ok.nofr e));refine wpAny_leaves_madeW (base:=W.hideAll s.heap (frs (X.env::X.outer))) (h:=s.heap) hfr hf (fun b o q=>W.of_hideAll _ q) (W.funFrames_hide hst hin) hm fun h' t fl _ _ up=>hQ _ ⟨I.os,I.bare,I.base.tups,I.base.frzs,I.base.tbls,fun b o e n=>I.base.free b o e n (nx b),⟨_,t,hbase,zb8 I.hok hfree,fun b o e hn=>?_,fl⟩,fun b o e n hn=>?_⟩
 ·obtain⟨o1,e1⟩:=I.base.there b o e (nx b);refine⟨o1,W.hideAll_get _ e1 (notF b o e hn),fun n=>?_⟩;rw[I.base.keep b o e n hn (nx b)]at e1;cases e1;rfl
 obtain⟨sl,e1⟩:=I.base.slot b o e n hn (nx b);obtain⟨_,o3,e3,nd⟩:=I.ok.funs.mem hn;rw[e]at e3;cases e3;obtain⟨sl3,e4⟩:=up b _ (hm.keeps _ _ e1) nd;exact⟨sl3,e4⟩
end
structure Lv (X:Cx)(H0:Hp)(c:Str):Prop where
 made:∀pins σ H s a C args h',Inv X pins σ H s->X.mg c=some (.ref C)->Same H0 H->l8 s.heap h' a (.ref C) args->X.xe (.ref a) {s with heap:=h'}
 fly:∀pins σ H s a C H' s',Inv X pins σ H s->X.mg c=some (.ref C)->Same H0 H'->Fly X.prog X.w X.base X.stack H s C a H' s'->X.xe (.ref a) s'
theorem Lv.mono {X:Cx}{H0 H1:Hp}{c:Str}(l:Lv X H0 c)(h:Same H0 H1):Lv X H1 c:=⟨fun pins σ H s a C args h' I m z=>l.made pins σ H s a C args h' I m (h.trans z),fun pins σ H s a C H' s' I m z=>l.fly pins σ H s a C H' s' I m (h.trans z)⟩
def Rz (X:Cx)(f:Rho->Option Str)(σ:L2.St)(H:Hp):Prop:=∃ρ F c,StOk X.K F H σ ρ/\f ρ=some c/\Lv X F.H0 c
def tR (X:Cx)(f:Rho->Option Str):TE:=fun σ H _=>Rz X f σ H
def tRT (X:Cx)(f:Rho->Option Str):TT:=fun σ H _=>Rz X f σ H
def tRA (X:Cx)(f:Rho->Option Str):TA:=fun σ H _=>Rz X f σ H
def tRS (X:Cx)(f:Rho->Option Str):TS:=fun _ σ H=>Rz X f σ H
def spX (K:W.Frag)(mg:Str->Option Value)(n:Nat)(m:Fn):Sp:=fun vs H _ E=>∃A ds c,vs.length=n/\Reps K H A vs ds/\excOf (m ds)=some c/\∀C H',mg c=some (.ref C)->Same H H'->E (.ref C) none H'
def CalX (P:am)(w:World)(K:W.Frag)(mg:Str->Option Value)(base:Heap)(k:Nat)(x:Str)(ps:List Str)(n:Nat)(m:Fn):Prop:=∃f fd,FnOk P w K mg base (CXE P w base) k f fd ps (spX K mg n m)/\mg x=some (.ref f)/\W.keepIn K (.ref f)=true/\Binds K fd ps []
section
variable {X:Cx}{e:Expr}{es:List Expr}{pos:Pos}
theorem z2p {f:Rho->Option Str}(h:∀ρ,f ρ=none)(σ:L2.St)(H:Hp):¬Rz X f σ H:=fun⟨ρ,F,c,_,e,_⟩=>by rw[h ρ]at e;cases e
theorem z39 {x c:Str}{k k' n:Nat}{ps:List Str}{m:Fn}{fs:Rho->Res (List GD)}{p:Pos}{pins:List (Addr×Obj)}{s:aa}{σ:L2.St}{H:Hp}{ρ:Rho}{F:Fm}{ys:List GD}(Cc:CalX X.prog X.w X.K X.mg X.base k x ps n m)(hr:Room k' X.A)(hk:k<=k')(ha:PA X (e::es) (tDA X.K fs))(hst:((e::es).all fun e=> !isStar e)=true)(hg:Gl X x)(hdb:(x==("__debug__":Str))=false)
  (hl:∀ρ ys,fs ρ=.ok ys->ys.length=n) (I:Inv X pins σ H s) (so:StOk X.K F H σ ρ) (e2:fs ρ=.ok ys) (e3:excOf (m (ys.map (·.2)))=some c)
  (hE:∀H1 s1 C a H' s',Inv X pins σ H1 s1->Same H H1->X.mg c=some (.ref C)->Same H1 H'->Fly X.prog X.w X.base X.stack H1 s1 C a H' s'->X.xe (.ref a) s'):wpAny (model X.prog X.w) X.A (eval (.Call (.Name x p) (e::es) [] pos) X.env) (fun _ _=>False) X.xe s:=by
 obtain⟨f,fd,Fo,hm,kp,b⟩:=Cc;rw[bn,aj]at hst;refine d5 (z1d I hg hm ?_ hdb);refine W.callWith_K (h₀:=X.base) I.ok.mod.kin kp (thn (ha pos pins s σ H (fun vs H1=>Same H H1/\RGs X.K F H H1 vs ys) I ⟨ρ,F,ys,so,e2,fun vs H1 s1 rg=>⟨s1,rg⟩⟩) fun us s1 zz=>?_) (z04 (by simpa using hst.1)) (z0b hst.2);obtain⟨vs,H1,I1,r,z1,rg⟩:=zz;refine⟨I1.kIn,?_⟩;have hsp:spX X.K X.mg n m vs H1 (fun _ _=>False) (fun v _ H'=>X.mg c=some v/\Same H1 H'):=⟨_,_,c,by rw[rg.len];exact hl ρ ys e2,rg.repsV so.vis,e3,fun C H' hC sm=>⟨hC,sm⟩⟩;have hlen:us.length=ps.length:=by rw[<-r.length];exact Fo.len _ _ _ _ hsp
 have hb:=b s1 us I1.kIn (by rw[fq];exact hlen);rw[fq]at hb;refine ou (jc (Fo.run X.A X.stack s1 H1 ⟨us,[]⟩ us vs _ _ (hr.mono hk) I1.env0 hb r hsp) fun rr s' hq=>?_);cases rr with
 |error e'=>obtain⟨a,C,H',rfl,fl,q1⟩:=hq;exact hE H1 s1 C a H' s' I1 z1 q1.1 q1.2 fl
 |ok fl=>
  cases fl with
  |ret u=>obtain⟨_,_,_,_,_,_,_,z⟩:=hq;exact z.elim
  |next=>exact hq.elim
  |brk=>exact hq.elim
  |cont=>exact hq.elim
theorem zf2 {x:Str}{k k' n:Nat}{ps:List Str}{m:Fn}{fs:Rho->Res (List GD)}{fx:Rho->Option Str}{p:Pos}(Cc:CalX X.prog X.w X.K X.mg X.base k x ps n m)(hr:Room k' X.A)(hk:k<=k')(ha:PA X (e::es) (tDA X.K fs))(hx:PA X (e::es) (tRA X fx))(hst:((e::es).all fun e=> !isStar e)=true)(hg:Gl X x)(hdb:(x==("__debug__":Str))=false)
  (hl:∀ρ ys,fs ρ=.ok ys->ys.length=n):PE X (.Call (.Name x p) (e::es) [] pos) (tR X fun ρ=>match fs ρ with|.ok ys=>excOf (m (ys.map (·.2)))|_=>fx ρ):=by
 intro pins s σ H Q I hq;obtain⟨ρ,F,c,so,e1,lv⟩:=hq;have e1:(match fs ρ with|.ok ys=>excOf (m (ys.map (·.2)))|_=>fx ρ)=some c:=e1
 have raw:(∃ys,fs ρ=.ok ys/\excOf (m (ys.map (·.2)))=some c)\/fx ρ=some c:=by
  cases e2:fs ρ with
  |ok ys=>rw[e2]at e1;exact .inl ⟨ys,rfl,e1⟩
  |exc z=>rw[e2]at e1;exact .inr e1
  |no=>rw[e2]at e1;exact .inr e1
 rcases raw with⟨ys,e2,e3⟩|e2
 ·exact thn (z39 Cc hr hk ha hst hg hdb hl I so e2 e3 fun H1 s1 C a H' s' I1 z1 q1 sm fl=>lv.fly pins σ H1 s1 a C H' s' I1 q1 (Same.trans so.ext (z1.trans sm)) fl) fun _ _ z=>z.elim
 ·obtain⟨f,fd,Fo,hm,kp,b⟩:=Cc;rw[bn,aj]at hst;refine d5 (z1d I hg hm ?_ hdb);refine W.callWith_K (h₀:=X.base) I.ok.mod.kin kp (thn (hx pos pins s σ H (fun _ _=>False) I ⟨ρ,F,c,so,e2,lv⟩) fun us s1 q=>?_) (z04 (by simpa using hst.1)) (z0b hst.2);obtain⟨vs,H1,I1,r,q⟩:=q;exact q.elim
theorem zcr {fa:Rho->Res GD}{fx fr:Rho->Option Str}(hs:isStar e=false)(ha:PE X e (tD X.K fa))(hx:PE X e (tR X fx))(hr:PA X es (tRA X fr)):PA X (e::es) (tRA X fun ρ=>match fa ρ with|.ok _=>fr ρ|_=>fx ρ):=by
 intro pos pins s σ H Q I hq;obtain⟨ρ,F,c,so,e1,lv⟩:=hq;have e1:(match fa ρ with|.ok _=>fr ρ|_=>fx ρ)=some c:=e1
 have raw:(∃y,fa ρ=.ok y/\fr ρ=some c)\/fx ρ=some c:=by
  cases e2:fa ρ with
  |ok ys=>rw[e2]at e1;exact .inl ⟨ys,rfl,e1⟩
  |exc z=>rw[e2]at e1;exact .inr e1
  |no=>rw[e2]at e1;exact .inr e1
 rw[z04 hs];show wpAny _ _ (spliced ((false,eval e X.env)::fi pos (bv es X.env))) _ _ s;rcases raw with⟨y,e2,e3⟩|e2
 ·refine i6 (thn (ha pins s σ H (fun v H1=>Same H H1) I ⟨ρ,F,y,so,e2,fun v H1 s1 _=>s1⟩) fun u s1 zz=>?_);obtain⟨v,H1,I1,r1,q1⟩:=zz;exact thn (hr pos pins s1 σ H1 (fun _ _=>False) I1 ⟨ρ,F,c,so.same q1,e3,lv⟩) fun us s2 zz=>by obtain⟨_,_,_,_,z⟩:=zz;exact z.elim
 ·exact i6 (thn (hx pins s σ H (fun _ _=>False) I ⟨ρ,F,c,so,e2,lv⟩) fun u s1 zz=>by obtain⟨_,_,_,_,z⟩:=zz;exact z.elim)
theorem zhr {a:Expr}{f:Rho->Option Str}(ha:PT X a (tRT X f)):PT X (.UnaryOp .Not a pos) (tRT X f):=PT.imp (z9a ha) fun σ H Q z=>z
theorem zj8 {f:Rho->Option Str}(ha:PE X e (tR X f))(he:∀whole,lr e X.env whole=(do let v <-whole;oj e.pos;ol [v] (oo v))):PT X e (tRT X f):=PT.imp (zhd ha he) fun σ H Q z=>z
theorem zdg {f:Rho->Option Str}(hs:z0k e=false)(ha:PE X e (tR X f)):PS X (.Expr e pos) (tRS X f):=PS.imp (ps_e ha hs) fun D σ H z=>z
theorem zff {f:Rho->Option Str}{i:Nat}{x:Str}{px:Pos}(hN:X.N.Nodup)(hi:X.N[i]?=some x)(hx:Loc X.env.scope x)(hf:X.fn x=true\/X.env.scope.names.lookup x=some .local)(hs:z0k e=false)(ha:PE X e (tR X f)):PS X (.Assign [.Name x px] e pos) (tRS X f):=PS.imp (ps_s hN hi hx ha hs hf) fun D σ H z=>z
theorem zg2 {f:Rho->Option Str}(ha:PE X e (tR X f)):PS X (.Return (some e) pos) (tRS X f):=PS.imp (z6m ha) fun D σ H z=>z
theorem zl7 {c:Expr}{A B:List Stmt}{ft:Rho->Res Bool}{fx fa fb:Rho->Option Str}(hc:PT X c (tDT X.K ft))(hx:PT X c (tRT X fx))(ha:PSs X A (tRS X fa))(hb:PSs X B (tRS X fb)):PS X (.If c A B pos) (tRS X fun ρ=>match ft ρ with|.ok k=>if k then fa ρ else fb ρ|_=>fx ρ):=by
 intro pins s σ H D I hq;obtain⟨ρ,F,cl,so,e1,lv⟩:=hq;have e1:(match ft ρ with|.ok k=>if k then fa ρ else fb ρ|_=>fx ρ)=some cl:=e1
 have raw:(∃k,ft ρ=.ok k/\(if k then fa ρ else fb ρ)=some cl)\/fx ρ=some cl:=by
  cases e2:ft ρ with
  |ok ys=>rw[e2]at e1;exact .inl ⟨ys,rfl,e1⟩
  |exc z=>rw[e2]at e1;exact .inr e1
  |no=>rw[e2]at e1;exact .inr e1
 rcases raw with⟨k,e2,e3⟩|e2
 ·refine zdi hc ha hb pins s σ H D I ⟨ρ,F,k,so,e2,fun H1 s1=>?_⟩;cases k with
  |true=>exact iteT ⟨ρ,F,cl,so.same s1,e3,lv⟩
  |false=>exact iteF ⟨ρ,F,cl,so.same s1,e3,lv⟩
 ·exact wpAny_If (thn (hx pins s σ H (fun _ _=>False) I ⟨ρ,F,cl,so,e2,lv⟩) fun d s1 zz=>by obtain⟨_,_,z⟩:=zz;exact z.elim)
theorem zit {st:Stmt}{rest:List Stmt}{fs:Rho->Res Out}{fx gx:Rho->Option Str}(h1:PS X st (tDS X.K fs))(hx:PS X st (tRS X fx))(h2:PSs X rest (tRS X gx)):PSs X (st::rest) (tRS X fun ρ=>match fs ρ with|.ok (.nx ρ')=>gx ρ'|.ok _=>none|_=>fx ρ):=by
 intro pins s σ H D I hq;obtain⟨ρ,F,cl,so,e1,lv⟩:=hq;have e1:(match fs ρ with|.ok (.nx ρ')=>gx ρ'|.ok _=>none|_=>fx ρ)=some cl:=e1
 have raw:(∃ρ',fs ρ=.ok (.nx ρ')/\gx ρ'=some cl)\/fx ρ=some cl:=by
  cases e2:fs ρ with
  |ok o=>
   rw[e2]at e1;cases o with
   |nx ρ'=>exact .inl ⟨ρ',rfl,e1⟩
   |rt=>cases e1
   |bk=>cases e1
   |ct=>cases e1
  |exc z=>rw[e2]at e1;exact .inr e1
  |no=>rw[e2]at e1;exact .inr e1
 rcases raw with⟨ρ',e2,e3⟩|e2
 ·exact z3f h1 h2 pins s σ H D I ⟨ρ,F,_,so,e2,fun σ' H' F' so' r f=>⟨ρ',F',cl,so',e3,lv.mono r.1⟩⟩
 ·refine jl (thn (hx pins s σ H ⟨fun _ _=>False,fun _ _=>False,fun _ _=>False,fun _ _=>False⟩ I ⟨ρ,F,cl,so,e2,lv⟩) fun f s1 q=>?_);cases f with
  |next=>obtain⟨_,_,_,z⟩:=q;exact z.elim
  |brk=>obtain⟨_,_,_,z⟩:=q;exact z.elim
  |cont=>obtain⟨_,_,_,z⟩:=q;exact z.elim
  |ret u=>obtain⟨_,_,_,_,_,z⟩:=q;exact z.elim
theorem zix {t:Tg}{tg iter:Expr}{body:List Stmt}{fw:Rho->Res (G×List D×Rho)}{fs:Rho->Res Out}{fx:Rho->Option Str}(hp:db (model X.prog X.w) X.A X.env X.xe)(hc:X.calm=true)(hi:PI X tg iter (tDF X.K fw))(hg:PG X tg (tDG X.K t))(hb:PSs X body (tDS X.K fs))(hx:PSs X body (tRS X fx))(hs:∀x,dr iter X.env x=pure x):
  PS X (.For tg iter body [] pos) (tRS X fun ρ=>match fw ρ with
   |.ok w=>forX (fun x ρ1=>z0v t (gJ x w.1,x) ρ1>>=fun ρ2=>fs ρ2) (fun x ρ1=>match z0v t (gJ x w.1,x) ρ1 with|.ok ρ2=>fx ρ2|_=>none) w.2.1 w.2.2
   |_=>none):=by
 have hbx:PSs X body (fun D σ H=>tDS X.K fs D σ H\/tRS X fx D σ H):=fun pins s σ H D I z=>z.elim (hb pins s σ H D I) (hx pins s σ H D I);refine PS.imp (z63 hp hc hi hg hbx hs) fun D σ H zz=>?_;obtain⟨ρ,F,c,so,e,lv⟩:=zz
 dsimp only at e
 cases e1:fw ρ with
 |no=>rw[e1]at e;cases e
 |exc z=>rw[e1]at e;cases e
 |ok w=>
  rw[e1]at e
  dsimp only at e
  refine⟨ρ,F,w,so,e1,fun J B H1 F1 s1 r1 f1 so1 hBo hBi wk=>?_⟩;generalize hf:(fun x ρ1=>z0v t (gJ x w.1,x) ρ1>>=fun ρ2=>fs ρ2)=f at e;generalize hgx:(fun x ρ1=>match z0v t (gJ x w.1,x) ρ1 with|.ok ρ2=>fx ρ2|_=>none)=gx at e
  have kp:∀{F2:Fm} {H2:Hp},Frm F1 H1 F2 H2->Kp B H1 H2:=fun{F2 H2} fr a o e b=>by
   have hO:F1.O a=none:=by
    rcases b with b|b
    ·exact hBo a b
    ·cases e2:F1.O a with
     |none=>rfl
     |some j=>obtain⟨_,_,h'⟩:=so1.own a j e2;rcases h' with⟨xs,h'⟩|⟨xs,h'⟩<;>rw[e]at h'<;>cases h'<;>exact b.elim
   exact(fr a o e hO).1
  let W:Nat->Nat->L2.St->Hp->Prop:=fun i m σ2 H2=>m=w.2.1.length-i/\i<=w.2.1.length/\∃ρ2 F2,StOk X.K F2 H2 σ2 ρ2/\Run F1 F2/\Frm F1 H1 F2 H2/\forX f gx (w.2.1.drop i) ρ2=some c
  refine⟨W,⟨_,rfl,cj _,w.2.2,F1,so1,Run.refl,Frm.refl,e⟩,?_⟩
  rintro i m σ2 H2 ⟨rfl,hile,ρ2,F2,so2,r2,f2,e2⟩
  by_cases hlt:i<w.2.1.length
  ·refine .inr ⟨wk.go H2 (kp f2) i hlt,W (i+1) (w.2.1.length-(i+1)),fun σ' H' p=>⟨_,by omega,p⟩,fun x H3 y=>?_⟩;obtain⟨s3,d,hd,rx⟩:=wk.yld H2 (kp f2) i x H3 hlt y
   have hdr:w.2.1.drop i=d::w.2.1.drop (i+1):=by
    have dc:=ip hlt;rw[dc];have:w.2.1[i]=d:=by rw[bh hlt]at hd;exact Option.some.inj hd
    rw[this]
   rw[hdr]at e2;simp only[forX]at e2;have so3:=so2.same s3
   have rx':Rep X.K H3 (BI F2 (gJ d w.1)) x d:=by
    have hBI:∀g a,BI F1 g a->BI F2 g a:=fun g a b=>by cases g<;>cases a<;>first|exact b|(have b':F1.V _:=b;rw[<-r2.2.1]at b';exact b')|(have b':F1.z:=b;rw[<-r2.2.2]at b';exact b')|(have b':F1.H0 _≠none/\F1.V _:=b;exact⟨fun z=>b'.1 (none_of r2.1 z),by rw[r2.2.1];exact b'.2⟩)
    unfold gJ;by_cases hi:imm d=true
    ·rw[if_pos hi];exact Rep.immB d hi rx
    ·rw[if_neg hi];exact rx.weak fun a b=>hBI _ _ (hBi a b)
   cases e5:z0v t (gJ d w.1,d) ρ2 with
   |no=>rw[<-hf,<-hgx]at e2;simp only[e5,Res.no_bind]at e2;cases e2
   |exc z=>rw[<-hf,<-hgx]at e2;simp only[e5,Res.exc_bind]at e2;cases e2
   |ok ρ3=>
    have ef:f d ρ2=fs ρ3:=by rw[<-hf];show(z0v t (gJ d w.1,d) ρ2>>=fun ρ2=>fs ρ2)=_;rw[e5];rfl
    have eg:gx d ρ2=fx ρ3:=by rw[<-hgx];show(match z0v t (gJ d w.1,d) ρ2 with|.ok ρ2=>fx ρ2|_=>none)=_;rw[e5]
    rw[ef,eg]at e2;refine⟨ρ2,F2,(gJ d w.1,d),ρ3,so3,rx',e5,fun σ4 F4 so4 kps=>?_⟩;have r4:Run F1 F4:=r2.trans (Run.of kps.h0 kps.v kps.z);have f4:Frm F1 H1 F4 H3:=f2.trans fun a o e n=>⟨s3 a o e,kps.o a n⟩;cases e6:fs ρ3 with
    |ok o1=>
     rw[e6]at e2;refine .inl ⟨ρ3,F4,o1,so4,e6,?_⟩;cases o1 with
     |nx ρ5=>exact fun σ' H' F' so' r' f'=>⟨rfl,hlt,ρ5,F',so',r4.trans r',f4.trans f',e2⟩
     |ct ρ5=>exact fun σ' H' F' so' r' f'=>⟨rfl,hlt,ρ5,F',so',r4.trans r',f4.trans f',e2⟩
     |bk ρ5=>cases e2
     |rt g d=>cases e2
    |exc z=>rw[e6]at e2;exact .inr ⟨ρ3,F4,c,so4,e2,lv.mono (r1.trans r4).1⟩
    |no=>rw[e6]at e2;exact .inr ⟨ρ3,F4,c,so4,e2,lv.mono (r1.trans r4).1⟩
  ·have hie:i=w.2.1.length:=by omega
   subst hie;rw[km]at e2;cases e2
theorem ziq:PSs X [] (tRS X fun _=>none):=fun pins s σ H D I hq=>(z2p (fun _=>rfl) σ H hq).elim
theorem zec {x z:Str}{np cp kp:Pos}{kk:Nat}{C:Addr}(hh:X.A.handled=none)(hg:Gl X x)(hm:X.mg x=some (.ref C))(hdb:(x==("__debug__":Str))=false)(hC:exV X.K C=true):PS X (.Raise (some (.Call (.Name x np) [.Constant (.str z) kk kp] [] cp)) none pos) (tRS X fun _=>some x):=by
 intro pins s σ H D I hq;obtain⟨ρ,F,c,so,e1,lv⟩:=hq;cases e1;obtain⟨bm,⟨N,nm,q,bs,hdct,sn,sub,ab,col,dd,k0,k1,k2,k3,k5,mN,oC,hN,hni,T⟩,_⟩:=XC.mk I.mod.kin hC;have hb:=T.hasType (X:="BaseException") (b:=true) rfl;have hpl:(fi cp (bv [.Constant (.str z) kk kp] X.env)).any (·.1)=false:=rfl;have hA:=z2o (X:=X) (z8n (x:=z) (j:=kk) (pos:=kp)) z1i;refine ln (nm:=nm) (q:=q) (C:=C) (N:=N) (bs:=bs) (bm:=bm) (hdct:=hdct) (sn:=sn) (sub:=sub) (ab:=ab) (col:=col) (dd:=dd) (k0:=k0) (k1:=k1) (k2:=k2) (k3:=k3) (k5:=k5) (mN:=mN) PySem.F.excBase_ValueError hb hh hpl hni (z1d I hg hm ⟨rfl,?_⟩ hdb);have hA2:=hA cp pins s σ H (fun vs H1=>vs.length=1/\H1=H) I ⟨rfl,rfl⟩;refine g8 (thn hA2 fun us s1 zz=>?_);obtain⟨vs,H1,I1,r,hv,rfl⟩:=zz;have hl:us.length=1:=by rw[<-r.length];exact hv
 exact⟨rfl,by rw[hl];decide,I1.bk _ _ oC,hN.keeps I1.bk,T.keeps I1.bk,fun h' a hx=>lv.made pins σ H1 s1 a C us h' I1 hm so.ext hx⟩
end
def inX (X:Cx)(i:Nat)(n:Str)(a:Addr)(oe:Obj):Cx:={X with A:=X.A.mark (some (.ref a)),N:=X.N.set i "",calm:=false,pn:=(a,oe)::X.pn,xe:=fun _ _=>False,fx:=some (n,.ref a)}
section
variable {X:Cx}{pins:List (Addr×Obj)}{σ:L2.St}{H:Hp}{s:aa}{i:Nat}{n:Str}{a:Addr}{oe:Obj}
theorem zgz (ok:X.Ok)(nd:X.N.Nodup)(hi:X.N[i]?=some n)(hv:X.env.scope.names.lookup ("":Str)=none)(hl:X.env.scope.names.lookup n=some .local):(inX X i n a oe).Ok:=by
 refine⟨ok.mod,ok.kind,ok.glob,ok.blt,ok.above,ok.inj,ok.has,ok.cab,fun z=>(by cases z),ok.frames,ok.stk,ok.exf,ok.bs,ok.bsz,ok.noex,ok.exfs,ok.funs,ok.frf,fun x u z=>?_⟩;cases z;refine⟨fun hm=>?_,hl⟩;obtain⟨j,hj⟩:=List.mem_iff_getElem?.mp hm;have hj:(X.N.set i "")[j]?=some n:=hj;by_cases e:i=j
 ·subst e;rw[cz (a8.mp hi).1]at hj;cases hj;rw[hv]at hl;cases hl
 ·rw[bd e]at hj;exact e (z2f nd hi hj)
theorem zgh (I:Inv X pins σ H s)(nd:X.N.Nodup)(hi:X.N[i]?=some n)(hv:X.env.scope.names.lookup ("":Str)=none)(hl:X.env.scope.names.lookup n=some .local)(hσ:σ[i]?=some (some (.ref a)))
  (ho:s.heap.get? a=some oe) (hH:H a=none) (h1:a≠X.env.locals) (h2:a∉X.fs) (h3:∀v,oe.data≠.cell v):Inv (inX X i n a oe) pins (σ.set i none) H s:=by
 obtain⟨m,hn,hlk⟩:=I.loc;refine⟨zgz I.ok nd hi hv hl,I.os,I.bare,I.base,⟨m,hn,fun j x v e1 e2 e3=>?_⟩,I.cell,I.free,I.freeC,fun p hp=>?_,I.hok,?_,fun x u z=>?_⟩
 ·have e1:(X.N.set i "")[j]?=some x:=e1;by_cases e:i=j
  ·subst e;rw[cz (by rw[I.len];exact(a8.mp hi).1)]at e2;cases e2
  ·rw[bd e]at e1 e2;exact hlk j x v e1 e2 e3
 ·rcases a9.mp (show p∈(a,oe)::(X.pn++pins)from hp)with rfl|hp
  ·exact⟨ho,hH,h1,h2,h3⟩
  ·exact I.pin p hp
 ·show(σ.set i none).length=(X.N.set i "").length;rw[bx,bx];exact I.len
 ·cases z;obtain⟨u,r,q⟩:=hlk i n (.ref a) hi hσ (.inl hl);cases r;rcases q with⟨_,q⟩|⟨k,_⟩
  ·exact⟨m,hn,q⟩
  ·have k:X.env.scope.names.lookup n=some .cell\/X.env.scope.names.lookup n=some .free:=k;rcases k with k|k<;>(rw[hl]at k;cases k)
theorem zf1 (ok:X.Ok)(hx:X.fx=none)(hi:X.N[i]?=some n)(I:Inv (inX X i n a oe) pins σ H s):Inv X pins (σ.set i none) H s:=by
 obtain⟨m,hn,hlk⟩:=I.loc;have hlen:σ.length=(X.N.set i "").length:=I.len;rw[bx]at hlen;refine⟨ok,I.os,I.bare,I.base,⟨m,hn,fun j x v e1 e2 e3=>?_⟩,I.cell,I.free,I.freeC,fun p hp=>I.pin p (ao _ hp),I.hok,by rw[bx];exact hlen,fun x u z=>by rw[hx]at z;cases z⟩;by_cases e:i=j
 ·subst e;rw[cz (by rw[hlen];exact(a8.mp hi).1)]at e2;cases e2
 ·rw[bd e]at e2;exact hlk j x v (show(X.N.set i "")[j]?=some x by rw[bd e];exact e1) e2 e3
theorem zj2 {M:Model}{A:bz}{E:Value->aa->Prop}{Q:Unit->aa->Prop}{v:V}{pos:Pos}(I:Inv X pins σ H s)(hx:X.fx=none)(nd:X.N.Nodup)(hi:X.N[i]?=some n)(hl:X.env.scope.names.lookup n=some .local)(hσ:σ[i]?=some (some v))
  (h:∀s',Inv X pins (σ.set i none) H s'->Q () s'):wpAny M A (g9 X.env n pos) Q E s:=by
 obtain⟨m,hn,hlk⟩:=id I.loc;have cne:=I.cne;obtain⟨u,r,q⟩:=hlk i n v hi hσ (.inl hl)
 have hv:m n=some u:=by
  rcases q with⟨_,q⟩|⟨k,_⟩
  ·exact q
  ·have k:X.env.scope.names.lookup n=some .cell\/X.env.scope.names.lookup n=some .free:=k;rcases k with k|k<;>(rw[hl]at k;cases k)
 have hcls:(X.env.scope.kind==.class||(X.env.scope.kind==.module&&X.env.locals != X.env.globals))=false:=by rw[I.ok.kind];rfl
 unfold g9;refine wpAny_onRaise (wpAny_unbindName_local hl hn hv hcls fun h' u' hn' hs=>h _ ?_);obtain⟨oL,_,_,hoL,_⟩:=id hn;have old:∀b o,X.s₀.heap.get? b=some o->b≠X.env.locals:=fun b o e=>cg (bp (ax e) I.ok.above);refine⟨I.ok,I.os,I.bare,⟨fun b o e z hb hx=>(hs.2 b (old b o e)).trans (I.base.keep b o e z hb hx),fun b o e z hb hx=>?_,I.base.free,fun b o e hx=>?_,I.base.tups,I.base.frzs,I.base.tbls⟩,⟨_,hn',fun j y w e1 e2 e3=>?_⟩,fun y c e=>?_,I.free,I.freeC,fun p hp=>?_,fun b ob e=>?_,by rw[bx];exact I.len,fun x u z=>by rw[hx]at z;cases z⟩
 ·obtain⟨sl,e1⟩:=I.base.slot b o e z hb hx;exact⟨sl,(hs.2 b (old b o e)).trans e1⟩
 ·obtain⟨o',e1⟩:=I.base.there b o e hx;exact⟨o',(hs.2 b (old b o e)).trans e1⟩
 ·by_cases hj:i=j
  ·subst hj;rw[cz (by rw[I.len];exact(a8.mp hi).1)]at e2;cases e2
  ·rw[bd hj]at e2;obtain⟨u2,r2,q2⟩:=hlk j y w e1 e2 e3;refine⟨u2,r2,?_⟩;have hy:y≠n:=fun z=>hj (z2f nd hi (z▸e1));rcases q2 with⟨k,q2⟩|⟨k,c,e,z⟩
   ·exact .inl ⟨k,by simp only[if_neg hy];exact q2⟩
   ·exact .inr ⟨k,c,e,z.sameBut hs (cne y c e)⟩
 ·obtain⟨w,z⟩:=I.cell y c e;exact⟨w,z.sameBut hs (cne y c e)⟩
 ·obtain⟨e,nn,ne,nf,dd⟩:=I.pin p hp;exact⟨(hs.2 p.1 ne).trans e,nn,ne,nf,dd⟩
 ·have nl:∀c w,H c=some w->c≠X.env.locals:=fun c w q z=>by rw[z,I.free]at q;cases q
  exact(I.hok b ob e).stay (fun c w hc q=>(hs.2 c (hc.elim (fun z=>by rw[z];exact nl b _ e) fun z=>nl c _ z)).trans q) (fun _ q=>q) fun _ _ q=>q
theorem StOk.forget {K:W.Frag}{F:Fm}{H:Hp}{σ:L2.St}{ρ:Rho}{v:Option V}(so:StOk K F H σ ρ):StOk K F H (σ.set i v) (ρ.set i none) where
 ext:=so.ext
 vis:=so.vis
 own:=so.own
 len:=by rw[bx,bx];exact so.len
 sl:=fun j g d e=>by
  by_cases h:i=j
  ·subst h;rw[cy]at e;split at e
   ·split at e<;>cases e
   ·exact absurd rfl (by assumption)
  ·rw[bd h]at e;obtain⟨w,h1,h2⟩:=so.sl j g d e;exact⟨w,by rw[bd h];exact h1,h2⟩
theorem z7v {M:Model}{Dn:Ends}{pos:Pos}{D2:Ends}{E:Value->aa->Prop}{f:Flow}{s:aa}(ok:X.Ok)(hx:X.fx=none)(nd:X.N.Nodup)(hi:X.N[i]?=some n)(hl:X.env.scope.names.lookup n=some .local)(hnx:∀σ' H',D2.nx σ' H'->Dn.nx (σ'.set i none) H')(hrt:∀v H',D2.rt v H'->Dn.rt v H')(hbk:∀σ' H',¬D2.bk σ' H')(hct:∀σ' H',¬D2.ct σ' H')
  (h:SP (inX X i n a oe) pins D2 f s):wpAny M X.A (do bindName X.env n .none;g9 X.env n pos) (fun _ s5=>SP X pins Dn f s5) E s:=by
 have key:∀{σ':L2.St} {H':Hp} {Q:Unit->aa->Prop},Inv (inX X i n a oe) pins σ' H' s->(∀s5,Inv X pins (σ'.set i none) H' s5->Q () s5)->wpAny M X.A (do bindName X.env n .none;g9 X.env n pos) Q E s:=fun{σ' H' Q} I k=>by
  have I1:=zf1 ok hx hi I;refine ag (wpAny_bindName (z2j I1 nd hi (.inl hl) (v:=.non) rfl (fun s4 I4 _=>?_) (.inr hl)));have hlt:i<(σ'.set i none).length:=by rw[I1.len];exact(a8.mp hi).1
  refine zj2 I4 hx nd hi hl (v:=.non) (cz hlt) fun s5 I5=>k s5 ?_;rw[n6,n6]at I5;exact I5
 cases f with
 |next=>obtain⟨σ',H',I,q⟩:=h;exact key I fun s5 I5=>⟨_,H',I5,hnx σ' H' q⟩
 |ret u=>obtain⟨v,σ',H',I,r,q⟩:=h;exact key I fun s5 I5=>⟨v,_,H',I5,r,hrt v H' q⟩
 |brk=>obtain⟨σ',H',_,q⟩:=h;exact(hbk σ' H' q).elim
 |cont=>obtain⟨σ',H',_,q⟩:=h;exact(hct σ' H' q).elim
theorem zbf {P:am}{w:World}{base:Heap}{outer:List Env}{H H':Hp}{s s':aa}{C a:Addr}(f:Fly P w base outer H s C a H' s'):H' a=none:=by
 obtain⟨B,t,_,hB,_,fl⟩:=f.hh;cases e:H' a with
 |none=>rfl
 |some u=>obtain⟨o,q⟩:=z4s (hB a u e);rw[fl.2.1]at q;cases q
theorem handle {Dn:Ends}{B:Str}{C D:Addr}{H1 H':Hp}{s1 s':aa}{F:Fm}{ρ:Rho}{fb:Rho->Res Out}{out:Out}{b0:Stmt}{suite:List Stmt}{np hp:Pos}(I:Inv X pins σ H1 s1)(fl:Fly X.prog X.w X.base X.stack H1 s1 C a H' s')(so:StOk X.K F H' σ ρ)(hs:X.stack=X.env::X.outer)(hf:X.env.frame=some X.env.locals)(hx:X.fx=none)(nd:X.N.Nodup)(hi:X.N[i]?=some n)(hv:X.env.scope.names.lookup ("":Str)=none)(hl:X.env.scope.names.lookup n=some .local)
  (hB:X.mg B=some (.ref D)) (xC:exV X.K C=true) (xD:exV X.K D=true) (sb:W.subIn X.K (.ref C) (.ref D)=some true) (hgB:Gl X B) (hdB:(B==("__debug__":Str))=false)
  (hsu:∀a oe,oe.cls=.ref C->PSs (inX X i n a oe) (b0::suite) (tDS X.K fb)) (eo:outI i (fb (ρ.set i none))=.ok out) (q:z2a X.K F H' Dn out):
  wpAny (model X.prog X.w) X.A (noteFrame (.ref a) X.env) (fun _ s2=>wpAny (model X.prog X.w) X.A (setFlight (.ref a) none) (fun _ s3=>wpAny (model X.prog X.w) X.A (handleBy (.ref a) X.env [.ExceptHandler (some (.Name B np)) (some n) (b0::suite) hp]) (SP X pins Dn) X.xe s3) X.xe s2) X.xe s':=by
 have hfr:X.A.frames=some (X.env::X.outer):=by rw[<-hs];exact I.ok.frames
 obtain⟨B0,t,hb0,hB0,cov,w0⟩:=fl.hh;have w0':=w0;rw[hs]at w0';have mk:∀h6,Heap.FlyingW B0 (X.env::X.outer) a (.ref C) (.ref t) h6->s'.heap.UpToSlots h6->Fly X.prog X.w X.base X.stack H1 s1 C a H' {s' with heap:=h6}:=fun h6 w6 up=>by refine⟨fl.os,fl.bare,fl.tups,fl.frzs,fl.tbls,fl.free,⟨B0,t,hb0,hB0,cov,by rw[hs];exact w6⟩,fun b o e z hb=>?_⟩;obtain⟨sl,e1⟩:=fl.slot b o e z hb;obtain⟨_,o3,e3,nd3⟩:=I.stack.mem hb;rw[e]at e3;cases e3;obtain⟨sl3,e4⟩:=up b _ e1 nd3;exact⟨sl3,e4⟩
 refine wpAny_looks_onW hfr hf w0' fun h4 held up4=>?_;refine wpAny_landsW held fun h5 w5 up5=>?_;have f5:=mk h5 w5 (up4.trans up5);have I5:=f5.inv I;refine wpAny_handleBy_cons (codeAny_handlers_test ?_) (by intro z;cases z);refine gz I5.ok.kind hgB (kg (by rw[I5.ok.glob];exact I5.mod.glob.keeps I5.bk) hB ?_) hdB;obtain⟨bmC,oC,cC⟩:=XC.mk I5.kIn xC;obtain⟨bmD,oD,_⟩:=XC.mk I5.kIn xD;obtain⟨ob,hob,hobc⟩:=w5.there;refine zba oC oD hob hobc (cC _ _ sb) ?_;refine codeAny_handlers_suite_as (lands_againW w5 fun h6 w6 up6=>?_);have f6:=mk h6 w6 ((up4.trans up5).trans up6);have I6:=f6.inv I;obtain⟨oe,ws,hoe,hoec,hoed,_⟩:=w6.first;refine z2j I6 nd hi (.inl hl) (v:=.ref a) rfl (fun s7 I7 ch=>?_) (.inr hl);obtain⟨ad,sbt,had⟩:=ch;have nL:a≠X.env.locals:=fun z=>by obtain⟨_,o3,e3,nd3⟩:=I6.stack.mem (b:=X.env.locals) (by rw[hs,cn,hf];exact av);rw[<-z]at e3;have e3:h6.get? a=some o3:=e3;rw[hoe]at e3;cases e3;exact nd3 ws hoed
 have nF:a∉X.fs:=fun z=>by obtain⟨_,o3,e3,nd3⟩:=I6.funs.mem (b:=a) z;have e3:h6.get? a=some o3:=e3;rw[hoe]at e3;cases e3;exact nd3 ws hoed
 have nA:a≠ad:=fun z=>by
  rcases had with h|h
  ·exact nL (z.trans h)
  ·obtain⟨v,oc,hoc,hocd⟩:=I6.cell n ad h;rw[<-z]at hoc;have hoc:h6.get? a=some oc:=hoc;rw[hoe]at hoc;cases hoc;rw[hoed]at hocd;cases hocd
 have ho7:s7.heap.get? a=some oe:=(sbt.2 a nA).trans hoe;have hlt:i<σ.length:=by rw[I.len];exact(a8.mp hi).1
 have I8:=zgh I7 nd hi hv hl (cz hlt) ho7 (zbf f6) nL nF (fun v z=>by rw[hoed]at z;cases z);rw[n6]at I8;have so8:=so.forget (i:=i) (v:=none)
 have fin:∀(r:Out),fb (ρ.set i none)=.ok r->z2a X.K F H' ⟨fun σ' H''=>Dn.nx (σ'.set i none) H'',Dn.rt,fun _ _=>False,fun _ _=>False⟩ r:=fun r er=>by
  rw[er]at eo;cases r with
  |nx ρ'=>cases eo;exact fun σ' H'' F' so' ru fr=>q (σ'.set i none) H'' F' so'.forget ru fr
  |rt g d=>cases eo;exact fun v H'' hk rv=>q v H'' hk rv
  |bk=>cases eo
  |ct=>cases eo
 cases er:fb (ρ.set i none)with
 |no=>rw[er]at eo;cases eo
 |exc z=>rw[er]at eo;cases eo
 |ok r=>refine gk (hsu a oe hoec pins s7 _ H' ⟨fun σ' H''=>Dn.nx (σ'.set i none) H'',Dn.rt,fun _ _=>False,fun _ _=>False⟩ I8 ⟨_,F,r,so8,er,fin r er⟩) (fun fl2 s9 h9=>?_) fun _ _ z=>z.elim;exact z7v (D2:=⟨fun σ' H''=>Dn.nx (σ'.set i none) H'',Dn.rt,fun _ _=>False,fun _ _=>False⟩) (pos:=hp) I.ok hx nd hi hl (fun _ _ z=>z) (fun _ _ z=>z) (fun _ _ z=>z) (fun _ _ z=>z) h9
theorem zlr {e:Expr}{es:List Expr}{f B c:Str}{k k' nn:Nat}{ps:List Str}{m:Fn}{fs:Rho->Res (List GD)}{fb:Rho->Res Out}{p cp ep np hp pos:Pos}{b0:Stmt}{suite:List Stmt}{C D:Addr}
  (Co:Cal X.prog X.w X.K X.mg X.base k f ps (spD X.K nn m)) {k2:Nat} {ps2:List Str} (Cx:CalX X.prog X.w X.K X.mg X.base k2 f ps2 nn m) (hr:Room k' X.A) (hk:k<=k') (hk2:k2<=k') (ha:∀E,PA (X.wish E) (e::es) (tDA X.K fs)) (hst:((e::es).all fun e=>!isStar e)=true) (hg:Gl X f) (hdb:(f==("__debug__":Str))=false) (hlen:∀ρ ys,fs ρ=.ok ys->ys.length=nn)
  (hs:X.stack=X.env::X.outer) (hf:X.env.frame=some X.env.locals) (hx:X.fx=none) (nd:X.N.Nodup) (hi:X.N[i]?=some n) (hv:X.env.scope.names.lookup ("":Str)=none) (hl:X.env.scope.names.lookup n=some .local)
  (hc:X.mg c=some (.ref C)) (hB:X.mg B=some (.ref D)) (xC:exV X.K C=true) (xD:exV X.K D=true) (sb:W.subIn X.K (.ref C) (.ref D)=some true) (hgB:Gl X B) (hdB:(B==("__debug__":Str))=false)
  (hsu:∀a oe,oe.cls=.ref C->PSs (inX X i n a oe) (b0::suite) (tDS X.K fb)):
  PS X (.Try [.Expr (.Call (.Name f p) (e::es) [] cp) ep] [.ExceptHandler (some (.Name B np)) (some n) (b0::suite) hp] [] [] pos) (tDS X.K fun ρ=>fs ρ>>=fun ys=>match m (ys.map (·.2))with|.ok _=>.ok (.nx ρ)|r=>if excOf r=some c then outI i (fb (ρ.set i none))else .no):=by
 intro pins s σ H Dn I hq;obtain⟨ρ,F,out,so,eo,q⟩:=hq;obtain⟨ys,e2,eo⟩:=Res.bind_ok eo
 have raw:(∃r,m (ys.map (·.2))=.ok r/\out=.nx ρ)\/(excOf (m (ys.map (·.2)))=some c/\outI i (fb (ρ.set i none))=.ok out):=by
  cases em:m (ys.map (·.2))with
  |ok r=>rw[em]at eo;cases eo;exact .inl ⟨r,rfl,rfl⟩
  |exc z=>
   rw[em]at eo;by_cases hz:excOf (.exc z)=some c
   ·have eo:(if excOf (.exc z)=some c then outI i (fb (ρ.set i none))else .no)=.ok out:=eo;rw[if_pos hz]at eo;exact .inr ⟨hz,eo⟩
   ·have eo:(if excOf (.exc z)=some c then outI i (fb (ρ.set i none))else .no)=.ok out:=eo;rw[if_neg hz]at eo;cases eo
  |no=>rw[em]at eo;have eo:(if excOf .no=some c then outI i (fb (ρ.set i none))else .no)=.ok out:=eo;rw[if_neg nofun]at eo;cases eo
 refine wpAny_Try_except ?_;generalize hE:(fun(e:Value) (s₁:aa)=>wpAny (model X.prog X.w) X.A (noteFrame e X.env) (fun _ s₂=>wpAny (model X.prog X.w) X.A (setFlight e none) (fun _ s₃=>wpAny (model X.prog X.w) X.A (handleBy e X.env [.ExceptHandler (some (.Name B np)) (some n) (b0::suite) hp]) (SP X pins Dn) X.xe s₃) X.xe s₂) X.xe s₁)=E;rcases raw with⟨r,e3,rfl⟩|⟨e3,e4⟩
 ·have h1:=z7s (ps_e (pos:=ep) (zc3 (X:=X.wish E) (p:=p) (pos:=cp) Co hr hk (ha E) hst hg hdb hlen) rfl);have e5:(fs ρ>>=fun ys=>m (ys.map (·.2))>>=fun r=>Res.ok (gJ r.2 (rtG r.1),r.2))=.ok (gJ r.2 (rtG r.1),r.2):=by rw[e2,Res.ok_bind,e3,Res.ok_bind]
  refine thn (h1 pins s σ H ⟨fun σ' H'=>σ'=σ/\Same H H',fun _ _=>False,fun _ _=>False,fun _ _=>False⟩ (I.wish E) ⟨ρ,F,_,so,e5,fun v H1 s1 _=>⟨rfl,s1⟩⟩) fun fl2 s2 h2=>?_;cases fl2 with
  |next=>obtain⟨σ',H',I2,rfl,z⟩:=h2;exact gp ⟨σ',H',I2.unwish,q σ' H' F (so.same z) Run.refl (Frm.same z)⟩
  |brk=>obtain⟨_,_,_,z⟩:=h2;exact z.elim
  |cont=>obtain⟨_,_,_,z⟩:=h2;exact z.elim
  |ret u=>obtain⟨_,_,_,_,_,z⟩:=h2;exact z.elim
 ·have h1:=z39 (X:=X.wish E) (p:=p) (pos:=cp) Cx hr hk2 (ha E) hst hg hdb hlen (I.wish E) so e2 e3 fun H1 s1 C' a H' s' I1 z1 q1 sm fl=>by
   have e6:X.mg c=some (.ref C'):=q1;rw[hc]at e6;cases e6;show E (.ref a) s';rw[<-hE];exact handle I1.unwish fl (so.same (z1.trans sm)) hs hf hx nd hi hv hl hB xC xD sb hgB hdB hsu e4 (q.back Run.refl (Frm.same (z1.trans sm)))
  exact jl (wpAny_Expr_any (thn h1 fun _ _ z=>z.elim) I.quiet (z0w rfl _ _ _))
end
section
variable {X:Cx}{n x:Str}{p p1 p2 pos:Pos}{a C:Addr}{oe:Obj}{v:V}{u:Value}{b:Bool}
theorem zmq (hx:X.fx=some (n,.ref a))(hl:X.env.scope.names.lookup n=some .local)(hd:(n==("__debug__":Str))=false):PE X (.Name n p) (fun _ H Q=>Q (.ref a) H):=by intro pins s σ H Q I h;obtain⟨m,hn,hm⟩:=I.fx n _ hx;exact mw (ls I.ok.kind hl hn hm ⟨.ref a,H,I,rfl,h⟩) hd
theorem zln (hg:Gl X x)(hm:X.mg x=some u\/(X.mg x=none/\ci x=some u/\x≠"__name__"))(r:RelV v u)(hd:(x==("__debug__":Str))=false):PE X (.Name x p) (fun _ H Q=>Q v H):=by
 intro pins s σ H Q I h;rcases hm with hm|⟨h1,h2,h3⟩
 ·exact z1d I hg hm ⟨v,H,I,r,h⟩ hd
 ·exact z36 I hg h1 h2 ⟨v,H,I,r,h⟩ h3 hd
def Xh (X:Cx)(a:Addr)(oe:Obj):Prop:=∀pins σ H s,Inv X pins σ H s->s.heap.get? a=some oe
theorem zmj (hm:X.mg "isinstance"=none)(hg:Gl X "isinstance")(hx:X.fx=some (n,.ref a))(hl:X.env.scope.names.lookup n=some .local)(hd:(n==("__debug__":Str))=false)(hp:Xh X a oe)(hc:oe.cls=.ref C)
  (hgx:Gl X x) (hmx:X.mg x=some u\/(X.mg x=none/\ci x=some u/\x≠"__name__")) (r:RelV v u) (ru:∀w,RelV v w->w=u) (hdx:(x==("__debug__":Str))=false) (xa:XA X.K C) (xv:XV X.K u) (hs:W.subIn X.K (.ref C) u=some b):
  PE X (.Call (.Name "isinstance" p) [.Name n p1,.Name x p2] [] pos) (tD X.K fun _=>.ok (.fr,.bool b)):=by
 intro pins s σ H Q I hq;obtain⟨ρ,F,z,so,e,q⟩:=hq;cases e;refine d5 (z36 (u:=.builtin "isinstance") I hg hm (by decide+kernel) ?_ (by decide) (by decide));have hA:=z2o (X:=X) (zmq (p:=p1) hx hl hd) (z2o (zln (p:=p2) hgx hmx r hdx) z1i);refine PyProof.Rows.callWith_builtin1 (thn (hA pos pins s σ H (fun vs H1=>vs=[.ref a,v]/\H1=H) I ⟨rfl,rfl⟩) fun us s1 zz=>?_) rfl rfl;obtain⟨vs,H1,I1,r1,rfl,rfl⟩:=zz;cases r1 with
 |cons ra rt=>
  cases rt with
  |cons rb rn=>cases rn;rename_i w1 w2;obtain rfl:w1=Value.ref a:=ra;have e2:w2=u:=ru w2 rb;subst e2;refine zki I1.kIn xa (hp _ _ _ _ I1) hc xv hs fun t'=>?_;exact⟨.bl b,H1,I1.tok _,rfl,q _ H1 (Same.refl H1) rfl⟩
end
section
theorem and2 {a b:Bool}(h:(a&&b)=true):a=true/\b=true:=aq.mp h
theorem and3 {a b c:Bool}(h:(a&&b&&c)=true):a=true/\b=true/\c=true:=⟨(and2 (and2 h).1).1,(and2 (and2 h).1).2,(and2 h).2⟩
theorem and4 {a b c d:Bool}(h:(a&&b&&c&&d)=true):a=true/\b=true/\c=true/\d=true:=⟨(and3 (and2 h).1).1,(and3 (and2 h).1).2.1,(and3 (and2 h).1).2.2,(and2 h).2⟩
theorem and5 {a b c d e:Bool}(h:(a&&b&&c&&d&&e)=true):a=true/\b=true/\c=true/\d=true/\e=true:=⟨(and4 (and2 h).1).1,(and4 (and2 h).1).2.1,(and4 (and2 h).1).2.2.1,(and4 (and2 h).1).2.2.2,(and2 h).2⟩
theorem z0j {b:Bool}(h:(!b)=true):b=false:=by cases b<;>first|rfl|cases h
theorem ff {b:Bool}{p:Prop}(h:b=false)(z:b=true):p:=by rw[h]at z;cases z
theorem z0d {α:Type}{l:List α}(h:l.isEmpty=true):l=[]:=by cases l<;>first|rfl|cases h
theorem z10 {α:Type}{l:List α}(h:(!l.isEmpty)=true):∃x r,l=x::r:=by cases l<;>first|exact⟨_,_,rfl⟩|cases h
theorem z00 {α:Type}{o:Option α}{f:α->Bool}(h:o.any f=true):∃v,o=some v/\f v=true:=by
 cases o with
 |none=>cases h
 |some v=>exact⟨v,rfl,h⟩
theorem v_of {α:Type}{o:Option α}{v:α}{q:α->Prop}(h:o=some v)(d:o=none\/∃u,o=some u/\q u):q v:=by
 rcases d with d|⟨u,d,z⟩
 ·rw[d]at h;cases h
 ·rw[d]at h;cases h;exact z
theorem q_Nm {e:Expr}{v:Str}(h:vNm e=some v):∃p,e=.Name v p:=v_of (q:=fun v=>∃p,e=.Name v p) h (by cases e<;>first|exact .inl rfl|exact .inr ⟨_,rfl,_,rfl⟩)
theorem z57 {e:Expr}{v:Const}(h:vCst e=some v):∃k p,e=.Constant v k p:=v_of (q:=fun v=>∃k p,e=.Constant v k p) h (by cases e<;>first|exact .inl rfl|exact .inr ⟨_,rfl,_,_,rfl⟩)
theorem zeo {e:Expr}{v:Expr×iu×Expr}(h:vBin e=some v):∃p,e=.BinOp v.1 v.2.1 v.2.2 p:=v_of (q:=fun v=>∃p,e=.BinOp v.1 v.2.1 v.2.2 p) h (by cases e<;>first|exact .inl rfl|exact .inr ⟨_,rfl,_,rfl⟩)
theorem q_Un {e:Expr}{v:UnaryOp×Expr}(h:vUn e=some v):∃p,e=.UnaryOp v.1 v.2 p:=v_of (q:=fun v=>∃p,e=.UnaryOp v.1 v.2 p) h (by cases e<;>first|exact .inl rfl|exact .inr ⟨_,rfl,_,rfl⟩)
theorem q_Cm {e:Expr}{v:Expr×List CmpOp×List Expr}(h:vCm e=some v):∃p,e=.Compare v.1 v.2.1 v.2.2 p:=v_of (q:=fun v=>∃p,e=.Compare v.1 v.2.1 v.2.2 p) h (by cases e<;>first|exact .inl rfl|exact .inr ⟨_,rfl,_,rfl⟩)
theorem q_Bo {e:Expr}{v:BoolOp×List Expr×Pos}(h:vBo e=some v):e=.BoolOp v.1 v.2.1 v.2.2:=v_of (q:=fun v=>e=.BoolOp v.1 v.2.1 v.2.2) h (by cases e<;>first|exact .inl rfl|exact .inr ⟨_,rfl,rfl⟩)
theorem zjp {e:Expr}{v:Expr×Expr×Expr}(h:vIfE e=some v):∃p,e=.IfExp v.1 v.2.1 v.2.2 p:=v_of (q:=fun v=>∃p,e=.IfExp v.1 v.2.1 v.2.2 p) h (by cases e<;>first|exact .inl rfl|exact .inr ⟨_,rfl,_,rfl⟩)
theorem z9d {e:Expr}{v:List Expr}(h:vTup e=some v):∃k p,e=.Tuple v k p:=v_of (q:=fun v=>∃k p,e=.Tuple v k p) h (by cases e<;>first|exact .inl rfl|exact .inr ⟨_,rfl,_,_,rfl⟩)
theorem zdb {e:Expr}{v:List Expr}(h:vLst e=some v):∃p,e=.List v p:=v_of (q:=fun v=>∃p,e=.List v p) h (by cases e<;>first|exact .inl rfl|exact .inr ⟨_,rfl,_,rfl⟩)
theorem q_Di {e:Expr}{v:List (Option Expr)×List Expr}(h:vDi e=some v):∃p,e=.Dict v.1 v.2 p:=v_of (q:=fun v=>∃p,e=.Dict v.1 v.2 p) h (by cases e<;>first|exact .inl rfl|exact .inr ⟨_,rfl,_,rfl⟩)
theorem z6r {e:Expr}{v:Expr×Expr}(h:vSub e=some v):∃p,e=.Subscript v.1 v.2 p:=v_of (q:=fun v=>∃p,e=.Subscript v.1 v.2 p) h (by cases e<;>first|exact .inl rfl|exact .inr ⟨_,rfl,_,rfl⟩)
theorem zn0 {e:Expr}{v:Option Expr×Option Expr×Option Expr}(h:vSli e=some v):∃p,e=.Slice v.1 v.2.1 v.2.2 p:=v_of (q:=fun v=>∃p,e=.Slice v.1 v.2.1 v.2.2 p) h (by cases e<;>first|exact .inl rfl|exact .inr ⟨_,rfl,_,rfl⟩)
theorem q_Ca {e:Expr}{v:Expr×List Expr×List i3×Pos}(h:vCa e=some v):e=.Call v.1 v.2.1 v.2.2.1 v.2.2.2:=v_of (q:=fun v=>e=.Call v.1 v.2.1 v.2.2.1 v.2.2.2) h (by cases e<;>first|exact .inl rfl|exact .inr ⟨_,rfl,rfl⟩)
theorem q_At {e:Expr}{v:Expr×Str×Pos}(h:vAt e=some v):e=.Attribute v.1 v.2.1 v.2.2:=v_of (q:=fun v=>e=.Attribute v.1 v.2.1 v.2.2) h (by cases e<;>first|exact .inl rfl|exact .inr ⟨_,rfl,rfl⟩)
theorem q_LC {e:Expr}{v:Expr×List iz×Scope}(h:vLC e=some v):∃p,e=.ListComp v.1 v.2.1 v.2.2 p:=v_of (q:=fun v=>∃p,e=.ListComp v.1 v.2.1 v.2.2 p) h (by cases e<;>first|exact .inl rfl|exact .inr ⟨_,rfl,_,rfl⟩)
theorem z11 {α:Type}{l:List α}{v:α}(h:vOne l=some v):l=[v]:=by rcases l with _|⟨x,_|⟨y,l⟩⟩<;>cases h;rfl
theorem zjh {α:Type}{l:List α}{v:α×α}(h:vTwo l=some v):l=[v.1,v.2]:=by rcases l with _|⟨x,_|⟨y,_|⟨z,l⟩⟩⟩<;>cases h;rfl
theorem z0t {e:Expr}{v:Str×List Expr}(h:z20 e=some v):∃q p,e=.Call (.Name v.1 q) v.2 [] p:=by
 obtain⟨u,hu,h⟩:=gi.mp h;cases hk:u.2.2.1.isEmpty with
 |false=>rw[hk]at h;exact absurd h nofun
 |true=>rw[hk]at h;obtain⟨x,hx,rfl⟩:=cf.mp h;obtain⟨q,hq⟩:=q_Nm hx;exact⟨q,_,by rw[q_Ca hu,hq,z0d hk]⟩
theorem q_Mt {e:Expr}{v:Expr×Str×List Expr×Bool}(h:vMt e=some v):∃ap cp,e=.Call (.Attribute v.1 v.2.1 ap) v.2.2.1 [] cp/\v.2.2.2=(ap.endLine==cp.line):=by
 obtain⟨u,hu,h⟩:=gi.mp h;cases hk:u.2.2.1.isEmpty with
 |false=>rw[hk]at h;exact absurd h nofun
 |true=>rw[hk]at h;obtain⟨x,hx,rfl⟩:=cf.mp h;exact⟨_,_,by rw[q_Ca hu,q_At hx,z0d hk],rfl⟩
theorem z12 {f:Str->Bool}{e:Expr}(h:hd1 f e=true):∃x p,e=.Name x p/\f x=true:=by obtain⟨x,hx,h⟩:=z00 h;obtain⟨p,hp⟩:=q_Nm hx;exact⟨x,p,hp,h⟩
def zlt (K:W.Frag)(mg:Str->Option Value)(c C:Str)(b:Bool):Prop:=∃A v u,mg c=some (.ref A)/\XA K A/\XV K u/\W.subIn K (.ref A) u=some b/\RelV v u/\(∀w,RelV v w->w=u)/\(mg C=some u\/(mg C=none/\ci C=some u/\C≠"__name__"))
def RsOk (K:W.Frag)(mg:Str->Option Value)(c:Str):Prop:=∃C,mg c=some (.ref C)/\exV K C=true
def zlo (K:W.Frag)(mg:Str->Option Value)(c B:Str):Prop:=∃C D,mg c=some (.ref C)/\mg B=some (.ref D)/\exV K C=true/\exV K D=true/\W.subIn K (.ref C) (.ref D)=some true
structure Xok (Γ:Gm)(K:W.Frag)(mg:Str->Option Value):Prop where
 sub:∀c C b,Γ.sub.contains (c,C,b)=true->zlt K mg c C b
 rs:∀c,Γ.rs.contains c=true->RsOk K mg c
 hnd:∀c B,Γ.hnd.contains (c,B)=true->zlo K mg c B
structure Cok (Γ:Gm)(Κ:List D)(Φ:List Fn)(X:Cx)(r:Nat):Prop where
 hN:X.N=Γ.N
 hs:X.env.scope=Γ.sc
 nd:Γ.N.Nodup
 fn:Γ.blk=false->∀x,X.fn x=true
 kind:Γ.sc.kind=.function
 free:∀x,Γ.free.contains x=true->X.mg x=none
 fns:∀(j:Nat) f n,Γ.fns[j]?=some (f,n)->∃m k ps,Φ[j]?=some m/\k<=r/\Cal X.prog X.w X.K X.mg X.base k f ps (spD X.K n m)
 cst:∀(j:Nat) x,Γ.cst[j]?=some x->∃d a,Κ[j]?=some d/\X.mg x=some (.ref a)/\∀H B,B none->Rep X.K H B (.ref a) d
 fnx:∀(j:Nat) f n,Γ.fns[j]?=some (f,n)->∃m k ps,Φ[j]?=some m/\k<=r/\CalX X.prog X.w X.K X.mg X.base k f ps n m
 room:Γ.cm=true->Room r X.A
 calm:Γ.cm=true->X.calm=true
 hu:X.A.units+64<cLine
 fun_:Γ.blk=false->X.stack=X.env::X.outer/\X.env.frame=some X.env.locals
 fx0:Γ.xc=none->X.fx=none
 xc:∀n c,Γ.xc=some (n,c)->∃a oe C,X.fx=some (n,.ref a)/\Xh X a oe/\oe.cls=.ref C/\X.mg c=some (.ref C)
 xk:Xok Γ X.K X.mg
section
variable {Γ:Gm}{Κ:List D}{Φ:List Fn}{X:Cx}{r:Nat}
theorem Cok.gl (k:Cok Γ Κ Φ X r){x:Str}(h:glB Γ x=true):Gl X x/\(x==("__debug__":Str))=false:=by unfold glB at h;rw[aj]at h;refine⟨?_,by simpa using h.2⟩;show X.env.scope.names.lookup x=_;rw[k.hs];simpa using h.1
theorem Cok.vis (k:Cok Γ Κ Φ X r){i:Nat}{x:Str}(h:visB Γ i x=true):X.N[i]?=some x/\Vis X.env.scope x/\(x==("__debug__":Str))=false/\(x==("__classdict__":Str))=false:=by
 unfold visB at h;simp only[aj,li,beq_iff_eq]at h;have⟨⟨⟨h1,h2⟩,h3⟩,h4⟩:=h;refine⟨by rw[k.hN];exact h1,?_,by simpa using h3,by simpa using h4⟩;unfold Vis;rw[k.hs];rcases h2 with(h2|h2)|h2
 ·exact .inl h2
 ·exact .inr (.inl h2)
 ·exact .inr (.inr h2)
theorem Cok.loc (k:Cok Γ Κ Φ X r){i:Nat}{x:Str}(h:locB Γ i x=true):X.N[i]?=some x/\Loc X.env.scope x/\(X.fn x=true\/X.env.scope.names.lookup x=some .local):=by
 unfold locB at h;simp only[aj,li,beq_iff_eq,nz]at h;obtain⟨h1,h2⟩:=h;refine⟨by rw[k.hN];exact h1,?_,?_⟩
 ·unfold L2.Loc;rw[k.hs];rcases h2 with h2|⟨_,h2⟩
  ·exact .inl h2
  ·exact .inr h2
 ·rcases h2 with h2|⟨h2,_⟩
  ·exact .inr (by rw[k.hs];exact h2)
  ·exact .inl (k.fn h2 x)
theorem Cok.blt (k:Cok Γ Κ Φ X r){x:Str}(h:bltB Γ x=true):Gl X x/\X.mg x=none/\(x==("__debug__":Str))=false/\x≠"__name__":=by unfold bltB at h;simp only[aq]at h;obtain⟨⟨h1,h2⟩,h3⟩:=h;obtain⟨g1,g2⟩:=k.gl h1;exact⟨g1,k.free x h2,g2,by simpa using h3⟩
theorem zf8 {X:Cx}{scope:Scope}{N':List Str}{C:Addr}{fp:List Addr}{s:aa}{H:Hp}:(blk X scope N' C fp s H).env.scope=zee scope X.env.scope:=rfl
theorem Cok.blk (k:Cok Γ Κ Φ X r){scope:Scope}{N':List Str}(hk:scope.kind=.function)(nd:N'.Nodup)(C:Addr)(fp:List Addr)(s:aa)(H:Hp):Cok {Γ with N:=N',sc:=zee scope Γ.sc,blk:=true,xc:=none} Κ Φ (blk X scope N' C fp s H) r where
 hN:=rfl
 hs:=by rw[zf8,k.hs]
 nd:=nd
 fn:=fun z=>by cases z
 kind:=hk
 free:=k.free
 fns:=k.fns
 cst:=k.cst
 fnx:=k.fnx
 room:=k.room
 calm:=k.calm
 hu:=k.hu
 fun_:=fun z=>by cases z
 fx0:=fun _=>rfl
 xc:=fun _ _ z=>by cases z
 xk:=⟨k.xk.sub,k.xk.rs,k.xk.hnd⟩
theorem zkp (k:Cok Γ Κ Φ X r)(all:List Nat){is:List Nat}:∀{es:List Expr},zfd Γ is es=true->PGs X es (tDGs X.K all is)/\(dj es X.env).length=is.length/\(dj es X.env).findIdx? (·.1)=none:=by
 induction is with
 |nil=>intro es h;cases z0d h;exact⟨zhz,rfl,rfl⟩
 |cons i is ih=>
  intro es h;cases es with
  |nil=>cases h
  |cons e es=>
   obtain⟨h0,h9⟩:=and2 h;obtain⟨x,p,rfl,h0⟩:=z12 h0;obtain⟨h1,h2,h3⟩:=k.loc h0;obtain⟨a1,a2,a3⟩:=ih h9;refine⟨zek (by rw[k.hN];exact k.nd) h1 h2 h3 a1,?_,?_⟩
   ·show(dj es X.env).length+1=_;rw[a2];rfl
   ·show((false,kq (.Name x p) X.env)::dj es X.env).findIdx? (·.1)=none;rw[List.findIdx?_cons,a3];rfl
theorem z7n (k:Cok Γ Κ Φ X r){t:Tg}{e:Expr}(h:z5j Γ t e=true):PG X e (tDG X.K t):=by
 cases t with
 |nm i=>obtain⟨x,p,rfl,h9⟩:=z12 h;obtain⟨h1,h2,h3⟩:=k.loc h9;exact zg5 (by rw[k.hN];exact k.nd) h1 h2 h3
 |tp is=>obtain⟨h0,h⟩:=and2 h;obtain⟨v,hv,h9⟩:=z00 h;obtain⟨_,_,rfl⟩:=z9d hv;obtain⟨a1,a2,a3⟩:=zkp k is h9;exact zle (k.calm h0) a1 rfl a3 a2.symm
theorem z22 {e:Expr}(h:plainT e=true)(env:Env):∀whole,lr e env whole=(do let v <-whole;oj e.pos;ol [v] (oo v)):=by
 intro whole;cases e<;>first|(cases h;done)|rfl|skip
 rename_i op x p;cases op<;>first|(cases h;done)|rfl
theorem z2h {e:Expr}(h:za5 e=true)(env:Env):∀x,dr e env x=pure x:=by intro x;cases e<;>first|(cases h;done)|rfl
end
variable (Κ:List D)(Φ:List Fn)
theorem zdn (c:C):∀(Γ:Gm) (es:List Expr) (ρ:Rho) (ys:List GD),chkA Γ c es=true->evA Κ Φ c ρ=.ok ys->ys.length=es.length/\(es.all fun e=>!isStar e)=true:=by
 induction c with
 |nil=>intro Γ es ρ ys h e;cases z0d h;cases e;exact⟨rfl,rfl⟩
 |cons a r _ ih=>
  intro Γ es ρ ys h e;cases es with
  |nil=>cases h
  |cons x es=>obtain⟨h1,_,h3⟩:=and3 h;obtain⟨y,_,e⟩:=Res.bind_ok e;obtain⟨ys',e2,e⟩:=Res.bind_ok e;cases e;obtain⟨i1,i2⟩:=ih Γ es ρ ys' h3 e2;exact⟨by rw[ay,ay,i1],by rw[bn,i2,h1];rfl⟩
 |_=>exact fun _ _ _ _ h=>ff rfl h
end
section
theorem zd9 {Γ:Gm}{T:String}{t:Expr}(h:tyB Γ T t=true):∃x p,t=.Name x p/\x=Str.ofString T/\bltB Γ x=true/\T∈tysB:=by obtain⟨x,p,e,h⟩:=z12 h;obtain⟨h1,h2,h3⟩:=and3 h;exact⟨x,p,e,pi h1,h2,ce.mp h3⟩
theorem or_l {a b:Bool}(h:(a||b)=true)(n:b=false):a=true:=by rw[n,Bool.or_false]at h;exact h
theorem zay {T:String}(h:T∈tysB):ci (Str.ofString T)=some (.type T):=by simp only[tysB,a9,df,or_false]at h;rcases h with rfl|rfl|rfl|rfl|rfl<;>decide+kernel
variable (Κ:List D)(Φ:List Fn)
theorem z0f {Γ:Gm}:∀{c:C} {es:List Expr},chkA Γ c es=true->(es.all fun e=>!isStar e)=true:=by
 intro c
 induction c with
 |nil=>intro es h;cases z0d h;rfl
 |cons a r _ ih=>
  intro es h;cases es with
  |nil=>rfl
  |cons e es=>obtain⟨h1,_,h3⟩:=and3 h;rw[bn,ih h3,h1];rfl
 |_=>exact fun h=>ff rfl h
theorem z1g {Γ:Gm}{c:C}{es:List Expr}(h:chkA Γ c es=true):∀ρ ys,evA Κ Φ c ρ=.ok ys->ys.length=es.length:=fun ρ ys e=>(zdn Κ Φ c Γ es ρ ys h e).1
structure Sd (c:C):Prop where
 E:∀(Γ:Gm) (X:Cx) (r:Nat) (e:Expr),Cok Γ Κ Φ X r->chkE Γ c e=true->PE X e (tD X.K (evE Κ Φ c))
 T:∀(Γ:Gm) (X:Cx) (r:Nat) (e:Expr),Cok Γ Κ Φ X r->chkT Γ c e=true->PT X e (tDT X.K (evT Κ Φ c))/\((∃o l p,e=.BoolOp o l p)->PW X e (tDT X.K (evT Κ Φ c)))
 Q:∀(Γ:Gm) (X:Cx) (r:Nat) (l:Expr) (ops:List CmpOp) (rs:List Expr) (pos:Pos),Cok Γ Κ Φ X r->chkE Γ c (.Compare l ops rs pos)=true->PT X (.Compare l ops rs pos) (tDT X.K fun ρ=>evE Κ Φ c ρ>>=fun x=>z0p x.2)
 A:∀(Γ:Gm) (X:Cx) (r:Nat) (es:List Expr),Cok Γ Κ Φ X r->chkA Γ c es=true->PA X es (tDA X.K (evA Κ Φ c))
 O:∀(Γ:Gm) (X:Cx) (r:Nat) (e:Option Expr),Cok Γ Κ Φ X r->chkO Γ c e=true->PO X e (tDO X.K (evO Κ Φ c))
 W:∀(Γ:Gm) (X:Cx) (r:Nat) (e tg:Expr),Cok Γ Κ Φ X r->zas c tg=true->chkW Γ c e=true->PI X tg e (tDW X.K (evW Κ Φ c))
 G:∀(Γ:Gm) (X:Cx) (r:Nat) (e:Expr),Cok Γ Κ Φ X r->chkG Γ c e=true->∃a,c=.tv a/\PE X e (tD X.K (evE Κ Φ a))
def isX:C->Nat
 |.and _ _|.or _ _|.not _|.tv _|.nil|.cons _ _|.rng _=>2
 |.cmp _ _ _|.isN _ _=>1
 |_=>0
variable {Κ:List D}{Φ:List Fn}{a b c:C}
section
variable {Γ:Gm}{e tg:Expr}{es:List Expr}{o:Option Expr}
theorem x_T (h:isX c<2):chkT Γ c e=false:=by cases c<;>first|rfl|exact absurd h (de 2)
theorem x_A (h:isX c<2):chkA Γ c es=false:=by cases c<;>first|rfl|exact absurd h (de 2)
theorem x_O (h:isX c<2):chkO Γ c o=false:=by cases c<;>first|rfl|exact absurd h (de 2)
theorem x_W (h:isX c<2):chkW Γ c e=false:=by cases c<;>first|rfl|exact absurd h (de 2)
theorem x_G (h:isX c<2):chkG Γ c e=false:=by cases c<;>first|rfl|exact absurd h (de 2)
end
theorem Sd.q (hE:∀(Γ:Gm) (X:Cx) (r:Nat) (e:Expr),Cok Γ Κ Φ X r->chkE Γ c e=true->PE X e (tD X.K (evE Κ Φ c)))(hQ:∀(Γ:Gm) (X:Cx) (r:Nat) (l:Expr) (ops:List CmpOp) (rs:List Expr) (pos:Pos),Cok Γ Κ Φ X r->chkE Γ c (.Compare l ops rs pos)=true->PT X (.Compare l ops rs pos) (tDT X.K fun ρ=>evE Κ Φ c ρ>>=fun x=>z0p x.2))(hx:isX c<2):Sd Κ Φ c:=⟨hE,fun _ _ _ _ _ h=>ff (x_T hx) h,hQ,fun _ _ _ _ _ h=>ff (x_A hx) h,fun _ _ _ _ _ h=>ff (x_O hx) h,fun _ _ _ _ _ _ _ h=>ff (x_W hx) h,fun _ _ _ _ _ h=>ff (x_G hx) h⟩
theorem x_Q {Γ:Gm}{l:Expr}{ops:List CmpOp}{rs:List Expr}{pos:Pos}(h:isX c=0):chkE Γ c (.Compare l ops rs pos)=false:=by cases c<;>first|rfl|(cases h;done)
theorem Sd.x (hE:∀(Γ:Gm) (X:Cx) (r:Nat) (e:Expr),Cok Γ Κ Φ X r->chkE Γ c e=true->PE X e (tD X.K (evE Κ Φ c)))(hx:isX c=0):Sd Κ Φ c:=Sd.q hE (fun _ _ _ _ _ _ _ _ h=>ff (x_Q hx) h) (by rw[hx];exact Nat.zero_lt_two)
theorem zlv {i:Nat}:Sd Κ Φ (.var i):=Sd.x (fun Γ X r e k h=>by obtain⟨x,p,rfl,h⟩:=z12 h;obtain⟨h1,h2,h3,h4⟩:=k.vis h;exact zjv h1 h2 h3 h4) rfl
theorem zkr:Sd Κ Φ .non:=Sd.x (fun Γ X r e k h=>by obtain⟨_,_,rfl⟩:=z57 (pf h);exact z3k zil fun _ _=>rfl) rfl
theorem p_bl {b:Bool}:Sd Κ Φ (.bl b):=Sd.x (fun Γ X r e k h=>by obtain⟨_,_,rfl⟩:=z57 (pf h);exact z3k zlf fun _ _=>rfl) rfl
theorem zld {b:Int}:Sd Κ Φ (.int b):=Sd.x (fun Γ X r e k h=>by obtain⟨_,_,rfl⟩:=z57 (pf h);exact z3k zgy fun _ _=>rfl) rfl
theorem zl5 {b:Str}:Sd Κ Φ (.str b):=Sd.x (fun Γ X r e k h=>by obtain⟨h1,h2⟩:=and2 h;obtain⟨_,_,rfl⟩:=z57 (pf h1);exact z3k z8n fun _ _=>⟨rfl,h2⟩) rfl
theorem zic {j:Nat}{x:Str}:Sd Κ Φ (.glob j x):=Sd.x (fun Γ X r e k h=>by
 obtain⟨y,p,rfl,h9⟩:=z12 h;obtain⟨h1,h2,h3⟩:=and3 h9;cases pi h1;obtain⟨g1,g2⟩:=k.gl h2;obtain⟨d,a,c1,c2,c3⟩:=k.cst j _ (pi h3);cases hi:imm d with
 |true=>
  refine PE.imp (zir g1 c2 g2 hi c3) fun σ H Q hq=>?_
  have ee:evE Κ Φ (.glob j x)=fun _=>.ok (.fr,d):=by
   funext ρ
   show(match Κ[j]? with|some d=>if imm d=true then Res.ok (G.fr,d)else .no|none=>.no)=_;rw[c1];show(if imm d=true then Res.ok (G.fr,d)else .no)=_;rw[hi];rfl
  rw[ee]at hq;exact hq
 |false=>intro pins s σ H Q I zz;obtain⟨ρ,F,z,so,e,q⟩:=zz;have e:(match Κ[j]? with|some d=>if imm d=true then Res.ok (G.fr,d)else .no|none=>.no)=.ok z:=e;rw[c1]at e;have e:(if imm d=true then Res.ok (G.fr,d)else .no)=.ok z:=e;rw[hi]at e;cases e) rfl
theorem zkw {op:iu}(ia:Sd Κ Φ a)(ib:Sd Κ Φ b):Sd Κ Φ (.bin op a b):=Sd.x (fun Γ X r e k h=>by obtain⟨v,hv,h9⟩:=z00 h;obtain⟨p,rfl⟩:=zeo hv;obtain⟨h1,h2,h3,h4⟩:=and4 h9;cases pf h1;exact zk9 h2 (ia.E Γ X r _ k h3) (ib.E Γ X r _ k h4)) rfl
theorem zmb (ia:Sd Κ Φ a):Sd Κ Φ (.neg a):=Sd.x (fun Γ X r e k h=>by obtain⟨⟨o,x⟩,hv,h9⟩:=z00 h;obtain⟨p,rfl⟩:=q_Un hv;obtain⟨h1,h2⟩:=and2 h9;cases pf h1;exact zkb (ia.E Γ X r _ k h2)) rfl
theorem zg8 {Γ:Gm}{op:CmpOp}{e:Expr}(h:chkE Γ (.cmp op a b) e=true):∃l r p,e=.Compare l [op] [r] p/\z33 op=true/\cx op r=false/\chkE Γ a l=true/\chkE Γ b r=true:=by obtain⟨⟨l,o,rs⟩,hv,h9⟩:=z00 h;obtain⟨p,rfl⟩:=q_Cm hv;obtain⟨h1,h2⟩:=and2 h9;obtain⟨r,hr,h3⟩:=z00 h2;cases pf h1;cases z11 hr;obtain⟨h2,h3,h4,h5⟩:=and4 h3;exact⟨l,r,p,rfl,h2,z0j h3,h4,h5⟩
theorem zkh {op:CmpOp}(ia:Sd Κ Φ a)(ib:Sd Κ Φ b):Sd Κ Φ (.cmp op a b):=Sd.q (fun Γ X r e k h=>by
 obtain⟨_,_,_,rfl,h2,h3,h4,h5⟩:=zg8 h;exact zmv k.hu h2 h3 (ia.E Γ X r _ k h4) (ib.E Γ X r _ k h5)) (fun Γ X r l ops rs p k h=>by
 obtain⟨_,_,_,he,h2,h3,h4,h5⟩:=zg8 h;cases he;exact zlw k.hu h2 h3 (ia.E Γ X r _ k h4) (ib.E Γ X r _ k h5)) Nat.one_lt_two
theorem zgr {Γ:Gm}{o:CmpOp}{w:Const}{e:Expr}(h:((vCm e).any fun v=>decide (v.2.1=[o])&&(vOne v.2.2).any fun r=>decide (vCst r=some w)&&chkE Γ a v.1)=true):∃l k q p,e=.Compare l [o] [.Constant w k q] p/\chkE Γ a l=true:=by obtain⟨⟨l,o,rs⟩,hv,h9⟩:=z00 h;obtain⟨p,rfl⟩:=q_Cm hv;obtain⟨h1,h2⟩:=and2 h9;obtain⟨r,hr,h3⟩:=z00 h2;obtain⟨h4,h5⟩:=and2 h3;cases pf h1;cases z11 hr;obtain⟨_,_,rfl⟩:=z57 (pf h4);exact⟨_,_,_,_,rfl,h5⟩
theorem zk4 {ng:Bool}(ia:Sd Κ Φ a):Sd Κ Φ (.isN ng a):=Sd.q (fun Γ X r e k h=>by
 obtain⟨_,_,_,_,rfl,h2⟩:=zgr h;exact zkc rfl (ia.E Γ X r _ k h2)) (fun Γ X r l ops rs p k h=>by
 obtain⟨_,_,_,_,he,h2⟩:=zgr h;cases he;exact zm0 rfl (ia.E Γ X r _ k h2)) Nat.one_lt_two
theorem z1f {f g:Expr->Bool}{o:BoolOp}{p:Pos}{xs:List Expr}(h:z3j f g o p xs=true):(∃x y,xs=[x,y]/\f x=true/\g y=true)\/∃x y z r,xs=x::y::z::r/\f x=true/\g (.BoolOp o (y::z::r) p)=true:=by
 rcases xs with _|⟨x,_|⟨y,_|⟨z,xs⟩⟩⟩
 ·cases h
 ·cases h
 ·exact .inl ⟨x,y,rfl,(and2 h).1,(and2 h).2⟩
 ·exact .inr ⟨x,y,z,xs,rfl,(and2 h).1,(and2 h).2⟩
theorem zmy (ia:Sd Κ Φ a)(ib:Sd Κ Φ b):Sd Κ Φ (.and a b) where
 E:=fun Γ X r e k h=>by
  obtain⟨⟨o,xs,p⟩,hv,h9⟩:=z00 h;cases q_Bo hv;obtain⟨h1,h2⟩:=and2 h9;cases pf h1;rcases z1f h2 with⟨x,y,rfl,h3,h4⟩|⟨x,y,z,t,rfl,h3,h4⟩
  ·exact zis (ia.E Γ X r _ k h3) (z6p (ib.E Γ X r _ k h4))
  ·exact zis (ia.E Γ X r _ k h3) (ib.E Γ X r _ k h4)
 T:=fun Γ X r e k h=>by
  obtain⟨⟨o,xs,p⟩,hv,h9⟩:=z00 h;cases q_Bo hv;obtain⟨h1,h2⟩:=and2 h9;cases pf h1;rcases z1f h2 with⟨x,y,rfl,h3,h4⟩|⟨x,y,z,t,rfl,h3,h4⟩
  ·have w:=w_and (pos:=p) (ia.T Γ X r _ k h3).1 (z9g (ib.T Γ X r _ k h4).1);exact⟨w.pt,fun _=>w⟩
  ·have w:=w_and (pos:=p) (ia.T Γ X r _ k h3).1 ((ib.T Γ X r _ k h4).2 ⟨_,_,_,rfl⟩);exact⟨w.pt,fun _=>w⟩
 Q:=fun _ _ _ _ _ _ _ _ h=>ff rfl h
 A:=fun _ _ _ _ _ h=>ff rfl h
 O:=fun _ _ _ _ _ h=>ff rfl h
 W:=fun _ _ _ _ _ _ _ h=>ff rfl h
 G:=fun _ _ _ _ _ h=>ff rfl h
theorem p_or (ia:Sd Κ Φ a)(ib:Sd Κ Φ b):Sd Κ Φ (.or a b) where
 E:=fun Γ X r e k h=>by
  obtain⟨⟨o,xs,p⟩,hv,h9⟩:=z00 h;cases q_Bo hv;obtain⟨h1,h2⟩:=and2 h9;cases pf h1;rcases z1f h2 with⟨x,y,rfl,h3,h4⟩|⟨x,y,z,t,rfl,h3,h4⟩
  ·exact d_or (ia.E Γ X r _ k h3) (z6p (ib.E Γ X r _ k h4))
  ·exact d_or (ia.E Γ X r _ k h3) (ib.E Γ X r _ k h4)
 T:=fun Γ X r e k h=>by
  obtain⟨⟨o,xs,p⟩,hv,h9⟩:=z00 h;cases q_Bo hv;obtain⟨h1,h2⟩:=and2 h9;cases pf h1;rcases z1f h2 with⟨x,y,rfl,h3,h4⟩|⟨x,y,z,t,rfl,h3,h4⟩
  ·have w:=w_or (pos:=p) (ia.T Γ X r _ k h3).1 (zbu (ib.T Γ X r _ k h4).1);exact⟨w.pt,fun _=>w⟩
  ·have w:=w_or (pos:=p) (ia.T Γ X r _ k h3).1 ((ib.T Γ X r _ k h4).2 ⟨_,_,_,rfl⟩);exact⟨w.pt,fun _=>w⟩
 Q:=fun _ _ _ _ _ _ _ _ h=>ff rfl h
 A:=fun _ _ _ _ _ h=>ff rfl h
 O:=fun _ _ _ _ _ h=>ff rfl h
 W:=fun _ _ _ _ _ _ _ h=>ff rfl h
 G:=fun _ _ _ _ _ h=>ff rfl h
theorem zm5 (ia:Sd Κ Φ a):Sd Κ Φ (.not a) where
 E:=fun Γ X r e k h=>by obtain⟨⟨o,x⟩,hv,h9⟩:=z00 h;obtain⟨p,rfl⟩:=q_Un hv;obtain⟨h1,h2⟩:=and2 h9;cases pf h1;exact zlu (ia.E Γ X r _ k h2)
 T:=fun Γ X r e k h=>by obtain⟨⟨o,x⟩,hv,h9⟩:=z00 h;obtain⟨p,rfl⟩:=q_Un hv;obtain⟨h1,h2⟩:=and2 h9;cases pf h1;exact⟨zj7 (ia.T Γ X r _ k h2).1,fun⟨_,_,_,z⟩=>by cases z⟩
 Q:=fun _ _ _ _ _ _ _ _ h=>ff rfl h
 A:=fun _ _ _ _ _ h=>ff rfl h
 O:=fun _ _ _ _ _ h=>ff rfl h
 W:=fun _ _ _ _ _ _ _ h=>ff rfl h
 G:=fun _ _ _ _ _ h=>ff rfl h
theorem z81 {e:Expr}(h:zch e=true):∃l o r p,e=.Compare l o r p:=by cases e<;>first|exact ff rfl h|exact⟨_,_,_,_,rfl⟩
theorem p_tv (ia:Sd Κ Φ a):Sd Κ Φ (.tv a) where
 E:=fun _ _ _ _ _ h=>ff rfl h
 T:=fun Γ X r e k h=>by
  obtain⟨h1,h2⟩:=and2 h;rcases dh.mp h1 with h1|h1
  ·exact⟨zku (ia.E Γ X r _ k h2) (z22 h1 _),fun⟨_,_,_,z⟩=>by subst z;cases h1⟩
  ·obtain⟨_,_,_,_,rfl⟩:=z81 h1;exact⟨ia.Q Γ X r _ _ _ _ k h2,fun⟨_,_,_,z⟩=>by cases z⟩
 Q:=fun _ _ _ _ _ _ _ _ h=>ff rfl h
 A:=fun _ _ _ _ _ h=>ff rfl h
 O:=fun Γ X r e k h=>by obtain⟨v,rfl,h⟩:=z00 h;exact zgk (ia.E Γ X r _ k h)
 W:=fun Γ X r e tg k _ h=>w_tv (ia.E Γ X r _ k (and2 h).2)
 G:=fun Γ X r e k h=>⟨a,rfl,ia.E Γ X r _ k h⟩
theorem zk5 (ic:Sd Κ Φ c)(ia:Sd Κ Φ a)(ib:Sd Κ Φ b):Sd Κ Φ (.ife c a b):=Sd.x (fun Γ X r e k h=>by obtain⟨v,hv,h9⟩:=z00 h;obtain⟨p,rfl⟩:=zjp hv;obtain⟨h1,h2,h3⟩:=and3 h9;exact zjr (ic.T Γ X r _ k h1).1 (ia.E Γ X r _ k h2) (ib.E Γ X r _ k h3)) rfl
theorem zls (ia:Sd Κ Φ a):Sd Κ Φ (.tup a):=Sd.x (fun Γ X r e k h=>by obtain⟨v,hv,h9⟩:=z00 h;obtain⟨_,_,rfl⟩:=z9d hv;obtain⟨h1,h2⟩:=and2 h9;exact zmk (ia.A Γ X r _ k h2) fun ρ ys e=>by rw[z1g Κ Φ h2 ρ ys e];exact z86 (pf h1)) rfl
theorem zl0 (ia:Sd Κ Φ a):Sd Κ Φ (.lst a):=Sd.x (fun Γ X r e k h=>by obtain⟨v,hv,h9⟩:=z00 h;obtain⟨_,rfl⟩:=zdb hv;obtain⟨h1,h2⟩:=and2 h9;exact zkm (ia.A Γ X r _ k h2) fun ρ ys e=>by rw[z1g Κ Φ h2 ρ ys e];exact z86 (pf h1)) rfl
theorem zke (ia:Sd Κ Φ a)(ib:Sd Κ Φ b):Sd Κ Φ (.rep a b):=Sd.x (fun Γ X r e k h=>by obtain⟨⟨x,o,y⟩,hv,h9⟩:=z00 h;obtain⟨p,rfl⟩:=zeo hv;obtain⟨h1,h2⟩:=and2 h9;obtain⟨es,he,h3⟩:=z00 h2;obtain⟨lp,rfl⟩:=zdb he;cases pf h1;obtain⟨h4,h5,h6⟩:=and3 h3;exact zl9 (ia.A Γ X r _ k h5) (ib.E Γ X r _ k h6) fun ρ ys e=>by rw[z1g Κ Φ h5 ρ ys e];exact z86 (pf h4)) rfl
theorem zh8:Sd Κ Φ .dnew:=Sd.x (fun Γ X r e k h=>by obtain⟨⟨a,b⟩,hv,h9⟩:=z00 h;obtain⟨_,rfl⟩:=q_Di hv;obtain⟨h1,h2⟩:=and2 h9;cases z0d h1;cases z0d h2;exact zjf) rfl
theorem p_ix (ia:Sd Κ Φ a)(ib:Sd Κ Φ b):Sd Κ Φ (.ix a b):=Sd.x (fun Γ X r e k h=>by obtain⟨v,hv,h9⟩:=z00 h;obtain⟨_,rfl⟩:=z6r hv;obtain⟨h1,h2,h3⟩:=and3 h9;exact d_ix k.hu h1 (ia.E Γ X r _ k h2) (ib.E Γ X r _ k h3)) rfl
theorem p_sl {lo hi:C}(ia:Sd Κ Φ a)(il:Sd Κ Φ lo)(ih:Sd Κ Φ hi):Sd Κ Φ (.sl a lo hi):=Sd.x (fun Γ X r e k h=>by obtain⟨⟨x,i⟩,hv,h9⟩:=z00 h;obtain⟨_,rfl⟩:=z6r hv;obtain⟨⟨l,u,s⟩,hs,h8⟩:=z00 h9;obtain⟨_,rfl⟩:=zn0 hs;obtain⟨h1,h2,h3,h4⟩:=and4 h8;cases dg.mp h1;exact d_sl (ia.E Γ X r _ k h2) (il.O Γ X r _ k h3) (ih.O Γ X r _ k h4)) rfl
theorem zjn {j:Nat}{f:Str}{args:C}(ia:Sd Κ Φ args):Sd Κ Φ (.call j f args):=Sd.x (fun Γ X r e k h=>by
 obtain⟨⟨x,es⟩,hv,h9⟩:=z00 h;obtain⟨_,_,rfl⟩:=z0t hv;obtain⟨h1,h2,h3,h4,h5⟩:=and5 h9;obtain⟨y,es,rfl⟩:=z10 h5;obtain⟨h0,h1⟩:=and2 h1;cases pi h1;obtain⟨g1,g2⟩:=k.gl h2;obtain⟨m,kk,ps,c1,c2,c3⟩:=k.fns j _ _ (pi h3);refine PE.imp (zc3 c3 (k.room h0) c2 (ia.A Γ X r _ k h4) (z0f h4) g1 g2 (z1g Κ Φ h4)) fun σ H Q hq=>?_
 have ee:evE Κ Φ (.call j x args)=fun ρ=>evA Κ Φ args ρ>>=fun ys=>m (ys.map (·.2))>>=fun r=>.ok (gJ r.2 (rtG r.1),r.2):=by
  funext ρ
  show(evA Κ Φ args ρ>>=fun ys=>match Φ[j]? with|some m=>m (ys.map (·.2))>>=fun r=>.ok (gJ r.2 (rtG r.1),r.2)|none=>.no)=_;rw[c1]
 rw[ee]at hq;exact hq) rfl
theorem p_bi {f:String}{args:C}(ia:Sd Κ Φ args):Sd Κ Φ (.bi f args):=Sd.x (fun Γ X r e k h=>by
 obtain⟨⟨x,es⟩,hv,h9⟩:=z00 h;obtain⟨_,_,rfl⟩:=z0t hv;obtain⟨h1,h2,h3,h4,h5⟩:=and5 h9;obtain⟨y,es,rfl⟩:=z10 h5;have h1:=pi h1;obtain⟨g1,g2,g3,g4⟩:=k.blt h2;obtain⟨h3,hcm⟩:=and2 h3;have hf:f∈["len","min","int"]:=ce.mp h3;have ha:=ia.A Γ X r _ k h4;simp only[a9,df,or_false]at hf;rcases hf with rfl|rfl|rfl
 ·exact d_cB z88 g2 (by rw[h1];decide+kernel) ha (z0f h4) g1 g4 g3
 ·exact d_cB (zfn (k.calm (or_l hcm rfl))) g2 (by rw[h1];decide+kernel) ha (z0f h4) g1 g4 g3
 ·exact zm9 zd7 g2 (by rw[h1];decide+kernel) ha (z0f h4) g1 g4 g3) rfl
theorem zko {f:String}(ia:Sd Κ Φ a):Sd Κ Φ (.agg f a):=Sd.x (fun Γ X r e k h=>by
 obtain⟨⟨x,es⟩,hv,h9⟩:=z00 h;obtain⟨_,_,rfl⟩:=z0t hv;obtain⟨h1,h2,h3,h4⟩:=and4 h9;obtain⟨y,hy,k5⟩:=z00 h4;obtain⟨k4,k6⟩:=and2 k5;cases z11 hy;have k1:=pi h1;obtain⟨g1,g2,g3,g4⟩:=k.blt h2;obtain⟨a,rfl,ha⟩:=ia.G Γ X r _ k k6;have k7:=z0j k4;obtain⟨h3,hcm⟩:=and2 h3;have hf:f∈aggs:=ce.mp h3;simp only[aggs,a9,df,or_false]at hf;rcases hf with rfl
 ·exact zfw zhe g2 (by rw[k1];decide+kernel) k7 ha g1 g4 g3) rfl
theorem zkl {ts:List String}(ia:Sd Κ Φ a):Sd Κ Φ (.isT a ts):=Sd.x (fun Γ X r e k h=>by obtain⟨⟨x,es⟩,hv,h9⟩:=z00 h;obtain⟨_,_,rfl⟩:=z0t hv;obtain⟨h1,h2,h3⟩:=and3 h9;obtain⟨⟨y,t⟩,hy,k3⟩:=z00 h3;obtain⟨k4,h4,k5⟩:=and3 k3;obtain⟨T,hT,k6⟩:=z00 k5;cases zjh hy;cases z11 hT;cases pi h1;obtain⟨g1,g2,g3,g4⟩:=k.blt h2;obtain⟨x2,p2,rfl,rfl,hb,kT⟩:=zd9 k6;obtain⟨b1,b2,b3,b4⟩:=k.blt hb;exact zmw g2 g1 b2 (zay kT) b1 b4 b3 kT (z0j k4) (ia.E Γ X r _ k h4)) rfl
theorem p_mt {m:String}{args:C}(io:Sd Κ Φ a)(ia:Sd Κ Φ args):Sd Κ Φ (.mt m a args):=Sd.x (fun Γ X r e k h=>by
 obtain⟨⟨x,n,es,b⟩,hv,h9⟩:=z00 h;obtain⟨ap,cp,rfl,hb⟩:=q_Mt hv;obtain⟨h0,h6,h7,h8⟩:=and4 h9;obtain⟨h1,h2,h3,h4,h5⟩:=and5 h0;obtain⟨y,es,rfl⟩:=z10 h8;cases pi h1;have k4:(ap.endLine==cp.line)=true:=hb.symm.trans h4;have ho:=io.E Γ X r _ k h6;have ha:=ia.A Γ X r _ k h7;have hm:m∈["join"]:=ce.mp h2;simp only[df,a9,or_false]at hm;rcases hm with rfl
 ·exact d_mt PySem.F.plainAttrs_str PySem.F.slot_str_join PySem.F.type_str_join zhp (fun _ _ _ _ _ _ r e=>zd5 r e) ho ha h3 (z0f h7) (pf h5) k4) rfl
theorem zlh {Γ:Gm}{X:Cx}{ifs:List Expr}{n:Nat}(ic:Sd Κ Φ c)(k:Cok Γ Κ Φ X n)(h:ifsB (isNl c) (fun t=>chkT Γ c t) ifs=true):PTs X ifs (tDT X.K (evT Κ Φ c)):=by
 cases ifs with
 |nil=>
  have:c=.nil:=by cases c<;>first|exact ff rfl h|rfl
  subst this;refine fun pins s σ H Q I q=>zf7 pins s σ H Q I ?_;obtain⟨ρ,F,b,so,e,q⟩:=q;cases e;exact q H (Same.refl H)
 |cons t r=>obtain⟨h1,h2⟩:=and2 h;cases z0d h1;exact zeu (ic.T Γ X n t k h2).1
theorem sC {nt:Nat}{js:List Nat}{N':List Str}{tg:Tg}{it cond elt:C}(ii:Sd Κ Φ it)(ic:Sd Κ Φ cond)(ie:Sd Κ Φ elt){Γ:Gm}{X:Cx}{r:Nat}{e:Expr}(k:Cok Γ Κ Φ X r)(h:chkE Γ (.comp nt js N' tg it cond elt) e=true):
  ∃el t i ifs scope pos,e=.ListComp el [⟨t,i,ifs,0⟩] scope pos/\BlkScope X scope N' nt js/\(∀i∈tgIx tg,i<nt)/\PI X t i (tDW X.K (evW Κ Φ it))/\(∀C fp s H,PG (blk X scope N' C fp s H) t (tDG X.K tg))/\(∀C fp s H,PTs (blk X scope N' C fp s H) ifs (tDT X.K (evT Κ Φ cond)))/\(∀C fp s H,PE (blk X scope N' C fp s H) el (tD X.K (evE Κ Φ elt)))/\(∀x,dr i X.env x=pure x)/\Γ.cm=true:=by
 obtain⟨⟨el,gs,scope⟩,hv,h9⟩:=z00 h;obtain⟨pos,rfl⟩:=q_LC hv;obtain⟨⟨t,i,ifs,kk⟩,hg,h9⟩:=z00 h9;cases z11 hg;obtain⟨h0,h6,h7,h8,h9⟩:=and5 h9;obtain⟨h1,h2,h3,h4,h5⟩:=and5 h0;obtain⟨hcm,h1⟩:=and2 h1;cases pi h1;have h2:=br.mp h2;have hB:BlkScope X scope N' nt js:=zga k.hN k.hs h3;have kb:=fun C fp s H=>k.blk (N':=N') hB.kind (pf h5) C fp s H;exact⟨el,t,i,ifs,scope,pos,rfl,hB,fun i hi=>pf (h2 i hi),ii.W Γ X r _ t k (and2 h6).2 h7,fun C fp s H=>z7n (kb C fp s H) (and2 h6).1,fun C fp s H=>zlh ic (kb C fp s H) h8,fun C fp s H=>ie.E _ _ r _ (kb C fp s H) h9,z2h h4 _,hcm⟩
theorem zi3 {nt:Nat}{js:List Nat}{N':List Str}{tg:Tg}{it cond elt:C}(ii:Sd Κ Φ it)(ic:Sd Κ Φ cond)(ie:Sd Κ Φ elt):Sd Κ Φ (.comp nt js N' tg it cond elt):=Sd.x (fun Γ X r e k h=>by obtain⟨el,t,i,ifs,scope,pos,rfl,hB,h2,hi,hg,ht,he,hs,hcm⟩:=sC ii ic ie k h;exact(zco (k.calm hcm) hB h2 hi hg ht he hs).1) rfl
theorem p_lk {i:Nat}:Sd Κ Φ (.lk i):=Sd.x (fun Γ X r e k h=>by obtain⟨⟨f,as⟩,hv,h9⟩:=z00 h;obtain⟨_,_,rfl⟩:=z0t hv;obtain⟨h1,h2,h3⟩:=and3 h9;obtain⟨hcm,h1⟩:=and2 h1;obtain⟨y,hy,h4⟩:=z00 h3;cases z11 hy;obtain⟨x,p,rfl,h5⟩:=z12 h4;obtain⟨v1,v2,v3,v4⟩:=k.vis h5;cases pi h1;obtain⟨g1,g2,g3,g4⟩:=k.blt h2;exact d_lk (k.calm hcm) g2 (by show ci ("list":Str)=_;decide+kernel) g1 g4 g3 v1 v2 v3 v4) rfl
theorem zlj {b:Bool}{x:Str}:Sd Κ Φ (.isE b x):=Sd.x (fun Γ X r e k h=>by obtain⟨⟨f,es⟩,hv,h9⟩:=z00 h;obtain⟨_,_,rfl⟩:=z0t hv;obtain⟨h1,h2,h3⟩:=and3 h9;obtain⟨⟨y1,y2⟩,hy,h4⟩:=z00 h3;cases zjh hy;obtain⟨⟨n,c⟩,hz,h5⟩:=z00 h4;obtain⟨h6,h7⟩:=and2 h5;obtain⟨n',p1,hn,h6⟩:=z12 h6;obtain⟨C,p2,hC,h7⟩:=z12 h7;cases hn;cases hC;obtain⟨a1,a2,a3,a4⟩:=and4 h6;obtain⟨b1,b2,b3⟩:=and3 h7;cases pi h1;cases pi a1;cases pi b1;obtain⟨g1,g2,g3,g4⟩:=k.blt h2;obtain⟨g5,g6⟩:=k.gl b2;obtain⟨a,oe,Cc,e1,e2,e3,e4⟩:=k.xc n c hz;obtain⟨A,v,u,m1,xa,xv,sb,rv,ru,mC⟩:=k.xk.sub c x b b3;rw[m1]at e4;cases e4;exact zmj g2 g1 e1 (by rw[k.hs];exact pi a2) (z0j a3) e2 e3 g5 mC rv ru g6 xa xv sb) rfl
theorem zms:Sd Κ Φ .nil where
 E:=fun _ _ _ _ _ h=>ff rfl h
 T:=fun _ _ _ _ _ h=>ff rfl h
 Q:=fun _ _ _ _ _ _ _ _ h=>ff rfl h
 A:=fun Γ X r es k h=>by cases z0d h;exact zkz
 O:=fun Γ X r e k h=>by cases dg.mp h;exact zbb
 W:=fun _ _ _ _ _ _ _ h=>ff rfl h
 G:=fun _ _ _ _ _ h=>ff rfl h
theorem zi0 (ia:Sd Κ Φ a)(ib:Sd Κ Φ b):Sd Κ Φ (.cons a b) where
 E:=fun _ _ _ _ _ h=>ff rfl h
 T:=fun _ _ _ _ _ h=>ff rfl h
 Q:=fun _ _ _ _ _ _ _ _ h=>ff rfl h
 A:=fun Γ X r es k h=>by
  cases es with
  |nil=>cases h
  |cons e es=>obtain⟨h1,h2,h3⟩:=and3 h;exact zjj (z0j h1) (ia.E Γ X r _ k h2) (ib.A Γ X r _ k h3)
 O:=fun _ _ _ _ _ h=>ff rfl h
 W:=fun _ _ _ _ _ _ _ h=>ff rfl h
 G:=fun _ _ _ _ _ h=>ff rfl h
theorem zli (ia:Sd Κ Φ a):Sd Κ Φ (.rng a) where
 E:=fun _ _ _ _ _ h=>ff rfl h
 T:=fun _ _ _ _ _ h=>ff rfl h
 Q:=fun _ _ _ _ _ _ _ _ h=>ff rfl h
 A:=fun _ _ _ _ _ h=>ff rfl h
 O:=fun _ _ _ _ _ h=>ff rfl h
 W:=fun Γ X r e tg k _ h=>by
  obtain⟨⟨x,es⟩,hv,h9⟩:=z00 h;obtain⟨_,_,rfl⟩:=z0t hv;obtain⟨h1,h2,h3,h4⟩:=and4 h9;obtain⟨h4,h5⟩:=and2 h4;cases pi h1;obtain⟨g1,g2,g3,g4⟩:=k.blt h2;have hs:=br.mp (z0f h3);have hl:=z1g Κ Φ h3;have ha:=ia.A Γ X r _ k h3;rcases es with _|⟨x,_|⟨y,es⟩⟩
  ·cases h4
  ·exact zi9 g2 g1 (z0j (hs x (.head _))) ha hl
  ·exact absurd (pf h5) (Nat.not_le.mpr (Nat.succ_lt_succ (Nat.succ_pos _)))
 G:=fun _ _ _ _ _ h=>ff rfl h
theorem zj9 (hx:isX c=0)(hn:∀Γ e,chkE Γ c e=false):Sd Κ Φ c:=Sd.x (fun Γ X r e k h=>ff (hn Γ e) h) hx
theorem all (c:C):Sd Κ Φ c:=by
 induction c with
 |var=>exact zlv
 |non=>exact zkr
 |bl=>exact p_bl
 |int=>exact zld
 |str=>exact zl5
 |glob=>exact zic
 |bin _ _ _ ia ib=>exact zkw ia ib
 |neg _ ia=>exact zmb ia
 |cmp _ _ _ ia ib=>exact zkh ia ib
 |isN _ _ ia=>exact zk4 ia
 |and _ _ ia ib=>exact zmy ia ib
 |or _ _ ia ib=>exact p_or ia ib
 |not _ ia=>exact zm5 ia
 |ife _ _ _ ic ia ib=>exact zk5 ic ia ib
 |tup _ ia=>exact zls ia
 |lst _ ia=>exact zl0 ia
 |dnew=>exact zh8
 |ix _ _ ia ib=>exact p_ix ia ib
 |sl _ _ _ ia ib ic=>exact p_sl ia ib ic
 |call _ _ _ ia=>exact zjn ia
 |bi _ _ ia=>exact p_bi ia
 |agg _ _ ia=>exact zko ia
 |isT _ _ ia=>exact zkl ia
 |mt _ _ _ ia ib=>exact p_mt ia ib
 |comp _ _ _ _ _ _ _ ia ib ic=>exact zi3 ia ib ic
 |lk=>exact p_lk
 |rng _ ia=>exact zli ia
 |rep _ _ ia ib=>exact zke ia ib
 |tv _ ia=>exact p_tv ia
 |isE=>exact zlj
 |nil=>exact zms
 |cons _ _ ia ib=>exact zi0 ia ib
 |_=>exact zj9 rfl fun _ _=>rfl
end
section
variable (Κ:List D)(Φ:List Fn)
theorem z5w {el:Expr}{gs:List iz}{s:Scope}{p px:Pos}{t:Str}{n:Nat}{env:Env}:i8 (.ListComp el gs s p) (some (.Name t px)) n env=pure (env.blockKind==.function&&env.kindOf t==some .local&&px.line==p.line&& !(s.names.any fun(n,k)=>n==t&&(k==.local||k==.cell))):=rfl
theorem zf5 {Γ:Gm}{c:C}{el:Expr}{gs:List iz}{s:Scope}{p:Pos}(hn:isCI c=false)(h:chkE Γ c (.ListComp el gs s p)=true):∃nt js N' tg it cond elt,c=.comp nt js N' tg it cond elt:=by cases c<;>first|exact ff rfl h|exact⟨_,_,_,_,_,_,_,rfl⟩|(cases hn;done)
theorem zd2 {Γ:Gm}{c:C}{el:Expr}{gs:List iz}{s:Scope}{p:Pos}(h:chkE Γ c (.SetComp el gs s p)=true):False:=by cases c<;>exact ff rfl h
theorem zdo {Γ:Gm}{c:C}{el el2:Expr}{gs:List iz}{s:Scope}{p:Pos}(h:chkE Γ c (.DictComp el el2 gs s p)=true):False:=by cases c<;>exact ff rfl h
theorem sAsg {Γ:Gm}{X:Cx}{r:Nat}(k:Cok Γ Κ Φ X r){i:Nat}{x:Str}{px pos:Pos}{c:C}{v:Expr}(h1:locB Γ i x=true)(hn:isCI c=false)(h2:chkE Γ c v=true):PS X (.Assign [.Name x px] v pos) (tDS X.K fun ρ=>evE Κ Φ c ρ>>=fun x=>.ok (.nx (ρ.set i (some (z0z x))))):=by
 obtain⟨l1,l2,l3⟩:=k.loc h1;have nd:X.N.Nodup:=by rw[k.hN];exact k.nd
 cases hc:z0k v with
 |false=>exact zj6 nd l1 l2 l3 (z0w hc _ _ _) ((all c).E Γ X r _ k h2)
 |true=>
  cases v<;>first|(cases hc;done)|skip
  ·rename_i el gs s p;cases hb:(X.env.blockKind==.function&&X.env.kindOf x==some .local&&px.line==p.line&& !(s.names.any fun(n,k)=>n==x&&(k==.local||k==.cell)))with
   |false=>exact zj6 nd l1 l2 l3 (by rw[z5w,hb]) ((all c).E Γ X r _ k h2)
   |true=>
    obtain⟨nt,js,N',tg,it,cond,elt,rfl⟩:=zf5 hn h2;obtain⟨el',t,i',ifs,scope,pos',e,hB,h0,hi,hg,ht,he,hs,hcm⟩:=sC (all it) (all cond) (all elt) k h2;cases e;have hl:X.env.scope.names.lookup x=some .local:=by simp only[aj,beq_iff_eq]at hb;exact hb.1.1.2
    refine PS.imp (zb9 (k.calm hcm) nd l1 hl hB hi hg ht he (by rw[z5w,hb]) hs) fun D σ H q=>?_;exact zc6 (fa:=z77 nt js tg (evW Κ Φ it) (evT Κ Φ cond) (evE Κ Φ elt)) (fun σ H Q z=>(zco (pos:=p) (k.calm hcm) hB h0 hi hg ht he hs).2 σ H Q z) D σ H q
  ·exact(zd2 h2).elim
  ·exact(zdo h2).elim
theorem sFF {Γ:Gm}{X:Cx}{r:Nat}(k:Cok Γ Κ Φ X r){c:C}{ie tg:Expr}(hh:chkF Γ c tg ie=true):PI X tg ie (tDF X.K (evF Κ Φ c))/\za5 ie=true:=by
 obtain⟨ht,h⟩:=and2 hh;have hw:=(all (Κ:=Κ) (Φ:=Φ) c).W Γ X r ie tg k ht h;cases c with
 |tv a=>
  have hal:=PI.orD (k:=fun ρ=>isAl Κ Φ (.tv a) ρ) (f_al ((all a).E Γ X r _ k (and2 h).2)) (zje hw);refine⟨?_,(and2 h).1⟩;cases a with
  |var i=>obtain⟨x,p,rfl,h2⟩:=z12 (and2 h).2;obtain⟨v1,v2,v3,v4⟩:=k.vis h2;exact PI.orD (k:=fun ρ=>ownB ρ i) (zkj v1 v2 v3 v4) hal
  |_=>exact hal
 |rng a=>refine⟨zje hw,?_⟩;obtain⟨v,hv,_⟩:=z00 h;obtain⟨_,_,rfl⟩:=z0t hv;rfl
 |_=>exact ff rfl h
theorem z4e {a:List Expr}{b:Nat}{c:Pos}{v:Expr}{env:Env}(h:isTup v=false):mo [.Tuple a b c] v env=pure none:=by cases v<;>first|rfl|(cases h;done)
theorem q_As {s:Stmt}{v:List Expr×Expr}(h:vAs s=some v):∃p,s=.Assign v.1 v.2 p:=v_of (q:=fun v=>∃p,s=.Assign v.1 v.2 p) h (by cases s<;>first|exact .inl rfl|exact .inr ⟨_,rfl,_,rfl⟩)
theorem q_Ex {s:Stmt}{v:Expr}(h:vEx s=some v):∃p,s=.Expr v p:=v_of (q:=fun v=>∃p,s=.Expr v p) h (by cases s<;>first|exact .inl rfl|exact .inr ⟨_,rfl,_,rfl⟩)
theorem q_Rt {s:Stmt}{v:Option Expr}(h:vRt s=some v):∃p,s=.Return v p:=v_of (q:=fun v=>∃p,s=.Return v p) h (by cases s<;>first|exact .inl rfl|exact .inr ⟨_,rfl,_,rfl⟩)
theorem q_If {s:Stmt}{v:Expr×List Stmt×List Stmt}(h:vIf s=some v):∃p,s=.If v.1 v.2.1 v.2.2 p:=v_of (q:=fun v=>∃p,s=.If v.1 v.2.1 v.2.2 p) h (by cases s<;>first|exact .inl rfl|exact .inr ⟨_,rfl,_,rfl⟩)
theorem q_Fo {s:Stmt}{v:Expr×Expr×List Stmt×List Stmt}(h:vFo s=some v):∃p,s=.For v.1 v.2.1 v.2.2.1 v.2.2.2 p:=v_of (q:=fun v=>∃p,s=.For v.1 v.2.1 v.2.2.1 v.2.2.2 p) h (by cases s<;>first|exact .inl rfl|exact .inr ⟨_,rfl,_,rfl⟩)
theorem q_Wh {s:Stmt}{v:Expr×List Stmt×List Stmt}(h:vWh s=some v):∃p,s=.While v.1 v.2.1 v.2.2 p:=v_of (q:=fun v=>∃p,s=.While v.1 v.2.1 v.2.2 p) h (by cases s<;>first|exact .inl rfl|exact .inr ⟨_,rfl,_,rfl⟩)
structure Ss (s:S):Prop where
 R:∀(Γ:Gm) (X:Cx) (r:Nat) (st:Stmt),Cok Γ Κ Φ X r->db (model X.prog X.w) X.A X.env X.xe->chk1 Γ s st=true->PS X st (tDS X.K (evS Κ Φ s))
 L:∀(Γ:Gm) (X:Cx) (r:Nat) (st:List Stmt),Cok Γ Κ Φ X r->db (model X.prog X.w) X.A X.env X.xe->chkL Γ s st=true->PSs X st (tDS X.K (evS Κ Φ s))
def isSq:S->Bool
 |.nil=>false
 |.seq _ _=>false
 |.dap _ _ _=>false
 |.dpp _ _ _=>false
 |_=>true
variable {Κ:List D}{Φ:List Fn}
theorem Ss.x {s:S}(h:∀(Γ:Gm) (X:Cx) (r:Nat) (st:Stmt),Cok Γ Κ Φ X r->db (model X.prog X.w) X.A X.env X.xe->chk1 Γ s st=true->PS X st (tDS X.K (evS Κ Φ s)))(hx:isSq s=true):Ss Κ Φ s:=⟨h,by cases s<;>first|(cases hx;done)|exact fun _ _ _ _ _ _ h=>ff rfl h⟩
theorem zla {t:Tg}{e:C}:Ss Κ Φ (.asg t e):=Ss.x (fun Γ X r st k hp h=>by
 obtain⟨⟨ts,v⟩,hv,h9⟩:=z00 h;obtain⟨p,rfl⟩:=q_As hv;obtain⟨x,hx,h8⟩:=z00 h9;cases z11 hx;obtain⟨h1,h2,h3,h4⟩:=and4 h8;cases t with
 |nm i=>obtain⟨y,q,rfl,h5⟩:=z12 h1;exact sAsg Κ Φ k h5 (z0j h2) h4
 |tp is=>obtain⟨k1,k2⟩:=and2 (show(!z0k v&& !isTup v)=true from h3);obtain⟨es,hes,_⟩:=z00 (and2 h1).2;obtain⟨_,_,rfl⟩:=z9d hes;exact ziw (z7n k (t:=.tp is) h1) ((all e).E Γ X r _ k h4) ((show ml [_] _ _ _=i8 _ _ _ _ from rfl).trans (z0w (z0j k1) _ _ _)) (z4e (z0j k2)) rfl) rfl
theorem zey {i:Nat}{a b:C}:Ss Κ Φ (.setIx i a b):=Ss.x (fun Γ X r st k hp h=>by obtain⟨⟨ts,v⟩,hv,h9⟩:=z00 h;obtain⟨p,rfl⟩:=q_As hv;obtain⟨x,hx,h8⟩:=z00 h9;cases z11 hx;obtain⟨⟨y,ie⟩,hy,h7⟩:=z00 h8;obtain⟨_,rfl⟩:=z6r hy;obtain⟨h1,h2,h3,h4,h5⟩:=and5 h7;obtain⟨z,q,hz,h6⟩:=z12 h1;cases hz;obtain⟨v1,v2,v3,v4⟩:=k.vis h6;exact zk2 k.hu v1 v2 v3 v4 (z0j h3) ((all a).E Γ X r _ k h4) ((all b).E Γ X r _ k h5)) rfl
theorem zl2 {m:String}{i:Nat}{args:C}:Ss Κ Φ (.mut m i args):=Ss.x (fun Γ X r st k hp h=>by
 obtain⟨c,hv,h9⟩:=z00 h;obtain⟨p,rfl⟩:=q_Ex hv;obtain⟨⟨x,n,es,b⟩,hm,h8⟩:=z00 h9;obtain⟨ap,cp,rfl,hb⟩:=q_Mt hm;obtain⟨h0,h6,h7⟩:=and3 h8;obtain⟨h1,h2,h3,h4,h5⟩:=and5 h0;obtain⟨z,q,hz,k1⟩:=z12 h1;cases hz;obtain⟨y,es,rfl⟩:=z10 h6;cases pi h2;have hm:m∈["append","insert","pop"]:=ce.mp h3;simp only[df,a9,or_false]at hm;obtain⟨v1,v2,v3,v4⟩:=k.vis k1;rcases hm with rfl|rfl|rfl
 ·exact zbn v1 v2 v3 v4 ((all args).A Γ X r _ k h7) (z0f h7) (pf h5) (hb.symm.trans h4)
 ·exact zao v1 v2 v3 v4 ((all args).A Γ X r _ k h7) (z0f h7) (pf h5) (hb.symm.trans h4)
 ·exact zdq v1 v2 v3 v4 ((all args).A Γ X r _ k h7) (z0f h7) (pf h5) (hb.symm.trans h4)) rfl
theorem zh5 {e:C}:Ss Κ Φ (.drop e):=Ss.x (fun Γ X r st k hp h=>by obtain⟨v,hv,h9⟩:=z00 h;obtain⟨p,rfl⟩:=q_Ex hv;obtain⟨h1,h2⟩:=and2 h9;exact zgd (z0j h1) ((all e).E Γ X r _ k h2)) rfl
theorem zm2 {e:C}:Ss Κ Φ (.ret e):=Ss.x (fun Γ X r st k hp h=>by
 obtain⟨o,hv,h9⟩:=z00 h;obtain⟨p,rfl⟩:=q_Rt hv;obtain⟨v,rfl,h8⟩:=z00 h9;have g:=(all (Κ:=Κ) (Φ:=Φ) e).E Γ X r _ k h8;cases e with
 |var i=>obtain⟨x,q,rfl,h7⟩:=z12 h8;obtain⟨v1,v2,v3,v4⟩:=k.vis h7;exact zc4 v1 v2 v3 v4
 |_=>exact zju g) rfl
theorem q_if {c:C}{a b:S}(ia:Ss Κ Φ a)(ib:Ss Κ Φ b):Ss Κ Φ (.ifS c a b):=Ss.x (fun Γ X r st k hp h=>by obtain⟨v,hv,h9⟩:=z00 h;obtain⟨p,rfl⟩:=q_If hv;obtain⟨h1,h2,h3⟩:=and3 h9;exact s_if ((all c).T Γ X r _ k h1).1 (ia.L Γ X r _ k hp h2) (ib.L Γ X r _ k hp h3)) rfl
theorem zgt {t:Tg}{it:C}{b:S}(ib:Ss Κ Φ b):Ss Κ Φ (.for_ t it b):=Ss.x (fun Γ X r st k hp h=>by obtain⟨hcm,h⟩:=and2 h;obtain⟨⟨t,i,B,o⟩,hv,h9⟩:=z00 h;obtain⟨p,rfl⟩:=q_Fo hv;obtain⟨h1,h2,h3,h4⟩:=and4 h9;cases z0d h4;obtain⟨hf,hn⟩:=sFF Κ Φ k h2;exact zjs hp (k.calm hcm) hf (z7n k h1) (ib.L Γ X r _ k hp h3) (z2h hn _)) rfl
theorem q_wh {n:Nat}{c:C}{b:S}(ib:Ss Κ Φ b):Ss Κ Φ (.wh n c b):=Ss.x (fun Γ X r st k hp h=>by obtain⟨⟨t,B,o⟩,hv,h9⟩:=z00 h;obtain⟨p,rfl⟩:=q_Wh hv;obtain⟨h1,h2,h3⟩:=and3 h9;cases z0d h3;exact zez hp ((all c).T Γ X r _ k h1).1 (ib.L Γ X r _ k hp h2)) rfl
theorem q_pB {f:Str->Bool}{e:Expr}(h:popB (hd1 f) e=true):∃x p ap cp,e=.Call (.Attribute (.Name x p) "pop" ap) [] [] cp/\f x=true/\(ap.endLine==cp.line)=true:=by obtain⟨⟨o,n,es,b⟩,hm,h8⟩:=z00 h;obtain⟨ap,cp,rfl,hb⟩:=q_Mt hm;obtain⟨h1,h2,h3,h4⟩:=and4 h8;obtain⟨x,p,hx,h1⟩:=z12 h1;cases hx;cases pi h2;cases z0d h3;exact⟨x,p,ap,cp,rfl,h1,hb.symm.trans h4⟩
theorem zkx {j i:Nat}:Ss Κ Φ (.pop j i):=Ss.x (fun Γ X r st k hp h=>by obtain⟨⟨ts,v⟩,hv,h9⟩:=z00 h;obtain⟨p,rfl⟩:=q_As hv;obtain⟨x,hx,h8⟩:=z00 h9;cases z11 hx;obtain⟨h1,h2⟩:=and2 h8;obtain⟨y,q,rfl,h5⟩:=z12 h1;obtain⟨l1,l2,l3⟩:=k.loc h5;obtain⟨z,pz,ap,cp,rfl,h6,h7⟩:=q_pB h2;obtain⟨v1,v2,v3,v4⟩:=k.vis h6;exact s_pop (by rw[k.hN];exact k.nd) l1 l2 l3 v1 v2 v3 v4 h7) rfl
theorem zk6 {i:Nat}{a c:C}:Ss Κ Φ (.pap i a c):=Ss.x (fun Γ X r st k hp h=>by
 obtain⟨e,hv,h9⟩:=z00 h;obtain⟨p,rfl⟩:=q_Ex hv;obtain⟨⟨x,n,es,b⟩,hm,h8⟩:=z00 h9;obtain⟨ap,cp,rfl,hb⟩:=q_Mt hm;obtain⟨h0,h7⟩:=and2 h8;obtain⟨h1,h2,h3⟩:=and3 h0;obtain⟨z,q,hz,k1⟩:=z12 h1;cases hz;cases pi h2;obtain⟨t,ht,h6⟩:=z00 h7;cases z11 ht;obtain⟨l,hl,h5⟩:=z00 h6;obtain⟨_,_,rfl⟩:=z9d hl;rcases l with _|⟨e1,_|⟨e2,l⟩⟩
 ·cases h5
 ·cases h5
 ·obtain⟨g1,g2,g3⟩:=and3 h5;obtain⟨g4,g5⟩:=and2 g1;obtain⟨g6,g7⟩:=and2 g3;obtain⟨y,pz,ap2,cp2,rfl,h10,h11⟩:=q_pB g2;obtain⟨v1,v2,v3,v4⟩:=k.vis k1;obtain⟨w1,w2,w3,w4⟩:=k.vis h10;have:y=z:=Option.some.inj (w1.symm.trans v1);subst this;exact zmd v1 v2 v3 v4 (z0j g4) ((all a).E Γ X r _ k g5) ((all c).A Γ X r _ k g7) (fun ρ ys e=>by rw[z1g Κ Φ g7 ρ ys e];exact pf g6) (hb.symm.trans h3) h11) rfl
theorem zk3 {s:S}(is:Ss Κ Φ s):Ss Κ Φ (.stl s):=Ss.x (fun Γ X r st k hp h=>PS.imp (is.R Γ X r st k hp h) fun D σ H zz=>by
 obtain⟨ρ,F,out,so,e,q⟩:=zz;have e:(if noOwn ρ then evS Κ Φ s (ρ.map settle)else evS Κ Φ s (ρ.map settleA))=.ok out:=e;cases hn:noOwn ρ with
 |false=>rw[hn]at e;exact⟨_,_,out,so.settleA,e,q.back ⟨so.ext,rfl,rfl⟩ fun a o e _=>⟨e,rfl⟩⟩
 |true=>rw[hn]at e;exact⟨_,_,out,so.settle hn,e,q.back ⟨so.ext,rfl,rfl⟩ fun a o e _=>⟨e,rfl⟩⟩) rfl
theorem Cok.wish {Γ:Gm}{X:Cx}{r:Nat}(k:Cok Γ Κ Φ X r)(E:Value->aa->Prop):Cok Γ Κ Φ (X.wish E) r:=⟨k.hN,k.hs,k.nd,k.fn,k.kind,k.free,k.fns,k.cst,k.fnx,k.room,k.calm,k.hu,k.fun_,k.fx0,fun n c z=>by obtain⟨a,oe,C,h1,h2,h3,h4⟩:=k.xc n c z;exact⟨a,oe,C,h1,fun p σ H s I=>h2 p σ H s I.unwish,h3,h4⟩,k.xk⟩
theorem Cok.inX {Γ:Gm}{X:Cx}{r i:Nat}{n c:Str}{a C:Addr}{oe:Obj}(k:Cok Γ Κ Φ X r)(nd:(Γ.N.set i "").Nodup)(hc:oe.cls=.ref C)(hm:X.mg c=some (.ref C)):Cok {Γ with N:=Γ.N.set i "",cm:=false,xc:=some (n,c),fns:=[]} Κ Φ (Mi.inX X i n a oe) r where
 hN:=by show X.N.set i ""=Γ.N.set i "";rw[k.hN]
 hs:=k.hs
 nd:=nd
 fn:=k.fn
 kind:=k.kind
 free:=k.free
 fns:=fun j f n e=>by simp at e
 cst:=k.cst
 fnx:=fun j f n e=>by simp at e
 room:=fun z=>by cases z
 calm:=fun z=>by cases z
 hu:=k.hu
 fun_:=k.fun_
 fx0:=fun z=>by cases z
 xc:=fun n' c' z=>by cases z;exact⟨a,oe,C,rfl,fun _ _ _ _ I=>(I.pin (a,oe) (fz _ av)).1,hc,hm⟩
 xk:=⟨k.xk.sub,k.xk.rs,k.xk.hnd⟩
theorem q_Eh {h:ExceptHandler}{v:Str×Str×List Stmt}(e:vEh h=some v):∃np hp,h=.ExceptHandler (some (.Name v.1 np)) (some v.2.1) v.2.2 hp:=by
 unfold vEh at e;split at e
 ·cases e;exact⟨_,_,rfl⟩
 ·cases e
theorem q_Tr {s:Stmt}{v:Str×List Expr×Str×Str×List Stmt}(e:vTr s=some v):∃p cp ep np hp pos,s=.Try [.Expr (.Call (.Name v.1 p) v.2.1 [] cp) ep] [.ExceptHandler (some (.Name v.2.2.1 np)) (some v.2.2.2.1) v.2.2.2.2 hp] [] [] pos:=by
 unfold vTr at e;split at e
 ·obtain⟨u,h1,h2⟩:=gi.mp e;obtain⟨x,h3,rfl⟩:=cf.mp h2;obtain⟨q,p,rfl⟩:=z0t h1;obtain⟨np,hp,rfl⟩:=q_Eh h3;exact⟨_,_,_,_,_,_,rfl⟩
 ·cases e
theorem q_Ra {s:Stmt}{v:Str×List Expr}(e:vRa s=some v):∃np cp pos,s=.Raise (some (.Call (.Name v.1 np) v.2 [] cp)) none pos:=by
 unfold vRa at e;split at e
 ·obtain⟨q,p,rfl⟩:=z0t e;exact⟨_,_,_,rfl⟩
 ·cases e
theorem zmc {a b:S}(ia:Ss Κ Φ a)(ib:Ss Κ Φ b):Ss Κ Φ (.alt a b):=Ss.x (fun Γ X r st k hp h pins s σ H D I q=>by
 obtain⟨h1,h2⟩:=and2 h;obtain⟨ρ,F,out,so,e,q⟩:=q;have e:(match evS Κ Φ a ρ with|.ok o=>Res.ok o|_=>evS Κ Φ b ρ)=.ok out:=e;cases ea:evS Κ Φ a ρ with
 |ok o=>rw[ea]at e;cases e;exact ia.R Γ X r st k hp h1 pins s σ H D I ⟨ρ,F,_,so,ea,q⟩
 |exc z=>rw[ea]at e;exact ib.R Γ X r st k hp h2 pins s σ H D I ⟨ρ,F,_,so,e,q⟩
 |no=>rw[ea]at e;exact ib.R Γ X r st k hp h2 pins s σ H D I ⟨ρ,F,_,so,e,q⟩) rfl
theorem q_tr {kf:Nat}{f:Str}{args:C}{c:Str}{i:Nat}{b:S}(ib:Ss Κ Φ b):Ss Κ Φ (.tr kf f args c i b):=Ss.x (fun Γ X r st k hp h=>by obtain⟨⟨f',es,B,n,su⟩,hv,h9⟩:=z00 h;obtain⟨p,cp,ep,np,hpp,pos,rfl⟩:=q_Tr hv;obtain⟨h1,h2,h3⟩:=and3 h9;obtain⟨a1,a2,a3,a4,a5⟩:=and5 h1;obtain⟨b1,b2,b3,b4,b5⟩:=and5 h2;obtain⟨c1,c2,c3,c4,c5⟩:=and5 h3;obtain⟨a6,a7⟩:=and2 a2;obtain⟨y,es,rfl⟩:=z10 c3;obtain⟨b0,su,rfl⟩:=z10 c4;cases pi b4;obtain⟨g1,g2⟩:=k.gl b5;obtain⟨g3,g4⟩:=k.gl b2;obtain⟨C,D,m1,m2,x1,x2,sb⟩:=k.xk.hnd c B b3;obtain⟨m,kk,ps,d1,d2,d3⟩:=k.fns kf _ _ (pi c1);obtain⟨m',kk',ps',d1',d2',d3'⟩:=k.fnx kf _ _ (pi c1);rw[d1]at d1';cases d1';obtain⟨s1,s2⟩:=k.fun_ (z0j a7);refine PS.imp (zlr (i:=i) (n:=n) (c:=c) (fs:=evA Κ Φ args) (fb:=evS Κ Φ b) d3 d3' (k.room a1) d2 d2' (fun E=>(all args).A Γ _ r _ (k.wish E) c2) (z0f c2) g1 g2 (z1g Κ Φ c2) s1 s2 (k.fx0 (dg.mp a6)) (by rw[k.hN];exact k.nd) (by rw[k.hN];exact pi a3) (by rw[k.hs];exact dg.mp b1) (by rw[k.hs];exact pi a4) m1 m2 x1 x2 sb g3 g4 fun a oe hc=>ib.L _ _ r _ (k.inX (pf a5) hc m1) PassesOwn.never c5) fun D σ H zz=>?_;obtain⟨ρ,F,out,so,e,q⟩:=zz;refine⟨ρ,F,out,so,?_,q⟩;have e:(evA Κ Φ args ρ>>=fun ys=>match Φ[kf]? with|some m=>(match m (ys.map (·.2))with|.ok _=>Res.ok (.nx ρ)|r=>if excOf r=some c then outI i (evS Κ Φ b (ρ.set i none))else .no)|none=>.no)=.ok out:=e;rw[d1]at e;exact e) rfl
theorem zmt {j:Nat}{s:S}(is:Ss Κ Φ s):Ss Κ Φ (.frz j s):=Ss.x (fun Γ X r st k hp h=>PS.imp (is.R Γ X r st k hp h) fun D σ H zz=>by obtain⟨ρ,F,out,so,e,q⟩:=zz;exact⟨_,F.drop j,out,so.frz j,e,z2a.back (F:=F) (H:=H) (Run.of rfl rfl rfl) (Frm.drop (Same.refl _)) q⟩) rfl
theorem z9o (s:S):Ss Κ Φ s:=by
 induction s with
 |nil=>exact⟨fun _ _ _ _ _ _ h=>ff rfl h,fun Γ X r st k hp h=>by cases z0d h;exact zk8⟩
 |seq a b ia ib=>
  refine⟨fun _ _ _ _ _ _ h=>ff rfl h,fun Γ X r st k hp h=>?_⟩;cases st with
  |nil=>cases h
  |cons s st=>exact zl4 (ia.R Γ X r _ k hp (and2 h).1) (ib.L Γ X r _ k hp (and2 h).2)
 |bad=>refine Ss.x (fun Γ X r st k hp h=>?_) rfl;intro pins s σ H D I q;obtain⟨ρ,F,out,so,e,_⟩:=q;cases e
 |asg=>exact zla
 |stl s is=>exact zk3 is
 |pop=>exact zkx
 |pap=>exact zk6
 |dap=>exact⟨fun _ _ _ _ _ _ h=>ff rfl h,fun _ _ _ _ _ _ h=>ff rfl h⟩
 |dpp=>exact⟨fun _ _ _ _ _ _ h=>ff rfl h,fun _ _ _ _ _ _ h=>ff rfl h⟩
 |frz _ _ is=>exact zmt is
 |rse=>refine Ss.x (fun Γ X r st k hp h=>?_) rfl;intro pins s σ H D I q;obtain⟨ρ,F,out,so,e,_⟩:=q;cases e
 |tr _ _ _ _ _ _ ib=>exact q_tr ib
 |alt _ _ ia ib=>exact zmc ia ib
 |setIx=>exact zey
 | «mut»=>exact zl2
 |drop=>exact zh5
 |ret=>exact zm2
 |ifS _ _ _ ia ib=>exact q_if ia ib
 |for_ _ _ _ ib=>exact zgt ib
 |wh _ _ _ ib=>exact q_wh ib
 |_=>exact Ss.x (fun _ _ _ _ _ _ h=>ff rfl h) rfl
theorem sL (Κ:List D)(Φ:List Fn)(s:S):∀(Γ:Gm) (X:Cx) (r:Nat) (st:List Stmt),Cok Γ Κ Φ X r->db (model X.prog X.w) X.A X.env X.xe->chkL Γ s st=true->PSs X st (tDS X.K (evS Κ Φ s)):=(z9o s).L
end
section
variable (Κ:List D)(Φ:List Fn)
structure Se (c:C):Prop where
 E:∀(Γ:Gm) (X:Cx) (r:Nat) (e:Expr),Cok Γ Κ Φ X r->chkE Γ c e=true->PE X e (tR X (exE Κ Φ c))
 A:∀(Γ:Gm) (X:Cx) (r:Nat) (es:List Expr),Cok Γ Κ Φ X r->chkA Γ c es=true->PA X es (tRA X (exA Κ Φ c))
 T:∀(Γ:Gm) (X:Cx) (r:Nat) (e:Expr),Cok Γ Κ Φ X r->chkT Γ c e=true->PT X e (tRT X (exT Κ Φ c))
variable {Κ Φ}
theorem no_E {X:Cx}{e:Expr}{c:C}(h:∀ρ,exE Κ Φ c ρ=none):PE X e (tR X (exE Κ Φ c)):=fun pins s σ H Q I z=>(z2p h σ H z).elim
theorem no_A {X:Cx}{e:List Expr}{c:C}(h:∀ρ,exA Κ Φ c ρ=none):PA X e (tRA X (exA Κ Φ c)):=fun pos pins s σ H Q I z=>(z2p h σ H z).elim
theorem no_T {X:Cx}{e:Expr}{c:C}(h:∀ρ,exT Κ Φ c ρ=none):PT X e (tRT X (exT Κ Φ c)):=fun pins s σ H Q I z=>(z2p h σ H z).elim
theorem Se.no {c:C}(h1:∀ρ,exE Κ Φ c ρ=none)(h2:∀ρ,exA Κ Φ c ρ=none)(h3:∀ρ,exT Κ Φ c ρ=none):Se Κ Φ c:=⟨fun _ _ _ _ _ _=>no_E h1,fun _ _ _ _ _ _=>no_A h2,fun _ _ _ _ _ _=>no_T h3⟩
theorem zc2 {j:Nat}{f:Str}{args:C}(ia:Se Κ Φ args):Se Κ Φ (.call j f args) where
 E:=fun Γ X r e k h=>by
  obtain⟨⟨x,es⟩,hv,h9⟩:=z00 h;obtain⟨_,_,rfl⟩:=z0t hv;obtain⟨h1,h2,h3,h4,h5⟩:=and5 h9;obtain⟨y,es,rfl⟩:=z10 h5;obtain⟨h0,h1⟩:=and2 h1;cases pi h1;obtain⟨g1,g2⟩:=k.gl h2;obtain⟨m,kk,ps,c1,c2,c3⟩:=k.fnx j _ _ (pi h3);refine PE.imp (zf2 c3 (k.room h0) c2 ((all args).A Γ X r _ k h4) (ia.A Γ X r _ k h4) (z0f h4) g1 g2 (z1g Κ Φ h4)) fun σ H Q hq=>?_
  have ee:exE Κ Φ (.call j x args)=fun ρ=>match(evA Κ Φ args ρ:Res (List GD))with|.ok ys=>excOf (m (jg (fun(y:GD)=>y.2) ys))|_=>exA Κ Φ args ρ:=by
   funext ρ
   show(match(evA Κ Φ args ρ:Res (List GD))with|.ok ys=>(match Φ[j]? with|some m=>excOf (m (jg (fun(y:GD)=>y.2) ys))|none=>none)|_=>exA Κ Φ args ρ)=_;rw[c1]
  rw[ee]at hq;exact hq
 A:=fun _ _ _ _ _ h=>ff rfl h
 T:=fun _ _ _ _ _ h=>ff rfl h
theorem allE (c:C):Se Κ Φ c:=by
 induction c with
 |call _ _ _ ia=>exact zc2 ia
 |cons a r ia ir=>
  refine⟨fun _ _ _ _ _ h=>ff rfl h,fun Γ X n es k h=>?_,fun _ _ _ _ _ h=>ff rfl h⟩;cases es with
  |nil=>cases h
  |cons e es=>obtain⟨h1,h2,h3⟩:=and3 h;exact zcr (z0j h1) ((all a).E Γ X n _ k h2) (ia.E Γ X n _ k h2) (ir.A Γ X n _ k h3)
 |not a ia=>refine⟨fun _ _ _ _ _ _=>no_E fun _=>rfl,fun _ _ _ _ _ h=>ff rfl h,fun Γ X r e k h=>?_⟩;obtain⟨⟨o,x⟩,hv,h9⟩:=z00 h;obtain⟨p,rfl⟩:=q_Un hv;obtain⟨h1,h2⟩:=and2 h9;cases pf h1;exact zhr (ia.T Γ X r _ k h2)
 |tv a ia=>
  refine⟨fun _ _ _ _ _ h=>ff rfl h,fun _ _ _ _ _ h=>ff rfl h,fun Γ X r e k h=>?_⟩;obtain⟨h1,h2⟩:=and2 h;rcases dh.mp h1 with h1|h1
  ·exact zj8 (ia.E Γ X r _ k h2) (z22 h1 _)
  ·obtain⟨_,_,_,_,rfl⟩:=z81 h1;cases a<;>first|exact no_T fun _=>rfl|exact ff rfl h2
 |_=>exact Se.no (fun _=>rfl) (fun _=>rfl) fun _=>rfl
variable (Κ Φ)
structure Sq (s:S):Prop where
 R:∀(Γ:Gm) (X:Cx) (r:Nat) (st:Stmt),Cok Γ Κ Φ X r->db (model X.prog X.w) X.A X.env X.xe->chk1 Γ s st=true->PS X st (tRS X (evX Κ Φ s))
 L:∀(Γ:Gm) (X:Cx) (r:Nat) (st:List Stmt),Cok Γ Κ Φ X r->db (model X.prog X.w) X.A X.env X.xe->chkL Γ s st=true->PSs X st (tRS X (evX Κ Φ s))
variable {Κ Φ}
theorem Sq.x {s:S}(h:∀(Γ:Gm) (X:Cx) (r:Nat) (st:Stmt),Cok Γ Κ Φ X r->db (model X.prog X.w) X.A X.env X.xe->chk1 Γ s st=true->PS X st (tRS X (evX Κ Φ s)))(hx:isSq s=true):Sq Κ Φ s:=⟨h,by cases s<;>first|(cases hx;done)|exact fun _ _ _ _ _ _ h=>ff rfl h⟩
theorem Sq.no {s:S}(h:∀ρ,evX Κ Φ s ρ=none)(hx:isSq s=true):Sq Κ Φ s:=Sq.x (fun Γ X r st k hp hc pins sh σ H D I z=>(z2p h σ H z).elim) hx
theorem zbx {e:Expr}(h:zcs e=true):∃z k p,e=.Constant (.str z) k p:=by obtain⟨c,hc,h⟩:=z00 h;obtain⟨k,p,rfl⟩:=z57 hc;cases c<;>first|(cases h;done)|exact⟨_,_,_,rfl⟩
theorem allX (s:S):Sq Κ Φ s:=by
 induction s with
 |nil=>exact⟨fun _ _ _ _ _ _ h=>ff rfl h,fun Γ X r st k hp h=>by cases z0d h;exact ziq⟩
 |seq a b ia ib=>
  refine⟨fun _ _ _ _ _ _ h=>ff rfl h,fun Γ X r st k hp h=>?_⟩;cases st with
  |nil=>cases h
  |cons s st=>exact zit ((z9o a).R Γ X r _ k hp (and2 h).1) (ia.R Γ X r _ k hp (and2 h).1) (ib.L Γ X r _ k hp (and2 h).2)
 |ifS c a b ia ib=>refine Sq.x (fun Γ X r st k hp h=>?_) rfl;obtain⟨v,hv,h9⟩:=z00 h;obtain⟨p,rfl⟩:=q_If hv;obtain⟨h1,h2,h3⟩:=and3 h9;exact zl7 ((all c).T Γ X r _ k h1).1 ((allE c).T Γ X r _ k h1) (ia.L Γ X r _ k hp h2) (ib.L Γ X r _ k hp h3)
 |for_ t it b ib=>refine Sq.x (fun Γ X r st k hp h=>?_) rfl;obtain⟨hcm,h⟩:=and2 h;obtain⟨⟨t,i,B,o⟩,hv,h9⟩:=z00 h;obtain⟨p,rfl⟩:=q_Fo hv;obtain⟨h1,h2,h3,h4⟩:=and4 h9;cases z0d h4;obtain⟨hf,hn⟩:=sFF Κ Φ k h2;exact zix hp (k.calm hcm) hf (z7n k h1) ((z9o b).L Γ X r _ k hp h3) (ib.L Γ X r _ k hp h3) (z2h hn _)
 |dpp e a b ib=>exact⟨fun _ _ _ _ _ _ h=>ff rfl h,fun Γ X r st k hp hc pins sh σ H D I z=>(z2p (fun _=>rfl) σ H z).elim⟩
 |dap e a b ib=>exact⟨fun _ _ _ _ _ _ h=>ff rfl h,fun Γ X r st k hp hc pins sh σ H D I z=>(z2p (fun _=>rfl) σ H z).elim⟩
 |drop e=>refine Sq.x (fun Γ X r st k hp h=>?_) rfl;obtain⟨v,hv,h9⟩:=z00 h;obtain⟨p,rfl⟩:=q_Ex hv;obtain⟨h1,h2⟩:=and2 h9;exact zdg (z0j h1) ((allE e).E Γ X r _ k h2)
 |ret e=>refine Sq.x (fun Γ X r st k hp h=>?_) rfl;obtain⟨o,hv,h9⟩:=z00 h;obtain⟨p,rfl⟩:=q_Rt hv;obtain⟨v,rfl,h8⟩:=z00 h9;exact zg2 ((allE e).E Γ X r _ k h8)
 |asg t e=>
  cases t with
  |tp is=>exact Sq.no (fun _=>rfl) rfl
  |nm i=>
   cases e with
   |call j f args=>
    refine Sq.x (fun Γ X r st k hp h=>?_) rfl;obtain⟨⟨ts,v⟩,hv,h9⟩:=z00 h;obtain⟨p,rfl⟩:=q_As hv;obtain⟨x,hx,h8⟩:=z00 h9;cases z11 hx;obtain⟨h1,h2,h3,h4⟩:=and4 h8;obtain⟨y,q,rfl,h5⟩:=z12 h1;obtain⟨l1,l2,l3⟩:=k.loc h5;have hc:z0k v=false:=by obtain⟨u,hu,_⟩:=z00 h4;obtain⟨_,_,rfl⟩:=z0t hu;rfl
    exact zff (by rw[k.hN];exact k.nd) l1 l2 l3 hc ((allE _).E Γ X r _ k h4)
   |_=>exact Sq.no (fun _=>rfl) rfl
 |rse c=>refine Sq.x (fun Γ X r st k hp h=>?_) rfl;obtain⟨⟨x,es⟩,hv,h9⟩:=z00 h;obtain⟨np,cp,pos,rfl⟩:=q_Ra hv;obtain⟨h1,h2,h3,h4,h5⟩:=and5 h9;obtain⟨y,hy,h6⟩:=z00 h5;cases z11 hy;obtain⟨z,kk,p,rfl⟩:=zbx h6;cases pi h1;obtain⟨g1,g2⟩:=k.gl h2;obtain⟨C,m1,xC⟩:=k.xk.rs x h3;exact zec (k.room h4).hd g1 m1 g2 xC
 |_=>exact Sq.no (fun _=>rfl) rfl
end
section
variable {P:am}{w:World}{K:W.Frag}{mg:Str->Option Value}{base:Heap}
structure Dok (Γ:Gm)(Κ:List D)(Φ:List Fn)(P:am)(w:World)(K:W.Frag)(mg:Str->Option Value)(base:Heap)(k:Nat):Prop where
 free:∀x,Γ.free.contains x=true->mg x=none
 fns:∀(j:Nat) f n,Γ.fns[j]?=some (f,n)->∃m k' ps,Φ[j]?=some m/\k'<=k/\Cal P w K mg base k' f ps (spD K n m)
 cst:∀(j:Nat) x,Γ.cst[j]?=some x->∃d a,Κ[j]?=some d/\mg x=some (.ref a)/\∀H B,B none->Rep K H B (.ref a) d
 fnx:∀(j:Nat) f n,Γ.fns[j]?=some (f,n)->∃m k' ps,Φ[j]?=some m/\k'<=k/\CalX P w K mg base k' f ps n m
 xk:Xok Γ K mg
theorem z67 {H:Hp}{A:Ad->Prop}{vs:List V}{ds:List D}{n:Nat}(r:Reps K H A vs ds):StOk K ⟨H,fun a=>H a=none\/A (some a),fun _=>none,A none⟩ H (vs.map some++ai (n-vs.length) none) (ds.map (fun d=>some (.od,d))++ai (n-ds.length) none) where
 ext:=Same.refl H
 vis:=fun a e=>.inl e
 own:=fun a i e=>by cases e
 len:=by have:=r.length;simp only[ba,aw,bq];omega
 sl:=fun i g d e=>by
  rw[jp]at e;split at e
  ·rename_i hi;rw[az]at e;cases h1:ds[i]? with
   |none=>rw[h1]at e;cases e
   |some d'=>
    rw[h1]at e;cases e;obtain⟨v,h2,h3⟩:=Reps.get r h1;refine⟨v,?_,?_⟩
    ·rw[jp,if_pos (by rw[aw,r.length];rw[aw]at hi;exact hi),az,h2];rfl
    ·refine(Rep.there _ h3).weak fun a h=>?_;cases a with
     |none=>exact h.1
     |some a=>exact⟨fun z=>h.2 z,.inr h.1⟩
  ·rw[bo]at e;split at e<;>cases e
theorem z89 {Κ:List D}{Φ:List Fn}{s:S}{ρ:Rho}{x:GD}(e:(match evX Κ Φ s ρ with|some c=>Res.exc (.str c)|none=>.no)=Res.ok x):False:=by cases h:evX Κ Φ s ρ<;>rw[h]at e<;>cases e
theorem d_fn {Γ:Gm}{Κ:List D}{Φ:List Fn}{x:Str}{st:Stmt}{ps:List Str}{k:Nat}{s:S}{f:Addr}{fd:cu}(Fu:Fun K x x st f fd)(Sc:FnScope Γ.N ps (z03 st))(hs:Γ.sc=z03 st)(hb:Γ.blk=false)(hxc:Γ.xc=none)(dk:Dok Γ Κ Φ P w K mg base k)(hc:chkL Γ s (z06 st)=true):
  FnOk P w K mg base CX0 (k+1) f fd ps (spD K ps.length (runD Κ Φ Γ.N.length s)):=by
 refine Fu.ok Sc (fun vs H Q E h=>h.choose_spec.choose_spec.choose_spec.1) fun cdv A outer s1 H vs Q E hr hsp=>?_;obtain⟨B,ds,r,hl,rs,e,q⟩:=hsp;refine⟨_,sL Κ Φ s Γ (cxOf CX0 P w K mg base Γ.N x (z03 st) f cdv A outer s1 H E).nox k _ ⟨rfl,hs.symm,Sc.nd,fun _ _=>rfl,by rw[hs];exact Sc.kind,dk.free,dk.fns,dk.cst,dk.fnx,fun _=>hr,fun _=>rfl,hr.units,fun _=>⟨rfl,rfl⟩,fun _=>rfl,fun _ _ z=>(by rw[hxc]at z;cases z),dk.xk⟩ PassesOwn.never hc,?_⟩;unfold runD at e;have so:=z67 (n:=Γ.N.length) rs;have hd:ds.length=vs.length:=(rs.length).symm;generalize ho:evS Κ Φ s (ds.map (fun d=>some (.od,d))++ai (Γ.N.length-ds.length) none)=out at e
 match out,ho,e with
 |.ok (.nx ρ'),ho,e=>cases e;refine⟨_,_,_,so,ho,fun σ' H' F' so' ru fr=>q .non H' (fun a o e=>(fr a o e rfl).1) rfl⟩
 |.ok (.rt g d),ho,e=>
  cases e;refine⟨_,_,_,so,ho,fun v H' hk rv=>q v H' hk (rv.weak fun a h=>?_)⟩;cases g with
  |fr=>cases a<;>exact h
  |nu=>cases a<;>exact h
  |od=>cases a with
   |none=>exact .inr h
   |some a=>exact(show H a=none\/B (some a)from h).elim .inl fun z=>.inr z
  |al=>cases a with
   |none=>exact .inr h
   |some a=>exact(show H a=none\/B (some a)from h).elim .inl fun z=>.inr z
 |.exc _,ho,e=>exact(z89 (Κ:=Κ) (Φ:=Φ) e).elim
 |.no,ho,e=>exact(z89 (Κ:=Κ) (Φ:=Φ) e).elim
theorem zl8 {Γ:Gm}{Κ:List D}{Φ:List Fn}{x:Str}{st:Stmt}{ps:List Str}{k:Nat}{s:S}{f:Addr}{fd:cu}(Fu:Fun K x x st f fd)(Sc:FnScope Γ.N ps (z03 st))(hs:Γ.sc=z03 st)(hb:Γ.blk=false)(hxc:Γ.xc=none)(dk:Dok Γ Κ Φ P w K mg base k)(hc:chkL Γ s (z06 st)=true):
  FnOk P w K mg base (CXE P w base) (k+1) f fd ps (spX K mg ps.length (runD Κ Φ Γ.N.length s)):=by
 obtain⟨oc,od,kV,doc,pm,an,cdv,ct,osl,rfl,lk,hcd⟩:=Fu.ex;refine zcv lk hcd Sc (fun vs H Q E h=>h.choose_spec.choose_spec.choose_spec.1) fun A outer s1 H vs Q E hr hsp=>?_;obtain⟨B,ds,c,hl,rs,e,q⟩:=hsp;refine⟨_,(allX s).L Γ (cxOf (CXE P w base) P w K mg base Γ.N x (z03 st) f cdv A outer s1 H E) k _ ⟨rfl,hs.symm,Sc.nd,fun _ _=>rfl,by rw[hs];exact Sc.kind,dk.free,dk.fns,dk.cst,dk.fnx,fun _=>hr,fun _=>rfl,hr.units,fun _=>⟨rfl,rfl⟩,fun _=>rfl,fun _ _ z=>(by rw[hxc]at z;cases z),dk.xk⟩ PassesOwn.leaving hc,?_⟩;have so:=z67 (n:=Γ.N.length) rs;refine⟨_,_,c,so,?_,?_⟩
 ·unfold runD at e;split at e
  ·cases e
  ·cases e
  ·cases e
  ·split at e
   ·rename_i h;cases e;exact h
   ·cases e
 ·refine⟨fun pins σ H1 s2 a C args h' I hm hS hx=>?_,fun pins σ H1 s2 a C H' s' I hm hS fl=>?_⟩
  ·exact z37 I hx rfl rfl rfl fun s3 fl=>⟨a,C,H1,rfl,fl,q C H1 hm hS⟩
  ·exact fl.leave (outer:=[]) I rfl rfl rfl fun s3 fl=>⟨a,C,H',rfl,fl,q C H' hm hS⟩
theorem z6y {K:W.Frag}{H:Hp}{a:Addr}{ns:List Int}(h:SqL K H a (ns.map V.int)):Reps K H (fun _=>True) [.ref a] [.list (ns.map .int)]:=by
 refine⟨_,_,rfl,⟨a,ns.map V.int,rfl,?_,?_⟩,rfl⟩
 ·rcases h with(h|h)|h
  ·exact .inl ⟨h,trivial⟩
  ·exact .inr ⟨.inl h,trivial⟩
  ·exact .inr ⟨.inr h,trivial⟩
 ·clear h
  induction ns with
  |nil=>rfl
  |cons n ns ih=>exact⟨_,_,rfl,rfl,ih⟩
end
section
variable {X:Cx}{pins:List (Addr×Obj)}{σ:L2.St}{H:Hp}{s:aa}{i:Nat}{n:Str}{a:Addr}{oe:Obj}
abbrev hld (o:Obj):HO:=.frz o (.own 0)
end
section
variable {P:am}{w:World}{K:W.Frag}{mg:Str->Option Value}{base:Heap}
end
section
variable {X:Cx}{pins:List (Addr×Obj)}{σ:L2.St}{H:Hp}{s:aa}{i j:Nat}{n y c:Str}{r:Bool}
end
end Mi
namespace Mi
open PySem
structure Gd where
 kf:Nat
 args:C
 c:Str
 i:Nat
 j:Nat
 g:Str
 r:Bool
end Mi
namespace Mi
open PySem PySem.Spec PyProof.Rows L2
section
variable {X:Cx}{i j:Nat}{n y c:Str}
end
section
variable {P:am}{w:World}{K:W.Frag}{mg:Str->Option Value}{base:Heap}
end
structure XR where
 c:Str
 cs:List (Str×Bool)
 B:Str
def XR.subs (r:XR):List (Str×Str×Bool):=(r.c,"ValueError",true)::r.cs.map fun y=>(r.c,y.1,y.2)
def zai (K:W.Frag)(A:Addr):List (Str×Bool)->Prop
 | []=>True
 |y::l=>(∃D dd cd sl,W.nsIn K bc y.1=some (some (.ref D))/\K.lookup D=some ⟨.type "type",dd,.cls cd,sl⟩/\W.subIn K (.ref A) (.ref D)=some y.2)/\zai K A l
structure Kx (K:W.Frag)(r:XR)(A D:Addr):Prop where
 a:W.nsIn K bc r.c=some (some (.ref A))
 l:∃dd cd sl,K.lookup A=some ⟨.type "type",dd,.cls cd,sl⟩
 e:W.excIn K A [.type "ValueError",.type "Exception",.type "BaseException",.type "object"] "ValueError.__new__"=true
 cl:W.findIn K (.ref A) "__class__"=some (some (.builtin "object.__class__"))
 ga:W.findIn K (.ref A) "__getattribute__"=some (some (.builtin "BaseException.__getattribute__"))
 gt:W.findIn K (.ref A) "__getattr__"=some none
 ob:W.subIn K (.ref A) (.type "object")=some true
 be:W.subIn K (.ref A) (.type "BaseException")=some true
 v:W.subIn K (.ref A) (.type "ValueError")=some true
 b:W.nsIn K bc r.B=some (some (.ref D))
 f:W.excIn K D [.type "ValueError",.type "Exception",.type "BaseException",.type "object"] "ValueError.__new__"=true
 s:W.subIn K (.ref A) (.ref D)=some true
 cs:zai K A r.cs
def kxs (K:W.Frag):List XR->Prop
 | []=>True
 |r::l=>(∃A D,Kx K r A D)/\kxs K l
theorem z6l {K:W.Frag}:∀{l:List XR} {r:XR},kxs K l->r∈l->∃A D,Kx K r A D
 | [],_,_,z=>nomatch z
 |_::_,_,h,.head _=>h.1
 |_::_,_,h,.tail _ z=>z6l h.2 z
theorem z61 {K:W.Frag}{A:Addr}:∀{l:List (Str×Bool)} {y:Str×Bool},zai K A l->y∈l->∃D dd cd sl,W.nsIn K bc y.1=some (some (.ref D))/\K.lookup D=some ⟨.type "type",dd,.cls cd,sl⟩/\W.subIn K (.ref A) (.ref D)=some y.2
 | [],_,_,z=>nomatch z
 |_::_,_,h,.head _=>h.1
 |_::_,_,h,.tail _ z=>z61 h.2 z
theorem z5r {K:W.Frag}{D:Addr}{dd:Option Addr}{cd:ClassData}{sl:Array (Option Value)}(l:K.lookup D=some ⟨.type "type",dd,.cls cd,sl⟩):W.typeIn K (.ref D)=some (.type "type")/\(W.clsIn K D).isSome=true:=by
 refine⟨?_,?_⟩
 ·show(K.lookup D).map (·.cls)=_;rw[l];rfl
 ·unfold W.clsIn;rw[l];rfl
theorem zjb {Γ:Gm}{K:W.Frag}{h:Heap}{mg:Str->Option Value}{xt:List XR}(X:K.In h)(G:h.Ns bc mg)(hk:kxs K xt)(hz:xt≠[]->mg "ValueError"=none)(h1:Γ.sub=(xt.map XR.subs).flatten)(h2:Γ.rs=xt.map (·.c))(h3:Γ.hnd=xt.map fun r=>(r.c,r.B)):Xok Γ K mg:=by
 refine⟨fun c C b z=>?_,fun c z=>?_,fun c B z=>?_⟩
 ·rw[h1]at z;obtain⟨l,hl,z⟩:=kj.mp (ce.mp z);obtain⟨r,hr,rfl⟩:=d6.mp hl;obtain⟨A,D,k⟩:=z6l hk hr;obtain⟨dd,cd,sl,kl⟩:=k.l;have xa:XA K A:=⟨k.cl,k.ga,k.gt,k.ob,k.be,(z5r kl).1,(z5r kl).2,k.e⟩;rcases a9.mp z with e|z
  ·cases e;exact⟨A,.ty "ValueError",.type "ValueError",W.mg_of X G k.a,xa,XV.val,k.v,rfl,fun w q=>q,.inr ⟨hz (fun q=>by rw[q]at hr;cases hr),by decide+kernel,by decide⟩⟩
  ·obtain⟨y,hy,e⟩:=d6.mp z;cases e;obtain⟨D',dd',cd',sl',e1,e2,e3⟩:=z61 k.cs hy;exact⟨A,.ref D',.ref D',W.mg_of X G k.a,xa,XV.own (z5r e2).1 (z5r e2).2,e3,rfl,fun w q=>q,.inl (W.mg_of X G e1)⟩
 ·rw[h2]at z;obtain⟨r,hr,rfl⟩:=d6.mp (ce.mp z);obtain⟨A,D,k⟩:=z6l hk hr;exact⟨A,W.mg_of X G k.a,k.e⟩
 ·rw[h3]at z;obtain⟨r,hr,e⟩:=d6.mp (ce.mp z);cases e;obtain⟨A,D,k⟩:=z6l hk hr;exact⟨A,D,W.mg_of X G k.a,W.mg_of X G k.b,k.e,k.f,k.s⟩
inductive Kd where
 |n
 |e (c:Str) (r:Bool)
 |g (d:Gd) (je:Nat)
structure DRow where
 nm:Str
 st:Stmt
 N:List Str
 ps:List Str
 free:List Str
 fns:List Nat
 s:S
 F:Fn
 kd:Kd
 kc:List (Str×List Str):=[]
def cD (y:Str×List Str):D:=.tuple (y.2.map .str)
def sig (Rs:List DRow)(j:Nat):Str×Nat:=match Rs[j]? with
 |some c=>(c.nm,c.ps.length)
 |none=>("",0)
def fnAt (Rs:List DRow)(j:Nat):Fn:=match Rs[j]? with
 |some c=>c.F
 |none=>fun _=>.no
def DRow.G (Rs:List DRow)(xt:List XR)(r:DRow):Gm:={N:=r.N,sc:=z03 r.st,free:=r.free,fns:=r.fns.map (sig Rs),cst:=r.kc.map (·.1),sub:=(xt.map XR.subs).flatten,rs:=xt.map (·.c),hnd:=xt.map fun r=>(r.c,r.B)}
def Kd.isE:Kd->Bool
 |.e _ _=>true
 |_=>false
def nE (Rs:List DRow)(j:Nat):Bool:=match Rs[j]? with
 |some c=>!c.kd.isE
 |none=>true
def DRow.part (Rs:List DRow)(xt:List XR)(i:Nat)(r:DRow):Bool:=match r.kd with
 |.n=>chkL (r.G Rs xt) r.s (z06 r.st)
 |.e _ _=>false
 |.g _ _=>false
def DRow.ok (Rs:List DRow)(xt:List XR)(fr:List Str)(i:Nat)(r:DRow):Bool:=
 (decide ((z03 r.st).kind=.function)&& !(z03 r.st).isCoroutine&& !(z03 r.st).isGenerator&&decide r.N.Nodup&&decide (r.N.take r.ps.length=r.ps))&&
 (r.ps.all (fun x=>(z03 r.st).names.lookup x==some .local||(z03 r.st).names.lookup x==some .cell)&&(z03 r.st).names.all (fun y=>!(y.2==.free))&&r.free.all (fun x=>fr.contains x)&&r.fns.all (fun j=>decide (j<i)&&nE Rs j)&&r.part Rs xt i)
def oks (Rs:List DRow)(xt:List XR)(fr:List Str):Nat->List DRow->Bool
 |_,[]=>true
 |i,r::l=>r.ok Rs xt fr i&&oks Rs xt fr (i+1) l
def DRow.fOk (Rs:List DRow)(r:DRow):Prop:=match r.kd with
 |.n=>r.F=runD (r.kc.map cD) (r.fns.map (fnAt Rs)) r.N.length r.s
 |.e _ _=>True
 |.g _ _=>True
def fOks (Rs:List DRow):List DRow->Prop
 | []=>True
 |r::l=>r.fOk Rs/\fOks Rs l
theorem z6g {Rs:List DRow}{xt:List XR}{fr:List Str}:∀{l:List DRow} {k i:Nat} {r:DRow},oks Rs xt fr k l=true->l[i]?=some r->r.ok Rs xt fr (k+i)=true
 | [],_,i,_,_,e=>by simp at e
 |r::l,k,0,_,h,e=>by cases e;exact(and2 h).1
 |r::l,k,i+1,_,h,e=>by
  have:=z6g (k:=k+1) (and2 h).2 (show l[i]?=some _ from e)
  rwa [show k+(i+1)=k+1+i by omega]
theorem z8w {Rs:List DRow}:∀{l:List DRow} {i:Nat} {r:DRow},fOks Rs l->l[i]?=some r->r.fOk Rs
 | [],i,_,_,e=>by simp at e
 |r::l,0,_,h,e=>by cases e;exact h.1
 |r::l,i+1,_,h,e=>z8w h.2 (show l[i]?=some _ from e)
section
variable {P:am}{w:World}{K:W.Frag}{mg:Str->Option Value}{base:Heap}{Rs:List DRow}{xt:List XR}{fr:List Str}
theorem z4p {r:DRow}{i:Nat}(h:r.ok Rs xt fr i=true):FnScope (r.G Rs xt).N r.ps (z03 r.st)/\(∀x,r.free.contains x=true->fr.contains x=true)/\(∀j∈r.fns,j<i/\nE Rs j=true)/\r.part Rs xt i=true:=by
 obtain⟨h1,h2⟩:=and2 h;obtain⟨a1,a2,a3,a4,a5⟩:=and5 h1;obtain⟨b1,b2,b3,b4,b5⟩:=and5 h2;refine⟨⟨pf a1,z0j a2,z0j a3,pf a4,pf a5,fun x hx=>?_,fun y hy z=>?_⟩,fun x hx=>?_,fun j hj=>⟨pf (and2 (br.mp b4 j hj)).1,(and2 (br.mp b4 j hj)).2⟩,b5⟩
 ·rcases dh.mp (br.mp b1 x hx)with q|q
  ·exact .inl (pi q)
  ·exact .inr (pi q)
 ·have :=z0j (br.mp b2 y hy);rw[z]at this;cases this
 ·exact br.mp b3 x (ce.mp hx)
def z7e (P:am)(w:World)(K:W.Frag)(mg:Str->Option Value)(base:Heap)(i:Nat)(r:DRow):Prop:=match r.kd with
 |.e _ _=>True
 |_=>Cal P w K mg base (i+1) r.nm r.ps (spD K r.ps.length r.F)/\CalX P w K mg base (i+1) r.nm r.ps r.ps.length r.F
theorem rowN {j:Nat}{c:DRow}(h:z7e P w K mg base j c)(e:Rs[j]?=some c)(n:nE Rs j=true):Cal P w K mg base (j+1) c.nm c.ps (spD K c.ps.length c.F)/\CalX P w K mg base (j+1) c.nm c.ps c.ps.length c.F:=by
 unfold nE at n;rw[e]at n;have n:(!c.kd.isE)=true:=n;unfold z7e at h;cases hk:c.kd with
 |n=>rw[hk]at h;exact h
 |g d je=>rw[hk]at h;exact h
 |e x b=>rw[hk]at n;cases n
def ze1 (K:W.Frag)(mg:Str->Option Value)(y:Str×List Str):Prop:=∃a,mg y.1=some (.ref a)/\∀H B,B none->Rep K H B (.ref a) (cD y)
theorem z7t {r:DRow}{i:Nat}(hr:Rs[i]?=some r)(h:r.ok Rs xt fr i=true)(T:∀x∈fr,mg x=none)(xk:∀Γ:Gm,Γ.sub=(xt.map XR.subs).flatten->Γ.rs=xt.map (·.c)->(Γ.hnd=xt.map fun r=>(r.c,r.B))->Xok Γ K mg)(hC:∀y∈r.kc,ze1 K mg y)(ih:∀j c,j<i->Rs[j]?=some c->z7e P w K mg base j c):Dok (r.G Rs xt) (r.kc.map cD) (r.fns.map (fnAt Rs)) P w K mg base i where
 free:=fun x hx=>T x (ce.mp ((z4p h).2.1 x hx))
 fns:=fun j f n e=>by
  have e:(r.fns.map (sig Rs))[j]?=some (f,n):=e;rw[az]at e;obtain⟨jj,ej,e⟩:=cf.mp e;obtain⟨hlt,hne⟩:=(z4p h).2.2.1 jj (bu ej);have hl:i<Rs.length:=(a8.mp hr).1;have hc:Rs[jj]?=some Rs[jj]:=bh (kr hlt hl);unfold sig at e;rw[hc]at e;cases e;refine⟨fnAt Rs jj,jj+1,Rs[jj].ps,by rw[az,ej];rfl,hlt,?_⟩;have:fnAt Rs jj=Rs[jj].F:=by unfold fnAt;rw[hc]
  rw[this];exact(rowN (ih jj _ hlt hc) hc hne).1
 cst:=fun j x e=>by have e:(r.kc.map (·.1))[j]?=some x:=e;rw[az]at e;obtain⟨y,ey,rfl⟩:=cf.mp e;obtain⟨a,h1,h2⟩:=hC y (bu ey);exact⟨cD y,a,by rw[az,ey];rfl,h1,h2⟩
 fnx:=fun j f n e=>by
  have e:(r.fns.map (sig Rs))[j]?=some (f,n):=e;rw[az]at e;obtain⟨jj,ej,e⟩:=cf.mp e;obtain⟨hlt,hne⟩:=(z4p h).2.2.1 jj (bu ej);have hl:i<Rs.length:=(a8.mp hr).1;have hc:Rs[jj]?=some Rs[jj]:=bh (kr hlt hl);unfold sig at e;rw[hc]at e;cases e;refine⟨fnAt Rs jj,jj+1,Rs[jj].ps,by rw[az,ej];rfl,hlt,?_⟩;have:fnAt Rs jj=Rs[jj].F:=by unfold fnAt;rw[hc]
  rw[this];exact(rowN (ih jj _ hlt hc) hc hne).2
 xk:=xk _ rfl rfl rfl
theorem zdj (hok:oks Rs xt fr 0 Rs=true)(hF:fOks Rs Rs)(T:∀x∈fr,mg x=none)(xk:∀Γ:Gm,Γ.sub=(xt.map XR.subs).flatten->Γ.rs=xt.map (·.c)->(Γ.hnd=xt.map fun r=>(r.c,r.B))->Xok Γ K mg)(n:Nat)(hC:∀r∈Rs,∀y∈r.kc,ze1 K mg y)(O:∀i r,i<n->Rs[i]?=some r->Own K mg r.nm r.st r.ps):∀i r,i<n->Rs[i]?=some r->z7e P w K mg base i r:=by
 intro i
 induction i using Nat.strongRecOn with
 |ind i ih=>
  intro r hi hr
  have ho:r.ok Rs xt fr i=true:=by
   have:=z6g hok hr
   rwa [Nat.zero_add]at this
  have ih:∀j c,j<i->Rs[j]?=some c->z7e P w K mg base j c:=fun j c hj hc=>ih j hj c (kr hj hi) hc;have D:=z7t (P:=P) (w:=w) (K:=K) (base:=base) hr ho T xk (hC r (bu hr)) ih;obtain⟨Sc,hfr,_,hp⟩:=z4p ho;have hf:=z8w hF hr;obtain⟨f,fd,Fu,m,kp,b⟩:=O i r hi hr;unfold DRow.fOk at hf;unfold DRow.part at hp;unfold z7e;cases hk:r.kd with
  |n=>rw[hk]at hf hp;have hf:r.F=_:=hf;show _/\_;rw[hf];exact⟨⟨f,fd,d_fn (Γ:=r.G Rs xt) Fu Sc rfl rfl rfl D hp,m,kp,b⟩,⟨f,fd,zl8 (Γ:=r.G Rs xt) Fu Sc rfl rfl rfl D hp,m,kp,b⟩⟩
  |e c bb=>rw[hk]at hp;cases hp
  |g d je=>rw[hk]at hp;cases hp
end
def Kf (K:W.Frag)(r:DRow)(f:Addr)(fd:cu):Prop:=W.nsIn K bc r.nm=some (some (.ref f))/\∃(oc:Value) (od an:Option Addr) (sl:Array (Option Value)) (kV dc pm cd ct:Value),fd=W.fnOf r.nm r.nm (z0s r.st) (z06 r.st) (z03 r.st) .none kV dc pm an cd ct/\K.lookup f=some ⟨oc,od,.func fd,sl⟩/\W.codeIn K cd r.nm=true/\W.keepIn K (.ref f)=true
def ze9 (r:DRow):Prop:=∀(kV doc pm:Value) (an:Option Addr) (cdv ct:Value) (us:List Value),us.length=r.ps.length->ot (W.fnOf r.nm r.nm (z0s r.st) (z06 r.st) (z03 r.st) .none kV doc pm an cdv ct) ⟨us,[]⟩=pure (r.ps.zip us)
theorem cut1 {us:List Value}{n:Nat}(h:us.length=n+1):∃a l,us=a::l/\l.length=n:=by
 cases us with
 |nil=>cases h
 |cons a l=>exact⟨a,l,rfl,Nat.succ.inj h⟩
theorem by1 {P:List Value->Prop}(h:∀a,P [a])(us:List Value)(z:us.length=1):P us:=by obtain⟨a,l,rfl,y⟩:=cut1 z;cases jq y;exact h a
theorem by2 {P:List Value->Prop}(h:∀a b,P [a,b])(us:List Value)(z:us.length=2):P us:=by obtain⟨a,l,rfl,y⟩:=cut1 z;exact by1 (P:=fun l=>P (a::l)) (h a) l y
theorem by3 {P:List Value->Prop}(h:∀a b c,P [a,b,c])(us:List Value)(z:us.length=3):P us:=by obtain⟨a,l,rfl,y⟩:=cut1 z;exact by2 (P:=fun l=>P (a::l)) (h a) l y
def kOks (K:W.Frag):List DRow->Prop
 | []=>True
 |r::l=>((∃f fd,Kf K r f fd)/\ze9 r)/\kOks K l
theorem z9b {K:W.Frag}:∀{l:List DRow} {i:Nat} {r:DRow},kOks K l->l[i]?=some r->(∃f fd,Kf K r f fd)/\ze9 r
 | [],i,_,_,e=>by simp at e
 |r::l,0,_,h,e=>by cases e;exact h.1
 |r::l,i+1,_,h,e=>z9b h.2 (show l[i]?=some _ from e)
def strOf:Value->Option Str
 |.str x _=>if PyData.strOk x then some x else none
 |_=>none
def ck1 (K:W.Frag)(y:Str×List Str):Bool:=match W.nsIn K bc y.1 with
 |some (some (.ref a))=>(match K.lookup a with
  |some ⟨.type "tuple",none,.seq its _,_⟩=>decide (its.toList.map strOf=y.2.map some)&&decide (y.2.length<=1000)
  |_=>false)
 |_=>false
end Mi
namespace Mi
open PySem PySem.Spec PyProof.Rows L2
def kf1 (K:W.Frag)(r:DRow):Option (cu×Bool):=match W.nsIn K bc r.nm with
 |some (some (.ref f))=>(match K.lookup f with
  |some ⟨_,_,.func fd,_⟩=>some (fd,W.codeIn K fd.code r.nm&&W.keepIn K (.ref f))
  |_=>none)
 |_=>none
def kf2 (r:DRow)(x:cu×Bool):cu×Bool:=(W.fnOf r.nm r.nm (z0s r.st) (z06 r.st) (z03 r.st) .none x.1.kwdefaults x.1.doc x.1.pyModule x.1.annotations x.1.code x.1.closureTuple,true)
def isC (K:W.Frag)(A:Addr):Bool:=match K.lookup A with
 |some ⟨.type "type",_,.cls _,_⟩=>true
 |_=>false
def MROX:List Value:=[.type "ValueError",.type "Exception",.type "BaseException",.type "object"]
def kx1 (K:W.Frag)(r:XR):Option (Bool×Bool×Option (Option Value)×Option (Option Value)×Option (Option Value)×Option Bool×Option Bool×Option Bool×Bool×Option Bool×List (Bool×Option Bool)):=match W.nsIn K bc r.c,W.nsIn K bc r.B with
 |some (some (.ref A)),some (some (.ref D))=>some (isC K A,W.excIn K A MROX "ValueError.__new__",W.findIn K (.ref A) "__class__",W.findIn K (.ref A) "__getattribute__",W.findIn K (.ref A) "__getattr__",W.subIn K (.ref A) (.type "object"),W.subIn K (.ref A) (.type "BaseException"),W.subIn K (.ref A) (.type "ValueError"),W.excIn K D MROX "ValueError.__new__",W.subIn K (.ref A) (.ref D),r.cs.map fun y=>match W.nsIn K bc y.1 with
  |some (some (.ref E))=>(isC K E,W.subIn K (.ref A) (.ref E))
  |_=>(false,none))
 |_,_=>none
def kx2 (r:XR):Option (Bool×Bool×Option (Option Value)×Option (Option Value)×Option (Option Value)×Option Bool×Option Bool×Option Bool×Bool×Option Bool×List (Bool×Option Bool)):=some (true,true,some (some (.builtin "object.__class__")),some (some (.builtin "BaseException.__getattribute__")),some none,some true,some true,some true,true,some true,r.cs.map fun y=>(true,some y.2))
theorem zc8 {K:W.Frag}{A:Addr}(h:isC K A=true):∃dd cd sl,K.lookup A=some ⟨.type "type",dd,.cls cd,sl⟩:=by
 unfold isC at h;split at h
 ·rename_i dd cd sl e;exact⟨dd,cd,sl,e⟩
 ·cases h
theorem z9r {K:W.Frag}{A:Addr}:∀{l:List (Str×Bool)},(l.map fun y=>match W.nsIn K bc y.1 with
  |some (some (.ref E))=>(isC K E,W.subIn K (.ref A) (.ref E))
  |_=>(false,none))=(l.map fun y=>(true,some y.2))->zai K A l
 | [],_=>trivial
 |y::l,h=>by
  have h:=List.cons.inj h;refine⟨?_,z9r h.2⟩;have e:=h.1
  dsimp only at e
  split at e
  ·rename_i E hE;have e:=Prod.mk.inj e;obtain⟨dd,cd,sl,q⟩:=zc8 e.1;exact⟨E,dd,cd,sl,hE,q,e.2⟩
  ·cases(Prod.mk.inj e).1
theorem zha {K:W.Frag}{r:XR}(h:kx1 K r=kx2 r):∃A D,Kx K r A D:=by
 unfold kx1 kx2 at h;split at h
 ·rename_i A D hA hD;have h:=Prod.mk.inj (Option.some.inj h);have h2:=Prod.mk.inj h.2;have h3:=Prod.mk.inj h2.2;have h4:=Prod.mk.inj h3.2;have h5:=Prod.mk.inj h4.2;have h6:=Prod.mk.inj h5.2;have h7:=Prod.mk.inj h6.2;have h8:=Prod.mk.inj h7.2;have h9:=Prod.mk.inj h8.2;have h10:=Prod.mk.inj h9.2;exact⟨A,D,hA,zc8 h.1,h2.1,h3.1,h4.1,h5.1,h6.1,h7.1,h8.1,hD,h9.1,h10.1,z9r h10.2⟩
 ·cases h
theorem zbt {K:W.Frag}:∀{l:List XR},(∀r∈l,∃A D,Kx K r A D)->kxs K l
 | [],_=>trivial
 |r::_,h=>⟨h r (.head _),zbt fun r hr=>h r (.tail _ hr)⟩
def KEq (K:dz->W.Frag)(Rs:List DRow)(fr:List Str)(xt:List XR):Prop:=∀P,(Rs.map fun r=>(kf1 (K P) r).isSome,Rs.map fun r=>kf1 (K P) r,fr.map fun n=>W.nsIn (K P) bc n,xt.map fun r=>kx1 (K P) r,Rs.map fun r=>r.kc.map fun y=>ck1 (K P) y)=(Rs.map fun _=>true,Rs.map fun r=>(kf1 (K P) r).map (kf2 r),fr.map fun _=>some none,xt.map kx2,Rs.map fun r=>r.kc.map fun _=>true)
theorem KEq_r:KEq=KEq:=rfl
theorem ziv {K:W.Frag}{r:DRow}(h:(kf1 K r).isSome=true)(e:kf1 K r=(kf1 K r).map (kf2 r)):∃f fd,Kf K r f fd:=by
 cases z:kf1 K r with
 |none=>rw[z]at h;cases h
 |some x=>
  rw[z]at e;have e:x=kf2 r x:=Option.some.inj e;unfold kf1 at z;split at z
  ·rename_i f hf;split at z
   ·rename_i oc od fd sl hl;have z:=Option.some.inj z;have z1:fd=x.1:=congrArg n8 z;have z2:(W.codeIn K fd.code r.nm&&W.keepIn K (.ref f))=x.2:=congrArg pb z;have e1:x.1=(kf2 r x).1:=congrArg n8 e;have e2:x.2=true:=congrArg pb e;rw[e2]at z2;have z3:=aq.mp z2;subst z1;exact⟨f,x.1,hf,oc,od,x.1.annotations,sl,x.1.kwdefaults,x.1.doc,x.1.pyModule,x.1.code,x.1.closureTuple,e1,hl,z3.1,z3.2⟩
   ·cases z
  ·cases z
theorem z6d {K:dz->W.Frag}{Rs:List DRow}{fr:List Str}{xt:List XR}(h:KEq K Rs fr xt)(P:dz):(∀r∈Rs,∃f fd,Kf (K P) r f fd)/\(∀n∈fr,W.nsIn (K P) bc n=some none)/\kxs (K P) xt/\∀r∈Rs,∀y∈r.kc,ck1 (K P) y=true:=by have a:=Prod.mk.inj (h P);have b:=Prod.mk.inj a.2;have c:=Prod.mk.inj b.2;have d:=Prod.mk.inj c.2;exact⟨fun r hr=>ziv (di.mp a.1 r hr) (di.mp b.1 r hr),fun n hn=>di.mp c.1 n hn,zbt fun r hr=>zha (di.mp d.1 r hr),fun r hr=>di.mp (di.mp d.2 r hr)⟩
def bOks:List DRow->Prop
 | []=>True
 |r::l=>ze9 r/\bOks l
theorem z9s {K:W.Frag}:∀{l:List DRow},(∀r∈l,∃f fd,Kf K r f fd)->bOks l->kOks K l
 | [],_,_=>trivial
 |r::_,h,b=>⟨⟨h r (.head _),b.1⟩,z9s (fun r hr=>h r (.tail _ hr)) b.2⟩
end Mi
name_quick tkeq for Mi.KEq by Mi.KEq_r
namespace Mk
open Mi
section
open PySem
abbrev P:=List (Str×Int)
def pr (p:Str×Int):D:=.tuple [.str p.1,.int p.2]
def ep (p:Str×Int):D×D:=(.str p.1,.int p.2)
def en (l:P):Ents:=l.map ep
def fnd:P->Str->Option Int
 | [],_=>none
 |p::l,n=>if p.1=n then some p.2 else fnd l n
def look (l:P)(n:Str):Int:=(fnd l n).getD 0
def ks (l:P):List Str:=l.map (·.1)
def put:P->Str->Int->P
 | [],n,v=>[(n,v)]
 |p::l,n,v=>if p.1=n then(p.1,v)::l else p::put l n v
def sl (a b:Str):Prop:=a.cps.toList<b.cps.toList
theorem z8t (a:Str):¬sl a a:=List.lt_irrefl _
theorem zmn {a b c:Str}(h:sl a b)(k:sl b c):sl a c:=List.lt_trans h k
theorem zhw {a b:Str}(h:a.cps.toList=b.cps.toList):a=b:=by cases a;cases b;simp at h;subst h;rfl
theorem zjd {a b:Str}(h:a≠b):sl a b\/sl b a:=by
 by_cases h1:sl a b
 ·exact .inl h1
 ·by_cases h2:sl b a
  ·exact .inr h2
  ·exact(h (zhw (List.le_antisymm (List.not_lt.mp h2) (List.not_lt.mp h1)))).elim
theorem zm3 {a b:Str}(h:sl a b):a≠b:=fun e=>z8t b (e▸h)
theorem z3r {n:Str}:∀{l:P},n∉ks l->fnd l n=none
 | [],_=>rfl
 |p::l,h=>by simp only[ks,bg,a9,not_or]at h;rw[fnd,if_neg (fun e=>h.1 e.symm)];exact z3r h.2
theorem z3n {n:Str}{v:Int}:∀{l:P},fnd l n=some v->(n,v)∈l
 | [],h=>by cases h
 |p::l,h=>by
  rw[fnd]at h;split at h
  ·rename_i e;cases h;subst e;exact av
  ·exact ao _ (z3n h)
theorem zdt {n:Str}{v:Int}{l:P}(h:fnd l n=some v):n∈ks l:=d6.mpr ⟨_,z3n h,rfl⟩
theorem z84:∀{l:P} {p:Str×Int},(ks l).Nodup->p∈l->fnd l p.1=some p.2
 |q::l,p,nd,h=>by
  rw[ks,bg,fu]at nd;rw[fnd];rcases(a9.mp h)with rfl|h
  ·rw[if_pos rfl]
  ·rw[if_neg fun e:q.1=p.1=>nd.1 (d6.mpr ⟨p,h,e.symm⟩)];exact z84 nd.2 h
theorem zg0 {l:P}{n:Str}(h:n∈ks l):∃v,fnd l n=some v:=by
 cases e:fnd l n with
 |some v=>exact⟨v,rfl⟩
 |none=>
  exfalso
  induction l with
  |nil=>cases h
  |cons p l ih=>
   rw[fnd]at e;split at e
   ·cases e
   ·rename_i hn;rcases a9.mp h with h|h
    ·exact hn h.symm
    ·exact ih h e
def lp (p q:Str×Int):Bool:=ltD (pr p) (pr q)
def Sd (l:P):Prop:=l.Pairwise fun p q=>sl p.1 q.1
theorem zkq {l:P}(h:Sd l):(ks l).Nodup:=by unfold ks List.Nodup;rw[List.pairwise_map];exact List.Pairwise.imp (fun z=>zm3 z) h
structure PK (l:P):Prop where
 sd:Sd l
 pos:∀p∈l,0<p.2
theorem PK.nd {l:P}(h:PK l):(ks l).Nodup:=zkq h.sd
theorem PK.nil:PK []:=⟨List.Pairwise.nil,fun _ h=>by cases h⟩
theorem PK.key {l:P}(h:PK l){n:Str}:n∈ks l↔0<look l n:=by
 constructor
 ·intro z;obtain⟨v,e⟩:=zg0 z;unfold look;rw[e];exact h.pos _ (z3n e)
 ·intro z;unfold look at z;cases e:fnd l n with
  |none=>rw[e]at z;exact absurd z (by decide)
  |some v=>exact zdt e
theorem PK.look_mem {l:P}(h:PK l){p:Str×Int}(hp:p∈l):look l p.1=p.2:=by unfold look;rw[z84 h.nd hp];rfl
theorem PK.ext:∀{a b:P},PK a->PK b->(∀n,look a n=look b n)->a=b
 | [],[],_,_,_=>rfl
 | [],q::b,_,hb,h=>by have:=h q.1;rw[hb.look_mem av]at this;have z:0<q.2:=hb.pos _ av;rw[<-this]at z;exact absurd z (Int.lt_irrefl 0)
 |p::a,[],ha,_,h=>by have:=h p.1;rw[ha.look_mem av]at this;have z:0<p.2:=ha.pos _ av;rw[this]at z;exact absurd z (Int.lt_irrefl 0)
 |p::a,q::b,ha,hb,h=>by
  have no:∀{x y:Str×Int} {l m:P},PK (x::l)->PK (y::m)->(∀n,look (x::l) n=look (y::m) n)->¬sl x.1 y.1:=fun{x y l m} hx hy h z=>by
   have e:=h x.1;rw[hx.look_mem av]at e;have k:x.1∈ks (y::m):=hy.key.mpr (e▸hx.pos _ av);rcases a9.mp k with k|k
   ·exact z8t _ (k▸z)
   ·obtain⟨w,hw,e2⟩:=d6.mp k;have:=(j3.mp hy.sd).1 w hw;rw[e2]at this;exact z8t _ (zmn z this)
  have e1:p.1=q.1:=by
   by_cases e:p.1=q.1
   ·exact e
   ·rcases zjd e with z|z
    ·exact(no ha hb h z).elim
    ·exact(no hb ha (fun n=>(h n).symm) z).elim
  have e2:p.2=q.2:=by have:=h p.1;rw[ha.look_mem av,e1,hb.look_mem av]at this;exact this
  have ep':p=q:=Prod.ext e1 e2;subst ep'
  congr 1
  have ta:PK a:=⟨(j3.mp ha.sd).2,fun x hx=>ha.pos x (ao _ hx)⟩;have tb:PK b:=⟨(j3.mp hb.sd).2,fun x hx=>hb.pos x (ao _ hx)⟩;refine PK.ext ta tb fun n=>?_;have hn:=h n;unfold look at hn ⊢;rw[fnd,fnd]at hn;by_cases e:p.1=n
  ·have na:n∉ks a:=by have :=ha.nd;rw[ks,bg,fu]at this;exact e▸this.1
   have nb:n∉ks b:=by have:=hb.nd;rw[ks,bg,fu]at this;exact e▸this.1
   rw[z3r na,z3r nb]
  ·rw[if_neg e,if_neg e]at hn;exact hn
end
section
open PySem
section
variable {Κ:List D}{Φ:List Fn}{ρ:Rho}{a b c t:C}{p q:S}{i:Nat}{f:D->Rho->Res Out}{x:D}{xs:List D}
theorem zji:evS Κ Φ (.seq p q) ρ=outB (evS Κ Φ p ρ) (evS Κ Φ q):=rfl
theorem zj5:evS Κ Φ (.asg (.nm i) t) ρ=(evE Κ Φ t ρ>>=fun x=>.ok (.nx (ρ.set i (some (z0z x))))):=rfl
theorem R_if:evS Κ Φ (.ifS c p q) ρ=(evT Κ Φ c ρ>>=fun k=>if k then evS Κ Φ p ρ else evS Κ Φ q ρ):=rfl
theorem zc9:evS Κ Φ (.ret (.var i)) ρ=(match ρ[i]? with|some (some (g,d))=>.ok (.rt (if imm d then .fr else rtG g) d)|_=>.no):=rfl
theorem zck:evA Κ Φ (.cons a b) ρ=(evE Κ Φ a ρ>>=fun x=>evA Κ Φ b ρ>>=fun xs=>.ok (x::xs)):=rfl
theorem O_tv:evO Κ Φ (.tv a) ρ=(evE Κ Φ a ρ>>=fun x=>intO x.2):=rfl
theorem T_tv:evT Κ Φ (.tv a) ρ=(evE Κ Φ a ρ>>=fun x=>z0p x.2):=rfl
theorem zjt:evT Κ Φ (.not a) ρ=(evT Κ Φ a ρ>>=fun c=>.ok (!c)):=rfl
theorem W_tv:evW Κ Φ (.tv a) ρ=(evE Κ Φ a ρ>>=fun x=>z5f x.2>>=fun xs=>.ok (x.1,xs)):=rfl
theorem zmm:evW Κ Φ (.rng a) ρ=(evA Κ Φ a ρ>>=fun ys=>rngD (ys.map (·.2))>>=fun xs=>.ok (.fr,xs)):=rfl
end
theorem z8a {Κ:List D}{Φ:List Fn}{a b:S}{ρ ρ':Rho}{r:Res Out}(h:evS Κ Φ a ρ=.ok (.nx ρ'))(k:evS Κ Φ b ρ'=r):evS Κ Φ (.seq a b) ρ=r:=by rw[zji,h];exact k
theorem z46 {Κ:List D}{Φ:List Fn}{a b:S}{ρ:Rho}{g:G}{d:D}(h:evS Κ Φ a ρ=.ok (.rt g d)):evS Κ Φ (.seq a b) ρ=.ok (.rt g d):=by rw[zji,h];rfl
theorem z6h {Κ:List D}{Φ:List Fn}{n:Nat}{s:S}{ds:List D}{g:G}{d:D}(h:evS Κ Φ s (ds.map (fun d=>some (.od,d))++ai (n-ds.length) none)=.ok (.rt g d)):runD Κ Φ n s ds=.ok (g,d):=by unfold runD;rw[h]
theorem z5q {β:Type}{f:D->Res (Option GD)}{m:β->D}(g:β->Option D):∀(xs:List β),(∀x∈xs,f (m x)=.ok ((g x).map fun d=>(.fr,d)))->z1q f (xs.map m)=.ok ((xs.filterMap g).map fun d=>(.fr,d))
 | [],_=>rfl
 |x::xs,h=>by
  rw[bg,z1q,h x av,Res.ok_bind,z5q g xs fun y hy=>h y (ao _ hy),Res.ok_bind];cases e:g x with
  |none=>rw[j9 e];rfl
  |some d=>rw[ka e];rfl
theorem zh3 (xs:List D):gCo (xs.map fun d=>(G.fr,d))=.fr:=by unfold gCo;rw[if_pos];rw[List.all_map];exact br.mpr fun _ _=>rfl
theorem zcw (xs:List D):gAll (xs.map fun d=>(G.fr,d))=.fr:=by unfold gAll;rw[if_pos];rw[br];intro x hx;obtain⟨d,_,rfl⟩:=d6.mp hx;rfl
theorem zbz (xs:List D):(xs.map fun d=>(G.fr,d)).map (fun x=>x.2)=xs:=by rw[lb];exact List.map_id _
def chr (z:Str)(i:Int):Str:=⟨#[z.cps.toList.getD i.toNat 0]⟩
theorem zem (a b:Str):(a++b).length=a.length+b.length:=by show Array.size (a.cps++b.cps)=_;rw[Array.size_append];rfl
theorem zg9 {α:Type}(xs:List α)(i:Int)(d:α)(h0:0<=i)(h1:i<xs.length):atI xs i=some (xs.getD i.toNat d):=by
 unfold atI ixN;rw[if_pos h0,if_pos h1];show xs[i.toNat]?=_;have:i.toNat<xs.length:=by omega
 rw[bh this,ca,bh this];rfl
theorem z9t {z:Str}{i:Int}(h0:0<=i)(h1:i<z.length)(hz:z.length<=1000):ixD (.str z) (.int i)=.ok (.str (chr z i)):=by show(if z.length<=LIM then Res.ofO ((atI z.cps.toList i).map fun c=>PyData.str ⟨#[c]⟩)else .no)=_;rw[if_pos (by unfold LIM;omega),zg9 _ i 0 h0 (by rw[dw];exact h1)];rfl
theorem zde {ns:List Str}{i:Int}(h0:0<=i)(h1:i<ns.length):ixD (.list (ns.map .str)) (.int i)=.ok (.str (ns.getD i.toNat ⟨#[]⟩)):=by
 show Res.ofO (atI (ns.map PyData.str) i)=_;rw[zg9 _ i (.str ⟨#[]⟩) h0 (by rw[aw];exact h1)];show Res.ok _=_
 congr 1
 have:i.toNat<ns.length:=by omega
 rw[ca,ca,az,bh this];rfl
theorem add_str {a b:Str}(h:a.length+b.length<=1000):binD .Add (.str a) (.str b)=.ok (.str (a++b)):=by show(if _ then _ else _)=_;rw[if_pos (by unfold LIM;omega)]
theorem add_list {a b:List D}(h:a.length+b.length<=1000):binD .Add (.list a) (.list b)=.ok (.list (a++b)):=by show(if _ then _ else _)=_;rw[if_pos (by unfold LIM;omega)]
theorem zg4 {a b:Int}(h:-(2 ^ 64)<b/\b<2 ^ 64):binD .Mult (.int a) (.int b)=.ok (.int (a*b)):=by show(if _ then _ else _)=_;rw[if_pos (.inr h)]
theorem zfq {a b:Int}(h:-(2 ^ 64)<a/\a<2 ^ 64):binD .Mult (.int a) (.int b)=.ok (.int (a*b)):=by show(if _ then _ else _)=_;rw[if_pos (.inl h)]
theorem z52 {a b:Int}(h:0<b):binD .Mod (.int a) (.int b)=.ok (.int (a%b)):=by show(if _ then _ else _)=_;rw[if_pos h]
theorem zh1 {n:Int}(h0:0<=n)(h1:n<=1000):rngD [.int n]=.ok ((cr n.toNat).map fun(i:Nat)=>.int i):=by show(if _ then _ else _)=_;rw[if_pos (by unfold LIM;omega)]
theorem z5n {z:Str}{i j:Option Int}(h:z.length<=1000):slD (.str z) i j=.ok (.str (z1a z i j)):=by show(if _ then _ else _)=_;rw[if_pos (by unfold LIM;omega)]
theorem zcf (z:Str)(i j:Option Int):(z1a z i j).length<=z.length:=by show(List.toArray (cut z.cps.toList i j)).size<=z.cps.size;unfold cut;rw[ae,gf,ij,dw];omega
theorem z4i:∀(ns:List Str),allS (ns.map .str)=some ns
 | []=>rfl
 |n::ns=>by rw[bg,allS,z4i ns];rfl
theorem z4v:∀(ss:List Str),(∀s∈ss,s.length=1)->(z3h "" ss).length=ss.length
 | [],_=>rfl
 |x::r,h=>by
  show(List.toArray (x.cps.toList++(r.map fun p=>([]:List Nat)++p.cps.toList).flatten)).size=_;have hx:=h x av
  have h2:∀(r:List Str),(∀s∈r,s.length=1)->((r.map fun p=>([]:List Nat)++p.cps.toList).flatten).length=r.length:=by
   intro r
   induction r with
   |nil=>intro _;rfl
   |cons y r ih=>intro h;have hy:=h y av;rw[bg,du,ba,ih fun s hs=>h s (ao _ hs)];have:(([]:List Nat)++y.cps.toList).length=1:=hy;rw[this,ay];omega
  rw[ae,ba,h2 r fun s hs=>h s (ao _ hs)];have:x.cps.toList.length=1:=hx;rw[this,ay];omega
theorem zik {ss:List Str}(h:∀s∈ss,s.length=1)(hl:ss.length<=1000):mtD "join" (.str "") [.list (ss.map .str)]=.ok (.str (z3h "" ss)):=by
 have:mtD "join" (.str "") [.list (ss.map .str)]=(match allS (ss.map .str)with|some ss=>if zdx "" ss<=LIM then .ok (.str (z3h "" ss))else .no|none=>.no):=rfl;rw[this,z4i]
 dsimp only
 rw[if_pos];unfold zdx;have h0:("":Str).length=0:=rfl
 have h1:∀(r:List Str),(∀s∈r,s.length=1)->(r.map (·.length)).sum=r.length:=by
  intro r
  induction r with
  |nil=>intro _;rfl
  |cons y r ih=>intro h;rw[bg,List.sum_cons,h y av,ih fun s hs=>h s (ao _ hs),ay];omega
 rw[h1 ss h,h0];unfold LIM;omega
section
variable {Κ:List D}{Φ:List Fn}{ρ:Rho}
theorem zgv:evE Κ Φ (.var i) ρ=(rdS ρ[i]?):=rfl
theorem zjx:evE Κ Φ (.int i) ρ=(.ok (.fr,.int i)):=rfl
theorem zk7:evE Κ Φ (.str x) ρ=(.ok (.fr,.str x)):=rfl
theorem zlp:evE Κ Φ (.bin op a b) ρ=(evE Κ Φ a ρ>>=fun x=>evE Κ Φ b ρ>>=fun y=>binD op x.2 y.2>>=fun d=>.ok (gN d (gAll [x,y]),d)):=rfl
theorem zmr:evE Κ Φ (.cmp op a b) ρ=(evE Κ Φ a ρ>>=fun x=>evE Κ Φ b ρ>>=fun y=>cmpD op x.2 y.2>>=fun b=>.ok (.fr,.bool b)):=rfl
theorem zkv:evE Κ Φ (.lst xs) ρ=(evA Κ Φ xs ρ>>=fun ys=>.ok (gAll ys,.list (ys.map (·.2)))):=rfl
theorem E_ix:evE Κ Φ (.ix a b) ρ=(evE Κ Φ a ρ>>=fun x=>evE Κ Φ b ρ>>=fun y=>ixD x.2 y.2>>=fun d=>.ok (gJ d x.1,d)):=rfl
theorem E_sl:evE Κ Φ (.sl a lo hi) ρ=(evE Κ Φ a ρ>>=fun x=>evO Κ Φ lo ρ>>=fun l=>evO Κ Φ hi ρ>>=fun h=>slD x.2 l h>>=fun d=>.ok (gN d (gAll [x]),d)):=rfl
theorem zbw:evE Κ Φ (.call k w1 args) ρ=(evA Κ Φ args ρ>>=fun ys=>match Φ[k]? with|some m=>m (ys.map (·.2))>>=fun r=>.ok (gJ r.2 (rtG r.1),r.2)|none=>.no):=rfl
theorem E_bi:evE Κ Φ (.bi f args) ρ=(evA Κ Φ args ρ>>=fun ys=>biD f (ys.map (·.2))>>=fun d=>.ok (gJ d .al,d)):=rfl
theorem E_mt:evE Κ Φ (.mt m o args) ρ=(evE Κ Φ o ρ>>=fun x=>evA Κ Φ args ρ>>=fun ys=>mtD m x.2 (ys.map (·.2))>>=fun d=>.ok (gJ d .al,d)):=rfl
theorem zj4 {cond:C}:evE Κ Φ (.comp nt js w1 tg it cond elt) ρ=(evW Κ Φ it ρ>>=fun w=>z1q (fun x=>z0v tg (gJ x w.1,x) (ai nt none++js.map fun j=>toAl (ρ.getD j none))>>=fun ρ1=>evT Κ Φ cond ρ1>>=fun k=>if k then evE Κ Φ elt ρ1>>=fun y=>.ok (some y)else .ok none) w.2>>=fun ys=>.ok (gCo ys,.list (ys.map (·.2)))):=rfl
end
section
variable {Κ:List D}{Φ:List Fn}{ρ:Rho}{a b c t o args:C}{x y d:D}{ds:List D}{k k':Bool}{g:G}
def Ev (Κ:List D)(Φ:List Fn)(c:C)(ρ:Rho)(d:D):Prop:=∃g,evE Κ Φ c ρ=.ok (g,d)
def Vv (Κ:List D)(Φ:List Fn)(c:C)(ρ:Rho)(d:D):Prop:=evE Κ Φ c ρ=.ok (.fr,d)/\imm d=true
def Aa (Κ:List D)(Φ:List Fn)(c:C)(ρ:Rho)(ds:List D):Prop:=∃ys,evA Κ Φ c ρ=.ok ys/\ys.map (·.2)=ds
def Av (Κ:List D)(Φ:List Fn)(c:C)(ρ:Rho)(ds:List D):Prop:=evA Κ Φ c ρ=.ok (ds.map fun d=>(.fr,d))/\imms ds=true
def Tt (Κ:List D)(Φ:List Fn)(c:C)(ρ:Rho)(k:Bool):Prop:=evT Κ Φ c ρ=.ok k
theorem Vv.e (h:Vv Κ Φ c ρ d):Ev Κ Φ c ρ d:=⟨_,h.1⟩
theorem Ev.of (h:evE Κ Φ c ρ=.ok (g,d)):Ev Κ Φ c ρ d:=⟨_,h⟩
theorem z0o {i:Nat}(h:ρ[i]?=some (some (g,d))):Ev Κ Φ (.var i) ρ d:=⟨_,by rw[zgv];rw[h];rfl⟩
theorem z1n {i:Int}:Vv Κ Φ (.int i) ρ (.int i):=⟨by rw[zjx],rfl⟩
theorem z2b {i:Str}:Vv Κ Φ (.str i) ρ (.str i):=⟨by rw[zk7],rfl⟩
theorem z4c (hi:imm d=true):gJ d g=.fr:=by unfold gJ;rw[if_pos hi]
theorem zbv (hi:imm d=true):gN d g=.fr:=by cases d<;>first|exact z4c hi|cases hi
theorem z17 {op:iu}(ha:Ev Κ Φ a ρ x)(hb:Ev Κ Φ b ρ y)(h:binD op x y=.ok d)(hi:imm d=true):Vv Κ Φ (.bin op a b) ρ d:=by obtain⟨g1,ha⟩:=ha;obtain⟨g2,hb⟩:=hb;refine⟨?_,hi⟩;rw[zlp];rw[ha,Res.ok_bind,hb,Res.ok_bind];dsimp only;rw[h,Res.ok_bind,zbv hi]
theorem zmf {op:CmpOp}(ha:Ev Κ Φ a ρ x)(hb:Ev Κ Φ b ρ y)(h:cmpD op x y=.ok k):Vv Κ Φ (.cmp op a b) ρ (.bool k):=by obtain⟨g1,ha⟩:=ha;obtain⟨g2,hb⟩:=hb;refine⟨?_,rfl⟩;rw[zmr];rw[ha,Res.ok_bind,hb,Res.ok_bind];dsimp only;rw[h];rfl
theorem zgm:Av Κ Φ .nil ρ []:=⟨rfl,rfl⟩
theorem z13 (ha:Vv Κ Φ a ρ x)(hb:Av Κ Φ b ρ ds):Av Κ Φ (.cons a b) ρ (x::ds):=⟨by rw[zck,ha.1,Res.ok_bind,hb.1];rfl,by show(imm x&&imms ds)=true;rw[ha.2,hb.2];rfl⟩
theorem z1l:Aa Κ Φ .nil ρ []:=⟨[],rfl,rfl⟩
theorem z0g (ha:Ev Κ Φ a ρ x)(hb:Aa Κ Φ b ρ ds):Aa Κ Φ (.cons a b) ρ (x::ds):=by obtain⟨g1,ha⟩:=ha;obtain⟨ys,hb,e⟩:=hb;exact⟨_,by rw[zck,ha,Res.ok_bind,hb];rfl,by rw[bg,e]⟩
theorem zkd (h:Av Κ Φ args ρ ds):evE Κ Φ (.lst args) ρ=.ok (.fr,.list ds):=by rw[zkv];rw[h.1,Res.ok_bind,zbz,zcw]
theorem v_ix (ha:Ev Κ Φ a ρ x)(hb:Ev Κ Φ b ρ y)(h:ixD x y=.ok d)(hi:imm d=true):Vv Κ Φ (.ix a b) ρ d:=by obtain⟨g1,ha⟩:=ha;obtain⟨g2,hb⟩:=hb;refine⟨?_,hi⟩;rw[E_ix];rw[ha,Res.ok_bind,hb,Res.ok_bind];dsimp only;rw[h,Res.ok_bind,z4c hi]
def Oo (Κ:List D)(Φ:List Fn)(c:C)(ρ:Rho)(i:Option Int):Prop:=evO Κ Φ c ρ=.ok i
theorem zbb:Oo Κ Φ .nil ρ none:=rfl
theorem zfx {i:Int}(h:Ev Κ Φ a ρ (.int i)):Oo Κ Φ (.tv a) ρ (some i):=by obtain⟨g1,h⟩:=h;unfold Oo;rw[O_tv,h];rfl
theorem v_sl {i j:Option Int}(ha:Ev Κ Φ a ρ x)(hb:Oo Κ Φ b ρ i)(hc:Oo Κ Φ c ρ j)(h:slD x i j=.ok d)(hi:imm d=true):Vv Κ Φ (.sl a b c) ρ d:=by obtain⟨g1,ha⟩:=ha;unfold Oo at hb hc;refine⟨?_,hi⟩;rw[E_sl];rw[ha,Res.ok_bind,hb,Res.ok_bind,hc,Res.ok_bind];dsimp only;rw[h,Res.ok_bind,zbv hi]
theorem z4l {n:Nat}{f:Str}{m:Fn}(ha:Aa Κ Φ args ρ ds)(hf:Φ[n]?=some m)(h:m ds=.ok (g,d))(hi:imm d=true):Vv Κ Φ (.call n f args) ρ d:=by obtain⟨ys,ha,e⟩:=ha;refine⟨?_,hi⟩;rw[zbw];rw[ha,Res.ok_bind,hf];dsimp only;rw[e,h,Res.ok_bind,z4c hi]
theorem zc2 {n:Nat}{f:Str}{m:Fn}(ha:Aa Κ Φ args ρ ds)(hf:Φ[n]?=some m)(h:m ds=.ok (g,d)):Ev Κ Φ (.call n f args) ρ d:=by obtain⟨ys,ha,e⟩:=ha;exact⟨_,by rw[zbw];rw[ha,Res.ok_bind,hf];dsimp only;rw[e,h,Res.ok_bind]⟩
theorem v_bi {f:String}(ha:Aa Κ Φ args ρ ds)(h:biD f ds=.ok d)(hi:imm d=true):Vv Κ Φ (.bi f args) ρ d:=by obtain⟨ys,ha,e⟩:=ha;refine⟨?_,hi⟩;rw[E_bi];rw[ha,Res.ok_bind,e,h,Res.ok_bind,z4c hi]
theorem v_mt {m:String}(ho:Ev Κ Φ o ρ x)(ha:Aa Κ Φ args ρ ds)(h:mtD m x ds=.ok d)(hi:imm d=true):Vv Κ Φ (.mt m o args) ρ d:=by obtain⟨g1,ho⟩:=ho;obtain⟨ys,ha,e⟩:=ha;refine⟨?_,hi⟩;rw[E_mt];rw[ho,Res.ok_bind,ha,Res.ok_bind,e];dsimp only;rw[h,Res.ok_bind,z4c hi]
theorem t_tv (h:Ev Κ Φ a ρ x)(ht:z0p x=.ok k):Tt Κ Φ (.tv a) ρ k:=by obtain⟨g1,h⟩:=h;unfold Tt;rw[T_tv,h];exact ht
theorem zj7 (ha:Tt Κ Φ a ρ k):Tt Κ Φ (.not a) ρ (!k):=by
 unfold Tt at *
 rw[zjt,ha];rfl
theorem zcd {β:Type}{nt:Nat}{js:List Nat}{N':List Str}{tg:Tg}{it cond elt:C}{w:G×List D}{m:β->D}{xs:List β}(p:β->Bool)(f:β->D)(hw:evW Κ Φ it ρ=.ok w)(hx:w.2=xs.map m)(r:β->Rho)
  (hb:∀x∈xs,z0v tg (gJ (m x) w.1,m x) (ai nt none++js.map fun j=>toAl (ρ.getD j none))=.ok (r x)) (hc:∀x∈xs,Tt Κ Φ cond (r x) (p x)) (he:∀x∈xs,p x=true->Vv Κ Φ elt (r x) (f x)):
  evE Κ Φ (.comp nt js N' tg it cond elt) ρ=.ok (.fr,.list ((xs.filter p).map f)):=by
 rw[zj4];rw[hw,Res.ok_bind,hx]
 rw[z5q (fun x=>if p x then some (f x)else none) xs fun x hx=>by
  rw[hb x hx,Res.ok_bind];have:=hc x hx;unfold Tt at this;rw[this,Res.ok_bind];cases e:p x with
  |true=>rw[if_pos rfl,(he x hx e).1];rfl
  |false=>rfl]
 rw[Res.ok_bind,zh3,zbz]
 have:(xs.filterMap fun x=>if p x=true then some (f x)else none)=(xs.filter p).map f:=by
  clear hx hb hc he hw
  induction xs with
  |nil=>rfl
  |cons x xs ih=>
   cases e:p x with
   |true=>rw[ka (b:=f x) (by rw[e];rfl),List.filter_cons_of_pos e,bg,ih]
   |false=>rw[j9 (by rw[e];rfl),List.filter_cons_of_neg (by rw[e];exact bf),ih]
 rw[this]
theorem w_tv {xs:List D}(h:evE Κ Φ a ρ=.ok (g,x))(hw:z5f x=.ok xs):evW Κ Φ (.tv a) ρ=.ok (g,xs):=by rw[W_tv,h,Res.ok_bind];dsimp only;rw[hw];rfl
theorem zj1 {xs:List D}(h:Aa Κ Φ args ρ ds)(hw:rngD ds=.ok xs):evW Κ Φ (.rng args) ρ=.ok (.fr,xs):=by obtain⟨ys,h,e⟩:=h;rw[zmm,h,Res.ok_bind,e,hw];rfl
theorem z5m {i:Nat}(h:Vv Κ Φ t ρ d):evS Κ Φ (.asg (.nm i) t) ρ=.ok (.nx (ρ.set i (some (.al,d)))):=by rw[zj5,h.1,Res.ok_bind];show Res.ok (Out.nx (ρ.set i (some (if imm d then(.al,d)else _))))=_;rw[if_pos h.2]
theorem zh0 {i:Nat}{xs:List D}(h:evE Κ Φ t ρ=.ok (.fr,.list xs))(hi:imms xs=true):evS Κ Φ (.asg (.nm i) t) ρ=.ok (.nx (ρ.set i (some (.fr,.list xs)))):=by rw[zj5,h,Res.ok_bind];show Res.ok (Out.nx (ρ.set i (some (if imms xs then .fr else .nu,.list xs))))=_;rw[if_pos hi]
theorem zcb (hv:∀i,t≠.var i):evS Κ Φ (.ret t) ρ=(evE Κ Φ t ρ>>=fun x=>.ok (.rt (rtG x.1) x.2)):=by cases t<;>first|exact absurd rfl (hv _)|rfl
theorem z8r (h:Vv Κ Φ t ρ d):evS Κ Φ (.ret t) ρ=.ok (.rt .fr d):=by
 by_cases hv:∀i,t≠.var i
 ·rw[zcb hv,h.1];rfl
 obtain⟨i,rfl⟩:∃i,t=.var i:=by cases t<;>first|exact⟨_,rfl⟩|exact(hv fun i z=>by cases z).elim
 have h1:=h.1;rw[zgv]at h1;rw[zc9];cases hr:ρ[i]? with
 |none=>rw[hr]at h1;cases h1
 |some o=>
  cases o with
  |none=>rw[hr]at h1;cases h1
  |some gd=>
   obtain⟨g,d'⟩:=gd;rw[hr]at h1;have:d'=d:=by have:=congrArg (fun r:Res GD=>match r with|.ok p=>p.2|_=>.none) h1;exact this
   subst this;show Res.ok (Out.rt (if imm d'=true then _ else _) d')=_;rw[if_pos h.2]
theorem zhi {xs:List D}(hv:∀i,t≠.var i)(h:evE Κ Φ t ρ=.ok (.fr,.list xs)):evS Κ Φ (.ret t) ρ=.ok (.rt .fr (.list xs)):=by rw[zcb hv,h];rfl
theorem zgp {p q:S}{r:Res Out}(hc:Tt Κ Φ c ρ k)(h1:k=true->evS Κ Φ p ρ=r)(h2:k=false->evS Κ Φ q ρ=r):evS Κ Φ (.ifS c p q) ρ=r:=by
 unfold Tt at hc;rw[R_if,hc,Res.ok_bind];cases k with
 |true=>exact h1 rfl
 |false=>exact h2 rfl
theorem zgw:evS Κ Φ .nil ρ=.ok (.nx ρ):=rfl
theorem zf4 {p q rest:S}(hc:Tt Κ Φ c ρ k)(hk:k=true)(h:evS Κ Φ p ρ=.ok (.rt g d)):evS Κ Φ (.seq (.ifS c p q) rest) ρ=.ok (.rt g d):=z46 (zgp hc (fun _=>h) fun z=>by rw[hk]at z;cases z)
theorem zfa {p rest:S}{r:Res Out}(hc:Tt Κ Φ c ρ k)(hk:k=false)(h:evS Κ Φ rest ρ=r):evS Κ Φ (.seq (.ifS c p .nil) rest) ρ=r:=z8a (zgp hc (fun z=>by rw[hk]at z;cases z) fun _=>zgw) h
theorem zc4 {i:Nat}{xs:List D}(h:ρ[i]?=some (some (.fr,.list xs))):evS Κ Φ (.ret (.var i)) ρ=.ok (.rt .fr (.list xs)):=by rw[zc9,h];rfl
theorem q_ok {Q:Res Out->Prop}{p q:S}{ρ':Rho}(h:evS Κ Φ p ρ=.ok (.nx ρ'))(k:Q (evS Κ Φ q ρ')):Q (evS Κ Φ (.seq p q) ρ):=by rw[z8a h rfl];exact k
end
end
end Mk
namespace Mi
open PySem PySem.Spec PyProof.Rows L2
section
open PySem.SeqAt
section
variable {A:bz}{s:aa}
theorem z4x (b:Str)(u:Tok)(l:Addr)(es:Array jw)(n:Nat)(dd:Option Addr)(sl:Array (Option Value)):
  Meets (Builtin.«str.__eq__» ⟨[.str b u,.ref l],[]⟩) fun _ R s=>s.heap.get? l=some {cls:=.type "dict",dict:=dd,data:=.dict es n,slots:=sl}/\R (.ok (.ret .notImplemented)) s:=
 .of_wp fun prog w A R s z=>by
  obtain⟨hp1,g1,d1,t1,o1⟩:=s;obtain⟨hl,h⟩:=z
  wp_walk using AutoSeq1.wpAny_loadPart' hl,mx hl
  exact⟨_,rfl,h⟩
theorem z3x (b:Str)(u:Tok)(l:Addr)(es:Array jw)(n:Nat)(dd:Option Addr)(sl:Array (Option Value)):
  Meets (Builtin.«dict.__eq__» ⟨[.ref l,.str b u],[]⟩) fun _ R s=>s.heap.get? l=some {cls:=.type "dict",dict:=dd,data:=.dict es n,slots:=sl}/\R (.ok (.ret .notImplemented)) s:=
 .of_wp fun prog w A R s z=>by
  obtain⟨hp1,g1,d1,t1,o1⟩:=s;obtain⟨hl,h⟩:=z;have f1:=PySem.F.sub_str_dict
  wp_walk using AutoSeq1.wpAny_loadPart' hl,mx hl
  exact⟨_,rfl,h⟩
theorem z3z {l:Addr}{o:Obj}{es:Array jw}{n:Nat}(b:Str)(u:Tok)(ho:s.heap.get? l=some o)(hc:o.cls=.type "dict")(hd:o.data=.dict es n)(hu:A.units<cLine):EqAt A s (.str b u) (.ref l) false:=fun prog w E Q h=>by
 obtain⟨cls,dd,data,sl⟩:=o;simp only at hc hd;subst hc hd;unfold eqBool;refine j6 (wpAny_ite_split (fun z=>absurd (eq_of_beq z) nofun) fun _=>ag ?_)
 exact rc_eq_decline_or (k:=false) (Ta:="str") (Tb:="dict") rfl ⟨_,ho,rfl⟩ (by decide) PySem.F.sub_dict_str PySem.F.slot_str_eq PySem.F.slot_dict_eq_refl
  (fun _ q=>gn PySem.F.slot_str_eq rfl PySem.F.entry_str_eq (PySem.F.args_str_eq_2 _ _) (z4x b u l es n dd sl) ⟨ho,q⟩)
  (fun _ q=>gn PySem.F.slot_dict_eq_refl ⟨_,ho,rfl⟩ PySem.F.entry_dict_eq (PySem.F.args_dict_eq_2 _ _) (z3x b u l es n dd sl) ⟨ho,q⟩)
  (fun _ q=>wpAny_of_eq (rfl:isSame (.str b u) (.ref l)=pure false) q) (.inr hu) (d9 h)
end
section
variable {X:Cx}
theorem z8f:∀{ss:List Str} {its:List Value},Vals (ss.map V.str) its->∀y∈its,∃b t,y=Value.str b t
 | [],_,r,y,hy=>by cases r;cases hy
 |s::ss,_,r,y,hy=>by
  cases r with
  |cons r1 r2=>
   rcases a9.mp hy with rfl|hy2
   ·obtain⟨t,rfl⟩:=r1;exact⟨_,_,rfl⟩
   ·exact z8f r2 y hy2
def rNoD:R2:=fun x y H Q=>∃(d:Addr) (kvs:List (Key×V)) (l:Addr) (ss:List Str),x=.ref d/\y=.ref l/\H d=some (.dK kvs)/\H l=some (.lst (ss.map V.str))/\Q (.bl true) H
theorem no_dict (hu:X.A.units+64<cLine):OpR X (bt .NotIn) rNoD:=by
 intro pins s σ H x y v u Q I rx ry h;obtain⟨d,kvs,l,ss,rfl,rfl,hd,hl,q⟩:=h;cases rx;cases ry;obtain⟨_,_,vs,_,o,es,ep,ho,hc,hdat,_⟩:=I.hok d _ hd;obtain⟨its,rv,⟨o2,k,ho2,hc2,_,hd2⟩,_⟩:=I.list (.inl (.inl hl));have txt:=z8f rv;refine notIn_listAt (fun _=>false) ⟨_,ho2,hc2,_,hd2⟩ (fun y hy=>?_) ?_
 ·obtain⟨b,t,rfl⟩:=txt y (by simpa using hy);exact z3z b t ho hc.1 hdat (by show X.A.units+1<cLine;omega)
 ·have e:(!its.toArray.any fun _=>false)=true:=by simp
  rw[e];exact⟨.bl true,H,I,rfl,q⟩
def rNin (K:W.Frag):R2:=fun x y H Q=>rOp K (mB (cmpD .NotIn)) x y H Q\/rNoD x y H Q
theorem zfe (hu:X.A.units+64<cLine):OpR X (bt .NotIn) (rNin X.K):=fun pins s σ H x y v u Q I rx ry h=>h.elim (fun h=>z9u hu .NotIn rfl pins s σ H x y v u Q I rx ry h) fun h=>no_dict hu pins s σ H x y v u Q I rx ry h
end
end
inductive W where
 |pur (c:C)|raw (i:Nat)
 |bin (op:iu) (a b:W)|cmp (op:CmpOp) (a b:W)|isN (ng:Bool) (a:W)
 |and (a b:W)|or (a b:W)|ife (c a b:W)
 |tup (xs:W)|lst (xs:W)|dnew|ix (a b:W)|len (a:W)|get (o k:W)|dgt (a b:W)
 |att (o:W) (f:Str)|cal (j:Nat) (as:W)|mth (o:W) (j:Nat) (as:W)|mk (j:Nat) (as:W)
 |tp (c:C)|tc (op:CmpOp) (a b:W)|ti (ng:Bool) (a:W)|tn (a b:W)|tr (a:W)|not (a:W)|tand (a b:W)|tor (a b:W)
 |nil|cons (a r:W)
 deriving Inhabited
structure Wc where
 K:W.Frag
 mg:Str->Option Value
 Κ:List D
 Φ:List Fn
 E:XK
 fn:List Sp
 me:List (Addr×Str×Sp)
 cl:List (Addr×Sp)
structure Gw where
 g:Gm
 fn:List (Str×Nat)
 me:List (Str×Nat)
 cl:List (Str×Nat)
def tNo:TE:=fun _ _ _=>False
def tTr (K:W.Frag)(t:TE):TT:=fun σ H Q=>t σ H fun x H'=>∃k,TruV K x H' k/\Q k H'
section
variable (Z:Wc)
mutual
def wE:W->TE
 |.pur c=>tD Z.K (evE Z.Κ Z.Φ c)
 |.raw i=>tVar i
 |.bin op a b=>tOp (rOpN Z.K (binD op)) (wE a) (wE b)
 |.cmp op a b=>tOp (rOp Z.K (mB (cmpD op))) (wE a) (wE b)
 |.isN ng a=>if ng then zaj (wE a)else tIsN (wE a)
 |.and a b=>zi7 (wE a) (wE b)
 |.or a b=>tOrV (wE a) (wE b)
 |.ife c a b=>tIf (wT c) (wE a) (wE b)
 |.tup xs=>tTup (wA xs)
 |.lst xs=>tLst (wA xs)
 |.dnew=>zcn
 |.ix a b=>tOp (rIxD Z.K) (wE a) (wE b)
 |.dgt a b=>zgf (wE a) (wE b)
 |.len a=>tCB (z5d Z.K (biD "len")) (z7d (wE a) tNil)
 |.get o k=>zcp (wE o) (wE k)
 |.att o f=>tFld Z.K (wE o) f
 |.cal j as=>match Z.fn[j]? with|some sp=>z55 sp [] Z.E (wA as)|none=>tNo
 |.mth o j as=>match Z.me[j]? with|some r=>z4h r.1 r.2.1 r.2.2 [] Z.E (wE o) (wA as)|none=>tNo
 |.mk j as=>match Z.cl[j]? with|some r=>z7b r.1 r.2 [] Z.E (wA as)|none=>tNo
 |_=>tNo
def wA:W->TA
 |.nil=>tNil
 |.cons a r=>z7d (wE a) (wA r)
 |_=>fun _ _ _=>False
def wT:W->TT
 |.tp c=>tDT Z.K (evT Z.Κ Z.Φ c)
 |.tc op a b=>z5a (tOp (rOp Z.K (mB (cmpD op))) (wE a) (wE b))
 |.ti ng a=>z5a (if ng then zaj (wE a)else tIsN (wE a))
 |.tn a b=>z5a (tOp (rNin Z.K) (wE a) (wE b))
 |.tr a=>tTr Z.K (wE a)
 |.not a=>tNot (wT a)
 |.tand a b=>tAnd (wT a) (wT b)
 |.tor a b=>tOr (wT a) (wT b)
 |_=>fun _ _ _=>False
end
end
mutual
def wkE (Γ:Gw):W->Expr->Bool
 |.pur c,e=>chkE Γ.g c e
 |.raw i,e=>hd1 (visB Γ.g i) e
 |.bin op a b,e=>(vBin e).any fun v=>decide (v.2.1=op)&&zaz op&&wkE Γ a v.1&&wkE Γ b v.2.2
 |.cmp op a b,e=>(vCm e).any fun v=>decide (v.2.1=[op])&&(vOne v.2.2).any fun r=>z33 op&& !(cx op r)&&wkE Γ a v.1&&wkE Γ b r
 |.isN ng a,e=>(vCm e).any fun v=>decide (v.2.1=[if ng then .IsNot else .Is])&&(vOne v.2.2).any fun r=>decide (vCst r=some .none)&&wkE Γ a v.1
 |.and a b,e=>(vBo e).any fun v=>decide (v.1=.And)&&z3j (fun x=>wkE Γ a x) (fun x=>wkE Γ b x) .And v.2.2 v.2.1
 |.or a b,e=>(vBo e).any fun v=>decide (v.1=.Or)&&z3j (fun x=>wkE Γ a x) (fun x=>wkE Γ b x) .Or v.2.2 v.2.1
 |.ife c a b,e=>(vIfE e).any fun v=>wkT Γ c v.1&&wkE Γ a v.2.1&&wkE Γ b v.2.2
 |.tup xs,e=>(vTup e).any fun es=>wkA Γ xs es
 |.lst xs,e=>(vLst e).any fun es=>wkA Γ xs es
 |.dnew,e=>(vDi e).any fun v=>v.1.isEmpty&&v.2.isEmpty
 |.ix a b,e=>(vSub e).any fun v=>z1o v.2&&wkE Γ a v.1&&wkE Γ b v.2
 |.dgt a b,e=>(vSub e).any fun v=>z1o v.2&&wkE Γ a v.1&&wkE Γ b v.2
 |.len a,e=>(z20 e).any fun v=>(v.1==("len":Str))&&bltB Γ.g v.1&&(vOne v.2).any fun y=>!isStar y&&wkE Γ a y
 |.get o k,e=>(vMt e).any fun v=>((v.2.1==("get":Str))&&z0q v.1&&v.2.2.2)&&wkE Γ o v.1&&(vOne v.2.2.1).any fun y=>!isStar y&&wkE Γ k y
 |.att o f,e=>(vAt e).any fun v=>(v.2.1==f)&&z0q v.1&&wkE Γ o v.1
 |.cal j as,e=>(z20 e).any fun v=>glB Γ.g v.1&&(Γ.fn[j]?==some (v.1,v.2.length))&&wkA Γ as v.2&& !v.2.isEmpty
 |.mth o j as,e=>(vMt e).any fun v=>(z0q v.1&&v.2.2.2&&decide (v.2.2.1.length<20))&&(Γ.me[j]?==some (v.2.1,v.2.2.1.length))&&wkE Γ o v.1&&wkA Γ as v.2.2.1
 |.mk j as,e=>(z20 e).any fun v=>glB Γ.g v.1&&(Γ.cl[j]?==some (v.1,v.2.length))&&wkA Γ as v.2&& !v.2.isEmpty
 |_,_=>false
def wkA (Γ:Gw):W->List Expr->Bool
 |.nil,es=>es.isEmpty
 |.cons a r,es=>match es with|e::es=>!isStar e&&wkE Γ a e&&wkA Γ r es|_=>false
 |_,_=>false
def wkT (Γ:Gw):W->Expr->Bool
 |.tp c,e=>chkT Γ.g c e
 |.tc op a b,e=>(vCm e).any fun v=>decide (v.2.1=[op])&&(vOne v.2.2).any fun r=>z33 op&& !(cx op r)&&wkE Γ a v.1&&wkE Γ b r
 |.ti ng a,e=>(vCm e).any fun v=>decide (v.2.1=[if ng then .IsNot else .Is])&&(vOne v.2.2).any fun r=>decide (vCst r=some .none)&&wkE Γ a v.1
 |.tn a b,e=>(vCm e).any fun v=>decide (v.2.1=[.NotIn])&&(vOne v.2.2).any fun r=>z33 .NotIn&& !(cx .NotIn r)&&wkE Γ a v.1&&wkE Γ b r
 |.tr a,e=>plainT e&&wkE Γ a e
 |.not a,e=>(vUn e).any fun v=>decide (v.1=.Not)&&wkT Γ a v.2
 |.tand a b,e=>(vBo e).any fun v=>decide (v.1=.And)&&z3j (fun x=>wkT Γ a x) (fun x=>wkT Γ b x) .And v.2.2 v.2.1
 |.tor a b,e=>(vBo e).any fun v=>decide (v.1=.Or)&&z3j (fun x=>wkT Γ a x) (fun x=>wkT Γ b x) .Or v.2.2 v.2.1
 |_,_=>false
end
structure Zok (Γ:Gw)(Z:Wc)(CX:CXT)(P:am)(w:World)(K:W.Frag)(mg:Str->Option Value)(base:Heap)(r:Nat):Prop where
 kk:Z.K=K
 mm:Z.mg=mg
 fn:∀(j:Nat) x n,Γ.fn[j]?=some (x,n)->∃sp f fd ps k,Z.fn[j]?=some sp/\k<=r/\FnOk P w K mg base CX k f fd ps sp/\mg x=some (.ref f)/\W.keepIn K (.ref f)=true/\Binds K fd ps []
 me:∀(j:Nat) m n,Γ.me[j]?=some (m,n)->∃C sp f fd ps k,Z.me[j]?=some (C,m,sp)/\k<=r/\FnOk P w K mg base CX k f fd ps sp/\Cls K C/\Meth K C m f/\Binds K fd ps []
 cl:∀(j:Nat) x n,Γ.cl[j]?=some (x,n)->∃C sp f fd ps k,Z.cl[j]?=some (C,sp)/\k+1<=r/\FnOk P w K mg base CX k f fd ps sp/\Mk K C f/\mg x=some (.ref C)/\Binds K fd ps []
structure Wok (Γ:Gw)(Z:Wc)(CX:CXT)(X:Cx)(r:Nat):Prop extends Zok Γ Z CX X.prog X.w X.K X.mg X.base r where
 ck:Cok Γ.g Z.Κ Z.Φ X r
 room:Room r X.A
 px:z1y CX X Z.E
section
variable {X:Cx}
theorem z60 {f C:Addr}{sp:Sp}{E:XK}{m:Str}{apos cpos:Pos}{o:Expr}{es:List Expr}{ta:TE}{t:TA}(he:PE X o ta)(c:Cls X.K C)(hm:Meth X.K C m f)
  (hns:z0q o=true) (hst:(es.all fun e=>!isStar e)=true) (hl:es.length<20) (hline:(apos.endLine==cpos.line)=true)
  (go:∀pins s σ H (Q:VK) a,Inv X pins σ H s->(t σ H fun vs H2=>sp (.ref a::(vs++[])) H2 Q E)->wpAny (model X.prog X.w) X.A (callWith cpos (.ref f) [.ref a] (fi cpos (bv es X.env)) (kh cpos (ja [] X.env))) (EP X pins σ Q) X.xe s):
  PE X (.Call (.Attribute o m apos) es [] cpos) (z4h C m sp [] E ta t):=by
 intro pins s σ H Q I h;rw[arm_eval_Call,z18 hns];refine ag (thn (he pins s σ H _ I h) fun u s1 ⟨x,H1,I1,rx,a,dx,fs,ex,ea,l,q⟩=>?_);subst ex;obtain rfl:u=Value.ref a:=rx;refine ag (j7 ?_);have hform:methodCallForm (es.length+([]:List i3).length) (fi cpos (bv es X.env)) (kh cpos (ja [] X.env))=true:=z28 hst hl;have hpos:methodCallPos true o X.env apos cpos=pure cpos:=by unfold methodCallPos;simp[hline]
 unfold methodCall;rw[hform];refine ag (j6 (z7i I1 ea c hm l ?_));exact ag (wpAny_of_eq hpos (go pins s1 σ H1 Q a I1 q))
variable {CX:CXT}{k:Nat}{f C:Addr}{fd:cu}{ps:List Str}{sp:Sp}{E:XK}{m:Str}{apos cpos:Pos}{o e:Expr}{es:List Expr}{ta:TE}{t:TA}
theorem zac (he:PE X o ta)(c:Cls X.K C)(hm:Meth X.K C m f)(F:FnOk X.prog X.w X.K X.mg X.base CX k f fd ps sp)(hr:Room k X.A)(hb:Binds X.K fd ps [])(hx:z1y CX X E)(ha:PA X (e::es) t)
  (hns:z0q o=true) (hst:((e::es).all fun e=>!isStar e)=true) (hl:(e::es).length<20) (hline:(apos.endLine==cpos.line)=true):
  PE X (.Call (.Attribute o m apos) (e::es) [] cpos) (z4h C m sp [] E ta t):=
 z60 he c hm hns hst hl hline fun pins s σ H Q a I q=>by rw[bn,aj]at hst;refine W.callWith_K (first:=[.ref a]) (h₀:=X.base) I.ok.mod.kin hm.kp (thn (ha cpos pins s σ H _ I q) fun us s2 ⟨vs,H2,I2,r,q2⟩=>⟨I2.kIn,?_⟩) (z04 (by simpa using hst.1)) (z0b hst.2);exact z99 (us:=.ref a::us) (vs:=.ref a::vs) F hr hb .nil hx I2 (.cons rfl r) q2
theorem z9v (he:PE X o ta)(c:Cls X.K C)(hm:Meth X.K C m f)(F:FnOk X.prog X.w X.K X.mg X.base CX k f fd ps sp)(hr:Room k X.A)(hb:Binds X.K fd ps [])(hx:z1y CX X E)
  (hns:z0q o=true) (hline:(apos.endLine==cpos.line)=true):
  PE X (.Call (.Attribute o m apos) [] [] cpos) (z4h C m sp [] E ta tNil):=
 z60 he c hm hns rfl (by decide) hline fun pins s σ H Q a I q=>W.callWith_K0 (first:=[.ref a]) I.kIn hm.kp (z99 (us:=[.ref a]) (vs:=[.ref a]) F hr hb .nil hx I (.cons rfl .nil) q)
end
section
variable {Γ:Gw}{Z:Wc}{CX:CXT}{X:Cx}{r:Nat}
structure We (w:W):Prop where
 E:∀(Γ:Gw) (Z:Wc) (CX:CXT) (X:Cx) (r:Nat) (e:Expr),Wok Γ Z CX X r->wkE Γ w e=true->PE X e (wE Z w)
 A:∀(Γ:Gw) (Z:Wc) (CX:CXT) (X:Cx) (r:Nat) (es:List Expr),Wok Γ Z CX X r->wkA Γ w es=true->PA X es (wA Z w)
 T:∀(Γ:Gw) (Z:Wc) (CX:CXT) (X:Cx) (r:Nat) (e:Expr),Wok Γ Z CX X r->wkT Γ w e=true->PT X e (wT Z w)/\((∃o l p,e=.BoolOp o l p)->PW X e (wT Z w))
theorem We.x {w:W}(h:∀(Γ:Gw) (Z:Wc) (CX:CXT) (X:Cx) (r:Nat) (e:Expr),Wok Γ Z CX X r->wkE Γ w e=true->PE X e (wE Z w))(ha:∀Γ es,wkA Γ w es=false)(ht:∀Γ e,wkT Γ w e=false):We w where
 E:=h
 A:=fun Γ Z CX X r es k z=>ff (ha Γ es) z
 T:=fun Γ Z CX X r e k z=>ff (ht Γ e) z
theorem We.t {w:W}(h:∀(Γ:Gw) (Z:Wc) (CX:CXT) (X:Cx) (r:Nat) (e:Expr),Wok Γ Z CX X r->wkT Γ w e=true->PT X e (wT Z w)/\((∃o l p,e=.BoolOp o l p)->PW X e (wT Z w)))(he:∀Γ e,wkE Γ w e=false)(ha:∀Γ es,wkA Γ w es=false):We w where
 E:=fun Γ Z CX X r e k z=>ff (he Γ e) z
 A:=fun Γ Z CX X r es k z=>ff (ha Γ es) z
 T:=h
theorem z2e {Γ:Gw}:∀{w:W} {es:List Expr},wkA Γ w es=true->(es.all fun e=> !isStar e)=true
 |.nil,es,h=>by cases z0d h;rfl
 |.cons a r,[],h=>by cases h
 |.cons a r,e::es,h=>by obtain⟨h1,_,h3⟩:=and3 h;rw[bn,h1,z2e h3];rfl
theorem Wok.rm (k:Wok Γ Z CX X r){j:Nat}(h:j<=r):Room j X.A:=k.room.mono h
theorem eqB {α:Type} [BEq α] [LawfulBEq α] {a b:α}(h:(a==b)=true):a=b:=eq_of_beq h
theorem zdl {Γ:Gw}{op:CmpOp}{a b:W}{e:Expr}(h:((vCm e).any fun v=>decide (v.2.1=[op])&&(vOne v.2.2).any fun r=>z33 op&& !(cx op r)&&wkE Γ a v.1&&wkE Γ b r)=true):∃l r p,e=.Compare l [op] [r] p/\z33 op=true/\cx op r=false/\wkE Γ a l=true/\wkE Γ b r=true:=by obtain⟨⟨l,o,rs⟩,hv,h9⟩:=z00 h;obtain⟨p,rfl⟩:=q_Cm hv;obtain⟨h1,h2⟩:=and2 h9;obtain⟨r,hr,h3⟩:=z00 h2;cases pf h1;cases z11 hr;obtain⟨h2,h3,h4,h5⟩:=and4 h3;exact⟨l,r,p,rfl,h2,z0j h3,h4,h5⟩
theorem zhg {Γ:Gw}{ng:Bool}{a:W}{e:Expr}(h:((vCm e).any fun v=>decide (v.2.1=[if ng then .IsNot else .Is])&&(vOne v.2.2).any fun r=>decide (vCst r=some .none)&&wkE Γ a v.1)=true):∃l j p2 p,e=.Compare l [if ng then .IsNot else .Is] [.Constant .none j p2] p/\wkE Γ a l=true:=by obtain⟨⟨l,o,rs⟩,hv,h9⟩:=z00 h;obtain⟨p,rfl⟩:=q_Cm hv;obtain⟨h1,h2⟩:=and2 h9;obtain⟨r,hr,h3⟩:=z00 h2;cases pf h1;cases z11 hr;obtain⟨h3,h4⟩:=and2 h3;obtain⟨j,p2,rfl⟩:=z57 (pf h3);exact⟨l,j,p2,p,rfl,h4⟩
theorem w_mt {Γ:Gw}{o as:W}{j:Nat}{e:Expr}(h:wkE Γ (.mth o j as) e=true):∃b m ap es cp,e=.Call (.Attribute b m ap) es [] cp/\(ap.endLine==cp.line)=true/\z0q b=true/\es.length<20/\Γ.me[j]?=some (m,es.length)/\wkE Γ o b=true/\wkA Γ as es=true:=by obtain⟨⟨x,n,es,b⟩,hv,h9⟩:=z00 h;obtain⟨ap,cp,rfl,hb⟩:=q_Mt hv;obtain⟨h0,h6,h7,h8⟩:=and4 h9;obtain⟨h1,h2,h3⟩:=and3 h0;exact⟨x,n,ap,es,cp,rfl,hb.symm.trans h2,h1,pf h3,eqB h6,h7,h8⟩
theorem zlc {X:Cx}{o e:Expr}{m:Str}{ap cp:Pos}(h1:z0q o=true)(h2:(!isStar e)=true)(h3:(ap.endLine==cp.line)=true):M1 X o m ap e cp:=⟨z18 h1,z28 (by rw[bn,h2];rfl) (show 1<20 by decide),h3,by rw[z04 (z0j h2)];rfl⟩
theorem zkt {i:Expr}(h:z1o i=true):NoSl i:=fun o v=>by cases i<;>first|rfl|cases h
theorem allW (w:W):We w:=by
 induction w with
 |pur c=>exact We.x (fun Γ Z CX X r e k h=>by show PE X e (tD Z.K (evE Z.Κ Z.Φ c));rw[k.kk];exact(all c).E Γ.g X r e k.ck h) (fun _ _=>rfl) fun _ _=>rfl
 |raw i=>exact We.x (fun Γ Z CX X r e k h=>by obtain⟨x,p,rfl,h⟩:=z12 h;obtain⟨h1,h2,h3,h4⟩:=k.ck.vis h;exact z15 h1 h2 h3 h4) (fun _ _=>rfl) fun _ _=>rfl
 |bin op a b ia ib=>exact We.x (fun Γ Z CX X r e k h=>by obtain⟨v,hv,h9⟩:=z00 h;obtain⟨p,rfl⟩:=zeo hv;obtain⟨h1,h2,h3,h4⟩:=and4 h9;cases pf h1;show PE X _ (tOp (rOpN Z.K (binD _)) _ _);rw[k.kk];exact zdd (zgq _ h2) (ia.E Γ Z CX X r _ k h3) (ib.E Γ Z CX X r _ k h4)) (fun _ _=>rfl) fun _ _=>rfl
 |cmp op a b ia ib=>exact We.x (fun Γ Z CX X r e k h=>by obtain⟨_,_,_,rfl,h2,h3,h4,h5⟩:=zdl h;show PE X _ (tOp (rOp Z.K (mB (cmpD _))) _ _);rw[k.kk];exact z80 (z9u k.ck.hu _ h2) (ia.E Γ Z CX X r _ k h4) (ib.E Γ Z CX X r _ k h5) h3) (fun _ _=>rfl) fun _ _=>rfl
 |isN ng a ia=>exact We.x (fun Γ Z CX X r e k h=>by
  obtain⟨_,_,_,_,rfl,h2⟩:=zhg h;have ha:=ia.E Γ Z CX X r _ k h2;cases ng with
  |true=>exact z5y (z3u ha)
  |false=>exact z5y (z6e ha)) (fun _ _=>rfl) fun _ _=>rfl
 |and a b ia ib=>exact We.x (fun Γ Z CX X r e k h=>by
  obtain⟨⟨o,xs,p⟩,hv,h9⟩:=z00 h;cases q_Bo hv;obtain⟨h1,h2⟩:=and2 h9;cases pf h1;rcases z1f h2 with⟨x,y,rfl,h3,h4⟩|⟨x,y,z,t,rfl,h3,h4⟩
  ·exact z7m (ia.E Γ Z CX X r _ k h3) (z6p (ib.E Γ Z CX X r _ k h4))
  ·exact z7m (ia.E Γ Z CX X r _ k h3) (ib.E Γ Z CX X r _ k h4)) (fun _ _=>rfl) fun _ _=>rfl
 |or a b ia ib=>exact We.x (fun Γ Z CX X r e k h=>by
  obtain⟨⟨o,xs,p⟩,hv,h9⟩:=z00 h;cases q_Bo hv;obtain⟨h1,h2⟩:=and2 h9;cases pf h1;rcases z1f h2 with⟨x,y,rfl,h3,h4⟩|⟨x,y,z,t,rfl,h3,h4⟩
  ·exact zef (ia.E Γ Z CX X r _ k h3) (z6p (ib.E Γ Z CX X r _ k h4))
  ·exact zef (ia.E Γ Z CX X r _ k h3) (ib.E Γ Z CX X r _ k h4)) (fun _ _=>rfl) fun _ _=>rfl
 |ife c a b ic ia ib=>exact We.x (fun Γ Z CX X r e k h=>by obtain⟨v,hv,h9⟩:=z00 h;obtain⟨p,rfl⟩:=zjp hv;obtain⟨h1,h2,h3⟩:=and3 h9;exact z5x (ic.T Γ Z CX X r _ k h1).1 (ia.E Γ Z CX X r _ k h2) (ib.E Γ Z CX X r _ k h3)) (fun _ _=>rfl) fun _ _=>rfl
 |tup xs ia=>exact We.x (fun Γ Z CX X r e k h=>by obtain⟨v,hv,h9⟩:=z00 h;obtain⟨_,_,rfl⟩:=z9d hv;exact z8c (ia.A Γ Z CX X r _ k h9)) (fun _ _=>rfl) fun _ _=>rfl
 |lst xs ia=>exact We.x (fun Γ Z CX X r e k h=>by obtain⟨v,hv,h9⟩:=z00 h;obtain⟨_,rfl⟩:=zdb hv;exact z82 (ia.A Γ Z CX X r _ k h9)) (fun _ _=>rfl) fun _ _=>rfl
 |dnew=>exact We.x (fun Γ Z CX X r e k h=>by obtain⟨⟨a,b⟩,hv,h9⟩:=z00 h;obtain⟨_,rfl⟩:=q_Di hv;obtain⟨h1,h2⟩:=and2 h9;cases z0d h1;cases z0d h2;exact z66) (fun _ _=>rfl) fun _ _=>rfl
 |ix a b ia ib=>exact We.x (fun Γ Z CX X r e k h=>by obtain⟨v,hv,h9⟩:=z00 h;obtain⟨_,rfl⟩:=z6r hv;obtain⟨h1,h2,h3⟩:=and3 h9;show PE X _ (tOp (rIxD Z.K) _ _);rw[k.kk];exact zfu (zgu k.ck.hu) (ia.E Γ Z CX X r _ k h2) (ib.E Γ Z CX X r _ k h3) (z6k h1)) (fun _ _=>rfl) fun _ _=>rfl
 |dgt a b ia ib=>exact We.x (fun Γ Z CX X r e k h=>by obtain⟨v,hv,h9⟩:=z00 h;obtain⟨_,rfl⟩:=z6r hv;obtain⟨h1,h2,h3⟩:=and3 h9;exact zd8 (j4 (ju (by decide) _) k.ck.hu) (ia.E Γ Z CX X r _ k h2) (ib.E Γ Z CX X r _ k h3) (zkt h1)) (fun _ _=>rfl) fun _ _=>rfl
 |len a ia=>exact We.x (fun Γ Z CX X r e k h=>by obtain⟨⟨x,es⟩,hv,h9⟩:=z00 h;obtain⟨_,_,rfl⟩:=z0t hv;obtain⟨h1,h2,h3⟩:=and3 h9;obtain⟨y,hy,h4⟩:=z00 h3;cases z11 hy;obtain⟨h4,h5⟩:=and2 h4;have h1:x=("len":Str):=eqB h1;subst h1;obtain⟨g1,g2,g3,g4⟩:=k.ck.blt h2;show PE X _ (tCB (z5d Z.K (biD "len")) _);rw[k.kk];exact zeg z88 g2 (show ci "len"=_ by decide+kernel) (pa_c (ia.E Γ Z CX X r _ k h5) z1i (z0j h4)) (by rw[bn,h4];rfl) g1 g4 g3) (fun _ _=>rfl) fun _ _=>rfl
 |get o y io iy=>exact We.x (fun Γ Z CX X r e k h=>by obtain⟨⟨x,n,es,b⟩,hv,h9⟩:=z00 h;obtain⟨ap,cp,rfl,hb⟩:=q_Mt hv;obtain⟨h0,h6,h7⟩:=and3 h9;obtain⟨h1,h2,h3⟩:=and3 h0;obtain⟨y,hy,h4⟩:=z00 h7;cases z11 hy;obtain⟨h4,h5⟩:=and2 h4;have h1:n=("get":Str):=eqB h1;subst h1;exact zbc (j4 (ju (by decide) _) k.ck.hu) (io.E Γ Z CX X r _ k h6) (iy.E Γ Z CX X r _ k h5) (zlc h2 h4 (hb.symm.trans h3))) (fun _ _=>rfl) fun _ _=>rfl
 |att o f io=>exact We.x (fun Γ Z CX X r e k h=>by obtain⟨⟨x,n,p⟩,hv,h9⟩:=z00 h;cases q_At hv;obtain⟨h1,h2,h3⟩:=and3 h9;have h1:n=f:=eqB h1;subst h1;show PE X _ (tFld Z.K _ _);rw[k.kk];exact zfv (io.E Γ Z CX X r _ k h3) (z18 h2)) (fun _ _=>rfl) fun _ _=>rfl
 |cal j as ia=>exact We.x (fun Γ Z CX X r e k h=>by
  obtain⟨⟨x,es⟩,hv,h9⟩:=z00 h;obtain⟨_,_,rfl⟩:=z0t hv;obtain⟨h1,h2,h3,h4⟩:=and4 h9;obtain⟨y,es,rfl⟩:=z10 h4;obtain⟨g1,g2⟩:=k.ck.gl h1;obtain⟨sp,f,fd,ps,n,c1,c2,c3,c4,c5,c6⟩:=k.fn j _ _ (eqB h2);obtain⟨s1,s2⟩:=bn.symm.trans (z2e h3) |> aq.mp;have ee:wE Z (.cal j as)=z55 sp [] Z.E (wA Z as):=by show(match Z.fn[j]? with|some sp=>z55 sp [] Z.E (wA Z as)|none=>tNo)=_;rw[c1]
  rw[ee];exact z8z c3 (k.rm c2) g1 c4 c5 c6 .nil k.px (ia.A Γ Z CX X r _ k h3) g2 (z04 (z0j s1)) (z0b s2)) (fun _ _=>rfl) fun _ _=>rfl
 |mth o j as io ia=>exact We.x (fun Γ Z CX X r e k h=>by
  obtain⟨b,m,ap,es,cp,rfl,h1,h2,h3,h4,h5,h6⟩:=w_mt h;obtain⟨C,sp,f,fd,ps,n,c1,c2,c3,c4,c5,c6⟩:=k.me j _ _ h4;have ee:wE Z (.mth o j as)=z4h C m sp [] Z.E (wE Z o) (wA Z as):=by show(match Z.me[j]? with|some r=>z4h r.1 r.2.1 r.2.2 [] Z.E (wE Z o) (wA Z as)|none=>tNo)=_;rw[c1]
  rw[ee];have ho:=io.E Γ Z CX X r _ k h5;have ha:=ia.A Γ Z CX X r _ k h6;have hs:=z2e h6;cases es with
  |nil=>
   refine PE.imp (z9v ho c4 c5 c3 (k.rm c2) c6 k.px h2 h1) fun σ H Q q=>?_;have:wA Z as=tNil:=by cases as<;>first|rfl|(cases h6;done)
   rw[this]at q;exact q
  |cons y es=>exact zac ho c4 c5 c3 (k.rm c2) c6 k.px ha h2 hs h3 h1) (fun _ _=>rfl) fun _ _=>rfl
 |mk j as ia=>exact We.x (fun Γ Z CX X r e k h=>by
  obtain⟨⟨x,es⟩,hv,h9⟩:=z00 h;obtain⟨_,_,rfl⟩:=z0t hv;obtain⟨h1,h2,h3,h4⟩:=and4 h9;obtain⟨y,es,rfl⟩:=z10 h4;obtain⟨g1,g2⟩:=k.ck.gl h1;obtain⟨C,sp,f,fd,ps,n,c1,c2,c3,c4,c5,c6⟩:=k.cl j _ _ (eqB h2);obtain⟨s1,s2⟩:=bn.symm.trans (z2e h3) |> aq.mp;have ee:wE Z (.mk j as)=z7b C sp [] Z.E (wA Z as):=by show(match Z.cl[j]? with|some r=>z7b r.1 r.2 [] Z.E (wA Z as)|none=>tNo)=_;rw[c1]
  rw[ee];exact zej c4 c3 (k.room.mono c2) g1 c5 c6 .nil k.px (ia.A Γ Z CX X r _ k h3) g2 (z04 (z0j s1)) (z0b s2)) (fun _ _=>rfl) fun _ _=>rfl
 |tp c=>exact We.t (fun Γ Z CX X r e k h=>by show PT X e (tDT Z.K (evT Z.Κ Z.Φ c))/\(_->PW X e (tDT Z.K (evT Z.Κ Z.Φ c)));rw[k.kk];exact(all c).T Γ.g X r e k.ck h) (fun _ _=>rfl) fun _ _=>rfl
 |tc op a b ia ib=>exact We.t (fun Γ Z CX X r e k h=>by obtain⟨_,_,_,rfl,h2,h3,h4,h5⟩:=zdl h;refine⟨?_,fun⟨_,_,_,z⟩=>by cases z⟩;show PT X _ (z5a (tOp (rOp Z.K (mB (cmpD _))) _ _));rw[k.kk];exact z5h (z9u k.ck.hu _ h2) (ia.E Γ Z CX X r _ k h4) (ib.E Γ Z CX X r _ k h5) h3) (fun _ _=>rfl) fun _ _=>rfl
 |ti ng a ia=>exact We.t (fun Γ Z CX X r e k h=>by
  obtain⟨_,_,_,_,rfl,h2⟩:=zhg h;have ha:=ia.E Γ Z CX X r _ k h2;refine⟨?_,fun⟨_,_,_,z⟩=>by cases z⟩;cases ng with
  |true=>exact z6o (z3u ha)
  |false=>exact z6o (z6e ha)) (fun _ _=>rfl) fun _ _=>rfl
 |tn a b ia ib=>exact We.t (fun Γ Z CX X r e k h=>by obtain⟨_,_,_,rfl,h2,h3,h4,h5⟩:=zdl h;refine⟨?_,fun⟨_,_,_,z⟩=>by cases z⟩;show PT X _ (z5a (tOp (rNin Z.K) _ _));rw[k.kk];exact z5h (zfe k.ck.hu) (ia.E Γ Z CX X r _ k h4) (ib.E Γ Z CX X r _ k h5) h3) (fun _ _=>rfl) fun _ _=>rfl
 |tr a ia=>exact We.t (fun Γ Z CX X r e k h=>by have h:(plainT e&&wkE Γ a e)=true:=h;obtain⟨h1,h2⟩:=and2 h;refine⟨?_,fun⟨_,_,_,z⟩=>by subst z;cases h1⟩;show PT X _ (tTr Z.K _);rw[k.kk];exact z6q (ia.E Γ Z CX X r _ k h2) (z22 h1 _)) (fun _ _=>rfl) fun _ _=>rfl
 |not a ia=>exact We.t (fun Γ Z CX X r e k h=>by obtain⟨⟨o,x⟩,hv,h9⟩:=z00 h;obtain⟨p,rfl⟩:=q_Un hv;obtain⟨h1,h2⟩:=and2 h9;cases pf h1;exact⟨z9a (ia.T Γ Z CX X r _ k h2).1,fun⟨_,_,_,z⟩=>by cases z⟩) (fun _ _=>rfl) fun _ _=>rfl
 |tand a b ia ib=>exact We.t (fun Γ Z CX X r e k h=>by
  obtain⟨⟨o,xs,p⟩,hv,h9⟩:=z00 h;cases q_Bo hv;obtain⟨h1,h2⟩:=and2 h9;cases pf h1;rcases z1f h2 with⟨x,y,rfl,h3,h4⟩|⟨x,y,z,t,rfl,h3,h4⟩
  ·have w:=z9h (pos:=p) (ia.T Γ Z CX X r _ k h3).1 (z9g (ib.T Γ Z CX X r _ k h4).1);exact⟨w.pt,fun _=>w⟩
  ·have w:=z9h (pos:=p) (ia.T Γ Z CX X r _ k h3).1 ((ib.T Γ Z CX X r _ k h4).2 ⟨_,_,_,rfl⟩);exact⟨w.pt,fun _=>w⟩) (fun _ _=>rfl) fun _ _=>rfl
 |tor a b ia ib=>exact We.t (fun Γ Z CX X r e k h=>by
  obtain⟨⟨o,xs,p⟩,hv,h9⟩:=z00 h;cases q_Bo hv;obtain⟨h1,h2⟩:=and2 h9;cases pf h1;rcases z1f h2 with⟨x,y,rfl,h3,h4⟩|⟨x,y,z,t,rfl,h3,h4⟩
  ·have w:=zcy (pos:=p) (ia.T Γ Z CX X r _ k h3).1 (zbu (ib.T Γ Z CX X r _ k h4).1);exact⟨w.pt,fun _=>w⟩
  ·have w:=zcy (pos:=p) (ia.T Γ Z CX X r _ k h3).1 ((ib.T Γ Z CX X r _ k h4).2 ⟨_,_,_,rfl⟩);exact⟨w.pt,fun _=>w⟩) (fun _ _=>rfl) fun _ _=>rfl
 |nil=>exact⟨fun _ _ _ _ _ _ _ h=>ff rfl h,fun Γ Z CX X r es k h=>by cases z0d h;exact z1i,fun _ _ _ _ _ _ _ h=>ff rfl h⟩
 |cons a q ia iq=>exact⟨fun _ _ _ _ _ _ _ h=>ff rfl h,fun Γ Z CX X r es k h=>by
  cases es with
  |nil=>cases h
  |cons e es=>obtain⟨h1,h2,h3⟩:=and3 h;exact pa_c (ia.E Γ Z CX X r _ k h2) (iq.A Γ Z CX X r _ k h3) (z0j h1),fun _ _ _ _ _ _ _ h=>ff rfl h⟩
end
def inT (X:Cx)(pn:List (Addr×Obj))(E:Value->aa->Prop):Cx:={X with pn:=pn,xe:=E}
section
variable {X:Cx}{pins pins':List (Addr×Obj)}{σ:L2.St}{H:Hp}{s:aa}{E:Value->aa->Prop}{pn:List (Addr×Obj)}
theorem zhs (ok:X.Ok):(inT X pn E).Ok:=⟨ok.mod,ok.kind,ok.glob,ok.blt,ok.above,ok.inj,ok.has,ok.cab,ok.hd,ok.frames,ok.stk,ok.exf,ok.bs,ok.bsz,ok.noex,ok.exfs,ok.funs,ok.frf,ok.fxN⟩
theorem zdk (I:Inv X pins σ H s)(E:Value->aa->Prop):Inv (inT X (X.pn++pins) E) [] σ H s:=⟨zhs I.ok,I.os,I.bare,I.base,I.loc,I.cell,I.free,I.freeC,fun p hp=>I.pin p (by simpa[Mi.inT]using hp),I.hok,I.len,I.fx⟩
theorem z6n (ok:X.Ok)(I:Inv (inT X (X.pn++pins) E) pins' σ H s):Inv X pins σ H s:=⟨ok,I.os,I.bare,I.base,I.loc,I.cell,I.free,I.freeC,fun p hp=>I.pin p (fz _ hp),I.hok,I.len,I.fx⟩
theorem zes {Γ:Gm}{Κ:List D}{Φ:List Fn}{r:Nat}(k:Cok Γ Κ Φ X r)(hx:Γ.xc=none)(pn:List (Addr×Obj))(E:Value->aa->Prop):Cok Γ Κ Φ (inT X pn E) r:=⟨k.hN,k.hs,k.nd,k.fn,k.kind,k.free,k.fns,k.cst,k.fnx,k.room,k.calm,k.hu,k.fun_,k.fx0,fun n c z=>(by rw[hx]at z;cases z),k.xk⟩
def EHx (K:W.Frag)(C:Addr)(i n:Nat)(fb:Rho->Res Out)(D:Ends):XK:=fun v _ H'=>v=.ref C/\∃out,outI i (fb (ai n none))=.ok out/\z2a K ⟨H',fun _=>True,fun _=>none,True⟩ H' D out
theorem z7q {K:W.Frag}{H:Hp}{σ:L2.St}:StOk K ⟨H,fun _=>True,fun _=>none,True⟩ H σ (ai σ.length none) where
 ext:=Same.refl H
 vis:=fun _ _=>trivial
 own:=fun a i e=>by cases e
 len:=by rw[bq]
 sl:=fun i g d e=>by rw[bo]at e;split at e<;>cases e
theorem zet {Γ:Gw}{Z:Wc}{r i:Nat}{n:Str}{w:W}{e:Expr}{B:Str}{fb:Rho->Res Out}{ep np hp pos:Pos}{b0:Stmt}{suite:List Stmt}{C D:Addr}
  (zk:∀E,Zok Γ {Z with E:=E} (CXE X.prog X.w X.base) X.prog X.w X.K X.mg X.base r) (k:Cok Γ.g Z.Κ Z.Φ X r) (hr:Room r X.A) (hxc:Γ.g.xc=none) (hcomp:z0k e=false) (hw:wkE Γ w e=true)
  (hs:X.stack=X.env::X.outer) (hf:X.env.frame=some X.env.locals) (hx:X.fx=none) (nd:X.N.Nodup) (hi:X.N[i]?=some n) (hv:X.env.scope.names.lookup ("":Str)=none) (hl:X.env.scope.names.lookup n=some .local)
  (hB:X.mg B=some (.ref D)) (xC:exV X.K C=true) (xD:exV X.K D=true) (sb:W.subIn X.K (.ref C) (.ref D)=some true) (hgB:Gl X B) (hdB:(B==("__debug__":Str))=false)
  (hsu:∀a oe,oe.cls=.ref C->PSs (inX X i n a oe) (b0::suite) (tDS X.K fb)):
  PS X (.Try [.Expr e ep] [.ExceptHandler (some (.Name B np)) (some n) (b0::suite) hp] [] [] pos) (fun Dn σ H=>wE {Z with E:=EHx X.K C i X.N.length fb Dn} w σ H fun _ H1=>σ=σ/\Dn.nx σ H1):=by
 intro pins s σ H Dn I hq;refine wpAny_Try_except ?_;generalize hE:(fun(e:Value) (s₁:aa)=>wpAny (model X.prog X.w) X.A (noteFrame e X.env) (fun _ s₂=>wpAny (model X.prog X.w) X.A (setFlight e none) (fun _ s₃=>wpAny (model X.prog X.w) X.A (handleBy e X.env [.ExceptHandler (some (.Name B np)) (some n) (b0::suite) hp]) (SP X pins Dn) X.xe s₃) X.xe s₂) X.xe s₁)=E
 have px:z1y (CXE X.prog X.w X.base) (inT X (X.pn++pins) E) (EHx X.K C i X.N.length fb Dn):=fun pins' σ' H1 s1 e s' I1 zz=>by
  obtain⟨a,C',H',rfl,fl,hc,out,eo,q⟩:=zz;cases hc;show E (.ref a) s';rw[<-hE];have I2:Inv X pins σ' H1 s1:=z6n I.ok I1;have hl2:X.N.length=σ'.length:=I2.len.symm;rw[hl2]at eo
  have e0:(ai σ'.length (none:Option GD)).set i none=ai σ'.length none:=by
   apply n5;intro j;rw[cy];split
   ·rename_i h;subst h;rw[bo];split<;>simp_all
   ·rfl
  exact handle I2 fl z7q hs hf hx nd hi hv hl hB xC xD sb hgB hdB hsu (by rw[e0];exact eo) q
 have wk:Wok Γ {Z with E:=EHx X.K C i X.N.length fb Dn} (CXE X.prog X.w X.base) (inT X (X.pn++pins) E) r:=⟨zk _,zes k hxc _ E,hr,px⟩;have h1:=z7s (ps_e (pos:=ep) ((allW w).E Γ _ _ (inT X (X.pn++pins) E) r e wk hw) hcomp);refine thn (h1 [] s σ H ⟨fun σ' H'=>σ'=σ/\Dn.nx σ H',fun _ _=>False,fun _ _=>False,fun _ _=>False⟩ (zdk I E) hq) fun fl2 s2 h2=>?_
 ·cases fl2 with
  |next=>obtain⟨σ',H',I2,rfl,z⟩:=h2;exact gp ⟨σ',H',z6n I.ok I2,z⟩
  |brk=>obtain⟨_,_,_,z⟩:=h2;exact z.elim
  |cont=>obtain⟨_,_,_,z⟩:=h2;exact z.elim
  |ret u=>obtain⟨_,_,_,_,_,z⟩:=h2;exact z.elim
end
def Itk (d:Addr)(o:Obj)(kvs:List (Key×V)):It:=⟨fun i H=>H d=some (.frz o (.dK kvs))/\i<kvs.length,fun i H x H'=>∃k v,kvs[i]?=some (k,v)/\x=kV k/\H'=H,fun i H=>H d=some (.frz o (.dK kvs))/\kvs.length<=i⟩
theorem zbk {prog:am}{w:World}{A:bz}{E:Value->aa->Prop}{s:aa}{it d:Addr}{i n ep:Nat}{Q:Value->aa->Prop}(hit:s.heap.IsKeyIter it d i n ep)(h:Q (.ref it) s):wpAny (model prog w) A (pc (.ref it)) Q E s:=by have hT:=hit.typeIs;refine wpAny_pyIter_slot hT PySem.F.slot_dict_keyiterator_iter (wpAny_call_entry PySem.F.slot_dict_keyiterator_iter hT PySem.F.entry_dict_keyiterator_iter ?_ (PySem.F.args_dict_keyiterator_iter_1 _));exact a0 ⟨_,rfl,"dict_keyiterator",_,hT,PySem.F.slot_dict_keyiterator_next.lookup,h⟩
theorem z7u {P:am}{w:World}{K:W.Frag}{y:Str}{pos:Pos}{d it:Addr}{o:Obj}{kvs:List (Key×V)}{es:Array jw}{ep:Nat}(hd:o.data=.dict es ep):
  Turn P w K (.Name y pos) (Itk d o kvs) [it] it (fun i h=>h.IsKeyIter it d i kvs.length ep) where
 mem:=by simp
 obj:=fun i h st b hb=>by
  have e:b=it:=by simpa using hb
  subst e;obtain⟨o,ho,_,hd⟩:=st;exact⟨o,ho,fun v z=>by rw[hd]at z;cases z⟩
 keep:=fun i h h' st k=>by obtain⟨o,ho,r⟩:=st;exact⟨o,k it (by simp) _ ho,r⟩
 item:=by
  intro X hP hw hK hc i pins s σ H E I hf st hg;subst hP hw hK;obtain⟨hfz,hi⟩:=hg;obtain⟨vs,rel,hat,hsys,hod⟩:=z98 I hfz hd;have hlen:kvs.length=vs.length:=rel.length;obtain⟨u,hu,ru⟩:=zjz rel (i:=i) (k:=kvs[i].1) (v:=kvs[i].2) (by simp[hi]);have hit:s.heap.IsKeyIter it d i vs.length ep:=by rw[<-hlen];exact st
  refine wpAny_pyNext_dict_item (knd:=z07 X.prog X.w) hit hat hu fun key h' hkey hit' sb=>?_;obtain⟨f0,f1,f2,f3,f4,f5⟩:=hf it (by simp);obtain⟨o2,ho2,hc2,hd2⟩:=id hit';refine⟨_,rfl,z8e (s:={s with heap:=h'}) ho2 hc2 hd2 (by decide) ⟨kV kvs[i].1,H,I.turned (t':=s.toks) (fun b q hb e=>(sb.2 b hb).trans e) f0 f1 f3 f4 f5,z3b hkey,⟨kvs[i].1,kvs[i].2,by simp[hi],rfl,rfl⟩,by rw[hlen];exact hit',fun b hb=>?_⟩⟩;have e:b=it:=by simpa using hb
  subst e;exact f0
 done:=by
  intro X hP hw hK hc i pins s σ H E I hf st hg;subst hP hw hK;obtain⟨hfz,hi⟩:=hg;obtain⟨vs,rel,hat,hsys,hod⟩:=z98 I hfz hd;have hlen:kvs.length=vs.length:=rel.length;have hit:s.heap.IsKeyIter it d i vs.length ep:=by rw[<-hlen];exact st
  obtain⟨f0,f1,f2,f3,f4,f5⟩:=hf it (by simp);exact wpAny_pyNext_dict_end (I.ok.hd hc) hit hat (List.getElem?_eq_none (by omega)) fun h' eb=>⟨rfl,I.turned (t':=s.toks) (fun b o hb e=>eb b o hb e) f0 f1 f3 f4 f5⟩
 self:=fun _ _ _ _ _ st h=>zbk st h
section
variable {X:Cx}
def wiK (i:Nat):TI:=fun σ H R=>∃d o kvs es ep,σ[i]?=some (some (.ref d))/\H d=some (.frz o (.dK kvs))/\o.data=.dict es ep/\R (Itk d o kvs) H
theorem zen {i:Nat}{x y:Str}{p tp:Pos}(hN:X.N[i]?=some x)(hv:Vis X.env.scope x)(hdb:(x==("__debug__":Str))=false)(hcd:(x==("__classdict__":Str))=false):PI X (.Name y tp) (.Name x p) (wiK i):=by
 intro pins s σ H R I h;obtain⟨d,o,kvs,es,ep,hσ,hfz,hd,q⟩:=h;refine thn (z15 hN hv hdb hcd pins s σ H (fun v H1=>v=.ref d/\H1=H) I ⟨_,hσ,rfl,rfl⟩) fun ov s1 zz=>?_;obtain⟨z,H1,I1,r1,ey,eH⟩:=zz;subst ey eH;cases r1;obtain⟨vs,rel,hat,hsys,hod⟩:=z98 I1 hfz hd;refine wpAny_pyIter_dict (knd:=z07 X.prog X.w) hsys hat ?_;refine⟨_,[_],_,Itk d o kvs,H1,rfl,I1.kept (t':=s1.toks) fun b q e=>au _ e,z7u hd,?_,fun b hb=>?_,q⟩
 ·rw[show kvs.length=vs.length from rel.length];exact⟨_,bw _ rfl,rfl,rfl⟩
 ·have e:b=_:=dm.mp hb;subst e;exact I1.fpOk (ak _) (I1.hok.fresh (ak _))
def zfk (D:Ends)(d:Addr)(o:Obj)(kvs:List (Key×V)):Ends:=⟨fun σ H=>H d=some (.frz o (.dK kvs))/\D.nx σ (upd H d (.dK kvs)),fun v H=>H d=some (.frz o (.dK kvs))/\D.rt v (upd H d (.dK kvs)),fun σ H=>H d=some (.frz o (.dK kvs))/\D.bk σ (upd H d (.dK kvs)),fun σ H=>H d=some (.frz o (.dK kvs))/\D.ct σ (upd H d (.dK kvs))⟩
def zjo (i:Nat)(g:TG)(tb:TS):TS:=fun D σ H=>∃d kvs,σ[i]?=some (some (.ref d))/\H d=some (.dK kvs)/\∀o,tFor (fun _ H R=>R (Itk d o kvs) H) g tb (zfk D d o kvs) σ (upd H d (.frz o (.dK kvs)))
theorem ze8 {i:Nat}{x y:Str}{p tp pos:Pos}{g:TG}{tb:TS}{body:List Stmt}(hN:X.N[i]?=some x)(hv:Vis X.env.scope x)(hdb:(x==("__debug__":Str))=false)(hcd:(x==("__classdict__":Str))=false)(hp:db (model X.prog X.w) X.A X.env X.xe)(hc:X.calm=true)(hg:PG X (.Name y tp) g)(hb:PSs X body tb):
  PS X (.For (.Name y tp) (.Name x p) body [] pos) (zjo i g tb):=by
 intro pins s σ H D I h;obtain⟨d,kvs,hσ,hH,q⟩:=h;obtain⟨_,_,vs,_,o,es',ep,ho,_,hdat,_⟩:=I.hok d _ hH;have If:=I.freeze hH ho;refine thn (z63 hp hc (zen hN hv hdb hcd) hg hb (fun _=>rfl) pins s σ _ (zfk D d o kvs) If ⟨d,o,kvs,es',ep,hσ,z02,hdat,q o⟩) fun fl s' zz=>?_;cases fl with
 |next=>obtain⟨σ',H',I',hf,q'⟩:=zz;exact⟨σ',_,Inv.thaw I hH I' hf,q'⟩
 |brk=>obtain⟨σ',H',I',hf,q'⟩:=zz;exact⟨σ',_,Inv.thaw I hH I' hf,q'⟩
 |cont=>obtain⟨σ',H',I',hf,q'⟩:=zz;exact⟨σ',_,Inv.thaw I hH I' hf,q'⟩
 |ret u=>obtain⟨v,σ',H',I',r,hf,q'⟩:=zz;exact⟨v,σ',_,Inv.thaw I hH I' hf,r,q'⟩
end
inductive WS where
 |nil|seq (a b:WS)
 |asg (i:Nat) (e:W)|fld (o:W) (f:Str) (e:W)|put (o k v:W)
 |exp (e:W)|app (o v:W)|clr (o:W)|fork (t i:Nat) (b:WS)|ret (e:W)
 |ifS (c:W) (a b:WS)|whl (c:W) (b:WS)|for_ (t:Tg) (it:C) (b:WS)
 |rse (c:Str)|mir (s:S)|tr (e:W) (c:Str) (i n:Nat) (b:S)
 deriving Inhabited
section
variable (Z:Wc)
def wS:WS->TS
 |.nil=>zg1
 |.seq a b=>tSeq (wS a) (wS b)
 |.asg i e=>tAsg (wE Z e) (z94 i)
 |.fld o f e=>sFld Z.K (wE Z o) (wE Z e) f
 |.put o k v=>sSet (wE Z o) (wE Z k) (wE Z v)
 |.exp e=>z58 (wE Z e)
 |.app o v=>z58 (tBM Z.K "list" z5g (wE Z o) (z7d (wE Z v) tNil))
 |.clr o=>z58 (tBM0 Z.K "list" z7o (wE Z o))
 |.fork t i b=>zjo i (z94 t) (wS b)
 |.ret e=>tRet (wE Z e)
 |.ifS c a b=>tIfS (wT Z c) (wS a) (wS b)
 |.whl c b=>zc5 (wT Z c) (wS b)
 |.for_ t it b=>tFor (tDW Z.K (evW Z.Κ Z.Φ it)) (tDG Z.K t) (wS b)
 |.rse c=>fun _ _ H=>∀C,Z.mg c=some (.ref C)->Z.E (.ref C) none H
 |.mir s=>tDS Z.K (evS Z.Κ Z.Φ s)
 |.tr e c i n b=>fun D σ H=>∀C,Z.mg c=some (.ref C)->wE {Z with E:=EHx Z.K C i n (evS Z.Κ Z.Φ b) D} e σ H fun _ H1=>σ=σ/\D.nx σ H1
end
def vTw:Stmt->Option (Expr×Str×Str×List Stmt)
 |.Try [.Expr c _] [h] [] [] _=>(vEh h).map fun u=>(c,u)
 |_=>none
theorem q_Tw {s:Stmt}{v:Expr×Str×Str×List Stmt}(e:vTw s=some v):∃ep np hp pos,s=.Try [.Expr v.1 ep] [.ExceptHandler (some (.Name v.2.1 np)) (some v.2.2.1) v.2.2.2 hp] [] [] pos:=by
 unfold vTw at e;split at e
 ·obtain⟨x,h3,rfl⟩:=cf.mp e;obtain⟨np,hp,rfl⟩:=q_Eh h3;exact⟨_,_,_,_,rfl⟩
 ·cases e
mutual
def wk1 (Γ:Gw):WS->Stmt->Bool
 |.asg i e,s=>(vAs s).any fun u=>(vOne u.1).any fun x=>z5j Γ.g (.nm i) x&& !z0k u.2&&wkE Γ e u.2
 |.fld o f e,s=>(vAs s).any fun u=>(vOne u.1).any fun x=>(vAt x).any fun v=>(v.2.1==f)&& !z0k u.2&&wkE Γ o v.1&&wkE Γ e u.2
 |.put o k v,s=>(vAs s).any fun u=>(vOne u.1).any fun x=>(vSub x).any fun w=>!z0k u.2&&wkE Γ o w.1&&wkE Γ k w.2&&wkE Γ v u.2
 |.exp e,s=>(vEx s).any fun v=>!z0k v&&wkE Γ e v
 |.app o e,s=>(vEx s).any fun c=>(vMt c).any fun v=>((v.2.1==("append":Str))&&z0q v.1&&v.2.2.2)&&wkE Γ o v.1&&(vOne v.2.2.1).any fun y=>!isStar y&&wkE Γ e y
 |.clr o,s=>(vEx s).any fun c=>(vMt c).any fun v=>((v.2.1==("clear":Str))&&z0q v.1&&v.2.2.2)&&wkE Γ o v.1&&v.2.2.1.isEmpty
 |.fork t i b,s=>Γ.g.cm&&(vFo s).any fun v=>z5j Γ.g (.nm t) v.1&&hd1 (visB Γ.g i) v.2.1&&wkL Γ b v.2.2.1&&v.2.2.2.isEmpty
 |.ret e,s=>(vRt s).any fun o=>o.any fun v=>wkE Γ e v
 |.ifS c a b,s=>(vIf s).any fun v=>wkT Γ c v.1&&wkL Γ a v.2.1&&wkL Γ b v.2.2
 |.whl c b,s=>(vWh s).any fun v=>wkT Γ c v.1&&wkL Γ b v.2.1&&v.2.2.isEmpty
 |.for_ t it b,s=>Γ.g.cm&&(vFo s).any fun v=>(z5j Γ.g t v.1&&zas it v.1&&za5 v.2.1)&&chkW Γ.g it v.2.1&&wkL Γ b v.2.2.1&&v.2.2.2.isEmpty
 |.rse c,s=>(vRa s).any fun v=>(v.1==c)&&glB Γ.g c&&Γ.g.rs.contains c&&Γ.g.cm&&(vOne v.2).any zcs
 |.mir x,s=>chk1 Γ.g x s
 |.tr e c i n b,s=>decide (Γ.g.N.length=n)&&(vTw s).any fun v=>(Γ.g.cm&&(Γ.g.xc.isNone&& !Γ.g.blk)&&(Γ.g.N[i]?==some v.2.2.1)&&(Γ.g.sc.names.lookup v.2.2.1==some .local)&&decide (Γ.g.N.set i "").Nodup)&&((Γ.g.sc.names.lookup ("":Str)).isNone&&glB Γ.g v.2.1&&Γ.g.hnd.contains (c,v.2.1)&& !z0k v.1&&wkE Γ e v.1)&&(!v.2.2.2.isEmpty&&chkL {Γ.g with N:=Γ.g.N.set i "",cm:=false,xc:=some (v.2.2.1,c),fns:=[]} b v.2.2.2)
 |_,_=>false
def wkL (Γ:Gw):WS->List Stmt->Bool
 |.nil,l=>l.isEmpty
 |.seq a b,l=>match l with|s::l=>wk1 Γ a s&&wkL Γ b l|_=>false
 |_,_=>false
end
def Rsd (X:Cx)(E:XK):Prop:=∀pins σ H s a C args h',Inv X pins σ H s->l8 s.heap h' a (.ref C) args->E (.ref C) none H->X.xe (.ref a) {s with heap:=h'}
structure Wz (s:WS):Prop where
 R:∀(Γ:Gw) (Z:Wc) (X:Cx) (r:Nat) (st:Stmt),Wok Γ Z (CXE X.prog X.w X.base) X r->db (model X.prog X.w) X.A X.env X.xe->Rsd X Z.E->wk1 Γ s st=true->PS X st (wS Z s)
 L:∀(Γ:Gw) (Z:Wc) (X:Cx) (r:Nat) (st:List Stmt),Wok Γ Z (CXE X.prog X.w X.base) X r->db (model X.prog X.w) X.A X.env X.xe->Rsd X Z.E->wkL Γ s st=true->PSs X st (wS Z s)
theorem Wz.x {s:WS}(h:∀(Γ:Gw) (Z:Wc) (X:Cx) (r:Nat) (st:Stmt),Wok Γ Z (CXE X.prog X.w X.base) X r->db (model X.prog X.w) X.A X.env X.xe->Rsd X Z.E->wk1 Γ s st=true->PS X st (wS Z s))(hl:∀Γ st,wkL Γ s st=false):Wz s:=⟨h,fun Γ Z X r st k hp hr z=>ff (hl Γ st) z⟩
section
variable {X:Cx}{pos:Pos}
theorem zb2 {x z:Str}{np cp kp:Pos}{kk:Nat}{C:Addr}{E:XK}(hh:X.A.handled=none)(hg:Gl X x)(hm:X.mg x=some (.ref C))(hdb:(x==("__debug__":Str))=false)(hC:exV X.K C=true)
  (rs:Rsd X E):PS X (.Raise (some (.Call (.Name x np) [.Constant (.str z) kk kp] [] cp)) none pos) (fun _ _ H=>E (.ref C) none H):=by
 intro pins s σ H D I hq;obtain⟨bm,⟨N,nm,q,bs,hdct,sn,sub,ab,col,dd,k0,k1,k2,k3,k5,mN,oC,hN,hni,T⟩,_⟩:=XC.mk I.mod.kin hC;have hb:=T.hasType (X:="BaseException") (b:=true) rfl;have hpl:(fi cp (bv [.Constant (.str z) kk kp] X.env)).any (·.1)=false:=rfl;have hA:=z2o (X:=X) (z8n (x:=z) (j:=kk) (pos:=kp)) z1i;refine ln (nm:=nm) (q:=q) (C:=C) (N:=N) (bs:=bs) (bm:=bm) (hdct:=hdct) (sn:=sn) (sub:=sub) (ab:=ab) (col:=col) (dd:=dd) (k0:=k0) (k1:=k1) (k2:=k2) (k3:=k3) (k5:=k5) (mN:=mN) PySem.F.excBase_ValueError hb hh hpl hni (z1d I hg hm ⟨rfl,?_⟩ hdb);have hA2:=hA cp pins s σ H (fun vs H1=>vs.length=1/\H1=H) I ⟨rfl,rfl⟩;refine g8 (thn hA2 fun us s1 zz=>?_);obtain⟨vs,H1,I1,r,hv,rfl⟩:=zz;have hl:us.length=1:=by rw[<-r.length];exact hv
 exact⟨rfl,by rw[hl];decide,I1.bk _ _ oC,hN.keeps I1.bk,T.keeps I1.bk,fun h' a hx=>rs pins σ H1 s1 a C us h' I1 hx hq⟩
end
theorem w_tr {Γ:Gw}{Z:Wc}{X:Cx}{r:Nat}{st:Stmt}{e:W}{c:Str}{i len:Nat}{b:S}(k:Wok Γ Z (CXE X.prog X.w X.base) X r)(h:wk1 Γ (.tr e c i len b) st=true):PS X st (wS Z (.tr e c i len b)):=by
 have h:(decide (Γ.g.N.length=len)&&(vTw st).any fun v=>(Γ.g.cm&&(Γ.g.xc.isNone&& !Γ.g.blk)&&(Γ.g.N[i]?==some v.2.2.1)&&(Γ.g.sc.names.lookup v.2.2.1==some .local)&&decide (Γ.g.N.set i "").Nodup)&&((Γ.g.sc.names.lookup ("":Str)).isNone&&glB Γ.g v.2.1&&Γ.g.hnd.contains (c,v.2.1)&& !z0k v.1&&wkE Γ e v.1)&&(!v.2.2.2.isEmpty&&chkL {Γ.g with N:=Γ.g.N.set i "",cm:=false,xc:=some (v.2.2.1,c),fns:=[]} b v.2.2.2))=true:=h;obtain⟨hn,h⟩:=and2 h;obtain⟨⟨ex,B,n,su⟩,hv,h9⟩:=z00 h;obtain⟨ep,np,hpp,pos,rfl⟩:=q_Tw hv;obtain⟨h1,h2,h3⟩:=and3 h9;obtain⟨a1,a2,a3,a4,a5⟩:=and5 h1;obtain⟨b1,b2,b3,b4,b5⟩:=and5 h2;obtain⟨c1,c2⟩:=and2 h3;obtain⟨a6,a7⟩:=and2 a2;obtain⟨b0,su,rfl⟩:=z10 c1;obtain⟨g3,g4⟩:=k.ck.gl b2;obtain⟨C,D,m1,m2,x1,x2,sb⟩:=k.ck.xk.hnd c B b3;obtain⟨s1,s2⟩:=k.ck.fun_ (z0j a7);have hxc:=dg.mp a6;refine PS.imp (zet (Z:=Z) (Γ:=Γ) (i:=i) (n:=n) (C:=C) (fb:=evS Z.Κ Z.Φ b) (w:=e) (fun E=>⟨k.kk,k.mm,k.fn,k.me,k.cl⟩) k.ck k.room hxc (z0j b4) b5 s1 s2 (k.ck.fx0 hxc) (by rw[k.ck.hN];exact k.ck.nd) (by rw[k.ck.hN];exact pi a3) (by rw[k.ck.hs];exact dg.mp b1) (by rw[k.ck.hs];exact pi a4) m2 x1 x2 sb g3 g4 fun a oe hc=>(z9o b).L _ _ r _ (k.ck.inX (pf a5) hc m1) PassesOwn.never c2) fun Dn σ H q=>?_;have q:=q C (by rw[k.mm];exact m1);rw[<-pf hn,<-k.ck.hN]at q;have e:EHx X.K C i X.N.length (evS Z.Κ Z.Φ b) Dn=EHx Z.K C i X.N.length (evS Z.Κ Z.Φ b) Dn:=by rw[k.kk]
 rw[e];exact q
theorem zmo (s:WS):Wz s:=by
 induction s with
 |nil=>exact⟨fun _ _ _ _ _ _ _ _ h=>ff rfl h,fun Γ Z X r st k hp hr h=>by cases z0d h;exact z7x⟩
 |seq a b ia ib=>exact⟨fun _ _ _ _ _ _ _ _ h=>ff rfl h,fun Γ Z X r st k hp hr h=>by
  cases st with
  |nil=>cases h
  |cons s st=>obtain⟨h1,h2⟩:=and2 h;exact z3f (ia.R Γ Z X r _ k hp hr h1) (ib.L Γ Z X r _ k hp hr h2)⟩
 |asg i e=>exact Wz.x (fun Γ Z X r st k hp hr h=>by obtain⟨⟨ts,v⟩,hv,h9⟩:=z00 h;obtain⟨p,rfl⟩:=q_As hv;obtain⟨x,hx,h8⟩:=z00 h9;cases z11 hx;obtain⟨h1,h2,h3⟩:=and3 h8;obtain⟨y,q,rfl,h5⟩:=z12 h1;obtain⟨l1,l2,l3⟩:=k.ck.loc h5;exact ps_s (by rw[k.ck.hN];exact k.ck.nd) l1 l2 ((allW e).E Γ Z _ X r _ k h3) (z0j h2) l3) fun _ _=>rfl
 |fld o f e=>exact Wz.x (fun Γ Z X r st k hp hr h=>by obtain⟨⟨ts,v⟩,hv,h9⟩:=z00 h;obtain⟨p,rfl⟩:=q_As hv;obtain⟨x,hx,h8⟩:=z00 h9;cases z11 hx;obtain⟨⟨o',f',p'⟩,ho,h7⟩:=z00 h8;cases q_At ho;obtain⟨h1,h2,h3,h4⟩:=and4 h7;have h1:f'=f:=eqB h1;subst h1;show PS X _ (sFld Z.K _ _ _);rw[k.kk];exact zii ((allW o).E Γ Z _ X r _ k h3) ((allW e).E Γ Z _ X r _ k h4) (z0w (z0j h2) _ _ _)) fun _ _=>rfl
 |put o y v=>exact Wz.x (fun Γ Z X r st k hp hr h=>by obtain⟨⟨ts,v⟩,hv,h9⟩:=z00 h;obtain⟨p,rfl⟩:=q_As hv;obtain⟨x,hx,h8⟩:=z00 h9;cases z11 hx;obtain⟨w,ho,h7⟩:=z00 h8;obtain⟨_,rfl⟩:=z6r ho;obtain⟨h1,h2,h3,h4⟩:=and4 h7;exact z8s (j4 (ju (by decide) _) k.ck.hu) ((allW o).E Γ Z _ X r _ k h2) ((allW y).E Γ Z _ X r _ k h3) ((allW _).E Γ Z _ X r _ k h4) (z0w (z0j h1) _ _ _)) fun _ _=>rfl
 |exp e=>exact Wz.x (fun Γ Z X r st k hp hr h=>by obtain⟨v,hv,h9⟩:=z00 h;obtain⟨p,rfl⟩:=q_Ex hv;obtain⟨h1,h2⟩:=and2 h9;exact ps_e ((allW e).E Γ Z _ X r _ k h2) (z0j h1)) fun _ _=>rfl
 |app o e=>exact Wz.x (fun Γ Z X r st k hp hr h=>by obtain⟨c,hv,h9⟩:=z00 h;obtain⟨p,rfl⟩:=q_Ex hv;obtain⟨⟨x,n,es,b⟩,hm,h8⟩:=z00 h9;obtain⟨ap,cp,rfl,hb⟩:=q_Mt hm;obtain⟨h0,h6,h7⟩:=and3 h8;obtain⟨h1,h2,h3⟩:=and3 h0;obtain⟨y,hy,h4⟩:=z00 h7;cases z11 hy;obtain⟨h4,h5⟩:=and2 h4;have h1:n=("append":Str):=eqB h1;subst h1;show PS X _ (z58 (tBM Z.K "list" z5g _ _));rw[k.kk];exact ps_e (z75 PySem.F.plainAttrs_list PySem.F.slot_list_append PySem.F.type_list_append z1p ((allW o).E Γ Z _ X r _ k h6) (pa_c ((allW e).E Γ Z _ X r _ k h5) z1i (z0j h4)) (z18 h2) (z28 (by rw[bn,h4];rfl) (show 1<20 by decide)) (hb.symm.trans h3) (z04 (z0j h4)) (z0b rfl)) rfl) fun _ _=>rfl
 |clr o=>exact Wz.x (fun Γ Z X r st k hp hr h=>by obtain⟨c,hv,h9⟩:=z00 h;obtain⟨p,rfl⟩:=q_Ex hv;obtain⟨⟨x,n,es,b⟩,hm,h8⟩:=z00 h9;obtain⟨ap,cp,rfl,hb⟩:=q_Mt hm;obtain⟨h0,h6,h7⟩:=and3 h8;obtain⟨h1,h2,h3⟩:=and3 h0;cases z0d h7;have h1:n=("clear":Str):=eqB h1;subst h1;show PS X _ (z58 (tBM0 Z.K "list" z7o _));rw[k.kk];exact ps_e (z8o PySem.F.plainAttrs_list PySem.F.slot_list_clear PySem.F.type_list_clear zap ((allW o).E Γ Z _ X r _ k h6) (z18 h2) (hb.symm.trans h3)) rfl) fun _ _=>rfl
 |fork t i b ib=>exact Wz.x (fun Γ Z X r st k hp hr h=>by obtain⟨hcm,h⟩:=and2 h;obtain⟨⟨t',it,B,o⟩,hv,h9⟩:=z00 h;obtain⟨p,rfl⟩:=q_Fo hv;obtain⟨h1,h2,h3,h4⟩:=and4 h9;cases z0d h4;obtain⟨y,q,rfl,h5⟩:=z12 h1;obtain⟨z,q2,rfl,h6⟩:=z12 h2;obtain⟨l1,l2,l3⟩:=k.ck.loc h5;obtain⟨v1,v2,v3,v4⟩:=k.ck.vis h6;exact ze8 v1 v2 v3 v4 hp (k.ck.calm hcm) (z5e (by rw[k.ck.hN];exact k.ck.nd) l1 l2 l3) (ib.L Γ Z X r _ k hp hr h3)) fun _ _=>rfl
 |ret e=>exact Wz.x (fun Γ Z X r st k hp hr h=>by obtain⟨o,hv,h9⟩:=z00 h;obtain⟨p,rfl⟩:=q_Rt hv;obtain⟨v,rfl,h8⟩:=z00 h9;exact z6m ((allW e).E Γ Z _ X r _ k h8)) fun _ _=>rfl
 |ifS c a b ia ib=>exact Wz.x (fun Γ Z X r st k hp hr h=>by obtain⟨v,hv,h9⟩:=z00 h;obtain⟨p,rfl⟩:=q_If hv;obtain⟨h1,h2,h3⟩:=and3 h9;exact zdi ((allW c).T Γ Z _ X r _ k h1).1 (ia.L Γ Z X r _ k hp hr h2) (ib.L Γ Z X r _ k hp hr h3)) fun _ _=>rfl
 |whl c b ib=>exact Wz.x (fun Γ Z X r st k hp hr h=>by obtain⟨⟨t,B,o⟩,hv,h9⟩:=z00 h;obtain⟨p,rfl⟩:=q_Wh hv;obtain⟨h1,h2,h3⟩:=and3 h9;cases z0d h3;exact z64 hp ((allW c).T Γ Z _ X r _ k h1).1 (ib.L Γ Z X r _ k hp hr h2)) fun _ _=>rfl
 |for_ t it b ib=>exact Wz.x (fun Γ Z X r st k hp hr h=>by obtain⟨hcm,h⟩:=and2 h;obtain⟨⟨t',i,B,o⟩,hv,h9⟩:=z00 h;obtain⟨p,rfl⟩:=q_Fo hv;obtain⟨h1,h2,h3,h4⟩:=and4 h9;obtain⟨h5,h6,h7⟩:=and3 h1;cases z0d h4;show PS X _ (tFor (tDW Z.K _) (tDG Z.K _) _);rw[k.kk];exact z63 hp (k.ck.calm hcm) ((all it).W Γ.g X r _ _ k.ck h6 h2) (z7n k.ck h5) (ib.L Γ Z X r _ k hp hr h3) (z2h h7 _)) fun _ _=>rfl
 |rse c=>exact Wz.x (fun Γ Z X r st k hp hr h=>by obtain⟨⟨x,es⟩,hv,h9⟩:=z00 h;obtain⟨np,cp,pos,rfl⟩:=q_Ra hv;obtain⟨h1,h2,h3,h4,h5⟩:=and5 h9;obtain⟨y,hy,h6⟩:=z00 h5;cases z11 hy;obtain⟨z,kk,p,rfl⟩:=zbx h6;cases pi h1;obtain⟨g1,g2⟩:=k.ck.gl h2;obtain⟨C,m1,xC⟩:=k.ck.xk.rs x h3;exact PS.imp (zb2 (E:=Z.E) k.room.hd g1 m1 g2 xC hr) fun D σ H q=>q C (by rw[k.mm];exact m1)) fun _ _=>rfl
 |mir s=>exact Wz.x (fun Γ Z X r st k hp hr h=>by show PS X _ (tDS Z.K _);rw[k.kk];exact(z9o s).R Γ.g X r st k.ck hp h) fun _ _=>rfl
 |tr e c i len b=>exact Wz.x (fun Γ Z X r st k hp hr h=>w_tr k h) fun _ _=>rfl
section
variable {P:am}{w:World}{K:W.Frag}{mg:Str->Option Value}{base:Heap}
theorem w_fn {Γ:Gw}{Z:Wc}{x qual:Str}{st:Stmt}{ps:List Str}{k:Nat}{s:WS}{f:Addr}{fd:cu}{sp:Sp}(Fu:Fun K x qual st f fd)(Sc:FnScope Γ.g.N ps (z03 st))(hs:Γ.g.sc=z03 st)(hxc:Γ.g.xc=none)(dk:Dok Γ.g Z.Κ Z.Φ P w K mg base k)(zk:∀E,Zok Γ {Z with E:=E} (CXE P w base) P w K mg base k)(hc:wkL Γ s (z06 st)=true)
  (len:∀vs H Q E,sp vs H Q E->vs.length=ps.length) (run:∀vs H Q E,sp vs H Q E->wS {Z with E:=E} s {nx:=fun _ H'=>Q .non H',rt:=Q} (start Γ.g.N vs) H):
  FnOk P w K mg base (CXE P w base) (k+1) f fd ps sp:=by
 obtain⟨oc,od,kV,doc,pm,an,cdv,ct,osl,rfl,lk,hcd⟩:=Fu.ex;refine zcv lk hcd Sc len fun A outer s1 H vs Q E hr hsp=>⟨_,(zmo s).L Γ {Z with E:=E} (cxOf (CXE P w base) P w K mg base Γ.g.N qual (z03 st) f cdv A outer s1 H E) k _ ⟨zk E,⟨rfl,hs.symm,Sc.nd,fun _ _=>rfl,by rw[hs];exact Sc.kind,dk.free,dk.fns,dk.cst,dk.fnx,fun _=>hr,fun _=>rfl,hr.units,fun _=>⟨rfl,rfl⟩,fun _=>rfl,fun _ _ z=>(by rw[hxc]at z;cases z),dk.xk⟩,hr,fun pins σ H1 s2 e s' I zz=>?_⟩ PassesOwn.leaving (fun pins σ H1 s2 a C args h' I hx hE=>?_) hc,run vs H Q E hsp⟩
 ·obtain⟨a,C,H',rfl,fl,q⟩:=zz;exact fl.leave (outer:=[]) I rfl rfl rfl fun s3 fl=>⟨a,C,H',rfl,fl,q⟩
 ·exact z37 I hx rfl rfl rfl fun s3 fl=>⟨a,C,H1,rfl,fl,hE⟩
end
abbrev NoB:Ad->Prop:=fun _=>False
abbrev AnyB:Ad->Prop:=fun _=>True
abbrev F0 (H:Hp):Fm:=⟨H,fun _=>True,fun _=>none,True⟩
section
variable {K:W.Frag}{H H':Hp}
theorem Rep.old {v:V}{d:D}{B:Ad->Prop}(r:Rep K H B v d):Rep K H (oldA (F0 H)) v d:=(Rep.there _ r).weak fun a h=>by
 cases a with
 |none=>exact trivial
 |some a=>exact⟨fun z=>h.2 z,trivial⟩
theorem z1b {σ:L2.St}{ρ:Rho}(hl:σ.length=ρ.length)(h:∀(i:Nat) (g:G) (d:D),ρ[i]?=some (some (g,d))->g=G.od/\∃v B,σ[i]?=some (some v)/\Rep K H B v d):StOk K (F0 H) H σ ρ where
 ext:=Same.refl H
 vis:=fun _ _=>trivial
 own:=fun a i e=>by cases e
 len:=hl
 sl:=fun i g d e=>by obtain⟨rfl,v,B,e1,r⟩:=h i g d e;exact⟨v,e1,r.old⟩
structure Crt (K:W.Frag)(CC:Addr)(H:Hp)(x dx d:Addr)(kvs:List (Key×V))(es:Ents):Prop where
 ins:H x=some (.ins CC dx [("aboves",.ref d)])
 dic:H d=some (.dK kvs)
 re:REs K H NoB kvs es
theorem Crt.same {CC x dx d:Addr}{kvs:List (Key×V)}{es:Ents}(c:Crt K CC H x dx d kvs es)(s:Same H H'):Crt K CC H' x dx d kvs es:=⟨s _ _ c.ins,s _ _ c.dic,c.re.same s fun _ z=>z⟩
theorem Crt.rep {CC x dx d:Addr}{kvs:List (Key×V)}{es:Ents}(c:Crt K CC H x dx d kvs es):Rep K H AnyB (.ref d) (.dict es):=⟨d,kvs,rfl,c.dic,trivial,c.re.same (Same.refl H) fun _ z=>z.elim⟩
def z25:D->Bool
 |.str _=>true
 |_=>false
def stN (es:Ents)(c:D):Bool:=z25 c&&(z05 es c).isSome
end
structure CrtK (K:W.Frag)(CC:Addr):Prop where
 cls:Cls K CC
 na:z26 K CC "aboves"
namespace Ct
abbrev AB:W:=.att (.raw 0) "aboves"
abbrev LA:W:=.ix AB (.ix (.raw 2) (.pur (.neg (.int 1))))
def stands:WS:=.seq (.ret (.and (.pur (.isT (.var 1) ["str"])) (.cmp .In (.raw 1) AB))) .nil
def found:WS:=.seq (.ifS (.tor (.not (.tp (.tv (.isT (.var 1) ["str"])))) (.tc .In (.raw 1) AB)) (.seq (.rse "NoCourt") .nil) .nil)
 (.seq (.ifS (.tand (.ti true (.raw 2)) (.not (.tr (.mth (.raw 0) 0 (.cons (.raw 2) .nil))))) (.seq (.rse "NoCourt") .nil) .nil)
 (.seq (.put AB (.raw 1) (.raw 2)) .nil))
def line:WS:=.seq (.ifS (.not (.tr (.mth (.raw 0) 0 (.cons (.raw 1) .nil)))) (.seq (.rse "NoCourt") .nil) .nil)
 (.seq (.asg 2 (.lst (.cons (.raw 1) .nil)))
 (.seq (.whl (.ti true LA) (.seq (.app (.raw 2) LA) .nil))
 (.seq (.ret (.raw 2)) .nil)))
def init:WS:=.seq (.fld (.raw 0) "aboves" .dnew) (.seq (.for_ (.tp [2,3]) (.tv (.var 1)) (.seq (.exp (.mth (.raw 0) 1 (.cons (.raw 2) (.cons (.raw 3) .nil)))) .nil)) .nil)
end Ct
section
variable {Z:Wc}{H:Hp}{σ:L2.St}{CC x dx d:Addr}{kvs:List (Key×V)}{es:Ents}
theorem zaq (ck:CrtK Z.K CC)(c:Crt Z.K CC H x dx d kvs es)(h0:σ[0]?=some (some (.ref x))){Q:VK}(q:Q (.ref d) H):wE Z Ct.AB σ H Q:=⟨.ref x,h0,x,CC,dx,_,.ref d,rfl,c.ins,ck.cls,ck.na,rfl,q⟩
theorem zhj {H:Hp}{x y:V}{dx:D}{es:Ents}{Q:VK}{B B':Ad->Prop}(rx:Rep Z.K H B x dx)(ry:Rep Z.K H B' y (.dict es))(hk:isK dx=true)(q:∀H',Same H H'->Q (.bl (z05 es dx).isSome) H'):rOp Z.K (mB (cmpD .In)) x y H Q:=⟨B,B',dx,.dict es,.bool (z05 es dx).isSome,rx,ry,by show((if isK dx=true then Res.ok (z05 es dx).isSome else Res.no)>>=fun b=>Res.ok (PyData.bool b))=_;rw[if_pos hk];rfl,fun w H' s r=>by cases r;exact q H' s⟩
theorem z5k {c:D}(h:z25 c=true):isK c=true:=by cases c<;>first|(cases h;done)|rfl
theorem zc1 {ρ:Rho}{i:Nat}{c:D}{Κ:List D}{Φ:List Fn}(h:ρ[i]?=some (some (.od,c))):evE Κ Φ (.isT (.var i) ["str"]) ρ=.ok (.fr,.bool (z25 c)):=by show(rdS ρ[i]?>>=fun x=>Res.ok (G.fr,PyData.bool (["str"].any fun T=>isTy (tyOf x.2) T)))=_;rw[h];cases c<;>rfl
theorem z78 {D0:Ends}{v:V}{c:D}{B:Ad->Prop}(ck:CrtK Z.K CC)(ct:Crt Z.K CC H x dx d kvs es)(rv:Rep Z.K H B v c)(q:∀H',Same H H'->D0.rt (.bl (stN es c)) H'):
  wS Z Ct.stands D0 [some (.ref x),some v] H:=by
 show wE Z (.and _ _) _ _ _;refine⟨[none,some (.od,c)],F0 H,_,z1b rfl fun i g d' e=>?_,zc1 rfl,fun w H1 s1 r1=>⟨z25 c,r1,?_⟩⟩
 ·rcases i with _|_|i<;>cases e;exact⟨rfl,v,B,rfl,rv⟩
 ·cases hc:z25 c with
  |false=>rw[if_neg (by decide)];have:=q H1 s1;unfold stN at this;rw[hc]at this;exact this
  |true=>rw[if_pos rfl];refine⟨v,rfl,zaq ck (ct.same s1) rfl (zhj (rv.same s1 fun _ z=>z) (ct.same s1).rep (z5k hc) fun H2 s2=>?_)⟩;have:=q H2 (s1.trans s2);unfold stN at this;rw[hc]at this;exact this
def z0h (K:W.Frag)(CC:Addr):Sp:=fun vs H Q _=>∃x dx d kvs es v c B,vs=[.ref x,v]/\Crt K CC H x dx d kvs es/\Rep K H B v c/\∀H',Same H H'->Q (.bl (stN es c)) H'
def z68:D->Bool
 |.none=>true
 |_=>false
def okF (es:Ents)(c a:D):Bool:=z25 c&& !(z05 es c).isSome&&(z68 a||stN es a)
def z1c (K:W.Frag)(CC:Addr)(mg:Str->Option Value):Sp:=fun vs H Q E=>∃x dx d kvs es vc va c a B,vs=[.ref x,vc,va]/\Crt K CC H x dx d kvs es/\Rep K H B vc c/\Rep K H B va a/\es.length<ah/\if okF es c a=true then ∀H' kvs',(∀b o,b≠d->H b=some o->H' b=some o)->Crt K CC H' x dx d kvs' (es++[(c,a)])->Q .non H' else ∀C H',mg "NoCourt"=some (.ref C)->Same H H'->E (.ref C) none H'
theorem Rep.non {K:W.Frag}{H:Hp}{B:Ad->Prop}{v:V}{a:D}(r:Rep K H B v a):decide (v=.non)=z68 a:=by
 cases a with
 |none=>cases r;rfl
 |bool b=>cases r;rfl
 |int b=>cases r;rfl
 |str b=>obtain⟨rfl,_⟩:=r;rfl
 |tuple ds=>obtain⟨_,_,rfl,_⟩:=r;rfl
 |list ds=>obtain⟨_,_,rfl,_⟩:=r;rfl
 |dict ds=>obtain⟨_,_,rfl,_⟩:=r;rfl
theorem REs.len {K:W.Frag}{H:Hp}{B:Ad->Prop}:∀{es:Ents} {kvs:List (Key×V)},REs K H B kvs es->kvs.length=es.length
 | [],kvs,r=>by cases r;rfl
 |e::es,kvs,r=>by obtain⟨k,v,t,rfl,_,_,_,r⟩:=r;rw[ay,ay,REs.len r]
theorem z6j {es:Ents}{k v:D}(h:(z05 es k).isSome=false):dput es k v=es++[(k,v)]:=by unfold dput;rw[if_neg];intro z;unfold z05 at h;rw[f8,n9.mpr (List.any_eq_true.mp z)]at h;cases h
theorem z65 {o as:W}{j:Nat}{C:Addr}{m:Str}{sp:Sp}(h:Z.me[j]?=some (C,m,sp)):wE Z (.mth o j as)=z4h C m sp [] Z.E (wE Z o) (wA Z as):=by show(match Z.me[j]? with|some r=>z4h r.1 r.2.1 r.2.2 [] Z.E (wE Z o) (wA Z as)|none=>tNo)=_;rw[h]
theorem zjc {i:Nat}{v:V}{c:D}{B:Ad->Prop}{Q:Bool->Hp->Prop}(hm:Z.me[0]?=some (CC,("stands":Str),z0h Z.K CC))(ct:Crt Z.K CC H x dx d kvs es)(h0:σ[0]?=some (some (.ref x)))(hi:σ[i]?=some (some v))(rv:Rep Z.K H B v c)(q:∀H',Same H H'->Q (stN es c) H'):
  wT Z (.tr (.mth (.raw 0) 0 (.cons (.raw i) .nil))) σ H Q:=by
 show tTr Z.K (wE Z (.mth _ 0 _)) σ H Q;rw[z65 hm];exact⟨.ref x,h0,x,dx,_,rfl,ct.ins,rfl,v,hi,x,dx,d,kvs,es,v,c,B,rfl,ct,rv,fun H' s=>⟨_,rfl,q H' s⟩⟩
theorem za2 {D0:Ends}{vc va:V}{c a:D}{B:Ad->Prop}(ck:CrtK Z.K CC)(hm:Z.me[0]?=some (CC,("stands":Str),z0h Z.K CC))(ct:Crt Z.K CC H x dx d kvs es)(rc:Rep Z.K H B vc c)(ra:Rep Z.K H B va a)(hz:es.length<ah)
  (q:if okF es c a=true then ∀H' kvs',(∀b o,b≠d->H b=some o->H' b=some o)->Crt Z.K CC H' x dx d kvs' (es++[(c,a)])->D0.nx [some (.ref x),some vc,some va] H' else ∀C H',Z.mg "NoCourt"=some (.ref C)->Same H H'->Z.E (.ref C) none H'):
  wS Z Ct.found D0 [some (.ref x),some vc,some va] H:=by
 have bad:okF es c a=false->∀H',Same H H'->∀C,Z.mg "NoCourt"=some (.ref C)->Z.E (.ref C) none H':=fun ho H' s C e=>by rw[if_neg (by rw[ho];decide)]at q;exact q C H' e s
 show wT Z (.tor _ _) _ _ _;refine⟨[none,some (.od,c),none],F0 H,z25 c,z1b rfl fun i g d' e=>?_,?_,fun H1 s1=>?_⟩
 ·rcases i with _|_|_|i<;>cases e;exact⟨rfl,vc,B,rfl,rc⟩
 ·show(evE Z.Κ Z.Φ (.isT (.var 1) ["str"]) _>>=fun x=>z0p x.2)=_;rw[zc1 (c:=c) rfl];rfl
 cases hc:z25 c with
 |false=>exact bad (by unfold okF;rw[hc];rfl) H1 s1
 |true=>
  show wT Z (.tc _ _ _) _ _ _;refine⟨vc,rfl,zaq ck (ct.same s1) rfl (zhj (rc.same s1 fun _ z=>z) (ct.same s1).rep (z5k hc) fun H2 s2=>⟨_,rfl,?_⟩)⟩;have s12:=s1.trans s2;cases hl:(z05 es c).isSome with
  |true=>exact bad (by unfold okF;rw[hc,hl];rfl) H2 s12
  |false=>
   show wT Z (.tand _ _) _ _ _;refine⟨va,rfl,_,rfl,?_⟩
   have fin:okF es c a=true->∀H3,Same H H3->imm a=true->wS Z (.seq (.put Ct.AB (.raw 1) (.raw 2)) .nil) D0 [some (.ref x),some vc,some va] H3:=fun ho H3 s3 hi=>by
    rw[if_pos ho]at q;have c3:=ct.same s3;obtain⟨k,rfl,rfl,ok⟩:=z3p (z5k hc) rc;refine⟨va,rfl,zaq ck c3 rfl ⟨kV k,rfl,.inl ⟨d,_,rfl,.inl ⟨kvs,k,c3.dic,rfl,by rw[REs.len c3.re];exact hz,rfl⟩,?_⟩⟩⟩;refine q _ (putK kvs k va) (fun b o hb e=>by rw[z01 hb];exact s3 b o e) ⟨?_,z02,?_⟩
    ·rw[z01]
     ·exact c3.ins
     ·intro z;have:=c3.ins;rw[z,c3.dic]at this;cases this
    ·have r:=REs.put ok (Rep.immB (B':=NoB) a hi (ra.same s3 fun _ z=>z)) c3.re;rw[z6j hl]at r;refine REs.keep (fun b o e z=>?_) (fun _ z=>z) _ r;rw[z01]
     ·exact e
     ·rintro rfl
      rw[c3.dic]at e;cases e;exact z.elim id id
   rw[show(!decide (va=V.non))=!z68 a by rw[ra.non]];cases hn:z68 a with
   |true=>
    have ha:a=.none:=by cases a<;>first|(cases hn;done)|rfl
    subst ha;exact fin (by unfold okF;rw[hc,hl,hn];rfl) H2 s12 rfl
   |false=>
    refine zjc hm (ct.same s12) rfl rfl (ra.same s12 fun _ z=>z) fun H3 s3=>?_;cases hs:stN es a with
    |true=>
     have hi:imm a=true:=by unfold stN at hs;cases a<;>first|(cases hs;done)|rfl
     exact fin (by unfold okF;rw[hc,hl,hs,Bool.or_true];rfl) H3 (s12.trans s3) hi
    |false=>exact bad (by unfold okF;rw[hc,hl,hn,hs];rfl) H3 (s12.trans s3)
end
def z0n (es:Ents):Nat->Str->List Str
 |0,s=>[s]
 |n+1,s=>match z05 es (.str s)with
  |some (.str a)=>s::z0n es n a
  |_=>[s]
def endN (es:Ents):Nat->Str->Bool
 |0,s=>match z05 es (.str s)with
  |some .none=>true
  |_=>false
 |n+1,s=>match z05 es (.str s)with
  |some .none=>true
  |some (.str a)=>endN es n a
  |_=>false
def z1r (K:W.Frag)(CC:Addr)(mg:Str->Option Value):Sp:=fun vs H Q E=>∃x dx d kvs es v c B,vs=[.ref x,v]/\Crt K CC H x dx d kvs es/\Rep K H B v c/\if stN es c=true then ∃s n,c=.str s/\n<1000/\endN es n s=true/\∀H' p,Same H H'->H p=none->H' p=some (.lst ((z0n es n s).map V.str))->Q (.ref p) H' else ∀C H',mg "NoCourt"=some (.ref C)->Same H H'->E (.ref C) none H'
section
variable {Z:Wc}{H:Hp}{σ:L2.St}{CC x dx d:Addr}{kvs:List (Key×V)}{es:Ents}
theorem z3o {K:W.Frag}{H:Hp}{B:Ad->Prop}:∀{xs:List Str},(∀s∈xs,PyData.strOk s=true)->Reps K H B (xs.map V.str) (xs.map PyData.str)
 | [],_=>rfl
 |s::xs,h=>⟨_,_,rfl,⟨rfl,h s av⟩,z3o fun t ht=>h t (ao _ ht)⟩
theorem zcq {xs:List Str}{s:Str}:ixD (.list ((xs++[s]).map PyData.str)) (.int (-1))=.ok (.str s):=by
 show Res.ofO (atI ((xs++[s]).map PyData.str) (-1))=_
 have:atI ((xs++[s]).map PyData.str) (-1)=some (.str s):=by
  unfold atI ixN;rw[if_neg (by decide),if_pos (by simp;omega)];have e:((-1:Int)+((jg PyData.str (xs++[s])).length:Int)).toNat=xs.length:=by simp;omega
  show(jg PyData.str (xs++[s]))[((-1:Int)+((jg PyData.str (xs++[s])).length:Int)).toNat]?=_;rw[e,jt,fg (by simp)];simp
 rw[this];rfl
theorem zd3 {p:Addr}{xs:List Str}{s:Str}{w:D}{Q:VK}(ck:CrtK Z.K CC)(ct:Crt Z.K CC H x dx d kvs es)(h0:σ[0]?=some (some (.ref x)))(h2:σ[2]?=some (some (.ref p)))(hp:H p=some (.lst ((xs++[s]).map V.str)))(ho:∀t∈xs++[s],PyData.strOk t=true)(e:z05 es (.str s)=some w)(hi:imm w=true)
  (q:∀H' v,Same H H'->Rep Z.K H' NoB v w->Q v H'):wE Z Ct.LA σ H Q:=by
 show tOp _ _ _ _ _ _;refine zaq (Q:=fun x H1=>(tOp (rIxD Z.K) (tVar 2) (wE Z (.pur (.neg (.int 1))))) σ H1 fun y H2=>rIxD Z.K x y H2 Q) ck ct h0 ⟨.ref p,h2,ai σ.length none,F0 H,(.fr,.int (-1)),z1b (by rw[bq]) fun i g d' e=>?_,rfl,fun v1 H1 s1 r1=>?_⟩
 ·rw[bo]at e;split at e<;>cases e
 ·cases r1;refine⟨AnyB,AnyB,.list ((xs++[s]).map PyData.str),.int (-1),.str s,⟨p,_,rfl,.inl ⟨s1 _ _ hp,trivial⟩,z3o ho⟩,rfl,zcq,fun w1 r1=>?_⟩;refine⟨AnyB,AnyB,.dict es,.str s,w,(ct.same s1).rep,r1,?_,fun v2 r2=>q H1 v2 s1 (Rep.immB w hi r2)⟩
  ·show(if isK (PyData.str s)=true then Res.ofO (z05 es (.str s))else .no)=_;rw[if_pos (show isK (PyData.str s)=true from rfl),e];rfl
theorem zah {D0:Ends}{v:V}{c:D}{B:Ad->Prop}(ck:CrtK Z.K CC)(hm:Z.me[0]?=some (CC,("stands":Str),z0h Z.K CC))(ct:Crt Z.K CC H x dx d kvs es)(rv:Rep Z.K H B v c)
  (q:if stN es c=true then ∃s n,c=.str s/\n<1000/\endN es n s=true/\∀H' p,Same H H'->H p=none->H' p=some (.lst ((z0n es n s).map V.str))->D0.rt (.ref p) H' else ∀C H',Z.mg "NoCourt"=some (.ref C)->Same H H'->Z.E (.ref C) none H'):
  wS Z Ct.line D0 [some (.ref x),some v,none] H:=by
 refine zjc (σ:=[some (.ref x),some v,none]) (i:=1) hm ct rfl rfl rv fun H1 s1=>?_;cases hs:stN es c with
 |false=>rw[if_neg (by rw[hs];decide)]at q;exact fun C e=>q C H1 e s1
 |true=>
  rw[if_pos hs]at q;obtain⟨s,n,rfl,hn,he,q⟩:=q;obtain⟨rfl,hok⟩:=rv;rw[if_neg (by decide)];refine⟨.str s,rfl,(by rw[dq];exact(by decide:1<=16777216):[V.str s].length<=ah),fun p hp=>?_⟩;have hp0:H p=none:=s1.none hp
  let T:=z0n es n s
  let W:Nat->L2.St->Hp->Prop:=fun m σ' H'=>σ'=[some (.ref x),some (.str s),some (.ref p)]/\∃xs t,(∀b o,b≠p->H1 b=some o->H' b=some o)/\H' p=some (.lst ((xs++[t]).map V.str))/\(∀u∈xs++[t],PyData.strOk u=true)/\endN es m t=true/\T=xs++z0n es m t/\xs.length+m<=n
  have hpd:p≠d:=by rintro rfl;have:=(ct.same s1).dic;rw[hp]at this;cases this
  have hpx:p≠x:=by rintro rfl;have:=(ct.same s1).ins;rw[hp]at this;cases this
  have crt:∀H',(∀b o,b≠p->H1 b=some o->H' b=some o)->Crt Z.K CC H' x dx d kvs es:=fun H' k=>by
   have c1:=ct.same s1;refine⟨k _ _ (Ne.symm hpx) c1.ins,k _ _ (Ne.symm hpd) c1.dic,REs.keep (fun b o e z=>k b o ?_ e) (fun _ z=>z) _ c1.re⟩
   rintro rfl
   rw[hp]at e;cases e
  refine⟨W,⟨n,rfl,[],s,fun b o hb e=>by rw[z01 hb];exact e,z02,fun u hu=>by rw[dm.mp hu];exact hok,he,rfl,by simp⟩,?_⟩
  rintro m σ' H' ⟨rfl,xs,t,hk,hpl,hso,hen,hT,hlen⟩
  have c':=crt H' hk;have big:ah>3000:=by rw[dq];decide
  have look:(z05 es (.str t)=some .none/\z0n es m t=[t])\/∃a m',m=m'+1/\z05 es (.str t)=some (.str a)/\endN es m' a=true/\z0n es m t=t::z0n es m' a:=by
   cases m with
   |zero=>
    unfold endN at hen;split at hen
    ·rename_i e9;exact .inl ⟨e9,rfl⟩
    ·cases hen
   |succ m'=>
    unfold endN at hen;split at hen
    ·rename_i e;refine .inl ⟨e,?_⟩;show(match z05 es (.str t)with|some (.str a)=>t::z0n es m' a|_=>[t])=_;rw[e]
    ·rename_i a e;refine .inr ⟨a,m',rfl,e,hen,?_⟩;show(match z05 es (.str t)with|some (.str a)=>t::z0n es m' a|_=>[t])=_;rw[e]
    ·cases hen
  rcases look with⟨el,el2⟩|⟨a,m',rfl,el,he',el2⟩
  ·refine zd3 ck c' rfl rfl hpl hso el rfl fun H2 v s2 r2=>⟨_,rfl,?_⟩;cases r2;refine⟨.ref p,rfl,q H2 p (fun b o e=>?_) hp0 ?_⟩
   ·refine s2 b o (hk b o ?_ (s1 b o e))
    rintro rfl;rw[hp0]at e;cases e
   ·show H2 p=some (.lst (T.map V.str));rw[hT,el2];exact s2 _ _ hpl
  ·have oka:∀H2,Same H' H2->∀v,Rep Z.K H2 NoB v (.str a)->v=.str a/\PyData.strOk a=true:=fun H2 s2 v r=>r;refine zd3 ck c' rfl rfl hpl hso el rfl fun H2 v s2 r2=>⟨_,rfl,?_⟩;obtain⟨rfl,hoka⟩:=r2;refine⟨W m',fun σ'' H'' w=>⟨m',ig _,w⟩,?_⟩;refine⟨.ref p,rfl,?_,?_⟩
   ·exact .inl ⟨rfl,_,.inl (.inl (s2 _ _ hpl))⟩
   ·refine zd3 ck (c'.same s2) rfl rfl (s2 _ _ hpl) hso el rfl fun H3 v s3 r3=>?_;obtain⟨rfl,_⟩:=r3;refine⟨p,_,.str a,rfl,rfl,s3 _ _ (s2 _ _ hpl),?_,rfl,xs++[t],a,fun b o hb e=>?_,?_,fun u hu=>?_,he',?_,?_⟩
    ·simp;omega
    ·rw[z01 hb];exact s3 b o (s2 b o (hk b o hb e))
    ·rw[z02,jt,jt (l₁:=xs++[t])];simp
    ·rcases et.mp hu with hu|hu
     ·exact hso u hu
     ·rw[dm.mp hu];exact hoka
    ·rw[hT,el2];simp
    ·simp;omega
end
def z09:Ents->List D->Option Ents
 |es,[]=>some es
 |es,p::ps=>match p with
  |.tuple [c,a]=>if okF es c a then z09 (es++[(c,a)]) ps else none
  |_=>none
def isPr:D->Bool
 |.tuple [_,_]=>true
 |_=>false
def Fnd (K:W.Frag)(CC:Addr)(mg:Str->Option Value)(H:Hp)(x dx:Addr)(ps:List D)(Q:Hp->Prop)(E:XK):Prop:=
 match z09 [] ps with
 |some es=>∀H' d kvs,H d=none->(∀b o,b≠x->H b=some o->H' b=some o)->Crt K CC H' x dx d kvs es->Q H'
 |none=>∀C H',mg "NoCourt"=some (.ref C)->(∀b o,b≠x->H b=some o->H' b=some o)->E (.ref C) none H'
def z1u (K:W.Frag)(CC:Addr)(mg:Str->Option Value):Sp:=fun vs H Q E=>∃x dx vp ps B,vs=[.ref x,vp]/\H x=some (.ins CC dx [])/\Rep K H B vp (.list ps)/\imms ps=true/\(ps.all isPr)=true/\ps.length<1000/\Fnd K CC mg H x dx ps (fun H'=>Q .non H') E
section
variable {Z:Wc}{H:Hp}{σ:L2.St}{CC x dx d:Addr}{kvs:List (Key×V)}{es:Ents}
theorem zax {D0:Ends}{vp:V}{ps:List D}{B:Ad->Prop}(ck:CrtK Z.K CC)(hm:Z.me[1]?=some (CC,("found":Str),z1c Z.K CC Z.mg))(hx:H x=some (.ins CC dx []))(rp:Rep Z.K H B vp (.list ps))(hi:imms ps=true)(hpr:(ps.all isPr)=true)(hz:ps.length<1000)
  (q:Fnd Z.K CC Z.mg H x dx ps (fun H'=>∀σ',D0.nx σ' H') Z.E):wS Z Ct.init D0 [some (.ref x),some vp,none,none] H:=by
 refine fun d hd=>?_;have hdx:d≠x:=by rintro rfl;rw[hd]at hx;cases hx
 have hx1:upd H d (.dK []) x=some (.ins CC dx []):=by rw[z01 (Ne.symm hdx)];exact hx
 refine⟨.ref x,rfl,x,CC,dx,[],rfl,hx1,ck.cls,ck.na,by decide,?_⟩
 let H1:Hp:=upd (upd H d (.dK [])) x (.ins CC dx [("aboves",.ref d)])
 have k1:∀b o,b≠x->H b=some o->H1 b=some o:=fun b o hb e=>by
  have:b≠d:=by rintro rfl;rw[hd]at e;cases e
  show upd _ _ _ _=_;rw[z01 hb,z01 this];exact e
 have c1:Crt Z.K CC H1 x dx d [] []:=⟨z02,by show upd _ _ _ _=_;rw[z01 hdx,z02],rfl⟩
 let F1:Fm:=⟨fun b=>if b=d\/b=x then none else H1 b,fun _=>True,fun _=>none,True⟩
 obtain⟨l,vs,rfl,hl,rs⟩:=rp;show wS Z (.seq (.for_ _ _ _) .nil) D0 _ H1;have oldl:∀b,b≠d->b≠x->∀o,H1 b=some o->oldA F1 (some b):=fun b h1 h2 o e=>by refine⟨?_,trivial⟩;show(if b=d\/b=x then none else H1 b)≠none;rw[if_neg (fun z=>z.elim h1 h2),e];intro z;cases z
 have rl:Rep Z.K H1 (oldA F1) (.ref l) (.list ps):=by
  have rs1:Reps Z.K H1 (oldA F1) vs ps:=Reps.immK (fun a o e f=>k1 a o (by rintro rfl;rw[hx]at e;cases e;exact f) e) ps hi rs;rcases hl with⟨hl,_⟩|⟨hl,_⟩
  ·have hlx:l≠x:=by rintro rfl;rw[hl]at hx;cases hx
   have hld:l≠d:=by rintro rfl;rw[hl]at hd;cases hd
   exact⟨l,vs,rfl,.inl ⟨k1 l _ hlx hl,oldl l hld hlx _ (k1 l _ hlx hl)⟩,rs1⟩
  ·refine⟨l,vs,rfl,.inr ⟨?_,trivial⟩,rs1⟩;rcases hl with⟨o,hl⟩|hl
   ·have hlx:l≠x:=by rintro rfl;rw[hl]at hx;cases hx
    exact .inl ⟨o,k1 l _ hlx hl⟩
   ·exact .inr hl
 have so1:StOk Z.K F1 H1 [some (.ref x),some (.ref l),none,none] [none,some (.od,.list ps),none,none]:=by
  refine⟨fun a o e=>?_,fun _ _=>trivial,fun a i e=>(by cases e),rfl,fun i g d' e=>?_⟩
  ·have e:(if a=d\/a=x then none else H1 a)=some o:=e;split at e
   ·cases e
   ·exact e
  ·rcases i with _|_|_|_|i<;>cases e;exact⟨_,rfl,rl⟩
 refine⟨_,F1,(.od,ps),so1,rfl,fun J B' H2 s2 hB wk=>?_⟩
 have kp:∀{H3:Hp},(∀b o,b≠d->H2 b=some o->H3 b=some o)->Kp B' H2 H3:=fun{H3} k b o e z=>k b o (by
  rintro rfl
  rcases z with z|z
  ·exact(hB _ z).1.1 (by show(if b=b\/b=x then none else H1 b)=none;rw[if_pos (.inl rfl)])
  ·have :=s2 _ _ c1.dic;rw[e]at this;cases this;exact z) e
 let W:Nat->Nat->L2.St->Hp->Prop:=fun i m σ' H'=>m=ps.length-i/\i<=ps.length/\σ'.length=4/\σ'[0]?=some (some (.ref x))/\(∀b o,b≠d->H2 b=some o->H' b=some o)/\∃kvs es,Crt Z.K CC H' x dx d kvs es/\es.length=i/\z09 es (ps.drop i)=z09 [] ps
 refine⟨W,⟨_,rfl,cj _,rfl,rfl,fun _ _ _ e=>e,[],[],c1.same s2,rfl,rfl⟩,?_⟩
 rintro i m σ' H' ⟨rfl,hile,hsl,hs0,hk,kvs,es,ct,hes,haf⟩
 have all1:∀H3,Same H' H3->∀b o,b≠x->H b=some o->H3 b=some o:=fun H3 s3 b o hb e=>s3 b o (hk b o (by rintro rfl;rw[hd]at e;cases e) (s2 b o (k1 b o hb e)));by_cases hlt:i<ps.length
 ·refine .inr ⟨wk.go H' (kp hk) i hlt,W (i+1) (ps.length-(i+1)),fun σ2 H3 w=>⟨_,by omega,w⟩,fun y H3 hy=>?_⟩;obtain⟨s3,p,hp,ry⟩:=wk.yld H' (kp hk) i y H3 hlt hy;have hdr:ps.drop i=p::ps.drop (i+1):=by have dc:=ip hlt;rw[dc];rw[bh hlt]at hp;cases hp;rfl
  have hpm:p∈ps:=bu hp;have hpp:=br.mp hpr p hpm
  obtain⟨c,a,rfl⟩:∃c a,p=.tuple [c,a]:=by
   unfold isPr at hpp;split at hpp
   ·exact⟨_,_,rfl⟩
   ·cases hpp
  refine⟨ai 4 none,F0 H3,(.od,.tuple [c,a]),[none,none,some (z1w (gJ c .od,c)),some (z1w (gJ a .od,a))],z1b (by rw[hsl,bq]) fun j g d' e=>?_,ry.old,rfl,fun σ3 F3 so3 kps=>?_⟩
  ·rw[bo]at e;split at e<;>cases e
  have sl:∀(j:Nat) (e:D),([none,none,some (z1w (gJ c .od,c)),some (z1w (gJ a .od,a))]:Rho)[j]?=some (some (z1w (gJ e .od,e)))->∃v,σ3[j]?=some (some v)/\Rep Z.K H3 AnyB v e:=fun j e h=>by
   have h9:∀g,z1w (g,e)=(.od,e)\/z1w (g,e)=(.al,e):=fun g=>by cases g<;>first|exact .inl rfl|exact .inr rfl
   rcases h9 (gJ e .od)with h8|h8
   ·rw[h8]at h;obtain⟨v,e1,r1⟩:=so3.sl j _ _ h;exact⟨v,e1,Rep.weak (fun _ _=>trivial) r1⟩
   ·rw[h8]at h;obtain⟨v,e1,r1⟩:=so3.sl j _ _ h;exact⟨v,e1,Rep.weak (fun _ _=>trivial) r1⟩
  obtain⟨vc,hvc,rc⟩:=sl 2 c rfl;obtain⟨va,hva,ra⟩:=sl 3 a rfl;have h03:σ3[0]?=some (some (.ref x)):=(kps.rest 0 (by decide)).trans hs0;have hl3:σ3.length=4:=kps.len.trans hsl;rw[hdr]at haf;have haf:(if okF es c a=true then z09 (es++[(c,a)]) (ps.drop (i+1))else none)=z09 [] ps:=haf;show wE Z (.mth _ 1 _) _ _ _;rw[z65 hm];have big:ah>3000:=by rw[dq];decide
  refine⟨.ref x,h03,x,dx,_,rfl,(ct.same s3).ins,rfl,vc,hvc,va,hva,x,dx,d,kvs,es,vc,va,c,a,AnyB,rfl,ct.same s3,rc,ra,by omega,?_⟩;by_cases ho:okF es c a=true
  ·rw[if_pos ho]at haf ⊢;intro H4 kvs' k4 ct4;exact⟨rfl,hlt,hl3,h03,fun b o hb e=>k4 b o hb (s3 b o (hk b o hb e)),kvs',_,ct4,by rw[ba,hes];rfl,haf⟩
  ·rw[if_neg ho]at haf ⊢;intro C H4 hC s4;unfold Fnd at q;rw[<-haf]at q;exact q C H4 hC (all1 H4 (s3.trans s4))
 ·have hie:i=ps.length:=by omega
  subst hie;refine .inl ⟨wk.stop H' (kp hk),?_⟩;rw[km]at haf;have haf:some es=z09 [] ps:=haf;unfold Fnd at q;rw[<-haf]at q;exact q H' d kvs hd (all1 H' (Same.refl _)) ct σ'
end
namespace Ct
def ll:WS:=.seq (.asg 2 (.lst .nil)) (.seq (.whl (.ti true (.raw 1)) (.seq (.app (.raw 2) (.raw 1)) (.seq (.asg 1 (.dgt (.raw 0) (.raw 1))) .nil))) (.seq (.ret (.raw 2)) .nil))
end Ct
def spLL (K:W.Frag):Sp:=fun vs H Q _=>∃d kvs es s n,vs=[.ref d,.str s]/\Rd H d (.dK kvs)/\REs K H NoB kvs es/\PyData.strOk s=true/\n<1000/\endN es n s=true/\∀H' p,Same H H'->H p=none->H' p=some (.lst ((z0n es n s).map V.str))->Q (.ref p) H'
section
variable {Z:Wc}{H:Hp}{σ:L2.St}{CC x dx d:Addr}{kvs:List (Key×V)}{es:Ents}
theorem z21 {m:Nat}{t:Str}(hen:endN es m t=true):(z05 es (.str t)=some .none/\z0n es m t=[t])\/∃a m',m=m'+1/\z05 es (.str t)=some (.str a)/\endN es m' a=true/\z0n es m t=t::z0n es m' a:=by
 cases m with
 |zero=>
  unfold endN at hen;split at hen
  ·rename_i e9;exact .inl ⟨e9,rfl⟩
  ·cases hen
 |succ m'=>
  unfold endN at hen;split at hen
  ·rename_i e9;refine .inl ⟨e9,?_⟩;show(match z05 es (.str t)with|some (.str a)=>t::z0n es m' a|_=>[t])=_;rw[e9]
  ·rename_i a e9;refine .inr ⟨a,m',rfl,e9,hen,?_⟩;show(match z05 es (.str t)with|some (.str a)=>t::z0n es m' a|_=>[t])=_;rw[e9]
  ·cases hen
theorem z41:∀(n:Nat) (s:Str),(z0n es n s).length<=n+1
 |0,s=>by simp[z0n]
 |n+1,s=>by
  unfold z0n;split
  ·rename_i a _;have:=z41 n a;simp;omega
  ·simp
theorem zhh {D0:Ends}{s:Str}{n:Nat}(rd:Rd H d (.dK kvs))(re:REs Z.K H NoB kvs es)(hok:PyData.strOk s=true)(hn:n<1000)(he:endN es n s=true)(q:∀H' p,Same H H'->H p=none->H' p=some (.lst ((z0n es n s).map V.str))->D0.rt (.ref p) H'):
  wS Z Ct.ll D0 [some (.ref d),some (.str s),none] H:=by
 have big:ah>3000:=by rw[dq];decide
 refine⟨by show 0<=ah;omega,fun p hp=>?_⟩
 have hpd:d≠p:=by
  rintro rfl
  rcases rd with rd|⟨o,rd⟩<;>rw[hp]at rd<;>cases rd
 let W:Nat->L2.St->Hp->Prop:=fun k σ' H'=>∃xs cv,σ'=[some (.ref d),some cv,some (.ref p)]/\(∀b o,b≠p->H b=some o->H' b=some o)/\H' p=some (.lst (xs.map V.str))/\xs.length+k<=n+1/\((k=0/\cv=.non/\z0n es n s=xs)\/∃m t,k=m+1/\cv=.str t/\PyData.strOk t=true/\endN es m t=true/\z0n es n s=xs++z0n es m t)
 refine⟨W,⟨n+1,[],.str s,rfl,fun b o hb e=>by rw[z01 hb];exact e,z02,by simp,.inr ⟨n,s,rfl,rfl,hok,he,rfl⟩⟩,?_⟩
 rintro k σ' H' ⟨xs,cv,rfl,hk,hpl,hlen,hh⟩
 refine⟨cv,rfl,_,rfl,?_⟩;rcases hh with⟨rfl,rfl,hT⟩|⟨m,t,rfl,rfl,hot,hen,hT⟩
 ·refine⟨.ref p,rfl,q H' p (fun b o e=>hk b o (by rintro rfl;rw[hp]at e;cases e) e) hp (by rw[hT];exact hpl)⟩
 ·refine⟨fun σ'' H''=>∃k,k<=m/\W k σ'' H'',fun σ'' H'' ⟨k,hk,w⟩=>⟨k,Nat.lt_succ_of_le hk,w⟩,?_⟩;refine⟨.ref p,rfl,.inl ⟨rfl,_,.inl (.inl hpl)⟩,.str t,rfl,p,_,.str t,rfl,rfl,hpl,by rw[aw];omega,?_⟩
  have rd2:Rd (upd H' p (.lst (xs.map V.str++[.str t]))) d (.dK kvs):=by
   rcases rd with rd|⟨o,rd⟩
   ·exact .inl (by rw[z01 hpd];exact hk _ _ hpd rd)
   ·exact .inr ⟨o,by rw[z01 hpd];exact hk _ _ hpd rd⟩
  have hl:∃w,z05 es (.str t)=some w/\∃v,valV kvs (Sum.inr t)=some v/\Rep Z.K H NoB v w:=by
   rcases z21 hen with⟨e1,_⟩|⟨a,m',_,e1,_⟩
   ·have :=REs.val (Sum.inr t) re;rw[show kD (Sum.inr t)=PyData.str t from rfl,e1]at this;exact⟨_,e1,this⟩
   ·have :=REs.val (Sum.inr t) re;rw[show kD (Sum.inr t)=PyData.str t from rfl,e1]at this;exact⟨_,e1,this⟩
  obtain⟨w,e1,v,e2,rv⟩:=hl;refine⟨.ref d,rfl,.str t,rfl,d,v,rfl,.inl ⟨kvs,Sum.inr t,rd2,rfl,e2.symm⟩,?_⟩;have fr:∀b o,b≠p->H b=some o->upd H' p (.lst (xs.map V.str++[.str t])) b=some o:=fun b o hb e=>by rw[z01 hb];exact hk b o hb e
  have nw:upd H' p (.lst (xs.map V.str++[.str t])) p=some (.lst ((xs++[t]).map V.str)):=by rw[z02,jt];rfl
  rcases z21 hen with⟨e3,e4⟩|⟨a,m',rfl,e3,e5,e4⟩
  ·rw[e1]at e3;cases e3;cases rv;exact⟨0,cj _,xs++[t],.non,rfl,fr,nw,by simp;omega,.inl ⟨rfl,rfl,by rw[hT,e4]⟩⟩
  ·rw[e1]at e3;cases e3;obtain⟨rfl,hoa⟩:=rv;exact⟨m'+1,ak _,xs++[t],.str a,rfl,fr,nw,by simp;omega,.inr ⟨m',a,rfl,rfl,hoa,e5,by rw[hT,e4];simp⟩⟩
end
namespace Ct
def rfH:S:=.seq (.asg (.nm 4) (.or (.isE false "Late") (.or (.isE false "NoPack") (.or (.isE false "NoReason") (.isE false "NoRow")))))
 (.seq (.asg (.nm 4) (.or (.var 4) (.or (.isE false "NoRuling") (.or (.isE false "NoSide") (.isE false "NotAllowed")))))
 (.seq (.asg (.nm 4) (.or (.var 4) (.or (.isE false "NotYours") (.or (.isE false "TooMuch") (.or (.isE false "Twice") (.isE false "Unknown"))))))
 (.seq (.asg (.nm 2) (.bin .Add (.bi "int" (.cons (.isE true "NoCourt") .nil)) (.bin .Mult (.int 2) (.bi "int" (.cons (.or (.var 4) (.not (.isE true "ValueError"))) .nil))))) .nil)))
def rf:WS:=.seq (.asg 2 (.pur (.int 0))) (.seq (.tr (.mth (.mk 0 (.cons (.raw 0) .nil)) 2 (.cons (.raw 1) .nil)) "NoCourt" 3 5 rfH) (.seq (.ret (.cmp .Eq (.raw 2) (.pur (.int 1)))) .nil))
end Ct
def rfB (ps:List D)(c:D):Bool:=match z09 [] ps with
 |none=>true
 |some es=>!stN es c
def spRf (K:W.Frag):Sp:=fun vs H Q _=>∃vr ps vn c B,vs=[vr,vn]/\Rep K H B vr (.list ps)/\Rep K H B vn c/\imms ps=true/\(ps.all isPr)=true/\ps.length<1000/\rfB ps c=true/\∀H',Same H H'->Q (.bl true) H'
theorem zgl (Κ:List D)(Φ:List Fn):∃g g',g≠.fr/\evS Κ Φ Ct.rfH (ai 5 none)=.ok (.nx [none,none,some (g,.int 1),none,some (g',.bool false)]):=⟨_,_,by decide,rfl⟩
section
variable {Z:Wc}{H:Hp}{σ:L2.St}{CC x dx d:Addr}{kvs:List (Key×V)}{es:Ents}
theorem zgx {as:W}{j:Nat}{C:Addr}{sp:Sp}(h:Z.cl[j]?=some (C,sp)):wE Z (.mk j as)=z7b C sp [] Z.E (wA Z as):=by show(match Z.cl[j]? with|some r=>z7b r.1 r.2 [] Z.E (wA Z as)|none=>tNo)=_;rw[h]
theorem zg6 {D0:Ends}{vr vn:V}{ps:List D}{c:D}{B:Ad->Prop}(h2:Z.me[2]?=some (CC,("line":Str),z1r Z.K CC Z.mg))(h0:Z.cl[0]?=some (CC,z1u Z.K CC Z.mg))(rr:Rep Z.K H B vr (.list ps))(rn:Rep Z.K H B vn c)(hi:imms ps=true)(hpr:(ps.all isPr)=true)(hz:ps.length<1000)(hb:rfB ps c=true)
  (q:∀H',Same H H'->D0.rt (.bl true) H'):wS Z Ct.rf D0 [some vr,some vn,none,none,none] H:=by
 refine⟨ai 5 none,F0 H,(.fr,.int 0),z1b rfl fun i g d' e=>?_,rfl,fun v1 H1 s1 r1=>?_⟩
 ·rw[bo]at e;split at e<;>cases e
 cases r1;intro C hC
 have exc:∀(D1:Ends),(∀σ' H',σ'[2]?=some (some (.int 1))->Same H H'->D1.nx σ' H')->∀H',(∀b o,H b=some o->H' b=some o)->EHx Z.K C 3 5 (evS Z.Κ Z.Φ Ct.rfH) D1 (.ref C) none H':=fun D1 k H' hk=>by
  obtain⟨g,g',hg,ev⟩:=zgl Z.Κ Z.Φ;refine⟨rfl,.nx [none,none,some (g,.int 1),none,some (g',.bool false)],by rw[ev];rfl,fun σ' H'' F' so _ fr=>k σ' H'' ?_ fun b o e=>(fr b o (hk b o e) rfl).1⟩;obtain⟨v,e1,r1⟩:=so.sl 2 g (.int 1) rfl
  have:v=.int 1:=by
   cases g with
   |fr=>exact(hg rfl).elim
   |od=>exact r1
   |al=>exact r1
   |nu=>exact r1
  rw[this]at e1;exact e1
 have fin:∀σ' H',σ'[2]?=some (some (.int 1))->Same H H'->wS Z (.seq (.ret (.cmp .Eq (.raw 2) (.pur (.int 1)))) .nil) D0 σ' H':=fun σ' H' e2 s2=>by
  refine⟨.int 1,e2,ai σ'.length none,F0 H',(.fr,.int 1),z1b (by rw[bq]) fun i g d' e=>?_,rfl,fun v2 H2 s3 r2=>?_⟩
  ·rw[bo]at e;split at e<;>cases e
  ·cases r2;exact⟨AnyB,AnyB,.int 1,.int 1,.bool true,rfl,rfl,rfl,fun w H3 s4 r3=>by cases r3;exact q H3 ((s2.trans s3).trans s4)⟩
 let D1:Ends:={D0 with nx:=wS Z (.seq (.ret (.cmp .Eq (.raw 2) (.pur (.int 1)))) .nil) D0}
 let Z':Wc:={Z with E:=EHx Z.K C 3 5 (evS Z.Κ Z.Φ Ct.rfH) D1}
 have hm2:Z'.me[2]?=some (CC,("line":Str),z1r Z.K CC Z.mg):=h2;have hc0:Z'.cl[0]?=some (CC,z1u Z.K CC Z.mg):=h0;show wE Z' (.mth (.mk 0 (.cons (.raw 0) .nil)) 2 (.cons (.raw 1) .nil)) _ H1 _;rw[z65 hm2];show wE Z' (.mk 0 _) _ H1 _;rw[zgx hc0];refine⟨vr,rfl,fun x dx hx hdx hne=>?_⟩;have sm:Same H1 (upd (upd H1 dx (.own x)) x (.ins CC dx [])):=fun b o e=>by rw[z01 (by rintro rfl;rw[hx]at e;cases e),z01 (by rintro rfl;rw[hdx]at e;cases e)];exact e
 have hx0:H x=none:=s1.none hx;refine⟨x,dx,vr,ps,B,rfl,z02,rr.same (s1.trans sm) fun _ z=>z,hi,hpr,hz,?_⟩;have keep:∀H',(∀b o,b≠x->upd (upd H1 dx (.own x)) x (.ins CC dx []) b=some o->H' b=some o)->Same H H':=fun H' k b o e=>k b o (by rintro rfl;rw[hx0]at e;cases e) (sm b o (s1 b o e));unfold rfB at hb;unfold Fnd;cases ha:z09 [] ps with
 |none=>intro C' H' hC' k;rw[hC]at hC';cases hC';exact exc D1 fin H' (keep H' k)
 |some es=>
  rw[ha]at hb;intro H' d kvs hd k ct;have hs:stN es c=false:=by simpa using hb
  refine⟨rfl,x,dx,_,rfl,ct.ins,rfl,vn,rfl,x,dx,d,kvs,es,vn,c,B,rfl,ct,rn.same (keep H' k) fun _ z=>z,?_⟩;rw[if_neg (by rw[hs];decide)];intro C' H'' hC' s2;rw[hC]at hC';cases hC';exact exc D1 fin H'' ((keep H' k).trans s2)
end
theorem z2k (n:Nat):∀l:List Str,z29 n (l.map PyData.str)=true
 | []=>rfl
 |s::l=>by show(shal n (.str s)&&z29 n (l.map PyData.str))=true;rw[z2k n l];cases n<;>rfl
theorem z7l:∀l:List Str,PyData.eqvAll (l.map PyData.str) (l.map PyData.str)=true
 | []=>rfl
 |s::l=>by show(PyData.eqv (.str s) (.str s)&&PyData.eqvAll (l.map PyData.str) (l.map PyData.str))=true;rw[z7l l,Bool.and_true];show(s==s)=true;exact beq_self_eq_true s
theorem ne_str (l:List Str):cmpD .NotEq (.list (l.map .str)) (.list (l.map .str))=.ok false:=by show(if shal 40 (.list (l.map .str))&&shal 40 (.list (l.map .str))then Res.ok (!eqD (.list (l.map .str)) (.list (l.map .str)))else .no)=_;rw[show shal 40 (.list (l.map PyData.str))=true from z2k 39 l];have:eqD (.list (l.map .str)) (.list (l.map .str))=true:=z7l l;rw[this];rfl
namespace Ct
abbrev LN:W:=.mth (.raw 0) 2 (.cons (.raw 2) .nil)
abbrev CL:W:=.cal 0 (.cons (.raw 1) (.cons (.raw 2) .nil))
def lgB:WS:=.seq (.asg 3 LN)
 (.seq (.ifS (.tor (.not (.tp (.tv (.isT (.var 3) ["list"])))) (.tc .NotEq (.raw 3) CL)) (.seq (.ret (.pur (.bl false))) .nil) .nil)
 (.seq (.app (.raw 3) (.pur (.str "odd")))
 (.seq (.put (.raw 3) (.pur (.int 0)) (.pur (.str "even")))
 (.seq (.ifS (.tc .NotEq LN CL) (.seq (.ret (.pur (.bl false))) .nil) .nil) .nil))))
def lg:WS:=.seq (.fork 2 1 lgB) (.seq (.ret (.pur (.bl true))) .nil)
end Ct
def zad (es:Ents):Prop:=∀e∈es,∃s n,e.1=.str s/\n<1000/\stN es (.str s)=true/\endN es n s=true
def spLG (K:W.Frag)(CC:Addr):Sp:=fun vs H Q _=>∃x dx d kvs es h kvh,vs=[.ref x,.ref h]/\Crt K CC H x dx d kvs es/\H h=some (.dK kvh)/\REs K H NoB kvh es/\h≠d/\zad es/\∀H',Same H H'->Q (.bl true) H'
section
variable {Z:Wc}{H:Hp}{σ:L2.St}{CC x dx d:Addr}{kvs:List (Key×V)}{es:Ents}
theorem z5s {c:C}{y:D}{Q:VK}(e:∀ρ,evE Z.Κ Z.Φ c ρ=.ok (.fr,y))(q:∀v H',Same H H'->Rep Z.K H' (nw H) v y->Q v H'):wE Z (.pur c) σ H Q:=⟨_,_,_,z7q,e _,q⟩
theorem z6i {as:W}{j:Nat}{sp:Sp}(h:Z.fn[j]?=some sp):wE Z (.cal j as)=z55 sp [] Z.E (wA Z as):=by show(match Z.fn[j]? with|some sp=>z55 sp [] Z.E (wA Z as)|none=>tNo)=_;rw[h]
theorem zgj {s:Str}{n:Nat}{Q:VK}(h2:Z.me[2]?=some (CC,("line":Str),z1r Z.K CC Z.mg))(ct:Crt Z.K CC H x dx d kvs es)(e0:σ[0]?=some (some (.ref x)))(e2:σ[2]?=some (some (.str s)))(hok:PyData.strOk s=true)(hn:n<1000)(hs:stN es (.str s)=true)(he:endN es n s=true)
  (q:∀H' p,Same H H'->H p=none->H' p=some (.lst ((z0n es n s).map V.str))->Q (.ref p) H'):wE Z Ct.LN σ H Q:=by
 show wE Z (.mth _ 2 _) σ H Q;rw[z65 h2];refine⟨.ref x,e0,x,dx,_,rfl,ct.ins,rfl,.str s,e2,x,dx,d,kvs,es,.str s,.str s,AnyB,rfl,ct,⟨rfl,hok⟩,?_⟩;rw[if_pos hs];exact⟨s,n,rfl,hn,he,q⟩
theorem zjl {h:Addr}{s:Str}{n:Nat}{Q:VK}(h0:Z.fn[0]?=some (spLL Z.K))(rd:Rd H h (.dK kvs))(re:REs Z.K H NoB kvs es)(e1:σ[1]?=some (some (.ref h)))(e2:σ[2]?=some (some (.str s)))(hok:PyData.strOk s=true)(hn:n<1000)(he:endN es n s=true)
  (q:∀H' p,Same H H'->H p=none->H' p=some (.lst ((z0n es n s).map V.str))->Q (.ref p) H'):wE Z Ct.CL σ H Q:=by
 show wE Z (.cal 0 _) σ H Q;rw[z6i h0];exact⟨.ref h,e1,.str s,e2,h,kvs,es,s,n,rfl,rd,re,hok,hn,he,q⟩
theorem z2n {K:W.Frag}{H:Hp}{p:Addr}{l:List Str}(hp:H p=some (.lst (l.map V.str)))(ho:∀u∈l,PyData.strOk u=true):Rep K H AnyB (.ref p) (.list (l.map .str)):=⟨p,_,rfl,.inl ⟨hp,trivial⟩,z3o ho⟩
theorem zi6 {K:W.Frag}(re:REs K H NoB kvs es):∀(n:Nat) (s:Str),PyData.strOk s=true->endN es n s=true->∀u∈z0n es n s,PyData.strOk u=true
 |n,s,hs,he=>by
  induction n generalizing s with
  |zero=>intro u hu;rw[dm.mp (show u∈[s]from hu)];exact hs
  |succ n ih=>
   rcases z21 he with⟨_,e2⟩|⟨a,m',em,e1,e3,e2⟩
   ·rw[e2];intro u hu;rw[dm.mp hu];exact hs
   ·cases em;rw[e2];have:=REs.val (Sum.inr s) re;rw[show kD (Sum.inr s)=PyData.str s from rfl,e1]at this;obtain⟨v,_,_,ha⟩:=this;intro u hu;rcases a9.mp hu with rfl|hu
    ·exact hs
    ·exact ih a ha e3 u hu
theorem ziy {D0:Ends}{h:Addr}{kvh:List (Key×V)}(h2:Z.me[2]?=some (CC,("line":Str),z1r Z.K CC Z.mg))(h0:Z.fn[0]?=some (spLL Z.K))(ct:Crt Z.K CC H x dx d kvs es)(hh:H h=some (.dK kvh))(reh:REs Z.K H NoB kvh es)(hd:h≠d)(he:zad es)(q:∀H',Same H H'->D0.rt (.bl true) H'):
  wS Z Ct.lg D0 [some (.ref x),some (.ref h),none,none] H:=by
 have big:ah>3000:=by rw[dq];decide
 have hx:x≠h:=by rintro rfl;have:=ct.ins;rw[hh]at this;cases this
 refine⟨h,kvh,rfl,hh,fun o=>?_⟩
 let Hf:Hp:=upd H h (.frz o (.dK kvh))
 have fix:∀b u,b≠h->H b=some u->Hf b=some u:=fun b u hb e=>by show upd _ _ _ _=_;rw[z01 hb];exact e
 have nob:∀{l:List (Key×V)},REs Z.K H NoB l es->REs Z.K Hf NoB l es:=fun{l} r=>REs.keep (fun a u e z=>fix a u (by rintro rfl;rw[hh]at e;cases e;exact z.elim id id) e) (fun _ z=>z) _ r;have ctf:Crt Z.K CC Hf x dx d kvs es:=⟨fix _ _ hx ct.ins,fix _ _ (Ne.symm hd) ct.dic,nob ct.re⟩;have hhf:Hf h=some (.frz o (.dK kvh)):=z02
 let W:Nat->Nat->L2.St->Hp->Prop:=fun i m σ' H'=>m=kvh.length-i/\i<=kvh.length/\(∃a b,σ'=[some (.ref x),some (.ref h),a,b])/\Same Hf H'
 refine⟨W,⟨_,rfl,cj _,⟨none,none,rfl⟩,Same.refl _⟩,?_⟩
 rintro i m σ' H' ⟨rfl,hile,⟨a,b,rfl⟩,sf⟩
 by_cases hlt:i<kvh.length
 ·refine .inr ⟨⟨sf _ _ hhf,hlt⟩,W (i+1) (kvh.length-(i+1)),fun σ2 H2 w=>⟨_,by omega,w⟩,fun y H2 hy=>?_⟩;obtain⟨k,v,hk,rfl,rfl⟩:=hy;obtain⟨dv,hdv,ok,rv⟩:=REs.at reh hk;obtain⟨s,n,es1,hn,hst,hen⟩:=he _ (bu hdv);cases k with
  |inl z=>cases es1
  |inr s9=>
   cases es1;have ok:PyData.strOk s=true:=ok;have ct2:=ctf.same sf;have re2:REs Z.K H2 NoB kvh es:=(nob reh).same sf fun _ z=>z;have okL:=zi6 reh n s ok hen;show wE Z Ct.LN _ H2 _;refine zgj h2 ct2 rfl rfl ok hn hst hen fun H3 p s3 hp hpl=>?_;have sf3:Same Hf H3:=sf.trans s3;have hpf:Hf p=none:=sf.none hp;show wT Z (.tor _ _) _ H3 _;refine⟨[none,none,none,some (.od,.list ((z0n es n s).map .str))],F0 H3,true,z1b rfl fun j g d' e=>?_,rfl,fun H4 s4=>?_⟩
   ·rcases j with _|_|_|_|j<;>cases e;exact⟨rfl,_,AnyB,rfl,z2n hpl okL⟩
   have rd4:∀H5,Same Hf H5->Rd H5 h (.dK kvh):=fun H5 s5=>.inr ⟨o,s5 _ _ hhf⟩;show wT Z (.tc _ _ _) _ H4 _;refine⟨.ref p,rfl,?_⟩;refine zjl h0 (rd4 H4 (sf3.trans s4)) (re2.same (s3.trans s4) fun _ z=>z) rfl rfl ok hn hen fun H5 p2 s5 hp2 hpl2=>?_;refine⟨AnyB,AnyB,_,_,.bool false,z2n (s5 _ _ (s4 _ _ hpl)) okL,z2n hpl2 okL,by show(cmpD _ _ _>>=fun b=>Res.ok (PyData.bool b))=_;rw[ne_str];rfl,fun w H6 s6 r6=>⟨false,r6,?_⟩⟩;refine iteF ?_;have h6:H6 p=some (.lst ((z0n es n s).map V.str)):=s6 _ _ (s5 _ _ (s4 _ _ hpl));have sf6:Same Hf H6:=((sf3.trans s4).trans s5).trans s6;have len:=z41 (es:=es) n s;refine⟨.ref p,rfl,.inl ⟨rfl,_,.inl (.inl h6)⟩,?_⟩;refine z5s (y:=.str "odd") (fun _=>rfl) fun v7 H7 s7 r7=>?_;obtain⟨rfl,_⟩:=r7;refine⟨p,_,.str "odd",rfl,rfl,s7 _ _ h6,by rw[aw];omega,?_⟩;refine z5s (y:=.str "even") (fun _=>rfl) fun v8 H8 s8 r8=>?_;obtain⟨rfl,_⟩:=r8;refine⟨.ref p,rfl,z5s (y:=.int 0) (fun _=>rfl) fun v9 H9 s9 r9=>?_⟩;cases r9;have h9:H9 p=some (.lst ((z0n es n s).map V.str++[.str "odd"])):=s9 _ _ (s8 _ _ z02);refine .inr ⟨p,_,0,0,rfl,rfl,h9,by rw[ba];unfold L2.ixN;rw[if_pos (by decide),if_pos (by simp)];rfl,?_⟩;generalize hH:upd H9 p _=H10
   have sf10:Same Hf H10:=fun b u e=>by
    have hb:b≠p:=by rintro rfl;rw[hpf]at e;cases e
    rw[<-hH,z01 hb];refine s9 b u (s8 b u ?_);rw[z01 hb];exact s7 b u (sf6 b u e)
   have ct10:=ctf.same sf10;show wE Z Ct.LN _ H10 _;refine zgj h2 ct10 rfl rfl ok hn hst hen fun H11 p3 s11 hp3 hpl3=>?_;refine zjl h0 (rd4 H11 (sf10.trans s11)) ((nob reh).same (sf10.trans s11) fun _ z=>z) rfl rfl ok hn hen fun H12 p4 s12 hp4 hpl4=>?_;refine⟨AnyB,AnyB,_,_,.bool false,z2n (s12 _ _ hpl3) okL,z2n hpl4 okL,by show(cmpD _ _ _>>=fun b=>Res.ok (PyData.bool b))=_;rw[ne_str];rfl,fun w H13 s13 r13=>⟨false,r13,?_⟩⟩;refine iteF ?_;exact⟨rfl,hlt,⟨_,_,rfl⟩,((sf10.trans s11).trans s12).trans s13⟩
 ·refine .inl ⟨⟨sf _ _ hhf,by omega⟩,sf _ _ hhf,z5s (y:=.bool true) (fun _=>rfl) fun v H2 s2 r2=>?_⟩;cases r2;refine q H2 fun b u e=>s2 b u ?_;by_cases hb:b=h
  ·subst hb;rw[hh]at e;cases e;exact z02
  ·rw[z01 hb];exact sf b u (fix b u hb e)
end
namespace Ct
abbrev nH:C:=.ix (.var 1) (.bin .Mod (.bin .FloorDiv (.var 5) (.int 10)) (.int 10))
abbrev PR:W:=.tup (.cons (.raw 6) (.cons (.raw 7) .nil))
abbrev rF:WS:=.seq (.ret (.pur (.bl false))) .nil
abbrev LG:W:=.cal 0 (.cons (.raw 9) (.cons (.raw 3) .nil))
def laB:WS:=.seq (.asg 5 (.pur (.call 2 "_law_mix" (.cons (.ix (.var 0) (.var 4)) (.cons (.var 4) .nil)))))
 (.seq (.asg 6 (.pur (.ix (.var 1) (.bin .Mod (.var 5) (.int 10)))))
 (.seq (.asg 7 (.pur (.ix (.lst (.cons .non (.cons nH (.cons nH .nil)))) (.bin .Mod (.bin .FloorDiv (.var 5) (.int 100)) (.int 3)))))
 (.seq (.ifS (.tp (.or (.tv (.cmp .In (.var 6) (.var 3))) (.and (.tv (.isN true (.var 7))) (.tv (.cmp .NotIn (.var 7) (.var 3))))))
  (.seq (.ifS (.not (.tr (.cal 1 (.cons (.bin .Add (.raw 2) (.lst (.cons PR .nil))) (.cons (.raw 6) .nil))))) rF .nil) .nil)
  (.seq (.app (.raw 2) PR) (.seq (.put (.raw 3) (.raw 6) (.raw 7)) .nil))) .nil)))
abbrev odd:C:=.lst (.cons .non (.cons (.int 0) (.cons (.bl true) (.cons (.str "") (.cons (.lst .nil) (.cons (.lst (.cons (.str "a") .nil)) (.cons (.tup (.cons (.str "a") .nil)) (.cons .dnew .nil))))))))
def laE:WS:=.seq (.ifS (.tand (.tn (.raw 10) (.pur (.lk 3))) (.not (.tr (.cal 1 (.cons (.raw 2) (.cons (.raw 10) .nil)))))) rF .nil) .nil
def law2:WS:=.seq (.asg 8 (.pur (.agg "list" (.tv (.var 2)))))
 (.seq (.asg 9 (.mk 0 (.cons (.raw 8) .nil)))
 (.seq (.clr (.raw 8))
 (.seq (.ifS (.not (.tr LG)) rF .nil)
 (.seq (.for_ (.nm 10) (.tv (.bin .Add (.var 1) odd)) laE)
 (.seq (.ret LG) .nil)))))
def law:WS:=.seq (.asg 1 (.pur (.call 3 "_law_names" (.cons (.call 4 "_law_cell_at" (.cons (.var 0) (.cons (.int 0) .nil))) (.cons (.int 10) .nil)))))
 (.seq (.asg 2 (.lst .nil))
 (.seq (.asg 3 .dnew)
 (.seq (.for_ (.nm 4) (.rng (.cons (.bi "min" (.cons (.bi "len" (.cons (.var 0) .nil)) (.cons (.int 60) .nil))) .nil)) laB)
 law2)))
end Ct
structure St2 (K:W.Frag)(H:Hp)(r h:Addr)(vs:List V)(kvh:List (Key×V))(ps:List D)(es:Ents):Prop where
 hr:H r=some (.lst vs)
 rr:Reps K H NoB vs ps
 hh:H h=some (.dK kvh)
 rh:REs K H NoB kvh es
 im:imms ps=true
 pr:(ps.all isPr)=true
 len:ps.length<=60
 af:z09 [] ps=some es
 en:zad es
section
variable {Z:Wc}{H:Hp}{σ:L2.St}{CC:Addr}{r h:Addr}{vs:List V}{kvh:List (Key×V)}{ps:List D}{es:Ents}
theorem St2.same {K:W.Frag}{H':Hp}(t:St2 K H r h vs kvh ps es)(s:Same H H'):St2 K H' r h vs kvh ps es:=⟨s _ _ t.hr,t.rr.same s fun _ z=>z,s _ _ t.hh,t.rh.same s fun _ z=>z,t.im,t.pr,t.len,t.af,t.en⟩
theorem St2.rows {K:W.Frag}(t:St2 K H r h vs kvh ps es):Rep K H AnyB (.ref r) (.list ps):=⟨r,vs,rfl,.inl ⟨t.hr,trivial⟩,t.rr.weak fun _ z=>z.elim⟩
theorem St2.heads {K:W.Frag}(t:St2 K H r h vs kvh ps es):Rep K H AnyB (.ref h) (.dict es):=⟨h,kvh,rfl,t.hh,trivial,t.rh.same (Same.refl _) fun _ z=>z.elim⟩
theorem z0y:∀{ps:List D} {es0 es:Ents},z09 es0 ps=some es->es.length=es0.length+ps.length
 | [],es0,es,e=>by cases e;rfl
 |p::ps,es0,es,e=>by
  unfold z09 at e;split at e
  ·split at e
   ·have :=z0y e;rw[this,ba,ay];simp;omega
   ·cases e
  ·cases e
theorem z4b {K:W.Frag}{B:Ad->Prop}:∀{ss:List Str} {ws:List V},Reps K H B ws (ss.map .str)->ws=ss.map V.str
 | [],_,r=>r
 |s::ss,_,r=>by obtain⟨v,t,rfl,⟨rfl,_⟩,r⟩:=r;rw[z4b r];rfl
theorem keys_str:∀{es:Ents},(∀e∈es,∃s,e.1=PyData.str s)->∃ss:List Str,es.map (·.1)=ss.map PyData.str
 | [],_=>⟨[],rfl⟩
 |e::es,h=>by obtain⟨s,hs⟩:=h e av;obtain⟨ss,h2⟩:=keys_str fun x hx=>h x (ao _ hx);exact⟨s::ss,by rw[bg,bg,hs,h2]⟩
theorem zdy {es:Ents}{s:Str}(h:((es.map (·.1)).any fun y=>eqD y (.str s))=false):z05 es (.str s)=none:=by
 unfold z05;rw[Option.map_eq_none_iff,List.find?_eq_none];intro e he;have:=nh.mp h e.1 (List.mem_map_of_mem he);intro z;apply this;obtain⟨k,w⟩:=e;cases k with
 |str a=>have z:decide (a=s)=true:=z;rw[pf z];exact beq_self_eq_true s
 |int a=>cases z
 |_=>cases z
theorem zht {x dx d:Addr}{kvs:List (Key×V)}{Q:VK}(h0:Z.fn[0]?=some (spLG Z.K CC))(ct:Crt Z.K CC H x dx d kvs es)(t:St2 Z.K H r h vs kvh ps es)(hd:h≠d)(e9:σ[9]?=some (some (.ref x)))(e3:σ[3]?=some (some (.ref h)))(q:∀H',Same H H'->Q (.bl true) H'):wE Z Ct.LG σ H Q:=by show wE Z (.cal 0 _) σ H Q;rw[z6i h0];exact⟨.ref x,e9,.ref h,e3,x,dx,d,kvs,es,h,kvh,rfl,ct,t.hh,t.rh,hd,t.en,q⟩
theorem zlg {a:W}{vr vn:V}{qs:List D}{c:D}{j:Nat}{B:Ad->Prop}{H1:Hp}{Q:VK}(h1:Z.fn[1]?=some (spRf Z.K))(ga:∀Q:VK,Q vr H1->wE Z a σ H Q)(ej:σ[j]?=some (some vn))(rr:Rep Z.K H1 B vr (.list qs))(rn:Rep Z.K H1 B vn c)(hi:imms qs=true)(hp:(qs.all isPr)=true)(hl:qs.length<1000)(hb:rfB qs c=true)(q:∀H',Same H1 H'->Q (.bl true) H'):
  wE Z (.cal 1 (.cons a (.cons (.raw j) .nil))) σ H Q:=by
 rw[z6i h1];exact ga _ ⟨vn,ej,vr,qs,vn,c,B,rfl,rr,rn,hi,hp,hl,hb,q⟩
abbrev oddD:List D:=[.none,.int 0,.bool true,.str "",.list [],.list [.str "a"],.tuple [.str "a"],.dict []]
theorem zij {Κ:List D}{Φ:List Fn}{ρ:Rho}{ns:List Str}(h:ρ[1]?=some (some (.od,.list (ns.map .str))))(hl:ns.length=10):∃g,evW Κ Φ (.tv (.bin .Add (.var 1) Ct.odd)) ρ=.ok (g,ns.map .str++oddD):=by
 have e1:evE Κ Φ (.var 1) ρ=.ok (if imm (.list (ns.map PyData.str))then .fr else rdG .od,.list (ns.map .str)):=by show rdS ρ[1]?=_;rw[h];rfl
 have e2:∃g,evE Κ Φ Ct.odd ρ=.ok (g,.list oddD):=⟨_,rfl⟩;obtain⟨g2,e2⟩:=e2;have e3:binD .Add (.list (ns.map PyData.str)) (.list oddD)=.ok (.list (ns.map .str++oddD)):=by show(if(ns.map PyData.str).length+oddD.length<=LIM then Res.ok _ else Res.no)=_;rw[if_pos (by rw[aw,hl];decide)]
 refine⟨gN (.list (ns.map PyData.str++oddD)) (gAll [(if imm (.list (ns.map PyData.str))then .fr else rdG .od,.list (ns.map .str)),(g2,.list oddD)]),?_⟩;show((evE Κ Φ (.var 1) ρ>>=fun x=>evE Κ Φ Ct.odd ρ>>=fun y=>binD .Add x.2 y.2>>=fun d=>Res.ok (gN d (gAll [x,y]),d))>>=fun x=>z5f x.2>>=fun xs=>Res.ok (x.1,xs))=_;rw[e1,Res.ok_bind,e2,Res.ok_bind,e3,Res.ok_bind,Res.ok_bind];rfl
theorem zaa {D0:Ends}{v0 vn:V}{a4 a5 a6 a7:Option V}{ns:List Str}{B:Ad->Prop}(h0:Z.fn[0]?=some (spLG Z.K CC))(h1:Z.fn[1]?=some (spRf Z.K))(hc:Z.cl[0]?=some (CC,z1u Z.K CC Z.mg))(t:St2 Z.K H r h vs kvh ps es)(rn:Rep Z.K H B vn (.list (ns.map .str)))(hns:ns.length=10)
  (q:∀H',Same H H'->D0.rt (.bl true) H'):wS Z Ct.law2 D0 [some v0,some vn,some (.ref r),some (.ref h),a4,a5,a6,a7,none,none,none] H:=by
 have hlen:=z0y t.af;have hL:es.length<=LIM:=by rw[hlen];have:=t.len;unfold LIM;simp;omega
 refine⟨[none,none,some (.od,.list ps),none,none,none,none,none,none,none,none],F0 H,(.fr,.list ps),z1b rfl fun i g d' e=>?_,?_,fun v8 H1 s1 r8=>?_⟩
 ·rcases i with _|_|_|_|_|_|_|_|_|_|_|i<;>cases e;exact⟨rfl,_,AnyB,rfl,t.rows⟩
 ·show Res.ok (gJ (.list ps) (if imms ps=true then .fr else _),PyData.list ps)=_;rw[if_pos t.im];rfl
 obtain⟨l,ws,rfl,hl,r8⟩:=r8;obtain⟨hl,hln⟩:H1 l=some (.lst ws)/\H l=none:=hl.elim id fun z=>z.2.elim;show wE Z (.mk 0 _) _ H1 _;rw[zgx hc];refine⟨.ref l,rfl,fun x dx hx hdx hne=>?_⟩;have sm:Same H1 (upd (upd H1 dx (.own x)) x (.ins CC dx [])):=fun b o e=>by rw[z01 (by rintro rfl;rw[hx]at e;cases e),z01 (by rintro rfl;rw[hdx]at e;cases e)];exact e
 have t1:=t.same s1;refine⟨x,dx,.ref l,ps,AnyB,rfl,z02,⟨l,ws,rfl,.inl ⟨sm _ _ hl,trivial⟩,Reps.immB ps t.im (r8.same sm fun _ z=>z)⟩,t.im,t.pr,by have:=t.len;omega,?_⟩;unfold Fnd;rw[t.af];intro H2 d kvs hd k2 ct;refine⟨rfl,?_⟩;have keep2:Same H1 H2:=fun b o e=>k2 b o (by rintro rfl;rw[hx]at e;cases e) (sm b o e);refine⟨.ref l,rfl,.inl ⟨rfl,_,.inl (.inl (keep2 _ _ hl))⟩,l,_,rfl,rfl,keep2 _ _ hl,?_⟩;generalize hH3:upd H2 l (.lst [])=H3;have s3:Same H H3:=fun b o e=>by rw[<-hH3,z01 (by rintro rfl;rw[hln]at e;cases e)];exact keep2 b o (s1 b o e)
 have hlx:x≠l:=by rintro rfl;have:=ct.ins;rw[keep2 _ _ hl]at this;cases this
 have hld:d≠l:=by rintro rfl;have:=ct.dic;rw[keep2 _ _ hl]at this;cases this
 have ct3:Crt Z.K CC H3 x dx d kvs es:=by rw[<-hH3];exact⟨by rw[z01 hlx];exact ct.ins,by rw[z01 hld];exact ct.dic,REs.keep (fun b o e z=>by rw[z01 (by rintro rfl;rw[keep2 _ _ hl]at e;cases e;exact z.elim id id)];exact e) (fun _ z=>z) _ ct.re⟩
 have hhd:h≠d:=by
  rintro rfl
  have:=sm _ _ (s1 _ _ t.hh);rw[hd]at this;cases this
 have t3:=t.same s3;refine zht (Q:=fun v H'=>∃k,TruV Z.K v H' k/\_) h0 ct3 t3 hhd rfl rfl fun H4 s4=>⟨true,rfl,?_⟩;refine iteF ?_;have t4:=t3.same s4;have ct4:=ct3.same s4;have s34:=s3.trans s4;obtain⟨g,ev⟩:=zij (Κ:=Z.Κ) (Φ:=Z.Φ) (ρ:=[none,some (.od,.list (ns.map .str)),none,none,none,none,none,none,none,none,none]) rfl hns;refine⟨_,F0 H4,_,z1b rfl fun i g d' e=>?_,ev,fun J B' H5 s5 hB wk=>?_⟩
 ·rcases i with _|_|_|_|_|_|_|_|_|_|_|i<;>cases e;exact⟨rfl,_,B,rfl,rn.same s34 fun _ z=>z⟩
 let ds:=ns.map PyData.str++oddD
 let W:Nat->Nat->L2.St->Hp->Prop:=fun i m σ' H'=>m=ds.length-i/\i<=ds.length/\σ'.length=11/\σ'[2]?=some (some (.ref r))/\σ'[3]?=some (some (.ref h))/\σ'[9]?=some (some (.ref x))/\Same H5 H'
 refine⟨W,⟨_,rfl,cj _,rfl,rfl,rfl,rfl,Same.refl _⟩,?_⟩
 rintro i m σ' H' ⟨rfl,hile,hsl,e2,e3,e9,sf⟩
 have kp:Kp B' H5 H':=fun b o e _=>sf b o e;have s46:=(s5.trans sf);by_cases hlt:i<ds.length
 ·refine .inr ⟨wk.go H' kp i hlt,W (i+1) (ds.length-(i+1)),fun σ2 H2 w=>⟨_,by omega,w⟩,fun y H6 hy=>?_⟩;obtain⟨s6,c,hcd,ry⟩:=wk.yld H' kp i y H6 hlt hy;refine⟨ai 11 none,F0 H6,(.od,c),[none,none,none,none,none,none,none,none,none,none,some (.od,c)],z1b (by rw[hsl];rfl) fun j g d' e=>?_,ry.old,rfl,fun σ2 F2 so2 kps=>?_⟩
  ·rw[bo]at e;split at e<;>cases e
  obtain⟨v,e10,rv⟩:=so2.sl 10 .od c rfl;have rv:Rep Z.K H6 AnyB v c:=Rep.weak (fun _ _=>trivial) rv;have f2:σ2[2]?=some (some (.ref r)):=(kps.rest 2 (by decide)).trans e2;have f3:σ2[3]?=some (some (.ref h)):=(kps.rest 3 (by decide)).trans e3;have f9:σ2[9]?=some (some (.ref x)):=(kps.rest 9 (by decide)).trans e9;have fl:σ2.length=11:=kps.len.trans hsl;have s56:=sf.trans s6;have t6:=t4.same (s5.trans s56);have nextN:∀H8,Same H6 H8->W (i+1) (ds.length-(i+1)) σ2 H8:=fun H8 s8=>⟨rfl,hlt,fl,f2,f3,f9,s56.trans s8⟩;obtain⟨ss,hss⟩:=keys_str (es:=es) fun e he=>by obtain⟨s,_,h1,_⟩:=t.en e he;exact⟨s,h1⟩
  have refuse:∀(Q:Bool->Hp->Prop) H8,Same H6 H8->rfB ps c=true->(∀H9,Same H6 H9->Q false H9)->wT Z (.not (.tr (.cal 1 (.cons (.raw 2) (.cons (.raw 10) .nil))))) σ2 H8 Q:=fun Q H8 s8 hb z=>by have t8:=t6.same s8;exact zlg (Q:=fun v H'=>∃k,TruV Z.K v H' k/\Q (!k) H') (vr:=.ref r) (H1:=H8) (B:=AnyB) h1 (fun Q z=>⟨.ref r,f2,z⟩) e10 t8.rows (rv.same s8 fun _ z=>z) t.im t.pr (by have:=t.len;omega) hb fun H9 s9=>⟨true,rfl,z H9 (s8.trans s9)⟩
  have rfb:stN es c=false->rfB ps c=true:=fun z=>by unfold rfB;rw[t.af];show(!stN es c)=true;rw[z];rfl
  have kind:shal 40 c=true\/c=.dict []:=by
   rcases et.mp (bu hcd)with hm|hm
   ·obtain⟨s,_,rfl⟩:=d6.mp hm;exact .inl rfl
   ·simp only[a9,df,or_false]at hm;rcases hm with rfl|rfl|rfl|rfl|rfl|rfl|rfl|rfl<;>first|exact .inl rfl|exact .inr rfl
  show wT Z (.tand _ _) σ2 H6 _;refine⟨v,e10,[none,none,none,some (.od,.dict es),none,none,none,none,none,none,none],F0 H6,(.fr,.list (es.map (·.1))),z1b (by rw[fl];rfl) fun j g d' e=>?_,?_,fun vk H7 s7 rk=>?_⟩
  ·rcases j with _|_|_|_|_|_|_|_|_|_|_|j<;>cases e;exact⟨rfl,_,AnyB,f3,t6.heads⟩
  ·show(if decide (es.length<=LIM)=true then Res.ok (G.fr,PyData.list (es.map (·.1)))else .no)=_;rw[if_pos (decide_eq_true hL)]
  rcases kind with hsh|rfl
  ·refine .inl ⟨AnyB,_,c,_,.bool (!(es.map (·.1)).any fun y=>eqD y c),rv.same s7 fun _ z=>z,rk,?_,fun w H8 s8 r8=>⟨_,r8,?_⟩⟩
   ·have e1:inD c (.list (es.map (·.1)))=.ok ((es.map (·.1)).any fun y=>eqD y c):=by
     show(if(shal 40 c&&z29 40 (es.map (·.1)))=true then _ else _)=_;rw[hsh,hss,z2k];rfl
    show((inD c (.list (es.map (·.1)))>>=fun b=>Res.ok (!b))>>=fun b=>Res.ok (PyData.bool b))=_;rw[e1];rfl
   ·cases hb:(es.map (·.1)).any fun y=>eqD y c with
    |true=>exact iteF (iteF (nextN H8 (s7.trans s8)))
    |false=>
     refine iteT (refuse _ H8 (s7.trans s8) (rfb ?_) fun H9 s9=>iteF (nextN H9 s9));unfold stN;cases c with
     |str s=>rw[zdy hb];rfl
     |_=>rfl
  ·obtain⟨a,kva,rfl,ha,_,_⟩:=rv;rw[hss]at rk;obtain⟨p,wsk,rfl,hp,rk⟩:=rk;have hp:H7 p=some (.lst wsk):=hp.elim (fun z=>z.1) fun z=>z.2.elim;rw[z4b rk]at hp;refine .inr ⟨a,kva,p,ss,rfl,rfl,s7 _ _ ha,hp,true,rfl,?_⟩;exact iteT (refuse _ H7 s7 (rfb rfl) fun H9 s9=>iteF (nextN H9 s9))
 ·refine .inl ⟨?_,?_⟩
  ·have :i=ds.length:=by omega
   subst this;exact wk.stop H' kp
  ·exact zht h0 (ct4.same s46) (t4.same s46) hhd e9 e3 fun H7 s7=>q H7 ((s34.trans s46).trans s7)
end
def z72 (es:Ents):Prop:=∀e∈es,∃s n,e.1=.str s/\n<=es.length/\endN es n s=true
section
variable {es:Ents}
theorem z2q {es fs:Ents}{k:D}{w:D}(h:z05 es k=some w):z05 (es++fs) k=some w:=by
 unfold z05 at *
 rw[oa];obtain⟨e,h1,h2⟩:=cf.mp h;rw[h1];exact congrArg some h2
theorem z83 {s:Str}{a:D}(h:(z05 es (.str s)).isSome=false):z05 (es++[(.str s,a)]) (.str s)=some a:=by
 unfold z05 at *
 rw[f8]at h;rw[oa]
 have:es.find? (fun e=>eqK e.1 (.str s))=none:=by
  cases z:es.find? (fun e=>eqK e.1 (.str s))with
  |none=>rfl
  |some e=>rw[z]at h;cases h
 rw[this];have e1:eqK (PyData.str s) (.str s)=true:=decide_eq_true rfl;show Option.map _ (Option.or none ([(PyData.str s,a)].find? _))=_;rw[Option.none_or,k9 (by exact e1)];rfl
theorem z3i {es fs:Ents}:∀{n:Nat} {s:Str},endN es n s=true->endN (es++fs) n s=true
 |0,s,h=>by
  rcases z21 h with⟨e,_⟩|⟨_,_,z,_⟩
  ·show(match z05 (es++fs) (.str s)with|some .none=>true|_=>false)=true;rw[z2q e]
  ·cases z
 |n+1,s,h=>by
  rcases z21 h with⟨e,_⟩|⟨a,m,z,e,h2,_⟩
  ·show(match z05 (es++fs) (.str s)with|some .none=>true|some (.str a)=>endN (es++fs) n a|_=>false)=true;rw[z2q e]
  ·cases z;show(match z05 (es++fs) (.str s)with|some .none=>true|some (.str a)=>endN (es++fs) n a|_=>false)=true;rw[z2q e];exact z3i h2
theorem z9z {n:Nat}{s:Str}(h:endN es n s=true):∃w,z05 es (.str s)=some w:=by rcases z21 h with⟨e,_⟩|⟨_,_,_,e,_⟩<;>exact⟨_,e⟩
theorem z72.ends (h:z72 es)(hl:es.length<=60):zad es:=fun e he=>by obtain⟨s,n,e1,hn,hen⟩:=h e he;refine⟨s,n,e1,by omega,?_,hen⟩;obtain⟨w,hw⟩:=z9z hen;unfold stN;rw[hw];rfl
theorem look_mem {s:Str}(h:(z05 es (.str s)).isSome=true):∃e∈es,e.1=.str s:=by
 unfold z05 at h;rw[f8,n9]at h;obtain⟨e,he,hk⟩:=h;refine⟨e,he,?_⟩;obtain⟨k,w⟩:=e;cases k with
 |str a=>have hk:decide (a=s)=true:=hk;exact congrArg _ (pf hk)
 |_=>cases hk
theorem z72.app (h:z72 es){s:Str}{a:D}(ho:okF es (.str s) a=true):z72 (es++[(.str s,a)]):=fun e he=>by
 unfold okF at ho;rw[aj,aj]at ho;obtain⟨⟨_,h1⟩,h2⟩:=ho;have h1:(z05 es (.str s)).isSome=false:=by simpa using h1
 rcases et.mp he with he2|he2
 ·obtain⟨t,n,e1,hn,hen⟩:=h e he2;exact⟨t,n,e1,by rw[ba];omega,z3i hen⟩
 ·rw[dm.mp he2];have dn:=z83 (a:=a) h1;rcases dh.mp h2 with h2|h2
  ·have ha:a=.none:=by cases a<;>first|(cases h2;done)|rfl
   subst ha;refine⟨s,0,rfl,cj _,?_⟩;show(match z05 (es++[(.str s,PyData.none)]) (.str s)with|some .none=>true|_=>false)=true;rw[dn]
  ·cases a with
   |str b=>have h2:(z05 es (.str b)).isSome=true:=h2;obtain⟨e2,m2,k2⟩:=look_mem h2;obtain⟨t,n,e1,hn,hen⟩:=h e2 m2;rw[k2]at e1;cases e1;refine⟨s,n+1,rfl,by rw[ba];simp;omega,?_⟩;show(match z05 (es++[(.str s,PyData.str b)]) (.str s)with|some .none=>true|some (.str a)=>endN (es++[(.str s,.str b)]) n a|_=>false)=true;rw[dn];exact z3i hen
   |_=>cases h2
theorem z1h:∀{ps:List D} {es0:Ents} {c a:D},z09 es0 ps=some es->z09 es0 (ps++[.tuple [c,a]])=if okF es c a=true then some (es++[(c,a)])else none
 | [],es0,c,a,e=>by cases e;rfl
 |p::ps,es0,c,a,e=>by
  unfold z09 at e;split at e
  ·rename_i c' a';split at e
   ·rename_i ho;show(if okF es0 c' a'=true then z09 (es0++[(c',a')]) (ps++[.tuple [c,a]])else none)=_;rw[if_pos ho];exact z1h e
   ·cases e
  ·cases e
end
section
variable {Κ:List D}{Φ:List Fn}{ρ:Rho}{ns:List Str}{c:Int}
theorem z4u {i:Nat}{d:D}(h:ρ[i]?=some (some (.od,d)))(hi:imm d=true):evE Κ Φ (.var i) ρ=.ok (.fr,d):=by show rdS ρ[i]?=_;rw[h];show Res.ok (if imm d then G.fr else rdG .od,d)=_;rw[hi];rfl
theorem zeb {i:Nat}{d:D}(h:ρ[i]?=some (some (.od,d))):∃g,evE Κ Φ (.var i) ρ=.ok (g,d):=by refine⟨if imm d then G.fr else rdG .od,?_⟩;show rdS ρ[i]?=_;rw[h];rfl
theorem zfs {k:Int}(hl:ns.length=10)(h1:0<=k)(h2:k<10):∃s,ixD (.list (ns.map .str)) (.int k)=.ok (.str s):=by
 have hk:k.toNat<ns.length:=by omega
 refine⟨ns[k.toNat],?_⟩;show Res.ofO (atI (ns.map PyData.str) k)=_;have:atI (ns.map PyData.str) k=some (.str ns[k.toNat]):=by unfold atI ixN;rw[if_pos h1,if_pos (by rw[aw];omega)];show(ns.map PyData.str)[k.toNat]?=_;rw[az,bh hk];rfl
 rw[this];rfl
theorem zg3 {b:C}{k:Int}(h1:ρ[1]?=some (some (.od,.list (ns.map .str))))(hl:ns.length=10)(hb:∃g,evE Κ Φ b ρ=.ok (g,.int k))(k1:0<=k)(k2:k<10):∃s,evE Κ Φ (.ix (.var 1) b) ρ=.ok (.fr,.str s):=by obtain⟨g,e1⟩:=zeb (Κ:=Κ) (Φ:=Φ) h1;obtain⟨g2,e2⟩:=hb;obtain⟨s,e3⟩:=zfs hl k1 k2;refine⟨s,?_⟩;show(evE Κ Φ (.var 1) ρ>>=fun x=>evE Κ Φ b ρ>>=fun y=>ixD x.2 y.2>>=fun d=>Res.ok (gJ d x.1,d))=_;rw[e1,Res.ok_bind,e2,Res.ok_bind,e3];rfl
theorem ev6 (h1:ρ[1]?=some (some (.od,.list (ns.map .str))))(hl:ns.length=10)(h5:ρ[5]?=some (some (.od,.int c))):∃s,evE Κ Φ (.ix (.var 1) (.bin .Mod (.var 5) (.int 10))) ρ=.ok (.fr,.str s):=by refine zg3 h1 hl ⟨.fr,?_⟩ (gr c (by decide)) (i7 c (by decide));show(evE Κ Φ (.var 5) ρ>>=fun x=>evE Κ Φ (.int 10) ρ>>=fun y=>binD .Mod x.2 y.2>>=fun d=>Res.ok (gN d (gAll [x,y]),d))=_;rw[z4u h5 rfl];rfl
theorem evH (h1:ρ[1]?=some (some (.od,.list (ns.map .str))))(hl:ns.length=10)(h5:ρ[5]?=some (some (.od,.int c))):∃s,evE Κ Φ Ct.nH ρ=.ok (.fr,.str s):=by refine zg3 h1 hl ⟨.fr,?_⟩ (gr (c/10) (by decide)) (i7 (c/10) (by decide));show((evE Κ Φ (.var 5) ρ>>=fun x=>evE Κ Φ (.int 10) ρ>>=fun y=>binD .FloorDiv x.2 y.2>>=fun d=>Res.ok (gN d (gAll [x,y]),d))>>=fun x=>evE Κ Φ (.int 10) ρ>>=fun y=>binD .Mod x.2 y.2>>=fun d=>Res.ok (gN d (gAll [x,y]),d))=_;rw[z4u h5 rfl];rfl
theorem ev7 (h1:ρ[1]?=some (some (.od,.list (ns.map .str))))(hl:ns.length=10)(h5:ρ[5]?=some (some (.od,.int c))):∃d,(d=.none\/∃s,d=.str s)/\evE Κ Φ (.ix (.lst (.cons .non (.cons Ct.nH (.cons Ct.nH .nil)))) (.bin .Mod (.bin .FloorDiv (.var 5) (.int 100)) (.int 3))) ρ=.ok (.fr,d):=by
 obtain⟨s,eh⟩:=evH (Κ:=Κ) (Φ:=Φ) h1 hl h5;have el:∃g,evE Κ Φ (.lst (.cons .non (.cons Ct.nH (.cons Ct.nH .nil)))) ρ=.ok (g,.list [.none,.str s,.str s]):=by refine⟨.fr,?_⟩;show((evE Κ Φ .non ρ>>=fun x=>(evE Κ Φ Ct.nH ρ>>=fun y=>(evE Κ Φ Ct.nH ρ>>=fun z=>Res.ok [z])>>=fun zs=>Res.ok (y::zs))>>=fun ys=>Res.ok (x::ys))>>=_)=_;rw[eh];rfl
 obtain⟨g,el⟩:=el;have ei:evE Κ Φ (.bin .Mod (.bin .FloorDiv (.var 5) (.int 100)) (.int 3)) ρ=.ok (.fr,.int (c/100%3)):=by show((evE Κ Φ (.var 5) ρ>>=fun x=>evE Κ Φ (.int 100) ρ>>=fun y=>binD .FloorDiv x.2 y.2>>=fun d=>Res.ok (gN d (gAll [x,y]),d))>>=fun x=>evE Κ Φ (.int 3) ρ>>=fun y=>binD .Mod x.2 y.2>>=fun d=>Res.ok (gN d (gAll [x,y]),d))=_;rw[z4u h5 rfl];rfl
 have k1:0<=c/100%3:=gr _ (by decide);have k2:c/100%3<3:=i7 _ (by decide);have kk:c/100%3=0\/c/100%3=1\/c/100%3=2:=by omega
 have run:∀d,ixD (.list [.none,.str s,.str s]) (.int (c/100%3))=.ok d->imm d=true->evE Κ Φ (.ix (.lst (.cons .non (.cons Ct.nH (.cons Ct.nH .nil)))) (.bin .Mod (.bin .FloorDiv (.var 5) (.int 100)) (.int 3))) ρ=.ok (.fr,d):=fun d e hi=>by show(evE Κ Φ (.lst _) ρ>>=fun x=>evE Κ Φ (.bin .Mod _ _) ρ>>=fun y=>ixD x.2 y.2>>=fun d=>Res.ok (gJ d x.1,d))=_;rw[el,Res.ok_bind,ei,Res.ok_bind,e];show Res.ok (gJ d g,d)=_;unfold gJ;rw[hi];rfl
 rcases kk with e|e|e
 ·exact⟨.none,.inl rfl,run _ (by rw[e];rfl) rfl⟩
 ·exact⟨.str s,.inr ⟨s,rfl⟩,run _ (by rw[e];rfl) rfl⟩
 ·exact⟨.str s,.inr ⟨s,rfl⟩,run _ (by rw[e];rfl) rfl⟩
theorem evT8 {es:Ents}{s:Str}{d:D}(h3:ρ[3]?=some (some (.od,.dict es)))(h6:ρ[6]?=some (some (.od,.str s)))(h7:ρ[7]?=some (some (.od,d)))(hd:d=.none\/∃t,d=.str t):
  evT Κ Φ (.or (.tv (.cmp .In (.var 6) (.var 3))) (.and (.tv (.isN true (.var 7))) (.tv (.cmp .NotIn (.var 7) (.var 3))))) ρ=.ok (!okF es (.str s) d):=by
 obtain⟨g,e3⟩:=zeb (Κ:=Κ) (Φ:=Φ) h3;have e6:=z4u (Κ:=Κ) (Φ:=Φ) h6 rfl;have e7:evE Κ Φ (.var 7) ρ=.ok (.fr,d):=z4u h7 (by rcases hd with rfl|⟨t,rfl⟩<;>rfl);have a1:evT Κ Φ (.tv (.cmp .In (.var 6) (.var 3))) ρ=.ok (z05 es (.str s)).isSome:=by show((evE Κ Φ (.var 6) ρ>>=fun x=>evE Κ Φ (.var 3) ρ>>=fun y=>cmpD .In x.2 y.2>>=fun b=>Res.ok (G.fr,PyData.bool b))>>=fun x=>z0p x.2)=_;rw[e6,Res.ok_bind,e3];rfl
 show(evT Κ Φ (.tv (.cmp .In (.var 6) (.var 3))) ρ>>=fun c=>if c then Res.ok true else evT Κ Φ (.tv (.isN true (.var 7))) ρ>>=fun c=>if c then evT Κ Φ (.tv (.cmp .NotIn (.var 7) (.var 3))) ρ else Res.ok false)=_;rw[a1,Res.ok_bind];unfold okF;cases hs:(z05 es (.str s)).isSome with
 |true=>rfl
 |false=>
  rcases hd with rfl|⟨t,rfl⟩
  ·show(evT Κ Φ (.tv (.isN true (.var 7))) ρ>>=fun c=>if c then evT Κ Φ (.tv (.cmp .NotIn (.var 7) (.var 3))) ρ else Res.ok false)=_;have a2:evT Κ Φ (.tv (.isN true (.var 7))) ρ=.ok false:=by show((evE Κ Φ (.var 7) ρ>>=fun x=>Res.ok (G.fr,PyData.bool (match x.2 with|.none=>!true|_=>true)))>>=fun x=>z0p x.2)=_;rw[e7];rfl
   rw[a2];rfl
  ·have a2:evT Κ Φ (.tv (.isN true (.var 7))) ρ=.ok true:=by
    show((evE Κ Φ (.var 7) ρ>>=fun x=>Res.ok (G.fr,PyData.bool (match x.2 with|.none=>!true|_=>true)))>>=fun x=>z0p x.2)=_;rw[e7];rfl
   have a3:evT Κ Φ (.tv (.cmp .NotIn (.var 7) (.var 3))) ρ=.ok (!(z05 es (.str t)).isSome):=by show((evE Κ Φ (.var 7) ρ>>=fun x=>evE Κ Φ (.var 3) ρ>>=fun y=>cmpD .NotIn x.2 y.2>>=fun b=>Res.ok (G.fr,PyData.bool b))>>=fun x=>z0p x.2)=_;rw[e7,Res.ok_bind,e3];rfl
   show(evT Κ Φ (.tv (.isN true (.var 7))) ρ>>=fun c=>if c then evT Κ Φ (.tv (.cmp .NotIn (.var 7) (.var 3))) ρ else Res.ok false)=_;rw[a2,Res.ok_bind,if_pos rfl,a3];rfl
end
abbrev Bs (r h:Addr):Ad->Prop:=fun a=>a≠some r/\a≠some h
structure Lp (K:W.Frag)(H:Hp)(r h:Addr)(v0 vn:V)(xs:List Int)(ns:List Str)(m:Nat)(vs:List V)(kvh:List (Key×V))(ps:List D)(es:Ents):Prop where
 hr:H r=some (.lst vs)
 rr:Reps K H NoB vs ps
 hh:H h=some (.dK kvh)
 rh:REs K H NoB kvh es
 im:imms ps=true
 pr:(ps.all isPr)=true
 len:ps.length<=m
 af:z09 [] ps=some es
 en:z72 es
 r0:Rep K H (Bs r h) v0 (.list (xs.map .int))
 rn:Rep K H (Bs r h) vn (.list (ns.map .str))
section
variable {K:W.Frag}{H H':Hp}{r h:Addr}{v0 vn:V}{xs:List Int}{ns:List Str}{m:Nat}{vs:List V}{kvh:List (Key×V)}{ps:List D}{es:Ents}
theorem Lp.same (t:Lp K H r h v0 vn xs ns m vs kvh ps es)(s:Same H H'):Lp K H' r h v0 vn xs ns m vs kvh ps es:=⟨s _ _ t.hr,t.rr.same s fun _ z=>z,s _ _ t.hh,t.rh.same s fun _ z=>z,t.im,t.pr,t.len,t.af,t.en,t.r0.same s fun _ z=>z,t.rn.same s fun _ z=>z⟩
theorem Lp.more (t:Lp K H r h v0 vn xs ns m vs kvh ps es):Lp K H r h v0 vn xs ns (m+1) vs kvh ps es:=⟨t.hr,t.rr,t.hh,t.rh,t.im,t.pr,Nat.le_succ_of_le t.len,t.af,t.en,t.r0,t.rn⟩
theorem Lp.rows (t:Lp K H r h v0 vn xs ns m vs kvh ps es):Rep K H AnyB (.ref r) (.list ps):=⟨r,vs,rfl,.inl ⟨t.hr,trivial⟩,t.rr.weak fun _ z=>z.elim⟩
theorem Lp.heads (t:Lp K H r h v0 vn xs ns m vs kvh ps es):Rep K H AnyB (.ref h) (.dict es):=⟨h,kvh,rfl,t.hh,trivial,t.rh.same (Same.refl _) fun _ z=>z.elim⟩
theorem Lp.fin (t:Lp K H r h v0 vn xs ns 60 vs kvh ps es):St2 K H r h vs kvh ps es:=⟨t.hr,t.rr,t.hh,t.rh,t.im,t.pr,t.len,t.af,t.en.ends (by rw[z0y t.af];simpa using t.len)⟩
end
section
variable {Z:Wc}{H:Hp}{CC:Addr}{r h:Addr}{v0 vn:V}{xs:List Int}{ns:List Str}{m:Nat}{vs:List V}{kvh:List (Key×V)}{ps:List D}{es:Ents}
theorem z6f {a b:List D}(h1:imms a=true)(h2:imms b=true):imms (a++b)=true:=by
 induction a with
 |nil=>exact h2
 |cons x a ih=>have h1:=aq.mp (show(imm x&&imms a)=true from h1);show(imm x&&imms (a++b))=true;rw[h1.1,ih h1.2];rfl
theorem zie {σ:L2.St}{a:W}{j:Nat}{Q:VK}(h1:Z.fn[1]?=some (spRf Z.K))(ga:wE Z a σ H fun vr H1=>∃vn,σ[j]?=some (some vn)/\spRf Z.K [vr,vn] H1 Q Z.E):wE Z (.cal 1 (.cons a (.cons (.raw j) .nil))) σ H Q:=by rw[z6i h1];exact ga
theorem ze0 {D0:Ends}{k:Int}{a5 a6 a7:Option V}(h1:Z.fn[1]?=some (spRf Z.K))(hns:ns.length=10)(hm:m<=60)(hk0:0<=k)(hk1:k<xs.length)
  (hM:∀ρ:Rho,ρ[0]?=some (some (.od,.list (xs.map .int)))->ρ[4]?=some (some (.od,.int k))->∃c,evE Z.Κ Z.Φ (.call 2 "_law_mix" (.cons (.ix (.var 0) (.var 4)) (.cons (.var 4) .nil))) ρ=.ok (.fr,.int c))
  (t:Lp Z.K H r h v0 vn xs ns m vs kvh ps es)
  (q:∀a5 a6 a7 H' vs' kvh' ps' es',(∀b o,b≠r->b≠h->H b=some o->H' b=some o)->Lp Z.K H' r h v0 vn xs ns (m+1) vs' kvh' ps' es'->D0.nx [some v0,some vn,some (.ref r),some (.ref h),some (.int k),a5,a6,a7,none,none,none] H'):
  wS Z Ct.laB D0 [some v0,some vn,some (.ref r),some (.ref h),some (.int k),a5,a6,a7,none,none,none] H:=by
 have big:ah>3000:=by rw[dq];decide
 have hrh:r≠h:=by rintro rfl;have:=t.hr;rw[t.hh]at this;cases this
 obtain⟨c,e5⟩:=hM [some (.od,.list (xs.map .int)),none,none,none,some (.od,.int k),none,none,none,none,none,none] rfl rfl;refine⟨_,F0 H,_,z1b rfl fun i g d' e=>?_,e5,fun v5 H1 s1 r5=>?_⟩
 ·rcases i with _|_|_|_|_|_|_|_|_|_|_|i<;>cases e
  ·exact⟨rfl,_,_,rfl,t.r0⟩
  ·exact⟨rfl,_,AnyB,rfl,rfl⟩
 cases r5;have t1:=t.same s1;obtain⟨s,e6⟩:=ev6 (Κ:=Z.Κ) (Φ:=Z.Φ) (c:=c) (ρ:=[none,some (.od,.list (ns.map .str)),none,none,none,some (.od,.int c),none,none,none,none,none]) rfl hns rfl;refine⟨_,F0 H1,_,z1b rfl fun i g d' e=>?_,e6,fun v6 H2 s2 r6=>?_⟩
 ·rcases i with _|_|_|_|_|_|_|_|_|_|_|i<;>cases e
  ·exact⟨rfl,_,_,rfl,t1.rn⟩
  ·exact⟨rfl,_,AnyB,rfl,rfl⟩
 obtain⟨rfl,hos⟩:=r6;have t2:=t1.same s2;obtain⟨d7,hd7,e7⟩:=ev7 (Κ:=Z.Κ) (Φ:=Z.Φ) (c:=c) (ρ:=[none,some (.od,.list (ns.map .str)),none,none,none,some (.od,.int c),none,none,none,none,none]) rfl hns rfl;refine⟨_,F0 H2,_,z1b rfl fun i g d' e=>?_,e7,fun v7 H3 s3 r7=>?_⟩
 ·rcases i with _|_|_|_|_|_|_|_|_|_|_|i<;>cases e
  ·exact⟨rfl,_,_,rfl,t2.rn⟩
  ·exact⟨rfl,_,AnyB,rfl,rfl⟩
 have t3:=t2.same s3;have hi7:imm d7=true:=by rcases hd7 with rfl|⟨_,rfl⟩<;>rfl
 have r7:Rep Z.K H3 NoB v7 d7:=Rep.immB d7 hi7 r7;have s03:Same H H3:=(s1.trans s2).trans s3;refine⟨[none,none,none,some (.od,.dict es),none,none,some (.od,.str s),some (.od,d7),none,none,none],F0 H3,_,z1b rfl fun i g d' e=>?_,evT8 rfl rfl rfl hd7,fun H4 s4=>?_⟩
 ·rcases i with _|_|_|_|_|_|_|_|_|_|_|i<;>cases e
  ·exact⟨rfl,_,_,rfl,t3.heads⟩
  ·exact⟨rfl,_,AnyB,rfl,rfl,hos⟩
  ·exact⟨rfl,_,_,rfl,r7⟩
 have t4:=t3.same s4;have s04:=s03.trans s4;have hl60:=t.len;have isz:[V.str s,v7].length<=ah:=by show 2<=ah;omega
 cases ho:okF es (.str s) d7 with
 |false=>
  refine iteT ?_;refine zie (Q:=fun v H'=>∃k,TruV Z.K v H' k/\_) h1 ?_;refine⟨.ref r,rfl,.str s,rfl,v7,rfl,isz,fun p hp=>⟨by show 1<=ah;omega,fun p2 hp2=>?_⟩⟩;generalize hH6:upd (upd H4 p (.tup [.str s,v7])) p2 (.lst [.ref p])=H6;have hpp:p2≠p:=by rintro rfl;rw[z02]at hp2;cases hp2
  have s46:Same H4 H6:=fun b o e=>by
   have hb:b≠p:=by rintro rfl;rw[hp]at e;cases e
   have hb2:b≠p2:=by rintro rfl;rw[z01 hb,e]at hp2;cases hp2
   rw[<-hH6,z01 hb2,z01 hb];exact e
  have tp:Rep Z.K H6 AnyB (.ref p) (.tuple [.str s,d7]):=⟨p,[.str s,v7],rfl,SqT.of (by rw[<-hH6,z01 (Ne.symm hpp),z02]),Reps.cons ⟨rfl,hos⟩ (Reps.cons (Rep.immB d7 hi7 (r7.same (s4.trans s46) fun _ z=>z)) rfl)⟩;have im2:imms (ps++[.tuple [.str s,d7]])=true:=z6f t.im (by show(imms [.str s,d7]&&true)=true;show((true&&(imm d7&&true))&&true)=true;rw[hi7];rfl);refine⟨AnyB,AnyB,.list ps,.list [.tuple [.str s,d7]],.list (ps++[.tuple [.str s,d7]]),(t4.same s46).rows,⟨p2,[.ref p],rfl,.inl ⟨by rw[<-hH6,z02],trivial⟩,Reps.cons tp rfl⟩,?_,fun w H7 s7 rw7 _=>?_⟩
  ·show(if ps.length+1<=LIM then Res.ok _ else Res.no)=_;rw[if_pos (by unfold LIM;omega)]
  ·refine⟨.str s,rfl,w,_,.str s,.str s,AnyB,rfl,Rep.weak (fun _ _=>trivial) rw7,⟨rfl,hos⟩,im2,?_,by rw[ba];show ps.length+1<1000;omega,?_,fun H8 s8=>⟨true,rfl,iteF ?_⟩⟩
   ·rw[List.all_append,t.pr];rfl
   ·unfold rfB;rw[z1h t.af,if_neg (by rw[ho];decide)]
   ·have s08:=((s04.trans s46).trans s7).trans s8;exact q _ _ _ H8 vs kvh ps es (fun b o _ _ e=>s08 b o e) (t.same s08).more
 |true=>
  refine iteF ?_;refine⟨.ref r,rfl,.inl ⟨rfl,_,.inl (.inl t4.hr)⟩,.str s,rfl,v7,rfl,isz,fun p hp=>?_⟩;have hpr:r≠p:=by rintro rfl;rw[t4.hr]at hp;cases hp
  have hph:h≠p:=by rintro rfl;rw[t4.hh]at hp;cases hp
  have hlv:vs.length=ps.length:=t.rr.length;refine⟨r,vs,.ref p,rfl,rfl,by rw[z01 hpr];exact t4.hr,by omega,?_⟩;refine⟨v7,rfl,.ref h,rfl,.str s,rfl,.inl ⟨h,_,rfl,.inl ⟨kvh,Sum.inr s,by rw[z01 (Ne.symm hrh),z01 hph];exact t4.hh,rfl,?_,rfl⟩,?_⟩⟩
  ·rw[REs.len t4.rh,z0y t.af];simp;omega
  generalize hH7:upd (upd (upd H4 p (.tup [.str s,v7])) r (.lst (vs++[.ref p]))) h (.dK (putK kvh (Sum.inr s) v7))=H7;have kp:∀b o,b≠r->b≠h->H4 b=some o->H7 b=some o:=fun b o h1 h2 e=>by rw[<-hH7,z01 h2,z01 h1,z01 (by rintro rfl;rw[hp]at e;cases e)];exact e
  have fx:∀a o,H4 a=some o->(NoB (some a)\/Fix o)->H7 a=some o:=fun a o e z=>kp a o (by rintro rfl;rw[t4.hr]at e;cases e;exact z.elim id id) (by rintro rfl;rw[t4.hh]at e;cases e;exact z.elim id id) e
  have fb:∀a o,H4 a=some o->(Bs r h (some a)\/Fix o)->H7 a=some o:=fun a o e z=>kp a o (by
   rintro rfl
   rcases z with z|z
   ·exact z.1 rfl
   ·rw[t4.hr]at e;cases e;exact z) (by
   rintro rfl
   rcases z with z|z
   ·exact z.2 rfl
   ·rw[t4.hh]at e;cases e;exact z) e
  have tp:Rep Z.K H7 NoB (.ref p) (.tuple [.str s,d7]):=⟨p,[.str s,v7],rfl,SqT.of (by rw[<-hH7,z01 (Ne.symm hph),z01 (Ne.symm hpr),z02]),Reps.cons ⟨rfl,hos⟩ (Reps.cons (Rep.keep fx (fun _ z=>z) d7 (r7.same s4 fun _ z=>z)) rfl)⟩;have hn:(z05 es (.str s)).isSome=false:=by unfold okF at ho;rw[aj,aj]at ho;simpa using ho.1.2
  refine q _ _ _ H7 (vs++[.ref p]) (putK kvh (Sum.inr s) v7) (ps++[.tuple [.str s,d7]]) (es++[(.str s,d7)]) (fun b o h1 h2 e=>kp b o h1 h2 (s04 b o e)) ⟨?_,?_,by rw[<-hH7,z02],?_,?_,?_,?_,?_,t.en.app ho,Rep.keep fb (fun _ z=>z) _ t4.r0,Rep.keep fb (fun _ z=>z) _ t4.rn⟩
  ·rw[<-hH7,z01 hrh,z02]
  ·exact Reps.append (Reps.keep fx (fun _ z=>z) _ t4.rr) (Reps.cons tp rfl)
  ·have z:=REs.put (k:=Sum.inr s) hos (r7.same s4 fun _ z=>z) t4.rh;rw[show kD (Sum.inr s)=PyData.str s from rfl,z6j hn]at z;exact REs.keep fx (fun _ z=>z) _ z
  ·exact z6f t.im (by show((true&&(imm d7&&true))&&true)=true;rw[hi7];rfl)
  ·rw[List.all_append,t.pr];rfl
  ·rw[ba];show ps.length+1<=m+1;omega
  ·rw[z1h t.af,if_pos ho]
end
section
variable {Κ:List D}{Φ:List Fn}{ρ:Rho}{xs:List Int}
theorem evR (h0:ρ[0]?=some (some (.od,.list (xs.map .int))))(hl:xs.length<=63):evW Κ Φ (.rng (.cons (.bi "min" (.cons (.bi "len" (.cons (.var 0) .nil)) (.cons (.int 60) .nil))) .nil)) ρ=.ok (.fr,(cr (min xs.length 60)).map fun(i:Nat)=>PyData.int i):=by
 obtain⟨g,e0⟩:=zeb (Κ:=Κ) (Φ:=Φ) h0;have el:evE Κ Φ (.bi "len" (.cons (.var 0) .nil)) ρ=.ok (.fr,.int xs.length):=by show((evE Κ Φ (.var 0) ρ>>=fun x=>Res.ok [x])>>=fun ys=>biD "len" (ys.map (·.2))>>=fun d=>Res.ok (gJ d .al,d))=_;rw[e0];show Res.ok (G.fr,PyData.int ((xs.map PyData.int).length:Nat))=_;rw[aw]
 have em:evE Κ Φ (.bi "min" (.cons (.bi "len" (.cons (.var 0) .nil)) (.cons (.int 60) .nil))) ρ=.ok (.fr,.int (min xs.length 60:Nat)):=by show((evE Κ Φ (.bi "len" (.cons (.var 0) .nil)) ρ>>=fun x=>Res.ok [x,(.fr,.int 60)])>>=fun ys=>biD "min" (ys.map (·.2))>>=fun d=>Res.ok (gJ d .al,d))=_;rw[el];show Res.ok (G.fr,PyData.int (min (xs.length:Int) 60))=_;rw[show min (xs.length:Int) 60=((min xs.length 60:Nat):Int) by omega]
 show((evE Κ Φ (.bi "min" _) ρ>>=fun x=>Res.ok [x])>>=fun ys=>rngD (ys.map (·.2))>>=fun xs=>Res.ok (G.fr,xs))=_;rw[em];show((if((min xs.length 60:Nat):Int)<=LIM/\-LIM<=((min xs.length 60:Nat):Int)then Res.ok ((cr ((min xs.length 60:Nat):Int).toNat).map fun(i:Nat)=>PyData.int i)else Res.no)>>=fun xs=>Res.ok (G.fr,xs))=_;rw[if_pos (by unfold LIM;omega),Int.toNat_natCast];rfl
end
section
variable {Z:Wc}{H:Hp}{CC:Addr}{v0:V}{xs:List Int}
theorem zfl {σ σ2:L2.St}{b0 b1 b2 b3 b4 b5 b6 b7 b8 b9 b10:Option V}(e:σ=[b0,b1,b2,b3,b4,b5,b6,b7,b8,b9,b10])(hl:σ2.length=σ.length)(hr:∀j,j∉ [4]->σ2[j]?=σ[j]?):∃a,σ2=[b0,b1,b2,b3,a,b5,b6,b7,b8,b9,b10]:=by
 subst e;rcases σ2 with _|⟨c0,_|⟨c1,_|⟨c2,_|⟨c3,_|⟨c4,_|⟨c5,_|⟨c6,_|⟨c7,_|⟨c8,_|⟨c9,_|⟨c10,_|⟨c11,σ2⟩⟩⟩⟩⟩⟩⟩⟩⟩⟩⟩⟩<;>try (cases hl;done)
 have h0:=Option.some.inj (hr 0 (by decide));have h1:=Option.some.inj (hr 1 (by decide));have h2:=Option.some.inj (hr 2 (by decide));have h3:=Option.some.inj (hr 3 (by decide));have h5:=Option.some.inj (hr 5 (by decide));have h6:=Option.some.inj (hr 6 (by decide));have h7:=Option.some.inj (hr 7 (by decide));have h8:=Option.some.inj (hr 8 (by decide));have h9:=Option.some.inj (hr 9 (by decide));have h10:=Option.some.inj (hr 10 (by decide));exact⟨c4,by rw[h0,h1,h2,h3,h5,h6,h7,h8,h9,h10]⟩
theorem zdu {D0:Ends}{B:Ad->Prop}(h0:Z.fn[0]?=some (spLG Z.K CC))(h1:Z.fn[1]?=some (spRf Z.K))(hc:Z.cl[0]?=some (CC,z1u Z.K CC Z.mg))(hl:xs.length<=63)
  (hN:∀ρ:Rho,ρ[0]?=some (some (.od,.list (xs.map .int)))->∃(g:G) (ns:List Str),evE Z.Κ Z.Φ (.call 3 "_law_names" (.cons (.call 4 "_law_cell_at" (.cons (.var 0) (.cons (.int 0) .nil))) (.cons (.int 10) .nil))) ρ=.ok (g,.list (ns.map PyData.str))/\ns.length=10)
  (hM:∀(ρ:Rho) (k:Int),0<=k->k<xs.length->ρ[0]?=some (some (.od,.list (xs.map .int)))->ρ[4]?=some (some (.od,.int k))->∃c,evE Z.Κ Z.Φ (.call 2 "_law_mix" (.cons (.ix (.var 0) (.var 4)) (.cons (.var 4) .nil))) ρ=.ok (.fr,.int c))
  (r0:Rep Z.K H B v0 (.list (xs.map .int))) (q:∀H',Same H H'->D0.rt (.bl true) H'):wS Z Ct.law D0 [some v0,none,none,none,none,none,none,none,none,none,none] H:=by
 obtain⟨g,ns,e1,hns⟩:=hN [some (.od,.list (xs.map .int)),none,none,none,none,none,none,none,none,none,none] rfl;refine⟨_,F0 H,_,z1b rfl fun i g d' e=>?_,e1,fun vn H1 s1 rn=>?_⟩
 ·rcases i with _|_|_|_|_|_|_|_|_|_|_|i<;>cases e;exact⟨rfl,_,_,rfl,r0⟩
 refine⟨cj _,fun r hr=>?_⟩;refine fun h hh=>?_;have hrh:r≠h:=by rintro rfl;rw[z02]at hh;cases hh
 have hh1:H1 h=none:=by rw[z01 (Ne.symm hrh)]at hh;exact hh
 generalize hH3:upd (upd H1 r (.lst [])) h (.dK [])=H3;have s13:Same H1 H3:=fun b o e=>by rw[<-hH3,z01 (by rintro rfl;rw[hh1]at e;cases e),z01 (by rintro rfl;rw[hr]at e;cases e)];exact e
 have hr3:H3 r=some (.lst []):=by rw[<-hH3,z01 hrh,z02]
 have hh3:H3 h=some (.dK []):=by rw[<-hH3,z02]
 have old:∀{v:V} {dd:D} {Bx:Ad->Prop},Rep Z.K H1 Bx v dd->Rep Z.K H3 (Bs r h) v dd:=fun{v dd Bx} rx=>(Rep.there _ rx).same s13 fun a z=>by
  cases a with
  |none=>refine⟨fun z=>?_,fun z=>?_⟩<;>cases z
  |some a=>
   refine⟨fun e9=>?_,fun e9=>?_⟩
   ·cases e9;exact z.2 hr
   ·cases e9;exact z.2 hh1
 have t3:Lp Z.K H3 r h v0 vn xs ns 0 [] [] [] []:=⟨hr3,rfl,hh3,rfl,rfl,rfl,ak _,rfl,(fun e he=>by cases he),old (r0.same s1 fun _ z=>z),old rn⟩;refine⟨[some (.od,.list (xs.map .int)),none,none,none,none,none,none,none,none,none,none],F0 H3,_,z1b rfl fun i g d' e=>?_,evR rfl hl,fun J B' H4 s4 hB wk=>?_⟩
 ·rcases i with _|_|_|_|_|_|_|_|_|_|_|i<;>cases e;exact⟨rfl,_,_,rfl,t3.r0⟩
 let ds:=(cr (min xs.length 60)).map fun(i:Nat)=>PyData.int i
 have hds:ds.length=min xs.length 60:=by show(jg _ _).length=_;rw[aw,jf]
 let W:Nat->Nat->L2.St->Hp->Prop:=fun i m σ' H'=>m=ds.length-i/\i<=ds.length/\(∃a4 a5 a6 a7,σ'=[some v0,some vn,some (.ref r),some (.ref h),a4,a5,a6,a7,none,none,none])/\(∀b o,b≠r->b≠h->H4 b=some o->H' b=some o)/\∃vs kvh ps es,Lp Z.K H' r h v0 vn xs ns i vs kvh ps es
 refine⟨W,⟨_,rfl,cj _,⟨none,none,none,none,rfl⟩,fun _ _ _ _ e=>e,[],[],[],[],t3.same s4⟩,?_⟩
 rintro i m σ' H' ⟨rfl,hile,⟨a4,a5,a6,a7,rfl⟩,fr,vs,kvh,ps,es,t⟩
 have kp:Kp B' H4 H':=fun b o e z=>fr b o (by
  rintro rfl
  rcases z with z|z
  ·have:=(hB _ z).1;have:H3 b=none:=this;rw[hr3]at this;cases this
  ·have:=s4 _ _ hr3;rw[e]at this;cases this;exact z) (by
  rintro rfl
  rcases z with z|z
  ·have:=(hB _ z).1;have:H3 b=none:=this;rw[hh3]at this;cases this
  ·have:=s4 _ _ hh3;rw[e]at this;cases this;exact z) e
 by_cases hlt:i<ds.length
 ·refine .inr ⟨wk.go H' kp i hlt,W (i+1) (ds.length-(i+1)),fun σ2 H2 w=>⟨_,by omega,w⟩,fun y H6 hy=>?_⟩;obtain⟨s6,c,hcd,ry⟩:=wk.yld H' kp i y H6 hlt hy
  have hc:c=.int i:=by
   have hcd:ds[i]?=some c:=hcd;have:ds[i]?=some (.int (i:Nat)):=by show(jg _ _)[i]?=_;rw[az,mf (by rw[<-hds];exact hlt)];rfl
   rw[this]at hcd;cases hcd;rfl
  subst hc;refine⟨ai 11 none,F0 H6,(.od,.int i),[none,none,none,none,some (.od,.int i),none,none,none,none,none,none],z1b rfl fun j g d' e=>?_,ry.old,rfl,fun σ2 F2 so2 kps=>?_⟩
  ·rw[bo]at e;split at e<;>cases e
  obtain⟨v,e4,rv⟩:=so2.sl 4 .od (.int i) rfl;have rv:v=.int i:=rv;subst rv;obtain⟨a,rfl⟩:=zfl rfl kps.len kps.rest;have e4:a=some (.int i):=Option.some.inj e4;subst e4;refine ze0 h1 hns (by omega) (m4 i) (by omega) (fun ρ=>hM ρ i (m4 i) (by omega)) (t.same s6) fun a5 a6 a7 H7 vs' kvh' ps' es' k7 t7=>?_;exact⟨rfl,hlt,⟨_,_,_,_,rfl⟩,fun b o h1 h2 e=>k7 b o h1 h2 (s6 b o (fr b o h1 h2 e)),vs',kvh',ps',es',t7⟩
 ·refine .inl ⟨?_,?_⟩
  ·have :i=ds.length:=by omega
   subst this;exact wk.stop H' kp
  ·have t60:Lp Z.K H' r h v0 vn xs ns 60 vs kvh ps es:=⟨t.hr,t.rr,t.hh,t.rh,t.im,t.pr,by have :=t.len;omega,t.af,t.en,t.r0,t.rn⟩;refine zaa h0 h1 hc t60.fin t.rn hns fun H8 s8=>q H8 fun b o e=>s8 b o (fr b o ?_ ?_ (s4 b o (s13 b o (s1 b o e))))
   ·rintro rfl;rw[s1.none hr]at e;cases e
   ·rintro rfl;rw[s1.none hh1]at e;cases e
end
structure CRow where
 c:Str
 f:List Str
 ms:List (Str×Stmt)
def km1 (K:W.Frag)(C:Addr)(c:Str)(m:Str×Stmt):Option (cu×Bool):=match W.findIn K (.ref C) m.1 with
 |some (some (.ref p))=>(match K.lookup p with
  |some ⟨_,_,.func fd,_⟩=>some (fd,W.codeIn K fd.code (c++"."++m.1)&&W.keepIn K (.ref p)&&W.isFn K (.ref p))
  |_=>none)
 |_=>none
def km2 (c:Str)(m:Str×Stmt)(x:cu×Bool):cu×Bool:=(W.fnOf m.1 (c++"."++m.1) (z0s m.2) (z06 m.2) (z03 m.2) .none x.1.kwdefaults x.1.doc x.1.pyModule x.1.annotations x.1.code x.1.closureTuple,true)
def kc1 (K:W.Frag)(r:CRow):Option (List Bool×Option (Option Value)×List (Option (Option Value))×List Bool×List (Option (cu×Bool))):=match W.nsIn K bc r.c with
 |some (some (.ref C))=>some ([W.plainGet K C Str.empty,W.hasDictIn K C,W.plainOver K C,W.makesIn K C,W.keepIn K (.ref C)],W.findIn K (.ref C) "__setattr__",r.f.map (fun f=>W.findIn K (.ref C) f),r.ms.map (fun m=>(km1 K C r.c m).isSome),r.ms.map fun m=>km1 K C r.c m)
 |_=>none
def kc2 (K:W.Frag)(r:CRow):Option (List Bool×Option (Option Value)×List (Option (Option Value))×List Bool×List (Option (cu×Bool))):=match W.nsIn K bc r.c with
 |some (some (.ref C))=>some ([true,true,true,true,true],some (some (.builtin "object.__setattr__")),r.f.map (fun _=>some none),r.ms.map (fun _=>true),r.ms.map fun m=>(km1 K C r.c m).map (km2 r.c m))
 |_=>none
def KCq (K:dz->W.Frag)(r:CRow):Prop:=∀P,((kc1 (K P) r).isSome,kc1 (K P) r)=(true,kc2 (K P) r)
theorem KCq_r:KCq=KCq:=rfl
structure ClsAt (K:W.Frag)(r:CRow)(C:Addr):Prop where
 ns:W.nsIn K bc r.c=some (some (.ref C))
 cls:Cls K C
 na:∀f∈r.f,z26 K C f
 mks:W.makesIn K C=true
 kp:W.keepIn K (.ref C)=true
 ms:∀m∈r.ms,∃f fd,Fun K m.1 (r.c++"."++m.1) m.2 f fd/\Meth K C m.1 f
theorem zhf {K:W.Frag}{C:Addr}{c:Str}{m:Str×Stmt}(h:(km1 K C c m).isSome=true)(e:km1 K C c m=(km1 K C c m).map (km2 c m)):∃f fd,Fun K m.1 (c++"."++m.1) m.2 f fd/\Meth K C m.1 f:=by
 cases z:km1 K C c m with
 |none=>rw[z]at h;cases h
 |some x=>
  rw[z]at e;have e:x=km2 c m x:=Option.some.inj e;unfold km1 at z;split at z
  ·rename_i f hf;split at z
   ·rename_i oc od fd sl hl;have z:=Option.some.inj z;have z1:fd=x.1:=congrArg n8 z;have z2:(W.codeIn K fd.code (c++"."++m.1)&&W.keepIn K (.ref f)&&W.isFn K (.ref f))=x.2:=congrArg pb z;have e1:x.1=(km2 c m x).1:=congrArg n8 e;have e2:x.2=true:=congrArg pb e;rw[e2]at z2;obtain⟨z3,z4⟩:=aq.mp z2;obtain⟨z3,z5⟩:=aq.mp z3;subst z1;exact⟨f,x.1,⟨⟨oc,od,x.1.kwdefaults,x.1.doc,x.1.pyModule,x.1.annotations,x.1.code,x.1.closureTuple,sl,e1,hl,z3⟩,z5⟩,⟨hf,z4,z5⟩⟩
   ·cases z
  ·cases z
theorem zim {K:dz->W.Frag}{r:CRow}(h:KCq K r)(P:dz):∃C,ClsAt (K P) r C:=by
 obtain⟨h1,h2⟩:=Prod.mk.inj (h P);unfold kc1 kc2 at h2;unfold kc1 at h1;split at h2
 ·rename_i C hC;obtain⟨a1,a2⟩:=Prod.mk.inj (Option.some.inj h2);obtain⟨a2,a3⟩:=Prod.mk.inj a2;obtain⟨a3,a4⟩:=Prod.mk.inj a3;obtain⟨a4,a5⟩:=Prod.mk.inj a4;obtain⟨b1,a1⟩:=List.cons.inj a1;obtain⟨b2,a1⟩:=List.cons.inj a1;obtain⟨b3,a1⟩:=List.cons.inj a1;obtain⟨b4,a1⟩:=List.cons.inj a1;obtain⟨b5,_⟩:=List.cons.inj a1;exact⟨C,hC,⟨b1,b2,b3,a2⟩,fun f hf=>di.mp a3 f hf,b4,b5,fun m hm=>zhf (di.mp a4 m hm) (di.mp a5 m hm)⟩
 ·rename_i hn;split at h1
  ·rename_i C hC;exact(hn C hC).elim
  ·cases h1
end Mi
name_quick tkcq for Mi.KCq by Mi.KCq_r
namespace Mk
open PySem Mi
def S_z0:S:=(.seq (.ifS (.tv (.cmp .Lt (.var 1) (.bi "len" (.cons (.var 0) .nil)))) (.seq (.ret (.ix (.var 0) (.var 1))) .nil) .nil) (.seq (.ret (.int 0)) .nil))
def F_z0:Fn:=runD [] [] 2 S_z0
def S_z1:S:=(.seq (.asg (.nm 2) (.bin .Mod (.bin .Mult (.bin .Add (.bin .Add (.bin .Add (.bin .Mod (.var 0) (.int 2147483647)) (.bin .Mult (.bin .Mult (.int 7919) (.var 1)) (.var 1))) (.var 1)) (.int 1)) (.int 48271)) (.int 2147483629))) (.seq (.ret (.bin .Mod (.bin .Mult (.var 2) (.var 2)) (.int 2147483587))) .nil))
def F_z1:Fn:=runD [] [] 3 S_z1
def S_z2:S:=(.seq (.asg (.nm 2) (.str "abcdefghijklmnopqrstuvwxyz"))
 (.seq (.asg (.nm 3) (.mt "join" (.str "") (.cons (.comp 1 [2,0] ["_law_k","_law_letters","_law_cell"] (.nm 0) (.rng (.cons (.bin .Mod (.call 0 "_law_mix" (.cons (.var 0) (.cons (.int 29) .nil))) (.int 10)) .nil)) .nil (.ix (.var 1) (.bin .Mod (.call 0 "_law_mix" (.cons (.var 2) (.cons (.bin .Add (.int 30) (.var 0)) .nil))) (.int 26)))) .nil)))
 (.seq (.asg (.nm 4) (.bin .Mod (.call 0 "_law_mix" (.cons (.var 0) (.cons (.int 28) .nil))) (.bin .Add (.bi "len" (.cons (.var 3) .nil)) (.int 1))))
 (.seq (.asg (.nm 5) (.lst (.cons (.str "j") (.cons (.str "q") (.cons (.str "v") (.cons (.str "x") (.cons (.str "z") (.cons (.str "jz") (.cons (.str "qz") (.cons (.str "vz") (.cons (.str "xz") (.cons (.str "zj") .nil))))))))))))
 (.seq (.ret (.comp 1 [3,5,4,0] ["_law_k","_law_base","_law_signs","_law_at","_law_cell"] (.nm 0) (.rng (.cons (.var 1) .nil)) .nil (.bin .Add (.bin .Add (.sl (.var 1) .nil (.tv (.var 3))) (.ix (.var 2) (.bin .Mod (.bin .Add (.var 0) (.var 4)) (.int 10)))) (.sl (.var 1) (.tv (.var 3)) .nil))))
 .nil)))))
def F_z2:Fn:=runD [] [F_z1] 6 S_z2
def Sb:Nat->S
 |0=>.nil
 |n+1=>.seq .bad (Sb n)
def z32:Fn:=runD [] [] 5 (Sb 3)
def z5l:Fn:=runD [] [] 3 (Sb 3)
def z23:Fn:=runD [] [] 4 (Sb 2)
def zhv:Fn:=runD [] [F_z1,F_z1,F_z1,F_z2,F_z0] 11 (Sb 10)
theorem zal (c:Int){k:Int}(h0:0<=k)(h1:k<=100):∃m,0<=m/\F_z1 [.int c,.int k]=.ok (.fr,.int m):=by
 have hk:0<=k*k/\k*k<=10000:=⟨Int.mul_nonneg h0 h0,by have:=Int.mul_le_mul h1 h1 h0 (by decide);omega⟩;generalize ha:(c%2147483647+7919*k*k+k+1)*48271%2147483629=a;have hp:(0:Int)<=a/\a<2147483629:=by rw[<-ha];exact⟨gr _ (by decide),i7 _ (by decide)⟩
 refine⟨a*a%2147483587,gr _ (by decide),z6h ?_⟩;unfold S_z1;refine z8a (z5m (d:=.int a) (by rw[<-ha];exact z17 (z17 (z17 (z17 (z17 (z17 (z0o rfl) z1n.e (z52 (by decide)) rfl).e (z17 (z17 z1n.e (z0o rfl) (zfq (by decide)) rfl).e (z0o rfl) (zg4 ⟨by omega,by omega⟩) rfl).e rfl rfl).e (z0o rfl) rfl rfl).e z1n.e rfl rfl).e z1n.e (zg4 (by decide)) rfl).e z1n.e (z52 (by decide)) rfl)) ?_;exact z46 (z8r (z17 (z17 (z0o rfl) (z0o rfl) (zfq ⟨by omega,by omega⟩) rfl).e z1n.e (z52 (by decide)) rfl))
theorem zh2 (xs:List Int)(hl:xs.length<=63):∃v,F_z0 [.list (xs.map .int),.int 0]=.ok (.fr,.int v):=by
 have hc:Tt [] [] (.tv (.cmp .Lt (.var 1) (.bi "len" (.cons (.var 0) .nil)))) [some (.od,.list (xs.map .int)),some (.od,.int 0)] (decide ((0:Int)<xs.length)):=t_tv (zmf (z0o rfl) (v_bi (d:=.int xs.length) (z0g (z0o rfl) z1l) (by show Res.ok (PyData.int ((xs.map PyData.int).length:Nat))=_;rw[aw]) rfl).e rfl).e rfl;cases hk:decide ((0:Int)<xs.length)with
 |true=>
  have h1:=pf hk;cases xs with
  |nil=>cases hk
  |cons x xs=>exact⟨x,z6h (zf4 hc hk (z46 (z8r (v_ix (z0o rfl) (z0o rfl) (by show Res.ofO (atI (PyData.int x::xs.map .int) 0)=_;unfold atI ixN;rw[if_pos (by decide),if_pos (by simp)];rfl) rfl))))⟩
 |false=>exact⟨0,z6h (zfa hc hk (z46 (z8r z1n)))⟩
theorem zcz (c:Int):∃ns:List Str,ns.length=10/\F_z2 [.int c,.int 10]=.ok (.fr,.list (ns.map .str)):=by
 suffices h:∃ns:List Str,ns.length=10/\evS [] [F_z1] S_z2 [some (.od,.int c),some (.od,.int 10),none,none,none,none]=.ok (.rt .fr (.list (ns.map .str))) by obtain⟨ns,h1,h2⟩:=h;exact⟨ns,h1,z6h h2⟩
 let Q:Res Out->Prop:=fun r=>∃ns:List Str,ns.length=10/\r=.ok (.rt .fr (.list (ns.map .str)))
 show Q _;unfold S_z2;obtain⟨m1,p1,x1⟩:=zal c (k:=29) (by decide) (by decide);obtain⟨m2,p2,x2⟩:=zal c (k:=28) (by decide) (by decide);have hm:∀i:Nat,i<10->∃m,0<=m/\F_z1 [.int c,.int (30+i)]=.ok (.fr,.int m):=fun i hi=>zal c (by omega) (by omega);refine q_ok (z5m z2b) ?_;have n0:0<=m1%10:=by omega
 have n1:m1%10<10:=by omega
 let f:Nat->Int:=fun i=>if h:i<10 then(hm i h).choose else 0
 have hf:∀i,i<10->0<=f i/\F_z1 [.int c,.int (30+i)]=.ok (.fr,.int (f i)):=fun i hi=>by show 0<=(if h:i<10 then(hm i h).choose else 0)/\F_z1 _=.ok (.fr,.int (if h:i<10 then(hm i h).choose else 0));rw[dif_pos hi];exact(hm i hi).choose_spec
 have ec:=zcd (Κ:=[]) (Φ:=[F_z1]) (ρ:=[some (.od,.int c),some (.od,.int 10),some (.al,.str "abcdefghijklmnopqrstuvwxyz"),none,none,none]) (nt:=1) (js:=[2,0]) (N':=["_law_k","_law_letters","_law_cell"]) (tg:=.nm 0) (it:=.rng (.cons (.bin .Mod (.call 0 "_law_mix" (.cons (.var 0) (.cons (.int 29) .nil))) (.int 10)) .nil)) (cond:=.nil) (elt:=.ix (.var 1) (.bin .Mod (.call 0 "_law_mix" (.cons (.var 2) (.cons (.bin .Add (.int 30) (.var 0)) .nil))) (.int 26))) (m:=fun i:Nat=>.int i) (xs:=cr (m1%10).toNat) (fun _=>true) (fun i=>.str (chr "abcdefghijklmnopqrstuvwxyz" (f i%26)))
  (zj1 (z0g (z17 (z4l (z0g (z0o rfl) (z0g z1n.e z1l)) rfl x1 rfl).e z1n.e (z52 (by decide)) rfl).e z1l) (zh1 n0 (by omega))) rfl (fun i=>[some (.al,.int i),some (.al,.str "abcdefghijklmnopqrstuvwxyz"),some (.od,.int c)]) (fun _ _=>rfl) (fun _ _=>rfl) fun i hi _=>by
   have hi:i<10:=by have:=List.mem_range.mp hi;omega
   obtain⟨g0,g1⟩:=hf i hi;exact v_ix (z0o rfl) (z17 (z4l (z0g (z0o rfl) (z0g (z17 z1n.e (z0o rfl) rfl rfl).e z1l)) rfl g1 rfl).e z1n.e (z52 (by decide)) rfl).e (z9t (by omega) (by show f i%26<(26:Nat);omega) (by decide)) rfl
 let ss:List Str:=(cr (m1%10).toNat).map fun i=>chr "abcdefghijklmnopqrstuvwxyz" (f i%26)
 have hss:(((cr (m1%10).toNat).filter fun _=>true).map fun i=>PyData.str (chr "abcdefghijklmnopqrstuvwxyz" (f i%26)))=ss.map .str:=by rw[mi.mpr fun _ _=>rfl];show _=jg _ (jg _ _);rw[lb];rfl
 rw[hss]at ec;have h1:∀s∈ss,s.length=1:=fun s hs=>by obtain⟨i,_,rfl⟩:=d6.mp hs;rfl
 have hsl:ss.length=(m1%10).toNat:=by show(jg _ _).length=_;rw[aw,jf]
 have hB:=z4v ss h1;generalize hb:z3h "" ss=B at hB;refine q_ok (z5m (d:=.str B) (by rw[<-hb];exact v_mt z2b.e (z0g (Ev.of ec) z1l) (zik h1 (by omega)) rfl)) ?_;have hA0:0<=m2%((B.length:Int)+1):=gr _ (by omega);refine q_ok (z5m (d:=.int (m2%((B.length:Int)+1))) (z17 (z4l (z0g (z0o rfl) (z0g z1n.e z1l)) rfl x2 rfl).e (z17 (v_bi (d:=.int B.length) (z0g (z0o rfl) z1l) (by show(if B.length<=LIM then Res.ok (PyData.int B.length)else Res.no)=_;rw[if_pos (by unfold LIM;omega)]) rfl).e z1n.e rfl rfl).e (z52 (by omega)) rfl)) ?_;generalize m2%((B.length:Int)+1)=a at hA0
 let sg:List Str:=["j","q","v","x","z","jz","qz","vz","xz","zj"]
 refine q_ok (zh0 (xs:=sg.map .str) (zkd (z13 z2b (z13 z2b (z13 z2b (z13 z2b (z13 z2b (z13 z2b (z13 z2b (z13 z2b (z13 z2b (z13 z2b zgm))))))))))) rfl) ?_;have sgl:∀k:Nat,(sg.getD k ⟨#[]⟩).length<=2:=fun k=>by rcases k with _|_|_|_|_|_|_|_|_|_|k<;>first|decide|exact cj _
 let w:Nat->Str:=fun i=>z1a B none (some a)++sg.getD (((i:Int)+c)%10).toNat ⟨#[]⟩++z1a B (some a) none
 have er:=zcd (Κ:=[]) (Φ:=[F_z1]) (ρ:=[some (.od,.int c),some (.od,.int 10),some (.al,.str "abcdefghijklmnopqrstuvwxyz"),some (.al,.str B),some (.al,.int a),some (.fr,.list (sg.map .str))]) (nt:=1) (js:=[3,5,4,0]) (N':=["_law_k","_law_base","_law_signs","_law_at","_law_cell"]) (tg:=.nm 0) (it:=.rng (.cons (.var 1) .nil)) (cond:=.nil) (elt:=.bin .Add (.bin .Add (.sl (.var 1) .nil (.tv (.var 3))) (.ix (.var 2) (.bin .Mod (.bin .Add (.var 0) (.var 4)) (.int 10)))) (.sl (.var 1) (.tv (.var 3)) .nil)) (m:=fun i:Nat=>.int i) (xs:=cr 10) (fun _=>true) (fun i=>.str (w i)) (zj1 (z0g (z0o rfl) z1l) (zh1 (by decide) (by decide))) rfl (fun i=>[some (.al,.int i),some (.al,.str B),some (.al,.list (sg.map .str)),some (.al,.int a),some (.od,.int c)]) (fun _ _=>rfl) (fun _ _=>rfl) fun i hi _=>by have l1:=zcf B none (some a);have l2:=zcf B (some a) none;have l3:=sgl (((i:Int)+c)%10).toNat;have l4:=zem (z1a B none (some a)) (sg.getD (((i:Int)+c)%10).toNat ⟨#[]⟩);exact z17 (z17 (v_sl (z0o rfl) zbb (zfx (z0o rfl)) (z5n (by omega)) rfl).e (v_ix (z0o rfl) (z17 (z17 (z0o rfl) (z0o rfl) rfl rfl).e z1n.e (z52 (by decide)) rfl).e (zde (by omega) (by show((i:Int)+c)%10<(10:Nat);omega)) rfl).e (add_str (by omega)) rfl).e (v_sl (z0o rfl) (zfx (z0o rfl)) zbb (z5n (by omega)) rfl).e (add_str (by omega)) rfl
 refine⟨(cr 10).map w,by rw[aw,jf],z46 (zhi (fun _ z=>nomatch z) (er.trans ?_))⟩;rw[mi.mpr fun _ _=>rfl,lb];rfl
theorem hN41 (xs:List Int)(hl:xs.length<=63)(ρ:Rho)(h0:ρ[0]?=some (some (.od,.list (xs.map .int)))):∃(g:G) (ns:List Str),evE [] [F_z1,F_z1,F_z1,F_z2,F_z0] (.call 3 "_law_names" (.cons (.call 4 "_law_cell_at" (.cons (.var 0) (.cons (.int 0) .nil))) (.cons (.int 10) .nil))) ρ=.ok (g,.list (ns.map PyData.str))/\ns.length=10:=by obtain⟨v,hv⟩:=zh2 xs hl;obtain⟨ns,hn,hs⟩:=zcz v;obtain⟨ys,hy,he⟩:=(z0g (z4l (n:=4) (f:="_law_cell_at") (z0g (z0o h0) (z0g z1n.e z1l)) rfl hv rfl).e (z0g z1n.e z1l):Aa [] [F_z1,F_z1,F_z1,F_z2,F_z0] (.cons (.call 4 "_law_cell_at" (.cons (.var 0) (.cons (.int 0) .nil))) (.cons (.int 10) .nil)) ρ [.int v,.int 10]);refine⟨gJ (.list (ns.map .str)) (rtG .fr),ns,?_,hn⟩;show(evA [] [F_z1,F_z1,F_z1,F_z2,F_z0] _ ρ>>=fun ys=>F_z2 (ys.map (·.2))>>=fun r=>Res.ok (gJ r.2 (rtG r.1),r.2))=_;rw[hy,Res.ok_bind,he,hs];rfl
theorem hM41 (xs:List Int)(ρ:Rho)(k:Int)(h1:0<=k)(h2:k<xs.length)(hl:xs.length<=63)(h0:ρ[0]?=some (some (.od,.list (xs.map .int))))(h4:ρ[4]?=some (some (.od,.int k))):∃c,evE [] [F_z1,F_z1,F_z1,F_z2,F_z0] (.call 2 "_law_mix" (.cons (.ix (.var 0) (.var 4)) (.cons (.var 4) .nil))) ρ=.ok (.fr,.int c):=by
 have hk:k.toNat<xs.length:=by omega
 have hx:ixD (.list (xs.map .int)) (.int k)=.ok (.int xs[k.toNat]):=by
  show Res.ofO (atI (xs.map PyData.int) k)=_;have:atI (xs.map PyData.int) k=some (.int xs[k.toNat]):=by unfold atI ixN;rw[if_pos h1,if_pos (by rw[aw];omega)];show(xs.map PyData.int)[k.toNat]?=_;rw[az,bh hk];rfl
  rw[this];rfl
 obtain⟨m,_,hm⟩:=zal xs[k.toNat] h1 (show k<=100 by omega);exact⟨m,(z4l (z0g (v_ix (z0o h0) (z0o h4) hx rfl).e (z0g (z0o h4) z1l)) rfl hm rfl).1⟩
def z7c:Fn:=fun ds=>match ds with
 | [.list xs]=>if(xs.all fun x=>match x with|.int _=>true|_=>false)&&decide (xs.length<=63)then .ok (.fr,.bool true)else .no
 |_=>.no
theorem zly {xs:List Int}(hl:xs.length<=63):z7c [.list (xs.map .int)]=.ok (.fr,.bool true):=by show(if((xs.map PyData.int).all _&&decide ((xs.map PyData.int).length<=63))=true then Res.ok (G.fr,PyData.bool true)else Res.no)=_;rw[if_pos];rw[aw,decide_eq_true hl,Bool.and_true,List.all_map,br];intro x _;rfl
end Mk
namespace Mk
open PySem PySem.Spec PyProof.Rows L2 Mi
def top (i:Nat):Stmt:=PySem.Challenge.pw_likebook_k41_lines_of_courts.main.body.getD i (.Pass ⟨0,0,0,0⟩)
def ofC (i:Nat):Stmt->Stmt
 |.ClassDef _ _ _ b ..=>b.getD i (.Pass ⟨0,0,0,0⟩)
 |s=>s
abbrev FREE:List Str:=["isinstance","str","len","range","list","min","ValueError","int"]
abbrev LN41:List Str:=["_law_script","_law_names_here","_law_rows","_law_heads","_law_k","_law_cell","_law_court","_law_head","_law_handed","_law_courts","_law_name"]
abbrev Rz:List DRow:=[
 ⟨"_law_cell_at",top 18,["_law_script","_law_k"],["_law_script","_law_k"],["len"],[],S_z0,F_z0,.n,[]⟩,
 ⟨"_law_mix",top 19,["_law_cell","_law_k","_law_figure"],["_law_cell","_law_k"],[],[],S_z1,F_z1,.n,[]⟩,
 ⟨"_law_names",top 20,["_law_cell","_law_many","_law_letters","_law_base","_law_at","_law_signs"],["_law_cell","_law_many"],["range","len"],[1],S_z2,F_z2,.n,[]⟩,
 ⟨"_law_refused",top 21,["_law_rows","_law_asked_name","_law_kind","e","_law_odd"],["_law_rows","_law_asked_name"],FREE,[],Sb 3,z32,.n,[]⟩,
 ⟨"_law_line",top 22,["_law_heads","_law_court","_law_found"],["_law_heads","_law_court"],FREE,[],Sb 3,z5l,.n,[]⟩,
 ⟨"_law_lines_good",top 23,["_law_courts","_law_heads","_law_court","_law_found"],["_law_courts","_law_heads"],FREE,[],Sb 2,z23,.n,[]⟩]
abbrev Lr:DRow:=⟨"law",top 24,LN41,["_law_script"],FREE,[1,1,1,2,0],Sb 10,zhv,.n,[]⟩
abbrev Xt:List XR:=[⟨"NoCourt",[("Late",false),("NoPack",false),("NoReason",false),("NoRow",false),("NoRuling",false),("NoSide",false),("NotAllowed",false),("NotYours",false),("TooMuch",false),("Twice",false),("Unknown",false),("NoCourt",true)],"BookError"⟩]
abbrev Ms:List DRow:=[
 ⟨"stands",ofC 1 (top 16),["self","court"],["self","court"],FREE,[],Sb 1,fun _=>.no,.n,[]⟩,
 ⟨"found",ofC 2 (top 16),["self","court","above"],["self","court","above"],FREE,[],Sb 3,fun _=>.no,.n,[]⟩,
 ⟨"line",ofC 4 (top 16),["self","court","found"],["self","court"],FREE,[],Sb 4,fun _=>.no,.n,[]⟩,
 ⟨"__init__",ofC 0 (top 16),["self","pairs","court","above"],["self","pairs"],FREE,[],Sb 2,fun _=>.no,.n,[]⟩]
abbrev Cr:CRow:=⟨"Courts",["aboves"],[("stands",ofC 1 (top 16)),("found",ofC 2 (top 16)),("line",ofC 4 (top 16)),("__init__",ofC 0 (top 16))]⟩
theorem t_ok:oks (Rz++[Lr]) Xt FREE 0 (Rz++[Lr])=true:=by decide+kernel
theorem t_F:fOks (Rz++[Lr]) (Rz++[Lr]):=⟨rfl,rfl,rfl,rfl,rfl,rfl,rfl,trivial⟩
theorem t_M:oks Ms Xt FREE 0 Ms=true:=by decide+kernel
abbrev gw (r:DRow)(fn me cl:List (Str×Nat)):Gw:=⟨r.G (Rz++[Lr]) Xt,fn,me,cl⟩
abbrev mS:Str×Nat:=("stands",1)
abbrev mF:Str×Nat:=("found",2)
abbrev mL:Str×Nat:=("line",1)
abbrev cC:Str×Nat:=("Courts",1)
theorem w_st:wkL (gw (Ms.getD 0 Lr) [] [] []) Ct.stands (z06 (Ms.getD 0 Lr).st)=true:=by decide+kernel
theorem w_fo:wkL (gw (Ms.getD 1 Lr) [] [mS] []) Ct.found (z06 (Ms.getD 1 Lr).st)=true:=by decide+kernel
theorem w_li:wkL (gw (Ms.getD 2 Lr) [] [mS] []) Ct.line (z06 (Ms.getD 2 Lr).st)=true:=by decide+kernel
theorem w_in:wkL (gw (Ms.getD 3 Lr) [] [mS,mF] []) Ct.init (z06 (Ms.getD 3 Lr).st)=true:=by decide+kernel
theorem w_ll:wkL (gw (Rz.getD 4 Lr) [] [] []) Ct.ll (z06 (top 22))=true:=by decide+kernel
theorem w_rf:wkL (gw (Rz.getD 3 Lr) [] [mS,mF,mL] [cC]) Ct.rf (z06 (top 21))=true:=by decide+kernel
theorem w_lg:wkL (gw (Rz.getD 5 Lr) [("_law_line",2)] [mS,mF,mL] []) Ct.lg (z06 (top 23))=true:=by decide+kernel
theorem w_la:wkL (gw Lr [("_law_lines_good",2),("_law_refused",2)] [] [cC]) Ct.law (z06 (top 24))=true:=by decide+kernel
theorem to0 {P:am}{w:World}{K:W.Frag}{mg:Str->Option Value}{base:Heap}{k:Nat}{f:Addr}{fd:cu}{ps:List Str}{sp sp':Sp}(F:FnOk P w K mg base (CXE P w base) k f fd ps sp)(h:∀vs H Q E,sp' vs H Q E->sp vs H Q fun _ _ _=>False):FnOk P w K mg base CX0 k f fd ps sp':=
 ⟨fun vs H Q E q=>F.len vs H Q _ (h _ _ _ _ q),fun A outer s H args us vs Q E hr he hb hv hs=>jc (F.run A outer s H args us vs Q _ hr he hb hv (h _ _ _ _ hs)) fun r s' z=>by
  cases r with
  |error e=>obtain⟨_,_,_,_,_,z⟩:=z;exact z.elim
  |ok x=>cases x<;>exact z⟩
section
variable {P:am}{w:World}{K:W.Frag}{mg:Str->Option Value}{base:Heap}{CC:Addr}
theorem dok0 {r:DRow}{k:Nat}(T:∀n∈FREE,mg n=none)(xk:∀Γ:Gm,Γ.sub=(Xt.map XR.subs).flatten->Γ.rs=Xt.map (·.c)->(Γ.hnd=Xt.map fun r=>(r.c,r.B))->Xok Γ K mg)(h1:r.fns=[])(h2:r.kc=[])(h3:r.free=FREE):Dok (r.G (Rz++[Lr]) Xt) [] [] P w K mg base k where
 free:=fun x hx=>T x (by have hx:r.free.contains x=true:=hx;rw[h3]at hx;exact ce.mp hx)
 fns:=fun j f n e=>by have e:(r.fns.map _)[j]?=_:=e;rw[h1]at e;cases e
 cst:=fun j x e=>by have e:(r.kc.map _)[j]?=_:=e;rw[h2]at e;cases e
 fnx:=fun j f n e=>by have e:(r.fns.map _)[j]?=_:=e;rw[h1]at e;cases e
 xk:=xk _ rfl rfl rfl
theorem z4m {Rs:List DRow}{i:Nat}{r:DRow}(h:oks Rs Xt FREE 0 Rs=true)(e:Rs[i]?=some r):FnScope r.N r.ps (z03 r.st):=(z4p (z6g h e)).1
theorem ms41 (T:∀n∈FREE,mg n=none)(xk:∀Γ:Gm,Γ.sub=(Xt.map XR.subs).flatten->Γ.rs=Xt.map (·.c)->(Γ.hnd=Xt.map fun r=>(r.c,r.B))->Xok Γ K mg)(CA:ClsAt K Cr CC):
  (∃f fd,FnOk P w K mg base (CXE P w base) 1 f fd ["self","court"] (z0h K CC)/\Meth K CC "stands" f/\Binds K fd ["self","court"] [])/\
  (∃f fd,FnOk P w K mg base (CXE P w base) 2 f fd ["self","court","above"] (z1c K CC mg)/\Meth K CC "found" f/\Binds K fd ["self","court","above"] [])/\
  (∃f fd,FnOk P w K mg base (CXE P w base) 2 f fd ["self","court"] (z1r K CC mg)/\Meth K CC "line" f/\Binds K fd ["self","court"] [])/\
  (∃f fd,FnOk P w K mg base (CXE P w base) 3 f fd ["self","pairs"] (z1u K CC mg)/\Meth K CC "__init__" f/\Binds K fd ["self","pairs"] []):=by
 have ck:CrtK K CC:=⟨CA.cls,CA.na _ (.head _)⟩;obtain⟨f1,fd1,Fu1,M1⟩:=CA.ms ("stands",ofC 1 (top 16)) (.head _);obtain⟨f2,fd2,Fu2,M2⟩:=CA.ms ("found",ofC 2 (top 16)) (.tail _ (.head _));obtain⟨f3,fd3,Fu3,M3⟩:=CA.ms ("line",ofC 4 (top 16)) (.tail _ (.tail _ (.head _)));obtain⟨f4,fd4,Fu4,M4⟩:=CA.ms ("__init__",ofC 0 (top 16)) (.tail _ (.tail _ (.tail _ (.head _))));have b1:Binds K fd1 ["self","court"] []:=Fu1.binds fun _ _ _ _ _ _=>by2 fun _ _=>rfl;have b2:Binds K fd2 ["self","court","above"] []:=Fu2.binds fun _ _ _ _ _ _=>by3 fun _ _ _=>rfl;have b3:Binds K fd3 ["self","court"] []:=Fu3.binds fun _ _ _ _ _ _=>by2 fun _ _=>rfl;have b4:Binds K fd4 ["self","pairs"] []:=Fu4.binds fun _ _ _ _ _ _=>by2 fun _ _=>rfl;have F1:FnOk P w K mg base (CXE P w base) 1 f1 fd1 ["self","court"] (z0h K CC):=w_fn (Γ:=gw (Ms.getD 0 Lr) [] [] []) (Z:=⟨K,mg,[],[],fun _ _ _=>False,[],[],[]⟩) (s:=Ct.stands) Fu1 (z4m t_M (i:=0) rfl) rfl rfl (dok0 T xk rfl rfl rfl) (fun E=>⟨rfl,rfl,(fun j x n e=>by cases e),(fun j x n e=>by cases e),(fun j x n e=>by cases e)⟩) w_st (fun vs H Q E ⟨_,_,_,_,_,_,_,_,e,_⟩=>by rw[e];rfl) fun vs H Q E ⟨x,dx,d,kvs,es,v,c,B,e,ct,rv,q⟩=>by subst e;exact z78 ck ct rv q
 have z1:∀(Γ:Gw) (r:Nat) (E:XK),1<=r->Γ.fn=[]->Γ.me=[mS]->Γ.cl=[]->Zok Γ ⟨K,mg,[],[],E,[],[(CC,"stands",z0h K CC)],[]⟩ (CXE P w base) P w K mg base r:=fun Γ r E hr e1 e2 e3=>by
  refine⟨rfl,rfl,fun j x n e=>?_,fun j x n e=>?_,fun j x n e=>?_⟩
  ·rw[e1]at e;cases e
  ·rw[e2]at e;rcases j with _|j
   ·cases e;exact⟨CC,_,f1,fd1,_,1,rfl,hr,F1,CA.cls,M1,b1⟩
   ·cases e
  ·rw[e3]at e;cases e
 have F2:FnOk P w K mg base (CXE P w base) 2 f2 fd2 ["self","court","above"] (z1c K CC mg):=w_fn (Γ:=gw (Ms.getD 1 Lr) [] [mS] []) (Z:=⟨K,mg,[],[],fun _ _ _=>False,[],[(CC,"stands",z0h K CC)],[]⟩) (s:=Ct.found) Fu2 (z4m t_M (i:=1) rfl) rfl rfl (dok0 T xk rfl rfl rfl) (fun E=>z1 _ 1 E (ak _) rfl rfl rfl) w_fo (fun vs H Q E ⟨_,_,_,_,_,_,_,_,_,_,e,_⟩=>by rw[e];rfl) fun vs H Q E ⟨x,dx,d,kvs,es,vc,va,c,a,B,e,ct,rc,ra,hz,q⟩=>by subst e;exact za2 ck rfl ct rc ra hz q
 have F3:FnOk P w K mg base (CXE P w base) 2 f3 fd3 ["self","court"] (z1r K CC mg):=w_fn (Γ:=gw (Ms.getD 2 Lr) [] [mS] []) (Z:=⟨K,mg,[],[],fun _ _ _=>False,[],[(CC,"stands",z0h K CC)],[]⟩) (s:=Ct.line) Fu3 (z4m t_M (i:=2) rfl) rfl rfl (dok0 T xk rfl rfl rfl) (fun E=>z1 _ 1 E (ak _) rfl rfl rfl) w_li (fun vs H Q E ⟨_,_,_,_,_,_,_,_,e,_⟩=>by rw[e];rfl) fun vs H Q E ⟨x,dx,d,kvs,es,v,c,B,e,ct,rv,q⟩=>by subst e;exact zah ck rfl ct rv q
 have z3:∀E:XK,Zok (gw (Ms.getD 3 Lr) [] [mS,mF] []) ⟨K,mg,[],[],E,[],[(CC,"stands",z0h K CC),(CC,"found",z1c K CC mg)],[]⟩ (CXE P w base) P w K mg base 2:=fun E=>by
  refine⟨rfl,rfl,fun j x n e=>?_,fun j x n e=>?_,fun j x n e=>?_⟩
  ·cases e
  ·rcases j with _|_|j
   ·cases e;exact⟨CC,_,f1,fd1,_,1,rfl,by decide,F1,CA.cls,M1,b1⟩
   ·cases e;exact⟨CC,_,f2,fd2,_,2,rfl,by decide,F2,CA.cls,M2,b2⟩
   ·cases e
  ·cases e
 have F4:FnOk P w K mg base (CXE P w base) 3 f4 fd4 ["self","pairs"] (z1u K CC mg):=w_fn (Γ:=gw (Ms.getD 3 Lr) [] [mS,mF] []) (Z:=⟨K,mg,[],[],fun _ _ _=>False,[],[(CC,"stands",z0h K CC),(CC,"found",z1c K CC mg)],[]⟩) (s:=Ct.init) Fu4 (z4m t_M (i:=3) rfl) rfl rfl (dok0 T xk rfl rfl rfl) (fun E=>z3 E) w_in
  (fun vs H Q E ⟨_,_,_,_,_,e,_⟩=>by rw[e];rfl) fun vs H Q E ⟨x,dx,vp,ps,B,e,hx,rp,hi,hp,hz,q⟩=>by
   subst e;refine zax ck rfl hx rp hi hp hz ?_;unfold Fnd at *
   split at q
   ·exact fun H' d kvs h1 h2 h3 _=>q H' d kvs h1 h2 h3
   ·exact q
 exact⟨⟨f1,fd1,F1,M1,b1⟩,⟨f2,fd2,F2,M2,b2⟩,⟨f3,fd3,F3,M3,b3⟩,⟨f4,fd4,F4,M4,b4⟩⟩
theorem ints_of:∀{ys:List D},(ys.all fun x=>match x with|.int _=>true|_=>false)=true->∃xs:List Int,ys=xs.map .int
 | [],_=>⟨[],rfl⟩
 |y::ys,h=>by
  rw[bn,aq]at h;obtain⟨xs,e⟩:=ints_of h.2;cases y with
  |int i=>exact⟨i::xs,by rw[e];rfl⟩
  |_=>cases h.1
theorem fn41 (T:∀n∈FREE,mg n=none)(xk:∀Γ:Gm,Γ.sub=(Xt.map XR.subs).flatten->Γ.rs=Xt.map (·.c)->(Γ.hnd=Xt.map fun r=>(r.c,r.B))->Xok Γ K mg)(CA:ClsAt K Cr CC)(hC:mg "Courts"=some (.ref CC))(O:∀i r,i<6->(Rz++[Lr])[i]?=some r->Own K mg r.nm r.st r.ps)
  (Dl:Dok (Lr.G (Rz++[Lr]) Xt) [] [F_z1,F_z1,F_z1,F_z2,F_z0] P w K mg base 6) {f:Addr} {fd:cu} (Fl:Fun K "law" "law" (top 24) f fd)
  (hN:∀(xs:List Int),xs.length<=63->∀(ρ:Rho),ρ[0]?=some (some (.od,.list (xs.map .int)))->∃(g:G) (ns:List Str),evE [] [F_z1,F_z1,F_z1,F_z2,F_z0] (.call 3 "_law_names" (.cons (.call 4 "_law_cell_at" (.cons (.var 0) (.cons (.int 0) .nil))) (.cons (.int 10) .nil))) ρ=.ok (g,.list (ns.map PyData.str))/\ns.length=10)
  (hM:∀(xs:List Int) (ρ:Rho) (k:Int),0<=k->k<xs.length->xs.length<=63->ρ[0]?=some (some (.od,.list (xs.map .int)))->ρ[4]?=some (some (.od,.int k))->∃c,evE [] [F_z1,F_z1,F_z1,F_z2,F_z0] (.call 2 "_law_mix" (.cons (.ix (.var 0) (.var 4)) (.cons (.var 4) .nil))) ρ=.ok (.fr,.int c)):
  FnOk P w K mg base CX0 7 f fd ["_law_script"] (spD K 1 z7c):=by
 obtain⟨⟨f1,fd1,F1,M1,b1⟩,⟨f2,fd2,F2,M2,b2⟩,⟨f3,fd3,F3,M3,b3⟩,⟨f4,fd4,F4,M4,b4⟩⟩:=ms41 (P:=P) (w:=w) (base:=base) T xk CA;obtain⟨f5,fd5,Fu5,m5,k5,b5⟩:=O 4 _ (by decide) rfl;obtain⟨f6,fd6,Fu6,m6,k6,b6⟩:=O 3 _ (by decide) rfl;obtain⟨f7,fd7,Fu7,m7,k7,b7⟩:=O 5 _ (by decide) rfl;have F5:FnOk P w K mg base (CXE P w base) 1 f5 fd5 ["_law_heads","_law_court"] (spLL K):=w_fn (Γ:=gw (Rz.getD 4 Lr) [] [] []) (Z:=⟨K,mg,[],[],fun _ _ _=>False,[],[],[]⟩) (s:=Ct.ll) Fu5 (z4m t_ok (i:=4) rfl) rfl rfl (dok0 T xk rfl rfl rfl) (fun E=>⟨rfl,rfl,(fun j x n e=>by cases e),(fun j x n e=>by cases e),(fun j x n e=>by cases e)⟩) w_ll (fun vs H Q E ⟨_,_,_,_,_,e,_⟩=>by rw[e];rfl) fun vs H Q E ⟨d,kvs,es,s,n,e,rd,re,hok,hn,he,q⟩=>by subst e;exact zhh rd re hok hn he q
 have me3:∀(r j:Nat) (m:Str) (n:Nat),2<=r->[mS,mF,mL][j]?=some (m,n)->∃C sp f fd ps k,[(CC,(("stands":Str),z0h K CC)),(CC,(("found":Str),z1c K CC mg)),(CC,(("line":Str),z1r K CC mg))][j]?=some (C,m,sp)/\k<=r/\FnOk P w K mg base (CXE P w base) k f fd ps sp/\Cls K C/\Meth K C m f/\Binds K fd ps []:=fun r j m n hr e=>by
  rcases j with _|_|_|j
  ·cases e;exact⟨CC,_,f1,fd1,_,1,rfl,by omega,F1,CA.cls,M1,b1⟩
  ·cases e;exact⟨CC,_,f2,fd2,_,2,rfl,hr,F2,CA.cls,M2,b2⟩
  ·cases e;exact⟨CC,_,f3,fd3,_,2,rfl,hr,F3,CA.cls,M3,b3⟩
  ·cases e
 have cl1:∀(r j:Nat) (x:Str) (n:Nat),4<=r->[cC][j]?=some (x,n)->∃C sp f fd ps k,[(CC,z1u K CC mg)][j]?=some (C,sp)/\k+1<=r/\FnOk P w K mg base (CXE P w base) k f fd ps sp/\Mk K C f/\mg x=some (.ref C)/\Binds K fd ps []:=fun r j x n hr e=>by
  rcases j with _|j
  ·cases e;exact⟨CC,_,f4,fd4,_,3,rfl,hr,F4,⟨CA.mks,M4.at_,M4.fn,CA.kp⟩,hC,b4⟩
  ·cases e
 have F6:FnOk P w K mg base (CXE P w base) 5 f6 fd6 ["_law_rows","_law_asked_name"] (spRf K):=w_fn (Γ:=gw (Rz.getD 3 Lr) [] [mS,mF,mL] [cC]) (Z:=⟨K,mg,[],[],fun _ _ _=>False,[],[(CC,"stands",z0h K CC),(CC,"found",z1c K CC mg),(CC,"line",z1r K CC mg)],[(CC,z1u K CC mg)]⟩) (s:=Ct.rf) Fu6 (z4m t_ok (i:=3) rfl) rfl rfl (dok0 T xk rfl rfl rfl) (fun E=>⟨rfl,rfl,(fun j x n e=>by cases e),(fun j m n e=>me3 4 j m n (by decide) e),fun j x n e=>cl1 4 j x n (by decide) e⟩) w_rf (fun vs H Q E ⟨_,_,_,_,_,e,_⟩=>by rw[e];rfl) fun vs H Q E ⟨vr,ps,vn,c,B,e,rr,rn,hi,hp,hz,hb,q⟩=>by subst e;exact zg6 rfl rfl rr rn hi hp hz hb q
 have F7:FnOk P w K mg base (CXE P w base) 3 f7 fd7 ["_law_courts","_law_heads"] (spLG K CC):=w_fn (Γ:=gw (Rz.getD 5 Lr) [("_law_line",2)] [mS,mF,mL] []) (Z:=⟨K,mg,[],[],fun _ _ _=>False,[spLL K],[(CC,"stands",z0h K CC),(CC,"found",z1c K CC mg),(CC,"line",z1r K CC mg)],[]⟩) (s:=Ct.lg) Fu7 (z4m t_ok (i:=5) rfl) rfl rfl (dok0 T xk rfl rfl rfl) (fun E=>⟨rfl,rfl,(fun j x n e=>by
   rcases j with _|j
   ·cases e;exact⟨_,f5,fd5,_,1,rfl,by decide,F5,m5,k5,b5⟩
   ·cases e),(fun j m n e=>me3 2 j m n (by decide) e),(fun j x n e=>by cases e)⟩) w_lg
  (fun vs H Q E ⟨_,_,_,_,_,_,_,e,_⟩=>by rw[e];rfl) fun vs H Q E ⟨x,dx,d,kvs,es,h,kvh,e,ct,hh,rh,hd,he,q⟩=>by subst e;exact ziy rfl rfl ct hh rh hd he q
 let sp:Sp:=fun vs H Q _=>∃(v0:V) (xs:List Int) (B:Ad->Prop),vs=[v0]/\Rep K H B v0 (.list (xs.map PyData.int))/\xs.length<=63/\∀H',Same H H'->Q (.bl true) H'
 have F8:FnOk P w K mg base (CXE P w base) 7 f fd ["_law_script"] sp:=w_fn (Γ:=gw Lr [("_law_lines_good",2),("_law_refused",2)] [] [cC]) (Z:=⟨K,mg,[],[F_z1,F_z1,F_z1,F_z2,F_z0],fun _ _ _=>False,[spLG K CC,spRf K],[],[(CC,z1u K CC mg)]⟩) (s:=Ct.law) Fl (z4m t_ok (i:=6) rfl) rfl rfl Dl (fun E=>⟨rfl,rfl,(fun j x n e=>by
   rcases j with _|_|j
   ·cases e;exact⟨_,f7,fd7,_,3,rfl,by decide,F7,m7,k7,b7⟩
   ·cases e;exact⟨_,f6,fd6,_,5,rfl,by decide,F6,m6,k6,b6⟩
   ·cases e),(fun j x n e=>by cases e),fun j x n e=>cl1 6 j x n (by decide) e⟩) w_la
  (fun vs H Q E ⟨_,_,_,e,_⟩=>by rw[e];rfl) fun vs H Q E ⟨v0,xs,B,e,r0,hl,q⟩=>by subst e;exact zdu rfl rfl rfl hl (hN xs hl) (fun ρ k h1 h2=>hM xs ρ k h1 h2 hl) r0 q
 refine to0 F8 fun vs H Q E ⟨A,ds,x,h1,h2,h3,q⟩=>?_;unfold z7c at h3;split at h3
 ·rename_i ys;split at h3
  ·rename_i hc;rw[aq,decide_eq_true_eq]at hc;cases h3;obtain⟨xs,rfl⟩:=ints_of hc.1;obtain⟨v,t,rfl,r0,hr⟩:=h2;have:t=[]:=hr;subst this;exact⟨v,xs,A,rfl,r0,by rw[aw]at hc;exact hc.2,fun H' s=>q (.bl true) H' s rfl⟩
  ·cases h3
 ·cases h3
theorem all41 {l:W.OpenLaw}{h:Heap}{fa:Addr}(X:K.In h)(G:h.Ns bc mg)(hfa:mg "law"=some (.ref fa))(hK:kOks K Rz)(kl:∃f fd,Kf K Lr f fd)(hz:∀n∈FREE,W.nsIn K bc n=some none)(hkx:kxs K Xt)(CA:ClsAt K Cr CC):
  ∃fd:cu,(∀(s:aa) (v:Value),nj s fd ⟨[v],[]⟩ [("_law_script",v)])/\∀base:Heap,K.In base->base.Ns bc mg->FnOk l.prog w K mg base CX0 7 fa fd ["_law_script"] (spD K 1 z7c):=by
 obtain⟨f,fd,a,oc,od,an,sl,kV,dc,pm,cd,ct,rfl,lk,hc,hk⟩:=kl;have e:=hfa.symm.trans (W.mg_of X G a);cases e;have T:∀n∈FREE,mg n=none:=fun n hn=>W.mg_none_of X G (hz n hn);refine⟨W.fnOf "law" "law" (z0s (top 24)) (z06 (top 24)) (z03 (top 24)) .none kV dc pm an cd ct,fun s v=>.of_eq rfl,fun base _ _=>?_⟩;have O:∀i r,i<6->(Rz++[Lr])[i]?=some r->Own K mg r.nm r.st r.ps:=fun i r hi e=>by rw[fj (show i<Rz.length from hi)]at e;obtain⟨⟨f,fd,a,oc,od,an,sl,kV,dc,pm,cd,ct,rfl,lk,hc,hk⟩,hb⟩:=z9b hK e;exact zih X G a lk hc hk hb
 have xk:∀Γ:Gm,Γ.sub=(Xt.map XR.subs).flatten->Γ.rs=Xt.map (·.c)->(Γ.hnd=Xt.map fun r=>(r.c,r.B))->Xok Γ K mg:=fun Γ h1 h2 h3=>zjb X G hkx (fun _=>T "ValueError" (by decide)) h1 h2 h3;have nokc:∀r∈Rz++[Lr],r.kc=[]:=fun r hr=>by simp only[List.cons_append,lh,a9,df,or_false]at hr;rcases hr with rfl|rfl|rfl|rfl|rfl|rfl|rfl<;>rfl
 have hCs:∀r∈Rz++[Lr],∀y∈r.kc,ze1 K mg y:=fun r hr y hy=>by rw[nokc r hr]at hy;cases hy
 have hr:(Rz++[Lr])[6]?=some Lr:=rfl;have ho:Lr.ok (Rz++[Lr]) Xt FREE 6=true:=z6g t_ok hr;have D:=z7t (P:=l.prog) (w:=w) (K:=K) (base:=base) hr ho T xk (hCs Lr (bj _ (.head _))) fun j c hj hc=>zdj t_ok t_F T xk 6 hCs O j c hj hc;exact fn41 T xk CA (W.mg_of X G CA.ns) O D (z87 (st:=top 24) lk hc hk) hN41 hM41
end
def zLd:pd:=⟨"law",z0s (top 24),z06 (top 24),z03 (top 24),⟨107,0,129,51⟩⟩
theorem zH3:KEq zKz (Rz++[Lr]) FREE Xt:=by
 rw[PySem.W.Fast.tkeq_eq];intro P
 kernel_rfl
theorem zT1:Tp.said PySem.Challenge.rw_likebook_k41_lines_of_courts=true:=by
 rw[PySem.W.Fast.tsaid_eq]
 kernel_rfl
theorem zT2:W.opening zRp=W.plainProg zRp.main.scope.names:=by kernel_rfl
theorem zT3:∀s,fenceModules? zRp s=some s:=fun s=>by kernel_rfl
theorem zT4:W.defOf zQv PySem.Challenge.rw_likebook_k41_lines_of_courts.row.name=some (zLd,[]):=by kernel_rfl
theorem zT5:zRp.theDef PySem.Challenge.rw_likebook_k41_lines_of_courts.row.name=some (zLd.params,zLd.body,zLd.scope):=by kernel_rfl
theorem zT6:W.kwWritten? zLd.params.kwonlyargs zLd.params.kw_defaults=some []:=by kernel_rfl
theorem zT7:(!PySem.Challenge.rw_likebook_k41_lines_of_courts.row.writes||PySem.Challenge.rw_likebook_k41_lines_of_courts.row.records.isEmpty)=true:=by kernel_rfl
theorem zT8:(W.chainsOk zQv&&W.opensWell zRp&&(W.frees PySem.Challenge.rw_likebook_k41_lines_of_courts.row.toRowW&&PySem.Challenge.rw_likebook_k41_lines_of_courts.row.within.isEmpty))=true:=by kernel_rfl
theorem walk {l:W.OpenLaw}{q:am}{loose:List Str}{XP:(Str->Option Value)->Heap->Prop}{YP:World->Heap->Prop}{d:pd}{K:dz->W.Frag}(hn:l.most=some 63)(hdf:d.params.defaults=[])
  (hY:∀(w:World) (h:Heap),YP w h->(K w.params).In h)
  (F:∀(w:World) (mg:Str->Option Value) (fa:Addr) (h:Heap),(K w.params).In h->h.Ns bc mg->mg d.name=some (.ref fa)->∃fd:cu,(∀(s:aa) (u:Value),nj s fd ⟨[u],[]⟩ [("_law_script",u)])/\∀base:Heap,(K w.params).In base->base.Ns bc mg->FnOk l.prog w (K w.params) mg base CX0 7 fa fd ["_law_script"] (spD (K w.params) 1 z7c)):
  W.WalkO q loose XP YP l.row.toRowW d [] (fun f vs=>PySem.call f vs):=
 L2.walk_of (n:=63) (k:=7) (x:="_law_script") (CX:=fun _=>CX0) (sp:=fun w=>spD (K w.params) 1 z7c) hn (by decide) hdf ⟨rfl,by decide,by decide⟩ hY F (fun _ _ a ns hl _ hS=>⟨_,_,_,rfl,z6y hS,zly hl,fun v H' _ r=>r⟩) fun _ _ _ _ _ z=>z
theorem kC4:KCq zKz Cr:=by
 rw[PySem.W.Fast.tkcq_eq];intro P
 kernel_rfl
theorem b_ok:bOks Rz:=⟨fun _ _ _ _ _ _=>by2 fun _ _=>rfl,fun _ _ _ _ _ _=>by2 fun _ _=>rfl,fun _ _ _ _ _ _=>by2 fun _ _=>rfl,fun _ _ _ _ _ _=>by2 fun _ _=>rfl,fun _ _ _ _ _ _=>by2 fun _ _=>rfl,fun _ _ _ _ _ _=>by2 fun _ _=>rfl,trivial⟩
end Mk
open PySem PySem.W PyProof.Rows Mi
set_option maxRecDepth 100000 in
set_option maxHeartbeats 0 in
theorem PySem.Challenge.cw_likebook_k41_lines_of_courts_holds : PySem.Challenge.rw_likebook_k41_lines_of_courts.Holds := by
 refine Tp.holds (l:=PySem.Challenge.rw_likebook_k41_lines_of_courts) (q:=Mk.zQv) (d:=Mk.zLd) (K:=Mk.zKz) (M:=100000) (N:=200000) Mk.zT1 (Tp.Ko_as _ _ Mk.zAs) Mk.zT2 rfl Mk.zT3 (by decide) Mk.zH1 Mk.zH2 Mk.zT4 Mk.zT5 Mk.zT6 Mk.zT7 Mk.zT8 ⟨rfl,rfl,rfl,rfl,rfl,by decide+kernel⟩ (by w_witness2) ?_;refine Mk.walk (l:=PySem.Challenge.rw_likebook_k41_lines_of_courts) rfl rfl (fun w h Y=>Y) ?_;intro w mg fa h KX G hmg;obtain⟨CC,CA⟩:=zim Mk.kC4 w.params;exact Mk.all41 (CC:=CC) KX G hmg (z9s (fun r hr=>(z6d Mk.zH3 w.params).1 r (fz _ hr)) Mk.b_ok) ((z6d Mk.zH3 w.params).1 Mk.Lr (bj _ (.head _))) (z6d Mk.zH3 w.params).2.1 (z6d Mk.zH3 w.params).2.2.1 CA
