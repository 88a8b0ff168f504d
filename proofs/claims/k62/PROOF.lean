import PyProof.Rows.All
import Wide.All
import OpenK.AllK
import Wide.FinOn
import Lean
import PyProof.EqAt
import PyProof.EqKinds
import PyProof.TupleCall
import PySem.Syntax
import PyProof.P3Statements
import PyProof.SliceList
import PyProof.Walks
import PyProof.AttrMissSeq
import PyProof.AttrMissHeap
import KE.KDictOf
import KE.KSortTup
import PyProof.DictItemsLoops
import KE.KPairComp
import KE.KItemsList
import KE.KDictSum
import PyProof.Draws
import PyProof.ZipIter
import PyProof.EnumMake
import PyProof.WalksEnum
import PyProof.Rows.SetFrom
import PyProof.SetRoads
import KE.KRevIter
import Open.Pieces
import OpenK.KWalk
import PyProof.Rows.Walk
import PySem.Challenge.RW_likebook_k62_sayings_hold
noncomputable section
open Array renaming length_toList→dv,getElem?_eq_getElem→jg,toArray_toList→kz,append_assoc→lx,forIn_toList→l5
open Bool renaming and_eq_true_iff→ao,and_eq_true→a8,false_ne_true→br,or_eq_true_iff→db,beq_eq_decide_eq→im,or_eq_true→iy,false_and→i8,false_eq_true→l4,eq_false_iff→mh,not_eq_true'→mi
open Int renaming emod_lt_of_pos→d3,emod_nonneg→fj,toNat_natCast→mm
open List renaming size_toArray→ai,mem_append_right→am,mem_cons_self→ar,getD_eq_getElem?_getD→av,length_map→aw,map_cons→ay,length_append→a0,getElem?_map→a9,getElem?_eq_getElem→ba,mem_cons→bc,mem_cons_of_mem→bg,length_cons→bh,replicate→bo,all_eq_true→bp,getElem?_eq_some_iff→bu,range→b6,mem_of_getElem?→b7,length_replicate→b9,contains_iff_mem→ce,lookup_cons→cf,getElem?_set_ne→cg,mem_map→ci,all_cons→cj,mem_singleton→ck,map_append→cn,not_mem_nil→cr,mem_append_left→cu,getElem?_set→cx,getElem?_append_right→cy,mem_append→dh,length_set→dj,take_of_length_le→dt,filterMap_cons→du,nodup_cons→dw,getElem?_eq_none_iff→dz,any_cons→d4,mem_range→d5,getElem?_replicate→d9,append_nil→eh,length_take→e8,getElem?_append_left→e9,find?_cons→fi,length_range→fq,map_inj_left→fu,filter_eq_self→fz,length_eq_zero_iff→f8,append_assoc→ge,length_drop→gi,drop_eq_getElem_cons→gn,replicate_succ→gp,forIn_cons→gw,getElem?_cons_succ→g6,drop_zero→ig,nodup_append→ik,mem_of_mem_take→iq,getElem?_append→ir,map_map→i4,forIn_nil→jd,pairwise_cons→jf,flatten_cons→jl,filterMap_cons_none→jp,filterMap_cons_some→jq,getElem?_set_self→jv,of_mem_zip→j9,length_nil→ki,getElem?_eq_none→kq,length→kx,mem_of_mem_drop→k8,getElem?_range→lh,map_congr_left→li,Pairwise→ls,mem_filterMap→ly,map_nil→ma,reverse_cons→mf,ext_getElem?→ml,any_map→mr
open Nat renaming le_refl→ag,lt_of_lt_of_le→bn,ne_of_lt→bq,lt_irrefl→bx,le_trans→b8,zero_le→d6,le_add_right→gk,lt_trans→i3,lt_succ_self→jr,ne_of_gt→jy,add_sub_cancel'→lg,le_of_lt→l6,lt_succ_of_lt→mj,sub_self→mq,sub_zero→ms
open Option renaming map_eq_some_iff→cz,bind_eq_some_iff→g7,isNone_iff_eq_none→jh,isSome_map→jk
open PyProof.Rows renaming kindOf→ip,AllBare→i0,subscriptTail_builtinR→j7,size_push'→j8,envOfC→ku,IntsAre→lc
open PySem renaming wpAny_bind→aa,Shared→ac,PyData→af,wpAny_pure→aj,Program→aq,sizeLine→az,mainGlobals→bj,Around→bt,compareOp→bw,bootBuiltins→cv,starEach→cw,wpAny_field→de,wpAny_holding→df,assignEach→dm,wpAny_setField_rec→dn,FuncData→dq,NameKind→dr,wpAny_seqItems→d7,foldedSetIterable→d8,wpAny_callSpecial?_slot→ef,letOwnedTupleGo→eg,Params→eo,binaryOp→eu,wpAny_truthy_bool→fk,sliceBounds→fm,wpAny_call_entry→f6,wpAny_getItem_str_slice→f7,sizeLine_eq→f9,wpAny_newObj_type→gb,wpAny_pyIter_list→gc,sysModules→gf,wpAny_mono→gg,Operator→gh,behindInMarks→gr,Comprehension→gu,wpAny_passesOwn→gv,importedModules→gy,tupleKind_room_in1→gz,treeTable→g8,Paired→g9,backTo→iu,rawInt→iw,post_val_or_str→iz,swapsWith→i5,PassesOwn→i6,wpAny_Call_Name_kw→i9,wpAny_pyIter_tuple→jb,wpAny_rule→jc,codeAny→ji,OsState→jm,wpAny_comprehension_free→jn,wpAny_onRaise→jo,noFill_tuple_add→jt,assign→jx,pyNext→jz,pyIter→j2,wpAny_pyNext_list_item→j3,Keyword→j4,concat_meets→j5,wpAny_typeOf→j6,wpAny_pyNext_list_end→kj,builtinLookup_eq_fast→km,sliceRange_one→ky,tupleKind→k9,BindsTo→la,valueAt→lb,callerA→lf,swapsWithSole→ll,swappedStores→lm,seq_tuple_add→ln,attributeBase→lq,wpAny_standAt→lu,plainId_quiet→lw,IsPart→lz,call_meets→l0,GenState→l7,wpAny_assign_Name→l8,codeAny_mono→l9,getItem→md,slot_list_getitem→me,wpAny_pyIter_enum→mo,isTrue→mv,seqIndex?→mw,keywordEach→my,wpAny_letGo→mz,holding→m4,builtinsNs→m5,wpAny_Name→m6,wpAny_load→m7,bindArgs→m8,typeIs_str→m9,intItems→nh,getAttr?→ni,DefRec→nj,relabel→nk
open PySem.Builtin.Dict renaming pairItems→ij,updateFrom→ju
open PySem.Builtin.Slice renaming slicePlaces→fg,sliceAdjust→gm,sliceApplied→ja
open PySem.Builtin.SmallTypes renaming nextOf→bv,ownedTupleIsFree→dg,ownedTupleHandOut→gq
open PySem.Builtin.Str renaming occurrences→cq,strSliceIndices→e7
open PySem.Builtin.Tuple renaming tupleExact→fv
open PySem.Calls renaming Name_function_global→i7
open PySem.Heap renaming get?_push_of_some→ae,get?_push_size→au,lt_size→ax,SameBut→bd,get?_update_self→ko,get?_none_of_le→kr,size_push→kt,NewExcOf→lv
open PySem.Heap.SameBut renaming update→lj
set_option Elab.async false
set_option linter.all false
set_option maxRecDepth 100000
theorem np {p:Prop} [Decidable p] (h:decide p=true):p:=of_decide_eq_true h
theorem nq {p:Prop} [Decidable p] (h:decide p=false):¬p:=of_decide_eq_false h
theorem nv {p:Prop} [Decidable p] (h:p):decide p=true:=decide_eq_true h
theorem ny {p:Prop} [Decidable p] (h:¬p):decide p=false:=decide_eq_false h
theorem nz {α} [BEq α] [LawfulBEq α] {a b:α}(h:(a==b)=true):a=b:=beq_iff_eq.mp h
namespace Tp
open PySem PySem.W PyProof.Rows
def q0:Pos:=⟨0,0,0,0⟩
def an:Option Value:=some (.ref 6)
def ev (p:aq):Env:={scope:=p.main.scope,locals:=mainNs,globals:=mainNs,cells:=[],code:=.ref 13,frame:=some 14}
def cd (p:aq):Code:=.body (behindTheImports p) (ev p)
def grow:List Obj->Nat->BT->BT
 | [],_,t=>t
 |o::l,i,t=>grow l (i+1) (t.ins i o)
def lift (s:ac):SharedT:=⟨grow s.heap.objs.toList 0 .nil,s.heap.objs.size,s.heap.life,s.gens,s.drawn,s.toks,s.os⟩
def pre (p:aq)(H:eo->Heap)(d:Drawn)(k:Nat)(w:World)(os:jm):Option (ac×Thread):=topGo g8 p w 11 an 12 ⟨H w.params,#[],d,k,os⟩ (topStub p)
def preS (p:aq)(H:eo->Heap)(d:Drawn)(k:Nat)(w:World)(os:jm):SharedT:=lift (((pre p H d k w os).map Prod.fst).getD ⟨H w.params,#[],d,k,os⟩)
def run (p:aq)(H:eo->Heap)(d:Drawn)(k N:Nat)(w:World)(os:jm):Option (Flow×SharedT×Code×Pos):=segRunT g8 p w 11 an 1 N (preS p H d k w os) (piecesOf (behindTheImports p) (ev p) (cd p) q0 [topFrame q0])
def PreEq (p:aq)(H:eo->Heap)(d:Drawn)(k:Nat):Prop:=∀(w:World) (os:jm),((H w.params).isNs bj&&(#[]:Array l7).size==0,(H w.params).objs.size,(H w.params).nsMap bj "__annotations__",pre p H d k w os,fun s c=>segRun g8 p w 11 an 1 1 s (blockOf (behindTheImports p) (ev p) c q0 [topFrame q0]))=(true,11,an,some ((preS p H d k w os).abs,⟨denote g8 (cd p),cd p,q0,[topFrame q0]⟩),fun s c=>some (.next,s,c,q0))
def seen (p q:aq)(R:WRecords)(as:List Addr)(H:eo->Heap)(w:World)(s:SharedT):=(staticsOk (gy p.main.body) (H w.params) s.abs.heap&&namesBound p s.abs.heap&&gensDone s.abs&&laidKept (H w.params) s.abs.heap,openSeen q [] (gy p.main.body) (fun s=>xlAt q [] s&&recOk R s) true s.abs,as.map s.abs.heap.get?)
def pick {α:Type}(f:SharedT->α):Flow×SharedT×Code×Pos->Option (Code×α)
 |(.next,s,c,_)=>some (c,f s)
 |_=>none
def RunEq (p q:aq)(R:WRecords)(as:List Addr)(K:eo->List (Addr×Obj))(H:eo->Heap)(d:Drawn)(k N:Nat):Prop:=∀(w:World) (os:jm),(run p H d k N w os).bind (pick (seen p q R as H w))=some (cd p,true,openGood q [],(K w.params).map fun x=>some x.2)
theorem fin_ (tb:String->Option Builtin)(p:aq)(w:World)(n:Nat)(a:Option Value)(s:ac)(c:Code)(ps q:Pos):topRun tb p w n a 2 s ⟨doneF .next,c,ps,[topFrame q]⟩=some s:=by obtain⟨h,g,d,k,os⟩:=s;rfl
theorem left {p q:aq}{R:WRecords}{as:List Addr}{K:eo->List (Addr×Obj)}{M N:Nat}(o:∀w,(fencedOpening g8 p w N).map (fun s=>(s.heap,s.gens,s.drawn,s.toks))=some (boot_heap w.params,#[],boot_drawn,boot_toks))(le:12+(1+(M+2))<=N)
  (h1:PreEq p boot_heap boot_drawn boot_toks) (h2:RunEq p q R as K boot_heap boot_drawn boot_toks M):LeftO p q [] (fun s=>xlAt q [] s&&recOk R s) (fun s=>as.map s.heap.get?) (fun w=>(K w.params).map fun x=>some x.2) N:=fun w=>by
 obtain⟨⟨h,gs,d,k,os⟩,e,e'⟩:=cz.mp (o w);have e1:=Prod.mk.inj e';have e2:=Prod.mk.inj e1.2;have e3:=Prod.mk.inj e2.2;obtain rfl:h=boot_heap w.params:=e1.1;obtain rfl:gs=#[]:=e2.1;obtain rfl:d=boot_drawn:=e3.1;obtain rfl:k=boot_toks:=e3.2;have a:=Prod.mk.inj (h1 w os);have a2:=Prod.mk.inj a.2;have a3:=Prod.mk.inj a2.2;have a4:=Prod.mk.inj a3.2;obtain⟨⟨f,s,c,ps⟩,r1,r2⟩:=g7.mp (h2 w os);cases f with
 |next=>
  have b:=Prod.mk.inj (Option.some.inj r2);have b1:=Prod.mk.inj b.2;have b2:=Prod.mk.inj b1.2;obtain rfl:c=cd p:=b.1;have t1:topRun g8 p w 11 an (M+2) (preS p boot_heap boot_drawn boot_toks w os).abs (restOf (behindTheImports p++[]) (ev p) (cd p) q0 [topFrame q0])=some s.abs:=piece_app (segRun_of r1) (fin_ g8 p w 11 an s.abs (cd p) ps q0);rw[eh]at t1;have t2:=piece_block (congrFun (congrFun a4.2 (preS p boot_heap boot_drawn boot_toks w os).abs) (cd p)) t1;have t3:=go_top a4.1 t2;have t4:=topRun_mono (N-(12+(1+(M+2)))) _ _ _ _ t3;rw[lg le]at t4
  have t:topFrom g8 p w N ⟨boot_heap w.params,#[],boot_drawn,boot_toks,os⟩=some s.abs:=by
   unfold topFrom
   dsimp only
   rw[a.1,a2.1,a3.1,t4];show(match staticsOk (gy p.main.body) (boot_heap w.params) s.abs.heap&&namesBound p s.abs.heap&&gensDone s.abs&&laidKept (boot_heap w.params) s.abs.heap with|true=>some s.abs|false=>none)=_;rw[b1.1]
  unfold openEnds;rw[e];show(topFrom g8 p w N _).map _=_;rw[t];exact congrArg some (Prod.ext b2.1 b2.2)
 |_=>cases r2
theorem pre_r:PreEq=PreEq:=rfl
def za0 (p q:aq)(R:WRecords)(H:eo->Heap)(w:World)(s:SharedT):=(staticsOk (gy p.main.body) (H w.params) s.abs.heap&&namesBound p s.abs.heap&&gensDone s.abs&&laidKept (H w.params) s.abs.heap,openSeen q [] (gy p.main.body) (fun s=>xlAt q [] s&&recOk R s) true s.abs)
def RunA (p q:aq)(R:WRecords)(H:eo->Heap)(d:Drawn)(k N:Nat):Prop:=∀(w:World) (os:jm),(run p H d k N w os).bind (pick (za0 p q R H w))=some (cd p,true,openGood q [])
def RunB (p:aq)(as:List Addr)(K:eo->List (Addr×Obj))(H:eo->Heap)(d:Drawn)(k N:Nat):Prop:=∀(w:World) (os:jm),(run p H d k N w os).bind (pick fun s=>as.map s.abs.heap.get?)=some (cd p,(K w.params).map fun x=>some x.2)
theorem zag {α β:Type}{f:SharedT->α}{g:SharedT->β}{x:Option (Flow×SharedT×Code×Pos)}{c:Code}{a:α}{b:β}(h1:x.bind (pick f)=some (c,a))(h2:x.bind (pick g)=some (c,b)):x.bind (pick fun s=>(f s,g s))=some (c,a,b):=by
 cases x with
 |none=>cases h1
 |some y=>
  obtain⟨fl,s,c',ps⟩:=y;cases fl with
  |next=>have e1:=Prod.mk.inj (Option.some.inj (show some (c',f s)=some (c,a)from h1));have e2:=Prod.mk.inj (Option.some.inj (show some (c',g s)=some (c,b)from h2));show some (c',f s,g s)=_;rw[e1.1,e1.2,e2.2]
  |_=>cases h1
theorem run_ab {p q:aq}{R:WRecords}{as:List Addr}{K:eo->List (Addr×Obj)}{H:eo->Heap}{d:Drawn}{k N:Nat}(h1:RunA p q R H d k N)(h2:RunB p as K H d k N):RunEq p q R as K H d k N:=fun w os=>by
 have h:=zag (h1 w os) (h2 w os);cases e:run p H d k N w os with
 |none=>rw[e]at h;cases h
 |some y=>
  rw[e]at h;obtain⟨fl,s,c',ps⟩:=y;cases fl with
  |next=>have e1:=Prod.mk.inj (Option.some.inj (show some (c',(za0 p q R H w s,as.map s.abs.heap.get?))=some (cd p,(true,openGood q []),_)from h));have e2:=Prod.mk.inj e1.2;show some (c',(za0 p q R H w s).1,(za0 p q R H w s).2,as.map s.abs.heap.get?)=_;rw[e1.1,e2.2,e2.1]
  |_=>cases h
theorem runA_r:RunA=RunA:=rfl
theorem runB_r:RunB=RunB:=rfl
end Tp
lay_quick Tp.PreEq Tp.RunA Tp.RunB
name_quick tpre for Tp.PreEq by Tp.pre_r
name_quick truna for Tp.RunA by Tp.runA_r
name_quick trunb for Tp.RunB by Tp.runB_r
namespace Tp
open PySem PySem.W PyProof.Rows
theorem rn_r:run=run:=rfl
end Tp
name_quick trn for Tp.run by Tp.rn_r
namespace Tp
open PySem PySem.W PyProof.Rows
def obj (p:aq)(M:Nat)(P:eo)(a:Addr):Obj:=((PySem.W.Fast.trn p boot_heap boot_drawn boot_toks M ⟨fun _ _=>0,P⟩ default).map fun x=>(x.2.1.tree.get a).getD default).getD default
def Ko (p:aq)(M:Nat)(as:List Addr)(P:eo):Frag:=as.map fun a=>(a,obj p M P a)
theorem Ko_as (p:aq)(M:Nat)(as:List Addr)(P:eo):as=(Ko p M as P).map (·.1):=by unfold Ko;rw[i4];exact(List.map_id _).symm
def said (l:OpenLaw):Bool:=l.wellSaid
theorem said_r:said=said:=rfl
theorem holds {l:OpenLaw}{q:aq}{d:nj}{as:List Addr}{K:eo->Frag}{M N:Nat}(ws:said l=true)(ek:∀P,as=(K P).map (·.1))(o1:opening l.row.prog=plainProg l.row.prog.main.scope.names)(o2:Nat.ble 600 N=true)(o3:∀s,fenceModules? l.row.prog s=some s)(le:12+(1+(M+2))<=N)
  (h1:PreEq l.row.prog boot_heap boot_drawn boot_toks) (h2:RunEq l.row.prog q l.row.records as K boot_heap boot_drawn boot_toks M) (a1:defOf q l.row.name=some (d,[])) (a2:l.row.prog.theDef l.row.name=some (d.params,d.body,d.scope)) (a3:kwWritten? d.params.kwonlyargs d.params.kw_defaults=some []) (a4:(!l.row.writes||l.row.records.isEmpty)=true)
  (a5:(chainsOk q&&opensWell l.row.prog&&(frees l.row.toRowW&&l.row.within.isEmpty))=true) (a6:l.row.prog.bare) (a7:l.row.toRowW.promised) (call:WalkO q [] (XL q []) (InK K) l.row.toRowW d [] fun f vs=>PySem.call f vs):l.Holds:=
 holds_law ws fun z=>holds_open (left (boot_open o1 o2 o3) le h1 h2) (InK.of ek) InK.keeps (fun s e=>xl_of s (ao.mp e).1) XL.keeps a1 a2 a3 (fun s e=>recFacts_of (ao.mp e).2) a4 z a5 a6 a7 call
end Tp
lay_quick Tp.said
name_quick tsaid for Tp.said by Tp.said_r
namespace Mk
open PySem PySem.Spec PyProof.Rows
abbrev zRp:aq:=PySem.Challenge.rw_likebook_k62_sayings_hold.row.prog
def zQv:aq:=W.view zRp [1,3,4,6,7,8,9,10,11,12,13,14,15]
def zAs:List Addr:=b6 96
def zKz:eo->W.Frag:=Tp.Ko zRp 100000 zAs
theorem zH1:Tp.PreEq zRp W.boot_heap W.boot_drawn W.boot_toks:=by
 rw[PySem.W.Fast.tpre_eq];intro w os
 kernel_rfl
theorem zH2a:Tp.RunA zRp zQv PySem.Challenge.rw_likebook_k62_sayings_hold.row.records W.boot_heap W.boot_drawn W.boot_toks 100000:=by
 rw[PySem.W.Fast.truna_eq];intro w os
 kernel_rfl
theorem zH2b:Tp.RunB zRp zAs zKz W.boot_heap W.boot_drawn W.boot_toks 100000:=by
 rw[PySem.W.Fast.trunb_eq];intro w os
 kernel_rfl
theorem zH2:Tp.RunEq zRp zQv PySem.Challenge.rw_likebook_k62_sayings_hold.row.records zAs zKz W.boot_heap W.boot_drawn W.boot_toks 100000:=Tp.run_ab zH2a zH2b
end Mk
namespace L2
open PySem PySem.Spec PyProof.Rows
abbrev Key:=Sum Int Str
def z6w:Key->Value->Bool
 |.inl k,v=>Value.isInt k v
 |.inr x,v=>Value.isStrOf x v
def keyH (w:World):Key->Int
 |.inl k=>hashInt k
 |.inr x=>hashStr w x
theorem z0f:∀{k:Key} {v:Value},z6w k v=true->(∃i t,k=Sum.inl i/\v=Value.int i t)\/(∃x t,k=Sum.inr x/\v=Value.str x t)
 |.inl i,v,h=>by obtain⟨t,e⟩:=Value.isInt_shape (k:=i) (v:=v) h;exact .inl ⟨i,t,rfl,e⟩
 |.inr x,v,h=>by obtain⟨t,e⟩:=Value.isStrOf_shape (x:=x) (v:=v) h;exact .inr ⟨x,t,rfl,e⟩
theorem z87 (i:Int)(t:Tok):z6w (.inl i) (.int i t)=true:=by simp[z6w,Value.isInt]
theorem z7i (x:Str)(t:Tok):z6w (.inr x) (.str x t)=true:=by simp[z6w,Value.isStrOf]
theorem zga (a b:Int):decide ((Sum.inl a:Key)=Sum.inl b)=(a==b):=by
 by_cases e:a=b
 ·subst e;simp
 ·have h:¬(Sum.inl a:Key)=Sum.inl b:=fun q=>e (Sum.inl.inj q);rw[ny h];exact(beq_eq_false_iff_ne.mpr e).symm
theorem zg9 (a b:Str):decide ((Sum.inr a:Key)=Sum.inr b)=decide (a=b):=by
 by_cases e:a=b
 ·subst e;simp
 ·have h:¬(Sum.inr a:Key)=Sum.inr b:=fun q=>e (Sum.inr.inj q);rw[ny h,ny e]
theorem zhr (a:Int)(b:Str):decide ((Sum.inl a:Key)=Sum.inr b)=false:=ny (fun q=>nomatch q)
theorem zhq (a:Str)(b:Int):decide ((Sum.inr a:Key)=Sum.inl b)=false:=ny (fun q=>nomatch q)
def z0l (prog:aq)(w:World):PySem.KeyKind prog w Key where
 is:=z6w
 hash:=keyH w
 inj:=fun v a b ha hb=>by
  rcases z0f ha with⟨i,t,rfl,rfl⟩|⟨x,t,rfl,rfl⟩
  ·rcases z0f hb with⟨j,u,rfl,e⟩|⟨y,u,rfl,e⟩
   ·injection e with e1 _;rw[e1]
   ·exact nomatch e
  ·rcases z0f hb with⟨j,u,rfl,e⟩|⟨y,u,rfl,e⟩
   ·exact nomatch e
   ·injection e with e1 _;rw[e1]
 byValue:=fun k v h=>by rcases z0f h with⟨i,t,rfl,rfl⟩|⟨x,t,rfl,rfl⟩<;>rfl
 pyHash:=fun hv h=>by
  rcases z0f hv with⟨i,t,rfl,rfl⟩|⟨x,t,rfl,rfl⟩
  ·exact wpAny_pyHash_int h
  ·exact wpAny_pyHash_str h
 eqBool:=fun hu hv h=>by
  rcases z0f hu with⟨i,t,rfl,rfl⟩|⟨x,t,rfl,rfl⟩
  ·rcases z0f hv with⟨j,u,rfl,rfl⟩|⟨y,u,rfl,rfl⟩
   ·rw[zga]at h;exact wpAny_eqBool_int h
   ·rw[zhr]at h;exact SeqAt.EqAt.int_str i t y u _ _ _ _ h
  ·rcases z0f hv with⟨j,u,rfl,rfl⟩|⟨y,u,rfl,rfl⟩
   ·rw[zhq]at h;exact SeqAt.EqAt.str_int x t j u _ _ _ _ h
   ·rw[zg9]at h;exact wpAny_eqBool_str h
 «strs»:=fun k x t v h=>by
  rcases z0f h with⟨i,u,rfl,e⟩|⟨y,u,rfl,e⟩
  ·exact nomatch e
  ·injection e with e1 _;subst e1;cases v<;>rfl
theorem z56 (prog:aq)(w:World)(i:Int)(t:Tok):(z0l prog w).is (.inl i) (.int i t)=true:=z87 i t
theorem z5c (prog:aq)(w:World)(x:Str)(t:Tok):(z0l prog w).is (.inr x) (.str x t)=true:=z7i x t
inductive V where
 |non|bl (b:Bool)|int (i:Int)|str (x:Str)|byt (b:Array UInt8)|flt (b:UInt64)|ref (a:Addr)|ty (n:String)
 deriving DecidableEq
def RelV:V->Value->Prop
 |.non,u=>u=Value.none
 |.bl b,u=>u=Value.bool b
 |.int i,u=>∃t,u=Value.int i t
 |.str x,u=>∃t,u=Value.str x t
 |.byt b,u=>∃t,u=Value.bytes b t
 |.flt b,u=>∃t,u=Value.float b t
 |.ref a,u=>u=Value.ref a
 |.ty n,u=>u=Value.type n
abbrev Vals:List V->List Value->Prop:=g9 RelV
theorem Vals.length {xs:List V}{us:List Value}(r:Vals xs us):xs.length=us.length:=Paired.length r
theorem Vals.get:∀{xs:List V} {us:List Value} {i:Nat} {x:V},Vals xs us->xs[i]?=some x->∃u,us[i]?=some u/\RelV x u
 |_,_,_,_,.nil,e=>by simp at e
 |_,_,0,_,.cons r _,e=>by simp at e;subst e;exact⟨_,rfl,r⟩
 |_,_,i+1,x,.cons _ t,e=>by obtain⟨u,h1,h2⟩:=Vals.get (i:=i) (x:=x) t (by simpa using e);exact⟨u,by simpa using h1,h2⟩
theorem Vals.set {x:V}{u:Value}(r:RelV x u):∀{xs:List V} {us:List Value} (i:Nat),Vals xs us->Vals (xs.set i x) (us.set i u)
 |_,_,_,.nil=>.nil
 |_,_,0,.cons _ t=>.cons r t
 |_,_,i+1,.cons q t=>.cons q (Vals.set r i t)
theorem Vals.append:∀{xs ys:List V} {us ws:List Value},Vals xs us->Vals ys ws->Vals (xs++ys) (us++ws)
 |_,_,_,_,.nil,s=>s
 |_,_,_,_,.cons r t,s=>.cons r (Vals.append t s)
theorem Vals.take:∀{xs:List V} {us:List Value} (n:Nat),Vals xs us->Vals (xs.take n) (us.take n)
 |_,_,0,_=>.nil
 |_,_,_+1,.nil=>.nil
 |_,_,n+1,.cons r t=>.cons r (Vals.take n t)
theorem Vals.drop:∀{xs:List V} {us:List Value} (n:Nat),Vals xs us->Vals (xs.drop n) (us.drop n)
 |_,_,0,r=>r
 |_,_,_+1,.nil=>.nil
 |_,_,n+1,.cons _ t=>Vals.drop n t
theorem Vals.none_of:∀{xs:List V} {us:List Value} {i:Nat},Vals xs us->xs[i]?=none->us[i]?=none:=fun{xs us i} r e=>by have h1:=r.length;have h2:xs.length<=i:=dz.mp e;exact dz.mpr (by omega)
def RelO:Option V->Option Value->Prop
 |some v,some u=>RelV v u
 |none,none=>True
 |_,_=>False
def KV {κ:Type}:List (κ×V)->List (κ×Value)->Prop:=g9 fun(p:κ×V) (q:κ×Value)=>p.1=q.1/\RelV p.2 q.2
def kV:Key->V
 |.inl i=>.int i
 |.inr x=>.str x
inductive HO where
 |lst (xs:List V)
 |tup (xs:List V)
 |dK (kvs:List (Key×V))|dT (kvs:List (List Key×V))
 |set (S:Int->Bool) (n:Nat)
 |ins (C dx:Addr) (fs:List (Str×V))
 |own (x:Addr)
 |xd (fs:List (Str×V))
 |met (f x:Addr)
 |rng (lo hi:Int)
 |frz (o:Obj) (u:HO)
 |tbl (ps:Array Value)
 |ext (φ:Heap->Prop)
abbrev Hp:=Addr->Option HO
def upd (H:Hp)(a:Addr)(o:HO):Hp:=fun b=>if b=a then some o else H b
theorem z08 {H:Hp}{a:Addr}{o:HO}:upd H a o a=some o:=by unfold upd;rw[if_pos rfl]
theorem z03 {H:Hp}{a b:Addr}{o:HO}(h:b≠a):upd H a o b=H b:=by unfold upd;rw[if_neg h]
theorem z07 {H:Hp}{a b:Addr}{o:HO}(h:H a=some o)(h':H b=none):a≠b:=by intro e;subst e;rw[h]at h';cases h'
def TupN (h:Heap)(a:Addr)(l:Array Value):Prop:=∃n,h.get? a=some {cls:=.type "tuple",data:=.seq l n}
theorem TupN.tup {h:Heap}{a:Addr}{l:Array Value}(x:TupN h a l):IsTup h a l:=let⟨n,q⟩:=x;⟨_,q,rfl,n,rfl⟩
theorem TupN.new (h:Heap)(l:Array Value):TupN (h.push {cls:=.type "tuple",data:=.seq l}) h.objs.size l:=⟨_,au _ rfl⟩
def zgl (h:Heap)(a:Addr)(l:Array Value):Prop:=∃o n,h.get? a=some o/\o.cls=.type "tuple"/\o.dict=none/\o.data=.seq l n
section
variable (P:aq)(w:World)
def z0k (H:Hp)(h:Heap)(a:Addr):HO->Prop
 |.lst xs=>xs.length<=az/\∃(its:List Value) (n:Nat),Vals xs its/\h.get? a=some {cls:=.type "list",data:=.seq its.toArray n}
 |.tup xs=>xs.length<=az/\∃its:List Value,Vals xs its/\TupN h a its.toArray
 |.dK kvs=>kvs.length<=az/\(a==gf)=false/\∃vs,KV kvs vs/\h.DictOf (z0l P w) a vs
 |.dT kvs=>kvs.length<=az/\(a==gf)=false/\∃xs:List (List Key×Addr×Value),
  g9 (fun(p:List Key×V) (q:List Key×Addr×Value)=>p.1=q.1/\H q.2.1=some (.tup (p.1.map kV))/\RelV p.2 q.2.2) kvs xs/\
  ∃o es ep,h.get? a=some o/\o.ExactDict/\o.data=.dict es ep/\es.toList=xs.map (entryOfKey (k9 (z0l P w)))/\(xs.map (·.1)).Nodup
 |.set S n=>h.SetOf (intKind P w) a S n
 |.ins C dx fs=>H dx=some (.own a)/\fs.length<=1000/\dx≠a/\h.get? a=some (W.instObj C dx)/\∃mA,h.Ns1 dx mA/\(∀f,RelO (fs.lookup f) (mA f))/\PySem.Within mA (fs.map (·.1))
 |.own _=>∃o,h.get? a=some o
 |.xd fs=>∃mA,h.Ns1 a mA/\∀f,RelO (fs.lookup f) (mA f)
 |.rng lo hi=>∃t u v,h.get? a=some {cls:=.type "range",data:=.fields #[.int lo t,.int hi u,.int 1 v]}
 |.frz o u=>h.get? a=some o/\z0k H h a u
 |.tbl ps=>h.get? a=some {cls:=.none,data:=.fields ps}
 |.met f x=>h.get? a=some (W.methodObj (.ref f) (.ref x))
 |.ext φ=>φ h/\(∃o,h.get? a=some o)/\∀h1 h2:Heap,φ h1->(∀o,h1.get? a=some o->h2.get? a=some o)->φ h2
def HOk (H:Hp)(h:Heap):Prop:=∀a o,H a=some o->z0k P w H h a o
end
section
variable {P:aq}{w:World}{H H':Hp}{h h':Heap}{a:Addr}{o:HO}
theorem z0k.lt (x:z0k P w H h a o):a<h.objs.size:=by
 cases o with
 |lst xs=>obtain⟨_,_,_,_,e⟩:=x;exact ax e
 |tup xs=>obtain⟨_,_,_,_,q⟩:=x;exact ax q
 |dK kvs=>obtain⟨_,_,_,_,o,_,_,e,_⟩:=x;exact ax e
 |dT kvs=>obtain⟨_,_,_,_,o,_,_,e,_⟩:=x;exact ax e
 |set S n=>obtain⟨o,_,_,_,e,_⟩:=x;exact ax e
 |ins C dx fs=>obtain⟨_,_,_,e,_⟩:=x;exact ax e
 |own y=>obtain⟨_,e⟩:=x;exact ax e
 |xd fs=>obtain⟨_,⟨_,_,_,e,_⟩,_⟩:=x;exact ax e
 |rng lo hi=>obtain⟨_,_,_,e⟩:=x;exact ax e
 |frz ob u=>obtain⟨e,_⟩:=x;exact ax e
 |tbl ps=>exact ax (show h.get? a=some _ from x)
 |met f y=>exact ax (show h.get? a=some _ from x)
 |ext φ=>obtain⟨_,⟨_,e⟩,_⟩:=x;exact ax e
theorem Paired.mapP {α β:Type}{F G:α->β->Prop}:∀{l₁:List α} {l₂:List β},g9 F l₁ l₂->(∀a b,F a b->G a b)->g9 G l₁ l₂
 |_,_,.nil,_=>.nil
 |_,_,.cons r t,f=>.cons (f _ _ r) (Paired.mapP t f)
theorem z0k.stay (x:z0k P w H h a o)(k:∀b u,(b=a\/H b=some (.own a))->h.get? b=some u->h'.get? b=some u)
  (ho:∀b,H b=some (.own a)->H' b=some (.own a)) (ht:∀b xs,H b=some (.tup xs)->H' b=some (.tup xs)):z0k P w H' h' a o:=by
 induction o with
 |lst xs=>obtain⟨z,its,n,r,e⟩:=x;exact⟨z,its,n,r,k _ _ (.inl rfl) e⟩
 |tup xs=>obtain⟨z,l,r,n,q⟩:=x;exact⟨z,l,r,n,k _ _ (.inl rfl) q⟩
 |dK kvs=>obtain⟨z,y,vs,r,ob,es,ep,e,c⟩:=x;exact⟨z,y,vs,r,ob,es,ep,k _ _ (.inl rfl) e,c⟩
 |dT kvs=>obtain⟨z,y,xs,r,ob,es,ep,e,c⟩:=x;exact⟨z,y,xs,Paired.mapP r fun p q z=>⟨z.1,ht _ _ z.2.1,z.2.2⟩,ob,es,ep,k _ _ (.inl rfl) e,c⟩
 |set S n=>obtain⟨ob,es,ep,t,e,c⟩:=x;exact⟨ob,es,ep,t,k _ _ (.inl rfl) e,c⟩
 |ins C dx fs=>obtain⟨d,z,ne,e,mA,⟨od,es,ep,e2,c⟩,r⟩:=x;exact⟨ho _ d,z,ne,k _ _ (.inl rfl) e,mA,⟨od,es,ep,k _ _ (.inr d) e2,c⟩,r⟩
 |own y=>obtain⟨ob,e⟩:=x;exact⟨ob,k _ _ (.inl rfl) e⟩
 |xd fs=>obtain⟨mA,⟨od,es,ep,e,c⟩,r⟩:=x;exact⟨mA,⟨od,es,ep,k _ _ (.inl rfl) e,c⟩,r⟩
 |rng lo hi=>obtain⟨t,u,v,e⟩:=x;exact⟨t,u,v,k _ _ (.inl rfl) e⟩
 |frz ob u ih=>obtain⟨e,q⟩:=x;exact⟨k _ _ (.inl rfl) e,ih q⟩
 |tbl ps=>have e:h.get? a=some {cls:=.none,data:=.fields ps}:=x;show h'.get? a=some {cls:=.none,data:=.fields ps};exact k a _ (.inl rfl) e
 |met f y=>have e:h.get? a=some (W.methodObj (.ref f) (.ref y)):=x;show h'.get? a=some (W.methodObj (.ref f) (.ref y));exact k a _ (.inl rfl) e
 |ext φ=>obtain⟨p,⟨o,e⟩,st⟩:=x;exact⟨st _ _ p fun o q=>k _ _ (.inl rfl) q,⟨o,k _ _ (.inl rfl) e⟩,st⟩
theorem HOk.lt (x:HOk P w H h)(e:H a=some o):a<h.objs.size:=(x a o e).lt
theorem HOk.fresh (x:HOk P w H h)(e:h.objs.size<=a):H a=none:=by
 cases q:H a with
 |none=>rfl
 |some u=>exact absurd (bn (x.lt q) e) (bx _)
theorem HOk.kept (x:HOk P w H h)(k:∀b u,h.get? b=some u->h'.get? b=some u):HOk P w H h':=fun a o e=>(x a o e).stay (fun b u _ q=>k b u q) (fun _ q=>q) fun _ _ q=>q
theorem HOk.laid (x:HOk P w H h)(k:∀b u,h.get? b=some u->h'.get? b=some u)(hp:h.objs.size<=a)(new:z0k P w (upd H a o) h' a o):HOk P w (upd H a o) h':=fun b u e=>by
 have hn:=x.fresh hp;by_cases hb:b=a
 ·subst hb;rw[z08]at e;cases e;exact new
 ·rw[z03 hb]at e;exact(x b u e).stay (fun c v _ q=>k c v q) (fun c q=>by rw[z03 (z07 q hn)];exact q) fun c xs q=>by rw[z03 (z07 q hn)];exact q
end
def Rd (H:Hp)(a:Addr)(u:HO):Prop:=H a=some u\/∃o,H a=some (.frz o u)
theorem Rd.of {H:Hp}{a:Addr}{u:HO}(h:H a=some u):Rd H a u:=.inl h
theorem Rd.ok {P:aq}{w:World}{H:Hp}{h:Heap}{a:Addr}{u:HO}(r:Rd H a u)(x:HOk P w H h):z0k P w H h a u:=by
 rcases r with r|⟨o,r⟩
 ·exact x a u r
 ·obtain⟨_,q⟩:=x a _ r;exact q
def Mut:Option HO->Prop
 |some (.lst _)=>True
 |some (.dK _)=>True
 |some (.dT _)=>True
 |some (.set _ _)=>True
 |some (.ins _ _ _)=>True
 |some (.ext _)=>True
 |_=>False
section
variable {P:aq}{w:World}{H:Hp}{h h':Heap}{x e:Addr}{o':HO}
theorem HOk.write (ok:HOk P w H h)(mu:Mut (H x))(he:e=x\/H e=some (.own x))(k:∀b u,b≠e->h.get? b=some u->h'.get? b=some u)(heo:∃u,h'.get? e=some u)
  (new:z0k P w (upd H x o') h' x o'):HOk P w (upd H x o') h':=fun b u q=>by
 have nown:∀c y,H c=some (.own y)->c≠x:=fun c y r z=>by subst z;rw[r]at mu;exact mu
 have ntup:∀c xs,H c=some (.tup xs)->c≠x:=fun c xs r z=>by subst z;rw[r]at mu;exact mu
 by_cases hb:b=x
 ·subst hb;rw[z08]at q;cases q;exact new
 ·rw[z03 hb]at q;by_cases hbe:b=e
  ·have q':H b=some (.own x):=by
    rcases he with z|z
    ·exact absurd (hbe.trans z) hb
    ·rw[hbe];exact z
   rw[q]at q';cases q';obtain⟨v,hv⟩:=heo;exact⟨v,by rw[hbe];exact hv⟩
  ·refine(ok b u q).stay (fun c v hc r=>k c v ?_ r) (fun c r=>by rw[z03 (nown c b r)];exact r) fun c xs r=>by rw[z03 (ntup c xs r)];exact r
   rcases hc with rfl|hc
   ·exact hbe
   ·rintro rfl
    rcases he with z|z
    ·exact nown c b hc z
    ·rw[hc]at z;cases z;exact hb rfl
end
structure Un (fs ex:List Addr)(H H':Hp)(h h':Heap):Prop where
 keep:∀b o,h.get? b=some o->H b=none->b∉fs->b∉ex->h'.get? b=some o
 slot:∀b o,h.get? b=some o->H b=none->b∈fs->b∉ex->∃sl,h'.get? b=some {o with slots:=sl}
 free:∀b o,h.get? b=some o->H b=none->b∉ex->H' b=none
 there:∀b o,h.get? b=some o->b∉ex->∃o',h'.get? b=some o'
 tups:∀b xs,H b=some (.tup xs)->H' b=some (.tup xs)
 frzs:∀b o u,H b=some (.frz o u)->H' b=some (.frz o u)
 tbls:∀b ps,H b=some (.tbl ps)->∃more,H' b=some (.tbl (ps++more))
section
variable {fs fs' ex ex':List Addr}{H H1 H2:Hp}{h h1 h2 h':Heap}{a x e:Addr}{o:HO}
theorem Un.any (u:Un fs ex H H1 h h1){b:Addr}{ob:Obj}(q:h.get? b=some ob)(n:H b=none)(hx:b∉ex):∃sl,h1.get? b=some {ob with slots:=sl}:=by
 by_cases hb:b∈fs
 ·exact u.slot b ob q n hb hx
 ·exact⟨ob.slots,u.keep b ob q n hb hx⟩
theorem Un.trans (a:Un fs ex H H1 h h1)(b:Un fs ex H1 H2 h1 h2):Un fs ex H H2 h h2 where
 keep:=fun c ob q n hc hx=>b.keep c ob (a.keep c ob q n hc hx) (a.free c ob q n hx) hc hx
 slot:=fun c ob q n hc hx=>by obtain⟨sl,e1⟩:=a.slot c ob q n hc hx;obtain⟨sl',e2⟩:=b.slot c _ e1 (a.free c ob q n hx) hc hx;exact⟨sl',e2⟩
 free:=fun c ob q n hx=>by obtain⟨o',e1⟩:=a.there c ob q hx;exact b.free c o' e1 (a.free c ob q n hx) hx
 there:=fun c ob q hx=>by obtain⟨o',e1⟩:=a.there c ob q hx;exact b.there c o' e1 hx
 tups:=fun c xs q=>b.tups c xs (a.tups c xs q)
 frzs:=fun c ob xs q=>b.frzs c ob xs (a.frzs c ob xs q)
 tbls:=fun c ps q=>by obtain⟨m1,e1⟩:=a.tbls c ps q;obtain⟨m2,e2⟩:=b.tbls c _ e1;exact⟨m1++m2,by rw[e2,lx]⟩
theorem Un.kept (k:∀b u,h.get? b=some u->h'.get? b=some u):Un fs ex H H h h':=⟨fun b ob q _ _ _=>k b ob q,fun b ob q _ _ _=>⟨ob.slots,k b ob q⟩,fun _ _ _ n _=>n,fun b ob q _=>⟨ob,k b ob q⟩,fun _ _ q=>q,fun _ _ _ q=>q,fun _ ps q=>⟨#[],by rw[q];simp⟩⟩
theorem Un.refl:Un fs ex H H h h:=Un.kept fun _ _ q=>q
theorem Un.laid (k:∀b u,h.get? b=some u->h'.get? b=some u)(hp:h.objs.size<=a)(hn:H a=none):Un fs ex H (upd H a o) h h' where
 keep:=fun b u q _ _ _=>k b u q
 slot:=fun b u q _ _ _=>⟨u.slots,k b u q⟩
 free:=fun b u q n _=>by rw[z03 (bq (bn (ax q) hp))];exact n
 there:=fun b u q _=>⟨u,k b u q⟩
 tups:=fun b xs q=>by rw[z03 (z07 q hn)];exact q
 frzs:=fun b u xs q=>by rw[z03 (z07 q hn)];exact q
 tbls:=fun b ps q=>⟨#[],by rw[z03 (z07 q hn),q];simp⟩
theorem Un.write (mu:Mut (H x))(he:e=x\/H e=some (.own x))(k:∀b u,b≠e->h.get? b=some u->h'.get? b=some u)(heo:∃u,h'.get? e=some u):Un fs ex H (upd H x o) h h':=by
 have hx:∀b,H b=none->b≠x:=fun b n z=>by subst z;rw[n]at mu;exact mu
 have hb:∀b,H b=none->b≠e:=fun b n z=>by
  subst z;rcases he with r|r
  ·exact hx b n r
  ·rw[n]at r;cases r
 have hm:∀b u,H b=some u->¬Mut (some u)->b≠x:=fun b u q nm z=>by subst z;rw[q]at mu;exact nm mu
 refine⟨fun b u q n _ _=>k b u (hb b n) q,fun b u q n _ _=>⟨u.slots,k b u (hb b n) q⟩,fun b u q n _=>by rw[z03 (hx b n)];exact n,fun b u q _=>?_,fun b xs q=>by rw[z03 (hm b _ q fun z=>z)];exact q,fun b u xs q=>by rw[z03 (hm b _ q fun z=>z)];exact q,fun b ps q=>⟨#[],by rw[z03 (hm b _ q fun z=>z),q];simp⟩⟩;by_cases hbe:b=e
 ·subst hbe;exact heo
 ·exact⟨u,k b u hbe q⟩
theorem Un.mono (u:Un fs ex H H1 h h1)(hs:∀b∈fs,b∈fs')(hx:∀b∈ex,b∈ex'):Un fs' ex' H H1 h h1:=⟨fun b ob q n hb he=>u.keep b ob q n (fun z=>hb (hs b z)) fun z=>he (hx b z),fun _ _ q n _ he=>u.any q n fun z=>he (hx _ z),fun b ob q n he=>u.free b ob q n fun z=>he (hx b z),fun b ob q he=>u.there b ob q fun z=>he (hx b z),u.tups,u.frzs,u.tbls⟩
end
def trk (h:Heap)(H:Hp):List Addr:=(b6 h.objs.size).filter fun a=>(H a).isSome
def hidT (h:Heap)(H:Hp):Heap:=W.hideAll h (trk h H)
theorem z84 (h:Heap)(H:Hp):(hidT h H).objs.size=h.objs.size:=W.hideAll_size _ _
theorem zb7 {h:Heap}{H:Hp}{b:Addr}{o:Obj}(e:h.get? b=some o)(n:H b=none):(hidT h H).get? b=some o:=W.hideAll_get _ e fun hm=>by have q:(H b).isSome=true:=(List.mem_filter.mp hm).2;rw[n]at q;simp at q
theorem zds {h:Heap}{H:Hp}{b:Addr}{o:Obj}(e:(hidT h H).get? b=some o):h.get? b=some o/\H b=none:=by
 have e':h.get? b=some o:=W.of_hideAll (trk h H) e;refine⟨e',?_⟩;cases q:H b with
 |none=>rfl
 |some x=>have hm:b∈trk h H:=List.mem_filter.mpr ⟨d5.mpr (ax e'),by simp[q]⟩;have z:(hidT h H).get? b=none:=W.hideAll_none (trk h H) hm;rw[z]at e;cases e
def zd4 (g h:Heap)(L:Addr):List (Addr×Obj):=(b6 h.objs.size).filterMap fun a=>if a=L\/(g.get? a).isSome=true then none else(h.get? a).map fun o=>(a,o)
def rest (g h:Heap)(L d:Addr):List (Addr×Obj):=(zd4 g h L).filter fun p=>decide (p.1≠d)
structure Mod (K:W.Frag)(mg:Str->Option Value)(base:Heap):Prop where
 kin:K.In base
 glob:base.Ns bj mg
 blt:∃mb,base.Ns m5 mb/\∀x:Str,x≠"__name__"->mb x=cv x
 nolimit:base.NoLimit
structure Cx where
 prog:aq
 w:World
 K:W.Frag
 mg:Str->Option Value
 base:Heap
 A:bt
 N:List Str
 s₀:ac
 H₀:Hp
 env:Env
 outer:List Env
 stack:List Env
 ex:List Addr
 fn:Str->Bool
 calm:Bool
 pn:List (Addr×Obj)
 xe:Value->ac->Prop
 fx:Option (Str×Value):=none
def frs (l:List Env):List Addr:=l.filterMap (·.frame)
abbrev Cx.fs (X:Cx):List Addr:=frs X.outer
def Vis (sc:Scope)(x:Str):Prop:=sc.names.lookup x=some .local\/sc.names.lookup x=some .cell\/sc.names.lookup x=some .free
def Loc (sc:Scope)(x:Str):Prop:=sc.names.lookup x=some .local\/sc.names.lookup x=some .cell
def Look (env:Env)(h:Heap)(m:Str->Option Value)(x:Str)(u:Value):Prop:=(env.kindOf x=some .local/\m x=some u)\/((env.kindOf x=some .cell\/env.kindOf x=some .free)/\∃c,env.cells.lookup x=some c/\h.IsCell c (some u))
structure Cx.Ok (X:Cx):Prop where
 mod:Mod X.K X.mg X.base
 kind:X.env.scope.kind=.function
 glob:X.env.globals=bj
 blt:X.env.builtins=m5
 above:X.s₀.heap.objs.size<=X.env.locals
 inj:∀x y c,X.env.cells.lookup x=some c->X.env.cells.lookup y=some c->x=y
 has:∀x,(X.env.kindOf x=some .cell\/X.env.kindOf x=some .free)->∃c,X.env.cells.lookup x=some c
 cab:∀x c,X.fn x=true->X.env.cells.lookup x=some c->X.s₀.heap.objs.size<=c
 hd:X.calm=true->X.A.handled=none
 frames:X.A.frames=some X.stack
 stk:X.stack=X.outer\/(X.stack=X.env::X.outer/\X.env.frame=some X.env.locals)
 exf:∀b∈X.ex,b≠X.env.locals/\∀x c,X.env.cells.lookup x=some c->c≠b
 bs:∀b o,X.base.get? b=some o->X.s₀.heap.get? b=some o/\X.H₀ b=none
 bsz:X.base.objs.size<=X.s₀.heap.objs.size
 noex:∀b o,X.base.get? b=some o->b∉X.ex
 exfs:∀b∈X.ex,b∉X.fs
 funs:X.s₀.heap.FunFrames X.base X.outer
 frf:∀b∈X.fs,X.H₀ b=none
 fxN:∀x u,X.fx=some (x,u)->x∉X.N/\X.env.scope.names.lookup x=some .local
structure Inv (X:Cx)(pins:List (Addr×Obj))(σ:List (Option V))(H:Hp)(s:ac):Prop where
 ok:X.Ok
 os:s.os=X.s₀.os
 bare:i0 s.gens
 base:Un X.fs X.ex X.H₀ H X.s₀.heap s.heap
 loc:∃m,s.heap.Ns X.env.locals m/\∀(i:Nat) (x:Str) (v:V),X.N[i]?=some x->σ[i]?=some (some v)->Vis X.env.scope x->∃u,RelV v u/\Look X.env s.heap m x u
 cell:∀x c,X.env.cells.lookup x=some c->∃v,s.heap.IsCell c v
 free:H X.env.locals=none
 freeC:∀x c,X.env.cells.lookup x=some c->H c=none
 pin:∀p∈X.pn++pins,s.heap.get? p.1=some p.2/\H p.1=none/\p.1≠X.env.locals/\p.1∉X.fs/\∀v,p.2.data≠.cell v
 hok:HOk X.prog X.w H s.heap
 len:σ.length=X.N.length
 fx:∀x u,X.fx=some (x,u)->∃m,s.heap.Ns X.env.locals m/\m x=some u
section
variable {X:Cx}{pins:List (Addr×Obj)}{σ:List (Option V)}{H H':Hp}{s:ac}{h':Heap}
theorem Cx.Ok.nofr (ok:X.Ok){b:Addr}{o:Obj}(e:X.base.get? b=some o):b∉X.fs:=fun hb=>by have:=(ok.funs.mem hb).1;rw[e]at this;cases this
theorem Inv.bs (I:Inv X pins σ H s):∀b o,X.base.get? b=some o->s.heap.get? b=some o/\H b=none:=fun b o e=>⟨I.base.keep b o (I.ok.bs b o e).1 (I.ok.bs b o e).2 (I.ok.nofr e) (I.ok.noex b o e),I.base.free b o (I.ok.bs b o e).1 (I.ok.bs b o e).2 (I.ok.noex b o e)⟩
theorem Inv.bk (I:Inv X pins σ H s):∀b o,X.base.get? b=some o->s.heap.get? b=some o:=fun b o e=>(I.bs b o e).1
theorem Inv.mod (I:Inv X pins σ H s):Mod X.K X.mg X.base:=I.ok.mod
theorem Inv.kIn (I:Inv X pins σ H s):X.K.In s.heap:=I.ok.mod.kin.keeps I.bk
theorem Inv.nolimit (I:Inv X pins σ H s):s.heap.NoLimit:=I.ok.mod.nolimit.keeps I.bk
theorem Inv.fr (I:Inv X pins σ H s):∃m,Fr X.base X.env.locals s.heap m:=
 let⟨m,hn,_⟩:=I.loc
 ⟨m,hn,I.bk,b8 I.ok.bsz I.ok.above⟩
theorem Inv.lt (I:Inv X pins σ H s):X.env.locals<s.heap.objs.size:=let⟨_,hn,_⟩:=I.loc;hn.lt
theorem Inv.sz (I:Inv X pins σ H s):X.s₀.heap.objs.size<=s.heap.objs.size:=b8 I.ok.above (l6 I.lt)
theorem Inv.nofs (I:Inv X pins σ H s){a:Addr}(h:s.heap.objs.size<=a):a∉X.fs:=fun hb=>by obtain⟨_,o,ho,_⟩:=I.ok.funs.mem hb;exact absurd (bn (ax ho) (b8 I.sz h)) (bx _)
theorem Inv.cne (I:Inv X pins σ H s):∀x c,X.env.cells.lookup x=some c->c≠X.env.locals:=fun x c e z=>by obtain⟨v,o,ho,hd⟩:=I.cell x c e;obtain⟨m,⟨o',es,ep,ho',hd',_⟩,_⟩:=I.loc;rw[z,ho']at ho;cases ho;rw[hd']at hd;cases hd
theorem Inv.funs (I:Inv X pins σ H s):s.heap.FunFrames X.base X.outer:=by
 have all:∀(l:List Env),(∀b∈frs l,b∈X.fs)->X.s₀.heap.FunFrames X.base l->s.heap.FunFrames X.base l:=by
  intro l
  induction l with
  |nil=>intro _ _;trivial
  |cons env r ih=>intro hs hl;obtain⟨hk,⟨L,o,hf,hn,ho,hd⟩,hr⟩:=hl;have hL:L∈X.fs:=hs L (by unfold frs;rw[du,hf];exact ar);obtain⟨sl,e⟩:=I.base.slot L o ho (I.ok.frf L hL) hL fun z=>I.ok.exfs L z hL;exact⟨hk,⟨L,_,hf,hn,e,hd⟩,ih (fun b hb=>hs b (by unfold frs;rw[du,hf];exact bg _ hb)) hr⟩
 exact all X.outer (fun _ hb=>hb) I.ok.funs
theorem Inv.stack (I:Inv X pins σ H s):s.heap.FunFrames X.base X.stack:=by
 rcases I.ok.stk with e|⟨e,hf⟩
 ·rw[e];exact I.funs
 ·rw[e];obtain⟨m,hn,_⟩:=I.loc;refine .cons (by rw[I.ok.kind];decide) hf hn ?_ I.funs;exact kr (b8 I.ok.bsz I.ok.above)
theorem Inv.stkSub (I:Inv X pins σ H s):∀b∈frs X.stack,b∈X.env.locals::X.fs:=fun b hb=>by
 rcases I.ok.stk with e|⟨e,hf⟩
 ·rw[e]at hb;exact bg _ hb
 ·rw[e]at hb;unfold frs at hb;rw[du,hf]at hb;exact hb
theorem Inv.stkFree (I:Inv X pins σ H s):∀b∈frs X.stack,H b=none:=fun b hb=>by
 rcases bc.mp (I.stkSub b hb)with e|hb
 ·rw[e];exact I.free
 ·obtain⟨_,o,ho,_⟩:=I.ok.funs.mem hb;exact I.base.free b o ho (I.ok.frf b hb) fun z=>I.ok.exfs b z hb
theorem Inv.step {g':Array l7}{t':Nat}{d':Drawn}{ch:List Addr}(I:Inv X pins σ H s)
  (hch:∀b∈ch,(b∈X.ex\/X.s₀.heap.objs.size<=b)/\b≠X.env.locals/\(∀x c,X.env.cells.lookup x=some c->c≠b)/\∀p∈X.pn++pins,p.1≠b)
  (keep:∀b o,b≠X.env.locals->b∉X.fs->b∉ch->s.heap.get? b=some o->H b=none->h'.get? b=some o)
  (slot:∀b o,b≠X.env.locals->b∈X.fs->b∉ch->s.heap.get? b=some o->H b=none->∃sl,h'.get? b=some {o with slots:=sl}) (free:∀b o,b∉ch->s.heap.get? b=some o->H b=none->H' b=none)
  (there:∀b o,b∉ch->s.heap.get? b=some o->∃o',h'.get? b=some o')
  (tups:∀b xs,H b=some (.tup xs)->H' b=some (.tup xs)) (frzs:∀b o u,H b=some (.frz o u)->H' b=some (.frz o u)) (tbls:∀b ps,H b=some (.tbl ps)->∃more,H' b=some (.tbl (ps++more)))
  (ns:∀m,s.heap.Ns X.env.locals m->h'.Ns X.env.locals m) (hok:HOk X.prog X.w H' h') (hg:i0 g'):
  Inv X pins σ H' {s with heap:=h',gens:=g',drawn:=d',toks:=t'}:=by
 have neL:∀b o,X.s₀.heap.get? b=some o->b≠X.env.locals:=fun b o e=>bq (bn (ax e) I.ok.above)
 have neC:∀b o,X.s₀.heap.get? b=some o->b∉X.ex->b∉ch:=fun b o e hx hb=>by
  rcases(hch b hb).1 with z|z
  ·exact hx z
  ·exact absurd (bn (ax e) z) (bx _)
 have cellK:∀x c,X.env.cells.lookup x=some c->∀v,s.heap.IsCell c v->h'.IsCell c v:=fun x c e v ⟨o,ho,hd⟩=>by
  have nch:c∉ch:=fun z=>(hch c z).2.2.1 x c e rfl;by_cases hc:c∈X.fs
  ·obtain⟨sl,q⟩:=slot c o (I.cne x c e) hc nch ho (I.freeC x c e);exact⟨_,q,hd⟩
  ·exact⟨o,keep c o (I.cne x c e) hc nch ho (I.freeC x c e),hd⟩
 refine⟨I.ok,I.os,hg,⟨fun b o e n hb hx=>?_,fun b o e n hb hx=>?_,fun b o e n hx=>?_,fun b o e hx=>?_,fun b xs e=>tups b xs (I.base.tups b xs e),fun b o xs e=>frzs b o xs (I.base.frzs b o xs e),fun b ps e=>?_⟩,?_,fun x c e=>?_,?_,fun x c e=>?_,fun p hp=>?_,hok,I.len,fun x u e=>let⟨m,hn,q⟩:=I.fx x u e;⟨m,ns m hn,q⟩⟩
 ·exact keep b o (neL b o e) hb (neC b o e hx) (I.base.keep b o e n hb hx) (I.base.free b o e n hx)
 ·obtain⟨sl,e1⟩:=I.base.slot b o e n hb hx;obtain⟨sl',e2⟩:=slot b _ (neL b o e) hb (neC b o e hx) e1 (I.base.free b o e n hx);exact⟨sl',e2⟩
 ·obtain⟨o',e1⟩:=I.base.there b o e hx;exact free b o' (neC b o e hx) e1 (I.base.free b o e n hx)
 ·obtain⟨o',e1⟩:=I.base.there b o e hx;exact there b o' (neC b o e hx) e1
 ·obtain⟨m1,e1⟩:=I.base.tbls b ps e;obtain⟨m2,e2⟩:=tbls b _ e1;exact⟨m1++m2,by rw[e2,lx]⟩
 ·obtain⟨m,hn,hl⟩:=I.loc;refine⟨m,ns m hn,fun i x v e1 e2 e3=>?_⟩;obtain⟨u,r,l⟩:=hl i x v e1 e2 e3;refine⟨u,r,?_⟩;rcases l with l|⟨k,c,e,z⟩
  ·exact .inl l
  ·exact .inr ⟨k,c,e,cellK x c e _ z⟩
 ·obtain⟨v,z⟩:=I.cell x c e;exact⟨v,cellK x c e v z⟩
 ·obtain⟨m,⟨o,_,_,ho,_⟩,_⟩:=I.loc;exact free _ o (fun z=>(hch _ z).2.1 rfl) ho I.free
 ·obtain⟨v,o,ho,hd⟩:=I.cell x c e;exact free c o (fun z=>(hch c z).2.2.1 x c e rfl) ho (I.freeC x c e)
 ·obtain⟨e,n,ne,nf,d⟩:=I.pin p hp;have nch:p.1∉ch:=fun z=>(hch p.1 z).2.2.2 p hp rfl;exact⟨keep p.1 p.2 ne nf nch e n,free p.1 p.2 nch e n,ne,nf,d⟩
theorem Inv.un {t':Nat}(I:Inv X pins σ H s)(u:Un X.fs [] H H' s.heap h')(hok:HOk X.prog X.w H' h'):Inv X pins σ H' {s with heap:=h',toks:=t'}:=by obtain⟨m,⟨o,es,ep,ho,r⟩,_⟩:=id I.loc;obtain⟨sl,hL⟩:=u.any ho I.free (by simp);exact I.step (g':=s.gens) (d':=s.drawn) (ch:=[]) (fun _ z=>nomatch z) (fun b o _ hb _ e n=>u.keep b o e n hb (by simp)) (fun b o _ hb _ e n=>u.slot b o e n hb (by simp)) (fun b o _ e n=>u.free b o e n (by simp)) (fun b o _ e=>u.there b o e (by simp)) u.tups u.frzs u.tbls (fun m' hm=>by obtain⟨o',es',ep',ho',r'⟩:=hm;rw[ho]at ho';cases ho';exact⟨_,es',ep',hL,r'⟩) hok I.bare
theorem Inv.call {g':Array l7}{t':Nat}{d':Drawn}{ch:List Addr}(I:Inv X pins σ H s)(u:Un (frs X.stack) ch H H' s.heap h')(hok:HOk X.prog X.w H' h')(hg:i0 g')
  (hch:∀b∈ch,(b∈X.ex\/X.s₀.heap.objs.size<=b)/\b≠X.env.locals/\(∀x c,X.env.cells.lookup x=some c->c≠b)/\∀p∈X.pn++pins,p.1≠b):
  Inv X pins σ H' {s with heap:=h',gens:=g',drawn:=d',toks:=t'}:=by
 obtain⟨m,⟨o,es,ep,ho,r⟩,_⟩:=id I.loc;obtain⟨sl,hL⟩:=u.any ho I.free fun z=>(hch _ z).2.1 rfl;exact I.step (ch:=ch) hch (fun b o hL hb hc e n=>u.keep b o e n (fun z=>(bc.mp (I.stkSub b z)).elim hL hb) hc) (fun b o _ _ hc e n=>u.any e n hc) (fun b o hc e n=>u.free b o e n hc) (fun b o hc e=>u.there b o e hc) u.tups u.frzs u.tbls (fun m' hm=>by obtain⟨o',es',ep',ho',r'⟩:=hm;rw[ho]at ho';cases ho';exact⟨_,es',ep',hL,r'⟩) hok hg
theorem Inv.turned {t':Nat}{it:Addr}(I:Inv X pins σ H s)(k:∀b o,b≠it->s.heap.get? b=some o->h'.get? b=some o)(hn:H it=none)(hL:it≠X.env.locals)
  (h1:it∈X.ex\/X.s₀.heap.objs.size<=it) (h2:∀x c,X.env.cells.lookup x=some c->c≠it) (h3:∀p∈X.pn++pins,p.1≠it):Inv X pins σ H {s with heap:=h',toks:=t'}:=by
 have nit:∀b u,H b=some u->b≠it:=fun b u e z=>by rw[z,hn]at e;cases e
 refine I.step (g':=s.gens) (d':=s.drawn) (ch:=[it]) (fun b hb=>?_) (fun b o _ _ hc e _=>k b o (fun z=>hc (by simp[z])) e) (fun b o _ _ hc e _=>⟨o.slots,k b o (fun z=>hc (by simp[z])) e⟩) (fun _ _ _ _ n=>n) (fun b o hc e=>⟨o,k b o (fun z=>hc (by simp[z])) e⟩) (fun _ _ e=>e) (fun _ _ _ e=>e) (fun b ps e=>⟨#[],by rw[e];simp⟩) (fun m hm=>?_) (fun b u e=>?_) I.bare
 ·have e:b=it:=by simpa using hb
  subst e;exact⟨h1,hL,h2,h3⟩
 ·obtain⟨o,es,ep,ho,r⟩:=hm;exact⟨o,es,ep,k _ o (Ne.symm hL) ho,r⟩
 ·refine(I.hok b u e).stay (fun c v hc q=>k c v ?_ q) (fun _ q=>q) fun _ _ q=>q;rcases hc with z|z
  ·rw[z];exact nit b u e
  ·exact nit c _ z
theorem Inv.tok (I:Inv X pins σ H s)(t:Nat):Inv X pins σ H {s with toks:=t}:=I.un (h':=s.heap) (t':=t) Un.refl I.hok
theorem Inv.kept {t':Nat}(I:Inv X pins σ H s)(k:∀b u,s.heap.get? b=some u->h'.get? b=some u):Inv X pins σ H {s with heap:=h',toks:=t'}:=I.un (Un.kept k) (I.hok.kept k)
theorem Inv.laid {a:Addr}{o:HO}{t':Nat}(I:Inv X pins σ H s)(k:∀b u,s.heap.get? b=some u->h'.get? b=some u)(hp:s.heap.objs.size<=a)(new:z0k X.prog X.w (upd H a o) h' a o): Inv X pins σ (upd H a o) {s with heap:=h',toks:=t'}:=I.un (Un.laid k hp (I.hok.fresh hp)) (I.hok.laid k hp new)
theorem Inv.write {x e:Addr}{o:HO}{t':Nat}(I:Inv X pins σ H s)(mu:Mut (H x))(he:e=x\/H e=some (.own x))(k:∀b u,b≠e->s.heap.get? b=some u->h'.get? b=some u)(heo:∃u,h'.get? e=some u) (new:z0k X.prog X.w (upd H x o) h' x o):Inv X pins σ (upd H x o) {s with heap:=h',toks:=t'}:=I.un (Un.write mu he k heo) (I.hok.write mu he k heo new)
theorem Inv.weak {σ':List (Option V)}(I:Inv X pins σ H s)(hl:σ'.length=σ.length)(w:∀(i:Nat) v,σ'[i]?=some (some v)->σ[i]?=some (some v)):Inv X pins σ' H s:=⟨I.ok,I.os,I.bare,I.base,let⟨m,hn,hl'⟩:=I.loc;⟨m,hn,fun i x v e1 e2 e3=>hl' i x v e1 (w i v e2) e3⟩,I.cell,I.free,I.freeC,I.pin,I.hok,hl.trans I.len,I.fx⟩
theorem Inv.pins_of {pins':List (Addr×Obj)}(I:Inv X pins σ H s)(h:∀p∈pins',s.heap.get? p.1=some p.2/\H p.1=none/\p.1≠X.env.locals/\p.1∉X.fs/\∀v,p.2.data≠.cell v):Inv X pins' σ H s:=⟨I.ok,I.os,I.bare,I.base,I.loc,I.cell,I.free,I.freeC,fun p hp=>(dh.mp hp).elim (fun z=>I.pin p (cu _ z)) (h p),I.hok,I.len,I.fx⟩
theorem zho {h:Heap}{a:Addr}{m m':Str->Option Value}(x:h.Ns a m)(y:h.Ns a m')(n:Str):m n=m' n:=by obtain⟨o,es,ep,e,d,_,f⟩:=x;obtain⟨o',es',ep',e',d',_,f'⟩:=y;rw[e]at e';cases e';rw[d]at d';cases d';rw[<-f n,f' n]
theorem z5w {N:List Str}(hN:N.Nodup){i j:Nat}{x:Str}(a:N[i]?=some x)(b:N[j]?=some x):i=j:=by obtain⟨h1,e1⟩:=bu.mp a;obtain⟨h2,e2⟩:=bu.mp b;exact(List.getElem_inj hN).mp (e1.trans e2.symm)
theorem z71 {M:Model}{A:bt}{E:Value->ac->Prop}{i:Nat}{x:Str}{v:V}{u:Value}{Q:Unit->ac->Prop}(I:Inv X pins σ H s)(hN:X.N.Nodup)(hi:X.N[i]?=some x)(hx:Loc X.env.scope x)(r:RelV v u)
  (h:∀s',Inv X pins (σ.set i (some v)) H s'->(∃a,bd a s.heap s'.heap/\(a=X.env.locals\/X.env.cells.lookup x=some a))->Q () s') (hf:X.fn x=true\/X.env.scope.names.lookup x=some .local:=by first|exact .inl rfl|exact .inr rfl|assumption):wpAny M A (storeName X.env x u) Q E s:=by
 obtain⟨m,hn,hl⟩:=id I.loc;have hcls:(X.env.scope.kind==.class||(X.env.scope.kind==.module&&X.env.locals != X.env.globals))=false:=by rw[I.ok.kind];rfl
 have hiσ:i<σ.length:=by rw[I.len];exact(bu.mp hi).1
 have cne:=I.cne
 have tracked:∀{a:Addr} {h':Heap},(∃o,s.heap.get? a=some o/\H a=none)->bd a s.heap h'->HOk X.prog X.w H h':=fun{a h'} ha hs b ob e=>by
  obtain⟨_,_,hfree⟩:=ha;refine(I.hok b ob e).stay (fun c w' hc q=>(hs.2 c ?_).trans q) (fun _ q=>q) fun _ _ q=>q
  rintro rfl
  rcases hc with rfl|hc
  ·rw[hfree]at e;cases e
  ·rw[hfree]at hc;cases hc
 rcases hx with hk|hk
 ·refine wpAny_storeName_local hk hn (fun h' hn' hs=>?_) hcls;obtain⟨oL,_,_,hoL,_⟩:=id hn;refine h _ ⟨I.ok,I.os,I.bare,⟨fun b o e n hb hx=>?_,fun b o e n hb hx=>?_,I.base.free,fun b o e hx=>?_,I.base.tups,I.base.frzs,I.base.tbls⟩,⟨_,hn',fun j y v' e1 e2 e3=>?_⟩,fun y c e=>?_,I.free,I.freeC,fun p hp=>?_,tracked ⟨oL,hoL,I.free⟩ hs,by simpa using I.len,fun y u e=>by obtain⟨m',hn2,q⟩:=I.fx y u e;refine⟨_,hn',?_⟩;have hy:y≠x:=fun z=>(I.ok.fxN y u e).1 (z▸b7 hi);have:=zho hn hn2 y;simp[hy,this,q]⟩ ⟨_,hs,.inl rfl⟩
  ·exact(hs.2 b (bq (bn (ax e) I.ok.above))).trans (I.base.keep b o e n hb hx)
  ·obtain⟨sl,e1⟩:=I.base.slot b o e n hb hx;exact⟨sl,(hs.2 b (bq (bn (ax e) I.ok.above))).trans e1⟩
  ·obtain⟨o',e1⟩:=I.base.there b o e hx;exact⟨o',(hs.2 b (bq (bn (ax e) I.ok.above))).trans e1⟩
  ·by_cases hj:j=i
   ·subst hj;rw[hi]at e1;cases e1;rw[jv hiσ]at e2;cases e2;exact⟨u,r,.inl ⟨hk,by simp⟩⟩
   ·rw[cg (Ne.symm hj)]at e2;obtain⟨u',r',q⟩:=hl j y v' e1 e2 e3;refine⟨u',r',?_⟩;rcases q with⟨k,e⟩|⟨k,c,e,z⟩
    ·refine .inl ⟨k,?_⟩;have:y≠x:=fun e=>hj (z5w hN e1 (e▸hi));simp[this,e]
    ·exact .inr ⟨k,c,e,z.sameBut hs (cne y c e)⟩
  ·obtain⟨w',z⟩:=I.cell y c e;exact⟨w',z.sameBut hs (cne y c e)⟩
  ·obtain⟨e,n,ne,nf,d⟩:=I.pin p hp;exact⟨(hs.2 p.1 ne).trans e,n,ne,nf,d⟩
 ·have hfn:X.fn x=true:=by
   rcases hf with z|z
   ·exact z
   ·rw[z]at hk;cases hk
  obtain⟨c,hc⟩:=I.ok.has x (.inl hk);obtain⟨w',z⟩:=I.cell x c hc;refine wpAny_storeName_cell I.ok.kind hk hc z (fun h' hc' hs=>?_);obtain⟨oc,hoc,hocd⟩:=id z;refine h {s with heap:=h'} ⟨I.ok,I.os,I.bare,⟨fun b o e n hb hx=>?_,fun b o e n hb hx=>?_,I.base.free,fun b o e hx=>?_,I.base.tups,I.base.frzs,I.base.tbls⟩,⟨m,hn.sameBut hs (Ne.symm (cne x c hc)),fun j y v' e1 e2 e3=>?_⟩,fun y c' e=>?_,I.free,I.freeC,fun p hp=>?_,tracked ⟨oc,hoc,I.freeC x c hc⟩ hs,by simpa using I.len,fun y u e=>let⟨m',hn2,q⟩:=I.fx y u e;⟨m',hn2.sameBut hs (Ne.symm (cne x c hc)),q⟩⟩ ⟨c,hs,.inr hc⟩
  ·exact(hs.2 b (bq (bn (ax e) (I.ok.cab x c hfn hc)))).trans (I.base.keep b o e n hb hx)
  ·obtain⟨sl,e1⟩:=I.base.slot b o e n hb hx;exact⟨sl,(hs.2 b (bq (bn (ax e) (I.ok.cab x c hfn hc)))).trans e1⟩
  ·obtain⟨o',e1⟩:=I.base.there b o e hx;exact⟨o',(hs.2 b (bq (bn (ax e) (I.ok.cab x c hfn hc)))).trans e1⟩
  ·by_cases hj:j=i
   ·subst hj;rw[hi]at e1;cases e1;rw[jv hiσ]at e2;cases e2;exact⟨u,r,.inr ⟨.inl hk,c,hc,hc'⟩⟩
   ·rw[cg (Ne.symm hj)]at e2;obtain⟨u',r',q⟩:=hl j y v' e1 e2 e3;refine⟨u',r',?_⟩;rcases q with q|⟨k,c',e,z'⟩
    ·exact .inl q
    ·refine .inr ⟨k,c',e,z'.sameBut hs ?_⟩
     rintro rfl
     exact hj (z5w hN e1 (I.ok.inj _ _ _ e hc▸hi))
  ·by_cases hcc:c'=c
   ·subst hcc;exact⟨_,hc'⟩
   ·obtain⟨w2,z2⟩:=I.cell y c' e;exact⟨w2,z2.sameBut hs hcc⟩
  ·obtain⟨e,n,ne,nf,d⟩:=I.pin p hp;refine⟨(hs.2 p.1 ?_).trans e,n,ne,nf,d⟩;intro q;rw[q,hoc]at e;have q':oc=p.2:=Option.some.inj e;exact d w' (by rw[<-q'];exact hocd)
theorem z3n {M:Model}{A:bt}{E:Value->ac->Prop}{i:Nat}{x:Str}{v:V}{u:Value}{Q:Unit->ac->Prop}(I:Inv X pins σ H s)(hN:X.N.Nodup)(hi:X.N[i]?=some x)(hx:Loc X.env.scope x)(r:RelV v u)
  (h:∀s',Inv X pins (σ.set i (some v)) H s'->Q () s') (hf:X.fn x=true\/X.env.scope.names.lookup x=some .local:=by first|exact .inl rfl|exact .inr rfl|assumption):wpAny M A (storeName X.env x u) Q E s:=
 z71 I hN hi hx r (fun s' I' _=>h s' I') hf
theorem Inv.call' {s':ac}{ch:List Addr}(I:Inv X pins σ H s)(ho:s'.os=s.os)(u:Un (frs X.stack) ch H H' s.heap s'.heap)(hok:HOk X.prog X.w H' s'.heap)(hg:i0 s'.gens)
  (hch:∀b∈ch,(b∈X.ex\/X.s₀.heap.objs.size<=b)/\b≠X.env.locals/\(∀x c,X.env.cells.lookup x=some c->c≠b)/\∀p∈X.pn++pins,p.1≠b):Inv X pins σ H' s':=by
 obtain⟨h',g',d',t',o'⟩:=s';have e:o'=s.os:=ho;subst e;exact I.call (g':=g') (t':=t') (d':=d') u hok hg hch
end
abbrev XK:=Value->Option Addr->Hp->Prop
abbrev St:=List (Option V)
abbrev VK:=V->Hp->Prop
abbrev TE:=St->Hp->VK->Prop
abbrev TT:=St->Hp->(Bool->Hp->Prop)->Prop
abbrev TA:=St->Hp->(List V->Hp->Prop)->Prop
structure Ends where
 nx:St->Hp->Prop
 rt:VK
 bk:St->Hp->Prop:=fun _ _=>False
 ct:St->Hp->Prop:=fun _ _=>False
abbrev TS:=Ends->St->Hp->Prop
def EP (X:Cx)(pins:List (Addr×Obj))(σ:St)(Q:VK)(u:Value)(s':ac):Prop:=∃v H',Inv X pins σ H' s'/\RelV v u/\Q v H'
def TP (X:Cx)(pins:List (Addr×Obj))(σ:St)(Q:Bool->Hp->Prop)(b:Bool)(s':ac):Prop:=∃H',Inv X pins σ H' s'/\Q b H'
def AP (X:Cx)(pins:List (Addr×Obj))(σ:St)(Q:List V->Hp->Prop)(us:List Value)(s':ac):Prop:=∃vs H',Inv X pins σ H' s'/\Vals vs us/\Q vs H'
def SP (X:Cx)(pins:List (Addr×Obj))(D:Ends)(f:Flow)(s':ac):Prop:=
 match f with
 |.next=>∃σ' H',Inv X pins σ' H' s'/\D.nx σ' H'
 |.brk=>∃σ' H',Inv X pins σ' H' s'/\D.bk σ' H'
 |.cont=>∃σ' H',Inv X pins σ' H' s'/\D.ct σ' H'
 |.ret u=>∃v σ' H',Inv X pins σ' H' s'/\RelV v u/\D.rt v H'
def PE (X:Cx)(e:Expr)(t:TE):Prop:=∀(pins:List (Addr×Obj)) (s:ac) (σ:St) (H:Hp) (Q:VK),Inv X pins σ H s->t σ H Q->wpAny (model X.prog X.w) X.A (eval e X.env) (EP X pins σ Q) X.xe s
def PT (X:Cx)(e:Expr)(t:TT):Prop:=∀(pins:List (Addr×Obj)) (s:ac) (σ:St) (H:Hp) (Q:Bool->Hp->Prop),Inv X pins σ H s->t σ H Q->wpAny (model X.prog X.w) X.A (mv e X.env (eval e X.env)) (TP X pins σ Q) X.xe s
def PW (X:Cx)(e:Expr)(t:TT):Prop:=∀(whole:Sem Value) (pins:List (Addr×Obj)) (s:ac) (σ:St) (H:Hp) (Q:Bool->Hp->Prop),Inv X pins σ H s->t σ H Q->wpAny (model X.prog X.w) X.A (mv e X.env whole) (TP X pins σ Q) X.xe s
theorem PW.pt {X:Cx}{e:Expr}{t:TT}(h:PW X e t):PT X e t:=h _
def PA (X:Cx)(es:List Expr)(t:TA):Prop:=∀(pos:Pos) (pins:List (Addr×Obj)) (s:ac) (σ:St) (H:Hp) (Q:List V->Hp->Prop),Inv X pins σ H s->t σ H Q->wpAny (model X.prog X.w) X.A (spliced (iu pos (cw es X.env))) (AP X pins σ Q) X.xe s
def PS (X:Cx)(st:Stmt)(t:TS):Prop:=∀(pins:List (Addr×Obj)) (s:ac) (σ:St) (H:Hp) (D:Ends),Inv X pins σ H s->t D σ H->wpAny (model X.prog X.w) X.A (exec st X.env) (SP X pins D) X.xe s
def PSs (X:Cx)(st:List Stmt)(t:TS):Prop:=∀(pins:List (Addr×Obj)) (s:ac) (σ:St) (H:Hp) (D:Ends),Inv X pins σ H s->t D σ H->wpAny (model X.prog X.w) X.A (execs st X.env) (SP X pins D) X.xe s
theorem thn {α:Type}{t:Sem α}{Q Q':α->ac->Prop}{M:Model}{A:bt}{E:Value->ac->Prop}{s:ac}(h:wpAny M A t Q E s)(hQ:∀a s,Q a s->Q' a s):wpAny M A t Q' E s:=gg h hQ fun _ _ x=>x
section
variable {X:Cx}
theorem bin {a b:Expr}{ta tb:TE}(ha:PE X a ta)(hb:PE X b tb){pins:List (Addr×Obj)}{s:ac}{σ:St}{H:Hp}{R:V->V->Hp->Prop}(I:Inv X pins σ H s)(h:ta σ H fun x H1=>tb σ H1 fun y H2=>R x y H2)
  {α:Type} {Q:α->ac->Prop} {f:Value->Value->Sem α}
  (hf:∀v u s2 x y H2,Inv X pins σ H2 s2->RelV x v->RelV y u->R x y H2->wpAny (model X.prog X.w) X.A (f v u) Q X.xe s2):
  wpAny (model X.prog X.w) X.A (eval a X.env) (fun v s₁=>wpAny (model X.prog X.w) X.A (eval b X.env) (fun u s₂=>wpAny (model X.prog X.w) X.A (f v u) Q X.xe s₂) X.xe s₁) X.xe s:=by
 refine thn (ha pins s σ H _ I h) fun v s1 ⟨x,H1,I1,r1,q1⟩=>?_;refine thn (hb pins s1 σ H1 _ I1 q1) fun u s2 ⟨y,H2,I2,r2,q2⟩=>?_;exact hf v u s2 x y H2 I2 r1 r2 q2
def tVar (i:Nat):TE:=fun σ H Q=>∃v,σ[i]?=some (some v)/\Q v H
def tC (v:V):TE:=fun _ H Q=>Q v H
theorem z2q {i:Nat}{x:Str}{pos:Pos}(hN:X.N[i]?=some x)(hv:Vis X.env.scope x)(hd:(x==("__debug__":Str))=false:=by decide)(hcd:(x==("__classdict__":Str))=false:=by decide):PE X (.Name x pos) (tVar i):=by
 intro pins s σ H Q I h;obtain⟨v,e,h⟩:=h;obtain⟨m,hn,hl⟩:=I.loc;obtain⟨u,r,l⟩:=hl i x v hN e hv;have fin:EP X pins σ Q u s:=⟨v,H,I,r,h⟩;rcases l with⟨hk,hm⟩|⟨hk,c,hc,hcell⟩
 ·exact m6 (wpAny_loadName_local I.ok.kind hk hn hm fin) hd
 ·rcases hk with hk|hk
  ·exact m6 (wpAny_loadName_cell I.ok.kind hk hc hcell fin) hd
  ·exact m6 (wpAny_loadName_free I.ok.kind hk hc hcell fin hcd) hd
theorem zfd {i j pos}:PE X (.Constant (.int i) j pos) (tC (.int i)):=fun _ _ _ H _ I h=>wpAny_Constant_int ⟨.int i,H,I.tok _,⟨_,rfl⟩,h⟩
theorem zje {b j pos}:PE X (.Constant (.bool b) j pos) (tC (.bl b)):=fun _ _ _ H _ I h=>Constant_bool ⟨.bl b,H,I,rfl,h⟩
theorem zgg {x j pos}:PE X (.Constant (.str x) j pos) (tC (.str x)):=fun _ _ _ H _ I h=>Calls.Constant_str ⟨.str x,H,I.tok _,⟨_,rfl⟩,h⟩
def Gl (X:Cx)(x:Str):Prop:=X.env.kindOf x=some .globalImplicit
theorem zdu {E:Value->ac->Prop}{pins:List (Addr×Obj)}{s:ac}{σ:St}{H:Hp}{x:Str}{u:Value}{pos:Pos}{Q:Value->ac->Prop}(I:Inv X pins σ H s)(hg:Gl X x)(hm:X.mg x=some u)(h:Q u s)
  (hd:(x==("__debug__":Str))=false:=by decide):wpAny (model X.prog X.w) X.A (eval (.Name x pos) X.env) Q E s:=
 i7 I.ok.kind hg (Calls.loadGlobal_global (by rw[I.ok.glob];exact I.mod.glob.keeps I.bk) hm h) hd
theorem z21 {E:Value->ac->Prop}{pins:List (Addr×Obj)}{s:ac}{σ:St}{H:Hp}{x:Str}{u:Value}{pos:Pos}{Q:Value->ac->Prop}(I:Inv X pins σ H s)(hg:Gl X x)(hm:X.mg x=none)(hv:cv x=some u)(h:Q u s)
  (hn:x≠"__name__":=by decide) (hd:(x==("__debug__":Str))=false:=by decide):wpAny (model X.prog X.w) X.A (eval (.Name x pos) X.env) Q E s:=by
 obtain⟨mb,h1,h2⟩:=I.mod.blt;exact i7 I.ok.kind hg (Calls.loadGlobal_builtin (by rw[I.ok.glob];exact I.mod.glob.keeps I.bk) hm (by rw[I.ok.blt];exact h1.keeps I.bk) ((h2 x hn).trans hv) h) hd
theorem zeb {x:Str}{v:V}{u:Value}{pos:Pos}(hg:Gl X x)(hm:X.mg x=none)(hv:cv x=some u)(r:RelV v u)(hn:x≠"__name__":=by decide)(hd:(x==("__debug__":Str))=false:=by decide):PE X (.Name x pos) (tC v):=fun _ _ _ H _ I h=>z21 I hg hm hv ⟨v,H,I,r,h⟩ hn hd
variable {a b:Expr}{ta tb:TE}{pos:Pos}
variable {tA tB':TT}{rest:List Expr}
def tAnd (t u:TT):TT:=fun σ H Q=>t σ H fun c H1=>if c=true then u σ H1 Q else Q false H1
def tOr (t u:TT):TT:=fun σ H Q=>t σ H fun c H1=>if c=true then Q true H1 else u σ H1 Q
def tNot (t:TT):TT:=fun σ H Q=>t σ H fun c H1=>Q (!c) H1
theorem zcj (ha:PT X a tA):PW X (.BoolOp .And [a] pos) tA:=by
 intro wh pins s σ H Q I h;refine isTrue_and (thn (ha pins s σ H Q I h) fun c s1 e=>?_);cases c with
 |true=>exact isTrue_and_nil e
 |false=>exact e
theorem zi3 (ha:PT X a tA):PW X (.BoolOp .Or [a] pos) tA:=by
 intro wh pins s σ H Q I h;refine isTrue_or (thn (ha pins s σ H Q I h) fun c s1 e=>?_);cases c with
 |false=>exact isTrue_or_nil e
 |true=>exact e
theorem zg4 (ha:PT X a tA)(hb:PW X (.BoolOp .And (b::rest) pos) tB'):PW X (.BoolOp .And (a::b::rest) pos) (tAnd tA tB'):=by
 intro wh pins s σ H Q I h;refine isTrue_and (thn (ha pins s σ H _ I h) fun c s1 ⟨H1,I1,q1⟩=>?_);cases c with
 |true=>exact hb wh pins s1 σ H1 Q I1 q1
 |false=>exact⟨H1,I1,q1⟩
theorem zkl (ha:PT X a tA)(hb:PW X (.BoolOp .Or (b::rest) pos) tB'):PW X (.BoolOp .Or (a::b::rest) pos) (tOr tA tB'):=by
 intro wh pins s σ H Q I h;refine isTrue_or (thn (ha pins s σ H _ I h) fun c s1 ⟨H1,I1,q1⟩=>?_);cases c with
 |true=>exact⟨H1,I1,q1⟩
 |false=>exact hb wh pins s1 σ H1 Q I1 q1
theorem zhw (ha:PT X a tA):PT X (.UnaryOp .Not a pos) (tNot tA):=by intro pins s σ H Q I h;exact isTrue_not (ha pins s σ H (fun c H1=>Q (!c) H1) I h)
def zm6 (ta tb:TE):TE:=fun σ H Q=>ta σ H fun x H1=>∃c,x=.bl c/\if c=true then tb σ H1 Q else Q (.bl false) H1
def tOrV (ta tb:TE):TE:=fun σ H Q=>ta σ H fun x H1=>∃c,x=.bl c/\if c=true then Q (.bl true) H1 else tb σ H1 Q
theorem zbj {op}{t:TE}(h:PE X a t):PE X (.BoolOp op [a] pos) t:=fun pins s σ H Q I hw=>BoolOp_one (h pins s σ H Q I hw)
theorem zhp (ha:PE X a ta)(hb:PE X (.BoolOp .And (b::rest) pos) tb):PE X (.BoolOp .And (a::b::rest) pos) (zm6 ta tb):=by
 intro pins s σ H Q I h;refine BoolOp_and (thn (ha pins s σ H _ I h) fun v s1 ⟨x,H1,I1,r1,q1⟩=>?_);obtain⟨c,rfl,q1⟩:=q1;cases r1;refine fk ?_;cases c with
 |true=>exact hb pins s1 σ H1 Q I1 q1
 |false=>exact⟨.bl false,H1,I1,rfl,q1⟩
theorem zja (ha:PE X a ta)(hb:PE X (.BoolOp .Or (b::rest) pos) tb):PE X (.BoolOp .Or (a::b::rest) pos) (tOrV ta tb):=by
 intro pins s σ H Q I h;refine BoolOp_or (thn (ha pins s σ H _ I h) fun v s1 ⟨x,H1,I1,r1,q1⟩=>?_);obtain⟨c,rfl,q1⟩:=q1;cases r1;refine fk ?_;cases c with
 |false=>exact hb pins s1 σ H1 Q I1 q1
 |true=>exact⟨.bl true,H1,I1,rfl,q1⟩
end
def SqL (K:W.Frag)(H:Hp)(a:Addr)(xs:List V):Prop:=Rd H a (.lst xs)\/∃(o:Obj) (its:Array Value) (n:Nat),K.lookup a=some o/\o.cls=.type "list"/\o.dict=none/\o.data=.seq its n/\its.size<=az/\Vals xs its.toList
def SqT (K:W.Frag)(H:Hp)(a:Addr)(xs:List V):Prop:=Rd H a (.tup xs)\/∃(o:Obj) (its:Array Value) (n:Nat),K.lookup a=some o/\o.cls=.type "tuple"/\o.dict=none/\o.data=.seq its n/\its.size<=az/\Vals xs its.toList
def absV:Value->Option V
 |.none=>some .non
 |.bool b=>some (.bl b)
 |.int i _=>some (.int i)
 |.str x _=>some (.str x)
 |.bytes b _=>some (.byt b)
 |.float b _=>some (.flt b)
 |.ref a=>some (.ref a)
 |.type n=>some (.ty n)
 |_=>none
theorem RelV.abs {x:V}{u:Value}(r:RelV x u):absV u=some x:=by
 cases x with
 |non=>cases r;rfl
 |bl _=>cases r;rfl
 |int _=>obtain⟨t,rfl⟩:=r;rfl
 |str _=>obtain⟨t,rfl⟩:=r;rfl
 |byt _=>obtain⟨t,rfl⟩:=r;rfl
 |flt _=>obtain⟨t,rfl⟩:=r;rfl
 |ref _=>cases r;rfl
 |ty _=>cases r;rfl
theorem RelV.inj {x y:V}{u:Value}(r:RelV x u)(q:RelV y u):x=y:=Option.some.inj (r.abs.symm.trans q.abs)
theorem Vals.inj:∀{xs ys:List V} {us:List Value},Vals xs us->Vals ys us->xs=ys
 |_,_,_,.nil,.nil=>rfl
 |_,_,_,.cons r t,.cons r' t'=>by rw[r.inj r',Vals.inj t t']
section
variable {X:Cx}{pins:List (Addr×Obj)}{σ:St}{H:Hp}{s:ac}{a:Addr}{xs ys:List V}
theorem SqL.of {K:W.Frag}(h:H a=some (.lst xs)):SqL K H a xs:=.inl (.inl h)
theorem SqT.of {K:W.Frag}(h:H a=some (.tup xs)):SqT K H a xs:=.inl (.inl h)
theorem Inv.list (I:Inv X pins σ H s)(h:SqL X.K H a xs):∃its:List Value,Vals xs its/\PlainL s.heap a its.toArray/\xs.length<=az:=by
 rcases h with h|⟨o,its,n,hk,hc,hd,hs,hz,r⟩
 ·obtain⟨z,its,n,r,e⟩:=h.ok I.hok;exact⟨its,r,⟨_,n,e,rfl,rfl,rfl⟩,z⟩
 ·refine⟨its.toList,r,⟨o,n,I.kIn a o hk,hc,hd,by simpa using hs⟩,?_⟩;have e:=r.length;simp only[dv]at e;omega
theorem Inv.tuple (I:Inv X pins σ H s)(h:SqT X.K H a xs):∃its:List Value,Vals xs its/\IsTup s.heap a its.toArray/\xs.length<=az:=by
 rcases h with h|⟨o,its,n,hk,hc,_,hs,hz,r⟩
 ·obtain⟨z,its,r,p⟩:=h.ok I.hok;exact⟨its,r,p.tup,z⟩
 ·refine⟨its.toList,r,⟨o,I.kIn a o hk,hc,n,by simpa using hs⟩,?_⟩;have e:=r.length;simp only[dv]at e;omega
theorem Inv.tupleN (I:Inv X pins σ H s)(h:SqT X.K H a xs):∃l:List Value,Vals xs l/\zgl s.heap a l.toArray/\xs.length<=az:=by
 rcases h with h|⟨o,l,n,q,hc,hd,hs,hz,r⟩
 ·obtain⟨z,l,r,n,q⟩:=h.ok I.hok;exact⟨l,r,⟨_,n,q,rfl,rfl,rfl⟩,z⟩
 ·exact⟨l.toList,r,⟨o,n,I.kIn a o q,hc,hd,(by simpa using hs)⟩,(by have w:=r.length;simp only[dv]at w;omega)⟩
theorem Inv.list_inj (I:Inv X pins σ H s)(h:SqL X.K H a xs)(h':SqL X.K H a ys):xs=ys:=by
 obtain⟨its,r,⟨o,n,e,_,_,d⟩,_⟩:=I.list h;obtain⟨its',r',⟨o',n',e',_,_,d'⟩,_⟩:=I.list h';rw[e]at e';cases e';rw[d]at d';injection d' with d1 _;have:its=its':=by simpa using congrArg Array.toList d1
 subst this;exact r.inj r'
theorem Inv.tuple_inj (I:Inv X pins σ H s)(h:SqT X.K H a xs)(h':SqT X.K H a ys):xs=ys:=by
 obtain⟨its,r,⟨o,e,_,n,d⟩,_⟩:=I.tuple h;obtain⟨its',r',⟨o',e',_,n',d'⟩,_⟩:=I.tuple h';rw[e]at e';cases e';rw[d]at d';injection d' with d1 _;have:its=its':=by simpa using congrArg Array.toList d1
 subst this;exact r.inj r'
end
abbrev Cx.wish (X:Cx)(E:Value->ac->Prop):Cx:={X with xe:=E}
abbrev Cx.nox (X:Cx):Cx:=X.wish fun _ _=>False
theorem Cx.Ok.wish {X:Cx}(ok:X.Ok)(E:Value->ac->Prop):(X.wish E).Ok:=⟨ok.mod,ok.kind,ok.glob,ok.blt,ok.above,ok.inj,ok.has,ok.cab,ok.hd,ok.frames,ok.stk,ok.exf,ok.bs,ok.bsz,ok.noex,ok.exfs,ok.funs,ok.frf,ok.fxN⟩
theorem Cx.Ok.unwish {X:Cx}{E:Value->ac->Prop}(ok:(X.wish E).Ok):X.Ok:=⟨ok.mod,ok.kind,ok.glob,ok.blt,ok.above,ok.inj,ok.has,ok.cab,ok.hd,ok.frames,ok.stk,ok.exf,ok.bs,ok.bsz,ok.noex,ok.exfs,ok.funs,ok.frf,ok.fxN⟩
section
variable {X:Cx}{pins:List (Addr×Obj)}{σ:St}{H:Hp}{s:ac}{E:Value->ac->Prop}
theorem Inv.wish (I:Inv X pins σ H s)(E:Value->ac->Prop):Inv (X.wish E) pins σ H s:=⟨I.ok.wish E,I.os,I.bare,I.base,I.loc,I.cell,I.free,I.freeC,I.pin,I.hok,I.len,I.fx⟩
theorem Inv.unwish (I:Inv (X.wish E) pins σ H s):Inv X pins σ H s:=⟨I.ok.unwish,I.os,I.bare,I.base,I.loc,I.cell,I.free,I.freeC,I.pin,I.hok,I.len,I.fx⟩
theorem SP.unwish {D:Ends}{f:Flow}{s':ac}(h:SP (X.wish E) pins D f s'):SP X pins D f s':=by
 cases f with
 |next=>obtain⟨σ',H',I,q⟩:=h;exact⟨σ',H',I.unwish,q⟩
 |brk=>obtain⟨σ',H',I,q⟩:=h;exact⟨σ',H',I.unwish,q⟩
 |cont=>obtain⟨σ',H',I,q⟩:=h;exact⟨σ',H',I.unwish,q⟩
 |ret u=>obtain⟨v,σ',H',I,r,q⟩:=h;exact⟨v,σ',H',I.unwish,r,q⟩
theorem PE.nox {e:Expr}{t:TE}(h:PE X.nox e t):PE X e t:=fun pins s σ H Q I hw=>gg (h pins s σ H Q (I.wish _) hw) (fun _ _ ⟨v,H',I',r,q⟩=>⟨v,H',I'.unwish,r,q⟩) fun _ _ z=>False.elim z
theorem PT.nox {e:Expr}{t:TT}(h:PT X.nox e t):PT X e t:=fun pins s σ H Q I hw=>gg (h pins s σ H Q (I.wish _) hw) (fun _ _ ⟨H',I',q⟩=>⟨H',I'.unwish,q⟩) fun _ _ z=>False.elim z
theorem PSs.nox {st:List Stmt}{t:TS}(h:PSs X.nox st t):PSs X st t:=fun pins s σ H D I hw=>gg (h pins s σ H D (I.wish _) hw) (fun _ _ q=>q.unwish) fun _ _ z=>False.elim z
end
section
variable {X:Cx}{st:Stmt}{rest:List Stmt}{t u:TS}{e:Expr}{te:TE}{pos:Pos}
def zkm:TS:=fun D σ H=>D.nx σ H
def tSeq (t u:TS):TS:=fun D σ H=>t {D with nx:=u D} σ H
theorem zde:PSs X [] zkm:=fun _ _ σ H _ I h=>wpAny_execs_nil ⟨σ,H,I,h⟩
theorem z6a (h1:PS X st t)(h2:PSs X rest u):PSs X (st::rest) (tSeq t u):=by
 intro pins s σ H D I h;refine wpAny_execs_cons (thn (h1 pins s σ H {D with nx:=u D} I h) fun f s1 q=>?_);cases f with
 |next=>obtain⟨σ',H',I',q⟩:=q;exact h2 pins s1 σ' H' D I' q
 |ret v=>exact q
 |brk=>exact q
 |cont=>exact q
theorem Inv.quiet {pins:List (Addr×Obj)}{σ:St}{H:Hp}{s:ac}(I:Inv X pins σ H s):interactive X.env=false:=by simp[interactive,I.ok.kind]
def zhd (te:TE):TS:=fun D σ H=>te σ H fun _ H1=>D.nx σ H1
theorem zf2 (he:PE X e te)(hs:i5 e none pos.line X.env=pure false:=by rfl):PS X (.Expr e pos) (zhd te):=by intro pins s σ H D I h;exact wpAny_Expr_any (thn (he pins s σ H _ I h) fun v s1 ⟨x,H1,I1,r1,q1⟩=>⟨σ,H1,I1,q1⟩) I.quiet hs
def tRet (te:TE):TS:=fun D σ H=>te σ H D.rt
theorem zbv (he:PE X e te):PS X (.Return (some e) pos) (tRet te):=by intro pins s σ H D I h;exact wpAny_Return_some (thn (he pins s σ H _ I h) fun v s1 ⟨x,H1,I1,r1,q1⟩=>⟨x,σ,H1,I1,r1,q1⟩)
def tIfS (c:TT)(t u:TS):TS:=fun D σ H=>c σ H fun b H1=>if b=true then t D σ H1 else u D σ H1
theorem zjo {c:Expr}{a b:List Stmt}{tc:TT}(hc:PT X c tc)(ha:PSs X a t)(hb:PSs X b u):PS X (.If c a b pos) (tIfS tc t u):=by
 intro pins s σ H D I h;refine wpAny_If (thn (hc pins s σ H _ I h) fun d s1 ⟨H1,I1,q1⟩=>?_);cases d with
 |true=>exact ha pins s1 σ H1 D I1 q1
 |false=>exact hb pins s1 σ H1 D I1 q1
end
abbrev TG:=V->St->Hp->(St->Hp->Prop)->Prop
abbrev TGs:=List V->St->Hp->(St->Hp->Prop)->Prop
def PG (X:Cx)(target:Expr)(t:TG):Prop:=∀(pins:List (Addr×Obj)) (s:ac) (σ:St) (H:Hp) (v:V) (u:Value) (Q:St->Hp->Prop),Inv X pins σ H s->RelV v u->t v σ H Q->wpAny (model X.prog X.w) X.A (jx target X.env u) (fun _ s'=>∃σ' H',Inv X pins σ' H' s'/\Q σ' H') X.xe s
def PGs (X:Cx)(ts:List Expr)(t:TGs):Prop:=∀(pins:List (Addr×Obj)) (s:ac) (σ:St) (H:Hp) (vs:List V) (us:List Value) (Q:St->Hp->Prop),Inv X pins σ H s->Vals vs us->t vs σ H Q->wpAny (model X.prog X.w) X.A (assignInOrder ((dm ts X.env).map (·.2)) us) (fun _ s'=>∃σ' H',Inv X pins σ' H' s'/\Q σ' H') X.xe s
section
variable {X:Cx}{pos:Pos}
def zft (i:Nat):TG:=fun v σ H Q=>Q (σ.set i (some v)) H
theorem z9f {i:Nat}{x:Str}(hN:X.N.Nodup)(hi:X.N[i]?=some x)(hx:Loc X.env.scope x)(hf:X.fn x=true\/X.env.scope.names.lookup x=some .local:=by first|exact .inl rfl|exact .inr rfl|assumption):PG X (.Name x pos) (zft i):=by intro pins s σ H v u Q I r h;exact l8 (z3n I hN hi hx r (fun s' I'=>⟨_,H,I',h⟩) hf)
def gNil:TGs:=fun vs σ H Q=>vs=[]/\Q σ H
def zjw (t:TG)(u:TGs):TGs:=fun vs σ H Q=>∃v r,vs=v::r/\t v σ H fun σ' H'=>u r σ' H' Q
theorem zd3:PGs X [] gNil:=by intro pins s σ H vs us Q I r h;obtain⟨e,h⟩:=h;subst e;cases r;exact assignInOrder_nil ⟨σ,H,I,h⟩
theorem zb6 {e:Expr}{es:List Expr}{t:TG}{u:TGs}(h1:PG X e t)(h2:PGs X es u)
  (hs:(dm (e::es) X.env).map (·.2)=jx e X.env::(dm es X.env).map (·.2):=by rfl):PGs X (e::es) (zjw t u):=by
 intro pins s σ H vs us Q I r h;obtain⟨v,vr,e1,h⟩:=h;subst e1;cases r with
 |cons r rr=>rw[hs];refine assignInOrder_cons (thn (h1 pins s σ H _ _ _ I r h) fun _ s1 ⟨σ1,H1,I1,q1⟩=>?_);exact h2 pins s1 σ1 H1 _ _ Q I1 rr q1
def gTup (K:W.Frag)(n:Nat)(t:TGs):TG:=fun v σ H Q=>∃a xs,v=.ref a/\SqT K H a xs/\xs.length=n/\t xs σ H Q
theorem zi2 {es:List Expr}{k:Nat}{t:TGs}{n:Nat}(hc:X.calm=true)(h:PGs X es t)
  (hn:(dm es X.env).length=n:=by rfl) (hst:(dm es X.env).findIdx? (·.1)=none:=by rfl):PG X (.Tuple es k pos) (gTup X.K n t):=by
 intro pins s σ H v u Q I r hw;obtain⟨a,xs,e1,hq,hl,hw⟩:=hw;subst e1;cases r;obtain⟨its,rv,ht,hz⟩:=I.tuple hq;refine assign_Tuple_tuple (I.ok.hd hc) ht (by simp[hn,<-hl,rv.length]) hst fun h' hx=>?_;have I1:Inv X pins σ H {s with heap:=h'}:=I.kept (t':=s.toks) fun b o e=>hx b o (bq (ax e)) e;exact h pins _ σ H xs _ Q I1 (by simpa using rv) hw
def tAsg (te:TE)(g:TG):TS:=fun D σ H=>te σ H fun x H1=>g x σ H1 D.nx
theorem zfk {tg e:Expr}{te:TE}{g:TG}(he:PE X e te)(hg:PG X tg g)(hs:ll [tg] e pos.line X.env=pure false:=by rfl)(hw:lm [tg] e X.env=pure none:=by rfl)
  (h1:(dm [tg] X.env).map (·.2)=[jx tg X.env]:=by rfl):PS X (.Assign [tg] e pos) (tAsg te g):=by
 intro pins s σ H D I h;refine wpAny_Assign_stores (thn (he pins s σ H _ I h) fun v s1 ⟨x,H1,I1,r1,q1⟩=>?_) hs hw;rw[h1];exact thn (hg pins s1 σ H1 x v _ I1 r1 q1) fun _ s2 q=>q
theorem zfl {i:Nat}{x:Str}{e:Expr}{te:TE}{pos':Pos}(hN:X.N.Nodup)(hi:X.N[i]?=some x)(hx:Loc X.env.scope x)(he:PE X e te)(hs:i5 e (some (.Name x pos')) pos.line X.env=pure false:=by rfl)(hf:X.fn x=true\/X.env.scope.names.lookup x=some .local:=by first|exact .inl rfl|exact .inr rfl|assumption):
  PS X (.Assign [.Name x pos'] e pos) (tAsg te (zft i)):=by
 intro pins s σ H D I h;refine wpAny_Assign_Name (thn (he pins s σ H _ I h) fun v s1 ⟨y,H1,I1,r1,q1⟩=>?_) hs;exact z3n I1 hN hi hx r1 (fun s2 I2=>⟨_,H1,I2,q1⟩) hf
end
section
variable {X:Cx}{pos:Pos}
end
structure It where
 go:Nat->Hp->Prop
 yld:Nat->Hp->V->Hp->Prop
 stop:Nat->Hp->Prop
def FpOk (X:Cx)(pins:List (Addr×Obj))(H:Hp)(b:Addr):Prop:=H b=none/\b≠X.env.locals/\b∉X.fs/\(b∈X.ex\/X.s₀.heap.objs.size<=b)/\(∀x c,X.env.cells.lookup x=some c->c≠b)/\∀p∈X.pn++pins,p.1≠b
theorem Inv.fpOk {X:Cx}{pins:List (Addr×Obj)}{σ:St}{H H':Hp}{s:ac}{b:Addr}(I:Inv X pins σ H s)(hb:s.heap.objs.size<=b)(hn:H' b=none):FpOk X pins H' b:=by
 refine⟨hn,jy (bn I.lt hb),I.nofs hb,.inr (b8 I.sz hb),fun x c e z=>?_,fun p hp z=>?_⟩
 ·obtain⟨v,q⟩:=I.cell x c e;exact absurd (bn q.lt (by rw[z];exact hb)) (bx _)
 ·exact absurd (bn (ax (I.pin p hp).1) (by rw[z];exact hb)) (bx _)
structure Turn (P:aq)(w:World)(K:W.Frag)(tg:Expr)(J:It)(fp:List Addr)(it:Addr)(tn:Nat->Heap->Prop):Prop where
 mem:it∈fp
 obj:∀i h,tn i h->∀b∈fp,∃o,h.get? b=some o/\∀v,o.data≠.cell v
 keep:∀i h h',tn i h->(∀b∈fp,∀o,h.get? b=some o->h'.get? b=some o)->tn i h'
 item:∀(X:Cx),X.prog=P->X.w=w->X.K=K->X.calm=true->∀(i:Nat) (pins:List (Addr×Obj)) (s:ac) (σ:St) (H:Hp) (E:Value->ac->Prop),Inv X pins σ H s->(∀b∈fp,FpOk X pins H b)->tn i s.heap->J.go i H->wpAny (model P w) X.A (jz (.ref it)) (fun r s1=>∃u,r=some u/\wpAny (model P w) X.A (eg tg (.ref it) u) (fun _ s2=>∃x H',Inv X pins σ H' s2/\RelV x u/\J.yld i H x H'/\tn (i+1) s2.heap/\∀b∈fp,H' b=none) E s1) E s
 done:∀(X:Cx),X.prog=P->X.w=w->X.K=K->X.calm=true->∀(i:Nat) (pins:List (Addr×Obj)) (s:ac) (σ:St) (H:Hp) (E:Value->ac->Prop),Inv X pins σ H s->(∀b∈fp,FpOk X pins H b)->tn i s.heap->J.stop i H->wpAny (model P w) X.A (jz (.ref it)) (fun r s1=>r=none/\Inv X pins σ H s1) E s
 self:∀(A:bt) (i:Nat) (s:ac) (Q:Value->ac->Prop) (E:Value->ac->Prop),tn i s.heap->Q (.ref it) s->wpAny (model P w) A (j2 (.ref it)) Q E s
abbrev TI:=St->Hp->(It->Hp->Prop)->Prop
def PIE (X:Cx)(pins:List (Addr×Obj))(σ:St)(tg:Expr)(R:It->Hp->Prop)(itv:Value)(s2:ac):Prop:=∃(it:Addr) (fp:List Addr) (tn:Nat->Heap->Prop) (J:It) (H':Hp),itv=.ref it/\Inv X pins σ H' s2/\Turn X.prog X.w X.K tg J fp it tn/\tn 0 s2.heap/\(∀b∈fp,FpOk X pins H' b)/\R J H'
def PI (X:Cx)(tg iter:Expr)(wi:TI):Prop:=∀(pins:List (Addr×Obj)) (s:ac) (σ:St) (H:Hp) (R:It->Hp->Prop),Inv X pins σ H s->wi σ H R->wpAny (model X.prog X.w) X.A (eval iter X.env) (fun v s1=>wpAny (model X.prog X.w) X.A (j2 v) (PIE X pins σ tg R) X.xe s1) X.xe s
theorem zah {M:Model}{A:bt}{E:Value->ac->Prop}{s:ac}{tg:Expr}{it:Addr}{u:Value}{o:Obj}{n:String}{vs:Array Value}{Q:Unit->ac->Prop}(ho:s.heap.get? it=some o)(hc:o.cls=.type n)(hd:o.data=.fields vs)
  (hn:["enumerate","zip","dict_itemiterator","dict_reverseitemiterator","odict_iterator","itertools.zip_longest","itertools.pairwise"].contains n=false) (hQ:Q () s):wpAny M A (eg tg (.ref it) u) Q E s:=by
 unfold eg
 cases tg<;>first
  |exact aj hQ
  |(cases u<;>first
   |exact aj hQ
   |(refine aa (m7 ho ?_)
     rw[hc,hd];show wpAny M A (if(["enumerate","zip","dict_itemiterator","dict_reverseitemiterator","odict_iterator","itertools.zip_longest","itertools.pairwise"].contains n&&vs[0]?==some (iw _))=true then _ else _) Q E s;rw[if_neg (by intro h;rw[hn,i8]at h;cases h)];exact aj hQ))
def Itl (K:W.Frag)(a:Addr):It:=⟨fun i H=>∃xs x,SqL K H a xs/\xs[i]?=some x,fun i H x H'=>H'=H/\∀xs,SqL K H a xs->xs[i]?=some x,fun i H=>∃xs,SqL K H a xs/\xs.length<=i⟩
def Itt (K:W.Frag)(a:Addr):It:=⟨fun i H=>∃xs x,SqT K H a xs/\xs[i]?=some x,fun i H x H'=>H'=H/\∀xs,SqT K H a xs->xs[i]?=some x,fun i H=>∃xs,SqT K H a xs/\xs.length<=i⟩
def Itr (lo:Int)(n:Nat):It:=⟨fun i _=>i<n,fun i H x H'=>H'=H/\x=.int (lo+i),fun i _=>n<=i⟩
theorem z96 {P:aq}{w:World}{K:W.Frag}{tg:Expr}(a it:Addr):Turn P w K tg (Itl K a) [it] it (fun i h=>h.IsListIter it a i) where
 mem:=by simp
 obj:=fun i h st b hb=>by
  have e:b=it:=by simpa using hb
  subst e;obtain⟨o,e,c,d⟩:=st;exact⟨o,e,fun v z=>by rw[d]at z;cases z⟩
 keep:=fun i h h' st k=>st.at fun o e=>k it (by simp) o e
 item:=by intro X hP hw hK hc i pins s σ H E I hf st hg;subst hP hw hK;obtain⟨xs,x,hq,hx⟩:=hg;obtain⟨its,rv,p,hz⟩:=I.list hq;obtain⟨u,hu,ru⟩:=rv.get hx;obtain⟨f0,f1,f2,f3,f4,f5⟩:=hf it (by simp);refine j3 st p.isList (x:=u) (by simpa using hu) fun h' st' sb=>?_;have I1:Inv X pins σ H {s with heap:=h'}:=I.turned (t':=s.toks) (fun b o hb e=>(sb.2 b hb).trans e) f0 f1 f3 f4 f5;obtain⟨o,e,c,d⟩:=id st';exact⟨u,rfl,zah (s:={s with heap:=h'}) e c d (by decide) ⟨x,H,I1,ru,⟨rfl,fun ys hy=>by rw[I.list_inj hy hq];exact hx⟩,st',fun b hb=>(hf b hb).1⟩⟩
 done:=by intro X hP hw hK hc i pins s σ H E I hf st hg;subst hP hw hK;obtain⟨xs,hq,hx⟩:=hg;obtain⟨its,rv,p,hz⟩:=I.list hq;obtain⟨f0,f1,f2,f3,f4,f5⟩:=hf it (by simp);have hl:=rv.length;exact kj (I.ok.hd hc) st p.isList (by simp;omega) fun h' eb=>⟨rfl,I.turned (t':=s.toks) (fun b o hb e=>eb b o hb e) f0 f1 f3 f4 f5⟩
 self:=fun _ _ _ _ _ st h=>wpAny_pyIter_listiter st h
theorem z6d {P:aq}{w:World}{K:W.Frag}{tg:Expr}(a it:Addr):Turn P w K tg (Itt K a) [it] it (fun i h=>h.IsTupleIter it a i) where
 mem:=by simp
 obj:=fun i h st b hb=>by
  have e:b=it:=by simpa using hb
  subst e;obtain⟨o,e,c,d⟩:=st;exact⟨o,e,fun v z=>by rw[d]at z;cases z⟩
 keep:=fun i h h' st k=>st.at fun o e=>k it (by simp) o e
 item:=by intro X hP hw hK hc i pins s σ H E I hf st hg;subst hP hw hK;obtain⟨xs,x,hq,hx⟩:=hg;obtain⟨its,rv,p,hz⟩:=I.tuple hq;obtain⟨u,hu,ru⟩:=rv.get hx;obtain⟨f0,f1,f2,f3,f4,f5⟩:=hf it (by simp);refine wpAny_pyNext_tuple_item st (show s.heap.IsTuple a its.toArray from p) (x:=u) (by simpa using hu) fun h' st' sb=>?_;have I1:Inv X pins σ H {s with heap:=h'}:=I.turned (t':=s.toks) (fun b o hb e=>(sb.2 b hb).trans e) f0 f1 f3 f4 f5;obtain⟨o,e,c,d⟩:=id st';exact⟨u,rfl,zah (s:={s with heap:=h'}) e c d (by decide) ⟨x,H,I1,ru,⟨rfl,fun ys hy=>by rw[I.tuple_inj hy hq];exact hx⟩,st',fun b hb=>(hf b hb).1⟩⟩
 done:=by intro X hP hw hK hc i pins s σ H E I hf st hg;subst hP hw hK;obtain⟨xs,hq,hx⟩:=hg;obtain⟨its,rv,p,hz⟩:=I.tuple hq;obtain⟨f0,f1,f2,f3,f4,f5⟩:=hf it (by simp);have hl:=rv.length;exact wpAny_pyNext_tuple_end (I.ok.hd hc) st (show s.heap.IsTuple a its.toArray from p) (by simp;omega) fun h' eb=>⟨rfl,I.turned (t':=s.toks) (fun b o hb e=>eb b o hb e) f0 f1 f3 f4 f5⟩
 self:=fun _ _ _ _ _ st h=>wpAny_pyIter_tupleiter st h
theorem z6q {P:aq}{w:World}{K:W.Frag}{tg:Expr}(it:Addr)(lo:Int)(n:Nat):Turn P w K tg (Itr lo n) [it] it (fun i h=>IsRangeIter h it (lo+(i:Nat)*1) ((n:Int)-(i:Nat)) 1) where
 mem:=by simp
 obj:=fun i h st b hb=>by
  have e:b=it:=by simpa using hb
  subst e;exact⟨_,st,fun v z=>by have z':Data.fields _=Data.cell v:=z;cases z'⟩
 keep:=fun i h h' st k=>k it (by simp) _ st
 item:=by intro X hP hw hK hc i pins s σ H E I hf st hg;subst hP hw hK;obtain⟨f0,f1,f2,f3,f4,f5⟩:=hf it (by simp);have W:=Walks.range (prog:=X.prog) (w:=X.w) (I.ok.hd hc) it lo 1 n;refine W.item i s _ _ hg st fun v h' tk hv st' kk=>?_;obtain⟨t,rfl⟩:=hv;have I1:Inv X pins σ H {s with heap:=h',toks:=tk}:=I.turned (fun b o hb e=>kk b o (by simpa using hb) e) f0 f1 f3 f4 f5;refine⟨_,rfl,zah (s:={s with heap:=h',toks:=tk}) (n:="range_iterator") st' rfl rfl (by decide) ⟨.int (lo+i),H,I1,⟨t,?_⟩,⟨rfl,rfl⟩,st',fun b hb=>(hf b hb).1⟩⟩;rw[Int.mul_one]
 done:=by intro X hP hw hK hc i pins s σ H E I hf st hg;subst hP hw hK;obtain⟨f0,f1,f2,f3,f4,f5⟩:=hf it (by simp);exact wpAny_pyNext_range_end (I.ok.hd hc) st (by have:n<=i:=hg;omega) fun h' eb=>⟨rfl,I.turned (t':=s.toks) (fun b o hb e=>eb b o hb e) f0 f1 f3 f4 f5⟩
 self:=fun _ _ _ _ _ st h=>wpAny_pyIter_rangeiter st h
section
variable {X:Cx}{tg:Expr}
theorem zan {pins:List (Addr×Obj)}{σ:St}{H:Hp}{s:ac}{R:It->Hp->Prop}{E:Value->ac->Prop}{lo hi:Int}{t u v:Tok}{tk:Nat}(I:Inv X pins σ H s)(h1:-(2 ^ 62)<=lo)(h2:lo<2 ^ 62)(h3:-(2 ^ 62)<=hi)(h4:hi<2 ^ 62)
  (q:R (Itr lo (hi-lo).toNat) H):wpAny (model X.prog X.w) X.A (j2 (.ref s.heap.objs.size)) (PIE X pins σ tg R) E {s with heap:=s.heap.push {cls:=.type "range",data:=.fields #[.int lo t,.int hi u,.int 1 v]},toks:=tk}:=by
 refine wpAny_pyIter_range (IsRange.new ..) (small_one h1 h2 h3 h4) ?_;have I1:Inv X pins σ H {s with heap:=s.heap.push {cls:=.type "range",data:=.fields #[.int lo t,.int hi u,.int 1 v]},toks:=tk}:=I.kept fun b o e=>ae _ e;refine⟨(s.heap.push {cls:=.type "range",data:=.fields #[.int lo t,.int hi u,.int 1 v]}).objs.size,[(s.heap.push {cls:=.type "range",data:=.fields #[.int lo t,.int hi u,.int 1 v]}).objs.size],_,_,H,rfl,I1.kept (t':=tk) fun b o e=>ae _ e,z6q _ lo (hi-lo).toNat,?_,fun b hb=>?_,q⟩
 ·have e1:lo+((0:Nat):Int)*1=lo:=by simp
  have e2:(((hi-lo).toNat:Nat):Int)-((0:Nat):Int)=Builtin.Range.rangeSize lo hi 1:=by rw[rangeSize_one];split<;>omega
  show IsRangeIter _ _ (lo+((0:Nat):Int)*1) ((((hi-lo).toNat:Nat):Int)-((0:Nat):Int)) 1;rw[e1,e2];exact au _ rfl
 ·have e:b=(s.heap.push {cls:=.type "range",data:=.fields #[.int lo t,.int hi u,.int 1 v]}).objs.size:=by simpa using hb
  subst e;exact I1.fpOk (ag _) (I1.hok.fresh (ag _))
def zly (ta:TA):TI:=fun σ H R=>ta σ H fun vs H1=>∃j:Int,vs=[.int j]/\-(2 ^ 62)<=j/\j<2 ^ 62/\R (Itr 0 j.toNat) H1
theorem z9e {a:Expr}{ta:TA}{p pos:Pos}(hg:Gl X "range")(hm:X.mg "range"=none)(ha:PA X [a] ta)(hs:cw [a] X.env=[(false,eval a X.env)]:=by rfl):PI X tg (.Call (.Name "range" p) [a] [] pos) (zly ta):=by
 intro pins s σ H R I h;refine Call_ (z21 I hg hm boot_range (PyProof.Rows.callWith_type1 (thn (ha pos pins s σ H _ I h) fun us s1 ⟨vs,H1,I1,r1,q1⟩=>?_) hs rfl));obtain⟨j,e,q1,q2,q⟩:=q1;subst e;cases r1 with
 |cons r rr=>cases rr;obtain⟨t,rfl⟩:=r;exact call_range_1 (zan I1 (by omega) (by omega) q1 q2 (by simpa using q))
def tFor (wi:TI)(g:TG)(tb:TS):TS:=fun D σ H=>wi σ H fun J H1=>∃W:Nat->Nat->St->Hp->Prop,(∃m,W 0 m σ H1)/\∀i m σ H,W i m σ H->(J.stop i H/\D.nx σ H)\/(J.go i H/\∃N:St->Hp->Prop,(∀σ' H',N σ' H'->∃m',m'<m/\W (i+1) m' σ' H')/\∀x H',J.yld i H x H'->g x σ H' fun σ2 H2=>tb {D with nx:=N,ct:=N,bk:=D.nx} σ2 H2)
def z4c (fp:List Addr)(h:Heap):List (Addr×Obj):=fp.filterMap fun b=>(h.get? b).map fun o=>(b,o)
theorem z0x {fp:List Addr}{h:Heap}{b:Addr}{o:Obj}(hb:b∈fp)(e:h.get? b=some o):(b,o)∈z4c fp h:=ly.mpr ⟨b,hb,by rw[e];rfl⟩
theorem z8w {fp:List Addr}{h:Heap}{p:Addr×Obj}(hp:p∈z4c fp h):p.1∈fp/\h.get? p.1=some p.2:=by
 obtain⟨b,hb,e⟩:=ly.mp hp;cases q:h.get? b with
 |none=>rw[q]at e;cases e
 |some o=>rw[q]at e;have e':(b,o)=p:=Option.some.inj e;subst e';exact⟨hb,q⟩
theorem Inv.pinned {pins:List (Addr×Obj)}{σ:St}{H:Hp}{s:ac}{fp:List Addr}(I:Inv X pins σ H s)(hf:∀b∈fp,FpOk X pins H b)(ho:∀b∈fp,∃o,s.heap.get? b=some o/\∀v,o.data≠.cell v):Inv X (pins++z4c fp s.heap) σ H s:=I.pins_of fun p hp=>(dh.mp hp).elim (fun z=>I.pin p (am _ z)) fun z=>by obtain⟨hb,e⟩:=z8w z;obtain⟨f0,f1,f2,_⟩:=hf p.1 hb;obtain⟨o,e',d⟩:=ho p.1 hb;rw[e]at e';cases e';exact⟨e,f0,f1,f2,d⟩
theorem Inv.unpinned {pins pl:List (Addr×Obj)}{σ:St}{H:Hp}{s:ac}(I:Inv X (pins++pl) σ H s):Inv X pins σ H s:=I.pins_of fun p hp=>I.pin p (am _ (cu _ hp))
theorem zi5 {iter:Expr}{body:List Stmt}{wi:TI}{g:TG}{tb:TS}{pos:Pos}(hp:i6 (model X.prog X.w) X.A X.env X.xe)(hc:X.calm=true)(hi:PI X tg iter wi)(hg:PG X tg g)(hb:PSs X body tb)
  (hs:∀x,d8 iter X.env x=pure x:=by intro _;rfl):PS X (.For tg iter body [] pos) (tFor wi g tb):=by
 intro pins s σ H D I h;refine wpAny_For (thn (hi pins s σ H _ I h) fun v s1 h1=>thn h1 fun itv s2 h2=>?_) hs;obtain⟨it,fp,tn,J,H2,e,I2,T,st2,f2,W,⟨m0,w0⟩,turn⟩:=h2;subst e;have stat:∀{H':Hp},(∀b∈fp,H' b=none)->∀b∈fp,FpOk X pins H' b:=fun hn b hb=>⟨hn b hb,(f2 b hb).2⟩;refine codeAny_forLoop_any (fun n s'=>∃i σ' H',Inv X pins σ' H' s'/\tn i s'.heap/\(∀b∈fp,H' b=none)/\W i n σ' H') ?_ m0 ⟨0,σ,H2,I2,st2,fun b hb=>(f2 b hb).1,w0⟩
 rintro n s3 ⟨i,σ3,H3,I3,st3,fr3,w3⟩
 rcases turn i n σ3 H3 w3 with⟨stop,qn⟩|⟨go,N,hN,step⟩
 ·refine gv hp (thn (T.done X rfl rfl rfl hc i pins s3 σ3 H3 X.xe I3 (stat fr3) st3 stop) fun r s4 ⟨hr,I4⟩=>?_);subst hr;exact wpAny_execs_nil ⟨σ3,H3,I4,qn⟩
 ·refine gv hp (thn (T.item X rfl rfl rfl hc i pins s3 σ3 H3 X.xe I3 (stat fr3) st3 go) fun r s4 ⟨u,hr,h4⟩=>?_);subst hr;refine gv hp (thn h4 fun _ s5 ⟨x,H5,I5,r5,y5,st5,fr5⟩=>?_);have I5':=I5.pinned (stat fr5) (T.obj _ _ st5);refine gv hp (thn (hg _ s5 σ3 H5 x u _ I5' r5 (step x H5 y5)) fun _ s6 ⟨σ6,H6,I6,q6⟩=>?_);refine gv hp (thn (hb _ s6 σ6 H6 _ I6 q6) fun f s7 q7=>?_);have again:∀{σ7:St} {H7:Hp},Inv X (pins++z4c fp s5.heap) σ7 H7 s7->N σ7 H7->∃m,m<n/\∃i σ' H',Inv X pins σ' H' s7/\tn i s7.heap/\(∀b∈fp,H' b=none)/\W i m σ' H':=fun{σ7 H7} I7 n7=>by obtain⟨m',hm,w7⟩:=hN σ7 H7 n7;refine⟨m',hm,i+1,σ7,H7,I7.unpinned,T.keep _ _ _ st5 fun b hb o e=>(I7.pin (b,o) (am _ (am _ (z0x hb e)))).1,fun b hb=>?_,w7⟩;obtain⟨o,e,d⟩:=T.obj _ _ st5 b hb;exact(I7.pin (b,o) (am _ (am _ (z0x hb e)))).2.1
  cases f with
  |next=>obtain⟨σ7,H7,I7,n7⟩:=q7;exact again I7 n7
  |cont=>obtain⟨σ7,H7,I7,n7⟩:=q7;exact again I7 n7
  |brk=>obtain⟨σ7,H7,I7,q7⟩:=q7;exact⟨σ7,H7,I7.unpinned,q7⟩
  |ret v=>obtain⟨x7,σ7,H7,I7,r7,q7⟩:=q7;exact⟨x7,σ7,H7,I7.unpinned,r7,q7⟩
end
abbrev R2:=V->V->Hp->VK->Prop
def OpR (X:Cx)(f:Value->Value->Sem Value)(r:R2):Prop:=∀(pins:List (Addr×Obj)) (s:ac) (σ:St) (H:Hp) (x y:V) (v u:Value) (Q:VK),Inv X pins σ H s->RelV x v->RelV y u->r x y H Q->wpAny (model X.prog X.w) X.A (f v u) (EP X pins σ Q) X.xe s
def UnR (X:Cx)(f:Value->Sem Value)(r:V->Hp->VK->Prop):Prop:=∀(pins:List (Addr×Obj)) (s:ac) (σ:St) (H:Hp) (x:V) (v:Value) (Q:VK),Inv X pins σ H s->RelV x v->r x H Q->wpAny (model X.prog X.w) X.A (f v) (EP X pins σ Q) X.xe s
def CallR (X:Cx)(f:Value)(r:List V->Hp->VK->Prop):Prop:=∀(pins:List (Addr×Obj)) (s:ac) (σ:St) (H:Hp) (xs:List V) (us:List Value) (Q:VK),Inv X pins σ H s->Vals xs us->r xs H Q->wpAny (model X.prog X.w) X.A (call f us) (EP X pins σ Q) X.xe s
def TruR (X:Cx)(r:V->Hp->(Bool->Hp->Prop)->Prop):Prop:=∀(pins:List (Addr×Obj)) (s:ac) (σ:St) (H:Hp) (x:V) (v:Value) (Q:Bool->Hp->Prop),Inv X pins σ H s->RelV x v->r x H Q->wpAny (model X.prog X.w) X.A (truthy v) (TP X pins σ Q) X.xe s
def tOp (r:R2)(ta tb:TE):TE:=fun σ H Q=>ta σ H fun x H1=>tb σ H1 fun y H2=>r x y H2 Q
def tUn (r:V->Hp->VK->Prop)(ta:TE):TE:=fun σ H Q=>ta σ H fun x H1=>r x H1 Q
def rI (C:Int->Int->Prop)(g:Int->Int->V):R2:=fun x y H Q=>∃i j,x=.int i/\y=.int j/\C i j/\Q (g i j) H
def rI0 (g:Int->Int->V):R2:=fun x y H Q=>∃i j,x=.int i/\y=.int j/\Q (g i j) H
def rU (g:Int->V):V->Hp->VK->Prop:=fun x H Q=>∃i,x=.int i/\Q (g i) H
section
variable {X:Cx}{a b c:Expr}{ta tb tc:TE}{pos:Pos}
theorem binT (ha:PE X a ta)(hb:PE X b tb){pins:List (Addr×Obj)}{s:ac}{σ:St}{H:Hp}{R:V->V->Hp->Prop}(I:Inv X pins σ H s)
  (h:ta σ H fun x H1=>tb σ H1 fun y H2=>R x y H2) {Q:Value->ac->Prop} {f:Value->Value->Sem Value}
  (hf:∀v u s2 x y H2,Inv X pins σ H2 s2->RelV x v->RelV y u->R x y H2->wpAny (model X.prog X.w) X.A (f v u) Q X.xe s2):
  wpAny (model X.prog X.w) X.A (eval a X.env) (fun v s₁=>wpAny (model X.prog X.w) X.A (eval b X.env) (fun u s₂=>wpAny (model X.prog X.w) X.A (f v u) Q X.xe s₂) X.xe s₁) X.xe s:=by
 refine thn (ha pins s σ H _ I h) fun v s1 ⟨x,H1,I1,r1,q1⟩=>?_;refine thn (hb pins s1 σ H1 _ I1 q1) fun u s2 ⟨y,H2,I2,r2,q2⟩=>?_;exact hf v u s2 x y H2 I2 r1 r2 q2
theorem zj0 {op:gh}{r:R2}(ho:OpR X (eu op) r)(ha:PE X a ta)(hb:PE X b tb):PE X (.BinOp a op b pos) (tOp r ta tb):=by intro pins s σ H Q I h;exact wpAny_BinOp (binT ha hb I h fun v u s2 x y H2 I2 rx ry q=>ho pins s2 σ H2 x y v u Q I2 rx ry q)
theorem zk8 {op:UnaryOp}{r:V->Hp->VK->Prop}(ho:UnR X (unaryOp op) r)(ha:PE X a ta):PE X (.UnaryOp op a pos) (tUn r ta):=by intro pins s σ H Q I h;exact UnaryOp_ (thn (ha pins s σ H _ I h) fun v s1 ⟨x,H1,I1,r1,q1⟩=>ho pins s1 σ H1 x v Q I1 r1 q1)
theorem opI {f:Value->Value->Sem Value}{C:Int->Int->Prop}{g:Int->Int->Int}
  (rule:∀(i j:Int) (t u:Tok) (s:ac) (Q:Value->ac->Prop) (E:Value->ac->Prop),C i j->Q (.int (g i j) s.toks) {s with toks:=s.toks+1}->wpAny (model X.prog X.w) X.A (f (.int i t) (.int j u)) Q E s):
  OpR X f (rI C fun i j=>.int (g i j)):=by
 intro pins s σ H x y v u Q I rx ry h;obtain⟨i,j,rfl,rfl,hc,q⟩:=h;obtain⟨t,rfl⟩:=rx;obtain⟨t',rfl⟩:=ry;exact rule i j t t' s _ _ hc ⟨.int (g i j),H,I.tok _,⟨_,rfl⟩,q⟩
theorem opI0 {f:Value->Value->Sem Value}{g:Int->Int->Int}
  (rule:∀(i j:Int) (t u:Tok) (s:ac) (Q:Value->ac->Prop) (E:Value->ac->Prop),Q (.int (g i j) s.toks) {s with toks:=s.toks+1}->wpAny (model X.prog X.w) X.A (f (.int i t) (.int j u)) Q E s):
  OpR X f (rI0 fun i j=>.int (g i j)):=by
 intro pins s σ H x y v u Q I rx ry h;obtain⟨i,j,rfl,rfl,q⟩:=h;obtain⟨t,rfl⟩:=rx;obtain⟨t',rfl⟩:=ry;exact rule i j t t' s _ _ ⟨.int (g i j),H,I.tok _,⟨_,rfl⟩,q⟩
theorem opB0 {f:Value->Value->Sem Value}{g:Int->Int->Bool}
  (rule:∀(i j:Int) (t u:Tok) (s:ac) (Q:Value->ac->Prop) (E:Value->ac->Prop),Q (.bool (g i j)) s->wpAny (model X.prog X.w) X.A (f (.int i t) (.int j u)) Q E s):
  OpR X f (rI0 fun i j=>.bl (g i j)):=by
 intro pins s σ H x y v u Q I rx ry h;obtain⟨i,j,rfl,rfl,q⟩:=h;obtain⟨t,rfl⟩:=rx;obtain⟨t',rfl⟩:=ry;exact rule i j t t' s _ _ ⟨.bl (g i j),H,I,rfl,q⟩
def CPow (i j:Int):Prop:=0<=j/\j<=1000000/\i.natAbs<2 ^ 64
def CMul (i j:Int):Prop:=(-(2 ^ 64)<i/\i<2 ^ 64)\/(-(2 ^ 64)<j/\j<2 ^ 64)
theorem CMul.ok {i j:Int}(h:CMul i j):IntMulOk i j:=by
 rcases h with⟨h1,h2⟩|⟨h1,h2⟩
 ·exact .of_left (intBits_le_64 h1 h2)
 ·exact .of_right (intBits_le_64 h1 h2)
theorem zhm:OpR X (eu .Add) (rI0 fun i j=>.int (i+j)):=opI0 fun _ _ _ _ _ _ _ q=>add_int q
theorem zgd:OpR X (eu .Sub) (rI0 fun i j=>.int (i-j)):=opI0 fun _ _ _ _ _ _ _ q=>sub_int q
theorem zfj:OpR X (eu .Mult) (rI CMul fun i j=>.int (i*j)):=opI fun _ _ _ _ _ _ _ hc q=>mul_int q hc.ok
theorem zfu:OpR X (eu .Mod) (rI (fun _ j=>0<j) fun i j=>.int (i%j)):=opI fun i j _ _ _ _ _ hc q=>by have h1:(0:Int)<j:=hc;exact mod_int' (by omega) (by rw[Int.fmod_eq_emod_of_nonneg i (by omega)];exact q)
theorem zha:OpR X (eu .Pow) (rI CPow fun i j=>.int (i ^ j.toNat)):=opI fun _ _ _ _ _ _ _ hc q=>pow_int_small hc.1 hc.2.1 hc.2.2 q
theorem unI {f:Value->Sem Value}{g:Int->Int}
  (rule:∀(i:Int) (t:Tok) (s:ac) (Q:Value->ac->Prop) (E:Value->ac->Prop),Q (.int (g i) s.toks) {s with toks:=s.toks+1}->wpAny (model X.prog X.w) X.A (f (.int i t)) Q E s):
  UnR X f (rU fun i=>.int (g i)):=by
 intro pins s σ H x v Q I rx h;obtain⟨i,rfl,q⟩:=h;obtain⟨t,rfl⟩:=rx;exact rule i t s _ _ ⟨.int (g i),H,I.tok _,⟨_,rfl⟩,q⟩
theorem zh5:UnR X (unaryOp .USub) (rU fun i=>.int (-i)):=unI fun _ _ _ _ _ q=>neg_int q
end
section
variable {X:Cx}{a b c:Expr}{ta tb tc:TE}{pos:Pos}
theorem zbk {pins:List (Addr×Obj)}{σ:St}{H:Hp}{s:ac}{Q:VK}{k k':Bool}(I:Inv X pins σ H s)(q:Q (.bl k) H)(e:k=k'):EP X pins σ Q (.bool k') s:=by subst e;exact⟨.bl k,H,I,rfl,q⟩
theorem ziq:OpR X (bw .Lt) (rI0 fun i j=>.bl (decide (i<j))):=opB0 fun _ _ _ _ _ _ _ q=>lt_int q
theorem zk7:OpR X (bw .LtE) (rI0 fun i j=>.bl (decide (i<=j))):=opB0 fun _ _ _ _ _ _ _ q=>le_int q
theorem zjk:OpR X (bw .Gt) (rI0 fun i j=>.bl (decide (j<i))):=opB0 fun _ _ _ _ _ _ _ q=>gt_int q
theorem zjm:OpR X (bw .GtE) (rI0 fun i j=>.bl (decide (j<=i))):=opB0 fun _ _ _ _ _ _ _ q=>ge_int q
theorem z8l:OpR X (bw .Lt) (fun x y H Q=>∃i j,x=.str i/\y=.str j/\Q (.bl (decide (i.cps.toList<j.cps.toList))) H):=by intro pins s σ H x y v u Q I rx ry h;obtain⟨i,j,rfl,rfl,q⟩:=h;obtain⟨t,rfl⟩:=rx;obtain⟨t',rfl⟩:=ry;exact lt_str (zbk I q rfl)
theorem z83:OpR X (bw .In) (fun x y H Q=>∃i j,x=.str i/\y=.str j/\Q (.bl (!(cq j i 0 j.length 1).isEmpty)) H):=by intro pins s σ H x y v u Q I rx ry h;obtain⟨i,j,rfl,rfl,q⟩:=h;obtain⟨t,rfl⟩:=rx;obtain⟨t',rfl⟩:=ry;exact in_str (zbk I q rfl)
def isObj:HO->Bool
 |.lst _=>true
 |.ins _ _ _=>true
 |_=>false
theorem z3y {pins:List (Addr×Obj)}{s:ac}{σ:St}{H:Hp}{a:Addr}{o:HO}(I:Inv X pins σ H s)(h:H a=some o)(p:isObj o=true):∃ob,s.heap.get? a=some ob/\ob.cls≠.type "tuple":=by
 cases o with
 |lst xs=>obtain⟨_,its,n,_,e⟩:xs.length<=az/\∃(its:List Value) (n:Nat),Vals xs its/\s.heap.get? a=some {cls:=.type "list",data:=.seq its.toArray n}:=I.hok a _ h;exact⟨_,e,(by show Value.type "list"≠.type "tuple";decide+kernel)⟩
 |ins C dx fs=>have x:=I.hok a _ h;obtain⟨_,_,_,e,_⟩:=x;exact⟨_,e,(by show Value.ref C≠.type "tuple";exact fun z=>by cases z)⟩
 |_=>exact absurd (show false=true from p) br
theorem OpR.or {f:Value->Value->Sem Value}{r r':R2}(h:OpR X f r)(h':OpR X f r'):OpR X f (fun x y H Q=>r x y H Q\/r' x y H Q):=by
 intro pins s σ H x y v u Q I rx ry q;rcases q with q|q
 ·exact h pins s σ H x y v u Q I rx ry q
 ·exact h' pins s σ H x y v u Q I rx ry q
theorem ze6 {op:CmpOp}{r:R2}(ho:OpR X (bw op) r)(ha:PE X a ta)(hb:PE X b tb)(hm:gr op b=false):PE X (.Compare a [op] [b] pos) (tOp r ta tb):=by intro pins s σ H Q I h;exact wpAny_Compare1 (binT ha hb I h fun v u s2 x y H2 I2 rx ry q=>ho pins s2 σ H2 x y v u Q I2 rx ry q) hm
def zgf (t:TE):TT:=fun σ H Q=>t σ H fun x H'=>∃k,x=.bl k/\Q k H'
theorem zcn {op:CmpOp}{r:R2}(ho:OpR X (bw op) r)(ha:PE X a ta)(hb:PE X b tb)(hm:gr op b=false):PT X (.Compare a [op] [b] pos) (zgf (tOp r ta tb)):=by intro pins s σ H Q I h;refine wpAny_isTrue_Compare1 (thn (ha pins s σ H _ I h) fun v s1 ⟨x,H1,I1,r1,q1⟩=>thn (hb pins s1 σ H1 _ I1 q1) fun u s2 ⟨y,H2,I2,r2,q2⟩=>thn (ho pins s2 σ H2 x y v u _ I2 r1 r2 q2) fun c s3 ⟨z,H3,I3,r3,k,e,q3⟩=>?_) hm;subst e;cases r3;exact fk ⟨H3,I3,q3⟩
def TruV (K:W.Frag)(x:V)(H:Hp)(k:Bool):Prop:=
 match x with
 |.non=>k=false
 |.bl b=>k=b
 |.int i=>k=(i != 0)
 |.str y=>y.length<=az/\k=((y.length:Int) != 0)
 |.byt y=>y.size<=az/\k=((y.size:Int) != 0)
 |.ref p=>(∃xs,SqL K H p xs/\k=!xs.isEmpty)\/(∃xs,SqT K H p xs/\k=!xs.isEmpty)\/∃kvs,H p=some (.dK kvs)/\k=!kvs.isEmpty
 |_=>False
theorem z6r {κ:Type}{kvs:List (κ×V)}{vs:List (κ×Value)}(r:KV kvs vs):(!vs.isEmpty)=!kvs.isEmpty:=by cases r<;>rfl
theorem z2z {xs:List V}{its:List Value}(r:Vals xs its):(!its.toArray.isEmpty)=!xs.isEmpty:=by cases r<;>simp
theorem z2y:(az:Nat)<2 ^ 63:=by rw[f9];decide
theorem zbp:TruR X (fun x H Q=>∃k,TruV X.K x H k/\Q k H):=by
 intro pins s σ H x v Q I rx h;obtain⟨k,e,q⟩:=h;have hl:=z2y;have hs:az=16777216:=f9;cases x with
 |non=>cases rx;have e':k=false:=e;subst e';exact truthy_none ⟨H,I,q⟩
 |bl b=>cases rx;have e':k=b:=e;subst e';exact fk ⟨H,I,q⟩
 |int i=>obtain⟨t,rfl⟩:=rx;have e':k=(i != 0):=e;subst e';exact PySem.P.truthy_int ⟨H,I,q⟩
 |str y=>obtain⟨t,rfl⟩:=rx;obtain⟨hy,e'⟩:y.length<=az/\k=((y.length:Int) != 0):=e;subst e';exact PySem.P.truthy_str (by omega) ⟨H,I.tok _,q⟩
 |byt y=>obtain⟨t,rfl⟩:=rx;obtain⟨hy,e'⟩:y.size<=az/\k=((y.size:Int) != 0):=e;subst e';exact W.truthy_bytes (by omega) ⟨H,I.tok _,q⟩
 |ref p=>
  cases rx;have e':(∃xs,SqL X.K H p xs/\k=!xs.isEmpty)\/(∃xs,SqT X.K H p xs/\k=!xs.isEmpty)\/∃kvs,H p=some (.dK kvs)/\k=!kvs.isEmpty:=e;rcases e' with⟨xs,hx,e'⟩|⟨xs,hx,e'⟩|⟨kvs,hx,e'⟩
  ·subst e';obtain⟨its,r,pl,hz⟩:=I.list hx;have hlen:=r.length;exact wpAny_truthy_list pl.isList (by simp only[ai];omega) ⟨H,I.tok _,by rw[z2z r];exact q⟩
  ·subst e';obtain⟨its,r,pl,hz⟩:=I.tuple hx;have hlen:=r.length;exact truthy_tuple pl (by simp only[ai];omega) ⟨H,I.tok _,by rw[z2z r];exact q⟩
  ·subst e';obtain⟨hz,hS,vs,r,m⟩:kvs.length<=az/\(p==gf)=false/\∃vs,KV kvs vs/\s.heap.DictOf (z0l X.prog X.w) p vs:=I.hok p _ hx;have hlen:kvs.length=vs.length:=Paired.length r;exact wpAny_truthy_dict hS m (by omega) ⟨H,I.tok _,by rw[z6r r];exact q⟩
 |_=>exact(show False from e).elim
theorem zat (ha:PE X a ta)(he:∀whole,mv a X.env whole=(do let v <-whole;standAt a.pos;m4 [v] (truthy v))):
  PT X a (fun σ H Q=>ta σ H fun x H'=>∃k,TruV X.K x H' k/\Q k H'):=by
 intro pins s σ H Q I h;exact isTrue_plain (thn (ha pins s σ H _ I h) fun v s1 ⟨x,H1,I1,r1,q1⟩=>zbp pins s1 σ H1 x v Q I1 r1 q1) (he _)
theorem z6f:OpR X (eu .Add) (fun x y H Q=>∃i j,x=.str i/\y=.str j/\i.length+j.length<=az/\Q (.str (i++j)) H):=by intro pins s σ H x y v u Q I rx ry h;obtain⟨i,j,rfl,rfl,hz,q⟩:=h;obtain⟨t,rfl⟩:=rx;obtain⟨t',rfl⟩:=ry;exact add_str (fun t' tk=>⟨.str (i++j),H,I.tok _,⟨_,rfl⟩,q⟩) hz
theorem vals1 {x:V}{us:List Value}(r:Vals [x] us):∃u,us=[u]/\RelV x u:=by
 cases r with
 |cons r1 r2=>cases r2;exact⟨_,rfl,r1⟩
theorem vals2 {x y:V}{us:List Value}(r:Vals [x,y] us):∃u w',us=[u,w']/\RelV x u/\RelV y w':=by
 cases r with
 |cons r1 r2=>
  cases r2 with
  |cons r3 r4=>cases r4;exact⟨_,_,rfl,r1,r3⟩
theorem z8t (hc:X.calm=true):CallR X (.builtin "max") (fun xs H Q=>∃i j,xs=[.int i,.int j]/\Q (.int (if j>i then j else i)) H):=by
 intro pins s σ H xs us Q I r h;obtain⟨i,j,rfl,q⟩:=h;obtain⟨u,w',rfl,⟨t,rfl⟩,⟨t',rfl⟩⟩:=vals2 r;refine max_two_ints (I.ok.hd hc) fun h' tk k=>⟨_,H,I.kept k,?_,q⟩;by_cases hj:j>i
 ·rw[if_pos hj,if_pos hj];exact⟨_,rfl⟩
 ·rw[if_neg hj,if_neg hj];exact⟨_,rfl⟩
theorem z88 (hc:X.calm=true):CallR X (.builtin "min") (fun xs H Q=>∃i j,xs=[.int i,.int j]/\Q (.int (if j<i then j else i)) H):=by
 intro pins s σ H xs us Q I r h;obtain⟨i,j,rfl,q⟩:=h;obtain⟨u,w',rfl,⟨t,rfl⟩,⟨t',rfl⟩⟩:=vals2 r;refine min_two_ints (I.ok.hd hc) fun h' tk k=>⟨_,H,I.kept k,?_,q⟩;by_cases hj:j<i
 ·rw[if_pos hj,if_pos hj];exact⟨_,rfl⟩
 ·rw[if_neg hj,if_neg hj];exact⟨_,rfl⟩
end
structure ObjM (h:Heap)(x dx C:Addr)(mA:Str->Option Value):Prop where
 obj:h.get? x=some (W.instObj C dx)
 ns:h.Ns1 dx mA
 ne:dx≠x
theorem z90 {h:Heap}{dx:Addr}{mA:Str->Option Value}(n:h.Ns1 dx mA):∃od,h.get? dx=some od/\∀name,W.lookIn name od=some (mA name):=by
 obtain⟨o,es,ep,ho,hd,hk,_,hm⟩:=n;refine⟨o,ho,fun name=>?_⟩;have e:=hm name;unfold nsFind findBy at e;rw[<-Array.find?_toList]at e;unfold W.lookIn;rw[hd]
 dsimp only
 split
 ·rename_i y q;rw[q]at e;exact congrArg some e
 ·rename_i q;rw[q]at e;have a:es.toList.any (·.refKey)=false:=by rw[List.any_eq_false];intro y hy;obtain⟨z,t,hkey⟩:=hk y (Array.mem_toList_iff.mp hy);simp[DictEntry.refKey,hkey]
  have a':¬es.toList.any (·.refKey)=true:=by rw[a];exact br
  rw[if_neg a'];exact congrArg some e
theorem ObjM.look {h:Heap}{x dx C:Addr}{mA:Str->Option Value}(I:ObjM h x dx C mA):∃od,W.InstAt h x (W.instObj C dx) C (some od)/\∀name,W.lookIn name od=some (mA name):=
 let⟨od,ho,hl⟩:=z90 I.ns
 ⟨od,⟨I.obj,rfl,rfl,ho⟩,hl⟩
section
variable {prog:aq}{w:World}{A:bt}{E:Value->ac->Prop}{s:ac}{K:W.Frag}{x dx C f:Addr}{mA:Str->Option Value}{name:Str}{v:Value}
end
theorem RelO.some_of {v:V}{o:Option Value}(r:RelO (some v) o):∃u,o=some u/\RelV v u:=by
 cases o with
 |none=>exact(show False from r).elim
 |some u=>exact⟨u,rfl,r⟩
theorem RelO.none_of {o:Option Value}(r:RelO none o):o=none:=by
 cases o with
 |none=>rfl
 |some u=>exact(show False from r).elim
section
variable {P:aq}{w:World}{H H':Hp}{h h':Heap}{a C dx:Addr}{fs fs':List (Str×V)}
theorem zcy (hok:HOk P w H h)(e:H a=some (.ins C dx fs)):∃mA,ObjM h a dx C mA/\(∀f,RelO (fs.lookup f) (mA f))/\PySem.Within mA (fs.map (·.1))/\fs.length<=1000/\H dx=some (.own a):=by obtain⟨d,z,ne,ob,mA,n,r,q⟩:=(show z0k P w H h a (.ins C dx fs)from hok a _ e);exact⟨mA,⟨ob,n,ne⟩,r,q,z,d⟩
end
structure Cls (K:W.Frag)(C:Addr):Prop where
 pg:W.plainGet K C Str.empty=true
 hd:W.hasDictIn K C=true
 po:W.plainOver K C=true
 sa:W.findIn K (.ref C) "__setattr__"=some (some (.builtin "object.__setattr__"))
theorem Cls.get {K:W.Frag}{C:Addr}(c:Cls K C)(f:Str):W.plainGet K C f=true:=c.pg
section
variable {X:Cx}{pins:List (Addr×Obj)}{σ:St}{H:Hp}{s:ac}{a C dx:Addr}{fs:List (Str×V)}{f:Str}{v:V}{A:bt}{E:Value->ac->Prop}
theorem Inv.made (I:Inv X pins σ H s):Inv X pins σ (upd (upd H s.heap.objs.size (.own (s.heap.objs.size+1))) (s.heap.objs.size+1) (.ins C s.heap.objs.size []))
  {s with heap:=(s.heap.push W.emptyDict).push (W.instObj C s.heap.objs.size)}:=by
 have e1:(s.heap.push W.emptyDict).get? s.heap.objs.size=some W.emptyDict:=au s.heap rfl
 have e2:((s.heap.push W.emptyDict).push (W.instObj C s.heap.objs.size)).get? (s.heap.objs.size+1)=some (W.instObj C s.heap.objs.size):=by
  have:=au (s.heap.push W.emptyDict) (o:=W.instObj C s.heap.objs.size) rfl
  rwa [kt]at this
 have e3:(s.heap.push W.emptyDict).Ns s.heap.objs.size (fun _=>none):=⟨W.emptyDict,#[],_,e1,rfl,(fun e he=>absurd he (by simp)),fun _=>rfl⟩;have I1:=I.laid (a:=s.heap.objs.size) (o:=.own (s.heap.objs.size+1)) (h':=s.heap.push W.emptyDict) (t':=s.toks) (fun b u q=>ae _ q) (ag _) ⟨_,e1⟩;refine I1.laid (a:=s.heap.objs.size+1) (o:=.ins C s.heap.objs.size []) (t':=s.toks) (fun b u q=>ae _ q) (Nat.le_of_eq (kt _ _)) ?_;have ne:s.heap.objs.size≠s.heap.objs.size+1:=bq (jr _);refine⟨by rw[z03 ne,z08],d6 _,ne,e2,fun _=>none,(Heap.Ns1.of_empty e3).at fun o q=>ae _ q,fun _=>True.intro,fun y hy=>absurd rfl hy⟩
end
section
variable {X:Cx}{o e value:Expr}{f:Str}{pos pos' tpos:Pos}{ta tv:TE}
end
section
variable {X:Cx}{pins:List (Addr×Obj)}{σ:St}{H:Hp}{s:ac}{A:bt}{E:Value->ac->Prop}{Q:Value->ac->Prop}{c:Value}{b:Bool}
inductive TyOf (K:W.Frag)(H:Hp):V->Value->Prop where
 |non:TyOf K H .non (.type "NoneType")
 |bl (x:Bool):TyOf K H (.bl x) (.type "bool")
 |int (i:Int):TyOf K H (.int i) (.type "int")
 |str (x:Str):TyOf K H (.str x) (.type "str")
 |flt (x:UInt64):TyOf K H (.flt x) (.type "float")
 |lst {a:Addr} {xs:List V} (e:H a=some (.lst xs)):TyOf K H (.ref a) (.type "list")
 |frz {a:Addr} {o:Obj} {xs:List V} (e:H a=some (.frz o (.lst xs))):TyOf K H (.ref a) (.type "list")
 |tup {a:Addr} {xs:List V} (e:H a=some (.tup xs)):TyOf K H (.ref a) (.type "tuple")
 |dK {a:Addr} {kvs:List (Key×V)} (e:H a=some (.dK kvs)):TyOf K H (.ref a) (.type "dict")
 |dT {a:Addr} {kvs:List (List Key×V)} (e:H a=some (.dT kvs)):TyOf K H (.ref a) (.type "dict")
 |ins {a C dx:Addr} {fs:List (Str×V)} (e:H a=some (.ins C dx fs)) (cl:Cls K C) (ha:W.findIn K (.ref C) "__class__"=some (some (.builtin "object.__class__")))
  (hn:W.specialIn K (.builtin "object.__class__") "__get__"=some (some (.builtin "getset_descriptor.__get__"))) (htk:W.takesIn K (.builtin "object.__class__")=some true)
  (hm:W.mroIn K C (.type "object")=some true):TyOf K H (.ref a) (.ref C)
theorem z1b {x:V}{u t:Value}(I:Inv X pins σ H s)(rx:RelV x u)(ty:TyOf X.K H x t)(e:W.kitOne X.K t c=some b)(h:∀tk,Q (.bool b) {s with toks:=tk}):
  wpAny (model X.prog X.w) A (call (.builtin "isinstance") [u,c]) Q E s:=by
 cases ty with
 |non=>cases(show u=Value.none from rx);exact W.kia_one W.kitx_none I.kIn True.intro e (fun z=>nomatch z) h
 |bl y=>cases(show u=Value.bool y from rx);exact W.kia_one W.kitx_bool I.kIn True.intro e (fun z=>nomatch z) h
 |int i=>obtain⟨t,q⟩:=(show ∃t,u=Value.int i t from rx);cases q;exact W.kia_one W.kitx_int I.kIn True.intro e (fun z=>nomatch z) h
 |str y=>obtain⟨t,q⟩:=(show ∃t,u=Value.str y t from rx);cases q;exact W.kia_one W.kitx_str I.kIn True.intro e (fun z=>nomatch z) h
 |flt y=>obtain⟨t,q⟩:=(show ∃t,u=Value.float y t from rx);cases q;exact W.kia_one W.kitx_float I.kIn True.intro e (fun z=>nomatch z) h
 | @lst a xs ea=>cases(show u=Value.ref a from rx);obtain⟨_,_,n,_,h1⟩:=(show z0k X.prog X.w H s.heap a (.lst xs)from I.hok a _ ea);exact W.kia_one W.kitx_list I.kIn ⟨_,h1,rfl⟩ e (fun z=>nomatch z) h
 | @frz a ob xs ea=>cases(show u=Value.ref a from rx);obtain⟨_,_,_,n,_,h1⟩:=(show z0k X.prog X.w H s.heap a (.frz ob (.lst xs))from I.hok a _ ea);exact W.kia_one W.kitx_list I.kIn ⟨_,h1,rfl⟩ e (fun z=>nomatch z) h
 | @tup a xs ea=>cases(show u=Value.ref a from rx);obtain⟨_,_,_,p⟩:=(show z0k X.prog X.w H s.heap a (.tup xs)from I.hok a _ ea);obtain⟨o,h1,h2,_⟩:=p.tup;exact W.kia_one W.kitx_tuple I.kIn ⟨o,h1,h2⟩ e (fun z=>nomatch z) h
 | @dK a kvs ea=>cases(show u=Value.ref a from rx);obtain⟨_,_,vs,_,p⟩:=(show z0k X.prog X.w H s.heap a (.dK kvs)from I.hok a _ ea);obtain⟨o,es,ep,h1,h2,_⟩:=p;exact W.kia_one W.kitx_dict I.kIn ⟨o,h1,h2.1⟩ e (fun z=>nomatch z) h
 | @dT a kvs ea=>cases(show u=Value.ref a from rx);obtain⟨_,_,xs,_,o,es,ep,h1,h2,_⟩:=(show z0k X.prog X.w H s.heap a (.dT kvs)from I.hok a _ ea);exact W.kia_one W.kitx_dict I.kIn ⟨o,h1,h2.1⟩ e (fun z=>nomatch z) h
 | @ins a C dx fs ea cl ha hn htk hm=>cases(show u=Value.ref a from rx);obtain⟨mA,O,_⟩:=zcy I.hok ea;obtain⟨od,J,_⟩:=O.look;exact W.kia_one (W.kitx_own (cl.get _) cl.hd ha hn htk hm) I.kIn J e (fun z=>nomatch z) h
end
structure Room (k:Nat)(A:bt):Prop where
 hd:A.handled=none
 dp:A.depth+3*k+5<recursionLimit
 un:A.units+16*k+200<cLine
theorem Room.mono {j k:Nat}{A:bt}(r:Room k A)(h:j<=k):Room j A:=⟨r.hd,by have:=r.dp;omega,by have:=r.un;omega⟩
theorem Room.deeper {k:Nat}{A:bt}(r:Room (k+1) A)(env:Env):Room k (A.deeper env):=⟨r.hd,by have:=r.dp;show A.depth+1+3*k+5<_;omega,by have:=r.un;show A.units+3+16*k+200<_;omega⟩
theorem Room.in1 {k:Nat}{A:bt}(r:Room (k+1) A):Room k A.in1:=⟨r.hd,by have:=r.dp;show A.depth+3*k+5<_;omega,by have:=r.un;show A.units+1+16*k+200<_;omega⟩
theorem Room.depth {k:Nat}{A:bt}(r:Room k A):A.depth<recursionLimit:=by have:=r.dp;omega
theorem Room.units {k:Nat}{A:bt}(r:Room k A):A.units+64<cLine:=by have:=r.un;omega
def tNil:TA:=fun _ H Q=>Q [] H
def ze2 (ta:TE)(tr:TA):TA:=fun σ H Q=>ta σ H fun x H1=>tr σ H1 fun xs H2=>Q (x::xs) H2
section
variable {X:Cx}{e:Expr}{es:List Expr}{te:TE}{t:TA}{pos:Pos}
theorem z46:PA X [] tNil:=fun _ _ _ _ H Q I h=>Calls.spliced_nil ⟨[],H,I,.nil,h⟩
theorem zed (ha:PE X e te)(hr:PA X es t)(hs:cw (e::es) X.env=(false,eval e X.env)::cw es X.env:=by rfl):PA X (e::es) (ze2 te t):=by intro pos pins s σ H Q I h;rw[hs];show wpAny _ _ (spliced ((false,eval e X.env)::iu pos (cw es X.env))) _ _ s;refine Calls.spliced_cons (thn (ha pins s σ H _ I h) fun u s1 ⟨x,H1,I1,r1,q1⟩=>?_);exact thn (hr pos pins s1 σ H1 _ I1 q1) fun us s2 ⟨xs,H2,I2,r2,q2⟩=>⟨x::xs,H2,I2,.cons r1 r2,q2⟩
def tTup (t:TA):TE:=fun σ H Q=>t σ H fun xs H1=>xs.length<=az/\∀p,H1 p=none->Q (.ref p) (upd H1 p (.tup xs))
def tLst (t:TA):TE:=fun σ H Q=>t σ H fun xs H1=>xs.length<=az/\∀p,H1 p=none->Q (.ref p) (upd H1 p (.lst xs))
theorem zgv {x1}(h:PA X es t):PE X (.Tuple es x1 pos) (tTup t):=by intro pins s σ H Q I hq;refine wpAny_Tuple_spliced (thn (h pos pins s σ H _ I hq) fun us s1 ⟨xs,H1,I1,r,z,q⟩=>⟨by rw[<-r.length];exact z,?_⟩);have hf:H1 s1.heap.objs.size=none:=I1.hok.fresh (ag _);refine⟨.ref s1.heap.objs.size,upd H1 s1.heap.objs.size (.tup xs),I1.laid (t':=s1.toks) (fun b u e=>ae _ e) (ag _) ?_,rfl,q _ hf⟩;exact⟨z,us,r,⟨_,au _ rfl⟩⟩
theorem zfs (h:PA X es t):PE X (.List es pos) (tLst t):=by intro pins s σ H Q I hq;refine wpAny_List_spliced (thn (h pos pins s σ H _ I hq) fun us s1 ⟨xs,H1,I1,r,z,q⟩=>⟨by rw[<-r.length];exact z,?_⟩);have hf:H1 s1.heap.objs.size=none:=I1.hok.fresh (ag _);refine⟨.ref s1.heap.objs.size,upd H1 s1.heap.objs.size (.lst xs),I1.laid (t':=s1.toks) (fun b u e=>ae _ e) (ag _) ?_,rfl,q _ hf⟩;exact⟨z,us,0,r,au _ rfl⟩
end
abbrev Sp:=List V->Hp->VK->XK->Prop
abbrev CXT:=List Env->Hp->ac->XK->Value->ac->Prop
structure Env0 (P:aq)(w:World)(K:W.Frag)(mg:Str->Option Value)(base:Heap)(A:bt)(outer:List Env)(s:ac)(H:Hp):Prop where
 frames:A.frames=some outer
 mod:Mod K mg base
 bs:∀b o,base.get? b=some o->s.heap.get? b=some o/\H b=none
 bsz:base.objs.size<=s.heap.objs.size
 funs:s.heap.FunFrames base outer
 frf:∀b∈frs outer,H b=none
 hok:HOk P w H s.heap
 bare:i0 s.gens
def CE (outer:List Env)(P:aq)(w:World)(H:Hp)(s:ac)(Q:VK)(u:Value)(s':ac):Prop:=∃v H',s'.os=s.os/\i0 s'.gens/\Un (frs outer) [] H H' s.heap s'.heap/\HOk P w H' s'.heap/\RelV v u/\Q v H'
def CR (CX:CXT)(outer:List Env)(P:aq)(w:World)(H:Hp)(s:ac)(Q:VK)(E:XK)(r:Result)(s':ac):Prop:=
 match r with
 |.ok (.ret u)=>CE outer P w H s Q u s'
 |.ok _=>False
 |.error e=>CX outer H s E e s'
structure FnOk (P:aq)(w:World)(K:W.Frag)(mg:Str->Option Value)(base:Heap)(CX:CXT)(k:Nat)(f:Addr)(fd:dq)(ps:List Str)(sp:Sp):Prop where
 len:∀vs H Q E,sp vs H Q E->vs.length=ps.length
 run:∀(A:bt) (outer:List Env) (s:ac) (H:Hp) (args:Args) (us:List Value) (vs:List V) (Q:VK) (E:XK),Room k A->Env0 P w K mg base A outer s H->la s fd args (ps.zip us)->Vals vs us->sp vs H Q E->ji (model P w) A (.call (.ref f) args) (CR CX outer P w H s Q E) s
theorem FnOk.mono {P:aq}{w:World}{K:W.Frag}{mg:Str->Option Value}{base:Heap}{CX:CXT}{j k:Nat}{f:Addr}{fd:dq}{ps:List Str}{sp:Sp}(F:FnOk P w K mg base CX j f fd ps sp)(h:j<=k): FnOk P w K mg base CX k f fd ps sp:=⟨F.len,fun A outer s H args us vs Q E hr=>F.run A outer s H args us vs Q E (hr.mono h)⟩
theorem FnOk.imp {P:aq}{w:World}{K:W.Frag}{mg:Str->Option Value}{base:Heap}{CX:CXT}{k:Nat}{f:Addr}{fd:dq}{ps:List Str}{sp sp':Sp}(F:FnOk P w K mg base CX k f fd ps sp)
  (h:∀vs H Q E,sp' vs H Q E->sp vs H Q E):FnOk P w K mg base CX k f fd ps sp':=
 ⟨fun vs H Q E q=>F.len vs H Q E (h _ _ _ _ q),fun A outer s H args us vs Q E hr he hb hv hs=>F.run A outer s H args us vs Q E hr he hb hv (h _ _ _ _ hs)⟩
theorem Env0.in1 {P:aq}{w:World}{K:W.Frag}{mg:Str->Option Value}{base:Heap}{A:bt}{outer:List Env}{s:ac}{H:Hp}(e:Env0 P w K mg base A outer s H): Env0 P w K mg base A.in1 outer s H:=⟨e.frames,e.mod,e.bs,e.bsz,e.funs,e.frf,e.hok,e.bare⟩
section
variable {X:Cx}{pins:List (Addr×Obj)}{σ:St}{H:Hp}{s s':ac}
theorem Inv.env0 (I:Inv X pins σ H s):Env0 X.prog X.w X.K X.mg X.base X.A X.stack s H:=⟨I.ok.frames,I.ok.mod,I.bs,b8 I.ok.bsz I.sz,I.stack,I.stkFree,I.hok,I.bare⟩
theorem Inv.after {Q:VK}{u:Value}(I:Inv X pins σ H s)(h:CE X.stack X.prog X.w H s Q u s'):EP X pins σ Q u s':=by obtain⟨v,H',os,bare,un,hok,r,q⟩:=h;obtain⟨hh,g,d,t,os'⟩:=s';obtain rfl:os'=s.os:=os;exact⟨v,H',I.call (h':=hh) (g':=g) (d':=d) (t':=t) (ch:=[]) un hok bare (fun b z=>absurd z (by simp)),r,q⟩
end
def zfm (sp:Sp)(dvs:List V)(E:XK)(t:TA):TE:=fun σ H Q=>t σ H fun vs H1=>sp (vs++dvs) H1 Q E
def Binds (K:W.Frag)(fd:dq)(ps:List Str)(ds:List Value):Prop:=∀(s:ac) (us:List Value),K.In s.heap->(us++ds).length=ps.length->la s fd ⟨us,[]⟩ (ps.zip (us++ds))
theorem Binds.all {K:W.Frag}{fd:dq}{ps:List Str}(h:∀us:List Value,us.length=ps.length->m8 fd ⟨us,[]⟩=pure (ps.zip us)):Binds K fd ps []:=fun s us _ hl=>by rw[eh]at hl ⊢;exact .of_eq (h us hl)
def z8h (CX:CXT)(X:Cx)(E:XK):Prop:=∀(pins:List (Addr×Obj)) (σ:St) (H:Hp) (s:ac) (e:Value) (s':ac),Inv X pins σ H s->CX X.stack H s E e s'->X.xe e s'
section
variable {X:Cx}{CX:CXT}{k:Nat}{f C:Addr}{fd:dq}{ps:List Str}{sp:Sp}{dvs:List V}{ds:List Value}{E:XK}{x m:Str}{p pos apos:Pos}{e o:Expr}{es:List Expr}{ta:TE}{t:TA}
theorem zgj {pins:List (Addr×Obj)}{σ:St}{H:Hp}{s:ac}{Q:VK}{us:List Value}{vs:List V}(F:FnOk X.prog X.w X.K X.mg X.base CX k f fd ps sp)(hr:Room k X.A)(hb:Binds X.K fd ps ds)(hd:Vals dvs ds)(hx:z8h CX X E)
  (I:Inv X pins σ H s) (r:Vals vs us) (h:sp (vs++dvs) H Q E):wpAny (model X.prog X.w) X.A (call (.ref f) us) (EP X pins σ Q) X.xe s:=by
 have r2:Vals (vs++dvs) (us++ds):=r.append hd;have hl:(us++ds).length=ps.length:=by rw[<-r2.length];exact F.len _ _ _ _ h
 refine wpAny_call (l9 (F.run X.A X.stack s H ⟨us,[]⟩ (us++ds) (vs++dvs) Q E hr I.env0 (hb s us I.kIn hl) r2 h) fun r s' hq=>?_);cases r with
 |error e=>exact hx pins σ H s e s' I hq
 |ok fl=>
  cases fl with
  |ret u=>exact I.after hq
  |next=>exact False.elim hq
  |brk=>exact False.elim hq
  |cont=>exact False.elim hq
theorem zd0 (F:FnOk X.prog X.w X.K X.mg X.base CX k f fd ps sp)(hr:Room k X.A)(hg:Gl X x)(hm:X.mg x=some (.ref f))(hk:W.keepIn X.K (.ref f)=true)(hb:Binds X.K fd ps ds)(hd:Vals dvs ds)(hx:z8h CX X E)
  (ha:PA X (e::es) t) (hdb:(x==("__debug__":Str))=false:=by decide) (he:cw (e::es) X.env=(false,eval e X.env)::cw es X.env:=by rfl) (hpl:(iu pos (cw es X.env)).any (·.1)=false:=by rfl):
  PE X (.Call (.Name x p) (e::es) [] pos) (zfm sp dvs E t):=by
 intro pins s σ H Q I h;refine i9 (zdu I hg hm ?_ hdb);refine W.callWith_K (h₀:=X.base) I.ok.mod.kin hk (thn (ha pos pins s σ H _ I h) fun us s1 ⟨vs,H1,I1,r,q⟩=>⟨I1.kIn,?_⟩) he hpl;exact zgj F hr hb hd hx I1 r q
structure Mk (K:W.Frag)(C f:Addr):Prop where
 makes:W.makesIn K C=true
 init:W.findIn K (.ref C) "__init__"=some (some (.ref f))
 fn:W.isFn K (.ref f)=true
 kp:W.keepIn K (.ref C)=true
end
def PK (X:Cx)(kws:List j4)(t:TA):Prop:=∀(pos:Pos) (pins:List (Addr×Obj)) (s:ac) (σ:St) (H:Hp) (Q:List V->Hp->Prop),Inv X pins σ H s->t σ H Q->wpAny (model X.prog X.w) X.A (evalAll ((backToKw pos (my kws X.env)).map (·.2))) (AP X pins σ Q) X.xe s
section
variable {X:Cx}{CX:CXT}{k:Nat}{f C:Addr}{fd:dq}{ps ks:List Str}{sp:Sp}{E:XK}{x m:Str}{p pos apos kpos:Pos}{e o:Expr}{es:List Expr}{kws:List j4}{te ta:TE}{t tk:TA}{nm:Option Str}
variable {g:List Value->List Value->List Value}{gV:List V->List V->List V}
end
structure FnScope (N P:List Str)(sc:Scope):Prop where
 kind:sc.kind=.function
 co:sc.isCoroutine=false
 gen:sc.isGenerator=false
 nd:N.Nodup
 pre:N.take P.length=P
 par:∀x∈P,sc.names.lookup x=some .local\/sc.names.lookup x=some .cell
 nofree:∀y∈sc.names,y.2≠.free
theorem z3t {ip:Str->Option dr}{x:Str}:∀{binds:List (Str×Value)} {m:Str->Option Value},(∀v,(x,v)∉binds)->bindL ip binds m x=m x
 | [],_,_=>rfl
 |(n,v)::r,m,h=>by
  unfold bindL;rw[z3t fun w hw=>h w (bg _ hw)];split
  ·have :x≠n:=by rintro rfl;exact h v ar
   simp[this]
  ·rfl
theorem z4t {ip:Str->Option dr}{x:Str}:∀{binds:List (Str×Value)} {m:Str->Option Value},(∀v,(x,v)∉binds)->bindC ip binds m x=m x
 | [],_,_=>rfl
 |(n,v)::r,m,h=>by
  unfold bindC;rw[z4t fun w hw=>h w (bg _ hw)];split
  ·rfl
  ·have :x≠n:=by rintro rfl;exact h v ar
   simp[this]
theorem z4r {ip:Str->Option dr}{x:Str}{v:Value}:∀{P:List Str} {vs:List Value} {i:Nat} {m:Str->Option Value},P.Nodup->P[i]?=some x->vs[i]?=some v->ip x=some .local->
  bindL ip (P.zip vs) m x=some v
 | [],_,_,_,_,h,_,_=>by simp at h
 |_::_,[],_,_,_,_,h,_=>by simp at h
 |p::P,w::vs,0,m,nd,h1,h2,hk=>by simp at h1 h2;subst h1;subst h2;show bindL ip ((p,w)::P.zip vs) m p=_;unfold bindL;rw[z3t fun v hv=>(dw.mp nd).1 (j9 hv).1,if_pos hk];simp
 |p::P,w::vs,i+1,m,nd,h1,h2,hk=>by show bindL ip ((p,w)::P.zip vs) m x=_;unfold bindL;exact z4r (i:=i) (dw.mp nd).2 (by simpa using h1) (by simpa using h2) hk
theorem z4b {ip:Str->Option dr}{x:Str}{v:Value}:∀{P:List Str} {vs:List Value} {i:Nat} {m:Str->Option Value},P.Nodup->P[i]?=some x->vs[i]?=some v->ip x≠some .local->
  bindC ip (P.zip vs) m x=some v
 | [],_,_,_,_,h,_,_=>by simp at h
 |_::_,[],_,_,_,_,h,_=>by simp at h
 |p::P,w::vs,0,m,nd,h1,h2,hk=>by simp at h1 h2;subst h1;subst h2;show bindC ip ((p,w)::P.zip vs) m p=_;unfold bindC;rw[z4t fun v hv=>(dw.mp nd).1 (j9 hv).1,if_neg hk];simp
 |p::P,w::vs,i+1,m,nd,h1,h2,hk=>by show bindC ip ((p,w)::P.zip vs) m x=_;unfold bindC;exact z4b (i:=i) (dw.mp nd).2 (by simpa using h1) (by simpa using h2) hk
def start (N:List Str)(vs:List V):St:=vs.map some++bo (N.length-vs.length) none
def cxOf (CX:CXT)(P:aq)(w:World)(K:W.Frag)(mg:Str->Option Value)(base:Heap)(N:List Str)(qual:Str)(scope:Scope)(f:Addr)(cd:Value)(A:bt)(outer:List Env)(s:ac)(H:Hp)(E:XK):Cx where
 prog:=P
 w:=w
 K:=K
 mg:=mg
 base:=base
 A:=A.deeper (ku qual scope s.heap.objs.size f cd)
 N:=N
 s₀:=s
 H₀:=H
 env:=ku qual scope s.heap.objs.size f cd
 outer:=outer
 stack:=ku qual scope s.heap.objs.size f cd::outer
 ex:=[]
 calm:=true
 fn:=fun _=>true
 pn:=[]
 xe:=fun e s'=>wpAny (model P w) (A.deeper (ku qual scope s.heap.objs.size f cd)) (leaving (ku qual scope s.heap.objs.size f cd) e) (fun _ s''=>CX outer H s E e s'') (fun e' s''=>CX outer H s E e' s'') s'
theorem z5x {sc:Scope}{n:Nat}{x:Str}(h:sc.names.lookup x=some .cell):∃c,(cellsFrom n sc.names []).lookup x=some c:=by have q:=W.cellsFrom_some sc.names n [] (.inl h);exact Option.isSome_iff_exists.mp q
theorem z70 {CX:CXT}{P:aq}{w:World}{K:W.Frag}{mg:Str->Option Value}{base:Heap}{N ps:List Str}{qual:Str}{scope:Scope}{f:Addr}{cd:Value}{A:bt}{outer:List Env}{s s1:ac}{H:Hp}{E:XK}{us:List Value}{vs:List V}
  (S:FnScope N ps scope) (hd:A.handled=none) (e0:Env0 P w K mg base A outer s H) (hl:vs.length=ps.length) (r:Vals vs us)
  (x:InCallC s s.heap.objs.size (bindL (ku qual scope s.heap.objs.size f cd).kindOf (ps.zip us) fun _=>none) (cellsFrom (s.heap.objs.size+1) scope.names []) (bindC (ku qual scope s.heap.objs.size f cd).kindOf (ps.zip us) fun _=>none) s1):
  Inv (cxOf CX P w K mg base N qual scope f cd A outer s H E) [] (start N vs) H s1:=by
 have hpl:ps.length<=N.length:=by have:=congrArg kx S.pre;rw[e8]at this;omega
 obtain⟨h1,tk,rfl,hk⟩:=x.done;have noA:∀b:Addr,b∉(cxOf CX P w K mg base N qual scope f cd A outer s H E).ex:=fun b z=>absurd (show b∈([]:List Addr)from z) (by simp);refine⟨⟨e0.mod,S.kind,rfl,rfl,ag _,fun y z c h1 h2=>?_,fun y hy=>?_,fun y c _ h=>?_,fun _=>hd,Around.frames_deeper e0.frames,.inr ⟨rfl,rfl⟩,fun b z=>absurd z (noA b),e0.bs,e0.bsz,fun b _ _=>noA b,fun b z=>absurd z (noA b),e0.funs,e0.frf,fun _ _ z=>by cases z⟩,rfl,e0.bare,Un.kept hk,⟨_,x.toInCall.ns,fun i y v h1 h2 h3=>?_⟩,fun y c h=>⟨_,x.cell y c h⟩,e0.hok.fresh (ag _),fun y c h=>?_,fun p hp=>absurd (show p∈([]:List (Addr×Obj))from hp) (by simp),e0.hok.kept hk,?_,fun _ _ z=>by cases z⟩
 ·exact name_of_addr x.apart (PySem.mem_of_lookup h1) (PySem.mem_of_lookup h2)
 ·have hy:scope.names.lookup y=some .cell\/scope.names.lookup y=some .free:=hy;rcases hy with hy|hy
  ·exact z5x hy
  ·exact absurd rfl (S.nofree _ (PySem.mem_of_lookup hy))
 ·exact l6 (x.above y c (PySem.mem_of_lookup h))
 ·have hi:i<vs.length:=by
   unfold start at h2;by_cases hi:i<vs.length
   ·exact hi
   ·rw[cy (by simpa using hi)]at h2;rw[d9]at h2;split at h2<;>cases h2
  have ha:vs[i]?=some v:=by
   unfold start at h2;rw[e9 (by simpa using hi),a9]at h2;cases e:vs[i]? with
   |none=>rw[e]at h2;cases h2
   |some a=>rw[e]at h2;cases h2;rfl
  obtain⟨u,hu,rv⟩:=r.get ha;have hp:ps[i]?=some y:=by rw[<-S.pre,List.getElem?_take_of_lt (by omega)];exact h1
  have ndP:ps.Nodup:=by rw[<-S.pre];exact S.nd.sublist (List.take_sublist _ _)
  refine⟨u,rv,?_⟩;rcases S.par y (b7 hp)with k|k
  ·exact .inl ⟨k,z4r ndP hp hu k⟩
  ·obtain⟨c,e⟩:=z5x (n:=s.heap.objs.size+1) k;refine .inr ⟨.inl k,c,e,?_⟩;have q:=x.cell y c e;rw[z4b ndP hp hu (by show scope.names.lookup y≠_;rw[k];decide)]at q;exact q
 ·exact e0.hok.fresh (l6 (x.above y c (PySem.mem_of_lookup h)))
 ·unfold start;show _=N.length;rw[a0,aw,b9];omega
theorem zhu {CX:CXT}{P:aq}{w:World}{K:W.Frag}{mg:Str->Option Value}{base:Heap}{k:Nat}{f:Addr}{name qual:Str}{params:Arguments}{body:List Stmt}{scope:Scope}{dV kV doc pm cdv ct oc:Value}{an od:Option Addr}
  {osl:Array (Option Value)} {N ps:List Str} {sp:Sp} (lk:K.lookup f=some ⟨oc,od,.func (W.fnOf name qual params body scope dV kV doc pm an cdv ct),osl⟩) (hcd:W.codeIn K cdv qual=true) (S:FnScope N ps scope)
  (len:∀vs H Q E,sp vs H Q E->vs.length=ps.length)
  (hbody:∀(A:bt) (outer:List Env) (s:ac) (H:Hp) (vs:List V) (Q:VK) (E:XK),Room k (A.deeper (ku qual scope s.heap.objs.size f cdv))->sp vs H Q E->∃t,PSs (cxOf CX P w K mg base N qual scope f cdv A outer s H E) body t/\t {nx:=fun _ H'=>Q .non H',rt:=Q} (start N vs) H):
  FnOk P w K mg base CX (k+1) f (W.fnOf name qual params body scope dV kV doc pm an cdv ct) ps sp:=by
 refine⟨len,fun A outer s H args us vs Q E hr e0 hb r hsp=>?_⟩;have hl:=len _ _ _ _ hsp;have KX:K.In s.heap:=e0.mod.kin.keeps fun b o e=>(e0.bs b o e).1;have lim:s.heap.NoLimit:=e0.mod.nolimit.keeps fun b o e=>(e0.bs b o e).1
 have hkind:∀y∈ps.zip us,scope.names.lookup y.1=some .local\/(scope.names.lookup y.1=some .cell/\((cellsFrom (s.heap.objs.size+1) scope.names []).lookup y.1).isSome=true):=fun⟨n,v⟩ hy=>by
  rcases S.par n (j9 hy).1 with q|q
  ·exact .inl q
  ·exact .inr ⟨q,W.cellsFrom_some _ _ _ (.inl q)⟩
 refine codeAny_call_function hr.depth (KX _ _ lk) rfl S.co S.gen rfl (W.codeRec_of KX hcd) (hb _ _ _ _ ?_);refine wpAny_newFunctionEnv_cells S.kind hkind fun env he s1 x=>?_;subst he;refine⟨lim.keeps x.toInCall.keep,codeAny_func ?_⟩;obtain⟨t,ht,hq⟩:=hbody A outer s H vs Q E (hr.deeper _) hsp;have I:Inv (cxOf CX P w K mg base N qual scope f cdv A outer s H E) [] (start N vs) H s1:=z70 S hr.hd e0 hl r x;refine gg (ht [] s1 (start N vs) H _ I hq) (fun fl s' hs=>?_) fun e s' hs=>hs;have fin:∀{σ':St} {H':Hp} {v:V} {u:Value},Inv (cxOf CX P w K mg base N qual scope f cdv A outer s H E) [] σ' H' s'->RelV v u->Q v H'->CE outer P w H s Q u s':=fun{σ' H' v u} J rv q=>⟨v,H',J.os,J.bare,J.base,J.hok,rv,q⟩;cases fl with
 |ret u=>obtain⟨v,σ',H',J,rv,q⟩:=hs;exact fin J rv q
 |next=>obtain⟨σ',H',J,q⟩:=hs;exact fin (v:=V.non) (u:=Value.none) J rfl q
 |brk=>obtain⟨_,_,_,q⟩:=hs;exact False.elim q
 |cont=>obtain⟨_,_,_,q⟩:=hs;exact False.elim q
section
variable {X:Cx}{x:Str}{p pos:Pos}{e:Expr}{es:List Expr}{t:TA}{id T:String}{r:List V->Hp->VK->Prop}
def tCB (r:List V->Hp->VK->Prop)(t:TA):TE:=fun σ H Q=>t σ H fun vs H1=>r vs H1 Q
theorem z9x (hc:CallR X (.builtin id) r)(hg:Gl X x)(hm:X.mg x=none)(hv:cv x=some (.builtin id))(ha:PA X (e::es) t)(hn:x≠"__name__":=by decide)(hdb:(x==("__debug__":Str))=false:=by decide)
  (he:cw (e::es) X.env=(false,eval e X.env)::cw es X.env:=by rfl) (hpl:(iu pos (cw es X.env)).any (·.1)=false:=by rfl):PE X (.Call (.Name x p) (e::es) [] pos) (tCB r t):=by
 intro pins s σ H Q I h;refine i9 (z21 I hg hm hv ?_ hn hdb);exact PyProof.Rows.callWith_builtin1 (thn (ha pos pins s σ H _ I h) fun us s1 ⟨vs,H1,I1,r1,q1⟩=>hc pins s1 σ H1 vs us Q I1 r1 q1) he hpl
theorem z91 (hc:CallR X (.type T) r)(hg:Gl X x)(hm:X.mg x=none)(hv:cv x=some (.type T))(ha:PA X (e::es) t)(hn:x≠"__name__":=by decide)(hdb:(x==("__debug__":Str))=false:=by decide)
  (he:cw (e::es) X.env=(false,eval e X.env)::cw es X.env:=by rfl) (hpl:(iu pos (cw es X.env)).any (·.1)=false:=by rfl):PE X (.Call (.Name x p) (e::es) [] pos) (tCB r t):=by
 intro pins s σ H Q I h;refine i9 (z21 I hg hm hv ?_ hn hdb);exact PyProof.Rows.callWith_type1 (thn (ha pos pins s σ H _ I h) fun us s1 ⟨vs,H1,I1,r1,q1⟩=>hc pins s1 σ H1 vs us Q I1 r1 q1) he hpl
end
section
variable {κ:Type} [DecidableEq κ]
def valV (kvs:List (κ×V))(k:κ):Option V:=(kvs.find? fun kv=>decide (kv.1=k)).map (·.2)
def putK (kvs:List (κ×V))(k:κ)(v:V):List (κ×V):=if(kvs.any fun kv=>decide (kv.1=k))=true then kvs.map (fun kv=>if kv.1=k then(kv.1,v)else kv)else kvs++[(k,v)]
def zhn (kvs:List (κ×V))(k:κ):List (κ×V):=kvs.filter fun kv=>decide (kv.1≠k)
theorem z27 {p:κ×V}{r:List (κ×V)}{k:κ}(e:p.1=k):valV (p::r) k=some p.2:=by simp[valV,fi,e]
theorem z2b {p:κ×V}{r:List (κ×V)}{k:κ}(e:¬p.1=k):valV (p::r) k=valV r k:=by simp[valV,fi,e]
theorem z5k (k:κ):∀kvs:List (κ×V),(kvs.any fun kv=>decide (kv.1=k))=(valV kvs k).isSome
 | []=>rfl
 |p::r=>by
  rw[d4];by_cases e:p.1=k
  ·simp only[z27 e,nv e,Bool.true_or,Option.isSome_some]
  ·rw[z2b e,ny e,Bool.false_or];exact z5k k r
theorem z54 (kvs:List (κ×V))(k:κ)(v:V):(putK kvs k v).length<=kvs.length+1:=by
 unfold putK;split
 ·rw[aw];omega
 ·rw[a0,bh,ki];omega
theorem RelO.isSome_eq {o:Option V}{u:Option Value}(r:RelO o u):o.isSome=u.isSome:=by
 cases o with
 |none=>cases u with
  |none=>rfl
  |some _=>exact(show False from r).elim
 |some _=>cases u with
  |none=>exact(show False from r).elim
  |some _=>rfl
theorem RelO.getD {o:Option V}{u:Option Value}{d:V}{d':Value}(r:RelO o u)(rd:RelV d d'):RelV (o.getD d) (u.getD d'):=by
 cases o with
 |none=>cases u with
  |none=>exact rd
  |some _=>exact(show False from r).elim
 |some _=>cases u with
  |none=>exact(show False from r).elim
  |some _=>exact r
theorem KV.val {kvs:List (κ×V)}{vs:List (κ×Value)}(r:KV kvs vs)(k:κ):RelO (valV kvs k) (lb vs k):=by
 unfold KV at r
 induction r with
 |nil=>exact True.intro
 | @cons p q ps qs h t ih=>
  obtain⟨h1,h2⟩:=h;by_cases e:p.1=k
  ·have e':q.1=k:=h1.symm.trans e;have b:lb (q::qs) k=some q.2:=by simp[lb,fi,e']
   rw[z27 e,b];exact h2
  ·have e':¬q.1=k:=fun z=>e (h1.trans z);have b:lb (q::qs) k=lb qs k:=by simp[lb,fi,e']
   rw[z2b e,b];exact ih
theorem KV.any {kvs:List (κ×V)}{vs:List (κ×Value)}(r:KV kvs vs)(k:κ):(kvs.any fun kv=>decide (kv.1=k))=vs.any fun kv=>decide (kv.1=k):=by
 unfold KV at r
 induction r with
 |nil=>rfl
 |cons h t ih=>rw[d4,d4,ih,h.1]
theorem KV.repl {kvs:List (κ×V)}{vs:List (κ×Value)}(r:KV kvs vs)(k:κ){y:V}{u:Value}(ry:RelV y u):
  KV (kvs.map fun kv=>if kv.1=k then(kv.1,y)else kv) (vs.map fun kv=>if kv.1=k then(kv.1,u)else kv):=by
 unfold KV at r ⊢
 induction r with
 |nil=>exact .nil
 | @cons p q ps qs h t ih=>
  rw[ay,ay];refine .cons ?_ ih;obtain⟨h1,h2⟩:=h;by_cases e:p.1=k
  ·rw[if_pos e,if_pos (h1.symm.trans e)];exact⟨h1,ry⟩
  ·rw[if_neg e,if_neg (fun z=>e (h1.trans z))];exact⟨h1,h2⟩
theorem KV.put {kvs:List (κ×V)}{vs:List (κ×Value)}(r:KV kvs vs)(k:κ){y:V}{u:Value}(ry:RelV y u):KV (putK kvs k y) (stored vs k u):=by
 unfold putK stored;rw[r.any k];by_cases e:(vs.any fun kv=>decide (kv.1=k))=true
 ·rw[if_pos e,if_pos e];exact r.repl k ry
 ·rw[if_neg e,if_neg e];exact Paired.snoc r ⟨rfl,ry⟩
theorem KV.drop {kvs:List (κ×V)}{vs:List (κ×Value)}(r:KV kvs vs)(k:κ):KV (zhn kvs k) (without vs k):=by
 unfold KV at r ⊢;unfold zhn without
 induction r with
 |nil=>exact .nil
 | @cons p q ps qs h t ih=>
  obtain⟨h1,h2⟩:=h;rw[List.filter_cons,List.filter_cons];by_cases e:p.1=k
  ·have a:¬decide (p.1≠k)=true:=by simp[e]
   have b:¬decide (q.1≠k)=true:=by simp[h1.symm.trans e]
   rw[if_neg a,if_neg b];exact ih
  ·have e':¬q.1=k:=fun z=>e (h1.trans z);have a:decide (p.1≠k)=true:=by simp[e]
   have b:decide (q.1≠k)=true:=by simp[e']
   rw[if_pos a,if_pos b];exact .cons ⟨h1,h2⟩ ih
theorem KV.keys {kvs:List (κ×V)}{vs:List (κ×Value)}(r:KV kvs vs):kvs.map (·.1)=vs.map (·.1):=by
 unfold KV at r
 induction r with
 |nil=>rfl
 |cons h t ih=>rw[ay,ay,ih,h.1]
theorem KV.length {kvs:List (κ×V)}{vs:List (κ×Value)}(r:KV kvs vs):kvs.length=vs.length:=Paired.length r
end
theorem z6g {P:aq}{w:World}{k:Key}{u:Value}(r:RelV (kV k) u):(z0l P w).is k u=true:=by
 cases k with
 |inl i=>obtain⟨t,e⟩:=(show ∃t,u=Value.int i t from r);subst e;exact z56 P w i t
 |inr x=>obtain⟨t,e⟩:=(show ∃t,u=Value.str x t from r);subst e;exact z5c P w x t
theorem z43 {P:aq}{w:World}:∀{ks:List Key} {us:List Value},Vals (ks.map kV) us->ItemsAre (z0l P w) ks us
 | [],_,r=>by rw[ma]at r;cases r;exact .nil
 |k::ks,_,r=>by
  rw[ay]at r;cases r with
  |cons h t=>exact .cons (z6g h) (z43 t)
abbrev KT (H:Hp):List (List Key×V)->List (List Key×Addr×Value)->Prop:=g9 fun p q=>p.1=q.1/\H q.2.1=some (.tup (p.1.map kV))/\RelV p.2 q.2.2
theorem KT.val {H:Hp}{kvs:List (List Key×V)}{xs:List (List Key×Addr×Value)}(r:KT H kvs xs)(k:List Key):RelO (valV kvs k) ((atKey xs k).map (·.2)):=by
 induction r with
 |nil=>exact True.intro
 | @cons p q ps qs h t ih=>
  obtain⟨h1,_,h2⟩:=h;by_cases e:p.1=k
  ·have e':q.1=k:=h1.symm.trans e;have b:atKey (q::qs) k=some q.2:=by simp[atKey,fi,e']
   rw[z27 e,b];exact h2
  ·have e':¬q.1=k:=fun z=>e (h1.trans z);have b:atKey (q::qs) k=atKey qs k:=by simp[atKey,fi,e']
   rw[z2b e,b];exact ih
theorem KT.repl {H:Hp}{kvs:List (List Key×V)}{xs:List (List Key×Addr×Value)}(r:KT H kvs xs)(k:List Key){y:V}{u:Value}(ry:RelV y u):
  KT H (kvs.map fun kv=>if kv.1=k then(kv.1,y)else kv) (xs.map (putAt k u)):=by
 induction r with
 |nil=>exact .nil
 | @cons p q ps qs h t ih=>
  rw[ay,ay];refine .cons ?_ ih;obtain⟨h1,h2,h3⟩:=h;unfold putAt;by_cases e:p.1=k
  ·rw[if_pos e,if_pos (h1.symm.trans e)];exact⟨h1,h2,ry⟩
  ·rw[if_neg e,if_neg (fun z=>e (h1.trans z))];exact⟨h1,h2,h3⟩
theorem KT.put {H:Hp}{kvs:List (List Key×V)}{xs:List (List Key×Addr×Value)}(r:KT H kvs xs)(k:List Key){b:Addr}{y:V}{u:Value}(hb:H b=some (.tup (k.map kV)))(ry:RelV y u):
  KT H (putK kvs k y) (storedH xs k b u):=by
 have e:(kvs.any fun kv=>decide (kv.1=k))=(atKey xs k).isSome:=by rw[z5k,(r.val k).isSome_eq,jk]
 unfold putK storedH;rw[e];by_cases q:(atKey xs k).isSome=true
 ·rw[if_pos q,if_pos q];exact r.repl k ry
 ·rw[if_neg q,if_neg q];exact Paired.snoc r ⟨rfl,hb,ry⟩
theorem KT.keeps {H H':Hp}{kvs:List (List Key×V)}{xs:List (List Key×Addr×Value)}(r:KT H kvs xs)(ht:∀b ys,H b=some (.tup ys)->H' b=some (.tup ys)):KT H' kvs xs:=Paired.mapP r fun _ _ z=>⟨z.1,ht _ _ z.2.1,z.2.2⟩
section
variable {P:aq}{w:World}{H:Hp}{h:Heap}{a:Addr}
theorem zhg {u:HO}(ok:HOk P w H h)(e:Rd H a u):z0k P w H h a u:=e.ok ok
theorem z4x {kvs:List (Key×V)}(ok:HOk P w H h)(e:Rd H a (.dK kvs)):kvs.length<=az/\(a==gf)=false/\∃vs,KV kvs vs/\h.DictOf (z0l P w) a vs:=show z0k P w H h a (.dK kvs)from zhg ok e
theorem zko {kvs:List (Key×V)}(ok:HOk P w H h)(e:H a=some (.dK kvs)):kvs.length<=az/\(a==gf)=false/\∃vs,KV kvs vs/\h.DictOf (z0l P w) a vs:=z4x ok (.inl e)
theorem z4q {ks:List Key}(ok:HOk P w H h)(e:H a=some (.tup (ks.map kV))):(k9 (z0l P w)).is h ks a:=by obtain⟨_,its,r,n,h1⟩:=(show z0k P w H h a (.tup (ks.map kV))from ok a _ e);exact⟨_,its.toArray,n,h1,rfl,rfl,by simpa using z43 r⟩
theorem z7w {kvs:List (List Key×V)}(ok:HOk P w H h)(e:Rd H a (.dT kvs)):kvs.length<=az/\(a==gf)=false/\
  ∃xs,KT H kvs xs/\h.DictOfH (k9 (z0l P w)) a xs:=by
 obtain⟨z,y,xs,r,o,es,ep,h1,h2,h3,h4,h5⟩:=(show z0k P w H h a (.dT kvs)from zhg ok e);refine⟨z,y,xs,r,o,es,ep,h1,h2,h3,h4,fun x hx=>?_,h5⟩
 have all:∀{l:List (List Key×V)} {m:List (List Key×Addr×Value)},KT H l m->∀x∈m,(k9 (z0l P w)).is h x.1 x.2.1:=by
  intro l m q
  induction q with
  |nil=>intro x hx;exact nomatch hx
  | @cons p q ps qs hq t ih=>
   intro x hx;rcases bc.mp hx with e|hx
   ·subst e;exact z4q ok (by rw[<-hq.1];exact hq.2.1)
   ·exact ih x hx
 exact all r x hx
end
def DGet (H:Hp)(a:Addr)(y:V)(r:Option V):Prop:=(∃kvs k,Rd H a (.dK kvs)/\y=kV k/\r=valV kvs k)\/∃kvs k b,Rd H a (.dT kvs)/\y=.ref b/\H b=some (.tup (k.map kV))/\r=valV kvs k
def DPut (H:Hp)(a:Addr)(y v:V)(H':Hp):Prop:=
 (∃kvs k,H a=some (.dK kvs)/\y=kV k/\kvs.length<az/\H'=upd H a (.dK (putK kvs k v)))\/
 ∃kvs k b,H a=some (.dT kvs)/\y=.ref b/\H b=some (.tup (k.map kV))/\kvs.length<az/\H'=upd H a (.dT (putK kvs k v))
theorem DGet.k {H:Hp}{a:Addr}{kvs:List (Key×V)}{k:Key}(e:H a=some (.dK kvs)):DGet H a (kV k) (valV kvs k):=.inl ⟨kvs,k,.inl e,rfl,rfl⟩
theorem DGet.t {H:Hp}{a b:Addr}{kvs:List (List Key×V)}{k:List Key}(e:H a=some (.dT kvs))(eb:H b=some (.tup (k.map kV))):DGet H a (.ref b) (valV kvs k):=.inr ⟨kvs,k,b,.inl e,rfl,eb,rfl⟩
theorem DPut.k {H:Hp}{a:Addr}{kvs:List (Key×V)}{k:Key}{v:V}(e:H a=some (.dK kvs))(hl:kvs.length<az):DPut H a (kV k) v (upd H a (.dK (putK kvs k v))):=.inl ⟨kvs,k,e,rfl,hl,rfl⟩
theorem DPut.t {H:Hp}{a b:Addr}{kvs:List (List Key×V)}{k:List Key}{v:V}(e:H a=some (.dT kvs))(eb:H b=some (.tup (k.map kV)))(hl:kvs.length<az): DPut H a (.ref b) v (upd H a (.dT (putK kvs k v))):=.inr ⟨kvs,k,b,e,rfl,eb,hl,rfl⟩
section
variable {X:Cx}{pins:List (Addr×Obj)}{σ:St}{H:Hp}{s:ac}{a:Addr}{y v:V}{u r:Value}{o:Option V}{A:bt}{E:Value->ac->Prop}
theorem Inv.big (I:Inv X pins σ H s):gf<s.heap.objs.size:=by have h:bj<s.heap.objs.size:=(I.mod.glob.keeps I.bk).lt;exact i3 (by decide) h
theorem z8e {Q:Value->ac->Prop}(hu:A.units+1<cLine)(I:Inv X pins σ H s)(g:DGet H a y (some v))(ry:RelV y u)(h:∀w' s',Inv X pins σ H s'->RelV v w'->Q w' s'):
  wpAny (model X.prog X.w) A (md (.ref a) u) Q E s:=by
 rcases g with⟨kvs,k,e,ey,l⟩|⟨kvs,k,b,e,ey,eb,l⟩
 ·subst ey;obtain⟨z,hd,vs,rel,dd⟩:=z4x I.hok e;obtain⟨w',hw,rw'⟩:=RelO.some_of (v:=v) (o:=lb vs k) (by rw[l];exact rel.val k);exact wpAny_getItem_of (z6g ry) dd.mapOf hw (h w' _ (I.tok _) rw')
 ·subst ey;cases(show u=Value.ref b from ry);obtain⟨z,hd,xs,rel,dd⟩:=z7w I.hok e;obtain⟨w',hw,rw'⟩:=RelO.some_of (v:=v) (o:=(atKey xs k).map (·.2)) (by rw[l];exact rel.val k);obtain⟨p,hp,hp2⟩:=cz.mp hw;refine wpAny_getItem_heap (gz hu) (z4q I.hok eb) dd hp ?_;rw[hp2];exact h w' _ (I.tok _) rw'
theorem d_in {Q:Value->ac->Prop}(hu:A.units+1<cLine)(I:Inv X pins σ H s)(g:DGet H a y o)(ry:RelV y u)(h:∀s',Inv X pins σ H s'->Q (.bool o.isSome) s'):
  wpAny (model X.prog X.w) A (bw .In u (.ref a)) Q E s:=by
 rcases g with⟨kvs,k,e,ey,l⟩|⟨kvs,k,b,e,ey,eb,l⟩
 ·subst ey;obtain⟨z,hd,vs,rel,dd⟩:=z4x I.hok e;refine wpAny_in_of (z6g ry) hd dd.mapOf ?_;rw[<-(rel.val k).isSome_eq,<-l];exact h _ (I.tok _)
 ·subst ey;cases(show u=Value.ref b from ry);obtain⟨z,hd,xs,rel,dd⟩:=z7w I.hok e;refine wpAny_in_heap (gz hu) (z4q I.hok eb) hd dd ?_;have q:=(rel.val k).isSome_eq;rw[jk]at q;rw[<-q,<-l];exact h _ (I.tok _)
theorem zei {Q:Value->ac->Prop}(hu:A.units+1<cLine)(I:Inv X pins σ H s)(g:DGet H a y o)(ry:RelV y u)(h:∀s',Inv X pins σ H s'->Q (.bool (!o.isSome)) s'):
  wpAny (model X.prog X.w) A (bw .NotIn u (.ref a)) Q E s:=by
 rcases g with⟨kvs,k,e,ey,l⟩|⟨kvs,k,b,e,ey,eb,l⟩
 ·subst ey;obtain⟨z,hd,vs,rel,dd⟩:=z4x I.hok e;refine wpAny_notIn_of (z6g ry) hd dd.mapOf ?_;rw[<-(rel.val k).isSome_eq,<-l];exact h _ (I.tok _)
 ·subst ey;cases(show u=Value.ref b from ry);obtain⟨z,hd,xs,rel,dd⟩:=z7w I.hok e;refine wpAny_notIn_heap (gz hu) (z4q I.hok eb) hd dd ?_;have q:=(rel.val k).isSome_eq;rw[jk]at q;rw[<-q,<-l];exact h _ (I.tok _)
theorem zd6 {h':Heap}{t':Nat}{ob:HO}(I:Inv X pins σ H s)(mu:Mut (H a))(hs:bd a s.heap h')(he:∃q,h'.get? a=some q)(new:z0k X.prog X.w (upd H a ob) h' a ob):
  Inv X pins σ (upd H a ob) {s with heap:=h',toks:=t'}:=
 I.write (x:=a) (e:=a) mu (.inl rfl) (fun b q hb z=>(hs.2 b hb).trans z) he new
theorem zht {P:aq}{w:World}{H':Hp}{h':Heap}{kvs:List (Key×V)}{vs:List (Key×Value)}(z:kvs.length<=az)(hd:(a==gf)=false)(rel:KV kvs vs)(dd:h'.DictOf (z0l P w) a vs): z0k P w H' h' a (.dK kvs):=⟨z,hd,vs,rel,dd⟩
end
section
variable {X:Cx}{pins:List (Addr×Obj)}{σ:St}{H:Hp}{s:ac}{a:Addr}{kvs:List (Key×V)}{k:Key}{u:Value}{A:bt}{E:Value->ac->Prop}
theorem zj6 {Q:Value->ac->Prop}(I:Inv X pins σ H s)(e:Rd H a (.dK kvs))(h:∀t s',Inv X pins σ H s'->Q (.int kvs.length t) s'):wpAny (model X.prog X.w) A (call (.builtin "len") [.ref a]) Q E s:=by obtain⟨z,hd,vs,rel,dd⟩:=z4x I.hok e;refine call_len_dict hd dd (by rw[<-rel.length];rw[f9]at z;omega) ?_;rw[<-rel.length];exact h _ _ (I.tok _)
end
theorem z59 {X:Cx}{pins:List (Addr×Obj)}{σ:St}{H:Hp}{s:ac}{a:Addr}{y:V}{o:Option V}(I:Inv X pins σ H s)(g:DGet H a y o):s.TypeIs (.ref a) "dict":=by
 rcases g with⟨kvs,k,e,_,_⟩|⟨kvs,k,b,e,_,_,_⟩
 ·obtain⟨_,_,vs,_,dd⟩:=z4x I.hok e;exact dd.typeIs
 ·obtain⟨_,_,xs,_,dd⟩:=z7w I.hok e;exact dd.typeIs
section
variable {X:Cx}{o i e value:Expr}{pos pos' tpos:Pos}{td ty tv:TE}
end
theorem zad {P:aq}{w:World}{H:Hp}(h:Heap)(hb:gf<h.objs.size):z0k P w H (h.push {cls:=.type "dict",data:=.dict #[]}) h.objs.size (.dK []):=⟨d6 _,beq_eq_false_iff_ne.mpr (Ne.symm (bq hb)),[],.nil,Heap.DictOf.new h⟩
section
variable {X:Cx}{pos:Pos}
end
section
variable {X:Cx}{pins:List (Addr×Obj)}{σ:St}{H:Hp}{s:ac}{a:Addr}{y d:V}{u r:Value}{o:Option V}{A:bt}{E:Value->ac->Prop}
theorem zh4 {Q:Value->ac->Prop}(hu:A.units+1<cLine)(I:Inv X pins σ H s)(g:DGet H a y o)(ry:RelV y u)(rd:RelV d r)(h:∀w' s',Inv X pins σ H s'->RelV (o.getD d) w'->Q w' s'):
  wpAny (model X.prog X.w) A (call (.builtin "dict.get") [.ref a,u,r]) Q E s:=by
 rcases g with⟨kvs,k,e,ey,l⟩|⟨kvs,k,b,e,ey,eb,l⟩
 ·subst ey;obtain⟨z,hd,vs,rel,dd⟩:=z4x I.hok e;refine call_meetsIn PySem.F.slot_dict_get dd.typeIs PySem.F.entry_dict_get (PySem.F.args_dict_get_3 _ _ _) (meets_dict_get_default (z0l X.prog X.w) a (z6g ry) hd r) ⟨_,dd.mapOf,h _ _ (I.tok _) ?_⟩;rw[l];exact(rel.val k).getD rd
 ·subst ey;cases(show u=Value.ref b from ry);obtain⟨z,hd,xs,rel,dd⟩:=z7w I.hok e;refine call_meetsIn PySem.F.slot_dict_get dd.typeIs PySem.F.entry_dict_get (PySem.F.args_dict_get_3 _ _ _) (meetsH_dict_get_default (k9 (z0l X.prog X.w)) a b hd r) ⟨gz hu,k,xs,z4q I.hok eb,dd,h _ _ (I.tok _) ?_⟩;rw[l];exact(rel.val k).getD rd
end
section
variable {X:Cx}{o e f:Expr}{apos cpos:Pos}{td ty tx:TE}
end
section
variable {X:Cx}{pins:List (Addr×Obj)}{σ:St}{H:Hp}{s:ac}{a:Addr}{kvs:List (Key×V)}{A:bt}{E:Value->ac->Prop}
end
section
variable {X:Cx}{pins:List (Addr×Obj)}{σ:St}{H:Hp}{s:ac}{a:Addr}{y:V}{u:Value}{A:bt}{E:Value->ac->Prop}
end
end L2
namespace HT
open PySem PyProof.Rows
section
open PySem.SeqAt
open PySem.AutoSeq1 (wpAny_loadPart')
open PySem.MeetsSeq PySem.MeetsSeq2 PySem.MeetsSeq3
end
section
variable {prog:aq}{w:World}{A:bt}{E:Value->ac->Prop}{s:ac}
theorem cat_tup {t b:Addr}{vs ws:List Value}{Q:Value->ac->Prop}(ht:IsTup s.heap t vs.toArray)(hb:IsTup s.heap b ws.toArray)(hv:vs≠[])
  (h1:ws=[]->Q (.ref t) s) (h2:ws≠[]->Q (.ref s.heap.objs.size) {s with heap:=s.heap.push {cls:=.type "tuple",data:=.seq (vs++ws).toArray}})
  (hsz:vs.length+ws.length<=az):wpAny (model prog w) A (eu .Add (.ref t) (.ref b)) Q E s:=by
 obtain⟨⟨cls,dd,data,sl⟩,ho,hc,n,hd⟩:=id ht;obtain⟨⟨cls2,dd2,data2,sl2⟩,ho2,hc2,n2,hd2⟩:=id hb;simp only at hc hd hc2 hd2;subst hc hd hc2 hd2;have e:vs.toArray++ws.toArray=(vs++ws).toArray:=by simp
 by_cases hw:ws=[]
 ·exact j5 ⟨_,ho,rfl⟩ ⟨_,ho2,rfl⟩ jt ln PySem.F.slot_tuple_add PySem.F.entry_tuple_add (PySem.F.args_tuple_add_2 _ _) (tuple_addW1 t b vs.toArray ws.toArray n n2 dd dd2 sl sl2 (by simpa using hv) (by simp[hw])) ⟨ho,ho2,h1 hw⟩
 ·refine j5 ⟨_,ho,rfl⟩ ⟨_,ho2,rfl⟩ jt ln PySem.F.slot_tuple_add PySem.F.entry_tuple_add (PySem.F.args_tuple_add_2 _ _)
   (tuple_addW2 t b vs.toArray ws.toArray n n2 dd dd2 sl sl2 (by simpa using hv) (by simpa using hw) (by rw[ai,ai];exact hsz)) ⟨ho,ho2,?_⟩
  rw[e];exact h2 hw
def sIx (n d:Nat):Option Int->Nat
 |none=>d
 |some v=>if v<0 then(v+(n:Int)).toNat else min v.toNat n
theorem sIx_le (n d:Nat)(hd:d<=n)(o:Option Int):sIx n d o<=n:=by
 cases o with
 |none=>exact hd
 |some v=>
  show(if v<0 then(v+(n:Int)).toNat else min v.toNat n)<=n;by_cases hv:v<0
  ·rw[if_pos hv];omega
  ·rw[if_neg hv];exact Nat.min_le_right _ _
theorem z7c (v:Int)(n d:Nat):(if v<0 then max (v+(n:Int)) 0 else min v (n:Int))=((sIx n d (some v):Nat):Int):=by
 show(if v<0 then max (v+(n:Int)) 0 else min v (n:Int))=(((if v<0 then(v+(n:Int)).toNat else min v.toNat n):Nat):Int);by_cases hv:v<0
 ·simp only[if_pos hv];omega
 ·simp only[if_neg hv];omega
theorem z6n (lo hi:Option Int)(n:Nat):gm lo hi 1 (n:Int)=(((sIx n 0 lo:Nat):Int),((sIx n n hi:Nat):Int)):=by
 have h1:¬((1:Int)<0):=by omega
 unfold gm;simp only[h1,if_false];refine Prod.ext ?_ ?_
 ·cases lo with
  |none=>rfl
  |some v=>exact z7c v n 0
 ·cases hi with
  |none=>rfl
  |some v=>exact z7c v n n
theorem z6s (i j:Nat):fg (i:Int) (j:Int) 1=j-i:=by
 unfold fg;have h1:(1:Int)>0:=by omega
 simp only[h1,if_true,Int.ediv_one];split<;>omega
theorem z32 {v:Value}{o:Option Int}{Q:Option Int->ac->Prop}(p:lz v o)(h:Q o s):wpAny (model prog w) A (Builtin.Slice.slicePartIndex v) Q E s:=by
 cases p with
 |none=>exact slicePart_none h
 |int i t=>exact slicePart_int h
theorem z25 {sl:Addr}{vl vu:Value}{lo hi:Option Int}{n:Nat}{Q:Int×Int×Nat->ac->Prop}(hs:s.heap.IsSliceOf sl vl vu .none)(pl:lz vl lo)(pu:lz vu hi)
  (h:Q (((sIx n 0 lo:Nat):Int),1,sIx n n hi-sIx n 0 lo) s):wpAny (model prog w) A (ja (.ref sl) (pure (n:Int))) Q E s:=by
 obtain⟨os,hos,hcs,hds⟩:=id hs;unfold ja Builtin.Slice.sliceFields;refine aa (aa (de hos hds (x:=vl) rfl (aa (de hos hds (x:=vu) rfl (aa (de hos hds (x:=.none) rfl (aj ?_)))))));refine aa (slicePart_none ?_);show wpAny _ _ (if((1:Int)==0)=true then _ else _) _ _ s;rw[if_neg (by decide)];refine aa (z32 pl (aa (z32 pu (aa (aj ?_)))));show wpAny _ _ (match gm lo hi 1 (n:Int)with|(lo,hi)=>pure (lo,(1:Int),fg lo hi 1)) _ _ s;rw[z6n lo hi n];show wpAny _ _ (pure (((sIx n 0 lo:Nat):Int),(1:Int),fg ((sIx n 0 lo:Nat):Int) ((sIx n n hi:Nat):Int) 1)) _ _ s;rw[z6s];exact aj h
theorem za5 (xs:Array Value)(i k:Nat):((b6 k).filterMap fun(m:Nat)=>xs[((i:Int)+(m:Int)*1).toNat]?).toArray=((xs.toList.drop i).take k).toArray:=by
 have e:(fun(m:Nat)=>xs[((i:Int)+(m:Int)*1).toNat]?)=fun m=>xs[i+m]?:=by
  funext m
  have:((i:Int)+(m:Int)*1).toNat=i+m:=by omega
  rw[this]
 rw[e];have:=pick_run xs i k;rw[List.filterMap_map]at this;have e2:((fun x=>xs[x]?)∘fun x=>i+x)=fun m=>xs[i+m]?:=rfl;rw[e2]at this;rw[this]
theorem getItem_tuple_cut {t sl:Addr}{items:Array Value}{vl vu:Value}{lo hi:Option Int}{Q:Value->ac->Prop}(ht:IsTup s.heap t items)(hs:s.heap.IsSliceOf sl vl vu .none)(pl:lz vl lo)(pu:lz vu hi)
  (hw:¬(sIx items.size 0 lo=0/\sIx items.size items.size hi=items.size))
  (h:Q (.ref s.heap.objs.size) {s with heap:=s.heap.push {cls:=.type "tuple",data:=.seq ((items.toList.drop (sIx items.size 0 lo)).take (sIx items.size items.size hi-sIx items.size 0 lo)).toArray}})
  (hsz:items.size<=az):wpAny (model prog w) A (md (.ref t) (.ref sl)) Q E s:=by
 have htake:sizeOk (.seq ((items.toList.drop (sIx items.size 0 lo)).take (sIx items.size items.size hi-sIx items.size 0 lo)).toArray):=by show((items.toList.drop (sIx items.size 0 lo)).take (sIx items.size items.size hi-sIx items.size 0 lo)).toArray.size<=az;rw[ai,e8,gi,dv];omega
 have hj:sIx items.size items.size hi<=items.size:=sIx_le _ _ (ag _) hi;obtain⟨os,hos,hcs,hds⟩:=id hs;have hTs:s.TypeIs (.ref sl) "slice":=⟨os,hos,hcs⟩;unfold md
 try with_reducible refine df ?_
 first|refine aa (aj ?_)|skip
 refine aa (wpAny_sequenceKey ht.typeIs (by decide) ?_);refine aa (ef (name:=Str.ofString "__getitem__") ht.typeIs PyProof.Rows.slot_tuple_getitem (f6 PyProof.Rows.slot_tuple_getitem ht.typeIs entry_tuple_getitem ?_ (args_tuple_getitem _ _)));show wpAny _ _ (Builtin.Tuple.tupleItemsOf (.ref t)>>=_) _ _ s;refine aa (tupleItemsOf_ ht ?_);refine aa (j6 hTs ?_);rw[if_pos (by decide)];refine aa (z25 hs pl pu ?_);have hno:¬((((sIx items.size 0 lo:Nat):Int)==0&&(1:Int)==1&&(sIx items.size items.size hi-sIx items.size 0 lo)==items.size)=true):=by intro q;rw[a8,a8]at q;have q1:((sIx items.size 0 lo:Nat):Int)=0:=eq_of_beq q.1.1;have q2:sIx items.size items.size hi-sIx items.size 0 lo=items.size:=eq_of_beq q.2;exact hw ⟨by omega,by omega⟩
 show wpAny _ _ (if(((sIx items.size 0 lo:Nat):Int)==0&&(1:Int)==1&&(sIx items.size items.size hi-sIx items.size 0 lo)==items.size)=true then _ else _) _ _ s;rw[if_neg hno,za5]
 first
  |exact aa (m:=fv _) (gb (aj ⟨_,rfl,aj h⟩) htake)
  |exact aa (m:=fv _) (gb (aa (aj (aj ⟨_,rfl,aj h⟩))) htake)
  |exact aa (aa (m:=fv _) (gb (aj (aj ⟨_,rfl,aj h⟩)) htake))
  |exact aa (aa (m:=fv _) (gb (aj ⟨_,rfl,aj h⟩) htake))
end
end HT
namespace L2
open PySem PySem.Spec PyProof.Rows
abbrev TO:=St->Hp->(Option Int->Hp->Prop)->Prop
def PO (X:Cx)(e:Option Expr)(t:TO):Prop:=∀(pins:List (Addr×Obj)) (s:ac) (σ:St) (H:Hp) (Q:Option Int->Hp->Prop),Inv X pins σ H s->t σ H Q->wpAny (model X.prog X.w) X.A (evalPart e X.env) (fun u s'=>∃o H',Inv X pins σ H' s'/\lz u o/\Q o H') X.xe s
def zes:TO:=fun _ H Q=>Q none H
def zjq (t:TE):TO:=fun σ H Q=>t σ H fun x H1=>∃i,x=.int i/\Q (some i) H1
theorem intsAre_of {ns:List Int}:∀{us:List Value},Vals (ns.map V.int) us->lc us ns:=by
 induction ns with
 |nil=>intro us r;rw[ma]at r;cases r;exact .nil
 |cons n ns ih=>
  intro us r;rw[ay]at r;cases r with
  |cons r1 r2=>obtain⟨t,e⟩:=r1;subst e;exact .cons n t (ih r2)
section
variable {X:Cx}{e:Expr}{te:TE}{lo hi:Option Expr}{tl th:TO}{pos p2:Pos}
theorem zdc:PO X none zes:=by intro pins s σ H Q I h;rw[evalPart_none];exact aj ⟨none,H,I,.none,h⟩
theorem ze1 (h:PE X e te):PO X (some e) (zjq te):=by intro pins s σ H Q I hw;rw[evalPart_some];refine thn (h pins s σ H _ I hw) fun u s1 ⟨x,H1,I1,r1,q1⟩=>?_;obtain⟨i,rfl,q⟩:=q1;obtain⟨t,rfl⟩:=r1;exact⟨some i,H1,I1,.int i t,q⟩
def SlR (X:Cx)(r:V->Option Int->Option Int->Hp->VK->Prop):Prop:=∀(pins:List (Addr×Obj)) (s:ac) (σ:St) (H:Hp) (x:V) (v vl vu:Value) (lo hi:Option Int) (sl:Addr) (Q:VK),Inv X pins σ H s->RelV x v->s.heap.IsSliceOf sl vl vu .none->lz vl lo->lz vu hi->r x lo hi H Q->∃T id,typeLookup (.type T) "__getitem__"=pure (some (.builtin id))/\s.TypeIs v T/\wpAny (model X.prog X.w) X.A (md v (.ref sl)) (EP X pins σ Q) X.xe s
theorem SlR.or {r r':V->Option Int->Option Int->Hp->VK->Prop}(h:SlR X r)(h':SlR X r'):SlR X (fun x lo hi H Q=>r x lo hi H Q\/r' x lo hi H Q):=by
 intro pins s σ H x v vl vu lo hi sl Q I rx hs pl pu q;rcases q with q|q
 ·exact h pins s σ H x v vl vu lo hi sl Q I rx hs pl pu q
 ·exact h' pins s σ H x v vl vu lo hi sl Q I rx hs pl pu q
def tSl (r:V->Option Int->Option Int->Hp->VK->Prop)(te:TE)(tl th:TO):TE:=fun σ H Q=>te σ H fun x H1=>tl σ H1 fun l H2=>th σ H2 fun u H3=>r x l u H3 Q
theorem zba {r:V->Option Int->Option Int->Hp->VK->Prop}(hr:SlR X r)(he:PE X e te)(hl:PO X lo tl)(hu:PO X hi th):PE X (.Subscript e (.Slice lo hi none p2) pos) (tSl r te tl th):=by intro pins s σ H Q I h;refine Subscript_ (thn (he pins s σ H _ I h) fun v s1 ⟨x,H1,I1,r1,q1⟩=>?_);refine wpAny_Slice (thn (hl pins s1 σ H1 _ I1 q1) fun vl s2 ⟨l,H2,I2,pl,q2⟩=>thn (hu pins s2 σ H2 _ I2 q2) fun vu s3 ⟨u,H3,I3,pu,q3⟩=>?_);rw[evalPart_none];refine aj ?_;have I4:Inv X pins σ H3 {s3 with heap:=s3.heap.push {cls:=.type "slice",data:=.fields #[vl,vu,.none]}}:=I3.kept (t':=s3.toks) fun b ob q=>ae _ q;obtain⟨T,id,hT,ht,hg⟩:=hr pins {s3 with heap:=s3.heap.push {cls:=.type "slice",data:=.fields #[vl,vu,.none]}} σ H3 x v vl vu l u s3.heap.objs.size Q I4 r1 (Heap.IsSliceOf.new ..) pl pu q3;show wpAny (model X.prog X.w) X.A (subscriptTail e (.Slice lo hi none p2) v (.ref s3.heap.objs.size)) (EP X pins σ Q) X.xe {s3 with heap:=s3.heap.push {cls:=.type "slice",data:=.fields #[vl,vu,.none]}};exact tail_any (ops:=[.ref s3.heap.objs.size,v]) ht hT hg (by with_unfolding_all rfl)
def cutV (xs:List V)(lo hi:Option Int):List V:=(xs.drop (HT.sIx xs.length 0 lo)).take (HT.sIx xs.length xs.length hi-HT.sIx xs.length 0 lo)
theorem z2e (xs:List V)(lo hi:Option Int):(cutV xs lo hi).length<=xs.length:=by unfold cutV;rw[e8,gi];omega
def rSlT (K:W.Frag):V->Option Int->Option Int->Hp->VK->Prop:=fun x lo hi H Q=>∃a xs,x=.ref a/\SqT K H a xs/\¬(HT.sIx xs.length 0 lo=0/\HT.sIx xs.length xs.length hi=xs.length)/\∀p,H p=none->Q (.ref p) (upd H p (.tup (cutV xs lo hi)))
theorem zhl:SlR X (rSlT X.K):=by
 intro pins s σ H x v vl vu lo hi sl Q I rx hs pl pu h;obtain⟨a,xs,rfl,hx,hw,q⟩:=h;cases rx;obtain⟨its,r,ht,hz⟩:=I.tuple hx;have hlen:its.toArray.size=xs.length:=by rw[ai];exact r.length.symm
 refine⟨"tuple",_,PyProof.Rows.slot_tuple_getitem.lookup,ht.typeIs,?_⟩;refine HT.getItem_tuple_cut ht hs pl pu (by rw[hlen];exact hw) ?_ (by rw[hlen];exact hz);rw[hlen];refine⟨.ref s.heap.objs.size,_,I.laid (t':=s.toks) (o:=.tup (cutV xs lo hi)) (fun b ob q=>ae _ q) (ag _) ?_,rfl,q _ (I.hok.fresh (ag _))⟩;exact⟨b8 (z2e xs lo hi) hz,_,(r.drop (HT.sIx xs.length 0 lo)).take (HT.sIx xs.length xs.length hi-HT.sIx xs.length 0 lo),TupN.new _ _⟩
def zgb (K:W.Frag):R2:=fun x y H Q=>∃a b xs ys,x=.ref a/\y=.ref b/\SqT K H a xs/\SqT K H b ys/\xs≠ []/\xs.length+ys.length<=az/\(ys=[]->Q (.ref a) H)/\(ys≠[]->∀p,H p=none->Q (.ref p) (upd H p (.tup (xs++ys))))
theorem Vals.nil_iff {xs:List V}{us:List Value}(r:Vals xs us):us=[]↔xs=[]:=by
 cases r with
 |nil=>simp
 |cons _ _=>simp
theorem zdj:OpR X (eu .Add) (zgb X.K):=by intro pins s σ H x y v u Q I rx ry h;obtain⟨a,b,xs,ys,rfl,rfl,ha,hb,hx,hz,q1,q2⟩:=h;cases rx;cases ry;obtain⟨its,r1,p1,_⟩:=I.tuple ha;obtain⟨its2,r2,p2,_⟩:=I.tuple hb;refine HT.cat_tup p1 p2 (fun z=>hx (r1.nil_iff.mp z)) (fun z=>⟨.ref a,H,I,rfl,q1 (r2.nil_iff.mp z)⟩) (fun z=>?_) (by rw[<-r1.length,<-r2.length];exact hz);refine⟨.ref s.heap.objs.size,_,I.laid (t':=s.toks) (o:=.tup (xs++ys)) (fun b ob q=>ae _ q) (ag _) ?_,rfl,q2 (fun w=>z (r2.nil_iff.mpr w)) _ (I.hok.fresh (ag _))⟩;exact⟨by rw[a0];exact hz,_,r1.append r2,TupN.new _ _⟩
end
def ixN (n:Nat)(i:Int):Option Nat:=if 0<=i then(if i<n then some i.toNat else none)else if -(n:Int)<=i then some (i+n).toNat else none
def atI {α:Type}(xs:List α)(i:Int):Option α:=(ixN xs.length i).bind fun j=>xs[j]?
theorem zcw {n:Nat}{i:Int}{j:Nat}(h:ixN n i=some j):mw i n=some j/\j<n/\-(n:Int)<=i/\i<n:=by
 unfold ixN at h;by_cases h0:0<=i
 ·rw[if_pos h0]at h;by_cases h1:i<n
  ·rw[if_pos h1]at h;have e:i.toNat=j:=Option.some.inj h;exact⟨by rw[seqIndex_of h0 h1,e],by omega,by omega,h1⟩
  ·rw[if_neg h1]at h;cases h
 ·rw[if_neg h0]at h;by_cases h1:-(n:Int)<=i
  ·rw[if_pos h1]at h;have e:(i+n).toNat=j:=Option.some.inj h;exact⟨by rw[seqIndex_neg (by omega) h1,e],by omega,h1,by omega⟩
  ·rw[if_neg h1]at h;cases h
theorem z52 {α:Type}{xs:List α}{i:Int}{v:α}(h:atI xs i=some v):∃j,mw i xs.length=some j/\xs[j]?=some v/\j<xs.length/\-(xs.length:Int)<=i/\i<xs.length:=by
 unfold atI at h;cases e:ixN xs.length i with
 |none=>rw[e]at h;cases h
 |some j=>rw[e]at h;obtain⟨h1,h2,h3,h4⟩:=zcw e;exact⟨j,h1,h,h2,h3,h4⟩
def z7a (b:Expr):Prop:=∀o i,subscripted b false o i=operate [o,i] (md o i)
def IxR (X:Cx)(r:R2):Prop:=∀(value slice:Expr) (pins:List (Addr×Obj)) (s:ac) (σ:St) (H:Hp) (x y:V) (v u:Value) (Q:VK),Inv X pins σ H s->RelV x v->RelV y u->r x y H Q->subscripted slice false v u=operate [v,u] (md v u)->wpAny (model X.prog X.w) X.A (subscriptTail value slice v u) (EP X pins σ Q) X.xe s
def MtR (X:Cx)(id:String)(r:V->List V->Hp->VK->Prop):Prop:=∀(pins:List (Addr×Obj)) (s:ac) (σ:St) (H:Hp) (x:V) (xs:List V) (v:Value) (us:List Value) (Q:VK),Inv X pins σ H s->RelV x v->Vals xs us->r x xs H Q->wpAny (model X.prog X.w) X.A (call (.builtin id) (v::us)) (EP X pins σ Q) X.xe s
section
variable {X:Cx}{a b:Expr}{ta tb:TE}{pos:Pos}
theorem IxR.or {r r':R2}(h:IxR X r)(h':IxR X r'):IxR X (fun x y H Q=>r x y H Q\/r' x y H Q):=by
 intro value slice pins s σ H x y v u Q I rx ry q hs;rcases q with q|q
 ·exact h value slice pins s σ H x y v u Q I rx ry q hs
 ·exact h' value slice pins s σ H x y v u Q I rx ry q hs
theorem MtR.or {id:String}{r r':V->List V->Hp->VK->Prop}(h:MtR X id r)(h':MtR X id r'):MtR X id (fun x xs H Q=>r x xs H Q\/r' x xs H Q):=by
 intro pins s σ H x xs v us Q I rx rs q;rcases q with q|q
 ·exact h pins s σ H x xs v us Q I rx rs q
 ·exact h' pins s σ H x xs v us Q I rx rs q
theorem zma {r:R2}(hr:IxR X r)(ha:PE X a ta)(hb:PE X b tb)(hs:z7a b):PE X (.Subscript a b pos) (tOp r ta tb):=by intro pins s σ H Q I h;exact Subscript_ (binT ha hb I h fun v u s2 x y H2 I2 rx ry q=>hr a b pins s2 σ H2 x y v u Q I2 rx ry q (hs _ _))
def rIxL (K:W.Frag):R2:=fun x y H Q=>∃p xs i v,x=.ref p/\y=.int i/\SqL K H p xs/\atI xs i=some v/\Q v H
def rIxT (K:W.Frag):R2:=fun x y H Q=>∃p xs i v,x=.ref p/\y=.int i/\SqT K H p xs/\atI xs i=some v/\Q v H
def rIxS:R2:=fun x y H Q=>∃z i c,x=.str z/\y=.int i/\z.length<=az/\atI z.cps.toList i=some c/\Q (.str ⟨#[c]⟩) H
theorem ze7:IxR X (rIxL X.K):=by
 intro value slice pins s σ H x y v u Q I rx ry h hs;obtain⟨p,xs,i,z,rfl,rfl,hq,he,q⟩:=h;cases rx;obtain⟨t,rfl⟩:=ry;obtain⟨its,r,pl,hz⟩:=I.list hq;obtain⟨j,h1,h2,h3,h4,h5⟩:=z52 he;obtain⟨w,ew,rw'⟩:=r.get h2;have hl:=r.length;have hn:=z2y;have fin:EP X pins σ Q w s:=⟨z,H,I,rw',q⟩;by_cases h0:0<=i
 ·have hj:i.toNat=j:=by
   rw[seqIndex_of h0 h5]at h1;exact Option.some.inj h1
  exact item_listR pl.isList h0 (by omega) (by rw[hj];simpa using ew) fin hs
 ·have hj:(i+(its.toArray.size:Int)).toNat=j:=by
   rw[seqIndex_neg (by omega) h4]at h1;rw[ai,<-hl];exact Option.some.inj h1
  exact j7 (x:=w) pl.isList.typeIs slot_list_getitem.lookup (wpAny_getItem_list_neg (Q:=fun r s'=>r=w/\EP X pins σ Q r s') pl.isList (by omega) (by rw[ai]<;>omega) (by omega) (by rw[hj];simpa using ew) ⟨rfl,fin⟩) hs
theorem zfp:IxR X (rIxT X.K):=by intro value slice pins s σ H x y v u Q I rx ry h hs;obtain⟨p,xs,i,z,rfl,rfl,hq,he,q⟩:=h;cases rx;obtain⟨t,rfl⟩:=ry;obtain⟨its,r,pl,hz⟩:=I.tuple hq;obtain⟨j,h1,h2,h3,h4,h5⟩:=z52 he;obtain⟨w,ew,rw'⟩:=r.get h2;have hl:=r.length;have hn:=z2y;have fin:EP X pins σ Q w s:=⟨z,H,I,rw',q⟩;exact j7 (x:=w) pl.typeIs slot_tuple_getitem.lookup (getItem_tuple (j:=j) (Q:=fun r s'=>r=w/\EP X pins σ Q r s') pl (by omega) (by omega) (by rw[ai,<-hl];exact h1) (by simpa using ew) ⟨rfl,fin⟩) hs
theorem z5n:IxR X rIxS:=by
 intro value slice pins s σ H x y v u Q I rx ry h hs;obtain⟨z,i,c,rfl,rfl,hz,he,q⟩:=h;obtain⟨t,rfl⟩:=rx;obtain⟨t',rfl⟩:=ry;obtain⟨j,h1,h2,h3,h4,h5⟩:=z52 he;have hl:z.cps.toList.length=z.length:=by simp[Str.length]
 rw[hl]at h1 h4 h5;have hn:=z2y;exact tail_any (m9 s z t) slot_str_getitem.lookup (getItem_str (c:=c) (by have e1:decide (i< -(2 ^ 63:Int))=false:=ny (by omega);have e2:decide (i ≥ 2 ^ 63)=false:=ny (by omega);rw[e1,e2,Bool.or_false]) (by rw[h1];simpa using h2) ⟨.str ⟨#[c]⟩,H,I.tok _,⟨_,rfl⟩,q⟩) hs
def rIx (K:W.Frag):R2:=fun x y H Q=>rIxL K x y H Q\/rIxT K x y H Q\/rIxS x y H Q
theorem zf4:IxR X (rIx X.K):=ze7.or (zfp.or z5n)
theorem Inv.lst {pins:List (Addr×Obj)}{σ:St}{H:Hp}{s:ac}{p:Addr}{xs:List V}(I:Inv X pins σ H s)(h:H p=some (.lst xs)):
  ∃(its:List Value) (n:Nat),Vals xs its/\s.heap.get? p=some {cls:=.type "list",data:=.seq its.toArray n}/\xs.length<=az:=by
 obtain⟨z,its,n,r,e⟩:=I.hok p _ h;exact⟨its,n,r,e,z⟩
theorem z3u (lo hi:Option Int)(n:Nat):(fm lo hi none n).1=((HT.sIx n 0 lo:Nat):Int)/\(fm lo hi none n).2.1=((HT.sIx n n hi:Nat):Int)/\(fm lo hi none n).2.2=1:=by
 refine⟨?_,?_,rfl⟩
 ·cases lo with
  |none=>simp[fm,HT.sIx]
  |some i=>
   simp only[fm,HT.sIx,Option.getD_none,show(1:Int)>0 by decide,if_true];by_cases h:i<0
   ·simp only[h,if_true]<;>omega
   ·simp only[h,if_false]<;>omega
 ·cases hi with
  |none=>simp[fm,HT.sIx]
  |some i=>
   simp only[fm,HT.sIx,Option.getD_none,show(1:Int)>0 by decide,if_true];by_cases h:i<0
   ·simp only[h,if_true]<;>omega
   ·simp only[h,if_false]<;>omega
theorem z3f (its:List Value)(lo hi:Option Int):slicePick its.toArray lo hi none=((its.drop (HT.sIx its.length 0 lo)).take (HT.sIx its.length its.length hi-HT.sIx its.length 0 lo)).toArray:=by obtain⟨h1,h2,h3⟩:=z3u lo hi its.toArray.size;unfold slicePick;rw[h1,h2,h3];simp only[ky,pick_run,ai]<;>rfl
def rSlL (K:W.Frag):V->Option Int->Option Int->Hp->VK->Prop:=fun x lo hi H Q=>∃a xs,x=.ref a/\SqL K H a xs/\∀p,H p=none->Q (.ref p) (upd H p (.lst (cutV xs lo hi)))
theorem zck:SlR X (rSlL X.K):=by intro pins s σ H x v vl vu lo hi sl Q I rx hs pl pu h;obtain⟨a,xs,rfl,hx,q⟩:=h;cases rx;obtain⟨its,r,ht,hz⟩:=I.list hx;have hlen:=r.length;refine⟨"list",_,slot_list_getitem.lookup,ht.isList.typeIs,?_⟩;refine wpAny_getItem_list_slice ht.isList hs pl pu .none (by simp) ?_ (by rw[ai]<;>omega);rw[z3f,<-hlen];refine⟨.ref s.heap.objs.size,_,I.laid (t':=s.toks) (o:=.lst (cutV xs lo hi)) (fun b ob q=>ae _ q) (ag _) ?_,rfl,q _ (I.hok.fresh (ag _))⟩;exact⟨b8 (z2e xs lo hi) hz,_,0,(r.drop (HT.sIx xs.length 0 lo)).take (HT.sIx xs.length xs.length hi-HT.sIx xs.length 0 lo),au _ rfl⟩
def z42:V->Bool
 |.non=>true
 |.bl _=>true
 |.int _=>true
 |.str _=>true
 |_=>false
def eqV:V->V->Bool
 |.non,.non=>true
 |.bl a,.bl b=>a==b
 |.bl a,.int b=>(if a then 1 else 0)==b
 |.int a,.bl b=>a==(if b then 1 else 0)
 |.int a,.int b=>a==b
 |.str a,.str b=>a==b
 |_,_=>false
theorem zhh {A:bt}{s:ac}{y x:V}{u v:Value}(ry:RelV y u)(rx:RelV x v)(fy:z42 y=true)(fx:z42 x=true):SeqAt.EqAt A s u v (eqV y x):=by
 cases y with
 |non=>
  cases ry;cases x with
  |non=>cases rx;exact SeqAt.EqAt.same _
  |bl b=>cases rx;exact SeqAt.EqAt.none_bool b
  |int b=>obtain⟨t,rfl⟩:=rx;exact SeqAt.EqAt.none_int b t
  |str b=>obtain⟨t,rfl⟩:=rx;exact SeqAt.EqAt.none_str b t
  |_=>exact absurd (show false=true from fx) br
 |bl a=>
  cases ry;cases x with
  |non=>cases rx;exact SeqAt.EqAt.bool_none a
  |bl b=>cases rx;exact SeqAt.EqAt.bool_bool a b
  |int b=>obtain⟨t,rfl⟩:=rx;exact SeqAt.EqAt.bool_int a b t
  |str b=>obtain⟨t,rfl⟩:=rx;exact SeqAt.EqAt.bool_str a b t
  |_=>exact absurd (show false=true from fx) br
 |int a=>
  obtain⟨t',rfl⟩:=ry;cases x with
  |non=>cases rx;exact SeqAt.EqAt.int_none a t'
  |bl b=>cases rx;exact SeqAt.EqAt.int_bool a t' b
  |int b=>obtain⟨t,rfl⟩:=rx;exact SeqAt.EqAt.int_int a t' b t
  |str b=>obtain⟨t,rfl⟩:=rx;exact SeqAt.EqAt.int_str a t' b t
  |_=>exact absurd (show false=true from fx) br
 |str a=>
  obtain⟨t',rfl⟩:=ry;cases x with
  |non=>cases rx;exact SeqAt.EqAt.str_none a t'
  |bl b=>cases rx;exact SeqAt.EqAt.str_bool a t' b
  |int b=>obtain⟨t,rfl⟩:=rx;exact SeqAt.EqAt.str_int a t' b t
  |str b=>obtain⟨t,rfl⟩:=rx;exact SeqAt.EqAt.str_str a t' b t
  |_=>exact absurd (show false=true from fx) br
 |_=>exact absurd (show false=true from fy) br
def eqU (x:V)(u:Value):Bool:=match u with
 |.none=>eqV .non x
 |.bool b=>eqV (.bl b) x
 |.int i _=>eqV (.int i) x
 |.str z _=>eqV (.str z) x
 |_=>false
theorem zbr {x y:V}{u:Value}(r:RelV y u)(f:z42 y=true):eqU x u=eqV y x:=by
 cases y with
 |non=>cases r;rfl
 |bl b=>cases r;rfl
 |int i=>obtain⟨t,rfl⟩:=r;rfl
 |str z=>obtain⟨t,rfl⟩:=r;rfl
 |_=>exact absurd (show false=true from f) br
theorem z2j {x:V}:∀{xs:List V} {us:List Value},Vals xs us->xs.all z42=true->us.any (eqU x)=xs.any fun y=>eqV y x
 |_,_,.nil,_=>rfl
 |y::xs,u::us,.cons r t,f=>by rw[cj,a8]at f;rw[d4,d4,zbr r f.1,z2j t f.2]
theorem z1x {A:bt}{s:ac}{x:V}{v:Value}(rx:RelV x v)(fx:z42 x=true):∀{xs:List V} {us:List Value},Vals xs us->xs.all z42=true->∀u∈us,SeqAt.EqAt A s u v (eqU x u)
 |_,_,.nil,_=>fun u hu=>by cases hu
 |y::xs,u::us,.cons r t,f=>fun u' hu=>by
  rw[cj,a8]at f;rcases bc.mp hu with rfl|hu
  ·rw[zbr r f.1];exact zhh r rx f.1 fx
  ·exact z1x rx fx t f.2 u' hu
def inV (x:V)(xs:List V):Bool:=xs.any fun y=>eqV y x
def rIn (K:W.Frag)(neg:Bool):R2:=fun x y H Q=>∃p xs,y=.ref p/\(SqL K H p xs\/SqT K H p xs)/\z42 x=true/\xs.all z42=true/\Q (.bl (if neg then !inV x xs else inV x xs)) H
theorem z6y:OpR X (bw .In) (rIn X.K false):=by
 intro pins s σ H x y v u Q I rx ry h;obtain⟨p,xs,rfl,hq,fx,fs,q⟩:=h;cases ry;rcases hq with hq|hq
 ·obtain⟨its,r,pl,hz⟩:=I.list hq;refine SeqAt.in_listAt (eqU x) pl.isList (fun w hw=>z1x rx fx r fs w (by simpa using hw)) ⟨.bl _,H,I,rfl,?_⟩;rw[show its.toArray.any (eqU x)=its.any (eqU x) by simp,z2j r fs];exact q
 ·obtain⟨its,r,pl,hz⟩:=I.tuple hq;refine SeqAt.in_tupleAt (eqU x) pl (fun w hw=>z1x rx fx r fs w (by simpa using hw)) ⟨.bl _,H,I,rfl,?_⟩;rw[show its.toArray.any (eqU x)=its.any (eqU x) by simp,z2j r fs];exact q
theorem z4m:OpR X (bw .NotIn) (rIn X.K true):=by
 intro pins s σ H x y v u Q I rx ry h;obtain⟨p,xs,rfl,hq,fx,fs,q⟩:=h;cases ry;rcases hq with hq|hq
 ·obtain⟨its,r,pl,hz⟩:=I.list hq;refine SeqAt.notIn_listAt (eqU x) pl.isList (fun w hw=>z1x rx fx r fs w (by simpa using hw)) ⟨.bl _,H,I,rfl,?_⟩;rw[show its.toArray.any (eqU x)=its.any (eqU x) by simp,z2j r fs];exact q
 ·obtain⟨its,r,pl,hz⟩:=I.tuple hq;refine SeqAt.notIn_tupleAt (eqU x) pl (fun w hw=>z1x rx fx r fs w (by simpa using hw)) ⟨.bl _,H,I,rfl,?_⟩;rw[show its.toArray.any (eqU x)=its.any (eqU x) by simp,z2j r fs];exact q
theorem z3z:OpR X (bw .NotIn) (fun x y H Q=>∃i j,x=.str i/\y=.str j/\Q (.bl (!(!(cq j i 0 j.length 1).isEmpty))) H):=by intro pins s σ H x y v u Q I rx ry h;obtain⟨i,j,rfl,rfl,q⟩:=h;obtain⟨t,rfl⟩:=rx;obtain⟨t',rfl⟩:=ry;exact notIn_str ⟨.bl _,H,I,rfl,q⟩
theorem z49:CallR X (.builtin "len") (fun xs H Q=>∃p ys,xs=[.ref p]/\(SqL X.K H p ys\/SqT X.K H p ys)/\Q (.int ys.length) H):=by
 intro pins s σ H xs us Q I r h;obtain⟨p,ys,rfl,hq,q⟩:=h;obtain⟨u,rfl,rx⟩:=vals1 r;cases rx;have hn:=z2y;rcases hq with hq|hq
 ·obtain⟨its,r',pl,hz⟩:=I.list hq;have hlen:=r'.length;exact Calls.call_len_list pl.isList (by simp only[ai]<;>omega) ⟨.int ys.length,H,I.tok _,⟨s.toks+1,by rw[ai,hlen]⟩,q⟩
 ·obtain⟨its,r',pl,hz⟩:=I.tuple hq;have hlen:=r'.length;exact len_tuple pl (by simp only[ai]<;>omega) ⟨.int ys.length,H,I.tok _,⟨s.toks+1,by rw[ai,hlen]⟩,q⟩
theorem z4o:CallR X (.builtin "len") (fun xs H Q=>∃z,xs=[.str z]/\z.length<=az/\Q (.int z.length) H):=by intro pins s σ H xs us Q I r h;obtain⟨z,rfl,hz,q⟩:=h;obtain⟨u,rfl,t,rfl⟩:=vals1 r;have hn:=z2y;exact len_str (by omega) ⟨.int z.length,H,I.tok _,⟨_,rfl⟩,q⟩
theorem CallR.or {f:Value}{r r':List V->Hp->VK->Prop}(h:CallR X f r)(h':CallR X f r'):CallR X f (fun xs H Q=>r xs H Q\/r' xs H Q):=by
 intro pins s σ H xs us Q I rs q;rcases q with q|q
 ·exact h pins s σ H xs us Q I rs q
 ·exact h' pins s σ H xs us Q I rs q
theorem z44:CallR X (.type "list") (fun xs H Q=>∃p ys,xs=[.ref p]/\(SqL X.K H p ys\/SqT X.K H p ys)/\∀l,H l=none->Q (.ref l) (upd H l (.lst ys))):=by
 intro pins s σ H xs us Q I r h;obtain⟨p,ys,rfl,hq,q⟩:=h;obtain⟨u,rfl,rx⟩:=vals1 r;cases rx
 have fin:∀(its:List Value),Vals ys its->ys.length<=az->∀(h':Heap) (c':Nat),(∀b o',s.heap.get? b=some o'->h'.get? b=some o')->
   h'.get? s.heap.objs.size=some {cls:=.type "list",dict:=none,data:=.seq its.toArray c',slots:=#[]}->EP X pins σ Q (.ref s.heap.objs.size) {s with heap:=h'}:=fun its r' hz h' c' kp e=>
  ⟨.ref s.heap.objs.size,_,I.laid (t':=s.toks) kp (ag _) (show z0k X.prog X.w _ h' _ (.lst ys)from⟨hz,its,c',r',e⟩),rfl,q _ (I.hok.fresh (ag _))⟩
 rcases hq with hq|hq
 ·obtain⟨its,r',pl,hz⟩:=I.list hq;have hlen:=r'.length;obtain⟨o,ho,hc,n,hd⟩:=pl.isList;exact call_list_seq p (.inl rfl) ho hc hd (fun h' c' kp e=>fin its r' hz h' c' kp e) (by simp only[ai]<;>omega)
 ·obtain⟨its,r',pl,hz⟩:=I.tuple hq;have hlen:=r'.length;obtain⟨o,ho,hc,n,hd⟩:=pl;exact call_list_seq p (.inr rfl) ho hc hd (fun h' c' kp e=>fin its r' hz h' c' kp e) (by simp only[ai]<;>omega)
theorem z3k:CallR X (.type "tuple") (fun xs H Q=>∃p ys,xs=[.ref p]/\((SqL X.K H p ys/\∀l,H l=none->Q (.ref l) (upd H l (.tup ys)))\/(SqT X.K H p ys/\Q (.ref p) H))):=by
 intro pins s σ H xs us Q I r h;obtain⟨p,ys,rfl,h⟩:=h;obtain⟨u,rfl,rx⟩:=vals1 r;cases rx;rcases h with⟨hq,q⟩|⟨hq,q⟩
 ·obtain⟨its,r',pl,hz⟩:=I.list hq;have hlen:=r'.length;refine call_tuple_list pl.isList (fun h' kp=>?_) (by simp only[ai]<;>omega);have I1:Inv X pins σ H {s with heap:=h'}:=I.kept (t':=s.toks) kp;have I2:Inv X pins σ (upd H h'.objs.size (.tup ys)) {s with heap:=h'.push {cls:=.type "tuple",data:=.seq its.toArray}}:=I1.laid (t':=s.toks) (fun b o e=>ae _ e) (ag _) (show z0k X.prog X.w _ _ _ (.tup ys)from⟨hz,its,r',TupN.new _ _⟩);exact⟨.ref h'.objs.size,_,I2,rfl,q _ (I1.hok.fresh (ag _))⟩
 ·obtain⟨its,r',pl,hz⟩:=I.tuple hq;exact call_tuple_same pl ⟨.ref p,H,I,rfl,q⟩
def tyV (K:W.Frag)(T:String)(x:V)(H:Hp):Prop:=match x with
 |.str _=>T="str"
 |.int _=>T="int"
 |.ref p=>(T="list"/\∃xs,SqL K H p xs)\/(T="tuple"/\∃o,K.lookup p=some o/\o.cls=.type "tuple"/\o.dict=none)\/(T="dict"/\((∃kvs,H p=some (.dK kvs))\/∃kvs,H p=some (.dT kvs)))\/(T="set"/\∃S n,H p=some (.set S n))
 |_=>False
theorem zhx {pins:List (Addr×Obj)}{σ:St}{H:Hp}{s:ac}{T:String}{x:V}{v:Value}(I:Inv X pins σ H s)(r:RelV x v)(ty:tyV X.K T x H):
  s.TypeIs v T/\∀a,v=.ref a->∃ob,s.heap.get? a=some ob/\ob.dict=none:=by
 cases x with
 |str z=>obtain⟨t,rfl⟩:=r;cases(show T="str"from ty);exact⟨m9 s z t,fun _ e=>nomatch e⟩
 |int i=>obtain⟨t,rfl⟩:=r;cases(show T="int"from ty);exact⟨typeIs_int s i t,fun _ e=>nomatch e⟩
 |ref p=>
  cases r;rcases ty with⟨rfl,xs,hq⟩|⟨rfl,o,hk,hc,hd⟩|⟨rfl,hk⟩|⟨rfl,S,n,hk⟩
  ·obtain⟨its,_,pl,_⟩:=I.list hq;refine⟨pl.isList.typeIs,fun a e=>?_⟩;cases e;obtain⟨o,n,e,c,hd,_⟩:=pl;exact⟨o,e,hd⟩
  ·refine⟨⟨o,I.kIn p o hk,hc⟩,fun a e=>?_⟩;cases e;exact⟨o,I.kIn _ o hk,hd⟩
  ·have z:∃o,s.heap.get? p=some o/\o.ExactDict:=by
    rcases hk with⟨kvs,hk⟩|⟨kvs,hk⟩
    ·obtain⟨_,_,_,_,o,_,_,e,ex,_⟩:=I.hok p _ hk;exact⟨o,e,ex⟩
    ·obtain⟨_,_,_,_,o,_,_,e,ex,_⟩:=I.hok p _ hk;exact⟨o,e,ex⟩
   obtain⟨o,e,ex⟩:=z;refine⟨⟨o,e,ex.1⟩,fun a e2=>?_⟩;cases e2;exact⟨o,e,ex.2.1⟩
  ·obtain⟨o,_,_,_,e,ex,_⟩:=I.hok p _ hk;refine⟨⟨o,e,ex.1⟩,fun a e2=>?_⟩;cases e2;exact⟨o,e,ex.2.1⟩
 |_=>exact False.elim ty
def tBM (K:W.Frag)(T:String)(r:V->List V->Hp->VK->Prop)(to:TE)(t:TA):TE:=fun σ H Q=>to σ H fun x H1=>tyV K T x H1/\t σ H1 fun xs H2=>r x xs H2 Q
variable {o e:Expr}{es:List Expr}{to:TE}{t:TA}{name:Str}{apos cpos:Pos}{T id:String}{r:V->List V->Hp->VK->Prop}
theorem z6z (pa:PlainAttrs T)(slot:Slot T name id)(hty:typeOf (.builtin id)=pure (.type "method_descriptor"))(hm:MtR X id r)(ho:PE X o to)(ha:PA X (e::es) t)
  (hbase:lq o name X.env (eval o X.env)=eval o X.env:=by rfl)
  (hfew:((iu cpos (cw (e::es) X.env)).all (fun x=> !x.1)&&(backToKw cpos (my [] X.env)).all (fun x=>x.1.isSome)
   &&decide ((e::es).length+([]:List j4).length+(if([]:List j4).isEmpty then 0 else 1)<30))=true:=by rfl)
  (hline:(apos.endLine==cpos.line)=true:=by rfl) (hs:cw (e::es) X.env=(false,eval e X.env)::cw es X.env:=by rfl) (hplain:(iu cpos (cw es X.env)).any (·.1)=false:=by rfl):
  PE X (.Call (.Attribute o name apos) (e::es) [] cpos) (tBM X.K T r to t):=by
 intro pins s σ H Q I h;refine wpAny_Call_method_late hbase hfew hline rfl (thn (ho pins s σ H _ I h) fun v s1 ⟨x,H1,I1,r1,ty,q1⟩=>?_);obtain⟨h1,h2⟩:=zhx I1 r1 ty;refine⟨T,id,pa,slot,hty,h1,h2,?_⟩;have hA:=ha cpos pins s1 σ H1 _ I1 q1;rw[hs]at hA ⊢;refine Calls.callWith_builtin (by show(false||(iu cpos (cw es X.env)).any (·.1))=false;rw[hplain]<;>rfl) (Calls.evalArgs_plain ?_);exact thn hA fun us s2 ⟨vs,H2,I2,r2,q2⟩=>hm pins s2 σ H2 x vs v us Q I2 r1 r2 q2
end
def MtM (X:Cx)(id:String)(r:V->List V->Hp->VK->Prop):Prop:=∀(pins:List (Addr×Obj)) (s:ac) (σ:St) (H:Hp) (x:V) (xs:List V) (v:Value) (us:List Value) (Q:VK),Inv X pins σ H s->RelV x v->Vals xs us->r x xs H Q->wpAny (model X.prog X.w) X.A (call (.builtin id) (v::us)) (EP X pins σ Q) X.xe s
theorem Vals.one {x:V}{us:List Value}(h:Vals [x] us):∃u,us=[u]/\RelV x u:=by
 cases h with
 |cons r h=>cases h;exact⟨_,rfl,r⟩
theorem Vals.two {x y:V}{us:List Value}(h:Vals [x,y] us):∃u v,us=[u,v]/\RelV x u/\RelV y v:=by
 cases h with
 |cons r h=>cases h with
  |cons q h=>cases h;exact⟨_,_,rfl,r,q⟩
theorem Vals.zero:∀{us:List Value},Vals [] us->us=[]
 |_,.nil=>rfl
theorem Vals.dropLast {xs:List V}{us:List Value}(h:Vals xs us):Vals xs.dropLast us.dropLast:=by
 induction h with
 |nil=>exact .nil
 |cons r t ih=>
  cases t with
  |nil=>exact .nil
  |cons q t'=>exact .cons r ih
theorem Vals.eraseIdx:∀{xs:List V} {us:List Value} (i:Nat),Vals xs us->Vals (xs.eraseIdx i) (us.eraseIdx i)
 |_,_,_,.nil=>.nil
 |_,_,0,.cons _ t=>t
 |_,_,i+1,.cons r t=>.cons r (Vals.eraseIdx i t)
theorem Vals.reverse {xs:List V}{us:List Value}(h:Vals xs us):Vals xs.reverse us.reverse:=by
 induction h with
 |nil=>exact .nil
 |cons r t ih=>rw[mf,mf];exact Vals.append ih (.cons r .nil)
theorem Vals.rep {xs:List V}{us:List Value}(h:Vals xs us):∀k:Nat,Vals (bo k xs).flatten (bo k us).flatten
 |0=>.nil
 |k+1=>by rw[gp,gp,jl,jl];exact Vals.append h (Vals.rep h k)
theorem z4j {α:Type}:∀(l:List α) (i:Nat),(l.eraseIdx i).length<=l.length
 | [],_=>ag _
 |_::_,0=>Nat.le_succ _
 |_::r,i+1=>Nat.succ_le_succ (z4j r i)
section
variable {X:Cx}{pins:List (Addr×Obj)}{σ:St}{H:Hp}{s:ac}{l b:Addr}{xs ys zs:List V}
theorem Inv.lset {its its':List Value}{n:Nat}{f:Array Value->Array Value}{t':Nat}(I:Inv X pins σ H s)(hH:H l=some (.lst xs))
  (e:s.heap.get? l=some {cls:=.type "list",data:=.seq its.toArray n}) (hf:f its.toArray=its'.toArray) (hv:Vals ys its') (hz:ys.length<=az):
  Inv X pins σ (upd H l (.lst ys)) {s with heap:=s.heap.update l (Obj.mapSeq f),toks:=t'}:=by
 have q:=PySem.IsL.update e f;rw[hf]at q;refine I.write (x:=l) (e:=l) (by rw[hH];exact trivial) (.inl rfl) (fun b' u hb hu=>(Heap.get?_update_other s.heap (Obj.mapSeq f) (Ne.symm hb)).trans hu) ⟨_,q⟩ ?_;exact⟨hz,its',_,hv,q⟩
theorem Inv.lnew {its:List Value}{t':Nat}(I:Inv X pins σ H s)(hv:Vals ys its)(hz:ys.length<=az):
  Inv X pins σ (upd H s.heap.objs.size (.lst ys)) {s with heap:=s.heap.push {cls:=.type "list",data:=.seq its.toArray},toks:=t'}:=
 I.laid (fun _ _ q=>ae _ q) (ag _) ⟨hz,its,0,hv,au _ rfl⟩
theorem Inv.fresh (I:Inv X pins σ H s):H s.heap.objs.size=none:=I.hok.fresh (ag _)
theorem Inv.lstM (I:Inv X pins σ H s)(hH:H l=some (.lst xs)):xs.length<=az/\∃(its:List Value) (n:Nat),Vals xs its/\xs.length=its.length/\s.heap.get? l=some {cls:=.type "list",data:=.seq its.toArray n}:=by obtain⟨z,its,n,r,e⟩:=I.hok l _ hH;exact⟨z,its,n,r,r.length,e⟩
end
section
variable {X:Cx}
def zeo:V->List V->Hp->VK->Prop:=fun x vs H Q=>∃l xs y,x=.ref l/\vs=[y]/\H l=some (.lst xs)/\xs.length<az/\Q .non (upd H l (.lst (xs++[y])))
theorem z2i:MtM X "list.append" zeo:=by intro pins s σ H x vs v us Q I rx rv h;obtain⟨l,xs,y,rfl,rfl,hH,hz,q⟩:=h;cases rx;obtain⟨u,rfl,ru⟩:=rv.one;obtain⟨z,its,n,r,hl,e⟩:=I.lstM hH;refine l0 F.slot_list_append ⟨_,e,rfl⟩ F.entry_list_append (F.args_list_append_2 _ _) (PySem.list_append l its.toArray n u (by rw[ai];omega)) ⟨e,?_⟩;refine⟨.non,_,I.lset (its':=its++[u]) hH e (by simp) (r.append (.cons ru .nil)) ?_,rfl,q⟩;rw[a0,List.length_singleton];omega
def zhi:V->List V->Hp->VK->Prop:=fun x vs H Q=>∃l xs i k y,x=.ref l/\vs=[.int i]/\H l=some (.lst xs)/\-(2 ^ 63)<=i/\i<2 ^ 63/\mw i xs.length=some k/\xs[k]?=some y/\Q y (upd H l (.lst (xs.eraseIdx k)))
theorem zax:MtM X "list.pop" zhi:=by
 intro pins s σ H x vs v us Q I rx rv h;obtain⟨l,xs,i,k,y,rfl,rfl,hH,h1,h2,hk,hy,q⟩:=h;cases rx;obtain⟨u,rfl,ru⟩:=rv.one;obtain⟨t,rfl⟩:=ru;obtain⟨z,its,n,r,hl,e⟩:=I.lstM hH;obtain⟨w,hw,rw'⟩:=r.get hy;refine l0 F.slot_list_pop ⟨_,e,rfl⟩ F.entry_list_pop (F.args_list_pop_2 _ _) (MeetsSeq.list_pop_at l its.toArray n i t k w (fitsIndex_both h1 h2) (by rw[ai,<-hl];exact hk) (by rw[<-Array.getElem?_toList];exact hw) (by rw[ai];omega)) ⟨e,?_⟩;refine⟨y,_,I.lset (its':=its.eraseIdx k) hH e ?_ (r.eraseIdx k) ?_,rw',q⟩
 ·show its.toArray.eraseIdxIfInBounds k=(its.eraseIdx k).toArray;rw[List.eraseIdxIfInBounds_toArray]
 ·have :=z4j xs k;omega
def rCat:R2:=fun x y H Q=>∃l b xs zs,x=.ref l/\y=.ref b/\H l=some (.lst xs)/\H b=some (.lst zs)/\xs.length+zs.length<=az/\∀p,H p=none->Q (.ref p) (upd H p (.lst (xs++zs)))
theorem zi8:OpR X (eu .Add) rCat:=by
 intro pins s σ H x y v u Q I rx ry h;obtain⟨l,b,xs,zs,rfl,rfl,hH,hB,hz,q⟩:=h;cases rx;cases ry;obtain⟨z,its,n,r,hl,e⟩:=I.lstM hH;obtain⟨z2,its2,n2,r2,hl2,e2⟩:=I.lstM hB;refine PySem.P.add_list e e2 ?_ (by rw[ai,ai];omega);have ea:its.toArray++its2.toArray=(its++its2).toArray:=by simp
 rw[ea];exact⟨.ref _,_,I.lnew (t':=s.toks) (r.append r2) (by rw[a0];omega),rfl,q _ I.fresh⟩
end
section
variable {prog:aq}{w:World}{A:bt}{E:Value->ac->Prop}{s:ac}
end
section
variable {X:Cx}
end
end L2
namespace Att
open PySem PySem.W PySem.Calls PyProof.Rows
theorem z2l {P:eo}{h:Heap}:∀(ns:List Int) (vs:List Value),WellAll P h vs (ns.map WData.int)->lc vs ns:=by
 intro ns
 induction ns with
 |nil=>intro vs w;rw[ma]at w;cases w;exact .nil
 |cons n ns ih=>
  intro vs w;rw[ay]at w;cases w with
  |cons a b=>cases a;exact .cons _ _ (ih _ b)
theorem z9b {l:OpenLaw}{n:Nat}(hn:l.most=some n){P:eo}{h:Heap}{args:List WData}{vals:List Value}
  (hpre:l.row.toRowW.claim.pre args=true) (hwl:WellAll P h vals args):
  ∃a vs ns,vals=[Value.ref a]/\args=[WData.list (ns.map WData.int)]/\h.get? a=some {cls:=.type "list",data:=.seq vs.toArray}/\lc vs ns/\ns.length<=n:=by
 have hsh:WShape.hasAll [] args [.list .int]=true:=(pre_splitW hpre).1;have hc:l.pre.holds [] {args:=args}=true:=(pre_splitW hpre).2;obtain⟨d,r,rfl,h1,h2⟩:=hasAllW_cons hsh;obtain rfl:=hasAllW_nil h2;obtain⟨xs,rfl,h3⟩:=hasW_list h1;obtain⟨ns,rfl⟩:=items_int h3
 have hlen:ns.length<=n:=by
  unfold OpenLaw.pre at hc;have h4:(WTm.not (.lt (.lit (.int (n:Int))) (.len (.arg 0)))).holds [] {args:=[.list (ns.map .int)]}=true:=by have h4:=(holds_andW hc).1;rw[hn]at h4;exact h4
  have h5:=condW_of h4 (w_not (w_lt w_lit (w_len_list (w_arg rfl))));rw[aw]at h5;refine Nat.le_of_not_lt fun q=>?_;have q':(n:Int)<((ns.length:Nat):Int):=by omega
  first
   |(rw[nv q']at h5;exact absurd h5 (by decide))
   |(simp at h5;omega)
 cases hwl with
 |cons w1 w2=>
  cases w2;cases w1 with
  |list ho hall=>exact⟨_,_,ns,rfl,rfl,ho,z2l ns _ hall,hlen⟩
theorem z81 (l:OpenLaw)(args:List WData):l.row.toRowW.claim.post args (.bool true) args=true:=
 postW_of (r:=l.row.toRowW) (X:=(true==true))
  (show WShape.has [] (.bool true) .bool=true by first|rfl|decide|simp[WShape.has,WShape.arms,WShape.armsAll])
  (show(WTm.eq .res (.lit (.bool true))).value [] {args:=args,res:=some (.bool true),after:=args}=some (.bool (true==true))from w_eq_bool (w_res rfl) w_lit) rfl
theorem attach_call {l:OpenLaw}{n:Nat}{q:aq}{loose:List Str}{XP:(Str->Option Value)->Heap->Prop}{YP:World->Heap->Prop}{d:nj}
  (hn:l.most=some n) (hdf:d.params.defaults=[])
  (call:∀(w:World) (s₀ s₁:ac) (mg mb:Str->Option Value) (fa:Addr) (o:Obj) (pm cd doc:Value) (a:Addr) (vs:List Value) (ns:List Int),
   Ground q loose [] XP w s₀ mg mb s₁.heap->YP w s₁.heap->
   s₁.heap.get? fa=some o->o.data=.func (docDef d.name d.params d.body d.scope pm cd doc)->s₁.heap.CodeRec cd d.name->mg d.name=some (.ref fa)->
   s₁.heap.get? a=some {cls:=.type "list",data:=.seq vs.toArray}->lc vs ns->ns.length<=n->s₁.gens=#[]->
   ji (model l.prog w) lf (.call (.ref fa) ⟨[.ref a],[]⟩) (fun r s'=>r=.ok (.ret (.bool true))/\OldK s₁.heap s'.heap/\s'.os=s₁.os/\i0 s'.gens) s₁):
  WalkO q loose XP YP l.row.toRowW d [] (fun f vs=>PySem.call f vs):=by
 intro w s₀ s₁ mg mb G Y fa o pm cd doc dV kV ho hd hcd hD hmg hg args vals as hpre hlay hrd hwl hlo;obtain rfl:dV=.none:=Dflts.none hD hdf;obtain rfl:kV=.none:=Dflts.noKw hD;obtain⟨a,vs,ns,rfl,rfl,hobj,hints,hlen⟩:=z9b hn hpre hwl;refine enter_call (l9 (call w s₀ s₁ mg mb fa o pm cd doc a vs ns G Y ho (fd_plain hd) hcd hmg hobj hints hlen hg) fun r s' hq=>?_);obtain⟨rfl,h2,h3,h4⟩:=hq;exact⟨.inl ⟨.bool true,.bool true,[],rfl,fun _=>rfl,.bool true,z81 l _,fun _=>⟨List.Pairwise.nil,fun _ hm=>(nomatch hm)⟩⟩,h2,h3,h4⟩
section
variable {prog:aq}{w:World}{A:bt}{E:Value->ac->Prop}{s:ac}{K:Frag}
end
end Att
namespace L2
open PySem PySem.Spec PyProof.Rows
theorem z40:∀{vs:List Value} {ns:List Int},lc vs ns->Vals (ns.map V.int) vs
 |_,_,.nil=>.nil
 |_,_,.cons n t h=>.cons ⟨t,rfl⟩ (z40 h)
def Only (H:Hp):Prop:=∀b,H b=none\/∃o xs,H b=some (.frz o (.lst xs))
theorem za4 {P:aq}{w:World}{K:W.Frag}{mg mb:Str->Option Value}{CX:CXT}{k:Nat}{fa a:Addr}{fd:dq}{x:Str}{sp:Sp}{s₁:ac}{vs:List Value}{ns:List Int}
  (KX:K.In s₁.heap) (hns:s₁.heap.Ns bj mg) (hb:s₁.heap.Ns m5 mb) (hbb:∀x:Str,x≠"__name__"->mb x=cv x) (hlim:s₁.heap.NoLimit) (hg:s₁.gens=#[])
  (ha:s₁.heap.get? a=some {cls:=.type "list",data:=.seq vs.toArray}) (hi:lc vs ns) (hl:ns.length<=az) (hr:Room k lf)
  (F:∀base:Heap,K.In base->base.Ns bj mg->FnOk P w K mg base CX k fa fd [x] sp) (hbind:∀(s:ac) (u:Value),la s fd ⟨[u],[]⟩ [(x,u)])
  (hsp:∀H:Hp,Only H->SqL K H a (ns.map V.int)->sp [.ref a] H (fun v _=>v=.bl true) fun _ _ _=>False)
  (hCX:∀H e s',CX [] H s₁ (fun _ _ _=>False) e s'->False):
  ji (model P w) lf (.call (.ref fa) ⟨[.ref a],[]⟩) (fun r s'=>r=.ok (.ret (.bool true))/\OldK s₁.heap s'.heap/\s'.os=s₁.os/\i0 s'.gens) s₁:=by
 have rv:=z40 hi;have lenV:=hi.length
 have core:∀H:Hp,Only H->SqL K H a (ns.map V.int)->HOk P w H s₁.heap->(∀b,H b≠none->b=a)->(H a≠none->K.lookup a=none)->
   ji (model P w) lf (.call (.ref fa) ⟨[.ref a],[]⟩) (fun r s'=>r=.ok (.ret (.bool true))/\OldK s₁.heap s'.heap/\s'.os=s₁.os/\i0 s'.gens) s₁:=by
  intro H hO hS hok hA hK;have z3r:∀{b:Addr} {o:Obj},s₁.heap.get? b=some o->H b=none->(hidT s₁.heap H).get? b=some o:=fun e n=>zb7 e n
  have noA:∀{b:Addr} {o:Obj} {es:Array DictEntry} {ep:Nat},s₁.heap.get? b=some o->o.data=.dict es ep->H b=none:=fun{b o es ep} e d=>by
   cases q:H b with
   |none=>rfl
   |some u=>have e':b=a:=hA b (by rw[q];simp);subst e';rw[ha]at e;cases e;have d':Data.seq vs.toArray _=Data.dict es ep:=d;cases d'
  have nsK:∀{b:Addr} {m:Str->Option Value},s₁.heap.Ns b m->(hidT s₁.heap H).Ns b m:=fun{b m} ⟨o,es,ep,e,d,r⟩=>⟨o,es,ep,z3r e (noA e d),d,r⟩
  have hKb:K.In (hidT s₁.heap H):=fun b o e=>z3r (KX b o e) (by
   cases q:H b with
   |none=>rfl
   |some u=>have e':b=a:=hA b (by rw[q];simp);subst e';rw[hK (by rw[q];simp)]at e;cases e)
  have hM:Mod K mg (hidT s₁.heap H):=⟨hKb,nsK hns,⟨mb,nsK hb,hbb⟩,let⟨mc,h1,h2⟩:=hlim;⟨mc,nsK h1,h2⟩⟩;have e0:Env0 P w K mg (hidT s₁.heap H) lf [] s₁ H:=⟨rfl,hM,fun b o e=>zds e,Nat.le_of_eq (z84 _ _),trivial,fun b hb=>absurd (show b∈([]:List Addr)from hb) (by simp),hok,.of_eq hg⟩;refine l9 ((F _ hKb (nsK hns)).run lf [] s₁ H ⟨[.ref a],[]⟩ [.ref a] [.ref a] _ _ hr e0 (hbind s₁ (.ref a)) (.cons rfl .nil) (hsp H hO hS)) fun r s' h=>?_;cases r with
  |error e=>exact(hCX H e s' h).elim
  |ok fl=>
   cases fl with
   |next=>exact False.elim h
   |brk=>exact False.elim h
   |cont=>exact False.elim h
   |ret u=>
    obtain⟨v,H',os,bare,un,hok',r',q⟩:=h;have q':v=.bl true:=q;subst q';obtain rfl:u=Value.bool true:=r';refine⟨rfl,OldK.of_keep fun b o e=>?_,os,bare⟩;cases q:H b with
    |none=>exact un.keep b o e q (by intro z;exact absurd (show b∈([]:List Addr)from z) (by simp)) (by simp)
    |some u=>
     rcases hO b with z|⟨ob,xs,z⟩
     ·rw[q]at z;cases z
     ·have z2:=un.frzs b ob _ z;obtain⟨e1,_⟩:=hok b _ z;obtain⟨e2,_⟩:=hok' b _ z2;rw[e]at e1;cases e1;exact e2
 cases hk:K.lookup a with
 |some o=>have e:=KX a o hk;rw[ha]at e;cases e;refine core (fun _=>none) (fun _=>.inl rfl) (.inr ⟨_,vs.toArray,_,hk,rfl,rfl,rfl,by rw[ai,lenV];exact hl,by simpa using rv⟩) (fun b u z=>by have z':(none:Option HO)=some u:=z;cases z') (fun b z=>absurd rfl z) fun z=>absurd rfl z
 |none=>
  refine core (fun b=>if b=a then some (.frz {cls:=.type "list",data:=.seq vs.toArray} (.lst (ns.map V.int)))else none) (fun b=>?_) (.inl (.inr ⟨{cls:=.type "list",data:=.seq vs.toArray},if_pos rfl⟩)) (fun b u z=>?_) (fun b z=>?_) fun _=>hk
  ·by_cases hb:b=a
   ·exact .inr ⟨_,_,if_pos hb⟩
   ·exact .inl (if_neg hb)
  ·by_cases hb:b=a
   ·have z':=(if_pos hb).symm.trans z;cases z';subst hb;exact⟨ha,by rw[aw];exact hl,vs,_,rv,ha⟩
   ·have z':=(if_neg hb).symm.trans z;cases z'
  ·by_cases hb:b=a
   ·exact hb
   ·exact absurd (if_neg hb) z
theorem walk_of {l:W.OpenLaw}{n k:Nat}{q:aq}{loose:List Str}{XP:(Str->Option Value)->Heap->Prop}{YP:World->Heap->Prop}{d:nj}{K:eo->W.Frag}{CX:World->CXT}{sp:World->Sp}{x:Str}
  (hn:l.most=some n) (hn2:n<=az) (hdf:d.params.defaults=[]) (hr:Room k lf)
  (hY:∀(w:World) (h:Heap),YP w h->(K w.params).In h)
  (F:∀(w:World) (mg:Str->Option Value) (fa:Addr) (h:Heap),(K w.params).In h->h.Ns bj mg->mg d.name=some (.ref fa)->∃fd:dq,(∀(s:ac) (u:Value),la s fd ⟨[u],[]⟩ [(x,u)])/\∀base:Heap,(K w.params).In base->base.Ns bj mg->FnOk l.prog w (K w.params) mg base (CX w) k fa fd [x] (sp w))
  (hsp:∀(w:World) (H:Hp) (a:Addr) (ns:List Int),ns.length<=n->Only H->SqL (K w.params) H a (ns.map V.int)->sp w [.ref a] H (fun v _=>v=.bl true) fun _ _ _=>False)
  (hCX:∀(w:World) (H:Hp) (s:ac) (e:Value) (s':ac),CX w [] H s (fun _ _ _=>False) e s'->False):
  W.WalkO q loose XP YP l.row.toRowW d [] (fun f vs=>PySem.call f vs):=by
 refine Att.attach_call hn hdf fun w s₀ s₁ mg mb fa o pm cd doc a vs ns G Y ho hd hcd hmg hobj hints hlen hg=>?_;have KX:=hY w _ Y;obtain⟨fd,hb,hF⟩:=F w mg fa _ KX G.T.g hmg;exact za4 KX G.T.g G.T.b G.T.builtins G.T.nolimit hg hobj hints (b8 hlen hn2) hr hF hb (fun H hO hS=>hsp w H a ns hlen hO hS) fun H e s'=>hCX w H s₁ e s'
def z0y (s:Stmt):Arguments:=match s with
 |.FunctionDef _ a _ _ _ _ _ _ _ _=>a
 |_=>{posonlyargs:=[],args:=[],vararg:=none,kwonlyargs:=[],kw_defaults:=[],kwarg:=none,defaults:=[]}
def z0j (s:Stmt):List Stmt:=match s with
 |.FunctionDef _ _ b _ _ _ _ _ _ _=>b
 |_=>[]
def z06 (s:Stmt):Scope:=match s with
 |.FunctionDef _ _ _ _ _ _ sc _ _ _=>sc
 |_=>{kind:=.function,names:=[],isGenerator:=false,isCoroutine:=false}
abbrev CX0:CXT:=fun _ _ _ _ _ _=>False
abbrev E0:XK:=fun _ _ _=>False
theorem zln {X:Cx}:z8h CX0 X E0:=fun _ _ _ _ _ _ _ h=>h.elim
structure Fun (K:W.Frag)(x qual:Str)(st:Stmt)(f:Addr)(fd:dq):Prop where
 ex:∃(oc:Value) (od:Option Addr) (kV doc pm:Value) (an:Option Addr) (cdv ct:Value) (osl:Array (Option Value)),fd=W.fnOf x qual (z0y st) (z0j st) (z06 st) .none kV doc pm an cdv ct/\K.lookup f=some ⟨oc,od,.func fd,osl⟩/\W.codeIn K cdv qual=true
 kp:W.keepIn K (.ref f)=true
section
variable {P:aq}{w:World}{K:W.Frag}{mg:Str->Option Value}{base:Heap}
theorem Fun.ok {x qual:Str}{st:Stmt}{f:Addr}{fd:dq}{N ps:List Str}{k:Nat}{sp:Sp}(F:Fun K x qual st f fd)(S:FnScope N ps (z06 st))(len:∀vs H Q E,sp vs H Q E->vs.length=ps.length)
  (hbody:∀(cdv:Value) (A:bt) (outer:List Env) (s:ac) (H:Hp) (vs:List V) (Q:VK) (E:XK),Room k (A.deeper (ku qual (z06 st) s.heap.objs.size f cdv))->sp vs H Q E->∃t,PSs (cxOf CX0 P w K mg base N qual (z06 st) f cdv A outer s H E).nox (z0j st) t/\t {nx:=fun _ H'=>Q .non H',rt:=Q} (start N vs) H):FnOk P w K mg base CX0 (k+1) f fd ps sp:=by
 obtain⟨oc,od,kV,doc,pm,an,cdv,ct,osl,rfl,lk,hcd⟩:=F.ex;refine zhu lk hcd S len fun A outer s H vs Q E hr hsp=>?_;obtain⟨t,h,q⟩:=hbody cdv A outer s H vs Q E hr hsp;exact⟨t,h.nox,q⟩
theorem Fun.binds {x qual:Str}{st:Stmt}{f:Addr}{fd:dq}{ps:List Str}(F:Fun K x qual st f fd)
  (h:∀(kV doc pm:Value) (an:Option Addr) (cdv ct:Value) (us:List Value),us.length=ps.length->m8 (W.fnOf x qual (z0y st) (z0j st) (z06 st) .none kV doc pm an cdv ct) ⟨us,[]⟩=pure (ps.zip us)):Binds K fd ps []:=by
 obtain⟨oc,od,kV,doc,pm,an,cdv,ct,osl,rfl,lk,hcd⟩:=F.ex;exact .all (h kV doc pm an cdv ct)
theorem z9h {x qual:Str}{st:Stmt}{f:Addr}{oc:Value}{od an:Option Addr}{osl:Array (Option Value)}{kV doc pm cdv ct:Value}(l:K.lookup f=some ⟨oc,od,.func (W.fnOf x qual (z0y st) (z0j st) (z06 st) .none kV doc pm an cdv ct),osl⟩) (c:W.codeIn K cdv qual=true) (k:W.keepIn K (.ref f)=true):Fun K x qual st f (W.fnOf x qual (z0y st) (z0j st) (z06 st) .none kV doc pm an cdv ct):=⟨⟨oc,od,kV,doc,pm,an,cdv,ct,osl,rfl,l,c⟩,k⟩
end
section
variable {X:Cx}
end
theorem iteF {A B:Prop}(h:B):if false=true then A else B:=by rw[if_neg br];exact h
theorem iteT {A B:Prop}(h:A):if true=true then A else B:=by rw[if_pos rfl];exact h
def Same (H H':Hp):Prop:=∀b o,H b=some o->H' b=some o
theorem Same.refl (H:Hp):Same H H:=fun _ _ h=>h
theorem Same.trans {H H1 H2:Hp}(a:Same H H1)(b:Same H1 H2):Same H H2:=fun c o h=>b c o (a c o h)
theorem Same.free {H H':Hp}(e:Same H H'){l:Addr}(h:H' l=Option.none):H l=Option.none:=by
 cases q:H l with
 |none=>rfl
 |some o=>rw[e l o q]at h;cases h
theorem Same.seq {K:W.Frag}{H H':Hp}{a:Addr}{xs:List V}(e:Same H H')(h:SqL K H a xs):SqL K H' a xs:=by
 rcases h with(h|⟨o,h⟩)|h
 ·exact .inl (.inl (e _ _ h))
 ·exact .inl (.inr ⟨o,e _ _ h⟩)
 ·exact .inr h
section
variable {X:Cx}
theorem z8y:CallR X (.builtin "len") (fun xs H Q=>∃a kvs,xs=[V.ref a]/\H a=some (.dK kvs)/\Q (.int kvs.length) H):=by intro pins s σ H xs us Q I r h;obtain⟨a,kvs,rfl,ha,q⟩:=h;obtain⟨u,rfl,ru⟩:=vals1 r;cases ru;exact zj6 I (.inl ha) fun t s' I'=>⟨.int kvs.length,H,I',⟨t,rfl⟩,q⟩
end
section
variable {κ:Type} [DecidableEq κ]
end
end L2
set_option maxHeartbeats 5000000
namespace L2
open PySem PySem.Spec PyProof.Rows
def clOf (env:Env):List (Str×dr)->List (Str×Addr)->List (Str×Addr)
 | [],cs=>cs
 |(n,k)::r,cs=>clOf env r (if(k==.free)=true then(n,(env.cells.lookup n).getD 0)::cs else cs)
theorem z5i {env:Env}{x:Str}:∀(l:List (Str×dr)) (cs:List (Str×Addr)),(∃c,cs.lookup x=some c)->∃c,(clOf env l cs).lookup x=some c
 | [],cs,h=>h
 |(n,k)::r,cs,h=>by
  unfold clOf;refine z5i r _ ?_;split
  ·by_cases e:(x==n)=true
   ·exact⟨_,by rw[cf,e]⟩
   ·obtain⟨c,hc⟩:=h;exact⟨c,by rw[cf,mh.mpr e];exact hc⟩
  ·exact h
theorem z2g {env:Env}{x:Str}:∀(l:List (Str×dr)) (cs:List (Str×Addr)),l.lookup x=some .free->∃c,(clOf env l cs).lookup x=some c
 | [],cs,h=>by simp at h
 |(n,k)::r,cs,h=>by
  rw[cf]at h;unfold clOf;cases e:(x==n)with
  |true=>rw[e]at h;have hk:k=.free:=Option.some.inj h;subst hk;exact z5i r _ ⟨_,by rw[if_pos (by rfl),cf,e]⟩
  |false=>rw[e]at h;exact z2g r _ h
theorem z8b {env:Env}:∀(l:List (Str×dr)) (cs:List (Str×Addr)),(∀y∈l,y.2=.free->∃c,env.cells.lookup y.1=some c)->(∀x c,cs.lookup x=some c->env.cells.lookup x=some c)->
  ∀x c,(clOf env l cs).lookup x=some c->env.cells.lookup x=some c
 | [],cs,_,h=>h
 |(n,k)::r,cs,hl,h=>by
  unfold clOf;refine z8b r _ (fun y hy=>hl y (bg _ hy)) fun x c hx=>?_;by_cases hk:(k==NameKind.free)=true
  ·rw[if_pos hk,cf]at hx;cases e:(x==n)with
   |true=>
    rw[e]at hx;have hxn:x=n:=by simpa using e
    obtain⟨d,hd⟩:=hl (n,k) ar (by simpa using hk);have hd':env.cells.lookup n=some d:=hd;rw[hd']at hx;rw[hxn,hd'];exact hx
   |false=>rw[e]at hx;exact h x c hx
  ·rw[if_neg hk]at hx;exact h x c hx
theorem z1s {env:Env}{scope:Scope}(h:∀y∈scope.names,y.2=.free->∃c,env.cells.lookup y.1=some c):closureFor scope env=pure (clOf env scope.names []):=by
 have go:∀(l:List (Str×dr)) (cs:List (Str×Addr)),(∀y∈l,y.2=.free->∃c,env.cells.lookup y.1=some c)->
   (forIn l cs fun(x:Str×dr) (r:List (Str×Addr))=>if(x.2==NameKind.free)=true then(do let a <-cellOf env x.1;pure (ForInStep.yield ((x.1,a)::r)):Sem _)else pure (ForInStep.yield r))=(pure (clOf env l cs):Sem _):=by
  intro l
  induction l with
  |nil=>intro cs _;rfl
  |cons y r ih=>
   intro cs hl;obtain⟨n,k⟩:=y;rw[gw];unfold clOf;by_cases hk:(k==NameKind.free)=true
   ·obtain⟨c,hc⟩:=hl (n,k) ar (by simpa using hk);have hc':env.cells.lookup n=some c:=hc;have e:cellOf env n=pure c:=by unfold cellOf;rw[hc']
    rw[if_pos hk,if_pos hk]
    dsimp only
    rw[e,hc'];exact ih ((n,c)::cs) fun y hy=>hl y (bg _ hy)
   ·rw[if_neg hk,if_neg hk];exact ih cs fun y hy=>hl y (bg _ hy)
 unfold closureFor;have:=go scope.names [] h
 first
  |exact this
  |(show(forIn scope.names [] _>>=fun r=>pure r)=_;rw[show(forIn scope.names ([]:List (Str×Addr)) _:Sem _)=_ from this];rfl)
theorem z6l {scope:Scope}{env:Env}(hc:∀y∈scope.names,y.2≠.cell){x:Str}:
  (nk scope env).names.lookup x=some .cell\/(nk scope env).names.lookup x=some .free->scope.names.lookup x=some .free:=by
 have go:∀(l:List (Str×dr)),(∀y∈l,y.2≠ .cell)->∀k,(k=NameKind.cell\/k=NameKind.free)->
   (l.map fun(n,k)=>if(k==.free&&env.scope.kind==.function&&env.kindOf n==some .cell)then(n,NameKind.cell)else(n,k)).lookup x=some k->l.lookup x=some .free:=by
  intro l
  induction l with
  |nil=>intro _ k _ h;simp at h
  |cons y r ih=>
   intro hl k hk h;obtain⟨n,q⟩:=y;rw[ay]at h;rw[cf];by_cases c:(q==NameKind.free&&env.scope.kind==.function&&env.kindOf n==some .cell)=true
   ·have hq:q=.free:=by
     simp only[a8]at c;simpa using c.1.1
    dsimp only at h
    rw[if_pos c,cf]at h;cases e:(x==n)with
    |true=>rw[hq]
    |false=>rw[e]at h;exact ih (fun y hy=>hl y (bg _ hy)) k hk h
   ·dsimp only at h
    rw[if_neg c,cf]at h;cases e:(x==n)with
    |true=>
     rw[e]at h;have hq:q=k:=Option.some.inj h;rcases hk with hk|hk
     ·exact absurd (hq.trans hk) (hl (n,q) ar)
     ·show some q=some .free;rw[hq,hk]
    |false=>rw[e]at h;exact ih (fun y hy=>hl y (bg _ hy)) k hk h
 rintro(h|h)
 ·exact go scope.names hc .cell (.inl rfl) h
 ·exact go scope.names hc .free (.inr rfl) h
def blk (X:Cx)(scope:Scope)(N':List Str)(C:Addr)(fp:List Addr)(s:ac)(H:Hp):Cx:={X with N:=N',s₀:=s,H₀:=H,env:=compEnvC scope (clOf X.env scope.names []) C X.env,outer:=X.stack,stack:=X.stack,ex:=fp,fn:=fun _=>false,xe:=fun _ _=>False,fx:=none}
structure BlkScope (X:Cx)(scope:Scope)(N':List Str)(nt:Nat)(js:List Nat):Prop where
 kind:scope.kind=.function
 nocell:∀y∈scope.names,y.2≠.cell
 names:∀y∈scope.names,y.2=.local->scope.names.lookup y.1=some .local
 frees:∀y∈scope.names,y.2=.free->X.env.scope.names.lookup y.1=some .cell\/X.env.scope.names.lookup y.1=some .free
 nd:N'.Nodup
 len:N'.length=nt+js.length
 pl:∀(i j:Nat),js[i]?=some j->N'[nt+i]?=X.N[j]?/\∃x,X.N[j]?=some x/\scope.names.lookup x=some .free
def blkB (NX:List Str)(sc0 scope:Scope)(N':List Str)(nt:Nat)(js:List Nat):Bool:=
 (scope.kind==.function)&&scope.names.all (fun y=>!(y.2==.cell))&&scope.names.all (fun y=>!(y.2==.local)||(scope.names.lookup y.1==some .local))&&
 scope.names.all (fun y=>!(y.2==.free)||(sc0.names.lookup y.1==some .cell)||(sc0.names.lookup y.1==some .free))&&decide N'.Nodup&&(N'.length==nt+js.length)&&
 (N'.drop nt==js.map fun j=>NX.getD j "")&&js.all (fun j=>decide (j<NX.length)&&(scope.names.lookup (NX.getD j "")==some .free))
theorem zf9 {X:Cx}{NX:List Str}{sc0 scope:Scope}{N':List Str}{nt:Nat}{js:List Nat}(hN:X.N=NX)(hs:X.env.scope=sc0)(h:blkB NX sc0 scope N' nt js=true):BlkScope X scope N' nt js:=by
 unfold blkB at h;simp only[a8,bp,decide_eq_true_eq,beq_iff_eq,iy,mi,beq_eq_false_iff_ne]at h;obtain⟨⟨⟨⟨⟨⟨⟨h1,h2⟩,h3⟩,h4⟩,h5⟩,h6⟩,h7⟩,h8⟩:=h;refine⟨h1,h2,fun y hy e=>(h3 y hy).resolve_left (fun z=>z e),fun y hy e=>?_,h5,h6,fun i j hj=>?_⟩
 ·rw[hs];rcases h4 y hy with(z|z)|z
  ·exact absurd e z
  ·exact .inl z
  ·exact .inr z
 ·obtain⟨a,b⟩:=h8 j (b7 hj);have e:X.N[j]?=some (NX.getD j ""):=by rw[hN,ba a,av,ba a];rfl
  refine⟨?_,_,e,b⟩;rw[e,<-List.getElem?_drop,h7,a9,hj];rfl
def emb (nt:Nat)(js:List Nat)(σ:St):St:=bo nt none++js.map fun j=>σ.getD j none
section
variable {X:Cx}{scope:Scope}{N':List Str}{nt:Nat}{js:List Nat}
theorem zer {pins:List (Addr×Obj)}{σ:St}{H:Hp}{s:ac}{fp:List Addr}{h1:Heap}{m1:Str->Option Value}{t1:Nat}(B:BlkScope X scope N' nt js)(I:Inv X pins σ H s)
  (hfp:∀b∈fp,FpOk X pins H b) (hob:∀b∈fp,∃o,s.heap.get? b=some o)
  (k:∀b o,s.heap.get? b=some o->h1.get? b=some o) (hn:h1.Ns s.heap.objs.size m1):
  Inv (blk X scope N' s.heap.objs.size fp s H) pins (emb nt js σ) H {s with heap:=h1,toks:=t1}:=by
 have hcs:∀y∈scope.names,y.2=.free->∃c,X.env.cells.lookup y.1=some c:=fun y hy hf=>I.ok.has y.1 (B.frees y hy hf);have hcl:∀x c,(clOf X.env scope.names []).lookup x=some c->X.env.cells.lookup x=some c:=z8b _ _ hcs (fun x c h=>by simp at h);have lt:∀b o,s.heap.get? b=some o->b≠s.heap.objs.size:=fun b o e=>bq (ax e);have hf:H s.heap.objs.size=none:=I.hok.fresh (ag _);refine⟨⟨I.ok.mod,B.kind,I.ok.glob,I.ok.blt,ag _,fun x y c h1 h2=>I.ok.inj x y c (hcl x c h1) (hcl y c h2),fun x hx=>z2g _ _ (z6l B.nocell hx),fun x c h=>(by cases h),I.ok.hd,I.ok.frames,.inl rfl,fun b hb=>?_,I.bs,b8 I.ok.bsz I.sz,fun b o e hb=>?_,fun b hb hx=>?_,I.stack,I.stkFree,fun _ _ z=>by cases z⟩,rfl,I.bare,Un.kept k,⟨m1,hn,fun i x v e1 e2 e3=>?_⟩,fun x c e=>?_,hf,fun x c e=>I.freeC x c (hcl x c e),fun p hp=>?_,I.hok.kept k,?_,fun _ _ z=>by cases z⟩
 ·obtain⟨o,ho⟩:=hob b hb;exact⟨lt b o ho,fun x c h=>(hfp b hb).2.2.2.2.1 x c (hcl x c h)⟩
 ·rcases(hfp b hb).2.2.2.1 with z|z
  ·exact I.ok.noex b o e z
  ·exact absurd (bn (ax e) (b8 I.ok.bsz z)) (bx _)
 ·rcases bc.mp (I.stkSub b hx)with z|z
  ·exact(hfp b hb).2.1 z
  ·exact(hfp b hb).2.2.1 z
 ·--a name with a value:one of the frame's
  have hi:nt<=i:=by refine Nat.le_of_not_lt fun h=>?_;unfold emb at e2;rw[e9 (by rw[b9];exact h),d9,if_pos h]at e2;cases e2
  unfold emb at e2;rw[cy (by rw[b9];exact hi),b9,a9]at e2;cases ej:js[i-nt]? with
  |none=>rw[ej]at e2;cases e2
  |some j=>
   rw[ej]at e2;have e2':σ.getD j none=some v:=Option.some.inj e2;obtain⟨h1',y,hy,hfree⟩:=B.pl (i-nt) j ej;rw[lg hi]at h1';have exy:x=y:=by have e1':N'[i]?=some x:=e1;rw[h1',hy]at e1';exact(Option.some.inj e1').symm
   subst exy
   have hσ:σ[j]?=some (some v):=by
    rw[av]at e2';cases q:σ[j]? with
    |none=>rw[q]at e2';cases e2'
    |some z=>rw[q]at e2';exact congrArg some e2'
   have hfr:=B.frees (x,.free) (PySem.mem_of_lookup hfree) rfl;have hvis:Vis X.env.scope x:=hfr.elim (fun z=>.inr (.inl z)) (fun z=>.inr (.inr z));obtain⟨m,hnm,hl⟩:=I.loc;obtain⟨u,r,l⟩:=hl j x v hy hσ hvis;refine⟨u,r,?_⟩;rcases l with⟨hk,_⟩|⟨hk,c,hc,hcell⟩
   ·rcases hfr with z|z
    ·have hk':X.env.scope.names.lookup x=some .local:=hk;rw[z]at hk';cases hk'
    ·have hk':X.env.scope.names.lookup x=some .local:=hk;rw[z]at hk';cases hk'
   ·obtain⟨d,hd⟩:=z2g (env:=X.env) scope.names [] hfree;have hdc:d=c:=by have:=hcl x d hd;rw[hc]at this;cases this;rfl
    subst hdc;refine .inr ⟨?_,d,hd,?_⟩
    ·rcases e3 with z|z|z
     ·exfalso;have z':(nk scope X.env).names.lookup x=some .local:=z
      have:∀(l:List (Str×dr)),l.lookup x=some .free->(l.map fun(n,k)=>if(k==.free&&X.env.scope.kind==.function&&X.env.kindOf n==some .cell)then(n,NameKind.cell)else(n,k)).lookup x≠some .local:=by
       intro l
       induction l with
       |nil=>intro h;simp at h
       |cons y r ih=>
        intro h;obtain⟨n,q⟩:=y;rw[cf]at h;rw[ay]
        dsimp only
        cases e:(x==n)with
        |true=>
         rw[e]at h;have hq:q=.free:=Option.some.inj h;subst hq;split
         ·rw[cf,e];intro z;cases z
         ·rw[cf,e];intro z;cases z
        |false=>
         rw[e]at h;split
         ·rw[cf,e];exact ih h
         ·rw[cf,e];exact ih h
      exact this _ hfree z'
     ·exact .inl z
     ·exact .inr z
    ·obtain⟨o,ho,hd'⟩:=hcell;exact⟨o,k _ _ ho,hd'⟩
 ·obtain⟨v,o,ho,hd⟩:=I.cell x c (hcl x c e);exact⟨v,o,k _ _ ho,hd⟩
 ·obtain⟨q1,q2,q3,q4,q5⟩:=I.pin p hp;refine⟨k _ _ q1,q2,lt _ _ q1,fun z=>?_,q5⟩;rcases bc.mp (I.stkSub p.1 z)with z|z
  ·exact q3 z
  ·exact q4 z
 ·show(emb nt js σ).length=N'.length;unfold emb;rw[a0,b9,aw,B.len]
end
section
variable (M:Model)(A:bt)(env:Env)
abbrev calmX:Value->ac->Prop:=fun _ _=>False
def zl0 (acc:Value)(Z:ac->Prop)(x:Value):ac->Prop:=wpAny M A (call (.builtin "list.append") [acc,x]) (fun _=>Z) calmX
def cElt (elt:Expr)(acc:Value)(Z:ac->Prop)(ok:Bool)(s:ac):Prop:=if ok=true then wpAny M A (eval elt env) (zl0 M A acc Z) calmX s else Z s
def zkw (ifs:List Expr)(elt:Expr)(acc:Value)(Z:ac->Prop):ac->Prop:=wpAny M A (forIn ifs true fun c r=>if r=true then(mv c env (eval c env)>>=fun ok=>pure (ForInStep.yield ok))else pure (ForInStep.yield r)) (cElt M A env elt acc Z) calmX
def cPut (tg:Expr)(ifs:List Expr)(elt:Expr)(acc:Value)(Z:ac->Prop)(v:Value):ac->Prop:=wpAny M A (jx tg env v) (fun _=>zkw M A env ifs elt acc Z) calmX
def cVal (tg:Expr)(ifs:List Expr)(elt:Expr)(it acc:Value)(End Z:ac->Prop)(r:Option Value)(s:ac):Prop:=match r with
 |some v=>wpAny M A (eg tg it v) (fun _=>cPut M A env tg ifs elt acc Z v) calmX s
 |none=>End s
end
theorem zdy {P:aq}{w:World}{A:bt}{R:Result->ac->Prop}{s:ac}{elt tg iter:Expr}{ifs:List Expr}{scope:Scope}{pos:Pos}{it acc:Value}{env:Env}(I:Nat->ac->Prop)
  (one:∀k t,I k t->wpAny (model P w) A (jz it) (cVal (model P w) A env tg ifs elt it acc (R (.ok .next)) fun t'=>∃m,m<k/\I m t') calmX t) (n:Nat) (h:I n s):
  ji (model P w) A (.compLoop (.ListComp elt [⟨tg,iter,ifs,0⟩] scope pos) 0 it acc env) R s:=by
 apply codeAny_loop rfl I _ n h;intro k t hk;apply wpAny_noted;apply wpAny_noRaise;rw[compTurn_list];apply aa;apply lu;apply aa;refine thn (one k t hk) ?_
 rintro(_|v) t1 h1
 ·exact aj h1
 apply aa;refine thn (show wpAny _ _ _ _ _ _ from h1) fun _ t2 h2=>?_;apply aa;refine thn (show wpAny _ _ _ _ _ _ from h2) fun _ t3 h3=>?_;apply aa;refine thn (show wpAny _ _ _ _ _ _ from h3) ?_
 rintro(_|_) t4 h4
 ·exact aj ⟨rfl,h4⟩
 apply aa;apply aa;refine thn (show wpAny _ _ _ _ _ _ from h4) fun x t5 h5=>?_;apply aa;refine thn (show wpAny _ _ _ _ _ _ from h5) fun _ t6 h6=>?_;exact aj (aj ⟨rfl,h6⟩)
theorem Un.but {fs ex:List Addr}{H H1:Hp}{h h1 h':Heap}{C:Addr}(u:Un fs ex H H1 h h1)(hC:h.get? C=none)(sb:bd C h1 h'):Un fs ex H H1 h h':=by
 have ne:∀b o,h.get? b=some o->b≠C:=fun b o e z=>by rw[z,hC]at e;cases e
 exact⟨fun b o e n hb hx=>sb.extBut b o (ne b o e) (u.keep b o e n hb hx),fun b o e n hb hx=>let⟨sl,q⟩:=u.slot b o e n hb hx;⟨sl,sb.extBut b _ (ne b o e) q⟩,u.free,fun b o e hx=>let⟨o',q⟩:=u.there b o e hx;⟨o',sb.extBut b _ (ne b o e) q⟩,u.tups,u.frzs,u.tbls⟩
theorem HOk.but {P:aq}{w:World}{H:Hp}{h h':Heap}{C:Addr}(ok:HOk P w H h)(hC:H C=none)(sb:bd C h h'):HOk P w H h':=fun a o e=>by
 refine(ok a o e).stay (fun b u hb q=>sb.extBut b u (fun z=>?_) q) (fun _ q=>q) fun _ _ q=>q;rcases hb with hb|hb
 ·rw[z]at hb;rw[<-hb,hC]at e;cases e
 ·rw[z,hC]at hb;cases hb
def PTs (X:Cx)(ifs:List Expr)(t:TT):Prop:=∀(pins:List (Addr×Obj)) (s:ac) (σ:St) (H:Hp) (Q:Bool->Hp->Prop),Inv X pins σ H s->t σ H Q->wpAny (model X.prog X.w) X.A (forIn ifs true fun c r=>if r=true then do let ok <-mv c X.env (eval c X.env);pure (ForInStep.yield ok)else pure (ForInStep.yield r)) (TP X pins σ Q) X.xe s
def tYes:TT:=fun _ H Q=>Q true H
theorem zdn {X:Cx}:PTs X [] tYes:=fun _ _ _ H _ I h=>wpAny_tests_nil ⟨H,I,h⟩
theorem zex {X:Cx}{c:Expr}{t:TT}(h:PT X c t):PTs X [c] t:=fun pins s σ H Q I q=>wpAny_tests_one (h pins s σ H Q I q)
def Keep (a b:St):Prop:=a.length=b.length/\∀(i:Nat) v,a[i]?=some (some v)->b[i]?=some (some v)
theorem Keep.refl (a:St):Keep a a:=⟨rfl,fun _ _ h=>h⟩
def tLC (wi:TI)(g:TG)(tc:TT)(te:TE)(em:St->St):TE:=fun σ H Q=>wi σ H fun J H1=>∀l,H1 l=none->∃P:Nat->Nat->List V->Hp->Prop,(∃m,P 0 m [] (upd H1 l (.lst [])))/\∀i m acc H2,P i m acc H2->(J.stop i H2/\Q (.ref l) H2)\/(J.go i H2/\acc.length<az/\∃N:List V->Hp->Prop,(∀acc' H',N acc' H'->∃m',m'<m/\P (i+1) m' acc' H')/\∀x H3,J.yld i H2 x H3->g x (em σ) H3 fun σ4 H4=>Keep (em σ) σ4/\tc σ4 H4 fun b H5=>if b=true then te σ4 H5 fun y H6=>H6 l=some (.lst acc)/\N (acc++[y]) (upd H6 l (.lst (acc++[y])))else N acc H5)
section
variable {X:Cx}{scope:Scope}{N':List Str}{nt:Nat}{js:List Nat}{tg iter elt:Expr}{ifs:List Expr}{wi:TI}{g:TG}{tc:TT}{te:TE}{pos:Pos}
theorem z2x {pins:List (Addr×Obj)}{σ:St}{s2:ac}{Q:VK}{itv:Value}{E:Value->ac->Prop}{RR:Value->Addr->Result->ac->Prop}(hc:X.calm=true)(B:BlkScope X scope N' nt js)
  (hg:∀C fp s H,PG (blk X scope N' C fp s H) tg g) (ht:∀C fp s H,PTs (blk X scope N' C fp s H) ifs tc) (he:∀C fp s H,PE (blk X scope N' C fp s H) elt te)
  (h2:PIE X pins σ tg (fun J H1=>∀l,H1 l=none->∃P:Nat->Nat->List V->Hp->Prop,(∃m,P 0 m [] (upd H1 l (.lst [])))/\∀i m acc H2,P i m acc H2->(J.stop i H2/\Q (.ref l) H2)\/(J.go i H2/\acc.length<az/\∃N:List V->Hp->Prop,(∀acc' H',N acc' H'->∃m',m'<m/\P (i+1) m' acc' H')/\∀x H3,J.yld i H2 x H3->g x (emb nt js σ) H3 fun σ4 H4=>Keep (emb nt js σ) σ4/\tc σ4 H4 fun b H5=>
  if b=true then te σ4 H5 fun y H6=>H6 l=some (.lst acc)/\N (acc++[y]) (upd H6 l (.lst (acc++[y])))else N acc H5)) itv s2)
  (hRR:∀(l C:Addr) (H':Hp) (s1:ac),(∃m,s1.heap.Ns C m)->H' C=none->C≠X.env.locals->C∉X.fs->(∀x c,X.env.cells.lookup x=some c->c≠C)->X.s₀.heap.objs.size<=C->(∀p∈X.pn++pins,p.1≠C)->(∀h',bd C s1.heap h'->Inv X pins σ H' {s1 with heap:=h'})->Q (.ref l) H'->RR (.ref l) C (.ok .next) s1):
  wpAny (model X.prog X.w) X.A (newList []) (fun acc s₃=>wpAny (model X.prog X.w) X.A (newFunctionEnv scope X.env.globals (clOf X.env scope.names []) [] X.env.qual none .none (some X.env)) (fun cenv s₄=>ji (model X.prog X.w) X.A (.compStart (.ListComp elt [⟨tg,iter,ifs,0⟩] scope pos) 0 itv acc {cenv with scope:=nk scope X.env}) (RR acc cenv.locals) s₄) E s₃) E s2:=by
 obtain⟨it,fp,tn,J,H2,rfl,I2,T,st2,f2,q⟩:=h2;refine gb (wpAny_newFunctionEnv B.nocell (by intro y hy;simp at hy) (fun h₁ hns₁ hsb₁=>?_) B.kind)
 dsimp only at hns₁ hsb₁ ⊢
 have hob2:∀b∈fp,∃o,s2.heap.get? b=some o:=fun b hb=>let⟨o,e,_⟩:=T.obj 0 _ st2 b hb;⟨o,e⟩;have hl:H2 s2.heap.objs.size=none:=I2.hok.fresh (ag _);have I3:=I2.lnew (ys:=[]) (its:=[]) (t':=s2.toks) .nil (d6 _);obtain⟨P,⟨m0,p0⟩,turn⟩:=q _ hl;generalize hHh:s2.heap.push {cls:=.type "list",dict:=none,data:=.seq ([]:List Value).toArray}=Hh at hns₁ hsb₁ I3 ⊢;generalize hlv:s2.heap.objs.size=l at hl I3 p0 turn ⊢;have old2:∀b o,s2.heap.get? b=some o->Hh.get? b=some o:=fun b o e=>hHh▸ae _ e;have k:∀b o,Hh.get? b=some o->h₁.get? b=some o:=fun b o e=>hsb₁.extBut b o (bq (ax e)) (ae _ e)
 have f3:∀b∈fp,FpOk X pins (upd H2 l (.lst [])) b:=fun b hb=>by
  obtain⟨o,e⟩:=hob2 b hb;have nl:b≠l:=by rw[<-hlv];exact bq (ax e)
  exact⟨by rw[z03 nl];exact(f2 b hb).1,(f2 b hb).2⟩
 have hob3:∀b∈fp,∃o,Hh.get? b=some o:=fun b hb=>let⟨o,e⟩:=hob2 b hb;⟨o,old2 b o e⟩;have J0:=zer (s:={s2 with heap:=Hh,toks:=s2.toks}) (t1:=s2.toks+([]:List (Str×Value)).length) B I3 f3 hob3 k hns₁;have stA:∀{H':Hp},(∀b∈fp,H' b=none)->∀b∈fp,FpOk (blk X scope N' Hh.objs.size fp {s2 with heap:=Hh,toks:=s2.toks} (upd H2 l (.lst []))) pins H' b:=fun hn b hb=>⟨hn b hb,(J0.ok.exf b hb).1,J0.ok.exfs b hb,.inl hb,(J0.ok.exf b hb).2,(f2 b hb).2.2.2.2.2⟩;have hCn:Hh.get? Hh.objs.size=none:=kr (ag _);have out:∀{H':Hp} {s1:ac},Inv (blk X scope N' Hh.objs.size fp {s2 with heap:=Hh,toks:=s2.toks} (upd H2 l (.lst []))) pins (emb nt js σ) H' s1->∀h',bd Hh.objs.size s1.heap h'->Inv X pins σ H' {s1 with heap:=h'}:=fun{H' s1} Jn h' sb=>by refine I3.call' (s':={s1 with heap:=h'}) (ch:=fp) Jn.os (Un.but Jn.base hCn sb) (Jn.hok.but Jn.free sb) Jn.bare fun b hb=>?_;exact⟨(f3 b hb).2.2.2.1,(f3 b hb).2.1,(f3 b hb).2.2.2.2.1,(f3 b hb).2.2.2.2.2⟩
 have nL:Hh.objs.size≠X.env.locals:=jy (I3.lt);have nF:Hh.objs.size∉X.fs:=I3.nofs (ag _);have nC:∀x c,X.env.cells.lookup x=some c->c≠Hh.objs.size:=fun x c e z=>by obtain⟨v,q⟩:=I3.cell x c e;exact absurd q.lt (by rw[z];exact bx _)
 have nS:X.s₀.heap.objs.size<=Hh.objs.size:=I3.sz;have nP:∀p∈X.pn++pins,p.1≠Hh.objs.size:=fun p hp=>bq (ax (I3.pin p hp).1)
 have loop:∀s₃:ac,s₃={s2 with heap:=h₁,toks:=s2.toks+([]:List (Str×Value)).length}->
   ji (model X.prog X.w) X.A (.compLoop (.ListComp elt [⟨tg,iter,ifs,0⟩] scope pos) 0 (.ref it) (.ref l) (compEnvC scope (clOf X.env scope.names []) Hh.objs.size X.env)) (RR (.ref l) Hh.objs.size) s₃:=by
  rintro s₃ rfl
  refine zdy (fun n s'=>∃i acc H',Inv (blk X scope N' Hh.objs.size fp {s2 with heap:=Hh,toks:=s2.toks} (upd H2 l (.lst []))) pins (emb nt js σ) H' s'/\tn i s'.heap/\(∀b∈fp,H' b=none)/\P i n acc H') ?_ m0 ⟨0,[],_,J0,T.keep _ _ _ st2 fun b _ o e=>k b o (old2 b o e),fun b hb=>(f3 b hb).1,p0⟩
  rintro n s3 ⟨i,acc,H3,Jn,st3,fr3,w3⟩
  rcases turn i n acc H3 w3 with⟨stop,qn⟩|⟨go,hz8,N,hN,step⟩
  ·refine thn (T.done (blk X scope N' Hh.objs.size fp {s2 with heap:=Hh,toks:=s2.toks} (upd H2 l (.lst []))) rfl rfl rfl hc i pins s3 _ H3 (fun _ _=>False) Jn (stA fr3) st3 stop) fun r s4 ⟨hr,I4⟩=>?_;subst hr;obtain⟨m,hn,_⟩:=id I4.loc;exact hRR l Hh.objs.size H3 s4 ⟨m,hn⟩ I4.free nL nF nC nS nP (out I4) qn
  ·refine thn (T.item (blk X scope N' Hh.objs.size fp {s2 with heap:=Hh,toks:=s2.toks} (upd H2 l (.lst []))) rfl rfl rfl hc i pins s3 _ H3 (fun _ _=>False) Jn (stA fr3) st3 go) fun r s4 ⟨u,hr,h4⟩=>?_;subst hr;refine thn h4 fun _ s5 ⟨x,H5,I5,r5,y5,st5,fr5⟩=>?_;have I5':=I5.pinned (stA fr5) (T.obj _ _ st5);refine thn (hg _ _ _ _ _ s5 _ H5 x u _ I5' r5 (step x H5 y5)) fun _ s6 ⟨σ6,H6,I6,kp,q6⟩=>?_;refine thn (ht _ _ _ _ _ s6 σ6 H6 _ I6 q6) fun b s7 ⟨H7,I7,q7⟩=>?_
   have again:∀{s7:ac} {H7:Hp} {acc':List V},Inv (blk X scope N' Hh.objs.size fp {s2 with heap:=Hh,toks:=s2.toks} (upd H2 l (.lst []))) (pins++z4c fp s5.heap) σ6 H7 s7->N acc' H7->
     ∃m,m<n/\∃i acc H',Inv (blk X scope N' Hh.objs.size fp {s2 with heap:=Hh,toks:=s2.toks} (upd H2 l (.lst []))) pins (emb nt js σ) H' s7/\tn i s7.heap/\(∀b∈fp,H' b=none)/\P i m acc H':=fun{s7 H7 acc'} I7 w7=>by
    obtain⟨n',hm,w7⟩:=hN _ _ w7;refine⟨n',hm,i+1,acc',H7,(I7.unpinned).weak kp.1 kp.2,T.keep _ _ _ st5 fun b hb o e=>(I7.pin (b,o) (am _ (am _ (z0x hb e)))).1,fun b hb=>?_,w7⟩;obtain⟨o,e,d⟩:=T.obj _ _ st5 b hb;exact(I7.pin (b,o) (am _ (am _ (z0x hb e)))).2.1
   cases b with
   |false=>rw[if_neg br]at q7;unfold cElt;rw[if_neg br];exact again I7 q7
   |true=>rw[if_pos rfl]at q7;unfold cElt;rw[if_pos rfl];refine thn (he _ _ _ _ _ s7 σ6 H7 _ I7 q7) fun y' s8 ⟨y,H8,I8,r8,hl8,w8⟩=>?_;refine thn (z2i _ s8 σ6 H8 (.ref l) [y] (.ref l) [y'] (fun _ H9=>N (acc++[y]) H9) I8 rfl (.cons r8 .nil) ⟨l,acc,y,rfl,rfl,hl8,hz8,w8⟩) fun _ s9 ⟨v9,H9,I9,r9,w9⟩=>?_;exact again I9 w9
 exact codeAny_compStart_list (loop _ rfl) (T.self _ 0 _ _ _ (T.keep _ _ _ st2 fun b _ o e=>k b o (old2 b o e)) (loop _ rfl))
theorem zay (hc:X.calm=true)(B:BlkScope X scope N' nt js)(hi:PI X tg iter wi)
  (hg:∀C fp s H,PG (blk X scope N' C fp s H) tg g) (ht:∀C fp s H,PTs (blk X scope N' C fp s H) ifs tc) (he:∀C fp s H,PE (blk X scope N' C fp s H) elt te)
  (hs:∀x,d8 iter X.env x=pure x:=by intro _;rfl):PE X (.ListComp elt [⟨tg,iter,ifs,0⟩] scope pos) (tLC wi g tc te (emb nt js)):=by
 intro pins s σ H Q I h;rw[eval_ListComp];refine jn (use:=none) rfl hs (z1s fun y hy hf=>I.ok.has y.1 (B.frees y hy hf)) B.kind B.names (thn (hi pins s σ H _ I h) fun v s1 h1=>thn h1 fun itv s2 h2=>?_);refine z2x (RR:=fun acc C=>compPost (model X.prog X.w) X.A X.xe none (EP X pins σ Q) acc C) hc B hg ht he h2 ?_;intro l C H' s1 ns _ _ _ _ _ _ out q;obtain⟨m,hn⟩:=ns;exact⟨m,hn,fun h' sb=>⟨.ref l,H',out h' sb,rfl,q⟩⟩
def zi7 (i:Nat)(t:TE):TS:=fun D σ H=>t σ H fun v H1=>D.nx (σ.set i (some v)) H1
theorem zbh {y:Str}{py spos:Pos}{i:Nat}(hc:X.calm=true)(hN:X.N.Nodup)(hy:X.N[i]?=some y)(hl:X.env.scope.names.lookup y=some .local)(B:BlkScope X scope N' nt js)(hi:PI X tg iter wi)
  (hg:∀C fp s H,PG (blk X scope N' C fp s H) tg g) (ht:∀C fp s H,PTs (blk X scope N' C fp s H) ifs tc) (he:∀C fp s H,PE (blk X scope N' C fp s H) elt te)
  (hsw:i5 (.ListComp elt [⟨tg,iter,ifs,0⟩] scope pos) (some (.Name y py)) spos.line X.env=pure true)
  (hs:∀x,d8 iter X.env x=pure x:=by intro _;rfl):PS X (.Assign [.Name y py] (.ListComp elt [⟨tg,iter,ifs,0⟩] scope pos) spos) (zi7 i (tLC wi g tc te (emb nt js))):=by
 intro pins s σ H D I h;have ex:=exec_Assign_Name_used _ _ _ _ hsw;rw[ex];apply aa;apply lu;apply aa;show wpAny _ X.A (do let _ <-comprehension (.ListComp elt [⟨tg,iter,ifs,0⟩] scope pos) scope X.env _ (newList []) false (eval iter X.env) (some (jx (.Name y py) X.env))) _ _ s;refine aa (gg (jn (use:=some (jx (.Name y py) X.env)) (Q:=fun _ s'=>SP X pins D .next s') rfl hs (z1s fun z hz hf=>I.ok.has z.1 (B.frees z hz hf)) B.kind B.names (thn (hi pins s σ H _ I h) fun v s1 h1=>thn h1 fun itv s2 h2=>?_)) (fun _ s' hq=>aj (aj hq)) fun _ _ e=>e);refine z2x (Q:=fun v H1=>D.nx (σ.set i (some v)) H1) (RR:=fun acc C=>compPost (model X.prog X.w) X.A X.xe (some (jx (.Name y py) X.env)) (fun _ s'=>SP X pins D .next s') acc C) hc B hg ht he h2 ?_;intro l C H' s1 ns hH nL nF nC nS nP out q;obtain⟨m,hn⟩:=ns;have I1:Inv X pins σ H' s1:=out s1.heap (.refl ..);obtain⟨oC,es,ep,hoC,hdC,hrC⟩:=id hn
 have I2:Inv X (pins++[(C,oC)]) σ H' s1:=I1.pins_of fun p hp=>(dh.mp hp).elim (fun z=>I1.pin p (am _ z)) fun z=>by
  have e:p=(C,oC):=by simpa using z
  subst e;exact⟨hoC,hH,nL,nF,fun v z=>by have z':oC.data=.cell v:=z;rw[hdC]at z';cases z'⟩
 show wpAny _ X.A (jx (.Name y py) X.env (.ref l)) _ _ s1;refine l8 (z3n I2 hN hy (.inl hl) (v:=.ref l) rfl (fun s'' I''=>?_) (.inr hl));have hC2:=(I''.pin (C,oC) (am _ (am _ (ck.mpr rfl)))).1;refine⟨m,⟨oC,es,ep,hC2,hdC,hrC⟩,fun h' sb=>⟨_,H',?_,q⟩⟩;exact(I''.unpinned).turned (t':=s''.toks) (fun b o hb e=>sb.extBut b o hb e) hH nL (.inr nS) nC nP
end
def Its (z:Str):It:=⟨fun i _=>i<z.cps.size,fun i H x H'=>H'=H/\∃c,z.cps[i]?=some c/\x=.str ⟨#[c]⟩,fun i _=>z.cps.size<=i⟩
theorem za2 {P:aq}{w:World}{K:W.Frag}{tg:Expr}{ty:String}(hty:ty="str_ascii_iterator"\/ty="str_iterator")(it:Addr)(z:Str)(t:Tok):Turn P w K tg (Its z) [it] it (fun i h=>h.IsStrIter it ty z t i) where
 mem:=by simp
 obj:=fun i h st b hb=>by
  have e:b=it:=by simpa using hb
  subst e;obtain⟨o,e,c,d⟩:=st;exact⟨o,e,fun v z=>by rw[d]at z;cases z⟩
 keep:=fun i h h' st k=>let⟨o,e,r⟩:=st;⟨o,k it (by simp) o e,r⟩
 item:=by
  intro X hP hw hK hc i pins s σ H E I hf st hg;subst hP hw hK;obtain⟨f0,f1,f2,f3,f4,f5⟩:=hf it (by simp);have hi:i<z.cps.size:=hg
  have fin:∀(u:Value) (h':Heap) (tk:Nat),SignAt z i u->h'.IsStrIter it ty z t (i+1)->(∀b o,b∉ [it]->s.heap.get? b=some o->h'.get? b=some o)->
    ∃u',some u=some u'/\wpAny (model X.prog X.w) X.A (eg tg (.ref it) u') (fun _ s2=>∃x H',Inv X pins σ H' s2/\RelV x u'/\(Its z).yld i H x H'/\s2.heap.IsStrIter it ty z t (i+1)/\∀b∈[it],H' b=none) E {s with heap:=h',toks:=tk}:=by
   rintro u h' tk ⟨c,t',hx,rfl⟩ st' kk
   have I1:Inv X pins σ H {s with heap:=h',toks:=tk}:=I.turned (fun b o hb e=>kk b o (by simpa using hb) e) f0 f1 f3 f4 f5;obtain⟨o,e,cc,d⟩:=id st';exact⟨_,rfl,zah (s:={s with heap:=h',toks:=tk}) e cc d (by rcases hty with rfl|rfl<;>decide) ⟨.str ⟨#[c]⟩,H,I1,⟨t',rfl⟩,⟨rfl,c,hx,rfl⟩,st',fun b hb=>(hf b hb).1⟩⟩
  rcases hty with rfl|rfl
  ·exact(Walks.strAscii (prog:=X.prog) (w:=X.w) (I.ok.hd hc) it z t).item i s _ _ hi st fun v h' tk hv st' kk=>fin v h' tk hv st' kk
  ·exact(Walks.strWide (prog:=X.prog) (w:=X.w) (I.ok.hd hc) it z t).item i s _ _ hi st fun v h' tk hv st' kk=>fin v h' tk hv st' kk
 done:=by
  intro X hP hw hK hc i pins s σ H E I hf st hg;subst hP hw hK;obtain⟨f0,f1,f2,f3,f4,f5⟩:=hf it (by simp);have hi:z.cps[i]?=none:=by have:z.cps.size<=i:=hg;simpa using this
  rcases hty with rfl|rfl
  ·exact wpAny_pyNext_ascii_end (I.ok.hd hc) st hi fun h' eb=>⟨rfl,I.turned (t':=s.toks) (fun b o hb e=>eb b o hb e) f0 f1 f3 f4 f5⟩
  ·exact wpAny_pyNext_wide_end (I.ok.hd hc) st hi fun h' eb=>⟨rfl,I.turned (t':=s.toks) (fun b o hb e=>eb b o hb e) f0 f1 f3 f4 f5⟩
 self:=fun _ _ _ _ _ st h=>by
  rcases hty with rfl|rfl
  ·exact wpAny_pyIter_striter_ascii st h
  ·exact wpAny_pyIter_striter_wide st h
section
variable {X:Cx}{tg:Expr}
end
theorem zjt {J:It}{n:Nat}{g:TG}{tc:TT}{te:TE}{σ':St}{Q:VK}{H1:Hp}{l:Addr}(P:Nat->List V->Hp->Prop)(hn:n<=az)(h0:P 0 [] (upd H1 l (.lst [])))
  (hlen:∀i acc H,P i acc H->acc.length<=i)
  (hstop:∀acc H,P n acc H->J.stop n H/\Q (.ref l) H) (hgo:∀i acc H,i<n->P i acc H->J.go i H)
  (turn:∀i acc H x H3,i<n->P i acc H->J.yld i H x H3->g x σ' H3 fun σ4 H4=>Keep σ' σ4/\tc σ4 H4 fun b H5=>if b=true then te σ4 H5 fun y H6=>H6 l=some (.lst acc)/\P (i+1) (acc++[y]) (upd H6 l (.lst (acc++[y])))else P (i+1) acc H5):
  ∃P:Nat->Nat->List V->Hp->Prop,(∃m,P 0 m [] (upd H1 l (.lst [])))/\∀i m acc H2,P i m acc H2->(J.stop i H2/\Q (.ref l) H2)\/(J.go i H2/\acc.length<az/\∃N:List V->Hp->Prop,(∀acc' H',N acc' H'->∃m',m'<m/\P (i+1) m' acc' H')/\∀x H3,J.yld i H2 x H3->g x σ' H3 fun σ4 H4=>Keep σ' σ4/\tc σ4 H4 fun b H5=>if b=true then te σ4 H5 fun y H6=>H6 l=some (.lst acc)/\N (acc++[y]) (upd H6 l (.lst (acc++[y])))else N acc H5):=by
 refine⟨fun i m acc H=>i<=n/\m=n-i/\P i acc H,⟨n,d6 _,rfl,h0⟩,?_⟩
 rintro i m acc H2 ⟨hi,rfl,p⟩
 by_cases hlt:i<n
 ·have hl:=hlen i acc H2 p;exact .inr ⟨hgo i acc H2 hlt p,by omega,P (i+1),fun acc' H' p'=>⟨n-(i+1),by omega,hlt,rfl,p'⟩,fun x H3 y=>turn i acc H2 x H3 hlt p y⟩
 ·have e:i=n:=by omega
  subst e;exact .inl (hstop acc H2 p)
section
variable {X:Cx}
theorem z8s:OpR X (bw .LtE) (fun x y H Q=>∃i j,x=.str i/\y=.str j/\Q (.bl (!decide (j.cps.toList<i.cps.toList))) H):=by intro pins s σ H x y v u Q I rx ry h;obtain⟨i,j,rfl,rfl,q⟩:=h;obtain⟨t,rfl⟩:=rx;obtain⟨t',rfl⟩:=ry;exact PySem.P.le_str ⟨.bl _,H,I,rfl,q⟩
theorem z7l:OpR X (bw .Gt) (fun x y H Q=>∃i j,x=.str i/\y=.str j/\Q (.bl (decide (j.cps.toList<i.cps.toList))) H):=by intro pins s σ H x y v u Q I rx ry h;obtain⟨i,j,rfl,rfl,q⟩:=h;obtain⟨t,rfl⟩:=rx;obtain⟨t',rfl⟩:=ry;exact PySem.P.gt_str ⟨.bl _,H,I,rfl,q⟩
def rSlS:V->Option Int->Option Int->Hp->VK->Prop:=fun x lo hi H Q=>∃z,x=.str z/\z.length<=az/\Q (.str (Txt.slice z lo hi)) H
theorem zbo:SlR X rSlS:=by
 intro pins s σ H x v vl vu lo hi sl Q I rx hs pl pu h;obtain⟨z,rfl,hz,q⟩:=h;obtain⟨t,rfl⟩:=rx;refine⟨"str",_,PySem.F.slot_str_getitem.lookup,m9 _ _ _,?_⟩;obtain⟨o,ho,hc,hd⟩:=hs;have fin:∀t' k,EP X pins σ Q (.str (Txt.slice z lo hi) t') {s with toks:=k}:=fun t' k=>⟨.str _,H,I.tok _,⟨_,rfl⟩,q⟩;cases pl with
 |none=>
  cases pu with
  |none=>exact f7 (l:=none) (u:=none) (st:=none) ⟨o,ho,hc,hd⟩ rfl (iz ⟨b8 (Txt.slice_le z _ _) hz,fin⟩)
  |int j tj=>exact f7 (l:=none) (u:=some (j,tj)) (st:=none) ⟨o,ho,hc,hd⟩ rfl (iz ⟨b8 (Txt.slice_le z _ _) hz,fin⟩)
 |int i ti=>
  cases pu with
  |none=>exact f7 (l:=some (i,ti)) (u:=none) (st:=none) ⟨o,ho,hc,hd⟩ rfl (iz ⟨b8 (Txt.slice_le z _ _) hz,fin⟩)
  |int j tj=>exact f7 (l:=some (i,ti)) (u:=some (j,tj)) (st:=none) ⟨o,ho,hc,hd⟩ rfl (iz ⟨b8 (Txt.slice_le z _ _) hz,fin⟩)
theorem z9z (hc:X.calm=true):CallR X (.builtin "all") (fun xs H Q=>∃(p:Addr) (bs:List Bool),xs=[.ref p]/\SqL X.K H p (bs.map V.bl)/\Q (.bl (bs.all id)) H):=by
 intro pins s σ H xs us Q I r h;obtain⟨p,bs,rfl,hq,q⟩:=h;obtain⟨u,rfl,ru⟩:=vals1 r;cases ru;obtain⟨its,rv,pl,hz⟩:=I.list hq;refine call_all_walk (gc pl.isList ?_);have ne:p≠s.heap.objs.size:=by obtain⟨o,ho,_⟩:=pl.isList;exact bq (ax ho)
 have hlen:bs.length=its.length:=by have:=rv.length;rw[aw]at this;exact this
 refine⟨s.heap.objs.size,_,_,_,_,_,fun i=>bs.getD i true,rfl,Walks.list (A:=X.A.in1) (I.ok.hd hc) s.heap.objs.size p ne its.toArray,⟨⟨_,au _ rfl,rfl,rfl⟩,pl.isList.at fun o e=>ae _ e⟩,?_,?_⟩
 ·intro i v s' Q' E' hP hQ;have hi:its[i]?=some v:=by simpa using hP
  have hb:i<bs.length:=by rw[hlen];exact(bu.mp hi).1
  obtain⟨u',hu,ru⟩:=rv.get (i:=i) (x:=V.bl bs[i]) (by rw[a9,ba hb];rfl);rw[hi]at hu;cases hu;cases ru;refine fk ?_;have e:bs.getD i true=bs[i]:=by simp[av,hb]
  have hQ':Q' (bs.getD i true) s':=hQ;rw[e]at hQ';exact hQ'
 ·intro h' tk k;refine⟨.bl (bs.all id),H,I.kept (h':=h') (t':=tk) fun b o e=>?_,?_,q⟩
  ·refine k b o (fun z=>?_) (ae _ e);have z':b=s.heap.objs.size:=by simpa using z
   exact absurd (ax e) (by rw[z'];exact bx _)
  ·have e:(b6 its.toArray.size).all (fun i=>bs.getD i true)=bs.all id:=by
    rw[ai,<-hlen];apply Bool.eq_iff_iff.mpr;simp only[bp];constructor
    ·intro a b hb;obtain⟨i,hi,rfl⟩:=List.mem_iff_getElem.mp hb;have:=a i (d5.mpr hi);simpa[av,hi]using this
    ·intro a i hi;rw[d5]at hi;have hi':=hi;have:=a bs[i] (List.getElem_mem hi');simpa[av,hi']using this
   rw[e];rfl
end
def Own (K:W.Frag)(mg:Str->Option Value)(x:Str)(st:Stmt)(ps:List Str):Prop:=∃f fd,Fun K x x st f fd/\mg x=some (.ref f)/\W.keepIn K (.ref f)=true/\Binds K fd ps []
def Cal (P:aq)(w:World)(K:W.Frag)(mg:Str->Option Value)(base:Heap)(k:Nat)(x:Str)(ps:List Str)(sp:Sp):Prop:=∃f fd,FnOk P w K mg base CX0 k f fd ps sp/\mg x=some (.ref f)/\W.keepIn K (.ref f)=true/\Binds K fd ps []
section
variable {P:aq}{w:World}{K:W.Frag}{mg:Str->Option Value}{base:Heap}
theorem zg3 {h:Heap}{x:Str}{st:Stmt}{f:Addr}{ps:List Str}{oc:Value}{od an:Option Addr}{osl:Array (Option Value)}{kV doc pm cdv ct:Value}(X:K.In h)(G:h.Ns bj mg)
  (a:W.nsIn K bj x=some (some (.ref f))) (l:K.lookup f=some ⟨oc,od,.func (W.fnOf x x (z0y st) (z0j st) (z06 st) .none kV doc pm an cdv ct),osl⟩) (c:W.codeIn K cdv x=true) (k:W.keepIn K (.ref f)=true)
  (b:∀(kV doc pm:Value) (an:Option Addr) (cdv ct:Value) (us:List Value),us.length=ps.length->m8 (W.fnOf x x (z0y st) (z0j st) (z06 st) .none kV doc pm an cdv ct) ⟨us,[]⟩=pure (ps.zip us)):Own K mg x st ps:=
 ⟨f,_,z9h l c k,W.mg_of X G a,k,(z9h (st:=st) l c k).binds b⟩
theorem Cal.imp {k:Nat}{x:Str}{ps:List Str}{sp sp':Sp}(C:Cal P w K mg base k x ps sp)(h:∀vs H Q E,sp' vs H Q E->sp vs H Q E):Cal P w K mg base k x ps sp':=by obtain⟨f,fd,F,r⟩:=C;exact⟨f,fd,F.imp h,r⟩
end
def isStar:Expr->Bool
 |.Starred ..=>true
 |_=>false
theorem z09 {e:Expr}{es:List Expr}{env:Env}(h:isStar e=false):cw (e::es) env=(false,eval e env)::cw es env:=by cases e<;>first|rfl|cases h
theorem z0w {pos:Pos}{env:Env}:∀{es:List Expr},(es.all fun e=> !isStar e)=true->(iu pos (cw es env)).any (·.1)=false
 | [],_=>rfl
 |e::es,h=>by have h':=ao.mp (cj▸h);rw[z09 (by simpa using h'.1)];show(false||(iu pos (cw es env)).any (·.1))=false;rw[z0w h'.2];rfl
section
variable {X:Cx}{x:Str}{p pos:Pos}{e:Expr}{es:List Expr}{t:TA}{id T:String}{r:List V->Hp->VK->Prop}
theorem pa_c {te:TE}(ha:PE X e te)(hr:PA X es t)(hs:isStar e=false:=by rfl):PA X (e::es) (ze2 te t):=zed ha hr (z09 hs)
theorem zdv (hc:CallR X (.builtin id) r)(hm:X.mg x=none)(hv:cv x=some (.builtin id))(ha:PA X (e::es) t)(hst:((e::es).all fun e=> !isStar e)=true:=by rfl)(hg:Gl X x:=by rfl)(hn:x≠"__name__":=by decide)(hdb:(x==("__debug__":Str))=false:=by decide):PE X (.Call (.Name x p) (e::es) [] pos) (tCB r t):=by rw[cj,a8]at hst;exact z9x hc hg hm hv ha hn hdb (z09 (by simpa using hst.1)) (z0w hst.2)
theorem zks (hc:CallR X (.type T) r)(hm:X.mg x=none)(hv:cv x=some (.type T))(ha:PA X (e::es) t)(hst:((e::es).all fun e=> !isStar e)=true:=by rfl)(hg:Gl X x:=by rfl)(hn:x≠"__name__":=by decide)(hdb:(x==("__debug__":Str))=false:=by decide):PE X (.Call (.Name x p) (e::es) [] pos) (tCB r t):=by rw[cj,a8]at hst;exact z91 hc hg hm hv ha hn hdb (z09 (by simpa using hst.1)) (z0w hst.2)
theorem z5o {k k':Nat}{ps:List Str}{sp:Sp}(C:Cal X.prog X.w X.K X.mg X.base k x ps sp)(hr:Room k' X.A)(ha:PA X (e::es) t)(hst:((e::es).all fun e=> !isStar e)=true:=by rfl)(hk:k<=k':=by decide)(hg:Gl X x:=by rfl)
  (hdb:(x==("__debug__":Str))=false:=by decide):PE X (.Call (.Name x p) (e::es) [] pos) (zfm sp [] E0 t):=by
 obtain⟨f,fd,F,m,kp,b⟩:=C;rw[cj,a8]at hst;exact zd0 F (hr.mono hk) hg m kp b .nil zln ha hdb (z09 (by simpa using hst.1)) (z0w hst.2)
end
def z4a:Expr->Bool
 |.ListComp ..=>true
 |.SetComp ..=>true
 |.DictComp ..=>true
 |_=>false
theorem z3j {e:Expr}(h:z4a e=false)(tg:Option Expr)(n:Nat)(env:Env):i5 e tg n env=pure false:=by cases e<;>first|rfl|cases h
theorem ps_e {X:Cx}{pos:Pos}{e:Expr}{te:TE}(he:PE X e te)(hs:z4a e=false:=by rfl):PS X (.Expr e pos) (zhd te):=zf2 he (z3j hs _ _ _)
section
variable {X:Cx}
def zcu (K:W.Frag):R2:=fun x y H Q=>rI0 (fun i j=>.int (i+j)) x y H Q\/(∃i j,x=.str i/\y=.str j/\i.length+j.length<=az/\Q (.str (i++j)) H)\/rCat x y H Q\/zgb K x y H Q
def rLtA:R2:=fun x y H Q=>rI0 (fun i j=>.bl (decide (i<j))) x y H Q\/∃i j,x=.str i/\y=.str j/\Q (.bl (decide (i.cps.toList<j.cps.toList))) H
def rLeA:R2:=fun x y H Q=>rI0 (fun i j=>.bl (decide (i<=j))) x y H Q\/∃i j,x=.str i/\y=.str j/\Q (.bl (!decide (j.cps.toList<i.cps.toList))) H
def rGtA:R2:=fun x y H Q=>rI0 (fun i j=>.bl (decide (j<i))) x y H Q\/∃i j,x=.str i/\y=.str j/\Q (.bl (decide (j.cps.toList<i.cps.toList))) H
def rInA (K:W.Frag)(neg:Bool):R2:=fun x y H Q=>rIn K neg x y H Q\/∃i j,x=.str i/\y=.str j/\Q (.bl (if neg then !(!(cq j i 0 j.length 1).isEmpty)else !(cq j i 0 j.length 1).isEmpty)) H
def rSlA (K:W.Frag):V->Option Int->Option Int->Hp->VK->Prop:=fun x lo hi H Q=>rSlL K x lo hi H Q\/rSlS x lo hi H Q
def zk3 (K:W.Frag):List V->Hp->VK->Prop:=fun xs H Q=>(∃z,xs=[.str z]/\z.length<=az/\Q (.int z.length) H)\/(∃p ys,xs=[.ref p]/\(SqL K H p ys\/SqT K H p ys)/\Q (.int ys.length) H)
theorem zlb:OpR X (eu .Add) (zcu X.K):=zhm.or (z6f.or (zi8.or zdj))
theorem opLt:OpR X (bw .Lt) rLtA:=ziq.or z8l
theorem opLe:OpR X (bw .LtE) rLeA:=zk7.or z8s
theorem opGt:OpR X (bw .Gt) rGtA:=zjk.or z7l
theorem opIn:OpR X (bw .In) (rInA X.K false):=z6y.or z83
theorem zdq:OpR X (bw .NotIn) (rInA X.K true):=z4m.or z3z
theorem zk5:IxR X (rIx X.K):=zf4
theorem zk4:SlR X (rSlA X.K):=zck.or zbo
theorem zcq:CallR X (.builtin "len") (zk3 X.K):=z4o.or z49
theorem PI.or {tg iter:Expr}{wi wi':TI}(h:PI X tg iter wi)(h':PI X tg iter wi'):PI X tg iter (fun σ H R=>wi σ H R\/wi' σ H R):=by
 intro pins s σ H R I q;rcases q with q|q
 ·exact h pins s σ H R I q
 ·exact h' pins s σ H R I q
end
def isT (t T:String):Bool:=t==T||(t=="bool"&&T=="int")
def tysA:List String:=["NoneType","bool","int","str","list","tuple","dict"]
def tysB:List String:=["str","int","bool","tuple","list"]
theorem zcp (K:W.Frag):∀t∈tysA,∀T∈tysB,W.kitOne K (.type t) (.type T)=some (isT t T):=by intro t ht T hT;simp only[tysA,bc,cr,or_false]at ht;simp only[tysB,bc,cr,or_false]at hT;rcases ht with rfl|rfl|rfl|rfl|rfl|rfl|rfl<;>rcases hT with rfl|rfl|rfl|rfl|rfl<;>kernel_rfl
section
variable {D:Ends}{σ:St}{H:Hp}{g:TG}{tb:TS}
end
section
variable {σ:St}{H:Hp}{R:It->Hp->Prop}{K:W.Frag}{te:TE}{ta:TA}
end
section
variable {D:Ends}{σ:St}{H:Hp}{Q:VK}{t u:TS}{te ta tb tc':TE}{r r':R2}{K:W.Frag}
theorem zhs {i j:Int}(h:Q (.int (i+j)) H):zcu K (.int i) (.int j) H Q:=.inl ⟨i,j,rfl,rfl,h⟩
theorem zg8 {i j:Str}(c:i.length+j.length<=az)(h:Q (.str (i++j)) H):zcu K (.str i) (.str j) H Q:=.inr (.inl ⟨i,j,rfl,rfl,c,h⟩)
theorem zl8 {i j:Int}(h:Q (.bl (decide (i<j))) H):rLtA (.int i) (.int j) H Q:=.inl ⟨i,j,rfl,rfl,h⟩
theorem zlv {i j:Int}(h:Q (.bl (decide (i<=j))) H):rLeA (.int i) (.int j) H Q:=.inl ⟨i,j,rfl,rfl,h⟩
theorem ziz {i j:Int}(h:Q (.bl (decide (j<i))) H):rGtA (.int i) (.int j) H Q:=.inl ⟨i,j,rfl,rfl,h⟩
theorem zkq {i j:Str}(h:Q (.bl (decide (i.cps.toList<j.cps.toList))) H):rLtA (.str i) (.str j) H Q:=.inr ⟨i,j,rfl,rfl,h⟩
theorem zix {i j:Str}(h:Q (.bl (!decide (j.cps.toList<i.cps.toList))) H):rLeA (.str i) (.str j) H Q:=.inr ⟨i,j,rfl,rfl,h⟩
theorem zlw {i j:Str}(h:Q (.bl (decide (j.cps.toList<i.cps.toList))) H):rGtA (.str i) (.str j) H Q:=.inr ⟨i,j,rfl,rfl,h⟩
section
variable {q:Bool->Hp->Prop}{s t:TT}
end
section
variable {q:List V->Hp->Prop}{a:TA}
end
end
section
variable {g:TG}{tc:TT}{te:TE}{σ':St}{l:Addr}{Q:VK}{H1:Hp}
end
section
variable {K:W.Frag}{H:Hp}{Q:VK}
theorem zm7 {z:Str}{c:Nat}(h:Q (.bl (decide (c∈z.cps.toList))) H):rInA K false (.str ⟨#[c]⟩) (.str z) H Q:=.inr ⟨_,z,rfl,rfl,by have e:(if false=true then !(!(cq z ⟨#[c]⟩ 0 z.length 1).isEmpty)else !(cq z ⟨#[c]⟩ 0 z.length 1).isEmpty)=decide (c∈z.cps.toList):=PySem.StrLaws.found_one z c;rw[e];exact h⟩
theorem zgu {z:Str}{c:Nat}(h:Q (.bl (!decide (c∈z.cps.toList))) H):rInA K true (.str ⟨#[c]⟩) (.str z) H Q:=.inr ⟨_,z,rfl,rfl,by have e:(if true=true then !(!(cq z ⟨#[c]⟩ 0 z.length 1).isEmpty)else !(cq z ⟨#[c]⟩ 0 z.length 1).isEmpty)=!decide (c∈z.cps.toList):=congrArg Bool.not (PySem.StrLaws.found_one z c);rw[e];exact h⟩
end
section
variable {K:W.Frag}{H:Hp}{Q:VK}
theorem Same.upd {H:Hp}{p:Addr}{o:HO}(h:H p=none):Same H (L2.upd H p o):=fun b u e=>by rw[z03 (z07 e h)];exact e
theorem zbi {n:Nat}(h:n<=1000):n<=az:=b8 h (by rw[f9];decide)
end
theorem TyOf.same {K:W.Frag}{H H':Hp}{x:V}{t:Value}(s:Same H H')(h:TyOf K H x t):TyOf K H' x t:=by
 cases h with
 |non=>exact .non
 |bl b=>exact .bl b
 |int i=>exact .int i
 |str z=>exact .str z
 |flt z=>exact .flt z
 |lst e=>exact .lst (s _ _ e)
 |frz e=>exact .frz (s _ _ e)
 |tup e=>exact .tup (s _ _ e)
 |dK e=>exact .dK (s _ _ e)
 |dT e=>exact .dT (s _ _ e)
 |ins e a b c d f=>exact .ins (s _ _ e) a b c d f
section
variable {X:Cx}{a b c e o value i f:Expr}{es:List Expr}{ta tb tc te td ty tv tx to:TE}{t:TA}{pos pos' p p2 tpos apos cpos:Pos}
section
variable {tA tB':TT}{rest:List Expr}
end
section
variable {st:Stmt}{sts:List Stmt}{u v:TS}
end
end
section
variable {P:aq}{w:World}{K:W.Frag}{mg:Str->Option Value}{base:Heap}
end
end L2
namespace Mi
open PySem
abbrev D:=af
inductive Res (α:Type) where
 |ok (a:α)|exc (e:D)|no
namespace Res
def bind {α β:Type}(x:Res α)(f:α->Res β):Res β:=match x with
 |.ok a=>f a
 |.exc e=>.exc e
 |.no=>.no
instance:Monad Res where
 pure:=.ok
 bind:=Res.bind
theorem ok_bind {α β:Type}(a:α)(f:α->Res β):(Res.ok a>>=f)=f a:=rfl
def ofO {α:Type}:Option α->Res α
 |some a=>.ok a
 |none=>.no
theorem bind_ok {α β:Type}{x:Res α}{f:α->Res β}{b:β}(h:(x>>=f)=.ok b):∃a,x=.ok a/\f a=.ok b:=by
 cases x with
 |ok a=>exact⟨a,rfl,h⟩
 |exc e=>cases h
 |no=>cases h
end Res
mutual
def imm:af->Bool
 |.tuple xs=>imms xs
 |.list _=>false
 |.dict _=>false
 |.none=>true
 |.bool _=>true
 |.int _=>true
 |.str _=>true
def imms:List af->Bool
 | []=>true
 |x::xs=>imm x&&imms xs
end
theorem z1e:∀{xs:List D},imms xs=true↔∀x∈xs,imm x=true
 | []=>by simp[imms]
 |x::xs=>by rw[imms,a8,z1e];simp
abbrev eqD:D->D->Bool:=PyData.eqv
mutual
def shal:Nat->af->Bool
 |0,.tuple _=>false
 |0,.list _=>false
 |n+1,.tuple xs=>z0u n xs
 |n+1,.list xs=>z0u n xs
 |_,.dict _=>false
 |_,.none=>true
 |_,.bool _=>true
 |_,.int _=>true
 |_,.str _=>true
def z0u:Nat->List af->Bool
 |_,[]=>true
 |n,x::xs=>shal n x&&z0u n xs
end
theorem z1o {n:Nat}:∀{xs:List D},z0u n xs=true↔∀x∈xs,shal n x=true
 | []=>by simp[z0u]
 |x::xs=>by rw[z0u,a8,z1o];simp
def truth:af->Bool
 |.none=>false
 |.bool b=>b
 |.int i=>!decide (i=0)
 |.str x=>!decide (x.length=0)
 |.tuple xs=>!xs.isEmpty
 |.list xs=>!xs.isEmpty
 |.dict es=>!es.isEmpty
def ixN (n:Nat)(i:Int):Option Nat:=if 0<=i then(if i<n then some i.toNat else none)else if -(n:Int)<=i then some (i+n).toNat else none
def atI {α:Type}(xs:List α)(i:Int):Option α:=(ixN xs.length i).bind fun j=>xs[j]?
def sIx (n d:Nat):Option Int->Nat
 |none=>d
 |some v=>if v<0 then(v+(n:Int)).toNat else min v.toNat n
def cut {α:Type}(xs:List α)(lo hi:Option Int):List α:=(xs.drop (sIx xs.length 0 lo)).take (sIx xs.length xs.length hi-sIx xs.length 0 lo)
def cut3 {α:Type}(xs:List α)(lo hi st:Option Int):List α:=(sliceRange (fm lo hi st xs.length).1 (fm lo hi st xs.length).2.1 (fm lo hi st xs.length).2.2).filterMap (xs[·]?)
def eqK:af->af->Bool
 |.int a,y=>match y with|.int b=>a==b|_=>false
 |.str a,y=>match y with|.str b=>decide (a=b)|_=>false
 |_,_=>false
def isK:af->Bool
 |.int _=>true
 |.str _=>true
 |_=>false
abbrev Ents:=List (D×D)
def z19 (es:Ents)(k:D):Option D:=(es.find? fun e=>eqK e.1 k).map (·.2)
def dput (es:Ents)(k v:D):Ents:=if es.any (fun e=>eqK e.1 k)then es.map (fun e=>if eqK e.1 k then(e.1,v)else e)else es++[(k,v)]
def ent (e:D×D):D:=.tuple [e.1,e.2]
def z20:Ents->List D->Option Ents
 |es,[]=>some es
 |es,p::ps=>match p with
  |.tuple [k,v]=>if isK k then z20 (dput es k v) ps else none
  |_=>none
mutual
def ltD:af->af->Bool
 |.int a,y=>match y with|.int b=>decide (a<b)|_=>false
 |.str a,y=>match y with|.str b=>decide (a.cps.toList<b.cps.toList)|_=>false
 |.tuple xs,y=>match y with|.tuple ys=>ltDs xs ys|_=>false
 |.none,_=>false
 |.bool _,_=>false
 |.list _,_=>false
 |.dict _,_=>false
def ltDs:List af->List af->Bool
 | [],ys=>!ys.isEmpty
 |x::xs,ys=>match ys with|y::ys=>if eqD x y then ltDs xs ys else ltD x y| []=>false
end
def insD (x:D):List D->List D
 | []=>[x]
 |y::ys=>if ltD y x then y::insD x ys else x::y::ys
def zaw:List D->List D
 | []=>[]
 |x::xs=>insD x (zaw xs)
def isI:D->Bool
 |.int _=>true
 |_=>false
def isS:D->Bool
 |.str _=>true
 |_=>false
def ofK (b:Bool)(x:D):Bool:=if b then isI x else isS x
def shps:List Bool->List D->Bool
 | [],xs=>xs.isEmpty
 |b::bs,xs=>match xs with|x::xs=>ofK b x&&shps bs xs| []=>false
def ze5 (bs:List Bool):D->Bool
 |.tuple xs=>shps bs xs
 |_=>false
def zc3 (xs:List D):Bool:=xs.all isI||xs.all isS||(match xs with|.tuple ys::_=>!ys.isEmpty&&xs.all (ze5 (ys.map isI))|_=>false)
def isPk:D->Bool
 |.tuple xs=>xs.all (ze5 [false,true])
 |_=>false
def neP:D->Bool
 |.tuple (x::xs)=>(x::xs).all (ze5 [false,true])
 |_=>false
def isCo:D->Bool
 |.tuple [.str _,a,b]=>isPk a&&isPk b
 |_=>false
def zhy (xs:List D):Bool:=zc3 xs||(xs.all neP||xs.all isCo)
section
inductive G where
 |fr|od|al|nu
 deriving Inhabited,DecidableEq
abbrev Rho:=List (Option (G×D))
abbrev GD:=G×D
inductive Tg where
 |nm (i:Nat)|tp (is:List Nat)
 deriving Inhabited,DecidableEq
inductive C where
 |var (i:Nat)|non|bl (b:Bool)|int (i:Int)|str (x:Str)
 |glob (k:Nat) (x:Str)
 |bin (op:gh) (a b:C)|neg (a:C)
 |cmp (op:CmpOp) (a b:C)|chain (op op':CmpOp) (a b c:C)
 |isN (neg:Bool) (a:C)|isB (neg:Bool) (a:C) (b:Bool)
 |and (a b:C)|or (a b:C)|not (a:C)|ife (c a b:C)
 |tup (xs:C)|lst (xs:C)|rep (xs b:C)|dnew|dis (ks:List Str) (xs:C)
 |ix (a b:C)|sl (a lo hi:C)|sl3 (a lo hi st:C)
 |call (k:Nat) (f:Str) (args:C)|bi (f:String) (args:C)|agg (f:String) (a:C)|isT (a:C) (ts:List String)
 |mt (m:String) (o args:C)
 |fst (parts:C)|fs (a:C) (x:Str) (b:C)
 |comp (nt:Nat) (js:List Nat) (N':List Str) (tg:Tg) (it cond elt:C)
 |compI (i nt:Nat) (N':List Str) (tg:Tg) (cond elt:C)|sortI (i:Nat)|sortK (i:Nat)|upr (a:C)|lk (i:Nat)|d1 (k v:C)|rv (a:C)|caln (k:Nat) (f:Str) (args:C)
 |rng (args:C)|items (o:C)|vals (o:C)|enum (a:C)|zip (a b:C)
 |tv (a:C)|isE (b:Bool) (x:Str)|lset (a:C)
 |nil|cons (a r:C)
 deriving Inhabited
inductive S where
 |nil|seq (a b:S)|pass|bad|asg (t:Tg) (e:C)|setIx (i:Nat) (k v:C)|mut (m:String) (i:Nat) (args:C)
 |drop (e:C)|ret (e:C)|retN|ifS (c:C) (a b:S)|for_ (t:Tg) (it:C) (b:S)|wh (n:Nat) (c:C) (b:S)|brk|cnt|pop (j i:Nat)|pap (i:Nat) (a r:C)|stl (s:S)|dap (e a:C) (b:S)|frz (j:Nat) (s:S)|dpp (i:Nat) (a:C) (b:S)
 |rse (c:Str)|tr (k:Nat) (f:Str) (args:C) (c:Str) (i:Nat) (b:S)|alt (a b:S)
 deriving Inhabited
inductive Out where
 |nx (ρ:Rho)|rt (g:G) (d:D)|bk (ρ:Rho)|ct (ρ:Rho)
abbrev Fn:=List D->Res GD
def LIM:Nat:=1000000
def rdG:G->G
 |.fr=>.al
 |.od=>.od
 |.al=>.al
 |.nu=>.nu
def rdS:Option (Option GD)->Res GD
 |some (some (g,d))=>.ok (if imm d then .fr else rdG g,d)
 |_=>.no
def z11:D->Res Bool
 |.str x=>if x.length<=LIM then .ok (!decide (x.length=0))else .no
 |d=>.ok (truth d)
def rtG:G->G
 |.fr=>.fr
 |.od=>.al
 |.al=>.al
 |.nu=>.fr
def agG:G->G
 |.fr=>.fr
 |.od=>.al
 |.al=>.al
 |.nu=>.nu
def gJ (d:D)(g:G):G:=if imm d then .fr else g
def gN (d:D)(g:G):G:=match d with
 |.list xs=>if imms xs then .fr else g
 |d=>gJ d g
def gAll (xs:List GD):G:=if xs.all (fun x=>x.1==.fr)then .fr else if xs.all (fun x=>x.1==.fr||x.1==.nu)then .nu else .al
def gCo (xs:List GD):G:=if xs.all (fun x=>x.1==.fr)then .fr else .al
def okIn (x:GD):Bool:=imm x.2||(x.1==.fr||x.1==.nu)
def calG (g:G)(ys:List GD):G:=if rtG g==.fr then .fr else if ys.all okIn then .nu else .al
def immE (es:Ents):Bool:=es.all fun e=>imm e.2
def z12:GD->GD
 |(g,d)=>if imm d then(.al,d)else match g,d with
  |.fr,.list xs=>(if imms xs then .fr else .nu,.list xs)
  |.fr,.dict es=>(if immE es then .fr else .nu,.dict es)
  |.fr,d=>(.nu,d)
  |.nu,d=>(.nu,d)
  |.od,d=>(.od,d)
  |.al,d=>(.al,d)
def z1u:GD->GD
 |(g,d)=>match g with|.od=>(.od,d)|_=>(.al,d)
def toAl:Option GD->Option GD
 |some (.fr,d)=>some (.al,d)
 |some (.nu,d)=>some (.al,d)
 |s=>s
def z0m:Option GD->Option GD
 |some (.al,d)=>if imm d then some (.al,d)else none
 |s=>s
def settle:Option GD->Option GD
 |some (.nu,d)=>some (.od,d)
 |some (.al,d)=>if imm d then some (.al,d)else some (.od,d)
 |s=>s
def settleA:Option GD->Option GD
 |some (g,d)=>if imm d then some (.al,d)else some (.od,d)
 |none=>none
def isFr:Option GD->Bool
 |some (.fr,_)=>true
 |_=>false
def noOwn (ρ:Rho):Bool:=ρ.all fun s=>!isFr s
def z22:Rho->List Nat->List D->G->Option Rho
 |ρ,[],[],_=>some ρ
 |ρ,i::is,d::ds,g=>z22 (ρ.set i (some (z1u (gJ d g,d)))) is ds g
 |_,_,_,_=>none
def z0s:Tg->GD->Rho->Res Rho
 |.nm i,x,ρ=>.ok (ρ.set i (some (z1u x)))
 |.tp is,(g,.tuple ds),ρ=>Res.ofO (z22 ρ is ds g)
 |.tp is,(g,.list ds),ρ=>Res.ofO (z22 ρ is ds g)
 |_,_,_=>.no
def lenD:D->Res D
 |.str x=>if x.length<=LIM then .ok (.int x.length)else .no
 |.tuple xs=>.ok (.int xs.length)
 |.list xs=>.ok (.int xs.length)
 |.dict es=>.ok (.int es.length)
 |_=>.no
def z1d {α:Type}(n:Nat)(xs:List α):List α:=(bo n xs).flatten
def binD:gh->D->D->Res D
 |.Add,.int a,.int b=>.ok (.int (a+b))
 |.Add,.str a,.str b=>if a.length+b.length<=LIM then .ok (.str (a++b))else .no
 |.Add,.list a,.list b=>if a.length+b.length<=LIM then .ok (.list (a++b))else .no
 |.Add,.tuple a,.tuple b=>if a.length+b.length<=LIM then .ok (.tuple (a++b))else .no
 |.Sub,.int a,.int b=>.ok (.int (a-b))
 |.Mult,.str a,.int n=>if 0<=n/\n<=LIM/\a.length*n.toNat<=LIM then .ok (.str ⟨(z1d n.toNat a.cps.toList).toArray⟩)else .no
 |.Mult,.int a,.int b=>if(-(2 ^ 64)<a/\a<2 ^ 64)\/(-(2 ^ 64)<b/\b<2 ^ 64)then .ok (.int (a*b))else .no
 |.FloorDiv,.int a,.int b=>if 0<b/\b<2 ^ 200 then .ok (.int (a/b))else .no
 |.Mod,.int a,.int b=>if 0<b then .ok (.int (a%b))else .no
 |.Pow,.int a,.int b=>if 0<=b/\b<=1000/\a.natAbs<2 ^ 64 then .ok (.int (a ^ b.toNat))else .no
 |_,_,_=>.no
def inD (x:D):D->Res Bool
 |.list xs=>if shal 40 x&&z0u 40 xs then .ok (xs.any fun y=>eqD y x)else .no
 |.tuple xs=>if shal 40 x&&z0u 40 xs then .ok (xs.any fun y=>eqD y x)else .no
 |.dict es=>if isK x then .ok (z19 es x).isSome else .no
 |.str z=>match x with
  |.str w=>(match w.cps.toList with| [c]=>.ok (decide (c∈z.cps.toList))|_=>.no)
  |_=>.no
 |_=>.no
def cmpD:CmpOp->D->D->Res Bool
 |.Eq,x,y=>if shal 40 x&&shal 40 y then .ok (eqD x y)else .no
 |.NotEq,x,y=>if shal 40 x&&shal 40 y then .ok (!eqD x y)else .no
 |.Lt,.int a,.int b=>.ok (decide (a<b))
 |.LtE,.int a,.int b=>.ok (decide (a<=b))
 |.Gt,.int a,.int b=>.ok (decide (b<a))
 |.GtE,.int a,.int b=>.ok (decide (b<=a))
 |.Lt,.str a,.str b=>.ok (decide (a.cps.toList<b.cps.toList))
 |.LtE,.str a,.str b=>.ok (!decide (b.cps.toList<a.cps.toList))
 |.Gt,.str a,.str b=>.ok (decide (b.cps.toList<a.cps.toList))
 |.In,x,y=>inD x y
 |.NotIn,x,y=>inD x y>>=fun b=>.ok (!b)
 |_,_,_=>.no
def ixD:D->D->Res D
 |.list xs,.int i=>Res.ofO (atI xs i)
 |.tuple xs,.int i=>Res.ofO (atI xs i)
 |.str z,.int i=>if z.length<=LIM then Res.ofO ((atI z.cps.toList i).map fun c=>.str ⟨#[c]⟩)else .no
 |.dict es,k=>if isK k then Res.ofO (z19 es k)else .no
 |_,_=>.no
def z23 (z:Str)(lo hi:Option Int):Str:=⟨(cut z.cps.toList lo hi).toArray⟩
def sl3D:D->Option Int->Option Int->Option Int->Res D
 |.list xs,lo,hi,st=>if st=some 0 then .no else .ok (.list (cut3 xs lo hi st))
 |_,_,_,_=>.no
def slD:D->Option Int->Option Int->Res D
 |.list xs,lo,hi=>.ok (.list (cut xs lo hi))
 |.tuple xs,lo,hi=>if sIx xs.length 0 lo=0/\sIx xs.length xs.length hi=xs.length then .no else .ok (.tuple (cut xs lo hi))
 |.str z,lo,hi=>if z.length<=LIM then .ok (.str (z23 z lo hi))else .no
 |_,_,_=>.no
def intO:D->Res (Option Int)
 |.int i=>.ok (some i)
 |_=>.no
def z3c:D->Res (List D)
 |.list xs=>.ok xs
 |.tuple xs=>.ok xs
 |.str z=>if z.length<=LIM then .ok (z.cps.toList.map fun c=>.str ⟨#[c]⟩)else .no
 |_=>.no
def sumD:List D->Option Int
 | []=>some 0
 |.int i::r=>(sumD r).map (i+ ·)
 |_=>none
def allB:List D->Option (List Bool)
 | []=>some []
 |.bool b::r=>(allB r).map (b:: ·)
 |_=>none
def allS:List D->Option (List Str)
 | []=>some []
 |.str b::r=>(allS r).map (b:: ·)
 |_=>none
def z3m:D->Res (Bool×List D)
 |.list xs=>.ok (true,xs)
 |.tuple xs=>.ok (false,xs)
 |_=>.no
def aggD (f:String)(l:Bool)(xs:List D):Res D:=
 if f="list"then .ok (.list xs)
 else if f="tuple"then .ok (.tuple xs)
 else if f="sorted"then(if(l||imms xs)&&zhy xs&&decide (xs.length<64)then .ok (.list (zaw xs))else .no)
 else if f="sum"then(if l then Res.ofO ((sumD xs).map .int)else .no)
 else if f="all"then(if l then Res.ofO ((allB xs).map fun bs=>.bool (bs.all id))else .no)
 else if f="any"then(if l then Res.ofO ((allB xs).map fun bs=>.bool (bs.any id))else .no)
 else if f="dict"then Res.ofO ((z20 [] xs).map .dict)
 else .no
def vI:D->Option Int
 |.int i=>some i
 |_=>none
def vT:D->Option (List D)
 |.tuple xs=>some xs
 |_=>none
def min2 (x y:D):Res D:=Res.ofO ((vI x).bind fun a=>(vI y).map fun b=>.int (min a b))
def minD (xs:List D):Res D:=if xs.length=2 then min2 (xs.getD 0 .none) (xs.getD 1 .none)else if xs.length=1 then(match vT (xs.getD 0 .none)with|some ys=>if ys.length=2 then min2 (ys.getD 0 .none) (ys.getD 1 .none)else .no|none=>.no)else .no
def zh1:List Str->List Str->List Str
 |acc,[]=>acc
 |acc,z::ws=>zh1 (if z∈acc then acc else acc++[z]) ws
def zl1:D->Res D
 |.list xs=>match allS xs with
  |some ws=>if decide (ws.length<4000)then .ok (.int ((zh1 [] ws).length:Int))else .no
  |none=>.no
 |_=>.no
def biD (f:String)(xs:List D):Res D:=
 if f="len"then(match xs with| [x]=>lenD x|_=>.no)
 else if f="max"then(match xs with| [.int a,.int b]=>.ok (.int (max a b))|_=>.no)
 else if f="int"then(match xs with| [.int a]=>.ok (.int a)| [.bool b]=>.ok (.int (if b then 1 else 0))|_=>.no)
 else if f="str"then(match xs with| [.int a]=>if a.natAbs.log2<1920 then .ok (.str (toString a))else .no|_=>.no)
 else if f="min"then minD xs
 else .no
def tyOf:D->String
 |.none=>"NoneType"|.bool _=>"bool"|.int _=>"int"|.str _=>"str"|.tuple _=>"tuple"|.list _=>"list"|.dict _=>"dict"
def isTy (t T:String):Bool:=t==T||(t=="bool"&&T=="int")
def zl5 (sep:List Nat):List Str->List Nat
 | []=>[]
 |x::r=>x.cps.toList++(r.map fun p=>sep++p.cps.toList).flatten
def zk6 (sep:Str)(xs:List Str):Str:=⟨(zl5 sep.cps.toList xs).toArray⟩
def zkf (sep:Str)(xs:List Str):Nat:=(xs.map (·.length)).sum+xs.length*sep.length
def mtD (m:String)(o:D)(xs:List D):Res D:=
 if m="get"then(match o,xs with|.dict es,[k,d]=>if isK k then .ok ((z19 es k).getD d)else .no|_,_=>.no)
 else if m="join"then(match o,xs with|.str z,[.list ys]=>(match allS ys with|some ss=>if zkf z ss<=LIM then .ok (.str (zk6 z ss))else .no|none=>.no)|_,_=>.no)
 else .no
def rvD:D->Res D
 |.list xs=>if imms xs&&decide (xs.length<=LIM)then .ok (.list xs.reverse)else .no
 |_=>.no
def upD:D->Res D
 |.str z=>if z.cps.toList.all (fun c=>decide (97<=c)&&decide (c<=122))&&decide (z.length<=LIM)then .ok (.str ⟨(z.cps.toList.map (· -32)).toArray⟩)else .no
 |_=>.no
def rngD:List D->Res (List D)
 | [.int n]=>if n<=LIM/\-LIM<=n then .ok ((b6 n.toNat).map fun(i:Nat)=>.int i)else .no
 | [.int a,.int b]=>if -LIM<=a/\b<=LIM/\a<=LIM/\-LIM<=b then .ok ((b6 (b-a).toNat).map fun(i:Nat)=>.int (a+i))else .no
 | [.int a,.int b,.int c]=>if -LIM<=a/\b<=LIM/\a<=LIM/\-LIM<=b/\0<c/\c<=LIM then .ok ((b6 (if a<b then((b-a-1)/c+1).toNat else 0)).map fun(i:Nat)=>.int (a+i*c))else .no
 |_=>.no
def z15:Nat->List D->List D
 |_,[]=>[]
 |i,x::xs=>.tuple [.int i,x]::z15 (i+1) xs
def zipD:List D->List D->List D
 |x::xs,y::ys=>.tuple [x,y]::zipD xs ys
 |_,_=>[]
def seqR:D->Res (List D)
 |.list xs=>if decide (xs.length<=LIM)then .ok xs else .no
 |.tuple xs=>if decide (xs.length<=LIM)then .ok xs else .no
 |_=>.no
def txtD:D->Res Str
 |.str z=>if z.length<=LIM then .ok z else .no
 |.int i=>if i.natAbs.log2<1920 then .ok (toString i)else .no
 |_=>.no
def repD (ys:List GD):D->Res GD
 |.int n=>if imms (ys.map (·.2))=true/\0<=n/\n<=LIM/\ys.length*n.toNat<=LIM then .ok (.fr,.list (z1d n.toNat (ys.map (·.2))))else .no
 |_=>.no
def oc:Option GD->List GD->List GD
 |some y,r=>y::r
 |none,r=>r
def z1h (f:D->Res (Option GD)):List D->Res (List GD)
 | []=>.ok []
 |x::xs=>f x>>=fun o=>z1h f xs>>=fun r=>.ok (oc o r)
variable (Κ:List D)(Φ:List Fn)
mutual
def evE:C->Rho->Res GD
 |.var i,ρ=>rdS ρ[i]?
 |.non,_=>.ok (.fr,.none)
 |.bl b,_=>.ok (.fr,.bool b)
 |.int i,_=>.ok (.fr,.int i)
 |.str x,_=>.ok (.fr,.str x)
 |.isE b _,_=>.ok (.fr,.bool b)
 |.lset a,ρ=>evE a ρ>>=fun x=>zl1 x.2>>=fun d=>.ok (.fr,d)
 |.glob k _,_=>match Κ[k]? with|some d=>if imm d then .ok (.fr,d)else .no|none=>.no
 |.bin op a b,ρ=>evE a ρ>>=fun x=>evE b ρ>>=fun y=>binD op x.2 y.2>>=fun d=>.ok (gN d (gAll [x,y]),d)
 |.neg a,ρ=>evE a ρ>>=fun x=>match x.2 with|.int i=>.ok (.fr,.int (-i))|_=>.no
 |.cmp op a b,ρ=>evE a ρ>>=fun x=>evE b ρ>>=fun y=>cmpD op x.2 y.2>>=fun b=>.ok (.fr,.bool b)
 |.chain op op' a b c,ρ=>evE a ρ>>=fun x=>evE b ρ>>=fun y=>cmpD op x.2 y.2>>=fun k=>if k then evE c ρ>>=fun z=>cmpD op' y.2 z.2>>=fun k'=>.ok (.fr,.bool k')else .ok (.fr,.bool false)
 |.isN ng a,ρ=>evE a ρ>>=fun x=>.ok (.fr,.bool (match x.2 with|.none=>!ng|_=>ng))
 |.isB ng a b,ρ=>evE a ρ>>=fun x=>match x.2 with|.bool c=>.ok (.fr,.bool (if ng then !(c==b)else c==b))|_=>.no
 |.and a b,ρ=>evE a ρ>>=fun x=>match x.2 with|.bool c=>if c then evE b ρ else .ok (.fr,.bool false)|_=>.no
 |.or a b,ρ=>evE a ρ>>=fun x=>match x.2 with|.bool c=>if c then .ok (.fr,.bool true)else evE b ρ|_=>.no
 |.not a,ρ=>evE a ρ>>=fun x=>z11 x.2>>=fun c=>.ok (.fr,.bool (!c))
 |.ife c a b,ρ=>evT c ρ>>=fun k=>if k then evE a ρ else evE b ρ
 |.tup xs,ρ=>evA xs ρ>>=fun ys=>.ok (gJ (.tuple (ys.map (·.2))) (gAll ys),.tuple (ys.map (·.2)))
 |.lst xs,ρ=>evA xs ρ>>=fun ys=>.ok (gAll ys,.list (ys.map (·.2)))
 |.rep xs b,ρ=>evA xs ρ>>=fun ys=>evE b ρ>>=fun n=>repD ys n.2
 |.dnew,_=>.ok (.fr,.dict [])
 |.ix a b,ρ=>evE a ρ>>=fun x=>evE b ρ>>=fun y=>ixD x.2 y.2>>=fun d=>.ok (gJ d x.1,d)
 |.sl a lo hi,ρ=>evE a ρ>>=fun x=>evO lo ρ>>=fun l=>evO hi ρ>>=fun h=>slD x.2 l h>>=fun d=>.ok (gN d (gAll [x]),d)
 |.sl3 a lo hi st,ρ=>evE a ρ>>=fun x=>evO lo ρ>>=fun l=>evO hi ρ>>=fun h=>(evE st ρ>>=fun z=>intO z.2)>>=fun k=>sl3D x.2 l h k>>=fun d=>.ok (gJ d (gAll [x]),d)
 |.call k _ args,ρ=>evA args ρ>>=fun ys=>match Φ[k]? with|some m=>m (ys.map (·.2))>>=fun r=>.ok (gJ r.2 (rtG r.1),r.2)|none=>.no
 |.caln k _ args,ρ=>evA args ρ>>=fun ys=>match Φ[k]? with|some m=>m (ys.map (·.2))>>=fun r=>.ok (gJ r.2 (calG r.1 ys),r.2)|none=>.no
 |.bi f args,ρ=>evA args ρ>>=fun ys=>biD f (ys.map (·.2))>>=fun d=>.ok (gJ d .al,d)
 |.agg f a,ρ=>evG a ρ>>=fun w=>aggD f w.2.1 w.2.2>>=fun d=>.ok (gJ d (if imms w.2.2 then .fr else agG w.1),d)
 |.isT a ts,ρ=>evE a ρ>>=fun x=>.ok (.fr,.bool (ts.any fun T=>isTy (tyOf x.2) T))
 |.mt m o args,ρ=>evE o ρ>>=fun x=>evA args ρ>>=fun ys=>mtD m x.2 (ys.map (·.2))>>=fun d=>.ok (gJ d .al,d)
 |.fs a x b,ρ=>evE a ρ>>=fun u=>txtD u.2>>=fun p=>evE b ρ>>=fun v=>txtD v.2>>=fun q=>if p.length+x.length+q.length<=LIM then .ok (.fr,.str (p++x++q))else .no
 |.sortK i,ρ=>match ρ[i]? with
  |some (some (_,.dict es))=>if((es.map (·.1)).all isI||(es.map (·.1)).all isS)&&decide (es.length<64)then .ok (.fr,.list (zaw (es.map (·.1))))else .no
  |_=>.no
 |.lk i,ρ=>match ρ[i]? with
  |some (some (_,.dict es))=>if decide (es.length<=LIM)then .ok (.fr,.list (es.map (·.1)))else .no
  |_=>.no
 |.d1 k v,ρ=>evE k ρ>>=fun x=>evE v ρ>>=fun y=>if isK x.2&&imm y.2 then .ok (.fr,.dict [(x.2,y.2)])else .no
 |.rv a,ρ=>evE a ρ>>=fun x=>rvD x.2>>=fun d=>.ok (.fr,d)
 |.upr a,ρ=>evE a ρ>>=fun x=>upD x.2>>=fun d=>.ok (.fr,d)
 |.sortI i,ρ=>match ρ[i]? with
  |some (some (_,.dict es))=>if immE es&&zc3 (es.map ent)&&decide (es.length<64)then .ok (.fr,.list (zaw (es.map ent)))else .no
  |_=>.no
 |.compI i nt _ tg cond elt,ρ=>match ρ[i]? with
  |some (some (_,.dict es))=>if immE es&&decide (es.length<=LIM)then z1h (fun x=>z0s tg (gJ x .al,x) (bo nt none++([]:List Nat).map fun j=>toAl (([]:Rho).getD j none))>>=fun ρ1=>evT cond ρ1>>=fun k=>if k then evE elt ρ1>>=fun y=>.ok (some y)else .ok none) (es.map ent)>>=fun ys=>.ok (gCo ys,.list (ys.map (·.2)))else .no
  |_=>.no
 |.comp nt js _ tg it cond elt,ρ=>evW it ρ>>=fun w=>z1h (fun x=>z0s tg (gJ x w.1,x) (bo nt none++js.map fun j=>toAl (ρ.getD j none))>>=fun ρ1=>evT cond ρ1>>=fun k=>if k then evE elt ρ1>>=fun y=>.ok (some y)else .ok none) w.2>>=fun ys=>.ok (gCo ys,.list (ys.map (·.2)))
 |_,_=>.no
def evT:C->Rho->Res Bool
 |.and a b,ρ=>evT a ρ>>=fun c=>if c then evT b ρ else .ok false
 |.or a b,ρ=>evT a ρ>>=fun c=>if c then .ok true else evT b ρ
 |.not a,ρ=>evT a ρ>>=fun c=>.ok (!c)
 |.nil,_=>.ok true
 |.tv a,ρ=>evE a ρ>>=fun x=>z11 x.2
 |_,_=>.no
def evA:C->Rho->Res (List GD)
 |.nil,_=>.ok []
 |.cons a r,ρ=>evE a ρ>>=fun x=>evA r ρ>>=fun xs=>.ok (x::xs)
 |_,_=>.no
def evO:C->Rho->Res (Option Int)
 |.nil,_=>.ok none
 |.tv a,ρ=>evE a ρ>>=fun x=>intO x.2
 |_,_=>.no
def evG:C->Rho->Res (G×Bool×List D)
 |.tv a,ρ=>evE a ρ>>=fun x=>z3m x.2>>=fun p=>.ok (x.1,p)
 |_,_=>.no
def evW:C->Rho->Res (G×List D)
 |.rng args,ρ=>evA args ρ>>=fun ys=>rngD (ys.map (·.2))>>=fun xs=>.ok (.fr,xs)
 |.tv a,ρ=>evE a ρ>>=fun x=>z3c x.2>>=fun xs=>.ok (x.1,xs)
 |.enum a,ρ=>evE a ρ>>=fun x=>seqR x.2>>=fun xs=>.ok (.al,z15 0 xs)
 |.zip a b,ρ=>evE a ρ>>=fun x=>evE b ρ>>=fun y=>seqR x.2>>=fun xs=>seqR y.2>>=fun ys=>.ok (.al,zipD xs ys)
 |_,_=>.no
end
def outB:Res Out->(Rho->Res Out)->Res Out
 |.ok (.nx ρ),k=>k ρ
 |r,_=>r
def forD (f:D->Rho->Res Out):List D->Rho->Res Out
 | [],ρ=>.ok (.nx ρ)
 |x::xs,ρ=>match f x ρ with
  |.ok (.nx ρ')=>forD f xs ρ'
  |.ok (.ct ρ')=>forD f xs ρ'
  |.ok (.bk ρ')=>.ok (.nx ρ')
  |.ok (.rt g d)=>.ok (.rt g d)
  |.exc e=>.exc e
  |.no=>.no
def whD (c:Rho->Res Bool)(f:Rho->Res Out):Nat->Rho->Res Out
 |0,_=>.no
 |n+1,ρ=>c ρ>>=fun k=>if k then(match f ρ with
  |.ok (.nx ρ')=>whD c f n ρ'
  |.ok (.ct ρ')=>whD c f n ρ'
  |.ok (.bk ρ')=>.ok (.nx ρ')
  |.ok (.rt g d)=>.ok (.rt g d)
  |.exc e=>.exc e
  |.no=>.no)else .ok (.nx ρ)
def putAt (xs:List D)(ys:List GD):Res (List D):=match ys with
 | [x,y]=>(match x.2 with
  |.int i=>if okIn y&&decide (xs.length<LIM)&&decide (0<=i)&&decide (i<=xs.length)then .ok (xs.take i.toNat++y.2::xs.drop i.toNat)else .no
  |_=>.no)
 |_=>.no
def zf1 (xs:List D)(ys:List GD):Res (List D):=match ys with
 | [x]=>(match x.2 with
  |.int i=>if decide (0<=i)&&decide (i<xs.length)&&decide (xs.length<=LIM)then .ok (xs.eraseIdx i.toNat)else .no
  |_=>.no)
 |_=>.no
def mutD (m:String)(xs:List D)(ys:List GD):Res (List D):=
 if m="append"then(match ys with| [y]=>if okIn y&&decide (xs.length<LIM)then .ok (xs++[y.2])else .no|_=>.no)
 else if m="insert"then putAt xs ys
 else if m="pop"then zf1 xs ys
 else .no
def ownB (ρ:Rho)(i:Nat):Bool:=match ρ[i]? with
 |some (some (.fr,_))=>true
 |_=>false
def z8q (i:Nat)(ρ:Rho):Res (G×List D×Rho):=match ρ[i]? with
 |some (some (.fr,d))=>z3c d>>=fun xs=>.ok (.al,xs,ρ.set i (some (.al,d)))
 |_=>.no
def zet:Option GD->Option GD
 |some (.fr,.list xs)=>some (.al,.list xs)
 |s=>s
def evAl (x:GD)(ρ:Rho):Res (G×List D×Rho):=match x.2 with
 |.list xs=>if imms xs then .ok (.al,xs,ρ.map zet)else .no
 |_=>.no
def z2u (x:GD):Bool:=match x.2 with
 |.list _=>!(x.1==.al)
 |d=>!(x.1==.al)||imm d
def evEn (ys:List GD)(ρ:Rho):Res (G×List D×Rho):=match ys with
 | [x]=>if z2u x then seqR x.2>>=fun xs=>.ok (.al,z15 0 xs,ρ)else .no
 |_=>.no
def evZi (ys:List GD)(ρ:Rho):Res (G×List D×Rho):=match ys with
 | [x,y]=>if z2u x&&z2u y then seqR x.2>>=fun xs=>seqR y.2>>=fun zs=>.ok (.al,zipD xs zs,ρ)else .no
 |_=>.no
def isAl (it:C)(ρ:Rho):Bool:=match evW Κ Φ it ρ with
 |.ok w=>w.1==.al
 |_=>false
def evN (it:C)(ρ:Rho):Res (G×List D×Rho):=evW Κ Φ it ρ>>=fun w=>if w.1==.al then .no else .ok (w.1,w.2,ρ)
def evF (it:C)(ρ:Rho):Res (G×List D×Rho):=match it with
 |.tv (.var i)=>if ownB ρ i then z8q i ρ else if isAl Κ Φ it ρ then evE Κ Φ (.var i) ρ>>=fun x=>evAl x ρ else evN Κ Φ it ρ
 |.tv a=>if isAl Κ Φ it ρ then evE Κ Φ a ρ>>=fun x=>evAl x ρ else evN Κ Φ it ρ
 |.enum a=>evA Κ Φ (.cons a .nil) ρ>>=fun ys=>evEn ys ρ
 |.zip a b=>evA Κ Φ (.cons a (.cons b .nil)) ρ>>=fun ys=>evZi ys ρ
 |it=>evN Κ Φ it ρ
def outI (i:Nat):Res Out->Res Out
 |.ok (.nx ρ)=>.ok (.nx (ρ.set i none))
 |.ok (.rt g d)=>.ok (.rt g d)
 |_=>.no
def excOf:Res GD->Option Str
 |.exc (.str c)=>some c
 |_=>none
def zg7 (xs:List D):Option D:=match xs.getLast? with
 |some d=>if imm d then some d else none
 |none=>none
def frzS:Option GD->Option GD
 |some (.fr,d)=>some (.nu,d)
 |s=>s
mutual
def mayE:af->af->Bool
 |.list xs,y=>match y with|.list ys=>z1y xs ys|_=>false
 |.tuple _,y=>match y with|.list _=>false|_=>true
 |.dict _,y=>match y with|.list _=>false|_=>true
 |.none,y=>match y with|.list _=>false|_=>true
 |.bool _,y=>match y with|.list _=>false|_=>true
 |.int _,y=>match y with|.list _=>false|_=>true
 |.str _,y=>match y with|.list _=>false|_=>true
def z1y:List af->List af->Bool
 | [],ys=>ys.isEmpty
 |x::xs,ys=>match ys with|y::ys=>mayE x y&&z1y xs ys| []=>false
end
mutual
def apart (z:D):af->Bool
 |.tuple xs=>z0r z xs
 |.list xs=>!(mayE (.list xs) z)&&z0r z xs
 |.dict _=>false
 |.none=>true
 |.bool _=>true
 |.int _=>true
 |.str _=>true
def z0r (z:D):List af->Bool
 | []=>true
 |x::xs=>apart z x&&z0r z xs
end
def z2t (z:D):Option GD->Option GD
 |some (g,d)=>if imm d then some (.al,d)else match g with
  |.od=>some (.od,d)
  |.nu=>if apart z d then some (.nu,d)else none
  |_=>none
 |none=>none
def zkg:Option GD->Option GD
 |some (g,d)=>if imm d then some (.al,d)else match g with|.od=>some (.od,d)|_=>none
 |none=>none
def dapD (x y:GD):Res Unit:=match x.2 with
 |.list xs=>if x.1==.nu&&imm y.2&&decide (xs.length<LIM)then .ok ()else .no
 |_=>.no
def z1n:Res Out->Res Out
 |.ok (.rt g d)=>.ok (.rt g d)
 |_=>.no
def evS:S->Rho->Res Out
 |.nil,ρ=>.ok (.nx ρ)
 |.seq a b,ρ=>outB (evS a ρ) (evS b)
 |.pass,ρ=>.ok (.nx ρ)
 |.bad,_=>.no
 |.asg (.nm i) e,ρ=>evE Κ Φ e ρ>>=fun x=>.ok (.nx (ρ.set i (some (z12 x))))
 |.asg t e,ρ=>evE Κ Φ e ρ>>=fun x=>z0s t x ρ>>=fun ρ'=>.ok (.nx ρ')
 |.setIx i k v,ρ=>evE Κ Φ v ρ>>=fun y=>evE Κ Φ k ρ>>=fun x=>match ρ[i]? with
  |some (some (.fr,.dict es))=>if isK x.2&&okIn y&&decide (es.length<LIM)then .ok (.nx ((ρ.set i (some (.fr,.dict (dput es x.2 y.2)))).map z0m))else .no
  |some (some (.fr,.list xs))=>(match x.2 with
   |.int j=>if okIn y then(match ixN xs.length j with|some n=>.ok (.nx ((ρ.set i (some (.fr,.list (xs.set n y.2)))).map z0m))|none=>.no)else .no
   |_=>.no)
  |_=>.no
 |.mut m i args,ρ=>evA Κ Φ args ρ>>=fun ys=>match ρ[i]? with
  |some (some (.fr,.list xs))=>mutD m xs ys>>=fun xs'=>.ok (.nx ((ρ.set i (some (.fr,.list xs'))).map z0m))
  |_=>.no
 |.drop e,ρ=>evE Κ Φ e ρ>>=fun _=>.ok (.nx ρ)
 |.ret e,ρ=>match e with
  |.var i=>match ρ[i]? with
   |some (some (g,d))=>.ok (.rt (if imm d then .fr else rtG g) d)
   |_=>.no
  |e=>evE Κ Φ e ρ>>=fun x=>.ok (.rt (rtG x.1) x.2)
 |.retN,_=>.ok (.rt .fr .none)
 |.ifS c a b,ρ=>evT Κ Φ c ρ>>=fun k=>if k then evS a ρ else evS b ρ
 |.for_ t it b,ρ=>evF Κ Φ it ρ>>=fun w=>forD (fun x ρ1=>z0s t (gJ x w.1,x) ρ1>>=fun ρ2=>evS b ρ2) w.2.1 w.2.2
 |.wh n c b,ρ=>whD (evT Κ Φ c) (evS b) n ρ
 |.brk,ρ=>.ok (.bk ρ)
 |.cnt,ρ=>.ok (.ct ρ)
 |.pop j i,ρ=>match ρ[i]? with
  |some (some (.fr,.list xs))=>(match zg7 xs with
   |some d=>.ok (.nx (((ρ.set i (some (.fr,.list xs.dropLast))).map z0m).set j (some (.al,d))))
   |none=>.no)
  |_=>.no
 |.pap i a r,ρ=>evE Κ Φ a ρ>>=fun x=>match ρ[i]? with
  |some (some (.fr,.list xs))=>(match zg7 xs with
   |some d=>evA Κ Φ r ((ρ.set i (some (.fr,.list xs.dropLast))).map z0m)>>=fun zs=>if imm x.2&&imms (zs.map (·.2))&&decide (xs.length<=LIM)then .ok (.nx ((((ρ.set i (some (.fr,.list xs.dropLast))).map z0m).set i (some (.fr,.list (xs.dropLast++[.tuple (x.2::d::zs.map (·.2))])))).map z0m))else .no
   |none=>.no)
  |_=>.no
 |.dap e a b,ρ=>evE Κ Φ e ρ>>=fun x=>evE Κ Φ a ρ>>=fun y=>dapD x y>>=fun _=>z1n (evS b (ρ.map zkg))
 |.frz j s,ρ=>evS s (ρ.set j (frzS (ρ.getD j none)))
 |.dpp i a b,ρ=>evE Κ Φ a ρ>>=fun y=>match ρ[i]? with
  |some (some (.fr,.list xs))=>if okIn y&&decide (xs.length<LIM)then z1n (evS b ((ρ.set i (some (.fr,.list (xs++[y.2])))).map z0m))else .no
  |some (some (.nu,.list xs))=>if(y.1==.fr||imm y.2)&&z0r (.list xs) xs&&decide (xs.length<LIM)then z1n (evS b ((ρ.map (z2t (.list xs))).set i (some (.nu,.list (xs++[y.2])))))else .no
  |_=>.no
 |.stl s,ρ=>if noOwn ρ then evS s (ρ.map settle)else evS s (ρ.map settleA)
 |.rse _,_=>.no
 |.tr k _ args c i b,ρ=>evA Κ Φ args ρ>>=fun ys=>match Φ[k]? with
  |some m=>(match m (ys.map (·.2))with
   |.ok _=>.ok (.nx ρ)
   |r=>if excOf r=some c then outI i (evS b (ρ.set i none))else .no)
  |none=>.no
 |.alt a b,ρ=>match evS a ρ with
  |.ok o=>.ok o
  |_=>evS b ρ
def evX (Κ:List D)(Φ:List Fn)(_:S)(_:Rho):Option Str:=none
def runD (n:Nat)(s:S)(ds:List D):Res GD:=match evS Κ Φ s (ds.map (fun d=>some (.od,d))++bo (n-ds.length) none)with
 |.ok (.nx _)=>.ok (.fr,.none)
 |.ok (.rt g d)=>.ok (g,d)
 |.ok _=>.no
 |_=>match evX Κ Φ s (ds.map (fun d=>some (.od,d))++bo (n-ds.length) none)with
  |some c=>.exc (.str c)
  |none=>.no
end
end Mi
namespace Mi
open PySem PySem.Spec PyProof.Rows L2
def kD:Key->D
 |.inl i=>.int i
 |.inr x=>.str x
def keyOk:Key->Prop
 |.inl _=>True
 |.inr x=>PyData.strOk x=true
def KL (K:W.Frag)(a:Addr)(xs:List V):Prop:=∃(o:Obj) (its:Array Value) (n:Nat),K.lookup a=some o/\o.cls=.type "list"/\o.dict=none/\o.data=.seq its n/\its.size<=az/\Vals xs its.toList
abbrev Ad:=Option Addr
def FL (K:W.Frag)(H:Hp)(a:Addr)(xs:List V):Prop:=(∃o,H a=some (.frz o (.lst xs)))\/KL K a xs
def nw (H:Hp):Ad->Prop
 |some a=>H a=none
 |none=>False
section
variable (K:W.Frag)(H:Hp)(B:Ad->Prop)
mutual
def Rep:V->af->Prop
 |v,.none=>v=.non
 |v,.bool b=>v=.bl b
 |v,.int i=>v=.int i
 |v,.str x=>v=.str x/\PyData.strOk x=true
 |v,.tuple ds=>∃a vs,v=.ref a/\SqT K H a vs/\Reps vs ds
 |v,.list ds=>∃a vs,v=.ref a/\((H a=some (.lst vs)/\B (some a))\/(FL K H a vs/\B none))/\Reps vs ds
 |v,.dict es=>∃a kvs,v=.ref a/\H a=some (.dK kvs)/\B (some a)/\REs kvs es
def Reps:List V->List af->Prop
 |vs,[]=>vs=[]
 |vs,d::ds=>∃v r,vs=v::r/\Rep v d/\Reps r ds
def REs:List (Key×V)->List (af×af)->Prop
 |kvs,[]=>kvs=[]
 |kvs,(kd,d)::es=>∃k v r,kvs=(k,v)::r/\kd=kD k/\keyOk k/\Rep v d/\REs r es
end
end
def Fix:HO->Prop
 |.tup _=>True
 |.frz _ (.lst _)=>True
 |.frz _ (.tup _)=>True
 |_=>False
section
variable {K:W.Frag}{H H':Hp}{B B':Ad->Prop}
theorem FL.keep {a:Addr}{vs:List V}(hH:∀a o,H a=some o->(B (some a)\/Fix o)->H' a=some o)(r:FL K H a vs):FL K H' a vs:=by
 rcases r with⟨o,r⟩|r
 ·exact .inl ⟨o,hH a _ r (.inr True.intro)⟩
 ·exact .inr r
theorem _root_.L2.SqT.keep {a:Addr}{vs:List V}(hH:∀a o,H a=some o->(B (some a)\/Fix o)->H' a=some o)(r:SqT K H a vs):SqT K H' a vs:=by
 rcases r with(r|⟨o,r⟩)|r
 ·exact .inl (.inl (hH a _ r (.inr True.intro)))
 ·exact .inl (.inr ⟨o,hH a _ r (.inr True.intro)⟩)
 ·exact .inr r
mutual
theorem Rep.keep (hH:∀a o,H a=some o->(B (some a)\/Fix o)->H' a=some o)(hB:∀a,B a->B' a):∀{v:V} (d:af),Rep K H B v d->Rep K H' B' v d
 |v,.none,r=>r
 |v,.bool b,r=>r
 |v,.int i,r=>r
 |v,.str x,r=>r
 |v,.tuple ds,r=>by obtain⟨a,vs,e,h,q⟩:=r;exact⟨a,vs,e,h.keep hH,Reps.keep hH hB ds q⟩
 |v,.list ds,r=>by
  obtain⟨a,vs,e,h,q⟩:=r;refine⟨a,vs,e,?_,Reps.keep hH hB ds q⟩;rcases h with⟨h,b⟩|h
  ·exact .inl ⟨hH a _ h (.inl b),hB _ b⟩
  ·exact .inr ⟨FL.keep hH h.1,hB _ h.2⟩
 |v,.dict es,r=>by obtain⟨a,kvs,e,h,b,q⟩:=r;exact⟨a,kvs,e,hH a _ h (.inl b),hB _ b,REs.keep hH hB es q⟩
theorem Reps.keep (hH:∀a o,H a=some o->(B (some a)\/Fix o)->H' a=some o)(hB:∀a,B a->B' a):∀{vs:List V} (ds:List af),Reps K H B vs ds->Reps K H' B' vs ds
 |vs,[],r=>r
 |vs,d::ds,r=>by obtain⟨v,t,e,h,q⟩:=r;exact⟨v,t,e,Rep.keep hH hB d h,Reps.keep hH hB ds q⟩
theorem REs.keep (hH:∀a o,H a=some o->(B (some a)\/Fix o)->H' a=some o)(hB:∀a,B a->B' a):∀{kvs:List (Key×V)} (es:List (af×af)),REs K H B kvs es->REs K H' B' kvs es
 |kvs,[],r=>r
 |kvs,(kd,d)::es,r=>by obtain⟨k,v,t,e,e2,ok,h,q⟩:=r;exact⟨k,v,t,e,e2,ok,Rep.keep hH hB d h,REs.keep hH hB es q⟩
end
theorem Rep.same {v:V}{d:D}(s:Same H H')(hB:∀a,B a->B' a)(r:Rep K H B v d):Rep K H' B' v d:=Rep.keep (fun a o e _=>s a o e) hB d r
theorem Reps.same {vs:List V}{ds:List D}(s:Same H H')(hB:∀a,B a->B' a)(r:Reps K H B vs ds):Reps K H' B' vs ds:=Reps.keep (fun a o e _=>s a o e) hB ds r
theorem REs.same {vs:List (Key×V)}{ds:Ents}(s:Same H H')(hB:∀a,B a->B' a)(r:REs K H B vs ds):REs K H' B' vs ds:=REs.keep (fun a o e _=>s a o e) hB ds r
theorem Rep.weak {v:V}{d:D}(hB:∀a,B a->B' a)(r:Rep K H B v d):Rep K H B' v d:=r.same (fun _ _ e=>e) hB
theorem Reps.weak {v:List V}{d:List D}(hB:∀a,B a->B' a)(r:Reps K H B v d):Reps K H B' v d:=r.same (fun _ _ e=>e) hB
mutual
theorem Rep.immB:∀{v:V} (d:af),imm d=true->Rep K H B v d->Rep K H B' v d
 |v,.none,_,r=>r
 |v,.bool b,_,r=>r
 |v,.int i,_,r=>r
 |v,.str x,_,r=>r
 |v,.tuple ds,i,r=>by obtain⟨a,vs,e,h,q⟩:=r;exact⟨a,vs,e,h,Reps.immB ds (i) q⟩
 |v,.list ds,i,r=>by cases(show false=true from i)
 |v,.dict es,i,r=>by cases(show false=true from i)
theorem Reps.immB:∀{vs:List V} (ds:List af),imms ds=true->Reps K H B vs ds->Reps K H B' vs ds
 |vs,[],_,r=>r
 |vs,d::ds,i,r=>by have i:=ao.mp (show(imm d&&imms ds)=true from i);obtain⟨v,t,e,h,q⟩:=r;exact⟨v,t,e,Rep.immB d i.1 h,Reps.immB ds i.2 q⟩
end
mutual
theorem Rep.immK (hH:∀a o,H a=some o->Fix o->H' a=some o):∀{v:V} (d:af),imm d=true->Rep K H B v d->Rep K H' B' v d
 |v,.none,_,r=>r
 |v,.bool b,_,r=>r
 |v,.int i,_,r=>r
 |v,.str x,_,r=>r
 |v,.tuple ds,i,r=>by obtain⟨a,vs,e,h,q⟩:=r;exact⟨a,vs,e,h.keep (B:=fun _=>False) (fun a o e f=>hH a o e (f.resolve_left id)),Reps.immK hH ds (i) q⟩
 |v,.list ds,i,r=>by cases(show false=true from i)
 |v,.dict es,i,r=>by cases(show false=true from i)
theorem Reps.immK (hH:∀a o,H a=some o->Fix o->H' a=some o):∀{vs:List V} (ds:List af),imms ds=true->Reps K H B vs ds->Reps K H' B' vs ds
 |vs,[],_,r=>r
 |vs,d::ds,i,r=>by have i:=ao.mp (show(imm d&&imms ds)=true from i);obtain⟨v,t,e,h,q⟩:=r;exact⟨v,t,e,Rep.immK hH d i.1 h,Reps.immK hH ds i.2 q⟩
end
theorem Reps.length:∀{vs:List V} {ds:List D},Reps K H B vs ds->vs.length=ds.length
 |vs,[],r=>by have e:vs=[]:=r;subst e;rfl
 |vs,d::ds,r=>by obtain⟨v,t,e,h,q⟩:=r;subst e;rw[bh,bh,q.length]
theorem Reps.get:∀{vs:List V} {ds:List D} {i:Nat} {d:D},Reps K H B vs ds->ds[i]?=some d->∃v,vs[i]?=some v/\Rep K H B v d
 |vs,[],i,d,r,e=>by simp at e
 |vs,d0::ds,0,d,r,e=>by
  obtain⟨v,t,e1,h,q⟩:=r;subst e1;have:d0=d:=by simpa using e
  subst this;exact⟨v,rfl,h⟩
 |vs,d0::ds,i+1,d,r,e=>by obtain⟨v,t,e1,h,q⟩:=r;subst e1;obtain⟨u,h1,h2⟩:=q.get (i:=i) (d:=d) (by simpa using e);exact⟨u,by simpa using h1,h2⟩
theorem Reps.getV:∀{vs:List V} {ds:List D} {i:Nat} {v:V},Reps K H B vs ds->vs[i]?=some v->∃d,ds[i]?=some d/\Rep K H B v d
 |vs,[],i,v,r,e=>by have e1:vs=[]:=r;subst e1;simp at e
 |vs,d0::ds,0,v,r,e=>by
  obtain⟨u,t,e1,h,q⟩:=r;subst e1;have:u=v:=by simpa using e
  subst this;exact⟨d0,rfl,h⟩
 |vs,d0::ds,i+1,v,r,e=>by obtain⟨u,t,e1,h,q⟩:=r;subst e1;obtain⟨d,h1,h2⟩:=q.getV (i:=i) (v:=v) (by simpa using e);exact⟨d,by simpa using h1,h2⟩
theorem Reps.cons {v:V}{d:D}{vs:List V}{ds:List D}(h:Rep K H B v d)(r:Reps K H B vs ds):Reps K H B (v::vs) (d::ds):=⟨v,vs,rfl,h,r⟩
theorem Reps.append:∀{vs ws:List V} {ds es:List D},Reps K H B vs ds->Reps K H B ws es->Reps K H B (vs++ws) (ds++es)
 |vs,ws,[],es,r,q=>by have e:vs=[]:=r;subst e;exact q
 |vs,ws,d::ds,es,r,q=>by obtain⟨v,t,e,h,p⟩:=r;subst e;exact⟨v,t++ws,rfl,h,p.append q⟩
theorem Reps.take:∀{vs:List V} {ds:List D} (n:Nat),Reps K H B vs ds->Reps K H B (vs.take n) (ds.take n)
 |vs,ds,0,r=>by rw[List.take_zero,List.take_zero];exact rfl
 |vs,[],n+1,r=>by have e:vs=[]:=r;subst e;exact rfl
 |vs,d::ds,n+1,r=>by obtain⟨v,t,e,h,p⟩:=r;subst e;exact⟨v,t.take n,rfl,h,p.take n⟩
theorem Reps.drop:∀{vs:List V} {ds:List D} (n:Nat),Reps K H B vs ds->Reps K H B (vs.drop n) (ds.drop n)
 |vs,ds,0,r=>r
 |vs,[],n+1,r=>by have e:vs=[]:=r;subst e;exact rfl
 |vs,d::ds,n+1,r=>by obtain⟨v,t,e,h,p⟩:=r;subst e;exact p.drop n
theorem Reps.set {v:V}{d:D}(h:Rep K H B v d):∀{vs:List V} {ds:List D} (n:Nat),Reps K H B vs ds->Reps K H B (vs.set n v) (ds.set n d)
 |vs,[],n,r=>by have e:vs=[]:=r;subst e;exact rfl
 |vs,d::ds,0,r=>by obtain⟨u,t,e,_,p⟩:=r;subst e;exact⟨_,_,rfl,h,p⟩
 |vs,d::ds,n+1,r=>by obtain⟨u,t,e,h0,p⟩:=r;subst e;exact⟨_,_,rfl,h0,p.set h n⟩
mutual
theorem Rep.there:∀{v:V} (d:af),Rep K H B v d->Rep K H (fun a=>B a/\¬nw H a) v d
 |v,.none,r=>r
 |v,.bool b,r=>r
 |v,.int i,r=>r
 |v,.str x,r=>r
 |v,.tuple ds,r=>by obtain⟨a,vs,e,h,q⟩:=r;exact⟨a,vs,e,h,Reps.there ds q⟩
 |v,.list ds,r=>by
  obtain⟨a,vs,e,h,q⟩:=r;refine⟨a,vs,e,?_,Reps.there ds q⟩;rcases h with⟨h,b⟩|h
  ·refine .inl ⟨h,b,fun z=>?_⟩;have z':H a=none:=z;rw[h]at z';cases z'
  ·exact .inr ⟨h.1,h.2,fun z=>z⟩
 |v,.dict es,r=>by obtain⟨a,kvs,e,h,b,q⟩:=r;exact⟨a,kvs,e,h,⟨b,fun z=>by have z':H a=none:=z;rw[h]at z';cases z'⟩,REs.there es q⟩
theorem Reps.there:∀{vs:List V} (ds:List af),Reps K H B vs ds->Reps K H (fun a=>B a/\¬nw H a) vs ds
 |vs,[],r=>r
 |vs,d::ds,r=>by obtain⟨v,t,e,h,q⟩:=r;exact⟨v,t,e,Rep.there d h,Reps.there ds q⟩
theorem REs.there:∀{kvs:List (Key×V)} (es:List (af×af)),REs K H B kvs es->REs K H (fun a=>B a/\¬nw H a) kvs es
 |kvs,[],r=>r
 |kvs,(kd,d)::es,r=>by obtain⟨k,v,t,e,e2,ok,h,q⟩:=r;exact⟨k,v,t,e,e2,ok,Rep.there d h,REs.there es q⟩
end
end
structure Fm where
 H0:Hp
 V:Addr->Prop
 O:Addr->Option Nat
 z:Prop
def Bin (F:Fm):Ad->Prop
 |some a=>F.O a=none/\F.H0 a=none/\F.V a
 |none=>False
def visA (F:Fm):Ad->Prop
 |some a=>F.V a
 |none=>F.z
def oldA (F:Fm):Ad->Prop
 |some a=>F.H0 a≠none/\F.V a
 |none=>F.z
def Slot (K:W.Frag)(F:Fm)(H:Hp)(i:Nat):G->V->D->Prop
 |.fr,v,d=>∃p,v=.ref p/\F.O p=some i/\((∃vs ds,d=.list ds/\H p=some (.lst vs)/\Reps K H (Bin F) vs ds)\/(∃kvs es,d=.dict es/\H p=some (.dK kvs)/\REs K H (Bin F) kvs es))
 |.od,v,d=>Rep K H (oldA F) v d
 |.al,v,d=>Rep K H (visA F) v d
 |.nu,v,d=>Rep K H (Bin F) v d
structure StOk (K:W.Frag)(F:Fm)(H:Hp)(σ:L2.St)(ρ:Rho):Prop where
 ext:Same F.H0 H
 vis:∀a,H a=none->F.V a
 own:∀a i,F.O a=some i->F.H0 a=none/\F.V a/\((∃xs,H a=some (.lst xs))\/∃kvs,H a=some (.dK kvs))
 len:σ.length=ρ.length
 sl:∀i g d,ρ[i]?=some (some (g,d))->∃v,σ[i]?=some (some v)/\Slot K F H i g v d
def BG (F:Fm)(H:Hp):G->Ad->Prop
 |.fr=>nw H
 |.od=>oldA F
 |.al=>visA F
 |.nu=>fun a=>nw H a\/Bin F a
section
variable {K:W.Frag}{F:Fm}{H H':Hp}{σ:L2.St}{ρ:Rho}
theorem Slot.same {i:Nat}{g:G}{v:V}{d:D}(s:Same H H')(h:Slot K F H i g v d):Slot K F H' i g v d:=by
 cases g with
 |fr=>
  obtain⟨p,e,o,h⟩:=h;refine⟨p,e,o,?_⟩;rcases h with⟨vs,ds,e1,e2,r⟩|⟨vs,ds,e1,e2,r⟩
  ·exact .inl ⟨vs,ds,e1,s _ _ e2,r.same s fun _ b=>b⟩
  ·exact .inr ⟨vs,ds,e1,s _ _ e2,r.same s fun _ b=>b⟩
 |od=>exact Rep.same s (fun _ b=>b) h
 |al=>exact Rep.same s (fun _ b=>b) h
 |nu=>exact Rep.same s (fun _ b=>b) h
theorem _root_.L2.Same.none {a:Addr}(s:Same H H')(h:H' a=none):H a=none:=by
 cases e:H a with
 |none=>rfl
 |some o=>rw[s a o e]at h;cases h
theorem StOk.same (s:Same H H')(h:StOk K F H σ ρ):StOk K F H' σ ρ where
 ext:=fun a o e=>s a o (h.ext a o e)
 vis:=fun a e=>h.vis a (s.none e)
 own:=fun a i e=>by
  obtain⟨h1,h3,h2⟩:=h.own a i e;refine⟨h1,h3,?_⟩;rcases h2 with⟨xs,h2⟩|⟨xs,h2⟩
  ·exact .inl ⟨xs,s _ _ h2⟩
  ·exact .inr ⟨xs,s _ _ h2⟩
 len:=h.len
 sl:=fun i g d e=>by obtain⟨v,h1,h2⟩:=h.sl i g d e;exact⟨v,h1,h2.same s⟩
theorem nw.back {a:Ad}(s:Same H H')(h:nw H' a):nw H a:=by
 cases a with
 |none=>exact h
 |some a=>exact s.none h
theorem nw.vis {a:Ad}(hv:∀a,H a=none->F.V a)(h:nw H a):visA F a:=by
 cases a with
 |none=>exact h.elim
 |some a=>exact hv a h
theorem oldA.vis {a:Ad}(h:oldA F a):visA F a:=by
 cases a with
 |none=>exact h
 |some a=>exact h.2
theorem Bin.vis {a:Ad}(h:Bin F a):visA F a:=by
 cases a with
 |none=>exact h.elim
 |some a=>exact h.2.2
theorem BG.back {g:G}{a:Ad}(s:Same H H')(h:BG F H' g a):BG F H g a:=by
 cases g with
 |fr=>exact nw.back s h
 |od=>exact h
 |al=>exact h
 |nu=>exact h.elim (fun h=>.inl (nw.back s h)) .inr
theorem BG.vis {g:G}{a:Ad}(hv:∀a,H a=none->F.V a)(h:BG F H g a):visA F a:=by
 cases g with
 |fr=>exact nw.vis hv h
 |od=>exact oldA.vis h
 |al=>exact h
 |nu=>exact h.elim (nw.vis hv) Bin.vis
theorem Slot.rep {i:Nat}{g:G}{v:V}{d:D}(so:∀a i,F.O a=some i->F.V a)(h:Slot K F H i g v d):Rep K H (visA F) v d:=by
 cases g with
 |fr=>
  obtain⟨p,e,o,h⟩:=h;rcases h with⟨vs,ds,rfl,e2,r⟩|⟨vs,ds,rfl,e2,r⟩
  ·exact⟨p,vs,e,.inl ⟨e2,so _ _ o⟩,r.weak fun _ b=>b.vis⟩
  ·exact⟨p,vs,e,e2,so _ _ o,REs.same (fun _ _ e=>e) (fun _ b=>b.vis) r⟩
 |od=>exact Rep.weak (fun _ b=>b.vis) h
 |al=>exact h
 |nu=>exact Rep.weak (fun _ b=>Bin.vis b) h
theorem StOk.ownV (h:StOk K F H σ ρ):∀a i,F.O a=some i->F.V a:=fun a i e=>(h.own a i e).2.1
theorem StOk.rd (h:StOk K F H σ ρ){i:Nat}{x:GD}(e:rdS ρ[i]?=.ok x):∃v,σ[i]?=some (some v)/\Rep K H (BG F H x.1) v x.2:=by
 cases e1:ρ[i]? with
 |none=>rw[e1]at e;cases e
 |some o=>
  cases o with
  |none=>rw[e1]at e;cases e
  |some gd=>
   obtain⟨g,d⟩:=gd;rw[e1]at e;obtain⟨v,h1,h2⟩:=h.sl i g d e1;have e':x=(if imm d then .fr else rdG g,d):=(Res.ok.inj e).symm;subst e';refine⟨v,h1,?_⟩;by_cases hi:imm d=true
   ·show Rep K H (BG F H (if imm d=true then _ else _)) v d;rw[if_pos hi];exact Rep.immB d hi (h2.rep h.ownV)
   ·show Rep K H (BG F H (if imm d=true then _ else _)) v d;rw[if_neg hi];cases g with
    |fr=>exact h2.rep h.ownV
    |od=>exact h2
    |al=>exact h2
    |nu=>exact Rep.weak (fun _ b=>.inr b) h2
end
structure Gm where
 N:List Str
 sc:Scope
 blk:Bool:=false
 free:List Str
 fns:List (Str×Nat)
 cst:List Str
 cm:Bool:=true
 xc:Option (Str×Str):=none
 sub:List (Str×Str×Bool):=[]
 rs:List Str:=[]
 hnd:List (Str×Str):=[]
section
variable (Γ:Gm)
def visB (i:Nat)(x:Str):Bool:=(Γ.N[i]?==some x)&&(Γ.sc.names.lookup x==some .local||Γ.sc.names.lookup x==some .cell||Γ.sc.names.lookup x==some .free)&& !(x==("__debug__":Str))&& !(x==("__classdict__":Str))
def glB (x:Str):Bool:=(Γ.sc.names.lookup x==some .globalImplicit)&& !(x==("__debug__":Str))
def bltB (x:Str):Bool:=glB Γ x&&Γ.free.contains x&& !(x==("__name__":Str))
def locB (i:Nat)(x:Str):Bool:=(Γ.N[i]?==some x)&&(Γ.sc.names.lookup x==some .local||(!Γ.blk&&Γ.sc.names.lookup x==some .cell))
end
def tgIx:Tg->List Nat
 |.nm i=>[i]
 |.tp is=>is
def zel (scope sc:Scope):Scope:={scope with names:=scope.names.map fun(n,k)=>if(k==.free&&sc.kind==.function&&sc.names.lookup n==some .cell)then(n,.cell)else(n,k)}
def plainT:Expr->Bool
 |.UnaryOp .Not _ _=>false
 |.BoolOp _ _ _=>false
 |.IfExp _ _ _ _=>false
 |.Compare _ _ _ _=>false
 |_=>true
def zc1:Expr->Bool
 |.Compare _ _ _ _=>true
 |_=>false
def z5a:Expr->Bool
 |.Slice _ _ _ _=>false
 |_=>true
def z4w:Expr->Bool
 |.Call (.Name _ _) [] [] _=>false
 |_=>true
def zb4:Expr->Bool
 |.Set _ _ _=>false
 |_=>true
def isTup:Expr->Bool
 |.Tuple _ _ _=>true
 |_=>false
def vNm:Expr->Option Str
 |.Name x _=>some x
 |_=>none
def vCst:Expr->Option Const
 |.Constant v _ _=>some v
 |_=>none
def vBin:Expr->Option (Expr×gh×Expr)
 |.BinOp l o r _=>some (l,o,r)
 |_=>none
def vUn:Expr->Option (UnaryOp×Expr)
 |.UnaryOp o x _=>some (o,x)
 |_=>none
def vCm:Expr->Option (Expr×List CmpOp×List Expr)
 |.Compare l o r _=>some (l,o,r)
 |_=>none
def vBo:Expr->Option (BoolOp×List Expr×Pos)
 |.BoolOp o xs p=>some (o,xs,p)
 |_=>none
def vTup:Expr->Option (List Expr)
 |.Tuple es _ _=>some es
 |_=>none
def vLst:Expr->Option (List Expr)
 |.List es _=>some es
 |_=>none
def vSub:Expr->Option (Expr×Expr)
 |.Subscript x i _=>some (x,i)
 |_=>none
def vSli:Expr->Option (Option Expr×Option Expr×Option Expr)
 |.Slice l h s _=>some (l,h,s)
 |_=>none
def vCa:Expr->Option (Expr×List Expr×List j4×Pos)
 |.Call f es k p=>some (f,es,k,p)
 |_=>none
def vAt:Expr->Option (Expr×Str×Pos)
 |.Attribute x n p=>some (x,n,p)
 |_=>none
def vLC:Expr->Option (Expr×List gu×Scope)
 |.ListComp el gs s _=>some (el,gs,s)
 |_=>none
def vOne {α:Type}:List α->Option α
 | [x]=>some x
 |_=>none
def vTwo {α:Type}:List α->Option (α×α)
 | [x,y]=>some (x,y)
 |_=>none
def z3l (e:Expr):Option (Str×List Expr):=(vCa e).bind fun v=>if v.2.2.1.isEmpty then(vNm v.1).map fun x=>(x,v.2.1)else none
def vMt (e:Expr):Option (Expr×Str×List Expr×Bool):=(vCa e).bind fun v=>if v.2.2.1.isEmpty then(vAt v.1).map fun u=>(u.1,u.2.1,v.2.1,u.2.2.endLine==v.2.2.2.line)else none
def z8v (f g:Expr->Bool)(o:BoolOp)(p:Pos):List Expr->Bool
 |x::y::r=>f x&&(if r.isEmpty then g y else g (.BoolOp o (y::r) p))
 |_=>false
def ifsB (n:Bool)(f:Expr->Bool):List Expr->Bool
 | []=>n
 |t::r=>r.isEmpty&&f t
def isNl:C->Bool
 |.nil=>true
 |_=>false
def hd1 (f:Str->Bool)(e:Expr):Bool:=(vNm e).any f
def ze3 (Γ:Gm):List Nat->List Expr->Bool
 | [],es=>es.isEmpty
 |i::is,es=>match es with|e::es=>hd1 (locB Γ i) e&&ze3 Γ is es| []=>false
def zaj (Γ:Gm):Tg->Expr->Bool
 |.nm i,e=>hd1 (locB Γ i) e
 |.tp is,e=>Γ.cm&&(vTup e).any (ze3 Γ is)
def zdd:gh->Bool
 |.Add|.Sub|.Mult|.FloorDiv|.Mod|.Pow=>true
 |_=>false
def z7f:CmpOp->Bool
 |.Is|.IsNot=>false
 |_=>true
def okTy (T:String):Bool:=tysB.contains T
def tyB (Γ:Gm)(T:String)(t:Expr):Bool:=hd1 (fun x=>(x==Str.ofString T)&&bltB Γ x&&okTy T) t
def aggs:List String:=["list","tuple","sum","all","any","dict"]
def tgN:Tg->Bool
 |.nm _=>true
 |.tp _=>false
def isNm:Expr->Bool
 |.Name _ _=>true
 |_=>false
def zd9:C->Expr->Bool
 |.enum _,e=>isTup e
 |.zip _ _,e=>isTup e||isNm e
 |_,_=>true
mutual
def chkE (Γ:Gm):C->Expr->Bool
 |.var i,e=>hd1 (visB Γ i) e
 |.non,_=>false
 |.bl b,e=>decide (vCst e=some (.bool b))
 |.int i,e=>decide (vCst e=some (.int i))
 |.str x,e=>decide (vCst e=some (.str x))&&PyData.strOk x
 |.glob _ _,_=>false
 |.bin op a b,e=>(vBin e).any fun v=>decide (op=v.2.1)&&zdd op&&chkE Γ a v.1&&chkE Γ b v.2.2
 |.neg a,e=>(vUn e).any fun v=>decide (v.1=.USub)&&chkE Γ a v.2
 |.cmp op a b,e=>(vCm e).any fun v=>decide (v.2.1=[op])&&(vOne v.2.2).any fun r=>z7f op&& !(gr op r)&&chkE Γ a v.1&&chkE Γ b r
 |.chain _ _ _ _ _,_=>false
 |.isN _ _,_=>false
 |.isB _ _ _,_=>false
 |.and a b,e=>(vBo e).any fun v=>decide (v.1=.And)&&z8v (fun x=>chkE Γ a x) (fun x=>chkE Γ b x) .And v.2.2 v.2.1
 |.or a b,e=>(vBo e).any fun v=>decide (v.1=.Or)&&z8v (fun x=>chkE Γ a x) (fun x=>chkE Γ b x) .Or v.2.2 v.2.1
 |.not a,e=>(vUn e).any fun v=>decide (v.1=.Not)&&chkE Γ a v.2
 |.ife _ _ _,_=>false
 |.tup xs,e=>(vTup e).any fun es=>decide (es.length<=1000)&&chkA Γ xs es
 |.lst xs,e=>(vLst e).any fun es=>decide (es.length<=1000)&&chkA Γ xs es
 |.rep _ _,_=>false
 |.dnew,_=>false
 |.ix a b,e=>(vSub e).any fun v=>z5a v.2&&chkE Γ a v.1&&chkE Γ b v.2
 |.fs _ _ _,_=>false
 |.sl a lo hi,e=>(vSub e).any fun v=>(vSli v.2).any fun s=>s.2.2.isNone&&chkE Γ a v.1&&chkO Γ lo s.1&&chkO Γ hi s.2.1
 |.call k f args,e=>(z3l e).any fun v=>(Γ.cm&&(v.1==f))&&glB Γ v.1&&(Γ.fns[k]?==some (f,v.2.length))&&chkA Γ args v.2&& !v.2.isEmpty
 |.caln k f args,e=>(z3l e).any fun v=>(Γ.cm&&(v.1==f))&&glB Γ v.1&&(Γ.fns[k]?==some (f,v.2.length))&&chkA Γ args v.2&& !v.2.isEmpty
 |.lset _,_=>false
 |.bi f args,e=>(z3l e).any fun v=>(v.1==Str.ofString f)&&bltB Γ v.1&&((["len","max","min"].contains f)&&(Γ.cm||f=="int"))&&chkA Γ args v.2&& !v.2.isEmpty
 |.agg f a,e=>(z3l e).any fun v=>(v.1==Str.ofString f)&&bltB Γ v.1&&(aggs.contains f&&Γ.cm)&&(vOne v.2).any fun y=>!isStar y&&chkG Γ a y
 |.isT a ts,e=>(z3l e).any fun v=>(v.1==("isinstance":Str))&&bltB Γ v.1&&(vTwo v.2).any fun y=>!isStar y.1&&chkE Γ a y.1&&(vOne ts).any fun T=>tyB Γ T y.2
 |.mt m o args,e=>(vMt e).any fun v=>((v.2.1==Str.ofString m)&& ["get"].contains m&&z4w v.1&&v.2.2.2&&decide (v.2.2.1.length<20))&&chkE Γ o v.1&&chkA Γ args v.2.2.1&& !v.2.2.1.isEmpty
 |.comp nt js N' tg it cond elt,e=>(vLC e).any fun v=>(vOne v.2.1).any fun g=>let Γ':Gm:={Γ with N:=N',sc:=zel v.2.2 Γ.sc,blk:=true,xc:=none}
  ((Γ.cm&&(g.is_async==0))&&(tgIx tg).all (fun i=>decide (i<nt))&&blkB Γ.N Γ.sc v.2.2 N' nt js&&zb4 g.iter&&decide N'.Nodup)&&(zaj Γ' tg g.target&&zd9 it g.target)&&chkW Γ it g.iter&&ifsB (isNl cond) (fun t=>chkT Γ' cond t) g.ifs&&chkE Γ' elt v.1
 |.sortK _,_=>false
 |.lk _,_=>false
 |.rv _,_=>false
 |.d1 _ _,_=>false
 |.upr _,_=>false
 |.sortI _,_=>false
 |.compI _ _ _ _ _ _,_=>false
 |.sl3 _ _ _ _,_=>false
 |.isE _ _,_=>false
 |.dis _ _,_=>false
 |.fst _,_=>false
 |.rng _,_=>false
 |.items _,_=>false
 |.vals _,_=>false
 |.enum _,_=>false
 |.zip _ _,_=>false
 |.tv _,_=>false
 |.nil,_=>false
 |.cons _ _,_=>false
def chkT (Γ:Gm):C->Expr->Bool
 |.and a b,e=>(vBo e).any fun v=>decide (v.1=.And)&&z8v (fun x=>chkT Γ a x) (fun x=>chkT Γ b x) .And v.2.2 v.2.1
 |.or a b,e=>(vBo e).any fun v=>decide (v.1=.Or)&&z8v (fun x=>chkT Γ a x) (fun x=>chkT Γ b x) .Or v.2.2 v.2.1
 |.not a,e=>(vUn e).any fun v=>decide (v.1=.Not)&&chkT Γ a v.2
 |.tv a,e=>(plainT e||zc1 e)&&chkE Γ a e
 |_,_=>false
def chkA (Γ:Gm):C->List Expr->Bool
 |.nil,es=>es.isEmpty
 |.cons a r,es=>match es with|e::es=>!isStar e&&chkE Γ a e&&chkA Γ r es|_=>false
 |_,_=>false
def chkO (Γ:Gm):C->Option Expr->Bool
 |.nil,e=>e.isNone
 |.tv a,e=>e.any fun e=>chkE Γ a e
 |_,_=>false
def chkW (Γ:Gm):C->Expr->Bool
 |.rng args,e=>(z3l e).any fun v=>(v.1==("range":Str))&&bltB Γ v.1&&chkA Γ args v.2&&(!v.2.isEmpty&&decide (v.2.length<=1))
 |.tv a,e=>zb4 e&&chkE Γ a e
 |.enum a,e=>(z3l e).any fun v=>(v.1==("enumerate":Str))&&bltB Γ v.1&&(vOne v.2).any fun y=>!isStar y&&chkE Γ a y
 |.zip a b,e=>(z3l e).any fun v=>(v.1==("zip":Str))&&bltB Γ v.1&&(vTwo v.2).any fun y=>(!isStar y.1&& !isStar y.2)&&chkE Γ a y.1&&chkE Γ b y.2
 |_,_=>false
def chkG (Γ:Gm):C->Expr->Bool
 |.tv a,e=>chkE Γ a e
 |_,_=>false
end
def isCI:C->Bool
 |.compI _ _ _ _ _ _=>true
 |_=>false
def chkF (Γ:Gm)(it:C)(tg ie:Expr):Bool:=zd9 it tg&&chkW Γ it ie
def vAs:Stmt->Option (List Expr×Expr)
 |.Assign t v _=>some (t,v)
 |_=>none
def vEx:Stmt->Option Expr
 |.Expr v _=>some v
 |_=>none
def vRt:Stmt->Option (Option Expr)
 |.Return v _=>some v
 |_=>none
def vIf:Stmt->Option (Expr×List Stmt×List Stmt)
 |.If t A B _=>some (t,A,B)
 |_=>none
def vFo:Stmt->Option (Expr×Expr×List Stmt×List Stmt)
 |.For t i B o _=>some (t,i,B,o)
 |_=>none
mutual
def chk1 (Γ:Gm):S->Stmt->Bool
 |.pass,_=>false
 |.bad,_=>true
 |.asg t e,s=>(vAs s).any fun u=>(vOne u.1).any fun x=>zaj Γ t x&& !isCI e&&(tgN t||(!z4a u.2&& !isTup u.2))&&chkE Γ e u.2
 |.setIx _ _ _,_=>false
 |.mut m i args,s=>(vEx s).any fun c=>(vMt c).any fun v=>(hd1 (visB Γ i) v.1&&(v.2.1==Str.ofString m)&& ["append","insert","pop"].contains m&&v.2.2.2&&decide (v.2.2.1.length<20))&& !v.2.2.1.isEmpty&&chkA Γ args v.2.2.1
 |.drop _,_=>false
 |.ret e,s=>(vRt s).any fun o=>o.any fun v=>chkE Γ e v
 |.retN,_=>false
 |.ifS c a b,s=>(vIf s).any fun v=>chkT Γ c v.1&&chkL Γ a v.2.1&&chkL Γ b v.2.2
 |.for_ t it b,s=>Γ.cm&&(vFo s).any fun v=>zaj Γ t v.1&&chkF Γ it v.1 v.2.1&&chkL Γ b v.2.2.1&&v.2.2.2.isEmpty
 |.wh _ _ _,_=>false
 |.brk,_=>false
 |.cnt,_=>false
 |.pop _ _,_=>false
 |.pap _ _ _,_=>false
 |.stl _,_=>false
 |.frz _ s,st=>chk1 Γ s st
 |.rse _,_=>false
 |.tr _ _ _ _ _ _,_=>false
 |.alt _ _,_=>false
 |.nil,_=>false
 |.seq _ _,_=>false
 |.dap _ _ _,_=>false
 |.dpp _ _ _,_=>false
def chkL (Γ:Gm):S->List Stmt->Bool
 |.nil,l=>l.isEmpty
 |.seq a b,l=>match l with|s::r=>chk1 Γ a s&&chkL Γ b r|_=>false
 |.dpp i a b,l=>match l with|s::r=>((vEx s).any fun c=>(vMt c).any fun v=>(hd1 (visB Γ i) v.1&&(v.2.1==("append":Str))&&v.2.2.2)&&(vOne v.2.2.1).any fun y=>!isStar y&&chkE Γ a y)&&chkL Γ b r|_=>false
 |_,_=>false
end
def tD (K:W.Frag)(f:Rho->Res GD):TE:=fun σ H Q=>∃ρ F x,StOk K F H σ ρ/\f ρ=.ok x/\∀v H',Same H H'->Rep K H' (BG F H x.1) v x.2->Q v H'
def tDT (K:W.Frag)(f:Rho->Res Bool):TT:=fun σ H Q=>∃ρ F b,StOk K F H σ ρ/\f ρ=.ok b/\∀H',Same H H'->Q b H'
def tDO (K:W.Frag)(f:Rho->Res (Option Int)):TO:=fun σ H Q=>∃ρ F b,StOk K F H σ ρ/\f ρ=.ok b/\∀H',Same H H'->Q b H'
def RGs (K:W.Frag)(F:Fm)(H H':Hp):List V->List GD->Prop
 |vs,[]=>vs=[]
 |vs,x::xs=>∃v r,vs=v::r/\Rep K H' (BG F H x.1) v x.2/\RGs K F H H' r xs
def tDA (K:W.Frag)(f:Rho->Res (List GD)):TA:=fun σ H Q=>∃ρ F xs,StOk K F H σ ρ/\f ρ=.ok xs/\∀vs H',Same H H'->RGs K F H H' vs xs->Q vs H'
theorem _root_.L2.PE.imp {X:Cx}{e:Expr}{t t':TE}(h:PE X e t)(i:∀σ H Q,t' σ H Q->t σ H Q):PE X e t':=fun pins s σ H Q I q=>h pins s σ H Q I (i σ H Q q)
theorem _root_.L2.PT.imp {X:Cx}{e:Expr}{t t':TT}(h:PT X e t)(i:∀σ H Q,t' σ H Q->t σ H Q):PT X e t':=fun pins s σ H Q I q=>h pins s σ H Q I (i σ H Q q)
theorem _root_.L2.PW.imp {X:Cx}{e:Expr}{t t':TT}(h:PW X e t)(i:∀σ H Q,t' σ H Q->t σ H Q):PW X e t':=fun wh pins s σ H Q I q=>h wh pins s σ H Q I (i σ H Q q)
theorem _root_.L2.PA.imp {X:Cx}{e:List Expr}{t t':TA}(h:PA X e t)(i:∀σ H Q,t' σ H Q->t σ H Q):PA X e t':=fun pos pins s σ H Q I q=>h pos pins s σ H Q I (i σ H Q q)
theorem _root_.L2.PO.imp {X:Cx}{e:Option Expr}{t t':TO}(h:PO X e t)(i:∀σ H Q,t' σ H Q->t σ H Q):PO X e t':=fun pins s σ H Q I q=>h pins s σ H Q I (i σ H Q q)
theorem _root_.L2.PS.imp {X:Cx}{e:Stmt}{t t':TS}(h:PS X e t)(i:∀D σ H,t' D σ H->t D σ H):PS X e t':=fun pins s σ H D I q=>h pins s σ H D I (i D σ H q)
theorem _root_.L2.PSs.imp {X:Cx}{e:List Stmt}{t t':TS}(h:PSs X e t)(i:∀D σ H,t' D σ H->t D σ H):PSs X e t':=fun pins s σ H D I q=>h pins s σ H D I (i D σ H q)
section
variable {K:W.Frag}{F:Fm}{H H1 H':Hp}
theorem RGs.same:∀{vs:List V} {xs:List GD},Same H1 H'->Same H H1->RGs K F H H1 vs xs->RGs K F H H' vs xs
 |vs,[],_,_,r=>r
 |vs,x::xs,s,s0,r=>by obtain⟨v,t,e,h,q⟩:=r;exact⟨v,t,e,h.same s fun _ b=>b,q.same s s0⟩
theorem RGs.back:∀{vs:List V} {xs:List GD},Same H H1->RGs K F H1 H' vs xs->RGs K F H H' vs xs
 |vs,[],_,r=>r
 |vs,x::xs,s,r=>by obtain⟨v,t,e,h,q⟩:=r;exact⟨v,t,e,h.weak fun _ b=>b.back s,q.back s⟩
theorem RGs.reps {B:Ad->Prop}:∀{vs:List V} {xs:List GD},(∀x∈xs,∀a,BG F H x.1 a->B a)->RGs K F H H' vs xs->Reps K H' B vs (xs.map (·.2))
 |vs,[],_,r=>r
 |vs,x::xs,hB,r=>by obtain⟨v,t,e,h,q⟩:=r;exact⟨v,t,e,h.weak (hB x ar),q.reps fun y hy=>hB y (bg _ hy)⟩
theorem RGs.repsV {vs:List V}{xs:List GD}(hv:∀a,H a=none->F.V a)(r:RGs K F H H' vs xs):Reps K H' (visA F) vs (xs.map (·.2)):=r.reps fun _ _ _ h=>h.vis hv
theorem z45 {xs:List GD}{x:GD}{a:Ad}(hv:∀a,H a=none->F.V a)(hx:x∈xs)(h:BG F H x.1 a):BG F H (gAll xs) a:=by
 unfold gAll;by_cases e:(xs.all fun x=>x.1==.fr)=true
 ·rw[if_pos e];have:=(bp.mp e) x hx;have e1:x.1=.fr:=by simpa using this
  rw[e1]at h;exact h
 ·rw[if_neg e];split
  ·rename_i e2;have:=(bp.mp e2) x hx;rcases db.mp this with e1|e1
   ·rw[eq_of_beq e1]at h;exact .inl h
   ·rw[eq_of_beq e1]at h;exact h
  ·exact h.vis hv
theorem z38 {xs:List GD}{a:Ad}(hv:∀a,H a=none->F.V a)(s:Same H H1)(h:nw H1 a):BG F H (gAll xs) a:=by
 unfold gAll;by_cases e:(xs.all fun x=>x.1==.fr)=true
 ·rw[if_pos e];exact nw.back s h
 ·rw[if_neg e];split
  ·exact .inl (nw.back s h)
  ·exact(nw.back s h).vis hv
theorem z1l {B:Ad->Prop}{v:V}{d:D}{g:G}(r:Rep K H' B v d)(h:∀a,B a->BG F H g a):Rep K H' (BG F H (gJ d g)) v d:=by
 unfold gJ;by_cases e:imm d=true
 ·rw[if_pos e];exact Rep.immB d e r
 ·rw[if_neg e];exact r.weak h
end
def rOp (K:W.Frag)(m:D->D->Res D):R2:=fun x y H Q=>∃Bx By dx dy d,Rep K H Bx x dx/\Rep K H By y dy/\m dx dy=.ok d/\∀w H',Same H H'->Rep K H' (fun a=>nw H a\/Bx a\/By a) w d->Q w H'
def OpD (X:Cx)(f:Value->Value->Sem Value)(m:D->D->Res D):Prop:=OpR X f (rOp X.K m)
def rOpN (K:W.Frag)(m:D->D->Res D):R2:=fun x y H Q=>∃Bx By dx dy d,Rep K H Bx x dx/\Rep K H By y dy/\m dx dy=.ok d/\∀w H',Same H H'->Rep K H' (fun a=>nw H a\/Bx a\/By a) w d->(∀ds,d=.list ds->imms ds=true->Rep K H' (nw H) w d)->Q w H'
def OpN (X:Cx)(f:Value->Value->Sem Value)(m:D->D->Res D):Prop:=OpR X f (rOpN X.K m)
theorem _root_.L2.OpR.imp {X:Cx}{f:Value->Value->Sem Value}{r r':R2}(h:OpR X f r)(i:∀x y H Q,r' x y H Q->r x y H Q):OpR X f r':=fun pins s σ H x y v u Q I rx ry q=>h pins s σ H x y v u Q I rx ry (i x y H Q q)
def zau (K:W.Frag)(m:List D->Res D):List V->Hp->VK->Prop:=fun xs H Q=>∃B ds d,Reps K H B xs ds/\m ds=.ok d/\∀w H',Same H H'->Rep K H' (fun a=>nw H a\/B a) w d->Q w H'
theorem _root_.L2.CallR.imp {X:Cx}{f:Value}{r r':List V->Hp->VK->Prop}(h:CallR X f r)(i:∀x H Q,r' x H Q->r x H Q):CallR X f r':=fun pins s σ H x v Q I rx q=>h pins s σ H x v Q I rx (i x H Q q)
theorem z4i {x y:Str}(hx:PyData.strOk x=true)(hy:PyData.strOk y=true):PyData.strOk (x++y)=true:=by
 unfold PyData.strOk at *
 show(x.cps++y.cps).all _=true;rw[Array.all_append,hx,hy];rfl
theorem z1t {x:Str}:PyData.strOk x=true↔∀c∈x.cps.toList,c<0x110000:=by unfold PyData.strOk;rw[<-Array.all_toList];rw[bp];exact⟨fun h c hc=>by simpa using h c hc,fun h c hc=>by simpa using h c hc⟩
theorem z4k {c:Nat}{x:Str}(hx:PyData.strOk x=true)(hc:c∈x.cps.toList):PyData.strOk ⟨#[c]⟩=true:=
 z1t.mpr fun d hd=>by
  have e:d=c:=by simpa using hd
  rw[e];exact z1t.mp hx c hc
theorem z0e {n:Nat}(h:n<=LIM):n<=az:=b8 h (by rw[f9];unfold LIM;decide)
theorem _root_.L2.SqT.rel {K:W.Frag}{H H':Hp}{a:Addr}{xs:List V}(s:Same H H')(h:SqT K H a xs):SqT K H' a xs:=h.keep (B:=fun _=>True) fun a o e _=>s a o e
section
variable {X:Cx}
def zjj (K:W.Frag):R2:=fun x y H Q=>∃l b xs zs,x=.ref l/\y=.ref b/\SqL K H l xs/\SqL K H b zs/\xs.length+zs.length<=az/\∀p,H p=none->Q (.ref p) (upd H p (.lst (xs++zs)))
theorem zdo:OpR X (eu .Add) (zjj X.K):=by
 intro pins s σ H x y v u Q I rx ry h;obtain⟨l,b,xs,zs,rfl,rfl,hH,hB,hz,q⟩:=h;cases rx;cases ry;obtain⟨its,r1,p1,_⟩:=I.list hH;obtain⟨its2,r2,p2,_⟩:=I.list hB;obtain⟨⟨cls,dd,data,sl⟩,n,ho,hc,_,hd⟩:=p1;obtain⟨⟨cls2,dd2,data2,sl2⟩,n2,ho2,hc2,_,hd2⟩:=p2;simp only at hc hd hc2 hd2;subst hc hd hc2 hd2;have hsz:its.toArray.size+its2.toArray.size<=az:=by rw[ai,ai,<-r1.length,<-r2.length];exact hz
 refine j5 ⟨_,ho,rfl⟩ ⟨_,ho2,rfl⟩ noFill_list_add seq_list_add PySem.F.slot_list_add PySem.F.entry_list_add (PySem.F.args_list_add_2 _ _) (list_addW l b its.toArray its2.toArray n n2 dd dd2 sl sl2 hsz) ⟨ho,ho2,?_⟩;have ea:its.toArray++its2.toArray=(its++its2).toArray:=by simp
 rw[ea];exact⟨.ref _,_,I.lnew (t':=s.toks) (r1.append r2) (by rw[a0];exact hz),rfl,q _ I.fresh⟩
def zge (K:W.Frag):R2:=fun x y H Q=>∃a b ys,x=.ref a/\y=.ref b/\SqT K H a []/\SqT K H b ys/\Q (.ref b) H
theorem z9s:OpR X (eu .Add) (zge X.K):=by intro pins s σ H x y v u Q I rx ry h;obtain⟨l,b,zs,rfl,rfl,hH,hB,q⟩:=h;cases rx;cases ry;obtain⟨its,r1,p1,_⟩:=I.tuple hH;obtain⟨its2,r2,p2,_⟩:=I.tuple hB;cases r1;obtain⟨⟨cls,dd,data,sl⟩,ho,hc,n,hd⟩:=p1;obtain⟨⟨cls2,dd2,data2,sl2⟩,ho2,hc2,n2,hd2⟩:=p2;simp only at hc hd hc2 hd2;subst hc hd hc2 hd2;refine j5 ⟨_,ho,rfl⟩ ⟨_,ho2,rfl⟩ jt ln PySem.F.slot_tuple_add PySem.F.entry_tuple_add (PySem.F.args_tuple_add_2 _ _) (tuple_addW0 l b _ its2.toArray n n2 dd dd2 sl sl2 (by simp)) ⟨ho,ho2,?_⟩;exact⟨.ref b,H,I,rfl,q⟩
variable {K:W.Frag}{H:Hp}{B:Ad->Prop}{v:V}
theorem z17 {ds:List D}(r:Rep K H B v (.list ds)):∃a vs,v=.ref a/\SqL K H a vs/\Reps K H B vs ds:=by
 obtain⟨a,vs,e,h,q⟩:=r;refine⟨a,vs,e,?_,q⟩;rcases h with⟨h,_⟩|⟨h|h,_⟩
 ·exact .inl (.inl h)
 ·exact .inl (.inr h)
 ·exact .inr h
theorem z1f {p:Addr}{vs:List V}{ds:List D}{B':Ad->Prop}(hp:H p=none)(r:Reps K H B vs ds)(hB:∀a,B a->B' a)(hb:B' (some p)):Rep K (upd H p (.lst vs)) B' (.ref p) (.list ds):=⟨p,vs,rfl,.inl ⟨z08,hb⟩,r.same (Same.upd hp) hB⟩
theorem z28 {p:Addr}{vs:List V}{ds:List D}{B':Ad->Prop}(hp:H p=none)(r:Reps K H B vs ds)(hB:∀a,B a->B' a):Rep K (upd H p (.tup vs)) B' (.ref p) (.tuple ds):=⟨p,vs,rfl,.inl (.inl z08),r.same (Same.upd hp) hB⟩
theorem z0n {α:Type}{a:α}(h:(Res.no:Res α)=.ok a):False:=by cases h
theorem zm1:OpN X (eu .Add) (binD .Add):=by
 refine OpR.imp ((zlb.or zdo).or z9s) fun x y H Q h=>?_;obtain⟨Bx,By,dx,dy,d,rx,ry,e,q⟩:=h;cases dx<;>try (exact(z0n e).elim)
 all_goals cases dy<;>try (exact(z0n e).elim)
 case int.int i j=>cases e;have e1:x=.int i:=rx;have e2:y=.int j:=ry;subst e1 e2;exact .inl (.inl (zhs (q _ H (Same.refl H) rfl fun ds z=>by cases z)))
 case str.str i j=>
  have e1:x=.str i:=rx.1;have e2:y=.str j:=ry.1;subst e1 e2;have e:(if i.length+j.length<=LIM then Res.ok (PyData.str (i++j))else Res.no)=Res.ok d:=e;split at e
  ·rename_i hl;cases e;exact .inl (.inl (zg8 (z0e hl) (q _ H (Same.refl H) ⟨rfl,z4i rx.2 ry.2⟩ fun ds z=>by cases z)))
  ·cases e
 case list.list xs ys=>
  have e:(if xs.length+ys.length<=LIM then Res.ok (PyData.list (xs++ys))else Res.no)=Res.ok d:=e;split at e
  ·rename_i hl;cases e;obtain⟨a,vs,rfl,h1,q1⟩:=z17 rx;obtain⟨b,ws,rfl,h2,q2⟩:=z17 ry;refine .inl (.inr ⟨a,b,vs,ws,rfl,rfl,h1,h2,z0e (by rw[q1.length,q2.length];exact hl),fun p hp=>q _ _ (Same.upd hp) ?_ ?_⟩)
   ·exact z1f hp (Reps.append (q1.weak (B':=fun a=>nw H a\/Bx a\/By a) fun _ z=>.inr (.inl z)) (q2.weak fun _ z=>.inr (.inr z))) (fun _ z=>z) (.inl hp)
   ·intro ds z hi;cases z;exact z1f hp (Reps.immB (B':=nw H) _ hi (Reps.append (q1.weak (B':=fun a=>nw H a\/Bx a\/By a) fun _ z=>.inr (.inl z)) (q2.weak fun _ z=>.inr (.inr z)))) (fun _ z=>z) hp
  ·cases e
 case tuple.tuple xs ys=>
  have e:(if xs.length+ys.length<=LIM then Res.ok (PyData.tuple (xs++ys))else Res.no)=Res.ok d:=e;split at e
  ·rename_i hl;cases e;obtain⟨a,vs,rfl,h1,q1⟩:=rx;obtain⟨b,ws,rfl,h2,q2⟩:=ry;cases vs with
   |nil=>
    have:xs=[]:=by have:=q1.length;exact f8.mp this.symm
    subst this;exact .inr ⟨a,b,ws,rfl,rfl,h1,h2,q _ H (Same.refl H) ⟨b,ws,rfl,h2,q2.weak fun _ z=>.inr (.inr z)⟩ fun ds z=>by cases z⟩
   |cons v0 vr=>
    refine .inl (.inl (.inr (.inr (.inr ⟨a,b,v0::vr,ws,rfl,rfl,h1,h2,by simp,z0e (by rw[q1.length,q2.length];exact hl),fun z=>?_,fun z p hp=>q _ _ (Same.upd hp) ?_ fun ds z=>by cases z⟩))))
    ·subst z;have:ys=[]:=by have:=q2.length;exact f8.mp this.symm
     subst this;rw[eh]at q;exact q _ H (Same.refl H) ⟨a,_,rfl,h1,q1.weak fun _ z=>.inr (.inl z)⟩ fun ds z=>by cases z
    ·exact z28 hp (Reps.append (q1.weak (B':=fun a=>nw H a\/Bx a\/By a) fun _ z=>.inr (.inl z)) (q2.weak fun _ z=>.inr (.inr z))) (fun _ z=>z)
  ·cases e
theorem za1 {f:Value->Value->Sem Value}{m:D->D->Res D}{Cc:Int->Int->Prop}{g:Int->Int->V}{gd:Int->Int->D}(h:OpR X f (rI Cc g))(hg:∀i j H B,Rep X.K H B (g i j) (gd i j))(hm:∀dx dy d,m dx dy=.ok d->∃i j,dx=.int i/\dy=.int j/\Cc i j/\d=gd i j):OpN X f m:=by refine OpR.imp h fun x y H Q h=>?_;obtain⟨Bx,By,dx,dy,d,rx,ry,e,q⟩:=h;obtain⟨i,j,rfl,rfl,c,rfl⟩:=hm dx dy d e;exact⟨i,j,rx,ry,c,q _ H (Same.refl H) (hg i j _ _) fun _ _ _=>hg i j _ _⟩
theorem zlj {f:Value->Value->Sem Value}{g:Int->Int->V}(h:OpR X f (rI0 g)):OpR X f (rI (fun _ _=>True) g):=OpR.imp h fun x y H Q ⟨i,j,e1,e2,_,q⟩=>⟨i,j,e1,e2,q⟩
theorem zaf:OpR X (eu .FloorDiv) (rI (fun _ j=>0<j/\j<2 ^ 200) fun i j=>.int (i/j)):=opI fun i j _ _ _ _ _ hc q=>by
 refine floordiv_int (by omega) (by rw[Int.fdiv_eq_ediv_of_nonneg i (by omega)];exact q) (.inl (PyProof.noPylong_of_log2 ?_));have h1:j.natAbs≠0:=by omega
 have h2:j.natAbs<2 ^ 200:=by omega
 have h3:=(Nat.log2_lt h1).mpr h2;omega
def ze4:R2:=fun x y H Q=>∃a n,x=.str a/\y=.int n/\(0<=n/\n<=LIM/\a.length*n.toNat<=LIM)/\Q (.str ⟨(z1d n.toNat a.cps.toList).toArray⟩) H
theorem z8a {α:Type}(n:Nat):z1d n ([]:List α)=[]:=by
 unfold z1d
 induction n with
 |zero=>rfl
 |succ n ih=>rw[gp,jl,ih];rfl
theorem z4u (a:Array Nat):∀(k:Nat) (acc:List Nat),(bo k a).foldl (·++·) acc.toArray=(acc++z1d k a.toList).toArray
 |0,acc=>by simp[z1d]
 |k+1,acc=>by
  rw[gp,List.foldl_cons];have e:acc.toArray++a=(acc++a.toList).toArray:=by simp
  rw[e,z4u a k];show(acc++a.toList++z1d k a.toList).toArray=_;rw[ge];rfl
theorem zai {a:Str}{n:Int}(h:0<=n):Txt.mul a n=⟨(z1d n.toNat a.cps.toList).toArray⟩:=by
 unfold Txt.mul;by_cases h1:n<1
 ·obtain rfl:n=0:=by omega
  rw[if_pos h1];rfl
 ·rw[if_neg h1];split
  ·rename_i h2;rcases db.mp h2 with h2|h2
   ·obtain rfl:n=1:=nz h2;show a=⟨(a.cps.toList++[]).toArray⟩;rw[eh]
   ·have h3:a.cps.size=0:=nz h2;have h4:a.cps.toList=[]:=f8.mp (by rw[dv];exact h3);rw[h4,z8a];have h5:a.cps=#[]:=by rw[<-kz (xs:=a.cps),h4]
    cases a;cases h5;rfl
  ·have :=z4u a.cps n.toNat [];rw[List.nil_append]at this;exact congrArg Str.mk this
theorem z9t {a:Str}(h:PyData.strOk a=true)(n:Nat):PyData.strOk ⟨(z1d n a.cps.toList).toArray⟩=true:=by unfold PyData.strOk at h ⊢;rw[<-Array.all_toList,bp]at h ⊢;intro c hc;have hc:c∈(bo n a.cps.toList).flatten:=hc;obtain⟨l,hl,hcl⟩:=List.mem_flatten.mp hc;rw[(List.mem_replicate.mp hl).2]at hcl;exact h c hcl
theorem z76:OpR X (eu .Mult) ze4:=by intro pins s σ H x y v u Q I rx ry h;obtain⟨a,n,rfl,rfl,⟨h0,hn,h1⟩,q⟩:=h;obtain⟨t,rfl⟩:=rx;obtain⟨t',rfl⟩:=ry;unfold LIM at hn h1;refine SB.mul (PyProof.Rows.mulOk_of a.length n.toNat (ag _) (by omega) (by omega) (by omega) (by omega)) fun t2 k=>?_;rw[zai h0];exact⟨.str _,H,I.tok _,⟨_,rfl⟩,q⟩
theorem zlf (op:gh)(h:zdd op=true):OpN X (eu op) (binD op):=by
 cases op<;>try (cases h;done)
 case Add=>exact zm1
 case Sub=>
  refine za1 (zlj zgd) (gd:=fun i j=>.int (i-j)) (fun _ _ _ _=>rfl) fun dx dy d e=>?_;cases dx<;>try (exact(z0n e).elim)
  cases dy<;>try (exact(z0n e).elim)
  cases e;exact⟨_,_,rfl,rfl,trivial,rfl⟩
 case Mult=>
  refine OpR.imp (zfj.or z76) fun x y H Q h=>?_;obtain⟨Bx,By,dx,dy,d,rx,ry,e,q⟩:=h;cases dx<;>try (exact(z0n e).elim)
  all_goals cases dy<;>try (exact(z0n e).elim)
  case int.int i j=>
   have e:(if(-(2 ^ 64)<i/\i<2 ^ 64)\/(-(2 ^ 64)<j/\j<2 ^ 64)then Res.ok (PyData.int (i*j))else Res.no)=Res.ok d:=e;split at e
   ·rename_i hc;cases e;exact .inl ⟨i,j,rx,ry,hc,q _ H (Same.refl H) rfl fun ds z=>by cases z⟩
   ·cases e
  case str.int a n=>
   have e:(if 0<=n/\n<=LIM/\a.length*n.toNat<=LIM then Res.ok (PyData.str ⟨(z1d n.toNat a.cps.toList).toArray⟩)else Res.no)=Res.ok d:=e;split at e
   ·rename_i hc;cases e;obtain⟨rx1,rx2⟩:=rx;exact .inr ⟨a,n,rx1,ry,hc,q _ H (Same.refl H) ⟨rfl,z9t rx2 _⟩ fun ds z=>by cases z⟩
   ·cases e
 case FloorDiv=>
  refine za1 zaf (gd:=fun i j=>.int (i/j)) (fun _ _ _ _=>rfl) fun dx dy d e=>?_;cases dx<;>try (exact(z0n e).elim)
  cases dy<;>try (exact(z0n e).elim)
  rename_i i j;have e:(if 0<j/\j<2 ^ 200 then Res.ok (PyData.int (i/j))else Res.no)=Res.ok d:=e;split at e
  ·rename_i hc;cases e;exact⟨_,_,rfl,rfl,hc,rfl⟩
  ·cases e
 case Mod=>
  refine za1 zfu (gd:=fun i j=>.int (i%j)) (fun _ _ _ _=>rfl) fun dx dy d e=>?_;cases dx<;>try (exact(z0n e).elim)
  cases dy<;>try (exact(z0n e).elim)
  rename_i i j;have e:(if 0<j then Res.ok (PyData.int (i%j))else Res.no)=Res.ok d:=e;split at e
  ·rename_i hc;cases e;exact⟨_,_,rfl,rfl,hc,rfl⟩
  ·cases e
 case Pow=>
  refine za1 zha (gd:=fun i j=>.int (i ^ j.toNat)) (fun _ _ _ _=>rfl) fun dx dy d e=>?_;cases dx<;>try (exact(z0n e).elim)
  cases dy<;>try (exact(z0n e).elim)
  rename_i i j;have e:(if 0<=j/\j<=1000/\i.natAbs<2 ^ 64 then Res.ok (PyData.int (i ^ j.toNat))else Res.no)=Res.ok d:=e;split at e
  ·rename_i hc;cases e;exact⟨_,_,rfl,rfl,⟨hc.1,by omega,hc.2.2⟩,rfl⟩
  ·cases e
end
section
variable {X:Cx}{pins:List (Addr×Obj)}{σ:L2.St}{H:Hp}{s:ac}{B:Ad->Prop}
mutual
theorem Rep.reads (I:Inv X pins σ H s):∀{v:V} {u:Value} (d:af) (n:Nat),shal n d=true->Rep X.K H B v d->RelV v u->(∃as,Reads s.heap u d as)/\d.canLay0=true/\d.depth<=n
 |v,u,.none,n,_,r,q=>by have e:v=.non:=r;subst e;cases q;exact⟨⟨[],.none⟩,by simp only[PyData.canLay0],d6 _⟩
 |v,u,.bool b,n,_,r,q=>by have e:v=.bl b:=r;subst e;cases q;exact⟨⟨[],.bool b⟩,by simp only[PyData.canLay0],d6 _⟩
 |v,u,.int b,n,_,r,q=>by have e:v=.int b:=r;subst e;obtain⟨t,rfl⟩:=q;exact⟨⟨[],.int b t⟩,by simp only[PyData.canLay0],d6 _⟩
 |v,u,.str b,n,_,r,q=>by obtain⟨e,ok⟩:v=.str b/\_:=r;subst e;obtain⟨t,rfl⟩:=q;exact⟨⟨[],.str b t⟩,by simp only[PyData.canLay0];exact ok,d6 _⟩
 |v,u,.tuple ds,0,h,r,q=>by cases h
 |v,u,.list ds,0,h,r,q=>by cases h
 |v,u,.tuple ds,n+1,h,r,q=>by obtain⟨a,vs,e,h1,r1⟩:=r;subst e;cases q;obtain⟨its,rv,⟨o,ho,hc,k,hd⟩,_⟩:=I.tuple h1;obtain⟨⟨as,ra⟩,c,dp⟩:=Reps.reads I ds n (h) r1 rv;refine⟨⟨as,.tuple ho hc hd (by simpa using ra)⟩,by simp only[PyData.canLay0];exact c,?_⟩;simp only[PyData.depth];omega
 |v,u,.list ds,n+1,h,r,q=>by obtain⟨a,vs,e,h1,r1⟩:=z17 r;subst e;cases q;obtain⟨its,rv,⟨o,k,ho,hc,_,hd⟩,_⟩:=I.list h1;obtain⟨⟨as,ra⟩,c,dp⟩:=Reps.reads I ds n (h) r1 rv;refine⟨⟨a::as,.list ho hc hd (by simpa using ra)⟩,by simp only[PyData.canLay0];exact c,?_⟩;simp only[PyData.depth];omega
 |v,u,.dict es,n,h,r,q=>by cases n<;>cases h
theorem Reps.reads (I:Inv X pins σ H s):∀{vs:List V} {us:List Value} (ds:List af) (n:Nat),z0u n ds=true->Reps X.K H B vs ds->Vals vs us->(∃as,ReadsAll s.heap us ds as)/\PyData.canLayAll0 ds=true/\PyData.depthAll ds<=n
 |vs,us,[],n,_,r,q=>by have e:vs=[]:=r;subst e;cases q;exact⟨⟨[],.nil⟩,by simp only[PyData.canLayAll0],d6 _⟩
 |vs,us,d::ds,n,h,r,q=>by
  obtain⟨v,t,e,h1,r1⟩:=r;subst e;rw[z0u,a8]at h;cases q with
  |cons q1 q2=>obtain⟨⟨as,ra⟩,c,dp⟩:=Rep.reads I d n h.1 h1 q1;obtain⟨⟨bs,rb⟩,c2,dp2⟩:=Reps.reads I ds n h.2 r1 q2;refine⟨⟨as++bs,.cons ra rb⟩,by simp only[PyData.canLayAll0,c,c2,Bool.and_self],?_⟩;simp only[PyData.depthAll];exact Nat.max_le.mpr ⟨dp,dp2⟩
end
end
section
variable {X:Cx}
def mB (m:D->D->Res Bool):D->D->Res D:=fun x y=>m x y>>=fun b=>.ok (.bool b)
theorem z80 {m:D->D->Res Bool}{x y d:D}(h:mB m x y=.ok d):∃b,m x y=.ok b/\d=.bool b:=by obtain⟨b,h1,h2⟩:=Res.bind_ok h;exact⟨b,h1,(Res.ok.inj h2).symm⟩
theorem c_eq (hu:X.A.units+64<cLine):OpD X (bw .Eq) (mB (cmpD .Eq)):=by
 intro pins s σ H x y v u Q I rx ry h;obtain⟨Bx,By,dx,dy,d,r1,r2,e,q⟩:=h;obtain⟨b,e',ed⟩:=z80 e;subst ed;clear e;have e:=e';clear e';have e:(if(shal 40 dx&&shal 40 dy)=true then Res.ok (eqD dx dy)else Res.no)=Res.ok b:=e;split at e
 ·rename_i hs;cases e;rw[a8]at hs;obtain⟨⟨as,ra⟩,c1,p1⟩:=Rep.reads I dx 40 hs.1 r1 rx;obtain⟨⟨bs,rb⟩,c2,p2⟩:=Rep.reads I dy 40 hs.2 r2 ry;exact SeqAt.compareEq_reads ra rb c1 c2 (by omega) ⟨.bl _,H,I,rfl,q _ H (Same.refl H) rfl⟩
 ·cases e
theorem c_ne (hu:X.A.units+64<cLine):OpD X (bw .NotEq) (mB (cmpD .NotEq)):=by
 intro pins s σ H x y v u Q I rx ry h;obtain⟨Bx,By,dx,dy,d,r1,r2,e,q⟩:=h;obtain⟨b,e',ed⟩:=z80 e;subst ed;clear e;have e:=e';clear e';have e:(if(shal 40 dx&&shal 40 dy)=true then Res.ok (!eqD dx dy)else Res.no)=Res.ok b:=e;split at e
 ·rename_i hs;cases e;rw[a8]at hs;obtain⟨⟨as,ra⟩,c1,p1⟩:=Rep.reads I dx 40 hs.1 r1 rx;obtain⟨⟨bs,rb⟩,c2,p2⟩:=Rep.reads I dy 40 hs.2 r2 ry;exact SeqAt.compareNe_reads ra rb c1 c2 (by omega) ⟨.bl _,H,I,rfl,q _ H (Same.refl H) rfl⟩
 ·cases e
theorem zav {op:CmpOp}{r:R2}(h:OpR X (bw op) r)(hI:∀i j b H Q,cmpD op (.int i) (.int j)=.ok b->Q (.bl b) H->r (.int i) (.int j) H Q)(hS:∀i j b H Q,cmpD op (.str i) (.str j)=.ok b->Q (.bl b) H->r (.str i) (.str j) H Q)
  (hm:∀dx dy b,cmpD op dx dy=.ok b->(∃i j,dx=.int i/\dy=.int j)\/∃i j,dx=.str i/\dy=.str j):OpD X (bw op) (mB (cmpD op)):=by
 refine OpR.imp h fun x y H Q h=>?_;obtain⟨Bx,By,dx,dy,d,rx,ry,e,q⟩:=h;obtain⟨b,e',ed⟩:=z80 e;subst ed;clear e;have e:=e';clear e';rcases hm dx dy b e with⟨i,j,rfl,rfl⟩|⟨i,j,rfl,rfl⟩
 ·have e1:x=.int i:=rx;have e2:y=.int j:=ry;subst e1 e2;exact hI i j b H Q e (q _ H (Same.refl H) rfl)
 ·have e1:x=.str i:=rx.1;have e2:y=.str j:=ry.1;subst e1 e2;exact hS i j b H Q e (q _ H (Same.refl H) rfl)
theorem c_lt:OpD X (bw .Lt) (mB (cmpD .Lt)):=zav opLt (fun i j b H Q e q=>by cases e;exact zl8 q) (fun i j b H Q e q=>by cases e;exact zkq q) fun dx dy b e=>by cases dx<;>first|exact(z0n e).elim|(cases dy<;>first|exact .inl ⟨_,_,rfl,rfl⟩|exact .inr ⟨_,_,rfl,rfl⟩|exact(z0n e).elim)
theorem c_le:OpD X (bw .LtE) (mB (cmpD .LtE)):=zav opLe (fun i j b H Q e q=>by cases e;exact zlv q) (fun i j b H Q e q=>by cases e;exact zix q) fun dx dy b e=>by cases dx<;>first|exact(z0n e).elim|(cases dy<;>first|exact .inl ⟨_,_,rfl,rfl⟩|exact .inr ⟨_,_,rfl,rfl⟩|exact(z0n e).elim)
theorem c_gt:OpD X (bw .Gt) (mB (cmpD .Gt)):=zav opGt (fun i j b H Q e q=>by cases e;exact ziz q) (fun i j b H Q e q=>by cases e;exact zlw q) fun dx dy b e=>by cases dx<;>first|exact(z0n e).elim|(cases dy<;>first|exact .inl ⟨_,_,rfl,rfl⟩|exact .inr ⟨_,_,rfl,rfl⟩|exact(z0n e).elim)
theorem c_ge:OpD X (bw .GtE) (mB (cmpD .GtE)):=zav zjm (fun i j b H Q e q=>by cases e;exact⟨i,j,rfl,rfl,q⟩) (fun i j b H Q e q=>by cases e) fun dx dy b e=>by cases dx<;>first|exact(z0n e).elim|(cases dy<;>first|exact .inl ⟨_,_,rfl,rfl⟩|exact .inr ⟨_,_,rfl,rfl⟩|exact(z0n e).elim)
theorem REs.val {K:W.Frag}{H:Hp}{B:Ad->Prop}(k:Key):∀{kvs:List (Key×V)} {es:Ents},REs K H B kvs es->match z19 es (kD k)with|some d=>∃v,valV kvs k=some v/\Rep K H B v d|none=>valV kvs k=none
 |kvs,[],r=>by have e:kvs=[]:=r;subst e;exact rfl
 |kvs,(kd,d)::es,r=>by
  obtain⟨k',v,t,e,e2,ok,h,q⟩:=r;subst e e2;have ih:=REs.val k q;by_cases z:k'=k
  ·subst z
   have e1:z19 ((kD k',d)::es) (kD k')=some d:=by
    have:eqK (kD k') (kD k')=true:=by cases k'<;>simp[kD,eqK]
    unfold z19;rw[List.find?_cons_of_pos (by exact this)];rfl
   rw[e1];exact⟨v,z27 (p:=(k',v)) rfl,h⟩
  ·have e0:eqK (kD k') (kD k)=false:=by
    rw[mh];intro w;apply z;cases k'<;>cases k<;>simp[kD,eqK]at w<;>rw[w]
   have e1:z19 ((kD k',d)::es) (kD k)=z19 es (kD k):=by unfold z19;rw[List.find?_cons_of_neg (by rw[e0];exact br)]
   rw[e1,z2b (p:=(k',v)) z];exact ih
theorem z35 {K:W.Frag}{H:Hp}{B:Ad->Prop}{v:V}{d:D}(h:isK d=true)(r:Rep K H B v d):∃k,d=kD k/\v=kV k/\keyOk k:=by
 cases d<;>try (cases h;done)
 case int i=>exact⟨.inl i,rfl,r,True.intro⟩
 case str x=>exact⟨.inr x,rfl,r.1,r.2⟩
theorem zbt (hu:X.A.units+64<cLine){pins:List (Addr×Obj)}{s:ac}{σ:L2.St}{H:Hp}{x y:V}{v u:Value}{Q:VK}(ng:Bool)(I:Inv X pins σ H s)(rx:RelV x v)(ry:RelV y u)
  {Bx By:Ad->Prop} {dx dy:D} {b:Bool} (r1:Rep X.K H Bx x dx) (r2:Rep X.K H By y dy) (e:inD dx dy=.ok b) (q:Q (.bl (if ng then !b else b)) H):
  wpAny (model X.prog X.w) X.A (bw (if ng then .NotIn else .In) v u) (EP X pins σ Q) X.xe s:=by
 cases dy<;>try (cases e;done)
 case list xs=>
  change(if(shal 40 dx&&z0u 40 xs)=true then Res.ok (xs.any fun y=>eqD y dx)else .no)=_ at e;split at e
  ·rename_i hs;cases e;rw[a8]at hs;obtain⟨⟨as,ra⟩,c1,p1⟩:=Rep.reads I dx 40 hs.1 r1 rx;obtain⟨⟨bs,rb⟩,c2,p2⟩:=Rep.reads I (.list xs) 41 hs.2 r2 ry;have c2':PyData.canLayAll0 xs=true:=by simpa only[PyData.canLay0]using c2
   cases ng
   ·exact SeqAt.in_list_reads rb ra c2' c1 (by omega) ⟨.bl _,H,I,rfl,q⟩
   ·exact SeqAt.notIn_list_reads rb ra c2' c1 (by omega) ⟨.bl _,H,I,rfl,q⟩
  ·cases e
 case tuple xs=>
  change(if(shal 40 dx&&z0u 40 xs)=true then Res.ok (xs.any fun y=>eqD y dx)else .no)=_ at e;split at e
  ·rename_i hs;cases e;rw[a8]at hs;obtain⟨⟨as,ra⟩,c1,p1⟩:=Rep.reads I dx 40 hs.1 r1 rx;obtain⟨⟨bs,rb⟩,c2,p2⟩:=Rep.reads I (.tuple xs) 41 hs.2 r2 ry;have c2':PyData.canLayAll0 xs=true:=by simpa only[PyData.canLay0]using c2
   cases ng
   ·exact SeqAt.in_tuple_reads rb ra c2' c1 (by omega) ⟨.bl _,H,I,rfl,q⟩
   ·exact SeqAt.notIn_tuple_reads rb ra c2' c1 (by omega) ⟨.bl _,H,I,rfl,q⟩
  ·cases e
 case dict es=>
  change(if isK dx=true then Res.ok (z19 es dx).isSome else .no)=_ at e;split at e
  ·rename_i hk;cases e;obtain⟨k,rfl,rfl,_⟩:=z35 hk r1;obtain⟨a,kvs,rfl,h1,_,h2⟩:=r2;cases ry;have hv:=h2.val k;have g:DGet H a (kV k) (valV kvs k):=DGet.k h1
   have hb:(valV kvs k).isSome=(z19 es (kD k)).isSome:=by
    cases e:z19 es (kD k)with
    |none=>rw[e]at hv;rw[show valV kvs k=none from hv];rfl
    |some d=>rw[e]at hv;obtain⟨v,hv,_⟩:=hv;rw[hv];rfl
   cases ng
   ·exact d_in (by omega) I g rx fun s' I'=>⟨.bl _,H,I',rfl,by rw[hb];exact q⟩
   ·exact zei (by omega) I g rx fun s' I'=>⟨.bl _,H,I',rfl,by rw[hb];exact q⟩
  ·cases e
 case str z=>
  cases dx<;>try (cases e;done)
  rename_i w;have e1:x=.str w:=r1.1;have e2:y=.str z:=r2.1;subst e1 e2;change(match w.cps.toList with| [c]=>Res.ok (decide (c∈z.cps.toList))|_=>.no)=_ at e;split at e
  ·rename_i c hw;cases e
   have ew:w=⟨#[c]⟩:=by
    obtain⟨cps⟩:=w;have:cps=#[c]:=by rw[<-kz (xs:=cps)];rw[show cps.toList=[c]from hw]
    rw[this]
   subst ew;cases ng
   ·exact opIn pins s σ H _ _ v u Q I rx ry (zm7 q)
   ·exact zdq pins s σ H _ _ v u Q I rx ry (zgu q)
  ·cases e
theorem c_in (hu:X.A.units+64<cLine):OpD X (bw .In) (mB (cmpD .In)):=by intro pins s σ H x y v u Q I rx ry h;obtain⟨Bx,By,dx,dy,d,r1,r2,e,q⟩:=h;obtain⟨b,e',ed⟩:=z80 e;subst ed;clear e;have e:=e';clear e';exact zbt hu false I rx ry r1 r2 e (q _ H (Same.refl H) rfl)
theorem ze0 (hu:X.A.units+64<cLine):OpD X (bw .NotIn) (mB (cmpD .NotIn)):=by intro pins s σ H x y v u Q I rx ry h;obtain⟨Bx,By,dx,dy,d,r1,r2,e,q⟩:=h;obtain⟨b,e',ed⟩:=z80 e;subst ed;clear e;have e:=e';clear e';have e:(inD dx dy>>=fun b=>Res.ok (!b))=Res.ok b:=e;obtain⟨b',e1,e2⟩:=Res.bind_ok e;cases e2;exact zbt hu true I rx ry r1 r2 e1 (q _ H (Same.refl H) rfl)
theorem zhf (hu:X.A.units+64<cLine)(op:CmpOp)(h:z7f op=true):OpD X (bw op) (mB (cmpD op)):=by
 cases op<;>try (cases h;done)
 ·exact c_eq hu
 ·exact c_ne hu
 ·exact c_lt
 ·exact c_le
 ·exact c_gt
 ·exact c_ge
 ·exact c_in hu
 ·exact ze0 hu
end
section
variable {X:Cx}{a b c e:Expr}{es:List Expr}{fa fb fc:Rho->Res GD}{pos:Pos}
theorem z51 {e:Expr}{v:V}{d:D}(h:PE X e (tC v))(r:∀H B,Rep X.K H B v d):PE X e (tD X.K fun _=>.ok (.fr,d)):=PE.imp h fun σ H Q ⟨ρ,F,x,so,e,q⟩=>by cases e;exact q v H (Same.refl H) (r H _)
theorem zke {i:Nat}{x:Str}(hN:X.N[i]?=some x)(hv:Vis X.env.scope x)(hd:(x==("__debug__":Str))=false)(hcd:(x==("__classdict__":Str))=false):PE X (.Name x pos) (tD X.K fun ρ=>rdS ρ[i]?):=PE.imp (z2q hN hv hd hcd) fun σ H Q zz=>by obtain⟨ρ,F,x,so,e,q⟩:=zz;obtain⟨v,h1,h2⟩:=so.rd e;exact⟨v,h1,q v H (Same.refl H) h2⟩
theorem zc4 {K:W.Frag}{F:Fm}{H H':Hp}{B:Ad->Prop}{v:V}{d:D}{g:G}(r:Rep K H' B v d)(h:∀a,B a->BG F H g a)(n:∀ds,d=.list ds->imms ds=true->Rep K H' (nw H) v d):Rep K H' (BG F H (gN d g)) v d:=by
 cases d with
 |list ds=>
  show Rep K H' (BG F H (if imms ds=true then .fr else g)) v _;split
  ·rename_i hi;exact n ds rfl hi
  ·exact r.weak h
 |_=>exact z1l r h
theorem zla {op:gh}(ho:zdd op=true)(ha:PE X a (tD X.K fa))(hb:PE X b (tD X.K fb)):PE X (.BinOp a op b pos) (tD X.K fun ρ=>fa ρ>>=fun x=>fb ρ>>=fun y=>binD op x.2 y.2>>=fun d=>.ok (gN d (gAll [x,y]),d)):=
 PE.imp (zj0 (zlf op ho) ha hb) fun σ H Q zz=>by
  obtain⟨ρ,F,z,so,e,q⟩:=zz;obtain⟨x,e1,e⟩:=Res.bind_ok e;obtain⟨y,e2,e⟩:=Res.bind_ok e;obtain⟨d,e3,e⟩:=Res.bind_ok e;cases e;refine⟨ρ,F,x,so,e1,fun v H1 s1 rv=>⟨ρ,F,y,so.same s1,e2,fun u H2 s2 ru=>⟨_,_,x.2,y.2,d,rv.same s2 fun _ z=>z,ru,e3,fun w H3 s3 rw' nn=>q w H3 ((s1.trans s2).trans s3) (zc4 rw' (fun a h=>?_) fun ds z hi=>(nn ds z hi).weak fun _ z=>nw.back (s1.trans s2) z)⟩⟩⟩;rcases h with h|h|h
  ·exact z38 so.vis (s1.trans s2) h
  ·exact z45 so.vis (x:=x) (by simp) h
  ·exact z45 so.vis (x:=y) (by simp) (h.back s1)
theorem zjh (ha:PE X a (tD X.K fa)):PE X (.UnaryOp .USub a pos) (tD X.K fun ρ=>fa ρ>>=fun x=>match x.2 with|.int i=>.ok (.fr,.int (-i))|_=>.no):=
 PE.imp (zk8 zh5 ha) fun σ H Q zz=>by
  obtain⟨ρ,F,z,so,e,q⟩:=zz;obtain⟨x,e1,e⟩:=Res.bind_ok e;refine⟨ρ,F,x,so,e1,fun v H1 s1 rv=>?_⟩;obtain⟨g,d⟩:=x;cases d<;>try (cases e;done)
  rename_i i;cases e;exact⟨i,rv,q _ H1 s1 rfl⟩
theorem zbw {op:CmpOp}{σ:L2.St}{H:Hp}{Q:VK}(h:tD X.K (fun ρ=>fa ρ>>=fun x=>fb ρ>>=fun y=>cmpD op x.2 y.2>>=fun b=>.ok (.fr,.bool b)) σ H Q):tOp (rOp X.K (mB (cmpD op))) (tD X.K fa) (tD X.K fb) σ H Q:=by obtain⟨ρ,F,z,so,e,q⟩:=h;obtain⟨x,e1,e⟩:=Res.bind_ok e;obtain⟨y,e2,e⟩:=Res.bind_ok e;obtain⟨d,e3,e⟩:=Res.bind_ok e;cases e;exact⟨ρ,F,x,so,e1,fun v H1 s1 rv=>⟨ρ,F,y,so.same s1,e2,fun u H2 s2 ru=>⟨_,_,x.2,y.2,.bool d,rv.same s2 fun _ z=>z,ru,by show(cmpD op x.2 y.2>>=fun b=>Res.ok (PyData.bool b))=_;rw[e3];rfl,fun w H3 s3 rw'=>q w H3 ((s1.trans s2).trans s3) rw'⟩⟩⟩
theorem zin {op:CmpOp}(hu:X.A.units+64<cLine)(ho:z7f op=true)(hm:gr op b=false)(ha:PE X a (tD X.K fa))(hb:PE X b (tD X.K fb)):
  PE X (.Compare a [op] [b] pos) (tD X.K fun ρ=>fa ρ>>=fun x=>fb ρ>>=fun y=>cmpD op x.2 y.2>>=fun b=>.ok (.fr,.bool b)):=
 PE.imp (ze6 (zhf hu op ho) ha hb hm) fun σ H Q h=>zbw h
theorem zdm {f:Rho->Res GD}{t:TE}(ht:∀σ H Q,tD X.K f σ H Q->t σ H Q)(hb:∀ρ x,f ρ=.ok x->∃c,x.2=.bool c)(σ:L2.St)(H:Hp)(Q:Bool->Hp->Prop)(h:tDT X.K (fun ρ=>f ρ>>=fun x=>z11 x.2) σ H Q):zgf t σ H Q:=by obtain⟨ρ,F,c,so,e,q⟩:=h;obtain⟨x,e1,e⟩:=Res.bind_ok e;obtain⟨k,e2⟩:=hb ρ x e1;rw[e2]at e;cases e;refine ht σ H _ ⟨ρ,F,x,so,e1,fun v H' s r=>?_⟩;rw[e2]at r;exact⟨k,r,q H' s⟩
theorem za3 {op:CmpOp}{ρ:Rho}{x:GD}(e:(fa ρ>>=fun x=>fb ρ>>=fun y=>cmpD op x.2 y.2>>=fun b=>Res.ok ((.fr,.bool b):GD))=.ok x):∃c,x.2=.bool c:=by obtain⟨x,e1,e⟩:=Res.bind_ok e;obtain⟨y,e2,e⟩:=Res.bind_ok e;obtain⟨d,e3,e⟩:=Res.bind_ok e;cases e;exact⟨d,rfl⟩
theorem zlo {op:CmpOp}(hu:X.A.units+64<cLine)(ho:z7f op=true)(hm:gr op b=false)(ha:PE X a (tD X.K fa))(hb:PE X b (tD X.K fb)):
  PT X (.Compare a [op] [b] pos) (tDT X.K fun ρ=>(fa ρ>>=fun x=>fb ρ>>=fun y=>cmpD op x.2 y.2>>=fun b=>Res.ok ((.fr,.bool b):GD))>>=fun x=>z11 x.2):=
 PT.imp (zcn (zhf hu op ho) ha hb hm) (zdm (fun σ H Q h=>zbw h) fun ρ x e=>za3 e)
def andF (fa fb:Rho->Res GD):Rho->Res GD:=fun ρ=>fa ρ>>=fun x=>match x.2 with|.bool c=>if c then fb ρ else .ok (.fr,.bool false)|_=>.no
def orF (fa fb:Rho->Res GD):Rho->Res GD:=fun ρ=>fa ρ>>=fun x=>match x.2 with|.bool c=>if c then .ok (.fr,.bool true)else fb ρ|_=>.no
theorem z6x {f:Rho->Res GD}{ρ:Rho}{F:Fm}{H H1:Hp}{x:GD}{σ:L2.St}{Q:VK}(s1:Same H H1)(so:StOk X.K F H σ ρ)(e:f ρ=.ok x)(q:∀v H',Same H H'->Rep X.K H' (BG F H x.1) v x.2->Q v H'):tD X.K f σ H1 Q:=⟨ρ,F,x,so.same s1,e,fun v H' s r=>q v H' (s1.trans s) (r.weak fun _ b=>b.back s1)⟩
theorem zfr {rest:List Expr}(ha:PE X a (tD X.K fa))(hb:PE X (.BoolOp .And (b::rest) pos) (tD X.K fb)):PE X (.BoolOp .And (a::b::rest) pos) (tD X.K (andF fa fb)):=
 PE.imp (zhp ha hb) fun σ H Q zz=>by
  obtain⟨ρ,F,z,so,e,q⟩:=zz;obtain⟨x,e1,e⟩:=Res.bind_ok e;refine⟨ρ,F,x,so,e1,fun v H1 s1 rv=>?_⟩;obtain⟨g,d⟩:=x;cases d<;>try (cases e;done)
  rename_i c;refine⟨c,rv,?_⟩;cases c with
  |true=>exact iteT (z6x s1 so e q)
  |false=>cases e;exact iteF (q _ H1 s1 rfl)
theorem d_or {rest:List Expr}(ha:PE X a (tD X.K fa))(hb:PE X (.BoolOp .Or (b::rest) pos) (tD X.K fb)):PE X (.BoolOp .Or (a::b::rest) pos) (tD X.K (orF fa fb)):=
 PE.imp (zja ha hb) fun σ H Q zz=>by
  obtain⟨ρ,F,z,so,e,q⟩:=zz;obtain⟨x,e1,e⟩:=Res.bind_ok e;refine⟨ρ,F,x,so,e1,fun v H1 s1 rv=>?_⟩;obtain⟨g,d⟩:=x;cases d<;>try (cases e;done)
  rename_i c;refine⟨c,rv,?_⟩;cases c with
  |false=>exact iteF (z6x s1 so e q)
  |true=>cases e;exact iteT (q _ H1 s1 rfl)
theorem z7y {K:W.Frag}{H:Hp}{B:Ad->Prop}{v:V}{d:D}{k:Bool}(r:Rep K H B v d)(e:z11 d=.ok k):TruV K v H k:=by
 cases d with
 |none=>cases e;have e1:v=.non:=r;subst e1;exact rfl
 |bool b=>cases e;have e1:v=.bl b:=r;subst e1;exact rfl
 |int b=>cases e;have e1:v=.int b:=r;subst e1;show(!decide (b=0))=(b != 0);rw[bne,im]
 |str b=>
  have e1:v=.str b:=r.1;subst e1;simp only[z11]at e;split at e
  ·rename_i hl;cases e;refine⟨z0e hl,?_⟩;show(!decide (b.length=0))=((b.length:Int) != 0);rw[bne,im]
   congr 1
   rw[decide_eq_decide];omega
  ·cases e
 |tuple ds=>cases e;obtain⟨a,vs,e1,h,q⟩:=r;subst e1;refine .inr (.inl ⟨vs,h,?_⟩);show(!ds.isEmpty)=!vs.isEmpty;have:=q.length;cases vs<;>cases ds<;>simp at this ⊢
 |list ds=>cases e;obtain⟨a,vs,e1,h,q⟩:=z17 r;subst e1;refine .inl ⟨vs,h,?_⟩;show(!ds.isEmpty)=!vs.isEmpty;have:=q.length;cases vs<;>cases ds<;>simp at this ⊢
 |dict es=>
  cases e;obtain⟨a,kvs,e1,h,_,q⟩:=r;subst e1;refine .inr (.inr ⟨kvs,h,?_⟩);show(!es.isEmpty)=!kvs.isEmpty;cases es with
  |nil=>have e2:kvs=[]:=q;subst e2;rfl
  |cons e0 er=>obtain⟨k,v,t,e2,_⟩:=q;subst e2;rfl
theorem zjy (ha:PE X a (tD X.K fa)):PE X (.UnaryOp .Not a pos) (tD X.K fun ρ=>fa ρ>>=fun x=>z11 x.2>>=fun c=>.ok (.fr,.bool (!c))):=by intro pins s σ H Q I h;obtain⟨ρ,F,z,so,e,q⟩:=h;obtain⟨x,e1,e⟩:=Res.bind_ok e;obtain⟨k,e2,e⟩:=Res.bind_ok e;cases e;refine UnaryOp_ (thn (ha pins s σ H (fun v H1=>Same H H1/\Rep X.K H1 (BG F H x.1) v x.2) I ⟨ρ,F,x,so,e1,fun v H1 s1 rv=>⟨s1,rv⟩⟩) fun v s1 zz=>?_);obtain⟨y,H1,I1,r1,s2,rv⟩:=zz;exact not_of (thn (zbp pins s1 σ H1 y v (fun b H2=>b=k/\H2=H1) I1 r1 ⟨k,z7y rv e2,rfl,rfl⟩) fun b s2' zz=>by obtain⟨H2,I2,eb,eH⟩:=zz;subst eb eH;exact⟨.bl _,H2,I2,rfl,q _ H2 s2 rfl⟩)
theorem zl2 (ha:PE X e (tD X.K fa))(he:∀whole,mv e X.env whole=(do let v <-whole;standAt e.pos;m4 [v] (truthy v))):PT X e (tDT X.K fun ρ=>fa ρ>>=fun x=>z11 x.2):=PT.imp (zat ha he) fun σ H Q zz=>by obtain⟨ρ,F,k,so,e,q⟩:=zz;obtain⟨x,e1,e⟩:=Res.bind_ok e;exact⟨ρ,F,x,so,e1,fun v H1 s1 rv=>⟨k,z7y rv e,q H1 s1⟩⟩
section
variable {ta tb:Rho->Res Bool}{rest:List Expr}
theorem z5m {f:Rho->Res Bool}{ρ:Rho}{F:Fm}{H H1:Hp}{x:Bool}{σ:L2.St}{Q:Bool->Hp->Prop}(s1:Same H H1)(so:StOk X.K F H σ ρ)(e:f ρ=.ok x)(q:∀H',Same H H'->Q x H'):tDT X.K f σ H1 Q:=⟨ρ,F,x,so.same s1,e,fun H' s=>q H' (s1.trans s)⟩
theorem w_and (ha:PT X a (tDT X.K ta))(hb:PW X (.BoolOp .And (b::rest) pos) (tDT X.K tb)):PW X (.BoolOp .And (a::b::rest) pos) (tDT X.K fun ρ=>ta ρ>>=fun c=>if c then tb ρ else .ok false):=
 PW.imp (zg4 ha hb) fun σ H Q zz=>by
  obtain⟨ρ,F,k,so,e,q⟩:=zz;obtain⟨x,e1,e⟩:=Res.bind_ok e;refine⟨ρ,F,x,so,e1,fun H1 s1=>?_⟩;cases x with
  |true=>exact iteT (z5m s1 so e q)
  |false=>cases e;exact iteF (q H1 s1)
theorem w_or (ha:PT X a (tDT X.K ta))(hb:PW X (.BoolOp .Or (b::rest) pos) (tDT X.K tb)):PW X (.BoolOp .Or (a::b::rest) pos) (tDT X.K fun ρ=>ta ρ>>=fun c=>if c then .ok true else tb ρ):=
 PW.imp (zkl ha hb) fun σ H Q zz=>by
  obtain⟨ρ,F,k,so,e,q⟩:=zz;obtain⟨x,e1,e⟩:=Res.bind_ok e;refine⟨ρ,F,x,so,e1,fun H1 s1=>?_⟩;cases x with
  |false=>exact iteF (z5m s1 so e q)
  |true=>cases e;exact iteT (q H1 s1)
theorem z7h (ha:PT X a (tDT X.K ta)):PT X (.UnaryOp .Not a pos) (tDT X.K fun ρ=>ta ρ>>=fun c=>.ok (!c)):=PT.imp (zhw ha) fun σ H Q zz=>by obtain⟨ρ,F,k,so,e,q⟩:=zz;obtain⟨x,e1,e⟩:=Res.bind_ok e;cases e;exact⟨ρ,F,x,so,e1,fun H1 s1=>q H1 s1⟩
end
theorem zia:PA X [] (tDA X.K fun _=>.ok []):=PA.imp z46 fun σ H Q ⟨ρ,F,z,so,e,q⟩=>by cases e;exact q [] H (Same.refl H) rfl
theorem z9i {fs:Rho->Res (List GD)}(hs:isStar e=false)(ha:PE X e (tD X.K fa))(hr:PA X es (tDA X.K fs)):PA X (e::es) (tDA X.K fun ρ=>fa ρ>>=fun x=>fs ρ>>=fun xs=>.ok (x::xs)):=PA.imp (pa_c ha hr hs) fun σ H Q zz=>by obtain⟨ρ,F,z,so,e,q⟩:=zz;obtain⟨x,e1,e⟩:=Res.bind_ok e;obtain⟨xs,e2,e⟩:=Res.bind_ok e;cases e;refine⟨ρ,F,x,so,e1,fun v H1 s1 rv=>⟨ρ,F,xs,so.same s1,e2,fun vs H2 s2 rs=>q _ H2 (s1.trans s2) ?_⟩⟩;exact⟨v,vs,rfl,rv.same s2 fun _ z=>z,rs.back s1⟩
theorem zj7 {x1}{fs:Rho->Res (List GD)}(h:PA X es (tDA X.K fs))(hl:∀ρ xs,fs ρ=.ok xs->xs.length<=az):PE X (.Tuple es x1 pos) (tD X.K fun ρ=>fs ρ>>=fun ys=>.ok (gJ (.tuple (ys.map (·.2))) (gAll ys),.tuple (ys.map (·.2)))):=PE.imp (zgv h) fun σ H Q zz=>by obtain⟨ρ,F,z,so,e,q⟩:=zz;obtain⟨ys,e1,e⟩:=Res.bind_ok e;cases e;refine⟨ρ,F,ys,so,e1,fun vs H1 s1 rs=>?_⟩;have r:=rs.reps (B:=BG F H (gAll ys)) fun x hx a h=>z45 so.vis hx h;refine⟨by rw[r.length,aw];exact hl ρ ys e1,fun p hp=>q _ _ (s1.trans (Same.upd hp)) (z1l (z28 hp r fun _ z=>z) fun _ z=>z)⟩
theorem zjg {fs:Rho->Res (List GD)}(h:PA X es (tDA X.K fs))(hl:∀ρ xs,fs ρ=.ok xs->xs.length<=az):PE X (.List es pos) (tD X.K fun ρ=>fs ρ>>=fun ys=>.ok (gAll ys,.list (ys.map (·.2)))):=PE.imp (zfs h) fun σ H Q zz=>by obtain⟨ρ,F,z,so,e,q⟩:=zz;obtain⟨ys,e1,e⟩:=Res.bind_ok e;cases e;refine⟨ρ,F,ys,so,e1,fun vs H1 s1 rs=>?_⟩;have r:=rs.reps (B:=BG F H (gAll ys)) fun x hx a h=>z45 so.vis hx h;refine⟨by rw[r.length,aw];exact hl ρ ys e1,fun p hp=>q _ _ (s1.trans (Same.upd hp)) (z1f hp r (fun _ z=>z) (z38 so.vis s1 hp))⟩
end
theorem zgq {α:Type}(xs:List α)(i:Int):L2.atI xs i=Mi.atI xs i:=rfl
theorem z4e (n d:Nat)(o:Option Int):HT.sIx n d o=Mi.sIx n d o:=by cases o<;>rfl
theorem z8n (xs:List V)(lo hi:Option Int):L2.cutV xs lo hi=Mi.cut xs lo hi:=by unfold L2.cutV Mi.cut;rw[z4e,z4e]
theorem Reps.cut {K:W.Frag}{H:Hp}{B:Ad->Prop}{vs:List V}{ds:List D}(lo hi:Option Int)(r:Reps K H B vs ds):Reps K H B (Mi.cut vs lo hi) (Mi.cut ds lo hi):=by unfold Mi.cut;rw[r.length];exact(r.drop _).take _
theorem Reps.atI {K:W.Frag}{H:Hp}{B:Ad->Prop}{vs:List V}{ds:List D}{i:Int}{d:D}(r:Reps K H B vs ds)(e:Mi.atI ds i=some d):∃v,L2.atI vs i=some v/\Rep K H B v d:=by
 unfold Mi.atI at e;cases e1:Mi.ixN ds.length i with
 |none=>rw[e1]at e;cases e
 |some j=>rw[e1]at e;obtain⟨v,h1,h2⟩:=r.get (i:=j) (d:=d) e;refine⟨v,?_,h2⟩;rw[zgq];unfold Mi.atI;rw[r.length,e1];exact h1
section
variable {X:Cx}{a b c e:Expr}{es:List Expr}{fa fb fc:Rho->Res GD}{pos:Pos}
theorem zcs (hu:X.A.units+64<cLine):IxR X (fun x y H Q=>∃a v,x=.ref a/\DGet H a y (some v)/\Q v H):=by intro value slice pins s σ H x y v u Q I rx ry h hs;obtain⟨a,z,rfl,g,q⟩:=h;cases rx;exact tail_any (z59 I g) PySem.F.slot_dict_getitem.lookup (z8e (by omega) I g ry fun w' s' I' rw'=>⟨z,H,I',rw',q⟩) hs
def rIxD (K:W.Frag):R2:=fun x y H Q=>∃B B' dx dy d,Rep K H B x dx/\Rep K H B' y dy/\ixD dx dy=.ok d/\∀w,Rep K H B w d->Q w H
theorem zkx (hu:X.A.units+64<cLine):IxR X (rIxD X.K):=by
 intro value slice pins s σ H x y v u Q I rx ry h hs;refine(zk5.or (zcs hu)) value slice pins s σ H x y v u Q I rx ry ?_ hs;obtain⟨B,B',dx,dy,d,r1,r2,e,q⟩:=h;cases dx<;>try (cases e;done)
 case list xs=>
  cases dy<;>try (cases e;done)
  rename_i i;have e2:y=.int i:=r2;subst e2;obtain⟨a,vs,rfl,h1,q1⟩:=z17 r1;change Res.ofO (Mi.atI xs i)=_ at e;cases e3:Mi.atI xs i with
  |none=>rw[e3]at e;cases e
  |some d'=>rw[e3]at e;cases e;obtain⟨w,h3,h4⟩:=q1.atI e3;exact .inl (.inl ⟨a,vs,i,w,rfl,rfl,h1,h3,q w h4⟩)
 case tuple xs=>
  cases dy<;>try (cases e;done)
  rename_i i;have e2:y=.int i:=r2;subst e2;obtain⟨a,vs,rfl,h1,q1⟩:=r1;change Res.ofO (Mi.atI xs i)=_ at e;cases e3:Mi.atI xs i with
  |none=>rw[e3]at e;cases e
  |some d'=>rw[e3]at e;cases e;obtain⟨w,h3,h4⟩:=q1.atI e3;exact .inl (.inr (.inl ⟨a,vs,i,w,rfl,rfl,h1,h3,q w h4⟩))
 case str z=>
  cases dy<;>try (cases e;done)
  rename_i i;have e2:y=.int i:=r2;have e1:x=.str z:=r1.1;subst e1 e2;change(if z.length<=LIM then Res.ofO ((Mi.atI z.cps.toList i).map fun c=>PyData.str ⟨#[c]⟩)else .no)=_ at e;split at e
  ·rename_i hl;cases e3:Mi.atI z.cps.toList i with
   |none=>rw[e3]at e;cases e
   |some c=>
    rw[e3]at e;cases e
    have hc:c∈z.cps.toList:=by
     unfold Mi.atI at e3;cases e4:Mi.ixN z.cps.toList.length i with
     |none=>rw[e4]at e3;cases e3
     |some j=>rw[e4]at e3;exact b7 e3
    exact .inl (.inr (.inr ⟨z,i,c,rfl,rfl,z0e hl,e3,q _ ⟨rfl,z4k r1.2 hc⟩⟩))
  ·cases e
 case dict es=>
  change(if isK _=true then Res.ofO (z19 es _)else Res.no)=_ at e;split at e
  ·rename_i hk;obtain⟨k,rfl,rfl,_⟩:=z35 hk r2;obtain⟨a,kvs,rfl,h1,_,h2⟩:=r1;have hv:=h2.val k;cases e3:z19 es (kD k)with
   |none=>rw[e3]at e;cases e
   |some d'=>rw[e3]at e hv;cases e;obtain⟨w,h3,h4⟩:=hv;exact .inr ⟨a,w,rfl,by rw[<-h3];exact DGet.k h1,q w h4⟩
  ·cases e
theorem zbd {i:Expr}(h:z5a i=true):z7a i:=fun o v=>by cases i<;>first|rfl|cases h
theorem d_ix {i:Expr}(hu:X.A.units+64<cLine)(hs:z5a i=true)(ha:PE X a (tD X.K fa))(hb:PE X i (tD X.K fb)):
  PE X (.Subscript a i pos) (tD X.K fun ρ=>fa ρ>>=fun x=>fb ρ>>=fun y=>ixD x.2 y.2>>=fun d=>.ok (gJ d x.1,d)):=
 PE.imp (zma (zkx hu) ha hb (zbd hs)) fun σ H Q zz=>by obtain⟨ρ,F,z,so,e,q⟩:=zz;obtain⟨x,e1,e⟩:=Res.bind_ok e;obtain⟨y,e2,e⟩:=Res.bind_ok e;obtain⟨d,e3,e⟩:=Res.bind_ok e;cases e;exact⟨ρ,F,x,so,e1,fun v H1 s1 rv=>⟨ρ,F,y,so.same s1,e2,fun u H2 s2 ru=>⟨_,_,x.2,y.2,d,rv.same s2 fun _ z=>z,ru,e3,fun w rw'=>q w H2 (s1.trans s2) (z1l rw' fun _ z=>z)⟩⟩⟩
theorem z8p {z:Str}(h:PyData.strOk z=true)(lo hi:Option Int):PyData.strOk (z23 z lo hi)=true:=
 z1t.mpr fun c hc=>z1t.mp h c (by
  have:c∈Mi.cut z.cps.toList lo hi:=by simpa[z23]using hc
  unfold Mi.cut at this;exact k8 (iq this))
theorem zc8 (lo hi:Option Int)(n:Nat):e7 lo hi 1 n=sliceRange ((Mi.sIx n 0 lo:Nat):Int) ((Mi.sIx n n hi:Nat):Int) 1:=by
 delta e7
 have h1:(1:Int)>0:=Int.one_pos;simp only[h1,if_true]
 congr 1
 ·cases lo with
  |none=>rfl
  |some v=>
   simp only[Mi.sIx];by_cases h:v<0
   ·simp only[if_pos h];omega
   ·simp only[if_neg h];omega
 ·cases hi with
  |none=>rfl
  |some v=>
   simp only[Mi.sIx];by_cases h:v<0
   ·simp only[if_pos h];omega
   ·simp only[if_neg h];omega
theorem z9g (n d:Nat)(hd:d<=n)(o:Option Int):Mi.sIx n d o<=n:=by rw[<-z4e];exact HT.sIx_le n d hd o
theorem zb8 (z:Str)(lo hi:Option Int):Txt.slice z lo hi=z23 z lo hi:=by
 have hn:z.cps.toList.length=z.length:=by simp[Str.length]
 have e:(e7 lo hi 1 z.length).filterMap (z.cps[·]?)=Mi.cut z.cps.toList lo hi:=by rw[zc8,ky,pick_run];unfold Mi.cut;rw[hn]
 have hl:(e7 lo hi 1 z.length).length=Mi.sIx z.length z.length hi-Mi.sIx z.length 0 lo:=by rw[zc8,ky,aw,fq]
 unfold Txt.slice;split
 ·rename_i hc;simp only[beq_self_eq_true,Bool.true_and,beq_iff_eq]at hc;rw[hl]at hc;have h1:=z9g z.length 0 (d6 _) lo;have h2:=z9g z.length z.length (ag _) hi
  have e2:Mi.cut z.cps.toList lo hi=z.cps.toList:=by
   unfold Mi.cut;rw[hn];by_cases h0:Mi.sIx z.length 0 lo=0
   ·rw[h0,ig,dt (by rw[hn];omega)]
   ·have hz:z.length=0:=by omega
    have:z.cps.toList=[]:=f8.mp (by rw[hn];exact hz);rw[this];simp
  unfold z23;rw[e2]
 ·unfold z23;rw[<-e]
def rSlD (K:W.Frag):V->Option Int->Option Int->Hp->VK->Prop:=fun x lo hi H Q=>∃B dx d,Rep K H B x dx/\slD dx lo hi=.ok d/\∀w H',Same H H'->Rep K H' (fun a=>nw H a\/B a) w d->(∀ds,d=.list ds->imms ds=true->Rep K H' (nw H) w d)->Q w H'
theorem zlr:SlR X (rSlD X.K):=by
 intro pins s σ H x v vl vu lo hi sl Q I rx hs pl pu h;refine(zk4.or zhl) pins s σ H x v vl vu lo hi sl Q I rx hs pl pu ?_;obtain⟨B,dx,d,r,e,q⟩:=h;cases dx<;>try (cases e;done)
 case list xs=>cases e;obtain⟨a,vs,rfl,h1,q1⟩:=z17 r;refine .inl (.inl ⟨a,vs,rfl,h1,fun p hp=>?_⟩);rw[z8n];exact q _ _ (Same.upd hp) (z1f hp (q1.cut lo hi) (fun _ z=>.inr z) (.inl hp)) fun ds z hi'=>by cases z;exact z1f hp (Reps.immB (B':=nw H) _ hi' (q1.cut lo hi)) (fun _ z=>z) hp
 case tuple xs=>
  change(if sIx xs.length 0 lo=0/\sIx xs.length xs.length hi=xs.length then Res.no else Res.ok (PyData.tuple (cut xs lo hi)))=_ at e;split at e
  ·cases e
  ·rename_i hw;cases e;obtain⟨a,vs,rfl,h1,q1⟩:=r;refine .inr ⟨a,vs,rfl,h1,by rw[z4e,z4e,q1.length];exact hw,fun p hp=>?_⟩;rw[z8n];exact q _ _ (Same.upd hp) (z28 hp (q1.cut lo hi) fun _ z=>.inr z) fun ds z=>by cases z
 case str z=>
  change(if z.length<=LIM then Res.ok (PyData.str (z23 z lo hi))else .no)=_ at e;split at e
  ·rename_i hl;cases e;have e1:x=.str z:=r.1;subst e1;refine .inl (.inr ⟨z,rfl,z0e hl,?_⟩);rw[zb8];exact q _ H (Same.refl H) ⟨rfl,z8p r.2 lo hi⟩ fun ds z=>by cases z
  ·cases e
theorem z2p:PO X none (tDO X.K fun _=>.ok none):=PO.imp zdc fun σ H Q ⟨ρ,F,z,so,e,q⟩=>by cases e;exact q H (Same.refl H)
theorem zig (ha:PE X a (tD X.K fa)):PO X (some a) (tDO X.K fun ρ=>fa ρ>>=fun x=>intO x.2):=
 PO.imp (ze1 ha) fun σ H Q zz=>by
  obtain⟨ρ,F,z,so,e,q⟩:=zz;obtain⟨x,e1,e⟩:=Res.bind_ok e;refine⟨ρ,F,x,so,e1,fun v H1 s1 rv=>?_⟩;obtain⟨g,d⟩:=x;cases d<;>try (cases e;done)
  cases e;exact⟨_,rv,q H1 s1⟩
theorem d_sl {lo hi:Option Expr}{p2:Pos}{fl fh:Rho->Res (Option Int)}(ha:PE X a (tD X.K fa))(hl:PO X lo (tDO X.K fl))(hh:PO X hi (tDO X.K fh)):
  PE X (.Subscript a (.Slice lo hi none p2) pos) (tD X.K fun ρ=>fa ρ>>=fun x=>fl ρ>>=fun l=>fh ρ>>=fun h=>slD x.2 l h>>=fun d=>.ok (gN d (gAll [x]),d)):=
 PE.imp (zba zlr ha hl hh) fun σ H Q zz=>by
  obtain⟨ρ,F,z,so,e,q⟩:=zz;obtain⟨x,e1,e⟩:=Res.bind_ok e;obtain⟨l,e2,e⟩:=Res.bind_ok e;obtain⟨h,e3,e⟩:=Res.bind_ok e;obtain⟨d,e4,e⟩:=Res.bind_ok e;cases e;refine⟨ρ,F,x,so,e1,fun v H1 s1 rv=>⟨ρ,F,l,so.same s1,e2,fun H2 s2=>⟨ρ,F,h,so.same (s1.trans s2),e3,fun H3 s3=>⟨_,x.2,d,rv.same (s2.trans s3) fun _ z=>z,e4,fun w H4 s4 rw' nn=>q w H4 ((s1.trans (s2.trans s3)).trans s4) (zc4 rw' (fun a h=>?_) fun ds z hi=>(nn ds z hi).weak fun _ z=>nw.back (s1.trans (s2.trans s3)) z)⟩⟩⟩⟩;rcases h with h|h
  ·exact z38 so.vis (s1.trans (s2.trans s3)) h
  ·exact z45 so.vis (x:=x) (by simp) h
theorem Reps.pick {K:W.Frag}{H:Hp}{B:Ad->Prop}{vs:List V}{ds:List D}(r:Reps K H B vs ds):∀is:List Nat,Reps K H B (is.filterMap (vs[·]?)) (is.filterMap (ds[·]?))
 | []=>rfl
 |i::is=>by
  rw[du,du];cases h:ds[i]? with
  |some d=>obtain⟨v,h1,h2⟩:=r.get h;rw[h1];exact Reps.cons h2 (Reps.pick r is)
  |none=>
   have:vs[i]?=none:=by rw[dz]at h ⊢;rw[r.length];exact h
   rw[this];exact Reps.pick r is
theorem Vals.pick {vs:List V}{us:List Value}(r:Vals vs us):∀is:List Nat,Vals (is.filterMap (vs[·]?)) (is.filterMap (us[·]?))
 | []=>.nil
 |i::is=>by
  rw[du,du];cases h:vs[i]? with
  |some d=>obtain⟨v,h1,h2⟩:=r.get h;rw[h1];exact .cons h2 (Vals.pick r is)
  |none=>
   have:us[i]?=none:=by rw[dz]at h ⊢;rw[<-r.length];exact h
   rw[this];exact Vals.pick r is
theorem d_cB {x:Str}{id:String}{m:List D->Res D}{fs:Rho->Res (List GD)}(hc:CallR X (.builtin id) (zau X.K m))(hm:X.mg x=none)(hv:cv x=some (.builtin id))(ha:PA X (e::es) (tDA X.K fs))(hst:((e::es).all fun e=>!isStar e)=true)(hg:Gl X x)(hn:x≠"__name__")(hdb:(x==("__debug__":Str))=false){p:Pos}:
  PE X (.Call (.Name x p) (e::es) [] pos) (tD X.K fun ρ=>fs ρ>>=fun ys=>m (ys.map (·.2))>>=fun d=>.ok (gJ d .al,d)):=
 PE.imp (zdv hc hm hv ha hst hg hn hdb) fun σ H Q zz=>by obtain⟨ρ,F,z,so,e,q⟩:=zz;obtain⟨ys,e1,e⟩:=Res.bind_ok e;obtain⟨d,e2,e⟩:=Res.bind_ok e;cases e;exact⟨ρ,F,ys,so,e1,fun vs H1 s1 rs=>⟨_,_,d,rs.repsV so.vis,e2,fun w H2 s2 rw'=>q w H2 (s1.trans s2) (z1l rw' fun a h=>h.elim (fun z=>(nw.back s1 z).vis so.vis) fun z=>z)⟩⟩
theorem REs.length {K:W.Frag}{H:Hp}{B:Ad->Prop}:∀{kvs:List (Key×V)} {es:Ents},REs K H B kvs es->kvs.length=es.length
 |kvs,[],r=>by have e:kvs=[]:=r;subst e;rfl
 |kvs,(kd,d)::es,r=>by obtain⟨k,v,t,e,_,_,_,q⟩:=r;subst e;rw[bh,bh,q.length]
theorem zd5 {K:W.Frag}{H:Hp}{B:Ad->Prop}{xs:List V}{d:D}(r:Reps K H B xs [d]):∃v,xs=[v]/\Rep K H B v d:=by obtain⟨v,t,e,h,q⟩:=r;have e2:t=[]:=q;subst e e2;exact⟨v,rfl,h⟩
theorem z8k {K:W.Frag}{H:Hp}{B:Ad->Prop}{xs:List V}{d d':D}(r:Reps K H B xs [d,d']):∃v v',xs=[v,v']/\Rep K H B v d/\Rep K H B v' d':=by obtain⟨v,t,e,h,q⟩:=r;obtain⟨v',e2,h'⟩:=zd5 q;subst e e2;exact⟨v,v',rfl,h,h'⟩
theorem zdx:CallR X (.builtin "len") (zau X.K (biD "len")):=by
 refine CallR.imp (zcq.or z8y) fun xs H Q h=>?_;obtain⟨B,ds,d,r,e,q⟩:=h;simp only[biD,if_true]at e;split at e
 ·rename_i x;obtain⟨v,rfl,r1⟩:=zd5 r;clear r;have r:=r1;clear r1;cases x<;>try (cases e;done)
  case str z=>
   change(if z.length<=LIM then Res.ok (PyData.int z.length)else .no)=_ at e;split at e
   ·rename_i hl;cases e;have e1:v=.str z:=r.1;subst e1;exact .inl (.inl ⟨z,rfl,z0e hl,q _ H (Same.refl H) rfl⟩)
   ·cases e
  case tuple ds=>cases e;obtain⟨a,vs,rfl,h1,q1⟩:=r;exact .inl (.inr ⟨a,vs,rfl,.inr h1,q _ H (Same.refl H) (by rw[q1.length];exact rfl)⟩)
  case list ds=>cases e;obtain⟨a,vs,rfl,h1,q1⟩:=z17 r;exact .inl (.inr ⟨a,vs,rfl,.inl h1,q _ H (Same.refl H) (by rw[q1.length];exact rfl)⟩)
  case dict ds=>cases e;obtain⟨a,vs,rfl,h1,_,q1⟩:=r;exact .inr ⟨a,vs,rfl,h1,q _ H (Same.refl H) (by rw[q1.length];exact rfl)⟩
 ·cases e
theorem zg1 (hc:X.calm=true):CallR X (.builtin "max") (zau X.K (biD "max")):=by
 refine CallR.imp (z8t hc) fun xs H Q h=>?_;obtain⟨B,ds,d,r,e,q⟩:=h;simp only[biD,show("max":String)≠"len" by decide,if_true,if_false]at e;split at e
 ·rename_i i j;cases e;obtain⟨v,v',rfl,h1,h2⟩:=z8k r;have e1:v=.int i:=h1;have e2:v'=.int j:=h2;subst e1 e2;refine⟨i,j,rfl,q _ H (Same.refl H) ?_⟩;show V.int _=V.int _
  congr 1
  split<;>omega
 ·cases e
theorem z9o {prog:aq}{w:World}{A:bt}{E:Value->ac->Prop}{s:ac}{p:Addr}{a b:Int}{t u:Tok}{Q:Value->ac->Prop}(hh:A.handled=none)(hp:s.heap.IsTuple p #[.int a t,.int b u])
  (hQ:∀z h' tk,(∀c o,s.heap.get? c=some o->h'.get? c=some o)->Q (.int (if b<a then b else a) z) {s with heap:=h',toks:=tk}):wpAny (model prog w) A (call (.builtin "min") [.ref p]) Q E s:=by
 have ei:nh #[(a,t),(b,u)]=#[.int a t,.int b u]:=by simp[nh]
 have hp2:s.heap.IsTuple p (nh #[(a,t),(b,u)]):=by rw[ei];exact hp
 have lt:p<s.heap.objs.size:=by obtain⟨o,ho,_⟩:=hp;exact ax ho
 refine call_min_walk ?_;refine jb hp2 ?_;refine⟨_,[s.heap.objs.size,p],[s.heap.objs.size],_,_,_,_,rfl,Walks.tuple (A:=A.in1) hh _ p (bq lt) _,⟨⟨_,au _ rfl,rfl,rfl⟩,hp2.push _⟩,fun c hc=>?_,(by rw[ei];exact Nat.succ_pos 1),CmpOf.ints_lt (numAt #[(a,t),(b,u)]) (fun _ _=>intItems_at),fun v h' tk hP hk=>?_⟩
 ·rw[kt];simp only[bc,cr,or_false]at hc;rcases hc with rfl|rfl
  ·exact jr _
  ·exact mj lt
 ·have keep:∀c o,s.heap.get? c=some o->h'.get? c=some o:=fun c o e=>hk c o (fun z=>bx _ (ck.mp z▸ax e)) (ae _ e);have es:(nh #[(a,t),(b,u)]).size-1=1:=by rw[ei];rfl
  rw[es]at hP;by_cases hba:b<a
  ·have e1:argBest (fun i j=>decide (numAt #[(a,t),(b,u)] i<numAt #[(a,t),(b,u)] j)) 1=1:=by
    show(if decide (b<a)=true then 1 else 0)=1;rw[nv hba];rfl
   rw[e1,ei]at hP;cases(Option.some.inj hP);have:=hQ u h' tk keep
   rwa [if_pos hba]at this
  ·have e1:argBest (fun i j=>decide (numAt #[(a,t),(b,u)] i<numAt #[(a,t),(b,u)] j)) 1=0:=by
    show(if decide (b<a)=true then 1 else 0)=0;rw[ny hba];rfl
   rw[e1,ei]at hP;cases(Option.some.inj hP);have:=hQ t h' tk keep
   rwa [if_neg hba]at this
theorem z7e (hc:X.calm=true):CallR X (.builtin "min") (fun xs H Q=>∃p i j,xs=[.ref p]/\SqT X.K H p [.int i,.int j]/\Q (.int (if j<i then j else i)) H):=by intro pins s σ H xs us Q I r h;obtain⟨p,i,j,rfl,hq,q⟩:=h;obtain⟨u,rfl,r1⟩:=vals1 r;cases r1;obtain⟨its,rv,hp,_⟩:=I.tuple hq;obtain⟨a,b,rfl,⟨t,rfl⟩,⟨t',rfl⟩⟩:=vals2 rv;exact z9o (I.ok.hd hc) hp fun z h' tk k=>⟨.int (if j<i then j else i),H,I.kept k,⟨z,rfl⟩,q⟩
theorem zgm (hc:X.calm=true):CallR X (.builtin "min") (zau X.K (biD "min")):=by
 refine CallR.imp ((z88 hc).or (z7e hc)) fun xs H Q h=>?_;obtain⟨B,ds,d,r,e,q⟩:=h;replace e:minD ds=Res.ok d:=e;have mn:∀i j:Int,(if j<i then j else i)=min i j:=fun i j=>by split<;>omega
 have m2:∀{x y:D},min2 x y=.ok d->∃i j,x=.int i/\y=.int j/\d=.int (min i j):=fun{x y} h=>by
  cases x<;>try (exact(z0n h).elim)
  cases y<;>try (exact(z0n h).elim)
  cases h;exact⟨_,_,rfl,rfl,rfl⟩
 rcases ds with _|⟨a,_|⟨b,_|⟨c,ds⟩⟩⟩
 ·exact(z0n e).elim
 ·cases a<;>try (exact(z0n e).elim)
  rename_i ys;rcases ys with _|⟨a,_|⟨b,_|⟨c,ys⟩⟩⟩
  ·exact(z0n e).elim
  ·exact(z0n e).elim
  ·obtain⟨i,j,rfl,rfl,rfl⟩:=m2 e;obtain⟨v,rfl,p,vs,rfl,hq,rs⟩:=zd5 r;obtain⟨v1,v2,rfl,h1,h2⟩:=z8k rs;have e1:v1=.int i:=h1;have e2:v2=.int j:=h2;subst e1 e2;exact .inr ⟨p,i,j,rfl,hq,q _ H (Same.refl H) (show V.int _=V.int _ by rw[mn])⟩
  ·unfold minD vT at e;exact(z0n e).elim
 ·obtain⟨i,j,rfl,rfl,rfl⟩:=m2 e;obtain⟨v,v',rfl,h1,h2⟩:=z8k r;have e1:v=.int i:=h1;have e2:v'=.int j:=h2;subst e1 e2;exact .inl ⟨i,j,rfl,q _ H (Same.refl H) (show V.int _=V.int _ by rw[mn])⟩
 ·exact(z0n e).elim
theorem zac {pins:List (Addr×Obj)}{σ:L2.St}{H:Hp}{s:ac}{A:bt}{E:Value->ac->Prop}{Q:Value->ac->Prop}{B:Ad->Prop}{x:V}{u:Value}{d:D}{T:String}(I:Inv X pins σ H s)(rx:RelV x u)(r:Rep X.K H B x d)(hT:T∈tysB)
  (h:∀tk,Q (.bool (isTy (tyOf d) T)) {s with toks:=tk}):wpAny (model X.prog X.w) A (call (.builtin "isinstance") [u,.type T]) Q E s:=by
 have ht:tyOf d∈tysA:=by cases d<;>simp[tyOf,tysA]
 have e:W.kitOne X.K (.type (tyOf d)) (.type T)=some (isTy (tyOf d) T):=zcp X.K _ ht T hT;cases d with
 |none=>have e1:x=.non:=r;subst e1;exact z1b I rx .non e h
 |bool b=>have e1:x=.bl b:=r;subst e1;exact z1b I rx (.bl b) e h
 |int b=>have e1:x=.int b:=r;subst e1;exact z1b I rx (.int b) e h
 |str b=>have e1:x=.str b:=r.1;subst e1;exact z1b I rx (.str b) e h
 |tuple ds=>obtain⟨a,vs,e1,h1,_⟩:=r;subst e1;cases rx;obtain⟨_,_,⟨o,ho,hc,_⟩,_⟩:=I.tuple h1;exact W.kia_one W.kitx_tuple I.kIn ⟨o,ho,hc⟩ e (fun z=>nomatch z) h
 |list ds=>obtain⟨a,vs,e1,h1,_⟩:=z17 r;subst e1;cases rx;obtain⟨_,_,⟨o,_,ho,hc,_⟩,_⟩:=I.list h1;exact W.kia_one W.kitx_list I.kIn ⟨o,ho,hc⟩ e (fun z=>nomatch z) h
 |dict es=>obtain⟨a,vs,e1,h1,_⟩:=r;subst e1;exact z1b I rx (.dK h1) e h
def rIsD (K:W.Frag):List V->Hp->VK->Prop:=fun xs H Q=>∃B x d T,xs=[x,.ty T]/\Rep K H B x d/\T∈tysB/\Q (.bl (isTy (tyOf d) T)) H
theorem zb2:CallR X (.builtin "isinstance") (rIsD X.K):=by intro pins s σ H xs us Q I r h;obtain⟨B,x,d,T,rfl,rx,hT,q⟩:=h;obtain⟨u,w',rfl,r1,r2⟩:=vals2 r;obtain rfl:w'=Value.type T:=r2;exact zac I r1 rx hT fun tk=>⟨.bl _,H,I.tok _,rfl,q⟩
theorem zk2 {y:Expr}{T:String}{x2:Str}{p p2:Pos}(hm:X.mg "isinstance"=none)(hg:Gl X "isinstance")(hm2:X.mg x2=none)(hv2:cv x2=some (.type T))(hg2:Gl X x2)(hn2:x2≠"__name__")(hd2:(x2==("__debug__":Str))=false)(hT:T∈tysB)(hs:isStar y=false)(ha:PE X y (tD X.K fa)):
  PE X (.Call (.Name "isinstance" p) [y,.Name x2 p2] [] pos) (tD X.K fun ρ=>fa ρ>>=fun x=>.ok (.fr,.bool ([T].any fun T=>isTy (tyOf x.2) T))):=
 PE.imp (zdv zb2 hm (by decide+kernel) (pa_c ha (pa_c (zeb (v:=.ty T) hg2 hm2 hv2 rfl hn2 hd2) z46) hs) (by simp[hs];rfl) hg (by decide) (by decide)) fun σ H Q zz=>by obtain⟨ρ,F,z,so,e,q⟩:=zz;obtain⟨x,e1,e⟩:=Res.bind_ok e;cases e;refine⟨ρ,F,x,so,e1,fun v H1 s1 rv=>?_⟩;refine⟨_,v,x.2,T,rfl,rv,hT,q _ H1 s1 ?_⟩;show V.bl _=V.bl _;simp
end
section
variable {prog:aq}{w:World}{A:bt}{E:Value->ac->Prop}{s:ac}
theorem z68 {it l:Addr}{items:Array Value}(hne:l≠it):∀(n i:Nat) (s:ac) (Q:List Value->ac->Prop),s.heap.IsListIter it l i->s.heap.IsList l items->i+n<=items.size->
  (∀h',h'.IsListIter it l (i+n)->bd it s.heap h'->Q ((items.toList.drop i).take n) {s with heap:=h'})->wpAny (model prog w) A (draw (.ref it) n) Q E s
 |0,i,s,Q,hit,_,_,hQ=>by change wpAny _ _ (pure []) Q E s;apply aj;simpa using hQ s.heap hit (Heap.SameBut.refl ..)
 |n+1,i,s,Q,hit,hl,hle,hQ=>by
  have hlt:i<items.size:=by omega
  change wpAny _ _ (jz (.ref it)>>=_) Q E s;apply aa;refine j3 hit hl (x:=items[i]) (by simp[hlt]) fun h1 hit1 hs1=>?_;apply aa;refine df (z68 hne n (i+1) _ _ hit1 (hl.extBut hs1.extBut hne) (by omega) fun h2 hit2 hs2=>aj ?_);have hd:items.toList.drop i=items[i]::items.toList.drop (i+1):=by simp[gn,hlt]
  have z:=hQ h2 (by rw[show i+(n+1)=i+1+n by omega];exact hit2) (hs1.trans hs2);rw[hd,List.take_succ_cons]at z;exact z
theorem z2f {t:Addr}{items:Array Value}{Q:List Value->ac->Prop}(hh:A.handled=none)(hl:s.heap.IsList t items)
  (hQ:∀h',Heap.ExtBut s.heap.objs.size s.heap h'->Q items.toList {s with heap:=h'}):wpAny (model prog w) A (unpackItems (.ref t) items.size none) Q E s:=by
 have hlt:t≠s.heap.objs.size:=by obtain⟨o,ho,_⟩:=hl;exact bq (ax ho)
 have hl1:∀o,(s.heap.push o).IsList t items:=fun o=>hl.at fun _ e=>ae _ e
 delta unpackItems
 apply aa
 delta notIterableAtAll
 apply aa;refine wpAny_specialOf hl.typeIs slot_list_iter.lookup ?_;apply aj;simp only[l4,if_false];apply aa;refine df (gc hl ?_);apply aa;refine df (z68 hlt items.size 0 _ _ ⟨_,au _ rfl,rfl,rfl⟩ (hl1 _) (by omega) fun h1 hit1 hs1=>?_);have hall:List.take items.size (List.drop 0 items.toList)=items.toList:=by rw[ig];exact dt (by simp)
 rw[hall,if_neg (by simp)];apply aa;refine df (kj hh hit1 ((hl1 _).extBut hs1.extBut hlt) (by simp) fun h2 he2=>?_);simp only[Option.isSome_none,l4,if_false];exact aj (hQ h2 fun b o hb e=>he2 b o hb (hs1.extBut b o hb (ae _ e)))
end
section
variable {X:Cx}{pos:Pos}
def gLst (K:W.Frag)(n:Nat)(t:TGs):TG:=fun v σ H Q=>∃a xs,v=.ref a/\SqL K H a xs/\xs.length=n/\t xs σ H Q
theorem zih {es:List Expr}{k:Nat}{t:TGs}{n:Nat}(hc:X.calm=true)(h:PGs X es t)(hn:(dm es X.env).length=n)(hst:(dm es X.env).findIdx? (·.1)=none):PG X (.Tuple es k pos) (gLst X.K n t):=by
 intro pins s σ H v u Q I r hw;obtain⟨a,xs,e1,hq,hl,hw⟩:=hw;subst e1;cases r;obtain⟨its,rv,pl,hz⟩:=I.list hq;rw[assign_Tuple];apply aa;refine lu ?_
 delta unpack
 rw[hst,show(dm es X.env).length=its.toArray.size by rw[hn,<-hl,rv.length,ai]];apply aa;refine df (z2f (I.ok.hd hc) pl.isList fun h' hx=>?_);have I1:Inv X pins σ H {s with heap:=h'}:=I.kept (t':=s.toks) fun b o e=>hx b o (bq (ax e)) e;exact h pins _ σ H xs _ Q I1 (by simpa using rv) hw
end
def Kp (B:Ad->Prop)(H1 H2:Hp):Prop:=∀a o,H1 a=some o->(B (some a)\/Fix o)->H2 a=some o
theorem Kp.of {B:Ad->Prop}{H1 H2:Hp}(s:Same H1 H2):Kp B H1 H2:=fun a o e _=>s a o e
structure Walk (K:W.Frag)(J:It)(B:Ad->Prop)(H1:Hp)(xs:List D):Prop where
 len:xs.length<=az
 go:∀H2,Kp B H1 H2->∀i,i<xs.length->J.go i H2
 stop:∀H2,Kp B H1 H2->J.stop xs.length H2
 yld:∀H2,Kp B H1 H2->∀i x H3,i<xs.length->J.yld i H2 x H3->Same H2 H3/\∃d,xs[i]?=some d/\Rep K H3 B x d
def tDW (K:W.Frag)(f:Rho->Res (G×List D)):TI:=fun σ H R=>∃ρ F w,StOk K F H σ ρ/\f ρ=.ok w/\∀J B H',Same H H'->(∀a,B a->BG F H w.1 a/\¬nw H' a)->Walk K J B H' w.2->R J H'
theorem _root_.L2.PI.imp {X:Cx}{tg e:Expr}{t t':TI}(h:PI X tg e t)(i:∀σ H Q,t' σ H Q->t σ H Q):PI X tg e t':=fun pins s σ H Q I q=>h pins s σ H Q I (i σ H Q q)
section
variable {K:W.Frag}{H:Hp}{B:Ad->Prop}
theorem z7o {a:Addr}{vs:List V}{ds:List D}(h:(H a=some (.lst vs)/\B (some a))\/(FL K H a vs/\B none))(r:Reps K H B vs ds)(hz:ds.length<=az):Walk K (Itl K a) B H ds:=by
 have sq:∀H2,Kp B H H2->SqL K H2 a vs:=fun H2 k=>by
  rcases h with⟨h,b⟩|⟨⟨o,h⟩|h,_⟩
  ·exact .inl (.inl (k a _ h (.inl b)))
  ·exact .inl (.inr ⟨o,k a _ h (.inr True.intro)⟩)
  ·exact .inr h
 refine⟨hz,fun H2 k i hi=>?_,fun H2 k=>⟨vs,sq H2 k,by rw[r.length];exact ag _⟩,fun H2 k i x H3 hi y=>?_⟩
 ·have hv:i<vs.length:=by rw[r.length];exact hi
  exact⟨vs,vs[i],sq H2 k,by simp[hv]⟩
 ·obtain⟨e,y⟩:=y;subst e;have hx:=y vs (sq _ k);obtain⟨d,h1,h2⟩:=r.getV hx;exact⟨Same.refl _,d,h1,Rep.keep k (fun _ z=>z) d h2⟩
theorem zak {a:Addr}{vs:List V}{ds:List D}(h:SqT K H a vs)(r:Reps K H B vs ds)(hz:ds.length<=az):Walk K (Itt K a) B H ds:=by
 have sq:∀H2,Kp B H H2->SqT K H2 a vs:=fun H2 k=>h.keep k;refine⟨hz,fun H2 k i hi=>?_,fun H2 k=>⟨vs,sq H2 k,by rw[r.length];exact ag _⟩,fun H2 k i x H3 hi y=>?_⟩
 ·have hv:i<vs.length:=by rw[r.length];exact hi
  exact⟨vs,vs[i],sq H2 k,by simp[hv]⟩
 ·obtain⟨e,y⟩:=y;subst e;have hx:=y vs (sq _ k);obtain⟨d,h1,h2⟩:=r.getV hx;exact⟨Same.refl _,d,h1,Rep.keep k (fun _ z=>z) d h2⟩
theorem z9y {z:Str}(ok:PyData.strOk z=true)(hz:z.length<=az):Walk K (Its z) B H (z.cps.toList.map fun c=>.str ⟨#[c]⟩):=by
 have hl:(z.cps.toList.map fun c=>(PyData.str ⟨#[c]⟩:D)).length=z.cps.size:=by simp
 refine⟨by rw[hl];exact hz,fun H2 k i hi=>?_,fun H2 k=>?_,fun H2 k i x H3 hi y=>?_⟩
 ·rw[hl]at hi;exact hi
 ·show z.cps.size<=_;rw[hl];exact ag _
 ·obtain⟨e,c,hc,rfl⟩:=y;subst e;have hc':z.cps.toList[i]?=some c:=by simpa using hc
  refine⟨Same.refl _,.str ⟨#[c]⟩,by rw[a9,hc'];rfl,rfl,z4k ok (b7 hc')⟩
theorem z9w {lo:Int}{n:Nat}(hz:n<=az):Walk K (Itr lo n) B H ((b6 n).map fun(i:Nat)=>.int (lo+i)):=by
 have hl:((b6 n).map fun(i:Nat)=>(PyData.int (lo+i):D)).length=n:=by simp
 refine⟨by rw[hl];exact hz,fun H2 k i hi=>?_,fun H2 k=>?_,fun H2 k i x H3 hi y=>?_⟩
 ·rw[hl]at hi;exact hi
 ·show n<=_;rw[hl];exact ag _
 ·obtain⟨e,rfl⟩:=y;subst e;rw[hl]at hi;exact⟨Same.refl _,.int (lo+i),by rw[a9,lh hi];rfl,rfl⟩
end
section
variable {X:Cx}{tg a b c e:Expr}{es:List Expr}{fa fb fc:Rho->Res GD}{pos:Pos}
theorem z26 {pins:List (Addr×Obj)}{σ:L2.St}{H1:Hp}{s1:ac}{v:Value}{y:V}{B:Ad->Prop}{d:D}{xs:List D}{R:It->Hp->Prop}(I1:Inv X pins σ H1 s1)(r1:RelV y v)(rv:Rep X.K H1 B y d)(e:z3c d=.ok xs)
  (q:∀J,Walk X.K J B H1 xs->R J H1):wpAny (model X.prog X.w) X.A (j2 v) (PIE X pins σ tg R) X.xe s1:=by
 cases d<;>try (cases e;done)
 case list ds=>
  cases e;obtain⟨a,vs,rfl,h,rs⟩:=rv
  have hq:SqL X.K H1 a vs:=by
   rcases h with⟨h,_⟩|⟨h|h,_⟩
   ·exact .inl (.inl h)
   ·exact .inl (.inr h)
   ·exact .inr h
  cases r1;obtain⟨its,rv',p,hz⟩:=I1.list hq;refine gc p.isList ?_;refine⟨s1.heap.objs.size,[s1.heap.objs.size],_,_,H1,rfl,I1.kept (t':=s1.toks) fun b o e=>ae _ e,z96 a _,⟨_,au _ rfl,rfl,rfl⟩,fun b hb=>?_,q _ (z7o h rs (by rw[<-rs.length];exact hz))⟩;have e:b=s1.heap.objs.size:=by simpa using hb
  subst e;exact I1.fpOk (ag _) (I1.hok.fresh (ag _))
 case tuple ds=>
  cases e;obtain⟨a,vs,rfl,hq,rs⟩:=rv;cases r1;obtain⟨its,rv',p,hz⟩:=I1.tuple hq;refine jb (show s1.heap.IsTuple a its.toArray from p) ?_;refine⟨s1.heap.objs.size,[s1.heap.objs.size],_,_,H1,rfl,I1.kept (t':=s1.toks) fun b o e=>ae _ e,z6d a _,⟨_,au _ rfl,rfl,rfl⟩,fun b hb=>?_,q _ (zak hq rs (by rw[<-rs.length];exact hz))⟩;have e:b=s1.heap.objs.size:=by simpa using hb
  subst e;exact I1.fpOk (ag _) (I1.hok.fresh (ag _))
 case str z=>
  change(if z.length<=LIM then Res.ok (z.cps.toList.map fun c=>PyData.str ⟨#[c]⟩)else .no)=_ at e;split at e
  case isFalse=>cases e
  rename_i hs;cases e;have e1:y=.str z:=rv.1;subst e1;obtain⟨t,rfl⟩:=r1;have qz:=q _ (z9y rv.2 (z0e hs))
  have fin:∀(ty:String) (hty:ty="str_ascii_iterator"\/ty="str_iterator"),PIE X pins σ tg R (.ref s1.heap.objs.size) {s1 with heap:=s1.heap.push {cls:=.type ty,data:=.fields #[.str z t,.int 0 0]}}:=fun ty hty=>by
   refine⟨s1.heap.objs.size,[s1.heap.objs.size],_,_,H1,rfl,I1.kept (t':=s1.toks) fun b o e=>ae _ e,za2 hty _ z t,⟨_,au _ rfl,rfl,rfl⟩,fun b hb=>?_,qz⟩;have e:b=s1.heap.objs.size:=by simpa using hb
   subst e;exact I1.fpOk (ag _) (I1.hok.fresh (ag _))
  cases ha:z.cps.all (· <128)
  ·exact wpAny_pyIter_wide ha (fin _ (.inr rfl))
  ·exact wpAny_pyIter_ascii ha (fin _ (.inl rfl))
theorem w_tv (ha:PE X a (tD X.K fa)):PI X tg a (tDW X.K fun ρ=>fa ρ>>=fun x=>z3c x.2>>=fun xs=>.ok (x.1,xs)):=by intro pins s σ H R I h;obtain⟨ρ,F,w,so,e,q⟩:=h;obtain⟨x,e1,e⟩:=Res.bind_ok e;obtain⟨xs,e2,e⟩:=Res.bind_ok e;cases e;refine thn (ha pins s σ H (fun v H1=>Same H H1/\Rep X.K H1 (BG F H x.1) v x.2) I ⟨ρ,F,x,so,e1,fun v H1 s1 rv=>⟨s1,rv⟩⟩) fun v s1 zz=>?_;obtain⟨y,H1,I1,r1,s1',rv⟩:=zz;exact z26 I1 r1 (Rep.there _ rv) e2 fun J wk=>q J _ H1 s1' (fun _ z=>z) wk
theorem zi9 {n:Int}(h1:n<=LIM)(h2:-LIM<=n):-(2 ^ 62)<=n/\n<2 ^ 62:=by unfold LIM at *;omega
theorem RGs.one {K:W.Frag}{F:Fm}{H H':Hp}{vs:List V}{x:GD}(r:RGs K F H H' vs [x]):∃v,vs=[v]/\Rep K H' (BG F H x.1) v x.2:=by obtain⟨v,t,e,h,q⟩:=r;have e2:t=[]:=q;subst e e2;exact⟨v,rfl,h⟩
theorem RGs.two {K:W.Frag}{F:Fm}{H H':Hp}{vs:List V}{x y:GD}(r:RGs K F H H' vs [x,y]):∃v w,vs=[v,w]/\Rep K H' (BG F H x.1) v x.2/\Rep K H' (BG F H y.1) w y.2:=by obtain⟨v,t,e,h,q⟩:=r;obtain⟨w,e2,h2⟩:=q.one;subst e e2;exact⟨v,w,rfl,h,h2⟩
theorem zi4 {p:Pos}{fs:Rho->Res (List GD)}(hm:X.mg "range"=none)(hg:Gl X "range")(hs:isStar a=false)(ha:PA X [a] (tDA X.K fs))(hl:∀ρ ys,fs ρ=.ok ys->ys.length=1):PI X tg (.Call (.Name "range" p) [a] [] pos) (tDW X.K fun ρ=>fs ρ>>=fun ys=>rngD (ys.map (·.2))>>=fun xs=>.ok (.fr,xs)):=
 PI.imp (z9e hg hm ha (z09 hs)) fun σ H R zz=>by
  obtain⟨ρ,F,w,so,e,q⟩:=zz;obtain⟨ys,e1,e⟩:=Res.bind_ok e;obtain⟨xs,e2,e⟩:=Res.bind_ok e;cases e;refine⟨ρ,F,ys,so,e1,fun vs H1 s1 rs=>?_⟩;have hy:=hl ρ ys e1
  match ys,hy with
  | [(g,d)],hy1=>
   clear hy1;obtain⟨v,rfl,rv⟩:=rs.one;cases d<;>try (cases e2;done)
   rename_i n;have ev:v=.int n:=rv;subst ev;change(if n<=LIM/\-LIM<=n then Res.ok ((b6 n.toNat).map fun(i:Nat)=>PyData.int i)else .no)=_ at e2;split at e2
   case isFalse=>cases e2
   rename_i hn;cases e2;have h62:=zi9 hn.1 hn.2;refine⟨n,rfl,h62.1,h62.2,q _ (fun _=>False) H1 s1 (fun _ z=>z.elim) ?_⟩;have e0:((b6 n.toNat).map fun(i:Nat)=>(PyData.int i:D))=(b6 n.toNat).map fun(i:Nat)=>.int (0+i):=by apply li;intro i _;rw[Int.zero_add]
   show Walk X.K (Itr 0 n.toNat) _ H1 ((b6 n.toNat).map fun(i:Nat)=>(PyData.int i:D));rw[e0];exact z9w (z0e (by unfold LIM at *;omega))
def Fm.drop (F:Fm)(i:Nat):Fm:={F with O:=fun a=>if F.O a=some i then none else F.O a}
theorem Fm.drop_none {F:Fm}{i:Nat}{a:Addr}(h:F.O a=none):(F.drop i).O a=none:=by show(if F.O a=some i then none else F.O a)=none;rw[h];rfl
theorem Bin.drop {F:Fm}{i:Nat}{a:Ad}(h:Bin F a):Bin (F.drop i) a:=by
 cases a with
 |none=>exact h
 |some a=>exact⟨Fm.drop_none h.1,h.2⟩
theorem Slot.drop {K:W.Frag}{F:Fm}{H:Hp}{i j:Nat}{g:G}{v:V}{d:D}(hij:j≠i)(h:Slot K F H j g v d):Slot K (F.drop i) H j g v d:=by
 cases g with
 |fr=>
  obtain⟨p,e,o,h⟩:=h;refine⟨p,e,?_,?_⟩
  ·show(if F.O p=some i then none else F.O p)=some j;rw[o,if_neg (fun z=>hij (Option.some.inj z))]
  ·rcases h with⟨vs,ds,e1,e2,r⟩|⟨vs,ds,e1,e2,r⟩
   ·exact .inl ⟨vs,ds,e1,e2,r.weak fun _ b=>b.drop⟩
   ·exact .inr ⟨vs,ds,e1,e2,REs.same (fun _ _ e=>e) (fun _ b=>b.drop) r⟩
 |od=>exact h
 |al=>exact h
 |nu=>exact Rep.weak (fun _ b=>b.drop) h
def BI (F:Fm):G->Ad->Prop
 |.od=>oldA F
 |.fr=>visA F
 |.al=>visA F
 |.nu=>visA F
theorem BI.of {F:Fm}{H:Hp}{g:G}{a:Ad}(hv:∀a,H a=none->F.V a)(h:BG F H g a):BI F g a:=by
 cases g with
 |fr=>exact nw.vis hv h
 |od=>exact h
 |al=>exact h
 |nu=>exact h.elim (nw.vis hv) Bin.vis
theorem StOk.setI {K:W.Frag}{F:Fm}{H:Hp}{σ:L2.St}{ρ:Rho}{x:GD}{v:V}{i:Nat}(so:StOk K F H σ ρ)(r:Rep K H (BI F x.1) v x.2):StOk K (F.drop i) H (σ.set i (some v)) (ρ.set i (some (z1u x))) where
 ext:=so.ext
 vis:=so.vis
 own:=fun a j e=>by
  have e':F.O a=some j:=by
   have:(if F.O a=some i then none else F.O a)=some j:=e;split at this
   ·cases this
   ·exact this
  exact so.own a j e'
 len:=by rw[dj,dj];exact so.len
 sl:=fun j g d e=>by
  by_cases hj:i=j
  ·subst hj;rw[cx]at e;simp only[if_true]at e;split at e
   ·rename_i hl;have e1:z1u x=(g,d):=by simpa using e
    refine⟨v,?_,?_⟩
    ·rw[cx];simp[so.len,hl]
    ·obtain⟨gx,dx⟩:=x;cases gx with
     |fr=>cases e1;exact r
     |od=>cases e1;exact r
     |al=>cases e1;exact r
     |nu=>cases e1;exact r
   ·cases e
  ·rw[cg hj]at e ⊢;obtain⟨u,h1,h2⟩:=so.sl j g d e;exact⟨u,h1,h2.drop fun z=>hj z.symm⟩
structure Keeps (F F':Fm)(is:List Nat)(σ σ':L2.St):Prop where
 h0:F'.H0=F.H0
 v:F'.V=F.V
 z:F'.z=F.z
 o:∀a,F.O a=none->F'.O a=none
 len:σ'.length=σ.length
 rest:∀j,j∉is->σ'[j]?=σ[j]?
theorem Keeps.refl {F:Fm}{is:List Nat}{σ:L2.St}:Keeps F F is σ σ:=⟨rfl,rfl,rfl,fun _ h=>h,rfl,fun _ _=>rfl⟩
theorem Keeps.set {F:Fm}{is:List Nat}{i:Nat}{σ:L2.St}{v:Option V}(h:i∈is):Keeps F (F.drop i) is σ (σ.set i v):=⟨rfl,rfl,rfl,fun _ h=>Fm.drop_none h,dj,fun j hj=>cg fun z=>hj (by rw[<-z];exact h)⟩
theorem Keeps.trans {F F' F'':Fm}{is:List Nat}{σ σ' σ'':L2.St}(a:Keeps F F' is σ σ')(b:Keeps F' F'' is σ' σ''):Keeps F F'' is σ σ'':=⟨b.h0.trans a.h0,b.v.trans a.v,b.z.trans a.z,fun x h=>b.o x (a.o x h),b.len.trans a.len,fun j hj=>(b.rest j hj).trans (a.rest j hj)⟩
def tDG (K:W.Frag)(t:Tg):TG:=fun v σ H Q=>∃ρ F x ρ',StOk K F H σ ρ/\Rep K H (BI F x.1) v x.2/\z0s t x ρ=.ok ρ'/\∀σ' F',StOk K F' H σ' ρ'->Keeps F F' (tgIx t) σ σ'->Q σ' H
theorem _root_.L2.PG.imp {X:Cx}{e:Expr}{t t':TG}(h:PG X e t)(i:∀v σ H Q,t' v σ H Q->t v σ H Q):PG X e t':=fun pins s σ H v u Q I r q=>h pins s σ H v u Q I r (i v σ H Q q)
theorem _root_.L2.PGs.imp {X:Cx}{e:List Expr}{t t':TGs}(h:PGs X e t)(i:∀v σ H Q,t' v σ H Q->t v σ H Q):PGs X e t':=fun pins s σ H v u Q I r q=>h pins s σ H v u Q I r (i v σ H Q q)
theorem zi0 {i:Nat}{x:Str}(hN:X.N.Nodup)(hi:X.N[i]?=some x)(hx:Loc X.env.scope x)(hf:X.fn x=true\/X.env.scope.names.lookup x=some .local):PG X (.Name x pos) (tDG X.K (.nm i)):=PG.imp (z9f hN hi hx hf) fun v σ H Q zz=>by obtain⟨ρ,F,x,ρ',so,r,e,q⟩:=zz;cases e;exact q _ _ (so.setI r) (Keeps.set (by simp[tgIx]))
def tDGs (K:W.Frag)(all is:List Nat):TGs:=fun vs σ H Q=>∃ρ F g ds ρ',(∀i∈is,i∈all)/\StOk K F H σ ρ/\Reps K H (BI F g) vs ds/\z22 ρ is ds g=some ρ'/\∀σ' F',StOk K F' H σ' ρ'->Keeps F F' all σ σ'->Q σ' H
theorem zi6 {all:List Nat}:PGs X [] (tDGs X.K all []):=
 PGs.imp zd3 fun vs σ H Q zz=>by
  obtain⟨ρ,F,g,ds,ρ',_,so,r,e,q⟩:=zz;cases ds with
  |nil=>cases e;have e2:vs=[]:=r;exact⟨e2,q σ F so Keeps.refl⟩
  |cons d ds=>cases e
theorem zci {all is:List Nat}{i:Nat}{x:Str}{es:List Expr}{p:Pos}(hN:X.N.Nodup)(hi:X.N[i]?=some x)(hx:Loc X.env.scope x)(hf:X.fn x=true\/X.env.scope.names.lookup x=some .local)(h:PGs X es (tDGs X.K all is)):PGs X (.Name x p::es) (tDGs X.K all (i::is)):=
 PGs.imp (zb6 (z9f hN hi hx hf) h (by rfl)) fun vs σ H Q zz=>by
  obtain⟨ρ,F,g,ds,ρ',hin,so,r,e,q⟩:=zz;cases ds with
  |nil=>cases e
  |cons d ds=>
   obtain⟨v,t,rfl,h1,h2⟩:=r;refine⟨v,t,rfl,ρ.set i (some (z1u (gJ d g,d))),F.drop i,g,ds,ρ',fun j hj=>hin j (bg _ hj),?_,?_,e,fun σ' F' so' k=>q σ' F' so' ((Keeps.set (hin i ar)).trans k)⟩
   ·refine so.setI ?_;show Rep X.K H (BI F (gJ d g)) v d;unfold gJ;by_cases hi:imm d=true
    ·rw[if_pos hi];exact Rep.immB d hi h1
    ·rw[if_neg hi];exact h1
   ·exact h2.weak fun a b=>by cases g<;>exact b
theorem zlq {is:List Nat}{es:List Expr}{k:Nat}{n:Nat}(hc:X.calm=true)(h:PGs X es (tDGs X.K is is))(hn:(dm es X.env).length=n)(hst:(dm es X.env).findIdx? (·.1)=none)(hl:is.length=n):PG X (.Tuple es k pos) (tDG X.K (.tp is)):=
 fun pins s σ H v u Q I ru zz=>by
  obtain⟨ρ,F,x,ρ',so,r,e,q⟩:=zz;obtain⟨g,d⟩:=x
  have hlen:∀(is:List Nat) (ds:List D) (ρ ρ1:Rho),z22 ρ is ds g=some ρ1->is.length=ds.length:=by
   intro is
   induction is with
   |nil=>intro ds ρ ρ1 h;cases ds with
    |nil=>rfl
    |cons _ _=>cases h
   |cons i is ih=>intro ds ρ ρ1 h;cases ds with
    |nil=>cases h
    |cons d ds=>rw[bh,bh,ih ds _ _ h]
  have got:∀ds:List D,Res.ofO (z22 ρ is ds g)=.ok ρ'->z22 ρ is ds g=some ρ':=fun ds e=>by
   cases e1:z22 ρ is ds g with
   |none=>rw[e1]at e;cases e
   |some ρ1=>rw[e1]at e;rw[Res.ok.inj e]
  cases d<;>try (cases e;done)
  case tuple ds=>have e1:=got ds e;obtain⟨a,vs,rfl,h1,h2⟩:=r;exact zi2 hc h hn hst pins s σ H _ u Q I ru ⟨a,vs,rfl,h1,by rw[h2.length,<-hlen _ _ _ _ e1];exact hl,ρ,F,g,ds,ρ',fun _ h=>h,so,h2,e1,q⟩
  case list ds=>
   have e1:=got ds e;obtain⟨a,vs,rfl,h1,h2⟩:=r
   have h3:SqL X.K H a vs:=by
    rcases h1 with⟨h1,_⟩|⟨h1|h1,_⟩
    ·exact .inl (.inl h1)
    ·exact .inl (.inr h1)
    ·exact .inr h1
   exact zih hc h hn hst pins s σ H _ u Q I ru ⟨a,vs,rfl,h3,by rw[h2.length,<-hlen _ _ _ _ e1];exact hl,ρ,F,g,ds,ρ',fun _ h=>h,so,h2,e1,q⟩
theorem StOk.blk {K:W.Frag}{F:Fm}{H:Hp}{σ:L2.St}{ρ:Rho}(so:StOk K F H σ ρ)(nt:Nat)(js:List Nat)(l:Addr)(xs:List V)(hl:H l=none):
  StOk K {F with V:=fun a=>F.V a/\a≠l,O:=fun _=>none} (upd H l (.lst xs)) (emb nt js σ) (bo nt none++js.map fun j=>toAl (ρ.getD j none)) where
 ext:=fun a o e=>by have:=so.ext a o e;rw[z03 (z07 this hl)];exact this
 vis:=fun a e=>by
  by_cases h:a=l
  ·subst h;rw[z08]at e;cases e
  ·rw[z03 h]at e;exact⟨so.vis a e,h⟩
 own:=fun a i e=>by cases e
 len:=by unfold emb;simp
 sl:=fun i g d e=>by
  have hB:∀(a:Ad),visA F a/\¬nw H a->visA {F with V:=fun a=>F.V a/\a≠l,O:=fun _=>none} a:=fun a h=>by
   cases a with
   |none=>exact h.1
   |some a=>exact⟨h.1,fun z=>h.2 (by rw[z];exact hl)⟩
  have hB2:∀(a:Ad),oldA F a/\¬nw H a->oldA {F with V:=fun a=>F.V a/\a≠l,O:=fun _=>none} a:=fun a h=>by
   cases a with
   |none=>exact h.1
   |some a=>exact⟨h.1.1,h.1.2,fun z=>h.2 (by rw[z];exact hl)⟩
  rw[ir]at e;split at e
  ·rw[d9]at e;split at e<;>cases e
  ·rename_i hi;rw[b9]at hi e;rw[a9]at e;cases ej:js[i-nt]? with
   |none=>rw[ej]at e;cases e
   |some j=>
    rw[ej]at e;have e1:toAl (ρ.getD j none)=some (g,d):=Option.some.inj e;cases er:ρ[j]? with
    |none=>rw[av,er]at e1;cases e1
    |some o=>
     rw[av,er]at e1;cases o with
     |none=>cases e1
     |some gd=>
      obtain⟨g0,d0⟩:=gd;obtain⟨v,h1,h2⟩:=so.sl j g0 d0 er;refine⟨v,?_,?_⟩
      ·unfold emb;rw[cy (by rw[b9];omega),b9,a9,ej];show some (σ.getD j none)=_;rw[av,h1];rfl
      ·cases g0 with
       |fr=>cases e1;exact Rep.same (Same.upd hl) hB (Rep.there _ (h2.rep so.ownV))
       |od=>cases e1;exact Rep.same (Same.upd hl) hB2 (Rep.there _ h2)
       |al=>cases e1;exact Rep.same (Same.upd hl) hB (Rep.there _ h2)
       |nu=>cases e1;exact Rep.same (Same.upd hl) hB (Rep.there _ (h2.rep so.ownV))
theorem z2k {f:D->Res (Option GD)}:∀(l m:List D) (r:List GD),z1h f (l++m)=.ok r->∃r1 r2,z1h f l=.ok r1/\z1h f m=.ok r2/\r=r1++r2
 | [],m,r,h=>⟨[],r,rfl,h,rfl⟩
 |x::l,m,r,h=>by
  obtain⟨o,e1,h⟩:=Res.bind_ok h;obtain⟨r',e2,h⟩:=Res.bind_ok h;obtain⟨r1,r2,h1,h2,h3⟩:=z2k l m r' e2;subst h3;cases h;refine⟨oc o r1,r2,?_,h2,?_⟩
  ·show(f x>>=fun o=>z1h f l>>=fun r=>Res.ok (oc o r))=_;rw[e1,Res.ok_bind,h1,Res.ok_bind]
  ·cases o<;>rfl
theorem RGs.snoc {K:W.Frag}{F:Fm}{H H':Hp}:∀{vs:List V} {xs:List GD} {v:V} {x:GD},RGs K F H H' vs xs->Rep K H' (BG F H x.1) v x.2->RGs K F H H' (vs++[v]) (xs++[x])
 |vs,[],v,x,r,h=>by have e:vs=[]:=r;subst e;exact⟨v,[],rfl,h,rfl⟩
 |vs,y::ys,v,x,r,h=>by obtain⟨u,t,e,h1,q⟩:=r;subst e;exact⟨u,t++[v],rfl,h1,q.snoc h⟩
theorem RGs.keep {K:W.Frag}{F:Fm}{H H1 H2:Hp}(hk:∀a o (g:G),H1 a=some o->(BG F H g (some a)\/Fix o)->H2 a=some o):∀{vs:List V} {xs:List GD},RGs K F H H1 vs xs->RGs K F H H2 vs xs
 |vs,[],r=>r
 |vs,y::ys,r=>by obtain⟨u,t,e,h1,q⟩:=r;exact⟨u,t,e,Rep.keep (fun a o e b=>hk a o y.1 e b) (fun _ z=>z) _ h1,q.keep hk⟩
theorem RGs.len {K:W.Frag}{F:Fm}{H H':Hp}:∀{vs:List V} {xs:List GD},RGs K F H H' vs xs->vs.length=xs.length
 |vs,[],r=>by have e:vs=[]:=r;subst e;rfl
 |vs,y::ys,r=>by obtain⟨u,t,e,h1,q⟩:=r;subst e;rw[bh,bh,q.len]
theorem z48 {f:D->Res (Option GD)}:∀(l:List D) (r:List GD),z1h f l=.ok r->r.length<=l.length
 | [],r,h=>by cases h;exact ag _
 |x::l,r,h=>by
  obtain⟨o,e1,h⟩:=Res.bind_ok h;obtain⟨r',e2,h⟩:=Res.bind_ok h;have:=z48 l r' e2;cases h;cases o with
  |none=>exact b8 this (by simp)
  |some y=>simp only[oc,bh];omega
def z6c (nt:Nat)(js:List Nat)(t:Tg)(fw:Rho->Res (G×List D))(fc:Rho->Res Bool)(fe:Rho->Res GD):Rho->Res GD:=fun ρ=>fw ρ>>=fun w=>z1h (fun x=>z0s t (gJ x w.1,x) (bo nt none++js.map fun j=>toAl (ρ.getD j none))>>=fun ρ1=>fc ρ1>>=fun k=>if k then fe ρ1>>=fun y=>.ok (some y)else .ok none) w.2>>=fun ys=>.ok (gCo ys,.list (ys.map (·.2)))
def lcB (g:TG)(tc:TT)(te:TE)(em:L2.St->L2.St)(σ:L2.St)(Q:VK):It->Hp->Prop:=fun J H1=>∀l,H1 l=none->∃P:Nat->Nat->List V->Hp->Prop,(∃m,P 0 m [] (upd H1 l (.lst [])))/\∀i m acc H2,P i m acc H2->(J.stop i H2/\Q (.ref l) H2)\/(J.go i H2/\acc.length<az/\∃N:List V->Hp->Prop,(∀acc' H',N acc' H'->∃m',m'<m/\P (i+1) m' acc' H')/\∀x H3,J.yld i H2 x H3->g x (em σ) H3 fun σ4 H4=>Keep (em σ) σ4/\tc σ4 H4 fun b H5=>if b=true then te σ4 H5 fun y H6=>H6 l=some (.lst acc)/\N (acc++[y]) (upd H6 l (.lst (acc++[y])))else N acc H5)
abbrev CI (K:W.Frag)(F:Fm)(f:D->Res (Option GD))(ds:List D)(H1:Hp)(l:Nat)(i:Nat)(acc:List V)(H2:Hp):Prop:=H2 l=some (.lst acc)/\(∀a o,H1 a=some o->H2 a=some o)/\∃ys,z1h f (ds.take i)=.ok ys/\RGs K F (upd H1 l (.lst [])) H2 acc ys
theorem z6h {nt:Nat}{js:List Nat}{t:Tg}{fw:Rho->Res (G×List D)}{fc:Rho->Res Bool}{fe:Rho->Res GD}(ht0:∀i∈tgIx t,i<nt){σ:L2.St}{H:Hp}{Q:VK}{ρ:Rho}{F:Fm}{z:GD}(so:StOk X.K F H σ ρ)(e:z6c nt js t fw fc fe ρ=.ok z)(q:∀v H',Same H H'->Rep X.K H' (BG F H z.1) v z.2->Q v H'):
  ∃w,fw ρ=.ok w/\∀J B H',Same H H'->(∀a,B a->BG F H w.1 a/\¬nw H' a)->Walk X.K J B H' w.2->lcB (tDG X.K t) (tDT X.K fc) (tD X.K fe) (emb nt js) σ Q J H':=by
 obtain⟨w,e1,e⟩:=Res.bind_ok e;obtain⟨ysA,e2,e⟩:=Res.bind_ok e;cases e;refine⟨w,e1,fun J B H1 s1 hB wk l hl=>?_⟩;generalize hr:(bo nt none++js.map fun j=>toAl (ρ.getD j none))=ρ0 at e2;generalize hf:(fun x=>z0s t (gJ x w.1,x) ρ0>>=fun ρ1=>fc ρ1>>=fun k=>if k then fe ρ1>>=fun y=>Res.ok (some y)else .ok none)=f at e2;have so1:=so.same s1;have hpre:∀i,∃ys,z1h f (w.2.take i)=.ok ys:=fun i=>by rw[<-List.take_append_drop i w.2]at e2;obtain⟨r1,r2,h1,_,_⟩:=z2k _ _ _ e2;exact⟨r1,h1⟩
 let Fb:Fm:={F with V:=fun a=>F.V a/\a≠l,O:=fun _=>none}
 refine zjt (n:=w.2.length) (CI X.K Fb f w.2 H1 l) wk.len ?_ ?_ ?_ ?_ ?_
 ·exact⟨z08,fun a o e=>by rw[z03 (z07 e hl)];exact e,[],rfl,rfl⟩
 ·rintro i acc H2 ⟨_,_,ys,hy,rs⟩
  rw[rs.len];have:=z48 _ _ hy;rw[e8]at this;omega
 ·rintro acc H2 ⟨h1,h2,ys,hy,rs⟩
  rw[List.take_length]at hy;rw[e2]at hy;cases hy;have kp:Kp B H1 H2:=fun a o e _=>h2 a o e;refine⟨wk.stop H2 kp,q _ _ (fun a o e=>h2 a o (s1 a o e)) ?_⟩;have hHl:H l=none:=s1.none hl;refine⟨l,acc,rfl,.inl ⟨h1,?_⟩,rs.reps fun x hx a hb=>?_⟩
  ·show BG F H (gCo ysA) (some l);unfold gCo;split
   ·exact hHl
   ·exact so.vis l hHl
  ·unfold gCo;by_cases ea:(ysA.all fun x=>x.1==.fr)=true
   ·rw[if_pos ea];have hx1:x.1=.fr:=by simpa using bp.mp ea x hx
    rw[hx1]at hb;cases a with
    |none=>exact hb
    |some a=>
     have hb':upd H1 l (.lst []) a=none:=hb
     have:H1 a=none:=by
      by_cases hal:a=l
      ·subst hal;exact hl
      ·rw[z03 hal]at hb';exact hb'
     exact s1.none this
   ·rw[if_neg ea];have:visA Fb a:=BG.vis (F:=Fb) (H:=upd H1 l (.lst [])) (fun a e=>((so1.blk nt js l [] hl).vis a e)) hb;cases a with
    |none=>exact this
    |some a=>exact this.1
 ·rintro i acc H2 hi ⟨_,h2,_⟩
  exact wk.go H2 (fun a o e _=>h2 a o e) i hi
 ·rintro i acc H2 x H3 hi ⟨h1,h2,ys,hy,rs⟩ y
  obtain⟨s3,d,hd,rx⟩:=wk.yld H2 (fun a o e _=>h2 a o e) i x H3 hi y;obtain⟨ys',hy'⟩:=hpre (i+1);have htk:w.2.take (i+1)=w.2.take i++[d]:=by rw[List.take_add_one,hd];rfl
  rw[htk]at hy';obtain⟨r1,r2,g1,g2,g3⟩:=z2k _ _ _ hy';rw[hy]at g1;cases g1;obtain⟨o,g4,g2⟩:=Res.bind_ok g2;obtain⟨r3,g5,g2⟩:=Res.bind_ok g2;cases g5;rw[<-hf]at g4;obtain⟨ρ1,k1,g4⟩:=Res.bind_ok g4;obtain⟨k,k2,g4⟩:=Res.bind_ok g4
  have sb:StOk X.K Fb H3 (emb nt js σ) ρ0:=by
   rw[<-hr];refine(so1.blk nt js l acc hl).same fun a o e=>s3 a o ?_;by_cases hal:a=l
   ·subst hal;rw[z08]at e;rw[h1];exact e
   ·rw[z03 hal]at e;exact h2 a o e
  have rx':Rep X.K H3 (BI Fb (gJ d w.1)) x d:=by
   unfold gJ;by_cases hi:imm d=true
   ·rw[if_pos hi];exact Rep.immB d hi rx
   ·rw[if_neg hi];refine rx.weak fun a b=>?_;obtain⟨b1,b2⟩:=hB a b;have b3:=BI.of so.vis b1;cases a with
    |none=>cases hw:w.1<;>rw[hw]at b3<;>exact b3
    |some a=>
     have hal:a≠l:=fun z=>b2 (by show H1 a=none;rw[z];exact hl);cases hw:w.1<;>rw[hw]at b3
     ·exact⟨b3,hal⟩
     ·exact⟨b3.1,b3.2,hal⟩
     ·exact⟨b3,hal⟩
     ·exact⟨b3,hal⟩
  refine⟨_,Fb,(gJ d w.1,d),ρ1,sb,rx',k1,fun σ4 F4 so4 kps=>⟨⟨kps.len.symm,fun j v hj=>?_⟩,ρ1,F4,k,so4,k2,fun H5 s5=>?_⟩⟩
  ·by_cases hjt:j∈tgIx t
   ·have :=ht0 j hjt;unfold emb at hj;rw[e9 (by rw[b9];exact this),d9,if_pos this]at hj;cases hj
   ·rw[kps.rest j hjt];exact hj
  ·have h5:∀a o,H1 a=some o->H5 a=some o:=fun a o e=>s5 a o (s3 a o (h2 a o e));have h5l:H5 l=some (.lst acc):=s5 _ _ (s3 _ _ h1);have rs5:RGs X.K Fb (upd H1 l (.lst [])) H5 acc ys:=rs.keep fun a o g e _=>s5 a o (s3 a o e);cases k with
   |false=>cases g4;cases g2;refine iteF ⟨h5l,h5,ys,?_,rs5⟩;rw[htk,hy',g3];simp[oc]
   |true=>
    obtain⟨yv,k3,g4⟩:=Res.bind_ok g4;cases g4;cases g2;refine iteT ⟨ρ1,F4,yv,so4.same s5,k3,fun v H6 s6 rv=>⟨s6 _ _ h5l,z08,fun a o e=>?_,ys++[yv],?_,?_⟩⟩
    ·rw[z03 (z07 e hl)];exact s6 a o (h5 a o e)
    ·rw[htk,hy',g3];rfl
    ·have h6l:=s6 _ _ h5l
     have hk:∀a o (g:G),H6 a=some o->(BG Fb (upd H1 l (.lst [])) g (some a)\/Fix o)->upd H6 l (.lst (acc++[v])) a=some o:=fun a o g e b=>by
      have hal:a≠l:=by
       intro z;subst z;rcases b with b|b
       ·cases g with
        |fr=>have b':upd H1 a (.lst []) a=none:=b;rw[z08]at b';cases b'
        |od=>exact b.2.2 rfl
        |al=>exact b.2 rfl
        |nu=>
         rcases b with b|b
         ·have b':upd H1 a (.lst []) a=none:=b;rw[z08]at b';cases b'
         ·exact b.2.2.2 rfl
       ·rw[h6l]at e;cases e;exact b
      rw[z03 hal];exact e
     have rs6:RGs X.K Fb (upd H1 l (.lst [])) H6 acc ys:=rs5.keep fun a o g e _=>s6 a o e
     have rv':Rep X.K H6 (BG Fb (upd H1 l (.lst [])) yv.1) v yv.2:=by
      refine rv.weak fun a b=>?_;cases hg:yv.1 with
      |fr=>
       rw[hg]at b;cases a with
       |none=>exact b
       |some a=>
        have b':H5 a=none:=b;show upd H1 l (.lst []) a=none;have hal:a≠l:=fun z=>by rw[z,h5l]at b';cases b'
        rw[z03 hal];cases e1:H1 a with
        |none=>rfl
        |some o=>rw[h5 a o e1]at b';cases b'
      |nu=>
       rw[hg]at b;cases a with
       |none=>exact b
       |some a=>
        rcases b with b|b
        ·have b':H5 a=none:=b;refine .inl ?_;show upd H1 l (.lst []) a=none;have hal:a≠l:=fun z=>by rw[z,h5l]at b';cases b'
         rw[z03 hal];cases e1:H1 a with
         |none=>rfl
         |some o=>rw[h5 a o e1]at b';cases b'
        ·refine .inr ⟨rfl,?_,?_⟩
         ·have:=b.2.1;rw[kps.h0]at this;exact this
         ·have:=b.2.2;rw[kps.v]at this;exact this
      |od=>
       rw[hg]at b;cases a with
       |none=>have b1:F4.z:=b;rw[kps.z]at b1;exact b1
       |some a=>have b1:F4.H0 a≠none/\F4.V a:=b;rw[kps.h0,kps.v]at b1;exact b1
      |al=>
       rw[hg]at b;cases a with
       |none=>have b1:F4.z:=b;rw[kps.z]at b1;exact b1
       |some a=>have b1:F4.V a:=b;rw[kps.v]at b1;exact b1
     exact(rs6.snoc rv').keep hk
theorem z77 {nt:Nat}{js:List Nat}{t:Tg}{fw:Rho->Res (G×List D)}{fc:Rho->Res Bool}{fe:Rho->Res GD}(ht0:∀i∈tgIx t,i<nt):∀σ H Q,tD X.K (z6c nt js t fw fc fe) σ H Q->tLC (tDW X.K fw) (tDG X.K t) (tDT X.K fc) (tD X.K fe) (emb nt js) σ H Q:=by intro σ H Q h;obtain⟨ρ,F,z,so,e,q⟩:=h;obtain⟨w,e1,h⟩:=z6h (X:=X) (js:=js) (fw:=fw) (fc:=fc) (fe:=fe) ht0 so e q;exact⟨ρ,F,w,so,e1,h⟩
theorem zca {scope:Scope}{N':List Str}{nt:Nat}{js:List Nat}{t:Tg}{iter elt:Expr}{ifs:List Expr}{fw:Rho->Res (G×List D)}{fc:Rho->Res Bool}{fe:Rho->Res GD}(hc:X.calm=true)(Bk:BlkScope X scope N' nt js)(ht0:∀i∈tgIx t,i<nt)(hi:PI X tg iter (tDW X.K fw))
  (hg:∀C fp s H,PG (blk X scope N' C fp s H) tg (tDG X.K t)) (ht:∀C fp s H,PTs (blk X scope N' C fp s H) ifs (tDT X.K fc)) (he:∀C fp s H,PE (blk X scope N' C fp s H) elt (tD X.K fe)) (hs:∀x,d8 iter X.env x=pure x):
  PE X (.ListComp elt [⟨tg,iter,ifs,0⟩] scope pos) (tD X.K (z6c nt js t fw fc fe))/\∀σ H Q,tD X.K (z6c nt js t fw fc fe) σ H Q->tLC (tDW X.K fw) (tDG X.K t) (tDT X.K fc) (tD X.K fe) (emb nt js) σ H Q:=by
 have main:=z77 (X:=X) (js:=js) (fw:=fw) (fc:=fc) (fe:=fe) ht0;exact⟨PE.imp (zay hc Bk hi hg ht he hs) main,main⟩
end
def BC (H:Hp)(A:Ad->Prop):G->Ad->Prop
 |.fr=>nw H
 |.od=>fun a=>nw H a\/A a
 |.al=>fun a=>nw H a\/A a
 |.nu=>nw H
def spD (K:W.Frag)(n:Nat)(m:Fn):Sp:=fun vs H Q _=>∃A ds x,vs.length=n/\Reps K H A vs ds/\m ds=.ok x/\∀v H',Same H H'->Rep K H' (BC H A x.1) v x.2->Q v H'
section
variable {X:Cx}{tg a b c e o:Expr}{es:List Expr}{fa fb fc:Rho->Res GD}{pos:Pos}
theorem zgr {x:Str}{k k' n:Nat}{ps:List Str}{m:Fn}{fs:Rho->Res (List GD)}{p:Pos}(Cc:Cal X.prog X.w X.K X.mg X.base k x ps (spD X.K n m))(hr:Room k' X.A)(hk:k<=k')(ha:PA X (e::es) (tDA X.K fs))(hst:((e::es).all fun e=> !isStar e)=true)(hg:Gl X x)(hdb:(x==("__debug__":Str))=false)
  (hl:∀ρ ys,fs ρ=.ok ys->ys.length=n):PE X (.Call (.Name x p) (e::es) [] pos) (tD X.K fun ρ=>fs ρ>>=fun ys=>m (ys.map (·.2))>>=fun r=>.ok (gJ r.2 (rtG r.1),r.2)):=
 PE.imp (z5o Cc hr ha hst hk hg hdb) fun σ H Q zz=>by
  obtain⟨ρ,F,z,so,e,q⟩:=zz;obtain⟨ys,e1,e⟩:=Res.bind_ok e;obtain⟨r,e2,e⟩:=Res.bind_ok e;cases e;refine⟨ρ,F,ys,so,e1,fun vs H1 s1 rs=>?_⟩;show spD X.K n m (vs++[]) H1 Q E0;rw[eh];refine⟨_,_,r,by rw[rs.len];exact hl ρ ys e1,rs.repsV so.vis,e2,fun v H2 s2 rv=>q v H2 (s1.trans s2) (z1l rv fun a h=>?_)⟩;have al:(nw H1 a\/visA F a)->visA F a:=fun h=>h.elim (fun h=>(nw.back s1 h).vis so.vis) fun h=>h;cases hg:r.1 with
  |fr=>rw[hg]at h;exact nw.back s1 h
  |od=>rw[hg]at h;exact al h
  |al=>rw[hg]at h;exact al h
  |nu=>rw[hg]at h;exact nw.back s1 h
def rMt (K:W.Frag)(m:String):V->List V->Hp->VK->Prop:=fun x xs H Q=>∃B B' dx ds d,Rep K H B x dx/\Reps K H B' xs ds/\mtD m dx ds=.ok d/\∀w H',Same H H'->Rep K H' (fun a=>nw H a\/B a\/B' a) w d->Q w H'
theorem z3r {o:Expr}{n:Str}{env:Env}{w:Sem Value}(h:z4w o=true):lq o n env w=w:=by
 unfold lq;split
 ·rename_i id p pos;cases h
 ·rfl
theorem z5q {pos:Pos}{env:Env}:∀{es:List Expr},(es.all fun e=> !isStar e)=true->(iu pos (cw es env)).all (fun x=> !x.1)=true
 | [],_=>rfl
 |e::es,h=>by have h:=ao.mp (cj▸h);rw[z09 (by simpa using h.1)];show(true&&(iu pos (cw es env)).all (fun x=>!x.1))=true;rw[z5q h.2];rfl
theorem z4s {cpos:Pos}{env:Env}{es:List Expr}(h:(es.all fun e=> !isStar e)=true)(hl:es.length<20):((iu cpos (cw es env)).all (fun x=> !x.1)&&(backToKw cpos (my [] env)).all (fun x=>x.1.isSome)
  &&decide (es.length+([]:List j4).length+(if([]:List j4).isEmpty then 0 else 1)<30))=true:=by
 rw[z5q h];show(true&&true&&decide (es.length+0+0<30))=true;rw[nv (by omega)];rfl
theorem d_mt {m T id:String}{n:Str}{apos cpos:Pos}{fs:Rho->Res (List GD)}(pa:PlainAttrs T)(slot:PySem.Slot T n id)(hty:typeOf (.builtin id)=pure (.type "method_descriptor"))(hm:MtR X id (rMt X.K m))(hT:∀H B x dx ds d,Rep X.K H B x dx->mtD m dx ds=.ok d->tyV X.K T x H)
  (ho:PE X o (tD X.K fa)) (ha:PA X (e::es) (tDA X.K fs)) (hns:z4w o=true) (hst:((e::es).all fun e=>!isStar e)=true) (hl:(e::es).length<20) (hline:(apos.endLine==cpos.line)=true):
  PE X (.Call (.Attribute o n apos) (e::es) [] cpos) (tD X.K fun ρ=>fa ρ>>=fun x=>fs ρ>>=fun ys=>mtD m x.2 (ys.map (·.2))>>=fun d=>.ok (gJ d .al,d)):=by
 have hst':=hst;rw[cj,a8]at hst';refine PE.imp (z6z pa slot hty hm ho ha (z3r hns) (z4s hst hl) hline (z09 (by simpa using hst'.1)) (z0w hst'.2)) fun σ H Q zz=>?_;obtain⟨ρ,F,z,so,e,q⟩:=zz;obtain⟨x,e1,e⟩:=Res.bind_ok e;obtain⟨ys,e2,e⟩:=Res.bind_ok e;obtain⟨d,e3,e⟩:=Res.bind_ok e;cases e;refine⟨ρ,F,x,so,e1,fun v H1 s1 rv=>⟨hT H1 _ v x.2 _ d rv e3,ρ,F,ys,so.same s1,e2,fun vs H2 s2 rs=>?_⟩⟩;refine⟨_,_,x.2,_,d,rv.same s2 fun _ z=>z,rs.repsV (so.same s1).vis,e3,fun w H3 s3 rw'=>q w H3 ((s1.trans s2).trans s3) (z1l rw' fun a h=>?_)⟩;rcases h with h|h|h
 ·exact(nw.back (s1.trans s2) h).vis so.vis
 ·exact h.vis so.vis
 ·exact h
theorem zls (hu:X.A.units+64<cLine):MtR X "dict.get" (rMt X.K "get"):=by
 intro pins s σ H x xs v us Q I rx rs h;obtain⟨B,B',dx,ds,d,r1,r2,e,q⟩:=h;simp only[mtD,if_true]at e;split at e
 ·rename_i es k d0;split at e
  case isFalse=>cases e
  rename_i hk;cases e;obtain⟨vk,vd,rfl,h1,h2⟩:=z8k r2;obtain⟨kk,rfl,rfl,_⟩:=z35 hk h1;obtain⟨a,kvs,rfl,g1,_,g2⟩:=r1;cases rx;obtain⟨u1,u2,rfl,q1,q2⟩:=vals2 rs;have hv:=g2.val kk;refine zh4 (by omega) I (DGet.k g1) q1 q2 fun w' s' I' rw'=>⟨_,H,I',rw',q _ H (Same.refl H) ?_⟩;cases e3:z19 es (kD kk)with
  |none=>rw[e3]at hv;rw[show valV kvs kk=none from hv];exact h2.weak fun _ z=>.inr (.inr z)
  |some d'=>rw[e3]at hv;obtain⟨w,h3,h4⟩:=hv;rw[h3];exact h4.weak fun _ z=>.inr (.inl z)
 ·cases e
theorem zf7 {H:Hp}{B:Ad->Prop}{x:V}{dx d:D}{ds:List D}(r:Rep X.K H B x dx)(e:mtD "get" dx ds=.ok d):tyV X.K "dict" x H:=by
 simp only[mtD,if_true]at e;split at e
 ·obtain⟨a,kvs,rfl,g1,_,_⟩:=r;exact .inr (.inr (.inl ⟨rfl,.inl ⟨kvs,g1⟩⟩))
 ·cases e
end
section
variable {X:Cx}{o:Expr}{fa:Rho->Res GD}
end
def Frm (F:Fm)(H:Hp)(F':Fm)(H':Hp):Prop:=∀a o,H a=some o->F.O a=none->H' a=some o/\F'.O a=none
theorem Frm.refl {F:Fm}{H:Hp}:Frm F H F H:=fun _ _ e o=>⟨e,o⟩
theorem Frm.trans {F F' F'':Fm}{H H' H'':Hp}(a:Frm F H F' H')(b:Frm F' H' F'' H''):Frm F H F'' H'':=fun x o e n=>by obtain⟨e1,n1⟩:=a x o e n;exact b x o e1 n1
theorem Frm.same {F:Fm}{H H':Hp}(s:Same H H'):Frm F H F H':=fun a o e n=>⟨s a o e,n⟩
def Run (F F':Fm):Prop:=Same F.H0 F'.H0/\F'.V=F.V/\F'.z=F.z
theorem Run.refl {F:Fm}:Run F F:=⟨fun _ _ e=>e,rfl,rfl⟩
theorem Run.trans {F F' F'':Fm}(a:Run F F')(b:Run F' F''):Run F F'':=⟨fun x o e=>b.1 x o (a.1 x o e),b.2.1.trans a.2.1,b.2.2.trans a.2.2⟩
theorem Run.of {F F':Fm}(h:F'.H0=F.H0)(v:F'.V=F.V)(z:F'.z=F.z):Run F F':=⟨fun _ _ e=>by rw[h];exact e,v,z⟩
def BR (F:Fm):G->Ad->Prop
 |.fr=>fun a=>match a with|some a=>F.H0 a=none|none=>False
 |.od=>visA F
 |.al=>visA F
 |.nu=>fun a=>match a with|some a=>F.H0 a=none|none=>False
def z4l (K:W.Frag)(F:Fm)(H:Hp)(D:Ends):Out->Prop
 |.nx ρ'=>∀σ' H' F',StOk K F' H' σ' ρ'->Run F F'->Frm F H F' H'->D.nx σ' H'
 |.bk ρ'=>∀σ' H' F',StOk K F' H' σ' ρ'->Run F F'->Frm F H F' H'->D.bk σ' H'
 |.ct ρ'=>∀σ' H' F',StOk K F' H' σ' ρ'->Run F F'->Frm F H F' H'->D.ct σ' H'
 |.rt g d=>∀v H',(∀a o,F.H0 a=some o->H' a=some o)->Rep K H' (BR F g) v d->D.rt v H'
def tDS (K:W.Frag)(f:Rho->Res Out):TS:=fun D σ H=>∃ρ F out,StOk K F H σ ρ/\f ρ=.ok out/\z4l K F H D out
theorem none_of {H H':Hp}{a:Addr}(s:Same H H')(h:H' a=none):H a=none:=by
 cases e:H a with
 |none=>rfl
 |some o=>rw[s a o e]at h;cases h
theorem BR.run {F F':Fm}(r:Run F F'){g:G}{a:Ad}(h:BR F' g a):BR F g a:=by obtain⟨r1,r2,r3⟩:=r;cases g<;>cases a<;>first|exact h|(exact none_of r1 h)|(have h':F'.V _:=h;rw[r2]at h';exact h')|(have h':F'.z:=h;rw[r3]at h';exact h')
theorem z4l.back {K:W.Frag}{F F':Fm}{H H':Hp}{D:Ends}{out:Out}(r:Run F F')(f:Frm F H F' H')(h:z4l K F H D out):z4l K F' H' D out:=by
 cases out with
 |nx ρ'=>exact fun σ'' H'' F'' so r2 f2=>h σ'' H'' F'' so (r.trans r2) (f.trans f2)
 |bk ρ'=>exact fun σ'' H'' F'' so r2 f2=>h σ'' H'' F'' so (r.trans r2) (f.trans f2)
 |ct ρ'=>exact fun σ'' H'' F'' so r2 f2=>h σ'' H'' F'' so (r.trans r2) (f.trans f2)
 |rt g d=>exact fun v H'' k rv=>h v H'' (fun a o e=>k a o (r.1 a o e)) (rv.weak fun _ b=>b.run r)
section
variable {X:Cx}{tg a b c e:Expr}{es:List Expr}{fa fb fc:Rho->Res GD}{pos:Pos}{st:Stmt}{rest A Bs:List Stmt}{fs gs:Rho->Res Out}
theorem zkt:PSs X [] (tDS X.K fun ρ=>.ok (.nx ρ)):=PSs.imp zde fun D σ H ⟨ρ,F,out,so,e,q⟩=>by cases e;exact q σ H F so Run.refl Frm.refl
theorem zl6 (h1:PS X st (tDS X.K fs))(h2:PSs X rest (tDS X.K gs)):PSs X (st::rest) (tDS X.K fun ρ=>outB (fs ρ) gs):=
 PSs.imp (z6a h1 h2) fun D σ H zz=>by
  obtain⟨ρ,F,out,so,e,q⟩:=zz;have e:outB (fs ρ) gs=.ok out:=e;cases e1:fs ρ with
  |no=>rw[e1]at e;cases e
  |exc x=>rw[e1]at e;cases e
  |ok o1=>
   rw[e1]at e;cases o1 with
   |nx ρ1=>exact⟨ρ,F,.nx ρ1,so,e1,fun σ' H' F' so' r f=>⟨ρ1,F',out,so',e,q.back r f⟩⟩
   |bk ρ1=>cases e;exact⟨ρ,F,.bk ρ1,so,e1,q⟩
   |ct ρ1=>cases e;exact⟨ρ,F,.ct ρ1,so,e1,q⟩
   |rt g d=>cases e;exact⟨ρ,F,.rt g d,so,e1,q⟩
theorem s_if {ft:Rho->Res Bool}(hc:PT X c (tDT X.K ft))(ha:PSs X A (tDS X.K fs))(hb:PSs X Bs (tDS X.K gs)):PS X (.If c A Bs pos) (tDS X.K fun ρ=>ft ρ>>=fun k=>if k then fs ρ else gs ρ):=
 PS.imp (zjo hc ha hb) fun D σ H zz=>by
  obtain⟨ρ,F,out,so,e,q⟩:=zz;obtain⟨k,e1,e⟩:=Res.bind_ok e;refine⟨ρ,F,k,so,e1,fun H1 s1=>?_⟩;cases k with
  |true=>exact iteT ⟨ρ,F,out,so.same s1,e,q.back Run.refl (Frm.same s1)⟩
  |false=>exact iteF ⟨ρ,F,out,so.same s1,e,q.back Run.refl (Frm.same s1)⟩
theorem zic {K:W.Frag}{F:Fm}{H H':Hp}{g:G}{v:V}{d:D}(so:∀a o,F.H0 a=some o->H a=some o)(hv:∀a,H a=none->F.V a)(r:Rep K H' (BG F H g) v d):Rep K H' (BR F (rtG g)) v d:=by
 refine r.weak fun a b=>?_;cases g with
 |fr=>
  cases a with
  |none=>exact b
  |some a=>show F.H0 a=none;exact Same.none so b
 |od=>exact oldA.vis b
 |al=>exact b
 |nu=>
  cases a with
  |none=>exact b.elim id id
  |some a=>exact b.elim (fun b=>Same.none so b) fun b=>b.2.1
theorem zj3 (ha:PE X e (tD X.K fa)):PS X (.Return (some e) pos) (tDS X.K fun ρ=>fa ρ>>=fun x=>.ok (.rt (rtG x.1) x.2)):=PS.imp (zbv ha) fun D σ H zz=>by obtain⟨ρ,F,out,so,e,q⟩:=zz;obtain⟨x,e1,e⟩:=Res.bind_ok e;cases e;exact⟨ρ,F,x,so,e1,fun v H1 s1 rv=>q v H1 (fun a o e=>s1 a o (so.ext a o e)) (zic so.ext so.vis rv)⟩
theorem Slot.ret {K:W.Frag}{F:Fm}{H:Hp}{i:Nat}{g:G}{v:V}{d:D}(so:∀a i,F.O a=some i->F.H0 a=none/\F.V a)(h:Slot K F H i g v d):Rep K H (BR F (if imm d then .fr else rtG g)) v d:=by
 by_cases hi:imm d=true
 ·rw[if_pos hi];exact Rep.immB d hi (h.rep fun a i e=>(so a i e).2)
 ·rw[if_neg hi];cases g with
  |fr=>
   obtain⟨p,e,o,h⟩:=h
   have hb:∀a,Bin F a->BR F .fr a:=fun a b=>by
    cases a with
    |none=>exact b
    |some a=>exact b.2.1
   rcases h with⟨vs,ds,rfl,e2,r⟩|⟨vs,ds,rfl,e2,r⟩
   ·exact⟨p,vs,e,.inl ⟨e2,(so _ _ o).1⟩,r.weak hb⟩
   ·exact⟨p,vs,e,e2,(so _ _ o).1,REs.same (fun _ _ e=>e) hb r⟩
  |od=>exact Rep.weak (fun _ b=>b.vis) h
  |al=>exact h
  |nu=>
   refine Rep.weak (fun a b=>?_) h;cases a with
   |none=>exact b
   |some a=>exact b.2.1
theorem zbx {i:Nat}{x:Str}{p:Pos}(hN:X.N[i]?=some x)(hv:Vis X.env.scope x)(hd:(x==("__debug__":Str))=false)(hcd:(x==("__classdict__":Str))=false):
  PS X (.Return (some (.Name x p)) pos) (tDS X.K fun ρ=>match ρ[i]? with|some (some (g,d))=>.ok (.rt (if imm d then .fr else rtG g) d)|_=>.no):=
 PS.imp (zbv (z2q hN hv hd hcd)) fun D σ H zz=>by
  obtain⟨ρ,F,out,so,e,q⟩:=zz;have e:(match ρ[i]? with|some (some (g,d))=>Res.ok (Out.rt (if imm d then .fr else rtG g) d)|_=>.no)=.ok out:=e;cases e1:ρ[i]? with
  |none=>rw[e1]at e;cases e
  |some o=>
   rw[e1]at e;cases o with
   |none=>cases e
   |some gd=>obtain⟨g,d⟩:=gd;cases e;obtain⟨v,h1,h2⟩:=so.sl i g d e1;exact⟨v,h1,q v H so.ext (h2.ret fun a i e=>⟨(so.own a i e).1,(so.own a i e).2.1⟩)⟩
theorem REs.immB {K:W.Frag}{H:Hp}{B B':Ad->Prop}:∀{kvs:List (Key×V)} (es:Ents),immE es=true->REs K H B kvs es->REs K H B' kvs es
 |kvs,[],_,r=>r
 |kvs,(kd,d)::es,i,r=>by unfold immE at i;rw[cj,a8]at i;obtain⟨k,v,t,e,e2,ok,h,q⟩:=r;exact⟨k,v,t,e,e2,ok,Rep.immB d i.1 h,REs.immB es i.2 q⟩
theorem StOk.nwBin {K:W.Frag}{F:Fm}{H:Hp}{σ:L2.St}{ρ:Rho}(so:StOk K F H σ ρ){a:Ad}(h:nw H a):Bin F a:=by
 cases a with
 |none=>exact h
 |some a=>
  have h:H a=none:=h;refine⟨?_,Same.none so.ext h,so.vis a h⟩;cases e1:F.O a with
  |none=>rfl
  |some j=>obtain⟨_,_,z⟩:=so.own a j e1;rcases z with⟨xs,z⟩|⟨xs,z⟩<;>rw[h]at z<;>cases z
theorem StOk.setN {K:W.Frag}{F:Fm}{H:Hp}{σ:L2.St}{ρ:Rho}{d:D}{v:V}{i:Nat}(so:StOk K F H σ ρ)(r:Rep K H (Bin F) v d):StOk K (F.drop i) H (σ.set i (some v)) (ρ.set i (some (.nu,d))):=by
 have z:=so.setI (i:=i) (x:=(.al,d)) (v:=v) (Rep.weak (fun _ b=>Bin.vis b) r);refine⟨z.ext,z.vis,z.own,by rw[dj,dj];exact so.len,fun j g d' e=>?_⟩;by_cases hj:i=j
 ·subst hj;rw[cx]at e;simp only[if_true]at e;split at e
  ·rename_i hl;cases e;exact⟨v,by rw[cx];simp[so.len,hl],Rep.weak (fun _ b=>b.drop) r⟩
  ·cases e
 ·refine z.sl j g d' ?_;rw[cg hj]at e ⊢;exact e
def Fm.take (F:Fm)(i:Nat)(p:Addr):Fm:={F with O:=fun a=>if a=p then some i else if F.O a=some i then none else F.O a}
theorem Frm.drop {F:Fm}{H H':Hp}{i:Nat}(s:Same H H'):Frm F H (F.drop i) H':=fun a o e n=>⟨s a o e,Fm.drop_none n⟩
theorem StOk.setA {K:W.Frag}{F:Fm}{H H1:Hp}{σ:L2.St}{ρ:Rho}{x:GD}{v:V}{i:Nat}(so:StOk K F H σ ρ)(s1:Same H H1)(r:Rep K H1 (BG F H x.1) v x.2):
  ∃F',StOk K F' H1 (σ.set i (some v)) (ρ.set i (some (z12 x)))/\Run F F'/\Frm F H F' H1:=by
 have so1:=so.same s1;obtain⟨g,d⟩:=x
 have plain:z12 (g,d)=z1u (if imm d then .al else rdG g,d)->∃F',StOk K F' H1 (σ.set i (some v)) (ρ.set i (some (z12 (g,d))))/\Run F F'/\Frm F H F' H1:=fun e=>by
  rw[e];refine⟨F.drop i,so1.setI ?_,Run.of rfl rfl rfl,Frm.drop s1⟩;show Rep K H1 (BI F (if imm d then .al else rdG g)) v d;by_cases hi:imm d=true
  ·rw[if_pos hi];exact Rep.immB d hi r
  ·rw[if_neg hi];cases g with
   |fr=>exact r.weak fun _ b=>nw.vis so.vis b
   |od=>exact r
   |al=>exact r
   |nu=>exact r.weak fun _ b=>b.elim (nw.vis so.vis) Bin.vis
 have nuc:z12 (g,d)=(.nu,d)->(∀a,BG F H g a->Bin F a)->∃F',StOk K F' H1 (σ.set i (some v)) (ρ.set i (some (z12 (g,d))))/\Run F F'/\Frm F H F' H1:=fun e hb=>by rw[e];exact⟨F.drop i,so1.setN (Rep.weak hb r),Run.of rfl rfl rfl,Frm.drop s1⟩
 have own:∀(p:Addr),F.O p=none->H p=none->F.H0 p=none->F.V p->v=.ref p->z12 (g,d)=(.fr,d)->(∀F':Fm,(∀a,Bin F a\/nw H a->a≠some p->Bin F' a)->F'.O p=some i->Slot K F' H1 i .fr v d)->(((∃xs,H1 p=some (.lst xs))\/∃kvs,H1 p=some (.dK kvs)))->
   ∃F',StOk K F' H1 (σ.set i (some v)) (ρ.set i (some (z12 (g,d))))/\Run F F'/\Frm F H F' H1:=fun p hOp hHp hH0 hVp ev es hsl hobj=>by
  have hdr:∀a,a≠p->(F.take i p).O a=(F.drop i).O a:=fun a ha=>by show(if a=p then some i else _)=_;rw[if_neg ha];rfl
  have hnw:∀a,H a=none->F.O a=none:=fun a e=>by
   cases e1:F.O a with
   |none=>rfl
   |some j=>obtain⟨_,_,h⟩:=so.own a j e1;rcases h with⟨xs,h⟩|⟨xs,h⟩<;>rw[e]at h<;>cases h
  have hnw0:∀a,H a=none->F.H0 a=none:=fun a e=>Same.none so.ext e
  have hbin:∀a,Bin F a\/nw H a->a≠some p->Bin (F.take i p) a:=fun a b hne=>by
   cases a with
   |none=>exact b.elim id id
   |some a=>have hap:a≠p:=fun z=>hne (by rw[z]);have hb:F.O a=none/\F.H0 a=none/\F.V a:=b.elim id fun b=>⟨hnw a b,hnw0 a b,so.vis a b⟩;exact⟨by rw[hdr a hap];exact Fm.drop_none hb.1,hb.2⟩
  have hOp':(F.take i p).O p=some i:=by show(if p=p then some i else _)=_;rw[if_pos rfl]
  refine⟨F.take i p,⟨so1.ext,so1.vis,fun a j e=>?_,by rw[dj,dj];exact so.len,fun j g' d' e=>?_⟩,Run.of rfl rfl rfl,fun a o e n=>⟨s1 a o e,?_⟩⟩
  ·by_cases hap:a=p
   ·subst hap;exact⟨hH0,hVp,hobj⟩
   ·rw[hdr a hap]at e
    have e':F.O a=some j:=by
     have:(if F.O a=some i then none else F.O a)=some j:=e;split at this
     ·cases this
     ·exact this
    exact so1.own a j e'
  ·by_cases hj:i=j
   ·subst hj;rw[cx]at e;simp only[if_true]at e;split at e
    ·rename_i hl;have e1:z12 (g,d)=(g',d'):=by simpa using e
     rw[es]at e1;cases e1;exact⟨v,by rw[cx];simp[so.len,hl],hsl _ hbin hOp'⟩
    ·cases e
   ·rw[cg hj]at e ⊢;obtain⟨u,h1,h2⟩:=so.sl j g' d' e;refine⟨u,h1,?_⟩;cases g' with
    |fr=>
     obtain⟨p',e1,o1,h3⟩:=h2;have hpp:p'≠p:=fun z=>by rw[z,hOp]at o1;cases o1
     refine⟨p',e1,?_,?_⟩
     ·rw[hdr p' hpp];show(if F.O p'=some i then none else F.O p')=some j;rw[o1,if_neg (fun z=>hj (Option.some.inj z).symm)]
     ·have hb':∀(a:Ad),Bin F a/\¬nw H a->Bin (F.take i p) a:=fun a b=>hbin a (.inl b.1) fun z=>b.2 (by rw[z];exact hHp);rcases h3 with⟨vs,ds,e3,e2,r3⟩|⟨vs,ds,e3,e2,r3⟩
      ·exact .inl ⟨vs,ds,e3,s1 _ _ e2,Reps.same s1 hb' (Reps.there _ r3)⟩
      ·exact .inr ⟨vs,ds,e3,s1 _ _ e2,REs.same s1 hb' (REs.there _ r3)⟩
    |od=>exact Rep.same s1 (fun _ b=>b) h2
    |al=>exact Rep.same s1 (fun _ b=>b) h2
    |nu=>exact Rep.same s1 (fun a b=>hbin a (.inl b.1) fun z=>b.2 (by rw[z];exact hHp)) (Rep.there _ h2)
  ·have hap:a≠p:=fun z=>by rw[z,hHp]at e;cases e
   rw[hdr a hap];exact Fm.drop_none n
 have hOn:∀p,H p=none->F.O p=none:=fun p hHp=>by
  cases e1:F.O p with
  |none=>rfl
  |some j=>obtain⟨_,_,h'⟩:=so.own p j e1;rcases h' with⟨xs,h'⟩|⟨xs,h'⟩<;>rw[hHp]at h'<;>cases h'
 by_cases hi:imm d=true
 ·exact plain (by show(if imm d then _ else _)=_;rw[if_pos hi];show _=z1u (if imm d then _ else _,d);rw[if_pos hi];rfl)
 ·cases g with
  |od=>exact plain (by delta z12;simp only[if_neg hi];rfl)
  |al=>exact plain (by delta z12;simp only[if_neg hi];cases d<;>rfl)
  |nu=>exact nuc (by delta z12;simp only[if_neg hi]) fun a b=>b.elim so.nwBin id
  |fr=>
   cases d with
   |none=>exact absurd rfl hi
   |bool b=>exact absurd rfl hi
   |int b=>exact absurd rfl hi
   |str b=>exact absurd rfl hi
   |tuple ds=>exact nuc (by delta z12;simp only[if_neg hi]) fun a b=>so.nwBin b
   |list ds=>
    by_cases him:imms ds=true
    ·obtain⟨p,vs,ev,h,rs⟩:=r;rcases h with⟨h,b⟩|⟨_,b⟩
     ·have hHp:H p=none:=b;exact own p (hOn p hHp) hHp (Same.none so.ext hHp) (so.vis p hHp) ev (by delta z12;simp only[if_neg hi,if_pos him]) (fun F' hb ho=>⟨p,ev,ho,.inl ⟨vs,ds,rfl,h,Reps.immB ds him rs⟩⟩) (.inl ⟨vs,h⟩)
     ·exact b.elim
    ·exact nuc (by delta z12;simp only[if_neg hi,if_neg him]) fun a b=>so.nwBin b
   |dict es=>
    by_cases him:immE es=true
    ·obtain⟨p,kvs,ev,h,b,rs⟩:=r;have hHp:H p=none:=b;exact own p (hOn p hHp) hHp (Same.none so.ext hHp) (so.vis p hHp) ev (by delta z12;simp only[if_neg hi,if_pos him]) (fun F' hb ho=>⟨p,ev,ho,.inr ⟨kvs,es,rfl,h,REs.immB es him rs⟩⟩) (.inr ⟨kvs,h⟩)
    ·exact nuc (by delta z12;simp only[if_neg hi,if_neg him]) fun a b=>so.nwBin b
theorem zbl {K:W.Frag}{i:Nat}{te:TE}(h:∀σ H Q,tD K fa σ H Q->te σ H Q)(D:Ends)(σ:L2.St)(H:Hp)(q:tDS K (fun ρ=>fa ρ>>=fun x=>.ok (.nx (ρ.set i (some (z12 x))))) D σ H):te σ H fun v H1=>D.nx (σ.set i (some v)) H1:=by obtain⟨ρ,F,out,so,e,q⟩:=q;obtain⟨x,e1,e⟩:=Res.bind_ok e;cases e;refine h σ H _ ⟨ρ,F,x,so,e1,fun v H1 s1 rv=>?_⟩;obtain⟨F',so',r,f⟩:=so.setA (i:=i) s1 rv;exact q _ H1 F' so' r f
theorem zhj {i:Nat}{x:Str}{px:Pos}(hN:X.N.Nodup)(hi:X.N[i]?=some x)(hx:Loc X.env.scope x)(hf:X.fn x=true\/X.env.scope.names.lookup x=some .local)(hs:i5 e (some (.Name x px)) pos.line X.env=pure false)(ha:PE X e (tD X.K fa)):
  PS X (.Assign [.Name x px] e pos) (tDS X.K fun ρ=>fa ρ>>=fun x=>.ok (.nx (ρ.set i (some (z12 x))))):=
 PS.imp (zfl hN hi hx ha hs hf) fun D σ H q=>zbl (fun _ _ _ h=>h) D σ H q
theorem zhv {is:List Nat}{te:Expr}(hg:PG X te (tDG X.K (.tp is)))(ha:PE X e (tD X.K fa))(hs:ll [te] e pos.line X.env=pure false)(hw:lm [te] e X.env=pure none)(h1:(dm [te] X.env).map (·.2)=[jx te X.env]):
  PS X (.Assign [te] e pos) (tDS X.K fun ρ=>fa ρ>>=fun x=>z0s (.tp is) x ρ>>=fun ρ'=>.ok (.nx ρ')):=
 PS.imp (zfk ha hg hs hw h1) fun D σ H zz=>by obtain⟨ρ,F,out,so,e,q⟩:=zz;obtain⟨x,e1,e⟩:=Res.bind_ok e;obtain⟨ρ',e2,e⟩:=Res.bind_ok e;cases e;refine⟨ρ,F,x,so,e1,fun v H1 s1 rv=>⟨ρ,F,x,ρ',so.same s1,rv.weak fun _ b=>BI.of so.vis b,e2,fun σ' F' so' kps=>?_⟩⟩;exact q σ' H1 F' so' (Run.of kps.h0 kps.v kps.z) fun a o e n=>⟨s1 a o e,kps.o a n⟩
theorem StOk.settle {K:W.Frag}{F:Fm}{H:Hp}{σ:L2.St}{ρ:Rho}(so:StOk K F H σ ρ)(hn:noOwn ρ=true):StOk K ⟨H,F.V,fun _=>none,F.z⟩ H σ (ρ.map Mi.settle):=by
 refine⟨fun _ _ e=>e,so.vis,fun a i e=>(by cases e),(by rw[aw];exact so.len),fun i g d e=>?_⟩;rw[a9]at e;cases e2:ρ[i]? with
 |none=>rw[e2]at e;cases e
 |some sl=>
  rw[e2]at e;have e3:Mi.settle sl=some (g,d):=Option.some.inj e;have hf:=bp.mp hn sl (b7 e2);cases sl with
  |none=>cases e3
  |some x=>
   obtain⟨g0,d0⟩:=x
   have old:∀{B:Ad->Prop} {v:V},(∀a,B a->visA F a)->Rep K H B v d0->Rep K H (oldA ⟨H,F.V,fun _=>none,F.z⟩) v d0:=fun hB h=>(Rep.there d0 h).weak fun a b=>by
    obtain⟨b1,b2⟩:=b;cases a with
    |none=>exact hB _ b1
    |some a=>exact⟨b2,hB _ b1⟩
   obtain⟨v,hv,h⟩:=so.sl i g0 d0 e2;cases g0 with
   |fr=>cases hf
   |od=>cases e3;exact⟨v,hv,old (fun a b=>by cases a with|none=>exact b|some a=>exact b.2) h⟩
   |nu=>cases e3;exact⟨v,hv,old (fun a b=>Bin.vis b) h⟩
   |al=>
    cases hi:imm d0 with
    |true=>
     have e4:Mi.settle (some (.al,d0))=some (.al,d0):=by show(if imm d0=true then _ else _)=_;rw[hi];rfl
     rw[e4]at e3;cases e3;exact⟨v,hv,h⟩
    |false=>
     have e4:Mi.settle (some (.al,d0))=some (.od,d0):=by show(if imm d0=true then _ else _)=_;rw[hi];rfl
     rw[e4]at e3;cases e3;exact⟨v,hv,old (fun _ b=>b) h⟩
theorem StOk.settleA {K:W.Frag}{F:Fm}{H:Hp}{σ:L2.St}{ρ:Rho}(so:StOk K F H σ ρ):StOk K ⟨H,F.V,fun _=>none,F.z⟩ H σ (ρ.map Mi.settleA):=by
 refine⟨fun _ _ e=>e,so.vis,fun a i e=>(by cases e),(by rw[aw];exact so.len),fun i g d e=>?_⟩;rw[a9]at e;cases e2:ρ[i]? with
 |none=>rw[e2]at e;cases e
 |some sl=>
  rw[e2]at e;have e3:Mi.settleA sl=some (g,d):=Option.some.inj e;cases sl with
  |none=>cases e3
  |some x=>
   obtain⟨g0,d0⟩:=x;obtain⟨v,hv,h⟩:=so.sl i g0 d0 e2;have r:=h.rep fun a i e=>(so.own a i e).2.1;have e3:(if imm d0 then some (G.al,d0)else some (G.od,d0))=some (g,d):=e3;refine⟨v,hv,?_⟩;split at e3
   ·cases e3;exact r
   ·cases e3
    exact Rep.weak (B':=oldA ⟨H,F.V,fun _=>none,F.z⟩) (fun a b=>by
     obtain⟨b1,b2⟩:=b;cases a with
     |none=>exact b1
     |some a=>exact⟨b2,b1⟩) (Rep.there _ r)
theorem z2d {K:W.Frag}{F:Fm}{H H1:Hp}{σ:L2.St}{ρ:Rho}{y:GD}{u:V}(so:StOk K F H σ ρ)(h:okIn y=true)(r:Rep K H1 (BG F H y.1) u y.2):Rep K H1 (Bin F) u y.2:=by
 obtain⟨g,d⟩:=y;rcases db.mp h with hi|hg
 ·exact Rep.immB d hi r
 rcases db.mp hg with h|h
 ·cases eq_of_beq h;exact Rep.weak (fun a b=>so.nwBin b) r
 ·cases eq_of_beq h;exact Rep.weak (fun a b=>b.elim so.nwBin id) r
theorem StOk.mutate {K:W.Frag}{F:Fm}{H:Hp}{σ:L2.St}{ρ:Rho}{i:Nat}{p:Addr}{d':D}{o':HO}(so:StOk K F H σ ρ)(hO:F.O p=some i)(hσ:σ[i]?=some (some (.ref p)))(ho':(∃xs,o'=.lst xs)\/∃kvs,o'=.dK kvs)
  (hs:Slot K F (upd H p o') i .fr (.ref p) d'):StOk K F (upd H p o') σ ((ρ.set i (some (.fr,d'))).map z0m)/\Frm F H F (upd H p o'):=by
 obtain⟨h0,hV,hobj⟩:=so.own p i hO;have hne:∀a,F.O a=none->a≠p:=fun a e z=>by rw[z,hO]at e;cases e
 have hfix:∀a o,H a=some o->Fix o->a≠p:=fun a o e f z=>by subst z;rcases hobj with⟨xs,h⟩|⟨xs,h⟩<;>rw[e]at h<;>cases h<;>exact f
 have frm:Frm F H F (upd H p o'):=fun a o e n=>⟨by rw[z03 (hne a n)];exact e,n⟩;refine⟨⟨fun a o e=>?_,fun a e=>?_,fun a j e=>?_,by rw[aw,dj];exact so.len,fun j g d e=>?_⟩,frm⟩
 ·have hap:a≠p:=fun z=>by rw[z,h0]at e;cases e
  rw[z03 hap];exact so.ext a o e
 ·by_cases hap:a=p
  ·subst hap;exact hV
  ·rw[z03 hap]at e;exact so.vis a e
 ·obtain⟨x1,x2,x3⟩:=so.own a j e;refine⟨x1,x2,?_⟩;by_cases hap:a=p
  ·subst hap;rw[z08];rcases ho' with⟨xs,rfl⟩|⟨xs,rfl⟩
   ·exact .inl ⟨xs,rfl⟩
   ·exact .inr ⟨xs,rfl⟩
  ·rw[z03 hap];exact x3
 ·rw[a9]at e;by_cases hj:i=j
  ·subst hj;have hl:i<ρ.length:=by rw[<-so.len];exact(bu.mp hσ).1
   rw[cx]at e;simp only[if_true,hl]at e;have e1:z0m (some (.fr,d'))=some (g,d):=by simpa using e
   cases e1;exact⟨_,hσ,hs⟩
  ·rw[cg hj]at e;cases e2:ρ[j]? with
   |none=>rw[e2]at e;cases e
   |some sl=>
    rw[e2]at e;have e3:z0m sl=some (g,d):=by simpa using e
    cases sl with
    |none=>cases e3
    |some gd=>
     obtain⟨g0,d0⟩:=gd;obtain⟨v,h1,h2⟩:=so.sl j g0 d0 e2;refine⟨v,h1,?_⟩;cases g0 with
     |fr=>
      cases e3;obtain⟨p',e4,o4,h3⟩:=h2;have hpp:p'≠p:=fun z=>by rw[z,hO]at o4;exact hj (Option.some.inj o4)
      have hk:∀a o,H a=some o->(Bin F (some a)\/Fix o)->upd H p o' a=some o:=fun a o e b=>by have:a≠p:=b.elim (fun b=>hne a b.1) fun f=>hfix a o e f;rw[z03 this];exact e
      refine⟨p',e4,o4,?_⟩;rcases h3 with⟨vs,ds,e5,e6,r⟩|⟨vs,ds,e5,e6,r⟩
      ·exact .inl ⟨vs,ds,e5,by rw[z03 hpp];exact e6,Reps.keep hk (fun _ z=>z) ds r⟩
      ·exact .inr ⟨vs,ds,e5,by rw[z03 hpp];exact e6,REs.keep hk (fun _ z=>z) ds r⟩
     |od=>cases e3;exact Rep.keep (fun a o e b=>by have:a≠p:=b.elim (fun b z=>by have b1:F.H0 a≠none/\F.V a:=b;rw[z]at b1;exact b1.1 h0) fun f=>hfix a o e f;rw[z03 this];exact e) (fun _ z=>z) _ h2
     |nu=>cases e3;exact Rep.keep (fun a o e b=>by have:a≠p:=b.elim (fun b=>hne a b.1) fun f=>hfix a o e f;rw[z03 this];exact e) (fun _ z=>z) _ h2
     |al=>
      change(if imm d0 then some (G.al,d0)else none)=_ at e3;split at e3
      ·rename_i him;cases e3;exact Rep.immK (fun a o e f=>by rw[z03 (hfix a o e f)];exact e) _ him h2
      ·cases e3
theorem z2c {K:W.Frag}{F:Fm}{H:Hp}{σ:L2.St}{ρ:Rho}{i:Nat}{d:D}(so:StOk K F H σ ρ)(e:ρ[i]?=some (some (.fr,d))):∃p,σ[i]?=some (some (.ref p))/\F.O p=some i/\((∃vs ds,d=.list ds/\H p=some (.lst vs)/\Reps K H (Bin F) vs ds)\/(∃kvs es,d=.dict es/\H p=some (.dK kvs)/\REs K H (Bin F) kvs es)):=by obtain⟨v,h1,p,rfl,o,h⟩:=so.sl i .fr d e;exact⟨p,h1,o,h⟩
def mutF (m:String)(i:Nat)(fs:Rho->Res (List GD)):Rho->Res Out:=fun ρ=>fs ρ>>=fun ys=>match ρ[i]? with
 |some (some (.fr,.list xs))=>mutD m xs ys>>=fun xs'=>.ok (.nx ((ρ.set i (some (.fr,.list xs'))).map z0m))
 |_=>.no
theorem zaz {i:Nat}{x:Str}{p ap cp:Pos}{fs:Rho->Res (List GD)}(hN:X.N[i]?=some x)(hv:Vis X.env.scope x)(hd:(x==("__debug__":Str))=false)(hcd:(x==("__classdict__":Str))=false)(ha:PA X (e::es) (tDA X.K fs))(hst:((e::es).all fun e=>!isStar e)=true)(hl:(e::es).length<20)(hline:(ap.endLine==cp.line)=true):
  PS X (.Expr (.Call (.Attribute (.Name x p) "append" ap) (e::es) [] cp) pos) (tDS X.K (mutF "append" i fs)):=by
 have hst':=hst;rw[cj,a8]at hst';refine PS.imp (ps_e (z6z PySem.F.plainAttrs_list PySem.F.slot_list_append PySem.F.type_list_append z2i (z2q hN hv hd hcd) ha rfl (z4s hst hl) hline (z09 (by simpa using hst'.1)) (z0w hst'.2)) rfl) fun D σ H zz=>?_;obtain⟨ρ,F,out,so,e,q⟩:=zz;obtain⟨ys,e1,e⟩:=Res.bind_ok e;split at e
 ·rename_i xs hr;obtain⟨xs',e2,e⟩:=Res.bind_ok e;cases e;obtain⟨pa,h1,hO,h⟩:=z2c so hr;rcases h with⟨vs,ds,e3,e4,r⟩|⟨_,_,e3,_⟩
  ·cases e3;refine⟨_,h1,.inl ⟨rfl,vs,SqL.of e4⟩,ρ,F,ys,so,e1,fun us H1 s1 rs=>?_⟩;simp only[mutD,if_true]at e2;split at e2
   ·rename_i y;split at e2
    case isFalse=>cases e2
    rename_i hc;cases e2;rw[ao,decide_eq_true_iff]at hc;obtain⟨u,rfl,ru⟩:=rs.one;have so1:=so.same s1;have e5:=s1 _ _ e4;refine⟨pa,vs,u,rfl,rfl,e5,z0e (by rw[r.length];omega),?_⟩
    have r':Reps X.K (upd H1 pa (.lst (vs++[u]))) (Bin F) (vs++[u]) (xs++[y.2]):=by
     have r0:Reps X.K H1 (Bin F) (vs++[u]) (xs++[y.2]):=Reps.append (r.same s1 fun _ z=>z) ⟨u,[],rfl,z2d so hc.1 ru,rfl⟩;refine Reps.keep (fun a o e b=>?_) (fun _ z=>z) _ r0
     have hap:a≠pa:=by
      intro z;subst z;rcases b with b|b
      ·have b1:F.O a=none:=b.1;rw[hO]at b1;cases b1
      ·rw[e5]at e;cases e;exact b
     rw[z03 hap];exact e
    obtain⟨so2,f2⟩:=so1.mutate (o':=.lst (vs++[u])) (d':=.list (xs++[y.2])) hO h1 (.inl ⟨_,rfl⟩) ⟨pa,rfl,hO,.inl ⟨_,_,rfl,z08,r'⟩⟩;exact q σ _ F so2 Run.refl ((Frm.same s1).trans f2)
   ·cases e2
  ·cases e3
 ·cases e
end
section
variable {X:Cx}{e:Expr}{es:List Expr}{pos:Pos}
def rIns:V->List V->Hp->VK->Prop:=fun x vs H Q=>∃l xs i y,x=.ref l/\vs=[.int i,y]/\H l=some (.lst xs)/\0<=i/\i<=(xs.length:Int)/\xs.length<az/\Q .non (upd H l (.lst (xs.take i.toNat++y::xs.drop i.toNat)))
theorem zdg {its:List Value}{u:Value}{i:Int}(h0:0<=i)(h1:i<=(its.length:Int)):(fun ws:Array Value=>have k:=if i<0 then(i+(ws.size:Int)).toNat else min i.toNat ws.size;(ws.extract 0 k).push u++ws.extract k) its.toArray=(its.take i.toNat++u::its.drop i.toNat).toArray:=by
 have hk:min i.toNat its.length=i.toNat:=Nat.min_eq_left (by omega);show(fun k=>(its.toArray.extract 0 k).push u++its.toArray.extract k) (if i<0 then(i+(its.toArray.size:Int)).toNat else min i.toNat its.toArray.size)=_;rw[if_neg (by omega),ai,hk]
 dsimp only
 apply Array.ext';simp[List.extract_eq_take_drop];exact dt (by rw[gi];exact ag _)
theorem zgi:MtM X "list.insert" rIns:=by intro pins s σ H x vs v us Q I rx rv h;obtain⟨l,xs,i,y,rfl,rfl,hH,h0,h1,hz,q⟩:=h;cases rx;obtain⟨a,u,rfl,ra,ru⟩:=rv.two;obtain⟨t,rfl⟩:=ra;obtain⟨z,its,n,r,hl,e⟩:=I.lstM hH;have hsl:=f9;refine l0 F.slot_list_insert ⟨_,e,rfl⟩ F.entry_list_insert (F.args_list_insert_3 _ _ _) (AutoSeq1.list_insert_list_int_val_1 l its.toArray n i t u (by rw[fitsIndex_both (by omega) (by omega)];decide) (by rw[ai];omega)) ⟨e,?_⟩;refine⟨.non,_,I.lset (its':=its.take i.toNat++u::its.drop i.toNat) hH e (zdg h0 (by omega)) ((r.take _).append (.cons ru (r.drop _))) ?_,rfl,q⟩;rw[a0,e8,bh,gi];omega
theorem z99 {F:Fm}{H H1:Hp}{σ:L2.St}{ρ:Rho}{i:Nat}{pa:Addr}{vs ws:List V}{zs:List D}{D:Ends}(so:StOk X.K F H σ ρ)(s1:Same H H1)(hO:F.O pa=some i)(h1:σ[i]?=some (some (.ref pa)))(e4:H pa=some (.lst vs))(r0:Reps X.K H1 (Bin F) ws zs)
  (q:z4l X.K F H D (.nx ((ρ.set i (some (.fr,.list zs))).map z0m))):D.nx σ (upd H1 pa (.lst ws)):=by
 have e5:=s1 _ _ e4
 have r':Reps X.K (upd H1 pa (.lst ws)) (Bin F) ws zs:=by
  refine Reps.keep (fun a o e b=>?_) (fun _ z=>z) _ r0
  have hap:a≠pa:=by
   intro z;subst z;rcases b with b|b
   ·have b1:F.O a=none:=b.1;rw[hO]at b1;cases b1
   ·rw[e5]at e;cases e;exact b
  rw[z03 hap];exact e
 obtain⟨so2,f2⟩:=(so.same s1).mutate (o':=.lst ws) (d':=.list zs) hO h1 (.inl ⟨_,rfl⟩) ⟨pa,rfl,hO,.inl ⟨_,_,rfl,z08,r'⟩⟩;exact q σ _ F so2 Run.refl ((Frm.same s1).trans f2)
theorem zgk {xs xs':List D}{ys:List GD}(h:putAt xs ys=.ok xs'):∃g i y,ys=[(g,.int i),y]/\okIn y=true/\xs.length<LIM/\0<=i/\i<=(xs.length:Int)/\xs'=xs.take i.toNat++y.2::xs.drop i.toNat:=by
 unfold putAt at h;split at h
 ·rename_i x y;obtain⟨g,d⟩:=x
  dsimp only at h
  split at h
  ·split at h
   ·rename_i i hc;simp only[ao,decide_eq_true_iff]at hc;cases h;exact⟨g,_,y,rfl,hc.1.1.1,hc.1.1.2,hc.1.2,hc.2,rfl⟩
   ·cases h
  ·cases h
 ·cases h
theorem zfw {xs xs':List D}{ys:List GD}(h:zf1 xs ys=.ok xs'):∃g i,ys=[(g,.int i)]/\0<=i/\i<(xs.length:Int)/\xs.length<=LIM/\xs'=xs.eraseIdx i.toNat:=by
 unfold zf1 at h;split at h
 ·rename_i x;obtain⟨g,d⟩:=x
  dsimp only at h
  split at h
  ·split at h
   ·rename_i i hc;simp only[ao,decide_eq_true_iff]at hc;cases h;exact⟨g,_,rfl,hc.1.1,hc.1.2,hc.2,rfl⟩
   ·cases h
  ·cases h
 ·cases h
theorem zap {i:Nat}{x:Str}{p ap cp:Pos}{fs:Rho->Res (List GD)}(hN:X.N[i]?=some x)(hv:Vis X.env.scope x)(hd:(x==("__debug__":Str))=false)(hcd:(x==("__classdict__":Str))=false)(ha:PA X (e::es) (tDA X.K fs))(hst:((e::es).all fun e=>!isStar e)=true)(hl:(e::es).length<20)(hline:(ap.endLine==cp.line)=true):
  PS X (.Expr (.Call (.Attribute (.Name x p) "insert" ap) (e::es) [] cp) pos) (tDS X.K (mutF "insert" i fs)):=by
 have hst':=hst;rw[cj,a8]at hst';refine PS.imp (ps_e (z6z PySem.F.plainAttrs_list PySem.F.slot_list_insert PySem.F.type_list_insert zgi (z2q hN hv hd hcd) ha rfl (z4s hst hl) hline (z09 (by simpa using hst'.1)) (z0w hst'.2)) rfl) fun D σ H zz=>?_;obtain⟨ρ,F,out,so,e,q⟩:=zz;obtain⟨ys,e1,e⟩:=Res.bind_ok e;split at e
 ·rename_i xs hr;obtain⟨xs',e2,e⟩:=Res.bind_ok e;cases e;obtain⟨pa,h1,hO,h⟩:=z2c so hr;rcases h with⟨vs,ds,e3,e4,r⟩|⟨_,_,e3,_⟩
  ·cases e3;refine⟨_,h1,.inl ⟨rfl,vs,SqL.of e4⟩,ρ,F,ys,so,e1,fun us H1 s1 rs=>?_⟩;simp only[mutD,show("insert":String)≠"append" by decide,if_true,if_false]at e2;obtain⟨g,j,y,rfl,hy,hlen,j0,j1,rfl⟩:=zgk e2;obtain⟨w,u,rfl,rw',ru⟩:=rs.two;have ew:w=.int j:=rw';subst ew;have hlv:=r.length;refine⟨pa,vs,j,u,rfl,rfl,s1 _ _ e4,j0,by omega,z0e (by omega),?_⟩;have r1:=r.same s1 fun _ z=>z;exact z99 so s1 hO h1 e4 (Reps.append (r1.take _) (Reps.cons (z2d so hy ru) (r1.drop _))) q
  ·cases e3
 ·cases e
theorem _root_.Mi.Reps.eraseIdx {K:W.Frag}{H:Hp}{B:Ad->Prop}:∀{vs:List V} {ds:List D} (n:Nat),Reps K H B vs ds->Reps K H B (vs.eraseIdx n) (ds.eraseIdx n)
 |vs,[],n,r=>by have e:vs=[]:=r;subst e;exact rfl
 |vs,d::ds,0,r=>by obtain⟨v,t,e,_,p⟩:=r;subst e;exact p
 |vs,d::ds,n+1,r=>by obtain⟨v,t,e,h,p⟩:=r;subst e;exact⟨v,_,rfl,h,Reps.eraseIdx n p⟩
theorem zcz {i:Nat}{x:Str}{p ap cp:Pos}{fs:Rho->Res (List GD)}(hN:X.N[i]?=some x)(hv:Vis X.env.scope x)(hd:(x==("__debug__":Str))=false)(hcd:(x==("__classdict__":Str))=false)(ha:PA X (e::es) (tDA X.K fs))(hst:((e::es).all fun e=>!isStar e)=true)(hl:(e::es).length<20)(hline:(ap.endLine==cp.line)=true):
  PS X (.Expr (.Call (.Attribute (.Name x p) "pop" ap) (e::es) [] cp) pos) (tDS X.K (mutF "pop" i fs)):=by
 have hst':=hst;rw[cj,a8]at hst';refine PS.imp (ps_e (z6z PySem.F.plainAttrs_list PySem.F.slot_list_pop PySem.F.type_list_pop zax (z2q hN hv hd hcd) ha rfl (z4s hst hl) hline (z09 (by simpa using hst'.1)) (z0w hst'.2)) rfl) fun D σ H zz=>?_;obtain⟨ρ,F,out,so,e,q⟩:=zz;obtain⟨ys,e1,e⟩:=Res.bind_ok e;split at e
 ·rename_i xs hr;obtain⟨xs',e2,e⟩:=Res.bind_ok e;cases e;obtain⟨pa,h1,hO,h⟩:=z2c so hr;rcases h with⟨vs,ds,e3,e4,r⟩|⟨_,_,e3,_⟩
  ·cases e3;refine⟨_,h1,.inl ⟨rfl,vs,SqL.of e4⟩,ρ,F,ys,so,e1,fun us H1 s1 rs=>?_⟩;simp only[mutD,show("pop":String)≠"append" by decide,show("pop":String)≠"insert" by decide,if_true,if_false]at e2;obtain⟨g,j,rfl,j0,j1,hlen,rfl⟩:=zfw e2;obtain⟨w,rfl,rw'⟩:=rs.one;have ew:w=.int j:=rw';subst ew;have hlv:=r.length;have hj:j.toNat<vs.length:=by omega
   have hL:LIM=1000000:=rfl;refine⟨pa,vs,j,j.toNat,vs[j.toNat],rfl,rfl,s1 _ _ e4,by omega,by omega,?_,ba hj,?_⟩
   ·unfold mw;simp only[if_neg (show ¬j<0 by omega)];rw[if_pos (by simp;omega)]
   ·exact z99 so s1 hO h1 e4 ((r.same s1 fun _ z=>z).eraseIdx _) q
  ·cases e3
 ·cases e
end
section
variable {X:Cx}{pos:Pos}
end
theorem z75 {r:Res Out}{o:Out}(h:z1n r=.ok o):∃g d,r=.ok (.rt g d)/\o=.rt g d:=by
 cases r with
 |ok x=>cases x<;>cases h;exact⟨_,_,rfl,rfl⟩
 |_=>cases h
theorem z2w {d d':D}(h:∀ys,d'=.list ys->False)(hd:(match d with|.list _=>false|_=>true)=true):mayE d d'=true:=by
 cases d' with
 |list ys=>exact(h ys rfl).elim
 |_=>cases d<;>first|rfl|cases hd
theorem RGs.ins {K:W.Frag}{F:Fm}{H H1:Hp}{σ:L2.St}{ρ:Rho}(so:StOk K F H σ ρ):∀{vs:List V} {xs:List GD},xs.all okIn=true->RGs K F H H1 vs xs->Reps K H1 (Bin F) vs (xs.map (·.2))
 |vs,[],_,r=>r
 |vs,x::xs,h,r=>by rw[cj,a8]at h;obtain⟨v,t,e,hv,q⟩:=r;exact⟨v,t,e,z2d so h.1 hv,RGs.ins so h.2 q⟩
theorem zff {X:Cx}{e:Expr}{es:List Expr}{pos:Pos}{x:Str}{k k' n:Nat}{ps:List Str}{m:Fn}{fs:Rho->Res (List GD)}{p:Pos}(Cc:Cal X.prog X.w X.K X.mg X.base k x ps (spD X.K n m))(hr:Room k' X.A)(hk:k<=k')(ha:PA X (e::es) (tDA X.K fs))(hst:((e::es).all fun e=> !isStar e)=true)(hg:Gl X x)(hdb:(x==("__debug__":Str))=false)
  (hl:∀ρ ys,fs ρ=.ok ys->ys.length=n):PE X (.Call (.Name x p) (e::es) [] pos) (tD X.K fun ρ=>fs ρ>>=fun ys=>m (ys.map (·.2))>>=fun r=>.ok (gJ r.2 (calG r.1 ys),r.2)):=
 PE.imp (z5o Cc hr ha hst hk hg hdb) fun σ H Q zz=>by
  obtain⟨ρ,F,z,so,e,q⟩:=zz;obtain⟨ys,e1,e⟩:=Res.bind_ok e;obtain⟨r,e2,e⟩:=Res.bind_ok e;cases e;refine⟨ρ,F,ys,so,e1,fun vs H1 s1 rs=>?_⟩;show spD X.K n m (vs++[]) H1 Q E0;rw[eh];have hln:vs.length=n:=by rw[rs.len];exact hl ρ ys e1
  cases hok:ys.all okIn with
  |true=>
   refine⟨_,_,r,hln,RGs.ins so hok rs,e2,fun v H2 s2 rv=>q v H2 (s1.trans s2) (z1l rv fun a h=>?_)⟩;unfold calG;rw[hok];cases hg:r.1 with
   |fr=>rw[hg]at h;exact nw.back s1 h
   |od=>rw[hg]at h;exact h.imp (nw.back s1) id
   |al=>rw[hg]at h;exact h.imp (nw.back s1) id
   |nu=>rw[hg]at h;exact nw.back s1 h
  |false=>
   refine⟨_,_,r,hln,rs.repsV so.vis,e2,fun v H2 s2 rv=>q v H2 (s1.trans s2) (z1l rv fun a h=>?_)⟩;unfold calG;rw[hok];have al:(nw H1 a\/visA F a)->visA F a:=fun h=>h.elim (fun h=>(nw.back s1 h).vis so.vis) fun h=>h;cases hg:r.1 with
   |fr=>rw[hg]at h;exact nw.back s1 h
   |od=>rw[hg]at h;exact al h
   |al=>rw[hg]at h;exact al h
   |nu=>rw[hg]at h;exact nw.back s1 h
theorem StOk.frz {K:W.Frag}{F:Fm}{H:Hp}{σ:L2.St}{ρ:Rho}(so:StOk K F H σ ρ)(j:Nat):StOk K (F.drop j) H σ (ρ.set j (frzS (ρ.getD j none))):=by
 refine⟨so.ext,so.vis,fun a i e=>?_,by rw[dj];exact so.len,fun i g d e=>?_⟩
 ·have e':F.O a=some i:=by
   have e:(if F.O a=some j then none else F.O a)=some i:=e;split at e
   ·cases e
   ·exact e
  exact so.own a i e'
 ·by_cases hj:j=i
  ·subst hj;rw[cx]at e;simp only[if_true]at e;split at e
   ·rename_i hl;cases e2:ρ[j]? with
    |none=>exact absurd hl (by have:=dz.mp e2;omega)
    |some sl=>
     have e3:frzS sl=some (g,d):=by
      have:ρ.getD j none=sl:=by rw[av,e2];rfl
      rw[this]at e;exact Option.some.inj e
     cases sl with
     |none=>cases e3
     |some gd=>
      obtain⟨g0,d0⟩:=gd;obtain⟨v,h1,h2⟩:=so.sl j g0 d0 e2;refine⟨v,h1,?_⟩;cases g0 with
      |fr=>
       cases e3;obtain⟨p,rfl,o,h⟩:=h2;obtain⟨o1,o2,_⟩:=so.own p j o;have hp:Bin (F.drop j) (some p):=⟨by show(if F.O p=some j then none else F.O p)=none;rw[if_pos o],o1,o2⟩;rcases h with⟨vs,ds,rfl,h3,r⟩|⟨vs,ds,rfl,h3,r⟩
       ·exact⟨p,vs,rfl,.inl ⟨h3,hp⟩,r.weak fun _ b=>b.drop⟩
       ·exact⟨p,vs,rfl,h3,hp,REs.same (fun _ _ e=>e) (fun _ b=>b.drop) r⟩
      |od=>cases e3;exact h2
      |al=>cases e3;exact h2
      |nu=>cases e3;exact Rep.weak (fun _ b=>b.drop) h2
   ·cases e
  ·rw[cg hj]at e;obtain⟨v,h1,h2⟩:=so.sl i g d e;exact⟨v,h1,h2.drop fun z=>hj z.symm⟩
def NC (K:W.Frag)(H:Hp):Prop:=∀a vs ws,H a=some (.lst vs)->SqT K H a ws->False
theorem zku {X:Cx}{pins:List (Addr×Obj)}{σ:L2.St}{H:Hp}{s:ac}(I:Inv X pins σ H s):NC X.K H:=fun a vs ws h k=>by obtain⟨_,its,n,_,e⟩:=I.hok a _ h;obtain⟨its',_,⟨o,e2,c,_⟩,_⟩:=I.tuple k;rw[e]at e2;cases e2;exact absurd (show Value.type "list"=Value.type "tuple"from c) (by decide)
section
variable {K:W.Frag}{H:Hp}{B B':Ad->Prop}
mutual
theorem zeh (nc:NC K H)(b0:¬B none)(b1:¬B' none):∀{v:V} (d d':af),Rep K H B v d->Rep K H B' v d'->mayE d d'=true
 |v,.list xs,d',r,r'=>by
  obtain⟨a,vs,rfl,h,q⟩:=r;have h:H a=some (.lst vs):=h.elim (·.1) fun h=>absurd h.2 b0;cases d' with
  |list ys=>obtain⟨a',vs',e,h',q'⟩:=r';cases e;have h':H a=some (.lst vs'):=h'.elim (·.1) fun h=>absurd h.2 b1;rw[h]at h';cases h';exact z3g nc b0 b1 xs ys q q'
  |tuple ys=>obtain⟨a',vs',e,h',q'⟩:=r';cases e;exact(nc a vs vs' h h').elim
  |dict ys=>obtain⟨a',kvs,e,h',_⟩:=r';cases e;rw[h]at h';cases h'
  |none=>cases r'
  |bool b=>cases r'
  |int i=>cases r'
  |str z=>cases r'.1
 |v,.tuple xs,d',r,r'=>z2w (fun ys=>by obtain⟨a,vs,rfl,h,q⟩:=r;intro e;subst e;obtain⟨a',vs',e,h',q'⟩:=r';cases e;have h':H a=some (.lst vs'):=h'.elim (·.1) fun h=>absurd h.2 b1;exact(nc a vs' vs h' h).elim) rfl
 |v,.dict xs,d',r,r'=>z2w (fun ys=>by obtain⟨a,vs,rfl,h,q⟩:=r;intro e;subst e;obtain⟨a',vs',e,h',q'⟩:=r';cases e;have h':H a=some (.lst vs'):=h'.elim (·.1) fun h=>absurd h.2 b1;rw[h]at h';cases h') rfl
 |v,.none,d',r,r'=>z2w (fun ys e=>by subst e;obtain⟨a',vs',e,_⟩:=r';have r:v=.non:=r;rw[r]at e;cases e) rfl
 |v,.bool b,d',r,r'=>z2w (fun ys e=>by subst e;obtain⟨a',vs',e,_⟩:=r';have r:v=.bl b:=r;rw[r]at e;cases e) rfl
 |v,.int i,d',r,r'=>z2w (fun ys e=>by subst e;obtain⟨a',vs',e,_⟩:=r';have r:v=.int i:=r;rw[r]at e;cases e) rfl
 |v,.str z,d',r,r'=>z2w (fun ys e=>by subst e;obtain⟨a',vs',e,_⟩:=r';have r:v=.str z:=r.1;rw[r]at e;cases e) rfl
theorem z3g (nc:NC K H)(b0:¬B none)(b1:¬B' none):∀{vs:List V} (xs ys:List af),Reps K H B vs xs->Reps K H B' vs ys->z1y xs ys=true
 |vs,[],ys,r,r'=>by
  have r:vs=[]:=r;subst r;cases ys with
  |nil=>rfl
  |cons y ys=>obtain⟨_,_,e,_⟩:=r';cases e
 |vs,x::xs,ys,r,r'=>by
  obtain⟨v,t,rfl,h,q⟩:=r;cases ys with
  |nil=>cases(show v::t=[]from r')
  |cons y ys=>obtain⟨v',t',e,h',q'⟩:=r';cases e;exact ao.mpr ⟨zeh nc b0 b1 x y h h',z3g nc b0 b1 xs ys q q'⟩
end
end
section
variable {K:W.Frag}{H:Hp}{Bz:Ad->Prop}{p:Addr}{zs:List D}{vz:List V}
mutual
theorem Rep.off (nc:NC K H)(bz:¬Bz none)(hp:H p=some (.lst vz))(rz:Reps K H Bz vz zs){B:Ad->Prop}(b0:¬B none):∀{v:V} (d:af),apart (.list zs) d=true->Rep K H B v d->Rep K H (fun a=>B a/\a≠some p) v d
 |v,.none,_,r=>r
 |v,.bool b,_,r=>r
 |v,.int i,_,r=>r
 |v,.str x,_,r=>r
 |v,.tuple ds,h,r=>by obtain⟨a,vs,e,k,q⟩:=r;exact⟨a,vs,e,k,Reps.off nc bz hp rz b0 ds h q⟩
 |v,.list ds,h,r=>by
  obtain⟨h1,h2⟩:=ao.mp (show(!(mayE (.list ds) (.list zs))&&z0r (.list zs) ds)=true from h);obtain⟨a,vs,e,k,q⟩:=r;refine⟨a,vs,e,?_,Reps.off nc bz hp rz b0 ds h2 q⟩;rcases k with⟨k,b⟩|k
  ·refine .inl ⟨k,b,fun z=>?_⟩;cases z;rw[hp]at k;cases k;have m:z1y ds zs=true:=z3g nc b0 bz ds zs q rz;rw[show mayE (.list ds) (.list zs)=z1y ds zs from rfl,m]at h1;cases h1
  ·exact absurd k.2 b0
 |v,.dict es,h,r=>by cases(show false=true from h)
theorem Reps.off (nc:NC K H)(bz:¬Bz none)(hp:H p=some (.lst vz))(rz:Reps K H Bz vz zs){B:Ad->Prop}(b0:¬B none):∀{vs:List V} (ds:List af),z0r (.list zs) ds=true->Reps K H B vs ds->Reps K H (fun a=>B a/\a≠some p) vs ds
 |vs,[],_,r=>r
 |vs,d::ds,h,r=>by obtain⟨h1,h2⟩:=ao.mp (show(apart (.list zs) d&&z0r (.list zs) ds)=true from h);obtain⟨v,t,e,k,q⟩:=r;exact⟨v,t,e,Rep.off nc bz hp rz b0 d h1 k,Reps.off nc bz hp rz b0 ds h2 q⟩
end
end
theorem StOk.grown {K:W.Frag}{F:Fm}{H H1:Hp}{σ:L2.St}{ρ:Rho}{i:Nat}{p:Addr}{vs:List V}{xs:List D}{u:V}{y:D}(so:StOk K F H σ ρ)(nc:NC K H)(s1:Same H H1)(hr:ρ[i]?=some (some (.nu,.list xs)))(hσ:σ[i]?=some (some (.ref p)))(hp:H p=some (.lst vs))(hb:Bin F (some p))(rs:Reps K H (Bin F) vs xs)(ha:z0r (.list xs) xs=true)
  (ru:Rep K H1 (fun a=>nw H a) u y):StOk K F (upd H1 p (.lst (vs++[u]))) σ ((ρ.map (z2t (.list xs))).set i (some (.nu,.list (xs++[y])))):=by
 have b0:¬Bin F none:=id;have hp1:=s1 _ _ hp;have hfix:∀a o,H1 a=some o->Fix o->a≠p:=fun a o e f z=>by subst z;rw[hp1]at e;cases e;exact f
 have kp:∀(B:Ad->Prop) a o,H1 a=some o->((B (some a)/\some a≠some p)\/Fix o)->upd H1 p (.lst (vs++[u])) a=some o:=fun B a o e b=>by have:a≠p:=b.elim (fun b z=>b.2 (by rw[z])) (hfix a o e);rw[z03 this];exact e
 have so1:=so.same s1;refine⟨fun a o e=>?_,fun a e=>?_,fun a j e=>?_,by rw[dj,aw];exact so.len,fun j g d e=>?_⟩
 ·have hap:a≠p:=fun z=>by rw[z,hb.2.1]at e;cases e
  rw[z03 hap];exact so1.ext a o e
 ·by_cases hap:a=p
  ·subst hap;rw[z08]at e;cases e
  ·rw[z03 hap]at e;exact so1.vis a e
 ·have hap:a≠p:=fun z=>by rw[z,hb.1]at e;cases e
  rw[z03 hap];exact so1.own a j e
 ·by_cases hj:i=j
  ·subst hj;rw[cx]at e;simp only[if_true]at e;split at e
   ·cases e;refine⟨_,hσ,p,vs++[u],rfl,.inl ⟨z08,hb⟩,Reps.append ?_ ⟨u,[],rfl,?_,rfl⟩⟩
    ·have r1:=Reps.off nc b0 hp rs b0 xs ha rs;exact Reps.keep (kp (Bin F)) (fun _ z=>z.1) xs (r1.same s1 fun _ z=>z)
    ·have r2:Rep K H1 (fun a=>Bin F a/\a≠some p) u y:=ru.weak fun a b=>⟨so.nwBin b,fun z=>by rw[z]at b;have b:H p=none:=b;rw[hp]at b;cases b⟩;exact Rep.keep (kp (Bin F)) (fun _ z=>z.1) y r2
   ·cases e
  ·rw[cg hj,a9]at e;cases e2:ρ[j]? with
   |none=>rw[e2]at e;cases e
   |some sl=>
    rw[e2]at e;have e3:z2t (.list xs) sl=some (g,d):=Option.some.inj e;cases sl with
    |none=>cases e3
    |some gd=>
     obtain⟨g0,d0⟩:=gd;obtain⟨v,h1,h2⟩:=so.sl j g0 d0 e2;refine⟨v,h1,?_⟩;cases hi:imm d0 with
     |true=>
      have e4:z2t (.list xs) (some (g0,d0))=some (.al,d0):=by show(if imm d0=true then _ else _)=_;rw[hi];rfl
      rw[e4]at e3;cases e3;exact Rep.immK (fun a o e f=>by rw[z03 (hfix a o e f)];exact e) _ hi ((h2.same s1).rep so1.ownV)
     |false=>
      cases g0 with
      |od=>
       have e4:z2t (.list xs) (some (.od,d0))=some (.od,d0):=by show(if imm d0=true then _ else _)=_;rw[hi];rfl
       rw[e4]at e3;cases e3;exact Rep.keep (fun a o e b=>by have:a≠p:=b.elim (fun b z=>by have b1:F.H0 a≠none/\F.V a:=b;rw[z]at b1;exact b1.1 hb.2.1) fun f=>hfix a o e f;rw[z03 this];exact e) (fun _ z=>z) _ (h2.same s1)
      |nu=>
       have e4:z2t (.list xs) (some (.nu,d0))=if apart (.list xs) d0=true then some (.nu,d0)else none:=by show(if imm d0=true then _ else _)=_;rw[hi];rfl
       rw[e4]at e3;split at e3
       ·rename_i hap;have r1:=Rep.off nc b0 hp rs b0 d0 hap h2;cases e3;exact Rep.keep (kp (Bin F)) (fun _ z=>z.1) _ (r1.same s1 fun _ z=>z)
       ·cases e3
      |fr=>change(if imm d0=true then some (G.al,d0)else none)=_ at e3;rw[hi]at e3;cases e3
      |al=>change(if imm d0=true then some (G.al,d0)else none)=_ at e3;rw[hi]at e3;cases e3
def dppF (i:Nat)(fa:Rho->Res GD)(gs:Rho->Res Out):Rho->Res Out:=fun ρ=>fa ρ>>=fun y=>match ρ[i]? with
 |some (some (G.fr,PyData.list xs))=>if okIn y&&decide (xs.length<LIM)then z1n (gs ((ρ.set i (some (G.fr,PyData.list (xs++[y.2])))).map z0m))else .no
 |some (some (G.nu,PyData.list xs))=>if(y.1==G.fr||imm y.2)&&z0r (.list xs) xs&&decide (xs.length<LIM)then z1n (gs ((ρ.map (z2t (.list xs))).set i (some (G.nu,PyData.list (xs++[y.2])))))else .no
 |_=>.no
theorem zka {X:Cx}{i:Nat}{x:Str}{e:Expr}{rest:List Stmt}{p ap cp pos:Pos}{fa:Rho->Res GD}{gs:Rho->Res Out}(hN:X.N[i]?=some x)(hv:Vis X.env.scope x)(hd:(x==("__debug__":Str))=false)(hcd:(x==("__classdict__":Str))=false)(ha:PE X e (tD X.K fa))(hr:PSs X rest (tDS X.K gs))(hs:isStar e=false)(hline:(ap.endLine==cp.line)=true):
  PSs X (.Expr (.Call (.Attribute (.Name x p) "append" ap) [e] [] cp) pos::rest) (tDS X.K (dppF i fa gs)):=by
 have hst:([e].all fun e=>!isStar e)=true:=by simp[hs]
 intro pins s σ H D I zz;obtain⟨ρ,F,out,so,e0,q⟩:=zz;obtain⟨y,e1,e5⟩:=Res.bind_ok e0;refine z6a (ps_e (z6z PySem.F.plainAttrs_list PySem.F.slot_list_append PySem.F.type_list_append z2i (z2q hN hv hd hcd) (pa_c ha z46 hs) rfl (z4s hst (show 1<20 by decide)) hline (z09 hs) (z0w rfl)) rfl) hr pins s σ H D I ?_
 have e5:(match(ρ[i]?:Option (Option GD))with
  |some (some (G.fr,PyData.list xs))=>if okIn y&&decide (xs.length<LIM)then z1n (gs ((ρ.set i (some (G.fr,PyData.list (xs++[y.2])))).map z0m))else .no
  |some (some (G.nu,PyData.list xs))=>if(y.1==G.fr||imm y.2)&&z0r (.list xs) xs&&decide (xs.length<LIM)then z1n (gs ((ρ.map (z2t (.list xs))).set i (some (G.nu,PyData.list (xs++[y.2])))))else .no
  |_=>.no)=.ok out:=e5
 split at e5
 ·rename_i xs hsl;split at e5
  case isFalse=>cases e5
  rename_i hc;obtain⟨c1,c2⟩:=ao.mp hc;obtain⟨g,d,e4,rfl⟩:=z75 e5;obtain⟨pa,h1,hO,h⟩:=z2c so hsl;rcases h with⟨vs,ds,e3,h3,r⟩|⟨_,_,e3,_⟩
  ·cases e3;refine⟨_,h1,.inl ⟨rfl,vs,SqL.of h3⟩,ρ,F,y,so,e1,fun u H1 s1 ru=>?_⟩;have so1:=so.same s1;have e6:=s1 _ _ h3;refine⟨pa,vs,u,rfl,rfl,e6,z0e (by rw[r.length];have:=np c2;omega),?_⟩
   have r':Reps X.K (upd H1 pa (.lst (vs++[u]))) (Bin F) (vs++[u]) (xs++[y.2]):=by
    have r0:Reps X.K H1 (Bin F) (vs++[u]) (xs++[y.2]):=Reps.append (r.same s1 fun _ z=>z) ⟨u,[],rfl,z2d so c1 ru,rfl⟩;refine Reps.keep (fun a o e b=>?_) (fun _ z=>z) _ r0
    have hap:a≠pa:=by
     intro z;subst z;rcases b with b|b
     ·have b1:F.O a=none:=b.1;rw[hO]at b1;cases b1
     ·rw[e6]at e;cases e;exact b
    rw[z03 hap];exact e
   obtain⟨so2,f2⟩:=so1.mutate (o':=.lst (vs++[u])) (d':=.list (xs++[y.2])) hO h1 (.inl ⟨_,rfl⟩) ⟨pa,rfl,hO,.inl ⟨_,_,rfl,z08,r'⟩⟩;exact⟨_,F,.rt g d,so2,e4,q⟩
  ·cases e3
 ·rename_i xs hsl;split at e5
  case isFalse=>cases e5
  rename_i hc;obtain⟨c1,c2⟩:=ao.mp hc;obtain⟨c0,c1⟩:=ao.mp c1;obtain⟨g,d,e4,rfl⟩:=z75 e5;obtain⟨v,h1,h2⟩:=so.sl i G.nu _ hsl;obtain⟨pa,vs,rfl,h,rs⟩:=h2;rcases h with⟨h,b⟩|⟨_,b⟩
  ·refine⟨_,h1,.inl ⟨rfl,vs,SqL.of h⟩,ρ,F,y,so,e1,fun u H1 s1 ru=>?_⟩
   have ru':Rep X.K H1 (fun a=>nw H a) u y.2:=by
    rcases(db.mp c0:(y.1==G.fr)=true\/imm y.2=true)with hg|hi
    ·have hg:y.1=G.fr:=eq_of_beq hg;rw[hg]at ru;exact ru
    ·exact Rep.immB _ hi ru
   exact⟨pa,vs,u,rfl,rfl,s1 _ _ h,z0e (by rw[rs.length];have:=np c2;omega),_,F,.rt g d,so.grown (zku I) s1 hsl h1 h b rs c1 ru',e4,q⟩
  ·exact b.elim
 ·cases e5
section
variable {X:Cx}{tg a b c e:Expr}{es:List Expr}{fa fb fc:Rho->Res GD}{pos:Pos}{st:Stmt}{rest A Bs:List Stmt}{fs gs:Rho->Res Out}
theorem z8i (k k':Key):eqK (kD k') (kD k)=decide (k'=k):=by
 cases k'<;>cases k
 ·rename_i a b;show(a==b)=_;rw[im,decide_eq_decide];exact⟨fun h=>by rw[h],fun h=>Sum.inl.inj h⟩
 ·rfl
 ·rfl
 ·rename_i a b;show decide (a=b)=_;rw[decide_eq_decide];exact⟨fun h=>by rw[h],fun h=>Sum.inr.inj h⟩
theorem REs.any {K:W.Frag}{H:Hp}{B:Ad->Prop}(k:Key):∀{kvs:List (Key×V)} {es:Ents},REs K H B kvs es->(es.any fun e=>eqK e.1 (kD k))=kvs.any fun kv=>decide (kv.1=k)
 |kvs,[],r=>by have e:kvs=[]:=r;subst e;rfl
 |kvs,(kd,d)::es,r=>by obtain⟨k',v,t,e,e2,_,_,q⟩:=r;subst e e2;rw[d4,d4,q.any k,z8i]
theorem REs.mapPut {K:W.Frag}{H:Hp}{B:Ad->Prop}(k:Key){v:V}{d:D}(h:Rep K H B v d):∀{kvs:List (Key×V)} {es:Ents},REs K H B kvs es->REs K H B (kvs.map fun kv=>if kv.1=k then(kv.1,v)else kv) (es.map fun e=>if eqK e.1 (kD k)then(e.1,d)else e)
 |kvs,[],r=>by have e:kvs=[]:=r;subst e;exact rfl
 |kvs,(kd,d0)::es,r=>by
  obtain⟨k',v0,t,e,e2,ok,h0,q⟩:=r;subst e e2;rw[ay,ay];have ih:=q.mapPut k h;by_cases z:k'=k
  ·subst z;rw[if_pos rfl,if_pos (by rw[z8i];simp)];exact⟨k',v,_,rfl,rfl,ok,h,ih⟩
  ·rw[if_neg z,if_neg (by rw[z8i];simpa using z)];exact⟨k',v0,_,rfl,rfl,ok,h0,ih⟩
theorem REs.app {K:W.Frag}{H:Hp}{B:Ad->Prop}{k:Key}{v:V}{d:D}(ok:keyOk k)(h:Rep K H B v d):∀{kvs:List (Key×V)} {es:Ents},REs K H B kvs es->REs K H B (kvs++[(k,v)]) (es++[(kD k,d)])
 |kvs,[],r=>by have e:kvs=[]:=r;subst e;exact⟨k,v,[],rfl,rfl,ok,h,rfl⟩
 |kvs,(kd,d0)::es,r=>by obtain⟨k',v0,t,e,e2,ok',h0,q⟩:=r;subst e e2;exact⟨k',v0,_,rfl,rfl,ok',h0,q.app ok h⟩
theorem REs.put {K:W.Frag}{H:Hp}{B:Ad->Prop}{k:Key}{v:V}{d:D}(ok:keyOk k)(h:Rep K H B v d){kvs:List (Key×V)}{es:Ents}(r:REs K H B kvs es):REs K H B (putK kvs k v) (dput es (kD k) d):=by
 unfold putK dput;rw[r.any k];split
 ·exact r.mapPut k h
 ·exact r.app ok h
def tDF (K:W.Frag)(f:Rho->Res (G×List D×Rho)):TI:=fun σ H R=>∃ρ F w,StOk K F H σ ρ/\f ρ=.ok w/\∀J B H' F',Same H H'->Run F F'->Frm F H F' H'->StOk K F' H' σ w.2.2->(∀a,B (some a)->F'.O a=none)->(∀a,B a->BI F' w.1 a)->Walk K J B H' w.2.1->R J H'
theorem z3s {K:W.Frag}{F:Fm}{H:Hp}{σ:L2.St}{ρ:Rho}(so:StOk K F H σ ρ){a:Addr}{g:G}(hg:g≠.al)(h:BG F H g (some a)):F.O a=none:=by
 cases e1:F.O a with
 |none=>rfl
 |some j=>
  obtain⟨h0,_,h'⟩:=so.own a j e1;cases g with
  |fr=>have hb:H a=none:=h;rcases h' with⟨xs,h'⟩|⟨xs,h'⟩<;>rw[hb]at h'<;>cases h'
  |od=>exact absurd h0 h.1
  |al=>exact absurd rfl hg
  |nu=>
   rcases h with h|h
   ·have hb:H a=none:=h;rcases h' with⟨xs,h'⟩|⟨xs,h'⟩<;>rw[hb]at h'<;>cases h'
   ·have hb:F.O a=none:=h.1;rw[hb]at e1;cases e1
theorem zf8 {fw:Rho->Res (G×List D)}(hw:PI X tg e (tDW X.K fw)):PI X tg e (tDF X.K fun ρ=>fw ρ>>=fun w=>if w.1==.al then .no else .ok (w.1,w.2,ρ)):=
 PI.imp hw fun σ H R zz=>by
  obtain⟨ρ,F,w,so,e,q⟩:=zz;obtain⟨w0,e1,e⟩:=Res.bind_ok e;refine⟨ρ,F,w0,so,e1,fun J B H1 s1 hB wk=>?_⟩;split at e
  ·cases e
  ·rename_i hal;cases e;have hal':w0.1≠.al:=fun z=>hal (by rw[z];rfl);exact q J B H1 F s1 Run.refl (Frm.same s1) (so.same s1) (fun a b=>z3s so hal' (hB _ b).1) (fun a b=>BI.of so.vis (hB a b).1) wk
theorem StOk.giveUp {K:W.Frag}{F:Fm}{H:Hp}{σ:L2.St}{ρ:Rho}{i:Nat}{d:D}(so:StOk K F H σ ρ)(e:ρ[i]?=some (some (.fr,d))):StOk K (F.drop i) H σ (ρ.set i (some (.al,d))):=by
 obtain⟨v,h1,h2⟩:=so.sl i .fr d e;have:=so.setI (i:=i) (x:=(.al,d)) (v:=v) (h2.rep so.ownV)
 have es:σ.set i (some v)=σ:=by
  apply ml;intro j;by_cases hj:i=j
  ·subst hj;rw[cx];have hl:=(bu.mp h1).1;simp only[if_true,hl];exact h1.symm
  ·rw[cg hj]
 rw[es]at this;exact this
theorem zlu {i:Nat}{x:Str}(hN:X.N[i]?=some x)(hv:Vis X.env.scope x)(hd:(x==("__debug__":Str))=false)(hcd:(x==("__classdict__":Str))=false):PI X tg (.Name x pos) (tDF X.K (z8q i)):=by
 intro pins s σ H R I h;obtain⟨ρ,F,w,so,e,q⟩:=h;unfold z8q at e;split at e
 ·rename_i d hr;obtain⟨xs,e2,e⟩:=Res.bind_ok e;cases e;obtain⟨v,h1,h2⟩:=so.sl i .fr d hr;refine thn (z2q hN hv hd hcd pins s σ H (fun u H1=>u=v/\H1=H) I ⟨v,h1,rfl,rfl⟩) fun u s1 zz=>?_;obtain⟨y,H1,I1,r1,ey,eH⟩:=zz;subst ey eH;have so':=so.giveUp hr
  let B:Ad->Prop:=fun a=>match a with|some a=>(F.drop i).O a=none/\F.V a|none=>False
  have rv:Rep X.K H1 B y d:=by
   obtain⟨p,ey,hO,h3⟩:=h2
   have hb:∀a,Bin F a->B a:=fun a b=>by
    cases a with
    |none=>exact b
    |some a=>exact⟨Fm.drop_none b.1,b.2.2⟩
   have hp:B (some p):=⟨by show(if F.O p=some i then none else F.O p)=none;rw[if_pos hO],so.ownV p i hO⟩;rcases h3 with⟨vs,ds,rfl,e4,r⟩|⟨vs,ds,rfl,e4,r⟩
   ·exact⟨p,vs,ey,.inl ⟨e4,hp⟩,r.weak hb⟩
   ·exact⟨p,vs,ey,e4,hp,REs.same (fun _ _ e=>e) hb r⟩
  refine z26 I1 r1 rv e2 fun J wk=>q J B H1 (F.drop i) (Same.refl _) (Run.of rfl rfl rfl) (Frm.drop (Same.refl _)) so' (fun a b=>b.1) (fun a b=>?_) wk;cases a with
  |none=>exact b.elim
  |some a=>exact b.2
 ·cases e
def Fm.noL (F:Fm)(H:Hp):Fm:={F with O:=fun a=>match H a with|some (.dK _)=>F.O a|_=>none}
theorem Fm.noL_none {F:Fm}{H:Hp}{a:Addr}(h:F.O a=none):(F.noL H).O a=none:=by
 unfold Fm.noL
 dsimp only
 split<;>first|exact h|rfl
theorem StOk.noL {K:W.Frag}{F:Fm}{H:Hp}{σ:L2.St}{ρ:Rho}(so:StOk K F H σ ρ):StOk K (F.noL H) H σ (ρ.map zet) where
 ext:=so.ext
 vis:=so.vis
 own:=fun a i e=>by
  have e':F.O a=some i:=by
   unfold Fm.noL at e
   dsimp only at e
   split at e
   ·exact e
   ·cases e
  exact so.own a i e'
 len:=by rw[aw];exact so.len
 sl:=fun i g d e=>by
  rw[a9]at e;cases h1:ρ[i]? with
  |none=>rw[h1]at e;cases e
  |some o=>
   rw[h1]at e;have e':zet o=some (g,d):=by simpa using e
   cases o with
   |none=>cases e'
   |some gd=>
    obtain⟨g0,d0⟩:=gd;obtain⟨v,h2,h3⟩:=so.sl i g0 d0 h1;refine⟨v,h2,?_⟩
    have hb:∀a,Bin F a->Bin (F.noL H) a:=fun a b=>by
     cases a with
     |none=>exact b
     |some a=>exact⟨Fm.noL_none b.1,b.2.1,b.2.2⟩
    cases g0 with
    |od=>cases e';exact h3
    |al=>cases e';exact h3
    |nu=>cases e';exact Rep.weak hb h3
    |fr=>
     obtain⟨p,ev,hO,h4⟩:=id h3;rcases h4 with⟨vs,ds,rfl,e4,r⟩|⟨kvs,es,rfl,e4,r⟩
     ·have e2:some (G.al,PyData.list ds)=some (g,d):=e';cases e2;have h5:Rep K H (visA F) v (.list ds):=Slot.rep (F:=F) so.ownV h3;exact h5
     ·have e2:some (G.fr,PyData.dict es)=some (g,d):=e';cases e2;refine⟨p,ev,?_,.inr ⟨kvs,es,rfl,e4,REs.same (fun _ _ z=>z) hb r⟩⟩;unfold Fm.noL
      dsimp only
      rw[e4];exact hO
theorem f_al {fa:Rho->Res GD}(ha:PE X e (tD X.K fa)):PI X tg e (tDF X.K fun ρ=>fa ρ>>=fun x=>evAl x ρ):=by
 intro pins s σ H R I h;obtain⟨ρ,F,w,so,e0,q⟩:=h;obtain⟨x,e1,e0⟩:=Res.bind_ok e0;obtain⟨g,d⟩:=x;unfold evAl at e0
 dsimp only at e0
 split at e0
 ·rename_i xs;split at e0
  ·rename_i hi;cases e0;refine thn (ha pins s σ H (fun v H1=>Same H H1/\Rep X.K H1 (BG F H g) v (.list xs)) I ⟨ρ,F,_,so,e1,fun v H1 s1 rv=>⟨s1,rv⟩⟩) fun v s1 zz=>?_;obtain⟨y,H1,I1,r1,s1',rv⟩:=zz;have so1:=(so.same s1').noL
   let B:Ad->Prop:=fun a=>match a with|some a=>(F.noL H1).O a=none/\F.V a|none=>F.z
   have rv':Rep X.K H1 B y (.list xs):=by
    obtain⟨p,vs,ey,h,r⟩:=rv;refine⟨p,vs,ey,?_,Reps.immB xs hi r⟩;rcases h with⟨h,b⟩|⟨h,b⟩
    ·refine .inl ⟨h,?_,(BG.vis so.vis b:visA F (some p))⟩;unfold Fm.noL
     dsimp only
     rw[h]
    ·exact .inr ⟨h,(BG.vis so.vis b:visA F none)⟩
   refine z26 I1 r1 rv' rfl fun J wk=>q J B H1 (F.noL H1) s1' (Run.of rfl rfl rfl) (fun a o e n=>⟨s1' a o e,Fm.noL_none n⟩) so1 (fun a b=>b.1) (fun a b=>?_) wk;cases a with
   |none=>exact b
   |some a=>exact b.2
  ·cases e0
 ·cases e0
theorem PI.orD {f g:Rho->Res (G×List D×Rho)}{k:Rho->Bool}(hf:PI X tg e (tDF X.K f))(hg:PI X tg e (tDF X.K g)):PI X tg e (tDF X.K fun ρ=>if k ρ then f ρ else g ρ):=by
 intro pins s σ H R I h;obtain⟨ρ,F,w,so,e,q⟩:=h
 dsimp only at e
 cases hk:k ρ with
 |true=>exact hf pins s σ H R I ⟨ρ,F,w,so,by rw[if_pos hk]at e;exact e,q⟩
 |false=>exact hg pins s σ H R I ⟨ρ,F,w,so,by rw[if_neg (by rw[hk];exact br)]at e;exact e,q⟩
theorem zjd {t:Tg}{iter:Expr}{body:List Stmt}{fw:Rho->Res (G×List D×Rho)}(hp:i6 (model X.prog X.w) X.A X.env X.xe)(hc:X.calm=true)(hi:PI X tg iter (tDF X.K fw))(hg:PG X tg (tDG X.K t))(hb:PSs X body (tDS X.K fs))(hs:∀x,d8 iter X.env x=pure x):
  PS X (.For tg iter body [] pos) (tDS X.K fun ρ=>fw ρ>>=fun w=>forD (fun x ρ1=>z0s t (gJ x w.1,x) ρ1>>=fun ρ2=>fs ρ2) w.2.1 w.2.2):=
 PS.imp (zi5 hp hc hi hg hb hs) fun D σ H zz=>by
  obtain⟨ρ,F,out,so,e,q⟩:=zz;obtain⟨w,e1,e⟩:=Res.bind_ok e;refine⟨ρ,F,w,so,e1,fun J B H1 F1 s1 r1 f1 so1 hBo hBi wk=>?_⟩;have q1:z4l X.K F1 H1 D out:=q.back r1 f1;generalize hf:(fun x ρ1=>z0s t (gJ x w.1,x) ρ1>>=fun ρ2=>fs ρ2)=f at e
  have kp:∀{F2:Fm} {H2:Hp},Frm F1 H1 F2 H2->Kp B H1 H2:=fun{F2 H2} fr a o e b=>by
   have hO:F1.O a=none:=by
    rcases b with b|b
    ·exact hBo a b
    ·cases e2:F1.O a with
     |none=>rfl
     |some j=>obtain⟨_,_,h'⟩:=so1.own a j e2;rcases h' with⟨xs,h'⟩|⟨xs,h'⟩<;>rw[e]at h'<;>cases h'<;>exact b.elim
   exact(fr a o e hO).1
  let W:Nat->Nat->L2.St->Hp->Prop:=fun i m σ2 H2=>m=w.2.1.length-i/\i<=w.2.1.length/\∃ρ2 F2,StOk X.K F2 H2 σ2 ρ2/\Run F1 F2/\Frm F1 H1 F2 H2/\forD f (w.2.1.drop i) ρ2=.ok out
  refine⟨W,⟨_,rfl,d6 _,w.2.2,F1,so1,Run.refl,Frm.refl,e⟩,?_⟩
  rintro i m σ2 H2 ⟨rfl,hile,ρ2,F2,so2,r2,f2,e2⟩
  by_cases hlt:i<w.2.1.length
  ·refine .inr ⟨wk.go H2 (kp f2) i hlt,W (i+1) (w.2.1.length-(i+1)),fun σ' H' p=>⟨_,by omega,p⟩,fun x H3 y=>?_⟩;obtain⟨s3,d,hd,rx⟩:=wk.yld H2 (kp f2) i x H3 hlt y
   have hdr:w.2.1.drop i=d::w.2.1.drop (i+1):=by
    have dc:=gn hlt;rw[dc];have:w.2.1[i]=d:=by rw[ba hlt]at hd;exact Option.some.inj hd
    rw[this]
   rw[hdr]at e2;simp only[forD]at e2;have so3:=so2.same s3
   have rx':Rep X.K H3 (BI F2 (gJ d w.1)) x d:=by
    have hBI:∀g a,BI F1 g a->BI F2 g a:=fun g a b=>by cases g<;>cases a<;>first|exact b|(have b':F1.V _:=b;rw[<-r2.2.1]at b';exact b')|(have b':F1.z:=b;rw[<-r2.2.2]at b';exact b')|(have b':F1.H0 _≠none/\F1.V _:=b;exact⟨fun z=>b'.1 (none_of r2.1 z),by rw[r2.2.1];exact b'.2⟩)
    unfold gJ;by_cases hi:imm d=true
    ·rw[if_pos hi];exact Rep.immB d hi rx
    ·rw[if_neg hi];exact rx.weak fun a b=>hBI _ _ (hBi a b)
   cases e3:f d ρ2 with
   |no=>rw[e3]at e2;cases e2
   |exc z=>rw[e3]at e2;cases e2
   |ok o1=>
    have e3':(z0s t (gJ d w.1,d) ρ2>>=fun ρ3=>fs ρ3)=.ok o1:=by rw[<-e3,<-hf]
    obtain⟨ρ3,e4,e5⟩:=Res.bind_ok e3';rw[e3]at e2;refine⟨ρ2,F2,(gJ d w.1,d),ρ3,so3,rx',e4,fun σ4 F4 so4 kps=>⟨ρ3,F4,o1,so4,e5,?_⟩⟩;have r4:Run F1 F4:=r2.trans (Run.of kps.h0 kps.v kps.z);have f4:Frm F1 H1 F4 H3:=f2.trans fun a o e n=>⟨s3 a o e,kps.o a n⟩;cases o1 with
    |nx ρ5=>exact fun σ' H' F' so' r' f'=>⟨rfl,hlt,ρ5,F',so',r4.trans r',f4.trans f',e2⟩
    |ct ρ5=>exact fun σ' H' F' so' r' f'=>⟨rfl,hlt,ρ5,F',so',r4.trans r',f4.trans f',e2⟩
    |bk ρ5=>cases e2;exact fun σ' H' F' so' r' f'=>q1 σ' H' F' so' (r4.trans r') (f4.trans f')
    |rt g d=>cases e2;exact(q1.back r4 f4:z4l X.K F4 H3 D (.rt g d))
  ·have hie:i=w.2.1.length:=by omega
   subst hie;rw[List.drop_length]at e2;cases e2;exact .inl ⟨wk.stop H2 (kp f2),q1 σ2 H2 F2 so2 r2 f2⟩
end
def rAgg (K:W.Frag)(f:String):List V->Hp->VK->Prop:=fun xs H Q=>∃B x dx l ys d,xs=[x]/\Rep K H B x dx/\z3m dx=.ok (l,ys)/\aggD f l ys=.ok d/\∀w H',Same H H'->Rep K H' (fun a=>nw H a\/(imms ys=false/\B a)) w d->Q w H'
theorem z14 {K:W.Frag}{H:Hp}{B:Ad->Prop}{x:V}{dx:D}{l:Bool}{ys:List D}(r:Rep K H B x dx)(e:z3m dx=.ok (l,ys)):∃a vs,x=.ref a/\(if l then SqL K H a vs else SqT K H a vs)/\Reps K H B vs ys:=by
 cases dx<;>try (cases e;done)
 ·cases e;obtain⟨a,vs,rfl,h,q⟩:=z17 r;exact⟨a,vs,rfl,h,q⟩
 ·cases e;obtain⟨a,vs,rfl,h,q⟩:=r;exact⟨a,vs,rfl,h,q⟩
theorem Reps.aggB {K:W.Frag}{H:Hp}{B:Ad->Prop}{vs:List V}{ys:List D}(r:Reps K H B vs ys):Reps K H (fun a=>nw H a\/(imms ys=false/\B a)) vs ys:=by
 cases hi:imms ys with
 |true=>exact Reps.immB ys hi r
 |false=>exact r.weak fun _ z=>.inr ⟨rfl,z⟩
section
variable {X:Cx}{e:Expr}{fa:Rho->Res GD}{pos:Pos}
theorem zby {f:String}{ρ:Rho}{F:Fm}{z:GD}{σ:L2.St}{H:Hp}{Q:VK}(so:StOk X.K F H σ ρ)(e:((fa ρ>>=fun x=>z3m x.2>>=fun p=>Res.ok (x.1,p))>>=fun w=>aggD f w.2.1 w.2.2>>=fun d=>Res.ok ((gJ d (if imms w.2.2 then .fr else agG w.1),d):GD))=.ok z)(q:∀v H',Same H H'->Rep X.K H' (BG F H z.1) v z.2->Q v H'):
  tCB (rAgg X.K f) (ze2 (tD X.K fa) tNil) σ H Q:=by
 obtain⟨w,e0,e⟩:=Res.bind_ok e;obtain⟨x,e1,e0⟩:=Res.bind_ok e0;obtain⟨p,e2,e0⟩:=Res.bind_ok e0;cases e0;obtain⟨d,e3,e⟩:=Res.bind_ok e;cases e;refine⟨ρ,F,x,so,e1,fun v H1 s1 rv=>⟨_,v,x.2,p.1,p.2,d,rfl,rv,e2,e3,fun w' H2 s2 rw'=>q w' H2 (s1.trans s2) (z1l rw' fun a h=>?_)⟩⟩
 dsimp only
 cases hi:imms p.2 with
 |true=>
  rw[if_pos rfl];rcases h with h|⟨h,_⟩
  ·exact nw.back s1 h
  ·rw[hi]at h;cases h
 |false=>
  rw[if_neg br]
  have al:visA F a:=by
   rcases h with h|⟨_,h⟩
   ·exact(nw.back s1 h).vis so.vis
   ·exact h.vis so.vis
  cases hg:x.1 with
  |fr=>
   rcases h with h|⟨_,h⟩
   ·exact nw.back s1 h
   ·rw[hg]at h;exact h
  |od=>exact al
  |al=>exact al
  |nu=>
   rcases h with h|⟨_,h⟩
   ·exact .inl (nw.back s1 h)
   ·rw[hg]at h;exact h
theorem zh0:CallR X (.type "list") (rAgg X.K "list"):=by
 refine CallR.imp z44 fun xs H Q h=>?_;obtain⟨B,x,dx,l,ys,d,rfl,r,e,e2,q⟩:=h;obtain⟨a,vs,rfl,h,rs⟩:=z14 r e;simp only[aggD,if_true]at e2;cases e2
 have h':SqL X.K H a vs\/SqT X.K H a vs:=by
  cases l with
  |true=>exact .inl h
  |false=>exact .inr h
 refine⟨a,vs,rfl,h',fun p hp=>q _ _ (Same.upd hp) (z1f hp rs.aggB (fun _ z=>z) (.inl hp))⟩
theorem zen:CallR X (.type "tuple") (rAgg X.K "tuple"):=by
 refine CallR.imp z3k fun xs H Q h=>?_;obtain⟨B,x,dx,l,ys,d,rfl,r,e,e2,q⟩:=h;obtain⟨a,vs,rfl,h,rs⟩:=z14 r e;simp only[aggD,show("tuple":String)≠"list" by decide,if_true,if_false]at e2;cases e2;refine⟨a,vs,rfl,?_⟩;cases l with
 |true=>exact .inl ⟨h,fun p hp=>q _ _ (Same.upd hp) (z28 hp rs.aggB fun _ z=>z)⟩
 |false=>exact .inr ⟨h,q _ H (Same.refl H) ⟨a,vs,rfl,h,rs.aggB⟩⟩
theorem z2h {K:W.Frag}{H:Hp}{B:Ad->Prop}:∀{ds:List D} {bs:List Bool} {vs:List V},allB ds=some bs->Reps K H B vs ds->vs=bs.map V.bl
 | [],bs,vs,e,r=>by cases e;exact r
 |d::ds,bs,vs,e,r=>by
  cases d<;>try (cases e;done)
  rename_i b;simp only[allB]at e;cases e1:allB ds with
  |none=>rw[e1]at e;cases e
  |some bs'=>rw[e1]at e;cases e;obtain⟨v,t,rfl,h1,h2⟩:=r;have ev:v=.bl b:=h1;rw[ev,z2h e1 h2];rfl
theorem z4g {K:W.Frag}{H:Hp}{B:Ad->Prop}:∀{ds:List D} {n:Int} {vs:List V},sumD ds=some n->Reps K H B vs ds->∃ns:List Int,vs=ns.map V.int/\ns.sum=n
 | [],n,vs,e,r=>by cases e;exact⟨[],r,rfl⟩
 |d::ds,n,vs,e,r=>by
  cases d<;>try (cases e;done)
  rename_i b;change(sumD ds).map (b+ ·)=_ at e;cases e1:sumD ds with
  |none=>rw[e1]at e;cases e
  |some m=>rw[e1]at e;cases e;obtain⟨v,t,rfl,h1,h2⟩:=r;have ev:v=.int b:=h1;obtain⟨ns,h3,h4⟩:=z4g e1 h2;exact⟨b::ns,by rw[ev,h3];rfl,by rw[List.sum_cons,h4]⟩
theorem zj2 (hc:X.calm=true):CallR X (.builtin "all") (rAgg X.K "all"):=by
 refine CallR.imp (z9z hc) fun xs H Q h=>?_;obtain⟨B,x,dx,l,ys,d,rfl,r,e,e2,q⟩:=h;obtain⟨a,vs,rfl,h,rs⟩:=z14 r e;simp only[aggD,show("all":String)≠"list" by decide,show("all":String)≠"tuple" by decide,show("all":String)≠"sorted" by decide,show("all":String)≠"sum" by decide,if_true,if_false]at e2;cases l with
 |false=>cases e2
 |true=>
  simp only[if_true]at e2;cases e3:allB ys with
  |none=>rw[e3]at e2;cases e2
  |some bs=>rw[e3]at e2;cases e2;have ev:=z2h e3 rs;subst ev;exact⟨a,bs,rfl,h,q _ H (Same.refl H) rfl⟩
theorem z9n (hc:X.calm=true):CallR X (.builtin "sum") (fun xs H Q=>∃(p:Addr) (ns:List Int),xs=[.ref p]/\SqL X.K H p (ns.map V.int)/\Q (.int ns.sum) H):=by intro pins s σ H xs us Q I r h;obtain⟨p,ns,rfl,hq,q⟩:=h;obtain⟨u,rfl,ru⟩:=vals1 r;cases ru;obtain⟨its,rv,pl,hz⟩:=I.list hq;have hi:lc its.toArray.toList ns:=intsAre_of rv;have hl:=pl.isList;obtain⟨xs,ex⟩:=hi.allInts.items;have hn:=hi.numsOf;rw[show its.toArray.toList.toArray=its.toArray by simp]at ex;rw[ex]at hl hn;refine sum_intListG (I.ok.hd hc) hl fun h' tk t' hk=>⟨.int ns.sum,H,I.kept hk,⟨t',?_⟩,q⟩;rw[preSum_eq,dt (by simp)];rw[nums_intItems]at hn;rw[hn]
theorem zk1 (hc:X.calm=true):CallR X (.builtin "sum") (rAgg X.K "sum"):=by
 refine CallR.imp (z9n hc) fun xs H Q h=>?_;obtain⟨B,x,dx,l,ys,d,rfl,r,e,e2,q⟩:=h;obtain⟨a,vs,rfl,h,rs⟩:=z14 r e;simp only[aggD,show("sum":String)≠"list" by decide,show("sum":String)≠"tuple" by decide,show("sum":String)≠"sorted" by decide,if_true,if_false]at e2;cases l with
 |false=>cases e2
 |true=>
  simp only[if_true]at e2;cases e3:sumD ys with
  |none=>rw[e3]at e2;cases e2
  |some n=>rw[e3]at e2;cases e2;obtain⟨ns,ev,en⟩:=z4g e3 rs;subst ev en;exact⟨a,ns,rfl,h,q _ H (Same.refl H) rfl⟩
theorem z8x {f:String}{x:Str}{p:Pos}{y:Expr}(hc:CallR X (.type f) (rAgg X.K f))(hm:X.mg x=none)(hv:cv x=some (.type f))(hs:isStar y=false)(ha:PE X y (tD X.K fa))(hg:Gl X x)(hn:x≠"__name__")(hdb:(x==("__debug__":Str))=false):
  PE X (.Call (.Name x p) [y] [] pos) (tD X.K fun ρ=>(fa ρ>>=fun x=>z3m x.2>>=fun p=>Res.ok (x.1,p))>>=fun w=>aggD f w.2.1 w.2.2>>=fun d=>.ok (gJ d (if imms w.2.2 then .fr else agG w.1),d)):=
 PE.imp (zks hc hm hv (pa_c ha z46 hs) (by simp[hs]) hg hn hdb) fun σ H Q ⟨ρ,F,z,so,e,q⟩=>zby so e q
theorem z7m {f:String}{x:Str}{p:Pos}{y:Expr}(hc:CallR X (.builtin f) (rAgg X.K f))(hm:X.mg x=none)(hv:cv x=some (.builtin f))(hs:isStar y=false)(ha:PE X y (tD X.K fa))(hg:Gl X x)(hn:x≠"__name__")(hdb:(x==("__debug__":Str))=false):
  PE X (.Call (.Name x p) [y] [] pos) (tD X.K fun ρ=>(fa ρ>>=fun x=>z3m x.2>>=fun p=>Res.ok (x.1,p))>>=fun w=>aggD f w.2.1 w.2.2>>=fun d=>.ok (gJ d (if imms w.2.2 then .fr else agG w.1),d)):=
 PE.imp (zdv hc hm hv (pa_c ha z46 hs) (by simp[hs]) hg hn hdb) fun σ H Q ⟨ρ,F,z,so,e,q⟩=>zby so e q
end
end Mi
namespace Mi
open PySem PySem.Spec
structure NoKeys (T id:String):Prop where
 own:PySem.Slot T "__getattribute__" id
 entry:entryFor table id=some Builtin.«object.__getattribute__»
 two:∀a b:Value,argsOk id {pos:=[a,b]}
 rest:typeLookup (.type T) "__getattr__"=pure none
 miss:∀(a:Addr) (xs:Array Value) (k:Nat) (sl:Array (Option Value)) (u:Tok),Meets (Builtin.«object.__getattribute__» {pos:=[.ref a,.str "keys" u]}) fun A R s=>s.heap.get? a=some {cls:=.type T,data:=.seq xs k,slots:=sl}/\raisesAttr (.ref a) "keys" A R s
theorem z50:NoKeys "list" "list.__getattribute__" where
 own:=F.slot_list_getattribute
 entry:=am_entry_list_getattribute
 two:=F.args_list_getattribute_2
 rest:=am_list_getattr_none
 miss:=fun a xs k sl u=>meets_getattribute_miss_list a xs k sl "keys" u (by rw[typeLookup_type,km];kernel_rfl) (by decide) (by size_fits)
theorem z3v:NoKeys "tuple" "tuple.__getattribute__" where
 own:=F.slot_tuple_getattribute
 entry:=am_entry_tuple_getattribute
 two:=F.args_tuple_getattribute_2
 rest:=am_tuple_getattr_none
 miss:=fun a xs k sl u=>meets_getattribute_miss_tuple a xs k sl "keys" u (by rw[typeLookup_type,km];kernel_rfl) (by decide) (by size_fits)
theorem NoKeys.ask {T id:String}(N:NoKeys T id){prog:aq}{w:World}{A:bt}{E:Value->ac->Prop}{s:ac}{a:Addr}{o:Obj}{xs:Array Value}{k:Nat}{Q:Option Value->ac->Prop}
  (hx:s.heap.get? a=some o) (hc:o.cls=.type T) (hdat:o.data=.seq xs k) (hd:o.dict=none) (hA:A.handled=none)
  (h:∀h' tk e,lv s.heap h' e "AttributeError"->Q none {s with heap:=h',toks:=tk}):
  wpAny (model prog w) A (ni (.ref a) "keys") Q E s:=by
 cases o;cases hc;cases hdat;cases hd;cases s;rename_i slots heap gens drawn toks os;have ty:∀t,(⟨heap,gens,drawn,t,os⟩:ac).TypeIs (.ref a) T:=fun t=>⟨_,hx,rfl⟩;have isA:=sub_AttributeError;have n1:=N.own.lookup;have n2:=N.own.bind (.ref a);have n3:=N.rest
 delta ni getAttrBy? getAttrBy
 repeat' (first|assumption|exact ty _|(apply l0 N.own (ty _) N.entry (N.two _ _) (N.miss a xs k slots _))|wp_step)
 refine⟨hx,hA,fun hp2 tk2 ex nx=>?_⟩;obtain⟨t2,u2,there⟩:=nx.there;have fin:=fun t=>h _ t _ nx.of
 dsimp only[wants]
 delta getattributeRaised
 repeat' (first|assumption|apply fin|wp_step)
theorem z74 {prog:aq}{w:World}{A:bt}{E:Value->ac->Prop}{s:ac}{a:Addr}{o:Obj}{xs:Array Value}{k:Nat}{Q:Option Value->ac->Prop}
 (hx:s.heap.get? a=some o) (hc:o.cls=.type "list") (hdat:o.data=.seq xs k) (hd:o.dict=none) (hA:A.handled=none) (h:∀h' tk e,lv s.heap h' e "AttributeError"->Q none {s with heap:=h',toks:=tk}):
 wpAny (model prog w) A (ni (.ref a) "keys") Q E s:=z50.ask hx hc hdat hd hA h
theorem z6o {prog:aq}{w:World}{A:bt}{E:Value->ac->Prop}{s:ac}{a:Addr}{o:Obj}{xs:Array Value}{k:Nat}{Q:Option Value->ac->Prop}
 (hx:s.heap.get? a=some o) (hc:o.cls=.type "tuple") (hdat:o.data=.seq xs k) (hd:o.dict=none) (hA:A.handled=none) (h:∀h' tk e,lv s.heap h' e "AttributeError"->Q none {s with heap:=h',toks:=tk}):
 wpAny (model prog w) A (ni (.ref a) "keys") Q E s:=z3v.ask hx hc hdat hd hA h
end Mi
namespace Mi
open PySem PySem.Spec PyProof.Rows L2
abbrev inA (X:Cx)(A:bt)(E:Value->ac->Prop):Cx:={X with A:=A,xe:=E}
theorem _root_.L2.Inv.inA {X:Cx}{pins:List (Addr×Obj)}{σ:L2.St}{H:Hp}{s:ac}{A:bt}{E:Value->ac->Prop}(I:Inv X pins σ H s)(hd:A.handled=X.A.handled)(hf:A.frames=X.A.frames):Inv (inA X A E) pins σ H s:=⟨⟨I.ok.mod,I.ok.kind,I.ok.glob,I.ok.blt,I.ok.above,I.ok.inj,I.ok.has,I.ok.cab,fun z=>hd.trans (I.ok.hd z),hf.trans I.ok.frames,I.ok.stk,I.ok.exf,I.ok.bs,I.ok.bsz,I.ok.noex,I.ok.exfs,I.ok.funs,I.ok.frf,I.ok.fxN⟩,I.os,I.bare,I.base,I.loc,I.cell,I.free,I.freeC,I.pin,I.hok,I.len,I.fx⟩
theorem _root_.L2.Inv.outA {X:Cx}{pins:List (Addr×Obj)}{σ:L2.St}{H:Hp}{s:ac}{A:bt}{E:Value->ac->Prop}(ok:X.Ok)(I:Inv (inA X A E) pins σ H s):Inv X pins σ H s:=⟨ok,I.os,I.bare,I.base,I.loc,I.cell,I.free,I.freeC,I.pin,I.hok,I.len,I.fx⟩
namespace F
theorem entry_dict_loop:entryFor table "dict.update.loop"=some Builtin.«dict.update.loop»:=entryFor_of_tree (by kernel_rfl)
theorem plain_dict_loop:plainId "dict.update.loop"=true:=by decide+kernel
end F
section
variable {X:Cx}{pins:List (Addr×Obj)}{σ:L2.St}
theorem z3e {prog:aq}{w:World}{A:bt}{E:Value->ac->Prop}{s:ac}{a:Addr}{its:List Value}{Q:List Value->ac->Prop}(p:IsTup s.heap a its.toArray)(h:Q its s):wpAny (model prog w) A (ij (.ref a)) Q E s:=by have hT:=p.typeIs;obtain⟨o,ho,hc,n,hd⟩:=p;unfold ij;apply aa;refine j6 hT ?_;rw[if_pos (by decide)];apply aa;refine d7 ho hd ?_;apply aj;simpa using h
theorem zll (hc:X.calm=true){A:bt}(hA:X.A=A.in1){x0:Str}{p0:Pos}{J:It}{fp:List Addr}{it:Addr}{tn:Nat->Heap->Prop}(T:Turn X.prog X.w X.K (.Name x0 p0) J fp it tn){B:Ad->Prop}{H1:Hp}{ds:List D}(Wk:Walk X.K J B H1 ds){d:Addr}(hdB:¬B (some d)){es':Ents}{R:Result->ac->Prop}:
  ∀(n i:Nat) (s:ac) (H:Hp) (kvs:List (Key×V)) (es:Ents) (t:Tok) (iv:Int),ds.length-i=n->i<=ds.length->Inv X pins σ H s->tn i s.heap->(∀b∈fp,FpOk X pins H b)->H d=some (.dK kvs)->kvs.length<=i->REs X.K H B kvs es->z20 es (ds.drop i)=some es'->Kp B H1 H->
   (∀s' H' kvs',Inv X pins σ H' s'->H' d=some (.dK kvs')->REs X.K H' B kvs' es'->(∀a o,a≠d->H a=some o->H' a=some o)->R (.ok (.ret .none)) s')->
   ji (model X.prog X.w) A (.builtin "dict.update.loop" ⟨[.ref d,.ref it,.int iv t,.none],[]⟩) R s:=by
 intro n
 induction n with
 |zero=>
  intro i s H kvs es t iv hn hi I st fo hd hl rs em kp hR;have e:i=ds.length:=by omega
  subst e;refine codeAny_builtin F.entry_dict_loop ?_;rw[Around.under_plainId F.plain_dict_loop _,<-hA];show wpAny _ X.A (jz (.ref it)>>=_) _ _ s;refine aa (thn (T.done X rfl rfl rfl hc _ pins s σ H _ I fo st (Wk.stop H kp)) fun r s1 zz=>?_);obtain⟨hr,I1⟩:=zz;subst hr;show wpAny _ X.A (Builtin.Dict.addKeywords d []>>=_) _ _ _;rw[List.drop_length]at em;cases em;exact aa (aj (aj (hR s1 H kvs I1 hd rs fun _ _ _ e=>e)))
 |succ n ih=>
  intro i s H kvs es t iv hn hi I st fo hd hl rs em kp hR;have hlt:i<ds.length:=by omega
  refine codeAny_builtin F.entry_dict_loop ?_;rw[Around.under_plainId F.plain_dict_loop _,<-hA];show wpAny _ X.A (jz (.ref it)>>=_) _ _ s;refine aa (thn (T.item X rfl rfl rfl hc i pins s σ H _ I fo st (Wk.go H kp i hlt)) fun r s1 zz=>?_);obtain⟨u,hr,h4⟩:=zz;subst hr;have key:∀(m:Sem PySem.Fin) (Q':PySem.Fin->ac->Prop) (E':Value->ac->Prop),wpAny (model X.prog X.w) X.A (eg (.Name x0 p0) (.ref it) u>>=fun _=>m) Q' E' s1->wpAny (model X.prog X.w) X.A m Q' E' s1:=fun m Q' E' h=>h;refine key _ _ _ (aa (thn h4 fun _ s5 zz=>?_));obtain⟨x,H5,I5,r5,y5,st5,fr5⟩:=zz;obtain⟨sm,di,hdi,rx⟩:=Wk.yld H kp i x H5 hlt y5;have ed:ds.drop i=di::ds.drop (i+1):=by have dc:=gn hlt;rw[dc];rw[ba hlt]at hdi;cases hdi;rfl
  rw[ed]at em;unfold z20 at em;split at em
  case h_2=>cases em
  rename_i kd vd;split at em
  case isFalse=>cases em
  rename_i hk;obtain⟨a,vs,rfl,sq,rvs⟩:=rx;obtain⟨vk,vv,rfl,rk,rv⟩:=z8k rvs;cases r5;obtain⟨its,rits,pt,_⟩:=I5.tuple sq;obtain⟨uk,uv,rfl,ruk,ruv⟩:=vals2 rits;have stat:∀b∈fp,FpOk X pins H5 b:=fun b hb=>⟨fr5 b hb,(fo b hb).2⟩;have I5':=I5.pinned stat (T.obj _ _ st5);have hd5:H5 d=some (.dK kvs):=sm _ _ hd;obtain⟨k,rfl,rfl,ok⟩:=z35 hk rk;obtain⟨z,hds,vs',rel,dd⟩:=zko I5'.hok hd5;have hz':vs'.length<=az:=by rw[<-rel.length];exact z
  have hz:=Wk.len;have hpl:(putK kvs k vv).length<=i+1:=by have:=z54 kvs k vv;omega
  show wpAny _ X.A (m4 [Value.ref a] (tryCatch (ij (.ref a)) _>>=_)>>=_) _ _ s5;refine aa (df (aa (wpAny_tryCatch (z3e pt ?_))));show wpAny _ X.A (m4 [uk,uv] (dictSet d uk uv)) _ _ s5;refine df (wpAny_dictSet_pairs (hsz:=hz') (z6g ruk) dd fun h' dd' hs=>?_);have he:∃q,h'.get? d=some q:=let⟨q,_,_,hq,_⟩:=dd';⟨q,hq⟩;have I6:=zd6 (t':=s5.toks+1) I5' (by rw[hd5];exact True.intro) hs he (zht (by omega) hds (rel.put k ruv) dd')
  have hk6:Kp B H5 (upd H5 d (.dK (putK kvs k vv))):=fun b o e z=>by
   have:b≠d:=by
    rintro rfl
    rcases z with z|z
    ·exact hdB z
    ·rw[hd5]at e;cases e;exact z
   rw[z03 this];exact e
  refine aj ⟨lw F.plain_dict_loop _,?_⟩;refine ih (i+1) _ (upd H5 d (.dK (putK kvs k vv))) (putK kvs k vv) (dput es (kD k) vd) _ _ (by omega) hlt I6.unpinned ?_ ?_ z08 hpl ?_ em ?_ ?_
  ·exact T.keep _ _ _ st5 fun b hb o e=>(I6.pin (b,o) (am _ (am _ (z0x hb e)))).1
  ·intro b hb;obtain⟨o,e,_⟩:=T.obj _ _ st5 b hb;exact⟨(I6.pin (b,o) (am _ (am _ (z0x hb e)))).2.1,(fo b hb).2⟩
  ·exact REs.keep hk6 (fun _ z=>z) _ (REs.put ok rv (rs.same sm fun _ z=>z))
  ·exact fun b o e z=>hk6 b o (sm b o (kp b o e z)) z
  ·intro s' H' kvs' I' hd' rs' ext;refine hR s' H' kvs' I' hd' rs' fun b o hb e=>ext b o hb ?_;rw[z03 hb];exact sm b o e
theorem zb0 {K:W.Frag}{H H':Hp}{a:Addr}{xs:List V}(s:Same H H')(h:SqL K H a xs):SqL K H' a xs:=by
 rcases h with(h|⟨o,h⟩)|h
 ·exact .inl (.inl (s _ _ h))
 ·exact .inl (.inr ⟨o,s _ _ h⟩)
 ·exact .inr h
theorem zbf (es:Ents)(k v:D)(h1:immE es=true)(h:imm v=true):immE (es++[(k,v)])=true:=by
 unfold immE at *
 rw[List.all_append,h1];simp[h]
theorem zbc (k v:D)(hv:imm v=true)(es:Ents)(h:immE es=true):immE (es.map fun e=>if eqK e.1 k then(e.1,v)else e)=true:=by
 unfold immE at *
 rw[bp]at *
 intro e he;obtain⟨e',h1,rfl⟩:=ci.mp he;split
 ·exact hv
 ·exact h e' h1
theorem z3x:∀(ys:List D) (es es':Ents),imms ys=true->immE es=true->z20 es ys=some es'->immE es'=true
 | [],es,es',_,h,e=>by cases e;exact h
 |y::ys,es,es',h1,h2,e=>by
  simp only[imms,a8]at h1;unfold z20 at e;split at e
  case h_2=>cases e
  rename_i k v;split at e
  case isFalse=>cases e
  have hv:imm v=true:=by have:=h1.1;change(imm k&&(imm v&&true))=true at this;simp only[a8]at this;exact this.2.1
  refine z3x ys _ es' h1.2 ?_ e;unfold dput;split
  ·exact zbc k v hv es h2
  ·exact zbf es k v h2 hv
theorem zf5 (hc:X.calm=true):CallR X (.type "dict") (rAgg X.K "dict"):=by
 intro pins s σ H xs us Q I r h;obtain⟨B,x,dx,l,ys,d,rfl,rx,e,e2,q⟩:=h;obtain⟨a,vs,rfl,hsq,rs⟩:=z14 rx e
 have e3:∃es',z20 [] ys=some es'/\d=.dict es':=by
  simp only[aggD,show("dict":String)≠"list" by decide,show("dict":String)≠"tuple" by decide,show("dict":String)≠"sorted" by decide,show("dict":String)≠"sum" by decide,show("dict":String)≠"all" by decide,show("dict":String)≠"any" by decide,if_true,if_false]at e2;cases h:z20 [] ys with
  |none=>rw[h]at e2;cases e2
  |some es=>rw[h]at e2;cases e2;exact⟨es,rfl,rfl⟩
 obtain⟨es',em,rfl⟩:=e3;have ew:z3c dx=.ok ys:=by cases dx<;>first|(cases e;done)|(cases e;rfl)
 obtain⟨u,rfl,ru⟩:=vals1 r;cases ru;have hp:H s.heap.objs.size=none:=I.hok.fresh (ag _);have I1:Inv X pins σ (upd H s.heap.objs.size (.dK [])) {s with heap:=s.heap.push {cls:=.type "dict",data:=.dict #[]}}:=I.laid (a:=s.heap.objs.size) (o:=.dK []) (t':=s.toks) (fun _ _ q=>ae _ q) (ag _) (zad s.heap I.big);refine callType_codes (Q₁:=fun obj s₁=>obj=.ref s.heap.objs.size/\s₁={s with heap:=s.heap.push {cls:=.type "dict",data:=.dict #[]}}) PySem.F.kt_called_dict (PySem.F.kt_typeCall_dict_1 _) PySem.F.entry_dict_init (kt_code_dict_new _ ⟨rfl,rfl⟩) ?_
 rintro obj s₁ ⟨rfl,rfl⟩
 have hnew:(⟨s.heap.push {cls:=.type "dict",data:=.dict #[]},s.gens,s.drawn,s.toks,s.os⟩:ac).TypeIs (.ref s.heap.objs.size) "dict":=⟨_,au _ rfl,rfl⟩;refine⟨hnew,PySem.F.args_dict_init_2 _ _,?_⟩
 delta Builtin.«dict.__init__»
 refine aa ?_
 delta Builtin.Dict.selfAndRest
 refine aa (wpAny_notOrdered_dict hnew ?_);show wpAny _ _ (pure (s.heap.objs.size,[Value.ref a])) _ _ _;refine aj ?_;show wpAny _ _ (ju "dict.__init__" s.heap.objs.size (.ref a) [] .none) _ _ _
 delta ju
 have rest:∀(h':Heap) (tk:Nat),(∀b o,(s.heap.push {cls:=.type "dict",data:=.dict #[]}).get? b=some o->h'.get? b=some o)->wpAny (model X.prog X.w) X.A.in1.in1 (j2 (.ref a)) (fun itv s2=>ji (model X.prog X.w) X.A.in1 (.builtin "dict.update.loop" ⟨[.ref s.heap.objs.size,itv,iw 0,.none],[]⟩) (wants (fun r s₂=>r=.none/\EP X pins σ Q (.ref s.heap.objs.size) s₂) X.xe) s2) (fun _ _=>False) ⟨h',s.gens,s.drawn,tk,s.os⟩:=by
  intro h' tk kp;have I2:Inv (inA X X.A.in1.in1 (fun _ _=>False)) pins σ (upd H s.heap.objs.size (.dK [])) ⟨h',s.gens,s.drawn,tk,s.os⟩:=(I1.kept (t':=tk) kp).inA rfl rfl;have rx':Rep X.K (upd H s.heap.objs.size (.dK [])) (fun a=>B a/\¬nw H a) (.ref a) dx:=(Rep.there _ rx).same (Same.upd hp) fun _ z=>z;refine thn (z26 (X:=inA X X.A.in1.in1 (fun _ _=>False)) (tg:=.Name "" default) (R:=fun J H'=>Walk X.K J (fun a=>B a/\¬nw H a) H' ys/\H'=upd H s.heap.objs.size (.dK [])) I2 (y:=.ref a) (show RelV (.ref a) (.ref a)from rfl) rx' ew fun J wk=>⟨wk,rfl⟩) fun itv s2 zz=>?_;obtain⟨it,fp,tn,J,H',eit,I3,T,st,fo,wk,eH⟩:=zz;subst eit eH;refine zll (X:=inA X X.A.in1.in1 (fun _ _=>False)) hc rfl T wk (fun z=>z.2 hp) ys.length 0 s2 _ [] [] _ _ (by omega) (by omega) I3 st fo z08 (ag _) rfl em (fun _ _ e _=>e) ?_;intro s' H' kvs' I' hd' rs' ext;refine⟨rfl,.ref s.heap.objs.size,H',I'.outA I.ok,rfl,q _ H' (fun b o e=>ext b o (z07 e hp) (by rw[z03 (z07 e hp)];exact e)) ⟨_,kvs',rfl,hd',.inl hp,?_⟩⟩;cases hi:imms ys with
  |true=>exact REs.immB es' (z3x ys [] es' hi rfl em) rs'
  |false=>exact rs'.same (Same.refl H') fun _ z=>.inr ⟨rfl,z.1⟩
 have hA:X.A.in1.in1.handled=none:=I.ok.hd hc;cases l with
 |true=>obtain⟨its,_,⟨o,n,ho,hcl,hdi,hda⟩,_⟩:=I1.list (zb0 (Same.upd hp) hsq);refine aa (j6 (T:="list") ⟨o,ho,hcl⟩ ?_);rw[if_pos (by decide)];refine aa (z74 ho hcl hda hdi hA fun h' tk e hx=>?_);show wpAny _ _ (do rule _;let it <-j2 (.ref a);again (.builtin "dict.update.loop" ⟨[.ref s.heap.objs.size,it,iw 0,.none],[]⟩)) _ _ _;refine aa (jc (aa (gg (rest h' tk hx.keeps) (fun itv s2 hc2=>?_) fun _ _ z=>z.elim)));exact aj ⟨lw F.plain_dict_loop _,hc2⟩
 |false=>obtain⟨its,_,⟨o,n,ho,hcl,hdi,hda⟩,_⟩:=I1.tupleN (SqT.rel (Same.upd hp) hsq);refine aa (j6 (T:="tuple") ⟨o,ho,hcl⟩ ?_);rw[if_pos (by decide)];refine aa (z6o ho hcl hda hdi hA fun h' tk e hx=>?_);show wpAny _ _ (do rule _;let it <-j2 (.ref a);again (.builtin "dict.update.loop" ⟨[.ref s.heap.objs.size,it,iw 0,.none],[]⟩)) _ _ _;refine aa (jc (aa (gg (rest h' tk hx.keeps) (fun itv s2 hc2=>?_) fun _ _ z=>z.elim)));exact aj ⟨lw F.plain_dict_loop _,hc2⟩
end
end Mi
namespace Mi
open PySem PySem.Spec PyProof.Rows PySem.W
section
variable (key:Nat->Nat)
def Kp' (p:Array Nat)(i:Nat):Nat:=key (p.getD i 0)
variable {key}
def Asc (key:Nat->Nat)(p:Array Nat)(m:Nat):Prop:=∀i,1<=i->i<m->Kp' key p (i-1)<=Kp' key p i
theorem Asc.le {p:Array Nat}{m:Nat}(h:Asc key p m):∀(d i:Nat),i+d<m->Kp' key p i<=Kp' key p (i+d)
 |0,i,_=>ag _
 |d+1,i,hm=>by
  have h1:=Asc.le h d i (by omega);have h2:=h (i+d+1) (by omega) (by omega);have e:i+d+1-1=i+d:=by omega
  rw[e]at h2;exact b8 h1 h2
end
def z6t {α:Type}(n:Nat)(Q:α->Prop):KasT α->Prop
 |.ret a=>Q a
 |.ask i j k=>i<n/\j<n/\∀b,z6t n Q (k b)
theorem z6t.bind {α β:Type}{n:Nat}{Q:α->Prop}{R:β->Prop}{f:α->KasT β}(hf:∀a,Q a->z6t n R (f a)):∀{t:KasT α},z6t n Q t->z6t n R (t.bind f)
 |.ret a,h=>hf a h
 |.ask i j k,h=>⟨h.1,h.2.1,fun b=>z6t.bind hf (h.2.2 b)⟩
def AllIn (n:Nat)(p:Array Nat):Prop:=0<n/\∀x∈p,x<n
theorem AllIn.get {n:Nat}{p:Array Nat}(h:AllIn n p)(i:Nat):p.getD i 0<n:=by
 rw[Array.getD_eq_getD_getElem?];cases e:p[i]? with
 |none=>exact h.1
 |some x=>exact h.2 x (Array.mem_of_getElem? e)
structure OrdOn (p:D->Prop):Prop where
 irr:∀x,p x->ltD x x=false
 tr:∀x y z,p x->p y->p z->ltD x y=true->ltD y z=true->ltD x z=true
 ntr:∀x y z,p x->p y->p z->ltD x z=true->ltD x y=true\/ltD y z=true
 tot:∀x y,p x->p y->ltD x y=false->ltD y x=false->x=y
theorem z41 (x y:D)(xs ys:List D):ltDs (x::xs) (y::ys)=if eqD x y then ltDs xs ys else ltD x y:=by simp only[ltDs]
theorem z1p:ltDs [] []=false:=by simp[ltDs]
section
variable {p:D->Prop}(O:OrdOn p)
include O
end
end Mi
namespace Mi
open PySem PySem.Spec PyProof.Rows L2 PySem.W
section
variable {prog:aq}{w:World}{A:bt}{E:Value->ac->Prop}{s:ac}{b:Bool}{x y:D}{u v:Value}{Q:Bool->ac->Prop}
end
theorem z0k.some {P:aq}{w:World}{H:Hp}{h:Heap}{a:Addr}{o:HO}(x:z0k P w H h a o):∃q,h.get? a=some q:=by
 cases o with
 |lst xs=>obtain⟨_,_,_,_,e⟩:=x;exact⟨_,e⟩
 |tup xs=>obtain⟨_,_,_,_,e⟩:=x;exact⟨_,e⟩
 |dK kvs=>obtain⟨_,_,_,_,o,_,_,e,_⟩:=x;exact⟨_,e⟩
 |dT kvs=>obtain⟨_,_,_,_,o,_,_,e,_⟩:=x;exact⟨_,e⟩
 |set S n=>obtain⟨ob,es,ep,t,e,c⟩:=x;exact⟨_,e⟩
 |ins C dx fs=>obtain⟨d,z,ne,e,_⟩:=x;exact⟨_,e⟩
 |own y=>exact x
 |xd fs=>obtain⟨mA,⟨od,es,ep,e,c⟩,r⟩:=x;exact⟨_,e⟩
 |rng lo hi=>obtain⟨t,u,v,e⟩:=x;exact⟨_,e⟩
 |frz ob u=>exact⟨_,x.1⟩
 |tbl ps=>exact⟨_,x⟩
 |met f y=>exact⟨_,x⟩
 |ext φ=>obtain⟨p,⟨o,e⟩,st⟩:=x;exact⟨_,e⟩
section
variable {X:Cx}
end
section
variable {X:Cx}
end
structure OrdE (p:D->Prop):Prop extends OrdOn p where
 eq:∀x y,p x->p y->(eqD x y=true↔x=y)
structure OrdL (q:List D->Prop):Prop where
 irr:∀x,q x->ltDs x x=false
 tr:∀x y z,q x->q y->q z->ltDs x y=true->ltDs y z=true->ltDs x z=true
 ntr:∀x y z,q x->q y->q z->ltDs x z=true->ltDs x y=true\/ltDs y z=true
 tot:∀x y,q x->q y->ltDs x y=false->ltDs y x=false->x=y
 eq:∀x y,q x->q y->(PyData.eqvAll x y=true↔x=y)
section
variable {p:D->Prop}(O:OrdE p){x y z:D}{xs ys zs:List D}
include O
theorem l_eq (hx:p x)(hy:p y)(h:x=y):ltDs (x::xs) (y::ys)=ltDs xs ys:=by rw[z41,if_pos ((O.eq x y hx hy).mpr h)]
theorem l_ne (hx:p x)(hy:p y)(h:x≠y):ltDs (x::xs) (y::ys)=ltD x y:=by rw[z41,if_neg fun z=>h ((O.eq x y hx hy).mp z)]
theorem l_tr (hx:p x)(hy:p y)(hz:p z)(ih:ltDs xs ys=true->ltDs ys zs=true->ltDs xs zs=true)(e1:ltDs (x::xs) (y::ys)=true)(e2:ltDs (y::ys) (z::zs)=true):ltDs (x::xs) (z::zs)=true:=by
 by_cases xy:x=y
 ·rw[l_eq O hx hy xy]at e1;by_cases yz:y=z
  ·rw[l_eq O hy hz yz]at e2;rw[l_eq O hx hz (xy.trans yz)];exact ih e1 e2
  ·rw[l_ne O hy hz yz]at e2;rw[l_ne O hx hz (by rw[xy];exact yz),xy];exact e2
 ·rw[l_ne O hx hy xy]at e1;by_cases yz:y=z
  ·rw[l_ne O hx hz (by rw[<-yz];exact xy),<-yz];exact e1
  ·rw[l_ne O hy hz yz]at e2;have e3:=O.tr x y z hx hy hz e1 e2;rw[l_ne O hx hz (fun q=>by subst q;rw[O.irr x hx]at e3;cases e3)];exact e3
theorem zfx (hx:p x)(hy:p y)(hz:p z)(ih:ltDs xs zs=true->ltDs xs ys=true\/ltDs ys zs=true)(e:ltDs (x::xs) (z::zs)=true):ltDs (x::xs) (y::ys)=true\/ltDs (y::ys) (z::zs)=true:=by
 by_cases xz:x=z
 ·rw[l_eq O hx hz xz]at e;by_cases xy:x=y
  ·rw[l_eq O hx hy xy,l_eq O hy hz (xy.symm.trans xz)];exact ih e
  ·rw[l_ne O hx hy xy,l_ne O hy hz (fun q=>xy (xz.trans q.symm)),<-xz];cases e1:ltD x y with
   |true=>exact .inl rfl
   |false=>
    cases e2:ltD y x with
    |true=>exact .inr rfl
    |false=>exact(xy (O.tot x y hx hy e1 e2)).elim
 ·rw[l_ne O hx hz xz]at e;by_cases xy:x=y
  ·rw[l_ne O hy hz (fun q=>xz (xy.trans q)),<-xy];exact .inr e
  ·rw[l_ne O hx hy xy];by_cases yz:y=z
   ·rw[yz];exact .inl e
   ·rw[l_ne O hy hz yz];exact O.ntr x y z hx hy hz e
theorem zfn (hx:p x)(hy:p y)(ih:ltDs xs ys=false->ltDs ys xs=false->xs=ys)(e1:ltDs (x::xs) (y::ys)=false)(e2:ltDs (y::ys) (x::xs)=false):x::xs=y::ys:=by
 by_cases xy:x=y
 ·rw[l_eq O hx hy xy]at e1;rw[l_eq O hy hx xy.symm]at e2;rw[xy,ih e1 e2]
 ·rw[l_ne O hx hy xy]at e1;rw[l_ne O hy hx (fun q=>xy q.symm)]at e2;exact(xy (O.tot x y hx hy e1 e2)).elim
theorem zf3 (hx:p x)(hy:p y)(ih:PyData.eqvAll xs ys=true↔xs=ys):PyData.eqvAll (x::xs) (y::ys)=true↔x::xs=y::ys:=by rw[PyData.eqvAll,a8,ih,List.cons.injEq];exact and_congr (O.eq x y hx hy) Iff.rfl
end
theorem OrdL.nil:OrdL (fun l=>l=[]) where
 irr:=fun x h=>by rw[h];exact z1p
 tr:=fun x y z h1 h2 h3 e1 e2=>by rw[h1,h2,z1p]at e1;cases e1
 ntr:=fun x y z h1 h2 h3 e=>by rw[h1,h3,z1p]at e;cases e
 tot:=fun x y h1 h2 _ _=>h1.trans h2.symm
 eq:=fun x y h1 h2=>by rw[h1,h2];exact⟨fun _=>rfl,fun _=>rfl⟩
theorem OrdL.cons {p:D->Prop}{q:List D->Prop}(O:OrdE p)(L:OrdL q):OrdL (fun l=>∃x r,l=x::r/\p x/\q r) where
 irr:=fun l h=>by obtain⟨x,r,rfl,hx,hr⟩:=h;rw[l_eq O hx hx rfl];exact L.irr r hr
 tr:=fun l1 l2 l3 h1 h2 h3=>by obtain⟨x,r,rfl,hx,hr⟩:=h1;obtain⟨y,t,rfl,hy,ht⟩:=h2;obtain⟨z,u,rfl,hz,hu⟩:=h3;exact l_tr O hx hy hz (L.tr _ _ _ hr ht hu)
 ntr:=fun l1 l2 l3 h1 h2 h3=>by obtain⟨x,r,rfl,hx,hr⟩:=h1;obtain⟨y,t,rfl,hy,ht⟩:=h2;obtain⟨z,u,rfl,hz,hu⟩:=h3;exact zfx O hx hy hz (L.ntr _ _ _ hr ht hu)
 tot:=fun l1 l2 h1 h2=>by obtain⟨x,r,rfl,hx,hr⟩:=h1;obtain⟨y,t,rfl,hy,ht⟩:=h2;exact zfn O hx hy (L.tot _ _ hr ht)
 eq:=fun l1 l2 h1 h2=>by obtain⟨x,r,rfl,hx,hr⟩:=h1;obtain⟨y,t,rfl,hy,ht⟩:=h2;exact zf3 O hx hy (L.eq _ _ hr ht)
theorem zd2 {ys:List D}(h:ltDs [] ys=true):∃y r,ys=y::r:=by
 cases ys with
 |nil=>rw[z1p]at h;cases h
 |cons y r=>exact⟨y,r,rfl⟩
theorem z2o (y:D)(r:List D):ltDs [] (y::r)=true:=by simp[ltDs]
theorem z3q (y:D)(r:List D):ltDs (y::r) []=false:=by simp[ltDs]
section
variable {p:D->Prop}(O:OrdE p)
include O
theorem zhe:∀xs:List D,(∀x∈xs,p x)->ltDs xs xs=false
 | [],_=>z1p
 |x::xs,h=>by rw[l_eq O (h x (by simp)) (h x (by simp)) rfl];exact zhe xs fun z hz=>h z (by simp[hz])
theorem a_tr:∀xs ys zs:List D,(∀x∈xs,p x)->(∀x∈ys,p x)->(∀x∈zs,p x)->ltDs xs ys=true->ltDs ys zs=true->ltDs xs zs=true
 | [],ys,zs,h1,h2,h3,e1,e2=>by
  obtain⟨y,r,rfl⟩:=zd2 e1;cases zs with
  |nil=>rw[z3q]at e2;cases e2
  |cons z t=>exact z2o z t
 |x::xs,[],zs,h1,h2,h3,e1,e2=>by rw[z3q]at e1;cases e1
 |x::xs,y::ys,[],h1,h2,h3,e1,e2=>by rw[z3q]at e2;cases e2
 |x::xs,y::ys,z::zs,h1,h2,h3,e1,e2=>l_tr O (h1 x (by simp)) (h2 y (by simp)) (h3 z (by simp)) (a_tr xs ys zs (fun w hw=>h1 w (by simp[hw])) (fun w hw=>h2 w (by simp[hw])) fun w hw=>h3 w (by simp[hw])) e1 e2
theorem zid:∀xs ys zs:List D,(∀x∈xs,p x)->(∀x∈ys,p x)->(∀x∈zs,p x)->ltDs xs zs=true->ltDs xs ys=true\/ltDs ys zs=true
 | [],[],zs,h1,h2,h3,e=>.inr e
 | [],y::ys,zs,h1,h2,h3,e=>.inl (z2o y ys)
 |x::xs,ys,[],h1,h2,h3,e=>by rw[z3q]at e;cases e
 |x::xs,[],z::zs,h1,h2,h3,e=>.inr (z2o z zs)
 |x::xs,y::ys,z::zs,h1,h2,h3,e=>zfx O (h1 x (by simp)) (h2 y (by simp)) (h3 z (by simp)) (zid xs ys zs (fun w hw=>h1 w (by simp[hw])) (fun w hw=>h2 w (by simp[hw])) fun w hw=>h3 w (by simp[hw])) e
theorem zgn:∀xs ys:List D,(∀x∈xs,p x)->(∀x∈ys,p x)->ltDs xs ys=false->ltDs ys xs=false->xs=ys
 | [],[],h1,h2,e1,e2=>rfl
 | [],y::ys,h1,h2,e1,e2=>by rw[z2o]at e1;cases e1
 |x::xs,[],h1,h2,e1,e2=>by rw[z2o]at e2;cases e2
 |x::xs,y::ys,h1,h2,e1,e2=>zfn O (h1 x (by simp)) (h2 y (by simp)) (zgn xs ys (fun w hw=>h1 w (by simp[hw])) fun w hw=>h2 w (by simp[hw])) e1 e2
theorem a_eq:∀xs ys:List D,(∀x∈xs,p x)->(∀x∈ys,p x)->(PyData.eqvAll xs ys=true↔xs=ys)
 | [],[],h1,h2=>⟨fun _=>rfl,fun _=>rfl⟩
 | [],y::ys,h1,h2=>⟨fun h=>by simp[PyData.eqvAll]at h,fun h=>nomatch h⟩
 |x::xs,[],h1,h2=>⟨fun h=>by simp[PyData.eqvAll]at h,fun h=>nomatch h⟩
 |x::xs,y::ys,h1,h2=>zf3 O (h1 x (by simp)) (h2 y (by simp)) (a_eq xs ys (fun w hw=>h1 w (by simp[hw])) fun w hw=>h2 w (by simp[hw]))
theorem OrdL.all:OrdL (fun l=>∀x∈l,p x):=⟨zhe O,a_tr O,zid O,zgn O,a_eq O⟩
end
theorem OrdL.tup {q:List D->Prop}(L:OrdL q):OrdE (fun d=>∃l,d=.tuple l/\q l) where
 irr:=fun d h=>by obtain⟨l,rfl,h⟩:=h;exact L.irr l h
 tr:=fun x y z h1 h2 h3=>by obtain⟨l,rfl,h1⟩:=h1;obtain⟨m,rfl,h2⟩:=h2;obtain⟨n,rfl,h3⟩:=h3;exact L.tr l m n h1 h2 h3
 ntr:=fun x y z h1 h2 h3=>by obtain⟨l,rfl,h1⟩:=h1;obtain⟨m,rfl,h2⟩:=h2;obtain⟨n,rfl,h3⟩:=h3;exact L.ntr l m n h1 h2 h3
 tot:=fun x y h1 h2 e1 e2=>by obtain⟨l,rfl,h1⟩:=h1;obtain⟨m,rfl,h2⟩:=h2;rw[L.tot l m h1 h2 e1 e2]
 eq:=fun x y h1 h2=>by obtain⟨l,rfl,h1⟩:=h1;obtain⟨m,rfl,h2⟩:=h2;show PyData.eqvAll l m=true↔_;rw[L.eq l m h1 h2];exact⟨fun h=>by rw[h],fun h=>by cases h;rfl⟩
theorem OrdE.of {p q:D->Prop}(O:OrdE q)(h:∀d,p d->q d):OrdE p where
 irr:=fun x hx=>O.irr x (h x hx)
 tr:=fun x y z hx hy hz=>O.tr x y z (h x hx) (h y hy) (h z hz)
 ntr:=fun x y z hx hy hz=>O.ntr x y z (h x hx) (h y hy) (h z hz)
 tot:=fun x y hx hy=>O.tot x y (h x hx) (h y hy)
 eq:=fun x y hx hy=>O.eq x y (h x hx) (h y hy)
section
variable {X:Cx}{pins:List (Addr×Obj)}{σ:L2.St}{H:Hp}{s:ac}{B:Ad->Prop}{h':Heap}
end
section
variable {X:Cx}{pins:List (Addr×Obj)}{σ:L2.St}{H:Hp}{s:ac}{B:Ad->Prop}{h':Heap}{t:Bool}
end
section
variable {X:Cx}
end
end Mi
namespace Mi
open PySem PySem.Spec PyProof.Rows L2
section
variable {X:Cx}
theorem zam (hc:X.calm=true):CallR X (.builtin "any") (fun xs H Q=>∃(p:Addr) (bs:List Bool),xs=[.ref p]/\SqL X.K H p (bs.map V.bl)/\Q (.bl (bs.any id)) H):=by
 intro pins s σ H xs us Q I r h;obtain⟨p,bs,rfl,hq,q⟩:=h;obtain⟨u,rfl,ru⟩:=vals1 r;cases ru;obtain⟨its,rv,pl,hz⟩:=I.list hq;refine call_any_walk (gc pl.isList ?_);have ne:p≠s.heap.objs.size:=by obtain⟨o,ho,_⟩:=pl.isList;exact bq (ax ho)
 have hlen:bs.length=its.length:=by have:=rv.length;rw[aw]at this;exact this
 refine⟨s.heap.objs.size,_,_,_,_,_,fun i=>bs.getD i false,rfl,Walks.list (A:=X.A.in1) (I.ok.hd hc) s.heap.objs.size p ne its.toArray,⟨⟨_,au _ rfl,rfl,rfl⟩,pl.isList.at fun o e=>ae _ e⟩,?_,?_⟩
 ·intro i v s' Q' E' hP hQ;have hi:its[i]?=some v:=by simpa using hP
  have hb:i<bs.length:=by rw[hlen];exact(bu.mp hi).1
  obtain⟨u',hu,ru⟩:=rv.get (i:=i) (x:=V.bl bs[i]) (by rw[a9,ba hb];rfl);rw[hi]at hu;cases hu;cases ru;refine fk ?_;have e:bs.getD i false=bs[i]:=by simp[av,hb]
  have hQ':Q' (bs.getD i false) s':=hQ;rw[e]at hQ';exact hQ'
 ·intro h' tk k;refine⟨.bl (bs.any id),H,I.kept (h':=h') (t':=tk) fun b o e=>?_,?_,q⟩
  ·refine k b o (fun z=>?_) (ae _ e);have z':b=s.heap.objs.size:=by simpa using z
   exact absurd (ax e) (by rw[z'];exact bx _)
  ·have e:(b6 its.toArray.size).any (fun i=>bs.getD i false)=bs.any id:=by
    rw[ai,<-hlen];apply Bool.eq_iff_iff.mpr;simp only[List.any_eq_true];constructor
    ·rintro⟨i,hi,h⟩
     have hi':i<bs.length:=by simpa using hi
     exact⟨bs[i],List.getElem_mem hi',by simpa[av,hi']using h⟩
    ·rintro⟨b,hb,h⟩
     have⟨i,hi,ei⟩:=List.getElem_of_mem hb;subst ei;exact⟨i,by simpa using hi,by simpa[av,hi]using h⟩
   rw[e];rfl
theorem zkv (hc:X.calm=true):CallR X (.builtin "any") (rAgg X.K "any"):=by
 refine CallR.imp (zam hc) fun xs H Q h=>?_;obtain⟨B,x,dx,l,ys,d,rfl,r,e,e2,q⟩:=h;obtain⟨a,vs,rfl,h,rs⟩:=z14 r e;simp only[aggD,show("any":String)≠"list" by decide,show("any":String)≠"tuple" by decide,show("any":String)≠"sorted" by decide,show("any":String)≠"sum" by decide,show("any":String)≠"all" by decide,if_true,if_false]at e2;cases l with
 |false=>cases e2
 |true=>
  simp only[if_true]at e2;cases e3:allB ys with
  |none=>rw[e3]at e2;cases e2
  |some bs=>rw[e3]at e2;cases e2;have ev:=z2h e3 rs;subst ev;exact⟨a,bs,rfl,h,q _ H (Same.refl H) rfl⟩
end
section
variable {X:Cx}{pins pins0:List (Addr×Obj)}{σ σ0:L2.St}{H H0:Hp}{s s0:ac}{d:Addr}{o:Obj}{kvs kvs0:List (Key×V)}
end
section
variable {X:Cx}{pins:List (Addr×Obj)}{σ:L2.St}{H:Hp}{s:ac}
end
theorem REs.at {K:W.Frag}{H:Hp}{B:Ad->Prop}:∀{kvs:List (Key×V)} {es:Ents} {i:Nat} {k:Key} {v:V},REs K H B kvs es->kvs[i]?=some (k,v)->∃d,es[i]?=some (kD k,d)/\keyOk k/\Rep K H B v d
 |kvs,[],i,k,v,r,e=>by have:kvs=[]:=r;subst this;simp at e
 |kvs,(kd,d)::es,i,k,v,r,e=>by
  obtain⟨k',v',t,rfl,rfl,ok,h1,h2⟩:=r;cases i with
  |zero=>rw[List.getElem?_cons_zero]at e ⊢;cases e;exact⟨d,rfl,ok,h1⟩
  |succ i=>rw[g6]at e ⊢;exact REs.at h2 e
theorem zhz {K:W.Frag}{H:Hp}{B:Ad->Prop}{k:Key}(ok:keyOk k):Rep K H B (kV k) (kD k):=by
 cases k with
 |inl i=>exact rfl
 |inr x=>exact⟨rfl,ok⟩
section
variable {X:Cx}
end
section
variable {X:Cx}
def compI (i nt:Nat)(t:Tg)(fc:Rho->Res Bool)(fe:Rho->Res GD):Rho->Res GD:=fun ρ=>match ρ[i]? with
 |some (some (_,.dict es))=>if immE es&&decide (es.length<=LIM)then z6c nt [] t (fun _=>.ok (.al,es.map ent)) fc fe []else .no
 |_=>.no
end
section
variable {X:Cx}{pins:List (Addr×Obj)}{σ:L2.St}{H:Hp}{s:ac}
end
end Mi
namespace Mi
open PySem PySem.Spec PyProof.Rows L2 PySem.W
section
variable {X:Cx}{pins:List (Addr×Obj)}{σ:L2.St}{H:Hp}{s:ac}
end
section
variable {X:Cx}
end
end Mi
namespace Mi
open PySem PySem.Spec PyProof.Rows L2
section
variable {X:Cx}
end
end Mi
namespace Mi
open PySem PySem.Spec PyProof.Rows L2 PySem.W
theorem REs.keys {K:W.Frag}{H:Hp}{B B':Ad->Prop}:∀{kvs:List (Key×V)} {es:Ents},REs K H B kvs es->Reps K H B' (kvs.map fun kv=>kV kv.1) (es.map (·.1))
 |kvs,[],r=>by have e:kvs=[]:=r;subst e;exact rfl
 |kvs,(kd,d)::es,r=>by obtain⟨k,v,t,e,e2,ok,h,q⟩:=r;subst e e2;exact Reps.cons (zhz ok) q.keys
section
variable {X:Cx}
end
section
variable {X:Cx}{a b:Expr}{pos:Pos}{fa fb:Rho->Res GD}
end
section
variable {X:Cx}
end
end Mi
namespace Mi
open PySem PySem.Spec PyProof.Rows L2
section
variable {X:Cx}{tg a b c e:Expr}{es:List Expr}{fa fb:Rho->Res GD}{pos:Pos}
end
end Mi
namespace Mi
open PySem
abbrev ZRec (TI TO:Addr)(f0:Value)(f1:Bool):Obj:={cls:=.type "zip",dict:=none,data:=.fields #[f0,.bool f1,.bool false,.ref TI,.ref TO],slots:=#[]}
def ZF (f0:Value):Prop:=f0=Value.none\/∃T:Nat,f0=iw T
section
variable {prog:aq}{w:World}{A:bt}{E:Value->ac->Prop}{s:ac}{z TI TO:Addr}{f0:Value}{f1:Bool}
theorem z8m {a:Addr}{Q:Option Obj->ac->Prop}(h:Q (s.heap.get? a) s):wpAny (model prog w) A (loadIfAlive a) Q E s:=fun _ _ _=>h
theorem z5u {Q:Bool->ac->Prop}(hf:ZF f0)(hz:s.heap.get? z=some (ZRec TI TO f0 f1))(hQ:∀b h' f1',h'.get? z=some (ZRec TI TO f0 f1')->bd z s.heap h'->Q b {s with heap:=h'}):wpAny (model prog w) A (dg (.ref z)) Q E s:=by
 delta dg
 apply aa;refine de hz rfl (x:=f0) rfl ?_;rcases hf with rfl|⟨T,rfl⟩
 ·exact aj (hQ true s.heap f1 hz (Heap.SameBut.refl ..))
 ·show wpAny _ _ (loadIfAlive ((T:Int).toNat)>>=_) _ _ _;apply aa;refine z8m ?_;cases s.heap.get? ((T:Int).toNat)with
  |none=>exact aj (hQ true s.heap f1 hz (Heap.SameBut.refl ..))
  |some o=>
   dsimp only[Option.isNone]
   rw[if_neg (by decide)];show wpAny _ _ (field (.ref z) 1>>=_) _ _ _;apply aa;refine de hz rfl (x:=.bool f1) rfl ?_;cases f1 with
   |true=>rw[if_neg (by decide)];exact aj (hQ false s.heap true hz (Heap.SameBut.refl ..))
   |false=>rw[if_pos (by decide)];apply aa;exact dn hz (by simp) fun h' hz' sb=>aj (hQ false h' true hz' sb)
structure ZApart (z TI TO i1 i2:Addr)(p1 p2:List Addr):Prop where
 TIz:TI≠z
 TOz:TO≠z
 i1z:i1≠z
 i2z:i2≠z
 TITO:TI≠TO
 TIi1:TI≠i1
 TIi2:TI≠i2
 TOi1:TO≠i1
 TOi2:TO≠i2
 i12:i1≠i2
 f1z:z∉p1
 f1T:TO∉p1
 f1i:i2∉p1
 f2z:z∉p2
 f2T:TO∉p2
 f2i:i1∉p2
variable {i1 i2:Addr}{p1 p2:List Addr}{n1 n2 i:Nat}{P1 P2:Nat->Value->Prop}{S1 S2:Nat->Heap->Prop}{a b:Value}
abbrev PairAt (h:Heap)(T:Addr)(a b:Value):Prop:=h.get? T=some {cls:=.type "tuple",data:=.seq #[a,b]}
def Zk (z TO i1 i2:Addr)(h h':Heap):Prop:=∀c o,c≠z->c≠TO->c≠i1->c≠i2->h.get? c=some o->h'.get? c=some o
theorem z5e {T:Addr}{x:Value}{k:Nat}{Q:Unit->ac->Prop}(hT:PairAt s.heap T a b)(h:∀h',h'.get? T=some {cls:=.type "tuple",data:=.seq ((#[a,b]:Array Value).setIfInBounds k x)}->bd T s.heap h'->Q () {s with heap:=h'}):wpAny (model prog w) A (updateSeq T (·.setIfInBounds k x)) Q E s:=by exact wpAny_updateSeq hT rfl (h _ (by rw[ko _ hT rfl];simp[Obj.mapSeq]) (lj ..))
theorem za6 {Q:Value->ac->Prop}(D:ZApart z TI TO i1 i2 p1 p2)(D1:Draws prog w A i1 p1 n1 P1 S1)(D2:Draws prog w A i2 p2 n2 P2 S2)(hf:ZF f0)(hz:s.heap.get? z=some (ZRec TI TO f0 f1))(hTI:PairAt s.heap TI (.ref i1) (.ref i2))(hTO:PairAt s.heap TO a b)(h1:S1 i s.heap)(h2:S2 i s.heap)(l1:i<n1)(l2:i<n2)
  (hQ:∀x y h' tk f0' f1' a' b',P1 i x->P2 i y->ZF f0'->h'.get? z=some (ZRec TI TO f0' f1')->PairAt h' TO a' b'->S1 (i+1) h'->S2 (i+1) h'->PairAt h' s.heap.objs.size x y->Zk z TO i1 i2 s.heap h'->Q (.ref s.heap.objs.size) {s with heap:=h',toks:=tk}):
  wpAny (model prog w) A (Builtin.«zip.__next__» {pos:=[.ref z],kw:=[]}) (fun fin s'=>∃v,fin=.done (.ret v)/\Q v s') E s:=by
 show wpAny (model prog w) A (field (.ref z) 2>>=_) _ E s;apply aa;refine de hz rfl (x:=.bool false) rfl ?_;show wpAny (model prog w) A (field (.ref z) 3>>=_) _ E s;apply aa;refine de hz rfl (x:=.ref TI) rfl ?_;apply aa;refine d7 hTI rfl ?_;show wpAny (model prog w) A (dg (.ref z)>>=_) _ E s;apply aa;refine z5u hf hz fun bf h₀ f1' hz₀ sb₀=>?_;have k0:∀c o,c≠z->s.heap.get? c=some o->h₀.get? c=some o:=fun c o hc e=>sb₀.extBut c o hc e;have e1:S1 i h₀:=D1.frame _ _ _ h1 fun b hb o e=>k0 b o (fun q=>D.f1z (q▸hb)) e;have e2:S2 i h₀:=D2.frame _ _ _ h2 fun b hb o e=>k0 b o (fun q=>D.f2z (q▸hb)) e;have t0:PairAt h₀ TO a b:=k0 _ _ D.TOz hTO;have sz0:h₀.objs.size=s.heap.objs.size:=sb₀.1;cases bf with
 |true=>
  rw[if_pos rfl];apply aa;refine jc ?_;apply aa;refine de hz₀ rfl (x:=.ref TO) rfl ?_;apply aa;refine dn hz₀ (by simp) fun ha za ka=>?_;replace za:ha.get? z=some (ZRec TI TO .ellipsis f1'):=za;have e1a:S1 i ha:=D1.frame _ _ _ e1 fun b hb o e=>ka.extBut b o (fun q=>D.f1z (q▸hb)) e;have e2a:S2 i ha:=D2.frame _ _ _ e2 fun b hb o e=>ka.extBut b o (fun q=>D.f2z (q▸hb)) e;have ta:PairAt ha TO a b:=ka.extBut _ _ D.TOz t0;apply aa;simp only[gw,jd,List.zipIdx_cons,List.zipIdx_nil];apply aa;apply aa;apply jo;show wpAny (model prog w) A (bv (.ref i1)>>=_) _ _ _;apply aa;refine D1.item i _ _ _ l1 e1a fun x hb tk hPx s1b kb=>aj ?_;replace kb:bd i1 ha hb:=kb;have tb:PairAt hb TO a b:=kb.extBut _ _ D.TOi1 ta;have zb:hb.get? z=some (ZRec TI TO .ellipsis f1'):=kb.extBut _ _ D.i1z.symm za;have e2b:S2 i hb:=D2.frame _ _ _ e2a fun b hb' o e=>kb.extBut b o (fun q=>D.f2i (q▸hb')) e;apply aa;refine d7 tb rfl ?_;apply aa;refine z5e tb fun hc tc kc=>?_;replace tc:PairAt hc TO x b:=tc;replace kc:bd TO hb hc:=kc;apply aa;refine mz (aj ?_);have zc:hc.get? z=some (ZRec TI TO .ellipsis f1'):=kc.extBut _ _ D.TOz.symm zb;have e1c:S1 (i+1) hc:=D1.frame _ _ _ s1b fun b hb' o e=>kc.extBut b o (fun q=>D.f1T (q▸hb')) e;have e2c:S2 i hc:=D2.frame _ _ _ e2b fun b hb' o e=>kc.extBut b o (fun q=>D.f2T (q▸hb')) e;apply aa;apply aa;apply jo;show wpAny (model prog w) A (bv (.ref i2)>>=_) _ _ _;apply aa;refine D2.item i _ _ _ l2 e2c fun y hd tk2 hPy s2d kd=>aj ?_;replace kd:bd i2 hc hd:=kd;have td:PairAt hd TO x b:=kd.extBut _ _ D.TOi2 tc;have zd:hd.get? z=some (ZRec TI TO .ellipsis f1'):=kd.extBut _ _ D.i2z.symm zc;have e1d:S1 (i+1) hd:=D1.frame _ _ _ e1c fun b hb' o e=>kd.extBut b o (fun q=>D.f1i (q▸hb')) e;apply aa;refine d7 td rfl ?_;apply aa;refine z5e td fun he te ke=>?_;replace te:PairAt he TO x y:=te;replace ke:bd TO hd he:=ke;apply aa;refine mz (aj (aj ?_));apply aa;refine d7 te rfl ?_;apply aa;refine wpAny_newTuple ?_;have sz:he.objs.size=s.heap.objs.size:=by rw[ke.1,kd.1,kc.1,kb.1,ka.1,sz0]
  have ze:he.get? z=some (ZRec TI TO .ellipsis f1'):=ke.extBut _ _ D.TOz.symm zd;have zlt:z<he.objs.size:=ax ze;have e1e:S1 (i+1) he:=D1.frame _ _ _ e1d fun b hb' o e=>ke.extBut b o (fun q=>D.f1T (q▸hb')) e;have e2e:S2 (i+1) he:=D2.frame _ _ _ s2d fun b hb' o e=>ke.extBut b o (fun q=>D.f2T (q▸hb')) e;show wpAny _ _ (gq (.ref z) (.ref he.objs.size)>>=_) _ _ _;apply aa
  delta gq
  have zf:(he.push {cls:=.type "tuple",data:=.seq #[x,y]}).get? z=some (ZRec TI TO .ellipsis f1'):=ae _ ze;apply aa;refine dn zf (by simp) fun hg zg kg=>?_;replace zg:hg.get? z=some (ZRec TI TO (iw he.objs.size) f1'):=zg;refine dn zg (by simp) fun hh zh kh=>?_;replace zh:hh.get? z=some (ZRec TI TO (iw he.objs.size) false):=zh;have up:∀c o,c≠z->he.get? c=some o->hh.get? c=some o:=fun c o hc e=>kh.extBut _ _ hc (kg.extBut _ _ hc (ae _ e));have new:PairAt hh he.objs.size x y:=kh.extBut _ _ (jy zlt) (kg.extBut _ _ (jy zlt) (au _ rfl));refine aj ⟨.ref he.objs.size,rfl,?_⟩;rw[sz]at new ⊢;refine hQ x y hh tk2 _ _ x y hPx hPy (.inr ⟨_,rfl⟩) zh (up _ _ D.TOz te) (D1.frame _ _ _ e1e fun b hb' o e=>up b o (fun q=>D.f1z (q▸hb')) e) (D2.frame _ _ _ e2e fun b hb' o e=>up b o (fun q=>D.f2z (q▸hb')) e) new fun c o c1 c2 c3 c4 e=>?_;exact up c o c1 (ke.extBut _ _ c2 (kd.extBut _ _ c4 (kc.extBut _ _ c2 (kb.extBut _ _ c3 (ka.extBut _ _ c1 (k0 c o c1 e))))))
 |false=>
  rw[if_neg (by decide)]
  dsimp only
  apply aa;rw[<-l5];simp only[jd,gw];apply aa;apply aa;apply df;show wpAny (model prog w) A (bv (.ref i1)>>=_) _ _ _;apply aa;refine D1.item i _ _ _ l1 e1 fun x hb tk hPx s1b kb=>aj (aj ?_);replace kb:bd i1 h₀ hb:=kb;have e2b:S2 i hb:=D2.frame _ _ _ e2 fun b hb' o e=>kb.extBut b o (fun q=>D.f2i (q▸hb')) e;apply aa;apply aa;apply df;show wpAny (model prog w) A (bv (.ref i2)>>=_) _ _ _;apply aa;refine D2.item i _ _ _ l2 e2b fun y hd tk2 hPy s2d kd=>aj (aj (aj ?_));replace kd:bd i2 hb hd:=kd;have e1d:S1 (i+1) hd:=D1.frame _ _ _ s1b fun b hb' o e=>kd.extBut b o (fun q=>D.f1i (q▸hb')) e;have sz:hd.objs.size=s.heap.objs.size:=by rw[kd.1,kb.1,sz0]
  apply aa;refine wpAny_newTuple (aj ⟨_,rfl,?_⟩) (by show 2<=az;decide);have up:∀c o,hd.get? c=some o->(hd.push {cls:=.type "tuple",data:=.seq #[x,y]}).get? c=some o:=fun c o e=>ae _ e;have zd:hd.get? z=some (ZRec TI TO f0 f1'):=kd.extBut _ _ D.i2z.symm (kb.extBut _ _ D.i1z.symm hz₀);have td:PairAt hd TO a b:=kd.extBut _ _ D.TOi2 (kb.extBut _ _ D.TOi1 t0);have new:PairAt (hd.push {cls:=.type "tuple",data:=.seq #[x,y]}) hd.objs.size x y:=au _ rfl;show Q (.ref hd.objs.size) _;rw[sz]at new ⊢;refine hQ x y _ tk2 f0 f1' a b hPx hPy hf (up _ _ zd) (up _ _ td) (D1.frame _ _ _ e1d fun b hb' o e=>up b o e) (D2.frame _ _ _ s2d fun b hb' o e=>up b o e) new fun c o c1 c2 c3 c4 e=>?_;exact up c o (kd.extBut _ _ c4 (kb.extBut _ _ c3 (k0 c o c1 e)))
theorem zek {Q:Fin->ac->Prop}(D:ZApart z TI TO i1 i2 p1 p2)(D1:Draws prog w A i1 p1 n1 P1 S1)(D2:Draws prog w A i2 p2 n2 P2 S2)(hf:ZF f0)(hz:s.heap.get? z=some (ZRec TI TO f0 f1))(hTI:PairAt s.heap TI (.ref i1) (.ref i2))(hTO:PairAt s.heap TO a b)(h1:S1 i s.heap)(h2:S2 i s.heap)(hl:i=min n1 n2)
  (hE:∀h' tk e,Zk z TO i1 i2 s.heap h'->(∃o,h'.get? e=some o/\o.cls=.type "StopIteration")->E (.ref e) {s with heap:=h',toks:=tk}):
  wpAny (model prog w) A (Builtin.«zip.__next__» {pos:=[.ref z],kw:=[]}) Q E s:=by
 show wpAny (model prog w) A (field (.ref z) 2>>=_) _ E s;apply aa;refine de hz rfl (x:=.bool false) rfl ?_;show wpAny (model prog w) A (field (.ref z) 3>>=_) _ E s;apply aa;refine de hz rfl (x:=.ref TI) rfl ?_;apply aa;refine d7 hTI rfl ?_;show wpAny (model prog w) A (dg (.ref z)>>=_) _ E s;apply aa;refine z5u hf hz fun bf h₀ f1' hz₀ sb₀=>?_;have k0:∀c o,c≠z->s.heap.get? c=some o->h₀.get? c=some o:=fun c o hc e=>sb₀.extBut c o hc e;have e1:S1 i h₀:=D1.frame _ _ _ h1 fun b hb o e=>k0 b o (fun q=>D.f1z (q▸hb)) e;have e2:S2 i h₀:=D2.frame _ _ _ h2 fun b hb o e=>k0 b o (fun q=>D.f2z (q▸hb)) e;have t0:PairAt h₀ TO a b:=k0 _ _ D.TOz hTO;cases bf with
 |true=>
  rw[if_pos rfl];apply aa;refine jc ?_;apply aa;refine de hz₀ rfl (x:=.ref TO) rfl ?_;apply aa;refine dn hz₀ (by simp) fun ha za ka=>?_;replace za:ha.get? z=some (ZRec TI TO .ellipsis f1'):=za;have e1a:S1 i ha:=D1.frame _ _ _ e1 fun b hb o e=>ka.extBut b o (fun q=>D.f1z (q▸hb)) e;have e2a:S2 i ha:=D2.frame _ _ _ e2 fun b hb o e=>ka.extBut b o (fun q=>D.f2z (q▸hb)) e;have ta:PairAt ha TO a b:=ka.extBut _ _ D.TOz t0;apply aa;simp only[gw,jd,List.zipIdx_cons,List.zipIdx_nil];apply aa;apply aa;apply jo;show wpAny (model prog w) A (bv (.ref i1)>>=_) _ _ _;apply aa;by_cases hi:i<n1
  ·refine D1.item i _ _ _ hi e1a fun x hb tk hPx s1b kb=>aj ?_;replace kb:bd i1 ha hb:=kb;have tb:PairAt hb TO a b:=kb.extBut _ _ D.TOi1 ta;have zb:hb.get? z=some (ZRec TI TO .ellipsis f1'):=kb.extBut _ _ D.i1z.symm za;have e2b:S2 i hb:=D2.frame _ _ _ e2a fun b hb' o e=>kb.extBut b o (fun q=>D.f2i (q▸hb')) e;apply aa;refine d7 tb rfl ?_;apply aa;refine z5e tb fun hc tc kc=>?_;replace kc:bd TO hb hc:=kc;apply aa;refine mz (aj ?_);have zc:hc.get? z=some (ZRec TI TO .ellipsis f1'):=kc.extBut _ _ D.TOz.symm zb;have e2c:S2 n2 hc:=by rw[show n2=i by omega];exact D2.frame _ _ _ e2b fun b hb' o e=>kc.extBut b o (fun q=>D.f2T (q▸hb')) e
   apply aa;apply aa;apply jo;show wpAny (model prog w) A (bv (.ref i2)>>=_) _ _ _;apply aa;refine D2.done _ _ _ e2c fun hd e kd he=>?_;obtain⟨oe,hoe,hce⟩:=he;have zd:hd.get? z=some (ZRec TI TO .ellipsis f1'):=kd _ _ D.i2z.symm zc;have hez:e≠z:=fun q=>by subst q;rw[zd]at hoe;cases hoe;simp at hce
   refine dn zd (by simp) fun he' _ ke=>hE he' tk e (fun c o c1 c2 c3 c4 q=>?_) ⟨oe,ke.extBut _ _ hez hoe,hce⟩;exact ke.extBut _ _ c1 (kd _ _ c4 (kc.extBut _ _ c2 (kb.extBut _ _ c3 (ka.extBut _ _ c1 (k0 c o c1 q)))))
  ·have e1n:S1 n1 ha:=by rw[show n1=i by omega];exact e1a
   refine D1.done _ _ _ e1n fun hd e kd he=>?_;obtain⟨oe,hoe,hce⟩:=he;have zd:hd.get? z=some (ZRec TI TO .ellipsis f1'):=kd _ _ D.i1z.symm za;have hez:e≠z:=fun q=>by subst q;rw[zd]at hoe;cases hoe;simp at hce
   refine dn zd (by simp) fun he' _ ke=>hE he' s.toks e (fun c o c1 c2 c3 c4 q=>?_) ⟨oe,ke.extBut _ _ hez hoe,hce⟩;exact ke.extBut _ _ c1 (kd _ _ c3 (ka.extBut _ _ c1 (k0 c o c1 q)))
 |false=>
  rw[if_neg (by decide)]
  dsimp only
  apply aa;rw[<-l5];simp only[jd,gw];apply aa;apply aa;apply df;show wpAny (model prog w) A (bv (.ref i1)>>=_) _ _ _;apply aa;by_cases hi:i<n1
  ·refine D1.item i _ _ _ hi e1 fun x hb tk hPx s1b kb=>aj (aj ?_);replace kb:bd i1 h₀ hb:=kb;have e2b:S2 n2 hb:=by rw[show n2=i by omega];exact D2.frame _ _ _ e2 fun b hb' o e=>kb.extBut b o (fun q=>D.f2i (q▸hb')) e
   apply aa;apply aa;apply df;show wpAny (model prog w) A (bv (.ref i2)>>=_) _ _ _;apply aa;exact D2.done _ _ _ e2b fun hd e kd he=>hE hd tk e (fun c o c1 c2 c3 c4 q=>kd _ _ c4 (kb.extBut _ _ c3 (k0 c o c1 q))) he
  ·have e1n:S1 n1 h₀:=by rw[show n1=i by omega];exact e1
   exact D1.done _ _ _ e1n fun hd e kd he=>hE hd s.toks e (fun c o c1 c2 c3 c4 q=>kd _ _ c3 (k0 c o c1 q)) he
end
end Mi
namespace Mi
open PySem PySem.Spec PyProof.Rows L2
section
variable {prog:aq}{w:World}{A:bt}{E:Value->ac->Prop}{s:ac}
theorem z6i {it t:Addr}{i:Nat}{items:Array Value}{x:Value}{Q:Value->ac->Prop}(hit:s.heap.IsTupleIter it t i)(ht:s.heap.IsTuple t items)(hx:items[i]?=some x)
  (hQ:∀h',h'.IsTupleIter it t (i+1)->bd it s.heap h'->Q x {s with heap:=h'}):wpAny (model prog w) A (bv (.ref it)) Q E s:=by
 have ty:=hit.typeIs;obtain⟨⟨ocls,odict,odata,oslots⟩,ho,hc,hd⟩:=hit;obtain⟨⟨tcls,tdict,tdata,tslots⟩,to,tc,n,td⟩:=ht;cases hc;cases hd;cases tc;cases td;apply aa;refine ef ty F.slot_tuple_iterator_next (f6 F.slot_tuple_iterator_next ty F.entry_tuple_iterator_next ?_ (F.args_tuple_iterator_next_1 _));show wpAny _ _ (field (.ref it) 0>>=_) _ _ _;apply aa;refine de ho rfl (x:=.ref t) rfl ?_;show wpAny _ _ (field (.ref it) 1>>=_) _ _ _;apply aa;refine de ho rfl (x:=.int i 0) rfl ?_;apply aa;refine d7 to rfl ?_;have ei:((i:Int)).toNat=i:=mm i
 dsimp only
 rw[ei,hx];apply aa;refine wpAny_setField ho rfl (by simp) ?_;refine aj ⟨x,rfl,aj (hQ _ ⟨_,ko _ ho rfl,rfl,?_⟩ (lj _ _ _))⟩;rfl
theorem z34 {it t:Addr}{i:Nat}{items:Array Value}{Q:Value->ac->Prop}(hh:A.handled=none)(hit:s.heap.IsTupleIter it t i)(ht:s.heap.IsTuple t items)(hx:items[i]?=none)
  (hE:∀h' e,Heap.ExtBut it s.heap h'->(∃o,h'.get? e=some o/\o.cls=.type "StopIteration")->E (.ref e) {s with heap:=h'}):wpAny (model prog w) A (bv (.ref it)) Q E s:=by
 have ty:=hit.typeIs;obtain⟨⟨ocls,odict,odata,oslots⟩,ho,hc,hd⟩:=hit;obtain⟨⟨tcls,tdict,tdata,tslots⟩,to,tc,n,td⟩:=ht;cases hc;cases hd;cases tc;cases td;apply aa;refine ef ty F.slot_tuple_iterator_next (f6 F.slot_tuple_iterator_next ty F.entry_tuple_iterator_next ?_ (F.args_tuple_iterator_next_1 _));show wpAny _ _ (field (.ref it) 0>>=_) _ _ _;apply aa;refine de ho rfl (x:=.ref t) rfl ?_;show wpAny _ _ (field (.ref it) 1>>=_) _ _ _;apply aa;refine de ho rfl (x:=.int i 0) rfl ?_;apply aa;refine d7 to rfl ?_;have ei:((i:Int)).toNat=i:=mm i
 dsimp only
 rw[ei,hx];apply aa;refine jc ?_;apply aa;refine wpAny_setField ho rfl (by simp) ?_
 delta Builtin.SmallTypes.stopIteration
 repeat (any_goals (first|assumption|wp_step))
 refine wpAny_raiseNew_none (show A.in1.handled=none from hh) ?_;refine hE _ _ (fun b o hb e=>?_) ⟨_,au _ rfl,rfl⟩;refine ae _ (ae _ ?_);rw[Heap.get?_update_ne _ _ _ _ hb];exact e
theorem zg6 (hh:A.handled=none)(it t:Addr)(hne:t≠it)(items:Array Value):Draws prog w A it [it,t] items.size (fun i v=>items[i]?=some v) (fun i h=>h.IsTupleIter it t i/\h.IsTuple t items) where
 live:=fun i h st=>let⟨⟨o,ho,_⟩,_⟩:=st;⟨o,ho⟩
 frame:=fun i h h' st k=>by obtain⟨⟨o,ho,r⟩,⟨o2,ho2,r2⟩⟩:=st;exact⟨⟨o,k it (by simp) o ho,r⟩,⟨o2,k t (by simp) o2 ho2,r2⟩⟩
 item:=fun i s1 Q1 E1 hi st hQ=>by refine z6i st.1 st.2 (jg hi) fun h' h1 sb=>?_;obtain⟨o2,ho2,r2⟩:=st.2;exact hQ _ h' s1.toks (jg hi) ⟨h1,⟨o2,sb.extBut t o2 hne ho2,r2⟩⟩ sb
 done:=fun s Q E st hE=>z34 hh st.1 st.2 (Array.getElem?_eq_none (ag _)) hE
end
def IsB (h:Heap)(l:Bool)(a:Addr)(xs:Array Value):Prop:=match l with
 |true=>h.IsList a xs
 |false=>h.IsTuple a xs
def ItB (h:Heap)(l:Bool)(it a:Addr)(i:Nat):Prop:=match l with
 |true=>h.IsListIter it a i
 |false=>h.IsTupleIter it a i
def SqB (K:W.Frag)(H:Hp)(l:Bool)(a:Addr)(vs:List V):Prop:=match l with
 |true=>SqL K H a vs
 |false=>SqT K H a vs
def SrB (K:W.Frag)(H:Hp)(B:Ad->Prop)(l:Bool)(a:Addr)(vs:List V):Prop:=match l with
 |true=>(H a=some (.lst vs)/\B (some a))\/(FL K H a vs/\B none)
 |false=>SqT K H a vs
abbrev itObj (l:Bool)(a:Addr):Obj:={cls:=.type (if l then "list_iterator"else "tuple_iterator"),data:=.fields #[.ref a,.int 0 0]}
theorem SrB.keep {K:W.Frag}{H H2:Hp}{B:Ad->Prop}{l:Bool}{a:Addr}{vs:List V}(h:SrB K H B l a vs)(k:Kp B H H2):SqB K H2 l a vs:=by
 cases l with
 |true=>
  rcases h with⟨h,b⟩|⟨⟨o,h⟩|h,_⟩
  ·exact .inl (.inl (k a _ h (.inl b)))
  ·exact .inl (.inr ⟨o,k a _ h (.inr True.intro)⟩)
  ·exact .inr h
 |false=>exact SqT.keep k h
theorem SrB.of {K:W.Frag}{H:Hp}{B:Ad->Prop}{v:V}{d:D}{xs:List D}(r:Rep K H B v d)(e:seqR d=.ok xs):∃l a vs,v=.ref a/\SrB K H B l a vs/\Reps K H B vs xs/\xs.length<=LIM:=by
 cases d<;>try (exact(z0n e).elim)
 case list ds=>
  have e:(if decide (ds.length<=LIM)=true then Res.ok ds else Res.no)=Res.ok xs:=e;split at e
  ·rename_i hc;cases e;obtain⟨a,vs,rfl,h,rs⟩:=r;exact⟨true,a,vs,rfl,h,rs,np hc⟩
  ·cases e
 case tuple ds=>
  have e:(if decide (ds.length<=LIM)=true then Res.ok ds else Res.no)=Res.ok xs:=e;split at e
  ·rename_i hc;cases e;obtain⟨a,vs,rfl,h,rs⟩:=r;exact⟨false,a,vs,rfl,h,rs,np hc⟩
  ·cases e
section
variable {X:Cx}{pins:List (Addr×Obj)}{σ:L2.St}{H:Hp}{s:ac}
theorem SqB.items {l:Bool}{a:Addr}{vs:List V}(I:Inv X pins σ H s)(h:SqB X.K H l a vs):∃its:List Value,Vals vs its/\IsB s.heap l a its.toArray/\vs.length=its.length:=by
 cases l with
 |true=>obtain⟨its,rv,p,_⟩:=I.list h;exact⟨its,rv,p.isList,rv.length⟩
 |false=>obtain⟨its,rv,p,_⟩:=I.tuple h;exact⟨its,rv,p,rv.length⟩
end
theorem z33 {prog:aq}{w:World}{A:bt}(hh:A.handled=none)(l:Bool)(it a:Addr)(hne:a≠it)(items:Array Value):Draws prog w A it [it,a] items.size (fun i v=>items[i]?=some v) (fun i h=>ItB h l it a i/\IsB h l a items):=by
 cases l with
 |true=>exact Draws.list hh it a hne items
 |false=>exact zg6 hh it a hne items
theorem ItB.live {h:Heap}{l:Bool}{it a:Addr}{i:Nat}(x:ItB h l it a i):∃o,h.get? it=some o/\∀v,o.data≠.cell v:=by cases l<;>(obtain⟨o,ho,_,hd⟩:=x;exact⟨o,ho,fun v z=>by rw[hd]at z;cases z⟩)
theorem ItB.keep {h h':Heap}{l:Bool}{it a:Addr}{i:Nat}(x:ItB h l it a i)(k:∀o,h.get? it=some o->h'.get? it=some o):ItB h' l it a i:=by cases l<;>(obtain⟨o,ho,r⟩:=x;exact⟨o,k o ho,r⟩)
theorem ItB.new {h:Heap}{l:Bool}{it a:Addr}(x:h.get? it=some (itObj l a)):ItB h l it a 0:=by cases l<;>exact⟨_,x,rfl,rfl⟩
theorem IsB.lt {h:Heap}{l:Bool}{a:Addr}{xs:Array Value}(x:IsB h l a xs):a<h.objs.size:=by cases l<;>(obtain⟨o,ho,_⟩:=x;exact ax ho)
theorem IsB.push {h:Heap}{l:Bool}{a:Addr}{xs:Array Value}(x:IsB h l a xs)(o:Obj):IsB (h.push o) l a xs:=by cases l<;>(obtain⟨q,hq,r⟩:=x;exact⟨q,ae _ hq,r⟩)
theorem z65 {prog:aq}{w:World}{A:bt}{E:Value->ac->Prop}{s:ac}{l:Bool}{a:Addr}{xs:Array Value}{Q:Value->ac->Prop}(h:IsB s.heap l a xs)(hQ:Q (.ref s.heap.objs.size) {s with heap:=s.heap.push (itObj l a)}):wpAny (model prog w) A (j2 (.ref a)) Q E s:=by
 cases l with
 |true=>exact gc h hQ
 |false=>exact jb h hQ
section
variable {X:Cx}{pins:List (Addr×Obj)}{σ:L2.St}{H:Hp}{s:ac}
theorem _root_.L2.Inv.turnedTL {fp:List Addr}{p:Addr}{h':Heap}{t':Nat}{xs:List V}(I:Inv X pins σ H s)(f:∀b∈fp,FpOk X pins H b)(keep:∀b q,b∉fp->s.heap.get? b=some q->h'.get? b=some q)(hp:s.heap.objs.size<=p)
  (new:z0k X.prog X.w (upd H p (.tup xs)) h' p (.tup xs)):Inv X pins σ (upd H p (.tup xs)) {s with heap:=h',toks:=t'}:=by
 have hn:H p=none:=I.hok.fresh hp;have away:∀b u,H b=some u->b∉fp:=fun b u e1 z=>by rw[(f b z).1]at e1;cases e1
 have loc:X.env.locals∉fp:=fun z=>(f _ z).2.1 rfl;refine I.step (g':=s.gens) (d':=s.drawn) (ch:=fp) (fun b hb=>?_) (fun b q _ _ hc e _=>keep b q hc e) (fun b q _ _ hc e _=>⟨q.slots,keep b q hc e⟩) (fun b q _ e n=>by rw[z03 (bq (bn (ax e) hp))];exact n) (fun b q hc e=>⟨q,keep b q hc e⟩) (fun b xs q=>by rw[z03 (z07 q hn)];exact q) (fun b u xs q=>by rw[z03 (z07 q hn)];exact q) (fun b ps q=>⟨#[],by rw[z03 (z07 q hn),q];simp⟩) (fun m hm=>?_) (fun b u e=>?_) I.bare
 ·obtain⟨f0,f1,f2,f3,f4,f5⟩:=f b hb;exact⟨f3,f1,f4,f5⟩
 ·exact hm.at fun q e=>keep _ q loc e
 ·by_cases hb:b=p
  ·subst hb;rw[z08]at e;cases e;exact new
  ·rw[z03 hb]at e;refine(I.hok b u e).stay (fun c v hc q=>keep c v ?_ q) (fun c q=>by rw[z03 (z07 q hn)];exact q) fun c xs q=>by rw[z03 (z07 q hn)];exact q
   rcases hc with rfl|hc
   ·exact away _ _ e
   ·exact away _ _ hc
theorem _root_.L2.Inv.turnedL {fp:List Addr}{h':Heap}{t':Nat}(I:Inv X pins σ H s)(f:∀b∈fp,FpOk X pins H b)(keep:∀b q,b∉fp->s.heap.get? b=some q->h'.get? b=some q):Inv X pins σ H {s with heap:=h',toks:=t'}:=by
 have away:∀b u,H b=some u->b∉fp:=fun b u e1 z=>by rw[(f b z).1]at e1;cases e1
 have loc:X.env.locals∉fp:=fun z=>(f _ z).2.1 rfl;refine I.step (g':=s.gens) (d':=s.drawn) (ch:=fp) (fun b hb=>?_) (fun b q _ _ hc e _=>keep b q hc e) (fun b q _ _ hc e _=>⟨q.slots,keep b q hc e⟩) (fun b q _ e n=>n) (fun b q hc e=>⟨q,keep b q hc e⟩) (fun b xs q=>q) (fun b u xs q=>q) (fun b ps q=>⟨#[],by rw[q];simp⟩) (fun m hm=>?_) (fun b u e=>?_) I.bare
 ·obtain⟨f0,f1,f2,f3,f4,f5⟩:=f b hb;exact⟨f3,f1,f4,f5⟩
 ·exact hm.at fun q e=>keep _ q loc e
 ·refine(I.hok b u e).stay (fun c v hc q=>keep c v ?_ q) (fun c q=>q) fun c xs q=>q;rcases hc with rfl|hc
  ·exact away _ _ e
  ·exact away _ _ hc
end
theorem z4z {vs:List V}{its:List Value}{i:Nat}{x:Value}(rv:Vals vs its)(hi:i<vs.length)(hx:its.toArray[i]?=some x):∃v,vs[i]?=some v/\RelV v x:=by
 refine⟨vs[i],ba hi,?_⟩;obtain⟨u,e1,e2⟩:=rv.get (ba hi);have hx':its[i]?=some x:=by simpa using hx
 rw[hx']at e1;cases e1;exact e2
def ItE (K:W.Frag)(l:Bool)(t:Addr)(vs:List V):It:=⟨fun i H=>SqB K H l t vs/\i<vs.length,fun i H x H'=>∃p v,vs[i]?=some v/\H p=none/\x=.ref p/\H'=upd H p (.tup [.int i,v]),fun i H=>SqB K H l t vs/\i=vs.length⟩
theorem z8z {P:aq}{w:World}{K:W.Frag}{elts:List Expr}{x1:Nat}{pos:Pos}{l:Bool}{t e it:Addr}{vs:List V}(h1:t≠it)(h2:t≠e)(h3:e≠it):
  Turn P w K (.Tuple elts x1 pos) (ItE K l t vs) [e,it] e (fun i h=>(∃old,IsEnum h e it i old)/\ItB h l it t i) where
 mem:=by simp
 obj:=fun i h st b hb=>by
  obtain⟨⟨old,he⟩,hit⟩:=st;rcases(bc.mp hb)with rfl|hb
  ·exact⟨_,he,fun v z=>by cases z⟩
  ·obtain rfl:b=it:=by simpa using hb
   exact hit.live
 keep:=fun i h h' st k=>by obtain⟨⟨old,he⟩,hit⟩:=st;exact⟨⟨old,k e (by simp) _ he⟩,hit.keep fun o=>k it (by simp) o⟩
 item:=by
  intro X hP hw hK hc i pins s σ H E I hf st hg;subst hP hw hK;obtain⟨hq,hi⟩:=hg;obtain⟨⟨old,he⟩,hit⟩:=st;obtain⟨its,rv,p,hl⟩:=SqB.items I hq;have hA:X.A.in1.handled=none:=I.ok.hd hc;have D:=z33 (prog:=X.prog) (w:=X.w) (A:=X.A.in1) hA l it t h1 its.toArray;have W:=WalksT.enumerateD D e h3 (by simp[h3,Ne.symm h2]) (by simp);obtain⟨oi,hoi,_⟩:=hit.live;refine wpAny_pyNext_enum_itemD D he ⟨hit,p⟩ (by simp;omega) h3 (by simp[h3,Ne.symm h2]) fun x h' tk hx hout hst htup hsz kp=>⟨_,rfl,?_⟩;have hT:s.heap.objs.size≠e/\s.heap.objs.size≠it:=⟨fun z=>bx _ (z▸ax he),fun z=>bx _ (z▸ax hoi)⟩;refine W.go elts x1 pos i s.heap.objs.size {s with heap:=h',toks:=tk+1} _ _ ⟨⟨x,hout⟩,hst,hT.1,hT.2⟩ fun h'' st'' kp2=>?_;have nw':s.heap.objs.size∉ [e,it]:=by simp[hT.1,hT.2]
  have htup':=kp2 s.heap.objs.size _ nw' htup;have hHp:H s.heap.objs.size=none:=I.hok.fresh (ag _);obtain⟨v,hv,rx⟩:=z4z rv hi hx;have I1:=I.turnedTL (fp:=[e,it]) (t':=tk+1) (xs:=[.int i,v]) (h':=h'') hf (fun b q hb z=>kp2 b q hb (kp b q (fun z=>hb (by simp[z])) (fun z=>hb (by simp[z])) z)) (ag _) ⟨by rw[f9];simp,[.int i tk,x],.cons ⟨tk,rfl⟩ (.cons rx .nil),0,htup'⟩;refine⟨.ref s.heap.objs.size,_,I1,rfl,⟨_,v,hv,hHp,rfl,rfl⟩,⟨st''.1,st''.2.1⟩,fun b hb=>?_⟩;rw[z03 fun z:b=s.heap.objs.size=>nw' (by rw[<-z];exact hb)];exact(hf b hb).1
 done:=by intro X hP hw hK hc i pins s σ H E I hf st hg;subst hP hw hK;obtain⟨hq,hi⟩:=hg;obtain⟨⟨old,he⟩,hit⟩:=st;obtain⟨its,rv,p,hl⟩:=SqB.items I hq;have hA:X.A.in1.handled=none:=I.ok.hd hc;have D:=z33 (prog:=X.prog) (w:=X.w) (A:=X.A.in1) hA l it t h1 its.toArray;have St:ItB s.heap l it t its.toArray.size/\IsB s.heap l t its.toArray:=⟨by rw[ai,<-hl,<-hi];exact hit,p⟩;exact wpAny_pyNext_enum_endD D he St fun h' eb=>⟨rfl,I.turnedL (t':=s.toks) hf fun b o hb z=>eb b o (fun q=>hb (by simp[q])) z⟩
 self:=fun _ _ _ _ _ st h=>by obtain⟨⟨old,he⟩,_⟩:=st;exact mo he h
theorem z4n:∀(xs:List D) (k i:Nat),(z15 k xs)[i]?=(xs[i]?).map fun x=>.tuple [.int ((k+i:Nat):Int),x]
 | [],k,i=>by simp[z15]
 |x::xs,k,0=>by simp[z15]
 |x::xs,k,i+1=>by
  rw[z15,g6,g6,z4n xs (k+1) i];have:k+1+i=k+(i+1):=by omega
  rw[this]
theorem z1r:∀(xs:List D) (k:Nat),(z15 k xs).length=xs.length
 | [],_=>rfl
 |x::xs,k=>by rw[z15,bh,bh,z1r xs]
theorem z92 {K:W.Frag}{H:Hp}{B:Ad->Prop}{l:Bool}{t:Addr}{vs:List V}{xs:List D}(hq:SrB K H B l t vs)(rs:Reps K H B vs xs)(hz:xs.length<=az):Walk K (ItE K l t vs) B H (z15 0 xs):=by
 have hl:=rs.length;constructor
 ·rw[z1r];exact hz
 ·intro H2 kp i h;rw[z1r]at h;exact⟨hq.keep kp,by omega⟩
 ·intro H2 kp;exact⟨hq.keep kp,by rw[z1r];exact hl.symm⟩
 ·intro H2 kp i x H3 h y;obtain⟨p,v,hv,hp,rfl,rfl⟩:=y;obtain⟨d,hd,rv⟩:=Reps.getV rs hv;refine⟨Same.upd hp,.tuple [.int i,d],by rw[z4n,hd];simp,p,[.int i,v],rfl,SqT.of z08,?_⟩;refine Reps.cons rfl (Reps.cons ?_ rfl);exact Rep.keep (H':=upd H2 p (.tup [.int i,v])) (fun a q e f=>by have h2:=kp a q e f;rw[z03 (z07 h2 hp)];exact h2) (fun _ z=>z) d rv
theorem z6m (l:Bool)(t:Addr)(items:Array Value):Meets (Builtin.«enumerate.__new__» {pos:=[.type "enumerate",.ref t]}) fun _ R s=>
  IsB s.heap l t items/\R (.ok (.ret (.ref (s.heap.push (itObj l t)).objs.size))) {s with heap:=(s.heap.push (itObj l t)).push {cls:=.type "enumerate",data:=.fields #[.none,.bool false,.ref s.heap.objs.size,iw 0,.none,.none]}}:=by
 rintro prog w A R s ⟨ht,hR⟩
 have sub:=sub_enumerate
 delta Builtin.«enumerate.__new__»
 repeat (any_goals (first|assumption|(apply z65 ht)|wp_step))
 refine wpAny_stack fun st _ _ _=>?_;refine gg (Q:=fun _ s'=>s'=s) (aj rfl) (fun b s' hs=>?_) fun _ _ x=>x;subst hs;cases b
 all_goals repeat (any_goals (first|assumption|(apply z65 ht)|wp_step))
 all_goals exact hR
theorem z9u {prog:aq}{w:World}{A:bt}{E:Value->ac->Prop}{s:ac}{l:Bool}{t:Addr}{items:Array Value}{Q:Value->ac->Prop}(ht:IsB s.heap l t items)
  (hQ:Q (.ref (s.heap.push (itObj l t)).objs.size) {s with heap:=(s.heap.push (itObj l t)).push {cls:=.type "enumerate",data:=.fields #[.none,.bool false,.ref s.heap.objs.size,iw 0,.none,.none]}}):wpAny (model prog w) A (call (.type "enumerate") [.ref t]) Q E s:=by
 refine callType_new F.called_enumerate (by decide) (F.typeCall_enumerate_1 _) (F.newCall_enumerate_1 _) (fun obj=>?_) F.entry_enumerate_new (z6m l t items) ⟨ht,⟨_,au _ rfl,rfl⟩,hQ⟩;exact F.args_object_init_2 _ _
section
variable {X:Cx}{pins:List (Addr×Obj)}{σ:L2.St}
theorem z4h {H1:Hp}{s1:ac}{B:Ad->Prop}{y:V}{v:Value}{d:D}{xs:List D}{R:It->Hp->Prop}{elts:List Expr}{x1:Nat}{tp:Pos}(I1:Inv X pins σ H1 s1)(r1:RelV y v)(rv:Rep X.K H1 B y d)(e:seqR d=.ok xs)(q:∀J,Walk X.K J B H1 (z15 0 xs)->R J H1):
  wpAny (model X.prog X.w) X.A (call (.type "enumerate") [v]) (fun v' s2=>wpAny (model X.prog X.w) X.A (j2 v') (PIE X pins σ (.Tuple elts x1 tp) R) X.xe s2) X.xe s1:=by
 obtain⟨l,t,ts,rfl,hq,rps,hz⟩:=SrB.of rv e;cases r1;obtain⟨its,rvs,pt,_⟩:=SqB.items I1 (hq.keep (Kp.of (Same.refl H1)));refine z9u pt ?_;generalize hR:s1.heap.push (itObj l t)=hp;have szp:hp.objs.size=s1.heap.objs.size+1:=by rw[<-hR];exact j8 _ _
 have I2:Inv X pins σ H1 {s1 with heap:=hp}:=I1.kept (t':=s1.toks) fun b o e=>hR▸ae _ e;generalize hR2:hp.push {cls:=.type "enumerate",data:=.fields #[.none,.bool false,.ref s1.heap.objs.size,iw 0,.none,.none]}=hp2;have I3:Inv X pins σ H1 {s1 with heap:=hp2}:=I2.kept (t':=s1.toks) fun b o e=>hR2▸ae _ e;have g1:hp2.get? hp.objs.size=some {cls:=.type "enumerate",data:=.fields #[.none,.bool false,.ref s1.heap.objs.size,iw 0,.none,.none]}:=by rw[<-hR2];exact au _ rfl
 have g2:hp2.get? s1.heap.objs.size=some (itObj l t):=by rw[<-hR2];refine ae _ ?_;rw[<-hR];exact au _ rfl
 have ht:t<s1.heap.objs.size:=pt.lt;refine mo (e:=hp.objs.size) (it:=s1.heap.objs.size) (i:=0) (old:=.none) g1 ?_;refine⟨hp.objs.size,[hp.objs.size,s1.heap.objs.size],_,ItE X.K l t ts,H1,rfl,I3,z8z (bq ht) (bq (i3 ht (by rw[szp];exact jr _))) (by rw[szp];exact Nat.succ_ne_self _),⟨⟨.none,g1⟩,ItB.new g2⟩,fun b hb=>?_,q _ (z92 hq rps (z0e hz))⟩;rcases(bc.mp hb)with rfl|hb
 ·exact I2.fpOk (ag _) (I2.hok.fresh (ag _))
 ·obtain rfl:b=s1.heap.objs.size:=by simpa using hb
  exact I1.fpOk (ag _) (I1.hok.fresh (ag _))
end
def ItZ (K:W.Frag)(l1:Bool)(a1:Addr)(vs:List V)(l2:Bool)(a2:Addr)(ws:List V):It:=⟨fun i H=>SqB K H l1 a1 vs/\SqB K H l2 a2 ws/\i<min vs.length ws.length,fun i H x H'=>∃p v w,vs[i]?=some v/\ws[i]?=some w/\H p=none/\x=.ref p/\H'=upd H p (.tup [v,w]),fun i H=>SqB K H l1 a1 vs/\SqB K H l2 a2 ws/\i=min vs.length ws.length⟩
def ZSt (z TI TO i1 i2:Addr)(l1:Bool)(a1:Addr)(l2:Bool)(a2:Addr)(i:Nat)(h:Heap):Prop:=(∃f0 f1,ZF f0/\h.get? z=some (ZRec TI TO f0 f1))/\PairAt h TI (.ref i1) (.ref i2)/\(∃a b,PairAt h TO a b)/\ItB h l1 i1 a1 i/\ItB h l2 i2 a2 i
theorem zgx {prog:aq}{w:World}{A:bt}{E:Value->ac->Prop}{s:ac}{tg:Expr}{z TI TO T:Addr}{f0:Value}{f1:Bool}{Q:Unit->ac->Prop}(ht:(isTup tg||isNm tg)=true)(hf:ZF f0)(hz:s.heap.get? z=some (ZRec TI TO f0 f1))
  (hQ:∀h' f0',ZF f0'->h'.get? z=some (ZRec TI TO f0' f1)->bd z s.heap h'->Q () {s with heap:=h'}):wpAny (model prog w) A (eg tg (.ref z) (.ref T)) Q E s:=by
 cases tg<;>first|(cases ht;done)|exact aj (hQ s.heap f0 hf hz (Heap.SameBut.refl ..))|skip
 delta eg
 apply aa;refine m7 hz ?_;show wpAny _ _ (if(_&&(f0::_:List Value).toArray[0]?==some (iw T))=true then _ else _) Q E s;by_cases hc:(some f0==some (iw T))=true
 ·rw[if_pos (by simpa using hc)];apply aa;refine jc ?_;show wpAny (model prog w) A (setField (.ref z) 0 .none) Q E s;exact dn hz (by simp) fun h' hz' sb=>hQ h' .none (.inl rfl) hz' sb
 ·rw[if_neg (by simpa using hc)];exact aj (hQ s.heap f0 hf hz (Heap.SameBut.refl ..))
theorem za7 {prog:aq}{w:World}{A:bt}{E:Value->ac->Prop}{s:ac}{z TI TO i1 i2:Addr}{p1 p2:List Addr}{n1 n2 i:Nat}{P1 P2:Nat->Value->Prop}{S1 S2:Nat->Heap->Prop}{a b:Value}{f0:Value}{f1:Bool}{Q:Option Value->ac->Prop}(D:ZApart z TI TO i1 i2 p1 p2)(D1:Draws prog w A.in1 i1 p1 n1 P1 S1)(D2:Draws prog w A.in1 i2 p2 n2 P2 S2)(hf:ZF f0)(hz:s.heap.get? z=some (ZRec TI TO f0 f1))(hTI:PairAt s.heap TI (.ref i1) (.ref i2))(hTO:PairAt s.heap TO a b)(h1:S1 i s.heap)(h2:S2 i s.heap)(l1:i<n1)(l2:i<n2)
  (hQ:∀x y h' tk f0' f1' a' b',P1 i x->P2 i y->ZF f0'->h'.get? z=some (ZRec TI TO f0' f1')->PairAt h' TO a' b'->S1 (i+1) h'->S2 (i+1) h'->PairAt h' s.heap.objs.size x y->Zk z TO i1 i2 s.heap h'->Q (some (.ref s.heap.objs.size)) {s with heap:=h',toks:=tk}):wpAny (model prog w) A (jz (.ref z)) Q E s:=by
 have ty:s.TypeIs (.ref z) "zip":=⟨_,hz,rfl⟩
 delta jz
 apply aa;apply wpAny_attempt;refine ef (name:=Str.ofString "__next__") ty F.slot_zip_next (f6 F.slot_zip_next ty F.entry_zip_next ?_ (F.args_zip_next_1 _));exact za6 D D1 D2 hf hz hTI hTO h1 h2 l1 l2 fun x y h' tk f0' f1' a' b' c1 c2 c3 c4 c5 c6 c7 c8 c9=>aj (hQ x y h' tk f0' f1' a' b' c1 c2 c3 c4 c5 c6 c7 c8 c9)
theorem z9p {prog:aq}{w:World}{A:bt}{E:Value->ac->Prop}{s:ac}{z TI TO i1 i2:Addr}{p1 p2:List Addr}{n1 n2 i:Nat}{P1 P2:Nat->Value->Prop}{S1 S2:Nat->Heap->Prop}{a b:Value}{f0:Value}{f1:Bool}{Q:Option Value->ac->Prop}(D:ZApart z TI TO i1 i2 p1 p2)(D1:Draws prog w A.in1 i1 p1 n1 P1 S1)(D2:Draws prog w A.in1 i2 p2 n2 P2 S2)(hf:ZF f0)(hz:s.heap.get? z=some (ZRec TI TO f0 f1))(hTI:PairAt s.heap TI (.ref i1) (.ref i2))(hTO:PairAt s.heap TO a b)(h1:S1 i s.heap)(h2:S2 i s.heap)(hl:i=min n1 n2)
  (hQ:∀h' tk,Zk z TO i1 i2 s.heap h'->Q none {s with heap:=h',toks:=tk}):wpAny (model prog w) A (jz (.ref z)) Q E s:=by
 have ty:s.TypeIs (.ref z) "zip":=⟨_,hz,rfl⟩
 delta jz
 apply aa;apply wpAny_attempt;refine ef (name:=Str.ofString "__next__") ty F.slot_zip_next (f6 F.slot_zip_next ty F.entry_zip_next ?_ (F.args_zip_next_1 _));refine zek D D1 D2 hf hz hTI hTO h1 h2 hl fun h' tk e kp he=>?_;obtain⟨o,ho,hc⟩:=he;apply aa;refine wpAny_isInstance (T:="StopIteration") (b:=true) ⟨o,ho,hc⟩ isSubtype_stop ?_;exact aj (hQ _ _ kp)
theorem zaa {P:aq}{w:World}{K:W.Frag}{tg:Expr}{z TI TO i1 i2 a1 a2:Addr}{l1 l2:Bool}{vs ws:List V}(ht:(isTup tg||isNm tg)=true)(D:ZApart z TI TO i1 i2 [i1,a1] [i2,a2])(n1:a1≠i1)(n2:a2≠i2):
  Turn P w K tg (ItZ K l1 a1 vs l2 a2 ws) [z,TI,TO,i1,i2] z (ZSt z TI TO i1 i2 l1 a1 l2 a2) where
 mem:=by simp
 obj:=fun i h st b hb=>by
  obtain⟨⟨f0,f1,_,hz⟩,hTI,⟨a,c,hTO⟩,h1,h2⟩:=st;simp only[cr,bc,or_false]at hb;rcases hb with rfl|rfl|rfl|rfl|rfl
  ·exact⟨_,hz,fun v q=>by cases q⟩
  ·exact⟨_,hTI,fun v q=>by cases q⟩
  ·exact⟨_,hTO,fun v q=>by cases q⟩
  ·exact h1.live
  ·exact h2.live
 keep:=fun i h h' st k=>by obtain⟨⟨f0,f1,hf,hz⟩,hTI,⟨a,c,hTO⟩,h1,h2⟩:=st;exact⟨⟨f0,f1,hf,k z (by simp) _ hz⟩,k TI (by simp) _ hTI,⟨a,c,k TO (by simp) _ hTO⟩,h1.keep fun o=>k i1 (by simp) o,h2.keep fun o=>k i2 (by simp) o⟩
 item:=by
  intro X hP hw hK hc i pins s σ H E I hf st hg;subst hP hw hK;obtain⟨hq1,hq2,hi⟩:=hg;obtain⟨⟨f0,f1,zf,hz⟩,hTI,⟨a,c,hTO⟩,h1,h2⟩:=st;obtain⟨its1,rv1,b1,e1⟩:=SqB.items I hq1;obtain⟨its2,rv2,b2,e2⟩:=SqB.items I hq2;have hA:X.A.in1.handled=none:=I.ok.hd hc;have D1:=z33 (prog:=X.prog) (w:=X.w) (A:=X.A.in1) hA l1 i1 a1 n1 its1.toArray;have D2:=z33 (prog:=X.prog) (w:=X.w) (A:=X.A.in1) hA l2 i2 a2 n2 its2.toArray;refine za7 D D1 D2 zf hz hTI hTO ⟨h1,b1⟩ ⟨h2,b2⟩ (by rw[ai];omega) (by rw[ai];omega) fun x y h' tk f0' f1' a' b' hx hy zf' hz' hTO' st1 st2 new kp=>⟨_,rfl,?_⟩;refine zgx ht zf' hz' fun h'' f0'' zf'' hz'' sb=>?_;have lt:∀{c o},s.heap.get? c=some o->s.heap.objs.size≠c:=fun e q=>bx _ (q▸ax e);obtain⟨o1,ho1,_⟩:=h1.live;obtain⟨o2,ho2,_⟩:=h2.live;have nw':s.heap.objs.size∉ [z,TI,TO,i1,i2]:=by simp[lt hz,lt hTI,lt hTO,lt ho1,lt ho2]
  have up:∀c o,c≠z->h'.get? c=some o->h''.get? c=some o:=fun c o hc e=>sb.extBut c o hc e;have new':PairAt h'' s.heap.objs.size x y:=up _ _ (lt hz) new;obtain⟨v,hv,rx⟩:=z4z rv1 (by omega) hx;obtain⟨u,hu,ry⟩:=z4z rv2 (by omega) hy;have hHp:H s.heap.objs.size=none:=I.hok.fresh (ag _);have I1:=I.turnedTL (fp:=[z,TI,TO,i1,i2]) (t':=tk) (xs:=[v,u]) (h':=h'') hf (fun b q hb e=>up b q (fun q=>hb (by simp[q])) (kp b q (fun q=>hb (by simp[q])) (fun q=>hb (by simp[q])) (fun q=>hb (by simp[q])) (fun q=>hb (by simp[q])) e)) (ag _) ⟨by rw[f9];simp,[x,y],.cons rx (.cons ry .nil),0,new'⟩;refine⟨.ref s.heap.objs.size,_,I1,rfl,⟨_,v,u,hv,hu,hHp,rfl,rfl⟩,⟨⟨f0'',f1',zf'',hz''⟩,up _ _ D.TIz (kp _ _ D.TIz D.TITO D.TIi1 D.TIi2 hTI),⟨a',b',up _ _ D.TOz hTO'⟩,st1.1.keep fun o=>up _ o D.i1z,st2.1.keep fun o=>up _ o D.i2z⟩,fun b hb=>?_⟩;rw[z03 fun q:b=s.heap.objs.size=>nw' (by rw[<-q];exact hb)];exact(hf b hb).1
 done:=by intro X hP hw hK hc i pins s σ H E I hf st hg;subst hP hw hK;obtain⟨hq1,hq2,hi⟩:=hg;obtain⟨⟨f0,f1,zf,hz⟩,hTI,⟨a,c,hTO⟩,h1,h2⟩:=st;obtain⟨its1,rv1,b1,e1⟩:=SqB.items I hq1;obtain⟨its2,rv2,b2,e2⟩:=SqB.items I hq2;have hA:X.A.in1.handled=none:=I.ok.hd hc;have D1:=z33 (prog:=X.prog) (w:=X.w) (A:=X.A.in1) hA l1 i1 a1 n1 its1.toArray;have D2:=z33 (prog:=X.prog) (w:=X.w) (A:=X.A.in1) hA l2 i2 a2 n2 its2.toArray;refine z9p D D1 D2 zf hz hTI hTO ⟨h1,b1⟩ ⟨h2,b2⟩ (by rw[ai,ai];omega) fun h' tk kp=>⟨rfl,I.turnedL hf fun b q hb e=>?_⟩;exact kp b q (fun q=>hb (by simp[q])) (fun q=>hb (by simp[q])) (fun q=>hb (by simp[q])) (fun q=>hb (by simp[q])) e
 self:=fun _ _ _ _ _ st h=>by obtain⟨⟨f0,f1,_,hz⟩,_⟩:=st;have ty:Shared.TypeIs _ (.ref z) "zip":=⟨_,hz,rfl⟩;refine wpAny_pyIter_slot ty F.slot_zip_iter (f6 F.slot_zip_iter ty F.entry_zip_iter ?_ (F.args_zip_iter_1 _));show wpAny _ _ (ret (.ref z)) _ _ _;exact aj ⟨_,rfl,"zip",_,ty,F.slot_zip_next.lookup,h⟩
theorem z60:∀(xs ys:List D) (i:Nat) {x y:D},xs[i]?=some x->ys[i]?=some y->(zipD xs ys)[i]?=some (.tuple [x,y])
 |x::xs,y::ys,0,_,_,h1,h2=>by cases h1;cases h2;rfl
 |x::xs,y::ys,i+1,_,_,h1,h2=>z60 xs ys i h1 h2
 | [],_,i,_,_,h1,_=>by simp at h1
 |_::_,[],i,_,_,_,h2=>by simp at h2
theorem z2a:∀(xs ys:List D),(zipD xs ys).length=min xs.length ys.length
 | [],_=>by simp[zipD]
 |_::_,[]=>by simp[zipD]
 |x::xs,y::ys=>by show(zipD xs ys).length+1=min (xs.length+1) (ys.length+1);rw[z2a xs ys];omega
theorem zb5 {K:W.Frag}{H:Hp}{B:Ad->Prop}{l1 l2:Bool}{a1 a2:Addr}{vs ws:List V}{xs ys:List D}(h1:SrB K H B l1 a1 vs)(h2:SrB K H B l2 a2 ws)(r1:Reps K H B vs xs)(r2:Reps K H B ws ys)(hz:xs.length<=az):Walk K (ItZ K l1 a1 vs l2 a2 ws) B H (zipD xs ys):=by
 have e1:=r1.length;have e2:=r2.length;constructor
 ·rw[z2a];omega
 ·intro H2 kp i h;rw[z2a]at h;exact⟨h1.keep kp,h2.keep kp,by omega⟩
 ·intro H2 kp;exact⟨h1.keep kp,h2.keep kp,by rw[z2a];omega⟩
 ·intro H2 kp i x H3 h y;obtain⟨p,v,u,hv,hu,hp,rfl,rfl⟩:=y;obtain⟨d,hd,rv⟩:=Reps.getV r1 hv;obtain⟨d',hd',rv'⟩:=Reps.getV r2 hu;have kk:∀a q,H a=some q->(B (some a)\/Fix q)->upd H2 p (.tup [v,u]) a=some q:=fun a q e f=>by have h2:=kp a q e f;rw[z03 (z07 h2 hp)];exact h2
  exact⟨Same.upd hp,.tuple [d,d'],z60 xs ys i hd hd',p,[v,u],rfl,SqT.of z08,Reps.cons (Rep.keep kk (fun _ z=>z) d rv) (Reps.cons (Rep.keep kk (fun _ z=>z) d' rv') rfl)⟩
theorem z7k (l1 l2:Bool)(a1 a2:Addr)(xs ys:Array Value):Meets (Builtin.«zip.__new__» ⟨[.type "zip",.ref a1,.ref a2],[]⟩) fun _ R s=>IsB s.heap l1 a1 xs/\IsB s.heap l2 a2 ys/\
  ∀h1 h2 h3 h4 h5,h1=s.heap.push (itObj l1 a1)->h2=h1.push (itObj l2 a2)->h3=h2.push {cls:=.type "tuple",data:=.seq #[.ref s.heap.objs.size,.ref h1.objs.size]}->h4=h3.push {cls:=.type "tuple",data:=.seq #[.none,.none]}->h5=h4.push {cls:=.type "zip",data:=.fields #[.none,.bool false,.bool false,.ref h2.objs.size,.ref h3.objs.size]}->R (.ok (.ret (.ref h4.objs.size))) {s with heap:=h5}:=by
 rintro prog w A R s ⟨b1,b2,hR⟩
 have sub:=sub_zip;obtain⟨hp,gs,dp,tk,os⟩:=s;have c1:IsB (Shared.heap ⟨hp,gs,dp,tk,os⟩) l1 a1 xs:=b1;have c2:IsB (Shared.heap ⟨hp.push (itObj l1 a1),gs,dp,tk,os⟩) l2 a2 ys:=b2.push _
 wp_walk using z65 c1,z65 c2
 exact hR _ _ _ _ _ rfl rfl rfl rfl rfl
section
variable {X:Cx}{pins:List (Addr×Obj)}{σ:L2.St}
theorem z6b {H1:Hp}{s1:ac}{B:Ad->Prop}{y1 y2:V}{u1 u2:Value}{d1 d2:D}{xs ys:List D}{R:It->Hp->Prop}{tg:Expr}(ht:(isTup tg||isNm tg)=true)(I1:Inv X pins σ H1 s1)(r1:RelV y1 u1)(r2:RelV y2 u2)(rv1:Rep X.K H1 B y1 d1)(rv2:Rep X.K H1 B y2 d2)(e1:seqR d1=.ok xs)(e2:seqR d2=.ok ys)(q:∀J,Walk X.K J B H1 (zipD xs ys)->R J H1):
  wpAny (model X.prog X.w) X.A (call (.type "zip") [u1,u2]) (fun v' s2=>wpAny (model X.prog X.w) X.A (j2 v') (PIE X pins σ tg R) X.xe s2) X.xe s1:=by
 obtain⟨l1,a1,vs,rfl,q1,w1,z1⟩:=SrB.of rv1 e1;obtain⟨l2,a2,ws,rfl,q2,w2,z2⟩:=SrB.of rv2 e2;cases r1;cases r2;obtain⟨its1,_,b1,_⟩:=SqB.items I1 (q1.keep (Kp.of (Same.refl H1)));obtain⟨its2,_,b2,_⟩:=SqB.items I1 (q2.keep (Kp.of (Same.refl H1)));refine callType_new F.called_zip (by decide) (F.typeCall_zip_2 _ _) (F.newCall_zip_2 _ _) (fun obj=>F.args_object_init_3 obj _ _) F.entry_zip_new (z7k l1 l2 a1 a2 its1.toArray its2.toArray) ⟨b1,b2,?_⟩;intro h1 h2 h3 h4 h5 k1 k2 k3 k4 k5;have s1z:h1.objs.size=s1.heap.objs.size+1:=by rw[k1];exact j8 _ _
 have s2z:h2.objs.size=s1.heap.objs.size+2:=by rw[k2,j8,s1z]
 have s3z:h3.objs.size=s1.heap.objs.size+3:=by rw[k3,j8,s2z]
 have s4z:h4.objs.size=s1.heap.objs.size+4:=by rw[k4,j8,s3z]
 have p1:∀b o,s1.heap.get? b=some o->h1.get? b=some o:=fun b o e=>by rw[k1];exact ae _ e
 have p2:∀b o,h1.get? b=some o->h2.get? b=some o:=fun b o e=>by rw[k2];exact ae _ e
 have p3:∀b o,h2.get? b=some o->h3.get? b=some o:=fun b o e=>by rw[k3];exact ae _ e
 have p4:∀b o,h3.get? b=some o->h4.get? b=some o:=fun b o e=>by rw[k4];exact ae _ e
 have p5:∀b o,h4.get? b=some o->h5.get? b=some o:=fun b o e=>by rw[k5];exact ae _ e
 have I5:Inv X pins σ H1 {s1 with heap:=h5}:=I1.kept (t':=s1.toks) fun b o e=>p5 b o (p4 b o (p3 b o (p2 b o (p1 b o e))));have g1:h5.get? s1.heap.objs.size=some (itObj l1 a1):=p5 _ _ (p4 _ _ (p3 _ _ (p2 _ _ (by rw[k1];exact au _ rfl))));have g2:h5.get? h1.objs.size=some (itObj l2 a2):=p5 _ _ (p4 _ _ (p3 _ _ (by rw[k2];exact au _ rfl)));have g3:PairAt h5 h2.objs.size (.ref s1.heap.objs.size) (.ref h1.objs.size):=p5 _ _ (p4 _ _ (by rw[k3];exact au _ rfl));have g4:PairAt h5 h3.objs.size .none .none:=p5 _ _ (by rw[k4];exact au _ rfl);have g5:h5.get? h4.objs.size=some (ZRec h2.objs.size h3.objs.size .none false):=by rw[k5];exact au _ rfl
 have t1:a1<s1.heap.objs.size:=b1.lt;have t2:a2<s1.heap.objs.size:=b2.lt;have Da:ZApart h4.objs.size h2.objs.size h3.objs.size s1.heap.objs.size h1.objs.size [s1.heap.objs.size,a1] [h1.objs.size,a2]:=by have nn:∀{i j:Nat},i≠j->s1.heap.objs.size+i≠s1.heap.objs.size+j:=fun h z=>h (Nat.add_left_cancel z);have n0:∀{j:Nat},0≠j->s1.heap.objs.size≠s1.heap.objs.size+j:=fun h=>nn (i:=0) h;have no:∀{x y z:Addr},x≠y->x≠z->x∉ [y,z]:=fun h1 h2 h=>(bc.mp h).elim h1 fun q=>h2 (ck.mp q);have na:∀{a:Addr} {j:Nat},a<s1.heap.objs.size->s1.heap.objs.size+j≠a:=fun h z=>bx _ (bn h (z▸gk _ _));rw[s1z,s2z,s3z,s4z];exact⟨nn (by decide),nn (by decide),n0 (by decide),nn (by decide),nn (by decide),(n0 (by decide)).symm,nn (by decide),(n0 (by decide)).symm,nn (by decide),n0 (by decide),no (n0 (by decide)).symm (na t1),no (n0 (by decide)).symm (na t1),no (n0 (by decide)).symm (na t1),no (nn (by decide)) (na t2),no (nn (by decide)) (na t2),no (n0 (by decide)) (na (j:=0) t2)⟩
 have T:=zaa (P:=X.prog) (w:=X.w) (K:=X.K) (tg:=tg) (l1:=l1) (l2:=l2) (vs:=vs) (ws:=ws) ht Da (bq t1) (by rw[s1z];exact bq (mj t2));have St:ZSt h4.objs.size h2.objs.size h3.objs.size s1.heap.objs.size h1.objs.size l1 a1 l2 a2 0 h5:=⟨⟨.none,false,.inl rfl,g5⟩,g3,⟨_,_,g4⟩,ItB.new g1,ItB.new g2⟩;refine⟨⟨_,g5,rfl⟩,T.self _ 0 _ _ _ St ⟨h4.objs.size,_,_,_,H1,rfl,I5,T,St,fun b hb=>?_,q _ (zb5 q1 q2 w1 w2 (z0e z1))⟩⟩
 have hb2:s1.heap.objs.size<=b:=by
  rw[s1z,s2z,s3z,s4z]at hb;simp only[cr,bc,or_false]at hb;rcases hb with rfl|rfl|rfl|rfl|rfl
  ·exact gk _ _
  ·exact gk _ _
  ·exact gk _ _
  ·exact ag _
  ·exact gk _ _
 exact I1.fpOk hb2 (I1.hok.fresh hb2)
end
section
variable {X:Cx}{a b:Expr}{fa fb:Rho->Res GD}{p pos:Pos}
theorem z78:cv "enumerate"=some (.type "enumerate"):=by decide+kernel
theorem zbq:cv "zip"=some (.type "zip"):=by decide+kernel
theorem zcv (hs:isStar a=false)(ha:PE X a (tD X.K fa)):PA X [a] (tDA X.K fun ρ=>fa ρ>>=fun x=>.ok [x]):=by refine PA.imp (z9i hs ha zia) fun σ H Q ⟨ρ,F,z,so,e,q⟩=>⟨ρ,F,z,so,?_,q⟩;obtain⟨x,e1,e⟩:=Res.bind_ok e;show(fa ρ>>=fun x=>Res.ok []>>=fun xs=>Res.ok (x::xs))=_;rw[e1];exact e
theorem zfv (hs:isStar a=false)(hs2:isStar b=false)(ha:PE X a (tD X.K fa))(hb:PE X b (tD X.K fb)):PA X [a,b] (tDA X.K fun ρ=>fa ρ>>=fun x=>fb ρ>>=fun y=>.ok [x,y]):=by refine PA.imp (z9i hs ha (zcv hs2 hb)) fun σ H Q ⟨ρ,F,z,so,e,q⟩=>⟨ρ,F,z,so,?_,q⟩;obtain⟨x,e1,e⟩:=Res.bind_ok e;obtain⟨y,e2,e⟩:=Res.bind_ok e;show(fa ρ>>=fun x=>(fb ρ>>=fun y=>Res.ok [y])>>=fun xs=>Res.ok (x::xs))=_;rw[e1,Res.ok_bind,e2];exact e
theorem zg5 {fs:Rho->Res GD}{ρ:Rho}{ys:List GD}(h:(fs ρ>>=fun x=>Res.ok [x])=.ok ys):∃x,fs ρ=.ok x/\ys=[x]:=by obtain⟨x,e,h⟩:=Res.bind_ok h;cases h;exact⟨x,e,rfl⟩
theorem z3d {K:W.Frag}{F:Fm}{H H1:Hp}{σ:L2.St}{ρ:Rho}{x:GD}{xs:List D}{v:V}(so:StOk K F H σ ρ)(hc:z2u x=true)(e:seqR x.2=.ok xs)(rv:Rep K H1 (BG F H x.1) v x.2):∃B,Rep K H1 B v x.2/\(∀a,B (some a)->F.O a=none)/\∀a,B a->BI F .al a:=by
 obtain⟨g,d⟩:=x;cases d<;>try (exact(z0n e).elim)
 case list ds=>
  have hg:g≠.al:=fun z=>by subst z;cases hc
  exact⟨_,rv,fun a h=>z3s so hg h,fun a h=>BI.of so.vis (g:=.al) (BG.vis so.vis h)⟩
 case tuple ds=>
  rcases db.mp (show(!(g==.al)||imm (.tuple ds))=true from hc)with hg|hi
  ·have hg:g≠ .al:=fun z=>by subst z;cases hg
   exact⟨_,rv,fun a h=>z3s so hg h,fun a h=>BI.of so.vis (g:=.al) (BG.vis so.vis h)⟩
  ·exact⟨fun _=>False,Rep.immB _ hi rv,fun _ h=>h.elim,fun _ h=>h.elim⟩
theorem zfi {ρ:Rho}{ys:List GD}(h:(fa ρ>>=fun x=>fb ρ>>=fun y=>Res.ok [x,y])=.ok ys):∃x y,fa ρ=.ok x/\fb ρ=.ok y/\ys=[x,y]:=by obtain⟨x,e,h⟩:=Res.bind_ok h;obtain⟨y,e2,h⟩:=Res.bind_ok h;cases h;exact⟨x,y,e,e2,rfl⟩
theorem zcx {tg:Expr}(ht:(isTup tg||isNm tg)=true)(hm:X.mg "zip"=none)(hg:Gl X "zip")(hs:isStar a=false)(hs2:isStar b=false)(ha:PE X a (tD X.K fa))(hb:PE X b (tD X.K fb)):PI X tg (.Call (.Name "zip" p) [a,b] [] pos) (tDW X.K fun ρ=>fa ρ>>=fun x=>fb ρ>>=fun y=>seqR x.2>>=fun xs=>seqR y.2>>=fun ys=>.ok (.al,zipD xs ys)):=by intro pins s σ H R I h;obtain⟨ρ,F,w,so,e,q⟩:=h;obtain⟨x,e1,e⟩:=Res.bind_ok e;obtain⟨y,e2,e⟩:=Res.bind_ok e;obtain⟨xs,e3,e⟩:=Res.bind_ok e;obtain⟨ys,e4,e⟩:=Res.bind_ok e;cases e;refine Call_ (z21 I hg hm zbq (PyProof.Rows.callWith_type1 (thn (zfv hs hs2 ha hb pos pins s σ H (fun vs H1=>Same H H1/\RGs X.K F H H1 vs [x,y]) I ⟨ρ,F,[x,y],so,by show(fa ρ>>=fun x=>fb ρ>>=fun y=>Res.ok [x,y])=_;rw[e1,Res.ok_bind,e2];rfl,fun vs H1 s1 rs=>⟨s1,rs⟩⟩) fun us s1 ⟨vs,H1,I1,r1,sm,rs⟩=>?_) (z09 hs) (by rw[z09 hs2];rfl)));obtain⟨v1,v2,rfl,rv1,rv2⟩:=rs.two;obtain⟨u1,u2,rfl,ru1,ru2⟩:=vals2 r1;have q1:=(Rep.there _ rv1).weak (B':=fun c=>visA F c/\¬nw H1 c) fun c z=>⟨BG.vis so.vis z.1,z.2⟩;have q2:=(Rep.there _ rv2).weak (B':=fun c=>visA F c/\¬nw H1 c) fun c z=>⟨BG.vis so.vis z.1,z.2⟩;exact z6b ht I1 ru1 ru2 q1 q2 e3 e4 fun J wk=>q J _ H1 sm (fun c z=>z) wk
theorem zfo {tg:Expr}(ht:(isTup tg||isNm tg)=true)(hm:X.mg "zip"=none)(hg:Gl X "zip")(hs:isStar a=false)(hs2:isStar b=false)(ha:PE X a (tD X.K fa))(hb:PE X b (tD X.K fb)):PI X tg (.Call (.Name "zip" p) [a,b] [] pos) (tDF X.K fun ρ=>(fa ρ>>=fun x=>fb ρ>>=fun y=>.ok [x,y])>>=fun ys=>evZi ys ρ):=by
 intro pins s σ H R I h;obtain⟨ρ,F,w,so,e,q⟩:=h;obtain⟨zs,e0,e⟩:=Res.bind_ok e;obtain⟨x,y,e1,e2,rfl⟩:=zfi e0;have e:(if(z2u x&&z2u y)=true then(seqR x.2>>=fun xs=>seqR y.2>>=fun zs=>Res.ok (G.al,zipD xs zs,ρ))else Res.no)=Res.ok w:=e;split at e
 case isFalse=>cases e
 rename_i hc;obtain⟨c1,c2⟩:=ao.mp hc;obtain⟨xs,e3,e⟩:=Res.bind_ok e;obtain⟨ys,e4,e⟩:=Res.bind_ok e;cases e;refine Call_ (z21 I hg hm zbq (PyProof.Rows.callWith_type1 (thn (zfv hs hs2 ha hb pos pins s σ H (fun vs H1=>Same H H1/\RGs X.K F H H1 vs [x,y]) I ⟨ρ,F,[x,y],so,by show(fa ρ>>=fun x=>fb ρ>>=fun y=>Res.ok [x,y])=_;rw[e1,Res.ok_bind,e2];rfl,fun vs H1 s1 rs=>⟨s1,rs⟩⟩) fun us s1 ⟨vs,H1,I1,r1,sm,rs⟩=>?_) (z09 hs) (by rw[z09 hs2];rfl)));obtain⟨v1,v2,rfl,rv1,rv2⟩:=rs.two;obtain⟨u1,u2,rfl,ru1,ru2⟩:=vals2 r1;obtain⟨B1,k1,k2,k3⟩:=z3d so c1 e3 rv1;obtain⟨B2,m1,m2,m3⟩:=z3d so c2 e4 rv2;have q1:=k1.weak (B':=fun c=>B1 c\/B2 c) fun c z=>.inl z;have q2:=m1.weak (B':=fun c=>B1 c\/B2 c) fun c z=>.inr z;exact z6b ht I1 ru1 ru2 q1 q2 e3 e4 fun J wk=>q J _ H1 F sm Run.refl (Frm.same sm) (so.same sm) (fun c z=>z.elim (k2 c) (m2 c)) (fun c z=>z.elim (k3 c) (m3 c)) wk
theorem zcf {elts:List Expr}{x1:Nat}{tp:Pos}(hm:X.mg "enumerate"=none)(hg:Gl X "enumerate")(hs:isStar a=false)(ha:PE X a (tD X.K fa)):PI X (.Tuple elts x1 tp) (.Call (.Name "enumerate" p) [a] [] pos) (tDW X.K fun ρ=>fa ρ>>=fun x=>seqR x.2>>=fun xs=>.ok (.al,z15 0 xs)):=by intro pins s σ H R I h;obtain⟨ρ,F,w,so,e,q⟩:=h;obtain⟨x,e1,e⟩:=Res.bind_ok e;obtain⟨xs,e2,e⟩:=Res.bind_ok e;cases e;refine Call_ (z21 I hg hm z78 (PyProof.Rows.callWith_type1 (thn (zcv hs ha pos pins s σ H (fun vs H1=>Same H H1/\RGs X.K F H H1 vs [x]) I ⟨ρ,F,[x],so,by show(fa ρ>>=fun x=>Res.ok [x])=_;rw[e1];rfl,fun vs H1 s1 rs=>⟨s1,rs⟩⟩) fun us s1 ⟨vs,H1,I1,r1,sm,rs⟩=>?_) (z09 hs) rfl));obtain⟨v,rfl,rv⟩:=rs.one;obtain⟨u,rfl,ru⟩:=vals1 r1;exact z4h I1 ru (Rep.there _ rv) e2 fun J wk=>q J _ H1 sm (fun c z=>⟨BG.vis so.vis z.1,z.2⟩) wk
theorem zfy {elts:List Expr}{x1:Nat}{tp:Pos}(hm:X.mg "enumerate"=none)(hg:Gl X "enumerate")(hs:isStar a=false)(ha:PE X a (tD X.K fa)):PI X (.Tuple elts x1 tp) (.Call (.Name "enumerate" p) [a] [] pos) (tDF X.K fun ρ=>(fa ρ>>=fun x=>.ok [x])>>=fun ys=>evEn ys ρ):=by
 intro pins s σ H R I h;obtain⟨ρ,F,w,so,e,q⟩:=h;obtain⟨ys,e0,e⟩:=Res.bind_ok e;obtain⟨x,e1,rfl⟩:=zg5 e0;have e:(if z2u x=true then(seqR x.2>>=fun xs=>Res.ok (G.al,z15 0 xs,ρ))else Res.no)=Res.ok w:=e;split at e
 case isFalse=>cases e
 rename_i hc;obtain⟨xs,e2,e⟩:=Res.bind_ok e;cases e;refine Call_ (z21 I hg hm z78 (PyProof.Rows.callWith_type1 (thn (zcv hs ha pos pins s σ H (fun vs H1=>Same H H1/\RGs X.K F H H1 vs [x]) I ⟨ρ,F,[x],so,by show(fa ρ>>=fun x=>Res.ok [x])=_;rw[e1];rfl,fun vs H1 s1 rs=>⟨s1,rs⟩⟩) fun us s1 ⟨vs,H1,I1,r1,sm,rs⟩=>?_) (z09 hs) rfl));obtain⟨v,rfl,rv⟩:=rs.one;obtain⟨u,rfl,ru⟩:=vals1 r1;obtain⟨B,rB,hB,hV⟩:=z3d so hc e2 rv;exact z4h I1 ru rB e2 fun J wk=>q J B H1 F sm Run.refl (Frm.same sm) (so.same sm) hB hV wk
end
abbrev bmV:List Value:=[.type "ValueError",.type "Exception",.type "BaseException",.type "object"]
abbrev exV (K:W.Frag)(C:Addr):Bool:=W.excIn K C bmV "ValueError.__new__"
def XC (C:Addr)(h:Heap)(bm:List Value):Prop:=∃N nm q bs hdct sn sub ab col dd k0 k1 k2 k3 k5 mN,h.get? C=some (excClassObj nm q C N bs bm hdct sn sub ab col dd k0 k1 k2 k3 k5 "ValueError.__new__")/\h.Ns N mN/\mN "__init__"=none/\OwnTail h bmV bm
theorem z8u {K:W.Frag}{C:Addr}(q:exV K C=true):∃dd cd bm k0 k1 k2 k3 k5,K.lookup C=some ⟨.type "type",dd,.cls cd,#[k0,k1,k2,k3,some (.builtin "ValueError.__new__"),k5]⟩/\cd.mro=.ref C::bm/\cd.hasDel=false/\W.tailIn K bmV bm=true/\W.nsOkIn K cd.ns=true/\W.nsIn K cd.ns "__init__"=some none:=by
 have two:∀{a b:Bool},(a&&b)=true->a=true/\b=true:=ao.mp;unfold exV W.excIn at q;split at q
 ·rename_i dd cd sl ho;split at q
  ·rename_i A bm y0 y1 y2 y3 n y5 hm hs;obtain⟨q,q6⟩:=two q;obtain⟨q,q5⟩:=two q;obtain⟨q,q4⟩:=two q;obtain⟨q,q3⟩:=two q;obtain⟨q1,q2⟩:=two q;have e1:A=C:=nz q1;have e2:n="ValueError.__new__":=nz q2;have e3:sl=#[y0,y1,y2,y3,some (.builtin n),y5]:=Array.toList_inj.mp (by rw[hs]);refine⟨dd,cd,bm,y0,y1,y2,y3,y5,?_,?_,?_,q4,q5,nz q6⟩
   ·rw[ho,e3,e2]
   ·rw[hm,e1]
   ·cases hd:cd.hasDel with
    |false=>rfl
    |true=>rw[hd]at q3;cases q3
  ·cases q
 ·cases q
theorem z9m {K:W.Frag}{C:Addr}{dd:Option Addr}{cd:ClassData}{sl:Array (Option Value)}{bm:List Value}{v:Value}{b:Bool}(ho:K.lookup C=some ⟨.type "type",dd,.cls cd,sl⟩)(hm:cd.mro=.ref C::bm)(e:W.subIn K (.ref C) v=some b):(Value.ref C::bm).contains v=b:=by
 have e:W.mroIn K C v=some b:=e;unfold W.mroIn W.clsIn at e;rw[ho]at e
 dsimp only[Option.bind_some]at e
 rw[hm]at e;exact Option.some.inj e
theorem XC.mk {K:W.Frag}{C:Addr}{h:Heap}(X:K.In h)(q:exV K C=true):∃bm,XC C h bm/\∀v b,W.subIn K (.ref C) v=some b->(Value.ref C::bm).contains v=b:=by
 obtain⟨dd,cd,bm,k0,k1,k2,k3,k5,ho,hm,hd,ht,hk,hi⟩:=z8u q;refine⟨bm,⟨cd.ns,cd.name,cd.qualname,cd.bases,cd.hasDict,cd.slotNames,cd.subclasses,cd.abstract,cd.collection,dd,k0,k1,k2,k3,k5,h.nsMap cd.ns,?_,.of_isNs (W.isNs_of_in X hk),W.nsMap_none_of_in X hk hi,W.tail_of_in X ht⟩,fun v b e=>z9m ho hm e⟩;have h2:=X _ _ ho;cases cd
 dsimp only at hm hd
 rw[hm,hd]at h2;exact h2
section
variable {M:Model}{A:bt}{E:Value->ac->Prop}{h:Heap}{g:Array l7}{d:Drawn}{t:Nat}{os:jm}{C B e:Addr}{bm bm':List Value}{oe:Obj}{Q:Bool->ac->Prop}
end
section
variable {prog:aq}{w:World}{A:bt}{E:Value->ac->Prop}{K:W.Frag}{h:Heap}{g:Array l7}{d:Drawn}{t:Nat}{os:jm}{C e:Addr}{oe:Obj}
structure XA (K:W.Frag)(C:Addr):Prop where
 cl:W.findIn K (.ref C) "__class__"=some (some (.builtin "object.__class__"))
 ga:W.findIn K (.ref C) "__getattribute__"=some (some (.builtin "BaseException.__getattribute__"))
 gt:W.findIn K (.ref C) "__getattr__"=some none
 ob:W.subIn K (.ref C) (.type "object")=some true
 be:W.subIn K (.ref C) (.type "BaseException")=some true
 ty:W.typeIn K (.ref C)=some (.type "type")
 is:(W.clsIn K C).isSome=true
 ex:exV K C=true
structure XV (K:W.Frag)(v:Value):Prop where
 ty:∀(M:Model) (h:Heap),K.In h->W.Looks M h (typeOf v) (.type "type")
 is:∀(M:Model) (h:Heap),K.In h->W.Looks M h (isType v) true
theorem zae {M:Model}{D:Addr}(X:K.In h)(q:(W.clsIn K D).isSome=true):W.Looks M h (isType (.ref D)) true:=by
 unfold W.clsIn at q;split at q
 ·rename_i ho;intro A Q E s k z;unfold isType;refine aa (m7 (k _ _ (X _ _ ho)) ?_);exact aj z
 ·cases q
theorem XV.own {D:Addr}(t:W.typeIn K (.ref D)=some (.type "type"))(q:(W.clsIn K D).isSome=true):XV K (.ref D):=⟨fun M h X=>W.looks_typeIn X t,fun M h X=>zae X q⟩
theorem XV.val:XV K (.type "ValueError"):=⟨fun M h X=>W.Looks.of_pure (by kernel_rfl),fun M h X=>W.Looks.of_pure rfl⟩
end
structure Fly (P:aq)(w:World)(base:Heap)(outer:List Env)(H:Hp)(s:ac)(C a:Addr)(H':Hp)(s':ac):Prop where
 os:s'.os=s.os
 bare:i0 s'.gens
 same:Same H H'
 free:∀b o,s.heap.get? b=some o->H b=none->H' b=none
 hh:∃B t,base.StaysIn B/\HOk P w H' B/\(∀b o,s.heap.get? b=some o->H b=none->b∉frs outer->B.get? b=some o)/\Heap.FlyingW B outer a (.ref C) (.ref t) s'.heap
 slot:∀b o,s.heap.get? b=some o->H b=none->b∈frs outer->∃sl,s'.heap.get? b=some {o with slots:=sl}
def CXE (P:aq)(w:World)(base:Heap):CXT:=fun outer H s E e s'=>∃a C H',e=.ref a/\Fly P w base outer H s C a H' s'/\E (.ref C) none H'
theorem z3y {P:aq}{w:World}{H:Hp}{h:Heap}{a:Addr}{o:HO}(x:z0k P w H h a o):∃ob,h.get? a=some ob:=by
 cases o with
 |lst xs=>obtain⟨_,_,_,_,e⟩:=x;exact⟨_,e⟩
 |tup xs=>obtain⟨_,_,_,_,e⟩:=x;exact⟨_,e⟩
 |dK kvs=>obtain⟨_,_,_,_,o,_,_,e,_⟩:=x;exact⟨_,e⟩
 |dT kvs=>obtain⟨_,_,_,_,o,_,_,e,_⟩:=x;exact⟨_,e⟩
 |set S n=>obtain⟨o,_,_,_,e,_⟩:=x;exact⟨_,e⟩
 |ins C dx fs=>obtain⟨_,_,_,e,_⟩:=x;exact⟨_,e⟩
 |own y=>exact x
 |xd fs=>obtain⟨_,⟨_,_,_,e,_⟩,_⟩:=x;exact⟨_,e⟩
 |rng lo hi=>obtain⟨_,_,_,e⟩:=x;exact⟨_,e⟩
 |frz ob u=>exact⟨_,x.1⟩
 |tbl ps=>exact⟨_,x⟩
 |met f y=>exact⟨_,x⟩
 |ext φ=>exact x.2.1
section
variable {P:aq}{w:World}{base:Heap}{outer:List Env}{H H':Hp}{s s':ac}{C a:Addr}
theorem Fly.hok (f:Fly P w base outer H s C a H' s'):HOk P w H' s'.heap:=by obtain⟨B,t,_,hB,_,fl⟩:=f.hh;exact hB.kept fl.1
theorem Fly.un (f:Fly P w base outer H s C a H' s'):Un (frs outer) [] H H' s.heap s'.heap:=by
 obtain⟨B,t,_,hB,cov,fl⟩:=f.hh;refine⟨fun b o e n hb _=>fl.1 b o (cov b o e n hb),fun b o e n hb _=>f.slot b o e n hb,fun b o e n _=>f.free b o e n,fun b o e _=>?_,fun b xs e=>f.same b _ e,fun b o u e=>f.same b _ e,fun b ps e=>⟨#[],by rw[f.same b _ e,Array.append_empty]⟩⟩;cases hn:H b with
 |some u=>exact z3y (f.hok b u (f.same b u hn))
 |none=>
  by_cases hb:b∈frs outer
  ·obtain⟨sl,q⟩:=f.slot b o e hn hb;exact⟨_,q⟩
  ·exact⟨o,fl.1 b o (cov b o e hn hb)⟩
end
section
variable {X:Cx}{pins:List (Addr×Obj)}{σ:L2.St}{H H':Hp}{s s':ac}{C a:Addr}
end
structure Lv (X:Cx)(H0:Hp)(c:Str):Prop where
 made:∀pins σ H s a C args h',Inv X pins σ H s->X.mg c=some (.ref C)->Same H0 H->Heap.MadeExcOf s.heap h' a (.ref C) args->X.xe (.ref a) {s with heap:=h'}
 fly:∀pins σ H s a C H' s',Inv X pins σ H s->X.mg c=some (.ref C)->Same H0 H'->Fly X.prog X.w X.base X.stack H s C a H' s'->X.xe (.ref a) s'
theorem Lv.mono {X:Cx}{H0 H1:Hp}{c:Str}(l:Lv X H0 c)(h:Same H0 H1):Lv X H1 c:=⟨fun pins σ H s a C args h' I m z=>l.made pins σ H s a C args h' I m (h.trans z),fun pins σ H s a C H' s' I m z=>l.fly pins σ H s a C H' s' I m (h.trans z)⟩
def Rz (X:Cx)(f:Rho->Option Str)(σ:L2.St)(H:Hp):Prop:=∃ρ F c,StOk X.K F H σ ρ/\f ρ=some c/\Lv X F.H0 c
def spX (K:W.Frag)(mg:Str->Option Value)(n:Nat)(m:Fn):Sp:=fun vs H _ E=>∃A ds c,vs.length=n/\Reps K H A vs ds/\excOf (m ds)=some c/\∀C H',mg c=some (.ref C)->Same H H'->E (.ref C) none H'
def CalX (P:aq)(w:World)(K:W.Frag)(mg:Str->Option Value)(base:Heap)(k:Nat)(x:Str)(ps:List Str)(n:Nat)(m:Fn):Prop:=∃f fd,FnOk P w K mg base (CXE P w base) k f fd ps (spX K mg n m)/\mg x=some (.ref f)/\W.keepIn K (.ref f)=true/\Binds K fd ps []
section
variable {X:Cx}{e:Expr}{es:List Expr}{pos:Pos}
end
section
variable {X:Cx}{pins:List (Addr×Obj)}{σ:L2.St}{H:Hp}{s:ac}{i:Nat}{n:Str}{a:Addr}{oe:Obj}
end
section
variable {X:Cx}{n x:Str}{p p1 p2 pos:Pos}{a C:Addr}{oe:Obj}{v:V}{u:Value}{b:Bool}
def Xh (X:Cx)(a:Addr)(oe:Obj):Prop:=∀pins σ H s,Inv X pins σ H s->s.heap.get? a=some oe
end
section
theorem and2 {a b:Bool}(h:(a&&b)=true):a=true/\b=true:=ao.mp h
theorem and3 {a b c:Bool}(h:(a&&b&&c)=true):a=true/\b=true/\c=true:=⟨(and2 (and2 h).1).1,(and2 (and2 h).1).2,(and2 h).2⟩
theorem and4 {a b c d:Bool}(h:(a&&b&&c&&d)=true):a=true/\b=true/\c=true/\d=true:=⟨(and3 (and2 h).1).1,(and3 (and2 h).1).2.1,(and3 (and2 h).1).2.2,(and2 h).2⟩
theorem and5 {a b c d e:Bool}(h:(a&&b&&c&&d&&e)=true):a=true/\b=true/\c=true/\d=true/\e=true:=⟨(and4 (and2 h).1).1,(and4 (and2 h).1).2.1,(and4 (and2 h).1).2.2.1,(and4 (and2 h).1).2.2.2,(and2 h).2⟩
theorem z1k {b:Bool}(h:(!b)=true):b=false:=by cases b<;>first|rfl|cases h
theorem ff {b:Bool}{p:Prop}(h:b=false)(z:b=true):p:=by rw[h]at z;cases z
theorem z1w {α:Type}{l:List α}(h:l.isEmpty=true):l=[]:=by cases l<;>first|rfl|cases h
theorem z2r {α:Type}{l:List α}(h:(!l.isEmpty)=true):∃x r,l=x::r:=by cases l<;>first|exact⟨_,_,rfl⟩|cases h
theorem z05 {α:Type}{o:Option α}{f:α->Bool}(h:o.any f=true):∃v,o=some v/\f v=true:=by
 cases o with
 |none=>cases h
 |some v=>exact⟨v,rfl,h⟩
theorem v_of {α:Type}{o:Option α}{v:α}{q:α->Prop}(h:o=some v)(d:o=none\/∃u,o=some u/\q u):q v:=by
 rcases d with d|⟨u,d,z⟩
 ·rw[d]at h;cases h
 ·rw[d]at h;cases h;exact z
theorem q_Nm {e:Expr}{v:Str}(h:vNm e=some v):∃p,e=.Name v p:=v_of (q:=fun v=>∃p,e=.Name v p) h (by cases e<;>first|exact .inl rfl|exact .inr ⟨_,rfl,_,rfl⟩)
theorem zem {e:Expr}{v:Const}(h:vCst e=some v):∃k p,e=.Constant v k p:=v_of (q:=fun v=>∃k p,e=.Constant v k p) h (by cases e<;>first|exact .inl rfl|exact .inr ⟨_,rfl,_,_,rfl⟩)
theorem zlg {e:Expr}{v:Expr×gh×Expr}(h:vBin e=some v):∃p,e=.BinOp v.1 v.2.1 v.2.2 p:=v_of (q:=fun v=>∃p,e=.BinOp v.1 v.2.1 v.2.2 p) h (by cases e<;>first|exact .inl rfl|exact .inr ⟨_,rfl,_,rfl⟩)
theorem q_Un {e:Expr}{v:UnaryOp×Expr}(h:vUn e=some v):∃p,e=.UnaryOp v.1 v.2 p:=v_of (q:=fun v=>∃p,e=.UnaryOp v.1 v.2 p) h (by cases e<;>first|exact .inl rfl|exact .inr ⟨_,rfl,_,rfl⟩)
theorem q_Cm {e:Expr}{v:Expr×List CmpOp×List Expr}(h:vCm e=some v):∃p,e=.Compare v.1 v.2.1 v.2.2 p:=v_of (q:=fun v=>∃p,e=.Compare v.1 v.2.1 v.2.2 p) h (by cases e<;>first|exact .inl rfl|exact .inr ⟨_,rfl,_,rfl⟩)
theorem q_Bo {e:Expr}{v:BoolOp×List Expr×Pos}(h:vBo e=some v):e=.BoolOp v.1 v.2.1 v.2.2:=v_of (q:=fun v=>e=.BoolOp v.1 v.2.1 v.2.2) h (by cases e<;>first|exact .inl rfl|exact .inr ⟨_,rfl,rfl⟩)
theorem zej {e:Expr}{v:List Expr}(h:vTup e=some v):∃k p,e=.Tuple v k p:=v_of (q:=fun v=>∃k p,e=.Tuple v k p) h (by cases e<;>first|exact .inl rfl|exact .inr ⟨_,rfl,_,_,rfl⟩)
theorem zj1 {e:Expr}{v:List Expr}(h:vLst e=some v):∃p,e=.List v p:=v_of (q:=fun v=>∃p,e=.List v p) h (by cases e<;>first|exact .inl rfl|exact .inr ⟨_,rfl,_,rfl⟩)
theorem zii {e:Expr}{v:Expr×Expr}(h:vSub e=some v):∃p,e=.Subscript v.1 v.2 p:=v_of (q:=fun v=>∃p,e=.Subscript v.1 v.2 p) h (by cases e<;>first|exact .inl rfl|exact .inr ⟨_,rfl,_,rfl⟩)
theorem zli {e:Expr}{v:Option Expr×Option Expr×Option Expr}(h:vSli e=some v):∃p,e=.Slice v.1 v.2.1 v.2.2 p:=v_of (q:=fun v=>∃p,e=.Slice v.1 v.2.1 v.2.2 p) h (by cases e<;>first|exact .inl rfl|exact .inr ⟨_,rfl,_,rfl⟩)
theorem q_Ca {e:Expr}{v:Expr×List Expr×List j4×Pos}(h:vCa e=some v):e=.Call v.1 v.2.1 v.2.2.1 v.2.2.2:=v_of (q:=fun v=>e=.Call v.1 v.2.1 v.2.2.1 v.2.2.2) h (by cases e<;>first|exact .inl rfl|exact .inr ⟨_,rfl,rfl⟩)
theorem q_At {e:Expr}{v:Expr×Str×Pos}(h:vAt e=some v):e=.Attribute v.1 v.2.1 v.2.2:=v_of (q:=fun v=>e=.Attribute v.1 v.2.1 v.2.2) h (by cases e<;>first|exact .inl rfl|exact .inr ⟨_,rfl,rfl⟩)
theorem q_LC {e:Expr}{v:Expr×List gu×Scope}(h:vLC e=some v):∃p,e=.ListComp v.1 v.2.1 v.2.2 p:=v_of (q:=fun v=>∃p,e=.ListComp v.1 v.2.1 v.2.2 p) h (by cases e<;>first|exact .inl rfl|exact .inr ⟨_,rfl,_,rfl⟩)
theorem z4v {α:Type}{l:List α}{v:α}(h:vOne l=some v):l=[v]:=by rcases l with _|⟨x,_|⟨y,l⟩⟩<;>cases h;rfl
theorem zh7 {α:Type}{l:List α}{v:α×α}(h:vTwo l=some v):l=[v.1,v.2]:=by rcases l with _|⟨x,_|⟨y,_|⟨z,l⟩⟩⟩<;>cases h;rfl
theorem z1v {e:Expr}{v:Str×List Expr}(h:z3l e=some v):∃q p,e=.Call (.Name v.1 q) v.2 [] p:=by
 obtain⟨u,hu,h⟩:=g7.mp h;cases hk:u.2.2.1.isEmpty with
 |false=>rw[hk]at h;exact absurd h nofun
 |true=>rw[hk]at h;obtain⟨x,hx,rfl⟩:=cz.mp h;obtain⟨q,hq⟩:=q_Nm hx;exact⟨q,_,by rw[q_Ca hu,hq,z1w hk]⟩
theorem q_Mt {e:Expr}{v:Expr×Str×List Expr×Bool}(h:vMt e=some v):∃ap cp,e=.Call (.Attribute v.1 v.2.1 ap) v.2.2.1 [] cp/\v.2.2.2=(ap.endLine==cp.line):=by
 obtain⟨u,hu,h⟩:=g7.mp h;cases hk:u.2.2.1.isEmpty with
 |false=>rw[hk]at h;exact absurd h nofun
 |true=>rw[hk]at h;obtain⟨x,hx,rfl⟩:=cz.mp h;exact⟨_,_,by rw[q_Ca hu,q_At hx,z1w hk],rfl⟩
theorem z3o {f:Str->Bool}{e:Expr}(h:hd1 f e=true):∃x p,e=.Name x p/\f x=true:=by obtain⟨x,hx,h⟩:=z05 h;obtain⟨p,hp⟩:=q_Nm hx;exact⟨x,p,hp,h⟩
def zjb (K:W.Frag)(mg:Str->Option Value)(c C:Str)(b:Bool):Prop:=∃A v u,mg c=some (.ref A)/\XA K A/\XV K u/\W.subIn K (.ref A) u=some b/\RelV v u/\(∀w,RelV v w->w=u)/\(mg C=some u\/(mg C=none/\cv C=some u/\C≠"__name__"))
def RsOk (K:W.Frag)(mg:Str->Option Value)(c:Str):Prop:=∃C,mg c=some (.ref C)/\exV K C=true
def zkz (K:W.Frag)(mg:Str->Option Value)(c B:Str):Prop:=∃C D,mg c=some (.ref C)/\mg B=some (.ref D)/\exV K C=true/\exV K D=true/\W.subIn K (.ref C) (.ref D)=some true
structure Xok (Γ:Gm)(K:W.Frag)(mg:Str->Option Value):Prop where
 sub:∀c C b,Γ.sub.contains (c,C,b)=true->zjb K mg c C b
 rs:∀c,Γ.rs.contains c=true->RsOk K mg c
 hnd:∀c B,Γ.hnd.contains (c,B)=true->zkz K mg c B
structure Cok (Γ:Gm)(Κ:List D)(Φ:List Fn)(X:Cx)(r:Nat):Prop where
 hN:X.N=Γ.N
 hs:X.env.scope=Γ.sc
 nd:Γ.N.Nodup
 fn:Γ.blk=false->∀x,X.fn x=true
 kind:Γ.sc.kind=.function
 free:∀x,Γ.free.contains x=true->X.mg x=none
 fns:∀(j:Nat) f n,Γ.fns[j]?=some (f,n)->∃m k ps,Φ[j]?=some m/\k<=r/\Cal X.prog X.w X.K X.mg X.base k f ps (spD X.K n m)
 cst:∀(j:Nat) x,Γ.cst[j]?=some x->∃d a,Κ[j]?=some d/\X.mg x=some (.ref a)/\∀H B,B none->Rep X.K H B (.ref a) d
 fnx:∀(j:Nat) f n,Γ.fns[j]?=some (f,n)->∃m k ps,Φ[j]?=some m/\k<=r/\CalX X.prog X.w X.K X.mg X.base k f ps n m
 room:Γ.cm=true->Room r X.A
 calm:Γ.cm=true->X.calm=true
 hu:X.A.units+64<cLine
 fun_:Γ.blk=false->X.stack=X.env::X.outer/\X.env.frame=some X.env.locals
 fx0:Γ.xc=none->X.fx=none
 xc:∀n c,Γ.xc=some (n,c)->∃a oe C,X.fx=some (n,.ref a)/\Xh X a oe/\oe.cls=.ref C/\X.mg c=some (.ref C)
 xk:Xok Γ X.K X.mg
section
variable {Γ:Gm}{Κ:List D}{Φ:List Fn}{X:Cx}{r:Nat}
theorem Cok.gl (k:Cok Γ Κ Φ X r){x:Str}(h:glB Γ x=true):Gl X x/\(x==("__debug__":Str))=false:=by unfold glB at h;rw[a8]at h;refine⟨?_,by simpa using h.2⟩;show X.env.scope.names.lookup x=_;rw[k.hs];simpa using h.1
theorem Cok.vis (k:Cok Γ Κ Φ X r){i:Nat}{x:Str}(h:visB Γ i x=true):X.N[i]?=some x/\Vis X.env.scope x/\(x==("__debug__":Str))=false/\(x==("__classdict__":Str))=false:=by
 unfold visB at h;simp only[a8,iy,beq_iff_eq]at h;have⟨⟨⟨h1,h2⟩,h3⟩,h4⟩:=h;refine⟨by rw[k.hN];exact h1,?_,by simpa using h3,by simpa using h4⟩;unfold Vis;rw[k.hs];rcases h2 with(h2|h2)|h2
 ·exact .inl h2
 ·exact .inr (.inl h2)
 ·exact .inr (.inr h2)
theorem Cok.loc (k:Cok Γ Κ Φ X r){i:Nat}{x:Str}(h:locB Γ i x=true):X.N[i]?=some x/\Loc X.env.scope x/\(X.fn x=true\/X.env.scope.names.lookup x=some .local):=by
 unfold locB at h;simp only[a8,iy,beq_iff_eq,mi]at h;obtain⟨h1,h2⟩:=h;refine⟨by rw[k.hN];exact h1,?_,?_⟩
 ·unfold L2.Loc;rw[k.hs];rcases h2 with h2|⟨_,h2⟩
  ·exact .inl h2
  ·exact .inr h2
 ·rcases h2 with h2|⟨h2,_⟩
  ·exact .inr (by rw[k.hs];exact h2)
  ·exact .inl (k.fn h2 x)
theorem Cok.blt (k:Cok Γ Κ Φ X r){x:Str}(h:bltB Γ x=true):Gl X x/\X.mg x=none/\(x==("__debug__":Str))=false/\x≠"__name__":=by unfold bltB at h;simp only[ao]at h;obtain⟨⟨h1,h2⟩,h3⟩:=h;obtain⟨g1,g2⟩:=k.gl h1;exact⟨g1,k.free x h2,g2,by simpa using h3⟩
theorem zd8 {X:Cx}{scope:Scope}{N':List Str}{C:Addr}{fp:List Addr}{s:ac}{H:Hp}:(blk X scope N' C fp s H).env.scope=zel scope X.env.scope:=rfl
theorem Cok.blk (k:Cok Γ Κ Φ X r){scope:Scope}{N':List Str}(hk:scope.kind=.function)(nd:N'.Nodup)(C:Addr)(fp:List Addr)(s:ac)(H:Hp):Cok {Γ with N:=N',sc:=zel scope Γ.sc,blk:=true,xc:=none} Κ Φ (blk X scope N' C fp s H) r where
 hN:=rfl
 hs:=by rw[zd8,k.hs]
 nd:=nd
 fn:=fun z=>by cases z
 kind:=hk
 free:=k.free
 fns:=k.fns
 cst:=k.cst
 fnx:=k.fnx
 room:=k.room
 calm:=k.calm
 hu:=k.hu
 fun_:=fun z=>by cases z
 fx0:=fun _=>rfl
 xc:=fun _ _ z=>by cases z
 xk:=⟨k.xk.sub,k.xk.rs,k.xk.hnd⟩
theorem zl3 (k:Cok Γ Κ Φ X r)(all:List Nat){is:List Nat}:∀{es:List Expr},ze3 Γ is es=true->PGs X es (tDGs X.K all is)/\(dm es X.env).length=is.length/\(dm es X.env).findIdx? (·.1)=none:=by
 induction is with
 |nil=>intro es h;cases z1w h;exact⟨zi6,rfl,rfl⟩
 |cons i is ih=>
  intro es h;cases es with
  |nil=>cases h
  |cons e es=>
   obtain⟨h0,h9⟩:=and2 h;obtain⟨x,p,rfl,h0⟩:=z3o h0;obtain⟨h1,h2,h3⟩:=k.loc h0;obtain⟨a1,a2,a3⟩:=ih h9;refine⟨zci (by rw[k.hN];exact k.nd) h1 h2 h3 a1,?_,?_⟩
   ·show(dm es X.env).length+1=_;rw[a2];rfl
   ·show((false,jx (.Name x p) X.env)::dm es X.env).findIdx? (·.1)=none;rw[List.findIdx?_cons,a3];rfl
theorem zd1 (k:Cok Γ Κ Φ X r){t:Tg}{e:Expr}(h:zaj Γ t e=true):PG X e (tDG X.K t):=by
 cases t with
 |nm i=>obtain⟨x,p,rfl,h9⟩:=z3o h;obtain⟨h1,h2,h3⟩:=k.loc h9;exact zi0 (by rw[k.hN];exact k.nd) h1 h2 h3
 |tp is=>obtain⟨h0,h⟩:=and2 h;obtain⟨v,hv,h9⟩:=z05 h;obtain⟨_,_,rfl⟩:=zej hv;obtain⟨a1,a2,a3⟩:=zl3 k is h9;exact zlq (k.calm h0) a1 rfl a3 a2.symm
theorem z6k {e:Expr}(h:plainT e=true)(env:Env):∀whole,mv e env whole=(do let v <-whole;standAt e.pos;m4 [v] (truthy v)):=by
 intro whole;cases e<;>first|(cases h;done)|rfl|skip
 rename_i op x p;cases op<;>first|(cases h;done)|rfl
theorem z5y {e:Expr}(h:zb4 e=true)(env:Env):∀x,d8 e env x=pure x:=by intro x;cases e<;>first|(cases h;done)|rfl
end
variable (Κ:List D)(Φ:List Fn)
theorem zep (c:C):∀(Γ:Gm) (es:List Expr) (ρ:Rho) (ys:List GD),chkA Γ c es=true->evA Κ Φ c ρ=.ok ys->ys.length=es.length/\(es.all fun e=>!isStar e)=true:=by
 induction c with
 |nil=>intro Γ es ρ ys h e;cases z1w h;cases e;exact⟨rfl,rfl⟩
 |cons a r _ ih=>
  intro Γ es ρ ys h e;cases es with
  |nil=>cases h
  |cons x es=>obtain⟨h1,_,h3⟩:=and3 h;obtain⟨y,_,e⟩:=Res.bind_ok e;obtain⟨ys',e2,e⟩:=Res.bind_ok e;cases e;obtain⟨i1,i2⟩:=ih Γ es ρ ys' h3 e2;exact⟨by rw[bh,bh,i1],by rw[cj,i2,h1];rfl⟩
 |_=>exact fun _ _ _ _ h=>ff rfl h
end
section
theorem zdh {Γ:Gm}{T:String}{t:Expr}(h:tyB Γ T t=true):∃x p,t=.Name x p/\x=Str.ofString T/\bltB Γ x=true/\T∈tysB:=by obtain⟨x,p,e,h⟩:=z3o h;obtain⟨h1,h2,h3⟩:=and3 h;exact⟨x,p,e,nz h1,h2,ce.mp h3⟩
theorem or_l {a b:Bool}(h:(a||b)=true)(n:b=false):a=true:=by rw[n,Bool.or_false]at h;exact h
theorem zaq {T:String}(h:T∈tysB):cv (Str.ofString T)=some (.type T):=by simp only[tysB,bc,cr,or_false]at h;rcases h with rfl|rfl|rfl|rfl|rfl<;>decide+kernel
variable (Κ:List D)(Φ:List Fn)
theorem z0i {Γ:Gm}:∀{c:C} {es:List Expr},chkA Γ c es=true->(es.all fun e=>!isStar e)=true:=by
 intro c
 induction c with
 |nil=>intro es h;cases z1w h;rfl
 |cons a r _ ih=>
  intro es h;cases es with
  |nil=>rfl
  |cons e es=>obtain⟨h1,_,h3⟩:=and3 h;rw[cj,ih h3,h1];rfl
 |_=>exact fun h=>ff rfl h
theorem z2n {Γ:Gm}{c:C}{es:List Expr}(h:chkA Γ c es=true):∀ρ ys,evA Κ Φ c ρ=.ok ys->ys.length=es.length:=fun ρ ys e=>(zep Κ Φ c Γ es ρ ys h e).1
structure Sd (c:C):Prop where
 E:∀(Γ:Gm) (X:Cx) (r:Nat) (e:Expr),Cok Γ Κ Φ X r->chkE Γ c e=true->PE X e (tD X.K (evE Κ Φ c))
 T:∀(Γ:Gm) (X:Cx) (r:Nat) (e:Expr),Cok Γ Κ Φ X r->chkT Γ c e=true->PT X e (tDT X.K (evT Κ Φ c))/\((∃o l p,e=.BoolOp o l p)->PW X e (tDT X.K (evT Κ Φ c)))
 Q:∀(Γ:Gm) (X:Cx) (r:Nat) (l:Expr) (ops:List CmpOp) (rs:List Expr) (pos:Pos),Cok Γ Κ Φ X r->chkE Γ c (.Compare l ops rs pos)=true->PT X (.Compare l ops rs pos) (tDT X.K fun ρ=>evE Κ Φ c ρ>>=fun x=>z11 x.2)
 A:∀(Γ:Gm) (X:Cx) (r:Nat) (es:List Expr),Cok Γ Κ Φ X r->chkA Γ c es=true->PA X es (tDA X.K (evA Κ Φ c))
 O:∀(Γ:Gm) (X:Cx) (r:Nat) (e:Option Expr),Cok Γ Κ Φ X r->chkO Γ c e=true->PO X e (tDO X.K (evO Κ Φ c))
 W:∀(Γ:Gm) (X:Cx) (r:Nat) (e tg:Expr),Cok Γ Κ Φ X r->zd9 c tg=true->chkW Γ c e=true->PI X tg e (tDW X.K (evW Κ Φ c))
 G:∀(Γ:Gm) (X:Cx) (r:Nat) (e:Expr),Cok Γ Κ Φ X r->chkG Γ c e=true->∃a,c=.tv a/\PE X e (tD X.K (evE Κ Φ a))
def isX:C->Nat
 |.and _ _|.or _ _|.not _|.tv _|.nil|.cons _ _|.rng _|.enum _|.zip _ _=>2
 |.cmp _ _ _=>1
 |_=>0
variable {Κ:List D}{Φ:List Fn}{a b c:C}
section
variable {Γ:Gm}{e tg:Expr}{es:List Expr}{o:Option Expr}
theorem x_T (h:isX c<2):chkT Γ c e=false:=by cases c<;>first|rfl|exact absurd h (bx 2)
theorem x_A (h:isX c<2):chkA Γ c es=false:=by cases c<;>first|rfl|exact absurd h (bx 2)
theorem x_O (h:isX c<2):chkO Γ c o=false:=by cases c<;>first|rfl|exact absurd h (bx 2)
theorem x_W (h:isX c<2):chkW Γ c e=false:=by cases c<;>first|rfl|exact absurd h (bx 2)
theorem x_G (h:isX c<2):chkG Γ c e=false:=by cases c<;>first|rfl|exact absurd h (bx 2)
end
theorem Sd.q (hE:∀(Γ:Gm) (X:Cx) (r:Nat) (e:Expr),Cok Γ Κ Φ X r->chkE Γ c e=true->PE X e (tD X.K (evE Κ Φ c)))(hQ:∀(Γ:Gm) (X:Cx) (r:Nat) (l:Expr) (ops:List CmpOp) (rs:List Expr) (pos:Pos),Cok Γ Κ Φ X r->chkE Γ c (.Compare l ops rs pos)=true->PT X (.Compare l ops rs pos) (tDT X.K fun ρ=>evE Κ Φ c ρ>>=fun x=>z11 x.2))(hx:isX c<2):Sd Κ Φ c:=⟨hE,fun _ _ _ _ _ h=>ff (x_T hx) h,hQ,fun _ _ _ _ _ h=>ff (x_A hx) h,fun _ _ _ _ _ h=>ff (x_O hx) h,fun _ _ _ _ _ _ _ h=>ff (x_W hx) h,fun _ _ _ _ _ h=>ff (x_G hx) h⟩
theorem x_Q {Γ:Gm}{l:Expr}{ops:List CmpOp}{rs:List Expr}{pos:Pos}(h:isX c=0):chkE Γ c (.Compare l ops rs pos)=false:=by cases c<;>first|rfl|(cases h;done)
theorem Sd.x (hE:∀(Γ:Gm) (X:Cx) (r:Nat) (e:Expr),Cok Γ Κ Φ X r->chkE Γ c e=true->PE X e (tD X.K (evE Κ Φ c)))(hx:isX c=0):Sd Κ Φ c:=Sd.q hE (fun _ _ _ _ _ _ _ _ h=>ff (x_Q hx) h) (by rw[hx];exact Nat.zero_lt_two)
theorem zky {i:Nat}:Sd Κ Φ (.var i):=Sd.x (fun Γ X r e k h=>by obtain⟨x,p,rfl,h⟩:=z3o h;obtain⟨h1,h2,h3,h4⟩:=k.vis h;exact zke h1 h2 h3 h4) rfl
theorem p_bl {b:Bool}:Sd Κ Φ (.bl b):=Sd.x (fun Γ X r e k h=>by obtain⟨_,_,rfl⟩:=zem (np h);exact z51 zje fun _ _=>rfl) rfl
theorem zki {b:Int}:Sd Κ Φ (.int b):=Sd.x (fun Γ X r e k h=>by obtain⟨_,_,rfl⟩:=zem (np h);exact z51 zfd fun _ _=>rfl) rfl
theorem zm0 {b:Str}:Sd Κ Φ (.str b):=Sd.x (fun Γ X r e k h=>by obtain⟨h1,h2⟩:=and2 h;obtain⟨_,_,rfl⟩:=zem (np h1);exact z51 zgg fun _ _=>⟨rfl,h2⟩) rfl
theorem ziy {op:gh}(ia:Sd Κ Φ a)(ib:Sd Κ Φ b):Sd Κ Φ (.bin op a b):=Sd.x (fun Γ X r e k h=>by obtain⟨v,hv,h9⟩:=z05 h;obtain⟨p,rfl⟩:=zlg hv;obtain⟨h1,h2,h3,h4⟩:=and4 h9;cases np h1;exact zla h2 (ia.E Γ X r _ k h3) (ib.E Γ X r _ k h4)) rfl
theorem zkh (ia:Sd Κ Φ a):Sd Κ Φ (.neg a):=Sd.x (fun Γ X r e k h=>by obtain⟨⟨o,x⟩,hv,h9⟩:=z05 h;obtain⟨p,rfl⟩:=q_Un hv;obtain⟨h1,h2⟩:=and2 h9;cases np h1;exact zjh (ia.E Γ X r _ k h2)) rfl
theorem zij {Γ:Gm}{op:CmpOp}{e:Expr}(h:chkE Γ (.cmp op a b) e=true):∃l r p,e=.Compare l [op] [r] p/\z7f op=true/\gr op r=false/\chkE Γ a l=true/\chkE Γ b r=true:=by obtain⟨⟨l,o,rs⟩,hv,h9⟩:=z05 h;obtain⟨p,rfl⟩:=q_Cm hv;obtain⟨h1,h2⟩:=and2 h9;obtain⟨r,hr,h3⟩:=z05 h2;cases np h1;cases z4v hr;obtain⟨h2,h3,h4,h5⟩:=and4 h3;exact⟨l,r,p,rfl,h2,z1k h3,h4,h5⟩
theorem ziu {op:CmpOp}(ia:Sd Κ Φ a)(ib:Sd Κ Φ b):Sd Κ Φ (.cmp op a b):=Sd.q (fun Γ X r e k h=>by
 obtain⟨_,_,_,rfl,h2,h3,h4,h5⟩:=zij h;exact zin k.hu h2 h3 (ia.E Γ X r _ k h4) (ib.E Γ X r _ k h5)) (fun Γ X r l ops rs p k h=>by
 obtain⟨_,_,_,he,h2,h3,h4,h5⟩:=zij h;cases he;exact zlo k.hu h2 h3 (ia.E Γ X r _ k h4) (ib.E Γ X r _ k h5)) Nat.one_lt_two
theorem z36 {f g:Expr->Bool}{o:BoolOp}{p:Pos}{xs:List Expr}(h:z8v f g o p xs=true):(∃x y,xs=[x,y]/\f x=true/\g y=true)\/∃x y z r,xs=x::y::z::r/\f x=true/\g (.BoolOp o (y::z::r) p)=true:=by
 rcases xs with _|⟨x,_|⟨y,_|⟨z,xs⟩⟩⟩
 ·cases h
 ·cases h
 ·exact .inl ⟨x,y,rfl,(and2 h).1,(and2 h).2⟩
 ·exact .inr ⟨x,y,z,xs,rfl,(and2 h).1,(and2 h).2⟩
theorem ziw (ia:Sd Κ Φ a)(ib:Sd Κ Φ b):Sd Κ Φ (.and a b) where
 E:=fun Γ X r e k h=>by
  obtain⟨⟨o,xs,p⟩,hv,h9⟩:=z05 h;cases q_Bo hv;obtain⟨h1,h2⟩:=and2 h9;cases np h1;rcases z36 h2 with⟨x,y,rfl,h3,h4⟩|⟨x,y,z,t,rfl,h3,h4⟩
  ·exact zfr (ia.E Γ X r _ k h3) (zbj (ib.E Γ X r _ k h4))
  ·exact zfr (ia.E Γ X r _ k h3) (ib.E Γ X r _ k h4)
 T:=fun Γ X r e k h=>by
  obtain⟨⟨o,xs,p⟩,hv,h9⟩:=z05 h;cases q_Bo hv;obtain⟨h1,h2⟩:=and2 h9;cases np h1;rcases z36 h2 with⟨x,y,rfl,h3,h4⟩|⟨x,y,z,t,rfl,h3,h4⟩
  ·have w:=w_and (pos:=p) (ia.T Γ X r _ k h3).1 (zcj (ib.T Γ X r _ k h4).1);exact⟨w.pt,fun _=>w⟩
  ·have w:=w_and (pos:=p) (ia.T Γ X r _ k h3).1 ((ib.T Γ X r _ k h4).2 ⟨_,_,_,rfl⟩);exact⟨w.pt,fun _=>w⟩
 Q:=fun _ _ _ _ _ _ _ _ h=>ff rfl h
 A:=fun _ _ _ _ _ h=>ff rfl h
 O:=fun _ _ _ _ _ h=>ff rfl h
 W:=fun _ _ _ _ _ _ _ h=>ff rfl h
 G:=fun _ _ _ _ _ h=>ff rfl h
theorem p_or (ia:Sd Κ Φ a)(ib:Sd Κ Φ b):Sd Κ Φ (.or a b) where
 E:=fun Γ X r e k h=>by
  obtain⟨⟨o,xs,p⟩,hv,h9⟩:=z05 h;cases q_Bo hv;obtain⟨h1,h2⟩:=and2 h9;cases np h1;rcases z36 h2 with⟨x,y,rfl,h3,h4⟩|⟨x,y,z,t,rfl,h3,h4⟩
  ·exact d_or (ia.E Γ X r _ k h3) (zbj (ib.E Γ X r _ k h4))
  ·exact d_or (ia.E Γ X r _ k h3) (ib.E Γ X r _ k h4)
 T:=fun Γ X r e k h=>by
  obtain⟨⟨o,xs,p⟩,hv,h9⟩:=z05 h;cases q_Bo hv;obtain⟨h1,h2⟩:=and2 h9;cases np h1;rcases z36 h2 with⟨x,y,rfl,h3,h4⟩|⟨x,y,z,t,rfl,h3,h4⟩
  ·have w:=w_or (pos:=p) (ia.T Γ X r _ k h3).1 (zi3 (ib.T Γ X r _ k h4).1);exact⟨w.pt,fun _=>w⟩
  ·have w:=w_or (pos:=p) (ia.T Γ X r _ k h3).1 ((ib.T Γ X r _ k h4).2 ⟨_,_,_,rfl⟩);exact⟨w.pt,fun _=>w⟩
 Q:=fun _ _ _ _ _ _ _ _ h=>ff rfl h
 A:=fun _ _ _ _ _ h=>ff rfl h
 O:=fun _ _ _ _ _ h=>ff rfl h
 W:=fun _ _ _ _ _ _ _ h=>ff rfl h
 G:=fun _ _ _ _ _ h=>ff rfl h
theorem zjp (ia:Sd Κ Φ a):Sd Κ Φ (.not a) where
 E:=fun Γ X r e k h=>by obtain⟨⟨o,x⟩,hv,h9⟩:=z05 h;obtain⟨p,rfl⟩:=q_Un hv;obtain⟨h1,h2⟩:=and2 h9;cases np h1;exact zjy (ia.E Γ X r _ k h2)
 T:=fun Γ X r e k h=>by obtain⟨⟨o,x⟩,hv,h9⟩:=z05 h;obtain⟨p,rfl⟩:=q_Un hv;obtain⟨h1,h2⟩:=and2 h9;cases np h1;exact⟨z7h (ia.T Γ X r _ k h2).1,fun⟨_,_,_,z⟩=>by cases z⟩
 Q:=fun _ _ _ _ _ _ _ _ h=>ff rfl h
 A:=fun _ _ _ _ _ h=>ff rfl h
 O:=fun _ _ _ _ _ h=>ff rfl h
 W:=fun _ _ _ _ _ _ _ h=>ff rfl h
 G:=fun _ _ _ _ _ h=>ff rfl h
theorem zf0 {e:Expr}(h:zc1 e=true):∃l o r p,e=.Compare l o r p:=by cases e<;>first|exact ff rfl h|exact⟨_,_,_,_,rfl⟩
theorem p_tv (ia:Sd Κ Φ a):Sd Κ Φ (.tv a) where
 E:=fun _ _ _ _ _ h=>ff rfl h
 T:=fun Γ X r e k h=>by
  obtain⟨h1,h2⟩:=and2 h;rcases db.mp h1 with h1|h1
  ·exact⟨zl2 (ia.E Γ X r _ k h2) (z6k h1 _),fun⟨_,_,_,z⟩=>by subst z;cases h1⟩
  ·obtain⟨_,_,_,_,rfl⟩:=zf0 h1;exact⟨ia.Q Γ X r _ _ _ _ k h2,fun⟨_,_,_,z⟩=>by cases z⟩
 Q:=fun _ _ _ _ _ _ _ _ h=>ff rfl h
 A:=fun _ _ _ _ _ h=>ff rfl h
 O:=fun Γ X r e k h=>by obtain⟨v,rfl,h⟩:=z05 h;exact zig (ia.E Γ X r _ k h)
 W:=fun Γ X r e tg k _ h=>w_tv (ia.E Γ X r _ k (and2 h).2)
 G:=fun Γ X r e k h=>⟨a,rfl,ia.E Γ X r _ k h⟩
theorem zlh (ia:Sd Κ Φ a):Sd Κ Φ (.tup a):=Sd.x (fun Γ X r e k h=>by obtain⟨v,hv,h9⟩:=z05 h;obtain⟨_,_,rfl⟩:=zej hv;obtain⟨h1,h2⟩:=and2 h9;exact zj7 (ia.A Γ X r _ k h2) fun ρ ys e=>by rw[z2n Κ Φ h2 ρ ys e];exact zbi (np h1)) rfl
theorem zlx (ia:Sd Κ Φ a):Sd Κ Φ (.lst a):=Sd.x (fun Γ X r e k h=>by obtain⟨v,hv,h9⟩:=z05 h;obtain⟨_,rfl⟩:=zj1 hv;obtain⟨h1,h2⟩:=and2 h9;exact zjg (ia.A Γ X r _ k h2) fun ρ ys e=>by rw[z2n Κ Φ h2 ρ ys e];exact zbi (np h1)) rfl
theorem p_ix (ia:Sd Κ Φ a)(ib:Sd Κ Φ b):Sd Κ Φ (.ix a b):=Sd.x (fun Γ X r e k h=>by obtain⟨v,hv,h9⟩:=z05 h;obtain⟨_,rfl⟩:=zii hv;obtain⟨h1,h2,h3⟩:=and3 h9;exact d_ix k.hu h1 (ia.E Γ X r _ k h2) (ib.E Γ X r _ k h3)) rfl
theorem p_sl {lo hi:C}(ia:Sd Κ Φ a)(il:Sd Κ Φ lo)(ih:Sd Κ Φ hi):Sd Κ Φ (.sl a lo hi):=Sd.x (fun Γ X r e k h=>by obtain⟨⟨x,i⟩,hv,h9⟩:=z05 h;obtain⟨_,rfl⟩:=zii hv;obtain⟨⟨l,u,s⟩,hs,h8⟩:=z05 h9;obtain⟨_,rfl⟩:=zli hs;obtain⟨h1,h2,h3,h4⟩:=and4 h8;cases jh.mp h1;exact d_sl (ia.E Γ X r _ k h2) (il.O Γ X r _ k h3) (ih.O Γ X r _ k h4)) rfl
theorem zf6 {j:Nat}{f:Str}{args:C}(ia:Sd Κ Φ args):Sd Κ Φ (.call j f args):=Sd.x (fun Γ X r e k h=>by
 obtain⟨⟨x,es⟩,hv,h9⟩:=z05 h;obtain⟨_,_,rfl⟩:=z1v hv;obtain⟨h1,h2,h3,h4,h5⟩:=and5 h9;obtain⟨y,es,rfl⟩:=z2r h5;obtain⟨h0,h1⟩:=and2 h1;cases nz h1;obtain⟨g1,g2⟩:=k.gl h2;obtain⟨m,kk,ps,c1,c2,c3⟩:=k.fns j _ _ (nz h3);refine PE.imp (zgr c3 (k.room h0) c2 (ia.A Γ X r _ k h4) (z0i h4) g1 g2 (z2n Κ Φ h4)) fun σ H Q hq=>?_
 have ee:evE Κ Φ (.call j x args)=fun ρ=>evA Κ Φ args ρ>>=fun ys=>m (ys.map (·.2))>>=fun r=>.ok (gJ r.2 (rtG r.1),r.2):=by
  funext ρ
  show(evA Κ Φ args ρ>>=fun ys=>match Φ[j]? with|some m=>m (ys.map (·.2))>>=fun r=>.ok (gJ r.2 (rtG r.1),r.2)|none=>.no)=_;rw[c1]
 rw[ee]at hq;exact hq) rfl
theorem zhk {j:Nat}{f:Str}{args:C}(ia:Sd Κ Φ args):Sd Κ Φ (.caln j f args):=Sd.x (fun Γ X r e k h=>by
 obtain⟨⟨x,es⟩,hv,h9⟩:=z05 h;obtain⟨_,_,rfl⟩:=z1v hv;obtain⟨h1,h2,h3,h4,h5⟩:=and5 h9;obtain⟨y,es,rfl⟩:=z2r h5;obtain⟨h0,h1⟩:=and2 h1;cases nz h1;obtain⟨g1,g2⟩:=k.gl h2;obtain⟨m,kk,ps,c1,c2,c3⟩:=k.fns j _ _ (nz h3);refine PE.imp (zff c3 (k.room h0) c2 (ia.A Γ X r _ k h4) (z0i h4) g1 g2 (z2n Κ Φ h4)) fun σ H Q hq=>?_
 have ee:evE Κ Φ (.caln j x args)=fun ρ=>evA Κ Φ args ρ>>=fun ys=>m (ys.map (·.2))>>=fun r=>.ok (gJ r.2 (calG r.1 ys),r.2):=by
  funext ρ
  show(evA Κ Φ args ρ>>=fun ys=>match Φ[j]? with|some m=>m (ys.map (·.2))>>=fun r=>.ok (gJ r.2 (calG r.1 ys),r.2)|none=>.no)=_;rw[c1]
 rw[ee]at hq;exact hq) rfl
theorem p_bi {f:String}{args:C}(ia:Sd Κ Φ args):Sd Κ Φ (.bi f args):=Sd.x (fun Γ X r e k h=>by
 obtain⟨⟨x,es⟩,hv,h9⟩:=z05 h;obtain⟨_,_,rfl⟩:=z1v hv;obtain⟨h1,h2,h3,h4,h5⟩:=and5 h9;obtain⟨y,es,rfl⟩:=z2r h5;have h1:=nz h1;obtain⟨g1,g2,g3,g4⟩:=k.blt h2;obtain⟨h3,hcm⟩:=and2 h3;have hf:f∈["len","max","min"]:=ce.mp h3;have ha:=ia.A Γ X r _ k h4;simp only[bc,cr,or_false]at hf;rcases hf with rfl|rfl|rfl
 ·exact d_cB zdx g2 (by rw[h1];decide+kernel) ha (z0i h4) g1 g4 g3
 ·exact d_cB (zg1 (k.calm (or_l hcm rfl))) g2 (by rw[h1];decide+kernel) ha (z0i h4) g1 g4 g3
 ·exact d_cB (zgm (k.calm (or_l hcm rfl))) g2 (by rw[h1];decide+kernel) ha (z0i h4) g1 g4 g3) rfl
theorem zjn {f:String}(ia:Sd Κ Φ a):Sd Κ Φ (.agg f a):=Sd.x (fun Γ X r e k h=>by
 obtain⟨⟨x,es⟩,hv,h9⟩:=z05 h;obtain⟨_,_,rfl⟩:=z1v hv;obtain⟨h1,h2,h3,h4⟩:=and4 h9;obtain⟨y,hy,k5⟩:=z05 h4;obtain⟨k4,k6⟩:=and2 k5;cases z4v hy;have k1:=nz h1;obtain⟨g1,g2,g3,g4⟩:=k.blt h2;obtain⟨a,rfl,ha⟩:=ia.G Γ X r _ k k6;have k7:=z1k k4;obtain⟨h3,hcm⟩:=and2 h3;have hf:f∈aggs:=ce.mp h3;simp only[aggs,bc,cr,or_false]at hf;rcases hf with rfl|rfl|rfl|rfl|rfl|rfl
 ·exact z8x zh0 g2 (by rw[k1];decide+kernel) k7 ha g1 g4 g3
 ·exact z8x zen g2 (by rw[k1];decide+kernel) k7 ha g1 g4 g3
 ·exact z7m (zk1 (k.calm hcm)) g2 (by rw[k1];decide+kernel) k7 ha g1 g4 g3
 ·exact z7m (zj2 (k.calm hcm)) g2 (by rw[k1];decide+kernel) k7 ha g1 g4 g3
 ·exact z7m (zkv (k.calm hcm)) g2 (by rw[k1];decide+kernel) k7 ha g1 g4 g3
 ·exact z8x (zf5 (k.calm hcm)) g2 (by rw[k1];decide+kernel) k7 ha g1 g4 g3) rfl
theorem zj8 {ts:List String}(ia:Sd Κ Φ a):Sd Κ Φ (.isT a ts):=Sd.x (fun Γ X r e k h=>by obtain⟨⟨x,es⟩,hv,h9⟩:=z05 h;obtain⟨_,_,rfl⟩:=z1v hv;obtain⟨h1,h2,h3⟩:=and3 h9;obtain⟨⟨y,t⟩,hy,k3⟩:=z05 h3;obtain⟨k4,h4,k5⟩:=and3 k3;obtain⟨T,hT,k6⟩:=z05 k5;cases zh7 hy;cases z4v hT;cases nz h1;obtain⟨g1,g2,g3,g4⟩:=k.blt h2;obtain⟨x2,p2,rfl,rfl,hb,kT⟩:=zdh k6;obtain⟨b1,b2,b3,b4⟩:=k.blt hb;exact zk2 g2 g1 b2 (zaq kT) b1 b4 b3 kT (z1k k4) (ia.E Γ X r _ k h4)) rfl
theorem p_mt {m:String}{args:C}(io:Sd Κ Φ a)(ia:Sd Κ Φ args):Sd Κ Φ (.mt m a args):=Sd.x (fun Γ X r e k h=>by
 obtain⟨⟨x,n,es,b⟩,hv,h9⟩:=z05 h;obtain⟨ap,cp,rfl,hb⟩:=q_Mt hv;obtain⟨h0,h6,h7,h8⟩:=and4 h9;obtain⟨h1,h2,h3,h4,h5⟩:=and5 h0;obtain⟨y,es,rfl⟩:=z2r h8;cases nz h1;have k4:(ap.endLine==cp.line)=true:=hb.symm.trans h4;have ho:=io.E Γ X r _ k h6;have ha:=ia.A Γ X r _ k h7;have hm:m∈["get"]:=ce.mp h2;simp only[cr,bc,or_false]at hm;rcases hm with rfl
 ·exact d_mt PySem.F.plainAttrs_dict PySem.F.slot_dict_get PySem.F.type_dict_get (zls k.hu) (fun _ _ _ _ _ _ r e=>zf7 r e) ho ha h3 (z0i h7) (np h5) k4) rfl
theorem zji {Γ:Gm}{X:Cx}{ifs:List Expr}{n:Nat}(ic:Sd Κ Φ c)(k:Cok Γ Κ Φ X n)(h:ifsB (isNl c) (fun t=>chkT Γ c t) ifs=true):PTs X ifs (tDT X.K (evT Κ Φ c)):=by
 cases ifs with
 |nil=>
  have:c=.nil:=by cases c<;>first|exact ff rfl h|rfl
  subst this;refine fun pins s σ H Q I q=>zdn pins s σ H Q I ?_;obtain⟨ρ,F,b,so,e,q⟩:=q;cases e;exact q H (Same.refl H)
 |cons t r=>obtain⟨h1,h2⟩:=and2 h;cases z1w h1;exact zex (ic.T Γ X n t k h2).1
theorem sC {nt:Nat}{js:List Nat}{N':List Str}{tg:Tg}{it cond elt:C}(ii:Sd Κ Φ it)(ic:Sd Κ Φ cond)(ie:Sd Κ Φ elt){Γ:Gm}{X:Cx}{r:Nat}{e:Expr}(k:Cok Γ Κ Φ X r)(h:chkE Γ (.comp nt js N' tg it cond elt) e=true):
  ∃el t i ifs scope pos,e=.ListComp el [⟨t,i,ifs,0⟩] scope pos/\BlkScope X scope N' nt js/\(∀i∈tgIx tg,i<nt)/\PI X t i (tDW X.K (evW Κ Φ it))/\(∀C fp s H,PG (blk X scope N' C fp s H) t (tDG X.K tg))/\(∀C fp s H,PTs (blk X scope N' C fp s H) ifs (tDT X.K (evT Κ Φ cond)))/\(∀C fp s H,PE (blk X scope N' C fp s H) el (tD X.K (evE Κ Φ elt)))/\(∀x,d8 i X.env x=pure x)/\Γ.cm=true:=by
 obtain⟨⟨el,gs,scope⟩,hv,h9⟩:=z05 h;obtain⟨pos,rfl⟩:=q_LC hv;obtain⟨⟨t,i,ifs,kk⟩,hg,h9⟩:=z05 h9;cases z4v hg;obtain⟨h0,h6,h7,h8,h9⟩:=and5 h9;obtain⟨h1,h2,h3,h4,h5⟩:=and5 h0;obtain⟨hcm,h1⟩:=and2 h1;cases nz h1;have h2:=bp.mp h2;have hB:BlkScope X scope N' nt js:=zf9 k.hN k.hs h3;have kb:=fun C fp s H=>k.blk (N':=N') hB.kind (np h5) C fp s H;exact⟨el,t,i,ifs,scope,pos,rfl,hB,fun i hi=>np (h2 i hi),ii.W Γ X r _ t k (and2 h6).2 h7,fun C fp s H=>zd1 (kb C fp s H) (and2 h6).1,fun C fp s H=>zji ic (kb C fp s H) h8,fun C fp s H=>ie.E _ _ r _ (kb C fp s H) h9,z5y h4 _,hcm⟩
theorem zfa {nt:Nat}{js:List Nat}{N':List Str}{tg:Tg}{it cond elt:C}(ii:Sd Κ Φ it)(ic:Sd Κ Φ cond)(ie:Sd Κ Φ elt):Sd Κ Φ (.comp nt js N' tg it cond elt):=Sd.x (fun Γ X r e k h=>by obtain⟨el,t,i,ifs,scope,pos,rfl,hB,h2,hi,hg,ht,he,hs,hcm⟩:=sC ii ic ie k h;exact(zca (k.calm hcm) hB h2 hi hg ht he hs).1) rfl
theorem zkr:Sd Κ Φ .nil where
 E:=fun _ _ _ _ _ h=>ff rfl h
 T:=fun _ _ _ _ _ h=>ff rfl h
 Q:=fun _ _ _ _ _ _ _ _ h=>ff rfl h
 A:=fun Γ X r es k h=>by cases z1w h;exact zia
 O:=fun Γ X r e k h=>by cases jh.mp h;exact z2p
 W:=fun _ _ _ _ _ _ _ h=>ff rfl h
 G:=fun _ _ _ _ _ h=>ff rfl h
theorem zh6 (ia:Sd Κ Φ a)(ib:Sd Κ Φ b):Sd Κ Φ (.cons a b) where
 E:=fun _ _ _ _ _ h=>ff rfl h
 T:=fun _ _ _ _ _ h=>ff rfl h
 Q:=fun _ _ _ _ _ _ _ _ h=>ff rfl h
 A:=fun Γ X r es k h=>by
  cases es with
  |nil=>cases h
  |cons e es=>obtain⟨h1,h2,h3⟩:=and3 h;exact z9i (z1k h1) (ia.E Γ X r _ k h2) (ib.A Γ X r _ k h3)
 O:=fun _ _ _ _ _ h=>ff rfl h
 W:=fun _ _ _ _ _ _ _ h=>ff rfl h
 G:=fun _ _ _ _ _ h=>ff rfl h
theorem zj5 (ia:Sd Κ Φ a):Sd Κ Φ (.rng a) where
 E:=fun _ _ _ _ _ h=>ff rfl h
 T:=fun _ _ _ _ _ h=>ff rfl h
 Q:=fun _ _ _ _ _ _ _ _ h=>ff rfl h
 A:=fun _ _ _ _ _ h=>ff rfl h
 O:=fun _ _ _ _ _ h=>ff rfl h
 W:=fun Γ X r e tg k _ h=>by
  obtain⟨⟨x,es⟩,hv,h9⟩:=z05 h;obtain⟨_,_,rfl⟩:=z1v hv;obtain⟨h1,h2,h3,h4⟩:=and4 h9;obtain⟨h4,h5⟩:=and2 h4;cases nz h1;obtain⟨g1,g2,g3,g4⟩:=k.blt h2;have hs:=bp.mp (z0i h3);have hl:=z2n Κ Φ h3;have ha:=ia.A Γ X r _ k h3;rcases es with _|⟨x,_|⟨y,es⟩⟩
  ·cases h4
  ·exact zi4 g2 g1 (z1k (hs x (.head _))) ha hl
  ·exact absurd (np h5) (Nat.not_le.mpr (Nat.succ_lt_succ (Nat.succ_pos _)))
 G:=fun _ _ _ _ _ h=>ff rfl h
theorem zcc {e:Expr}(h:isTup e=true):∃a b c,e=.Tuple a b c:=by cases e<;>first|exact ff rfl h|exact⟨_,_,_,rfl⟩
theorem zbm {Γ:Gm}{e:Expr}(h:chkW Γ (.enum a) e=true):∃y q p,e=.Call (.Name "enumerate" q) [y] [] p/\bltB Γ "enumerate"=true/\isStar y=false/\chkE Γ a y=true:=by obtain⟨⟨x,es⟩,hv,h9⟩:=z05 h;obtain⟨q,p,rfl⟩:=z1v hv;obtain⟨h1,h2,h3⟩:=and3 h9;obtain⟨y,hy,h3⟩:=z05 h3;cases z4v hy;cases nz h1;exact⟨y,q,p,rfl,h2,z1k (and2 h3).1,(and2 h3).2⟩
theorem zhb {Γ:Gm}{e:Expr}(h:chkW Γ (.zip a b) e=true):∃y z q p,e=.Call (.Name "zip" q) [y,z] [] p/\bltB Γ "zip"=true/\isStar y=false/\isStar z=false/\chkE Γ a y=true/\chkE Γ b z=true:=by obtain⟨⟨x,es⟩,hv,h9⟩:=z05 h;obtain⟨q,p,rfl⟩:=z1v hv;obtain⟨h1,h2,h3⟩:=and3 h9;obtain⟨⟨y,z⟩,hy,h3⟩:=z05 h3;cases zh7 hy;cases nz h1;obtain⟨h4,h5,h6⟩:=and3 h3;exact⟨y,z,q,p,rfl,h2,z1k (and2 h4).1,z1k (and2 h4).2,h5,h6⟩
theorem zfb (ia:Sd Κ Φ a):Sd Κ Φ (.enum a) where
 E:=fun _ _ _ _ _ h=>ff rfl h
 T:=fun _ _ _ _ _ h=>ff rfl h
 Q:=fun _ _ _ _ _ _ _ _ h=>ff rfl h
 A:=fun _ _ _ _ _ h=>ff rfl h
 O:=fun _ _ _ _ _ h=>ff rfl h
 W:=fun Γ X r e tg k ht h=>by obtain⟨y,q,p,rfl,h2,h3,h4⟩:=zbm h;obtain⟨_,_,_,rfl⟩:=zcc ht;obtain⟨g1,g2,g3,g4⟩:=k.blt h2;exact zcf g2 g1 h3 (ia.E Γ X r _ k h4)
 G:=fun _ _ _ _ _ h=>ff rfl h
theorem zkc (ia:Sd Κ Φ a)(ib:Sd Κ Φ b):Sd Κ Φ (.zip a b) where
 E:=fun _ _ _ _ _ h=>ff rfl h
 T:=fun _ _ _ _ _ h=>ff rfl h
 Q:=fun _ _ _ _ _ _ _ _ h=>ff rfl h
 A:=fun _ _ _ _ _ h=>ff rfl h
 O:=fun _ _ _ _ _ h=>ff rfl h
 W:=fun Γ X r e tg k ht h=>by obtain⟨y,z,q,p,rfl,h2,h3,h4,h5,h6⟩:=zhb h;obtain⟨g1,g2,g3,g4⟩:=k.blt h2;exact zcx ht g2 g1 h3 h4 (ia.E Γ X r _ k h5) (ib.E Γ X r _ k h6)
 G:=fun _ _ _ _ _ h=>ff rfl h
theorem zh2 (hx:isX c=0)(hn:∀Γ e,chkE Γ c e=false):Sd Κ Φ c:=Sd.x (fun Γ X r e k h=>ff (hn Γ e) h) hx
theorem all (c:C):Sd Κ Φ c:=by
 induction c with
 |var=>exact zky
 |bl=>exact p_bl
 |int=>exact zki
 |str=>exact zm0
 |bin _ _ _ ia ib=>exact ziy ia ib
 |neg _ ia=>exact zkh ia
 |cmp _ _ _ ia ib=>exact ziu ia ib
 |and _ _ ia ib=>exact ziw ia ib
 |or _ _ ia ib=>exact p_or ia ib
 |not _ ia=>exact zjp ia
 |tup _ ia=>exact zlh ia
 |lst _ ia=>exact zlx ia
 |ix _ _ ia ib=>exact p_ix ia ib
 |sl _ _ _ ia ib ic=>exact p_sl ia ib ic
 |call _ _ _ ia=>exact zf6 ia
 |bi _ _ ia=>exact p_bi ia
 |agg _ _ ia=>exact zjn ia
 |isT _ _ ia=>exact zj8 ia
 |mt _ _ _ ia ib=>exact p_mt ia ib
 |comp _ _ _ _ _ _ _ ia ib ic=>exact zfa ia ib ic
 |rng _ ia=>exact zj5 ia
 |enum _ ia=>exact zfb ia
 |zip _ _ ia ib=>exact zkc ia ib
 |tv _ ia=>exact p_tv ia
 |caln _ _ _ ia=>exact zhk ia
 |nil=>exact zkr
 |cons _ _ ia ib=>exact zh6 ia ib
 |_=>exact zh2 rfl fun _ _=>rfl
end
section
variable (Κ:List D)(Φ:List Fn)
theorem z5s {el:Expr}{gs:List gu}{s:Scope}{p px:Pos}{t:Str}{n:Nat}{env:Env}:i5 (.ListComp el gs s p) (some (.Name t px)) n env=pure (env.blockKind==.function&&env.kindOf t==some .local&&px.line==p.line&& !(s.names.any fun(n,k)=>n==t&&(k==.local||k==.cell))):=rfl
theorem ze8 {Γ:Gm}{c:C}{el:Expr}{gs:List gu}{s:Scope}{p:Pos}(hn:isCI c=false)(h:chkE Γ c (.ListComp el gs s p)=true):∃nt js N' tg it cond elt,c=.comp nt js N' tg it cond elt:=by cases c<;>first|exact ff rfl h|exact⟨_,_,_,_,_,_,_,rfl⟩|(cases hn;done)
theorem zdf {Γ:Gm}{c:C}{el:Expr}{gs:List gu}{s:Scope}{p:Pos}(h:chkE Γ c (.SetComp el gs s p)=true):False:=by cases c<;>exact ff rfl h
theorem zeq {Γ:Gm}{c:C}{el el2:Expr}{gs:List gu}{s:Scope}{p:Pos}(h:chkE Γ c (.DictComp el el2 gs s p)=true):False:=by cases c<;>exact ff rfl h
theorem sAsg {Γ:Gm}{X:Cx}{r:Nat}(k:Cok Γ Κ Φ X r){i:Nat}{x:Str}{px pos:Pos}{c:C}{v:Expr}(h1:locB Γ i x=true)(hn:isCI c=false)(h2:chkE Γ c v=true):PS X (.Assign [.Name x px] v pos) (tDS X.K fun ρ=>evE Κ Φ c ρ>>=fun x=>.ok (.nx (ρ.set i (some (z12 x))))):=by
 obtain⟨l1,l2,l3⟩:=k.loc h1;have nd:X.N.Nodup:=by rw[k.hN];exact k.nd
 cases hc:z4a v with
 |false=>exact zhj nd l1 l2 l3 (z3j hc _ _ _) ((all c).E Γ X r _ k h2)
 |true=>
  cases v<;>first|(cases hc;done)|skip
  ·rename_i el gs s p;cases hb:(X.env.blockKind==.function&&X.env.kindOf x==some .local&&px.line==p.line&& !(s.names.any fun(n,k)=>n==x&&(k==.local||k==.cell)))with
   |false=>exact zhj nd l1 l2 l3 (by rw[z5s,hb]) ((all c).E Γ X r _ k h2)
   |true=>
    obtain⟨nt,js,N',tg,it,cond,elt,rfl⟩:=ze8 hn h2;obtain⟨el',t,i',ifs,scope,pos',e,hB,h0,hi,hg,ht,he,hs,hcm⟩:=sC (all it) (all cond) (all elt) k h2;cases e;have hl:X.env.scope.names.lookup x=some .local:=by simp only[a8,beq_iff_eq]at hb;exact hb.1.1.2
    refine PS.imp (zbh (k.calm hcm) nd l1 hl hB hi hg ht he (by rw[z5s,hb]) hs) fun D σ H q=>?_;exact zbl (fa:=z6c nt js tg (evW Κ Φ it) (evT Κ Φ cond) (evE Κ Φ elt)) (fun σ H Q z=>(zca (pos:=p) (k.calm hcm) hB h0 hi hg ht he hs).2 σ H Q z) D σ H q
  ·exact(zdf h2).elim
  ·exact(zeq h2).elim
theorem sFF {Γ:Gm}{X:Cx}{r:Nat}(k:Cok Γ Κ Φ X r){c:C}{ie tg:Expr}(hh:chkF Γ c tg ie=true):PI X tg ie (tDF X.K (evF Κ Φ c))/\zb4 ie=true:=by
 obtain⟨ht,h⟩:=and2 hh;have hw:=(all (Κ:=Κ) (Φ:=Φ) c).W Γ X r ie tg k ht h;cases c with
 |tv a=>
  have hal:=PI.orD (k:=fun ρ=>isAl Κ Φ (.tv a) ρ) (f_al ((all a).E Γ X r _ k (and2 h).2)) (zf8 hw);refine⟨?_,(and2 h).1⟩;cases a with
  |var i=>obtain⟨x,p,rfl,h2⟩:=z3o (and2 h).2;obtain⟨v1,v2,v3,v4⟩:=k.vis h2;exact PI.orD (k:=fun ρ=>ownB ρ i) (zlu v1 v2 v3 v4) hal
  |_=>exact hal
 |enum a=>obtain⟨y,q,p,rfl,h2,h3,h4⟩:=zbm h;obtain⟨_,_,_,rfl⟩:=zcc ht;obtain⟨g1,g2,g3,g4⟩:=k.blt h2;exact⟨zfy g2 g1 h3 ((all a).E Γ X r _ k h4),rfl⟩
 |zip a b=>
  obtain⟨y,z,q,p,rfl,h2,h3,h4,h5,h6⟩:=zhb h;obtain⟨g1,g2,g3,g4⟩:=k.blt h2
  have ez:evF Κ Φ (.zip a b)=fun ρ=>(evE Κ Φ a ρ>>=fun x=>evE Κ Φ b ρ>>=fun y=>Res.ok [x,y])>>=fun ys=>evZi ys ρ:=by
   funext ρ
   show((evE Κ Φ a ρ>>=fun x=>(evE Κ Φ b ρ>>=fun y=>Res.ok [y])>>=fun xs=>Res.ok (x::xs))>>=fun ys=>evZi ys ρ)=_;cases evE Κ Φ a ρ with
   |ok x=>cases evE Κ Φ b ρ<;>rfl
   |exc=>rfl
   |no=>rfl
  rw[ez];exact⟨zfo ht g2 g1 h3 h4 ((all a).E Γ X r _ k h5) ((all b).E Γ X r _ k h6),rfl⟩
 |rng a=>refine⟨zf8 hw,?_⟩;obtain⟨v,hv,_⟩:=z05 h;obtain⟨_,_,rfl⟩:=z1v hv;rfl
 |_=>exact ff rfl h
theorem z4p {a:List Expr}{b:Nat}{c:Pos}{v:Expr}{env:Env}(h:isTup v=false):lm [.Tuple a b c] v env=pure none:=by cases v<;>first|rfl|(cases h;done)
theorem q_As {s:Stmt}{v:List Expr×Expr}(h:vAs s=some v):∃p,s=.Assign v.1 v.2 p:=v_of (q:=fun v=>∃p,s=.Assign v.1 v.2 p) h (by cases s<;>first|exact .inl rfl|exact .inr ⟨_,rfl,_,rfl⟩)
theorem q_Ex {s:Stmt}{v:Expr}(h:vEx s=some v):∃p,s=.Expr v p:=v_of (q:=fun v=>∃p,s=.Expr v p) h (by cases s<;>first|exact .inl rfl|exact .inr ⟨_,rfl,_,rfl⟩)
theorem q_Rt {s:Stmt}{v:Option Expr}(h:vRt s=some v):∃p,s=.Return v p:=v_of (q:=fun v=>∃p,s=.Return v p) h (by cases s<;>first|exact .inl rfl|exact .inr ⟨_,rfl,_,rfl⟩)
theorem q_If {s:Stmt}{v:Expr×List Stmt×List Stmt}(h:vIf s=some v):∃p,s=.If v.1 v.2.1 v.2.2 p:=v_of (q:=fun v=>∃p,s=.If v.1 v.2.1 v.2.2 p) h (by cases s<;>first|exact .inl rfl|exact .inr ⟨_,rfl,_,rfl⟩)
theorem q_Fo {s:Stmt}{v:Expr×Expr×List Stmt×List Stmt}(h:vFo s=some v):∃p,s=.For v.1 v.2.1 v.2.2.1 v.2.2.2 p:=v_of (q:=fun v=>∃p,s=.For v.1 v.2.1 v.2.2.1 v.2.2.2 p) h (by cases s<;>first|exact .inl rfl|exact .inr ⟨_,rfl,_,rfl⟩)
structure Ss (s:S):Prop where
 R:∀(Γ:Gm) (X:Cx) (r:Nat) (st:Stmt),Cok Γ Κ Φ X r->i6 (model X.prog X.w) X.A X.env X.xe->chk1 Γ s st=true->PS X st (tDS X.K (evS Κ Φ s))
 L:∀(Γ:Gm) (X:Cx) (r:Nat) (st:List Stmt),Cok Γ Κ Φ X r->i6 (model X.prog X.w) X.A X.env X.xe->chkL Γ s st=true->PSs X st (tDS X.K (evS Κ Φ s))
def isSq:S->Bool
 |.nil=>false
 |.seq _ _=>false
 |.dap _ _ _=>false
 |.dpp _ _ _=>false
 |_=>true
variable {Κ:List D}{Φ:List Fn}
theorem Ss.x {s:S}(h:∀(Γ:Gm) (X:Cx) (r:Nat) (st:Stmt),Cok Γ Κ Φ X r->i6 (model X.prog X.w) X.A X.env X.xe->chk1 Γ s st=true->PS X st (tDS X.K (evS Κ Φ s)))(hx:isSq s=true):Ss Κ Φ s:=⟨h,by cases s<;>first|(cases hx;done)|exact fun _ _ _ _ _ _ h=>ff rfl h⟩
theorem zil {t:Tg}{e:C}:Ss Κ Φ (.asg t e):=Ss.x (fun Γ X r st k hp h=>by
 obtain⟨⟨ts,v⟩,hv,h9⟩:=z05 h;obtain⟨p,rfl⟩:=q_As hv;obtain⟨x,hx,h8⟩:=z05 h9;cases z4v hx;obtain⟨h1,h2,h3,h4⟩:=and4 h8;cases t with
 |nm i=>obtain⟨y,q,rfl,h5⟩:=z3o h1;exact sAsg Κ Φ k h5 (z1k h2) h4
 |tp is=>obtain⟨k1,k2⟩:=and2 (show(!z4a v&& !isTup v)=true from h3);obtain⟨es,hes,_⟩:=z05 (and2 h1).2;obtain⟨_,_,rfl⟩:=zej hes;exact zhv (zd1 k (t:=.tp is) h1) ((all e).E Γ X r _ k h4) ((show ll [_] _ _ _=i5 _ _ _ _ from rfl).trans (z3j (z1k k1) _ _ _)) (z4p (z1k k2)) rfl) rfl
theorem zjf {m:String}{i:Nat}{args:C}:Ss Κ Φ (.mut m i args):=Ss.x (fun Γ X r st k hp h=>by
 obtain⟨c,hv,h9⟩:=z05 h;obtain⟨p,rfl⟩:=q_Ex hv;obtain⟨⟨x,n,es,b⟩,hm,h8⟩:=z05 h9;obtain⟨ap,cp,rfl,hb⟩:=q_Mt hm;obtain⟨h0,h6,h7⟩:=and3 h8;obtain⟨h1,h2,h3,h4,h5⟩:=and5 h0;obtain⟨z,q,hz,k1⟩:=z3o h1;cases hz;obtain⟨y,es,rfl⟩:=z2r h6;cases nz h2;have hm:m∈["append","insert","pop"]:=ce.mp h3;simp only[cr,bc,or_false]at hm;obtain⟨v1,v2,v3,v4⟩:=k.vis k1;rcases hm with rfl|rfl|rfl
 ·exact zaz v1 v2 v3 v4 ((all args).A Γ X r _ k h7) (z0i h7) (np h5) (hb.symm.trans h4)
 ·exact zap v1 v2 v3 v4 ((all args).A Γ X r _ k h7) (z0i h7) (np h5) (hb.symm.trans h4)
 ·exact zcz v1 v2 v3 v4 ((all args).A Γ X r _ k h7) (z0i h7) (np h5) (hb.symm.trans h4)) rfl
theorem zjl {e:C}:Ss Κ Φ (.ret e):=Ss.x (fun Γ X r st k hp h=>by
 obtain⟨o,hv,h9⟩:=z05 h;obtain⟨p,rfl⟩:=q_Rt hv;obtain⟨v,rfl,h8⟩:=z05 h9;have g:=(all (Κ:=Κ) (Φ:=Φ) e).E Γ X r _ k h8;cases e with
 |var i=>obtain⟨x,q,rfl,h7⟩:=z3o h8;obtain⟨v1,v2,v3,v4⟩:=k.vis h7;exact zbx v1 v2 v3 v4
 |_=>exact zj3 g) rfl
theorem q_if {c:C}{a b:S}(ia:Ss Κ Φ a)(ib:Ss Κ Φ b):Ss Κ Φ (.ifS c a b):=Ss.x (fun Γ X r st k hp h=>by obtain⟨v,hv,h9⟩:=z05 h;obtain⟨p,rfl⟩:=q_If hv;obtain⟨h1,h2,h3⟩:=and3 h9;exact s_if ((all c).T Γ X r _ k h1).1 (ia.L Γ X r _ k hp h2) (ib.L Γ X r _ k hp h3)) rfl
theorem zgw {t:Tg}{it:C}{b:S}(ib:Ss Κ Φ b):Ss Κ Φ (.for_ t it b):=Ss.x (fun Γ X r st k hp h=>by obtain⟨hcm,h⟩:=and2 h;obtain⟨⟨t,i,B,o⟩,hv,h9⟩:=z05 h;obtain⟨p,rfl⟩:=q_Fo hv;obtain⟨h1,h2,h3,h4⟩:=and4 h9;cases z1w h4;obtain⟨hf,hn⟩:=sFF Κ Φ k h2;exact zjd hp (k.calm hcm) hf (zd1 k h1) (ib.L Γ X r _ k hp h3) (z5y hn _)) rfl
theorem Cok.wish {Γ:Gm}{X:Cx}{r:Nat}(k:Cok Γ Κ Φ X r)(E:Value->ac->Prop):Cok Γ Κ Φ (X.wish E) r:=⟨k.hN,k.hs,k.nd,k.fn,k.kind,k.free,k.fns,k.cst,k.fnx,k.room,k.calm,k.hu,k.fun_,k.fx0,fun n c z=>by obtain⟨a,oe,C,h1,h2,h3,h4⟩:=k.xc n c z;exact⟨a,oe,C,h1,fun p σ H s I=>h2 p σ H s I.unwish,h3,h4⟩,k.xk⟩
theorem zlm {j:Nat}{s:S}(is:Ss Κ Φ s):Ss Κ Φ (.frz j s):=Ss.x (fun Γ X r st k hp h=>PS.imp (is.R Γ X r st k hp h) fun D σ H zz=>by obtain⟨ρ,F,out,so,e,q⟩:=zz;exact⟨_,F.drop j,out,so.frz j,e,z4l.back (F:=F) (H:=H) (Run.of rfl rfl rfl) (Frm.drop (Same.refl _)) q⟩) rfl
theorem zlz {i:Nat}{a:C}{b:S}(ib:Ss Κ Φ b):Ss Κ Φ (.dpp i a b):=⟨fun _ _ _ _ _ _ h=>ff rfl h,fun Γ X r st k hp h=>by
 cases st with
 |nil=>cases h
 |cons s st=>obtain⟨h9,h8⟩:=and2 h;obtain⟨c,hv,h10⟩:=z05 h9;obtain⟨p,rfl⟩:=q_Ex hv;obtain⟨⟨x,n,es,b2⟩,hm,h7⟩:=z05 h10;obtain⟨ap,cp,rfl,hb⟩:=q_Mt hm;obtain⟨h0,h2⟩:=and2 h7;obtain⟨h3,h4,h5⟩:=and3 h0;obtain⟨z,q,hz,k1⟩:=z3o h3;cases hz;obtain⟨y,hy,h6⟩:=z05 h2;cases z4v hy;cases nz h4;obtain⟨g1,g2⟩:=and2 h6;obtain⟨v1,v2,v3,v4⟩:=k.vis k1;exact zka v1 v2 v3 v4 ((all a).E Γ X r _ k g2) (ib.L Γ X r _ k hp h8) (z1k g1) (hb.symm.trans h5)⟩
theorem zir (s:S):Ss Κ Φ s:=by
 induction s with
 |nil=>exact⟨fun _ _ _ _ _ _ h=>ff rfl h,fun Γ X r st k hp h=>by cases z1w h;exact zkt⟩
 |seq a b ia ib=>
  refine⟨fun _ _ _ _ _ _ h=>ff rfl h,fun Γ X r st k hp h=>?_⟩;cases st with
  |nil=>cases h
  |cons s st=>exact zl6 (ia.R Γ X r _ k hp (and2 h).1) (ib.L Γ X r _ k hp (and2 h).2)
 |bad=>refine Ss.x (fun Γ X r st k hp h=>?_) rfl;intro pins s σ H D I q;obtain⟨ρ,F,out,so,e,_⟩:=q;cases e
 |asg=>exact zil
 |dap=>exact⟨fun _ _ _ _ _ _ h=>ff rfl h,fun _ _ _ _ _ _ h=>ff rfl h⟩
 |dpp _ _ _ ib=>exact zlz ib
 |frz _ _ is=>exact zlm is
 | «mut»=>exact zjf
 |ret=>exact zjl
 |ifS _ _ _ ia ib=>exact q_if ia ib
 |for_ _ _ _ ib=>exact zgw ib
 |_=>exact Ss.x (fun _ _ _ _ _ _ h=>ff rfl h) rfl
theorem sL (Κ:List D)(Φ:List Fn)(s:S):∀(Γ:Gm) (X:Cx) (r:Nat) (st:List Stmt),Cok Γ Κ Φ X r->i6 (model X.prog X.w) X.A X.env X.xe->chkL Γ s st=true->PSs X st (tDS X.K (evS Κ Φ s)):=(zir s).L
end
section
variable (Κ:List D)(Φ:List Fn)
variable {Κ Φ}
end
section
variable {P:aq}{w:World}{K:W.Frag}{mg:Str->Option Value}{base:Heap}
structure Dok (Γ:Gm)(Κ:List D)(Φ:List Fn)(P:aq)(w:World)(K:W.Frag)(mg:Str->Option Value)(base:Heap)(k:Nat):Prop where
 free:∀x,Γ.free.contains x=true->mg x=none
 fns:∀(j:Nat) f n,Γ.fns[j]?=some (f,n)->∃m k' ps,Φ[j]?=some m/\k'<=k/\Cal P w K mg base k' f ps (spD K n m)
 cst:∀(j:Nat) x,Γ.cst[j]?=some x->∃d a,Κ[j]?=some d/\mg x=some (.ref a)/\∀H B,B none->Rep K H B (.ref a) d
 fnx:∀(j:Nat) f n,Γ.fns[j]?=some (f,n)->∃m k' ps,Φ[j]?=some m/\k'<=k/\CalX P w K mg base k' f ps n m
 xk:Xok Γ K mg
theorem z9l {H:Hp}{A:Ad->Prop}{vs:List V}{ds:List D}{n:Nat}(r:Reps K H A vs ds):StOk K ⟨H,fun a=>H a=none\/A (some a),fun _=>none,A none⟩ H (vs.map some++bo (n-vs.length) none) (ds.map (fun d=>some (.od,d))++bo (n-ds.length) none) where
 ext:=Same.refl H
 vis:=fun a e=>.inl e
 own:=fun a i e=>by cases e
 len:=by have:=r.length;simp only[a0,aw,b9];omega
 sl:=fun i g d e=>by
  rw[ir]at e;split at e
  ·rename_i hi;rw[a9]at e;cases h1:ds[i]? with
   |none=>rw[h1]at e;cases e
   |some d'=>
    rw[h1]at e;cases e;obtain⟨v,h2,h3⟩:=Reps.get r h1;refine⟨v,?_,?_⟩
    ·rw[ir,if_pos (by rw[aw,r.length];rw[aw]at hi;exact hi),a9,h2];rfl
    ·refine(Rep.there _ h3).weak fun a h=>?_;cases a with
     |none=>exact h.1
     |some a=>exact⟨fun z=>h.2 z,.inr h.1⟩
  ·rw[d9]at e;split at e<;>cases e
theorem d_fn {Γ:Gm}{Κ:List D}{Φ:List Fn}{x:Str}{st:Stmt}{ps:List Str}{k:Nat}{s:S}{f:Addr}{fd:dq}(Fu:Fun K x x st f fd)(Sc:FnScope Γ.N ps (z06 st))(hs:Γ.sc=z06 st)(hb:Γ.blk=false)(hxc:Γ.xc=none)(dk:Dok Γ Κ Φ P w K mg base k)(hc:chkL Γ s (z0j st)=true):
  FnOk P w K mg base CX0 (k+1) f fd ps (spD K ps.length (runD Κ Φ Γ.N.length s)):=by
 refine Fu.ok Sc (fun vs H Q E h=>h.choose_spec.choose_spec.choose_spec.1) fun cdv A outer s1 H vs Q E hr hsp=>?_;obtain⟨B,ds,r,hl,rs,e,q⟩:=hsp;refine⟨_,sL Κ Φ s Γ (cxOf CX0 P w K mg base Γ.N x (z06 st) f cdv A outer s1 H E).nox k _ ⟨rfl,hs.symm,Sc.nd,fun _ _=>rfl,by rw[hs];exact Sc.kind,dk.free,dk.fns,dk.cst,dk.fnx,fun _=>hr,fun _=>rfl,hr.units,fun _=>⟨rfl,rfl⟩,fun _=>rfl,fun _ _ z=>(by rw[hxc]at z;cases z),dk.xk⟩ PassesOwn.never hc,?_⟩;unfold runD at e;have so:=z9l (n:=Γ.N.length) rs;have hd:ds.length=vs.length:=(rs.length).symm;generalize ho:evS Κ Φ s (ds.map (fun d=>some (.od,d))++bo (Γ.N.length-ds.length) none)=out at e
 match out,ho,e with
 |.ok (.nx ρ'),ho,e=>cases e;refine⟨_,_,_,so,ho,fun σ' H' F' so' ru fr=>q .non H' (fun a o e=>(fr a o e rfl).1) rfl⟩
 |.ok (.rt g d),ho,e=>
  cases e;refine⟨_,_,_,so,ho,fun v H' hk rv=>q v H' hk (rv.weak fun a h=>?_)⟩;cases g with
  |fr=>cases a<;>exact h
  |nu=>cases a<;>exact h
  |od=>cases a with
   |none=>exact .inr h
   |some a=>exact(show H a=none\/B (some a)from h).elim .inl fun z=>.inr z
  |al=>cases a with
   |none=>exact .inr h
   |some a=>exact(show H a=none\/B (some a)from h).elim .inl fun z=>.inr z
 |.exc _,ho,e=>cases e
 |.no,ho,e=>cases e
theorem zjr {Γ:Gm}{Κ:List D}{Φ:List Fn}{x:Str}{st:Stmt}{ps:List Str}{k:Nat}{s:S}{f:Addr}{fd:dq}(Fu:Fun K x x st f fd)(Sc:FnScope Γ.N ps (z06 st))(hs:Γ.sc=z06 st)(hb:Γ.blk=false)(hxc:Γ.xc=none)(dk:Dok Γ Κ Φ P w K mg base k)(hc:chkL Γ s (z0j st)=true):
  FnOk P w K mg base (CXE P w base) (k+1) f fd ps (spX K mg ps.length (runD Κ Φ Γ.N.length s)):=by
 obtain⟨oc,od,kV,doc,pm,an,cdv,ct,osl,rfl,lk,hcd⟩:=Fu.ex;refine zhu lk hcd Sc (fun vs H Q E h=>h.choose_spec.choose_spec.choose_spec.1) fun A outer s1 H vs Q E hr hsp=>?_;obtain⟨B,ds,c,hl,rs,e,q⟩:=hsp;unfold runD at e;split at e<;>cases e
theorem z6u {K:W.Frag}{H:Hp}{a:Addr}{ns:List Int}(h:SqL K H a (ns.map V.int)):Reps K H (fun _=>True) [.ref a] [.list (ns.map .int)]:=by
 refine⟨_,_,rfl,⟨a,ns.map V.int,rfl,?_,?_⟩,rfl⟩
 ·rcases h with(h|h)|h
  ·exact .inl ⟨h,trivial⟩
  ·exact .inr ⟨.inl h,trivial⟩
  ·exact .inr ⟨.inr h,trivial⟩
 ·clear h
  induction ns with
  |nil=>rfl
  |cons n ns ih=>exact⟨_,_,rfl,rfl,ih⟩
end
section
variable {X:Cx}{pins:List (Addr×Obj)}{σ:L2.St}{H:Hp}{s:ac}{i:Nat}{n:Str}{a:Addr}{oe:Obj}
end
section
variable {P:aq}{w:World}{K:W.Frag}{mg:Str->Option Value}{base:Heap}
end
section
variable {X:Cx}{pins:List (Addr×Obj)}{σ:L2.St}{H:Hp}{s:ac}{i j:Nat}{n y c:Str}{r:Bool}
end
end Mi
namespace Mi
open PySem
structure Gd where
 kf:Nat
 args:C
 c:Str
 i:Nat
 j:Nat
 g:Str
 r:Bool
end Mi
namespace Mi
open PySem PySem.Spec PyProof.Rows L2
section
variable {X:Cx}{i j:Nat}{n y c:Str}
end
section
variable {P:aq}{w:World}{K:W.Frag}{mg:Str->Option Value}{base:Heap}
end
structure XR where
 c:Str
 cs:List (Str×Bool)
 B:Str
def XR.subs (r:XR):List (Str×Str×Bool):=(r.c,"ValueError",true)::r.cs.map fun y=>(r.c,y.1,y.2)
def z9q (K:W.Frag)(A:Addr):List (Str×Bool)->Prop
 | []=>True
 |y::l=>(∃D dd cd sl,W.nsIn K bj y.1=some (some (.ref D))/\K.lookup D=some ⟨.type "type",dd,.cls cd,sl⟩/\W.subIn K (.ref A) (.ref D)=some y.2)/\z9q K A l
structure Kx (K:W.Frag)(r:XR)(A D:Addr):Prop where
 a:W.nsIn K bj r.c=some (some (.ref A))
 l:∃dd cd sl,K.lookup A=some ⟨.type "type",dd,.cls cd,sl⟩
 e:W.excIn K A [.type "ValueError",.type "Exception",.type "BaseException",.type "object"] "ValueError.__new__"=true
 cl:W.findIn K (.ref A) "__class__"=some (some (.builtin "object.__class__"))
 ga:W.findIn K (.ref A) "__getattribute__"=some (some (.builtin "BaseException.__getattribute__"))
 gt:W.findIn K (.ref A) "__getattr__"=some none
 ob:W.subIn K (.ref A) (.type "object")=some true
 be:W.subIn K (.ref A) (.type "BaseException")=some true
 v:W.subIn K (.ref A) (.type "ValueError")=some true
 b:W.nsIn K bj r.B=some (some (.ref D))
 f:W.excIn K D [.type "ValueError",.type "Exception",.type "BaseException",.type "object"] "ValueError.__new__"=true
 s:W.subIn K (.ref A) (.ref D)=some true
 cs:z9q K A r.cs
def kxs (K:W.Frag):List XR->Prop
 | []=>True
 |r::l=>(∃A D,Kx K r A D)/\kxs K l
theorem z67 {K:W.Frag}:∀{l:List XR} {r:XR},kxs K l->r∈l->∃A D,Kx K r A D
 | [],_,_,z=>nomatch z
 |_::_,_,h,.head _=>h.1
 |_::_,_,h,.tail _ z=>z67 h.2 z
theorem z61 {K:W.Frag}{A:Addr}:∀{l:List (Str×Bool)} {y:Str×Bool},z9q K A l->y∈l->∃D dd cd sl,W.nsIn K bj y.1=some (some (.ref D))/\K.lookup D=some ⟨.type "type",dd,.cls cd,sl⟩/\W.subIn K (.ref A) (.ref D)=some y.2
 | [],_,_,z=>nomatch z
 |_::_,_,h,.head _=>h.1
 |_::_,_,h,.tail _ z=>z61 h.2 z
theorem z5v {K:W.Frag}{D:Addr}{dd:Option Addr}{cd:ClassData}{sl:Array (Option Value)}(l:K.lookup D=some ⟨.type "type",dd,.cls cd,sl⟩):W.typeIn K (.ref D)=some (.type "type")/\(W.clsIn K D).isSome=true:=by
 refine⟨?_,?_⟩
 ·show(K.lookup D).map (·.cls)=_;rw[l];rfl
 ·unfold W.clsIn;rw[l];rfl
theorem zfe {Γ:Gm}{K:W.Frag}{h:Heap}{mg:Str->Option Value}{xt:List XR}(X:K.In h)(G:h.Ns bj mg)(hk:kxs K xt)(hz:xt≠[]->mg "ValueError"=none)(h1:Γ.sub=(xt.map XR.subs).flatten)(h2:Γ.rs=xt.map (·.c))(h3:Γ.hnd=xt.map fun r=>(r.c,r.B)):Xok Γ K mg:=by
 refine⟨fun c C b z=>?_,fun c z=>?_,fun c B z=>?_⟩
 ·rw[h1]at z;obtain⟨l,hl,z⟩:=List.mem_flatten.mp (ce.mp z);obtain⟨r,hr,rfl⟩:=ci.mp hl;obtain⟨A,D,k⟩:=z67 hk hr;obtain⟨dd,cd,sl,kl⟩:=k.l;have xa:XA K A:=⟨k.cl,k.ga,k.gt,k.ob,k.be,(z5v kl).1,(z5v kl).2,k.e⟩;rcases bc.mp z with e|z
  ·cases e;exact⟨A,.ty "ValueError",.type "ValueError",W.mg_of X G k.a,xa,XV.val,k.v,rfl,fun w q=>q,.inr ⟨hz (fun q=>by rw[q]at hr;cases hr),by decide+kernel,by decide⟩⟩
  ·obtain⟨y,hy,e⟩:=ci.mp z;cases e;obtain⟨D',dd',cd',sl',e1,e2,e3⟩:=z61 k.cs hy;exact⟨A,.ref D',.ref D',W.mg_of X G k.a,xa,XV.own (z5v e2).1 (z5v e2).2,e3,rfl,fun w q=>q,.inl (W.mg_of X G e1)⟩
 ·rw[h2]at z;obtain⟨r,hr,rfl⟩:=ci.mp (ce.mp z);obtain⟨A,D,k⟩:=z67 hk hr;exact⟨A,W.mg_of X G k.a,k.e⟩
 ·rw[h3]at z;obtain⟨r,hr,e⟩:=ci.mp (ce.mp z);cases e;obtain⟨A,D,k⟩:=z67 hk hr;exact⟨A,D,W.mg_of X G k.a,W.mg_of X G k.b,k.e,k.f,k.s⟩
inductive Kd where
 |n
 |e (c:Str) (r:Bool)
 |g (d:Gd) (je:Nat)
structure DRow where
 nm:Str
 st:Stmt
 N:List Str
 ps:List Str
 free:List Str
 fns:List Nat
 s:S
 F:Fn
 kd:Kd
 kc:List (Str×List Str):=[]
def cD (y:Str×List Str):D:=.tuple (y.2.map .str)
def sig (Rs:List DRow)(j:Nat):Str×Nat:=match Rs[j]? with
 |some c=>(c.nm,c.ps.length)
 |none=>("",0)
def fnAt (Rs:List DRow)(j:Nat):Fn:=match Rs[j]? with
 |some c=>c.F
 |none=>fun _=>.no
def DRow.G (Rs:List DRow)(xt:List XR)(r:DRow):Gm:={N:=r.N,sc:=z06 r.st,free:=r.free,fns:=r.fns.map (sig Rs),cst:=r.kc.map (·.1),sub:=(xt.map XR.subs).flatten,rs:=xt.map (·.c),hnd:=xt.map fun r=>(r.c,r.B)}
def Kd.isE:Kd->Bool
 |.e _ _=>true
 |_=>false
def nE (Rs:List DRow)(j:Nat):Bool:=match Rs[j]? with
 |some c=>!c.kd.isE
 |none=>true
def DRow.part (Rs:List DRow)(xt:List XR)(i:Nat)(r:DRow):Bool:=match r.kd with
 |.n=>chkL (r.G Rs xt) r.s (z0j r.st)
 |.e _ _=>false
 |.g _ _=>false
def DRow.ok (Rs:List DRow)(xt:List XR)(fr:List Str)(i:Nat)(r:DRow):Bool:=
 (decide ((z06 r.st).kind=.function)&& !(z06 r.st).isCoroutine&& !(z06 r.st).isGenerator&&decide r.N.Nodup&&decide (r.N.take r.ps.length=r.ps))&&
 (r.ps.all (fun x=>(z06 r.st).names.lookup x==some .local||(z06 r.st).names.lookup x==some .cell)&&(z06 r.st).names.all (fun y=>!(y.2==.free))&&r.free.all (fun x=>fr.contains x)&&r.fns.all (fun j=>decide (j<i)&&nE Rs j)&&r.part Rs xt i)
def oks (Rs:List DRow)(xt:List XR)(fr:List Str):Nat->List DRow->Bool
 |_,[]=>true
 |i,r::l=>r.ok Rs xt fr i&&oks Rs xt fr (i+1) l
def DRow.fOk (Rs:List DRow)(r:DRow):Prop:=match r.kd with
 |.n=>r.F=runD (r.kc.map cD) (r.fns.map (fnAt Rs)) r.N.length r.s
 |.e _ _=>True
 |.g _ _=>True
def fOks (Rs:List DRow):List DRow->Prop
 | []=>True
 |r::l=>r.fOk Rs/\fOks Rs l
theorem z8c {Rs:List DRow}{xt:List XR}{fr:List Str}:∀{l:List DRow} {k i:Nat} {r:DRow},oks Rs xt fr k l=true->l[i]?=some r->r.ok Rs xt fr (k+i)=true
 | [],_,i,_,_,e=>by simp at e
 |r::l,k,0,_,h,e=>by cases e;exact(and2 h).1
 |r::l,k,i+1,_,h,e=>by
  have:=z8c (k:=k+1) (and2 h).2 (show l[i]?=some _ from e)
  rwa [show k+(i+1)=k+1+i by omega]
theorem z53 {Rs:List DRow}:∀{l:List DRow} {i:Nat} {r:DRow},fOks Rs l->l[i]?=some r->r.fOk Rs
 | [],i,_,_,e=>by simp at e
 |r::l,0,_,h,e=>by cases e;exact h.1
 |r::l,i+1,_,h,e=>z53 h.2 (show l[i]?=some _ from e)
section
variable {P:aq}{w:World}{K:W.Frag}{mg:Str->Option Value}{base:Heap}{Rs:List DRow}{xt:List XR}{fr:List Str}
theorem z31 {r:DRow}{i:Nat}(h:r.ok Rs xt fr i=true):FnScope (r.G Rs xt).N r.ps (z06 r.st)/\(∀x,r.free.contains x=true->fr.contains x=true)/\(∀j∈r.fns,j<i/\nE Rs j=true)/\r.part Rs xt i=true:=by
 obtain⟨h1,h2⟩:=and2 h;obtain⟨a1,a2,a3,a4,a5⟩:=and5 h1;obtain⟨b1,b2,b3,b4,b5⟩:=and5 h2;refine⟨⟨np a1,z1k a2,z1k a3,np a4,np a5,fun x hx=>?_,fun y hy z=>?_⟩,fun x hx=>?_,fun j hj=>⟨np (and2 (bp.mp b4 j hj)).1,(and2 (bp.mp b4 j hj)).2⟩,b5⟩
 ·rcases db.mp (bp.mp b1 x hx)with q|q
  ·exact .inl (nz q)
  ·exact .inr (nz q)
 ·have :=z1k (bp.mp b2 y hy);rw[z]at this;cases this
 ·exact bp.mp b3 x (ce.mp hx)
def z6e (P:aq)(w:World)(K:W.Frag)(mg:Str->Option Value)(base:Heap)(i:Nat)(r:DRow):Prop:=match r.kd with
 |.e _ _=>True
 |_=>Cal P w K mg base (i+1) r.nm r.ps (spD K r.ps.length r.F)/\CalX P w K mg base (i+1) r.nm r.ps r.ps.length r.F
theorem rowN {j:Nat}{c:DRow}(h:z6e P w K mg base j c)(e:Rs[j]?=some c)(n:nE Rs j=true):Cal P w K mg base (j+1) c.nm c.ps (spD K c.ps.length c.F)/\CalX P w K mg base (j+1) c.nm c.ps c.ps.length c.F:=by
 unfold nE at n;rw[e]at n;have n:(!c.kd.isE)=true:=n;unfold z6e at h;cases hk:c.kd with
 |n=>rw[hk]at h;exact h
 |g d je=>rw[hk]at h;exact h
 |e x b=>rw[hk]at n;cases n
def zab (K:W.Frag)(mg:Str->Option Value)(y:Str×List Str):Prop:=∃a,mg y.1=some (.ref a)/\∀H B,B none->Rep K H B (.ref a) (cD y)
theorem z8f {r:DRow}{i:Nat}(hr:Rs[i]?=some r)(h:r.ok Rs xt fr i=true)(T:∀x∈fr,mg x=none)(xk:∀Γ:Gm,Γ.sub=(xt.map XR.subs).flatten->Γ.rs=xt.map (·.c)->(Γ.hnd=xt.map fun r=>(r.c,r.B))->Xok Γ K mg)(hC:∀y∈r.kc,zab K mg y)(ih:∀j c,j<i->Rs[j]?=some c->z6e P w K mg base j c):Dok (r.G Rs xt) (r.kc.map cD) (r.fns.map (fnAt Rs)) P w K mg base i where
 free:=fun x hx=>T x (ce.mp ((z31 h).2.1 x hx))
 fns:=fun j f n e=>by
  have e:(r.fns.map (sig Rs))[j]?=some (f,n):=e;rw[a9]at e;obtain⟨jj,ej,e⟩:=cz.mp e;obtain⟨hlt,hne⟩:=(z31 h).2.2.1 jj (b7 ej);have hl:i<Rs.length:=(bu.mp hr).1;have hc:Rs[jj]?=some Rs[jj]:=ba (i3 hlt hl);unfold sig at e;rw[hc]at e;cases e;refine⟨fnAt Rs jj,jj+1,Rs[jj].ps,by rw[a9,ej];rfl,hlt,?_⟩;have:fnAt Rs jj=Rs[jj].F:=by unfold fnAt;rw[hc]
  rw[this];exact(rowN (ih jj _ hlt hc) hc hne).1
 cst:=fun j x e=>by have e:(r.kc.map (·.1))[j]?=some x:=e;rw[a9]at e;obtain⟨y,ey,rfl⟩:=cz.mp e;obtain⟨a,h1,h2⟩:=hC y (b7 ey);exact⟨cD y,a,by rw[a9,ey];rfl,h1,h2⟩
 fnx:=fun j f n e=>by
  have e:(r.fns.map (sig Rs))[j]?=some (f,n):=e;rw[a9]at e;obtain⟨jj,ej,e⟩:=cz.mp e;obtain⟨hlt,hne⟩:=(z31 h).2.2.1 jj (b7 ej);have hl:i<Rs.length:=(bu.mp hr).1;have hc:Rs[jj]?=some Rs[jj]:=ba (i3 hlt hl);unfold sig at e;rw[hc]at e;cases e;refine⟨fnAt Rs jj,jj+1,Rs[jj].ps,by rw[a9,ej];rfl,hlt,?_⟩;have:fnAt Rs jj=Rs[jj].F:=by unfold fnAt;rw[hc]
  rw[this];exact(rowN (ih jj _ hlt hc) hc hne).2
 xk:=xk _ rfl rfl rfl
theorem zdw (hok:oks Rs xt fr 0 Rs=true)(hF:fOks Rs Rs)(T:∀x∈fr,mg x=none)(xk:∀Γ:Gm,Γ.sub=(xt.map XR.subs).flatten->Γ.rs=xt.map (·.c)->(Γ.hnd=xt.map fun r=>(r.c,r.B))->Xok Γ K mg)(n:Nat)(hC:∀r∈Rs,∀y∈r.kc,zab K mg y)(O:∀i r,i<n->Rs[i]?=some r->Own K mg r.nm r.st r.ps):∀i r,i<n->Rs[i]?=some r->z6e P w K mg base i r:=by
 intro i
 induction i using Nat.strongRecOn with
 |ind i ih=>
  intro r hi hr
  have ho:r.ok Rs xt fr i=true:=by
   have:=z8c hok hr
   rwa [Nat.zero_add]at this
  have ih:∀j c,j<i->Rs[j]?=some c->z6e P w K mg base j c:=fun j c hj hc=>ih j hj c (i3 hj hi) hc;have D:=z8f (P:=P) (w:=w) (K:=K) (base:=base) hr ho T xk (hC r (b7 hr)) ih;obtain⟨Sc,hfr,_,hp⟩:=z31 ho;have hf:=z53 hF hr;obtain⟨f,fd,Fu,m,kp,b⟩:=O i r hi hr;unfold DRow.fOk at hf;unfold DRow.part at hp;unfold z6e;cases hk:r.kd with
  |n=>rw[hk]at hf hp;have hf:r.F=_:=hf;show _/\_;rw[hf];exact⟨⟨f,fd,d_fn (Γ:=r.G Rs xt) Fu Sc rfl rfl rfl D hp,m,kp,b⟩,⟨f,fd,zjr (Γ:=r.G Rs xt) Fu Sc rfl rfl rfl D hp,m,kp,b⟩⟩
  |e c bb=>rw[hk]at hp;cases hp
  |g d je=>rw[hk]at hp;cases hp
end
def Kf (K:W.Frag)(r:DRow)(f:Addr)(fd:dq):Prop:=W.nsIn K bj r.nm=some (some (.ref f))/\∃(oc:Value) (od an:Option Addr) (sl:Array (Option Value)) (kV dc pm cd ct:Value),fd=W.fnOf r.nm r.nm (z0y r.st) (z0j r.st) (z06 r.st) .none kV dc pm an cd ct/\K.lookup f=some ⟨oc,od,.func fd,sl⟩/\W.codeIn K cd r.nm=true/\W.keepIn K (.ref f)=true
def zdp (r:DRow):Prop:=∀(kV doc pm:Value) (an:Option Addr) (cdv ct:Value) (us:List Value),us.length=r.ps.length->m8 (W.fnOf r.nm r.nm (z0y r.st) (z0j r.st) (z06 r.st) .none kV doc pm an cdv ct) ⟨us,[]⟩=pure (r.ps.zip us)
theorem cut1 {us:List Value}{n:Nat}(h:us.length=n+1):∃a l,us=a::l/\l.length=n:=by
 cases us with
 |nil=>cases h
 |cons a l=>exact⟨a,l,rfl,Nat.succ.inj h⟩
theorem by1 {P:List Value->Prop}(h:∀a,P [a])(us:List Value)(z:us.length=1):P us:=by obtain⟨a,l,rfl,y⟩:=cut1 z;cases List.eq_nil_of_length_eq_zero y;exact h a
theorem by2 {P:List Value->Prop}(h:∀a b,P [a,b])(us:List Value)(z:us.length=2):P us:=by obtain⟨a,l,rfl,y⟩:=cut1 z;exact by1 (P:=fun l=>P (a::l)) (h a) l y
theorem by3 {P:List Value->Prop}(h:∀a b c,P [a,b,c])(us:List Value)(z:us.length=3):P us:=by obtain⟨a,l,rfl,y⟩:=cut1 z;exact by2 (P:=fun l=>P (a::l)) (h a) l y
theorem by4 {P:List Value->Prop}(h:∀a b c d,P [a,b,c,d])(us:List Value)(z:us.length=4):P us:=by obtain⟨a,l,rfl,y⟩:=cut1 z;exact by3 (P:=fun l=>P (a::l)) (h a) l y
def kOks (K:W.Frag):List DRow->Prop
 | []=>True
 |r::l=>((∃f fd,Kf K r f fd)/\zdp r)/\kOks K l
theorem z79 {K:W.Frag}:∀{l:List DRow} {i:Nat} {r:DRow},kOks K l->l[i]?=some r->(∃f fd,Kf K r f fd)/\zdp r
 | [],i,_,_,e=>by simp at e
 |r::l,0,_,h,e=>by cases e;exact h.1
 |r::l,i+1,_,h,e=>z79 h.2 (show l[i]?=some _ from e)
def strOf:Value->Option Str
 |.str x _=>if PyData.strOk x then some x else none
 |_=>none
def ck1 (K:W.Frag)(y:Str×List Str):Bool:=match W.nsIn K bj y.1 with
 |some (some (.ref a))=>(match K.lookup a with
  |some ⟨.type "tuple",none,.seq its _,_⟩=>decide (its.toList.map strOf=y.2.map some)&&decide (y.2.length<=1000)
  |_=>false)
 |_=>false
theorem z5p:∀{us:List Value} {ws:List Str},us.map strOf=ws.map some->Vals (ws.map V.str) us/\∀w∈ws,PyData.strOk w=true
 | [],[],_=>⟨.nil,fun _ h=>by cases h⟩
 | [],_::_,h=>by cases h
 |_::_,[],h=>by cases h
 |u::us,w::ws,h=>by
  obtain⟨h1,h2⟩:=List.cons.inj h;obtain⟨a,b⟩:=z5p h2;cases u with
  |str x t=>
   have h1:(if PyData.strOk x then some x else none)=some w:=h1;split at h1
   ·rename_i hx;cases h1;exact⟨.cons ⟨t,rfl⟩ a,fun z hz=>(bc.mp hz).elim (fun e=>by rw[e];exact hx) (b z)⟩
   ·cases h1
  |_=>cases h1
theorem z5j {K:W.Frag}{H:Hp}{B:Ad->Prop}:∀{ws:List Str},(∀w∈ws,PyData.strOk w=true)->Reps K H B (ws.map V.str) (ws.map PyData.str)
 | [],_=>rfl
 |w::ws,h=>Reps.cons ⟨rfl,h w (.head _)⟩ (z5j fun z hz=>h z (.tail _ hz))
theorem zkb {K:W.Frag}{h:Heap}{mg:Str->Option Value}{y:Str×List Str}(X:K.In h)(G:h.Ns bj mg)(c:ck1 K y=true):zab K mg y:=by
 unfold ck1 at c;split at c
 ·rename_i a ha;split at c
  ·rename_i its n sl hl;obtain⟨c1,c2⟩:=and2 c;obtain⟨v,ok⟩:=z5p (np c1);have hz:its.size<=az:=by have e:=v.length;rw[aw,dv]at e;have:=np c2;rw[f9];omega
   exact⟨a,W.mg_of X G ha,fun H B _=>⟨a,y.2.map V.str,rfl,.inr ⟨_,its,n,hl,rfl,rfl,rfl,hz,v⟩,z5j ok⟩⟩
  ·cases c
 ·cases c
theorem all_rows {l:W.OpenLaw}{w:World}{K:W.Frag}{h:Heap}{mg:Str->Option Value}{fa:Addr}{Rs:List DRow}{lr:DRow}{xt:List XR}{fr:List Str}{x:Str}(X:K.In h)(G:h.Ns bj mg)(hfa:mg lr.nm=some (.ref fa))(hx:lr.ps=[x])(hkd:lr.kd=.n)(hok:oks (Rs++[lr]) xt fr 0 (Rs++[lr])=true)(hF:fOks (Rs++[lr]) (Rs++[lr]))(hK:kOks K Rs)(kl:∃f fd,Kf K lr f fd)
  (hb:∀(kV dc pm:Value) (an:Option Addr) (cd ct:Value) (s:ac) (v:Value),la s (W.fnOf lr.nm lr.nm (z0y lr.st) (z0j lr.st) (z06 lr.st) .none kV dc pm an cd ct) ⟨[v],[]⟩ [(x,v)]) (hz:∀n∈fr,W.nsIn K bj n=some none) (hkx:kxs K xt) (hv:xt≠[]->("ValueError":Str)∈fr) (hC:∀r∈Rs++[lr],∀y∈r.kc,ck1 K y=true):
  ∃fd:dq,(∀(s:ac) (v:Value),la s fd ⟨[v],[]⟩ [(x,v)])/\∀base:Heap,K.In base->base.Ns bj mg->FnOk l.prog w K mg base CX0 (Rs.length+1) fa fd [x] (spD K 1 lr.F):=by
 obtain⟨f,fd,a,oc,od,an,sl,kV,dc,pm,cd,ct,rfl,lk,hc,hk⟩:=kl;have e:=hfa.symm.trans (W.mg_of X G a);cases e;have T:∀n∈fr,mg n=none:=fun n hn=>W.mg_none_of X G (hz n hn);have hr:(Rs++[lr])[Rs.length]?=some lr:=by rw[cy (ag _),mq];rfl
 have ho:lr.ok (Rs++[lr]) xt fr Rs.length=true:=by
  have:=z8c hok hr
  rwa [Nat.zero_add]at this
 refine⟨_,fun s v=>hb kV dc pm an cd ct s v,fun base _ _=>?_⟩;have O:∀i r,i<Rs.length->(Rs++[lr])[i]?=some r->Own K mg r.nm r.st r.ps:=fun i r hi e=>by rw[e9 hi]at e;obtain⟨⟨f,fd,a,oc,od,an,sl,kV,dc,pm,cd,ct,rfl,lk,hc,hk⟩,hb⟩:=z79 hK e;exact zg3 X G a lk hc hk hb
 have xk:∀Γ:Gm,Γ.sub=(xt.map XR.subs).flatten->Γ.rs=xt.map (·.c)->(Γ.hnd=xt.map fun r=>(r.c,r.B))->Xok Γ K mg:=fun Γ h1 h2 h3=>zfe X G hkx (fun z=>T _ (hv z)) h1 h2 h3;have hC:∀r∈Rs++[lr],∀y∈r.kc,zab K mg y:=fun r hr y hy=>zkb X G (hC r hr y hy);have D:=z8f (P:=l.prog) (w:=w) (K:=K) (base:=base) hr ho T xk (hC lr (am _ (.head _))) fun j c hj hc=>zdw hok hF T xk Rs.length hC O j c hj hc;have hp:=(z31 ho).2.2.2;have hf:=z53 hF hr;unfold DRow.part at hp;unfold DRow.fOk at hf;rw[hkd]at hp hf;have:=d_fn (Γ:=lr.G (Rs++[lr]) xt) (z9h (st:=lr.st) lk hc hk) (z31 ho).1 rfl rfl rfl D hp;have e2:runD (lr.kc.map cD) (List.map (fnAt (Rs++[lr])) lr.fns) (lr.G (Rs++[lr]) xt).N.length lr.s=lr.F:=hf.symm;rw[e2,hx]at this;exact this
end Mi
namespace Mi
open PySem PySem.Spec PyProof.Rows L2
def kf1 (K:W.Frag)(r:DRow):Option (dq×Bool):=match W.nsIn K bj r.nm with
 |some (some (.ref f))=>(match K.lookup f with
  |some ⟨_,_,.func fd,_⟩=>some (fd,W.codeIn K fd.code r.nm&&W.keepIn K (.ref f))
  |_=>none)
 |_=>none
def kf2 (r:DRow)(x:dq×Bool):dq×Bool:=(W.fnOf r.nm r.nm (z0y r.st) (z0j r.st) (z06 r.st) .none x.1.kwdefaults x.1.doc x.1.pyModule x.1.annotations x.1.code x.1.closureTuple,true)
def isC (K:W.Frag)(A:Addr):Bool:=match K.lookup A with
 |some ⟨.type "type",_,.cls _,_⟩=>true
 |_=>false
def MROX:List Value:=[.type "ValueError",.type "Exception",.type "BaseException",.type "object"]
def kx1 (K:W.Frag)(r:XR):Option (Bool×Bool×Option (Option Value)×Option (Option Value)×Option (Option Value)×Option Bool×Option Bool×Option Bool×Bool×Option Bool×List (Bool×Option Bool)):=match W.nsIn K bj r.c,W.nsIn K bj r.B with
 |some (some (.ref A)),some (some (.ref D))=>some (isC K A,W.excIn K A MROX "ValueError.__new__",W.findIn K (.ref A) "__class__",W.findIn K (.ref A) "__getattribute__",W.findIn K (.ref A) "__getattr__",W.subIn K (.ref A) (.type "object"),W.subIn K (.ref A) (.type "BaseException"),W.subIn K (.ref A) (.type "ValueError"),W.excIn K D MROX "ValueError.__new__",W.subIn K (.ref A) (.ref D),r.cs.map fun y=>match W.nsIn K bj y.1 with
  |some (some (.ref E))=>(isC K E,W.subIn K (.ref A) (.ref E))
  |_=>(false,none))
 |_,_=>none
def kx2 (r:XR):Option (Bool×Bool×Option (Option Value)×Option (Option Value)×Option (Option Value)×Option Bool×Option Bool×Option Bool×Bool×Option Bool×List (Bool×Option Bool)):=some (true,true,some (some (.builtin "object.__class__")),some (some (.builtin "BaseException.__getattribute__")),some none,some true,some true,some true,true,some true,r.cs.map fun y=>(true,some y.2))
theorem zc7 {K:W.Frag}{A:Addr}(h:isC K A=true):∃dd cd sl,K.lookup A=some ⟨.type "type",dd,.cls cd,sl⟩:=by
 unfold isC at h;split at h
 ·rename_i dd cd sl e;exact⟨dd,cd,sl,e⟩
 ·cases h
theorem z7n {K:W.Frag}{A:Addr}:∀{l:List (Str×Bool)},(l.map fun y=>match W.nsIn K bj y.1 with
  |some (some (.ref E))=>(isC K E,W.subIn K (.ref A) (.ref E))
  |_=>(false,none))=(l.map fun y=>(true,some y.2))->z9q K A l
 | [],_=>trivial
 |y::l,h=>by
  have h:=List.cons.inj h;refine⟨?_,z7n h.2⟩;have e:=h.1
  dsimp only at e
  split at e
  ·rename_i E hE;have e:=Prod.mk.inj e;obtain⟨dd,cd,sl,q⟩:=zc7 e.1;exact⟨E,dd,cd,sl,hE,q,e.2⟩
  ·cases(Prod.mk.inj e).1
theorem zfq {K:W.Frag}{r:XR}(h:kx1 K r=kx2 r):∃A D,Kx K r A D:=by
 unfold kx1 kx2 at h;split at h
 ·rename_i A D hA hD;have h:=Prod.mk.inj (Option.some.inj h);have h2:=Prod.mk.inj h.2;have h3:=Prod.mk.inj h2.2;have h4:=Prod.mk.inj h3.2;have h5:=Prod.mk.inj h4.2;have h6:=Prod.mk.inj h5.2;have h7:=Prod.mk.inj h6.2;have h8:=Prod.mk.inj h7.2;have h9:=Prod.mk.inj h8.2;have h10:=Prod.mk.inj h9.2;exact⟨A,D,hA,zc7 h.1,h2.1,h3.1,h4.1,h5.1,h6.1,h7.1,h8.1,hD,h9.1,h10.1,z7n h10.2⟩
 ·cases h
theorem zcd {K:W.Frag}:∀{l:List XR},(∀r∈l,∃A D,Kx K r A D)->kxs K l
 | [],_=>trivial
 |r::_,h=>⟨h r (.head _),zcd fun r hr=>h r (.tail _ hr)⟩
def KEq (K:eo->W.Frag)(Rs:List DRow)(fr:List Str)(xt:List XR):Prop:=∀P,(Rs.map fun r=>(kf1 (K P) r).isSome,Rs.map fun r=>kf1 (K P) r,fr.map fun n=>W.nsIn (K P) bj n,xt.map fun r=>kx1 (K P) r,Rs.map fun r=>r.kc.map fun y=>ck1 (K P) y)=(Rs.map fun _=>true,Rs.map fun r=>(kf1 (K P) r).map (kf2 r),fr.map fun _=>some none,xt.map kx2,Rs.map fun r=>r.kc.map fun _=>true)
theorem KEq_r:KEq=KEq:=rfl
theorem zfz {K:W.Frag}{r:DRow}(h:(kf1 K r).isSome=true)(e:kf1 K r=(kf1 K r).map (kf2 r)):∃f fd,Kf K r f fd:=by
 cases z:kf1 K r with
 |none=>rw[z]at h;cases h
 |some x=>
  rw[z]at e;have e:x=kf2 r x:=Option.some.inj e;unfold kf1 at z;split at z
  ·rename_i f hf;split at z
   ·rename_i oc od fd sl hl;have z:=Option.some.inj z;have z1:fd=x.1:=congrArg Prod.fst z;have z2:(W.codeIn K fd.code r.nm&&W.keepIn K (.ref f))=x.2:=congrArg Prod.snd z;have e1:x.1=(kf2 r x).1:=congrArg Prod.fst e;have e2:x.2=true:=congrArg Prod.snd e;rw[e2]at z2;have z3:=ao.mp z2;subst z1;exact⟨f,x.1,hf,oc,od,x.1.annotations,sl,x.1.kwdefaults,x.1.doc,x.1.pyModule,x.1.code,x.1.closureTuple,e1,hl,z3.1,z3.2⟩
   ·cases z
  ·cases z
theorem z4f {K:eo->W.Frag}{Rs:List DRow}{fr:List Str}{xt:List XR}(h:KEq K Rs fr xt)(P:eo):(∀r∈Rs,∃f fd,Kf (K P) r f fd)/\(∀n∈fr,W.nsIn (K P) bj n=some none)/\kxs (K P) xt/\∀r∈Rs,∀y∈r.kc,ck1 (K P) y=true:=by have a:=Prod.mk.inj (h P);have b:=Prod.mk.inj a.2;have c:=Prod.mk.inj b.2;have d:=Prod.mk.inj c.2;exact⟨fun r hr=>zfz (fu.mp a.1 r hr) (fu.mp b.1 r hr),fun n hn=>fu.mp c.1 n hn,zcd fun r hr=>zfq (fu.mp d.1 r hr),fun r hr=>fu.mp (fu.mp d.2 r hr)⟩
def bOks:List DRow->Prop
 | []=>True
 |r::l=>zdp r/\bOks l
theorem z7p {K:W.Frag}:∀{l:List DRow},(∀r∈l,∃f fd,Kf K r f fd)->bOks l->kOks K l
 | [],_,_=>trivial
 |r::_,h,b=>⟨⟨h r (.head _),b.1⟩,z7p (fun r hr=>h r (.tail _ hr)) b.2⟩
end Mi
name_quick tkeq for Mi.KEq by Mi.KEq_r
namespace Mk
open Mi
section
open PySem
abbrev P:=List (Str×Int)
def pr (p:Str×Int):D:=.tuple [.str p.1,.int p.2]
def pk (l:P):D:=.tuple (l.map pr)
def ep (p:Str×Int):D×D:=(.str p.1,.int p.2)
def en (l:P):Ents:=l.map ep
def fnd:P->Str->Option Int
 | [],_=>none
 |p::l,n=>if p.1=n then some p.2 else fnd l n
def look (l:P)(n:Str):Int:=(fnd l n).getD 0
def ks (l:P):List Str:=l.map (·.1)
def put:P->Str->Int->P
 | [],n,v=>[(n,v)]
 |p::l,n,v=>if p.1=n then(p.1,v)::l else p::put l n v
def sl (a b:Str):Prop:=a.cps.toList<b.cps.toList
theorem z7q (a:Str):¬sl a a:=List.lt_irrefl _
theorem zkk {a b c:Str}(h:sl a b)(k:sl b c):sl a c:=List.lt_trans h k
theorem zfg {a b:Str}(h:a.cps.toList=b.cps.toList):a=b:=by cases a;cases b;simp at h;subst h;rfl
theorem zgt {a b:Str}(h:a≠b):sl a b\/sl b a:=by
 by_cases h1:sl a b
 ·exact .inl h1
 ·by_cases h2:sl b a
  ·exact .inr h2
  ·exact(h (zfg (List.le_antisymm (List.not_lt.mp h2) (List.not_lt.mp h1)))).elim
theorem zm8 {a b:Str}(h:sl a b):a≠b:=fun e=>z7q b (e▸h)
theorem z29 {n:Str}:∀{l:P},n∉ks l->fnd l n=none
 | [],_=>rfl
 |p::l,h=>by simp only[ks,ay,bc,not_or]at h;rw[fnd,if_neg (fun e=>h.1 e.symm)];exact z29 h.2
theorem z3a {n:Str}{v:Int}:∀{l:P},fnd l n=some v->(n,v)∈l
 | [],h=>by cases h
 |p::l,h=>by
  rw[fnd]at h;split at h
  ·rename_i e;cases h;subst e;exact ar
  ·exact bg _ (z3a h)
theorem zdt {n:Str}{v:Int}{l:P}(h:fnd l n=some v):n∈ks l:=ci.mpr ⟨_,z3a h,rfl⟩
theorem z7d:∀{l:P} {p:Str×Int},(ks l).Nodup->p∈l->fnd l p.1=some p.2
 |q::l,p,nd,h=>by
  rw[ks,ay,dw]at nd;rw[fnd];rcases(bc.mp h)with rfl|h
  ·rw[if_pos rfl]
  ·rw[if_neg fun e:q.1=p.1=>nd.1 (ci.mpr ⟨p,h,e.symm⟩)];exact z7d nd.2 h
theorem zib {l:P}{n:Str}(h:n∈ks l):∃v,fnd l n=some v:=by
 cases e:fnd l n with
 |some v=>exact⟨v,rfl⟩
 |none=>
  exfalso
  induction l with
  |nil=>cases h
  |cons p l ih=>
   rw[fnd]at e;split at e
   ·cases e
   ·rename_i hn;rcases bc.mp h with h|h
    ·exact hn h.symm
    ·exact ih h e
theorem z39 (a b:Str):eqK (.str a) (.str b)=decide (a=b):=by simp only[eqK]
theorem zcm (a:Str):isK (.str a)=true:=by simp only[isK]
theorem z64 (n:Str):∀l:P,z19 (en l) (.str n)=(fnd l n).map .int
 | []=>rfl
 |p::l=>by
  have ih:=z64 n l;unfold z19 at ih ⊢;rw[en,ay,fi,fnd];show Option.map _ (match eqK (.str p.1) (.str n)with|true=>_|false=>_)=_;rw[z39];by_cases h:p.1=n
  ·rw[if_pos h];simp[h,ep]
  ·rw[if_neg h];simp only[h,decide_false];exact ih
theorem z7z (n:Str):∀l:P,((en l).any fun e=>eqK e.1 (.str n))=true↔n∈ks l
 | []=>by simp[en,ks]
 |p::l=>by rw[en,ay,d4];show(eqK (.str p.1) (.str n)||_)=true↔_;rw[z39,iy,ks,ay,bc];have:=z7z n l;rw[en,ks]at this;rw[this];simp[eq_comm]
theorem zc9 {n:Str}{v:Int}:∀{l:P},(ks l).Nodup->n∈ks l->(en l).map (fun e=>if eqK e.1 (.str n)then(e.1,.int v)else e)=en (put l n v)
 |p::l,nd,h=>by
  rw[ks,ay,dw]at nd;rw[put,en,ay,ay];show(if eqK (.str p.1) (.str n)=true then _ else _)::_=_;rw[z39];by_cases e:p.1=n
  ·have hn:∀q∈l,¬q.1=n:=fun q hq z=>nd.1 (ci.mpr ⟨q,hq,z.trans e.symm⟩);rw[if_pos e,if_pos (by simpa using e)];rw[en,ay]
   congr 1
   rw[i4];apply li;intro q hq;show(if eqK (.str q.1) (.str n)=true then _ else _)=ep q;rw[z39,if_neg (by simpa using hn q hq)]
  ·rw[if_neg e,if_neg (by simpa using e)];rw[en,ay]
   congr 1
   refine zc9 (l:=l) nd.2 ?_;rcases bc.mp h with h|h
   ·exact(e h.symm).elim
   ·exact h
theorem z5b {n:Str}{v:Int}:∀{l:P},n∉ks l->put l n v=l++[(n,v)]
 | [],_=>rfl
 |p::l,h=>by simp only[ks,ay,bc,not_or]at h;rw[put,if_neg fun e=>h.1 e.symm,z5b h.2];rfl
theorem zeg {n:Str}{v:Int}{l:P}(nd:(ks l).Nodup):dput (en l) (.str n) (.int v)=en (put l n v):=by
 unfold dput;by_cases h:n∈ks l
 ·rw[if_pos ((z7z n l).mpr h)];exact zc9 nd h
 ·rw[if_neg fun z=>h ((z7z n l).mp z),z5b h];simp[en,ep]
theorem z5t:∀(l acc:P),(ks (acc++l)).Nodup->z20 (en acc) (l.map pr)=some (en (acc++l))
 | [],acc,_=>by simp[z20]
 |p::l,acc,nd=>by
  have nd':=nd;rw[ks,cn,ay]at nd;have h1:p.1∉ks acc:=fun z=>by rw[ik]at nd;exact nd.2.2 _ z _ ar rfl
  have h2:(ks acc).Nodup:=by rw[ik]at nd;exact nd.1
  rw[ay];show(if isK (.str p.1)then z20 (dput (en acc) (.str p.1) (.int p.2)) (l.map pr)else none)=_;rw[if_pos (zcm _),zeg h2,z5b h1,z5t l (acc++[(p.1,p.2)]) (by rw[ge];exact nd'),ge];rfl
theorem z9v {l:P}(nd:(ks l).Nodup):z20 [] (l.map pr)=some (en l):=by have:=z5t l [] (by simpa using nd);simpa[en]using this
theorem z5h (l:P):imms (l.map pr)=true:=z1e.mpr fun x hx=>by obtain⟨p,_,rfl⟩:=ci.mp hx;rfl
theorem z4d (l:P):imm (pk l)=true:=z5h l
def lp (p q:Str×Int):Bool:=ltD (pr p) (pr q)
def insP (x:Str×Int):P->P
 | []=>[x]
 |y::ys=>if lp y x then y::insP x ys else x::y::ys
def srt:P->P
 | []=>[]
 |x::xs=>insP x (srt xs)
def Sd (l:P):Prop:=l.Pairwise fun p q=>sl p.1 q.1
theorem zl4 {l:P}(h:Sd l):(ks l).Nodup:=by unfold ks List.Nodup;rw[List.pairwise_map];exact List.Pairwise.imp (fun z=>zm8 z) h
structure PK (l:P):Prop where
 sd:Sd l
 pos:∀p∈l,0<p.2
theorem PK.nd {l:P}(h:PK l):(ks l).Nodup:=zl4 h.sd
theorem PK.nil:PK []:=⟨List.Pairwise.nil,fun _ h=>by cases h⟩
theorem PK.key {l:P}(h:PK l){n:Str}:n∈ks l↔0<look l n:=by
 constructor
 ·intro z;obtain⟨v,e⟩:=zib z;unfold look;rw[e];exact h.pos _ (z3a e)
 ·intro z;unfold look at z;cases e:fnd l n with
  |none=>rw[e]at z;exact absurd z (by decide)
  |some v=>exact zdt e
theorem PK.look_mem {l:P}(h:PK l){p:Str×Int}(hp:p∈l):look l p.1=p.2:=by unfold look;rw[z7d h.nd hp];rfl
theorem PK.ext:∀{a b:P},PK a->PK b->(∀n,look a n=look b n)->a=b
 | [],[],_,_,_=>rfl
 | [],q::b,_,hb,h=>by have:=h q.1;rw[hb.look_mem ar]at this;have z:0<q.2:=hb.pos _ ar;rw[<-this]at z;exact absurd z (Int.lt_irrefl 0)
 |p::a,[],ha,_,h=>by have:=h p.1;rw[ha.look_mem ar]at this;have z:0<p.2:=ha.pos _ ar;rw[this]at z;exact absurd z (Int.lt_irrefl 0)
 |p::a,q::b,ha,hb,h=>by
  have no:∀{x y:Str×Int} {l m:P},PK (x::l)->PK (y::m)->(∀n,look (x::l) n=look (y::m) n)->¬sl x.1 y.1:=fun{x y l m} hx hy h z=>by
   have e:=h x.1;rw[hx.look_mem ar]at e;have k:x.1∈ks (y::m):=hy.key.mpr (e▸hx.pos _ ar);rcases bc.mp k with k|k
   ·exact z7q _ (k▸z)
   ·obtain⟨w,hw,e2⟩:=ci.mp k;have:=(jf.mp hy.sd).1 w hw;rw[e2]at this;exact z7q _ (zkk z this)
  have e1:p.1=q.1:=by
   by_cases e:p.1=q.1
   ·exact e
   ·rcases zgt e with z|z
    ·exact(no ha hb h z).elim
    ·exact(no hb ha (fun n=>(h n).symm) z).elim
  have e2:p.2=q.2:=by have:=h p.1;rw[ha.look_mem ar,e1,hb.look_mem ar]at this;exact this
  have ep':p=q:=Prod.ext e1 e2;subst ep'
  congr 1
  have ta:PK a:=⟨(jf.mp ha.sd).2,fun x hx=>ha.pos x (bg _ hx)⟩;have tb:PK b:=⟨(jf.mp hb.sd).2,fun x hx=>hb.pos x (bg _ hx)⟩;refine PK.ext ta tb fun n=>?_;have hn:=h n;unfold look at hn ⊢;rw[fnd,fnd]at hn;by_cases e:p.1=n
  ·have na:n∉ks a:=by have :=ha.nd;rw[ks,ay,dw]at this;exact e▸this.1
   have nb:n∉ks b:=by have:=hb.nd;rw[ks,ay,dw]at this;exact e▸this.1
   rw[z29 na,z29 nb]
  ·rw[if_neg e,if_neg e]at hn;exact hn
end
section
open PySem
section
variable {Κ:List D}{Φ:List Fn}{ρ:Rho}{a b c t:C}{p q:S}{i:Nat}{f:D->Rho->Res Out}{x:D}{xs:List D}
theorem zhc:evS Κ Φ (.seq p q) ρ=outB (evS Κ Φ p ρ) (evS Κ Φ q):=rfl
theorem z6p:evS Κ Φ (.asg (.nm i) t) ρ=(evE Κ Φ t ρ>>=fun x=>.ok (.nx (ρ.set i (some (z12 x))))):=rfl
theorem R_if:evS Κ Φ (.ifS c p q) ρ=(evT Κ Φ c ρ>>=fun k=>if k then evS Κ Φ p ρ else evS Κ Φ q ρ):=rfl
theorem zc5:evS Κ Φ (.ret (.var i)) ρ=(match ρ[i]? with|some (some (g,d))=>.ok (.rt (if imm d then .fr else rtG g) d)|_=>.no):=rfl
theorem zgo {m:String}:evS Κ Φ (.mut m i a) ρ=(evA Κ Φ a ρ>>=fun ys=>match ρ[i]? with
 |some (some (.fr,.list xs))=>mutD m xs ys>>=fun xs'=>.ok (.nx ((ρ.set i (some (.fr,.list xs'))).map z0m))
 |_=>.no):=rfl
theorem ziv {t':Tg}:evS Κ Φ (.for_ t' a p) ρ=(evF Κ Φ a ρ>>=fun w=>forD (fun x ρ1=>z0s t' (gJ x w.1,x) ρ1>>=fun ρ2=>evS Κ Φ p ρ2) w.2.1 w.2.2):=rfl
theorem zj9:forD f (x::xs) ρ=(match f x ρ with
 |.ok (.nx ρ')=>forD f xs ρ'
 |.ok (.ct ρ')=>forD f xs ρ'
 |.ok (.bk ρ')=>.ok (.nx ρ')
 |.ok (.rt g d)=>.ok (.rt g d)
 |.exc e=>.exc e
 |.no=>.no):=rfl
theorem z6v:evA Κ Φ .nil ρ=.ok []:=rfl
theorem z0z:evA Κ Φ (.cons a b) ρ=(evE Κ Φ a ρ>>=fun x=>evA Κ Φ b ρ>>=fun xs=>.ok (x::xs)):=rfl
theorem O_tv:evO Κ Φ (.tv a) ρ=(evE Κ Φ a ρ>>=fun x=>intO x.2):=rfl
theorem G_tv:evG Κ Φ (.tv a) ρ=(evE Κ Φ a ρ>>=fun x=>z3m x.2>>=fun p=>.ok (x.1,p)):=rfl
theorem T_tv:evT Κ Φ (.tv a) ρ=(evE Κ Φ a ρ>>=fun x=>z11 x.2):=rfl
theorem zkd:evT Κ Φ (.and a b) ρ=(evT Κ Φ a ρ>>=fun c=>if c then evT Κ Φ b ρ else .ok false):=rfl
theorem T_or:evT Κ Φ (.or a b) ρ=(evT Κ Φ a ρ>>=fun c=>if c then .ok true else evT Κ Φ b ρ):=rfl
theorem zis:evT Κ Φ (.not a) ρ=(evT Κ Φ a ρ>>=fun c=>.ok (!c)):=rfl
theorem W_tv:evW Κ Φ (.tv a) ρ=(evE Κ Φ a ρ>>=fun x=>z3c x.2>>=fun xs=>.ok (x.1,xs)):=rfl
theorem zm2:evW Κ Φ (.rng a) ρ=(evA Κ Φ a ρ>>=fun ys=>rngD (ys.map (·.2))>>=fun xs=>.ok (.fr,xs)):=rfl
theorem zfc:evF Κ Φ (.tv (.var i)) ρ=(if ownB ρ i then z8q i ρ else if isAl Κ Φ (.tv (.var i)) ρ then evE Κ Φ (.var i) ρ>>=fun x=>evAl x ρ else evN Κ Φ (.tv (.var i)) ρ):=rfl
theorem R_tv (hv:∀i,a≠.var i):evF Κ Φ (.tv a) ρ=(if isAl Κ Φ (.tv a) ρ then evE Κ Φ a ρ>>=fun x=>evAl x ρ else evN Κ Φ (.tv a) ρ):=by cases a<;>first|exact absurd rfl (hv _)|rfl
end
theorem z0h {Κ:List D}{Φ:List Fn}{a b:S}{ρ ρ':Rho}{r:Res Out}(h:evS Κ Φ a ρ=.ok (.nx ρ'))(k:evS Κ Φ b ρ'=r):evS Κ Φ (.seq a b) ρ=r:=by rw[zhc,h];exact k
theorem z0c {Κ:List D}{Φ:List Fn}{a b:S}{ρ:Rho}{g:G}{d:D}(h:evS Κ Φ a ρ=.ok (.rt g d)):evS Κ Φ (.seq a b) ρ=.ok (.rt g d):=by rw[zhc,h];rfl
theorem z13 {Κ:List D}{Φ:List Fn}{n:Nat}{s:S}{ds:List D}{g:G}{d:D}(h:evS Κ Φ s (ds.map (fun d=>some (.od,d))++bo (n-ds.length) none)=.ok (.rt g d)):runD Κ Φ n s ds=.ok (g,d):=by unfold runD;rw[h]
theorem z8d {β:Type}{f:D->Rho->Res Out}{m:β->D}(I:List β->Rho->Prop):∀(xs pre:List β) (ρ:Rho),(∀pr' x post ρ,pre++xs=pr'++x::post->I pr' ρ->∃ρ',f (m x) ρ=.ok (.nx ρ')/\I (pr'++[x]) ρ')->I pre ρ->∃ρ',forD f (xs.map m) ρ=.ok (.nx ρ')/\I (pre++xs) ρ'
 | [],pre,ρ,_,h=>⟨ρ,rfl,by rw[eh];exact h⟩
 |x::xs,pre,ρ,hf,h=>by
  obtain⟨ρ1,e,h1⟩:=hf pre x xs ρ rfl h;have e0:pre++[x]++xs=pre++x::xs:=by rw[ge];rfl
  obtain⟨ρ2,e2,h2⟩:=z8d I xs (pre++[x]) ρ1 (fun pr' y post ρ hy=>hf pr' y post ρ (e0▸hy)) h1;exact⟨ρ2,by rw[ay,zj9,e];exact e2,e0▸h2⟩
theorem z3i {β:Type}{f:D->Res (Option GD)}{m:β->D}(g:β->Option D):∀(xs:List β),(∀x∈xs,f (m x)=.ok ((g x).map fun d=>(.fr,d)))->z1h f (xs.map m)=.ok ((xs.filterMap g).map fun d=>(.fr,d))
 | [],_=>rfl
 |x::xs,h=>by
  rw[ay,z1h,h x ar,Res.ok_bind,z3i g xs fun y hy=>h y (bg _ hy),Res.ok_bind];cases e:g x with
  |none=>rw[jp e];rfl
  |some d=>rw[jq e];rfl
theorem zc6 (xs:List D):gCo (xs.map fun d=>(G.fr,d))=.fr:=by unfold gCo;rw[if_pos];rw[List.all_map];exact bp.mpr fun _ _=>rfl
theorem zch (xs:List D):gAll (xs.map fun d=>(G.fr,d))=.fr:=by unfold gAll;rw[if_pos];rw[bp];intro x hx;obtain⟨d,_,rfl⟩:=ci.mp hx;rfl
theorem z63 (xs:List D):(xs.map fun d=>(G.fr,d)).map (fun x=>x.2)=xs:=by rw[i4];exact List.map_id _
theorem zk9 (a b:Int):biD "max" [.int a,.int b]=.ok (.int (max a b)):=rfl
theorem zjc (a b:Int):biD "min" [.int a,.int b]=.ok (.int (min a b)):=rfl
theorem zgz (l:P)(n:Str)(v:Int):mtD "get" (.dict (en l)) [.str n,.int v]=.ok (.int ((fnd l n).getD v)):=by have:mtD "get" (.dict (en l)) [.str n,.int v]=.ok ((z19 (en l) (.str n)).getD (.int v)):=rfl;rw[this,z64];cases fnd l n<;>rfl
theorem zas (l:P)(n:Str):mtD "get" (.dict (en l)) [.str n,.int 0]=.ok (.int (look l n)):=zgz l n 0
theorem z95 (l:Bool)(xs:List D):aggD "tuple" l xs=.ok (.tuple xs):=rfl
theorem z62 (l:Bool)(xs:List D):aggD "list" l xs=.ok (.list xs):=rfl
theorem zb9 {l:P}(b:Bool)(nd:(ks l).Nodup):aggD "dict" b (l.map pr)=.ok (.dict (en l)):=by show Res.ofO ((z20 [] (l.map pr)).map PyData.dict)=_;rw[z9v nd];rfl
def chr (z:Str)(i:Int):Str:=⟨#[z.cps.toList.getD i.toNat 0]⟩
theorem z82 (z:Str)(i:Int):(chr z i).length=1:=rfl
theorem zdk {α:Type}(xs:List α)(i:Int)(d:α)(h0:0<=i)(h1:i<xs.length):atI xs i=some (xs.getD i.toNat d):=by
 unfold atI ixN;rw[if_pos h0,if_pos h1];show xs[i.toNat]?=_;have:i.toNat<xs.length:=by omega
 rw[ba this,av,ba this];rfl
theorem z5n {z:Str}{i:Int}(h0:0<=i)(h1:i<z.length)(hz:z.length<=1000):ixD (.str z) (.int i)=.ok (.str (chr z i)):=by show(if z.length<=LIM then Res.ofO ((atI z.cps.toList i).map fun c=>PyData.str ⟨#[c]⟩)else .no)=_;rw[if_pos (by unfold LIM;omega),zdk _ i 0 h0 (by rw[dv];exact h1)];rfl
theorem zdb {ns:List Int}{i:Int}(h0:0<=i)(h1:i<ns.length):ixD (.list (ns.map .int)) (.int i)=.ok (.int (ns.getD i.toNat 0)):=by
 show Res.ofO (atI (ns.map PyData.int) i)=_;rw[zdk _ i (.int 0) h0 (by rw[aw];exact h1)];show Res.ok _=_
 congr 1
 have:i.toNat<ns.length:=by omega
 rw[av,av,a9,ba this];rfl
theorem add_str {a b:Str}(h:a.length+b.length<=1000):binD .Add (.str a) (.str b)=.ok (.str (a++b)):=by show(if _ then _ else _)=_;rw[if_pos (by unfold LIM;omega)]
theorem add_list {a b:List D}(h:a.length+b.length<=1000):binD .Add (.list a) (.list b)=.ok (.list (a++b)):=by show(if _ then _ else _)=_;rw[if_pos (by unfold LIM;omega)]
theorem zgc {a b:Int}(h:-(2 ^ 64)<b/\b<2 ^ 64):binD .Mult (.int a) (.int b)=.ok (.int (a*b)):=by show(if _ then _ else _)=_;rw[if_pos (.inr h)]
theorem za9 {a b:Int}(h:-(2 ^ 64)<a/\a<2 ^ 64):binD .Mult (.int a) (.int b)=.ok (.int (a*b)):=by show(if _ then _ else _)=_;rw[if_pos (.inl h)]
theorem z1a {a b:Int}(h:0<b):binD .Mod (.int a) (.int b)=.ok (.int (a%b)):=by show(if _ then _ else _)=_;rw[if_pos h]
theorem zdz:binD .Pow (.int 10) (.int 30)=.ok (.int 1000000000000000000000000000000):=rfl
theorem z9r {n:Int}(h0:0<=n)(h1:n<=1000):rngD [.int n]=.ok ((b6 n.toNat).map fun(i:Nat)=>.int i):=by show(if _ then _ else _)=_;rw[if_pos (by unfold LIM;omega)]
theorem zbo {z:Str}{i j:Option Int}(h:z.length<=1000):slD (.str z) i j=.ok (.str (z23 z i j)):=by show(if _ then _ else _)=_;rw[if_pos (by unfold LIM;omega)]
theorem z1q (ns:List Str):imms (ns.map .str)=true:=z1e.mpr fun x hx=>by obtain⟨p,_,rfl⟩:=ci.mp hx;rfl
theorem z7v (ns:List Int):imms (ns.map .int)=true:=z1e.mpr fun x hx=>by obtain⟨p,_,rfl⟩:=ci.mp hx;rfl
theorem z7g (a b:Int):eqD (.int a) (.int b)=decide (a=b):=by show(a==b)=_;rfl
section
variable {Κ:List D}{Φ:List Fn}{ρ:Rho}
theorem ze9:evE Κ Φ (.var i) ρ=(rdS ρ[i]?):=rfl
theorem E_bl:evE Κ Φ (.bl b) ρ=(.ok (.fr,.bool b)):=rfl
theorem zm4:evE Κ Φ (.int i) ρ=(.ok (.fr,.int i)):=rfl
theorem zio:evE Κ Φ (.str x) ρ=(.ok (.fr,.str x)):=rfl
theorem zeu:evE Κ Φ (.bin op a b) ρ=(evE Κ Φ a ρ>>=fun x=>evE Κ Φ b ρ>>=fun y=>binD op x.2 y.2>>=fun d=>.ok (gN d (gAll [x,y]),d)):=rfl
theorem zjs:evE Κ Φ (.cmp op a b) ρ=(evE Κ Φ a ρ>>=fun x=>evE Κ Φ b ρ>>=fun y=>cmpD op x.2 y.2>>=fun b=>.ok (.fr,.bool b)):=rfl
theorem zl9:evE Κ Φ (.and a b) ρ=(evE Κ Φ a ρ>>=fun x=>match x.2 with|.bool c=>if c then evE Κ Φ b ρ else .ok (.fr,.bool false)|_=>.no):=rfl
theorem E_or:evE Κ Φ (.or a b) ρ=(evE Κ Φ a ρ>>=fun x=>match x.2 with|.bool c=>if c then .ok (.fr,.bool true)else evE Κ Φ b ρ|_=>.no):=rfl
theorem zjv:evE Κ Φ (.not a) ρ=(evE Κ Φ a ρ>>=fun x=>z11 x.2>>=fun c=>.ok (.fr,.bool (!c))):=rfl
theorem zld:evE Κ Φ (.tup xs) ρ=(evA Κ Φ xs ρ>>=fun ys=>.ok (gJ (.tuple (ys.map (·.2))) (gAll ys),.tuple (ys.map (·.2)))):=rfl
theorem zal:evE Κ Φ (.lst xs) ρ=(evA Κ Φ xs ρ>>=fun ys=>.ok (gAll ys,.list (ys.map (·.2)))):=rfl
theorem E_ix:evE Κ Φ (.ix a b) ρ=(evE Κ Φ a ρ>>=fun x=>evE Κ Φ b ρ>>=fun y=>ixD x.2 y.2>>=fun d=>.ok (gJ d x.1,d)):=rfl
theorem E_sl:evE Κ Φ (.sl a lo hi) ρ=(evE Κ Φ a ρ>>=fun x=>evO Κ Φ lo ρ>>=fun l=>evO Κ Φ hi ρ>>=fun h=>slD x.2 l h>>=fun d=>.ok (gN d (gAll [x]),d)):=rfl
theorem z93:evE Κ Φ (.call k w1 args) ρ=(evA Κ Φ args ρ>>=fun ys=>match Φ[k]? with|some m=>m (ys.map (·.2))>>=fun r=>.ok (gJ r.2 (rtG r.1),r.2)|none=>.no):=rfl
theorem E_bi:evE Κ Φ (.bi f args) ρ=(evA Κ Φ args ρ>>=fun ys=>biD f (ys.map (·.2))>>=fun d=>.ok (gJ d .al,d)):=rfl
theorem zg2:evE Κ Φ (.agg f a) ρ=(evG Κ Φ a ρ>>=fun w=>aggD f w.2.1 w.2.2>>=fun d=>.ok (gJ d (if imms w.2.2 then .fr else agG w.1),d)):=rfl
theorem zk0:evE Κ Φ (.isT a ts) ρ=(evE Κ Φ a ρ>>=fun x=>.ok (.fr,.bool (ts.any fun T=>isTy (tyOf x.2) T))):=rfl
theorem E_mt:evE Κ Φ (.mt m o args) ρ=(evE Κ Φ o ρ>>=fun x=>evA Κ Φ args ρ>>=fun ys=>mtD m x.2 (ys.map (·.2))>>=fun d=>.ok (gJ d .al,d)):=rfl
theorem z9a {cond:C}:evE Κ Φ (.comp nt js w1 tg it cond elt) ρ=(evW Κ Φ it ρ>>=fun w=>z1h (fun x=>z0s tg (gJ x w.1,x) (bo nt none++js.map fun j=>toAl (ρ.getD j none))>>=fun ρ1=>evT Κ Φ cond ρ1>>=fun k=>if k then evE Κ Φ elt ρ1>>=fun y=>.ok (some y)else .ok none) w.2>>=fun ys=>.ok (gCo ys,.list (ys.map (·.2)))):=rfl
end
section
variable {Κ:List D}{Φ:List Fn}{ρ:Rho}{a b c t o args:C}{x y d:D}{ds:List D}{k k':Bool}{g:G}
def Ev (Κ:List D)(Φ:List Fn)(c:C)(ρ:Rho)(d:D):Prop:=∃g,evE Κ Φ c ρ=.ok (g,d)
def Vv (Κ:List D)(Φ:List Fn)(c:C)(ρ:Rho)(d:D):Prop:=evE Κ Φ c ρ=.ok (.fr,d)/\imm d=true
def Aa (Κ:List D)(Φ:List Fn)(c:C)(ρ:Rho)(ds:List D):Prop:=∃ys,evA Κ Φ c ρ=.ok ys/\ys.map (·.2)=ds
def Av (Κ:List D)(Φ:List Fn)(c:C)(ρ:Rho)(ds:List D):Prop:=evA Κ Φ c ρ=.ok (ds.map fun d=>(.fr,d))/\imms ds=true
def Tt (Κ:List D)(Φ:List Fn)(c:C)(ρ:Rho)(k:Bool):Prop:=evT Κ Φ c ρ=.ok k
theorem Vv.e (h:Vv Κ Φ c ρ d):Ev Κ Φ c ρ d:=⟨_,h.1⟩
theorem Ev.of (h:evE Κ Φ c ρ=.ok (g,d)):Ev Κ Φ c ρ d:=⟨_,h⟩
theorem z01 {i:Nat}(h:ρ[i]?=some (some (g,d))):Ev Κ Φ (.var i) ρ d:=⟨_,by rw[ze9];rw[h];rfl⟩
theorem v_var {i:Nat}(h:ρ[i]?=some (some (g,d)))(hi:imm d=true):Vv Κ Φ (.var i) ρ d:=⟨by rw[ze9];rw[h];show Res.ok (if imm d=true then _ else _,d)=_;rw[if_pos hi],hi⟩
theorem z04 {i:Int}:Vv Κ Φ (.int i) ρ (.int i):=⟨by rw[zm4],rfl⟩
theorem z1g {i:Str}:Vv Κ Φ (.str i) ρ (.str i):=⟨by rw[zio],rfl⟩
theorem v_bl {i:Bool}:Vv Κ Φ (.bl i) ρ (.bool i):=⟨by rw[E_bl],rfl⟩
theorem z16 (hi:imm d=true):gJ d g=.fr:=by unfold gJ;rw[if_pos hi]
theorem zi1 (hi:imm d=true):gN d g=.fr:=by cases d<;>first|exact z16 hi|cases hi
theorem z0b {op:gh}(ha:Ev Κ Φ a ρ x)(hb:Ev Κ Φ b ρ y)(h:binD op x y=.ok d)(hi:imm d=true):Vv Κ Φ (.bin op a b) ρ d:=by obtain⟨g1,ha⟩:=ha;obtain⟨g2,hb⟩:=hb;refine⟨?_,hi⟩;rw[zeu];rw[ha,Res.ok_bind,hb,Res.ok_bind];dsimp only;rw[h,Res.ok_bind,zi1 hi]
theorem zlc {op:gh}{xs:List D}(ha:Ev Κ Φ a ρ x)(hb:Ev Κ Φ b ρ y)(h:binD op x y=.ok (.list xs))(hi:imms xs=true):evE Κ Φ (.bin op a b) ρ=.ok (.fr,.list xs):=by obtain⟨g1,ha⟩:=ha;obtain⟨g2,hb⟩:=hb;rw[zeu];rw[ha,Res.ok_bind,hb,Res.ok_bind];dsimp only;rw[h,Res.ok_bind];show Res.ok (if imms xs=true then _ else _,_)=_;rw[if_pos hi]
theorem z1c {op:CmpOp}(ha:Ev Κ Φ a ρ x)(hb:Ev Κ Φ b ρ y)(h:cmpD op x y=.ok k):Vv Κ Φ (.cmp op a b) ρ (.bool k):=by obtain⟨g1,ha⟩:=ha;obtain⟨g2,hb⟩:=hb;refine⟨?_,rfl⟩;rw[zjs];rw[ha,Res.ok_bind,hb,Res.ok_bind];dsimp only;rw[h];rfl
theorem v_and (ha:Ev Κ Φ a ρ (.bool k))(hb:k=true->Vv Κ Φ b ρ (.bool k')):Vv Κ Φ (.and a b) ρ (.bool (k&&k')):=by
 obtain⟨g1,ha⟩:=ha;refine⟨?_,rfl⟩;rw[zl9];rw[ha];cases k with
 |true=>exact(hb rfl).1
 |false=>rfl
theorem v_or (ha:Ev Κ Φ a ρ (.bool k))(hb:k=false->Vv Κ Φ b ρ (.bool k')):Vv Κ Φ (.or a b) ρ (.bool (k||k')):=by
 obtain⟨g1,ha⟩:=ha;refine⟨?_,rfl⟩;rw[E_or];rw[ha];cases k with
 |false=>exact(hb rfl).1
 |true=>rfl
theorem v_not (ha:Ev Κ Φ a ρ x)(h:z11 x=.ok k):Vv Κ Φ (.not a) ρ (.bool (!k)):=by obtain⟨g1,ha⟩:=ha;refine⟨?_,rfl⟩;rw[zjv];rw[ha,Res.ok_bind];dsimp only;rw[h];rfl
theorem z0g:Av Κ Φ .nil ρ []:=⟨rfl,rfl⟩
theorem z02 (ha:Vv Κ Φ a ρ x)(hb:Av Κ Φ b ρ ds):Av Κ Φ (.cons a b) ρ (x::ds):=⟨by rw[z0z,ha.1,Res.ok_bind,hb.1];rfl,by show(imm x&&imms ds)=true;rw[ha.2,hb.2];rfl⟩
theorem z0a:Aa Κ Φ .nil ρ []:=⟨[],rfl,rfl⟩
theorem z00 (ha:Ev Κ Φ a ρ x)(hb:Aa Κ Φ b ρ ds):Aa Κ Φ (.cons a b) ρ (x::ds):=by obtain⟨g1,ha⟩:=ha;obtain⟨ys,hb,e⟩:=hb;exact⟨_,by rw[z0z,ha,Res.ok_bind,hb];rfl,by rw[ay,e]⟩
theorem z1i (h:Av Κ Φ args ρ ds):Vv Κ Φ (.tup args) ρ (.tuple ds):=by refine⟨?_,h.2⟩;rw[zld];rw[h.1,Res.ok_bind,z63,z16 (d:=.tuple ds) h.2]
theorem z3p (h:Av Κ Φ args ρ ds):evE Κ Φ (.lst args) ρ=.ok (.fr,.list ds):=by rw[zal];rw[h.1,Res.ok_bind,z63,zch]
theorem v_ix (ha:Ev Κ Φ a ρ x)(hb:Ev Κ Φ b ρ y)(h:ixD x y=.ok d)(hi:imm d=true):Vv Κ Φ (.ix a b) ρ d:=by obtain⟨g1,ha⟩:=ha;obtain⟨g2,hb⟩:=hb;refine⟨?_,hi⟩;rw[E_ix];rw[ha,Res.ok_bind,hb,Res.ok_bind];dsimp only;rw[h,Res.ok_bind,z16 hi]
def Oo (Κ:List D)(Φ:List Fn)(c:C)(ρ:Rho)(i:Option Int):Prop:=evO Κ Φ c ρ=.ok i
theorem z2p:Oo Κ Φ .nil ρ none:=rfl
theorem z3b {i:Int}(h:Ev Κ Φ a ρ (.int i)):Oo Κ Φ (.tv a) ρ (some i):=by obtain⟨g1,h⟩:=h;unfold Oo;rw[O_tv,h];rfl
theorem z0q {n:Nat}{f:Str}{m:Fn}(ha:Aa Κ Φ args ρ ds)(hf:Φ[n]?=some m)(h:m ds=.ok (g,d))(hi:imm d=true):Vv Κ Φ (.call n f args) ρ d:=by obtain⟨ys,ha,e⟩:=ha;refine⟨?_,hi⟩;rw[z93];rw[ha,Res.ok_bind,hf];dsimp only;rw[e,h,Res.ok_bind,z16 hi]
theorem zcb {n:Nat}{f:Str}{m:Fn}(ha:Aa Κ Φ args ρ ds)(hf:Φ[n]?=some m)(h:m ds=.ok (g,d)):Ev Κ Φ (.call n f args) ρ d:=by obtain⟨ys,ha,e⟩:=ha;exact⟨_,by rw[z93];rw[ha,Res.ok_bind,hf];dsimp only;rw[e,h,Res.ok_bind]⟩
theorem zbz {n:Nat}{f:Str}{m:Fn}{xs:List D}(ha:Aa Κ Φ args ρ ds)(hf:Φ[n]?=some m)(h:m ds=.ok (.fr,.list xs)):evE Κ Φ (.call n f args) ρ=.ok (.fr,.list xs):=by obtain⟨ys,ha,e⟩:=ha;rw[z93];rw[ha,Res.ok_bind,hf];dsimp only;rw[e,h,Res.ok_bind];rfl
theorem v_bi {f:String}(ha:Aa Κ Φ args ρ ds)(h:biD f ds=.ok d)(hi:imm d=true):Vv Κ Φ (.bi f args) ρ d:=by obtain⟨ys,ha,e⟩:=ha;refine⟨?_,hi⟩;rw[E_bi];rw[ha,Res.ok_bind,e,h,Res.ok_bind,z16 hi]
theorem zec {f:String}{w:Bool×List D}(ha:Ev Κ Φ a ρ x)(hw:z3m x=.ok w)(h:aggD f w.1 w.2=.ok d)(hi:imm d=true):Vv Κ Φ (.agg f (.tv a)) ρ d:=by obtain⟨g1,ha⟩:=ha;refine⟨?_,hi⟩;rw[zg2];rw[G_tv,ha,Res.ok_bind];dsimp only;rw[hw];simp only[Res.ok_bind];rw[h,Res.ok_bind,z16 hi]
theorem za8 {f:String}{w:Bool×List D}(ha:Ev Κ Φ a ρ x)(hw:z3m x=.ok w)(h:aggD f w.1 w.2=.ok d)(hi:imms w.2=true):evE Κ Φ (.agg f (.tv a)) ρ=.ok (.fr,d):=by obtain⟨g1,ha⟩:=ha;rw[zg2];rw[G_tv,ha,Res.ok_bind];dsimp only;rw[hw];simp only[Res.ok_bind];rw[h,Res.ok_bind,if_pos hi];unfold gJ;split<;>rfl
theorem zm5 {ts:List String}(ha:Ev Κ Φ a ρ x):Vv Κ Φ (.isT a ts) ρ (.bool (ts.any fun T=>isTy (tyOf x) T)):=by obtain⟨g1,ha⟩:=ha;refine⟨?_,rfl⟩;rw[zk0];rw[ha];rfl
theorem v_mt {m:String}(ho:Ev Κ Φ o ρ x)(ha:Aa Κ Φ args ρ ds)(h:mtD m x ds=.ok d)(hi:imm d=true):Vv Κ Φ (.mt m o args) ρ d:=by obtain⟨g1,ho⟩:=ho;obtain⟨ys,ha,e⟩:=ha;refine⟨?_,hi⟩;rw[E_mt];rw[ho,Res.ok_bind,ha,Res.ok_bind,e];dsimp only;rw[h,Res.ok_bind,z16 hi]
theorem t_tv (h:Ev Κ Φ a ρ x)(ht:z11 x=.ok k):Tt Κ Φ (.tv a) ρ k:=by obtain⟨g1,h⟩:=h;unfold Tt;rw[T_tv,h];exact ht
theorem z73:Tt Κ Φ .nil ρ true:=rfl
theorem z24 (ha:Tt Κ Φ a ρ k)(hb:k=true->Tt Κ Φ b ρ k'):Tt Κ Φ (.and a b) ρ (k&&k'):=by
 unfold Tt at *
 rw[zkd,ha];cases k with
 |true=>exact hb rfl
 |false=>rfl
theorem t_or (ha:Tt Κ Φ a ρ k)(hb:k=false->Tt Κ Φ b ρ k'):Tt Κ Φ (.or a b) ρ (k||k'):=by
 unfold Tt at *
 rw[T_or,ha];cases k with
 |false=>exact hb rfl
 |true=>rfl
theorem z7h (ha:Tt Κ Φ a ρ k):Tt Κ Φ (.not a) ρ (!k):=by
 unfold Tt at *
 rw[zis,ha];rfl
theorem z30 {β:Type}{nt:Nat}{js:List Nat}{N':List Str}{tg:Tg}{it cond elt:C}{w:G×List D}{m:β->D}{xs:List β}(p:β->Bool)(f:β->D)(hw:evW Κ Φ it ρ=.ok w)(hx:w.2=xs.map m)(r:β->Rho)
  (hb:∀x∈xs,z0s tg (gJ (m x) w.1,m x) (bo nt none++js.map fun j=>toAl (ρ.getD j none))=.ok (r x)) (hc:∀x∈xs,Tt Κ Φ cond (r x) (p x)) (he:∀x∈xs,p x=true->Vv Κ Φ elt (r x) (f x)):
  evE Κ Φ (.comp nt js N' tg it cond elt) ρ=.ok (.fr,.list ((xs.filter p).map f)):=by
 rw[z9a];rw[hw,Res.ok_bind,hx]
 rw[z3i (fun x=>if p x then some (f x)else none) xs fun x hx=>by
  rw[hb x hx,Res.ok_bind];have:=hc x hx;unfold Tt at this;rw[this,Res.ok_bind];cases e:p x with
  |true=>rw[if_pos rfl,(he x hx e).1];rfl
  |false=>rfl]
 rw[Res.ok_bind,zc6,z63]
 have:(xs.filterMap fun x=>if p x=true then some (f x)else none)=(xs.filter p).map f:=by
  clear hx hb hc he hw
  induction xs with
  |nil=>rfl
  |cons x xs ih=>
   cases e:p x with
   |true=>rw[jq (b:=f x) (by rw[e];rfl),List.filter_cons_of_pos e,ay,ih]
   |false=>rw[jp (by rw[e];rfl),List.filter_cons_of_neg (by rw[e];exact br),ih]
 rw[this]
theorem w_tv {xs:List D}(h:evE Κ Φ a ρ=.ok (g,x))(hw:z3c x=.ok xs):evW Κ Φ (.tv a) ρ=.ok (g,xs):=by rw[W_tv,h,Res.ok_bind];dsimp only;rw[hw];rfl
theorem zh9 {xs:List D}(h:Aa Κ Φ args ρ ds)(hw:rngD ds=.ok xs):evW Κ Φ (.rng args) ρ=.ok (.fr,xs):=by obtain⟨ys,h,e⟩:=h;rw[zm2,h,Res.ok_bind,e,hw];rfl
theorem z10 {i:Nat}(h:Vv Κ Φ t ρ d):evS Κ Φ (.asg (.nm i) t) ρ=.ok (.nx (ρ.set i (some (.al,d)))):=by rw[z6p,h.1,Res.ok_bind];show Res.ok (Out.nx (ρ.set i (some (if imm d then(.al,d)else _))))=_;rw[if_pos h.2]
theorem z1m {i:Nat}{xs:List D}(h:evE Κ Φ t ρ=.ok (.fr,.list xs))(hi:imms xs=true):evS Κ Φ (.asg (.nm i) t) ρ=.ok (.nx (ρ.set i (some (.fr,.list xs)))):=by rw[z6p,h,Res.ok_bind];show Res.ok (Out.nx (ρ.set i (some (if imms xs then .fr else .nu,.list xs))))=_;rw[if_pos hi]
theorem z8j (hv:∀i,t≠.var i):evS Κ Φ (.ret t) ρ=(evE Κ Φ t ρ>>=fun x=>.ok (.rt (rtG x.1) x.2)):=by cases t<;>first|exact absurd rfl (hv _)|rfl
theorem z0p (h:Vv Κ Φ t ρ d):evS Κ Φ (.ret t) ρ=.ok (.rt .fr d):=by
 by_cases hv:∀i,t≠.var i
 ·rw[z8j hv,h.1];rfl
 obtain⟨i,rfl⟩:∃i,t=.var i:=by cases t<;>first|exact⟨_,rfl⟩|exact(hv fun i z=>by cases z).elim
 have h1:=h.1;rw[ze9]at h1;rw[zc5];cases hr:ρ[i]? with
 |none=>rw[hr]at h1;cases h1
 |some o=>
  cases o with
  |none=>rw[hr]at h1;cases h1
  |some gd=>
   obtain⟨g,d'⟩:=gd;rw[hr]at h1;have:d'=d:=by have:=congrArg (fun r:Res GD=>match r with|.ok p=>p.2|_=>.none) h1;exact this
   subst this;show Res.ok (Out.rt (if imm d'=true then _ else _) d')=_;rw[if_pos h.2]
theorem zbn {xs:List D}(hv:∀i,t≠.var i)(h:evE Κ Φ t ρ=.ok (.fr,.list xs)):evS Κ Φ (.ret t) ρ=.ok (.rt .fr (.list xs)):=by rw[z8j hv,h];rfl
theorem z18 {p q:S}{r:Res Out}(hc:Tt Κ Φ c ρ k)(h1:k=true->evS Κ Φ p ρ=r)(h2:k=false->evS Κ Φ q ρ=r):evS Κ Φ (.ifS c p q) ρ=r:=by
 unfold Tt at hc;rw[R_if,hc,Res.ok_bind];cases k with
 |true=>exact h1 rfl
 |false=>exact h2 rfl
theorem z0t:evS Κ Φ .nil ρ=.ok (.nx ρ):=rfl
theorem zar {y:GD}(h:imm y.2=true):okIn y=true:=by unfold okIn;rw[h];rfl
theorem zea {i:Nat}{xs:List D}(hv:Vv Κ Φ a ρ x)(hr:ρ[i]?=some (some (.fr,.list xs)))(hl:xs.length<1000):evS Κ Φ (.mut "append" i (.cons a .nil)) ρ=.ok (.nx ((ρ.set i (some (.fr,.list (xs++[x])))).map z0m)):=by
 rw[zgo,z0z,hv.1,Res.ok_bind,z6v,Res.ok_bind,Res.ok_bind,hr]
 dsimp only
 have:mutD "append" xs [(.fr,x)]=.ok (xs++[x]):=by show(if(okIn (G.fr,x)&&decide (xs.length<LIM))=true then _ else _)=_;rw[if_pos];rw[zar hv.2,Bool.true_and];refine nv ?_;unfold LIM;omega
 rw[this];rfl
theorem zjz {i:Nat}{xs:List D}(h:ρ[i]?=some (some (g,d)))(hg:g≠.fr)(hi:imm d=true)(hw:z3c d=.ok xs):evF Κ Φ (.tv (.var i)) ρ=.ok (.fr,xs,ρ):=by
 have e1:evE Κ Φ (.var i) ρ=.ok (.fr,d):=(v_var h hi).1;have e2:evW Κ Φ (.tv (.var i)) ρ=.ok (.fr,xs):=w_tv e1 hw
 have e3:ownB ρ i=false:=by
  unfold ownB;rw[h];cases g with
  |fr=>exact absurd rfl hg
  |od=>rfl
  |al=>rfl
  |nu=>rfl
 rw[zfc,e3];unfold isAl evN;rw[e2];rfl
theorem zg0 {i:Nat}{xs:List D}(h:ρ[i]?=some (some (.fr,.list xs))):evF Κ Φ (.tv (.var i)) ρ=.ok (.al,xs,ρ.set i (some (.al,.list xs))):=by
 have e3:ownB ρ i=true:=by unfold ownB;rw[h]
 rw[zfc,e3,if_pos rfl];unfold z8q;rw[h];rfl
theorem zcr {xs:List D}(h:Aa Κ Φ args ρ ds)(hw:rngD ds=.ok xs):evF Κ Φ (.rng args) ρ=.ok (.fr,xs,ρ):=by show evN Κ Φ (.rng args) ρ=_;unfold evN;rw[zh9 h hw];rfl
theorem zcx {xs ys:List D}{x y:D}(ha:Ev Κ Φ a ρ x)(hb:Ev Κ Φ b ρ y)(hx:seqR x=.ok xs)(hy:seqR y=.ok ys):evW Κ Φ (.zip a b) ρ=.ok (.al,zipD xs ys):=by obtain⟨g,ha⟩:=ha;obtain⟨g',hb⟩:=hb;show(evE Κ Φ a ρ>>=fun x=>evE Κ Φ b ρ>>=fun y=>seqR x.2>>=fun xs=>seqR y.2>>=fun ys=>Res.ok (G.al,zipD xs ys))=_;rw[ha,Res.ok_bind,hb,Res.ok_bind];show(seqR x>>=fun xs=>seqR y>>=fun ys=>Res.ok (G.al,zipD xs ys))=_;rw[hx,Res.ok_bind,hy];rfl
theorem zcf {xs:List D}{x:D}(ha:Ev Κ Φ a ρ x)(hx:seqR x=.ok xs):evW Κ Φ (.enum a) ρ=.ok (.al,z15 0 xs):=by obtain⟨g,ha⟩:=ha;show(evE Κ Φ a ρ>>=fun x=>seqR x.2>>=fun xs=>Res.ok (G.al,z15 0 xs))=_;rw[ha,Res.ok_bind];show(seqR x>>=fun xs=>Res.ok (G.al,z15 0 xs))=_;rw[hx];rfl
theorem zfo {xs ys:List D}{x y:GD}(ha:evE Κ Φ a ρ=.ok x)(hb:evE Κ Φ b ρ=.ok y)(ca:z2u x=true)(cb:z2u y=true)(hx:seqR x.2=.ok xs)(hy:seqR y.2=.ok ys):evF Κ Φ (.zip a b) ρ=.ok (.al,zipD xs ys,ρ):=by
 have e:evA Κ Φ (.cons a (.cons b .nil)) ρ=.ok [x,y]:=by rw[z0z,ha,Res.ok_bind,z0z,hb,Res.ok_bind,z6v];rfl
 show(evA Κ Φ (.cons a (.cons b .nil)) ρ>>=fun ys=>evZi ys ρ)=_;rw[e,Res.ok_bind];unfold evZi
 dsimp only
 rw[ca,cb];show(seqR x.2>>=fun xs=>seqR y.2>>=fun zs=>Res.ok (G.al,zipD xs zs,ρ))=_;rw[hx,Res.ok_bind,hy];rfl
theorem zkj {xs:List D}{x:GD}(ha:evE Κ Φ a ρ=.ok x)(ca:z2u x=true)(hx:seqR x.2=.ok xs):evF Κ Φ (.enum a) ρ=.ok (.al,z15 0 xs,ρ):=by
 have e:evA Κ Φ (.cons a .nil) ρ=.ok [x]:=by rw[z0z,ha,Res.ok_bind,z6v];rfl
 show(evA Κ Φ (.cons a .nil) ρ>>=fun ys=>evEn ys ρ)=_;rw[e,Res.ok_bind];unfold evEn
 dsimp only
 rw[ca,if_pos rfl,hx];rfl
theorem z8r {xs:List D}(hl:xs.length<=1000):seqR (.list xs)=.ok xs:=by show(if decide (xs.length<=LIM)=true then Res.ok xs else .no)=_;rw[nv (show xs.length<=LIM by unfold LIM;omega)];rfl
theorem zbu {β:Type}(m:β->D):∀(k:Nat) (xs:List β),z15 k (xs.map m)=(xs.zipIdx k).map fun p=>.tuple [.int p.2,m p.1]
 |_,[]=>rfl
 |k,x::xs=>by rw[ay,z15,zbu m (k+1) xs];rfl
theorem z66 {i j:Nat}{x y:D}{g:G}(hx:imm x=true)(hy:imm y=true):z0s (.tp [i,j]) (gJ (.tuple [x,y]) g,.tuple [x,y]) ρ=.ok ((ρ.set i (some (.al,x))).set j (some (.al,y))):=by show Res.ofO (some ((ρ.set i (some (z1u (gJ x _,x)))).set j (some (z1u (gJ y _,y)))))=_;rw[z16 hx,z16 hy];rfl
theorem zgp {e0:C}{x':D}{xs:List D}(hv:∀i,e0≠.var i)(h:evE Κ Φ e0 ρ=.ok (.fr,x'))(hw:z3c x'=.ok xs):evF Κ Φ (.tv e0) ρ=.ok (.fr,xs,ρ):=by
 have e2:evW Κ Φ (.tv e0) ρ=.ok (.fr,xs):=w_tv h hw;have e3:isAl Κ Φ (.tv e0) ρ=false:=by unfold isAl;rw[e2];rfl
 rw[R_tv hv,e3];unfold evN;rw[e2];rfl
theorem z97 {t':Tg}{it:C}{p:S}{w:G×List D×Rho}{r:Res Out}(h:evF Κ Φ it ρ=.ok w)(k:forD (fun x ρ1=>z0s t' (gJ x w.1,x) ρ1>>=fun ρ2=>evS Κ Φ p ρ2) w.2.1 w.2.2=r):evS Κ Φ (.for_ t' it p) ρ=r:=by rw[ziv,h];exact k
theorem z0d {p rest:S}{r:Res Out}(hc:Tt Κ Φ c ρ k)(hk:k=false)(h:evS Κ Φ rest ρ=r):evS Κ Φ (.seq (.ifS c p .nil) rest) ρ=r:=z0h (z18 hc (fun z=>by rw[hk]at z;cases z) fun _=>z0t) h
theorem zbx {i:Nat}{xs:List D}(h:ρ[i]?=some (some (.fr,.list xs))):evS Κ Φ (.ret (.var i)) ρ=.ok (.rt .fr (.list xs)):=by rw[zc5,h];rfl
theorem q_ok {Q:Res Out->Prop}{p q:S}{ρ':Rho}(h:evS Κ Φ p ρ=.ok (.nx ρ'))(k:Q (evS Κ Φ q ρ')):Q (evS Κ Φ (.seq p q) ρ):=by rw[z0h h rfl];exact k
theorem q_rt {Q:Res Out->Prop}{p q:S}(h:evS Κ Φ p ρ=.ok (.rt g d))(k:Q (.ok (.rt g d))):Q (evS Κ Φ (.seq p q) ρ):=by rw[z0c h];exact k
theorem zjx {Q:Res Out->Prop}{β:Type}{t':Tg}{it:C}{p rest:S}{m:β->D}{xs:List β}{ρ1:Rho}(h:evF Κ Φ it ρ=.ok (g,xs.map m,ρ1))(I:List β->Rho->Prop)(h0:I [] ρ1)
  (hf:∀pre x post ρ,xs=pre++x::post->I pre ρ->∃ρ',(z0s t' (gJ (m x) g,m x) ρ>>=fun ρ2=>evS Κ Φ p ρ2)=.ok (.nx ρ')/\I (pre++[x]) ρ') (hk:∀ρ',I xs ρ'->Q (evS Κ Φ rest ρ')):Q (evS Κ Φ (.seq (.for_ t' it p) rest) ρ):=by
 obtain⟨ρ',e,i⟩:=z8d (f:=fun x ρ1=>z0s t' (gJ x g,x) ρ1>>=fun ρ2=>evS Κ Φ p ρ2) I xs [] ρ1 hf h0;rw[z0h (z97 h e) rfl];exact hk ρ' i
theorem z85 {Q:Res Out->Prop}{β:Type}{t':Tg}{it:C}{p rest:S}{m:β->D}{xs:List β}{ρ1:Rho}(h:evF Κ Φ it ρ=.ok (g,xs.map m,ρ1))(I:List β->Rho->Prop)(h0:I [] ρ1)
  (hf:∀pre x post ρ,xs=pre++x::post->I pre ρ->∃ρ2 ρ',z0s t' (gJ (m x) g,m x) ρ=.ok ρ2/\evS Κ Φ p ρ2=.ok (.nx ρ')/\I (pre++[x]) ρ') (hk:∀ρ',I xs ρ'->Q (evS Κ Φ rest ρ')):Q (evS Κ Φ (.seq (.for_ t' it p) rest) ρ):=
 zjx h I h0 (fun pre x post ρ hx hI=>by obtain⟨ρ2,ρ',h1,h2,h3⟩:=hf pre x post ρ hx hI;exact⟨ρ',by rw[h1,Res.ok_bind,h2],h3⟩) hk
theorem z57 {Q:Res Out->Prop}{p rest:S}(hc:Tt Κ Φ c ρ k)(hk:k=false)(h:Q (evS Κ Φ rest ρ)):Q (evS Κ Φ (.seq (.ifS c p .nil) rest) ρ):=by rw[z0d hc hk rfl];exact h
end
end
end Mk
namespace Mk
open PySem Mi
def S_z0:S:=(.seq (.ret (.mt "get" (.agg "dict" (.tv (.var 0))) (.cons (.var 1) (.cons (.int 0) .nil)))) .nil)
def F_z0:Fn:=runD [] [] 2 S_z0
def S_z1:S:=(.seq (.asg (.nm 3) (.ix (.var 0) (.int 0)))
 (.seq (.ifS (.tv (.cmp .Eq (.var 3) (.str "at")))
 (.seq (.ret (.cmp .GtE (.call 1 "degree" (.cons (.var 1) (.cons (.ix (.var 0) (.int 1)) .nil))) (.ix (.var 0) (.int 2))))
 .nil)
 .nil)
 (.seq (.ifS (.tv (.cmp .Eq (.var 3) (.str "is")))
 (.seq (.ret (.cmp .In (.ix (.var 0) (.int 1)) (.var 2)))
 .nil)
 .nil)
 (.seq (.ifS (.tv (.cmp .Eq (.var 3) (.str "not")))
 (.seq (.ret (.not (.call 0 "holds" (.cons (.ix (.var 0) (.int 1)) (.cons (.var 1) (.cons (.var 2) .nil))))))
 .nil)
 .nil)
 (.seq (.ifS (.tv (.cmp .Eq (.var 3) (.str "and")))
 (.seq (.ret (.and (.call 0 "holds" (.cons (.ix (.var 0) (.int 1)) (.cons (.var 1) (.cons (.var 2) .nil)))) (.call 0 "holds" (.cons (.ix (.var 0) (.int 2)) (.cons (.var 1) (.cons (.var 2) .nil))))))
 .nil)
 .nil)
 (.seq (.ret (.or (.call 0 "holds" (.cons (.ix (.var 0) (.int 1)) (.cons (.var 1) (.cons (.var 2) .nil)))) (.call 0 "holds" (.cons (.ix (.var 0) (.int 2)) (.cons (.var 1) (.cons (.var 2) .nil))))))
 .nil))))))
def S_z2:S:=(.seq .bad (.seq .bad (.seq .bad (.seq .bad (.seq .bad (.seq .bad .nil))))))
def F_z1:Nat->Fn
 |0=>runD [] [] 4 S_z2
 |k+1=>runD [] [F_z1 k,F_z0] 4 S_z1
def S_z3:S:=(.seq (.asg (.nm 3) (.ix (.var 0) (.int 0)))
 (.seq (.ifS (.tv (.cmp .Eq (.var 3) (.str "some")))
 (.seq (.ret (.agg "any" (.tv (.comp 2 [0] ["thing","words","asking"] (.tp [0,1]) (.zip (.var 1) (.var 2)) .nil (.call 1 "holds" (.cons (.ix (.var 2) (.int 1)) (.cons (.var 0) (.cons (.var 1) .nil))))))))
 .nil)
 .nil)
 (.seq (.ifS (.tv (.cmp .Eq (.var 3) (.str "all")))
 (.seq (.ret (.agg "all" (.tv (.comp 2 [0] ["thing","words","asking"] (.tp [0,1]) (.zip (.var 1) (.var 2)) .nil (.call 1 "holds" (.cons (.ix (.var 2) (.int 1)) (.cons (.var 0) (.cons (.var 1) .nil))))))))
 .nil)
 .nil)
 (.seq (.ifS (.tv (.cmp .Eq (.var 3) (.str "not")))
 (.seq (.ret (.not (.call 0 "so" (.cons (.ix (.var 0) (.int 1)) (.cons (.var 1) (.cons (.var 2) .nil))))))
 .nil)
 .nil)
 (.seq (.ifS (.tv (.cmp .Eq (.var 3) (.str "and")))
 (.seq (.ret (.and (.call 0 "so" (.cons (.ix (.var 0) (.int 1)) (.cons (.var 1) (.cons (.var 2) .nil)))) (.call 0 "so" (.cons (.ix (.var 0) (.int 2)) (.cons (.var 1) (.cons (.var 2) .nil))))))
 .nil)
 .nil)
 (.seq (.ret (.or (.call 0 "so" (.cons (.ix (.var 0) (.int 1)) (.cons (.var 1) (.cons (.var 2) .nil)))) (.call 0 "so" (.cons (.ix (.var 0) (.int 2)) (.cons (.var 1) (.cons (.var 2) .nil))))))
 .nil))))))
def S_z4:S:=(.seq .bad (.seq .bad (.seq .bad (.seq .bad (.seq .bad (.seq .bad .nil))))))
def F_z3:Nat->Fn
 |0=>runD [] [] 4 S_z4
 |k+1=>runD [] [F_z3 k,(F_z1 6)] 4 S_z3
def S_z5:S:=(.seq (.asg (.nm 2) (.bin .Add (.bin .Add (.bin .Mod (.var 0) (.int 1000000007)) (.bin .Mult (.int 31) (.var 1))) (.int 1)))
 (.seq (.ret (.bin .Mod (.bin .Mult (.bin .Mod (.bin .Mult (.var 2) (.var 2)) (.int 2147483629)) (.bin .Add (.var 1) (.int 7))) (.int 2147483647)))
 .nil))
def F_z5:Fn:=runD [] [] 3 S_z5
def S_z6:S:=(.seq (.ret (.ix (.lst (.cons (.int 1) (.cons (.int 2) (.cons (.bin .Add (.int 1) (.bin .Mod (.var 0) (.int 9))) (.cons (.bin .Add (.int 1) (.bin .Mod (.bin .Mult (.var 0) (.int 48271)) (.bin .Pow (.int 10) (.int 30)))) (.cons (.bin .Pow (.int 10) (.int 30)) .nil)))))) (.bin .Mod (.var 0) (.int 5)))) .nil)
def F_z6:Fn:=runD [] [] 1 S_z6
def S_z7:S:=(.seq (.asg (.nm 2) (.lst .nil))
 (.seq (.for_ (.nm 3) (.rng (.cons (.var 1) .nil))
 (.seq (.asg (.nm 4) (.lst .nil))
 (.seq (.for_ (.nm 5) (.rng (.cons (.int 4) .nil))
 (.seq (.asg (.nm 6) (.call 0 "_law_mix" (.cons (.var 0) (.cons (.bin .Add (.bin .Mult (.int 9) (.var 3)) (.var 5)) .nil))))
 (.seq (.asg (.nm 7) (.bin .Sub (.bin .Add (.call 1 "_law_number" (.cons (.call 0 "_law_mix" (.cons (.var 0) (.cons (.bin .Add (.int 60) (.bin .Mod (.var 6) (.int 3))) .nil))) .nil)) (.bin .Mod (.bin .FloorDiv (.var 6) (.int 3)) (.int 3))) (.int 1)))
 (.seq (.ifS (.and (.tv (.cmp .Gt (.var 7) (.int 0))) (.tv (.cmp .Gt (.bin .Mod (.var 6) (.int 5)) (.int 0))))
 (.seq (.mut "append" 4 (.cons (.tup (.cons (.bin .Add (.str "fact") (.ix (.str "abcd") (.var 5))) (.cons (.bi "min" (.cons (.var 7) (.cons (.bin .Pow (.int 10) (.int 30)) .nil))) .nil))) .nil))
 .nil)
 .nil)
 .nil))))
 (.seq (.asg (.nm 8) (.comp 1 [0,3] ["_law_j","_law_cell","_law_k"] (.nm 0) (.rng (.cons (.int 3) .nil)) (.tv (.cmp .Eq (.bin .Mod (.call 0 "_law_mix" (.cons (.var 1) (.cons (.bin .Add (.bin .Add (.bin .Mult (.int 9) (.var 2)) (.int 4)) (.var 0)) .nil))) (.int 2)) (.int 0))) (.bin .Add (.str "word") (.ix (.str "abc") (.var 0)))))
 (.seq (.frz 8 (.mut "append" 2 (.cons (.lst (.cons (.agg "tuple" (.tv (.var 4))) (.cons (.var 8) .nil))) .nil)))
 .nil)))))
 (.seq (.ret (.var 2))
 .nil)))
def F_z7:Fn:=runD [] [F_z5,F_z6] 9 S_z7
def S_z8:S:=(.seq (.for_ (.tp [2,3]) (.tv (.var 0))
 (.seq (.ifS (.tv (.cmp .Eq (.var 2) (.var 1)))
 (.seq (.ret (.var 3))
 .nil)
 .nil)
 .nil))
 (.seq (.ret (.int 0))
 .nil))
def F_z8:Fn:=runD [] [] 4 S_z8
def S_z9:S:=(.seq (.ifS (.tv (.cmp .Eq (.bin .Mod (.var 0) (.int 3)) (.int 0)))
 (.seq (.asg (.nm 3) (.bin .Add (.str "word") (.ix (.str "abc") (.bin .Mod (.bin .FloorDiv (.var 0) (.int 3)) (.int 3)))))
 (.seq (.ret (.lst (.cons (.tup (.cons (.str "is") (.cons (.var 3) .nil))) (.cons (.int 1) (.cons (.comp 1 [3] ["_law_thing","_law_name"] (.nm 0) (.tv (.var 2)) .nil (.cmp .In (.var 1) (.ix (.var 0) (.int 1)))) .nil)))))
 .nil))
 .nil)
 (.seq (.asg (.nm 3) (.bin .Add (.str "fact") (.ix (.str "abcd") (.bin .Mod (.bin .FloorDiv (.var 0) (.int 3)) (.int 4)))))
 (.seq (.asg (.nm 4) (.call 1 "_law_number" (.cons (.call 2 "_law_mix" (.cons (.var 1) (.cons (.bin .Add (.int 60) (.bin .Mod (.bin .FloorDiv (.var 0) (.int 12)) (.int 3))) .nil))) .nil)))
 (.seq (.ret (.lst (.cons (.tup (.cons (.str "at") (.cons (.var 3) (.cons (.var 4) .nil)))) (.cons (.int 1) (.cons (.comp 1 [4,3] ["_law_thing","_law_least","_law_name"] (.nm 0) (.tv (.var 2)) .nil (.cmp .GtE (.call 0 "_law_degree" (.cons (.ix (.var 0) (.int 0)) (.cons (.var 2) .nil))) (.var 1))) .nil)))))
 .nil))))
def F_z9:Fn:=runD [] [F_z8,F_z6,F_z5] 5 S_z9
def zb1:S:=(.seq (.asg (.nm 3) (.lst .nil))
 (.seq (.for_ (.nm 4) (.rng (.cons (.bi "len" (.cons (.ix (.var 1) (.int 2)) .nil)) .nil))
 (.seq (.ifS (.tv (.cmp .Eq (.var 0) (.str "and")))
 (.seq (.mut "append" 3 (.cons (.and (.ix (.ix (.var 1) (.int 2)) (.var 4)) (.ix (.ix (.var 2) (.int 2)) (.var 4))) .nil))
 .nil)
 (.seq (.mut "append" 3 (.cons (.or (.ix (.ix (.var 1) (.int 2)) (.var 4)) (.ix (.ix (.var 2) (.int 2)) (.var 4))) .nil))
 .nil))
 .nil))
 (.seq (.ret (.lst (.cons (.tup (.cons (.var 0) (.cons (.ix (.var 1) (.int 0)) (.cons (.ix (.var 2) (.int 0)) .nil)))) (.cons (.bin .Add (.int 1) (.bi "max" (.cons (.ix (.var 1) (.int 1)) (.cons (.ix (.var 2) (.int 1)) .nil)))) (.cons (.var 3) .nil)))))
 .nil)))
def zbe:Fn:=runD [] [] 5 zb1
def zb3:S:=(.seq (.asg (.nm 4) (.bin .Mod (.var 1) (.int 7)))
 (.seq (.ifS (.and (.tv (.cmp .Eq (.var 4) (.int 6))) (.and (.tv (.cmp .Gt (.bi "len" (.cons (.var 0) .nil)) (.int 0))) (.tv (.cmp .Lt (.ix (.ix (.var 0) (.neg (.int 1))) (.int 1)) (.int 5)))))
 (.seq (.asg (.nm 5) (.ix (.var 0) (.neg (.int 1))))
 (.seq (.ret (.bin .Add (.sl (.var 0) .nil (.tv (.neg (.int 1)))) (.lst (.cons (.lst (.cons (.tup (.cons (.str "not") (.cons (.ix (.var 5) (.int 0)) .nil))) (.cons (.bin .Add (.ix (.var 5) (.int 1)) (.int 1)) (.cons (.comp 1 [] ["_law_truth_here"] (.nm 0) (.tv (.ix (.var 5) (.int 2))) .nil (.not (.var 0))) .nil)))) .nil))))
 .nil))
 .nil)
 (.seq (.ifS (.and (.tv (.cmp .Gt (.var 4) (.int 2))) (.and (.tv (.cmp .Gt (.bi "len" (.cons (.var 0) .nil)) (.int 1))) (.and (.tv (.cmp .Lt (.ix (.ix (.var 0) (.neg (.int 1))) (.int 1)) (.int 5))) (.tv (.cmp .Lt (.ix (.ix (.var 0) (.neg (.int 2))) (.int 1)) (.int 5))))))
 (.seq (.ret (.bin .Add (.sl (.var 0) .nil (.tv (.neg (.int 2)))) (.lst (.cons (.call 1 "_law_joined" (.cons (.ix (.lst (.cons (.str "and") (.cons (.str "or") .nil))) (.bin .Mod (.var 4) (.int 2))) (.cons (.ix (.var 0) (.neg (.int 2))) (.cons (.ix (.var 0) (.neg (.int 1))) .nil)))) .nil))))
 .nil)
 .nil)
 (.seq (.ret (.sl (.bin .Add (.var 0) (.lst (.cons (.call 0 "_law_atom" (.cons (.bin .FloorDiv (.var 1) (.int 7)) (.cons (.var 2) (.cons (.var 3) .nil)))) .nil))) (.tv (.neg (.int 6))) .nil))
 .nil))))
def z6j:Fn:=runD [] [F_z9,zbe] 6 zb3
def zdr:S:=(.seq (.ret (.and (.isT (.var 0) ["bool"]) (.cmp .Eq (.var 0) (.var 1)))) .nil)
def z5f:Fn:=runD [] [] 2 zdr
def z9d:S:=(.seq (.asg (.nm 3) (.comp 1 [] ["_law_thing"] (.nm 0) (.tv (.var 2)) .nil (.ix (.var 0) (.int 0))))
 (.seq (.asg (.nm 4) (.comp 1 [] ["_law_thing"] (.nm 0) (.tv (.var 2)) .nil (.agg "list" (.tv (.ix (.var 0) (.int 1))))))
 (.seq (.for_ (.nm 5) (.tv (.lst (.cons (.bi "len" (.cons (.var 2) .nil)) (.cons (.int 1) (.cons (.int 0) .nil)))))
 (.seq (.asg (.nm 6) (.cmp .In (.bl true) (.sl (.var 1) .nil (.tv (.var 5)))))
 (.seq (.asg (.nm 7) (.cmp .NotIn (.bl false) (.sl (.var 1) .nil (.tv (.var 5)))))
 (.seq (.asg (.nm 8) (.tup (.cons (.str "some") (.cons (.var 0) .nil))))
 (.seq (.asg (.nm 9) (.tup (.cons (.str "all") (.cons (.var 0) .nil))))
 (.seq (.asg (.nm 10) (.lst (.cons (.tup (.cons (.var 8) (.cons (.var 6) .nil))) (.cons (.tup (.cons (.var 9) (.cons (.var 7) .nil))) (.cons (.tup (.cons (.tup (.cons (.str "not") (.cons (.var 8) .nil))) (.cons (.not (.var 6)) .nil))) (.cons (.tup (.cons (.tup (.cons (.str "and") (.cons (.var 8) (.cons (.var 9) .nil)))) (.cons (.and (.var 6) (.var 7)) .nil))) .nil))))))
 (.seq (.asg (.nm 10) (.bin .Add (.var 10) (.lst (.cons (.tup (.cons (.tup (.cons (.str "or") (.cons (.var 9) (.cons (.tup (.cons (.str "not") (.cons (.var 8) .nil))) .nil)))) (.cons (.or (.var 7) (.not (.var 6))) .nil))) .nil))))
 (.seq (.for_ (.tp [11,12]) (.tv (.var 10))
 (.seq (.ifS (.not (.tv (.call 0 "_law_truth" (.cons (.call 1 "so" (.cons (.var 11) (.cons (.sl (.var 3) .nil (.tv (.var 5))) (.cons (.sl (.var 4) .nil (.tv (.var 5))) .nil)))) (.cons (.var 12) .nil)))))
 (.seq (.ret (.bl false))
 .nil)
 .nil)
 .nil))
 .nil))))))))
 (.seq (.ret (.cmp .Eq (.var 4) (.comp 1 [] ["_law_thing"] (.nm 0) (.tv (.var 2)) .nil (.ix (.var 0) (.int 1)))))
 .nil))))
def z98:Fn:=runD [] [z5f,(F_z3 4)] 13 z9d
def z7b:S:=(.seq (.asg (.nm 1) (.call 5 "_law_mix" (.cons (.agg "sum" (.tv (.sl (.var 0) .nil (.tv (.int 63))))) (.cons (.int 1) .nil))))
 (.seq (.asg (.nm 2) (.call 6 "_law_things" (.cons (.var 1) (.cons (.bin .Add (.int 1) (.bin .Mod (.var 1) (.int 4))) .nil))))
 (.seq (.asg (.nm 3) (.lst .nil))
 (.seq (.for_ (.nm 4) (.tv (.sl (.var 0) .nil (.tv (.int 60))))
 (.seq (.frz 3 (.asg (.nm 3) (.caln 4 "_law_step" (.cons (.var 3) (.cons (.call 5 "_law_mix" (.cons (.var 4) (.cons (.int 2) .nil))) (.cons (.var 1) (.cons (.var 2) .nil)))))))
 .nil))
 (.dpp 3 (.call 3 "_law_atom" (.cons (.var 1) (.cons (.var 1) (.cons (.var 2) .nil))))
 (.seq (.for_ (.tp [5,6,7]) (.tv (.var 3))
 (.seq (.for_ (.tp [8,9]) (.enum (.var 2))
 (.seq (.asg (.nm 10) (.agg "list" (.tv (.ix (.var 9) (.int 1)))))
 (.seq (.ifS (.or (.not (.tv (.call 1 "_law_truth" (.cons (.call 2 "holds" (.cons (.var 5) (.cons (.ix (.var 9) (.int 0)) (.cons (.var 10) .nil)))) (.cons (.ix (.var 7) (.var 8)) .nil))))) (.tv (.cmp .NotEq (.var 10) (.ix (.var 9) (.int 1)))))
 (.seq (.ret (.bl false))
 .nil)
 .nil)
 .nil)))
 (.seq (.ifS (.not (.tv (.call 0 "_law_asked" (.cons (.var 5) (.cons (.var 7) (.cons (.var 2) .nil))))))
 (.seq (.ret (.bl false))
 .nil)
 .nil)
 .nil)))
 (.seq (.ret (.bl true))
 .nil)))))))
def z7t:Fn:=runD [] [z98,z5f,(F_z1 6),F_z9,z6j,F_z5,F_z7] 11 z7b
def up (l:P):P:=(srt l).filter fun p=>decide (0<p.2)
def mt (a b:P):P:=(a.filter fun p=>decide (p.1∈ks b)).map fun p=>(p.1,min p.2 (look b p.1))
def wi (a b:P):Bool:=(a.filter fun p=>decide (look b p.1<p.2)).isEmpty
def sd (b:Bool):Str:=if b then "for"else "against"
def own (b:Bool)(f a:P):P:=if b then f else a
def opp (b:Bool)(f a:P):P:=if b then a else f
def bi (b:Bool)(f a r f' a':P):Bool:=wi r (own b f' a')&&wi (opp b f' a') (opp b f a)
theorem z47 {a b:Int}(h:0<b)(h2:b<2 ^ 200):binD .FloorDiv (.int a) (.int b)=.ok (.int (a/b)):=by show(if _ then _ else _)=_;rw[if_pos ⟨h,h2⟩]
theorem e_sl {Κ:List D}{Φ:List Fn}{ρ:Rho}{a b c:C}{x d:D}{i j:Option Int}(ha:Ev Κ Φ a ρ x)(hb:Oo Κ Φ b ρ i)(hc:Oo Κ Φ c ρ j)(h:slD x i j=.ok d):Ev Κ Φ (.sl a b c) ρ d:=by obtain⟨g1,ha⟩:=ha;unfold Oo at hb hc;exact⟨_,by rw[E_sl];rw[ha,Res.ok_bind,hb,Res.ok_bind,hc,Res.ok_bind];dsimp only;rw[h,Res.ok_bind]⟩
theorem z5g {α β:Type}(f:α->β)(xs:List α)(i j:Option Int):cut (xs.map f) i j=(cut xs i j).map f:=by unfold cut;rw[aw,List.map_take,List.map_drop]
theorem z7r (xs:List Int)(i j:Option Int):slD (.list (xs.map .int)) i j=.ok (.list ((cut xs i j).map .int)):=by show Res.ok (PyData.list (cut (xs.map PyData.int) i j))=_;rw[z5g]
def Nx (I:Rho->Prop)(z:Res Out):Prop:=∃ρ',z=.ok (.nx ρ')/\I ρ'
theorem zc2 {Κ:List D}{Φ:List Fn}{ρ:Rho}{I:Rho->Prop}(h:I ρ):Nx I (evS Κ Φ .nil ρ):=⟨ρ,z0t,h⟩
theorem zda {j:Nat}{d:D}{g:G}{ρ:Rho}(hi:imm d=true):z0s (.nm j) (gJ d g,d) ρ=.ok (ρ.set j (some (.al,d))):=by rw[z16 hi];rfl
theorem q_nm {Κ:List D}{Φ:List Fn}{ρ:Rho}{g:G}{Q:Res Out->Prop}{β:Type}{j:Nat}{it:C}{p rest:S}{m:β->D}{xs:List β}{ρ1:Rho}(h:evF Κ Φ it ρ=.ok (g,xs.map m,ρ1))(hm:∀x,imm (m x)=true)(I:List β->Rho->Prop)(h0:I [] ρ1)
  (hf:∀pre x post ρ,xs=pre++x::post->I pre ρ->Nx (I (pre++[x])) (evS Κ Φ p (ρ.set j (some (.al,m x))))) (hk:∀ρ',I xs ρ'->Q (evS Κ Φ rest ρ')):Q (evS Κ Φ (.seq (.for_ (.nm j) it p) rest) ρ):=
 z85 h I h0 (fun pre x post ρ hx hI=>by obtain⟨ρ',h1,h2⟩:=hf pre x post ρ hx hI;exact⟨_,ρ',zda (hm x),h1,h2⟩) hk
theorem ix_m {β:Type}(m:β->D){xs:List β}{i:Int}(d:β)(h0:0<=i)(h1:i<xs.length):ixD (.list (xs.map m)) (.int i)=.ok (m (xs.getD i.toNat d)):=by
 show Res.ofO (atI (xs.map m) i)=_;rw[zdk _ i (m d) h0 (by rw[aw];exact h1)];show Res.ok _=_
 congr 1
 have:i.toNat<xs.length:=by omega
 rw[av,av,a9,ba this];rfl
theorem zee (xs:List D):biD "len" [.list xs]=.ok (.int (xs.length:Int)):=rfl
theorem zif (xs:List D)(a b:D):ixD (.list (xs++[a,b])) (.int (-2))=.ok a:=by show Res.ofO (atI (xs++[a,b]) (-2))=_;unfold atI ixN;rw[if_neg (by decide),a0,if_pos (by simp only[bh,ki];omega)];show Res.ofO ((xs++[a,b])[((-2:Int)+((xs.length+2:Nat):Int)).toNat]?)=_;rw[show((-2:Int)+((xs.length+2:Nat):Int)).toNat=xs.length by omega,cy (ag _),mq];rfl
theorem z69 {β:Type}{m:β->D}(h:∀x,imm (m x)=true)(xs:List β):imms (xs.map m)=true:=z1e.mpr fun x hx=>by obtain⟨p,_,rfl⟩:=ci.mp hx;exact h p
theorem z9c {β:Type}{f:D->Rho->Res Out}{m:β->D}{Q:Res Out->Prop}(I:List β->Rho->Prop):∀(xs pre:List β) (ρ:Rho),(∀pr' x post ρ,pre++xs=pr'++x::post->I pr' ρ->(∃ρ',f (m x) ρ=.ok (.nx ρ')/\I (pr'++[x]) ρ')\/∃g d,f (m x) ρ=.ok (.rt g d)/\Q (.ok (.rt g d)))->I pre ρ->(∃ρ',forD f (xs.map m) ρ=.ok (.nx ρ')/\I (pre++xs) ρ')\/∃g d,forD f (xs.map m) ρ=.ok (.rt g d)/\Q (.ok (.rt g d))
 | [],pre,ρ,_,h=>.inl ⟨ρ,rfl,by rw[eh];exact h⟩
 |x::xs,pre,ρ,hf,h=>by
  rcases hf pre x xs ρ rfl h with⟨ρ',e,h'⟩|⟨g,d,e,q⟩
  ·have e2:pre++x::xs=(pre++[x])++xs:=by simp
   rcases z9c I xs (pre++[x]) ρ' (fun a b c r hh=>hf a b c r (e2.trans hh)) h' with⟨ρ2,e3,h3⟩|⟨g,d,e3,q⟩
   ·exact .inl ⟨ρ2,by rw[ay];show(match f (m x) ρ with|.ok (.nx ρ')=>forD f (xs.map m) ρ'|.ok (.ct ρ')=>forD f (xs.map m) ρ'|.ok (.bk ρ')=>.ok (.nx ρ')|.ok (.rt g d)=>.ok (.rt g d)|.exc e=>.exc e|.no=>.no)=_;rw[e];exact e3,by rw[e2];exact h3⟩
   ·exact .inr ⟨g,d,by rw[ay];show(match f (m x) ρ with|.ok (.nx ρ')=>forD f (xs.map m) ρ'|.ok (.ct ρ')=>forD f (xs.map m) ρ'|.ok (.bk ρ')=>.ok (.nx ρ')|.ok (.rt g d)=>.ok (.rt g d)|.exc e=>.exc e|.no=>.no)=_;rw[e];exact e3,q⟩
  ·exact .inr ⟨g,d,by rw[ay];show(match f (m x) ρ with|.ok (.nx ρ')=>forD f (xs.map m) ρ'|.ok (.ct ρ')=>forD f (xs.map m) ρ'|.ok (.bk ρ')=>.ok (.nx ρ')|.ok (.rt g d)=>.ok (.rt g d)|.exc e=>.exc e|.no=>.no)=_;rw[e],q⟩
theorem zm9 {Κ:List D}{Φ:List Fn}{ρ:Rho}{g:G}{Q:Res Out->Prop}{β:Type}{t':Tg}{it:C}{p rest:S}{m:β->D}{xs:List β}{ρ1:Rho}(h:evF Κ Φ it ρ=.ok (g,xs.map m,ρ1))(I:List β->Rho->Prop)(h0:I [] ρ1)
  (hf:∀pre x post ρ,xs=pre++x::post->I pre ρ->∃ρ2,z0s t' (gJ (m x) g,m x) ρ=.ok ρ2/\(Nx (I (pre++[x])) (evS Κ Φ p ρ2)\/∃g d,evS Κ Φ p ρ2=.ok (.rt g d)/\Q (.ok (.rt g d)))) (hk:∀ρ',I xs ρ'->Q (evS Κ Φ rest ρ')):Q (evS Κ Φ (.seq (.for_ t' it p) rest) ρ):=by
 rcases z9c (f:=fun x ρ1=>z0s t' (gJ x g,x) ρ1>>=fun ρ2=>evS Κ Φ p ρ2) (m:=m) (Q:=Q) I xs [] ρ1 (fun pre x post ρ hx hI=>by
  obtain⟨ρ2,e,hh⟩:=hf pre x post ρ hx hI;rcases hh with⟨ρ',h1,h2⟩|⟨g',d,h1,h2⟩
  ·exact .inl ⟨ρ',by rw[e,Res.ok_bind,h1],h2⟩
  ·exact .inr ⟨g',d,by rw[e,Res.ok_bind,h1],h2⟩) h0 with⟨ρ',e,i⟩|⟨g',d,e,q⟩
 ·rw[z0h (z97 h e) rfl];exact hk ρ' i
 ·rw[z0c (z97 h e)];exact q
theorem zgy {α:Type}{xs:List α}{x:α×Nat}(h:x∈xs.zipIdx):xs[x.2]?=some x.1:=List.mem_zipIdx_iff_getElem?.mp h
theorem zbg {Φ:List Fn}{ρ:Rho}{t:C}{i j:Int}(h:Ev [] Φ t ρ (.int i)):Tt [] Φ (.tv (.cmp .Eq t (.int j))) ρ (decide (i=j)):=t_tv (z1c (k:=decide (i=j)) h z04.e (by show Res.ok (eqD (.int _) (.int _))=_;rw[z7g])).e rfl
theorem z37 (a b:Str):eqD (.str a) (.str b)=decide (a=b):=by
 show(a==b)=_;by_cases h:a=b
 ·rw[nv h,h];exact beq_self_eq_true b
 ·rw[ny h];exact beq_false_of_ne h
theorem z1z (n:Nat)(ws:List Str):z0u n (ws.map .str)=true:=z1o.mpr fun x hx=>by obtain⟨w,_,rfl⟩:=ci.mp hx;cases n<;>rfl
abbrev Th:=P×List Str
def wl (t:Th):D:=.list (t.2.map .str)
def th (t:Th):D:=.list [pk t.1,wl t]
def GT (t:Th):Prop:=(ks t.1).Nodup
inductive Sy where
 |at_ (n:Str) (k:Int)|is_ (n:Str)|not_ (a:Sy)|and_ (a b:Sy)|or_ (a b:Sy)
def sy:Sy->D
 |.at_ n k=>.tuple [.str "at",.str n,.int k]
 |.is_ n=>.tuple [.str "is",.str n]
 |.not_ a=>.tuple [.str "not",sy a]
 |.and_ a b=>.tuple [.str "and",sy a,sy b]
 |.or_ a b=>.tuple [.str "or",sy a,sy b]
def dp:Sy->Nat
 |.at_ _ _=>1
 |.is_ _=>1
 |.not_ a=>dp a+1
 |.and_ a b=>1+max (dp a) (dp b)
 |.or_ a b=>1+max (dp a) (dp b)
def hd:Sy->Th->Bool
 |.at_ n k,t=>decide (k<=look t.1 n)
 |.is_ n,t=>t.2.contains n
 |.not_ a,t=>!hd a t
 |.and_ a b,t=>hd a t&&hd b t
 |.or_ a b,t=>hd a t||hd b t
theorem z0v:∀s:Sy,imm (sy s)=true
 |.at_ _ _=>rfl
 |.is_ _=>rfl
 |.not_ a=>by show(true&&(imm (sy a)&&true))=true;rw[z0v a];rfl
 |.and_ a b=>by show(true&&(imm (sy a)&&(imm (sy b)&&true)))=true;rw[z0v a,z0v b];rfl
 |.or_ a b=>by show(true&&(imm (sy a)&&(imm (sy b)&&true)))=true;rw[z0v a,z0v b];rfl
def kd:Sy->Str
 |.at_ _ _=>"at"
 |.is_ _=>"is"
 |.not_ _=>"not"
 |.and_ _ _=>"and"
 |.or_ _ _=>"or"
theorem zm3 (s:Sy):ixD (sy s) (.int 0)=.ok (.str (kd s)):=by cases s<;>rfl
theorem z0o {Φ:List Fn}{ρ:Rho}{i:Nat}{g:G}{a b:Str}(h:ρ[i]?=some (some (g,.str a))):Tt [] Φ (.tv (.cmp .Eq (.var i) (.str b))) ρ (decide (a=b)):=t_tv (z1c (k:=decide (a=b)) (z01 h) z1g.e (by show Res.ok (eqD (.str a) (.str b))=_;rw[z37])).e rfl
theorem z89 (n:Str)(ws:List Str):cmpD .In (.str n) (.list (ws.map .str))=.ok (ws.contains n):=by
 show(if(shal 40 (.str n)&&z0u 40 (ws.map .str))=true then Res.ok ((ws.map PyData.str).any fun y=>eqD y (.str n))else .no)=_;rw[z1z];show Res.ok _=_
 congr 1
 rw[mr]
 induction ws with
 |nil=>rfl
 |cons w ws ih=>
  rw[d4,ih,List.contains_cons];show(eqD (.str w) (.str n)||_)=_;rw[z37]
  congr 1
  by_cases h:w=n
  ·rw[nv h,h,beq_self_eq_true]
  ·rw[ny h];exact(beq_false_of_ne fun z=>h z.symm).symm
theorem zgs {l:P}(nd:(ks l).Nodup)(n:Str):F_z0 [pk l,.str n]=.ok (.fr,.int (look l n)):=by unfold F_z0;refine z13 ?_;unfold S_z0;obtain⟨g,e⟩:Ev [] [] (.agg "dict" (.tv (.var 0))) [some (.od,pk l),some (.od,.str n)] (.dict (en l)):=⟨_,za8 (w:=(false,l.map pr)) (z01 rfl) rfl (zb9 false nd) (z5h l)⟩;exact z0c (z0p (v_mt ⟨g,e⟩ (z00 (z01 rfl) (z00 z04.e z0a)) (zas l n) rfl))
theorem e_z1:∀(k:Nat) (s:Sy),dp s<=k->∀{t:Th},GT t->F_z1 k [sy s,pk t.1,wl t]=.ok (.fr,.bool (hd s t))
 |0,s,h,t,_=>by cases s<;>simp[dp]at h
 |k+1,s,h,t,gt=>by
  show runD [] [F_z1 k,F_z0] 4 S_z1 [sy s,pk t.1,wl t]=_;refine z13 ?_;unfold S_z1;refine z0h (z10 (d:=.str (kd s)) (v_ix (z01 rfl) z04.e (zm3 s) rfl)) ?_
  let R:Rho:=[some (.od,sy s),some (.od,pk t.1),some (.od,wl t),some (.al,.str (kd s))]
  have hx:∀(a:Sy),dp a<=k->∀{i:Int},ixD (sy s) (.int i)=.ok (sy a)->Vv [] [F_z1 k,F_z0] (.call 0 "holds" (.cons (.ix (.var 0) (.int i)) (.cons (.var 1) (.cons (.var 2) .nil)))) R (.bool (hd a t)):=fun a ha i hi=>z0q (z00 (v_ix (z01 rfl) z04.e hi (z0v a)).e (z00 (z01 rfl) (z00 (z01 rfl) z0a))) rfl (e_z1 k a ha gt) rfl;cases s with
  |at_ n m=>refine z0c (z18 (z0o rfl) (fun _=>z0c (z0p (z1c (z0q (z00 (z01 rfl) (z00 (v_ix (d:=.str n) (z01 rfl) z04.e rfl rfl).e z0a)) rfl (zgs gt n) rfl).e (v_ix (d:=.int m) (z01 rfl) z04.e rfl rfl).e rfl))) fun z=>(nq z rfl).elim)
  |is_ n=>refine z0d (z0o rfl) rfl ?_;refine z0c (z18 (z0o rfl) (fun _=>z0c (z0p (z1c (v_ix (d:=.str n) (z01 rfl) z04.e rfl rfl).e (z01 rfl) (z89 n t.2)))) fun z=>(nq z rfl).elim)
  |not_ a=>refine z0d (z0o rfl) rfl ?_;refine z0d (z0o rfl) rfl ?_;refine z0c (z18 (z0o rfl) (fun _=>z0c (z0p (v_not (hx a (by simp only[dp]at h;omega) rfl).e rfl))) fun z=>(nq z rfl).elim)
  |and_ a b=>refine z0d (z0o rfl) rfl ?_;refine z0d (z0o rfl) rfl ?_;refine z0d (z0o rfl) rfl ?_;refine z0c (z18 (z0o rfl) (fun _=>z0c (z0p (v_and (hx a (by simp only[dp]at h;omega) rfl).e fun _=>hx b (by simp only[dp]at h;omega) rfl))) fun z=>(nq z rfl).elim)
  |or_ a b=>refine z0d (z0o rfl) rfl ?_;refine z0d (z0o rfl) rfl ?_;refine z0d (z0o rfl) rfl ?_;refine z0d (z0o rfl) rfl ?_;exact z0c (z0p (v_or (hx a (by simp only[dp]at h;omega) rfl).e fun _=>hx b (by simp only[dp]at h;omega) rfl))
inductive Ak where
 |some_ (s:Sy)|all_ (s:Sy)|not_ (a:Ak)|and_ (a b:Ak)|or_ (a b:Ak)
def ak:Ak->D
 |.some_ s=>.tuple [.str "some",sy s]
 |.all_ s=>.tuple [.str "all",sy s]
 |.not_ a=>.tuple [.str "not",ak a]
 |.and_ a b=>.tuple [.str "and",ak a,ak b]
 |.or_ a b=>.tuple [.str "or",ak a,ak b]
def da:Ak->Nat
 |.some_ _=>1
 |.all_ _=>1
 |.not_ a=>da a+1
 |.and_ a b=>1+max (da a) (da b)
 |.or_ a b=>1+max (da a) (da b)
def sd6:Ak->Nat
 |.some_ s=>dp s
 |.all_ s=>dp s
 |.not_ a=>sd6 a
 |.and_ a b=>max (sd6 a) (sd6 b)
 |.or_ a b=>max (sd6 a) (sd6 b)
def ah:Ak->List Th->Bool
 |.some_ s,ts=>ts.any (hd s)
 |.all_ s,ts=>ts.all (hd s)
 |.not_ a,ts=>!ah a ts
 |.and_ a b,ts=>ah a ts&&ah b ts
 |.or_ a b,ts=>ah a ts||ah b ts
def ka:Ak->Str
 |.some_ _=>"some"
 |.all_ _=>"all"
 |.not_ _=>"not"
 |.and_ _ _=>"and"
 |.or_ _ _=>"or"
theorem z1j:∀s:Ak,imm (ak s)=true
 |.some_ a=>by show(true&&(imm (sy a)&&true))=true;rw[z0v a];rfl
 |.all_ a=>by show(true&&(imm (sy a)&&true))=true;rw[z0v a];rfl
 |.not_ a=>by show(true&&(imm (ak a)&&true))=true;rw[z1j a];rfl
 |.and_ a b=>by show(true&&(imm (ak a)&&(imm (ak b)&&true)))=true;rw[z1j a,z1j b];rfl
 |.or_ a b=>by show(true&&(imm (ak a)&&(imm (ak b)&&true)))=true;rw[z1j a,z1j b];rfl
theorem zj4 (s:Ak):ixD (ak s) (.int 0)=.ok (.str (ka s)):=by cases s<;>rfl
theorem zbs:∀ts:List Th,zipD (ts.map fun t=>pk t.1) (ts.map wl)=ts.map fun t=>.tuple [pk t.1,wl t]
 | []=>rfl
 |t::ts=>by rw[ay,ay,zipD,zbs ts];rfl
theorem z3h {α:Type}(f:α->Bool):∀l:List α,allB (l.map fun x=>PyData.bool (f x))=some (l.map f)
 | []=>rfl
 |x::l=>by show(allB (l.map fun x=>PyData.bool (f x))).map _=_;rw[z3h f l];rfl
theorem zle {α:Type}(f:α->Bool)(l:List α):aggD "any" true (l.map fun x=>PyData.bool (f x))=.ok (.bool (l.any f)):=by show Res.ofO ((allB (l.map fun x=>PyData.bool (f x))).map fun bs=>PyData.bool (bs.any id))=_;rw[z3h];show Res.ok (PyData.bool ((l.map f).any id))=_;rw[mr];rfl
theorem zim {α:Type}(f:α->Bool)(l:List α):aggD "all" true (l.map fun x=>PyData.bool (f x))=.ok (.bool (l.all f)):=by show Res.ofO ((allB (l.map fun x=>PyData.bool (f x))).map fun bs=>PyData.bool (bs.all id))=_;rw[z3h];show Res.ok (PyData.bool ((l.map f).all id))=_;rw[List.all_map];rfl
theorem zct {ρ:Rho}{i j:Nat}(t:Th):z0s (.tp [i,j]) (gJ (.tuple [pk t.1,wl t]) .al,.tuple [pk t.1,wl t]) ρ=.ok ((ρ.set i (some (.al,pk t.1))).set j (some (.al,wl t))):=by
 have e:gJ (.tuple [pk t.1,wl t]) .al=.al:=by show(if(imm (pk t.1)&&(false&&true))=true then G.fr else .al)=_;rw[i8,Bool.and_false];rfl
 rw[e];show Res.ofO (some ((ρ.set i (some (z1u (gJ (pk t.1) .al,pk t.1)))).set j (some (z1u (gJ (wl t) .al,wl t)))))=_;rw[z16 (z4d _)];rfl
theorem e_z3:∀(k:Nat) (a:Ak),da a<=k->sd6 a<=6->∀{ts:List Th},(∀t∈ts,GT t)->ts.length<=10->F_z3 k [ak a,.list (ts.map fun t=>pk t.1),.list (ts.map wl)]=.ok (.fr,.bool (ah a ts))
 |0,a,h,_,ts,_,_=>by cases a<;>simp[da]at h
 |k+1,a,h,h6,ts,gt,hl=>by
  show runD [] [F_z3 k,F_z1 6] 4 S_z3 [ak a,.list (ts.map fun t=>pk t.1),.list (ts.map wl)]=_;refine z13 ?_;unfold S_z3;refine z0h (z10 (d:=.str (ka a)) (v_ix (z01 rfl) z04.e (zj4 a) rfl)) ?_
  let R:Rho:=[some (.od,ak a),some (.od,.list (ts.map fun t=>pk t.1)),some (.od,.list (ts.map wl)),some (.al,.str (ka a))]
  have hx:∀(b:Ak),da b<=k->sd6 b<=6->∀{i:Int},ixD (ak a) (.int i)=.ok (ak b)->Vv [] [F_z3 k,F_z1 6] (.call 0 "so" (.cons (.ix (.var 0) (.int i)) (.cons (.var 1) (.cons (.var 2) .nil)))) R (.bool (ah b ts)):=fun b hb h6 i hi=>z0q (z00 (v_ix (z01 rfl) z04.e hi (z1j b)).e (z00 (z01 rfl) (z00 (z01 rfl) z0a))) rfl (e_z3 k b hb h6 gt hl) rfl;have hc:∀(s:Sy),dp s<=6->ixD (ak a) (.int 1)=.ok (sy s)->evE [] [F_z3 k,F_z1 6] (.comp 2 [0] ["thing","words","asking"] (.tp [0,1]) (.zip (.var 1) (.var 2)) .nil (.call 1 "holds" (.cons (.ix (.var 2) (.int 1)) (.cons (.var 0) (.cons (.var 1) .nil))))) R=.ok (.fr,.list (ts.map fun t=>.bool (hd s t))):=fun s hs hi=>by have hw:=zcx (Κ:=[]) (Φ:=[F_z3 k,F_z1 6]) (ρ:=R) (z01 (i:=1) rfl) (z01 (i:=2) rfl) (z8r (by rw[aw];omega)) (z8r (by rw[aw];omega));rw[zbs]at hw;have:=z30 (nt:=2) (js:=[0]) (N':=["thing","words","asking"]) (tg:=.tp [0,1]) (cond:=.nil) (elt:=.call 1 "holds" (.cons (.ix (.var 2) (.int 1)) (.cons (.var 0) (.cons (.var 1) .nil)))) (m:=fun t:Th=>.tuple [pk t.1,wl t]) (xs:=ts) (fun _=>true) (fun t=>.bool (hd s t)) hw rfl (fun t=>[some (.al,pk t.1),some (.al,wl t),some (.od,ak a)]) (fun t _=>zct t) (fun _ _=>z73) fun t ht _=>z0q (z00 (v_ix (z01 rfl) z04.e hi (z0v s)).e (z00 (z01 rfl) (z00 (z01 rfl) z0a))) rfl (e_z1 6 s hs (gt t ht)) rfl;rw[fz.mpr (fun _ _=>rfl)]at this;exact this
  cases a with
  |some_ s=>exact z0c (z18 (z0o rfl) (fun _=>z0c (z0p (zec (w:=(true,ts.map fun t=>.bool (hd s t))) (Ev.of (hc s h6 rfl)) rfl (zle (hd s) ts) rfl))) fun z=>(nq z rfl).elim)
  |all_ s=>refine z0d (z0o rfl) rfl ?_;exact z0c (z18 (z0o rfl) (fun _=>z0c (z0p (zec (w:=(true,ts.map fun t=>.bool (hd s t))) (Ev.of (hc s h6 rfl)) rfl (zim (hd s) ts) rfl))) fun z=>(nq z rfl).elim)
  |not_ b=>refine z0d (z0o rfl) rfl ?_;refine z0d (z0o rfl) rfl ?_;exact z0c (z18 (z0o rfl) (fun _=>z0c (z0p (v_not (hx b (by simp only[da]at h;omega) h6 rfl).e rfl))) fun z=>(nq z rfl).elim)
  |and_ b c=>simp only[sd6]at h6;refine z0d (z0o rfl) rfl ?_;refine z0d (z0o rfl) rfl ?_;refine z0d (z0o rfl) rfl ?_;exact z0c (z18 (z0o rfl) (fun _=>z0c (z0p (v_and (hx b (by simp only[da]at h;omega) (by omega) rfl).e fun _=>hx c (by simp only[da]at h;omega) (by omega) rfl))) fun z=>(nq z rfl).elim)
  |or_ b c=>simp only[sd6]at h6;refine z0d (z0o rfl) rfl ?_;refine z0d (z0o rfl) rfl ?_;refine z0d (z0o rfl) rfl ?_;refine z0d (z0o rfl) rfl ?_;exact z0c (z0p (v_or (hx b (by simp only[da]at h;omega) (by omega) rfl).e fun _=>hx c (by simp only[da]at h;omega) (by omega) rfl))
def mx (c k:Int):Int:=((c%1000000007+31*k+1)*(c%1000000007+31*k+1)%2147483629*(k+7))%2147483647
theorem z2v (c:Int){k:Int}(h0:0<=k)(h1:k<=100):F_z5 [.int c,.int k]=.ok (.fr,.int (mx c k)):=by
 have hc:=fj c (show(1000000007:Int)≠0 by decide);have hd:=d3 c (show(0:Int)<1000000007 by decide);generalize ha:c%1000000007+31*k+1=a;have h2:0<a/\a<2 ^ 60:=by omega
 unfold mx;rw[ha];refine z13 ?_;unfold S_z5;refine z0h (z10 (d:=.int a) (by rw[<-ha];exact z0b (z0b (z0b (z01 rfl) z04.e (z1a (by decide)) rfl).e (z0b z04.e (z01 rfl) (za9 (by decide)) rfl).e rfl rfl).e z04.e rfl rfl)) ?_;exact z0c (z0p (z0b (z0b (z0b (z0b (z01 rfl) (z01 rfl) (za9 ⟨by omega,by omega⟩) rfl).e z04.e (z1a (by decide)) rfl).e (z0b (z01 rfl) z04.e rfl rfl).e (zgc ⟨by omega,by omega⟩) rfl).e z04.e (z1a (by decide)) rfl))
theorem z5z (c:Int):∃v,F_z6 [.int c]=.ok (.fr,.int v):=by have h0:=fj c (show(5:Int)≠0 by decide);have h1:=d3 c (show(0:Int)<5 by decide);refine⟨([1,2,1+c%9,1+c*48271%1000000000000000000000000000000,1000000000000000000000000000000]:List Int).getD (c%5).toNat 0,?_⟩;refine z13 ?_;unfold S_z6;exact z0c (z0p (v_ix (x:=.list (([1,2,1+c%9,1+c*48271%1000000000000000000000000000000,1000000000000000000000000000000]:List Int).map .int)) (Ev.of (z3p (z02 z04 (z02 z04 (z02 (z0b z04.e (z0b (z01 rfl) z04.e (z1a (by decide)) rfl).e rfl rfl) (z02 (z0b z04.e (z0b (z0b (z01 rfl) z04.e (zgc (by decide)) rfl).e (z0b z04.e z04.e zdz rfl).e (z1a (by decide)) rfl).e rfl rfl) (z02 (z0b z04.e z04.e zdz rfl) z0g))))))) (z0b (z01 rfl) z04.e (z1a (by decide)) rfl).e (zdb h0 h1) rfl))
theorem z86 {w:Str}:∀{pre:P} {x:Str×Int} {post:P},(∀q∈pre,q.1≠w)->x.1=w->look (pre++x::post) w=x.2
 | [],x,post,_,h=>by show(if x.1=w then some x.2 else fnd post w).getD 0=_;rw[if_pos h];rfl
 |q::pre,x,post,hn,h=>by show(if q.1=w then some q.2 else fnd (pre++x::post) w).getD 0=_;rw[if_neg (hn q ar)];exact z86 (fun z hz=>hn z (bg _ hz)) h
theorem zbb {ρ:Rho}{g:G}{i j:Nat}(p:Str×Int):z0s (.tp [i,j]) (gJ (pr p) g,pr p) ρ=.ok ((ρ.set i (some (.al,.str p.1))).set j (some (.al,.int p.2))):=z66 rfl rfl
theorem zgh (l:P)(w:Str):F_z8 [pk l,.str w]=.ok (.fr,.int (look l w)):=by
 unfold F_z8;refine z13 ?_
 let Q:Res Out->Prop:=fun z=>z=.ok (.rt .fr (.int (look l w)))
 show Q _;unfold S_z8;refine zm9 (m:=pr) (xs:=l) (zjz (g:=.od) rfl (by decide) (z4d l) rfl) (fun pre ρ=>(∀p∈pre,p.1≠w)/\∃u2 u3,ρ=[some (.od,pk l),some (.od,.str w),u2,u3]) ⟨(fun _ h=>by cases h),none,none,rfl⟩ ?_ ?_
 ·rintro pre p post ρ hx ⟨hn,u2,u3,rfl⟩
  refine⟨_,zbb p,?_⟩;have ht:Tt [] [] (.tv (.cmp .Eq (.var 2) (.var 1))) [some (.od,pk l),some (.od,.str w),some (.al,.str p.1),some (.al,.int p.2)] (decide (p.1=w)):=t_tv (z1c (k:=decide (p.1=w)) (z01 rfl) (z01 rfl) (by show Res.ok (eqD (.str _) (.str _))=_;rw[z37])).e rfl;by_cases hw:p.1=w
  ·refine .inr ⟨.fr,.int p.2,z0c (z18 ht (fun _=>z0c (z0p (v_var rfl rfl))) fun z=>absurd hw (nq z)),?_⟩;show _=_;rw[hx,z86 hn hw]
  ·refine .inl ⟨_,z0h (z18 ht (fun z=>absurd (np z) hw) fun _=>z0t) z0t,fun q hq=>?_,_,_,rfl⟩;rcases dh.mp hq with z|z
   ·exact hn q z
   ·rw[ck.mp z];exact hw
 ·rintro ρ ⟨hn,u2,u3,rfl⟩
  have e:look l w=0:=by unfold look;rw[z29];rfl;intro hk;obtain⟨p,hp,e⟩:=ci.mp hk;exact hn p hp e
  show evS _ _ _ _=_;rw[e];exact z0c (z0p z04)
theorem z2s {Φ:List Fn}{ρ:Rho}{a b:C}{x y d:D}(ha:Ev [] Φ a ρ x)(hb:Ev [] Φ b ρ y)(h:ixD x y=.ok d):Ev [] Φ (.ix a b) ρ d:=by obtain⟨g,ha⟩:=ha;obtain⟨g',hb⟩:=hb;exact⟨gJ d g,by rw[E_ix,ha,Res.ok_bind,hb,Res.ok_bind];dsimp only;rw[h];rfl⟩
theorem z8o {Φ:List Fn}{ρ:Rho}{op:gh}{a b:C}{x y d:D}(ha:Ev [] Φ a ρ x)(hb:Ev [] Φ b ρ y)(h:binD op x y=.ok d):Ev [] Φ (.bin op a b) ρ d:=by obtain⟨g,ha⟩:=ha;obtain⟨g',hb⟩:=hb;exact⟨gN d (gAll [(g,x),(g',y)]),by rw[zeu,ha,Res.ok_bind,hb,Res.ok_bind];dsimp only;rw[h];rfl⟩
theorem z3w {Φ:List Fn}{ρ:Rho}{a:C}{ds:List D}(h:Aa [] Φ a ρ ds):Ev [] Φ (.lst a) ρ (.list ds):=by obtain⟨ys,h1,h2⟩:=h;exact⟨gAll ys,by rw[zal,h1,Res.ok_bind,h2]⟩
theorem z5r {Φ:List Fn}{ρ:Rho}{t:C}{d:D}(hv:∀i,t≠.var i)(h:Ev [] Φ t ρ d):∃g,evS [] Φ (.ret t) ρ=.ok (.rt g d):=by obtain⟨g,h⟩:=h;exact⟨rtG g,by rw[z8j hv,h];rfl⟩
theorem zce {Φ:List Fn}{ρ:Rho}{a b c:C}{x y z:D}(ha:evE [] Φ a ρ=.ok (.fr,x))(hb:evE [] Φ b ρ=.ok (.fr,y))(hc:evE [] Φ c ρ=.ok (.fr,z)):evE [] Φ (.lst (.cons a (.cons b (.cons c .nil)))) ρ=.ok (.fr,.list [x,y,z]):=by rw[zal,z0z,ha,Res.ok_bind,z0z,hb,Res.ok_bind,z0z,hc,Res.ok_bind,z6v];rfl
def ed (ts:List Th)(s:Sy):D:=.list [sy s,.int (dp s),.list (ts.map fun t=>.bool (hd s t))]
def wn (j:Int):Str:="word"++chr "abc" j
def fn (j:Int):Str:="fact"++chr "abcd" j
theorem v_wn {Φ:List Fn}{ρ:Rho}{t:C}{j:Int}(h0:0<=j)(h1:j<3)(h:Ev [] Φ t ρ (.int j)):Vv [] Φ (.bin .Add (.str "word") (.ix (.str "abc") t)) ρ (.str (wn j)):=z0b z1g.e (v_ix z1g.e h (z5n (z:="abc") h0 (show j<((Str.length "abc":Nat):Int)from h1) (by decide)) rfl).e (add_str (by rw[z82];decide)) rfl
theorem v_fn {Φ:List Fn}{ρ:Rho}{t:C}{j:Int}(h0:0<=j)(h1:j<4)(h:Ev [] Φ t ρ (.int j)):Vv [] Φ (.bin .Add (.str "fact") (.ix (.str "abcd") t)) ρ (.str (fn j)):=z0b z1g.e (v_ix z1g.e h (z5n (z:="abcd") h0 (show j<((Str.length "abcd":Nat):Int)from h1) (by decide)) rfl).e (add_str (by rw[z82];decide)) rfl
theorem zh8:∀i<4,∀j<4,fn ((i:Nat):Int)=fn ((j:Nat):Int)->i=j:=by decide+kernel
theorem zc0 (c b:Int)(ts:List Th):∃s,dp s=1/\F_z9 [.int c,.int b,.list (ts.map th)]=.ok (.fr,ed ts s):=by
 let Φ:List Fn:=[F_z8,F_z6,F_z5]
 suffices h:∃s,dp s=1/\evS [] Φ S_z9 [some (.od,.int c),some (.od,.int b),some (.od,.list (ts.map th)),none,none]=.ok (.rt .fr (ed ts s)) by obtain⟨s,h1,h2⟩:=h;exact⟨s,h1,z13 h2⟩
 let Q:Res Out->Prop:=fun z=>∃s,dp s=1/\z=.ok (.rt .fr (ed ts s))
 show Q _;unfold S_z9;by_cases k1:c%3=0
 ·have h0:=fj (c/3) (show(3:Int)≠0 by decide);have h1:=d3 (c/3) (show(0:Int)<3 by decide);generalize hj:c/3%3=j at h0 h1;have hc:=z30 (Κ:=[]) (Φ:=Φ) (ρ:=[some (.od,.int c),some (.od,.int b),some (.od,.list (ts.map th)),some (.al,.str (wn j)),none]) (nt:=1) (js:=[3]) (N':=["_law_thing","_law_name"]) (tg:=.nm 0) (it:=.tv (.var 2)) (cond:=.nil) (elt:=.cmp .In (.var 1) (.ix (.var 0) (.int 1))) (m:=th) (xs:=ts) (fun _=>true) (fun t=>.bool (hd (.is_ (wn j)) t)) (w_tv (g:=.od) (x:=.list (ts.map th)) rfl rfl) rfl (fun t=>[some (.od,th t),some (.al,.str (wn j))]) (fun _ _=>rfl) (fun _ _=>z73) fun t _ _=>z1c (z01 rfl) (z2s (z01 rfl) z04.e rfl) (z89 (wn j) t.2);rw[fz.mpr (fun _ _=>rfl)]at hc;refine q_rt (g:=.fr) (z18 (zbg (t:=.bin .Mod (.var 0) (.int 3)) (j:=0) (z0b (z01 rfl) z04.e (z1a (by decide)) rfl).e) (fun _=>z0h (z10 (v_wn h0 h1 (z0b (d:=.int j) (z0b (z01 rfl) z04.e (z47 (by decide) (by decide)) rfl).e z04.e (by rw[z1a (by decide),hj]) rfl).e)) (z0c (zbn (fun i z=>by cases z) (zce (z1i (z02 z1g (z02 (v_var rfl rfl) z0g))).1 z04.1 hc)))) fun z=>absurd k1 (nq z)) ⟨.is_ (wn j),rfl,rfl⟩
 ·refine z57 (zbg (t:=.bin .Mod (.var 0) (.int 3)) (j:=0) (z0b (z01 rfl) z04.e (z1a (by decide)) rfl).e) (ny k1) ?_;have h0:=fj (c/3) (show(4:Int)≠0 by decide);have h1:=d3 (c/3) (show(0:Int)<4 by decide);generalize hj:c/3%4=j at h0 h1;refine q_ok (z10 (v_fn h0 h1 (z0b (d:=.int j) (z0b (z01 rfl) z04.e (z47 (by decide) (by decide)) rfl).e z04.e (by rw[z1a (by decide),hj]) rfl).e)) ?_;have g0:=fj (c/12) (show(3:Int)≠0 by decide);have g1:=d3 (c/12) (show(0:Int)<3 by decide);obtain⟨m,em⟩:=z5z (mx b (60+c/12%3));refine q_ok (z10 (d:=.int m) (z0q (z00 (z0q (z00 (z01 rfl) (z00 (z0b (d:=.int (60+c/12%3)) z04.e (z0b (z0b (z01 rfl) z04.e (z47 (by decide) (by decide)) rfl).e z04.e (z1a (by decide)) rfl).e rfl rfl).e z0a)) rfl (z2v b (by omega) (by omega)) rfl).e z0a) rfl em rfl)) ?_;have hc:=z30 (Κ:=[]) (Φ:=Φ) (ρ:=[some (.od,.int c),some (.od,.int b),some (.od,.list (ts.map th)),some (.al,.str (fn j)),some (.al,.int m)]) (nt:=1) (js:=[4,3]) (N':=["_law_thing","_law_least","_law_name"]) (tg:=.nm 0) (it:=.tv (.var 2)) (cond:=.nil) (elt:=.cmp .GtE (.call 0 "_law_degree" (.cons (.ix (.var 0) (.int 0)) (.cons (.var 2) .nil))) (.var 1)) (m:=th) (xs:=ts) (fun _=>true) (fun t=>.bool (hd (.at_ (fn j) m) t)) (w_tv (g:=.od) (x:=.list (ts.map th)) rfl rfl) rfl (fun t=>[some (.od,th t),some (.al,.int m),some (.al,.str (fn j))]) (fun _ _=>rfl) (fun _ _=>z73) fun t _ _=>z1c (z0q (z00 (z2s (d:=pk t.1) (z01 rfl) z04.e rfl) (z00 (z01 rfl) z0a)) rfl (zgh t.1 (fn j)) rfl).e (z01 rfl) rfl;rw[fz.mpr (fun _ _=>rfl)]at hc;exact q_rt (g:=.fr) (zbn (fun i z=>by cases z) (zce (z1i (z02 z1g (z02 (v_var rfl rfl) (z02 (v_var rfl rfl) z0g)))).1 z04.1 hc)) ⟨.at_ (fn j) m,rfl,rfl⟩
theorem zdl {α β:Type}(f:α->β)(d:α)(l:List α):(b6 l.length).map (fun k=>f (l.getD k d))=l.map f:=by
 refine ml fun i=>?_;rw[a9,a9];by_cases h:i<l.length
 ·rw[lh h,ba h];show some (f (l.getD i d))=_;rw[av,ba h];rfl
 ·rw[kq (by rw[fq];omega),kq (by omega)];rfl
def jn2 (w:Bool)(a b:Sy):Sy:=if w then .and_ a b else .or_ a b
def jw (w:Bool):Str:=if w then "and"else "or"
theorem z9j {ts:List Th}(hl:ts.length<=10)(w:Bool)(a b:Sy):∃g,zbe [.str (jw w),ed ts a,ed ts b]=.ok (g,ed ts (jn2 w a b)):=by
 let f:Th->Bool:=fun t=>if w then hd a t&&hd b t else hd a t||hd b t
 suffices h:∃g,evS [] [] zb1 [some (.od,.str (jw w)),some (.od,ed ts a),some (.od,ed ts b),none,none]=.ok (.rt g (ed ts (jn2 w a b))) by obtain⟨g,h⟩:=h;exact⟨g,z13 h⟩
 let Q:Res Out->Prop:=fun z=>∃g,z=.ok (.rt g (ed ts (jn2 w a b)))
 show Q _;unfold zb1;refine q_ok (z1m (z3p z0g) rfl) ?_
 let t0:Th:=([],[])
 let R:List Nat->Option GD->Rho:=fun pre u4=>[some (.od,.str (jw w)),some (.od,ed ts a),some (.od,ed ts b),some (.fr,.list (pre.map fun k=>.bool (f (ts.getD k t0)))),u4]
 have vL:∀{ρ:Rho} {i:Nat} {s:Sy},ρ[i]?=some (some (.od,ed ts s))->Ev [] [] (.ix (.var i) (.int 2)) ρ (.list (ts.map fun t=>.bool (hd s t))):=fun h=>z2s (z01 h) z04.e rfl;refine q_nm (m:=fun i:Nat=>.int i) (xs:=b6 ts.length) (ρ1:=R [] none) (zcr (z00 (v_bi (d:=.int (ts.length:Int)) (z00 (vL rfl) z0a) (by rw[zee,aw]) rfl).e z0a) (z9r (n:=(ts.length:Int)) (by omega) (by omega))) (fun _=>rfl) (fun pre ρ=>∃u4,ρ=R pre u4) ⟨none,rfl⟩ ?_ ?_
 ·rintro pre k post ρ hx ⟨u4,rfl⟩
  have hk:k<ts.length:=d5.mp (by rw[hx];exact am _ ar);have hpl:pre.length<=10:=by have:=congrArg kx hx;rw[fq,a0,bh]at this;omega
  have vB:∀{ρ:Rho} {i:Nat} {s:Sy},ρ[i]?=some (some (.od,ed ts s))->ρ[4]?=some (some (.al,.int k))->Vv [] [] (.ix (.ix (.var i) (.int 2)) (.var 4)) ρ (.bool (hd s (ts.getD k t0))):=fun h h4=>v_ix (vL h) (z01 h4) (ix_m (fun t:Th=>PyData.bool (hd _ t)) t0 (by omega) (by omega)) rfl
  let ρ2:Rho:=[some (.od,.str (jw w)),some (.od,ed ts a),some (.od,ed ts b),some (.fr,.list (pre.map fun k=>.bool (f (ts.getD k t0)))),some (.al,.int k)]
  have ha:Vv [] [] (.and (.ix (.ix (.var 1) (.int 2)) (.var 4)) (.ix (.ix (.var 2) (.int 2)) (.var 4))) ρ2 (.bool (hd a (ts.getD k t0)&&hd b (ts.getD k t0))):=v_and (vB rfl rfl).e fun _=>vB rfl rfl;have ho:Vv [] [] (.or (.ix (.ix (.var 1) (.int 2)) (.var 4)) (.ix (.ix (.var 2) (.int 2)) (.var 4))) ρ2 (.bool (hd a (ts.getD k t0)||hd b (ts.getD k t0))):=v_or (vB rfl rfl).e fun _=>vB rfl rfl;have hl2:(pre.map fun k=>PyData.bool (f (ts.getD k t0))).length<1000:=by rw[aw];omega
  have fin:∀z:D,z=.bool (f (ts.getD k t0))->((ρ2.set 3 (some (.fr,.list ((pre.map fun k=>PyData.bool (f (ts.getD k t0)))++[z])))).map z0m)=R (pre++[k]) (some (.al,.int k)):=fun z hz=>by subst hz;show[_,_,_,some (G.fr,PyData.list _),_]=[_,_,_,some (G.fr,PyData.list _),_];rw[cn];rfl
  show Nx _ (evS [] [] _ ρ2);refine⟨_,z0h (z18 (k:=w) (c:=.tv (.cmp .Eq (.var 0) (.str "and"))) ?_ (fun hw=>z0h (zea (x:=.bool (hd a (ts.getD k t0)&&hd b (ts.getD k t0))) ha rfl hl2) (by rw[fin _ (by show _=PyData.bool (if w=true then _ else _);rw[hw];rfl)];exact z0t)) fun hw=>z0h (zea (x:=.bool (hd a (ts.getD k t0)||hd b (ts.getD k t0))) ho rfl hl2) (by rw[fin _ (by show _=PyData.bool (if w=true then _ else _);rw[hw];rfl)];exact z0t)) z0t,_,rfl⟩;have:=z0o (Φ:=[]) (ρ:=ρ2) (i:=0) (b:="and") rfl;have e:decide (jw w="and")=w:=by cases w<;>rfl
  rw[e]at this;exact this
 ·rintro ρ ⟨u4,rfl⟩
  have e1:(b6 ts.length).map (fun k=>PyData.bool (f (ts.getD k t0)))=ts.map fun t=>.bool (hd (jn2 w a b) t):=by rw[zdl (fun t=>PyData.bool (f t)) t0 ts];cases w<;>rfl
  obtain⟨g,h⟩:=z5r (Φ:=[]) (ρ:=R (b6 ts.length) u4) (t:=.lst (.cons (.tup (.cons (.var 0) (.cons (.ix (.var 1) (.int 0)) (.cons (.ix (.var 2) (.int 0)) .nil)))) (.cons (.bin .Add (.int 1) (.bi "max" (.cons (.ix (.var 1) (.int 1)) (.cons (.ix (.var 2) (.int 1)) .nil)))) (.cons (.var 3) .nil)))) (fun i z=>by cases z) (z3w (z00 (z1i (z02 (v_var rfl rfl) (z02 (v_ix (d:=sy a) (z01 rfl) z04.e rfl (z0v a)) (z02 (v_ix (d:=sy b) (z01 rfl) z04.e rfl (z0v b)) z0g)))).e (z00 (z0b (d:=.int (1+max (dp a:Int) (dp b))) z04.e (v_bi (z00 (v_ix (d:=.int (dp a)) (z01 rfl) z04.e rfl rfl).e (z00 (v_ix (d:=.int (dp b)) (z01 rfl) z04.e rfl rfl).e z0a)) (zk9 _ _) rfl).e rfl rfl).e (z00 (z01 rfl) z0a))));refine q_rt h ⟨g,?_⟩
  congr 2
  show PyData.list [_,_,PyData.list ((b6 ts.length).map fun k=>PyData.bool (f (ts.getD k t0)))]=_;rw[e1]
  have e2:(1+max (dp a:Int) (dp b))=(dp (jn2 w a b):Int):=by
   have:dp (jn2 w a b)=1+max (dp a) (dp b):=by cases w<;>rfl
   rw[this];omega
  rw[e2];cases w<;>rfl
theorem zie {Φ:List Fn}{ρ:Rho}{i:Nat}{a:C}{x:D}{xs:List D}(hv:evE [] Φ a ρ=.ok (.nu,x))(hr:ρ[i]?=some (some (.fr,.list xs)))(hl:xs.length<1000):evS [] Φ (.mut "append" i (.cons a .nil)) ρ=.ok (.nx ((ρ.set i (some (.fr,.list (xs++[x])))).map z0m)):=by
 rw[zgo,z0z,hv,Res.ok_bind,z6v,Res.ok_bind,Res.ok_bind,hr];show(if(okIn (G.nu,x)&&decide (xs.length<LIM))=true then Res.ok (xs++[x])else .no)>>=_=_;have:okIn (G.nu,x)=true:=by unfold okIn;show(imm x||(false||true))=true;rw[Bool.false_or,Bool.or_true]
 rw[this,nv (show xs.length<LIM by unfold LIM;omega)];rfl
theorem zao (b:Int){n:Nat}(hn:n<=4):∃ts:List Th,((∀t∈ts,GT t)/\ts.length=n)/\F_z7 [.int b,.int n]=.ok (.fr,.list (ts.map th)):=by
 let Φ:List Fn:=[F_z5,F_z6]
 suffices h:∃ts:List Th,((∀t∈ts,GT t)/\ts.length=n)/\evS [] Φ S_z7 [some (.od,.int b),some (.od,.int n),none,none,none,none,none,none,none]=.ok (.rt .fr (.list (ts.map th))) by obtain⟨ts,h1,h2⟩:=h;exact⟨ts,h1,z13 h2⟩
 let Q:Res Out->Prop:=fun z=>∃ts:List Th,((∀t∈ts,GT t)/\ts.length=n)/\z=.ok (.rt .fr (.list (ts.map th)))
 show Q _;unfold S_z7;refine q_ok (z1m (z3p z0g) rfl) ?_
 let R:List Th->Option GD->Option GD->Option GD->Option GD->Option GD->Option GD->Rho:=fun ts u3 u4 u5 u6 u7 u8=>[some (.od,.int b),some (.od,.int n),some (.fr,.list (ts.map th)),u3,u4,u5,u6,u7,u8]
 refine q_nm (m:=fun i:Nat=>.int i) (xs:=b6 n) (ρ1:=R [] none none none none none none) (zcr (z00 (z01 rfl) z0a) (z9r (n:=(n:Int)) (by omega) (by omega))) (fun _=>rfl) (fun pre ρ=>∃ts u3 u4 u5 u6 u7 u8,ρ=R ts u3 u4 u5 u6 u7 u8/\(∀t∈ts,GT t)/\ts.length=pre.length) ⟨[],none,none,none,none,none,none,rfl,(fun _ h=>by cases h),rfl⟩ ?_ ?_
 ·rintro pre k post ρ hx ⟨ts,u3,u4,u5,u6,u7,u8,rfl,gts,hts⟩
  have hk:k<n:=d5.mp (by rw[hx];exact am _ ar);have hpl:pre.length<n:=by have:=congrArg kx hx;rw[fq,a0,bh]at this;omega
  refine q_ok (z1m (z3p z0g) rfl) ?_
  let R4:P->Option GD->Option GD->Option GD->Option GD->Rho:=fun l u5 u6 u7 u8=>[some (.od,.int b),some (.od,.int n),some (.fr,.list (ts.map th)),some (.al,.int k),some (.fr,.list (l.map pr)),u5,u6,u7,u8]
  refine q_nm (m:=fun i:Nat=>.int i) (xs:=b6 4) (ρ1:=R4 [] u5 u6 u7 u8) (zcr (z00 z04.e z0a) (z9r (n:=4) (by decide) (by decide))) (fun _=>rfl) (fun pre ρ=>∃l u5 u6 u7 u8,ρ=R4 l u5 u6 u7 u8/\(ks l).Nodup/\l.length<=pre.length/\∀q∈ks l,∃i∈pre,q=fn ((i:Nat):Int)) ⟨[],u5,u6,u7,u8,rfl,List.nodup_nil,ag _,fun _ h=>by cases h⟩ ?_ ?_
  ·rintro pre2 j post2 ρ hx2 ⟨l,v5,v6,v7,v8,rfl,nd,hll,hks⟩
   have hj:j<4:=d5.mp (by rw[hx2];exact am _ ar);have hp4:pre2.length<=4:=by have:=congrArg kx hx2;rw[fq,a0,bh]at this;omega
   have hjn:j∉pre2:=fun z=>by have nr:=List.nodup_range (n:=4);rw[hx2,ik]at nr;exact nr.2.2 j z j ar rfl
   have hjp:∀i∈pre2,i<4:=fun i hi=>d5.mp (by rw[hx2];exact cu _ hi);refine q_ok (z10 (d:=.int (mx b (9*k+j))) (z0q (z00 (z01 rfl) (z00 (z0b (d:=.int (9*(k:Int)+j)) (z0b z04.e (z01 rfl) (za9 (by decide)) rfl).e (z01 rfl) rfl rfl).e z0a)) rfl (z2v b (by omega) (by omega)) rfl)) ?_;generalize mx b (9*k+j)=m;have g0:=fj m (show(3:Int)≠0 by decide);have g1:=d3 m (show(0:Int)<3 by decide);obtain⟨v,ev⟩:=z5z (mx b (60+m%3));refine q_ok (z10 (d:=.int (v+m/3%3-1)) (z0b (z0b (z0q (z00 (z0q (z00 (z01 rfl) (z00 (z0b (d:=.int (60+m%3)) z04.e (z0b (z01 rfl) z04.e (z1a (by decide)) rfl).e rfl rfl).e z0a)) rfl (z2v b (by omega) (by omega)) rfl).e z0a) rfl ev rfl).e (z0b (z0b (z01 rfl) z04.e (z47 (by decide) (by decide)) rfl).e z04.e (z1a (by decide)) rfl).e rfl rfl).e z04.e rfl rfl)) ?_;generalize v+m/3%3-1=c
   let ρ2:Rho:=R4 l (some (.al,.int j)) (some (.al,.int m)) (some (.al,.int c)) v8
   show Nx _ (evS [] Φ _ ρ2);have ht:Tt [] Φ (.and (.tv (.cmp .Gt (.var 7) (.int 0))) (.tv (.cmp .Gt (.bin .Mod (.var 6) (.int 5)) (.int 0)))) ρ2 (decide ((0:Int)<c)&&decide ((0:Int)<m%5)):=z24 (t_tv (z1c (op:=.Gt) (k:=decide ((0:Int)<c)) (z01 rfl) z04.e rfl).e rfl) fun _=>t_tv (z1c (op:=.Gt) (k:=decide ((0:Int)<m%5)) (z0b (z01 rfl) z04.e (z1a (by decide)) rfl).e z04.e rfl).e rfl;cases he:(decide ((0:Int)<c)&&decide ((0:Int)<m%5))with
   |false=>rw[he]at ht;refine⟨_,z0h (z18 ht (fun z=>by cases z) fun _=>z0t) z0t,l,_,_,_,_,rfl,nd,by rw[a0];omega,fun q hq=>?_⟩;obtain⟨i,hi,e⟩:=hks q hq;exact⟨i,cu _ hi,e⟩
   |true=>
    rw[he]at ht;have va:Vv [] Φ (.tup (.cons (.bin .Add (.str "fact") (.ix (.str "abcd") (.var 5))) (.cons (.bi "min" (.cons (.var 7) (.cons (.bin .Pow (.int 10) (.int 30)) .nil))) .nil))) ρ2 (pr (fn j,min c 1000000000000000000000000000000)):=z1i (z02 (v_fn (by omega) (by omega) (z01 rfl)) (z02 (v_bi (z00 (z01 rfl) (z00 (z0b z04.e z04.e zdz rfl).e z0a)) (zjc _ _) rfl) z0g));refine⟨_,z0h (z18 ht (fun _=>z0h (zea va rfl (by rw[aw];omega)) z0t) fun z=>by cases z) z0t,l++[(fn j,min c 1000000000000000000000000000000)],some (.al,.int j),some (.al,.int m),some (.al,.int c),z0m v8,?_,?_,by rw[a0,a0];show l.length+1<=pre2.length+1;omega,fun q hq=>?_⟩
    ·show[_,_,_,_,some (G.fr,PyData.list (l.map pr++[_])),_,_,_,z0m v8]=[_,_,_,_,some (G.fr,PyData.list ((l++[_]).map pr)),_,_,_,z0m v8];rw[cn];rfl
    ·show((l++[(fn (j:Int),min c 1000000000000000000000000000000)]).map fun p:Str×Int=>p.1).Nodup;rw[cn,ik];refine⟨nd,dw.mpr ⟨(fun y=>by cases y),List.nodup_nil⟩,fun x hx y hy e=>?_⟩;obtain⟨i,hi,ei⟩:=hks x hx;have hy:y=fn j:=ck.mp hy;rw[e,hy]at ei;have:=zh8 j hj i (hjp i hi) ei;rw[this]at hjn;exact hjn hi
    ·have hq:q∈(l++[(fn (j:Int),min c 1000000000000000000000000000000)]).map (·.1):=hq;rw[cn]at hq;rcases dh.mp hq with z|z
     ·obtain⟨i,hi,e⟩:=hks q z;exact⟨i,cu _ hi,e⟩
     ·exact⟨j,am _ ar,ck.mp z⟩
  ·rintro ρ ⟨l,v5,v6,v7,v8,rfl,nd,hll,_⟩
   have hl4:l.length<=4:=hll
   let pw:Nat->Bool:=fun j=>decide (mx b (9*k+4+j)%2=0)
   have hc:=z30 (Κ:=[]) (Φ:=Φ) (ρ:=R4 l v5 v6 v7 v8) (nt:=1) (js:=[0,3]) (N':=["_law_j","_law_cell","_law_k"]) (tg:=.nm 0) (it:=.rng (.cons (.int 3) .nil)) (cond:=.tv (.cmp .Eq (.bin .Mod (.call 0 "_law_mix" (.cons (.var 1) (.cons (.bin .Add (.bin .Add (.bin .Mult (.int 9) (.var 2)) (.int 4)) (.var 0)) .nil))) (.int 2)) (.int 0))) (elt:=.bin .Add (.str "word") (.ix (.str "abc") (.var 0))) (m:=fun i:Nat=>.int i) (xs:=b6 3) pw (fun i=>.str (wn i)) (zh9 (z00 z04.e z0a) (z9r (n:=3) (by decide) (by decide))) rfl (fun i=>[some (.al,.int i),some (.od,.int b),some (.al,.int k)]) (fun _ _=>rfl) (fun i hi=>by
    have hi:i<3:=d5.mp hi;exact zbg (z0b (z0q (z00 (z01 rfl) (z00 (z0b (d:=.int (9*(k:Int)+4+i)) (z0b (z0b z04.e (z01 rfl) (za9 (by decide)) rfl).e z04.e rfl rfl).e (z01 rfl) rfl rfl).e z0a)) rfl (z2v b (by omega) (by omega)) rfl).e z04.e (z1a (by decide)) rfl).e) fun i hi _=>by
    have hi:i<3:=d5.mp hi;exact v_wn (by omega) (by omega) (z01 rfl)
   let ws:List Str:=((b6 3).filter pw).map fun i=>wn ((i:Nat):Int)
   have e1:((b6 3).filter pw).map (fun i=>PyData.str (wn ((i:Nat):Int)))=ws.map .str:=by show _=List.map _ (List.map _ _);rw[i4];rfl
   rw[e1]at hc;refine q_ok (z1m hc (z1q _)) ?_
   let ρ3:Rho:=[some (.od,.int b),some (.od,.int n),some (.fr,.list (ts.map th)),some (.al,.int k),some (.fr,.list (l.map pr)),v5,v6,v7,some (.nu,.list (ws.map .str))]
   have ea:evE [] Φ (.lst (.cons (.agg "tuple" (.tv (.var 4))) (.cons (.var 8) .nil))) ρ3=.ok (.nu,th (l,ws)):=by have h1:evE [] Φ (.agg "tuple" (.tv (.var 4))) ρ3=.ok (.fr,pk l):=za8 (w:=(true,l.map pr)) (z01 rfl) rfl (z95 _ _) (z5h l);have h2:evE [] Φ (.var 8) ρ3=.ok (.nu,.list (ws.map .str)):=rfl;rw[zal,z0z,h1,Res.ok_bind,z0z,h2,Res.ok_bind,z6v];rfl
   have es:evS [] Φ (.frz 8 (.mut "append" 2 (.cons (.lst (.cons (.agg "tuple" (.tv (.var 4))) (.cons (.var 8) .nil))) .nil))) ((R4 l v5 v6 v7 v8).set 8 (some (.fr,.list (ws.map .str))))=.ok (.nx ((ρ3.set 2 (some (.fr,.list (ts.map th++[th (l,ws)])))).map z0m)):=by show evS [] Φ (.mut "append" 2 (.cons (.lst (.cons (.agg "tuple" (.tv (.var 4))) (.cons (.var 8) .nil))) .nil)) ρ3=_;exact zie (xs:=ts.map th) ea rfl (by rw[aw];omega)
   refine⟨_,z0h es z0t,ts++[(l,ws)],z0m (some (.al,.int k)),some (.fr,.list (l.map pr)),z0m v5,z0m v6,z0m v7,some (.nu,.list (ws.map .str)),?_,fun t ht=>?_,by rw[a0,a0,hts];rfl⟩
   ·show[_,_,some (G.fr,PyData.list (ts.map th++[th (l,ws)])),_,_,_,_,_,_]=[_,_,some (G.fr,PyData.list ((ts++[(l,ws)]).map th)),_,_,_,_,_,_];rw[cn];rfl
   ·rcases dh.mp ht with z|z
    ·exact gts t z
    ·rw[ck.mp z];exact nd
 ·rintro ρ ⟨ts,u3,u4,u5,u6,u7,u8,rfl,gts,hts⟩
  rw[fq]at hts;exact q_rt (g:=.fr) (d:=.list (ts.map th)) rfl ⟨ts,⟨gts,hts⟩,rfl⟩
theorem z7s (xs:List D)(a:D):ixD (.list (xs++[a])) (.int (-1))=.ok a:=by show Res.ofO (atI (xs++[a]) (-1))=_;unfold atI ixN;rw[if_neg (by decide),a0,if_pos (by simp only[bh,ki];omega)];show Res.ofO ((xs++[a])[((-1:Int)+((xs.length+1:Nat):Int)).toNat]?)=_;rw[show((-1:Int)+((xs.length+1:Nat):Int)).toNat=xs.length by omega,cy (ag _),mq];rfl
theorem z5d {n d:Nat}{v:Int}(h:v<0):sIx n d (some v)=(v+(n:Int)).toNat:=by show(if v<0 then(v+(n:Int)).toNat else min v.toNat n)=_;rw[if_pos h]
theorem zkp {α:Type}(xs:List α)(a:α):cut (xs++[a]) none (some (-1))=xs:=by
 unfold cut;have e:sIx (xs++[a]).length (xs++[a]).length (some (-1))=xs.length:=by rw[z5d (by decide),a0];show((-1:Int)+((xs.length+1:Nat):Int)).toNat=_;omega
 rw[e];show((xs++[a]).drop 0).take (xs.length-0)=xs;rw[ig,ms,List.take_left]
theorem zit {α:Type}(xs:List α)(a b:α):cut (xs++[a,b]) none (some (-2))=xs:=by
 unfold cut;have e:sIx (xs++[a,b]).length (xs++[a,b]).length (some (-2))=xs.length:=by rw[z5d (by decide),a0];show((-2:Int)+((xs.length+2:Nat):Int)).toNat=_;omega
 rw[e];show((xs++[a,b]).drop 0).take (xs.length-0)=xs;rw[ig,ms,List.take_left]
theorem zlk {α:Type}(xs:List α)(h:xs≠[]):(cut xs (some (-6)) none).length<=6/\cut xs (some (-6)) none≠[]/\∀x∈cut xs (some (-6)) none,x∈xs:=by
 have hp:0<xs.length:=List.length_pos_iff.mpr h;have e:(cut xs (some (-6)) none).length=xs.length-((-6:Int)+(xs.length:Int)).toNat:=by show((xs.drop (sIx xs.length 0 (some (-6)))).take (xs.length-sIx xs.length 0 (some (-6)))).length=_;rw[z5d (by decide),e8,gi];omega
 refine⟨by omega,fun z=>?_,fun x hx=>k8 (iq hx)⟩;rw[z]at e;have e:0=_:=e;omega
theorem zdi (ts:List Th)(hs:List Sy)(i j:Option Int):slD (.list (hs.map (ed ts))) i j=.ok (.list ((cut hs i j).map (ed ts))):=by show Res.ok (PyData.list (cut (hs.map (ed ts)) i j))=_;rw[z5g]
theorem z7j {α:Type}(l:List α):l=[]\/∃xs a,l=xs++[a]:=by
 rcases List.eq_nil_or_concat l with h|⟨xs,a,h⟩
 ·exact .inl h
 ·exact .inr ⟨xs,a,by rw[h,List.concat_eq_append]⟩
theorem z7u {Φ:List Fn}{ρ:Rho}(i:Int):Ev [] Φ (.neg (.int i)) ρ (.int (-i)):=⟨.fr,rfl⟩
theorem zfh {ts:List Th}(hl:ts.length<=10){hs:List Sy}(h5:∀s∈hs,dp s<=5)(h6:hs.length<=6)(c b:Int):∃hs',((∀s∈hs',dp s<=5)/\hs'.length<=6/\hs'≠[])/\∃g,z6j [.list (hs.map (ed ts)),.int c,.int b,.list (ts.map th)]=.ok (g,.list (hs'.map (ed ts))):=by
 let Φ:List Fn:=[F_z9,zbe]
 suffices h:∃hs',((∀s∈hs',dp s<=5)/\hs'.length<=6/\hs'≠[])/\∃g,evS [] Φ zb3 [some (.od,.list (hs.map (ed ts))),some (.od,.int c),some (.od,.int b),some (.od,.list (ts.map th)),none,none]=.ok (.rt g (.list (hs'.map (ed ts)))) by obtain⟨hs',h1,g,h2⟩:=h;exact⟨hs',h1,g,z13 h2⟩
 let Q:Res Out->Prop:=fun z=>∃hs',((∀s∈hs',dp s<=5)/\hs'.length<=6/\hs'≠[])/\∃g,z=.ok (.rt g (.list (hs'.map (ed ts))))
 show Q _;unfold zb3
 let R:Option GD->Rho:=fun u5=>[some (.od,.list (hs.map (ed ts))),some (.od,.int c),some (.od,.int b),some (.od,.list (ts.map th)),some (.al,.int (c%7)),u5]
 refine q_ok (z10 (d:=.int (c%7)) (z0b (z01 rfl) z04.e (z1a (by decide)) rfl)) ?_;show Q (evS [] Φ _ (R none));have fin:∀{t:C} {ρ:Rho} (hs':List Sy),(∀i,t≠.var i)->Ev [] Φ t ρ (.list (hs'.map (ed ts)))->((∀s∈hs',dp s<=5)/\hs'.length<=6/\hs'≠[])->∀r,Q (evS [] Φ (.seq (.ret t) r) ρ):=fun hs' hv he hp r=>by obtain⟨g,h⟩:=z5r hv he;exact q_rt h ⟨hs',hp,g,rfl⟩
 have last:∀{r},Q (evS [] Φ (.seq (.ret (.sl (.bin .Add (.var 0) (.lst (.cons (.call 0 "_law_atom" (.cons (.bin .FloorDiv (.var 1) (.int 7)) (.cons (.var 2) (.cons (.var 3) .nil)))) .nil))) (.tv (.neg (.int 6))) .nil)) r) (R none)):=fun{r}=>by
  obtain⟨s,h1,es⟩:=zc0 (c/7) b ts;obtain⟨k1,k2,k3⟩:=zlk (hs++[s]) (by simp);refine fin (cut (hs++[s]) (some (-6)) none) (fun i z=>by cases z) (e_sl (z8o (d:=.list ((hs++[s]).map (ed ts))) (z01 rfl) (z3w (z00 (zcb (z00 (z0b (z01 rfl) z04.e (z47 (by decide) (by decide)) rfl).e (z00 (z01 rfl) (z00 (z01 rfl) z0a))) rfl es) z0a)) ?_) (z3b (z7u 6)) z2p (zdi ts _ _ _)) ⟨fun z hz=>?_,k1,k2⟩ r
  ·rw[cn];exact add_list (by rw[aw];show hs.length+1<=1000;omega)
  ·rcases dh.mp (k3 z hz)with y|y
   ·exact h5 z y
   ·rw[ck.mp y,h1];decide
 have tl:∀(i:Int),Tt [] Φ (.tv (.cmp .Gt (.bi "len" (.cons (.var 0) .nil)) (.int i))) (R none) (decide (i<(hs.length:Int))):=fun i=>t_tv (z1c (op:=.Gt) (k:=decide (i<(hs.length:Int))) (v_bi (d:=.int (hs.length:Int)) (z00 (z01 rfl) z0a) (by rw[zee,aw]) rfl).e z04.e rfl).e rfl;have t2:Tt [] Φ (.tv (.cmp .Gt (.var 4) (.int 2))) (R none) (decide ((2:Int)<c%7)):=t_tv (z1c (op:=.Gt) (k:=decide ((2:Int)<c%7)) (z01 rfl) z04.e rfl).e rfl;have t6:=zbg (Φ:=Φ) (ρ:=R none) (t:=.var 4) (j:=6) (z01 rfl);have tdp:∀{e:C} {s:Sy},Ev [] Φ e (R none) (ed ts s)->Tt [] Φ (.tv (.cmp .Lt (.ix e (.int 1)) (.int 5))) (R none) (decide ((dp s:Int)<5)):=fun h=>t_tv (z1c (op:=.Lt) (k:=decide ((dp _:Int)<5)) (z2s h z04.e rfl) z04.e rfl).e rfl;rcases z7j hs with rfl|⟨hs0,s,rfl⟩
 ·refine z57 (k:=decide (c%7=6)&&(false&&false)) (z24 t6 fun _=>z24 (tl 0) fun z=>by cases z) (by simp) ?_;refine z57 (k:=decide ((2:Int)<c%7)&&(false&&false)) (z24 t2 fun _=>z24 (tl 1) fun z=>by cases z) (by simp) ?_;exact last
 ·have eT:Ev [] Φ (.ix (.var 0) (.neg (.int 1))) (R none) (ed ts s):=z2s (z01 rfl) (z7u 1) (by rw[cn];exact z7s _ _);have hs5:=h5 s (am _ ar);have hl0:hs0.length<=5:=by rw[a0]at h6;have:hs0.length+1<=6:=h6;omega
  have ht1:=z24 t6 fun _=>z24 (tl 0) fun _=>tdp eT;cases k1:(decide (c%7=6)&&(decide ((0:Int)<((hs0++[s]).length:Int))&&decide ((dp s:Int)<5)))with
  |true=>
   rw[k1]at ht1;have hdp:dp s<5:=by have:=np (ao.mp (ao.mp k1).2).2;omega
   have ea:evS [] Φ (.asg (.nm 5) (.ix (.var 0) (.neg (.int 1)))) (R none)=.ok (.nx (R (some (.od,ed ts s)))):=by
    have:evE [] Φ (.ix (.var 0) (.neg (.int 1))) (R none)=.ok (.od,ed ts s):=by show(ixD (.list ((hs0++[s]).map (ed ts))) (.int (-1))>>=fun d=>Res.ok (gJ d .od,d))=_;rw[cn];rw[show ixD (.list (hs0.map (ed ts)++[s].map (ed ts))) (.int (-1))=.ok (ed ts s)from z7s _ _];rfl
    rw[z6p,this];rfl
   have hc:=z30 (Κ:=[]) (Φ:=Φ) (ρ:=R (some (.od,ed ts s))) (nt:=1) (js:=[]) (N':=["_law_truth_here"]) (tg:=.nm 0) (it:=.tv (.ix (.var 5) (.int 2))) (cond:=.nil) (elt:=.not (.var 0)) (m:=fun t:Th=>.bool (hd s t)) (xs:=ts) (fun _=>true) (fun t=>.bool (hd (.not_ s) t)) (w_tv (g:=.od) (x:=.list (ts.map fun t=>.bool (hd s t))) rfl rfl) rfl (fun t=>[some (.al,.bool (hd s t))]) (fun _ _=>rfl) (fun _ _=>z73) fun t _ _=>v_not (z01 rfl) rfl;rw[fz.mpr (fun _ _=>rfl)]at hc;have eL:Ev [] Φ (.bin .Add (.sl (.var 0) .nil (.tv (.neg (.int 1)))) (.lst (.cons (.lst (.cons (.tup (.cons (.str "not") (.cons (.ix (.var 5) (.int 0)) .nil))) (.cons (.bin .Add (.ix (.var 5) (.int 1)) (.int 1)) (.cons (.comp 1 [] ["_law_truth_here"] (.nm 0) (.tv (.ix (.var 5) (.int 2))) .nil (.not (.var 0))) .nil)))) .nil))) (R (some (.od,ed ts s))) (.list ((hs0++[Sy.not_ s]).map (ed ts))):=by refine z8o (x:=.list (hs0.map (ed ts))) (y:=.list [ed ts (.not_ s)]) (e_sl (z01 rfl) z2p (z3b (z7u 1)) (by rw[zdi,zkp])) (z3w (z00 (z3w (z00 (z1i (z02 z1g (z02 (v_ix (d:=sy s) (z01 rfl) z04.e rfl (z0v s)) z0g))).e (z00 (z0b (d:=.int ((dp s:Int)+1)) (v_ix (d:=.int (dp s)) (z01 rfl) z04.e rfl rfl).e z04.e rfl rfl).e (z00 (Ev.of hc) z0a)))) z0a)) ?_;rw[cn];exact add_list (by rw[aw];show hs0.length+1<=1000;omega)
   obtain⟨g,hg⟩:=z5r (fun i z=>by cases z) eL;refine q_rt (g:=g) (z18 ht1 (fun _=>z0h ea (z0c hg)) fun z=>by cases z) ⟨_,⟨fun z hz=>?_,by rw[a0];show hs0.length+1<=6;omega,by simp⟩,g,rfl⟩;rcases dh.mp hz with y|y
   ·exact h5 z (cu _ y)
   ·rw[ck.mp y];show dp s+1<=5;omega
  |false=>
   rw[k1]at ht1;refine z57 ht1 rfl ?_;rcases z7j hs0 with rfl|⟨hs1,a,rfl⟩
   ·refine z57 (k:=decide ((2:Int)<c%7)&&(false&&false)) (z24 t2 fun _=>z24 (tl 1) fun z=>by cases z) (by simp) ?_;exact last
   ·have e0:hs1++[a]++[s]=hs1++[a,s]:=by rw[ge];rfl
    have eA:Ev [] Φ (.ix (.var 0) (.neg (.int 2))) (R none) (ed ts a):=z2s (z01 rfl) (z7u 2) (by rw[e0,cn];exact zif _ _ _);have ht2:=z24 t2 fun _=>z24 (tl 1) fun _=>z24 (tdp eT) fun _=>tdp eA;cases k2:(decide ((2:Int)<c%7)&&(decide ((1:Int)<((hs1++[a]++[s]).length:Int))&&(decide ((dp s:Int)<5)&&decide ((dp a:Int)<5))))with
    |false=>rw[k2]at ht2;exact z57 ht2 rfl last
    |true=>
     rw[k2]at ht2;have hh:=(ao.mp (ao.mp k2).2).2;have d1:dp s<5:=by have:=np (ao.mp hh).1;omega
     have d2:dp a<5:=by have:=np (ao.mp hh).2;omega
     let w:Bool:=decide (c%7%2=0)
     have vw:Vv [] Φ (.ix (.lst (.cons (.str "and") (.cons (.str "or") .nil))) (.bin .Mod (.var 4) (.int 2))) (R none) (.str (jw w)):=by
      refine v_ix (Ev.of (z3p (z02 z1g (z02 z1g z0g)))) (z0b (d:=.int (c%7%2)) (z01 rfl) z04.e (z1a (by decide)) rfl).e ?_ rfl;rcases(show c%7%2=0\/c%7%2=1 by omega)with e|e
      ·have :w=true:=nv e;rw[e,this];rfl
      ·have :w=false:=ny (by omega);rw[e,this];rfl
     obtain⟨gj,ej⟩:=z9j hl w a s;have eL:Ev [] Φ (.bin .Add (.sl (.var 0) .nil (.tv (.neg (.int 2)))) (.lst (.cons (.call 1 "_law_joined" (.cons (.ix (.lst (.cons (.str "and") (.cons (.str "or") .nil))) (.bin .Mod (.var 4) (.int 2))) (.cons (.ix (.var 0) (.neg (.int 2))) (.cons (.ix (.var 0) (.neg (.int 1))) .nil)))) .nil))) (R none) (.list ((hs1++[jn2 w a s]).map (ed ts))):=by refine z8o (x:=.list (hs1.map (ed ts))) (y:=.list [ed ts (jn2 w a s)]) (e_sl (z01 rfl) z2p (z3b (z7u 2)) (by rw[zdi,e0,zit])) (z3w (z00 (zcb (z00 vw.e (z00 eA (z00 eT z0a))) rfl ej) z0a)) ?_;rw[cn];exact add_list (by rw[aw];rw[a0]at hl0;have:hs1.length+1<=5:=hl0;show hs1.length+1<=1000;omega)
     obtain⟨g,hg⟩:=z5r (fun i z=>by cases z) eL;refine q_rt (g:=g) (z18 ht2 (fun _=>z0c hg) fun z=>by cases z) ⟨_,⟨fun z hz=>?_,by rw[a0]at hl0;have:hs1.length+1<=5:=hl0;rw[a0];show hs1.length+1<=6;omega,by simp⟩,g,rfl⟩;rcases dh.mp hz with y|y
     ·exact h5 z (cu _ (cu _ y))
     ·rw[ck.mp y];have:dp (jn2 w a s)=1+max (dp a) (dp s):=by unfold jn2;split<;>rfl
      rw[this];omega
mutual
theorem zh3:∀(n:Nat) (d:D),shal n d=true->eqD d d=true
 |_,.none,_=>rfl
 |_,.bool b,_=>by cases b<;>rfl
 |_,.int i,_=>by rw[z7g];exact nv rfl
 |_,.str s,_=>by rw[z37];exact nv rfl
 |n+1,.tuple xs,h=>z2m n xs h
 |n+1,.list xs,h=>z2m n xs h
 |0,.dict _,h=>by cases h
 |_+1,.dict _,h=>by cases h
theorem z2m:∀(n:Nat) (xs:List D),z0u n xs=true->PyData.eqvAll xs xs=true
 |_,[],_=>rfl
 |n,x::xs,h=>by have h:=ao.mp (show(shal n x&&z0u n xs)=true from h);show(eqD x x&&PyData.eqvAll xs xs)=true;rw[zh3 n x h.1,z2m n xs h.2];rfl
end
theorem zey {L:List D}(h:z0u 39 L=true):cmpD .Eq (.list L) (.list L)=.ok true:=by show(if(z0u 39 L&&z0u 39 L)=true then Res.ok (PyData.eqvAll L L)else .no)=_;rw[h,z2m 39 L h];rfl
theorem zco {L:List D}(h:z0u 39 L=true):cmpD .NotEq (.list L) (.list L)=.ok false:=by show(if(z0u 39 L&&z0u 39 L)=true then Res.ok (!PyData.eqvAll L L)else .no)=_;rw[h,z2m 39 L h];rfl
theorem z8g (a:Bool):z5f [.bool a,.bool a]=.ok (.fr,.bool true):=by unfold z5f;refine z13 ?_;unfold zdr;have h1:Ev [] [] (.isT (.var 0) ["bool"]) [some (.od,.bool a),some (.od,.bool a)] (.bool true):=(zm5 (x:=.bool a) (z01 rfl)).e;exact z0c (z0p (v_and (k:=true) (k':=true) h1 fun _=>z1c (k:=true) (z01 rfl) (z01 rfl) (by cases a<;>rfl)))
theorem z5l {α:Type}(f:α->Bool)(b:Bool)(l:List α):cmpD .In (.bool b) (.list (l.map fun t=>PyData.bool (f t)))=.ok (l.any fun t=>f t==b):=by
 have h:z0u 40 (l.map fun t=>PyData.bool (f t))=true:=z1o.mpr fun x hx=>by obtain⟨t,_,rfl⟩:=ci.mp hx;rfl
 show(if(shal 40 (.bool b)&&z0u 40 (l.map fun t=>PyData.bool (f t)))=true then Res.ok ((l.map fun t=>PyData.bool (f t)).any fun y=>eqD y (.bool b))else .no)=_;rw[h];show Res.ok _=_
 have e:((fun y=>eqD y (.bool b))∘fun t=>PyData.bool (f t))=fun t=>f t==b:=by
  funext t
  show eqD (.bool (f t)) (.bool b)=_;cases f t<;>cases b<;>rfl
 rw[mr,e]
theorem zew {α:Type}(f:α->Bool)(l:List α):cmpD .In (.bool true) (.list (l.map fun t=>PyData.bool (f t)))=.ok (l.any f):=by
 have e:(fun t=>f t==true)=f:=by
  funext t
  cases f t<;>rfl
 rw[z5l,e]
theorem z72 {α:Type}(f:α->Bool)(l:List α):cmpD .NotIn (.bool false) (.list (l.map fun t=>PyData.bool (f t)))=.ok (l.all f):=by
 show(cmpD .In (.bool false) (.list (l.map fun t=>PyData.bool (f t)))>>=fun b=>Res.ok (!b))=_;rw[z5l];show Res.ok (!l.any fun t=>f t==false)=_
 congr 1
 induction l with
 |nil=>rfl
 |cons t l ih=>rw[d4,cj,Bool.not_or,ih];cases f t<;>rfl
theorem zlp {α β:Type}(f:α->β)(l:List α)(n:Nat):cut (l.map f) none (some (n:Int))=(l.take n).map f:=by
 rw[z5g]
 congr 1
 unfold cut;have e:sIx l.length l.length (some (n:Int))=min n l.length:=by show(if(n:Int)<0 then((n:Int)+(l.length:Int)).toNat else min (n:Int).toNat l.length)=_;rw[if_neg (by omega)];rfl
 rw[e];show(l.drop 0).take (min n l.length-0)=_;rw[ig,ms];rcases Nat.le_total n l.length with h|h
 ·rw[Nat.min_eq_left h]
 ·rw[Nat.min_eq_right h,dt (ag _),dt h]
theorem sl_n {α:Type}(f:α->D)(l:List α)(n:Nat):slD (.list (l.map f)) none (some (n:Int))=.ok (.list ((l.take n).map f)):=by show Res.ok (PyData.list (cut (l.map f) none (some (n:Int))))=_;rw[zlp]
theorem z9k (ts:List Th):z0u 39 (ts.map wl)=true:=z1o.mpr fun x hx=>by obtain⟨t,_,rfl⟩:=ci.mp hx;exact z1z 38 t.2
def cs6 (s:Sy)(l:List Th):List (Ak×Bool):=[(.some_ s,l.any (hd s)),(.all_ s,l.all (hd s)),(.not_ (.some_ s),!l.any (hd s)),(.and_ (.some_ s) (.all_ s),l.any (hd s)&&l.all (hd s)),(.or_ (.all_ s) (.not_ (.some_ s)),l.all (hd s)|| !l.any (hd s))]
def cd6 (x:Ak×Bool):D:=.tuple [ak x.1,.bool x.2]
theorem z4y (x:Ak×Bool):imm (cd6 x)=true:=by show(imm (ak x.1)&&(true&&true))=true;rw[z1j];rfl
theorem zcg {ts:List Th}(gt:∀t∈ts,GT t)(hl:ts.length<=10){s:Sy}(h6:dp s<=6):z98 [sy s,.list (ts.map fun t=>.bool (hd s t)),.list (ts.map th)]=.ok (.fr,.bool true):=by
 unfold z98;refine z13 ?_
 let Φ:List Fn:=[z5f,F_z3 4]
 let Q:Res Out->Prop:=fun z=>z=.ok (.rt .fr (.bool true))
 show Q _;unfold z9d;have hc1:=z30 (Κ:=[]) (Φ:=Φ) (ρ:=[some (.od,sy s),some (.od,.list (ts.map fun t=>.bool (hd s t))),some (.od,.list (ts.map th)),none,none,none,none,none,none,none,none,none,none]) (nt:=1) (js:=[]) (N':=["_law_thing"]) (tg:=.nm 0) (it:=.tv (.var 2)) (cond:=.nil) (elt:=.ix (.var 0) (.int 0)) (m:=th) (xs:=ts) (fun _=>true) (fun t=>pk t.1) (w_tv (g:=.od) (x:=.list (ts.map th)) rfl rfl) rfl (fun t=>[some (.od,th t)]) (fun _ _=>rfl) (fun _ _=>z73) fun t _ _=>v_ix (z01 rfl) z04.e rfl (z4d _);rw[fz.mpr (fun _ _=>rfl)]at hc1;refine q_ok (z1m hc1 (z69 (fun t=>z4d t.1) ts)) ?_;have hc2:evE [] Φ (.comp 1 [] ["_law_thing"] (.nm 0) (.tv (.var 2)) .nil (.agg "list" (.tv (.ix (.var 0) (.int 1))))) [some (.od,sy s),some (.od,.list (ts.map fun t=>.bool (hd s t))),some (.od,.list (ts.map th)),some (.fr,.list (ts.map fun t=>pk t.1)),none,none,none,none,none,none,none,none,none]=.ok (.fr,.list (ts.map wl)):=by rw[z9a,w_tv (g:=.od) (x:=.list (ts.map th)) (xs:=ts.map th) rfl rfl,Res.ok_bind];rw[z3i (fun t=>some (wl t)) ts fun t _=>by show(evE [] Φ (.agg "list" (.tv (.ix (.var 0) (.int 1)))) [some (.od,th t)]>>=fun y=>Res.ok (some y))=_;rw[za8 (w:=(true,t.2.map .str)) (d:=wl t) (z2s (d:=wl t) (z01 rfl) z04.e rfl) rfl (z62 _ _) (z1q _)];rfl];show Res.ok (gCo _,PyData.list _)=_;rw[zc6,z63,show(fun t:Th=>some (wl t))=some∘wl from rfl,List.filterMap_eq_map]
 have hs2:∃g2,evS [] Φ (.asg (.nm 4) (.comp 1 [] ["_law_thing"] (.nm 0) (.tv (.var 2)) .nil (.agg "list" (.tv (.ix (.var 0) (.int 1)))))) [some (.od,sy s),some (.od,.list (ts.map fun t=>.bool (hd s t))),some (.od,.list (ts.map th)),some (.fr,.list (ts.map fun t=>pk t.1)),none,none,none,none,none,none,none,none,none]=.ok (.nx [some (.od,sy s),some (.od,.list (ts.map fun t=>.bool (hd s t))),some (.od,.list (ts.map th)),some (.fr,.list (ts.map fun t=>pk t.1)),some (g2,.list (ts.map wl)),none,none,none,none,none,none,none,none]):=by refine⟨if imms (ts.map wl)then .fr else .nu,?_⟩;rw[z6p,hc2];rfl
 obtain⟨g2,hs2⟩:=hs2;refine q_ok hs2 ?_
 let R:Option GD->Option GD->Option GD->Option GD->Option GD->Option GD->Option GD->Option GD->Rho:=fun u5 u6 u7 u8 u9 u10 u11 u12=>[some (.od,sy s),some (.od,.list (ts.map fun t=>.bool (hd s t))),some (.od,.list (ts.map th)),some (.fr,.list (ts.map fun t=>pk t.1)),some (g2,.list (ts.map wl)),u5,u6,u7,u8,u9,u10,u11,u12]
 refine z85 (g:=.fr) (m:=fun n:Nat=>.int n) (xs:=[ts.length,1,0]) (ρ1:=R none none none none none none none none) (zgp (fun i z=>by cases z) (z3p (z02 (v_bi (d:=.int (ts.length:Int)) (z00 (z01 rfl) z0a) (by rw[zee,aw]) rfl) (z02 z04 (z02 z04 z0g)))) rfl) (fun _ ρ=>∃u5 u6 u7 u8 u9 u10 u11 u12,ρ=R u5 u6 u7 u8 u9 u10 u11 u12) ⟨_,_,_,_,_,_,_,_,rfl⟩ ?_ ?_
 ·rintro pre n post ρ _ ⟨u5,u6,u7,u8,u9,u10,u11,u12,rfl⟩
  have goal:Nx (fun ρ=>∃u5 u6 u7 u8 u9 u10 u11 u12,ρ=R u5 u6 u7 u8 u9 u10 u11 u12) (evS [] Φ (match z9d with|.seq _ (.seq _ (.seq (.for_ _ _ b) _))=>b|_=>.nil) (R (some (.al,.int n)) u6 u7 u8 u9 u10 u11 u12)):=by
   unfold z9d;refine q_ok (z10 (d:=.bool ((ts.take n).any (hd s))) (z1c v_bl.e (e_sl (z01 rfl) z2p (z3b (z01 rfl)) (sl_n (fun t=>PyData.bool (hd s t)) ts n)) (zew (hd s) _))) ?_;refine q_ok (z10 (d:=.bool ((ts.take n).all (hd s))) (z1c v_bl.e (e_sl (z01 rfl) z2p (z3b (z01 rfl)) (sl_n (fun t=>PyData.bool (hd s t)) ts n)) (z72 (hd s) _))) ?_;refine q_ok (z10 (d:=ak (.some_ s)) (z1i (z02 z1g (z02 (v_var rfl (z0v s)) z0g)))) ?_;refine q_ok (z10 (d:=ak (.all_ s)) (z1i (z02 z1g (z02 (v_var rfl (z0v s)) z0g)))) ?_;have i1:=z1j (.some_ s);have i2:=z1j (.all_ s);refine q_ok (z1m (xs:=[cd6 (.some_ s,(ts.take n).any (hd s)),cd6 (.all_ s,(ts.take n).all (hd s)),cd6 (.not_ (.some_ s),!(ts.take n).any (hd s)),cd6 (.and_ (.some_ s) (.all_ s),(ts.take n).any (hd s)&&(ts.take n).all (hd s))]) (z3p (z02 (z1i (z02 (v_var rfl i1) (z02 (v_var rfl rfl) z0g))) (z02 (z1i (z02 (v_var rfl i2) (z02 (v_var rfl rfl) z0g))) (z02 (z1i (z02 (z1i (z02 z1g (z02 (v_var rfl i1) z0g))) (z02 (v_not (z01 rfl) rfl) z0g))) (z02 (z1i (z02 (z1i (z02 z1g (z02 (v_var rfl i1) (z02 (v_var rfl i2) z0g)))) (z02 (v_and (z01 rfl) fun _=>v_var rfl rfl) z0g))) z0g))))) (z1e.mpr fun x hx=>?_)) ?_
   ·simp only[bc,cr,or_false]at hx;rcases hx with rfl|rfl|rfl|rfl<;>exact z4y _
   refine q_ok (z1m (xs:=(cs6 s (ts.take n)).map cd6) (zlc (z01 rfl) (Ev.of (z3p (z02 (z1i (z02 (z1i (z02 z1g (z02 (v_var rfl i2) (z02 (z1i (z02 z1g (z02 (v_var rfl i1) z0g))) z0g)))) (z02 (v_or (z01 rfl) fun _=>v_not (z01 rfl) rfl) z0g))) z0g))) (add_list (by show 4+1<=1000;decide)) (z69 z4y _)) (z69 z4y _)) ?_;refine z85 (m:=cd6) (xs:=cs6 s (ts.take n)) (zg0 rfl) (fun _ ρ=>∃u11 u12,ρ=R (some (.al,.int n)) (some (.al,.bool ((ts.take n).any (hd s)))) (some (.al,.bool ((ts.take n).all (hd s)))) (some (.al,ak (.some_ s))) (some (.al,ak (.all_ s))) (some (.al,.list ((cs6 s (ts.take n)).map cd6))) u11 u12) ⟨u11,u12,rfl⟩ ?_ ?_
   ·rintro pre2 x post2 ρ hx ⟨v11,v12,rfl⟩
    have hxm:x∈cs6 s (ts.take n):=by rw[hx];exact am _ ar
    have hx2:x.2=ah x.1 (ts.take n)/\da x.1<=4/\sd6 x.1<=6:=by unfold cs6 at hxm;simp only[bc,cr,or_false]at hxm;rcases hxm with rfl|rfl|rfl|rfl|rfl<;>exact⟨rfl,by simp[da],by simp[sd6];omega⟩
    have hso:=e_z3 4 x.1 hx2.2.1 hx2.2.2 (ts:=ts.take n) (fun t ht=>gt t (iq ht)) (by rw[e8];omega);rw[<-hx2.1]at hso;refine⟨_,_,z66 (z1j x.1) rfl,z0h (z18 (k:=false) (z7h (k:=true) (t_tv (z0q (z00 (z0q (z00 (z01 rfl) (z00 (e_sl (z01 rfl) z2p (z3b (z01 rfl)) (sl_n (fun t:Th=>pk t.1) ts n)) (z00 (e_sl (z01 rfl) z2p (z3b (z01 rfl)) (sl_n wl ts n)) z0a))) rfl hso rfl).e (z00 (z01 rfl) z0a)) rfl (z8g x.2) rfl).e rfl)) (fun z=>by cases z) fun _=>z0t) z0t,_,_,rfl⟩
   ·rintro ρ ⟨v11,v12,rfl⟩
    exact zc2 ⟨_,_,_,_,_,_,_,_,rfl⟩
  obtain⟨ρ',g1,g2'⟩:=goal;exact⟨R (some (.al,.int n)) u6 u7 u8 u9 u10 u11 u12,ρ',rfl,g1,g2'⟩
 ·rintro ρ ⟨u5,u6,u7,u8,u9,u10,u11,u12,rfl⟩
  have hc3:Ev [] Φ (.comp 1 [] ["_law_thing"] (.nm 0) (.tv (.var 2)) .nil (.ix (.var 0) (.int 1))) (R u5 u6 u7 u8 u9 u10 u11 u12) (.list (ts.map wl)):=by
   have hcm:∀l:List Th,z1h (fun x=>z0s (.nm 0) (gJ x .od,x) (bo 1 none++([]:List Nat).map fun j=>toAl ((R u5 u6 u7 u8 u9 u10 u11 u12).getD j none))>>=fun ρ1=>evT [] Φ .nil ρ1>>=fun k=>if k then evE [] Φ (.ix (.var 0) (.int 1)) ρ1>>=fun y=>.ok (some y)else .ok none) (l.map th)=.ok (l.map fun t=>(.od,wl t)):=fun l=>by
    induction l with
    |nil=>rfl
    |cons t l ih=>rw[ay,z1h,ih];rfl
   refine⟨gCo (ts.map fun t=>(.od,wl t)),?_⟩;rw[z9a,w_tv (g:=.od) (x:=.list (ts.map th)) (xs:=ts.map th) rfl rfl,Res.ok_bind];rw[hcm ts,Res.ok_bind,i4];rfl
  exact q_rt (z0p (z1c (k:=true) (z01 rfl) hc3 (zey (z9k ts)))) rfl
mutual
theorem z7x (z:D):∀d:af,imm d=true->apart z d=true
 |.tuple xs,h=>z55 z xs h
 |.list _,h=>by cases h
 |.dict _,h=>by cases h
 |.none,_=>rfl
 |.bool _,_=>rfl
 |.int _,_=>rfl
 |.str _,_=>rfl
theorem z55 (z:D):∀xs:List af,imms xs=true->z0r z xs=true
 | [],_=>rfl
 |x::xs,h=>by have h:=ao.mp (show(imm x&&imms xs)=true from h);show(apart z x&&z0r z xs)=true;rw[z7x z x h.1,z55 z xs h.2];rfl
end
theorem z94 {α:Type}(f:α->D)(hf:∀x ys,mayE (f x) (.list ys)=false)(hi:∀x,imm (f x)=true)(l:List α)(ys r:List D):apart (.list (.list ys::r)) (.list (l.map f))=true:=by
 show(!(z1y (l.map f) (.list ys::r))&&z0r _ (l.map f))=true;rw[z55 _ _ (z69 hi l)];cases l with
 |nil=>rfl
 |cons x l=>show(!(mayE (f x) (.list ys)&&z1y (l.map f) r)&&true)=true;rw[hf];rfl
theorem z58 {α:Type}{z:D}{f:α->D}(h:∀x,apart z (f x)=true):∀l:List α,z0r z (l.map f)=true
 | []=>rfl
 |x::l=>by show(apart z (f x)&&z0r z (l.map f))=true;rw[h x,z58 h l];rfl
theorem zl7 (ts:List Th)(h:Sy)(r:List D)(t:Th):apart (.list (ed ts h::r)) (th t)=true:=by show(!(mayE (pk t.1) (ed ts h)&&z1y [wl t] r)&&(apart _ (pk t.1)&&(apart _ (wl t)&&true)))=true;rw[z7x _ _ (z4d _),show apart (.list (ed ts h::r)) (wl t)=true from z94 PyData.str (fun _ _=>rfl) (fun _=>rfl) t.2 _ r];rfl
theorem zik (ts:List Th)(h:Sy)(r:List D)(us:List Th):apart (.list (ed ts h::r)) (.list (us.map th))=true:=by
 show(!(z1y (us.map th) (ed ts h::r))&&z0r _ (us.map th))=true;rw[z58 (zl7 ts h r) us];cases us with
 |nil=>rfl
 |cons t us=>
  have e:z1y ((t::us).map th) (ed ts h::r)=false:=by show((mayE (pk t.1) (sy h)&&(mayE (wl t) (.int (dp h))&&z1y [] [.list (ts.map fun t=>.bool (hd h t))]))&&z1y (us.map th) r)=false;rw[show mayE (wl t) (.int (dp h))=false from rfl,i8,Bool.and_false,i8]
  rw[e];rfl
theorem zju (ts:List Th)(h:Sy)(r:List D)(s:Sy):apart (.list (ed ts h::r)) (ed ts s)=true:=by
 have e1:mayE (sy s) (ed ts h)=false:=by cases s<;>rfl
 show(!(mayE (sy s) (ed ts h)&&z1y [.int (dp s),.list (ts.map fun t=>.bool (hd s t))] r)&&(apart _ (sy s)&&(true&&(apart _ (.list (ts.map fun t=>PyData.bool (hd s t)))&&true))))=true;rw[e1,z7x _ _ (z0v s),show apart (.list (ed ts h::r)) (.list (ts.map fun t=>PyData.bool (hd s t)))=true from z94 (fun t:Th=>PyData.bool (hd s t)) (fun _ _=>rfl) (fun _=>rfl) ts _ r];rfl
theorem zd7 (xs:List Int):aggD "sum" true (xs.map .int)=.ok (.int xs.sum):=by
 show Res.ofO ((sumD (xs.map PyData.int)).map PyData.int)=_
 have:∀xs:List Int,sumD (xs.map PyData.int)=some xs.sum:=fun xs=>by
  induction xs with
  |nil=>rfl
  |cons x xs ih=>rw[ay,sumD,ih,List.sum_cons];rfl
 rw[this];rfl
theorem l_sl {Φ:List Fn}{ρ:Rho}{a b c:C}{x:D}{i j:Option Int}{xs:List D}(ha:Ev [] Φ a ρ x)(hb:Oo [] Φ b ρ i)(hc:Oo [] Φ c ρ j)(h:slD x i j=.ok (.list xs))(hi:imms xs=true):evE [] Φ (.sl a b c) ρ=.ok (.fr,.list xs):=by
 obtain⟨g,ha⟩:=ha;unfold Oo at hb hc;rw[E_sl,ha,Res.ok_bind,hb,Res.ok_bind,hc,Res.ok_bind]
 dsimp only
 rw[h,Res.ok_bind];show Res.ok (if imms xs=true then G.fr else _,_)=_;rw[if_pos hi]
theorem zef (ts:List Th):z15 0 (ts.map th)=ts.zipIdx.map fun x=>.tuple [.int x.2,th x.1]:=zbu th 0 ts
theorem zcl {ρ:Rho}{i j k:Nat}(t:Th):z0s (.tp [i,j]) (gJ (.tuple [.int k,th t]) .al,.tuple [.int k,th t]) ρ=.ok ((ρ.set i (some (.al,.int k))).set j (some (.al,th t))):=rfl
theorem zez {ρ:Rho}{g:G}{i j k:Nat}(hg:g=.al\/g=.nu)(ts:List Th)(s:Sy):z0s (.tp [i,j,k]) (gJ (ed ts s) g,ed ts s) ρ=.ok (((ρ.set i (some (.al,sy s))).set j (some (.al,.int (dp s)))).set k (some (.al,.list (ts.map fun t=>.bool (hd s t))))):=by show Res.ofO (some (((ρ.set i (some (z1u (gJ (sy s) g,sy s)))).set j (some (z1u (gJ (.int (dp s)) g,.int (dp s))))).set k (some (z1u (g,.list (ts.map fun t=>.bool (hd s t)))))))=_;rw[z16 (z0v s),z16 (show imm (.int (dp s))=true from rfl)];rcases hg with rfl|rfl<;>rfl
theorem zkn {xs:List Int}(hl:xs.length<=63):z7t [.list (xs.map .int)]=.ok (.fr,.bool true):=by
 unfold z7t;refine z13 ?_
 let Q:Res Out->Prop:=fun z=>z=.ok (.rt .fr (.bool true))
 show Q _;unfold z7b
 let Φ:List Fn:=[z98,z5f,F_z1 6,F_z9,z6j,F_z5,F_z7]
 refine q_ok (z10 (d:=.int (mx (cut xs none (some 63)).sum 1)) (z0q (z00 (zec (w:=(true,(cut xs none (some 63)).map .int)) (e_sl (z01 rfl) z2p (z3b z04.e) (z7r _ _ _)) rfl (zd7 _) rfl).e (z00 z04.e z0a)) rfl (z2v _ (by decide) (by decide)) rfl)) ?_;generalize mx (cut xs none (some 63)).sum 1=b;have b0:=fj b (show(4:Int)≠0 by decide);have b1:=d3 b (show(0:Int)<4 by decide);obtain⟨n,hn⟩:∃n:Nat,(n:Int)=1+b%4:=⟨(1+b%4).toNat,by omega⟩;obtain⟨ts,⟨gt,htl⟩,et⟩:=zao b (n:=n) (by omega);have hl4:ts.length<=10:=by omega
 let R:Option GD->Option GD->Rho:=fun u3 u4=>[some (.od,.list (xs.map .int)),some (.al,.int b),some (.nu,.list (ts.map th)),u3,u4,none,none,none,none,none,none]
 have es2:evS [] Φ (.asg (.nm 2) (.call 6 "_law_things" (.cons (.var 1) (.cons (.bin .Add (.int 1) (.bin .Mod (.var 1) (.int 4))) .nil)))) [some (.od,.list (xs.map .int)),some (.al,.int b),none,none,none,none,none,none,none,none,none]=.ok (.nx (R none none)):=by
  have:evE [] Φ (.call 6 "_law_things" (.cons (.var 1) (.cons (.bin .Add (.int 1) (.bin .Mod (.var 1) (.int 4))) .nil))) [some (.od,.list (xs.map .int)),some (.al,.int b),none,none,none,none,none,none,none,none,none]=.ok (.fr,.list (ts.map th)):=zbz (z00 (z01 rfl) (z00 (z0b (d:=.int n) z04.e (z0b (z01 rfl) z04.e (z1a (by decide)) rfl).e (by rw[hn];rfl) rfl).e z0a)) rfl et;rw[z6p,this];cases ts with
  |nil=>simp at htl;omega
  |cons t ts=>rfl
 refine q_ok es2 ?_;refine q_ok (z1m (z3p z0g) rfl) ?_;have atm:∀{ρ:Rho} (c:Int) {s:Sy},F_z9 [.int c,.int b,.list (ts.map th)]=.ok (.fr,ed ts s)->True:=fun _ _ _=>trivial;refine q_nm (m:=PyData.int) (xs:=cut xs none (some 60)) (ρ1:=R (some (.fr,.list [])) none) (zgp (fun i z=>by cases z) (l_sl (z01 rfl) z2p (z3b z04.e) (z7r _ _ _) (z7v _)) rfl) (fun _=>rfl) (fun _ ρ=>∃g hs u4,ρ=R (some (g,.list (hs.map (ed ts)))) u4/\((g=.fr/\hs=[])\/(g=.nu/\hs≠[]))/\(∀s∈hs,dp s<=5)/\hs.length<=6/\∀y,u4=some y->imm y.2=true) ⟨.fr,[],none,rfl,.inl ⟨rfl,rfl⟩,(fun _ h=>by cases h),d6 _,fun _ h=>by cases h⟩ ?_ ?_
 ·rintro pre c post ρ _ ⟨g,hs,u4,rfl,hg,h5,h6,_⟩
  obtain⟨hs',⟨k5,k6,kn⟩,g',ek⟩:=zfh hl4 h5 h6 (mx c 2) b
  have e3:evS [] Φ (.frz 3 (.asg (.nm 3) (.caln 4 "_law_step" (.cons (.var 3) (.cons (.call 5 "_law_mix" (.cons (.var 4) (.cons (.int 2) .nil))) (.cons (.var 1) (.cons (.var 2) .nil))))))) (R (some (g,.list (hs.map (ed ts)))) (some (.al,.int c)))=.ok (.nx (R (some (.nu,.list (hs'.map (ed ts)))) (some (.al,.int c)))):=by
   have e1:evS [] Φ (.frz 3 (.asg (.nm 3) (.caln 4 "_law_step" (.cons (.var 3) (.cons (.call 5 "_law_mix" (.cons (.var 4) (.cons (.int 2) .nil))) (.cons (.var 1) (.cons (.var 2) .nil))))))) (R (some (g,.list (hs.map (ed ts)))) (some (.al,.int c)))=evS [] Φ (.asg (.nm 3) (.caln 4 "_law_step" (.cons (.var 3) (.cons (.call 5 "_law_mix" (.cons (.var 4) (.cons (.int 2) .nil))) (.cons (.var 1) (.cons (.var 2) .nil)))))) (R (some (.nu,.list (hs.map (ed ts)))) (some (.al,.int c))):=by rcases hg with⟨rfl,_⟩|⟨rfl,_⟩<;>rfl
   rw[e1];have em:evE [] Φ (.call 5 "_law_mix" (.cons (.var 4) (.cons (.int 2) .nil))) (R (some (.nu,.list (hs.map (ed ts)))) (some (.al,.int c)))=.ok (.fr,.int (mx c 2)):=(z0q (z00 (z01 rfl) (z00 z04.e z0a)) rfl (z2v c (by decide) (by decide)) rfl).1;have ea:evA [] Φ (.cons (.var 3) (.cons (.call 5 "_law_mix" (.cons (.var 4) (.cons (.int 2) .nil))) (.cons (.var 1) (.cons (.var 2) .nil)))) (R (some (.nu,.list (hs.map (ed ts)))) (some (.al,.int c)))=.ok [(.nu,.list (hs.map (ed ts))),(.fr,.int (mx c 2)),(.fr,.int b),(.nu,.list (ts.map th))]:=by rw[z0z,show evE [] Φ (.var 3) (R (some (.nu,.list (hs.map (ed ts)))) (some (.al,.int c)))=.ok (.nu,.list (hs.map (ed ts)))from rfl,Res.ok_bind,z0z,em,Res.ok_bind];rfl
   have ec:evE [] Φ (.caln 4 "_law_step" (.cons (.var 3) (.cons (.call 5 "_law_mix" (.cons (.var 4) (.cons (.int 2) .nil))) (.cons (.var 1) (.cons (.var 2) .nil))))) (R (some (.nu,.list (hs.map (ed ts)))) (some (.al,.int c)))=.ok (calG g' [(.nu,.list (hs.map (ed ts))),(.fr,.int (mx c 2)),(.fr,.int b),(.nu,.list (ts.map th))],.list (hs'.map (ed ts))):=by show(evA [] Φ _ _>>=fun ys=>z6j (ys.map (·.2))>>=fun r=>Res.ok (gJ r.2 (calG r.1 ys),r.2))=_;rw[ea,Res.ok_bind];show(z6j [.list (hs.map (ed ts)),.int (mx c 2),.int b,.list (ts.map th)]>>=_)=_;rw[ek];rfl
   rw[z6p,ec];cases hs' with
   |nil=>exact absurd rfl kn
   |cons s hs'=>cases g'<;>rfl
  exact⟨_,z0h e3 z0t,.nu,hs',some (.al,.int c),rfl,.inr ⟨rfl,kn⟩,k5,k6,fun y hy=>by cases hy;rfl⟩
 ·rintro ρ ⟨g,hs,u4,rfl,hg,h5,h6,hu4⟩
  obtain⟨s0,d0,e0⟩:=zc0 b b ts;have eat:∀{ρ:Rho},ρ[1]?=some (some (.al,.int b))->ρ[2]?=some (some (.nu,.list (ts.map th)))->evE [] Φ (.call 3 "_law_atom" (.cons (.var 1) (.cons (.var 1) (.cons (.var 2) .nil)))) ρ=.ok (.fr,ed ts s0):=fun h1 h2=>zbz (z00 (z01 h1) (z00 (z01 h1) (z00 (z01 h2) z0a))) rfl e0
  let hz:=hs++[s0]
  have hz5:∀s∈hz,dp s<=6:=fun s h=>by
   rcases dh.mp h with y|y
   ·have:=h5 s y;omega
   ·rw[ck.mp y,d0];decide
  let R2:Option GD->Option GD->Option GD->Option GD->Option GD->Option GD->Option GD->Option GD->Rho:=fun u3 u4 u5 u6 u7 u8 u9 u10=>[some (.od,.list (xs.map .int)),some (.al,.int b),some (.nu,.list (ts.map th)),u3,u4,u5,u6,u7,u8,u9,u10]
  have rest:∀(g:G) (u3 u4:Option GD),(g=.al\/g=.nu)->∀(ρ:Rho),evF [] Φ (.tv (.var 3)) ρ=.ok (g,hz.map (ed ts),R2 u3 u4 none none none none none none)->Q (evS [] Φ (match(match z7b with|.seq _ (.seq _ (.seq _ (.seq _ r)))=>r|r=>r)with|.dpp _ _ r=>r|r=>r) ρ):=fun g u3 u4 hg ρ hF=>by
   unfold z7b;refine z85 (m:=ed ts) (xs:=hz) hF (fun _ ρ=>∃u5 u6 u7 u8 u9 u10,ρ=R2 u3 u4 u5 u6 u7 u8 u9 u10) ⟨_,_,_,_,_,_,rfl⟩ ?_ ?_
   ·rintro pre s post ρ hx ⟨u5,u6,u7,u8,u9,u10,rfl⟩
    have hs6:=hz5 s (by rw[hx];exact am _ ar)
    let tr:D:=.list (ts.map fun t=>.bool (hd s t))
    have hin:Nx (fun ρ=>∃u5 u6 u7 u8 u9 u10,ρ=R2 u3 u4 u5 u6 u7 u8 u9 u10) (evS [] Φ (.seq (.for_ (.tp [8,9]) (.enum (.var 2))
 (.seq (.asg (.nm 10) (.agg "list" (.tv (.ix (.var 9) (.int 1)))))
 (.seq (.ifS (.or (.not (.tv (.call 1 "_law_truth" (.cons (.call 2 "holds" (.cons (.var 5) (.cons (.ix (.var 9) (.int 0)) (.cons (.var 10) .nil)))) (.cons (.ix (.var 7) (.var 8)) .nil))))) (.tv (.cmp .NotEq (.var 10) (.ix (.var 9) (.int 1)))))
 (.seq (.ret (.bl false))
 .nil)
 .nil)
 .nil)))
 (.seq (.ifS (.not (.tv (.call 0 "_law_asked" (.cons (.var 5) (.cons (.var 7) (.cons (.var 2) .nil))))))
 (.seq (.ret (.bl false))
 .nil)
 .nil)
 .nil)) (R2 u3 u4 (some (.al,sy s)) (some (.al,.int (dp s))) (some (.al,tr)) u8 u9 u10)):=by
         have hE:=zkj (Κ:=[]) (Φ:=Φ) (ρ:=R2 u3 u4 (some (.al,sy s)) (some (.al,.int (dp s))) (some (.al,tr)) u8 u9 u10) (a:=.var 2) (x:=(.nu,.list (ts.map th))) rfl rfl (z8r (by rw[aw];omega));rw[zef]at hE;refine z85 (m:=fun x:Th×Nat=>.tuple [.int x.2,th x.1]) (xs:=ts.zipIdx) hE (fun _ ρ=>∃u8 u9 u10,ρ=R2 u3 u4 (some (.al,sy s)) (some (.al,.int (dp s))) (some (.al,tr)) u8 u9 u10) ⟨_,_,_,rfl⟩ ?_ ?_
         ·rintro pre2 x post2 ρ hx2 ⟨v8,v9,v10,rfl⟩
          have hj:=zgy (xs:=ts) (x:=x) (by rw[hx2];exact am _ ar);have hjl:x.2<ts.length:=(bu.mp hj).1;have hgt:=gt x.1 (b7 hj);have hix:ixD tr (.int x.2)=.ok (.bool (hd s x.1)):=by rw[ix_m (fun t:Th=>PyData.bool (hd s t)) x.1 (by omega) (by omega),av,show(x.2:Int).toNat=x.2 from rfl,hj];rfl
          refine⟨_,_,zcl x.1,z0h (z1m (xs:=x.1.2.map .str) (za8 (w:=(true,x.1.2.map .str)) (z2s (d:=wl x.1) (z01 rfl) z04.e rfl) rfl (z62 _ _) (z1q _)) (z1q _)) (z0h (z18 (k:=false) (t_or (k:=false) (k':=false) (z7h (k:=true) (t_tv (z0q (z00 (z0q (z00 (z01 rfl) (z00 (z2s (d:=pk x.1.1) (z01 rfl) z04.e rfl) (z00 (z01 rfl) z0a))) rfl (e_z1 6 s hs6 hgt) rfl).e (z00 (v_ix (z01 rfl) (z01 rfl) hix rfl).e z0a)) rfl (z8g (hd s x.1)) rfl).e rfl)) fun _=>t_tv (z1c (k:=false) (z01 rfl) (z2s (d:=wl x.1) (z01 rfl) z04.e rfl) (zco (z1z 39 _))).e rfl) (fun z=>by cases z) fun _=>z0t) z0t),_,_,_,rfl⟩
         ·rintro ρ ⟨v8,v9,v10,rfl⟩
          refine z57 (z7h (k:=true) (t_tv (z0q (z00 (z01 rfl) (z00 (z01 rfl) (z00 (z01 rfl) z0a))) rfl (zcg gt hl4 hs6) rfl).e rfl)) rfl ?_;exact zc2 ⟨_,_,_,_,_,_,rfl⟩
    obtain⟨ρ',q1,q2⟩:=hin;exact⟨_,ρ',zez hg ts s,q1,q2⟩
   ·rintro ρ ⟨u5,u6,u7,u8,u9,u10,rfl⟩
    exact q_rt (z0p v_bl) rfl
  rcases hg with⟨rfl,rfl⟩|⟨rfl,hne⟩
  ·have hq:=rest .al (some (.al,.list [ed ts s0])) (z0m u4) (.inl rfl) (R2 (some (.fr,.list [ed ts s0])) (z0m u4) none none none none none none) rfl;have:∀r,evS [] Φ (.dpp 3 (.call 3 "_law_atom" (.cons (.var 1) (.cons (.var 1) (.cons (.var 2) .nil)))) r) (R (some (.fr,.list [])) u4)=z1n (evS [] Φ r (R2 (some (.fr,.list [ed ts s0])) (z0m u4) none none none none none none)):=fun r=>by show(evE [] Φ _ _>>=_)=_;rw[eat rfl rfl];rfl
   show Q (evS [] Φ (.dpp 3 _ _) (R (some (.fr,.list [])) u4));rw[this];exact congrArg z1n hq
  ·obtain⟨h,hs',rfl⟩:∃h hs',hs=h::hs':=by
    cases hs with
    |nil=>exact absurd rfl hne
    |cons h t=>exact⟨h,t,rfl⟩
   let u4':Option GD:=z2t (.list ((h::hs').map (ed ts))) u4
   have hq:=rest .nu (some (.nu,.list (hz.map (ed ts)))) u4' (.inr rfl) (R2 (some (.nu,.list (hz.map (ed ts)))) u4' none none none none none none) rfl
   have:∀r,evS [] Φ (.dpp 3 (.call 3 "_law_atom" (.cons (.var 1) (.cons (.var 1) (.cons (.var 2) .nil)))) r) (R (some (.nu,.list ((h::hs').map (ed ts)))) u4)=z1n (evS [] Φ r (R2 (some (.nu,.list (hz.map (ed ts)))) u4' none none none none none none)):=fun r=>by
    show(evE [] Φ _ _>>=_)=_;rw[eat rfl rfl,Res.ok_bind];show(if((true||_)&&z0r (.list ((h::hs').map (ed ts))) ((h::hs').map (ed ts))&&decide (((h::hs').map (ed ts)).length<LIM))=true then z1n (evS [] Φ r (((R (some (.nu,.list ((h::hs').map (ed ts)))) u4).map (z2t (.list ((h::hs').map (ed ts))))).set 3 (some (.nu,.list ((h::hs').map (ed ts)++[ed ts s0])))))else .no)=_;rw[show z0r (.list ((h::hs').map (ed ts))) ((h::hs').map (ed ts))=true from z58 (zju ts h (hs'.map (ed ts))) (h::hs'),nv (show((h::hs').map (ed ts)).length<LIM by rw[aw];unfold LIM;omega)];show z1n (evS [] Φ r _)=_
    congr 2
    show[_,_,(if apart (.list ((h::hs').map (ed ts))) (.list (ts.map th))=true then some (G.nu,PyData.list (ts.map th))else none),some (G.nu,PyData.list ((h::hs').map (ed ts)++[ed ts s0])),_,_,_,_,_,_,_]=_;rw[show apart (.list ((h::hs').map (ed ts))) (.list (ts.map th))=true from zik ts h (hs'.map (ed ts)) ts];show[_,_,_,some (G.nu,PyData.list ((h::hs').map (ed ts)++[ed ts s0])),_,_,_,_,_,_,_]=[_,_,_,some (G.nu,PyData.list (((h::hs')++[s0]).map (ed ts))),_,_,_,_,_,_,_];rw[cn];rfl
   show Q (evS [] Φ (.dpp 3 _ _) (R (some (.nu,.list ((h::hs').map (ed ts)))) u4));rw[this];exact congrArg z1n hq
end Mk
namespace Mk
open PySem PySem.Spec PyProof.Rows L2 Mi
def top (i:Nat):Stmt:=PySem.Challenge.pw_likebook_k62_sayings_hold.main.body.getD i (.Pass ⟨0,0,0,0⟩)
abbrev FREE:List Str:=["dict","all","zip","any","range","tuple","min","max","len","isinstance","bool","list","enumerate","sum"]
abbrev Rz:List DRow:=[
 ⟨"degree",top 1,["one","name"],["one","name"],["dict"],[],S_z0,F_z0,.n,[]⟩,
 ⟨"holds",top 3,["saying","thing","words","kind"],["saying","thing","words"],[],[],S_z2,F_z1 0,.n,[]⟩,
 ⟨"holds",top 3,["saying","thing","words","kind"],["saying","thing","words"],[],[1,0],S_z1,F_z1 1,.n,[]⟩,
 ⟨"holds",top 3,["saying","thing","words","kind"],["saying","thing","words"],[],[2,0],S_z1,F_z1 2,.n,[]⟩,
 ⟨"holds",top 3,["saying","thing","words","kind"],["saying","thing","words"],[],[3,0],S_z1,F_z1 3,.n,[]⟩,
 ⟨"holds",top 3,["saying","thing","words","kind"],["saying","thing","words"],[],[4,0],S_z1,F_z1 4,.n,[]⟩,
 ⟨"holds",top 3,["saying","thing","words","kind"],["saying","thing","words"],[],[5,0],S_z1,F_z1 5,.n,[]⟩,
 ⟨"holds",top 3,["saying","thing","words","kind"],["saying","thing","words"],[],[6,0],S_z1,F_z1 6,.n,[]⟩,
 ⟨"so",top 4,["asking","things","holding","kind"],["asking","things","holding"],["all","zip","any"],[],S_z4,F_z3 0,.n,[]⟩,
 ⟨"so",top 4,["asking","things","holding","kind"],["asking","things","holding"],["all","zip","any"],[8,7],S_z3,F_z3 1,.n,[]⟩,
 ⟨"so",top 4,["asking","things","holding","kind"],["asking","things","holding"],["all","zip","any"],[9,7],S_z3,F_z3 2,.n,[]⟩,
 ⟨"so",top 4,["asking","things","holding","kind"],["asking","things","holding"],["all","zip","any"],[10,7],S_z3,F_z3 3,.n,[]⟩,
 ⟨"so",top 4,["asking","things","holding","kind"],["asking","things","holding"],["all","zip","any"],[11,7],S_z3,F_z3 4,.n,[]⟩,
 ⟨"_law_mix",top 6,["_law_cell","_law_k","_law_some"],["_law_cell","_law_k"],[],[],S_z5,F_z5,.n,[]⟩,
 ⟨"_law_number",top 7,["_law_cell"],["_law_cell"],[],[],S_z6,F_z6,.n,[]⟩,
 ⟨"_law_things",top 8,["_law_cell","_law_many","_law_things_here","_law_k","_law_pairs","_law_j","_law_some","_law_count","_law_words"],["_law_cell","_law_many"],["range","tuple","min"],[13,14],S_z7,F_z7,.n,[]⟩,
 ⟨"_law_degree",top 9,["_law_pairs","_law_name","_law_other","_law_count"],["_law_pairs","_law_name"],[],[],S_z8,F_z8,.n,[]⟩,
 ⟨"_law_atom",top 10,["_law_cell","_law_base","_law_things_here","_law_name","_law_least"],["_law_cell","_law_base","_law_things_here"],[],[16,14,13],S_z9,F_z9,.n,[]⟩,
 ⟨"_law_joined",top 11,["_law_word","_law_one","_law_other","_law_truths","_law_k"],["_law_word","_law_one","_law_other"],["max","range","len"],[],zb1,zbe,.n,[]⟩,
 ⟨"_law_step",top 12,["_law_heap","_law_cell","_law_base","_law_things_here","_law_way","_law_top"],["_law_heap","_law_cell","_law_base","_law_things_here"],["len"],[17,18],zb3,z6j,.n,[]⟩,
 ⟨"_law_truth",top 13,["_law_found","_law_due"],["_law_found","_law_due"],["isinstance","bool"],[],zdr,z5f,.n,[]⟩,
 ⟨"_law_asked",top 14,["_law_saying","_law_truths","_law_things_here","_law_packs","_law_words","_law_many","_law_one","_law_every","_law_some","_law_whole","_law_cases","_law_asking","_law_due"],["_law_saying","_law_truths","_law_things_here"],["len","list"],[20,12],z9d,z98,.n,[]⟩]
abbrev Lr:DRow:=⟨"law",top 15,["_law_script","_law_base","_law_things_here","_law_heap","_law_cell","_law_saying","_law_deep","_law_truths","_law_k","_law_thing","_law_words"],["_law_script"],["enumerate","list","sum"],[21,20,7,17,19,13,15],z7b,z7t,.n,[]⟩
abbrev Xt:List XR:=[]
theorem t_ok:oks (Rz++[Lr]) Xt FREE 0 (Rz++[Lr])=true:=by decide+kernel
theorem t_F:fOks (Rz++[Lr]) (Rz++[Lr]):=⟨rfl,rfl,rfl,rfl,rfl,rfl,rfl,rfl,rfl,rfl,rfl,rfl,rfl,rfl,rfl,rfl,rfl,rfl,rfl,rfl,rfl,rfl,rfl,trivial⟩
def zLd:nj:=⟨"law",z0y (top 15),z0j (top 15),z06 (top 15),⟨89,0,103,15⟩⟩
theorem zH3:KEq zKz (Rz++[Lr]) FREE Xt:=by
 rw[PySem.W.Fast.tkeq_eq];intro P
 kernel_rfl
theorem zT1:Tp.said PySem.Challenge.rw_likebook_k62_sayings_hold=true:=by
 rw[PySem.W.Fast.tsaid_eq]
 kernel_rfl
theorem zT2:W.opening zRp=W.plainProg zRp.main.scope.names:=by kernel_rfl
theorem zT3:∀s,fenceModules? zRp s=some s:=fun s=>by kernel_rfl
theorem zT4:W.defOf zQv PySem.Challenge.rw_likebook_k62_sayings_hold.row.name=some (zLd,[]):=by kernel_rfl
theorem zT5:zRp.theDef PySem.Challenge.rw_likebook_k62_sayings_hold.row.name=some (zLd.params,zLd.body,zLd.scope):=by kernel_rfl
theorem zT6:W.kwWritten? zLd.params.kwonlyargs zLd.params.kw_defaults=some []:=by kernel_rfl
theorem zT7:(!PySem.Challenge.rw_likebook_k62_sayings_hold.row.writes||PySem.Challenge.rw_likebook_k62_sayings_hold.row.records.isEmpty)=true:=by kernel_rfl
theorem zT8:(W.chainsOk zQv&&W.opensWell zRp&&(W.frees PySem.Challenge.rw_likebook_k62_sayings_hold.row.toRowW&&PySem.Challenge.rw_likebook_k62_sayings_hold.row.within.isEmpty))=true:=by kernel_rfl
theorem walk {l:W.OpenLaw}{q:aq}{loose:List Str}{XP:(Str->Option Value)->Heap->Prop}{YP:World->Heap->Prop}{d:nj}{K:eo->W.Frag}(hn:l.most=some 63)(hdf:d.params.defaults=[])
  (hY:∀(w:World) (h:Heap),YP w h->(K w.params).In h)
  (F:∀(w:World) (mg:Str->Option Value) (fa:Addr) (h:Heap),(K w.params).In h->h.Ns bj mg->mg d.name=some (.ref fa)->∃fd:dq,(∀(s:ac) (u:Value),la s fd ⟨[u],[]⟩ [("_law_script",u)])/\∀base:Heap,(K w.params).In base->base.Ns bj mg->FnOk l.prog w (K w.params) mg base CX0 23 fa fd ["_law_script"] (spD (K w.params) 1 z7t)):
  W.WalkO q loose XP YP l.row.toRowW d [] (fun f vs=>PySem.call f vs):=
 L2.walk_of (n:=63) (k:=23) (x:="_law_script") (CX:=fun _=>CX0) (sp:=fun w=>spD (K w.params) 1 z7t) hn (by decide) hdf ⟨rfl,by decide,by decide⟩ hY F (fun _ _ a ns hl _ hS=>⟨_,_,_,rfl,z6u hS,zkn hl,fun v H' _ r=>r⟩) fun _ _ _ _ _ z=>z
theorem b_ok:bOks Rz:=⟨fun _ _ _ _ _ _=>by2 fun _ _=>rfl,fun _ _ _ _ _ _=>by3 fun _ _ _=>rfl,fun _ _ _ _ _ _=>by3 fun _ _ _=>rfl,fun _ _ _ _ _ _=>by3 fun _ _ _=>rfl,fun _ _ _ _ _ _=>by3 fun _ _ _=>rfl,fun _ _ _ _ _ _=>by3 fun _ _ _=>rfl,fun _ _ _ _ _ _=>by3 fun _ _ _=>rfl,fun _ _ _ _ _ _=>by3 fun _ _ _=>rfl,fun _ _ _ _ _ _=>by3 fun _ _ _=>rfl,fun _ _ _ _ _ _=>by3 fun _ _ _=>rfl,fun _ _ _ _ _ _=>by3 fun _ _ _=>rfl,fun _ _ _ _ _ _=>by3 fun _ _ _=>rfl,fun _ _ _ _ _ _=>by3 fun _ _ _=>rfl,fun _ _ _ _ _ _=>by2 fun _ _=>rfl,fun _ _ _ _ _ _=>by1 fun _=>rfl,fun _ _ _ _ _ _=>by2 fun _ _=>rfl,fun _ _ _ _ _ _=>by2 fun _ _=>rfl,fun _ _ _ _ _ _=>by3 fun _ _ _=>rfl,fun _ _ _ _ _ _=>by3 fun _ _ _=>rfl,fun _ _ _ _ _ _=>by4 fun _ _ _ _=>rfl,fun _ _ _ _ _ _=>by2 fun _ _=>rfl,fun _ _ _ _ _ _=>by3 fun _ _ _=>rfl,trivial⟩
end Mk
open PySem PySem.W PyProof.Rows Mi
set_option maxRecDepth 100000 in
set_option maxHeartbeats 0 in
theorem PySem.Challenge.cw_likebook_k62_sayings_hold_holds : PySem.Challenge.rw_likebook_k62_sayings_hold.Holds := by
 refine Tp.holds (l:=PySem.Challenge.rw_likebook_k62_sayings_hold) (q:=Mk.zQv) (d:=Mk.zLd) (K:=Mk.zKz) (M:=100000) (N:=200000) Mk.zT1 (Tp.Ko_as _ _ Mk.zAs) Mk.zT2 rfl Mk.zT3 (by decide) Mk.zH1 Mk.zH2 Mk.zT4 Mk.zT5 Mk.zT6 Mk.zT7 Mk.zT8 ⟨rfl,rfl,rfl,rfl,rfl,by decide+kernel⟩ (by w_witness2) ?_;refine Mk.walk (l:=PySem.Challenge.rw_likebook_k62_sayings_hold) rfl rfl (fun w h Y=>Y) ?_;intro w mg fa h KX G hmg;exact all_rows (Rs:=Mk.Rz) (lr:=Mk.Lr) (xt:=Mk.Xt) (fr:=Mk.FREE) KX G hmg rfl rfl Mk.t_ok Mk.t_F (z7p (fun r hr=>(z4f Mk.zH3 w.params).1 r (cu _ hr)) Mk.b_ok) ((z4f Mk.zH3 w.params).1 Mk.Lr (am _ (.head _))) (fun _ _ _ _ _ _ s v=>.of_eq rfl) (z4f Mk.zH3 w.params).2.1 (z4f Mk.zH3 w.params).2.2.1 (fun z=>absurd rfl z) (z4f Mk.zH3 w.params).2.2.2
