import PyProof.Rows.All
import Wide.All
import OpenK.AllK
import Wide.FinOn
import Lean
import PyProof.EqAt
import PyProof.EqKinds
import PyProof.TupleCall
import PySem.Syntax
import PyProof.P3Statements
import PyProof.SliceList
import PyProof.AttrMissSeq
import PyProof.AttrMissHeap
import KE.KDictOf
import KE.KSortTup
import PyProof.DictItemsLoops
import KE.KPairComp
import KE.KItemsList
import KE.KDictSum
import PyProof.Draws
import PyProof.ZipIter
import PyProof.EnumMake
import PyProof.WalksEnum
import PyProof.Rows.SetFrom
import PyProof.SetRoads
import Open.Pieces
import OpenK.KWalk
import PyProof.Rows.Walk
import PySem.Challenge.RW_likebook_k56_shown
noncomputable section
open Array renaming length_toList→cw,getElem?_toList→iy,toArray_toList→ja,getElem?_eq_getElem→jr,toList_append→ls,append_assoc→l4
open Bool renaming and_eq_true_iff→av,and_eq_true→aw,false_ne_true→bn,or_eq_true_iff→de,beq_eq_decide_eq→iz,true_and→jy,or_eq_true→kz,eq_false_iff→mi,not_eq_true'→mj
open Int renaming emod_nonneg→dq,emod_lt_of_pos→gg,toNat_natCast→mn
open List renaming length_append→ac,mem_cons_self→af,length_map→ag,size_toArray→ai,length_cons→aj,mem_cons_of_mem→ak,mem_append_right→ar,getElem?_eq_some_iff→au,map_cons→az,mem_cons→a8,getElem?_set_ne→a9,replicate→ba,getElem?_map→bc,getD_eq_getElem?_getD→bf,getElem?_eq_getElem→bg,length_set→bo,getElem?_set_self→br,mem_map→bt,all_eq_true→bu,mem_append→bx,length_replicate→bz,contains_iff_mem→b6,filterMap_cons→b7,mem_of_getElem?→b8,range→cb,lookup_cons→cf,map_append→cg,all_cons→ci,mem_singleton→cj,length_range→cr,length_take→cx,not_mem_nil→cy,getElem?_replicate→c0,length_drop→c6,map→c7,getElem?_append_right→da,getElem?_set→db,append_nil→dg,mem_append_left→di,eq_nil_of_length_eq_zero→dj,filter_eq_self→dt,getElem?_eq_none_iff→dv,getElem?_append_left→dw,nodup_cons→eh,find?_cons→eo,length_nil→eu,mem_of_mem_drop→fj,mem_of_mem_take→fm,map_map→fo,map_inj_left→fq,length_eq_zero_iff→f7,length→f9,dropLast_concat_getLast→gh,any_cons→gi,flatten_cons→gm,replicate_succ→gw,getElem?_cons_succ→ip,append_assoc→iu,eraseIdxIfInBounds_toArray→iw,mem_flatten→i7,sum_cons→i8,length_dropLast→i9,getElem?_append→jb,length_pos_iff→jg,mem_range→jk,mem_filterMap→jl,pairwise_cons→jo,drop_eq_getElem_cons→jp,filterMap_cons_none→jz,filterMap_cons_some→j4,map_nil→ki,find?_cons_of_pos→kr,find?_cons_of_neg→ku,take_of_length_le→kw,of_mem_zip→ky,dropLast_eq_take→k9,mem_iff_getElem?→la,toList_toArray→lu,Pairwise→lz,length_zipIdx→l8,set_set→mr,map_id→mz
open Nat renaming le_refl→ae,lt_of_lt_of_le→bh,le_trans→bq,ne_of_lt→b9,lt_irrefl→cq,zero_le→df,pow_le_pow_right→jc,lt_trans→ji,lt_succ_self→j7,add_sub_cancel'→lp,le_of_lt→l9,succ_mul→mv
open Option renaming map_eq_some_iff→cv,isNone_iff_eq_none→d8,bind_eq_some_iff→f8,isSome_map→jt
open Prod renaming fst→nk
open PyProof.Rows renaming kindOf→i6,AllBare→jh,subscriptTail_builtinR→km,envOfC→lg,IntsAre→m7
open PySem renaming Shared→aa,PyData→ah,Program→ao,sizeLine→aq,wpAny_bind→ay,mainGlobals→bj,wpAny_pure→bv,compareOp→bw,Around→ce,bootBuiltins→ck,starEach→cu,FuncData→cz,foldedSetIterable→c8,NameKind→c9,PassesOwn→dh,assignEach→dm,Params→dn,binaryOp→dr,wpAny_passesOwn→d9,sizeLine_eq→fg,sliceBounds→fi,wpAny_getItem_str_slice→fz,sysModules→gb,wpAny_mono→gc,wpAny_Call_Name_kw→gf,wpAny_truthy_bool→gj,wpAny_newObj_type→gk,unbindBehindTheSuite→gr,Paired→gv,Operator→gy,behindInMarks→gz,Comprehension→g8,letOwnedTupleGo→g9,importedModules→ig,tupleKind_room_in1→ij,wpAny_field→ik,wpAny_callSpecial?_slot→im,treeTable→iq,backTo→i3,wpAny_execs_cons→i4,swapsWith→i5,wpAny_execs_nil→jd,post_val_or_str→jf,OsState→ju,attributeBase→jv,wpAny_comprehension_free→jx,noFill_tuple_add→j8,wpAny_call_entry→j9,assign→ka,codeAny_mono→ke,Keyword→kh,concat_meets→kj,call_meets→kq,isTrue→lc,wpAny_loadName_local→lf,sliceRange_one→lh,tupleKind→li,BindsTo→lj,codeAny→ll,valueAt→lm,callerA→ln,wpAny_isSubtype_exc→lq,swapsWithSole→lw,swappedStores→lx,seq_tuple_add→ly,wpAny_Name→l5,IsPart→l6,wpAny_pyIter_tuple→l7,GenState→ma,wpAny_assign_Name→md,getItem→me,seqIndex_neg→mf,slot_list_getitem→mh,wpAny_pyIter_list→ml,wpAny_pyIter_enum→mo,wpAny_loadPart_at→mq,seqIndex?→mw,keywordEach→mx,seqIndex_of→my,standAt→m4,holding→m5,builtinsNs→m8,truthy→m9,pyIter→nc,bindArgs→nh,typeIs_str→ni,PlainAttrs→nj,rawInt→nq,DefRec→nr,relabel→nv
open PySem.Builtin.Slice renaming slicePlaces→dz,sliceAdjust→gu,sliceApplied→jn
open PySem.Builtin.SmallTypes renaming nextOf→jq
open PySem.Builtin.Str renaming occurrences→cn,strSliceIndices→du,glued→mm
open PySem.Builtin.Tuple renaming tupleExact→fu
open PySem.Calls renaming Name_function_global→gq,spliced_cons→jm,loadGlobal_global→j6,callWith_builtin→ko
open PySem.Heap renaming get?_push_of_some→am,lt_size→ax,get?_push_size→bp,SameBut→ez,get?_update_other→kn,get?_update_self→k8,get?_none_of_le→lb
set_option Elab.async false
set_option linter.all false
set_option maxRecDepth 100000
theorem ny {p:Prop} [Decidable p] (h:decide p=true):p:=of_decide_eq_true h
theorem nz {p:Prop} [Decidable p] (h:p):decide p=true:=decide_eq_true h
theorem n5 {p:Prop} [Decidable p] (h:¬p):decide p=false:=decide_eq_false h
theorem n6 {α} [BEq α] [LawfulBEq α] {a b:α}(h:(a==b)=true):a=b:=beq_iff_eq.mp h
namespace Tp
open PySem PySem.W PyProof.Rows
def q0:Pos:=⟨0,0,0,0⟩
def an:Option Value:=some (.ref 6)
def ev (p:ao):Env:={scope:=p.main.scope,locals:=mainNs,globals:=mainNs,cells:=[],code:=.ref 13,frame:=some 14}
def cd (p:ao):Code:=.body (behindTheImports p) (ev p)
def grow:List Obj->Nat->BT->BT
 | [],_,t=>t
 |o::l,i,t=>grow l (i+1) (t.ins i o)
def lift (s:aa):SharedT:=⟨grow s.heap.objs.toList 0 .nil,s.heap.objs.size,s.heap.life,s.gens,s.drawn,s.toks,s.os⟩
def pre (p:ao)(H:dn->Heap)(d:Drawn)(k:Nat)(w:World)(os:ju):Option (aa×Thread):=topGo iq p w 11 an 12 ⟨H w.params,#[],d,k,os⟩ (topStub p)
def preS (p:ao)(H:dn->Heap)(d:Drawn)(k:Nat)(w:World)(os:ju):SharedT:=lift (((pre p H d k w os).map nk).getD ⟨H w.params,#[],d,k,os⟩)
def run (p:ao)(H:dn->Heap)(d:Drawn)(k N:Nat)(w:World)(os:ju):Option (Flow×SharedT×Code×Pos):=segRunT iq p w 11 an 1 N (preS p H d k w os) (piecesOf (behindTheImports p) (ev p) (cd p) q0 [topFrame q0])
def PreEq (p:ao)(H:dn->Heap)(d:Drawn)(k:Nat):Prop:=∀(w:World) (os:ju),((H w.params).isNs bj&&(#[]:Array ma).size==0,(H w.params).objs.size,(H w.params).nsMap bj "__annotations__",pre p H d k w os,fun s c=>segRun iq p w 11 an 1 1 s (blockOf (behindTheImports p) (ev p) c q0 [topFrame q0]))=(true,11,an,some ((preS p H d k w os).abs,⟨denote iq (cd p),cd p,q0,[topFrame q0]⟩),fun s c=>some (.next,s,c,q0))
def seen (p q:ao)(R:WRecords)(as:List Addr)(H:dn->Heap)(w:World)(s:SharedT):=(staticsOk (ig p.main.body) (H w.params) s.abs.heap&&namesBound p s.abs.heap&&gensDone s.abs&&laidKept (H w.params) s.abs.heap,openSeen q [] (ig p.main.body) (fun s=>xlAt q [] s&&recOk R s) true s.abs,as.map s.abs.heap.get?)
def pick {α:Type}(f:SharedT->α):Flow×SharedT×Code×Pos->Option (Code×α)
 |(.next,s,c,_)=>some (c,f s)
 |_=>none
def RunEq (p q:ao)(R:WRecords)(as:List Addr)(K:dn->List (Addr×Obj))(H:dn->Heap)(d:Drawn)(k N:Nat):Prop:=∀(w:World) (os:ju),(run p H d k N w os).bind (pick (seen p q R as H w))=some (cd p,true,openGood q [],(K w.params).map fun x=>some x.2)
theorem fin_ (tb:String->Option Builtin)(p:ao)(w:World)(n:Nat)(a:Option Value)(s:aa)(c:Code)(ps q:Pos):topRun tb p w n a 2 s ⟨doneF .next,c,ps,[topFrame q]⟩=some s:=by obtain⟨h,g,d,k,os⟩:=s;rfl
theorem left {p q:ao}{R:WRecords}{as:List Addr}{K:dn->List (Addr×Obj)}{M N:Nat}(o:∀w,(fencedOpening iq p w N).map (fun s=>(s.heap,s.gens,s.drawn,s.toks))=some (boot_heap w.params,#[],boot_drawn,boot_toks))(le:12+(1+(M+2))<=N)
  (h1:PreEq p boot_heap boot_drawn boot_toks) (h2:RunEq p q R as K boot_heap boot_drawn boot_toks M):LeftO p q [] (fun s=>xlAt q [] s&&recOk R s) (fun s=>as.map s.heap.get?) (fun w=>(K w.params).map fun x=>some x.2) N:=fun w=>by
 obtain⟨⟨h,gs,d,k,os⟩,e,e'⟩:=cv.mp (o w);have e1:=Prod.mk.inj e';have e2:=Prod.mk.inj e1.2;have e3:=Prod.mk.inj e2.2;obtain rfl:h=boot_heap w.params:=e1.1;obtain rfl:gs=#[]:=e2.1;obtain rfl:d=boot_drawn:=e3.1;obtain rfl:k=boot_toks:=e3.2;have a:=Prod.mk.inj (h1 w os);have a2:=Prod.mk.inj a.2;have a3:=Prod.mk.inj a2.2;have a4:=Prod.mk.inj a3.2;obtain⟨⟨f,s,c,ps⟩,r1,r2⟩:=f8.mp (h2 w os);cases f with
 |next=>
  have b:=Prod.mk.inj (Option.some.inj r2);have b1:=Prod.mk.inj b.2;have b2:=Prod.mk.inj b1.2;obtain rfl:c=cd p:=b.1;have t1:topRun iq p w 11 an (M+2) (preS p boot_heap boot_drawn boot_toks w os).abs (restOf (behindTheImports p++[]) (ev p) (cd p) q0 [topFrame q0])=some s.abs:=piece_app (segRun_of r1) (fin_ iq p w 11 an s.abs (cd p) ps q0);rw[dg]at t1;have t2:=piece_block (congrFun (congrFun a4.2 (preS p boot_heap boot_drawn boot_toks w os).abs) (cd p)) t1;have t3:=go_top a4.1 t2;have t4:=topRun_mono (N-(12+(1+(M+2)))) _ _ _ _ t3;rw[lp le]at t4
  have t:topFrom iq p w N ⟨boot_heap w.params,#[],boot_drawn,boot_toks,os⟩=some s.abs:=by
   unfold topFrom
   dsimp only
   rw[a.1,a2.1,a3.1,t4];show(match staticsOk (ig p.main.body) (boot_heap w.params) s.abs.heap&&namesBound p s.abs.heap&&gensDone s.abs&&laidKept (boot_heap w.params) s.abs.heap with|true=>some s.abs|false=>none)=_;rw[b1.1]
  unfold openEnds;rw[e];show(topFrom iq p w N _).map _=_;rw[t];exact congrArg some (Prod.ext b2.1 b2.2)
 |_=>cases r2
theorem pre_r:PreEq=PreEq:=rfl
def za4 (p q:ao)(R:WRecords)(H:dn->Heap)(w:World)(s:SharedT):=(staticsOk (ig p.main.body) (H w.params) s.abs.heap&&namesBound p s.abs.heap&&gensDone s.abs&&laidKept (H w.params) s.abs.heap,openSeen q [] (ig p.main.body) (fun s=>xlAt q [] s&&recOk R s) true s.abs)
def RunA (p q:ao)(R:WRecords)(H:dn->Heap)(d:Drawn)(k N:Nat):Prop:=∀(w:World) (os:ju),(run p H d k N w os).bind (pick (za4 p q R H w))=some (cd p,true,openGood q [])
def RunB (p:ao)(as:List Addr)(K:dn->List (Addr×Obj))(H:dn->Heap)(d:Drawn)(k N:Nat):Prop:=∀(w:World) (os:ju),(run p H d k N w os).bind (pick fun s=>as.map s.abs.heap.get?)=some (cd p,(K w.params).map fun x=>some x.2)
theorem zbd {α β:Type}{f:SharedT->α}{g:SharedT->β}{x:Option (Flow×SharedT×Code×Pos)}{c:Code}{a:α}{b:β}(h1:x.bind (pick f)=some (c,a))(h2:x.bind (pick g)=some (c,b)):x.bind (pick fun s=>(f s,g s))=some (c,a,b):=by
 cases x with
 |none=>cases h1
 |some y=>
  obtain⟨fl,s,c',ps⟩:=y;cases fl with
  |next=>have e1:=Prod.mk.inj (Option.some.inj (show some (c',f s)=some (c,a)from h1));have e2:=Prod.mk.inj (Option.some.inj (show some (c',g s)=some (c,b)from h2));show some (c',f s,g s)=_;rw[e1.1,e1.2,e2.2]
  |_=>cases h1
theorem run_ab {p q:ao}{R:WRecords}{as:List Addr}{K:dn->List (Addr×Obj)}{H:dn->Heap}{d:Drawn}{k N:Nat}(h1:RunA p q R H d k N)(h2:RunB p as K H d k N):RunEq p q R as K H d k N:=fun w os=>by
 have h:=zbd (h1 w os) (h2 w os);cases e:run p H d k N w os with
 |none=>rw[e]at h;cases h
 |some y=>
  rw[e]at h;obtain⟨fl,s,c',ps⟩:=y;cases fl with
  |next=>have e1:=Prod.mk.inj (Option.some.inj (show some (c',(za4 p q R H w s,as.map s.abs.heap.get?))=some (cd p,(true,openGood q []),_)from h));have e2:=Prod.mk.inj e1.2;show some (c',(za4 p q R H w s).1,(za4 p q R H w s).2,as.map s.abs.heap.get?)=_;rw[e1.1,e2.2,e2.1]
  |_=>cases h
theorem runA_r:RunA=RunA:=rfl
theorem runB_r:RunB=RunB:=rfl
end Tp
lay_quick Tp.PreEq Tp.RunA Tp.RunB
name_quick tpre for Tp.PreEq by Tp.pre_r
name_quick truna for Tp.RunA by Tp.runA_r
name_quick trunb for Tp.RunB by Tp.runB_r
namespace Tp
open PySem PySem.W PyProof.Rows
theorem rn_r:run=run:=rfl
end Tp
name_quick trn for Tp.run by Tp.rn_r
namespace Tp
open PySem PySem.W PyProof.Rows
def obj (p:ao)(M:Nat)(P:dn)(a:Addr):Obj:=((PySem.W.Fast.trn p boot_heap boot_drawn boot_toks M ⟨fun _ _=>0,P⟩ default).map fun x=>(x.2.1.tree.get a).getD default).getD default
def Ko (p:ao)(M:Nat)(as:List Addr)(P:dn):Frag:=as.map fun a=>(a,obj p M P a)
theorem Ko_as (p:ao)(M:Nat)(as:List Addr)(P:dn):as=(Ko p M as P).map (·.1):=by unfold Ko;rw[fo];exact(mz _).symm
def said (l:OpenLaw):Bool:=l.wellSaid
theorem said_r:said=said:=rfl
theorem holds {l:OpenLaw}{q:ao}{d:nr}{as:List Addr}{K:dn->Frag}{M N:Nat}(ws:said l=true)(ek:∀P,as=(K P).map (·.1))(o1:opening l.row.prog=plainProg l.row.prog.main.scope.names)(o2:Nat.ble 600 N=true)(o3:∀s,fenceModules? l.row.prog s=some s)(le:12+(1+(M+2))<=N)
  (h1:PreEq l.row.prog boot_heap boot_drawn boot_toks) (h2:RunEq l.row.prog q l.row.records as K boot_heap boot_drawn boot_toks M) (a1:defOf q l.row.name=some (d,[])) (a2:l.row.prog.theDef l.row.name=some (d.params,d.body,d.scope)) (a3:kwWritten? d.params.kwonlyargs d.params.kw_defaults=some []) (a4:(!l.row.writes||l.row.records.isEmpty)=true)
  (a5:(chainsOk q&&opensWell l.row.prog&&(frees l.row.toRowW&&l.row.within.isEmpty))=true) (a6:l.row.prog.bare) (a7:l.row.toRowW.promised) (call:WalkO q [] (XL q []) (InK K) l.row.toRowW d [] fun f vs=>PySem.call f vs):l.Holds:=
 holds_law ws fun z=>holds_open (left (boot_open o1 o2 o3) le h1 h2) (InK.of ek) InK.keeps (fun s e=>xl_of s (av.mp e).1) XL.keeps a1 a2 a3 (fun s e=>recFacts_of (av.mp e).2) a4 z a5 a6 a7 call
end Tp
lay_quick Tp.said
name_quick tsaid for Tp.said by Tp.said_r
namespace Mk
open PySem PySem.Spec PyProof.Rows
abbrev zRp:ao:=PySem.Challenge.rw_likebook_k56_shown.row.prog
def zQv:ao:=W.view zRp [1,2,3,5,6,7,8,9,10,11,12,13,14,15]
def zAs:List Addr:=cb 107
def zKz:dn->W.Frag:=Tp.Ko zRp 100000 zAs
theorem zH1:Tp.PreEq zRp W.boot_heap W.boot_drawn W.boot_toks:=by
 rw[PySem.W.Fast.tpre_eq];intro w os
 kernel_rfl
theorem zH2a:Tp.RunA zRp zQv PySem.Challenge.rw_likebook_k56_shown.row.records W.boot_heap W.boot_drawn W.boot_toks 100000:=by
 rw[PySem.W.Fast.truna_eq];intro w os
 kernel_rfl
theorem zH2b:Tp.RunB zRp zAs zKz W.boot_heap W.boot_drawn W.boot_toks 100000:=by
 rw[PySem.W.Fast.trunb_eq];intro w os
 kernel_rfl
theorem zH2:Tp.RunEq zRp zQv PySem.Challenge.rw_likebook_k56_shown.row.records zAs zKz W.boot_heap W.boot_drawn W.boot_toks 100000:=Tp.run_ab zH2a zH2b
end Mk
namespace L2
open PySem PySem.Spec PyProof.Rows
abbrev Key:=Sum Int Str
def z5r:Key->Value->Bool
 |.inl k,v=>Value.isInt k v
 |.inr x,v=>Value.isStrOf x v
def keyH (w:World):Key->Int
 |.inl k=>hashInt k
 |.inr x=>hashStr w x
theorem z0l:∀{k:Key} {v:Value},z5r k v=true->(∃i t,k=Sum.inl i/\v=Value.int i t)\/(∃x t,k=Sum.inr x/\v=Value.str x t)
 |.inl i,v,h=>by obtain⟨t,e⟩:=Value.isInt_shape (k:=i) (v:=v) h;exact .inl ⟨i,t,rfl,e⟩
 |.inr x,v,h=>by obtain⟨t,e⟩:=Value.isStrOf_shape (x:=x) (v:=v) h;exact .inr ⟨x,t,rfl,e⟩
theorem z8t (i:Int)(t:Tok):z5r (.inl i) (.int i t)=true:=by simp[z5r,Value.isInt]
theorem z9n (x:Str)(t:Tok):z5r (.inr x) (.str x t)=true:=by simp[z5r,Value.isStrOf]
theorem zfw (a b:Int):decide ((Sum.inl a:Key)=Sum.inl b)=(a==b):=by
 by_cases e:a=b
 ·subst e;simp
 ·have h:¬(Sum.inl a:Key)=Sum.inl b:=fun q=>e (Sum.inl.inj q);rw[n5 h];exact(beq_eq_false_iff_ne.mpr e).symm
theorem zim (a b:Str):decide ((Sum.inr a:Key)=Sum.inr b)=decide (a=b):=by
 by_cases e:a=b
 ·subst e;simp
 ·have h:¬(Sum.inr a:Key)=Sum.inr b:=fun q=>e (Sum.inr.inj q);rw[n5 h,n5 e]
theorem zhu (a:Int)(b:Str):decide ((Sum.inl a:Key)=Sum.inr b)=false:=n5 (fun q=>nomatch q)
theorem zh0 (a:Str)(b:Int):decide ((Sum.inr a:Key)=Sum.inl b)=false:=n5 (fun q=>nomatch q)
def z0n (prog:ao)(w:World):PySem.KeyKind prog w Key where
 is:=z5r
 hash:=keyH w
 inj:=fun v a b ha hb=>by
  rcases z0l ha with⟨i,t,rfl,rfl⟩|⟨x,t,rfl,rfl⟩
  ·rcases z0l hb with⟨j,u,rfl,e⟩|⟨y,u,rfl,e⟩
   ·injection e with e1 _;rw[e1]
   ·exact nomatch e
  ·rcases z0l hb with⟨j,u,rfl,e⟩|⟨y,u,rfl,e⟩
   ·exact nomatch e
   ·injection e with e1 _;rw[e1]
 byValue:=fun k v h=>by rcases z0l h with⟨i,t,rfl,rfl⟩|⟨x,t,rfl,rfl⟩<;>rfl
 pyHash:=fun hv h=>by
  rcases z0l hv with⟨i,t,rfl,rfl⟩|⟨x,t,rfl,rfl⟩
  ·exact wpAny_pyHash_int h
  ·exact wpAny_pyHash_str h
 eqBool:=fun hu hv h=>by
  rcases z0l hu with⟨i,t,rfl,rfl⟩|⟨x,t,rfl,rfl⟩
  ·rcases z0l hv with⟨j,u,rfl,rfl⟩|⟨y,u,rfl,rfl⟩
   ·rw[zfw]at h;exact wpAny_eqBool_int h
   ·rw[zhu]at h;exact SeqAt.EqAt.int_str i t y u _ _ _ _ h
  ·rcases z0l hv with⟨j,u,rfl,rfl⟩|⟨y,u,rfl,rfl⟩
   ·rw[zh0]at h;exact SeqAt.EqAt.str_int x t j u _ _ _ _ h
   ·rw[zim]at h;exact wpAny_eqBool_str h
 «strs»:=fun k x t v h=>by
  rcases z0l h with⟨i,u,rfl,e⟩|⟨y,u,rfl,e⟩
  ·exact nomatch e
  ·injection e with e1 _;subst e1;cases v<;>rfl
theorem z6s (prog:ao)(w:World)(k:Key)(v:Value):(z0n prog w).is k v=z5r k v:=rfl
theorem z5e (prog:ao)(w:World)(i:Int)(t:Tok):(z0n prog w).is (.inl i) (.int i t)=true:=z8t i t
theorem z5o (prog:ao)(w:World)(x:Str)(t:Tok):(z0n prog w).is (.inr x) (.str x t)=true:=z9n x t
inductive V where
 |non|bl (b:Bool)|int (i:Int)|str (x:Str)|byt (b:Array UInt8)|flt (b:UInt64)|ref (a:Addr)|ty (n:String)
 deriving DecidableEq
def RelV:V->Value->Prop
 |.non,u=>u=Value.none
 |.bl b,u=>u=Value.bool b
 |.int i,u=>∃t,u=Value.int i t
 |.str x,u=>∃t,u=Value.str x t
 |.byt b,u=>∃t,u=Value.bytes b t
 |.flt b,u=>∃t,u=Value.float b t
 |.ref a,u=>u=Value.ref a
 |.ty n,u=>u=Value.type n
abbrev Vals:List V->List Value->Prop:=gv RelV
theorem Vals.length {xs:List V}{us:List Value}(r:Vals xs us):xs.length=us.length:=Paired.length r
theorem Vals.get:∀{xs:List V} {us:List Value} {i:Nat} {x:V},Vals xs us->xs[i]?=some x->∃u,us[i]?=some u/\RelV x u
 |_,_,_,_,.nil,e=>by simp at e
 |_,_,0,_,.cons r _,e=>by simp at e;subst e;exact⟨_,rfl,r⟩
 |_,_,i+1,x,.cons _ t,e=>by obtain⟨u,h1,h2⟩:=Vals.get (i:=i) (x:=x) t (by simpa using e);exact⟨u,by simpa using h1,h2⟩
theorem Vals.set {x:V}{u:Value}(r:RelV x u):∀{xs:List V} {us:List Value} (i:Nat),Vals xs us->Vals (xs.set i x) (us.set i u)
 |_,_,_,.nil=>.nil
 |_,_,0,.cons _ t=>.cons r t
 |_,_,i+1,.cons q t=>.cons q (Vals.set r i t)
theorem Vals.append:∀{xs ys:List V} {us ws:List Value},Vals xs us->Vals ys ws->Vals (xs++ys) (us++ws)
 |_,_,_,_,.nil,s=>s
 |_,_,_,_,.cons r t,s=>.cons r (Vals.append t s)
theorem Vals.take:∀{xs:List V} {us:List Value} (n:Nat),Vals xs us->Vals (xs.take n) (us.take n)
 |_,_,0,_=>.nil
 |_,_,_+1,.nil=>.nil
 |_,_,n+1,.cons r t=>.cons r (Vals.take n t)
theorem Vals.drop:∀{xs:List V} {us:List Value} (n:Nat),Vals xs us->Vals (xs.drop n) (us.drop n)
 |_,_,0,r=>r
 |_,_,_+1,.nil=>.nil
 |_,_,n+1,.cons _ t=>Vals.drop n t
theorem Vals.none_of:∀{xs:List V} {us:List Value} {i:Nat},Vals xs us->xs[i]?=none->us[i]?=none:=fun{xs us i} r e=>by have h1:=r.length;have h2:xs.length<=i:=dv.mp e;exact dv.mpr (by omega)
def RelO:Option V->Option Value->Prop
 |some v,some u=>RelV v u
 |none,none=>True
 |_,_=>False
def KV {κ:Type}:List (κ×V)->List (κ×Value)->Prop:=gv fun(p:κ×V) (q:κ×Value)=>p.1=q.1/\RelV p.2 q.2
def kV:Key->V
 |.inl i=>.int i
 |.inr x=>.str x
inductive HO where
 |lst (xs:List V)
 |tup (xs:List V)
 |dK (kvs:List (Key×V))|dT (kvs:List (List Key×V))
 |set (S:Int->Bool) (n:Nat)
 |ins (C dx:Addr) (fs:List (Str×V))
 |own (x:Addr)
 |xd (fs:List (Str×V))
 |met (f x:Addr)
 |rng (lo hi:Int)
 |frz (o:Obj) (u:HO)
 |tbl (ps:Array Value)
 |ext (φ:Heap->Prop)
abbrev Hp:=Addr->Option HO
def upd (H:Hp)(a:Addr)(o:HO):Hp:=fun b=>if b=a then some o else H b
theorem z0e {H:Hp}{a:Addr}{o:HO}:upd H a o a=some o:=by unfold upd;rw[if_pos rfl]
theorem z06 {H:Hp}{a b:Addr}{o:HO}(h:b≠a):upd H a o b=H b:=by unfold upd;rw[if_neg h]
theorem zk3 {H:Hp}{a b:Addr}{o u:HO}(h:H a=some o)(h':H b=some u)(d:o≠u):a≠b:=by intro e;subst e;rw[h]at h';exact d (Option.some.inj h')
theorem z0c {H:Hp}{a b:Addr}{o:HO}(h:H a=some o)(h':H b=none):a≠b:=by intro e;subst e;rw[h]at h';cases h'
def TupN (h:Heap)(a:Addr)(l:Array Value):Prop:=∃n,h.get? a=some {cls:=.type "tuple",data:=.seq l n}
theorem TupN.tup {h:Heap}{a:Addr}{l:Array Value}(x:TupN h a l):IsTup h a l:=let⟨n,q⟩:=x;⟨_,q,rfl,n,rfl⟩
theorem TupN.new (h:Heap)(l:Array Value):TupN (h.push {cls:=.type "tuple",data:=.seq l}) h.objs.size l:=⟨_,bp _ rfl⟩
section
variable (P:ao)(w:World)
def z0u (H:Hp)(h:Heap)(a:Addr):HO->Prop
 |.lst xs=>xs.length<=aq/\∃(its:List Value) (n:Nat),Vals xs its/\h.get? a=some {cls:=.type "list",data:=.seq its.toArray n}
 |.tup xs=>xs.length<=aq/\∃its:List Value,Vals xs its/\TupN h a its.toArray
 |.dK kvs=>kvs.length<=aq/\(a==gb)=false/\∃vs,KV kvs vs/\h.DictOf (z0n P w) a vs
 |.dT kvs=>kvs.length<=aq/\(a==gb)=false/\∃xs:List (List Key×Addr×Value),
  gv (fun(p:List Key×V) (q:List Key×Addr×Value)=>p.1=q.1/\H q.2.1=some (.tup (p.1.map kV))/\RelV p.2 q.2.2) kvs xs/\
  ∃o es ep,h.get? a=some o/\o.ExactDict/\o.data=.dict es ep/\es.toList=xs.map (entryOfKey (li (z0n P w)))/\(xs.map (·.1)).Nodup
 |.set S n=>h.SetOf (intKind P w) a S n
 |.ins C dx fs=>H dx=some (.own a)/\fs.length<=1000/\dx≠a/\h.get? a=some (W.instObj C dx)/\∃mA,h.Ns1 dx mA/\(∀f,RelO (fs.lookup f) (mA f))/\PySem.Within mA (fs.map (·.1))
 |.own _=>∃o,h.get? a=some o
 |.xd fs=>∃mA,h.Ns1 a mA/\∀f,RelO (fs.lookup f) (mA f)
 |.rng lo hi=>∃t u v,h.get? a=some {cls:=.type "range",data:=.fields #[.int lo t,.int hi u,.int 1 v]}
 |.frz o u=>h.get? a=some o/\z0u H h a u
 |.tbl ps=>h.get? a=some {cls:=.none,data:=.fields ps}
 |.met f x=>h.get? a=some (W.methodObj (.ref f) (.ref x))
 |.ext φ=>φ h/\(∃o,h.get? a=some o)/\∀h1 h2:Heap,φ h1->(∀o,h1.get? a=some o->h2.get? a=some o)->φ h2
def HOk (H:Hp)(h:Heap):Prop:=∀a o,H a=some o->z0u P w H h a o
end
section
variable {P:ao}{w:World}{H H':Hp}{h h':Heap}{a:Addr}{o:HO}
theorem z0u.lt (x:z0u P w H h a o):a<h.objs.size:=by
 cases o with
 |lst xs=>obtain⟨_,_,_,_,e⟩:=x;exact ax e
 |tup xs=>obtain⟨_,_,_,_,q⟩:=x;exact ax q
 |dK kvs=>obtain⟨_,_,_,_,o,_,_,e,_⟩:=x;exact ax e
 |dT kvs=>obtain⟨_,_,_,_,o,_,_,e,_⟩:=x;exact ax e
 |set S n=>obtain⟨o,_,_,_,e,_⟩:=x;exact ax e
 |ins C dx fs=>obtain⟨_,_,_,e,_⟩:=x;exact ax e
 |own y=>obtain⟨_,e⟩:=x;exact ax e
 |xd fs=>obtain⟨_,⟨_,_,_,e,_⟩,_⟩:=x;exact ax e
 |rng lo hi=>obtain⟨_,_,_,e⟩:=x;exact ax e
 |frz ob u=>obtain⟨e,_⟩:=x;exact ax e
 |tbl ps=>exact ax (show h.get? a=some _ from x)
 |met f y=>exact ax (show h.get? a=some _ from x)
 |ext φ=>obtain⟨_,⟨_,e⟩,_⟩:=x;exact ax e
theorem Paired.mapP {α β:Type}{F G:α->β->Prop}:∀{l₁:List α} {l₂:List β},gv F l₁ l₂->(∀a b,F a b->G a b)->gv G l₁ l₂
 |_,_,.nil,_=>.nil
 |_,_,.cons r t,f=>.cons (f _ _ r) (Paired.mapP t f)
theorem z0u.stay (x:z0u P w H h a o)(k:∀b u,(b=a\/H b=some (.own a))->h.get? b=some u->h'.get? b=some u)
  (ho:∀b,H b=some (.own a)->H' b=some (.own a)) (ht:∀b xs,H b=some (.tup xs)->H' b=some (.tup xs)):z0u P w H' h' a o:=by
 induction o with
 |lst xs=>obtain⟨z,its,n,r,e⟩:=x;exact⟨z,its,n,r,k _ _ (.inl rfl) e⟩
 |tup xs=>obtain⟨z,l,r,n,q⟩:=x;exact⟨z,l,r,n,k _ _ (.inl rfl) q⟩
 |dK kvs=>obtain⟨z,y,vs,r,ob,es,ep,e,c⟩:=x;exact⟨z,y,vs,r,ob,es,ep,k _ _ (.inl rfl) e,c⟩
 |dT kvs=>obtain⟨z,y,xs,r,ob,es,ep,e,c⟩:=x;exact⟨z,y,xs,Paired.mapP r fun p q z=>⟨z.1,ht _ _ z.2.1,z.2.2⟩,ob,es,ep,k _ _ (.inl rfl) e,c⟩
 |set S n=>obtain⟨ob,es,ep,t,e,c⟩:=x;exact⟨ob,es,ep,t,k _ _ (.inl rfl) e,c⟩
 |ins C dx fs=>obtain⟨d,z,ne,e,mA,⟨od,es,ep,e2,c⟩,r⟩:=x;exact⟨ho _ d,z,ne,k _ _ (.inl rfl) e,mA,⟨od,es,ep,k _ _ (.inr d) e2,c⟩,r⟩
 |own y=>obtain⟨ob,e⟩:=x;exact⟨ob,k _ _ (.inl rfl) e⟩
 |xd fs=>obtain⟨mA,⟨od,es,ep,e,c⟩,r⟩:=x;exact⟨mA,⟨od,es,ep,k _ _ (.inl rfl) e,c⟩,r⟩
 |rng lo hi=>obtain⟨t,u,v,e⟩:=x;exact⟨t,u,v,k _ _ (.inl rfl) e⟩
 |frz ob u ih=>obtain⟨e,q⟩:=x;exact⟨k _ _ (.inl rfl) e,ih q⟩
 |tbl ps=>have e:h.get? a=some {cls:=.none,data:=.fields ps}:=x;show h'.get? a=some {cls:=.none,data:=.fields ps};exact k a _ (.inl rfl) e
 |met f y=>have e:h.get? a=some (W.methodObj (.ref f) (.ref y)):=x;show h'.get? a=some (W.methodObj (.ref f) (.ref y));exact k a _ (.inl rfl) e
 |ext φ=>obtain⟨p,⟨o,e⟩,st⟩:=x;exact⟨st _ _ p fun o q=>k _ _ (.inl rfl) q,⟨o,k _ _ (.inl rfl) e⟩,st⟩
theorem HOk.lt (x:HOk P w H h)(e:H a=some o):a<h.objs.size:=(x a o e).lt
theorem HOk.fresh (x:HOk P w H h)(e:h.objs.size<=a):H a=none:=by
 cases q:H a with
 |none=>rfl
 |some u=>exact absurd (bh (x.lt q) e) (cq _)
theorem HOk.kept (x:HOk P w H h)(k:∀b u,h.get? b=some u->h'.get? b=some u):HOk P w H h':=fun a o e=>(x a o e).stay (fun b u _ q=>k b u q) (fun _ q=>q) fun _ _ q=>q
theorem HOk.laid (x:HOk P w H h)(k:∀b u,h.get? b=some u->h'.get? b=some u)(hp:h.objs.size<=a)(new:z0u P w (upd H a o) h' a o):HOk P w (upd H a o) h':=fun b u e=>by
 have hn:=x.fresh hp;by_cases hb:b=a
 ·subst hb;rw[z0e]at e;cases e;exact new
 ·rw[z06 hb]at e;exact(x b u e).stay (fun c v _ q=>k c v q) (fun c q=>by rw[z06 (z0c q hn)];exact q) fun c xs q=>by rw[z06 (z0c q hn)];exact q
end
def Rd (H:Hp)(a:Addr)(u:HO):Prop:=H a=some u\/∃o,H a=some (.frz o u)
theorem Rd.of {H:Hp}{a:Addr}{u:HO}(h:H a=some u):Rd H a u:=.inl h
theorem Rd.ok {P:ao}{w:World}{H:Hp}{h:Heap}{a:Addr}{u:HO}(r:Rd H a u)(x:HOk P w H h):z0u P w H h a u:=by
 rcases r with r|⟨o,r⟩
 ·exact x a u r
 ·obtain⟨_,q⟩:=x a _ r;exact q
def Mut:Option HO->Prop
 |some (.lst _)=>True
 |some (.dK _)=>True
 |some (.dT _)=>True
 |some (.set _ _)=>True
 |some (.ins _ _ _)=>True
 |some (.ext _)=>True
 |_=>False
section
variable {P:ao}{w:World}{H:Hp}{h h':Heap}{x e:Addr}{o':HO}
theorem HOk.write (ok:HOk P w H h)(mu:Mut (H x))(he:e=x\/H e=some (.own x))(k:∀b u,b≠e->h.get? b=some u->h'.get? b=some u)(heo:∃u,h'.get? e=some u)
  (new:z0u P w (upd H x o') h' x o'):HOk P w (upd H x o') h':=fun b u q=>by
 have nown:∀c y,H c=some (.own y)->c≠x:=fun c y r z=>by subst z;rw[r]at mu;exact mu
 have ntup:∀c xs,H c=some (.tup xs)->c≠x:=fun c xs r z=>by subst z;rw[r]at mu;exact mu
 by_cases hb:b=x
 ·subst hb;rw[z0e]at q;cases q;exact new
 ·rw[z06 hb]at q;by_cases hbe:b=e
  ·have q':H b=some (.own x):=by
    rcases he with z|z
    ·exact absurd (hbe.trans z) hb
    ·rw[hbe];exact z
   rw[q]at q';cases q';obtain⟨v,hv⟩:=heo;exact⟨v,by rw[hbe];exact hv⟩
  ·refine(ok b u q).stay (fun c v hc r=>k c v ?_ r) (fun c r=>by rw[z06 (nown c b r)];exact r) fun c xs r=>by rw[z06 (ntup c xs r)];exact r
   rcases hc with rfl|hc
   ·exact hbe
   ·rintro rfl
    rcases he with z|z
    ·exact nown c b hc z
    ·rw[hc]at z;cases z;exact hb rfl
end
structure Un (fs ex:List Addr)(H H':Hp)(h h':Heap):Prop where
 keep:∀b o,h.get? b=some o->H b=none->b∉fs->b∉ex->h'.get? b=some o
 slot:∀b o,h.get? b=some o->H b=none->b∈fs->b∉ex->∃sl,h'.get? b=some {o with slots:=sl}
 free:∀b o,h.get? b=some o->H b=none->b∉ex->H' b=none
 there:∀b o,h.get? b=some o->b∉ex->∃o',h'.get? b=some o'
 tups:∀b xs,H b=some (.tup xs)->H' b=some (.tup xs)
 frzs:∀b o u,H b=some (.frz o u)->H' b=some (.frz o u)
 tbls:∀b ps,H b=some (.tbl ps)->∃more,H' b=some (.tbl (ps++more))
section
variable {fs fs' ex ex':List Addr}{H H1 H2:Hp}{h h1 h2 h':Heap}{a x e:Addr}{o:HO}
theorem Un.any (u:Un fs ex H H1 h h1){b:Addr}{ob:Obj}(q:h.get? b=some ob)(n:H b=none)(hx:b∉ex):∃sl,h1.get? b=some {ob with slots:=sl}:=by
 by_cases hb:b∈fs
 ·exact u.slot b ob q n hb hx
 ·exact⟨ob.slots,u.keep b ob q n hb hx⟩
theorem Un.trans (a:Un fs ex H H1 h h1)(b:Un fs ex H1 H2 h1 h2):Un fs ex H H2 h h2 where
 keep:=fun c ob q n hc hx=>b.keep c ob (a.keep c ob q n hc hx) (a.free c ob q n hx) hc hx
 slot:=fun c ob q n hc hx=>by obtain⟨sl,e1⟩:=a.slot c ob q n hc hx;obtain⟨sl',e2⟩:=b.slot c _ e1 (a.free c ob q n hx) hc hx;exact⟨sl',e2⟩
 free:=fun c ob q n hx=>by obtain⟨o',e1⟩:=a.there c ob q hx;exact b.free c o' e1 (a.free c ob q n hx) hx
 there:=fun c ob q hx=>by obtain⟨o',e1⟩:=a.there c ob q hx;exact b.there c o' e1 hx
 tups:=fun c xs q=>b.tups c xs (a.tups c xs q)
 frzs:=fun c ob xs q=>b.frzs c ob xs (a.frzs c ob xs q)
 tbls:=fun c ps q=>by obtain⟨m1,e1⟩:=a.tbls c ps q;obtain⟨m2,e2⟩:=b.tbls c _ e1;exact⟨m1++m2,by rw[e2,l4]⟩
theorem Un.kept (k:∀b u,h.get? b=some u->h'.get? b=some u):Un fs ex H H h h':=⟨fun b ob q _ _ _=>k b ob q,fun b ob q _ _ _=>⟨ob.slots,k b ob q⟩,fun _ _ _ n _=>n,fun b ob q _=>⟨ob,k b ob q⟩,fun _ _ q=>q,fun _ _ _ q=>q,fun _ ps q=>⟨#[],by rw[q];simp⟩⟩
theorem Un.refl:Un fs ex H H h h:=Un.kept fun _ _ q=>q
theorem Un.laid (k:∀b u,h.get? b=some u->h'.get? b=some u)(hp:h.objs.size<=a)(hn:H a=none):Un fs ex H (upd H a o) h h' where
 keep:=fun b u q _ _ _=>k b u q
 slot:=fun b u q _ _ _=>⟨u.slots,k b u q⟩
 free:=fun b u q n _=>by rw[z06 (b9 (bh (ax q) hp))];exact n
 there:=fun b u q _=>⟨u,k b u q⟩
 tups:=fun b xs q=>by rw[z06 (z0c q hn)];exact q
 frzs:=fun b u xs q=>by rw[z06 (z0c q hn)];exact q
 tbls:=fun b ps q=>⟨#[],by rw[z06 (z0c q hn),q];simp⟩
theorem Un.write (mu:Mut (H x))(he:e=x\/H e=some (.own x))(k:∀b u,b≠e->h.get? b=some u->h'.get? b=some u)(heo:∃u,h'.get? e=some u):Un fs ex H (upd H x o) h h':=by
 have hx:∀b,H b=none->b≠x:=fun b n z=>by subst z;rw[n]at mu;exact mu
 have hb:∀b,H b=none->b≠e:=fun b n z=>by
  subst z;rcases he with r|r
  ·exact hx b n r
  ·rw[n]at r;cases r
 have hm:∀b u,H b=some u->¬Mut (some u)->b≠x:=fun b u q nm z=>by subst z;rw[q]at mu;exact nm mu
 refine⟨fun b u q n _ _=>k b u (hb b n) q,fun b u q n _ _=>⟨u.slots,k b u (hb b n) q⟩,fun b u q n _=>by rw[z06 (hx b n)];exact n,fun b u q _=>?_,fun b xs q=>by rw[z06 (hm b _ q fun z=>z)];exact q,fun b u xs q=>by rw[z06 (hm b _ q fun z=>z)];exact q,fun b ps q=>⟨#[],by rw[z06 (hm b _ q fun z=>z),q];simp⟩⟩;by_cases hbe:b=e
 ·subst hbe;exact heo
 ·exact⟨u,k b u hbe q⟩
theorem Un.mono (u:Un fs ex H H1 h h1)(hs:∀b∈fs,b∈fs')(hx:∀b∈ex,b∈ex'):Un fs' ex' H H1 h h1:=⟨fun b ob q n hb he=>u.keep b ob q n (fun z=>hb (hs b z)) fun z=>he (hx b z),fun _ _ q n _ he=>u.any q n fun z=>he (hx _ z),fun b ob q n he=>u.free b ob q n fun z=>he (hx b z),fun b ob q he=>u.there b ob q fun z=>he (hx b z),u.tups,u.frzs,u.tbls⟩
end
def trk (h:Heap)(H:Hp):List Addr:=(cb h.objs.size).filter fun a=>(H a).isSome
def hidT (h:Heap)(H:Hp):Heap:=W.hideAll h (trk h H)
theorem z8d (h:Heap)(H:Hp):(hidT h H).objs.size=h.objs.size:=W.hideAll_size _ _
theorem zbb {h:Heap}{H:Hp}{b:Addr}{o:Obj}(e:h.get? b=some o)(n:H b=none):(hidT h H).get? b=some o:=W.hideAll_get _ e fun hm=>by have q:(H b).isSome=true:=(List.mem_filter.mp hm).2;rw[n]at q;simp at q
theorem zd0 {h:Heap}{H:Hp}{b:Addr}{o:Obj}(e:(hidT h H).get? b=some o):h.get? b=some o/\H b=none:=by
 have e':h.get? b=some o:=W.of_hideAll (trk h H) e;refine⟨e',?_⟩;cases q:H b with
 |none=>rfl
 |some x=>have hm:b∈trk h H:=List.mem_filter.mpr ⟨jk.mpr (ax e'),by simp[q]⟩;have z:(hidT h H).get? b=none:=W.hideAll_none (trk h H) hm;rw[z]at e;cases e
def zer (g h:Heap)(L:Addr):List (Addr×Obj):=(cb h.objs.size).filterMap fun a=>if a=L\/(g.get? a).isSome=true then none else(h.get? a).map fun o=>(a,o)
def rest (g h:Heap)(L d:Addr):List (Addr×Obj):=(zer g h L).filter fun p=>decide (p.1≠d)
structure Mod (K:W.Frag)(mg:Str->Option Value)(base:Heap):Prop where
 kin:K.In base
 glob:base.Ns bj mg
 blt:∃mb,base.Ns m8 mb/\∀x:Str,x≠"__name__"->mb x=ck x
 nolimit:base.NoLimit
structure Cx where
 prog:ao
 w:World
 K:W.Frag
 mg:Str->Option Value
 base:Heap
 A:ce
 N:List Str
 s₀:aa
 H₀:Hp
 env:Env
 outer:List Env
 stack:List Env
 ex:List Addr
 fn:Str->Bool
 calm:Bool
 pn:List (Addr×Obj)
 xe:Value->aa->Prop
 fx:Option (Str×Value):=none
def frs (l:List Env):List Addr:=l.filterMap (·.frame)
abbrev Cx.fs (X:Cx):List Addr:=frs X.outer
def Vis (sc:Scope)(x:Str):Prop:=sc.names.lookup x=some .local\/sc.names.lookup x=some .cell\/sc.names.lookup x=some .free
def Loc (sc:Scope)(x:Str):Prop:=sc.names.lookup x=some .local\/sc.names.lookup x=some .cell
def Look (env:Env)(h:Heap)(m:Str->Option Value)(x:Str)(u:Value):Prop:=(env.kindOf x=some .local/\m x=some u)\/((env.kindOf x=some .cell\/env.kindOf x=some .free)/\∃c,env.cells.lookup x=some c/\h.IsCell c (some u))
structure Cx.Ok (X:Cx):Prop where
 mod:Mod X.K X.mg X.base
 kind:X.env.scope.kind=.function
 glob:X.env.globals=bj
 blt:X.env.builtins=m8
 above:X.s₀.heap.objs.size<=X.env.locals
 inj:∀x y c,X.env.cells.lookup x=some c->X.env.cells.lookup y=some c->x=y
 has:∀x,(X.env.kindOf x=some .cell\/X.env.kindOf x=some .free)->∃c,X.env.cells.lookup x=some c
 cab:∀x c,X.fn x=true->X.env.cells.lookup x=some c->X.s₀.heap.objs.size<=c
 hd:X.calm=true->X.A.handled=none
 frames:X.A.frames=some X.stack
 stk:X.stack=X.outer\/(X.stack=X.env::X.outer/\X.env.frame=some X.env.locals)
 exf:∀b∈X.ex,b≠X.env.locals/\∀x c,X.env.cells.lookup x=some c->c≠b
 bs:∀b o,X.base.get? b=some o->X.s₀.heap.get? b=some o/\X.H₀ b=none
 bsz:X.base.objs.size<=X.s₀.heap.objs.size
 noex:∀b o,X.base.get? b=some o->b∉X.ex
 exfs:∀b∈X.ex,b∉X.fs
 funs:X.s₀.heap.FunFrames X.base X.outer
 frf:∀b∈X.fs,X.H₀ b=none
 fxN:∀x u,X.fx=some (x,u)->x∉X.N/\X.env.scope.names.lookup x=some .local
structure Inv (X:Cx)(pins:List (Addr×Obj))(σ:List (Option V))(H:Hp)(s:aa):Prop where
 ok:X.Ok
 os:s.os=X.s₀.os
 bare:jh s.gens
 base:Un X.fs X.ex X.H₀ H X.s₀.heap s.heap
 loc:∃m,s.heap.Ns X.env.locals m/\∀(i:Nat) (x:Str) (v:V),X.N[i]?=some x->σ[i]?=some (some v)->Vis X.env.scope x->∃u,RelV v u/\Look X.env s.heap m x u
 cell:∀x c,X.env.cells.lookup x=some c->∃v,s.heap.IsCell c v
 free:H X.env.locals=none
 freeC:∀x c,X.env.cells.lookup x=some c->H c=none
 pin:∀p∈X.pn++pins,s.heap.get? p.1=some p.2/\H p.1=none/\p.1≠X.env.locals/\p.1∉X.fs/\∀v,p.2.data≠.cell v
 hok:HOk X.prog X.w H s.heap
 len:σ.length=X.N.length
 fx:∀x u,X.fx=some (x,u)->∃m,s.heap.Ns X.env.locals m/\m x=some u
section
variable {X:Cx}{pins:List (Addr×Obj)}{σ:List (Option V)}{H H':Hp}{s:aa}{h':Heap}
theorem Cx.Ok.nofr (ok:X.Ok){b:Addr}{o:Obj}(e:X.base.get? b=some o):b∉X.fs:=fun hb=>by have:=(ok.funs.mem hb).1;rw[e]at this;cases this
theorem Inv.bs (I:Inv X pins σ H s):∀b o,X.base.get? b=some o->s.heap.get? b=some o/\H b=none:=fun b o e=>⟨I.base.keep b o (I.ok.bs b o e).1 (I.ok.bs b o e).2 (I.ok.nofr e) (I.ok.noex b o e),I.base.free b o (I.ok.bs b o e).1 (I.ok.bs b o e).2 (I.ok.noex b o e)⟩
theorem Inv.bk (I:Inv X pins σ H s):∀b o,X.base.get? b=some o->s.heap.get? b=some o:=fun b o e=>(I.bs b o e).1
theorem Inv.mod (I:Inv X pins σ H s):Mod X.K X.mg X.base:=I.ok.mod
theorem Inv.kIn (I:Inv X pins σ H s):X.K.In s.heap:=I.ok.mod.kin.keeps I.bk
theorem Inv.nolimit (I:Inv X pins σ H s):s.heap.NoLimit:=I.ok.mod.nolimit.keeps I.bk
theorem Inv.fr (I:Inv X pins σ H s):∃m,Fr X.base X.env.locals s.heap m:=
 let⟨m,hn,_⟩:=I.loc
 ⟨m,hn,I.bk,bq I.ok.bsz I.ok.above⟩
theorem Inv.lt (I:Inv X pins σ H s):X.env.locals<s.heap.objs.size:=let⟨_,hn,_⟩:=I.loc;hn.lt
theorem Inv.sz (I:Inv X pins σ H s):X.s₀.heap.objs.size<=s.heap.objs.size:=bq I.ok.above (l9 I.lt)
theorem Inv.nofs (I:Inv X pins σ H s){a:Addr}(h:s.heap.objs.size<=a):a∉X.fs:=fun hb=>by obtain⟨_,o,ho,_⟩:=I.ok.funs.mem hb;exact absurd (bh (ax ho) (bq I.sz h)) (cq _)
theorem Inv.cne (I:Inv X pins σ H s):∀x c,X.env.cells.lookup x=some c->c≠X.env.locals:=fun x c e z=>by obtain⟨v,o,ho,hd⟩:=I.cell x c e;obtain⟨m,⟨o',es,ep,ho',hd',_⟩,_⟩:=I.loc;rw[z,ho']at ho;cases ho;rw[hd']at hd;cases hd
theorem Inv.funs (I:Inv X pins σ H s):s.heap.FunFrames X.base X.outer:=by
 have all:∀(l:List Env),(∀b∈frs l,b∈X.fs)->X.s₀.heap.FunFrames X.base l->s.heap.FunFrames X.base l:=by
  intro l
  induction l with
  |nil=>intro _ _;trivial
  |cons env r ih=>intro hs hl;obtain⟨hk,⟨L,o,hf,hn,ho,hd⟩,hr⟩:=hl;have hL:L∈X.fs:=hs L (by unfold frs;rw[b7,hf];exact af);obtain⟨sl,e⟩:=I.base.slot L o ho (I.ok.frf L hL) hL fun z=>I.ok.exfs L z hL;exact⟨hk,⟨L,_,hf,hn,e,hd⟩,ih (fun b hb=>hs b (by unfold frs;rw[b7,hf];exact ak _ hb)) hr⟩
 exact all X.outer (fun _ hb=>hb) I.ok.funs
theorem Inv.stack (I:Inv X pins σ H s):s.heap.FunFrames X.base X.stack:=by
 rcases I.ok.stk with e|⟨e,hf⟩
 ·rw[e];exact I.funs
 ·rw[e];obtain⟨m,hn,_⟩:=I.loc;refine .cons (by rw[I.ok.kind];decide) hf hn ?_ I.funs;exact lb (bq I.ok.bsz I.ok.above)
theorem Inv.stkSub (I:Inv X pins σ H s):∀b∈frs X.stack,b∈X.env.locals::X.fs:=fun b hb=>by
 rcases I.ok.stk with e|⟨e,hf⟩
 ·rw[e]at hb;exact ak _ hb
 ·rw[e]at hb;unfold frs at hb;rw[b7,hf]at hb;exact hb
theorem Inv.stkFree (I:Inv X pins σ H s):∀b∈frs X.stack,H b=none:=fun b hb=>by
 rcases a8.mp (I.stkSub b hb)with e|hb
 ·rw[e];exact I.free
 ·obtain⟨_,o,ho,_⟩:=I.ok.funs.mem hb;exact I.base.free b o ho (I.ok.frf b hb) fun z=>I.ok.exfs b z hb
theorem Inv.step {g':Array ma}{t':Nat}{d':Drawn}{ch:List Addr}(I:Inv X pins σ H s)
  (hch:∀b∈ch,(b∈X.ex\/X.s₀.heap.objs.size<=b)/\b≠X.env.locals/\(∀x c,X.env.cells.lookup x=some c->c≠b)/\∀p∈X.pn++pins,p.1≠b)
  (keep:∀b o,b≠X.env.locals->b∉X.fs->b∉ch->s.heap.get? b=some o->H b=none->h'.get? b=some o)
  (slot:∀b o,b≠X.env.locals->b∈X.fs->b∉ch->s.heap.get? b=some o->H b=none->∃sl,h'.get? b=some {o with slots:=sl}) (free:∀b o,b∉ch->s.heap.get? b=some o->H b=none->H' b=none)
  (there:∀b o,b∉ch->s.heap.get? b=some o->∃o',h'.get? b=some o')
  (tups:∀b xs,H b=some (.tup xs)->H' b=some (.tup xs)) (frzs:∀b o u,H b=some (.frz o u)->H' b=some (.frz o u)) (tbls:∀b ps,H b=some (.tbl ps)->∃more,H' b=some (.tbl (ps++more)))
  (ns:∀m,s.heap.Ns X.env.locals m->h'.Ns X.env.locals m) (hok:HOk X.prog X.w H' h') (hg:jh g'):
  Inv X pins σ H' {s with heap:=h',gens:=g',drawn:=d',toks:=t'}:=by
 have neL:∀b o,X.s₀.heap.get? b=some o->b≠X.env.locals:=fun b o e=>b9 (bh (ax e) I.ok.above)
 have neC:∀b o,X.s₀.heap.get? b=some o->b∉X.ex->b∉ch:=fun b o e hx hb=>by
  rcases(hch b hb).1 with z|z
  ·exact hx z
  ·exact absurd (bh (ax e) z) (cq _)
 have cellK:∀x c,X.env.cells.lookup x=some c->∀v,s.heap.IsCell c v->h'.IsCell c v:=fun x c e v ⟨o,ho,hd⟩=>by
  have nch:c∉ch:=fun z=>(hch c z).2.2.1 x c e rfl;by_cases hc:c∈X.fs
  ·obtain⟨sl,q⟩:=slot c o (I.cne x c e) hc nch ho (I.freeC x c e);exact⟨_,q,hd⟩
  ·exact⟨o,keep c o (I.cne x c e) hc nch ho (I.freeC x c e),hd⟩
 refine⟨I.ok,I.os,hg,⟨fun b o e n hb hx=>?_,fun b o e n hb hx=>?_,fun b o e n hx=>?_,fun b o e hx=>?_,fun b xs e=>tups b xs (I.base.tups b xs e),fun b o xs e=>frzs b o xs (I.base.frzs b o xs e),fun b ps e=>?_⟩,?_,fun x c e=>?_,?_,fun x c e=>?_,fun p hp=>?_,hok,I.len,fun x u e=>let⟨m,hn,q⟩:=I.fx x u e;⟨m,ns m hn,q⟩⟩
 ·exact keep b o (neL b o e) hb (neC b o e hx) (I.base.keep b o e n hb hx) (I.base.free b o e n hx)
 ·obtain⟨sl,e1⟩:=I.base.slot b o e n hb hx;obtain⟨sl',e2⟩:=slot b _ (neL b o e) hb (neC b o e hx) e1 (I.base.free b o e n hx);exact⟨sl',e2⟩
 ·obtain⟨o',e1⟩:=I.base.there b o e hx;exact free b o' (neC b o e hx) e1 (I.base.free b o e n hx)
 ·obtain⟨o',e1⟩:=I.base.there b o e hx;exact there b o' (neC b o e hx) e1
 ·obtain⟨m1,e1⟩:=I.base.tbls b ps e;obtain⟨m2,e2⟩:=tbls b _ e1;exact⟨m1++m2,by rw[e2,l4]⟩
 ·obtain⟨m,hn,hl⟩:=I.loc;refine⟨m,ns m hn,fun i x v e1 e2 e3=>?_⟩;obtain⟨u,r,l⟩:=hl i x v e1 e2 e3;refine⟨u,r,?_⟩;rcases l with l|⟨k,c,e,z⟩
  ·exact .inl l
  ·exact .inr ⟨k,c,e,cellK x c e _ z⟩
 ·obtain⟨v,z⟩:=I.cell x c e;exact⟨v,cellK x c e v z⟩
 ·obtain⟨m,⟨o,_,_,ho,_⟩,_⟩:=I.loc;exact free _ o (fun z=>(hch _ z).2.1 rfl) ho I.free
 ·obtain⟨v,o,ho,hd⟩:=I.cell x c e;exact free c o (fun z=>(hch c z).2.2.1 x c e rfl) ho (I.freeC x c e)
 ·obtain⟨e,n,ne,nf,d⟩:=I.pin p hp;have nch:p.1∉ch:=fun z=>(hch p.1 z).2.2.2 p hp rfl;exact⟨keep p.1 p.2 ne nf nch e n,free p.1 p.2 nch e n,ne,nf,d⟩
theorem Inv.un {t':Nat}(I:Inv X pins σ H s)(u:Un X.fs [] H H' s.heap h')(hok:HOk X.prog X.w H' h'):Inv X pins σ H' {s with heap:=h',toks:=t'}:=by obtain⟨m,⟨o,es,ep,ho,r⟩,_⟩:=id I.loc;obtain⟨sl,hL⟩:=u.any ho I.free (by simp);exact I.step (g':=s.gens) (d':=s.drawn) (ch:=[]) (fun _ z=>nomatch z) (fun b o _ hb _ e n=>u.keep b o e n hb (by simp)) (fun b o _ hb _ e n=>u.slot b o e n hb (by simp)) (fun b o _ e n=>u.free b o e n (by simp)) (fun b o _ e=>u.there b o e (by simp)) u.tups u.frzs u.tbls (fun m' hm=>by obtain⟨o',es',ep',ho',r'⟩:=hm;rw[ho]at ho';cases ho';exact⟨_,es',ep',hL,r'⟩) hok I.bare
theorem Inv.call {g':Array ma}{t':Nat}{d':Drawn}{ch:List Addr}(I:Inv X pins σ H s)(u:Un (frs X.stack) ch H H' s.heap h')(hok:HOk X.prog X.w H' h')(hg:jh g')
  (hch:∀b∈ch,(b∈X.ex\/X.s₀.heap.objs.size<=b)/\b≠X.env.locals/\(∀x c,X.env.cells.lookup x=some c->c≠b)/\∀p∈X.pn++pins,p.1≠b):
  Inv X pins σ H' {s with heap:=h',gens:=g',drawn:=d',toks:=t'}:=by
 obtain⟨m,⟨o,es,ep,ho,r⟩,_⟩:=id I.loc;obtain⟨sl,hL⟩:=u.any ho I.free fun z=>(hch _ z).2.1 rfl;exact I.step (ch:=ch) hch (fun b o hL hb hc e n=>u.keep b o e n (fun z=>(a8.mp (I.stkSub b z)).elim hL hb) hc) (fun b o _ _ hc e n=>u.any e n hc) (fun b o hc e n=>u.free b o e n hc) (fun b o hc e=>u.there b o e hc) u.tups u.frzs u.tbls (fun m' hm=>by obtain⟨o',es',ep',ho',r'⟩:=hm;rw[ho]at ho';cases ho';exact⟨_,es',ep',hL,r'⟩) hok hg
theorem Inv.turned {t':Nat}{it:Addr}(I:Inv X pins σ H s)(k:∀b o,b≠it->s.heap.get? b=some o->h'.get? b=some o)(hn:H it=none)(hL:it≠X.env.locals)
  (h1:it∈X.ex\/X.s₀.heap.objs.size<=it) (h2:∀x c,X.env.cells.lookup x=some c->c≠it) (h3:∀p∈X.pn++pins,p.1≠it):Inv X pins σ H {s with heap:=h',toks:=t'}:=by
 have nit:∀b u,H b=some u->b≠it:=fun b u e z=>by rw[z,hn]at e;cases e
 refine I.step (g':=s.gens) (d':=s.drawn) (ch:=[it]) (fun b hb=>?_) (fun b o _ _ hc e _=>k b o (fun z=>hc (by simp[z])) e) (fun b o _ _ hc e _=>⟨o.slots,k b o (fun z=>hc (by simp[z])) e⟩) (fun _ _ _ _ n=>n) (fun b o hc e=>⟨o,k b o (fun z=>hc (by simp[z])) e⟩) (fun _ _ e=>e) (fun _ _ _ e=>e) (fun b ps e=>⟨#[],by rw[e];simp⟩) (fun m hm=>?_) (fun b u e=>?_) I.bare
 ·have e:b=it:=by simpa using hb
  subst e;exact⟨h1,hL,h2,h3⟩
 ·obtain⟨o,es,ep,ho,r⟩:=hm;exact⟨o,es,ep,k _ o (Ne.symm hL) ho,r⟩
 ·refine(I.hok b u e).stay (fun c v hc q=>k c v ?_ q) (fun _ q=>q) fun _ _ q=>q;rcases hc with z|z
  ·rw[z];exact nit b u e
  ·exact nit c _ z
theorem Inv.tok (I:Inv X pins σ H s)(t:Nat):Inv X pins σ H {s with toks:=t}:=I.un (h':=s.heap) (t':=t) Un.refl I.hok
theorem Inv.kept {t':Nat}(I:Inv X pins σ H s)(k:∀b u,s.heap.get? b=some u->h'.get? b=some u):Inv X pins σ H {s with heap:=h',toks:=t'}:=I.un (Un.kept k) (I.hok.kept k)
theorem Inv.laid {a:Addr}{o:HO}{t':Nat}(I:Inv X pins σ H s)(k:∀b u,s.heap.get? b=some u->h'.get? b=some u)(hp:s.heap.objs.size<=a)(new:z0u X.prog X.w (upd H a o) h' a o): Inv X pins σ (upd H a o) {s with heap:=h',toks:=t'}:=I.un (Un.laid k hp (I.hok.fresh hp)) (I.hok.laid k hp new)
theorem Inv.write {x e:Addr}{o:HO}{t':Nat}(I:Inv X pins σ H s)(mu:Mut (H x))(he:e=x\/H e=some (.own x))(k:∀b u,b≠e->s.heap.get? b=some u->h'.get? b=some u)(heo:∃u,h'.get? e=some u) (new:z0u X.prog X.w (upd H x o) h' x o):Inv X pins σ (upd H x o) {s with heap:=h',toks:=t'}:=I.un (Un.write mu he k heo) (I.hok.write mu he k heo new)
theorem Inv.weak {σ':List (Option V)}(I:Inv X pins σ H s)(hl:σ'.length=σ.length)(w:∀(i:Nat) v,σ'[i]?=some (some v)->σ[i]?=some (some v)):Inv X pins σ' H s:=⟨I.ok,I.os,I.bare,I.base,let⟨m,hn,hl'⟩:=I.loc;⟨m,hn,fun i x v e1 e2 e3=>hl' i x v e1 (w i v e2) e3⟩,I.cell,I.free,I.freeC,I.pin,I.hok,hl.trans I.len,I.fx⟩
theorem Inv.pins_of {pins':List (Addr×Obj)}(I:Inv X pins σ H s)(h:∀p∈pins',s.heap.get? p.1=some p.2/\H p.1=none/\p.1≠X.env.locals/\p.1∉X.fs/\∀v,p.2.data≠.cell v):Inv X pins' σ H s:=⟨I.ok,I.os,I.bare,I.base,I.loc,I.cell,I.free,I.freeC,fun p hp=>(bx.mp hp).elim (fun z=>I.pin p (di _ z)) (h p),I.hok,I.len,I.fx⟩
theorem zhr {h:Heap}{a:Addr}{m m':Str->Option Value}(x:h.Ns a m)(y:h.Ns a m')(n:Str):m n=m' n:=by obtain⟨o,es,ep,e,d,_,f⟩:=x;obtain⟨o',es',ep',e',d',_,f'⟩:=y;rw[e]at e';cases e';rw[d]at d';cases d';rw[<-f n,f' n]
theorem z27 {N:List Str}(hN:N.Nodup){i j:Nat}{x:Str}(a:N[i]?=some x)(b:N[j]?=some x):i=j:=by obtain⟨h1,e1⟩:=au.mp a;obtain⟨h2,e2⟩:=au.mp b;exact(List.getElem_inj hN).mp (e1.trans e2.symm)
theorem z2v {M:Model}{A:ce}{E:Value->aa->Prop}{i:Nat}{x:Str}{v:V}{u:Value}{Q:Unit->aa->Prop}(I:Inv X pins σ H s)(hN:X.N.Nodup)(hi:X.N[i]?=some x)(hx:Loc X.env.scope x)(r:RelV v u)
  (h:∀s',Inv X pins (σ.set i (some v)) H s'->(∃a,ez a s.heap s'.heap/\(a=X.env.locals\/X.env.cells.lookup x=some a))->Q () s') (hf:X.fn x=true\/X.env.scope.names.lookup x=some .local:=by first|exact .inl rfl|exact .inr rfl|assumption):wpAny M A (storeName X.env x u) Q E s:=by
 obtain⟨m,hn,hl⟩:=id I.loc;have hcls:(X.env.scope.kind==.class||(X.env.scope.kind==.module&&X.env.locals != X.env.globals))=false:=by rw[I.ok.kind];rfl
 have hiσ:i<σ.length:=by rw[I.len];exact(au.mp hi).1
 have cne:=I.cne
 have tracked:∀{a:Addr} {h':Heap},(∃o,s.heap.get? a=some o/\H a=none)->ez a s.heap h'->HOk X.prog X.w H h':=fun{a h'} ha hs b ob e=>by
  obtain⟨_,_,hfree⟩:=ha;refine(I.hok b ob e).stay (fun c w' hc q=>(hs.2 c ?_).trans q) (fun _ q=>q) fun _ _ q=>q
  rintro rfl
  rcases hc with rfl|hc
  ·rw[hfree]at e;cases e
  ·rw[hfree]at hc;cases hc
 rcases hx with hk|hk
 ·refine wpAny_storeName_local hk hn (fun h' hn' hs=>?_) hcls;obtain⟨oL,_,_,hoL,_⟩:=id hn;refine h _ ⟨I.ok,I.os,I.bare,⟨fun b o e n hb hx=>?_,fun b o e n hb hx=>?_,I.base.free,fun b o e hx=>?_,I.base.tups,I.base.frzs,I.base.tbls⟩,⟨_,hn',fun j y v' e1 e2 e3=>?_⟩,fun y c e=>?_,I.free,I.freeC,fun p hp=>?_,tracked ⟨oL,hoL,I.free⟩ hs,by simpa using I.len,fun y u e=>by obtain⟨m',hn2,q⟩:=I.fx y u e;refine⟨_,hn',?_⟩;have hy:y≠x:=fun z=>(I.ok.fxN y u e).1 (z▸b8 hi);have:=zhr hn hn2 y;simp[hy,this,q]⟩ ⟨_,hs,.inl rfl⟩
  ·exact(hs.2 b (b9 (bh (ax e) I.ok.above))).trans (I.base.keep b o e n hb hx)
  ·obtain⟨sl,e1⟩:=I.base.slot b o e n hb hx;exact⟨sl,(hs.2 b (b9 (bh (ax e) I.ok.above))).trans e1⟩
  ·obtain⟨o',e1⟩:=I.base.there b o e hx;exact⟨o',(hs.2 b (b9 (bh (ax e) I.ok.above))).trans e1⟩
  ·by_cases hj:j=i
   ·subst hj;rw[hi]at e1;cases e1;rw[br hiσ]at e2;cases e2;exact⟨u,r,.inl ⟨hk,by simp⟩⟩
   ·rw[a9 (Ne.symm hj)]at e2;obtain⟨u',r',q⟩:=hl j y v' e1 e2 e3;refine⟨u',r',?_⟩;rcases q with⟨k,e⟩|⟨k,c,e,z⟩
    ·refine .inl ⟨k,?_⟩;have:y≠x:=fun e=>hj (z27 hN e1 (e▸hi));simp[this,e]
    ·exact .inr ⟨k,c,e,z.sameBut hs (cne y c e)⟩
  ·obtain⟨w',z⟩:=I.cell y c e;exact⟨w',z.sameBut hs (cne y c e)⟩
  ·obtain⟨e,n,ne,nf,d⟩:=I.pin p hp;exact⟨(hs.2 p.1 ne).trans e,n,ne,nf,d⟩
 ·have hfn:X.fn x=true:=by
   rcases hf with z|z
   ·exact z
   ·rw[z]at hk;cases hk
  obtain⟨c,hc⟩:=I.ok.has x (.inl hk);obtain⟨w',z⟩:=I.cell x c hc;refine wpAny_storeName_cell I.ok.kind hk hc z (fun h' hc' hs=>?_);obtain⟨oc,hoc,hocd⟩:=id z;refine h {s with heap:=h'} ⟨I.ok,I.os,I.bare,⟨fun b o e n hb hx=>?_,fun b o e n hb hx=>?_,I.base.free,fun b o e hx=>?_,I.base.tups,I.base.frzs,I.base.tbls⟩,⟨m,hn.sameBut hs (Ne.symm (cne x c hc)),fun j y v' e1 e2 e3=>?_⟩,fun y c' e=>?_,I.free,I.freeC,fun p hp=>?_,tracked ⟨oc,hoc,I.freeC x c hc⟩ hs,by simpa using I.len,fun y u e=>let⟨m',hn2,q⟩:=I.fx y u e;⟨m',hn2.sameBut hs (Ne.symm (cne x c hc)),q⟩⟩ ⟨c,hs,.inr hc⟩
  ·exact(hs.2 b (b9 (bh (ax e) (I.ok.cab x c hfn hc)))).trans (I.base.keep b o e n hb hx)
  ·obtain⟨sl,e1⟩:=I.base.slot b o e n hb hx;exact⟨sl,(hs.2 b (b9 (bh (ax e) (I.ok.cab x c hfn hc)))).trans e1⟩
  ·obtain⟨o',e1⟩:=I.base.there b o e hx;exact⟨o',(hs.2 b (b9 (bh (ax e) (I.ok.cab x c hfn hc)))).trans e1⟩
  ·by_cases hj:j=i
   ·subst hj;rw[hi]at e1;cases e1;rw[br hiσ]at e2;cases e2;exact⟨u,r,.inr ⟨.inl hk,c,hc,hc'⟩⟩
   ·rw[a9 (Ne.symm hj)]at e2;obtain⟨u',r',q⟩:=hl j y v' e1 e2 e3;refine⟨u',r',?_⟩;rcases q with q|⟨k,c',e,z'⟩
    ·exact .inl q
    ·refine .inr ⟨k,c',e,z'.sameBut hs ?_⟩
     rintro rfl
     exact hj (z27 hN e1 (I.ok.inj _ _ _ e hc▸hi))
  ·by_cases hcc:c'=c
   ·subst hcc;exact⟨_,hc'⟩
   ·obtain⟨w2,z2⟩:=I.cell y c' e;exact⟨w2,z2.sameBut hs hcc⟩
  ·obtain⟨e,n,ne,nf,d⟩:=I.pin p hp;refine⟨(hs.2 p.1 ?_).trans e,n,ne,nf,d⟩;intro q;rw[q,hoc]at e;have q':oc=p.2:=Option.some.inj e;exact d w' (by rw[<-q'];exact hocd)
theorem z3i {M:Model}{A:ce}{E:Value->aa->Prop}{i:Nat}{x:Str}{v:V}{u:Value}{Q:Unit->aa->Prop}(I:Inv X pins σ H s)(hN:X.N.Nodup)(hi:X.N[i]?=some x)(hx:Loc X.env.scope x)(r:RelV v u)
  (h:∀s',Inv X pins (σ.set i (some v)) H s'->Q () s') (hf:X.fn x=true\/X.env.scope.names.lookup x=some .local:=by first|exact .inl rfl|exact .inr rfl|assumption):wpAny M A (storeName X.env x u) Q E s:=
 z2v I hN hi hx r (fun s' I' _=>h s' I') hf
theorem Inv.call' {s':aa}{ch:List Addr}(I:Inv X pins σ H s)(ho:s'.os=s.os)(u:Un (frs X.stack) ch H H' s.heap s'.heap)(hok:HOk X.prog X.w H' s'.heap)(hg:jh s'.gens)
  (hch:∀b∈ch,(b∈X.ex\/X.s₀.heap.objs.size<=b)/\b≠X.env.locals/\(∀x c,X.env.cells.lookup x=some c->c≠b)/\∀p∈X.pn++pins,p.1≠b):Inv X pins σ H' s':=by
 obtain⟨h',g',d',t',o'⟩:=s';have e:o'=s.os:=ho;subst e;exact I.call (g':=g') (t':=t') (d':=d') u hok hg hch
end
abbrev XK:=Value->Option Addr->Hp->Prop
abbrev St:=List (Option V)
abbrev VK:=V->Hp->Prop
abbrev TE:=St->Hp->VK->Prop
abbrev TT:=St->Hp->(Bool->Hp->Prop)->Prop
abbrev TA:=St->Hp->(List V->Hp->Prop)->Prop
structure Ends where
 nx:St->Hp->Prop
 rt:VK
 bk:St->Hp->Prop:=fun _ _=>False
 ct:St->Hp->Prop:=fun _ _=>False
abbrev TS:=Ends->St->Hp->Prop
def EP (X:Cx)(pins:List (Addr×Obj))(σ:St)(Q:VK)(u:Value)(s':aa):Prop:=∃v H',Inv X pins σ H' s'/\RelV v u/\Q v H'
def TP (X:Cx)(pins:List (Addr×Obj))(σ:St)(Q:Bool->Hp->Prop)(b:Bool)(s':aa):Prop:=∃H',Inv X pins σ H' s'/\Q b H'
def AP (X:Cx)(pins:List (Addr×Obj))(σ:St)(Q:List V->Hp->Prop)(us:List Value)(s':aa):Prop:=∃vs H',Inv X pins σ H' s'/\Vals vs us/\Q vs H'
def SP (X:Cx)(pins:List (Addr×Obj))(D:Ends)(f:Flow)(s':aa):Prop:=
 match f with
 |.next=>∃σ' H',Inv X pins σ' H' s'/\D.nx σ' H'
 |.brk=>∃σ' H',Inv X pins σ' H' s'/\D.bk σ' H'
 |.cont=>∃σ' H',Inv X pins σ' H' s'/\D.ct σ' H'
 |.ret u=>∃v σ' H',Inv X pins σ' H' s'/\RelV v u/\D.rt v H'
def PE (X:Cx)(e:Expr)(t:TE):Prop:=∀(pins:List (Addr×Obj)) (s:aa) (σ:St) (H:Hp) (Q:VK),Inv X pins σ H s->t σ H Q->wpAny (model X.prog X.w) X.A (eval e X.env) (EP X pins σ Q) X.xe s
def PT (X:Cx)(e:Expr)(t:TT):Prop:=∀(pins:List (Addr×Obj)) (s:aa) (σ:St) (H:Hp) (Q:Bool->Hp->Prop),Inv X pins σ H s->t σ H Q->wpAny (model X.prog X.w) X.A (lc e X.env (eval e X.env)) (TP X pins σ Q) X.xe s
def PW (X:Cx)(e:Expr)(t:TT):Prop:=∀(whole:Sem Value) (pins:List (Addr×Obj)) (s:aa) (σ:St) (H:Hp) (Q:Bool->Hp->Prop),Inv X pins σ H s->t σ H Q->wpAny (model X.prog X.w) X.A (lc e X.env whole) (TP X pins σ Q) X.xe s
theorem PW.pt {X:Cx}{e:Expr}{t:TT}(h:PW X e t):PT X e t:=h _
def PA (X:Cx)(es:List Expr)(t:TA):Prop:=∀(pos:Pos) (pins:List (Addr×Obj)) (s:aa) (σ:St) (H:Hp) (Q:List V->Hp->Prop),Inv X pins σ H s->t σ H Q->wpAny (model X.prog X.w) X.A (spliced (i3 pos (cu es X.env))) (AP X pins σ Q) X.xe s
def PS (X:Cx)(st:Stmt)(t:TS):Prop:=∀(pins:List (Addr×Obj)) (s:aa) (σ:St) (H:Hp) (D:Ends),Inv X pins σ H s->t D σ H->wpAny (model X.prog X.w) X.A (exec st X.env) (SP X pins D) X.xe s
def PSs (X:Cx)(st:List Stmt)(t:TS):Prop:=∀(pins:List (Addr×Obj)) (s:aa) (σ:St) (H:Hp) (D:Ends),Inv X pins σ H s->t D σ H->wpAny (model X.prog X.w) X.A (execs st X.env) (SP X pins D) X.xe s
theorem thn {α:Type}{t:Sem α}{Q Q':α->aa->Prop}{M:Model}{A:ce}{E:Value->aa->Prop}{s:aa}(h:wpAny M A t Q E s)(hQ:∀a s,Q a s->Q' a s):wpAny M A t Q' E s:=gc h hQ fun _ _ x=>x
section
variable {X:Cx}
theorem bin {a b:Expr}{ta tb:TE}(ha:PE X a ta)(hb:PE X b tb){pins:List (Addr×Obj)}{s:aa}{σ:St}{H:Hp}{R:V->V->Hp->Prop}(I:Inv X pins σ H s)(h:ta σ H fun x H1=>tb σ H1 fun y H2=>R x y H2)
  {α:Type} {Q:α->aa->Prop} {f:Value->Value->Sem α}
  (hf:∀v u s2 x y H2,Inv X pins σ H2 s2->RelV x v->RelV y u->R x y H2->wpAny (model X.prog X.w) X.A (f v u) Q X.xe s2):
  wpAny (model X.prog X.w) X.A (eval a X.env) (fun v s₁=>wpAny (model X.prog X.w) X.A (eval b X.env) (fun u s₂=>wpAny (model X.prog X.w) X.A (f v u) Q X.xe s₂) X.xe s₁) X.xe s:=by
 refine thn (ha pins s σ H _ I h) fun v s1 ⟨x,H1,I1,r1,q1⟩=>?_;refine thn (hb pins s1 σ H1 _ I1 q1) fun u s2 ⟨y,H2,I2,r2,q2⟩=>?_;exact hf v u s2 x y H2 I2 r1 r2 q2
def tVar (i:Nat):TE:=fun σ H Q=>∃v,σ[i]?=some (some v)/\Q v H
def tC (v:V):TE:=fun _ H Q=>Q v H
theorem z1k {i:Nat}{x:Str}{pos:Pos}(hN:X.N[i]?=some x)(hv:Vis X.env.scope x)(hd:(x==("__debug__":Str))=false:=by decide)(hcd:(x==("__classdict__":Str))=false:=by decide):PE X (.Name x pos) (tVar i):=by
 intro pins s σ H Q I h;obtain⟨v,e,h⟩:=h;obtain⟨m,hn,hl⟩:=I.loc;obtain⟨u,r,l⟩:=hl i x v hN e hv;have fin:EP X pins σ Q u s:=⟨v,H,I,r,h⟩;rcases l with⟨hk,hm⟩|⟨hk,c,hc,hcell⟩
 ·exact l5 (lf I.ok.kind hk hn hm fin) hd
 ·rcases hk with hk|hk
  ·exact l5 (wpAny_loadName_cell I.ok.kind hk hc hcell fin) hd
  ·exact l5 (wpAny_loadName_free I.ok.kind hk hc hcell fin hcd) hd
theorem zgf {i j pos}:PE X (.Constant (.int i) j pos) (tC (.int i)):=fun _ _ _ H _ I h=>wpAny_Constant_int ⟨.int i,H,I.tok _,⟨_,rfl⟩,h⟩
theorem zmn {b j pos}:PE X (.Constant (.bool b) j pos) (tC (.bl b)):=fun _ _ _ H _ I h=>Constant_bool ⟨.bl b,H,I,rfl,h⟩
theorem zfm {x j pos}:PE X (.Constant (.str x) j pos) (tC (.str x)):=fun _ _ _ H _ I h=>Calls.Constant_str ⟨.str x,H,I.tok _,⟨_,rfl⟩,h⟩
def Gl (X:Cx)(x:Str):Prop:=X.env.kindOf x=some .globalImplicit
theorem z5c {E:Value->aa->Prop}{pins:List (Addr×Obj)}{s:aa}{σ:St}{H:Hp}{x:Str}{u:Value}{pos:Pos}{Q:Value->aa->Prop}(I:Inv X pins σ H s)(hg:Gl X x)(hm:X.mg x=some u)(h:Q u s)
  (hd:(x==("__debug__":Str))=false:=by decide):wpAny (model X.prog X.w) X.A (eval (.Name x pos) X.env) Q E s:=
 gq I.ok.kind hg (j6 (by rw[I.ok.glob];exact I.mod.glob.keeps I.bk) hm h) hd
theorem z31 {E:Value->aa->Prop}{pins:List (Addr×Obj)}{s:aa}{σ:St}{H:Hp}{x:Str}{u:Value}{pos:Pos}{Q:Value->aa->Prop}(I:Inv X pins σ H s)(hg:Gl X x)(hm:X.mg x=none)(hv:ck x=some u)(h:Q u s)
  (hn:x≠"__name__":=by decide) (hd:(x==("__debug__":Str))=false:=by decide):wpAny (model X.prog X.w) X.A (eval (.Name x pos) X.env) Q E s:=by
 obtain⟨mb,h1,h2⟩:=I.mod.blt;exact gq I.ok.kind hg (Calls.loadGlobal_builtin (by rw[I.ok.glob];exact I.mod.glob.keeps I.bk) hm (by rw[I.ok.blt];exact h1.keeps I.bk) ((h2 x hn).trans hv) h) hd
theorem zd6 {x:Str}{v:V}{u:Value}{pos:Pos}(hg:Gl X x)(hm:X.mg x=none)(hv:ck x=some u)(r:RelV v u)(hn:x≠"__name__":=by decide)(hd:(x==("__debug__":Str))=false:=by decide):PE X (.Name x pos) (tC v):=fun _ _ _ H _ I h=>z31 I hg hm hv ⟨v,H,I,r,h⟩ hn hd
variable {a b:Expr}{ta tb:TE}{pos:Pos}
def tB (t:TE):TT:=fun σ H Q=>t σ H fun x H1=>∃c,x=.bl c/\Q c H1
theorem zfv {e:Expr}{t:TE}(h:PE X e t)(he:∀whole,lc e X.env whole=(do let v <-whole;m4 e.pos;m5 [v] (m9 v)):=by intro _;rfl):PT X e (tB t):=by intro pins s σ H Q I hw;refine isTrue_plain (thn (h pins s σ H _ I hw) fun v s1 ⟨x,H1,I1,r1,q1⟩=>?_) (he _);obtain⟨d,rfl,q⟩:=q1;cases r1;exact gj ⟨H1,I1,q⟩
variable {tA tB':TT}{rest:List Expr}
def tAnd (t u:TT):TT:=fun σ H Q=>t σ H fun c H1=>if c=true then u σ H1 Q else Q false H1
def tOr (t u:TT):TT:=fun σ H Q=>t σ H fun c H1=>if c=true then Q true H1 else u σ H1 Q
def tNot (t:TT):TT:=fun σ H Q=>t σ H fun c H1=>Q (!c) H1
theorem zdc (ha:PT X a tA):PW X (.BoolOp .And [a] pos) tA:=by
 intro wh pins s σ H Q I h;refine isTrue_and (thn (ha pins s σ H Q I h) fun c s1 e=>?_);cases c with
 |true=>exact isTrue_and_nil e
 |false=>exact e
theorem zfu (ha:PT X a tA):PW X (.BoolOp .Or [a] pos) tA:=by
 intro wh pins s σ H Q I h;refine isTrue_or (thn (ha pins s σ H Q I h) fun c s1 e=>?_);cases c with
 |false=>exact isTrue_or_nil e
 |true=>exact e
theorem zi7 (ha:PT X a tA)(hb:PW X (.BoolOp .And (b::rest) pos) tB'):PW X (.BoolOp .And (a::b::rest) pos) (tAnd tA tB'):=by
 intro wh pins s σ H Q I h;refine isTrue_and (thn (ha pins s σ H _ I h) fun c s1 ⟨H1,I1,q1⟩=>?_);cases c with
 |true=>exact hb wh pins s1 σ H1 Q I1 q1
 |false=>exact⟨H1,I1,q1⟩
theorem zls (ha:PT X a tA)(hb:PW X (.BoolOp .Or (b::rest) pos) tB'):PW X (.BoolOp .Or (a::b::rest) pos) (tOr tA tB'):=by
 intro wh pins s σ H Q I h;refine isTrue_or (thn (ha pins s σ H _ I h) fun c s1 ⟨H1,I1,q1⟩=>?_);cases c with
 |true=>exact⟨H1,I1,q1⟩
 |false=>exact hb wh pins s1 σ H1 Q I1 q1
theorem zca (ha:PT X a tA):PT X (.UnaryOp .Not a pos) (tNot tA):=by intro pins s σ H Q I h;exact isTrue_not (ha pins s σ H (fun c H1=>Q (!c) H1) I h)
def zms (ta tb:TE):TE:=fun σ H Q=>ta σ H fun x H1=>∃c,x=.bl c/\if c=true then tb σ H1 Q else Q (.bl false) H1
def tOrV (ta tb:TE):TE:=fun σ H Q=>ta σ H fun x H1=>∃c,x=.bl c/\if c=true then Q (.bl true) H1 else tb σ H1 Q
theorem zcl {op}{t:TE}(h:PE X a t):PE X (.BoolOp op [a] pos) t:=fun pins s σ H Q I hw=>BoolOp_one (h pins s σ H Q I hw)
theorem zfx (ha:PE X a ta)(hb:PE X (.BoolOp .And (b::rest) pos) tb):PE X (.BoolOp .And (a::b::rest) pos) (zms ta tb):=by
 intro pins s σ H Q I h;refine BoolOp_and (thn (ha pins s σ H _ I h) fun v s1 ⟨x,H1,I1,r1,q1⟩=>?_);obtain⟨c,rfl,q1⟩:=q1;cases r1;refine gj ?_;cases c with
 |true=>exact hb pins s1 σ H1 Q I1 q1
 |false=>exact⟨.bl false,H1,I1,rfl,q1⟩
theorem zji (ha:PE X a ta)(hb:PE X (.BoolOp .Or (b::rest) pos) tb):PE X (.BoolOp .Or (a::b::rest) pos) (tOrV ta tb):=by
 intro pins s σ H Q I h;refine BoolOp_or (thn (ha pins s σ H _ I h) fun v s1 ⟨x,H1,I1,r1,q1⟩=>?_);obtain⟨c,rfl,q1⟩:=q1;cases r1;refine gj ?_;cases c with
 |false=>exact hb pins s1 σ H1 Q I1 q1
 |true=>exact⟨.bl true,H1,I1,rfl,q1⟩
def tIf (t:TT)(ta tb:TE):TE:=fun σ H Q=>t σ H fun c H1=>if c=true then ta σ H1 Q else tb σ H1 Q
theorem zb6 {c:Expr}(hc:PT X c tA)(ha:PE X a ta)(hb:PE X b tb):PE X (.IfExp c a b pos) (tIf tA ta tb):=by
 intro pins s σ H Q I h;refine wpAny_IfExp (thn (hc pins s σ H _ I h) fun d s1 ⟨H1,I1,q1⟩=>?_);cases d with
 |true=>exact ha pins s1 σ H1 Q I1 q1
 |false=>exact hb pins s1 σ H1 Q I1 q1
end
def SqL (K:W.Frag)(H:Hp)(a:Addr)(xs:List V):Prop:=Rd H a (.lst xs)\/∃(o:Obj) (its:Array Value) (n:Nat),K.lookup a=some o/\o.cls=.type "list"/\o.dict=none/\o.data=.seq its n/\its.size<=aq/\Vals xs its.toList
def SqT (K:W.Frag)(H:Hp)(a:Addr)(xs:List V):Prop:=Rd H a (.tup xs)\/∃(o:Obj) (its:Array Value) (n:Nat),K.lookup a=some o/\o.cls=.type "tuple"/\o.dict=none/\o.data=.seq its n/\its.size<=aq/\Vals xs its.toList
def absV:Value->Option V
 |.none=>some .non
 |.bool b=>some (.bl b)
 |.int i _=>some (.int i)
 |.str x _=>some (.str x)
 |.bytes b _=>some (.byt b)
 |.float b _=>some (.flt b)
 |.ref a=>some (.ref a)
 |.type n=>some (.ty n)
 |_=>none
theorem RelV.abs {x:V}{u:Value}(r:RelV x u):absV u=some x:=by
 cases x with
 |non=>cases r;rfl
 |bl _=>cases r;rfl
 |int _=>obtain⟨t,rfl⟩:=r;rfl
 |str _=>obtain⟨t,rfl⟩:=r;rfl
 |byt _=>obtain⟨t,rfl⟩:=r;rfl
 |flt _=>obtain⟨t,rfl⟩:=r;rfl
 |ref _=>cases r;rfl
 |ty _=>cases r;rfl
theorem RelV.inj {x y:V}{u:Value}(r:RelV x u)(q:RelV y u):x=y:=Option.some.inj (r.abs.symm.trans q.abs)
theorem Vals.inj:∀{xs ys:List V} {us:List Value},Vals xs us->Vals ys us->xs=ys
 |_,_,_,.nil,.nil=>rfl
 |_,_,_,.cons r t,.cons r' t'=>by rw[r.inj r',Vals.inj t t']
section
variable {X:Cx}{pins:List (Addr×Obj)}{σ:St}{H:Hp}{s:aa}{a:Addr}{xs ys:List V}
theorem SqL.of {K:W.Frag}(h:H a=some (.lst xs)):SqL K H a xs:=.inl (.inl h)
theorem SqT.of {K:W.Frag}(h:H a=some (.tup xs)):SqT K H a xs:=.inl (.inl h)
theorem Inv.list (I:Inv X pins σ H s)(h:SqL X.K H a xs):∃its:List Value,Vals xs its/\PlainL s.heap a its.toArray/\xs.length<=aq:=by
 rcases h with h|⟨o,its,n,hk,hc,hd,hs,hz,r⟩
 ·obtain⟨z,its,n,r,e⟩:=h.ok I.hok;exact⟨its,r,⟨_,n,e,rfl,rfl,rfl⟩,z⟩
 ·refine⟨its.toList,r,⟨o,n,I.kIn a o hk,hc,hd,by simpa using hs⟩,?_⟩;have e:=r.length;simp only[cw]at e;omega
theorem Inv.tuple (I:Inv X pins σ H s)(h:SqT X.K H a xs):∃its:List Value,Vals xs its/\IsTup s.heap a its.toArray/\xs.length<=aq:=by
 rcases h with h|⟨o,its,n,hk,hc,_,hs,hz,r⟩
 ·obtain⟨z,its,r,p⟩:=h.ok I.hok;exact⟨its,r,p.tup,z⟩
 ·refine⟨its.toList,r,⟨o,I.kIn a o hk,hc,n,by simpa using hs⟩,?_⟩;have e:=r.length;simp only[cw]at e;omega
theorem Inv.list_inj (I:Inv X pins σ H s)(h:SqL X.K H a xs)(h':SqL X.K H a ys):xs=ys:=by
 obtain⟨its,r,⟨o,n,e,_,_,d⟩,_⟩:=I.list h;obtain⟨its',r',⟨o',n',e',_,_,d'⟩,_⟩:=I.list h';rw[e]at e';cases e';rw[d]at d';injection d' with d1 _;have:its=its':=by simpa using congrArg Array.toList d1
 subst this;exact r.inj r'
theorem Inv.tuple_inj (I:Inv X pins σ H s)(h:SqT X.K H a xs)(h':SqT X.K H a ys):xs=ys:=by
 obtain⟨its,r,⟨o,e,_,n,d⟩,_⟩:=I.tuple h;obtain⟨its',r',⟨o',e',_,n',d'⟩,_⟩:=I.tuple h';rw[e]at e';cases e';rw[d]at d';injection d' with d1 _;have:its=its':=by simpa using congrArg Array.toList d1
 subst this;exact r.inj r'
end
abbrev Cx.wish (X:Cx)(E:Value->aa->Prop):Cx:={X with xe:=E}
abbrev Cx.nox (X:Cx):Cx:=X.wish fun _ _=>False
theorem Cx.Ok.wish {X:Cx}(ok:X.Ok)(E:Value->aa->Prop):(X.wish E).Ok:=⟨ok.mod,ok.kind,ok.glob,ok.blt,ok.above,ok.inj,ok.has,ok.cab,ok.hd,ok.frames,ok.stk,ok.exf,ok.bs,ok.bsz,ok.noex,ok.exfs,ok.funs,ok.frf,ok.fxN⟩
theorem Cx.Ok.unwish {X:Cx}{E:Value->aa->Prop}(ok:(X.wish E).Ok):X.Ok:=⟨ok.mod,ok.kind,ok.glob,ok.blt,ok.above,ok.inj,ok.has,ok.cab,ok.hd,ok.frames,ok.stk,ok.exf,ok.bs,ok.bsz,ok.noex,ok.exfs,ok.funs,ok.frf,ok.fxN⟩
section
variable {X:Cx}{pins:List (Addr×Obj)}{σ:St}{H:Hp}{s:aa}{E:Value->aa->Prop}
theorem Inv.wish (I:Inv X pins σ H s)(E:Value->aa->Prop):Inv (X.wish E) pins σ H s:=⟨I.ok.wish E,I.os,I.bare,I.base,I.loc,I.cell,I.free,I.freeC,I.pin,I.hok,I.len,I.fx⟩
theorem Inv.unwish (I:Inv (X.wish E) pins σ H s):Inv X pins σ H s:=⟨I.ok.unwish,I.os,I.bare,I.base,I.loc,I.cell,I.free,I.freeC,I.pin,I.hok,I.len,I.fx⟩
theorem SP.unwish {D:Ends}{f:Flow}{s':aa}(h:SP (X.wish E) pins D f s'):SP X pins D f s':=by
 cases f with
 |next=>obtain⟨σ',H',I,q⟩:=h;exact⟨σ',H',I.unwish,q⟩
 |brk=>obtain⟨σ',H',I,q⟩:=h;exact⟨σ',H',I.unwish,q⟩
 |cont=>obtain⟨σ',H',I,q⟩:=h;exact⟨σ',H',I.unwish,q⟩
 |ret u=>obtain⟨v,σ',H',I,r,q⟩:=h;exact⟨v,σ',H',I.unwish,r,q⟩
theorem PE.nox {e:Expr}{t:TE}(h:PE X.nox e t):PE X e t:=fun pins s σ H Q I hw=>gc (h pins s σ H Q (I.wish _) hw) (fun _ _ ⟨v,H',I',r,q⟩=>⟨v,H',I'.unwish,r,q⟩) fun _ _ z=>False.elim z
theorem PT.nox {e:Expr}{t:TT}(h:PT X.nox e t):PT X e t:=fun pins s σ H Q I hw=>gc (h pins s σ H Q (I.wish _) hw) (fun _ _ ⟨H',I',q⟩=>⟨H',I'.unwish,q⟩) fun _ _ z=>False.elim z
theorem PSs.nox {st:List Stmt}{t:TS}(h:PSs X.nox st t):PSs X st t:=fun pins s σ H D I hw=>gc (h pins s σ H D (I.wish _) hw) (fun _ _ q=>q.unwish) fun _ _ z=>False.elim z
end
section
variable {X:Cx}{st:Stmt}{rest:List Stmt}{t u:TS}{e:Expr}{te:TE}{pos:Pos}
def zmt:TS:=fun D σ H=>D.nx σ H
def tSeq (t u:TS):TS:=fun D σ H=>t {D with nx:=u D} σ H
theorem zcs:PSs X [] zmt:=fun _ _ σ H _ I h=>jd ⟨σ,H,I,h⟩
theorem z2h (h1:PS X st t)(h2:PSs X rest u):PSs X (st::rest) (tSeq t u):=by
 intro pins s σ H D I h;refine i4 (thn (h1 pins s σ H {D with nx:=u D} I h) fun f s1 q=>?_);cases f with
 |next=>obtain⟨σ',H',I',q⟩:=q;exact h2 pins s1 σ' H' D I' q
 |ret v=>exact q
 |brk=>exact q
 |cont=>exact q
theorem z8y (h1:PS X st t):PSs X [st] t:=by
 intro pins s σ H D I h;refine i4 (thn (h1 pins s σ H D I h) fun f s1 q=>?_);cases f with
 |next=>exact jd q
 |ret v=>exact q
 |brk=>exact q
 |cont=>exact q
theorem Inv.quiet {pins:List (Addr×Obj)}{σ:St}{H:Hp}{s:aa}(I:Inv X pins σ H s):interactive X.env=false:=by simp[interactive,I.ok.kind]
def zg4 (te:TE):TS:=fun D σ H=>te σ H fun _ H1=>D.nx σ H1
theorem zdr (he:PE X e te)(hs:i5 e none pos.line X.env=pure false:=by rfl):PS X (.Expr e pos) (zg4 te):=by intro pins s σ H D I h;exact wpAny_Expr_any (thn (he pins s σ H _ I h) fun v s1 ⟨x,H1,I1,r1,q1⟩=>⟨σ,H1,I1,q1⟩) I.quiet hs
def tRet (te:TE):TS:=fun D σ H=>te σ H D.rt
theorem z61 (he:PE X e te):PS X (.Return (some e) pos) (tRet te):=by intro pins s σ H D I h;exact wpAny_Return_some (thn (he pins s σ H _ I h) fun v s1 ⟨x,H1,I1,r1,q1⟩=>⟨x,σ,H1,I1,r1,q1⟩)
def tIfS (c:TT)(t u:TS):TS:=fun D σ H=>c σ H fun b H1=>if b=true then t D σ H1 else u D σ H1
theorem zfk {c:Expr}{a b:List Stmt}{tc:TT}(hc:PT X c tc)(ha:PSs X a t)(hb:PSs X b u):PS X (.If c a b pos) (tIfS tc t u):=by
 intro pins s σ H D I h;refine wpAny_If (thn (hc pins s σ H _ I h) fun d s1 ⟨H1,I1,q1⟩=>?_);cases d with
 |true=>exact ha pins s1 σ H1 D I1 q1
 |false=>exact hb pins s1 σ H1 D I1 q1
end
abbrev TG:=V->St->Hp->(St->Hp->Prop)->Prop
abbrev TGs:=List V->St->Hp->(St->Hp->Prop)->Prop
def PG (X:Cx)(target:Expr)(t:TG):Prop:=∀(pins:List (Addr×Obj)) (s:aa) (σ:St) (H:Hp) (v:V) (u:Value) (Q:St->Hp->Prop),Inv X pins σ H s->RelV v u->t v σ H Q->wpAny (model X.prog X.w) X.A (ka target X.env u) (fun _ s'=>∃σ' H',Inv X pins σ' H' s'/\Q σ' H') X.xe s
def PGs (X:Cx)(ts:List Expr)(t:TGs):Prop:=∀(pins:List (Addr×Obj)) (s:aa) (σ:St) (H:Hp) (vs:List V) (us:List Value) (Q:St->Hp->Prop),Inv X pins σ H s->Vals vs us->t vs σ H Q->wpAny (model X.prog X.w) X.A (assignInOrder ((dm ts X.env).map (·.2)) us) (fun _ s'=>∃σ' H',Inv X pins σ' H' s'/\Q σ' H') X.xe s
abbrev TSet:=V->V->V->Hp->(Hp->Prop)->Prop
def PSet (X:Cx)(t:TSet):Prop:=∀(pins:List (Addr×Obj)) (s:aa) (σ:St) (H:Hp) (o i v:V) (ov iv u:Value) (Q:Hp->Prop),Inv X pins σ H s->RelV o ov->RelV i iv->RelV v u->t o i v H Q->wpAny (model X.prog X.w) X.A (setItem ov iv u) (fun _ s'=>∃H',Inv X pins σ H' s'/\Q H') X.xe s
section
variable {X:Cx}{pos:Pos}
def zdq (i:Nat):TG:=fun v σ H Q=>Q (σ.set i (some v)) H
theorem z9i {i:Nat}{x:Str}(hN:X.N.Nodup)(hi:X.N[i]?=some x)(hx:Loc X.env.scope x)(hf:X.fn x=true\/X.env.scope.names.lookup x=some .local:=by first|exact .inl rfl|exact .inr rfl|assumption):PG X (.Name x pos) (zdq i):=by intro pins s σ H v u Q I r h;exact md (z3i I hN hi hx r (fun s' I'=>⟨_,H,I',h⟩) hf)
def gNil:TGs:=fun vs σ H Q=>vs=[]/\Q σ H
def zmr (t:TG)(u:TGs):TGs:=fun vs σ H Q=>∃v r,vs=v::r/\t v σ H fun σ' H'=>u r σ' H' Q
theorem zfd:PGs X [] gNil:=by intro pins s σ H vs us Q I r h;obtain⟨e,h⟩:=h;subst e;cases r;exact assignInOrder_nil ⟨σ,H,I,h⟩
theorem zba {e:Expr}{es:List Expr}{t:TG}{u:TGs}(h1:PG X e t)(h2:PGs X es u)
  (hs:(dm (e::es) X.env).map (·.2)=ka e X.env::(dm es X.env).map (·.2):=by rfl):PGs X (e::es) (zmr t u):=by
 intro pins s σ H vs us Q I r h;obtain⟨v,vr,e1,h⟩:=h;subst e1;cases r with
 |cons r rr=>rw[hs];refine assignInOrder_cons (thn (h1 pins s σ H _ _ _ I r h) fun _ s1 ⟨σ1,H1,I1,q1⟩=>?_);exact h2 pins s1 σ1 H1 _ _ Q I1 rr q1
def gTup (K:W.Frag)(n:Nat)(t:TGs):TG:=fun v σ H Q=>∃a xs,v=.ref a/\SqT K H a xs/\xs.length=n/\t xs σ H Q
theorem zj7 {es:List Expr}{k:Nat}{t:TGs}{n:Nat}(hc:X.calm=true)(h:PGs X es t)
  (hn:(dm es X.env).length=n:=by rfl) (hst:(dm es X.env).findIdx? (·.1)=none:=by rfl):PG X (.Tuple es k pos) (gTup X.K n t):=by
 intro pins s σ H v u Q I r hw;obtain⟨a,xs,e1,hq,hl,hw⟩:=hw;subst e1;cases r;obtain⟨its,rv,ht,hz⟩:=I.tuple hq;refine assign_Tuple_tuple (I.ok.hd hc) ht (by simp[hn,<-hl,rv.length]) hst fun h' hx=>?_;have I1:Inv X pins σ H {s with heap:=h'}:=I.kept (t':=s.toks) fun b o e=>hx b o (b9 (ax e)) e;exact h pins _ σ H xs _ Q I1 (by simpa using rv) hw
def tAsg (te:TE)(g:TG):TS:=fun D σ H=>te σ H fun x H1=>g x σ H1 D.nx
theorem zhh {tg e:Expr}{te:TE}{g:TG}(he:PE X e te)(hg:PG X tg g)(hs:lw [tg] e pos.line X.env=pure false:=by rfl)(hw:lx [tg] e X.env=pure none:=by rfl)
  (h1:(dm [tg] X.env).map (·.2)=[ka tg X.env]:=by rfl):PS X (.Assign [tg] e pos) (tAsg te g):=by
 intro pins s σ H D I h;refine wpAny_Assign_stores (thn (he pins s σ H _ I h) fun v s1 ⟨x,H1,I1,r1,q1⟩=>?_) hs hw;rw[h1];exact thn (hg pins s1 σ H1 x v _ I1 r1 q1) fun _ s2 q=>q
theorem zc0 {i:Nat}{x:Str}{e:Expr}{te:TE}{pos':Pos}(hN:X.N.Nodup)(hi:X.N[i]?=some x)(hx:Loc X.env.scope x)(he:PE X e te)(hs:i5 e (some (.Name x pos')) pos.line X.env=pure false:=by rfl)(hf:X.fn x=true\/X.env.scope.names.lookup x=some .local:=by first|exact .inl rfl|exact .inr rfl|assumption):
  PS X (.Assign [.Name x pos'] e pos) (tAsg te (zdq i)):=by
 intro pins s σ H D I h;refine wpAny_Assign_Name (thn (he pins s σ H _ I h) fun v s1 ⟨y,H1,I1,r1,q1⟩=>?_) hs;exact z3i I1 hN hi hx r1 (fun s2 I2=>⟨_,H1,I2,q1⟩) hf
end
section
variable {X:Cx}{pos:Pos}
def zhw (c:TT)(tb:TS):TS:=fun D σ H=>∃W:Nat->St->Hp->Prop,(∃m,W m σ H)/\∀m σ H,W m σ H->c σ H fun b H1=>if b=true then ∃N:St->Hp->Prop,(∀σ' H',N σ' H'->∃m',m'<m/\W m' σ' H')/\tb {D with nx:=N,ct:=N,bk:=D.nx} σ H1 else D.nx σ H1
theorem zaa {c:Expr}{body:List Stmt}{tc:TT}{tb:TS}(hp:dh (model X.prog X.w) X.A X.env X.xe)(hc:PT X c tc)(hb:PSs X body tb):PS X (.While c body [] pos) (zhw tc tb):=by
 intro pins s σ H D I h;obtain⟨W,⟨m0,w0⟩,turn⟩:=h;refine wpAny_While (codeAny_whileLoop (fun n s'=>∃σ' H',Inv X pins σ' H' s'/\W n σ' H') ?_ m0 ⟨σ,H,I,w0⟩)
 rintro n s1 ⟨σ1,H1,I1,w1⟩
 refine d9 hp (thn (hc pins s1 σ1 H1 _ I1 (turn n σ1 H1 w1)) fun b s2 ⟨H2,I2,q2⟩=>?_);cases b with
 |true=>
  obtain⟨N,hN,q2⟩:=q2;rw[if_pos rfl];refine d9 hp (thn (hb pins s2 σ1 H2 _ I2 q2) fun f s3 q3=>?_);cases f with
  |next=>obtain⟨σ3,H3,I3,n3⟩:=q3;obtain⟨m',hm,w3⟩:=hN σ3 H3 n3;exact⟨m',hm,σ3,H3,I3,w3⟩
  |cont=>obtain⟨σ3,H3,I3,n3⟩:=q3;obtain⟨m',hm,w3⟩:=hN σ3 H3 n3;exact⟨m',hm,σ3,H3,I3,w3⟩
  |brk=>exact q3
  |ret v=>exact q3
 |false=>rw[if_neg bn];exact jd ⟨σ1,H2,I2,q2⟩
end
structure It where
 go:Nat->Hp->Prop
 yld:Nat->Hp->V->Hp->Prop
 stop:Nat->Hp->Prop
def FpOk (X:Cx)(pins:List (Addr×Obj))(H:Hp)(b:Addr):Prop:=H b=none/\b≠X.env.locals/\b∉X.fs/\(b∈X.ex\/X.s₀.heap.objs.size<=b)/\(∀x c,X.env.cells.lookup x=some c->c≠b)/\∀p∈X.pn++pins,p.1≠b
theorem Inv.fpOk {X:Cx}{pins:List (Addr×Obj)}{σ:St}{H H':Hp}{s:aa}{b:Addr}(I:Inv X pins σ H s)(hb:s.heap.objs.size<=b)(hn:H' b=none):FpOk X pins H' b:=by
 refine⟨hn,Nat.ne_of_gt (bh I.lt hb),I.nofs hb,.inr (bq I.sz hb),fun x c e z=>?_,fun p hp z=>?_⟩
 ·obtain⟨v,q⟩:=I.cell x c e;exact absurd (bh q.lt (by rw[z];exact hb)) (cq _)
 ·exact absurd (bh (ax (I.pin p hp).1) (by rw[z];exact hb)) (cq _)
structure Turn (P:ao)(w:World)(K:W.Frag)(tg:Expr)(J:It)(fp:List Addr)(it:Addr)(tn:Nat->Heap->Prop):Prop where
 mem:it∈fp
 obj:∀i h,tn i h->∀b∈fp,∃o,h.get? b=some o/\∀v,o.data≠.cell v
 keep:∀i h h',tn i h->(∀b∈fp,∀o,h.get? b=some o->h'.get? b=some o)->tn i h'
 item:∀(X:Cx),X.prog=P->X.w=w->X.K=K->X.calm=true->∀(i:Nat) (pins:List (Addr×Obj)) (s:aa) (σ:St) (H:Hp) (E:Value->aa->Prop),Inv X pins σ H s->(∀b∈fp,FpOk X pins H b)->tn i s.heap->J.go i H->wpAny (model P w) X.A (pyNext (.ref it)) (fun r s1=>∃u,r=some u/\wpAny (model P w) X.A (g9 tg (.ref it) u) (fun _ s2=>∃x H',Inv X pins σ H' s2/\RelV x u/\J.yld i H x H'/\tn (i+1) s2.heap/\∀b∈fp,H' b=none) E s1) E s
 done:∀(X:Cx),X.prog=P->X.w=w->X.K=K->X.calm=true->∀(i:Nat) (pins:List (Addr×Obj)) (s:aa) (σ:St) (H:Hp) (E:Value->aa->Prop),Inv X pins σ H s->(∀b∈fp,FpOk X pins H b)->tn i s.heap->J.stop i H->wpAny (model P w) X.A (pyNext (.ref it)) (fun r s1=>r=none/\Inv X pins σ H s1) E s
 self:∀(A:ce) (i:Nat) (s:aa) (Q:Value->aa->Prop) (E:Value->aa->Prop),tn i s.heap->Q (.ref it) s->wpAny (model P w) A (nc (.ref it)) Q E s
abbrev TI:=St->Hp->(It->Hp->Prop)->Prop
def PIE (X:Cx)(pins:List (Addr×Obj))(σ:St)(tg:Expr)(R:It->Hp->Prop)(itv:Value)(s2:aa):Prop:=∃(it:Addr) (fp:List Addr) (tn:Nat->Heap->Prop) (J:It) (H':Hp),itv=.ref it/\Inv X pins σ H' s2/\Turn X.prog X.w X.K tg J fp it tn/\tn 0 s2.heap/\(∀b∈fp,FpOk X pins H' b)/\R J H'
def PI (X:Cx)(tg iter:Expr)(wi:TI):Prop:=∀(pins:List (Addr×Obj)) (s:aa) (σ:St) (H:Hp) (R:It->Hp->Prop),Inv X pins σ H s->wi σ H R->wpAny (model X.prog X.w) X.A (eval iter X.env) (fun v s1=>wpAny (model X.prog X.w) X.A (nc v) (PIE X pins σ tg R) X.xe s1) X.xe s
theorem z9x {M:Model}{A:ce}{E:Value->aa->Prop}{s:aa}{tg:Expr}{it:Addr}{u:Value}{o:Obj}{n:String}{vs:Array Value}{Q:Unit->aa->Prop}(ho:s.heap.get? it=some o)(hc:o.cls=.type n)(hd:o.data=.fields vs)
  (hn:["enumerate","zip","dict_itemiterator","dict_reverseitemiterator","odict_iterator","itertools.zip_longest","itertools.pairwise"].contains n=false) (hQ:Q () s):wpAny M A (g9 tg (.ref it) u) Q E s:=by
 unfold g9
 cases tg<;>first
  |exact bv hQ
  |(cases u<;>first
   |exact bv hQ
   |(refine ay (wpAny_load ho ?_)
     rw[hc,hd];show wpAny M A (if(["enumerate","zip","dict_itemiterator","dict_reverseitemiterator","odict_iterator","itertools.zip_longest","itertools.pairwise"].contains n&&vs[0]?==some (nq _))=true then _ else _) Q E s;rw[if_neg (by intro h;rw[hn,Bool.false_and]at h;cases h)];exact bv hQ))
def Itl (K:W.Frag)(a:Addr):It:=⟨fun i H=>∃xs x,SqL K H a xs/\xs[i]?=some x,fun i H x H'=>H'=H/\∀xs,SqL K H a xs->xs[i]?=some x,fun i H=>∃xs,SqL K H a xs/\xs.length<=i⟩
def Itt (K:W.Frag)(a:Addr):It:=⟨fun i H=>∃xs x,SqT K H a xs/\xs[i]?=some x,fun i H x H'=>H'=H/\∀xs,SqT K H a xs->xs[i]?=some x,fun i H=>∃xs,SqT K H a xs/\xs.length<=i⟩
def Itr (lo:Int)(n:Nat):It:=⟨fun i _=>i<n,fun i H x H'=>H'=H/\x=.int (lo+i),fun i _=>n<=i⟩
theorem z8s {P:ao}{w:World}{K:W.Frag}{tg:Expr}(a it:Addr):Turn P w K tg (Itl K a) [it] it (fun i h=>h.IsListIter it a i) where
 mem:=by simp
 obj:=fun i h st b hb=>by
  have e:b=it:=by simpa using hb
  subst e;obtain⟨o,e,c,d⟩:=st;exact⟨o,e,fun v z=>by rw[d]at z;cases z⟩
 keep:=fun i h h' st k=>st.at fun o e=>k it (by simp) o e
 item:=by intro X hP hw hK hc i pins s σ H E I hf st hg;subst hP hw hK;obtain⟨xs,x,hq,hx⟩:=hg;obtain⟨its,rv,p,hz⟩:=I.list hq;obtain⟨u,hu,ru⟩:=rv.get hx;obtain⟨f0,f1,f2,f3,f4,f5⟩:=hf it (by simp);refine wpAny_pyNext_list_item st p.isList (x:=u) (by simpa using hu) fun h' st' sb=>?_;have I1:Inv X pins σ H {s with heap:=h'}:=I.turned (t':=s.toks) (fun b o hb e=>(sb.2 b hb).trans e) f0 f1 f3 f4 f5;obtain⟨o,e,c,d⟩:=id st';exact⟨u,rfl,z9x (s:={s with heap:=h'}) e c d (by decide) ⟨x,H,I1,ru,⟨rfl,fun ys hy=>by rw[I.list_inj hy hq];exact hx⟩,st',fun b hb=>(hf b hb).1⟩⟩
 done:=by intro X hP hw hK hc i pins s σ H E I hf st hg;subst hP hw hK;obtain⟨xs,hq,hx⟩:=hg;obtain⟨its,rv,p,hz⟩:=I.list hq;obtain⟨f0,f1,f2,f3,f4,f5⟩:=hf it (by simp);have hl:=rv.length;exact wpAny_pyNext_list_end (I.ok.hd hc) st p.isList (by simp;omega) fun h' eb=>⟨rfl,I.turned (t':=s.toks) (fun b o hb e=>eb b o hb e) f0 f1 f3 f4 f5⟩
 self:=fun _ _ _ _ _ st h=>wpAny_pyIter_listiter st h
theorem z6v {P:ao}{w:World}{K:W.Frag}{tg:Expr}(a it:Addr):Turn P w K tg (Itt K a) [it] it (fun i h=>h.IsTupleIter it a i) where
 mem:=by simp
 obj:=fun i h st b hb=>by
  have e:b=it:=by simpa using hb
  subst e;obtain⟨o,e,c,d⟩:=st;exact⟨o,e,fun v z=>by rw[d]at z;cases z⟩
 keep:=fun i h h' st k=>st.at fun o e=>k it (by simp) o e
 item:=by intro X hP hw hK hc i pins s σ H E I hf st hg;subst hP hw hK;obtain⟨xs,x,hq,hx⟩:=hg;obtain⟨its,rv,p,hz⟩:=I.tuple hq;obtain⟨u,hu,ru⟩:=rv.get hx;obtain⟨f0,f1,f2,f3,f4,f5⟩:=hf it (by simp);refine wpAny_pyNext_tuple_item st (show s.heap.IsTuple a its.toArray from p) (x:=u) (by simpa using hu) fun h' st' sb=>?_;have I1:Inv X pins σ H {s with heap:=h'}:=I.turned (t':=s.toks) (fun b o hb e=>(sb.2 b hb).trans e) f0 f1 f3 f4 f5;obtain⟨o,e,c,d⟩:=id st';exact⟨u,rfl,z9x (s:={s with heap:=h'}) e c d (by decide) ⟨x,H,I1,ru,⟨rfl,fun ys hy=>by rw[I.tuple_inj hy hq];exact hx⟩,st',fun b hb=>(hf b hb).1⟩⟩
 done:=by intro X hP hw hK hc i pins s σ H E I hf st hg;subst hP hw hK;obtain⟨xs,hq,hx⟩:=hg;obtain⟨its,rv,p,hz⟩:=I.tuple hq;obtain⟨f0,f1,f2,f3,f4,f5⟩:=hf it (by simp);have hl:=rv.length;exact wpAny_pyNext_tuple_end (I.ok.hd hc) st (show s.heap.IsTuple a its.toArray from p) (by simp;omega) fun h' eb=>⟨rfl,I.turned (t':=s.toks) (fun b o hb e=>eb b o hb e) f0 f1 f3 f4 f5⟩
 self:=fun _ _ _ _ _ st h=>wpAny_pyIter_tupleiter st h
theorem z73 {P:ao}{w:World}{K:W.Frag}{tg:Expr}(it:Addr)(lo:Int)(n:Nat):Turn P w K tg (Itr lo n) [it] it (fun i h=>IsRangeIter h it (lo+(i:Nat)*1) ((n:Int)-(i:Nat)) 1) where
 mem:=by simp
 obj:=fun i h st b hb=>by
  have e:b=it:=by simpa using hb
  subst e;exact⟨_,st,fun v z=>by have z':Data.fields _=Data.cell v:=z;cases z'⟩
 keep:=fun i h h' st k=>k it (by simp) _ st
 item:=by intro X hP hw hK hc i pins s σ H E I hf st hg;subst hP hw hK;obtain⟨f0,f1,f2,f3,f4,f5⟩:=hf it (by simp);have W:=Walks.range (prog:=X.prog) (w:=X.w) (I.ok.hd hc) it lo 1 n;refine W.item i s _ _ hg st fun v h' tk hv st' kk=>?_;obtain⟨t,rfl⟩:=hv;have I1:Inv X pins σ H {s with heap:=h',toks:=tk}:=I.turned (fun b o hb e=>kk b o (by simpa using hb) e) f0 f1 f3 f4 f5;refine⟨_,rfl,z9x (s:={s with heap:=h',toks:=tk}) (n:="range_iterator") st' rfl rfl (by decide) ⟨.int (lo+i),H,I1,⟨t,?_⟩,⟨rfl,rfl⟩,st',fun b hb=>(hf b hb).1⟩⟩;rw[Int.mul_one]
 done:=by intro X hP hw hK hc i pins s σ H E I hf st hg;subst hP hw hK;obtain⟨f0,f1,f2,f3,f4,f5⟩:=hf it (by simp);exact wpAny_pyNext_range_end (I.ok.hd hc) st (by have:n<=i:=hg;omega) fun h' eb=>⟨rfl,I.turned (t':=s.toks) (fun b o hb e=>eb b o hb e) f0 f1 f3 f4 f5⟩
 self:=fun _ _ _ _ _ st h=>wpAny_pyIter_rangeiter st h
section
variable {X:Cx}{tg:Expr}
theorem zaq {pins:List (Addr×Obj)}{σ:St}{H:Hp}{s:aa}{R:It->Hp->Prop}{E:Value->aa->Prop}{lo hi:Int}{t u v:Tok}{tk:Nat}(I:Inv X pins σ H s)(h1:-(2 ^ 62)<=lo)(h2:lo<2 ^ 62)(h3:-(2 ^ 62)<=hi)(h4:hi<2 ^ 62)
  (q:R (Itr lo (hi-lo).toNat) H):wpAny (model X.prog X.w) X.A (nc (.ref s.heap.objs.size)) (PIE X pins σ tg R) E {s with heap:=s.heap.push {cls:=.type "range",data:=.fields #[.int lo t,.int hi u,.int 1 v]},toks:=tk}:=by
 refine wpAny_pyIter_range (IsRange.new ..) (small_one h1 h2 h3 h4) ?_;have I1:Inv X pins σ H {s with heap:=s.heap.push {cls:=.type "range",data:=.fields #[.int lo t,.int hi u,.int 1 v]},toks:=tk}:=I.kept fun b o e=>am _ e;refine⟨(s.heap.push {cls:=.type "range",data:=.fields #[.int lo t,.int hi u,.int 1 v]}).objs.size,[(s.heap.push {cls:=.type "range",data:=.fields #[.int lo t,.int hi u,.int 1 v]}).objs.size],_,_,H,rfl,I1.kept (t':=tk) fun b o e=>am _ e,z73 _ lo (hi-lo).toNat,?_,fun b hb=>?_,q⟩
 ·have e1:lo+((0:Nat):Int)*1=lo:=by simp
  have e2:(((hi-lo).toNat:Nat):Int)-((0:Nat):Int)=Builtin.Range.rangeSize lo hi 1:=by rw[rangeSize_one];split<;>omega
  show IsRangeIter _ _ (lo+((0:Nat):Int)*1) ((((hi-lo).toNat:Nat):Int)-((0:Nat):Int)) 1;rw[e1,e2];exact bp _ rfl
 ·have e:b=(s.heap.push {cls:=.type "range",data:=.fields #[.int lo t,.int hi u,.int 1 v]}).objs.size:=by simpa using hb
  subst e;exact I1.fpOk (ae _) (I1.hok.fresh (ae _))
def zld (ta:TA):TI:=fun σ H R=>ta σ H fun vs H1=>∃j:Int,vs=[.int j]/\-(2 ^ 62)<=j/\j<2 ^ 62/\R (Itr 0 j.toNat) H1
theorem z8p {a:Expr}{ta:TA}{p pos:Pos}(hg:Gl X "range")(hm:X.mg "range"=none)(ha:PA X [a] ta)(hs:cu [a] X.env=[(false,eval a X.env)]:=by rfl):PI X tg (.Call (.Name "range" p) [a] [] pos) (zld ta):=by
 intro pins s σ H R I h;refine Call_ (z31 I hg hm boot_range (PyProof.Rows.callWith_type1 (thn (ha pos pins s σ H _ I h) fun us s1 ⟨vs,H1,I1,r1,q1⟩=>?_) hs rfl));obtain⟨j,e,q1,q2,q⟩:=q1;subst e;cases r1 with
 |cons r rr=>cases rr;obtain⟨t,rfl⟩:=r;exact call_range_1 (zaq I1 (by omega) (by omega) q1 q2 (by simpa using q))
def tFor (wi:TI)(g:TG)(tb:TS):TS:=fun D σ H=>wi σ H fun J H1=>∃W:Nat->Nat->St->Hp->Prop,(∃m,W 0 m σ H1)/\∀i m σ H,W i m σ H->(J.stop i H/\D.nx σ H)\/(J.go i H/\∃N:St->Hp->Prop,(∀σ' H',N σ' H'->∃m',m'<m/\W (i+1) m' σ' H')/\∀x H',J.yld i H x H'->g x σ H' fun σ2 H2=>tb {D with nx:=N,ct:=N,bk:=D.nx} σ2 H2)
def z57 (fp:List Addr)(h:Heap):List (Addr×Obj):=fp.filterMap fun b=>(h.get? b).map fun o=>(b,o)
theorem z1t {fp:List Addr}{h:Heap}{b:Addr}{o:Obj}(hb:b∈fp)(e:h.get? b=some o):(b,o)∈z57 fp h:=jl.mpr ⟨b,hb,by rw[e];rfl⟩
theorem z8q {fp:List Addr}{h:Heap}{p:Addr×Obj}(hp:p∈z57 fp h):p.1∈fp/\h.get? p.1=some p.2:=by
 obtain⟨b,hb,e⟩:=jl.mp hp;cases q:h.get? b with
 |none=>rw[q]at e;cases e
 |some o=>rw[q]at e;have e':(b,o)=p:=Option.some.inj e;subst e';exact⟨hb,q⟩
theorem Inv.pinned {pins:List (Addr×Obj)}{σ:St}{H:Hp}{s:aa}{fp:List Addr}(I:Inv X pins σ H s)(hf:∀b∈fp,FpOk X pins H b)(ho:∀b∈fp,∃o,s.heap.get? b=some o/\∀v,o.data≠.cell v):Inv X (pins++z57 fp s.heap) σ H s:=I.pins_of fun p hp=>(bx.mp hp).elim (fun z=>I.pin p (ar _ z)) fun z=>by obtain⟨hb,e⟩:=z8q z;obtain⟨f0,f1,f2,_⟩:=hf p.1 hb;obtain⟨o,e',d⟩:=ho p.1 hb;rw[e]at e';cases e';exact⟨e,f0,f1,f2,d⟩
theorem Inv.unpinned {pins pl:List (Addr×Obj)}{σ:St}{H:Hp}{s:aa}(I:Inv X (pins++pl) σ H s):Inv X pins σ H s:=I.pins_of fun p hp=>I.pin p (ar _ (di _ hp))
theorem zc7 {iter:Expr}{body:List Stmt}{wi:TI}{g:TG}{tb:TS}{pos:Pos}(hp:dh (model X.prog X.w) X.A X.env X.xe)(hc:X.calm=true)(hi:PI X tg iter wi)(hg:PG X tg g)(hb:PSs X body tb)
  (hs:∀x,c8 iter X.env x=pure x:=by intro _;rfl):PS X (.For tg iter body [] pos) (tFor wi g tb):=by
 intro pins s σ H D I h;refine wpAny_For (thn (hi pins s σ H _ I h) fun v s1 h1=>thn h1 fun itv s2 h2=>?_) hs;obtain⟨it,fp,tn,J,H2,e,I2,T,st2,f2,W,⟨m0,w0⟩,turn⟩:=h2;subst e;have stat:∀{H':Hp},(∀b∈fp,H' b=none)->∀b∈fp,FpOk X pins H' b:=fun hn b hb=>⟨hn b hb,(f2 b hb).2⟩;refine codeAny_forLoop_any (fun n s'=>∃i σ' H',Inv X pins σ' H' s'/\tn i s'.heap/\(∀b∈fp,H' b=none)/\W i n σ' H') ?_ m0 ⟨0,σ,H2,I2,st2,fun b hb=>(f2 b hb).1,w0⟩
 rintro n s3 ⟨i,σ3,H3,I3,st3,fr3,w3⟩
 rcases turn i n σ3 H3 w3 with⟨stop,qn⟩|⟨go,N,hN,step⟩
 ·refine d9 hp (thn (T.done X rfl rfl rfl hc i pins s3 σ3 H3 X.xe I3 (stat fr3) st3 stop) fun r s4 ⟨hr,I4⟩=>?_);subst hr;exact jd ⟨σ3,H3,I4,qn⟩
 ·refine d9 hp (thn (T.item X rfl rfl rfl hc i pins s3 σ3 H3 X.xe I3 (stat fr3) st3 go) fun r s4 ⟨u,hr,h4⟩=>?_);subst hr;refine d9 hp (thn h4 fun _ s5 ⟨x,H5,I5,r5,y5,st5,fr5⟩=>?_);have I5':=I5.pinned (stat fr5) (T.obj _ _ st5);refine d9 hp (thn (hg _ s5 σ3 H5 x u _ I5' r5 (step x H5 y5)) fun _ s6 ⟨σ6,H6,I6,q6⟩=>?_);refine d9 hp (thn (hb _ s6 σ6 H6 _ I6 q6) fun f s7 q7=>?_);have again:∀{σ7:St} {H7:Hp},Inv X (pins++z57 fp s5.heap) σ7 H7 s7->N σ7 H7->∃m,m<n/\∃i σ' H',Inv X pins σ' H' s7/\tn i s7.heap/\(∀b∈fp,H' b=none)/\W i m σ' H':=fun{σ7 H7} I7 n7=>by obtain⟨m',hm,w7⟩:=hN σ7 H7 n7;refine⟨m',hm,i+1,σ7,H7,I7.unpinned,T.keep _ _ _ st5 fun b hb o e=>(I7.pin (b,o) (ar _ (ar _ (z1t hb e)))).1,fun b hb=>?_,w7⟩;obtain⟨o,e,d⟩:=T.obj _ _ st5 b hb;exact(I7.pin (b,o) (ar _ (ar _ (z1t hb e)))).2.1
  cases f with
  |next=>obtain⟨σ7,H7,I7,n7⟩:=q7;exact again I7 n7
  |cont=>obtain⟨σ7,H7,I7,n7⟩:=q7;exact again I7 n7
  |brk=>obtain⟨σ7,H7,I7,q7⟩:=q7;exact⟨σ7,H7,I7.unpinned,q7⟩
  |ret v=>obtain⟨x7,σ7,H7,I7,r7,q7⟩:=q7;exact⟨x7,σ7,H7,I7.unpinned,r7,q7⟩
end
abbrev R2:=V->V->Hp->VK->Prop
def OpR (X:Cx)(f:Value->Value->Sem Value)(r:R2):Prop:=∀(pins:List (Addr×Obj)) (s:aa) (σ:St) (H:Hp) (x y:V) (v u:Value) (Q:VK),Inv X pins σ H s->RelV x v->RelV y u->r x y H Q->wpAny (model X.prog X.w) X.A (f v u) (EP X pins σ Q) X.xe s
def UnR (X:Cx)(f:Value->Sem Value)(r:V->Hp->VK->Prop):Prop:=∀(pins:List (Addr×Obj)) (s:aa) (σ:St) (H:Hp) (x:V) (v:Value) (Q:VK),Inv X pins σ H s->RelV x v->r x H Q->wpAny (model X.prog X.w) X.A (f v) (EP X pins σ Q) X.xe s
def CallR (X:Cx)(f:Value)(r:List V->Hp->VK->Prop):Prop:=∀(pins:List (Addr×Obj)) (s:aa) (σ:St) (H:Hp) (xs:List V) (us:List Value) (Q:VK),Inv X pins σ H s->Vals xs us->r xs H Q->wpAny (model X.prog X.w) X.A (call f us) (EP X pins σ Q) X.xe s
def TruR (X:Cx)(r:V->Hp->(Bool->Hp->Prop)->Prop):Prop:=∀(pins:List (Addr×Obj)) (s:aa) (σ:St) (H:Hp) (x:V) (v:Value) (Q:Bool->Hp->Prop),Inv X pins σ H s->RelV x v->r x H Q->wpAny (model X.prog X.w) X.A (m9 v) (TP X pins σ Q) X.xe s
def tOp (r:R2)(ta tb:TE):TE:=fun σ H Q=>ta σ H fun x H1=>tb σ H1 fun y H2=>r x y H2 Q
def tUn (r:V->Hp->VK->Prop)(ta:TE):TE:=fun σ H Q=>ta σ H fun x H1=>r x H1 Q
def rI (C:Int->Int->Prop)(g:Int->Int->V):R2:=fun x y H Q=>∃i j,x=.int i/\y=.int j/\C i j/\Q (g i j) H
def rI0 (g:Int->Int->V):R2:=fun x y H Q=>∃i j,x=.int i/\y=.int j/\Q (g i j) H
def rU (g:Int->V):V->Hp->VK->Prop:=fun x H Q=>∃i,x=.int i/\Q (g i) H
section
variable {X:Cx}{a b c:Expr}{ta tb tc:TE}{pos:Pos}
theorem binT (ha:PE X a ta)(hb:PE X b tb){pins:List (Addr×Obj)}{s:aa}{σ:St}{H:Hp}{R:V->V->Hp->Prop}(I:Inv X pins σ H s)
  (h:ta σ H fun x H1=>tb σ H1 fun y H2=>R x y H2) {Q:Value->aa->Prop} {f:Value->Value->Sem Value}
  (hf:∀v u s2 x y H2,Inv X pins σ H2 s2->RelV x v->RelV y u->R x y H2->wpAny (model X.prog X.w) X.A (f v u) Q X.xe s2):
  wpAny (model X.prog X.w) X.A (eval a X.env) (fun v s₁=>wpAny (model X.prog X.w) X.A (eval b X.env) (fun u s₂=>wpAny (model X.prog X.w) X.A (f v u) Q X.xe s₂) X.xe s₁) X.xe s:=by
 refine thn (ha pins s σ H _ I h) fun v s1 ⟨x,H1,I1,r1,q1⟩=>?_;refine thn (hb pins s1 σ H1 _ I1 q1) fun u s2 ⟨y,H2,I2,r2,q2⟩=>?_;exact hf v u s2 x y H2 I2 r1 r2 q2
theorem zlw {op:gy}{r:R2}(ho:OpR X (dr op) r)(ha:PE X a ta)(hb:PE X b tb):PE X (.BinOp a op b pos) (tOp r ta tb):=by intro pins s σ H Q I h;exact wpAny_BinOp (binT ha hb I h fun v u s2 x y H2 I2 rx ry q=>ho pins s2 σ H2 x y v u Q I2 rx ry q)
theorem zmm {op:UnaryOp}{r:V->Hp->VK->Prop}(ho:UnR X (unaryOp op) r)(ha:PE X a ta):PE X (.UnaryOp op a pos) (tUn r ta):=by intro pins s σ H Q I h;exact UnaryOp_ (thn (ha pins s σ H _ I h) fun v s1 ⟨x,H1,I1,r1,q1⟩=>ho pins s1 σ H1 x v Q I1 r1 q1)
theorem opI {f:Value->Value->Sem Value}{C:Int->Int->Prop}{g:Int->Int->Int}
  (rule:∀(i j:Int) (t u:Tok) (s:aa) (Q:Value->aa->Prop) (E:Value->aa->Prop),C i j->Q (.int (g i j) s.toks) {s with toks:=s.toks+1}->wpAny (model X.prog X.w) X.A (f (.int i t) (.int j u)) Q E s):
  OpR X f (rI C fun i j=>.int (g i j)):=by
 intro pins s σ H x y v u Q I rx ry h;obtain⟨i,j,rfl,rfl,hc,q⟩:=h;obtain⟨t,rfl⟩:=rx;obtain⟨t',rfl⟩:=ry;exact rule i j t t' s _ _ hc ⟨.int (g i j),H,I.tok _,⟨_,rfl⟩,q⟩
theorem opI0 {f:Value->Value->Sem Value}{g:Int->Int->Int}
  (rule:∀(i j:Int) (t u:Tok) (s:aa) (Q:Value->aa->Prop) (E:Value->aa->Prop),Q (.int (g i j) s.toks) {s with toks:=s.toks+1}->wpAny (model X.prog X.w) X.A (f (.int i t) (.int j u)) Q E s):
  OpR X f (rI0 fun i j=>.int (g i j)):=by
 intro pins s σ H x y v u Q I rx ry h;obtain⟨i,j,rfl,rfl,q⟩:=h;obtain⟨t,rfl⟩:=rx;obtain⟨t',rfl⟩:=ry;exact rule i j t t' s _ _ ⟨.int (g i j),H,I.tok _,⟨_,rfl⟩,q⟩
theorem opB0 {f:Value->Value->Sem Value}{g:Int->Int->Bool}
  (rule:∀(i j:Int) (t u:Tok) (s:aa) (Q:Value->aa->Prop) (E:Value->aa->Prop),Q (.bool (g i j)) s->wpAny (model X.prog X.w) X.A (f (.int i t) (.int j u)) Q E s):
  OpR X f (rI0 fun i j=>.bl (g i j)):=by
 intro pins s σ H x y v u Q I rx ry h;obtain⟨i,j,rfl,rfl,q⟩:=h;obtain⟨t,rfl⟩:=rx;obtain⟨t',rfl⟩:=ry;exact rule i j t t' s _ _ ⟨.bl (g i j),H,I,rfl,q⟩
def CPow (i j:Int):Prop:=0<=j/\j<=1000000/\i.natAbs<2 ^ 64
def CMul (i j:Int):Prop:=(-(2 ^ 64)<i/\i<2 ^ 64)\/(-(2 ^ 64)<j/\j<2 ^ 64)
theorem CMul.ok {i j:Int}(h:CMul i j):IntMulOk i j:=by
 rcases h with⟨h1,h2⟩|⟨h1,h2⟩
 ·exact .of_left (intBits_le_64 h1 h2)
 ·exact .of_right (intBits_le_64 h1 h2)
theorem zhx:OpR X (dr .Add) (rI0 fun i j=>.int (i+j)):=opI0 fun _ _ _ _ _ _ _ q=>add_int q
theorem zgo:OpR X (dr .Sub) (rI0 fun i j=>.int (i-j)):=opI0 fun _ _ _ _ _ _ _ q=>sub_int q
theorem zhp:OpR X (dr .Mult) (rI CMul fun i j=>.int (i*j)):=opI fun _ _ _ _ _ _ _ hc q=>mul_int q hc.ok
theorem zgl:OpR X (dr .Mod) (rI (fun _ j=>0<j) fun i j=>.int (i%j)):=opI fun i j _ _ _ _ _ hc q=>by have h1:(0:Int)<j:=hc;exact mod_int' (by omega) (by rw[Int.fmod_eq_emod_of_nonneg i (by omega)];exact q)
theorem zj3:OpR X (dr .Pow) (rI CPow fun i j=>.int (i ^ j.toNat)):=opI fun _ _ _ _ _ _ _ hc q=>pow_int_small hc.1 hc.2.1 hc.2.2 q
theorem unI {f:Value->Sem Value}{g:Int->Int}
  (rule:∀(i:Int) (t:Tok) (s:aa) (Q:Value->aa->Prop) (E:Value->aa->Prop),Q (.int (g i) s.toks) {s with toks:=s.toks+1}->wpAny (model X.prog X.w) X.A (f (.int i t)) Q E s):
  UnR X f (rU fun i=>.int (g i)):=by
 intro pins s σ H x v Q I rx h;obtain⟨i,rfl,q⟩:=h;obtain⟨t,rfl⟩:=rx;exact rule i t s _ _ ⟨.int (g i),H,I.tok _,⟨_,rfl⟩,q⟩
theorem zg3:UnR X (unaryOp .USub) (rU fun i=>.int (-i)):=unI fun _ _ _ _ _ q=>neg_int q
end
section
variable {X:Cx}{a b c:Expr}{ta tb tc:TE}{pos:Pos}
theorem zcb {pins:List (Addr×Obj)}{σ:St}{H:Hp}{s:aa}{Q:VK}{k k':Bool}(I:Inv X pins σ H s)(q:Q (.bl k) H)(e:k=k'):EP X pins σ Q (.bool k') s:=by subst e;exact⟨.bl k,H,I,rfl,q⟩
theorem zkc:OpR X (bw .Lt) (rI0 fun i j=>.bl (decide (i<j))):=opB0 fun _ _ _ _ _ _ _ q=>lt_int q
theorem zkx:OpR X (bw .LtE) (rI0 fun i j=>.bl (decide (i<=j))):=opB0 fun _ _ _ _ _ _ _ q=>le_int q
theorem zkr:OpR X (bw .Gt) (rI0 fun i j=>.bl (decide (j<i))):=opB0 fun _ _ _ _ _ _ _ q=>gt_int q
theorem zmk:OpR X (bw .GtE) (rI0 fun i j=>.bl (decide (j<=i))):=opB0 fun _ _ _ _ _ _ _ q=>ge_int q
theorem z7d:OpR X (bw .Lt) (fun x y H Q=>∃i j,x=.str i/\y=.str j/\Q (.bl (decide (i.cps.toList<j.cps.toList))) H):=by intro pins s σ H x y v u Q I rx ry h;obtain⟨i,j,rfl,rfl,q⟩:=h;obtain⟨t,rfl⟩:=rx;obtain⟨t',rfl⟩:=ry;exact lt_str (zcb I q rfl)
theorem z79:OpR X (bw .In) (fun x y H Q=>∃i j,x=.str i/\y=.str j/\Q (.bl (!(cn j i 0 j.length 1).isEmpty)) H):=by intro pins s σ H x y v u Q I rx ry h;obtain⟨i,j,rfl,rfl,q⟩:=h;obtain⟨t,rfl⟩:=rx;obtain⟨t',rfl⟩:=ry;exact in_str (zcb I q rfl)
def isObj:HO->Bool
 |.lst _=>true
 |.ins _ _ _=>true
 |_=>false
theorem z2p {pins:List (Addr×Obj)}{s:aa}{σ:St}{H:Hp}{a:Addr}{o:HO}(I:Inv X pins σ H s)(h:H a=some o)(p:isObj o=true):∃ob,s.heap.get? a=some ob/\ob.cls≠.type "tuple":=by
 cases o with
 |lst xs=>obtain⟨_,its,n,_,e⟩:xs.length<=aq/\∃(its:List Value) (n:Nat),Vals xs its/\s.heap.get? a=some {cls:=.type "list",data:=.seq its.toArray n}:=I.hok a _ h;exact⟨_,e,(by show Value.type "list"≠.type "tuple";decide+kernel)⟩
 |ins C dx fs=>have x:=I.hok a _ h;obtain⟨_,_,_,e,_⟩:=x;exact⟨_,e,(by show Value.ref C≠.type "tuple";exact fun z=>by cases z)⟩
 |_=>exact absurd (show false=true from p) bn
theorem OpR.or {f:Value->Value->Sem Value}{r r':R2}(h:OpR X f r)(h':OpR X f r'):OpR X f (fun x y H Q=>r x y H Q\/r' x y H Q):=by
 intro pins s σ H x y v u Q I rx ry q;rcases q with q|q
 ·exact h pins s σ H x y v u Q I rx ry q
 ·exact h' pins s σ H x y v u Q I rx ry q
theorem zep {op:CmpOp}{r:R2}(ho:OpR X (bw op) r)(ha:PE X a ta)(hb:PE X b tb)(hm:gz op b=false):PE X (.Compare a [op] [b] pos) (tOp r ta tb):=by intro pins s σ H Q I h;exact wpAny_Compare1 (binT ha hb I h fun v u s2 x y H2 I2 rx ry q=>ho pins s2 σ H2 x y v u Q I2 rx ry q) hm
def zg1 (t:TE):TT:=fun σ H Q=>t σ H fun x H'=>∃k,x=.bl k/\Q k H'
theorem zeh {op:CmpOp}{r:R2}(ho:OpR X (bw op) r)(ha:PE X a ta)(hb:PE X b tb)(hm:gz op b=false):PT X (.Compare a [op] [b] pos) (zg1 (tOp r ta tb)):=by intro pins s σ H Q I h;refine wpAny_isTrue_Compare1 (thn (ha pins s σ H _ I h) fun v s1 ⟨x,H1,I1,r1,q1⟩=>thn (hb pins s1 σ H1 _ I1 q1) fun u s2 ⟨y,H2,I2,r2,q2⟩=>thn (ho pins s2 σ H2 x y v u _ I2 r1 r2 q2) fun c s3 ⟨z,H3,I3,r3,k,e,q3⟩=>?_) hm;subst e;cases r3;exact gj ⟨H3,I3,q3⟩
def TruV (K:W.Frag)(x:V)(H:Hp)(k:Bool):Prop:=
 match x with
 |.non=>k=false
 |.bl b=>k=b
 |.int i=>k=(i != 0)
 |.str y=>y.length<=aq/\k=((y.length:Int) != 0)
 |.byt y=>y.size<=aq/\k=((y.size:Int) != 0)
 |.ref p=>(∃xs,SqL K H p xs/\k=!xs.isEmpty)\/(∃xs,SqT K H p xs/\k=!xs.isEmpty)\/∃kvs,H p=some (.dK kvs)/\k=!kvs.isEmpty
 |_=>False
theorem z74 {κ:Type}{kvs:List (κ×V)}{vs:List (κ×Value)}(r:KV kvs vs):(!vs.isEmpty)=!kvs.isEmpty:=by cases r<;>rfl
theorem z34 {xs:List V}{its:List Value}(r:Vals xs its):(!its.toArray.isEmpty)=!xs.isEmpty:=by cases r<;>simp
theorem z2r:(aq:Nat)<2 ^ 63:=by rw[fg];decide
theorem zcd:TruR X (fun x H Q=>∃k,TruV X.K x H k/\Q k H):=by
 intro pins s σ H x v Q I rx h;obtain⟨k,e,q⟩:=h;have hl:=z2r;have hs:aq=16777216:=fg;cases x with
 |non=>cases rx;have e':k=false:=e;subst e';exact truthy_none ⟨H,I,q⟩
 |bl b=>cases rx;have e':k=b:=e;subst e';exact gj ⟨H,I,q⟩
 |int i=>obtain⟨t,rfl⟩:=rx;have e':k=(i != 0):=e;subst e';exact PySem.P.truthy_int ⟨H,I,q⟩
 |str y=>obtain⟨t,rfl⟩:=rx;obtain⟨hy,e'⟩:y.length<=aq/\k=((y.length:Int) != 0):=e;subst e';exact PySem.P.truthy_str (by omega) ⟨H,I.tok _,q⟩
 |byt y=>obtain⟨t,rfl⟩:=rx;obtain⟨hy,e'⟩:y.size<=aq/\k=((y.size:Int) != 0):=e;subst e';exact W.truthy_bytes (by omega) ⟨H,I.tok _,q⟩
 |ref p=>
  cases rx;have e':(∃xs,SqL X.K H p xs/\k=!xs.isEmpty)\/(∃xs,SqT X.K H p xs/\k=!xs.isEmpty)\/∃kvs,H p=some (.dK kvs)/\k=!kvs.isEmpty:=e;rcases e' with⟨xs,hx,e'⟩|⟨xs,hx,e'⟩|⟨kvs,hx,e'⟩
  ·subst e';obtain⟨its,r,pl,hz⟩:=I.list hx;have hlen:=r.length;exact wpAny_truthy_list pl.isList (by simp only[ai];omega) ⟨H,I.tok _,by rw[z34 r];exact q⟩
  ·subst e';obtain⟨its,r,pl,hz⟩:=I.tuple hx;have hlen:=r.length;exact truthy_tuple pl (by simp only[ai];omega) ⟨H,I.tok _,by rw[z34 r];exact q⟩
  ·subst e';obtain⟨hz,hS,vs,r,m⟩:kvs.length<=aq/\(p==gb)=false/\∃vs,KV kvs vs/\s.heap.DictOf (z0n X.prog X.w) p vs:=I.hok p _ hx;have hlen:kvs.length=vs.length:=Paired.length r;exact wpAny_truthy_dict hS m (by omega) ⟨H,I.tok _,by rw[z74 r];exact q⟩
 |_=>exact(show False from e).elim
theorem z9y (ha:PE X a ta)(he:∀whole,lc a X.env whole=(do let v <-whole;m4 a.pos;m5 [v] (m9 v))):
  PT X a (fun σ H Q=>ta σ H fun x H'=>∃k,TruV X.K x H' k/\Q k H'):=by
 intro pins s σ H Q I h;exact isTrue_plain (thn (ha pins s σ H _ I h) fun v s1 ⟨x,H1,I1,r1,q1⟩=>zcd pins s1 σ H1 x v Q I1 r1 q1) (he _)
theorem z75:OpR X (dr .Add) (fun x y H Q=>∃i j,x=.str i/\y=.str j/\i.length+j.length<=aq/\Q (.str (i++j)) H):=by intro pins s σ H x y v u Q I rx ry h;obtain⟨i,j,rfl,rfl,hz,q⟩:=h;obtain⟨t,rfl⟩:=rx;obtain⟨t',rfl⟩:=ry;exact add_str (fun t' tk=>⟨.str (i++j),H,I.tok _,⟨_,rfl⟩,q⟩) hz
theorem vals1 {x:V}{us:List Value}(r:Vals [x] us):∃u,us=[u]/\RelV x u:=by
 cases r with
 |cons r1 r2=>cases r2;exact⟨_,rfl,r1⟩
theorem vals2 {x y:V}{us:List Value}(r:Vals [x,y] us):∃u w',us=[u,w']/\RelV x u/\RelV y w':=by
 cases r with
 |cons r1 r2=>
  cases r2 with
  |cons r3 r4=>cases r4;exact⟨_,_,rfl,r1,r3⟩
theorem z4q:CallR X (.type "str") (fun xs H Q=>∃i,xs=[.int i]/\i.natAbs.log2<1920/\Q (.str (toString i)) H):=by intro pins s σ H xs us Q I r h;obtain⟨i,rfl,hz,q⟩:=h;obtain⟨u,rfl,t,rfl⟩:=vals1 r;exact PySem.P.str_of_int hz ⟨.str _,H,I.tok _,⟨_,rfl⟩,q⟩
end
structure ObjM (h:Heap)(x dx C:Addr)(mA:Str->Option Value):Prop where
 obj:h.get? x=some (W.instObj C dx)
 ns:h.Ns1 dx mA
 ne:dx≠x
theorem z8a {h:Heap}{dx:Addr}{mA:Str->Option Value}(n:h.Ns1 dx mA):∃od,h.get? dx=some od/\∀name,W.lookIn name od=some (mA name):=by
 obtain⟨o,es,ep,ho,hd,hk,_,hm⟩:=n;refine⟨o,ho,fun name=>?_⟩;have e:=hm name;unfold nsFind findBy at e;rw[<-Array.find?_toList]at e;unfold W.lookIn;rw[hd]
 dsimp only
 split
 ·rename_i y q;rw[q]at e;exact congrArg some e
 ·rename_i q;rw[q]at e;have a:es.toList.any (·.refKey)=false:=by rw[List.any_eq_false];intro y hy;obtain⟨z,t,hkey⟩:=hk y (Array.mem_toList_iff.mp hy);simp[DictEntry.refKey,hkey]
  have a':¬es.toList.any (·.refKey)=true:=by rw[a];exact bn
  rw[if_neg a'];exact congrArg some e
theorem ObjM.look {h:Heap}{x dx C:Addr}{mA:Str->Option Value}(I:ObjM h x dx C mA):∃od,W.InstAt h x (W.instObj C dx) C (some od)/\∀name,W.lookIn name od=some (mA name):=
 let⟨od,ho,hl⟩:=z8a I.ns
 ⟨od,⟨I.obj,rfl,rfl,ho⟩,hl⟩
section
variable {prog:ao}{w:World}{A:ce}{E:Value->aa->Prop}{s:aa}{K:W.Frag}{x dx C f:Addr}{mA:Str->Option Value}{name:Str}{v:Value}
end
theorem RelO.some_of {v:V}{o:Option Value}(r:RelO (some v) o):∃u,o=some u/\RelV v u:=by
 cases o with
 |none=>exact(show False from r).elim
 |some u=>exact⟨u,rfl,r⟩
theorem RelO.none_of {o:Option Value}(r:RelO none o):o=none:=by
 cases o with
 |none=>rfl
 |some u=>exact(show False from r).elim
section
variable {P:ao}{w:World}{H H':Hp}{h h':Heap}{a C dx:Addr}{fs fs':List (Str×V)}
theorem zd3 (hok:HOk P w H h)(e:H a=some (.ins C dx fs)):∃mA,ObjM h a dx C mA/\(∀f,RelO (fs.lookup f) (mA f))/\PySem.Within mA (fs.map (·.1))/\fs.length<=1000/\H dx=some (.own a):=by obtain⟨d,z,ne,ob,mA,n,r,q⟩:=(show z0u P w H h a (.ins C dx fs)from hok a _ e);exact⟨mA,⟨ob,n,ne⟩,r,q,z,d⟩
end
structure Cls (K:W.Frag)(C:Addr):Prop where
 pg:W.plainGet K C Str.empty=true
 hd:W.hasDictIn K C=true
 po:W.plainOver K C=true
 sa:W.findIn K (.ref C) "__setattr__"=some (some (.builtin "object.__setattr__"))
theorem Cls.get {K:W.Frag}{C:Addr}(c:Cls K C)(f:Str):W.plainGet K C f=true:=c.pg
section
variable {X:Cx}{pins:List (Addr×Obj)}{σ:St}{H:Hp}{s:aa}{a C dx:Addr}{fs:List (Str×V)}{f:Str}{v:V}{A:ce}{E:Value->aa->Prop}
theorem Inv.made (I:Inv X pins σ H s):Inv X pins σ (upd (upd H s.heap.objs.size (.own (s.heap.objs.size+1))) (s.heap.objs.size+1) (.ins C s.heap.objs.size []))
  {s with heap:=(s.heap.push W.emptyDict).push (W.instObj C s.heap.objs.size)}:=by
 have e1:(s.heap.push W.emptyDict).get? s.heap.objs.size=some W.emptyDict:=bp s.heap rfl
 have e2:((s.heap.push W.emptyDict).push (W.instObj C s.heap.objs.size)).get? (s.heap.objs.size+1)=some (W.instObj C s.heap.objs.size):=by
  have:=bp (s.heap.push W.emptyDict) (o:=W.instObj C s.heap.objs.size) rfl
  rwa [Heap.size_push]at this
 have e3:(s.heap.push W.emptyDict).Ns s.heap.objs.size (fun _=>none):=⟨W.emptyDict,#[],_,e1,rfl,(fun e he=>absurd he (by simp)),fun _=>rfl⟩;have I1:=I.laid (a:=s.heap.objs.size) (o:=.own (s.heap.objs.size+1)) (h':=s.heap.push W.emptyDict) (t':=s.toks) (fun b u q=>am _ q) (ae _) ⟨_,e1⟩;refine I1.laid (a:=s.heap.objs.size+1) (o:=.ins C s.heap.objs.size []) (t':=s.toks) (fun b u q=>am _ q) (Nat.le_of_eq (Heap.size_push _ _)) ?_;have ne:s.heap.objs.size≠s.heap.objs.size+1:=b9 (j7 _);refine⟨by rw[z06 ne,z0e],df _,ne,e2,fun _=>none,(Heap.Ns1.of_empty e3).at fun o q=>am _ q,fun _=>True.intro,fun y hy=>absurd rfl hy⟩
end
section
variable {X:Cx}{o e value:Expr}{f:Str}{pos pos' tpos:Pos}{ta tv:TE}
end
section
variable {X:Cx}{pins:List (Addr×Obj)}{σ:St}{H:Hp}{s:aa}{A:ce}{E:Value->aa->Prop}{Q:Value->aa->Prop}{c:Value}{b:Bool}
inductive TyOf (K:W.Frag)(H:Hp):V->Value->Prop where
 |non:TyOf K H .non (.type "NoneType")
 |bl (x:Bool):TyOf K H (.bl x) (.type "bool")
 |int (i:Int):TyOf K H (.int i) (.type "int")
 |str (x:Str):TyOf K H (.str x) (.type "str")
 |flt (x:UInt64):TyOf K H (.flt x) (.type "float")
 |lst {a:Addr} {xs:List V} (e:H a=some (.lst xs)):TyOf K H (.ref a) (.type "list")
 |frz {a:Addr} {o:Obj} {xs:List V} (e:H a=some (.frz o (.lst xs))):TyOf K H (.ref a) (.type "list")
 |tup {a:Addr} {xs:List V} (e:H a=some (.tup xs)):TyOf K H (.ref a) (.type "tuple")
 |dK {a:Addr} {kvs:List (Key×V)} (e:H a=some (.dK kvs)):TyOf K H (.ref a) (.type "dict")
 |dT {a:Addr} {kvs:List (List Key×V)} (e:H a=some (.dT kvs)):TyOf K H (.ref a) (.type "dict")
 |ins {a C dx:Addr} {fs:List (Str×V)} (e:H a=some (.ins C dx fs)) (cl:Cls K C) (ha:W.findIn K (.ref C) "__class__"=some (some (.builtin "object.__class__")))
  (hn:W.specialIn K (.builtin "object.__class__") "__get__"=some (some (.builtin "getset_descriptor.__get__"))) (htk:W.takesIn K (.builtin "object.__class__")=some true)
  (hm:W.mroIn K C (.type "object")=some true):TyOf K H (.ref a) (.ref C)
theorem z1r {x:V}{u t:Value}(I:Inv X pins σ H s)(rx:RelV x u)(ty:TyOf X.K H x t)(e:W.kitOne X.K t c=some b)(h:∀tk,Q (.bool b) {s with toks:=tk}):
  wpAny (model X.prog X.w) A (call (.builtin "isinstance") [u,c]) Q E s:=by
 cases ty with
 |non=>cases(show u=Value.none from rx);exact W.kia_one W.kitx_none I.kIn True.intro e (fun z=>nomatch z) h
 |bl y=>cases(show u=Value.bool y from rx);exact W.kia_one W.kitx_bool I.kIn True.intro e (fun z=>nomatch z) h
 |int i=>obtain⟨t,q⟩:=(show ∃t,u=Value.int i t from rx);cases q;exact W.kia_one W.kitx_int I.kIn True.intro e (fun z=>nomatch z) h
 |str y=>obtain⟨t,q⟩:=(show ∃t,u=Value.str y t from rx);cases q;exact W.kia_one W.kitx_str I.kIn True.intro e (fun z=>nomatch z) h
 |flt y=>obtain⟨t,q⟩:=(show ∃t,u=Value.float y t from rx);cases q;exact W.kia_one W.kitx_float I.kIn True.intro e (fun z=>nomatch z) h
 | @lst a xs ea=>cases(show u=Value.ref a from rx);obtain⟨_,_,n,_,h1⟩:=(show z0u X.prog X.w H s.heap a (.lst xs)from I.hok a _ ea);exact W.kia_one W.kitx_list I.kIn ⟨_,h1,rfl⟩ e (fun z=>nomatch z) h
 | @frz a ob xs ea=>cases(show u=Value.ref a from rx);obtain⟨_,_,_,n,_,h1⟩:=(show z0u X.prog X.w H s.heap a (.frz ob (.lst xs))from I.hok a _ ea);exact W.kia_one W.kitx_list I.kIn ⟨_,h1,rfl⟩ e (fun z=>nomatch z) h
 | @tup a xs ea=>cases(show u=Value.ref a from rx);obtain⟨_,_,_,p⟩:=(show z0u X.prog X.w H s.heap a (.tup xs)from I.hok a _ ea);obtain⟨o,h1,h2,_⟩:=p.tup;exact W.kia_one W.kitx_tuple I.kIn ⟨o,h1,h2⟩ e (fun z=>nomatch z) h
 | @dK a kvs ea=>cases(show u=Value.ref a from rx);obtain⟨_,_,vs,_,p⟩:=(show z0u X.prog X.w H s.heap a (.dK kvs)from I.hok a _ ea);obtain⟨o,es,ep,h1,h2,_⟩:=p;exact W.kia_one W.kitx_dict I.kIn ⟨o,h1,h2.1⟩ e (fun z=>nomatch z) h
 | @dT a kvs ea=>cases(show u=Value.ref a from rx);obtain⟨_,_,xs,_,o,es,ep,h1,h2,_⟩:=(show z0u X.prog X.w H s.heap a (.dT kvs)from I.hok a _ ea);exact W.kia_one W.kitx_dict I.kIn ⟨o,h1,h2.1⟩ e (fun z=>nomatch z) h
 | @ins a C dx fs ea cl ha hn htk hm=>cases(show u=Value.ref a from rx);obtain⟨mA,O,_⟩:=zd3 I.hok ea;obtain⟨od,J,_⟩:=O.look;exact W.kia_one (W.kitx_own (cl.get _) cl.hd ha hn htk hm) I.kIn J e (fun z=>nomatch z) h
end
structure Room (k:Nat)(A:ce):Prop where
 hd:A.handled=none
 dp:A.depth+3*k+5<recursionLimit
 un:A.units+16*k+200<cLine
theorem Room.mono {j k:Nat}{A:ce}(r:Room k A)(h:j<=k):Room j A:=⟨r.hd,by have:=r.dp;omega,by have:=r.un;omega⟩
theorem Room.deeper {k:Nat}{A:ce}(r:Room (k+1) A)(env:Env):Room k (A.deeper env):=⟨r.hd,by have:=r.dp;show A.depth+1+3*k+5<_;omega,by have:=r.un;show A.units+3+16*k+200<_;omega⟩
theorem Room.in1 {k:Nat}{A:ce}(r:Room (k+1) A):Room k A.in1:=⟨r.hd,by have:=r.dp;show A.depth+3*k+5<_;omega,by have:=r.un;show A.units+1+16*k+200<_;omega⟩
theorem Room.depth {k:Nat}{A:ce}(r:Room k A):A.depth<recursionLimit:=by have:=r.dp;omega
theorem Room.units {k:Nat}{A:ce}(r:Room k A):A.units+64<cLine:=by have:=r.un;omega
def tNil:TA:=fun _ H Q=>Q [] H
def zdh (ta:TE)(tr:TA):TA:=fun σ H Q=>ta σ H fun x H1=>tr σ H1 fun xs H2=>Q (x::xs) H2
section
variable {X:Cx}{e:Expr}{es:List Expr}{te:TE}{t:TA}{pos:Pos}
theorem z39:PA X [] tNil:=fun _ _ _ _ H Q I h=>Calls.spliced_nil ⟨[],H,I,.nil,h⟩
theorem z8h (ha:PE X e te)(hr:PA X es t)(hs:cu (e::es) X.env=(false,eval e X.env)::cu es X.env:=by rfl):PA X (e::es) (zdh te t):=by intro pos pins s σ H Q I h;rw[hs];show wpAny _ _ (spliced ((false,eval e X.env)::i3 pos (cu es X.env))) _ _ s;refine jm (thn (ha pins s σ H _ I h) fun u s1 ⟨x,H1,I1,r1,q1⟩=>?_);exact thn (hr pos pins s1 σ H1 _ I1 q1) fun us s2 ⟨xs,H2,I2,r2,q2⟩=>⟨x::xs,H2,I2,.cons r1 r2,q2⟩
def tTup (t:TA):TE:=fun σ H Q=>t σ H fun xs H1=>xs.length<=aq/\∀p,H1 p=none->Q (.ref p) (upd H1 p (.tup xs))
def tLst (t:TA):TE:=fun σ H Q=>t σ H fun xs H1=>xs.length<=aq/\∀p,H1 p=none->Q (.ref p) (upd H1 p (.lst xs))
theorem zck {x1}(h:PA X es t):PE X (.Tuple es x1 pos) (tTup t):=by intro pins s σ H Q I hq;refine wpAny_Tuple_spliced (thn (h pos pins s σ H _ I hq) fun us s1 ⟨xs,H1,I1,r,z,q⟩=>⟨by rw[<-r.length];exact z,?_⟩);have hf:H1 s1.heap.objs.size=none:=I1.hok.fresh (ae _);refine⟨.ref s1.heap.objs.size,upd H1 s1.heap.objs.size (.tup xs),I1.laid (t':=s1.toks) (fun b u e=>am _ e) (ae _) ?_,rfl,q _ hf⟩;exact⟨z,us,r,⟨_,bp _ rfl⟩⟩
theorem zgp (h:PA X es t):PE X (.List es pos) (tLst t):=by intro pins s σ H Q I hq;refine wpAny_List_spliced (thn (h pos pins s σ H _ I hq) fun us s1 ⟨xs,H1,I1,r,z,q⟩=>⟨by rw[<-r.length];exact z,?_⟩);have hf:H1 s1.heap.objs.size=none:=I1.hok.fresh (ae _);refine⟨.ref s1.heap.objs.size,upd H1 s1.heap.objs.size (.lst xs),I1.laid (t':=s1.toks) (fun b u e=>am _ e) (ae _) ?_,rfl,q _ hf⟩;exact⟨z,us,0,r,bp _ rfl⟩
end
abbrev Sp:=List V->Hp->VK->XK->Prop
abbrev CXT:=List Env->Hp->aa->XK->Value->aa->Prop
structure Env0 (P:ao)(w:World)(K:W.Frag)(mg:Str->Option Value)(base:Heap)(A:ce)(outer:List Env)(s:aa)(H:Hp):Prop where
 frames:A.frames=some outer
 mod:Mod K mg base
 bs:∀b o,base.get? b=some o->s.heap.get? b=some o/\H b=none
 bsz:base.objs.size<=s.heap.objs.size
 funs:s.heap.FunFrames base outer
 frf:∀b∈frs outer,H b=none
 hok:HOk P w H s.heap
 bare:jh s.gens
def CE (outer:List Env)(P:ao)(w:World)(H:Hp)(s:aa)(Q:VK)(u:Value)(s':aa):Prop:=∃v H',s'.os=s.os/\jh s'.gens/\Un (frs outer) [] H H' s.heap s'.heap/\HOk P w H' s'.heap/\RelV v u/\Q v H'
def CR (CX:CXT)(outer:List Env)(P:ao)(w:World)(H:Hp)(s:aa)(Q:VK)(E:XK)(r:Result)(s':aa):Prop:=
 match r with
 |.ok (.ret u)=>CE outer P w H s Q u s'
 |.ok _=>False
 |.error e=>CX outer H s E e s'
structure FnOk (P:ao)(w:World)(K:W.Frag)(mg:Str->Option Value)(base:Heap)(CX:CXT)(k:Nat)(f:Addr)(fd:cz)(ps:List Str)(sp:Sp):Prop where
 len:∀vs H Q E,sp vs H Q E->vs.length=ps.length
 run:∀(A:ce) (outer:List Env) (s:aa) (H:Hp) (args:Args) (us:List Value) (vs:List V) (Q:VK) (E:XK),Room k A->Env0 P w K mg base A outer s H->lj s fd args (ps.zip us)->Vals vs us->sp vs H Q E->ll (model P w) A (.call (.ref f) args) (CR CX outer P w H s Q E) s
theorem FnOk.mono {P:ao}{w:World}{K:W.Frag}{mg:Str->Option Value}{base:Heap}{CX:CXT}{j k:Nat}{f:Addr}{fd:cz}{ps:List Str}{sp:Sp}(F:FnOk P w K mg base CX j f fd ps sp)(h:j<=k): FnOk P w K mg base CX k f fd ps sp:=⟨F.len,fun A outer s H args us vs Q E hr=>F.run A outer s H args us vs Q E (hr.mono h)⟩
theorem FnOk.imp {P:ao}{w:World}{K:W.Frag}{mg:Str->Option Value}{base:Heap}{CX:CXT}{k:Nat}{f:Addr}{fd:cz}{ps:List Str}{sp sp':Sp}(F:FnOk P w K mg base CX k f fd ps sp)
  (h:∀vs H Q E,sp' vs H Q E->sp vs H Q E):FnOk P w K mg base CX k f fd ps sp':=
 ⟨fun vs H Q E q=>F.len vs H Q E (h _ _ _ _ q),fun A outer s H args us vs Q E hr he hb hv hs=>F.run A outer s H args us vs Q E hr he hb hv (h _ _ _ _ hs)⟩
theorem Env0.in1 {P:ao}{w:World}{K:W.Frag}{mg:Str->Option Value}{base:Heap}{A:ce}{outer:List Env}{s:aa}{H:Hp}(e:Env0 P w K mg base A outer s H): Env0 P w K mg base A.in1 outer s H:=⟨e.frames,e.mod,e.bs,e.bsz,e.funs,e.frf,e.hok,e.bare⟩
section
variable {X:Cx}{pins:List (Addr×Obj)}{σ:St}{H:Hp}{s s':aa}
theorem Inv.env0 (I:Inv X pins σ H s):Env0 X.prog X.w X.K X.mg X.base X.A X.stack s H:=⟨I.ok.frames,I.ok.mod,I.bs,bq I.ok.bsz I.sz,I.stack,I.stkFree,I.hok,I.bare⟩
theorem Inv.after {Q:VK}{u:Value}(I:Inv X pins σ H s)(h:CE X.stack X.prog X.w H s Q u s'):EP X pins σ Q u s':=by obtain⟨v,H',os,bare,un,hok,r,q⟩:=h;obtain⟨hh,g,d,t,os'⟩:=s';obtain rfl:os'=s.os:=os;exact⟨v,H',I.call (h':=hh) (g':=g) (d':=d) (t':=t) (ch:=[]) un hok bare (fun b z=>absurd z (by simp)),r,q⟩
end
def zg7 (sp:Sp)(dvs:List V)(E:XK)(t:TA):TE:=fun σ H Q=>t σ H fun vs H1=>sp (vs++dvs) H1 Q E
def Binds (K:W.Frag)(fd:cz)(ps:List Str)(ds:List Value):Prop:=∀(s:aa) (us:List Value),K.In s.heap->(us++ds).length=ps.length->lj s fd ⟨us,[]⟩ (ps.zip (us++ds))
theorem Binds.all {K:W.Frag}{fd:cz}{ps:List Str}(h:∀us:List Value,us.length=ps.length->nh fd ⟨us,[]⟩=pure (ps.zip us)):Binds K fd ps []:=fun s us _ hl=>by rw[dg]at hl ⊢;exact .of_eq (h us hl)
def z7g (CX:CXT)(X:Cx)(E:XK):Prop:=∀(pins:List (Addr×Obj)) (σ:St) (H:Hp) (s:aa) (e:Value) (s':aa),Inv X pins σ H s->CX X.stack H s E e s'->X.xe e s'
section
variable {X:Cx}{CX:CXT}{k:Nat}{f C:Addr}{fd:cz}{ps:List Str}{sp:Sp}{dvs:List V}{ds:List Value}{E:XK}{x m:Str}{p pos apos:Pos}{e o:Expr}{es:List Expr}{ta:TE}{t:TA}
theorem zgw {pins:List (Addr×Obj)}{σ:St}{H:Hp}{s:aa}{Q:VK}{us:List Value}{vs:List V}(F:FnOk X.prog X.w X.K X.mg X.base CX k f fd ps sp)(hr:Room k X.A)(hb:Binds X.K fd ps ds)(hd:Vals dvs ds)(hx:z7g CX X E)
  (I:Inv X pins σ H s) (r:Vals vs us) (h:sp (vs++dvs) H Q E):wpAny (model X.prog X.w) X.A (call (.ref f) us) (EP X pins σ Q) X.xe s:=by
 have r2:Vals (vs++dvs) (us++ds):=r.append hd;have hl:(us++ds).length=ps.length:=by rw[<-r2.length];exact F.len _ _ _ _ h
 refine wpAny_call (ke (F.run X.A X.stack s H ⟨us,[]⟩ (us++ds) (vs++dvs) Q E hr I.env0 (hb s us I.kIn hl) r2 h) fun r s' hq=>?_);cases r with
 |error e=>exact hx pins σ H s e s' I hq
 |ok fl=>
  cases fl with
  |ret u=>exact I.after hq
  |next=>exact False.elim hq
  |brk=>exact False.elim hq
  |cont=>exact False.elim hq
theorem zdg (F:FnOk X.prog X.w X.K X.mg X.base CX k f fd ps sp)(hr:Room k X.A)(hg:Gl X x)(hm:X.mg x=some (.ref f))(hk:W.keepIn X.K (.ref f)=true)(hb:Binds X.K fd ps ds)(hd:Vals dvs ds)(hx:z7g CX X E)
  (ha:PA X (e::es) t) (hdb:(x==("__debug__":Str))=false:=by decide) (he:cu (e::es) X.env=(false,eval e X.env)::cu es X.env:=by rfl) (hpl:(i3 pos (cu es X.env)).any (·.1)=false:=by rfl):
  PE X (.Call (.Name x p) (e::es) [] pos) (zg7 sp dvs E t):=by
 intro pins s σ H Q I h;refine gf (z5c I hg hm ?_ hdb);refine W.callWith_K (h₀:=X.base) I.ok.mod.kin hk (thn (ha pos pins s σ H _ I h) fun us s1 ⟨vs,H1,I1,r,q⟩=>⟨I1.kIn,?_⟩) he hpl;exact zgw F hr hb hd hx I1 r q
structure Mk (K:W.Frag)(C f:Addr):Prop where
 makes:W.makesIn K C=true
 init:W.findIn K (.ref C) "__init__"=some (some (.ref f))
 fn:W.isFn K (.ref f)=true
 kp:W.keepIn K (.ref C)=true
end
def PK (X:Cx)(kws:List kh)(t:TA):Prop:=∀(pos:Pos) (pins:List (Addr×Obj)) (s:aa) (σ:St) (H:Hp) (Q:List V->Hp->Prop),Inv X pins σ H s->t σ H Q->wpAny (model X.prog X.w) X.A (evalAll ((backToKw pos (mx kws X.env)).map (·.2))) (AP X pins σ Q) X.xe s
section
variable {X:Cx}{CX:CXT}{k:Nat}{f C:Addr}{fd:cz}{ps ks:List Str}{sp:Sp}{E:XK}{x m:Str}{p pos apos kpos:Pos}{e o:Expr}{es:List Expr}{kws:List kh}{te ta:TE}{t tk:TA}{nm:Option Str}
variable {g:List Value->List Value->List Value}{gV:List V->List V->List V}
end
structure FnScope (N P:List Str)(sc:Scope):Prop where
 kind:sc.kind=.function
 co:sc.isCoroutine=false
 gen:sc.isGenerator=false
 nd:N.Nodup
 pre:N.take P.length=P
 par:∀x∈P,sc.names.lookup x=some .local\/sc.names.lookup x=some .cell
 nofree:∀y∈sc.names,y.2≠.free
theorem z4m {i6:Str->Option c9}{x:Str}:∀{binds:List (Str×Value)} {m:Str->Option Value},(∀v,(x,v)∉binds)->bindL i6 binds m x=m x
 | [],_,_=>rfl
 |(n,v)::r,m,h=>by
  unfold bindL;rw[z4m fun w hw=>h w (ak _ hw)];split
  ·have :x≠n:=by rintro rfl;exact h v af
   simp[this]
  ·rfl
theorem z4s {i6:Str->Option c9}{x:Str}:∀{binds:List (Str×Value)} {m:Str->Option Value},(∀v,(x,v)∉binds)->bindC i6 binds m x=m x
 | [],_,_=>rfl
 |(n,v)::r,m,h=>by
  unfold bindC;rw[z4s fun w hw=>h w (ak _ hw)];split
  ·rfl
  ·have :x≠n:=by rintro rfl;exact h v af
   simp[this]
theorem z44 {i6:Str->Option c9}{x:Str}{v:Value}:∀{P:List Str} {vs:List Value} {i:Nat} {m:Str->Option Value},P.Nodup->P[i]?=some x->vs[i]?=some v->i6 x=some .local->
  bindL i6 (P.zip vs) m x=some v
 | [],_,_,_,_,h,_,_=>by simp at h
 |_::_,[],_,_,_,_,h,_=>by simp at h
 |p::P,w::vs,0,m,nd,h1,h2,hk=>by simp at h1 h2;subst h1;subst h2;show bindL i6 ((p,w)::P.zip vs) m p=_;unfold bindL;rw[z4m fun v hv=>(eh.mp nd).1 (ky hv).1,if_pos hk];simp
 |p::P,w::vs,i+1,m,nd,h1,h2,hk=>by show bindL i6 ((p,w)::P.zip vs) m x=_;unfold bindL;exact z44 (i:=i) (eh.mp nd).2 (by simpa using h1) (by simpa using h2) hk
theorem z41 {i6:Str->Option c9}{x:Str}{v:Value}:∀{P:List Str} {vs:List Value} {i:Nat} {m:Str->Option Value},P.Nodup->P[i]?=some x->vs[i]?=some v->i6 x≠some .local->
  bindC i6 (P.zip vs) m x=some v
 | [],_,_,_,_,h,_,_=>by simp at h
 |_::_,[],_,_,_,_,h,_=>by simp at h
 |p::P,w::vs,0,m,nd,h1,h2,hk=>by simp at h1 h2;subst h1;subst h2;show bindC i6 ((p,w)::P.zip vs) m p=_;unfold bindC;rw[z4s fun v hv=>(eh.mp nd).1 (ky hv).1,if_neg hk];simp
 |p::P,w::vs,i+1,m,nd,h1,h2,hk=>by show bindC i6 ((p,w)::P.zip vs) m x=_;unfold bindC;exact z41 (i:=i) (eh.mp nd).2 (by simpa using h1) (by simpa using h2) hk
def start (N:List Str)(vs:List V):St:=vs.map some++ba (N.length-vs.length) none
def cxOf (CX:CXT)(P:ao)(w:World)(K:W.Frag)(mg:Str->Option Value)(base:Heap)(N:List Str)(qual:Str)(scope:Scope)(f:Addr)(cd:Value)(A:ce)(outer:List Env)(s:aa)(H:Hp)(E:XK):Cx where
 prog:=P
 w:=w
 K:=K
 mg:=mg
 base:=base
 A:=A.deeper (lg qual scope s.heap.objs.size f cd)
 N:=N
 s₀:=s
 H₀:=H
 env:=lg qual scope s.heap.objs.size f cd
 outer:=outer
 stack:=lg qual scope s.heap.objs.size f cd::outer
 ex:=[]
 calm:=true
 fn:=fun _=>true
 pn:=[]
 xe:=fun e s'=>wpAny (model P w) (A.deeper (lg qual scope s.heap.objs.size f cd)) (leaving (lg qual scope s.heap.objs.size f cd) e) (fun _ s''=>CX outer H s E e s'') (fun e' s''=>CX outer H s E e' s'') s'
theorem z6d {sc:Scope}{n:Nat}{x:Str}(h:sc.names.lookup x=some .cell):∃c,(cellsFrom n sc.names []).lookup x=some c:=by have q:=W.cellsFrom_some sc.names n [] (.inl h);exact Option.isSome_iff_exists.mp q
theorem z9f {CX:CXT}{P:ao}{w:World}{K:W.Frag}{mg:Str->Option Value}{base:Heap}{N ps:List Str}{qual:Str}{scope:Scope}{f:Addr}{cd:Value}{A:ce}{outer:List Env}{s s1:aa}{H:Hp}{E:XK}{us:List Value}{vs:List V}
  (S:FnScope N ps scope) (hd:A.handled=none) (e0:Env0 P w K mg base A outer s H) (hl:vs.length=ps.length) (r:Vals vs us)
  (x:InCallC s s.heap.objs.size (bindL (lg qual scope s.heap.objs.size f cd).kindOf (ps.zip us) fun _=>none) (cellsFrom (s.heap.objs.size+1) scope.names []) (bindC (lg qual scope s.heap.objs.size f cd).kindOf (ps.zip us) fun _=>none) s1):
  Inv (cxOf CX P w K mg base N qual scope f cd A outer s H E) [] (start N vs) H s1:=by
 have hpl:ps.length<=N.length:=by have:=congrArg f9 S.pre;rw[cx]at this;omega
 obtain⟨h1,tk,rfl,hk⟩:=x.done;have noA:∀b:Addr,b∉(cxOf CX P w K mg base N qual scope f cd A outer s H E).ex:=fun b z=>absurd (show b∈([]:List Addr)from z) (by simp);refine⟨⟨e0.mod,S.kind,rfl,rfl,ae _,fun y z c h1 h2=>?_,fun y hy=>?_,fun y c _ h=>?_,fun _=>hd,Around.frames_deeper e0.frames,.inr ⟨rfl,rfl⟩,fun b z=>absurd z (noA b),e0.bs,e0.bsz,fun b _ _=>noA b,fun b z=>absurd z (noA b),e0.funs,e0.frf,fun _ _ z=>by cases z⟩,rfl,e0.bare,Un.kept hk,⟨_,x.toInCall.ns,fun i y v h1 h2 h3=>?_⟩,fun y c h=>⟨_,x.cell y c h⟩,e0.hok.fresh (ae _),fun y c h=>?_,fun p hp=>absurd (show p∈([]:List (Addr×Obj))from hp) (by simp),e0.hok.kept hk,?_,fun _ _ z=>by cases z⟩
 ·exact name_of_addr x.apart (PySem.mem_of_lookup h1) (PySem.mem_of_lookup h2)
 ·have hy:scope.names.lookup y=some .cell\/scope.names.lookup y=some .free:=hy;rcases hy with hy|hy
  ·exact z6d hy
  ·exact absurd rfl (S.nofree _ (PySem.mem_of_lookup hy))
 ·exact l9 (x.above y c (PySem.mem_of_lookup h))
 ·have hi:i<vs.length:=by
   unfold start at h2;by_cases hi:i<vs.length
   ·exact hi
   ·rw[da (by simpa using hi)]at h2;rw[c0]at h2;split at h2<;>cases h2
  have ha:vs[i]?=some v:=by
   unfold start at h2;rw[dw (by simpa using hi),bc]at h2;cases e:vs[i]? with
   |none=>rw[e]at h2;cases h2
   |some a=>rw[e]at h2;cases h2;rfl
  obtain⟨u,hu,rv⟩:=r.get ha;have hp:ps[i]?=some y:=by rw[<-S.pre,List.getElem?_take_of_lt (by omega)];exact h1
  have ndP:ps.Nodup:=by rw[<-S.pre];exact S.nd.sublist (List.take_sublist _ _)
  refine⟨u,rv,?_⟩;rcases S.par y (b8 hp)with k|k
  ·exact .inl ⟨k,z44 ndP hp hu k⟩
  ·obtain⟨c,e⟩:=z6d (n:=s.heap.objs.size+1) k;refine .inr ⟨.inl k,c,e,?_⟩;have q:=x.cell y c e;rw[z41 ndP hp hu (by show scope.names.lookup y≠_;rw[k];decide)]at q;exact q
 ·exact e0.hok.fresh (l9 (x.above y c (PySem.mem_of_lookup h)))
 ·unfold start;show _=N.length;rw[ac,ag,bz];omega
theorem zdk {CX:CXT}{P:ao}{w:World}{K:W.Frag}{mg:Str->Option Value}{base:Heap}{k:Nat}{f:Addr}{name qual:Str}{params:Arguments}{body:List Stmt}{scope:Scope}{dV kV doc pm cdv ct oc:Value}{an od:Option Addr}
  {osl:Array (Option Value)} {N ps:List Str} {sp:Sp} (lk:K.lookup f=some ⟨oc,od,.func (W.fnOf name qual params body scope dV kV doc pm an cdv ct),osl⟩) (hcd:W.codeIn K cdv qual=true) (S:FnScope N ps scope)
  (len:∀vs H Q E,sp vs H Q E->vs.length=ps.length)
  (hbody:∀(A:ce) (outer:List Env) (s:aa) (H:Hp) (vs:List V) (Q:VK) (E:XK),Room k (A.deeper (lg qual scope s.heap.objs.size f cdv))->sp vs H Q E->∃t,PSs (cxOf CX P w K mg base N qual scope f cdv A outer s H E) body t/\t {nx:=fun _ H'=>Q .non H',rt:=Q} (start N vs) H):
  FnOk P w K mg base CX (k+1) f (W.fnOf name qual params body scope dV kV doc pm an cdv ct) ps sp:=by
 refine⟨len,fun A outer s H args us vs Q E hr e0 hb r hsp=>?_⟩;have hl:=len _ _ _ _ hsp;have KX:K.In s.heap:=e0.mod.kin.keeps fun b o e=>(e0.bs b o e).1;have lim:s.heap.NoLimit:=e0.mod.nolimit.keeps fun b o e=>(e0.bs b o e).1
 have hkind:∀y∈ps.zip us,scope.names.lookup y.1=some .local\/(scope.names.lookup y.1=some .cell/\((cellsFrom (s.heap.objs.size+1) scope.names []).lookup y.1).isSome=true):=fun⟨n,v⟩ hy=>by
  rcases S.par n (ky hy).1 with q|q
  ·exact .inl q
  ·exact .inr ⟨q,W.cellsFrom_some _ _ _ (.inl q)⟩
 refine codeAny_call_function hr.depth (KX _ _ lk) rfl S.co S.gen rfl (W.codeRec_of KX hcd) (hb _ _ _ _ ?_);refine wpAny_newFunctionEnv_cells S.kind hkind fun env he s1 x=>?_;subst he;refine⟨lim.keeps x.toInCall.keep,codeAny_func ?_⟩;obtain⟨t,ht,hq⟩:=hbody A outer s H vs Q E (hr.deeper _) hsp;have I:Inv (cxOf CX P w K mg base N qual scope f cdv A outer s H E) [] (start N vs) H s1:=z9f S hr.hd e0 hl r x;refine gc (ht [] s1 (start N vs) H _ I hq) (fun fl s' hs=>?_) fun e s' hs=>hs;have fin:∀{σ':St} {H':Hp} {v:V} {u:Value},Inv (cxOf CX P w K mg base N qual scope f cdv A outer s H E) [] σ' H' s'->RelV v u->Q v H'->CE outer P w H s Q u s':=fun{σ' H' v u} J rv q=>⟨v,H',J.os,J.bare,J.base,J.hok,rv,q⟩;cases fl with
 |ret u=>obtain⟨v,σ',H',J,rv,q⟩:=hs;exact fin J rv q
 |next=>obtain⟨σ',H',J,q⟩:=hs;exact fin (v:=V.non) (u:=Value.none) J rfl q
 |brk=>obtain⟨_,_,_,q⟩:=hs;exact False.elim q
 |cont=>obtain⟨_,_,_,q⟩:=hs;exact False.elim q
section
variable {X:Cx}{x:Str}{p pos:Pos}{e:Expr}{es:List Expr}{t:TA}{id T:String}{r:List V->Hp->VK->Prop}
def tCB (r:List V->Hp->VK->Prop)(t:TA):TE:=fun σ H Q=>t σ H fun vs H1=>r vs H1 Q
theorem za7 (hc:CallR X (.builtin id) r)(hg:Gl X x)(hm:X.mg x=none)(hv:ck x=some (.builtin id))(ha:PA X (e::es) t)(hn:x≠"__name__":=by decide)(hdb:(x==("__debug__":Str))=false:=by decide)
  (he:cu (e::es) X.env=(false,eval e X.env)::cu es X.env:=by rfl) (hpl:(i3 pos (cu es X.env)).any (·.1)=false:=by rfl):PE X (.Call (.Name x p) (e::es) [] pos) (tCB r t):=by
 intro pins s σ H Q I h;refine gf (z31 I hg hm hv ?_ hn hdb);exact PyProof.Rows.callWith_builtin1 (thn (ha pos pins s σ H _ I h) fun us s1 ⟨vs,H1,I1,r1,q1⟩=>hc pins s1 σ H1 vs us Q I1 r1 q1) he hpl
theorem z9l (hc:CallR X (.type T) r)(hg:Gl X x)(hm:X.mg x=none)(hv:ck x=some (.type T))(ha:PA X (e::es) t)(hn:x≠"__name__":=by decide)(hdb:(x==("__debug__":Str))=false:=by decide)
  (he:cu (e::es) X.env=(false,eval e X.env)::cu es X.env:=by rfl) (hpl:(i3 pos (cu es X.env)).any (·.1)=false:=by rfl):PE X (.Call (.Name x p) (e::es) [] pos) (tCB r t):=by
 intro pins s σ H Q I h;refine gf (z31 I hg hm hv ?_ hn hdb);exact PyProof.Rows.callWith_type1 (thn (ha pos pins s σ H _ I h) fun us s1 ⟨vs,H1,I1,r1,q1⟩=>hc pins s1 σ H1 vs us Q I1 r1 q1) he hpl
end
section
variable {κ:Type} [DecidableEq κ]
def valV (kvs:List (κ×V))(k:κ):Option V:=(kvs.find? fun kv=>decide (kv.1=k)).map (·.2)
def putK (kvs:List (κ×V))(k:κ)(v:V):List (κ×V):=if(kvs.any fun kv=>decide (kv.1=k))=true then kvs.map (fun kv=>if kv.1=k then(kv.1,v)else kv)else kvs++[(k,v)]
def zfy (kvs:List (κ×V))(k:κ):List (κ×V):=kvs.filter fun kv=>decide (kv.1≠k)
theorem z2l {p:κ×V}{r:List (κ×V)}{k:κ}(e:p.1=k):valV (p::r) k=some p.2:=by simp[valV,eo,e]
theorem z2m {p:κ×V}{r:List (κ×V)}{k:κ}(e:¬p.1=k):valV (p::r) k=valV r k:=by simp[valV,eo,e]
theorem z5u (k:κ):∀kvs:List (κ×V),(kvs.any fun kv=>decide (kv.1=k))=(valV kvs k).isSome
 | []=>rfl
 |p::r=>by
  rw[gi];by_cases e:p.1=k
  ·simp only[z2l e,nz e,Bool.true_or,Option.isSome_some]
  ·rw[z2m e,n5 e,Bool.false_or];exact z5u k r
theorem z1x (kvs:List (κ×V))(k:κ)(v:V):(putK kvs k v).length<=kvs.length+1:=by
 unfold putK;split
 ·rw[ag];omega
 ·rw[ac,aj,eu];omega
theorem RelO.isSome_eq {o:Option V}{u:Option Value}(r:RelO o u):o.isSome=u.isSome:=by
 cases o with
 |none=>cases u with
  |none=>rfl
  |some _=>exact(show False from r).elim
 |some _=>cases u with
  |none=>exact(show False from r).elim
  |some _=>rfl
theorem RelO.getD {o:Option V}{u:Option Value}{d:V}{d':Value}(r:RelO o u)(rd:RelV d d'):RelV (o.getD d) (u.getD d'):=by
 cases o with
 |none=>cases u with
  |none=>exact rd
  |some _=>exact(show False from r).elim
 |some _=>cases u with
  |none=>exact(show False from r).elim
  |some _=>exact r
theorem KV.val {kvs:List (κ×V)}{vs:List (κ×Value)}(r:KV kvs vs)(k:κ):RelO (valV kvs k) (lm vs k):=by
 unfold KV at r
 induction r with
 |nil=>exact True.intro
 | @cons p q ps qs h t ih=>
  obtain⟨h1,h2⟩:=h;by_cases e:p.1=k
  ·have e':q.1=k:=h1.symm.trans e;have b:lm (q::qs) k=some q.2:=by simp[lm,eo,e']
   rw[z2l e,b];exact h2
  ·have e':¬q.1=k:=fun z=>e (h1.trans z);have b:lm (q::qs) k=lm qs k:=by simp[lm,eo,e']
   rw[z2m e,b];exact ih
theorem KV.any {kvs:List (κ×V)}{vs:List (κ×Value)}(r:KV kvs vs)(k:κ):(kvs.any fun kv=>decide (kv.1=k))=vs.any fun kv=>decide (kv.1=k):=by
 unfold KV at r
 induction r with
 |nil=>rfl
 |cons h t ih=>rw[gi,gi,ih,h.1]
theorem KV.repl {kvs:List (κ×V)}{vs:List (κ×Value)}(r:KV kvs vs)(k:κ){y:V}{u:Value}(ry:RelV y u):
  KV (kvs.map fun kv=>if kv.1=k then(kv.1,y)else kv) (vs.map fun kv=>if kv.1=k then(kv.1,u)else kv):=by
 unfold KV at r ⊢
 induction r with
 |nil=>exact .nil
 | @cons p q ps qs h t ih=>
  rw[az,az];refine .cons ?_ ih;obtain⟨h1,h2⟩:=h;by_cases e:p.1=k
  ·rw[if_pos e,if_pos (h1.symm.trans e)];exact⟨h1,ry⟩
  ·rw[if_neg e,if_neg (fun z=>e (h1.trans z))];exact⟨h1,h2⟩
theorem KV.put {kvs:List (κ×V)}{vs:List (κ×Value)}(r:KV kvs vs)(k:κ){y:V}{u:Value}(ry:RelV y u):KV (putK kvs k y) (stored vs k u):=by
 unfold putK stored;rw[r.any k];by_cases e:(vs.any fun kv=>decide (kv.1=k))=true
 ·rw[if_pos e,if_pos e];exact r.repl k ry
 ·rw[if_neg e,if_neg e];exact Paired.snoc r ⟨rfl,ry⟩
theorem KV.drop {kvs:List (κ×V)}{vs:List (κ×Value)}(r:KV kvs vs)(k:κ):KV (zfy kvs k) (without vs k):=by
 unfold KV at r ⊢;unfold zfy without
 induction r with
 |nil=>exact .nil
 | @cons p q ps qs h t ih=>
  obtain⟨h1,h2⟩:=h;rw[List.filter_cons,List.filter_cons];by_cases e:p.1=k
  ·have a:¬decide (p.1≠k)=true:=by simp[e]
   have b:¬decide (q.1≠k)=true:=by simp[h1.symm.trans e]
   rw[if_neg a,if_neg b];exact ih
  ·have e':¬q.1=k:=fun z=>e (h1.trans z);have a:decide (p.1≠k)=true:=by simp[e]
   have b:decide (q.1≠k)=true:=by simp[e']
   rw[if_pos a,if_pos b];exact .cons ⟨h1,h2⟩ ih
theorem KV.keys {kvs:List (κ×V)}{vs:List (κ×Value)}(r:KV kvs vs):kvs.map (·.1)=vs.map (·.1):=by
 unfold KV at r
 induction r with
 |nil=>rfl
 |cons h t ih=>rw[az,az,ih,h.1]
theorem KV.length {kvs:List (κ×V)}{vs:List (κ×Value)}(r:KV kvs vs):kvs.length=vs.length:=Paired.length r
end
theorem z6r {P:ao}{w:World}{k:Key}{u:Value}(r:RelV (kV k) u):(z0n P w).is k u=true:=by
 cases k with
 |inl i=>obtain⟨t,e⟩:=(show ∃t,u=Value.int i t from r);subst e;exact z5e P w i t
 |inr x=>obtain⟨t,e⟩:=(show ∃t,u=Value.str x t from r);subst e;exact z5o P w x t
theorem z49 {P:ao}{w:World}:∀{ks:List Key} {us:List Value},Vals (ks.map kV) us->ItemsAre (z0n P w) ks us
 | [],_,r=>by rw[ki]at r;cases r;exact .nil
 |k::ks,_,r=>by
  rw[az]at r;cases r with
  |cons h t=>exact .cons (z6r h) (z49 t)
abbrev KT (H:Hp):List (List Key×V)->List (List Key×Addr×Value)->Prop:=gv fun p q=>p.1=q.1/\H q.2.1=some (.tup (p.1.map kV))/\RelV p.2 q.2.2
theorem KT.val {H:Hp}{kvs:List (List Key×V)}{xs:List (List Key×Addr×Value)}(r:KT H kvs xs)(k:List Key):RelO (valV kvs k) ((atKey xs k).map (·.2)):=by
 induction r with
 |nil=>exact True.intro
 | @cons p q ps qs h t ih=>
  obtain⟨h1,_,h2⟩:=h;by_cases e:p.1=k
  ·have e':q.1=k:=h1.symm.trans e;have b:atKey (q::qs) k=some q.2:=by simp[atKey,eo,e']
   rw[z2l e,b];exact h2
  ·have e':¬q.1=k:=fun z=>e (h1.trans z);have b:atKey (q::qs) k=atKey qs k:=by simp[atKey,eo,e']
   rw[z2m e,b];exact ih
theorem KT.repl {H:Hp}{kvs:List (List Key×V)}{xs:List (List Key×Addr×Value)}(r:KT H kvs xs)(k:List Key){y:V}{u:Value}(ry:RelV y u):
  KT H (kvs.map fun kv=>if kv.1=k then(kv.1,y)else kv) (xs.map (putAt k u)):=by
 induction r with
 |nil=>exact .nil
 | @cons p q ps qs h t ih=>
  rw[az,az];refine .cons ?_ ih;obtain⟨h1,h2,h3⟩:=h;unfold putAt;by_cases e:p.1=k
  ·rw[if_pos e,if_pos (h1.symm.trans e)];exact⟨h1,h2,ry⟩
  ·rw[if_neg e,if_neg (fun z=>e (h1.trans z))];exact⟨h1,h2,h3⟩
theorem KT.put {H:Hp}{kvs:List (List Key×V)}{xs:List (List Key×Addr×Value)}(r:KT H kvs xs)(k:List Key){b:Addr}{y:V}{u:Value}(hb:H b=some (.tup (k.map kV)))(ry:RelV y u):
  KT H (putK kvs k y) (storedH xs k b u):=by
 have e:(kvs.any fun kv=>decide (kv.1=k))=(atKey xs k).isSome:=by rw[z5u,(r.val k).isSome_eq,jt]
 unfold putK storedH;rw[e];by_cases q:(atKey xs k).isSome=true
 ·rw[if_pos q,if_pos q];exact r.repl k ry
 ·rw[if_neg q,if_neg q];exact Paired.snoc r ⟨rfl,hb,ry⟩
theorem KT.keeps {H H':Hp}{kvs:List (List Key×V)}{xs:List (List Key×Addr×Value)}(r:KT H kvs xs)(ht:∀b ys,H b=some (.tup ys)->H' b=some (.tup ys)):KT H' kvs xs:=Paired.mapP r fun _ _ z=>⟨z.1,ht _ _ z.2.1,z.2.2⟩
section
variable {P:ao}{w:World}{H:Hp}{h:Heap}{a:Addr}
theorem zg0 {u:HO}(ok:HOk P w H h)(e:Rd H a u):z0u P w H h a u:=e.ok ok
theorem z6w {kvs:List (Key×V)}(ok:HOk P w H h)(e:Rd H a (.dK kvs)):kvs.length<=aq/\(a==gb)=false/\∃vs,KV kvs vs/\h.DictOf (z0n P w) a vs:=show z0u P w H h a (.dK kvs)from zg0 ok e
theorem zeb {kvs:List (Key×V)}(ok:HOk P w H h)(e:H a=some (.dK kvs)):kvs.length<=aq/\(a==gb)=false/\∃vs,KV kvs vs/\h.DictOf (z0n P w) a vs:=z6w ok (.inl e)
theorem z4t {ks:List Key}(ok:HOk P w H h)(e:H a=some (.tup (ks.map kV))):(li (z0n P w)).is h ks a:=by obtain⟨_,its,r,n,h1⟩:=(show z0u P w H h a (.tup (ks.map kV))from ok a _ e);exact⟨_,its.toArray,n,h1,rfl,rfl,by simpa using z49 r⟩
theorem z84 {kvs:List (List Key×V)}(ok:HOk P w H h)(e:Rd H a (.dT kvs)):kvs.length<=aq/\(a==gb)=false/\
  ∃xs,KT H kvs xs/\h.DictOfH (li (z0n P w)) a xs:=by
 obtain⟨z,y,xs,r,o,es,ep,h1,h2,h3,h4,h5⟩:=(show z0u P w H h a (.dT kvs)from zg0 ok e);refine⟨z,y,xs,r,o,es,ep,h1,h2,h3,h4,fun x hx=>?_,h5⟩
 have all:∀{l:List (List Key×V)} {m:List (List Key×Addr×Value)},KT H l m->∀x∈m,(li (z0n P w)).is h x.1 x.2.1:=by
  intro l m q
  induction q with
  |nil=>intro x hx;exact nomatch hx
  | @cons p q ps qs hq t ih=>
   intro x hx;rcases a8.mp hx with e|hx
   ·subst e;exact z4t ok (by rw[<-hq.1];exact hq.2.1)
   ·exact ih x hx
 exact all r x hx
theorem zj9 {kvs:List (List Key×V)}(ok:HOk P w H h)(e:H a=some (.dT kvs)):kvs.length<=aq/\(a==gb)=false/\∃xs,KT H kvs xs/\h.DictOfH (li (z0n P w)) a xs:=z84 ok (.inl e)
end
def DGet (H:Hp)(a:Addr)(y:V)(r:Option V):Prop:=(∃kvs k,Rd H a (.dK kvs)/\y=kV k/\r=valV kvs k)\/∃kvs k b,Rd H a (.dT kvs)/\y=.ref b/\H b=some (.tup (k.map kV))/\r=valV kvs k
def DPut (H:Hp)(a:Addr)(y v:V)(H':Hp):Prop:=
 (∃kvs k,H a=some (.dK kvs)/\y=kV k/\kvs.length<aq/\H'=upd H a (.dK (putK kvs k v)))\/
 ∃kvs k b,H a=some (.dT kvs)/\y=.ref b/\H b=some (.tup (k.map kV))/\kvs.length<aq/\H'=upd H a (.dT (putK kvs k v))
theorem DGet.k {H:Hp}{a:Addr}{kvs:List (Key×V)}{k:Key}(e:H a=some (.dK kvs)):DGet H a (kV k) (valV kvs k):=.inl ⟨kvs,k,.inl e,rfl,rfl⟩
theorem DGet.t {H:Hp}{a b:Addr}{kvs:List (List Key×V)}{k:List Key}(e:H a=some (.dT kvs))(eb:H b=some (.tup (k.map kV))):DGet H a (.ref b) (valV kvs k):=.inr ⟨kvs,k,b,.inl e,rfl,eb,rfl⟩
theorem DPut.k {H:Hp}{a:Addr}{kvs:List (Key×V)}{k:Key}{v:V}(e:H a=some (.dK kvs))(hl:kvs.length<aq):DPut H a (kV k) v (upd H a (.dK (putK kvs k v))):=.inl ⟨kvs,k,e,rfl,hl,rfl⟩
theorem DPut.t {H:Hp}{a b:Addr}{kvs:List (List Key×V)}{k:List Key}{v:V}(e:H a=some (.dT kvs))(eb:H b=some (.tup (k.map kV)))(hl:kvs.length<aq): DPut H a (.ref b) v (upd H a (.dT (putK kvs k v))):=.inr ⟨kvs,k,b,e,rfl,eb,hl,rfl⟩
section
variable {X:Cx}{pins:List (Addr×Obj)}{σ:St}{H:Hp}{s:aa}{a:Addr}{y v:V}{u r:Value}{o:Option V}{A:ce}{E:Value->aa->Prop}
theorem Inv.big (I:Inv X pins σ H s):gb<s.heap.objs.size:=by have h:bj<s.heap.objs.size:=(I.mod.glob.keeps I.bk).lt;exact ji (by decide) h
theorem z8n {Q:Value->aa->Prop}(hu:A.units+1<cLine)(I:Inv X pins σ H s)(g:DGet H a y (some v))(ry:RelV y u)(h:∀w' s',Inv X pins σ H s'->RelV v w'->Q w' s'):
  wpAny (model X.prog X.w) A (me (.ref a) u) Q E s:=by
 rcases g with⟨kvs,k,e,ey,l⟩|⟨kvs,k,b,e,ey,eb,l⟩
 ·subst ey;obtain⟨z,hd,vs,rel,dd⟩:=z6w I.hok e;obtain⟨w',hw,rw'⟩:=RelO.some_of (v:=v) (o:=lm vs k) (by rw[l];exact rel.val k);exact wpAny_getItem_of (z6r ry) dd.mapOf hw (h w' _ (I.tok _) rw')
 ·subst ey;cases(show u=Value.ref b from ry);obtain⟨z,hd,xs,rel,dd⟩:=z84 I.hok e;obtain⟨w',hw,rw'⟩:=RelO.some_of (v:=v) (o:=(atKey xs k).map (·.2)) (by rw[l];exact rel.val k);obtain⟨p,hp,hp2⟩:=cv.mp hw;refine wpAny_getItem_heap (ij hu) (z4t I.hok eb) dd hp ?_;rw[hp2];exact h w' _ (I.tok _) rw'
theorem d_in {Q:Value->aa->Prop}(hu:A.units+1<cLine)(I:Inv X pins σ H s)(g:DGet H a y o)(ry:RelV y u)(h:∀s',Inv X pins σ H s'->Q (.bool o.isSome) s'):
  wpAny (model X.prog X.w) A (bw .In u (.ref a)) Q E s:=by
 rcases g with⟨kvs,k,e,ey,l⟩|⟨kvs,k,b,e,ey,eb,l⟩
 ·subst ey;obtain⟨z,hd,vs,rel,dd⟩:=z6w I.hok e;refine wpAny_in_of (z6r ry) hd dd.mapOf ?_;rw[<-(rel.val k).isSome_eq,<-l];exact h _ (I.tok _)
 ·subst ey;cases(show u=Value.ref b from ry);obtain⟨z,hd,xs,rel,dd⟩:=z84 I.hok e;refine wpAny_in_heap (ij hu) (z4t I.hok eb) hd dd ?_;have q:=(rel.val k).isSome_eq;rw[jt]at q;rw[<-q,<-l];exact h _ (I.tok _)
theorem zez {Q:Value->aa->Prop}(hu:A.units+1<cLine)(I:Inv X pins σ H s)(g:DGet H a y o)(ry:RelV y u)(h:∀s',Inv X pins σ H s'->Q (.bool (!o.isSome)) s'):
  wpAny (model X.prog X.w) A (bw .NotIn u (.ref a)) Q E s:=by
 rcases g with⟨kvs,k,e,ey,l⟩|⟨kvs,k,b,e,ey,eb,l⟩
 ·subst ey;obtain⟨z,hd,vs,rel,dd⟩:=z6w I.hok e;refine wpAny_notIn_of (z6r ry) hd dd.mapOf ?_;rw[<-(rel.val k).isSome_eq,<-l];exact h _ (I.tok _)
 ·subst ey;cases(show u=Value.ref b from ry);obtain⟨z,hd,xs,rel,dd⟩:=z84 I.hok e;refine wpAny_notIn_heap (ij hu) (z4t I.hok eb) hd dd ?_;have q:=(rel.val k).isSome_eq;rw[jt]at q;rw[<-q,<-l];exact h _ (I.tok _)
theorem z5m {h':Heap}{t':Nat}{ob:HO}(I:Inv X pins σ H s)(mu:Mut (H a))(hs:ez a s.heap h')(he:∃q,h'.get? a=some q)(new:z0u X.prog X.w (upd H a ob) h' a ob):
  Inv X pins σ (upd H a ob) {s with heap:=h',toks:=t'}:=
 I.write (x:=a) (e:=a) mu (.inl rfl) (fun b q hb z=>(hs.2 b hb).trans z) he new
theorem zc1 {P:ao}{w:World}{H':Hp}{h':Heap}{kvs:List (Key×V)}{vs:List (Key×Value)}(z:kvs.length<=aq)(hd:(a==gb)=false)(rel:KV kvs vs)(dd:h'.DictOf (z0n P w) a vs): z0u P w H' h' a (.dK kvs):=⟨z,hd,vs,rel,dd⟩
theorem z8i {H':Hp}{Q:Unit->aa->Prop}(hu:A.units+1<cLine)(I:Inv X pins σ H s)(g:DPut H a y v H')(ry:RelV y u)(rv:RelV v r)(h:∀s',Inv X pins σ H' s'->Q () s'):
  wpAny (model X.prog X.w) A (setItem (.ref a) u r) Q E s:=by
 rcases g with⟨kvs,k,e,ey,l,eH⟩|⟨kvs,k,b,e,ey,eb,l,eH⟩
 ·subst ey eH;obtain⟨z,hd,vs,rel,dd⟩:=zeb I.hok e;have hz:vs.length<=aq:=by rw[<-rel.length];exact z
  have hl:(putK kvs k v).length<=aq:=by have:=z1x kvs k v;omega
  refine wpAny_setItem_pairs (hsz:=hz) (z6r ry) dd fun h' dd' hs=>h _ ?_;have he:∃q,h'.get? a=some q:=let⟨q,_,_,hq,_⟩:=dd';⟨q,hq⟩;exact z5m I (by rw[e];exact True.intro) hs he (zc1 hl hd (rel.put k rv) dd')
 ·subst ey eH;cases(show u=Value.ref b from ry);obtain⟨z,hd,xs,rel,dd⟩:=zj9 I.hok e;have hz:xs.length<=aq:=by rw[<-Paired.length rel];exact z
  have hl:(putK kvs k v).length<=aq:=by have:=z1x kvs k v;omega
  refine wpAny_setItem_heap (hsz:=hz) (ij hu) (z4t I.hok eb) dd fun h' dd' hs=>h _ ?_;obtain⟨q,es,ep,hq,h2,h3,h4,_,h5⟩:=dd';refine z5m I (by rw[e];exact True.intro) hs ⟨q,hq⟩ ⟨hl,hd,_,(rel.put k eb rv).keeps fun c ys ec=>?_,q,es,ep,hq,h2,h3,h4,h5⟩;rw[z06 (zk3 ec e (fun z=>nomatch z))];exact ec
end
section
variable {X:Cx}{pins:List (Addr×Obj)}{σ:St}{H:Hp}{s:aa}{a:Addr}{kvs:List (Key×V)}{k:Key}{u:Value}{A:ce}{E:Value->aa->Prop}
theorem zlb {Q:Value->aa->Prop}(I:Inv X pins σ H s)(e:Rd H a (.dK kvs))(h:∀t s',Inv X pins σ H s'->Q (.int kvs.length t) s'):wpAny (model X.prog X.w) A (call (.builtin "len") [.ref a]) Q E s:=by obtain⟨z,hd,vs,rel,dd⟩:=z6w I.hok e;refine call_len_dict hd dd (by rw[<-rel.length];rw[fg]at z;omega) ?_;rw[<-rel.length];exact h _ _ (I.tok _)
end
theorem z5n {X:Cx}{pins:List (Addr×Obj)}{σ:St}{H:Hp}{s:aa}{a:Addr}{y:V}{o:Option V}(I:Inv X pins σ H s)(g:DGet H a y o):s.TypeIs (.ref a) "dict":=by
 rcases g with⟨kvs,k,e,_,_⟩|⟨kvs,k,b,e,_,_,_⟩
 ·obtain⟨_,_,vs,_,dd⟩:=z6w I.hok e;exact dd.typeIs
 ·obtain⟨_,_,xs,_,dd⟩:=z84 I.hok e;exact dd.typeIs
section
variable {X:Cx}{o i e value:Expr}{pos pos' tpos:Pos}{td ty tv:TE}
end
theorem zad {P:ao}{w:World}{H:Hp}(h:Heap)(hb:gb<h.objs.size):z0u P w H (h.push {cls:=.type "dict",data:=.dict #[]}) h.objs.size (.dK []):=⟨df _,beq_eq_false_iff_ne.mpr (Ne.symm (b9 hb)),[],.nil,Heap.DictOf.new h⟩
section
variable {X:Cx}{pos:Pos}
end
def z9j:List (TE×TE)->St->Hp->(List (V×V)->Hp->Prop)->Prop
 | [],_,H,Q=>Q [] H
 |(tk,tv)::r,σ,H,Q=>tk σ H fun x H1=>tv σ H1 fun y H2=>z9j r σ H2 fun ps H3=>Q ((x,y)::ps) H3
abbrev VV:List (V×V)->List (Value×Value)->Prop:=gv fun p q=>RelV p.1 q.1/\RelV p.2 q.2
def PPs (X:Cx)(pos:Pos)(keys:List (Option Expr))(values:List Expr)(trs:List (TE×TE)):Prop:=∀(pins:List (Addr×Obj)) (s:aa) (σ:St) (H:Hp) (Q:List (V×V)->Hp->Prop),Inv X pins σ H s->z9j trs σ H Q->wpAny (model X.prog X.w) X.A (evalPairs (pairTrees keys values X.env pos)) (fun vs s'=>∃ps H',Inv X pins σ H' s'/\VV ps vs/\Q ps H') X.xe s
theorem zed {X:Cx}{pos:Pos}:PPs X pos [] [] []:=fun pins s σ H Q I h=>pairTrees_nil_walk ⟨[],H,I,.nil,h⟩
theorem z9o {X:Cx}{pos:Pos}{k v:Expr}{ks:List (Option Expr)}{vs:List Expr}{tk tv:TE}{trs:List (TE×TE)}(hk:PE X k tk)(hv:PE X v tv)(hr:PPs X pos ks vs trs):
  PPs X pos (some k::ks) (v::vs) ((tk,tv)::trs):=fun pins s σ H Q I h=>
 pairTrees_cons_walk (thn (hk pins s σ H _ I h) fun u s1 ⟨x,H1,I1,rx,q1⟩=>thn (hv pins s1 σ H1 _ I1 q1) fun w2 s2 ⟨y,H2,I2,ry,q2⟩=>thn (hr pins s2 σ H2 _ I2 q2) fun ws s3 ⟨ps,H3,I3,rel,q3⟩=>⟨(x,y)::ps,H3,I3,.cons ⟨rx,ry⟩ rel,q3⟩)
def z4a (kvs more:List (Key×V)):List (Key×V):=more.foldl (fun acc kv=>putK acc kv.1 kv.2) kvs
theorem KV.merge:∀{more:List (Key×V)} {rs:List (Key×Value)} {kvs:List (Key×V)} {vs:List (Key×Value)},KV more rs->KV kvs vs->KV (z4a kvs more) (merged vs rs):=by
 intro more rs kvs vs r;unfold KV at r
 induction r generalizing kvs vs with
 |nil=>intro q;exact q
 | @cons p q ps qs h t ih=>
  intro r0;have e:KV (putK kvs p.1 p.2) (stored vs q.1 q.2):=by have:=r0.put p.1 h.2;rw[<-h.1];exact this
  exact ih e
theorem z22:∀(more kvs:List (Key×V)),(z4a kvs more).length<=kvs.length+more.length
 | [],kvs=>by show kvs.length<=kvs.length+0;omega
 |p::r,kvs=>by have h1:=z22 r (putK kvs p.1 p.2);have h2:=z1x kvs p.1 p.2;show(z4a (putK kvs p.1 p.2) r).length<=_;rw[aj];omega
theorem z33 {P:ao}{w:World}:∀{kvs:List (Key×V)} {ws:List (Value×Value)},VV (kvs.map fun kv=>(kV kv.1,kv.2)) ws->∃rs,Carries (z0n P w) ws rs/\KV kvs rs
 | [],_,r=>by rw[ki]at r;cases r;exact⟨[],True.intro,.nil⟩
 |p::kvs,_,r=>by
  rw[az]at r;cases r with
  | @cons a b as bs h t=>obtain⟨rs,c,q⟩:=z33 (P:=P) (w:=w) t;obtain⟨b1,b2⟩:=b;exact⟨(p.1,b2)::rs,⟨z6r h.1,rfl,c⟩,.cons ⟨rfl,h.2⟩ q⟩
def zlj (trs:List (TE×TE)):TE:=fun σ H Q=>∀p,H p=none->z9j trs σ (upd H p (.dK [])) fun ps H2=>H2 p=some (.dK [])/\∃kvs:List (Key×V),ps=kvs.map (fun kv=>(kV kv.1,kv.2))/\kvs.length<=15/\Q (.ref p) (upd H2 p (.dK (z4a [] kvs)))
theorem ze7 {X:Cx}{pos:Pos}{keys:List (Option Expr)}{values:List Expr}{trs:List (TE×TE)}(h:PPs X pos keys values trs)(hall:keys.all (·.isSome)=true)(hl:keys.length=values.length)(h0:keys≠[])
  (h15:keys.length<=15):PE X (.Dict keys values pos) (zlj trs):=by
 intro pins s σ H Q I q;have hn:=I.hok.fresh (ae s.heap.objs.size);have I1:=I.laid (a:=s.heap.objs.size) (o:=.dK []) (h':=s.heap.push {cls:=.type "dict",data:=.dict #[]}) (t':=s.toks) (fun _ _ q=>am _ q) (ae _) (zad s.heap I.big);refine wpAny_Dict_walk (knd:=z0n X.prog X.w) hall hl h0 h15 (thn (h pins _ σ _ _ I1 (q _ hn)) fun ws s2 ⟨ps,H2,I2,rel,e,kvs,ep,lk,q2⟩=>?_);subst ep;obtain⟨rs,c,rk⟩:=z33 (P:=X.prog) (w:=X.w) rel;obtain⟨z,hd,vs0,r0,dd⟩:=zeb I2.hok e;cases r0;refine⟨rs,c,dd,fun h' dd' hs=>⟨.ref s.heap.objs.size,_,?_,rfl,q2⟩⟩;have hz:(z4a [] kvs).length<=aq:=by have h1:=z22 kvs [];rw[eu]at h1;rw[fg];omega
 have he:∃q,h'.get? s.heap.objs.size=some q:=let⟨q,_,_,hq,_⟩:=dd';⟨q,hq⟩;exact z5m I2 (by rw[e];exact True.intro) hs he (zc1 hz hd (rk.merge .nil) dd')
section
variable {X:Cx}{pins:List (Addr×Obj)}{σ:St}{H:Hp}{s:aa}{a:Addr}{y d:V}{u r:Value}{o:Option V}{A:ce}{E:Value->aa->Prop}
end
section
variable {X:Cx}{o e f:Expr}{apos cpos:Pos}{td ty tx:TE}
end
section
variable {X:Cx}{pins:List (Addr×Obj)}{σ:St}{H:Hp}{s:aa}{a:Addr}{kvs:List (Key×V)}{A:ce}{E:Value->aa->Prop}
end
section
variable {X:Cx}{pins:List (Addr×Obj)}{σ:St}{H:Hp}{s:aa}{a:Addr}{y:V}{u:Value}{A:ce}{E:Value->aa->Prop}
end
end L2
namespace HT
open PySem PyProof.Rows
section
open PySem.SeqAt
open PySem.AutoSeq1 (wpAny_loadPart')
open PySem.MeetsSeq PySem.MeetsSeq2 PySem.MeetsSeq3
end
section
variable {prog:ao}{w:World}{A:ce}{E:Value->aa->Prop}{s:aa}
theorem cat_tup {t b:Addr}{vs ws:List Value}{Q:Value->aa->Prop}(ht:IsTup s.heap t vs.toArray)(hb:IsTup s.heap b ws.toArray)(hv:vs≠[])
  (h1:ws=[]->Q (.ref t) s) (h2:ws≠[]->Q (.ref s.heap.objs.size) {s with heap:=s.heap.push {cls:=.type "tuple",data:=.seq (vs++ws).toArray}})
  (hsz:vs.length+ws.length<=aq):wpAny (model prog w) A (dr .Add (.ref t) (.ref b)) Q E s:=by
 obtain⟨⟨cls,dd,data,sl⟩,ho,hc,n,hd⟩:=id ht;obtain⟨⟨cls2,dd2,data2,sl2⟩,ho2,hc2,n2,hd2⟩:=id hb;simp only at hc hd hc2 hd2;subst hc hd hc2 hd2;have e:vs.toArray++ws.toArray=(vs++ws).toArray:=by simp
 by_cases hw:ws=[]
 ·exact kj ⟨_,ho,rfl⟩ ⟨_,ho2,rfl⟩ j8 ly PySem.F.slot_tuple_add PySem.F.entry_tuple_add (PySem.F.args_tuple_add_2 _ _) (tuple_addW1 t b vs.toArray ws.toArray n n2 dd dd2 sl sl2 (by simpa using hv) (by simp[hw])) ⟨ho,ho2,h1 hw⟩
 ·refine kj ⟨_,ho,rfl⟩ ⟨_,ho2,rfl⟩ j8 ly PySem.F.slot_tuple_add PySem.F.entry_tuple_add (PySem.F.args_tuple_add_2 _ _)
   (tuple_addW2 t b vs.toArray ws.toArray n n2 dd dd2 sl sl2 (by simpa using hv) (by simpa using hw) (by rw[ai,ai];exact hsz)) ⟨ho,ho2,?_⟩
  rw[e];exact h2 hw
def sIx (n d:Nat):Option Int->Nat
 |none=>d
 |some v=>if v<0 then(v+(n:Int)).toNat else min v.toNat n
theorem sIx_le (n d:Nat)(hd:d<=n)(o:Option Int):sIx n d o<=n:=by
 cases o with
 |none=>exact hd
 |some v=>
  show(if v<0 then(v+(n:Int)).toNat else min v.toNat n)<=n;by_cases hv:v<0
  ·rw[if_pos hv];omega
  ·rw[if_neg hv];exact Nat.min_le_right _ _
theorem z7n (v:Int)(n d:Nat):(if v<0 then max (v+(n:Int)) 0 else min v (n:Int))=((sIx n d (some v):Nat):Int):=by
 show(if v<0 then max (v+(n:Int)) 0 else min v (n:Int))=(((if v<0 then(v+(n:Int)).toNat else min v.toNat n):Nat):Int);by_cases hv:v<0
 ·simp only[if_pos hv];omega
 ·simp only[if_neg hv];omega
theorem z6y (lo hi:Option Int)(n:Nat):gu lo hi 1 (n:Int)=(((sIx n 0 lo:Nat):Int),((sIx n n hi:Nat):Int)):=by
 have h1:¬((1:Int)<0):=by omega
 unfold gu;simp only[h1,if_false];refine Prod.ext ?_ ?_
 ·cases lo with
  |none=>rfl
  |some v=>exact z7n v n 0
 ·cases hi with
  |none=>rfl
  |some v=>exact z7n v n n
theorem z77 (i j:Nat):dz (i:Int) (j:Int) 1=j-i:=by
 unfold dz;have h1:(1:Int)>0:=by omega
 simp only[h1,if_true,Int.ediv_one];split<;>omega
theorem z35 {v:Value}{o:Option Int}{Q:Option Int->aa->Prop}(p:l6 v o)(h:Q o s):wpAny (model prog w) A (Builtin.Slice.slicePartIndex v) Q E s:=by
 cases p with
 |none=>exact slicePart_none h
 |int i t=>exact slicePart_int h
theorem z2g {sl:Addr}{vl vu:Value}{lo hi:Option Int}{n:Nat}{Q:Int×Int×Nat->aa->Prop}(hs:s.heap.IsSliceOf sl vl vu .none)(pl:l6 vl lo)(pu:l6 vu hi)
  (h:Q (((sIx n 0 lo:Nat):Int),1,sIx n n hi-sIx n 0 lo) s):wpAny (model prog w) A (jn (.ref sl) (pure (n:Int))) Q E s:=by
 obtain⟨os,hos,hcs,hds⟩:=id hs;unfold jn Builtin.Slice.sliceFields;refine ay (ay (ik hos hds (x:=vl) rfl (ay (ik hos hds (x:=vu) rfl (ay (ik hos hds (x:=.none) rfl (bv ?_)))))));refine ay (slicePart_none ?_);show wpAny _ _ (if((1:Int)==0)=true then _ else _) _ _ s;rw[if_neg (by decide)];refine ay (z35 pl (ay (z35 pu (ay (bv ?_)))));show wpAny _ _ (match gu lo hi 1 (n:Int)with|(lo,hi)=>pure (lo,(1:Int),dz lo hi 1)) _ _ s;rw[z6y lo hi n];show wpAny _ _ (pure (((sIx n 0 lo:Nat):Int),(1:Int),dz ((sIx n 0 lo:Nat):Int) ((sIx n n hi:Nat):Int) 1)) _ _ s;rw[z77];exact bv h
theorem zaf (xs:Array Value)(i k:Nat):((cb k).filterMap fun(m:Nat)=>xs[((i:Int)+(m:Int)*1).toNat]?).toArray=((xs.toList.drop i).take k).toArray:=by
 have e:(fun(m:Nat)=>xs[((i:Int)+(m:Int)*1).toNat]?)=fun m=>xs[i+m]?:=by
  funext m
  have:((i:Int)+(m:Int)*1).toNat=i+m:=by omega
  rw[this]
 rw[e];have:=pick_run xs i k;rw[List.filterMap_map]at this;have e2:((fun x=>xs[x]?)∘fun x=>i+x)=fun m=>xs[i+m]?:=rfl;rw[e2]at this;rw[this]
theorem getItem_tuple_cut {t sl:Addr}{items:Array Value}{vl vu:Value}{lo hi:Option Int}{Q:Value->aa->Prop}(ht:IsTup s.heap t items)(hs:s.heap.IsSliceOf sl vl vu .none)(pl:l6 vl lo)(pu:l6 vu hi)
  (hw:¬(sIx items.size 0 lo=0/\sIx items.size items.size hi=items.size))
  (h:Q (.ref s.heap.objs.size) {s with heap:=s.heap.push {cls:=.type "tuple",data:=.seq ((items.toList.drop (sIx items.size 0 lo)).take (sIx items.size items.size hi-sIx items.size 0 lo)).toArray}})
  (hsz:items.size<=aq):wpAny (model prog w) A (me (.ref t) (.ref sl)) Q E s:=by
 have htake:sizeOk (.seq ((items.toList.drop (sIx items.size 0 lo)).take (sIx items.size items.size hi-sIx items.size 0 lo)).toArray):=by show((items.toList.drop (sIx items.size 0 lo)).take (sIx items.size items.size hi-sIx items.size 0 lo)).toArray.size<=aq;rw[ai,cx,c6,cw];omega
 have hj:sIx items.size items.size hi<=items.size:=sIx_le _ _ (ae _) hi;obtain⟨os,hos,hcs,hds⟩:=id hs;have hTs:s.TypeIs (.ref sl) "slice":=⟨os,hos,hcs⟩;unfold me
 try with_reducible refine wpAny_holding ?_
 first|refine ay (bv ?_)|skip
 refine ay (wpAny_sequenceKey ht.typeIs (by decide) ?_);refine ay (im (name:=Str.ofString "__getitem__") ht.typeIs PyProof.Rows.slot_tuple_getitem (j9 PyProof.Rows.slot_tuple_getitem ht.typeIs entry_tuple_getitem ?_ (args_tuple_getitem _ _)));show wpAny _ _ (Builtin.Tuple.tupleItemsOf (.ref t)>>=_) _ _ s;refine ay (tupleItemsOf_ ht ?_);refine ay (wpAny_typeOf hTs ?_);rw[if_pos (by decide)];refine ay (z2g hs pl pu ?_);have hno:¬((((sIx items.size 0 lo:Nat):Int)==0&&(1:Int)==1&&(sIx items.size items.size hi-sIx items.size 0 lo)==items.size)=true):=by intro q;rw[aw,aw]at q;have q1:((sIx items.size 0 lo:Nat):Int)=0:=eq_of_beq q.1.1;have q2:sIx items.size items.size hi-sIx items.size 0 lo=items.size:=eq_of_beq q.2;exact hw ⟨by omega,by omega⟩
 show wpAny _ _ (if(((sIx items.size 0 lo:Nat):Int)==0&&(1:Int)==1&&(sIx items.size items.size hi-sIx items.size 0 lo)==items.size)=true then _ else _) _ _ s;rw[if_neg hno,zaf]
 first
  |exact ay (m:=fu _) (gk (bv ⟨_,rfl,bv h⟩) htake)
  |exact ay (m:=fu _) (gk (ay (bv (bv ⟨_,rfl,bv h⟩))) htake)
  |exact ay (ay (m:=fu _) (gk (bv (bv ⟨_,rfl,bv h⟩)) htake))
  |exact ay (ay (m:=fu _) (gk (bv ⟨_,rfl,bv h⟩) htake))
end
end HT
namespace L2
open PySem PySem.Spec PyProof.Rows
abbrev TO:=St->Hp->(Option Int->Hp->Prop)->Prop
def PO (X:Cx)(e:Option Expr)(t:TO):Prop:=∀(pins:List (Addr×Obj)) (s:aa) (σ:St) (H:Hp) (Q:Option Int->Hp->Prop),Inv X pins σ H s->t σ H Q->wpAny (model X.prog X.w) X.A (evalPart e X.env) (fun u s'=>∃o H',Inv X pins σ H' s'/\l6 u o/\Q o H') X.xe s
def zcy:TO:=fun _ H Q=>Q none H
def zkm (t:TE):TO:=fun σ H Q=>t σ H fun x H1=>∃i,x=.int i/\Q (some i) H1
section
variable {X:Cx}{e:Expr}{te:TE}{lo hi:Option Expr}{tl th:TO}{pos p2:Pos}
theorem ze6:PO X none zcy:=by intro pins s σ H Q I h;rw[evalPart_none];exact bv ⟨none,H,I,.none,h⟩
theorem zfe (h:PE X e te):PO X (some e) (zkm te):=by intro pins s σ H Q I hw;rw[evalPart_some];refine thn (h pins s σ H _ I hw) fun u s1 ⟨x,H1,I1,r1,q1⟩=>?_;obtain⟨i,rfl,q⟩:=q1;obtain⟨t,rfl⟩:=r1;exact⟨some i,H1,I1,.int i t,q⟩
def SlR (X:Cx)(r:V->Option Int->Option Int->Hp->VK->Prop):Prop:=∀(pins:List (Addr×Obj)) (s:aa) (σ:St) (H:Hp) (x:V) (v vl vu:Value) (lo hi:Option Int) (sl:Addr) (Q:VK),Inv X pins σ H s->RelV x v->s.heap.IsSliceOf sl vl vu .none->l6 vl lo->l6 vu hi->r x lo hi H Q->∃T id,typeLookup (.type T) "__getitem__"=pure (some (.builtin id))/\s.TypeIs v T/\wpAny (model X.prog X.w) X.A (me v (.ref sl)) (EP X pins σ Q) X.xe s
theorem SlR.or {r r':V->Option Int->Option Int->Hp->VK->Prop}(h:SlR X r)(h':SlR X r'):SlR X (fun x lo hi H Q=>r x lo hi H Q\/r' x lo hi H Q):=by
 intro pins s σ H x v vl vu lo hi sl Q I rx hs pl pu q;rcases q with q|q
 ·exact h pins s σ H x v vl vu lo hi sl Q I rx hs pl pu q
 ·exact h' pins s σ H x v vl vu lo hi sl Q I rx hs pl pu q
def tSl (r:V->Option Int->Option Int->Hp->VK->Prop)(te:TE)(tl th:TO):TE:=fun σ H Q=>te σ H fun x H1=>tl σ H1 fun l H2=>th σ H2 fun u H3=>r x l u H3 Q
theorem zap {r:V->Option Int->Option Int->Hp->VK->Prop}(hr:SlR X r)(he:PE X e te)(hl:PO X lo tl)(hu:PO X hi th):PE X (.Subscript e (.Slice lo hi none p2) pos) (tSl r te tl th):=by intro pins s σ H Q I h;refine Subscript_ (thn (he pins s σ H _ I h) fun v s1 ⟨x,H1,I1,r1,q1⟩=>?_);refine wpAny_Slice (thn (hl pins s1 σ H1 _ I1 q1) fun vl s2 ⟨l,H2,I2,pl,q2⟩=>thn (hu pins s2 σ H2 _ I2 q2) fun vu s3 ⟨u,H3,I3,pu,q3⟩=>?_);rw[evalPart_none];refine bv ?_;have I4:Inv X pins σ H3 {s3 with heap:=s3.heap.push {cls:=.type "slice",data:=.fields #[vl,vu,.none]}}:=I3.kept (t':=s3.toks) fun b ob q=>am _ q;obtain⟨T,id,hT,ht,hg⟩:=hr pins {s3 with heap:=s3.heap.push {cls:=.type "slice",data:=.fields #[vl,vu,.none]}} σ H3 x v vl vu l u s3.heap.objs.size Q I4 r1 (Heap.IsSliceOf.new ..) pl pu q3;show wpAny (model X.prog X.w) X.A (subscriptTail e (.Slice lo hi none p2) v (.ref s3.heap.objs.size)) (EP X pins σ Q) X.xe {s3 with heap:=s3.heap.push {cls:=.type "slice",data:=.fields #[vl,vu,.none]}};exact tail_any (ops:=[.ref s3.heap.objs.size,v]) ht hT hg (by with_unfolding_all rfl)
def cutV (xs:List V)(lo hi:Option Int):List V:=(xs.drop (HT.sIx xs.length 0 lo)).take (HT.sIx xs.length xs.length hi-HT.sIx xs.length 0 lo)
theorem z2q (xs:List V)(lo hi:Option Int):(cutV xs lo hi).length<=xs.length:=by unfold cutV;rw[cx,c6];omega
def rSlT (K:W.Frag):V->Option Int->Option Int->Hp->VK->Prop:=fun x lo hi H Q=>∃a xs,x=.ref a/\SqT K H a xs/\¬(HT.sIx xs.length 0 lo=0/\HT.sIx xs.length xs.length hi=xs.length)/\∀p,H p=none->Q (.ref p) (upd H p (.tup (cutV xs lo hi)))
theorem ziq:SlR X (rSlT X.K):=by
 intro pins s σ H x v vl vu lo hi sl Q I rx hs pl pu h;obtain⟨a,xs,rfl,hx,hw,q⟩:=h;cases rx;obtain⟨its,r,ht,hz⟩:=I.tuple hx;have hlen:its.toArray.size=xs.length:=by rw[ai];exact r.length.symm
 refine⟨"tuple",_,PyProof.Rows.slot_tuple_getitem.lookup,ht.typeIs,?_⟩;refine HT.getItem_tuple_cut ht hs pl pu (by rw[hlen];exact hw) ?_ (by rw[hlen];exact hz);rw[hlen];refine⟨.ref s.heap.objs.size,_,I.laid (t':=s.toks) (o:=.tup (cutV xs lo hi)) (fun b ob q=>am _ q) (ae _) ?_,rfl,q _ (I.hok.fresh (ae _))⟩;exact⟨bq (z2q xs lo hi) hz,_,(r.drop (HT.sIx xs.length 0 lo)).take (HT.sIx xs.length xs.length hi-HT.sIx xs.length 0 lo),TupN.new _ _⟩
def zg8 (K:W.Frag):R2:=fun x y H Q=>∃a b xs ys,x=.ref a/\y=.ref b/\SqT K H a xs/\SqT K H b ys/\xs≠ []/\xs.length+ys.length<=aq/\(ys=[]->Q (.ref a) H)/\(ys≠[]->∀p,H p=none->Q (.ref p) (upd H p (.tup (xs++ys))))
theorem Vals.nil_iff {xs:List V}{us:List Value}(r:Vals xs us):us=[]↔xs=[]:=by
 cases r with
 |nil=>simp
 |cons _ _=>simp
theorem ze0:OpR X (dr .Add) (zg8 X.K):=by intro pins s σ H x y v u Q I rx ry h;obtain⟨a,b,xs,ys,rfl,rfl,ha,hb,hx,hz,q1,q2⟩:=h;cases rx;cases ry;obtain⟨its,r1,p1,_⟩:=I.tuple ha;obtain⟨its2,r2,p2,_⟩:=I.tuple hb;refine HT.cat_tup p1 p2 (fun z=>hx (r1.nil_iff.mp z)) (fun z=>⟨.ref a,H,I,rfl,q1 (r2.nil_iff.mp z)⟩) (fun z=>?_) (by rw[<-r1.length,<-r2.length];exact hz);refine⟨.ref s.heap.objs.size,_,I.laid (t':=s.toks) (o:=.tup (xs++ys)) (fun b ob q=>am _ q) (ae _) ?_,rfl,q2 (fun w=>z (r2.nil_iff.mpr w)) _ (I.hok.fresh (ae _))⟩;exact⟨by rw[ac];exact hz,_,r1.append r2,TupN.new _ _⟩
end
def ixN (n:Nat)(i:Int):Option Nat:=if 0<=i then(if i<n then some i.toNat else none)else if -(n:Int)<=i then some (i+n).toNat else none
def atI {α:Type}(xs:List α)(i:Int):Option α:=(ixN xs.length i).bind fun j=>xs[j]?
theorem z7w {n:Nat}{i:Int}{j:Nat}(h:ixN n i=some j):mw i n=some j/\j<n/\-(n:Int)<=i/\i<n:=by
 unfold ixN at h;by_cases h0:0<=i
 ·rw[if_pos h0]at h;by_cases h1:i<n
  ·rw[if_pos h1]at h;have e:i.toNat=j:=Option.some.inj h;exact⟨by rw[my h0 h1,e],by omega,by omega,h1⟩
  ·rw[if_neg h1]at h;cases h
 ·rw[if_neg h0]at h;by_cases h1:-(n:Int)<=i
  ·rw[if_pos h1]at h;have e:(i+n).toNat=j:=Option.some.inj h;exact⟨by rw[mf (by omega) h1,e],by omega,h1,by omega⟩
  ·rw[if_neg h1]at h;cases h
theorem z5k {α:Type}{xs:List α}{i:Int}{v:α}(h:atI xs i=some v):∃j,mw i xs.length=some j/\xs[j]?=some v/\j<xs.length/\-(xs.length:Int)<=i/\i<xs.length:=by
 unfold atI at h;cases e:ixN xs.length i with
 |none=>rw[e]at h;cases h
 |some j=>rw[e]at h;obtain⟨h1,h2,h3,h4⟩:=z7w e;exact⟨j,h1,h,h2,h3,h4⟩
def z7t (b:Expr):Prop:=∀o i,subscripted b false o i=operate [o,i] (me o i)
def IxR (X:Cx)(r:R2):Prop:=∀(value slice:Expr) (pins:List (Addr×Obj)) (s:aa) (σ:St) (H:Hp) (x y:V) (v u:Value) (Q:VK),Inv X pins σ H s->RelV x v->RelV y u->r x y H Q->subscripted slice false v u=operate [v,u] (me v u)->wpAny (model X.prog X.w) X.A (subscriptTail value slice v u) (EP X pins σ Q) X.xe s
def MtR (X:Cx)(id:String)(r:V->List V->Hp->VK->Prop):Prop:=∀(pins:List (Addr×Obj)) (s:aa) (σ:St) (H:Hp) (x:V) (xs:List V) (v:Value) (us:List Value) (Q:VK),Inv X pins σ H s->RelV x v->Vals xs us->r x xs H Q->wpAny (model X.prog X.w) X.A (call (.builtin id) (v::us)) (EP X pins σ Q) X.xe s
section
variable {X:Cx}{a b:Expr}{ta tb:TE}{pos:Pos}
theorem IxR.or {r r':R2}(h:IxR X r)(h':IxR X r'):IxR X (fun x y H Q=>r x y H Q\/r' x y H Q):=by
 intro value slice pins s σ H x y v u Q I rx ry q hs;rcases q with q|q
 ·exact h value slice pins s σ H x y v u Q I rx ry q hs
 ·exact h' value slice pins s σ H x y v u Q I rx ry q hs
theorem MtR.or {id:String}{r r':V->List V->Hp->VK->Prop}(h:MtR X id r)(h':MtR X id r'):MtR X id (fun x xs H Q=>r x xs H Q\/r' x xs H Q):=by
 intro pins s σ H x xs v us Q I rx rs q;rcases q with q|q
 ·exact h pins s σ H x xs v us Q I rx rs q
 ·exact h' pins s σ H x xs v us Q I rx rs q
theorem zll {r:R2}(hr:IxR X r)(ha:PE X a ta)(hb:PE X b tb)(hs:z7t b):PE X (.Subscript a b pos) (tOp r ta tb):=by intro pins s σ H Q I h;exact Subscript_ (binT ha hb I h fun v u s2 x y H2 I2 rx ry q=>hr a b pins s2 σ H2 x y v u Q I2 rx ry q (hs _ _))
def rIxL (K:W.Frag):R2:=fun x y H Q=>∃p xs i v,x=.ref p/\y=.int i/\SqL K H p xs/\atI xs i=some v/\Q v H
def rIxT (K:W.Frag):R2:=fun x y H Q=>∃p xs i v,x=.ref p/\y=.int i/\SqT K H p xs/\atI xs i=some v/\Q v H
def rIxS:R2:=fun x y H Q=>∃z i c,x=.str z/\y=.int i/\z.length<=aq/\atI z.cps.toList i=some c/\Q (.str ⟨#[c]⟩) H
theorem zf9:IxR X (rIxL X.K):=by
 intro value slice pins s σ H x y v u Q I rx ry h hs;obtain⟨p,xs,i,z,rfl,rfl,hq,he,q⟩:=h;cases rx;obtain⟨t,rfl⟩:=ry;obtain⟨its,r,pl,hz⟩:=I.list hq;obtain⟨j,h1,h2,h3,h4,h5⟩:=z5k he;obtain⟨w,ew,rw'⟩:=r.get h2;have hl:=r.length;have hn:=z2r;have fin:EP X pins σ Q w s:=⟨z,H,I,rw',q⟩;by_cases h0:0<=i
 ·have hj:i.toNat=j:=by
   rw[my h0 h5]at h1;exact Option.some.inj h1
  exact item_listR pl.isList h0 (by omega) (by rw[hj];simpa using ew) fin hs
 ·have hj:(i+(its.toArray.size:Int)).toNat=j:=by
   rw[mf (by omega) h4]at h1;rw[ai,<-hl];exact Option.some.inj h1
  exact km (x:=w) pl.isList.typeIs slot_list_getitem.lookup (wpAny_getItem_list_neg (Q:=fun r s'=>r=w/\EP X pins σ Q r s') pl.isList (by omega) (by rw[ai]<;>omega) (by omega) (by rw[hj];simpa using ew) ⟨rfl,fin⟩) hs
theorem zhk:IxR X (rIxT X.K):=by intro value slice pins s σ H x y v u Q I rx ry h hs;obtain⟨p,xs,i,z,rfl,rfl,hq,he,q⟩:=h;cases rx;obtain⟨t,rfl⟩:=ry;obtain⟨its,r,pl,hz⟩:=I.tuple hq;obtain⟨j,h1,h2,h3,h4,h5⟩:=z5k he;obtain⟨w,ew,rw'⟩:=r.get h2;have hl:=r.length;have hn:=z2r;have fin:EP X pins σ Q w s:=⟨z,H,I,rw',q⟩;exact km (x:=w) pl.typeIs slot_tuple_getitem.lookup (getItem_tuple (j:=j) (Q:=fun r s'=>r=w/\EP X pins σ Q r s') pl (by omega) (by omega) (by rw[ai,<-hl];exact h1) (by simpa using ew) ⟨rfl,fin⟩) hs
theorem z45:IxR X rIxS:=by
 intro value slice pins s σ H x y v u Q I rx ry h hs;obtain⟨z,i,c,rfl,rfl,hz,he,q⟩:=h;obtain⟨t,rfl⟩:=rx;obtain⟨t',rfl⟩:=ry;obtain⟨j,h1,h2,h3,h4,h5⟩:=z5k he;have hl:z.cps.toList.length=z.length:=by simp[Str.length]
 rw[hl]at h1 h4 h5;have hn:=z2r;exact tail_any (ni s z t) slot_str_getitem.lookup (getItem_str (c:=c) (by have e1:decide (i< -(2 ^ 63:Int))=false:=n5 (by omega);have e2:decide (i ≥ 2 ^ 63)=false:=n5 (by omega);rw[e1,e2,Bool.or_false]) (by rw[h1];simpa using h2) ⟨.str ⟨#[c]⟩,H,I.tok _,⟨_,rfl⟩,q⟩) hs
def rIx (K:W.Frag):R2:=fun x y H Q=>rIxL K x y H Q\/rIxT K x y H Q\/rIxS x y H Q
theorem zi0:IxR X (rIx X.K):=zf9.or (zhk.or z45)
theorem z6u (its:List Value)(n j:Nat)(u:Value):Obj.mapSeq (·.setIfInBounds j u) {cls:=.type "list",data:=.seq its.toArray n}={cls:=.type "list",data:=.seq (its.set j u).toArray n}:=by simp[Obj.mapSeq]
theorem Inv.lst {pins:List (Addr×Obj)}{σ:St}{H:Hp}{s:aa}{p:Addr}{xs:List V}(I:Inv X pins σ H s)(h:H p=some (.lst xs)):
  ∃(its:List Value) (n:Nat),Vals xs its/\s.heap.get? p=some {cls:=.type "list",data:=.seq its.toArray n}/\xs.length<=aq:=by
 obtain⟨z,its,n,r,e⟩:=I.hok p _ h;exact⟨its,n,r,e,z⟩
theorem Inv.lstUpd {pins:List (Addr×Obj)}{σ:St}{H:Hp}{s:aa}{p:Addr}{xs ys:List V}{its its':List Value}{n n':Nat}{f:Obj->Obj}(I:Inv X pins σ H s)(h:H p=some (.lst xs))
  (ho:s.heap.get? p=some {cls:=.type "list",data:=.seq its.toArray n}) (hf:f {cls:=.type "list",data:=.seq its.toArray n}={cls:=.type "list",data:=.seq its'.toArray n'}) (r:Vals ys its') (hz:ys.length<=aq) (t:Nat):
  Inv X pins σ (upd H p (.lst ys)) {s with heap:=s.heap.update p f,toks:=t}:=by
 have e:(s.heap.update p f).get? p=some {cls:=.type "list",data:=.seq its'.toArray n'}:=by rw[k8 f ho (by rw[hf]<;>rfl),hf]
 refine I.write (x:=p) (e:=p) (by rw[h];trivial) (.inl rfl) (fun b u hb q=>(kn _ _ (Ne.symm hb)).trans q) ⟨_,e⟩ ?_;exact⟨hz,its',n',r,e⟩
def zit:V->V->V->Hp->(Hp->Prop)->Prop:=fun o i v H Q=>∃p xs k j,o=.ref p/\i=.int k/\H p=some (.lst xs)/\ixN xs.length k=some j/\Q (upd H p (.lst (xs.set j v)))
theorem set_list:PSet X zit:=by
 intro pins s σ H o i v ov iv u Q I ro ri rv h;obtain⟨p,xs,k,j,rfl,rfl,hp,hj,q⟩:=h;cases ro;obtain⟨t,rfl⟩:=ri;obtain⟨its,n,r,ho,hz⟩:=I.lst hp;obtain⟨h1,h2,h3,h4⟩:=z7w hj;have hl:=r.length;have hn:=z2r;have I':Inv X pins σ (upd H p (.lst (xs.set j v))) {s with heap:=s.heap.update p (Obj.mapSeq (·.setIfInBounds j u))}:=I.lstUpd hp ho (z6u its n j u) (r.set rv j) (by rw[bo];exact hz) s.toks;by_cases h0:0<=k
 ·have hk:k.toNat=j:=by
   rw[my h0 h4]at h1;exact Option.some.inj h1
  exact W.ki_setAt ho h0 (by omega) (by rw[ai,<-hl];exact h4) (by rw[hk];exact⟨_,I',q⟩)
 ·have hk:(k+(its.toArray.size:Int)).toNat=j:=by
   rw[mf (by omega) h3]at h1;rw[ai,<-hl];exact Option.some.inj h1
  exact W.ki_setBack ho (by omega) (by rw[ai,<-hl];exact h3) (by omega) (by rw[hk];exact⟨_,I',q⟩)
theorem z4z (lo hi:Option Int)(n:Nat):(fi lo hi none n).1=((HT.sIx n 0 lo:Nat):Int)/\(fi lo hi none n).2.1=((HT.sIx n n hi:Nat):Int)/\(fi lo hi none n).2.2=1:=by
 refine⟨?_,?_,rfl⟩
 ·cases lo with
  |none=>simp[fi,HT.sIx]
  |some i=>
   simp only[fi,HT.sIx,Option.getD_none,show(1:Int)>0 by decide,if_true];by_cases h:i<0
   ·simp only[h,if_true]<;>omega
   ·simp only[h,if_false]<;>omega
 ·cases hi with
  |none=>simp[fi,HT.sIx]
  |some i=>
   simp only[fi,HT.sIx,Option.getD_none,show(1:Int)>0 by decide,if_true];by_cases h:i<0
   ·simp only[h,if_true]<;>omega
   ·simp only[h,if_false]<;>omega
theorem z3r (its:List Value)(lo hi:Option Int):slicePick its.toArray lo hi none=((its.drop (HT.sIx its.length 0 lo)).take (HT.sIx its.length its.length hi-HT.sIx its.length 0 lo)).toArray:=by obtain⟨h1,h2,h3⟩:=z4z lo hi its.toArray.size;unfold slicePick;rw[h1,h2,h3];simp only[lh,pick_run,ai]<;>rfl
def rSlL (K:W.Frag):V->Option Int->Option Int->Hp->VK->Prop:=fun x lo hi H Q=>∃a xs,x=.ref a/\SqL K H a xs/\∀p,H p=none->Q (.ref p) (upd H p (.lst (cutV xs lo hi)))
theorem zet:SlR X (rSlL X.K):=by intro pins s σ H x v vl vu lo hi sl Q I rx hs pl pu h;obtain⟨a,xs,rfl,hx,q⟩:=h;cases rx;obtain⟨its,r,ht,hz⟩:=I.list hx;have hlen:=r.length;refine⟨"list",_,slot_list_getitem.lookup,ht.isList.typeIs,?_⟩;refine wpAny_getItem_list_slice ht.isList hs pl pu .none (by simp) ?_ (by rw[ai]<;>omega);rw[z3r,<-hlen];refine⟨.ref s.heap.objs.size,_,I.laid (t':=s.toks) (o:=.lst (cutV xs lo hi)) (fun b ob q=>am _ q) (ae _) ?_,rfl,q _ (I.hok.fresh (ae _))⟩;exact⟨bq (z2q xs lo hi) hz,_,0,(r.drop (HT.sIx xs.length 0 lo)).take (HT.sIx xs.length xs.length hi-HT.sIx xs.length 0 lo),bp _ rfl⟩
def z54:V->Bool
 |.non=>true
 |.bl _=>true
 |.int _=>true
 |.str _=>true
 |_=>false
def eqV:V->V->Bool
 |.non,.non=>true
 |.bl a,.bl b=>a==b
 |.bl a,.int b=>(if a then 1 else 0)==b
 |.int a,.bl b=>a==(if b then 1 else 0)
 |.int a,.int b=>a==b
 |.str a,.str b=>a==b
 |_,_=>false
theorem zhj {A:ce}{s:aa}{y x:V}{u v:Value}(ry:RelV y u)(rx:RelV x v)(fy:z54 y=true)(fx:z54 x=true):SeqAt.EqAt A s u v (eqV y x):=by
 cases y with
 |non=>
  cases ry;cases x with
  |non=>cases rx;exact SeqAt.EqAt.same _
  |bl b=>cases rx;exact SeqAt.EqAt.none_bool b
  |int b=>obtain⟨t,rfl⟩:=rx;exact SeqAt.EqAt.none_int b t
  |str b=>obtain⟨t,rfl⟩:=rx;exact SeqAt.EqAt.none_str b t
  |_=>exact absurd (show false=true from fx) bn
 |bl a=>
  cases ry;cases x with
  |non=>cases rx;exact SeqAt.EqAt.bool_none a
  |bl b=>cases rx;exact SeqAt.EqAt.bool_bool a b
  |int b=>obtain⟨t,rfl⟩:=rx;exact SeqAt.EqAt.bool_int a b t
  |str b=>obtain⟨t,rfl⟩:=rx;exact SeqAt.EqAt.bool_str a b t
  |_=>exact absurd (show false=true from fx) bn
 |int a=>
  obtain⟨t',rfl⟩:=ry;cases x with
  |non=>cases rx;exact SeqAt.EqAt.int_none a t'
  |bl b=>cases rx;exact SeqAt.EqAt.int_bool a t' b
  |int b=>obtain⟨t,rfl⟩:=rx;exact SeqAt.EqAt.int_int a t' b t
  |str b=>obtain⟨t,rfl⟩:=rx;exact SeqAt.EqAt.int_str a t' b t
  |_=>exact absurd (show false=true from fx) bn
 |str a=>
  obtain⟨t',rfl⟩:=ry;cases x with
  |non=>cases rx;exact SeqAt.EqAt.str_none a t'
  |bl b=>cases rx;exact SeqAt.EqAt.str_bool a t' b
  |int b=>obtain⟨t,rfl⟩:=rx;exact SeqAt.EqAt.str_int a t' b t
  |str b=>obtain⟨t,rfl⟩:=rx;exact SeqAt.EqAt.str_str a t' b t
  |_=>exact absurd (show false=true from fx) bn
 |_=>exact absurd (show false=true from fy) bn
def eqU (x:V)(u:Value):Bool:=match u with
 |.none=>eqV .non x
 |.bool b=>eqV (.bl b) x
 |.int i _=>eqV (.int i) x
 |.str z _=>eqV (.str z) x
 |_=>false
theorem zc9 {x y:V}{u:Value}(r:RelV y u)(f:z54 y=true):eqU x u=eqV y x:=by
 cases y with
 |non=>cases r;rfl
 |bl b=>cases r;rfl
 |int i=>obtain⟨t,rfl⟩:=r;rfl
 |str z=>obtain⟨t,rfl⟩:=r;rfl
 |_=>exact absurd (show false=true from f) bn
theorem z2n {x:V}:∀{xs:List V} {us:List Value},Vals xs us->xs.all z54=true->us.any (eqU x)=xs.any fun y=>eqV y x
 |_,_,.nil,_=>rfl
 |y::xs,u::us,.cons r t,f=>by rw[ci,aw]at f;rw[gi,gi,zc9 r f.1,z2n t f.2]
theorem z21 {A:ce}{s:aa}{x:V}{v:Value}(rx:RelV x v)(fx:z54 x=true):∀{xs:List V} {us:List Value},Vals xs us->xs.all z54=true->∀u∈us,SeqAt.EqAt A s u v (eqU x u)
 |_,_,.nil,_=>fun u hu=>by cases hu
 |y::xs,u::us,.cons r t,f=>fun u' hu=>by
  rw[ci,aw]at f;rcases a8.mp hu with rfl|hu
  ·rw[zc9 r f.1];exact zhj r rx f.1 fx
  ·exact z21 rx fx t f.2 u' hu
def inV (x:V)(xs:List V):Bool:=xs.any fun y=>eqV y x
def rIn (K:W.Frag)(neg:Bool):R2:=fun x y H Q=>∃p xs,y=.ref p/\(SqL K H p xs\/SqT K H p xs)/\z54 x=true/\xs.all z54=true/\Q (.bl (if neg then !inV x xs else inV x xs)) H
theorem z7p:OpR X (bw .In) (rIn X.K false):=by
 intro pins s σ H x y v u Q I rx ry h;obtain⟨p,xs,rfl,hq,fx,fs,q⟩:=h;cases ry;rcases hq with hq|hq
 ·obtain⟨its,r,pl,hz⟩:=I.list hq;refine SeqAt.in_listAt (eqU x) pl.isList (fun w hw=>z21 rx fx r fs w (by simpa using hw)) ⟨.bl _,H,I,rfl,?_⟩;rw[show its.toArray.any (eqU x)=its.any (eqU x) by simp,z2n r fs];exact q
 ·obtain⟨its,r,pl,hz⟩:=I.tuple hq;refine SeqAt.in_tupleAt (eqU x) pl (fun w hw=>z21 rx fx r fs w (by simpa using hw)) ⟨.bl _,H,I,rfl,?_⟩;rw[show its.toArray.any (eqU x)=its.any (eqU x) by simp,z2n r fs];exact q
theorem z43:OpR X (bw .NotIn) (rIn X.K true):=by
 intro pins s σ H x y v u Q I rx ry h;obtain⟨p,xs,rfl,hq,fx,fs,q⟩:=h;cases ry;rcases hq with hq|hq
 ·obtain⟨its,r,pl,hz⟩:=I.list hq;refine SeqAt.notIn_listAt (eqU x) pl.isList (fun w hw=>z21 rx fx r fs w (by simpa using hw)) ⟨.bl _,H,I,rfl,?_⟩;rw[show its.toArray.any (eqU x)=its.any (eqU x) by simp,z2n r fs];exact q
 ·obtain⟨its,r,pl,hz⟩:=I.tuple hq;refine SeqAt.notIn_tupleAt (eqU x) pl (fun w hw=>z21 rx fx r fs w (by simpa using hw)) ⟨.bl _,H,I,rfl,?_⟩;rw[show its.toArray.any (eqU x)=its.any (eqU x) by simp,z2n r fs];exact q
theorem z4r:OpR X (bw .NotIn) (fun x y H Q=>∃i j,x=.str i/\y=.str j/\Q (.bl (!(!(cn j i 0 j.length 1).isEmpty))) H):=by intro pins s σ H x y v u Q I rx ry h;obtain⟨i,j,rfl,rfl,q⟩:=h;obtain⟨t,rfl⟩:=rx;obtain⟨t',rfl⟩:=ry;exact notIn_str ⟨.bl _,H,I,rfl,q⟩
theorem z3y:CallR X (.builtin "len") (fun xs H Q=>∃p ys,xs=[.ref p]/\(SqL X.K H p ys\/SqT X.K H p ys)/\Q (.int ys.length) H):=by
 intro pins s σ H xs us Q I r h;obtain⟨p,ys,rfl,hq,q⟩:=h;obtain⟨u,rfl,rx⟩:=vals1 r;cases rx;have hn:=z2r;rcases hq with hq|hq
 ·obtain⟨its,r',pl,hz⟩:=I.list hq;have hlen:=r'.length;exact Calls.call_len_list pl.isList (by simp only[ai]<;>omega) ⟨.int ys.length,H,I.tok _,⟨s.toks+1,by rw[ai,hlen]⟩,q⟩
 ·obtain⟨its,r',pl,hz⟩:=I.tuple hq;have hlen:=r'.length;exact len_tuple pl (by simp only[ai]<;>omega) ⟨.int ys.length,H,I.tok _,⟨s.toks+1,by rw[ai,hlen]⟩,q⟩
theorem z55:CallR X (.builtin "len") (fun xs H Q=>∃z,xs=[.str z]/\z.length<=aq/\Q (.int z.length) H):=by intro pins s σ H xs us Q I r h;obtain⟨z,rfl,hz,q⟩:=h;obtain⟨u,rfl,t,rfl⟩:=vals1 r;have hn:=z2r;exact len_str (by omega) ⟨.int z.length,H,I.tok _,⟨_,rfl⟩,q⟩
theorem CallR.or {f:Value}{r r':List V->Hp->VK->Prop}(h:CallR X f r)(h':CallR X f r'):CallR X f (fun xs H Q=>r xs H Q\/r' xs H Q):=by
 intro pins s σ H xs us Q I rs q;rcases q with q|q
 ·exact h pins s σ H xs us Q I rs q
 ·exact h' pins s σ H xs us Q I rs q
theorem z4k:CallR X (.type "list") (fun xs H Q=>∃p ys,xs=[.ref p]/\(SqL X.K H p ys\/SqT X.K H p ys)/\∀l,H l=none->Q (.ref l) (upd H l (.lst ys))):=by
 intro pins s σ H xs us Q I r h;obtain⟨p,ys,rfl,hq,q⟩:=h;obtain⟨u,rfl,rx⟩:=vals1 r;cases rx
 have fin:∀(its:List Value),Vals ys its->ys.length<=aq->∀(h':Heap) (c':Nat),(∀b o',s.heap.get? b=some o'->h'.get? b=some o')->
   h'.get? s.heap.objs.size=some {cls:=.type "list",dict:=none,data:=.seq its.toArray c',slots:=#[]}->EP X pins σ Q (.ref s.heap.objs.size) {s with heap:=h'}:=fun its r' hz h' c' kp e=>
  ⟨.ref s.heap.objs.size,_,I.laid (t':=s.toks) kp (ae _) (show z0u X.prog X.w _ h' _ (.lst ys)from⟨hz,its,c',r',e⟩),rfl,q _ (I.hok.fresh (ae _))⟩
 rcases hq with hq|hq
 ·obtain⟨its,r',pl,hz⟩:=I.list hq;have hlen:=r'.length;obtain⟨o,ho,hc,n,hd⟩:=pl.isList;exact call_list_seq p (.inl rfl) ho hc hd (fun h' c' kp e=>fin its r' hz h' c' kp e) (by simp only[ai]<;>omega)
 ·obtain⟨its,r',pl,hz⟩:=I.tuple hq;have hlen:=r'.length;obtain⟨o,ho,hc,n,hd⟩:=pl;exact call_list_seq p (.inr rfl) ho hc hd (fun h' c' kp e=>fin its r' hz h' c' kp e) (by simp only[ai]<;>omega)
theorem z3g:CallR X (.type "tuple") (fun xs H Q=>∃p ys,xs=[.ref p]/\((SqL X.K H p ys/\∀l,H l=none->Q (.ref l) (upd H l (.tup ys)))\/(SqT X.K H p ys/\Q (.ref p) H))):=by
 intro pins s σ H xs us Q I r h;obtain⟨p,ys,rfl,h⟩:=h;obtain⟨u,rfl,rx⟩:=vals1 r;cases rx;rcases h with⟨hq,q⟩|⟨hq,q⟩
 ·obtain⟨its,r',pl,hz⟩:=I.list hq;have hlen:=r'.length;refine call_tuple_list pl.isList (fun h' kp=>?_) (by simp only[ai]<;>omega);have I1:Inv X pins σ H {s with heap:=h'}:=I.kept (t':=s.toks) kp;have I2:Inv X pins σ (upd H h'.objs.size (.tup ys)) {s with heap:=h'.push {cls:=.type "tuple",data:=.seq its.toArray}}:=I1.laid (t':=s.toks) (fun b o e=>am _ e) (ae _) (show z0u X.prog X.w _ _ _ (.tup ys)from⟨hz,its,r',TupN.new _ _⟩);exact⟨.ref h'.objs.size,_,I2,rfl,q _ (I1.hok.fresh (ae _))⟩
 ·obtain⟨its,r',pl,hz⟩:=I.tuple hq;exact call_tuple_same pl ⟨.ref p,H,I,rfl,q⟩
def tyV (K:W.Frag)(T:String)(x:V)(H:Hp):Prop:=match x with
 |.str _=>T="str"
 |.int _=>T="int"
 |.ref p=>(T="list"/\∃xs,SqL K H p xs)\/(T="tuple"/\∃o,K.lookup p=some o/\o.cls=.type "tuple"/\o.dict=none)\/(T="dict"/\((∃kvs,H p=some (.dK kvs))\/∃kvs,H p=some (.dT kvs)))\/(T="set"/\∃S n,H p=some (.set S n))
 |_=>False
theorem zbr {pins:List (Addr×Obj)}{σ:St}{H:Hp}{s:aa}{T:String}{x:V}{v:Value}(I:Inv X pins σ H s)(r:RelV x v)(ty:tyV X.K T x H):
  s.TypeIs v T/\∀a,v=.ref a->∃ob,s.heap.get? a=some ob/\ob.dict=none:=by
 cases x with
 |str z=>obtain⟨t,rfl⟩:=r;cases(show T="str"from ty);exact⟨ni s z t,fun _ e=>nomatch e⟩
 |int i=>obtain⟨t,rfl⟩:=r;cases(show T="int"from ty);exact⟨typeIs_int s i t,fun _ e=>nomatch e⟩
 |ref p=>
  cases r;rcases ty with⟨rfl,xs,hq⟩|⟨rfl,o,hk,hc,hd⟩|⟨rfl,hk⟩|⟨rfl,S,n,hk⟩
  ·obtain⟨its,_,pl,_⟩:=I.list hq;refine⟨pl.isList.typeIs,fun a e=>?_⟩;cases e;obtain⟨o,n,e,c,hd,_⟩:=pl;exact⟨o,e,hd⟩
  ·refine⟨⟨o,I.kIn p o hk,hc⟩,fun a e=>?_⟩;cases e;exact⟨o,I.kIn _ o hk,hd⟩
  ·have z:∃o,s.heap.get? p=some o/\o.ExactDict:=by
    rcases hk with⟨kvs,hk⟩|⟨kvs,hk⟩
    ·obtain⟨_,_,_,_,o,_,_,e,ex,_⟩:=I.hok p _ hk;exact⟨o,e,ex⟩
    ·obtain⟨_,_,_,_,o,_,_,e,ex,_⟩:=I.hok p _ hk;exact⟨o,e,ex⟩
   obtain⟨o,e,ex⟩:=z;refine⟨⟨o,e,ex.1⟩,fun a e2=>?_⟩;cases e2;exact⟨o,e,ex.2.1⟩
  ·obtain⟨o,_,_,_,e,ex,_⟩:=I.hok p _ hk;refine⟨⟨o,e,ex.1⟩,fun a e2=>?_⟩;cases e2;exact⟨o,e,ex.2.1⟩
 |_=>exact False.elim ty
def tBM0 (K:W.Frag)(T:String)(r:V->List V->Hp->VK->Prop)(to:TE):TE:=fun σ H Q=>to σ H fun x H1=>tyV K T x H1/\r x [] H1 Q
def tBM (K:W.Frag)(T:String)(r:V->List V->Hp->VK->Prop)(to:TE)(t:TA):TE:=fun σ H Q=>to σ H fun x H1=>tyV K T x H1/\t σ H1 fun xs H2=>r x xs H2 Q
variable {o e:Expr}{es:List Expr}{to:TE}{t:TA}{name:Str}{apos cpos:Pos}{T id:String}{r:V->List V->Hp->VK->Prop}
theorem zbv (pa:nj T)(slot:Slot T name id)(hty:typeOf (.builtin id)=pure (.type "method_descriptor"))(hm:MtR X id r)(ho:PE X o to)
  (hbase:jv o name X.env (eval o X.env)=eval o X.env:=by rfl) (hline:(apos.endLine==cpos.line)=true:=by rfl):PE X (.Call (.Attribute o name apos) [] [] cpos) (tBM0 X.K T r to):=by
 intro pins s σ H Q I h;refine wpAny_Call_method0_late hbase hline (thn (ho pins s σ H _ I h) fun v s1 ⟨x,H1,I1,r1,ty,q1⟩=>?_);obtain⟨h1,h2⟩:=zbr I1 r1 ty;exact⟨T,id,pa,slot,hty,h1,h2,ko rfl (PySem.evalArgs_none (hm pins s1 σ H1 x [] v [] Q I1 r1 .nil q1))⟩
theorem z7f (pa:nj T)(slot:Slot T name id)(hty:typeOf (.builtin id)=pure (.type "method_descriptor"))(hm:MtR X id r)(ho:PE X o to)(ha:PA X (e::es) t)
  (hbase:jv o name X.env (eval o X.env)=eval o X.env:=by rfl)
  (hfew:((i3 cpos (cu (e::es) X.env)).all (fun x=> !x.1)&&(backToKw cpos (mx [] X.env)).all (fun x=>x.1.isSome)
   &&decide ((e::es).length+([]:List kh).length+(if([]:List kh).isEmpty then 0 else 1)<30))=true:=by rfl)
  (hline:(apos.endLine==cpos.line)=true:=by rfl) (hs:cu (e::es) X.env=(false,eval e X.env)::cu es X.env:=by rfl) (hplain:(i3 cpos (cu es X.env)).any (·.1)=false:=by rfl):
  PE X (.Call (.Attribute o name apos) (e::es) [] cpos) (tBM X.K T r to t):=by
 intro pins s σ H Q I h;refine wpAny_Call_method_late hbase hfew hline rfl (thn (ho pins s σ H _ I h) fun v s1 ⟨x,H1,I1,r1,ty,q1⟩=>?_);obtain⟨h1,h2⟩:=zbr I1 r1 ty;refine⟨T,id,pa,slot,hty,h1,h2,?_⟩;have hA:=ha cpos pins s1 σ H1 _ I1 q1;rw[hs]at hA ⊢;refine ko (by show(false||(i3 cpos (cu es X.env)).any (·.1))=false;rw[hplain]<;>rfl) (Calls.evalArgs_plain ?_);exact thn hA fun us s2 ⟨vs,H2,I2,r2,q2⟩=>hm pins s2 σ H2 x vs v us Q I2 r1 r2 q2
end
def MtM (X:Cx)(id:String)(r:V->List V->Hp->VK->Prop):Prop:=∀(pins:List (Addr×Obj)) (s:aa) (σ:St) (H:Hp) (x:V) (xs:List V) (v:Value) (us:List Value) (Q:VK),Inv X pins σ H s->RelV x v->Vals xs us->r x xs H Q->wpAny (model X.prog X.w) X.A (call (.builtin id) (v::us)) (EP X pins σ Q) X.xe s
theorem Vals.one {x:V}{us:List Value}(h:Vals [x] us):∃u,us=[u]/\RelV x u:=by
 cases h with
 |cons r h=>cases h;exact⟨_,rfl,r⟩
theorem Vals.two {x y:V}{us:List Value}(h:Vals [x,y] us):∃u v,us=[u,v]/\RelV x u/\RelV y v:=by
 cases h with
 |cons r h=>cases h with
  |cons q h=>cases h;exact⟨_,_,rfl,r,q⟩
theorem Vals.zero:∀{us:List Value},Vals [] us->us=[]
 |_,.nil=>rfl
theorem Vals.dropLast {xs:List V}{us:List Value}(h:Vals xs us):Vals xs.dropLast us.dropLast:=by
 induction h with
 |nil=>exact .nil
 |cons r t ih=>
  cases t with
  |nil=>exact .nil
  |cons q t'=>exact .cons r ih
theorem Vals.eraseIdx:∀{xs:List V} {us:List Value} (i:Nat),Vals xs us->Vals (xs.eraseIdx i) (us.eraseIdx i)
 |_,_,_,.nil=>.nil
 |_,_,0,.cons _ t=>t
 |_,_,i+1,.cons r t=>.cons r (Vals.eraseIdx i t)
theorem Vals.rep {xs:List V}{us:List Value}(h:Vals xs us):∀k:Nat,Vals (ba k xs).flatten (ba k us).flatten
 |0=>.nil
 |k+1=>by rw[gw,gw,gm,gm];exact Vals.append h (Vals.rep h k)
theorem z6z {α:Type}(l:List α):l.eraseIdx (l.length-1)=l.dropLast:=by
 induction l with
 |nil=>rfl
 |cons a r ih=>
  cases r with
  |nil=>rfl
  |cons b r=>
   have e:(a::b::r).length-1=((b::r).length-1)+1:=by have h1:(a::b::r).length=r.length+2:=rfl;have h2:(b::r).length=r.length+1:=rfl;omega
   rw[e,List.eraseIdx_cons_succ,ih]
   all_goals rfl
theorem z48 {α:Type}:∀(l:List α) (i:Nat),(l.eraseIdx i).length<=l.length
 | [],_=>ae _
 |_::_,0=>Nat.le_succ _
 |_::r,i+1=>Nat.succ_le_succ (z48 r i)
section
variable {X:Cx}{pins:List (Addr×Obj)}{σ:St}{H:Hp}{s:aa}{l b:Addr}{xs ys zs:List V}
theorem Inv.lset {its its':List Value}{n:Nat}{f:Array Value->Array Value}{t':Nat}(I:Inv X pins σ H s)(hH:H l=some (.lst xs))
  (e:s.heap.get? l=some {cls:=.type "list",data:=.seq its.toArray n}) (hf:f its.toArray=its'.toArray) (hv:Vals ys its') (hz:ys.length<=aq):
  Inv X pins σ (upd H l (.lst ys)) {s with heap:=s.heap.update l (Obj.mapSeq f),toks:=t'}:=by
 have q:=PySem.IsL.update e f;rw[hf]at q;refine I.write (x:=l) (e:=l) (by rw[hH];exact trivial) (.inl rfl) (fun b' u hb hu=>(kn s.heap (Obj.mapSeq f) (Ne.symm hb)).trans hu) ⟨_,q⟩ ?_;exact⟨hz,its',_,hv,q⟩
theorem Inv.lnew {its:List Value}{t':Nat}(I:Inv X pins σ H s)(hv:Vals ys its)(hz:ys.length<=aq):
  Inv X pins σ (upd H s.heap.objs.size (.lst ys)) {s with heap:=s.heap.push {cls:=.type "list",data:=.seq its.toArray},toks:=t'}:=
 I.laid (fun _ _ q=>am _ q) (ae _) ⟨hz,its,0,hv,bp _ rfl⟩
theorem Inv.fresh (I:Inv X pins σ H s):H s.heap.objs.size=none:=I.hok.fresh (ae _)
theorem Inv.lstM (I:Inv X pins σ H s)(hH:H l=some (.lst xs)):xs.length<=aq/\∃(its:List Value) (n:Nat),Vals xs its/\xs.length=its.length/\s.heap.get? l=some {cls:=.type "list",data:=.seq its.toArray n}:=by obtain⟨z,its,n,r,e⟩:=I.hok l _ hH;exact⟨z,its,n,r,r.length,e⟩
end
section
variable {X:Cx}
def zf0:V->List V->Hp->VK->Prop:=fun x vs H Q=>∃l xs y,x=.ref l/\vs=[y]/\H l=some (.lst xs)/\xs.length<aq/\Q .non (upd H l (.lst (xs++[y])))
theorem z2u:MtM X "list.append" zf0:=by intro pins s σ H x vs v us Q I rx rv h;obtain⟨l,xs,y,rfl,rfl,hH,hz,q⟩:=h;cases rx;obtain⟨u,rfl,ru⟩:=rv.one;obtain⟨z,its,n,r,hl,e⟩:=I.lstM hH;refine kq F.slot_list_append ⟨_,e,rfl⟩ F.entry_list_append (F.args_list_append_2 _ _) (PySem.list_append l its.toArray n u (by rw[ai];omega)) ⟨e,?_⟩;refine⟨.non,_,I.lset (its':=its++[u]) hH e (by simp) (r.append (.cons ru .nil)) ?_,rfl,q⟩;rw[ac,List.length_singleton];omega
def rPop:V->List V->Hp->VK->Prop:=fun x vs H Q=>∃l xs y,x=.ref l/\vs=[]/\H l=some (.lst xs)/\xs[xs.length-1]?=some y/\Q y (upd H l (.lst xs.dropLast))
theorem zbk:MtM X "list.pop" rPop:=by
 intro pins s σ H x vs v us Q I rx rv h;obtain⟨l,xs,y,rfl,rfl,hH,hy,q⟩:=h;cases rx;have hus:=rv.zero;subst hus;obtain⟨z,its,n,r,hl,e⟩:=I.lstM hH;obtain⟨u,hu,ru⟩:=r.get hy;have hy':its.toArray[its.toArray.size-1]?=some u:=by show its.toArray[its.length-1]?=some u;rw[<-iy,<-hl];exact hu
 refine kq F.slot_list_pop ⟨_,e,rfl⟩ F.entry_list_pop (F.args_list_pop_1 _) (MeetsSeq.list_pop_last l its.toArray n u hy' (by rw[ai];omega)) ⟨e,?_⟩;refine⟨y,_,I.lset (its':=its.dropLast) hH e ?_ r.dropLast ?_,ru,q⟩
 ·show its.toArray.eraseIdxIfInBounds (its.toArray.size-1)=its.dropLast.toArray;rw[ai,iw,z6z]
 ·rw[i9];omega
def zi8:V->List V->Hp->VK->Prop:=fun x vs H Q=>∃l xs i k y,x=.ref l/\vs=[.int i]/\H l=some (.lst xs)/\-(2 ^ 63)<=i/\i<2 ^ 63/\mw i xs.length=some k/\xs[k]?=some y/\Q y (upd H l (.lst (xs.eraseIdx k)))
theorem zb8:MtM X "list.pop" zi8:=by
 intro pins s σ H x vs v us Q I rx rv h;obtain⟨l,xs,i,k,y,rfl,rfl,hH,h1,h2,hk,hy,q⟩:=h;cases rx;obtain⟨u,rfl,ru⟩:=rv.one;obtain⟨t,rfl⟩:=ru;obtain⟨z,its,n,r,hl,e⟩:=I.lstM hH;obtain⟨w,hw,rw'⟩:=r.get hy;refine kq F.slot_list_pop ⟨_,e,rfl⟩ F.entry_list_pop (F.args_list_pop_2 _ _) (MeetsSeq.list_pop_at l its.toArray n i t k w (fitsIndex_both h1 h2) (by rw[ai,<-hl];exact hk) (by rw[<-iy];exact hw) (by rw[ai];omega)) ⟨e,?_⟩;refine⟨y,_,I.lset (its':=its.eraseIdx k) hH e ?_ (r.eraseIdx k) ?_,rw',q⟩
 ·show its.toArray.eraseIdxIfInBounds k=(its.eraseIdx k).toArray;rw[iw]
 ·have :=z48 xs k;omega
def rCat:R2:=fun x y H Q=>∃l b xs zs,x=.ref l/\y=.ref b/\H l=some (.lst xs)/\H b=some (.lst zs)/\xs.length+zs.length<=aq/\∀p,H p=none->Q (.ref p) (upd H p (.lst (xs++zs)))
theorem zh9:OpR X (dr .Add) rCat:=by
 intro pins s σ H x y v u Q I rx ry h;obtain⟨l,b,xs,zs,rfl,rfl,hH,hB,hz,q⟩:=h;cases rx;cases ry;obtain⟨z,its,n,r,hl,e⟩:=I.lstM hH;obtain⟨z2,its2,n2,r2,hl2,e2⟩:=I.lstM hB;refine PySem.P.add_list e e2 ?_ (by rw[ai,ai];omega);have ea:its.toArray++its2.toArray=(its++its2).toArray:=by simp
 rw[ea];exact⟨.ref _,_,I.lnew (t':=s.toks) (r.append r2) (by rw[ac];omega),rfl,q _ I.fresh⟩
end
section
variable {prog:ao}{w:World}{A:ce}{E:Value->aa->Prop}{s:aa}
end
section
variable {X:Cx}
end
end L2
namespace Att
open PySem PySem.W PySem.Calls PyProof.Rows
theorem z2x {P:dn}{h:Heap}:∀(ns:List Int) (vs:List Value),WellAll P h vs (ns.map WData.int)->m7 vs ns:=by
 intro ns
 induction ns with
 |nil=>intro vs w;rw[ki]at w;cases w;exact .nil
 |cons n ns ih=>
  intro vs w;rw[az]at w;cases w with
  |cons a b=>cases a;exact .cons _ _ (ih _ b)
theorem z7k {l:OpenLaw}{n:Nat}(hn:l.most=some n){P:dn}{h:Heap}{args:List WData}{vals:List Value}
  (hpre:l.row.toRowW.claim.pre args=true) (hwl:WellAll P h vals args):
  ∃a vs ns,vals=[Value.ref a]/\args=[WData.list (ns.map WData.int)]/\h.get? a=some {cls:=.type "list",data:=.seq vs.toArray}/\m7 vs ns/\ns.length<=n:=by
 have hsh:WShape.hasAll [] args [.list .int]=true:=(pre_splitW hpre).1;have hc:l.pre.holds [] {args:=args}=true:=(pre_splitW hpre).2;obtain⟨d,r,rfl,h1,h2⟩:=hasAllW_cons hsh;obtain rfl:=hasAllW_nil h2;obtain⟨xs,rfl,h3⟩:=hasW_list h1;obtain⟨ns,rfl⟩:=items_int h3
 have hlen:ns.length<=n:=by
  unfold OpenLaw.pre at hc;have h4:(WTm.not (.lt (.lit (.int (n:Int))) (.len (.arg 0)))).holds [] {args:=[.list (ns.map .int)]}=true:=by have h4:=(holds_andW hc).1;rw[hn]at h4;exact h4
  have h5:=condW_of h4 (w_not (w_lt w_lit (w_len_list (w_arg rfl))));rw[ag]at h5;refine Nat.le_of_not_lt fun q=>?_;have q':(n:Int)<((ns.length:Nat):Int):=by omega
  first
   |(rw[nz q']at h5;exact absurd h5 (by decide))
   |(simp at h5;omega)
 cases hwl with
 |cons w1 w2=>
  cases w2;cases w1 with
  |list ho hall=>exact⟨_,_,ns,rfl,rfl,ho,z2x ns _ hall,hlen⟩
theorem z8e (l:OpenLaw)(args:List WData):l.row.toRowW.claim.post args (.bool true) args=true:=
 postW_of (r:=l.row.toRowW) (X:=(true==true))
  (show WShape.has [] (.bool true) .bool=true by first|rfl|decide|simp[WShape.has,WShape.arms,WShape.armsAll])
  (show(WTm.eq .res (.lit (.bool true))).value [] {args:=args,res:=some (.bool true),after:=args}=some (.bool (true==true))from w_eq_bool (w_res rfl) w_lit) rfl
theorem attach_call {l:OpenLaw}{n:Nat}{q:ao}{loose:List Str}{XP:(Str->Option Value)->Heap->Prop}{YP:World->Heap->Prop}{d:nr}
  (hn:l.most=some n) (hdf:d.params.defaults=[])
  (call:∀(w:World) (s₀ s₁:aa) (mg mb:Str->Option Value) (fa:Addr) (o:Obj) (pm cd doc:Value) (a:Addr) (vs:List Value) (ns:List Int),
   Ground q loose [] XP w s₀ mg mb s₁.heap->YP w s₁.heap->
   s₁.heap.get? fa=some o->o.data=.func (docDef d.name d.params d.body d.scope pm cd doc)->s₁.heap.CodeRec cd d.name->mg d.name=some (.ref fa)->
   s₁.heap.get? a=some {cls:=.type "list",data:=.seq vs.toArray}->m7 vs ns->ns.length<=n->s₁.gens=#[]->
   ll (model l.prog w) ln (.call (.ref fa) ⟨[.ref a],[]⟩) (fun r s'=>r=.ok (.ret (.bool true))/\OldK s₁.heap s'.heap/\s'.os=s₁.os/\jh s'.gens) s₁):
  WalkO q loose XP YP l.row.toRowW d [] (fun f vs=>PySem.call f vs):=by
 intro w s₀ s₁ mg mb G Y fa o pm cd doc dV kV ho hd hcd hD hmg hg args vals as hpre hlay hrd hwl hlo;obtain rfl:dV=.none:=Dflts.none hD hdf;obtain rfl:kV=.none:=Dflts.noKw hD;obtain⟨a,vs,ns,rfl,rfl,hobj,hints,hlen⟩:=z7k hn hpre hwl;refine enter_call (ke (call w s₀ s₁ mg mb fa o pm cd doc a vs ns G Y ho (fd_plain hd) hcd hmg hobj hints hlen hg) fun r s' hq=>?_);obtain⟨rfl,h2,h3,h4⟩:=hq;exact⟨.inl ⟨.bool true,.bool true,[],rfl,fun _=>rfl,.bool true,z8e l _,fun _=>⟨List.Pairwise.nil,fun _ hm=>(nomatch hm)⟩⟩,h2,h3,h4⟩
section
variable {prog:ao}{w:World}{A:ce}{E:Value->aa->Prop}{s:aa}{K:Frag}
end
end Att
namespace L2
open PySem PySem.Spec PyProof.Rows
theorem z4l:∀{vs:List Value} {ns:List Int},m7 vs ns->Vals (ns.map V.int) vs
 |_,_,.nil=>.nil
 |_,_,.cons n t h=>.cons ⟨t,rfl⟩ (z4l h)
def Only (H:Hp):Prop:=∀b,H b=none\/∃o xs,H b=some (.frz o (.lst xs))
theorem z9t {P:ao}{w:World}{K:W.Frag}{mg mb:Str->Option Value}{CX:CXT}{k:Nat}{fa a:Addr}{fd:cz}{x:Str}{sp:Sp}{s₁:aa}{vs:List Value}{ns:List Int}
  (KX:K.In s₁.heap) (hns:s₁.heap.Ns bj mg) (hb:s₁.heap.Ns m8 mb) (hbb:∀x:Str,x≠"__name__"->mb x=ck x) (hlim:s₁.heap.NoLimit) (hg:s₁.gens=#[])
  (ha:s₁.heap.get? a=some {cls:=.type "list",data:=.seq vs.toArray}) (hi:m7 vs ns) (hl:ns.length<=aq) (hr:Room k ln)
  (F:∀base:Heap,K.In base->base.Ns bj mg->FnOk P w K mg base CX k fa fd [x] sp) (hbind:∀(s:aa) (u:Value),lj s fd ⟨[u],[]⟩ [(x,u)])
  (hsp:∀H:Hp,Only H->SqL K H a (ns.map V.int)->sp [.ref a] H (fun v _=>v=.bl true) fun _ _ _=>False)
  (hCX:∀H e s',CX [] H s₁ (fun _ _ _=>False) e s'->False):
  ll (model P w) ln (.call (.ref fa) ⟨[.ref a],[]⟩) (fun r s'=>r=.ok (.ret (.bool true))/\OldK s₁.heap s'.heap/\s'.os=s₁.os/\jh s'.gens) s₁:=by
 have rv:=z4l hi;have lenV:=hi.length
 have core:∀H:Hp,Only H->SqL K H a (ns.map V.int)->HOk P w H s₁.heap->(∀b,H b≠none->b=a)->(H a≠none->K.lookup a=none)->
   ll (model P w) ln (.call (.ref fa) ⟨[.ref a],[]⟩) (fun r s'=>r=.ok (.ret (.bool true))/\OldK s₁.heap s'.heap/\s'.os=s₁.os/\jh s'.gens) s₁:=by
  intro H hO hS hok hA hK;have z3f:∀{b:Addr} {o:Obj},s₁.heap.get? b=some o->H b=none->(hidT s₁.heap H).get? b=some o:=fun e n=>zbb e n
  have noA:∀{b:Addr} {o:Obj} {es:Array DictEntry} {ep:Nat},s₁.heap.get? b=some o->o.data=.dict es ep->H b=none:=fun{b o es ep} e d=>by
   cases q:H b with
   |none=>rfl
   |some u=>have e':b=a:=hA b (by rw[q];simp);subst e';rw[ha]at e;cases e;have d':Data.seq vs.toArray _=Data.dict es ep:=d;cases d'
  have nsK:∀{b:Addr} {m:Str->Option Value},s₁.heap.Ns b m->(hidT s₁.heap H).Ns b m:=fun{b m} ⟨o,es,ep,e,d,r⟩=>⟨o,es,ep,z3f e (noA e d),d,r⟩
  have hKb:K.In (hidT s₁.heap H):=fun b o e=>z3f (KX b o e) (by
   cases q:H b with
   |none=>rfl
   |some u=>have e':b=a:=hA b (by rw[q];simp);subst e';rw[hK (by rw[q];simp)]at e;cases e)
  have hM:Mod K mg (hidT s₁.heap H):=⟨hKb,nsK hns,⟨mb,nsK hb,hbb⟩,let⟨mc,h1,h2⟩:=hlim;⟨mc,nsK h1,h2⟩⟩;have e0:Env0 P w K mg (hidT s₁.heap H) ln [] s₁ H:=⟨rfl,hM,fun b o e=>zd0 e,Nat.le_of_eq (z8d _ _),trivial,fun b hb=>absurd (show b∈([]:List Addr)from hb) (by simp),hok,.of_eq hg⟩;refine ke ((F _ hKb (nsK hns)).run ln [] s₁ H ⟨[.ref a],[]⟩ [.ref a] [.ref a] _ _ hr e0 (hbind s₁ (.ref a)) (.cons rfl .nil) (hsp H hO hS)) fun r s' h=>?_;cases r with
  |error e=>exact(hCX H e s' h).elim
  |ok fl=>
   cases fl with
   |next=>exact False.elim h
   |brk=>exact False.elim h
   |cont=>exact False.elim h
   |ret u=>
    obtain⟨v,H',os,bare,un,hok',r',q⟩:=h;have q':v=.bl true:=q;subst q';obtain rfl:u=Value.bool true:=r';refine⟨rfl,OldK.of_keep fun b o e=>?_,os,bare⟩;cases q:H b with
    |none=>exact un.keep b o e q (by intro z;exact absurd (show b∈([]:List Addr)from z) (by simp)) (by simp)
    |some u=>
     rcases hO b with z|⟨ob,xs,z⟩
     ·rw[q]at z;cases z
     ·have z2:=un.frzs b ob _ z;obtain⟨e1,_⟩:=hok b _ z;obtain⟨e2,_⟩:=hok' b _ z2;rw[e]at e1;cases e1;exact e2
 cases hk:K.lookup a with
 |some o=>have e:=KX a o hk;rw[ha]at e;cases e;refine core (fun _=>none) (fun _=>.inl rfl) (.inr ⟨_,vs.toArray,_,hk,rfl,rfl,rfl,by rw[ai,lenV];exact hl,by simpa using rv⟩) (fun b u z=>by have z':(none:Option HO)=some u:=z;cases z') (fun b z=>absurd rfl z) fun z=>absurd rfl z
 |none=>
  refine core (fun b=>if b=a then some (.frz {cls:=.type "list",data:=.seq vs.toArray} (.lst (ns.map V.int)))else none) (fun b=>?_) (.inl (.inr ⟨{cls:=.type "list",data:=.seq vs.toArray},if_pos rfl⟩)) (fun b u z=>?_) (fun b z=>?_) fun _=>hk
  ·by_cases hb:b=a
   ·exact .inr ⟨_,_,if_pos hb⟩
   ·exact .inl (if_neg hb)
  ·by_cases hb:b=a
   ·have z':=(if_pos hb).symm.trans z;cases z';subst hb;exact⟨ha,by rw[ag];exact hl,vs,_,rv,ha⟩
   ·have z':=(if_neg hb).symm.trans z;cases z'
  ·by_cases hb:b=a
   ·exact hb
   ·exact absurd (if_neg hb) z
theorem walk_of {l:W.OpenLaw}{n k:Nat}{q:ao}{loose:List Str}{XP:(Str->Option Value)->Heap->Prop}{YP:World->Heap->Prop}{d:nr}{K:dn->W.Frag}{CX:World->CXT}{sp:World->Sp}{x:Str}
  (hn:l.most=some n) (hn2:n<=aq) (hdf:d.params.defaults=[]) (hr:Room k ln)
  (hY:∀(w:World) (h:Heap),YP w h->(K w.params).In h)
  (F:∀(w:World) (mg:Str->Option Value) (fa:Addr) (h:Heap),(K w.params).In h->h.Ns bj mg->mg d.name=some (.ref fa)->∃fd:cz,(∀(s:aa) (u:Value),lj s fd ⟨[u],[]⟩ [(x,u)])/\∀base:Heap,(K w.params).In base->base.Ns bj mg->FnOk l.prog w (K w.params) mg base (CX w) k fa fd [x] (sp w))
  (hsp:∀(w:World) (H:Hp) (a:Addr) (ns:List Int),ns.length<=n->Only H->SqL (K w.params) H a (ns.map V.int)->sp w [.ref a] H (fun v _=>v=.bl true) fun _ _ _=>False)
  (hCX:∀(w:World) (H:Hp) (s:aa) (e:Value) (s':aa),CX w [] H s (fun _ _ _=>False) e s'->False):
  W.WalkO q loose XP YP l.row.toRowW d [] (fun f vs=>PySem.call f vs):=by
 refine Att.attach_call hn hdf fun w s₀ s₁ mg mb fa o pm cd doc a vs ns G Y ho hd hcd hmg hobj hints hlen hg=>?_;have KX:=hY w _ Y;obtain⟨fd,hb,hF⟩:=F w mg fa _ KX G.T.g hmg;exact z9t KX G.T.g G.T.b G.T.builtins G.T.nolimit hg hobj hints (bq hlen hn2) hr hF hb (fun H hO hS=>hsp w H a ns hlen hO hS) fun H e s'=>hCX w H s₁ e s'
def z17 (s:Stmt):Arguments:=match s with
 |.FunctionDef _ a _ _ _ _ _ _ _ _=>a
 |_=>{posonlyargs:=[],args:=[],vararg:=none,kwonlyargs:=[],kw_defaults:=[],kwarg:=none,defaults:=[]}
def z0p (s:Stmt):List Stmt:=match s with
 |.FunctionDef _ _ b _ _ _ _ _ _ _=>b
 |_=>[]
def z05 (s:Stmt):Scope:=match s with
 |.FunctionDef _ _ _ _ _ _ sc _ _ _=>sc
 |_=>{kind:=.function,names:=[],isGenerator:=false,isCoroutine:=false}
abbrev CX0:CXT:=fun _ _ _ _ _ _=>False
abbrev E0:XK:=fun _ _ _=>False
theorem zk2 {X:Cx}:z7g CX0 X E0:=fun _ _ _ _ _ _ _ h=>h.elim
structure Fun (K:W.Frag)(x qual:Str)(st:Stmt)(f:Addr)(fd:cz):Prop where
 ex:∃(oc:Value) (od:Option Addr) (kV doc pm:Value) (an:Option Addr) (cdv ct:Value) (osl:Array (Option Value)),fd=W.fnOf x qual (z17 st) (z0p st) (z05 st) .none kV doc pm an cdv ct/\K.lookup f=some ⟨oc,od,.func fd,osl⟩/\W.codeIn K cdv qual=true
 kp:W.keepIn K (.ref f)=true
section
variable {P:ao}{w:World}{K:W.Frag}{mg:Str->Option Value}{base:Heap}
theorem Fun.ok {x qual:Str}{st:Stmt}{f:Addr}{fd:cz}{N ps:List Str}{k:Nat}{sp:Sp}(F:Fun K x qual st f fd)(S:FnScope N ps (z05 st))(len:∀vs H Q E,sp vs H Q E->vs.length=ps.length)
  (hbody:∀(cdv:Value) (A:ce) (outer:List Env) (s:aa) (H:Hp) (vs:List V) (Q:VK) (E:XK),Room k (A.deeper (lg qual (z05 st) s.heap.objs.size f cdv))->sp vs H Q E->∃t,PSs (cxOf CX0 P w K mg base N qual (z05 st) f cdv A outer s H E).nox (z0p st) t/\t {nx:=fun _ H'=>Q .non H',rt:=Q} (start N vs) H):FnOk P w K mg base CX0 (k+1) f fd ps sp:=by
 obtain⟨oc,od,kV,doc,pm,an,cdv,ct,osl,rfl,lk,hcd⟩:=F.ex;refine zdk lk hcd S len fun A outer s H vs Q E hr hsp=>?_;obtain⟨t,h,q⟩:=hbody cdv A outer s H vs Q E hr hsp;exact⟨t,h.nox,q⟩
theorem Fun.binds {x qual:Str}{st:Stmt}{f:Addr}{fd:cz}{ps:List Str}(F:Fun K x qual st f fd)
  (h:∀(kV doc pm:Value) (an:Option Addr) (cdv ct:Value) (us:List Value),us.length=ps.length->nh (W.fnOf x qual (z17 st) (z0p st) (z05 st) .none kV doc pm an cdv ct) ⟨us,[]⟩=pure (ps.zip us)):Binds K fd ps []:=by
 obtain⟨oc,od,kV,doc,pm,an,cdv,ct,osl,rfl,lk,hcd⟩:=F.ex;exact .all (h kV doc pm an cdv ct)
theorem z8k {x qual:Str}{st:Stmt}{f:Addr}{oc:Value}{od an:Option Addr}{osl:Array (Option Value)}{kV doc pm cdv ct:Value}(l:K.lookup f=some ⟨oc,od,.func (W.fnOf x qual (z17 st) (z0p st) (z05 st) .none kV doc pm an cdv ct),osl⟩) (c:W.codeIn K cdv qual=true) (k:W.keepIn K (.ref f)=true):Fun K x qual st f (W.fnOf x qual (z17 st) (z0p st) (z05 st) .none kV doc pm an cdv ct):=⟨⟨oc,od,kV,doc,pm,an,cdv,ct,osl,rfl,l,c⟩,k⟩
end
section
variable {X:Cx}
end
theorem iteF {A B:Prop}(h:B):if false=true then A else B:=by rw[if_neg bn];exact h
theorem iteT {A B:Prop}(h:A):if true=true then A else B:=by rw[if_pos rfl];exact h
def Same (H H':Hp):Prop:=∀b o,H b=some o->H' b=some o
theorem Same.refl (H:Hp):Same H H:=fun _ _ h=>h
theorem Same.trans {H H1 H2:Hp}(a:Same H H1)(b:Same H1 H2):Same H H2:=fun c o h=>b c o (a c o h)
theorem Same.free {H H':Hp}(e:Same H H'){l:Addr}(h:H' l=Option.none):H l=Option.none:=by
 cases q:H l with
 |none=>rfl
 |some o=>rw[e l o q]at h;cases h
theorem Same.seq {K:W.Frag}{H H':Hp}{a:Addr}{xs:List V}(e:Same H H')(h:SqL K H a xs):SqL K H' a xs:=by
 rcases h with(h|⟨o,h⟩)|h
 ·exact .inl (.inl (e _ _ h))
 ·exact .inl (.inr ⟨o,e _ _ h⟩)
 ·exact .inr h
section
variable {X:Cx}
theorem z88:CallR X (.builtin "len") (fun xs H Q=>∃a kvs,xs=[V.ref a]/\H a=some (.dK kvs)/\Q (.int kvs.length) H):=by intro pins s σ H xs us Q I r h;obtain⟨a,kvs,rfl,ha,q⟩:=h;obtain⟨u,rfl,ru⟩:=vals1 r;cases ru;exact zlb I (.inl ha) fun t s' I'=>⟨.int kvs.length,H,I',⟨t,rfl⟩,q⟩
end
section
variable {κ:Type} [DecidableEq κ]
end
end L2
set_option maxHeartbeats 5000000
namespace L2
open PySem PySem.Spec PyProof.Rows
def clOf (env:Env):List (Str×c9)->List (Str×Addr)->List (Str×Addr)
 | [],cs=>cs
 |(n,k)::r,cs=>clOf env r (if(k==.free)=true then(n,(env.cells.lookup n).getD 0)::cs else cs)
theorem z6c {env:Env}{x:Str}:∀(l:List (Str×c9)) (cs:List (Str×Addr)),(∃c,cs.lookup x=some c)->∃c,(clOf env l cs).lookup x=some c
 | [],cs,h=>h
 |(n,k)::r,cs,h=>by
  unfold clOf;refine z6c r _ ?_;split
  ·by_cases e:(x==n)=true
   ·exact⟨_,by rw[cf,e]⟩
   ·obtain⟨c,hc⟩:=h;exact⟨c,by rw[cf,mi.mpr e];exact hc⟩
  ·exact h
theorem z2w {env:Env}{x:Str}:∀(l:List (Str×c9)) (cs:List (Str×Addr)),l.lookup x=some .free->∃c,(clOf env l cs).lookup x=some c
 | [],cs,h=>by simp at h
 |(n,k)::r,cs,h=>by
  rw[cf]at h;unfold clOf;cases e:(x==n)with
  |true=>rw[e]at h;have hk:k=.free:=Option.some.inj h;subst hk;exact z6c r _ ⟨_,by rw[if_pos (by rfl),cf,e]⟩
  |false=>rw[e]at h;exact z2w r _ h
theorem z96 {env:Env}:∀(l:List (Str×c9)) (cs:List (Str×Addr)),(∀y∈l,y.2=.free->∃c,env.cells.lookup y.1=some c)->(∀x c,cs.lookup x=some c->env.cells.lookup x=some c)->
  ∀x c,(clOf env l cs).lookup x=some c->env.cells.lookup x=some c
 | [],cs,_,h=>h
 |(n,k)::r,cs,hl,h=>by
  unfold clOf;refine z96 r _ (fun y hy=>hl y (ak _ hy)) fun x c hx=>?_;by_cases hk:(k==NameKind.free)=true
  ·rw[if_pos hk,cf]at hx;cases e:(x==n)with
   |true=>
    rw[e]at hx;have hxn:x=n:=by simpa using e
    obtain⟨d,hd⟩:=hl (n,k) af (by simpa using hk);have hd':env.cells.lookup n=some d:=hd;rw[hd']at hx;rw[hxn,hd'];exact hx
   |false=>rw[e]at hx;exact h x c hx
  ·rw[if_neg hk]at hx;exact h x c hx
theorem z23 {env:Env}{scope:Scope}(h:∀y∈scope.names,y.2=.free->∃c,env.cells.lookup y.1=some c):closureFor scope env=pure (clOf env scope.names []):=by
 have go:∀(l:List (Str×c9)) (cs:List (Str×Addr)),(∀y∈l,y.2=.free->∃c,env.cells.lookup y.1=some c)->
   (forIn l cs fun(x:Str×c9) (r:List (Str×Addr))=>if(x.2==NameKind.free)=true then(do let a <-cellOf env x.1;pure (ForInStep.yield ((x.1,a)::r)):Sem _)else pure (ForInStep.yield r))=(pure (clOf env l cs):Sem _):=by
  intro l
  induction l with
  |nil=>intro cs _;rfl
  |cons y r ih=>
   intro cs hl;obtain⟨n,k⟩:=y;rw[List.forIn_cons];unfold clOf;by_cases hk:(k==NameKind.free)=true
   ·obtain⟨c,hc⟩:=hl (n,k) af (by simpa using hk);have hc':env.cells.lookup n=some c:=hc;have e:cellOf env n=pure c:=by unfold cellOf;rw[hc']
    rw[if_pos hk,if_pos hk]
    dsimp only
    rw[e,hc'];exact ih ((n,c)::cs) fun y hy=>hl y (ak _ hy)
   ·rw[if_neg hk,if_neg hk];exact ih cs fun y hy=>hl y (ak _ hy)
 unfold closureFor;have:=go scope.names [] h
 first
  |exact this
  |(show(forIn scope.names [] _>>=fun r=>pure r)=_;rw[show(forIn scope.names ([]:List (Str×Addr)) _:Sem _)=_ from this];rfl)
theorem z6n {scope:Scope}{env:Env}(hc:∀y∈scope.names,y.2≠.cell){x:Str}:
  (nv scope env).names.lookup x=some .cell\/(nv scope env).names.lookup x=some .free->scope.names.lookup x=some .free:=by
 have go:∀(l:List (Str×c9)),(∀y∈l,y.2≠ .cell)->∀k,(k=NameKind.cell\/k=NameKind.free)->
   (l.map fun(n,k)=>if(k==.free&&env.scope.kind==.function&&env.kindOf n==some .cell)then(n,NameKind.cell)else(n,k)).lookup x=some k->l.lookup x=some .free:=by
  intro l
  induction l with
  |nil=>intro _ k _ h;simp at h
  |cons y r ih=>
   intro hl k hk h;obtain⟨n,q⟩:=y;rw[az]at h;rw[cf];by_cases c:(q==NameKind.free&&env.scope.kind==.function&&env.kindOf n==some .cell)=true
   ·have hq:q=.free:=by
     simp only[aw]at c;simpa using c.1.1
    dsimp only at h
    rw[if_pos c,cf]at h;cases e:(x==n)with
    |true=>rw[hq]
    |false=>rw[e]at h;exact ih (fun y hy=>hl y (ak _ hy)) k hk h
   ·dsimp only at h
    rw[if_neg c,cf]at h;cases e:(x==n)with
    |true=>
     rw[e]at h;have hq:q=k:=Option.some.inj h;rcases hk with hk|hk
     ·exact absurd (hq.trans hk) (hl (n,q) af)
     ·show some q=some .free;rw[hq,hk]
    |false=>rw[e]at h;exact ih (fun y hy=>hl y (ak _ hy)) k hk h
 rintro(h|h)
 ·exact go scope.names hc .cell (.inl rfl) h
 ·exact go scope.names hc .free (.inr rfl) h
def blk (X:Cx)(scope:Scope)(N':List Str)(C:Addr)(fp:List Addr)(s:aa)(H:Hp):Cx:={X with N:=N',s₀:=s,H₀:=H,env:=compEnvC scope (clOf X.env scope.names []) C X.env,outer:=X.stack,stack:=X.stack,ex:=fp,fn:=fun _=>false,xe:=fun _ _=>False,fx:=none}
structure BlkScope (X:Cx)(scope:Scope)(N':List Str)(nt:Nat)(js:List Nat):Prop where
 kind:scope.kind=.function
 nocell:∀y∈scope.names,y.2≠.cell
 names:∀y∈scope.names,y.2=.local->scope.names.lookup y.1=some .local
 frees:∀y∈scope.names,y.2=.free->X.env.scope.names.lookup y.1=some .cell\/X.env.scope.names.lookup y.1=some .free
 nd:N'.Nodup
 len:N'.length=nt+js.length
 pl:∀(i j:Nat),js[i]?=some j->N'[nt+i]?=X.N[j]?/\∃x,X.N[j]?=some x/\scope.names.lookup x=some .free
def blkB (NX:List Str)(sc0 scope:Scope)(N':List Str)(nt:Nat)(js:List Nat):Bool:=
 (scope.kind==.function)&&scope.names.all (fun y=>!(y.2==.cell))&&scope.names.all (fun y=>!(y.2==.local)||(scope.names.lookup y.1==some .local))&&
 scope.names.all (fun y=>!(y.2==.free)||(sc0.names.lookup y.1==some .cell)||(sc0.names.lookup y.1==some .free))&&decide N'.Nodup&&(N'.length==nt+js.length)&&
 (N'.drop nt==js.map fun j=>NX.getD j "")&&js.all (fun j=>decide (j<NX.length)&&(scope.names.lookup (NX.getD j "")==some .free))
theorem ziz {X:Cx}{NX:List Str}{sc0 scope:Scope}{N':List Str}{nt:Nat}{js:List Nat}(hN:X.N=NX)(hs:X.env.scope=sc0)(h:blkB NX sc0 scope N' nt js=true):BlkScope X scope N' nt js:=by
 unfold blkB at h;simp only[aw,bu,decide_eq_true_eq,beq_iff_eq,kz,mj,beq_eq_false_iff_ne]at h;obtain⟨⟨⟨⟨⟨⟨⟨h1,h2⟩,h3⟩,h4⟩,h5⟩,h6⟩,h7⟩,h8⟩:=h;refine⟨h1,h2,fun y hy e=>(h3 y hy).resolve_left (fun z=>z e),fun y hy e=>?_,h5,h6,fun i j hj=>?_⟩
 ·rw[hs];rcases h4 y hy with(z|z)|z
  ·exact absurd e z
  ·exact .inl z
  ·exact .inr z
 ·obtain⟨a,b⟩:=h8 j (b8 hj);have e:X.N[j]?=some (NX.getD j ""):=by rw[hN,bg a,bf,bg a];rfl
  refine⟨?_,_,e,b⟩;rw[e,<-List.getElem?_drop,h7,bc,hj];rfl
def emb (nt:Nat)(js:List Nat)(σ:St):St:=ba nt none++js.map fun j=>σ.getD j none
section
variable {X:Cx}{scope:Scope}{N':List Str}{nt:Nat}{js:List Nat}
theorem zeg {pins:List (Addr×Obj)}{σ:St}{H:Hp}{s:aa}{fp:List Addr}{h1:Heap}{m1:Str->Option Value}{t1:Nat}(B:BlkScope X scope N' nt js)(I:Inv X pins σ H s)
  (hfp:∀b∈fp,FpOk X pins H b) (hob:∀b∈fp,∃o,s.heap.get? b=some o)
  (k:∀b o,s.heap.get? b=some o->h1.get? b=some o) (hn:h1.Ns s.heap.objs.size m1):
  Inv (blk X scope N' s.heap.objs.size fp s H) pins (emb nt js σ) H {s with heap:=h1,toks:=t1}:=by
 have hcs:∀y∈scope.names,y.2=.free->∃c,X.env.cells.lookup y.1=some c:=fun y hy hf=>I.ok.has y.1 (B.frees y hy hf);have hcl:∀x c,(clOf X.env scope.names []).lookup x=some c->X.env.cells.lookup x=some c:=z96 _ _ hcs (fun x c h=>by simp at h);have lt:∀b o,s.heap.get? b=some o->b≠s.heap.objs.size:=fun b o e=>b9 (ax e);have hf:H s.heap.objs.size=none:=I.hok.fresh (ae _);refine⟨⟨I.ok.mod,B.kind,I.ok.glob,I.ok.blt,ae _,fun x y c h1 h2=>I.ok.inj x y c (hcl x c h1) (hcl y c h2),fun x hx=>z2w _ _ (z6n B.nocell hx),fun x c h=>(by cases h),I.ok.hd,I.ok.frames,.inl rfl,fun b hb=>?_,I.bs,bq I.ok.bsz I.sz,fun b o e hb=>?_,fun b hb hx=>?_,I.stack,I.stkFree,fun _ _ z=>by cases z⟩,rfl,I.bare,Un.kept k,⟨m1,hn,fun i x v e1 e2 e3=>?_⟩,fun x c e=>?_,hf,fun x c e=>I.freeC x c (hcl x c e),fun p hp=>?_,I.hok.kept k,?_,fun _ _ z=>by cases z⟩
 ·obtain⟨o,ho⟩:=hob b hb;exact⟨lt b o ho,fun x c h=>(hfp b hb).2.2.2.2.1 x c (hcl x c h)⟩
 ·rcases(hfp b hb).2.2.2.1 with z|z
  ·exact I.ok.noex b o e z
  ·exact absurd (bh (ax e) (bq I.ok.bsz z)) (cq _)
 ·rcases a8.mp (I.stkSub b hx)with z|z
  ·exact(hfp b hb).2.1 z
  ·exact(hfp b hb).2.2.1 z
 ·--a name with a value:one of the frame's
  have hi:nt<=i:=by refine Nat.le_of_not_lt fun h=>?_;unfold emb at e2;rw[dw (by rw[bz];exact h),c0,if_pos h]at e2;cases e2
  unfold emb at e2;rw[da (by rw[bz];exact hi),bz,bc]at e2;cases ej:js[i-nt]? with
  |none=>rw[ej]at e2;cases e2
  |some j=>
   rw[ej]at e2;have e2':σ.getD j none=some v:=Option.some.inj e2;obtain⟨h1',y,hy,hfree⟩:=B.pl (i-nt) j ej;rw[lp hi]at h1';have exy:x=y:=by have e1':N'[i]?=some x:=e1;rw[h1',hy]at e1';exact(Option.some.inj e1').symm
   subst exy
   have hσ:σ[j]?=some (some v):=by
    rw[bf]at e2';cases q:σ[j]? with
    |none=>rw[q]at e2';cases e2'
    |some z=>rw[q]at e2';exact congrArg some e2'
   have hfr:=B.frees (x,.free) (PySem.mem_of_lookup hfree) rfl;have hvis:Vis X.env.scope x:=hfr.elim (fun z=>.inr (.inl z)) (fun z=>.inr (.inr z));obtain⟨m,hnm,hl⟩:=I.loc;obtain⟨u,r,l⟩:=hl j x v hy hσ hvis;refine⟨u,r,?_⟩;rcases l with⟨hk,_⟩|⟨hk,c,hc,hcell⟩
   ·rcases hfr with z|z
    ·have hk':X.env.scope.names.lookup x=some .local:=hk;rw[z]at hk';cases hk'
    ·have hk':X.env.scope.names.lookup x=some .local:=hk;rw[z]at hk';cases hk'
   ·obtain⟨d,hd⟩:=z2w (env:=X.env) scope.names [] hfree;have hdc:d=c:=by have:=hcl x d hd;rw[hc]at this;cases this;rfl
    subst hdc;refine .inr ⟨?_,d,hd,?_⟩
    ·rcases e3 with z|z|z
     ·exfalso;have z':(nv scope X.env).names.lookup x=some .local:=z
      have:∀(l:List (Str×c9)),l.lookup x=some .free->(l.map fun(n,k)=>if(k==.free&&X.env.scope.kind==.function&&X.env.kindOf n==some .cell)then(n,NameKind.cell)else(n,k)).lookup x≠some .local:=by
       intro l
       induction l with
       |nil=>intro h;simp at h
       |cons y r ih=>
        intro h;obtain⟨n,q⟩:=y;rw[cf]at h;rw[az]
        dsimp only
        cases e:(x==n)with
        |true=>
         rw[e]at h;have hq:q=.free:=Option.some.inj h;subst hq;split
         ·rw[cf,e];intro z;cases z
         ·rw[cf,e];intro z;cases z
        |false=>
         rw[e]at h;split
         ·rw[cf,e];exact ih h
         ·rw[cf,e];exact ih h
      exact this _ hfree z'
     ·exact .inl z
     ·exact .inr z
    ·obtain⟨o,ho,hd'⟩:=hcell;exact⟨o,k _ _ ho,hd'⟩
 ·obtain⟨v,o,ho,hd⟩:=I.cell x c (hcl x c e);exact⟨v,o,k _ _ ho,hd⟩
 ·obtain⟨q1,q2,q3,q4,q5⟩:=I.pin p hp;refine⟨k _ _ q1,q2,lt _ _ q1,fun z=>?_,q5⟩;rcases a8.mp (I.stkSub p.1 z)with z|z
  ·exact q3 z
  ·exact q4 z
 ·show(emb nt js σ).length=N'.length;unfold emb;rw[ac,bz,ag,B.len]
end
section
variable (M:Model)(A:ce)(env:Env)
abbrev calmX:Value->aa->Prop:=fun _ _=>False
def zm6 (acc:Value)(Z:aa->Prop)(x:Value):aa->Prop:=wpAny M A (call (.builtin "list.append") [acc,x]) (fun _=>Z) calmX
def cElt (elt:Expr)(acc:Value)(Z:aa->Prop)(ok:Bool)(s:aa):Prop:=if ok=true then wpAny M A (eval elt env) (zm6 M A acc Z) calmX s else Z s
def zjj (ifs:List Expr)(elt:Expr)(acc:Value)(Z:aa->Prop):aa->Prop:=wpAny M A (forIn ifs true fun c r=>if r=true then(lc c env (eval c env)>>=fun ok=>pure (ForInStep.yield ok))else pure (ForInStep.yield r)) (cElt M A env elt acc Z) calmX
def cPut (tg:Expr)(ifs:List Expr)(elt:Expr)(acc:Value)(Z:aa->Prop)(v:Value):aa->Prop:=wpAny M A (ka tg env v) (fun _=>zjj M A env ifs elt acc Z) calmX
def cVal (tg:Expr)(ifs:List Expr)(elt:Expr)(it acc:Value)(End Z:aa->Prop)(r:Option Value)(s:aa):Prop:=match r with
 |some v=>wpAny M A (g9 tg it v) (fun _=>cPut M A env tg ifs elt acc Z v) calmX s
 |none=>End s
end
theorem zei {P:ao}{w:World}{A:ce}{R:Result->aa->Prop}{s:aa}{elt tg iter:Expr}{ifs:List Expr}{scope:Scope}{pos:Pos}{it acc:Value}{env:Env}(I:Nat->aa->Prop)
  (one:∀k t,I k t->wpAny (model P w) A (pyNext it) (cVal (model P w) A env tg ifs elt it acc (R (.ok .next)) fun t'=>∃m,m<k/\I m t') calmX t) (n:Nat) (h:I n s):
  ll (model P w) A (.compLoop (.ListComp elt [⟨tg,iter,ifs,0⟩] scope pos) 0 it acc env) R s:=by
 apply codeAny_loop rfl I _ n h;intro k t hk;apply wpAny_noted;apply wpAny_noRaise;rw[compTurn_list];apply ay;apply wpAny_standAt;apply ay;refine thn (one k t hk) ?_
 rintro(_|v) t1 h1
 ·exact bv h1
 apply ay;refine thn (show wpAny _ _ _ _ _ _ from h1) fun _ t2 h2=>?_;apply ay;refine thn (show wpAny _ _ _ _ _ _ from h2) fun _ t3 h3=>?_;apply ay;refine thn (show wpAny _ _ _ _ _ _ from h3) ?_
 rintro(_|_) t4 h4
 ·exact bv ⟨rfl,h4⟩
 apply ay;apply ay;refine thn (show wpAny _ _ _ _ _ _ from h4) fun x t5 h5=>?_;apply ay;refine thn (show wpAny _ _ _ _ _ _ from h5) fun _ t6 h6=>?_;exact bv (bv ⟨rfl,h6⟩)
theorem Un.but {fs ex:List Addr}{H H1:Hp}{h h1 h':Heap}{C:Addr}(u:Un fs ex H H1 h h1)(hC:h.get? C=none)(sb:ez C h1 h'):Un fs ex H H1 h h':=by
 have ne:∀b o,h.get? b=some o->b≠C:=fun b o e z=>by rw[z,hC]at e;cases e
 exact⟨fun b o e n hb hx=>sb.extBut b o (ne b o e) (u.keep b o e n hb hx),fun b o e n hb hx=>let⟨sl,q⟩:=u.slot b o e n hb hx;⟨sl,sb.extBut b _ (ne b o e) q⟩,u.free,fun b o e hx=>let⟨o',q⟩:=u.there b o e hx;⟨o',sb.extBut b _ (ne b o e) q⟩,u.tups,u.frzs,u.tbls⟩
theorem HOk.but {P:ao}{w:World}{H:Hp}{h h':Heap}{C:Addr}(ok:HOk P w H h)(hC:H C=none)(sb:ez C h h'):HOk P w H h':=fun a o e=>by
 refine(ok a o e).stay (fun b u hb q=>sb.extBut b u (fun z=>?_) q) (fun _ q=>q) fun _ _ q=>q;rcases hb with hb|hb
 ·rw[z]at hb;rw[<-hb,hC]at e;cases e
 ·rw[z,hC]at hb;cases hb
def PTs (X:Cx)(ifs:List Expr)(t:TT):Prop:=∀(pins:List (Addr×Obj)) (s:aa) (σ:St) (H:Hp) (Q:Bool->Hp->Prop),Inv X pins σ H s->t σ H Q->wpAny (model X.prog X.w) X.A (forIn ifs true fun c r=>if r=true then do let ok <-lc c X.env (eval c X.env);pure (ForInStep.yield ok)else pure (ForInStep.yield r)) (TP X pins σ Q) X.xe s
def tYes:TT:=fun _ H Q=>Q true H
theorem zd4 {X:Cx}:PTs X [] tYes:=fun _ _ _ H _ I h=>wpAny_tests_nil ⟨H,I,h⟩
theorem zcz {X:Cx}{c:Expr}{t:TT}(h:PT X c t):PTs X [c] t:=fun pins s σ H Q I q=>wpAny_tests_one (h pins s σ H Q I q)
def Keep (a b:St):Prop:=a.length=b.length/\∀(i:Nat) v,a[i]?=some (some v)->b[i]?=some (some v)
theorem Keep.refl (a:St):Keep a a:=⟨rfl,fun _ _ h=>h⟩
def tLC (wi:TI)(g:TG)(tc:TT)(te:TE)(em:St->St):TE:=fun σ H Q=>wi σ H fun J H1=>∀l,H1 l=none->∃P:Nat->Nat->List V->Hp->Prop,(∃m,P 0 m [] (upd H1 l (.lst [])))/\∀i m acc H2,P i m acc H2->(J.stop i H2/\Q (.ref l) H2)\/(J.go i H2/\acc.length<aq/\∃N:List V->Hp->Prop,(∀acc' H',N acc' H'->∃m',m'<m/\P (i+1) m' acc' H')/\∀x H3,J.yld i H2 x H3->g x (em σ) H3 fun σ4 H4=>Keep (em σ) σ4/\tc σ4 H4 fun b H5=>if b=true then te σ4 H5 fun y H6=>H6 l=some (.lst acc)/\N (acc++[y]) (upd H6 l (.lst (acc++[y])))else N acc H5)
section
variable {X:Cx}{scope:Scope}{N':List Str}{nt:Nat}{js:List Nat}{tg iter elt:Expr}{ifs:List Expr}{wi:TI}{g:TG}{tc:TT}{te:TE}{pos:Pos}
theorem z36 {pins:List (Addr×Obj)}{σ:St}{s2:aa}{Q:VK}{itv:Value}{E:Value->aa->Prop}{RR:Value->Addr->Result->aa->Prop}(hc:X.calm=true)(B:BlkScope X scope N' nt js)
  (hg:∀C fp s H,PG (blk X scope N' C fp s H) tg g) (ht:∀C fp s H,PTs (blk X scope N' C fp s H) ifs tc) (he:∀C fp s H,PE (blk X scope N' C fp s H) elt te)
  (h2:PIE X pins σ tg (fun J H1=>∀l,H1 l=none->∃P:Nat->Nat->List V->Hp->Prop,(∃m,P 0 m [] (upd H1 l (.lst [])))/\∀i m acc H2,P i m acc H2->(J.stop i H2/\Q (.ref l) H2)\/(J.go i H2/\acc.length<aq/\∃N:List V->Hp->Prop,(∀acc' H',N acc' H'->∃m',m'<m/\P (i+1) m' acc' H')/\∀x H3,J.yld i H2 x H3->g x (emb nt js σ) H3 fun σ4 H4=>Keep (emb nt js σ) σ4/\tc σ4 H4 fun b H5=>
  if b=true then te σ4 H5 fun y H6=>H6 l=some (.lst acc)/\N (acc++[y]) (upd H6 l (.lst (acc++[y])))else N acc H5)) itv s2)
  (hRR:∀(l C:Addr) (H':Hp) (s1:aa),(∃m,s1.heap.Ns C m)->H' C=none->C≠X.env.locals->C∉X.fs->(∀x c,X.env.cells.lookup x=some c->c≠C)->X.s₀.heap.objs.size<=C->(∀p∈X.pn++pins,p.1≠C)->(∀h',ez C s1.heap h'->Inv X pins σ H' {s1 with heap:=h'})->Q (.ref l) H'->RR (.ref l) C (.ok .next) s1):
  wpAny (model X.prog X.w) X.A (newList []) (fun acc s₃=>wpAny (model X.prog X.w) X.A (newFunctionEnv scope X.env.globals (clOf X.env scope.names []) [] X.env.qual none .none (some X.env)) (fun cenv s₄=>ll (model X.prog X.w) X.A (.compStart (.ListComp elt [⟨tg,iter,ifs,0⟩] scope pos) 0 itv acc {cenv with scope:=nv scope X.env}) (RR acc cenv.locals) s₄) E s₃) E s2:=by
 obtain⟨it,fp,tn,J,H2,rfl,I2,T,st2,f2,q⟩:=h2;refine gk (wpAny_newFunctionEnv B.nocell (by intro y hy;simp at hy) (fun h₁ hns₁ hsb₁=>?_) B.kind)
 dsimp only at hns₁ hsb₁ ⊢
 have hob2:∀b∈fp,∃o,s2.heap.get? b=some o:=fun b hb=>let⟨o,e,_⟩:=T.obj 0 _ st2 b hb;⟨o,e⟩;have hl:H2 s2.heap.objs.size=none:=I2.hok.fresh (ae _);have I3:=I2.lnew (ys:=[]) (its:=[]) (t':=s2.toks) .nil (df _);obtain⟨P,⟨m0,p0⟩,turn⟩:=q _ hl;generalize hHh:s2.heap.push {cls:=.type "list",dict:=none,data:=.seq ([]:List Value).toArray}=Hh at hns₁ hsb₁ I3 ⊢;generalize hlv:s2.heap.objs.size=l at hl I3 p0 turn ⊢;have old2:∀b o,s2.heap.get? b=some o->Hh.get? b=some o:=fun b o e=>hHh▸am _ e;have k:∀b o,Hh.get? b=some o->h₁.get? b=some o:=fun b o e=>hsb₁.extBut b o (b9 (ax e)) (am _ e)
 have f3:∀b∈fp,FpOk X pins (upd H2 l (.lst [])) b:=fun b hb=>by
  obtain⟨o,e⟩:=hob2 b hb;have nl:b≠l:=by rw[<-hlv];exact b9 (ax e)
  exact⟨by rw[z06 nl];exact(f2 b hb).1,(f2 b hb).2⟩
 have hob3:∀b∈fp,∃o,Hh.get? b=some o:=fun b hb=>let⟨o,e⟩:=hob2 b hb;⟨o,old2 b o e⟩;have J0:=zeg (s:={s2 with heap:=Hh,toks:=s2.toks}) (t1:=s2.toks+([]:List (Str×Value)).length) B I3 f3 hob3 k hns₁;have stA:∀{H':Hp},(∀b∈fp,H' b=none)->∀b∈fp,FpOk (blk X scope N' Hh.objs.size fp {s2 with heap:=Hh,toks:=s2.toks} (upd H2 l (.lst []))) pins H' b:=fun hn b hb=>⟨hn b hb,(J0.ok.exf b hb).1,J0.ok.exfs b hb,.inl hb,(J0.ok.exf b hb).2,(f2 b hb).2.2.2.2.2⟩;have hCn:Hh.get? Hh.objs.size=none:=lb (ae _);have out:∀{H':Hp} {s1:aa},Inv (blk X scope N' Hh.objs.size fp {s2 with heap:=Hh,toks:=s2.toks} (upd H2 l (.lst []))) pins (emb nt js σ) H' s1->∀h',ez Hh.objs.size s1.heap h'->Inv X pins σ H' {s1 with heap:=h'}:=fun{H' s1} Jn h' sb=>by refine I3.call' (s':={s1 with heap:=h'}) (ch:=fp) Jn.os (Un.but Jn.base hCn sb) (Jn.hok.but Jn.free sb) Jn.bare fun b hb=>?_;exact⟨(f3 b hb).2.2.2.1,(f3 b hb).2.1,(f3 b hb).2.2.2.2.1,(f3 b hb).2.2.2.2.2⟩
 have nL:Hh.objs.size≠X.env.locals:=Nat.ne_of_gt (I3.lt);have nF:Hh.objs.size∉X.fs:=I3.nofs (ae _);have nC:∀x c,X.env.cells.lookup x=some c->c≠Hh.objs.size:=fun x c e z=>by obtain⟨v,q⟩:=I3.cell x c e;exact absurd q.lt (by rw[z];exact cq _)
 have nS:X.s₀.heap.objs.size<=Hh.objs.size:=I3.sz;have nP:∀p∈X.pn++pins,p.1≠Hh.objs.size:=fun p hp=>b9 (ax (I3.pin p hp).1)
 have loop:∀s₃:aa,s₃={s2 with heap:=h₁,toks:=s2.toks+([]:List (Str×Value)).length}->
   ll (model X.prog X.w) X.A (.compLoop (.ListComp elt [⟨tg,iter,ifs,0⟩] scope pos) 0 (.ref it) (.ref l) (compEnvC scope (clOf X.env scope.names []) Hh.objs.size X.env)) (RR (.ref l) Hh.objs.size) s₃:=by
  rintro s₃ rfl
  refine zei (fun n s'=>∃i acc H',Inv (blk X scope N' Hh.objs.size fp {s2 with heap:=Hh,toks:=s2.toks} (upd H2 l (.lst []))) pins (emb nt js σ) H' s'/\tn i s'.heap/\(∀b∈fp,H' b=none)/\P i n acc H') ?_ m0 ⟨0,[],_,J0,T.keep _ _ _ st2 fun b _ o e=>k b o (old2 b o e),fun b hb=>(f3 b hb).1,p0⟩
  rintro n s3 ⟨i,acc,H3,Jn,st3,fr3,w3⟩
  rcases turn i n acc H3 w3 with⟨stop,qn⟩|⟨go,hz8,N,hN,step⟩
  ·refine thn (T.done (blk X scope N' Hh.objs.size fp {s2 with heap:=Hh,toks:=s2.toks} (upd H2 l (.lst []))) rfl rfl rfl hc i pins s3 _ H3 (fun _ _=>False) Jn (stA fr3) st3 stop) fun r s4 ⟨hr,I4⟩=>?_;subst hr;obtain⟨m,hn,_⟩:=id I4.loc;exact hRR l Hh.objs.size H3 s4 ⟨m,hn⟩ I4.free nL nF nC nS nP (out I4) qn
  ·refine thn (T.item (blk X scope N' Hh.objs.size fp {s2 with heap:=Hh,toks:=s2.toks} (upd H2 l (.lst []))) rfl rfl rfl hc i pins s3 _ H3 (fun _ _=>False) Jn (stA fr3) st3 go) fun r s4 ⟨u,hr,h4⟩=>?_;subst hr;refine thn h4 fun _ s5 ⟨x,H5,I5,r5,y5,st5,fr5⟩=>?_;have I5':=I5.pinned (stA fr5) (T.obj _ _ st5);refine thn (hg _ _ _ _ _ s5 _ H5 x u _ I5' r5 (step x H5 y5)) fun _ s6 ⟨σ6,H6,I6,kp,q6⟩=>?_;refine thn (ht _ _ _ _ _ s6 σ6 H6 _ I6 q6) fun b s7 ⟨H7,I7,q7⟩=>?_
   have again:∀{s7:aa} {H7:Hp} {acc':List V},Inv (blk X scope N' Hh.objs.size fp {s2 with heap:=Hh,toks:=s2.toks} (upd H2 l (.lst []))) (pins++z57 fp s5.heap) σ6 H7 s7->N acc' H7->
     ∃m,m<n/\∃i acc H',Inv (blk X scope N' Hh.objs.size fp {s2 with heap:=Hh,toks:=s2.toks} (upd H2 l (.lst []))) pins (emb nt js σ) H' s7/\tn i s7.heap/\(∀b∈fp,H' b=none)/\P i m acc H':=fun{s7 H7 acc'} I7 w7=>by
    obtain⟨n',hm,w7⟩:=hN _ _ w7;refine⟨n',hm,i+1,acc',H7,(I7.unpinned).weak kp.1 kp.2,T.keep _ _ _ st5 fun b hb o e=>(I7.pin (b,o) (ar _ (ar _ (z1t hb e)))).1,fun b hb=>?_,w7⟩;obtain⟨o,e,d⟩:=T.obj _ _ st5 b hb;exact(I7.pin (b,o) (ar _ (ar _ (z1t hb e)))).2.1
   cases b with
   |false=>rw[if_neg bn]at q7;unfold cElt;rw[if_neg bn];exact again I7 q7
   |true=>rw[if_pos rfl]at q7;unfold cElt;rw[if_pos rfl];refine thn (he _ _ _ _ _ s7 σ6 H7 _ I7 q7) fun y' s8 ⟨y,H8,I8,r8,hl8,w8⟩=>?_;refine thn (z2u _ s8 σ6 H8 (.ref l) [y] (.ref l) [y'] (fun _ H9=>N (acc++[y]) H9) I8 rfl (.cons r8 .nil) ⟨l,acc,y,rfl,rfl,hl8,hz8,w8⟩) fun _ s9 ⟨v9,H9,I9,r9,w9⟩=>?_;exact again I9 w9
 exact codeAny_compStart_list (loop _ rfl) (T.self _ 0 _ _ _ (T.keep _ _ _ st2 fun b _ o e=>k b o (old2 b o e)) (loop _ rfl))
theorem za9 (hc:X.calm=true)(B:BlkScope X scope N' nt js)(hi:PI X tg iter wi)
  (hg:∀C fp s H,PG (blk X scope N' C fp s H) tg g) (ht:∀C fp s H,PTs (blk X scope N' C fp s H) ifs tc) (he:∀C fp s H,PE (blk X scope N' C fp s H) elt te)
  (hs:∀x,c8 iter X.env x=pure x:=by intro _;rfl):PE X (.ListComp elt [⟨tg,iter,ifs,0⟩] scope pos) (tLC wi g tc te (emb nt js)):=by
 intro pins s σ H Q I h;rw[eval_ListComp];refine jx (use:=none) rfl hs (z23 fun y hy hf=>I.ok.has y.1 (B.frees y hy hf)) B.kind B.names (thn (hi pins s σ H _ I h) fun v s1 h1=>thn h1 fun itv s2 h2=>?_);refine z36 (RR:=fun acc C=>compPost (model X.prog X.w) X.A X.xe none (EP X pins σ Q) acc C) hc B hg ht he h2 ?_;intro l C H' s1 ns _ _ _ _ _ _ out q;obtain⟨m,hn⟩:=ns;exact⟨m,hn,fun h' sb=>⟨.ref l,H',out h' sb,rfl,q⟩⟩
def zgx (i:Nat)(t:TE):TS:=fun D σ H=>t σ H fun v H1=>D.nx (σ.set i (some v)) H1
theorem zal {y:Str}{py spos:Pos}{i:Nat}(hc:X.calm=true)(hN:X.N.Nodup)(hy:X.N[i]?=some y)(hl:X.env.scope.names.lookup y=some .local)(B:BlkScope X scope N' nt js)(hi:PI X tg iter wi)
  (hg:∀C fp s H,PG (blk X scope N' C fp s H) tg g) (ht:∀C fp s H,PTs (blk X scope N' C fp s H) ifs tc) (he:∀C fp s H,PE (blk X scope N' C fp s H) elt te)
  (hsw:i5 (.ListComp elt [⟨tg,iter,ifs,0⟩] scope pos) (some (.Name y py)) spos.line X.env=pure true)
  (hs:∀x,c8 iter X.env x=pure x:=by intro _;rfl):PS X (.Assign [.Name y py] (.ListComp elt [⟨tg,iter,ifs,0⟩] scope pos) spos) (zgx i (tLC wi g tc te (emb nt js))):=by
 intro pins s σ H D I h;have ex:=exec_Assign_Name_used _ _ _ _ hsw;rw[ex];apply ay;apply wpAny_standAt;apply ay;show wpAny _ X.A (do let _ <-comprehension (.ListComp elt [⟨tg,iter,ifs,0⟩] scope pos) scope X.env _ (newList []) false (eval iter X.env) (some (ka (.Name y py) X.env))) _ _ s;refine ay (gc (jx (use:=some (ka (.Name y py) X.env)) (Q:=fun _ s'=>SP X pins D .next s') rfl hs (z23 fun z hz hf=>I.ok.has z.1 (B.frees z hz hf)) B.kind B.names (thn (hi pins s σ H _ I h) fun v s1 h1=>thn h1 fun itv s2 h2=>?_)) (fun _ s' hq=>bv (bv hq)) fun _ _ e=>e);refine z36 (Q:=fun v H1=>D.nx (σ.set i (some v)) H1) (RR:=fun acc C=>compPost (model X.prog X.w) X.A X.xe (some (ka (.Name y py) X.env)) (fun _ s'=>SP X pins D .next s') acc C) hc B hg ht he h2 ?_;intro l C H' s1 ns hH nL nF nC nS nP out q;obtain⟨m,hn⟩:=ns;have I1:Inv X pins σ H' s1:=out s1.heap (.refl ..);obtain⟨oC,es,ep,hoC,hdC,hrC⟩:=id hn
 have I2:Inv X (pins++[(C,oC)]) σ H' s1:=I1.pins_of fun p hp=>(bx.mp hp).elim (fun z=>I1.pin p (ar _ z)) fun z=>by
  have e:p=(C,oC):=by simpa using z
  subst e;exact⟨hoC,hH,nL,nF,fun v z=>by have z':oC.data=.cell v:=z;rw[hdC]at z';cases z'⟩
 show wpAny _ X.A (ka (.Name y py) X.env (.ref l)) _ _ s1;refine md (z3i I2 hN hy (.inl hl) (v:=.ref l) rfl (fun s'' I''=>?_) (.inr hl));have hC2:=(I''.pin (C,oC) (ar _ (ar _ (cj.mpr rfl)))).1;refine⟨m,⟨oC,es,ep,hC2,hdC,hrC⟩,fun h' sb=>⟨_,H',?_,q⟩⟩;exact(I''.unpinned).turned (t':=s''.toks) (fun b o hb e=>sb.extBut b o hb e) hH nL (.inr nS) nC nP
end
def Its (z:Str):It:=⟨fun i _=>i<z.cps.size,fun i H x H'=>H'=H/\∃c,z.cps[i]?=some c/\x=.str ⟨#[c]⟩,fun i _=>z.cps.size<=i⟩
theorem za8 {P:ao}{w:World}{K:W.Frag}{tg:Expr}{ty:String}(hty:ty="str_ascii_iterator"\/ty="str_iterator")(it:Addr)(z:Str)(t:Tok):Turn P w K tg (Its z) [it] it (fun i h=>h.IsStrIter it ty z t i) where
 mem:=by simp
 obj:=fun i h st b hb=>by
  have e:b=it:=by simpa using hb
  subst e;obtain⟨o,e,c,d⟩:=st;exact⟨o,e,fun v z=>by rw[d]at z;cases z⟩
 keep:=fun i h h' st k=>let⟨o,e,r⟩:=st;⟨o,k it (by simp) o e,r⟩
 item:=by
  intro X hP hw hK hc i pins s σ H E I hf st hg;subst hP hw hK;obtain⟨f0,f1,f2,f3,f4,f5⟩:=hf it (by simp);have hi:i<z.cps.size:=hg
  have fin:∀(u:Value) (h':Heap) (tk:Nat),SignAt z i u->h'.IsStrIter it ty z t (i+1)->(∀b o,b∉ [it]->s.heap.get? b=some o->h'.get? b=some o)->
    ∃u',some u=some u'/\wpAny (model X.prog X.w) X.A (g9 tg (.ref it) u') (fun _ s2=>∃x H',Inv X pins σ H' s2/\RelV x u'/\(Its z).yld i H x H'/\s2.heap.IsStrIter it ty z t (i+1)/\∀b∈[it],H' b=none) E {s with heap:=h',toks:=tk}:=by
   rintro u h' tk ⟨c,t',hx,rfl⟩ st' kk
   have I1:Inv X pins σ H {s with heap:=h',toks:=tk}:=I.turned (fun b o hb e=>kk b o (by simpa using hb) e) f0 f1 f3 f4 f5;obtain⟨o,e,cc,d⟩:=id st';exact⟨_,rfl,z9x (s:={s with heap:=h',toks:=tk}) e cc d (by rcases hty with rfl|rfl<;>decide) ⟨.str ⟨#[c]⟩,H,I1,⟨t',rfl⟩,⟨rfl,c,hx,rfl⟩,st',fun b hb=>(hf b hb).1⟩⟩
  rcases hty with rfl|rfl
  ·exact(Walks.strAscii (prog:=X.prog) (w:=X.w) (I.ok.hd hc) it z t).item i s _ _ hi st fun v h' tk hv st' kk=>fin v h' tk hv st' kk
  ·exact(Walks.strWide (prog:=X.prog) (w:=X.w) (I.ok.hd hc) it z t).item i s _ _ hi st fun v h' tk hv st' kk=>fin v h' tk hv st' kk
 done:=by
  intro X hP hw hK hc i pins s σ H E I hf st hg;subst hP hw hK;obtain⟨f0,f1,f2,f3,f4,f5⟩:=hf it (by simp);have hi:z.cps[i]?=none:=by have:z.cps.size<=i:=hg;simpa using this
  rcases hty with rfl|rfl
  ·exact wpAny_pyNext_ascii_end (I.ok.hd hc) st hi fun h' eb=>⟨rfl,I.turned (t':=s.toks) (fun b o hb e=>eb b o hb e) f0 f1 f3 f4 f5⟩
  ·exact wpAny_pyNext_wide_end (I.ok.hd hc) st hi fun h' eb=>⟨rfl,I.turned (t':=s.toks) (fun b o hb e=>eb b o hb e) f0 f1 f3 f4 f5⟩
 self:=fun _ _ _ _ _ st h=>by
  rcases hty with rfl|rfl
  ·exact wpAny_pyIter_striter_ascii st h
  ·exact wpAny_pyIter_striter_wide st h
section
variable {X:Cx}{tg:Expr}
end
theorem zkn {J:It}{n:Nat}{g:TG}{tc:TT}{te:TE}{σ':St}{Q:VK}{H1:Hp}{l:Addr}(P:Nat->List V->Hp->Prop)(hn:n<=aq)(h0:P 0 [] (upd H1 l (.lst [])))
  (hlen:∀i acc H,P i acc H->acc.length<=i)
  (hstop:∀acc H,P n acc H->J.stop n H/\Q (.ref l) H) (hgo:∀i acc H,i<n->P i acc H->J.go i H)
  (turn:∀i acc H x H3,i<n->P i acc H->J.yld i H x H3->g x σ' H3 fun σ4 H4=>Keep σ' σ4/\tc σ4 H4 fun b H5=>if b=true then te σ4 H5 fun y H6=>H6 l=some (.lst acc)/\P (i+1) (acc++[y]) (upd H6 l (.lst (acc++[y])))else P (i+1) acc H5):
  ∃P:Nat->Nat->List V->Hp->Prop,(∃m,P 0 m [] (upd H1 l (.lst [])))/\∀i m acc H2,P i m acc H2->(J.stop i H2/\Q (.ref l) H2)\/(J.go i H2/\acc.length<aq/\∃N:List V->Hp->Prop,(∀acc' H',N acc' H'->∃m',m'<m/\P (i+1) m' acc' H')/\∀x H3,J.yld i H2 x H3->g x σ' H3 fun σ4 H4=>Keep σ' σ4/\tc σ4 H4 fun b H5=>if b=true then te σ4 H5 fun y H6=>H6 l=some (.lst acc)/\N (acc++[y]) (upd H6 l (.lst (acc++[y])))else N acc H5):=by
 refine⟨fun i m acc H=>i<=n/\m=n-i/\P i acc H,⟨n,df _,rfl,h0⟩,?_⟩
 rintro i m acc H2 ⟨hi,rfl,p⟩
 by_cases hlt:i<n
 ·have hl:=hlen i acc H2 p;exact .inr ⟨hgo i acc H2 hlt p,by omega,P (i+1),fun acc' H' p'=>⟨n-(i+1),by omega,hlt,rfl,p'⟩,fun x H3 y=>turn i acc H2 x H3 hlt p y⟩
 ·have e:i=n:=by omega
  subst e;exact .inl (hstop acc H2 p)
section
variable {X:Cx}
theorem z95:OpR X (bw .LtE) (fun x y H Q=>∃i j,x=.str i/\y=.str j/\Q (.bl (!decide (j.cps.toList<i.cps.toList))) H):=by intro pins s σ H x y v u Q I rx ry h;obtain⟨i,j,rfl,rfl,q⟩:=h;obtain⟨t,rfl⟩:=rx;obtain⟨t',rfl⟩:=ry;exact PySem.P.le_str ⟨.bl _,H,I,rfl,q⟩
theorem z92:OpR X (bw .Gt) (fun x y H Q=>∃i j,x=.str i/\y=.str j/\Q (.bl (decide (j.cps.toList<i.cps.toList))) H):=by intro pins s σ H x y v u Q I rx ry h;obtain⟨i,j,rfl,rfl,q⟩:=h;obtain⟨t,rfl⟩:=rx;obtain⟨t',rfl⟩:=ry;exact PySem.P.gt_str ⟨.bl _,H,I,rfl,q⟩
def rSlS:V->Option Int->Option Int->Hp->VK->Prop:=fun x lo hi H Q=>∃z,x=.str z/\z.length<=aq/\Q (.str (Txt.slice z lo hi)) H
theorem z6b:SlR X rSlS:=by
 intro pins s σ H x v vl vu lo hi sl Q I rx hs pl pu h;obtain⟨z,rfl,hz,q⟩:=h;obtain⟨t,rfl⟩:=rx;refine⟨"str",_,PySem.F.slot_str_getitem.lookup,ni _ _ _,?_⟩;obtain⟨o,ho,hc,hd⟩:=hs;have fin:∀t' k,EP X pins σ Q (.str (Txt.slice z lo hi) t') {s with toks:=k}:=fun t' k=>⟨.str _,H,I.tok _,⟨_,rfl⟩,q⟩;cases pl with
 |none=>
  cases pu with
  |none=>exact fz (l:=none) (u:=none) (st:=none) ⟨o,ho,hc,hd⟩ rfl (jf ⟨bq (Txt.slice_le z _ _) hz,fin⟩)
  |int j tj=>exact fz (l:=none) (u:=some (j,tj)) (st:=none) ⟨o,ho,hc,hd⟩ rfl (jf ⟨bq (Txt.slice_le z _ _) hz,fin⟩)
 |int i ti=>
  cases pu with
  |none=>exact fz (l:=some (i,ti)) (u:=none) (st:=none) ⟨o,ho,hc,hd⟩ rfl (jf ⟨bq (Txt.slice_le z _ _) hz,fin⟩)
  |int j tj=>exact fz (l:=some (i,ti)) (u:=some (j,tj)) (st:=none) ⟨o,ho,hc,hd⟩ rfl (jf ⟨bq (Txt.slice_le z _ _) hz,fin⟩)
end
def Own (K:W.Frag)(mg:Str->Option Value)(x:Str)(st:Stmt)(ps:List Str):Prop:=∃f fd,Fun K x x st f fd/\mg x=some (.ref f)/\W.keepIn K (.ref f)=true/\Binds K fd ps []
def Cal (P:ao)(w:World)(K:W.Frag)(mg:Str->Option Value)(base:Heap)(k:Nat)(x:Str)(ps:List Str)(sp:Sp):Prop:=∃f fd,FnOk P w K mg base CX0 k f fd ps sp/\mg x=some (.ref f)/\W.keepIn K (.ref f)=true/\Binds K fd ps []
section
variable {P:ao}{w:World}{K:W.Frag}{mg:Str->Option Value}{base:Heap}
theorem zfl {h:Heap}{x:Str}{st:Stmt}{f:Addr}{ps:List Str}{oc:Value}{od an:Option Addr}{osl:Array (Option Value)}{kV doc pm cdv ct:Value}(X:K.In h)(G:h.Ns bj mg)
  (a:W.nsIn K bj x=some (some (.ref f))) (l:K.lookup f=some ⟨oc,od,.func (W.fnOf x x (z17 st) (z0p st) (z05 st) .none kV doc pm an cdv ct),osl⟩) (c:W.codeIn K cdv x=true) (k:W.keepIn K (.ref f)=true)
  (b:∀(kV doc pm:Value) (an:Option Addr) (cdv ct:Value) (us:List Value),us.length=ps.length->nh (W.fnOf x x (z17 st) (z0p st) (z05 st) .none kV doc pm an cdv ct) ⟨us,[]⟩=pure (ps.zip us)):Own K mg x st ps:=
 ⟨f,_,z8k l c k,W.mg_of X G a,k,(z8k (st:=st) l c k).binds b⟩
theorem Cal.imp {k:Nat}{x:Str}{ps:List Str}{sp sp':Sp}(C:Cal P w K mg base k x ps sp)(h:∀vs H Q E,sp' vs H Q E->sp vs H Q E):Cal P w K mg base k x ps sp':=by obtain⟨f,fd,F,r⟩:=C;exact⟨f,fd,F.imp h,r⟩
end
def isStar:Expr->Bool
 |.Starred ..=>true
 |_=>false
theorem z0g {e:Expr}{es:List Expr}{env:Env}(h:isStar e=false):cu (e::es) env=(false,eval e env)::cu es env:=by cases e<;>first|rfl|cases h
theorem z0z {pos:Pos}{env:Env}:∀{es:List Expr},(es.all fun e=> !isStar e)=true->(i3 pos (cu es env)).any (·.1)=false
 | [],_=>rfl
 |e::es,h=>by have h':=av.mp (ci▸h);rw[z0g (by simpa using h'.1)];show(false||(i3 pos (cu es env)).any (·.1))=false;rw[z0z h'.2];rfl
section
variable {X:Cx}{x:Str}{p pos:Pos}{e:Expr}{es:List Expr}{t:TA}{id T:String}{r:List V->Hp->VK->Prop}
theorem pa_c {te:TE}(ha:PE X e te)(hr:PA X es t)(hs:isStar e=false:=by rfl):PA X (e::es) (zdh te t):=z8h ha hr (z0g hs)
theorem ziv (hc:CallR X (.builtin id) r)(hm:X.mg x=none)(hv:ck x=some (.builtin id))(ha:PA X (e::es) t)(hst:((e::es).all fun e=> !isStar e)=true:=by rfl)(hg:Gl X x:=by rfl)(hn:x≠"__name__":=by decide)(hdb:(x==("__debug__":Str))=false:=by decide):PE X (.Call (.Name x p) (e::es) [] pos) (tCB r t):=by rw[ci,aw]at hst;exact za7 hc hg hm hv ha hn hdb (z0g (by simpa using hst.1)) (z0z hst.2)
theorem ze5 (hc:CallR X (.type T) r)(hm:X.mg x=none)(hv:ck x=some (.type T))(ha:PA X (e::es) t)(hst:((e::es).all fun e=> !isStar e)=true:=by rfl)(hg:Gl X x:=by rfl)(hn:x≠"__name__":=by decide)(hdb:(x==("__debug__":Str))=false:=by decide):PE X (.Call (.Name x p) (e::es) [] pos) (tCB r t):=by rw[ci,aw]at hst;exact z9l hc hg hm hv ha hn hdb (z0g (by simpa using hst.1)) (z0z hst.2)
theorem z6g {k k':Nat}{ps:List Str}{sp:Sp}(C:Cal X.prog X.w X.K X.mg X.base k x ps sp)(hr:Room k' X.A)(ha:PA X (e::es) t)(hst:((e::es).all fun e=> !isStar e)=true:=by rfl)(hk:k<=k':=by decide)(hg:Gl X x:=by rfl)
  (hdb:(x==("__debug__":Str))=false:=by decide):PE X (.Call (.Name x p) (e::es) [] pos) (zg7 sp [] E0 t):=by
 obtain⟨f,fd,F,m,kp,b⟩:=C;rw[ci,aw]at hst;exact zdg F (hr.mono hk) hg m kp b .nil zk2 ha hdb (z0g (by simpa using hst.1)) (z0z hst.2)
end
def z1w:Expr->Bool
 |.ListComp ..=>true
 |.SetComp ..=>true
 |.DictComp ..=>true
 |_=>false
theorem z1v {e:Expr}(h:z1w e=false)(tg:Option Expr)(n:Nat)(env:Env):i5 e tg n env=pure false:=by cases e<;>first|rfl|cases h
theorem ps_s {X:Cx}{pos:Pos}{i:Nat}{x:Str}{e:Expr}{te:TE}{pos':Pos}(hN:X.N.Nodup)(hi:X.N[i]?=some x)(hx:Loc X.env.scope x)(he:PE X e te)(hs:z1w e=false:=by rfl)(hf:X.fn x=true\/X.env.scope.names.lookup x=some .local:=by first|exact .inl rfl|exact .inr rfl|assumption): PS X (.Assign [.Name x pos'] e pos) (tAsg te (zdq i)):=zc0 hN hi hx he (z1v hs _ _ _) hf
theorem ps_e {X:Cx}{pos:Pos}{e:Expr}{te:TE}(he:PE X e te)(hs:z1w e=false:=by rfl):PS X (.Expr e pos) (zg4 te):=zdr he (z1v hs _ _ _)
section
variable {X:Cx}
def zdz (K:W.Frag):R2:=fun x y H Q=>rI0 (fun i j=>.int (i+j)) x y H Q\/(∃i j,x=.str i/\y=.str j/\i.length+j.length<=aq/\Q (.str (i++j)) H)\/rCat x y H Q\/zg8 K x y H Q
def rLtA:R2:=fun x y H Q=>rI0 (fun i j=>.bl (decide (i<j))) x y H Q\/∃i j,x=.str i/\y=.str j/\Q (.bl (decide (i.cps.toList<j.cps.toList))) H
def rLeA:R2:=fun x y H Q=>rI0 (fun i j=>.bl (decide (i<=j))) x y H Q\/∃i j,x=.str i/\y=.str j/\Q (.bl (!decide (j.cps.toList<i.cps.toList))) H
def rGtA:R2:=fun x y H Q=>rI0 (fun i j=>.bl (decide (j<i))) x y H Q\/∃i j,x=.str i/\y=.str j/\Q (.bl (decide (j.cps.toList<i.cps.toList))) H
def rInA (K:W.Frag)(neg:Bool):R2:=fun x y H Q=>rIn K neg x y H Q\/∃i j,x=.str i/\y=.str j/\Q (.bl (if neg then !(!(cn j i 0 j.length 1).isEmpty)else !(cn j i 0 j.length 1).isEmpty)) H
def rSlA (K:W.Frag):V->Option Int->Option Int->Hp->VK->Prop:=fun x lo hi H Q=>rSlL K x lo hi H Q\/rSlS x lo hi H Q
def zke (K:W.Frag):List V->Hp->VK->Prop:=fun xs H Q=>(∃z,xs=[.str z]/\z.length<=aq/\Q (.int z.length) H)\/(∃p ys,xs=[.ref p]/\(SqL K H p ys\/SqT K H p ys)/\Q (.int ys.length) H)
theorem zm0:OpR X (dr .Add) (zdz X.K):=zhx.or (z75.or (zh9.or ze0))
theorem opLt:OpR X (bw .Lt) rLtA:=zkc.or z7d
theorem opLe:OpR X (bw .LtE) rLeA:=zkx.or z95
theorem opGt:OpR X (bw .Gt) rGtA:=zkr.or z92
theorem opIn:OpR X (bw .In) (rInA X.K false):=z7p.or z79
theorem zdw:OpR X (bw .NotIn) (rInA X.K true):=z43.or z4r
theorem zkp:IxR X (rIx X.K):=zi0
theorem zmp:SlR X (rSlA X.K):=zet.or z6b
theorem zey:CallR X (.builtin "len") (zke X.K):=z55.or z3y
theorem PI.or {tg iter:Expr}{wi wi':TI}(h:PI X tg iter wi)(h':PI X tg iter wi'):PI X tg iter (fun σ H R=>wi σ H R\/wi' σ H R):=by
 intro pins s σ H R I q;rcases q with q|q
 ·exact h pins s σ H R I q
 ·exact h' pins s σ H R I q
end
def isT (t T:String):Bool:=t==T||(t=="bool"&&T=="int")
def tysA:List String:=["NoneType","bool","int","str","list","tuple","dict"]
def tysB:List String:=["str","int","bool","tuple","list"]
theorem zew (K:W.Frag):∀t∈tysA,∀T∈tysB,W.kitOne K (.type t) (.type T)=some (isT t T):=by intro t ht T hT;simp only[tysA,a8,cy,or_false]at ht;simp only[tysB,a8,cy,or_false]at hT;rcases ht with rfl|rfl|rfl|rfl|rfl|rfl|rfl<;>rcases hT with rfl|rfl|rfl|rfl|rfl<;>kernel_rfl
section
variable {D:Ends}{σ:St}{H:Hp}{g:TG}{tb:TS}
end
section
variable {σ:St}{H:Hp}{R:It->Hp->Prop}{K:W.Frag}{te:TE}{ta:TA}
end
section
variable {D:Ends}{σ:St}{H:Hp}{Q:VK}{t u:TS}{te ta tb tc':TE}{r r':R2}{K:W.Frag}
theorem zif {i j:Int}(h:Q (.int (i+j)) H):zdz K (.int i) (.int j) H Q:=.inl ⟨i,j,rfl,rfl,h⟩
theorem zgh {i j:Str}(c:i.length+j.length<=aq)(h:Q (.str (i++j)) H):zdz K (.str i) (.str j) H Q:=.inr (.inl ⟨i,j,rfl,rfl,c,h⟩)
theorem zk1 {i j:Int}(h:Q (.bl (decide (i<j))) H):rLtA (.int i) (.int j) H Q:=.inl ⟨i,j,rfl,rfl,h⟩
theorem zm5 {i j:Int}(h:Q (.bl (decide (i<=j))) H):rLeA (.int i) (.int j) H Q:=.inl ⟨i,j,rfl,rfl,h⟩
theorem zjs {i j:Int}(h:Q (.bl (decide (j<i))) H):rGtA (.int i) (.int j) H Q:=.inl ⟨i,j,rfl,rfl,h⟩
theorem zkq {i j:Str}(h:Q (.bl (decide (i.cps.toList<j.cps.toList))) H):rLtA (.str i) (.str j) H Q:=.inr ⟨i,j,rfl,rfl,h⟩
theorem zkd {i j:Str}(h:Q (.bl (!decide (j.cps.toList<i.cps.toList))) H):rLeA (.str i) (.str j) H Q:=.inr ⟨i,j,rfl,rfl,h⟩
theorem zlr {i j:Str}(h:Q (.bl (decide (j.cps.toList<i.cps.toList))) H):rGtA (.str i) (.str j) H Q:=.inr ⟨i,j,rfl,rfl,h⟩
section
variable {q:Bool->Hp->Prop}{s t:TT}
end
section
variable {q:List V->Hp->Prop}{a:TA}
end
end
section
variable {g:TG}{tc:TT}{te:TE}{σ':St}{l:Addr}{Q:VK}{H1:Hp}
end
section
variable {K:W.Frag}{H:Hp}{Q:VK}
theorem zk7 {z:Str}{c:Nat}(h:Q (.bl (decide (c∈z.cps.toList))) H):rInA K false (.str ⟨#[c]⟩) (.str z) H Q:=.inr ⟨_,z,rfl,rfl,by have e:(if false=true then !(!(cn z ⟨#[c]⟩ 0 z.length 1).isEmpty)else !(cn z ⟨#[c]⟩ 0 z.length 1).isEmpty)=decide (c∈z.cps.toList):=PySem.StrLaws.found_one z c;rw[e];exact h⟩
theorem zhi {z:Str}{c:Nat}(h:Q (.bl (!decide (c∈z.cps.toList))) H):rInA K true (.str ⟨#[c]⟩) (.str z) H Q:=.inr ⟨_,z,rfl,rfl,by have e:(if true=true then !(!(cn z ⟨#[c]⟩ 0 z.length 1).isEmpty)else !(cn z ⟨#[c]⟩ 0 z.length 1).isEmpty)=!decide (c∈z.cps.toList):=congrArg Bool.not (PySem.StrLaws.found_one z c);rw[e];exact h⟩
end
section
variable {K:W.Frag}{H:Hp}{Q:VK}
theorem Same.upd {H:Hp}{p:Addr}{o:HO}(h:H p=none):Same H (L2.upd H p o):=fun b u e=>by rw[z06 (z0c e h)];exact e
theorem zbl {n:Nat}(h:n<=1000):n<=aq:=bq h (by rw[fg];decide)
end
theorem TyOf.same {K:W.Frag}{H H':Hp}{x:V}{t:Value}(s:Same H H')(h:TyOf K H x t):TyOf K H' x t:=by
 cases h with
 |non=>exact .non
 |bl b=>exact .bl b
 |int i=>exact .int i
 |str z=>exact .str z
 |flt z=>exact .flt z
 |lst e=>exact .lst (s _ _ e)
 |frz e=>exact .frz (s _ _ e)
 |tup e=>exact .tup (s _ _ e)
 |dK e=>exact .dK (s _ _ e)
 |dT e=>exact .dT (s _ _ e)
 |ins e a b c d f=>exact .ins (s _ _ e) a b c d f
section
variable {X:Cx}{a b c e o value i f:Expr}{es:List Expr}{ta tb tc te td ty tv tx to:TE}{t:TA}{pos pos' p p2 tpos apos cpos:Pos}
section
variable {tA tB':TT}{rest:List Expr}
end
section
variable {st:Stmt}{sts:List Stmt}{u v:TS}
end
end
section
variable {P:ao}{w:World}{K:W.Frag}{mg:Str->Option Value}{base:Heap}
end
end L2
namespace Mi
open PySem
abbrev D:=ah
inductive Res (α:Type) where
 |ok (a:α)|exc (e:D)|no
namespace Res
def bind {α β:Type}(x:Res α)(f:α->Res β):Res β:=match x with
 |.ok a=>f a
 |.exc e=>.exc e
 |.no=>.no
instance:Monad Res where
 pure:=.ok
 bind:=Res.bind
theorem ok_bind {α β:Type}(a:α)(f:α->Res β):(Res.ok a>>=f)=f a:=rfl
theorem exc_bind {α β:Type}(e:D)(f:α->Res β):((Res.exc e:Res α)>>=f)=.exc e:=rfl
theorem no_bind {α β:Type}(f:α->Res β):((Res.no:Res α)>>=f)=.no:=rfl
def ofO {α:Type}:Option α->Res α
 |some a=>.ok a
 |none=>.no
theorem bind_ok {α β:Type}{x:Res α}{f:α->Res β}{b:β}(h:(x>>=f)=.ok b):∃a,x=.ok a/\f a=.ok b:=by
 cases x with
 |ok a=>exact⟨a,rfl,h⟩
 |exc e=>cases h
 |no=>cases h
end Res
mutual
def imm:ah->Bool
 |.tuple xs=>imms xs
 |.list _=>false
 |.dict _=>false
 |.none=>true
 |.bool _=>true
 |.int _=>true
 |.str _=>true
def imms:List ah->Bool
 | []=>true
 |x::xs=>imm x&&imms xs
end
theorem z1s:∀{xs:List D},imms xs=true↔∀x∈xs,imm x=true
 | []=>by simp[imms]
 |x::xs=>by rw[imms,aw,z1s];simp
abbrev eqD:D->D->Bool:=PyData.eqv
mutual
def shal:Nat->ah->Bool
 |0,.tuple _=>false
 |0,.list _=>false
 |n+1,.tuple xs=>z10 n xs
 |n+1,.list xs=>z10 n xs
 |_,.dict _=>false
 |_,.none=>true
 |_,.bool _=>true
 |_,.int _=>true
 |_,.str _=>true
def z10:Nat->List ah->Bool
 |_,[]=>true
 |n,x::xs=>shal n x&&z10 n xs
end
theorem z26 {n:Nat}:∀{xs:List D},z10 n xs=true↔∀x∈xs,shal n x=true
 | []=>by simp[z10]
 |x::xs=>by rw[z10,aw,z26];simp
def truth:ah->Bool
 |.none=>false
 |.bool b=>b
 |.int i=>!decide (i=0)
 |.str x=>!decide (x.length=0)
 |.tuple xs=>!xs.isEmpty
 |.list xs=>!xs.isEmpty
 |.dict es=>!es.isEmpty
def ixN (n:Nat)(i:Int):Option Nat:=if 0<=i then(if i<n then some i.toNat else none)else if -(n:Int)<=i then some (i+n).toNat else none
def atI {α:Type}(xs:List α)(i:Int):Option α:=(ixN xs.length i).bind fun j=>xs[j]?
def sIx (n d:Nat):Option Int->Nat
 |none=>d
 |some v=>if v<0 then(v+(n:Int)).toNat else min v.toNat n
def cut {α:Type}(xs:List α)(lo hi:Option Int):List α:=(xs.drop (sIx xs.length 0 lo)).take (sIx xs.length xs.length hi-sIx xs.length 0 lo)
def cut3 {α:Type}(xs:List α)(lo hi st:Option Int):List α:=(sliceRange (fi lo hi st xs.length).1 (fi lo hi st xs.length).2.1 (fi lo hi st xs.length).2.2).filterMap (xs[·]?)
def eqK:ah->ah->Bool
 |.int a,y=>match y with|.int b=>a==b|_=>false
 |.str a,y=>match y with|.str b=>decide (a=b)|_=>false
 |_,_=>false
def isK:ah->Bool
 |.int _=>true
 |.str _=>true
 |_=>false
abbrev Ents:=List (D×D)
def z1c (es:Ents)(k:D):Option D:=(es.find? fun e=>eqK e.1 k).map (·.2)
def dput (es:Ents)(k v:D):Ents:=if es.any (fun e=>eqK e.1 k)then es.map (fun e=>if eqK e.1 k then(e.1,v)else e)else es++[(k,v)]
def ent (e:D×D):D:=.tuple [e.1,e.2]
def zgd:Ents->List D->Option Ents
 |es,[]=>some es
 |es,p::ps=>match p with
  |.tuple [k,v]=>if isK k then zgd (dput es k v) ps else none
  |_=>none
mutual
def ltD:ah->ah->Bool
 |.int a,y=>match y with|.int b=>decide (a<b)|_=>false
 |.str a,y=>match y with|.str b=>decide (a.cps.toList<b.cps.toList)|_=>false
 |.tuple xs,y=>match y with|.tuple ys=>ltDs xs ys|_=>false
 |.none,_=>false
 |.bool _,_=>false
 |.list _,_=>false
 |.dict _,_=>false
def ltDs:List ah->List ah->Bool
 | [],ys=>!ys.isEmpty
 |x::xs,ys=>match ys with|y::ys=>if eqD x y then ltDs xs ys else ltD x y| []=>false
end
def insD (x:D):List D->List D
 | []=>[x]
 |y::ys=>if ltD y x then y::insD x ys else x::y::ys
def z82:List D->List D
 | []=>[]
 |x::xs=>insD x (z82 xs)
def isI:D->Bool
 |.int _=>true
 |_=>false
def isS:D->Bool
 |.str _=>true
 |_=>false
def ofK (b:Bool)(x:D):Bool:=if b then isI x else isS x
def shps:List Bool->List D->Bool
 | [],xs=>xs.isEmpty
 |b::bs,xs=>match xs with|x::xs=>ofK b x&&shps bs xs| []=>false
def zl6 (bs:List Bool):D->Bool
 |.tuple xs=>shps bs xs
 |_=>false
def z98 (xs:List D):Bool:=xs.all isI||xs.all isS||(match xs with|.tuple ys::_=>!ys.isEmpty&&xs.all (zl6 (ys.map isI))|_=>false)
section
inductive G where
 |fr|od|al|nu
 deriving Inhabited,DecidableEq
abbrev Rho:=List (Option (G×D))
abbrev GD:=G×D
inductive Tg where
 |nm (i:Nat)|tp (is:List Nat)
 deriving Inhabited,DecidableEq
inductive C where
 |var (i:Nat)|non|bl (b:Bool)|int (i:Int)|str (x:Str)
 |glob (k:Nat) (x:Str)
 |bin (op:gy) (a b:C)|neg (a:C)
 |cmp (op:CmpOp) (a b:C)|chain (op op':CmpOp) (a b c:C)
 |isN (neg:Bool) (a:C)|isB (neg:Bool) (a:C) (b:Bool)
 |and (a b:C)|or (a b:C)|not (a:C)|ife (c a b:C)
 |tup (xs:C)|lst (xs:C)|rep (xs b:C)|dnew|dis (ks:List Str) (xs:C)
 |ix (a b:C)|sl (a lo hi:C)|sl3 (a lo hi st:C)
 |call (k:Nat) (f:Str) (args:C)|bi (f:String) (args:C)|agg (f:String) (a:C)|isT (a:C) (ts:List String)
 |mt (m:String) (o args:C)
 |fst (parts:C)|fs (a:C) (x:Str) (b:C)
 |comp (nt:Nat) (js:List Nat) (N':List Str) (tg:Tg) (it cond elt:C)
 |compI (i nt:Nat) (N':List Str) (tg:Tg) (cond elt:C)|sortI (i:Nat)|sortK (i:Nat)|upr (a:C)|lk (i:Nat)|d1 (k v:C)
 |rng (args:C)|items (o:C)|vals (o:C)|enum (a:C)|zip (a b:C)
 |tv (a:C)|isE (b:Bool) (x:Str)|lset (a:C)
 |nil|cons (a r:C)
 deriving Inhabited
inductive S where
 |nil|seq (a b:S)|pass|bad|asg (t:Tg) (e:C)|setIx (i:Nat) (k v:C)|mut (m:String) (i:Nat) (args:C)
 |drop (e:C)|ret (e:C)|retN|ifS (c:C) (a b:S)|for_ (t:Tg) (it:C) (b:S)|wh (n:Nat) (c:C) (b:S)|brk|cnt|pop (j i:Nat)|pap (i:Nat) (a r:C)|stl (s:S)
 |rse (c:Str)|tr (k:Nat) (f:Str) (args:C) (c:Str) (i:Nat) (b:S)|alt (a b:S)
 deriving Inhabited
inductive Out where
 |nx (ρ:Rho)|rt (g:G) (d:D)|bk (ρ:Rho)|ct (ρ:Rho)
abbrev Fn:=List D->Res GD
def LIM:Nat:=1000000
def rdG:G->G
 |.fr=>.al
 |.od=>.od
 |.al=>.al
 |.nu=>.nu
def rdS:Option (Option GD)->Res GD
 |some (some (g,d))=>.ok (if imm d then .fr else rdG g,d)
 |_=>.no
def z1f:D->Res Bool
 |.str x=>if x.length<=LIM then .ok (!decide (x.length=0))else .no
 |d=>.ok (truth d)
def rtG:G->G
 |.fr=>.fr
 |.od=>.al
 |.al=>.al
 |.nu=>.fr
def agG:G->G
 |.fr=>.fr
 |.od=>.al
 |.al=>.al
 |.nu=>.nu
def gJ (d:D)(g:G):G:=if imm d then .fr else g
def gN (d:D)(g:G):G:=match d with
 |.list xs=>if imms xs then .fr else g
 |d=>gJ d g
def gAll (xs:List GD):G:=if xs.all (fun x=>x.1==.fr)then .fr else if xs.all (fun x=>x.1==.fr||x.1==.nu)then .nu else .al
def gCo (xs:List GD):G:=if xs.all (fun x=>x.1==.fr)then .fr else .al
def immE (es:Ents):Bool:=es.all fun e=>imm e.2
def z1e:GD->GD
 |(g,d)=>if imm d then(.al,d)else match g,d with
  |.fr,.list xs=>(if imms xs then .fr else .nu,.list xs)
  |.fr,.dict es=>(if immE es then .fr else .nu,.dict es)
  |.fr,d=>(.nu,d)
  |.nu,d=>(.nu,d)
  |.od,d=>(.od,d)
  |.al,d=>(.al,d)
def z5p:GD->GD
 |(g,d)=>match g with|.od=>(.od,d)|_=>(.al,d)
def toAl:Option GD->Option GD
 |some (.fr,d)=>some (.al,d)
 |some (.nu,d)=>some (.al,d)
 |s=>s
def z07:Option GD->Option GD
 |some (.al,d)=>if imm d then some (.al,d)else none
 |s=>s
def settle:Option GD->Option GD
 |some (.nu,d)=>some (.od,d)
 |some (.al,d)=>if imm d then some (.al,d)else some (.od,d)
 |s=>s
def settleA:Option GD->Option GD
 |some (g,d)=>if imm d then some (.al,d)else some (.od,d)
 |none=>none
def isFr:Option GD->Bool
 |some (.fr,_)=>true
 |_=>false
def noOwn (ρ:Rho):Bool:=ρ.all fun s=>!isFr s
def z2y:Rho->List Nat->List D->G->Option Rho
 |ρ,[],[],_=>some ρ
 |ρ,i::is,d::ds,g=>z2y (ρ.set i (some (z5p (gJ d g,d)))) is ds g
 |_,_,_,_=>none
def z0x:Tg->GD->Rho->Res Rho
 |.nm i,x,ρ=>.ok (ρ.set i (some (z5p x)))
 |.tp is,(g,.tuple ds),ρ=>Res.ofO (z2y ρ is ds g)
 |_,_,_=>.no
def lenD:D->Res D
 |.str x=>if x.length<=LIM then .ok (.int x.length)else .no
 |.tuple xs=>.ok (.int xs.length)
 |.list xs=>.ok (.int xs.length)
 |.dict es=>.ok (.int es.length)
 |_=>.no
def z1o {α:Type}(n:Nat)(xs:List α):List α:=(ba n xs).flatten
def binD:gy->D->D->Res D
 |.Add,.int a,.int b=>.ok (.int (a+b))
 |.Add,.str a,.str b=>if a.length+b.length<=LIM then .ok (.str (a++b))else .no
 |.Add,.list a,.list b=>if a.length+b.length<=LIM then .ok (.list (a++b))else .no
 |.Add,.tuple a,.tuple b=>if a.length+b.length<=LIM then .ok (.tuple (a++b))else .no
 |.Sub,.int a,.int b=>.ok (.int (a-b))
 |.Mult,.str a,.int n=>if 0<=n/\n<=LIM/\a.length*n.toNat<=LIM then .ok (.str ⟨(z1o n.toNat a.cps.toList).toArray⟩)else .no
 |.Mult,.int a,.int b=>if(-(2 ^ 64)<a/\a<2 ^ 64)\/(-(2 ^ 64)<b/\b<2 ^ 64)then .ok (.int (a*b))else .no
 |.FloorDiv,.int a,.int b=>if 0<b/\b<2 ^ 200 then .ok (.int (a/b))else .no
 |.Mod,.int a,.int b=>if 0<b then .ok (.int (a%b))else .no
 |.Pow,.int a,.int b=>if 0<=b/\b<=1000/\a.natAbs<2 ^ 64 then .ok (.int (a ^ b.toNat))else .no
 |_,_,_=>.no
def inD (x:D):D->Res Bool
 |.list xs=>if shal 40 x&&z10 40 xs then .ok (xs.any fun y=>eqD y x)else .no
 |.tuple xs=>if shal 40 x&&z10 40 xs then .ok (xs.any fun y=>eqD y x)else .no
 |.dict es=>if isK x then .ok (z1c es x).isSome else .no
 |.str z=>match x with
  |.str w=>(match w.cps.toList with| [c]=>.ok (decide (c∈z.cps.toList))|_=>.no)
  |_=>.no
 |_=>.no
def cmpD:CmpOp->D->D->Res Bool
 |.Eq,x,y=>if shal 40 x&&shal 40 y then .ok (eqD x y)else .no
 |.NotEq,x,y=>if shal 40 x&&shal 40 y then .ok (!eqD x y)else .no
 |.Lt,.int a,.int b=>.ok (decide (a<b))
 |.LtE,.int a,.int b=>.ok (decide (a<=b))
 |.Gt,.int a,.int b=>.ok (decide (b<a))
 |.GtE,.int a,.int b=>.ok (decide (b<=a))
 |.Lt,.str a,.str b=>.ok (decide (a.cps.toList<b.cps.toList))
 |.LtE,.str a,.str b=>.ok (!decide (b.cps.toList<a.cps.toList))
 |.Gt,.str a,.str b=>.ok (decide (b.cps.toList<a.cps.toList))
 |.In,x,y=>inD x y
 |.NotIn,x,y=>inD x y>>=fun b=>.ok (!b)
 |_,_,_=>.no
def ixD:D->D->Res D
 |.list xs,.int i=>Res.ofO (atI xs i)
 |.tuple xs,.int i=>Res.ofO (atI xs i)
 |.str z,.int i=>if z.length<=LIM then Res.ofO ((atI z.cps.toList i).map fun c=>.str ⟨#[c]⟩)else .no
 |.dict es,k=>if isK k then Res.ofO (z1c es k)else .no
 |_,_=>.no
def z13 (z:Str)(lo hi:Option Int):Str:=⟨(cut z.cps.toList lo hi).toArray⟩
def sl3D:D->Option Int->Option Int->Option Int->Res D
 |.list xs,lo,hi,st=>if st=some 0 then .no else .ok (.list (cut3 xs lo hi st))
 |_,_,_,_=>.no
def slD:D->Option Int->Option Int->Res D
 |.list xs,lo,hi=>.ok (.list (cut xs lo hi))
 |.tuple xs,lo,hi=>if sIx xs.length 0 lo=0/\sIx xs.length xs.length hi=xs.length then .no else .ok (.tuple (cut xs lo hi))
 |.str z,lo,hi=>if z.length<=LIM then .ok (.str (z13 z lo hi))else .no
 |_,_,_=>.no
def intO:D->Res (Option Int)
 |.int i=>.ok (some i)
 |_=>.no
def z5l:D->Res (List D)
 |.list xs=>.ok xs
 |.tuple xs=>.ok xs
 |.str z=>if z.length<=LIM then .ok (z.cps.toList.map fun c=>.str ⟨#[c]⟩)else .no
 |_=>.no
def sumD:List D->Option Int
 | []=>some 0
 |.int i::r=>(sumD r).map (i+ ·)
 |_=>none
def allB:List D->Option (List Bool)
 | []=>some []
 |.bool b::r=>(allB r).map (b:: ·)
 |_=>none
def allS:List D->Option (List Str)
 | []=>some []
 |.str b::r=>(allS r).map (b:: ·)
 |_=>none
def z4e:D->Res (Bool×List D)
 |.list xs=>.ok (true,xs)
 |.tuple xs=>.ok (false,xs)
 |_=>.no
def aggD (f:String)(l:Bool)(xs:List D):Res D:=
 if f="list"then .ok (.list xs)
 else if f="tuple"then .ok (.tuple xs)
 else if f="sorted"then(if(l||imms xs)&&z98 xs&&decide (xs.length<64)then .ok (.list (z82 xs))else .no)
 else if f="sum"then(if l then Res.ofO ((sumD xs).map .int)else .no)
 else if f="all"then(if l then Res.ofO ((allB xs).map fun bs=>.bool (bs.all id))else .no)
 else if f="any"then(if l then Res.ofO ((allB xs).map fun bs=>.bool (bs.any id))else .no)
 else if f="dict"then Res.ofO ((zgd [] xs).map .dict)
 else .no
def vI:D->Option Int
 |.int i=>some i
 |_=>none
def vT:D->Option (List D)
 |.tuple xs=>some xs
 |_=>none
def min2 (x y:D):Res D:=Res.ofO ((vI x).bind fun a=>(vI y).map fun b=>.int (min a b))
def minD (xs:List D):Res D:=if xs.length=2 then min2 (xs.getD 0 .none) (xs.getD 1 .none)else if xs.length=1 then(match vT (xs.getD 0 .none)with|some ys=>if ys.length=2 then min2 (ys.getD 0 .none) (ys.getD 1 .none)else .no|none=>.no)else .no
def zh6:List Str->List Str->List Str
 |acc,[]=>acc
 |acc,z::ws=>zh6 (if z∈acc then acc else acc++[z]) ws
def zjq:D->Res D
 |.list xs=>match allS xs with
  |some ws=>if decide (ws.length<4000)then .ok (.int ((zh6 [] ws).length:Int))else .no
  |none=>.no
 |_=>.no
def biD (f:String)(xs:List D):Res D:=
 if f="len"then(match xs with| [x]=>lenD x|_=>.no)
 else if f="max"then(match xs with| [.int a,.int b]=>.ok (.int (max a b))|_=>.no)
 else if f="int"then(match xs with| [.int a]=>.ok (.int a)| [.bool b]=>.ok (.int (if b then 1 else 0))|_=>.no)
 else if f="str"then(match xs with| [.int a]=>if a.natAbs.log2<1920 then .ok (.str (toString a))else .no|_=>.no)
 else if f="min"then minD xs
 else .no
def tyOf:D->String
 |.none=>"NoneType"|.bool _=>"bool"|.int _=>"int"|.str _=>"str"|.tuple _=>"tuple"|.list _=>"list"|.dict _=>"dict"
def isTy (t T:String):Bool:=t==T||(t=="bool"&&T=="int")
def z3s (sep:List Nat):List Str->List Nat
 | []=>[]
 |x::r=>x.cps.toList++(r.map fun p=>sep++p.cps.toList).flatten
def z0o (sep:Str)(xs:List Str):Str:=⟨(z3s sep.cps.toList xs).toArray⟩
def z20 (sep:Str)(xs:List Str):Nat:=(xs.map (·.length)).sum+xs.length*sep.length
def mtD (m:String)(o:D)(xs:List D):Res D:=
 if m="get"then(match o,xs with|.dict es,[k,d]=>if isK k then .ok ((z1c es k).getD d)else .no|_,_=>.no)
 else if m="join"then(match o,xs with|.str z,[.list ys]=>(match allS ys with|some ss=>if z20 z ss<=LIM then .ok (.str (z0o z ss))else .no|none=>.no)|_,_=>.no)
 else .no
def upD:D->Res D
 |.str z=>if z.cps.toList.all (fun c=>decide (97<=c)&&decide (c<=122))&&decide (z.length<=LIM)then .ok (.str ⟨(z.cps.toList.map (· -32)).toArray⟩)else .no
 |_=>.no
def rngD:List D->Res (List D)
 | [.int n]=>if n<=LIM/\-LIM<=n then .ok ((cb n.toNat).map fun(i:Nat)=>.int i)else .no
 | [.int a,.int b]=>if -LIM<=a/\b<=LIM/\a<=LIM/\-LIM<=b then .ok ((cb (b-a).toNat).map fun(i:Nat)=>.int (a+i))else .no
 | [.int a,.int b,.int c]=>if -LIM<=a/\b<=LIM/\a<=LIM/\-LIM<=b/\0<c/\c<=LIM then .ok ((cb (if a<b then((b-a-1)/c+1).toNat else 0)).map fun(i:Nat)=>.int (a+i*c))else .no
 |_=>.no
def z1h:Nat->List D->List D
 |_,[]=>[]
 |i,x::xs=>.tuple [.int i,x]::z1h (i+1) xs
def zipD:List D->List D->List D
 |x::xs,y::ys=>.tuple [x,y]::zipD xs ys
 |_,_=>[]
def seqI:D->Res (List D)
 |.list xs=>if imms xs&&decide (xs.length<=LIM)then .ok xs else .no
 |.tuple xs=>if imms xs&&decide (xs.length<=LIM)then .ok xs else .no
 |_=>.no
def txtD:D->Res Str
 |.str z=>if z.length<=LIM then .ok z else .no
 |.int i=>if i.natAbs.log2<1920 then .ok (toString i)else .no
 |_=>.no
def repD (ys:List GD):D->Res GD
 |.int n=>if imms (ys.map (·.2))=true/\0<=n/\n<=LIM/\ys.length*n.toNat<=LIM then .ok (.fr,.list (z1o n.toNat (ys.map (·.2))))else .no
 |_=>.no
def oc:Option GD->List GD->List GD
 |some y,r=>y::r
 |none,r=>r
def z1z (f:D->Res (Option GD)):List D->Res (List GD)
 | []=>.ok []
 |x::xs=>f x>>=fun o=>z1z f xs>>=fun r=>.ok (oc o r)
variable (Κ:List D)(Φ:List Fn)
mutual
def evE:C->Rho->Res GD
 |.var i,ρ=>rdS ρ[i]?
 |.non,_=>.ok (.fr,.none)
 |.bl b,_=>.ok (.fr,.bool b)
 |.int i,_=>.ok (.fr,.int i)
 |.str x,_=>.ok (.fr,.str x)
 |.isE b _,_=>.ok (.fr,.bool b)
 |.lset a,ρ=>evE a ρ>>=fun x=>zjq x.2>>=fun d=>.ok (.fr,d)
 |.glob k _,_=>match Κ[k]? with|some d=>.ok (gJ d .al,d)|none=>.no
 |.bin op a b,ρ=>evE a ρ>>=fun x=>evE b ρ>>=fun y=>binD op x.2 y.2>>=fun d=>.ok (gN d (gAll [x,y]),d)
 |.neg a,ρ=>evE a ρ>>=fun x=>match x.2 with|.int i=>.ok (.fr,.int (-i))|_=>.no
 |.cmp op a b,ρ=>evE a ρ>>=fun x=>evE b ρ>>=fun y=>cmpD op x.2 y.2>>=fun b=>.ok (.fr,.bool b)
 |.chain op op' a b c,ρ=>evE a ρ>>=fun x=>evE b ρ>>=fun y=>cmpD op x.2 y.2>>=fun k=>if k then evE c ρ>>=fun z=>cmpD op' y.2 z.2>>=fun k'=>.ok (.fr,.bool k')else .ok (.fr,.bool false)
 |.isN ng a,ρ=>evE a ρ>>=fun x=>.ok (.fr,.bool (match x.2 with|.none=>!ng|_=>ng))
 |.isB ng a b,ρ=>evE a ρ>>=fun x=>match x.2 with|.bool c=>.ok (.fr,.bool (if ng then !(c==b)else c==b))|_=>.no
 |.and a b,ρ=>evE a ρ>>=fun x=>match x.2 with|.bool c=>if c then evE b ρ else .ok (.fr,.bool false)|_=>.no
 |.or a b,ρ=>evE a ρ>>=fun x=>match x.2 with|.bool c=>if c then .ok (.fr,.bool true)else evE b ρ|_=>.no
 |.not a,ρ=>evE a ρ>>=fun x=>z1f x.2>>=fun c=>.ok (.fr,.bool (!c))
 |.ife c a b,ρ=>evT c ρ>>=fun k=>if k then evE a ρ else evE b ρ
 |.tup xs,ρ=>evA xs ρ>>=fun ys=>.ok (gJ (.tuple (ys.map (·.2))) (gAll ys),.tuple (ys.map (·.2)))
 |.lst xs,ρ=>evA xs ρ>>=fun ys=>.ok (gAll ys,.list (ys.map (·.2)))
 |.rep xs b,ρ=>evA xs ρ>>=fun ys=>evE b ρ>>=fun n=>repD ys n.2
 |.dnew,_=>.ok (.fr,.dict [])
 |.ix a b,ρ=>evE a ρ>>=fun x=>evE b ρ>>=fun y=>ixD x.2 y.2>>=fun d=>.ok (gJ d x.1,d)
 |.sl a lo hi,ρ=>evE a ρ>>=fun x=>evO lo ρ>>=fun l=>evO hi ρ>>=fun h=>slD x.2 l h>>=fun d=>.ok (gN d (gAll [x]),d)
 |.sl3 a lo hi st,ρ=>evE a ρ>>=fun x=>evO lo ρ>>=fun l=>evO hi ρ>>=fun h=>(evE st ρ>>=fun z=>intO z.2)>>=fun k=>sl3D x.2 l h k>>=fun d=>.ok (gJ d (gAll [x]),d)
 |.call k _ args,ρ=>evA args ρ>>=fun ys=>match Φ[k]? with|some m=>m (ys.map (·.2))>>=fun r=>.ok (gJ r.2 (rtG r.1),r.2)|none=>.no
 |.bi f args,ρ=>evA args ρ>>=fun ys=>biD f (ys.map (·.2))>>=fun d=>.ok (gJ d .al,d)
 |.agg f a,ρ=>evG a ρ>>=fun w=>aggD f w.2.1 w.2.2>>=fun d=>.ok (gJ d (if imms w.2.2 then .fr else agG w.1),d)
 |.isT a ts,ρ=>evE a ρ>>=fun x=>.ok (.fr,.bool (ts.any fun T=>isTy (tyOf x.2) T))
 |.mt m o args,ρ=>evE o ρ>>=fun x=>evA args ρ>>=fun ys=>mtD m x.2 (ys.map (·.2))>>=fun d=>.ok (gJ d .al,d)
 |.fs a x b,ρ=>evE a ρ>>=fun u=>txtD u.2>>=fun p=>evE b ρ>>=fun v=>txtD v.2>>=fun q=>if p.length+x.length+q.length<=LIM then .ok (.fr,.str (p++x++q))else .no
 |.sortK i,ρ=>match ρ[i]? with
  |some (some (_,.dict es))=>if((es.map (·.1)).all isI||(es.map (·.1)).all isS)&&decide (es.length<64)then .ok (.fr,.list (z82 (es.map (·.1))))else .no
  |_=>.no
 |.lk i,ρ=>match ρ[i]? with
  |some (some (_,.dict es))=>if decide (es.length<=LIM)then .ok (.fr,.list (es.map (·.1)))else .no
  |_=>.no
 |.d1 k v,ρ=>evE k ρ>>=fun x=>evE v ρ>>=fun y=>if isK x.2&&imm y.2 then .ok (.fr,.dict [(x.2,y.2)])else .no
 |.upr a,ρ=>evE a ρ>>=fun x=>upD x.2>>=fun d=>.ok (.fr,d)
 |.sortI i,ρ=>match ρ[i]? with
  |some (some (_,.dict es))=>if immE es&&z98 (es.map ent)&&decide (es.length<64)then .ok (.fr,.list (z82 (es.map ent)))else .no
  |_=>.no
 |.compI i nt _ tg cond elt,ρ=>match ρ[i]? with
  |some (some (_,.dict es))=>if immE es&&decide (es.length<=LIM)then z1z (fun x=>z0x tg (gJ x .al,x) (ba nt none++([]:List Nat).map fun j=>toAl (([]:Rho).getD j none))>>=fun ρ1=>evT cond ρ1>>=fun k=>if k then evE elt ρ1>>=fun y=>.ok (some y)else .ok none) (es.map ent)>>=fun ys=>.ok (gCo ys,.list (ys.map (·.2)))else .no
  |_=>.no
 |.comp nt js _ tg it cond elt,ρ=>evW it ρ>>=fun w=>z1z (fun x=>z0x tg (gJ x w.1,x) (ba nt none++js.map fun j=>toAl (ρ.getD j none))>>=fun ρ1=>evT cond ρ1>>=fun k=>if k then evE elt ρ1>>=fun y=>.ok (some y)else .ok none) w.2>>=fun ys=>.ok (gCo ys,.list (ys.map (·.2)))
 |_,_=>.no
def evT:C->Rho->Res Bool
 |.and a b,ρ=>evT a ρ>>=fun c=>if c then evT b ρ else .ok false
 |.or a b,ρ=>evT a ρ>>=fun c=>if c then .ok true else evT b ρ
 |.not a,ρ=>evT a ρ>>=fun c=>.ok (!c)
 |.nil,_=>.ok true
 |.tv a,ρ=>evE a ρ>>=fun x=>z1f x.2
 |_,_=>.no
def evA:C->Rho->Res (List GD)
 |.nil,_=>.ok []
 |.cons a r,ρ=>evE a ρ>>=fun x=>evA r ρ>>=fun xs=>.ok (x::xs)
 |_,_=>.no
def evO:C->Rho->Res (Option Int)
 |.nil,_=>.ok none
 |.tv a,ρ=>evE a ρ>>=fun x=>intO x.2
 |_,_=>.no
def evG:C->Rho->Res (G×Bool×List D)
 |.tv a,ρ=>evE a ρ>>=fun x=>z4e x.2>>=fun p=>.ok (x.1,p)
 |_,_=>.no
def evW:C->Rho->Res (G×List D)
 |.rng args,ρ=>evA args ρ>>=fun ys=>rngD (ys.map (·.2))>>=fun xs=>.ok (.fr,xs)
 |.tv a,ρ=>evE a ρ>>=fun x=>z5l x.2>>=fun xs=>.ok (x.1,xs)
 |.enum a,ρ=>evE a ρ>>=fun x=>seqI x.2>>=fun xs=>.ok (.al,z1h 0 xs)
 |.zip a b,ρ=>evE a ρ>>=fun x=>evE b ρ>>=fun y=>seqI x.2>>=fun xs=>seqI y.2>>=fun ys=>.ok (.al,zipD xs ys)
 |_,_=>.no
end
def outB:Res Out->(Rho->Res Out)->Res Out
 |.ok (.nx ρ),k=>k ρ
 |r,_=>r
def forD (f:D->Rho->Res Out):List D->Rho->Res Out
 | [],ρ=>.ok (.nx ρ)
 |x::xs,ρ=>match f x ρ with
  |.ok (.nx ρ')=>forD f xs ρ'
  |.ok (.ct ρ')=>forD f xs ρ'
  |.ok (.bk ρ')=>.ok (.nx ρ')
  |.ok (.rt g d)=>.ok (.rt g d)
  |.exc e=>.exc e
  |.no=>.no
def whD (c:Rho->Res Bool)(f:Rho->Res Out):Nat->Rho->Res Out
 |0,_=>.no
 |n+1,ρ=>c ρ>>=fun k=>if k then(match f ρ with
  |.ok (.nx ρ')=>whD c f n ρ'
  |.ok (.ct ρ')=>whD c f n ρ'
  |.ok (.bk ρ')=>.ok (.nx ρ')
  |.ok (.rt g d)=>.ok (.rt g d)
  |.exc e=>.exc e
  |.no=>.no)else .ok (.nx ρ)
def okIn (x:GD):Bool:=imm x.2||(x.1==.fr||x.1==.nu)
def putAt (xs:List D)(ys:List GD):Res (List D):=match ys with
 | [x,y]=>(match x.2 with
  |.int i=>if okIn y&&decide (xs.length<LIM)&&decide (0<=i)&&decide (i<=xs.length)then .ok (xs.take i.toNat++y.2::xs.drop i.toNat)else .no
  |_=>.no)
 |_=>.no
def zdv (xs:List D)(ys:List GD):Res (List D):=match ys with
 | [x]=>(match x.2 with
  |.int i=>if decide (0<=i)&&decide (i<xs.length)&&decide (xs.length<=LIM)then .ok (xs.eraseIdx i.toNat)else .no
  |_=>.no)
 |_=>.no
def mutD (m:String)(xs:List D)(ys:List GD):Res (List D):=
 if m="append"then(match ys with| [y]=>if okIn y&&decide (xs.length<LIM)then .ok (xs++[y.2])else .no|_=>.no)
 else if m="insert"then putAt xs ys
 else if m="pop"then zdv xs ys
 else .no
def ownB (ρ:Rho)(i:Nat):Bool:=match ρ[i]? with
 |some (some (.fr,_))=>true
 |_=>false
def zdl (i:Nat)(ρ:Rho):Res (G×List D×Rho):=match ρ[i]? with
 |some (some (.fr,d))=>z5l d>>=fun xs=>.ok (.al,xs,ρ.set i (some (.al,d)))
 |_=>.no
def zdt:Option GD->Option GD
 |some (.fr,.list xs)=>some (.al,.list xs)
 |s=>s
def evAl (x:GD)(ρ:Rho):Res (G×List D×Rho):=match x.2 with
 |.list xs=>if imms xs then .ok (.al,xs,ρ.map zdt)else .no
 |_=>.no
def z70 (x:GD):Bool:=match x.2 with
 |.list _=>!(x.1==.al)
 |_=>true
def evEn (ys:List GD)(ρ:Rho):Res (G×List D×Rho):=match ys with
 | [x]=>if z70 x then seqI x.2>>=fun xs=>.ok (.al,z1h 0 xs,ρ)else .no
 |_=>.no
def evZi (ys:List GD)(ρ:Rho):Res (G×List D×Rho):=match ys with
 | [x,y]=>if z70 x&&z70 y then seqI x.2>>=fun xs=>seqI y.2>>=fun zs=>.ok (.al,zipD xs zs,ρ)else .no
 |_=>.no
def isAl (it:C)(ρ:Rho):Bool:=match evW Κ Φ it ρ with
 |.ok w=>w.1==.al
 |_=>false
def evN (it:C)(ρ:Rho):Res (G×List D×Rho):=evW Κ Φ it ρ>>=fun w=>if w.1==.al then .no else .ok (w.1,w.2,ρ)
def evF (it:C)(ρ:Rho):Res (G×List D×Rho):=match it with
 |.tv (.var i)=>if ownB ρ i then zdl i ρ else if isAl Κ Φ it ρ then evE Κ Φ (.var i) ρ>>=fun x=>evAl x ρ else evN Κ Φ it ρ
 |.tv a=>if isAl Κ Φ it ρ then evE Κ Φ a ρ>>=fun x=>evAl x ρ else evN Κ Φ it ρ
 |.enum a=>evA Κ Φ (.cons a .nil) ρ>>=fun ys=>evEn ys ρ
 |.zip a b=>evA Κ Φ (.cons a (.cons b .nil)) ρ>>=fun ys=>evZi ys ρ
 |it=>evN Κ Φ it ρ
def outI (i:Nat):Res Out->Res Out
 |.ok (.nx ρ)=>.ok (.nx (ρ.set i none))
 |.ok (.rt g d)=>.ok (.rt g d)
 |_=>.no
def excOf:Res GD->Option Str
 |.exc (.str c)=>some c
 |_=>none
def z2f (xs:List D):Option D:=match xs.getLast? with
 |some d=>if imm d then some d else none
 |none=>none
def evS:S->Rho->Res Out
 |.nil,ρ=>.ok (.nx ρ)
 |.seq a b,ρ=>outB (evS a ρ) (evS b)
 |.pass,ρ=>.ok (.nx ρ)
 |.bad,_=>.no
 |.asg (.nm i) e,ρ=>evE Κ Φ e ρ>>=fun x=>.ok (.nx (ρ.set i (some (z1e x))))
 |.asg t e,ρ=>evE Κ Φ e ρ>>=fun x=>z0x t x ρ>>=fun ρ'=>.ok (.nx ρ')
 |.setIx i k v,ρ=>evE Κ Φ v ρ>>=fun y=>evE Κ Φ k ρ>>=fun x=>match ρ[i]? with
  |some (some (.fr,.dict es))=>if isK x.2&&okIn y&&decide (es.length<LIM)then .ok (.nx ((ρ.set i (some (.fr,.dict (dput es x.2 y.2)))).map z07))else .no
  |some (some (.fr,.list xs))=>(match x.2 with
   |.int j=>if okIn y then(match ixN xs.length j with|some n=>.ok (.nx ((ρ.set i (some (.fr,.list (xs.set n y.2)))).map z07))|none=>.no)else .no
   |_=>.no)
  |_=>.no
 |.mut m i args,ρ=>evA Κ Φ args ρ>>=fun ys=>match ρ[i]? with
  |some (some (.fr,.list xs))=>mutD m xs ys>>=fun xs'=>.ok (.nx ((ρ.set i (some (.fr,.list xs'))).map z07))
  |_=>.no
 |.drop e,ρ=>evE Κ Φ e ρ>>=fun _=>.ok (.nx ρ)
 |.ret e,ρ=>match e with
  |.var i=>match ρ[i]? with
   |some (some (g,d))=>.ok (.rt (if imm d then .fr else rtG g) d)
   |_=>.no
  |e=>evE Κ Φ e ρ>>=fun x=>.ok (.rt (rtG x.1) x.2)
 |.retN,_=>.ok (.rt .fr .none)
 |.ifS c a b,ρ=>evT Κ Φ c ρ>>=fun k=>if k then evS a ρ else evS b ρ
 |.for_ t it b,ρ=>evF Κ Φ it ρ>>=fun w=>forD (fun x ρ1=>z0x t (gJ x w.1,x) ρ1>>=fun ρ2=>evS b ρ2) w.2.1 w.2.2
 |.wh n c b,ρ=>whD (evT Κ Φ c) (evS b) n ρ
 |.brk,ρ=>.ok (.bk ρ)
 |.cnt,ρ=>.ok (.ct ρ)
 |.pop j i,ρ=>match ρ[i]? with
  |some (some (.fr,.list xs))=>(match z2f xs with
   |some d=>.ok (.nx (((ρ.set i (some (.fr,.list xs.dropLast))).map z07).set j (some (.al,d))))
   |none=>.no)
  |_=>.no
 |.pap i a r,ρ=>evE Κ Φ a ρ>>=fun x=>match ρ[i]? with
  |some (some (.fr,.list xs))=>(match z2f xs with
   |some d=>evA Κ Φ r ((ρ.set i (some (.fr,.list xs.dropLast))).map z07)>>=fun zs=>if imm x.2&&imms (zs.map (·.2))&&decide (xs.length<=LIM)then .ok (.nx ((((ρ.set i (some (.fr,.list xs.dropLast))).map z07).set i (some (.fr,.list (xs.dropLast++[.tuple (x.2::d::zs.map (·.2))])))).map z07))else .no
   |none=>.no)
  |_=>.no
 |.stl s,ρ=>if noOwn ρ then evS s (ρ.map settle)else evS s (ρ.map settleA)
 |.rse _,_=>.no
 |.tr k _ args c i b,ρ=>evA Κ Φ args ρ>>=fun ys=>match Φ[k]? with
  |some m=>(match m (ys.map (·.2))with
   |.ok _=>.ok (.nx ρ)
   |r=>if excOf r=some c then outI i (evS b (ρ.set i none))else .no)
  |none=>.no
 |.alt a b,ρ=>match evS a ρ with
  |.ok o=>.ok o
  |_=>evS b ρ
mutual
def exE:C->Rho->Option Str
 |.call k _ args,ρ=>match evA Κ Φ args ρ with
  |.ok ys=>(match Φ[k]? with|some m=>excOf (m (ys.map (·.2)))|none=>none)
  |_=>exA args ρ
 |_,_=>none
def exA:C->Rho->Option Str
 |.cons a r,ρ=>match evE Κ Φ a ρ with
  |.ok _=>exA r ρ
  |_=>exE a ρ
 |_,_=>none
end
def exT:C->Rho->Option Str
 |.not a,ρ=>exT a ρ
 |.tv a,ρ=>exE Κ Φ a ρ
 |_,_=>none
def forX (f:D->Rho->Res Out)(g:D->Rho->Option Str):List D->Rho->Option Str
 | [],_=>none
 |x::xs,ρ=>match f x ρ with
  |.ok (.nx ρ')=>forX f g xs ρ'
  |.ok (.ct ρ')=>forX f g xs ρ'
  |.ok _=>none
  |_=>g x ρ
def evX:S->Rho->Option Str
 |.rse c,_=>some c
 |.seq a b,ρ=>match evS Κ Φ a ρ with
  |.ok (.nx ρ')=>evX b ρ'
  |.ok _=>none
  |_=>evX a ρ
 |.ifS c a b,ρ=>match evT Κ Φ c ρ with
  |.ok k=>if k then evX a ρ else evX b ρ
  |_=>exT Κ Φ c ρ
 |.drop e,ρ=>exE Κ Φ e ρ
 |.ret e,ρ=>exE Κ Φ e ρ
 |.asg (.nm _) e,ρ=>exE Κ Φ e ρ
 |.for_ t it b,ρ=>match evF Κ Φ it ρ with
  |.ok w=>forX (fun x ρ1=>z0x t (gJ x w.1,x) ρ1>>=fun ρ2=>evS Κ Φ b ρ2) (fun x ρ1=>match z0x t (gJ x w.1,x) ρ1 with|.ok ρ2=>evX b ρ2|_=>none) w.2.1 w.2.2
  |_=>none
 |_,_=>none
def runD (n:Nat)(s:S)(ds:List D):Res GD:=match evS Κ Φ s (ds.map (fun d=>some (.od,d))++ba (n-ds.length) none)with
 |.ok (.nx _)=>.ok (.fr,.none)
 |.ok (.rt g d)=>.ok (g,d)
 |.ok _=>.no
 |_=>match evX Κ Φ s (ds.map (fun d=>some (.od,d))++ba (n-ds.length) none)with
  |some c=>.exc (.str c)
  |none=>.no
end
end Mi
namespace Mi
open PySem PySem.Spec PyProof.Rows L2
def kD:Key->D
 |.inl i=>.int i
 |.inr x=>.str x
def keyOk:Key->Prop
 |.inl _=>True
 |.inr x=>PyData.strOk x=true
def KL (K:W.Frag)(a:Addr)(xs:List V):Prop:=∃(o:Obj) (its:Array Value) (n:Nat),K.lookup a=some o/\o.cls=.type "list"/\o.dict=none/\o.data=.seq its n/\its.size<=aq/\Vals xs its.toList
abbrev Ad:=Option Addr
def FL (K:W.Frag)(H:Hp)(a:Addr)(xs:List V):Prop:=(∃o,H a=some (.frz o (.lst xs)))\/KL K a xs
def nw (H:Hp):Ad->Prop
 |some a=>H a=none
 |none=>False
section
variable (K:W.Frag)(H:Hp)(B:Ad->Prop)
mutual
def Rep:V->ah->Prop
 |v,.none=>v=.non
 |v,.bool b=>v=.bl b
 |v,.int i=>v=.int i
 |v,.str x=>v=.str x/\PyData.strOk x=true
 |v,.tuple ds=>∃a vs,v=.ref a/\SqT K H a vs/\Reps vs ds
 |v,.list ds=>∃a vs,v=.ref a/\((H a=some (.lst vs)/\B (some a))\/(FL K H a vs/\B none))/\Reps vs ds
 |v,.dict es=>∃a kvs,v=.ref a/\H a=some (.dK kvs)/\B (some a)/\REs kvs es
def Reps:List V->List ah->Prop
 |vs,[]=>vs=[]
 |vs,d::ds=>∃v r,vs=v::r/\Rep v d/\Reps r ds
def REs:List (Key×V)->List (ah×ah)->Prop
 |kvs,[]=>kvs=[]
 |kvs,(kd,d)::es=>∃k v r,kvs=(k,v)::r/\kd=kD k/\keyOk k/\Rep v d/\REs r es
end
end
def Fix:HO->Prop
 |.tup _=>True
 |.frz _ (.lst _)=>True
 |.frz _ (.tup _)=>True
 |_=>False
section
variable {K:W.Frag}{H H':Hp}{B B':Ad->Prop}
theorem FL.keep {a:Addr}{vs:List V}(hH:∀a o,H a=some o->(B (some a)\/Fix o)->H' a=some o)(r:FL K H a vs):FL K H' a vs:=by
 rcases r with⟨o,r⟩|r
 ·exact .inl ⟨o,hH a _ r (.inr True.intro)⟩
 ·exact .inr r
theorem _root_.L2.SqT.keep {a:Addr}{vs:List V}(hH:∀a o,H a=some o->(B (some a)\/Fix o)->H' a=some o)(r:SqT K H a vs):SqT K H' a vs:=by
 rcases r with(r|⟨o,r⟩)|r
 ·exact .inl (.inl (hH a _ r (.inr True.intro)))
 ·exact .inl (.inr ⟨o,hH a _ r (.inr True.intro)⟩)
 ·exact .inr r
mutual
theorem Rep.keep (hH:∀a o,H a=some o->(B (some a)\/Fix o)->H' a=some o)(hB:∀a,B a->B' a):∀{v:V} (d:ah),Rep K H B v d->Rep K H' B' v d
 |v,.none,r=>r
 |v,.bool b,r=>r
 |v,.int i,r=>r
 |v,.str x,r=>r
 |v,.tuple ds,r=>by obtain⟨a,vs,e,h,q⟩:=r;exact⟨a,vs,e,h.keep hH,Reps.keep hH hB ds q⟩
 |v,.list ds,r=>by
  obtain⟨a,vs,e,h,q⟩:=r;refine⟨a,vs,e,?_,Reps.keep hH hB ds q⟩;rcases h with⟨h,b⟩|h
  ·exact .inl ⟨hH a _ h (.inl b),hB _ b⟩
  ·exact .inr ⟨FL.keep hH h.1,hB _ h.2⟩
 |v,.dict es,r=>by obtain⟨a,kvs,e,h,b,q⟩:=r;exact⟨a,kvs,e,hH a _ h (.inl b),hB _ b,REs.keep hH hB es q⟩
theorem Reps.keep (hH:∀a o,H a=some o->(B (some a)\/Fix o)->H' a=some o)(hB:∀a,B a->B' a):∀{vs:List V} (ds:List ah),Reps K H B vs ds->Reps K H' B' vs ds
 |vs,[],r=>r
 |vs,d::ds,r=>by obtain⟨v,t,e,h,q⟩:=r;exact⟨v,t,e,Rep.keep hH hB d h,Reps.keep hH hB ds q⟩
theorem REs.keep (hH:∀a o,H a=some o->(B (some a)\/Fix o)->H' a=some o)(hB:∀a,B a->B' a):∀{kvs:List (Key×V)} (es:List (ah×ah)),REs K H B kvs es->REs K H' B' kvs es
 |kvs,[],r=>r
 |kvs,(kd,d)::es,r=>by obtain⟨k,v,t,e,e2,ok,h,q⟩:=r;exact⟨k,v,t,e,e2,ok,Rep.keep hH hB d h,REs.keep hH hB es q⟩
end
theorem Rep.same {v:V}{d:D}(s:Same H H')(hB:∀a,B a->B' a)(r:Rep K H B v d):Rep K H' B' v d:=Rep.keep (fun a o e _=>s a o e) hB d r
theorem Reps.same {vs:List V}{ds:List D}(s:Same H H')(hB:∀a,B a->B' a)(r:Reps K H B vs ds):Reps K H' B' vs ds:=Reps.keep (fun a o e _=>s a o e) hB ds r
theorem REs.same {vs:List (Key×V)}{ds:Ents}(s:Same H H')(hB:∀a,B a->B' a)(r:REs K H B vs ds):REs K H' B' vs ds:=REs.keep (fun a o e _=>s a o e) hB ds r
theorem Rep.weak {v:V}{d:D}(hB:∀a,B a->B' a)(r:Rep K H B v d):Rep K H B' v d:=r.same (fun _ _ e=>e) hB
theorem Reps.weak {v:List V}{d:List D}(hB:∀a,B a->B' a)(r:Reps K H B v d):Reps K H B' v d:=r.same (fun _ _ e=>e) hB
mutual
theorem Rep.immB:∀{v:V} (d:ah),imm d=true->Rep K H B v d->Rep K H B' v d
 |v,.none,_,r=>r
 |v,.bool b,_,r=>r
 |v,.int i,_,r=>r
 |v,.str x,_,r=>r
 |v,.tuple ds,i,r=>by obtain⟨a,vs,e,h,q⟩:=r;exact⟨a,vs,e,h,Reps.immB ds (i) q⟩
 |v,.list ds,i,r=>by cases(show false=true from i)
 |v,.dict es,i,r=>by cases(show false=true from i)
theorem Reps.immB:∀{vs:List V} (ds:List ah),imms ds=true->Reps K H B vs ds->Reps K H B' vs ds
 |vs,[],_,r=>r
 |vs,d::ds,i,r=>by have i:=av.mp (show(imm d&&imms ds)=true from i);obtain⟨v,t,e,h,q⟩:=r;exact⟨v,t,e,Rep.immB d i.1 h,Reps.immB ds i.2 q⟩
end
mutual
theorem Rep.immK (hH:∀a o,H a=some o->Fix o->H' a=some o):∀{v:V} (d:ah),imm d=true->Rep K H B v d->Rep K H' B' v d
 |v,.none,_,r=>r
 |v,.bool b,_,r=>r
 |v,.int i,_,r=>r
 |v,.str x,_,r=>r
 |v,.tuple ds,i,r=>by obtain⟨a,vs,e,h,q⟩:=r;exact⟨a,vs,e,h.keep (B:=fun _=>False) (fun a o e f=>hH a o e (f.resolve_left id)),Reps.immK hH ds (i) q⟩
 |v,.list ds,i,r=>by cases(show false=true from i)
 |v,.dict es,i,r=>by cases(show false=true from i)
theorem Reps.immK (hH:∀a o,H a=some o->Fix o->H' a=some o):∀{vs:List V} (ds:List ah),imms ds=true->Reps K H B vs ds->Reps K H' B' vs ds
 |vs,[],_,r=>r
 |vs,d::ds,i,r=>by have i:=av.mp (show(imm d&&imms ds)=true from i);obtain⟨v,t,e,h,q⟩:=r;exact⟨v,t,e,Rep.immK hH d i.1 h,Reps.immK hH ds i.2 q⟩
end
theorem Reps.length:∀{vs:List V} {ds:List D},Reps K H B vs ds->vs.length=ds.length
 |vs,[],r=>by have e:vs=[]:=r;subst e;rfl
 |vs,d::ds,r=>by obtain⟨v,t,e,h,q⟩:=r;subst e;rw[aj,aj,q.length]
theorem Reps.get:∀{vs:List V} {ds:List D} {i:Nat} {d:D},Reps K H B vs ds->ds[i]?=some d->∃v,vs[i]?=some v/\Rep K H B v d
 |vs,[],i,d,r,e=>by simp at e
 |vs,d0::ds,0,d,r,e=>by
  obtain⟨v,t,e1,h,q⟩:=r;subst e1;have:d0=d:=by simpa using e
  subst this;exact⟨v,rfl,h⟩
 |vs,d0::ds,i+1,d,r,e=>by obtain⟨v,t,e1,h,q⟩:=r;subst e1;obtain⟨u,h1,h2⟩:=q.get (i:=i) (d:=d) (by simpa using e);exact⟨u,by simpa using h1,h2⟩
theorem Reps.getV:∀{vs:List V} {ds:List D} {i:Nat} {v:V},Reps K H B vs ds->vs[i]?=some v->∃d,ds[i]?=some d/\Rep K H B v d
 |vs,[],i,v,r,e=>by have e1:vs=[]:=r;subst e1;simp at e
 |vs,d0::ds,0,v,r,e=>by
  obtain⟨u,t,e1,h,q⟩:=r;subst e1;have:u=v:=by simpa using e
  subst this;exact⟨d0,rfl,h⟩
 |vs,d0::ds,i+1,v,r,e=>by obtain⟨u,t,e1,h,q⟩:=r;subst e1;obtain⟨d,h1,h2⟩:=q.getV (i:=i) (v:=v) (by simpa using e);exact⟨d,by simpa using h1,h2⟩
theorem Reps.cons {v:V}{d:D}{vs:List V}{ds:List D}(h:Rep K H B v d)(r:Reps K H B vs ds):Reps K H B (v::vs) (d::ds):=⟨v,vs,rfl,h,r⟩
theorem Reps.append:∀{vs ws:List V} {ds es:List D},Reps K H B vs ds->Reps K H B ws es->Reps K H B (vs++ws) (ds++es)
 |vs,ws,[],es,r,q=>by have e:vs=[]:=r;subst e;exact q
 |vs,ws,d::ds,es,r,q=>by obtain⟨v,t,e,h,p⟩:=r;subst e;exact⟨v,t++ws,rfl,h,p.append q⟩
theorem Reps.take:∀{vs:List V} {ds:List D} (n:Nat),Reps K H B vs ds->Reps K H B (vs.take n) (ds.take n)
 |vs,ds,0,r=>by rw[List.take_zero,List.take_zero];exact rfl
 |vs,[],n+1,r=>by have e:vs=[]:=r;subst e;exact rfl
 |vs,d::ds,n+1,r=>by obtain⟨v,t,e,h,p⟩:=r;subst e;exact⟨v,t.take n,rfl,h,p.take n⟩
theorem Reps.drop:∀{vs:List V} {ds:List D} (n:Nat),Reps K H B vs ds->Reps K H B (vs.drop n) (ds.drop n)
 |vs,ds,0,r=>r
 |vs,[],n+1,r=>by have e:vs=[]:=r;subst e;exact rfl
 |vs,d::ds,n+1,r=>by obtain⟨v,t,e,h,p⟩:=r;subst e;exact p.drop n
theorem Reps.set {v:V}{d:D}(h:Rep K H B v d):∀{vs:List V} {ds:List D} (n:Nat),Reps K H B vs ds->Reps K H B (vs.set n v) (ds.set n d)
 |vs,[],n,r=>by have e:vs=[]:=r;subst e;exact rfl
 |vs,d::ds,0,r=>by obtain⟨u,t,e,_,p⟩:=r;subst e;exact⟨_,_,rfl,h,p⟩
 |vs,d::ds,n+1,r=>by obtain⟨u,t,e,h0,p⟩:=r;subst e;exact⟨_,_,rfl,h0,p.set h n⟩
mutual
theorem Rep.there:∀{v:V} (d:ah),Rep K H B v d->Rep K H (fun a=>B a/\¬nw H a) v d
 |v,.none,r=>r
 |v,.bool b,r=>r
 |v,.int i,r=>r
 |v,.str x,r=>r
 |v,.tuple ds,r=>by obtain⟨a,vs,e,h,q⟩:=r;exact⟨a,vs,e,h,Reps.there ds q⟩
 |v,.list ds,r=>by
  obtain⟨a,vs,e,h,q⟩:=r;refine⟨a,vs,e,?_,Reps.there ds q⟩;rcases h with⟨h,b⟩|h
  ·refine .inl ⟨h,b,fun z=>?_⟩;have z':H a=none:=z;rw[h]at z';cases z'
  ·exact .inr ⟨h.1,h.2,fun z=>z⟩
 |v,.dict es,r=>by obtain⟨a,kvs,e,h,b,q⟩:=r;exact⟨a,kvs,e,h,⟨b,fun z=>by have z':H a=none:=z;rw[h]at z';cases z'⟩,REs.there es q⟩
theorem Reps.there:∀{vs:List V} (ds:List ah),Reps K H B vs ds->Reps K H (fun a=>B a/\¬nw H a) vs ds
 |vs,[],r=>r
 |vs,d::ds,r=>by obtain⟨v,t,e,h,q⟩:=r;exact⟨v,t,e,Rep.there d h,Reps.there ds q⟩
theorem REs.there:∀{kvs:List (Key×V)} (es:List (ah×ah)),REs K H B kvs es->REs K H (fun a=>B a/\¬nw H a) kvs es
 |kvs,[],r=>r
 |kvs,(kd,d)::es,r=>by obtain⟨k,v,t,e,e2,ok,h,q⟩:=r;exact⟨k,v,t,e,e2,ok,Rep.there d h,REs.there es q⟩
end
end
structure Fm where
 H0:Hp
 V:Addr->Prop
 O:Addr->Option Nat
def Bin (F:Fm):Ad->Prop
 |some a=>F.O a=none/\F.H0 a=none/\F.V a
 |none=>False
def visA (F:Fm):Ad->Prop
 |some a=>F.V a
 |none=>True
def oldA (F:Fm):Ad->Prop
 |some a=>F.H0 a≠none/\F.V a
 |none=>True
def Slot (K:W.Frag)(F:Fm)(H:Hp)(i:Nat):G->V->D->Prop
 |.fr,v,d=>∃p,v=.ref p/\F.O p=some i/\((∃vs ds,d=.list ds/\H p=some (.lst vs)/\Reps K H (Bin F) vs ds)\/(∃kvs es,d=.dict es/\H p=some (.dK kvs)/\REs K H (Bin F) kvs es))
 |.od,v,d=>Rep K H (oldA F) v d
 |.al,v,d=>Rep K H (visA F) v d
 |.nu,v,d=>Rep K H (Bin F) v d
structure StOk (K:W.Frag)(F:Fm)(H:Hp)(σ:L2.St)(ρ:Rho):Prop where
 ext:Same F.H0 H
 vis:∀a,H a=none->F.V a
 own:∀a i,F.O a=some i->F.H0 a=none/\F.V a/\((∃xs,H a=some (.lst xs))\/∃kvs,H a=some (.dK kvs))
 len:σ.length=ρ.length
 sl:∀i g d,ρ[i]?=some (some (g,d))->∃v,σ[i]?=some (some v)/\Slot K F H i g v d
def BG (F:Fm)(H:Hp):G->Ad->Prop
 |.fr=>nw H
 |.od=>oldA F
 |.al=>visA F
 |.nu=>fun a=>nw H a\/Bin F a
section
variable {K:W.Frag}{F:Fm}{H H':Hp}{σ:L2.St}{ρ:Rho}
theorem Slot.same {i:Nat}{g:G}{v:V}{d:D}(s:Same H H')(h:Slot K F H i g v d):Slot K F H' i g v d:=by
 cases g with
 |fr=>
  obtain⟨p,e,o,h⟩:=h;refine⟨p,e,o,?_⟩;rcases h with⟨vs,ds,e1,e2,r⟩|⟨vs,ds,e1,e2,r⟩
  ·exact .inl ⟨vs,ds,e1,s _ _ e2,r.same s fun _ b=>b⟩
  ·exact .inr ⟨vs,ds,e1,s _ _ e2,r.same s fun _ b=>b⟩
 |od=>exact Rep.same s (fun _ b=>b) h
 |al=>exact Rep.same s (fun _ b=>b) h
 |nu=>exact Rep.same s (fun _ b=>b) h
theorem _root_.L2.Same.none {a:Addr}(s:Same H H')(h:H' a=none):H a=none:=by
 cases e:H a with
 |none=>rfl
 |some o=>rw[s a o e]at h;cases h
theorem StOk.same (s:Same H H')(h:StOk K F H σ ρ):StOk K F H' σ ρ where
 ext:=fun a o e=>s a o (h.ext a o e)
 vis:=fun a e=>h.vis a (s.none e)
 own:=fun a i e=>by
  obtain⟨h1,h3,h2⟩:=h.own a i e;refine⟨h1,h3,?_⟩;rcases h2 with⟨xs,h2⟩|⟨xs,h2⟩
  ·exact .inl ⟨xs,s _ _ h2⟩
  ·exact .inr ⟨xs,s _ _ h2⟩
 len:=h.len
 sl:=fun i g d e=>by obtain⟨v,h1,h2⟩:=h.sl i g d e;exact⟨v,h1,h2.same s⟩
theorem nw.back {a:Ad}(s:Same H H')(h:nw H' a):nw H a:=by
 cases a with
 |none=>exact h
 |some a=>exact s.none h
theorem nw.vis {a:Ad}(hv:∀a,H a=none->F.V a)(h:nw H a):visA F a:=by
 cases a with
 |none=>exact h.elim
 |some a=>exact hv a h
theorem oldA.vis {a:Ad}(h:oldA F a):visA F a:=by
 cases a with
 |none=>exact h
 |some a=>exact h.2
theorem Bin.vis {a:Ad}(h:Bin F a):visA F a:=by
 cases a with
 |none=>exact h.elim
 |some a=>exact h.2.2
theorem BG.back {g:G}{a:Ad}(s:Same H H')(h:BG F H' g a):BG F H g a:=by
 cases g with
 |fr=>exact nw.back s h
 |od=>exact h
 |al=>exact h
 |nu=>exact h.elim (fun h=>.inl (nw.back s h)) .inr
theorem BG.vis {g:G}{a:Ad}(hv:∀a,H a=none->F.V a)(h:BG F H g a):visA F a:=by
 cases g with
 |fr=>exact nw.vis hv h
 |od=>exact oldA.vis h
 |al=>exact h
 |nu=>exact h.elim (nw.vis hv) Bin.vis
theorem Slot.rep {i:Nat}{g:G}{v:V}{d:D}(so:∀a i,F.O a=some i->F.V a)(h:Slot K F H i g v d):Rep K H (visA F) v d:=by
 cases g with
 |fr=>
  obtain⟨p,e,o,h⟩:=h;rcases h with⟨vs,ds,rfl,e2,r⟩|⟨vs,ds,rfl,e2,r⟩
  ·exact⟨p,vs,e,.inl ⟨e2,so _ _ o⟩,r.weak fun _ b=>b.vis⟩
  ·exact⟨p,vs,e,e2,so _ _ o,REs.same (fun _ _ e=>e) (fun _ b=>b.vis) r⟩
 |od=>exact Rep.weak (fun _ b=>b.vis) h
 |al=>exact h
 |nu=>exact Rep.weak (fun _ b=>Bin.vis b) h
theorem StOk.ownV (h:StOk K F H σ ρ):∀a i,F.O a=some i->F.V a:=fun a i e=>(h.own a i e).2.1
theorem StOk.rd (h:StOk K F H σ ρ){i:Nat}{x:GD}(e:rdS ρ[i]?=.ok x):∃v,σ[i]?=some (some v)/\Rep K H (BG F H x.1) v x.2:=by
 cases e1:ρ[i]? with
 |none=>rw[e1]at e;cases e
 |some o=>
  cases o with
  |none=>rw[e1]at e;cases e
  |some gd=>
   obtain⟨g,d⟩:=gd;rw[e1]at e;obtain⟨v,h1,h2⟩:=h.sl i g d e1;have e':x=(if imm d then .fr else rdG g,d):=(Res.ok.inj e).symm;subst e';refine⟨v,h1,?_⟩;by_cases hi:imm d=true
   ·show Rep K H (BG F H (if imm d=true then _ else _)) v d;rw[if_pos hi];exact Rep.immB d hi (h2.rep h.ownV)
   ·show Rep K H (BG F H (if imm d=true then _ else _)) v d;rw[if_neg hi];cases g with
    |fr=>exact h2.rep h.ownV
    |od=>exact h2
    |al=>exact h2
    |nu=>exact Rep.weak (fun _ b=>.inr b) h2
end
structure Gm where
 N:List Str
 sc:Scope
 blk:Bool:=false
 free:List Str
 fns:List (Str×Nat)
 cst:List Str
 cm:Bool:=true
 xc:Option (Str×Str):=none
 sub:List (Str×Str×Bool):=[]
 rs:List Str:=[]
 hnd:List (Str×Str):=[]
section
variable (Γ:Gm)
def visB (i:Nat)(x:Str):Bool:=(Γ.N[i]?==some x)&&(Γ.sc.names.lookup x==some .local||Γ.sc.names.lookup x==some .cell||Γ.sc.names.lookup x==some .free)&& !(x==("__debug__":Str))&& !(x==("__classdict__":Str))
def glB (x:Str):Bool:=(Γ.sc.names.lookup x==some .globalImplicit)&& !(x==("__debug__":Str))
def bltB (x:Str):Bool:=glB Γ x&&Γ.free.contains x&& !(x==("__name__":Str))
def locB (i:Nat)(x:Str):Bool:=(Γ.N[i]?==some x)&&(Γ.sc.names.lookup x==some .local||(!Γ.blk&&Γ.sc.names.lookup x==some .cell))
end
def tgIx:Tg->List Nat
 |.nm i=>[i]
 |.tp is=>is
def zfb (scope sc:Scope):Scope:={scope with names:=scope.names.map fun(n,k)=>if(k==.free&&sc.kind==.function&&sc.names.lookup n==some .cell)then(n,.cell)else(n,k)}
def plainT:Expr->Bool
 |.UnaryOp .Not _ _=>false
 |.BoolOp _ _ _=>false
 |.IfExp _ _ _ _=>false
 |.Compare _ _ _ _=>false
 |_=>true
def zc5:Expr->Bool
 |.Compare _ _ _ _=>true
 |_=>false
def z3x:Expr->Bool
 |.Slice _ _ _ _=>false
 |_=>true
def z5b:Expr->Bool
 |.Call (.Name _ _) [] [] _=>false
 |_=>true
def za6:Expr->Bool
 |.Set _ _ _=>false
 |_=>true
def isTup:Expr->Bool
 |.Tuple _ _ _=>true
 |_=>false
def vNm:Expr->Option Str
 |.Name x _=>some x
 |_=>none
def vCst:Expr->Option Const
 |.Constant v _ _=>some v
 |_=>none
def vBin:Expr->Option (Expr×gy×Expr)
 |.BinOp l o r _=>some (l,o,r)
 |_=>none
def vUn:Expr->Option (UnaryOp×Expr)
 |.UnaryOp o x _=>some (o,x)
 |_=>none
def vCm:Expr->Option (Expr×List CmpOp×List Expr)
 |.Compare l o r _=>some (l,o,r)
 |_=>none
def vBo:Expr->Option (BoolOp×List Expr×Pos)
 |.BoolOp o xs p=>some (o,xs,p)
 |_=>none
def vIfE:Expr->Option (Expr×Expr×Expr)
 |.IfExp t x y _=>some (t,x,y)
 |_=>none
def vTup:Expr->Option (List Expr)
 |.Tuple es _ _=>some es
 |_=>none
def vLst:Expr->Option (List Expr)
 |.List es _=>some es
 |_=>none
def vDi:Expr->Option (List (Option Expr)×List Expr)
 |.Dict k v _=>some (k,v)
 |_=>none
def vSub:Expr->Option (Expr×Expr)
 |.Subscript x i _=>some (x,i)
 |_=>none
def vSli:Expr->Option (Option Expr×Option Expr×Option Expr)
 |.Slice l h s _=>some (l,h,s)
 |_=>none
def vCa:Expr->Option (Expr×List Expr×List kh×Pos)
 |.Call f es k p=>some (f,es,k,p)
 |_=>none
def vAt:Expr->Option (Expr×Str×Pos)
 |.Attribute x n p=>some (x,n,p)
 |_=>none
def vLC:Expr->Option (Expr×List g8×Scope)
 |.ListComp el gs s _=>some (el,gs,s)
 |_=>none
def vOne {α:Type}:List α->Option α
 | [x]=>some x
 |_=>none
def vTwo {α:Type}:List α->Option (α×α)
 | [x,y]=>some (x,y)
 |_=>none
def z3c (e:Expr):Option (Str×List Expr):=(vCa e).bind fun v=>if v.2.2.1.isEmpty then(vNm v.1).map fun x=>(x,v.2.1)else none
def vMt (e:Expr):Option (Expr×Str×List Expr×Bool):=(vCa e).bind fun v=>if v.2.2.1.isEmpty then(vAt v.1).map fun u=>(u.1,u.2.1,v.2.1,u.2.2.endLine==v.2.2.2.line)else none
def z7h (f g:Expr->Bool)(o:BoolOp)(p:Pos):List Expr->Bool
 |x::y::r=>f x&&(if r.isEmpty then g y else g (.BoolOp o (y::r) p))
 |_=>false
def ifsB (n:Bool)(f:Expr->Bool):List Expr->Bool
 | []=>n
 |t::r=>r.isEmpty&&f t
def isNl:C->Bool
 |.nil=>true
 |_=>false
def hd1 (f:Str->Bool)(e:Expr):Bool:=(vNm e).any f
def zdo (Γ:Gm):List Nat->List Expr->Bool
 | [],es=>es.isEmpty
 |i::is,es=>match es with|e::es=>hd1 (locB Γ i) e&&zdo Γ is es| []=>false
def zak (Γ:Gm):Tg->Expr->Bool
 |.nm i,e=>hd1 (locB Γ i) e
 |.tp is,e=>Γ.cm&&(vTup e).any (zdo Γ is)
def zds:gy->Bool
 |.Add|.Sub|.Mult|.FloorDiv|.Mod|.Pow=>true
 |_=>false
def z80:CmpOp->Bool
 |.Is|.IsNot=>false
 |_=>true
def okTy (T:String):Bool:=tysB.contains T
def tyB (Γ:Gm)(T:String)(t:Expr):Bool:=hd1 (fun x=>(x==Str.ofString T)&&bltB Γ x&&okTy T) t
def aggs:List String:=["list","tuple"]
def tgN:Tg->Bool
 |.nm _=>true
 |.tp _=>false
def isNm:Expr->Bool
 |.Name _ _=>true
 |_=>false
def zel:C->Expr->Bool
 |.enum _,e=>isTup e
 |.zip _ _,e=>isTup e||isNm e
 |_,_=>true
def popB (f:Expr->Bool)(e:Expr):Bool:=(vMt e).any fun m=>f m.1&&(m.2.1==("pop":Str))&&m.2.2.1.isEmpty&&m.2.2.2
def papB (f g:Expr->Bool)(h:List Expr->Bool):List Expr->Bool
 |a::b::l=>f a&&g b&&h l
 |_=>false
mutual
def chkE (Γ:Gm):C->Expr->Bool
 |.var i,e=>hd1 (visB Γ i) e
 |.non,_=>false
 |.bl b,e=>decide (vCst e=some (.bool b))
 |.int i,e=>decide (vCst e=some (.int i))
 |.str x,e=>decide (vCst e=some (.str x))&&PyData.strOk x
 |.glob _ _,_=>false
 |.bin op a b,e=>(vBin e).any fun v=>decide (op=v.2.1)&&zds op&&chkE Γ a v.1&&chkE Γ b v.2.2
 |.neg a,e=>(vUn e).any fun v=>decide (v.1=.USub)&&chkE Γ a v.2
 |.cmp op a b,e=>(vCm e).any fun v=>decide (v.2.1=[op])&&(vOne v.2.2).any fun r=>z80 op&& !(gz op r)&&chkE Γ a v.1&&chkE Γ b r
 |.chain _ _ _ _ _,_=>false
 |.isN _ _,_=>false
 |.isB _ _ _,_=>false
 |.and a b,e=>(vBo e).any fun v=>decide (v.1=.And)&&z7h (fun x=>chkE Γ a x) (fun x=>chkE Γ b x) .And v.2.2 v.2.1
 |.or a b,e=>(vBo e).any fun v=>decide (v.1=.Or)&&z7h (fun x=>chkE Γ a x) (fun x=>chkE Γ b x) .Or v.2.2 v.2.1
 |.not a,e=>(vUn e).any fun v=>decide (v.1=.Not)&&chkE Γ a v.2
 |.ife c a b,e=>(vIfE e).any fun v=>chkT Γ c v.1&&chkE Γ a v.2.1&&chkE Γ b v.2.2
 |.tup xs,e=>(vTup e).any fun es=>decide (es.length<=1000)&&chkA Γ xs es
 |.lst xs,e=>(vLst e).any fun es=>decide (es.length<=1000)&&chkA Γ xs es
 |.rep _ _,_=>false
 |.dnew,_=>false
 |.ix a b,e=>(vSub e).any fun v=>z3x v.2&&chkE Γ a v.1&&chkE Γ b v.2
 |.fs _ _ _,_=>false
 |.sl a lo hi,e=>(vSub e).any fun v=>(vSli v.2).any fun s=>s.2.2.isNone&&chkE Γ a v.1&&chkO Γ lo s.1&&chkO Γ hi s.2.1
 |.call k f args,e=>(z3c e).any fun v=>(Γ.cm&&(v.1==f))&&glB Γ v.1&&(Γ.fns[k]?==some (f,v.2.length))&&chkA Γ args v.2&& !v.2.isEmpty
 |.lset _,_=>false
 |.bi f args,e=>(z3c e).any fun v=>(v.1==Str.ofString f)&&bltB Γ v.1&&((["len","str"].contains f)&&(Γ.cm||f=="int"))&&chkA Γ args v.2&& !v.2.isEmpty
 |.agg f a,e=>(z3c e).any fun v=>(v.1==Str.ofString f)&&bltB Γ v.1&&(aggs.contains f&&Γ.cm)&&(vOne v.2).any fun y=>!isStar y&&chkG Γ a y
 |.isT a ts,e=>(z3c e).any fun v=>(v.1==("isinstance":Str))&&bltB Γ v.1&&(vTwo v.2).any fun y=>!isStar y.1&&chkE Γ a y.1&&(vOne ts).any fun T=>tyB Γ T y.2
 |.mt m o args,e=>(vMt e).any fun v=>((v.2.1==Str.ofString m)&& ["join"].contains m&&z5b v.1&&v.2.2.2&&decide (v.2.2.1.length<20))&&chkE Γ o v.1&&chkA Γ args v.2.2.1&& !v.2.2.1.isEmpty
 |.comp nt js N' tg it cond elt,e=>(vLC e).any fun v=>(vOne v.2.1).any fun g=>let Γ':Gm:={Γ with N:=N',sc:=zfb v.2.2 Γ.sc,blk:=true,xc:=none}
  ((Γ.cm&&(g.is_async==0))&&(tgIx tg).all (fun i=>decide (i<nt))&&blkB Γ.N Γ.sc v.2.2 N' nt js&&za6 g.iter&&decide N'.Nodup)&&(zak Γ' tg g.target&&zel it g.target)&&chkW Γ it g.iter&&ifsB (isNl cond) (fun t=>chkT Γ' cond t) g.ifs&&chkE Γ' elt v.1
 |.sortK _,_=>false
 |.lk i,e=>(z3c e).any fun v=>(Γ.cm&&(v.1==("list":Str)))&&bltB Γ v.1&&(vOne v.2).any fun y=>hd1 (visB Γ i) y
 |.d1 k v,e=>(vDi e).any fun u=>(vOne u.1).any fun o=>(vOne u.2).any fun y=>o.any (fun x=>chkE Γ k x)&&chkE Γ v y
 |.upr _,_=>false
 |.sortI _,_=>false
 |.compI _ _ _ _ _ _,_=>false
 |.sl3 _ _ _ _,_=>false
 |.isE _ _,_=>false
 |.dis _ _,_=>false
 |.fst _,_=>false
 |.rng _,_=>false
 |.items _,_=>false
 |.vals _,_=>false
 |.enum _,_=>false
 |.zip _ _,_=>false
 |.tv _,_=>false
 |.nil,_=>false
 |.cons _ _,_=>false
def chkT (Γ:Gm):C->Expr->Bool
 |.and a b,e=>(vBo e).any fun v=>decide (v.1=.And)&&z7h (fun x=>chkT Γ a x) (fun x=>chkT Γ b x) .And v.2.2 v.2.1
 |.or a b,e=>(vBo e).any fun v=>decide (v.1=.Or)&&z7h (fun x=>chkT Γ a x) (fun x=>chkT Γ b x) .Or v.2.2 v.2.1
 |.not a,e=>(vUn e).any fun v=>decide (v.1=.Not)&&chkT Γ a v.2
 |.tv a,e=>(plainT e||zc5 e)&&chkE Γ a e
 |_,_=>false
def chkA (Γ:Gm):C->List Expr->Bool
 |.nil,es=>es.isEmpty
 |.cons a r,es=>match es with|e::es=>!isStar e&&chkE Γ a e&&chkA Γ r es|_=>false
 |_,_=>false
def chkO (Γ:Gm):C->Option Expr->Bool
 |.nil,e=>e.isNone
 |.tv a,e=>e.any fun e=>chkE Γ a e
 |_,_=>false
def chkW (Γ:Gm):C->Expr->Bool
 |.rng args,e=>(z3c e).any fun v=>(v.1==("range":Str))&&bltB Γ v.1&&chkA Γ args v.2&&(!v.2.isEmpty&&decide (v.2.length<=1))
 |.tv a,e=>za6 e&&chkE Γ a e
 |.enum a,e=>(z3c e).any fun v=>(v.1==("enumerate":Str))&&bltB Γ v.1&&(vOne v.2).any fun y=>!isStar y&&chkE Γ a y
 |_,_=>false
def chkG (Γ:Gm):C->Expr->Bool
 |.tv a,e=>chkE Γ a e
 |_,_=>false
end
def isCI:C->Bool
 |.compI _ _ _ _ _ _=>true
 |_=>false
def chkF (Γ:Gm)(it:C)(tg ie:Expr):Bool:=zel it tg&&chkW Γ it ie
def vAs:Stmt->Option (List Expr×Expr)
 |.Assign t v _=>some (t,v)
 |_=>none
def vEx:Stmt->Option Expr
 |.Expr v _=>some v
 |_=>none
def vRt:Stmt->Option (Option Expr)
 |.Return v _=>some v
 |_=>none
def vIf:Stmt->Option (Expr×List Stmt×List Stmt)
 |.If t A B _=>some (t,A,B)
 |_=>none
def vFo:Stmt->Option (Expr×Expr×List Stmt×List Stmt)
 |.For t i B o _=>some (t,i,B,o)
 |_=>none
def vWh:Stmt->Option (Expr×List Stmt×List Stmt)
 |.While t B o _=>some (t,B,o)
 |_=>none
def vEh:ExceptHandler->Option (Str×Str×List Stmt)
 |.ExceptHandler (some (.Name x _)) (some n) b _=>some (x,n,b)
 |_=>none
def vTr:Stmt->Option (Str×List Expr×Str×Str×List Stmt)
 |.Try [.Expr c _] [h] [] [] _=>(z3c c).bind fun v=>(vEh h).map fun u=>(v.1,v.2,u)
 |_=>none
mutual
def chk1 (Γ:Gm):S->Stmt->Bool
 |.pass,_=>false
 |.bad,_=>true
 |.asg t e,s=>(vAs s).any fun u=>(vOne u.1).any fun x=>zak Γ t x&& !isCI e&&(tgN t||(!z1w u.2&& !isTup u.2))&&chkE Γ e u.2
 |.setIx i k v,s=>(vAs s).any fun u=>(vOne u.1).any fun x=>(vSub x).any fun w=>hd1 (visB Γ i) w.1&&z3x w.2&& !z1w u.2&&chkE Γ k w.2&&chkE Γ v u.2
 |.mut m i args,s=>(vEx s).any fun c=>(vMt c).any fun v=>(hd1 (visB Γ i) v.1&&(v.2.1==Str.ofString m)&& ["append","insert","pop"].contains m&&v.2.2.2&&decide (v.2.2.1.length<20))&& !v.2.2.1.isEmpty&&chkA Γ args v.2.2.1
 |.drop _,_=>false
 |.ret e,s=>(vRt s).any fun o=>o.any fun v=>chkE Γ e v
 |.retN,_=>false
 |.ifS c a b,s=>(vIf s).any fun v=>chkT Γ c v.1&&chkL Γ a v.2.1&&chkL Γ b v.2.2
 |.for_ t it b,s=>Γ.cm&&(vFo s).any fun v=>zak Γ t v.1&&chkF Γ it v.1 v.2.1&&chkL Γ b v.2.2.1&&v.2.2.2.isEmpty
 |.wh _ c b,s=>(vWh s).any fun v=>chkT Γ c v.1&&chkL Γ b v.2.1&&v.2.2.isEmpty
 |.brk,_=>false
 |.cnt,_=>false
 |.pop j i,s=>(vAs s).any fun u=>(vOne u.1).any fun x=>hd1 (locB Γ j) x&&popB (hd1 (visB Γ i)) u.2
 |.pap i a r,s=>(vEx s).any fun c=>(vMt c).any fun v=>(hd1 (visB Γ i) v.1&&(v.2.1==("append":Str))&&v.2.2.2)&&(vOne v.2.2.1).any fun t=>(vTup t).any fun es=>papB (fun e=>!isStar e&&chkE Γ a e) (popB (hd1 (visB Γ i))) (fun l=>decide (l.length<=900)&&chkA Γ r l) es
 |.stl _,_=>false
 |.rse _,_=>false
 |.tr _ _ _ _ _ _,_=>false
 |.alt _ _,_=>false
 |.nil,_=>false
 |.seq _ _,_=>false
def chkL (Γ:Gm):S->List Stmt->Bool
 |.nil,l=>l.isEmpty
 |.seq a b,l=>match l with|s::r=>chk1 Γ a s&&chkL Γ b r|_=>false
 |_,_=>false
end
def tD (K:W.Frag)(f:Rho->Res GD):TE:=fun σ H Q=>∃ρ F x,StOk K F H σ ρ/\f ρ=.ok x/\∀v H',Same H H'->Rep K H' (BG F H x.1) v x.2->Q v H'
def tDT (K:W.Frag)(f:Rho->Res Bool):TT:=fun σ H Q=>∃ρ F b,StOk K F H σ ρ/\f ρ=.ok b/\∀H',Same H H'->Q b H'
def tDO (K:W.Frag)(f:Rho->Res (Option Int)):TO:=fun σ H Q=>∃ρ F b,StOk K F H σ ρ/\f ρ=.ok b/\∀H',Same H H'->Q b H'
def RGs (K:W.Frag)(F:Fm)(H H':Hp):List V->List GD->Prop
 |vs,[]=>vs=[]
 |vs,x::xs=>∃v r,vs=v::r/\Rep K H' (BG F H x.1) v x.2/\RGs K F H H' r xs
def tDA (K:W.Frag)(f:Rho->Res (List GD)):TA:=fun σ H Q=>∃ρ F xs,StOk K F H σ ρ/\f ρ=.ok xs/\∀vs H',Same H H'->RGs K F H H' vs xs->Q vs H'
theorem _root_.L2.PE.imp {X:Cx}{e:Expr}{t t':TE}(h:PE X e t)(i:∀σ H Q,t' σ H Q->t σ H Q):PE X e t':=fun pins s σ H Q I q=>h pins s σ H Q I (i σ H Q q)
theorem _root_.L2.PT.imp {X:Cx}{e:Expr}{t t':TT}(h:PT X e t)(i:∀σ H Q,t' σ H Q->t σ H Q):PT X e t':=fun pins s σ H Q I q=>h pins s σ H Q I (i σ H Q q)
theorem _root_.L2.PW.imp {X:Cx}{e:Expr}{t t':TT}(h:PW X e t)(i:∀σ H Q,t' σ H Q->t σ H Q):PW X e t':=fun wh pins s σ H Q I q=>h wh pins s σ H Q I (i σ H Q q)
theorem _root_.L2.PA.imp {X:Cx}{e:List Expr}{t t':TA}(h:PA X e t)(i:∀σ H Q,t' σ H Q->t σ H Q):PA X e t':=fun pos pins s σ H Q I q=>h pos pins s σ H Q I (i σ H Q q)
theorem _root_.L2.PO.imp {X:Cx}{e:Option Expr}{t t':TO}(h:PO X e t)(i:∀σ H Q,t' σ H Q->t σ H Q):PO X e t':=fun pins s σ H Q I q=>h pins s σ H Q I (i σ H Q q)
theorem _root_.L2.PS.imp {X:Cx}{e:Stmt}{t t':TS}(h:PS X e t)(i:∀D σ H,t' D σ H->t D σ H):PS X e t':=fun pins s σ H D I q=>h pins s σ H D I (i D σ H q)
theorem _root_.L2.PSs.imp {X:Cx}{e:List Stmt}{t t':TS}(h:PSs X e t)(i:∀D σ H,t' D σ H->t D σ H):PSs X e t':=fun pins s σ H D I q=>h pins s σ H D I (i D σ H q)
section
variable {K:W.Frag}{F:Fm}{H H1 H':Hp}
theorem RGs.same:∀{vs:List V} {xs:List GD},Same H1 H'->Same H H1->RGs K F H H1 vs xs->RGs K F H H' vs xs
 |vs,[],_,_,r=>r
 |vs,x::xs,s,s0,r=>by obtain⟨v,t,e,h,q⟩:=r;exact⟨v,t,e,h.same s fun _ b=>b,q.same s s0⟩
theorem RGs.back:∀{vs:List V} {xs:List GD},Same H H1->RGs K F H1 H' vs xs->RGs K F H H' vs xs
 |vs,[],_,r=>r
 |vs,x::xs,s,r=>by obtain⟨v,t,e,h,q⟩:=r;exact⟨v,t,e,h.weak fun _ b=>b.back s,q.back s⟩
theorem RGs.reps {B:Ad->Prop}:∀{vs:List V} {xs:List GD},(∀x∈xs,∀a,BG F H x.1 a->B a)->RGs K F H H' vs xs->Reps K H' B vs (xs.map (·.2))
 |vs,[],_,r=>r
 |vs,x::xs,hB,r=>by obtain⟨v,t,e,h,q⟩:=r;exact⟨v,t,e,h.weak (hB x af),q.reps fun y hy=>hB y (ak _ hy)⟩
theorem RGs.repsV {vs:List V}{xs:List GD}(hv:∀a,H a=none->F.V a)(r:RGs K F H H' vs xs):Reps K H' (visA F) vs (xs.map (·.2)):=r.reps fun _ _ _ h=>h.vis hv
theorem z4c {xs:List GD}{x:GD}{a:Ad}(hv:∀a,H a=none->F.V a)(hx:x∈xs)(h:BG F H x.1 a):BG F H (gAll xs) a:=by
 unfold gAll;by_cases e:(xs.all fun x=>x.1==.fr)=true
 ·rw[if_pos e];have:=(bu.mp e) x hx;have e1:x.1=.fr:=by simpa using this
  rw[e1]at h;exact h
 ·rw[if_neg e];split
  ·rename_i e2;have:=(bu.mp e2) x hx;rcases de.mp this with e1|e1
   ·rw[eq_of_beq e1]at h;exact .inl h
   ·rw[eq_of_beq e1]at h;exact h
  ·exact h.vis hv
theorem z3j {xs:List GD}{a:Ad}(hv:∀a,H a=none->F.V a)(s:Same H H1)(h:nw H1 a):BG F H (gAll xs) a:=by
 unfold gAll;by_cases e:(xs.all fun x=>x.1==.fr)=true
 ·rw[if_pos e];exact nw.back s h
 ·rw[if_neg e];split
  ·exact .inl (nw.back s h)
  ·exact(nw.back s h).vis hv
theorem z2c {B:Ad->Prop}{v:V}{d:D}{g:G}(r:Rep K H' B v d)(h:∀a,B a->BG F H g a):Rep K H' (BG F H (gJ d g)) v d:=by
 unfold gJ;by_cases e:imm d=true
 ·rw[if_pos e];exact Rep.immB d e r
 ·rw[if_neg e];exact r.weak h
end
def rOp (K:W.Frag)(m:D->D->Res D):R2:=fun x y H Q=>∃Bx By dx dy d,Rep K H Bx x dx/\Rep K H By y dy/\m dx dy=.ok d/\∀w H',Same H H'->Rep K H' (fun a=>nw H a\/Bx a\/By a) w d->Q w H'
def OpD (X:Cx)(f:Value->Value->Sem Value)(m:D->D->Res D):Prop:=OpR X f (rOp X.K m)
def rOpN (K:W.Frag)(m:D->D->Res D):R2:=fun x y H Q=>∃Bx By dx dy d,Rep K H Bx x dx/\Rep K H By y dy/\m dx dy=.ok d/\∀w H',Same H H'->Rep K H' (fun a=>nw H a\/Bx a\/By a) w d->(∀ds,d=.list ds->imms ds=true->Rep K H' (nw H) w d)->Q w H'
def OpN (X:Cx)(f:Value->Value->Sem Value)(m:D->D->Res D):Prop:=OpR X f (rOpN X.K m)
theorem _root_.L2.OpR.imp {X:Cx}{f:Value->Value->Sem Value}{r r':R2}(h:OpR X f r)(i:∀x y H Q,r' x y H Q->r x y H Q):OpR X f r':=fun pins s σ H x y v u Q I rx ry q=>h pins s σ H x y v u Q I rx ry (i x y H Q q)
def z9r (K:W.Frag)(m:List D->Res D):List V->Hp->VK->Prop:=fun xs H Q=>∃B ds d,Reps K H B xs ds/\m ds=.ok d/\∀w H',Same H H'->Rep K H' (fun a=>nw H a\/B a) w d->Q w H'
theorem _root_.L2.CallR.imp {X:Cx}{f:Value}{r r':List V->Hp->VK->Prop}(h:CallR X f r)(i:∀x H Q,r' x H Q->r x H Q):CallR X f r':=fun pins s σ H x v Q I rx q=>h pins s σ H x v Q I rx (i x H Q q)
theorem z4u {x y:Str}(hx:PyData.strOk x=true)(hy:PyData.strOk y=true):PyData.strOk (x++y)=true:=by
 unfold PyData.strOk at *
 show(x.cps++y.cps).all _=true;rw[Array.all_append,hx,hy];rfl
theorem z12 {x:Str}:PyData.strOk x=true↔∀c∈x.cps.toList,c<0x110000:=by unfold PyData.strOk;rw[<-Array.all_toList];rw[bu];exact⟨fun h c hc=>by simpa using h c hc,fun h c hc=>by simpa using h c hc⟩
theorem z4h {c:Nat}{x:Str}(hx:PyData.strOk x=true)(hc:c∈x.cps.toList):PyData.strOk ⟨#[c]⟩=true:=
 z12.mpr fun d hd=>by
  have e:d=c:=by simpa using hd
  rw[e];exact z12.mp hx c hc
theorem z0q {n:Nat}(h:n<=LIM):n<=aq:=bq h (by rw[fg];unfold LIM;decide)
theorem _root_.L2.SqT.rel {K:W.Frag}{H H':Hp}{a:Addr}{xs:List V}(s:Same H H')(h:SqT K H a xs):SqT K H' a xs:=h.keep (B:=fun _=>True) fun a o e _=>s a o e
section
variable {X:Cx}
def zmf (K:W.Frag):R2:=fun x y H Q=>∃l b xs zs,x=.ref l/\y=.ref b/\SqL K H l xs/\SqL K H b zs/\xs.length+zs.length<=aq/\∀p,H p=none->Q (.ref p) (upd H p (.lst (xs++zs)))
theorem zd9:OpR X (dr .Add) (zmf X.K):=by
 intro pins s σ H x y v u Q I rx ry h;obtain⟨l,b,xs,zs,rfl,rfl,hH,hB,hz,q⟩:=h;cases rx;cases ry;obtain⟨its,r1,p1,_⟩:=I.list hH;obtain⟨its2,r2,p2,_⟩:=I.list hB;obtain⟨⟨cls,dd,data,sl⟩,n,ho,hc,_,hd⟩:=p1;obtain⟨⟨cls2,dd2,data2,sl2⟩,n2,ho2,hc2,_,hd2⟩:=p2;simp only at hc hd hc2 hd2;subst hc hd hc2 hd2;have hsz:its.toArray.size+its2.toArray.size<=aq:=by rw[ai,ai,<-r1.length,<-r2.length];exact hz
 refine kj ⟨_,ho,rfl⟩ ⟨_,ho2,rfl⟩ noFill_list_add seq_list_add PySem.F.slot_list_add PySem.F.entry_list_add (PySem.F.args_list_add_2 _ _) (list_addW l b its.toArray its2.toArray n n2 dd dd2 sl sl2 hsz) ⟨ho,ho2,?_⟩;have ea:its.toArray++its2.toArray=(its++its2).toArray:=by simp
 rw[ea];exact⟨.ref _,_,I.lnew (t':=s.toks) (r1.append r2) (by rw[ac];exact hz),rfl,q _ I.fresh⟩
def zgq (K:W.Frag):R2:=fun x y H Q=>∃a b ys,x=.ref a/\y=.ref b/\SqT K H a []/\SqT K H b ys/\Q (.ref b) H
theorem zax:OpR X (dr .Add) (zgq X.K):=by intro pins s σ H x y v u Q I rx ry h;obtain⟨l,b,zs,rfl,rfl,hH,hB,q⟩:=h;cases rx;cases ry;obtain⟨its,r1,p1,_⟩:=I.tuple hH;obtain⟨its2,r2,p2,_⟩:=I.tuple hB;cases r1;obtain⟨⟨cls,dd,data,sl⟩,ho,hc,n,hd⟩:=p1;obtain⟨⟨cls2,dd2,data2,sl2⟩,ho2,hc2,n2,hd2⟩:=p2;simp only at hc hd hc2 hd2;subst hc hd hc2 hd2;refine kj ⟨_,ho,rfl⟩ ⟨_,ho2,rfl⟩ j8 ly PySem.F.slot_tuple_add PySem.F.entry_tuple_add (PySem.F.args_tuple_add_2 _ _) (tuple_addW0 l b _ its2.toArray n n2 dd dd2 sl sl2 (by simp)) ⟨ho,ho2,?_⟩;exact⟨.ref b,H,I,rfl,q⟩
variable {K:W.Frag}{H:Hp}{B:Ad->Prop}{v:V}
theorem z1d {ds:List D}(r:Rep K H B v (.list ds)):∃a vs,v=.ref a/\SqL K H a vs/\Reps K H B vs ds:=by
 obtain⟨a,vs,e,h,q⟩:=r;refine⟨a,vs,e,?_,q⟩;rcases h with⟨h,_⟩|⟨h|h,_⟩
 ·exact .inl (.inl h)
 ·exact .inl (.inr h)
 ·exact .inr h
theorem z1i {p:Addr}{vs:List V}{ds:List D}{B':Ad->Prop}(hp:H p=none)(r:Reps K H B vs ds)(hB:∀a,B a->B' a)(hb:B' (some p)):Rep K (upd H p (.lst vs)) B' (.ref p) (.list ds):=⟨p,vs,rfl,.inl ⟨z0e,hb⟩,r.same (Same.upd hp) hB⟩
theorem z2k {p:Addr}{vs:List V}{ds:List D}{B':Ad->Prop}(hp:H p=none)(r:Reps K H B vs ds)(hB:∀a,B a->B' a):Rep K (upd H p (.tup vs)) B' (.ref p) (.tuple ds):=⟨p,vs,rfl,.inl (.inl z0e),r.same (Same.upd hp) hB⟩
theorem z19 {α:Type}{a:α}(h:(Res.no:Res α)=.ok a):False:=by cases h
theorem zm7:OpN X (dr .Add) (binD .Add):=by
 refine OpR.imp ((zm0.or zd9).or zax) fun x y H Q h=>?_;obtain⟨Bx,By,dx,dy,d,rx,ry,e,q⟩:=h;cases dx<;>try (exact(z19 e).elim)
 all_goals cases dy<;>try (exact(z19 e).elim)
 case int.int i j=>cases e;have e1:x=.int i:=rx;have e2:y=.int j:=ry;subst e1 e2;exact .inl (.inl (zif (q _ H (Same.refl H) rfl fun ds z=>by cases z)))
 case str.str i j=>
  have e1:x=.str i:=rx.1;have e2:y=.str j:=ry.1;subst e1 e2;have e:(if i.length+j.length<=LIM then Res.ok (PyData.str (i++j))else Res.no)=Res.ok d:=e;split at e
  ·rename_i hl;cases e;exact .inl (.inl (zgh (z0q hl) (q _ H (Same.refl H) ⟨rfl,z4u rx.2 ry.2⟩ fun ds z=>by cases z)))
  ·cases e
 case list.list xs ys=>
  have e:(if xs.length+ys.length<=LIM then Res.ok (PyData.list (xs++ys))else Res.no)=Res.ok d:=e;split at e
  ·rename_i hl;cases e;obtain⟨a,vs,rfl,h1,q1⟩:=z1d rx;obtain⟨b,ws,rfl,h2,q2⟩:=z1d ry;refine .inl (.inr ⟨a,b,vs,ws,rfl,rfl,h1,h2,z0q (by rw[q1.length,q2.length];exact hl),fun p hp=>q _ _ (Same.upd hp) ?_ ?_⟩)
   ·exact z1i hp (Reps.append (q1.weak (B':=fun a=>nw H a\/Bx a\/By a) fun _ z=>.inr (.inl z)) (q2.weak fun _ z=>.inr (.inr z))) (fun _ z=>z) (.inl hp)
   ·intro ds z hi;cases z;exact z1i hp (Reps.immB (B':=nw H) _ hi (Reps.append (q1.weak (B':=fun a=>nw H a\/Bx a\/By a) fun _ z=>.inr (.inl z)) (q2.weak fun _ z=>.inr (.inr z)))) (fun _ z=>z) hp
  ·cases e
 case tuple.tuple xs ys=>
  have e:(if xs.length+ys.length<=LIM then Res.ok (PyData.tuple (xs++ys))else Res.no)=Res.ok d:=e;split at e
  ·rename_i hl;cases e;obtain⟨a,vs,rfl,h1,q1⟩:=rx;obtain⟨b,ws,rfl,h2,q2⟩:=ry;cases vs with
   |nil=>
    have:xs=[]:=by have:=q1.length;exact f7.mp this.symm
    subst this;exact .inr ⟨a,b,ws,rfl,rfl,h1,h2,q _ H (Same.refl H) ⟨b,ws,rfl,h2,q2.weak fun _ z=>.inr (.inr z)⟩ fun ds z=>by cases z⟩
   |cons v0 vr=>
    refine .inl (.inl (.inr (.inr (.inr ⟨a,b,v0::vr,ws,rfl,rfl,h1,h2,by simp,z0q (by rw[q1.length,q2.length];exact hl),fun z=>?_,fun z p hp=>q _ _ (Same.upd hp) ?_ fun ds z=>by cases z⟩))))
    ·subst z;have:ys=[]:=by have:=q2.length;exact f7.mp this.symm
     subst this;rw[dg]at q;exact q _ H (Same.refl H) ⟨a,_,rfl,h1,q1.weak fun _ z=>.inr (.inl z)⟩ fun ds z=>by cases z
    ·exact z2k hp (Reps.append (q1.weak (B':=fun a=>nw H a\/Bx a\/By a) fun _ z=>.inr (.inl z)) (q2.weak fun _ z=>.inr (.inr z))) (fun _ z=>z)
  ·cases e
theorem zbe {f:Value->Value->Sem Value}{m:D->D->Res D}{Cc:Int->Int->Prop}{g:Int->Int->V}{gd:Int->Int->D}(h:OpR X f (rI Cc g))(hg:∀i j H B,Rep X.K H B (g i j) (gd i j))(hm:∀dx dy d,m dx dy=.ok d->∃i j,dx=.int i/\dy=.int j/\Cc i j/\d=gd i j):OpN X f m:=by refine OpR.imp h fun x y H Q h=>?_;obtain⟨Bx,By,dx,dy,d,rx,ry,e,q⟩:=h;obtain⟨i,j,rfl,rfl,c,rfl⟩:=hm dx dy d e;exact⟨i,j,rx,ry,c,q _ H (Same.refl H) (hg i j _ _) fun _ _ _=>hg i j _ _⟩
theorem zkb {f:Value->Value->Sem Value}{g:Int->Int->V}(h:OpR X f (rI0 g)):OpR X f (rI (fun _ _=>True) g):=OpR.imp h fun x y H Q ⟨i,j,e1,e2,_,q⟩=>⟨i,j,e1,e2,q⟩
theorem z9z:OpR X (dr .FloorDiv) (rI (fun _ j=>0<j/\j<2 ^ 200) fun i j=>.int (i/j)):=opI fun i j _ _ _ _ _ hc q=>by
 refine floordiv_int (by omega) (by rw[Int.fdiv_eq_ediv_of_nonneg i (by omega)];exact q) (.inl (PyProof.noPylong_of_log2 ?_));have h1:j.natAbs≠0:=by omega
 have h2:j.natAbs<2 ^ 200:=by omega
 have h3:=(Nat.log2_lt h1).mpr h2;omega
def zd2:R2:=fun x y H Q=>∃a n,x=.str a/\y=.int n/\(0<=n/\n<=LIM/\a.length*n.toNat<=LIM)/\Q (.str ⟨(z1o n.toNat a.cps.toList).toArray⟩) H
theorem z8c {α:Type}(n:Nat):z1o n ([]:List α)=[]:=by
 unfold z1o
 induction n with
 |zero=>rfl
 |succ n ih=>rw[gw,gm,ih];rfl
theorem z52 (a:Array Nat):∀(k:Nat) (acc:List Nat),(ba k a).foldl (·++·) acc.toArray=(acc++z1o k a.toList).toArray
 |0,acc=>by simp[z1o]
 |k+1,acc=>by
  rw[gw,List.foldl_cons];have e:acc.toArray++a=(acc++a.toList).toArray:=by simp
  rw[e,z52 a k];show(acc++a.toList++z1o k a.toList).toArray=_;rw[iu];rfl
theorem zam {a:Str}{n:Int}(h:0<=n):Txt.mul a n=⟨(z1o n.toNat a.cps.toList).toArray⟩:=by
 unfold Txt.mul;by_cases h1:n<1
 ·obtain rfl:n=0:=by omega
  rw[if_pos h1];rfl
 ·rw[if_neg h1];split
  ·rename_i h2;rcases de.mp h2 with h2|h2
   ·obtain rfl:n=1:=n6 h2;show a=⟨(a.cps.toList++[]).toArray⟩;rw[dg]
   ·have h3:a.cps.size=0:=n6 h2;have h4:a.cps.toList=[]:=f7.mp (by rw[cw];exact h3);rw[h4,z8c];have h5:a.cps=#[]:=by rw[<-ja (xs:=a.cps),h4]
    cases a;cases h5;rfl
  ·have :=z52 a.cps n.toNat [];rw[List.nil_append]at this;exact congrArg Str.mk this
theorem zb4 {a:Str}(h:PyData.strOk a=true)(n:Nat):PyData.strOk ⟨(z1o n a.cps.toList).toArray⟩=true:=by unfold PyData.strOk at h ⊢;rw[<-Array.all_toList,bu]at h ⊢;intro c hc;have hc:c∈(ba n a.cps.toList).flatten:=hc;obtain⟨l,hl,hcl⟩:=i7.mp hc;rw[(List.mem_replicate.mp hl).2]at hcl;exact h c hcl
theorem z9d:OpR X (dr .Mult) zd2:=by intro pins s σ H x y v u Q I rx ry h;obtain⟨a,n,rfl,rfl,⟨h0,hn,h1⟩,q⟩:=h;obtain⟨t,rfl⟩:=rx;obtain⟨t',rfl⟩:=ry;unfold LIM at hn h1;refine SB.mul (PyProof.Rows.mulOk_of a.length n.toNat (ae _) (by omega) (by omega) (by omega) (by omega)) fun t2 k=>?_;rw[zam h0];exact⟨.str _,H,I.tok _,⟨_,rfl⟩,q⟩
theorem zlo (op:gy)(h:zds op=true):OpN X (dr op) (binD op):=by
 cases op<;>try (cases h;done)
 case Add=>exact zm7
 case Sub=>
  refine zbe (zkb zgo) (gd:=fun i j=>.int (i-j)) (fun _ _ _ _=>rfl) fun dx dy d e=>?_;cases dx<;>try (exact(z19 e).elim)
  cases dy<;>try (exact(z19 e).elim)
  cases e;exact⟨_,_,rfl,rfl,trivial,rfl⟩
 case Mult=>
  refine OpR.imp (zhp.or z9d) fun x y H Q h=>?_;obtain⟨Bx,By,dx,dy,d,rx,ry,e,q⟩:=h;cases dx<;>try (exact(z19 e).elim)
  all_goals cases dy<;>try (exact(z19 e).elim)
  case int.int i j=>
   have e:(if(-(2 ^ 64)<i/\i<2 ^ 64)\/(-(2 ^ 64)<j/\j<2 ^ 64)then Res.ok (PyData.int (i*j))else Res.no)=Res.ok d:=e;split at e
   ·rename_i hc;cases e;exact .inl ⟨i,j,rx,ry,hc,q _ H (Same.refl H) rfl fun ds z=>by cases z⟩
   ·cases e
  case str.int a n=>
   have e:(if 0<=n/\n<=LIM/\a.length*n.toNat<=LIM then Res.ok (PyData.str ⟨(z1o n.toNat a.cps.toList).toArray⟩)else Res.no)=Res.ok d:=e;split at e
   ·rename_i hc;cases e;obtain⟨rx1,rx2⟩:=rx;exact .inr ⟨a,n,rx1,ry,hc,q _ H (Same.refl H) ⟨rfl,zb4 rx2 _⟩ fun ds z=>by cases z⟩
   ·cases e
 case FloorDiv=>
  refine zbe z9z (gd:=fun i j=>.int (i/j)) (fun _ _ _ _=>rfl) fun dx dy d e=>?_;cases dx<;>try (exact(z19 e).elim)
  cases dy<;>try (exact(z19 e).elim)
  rename_i i j;have e:(if 0<j/\j<2 ^ 200 then Res.ok (PyData.int (i/j))else Res.no)=Res.ok d:=e;split at e
  ·rename_i hc;cases e;exact⟨_,_,rfl,rfl,hc,rfl⟩
  ·cases e
 case Mod=>
  refine zbe zgl (gd:=fun i j=>.int (i%j)) (fun _ _ _ _=>rfl) fun dx dy d e=>?_;cases dx<;>try (exact(z19 e).elim)
  cases dy<;>try (exact(z19 e).elim)
  rename_i i j;have e:(if 0<j then Res.ok (PyData.int (i%j))else Res.no)=Res.ok d:=e;split at e
  ·rename_i hc;cases e;exact⟨_,_,rfl,rfl,hc,rfl⟩
  ·cases e
 case Pow=>
  refine zbe zj3 (gd:=fun i j=>.int (i ^ j.toNat)) (fun _ _ _ _=>rfl) fun dx dy d e=>?_;cases dx<;>try (exact(z19 e).elim)
  cases dy<;>try (exact(z19 e).elim)
  rename_i i j;have e:(if 0<=j/\j<=1000/\i.natAbs<2 ^ 64 then Res.ok (PyData.int (i ^ j.toNat))else Res.no)=Res.ok d:=e;split at e
  ·rename_i hc;cases e;exact⟨_,_,rfl,rfl,⟨hc.1,by omega,hc.2.2⟩,rfl⟩
  ·cases e
end
section
variable {X:Cx}{pins:List (Addr×Obj)}{σ:L2.St}{H:Hp}{s:aa}{B:Ad->Prop}
mutual
theorem Rep.reads (I:Inv X pins σ H s):∀{v:V} {u:Value} (d:ah) (n:Nat),shal n d=true->Rep X.K H B v d->RelV v u->(∃as,Reads s.heap u d as)/\d.canLay0=true/\d.depth<=n
 |v,u,.none,n,_,r,q=>by have e:v=.non:=r;subst e;cases q;exact⟨⟨[],.none⟩,by simp only[PyData.canLay0],df _⟩
 |v,u,.bool b,n,_,r,q=>by have e:v=.bl b:=r;subst e;cases q;exact⟨⟨[],.bool b⟩,by simp only[PyData.canLay0],df _⟩
 |v,u,.int b,n,_,r,q=>by have e:v=.int b:=r;subst e;obtain⟨t,rfl⟩:=q;exact⟨⟨[],.int b t⟩,by simp only[PyData.canLay0],df _⟩
 |v,u,.str b,n,_,r,q=>by obtain⟨e,ok⟩:v=.str b/\_:=r;subst e;obtain⟨t,rfl⟩:=q;exact⟨⟨[],.str b t⟩,by simp only[PyData.canLay0];exact ok,df _⟩
 |v,u,.tuple ds,0,h,r,q=>by cases h
 |v,u,.list ds,0,h,r,q=>by cases h
 |v,u,.tuple ds,n+1,h,r,q=>by obtain⟨a,vs,e,h1,r1⟩:=r;subst e;cases q;obtain⟨its,rv,⟨o,ho,hc,k,hd⟩,_⟩:=I.tuple h1;obtain⟨⟨as,ra⟩,c,dp⟩:=Reps.reads I ds n (h) r1 rv;refine⟨⟨as,.tuple ho hc hd (by simpa using ra)⟩,by simp only[PyData.canLay0];exact c,?_⟩;simp only[PyData.depth];omega
 |v,u,.list ds,n+1,h,r,q=>by obtain⟨a,vs,e,h1,r1⟩:=z1d r;subst e;cases q;obtain⟨its,rv,⟨o,k,ho,hc,_,hd⟩,_⟩:=I.list h1;obtain⟨⟨as,ra⟩,c,dp⟩:=Reps.reads I ds n (h) r1 rv;refine⟨⟨a::as,.list ho hc hd (by simpa using ra)⟩,by simp only[PyData.canLay0];exact c,?_⟩;simp only[PyData.depth];omega
 |v,u,.dict es,n,h,r,q=>by cases n<;>cases h
theorem Reps.reads (I:Inv X pins σ H s):∀{vs:List V} {us:List Value} (ds:List ah) (n:Nat),z10 n ds=true->Reps X.K H B vs ds->Vals vs us->(∃as,ReadsAll s.heap us ds as)/\PyData.canLayAll0 ds=true/\PyData.depthAll ds<=n
 |vs,us,[],n,_,r,q=>by have e:vs=[]:=r;subst e;cases q;exact⟨⟨[],.nil⟩,by simp only[PyData.canLayAll0],df _⟩
 |vs,us,d::ds,n,h,r,q=>by
  obtain⟨v,t,e,h1,r1⟩:=r;subst e;rw[z10,aw]at h;cases q with
  |cons q1 q2=>obtain⟨⟨as,ra⟩,c,dp⟩:=Rep.reads I d n h.1 h1 q1;obtain⟨⟨bs,rb⟩,c2,dp2⟩:=Reps.reads I ds n h.2 r1 q2;refine⟨⟨as++bs,.cons ra rb⟩,by simp only[PyData.canLayAll0,c,c2,Bool.and_self],?_⟩;simp only[PyData.depthAll];exact Nat.max_le.mpr ⟨dp,dp2⟩
end
end
section
variable {X:Cx}
def mB (m:D->D->Res Bool):D->D->Res D:=fun x y=>m x y>>=fun b=>.ok (.bool b)
theorem z7m {m:D->D->Res Bool}{x y d:D}(h:mB m x y=.ok d):∃b,m x y=.ok b/\d=.bool b:=by obtain⟨b,h1,h2⟩:=Res.bind_ok h;exact⟨b,h1,(Res.ok.inj h2).symm⟩
theorem c_eq (hu:X.A.units+64<cLine):OpD X (bw .Eq) (mB (cmpD .Eq)):=by
 intro pins s σ H x y v u Q I rx ry h;obtain⟨Bx,By,dx,dy,d,r1,r2,e,q⟩:=h;obtain⟨b,e',ed⟩:=z7m e;subst ed;clear e;have e:=e';clear e';have e:(if(shal 40 dx&&shal 40 dy)=true then Res.ok (eqD dx dy)else Res.no)=Res.ok b:=e;split at e
 ·rename_i hs;cases e;rw[aw]at hs;obtain⟨⟨as,ra⟩,c1,p1⟩:=Rep.reads I dx 40 hs.1 r1 rx;obtain⟨⟨bs,rb⟩,c2,p2⟩:=Rep.reads I dy 40 hs.2 r2 ry;exact SeqAt.compareEq_reads ra rb c1 c2 (by omega) ⟨.bl _,H,I,rfl,q _ H (Same.refl H) rfl⟩
 ·cases e
theorem c_ne (hu:X.A.units+64<cLine):OpD X (bw .NotEq) (mB (cmpD .NotEq)):=by
 intro pins s σ H x y v u Q I rx ry h;obtain⟨Bx,By,dx,dy,d,r1,r2,e,q⟩:=h;obtain⟨b,e',ed⟩:=z7m e;subst ed;clear e;have e:=e';clear e';have e:(if(shal 40 dx&&shal 40 dy)=true then Res.ok (!eqD dx dy)else Res.no)=Res.ok b:=e;split at e
 ·rename_i hs;cases e;rw[aw]at hs;obtain⟨⟨as,ra⟩,c1,p1⟩:=Rep.reads I dx 40 hs.1 r1 rx;obtain⟨⟨bs,rb⟩,c2,p2⟩:=Rep.reads I dy 40 hs.2 r2 ry;exact SeqAt.compareNe_reads ra rb c1 c2 (by omega) ⟨.bl _,H,I,rfl,q _ H (Same.refl H) rfl⟩
 ·cases e
theorem zaw {op:CmpOp}{r:R2}(h:OpR X (bw op) r)(hI:∀i j b H Q,cmpD op (.int i) (.int j)=.ok b->Q (.bl b) H->r (.int i) (.int j) H Q)(hS:∀i j b H Q,cmpD op (.str i) (.str j)=.ok b->Q (.bl b) H->r (.str i) (.str j) H Q)
  (hm:∀dx dy b,cmpD op dx dy=.ok b->(∃i j,dx=.int i/\dy=.int j)\/∃i j,dx=.str i/\dy=.str j):OpD X (bw op) (mB (cmpD op)):=by
 refine OpR.imp h fun x y H Q h=>?_;obtain⟨Bx,By,dx,dy,d,rx,ry,e,q⟩:=h;obtain⟨b,e',ed⟩:=z7m e;subst ed;clear e;have e:=e';clear e';rcases hm dx dy b e with⟨i,j,rfl,rfl⟩|⟨i,j,rfl,rfl⟩
 ·have e1:x=.int i:=rx;have e2:y=.int j:=ry;subst e1 e2;exact hI i j b H Q e (q _ H (Same.refl H) rfl)
 ·have e1:x=.str i:=rx.1;have e2:y=.str j:=ry.1;subst e1 e2;exact hS i j b H Q e (q _ H (Same.refl H) rfl)
theorem c_lt:OpD X (bw .Lt) (mB (cmpD .Lt)):=zaw opLt (fun i j b H Q e q=>by cases e;exact zk1 q) (fun i j b H Q e q=>by cases e;exact zkq q) fun dx dy b e=>by cases dx<;>first|exact(z19 e).elim|(cases dy<;>first|exact .inl ⟨_,_,rfl,rfl⟩|exact .inr ⟨_,_,rfl,rfl⟩|exact(z19 e).elim)
theorem c_le:OpD X (bw .LtE) (mB (cmpD .LtE)):=zaw opLe (fun i j b H Q e q=>by cases e;exact zm5 q) (fun i j b H Q e q=>by cases e;exact zkd q) fun dx dy b e=>by cases dx<;>first|exact(z19 e).elim|(cases dy<;>first|exact .inl ⟨_,_,rfl,rfl⟩|exact .inr ⟨_,_,rfl,rfl⟩|exact(z19 e).elim)
theorem c_gt:OpD X (bw .Gt) (mB (cmpD .Gt)):=zaw opGt (fun i j b H Q e q=>by cases e;exact zjs q) (fun i j b H Q e q=>by cases e;exact zlr q) fun dx dy b e=>by cases dx<;>first|exact(z19 e).elim|(cases dy<;>first|exact .inl ⟨_,_,rfl,rfl⟩|exact .inr ⟨_,_,rfl,rfl⟩|exact(z19 e).elim)
theorem c_ge:OpD X (bw .GtE) (mB (cmpD .GtE)):=zaw zmk (fun i j b H Q e q=>by cases e;exact⟨i,j,rfl,rfl,q⟩) (fun i j b H Q e q=>by cases e) fun dx dy b e=>by cases dx<;>first|exact(z19 e).elim|(cases dy<;>first|exact .inl ⟨_,_,rfl,rfl⟩|exact .inr ⟨_,_,rfl,rfl⟩|exact(z19 e).elim)
theorem REs.val {K:W.Frag}{H:Hp}{B:Ad->Prop}(k:Key):∀{kvs:List (Key×V)} {es:Ents},REs K H B kvs es->match z1c es (kD k)with|some d=>∃v,valV kvs k=some v/\Rep K H B v d|none=>valV kvs k=none
 |kvs,[],r=>by have e:kvs=[]:=r;subst e;exact rfl
 |kvs,(kd,d)::es,r=>by
  obtain⟨k',v,t,e,e2,ok,h,q⟩:=r;subst e e2;have ih:=REs.val k q;by_cases z:k'=k
  ·subst z
   have e1:z1c ((kD k',d)::es) (kD k')=some d:=by
    have:eqK (kD k') (kD k')=true:=by cases k'<;>simp[kD,eqK]
    unfold z1c;rw[kr (by exact this)];rfl
   rw[e1];exact⟨v,z2l (p:=(k',v)) rfl,h⟩
  ·have e0:eqK (kD k') (kD k)=false:=by
    rw[mi];intro w;apply z;cases k'<;>cases k<;>simp[kD,eqK]at w<;>rw[w]
   have e1:z1c ((kD k',d)::es) (kD k)=z1c es (kD k):=by unfold z1c;rw[ku (by rw[e0];exact bn)]
   rw[e1,z2m (p:=(k',v)) z];exact ih
theorem z3d {K:W.Frag}{H:Hp}{B:Ad->Prop}{v:V}{d:D}(h:isK d=true)(r:Rep K H B v d):∃k,d=kD k/\v=kV k/\keyOk k:=by
 cases d<;>try (cases h;done)
 case int i=>exact⟨.inl i,rfl,r,True.intro⟩
 case str x=>exact⟨.inr x,rfl,r.1,r.2⟩
theorem zc4 (hu:X.A.units+64<cLine){pins:List (Addr×Obj)}{s:aa}{σ:L2.St}{H:Hp}{x y:V}{v u:Value}{Q:VK}(ng:Bool)(I:Inv X pins σ H s)(rx:RelV x v)(ry:RelV y u)
  {Bx By:Ad->Prop} {dx dy:D} {b:Bool} (r1:Rep X.K H Bx x dx) (r2:Rep X.K H By y dy) (e:inD dx dy=.ok b) (q:Q (.bl (if ng then !b else b)) H):
  wpAny (model X.prog X.w) X.A (bw (if ng then .NotIn else .In) v u) (EP X pins σ Q) X.xe s:=by
 cases dy<;>try (cases e;done)
 case list xs=>
  change(if(shal 40 dx&&z10 40 xs)=true then Res.ok (xs.any fun y=>eqD y dx)else .no)=_ at e;split at e
  ·rename_i hs;cases e;rw[aw]at hs;obtain⟨⟨as,ra⟩,c1,p1⟩:=Rep.reads I dx 40 hs.1 r1 rx;obtain⟨⟨bs,rb⟩,c2,p2⟩:=Rep.reads I (.list xs) 41 hs.2 r2 ry;have c2':PyData.canLayAll0 xs=true:=by simpa only[PyData.canLay0]using c2
   cases ng
   ·exact SeqAt.in_list_reads rb ra c2' c1 (by omega) ⟨.bl _,H,I,rfl,q⟩
   ·exact SeqAt.notIn_list_reads rb ra c2' c1 (by omega) ⟨.bl _,H,I,rfl,q⟩
  ·cases e
 case tuple xs=>
  change(if(shal 40 dx&&z10 40 xs)=true then Res.ok (xs.any fun y=>eqD y dx)else .no)=_ at e;split at e
  ·rename_i hs;cases e;rw[aw]at hs;obtain⟨⟨as,ra⟩,c1,p1⟩:=Rep.reads I dx 40 hs.1 r1 rx;obtain⟨⟨bs,rb⟩,c2,p2⟩:=Rep.reads I (.tuple xs) 41 hs.2 r2 ry;have c2':PyData.canLayAll0 xs=true:=by simpa only[PyData.canLay0]using c2
   cases ng
   ·exact SeqAt.in_tuple_reads rb ra c2' c1 (by omega) ⟨.bl _,H,I,rfl,q⟩
   ·exact SeqAt.notIn_tuple_reads rb ra c2' c1 (by omega) ⟨.bl _,H,I,rfl,q⟩
  ·cases e
 case dict es=>
  change(if isK dx=true then Res.ok (z1c es dx).isSome else .no)=_ at e;split at e
  ·rename_i hk;cases e;obtain⟨k,rfl,rfl,_⟩:=z3d hk r1;obtain⟨a,kvs,rfl,h1,_,h2⟩:=r2;cases ry;have hv:=h2.val k;have g:DGet H a (kV k) (valV kvs k):=DGet.k h1
   have hb:(valV kvs k).isSome=(z1c es (kD k)).isSome:=by
    cases e:z1c es (kD k)with
    |none=>rw[e]at hv;rw[show valV kvs k=none from hv];rfl
    |some d=>rw[e]at hv;obtain⟨v,hv,_⟩:=hv;rw[hv];rfl
   cases ng
   ·exact d_in (by omega) I g rx fun s' I'=>⟨.bl _,H,I',rfl,by rw[hb];exact q⟩
   ·exact zez (by omega) I g rx fun s' I'=>⟨.bl _,H,I',rfl,by rw[hb];exact q⟩
  ·cases e
 case str z=>
  cases dx<;>try (cases e;done)
  rename_i w;have e1:x=.str w:=r1.1;have e2:y=.str z:=r2.1;subst e1 e2;change(match w.cps.toList with| [c]=>Res.ok (decide (c∈z.cps.toList))|_=>.no)=_ at e;split at e
  ·rename_i c hw;cases e
   have ew:w=⟨#[c]⟩:=by
    obtain⟨cps⟩:=w;have:cps=#[c]:=by rw[<-ja (xs:=cps)];rw[show cps.toList=[c]from hw]
    rw[this]
   subst ew;cases ng
   ·exact opIn pins s σ H _ _ v u Q I rx ry (zk7 q)
   ·exact zdw pins s σ H _ _ v u Q I rx ry (zhi q)
  ·cases e
theorem c_in (hu:X.A.units+64<cLine):OpD X (bw .In) (mB (cmpD .In)):=by intro pins s σ H x y v u Q I rx ry h;obtain⟨Bx,By,dx,dy,d,r1,r2,e,q⟩:=h;obtain⟨b,e',ed⟩:=z7m e;subst ed;clear e;have e:=e';clear e';exact zc4 hu false I rx ry r1 r2 e (q _ H (Same.refl H) rfl)
theorem zdp (hu:X.A.units+64<cLine):OpD X (bw .NotIn) (mB (cmpD .NotIn)):=by intro pins s σ H x y v u Q I rx ry h;obtain⟨Bx,By,dx,dy,d,r1,r2,e,q⟩:=h;obtain⟨b,e',ed⟩:=z7m e;subst ed;clear e;have e:=e';clear e';have e:(inD dx dy>>=fun b=>Res.ok (!b))=Res.ok b:=e;obtain⟨b',e1,e2⟩:=Res.bind_ok e;cases e2;exact zc4 hu true I rx ry r1 r2 e1 (q _ H (Same.refl H) rfl)
theorem zhc (hu:X.A.units+64<cLine)(op:CmpOp)(h:z80 op=true):OpD X (bw op) (mB (cmpD op)):=by
 cases op<;>try (cases h;done)
 ·exact c_eq hu
 ·exact c_ne hu
 ·exact c_lt
 ·exact c_le
 ·exact c_gt
 ·exact c_ge
 ·exact c_in hu
 ·exact zdp hu
end
section
variable {X:Cx}{a b c e:Expr}{es:List Expr}{fa fb fc:Rho->Res GD}{pos:Pos}
theorem z5t {e:Expr}{v:V}{d:D}(h:PE X e (tC v))(r:∀H B,Rep X.K H B v d):PE X e (tD X.K fun _=>.ok (.fr,d)):=PE.imp h fun σ H Q ⟨ρ,F,x,so,e,q⟩=>by cases e;exact q v H (Same.refl H) (r H _)
theorem zky {i:Nat}{x:Str}(hN:X.N[i]?=some x)(hv:Vis X.env.scope x)(hd:(x==("__debug__":Str))=false)(hcd:(x==("__classdict__":Str))=false):PE X (.Name x pos) (tD X.K fun ρ=>rdS ρ[i]?):=PE.imp (z1k hN hv hd hcd) fun σ H Q zz=>by obtain⟨ρ,F,x,so,e,q⟩:=zz;obtain⟨v,h1,h2⟩:=so.rd e;exact⟨v,h1,q v H (Same.refl H) h2⟩
theorem zch {K:W.Frag}{F:Fm}{H H':Hp}{B:Ad->Prop}{v:V}{d:D}{g:G}(r:Rep K H' B v d)(h:∀a,B a->BG F H g a)(n:∀ds,d=.list ds->imms ds=true->Rep K H' (nw H) v d):Rep K H' (BG F H (gN d g)) v d:=by
 cases d with
 |list ds=>
  show Rep K H' (BG F H (if imms ds=true then .fr else g)) v _;split
  ·rename_i hi;exact n ds rfl hi
  ·exact r.weak h
 |_=>exact z2c r h
theorem zka {op:gy}(ho:zds op=true)(ha:PE X a (tD X.K fa))(hb:PE X b (tD X.K fb)):PE X (.BinOp a op b pos) (tD X.K fun ρ=>fa ρ>>=fun x=>fb ρ>>=fun y=>binD op x.2 y.2>>=fun d=>.ok (gN d (gAll [x,y]),d)):=
 PE.imp (zlw (zlo op ho) ha hb) fun σ H Q zz=>by
  obtain⟨ρ,F,z,so,e,q⟩:=zz;obtain⟨x,e1,e⟩:=Res.bind_ok e;obtain⟨y,e2,e⟩:=Res.bind_ok e;obtain⟨d,e3,e⟩:=Res.bind_ok e;cases e;refine⟨ρ,F,x,so,e1,fun v H1 s1 rv=>⟨ρ,F,y,so.same s1,e2,fun u H2 s2 ru=>⟨_,_,x.2,y.2,d,rv.same s2 fun _ z=>z,ru,e3,fun w H3 s3 rw' nn=>q w H3 ((s1.trans s2).trans s3) (zch rw' (fun a h=>?_) fun ds z hi=>(nn ds z hi).weak fun _ z=>nw.back (s1.trans s2) z)⟩⟩⟩;rcases h with h|h|h
  ·exact z3j so.vis (s1.trans s2) h
  ·exact z4c so.vis (x:=x) (by simp) h
  ·exact z4c so.vis (x:=y) (by simp) (h.back s1)
theorem zlm (ha:PE X a (tD X.K fa)):PE X (.UnaryOp .USub a pos) (tD X.K fun ρ=>fa ρ>>=fun x=>match x.2 with|.int i=>.ok (.fr,.int (-i))|_=>.no):=
 PE.imp (zmm zg3 ha) fun σ H Q zz=>by
  obtain⟨ρ,F,z,so,e,q⟩:=zz;obtain⟨x,e1,e⟩:=Res.bind_ok e;refine⟨ρ,F,x,so,e1,fun v H1 s1 rv=>?_⟩;obtain⟨g,d⟩:=x;cases d<;>try (cases e;done)
  rename_i i;cases e;exact⟨i,rv,q _ H1 s1 rfl⟩
theorem zc3 {op:CmpOp}{σ:L2.St}{H:Hp}{Q:VK}(h:tD X.K (fun ρ=>fa ρ>>=fun x=>fb ρ>>=fun y=>cmpD op x.2 y.2>>=fun b=>.ok (.fr,.bool b)) σ H Q):tOp (rOp X.K (mB (cmpD op))) (tD X.K fa) (tD X.K fb) σ H Q:=by obtain⟨ρ,F,z,so,e,q⟩:=h;obtain⟨x,e1,e⟩:=Res.bind_ok e;obtain⟨y,e2,e⟩:=Res.bind_ok e;obtain⟨d,e3,e⟩:=Res.bind_ok e;cases e;exact⟨ρ,F,x,so,e1,fun v H1 s1 rv=>⟨ρ,F,y,so.same s1,e2,fun u H2 s2 ru=>⟨_,_,x.2,y.2,.bool d,rv.same s2 fun _ z=>z,ru,by show(cmpD op x.2 y.2>>=fun b=>Res.ok (PyData.bool b))=_;rw[e3];rfl,fun w H3 s3 rw'=>q w H3 ((s1.trans s2).trans s3) rw'⟩⟩⟩
theorem zle {op:CmpOp}(hu:X.A.units+64<cLine)(ho:z80 op=true)(hm:gz op b=false)(ha:PE X a (tD X.K fa))(hb:PE X b (tD X.K fb)):
  PE X (.Compare a [op] [b] pos) (tD X.K fun ρ=>fa ρ>>=fun x=>fb ρ>>=fun y=>cmpD op x.2 y.2>>=fun b=>.ok (.fr,.bool b)):=
 PE.imp (zep (zhc hu op ho) ha hb hm) fun σ H Q h=>zc3 h
theorem zcv {f:Rho->Res GD}{t:TE}(ht:∀σ H Q,tD X.K f σ H Q->t σ H Q)(hb:∀ρ x,f ρ=.ok x->∃c,x.2=.bool c)(σ:L2.St)(H:Hp)(Q:Bool->Hp->Prop)(h:tDT X.K (fun ρ=>f ρ>>=fun x=>z1f x.2) σ H Q):zg1 t σ H Q:=by obtain⟨ρ,F,c,so,e,q⟩:=h;obtain⟨x,e1,e⟩:=Res.bind_ok e;obtain⟨k,e2⟩:=hb ρ x e1;rw[e2]at e;cases e;refine ht σ H _ ⟨ρ,F,x,so,e1,fun v H' s r=>?_⟩;rw[e2]at r;exact⟨k,r,q H' s⟩
theorem zaz {op:CmpOp}{ρ:Rho}{x:GD}(e:(fa ρ>>=fun x=>fb ρ>>=fun y=>cmpD op x.2 y.2>>=fun b=>Res.ok ((.fr,.bool b):GD))=.ok x):∃c,x.2=.bool c:=by obtain⟨x,e1,e⟩:=Res.bind_ok e;obtain⟨y,e2,e⟩:=Res.bind_ok e;obtain⟨d,e3,e⟩:=Res.bind_ok e;cases e;exact⟨d,rfl⟩
theorem zmw {op:CmpOp}(hu:X.A.units+64<cLine)(ho:z80 op=true)(hm:gz op b=false)(ha:PE X a (tD X.K fa))(hb:PE X b (tD X.K fb)):
  PT X (.Compare a [op] [b] pos) (tDT X.K fun ρ=>(fa ρ>>=fun x=>fb ρ>>=fun y=>cmpD op x.2 y.2>>=fun b=>Res.ok ((.fr,.bool b):GD))>>=fun x=>z1f x.2):=
 PT.imp (zeh (zhc hu op ho) ha hb hm) (zcv (fun σ H Q h=>zc3 h) fun ρ x e=>zaz e)
def andF (fa fb:Rho->Res GD):Rho->Res GD:=fun ρ=>fa ρ>>=fun x=>match x.2 with|.bool c=>if c then fb ρ else .ok (.fr,.bool false)|_=>.no
def orF (fa fb:Rho->Res GD):Rho->Res GD:=fun ρ=>fa ρ>>=fun x=>match x.2 with|.bool c=>if c then .ok (.fr,.bool true)else fb ρ|_=>.no
theorem z3u {f:Rho->Res GD}{ρ:Rho}{F:Fm}{H H1:Hp}{x:GD}{σ:L2.St}{Q:VK}(s1:Same H H1)(so:StOk X.K F H σ ρ)(e:f ρ=.ok x)(q:∀v H',Same H H'->Rep X.K H' (BG F H x.1) v x.2->Q v H'):tD X.K f σ H1 Q:=⟨ρ,F,x,so.same s1,e,fun v H' s r=>q v H' (s1.trans s) (r.weak fun _ b=>b.back s1)⟩
theorem zhb {rest:List Expr}(ha:PE X a (tD X.K fa))(hb:PE X (.BoolOp .And (b::rest) pos) (tD X.K fb)):PE X (.BoolOp .And (a::b::rest) pos) (tD X.K (andF fa fb)):=
 PE.imp (zfx ha hb) fun σ H Q zz=>by
  obtain⟨ρ,F,z,so,e,q⟩:=zz;obtain⟨x,e1,e⟩:=Res.bind_ok e;refine⟨ρ,F,x,so,e1,fun v H1 s1 rv=>?_⟩;obtain⟨g,d⟩:=x;cases d<;>try (cases e;done)
  rename_i c;refine⟨c,rv,?_⟩;cases c with
  |true=>exact iteT (z3u s1 so e q)
  |false=>cases e;exact iteF (q _ H1 s1 rfl)
theorem d_or {rest:List Expr}(ha:PE X a (tD X.K fa))(hb:PE X (.BoolOp .Or (b::rest) pos) (tD X.K fb)):PE X (.BoolOp .Or (a::b::rest) pos) (tD X.K (orF fa fb)):=
 PE.imp (zji ha hb) fun σ H Q zz=>by
  obtain⟨ρ,F,z,so,e,q⟩:=zz;obtain⟨x,e1,e⟩:=Res.bind_ok e;refine⟨ρ,F,x,so,e1,fun v H1 s1 rv=>?_⟩;obtain⟨g,d⟩:=x;cases d<;>try (cases e;done)
  rename_i c;refine⟨c,rv,?_⟩;cases c with
  |false=>exact iteF (z3u s1 so e q)
  |true=>cases e;exact iteT (q _ H1 s1 rfl)
theorem z83 {K:W.Frag}{H:Hp}{B:Ad->Prop}{v:V}{d:D}{k:Bool}(r:Rep K H B v d)(e:z1f d=.ok k):TruV K v H k:=by
 cases d with
 |none=>cases e;have e1:v=.non:=r;subst e1;exact rfl
 |bool b=>cases e;have e1:v=.bl b:=r;subst e1;exact rfl
 |int b=>cases e;have e1:v=.int b:=r;subst e1;show(!decide (b=0))=(b != 0);rw[bne,iz]
 |str b=>
  have e1:v=.str b:=r.1;subst e1;simp only[z1f]at e;split at e
  ·rename_i hl;cases e;refine⟨z0q hl,?_⟩;show(!decide (b.length=0))=((b.length:Int) != 0);rw[bne,iz]
   congr 1
   rw[decide_eq_decide];omega
  ·cases e
 |tuple ds=>cases e;obtain⟨a,vs,e1,h,q⟩:=r;subst e1;refine .inr (.inl ⟨vs,h,?_⟩);show(!ds.isEmpty)=!vs.isEmpty;have:=q.length;cases vs<;>cases ds<;>simp at this ⊢
 |list ds=>cases e;obtain⟨a,vs,e1,h,q⟩:=z1d r;subst e1;refine .inl ⟨vs,h,?_⟩;show(!ds.isEmpty)=!vs.isEmpty;have:=q.length;cases vs<;>cases ds<;>simp at this ⊢
 |dict es=>
  cases e;obtain⟨a,kvs,e1,h,_,q⟩:=r;subst e1;refine .inr (.inr ⟨kvs,h,?_⟩);show(!es.isEmpty)=!kvs.isEmpty;cases es with
  |nil=>have e2:kvs=[]:=q;subst e2;rfl
  |cons e0 er=>obtain⟨k,v,t,e2,_⟩:=q;subst e2;rfl
theorem zlk (ha:PE X a (tD X.K fa)):PE X (.UnaryOp .Not a pos) (tD X.K fun ρ=>fa ρ>>=fun x=>z1f x.2>>=fun c=>.ok (.fr,.bool (!c))):=by intro pins s σ H Q I h;obtain⟨ρ,F,z,so,e,q⟩:=h;obtain⟨x,e1,e⟩:=Res.bind_ok e;obtain⟨k,e2,e⟩:=Res.bind_ok e;cases e;refine UnaryOp_ (thn (ha pins s σ H (fun v H1=>Same H H1/\Rep X.K H1 (BG F H x.1) v x.2) I ⟨ρ,F,x,so,e1,fun v H1 s1 rv=>⟨s1,rv⟩⟩) fun v s1 zz=>?_);obtain⟨y,H1,I1,r1,s2,rv⟩:=zz;exact not_of (thn (zcd pins s1 σ H1 y v (fun b H2=>b=k/\H2=H1) I1 r1 ⟨k,z83 rv e2,rfl,rfl⟩) fun b s2' zz=>by obtain⟨H2,I2,eb,eH⟩:=zz;subst eb eH;exact⟨.bl _,H2,I2,rfl,q _ H2 s2 rfl⟩)
theorem zjr (ha:PE X e (tD X.K fa))(he:∀whole,lc e X.env whole=(do let v <-whole;m4 e.pos;m5 [v] (m9 v))):PT X e (tDT X.K fun ρ=>fa ρ>>=fun x=>z1f x.2):=PT.imp (z9y ha he) fun σ H Q zz=>by obtain⟨ρ,F,k,so,e,q⟩:=zz;obtain⟨x,e1,e⟩:=Res.bind_ok e;exact⟨ρ,F,x,so,e1,fun v H1 s1 rv=>⟨k,z83 rv e,q H1 s1⟩⟩
section
variable {ta tb:Rho->Res Bool}{rest:List Expr}
theorem z64 {f:Rho->Res Bool}{ρ:Rho}{F:Fm}{H H1:Hp}{x:Bool}{σ:L2.St}{Q:Bool->Hp->Prop}(s1:Same H H1)(so:StOk X.K F H σ ρ)(e:f ρ=.ok x)(q:∀H',Same H H'->Q x H'):tDT X.K f σ H1 Q:=⟨ρ,F,x,so.same s1,e,fun H' s=>q H' (s1.trans s)⟩
theorem w_and (ha:PT X a (tDT X.K ta))(hb:PW X (.BoolOp .And (b::rest) pos) (tDT X.K tb)):PW X (.BoolOp .And (a::b::rest) pos) (tDT X.K fun ρ=>ta ρ>>=fun c=>if c then tb ρ else .ok false):=
 PW.imp (zi7 ha hb) fun σ H Q zz=>by
  obtain⟨ρ,F,k,so,e,q⟩:=zz;obtain⟨x,e1,e⟩:=Res.bind_ok e;refine⟨ρ,F,x,so,e1,fun H1 s1=>?_⟩;cases x with
  |true=>exact iteT (z64 s1 so e q)
  |false=>cases e;exact iteF (q H1 s1)
theorem w_or (ha:PT X a (tDT X.K ta))(hb:PW X (.BoolOp .Or (b::rest) pos) (tDT X.K tb)):PW X (.BoolOp .Or (a::b::rest) pos) (tDT X.K fun ρ=>ta ρ>>=fun c=>if c then .ok true else tb ρ):=
 PW.imp (zls ha hb) fun σ H Q zz=>by
  obtain⟨ρ,F,k,so,e,q⟩:=zz;obtain⟨x,e1,e⟩:=Res.bind_ok e;refine⟨ρ,F,x,so,e1,fun H1 s1=>?_⟩;cases x with
  |false=>exact iteF (z64 s1 so e q)
  |true=>cases e;exact iteT (q H1 s1)
theorem zb7 (ha:PT X a (tDT X.K ta)):PT X (.UnaryOp .Not a pos) (tDT X.K fun ρ=>ta ρ>>=fun c=>.ok (!c)):=PT.imp (zca ha) fun σ H Q zz=>by obtain⟨ρ,F,k,so,e,q⟩:=zz;obtain⟨x,e1,e⟩:=Res.bind_ok e;cases e;exact⟨ρ,F,x,so,e1,fun H1 s1=>q H1 s1⟩
theorem zl3 (hc:PT X c (tDT X.K ta))(ha:PE X a (tD X.K fa))(hb:PE X b (tD X.K fb)):PE X (.IfExp c a b pos) (tD X.K fun ρ=>ta ρ>>=fun k=>if k then fa ρ else fb ρ):=
 PE.imp (zb6 hc ha hb) fun σ H Q zz=>by
  obtain⟨ρ,F,z,so,e,q⟩:=zz;obtain⟨x,e1,e⟩:=Res.bind_ok e;refine⟨ρ,F,x,so,e1,fun H1 s1=>?_⟩;cases x with
  |true=>exact iteT (z3u s1 so e q)
  |false=>exact iteF (z3u s1 so e q)
end
theorem zgs:PA X [] (tDA X.K fun _=>.ok []):=PA.imp z39 fun σ H Q ⟨ρ,F,z,so,e,q⟩=>by cases e;exact q [] H (Same.refl H) rfl
theorem zby {fs:Rho->Res (List GD)}(hs:isStar e=false)(ha:PE X e (tD X.K fa))(hr:PA X es (tDA X.K fs)):PA X (e::es) (tDA X.K fun ρ=>fa ρ>>=fun x=>fs ρ>>=fun xs=>.ok (x::xs)):=PA.imp (pa_c ha hr hs) fun σ H Q zz=>by obtain⟨ρ,F,z,so,e,q⟩:=zz;obtain⟨x,e1,e⟩:=Res.bind_ok e;obtain⟨xs,e2,e⟩:=Res.bind_ok e;cases e;refine⟨ρ,F,x,so,e1,fun v H1 s1 rv=>⟨ρ,F,xs,so.same s1,e2,fun vs H2 s2 rs=>q _ H2 (s1.trans s2) ?_⟩⟩;exact⟨v,vs,rfl,rv.same s2 fun _ z=>z,rs.back s1⟩
theorem zmo {x1}{fs:Rho->Res (List GD)}(h:PA X es (tDA X.K fs))(hl:∀ρ xs,fs ρ=.ok xs->xs.length<=aq):PE X (.Tuple es x1 pos) (tD X.K fun ρ=>fs ρ>>=fun ys=>.ok (gJ (.tuple (ys.map (·.2))) (gAll ys),.tuple (ys.map (·.2)))):=PE.imp (zck h) fun σ H Q zz=>by obtain⟨ρ,F,z,so,e,q⟩:=zz;obtain⟨ys,e1,e⟩:=Res.bind_ok e;cases e;refine⟨ρ,F,ys,so,e1,fun vs H1 s1 rs=>?_⟩;have r:=rs.reps (B:=BG F H (gAll ys)) fun x hx a h=>z4c so.vis hx h;refine⟨by rw[r.length,ag];exact hl ρ ys e1,fun p hp=>q _ _ (s1.trans (Same.upd hp)) (z2c (z2k hp r fun _ z=>z) fun _ z=>z)⟩
theorem zkw {fs:Rho->Res (List GD)}(h:PA X es (tDA X.K fs))(hl:∀ρ xs,fs ρ=.ok xs->xs.length<=aq):PE X (.List es pos) (tD X.K fun ρ=>fs ρ>>=fun ys=>.ok (gAll ys,.list (ys.map (·.2)))):=PE.imp (zgp h) fun σ H Q zz=>by obtain⟨ρ,F,z,so,e,q⟩:=zz;obtain⟨ys,e1,e⟩:=Res.bind_ok e;cases e;refine⟨ρ,F,ys,so,e1,fun vs H1 s1 rs=>?_⟩;have r:=rs.reps (B:=BG F H (gAll ys)) fun x hx a h=>z4c so.vis hx h;refine⟨by rw[r.length,ag];exact hl ρ ys e1,fun p hp=>q _ _ (s1.trans (Same.upd hp)) (z1i hp r (fun _ z=>z) (z3j so.vis s1 hp))⟩
end
theorem ziu {α:Type}(xs:List α)(i:Int):L2.atI xs i=Mi.atI xs i:=rfl
theorem z50 (n d:Nat)(o:Option Int):HT.sIx n d o=Mi.sIx n d o:=by cases o<;>rfl
theorem z7j (xs:List V)(lo hi:Option Int):L2.cutV xs lo hi=Mi.cut xs lo hi:=by unfold L2.cutV Mi.cut;rw[z50,z50]
theorem Reps.cut {K:W.Frag}{H:Hp}{B:Ad->Prop}{vs:List V}{ds:List D}(lo hi:Option Int)(r:Reps K H B vs ds):Reps K H B (Mi.cut vs lo hi) (Mi.cut ds lo hi):=by unfold Mi.cut;rw[r.length];exact(r.drop _).take _
theorem Reps.atI {K:W.Frag}{H:Hp}{B:Ad->Prop}{vs:List V}{ds:List D}{i:Int}{d:D}(r:Reps K H B vs ds)(e:Mi.atI ds i=some d):∃v,L2.atI vs i=some v/\Rep K H B v d:=by
 unfold Mi.atI at e;cases e1:Mi.ixN ds.length i with
 |none=>rw[e1]at e;cases e
 |some j=>rw[e1]at e;obtain⟨v,h1,h2⟩:=r.get (i:=j) (d:=d) e;refine⟨v,?_,h2⟩;rw[ziu];unfold Mi.atI;rw[r.length,e1];exact h1
section
variable {X:Cx}{a b c e:Expr}{es:List Expr}{fa fb fc:Rho->Res GD}{pos:Pos}
theorem zeq (hu:X.A.units+64<cLine):IxR X (fun x y H Q=>∃a v,x=.ref a/\DGet H a y (some v)/\Q v H):=by intro value slice pins s σ H x y v u Q I rx ry h hs;obtain⟨a,z,rfl,g,q⟩:=h;cases rx;exact tail_any (z5n I g) PySem.F.slot_dict_getitem.lookup (z8n (by omega) I g ry fun w' s' I' rw'=>⟨z,H,I',rw',q⟩) hs
def rIxD (K:W.Frag):R2:=fun x y H Q=>∃B B' dx dy d,Rep K H B x dx/\Rep K H B' y dy/\ixD dx dy=.ok d/\∀w,Rep K H B w d->Q w H
theorem zm4 (hu:X.A.units+64<cLine):IxR X (rIxD X.K):=by
 intro value slice pins s σ H x y v u Q I rx ry h hs;refine(zkp.or (zeq hu)) value slice pins s σ H x y v u Q I rx ry ?_ hs;obtain⟨B,B',dx,dy,d,r1,r2,e,q⟩:=h;cases dx<;>try (cases e;done)
 case list xs=>
  cases dy<;>try (cases e;done)
  rename_i i;have e2:y=.int i:=r2;subst e2;obtain⟨a,vs,rfl,h1,q1⟩:=z1d r1;change Res.ofO (Mi.atI xs i)=_ at e;cases e3:Mi.atI xs i with
  |none=>rw[e3]at e;cases e
  |some d'=>rw[e3]at e;cases e;obtain⟨w,h3,h4⟩:=q1.atI e3;exact .inl (.inl ⟨a,vs,i,w,rfl,rfl,h1,h3,q w h4⟩)
 case tuple xs=>
  cases dy<;>try (cases e;done)
  rename_i i;have e2:y=.int i:=r2;subst e2;obtain⟨a,vs,rfl,h1,q1⟩:=r1;change Res.ofO (Mi.atI xs i)=_ at e;cases e3:Mi.atI xs i with
  |none=>rw[e3]at e;cases e
  |some d'=>rw[e3]at e;cases e;obtain⟨w,h3,h4⟩:=q1.atI e3;exact .inl (.inr (.inl ⟨a,vs,i,w,rfl,rfl,h1,h3,q w h4⟩))
 case str z=>
  cases dy<;>try (cases e;done)
  rename_i i;have e2:y=.int i:=r2;have e1:x=.str z:=r1.1;subst e1 e2;change(if z.length<=LIM then Res.ofO ((Mi.atI z.cps.toList i).map fun c=>PyData.str ⟨#[c]⟩)else .no)=_ at e;split at e
  ·rename_i hl;cases e3:Mi.atI z.cps.toList i with
   |none=>rw[e3]at e;cases e
   |some c=>
    rw[e3]at e;cases e
    have hc:c∈z.cps.toList:=by
     unfold Mi.atI at e3;cases e4:Mi.ixN z.cps.toList.length i with
     |none=>rw[e4]at e3;cases e3
     |some j=>rw[e4]at e3;exact b8 e3
    exact .inl (.inr (.inr ⟨z,i,c,rfl,rfl,z0q hl,e3,q _ ⟨rfl,z4h r1.2 hc⟩⟩))
  ·cases e
 case dict es=>
  change(if isK _=true then Res.ofO (z1c es _)else Res.no)=_ at e;split at e
  ·rename_i hk;obtain⟨k,rfl,rfl,_⟩:=z3d hk r2;obtain⟨a,kvs,rfl,h1,_,h2⟩:=r1;have hv:=h2.val k;cases e3:z1c es (kD k)with
   |none=>rw[e3]at e;cases e
   |some d'=>rw[e3]at e hv;cases e;obtain⟨w,h3,h4⟩:=hv;exact .inr ⟨a,w,rfl,by rw[<-h3];exact DGet.k h1,q w h4⟩
  ·cases e
theorem z9u {i:Expr}(h:z3x i=true):z7t i:=fun o v=>by cases i<;>first|rfl|cases h
theorem d_ix {i:Expr}(hu:X.A.units+64<cLine)(hs:z3x i=true)(ha:PE X a (tD X.K fa))(hb:PE X i (tD X.K fb)):
  PE X (.Subscript a i pos) (tD X.K fun ρ=>fa ρ>>=fun x=>fb ρ>>=fun y=>ixD x.2 y.2>>=fun d=>.ok (gJ d x.1,d)):=
 PE.imp (zll (zm4 hu) ha hb (z9u hs)) fun σ H Q zz=>by obtain⟨ρ,F,z,so,e,q⟩:=zz;obtain⟨x,e1,e⟩:=Res.bind_ok e;obtain⟨y,e2,e⟩:=Res.bind_ok e;obtain⟨d,e3,e⟩:=Res.bind_ok e;cases e;exact⟨ρ,F,x,so,e1,fun v H1 s1 rv=>⟨ρ,F,y,so.same s1,e2,fun u H2 s2 ru=>⟨_,_,x.2,y.2,d,rv.same s2 fun _ z=>z,ru,e3,fun w rw'=>q w H2 (s1.trans s2) (z2c rw' fun _ z=>z)⟩⟩⟩
theorem z9b {z:Str}(h:PyData.strOk z=true)(lo hi:Option Int):PyData.strOk (z13 z lo hi)=true:=
 z12.mpr fun c hc=>z12.mp h c (by
  have:c∈Mi.cut z.cps.toList lo hi:=by simpa[z13]using hc
  unfold Mi.cut at this;exact fj (fm this))
theorem zcf (lo hi:Option Int)(n:Nat):du lo hi 1 n=sliceRange ((Mi.sIx n 0 lo:Nat):Int) ((Mi.sIx n n hi:Nat):Int) 1:=by
 delta du
 have h1:(1:Int)>0:=Int.one_pos;simp only[h1,if_true]
 congr 1
 ·cases lo with
  |none=>rfl
  |some v=>
   simp only[Mi.sIx];by_cases h:v<0
   ·simp only[if_pos h];omega
   ·simp only[if_neg h];omega
 ·cases hi with
  |none=>rfl
  |some v=>
   simp only[Mi.sIx];by_cases h:v<0
   ·simp only[if_pos h];omega
   ·simp only[if_neg h];omega
theorem z90 (n d:Nat)(hd:d<=n)(o:Option Int):Mi.sIx n d o<=n:=by rw[<-z50];exact HT.sIx_le n d hd o
theorem zag (z:Str)(lo hi:Option Int):Txt.slice z lo hi=z13 z lo hi:=by
 have hn:z.cps.toList.length=z.length:=by simp[Str.length]
 have e:(du lo hi 1 z.length).filterMap (z.cps[·]?)=Mi.cut z.cps.toList lo hi:=by rw[zcf,lh,pick_run];unfold Mi.cut;rw[hn]
 have hl:(du lo hi 1 z.length).length=Mi.sIx z.length z.length hi-Mi.sIx z.length 0 lo:=by rw[zcf,lh,ag,cr]
 unfold Txt.slice;split
 ·rename_i hc;simp only[beq_self_eq_true,jy,beq_iff_eq]at hc;rw[hl]at hc;have h1:=z90 z.length 0 (df _) lo;have h2:=z90 z.length z.length (ae _) hi
  have e2:Mi.cut z.cps.toList lo hi=z.cps.toList:=by
   unfold Mi.cut;rw[hn];by_cases h0:Mi.sIx z.length 0 lo=0
   ·rw[h0,List.drop_zero,kw (by rw[hn];omega)]
   ·have hz:z.length=0:=by omega
    have:z.cps.toList=[]:=f7.mp (by rw[hn];exact hz);rw[this];simp
  unfold z13;rw[e2]
 ·unfold z13;rw[<-e]
def rSlD (K:W.Frag):V->Option Int->Option Int->Hp->VK->Prop:=fun x lo hi H Q=>∃B dx d,Rep K H B x dx/\slD dx lo hi=.ok d/\∀w H',Same H H'->Rep K H' (fun a=>nw H a\/B a) w d->(∀ds,d=.list ds->imms ds=true->Rep K H' (nw H) w d)->Q w H'
theorem zm8:SlR X (rSlD X.K):=by
 intro pins s σ H x v vl vu lo hi sl Q I rx hs pl pu h;refine(zmp.or ziq) pins s σ H x v vl vu lo hi sl Q I rx hs pl pu ?_;obtain⟨B,dx,d,r,e,q⟩:=h;cases dx<;>try (cases e;done)
 case list xs=>cases e;obtain⟨a,vs,rfl,h1,q1⟩:=z1d r;refine .inl (.inl ⟨a,vs,rfl,h1,fun p hp=>?_⟩);rw[z7j];exact q _ _ (Same.upd hp) (z1i hp (q1.cut lo hi) (fun _ z=>.inr z) (.inl hp)) fun ds z hi'=>by cases z;exact z1i hp (Reps.immB (B':=nw H) _ hi' (q1.cut lo hi)) (fun _ z=>z) hp
 case tuple xs=>
  change(if sIx xs.length 0 lo=0/\sIx xs.length xs.length hi=xs.length then Res.no else Res.ok (PyData.tuple (cut xs lo hi)))=_ at e;split at e
  ·cases e
  ·rename_i hw;cases e;obtain⟨a,vs,rfl,h1,q1⟩:=r;refine .inr ⟨a,vs,rfl,h1,by rw[z50,z50,q1.length];exact hw,fun p hp=>?_⟩;rw[z7j];exact q _ _ (Same.upd hp) (z2k hp (q1.cut lo hi) fun _ z=>.inr z) fun ds z=>by cases z
 case str z=>
  change(if z.length<=LIM then Res.ok (PyData.str (z13 z lo hi))else .no)=_ at e;split at e
  ·rename_i hl;cases e;have e1:x=.str z:=r.1;subst e1;refine .inl (.inr ⟨z,rfl,z0q hl,?_⟩);rw[zag];exact q _ H (Same.refl H) ⟨rfl,z9b r.2 lo hi⟩ fun ds z=>by cases z
  ·cases e
theorem z4f:PO X none (tDO X.K fun _=>.ok none):=PO.imp ze6 fun σ H Q ⟨ρ,F,z,so,e,q⟩=>by cases e;exact q H (Same.refl H)
theorem zha (ha:PE X a (tD X.K fa)):PO X (some a) (tDO X.K fun ρ=>fa ρ>>=fun x=>intO x.2):=
 PO.imp (zfe ha) fun σ H Q zz=>by
  obtain⟨ρ,F,z,so,e,q⟩:=zz;obtain⟨x,e1,e⟩:=Res.bind_ok e;refine⟨ρ,F,x,so,e1,fun v H1 s1 rv=>?_⟩;obtain⟨g,d⟩:=x;cases d<;>try (cases e;done)
  cases e;exact⟨_,rv,q H1 s1⟩
theorem d_sl {lo hi:Option Expr}{p2:Pos}{fl fh:Rho->Res (Option Int)}(ha:PE X a (tD X.K fa))(hl:PO X lo (tDO X.K fl))(hh:PO X hi (tDO X.K fh)):
  PE X (.Subscript a (.Slice lo hi none p2) pos) (tD X.K fun ρ=>fa ρ>>=fun x=>fl ρ>>=fun l=>fh ρ>>=fun h=>slD x.2 l h>>=fun d=>.ok (gN d (gAll [x]),d)):=
 PE.imp (zap zm8 ha hl hh) fun σ H Q zz=>by
  obtain⟨ρ,F,z,so,e,q⟩:=zz;obtain⟨x,e1,e⟩:=Res.bind_ok e;obtain⟨l,e2,e⟩:=Res.bind_ok e;obtain⟨h,e3,e⟩:=Res.bind_ok e;obtain⟨d,e4,e⟩:=Res.bind_ok e;cases e;refine⟨ρ,F,x,so,e1,fun v H1 s1 rv=>⟨ρ,F,l,so.same s1,e2,fun H2 s2=>⟨ρ,F,h,so.same (s1.trans s2),e3,fun H3 s3=>⟨_,x.2,d,rv.same (s2.trans s3) fun _ z=>z,e4,fun w H4 s4 rw' nn=>q w H4 ((s1.trans (s2.trans s3)).trans s4) (zch rw' (fun a h=>?_) fun ds z hi=>(nn ds z hi).weak fun _ z=>nw.back (s1.trans (s2.trans s3)) z)⟩⟩⟩⟩;rcases h with h|h
  ·exact z3j so.vis (s1.trans (s2.trans s3)) h
  ·exact z4c so.vis (x:=x) (by simp) h
theorem Reps.pick {K:W.Frag}{H:Hp}{B:Ad->Prop}{vs:List V}{ds:List D}(r:Reps K H B vs ds):∀is:List Nat,Reps K H B (is.filterMap (vs[·]?)) (is.filterMap (ds[·]?))
 | []=>rfl
 |i::is=>by
  rw[b7,b7];cases h:ds[i]? with
  |some d=>obtain⟨v,h1,h2⟩:=r.get h;rw[h1];exact Reps.cons h2 (Reps.pick r is)
  |none=>
   have:vs[i]?=none:=by rw[dv]at h ⊢;rw[r.length];exact h
   rw[this];exact Reps.pick r is
theorem Vals.pick {vs:List V}{us:List Value}(r:Vals vs us):∀is:List Nat,Vals (is.filterMap (vs[·]?)) (is.filterMap (us[·]?))
 | []=>.nil
 |i::is=>by
  rw[b7,b7];cases h:vs[i]? with
  |some d=>obtain⟨v,h1,h2⟩:=r.get h;rw[h1];exact .cons h2 (Vals.pick r is)
  |none=>
   have:us[i]?=none:=by rw[dv]at h ⊢;rw[<-r.length];exact h
   rw[this];exact Vals.pick r is
theorem d_cB {x:Str}{id:String}{m:List D->Res D}{fs:Rho->Res (List GD)}(hc:CallR X (.builtin id) (z9r X.K m))(hm:X.mg x=none)(hv:ck x=some (.builtin id))(ha:PA X (e::es) (tDA X.K fs))(hst:((e::es).all fun e=>!isStar e)=true)(hg:Gl X x)(hn:x≠"__name__")(hdb:(x==("__debug__":Str))=false){p:Pos}:
  PE X (.Call (.Name x p) (e::es) [] pos) (tD X.K fun ρ=>fs ρ>>=fun ys=>m (ys.map (·.2))>>=fun d=>.ok (gJ d .al,d)):=
 PE.imp (ziv hc hm hv ha hst hg hn hdb) fun σ H Q zz=>by obtain⟨ρ,F,z,so,e,q⟩:=zz;obtain⟨ys,e1,e⟩:=Res.bind_ok e;obtain⟨d,e2,e⟩:=Res.bind_ok e;cases e;exact⟨ρ,F,ys,so,e1,fun vs H1 s1 rs=>⟨_,_,d,rs.repsV so.vis,e2,fun w H2 s2 rw'=>q w H2 (s1.trans s2) (z2c rw' fun a h=>h.elim (fun z=>(nw.back s1 z).vis so.vis) fun z=>z)⟩⟩
theorem REs.length {K:W.Frag}{H:Hp}{B:Ad->Prop}:∀{kvs:List (Key×V)} {es:Ents},REs K H B kvs es->kvs.length=es.length
 |kvs,[],r=>by have e:kvs=[]:=r;subst e;rfl
 |kvs,(kd,d)::es,r=>by obtain⟨k,v,t,e,_,_,_,q⟩:=r;subst e;rw[aj,aj,q.length]
theorem zcw {K:W.Frag}{H:Hp}{B:Ad->Prop}{xs:List V}{d:D}(r:Reps K H B xs [d]):∃v,xs=[v]/\Rep K H B v d:=by obtain⟨v,t,e,h,q⟩:=r;have e2:t=[]:=q;subst e e2;exact⟨v,rfl,h⟩
theorem zdd:CallR X (.builtin "len") (z9r X.K (biD "len")):=by
 refine CallR.imp (zey.or z88) fun xs H Q h=>?_;obtain⟨B,ds,d,r,e,q⟩:=h;simp only[biD,if_true]at e;split at e
 ·rename_i x;obtain⟨v,rfl,r1⟩:=zcw r;clear r;have r:=r1;clear r1;cases x<;>try (cases e;done)
  case str z=>
   change(if z.length<=LIM then Res.ok (PyData.int z.length)else .no)=_ at e;split at e
   ·rename_i hl;cases e;have e1:v=.str z:=r.1;subst e1;exact .inl (.inl ⟨z,rfl,z0q hl,q _ H (Same.refl H) rfl⟩)
   ·cases e
  case tuple ds=>cases e;obtain⟨a,vs,rfl,h1,q1⟩:=r;exact .inl (.inr ⟨a,vs,rfl,.inr h1,q _ H (Same.refl H) (by rw[q1.length];exact rfl)⟩)
  case list ds=>cases e;obtain⟨a,vs,rfl,h1,q1⟩:=z1d r;exact .inl (.inr ⟨a,vs,rfl,.inl h1,q _ H (Same.refl H) (by rw[q1.length];exact rfl)⟩)
  case dict ds=>cases e;obtain⟨a,vs,rfl,h1,_,q1⟩:=r;exact .inr ⟨a,vs,rfl,h1,q _ H (Same.refl H) (by rw[q1.length];exact rfl)⟩
 ·cases e
theorem zbg {pins:List (Addr×Obj)}{σ:L2.St}{H:Hp}{s:aa}{A:ce}{E:Value->aa->Prop}{Q:Value->aa->Prop}{B:Ad->Prop}{x:V}{u:Value}{d:D}{T:String}(I:Inv X pins σ H s)(rx:RelV x u)(r:Rep X.K H B x d)(hT:T∈tysB)
  (h:∀tk,Q (.bool (isTy (tyOf d) T)) {s with toks:=tk}):wpAny (model X.prog X.w) A (call (.builtin "isinstance") [u,.type T]) Q E s:=by
 have ht:tyOf d∈tysA:=by cases d<;>simp[tyOf,tysA]
 have e:W.kitOne X.K (.type (tyOf d)) (.type T)=some (isTy (tyOf d) T):=zew X.K _ ht T hT;cases d with
 |none=>have e1:x=.non:=r;subst e1;exact z1r I rx .non e h
 |bool b=>have e1:x=.bl b:=r;subst e1;exact z1r I rx (.bl b) e h
 |int b=>have e1:x=.int b:=r;subst e1;exact z1r I rx (.int b) e h
 |str b=>have e1:x=.str b:=r.1;subst e1;exact z1r I rx (.str b) e h
 |tuple ds=>obtain⟨a,vs,e1,h1,_⟩:=r;subst e1;cases rx;obtain⟨_,_,⟨o,ho,hc,_⟩,_⟩:=I.tuple h1;exact W.kia_one W.kitx_tuple I.kIn ⟨o,ho,hc⟩ e (fun z=>nomatch z) h
 |list ds=>obtain⟨a,vs,e1,h1,_⟩:=z1d r;subst e1;cases rx;obtain⟨_,_,⟨o,_,ho,hc,_⟩,_⟩:=I.list h1;exact W.kia_one W.kitx_list I.kIn ⟨o,ho,hc⟩ e (fun z=>nomatch z) h
 |dict es=>obtain⟨a,vs,e1,h1,_⟩:=r;subst e1;exact z1r I rx (.dK h1) e h
def rIsD (K:W.Frag):List V->Hp->VK->Prop:=fun xs H Q=>∃B x d T,xs=[x,.ty T]/\Rep K H B x d/\T∈tysB/\Q (.bl (isTy (tyOf d) T)) H
theorem zb2:CallR X (.builtin "isinstance") (rIsD X.K):=by intro pins s σ H xs us Q I r h;obtain⟨B,x,d,T,rfl,rx,hT,q⟩:=h;obtain⟨u,w',rfl,r1,r2⟩:=vals2 r;obtain rfl:w'=Value.type T:=r2;exact zbg I r1 rx hT fun tk=>⟨.bl _,H,I.tok _,rfl,q⟩
theorem zl2 {y:Expr}{T:String}{x2:Str}{p p2:Pos}(hm:X.mg "isinstance"=none)(hg:Gl X "isinstance")(hm2:X.mg x2=none)(hv2:ck x2=some (.type T))(hg2:Gl X x2)(hn2:x2≠"__name__")(hd2:(x2==("__debug__":Str))=false)(hT:T∈tysB)(hs:isStar y=false)(ha:PE X y (tD X.K fa)):
  PE X (.Call (.Name "isinstance" p) [y,.Name x2 p2] [] pos) (tD X.K fun ρ=>fa ρ>>=fun x=>.ok (.fr,.bool ([T].any fun T=>isTy (tyOf x.2) T))):=
 PE.imp (ziv zb2 hm (by decide+kernel) (pa_c ha (pa_c (zd6 (v:=.ty T) hg2 hm2 hv2 rfl hn2 hd2) z39) hs) (by simp[hs];rfl) hg (by decide) (by decide)) fun σ H Q zz=>by obtain⟨ρ,F,z,so,e,q⟩:=zz;obtain⟨x,e1,e⟩:=Res.bind_ok e;cases e;refine⟨ρ,F,x,so,e1,fun v H1 s1 rv=>?_⟩;refine⟨_,v,x.2,T,rfl,rv,hT,q _ H1 s1 ?_⟩;show V.bl _=V.bl _;simp
end
def Kp (B:Ad->Prop)(H1 H2:Hp):Prop:=∀a o,H1 a=some o->(B (some a)\/Fix o)->H2 a=some o
theorem Kp.of {B:Ad->Prop}{H1 H2:Hp}(s:Same H1 H2):Kp B H1 H2:=fun a o e _=>s a o e
structure Walk (K:W.Frag)(J:It)(B:Ad->Prop)(H1:Hp)(xs:List D):Prop where
 len:xs.length<=aq
 go:∀H2,Kp B H1 H2->∀i,i<xs.length->J.go i H2
 stop:∀H2,Kp B H1 H2->J.stop xs.length H2
 yld:∀H2,Kp B H1 H2->∀i x H3,i<xs.length->J.yld i H2 x H3->Same H2 H3/\∃d,xs[i]?=some d/\Rep K H3 B x d
def tDW (K:W.Frag)(f:Rho->Res (G×List D)):TI:=fun σ H R=>∃ρ F w,StOk K F H σ ρ/\f ρ=.ok w/\∀J B H',Same H H'->(∀a,B a->BG F H w.1 a/\¬nw H' a)->Walk K J B H' w.2->R J H'
theorem _root_.L2.PI.imp {X:Cx}{tg e:Expr}{t t':TI}(h:PI X tg e t)(i:∀σ H Q,t' σ H Q->t σ H Q):PI X tg e t':=fun pins s σ H Q I q=>h pins s σ H Q I (i σ H Q q)
section
variable {K:W.Frag}{H:Hp}{B:Ad->Prop}
theorem z7u {a:Addr}{vs:List V}{ds:List D}(h:(H a=some (.lst vs)/\B (some a))\/(FL K H a vs/\B none))(r:Reps K H B vs ds)(hz:ds.length<=aq):Walk K (Itl K a) B H ds:=by
 have sq:∀H2,Kp B H H2->SqL K H2 a vs:=fun H2 k=>by
  rcases h with⟨h,b⟩|⟨⟨o,h⟩|h,_⟩
  ·exact .inl (.inl (k a _ h (.inl b)))
  ·exact .inl (.inr ⟨o,k a _ h (.inr True.intro)⟩)
  ·exact .inr h
 refine⟨hz,fun H2 k i hi=>?_,fun H2 k=>⟨vs,sq H2 k,by rw[r.length];exact ae _⟩,fun H2 k i x H3 hi y=>?_⟩
 ·have hv:i<vs.length:=by rw[r.length];exact hi
  exact⟨vs,vs[i],sq H2 k,by simp[hv]⟩
 ·obtain⟨e,y⟩:=y;subst e;have hx:=y vs (sq _ k);obtain⟨d,h1,h2⟩:=r.getV hx;exact⟨Same.refl _,d,h1,Rep.keep k (fun _ z=>z) d h2⟩
theorem za2 {a:Addr}{vs:List V}{ds:List D}(h:SqT K H a vs)(r:Reps K H B vs ds)(hz:ds.length<=aq):Walk K (Itt K a) B H ds:=by
 have sq:∀H2,Kp B H H2->SqT K H2 a vs:=fun H2 k=>h.keep k;refine⟨hz,fun H2 k i hi=>?_,fun H2 k=>⟨vs,sq H2 k,by rw[r.length];exact ae _⟩,fun H2 k i x H3 hi y=>?_⟩
 ·have hv:i<vs.length:=by rw[r.length];exact hi
  exact⟨vs,vs[i],sq H2 k,by simp[hv]⟩
 ·obtain⟨e,y⟩:=y;subst e;have hx:=y vs (sq _ k);obtain⟨d,h1,h2⟩:=r.getV hx;exact⟨Same.refl _,d,h1,Rep.keep k (fun _ z=>z) d h2⟩
theorem zbh {z:Str}(ok:PyData.strOk z=true)(hz:z.length<=aq):Walk K (Its z) B H (z.cps.toList.map fun c=>.str ⟨#[c]⟩):=by
 have hl:(z.cps.toList.map fun c=>(PyData.str ⟨#[c]⟩:D)).length=z.cps.size:=by simp
 refine⟨by rw[hl];exact hz,fun H2 k i hi=>?_,fun H2 k=>?_,fun H2 k i x H3 hi y=>?_⟩
 ·rw[hl]at hi;exact hi
 ·show z.cps.size<=_;rw[hl];exact ae _
 ·obtain⟨e,c,hc,rfl⟩:=y;subst e;have hc':z.cps.toList[i]?=some c:=by simpa using hc
  refine⟨Same.refl _,.str ⟨#[c]⟩,by rw[bc,hc'];rfl,rfl,z4h ok (b8 hc')⟩
theorem zan {lo:Int}{n:Nat}(hz:n<=aq):Walk K (Itr lo n) B H ((cb n).map fun(i:Nat)=>.int (lo+i)):=by
 have hl:((cb n).map fun(i:Nat)=>(PyData.int (lo+i):D)).length=n:=by simp
 refine⟨by rw[hl];exact hz,fun H2 k i hi=>?_,fun H2 k=>?_,fun H2 k i x H3 hi y=>?_⟩
 ·rw[hl]at hi;exact hi
 ·show n<=_;rw[hl];exact ae _
 ·obtain⟨e,rfl⟩:=y;subst e;rw[hl]at hi;exact⟨Same.refl _,.int (lo+i),by rw[bc,List.getElem?_range hi];rfl,rfl⟩
end
section
variable {X:Cx}{tg a b c e:Expr}{es:List Expr}{fa fb fc:Rho->Res GD}{pos:Pos}
theorem z3v {pins:List (Addr×Obj)}{σ:L2.St}{H1:Hp}{s1:aa}{v:Value}{y:V}{B:Ad->Prop}{d:D}{xs:List D}{R:It->Hp->Prop}(I1:Inv X pins σ H1 s1)(r1:RelV y v)(rv:Rep X.K H1 B y d)(e:z5l d=.ok xs)
  (q:∀J,Walk X.K J B H1 xs->R J H1):wpAny (model X.prog X.w) X.A (nc v) (PIE X pins σ tg R) X.xe s1:=by
 cases d<;>try (cases e;done)
 case list ds=>
  cases e;obtain⟨a,vs,rfl,h,rs⟩:=rv
  have hq:SqL X.K H1 a vs:=by
   rcases h with⟨h,_⟩|⟨h|h,_⟩
   ·exact .inl (.inl h)
   ·exact .inl (.inr h)
   ·exact .inr h
  cases r1;obtain⟨its,rv',p,hz⟩:=I1.list hq;refine ml p.isList ?_;refine⟨s1.heap.objs.size,[s1.heap.objs.size],_,_,H1,rfl,I1.kept (t':=s1.toks) fun b o e=>am _ e,z8s a _,⟨_,bp _ rfl,rfl,rfl⟩,fun b hb=>?_,q _ (z7u h rs (by rw[<-rs.length];exact hz))⟩;have e:b=s1.heap.objs.size:=by simpa using hb
  subst e;exact I1.fpOk (ae _) (I1.hok.fresh (ae _))
 case tuple ds=>
  cases e;obtain⟨a,vs,rfl,hq,rs⟩:=rv;cases r1;obtain⟨its,rv',p,hz⟩:=I1.tuple hq;refine l7 (show s1.heap.IsTuple a its.toArray from p) ?_;refine⟨s1.heap.objs.size,[s1.heap.objs.size],_,_,H1,rfl,I1.kept (t':=s1.toks) fun b o e=>am _ e,z6v a _,⟨_,bp _ rfl,rfl,rfl⟩,fun b hb=>?_,q _ (za2 hq rs (by rw[<-rs.length];exact hz))⟩;have e:b=s1.heap.objs.size:=by simpa using hb
  subst e;exact I1.fpOk (ae _) (I1.hok.fresh (ae _))
 case str z=>
  change(if z.length<=LIM then Res.ok (z.cps.toList.map fun c=>PyData.str ⟨#[c]⟩)else .no)=_ at e;split at e
  case isFalse=>cases e
  rename_i hs;cases e;have e1:y=.str z:=rv.1;subst e1;obtain⟨t,rfl⟩:=r1;have qz:=q _ (zbh rv.2 (z0q hs))
  have fin:∀(ty:String) (hty:ty="str_ascii_iterator"\/ty="str_iterator"),PIE X pins σ tg R (.ref s1.heap.objs.size) {s1 with heap:=s1.heap.push {cls:=.type ty,data:=.fields #[.str z t,.int 0 0]}}:=fun ty hty=>by
   refine⟨s1.heap.objs.size,[s1.heap.objs.size],_,_,H1,rfl,I1.kept (t':=s1.toks) fun b o e=>am _ e,za8 hty _ z t,⟨_,bp _ rfl,rfl,rfl⟩,fun b hb=>?_,qz⟩;have e:b=s1.heap.objs.size:=by simpa using hb
   subst e;exact I1.fpOk (ae _) (I1.hok.fresh (ae _))
  cases ha:z.cps.all (· <128)
  ·exact wpAny_pyIter_wide ha (fin _ (.inr rfl))
  ·exact wpAny_pyIter_ascii ha (fin _ (.inl rfl))
theorem w_tv (ha:PE X a (tD X.K fa)):PI X tg a (tDW X.K fun ρ=>fa ρ>>=fun x=>z5l x.2>>=fun xs=>.ok (x.1,xs)):=by intro pins s σ H R I h;obtain⟨ρ,F,w,so,e,q⟩:=h;obtain⟨x,e1,e⟩:=Res.bind_ok e;obtain⟨xs,e2,e⟩:=Res.bind_ok e;cases e;refine thn (ha pins s σ H (fun v H1=>Same H H1/\Rep X.K H1 (BG F H x.1) v x.2) I ⟨ρ,F,x,so,e1,fun v H1 s1 rv=>⟨s1,rv⟩⟩) fun v s1 zz=>?_;obtain⟨y,H1,I1,r1,s1',rv⟩:=zz;exact z3v I1 r1 (Rep.there _ rv) e2 fun J wk=>q J _ H1 s1' (fun _ z=>z) wk
theorem zij {n:Int}(h1:n<=LIM)(h2:-LIM<=n):-(2 ^ 62)<=n/\n<2 ^ 62:=by unfold LIM at *;omega
theorem RGs.one {K:W.Frag}{F:Fm}{H H':Hp}{vs:List V}{x:GD}(r:RGs K F H H' vs [x]):∃v,vs=[v]/\Rep K H' (BG F H x.1) v x.2:=by obtain⟨v,t,e,h,q⟩:=r;have e2:t=[]:=q;subst e e2;exact⟨v,rfl,h⟩
theorem RGs.two {K:W.Frag}{F:Fm}{H H':Hp}{vs:List V}{x y:GD}(r:RGs K F H H' vs [x,y]):∃v w,vs=[v,w]/\Rep K H' (BG F H x.1) v x.2/\Rep K H' (BG F H y.1) w y.2:=by obtain⟨v,t,e,h,q⟩:=r;obtain⟨w,e2,h2⟩:=q.one;subst e e2;exact⟨v,w,rfl,h,h2⟩
theorem zg6 {p:Pos}{fs:Rho->Res (List GD)}(hm:X.mg "range"=none)(hg:Gl X "range")(hs:isStar a=false)(ha:PA X [a] (tDA X.K fs))(hl:∀ρ ys,fs ρ=.ok ys->ys.length=1):PI X tg (.Call (.Name "range" p) [a] [] pos) (tDW X.K fun ρ=>fs ρ>>=fun ys=>rngD (ys.map (·.2))>>=fun xs=>.ok (.fr,xs)):=
 PI.imp (z8p hg hm ha (z0g hs)) fun σ H R zz=>by
  obtain⟨ρ,F,w,so,e,q⟩:=zz;obtain⟨ys,e1,e⟩:=Res.bind_ok e;obtain⟨xs,e2,e⟩:=Res.bind_ok e;cases e;refine⟨ρ,F,ys,so,e1,fun vs H1 s1 rs=>?_⟩;have hy:=hl ρ ys e1
  match ys,hy with
  | [(g,d)],hy1=>
   clear hy1;obtain⟨v,rfl,rv⟩:=rs.one;cases d<;>try (cases e2;done)
   rename_i n;have ev:v=.int n:=rv;subst ev;change(if n<=LIM/\-LIM<=n then Res.ok ((cb n.toNat).map fun(i:Nat)=>PyData.int i)else .no)=_ at e2;split at e2
   case isFalse=>cases e2
   rename_i hn;cases e2;have h62:=zij hn.1 hn.2;refine⟨n,rfl,h62.1,h62.2,q _ (fun _=>False) H1 s1 (fun _ z=>z.elim) ?_⟩;have e0:((cb n.toNat).map fun(i:Nat)=>(PyData.int i:D))=(cb n.toNat).map fun(i:Nat)=>.int (0+i):=by apply List.map_congr_left;intro i _;rw[Int.zero_add]
   show Walk X.K (Itr 0 n.toNat) _ H1 ((cb n.toNat).map fun(i:Nat)=>(PyData.int i:D));rw[e0];exact zan (z0q (by unfold LIM at *;omega))
def Fm.drop (F:Fm)(i:Nat):Fm:={F with O:=fun a=>if F.O a=some i then none else F.O a}
theorem Fm.drop_none {F:Fm}{i:Nat}{a:Addr}(h:F.O a=none):(F.drop i).O a=none:=by show(if F.O a=some i then none else F.O a)=none;rw[h];rfl
theorem Bin.drop {F:Fm}{i:Nat}{a:Ad}(h:Bin F a):Bin (F.drop i) a:=by
 cases a with
 |none=>exact h
 |some a=>exact⟨Fm.drop_none h.1,h.2⟩
theorem Slot.drop {K:W.Frag}{F:Fm}{H:Hp}{i j:Nat}{g:G}{v:V}{d:D}(hij:j≠i)(h:Slot K F H j g v d):Slot K (F.drop i) H j g v d:=by
 cases g with
 |fr=>
  obtain⟨p,e,o,h⟩:=h;refine⟨p,e,?_,?_⟩
  ·show(if F.O p=some i then none else F.O p)=some j;rw[o,if_neg (fun z=>hij (Option.some.inj z))]
  ·rcases h with⟨vs,ds,e1,e2,r⟩|⟨vs,ds,e1,e2,r⟩
   ·exact .inl ⟨vs,ds,e1,e2,r.weak fun _ b=>b.drop⟩
   ·exact .inr ⟨vs,ds,e1,e2,REs.same (fun _ _ e=>e) (fun _ b=>b.drop) r⟩
 |od=>exact h
 |al=>exact h
 |nu=>exact Rep.weak (fun _ b=>b.drop) h
def BI (F:Fm):G->Ad->Prop
 |.od=>oldA F
 |.fr=>visA F
 |.al=>visA F
 |.nu=>visA F
theorem BI.of {F:Fm}{H:Hp}{g:G}{a:Ad}(hv:∀a,H a=none->F.V a)(h:BG F H g a):BI F g a:=by
 cases g with
 |fr=>exact nw.vis hv h
 |od=>exact h
 |al=>exact h
 |nu=>exact h.elim (nw.vis hv) Bin.vis
theorem StOk.setI {K:W.Frag}{F:Fm}{H:Hp}{σ:L2.St}{ρ:Rho}{x:GD}{v:V}{i:Nat}(so:StOk K F H σ ρ)(r:Rep K H (BI F x.1) v x.2):StOk K (F.drop i) H (σ.set i (some v)) (ρ.set i (some (z5p x))) where
 ext:=so.ext
 vis:=so.vis
 own:=fun a j e=>by
  have e':F.O a=some j:=by
   have:(if F.O a=some i then none else F.O a)=some j:=e;split at this
   ·cases this
   ·exact this
  exact so.own a j e'
 len:=by rw[bo,bo];exact so.len
 sl:=fun j g d e=>by
  by_cases hj:i=j
  ·subst hj;rw[db]at e;simp only[if_true]at e;split at e
   ·rename_i hl;have e1:z5p x=(g,d):=by simpa using e
    refine⟨v,?_,?_⟩
    ·rw[db];simp[so.len,hl]
    ·obtain⟨gx,dx⟩:=x;cases gx with
     |fr=>cases e1;exact r
     |od=>cases e1;exact r
     |al=>cases e1;exact r
     |nu=>cases e1;exact r
   ·cases e
  ·rw[a9 hj]at e ⊢;obtain⟨u,h1,h2⟩:=so.sl j g d e;exact⟨u,h1,h2.drop fun z=>hj z.symm⟩
structure Keeps (F F':Fm)(is:List Nat)(σ σ':L2.St):Prop where
 h0:F'.H0=F.H0
 v:F'.V=F.V
 o:∀a,F.O a=none->F'.O a=none
 len:σ'.length=σ.length
 rest:∀j,j∉is->σ'[j]?=σ[j]?
theorem Keeps.refl {F:Fm}{is:List Nat}{σ:L2.St}:Keeps F F is σ σ:=⟨rfl,rfl,fun _ h=>h,rfl,fun _ _=>rfl⟩
theorem Keeps.set {F:Fm}{is:List Nat}{i:Nat}{σ:L2.St}{v:Option V}(h:i∈is):Keeps F (F.drop i) is σ (σ.set i v):=⟨rfl,rfl,fun _ h=>Fm.drop_none h,bo,fun j hj=>a9 fun z=>hj (by rw[<-z];exact h)⟩
theorem Keeps.trans {F F' F'':Fm}{is:List Nat}{σ σ' σ'':L2.St}(a:Keeps F F' is σ σ')(b:Keeps F' F'' is σ' σ''):Keeps F F'' is σ σ'':=⟨b.h0.trans a.h0,b.v.trans a.v,fun x h=>b.o x (a.o x h),b.len.trans a.len,fun j hj=>(b.rest j hj).trans (a.rest j hj)⟩
def tDG (K:W.Frag)(t:Tg):TG:=fun v σ H Q=>∃ρ F x ρ',StOk K F H σ ρ/\Rep K H (BI F x.1) v x.2/\z0x t x ρ=.ok ρ'/\∀σ' F',StOk K F' H σ' ρ'->Keeps F F' (tgIx t) σ σ'->Q σ' H
theorem _root_.L2.PG.imp {X:Cx}{e:Expr}{t t':TG}(h:PG X e t)(i:∀v σ H Q,t' v σ H Q->t v σ H Q):PG X e t':=fun pins s σ H v u Q I r q=>h pins s σ H v u Q I r (i v σ H Q q)
theorem _root_.L2.PGs.imp {X:Cx}{e:List Expr}{t t':TGs}(h:PGs X e t)(i:∀v σ H Q,t' v σ H Q->t v σ H Q):PGs X e t':=fun pins s σ H v u Q I r q=>h pins s σ H v u Q I r (i v σ H Q q)
theorem zi9 {i:Nat}{x:Str}(hN:X.N.Nodup)(hi:X.N[i]?=some x)(hx:Loc X.env.scope x)(hf:X.fn x=true\/X.env.scope.names.lookup x=some .local):PG X (.Name x pos) (tDG X.K (.nm i)):=PG.imp (z9i hN hi hx hf) fun v σ H Q zz=>by obtain⟨ρ,F,x,ρ',so,r,e,q⟩:=zz;cases e;exact q _ _ (so.setI r) (Keeps.set (by simp[tgIx]))
def tDGs (K:W.Frag)(all is:List Nat):TGs:=fun vs σ H Q=>∃ρ F g ds ρ',(∀i∈is,i∈all)/\StOk K F H σ ρ/\Reps K H (BI F g) vs ds/\z2y ρ is ds g=some ρ'/\∀σ' F',StOk K F' H σ' ρ'->Keeps F F' all σ σ'->Q σ' H
theorem zfn {all:List Nat}:PGs X [] (tDGs X.K all []):=
 PGs.imp zfd fun vs σ H Q zz=>by
  obtain⟨ρ,F,g,ds,ρ',_,so,r,e,q⟩:=zz;cases ds with
  |nil=>cases e;have e2:vs=[]:=r;exact⟨e2,q σ F so Keeps.refl⟩
  |cons d ds=>cases e
theorem zf2 {all is:List Nat}{i:Nat}{x:Str}{es:List Expr}{p:Pos}(hN:X.N.Nodup)(hi:X.N[i]?=some x)(hx:Loc X.env.scope x)(hf:X.fn x=true\/X.env.scope.names.lookup x=some .local)(h:PGs X es (tDGs X.K all is)):PGs X (.Name x p::es) (tDGs X.K all (i::is)):=
 PGs.imp (zba (z9i hN hi hx hf) h (by rfl)) fun vs σ H Q zz=>by
  obtain⟨ρ,F,g,ds,ρ',hin,so,r,e,q⟩:=zz;cases ds with
  |nil=>cases e
  |cons d ds=>
   obtain⟨v,t,rfl,h1,h2⟩:=r;refine⟨v,t,rfl,ρ.set i (some (z5p (gJ d g,d))),F.drop i,g,ds,ρ',fun j hj=>hin j (ak _ hj),?_,?_,e,fun σ' F' so' k=>q σ' F' so' ((Keeps.set (hin i af)).trans k)⟩
   ·refine so.setI ?_;show Rep X.K H (BI F (gJ d g)) v d;unfold gJ;by_cases hi:imm d=true
    ·rw[if_pos hi];exact Rep.immB d hi h1
    ·rw[if_neg hi];exact h1
   ·exact h2.weak fun a b=>by cases g<;>exact b
theorem zkt {is:List Nat}{es:List Expr}{k:Nat}{n:Nat}(hc:X.calm=true)(h:PGs X es (tDGs X.K is is))(hn:(dm es X.env).length=n)(hst:(dm es X.env).findIdx? (·.1)=none)(hl:is.length=n):PG X (.Tuple es k pos) (tDG X.K (.tp is)):=
 PG.imp (zj7 hc h hn hst) fun v σ H Q zz=>by
  obtain⟨ρ,F,x,ρ',so,r,e,q⟩:=zz;obtain⟨g,d⟩:=x;cases d<;>try (cases e;done)
  rename_i ds;obtain⟨a,vs,rfl,h1,h2⟩:=r;cases e1:z2y ρ is ds g with
  |none=>change Res.ofO (z2y ρ is ds g)=_ at e;rw[e1]at e;cases e
  |some ρ1=>
   change Res.ofO (z2y ρ is ds g)=_ at e;rw[e1]at e;have e':ρ1=ρ':=Res.ok.inj e;subst e'
   have hlen:∀(is:List Nat) (ds:List D) (ρ ρ1:Rho),z2y ρ is ds g=some ρ1->is.length=ds.length:=by
    intro is
    induction is with
    |nil=>intro ds ρ ρ1 h;cases ds with
     |nil=>rfl
     |cons _ _=>cases h
    |cons i is ih=>intro ds ρ ρ1 h;cases ds with
     |nil=>cases h
     |cons d ds=>rw[aj,aj,ih ds _ _ h]
   exact⟨a,vs,rfl,h1,by rw[h2.length,<-hlen _ _ _ _ e1];exact hl,ρ,F,g,ds,ρ1,fun _ h=>h,so,h2,e1,q⟩
theorem StOk.blk {K:W.Frag}{F:Fm}{H:Hp}{σ:L2.St}{ρ:Rho}(so:StOk K F H σ ρ)(nt:Nat)(js:List Nat)(l:Addr)(xs:List V)(hl:H l=none):
  StOk K {F with V:=fun a=>F.V a/\a≠l,O:=fun _=>none} (upd H l (.lst xs)) (emb nt js σ) (ba nt none++js.map fun j=>toAl (ρ.getD j none)) where
 ext:=fun a o e=>by have:=so.ext a o e;rw[z06 (z0c this hl)];exact this
 vis:=fun a e=>by
  by_cases h:a=l
  ·subst h;rw[z0e]at e;cases e
  ·rw[z06 h]at e;exact⟨so.vis a e,h⟩
 own:=fun a i e=>by cases e
 len:=by unfold emb;simp
 sl:=fun i g d e=>by
  have hB:∀(a:Ad),visA F a/\¬nw H a->visA {F with V:=fun a=>F.V a/\a≠l,O:=fun _=>none} a:=fun a h=>by
   cases a with
   |none=>exact True.intro
   |some a=>exact⟨h.1,fun z=>h.2 (by rw[z];exact hl)⟩
  have hB2:∀(a:Ad),oldA F a/\¬nw H a->oldA {F with V:=fun a=>F.V a/\a≠l,O:=fun _=>none} a:=fun a h=>by
   cases a with
   |none=>exact True.intro
   |some a=>exact⟨h.1.1,h.1.2,fun z=>h.2 (by rw[z];exact hl)⟩
  rw[jb]at e;split at e
  ·rw[c0]at e;split at e<;>cases e
  ·rename_i hi;rw[bz]at hi e;rw[bc]at e;cases ej:js[i-nt]? with
   |none=>rw[ej]at e;cases e
   |some j=>
    rw[ej]at e;have e1:toAl (ρ.getD j none)=some (g,d):=Option.some.inj e;cases er:ρ[j]? with
    |none=>rw[bf,er]at e1;cases e1
    |some o=>
     rw[bf,er]at e1;cases o with
     |none=>cases e1
     |some gd=>
      obtain⟨g0,d0⟩:=gd;obtain⟨v,h1,h2⟩:=so.sl j g0 d0 er;refine⟨v,?_,?_⟩
      ·unfold emb;rw[da (by rw[bz];omega),bz,bc,ej];show some (σ.getD j none)=_;rw[bf,h1];rfl
      ·cases g0 with
       |fr=>cases e1;exact Rep.same (Same.upd hl) hB (Rep.there _ (h2.rep so.ownV))
       |od=>cases e1;exact Rep.same (Same.upd hl) hB2 (Rep.there _ h2)
       |al=>cases e1;exact Rep.same (Same.upd hl) hB (Rep.there _ h2)
       |nu=>cases e1;exact Rep.same (Same.upd hl) hB (Rep.there _ (h2.rep so.ownV))
theorem z2o {f:D->Res (Option GD)}:∀(l m:List D) (r:List GD),z1z f (l++m)=.ok r->∃r1 r2,z1z f l=.ok r1/\z1z f m=.ok r2/\r=r1++r2
 | [],m,r,h=>⟨[],r,rfl,h,rfl⟩
 |x::l,m,r,h=>by
  obtain⟨o,e1,h⟩:=Res.bind_ok h;obtain⟨r',e2,h⟩:=Res.bind_ok h;obtain⟨r1,r2,h1,h2,h3⟩:=z2o l m r' e2;subst h3;cases h;refine⟨oc o r1,r2,?_,h2,?_⟩
  ·show(f x>>=fun o=>z1z f l>>=fun r=>Res.ok (oc o r))=_;rw[e1,Res.ok_bind,h1,Res.ok_bind]
  ·cases o<;>rfl
theorem RGs.snoc {K:W.Frag}{F:Fm}{H H':Hp}:∀{vs:List V} {xs:List GD} {v:V} {x:GD},RGs K F H H' vs xs->Rep K H' (BG F H x.1) v x.2->RGs K F H H' (vs++[v]) (xs++[x])
 |vs,[],v,x,r,h=>by have e:vs=[]:=r;subst e;exact⟨v,[],rfl,h,rfl⟩
 |vs,y::ys,v,x,r,h=>by obtain⟨u,t,e,h1,q⟩:=r;subst e;exact⟨u,t++[v],rfl,h1,q.snoc h⟩
theorem RGs.keep {K:W.Frag}{F:Fm}{H H1 H2:Hp}(hk:∀a o (g:G),H1 a=some o->(BG F H g (some a)\/Fix o)->H2 a=some o):∀{vs:List V} {xs:List GD},RGs K F H H1 vs xs->RGs K F H H2 vs xs
 |vs,[],r=>r
 |vs,y::ys,r=>by obtain⟨u,t,e,h1,q⟩:=r;exact⟨u,t,e,Rep.keep (fun a o e b=>hk a o y.1 e b) (fun _ z=>z) _ h1,q.keep hk⟩
theorem RGs.len {K:W.Frag}{F:Fm}{H H':Hp}:∀{vs:List V} {xs:List GD},RGs K F H H' vs xs->vs.length=xs.length
 |vs,[],r=>by have e:vs=[]:=r;subst e;rfl
 |vs,y::ys,r=>by obtain⟨u,t,e,h1,q⟩:=r;subst e;rw[aj,aj,q.len]
theorem z51 {f:D->Res (Option GD)}:∀(l:List D) (r:List GD),z1z f l=.ok r->r.length<=l.length
 | [],r,h=>by cases h;exact ae _
 |x::l,r,h=>by
  obtain⟨o,e1,h⟩:=Res.bind_ok h;obtain⟨r',e2,h⟩:=Res.bind_ok h;have:=z51 l r' e2;cases h;cases o with
  |none=>exact bq this (by simp)
  |some y=>simp only[oc,aj];omega
def z6q (nt:Nat)(js:List Nat)(t:Tg)(fw:Rho->Res (G×List D))(fc:Rho->Res Bool)(fe:Rho->Res GD):Rho->Res GD:=fun ρ=>fw ρ>>=fun w=>z1z (fun x=>z0x t (gJ x w.1,x) (ba nt none++js.map fun j=>toAl (ρ.getD j none))>>=fun ρ1=>fc ρ1>>=fun k=>if k then fe ρ1>>=fun y=>.ok (some y)else .ok none) w.2>>=fun ys=>.ok (gCo ys,.list (ys.map (·.2)))
def lcB (g:TG)(tc:TT)(te:TE)(em:L2.St->L2.St)(σ:L2.St)(Q:VK):It->Hp->Prop:=fun J H1=>∀l,H1 l=none->∃P:Nat->Nat->List V->Hp->Prop,(∃m,P 0 m [] (upd H1 l (.lst [])))/\∀i m acc H2,P i m acc H2->(J.stop i H2/\Q (.ref l) H2)\/(J.go i H2/\acc.length<aq/\∃N:List V->Hp->Prop,(∀acc' H',N acc' H'->∃m',m'<m/\P (i+1) m' acc' H')/\∀x H3,J.yld i H2 x H3->g x (em σ) H3 fun σ4 H4=>Keep (em σ) σ4/\tc σ4 H4 fun b H5=>if b=true then te σ4 H5 fun y H6=>H6 l=some (.lst acc)/\N (acc++[y]) (upd H6 l (.lst (acc++[y])))else N acc H5)
abbrev CI (K:W.Frag)(F:Fm)(f:D->Res (Option GD))(ds:List D)(H1:Hp)(l:Nat)(i:Nat)(acc:List V)(H2:Hp):Prop:=H2 l=some (.lst acc)/\(∀a o,H1 a=some o->H2 a=some o)/\∃ys,z1z f (ds.take i)=.ok ys/\RGs K F (upd H1 l (.lst [])) H2 acc ys
theorem z76 {nt:Nat}{js:List Nat}{t:Tg}{fw:Rho->Res (G×List D)}{fc:Rho->Res Bool}{fe:Rho->Res GD}(ht0:∀i∈tgIx t,i<nt){σ:L2.St}{H:Hp}{Q:VK}{ρ:Rho}{F:Fm}{z:GD}(so:StOk X.K F H σ ρ)(e:z6q nt js t fw fc fe ρ=.ok z)(q:∀v H',Same H H'->Rep X.K H' (BG F H z.1) v z.2->Q v H'):
  ∃w,fw ρ=.ok w/\∀J B H',Same H H'->(∀a,B a->BG F H w.1 a/\¬nw H' a)->Walk X.K J B H' w.2->lcB (tDG X.K t) (tDT X.K fc) (tD X.K fe) (emb nt js) σ Q J H':=by
 obtain⟨w,e1,e⟩:=Res.bind_ok e;obtain⟨ysA,e2,e⟩:=Res.bind_ok e;cases e;refine⟨w,e1,fun J B H1 s1 hB wk l hl=>?_⟩;generalize hr:(ba nt none++js.map fun j=>toAl (ρ.getD j none))=ρ0 at e2;generalize hf:(fun x=>z0x t (gJ x w.1,x) ρ0>>=fun ρ1=>fc ρ1>>=fun k=>if k then fe ρ1>>=fun y=>Res.ok (some y)else .ok none)=f at e2;have so1:=so.same s1;have hpre:∀i,∃ys,z1z f (w.2.take i)=.ok ys:=fun i=>by rw[<-List.take_append_drop i w.2]at e2;obtain⟨r1,r2,h1,_,_⟩:=z2o _ _ _ e2;exact⟨r1,h1⟩
 let Fb:Fm:={F with V:=fun a=>F.V a/\a≠l,O:=fun _=>none}
 refine zkn (n:=w.2.length) (CI X.K Fb f w.2 H1 l) wk.len ?_ ?_ ?_ ?_ ?_
 ·exact⟨z0e,fun a o e=>by rw[z06 (z0c e hl)];exact e,[],rfl,rfl⟩
 ·rintro i acc H2 ⟨_,_,ys,hy,rs⟩
  rw[rs.len];have:=z51 _ _ hy;rw[cx]at this;omega
 ·rintro acc H2 ⟨h1,h2,ys,hy,rs⟩
  rw[List.take_length]at hy;rw[e2]at hy;cases hy;have kp:Kp B H1 H2:=fun a o e _=>h2 a o e;refine⟨wk.stop H2 kp,q _ _ (fun a o e=>h2 a o (s1 a o e)) ?_⟩;have hHl:H l=none:=s1.none hl;refine⟨l,acc,rfl,.inl ⟨h1,?_⟩,rs.reps fun x hx a hb=>?_⟩
  ·show BG F H (gCo ysA) (some l);unfold gCo;split
   ·exact hHl
   ·exact so.vis l hHl
  ·unfold gCo;by_cases ea:(ysA.all fun x=>x.1==.fr)=true
   ·rw[if_pos ea];have hx1:x.1=.fr:=by simpa using bu.mp ea x hx
    rw[hx1]at hb;cases a with
    |none=>exact hb
    |some a=>
     have hb':upd H1 l (.lst []) a=none:=hb
     have:H1 a=none:=by
      by_cases hal:a=l
      ·subst hal;exact hl
      ·rw[z06 hal]at hb';exact hb'
     exact s1.none this
   ·rw[if_neg ea];have:visA Fb a:=BG.vis (F:=Fb) (H:=upd H1 l (.lst [])) (fun a e=>((so1.blk nt js l [] hl).vis a e)) hb;cases a with
    |none=>exact True.intro
    |some a=>exact this.1
 ·rintro i acc H2 hi ⟨_,h2,_⟩
  exact wk.go H2 (fun a o e _=>h2 a o e) i hi
 ·rintro i acc H2 x H3 hi ⟨h1,h2,ys,hy,rs⟩ y
  obtain⟨s3,d,hd,rx⟩:=wk.yld H2 (fun a o e _=>h2 a o e) i x H3 hi y;obtain⟨ys',hy'⟩:=hpre (i+1);have htk:w.2.take (i+1)=w.2.take i++[d]:=by rw[List.take_add_one,hd];rfl
  rw[htk]at hy';obtain⟨r1,r2,g1,g2,g3⟩:=z2o _ _ _ hy';rw[hy]at g1;cases g1;obtain⟨o,g4,g2⟩:=Res.bind_ok g2;obtain⟨r3,g5,g2⟩:=Res.bind_ok g2;cases g5;rw[<-hf]at g4;obtain⟨ρ1,k1,g4⟩:=Res.bind_ok g4;obtain⟨k,k2,g4⟩:=Res.bind_ok g4
  have sb:StOk X.K Fb H3 (emb nt js σ) ρ0:=by
   rw[<-hr];refine(so1.blk nt js l acc hl).same fun a o e=>s3 a o ?_;by_cases hal:a=l
   ·subst hal;rw[z0e]at e;rw[h1];exact e
   ·rw[z06 hal]at e;exact h2 a o e
  have rx':Rep X.K H3 (BI Fb (gJ d w.1)) x d:=by
   unfold gJ;by_cases hi:imm d=true
   ·rw[if_pos hi];exact Rep.immB d hi rx
   ·rw[if_neg hi];refine rx.weak fun a b=>?_;obtain⟨b1,b2⟩:=hB a b;have b3:=BI.of so.vis b1;cases a with
    |none=>cases hw:w.1<;>rw[hw]at b3<;>exact True.intro
    |some a=>
     have hal:a≠l:=fun z=>b2 (by show H1 a=none;rw[z];exact hl);cases hw:w.1<;>rw[hw]at b3
     ·exact⟨b3,hal⟩
     ·exact⟨b3.1,b3.2,hal⟩
     ·exact⟨b3,hal⟩
     ·exact⟨b3,hal⟩
  refine⟨_,Fb,(gJ d w.1,d),ρ1,sb,rx',k1,fun σ4 F4 so4 kps=>⟨⟨kps.len.symm,fun j v hj=>?_⟩,ρ1,F4,k,so4,k2,fun H5 s5=>?_⟩⟩
  ·by_cases hjt:j∈tgIx t
   ·have :=ht0 j hjt;unfold emb at hj;rw[dw (by rw[bz];exact this),c0,if_pos this]at hj;cases hj
   ·rw[kps.rest j hjt];exact hj
  ·have h5:∀a o,H1 a=some o->H5 a=some o:=fun a o e=>s5 a o (s3 a o (h2 a o e));have h5l:H5 l=some (.lst acc):=s5 _ _ (s3 _ _ h1);have rs5:RGs X.K Fb (upd H1 l (.lst [])) H5 acc ys:=rs.keep fun a o g e _=>s5 a o (s3 a o e);cases k with
   |false=>cases g4;cases g2;refine iteF ⟨h5l,h5,ys,?_,rs5⟩;rw[htk,hy',g3];simp[oc]
   |true=>
    obtain⟨yv,k3,g4⟩:=Res.bind_ok g4;cases g4;cases g2;refine iteT ⟨ρ1,F4,yv,so4.same s5,k3,fun v H6 s6 rv=>⟨s6 _ _ h5l,z0e,fun a o e=>?_,ys++[yv],?_,?_⟩⟩
    ·rw[z06 (z0c e hl)];exact s6 a o (h5 a o e)
    ·rw[htk,hy',g3];rfl
    ·have h6l:=s6 _ _ h5l
     have hk:∀a o (g:G),H6 a=some o->(BG Fb (upd H1 l (.lst [])) g (some a)\/Fix o)->upd H6 l (.lst (acc++[v])) a=some o:=fun a o g e b=>by
      have hal:a≠l:=by
       intro z;subst z;rcases b with b|b
       ·cases g with
        |fr=>have b':upd H1 a (.lst []) a=none:=b;rw[z0e]at b';cases b'
        |od=>exact b.2.2 rfl
        |al=>exact b.2 rfl
        |nu=>
         rcases b with b|b
         ·have b':upd H1 a (.lst []) a=none:=b;rw[z0e]at b';cases b'
         ·exact b.2.2.2 rfl
       ·rw[h6l]at e;cases e;exact b
      rw[z06 hal];exact e
     have rs6:RGs X.K Fb (upd H1 l (.lst [])) H6 acc ys:=rs5.keep fun a o g e _=>s6 a o e
     have rv':Rep X.K H6 (BG Fb (upd H1 l (.lst [])) yv.1) v yv.2:=by
      refine rv.weak fun a b=>?_;cases hg:yv.1 with
      |fr=>
       rw[hg]at b;cases a with
       |none=>exact b
       |some a=>
        have b':H5 a=none:=b;show upd H1 l (.lst []) a=none;have hal:a≠l:=fun z=>by rw[z,h5l]at b';cases b'
        rw[z06 hal];cases e1:H1 a with
        |none=>rfl
        |some o=>rw[h5 a o e1]at b';cases b'
      |nu=>
       rw[hg]at b;cases a with
       |none=>exact b
       |some a=>
        rcases b with b|b
        ·have b':H5 a=none:=b;refine .inl ?_;show upd H1 l (.lst []) a=none;have hal:a≠l:=fun z=>by rw[z,h5l]at b';cases b'
         rw[z06 hal];cases e1:H1 a with
         |none=>rfl
         |some o=>rw[h5 a o e1]at b';cases b'
        ·refine .inr ⟨rfl,?_,?_⟩
         ·have:=b.2.1;rw[kps.h0]at this;exact this
         ·have:=b.2.2;rw[kps.v]at this;exact this
      |od=>
       rw[hg]at b;cases a with
       |none=>exact True.intro
       |some a=>have b1:F4.H0 a≠none/\F4.V a:=b;rw[kps.h0,kps.v]at b1;exact b1
      |al=>
       rw[hg]at b;cases a with
       |none=>exact True.intro
       |some a=>have b1:F4.V a:=b;rw[kps.v]at b1;exact b1
     exact(rs6.snoc rv').keep hk
theorem z9a {nt:Nat}{js:List Nat}{t:Tg}{fw:Rho->Res (G×List D)}{fc:Rho->Res Bool}{fe:Rho->Res GD}(ht0:∀i∈tgIx t,i<nt):∀σ H Q,tD X.K (z6q nt js t fw fc fe) σ H Q->tLC (tDW X.K fw) (tDG X.K t) (tDT X.K fc) (tD X.K fe) (emb nt js) σ H Q:=by intro σ H Q h;obtain⟨ρ,F,z,so,e,q⟩:=h;obtain⟨w,e1,h⟩:=z76 (X:=X) (js:=js) (fw:=fw) (fc:=fc) (fe:=fe) ht0 so e q;exact⟨ρ,F,w,so,e1,h⟩
theorem zcn {scope:Scope}{N':List Str}{nt:Nat}{js:List Nat}{t:Tg}{iter elt:Expr}{ifs:List Expr}{fw:Rho->Res (G×List D)}{fc:Rho->Res Bool}{fe:Rho->Res GD}(hc:X.calm=true)(Bk:BlkScope X scope N' nt js)(ht0:∀i∈tgIx t,i<nt)(hi:PI X tg iter (tDW X.K fw))
  (hg:∀C fp s H,PG (blk X scope N' C fp s H) tg (tDG X.K t)) (ht:∀C fp s H,PTs (blk X scope N' C fp s H) ifs (tDT X.K fc)) (he:∀C fp s H,PE (blk X scope N' C fp s H) elt (tD X.K fe)) (hs:∀x,c8 iter X.env x=pure x):
  PE X (.ListComp elt [⟨tg,iter,ifs,0⟩] scope pos) (tD X.K (z6q nt js t fw fc fe))/\∀σ H Q,tD X.K (z6q nt js t fw fc fe) σ H Q->tLC (tDW X.K fw) (tDG X.K t) (tDT X.K fc) (tD X.K fe) (emb nt js) σ H Q:=by
 have main:=z9a (X:=X) (js:=js) (fw:=fw) (fc:=fc) (fe:=fe) ht0;exact⟨PE.imp (za9 hc Bk hi hg ht he hs) main,main⟩
end
def BC (H:Hp)(A:Ad->Prop):G->Ad->Prop
 |.fr=>nw H
 |.od=>fun a=>nw H a\/A a\/a=none
 |.al=>fun a=>nw H a\/A a\/a=none
 |.nu=>nw H
def spD (K:W.Frag)(n:Nat)(m:Fn):Sp:=fun vs H Q _=>∃A ds x,vs.length=n/\Reps K H A vs ds/\m ds=.ok x/\∀v H',Same H H'->Rep K H' (BC H A x.1) v x.2->Q v H'
section
variable {X:Cx}{tg a b c e o:Expr}{es:List Expr}{fa fb fc:Rho->Res GD}{pos:Pos}
theorem zfo {x:Str}{k k' n:Nat}{ps:List Str}{m:Fn}{fs:Rho->Res (List GD)}{p:Pos}(Cc:Cal X.prog X.w X.K X.mg X.base k x ps (spD X.K n m))(hr:Room k' X.A)(hk:k<=k')(ha:PA X (e::es) (tDA X.K fs))(hst:((e::es).all fun e=> !isStar e)=true)(hg:Gl X x)(hdb:(x==("__debug__":Str))=false)
  (hl:∀ρ ys,fs ρ=.ok ys->ys.length=n):PE X (.Call (.Name x p) (e::es) [] pos) (tD X.K fun ρ=>fs ρ>>=fun ys=>m (ys.map (·.2))>>=fun r=>.ok (gJ r.2 (rtG r.1),r.2)):=
 PE.imp (z6g Cc hr ha hst hk hg hdb) fun σ H Q zz=>by
  obtain⟨ρ,F,z,so,e,q⟩:=zz;obtain⟨ys,e1,e⟩:=Res.bind_ok e;obtain⟨r,e2,e⟩:=Res.bind_ok e;cases e;refine⟨ρ,F,ys,so,e1,fun vs H1 s1 rs=>?_⟩;show spD X.K n m (vs++[]) H1 Q E0;rw[dg];refine⟨_,_,r,by rw[rs.len];exact hl ρ ys e1,rs.repsV so.vis,e2,fun v H2 s2 rv=>q v H2 (s1.trans s2) (z2c rv fun a h=>?_)⟩;have al:(nw H1 a\/visA F a\/a=none)->visA F a:=fun h=>h.elim (fun h=>(nw.back s1 h).vis so.vis) fun h=>h.elim (fun h=>h) fun h=>by subst h;trivial
  cases hg:r.1 with
  |fr=>rw[hg]at h;exact nw.back s1 h
  |od=>rw[hg]at h;exact al h
  |al=>rw[hg]at h;exact al h
  |nu=>rw[hg]at h;exact nw.back s1 h
def rMt (K:W.Frag)(m:String):V->List V->Hp->VK->Prop:=fun x xs H Q=>∃B B' dx ds d,Rep K H B x dx/\Reps K H B' xs ds/\mtD m dx ds=.ok d/\∀w H',Same H H'->Rep K H' (fun a=>nw H a\/B a\/B' a) w d->Q w H'
theorem z3f {o:Expr}{n:Str}{env:Env}{w:Sem Value}(h:z5b o=true):jv o n env w=w:=by
 unfold jv;split
 ·rename_i id p pos;cases h
 ·rfl
theorem z5z {pos:Pos}{env:Env}:∀{es:List Expr},(es.all fun e=> !isStar e)=true->(i3 pos (cu es env)).all (fun x=> !x.1)=true
 | [],_=>rfl
 |e::es,h=>by have h:=av.mp (ci▸h);rw[z0g (by simpa using h.1)];show(true&&(i3 pos (cu es env)).all (fun x=>!x.1))=true;rw[z5z h.2];rfl
theorem z4w {cpos:Pos}{env:Env}{es:List Expr}(h:(es.all fun e=> !isStar e)=true)(hl:es.length<20):((i3 cpos (cu es env)).all (fun x=> !x.1)&&(backToKw cpos (mx [] env)).all (fun x=>x.1.isSome)
  &&decide (es.length+([]:List kh).length+(if([]:List kh).isEmpty then 0 else 1)<30))=true:=by
 rw[z5z h];show(true&&true&&decide (es.length+0+0<30))=true;rw[nz (by omega)];rfl
theorem d_mt {m T id:String}{n:Str}{apos cpos:Pos}{fs:Rho->Res (List GD)}(pa:nj T)(slot:PySem.Slot T n id)(hty:typeOf (.builtin id)=pure (.type "method_descriptor"))(hm:MtR X id (rMt X.K m))(hT:∀H B x dx ds d,Rep X.K H B x dx->mtD m dx ds=.ok d->tyV X.K T x H)
  (ho:PE X o (tD X.K fa)) (ha:PA X (e::es) (tDA X.K fs)) (hns:z5b o=true) (hst:((e::es).all fun e=>!isStar e)=true) (hl:(e::es).length<20) (hline:(apos.endLine==cpos.line)=true):
  PE X (.Call (.Attribute o n apos) (e::es) [] cpos) (tD X.K fun ρ=>fa ρ>>=fun x=>fs ρ>>=fun ys=>mtD m x.2 (ys.map (·.2))>>=fun d=>.ok (gJ d .al,d)):=by
 have hst':=hst;rw[ci,aw]at hst';refine PE.imp (z7f pa slot hty hm ho ha (z3f hns) (z4w hst hl) hline (z0g (by simpa using hst'.1)) (z0z hst'.2)) fun σ H Q zz=>?_;obtain⟨ρ,F,z,so,e,q⟩:=zz;obtain⟨x,e1,e⟩:=Res.bind_ok e;obtain⟨ys,e2,e⟩:=Res.bind_ok e;obtain⟨d,e3,e⟩:=Res.bind_ok e;cases e;refine⟨ρ,F,x,so,e1,fun v H1 s1 rv=>⟨hT H1 _ v x.2 _ d rv e3,ρ,F,ys,so.same s1,e2,fun vs H2 s2 rs=>?_⟩⟩;refine⟨_,_,x.2,_,d,rv.same s2 fun _ z=>z,rs.repsV (so.same s1).vis,e3,fun w H3 s3 rw'=>q w H3 ((s1.trans s2).trans s3) (z2c rw' fun a h=>?_)⟩;rcases h with h|h|h
 ·exact(nw.back (s1.trans s2) h).vis so.vis
 ·exact h.vis so.vis
 ·exact h
theorem z4p {K:W.Frag}{H:Hp}{B:Ad->Prop}:∀{ds:List D} {ss:List Str} {vs:List V} {us:List Value},allS ds=some ss->Reps K H B vs ds->Vals vs us->StrsAre us ss/\∀s∈ss,PyData.strOk s=true
 | [],ss,vs,us,e,r,q=>by cases e;have e1:vs=[]:=r;subst e1;cases q;exact⟨.nil,fun _ h=>nomatch h⟩
 |d::ds,ss,vs,us,e,r,q=>by
  cases d<;>try (cases e;done)
  rename_i z;change(allS ds).map (z:: ·)=_ at e;cases e1:allS ds with
  |none=>rw[e1]at e;cases e
  |some ss'=>
   rw[e1]at e;cases e;obtain⟨v,t,rfl,h1,h2⟩:=r;have ev:v=.str z:=h1.1;subst ev;cases q with
   |cons q1 q2=>
    obtain⟨tk,rfl⟩:=q1;obtain⟨i1,i2⟩:=z4p e1 h2 q2;refine⟨.cons z tk i1,fun s hs=>?_⟩;rcases(a8.mp hs)with rfl|hs
    ·exact h1.2
    ·exact i2 s hs
theorem z9w (z:Str)(ss:List Str):Txt.join z ss=z0o z ss:=by
 have go:∀(r:List Str) (acc:Array Nat),(r.foldl (fun acc p=>acc++z.cps++p.cps) acc).toList=acc.toList++(r.map fun p=>z.cps.toList++p.cps.toList).flatten:=by
  intro r
  induction r with
  |nil=>intro acc;simp
  |cons p r ih=>intro acc;rw[List.foldl_cons,ih];simp
 show mm z ss=_;unfold mm z0o z3s;cases ss with
 |nil=>rfl
 |cons x r=>
  have:=go r x.cps;show(⟨r.foldl (fun acc p=>acc++z.cps++p.cps) x.cps⟩:Str)=⟨(x.cps.toList++(r.map fun p=>z.cps.toList++p.cps.toList).flatten).toArray⟩
  congr 1
  rw[<-this,ja]
theorem z6p {z:Str}{ss:List Str}(hz:PyData.strOk z=true)(h:∀s∈ss,PyData.strOk s=true):PyData.strOk (z0o z ss)=true:=
 z12.mpr fun c hc=>by
  have hc':c∈z3s z.cps.toList ss:=by simpa[z0o]using hc
  cases ss with
  |nil=>simp[z3s]at hc'
  |cons x r=>
   simp only[z3s,bx,i7,bt]at hc';rcases hc' with hc'|⟨l,⟨p,hp,rfl⟩,hc'⟩
   ·exact z12.mp (h x af) c hc'
   ·rcases bx.mp hc' with hc'|hc'
    ·exact z12.mp hz c hc'
    ·exact z12.mp (h p (ak _ hp)) c hc'
theorem zj4:MtR X "str.join" (rMt X.K "join"):=by
 intro pins s σ H x xs v us Q I rx rs h;obtain⟨B,B',dx,ds,d,r1,r2,e,q⟩:=h;simp only[mtD,show("join":String)≠"get" by decide,if_true,if_false]at e;split at e
 ·rename_i z ys;split at e
  case h_2=>cases e
  rename_i ss hss;split at e
  case isFalse=>cases e
  rename_i hw;cases e;obtain⟨vl,rfl,h1⟩:=zcw r2;obtain⟨a,vs,rfl,hq,rl⟩:=z1d h1;obtain⟨u,rfl,ru⟩:=vals1 rs;cases ru;have ex:x=.str z:=r1.1;subst ex;obtain⟨t,rfl⟩:=rx;obtain⟨its,rv,pl,_⟩:=I.list hq;obtain⟨sa,ok⟩:=z4p hss rl rv;refine join_list pl.isList (by simpa using sa) (bq hw (by unfold LIM;decide)) fun t' k=>?_;rw[z9w];exact⟨.str _,H,I.tok _,⟨_,rfl⟩,q _ H (Same.refl H) ⟨rfl,z6p r1.2 ok⟩⟩
 ·cases e
theorem zdf {H:Hp}{B:Ad->Prop}{x:V}{dx d:D}{ds:List D}(r:Rep X.K H B x dx)(e:mtD "join" dx ds=.ok d):tyV X.K "str" x H:=by
 simp only[mtD,show("join":String)≠"get" by decide,if_true,if_false]at e;split at e
 ·have ex:x=.str _:=r.1;subst ex;exact rfl
 ·cases e
end
section
variable {X:Cx}{o:Expr}{fa:Rho->Res GD}
end
def Frm (F:Fm)(H:Hp)(F':Fm)(H':Hp):Prop:=∀a o,H a=some o->F.O a=none->H' a=some o/\F'.O a=none
theorem Frm.refl {F:Fm}{H:Hp}:Frm F H F H:=fun _ _ e o=>⟨e,o⟩
theorem Frm.trans {F F' F'':Fm}{H H' H'':Hp}(a:Frm F H F' H')(b:Frm F' H' F'' H''):Frm F H F'' H'':=fun x o e n=>by obtain⟨e1,n1⟩:=a x o e n;exact b x o e1 n1
theorem Frm.same {F:Fm}{H H':Hp}(s:Same H H'):Frm F H F H':=fun a o e n=>⟨s a o e,n⟩
def Run (F F':Fm):Prop:=Same F.H0 F'.H0/\F'.V=F.V
theorem Run.refl {F:Fm}:Run F F:=⟨fun _ _ e=>e,rfl⟩
theorem Run.trans {F F' F'':Fm}(a:Run F F')(b:Run F' F''):Run F F'':=⟨fun x o e=>b.1 x o (a.1 x o e),b.2.trans a.2⟩
theorem Run.of {F F':Fm}(h:F'.H0=F.H0)(v:F'.V=F.V):Run F F':=⟨fun _ _ e=>by rw[h];exact e,v⟩
def BR (F:Fm):G->Ad->Prop
 |.fr=>fun a=>match a with|some a=>F.H0 a=none|none=>False
 |.od=>visA F
 |.al=>visA F
 |.nu=>fun a=>match a with|some a=>F.H0 a=none|none=>False
def z4g (K:W.Frag)(F:Fm)(H:Hp)(D:Ends):Out->Prop
 |.nx ρ'=>∀σ' H' F',StOk K F' H' σ' ρ'->Run F F'->Frm F H F' H'->D.nx σ' H'
 |.bk ρ'=>∀σ' H' F',StOk K F' H' σ' ρ'->Run F F'->Frm F H F' H'->D.bk σ' H'
 |.ct ρ'=>∀σ' H' F',StOk K F' H' σ' ρ'->Run F F'->Frm F H F' H'->D.ct σ' H'
 |.rt g d=>∀v H',(∀a o,H a=some o->F.O a=none->H' a=some o)->Rep K H' (BR F g) v d->D.rt v H'
def tDS (K:W.Frag)(f:Rho->Res Out):TS:=fun D σ H=>∃ρ F out,StOk K F H σ ρ/\f ρ=.ok out/\z4g K F H D out
theorem none_of {H H':Hp}{a:Addr}(s:Same H H')(h:H' a=none):H a=none:=by
 cases e:H a with
 |none=>rfl
 |some o=>rw[s a o e]at h;cases h
theorem BR.run {F F':Fm}(r:Run F F'){g:G}{a:Ad}(h:BR F' g a):BR F g a:=by obtain⟨r1,r2⟩:=r;cases g<;>cases a<;>first|exact h|(exact none_of r1 h)|(have h':F'.V _:=h;rw[r2]at h';exact h')
theorem z4g.back {K:W.Frag}{F F':Fm}{H H':Hp}{D:Ends}{out:Out}(r:Run F F')(f:Frm F H F' H')(h:z4g K F H D out):z4g K F' H' D out:=by
 cases out with
 |nx ρ'=>exact fun σ'' H'' F'' so r2 f2=>h σ'' H'' F'' so (r.trans r2) (f.trans f2)
 |bk ρ'=>exact fun σ'' H'' F'' so r2 f2=>h σ'' H'' F'' so (r.trans r2) (f.trans f2)
 |ct ρ'=>exact fun σ'' H'' F'' so r2 f2=>h σ'' H'' F'' so (r.trans r2) (f.trans f2)
 |rt g d=>refine fun v H'' k rv=>h v H'' (fun a o e n=>?_) (rv.weak fun _ b=>b.run r);obtain⟨e1,n1⟩:=f a o e n;exact k a o e1 n1
section
variable {X:Cx}{tg a b c e:Expr}{es:List Expr}{fa fb fc:Rho->Res GD}{pos:Pos}{st:Stmt}{rest A Bs:List Stmt}{fs gs:Rho->Res Out}
theorem zmu:PSs X [] (tDS X.K fun ρ=>.ok (.nx ρ)):=PSs.imp zcs fun D σ H ⟨ρ,F,out,so,e,q⟩=>by cases e;exact q σ H F so Run.refl Frm.refl
theorem zlg (h1:PS X st (tDS X.K fs))(h2:PSs X rest (tDS X.K gs)):PSs X (st::rest) (tDS X.K fun ρ=>outB (fs ρ) gs):=
 PSs.imp (z2h h1 h2) fun D σ H zz=>by
  obtain⟨ρ,F,out,so,e,q⟩:=zz;have e:outB (fs ρ) gs=.ok out:=e;cases e1:fs ρ with
  |no=>rw[e1]at e;cases e
  |exc x=>rw[e1]at e;cases e
  |ok o1=>
   rw[e1]at e;cases o1 with
   |nx ρ1=>exact⟨ρ,F,.nx ρ1,so,e1,fun σ' H' F' so' r f=>⟨ρ1,F',out,so',e,q.back r f⟩⟩
   |bk ρ1=>cases e;exact⟨ρ,F,.bk ρ1,so,e1,q⟩
   |ct ρ1=>cases e;exact⟨ρ,F,.ct ρ1,so,e1,q⟩
   |rt g d=>cases e;exact⟨ρ,F,.rt g d,so,e1,q⟩
theorem s_if {ft:Rho->Res Bool}(hc:PT X c (tDT X.K ft))(ha:PSs X A (tDS X.K fs))(hb:PSs X Bs (tDS X.K gs)):PS X (.If c A Bs pos) (tDS X.K fun ρ=>ft ρ>>=fun k=>if k then fs ρ else gs ρ):=
 PS.imp (zfk hc ha hb) fun D σ H zz=>by
  obtain⟨ρ,F,out,so,e,q⟩:=zz;obtain⟨k,e1,e⟩:=Res.bind_ok e;refine⟨ρ,F,k,so,e1,fun H1 s1=>?_⟩;cases k with
  |true=>exact iteT ⟨ρ,F,out,so.same s1,e,q.back Run.refl (Frm.same s1)⟩
  |false=>exact iteF ⟨ρ,F,out,so.same s1,e,q.back Run.refl (Frm.same s1)⟩
theorem zhv {K:W.Frag}{F:Fm}{H H':Hp}{g:G}{v:V}{d:D}(so:∀a o,F.H0 a=some o->H a=some o)(hv:∀a,H a=none->F.V a)(r:Rep K H' (BG F H g) v d):Rep K H' (BR F (rtG g)) v d:=by
 refine r.weak fun a b=>?_;cases g with
 |fr=>
  cases a with
  |none=>exact b
  |some a=>show F.H0 a=none;exact Same.none so b
 |od=>exact oldA.vis b
 |al=>exact b
 |nu=>
  cases a with
  |none=>exact b.elim id id
  |some a=>exact b.elim (fun b=>Same.none so b) fun b=>b.2.1
theorem zjw (ha:PE X e (tD X.K fa)):PS X (.Return (some e) pos) (tDS X.K fun ρ=>fa ρ>>=fun x=>.ok (.rt (rtG x.1) x.2)):=PS.imp (z61 ha) fun D σ H zz=>by obtain⟨ρ,F,out,so,e,q⟩:=zz;obtain⟨x,e1,e⟩:=Res.bind_ok e;cases e;exact⟨ρ,F,x,so,e1,fun v H1 s1 rv=>q v H1 (fun a o e _=>s1 a o e) (zhv so.ext so.vis rv)⟩
theorem Slot.ret {K:W.Frag}{F:Fm}{H:Hp}{i:Nat}{g:G}{v:V}{d:D}(so:∀a i,F.O a=some i->F.H0 a=none/\F.V a)(h:Slot K F H i g v d):Rep K H (BR F (if imm d then .fr else rtG g)) v d:=by
 by_cases hi:imm d=true
 ·rw[if_pos hi];exact Rep.immB d hi (h.rep fun a i e=>(so a i e).2)
 ·rw[if_neg hi];cases g with
  |fr=>
   obtain⟨p,e,o,h⟩:=h
   have hb:∀a,Bin F a->BR F .fr a:=fun a b=>by
    cases a with
    |none=>exact b
    |some a=>exact b.2.1
   rcases h with⟨vs,ds,rfl,e2,r⟩|⟨vs,ds,rfl,e2,r⟩
   ·exact⟨p,vs,e,.inl ⟨e2,(so _ _ o).1⟩,r.weak hb⟩
   ·exact⟨p,vs,e,e2,(so _ _ o).1,REs.same (fun _ _ e=>e) hb r⟩
  |od=>exact Rep.weak (fun _ b=>b.vis) h
  |al=>exact h
  |nu=>
   refine Rep.weak (fun a b=>?_) h;cases a with
   |none=>exact b
   |some a=>exact b.2.1
theorem z5w {i:Nat}{x:Str}{p:Pos}(hN:X.N[i]?=some x)(hv:Vis X.env.scope x)(hd:(x==("__debug__":Str))=false)(hcd:(x==("__classdict__":Str))=false):
  PS X (.Return (some (.Name x p)) pos) (tDS X.K fun ρ=>match ρ[i]? with|some (some (g,d))=>.ok (.rt (if imm d then .fr else rtG g) d)|_=>.no):=
 PS.imp (z61 (z1k hN hv hd hcd)) fun D σ H zz=>by
  obtain⟨ρ,F,out,so,e,q⟩:=zz;have e:(match ρ[i]? with|some (some (g,d))=>Res.ok (Out.rt (if imm d then .fr else rtG g) d)|_=>.no)=.ok out:=e;cases e1:ρ[i]? with
  |none=>rw[e1]at e;cases e
  |some o=>
   rw[e1]at e;cases o with
   |none=>cases e
   |some gd=>obtain⟨g,d⟩:=gd;cases e;obtain⟨v,h1,h2⟩:=so.sl i g d e1;exact⟨v,h1,q v H (fun a o e _=>e) (h2.ret fun a i e=>⟨(so.own a i e).1,(so.own a i e).2.1⟩)⟩
theorem REs.immB {K:W.Frag}{H:Hp}{B B':Ad->Prop}:∀{kvs:List (Key×V)} (es:Ents),immE es=true->REs K H B kvs es->REs K H B' kvs es
 |kvs,[],_,r=>r
 |kvs,(kd,d)::es,i,r=>by unfold immE at i;rw[ci,aw]at i;obtain⟨k,v,t,e,e2,ok,h,q⟩:=r;exact⟨k,v,t,e,e2,ok,Rep.immB d i.1 h,REs.immB es i.2 q⟩
theorem StOk.nwBin {K:W.Frag}{F:Fm}{H:Hp}{σ:L2.St}{ρ:Rho}(so:StOk K F H σ ρ){a:Ad}(h:nw H a):Bin F a:=by
 cases a with
 |none=>exact h
 |some a=>
  have h:H a=none:=h;refine⟨?_,Same.none so.ext h,so.vis a h⟩;cases e1:F.O a with
  |none=>rfl
  |some j=>obtain⟨_,_,z⟩:=so.own a j e1;rcases z with⟨xs,z⟩|⟨xs,z⟩<;>rw[h]at z<;>cases z
theorem StOk.setN {K:W.Frag}{F:Fm}{H:Hp}{σ:L2.St}{ρ:Rho}{d:D}{v:V}{i:Nat}(so:StOk K F H σ ρ)(r:Rep K H (Bin F) v d):StOk K (F.drop i) H (σ.set i (some v)) (ρ.set i (some (.nu,d))):=by
 have z:=so.setI (i:=i) (x:=(.al,d)) (v:=v) (Rep.weak (fun _ b=>Bin.vis b) r);refine⟨z.ext,z.vis,z.own,by rw[bo,bo];exact so.len,fun j g d' e=>?_⟩;by_cases hj:i=j
 ·subst hj;rw[db]at e;simp only[if_true]at e;split at e
  ·rename_i hl;cases e;exact⟨v,by rw[db];simp[so.len,hl],Rep.weak (fun _ b=>b.drop) r⟩
  ·cases e
 ·refine z.sl j g d' ?_;rw[a9 hj]at e ⊢;exact e
def Fm.take (F:Fm)(i:Nat)(p:Addr):Fm:={F with O:=fun a=>if a=p then some i else if F.O a=some i then none else F.O a}
theorem Frm.drop {F:Fm}{H H':Hp}{i:Nat}(s:Same H H'):Frm F H (F.drop i) H':=fun a o e n=>⟨s a o e,Fm.drop_none n⟩
theorem StOk.setA {K:W.Frag}{F:Fm}{H H1:Hp}{σ:L2.St}{ρ:Rho}{x:GD}{v:V}{i:Nat}(so:StOk K F H σ ρ)(s1:Same H H1)(r:Rep K H1 (BG F H x.1) v x.2):
  ∃F',StOk K F' H1 (σ.set i (some v)) (ρ.set i (some (z1e x)))/\Run F F'/\Frm F H F' H1:=by
 have so1:=so.same s1;obtain⟨g,d⟩:=x
 have plain:z1e (g,d)=z5p (if imm d then .al else rdG g,d)->∃F',StOk K F' H1 (σ.set i (some v)) (ρ.set i (some (z1e (g,d))))/\Run F F'/\Frm F H F' H1:=fun e=>by
  rw[e];refine⟨F.drop i,so1.setI ?_,Run.of rfl rfl,Frm.drop s1⟩;show Rep K H1 (BI F (if imm d then .al else rdG g)) v d;by_cases hi:imm d=true
  ·rw[if_pos hi];exact Rep.immB d hi r
  ·rw[if_neg hi];cases g with
   |fr=>exact r.weak fun _ b=>nw.vis so.vis b
   |od=>exact r
   |al=>exact r
   |nu=>exact r.weak fun _ b=>b.elim (nw.vis so.vis) Bin.vis
 have nuc:z1e (g,d)=(.nu,d)->(∀a,BG F H g a->Bin F a)->∃F',StOk K F' H1 (σ.set i (some v)) (ρ.set i (some (z1e (g,d))))/\Run F F'/\Frm F H F' H1:=fun e hb=>by rw[e];exact⟨F.drop i,so1.setN (Rep.weak hb r),Run.of rfl rfl,Frm.drop s1⟩
 have own:∀(p:Addr),F.O p=none->H p=none->F.H0 p=none->F.V p->v=.ref p->z1e (g,d)=(.fr,d)->(∀F':Fm,(∀a,Bin F a\/nw H a->a≠some p->Bin F' a)->F'.O p=some i->Slot K F' H1 i .fr v d)->(((∃xs,H1 p=some (.lst xs))\/∃kvs,H1 p=some (.dK kvs)))->
   ∃F',StOk K F' H1 (σ.set i (some v)) (ρ.set i (some (z1e (g,d))))/\Run F F'/\Frm F H F' H1:=fun p hOp hHp hH0 hVp ev es hsl hobj=>by
  have hdr:∀a,a≠p->(F.take i p).O a=(F.drop i).O a:=fun a ha=>by show(if a=p then some i else _)=_;rw[if_neg ha];rfl
  have hnw:∀a,H a=none->F.O a=none:=fun a e=>by
   cases e1:F.O a with
   |none=>rfl
   |some j=>obtain⟨_,_,h⟩:=so.own a j e1;rcases h with⟨xs,h⟩|⟨xs,h⟩<;>rw[e]at h<;>cases h
  have hnw0:∀a,H a=none->F.H0 a=none:=fun a e=>Same.none so.ext e
  have hbin:∀a,Bin F a\/nw H a->a≠some p->Bin (F.take i p) a:=fun a b hne=>by
   cases a with
   |none=>exact b.elim id id
   |some a=>have hap:a≠p:=fun z=>hne (by rw[z]);have hb:F.O a=none/\F.H0 a=none/\F.V a:=b.elim id fun b=>⟨hnw a b,hnw0 a b,so.vis a b⟩;exact⟨by rw[hdr a hap];exact Fm.drop_none hb.1,hb.2⟩
  have hOp':(F.take i p).O p=some i:=by show(if p=p then some i else _)=_;rw[if_pos rfl]
  refine⟨F.take i p,⟨so1.ext,so1.vis,fun a j e=>?_,by rw[bo,bo];exact so.len,fun j g' d' e=>?_⟩,Run.of rfl rfl,fun a o e n=>⟨s1 a o e,?_⟩⟩
  ·by_cases hap:a=p
   ·subst hap;exact⟨hH0,hVp,hobj⟩
   ·rw[hdr a hap]at e
    have e':F.O a=some j:=by
     have:(if F.O a=some i then none else F.O a)=some j:=e;split at this
     ·cases this
     ·exact this
    exact so1.own a j e'
  ·by_cases hj:i=j
   ·subst hj;rw[db]at e;simp only[if_true]at e;split at e
    ·rename_i hl;have e1:z1e (g,d)=(g',d'):=by simpa using e
     rw[es]at e1;cases e1;exact⟨v,by rw[db];simp[so.len,hl],hsl _ hbin hOp'⟩
    ·cases e
   ·rw[a9 hj]at e ⊢;obtain⟨u,h1,h2⟩:=so.sl j g' d' e;refine⟨u,h1,?_⟩;cases g' with
    |fr=>
     obtain⟨p',e1,o1,h3⟩:=h2;have hpp:p'≠p:=fun z=>by rw[z,hOp]at o1;cases o1
     refine⟨p',e1,?_,?_⟩
     ·rw[hdr p' hpp];show(if F.O p'=some i then none else F.O p')=some j;rw[o1,if_neg (fun z=>hj (Option.some.inj z).symm)]
     ·have hb':∀(a:Ad),Bin F a/\¬nw H a->Bin (F.take i p) a:=fun a b=>hbin a (.inl b.1) fun z=>b.2 (by rw[z];exact hHp);rcases h3 with⟨vs,ds,e3,e2,r3⟩|⟨vs,ds,e3,e2,r3⟩
      ·exact .inl ⟨vs,ds,e3,s1 _ _ e2,Reps.same s1 hb' (Reps.there _ r3)⟩
      ·exact .inr ⟨vs,ds,e3,s1 _ _ e2,REs.same s1 hb' (REs.there _ r3)⟩
    |od=>exact Rep.same s1 (fun _ b=>b) h2
    |al=>exact Rep.same s1 (fun _ b=>b) h2
    |nu=>exact Rep.same s1 (fun a b=>hbin a (.inl b.1) fun z=>b.2 (by rw[z];exact hHp)) (Rep.there _ h2)
  ·have hap:a≠p:=fun z=>by rw[z,hHp]at e;cases e
   rw[hdr a hap];exact Fm.drop_none n
 have hOn:∀p,H p=none->F.O p=none:=fun p hHp=>by
  cases e1:F.O p with
  |none=>rfl
  |some j=>obtain⟨_,_,h'⟩:=so.own p j e1;rcases h' with⟨xs,h'⟩|⟨xs,h'⟩<;>rw[hHp]at h'<;>cases h'
 by_cases hi:imm d=true
 ·exact plain (by show(if imm d then _ else _)=_;rw[if_pos hi];show _=z5p (if imm d then _ else _,d);rw[if_pos hi];rfl)
 ·cases g with
  |od=>exact plain (by delta z1e;simp only[if_neg hi];rfl)
  |al=>exact plain (by delta z1e;simp only[if_neg hi];cases d<;>rfl)
  |nu=>exact nuc (by delta z1e;simp only[if_neg hi]) fun a b=>b.elim so.nwBin id
  |fr=>
   cases d with
   |none=>exact absurd rfl hi
   |bool b=>exact absurd rfl hi
   |int b=>exact absurd rfl hi
   |str b=>exact absurd rfl hi
   |tuple ds=>exact nuc (by delta z1e;simp only[if_neg hi]) fun a b=>so.nwBin b
   |list ds=>
    by_cases him:imms ds=true
    ·obtain⟨p,vs,ev,h,rs⟩:=r;rcases h with⟨h,b⟩|⟨_,b⟩
     ·have hHp:H p=none:=b;exact own p (hOn p hHp) hHp (Same.none so.ext hHp) (so.vis p hHp) ev (by delta z1e;simp only[if_neg hi,if_pos him]) (fun F' hb ho=>⟨p,ev,ho,.inl ⟨vs,ds,rfl,h,Reps.immB ds him rs⟩⟩) (.inl ⟨vs,h⟩)
     ·exact b.elim
    ·exact nuc (by delta z1e;simp only[if_neg hi,if_neg him]) fun a b=>so.nwBin b
   |dict es=>
    by_cases him:immE es=true
    ·obtain⟨p,kvs,ev,h,b,rs⟩:=r;have hHp:H p=none:=b;exact own p (hOn p hHp) hHp (Same.none so.ext hHp) (so.vis p hHp) ev (by delta z1e;simp only[if_neg hi,if_pos him]) (fun F' hb ho=>⟨p,ev,ho,.inr ⟨kvs,es,rfl,h,REs.immB es him rs⟩⟩) (.inr ⟨kvs,h⟩)
    ·exact nuc (by delta z1e;simp only[if_neg hi,if_neg him]) fun a b=>so.nwBin b
theorem zbt {K:W.Frag}{i:Nat}{te:TE}(h:∀σ H Q,tD K fa σ H Q->te σ H Q)(D:Ends)(σ:L2.St)(H:Hp)(q:tDS K (fun ρ=>fa ρ>>=fun x=>.ok (.nx (ρ.set i (some (z1e x))))) D σ H):te σ H fun v H1=>D.nx (σ.set i (some v)) H1:=by obtain⟨ρ,F,out,so,e,q⟩:=q;obtain⟨x,e1,e⟩:=Res.bind_ok e;cases e;refine h σ H _ ⟨ρ,F,x,so,e1,fun v H1 s1 rv=>?_⟩;obtain⟨F',so',r,f⟩:=so.setA (i:=i) s1 rv;exact q _ H1 F' so' r f
theorem zhz {i:Nat}{x:Str}{px:Pos}(hN:X.N.Nodup)(hi:X.N[i]?=some x)(hx:Loc X.env.scope x)(hf:X.fn x=true\/X.env.scope.names.lookup x=some .local)(hs:i5 e (some (.Name x px)) pos.line X.env=pure false)(ha:PE X e (tD X.K fa)):
  PS X (.Assign [.Name x px] e pos) (tDS X.K fun ρ=>fa ρ>>=fun x=>.ok (.nx (ρ.set i (some (z1e x))))):=
 PS.imp (zc0 hN hi hx ha hs hf) fun D σ H q=>zbt (fun _ _ _ h=>h) D σ H q
theorem zh8 {is:List Nat}{te:Expr}(hg:PG X te (tDG X.K (.tp is)))(ha:PE X e (tD X.K fa))(hs:lw [te] e pos.line X.env=pure false)(hw:lx [te] e X.env=pure none)(h1:(dm [te] X.env).map (·.2)=[ka te X.env]):
  PS X (.Assign [te] e pos) (tDS X.K fun ρ=>fa ρ>>=fun x=>z0x (.tp is) x ρ>>=fun ρ'=>.ok (.nx ρ')):=
 PS.imp (zhh ha hg hs hw h1) fun D σ H zz=>by obtain⟨ρ,F,out,so,e,q⟩:=zz;obtain⟨x,e1,e⟩:=Res.bind_ok e;obtain⟨ρ',e2,e⟩:=Res.bind_ok e;cases e;refine⟨ρ,F,x,so,e1,fun v H1 s1 rv=>⟨ρ,F,x,ρ',so.same s1,rv.weak fun _ b=>BI.of so.vis b,e2,fun σ' F' so' kps=>?_⟩⟩;exact q σ' H1 F' so' (Run.of kps.h0 kps.v) fun a o e n=>⟨s1 a o e,kps.o a n⟩
theorem StOk.settle {K:W.Frag}{F:Fm}{H:Hp}{σ:L2.St}{ρ:Rho}(so:StOk K F H σ ρ)(hn:noOwn ρ=true):StOk K ⟨H,F.V,fun _=>none⟩ H σ (ρ.map Mi.settle):=by
 refine⟨fun _ _ e=>e,so.vis,fun a i e=>(by cases e),(by rw[ag];exact so.len),fun i g d e=>?_⟩;rw[bc]at e;cases e2:ρ[i]? with
 |none=>rw[e2]at e;cases e
 |some sl=>
  rw[e2]at e;have e3:Mi.settle sl=some (g,d):=Option.some.inj e;have hf:=bu.mp hn sl (b8 e2);cases sl with
  |none=>cases e3
  |some x=>
   obtain⟨g0,d0⟩:=x
   have old:∀{B:Ad->Prop} {v:V},(∀a,B a->visA F a)->Rep K H B v d0->Rep K H (oldA ⟨H,F.V,fun _=>none⟩) v d0:=fun hB h=>(Rep.there d0 h).weak fun a b=>by
    obtain⟨b1,b2⟩:=b;cases a with
    |none=>exact trivial
    |some a=>exact⟨b2,hB _ b1⟩
   obtain⟨v,hv,h⟩:=so.sl i g0 d0 e2;cases g0 with
   |fr=>cases hf
   |od=>cases e3;exact⟨v,hv,old (fun a b=>by cases a with|none=>exact trivial|some a=>exact b.2) h⟩
   |nu=>cases e3;exact⟨v,hv,old (fun a b=>Bin.vis b) h⟩
   |al=>
    cases hi:imm d0 with
    |true=>
     have e4:Mi.settle (some (.al,d0))=some (.al,d0):=by show(if imm d0=true then _ else _)=_;rw[hi];rfl
     rw[e4]at e3;cases e3;exact⟨v,hv,h⟩
    |false=>
     have e4:Mi.settle (some (.al,d0))=some (.od,d0):=by show(if imm d0=true then _ else _)=_;rw[hi];rfl
     rw[e4]at e3;cases e3;exact⟨v,hv,old (fun _ b=>b) h⟩
theorem StOk.settleA {K:W.Frag}{F:Fm}{H:Hp}{σ:L2.St}{ρ:Rho}(so:StOk K F H σ ρ):StOk K ⟨H,F.V,fun _=>none⟩ H σ (ρ.map Mi.settleA):=by
 refine⟨fun _ _ e=>e,so.vis,fun a i e=>(by cases e),(by rw[ag];exact so.len),fun i g d e=>?_⟩;rw[bc]at e;cases e2:ρ[i]? with
 |none=>rw[e2]at e;cases e
 |some sl=>
  rw[e2]at e;have e3:Mi.settleA sl=some (g,d):=Option.some.inj e;cases sl with
  |none=>cases e3
  |some x=>
   obtain⟨g0,d0⟩:=x;obtain⟨v,hv,h⟩:=so.sl i g0 d0 e2;have r:=h.rep fun a i e=>(so.own a i e).2.1;have e3:(if imm d0 then some (G.al,d0)else some (G.od,d0))=some (g,d):=e3;refine⟨v,hv,?_⟩;split at e3
   ·cases e3;exact r
   ·cases e3
    exact Rep.weak (B':=oldA ⟨H,F.V,fun _=>none⟩) (fun a b=>by
     obtain⟨b1,b2⟩:=b;cases a with
     |none=>exact trivial
     |some a=>exact⟨b2,b1⟩) (Rep.there _ r)
theorem z2j {K:W.Frag}{F:Fm}{H H1:Hp}{σ:L2.St}{ρ:Rho}{y:GD}{u:V}(so:StOk K F H σ ρ)(h:okIn y=true)(r:Rep K H1 (BG F H y.1) u y.2):Rep K H1 (Bin F) u y.2:=by
 obtain⟨g,d⟩:=y;rcases de.mp h with hi|hg
 ·exact Rep.immB d hi r
 rcases de.mp hg with h|h
 ·cases eq_of_beq h;exact Rep.weak (fun a b=>so.nwBin b) r
 ·cases eq_of_beq h;exact Rep.weak (fun a b=>b.elim so.nwBin id) r
theorem StOk.mutate {K:W.Frag}{F:Fm}{H:Hp}{σ:L2.St}{ρ:Rho}{i:Nat}{p:Addr}{d':D}{o':HO}(so:StOk K F H σ ρ)(hO:F.O p=some i)(hσ:σ[i]?=some (some (.ref p)))(ho':(∃xs,o'=.lst xs)\/∃kvs,o'=.dK kvs)
  (hs:Slot K F (upd H p o') i .fr (.ref p) d'):StOk K F (upd H p o') σ ((ρ.set i (some (.fr,d'))).map z07)/\Frm F H F (upd H p o'):=by
 obtain⟨h0,hV,hobj⟩:=so.own p i hO;have hne:∀a,F.O a=none->a≠p:=fun a e z=>by rw[z,hO]at e;cases e
 have hfix:∀a o,H a=some o->Fix o->a≠p:=fun a o e f z=>by subst z;rcases hobj with⟨xs,h⟩|⟨xs,h⟩<;>rw[e]at h<;>cases h<;>exact f
 have frm:Frm F H F (upd H p o'):=fun a o e n=>⟨by rw[z06 (hne a n)];exact e,n⟩;refine⟨⟨fun a o e=>?_,fun a e=>?_,fun a j e=>?_,by rw[ag,bo];exact so.len,fun j g d e=>?_⟩,frm⟩
 ·have hap:a≠p:=fun z=>by rw[z,h0]at e;cases e
  rw[z06 hap];exact so.ext a o e
 ·by_cases hap:a=p
  ·subst hap;exact hV
  ·rw[z06 hap]at e;exact so.vis a e
 ·obtain⟨x1,x2,x3⟩:=so.own a j e;refine⟨x1,x2,?_⟩;by_cases hap:a=p
  ·subst hap;rw[z0e];rcases ho' with⟨xs,rfl⟩|⟨xs,rfl⟩
   ·exact .inl ⟨xs,rfl⟩
   ·exact .inr ⟨xs,rfl⟩
  ·rw[z06 hap];exact x3
 ·rw[bc]at e;by_cases hj:i=j
  ·subst hj;have hl:i<ρ.length:=by rw[<-so.len];exact(au.mp hσ).1
   rw[db]at e;simp only[if_true,hl]at e;have e1:z07 (some (.fr,d'))=some (g,d):=by simpa using e
   cases e1;exact⟨_,hσ,hs⟩
  ·rw[a9 hj]at e;cases e2:ρ[j]? with
   |none=>rw[e2]at e;cases e
   |some sl=>
    rw[e2]at e;have e3:z07 sl=some (g,d):=by simpa using e
    cases sl with
    |none=>cases e3
    |some gd=>
     obtain⟨g0,d0⟩:=gd;obtain⟨v,h1,h2⟩:=so.sl j g0 d0 e2;refine⟨v,h1,?_⟩;cases g0 with
     |fr=>
      cases e3;obtain⟨p',e4,o4,h3⟩:=h2;have hpp:p'≠p:=fun z=>by rw[z,hO]at o4;exact hj (Option.some.inj o4)
      have hk:∀a o,H a=some o->(Bin F (some a)\/Fix o)->upd H p o' a=some o:=fun a o e b=>by have:a≠p:=b.elim (fun b=>hne a b.1) fun f=>hfix a o e f;rw[z06 this];exact e
      refine⟨p',e4,o4,?_⟩;rcases h3 with⟨vs,ds,e5,e6,r⟩|⟨vs,ds,e5,e6,r⟩
      ·exact .inl ⟨vs,ds,e5,by rw[z06 hpp];exact e6,Reps.keep hk (fun _ z=>z) ds r⟩
      ·exact .inr ⟨vs,ds,e5,by rw[z06 hpp];exact e6,REs.keep hk (fun _ z=>z) ds r⟩
     |od=>cases e3;exact Rep.keep (fun a o e b=>by have:a≠p:=b.elim (fun b z=>by have b1:F.H0 a≠none/\F.V a:=b;rw[z]at b1;exact b1.1 h0) fun f=>hfix a o e f;rw[z06 this];exact e) (fun _ z=>z) _ h2
     |nu=>cases e3;exact Rep.keep (fun a o e b=>by have:a≠p:=b.elim (fun b=>hne a b.1) fun f=>hfix a o e f;rw[z06 this];exact e) (fun _ z=>z) _ h2
     |al=>
      change(if imm d0 then some (G.al,d0)else none)=_ at e3;split at e3
      ·rename_i him;cases e3;exact Rep.immK (fun a o e f=>by rw[z06 (hfix a o e f)];exact e) _ him h2
      ·cases e3
theorem z1j {K:W.Frag}{F:Fm}{H:Hp}{σ:L2.St}{ρ:Rho}{i:Nat}{d:D}(so:StOk K F H σ ρ)(e:ρ[i]?=some (some (.fr,d))):∃p,σ[i]?=some (some (.ref p))/\F.O p=some i/\((∃vs ds,d=.list ds/\H p=some (.lst vs)/\Reps K H (Bin F) vs ds)\/(∃kvs es,d=.dict es/\H p=some (.dK kvs)/\REs K H (Bin F) kvs es)):=by obtain⟨v,h1,p,rfl,o,h⟩:=so.sl i .fr d e;exact⟨p,h1,o,h⟩
def mutF (m:String)(i:Nat)(fs:Rho->Res (List GD)):Rho->Res Out:=fun ρ=>fs ρ>>=fun ys=>match ρ[i]? with
 |some (some (.fr,.list xs))=>mutD m xs ys>>=fun xs'=>.ok (.nx ((ρ.set i (some (.fr,.list xs'))).map z07))
 |_=>.no
theorem zbi {i:Nat}{x:Str}{p ap cp:Pos}{fs:Rho->Res (List GD)}(hN:X.N[i]?=some x)(hv:Vis X.env.scope x)(hd:(x==("__debug__":Str))=false)(hcd:(x==("__classdict__":Str))=false)(ha:PA X (e::es) (tDA X.K fs))(hst:((e::es).all fun e=>!isStar e)=true)(hl:(e::es).length<20)(hline:(ap.endLine==cp.line)=true):
  PS X (.Expr (.Call (.Attribute (.Name x p) "append" ap) (e::es) [] cp) pos) (tDS X.K (mutF "append" i fs)):=by
 have hst':=hst;rw[ci,aw]at hst';refine PS.imp (ps_e (z7f PySem.F.plainAttrs_list PySem.F.slot_list_append PySem.F.type_list_append z2u (z1k hN hv hd hcd) ha rfl (z4w hst hl) hline (z0g (by simpa using hst'.1)) (z0z hst'.2)) rfl) fun D σ H zz=>?_;obtain⟨ρ,F,out,so,e,q⟩:=zz;obtain⟨ys,e1,e⟩:=Res.bind_ok e;split at e
 ·rename_i xs hr;obtain⟨xs',e2,e⟩:=Res.bind_ok e;cases e;obtain⟨pa,h1,hO,h⟩:=z1j so hr;rcases h with⟨vs,ds,e3,e4,r⟩|⟨_,_,e3,_⟩
  ·cases e3;refine⟨_,h1,.inl ⟨rfl,vs,SqL.of e4⟩,ρ,F,ys,so,e1,fun us H1 s1 rs=>?_⟩;simp only[mutD,if_true]at e2;split at e2
   ·rename_i y;split at e2
    case isFalse=>cases e2
    rename_i hc;cases e2;rw[av,decide_eq_true_iff]at hc;obtain⟨u,rfl,ru⟩:=rs.one;have so1:=so.same s1;have e5:=s1 _ _ e4;refine⟨pa,vs,u,rfl,rfl,e5,z0q (by rw[r.length];omega),?_⟩
    have r':Reps X.K (upd H1 pa (.lst (vs++[u]))) (Bin F) (vs++[u]) (xs++[y.2]):=by
     have r0:Reps X.K H1 (Bin F) (vs++[u]) (xs++[y.2]):=Reps.append (r.same s1 fun _ z=>z) ⟨u,[],rfl,z2j so hc.1 ru,rfl⟩;refine Reps.keep (fun a o e b=>?_) (fun _ z=>z) _ r0
     have hap:a≠pa:=by
      intro z;subst z;rcases b with b|b
      ·have b1:F.O a=none:=b.1;rw[hO]at b1;cases b1
      ·rw[e5]at e;cases e;exact b
     rw[z06 hap];exact e
    obtain⟨so2,f2⟩:=so1.mutate (o':=.lst (vs++[u])) (d':=.list (xs++[y.2])) hO h1 (.inl ⟨_,rfl⟩) ⟨pa,rfl,hO,.inl ⟨_,_,rfl,z0e,r'⟩⟩;exact q σ _ F so2 Run.refl ((Frm.same s1).trans f2)
   ·cases e2
  ·cases e3
 ·cases e
end
section
variable {X:Cx}{e:Expr}{es:List Expr}{pos:Pos}
def rIns:V->List V->Hp->VK->Prop:=fun x vs H Q=>∃l xs i y,x=.ref l/\vs=[.int i,y]/\H l=some (.lst xs)/\0<=i/\i<=(xs.length:Int)/\xs.length<aq/\Q .non (upd H l (.lst (xs.take i.toNat++y::xs.drop i.toNat)))
theorem zes {its:List Value}{u:Value}{i:Int}(h0:0<=i)(h1:i<=(its.length:Int)):(fun ws:Array Value=>have k:=if i<0 then(i+(ws.size:Int)).toNat else min i.toNat ws.size;(ws.extract 0 k).push u++ws.extract k) its.toArray=(its.take i.toNat++u::its.drop i.toNat).toArray:=by
 have hk:min i.toNat its.length=i.toNat:=Nat.min_eq_left (by omega);show(fun k=>(its.toArray.extract 0 k).push u++its.toArray.extract k) (if i<0 then(i+(its.toArray.size:Int)).toNat else min i.toNat its.toArray.size)=_;rw[if_neg (by omega),ai,hk]
 dsimp only
 apply Array.ext';simp[List.extract_eq_take_drop];exact kw (by rw[c6];exact ae _)
theorem zj6:MtM X "list.insert" rIns:=by intro pins s σ H x vs v us Q I rx rv h;obtain⟨l,xs,i,y,rfl,rfl,hH,h0,h1,hz,q⟩:=h;cases rx;obtain⟨a,u,rfl,ra,ru⟩:=rv.two;obtain⟨t,rfl⟩:=ra;obtain⟨z,its,n,r,hl,e⟩:=I.lstM hH;have hsl:=fg;refine kq F.slot_list_insert ⟨_,e,rfl⟩ F.entry_list_insert (F.args_list_insert_3 _ _ _) (AutoSeq1.list_insert_list_int_val_1 l its.toArray n i t u (by rw[fitsIndex_both (by omega) (by omega)];decide) (by rw[ai];omega)) ⟨e,?_⟩;refine⟨.non,_,I.lset (its':=its.take i.toNat++u::its.drop i.toNat) hH e (zes h0 (by omega)) ((r.take _).append (.cons ru (r.drop _))) ?_,rfl,q⟩;rw[ac,cx,aj,c6];omega
theorem z86 {F:Fm}{H H1:Hp}{σ:L2.St}{ρ:Rho}{i:Nat}{pa:Addr}{vs ws:List V}{zs:List D}{D:Ends}(so:StOk X.K F H σ ρ)(s1:Same H H1)(hO:F.O pa=some i)(h1:σ[i]?=some (some (.ref pa)))(e4:H pa=some (.lst vs))(r0:Reps X.K H1 (Bin F) ws zs)
  (q:z4g X.K F H D (.nx ((ρ.set i (some (.fr,.list zs))).map z07))):D.nx σ (upd H1 pa (.lst ws)):=by
 have e5:=s1 _ _ e4
 have r':Reps X.K (upd H1 pa (.lst ws)) (Bin F) ws zs:=by
  refine Reps.keep (fun a o e b=>?_) (fun _ z=>z) _ r0
  have hap:a≠pa:=by
   intro z;subst z;rcases b with b|b
   ·have b1:F.O a=none:=b.1;rw[hO]at b1;cases b1
   ·rw[e5]at e;cases e;exact b
  rw[z06 hap];exact e
 obtain⟨so2,f2⟩:=(so.same s1).mutate (o':=.lst ws) (d':=.list zs) hO h1 (.inl ⟨_,rfl⟩) ⟨pa,rfl,hO,.inl ⟨_,_,rfl,z0e,r'⟩⟩;exact q σ _ F so2 Run.refl ((Frm.same s1).trans f2)
theorem zfs {xs xs':List D}{ys:List GD}(h:putAt xs ys=.ok xs'):∃g i y,ys=[(g,.int i),y]/\okIn y=true/\xs.length<LIM/\0<=i/\i<=(xs.length:Int)/\xs'=xs.take i.toNat++y.2::xs.drop i.toNat:=by
 unfold putAt at h;split at h
 ·rename_i x y;obtain⟨g,d⟩:=x
  dsimp only at h
  split at h
  ·split at h
   ·rename_i i hc;simp only[av,decide_eq_true_iff]at hc;cases h;exact⟨g,_,y,rfl,hc.1.1.1,hc.1.1.2,hc.1.2,hc.2,rfl⟩
   ·cases h
  ·cases h
 ·cases h
theorem zfr {xs xs':List D}{ys:List GD}(h:zdv xs ys=.ok xs'):∃g i,ys=[(g,.int i)]/\0<=i/\i<(xs.length:Int)/\xs.length<=LIM/\xs'=xs.eraseIdx i.toNat:=by
 unfold zdv at h;split at h
 ·rename_i x;obtain⟨g,d⟩:=x
  dsimp only at h
  split at h
  ·split at h
   ·rename_i i hc;simp only[av,decide_eq_true_iff]at hc;cases h;exact⟨g,_,rfl,hc.1.1,hc.1.2,hc.2,rfl⟩
   ·cases h
  ·cases h
 ·cases h
theorem zav {i:Nat}{x:Str}{p ap cp:Pos}{fs:Rho->Res (List GD)}(hN:X.N[i]?=some x)(hv:Vis X.env.scope x)(hd:(x==("__debug__":Str))=false)(hcd:(x==("__classdict__":Str))=false)(ha:PA X (e::es) (tDA X.K fs))(hst:((e::es).all fun e=>!isStar e)=true)(hl:(e::es).length<20)(hline:(ap.endLine==cp.line)=true):
  PS X (.Expr (.Call (.Attribute (.Name x p) "insert" ap) (e::es) [] cp) pos) (tDS X.K (mutF "insert" i fs)):=by
 have hst':=hst;rw[ci,aw]at hst';refine PS.imp (ps_e (z7f PySem.F.plainAttrs_list PySem.F.slot_list_insert PySem.F.type_list_insert zj6 (z1k hN hv hd hcd) ha rfl (z4w hst hl) hline (z0g (by simpa using hst'.1)) (z0z hst'.2)) rfl) fun D σ H zz=>?_;obtain⟨ρ,F,out,so,e,q⟩:=zz;obtain⟨ys,e1,e⟩:=Res.bind_ok e;split at e
 ·rename_i xs hr;obtain⟨xs',e2,e⟩:=Res.bind_ok e;cases e;obtain⟨pa,h1,hO,h⟩:=z1j so hr;rcases h with⟨vs,ds,e3,e4,r⟩|⟨_,_,e3,_⟩
  ·cases e3;refine⟨_,h1,.inl ⟨rfl,vs,SqL.of e4⟩,ρ,F,ys,so,e1,fun us H1 s1 rs=>?_⟩;simp only[mutD,show("insert":String)≠"append" by decide,if_true,if_false]at e2;obtain⟨g,j,y,rfl,hy,hlen,j0,j1,rfl⟩:=zfs e2;obtain⟨w,u,rfl,rw',ru⟩:=rs.two;have ew:w=.int j:=rw';subst ew;have hlv:=r.length;refine⟨pa,vs,j,u,rfl,rfl,s1 _ _ e4,j0,by omega,z0q (by omega),?_⟩;have r1:=r.same s1 fun _ z=>z;exact z86 so s1 hO h1 e4 (Reps.append (r1.take _) (Reps.cons (z2j so hy ru) (r1.drop _))) q
  ·cases e3
 ·cases e
theorem _root_.Mi.Reps.eraseIdx {K:W.Frag}{H:Hp}{B:Ad->Prop}:∀{vs:List V} {ds:List D} (n:Nat),Reps K H B vs ds->Reps K H B (vs.eraseIdx n) (ds.eraseIdx n)
 |vs,[],n,r=>by have e:vs=[]:=r;subst e;exact rfl
 |vs,d::ds,0,r=>by obtain⟨v,t,e,_,p⟩:=r;subst e;exact p
 |vs,d::ds,n+1,r=>by obtain⟨v,t,e,h,p⟩:=r;subst e;exact⟨v,_,rfl,h,Reps.eraseIdx n p⟩
theorem zcx {i:Nat}{x:Str}{p ap cp:Pos}{fs:Rho->Res (List GD)}(hN:X.N[i]?=some x)(hv:Vis X.env.scope x)(hd:(x==("__debug__":Str))=false)(hcd:(x==("__classdict__":Str))=false)(ha:PA X (e::es) (tDA X.K fs))(hst:((e::es).all fun e=>!isStar e)=true)(hl:(e::es).length<20)(hline:(ap.endLine==cp.line)=true):
  PS X (.Expr (.Call (.Attribute (.Name x p) "pop" ap) (e::es) [] cp) pos) (tDS X.K (mutF "pop" i fs)):=by
 have hst':=hst;rw[ci,aw]at hst';refine PS.imp (ps_e (z7f PySem.F.plainAttrs_list PySem.F.slot_list_pop PySem.F.type_list_pop zb8 (z1k hN hv hd hcd) ha rfl (z4w hst hl) hline (z0g (by simpa using hst'.1)) (z0z hst'.2)) rfl) fun D σ H zz=>?_;obtain⟨ρ,F,out,so,e,q⟩:=zz;obtain⟨ys,e1,e⟩:=Res.bind_ok e;split at e
 ·rename_i xs hr;obtain⟨xs',e2,e⟩:=Res.bind_ok e;cases e;obtain⟨pa,h1,hO,h⟩:=z1j so hr;rcases h with⟨vs,ds,e3,e4,r⟩|⟨_,_,e3,_⟩
  ·cases e3;refine⟨_,h1,.inl ⟨rfl,vs,SqL.of e4⟩,ρ,F,ys,so,e1,fun us H1 s1 rs=>?_⟩;simp only[mutD,show("pop":String)≠"append" by decide,show("pop":String)≠"insert" by decide,if_true,if_false]at e2;obtain⟨g,j,rfl,j0,j1,hlen,rfl⟩:=zfr e2;obtain⟨w,rfl,rw'⟩:=rs.one;have ew:w=.int j:=rw';subst ew;have hlv:=r.length;have hj:j.toNat<vs.length:=by omega
   have hL:LIM=1000000:=rfl;refine⟨pa,vs,j,j.toNat,vs[j.toNat],rfl,rfl,s1 _ _ e4,by omega,by omega,?_,bg hj,?_⟩
   ·unfold mw;simp only[if_neg (show ¬j<0 by omega)];rw[if_pos (by simp;omega)]
   ·exact z86 so s1 hO h1 e4 ((r.same s1 fun _ z=>z).eraseIdx _) q
  ·cases e3
 ·cases e
end
section
variable {X:Cx}{pos:Pos}
def popF (j i:Nat):Rho->Res Out:=fun ρ=>match ρ[i]? with
 |some (some (.fr,.list xs))=>(match z2f xs with
  |some d=>.ok (.nx (((ρ.set i (some (.fr,.list xs.dropLast))).map z07).set j (some (.al,d))))
  |none=>.no)
 |_=>.no
def papF (i:Nat)(fa:Rho->Res GD)(fr:Rho->Res (List GD)):Rho->Res Out:=fun ρ=>fa ρ>>=fun x=>match ρ[i]? with
 |some (some (.fr,.list xs))=>(match z2f xs with
  |some d=>fr ((ρ.set i (some (.fr,.list xs.dropLast))).map z07)>>=fun zs=>if imm x.2&&imms (zs.map (·.2))&&decide (xs.length<=LIM)then .ok (.nx ((((ρ.set i (some (.fr,.list xs.dropLast))).map z07).set i (some (.fr,.list (xs.dropLast++[.tuple (x.2::d::zs.map (·.2))])))).map z07))else .no
  |none=>.no)
 |_=>.no
theorem z7y {xs:List D}{d:D}(h:z2f xs=some d):xs[xs.length-1]?=some d/\imm d=true:=by
 unfold z2f at h;split at h
 ·rename_i y e;split at h
  ·rename_i hi;cases h;rw[List.getLast?_eq_getElem?]at e;exact⟨e,hi⟩
  ·cases h
 ·cases h
theorem Reps.front {K:W.Frag}{H:Hp}{B:Ad->Prop}{vs:List V}{ds:List D}(r:Reps K H B vs ds):Reps K H B vs.dropLast ds.dropLast:=by rw[k9,k9,r.length];exact r.take _
theorem z7a {F:Fm}{H:Hp}{σ:L2.St}{ρ:Rho}{i:Nat}{pa:Addr}{vs ws:List V}{zs:List D}(so:StOk X.K F H σ ρ)(hO:F.O pa=some i)(h1:σ[i]?=some (some (.ref pa)))(e4:H pa=some (.lst vs))(r0:Reps X.K H (Bin F) ws zs):
  StOk X.K F (upd H pa (.lst ws)) σ ((ρ.set i (some (.fr,.list zs))).map z07)/\Frm F H F (upd H pa (.lst ws)):=by
 have r':Reps X.K (upd H pa (.lst ws)) (Bin F) ws zs:=by
  refine Reps.keep (fun a o e b=>?_) (fun _ z=>z) _ r0
  have hap:a≠pa:=by
   intro z;subst z;rcases b with b|b
   ·have b1:F.O a=none:=b.1;rw[hO]at b1;cases b1
   ·rw[e4]at e;cases e;exact b
  rw[z06 hap];exact e
 exact so.mutate (o':=.lst ws) (d':=.list zs) hO h1 (.inl ⟨_,rfl⟩) ⟨pa,rfl,hO,.inl ⟨_,_,rfl,z0e,r'⟩⟩
theorem s_pop {i j:Nat}{x y:Str}{p ap cp px:Pos}(hN:X.N.Nodup)(hj:X.N[j]?=some y)(hy:Loc X.env.scope y)(hf:X.fn y=true\/X.env.scope.names.lookup y=some .local)(hi:X.N[i]?=some x)(hv:Vis X.env.scope x)(hd:(x==("__debug__":Str))=false)(hcd:(x==("__classdict__":Str))=false)(hline:(ap.endLine==cp.line)=true):
  PS X (.Assign [.Name y px] (.Call (.Attribute (.Name x p) "pop" ap) [] [] cp) pos) (tDS X.K (popF j i)):=by
 refine PS.imp (ps_s hN hj hy (zbv PySem.F.plainAttrs_list PySem.F.slot_list_pop PySem.F.type_list_pop zbk (z1k hi hv hd hcd) rfl hline) rfl hf) fun D σ H zz=>?_;obtain⟨ρ,F,out,so,e,q⟩:=zz;unfold popF at e;split at e
 ·rename_i xs hr;split at e
  ·rename_i d hl;cases e;obtain⟨hl,him⟩:=z7y hl;obtain⟨pa,h1,hO,h⟩:=z1j so hr;rcases h with⟨vs,ds,e3,e4,r⟩|⟨_,_,e3,_⟩
   ·cases e3;obtain⟨v,hv1,hv2⟩:=r.get hl;rw[<-r.length]at hv1;obtain⟨so2,f2⟩:=z7a so hO h1 e4 r.front
    have hp:∀a o,H a=some o->Fix o->upd H pa (.lst vs.dropLast) a=some o:=fun a o e f=>by
     have:a≠pa:=fun z=>by subst z;rw[e4]at e;cases e;exact f
     rw[z06 this];exact e
    have so3:=so2.setI (i:=j) (x:=(.al,d)) (v:=v) (Rep.immK hp d him hv2);exact⟨_,h1,.inl ⟨rfl,vs,SqL.of e4⟩,pa,vs,v,rfl,rfl,e4,hv1,q _ _ _ so3 (Run.of rfl rfl) (f2.trans (Frm.drop (Same.refl _)))⟩
   ·cases e3
  ·cases e
 ·cases e
theorem zkf {i:Nat}{x:Str}{p ap cp p2 ap2 cp2 tp:Pos}{kt:Nat}{ea:Expr}{er:List Expr}{fa:Rho->Res GD}{fr:Rho->Res (List GD)}(hi:X.N[i]?=some x)(hv:Vis X.env.scope x)(hd:(x==("__debug__":Str))=false)(hcd:(x==("__classdict__":Str))=false)(hs:isStar ea=false)(ha:PE X ea (tD X.K fa))(hr:PA X er (tDA X.K fr))(hl:∀ρ ys,fr ρ=.ok ys->ys.length<=900)(hline:(ap.endLine==cp.line)=true)(hline2:(ap2.endLine==cp2.line)=true):
  PS X (.Expr (.Call (.Attribute (.Name x p) "append" ap) [.Tuple (ea::.Call (.Attribute (.Name x p2) "pop" ap2) [] [] cp2::er) kt tp] [] cp) pos) (tDS X.K (papF i fa fr)):=by
 refine PS.imp (ps_e (z7f PySem.F.plainAttrs_list PySem.F.slot_list_append PySem.F.type_list_append z2u (z1k hi hv hd hcd) (pa_c (zck (pa_c ha (pa_c (zbv PySem.F.plainAttrs_list PySem.F.slot_list_pop PySem.F.type_list_pop zbk (z1k hi hv hd hcd) rfl hline2) hr rfl) hs)) z39 rfl) rfl (z4w (es:=[.Tuple _ _ _]) rfl (by show 1<20;omega)) hline (z0g rfl) rfl) rfl) fun D σ H zz=>?_;obtain⟨ρ,F,out,so,e,q⟩:=zz;obtain⟨y,e1,e⟩:=Res.bind_ok e;split at e
 ·rename_i xs hrr;split at e
  ·rename_i d hlast;obtain⟨zs,e2,e⟩:=Res.bind_ok e;split at e
   ·rename_i hc;cases e;rw[av,av,decide_eq_true_iff]at hc;obtain⟨hlast,him⟩:=z7y hlast;obtain⟨pa,h1,hO,h⟩:=z1j so hrr;rcases h with⟨vs,ds,e3,e4,r⟩|⟨_,_,e3,_⟩
    ·cases e3;obtain⟨v,hv1,hv2⟩:=r.get hlast;rw[<-r.length]at hv1;refine⟨_,h1,.inl ⟨rfl,vs,SqL.of e4⟩,ρ,F,y,so,e1,fun u H1 s1 ru=>?_⟩;have so1:=so.same s1;have e5:=s1 _ _ e4;obtain⟨so2,f2⟩:=z7a so1 hO h1 e5 (r.front.same s1 fun _ z=>z);refine⟨_,h1,.inl ⟨rfl,vs,SqL.of e5⟩,pa,vs,v,rfl,rfl,e5,hv1,_,F,zs,so2,e2,fun us H3 s3 rs=>?_⟩;have hul:us.length<=900:=by rw[rs.len];exact hl _ _ e2
     refine⟨by rw[fg,aj,aj];omega,fun pt hpt=>?_⟩;have e6:H3 pa=some (.lst vs.dropLast):=s3 _ _ z0e;have hne:pa≠pt:=z0c e6 hpt;have e7:upd H3 pt (.tup (u::v::us)) pa=some (.lst vs.dropLast):=by rw[z06 hne];exact e6
     have so3:=so2.same (s3.trans (Same.upd (o:=.tup (u::v::us)) hpt))
     have fix1:∀a o,H1 a=some o->Fix o->upd H3 pt (.tup (u::v::us)) a=some o:=fun a o e f=>by
      have ha:a≠pa:=fun z=>by subst z;rw[e5]at e;cases e;exact f
      have e8:H3 a=some o:=s3 _ _ (by rw[z06 ha];exact e);rw[z06 (z0c e8 hpt)];exact e8
     have rf:Reps X.K (upd H3 pt (.tup (u::v::us))) (Bin F) vs.dropLast xs.dropLast:=Reps.keep (fun a o e b=>by
      have ha:a≠pa:=by
       intro z;subst z;rcases b with b|b
       ·have b1:F.O a=none:=b.1;rw[hO]at b1;cases b1
       ·rw[e5]at e;cases e;exact b
      have e8:H3 a=some o:=s3 _ _ (by rw[z06 ha];exact e);rw[z06 (z0c e8 hpt)];exact e8) (fun _ z=>z) _ (r.front.same s1 fun _ z=>z)
     have rt:Rep X.K (upd H3 pt (.tup (u::v::us))) (Bin F) (.ref pt) (.tuple (y.2::d::zs.map (·.2))):=⟨pt,u::v::us,rfl,SqT.of z0e,Reps.cons (Rep.immK fix1 y.2 hc.1.1 ru) (Reps.cons (Rep.immK fix1 d him (hv2.same s1 fun _ z=>z)) (Reps.immK (fun a o e f=>by rw[z06 (z0c e hpt)];exact e) _ hc.1.2 (rs.repsV so2.vis)))⟩;have hlv:=r.length;have hpos:0<xs.length:=by have:=(au.mp hlast).1;omega
     refine⟨pa,vs.dropLast,.ref pt,rfl,rfl,e7,z0q (by rw[i9];omega),?_⟩;obtain⟨so4,f4⟩:=z7a so3 hO h1 e7 (Reps.append rf (Reps.cons rt (show Reps X.K (upd H3 pt (.tup (u::v::us))) (Bin F) [] []from rfl)));exact q σ _ F so4 Run.refl ((((Frm.same s1).trans f2).trans (Frm.same (s3.trans (Same.upd hpt)))).trans f4)
    ·cases e3
   ·cases e
  ·cases e
 ·cases e
end
section
variable {X:Cx}{tg a b c e:Expr}{es:List Expr}{fa fb fc:Rho->Res GD}{pos:Pos}{st:Stmt}{rest A Bs:List Stmt}{fs gs:Rho->Res Out}
theorem z94 (k k':Key):eqK (kD k') (kD k)=decide (k'=k):=by
 cases k'<;>cases k
 ·rename_i a b;show(a==b)=_;rw[iz,decide_eq_decide];exact⟨fun h=>by rw[h],fun h=>Sum.inl.inj h⟩
 ·rfl
 ·rfl
 ·rename_i a b;show decide (a=b)=_;rw[decide_eq_decide];exact⟨fun h=>by rw[h],fun h=>Sum.inr.inj h⟩
theorem REs.any {K:W.Frag}{H:Hp}{B:Ad->Prop}(k:Key):∀{kvs:List (Key×V)} {es:Ents},REs K H B kvs es->(es.any fun e=>eqK e.1 (kD k))=kvs.any fun kv=>decide (kv.1=k)
 |kvs,[],r=>by have e:kvs=[]:=r;subst e;rfl
 |kvs,(kd,d)::es,r=>by obtain⟨k',v,t,e,e2,_,_,q⟩:=r;subst e e2;rw[gi,gi,q.any k,z94]
theorem REs.mapPut {K:W.Frag}{H:Hp}{B:Ad->Prop}(k:Key){v:V}{d:D}(h:Rep K H B v d):∀{kvs:List (Key×V)} {es:Ents},REs K H B kvs es->REs K H B (kvs.map fun kv=>if kv.1=k then(kv.1,v)else kv) (es.map fun e=>if eqK e.1 (kD k)then(e.1,d)else e)
 |kvs,[],r=>by have e:kvs=[]:=r;subst e;exact rfl
 |kvs,(kd,d0)::es,r=>by
  obtain⟨k',v0,t,e,e2,ok,h0,q⟩:=r;subst e e2;rw[az,az];have ih:=q.mapPut k h;by_cases z:k'=k
  ·subst z;rw[if_pos rfl,if_pos (by rw[z94];simp)];exact⟨k',v,_,rfl,rfl,ok,h,ih⟩
  ·rw[if_neg z,if_neg (by rw[z94];simpa using z)];exact⟨k',v0,_,rfl,rfl,ok,h0,ih⟩
theorem REs.app {K:W.Frag}{H:Hp}{B:Ad->Prop}{k:Key}{v:V}{d:D}(ok:keyOk k)(h:Rep K H B v d):∀{kvs:List (Key×V)} {es:Ents},REs K H B kvs es->REs K H B (kvs++[(k,v)]) (es++[(kD k,d)])
 |kvs,[],r=>by have e:kvs=[]:=r;subst e;exact⟨k,v,[],rfl,rfl,ok,h,rfl⟩
 |kvs,(kd,d0)::es,r=>by obtain⟨k',v0,t,e,e2,ok',h0,q⟩:=r;subst e e2;exact⟨k',v0,_,rfl,rfl,ok',h0,q.app ok h⟩
theorem REs.put {K:W.Frag}{H:Hp}{B:Ad->Prop}{k:Key}{v:V}{d:D}(ok:keyOk k)(h:Rep K H B v d){kvs:List (Key×V)}{es:Ents}(r:REs K H B kvs es):REs K H B (putK kvs k v) (dput es (kD k) d):=by
 unfold putK dput;rw[r.any k];split
 ·exact r.mapPut k h
 ·exact r.app ok h
def sSet (td ty tv:TE):TS:=fun D σ H=>tv σ H fun v H1=>td σ H1 fun x H2=>ty σ H2 fun y H3=>(∃a H4,x=.ref a/\DPut H3 a y v H4/\D.nx σ H4)\/zit x y v H3 fun H4=>D.nx σ H4
theorem zf6 {o i value:Expr}{pos':Pos}{td ty tv:TE}(hu:X.A.units+1<cLine)(ho:PE X o td)(hi:PE X i ty)(hv:PE X value tv)(hs:i5 value (some (.Subscript o i pos')) pos.line X.env=pure false):PS X (.Assign [.Subscript o i pos'] value pos) (sSet td ty tv):=by
 intro pins s σ H D I h;refine wpAny_Assign_Subscript (thn (hv pins s σ H _ I h) fun r s1 ⟨v,H1,I1,rv,q1⟩=>thn (ho pins s1 σ H1 _ I1 q1) fun u s2 ⟨x,H2,I2,rx,q2⟩=>thn (hi pins s2 σ H2 _ I2 q2) fun iv s3 ⟨y,H3,I3,ry,q3⟩=>?_) hs;rcases q3 with⟨a,H4,ex,g,q3⟩|q3
 ·subst ex;obtain rfl:u=Value.ref a:=rx;exact z8i hu I3 g ry rv fun s4 I4=>⟨σ,H4,I4,q3⟩
 ·exact thn (set_list pins s3 σ H3 x y v u iv r _ I3 rx ry rv q3) fun _ s4 ⟨H4,I4,q4⟩=>⟨σ,H4,I4,q4⟩
def setF (i:Nat)(fv fk:Rho->Res GD):Rho->Res Out:=fun ρ=>fv ρ>>=fun y=>fk ρ>>=fun x=>match ρ[i]? with
 |some (some (.fr,.dict es))=>if isK x.2&&okIn y&&decide (es.length<LIM)then .ok (.nx ((ρ.set i (some (.fr,.dict (dput es x.2 y.2)))).map z07))else .no
 |some (some (.fr,.list xs))=>(match x.2 with
  |.int j=>if okIn y then(match ixN xs.length j with|some n=>.ok (.nx ((ρ.set i (some (.fr,.list (xs.set n y.2)))).map z07))|none=>.no)else .no
  |_=>.no)
 |_=>.no
theorem zkv {i:Nat}{x:Str}{p pos':Pos}{ie value:Expr}{fv fk:Rho->Res GD}(hu:X.A.units+64<cLine)(hN:X.N[i]?=some x)(hv:Vis X.env.scope x)(hd:(x==("__debug__":Str))=false)(hcd:(x==("__classdict__":Str))=false)(hs:z1w value=false)(hk:PE X ie (tD X.K fk))(hva:PE X value (tD X.K fv)):
  PS X (.Assign [.Subscript (.Name x p) ie pos'] value pos) (tDS X.K (setF i fv fk)):=by
 refine PS.imp (zf6 (by omega) (z1k hN hv hd hcd) hk hva (z1v hs _ _ _)) fun D σ H zz=>?_;obtain⟨ρ,F,out,so,e,q⟩:=zz;obtain⟨y,e1,e⟩:=Res.bind_ok e;obtain⟨kx,e2,e⟩:=Res.bind_ok e;refine⟨ρ,F,y,so,e1,fun v H1 s1 rv=>?_⟩;have so1:=so.same s1;split at e
 ·rename_i es hr;split at e
  case isFalse=>cases e
  rename_i hc;cases e;rw[aw,aw,decide_eq_true_eq]at hc;obtain⟨pa,h1,hO,h⟩:=z1j so1 hr;rcases h with⟨_,_,e3,_⟩|⟨kvs,es',e3,e4,r⟩
  ·cases e3
  ·cases e3;refine⟨_,h1,ρ,F,kx,so1,e2,fun w H2 s2 rw'=>.inl ?_⟩;obtain⟨k,ek,rfl,ok⟩:=z3d hc.1.1 rw';have e5:=s2 _ _ e4;refine⟨pa,_,rfl,DPut.k e5 (by rw[r.length];exact bh hc.2 (z0q (ae _))),?_⟩
   have hk:∀a o,H2 a=some o->(Bin F (some a)\/Fix o)->upd H2 pa (.dK (putK kvs k v)) a=some o:=fun a o e b=>by
    have hap:a≠pa:=by
     intro z;subst z;rcases b with b|b
     ·have b1:F.O a=none:=b.1;rw[hO]at b1;cases b1
     ·rw[e5]at e;cases e;exact b
    rw[z06 hap];exact e
   have r':REs X.K (upd H2 pa (.dK (putK kvs k v))) (Bin F) (putK kvs k v) (dput es kx.2 y.2):=by rw[ek];exact REs.keep hk (fun _ z=>z) _ (REs.put ok (z2j so hc.1.2 (rv.same s2 fun _ z=>z)) (r.same s2 fun _ z=>z))
   obtain⟨so2,f2⟩:=(so1.same s2).mutate (o':=.dK (putK kvs k v)) (d':=.dict (dput es kx.2 y.2)) hO h1 (.inr ⟨_,rfl⟩) ⟨pa,rfl,hO,.inr ⟨_,_,rfl,z0e,r'⟩⟩;exact q σ _ F so2 Run.refl ((Frm.same (s1.trans s2)).trans f2)
 ·rename_i xs hr;split at e
  case h_2=>cases e
  rename_i j hj;split at e
  case isFalse=>cases e
  rename_i hc;split at e
  case h_2=>cases e
  rename_i n hn;cases e;obtain⟨pa,h1,hO,h⟩:=z1j so1 hr;rcases h with⟨vs,ds,e3,e4,r⟩|⟨_,_,e3,_⟩
  ·cases e3;refine⟨_,h1,ρ,F,kx,so1,e2,fun w H2 s2 rw'=>.inr ?_⟩;rw[hj]at rw';have ew:w=.int j:=rw';subst ew;have e5:=s2 _ _ e4;refine⟨pa,vs,j,n,rfl,rfl,e5,by rw[r.length];exact hn,?_⟩
   have hk:∀a o,H2 a=some o->(Bin F (some a)\/Fix o)->upd H2 pa (.lst (vs.set n v)) a=some o:=fun a o e b=>by
    have hap:a≠pa:=by
     intro z;subst z;rcases b with b|b
     ·have b1:F.O a=none:=b.1;rw[hO]at b1;cases b1
     ·rw[e5]at e;cases e;exact b
    rw[z06 hap];exact e
   have r':Reps X.K (upd H2 pa (.lst (vs.set n v))) (Bin F) (vs.set n v) (xs.set n y.2):=Reps.keep hk (fun _ z=>z) _ (Reps.set (z2j so hc (rv.same s2 fun _ z=>z)) n (r.same s2 fun _ z=>z));obtain⟨so2,f2⟩:=(so1.same s2).mutate (o':=.lst (vs.set n v)) (d':=.list (xs.set n y.2)) hO h1 (.inl ⟨_,rfl⟩) ⟨pa,rfl,hO,.inl ⟨_,_,rfl,z0e,r'⟩⟩;exact q σ _ F so2 Run.refl ((Frm.same (s1.trans s2)).trans f2)
  ·cases e3
 ·cases e
def tDF (K:W.Frag)(f:Rho->Res (G×List D×Rho)):TI:=fun σ H R=>∃ρ F w,StOk K F H σ ρ/\f ρ=.ok w/\∀J B H' F',Same H H'->Run F F'->Frm F H F' H'->StOk K F' H' σ w.2.2->(∀a,B (some a)->F'.O a=none)->(∀a,B a->BI F' w.1 a)->Walk K J B H' w.2.1->R J H'
theorem z6l {K:W.Frag}{F:Fm}{H:Hp}{σ:L2.St}{ρ:Rho}(so:StOk K F H σ ρ){a:Addr}{g:G}(hg:g≠.al)(h:BG F H g (some a)):F.O a=none:=by
 cases e1:F.O a with
 |none=>rfl
 |some j=>
  obtain⟨h0,_,h'⟩:=so.own a j e1;cases g with
  |fr=>have hb:H a=none:=h;rcases h' with⟨xs,h'⟩|⟨xs,h'⟩<;>rw[hb]at h'<;>cases h'
  |od=>exact absurd h0 h.1
  |al=>exact absurd rfl hg
  |nu=>
   rcases h with h|h
   ·have hb:H a=none:=h;rcases h' with⟨xs,h'⟩|⟨xs,h'⟩<;>rw[hb]at h'<;>cases h'
   ·have hb:F.O a=none:=h.1;rw[hb]at e1;cases e1
theorem zi6 {fw:Rho->Res (G×List D)}(hw:PI X tg e (tDW X.K fw)):PI X tg e (tDF X.K fun ρ=>fw ρ>>=fun w=>if w.1==.al then .no else .ok (w.1,w.2,ρ)):=
 PI.imp hw fun σ H R zz=>by
  obtain⟨ρ,F,w,so,e,q⟩:=zz;obtain⟨w0,e1,e⟩:=Res.bind_ok e;refine⟨ρ,F,w0,so,e1,fun J B H1 s1 hB wk=>?_⟩;split at e
  ·cases e
  ·rename_i hal;cases e;have hal':w0.1≠.al:=fun z=>hal (by rw[z];rfl);exact q J B H1 F s1 Run.refl (Frm.same s1) (so.same s1) (fun a b=>z6l so hal' (hB _ b).1) (fun a b=>BI.of so.vis (hB a b).1) wk
theorem StOk.giveUp {K:W.Frag}{F:Fm}{H:Hp}{σ:L2.St}{ρ:Rho}{i:Nat}{d:D}(so:StOk K F H σ ρ)(e:ρ[i]?=some (some (.fr,d))):StOk K (F.drop i) H σ (ρ.set i (some (.al,d))):=by
 obtain⟨v,h1,h2⟩:=so.sl i .fr d e;have:=so.setI (i:=i) (x:=(.al,d)) (v:=v) (h2.rep so.ownV)
 have es:σ.set i (some v)=σ:=by
  apply List.ext_getElem?;intro j;by_cases hj:i=j
  ·subst hj;rw[db];have hl:=(au.mp h1).1;simp only[if_true,hl];exact h1.symm
  ·rw[a9 hj]
 rw[es]at this;exact this
theorem zla {i:Nat}{x:Str}(hN:X.N[i]?=some x)(hv:Vis X.env.scope x)(hd:(x==("__debug__":Str))=false)(hcd:(x==("__classdict__":Str))=false):PI X tg (.Name x pos) (tDF X.K (zdl i)):=by
 intro pins s σ H R I h;obtain⟨ρ,F,w,so,e,q⟩:=h;unfold zdl at e;split at e
 ·rename_i d hr;obtain⟨xs,e2,e⟩:=Res.bind_ok e;cases e;obtain⟨v,h1,h2⟩:=so.sl i .fr d hr;refine thn (z1k hN hv hd hcd pins s σ H (fun u H1=>u=v/\H1=H) I ⟨v,h1,rfl,rfl⟩) fun u s1 zz=>?_;obtain⟨y,H1,I1,r1,ey,eH⟩:=zz;subst ey eH;have so':=so.giveUp hr
  let B:Ad->Prop:=fun a=>match a with|some a=>(F.drop i).O a=none/\F.V a|none=>False
  have rv:Rep X.K H1 B y d:=by
   obtain⟨p,ey,hO,h3⟩:=h2
   have hb:∀a,Bin F a->B a:=fun a b=>by
    cases a with
    |none=>exact b
    |some a=>exact⟨Fm.drop_none b.1,b.2.2⟩
   have hp:B (some p):=⟨by show(if F.O p=some i then none else F.O p)=none;rw[if_pos hO],so.ownV p i hO⟩;rcases h3 with⟨vs,ds,rfl,e4,r⟩|⟨vs,ds,rfl,e4,r⟩
   ·exact⟨p,vs,ey,.inl ⟨e4,hp⟩,r.weak hb⟩
   ·exact⟨p,vs,ey,e4,hp,REs.same (fun _ _ e=>e) hb r⟩
  refine z3v I1 r1 rv e2 fun J wk=>q J B H1 (F.drop i) (Same.refl _) (Run.of rfl rfl) (Frm.drop (Same.refl _)) so' (fun a b=>b.1) (fun a b=>?_) wk;cases a with
  |none=>exact b.elim
  |some a=>exact b.2
 ·cases e
def Fm.noL (F:Fm)(H:Hp):Fm:={F with O:=fun a=>match H a with|some (.dK _)=>F.O a|_=>none}
theorem Fm.noL_none {F:Fm}{H:Hp}{a:Addr}(h:F.O a=none):(F.noL H).O a=none:=by
 unfold Fm.noL
 dsimp only
 split<;>first|exact h|rfl
theorem StOk.noL {K:W.Frag}{F:Fm}{H:Hp}{σ:L2.St}{ρ:Rho}(so:StOk K F H σ ρ):StOk K (F.noL H) H σ (ρ.map zdt) where
 ext:=so.ext
 vis:=so.vis
 own:=fun a i e=>by
  have e':F.O a=some i:=by
   unfold Fm.noL at e
   dsimp only at e
   split at e
   ·exact e
   ·cases e
  exact so.own a i e'
 len:=by rw[ag];exact so.len
 sl:=fun i g d e=>by
  rw[bc]at e;cases h1:ρ[i]? with
  |none=>rw[h1]at e;cases e
  |some o=>
   rw[h1]at e;have e':zdt o=some (g,d):=by simpa using e
   cases o with
   |none=>cases e'
   |some gd=>
    obtain⟨g0,d0⟩:=gd;obtain⟨v,h2,h3⟩:=so.sl i g0 d0 h1;refine⟨v,h2,?_⟩
    have hb:∀a,Bin F a->Bin (F.noL H) a:=fun a b=>by
     cases a with
     |none=>exact b
     |some a=>exact⟨Fm.noL_none b.1,b.2.1,b.2.2⟩
    cases g0 with
    |od=>cases e';exact h3
    |al=>cases e';exact h3
    |nu=>cases e';exact Rep.weak hb h3
    |fr=>
     obtain⟨p,ev,hO,h4⟩:=id h3;rcases h4 with⟨vs,ds,rfl,e4,r⟩|⟨kvs,es,rfl,e4,r⟩
     ·have e2:some (G.al,PyData.list ds)=some (g,d):=e';cases e2;have h5:Rep K H (visA F) v (.list ds):=Slot.rep (F:=F) so.ownV h3;exact h5
     ·have e2:some (G.fr,PyData.dict es)=some (g,d):=e';cases e2;refine⟨p,ev,?_,.inr ⟨kvs,es,rfl,e4,REs.same (fun _ _ z=>z) hb r⟩⟩;unfold Fm.noL
      dsimp only
      rw[e4];exact hO
theorem f_al {fa:Rho->Res GD}(ha:PE X e (tD X.K fa)):PI X tg e (tDF X.K fun ρ=>fa ρ>>=fun x=>evAl x ρ):=by
 intro pins s σ H R I h;obtain⟨ρ,F,w,so,e0,q⟩:=h;obtain⟨x,e1,e0⟩:=Res.bind_ok e0;obtain⟨g,d⟩:=x;unfold evAl at e0
 dsimp only at e0
 split at e0
 ·rename_i xs;split at e0
  ·rename_i hi;cases e0;refine thn (ha pins s σ H (fun v H1=>Same H H1/\Rep X.K H1 (BG F H g) v (.list xs)) I ⟨ρ,F,_,so,e1,fun v H1 s1 rv=>⟨s1,rv⟩⟩) fun v s1 zz=>?_;obtain⟨y,H1,I1,r1,s1',rv⟩:=zz;have so1:=(so.same s1').noL
   let B:Ad->Prop:=fun a=>match a with|some a=>(F.noL H1).O a=none/\F.V a|none=>True
   have rv':Rep X.K H1 B y (.list xs):=by
    obtain⟨p,vs,ey,h,r⟩:=rv;refine⟨p,vs,ey,?_,Reps.immB xs hi r⟩;rcases h with⟨h,b⟩|⟨h,b⟩
    ·refine .inl ⟨h,?_,(BG.vis so.vis b:visA F (some p))⟩;unfold Fm.noL
     dsimp only
     rw[h]
    ·exact .inr ⟨h,trivial⟩
   refine z3v I1 r1 rv' rfl fun J wk=>q J B H1 (F.noL H1) s1' (Run.of rfl rfl) (fun a o e n=>⟨s1' a o e,Fm.noL_none n⟩) so1 (fun a b=>b.1) (fun a b=>?_) wk;cases a with
   |none=>exact True.intro
   |some a=>exact b.2
  ·cases e0
 ·cases e0
theorem PI.orD {f g:Rho->Res (G×List D×Rho)}{k:Rho->Bool}(hf:PI X tg e (tDF X.K f))(hg:PI X tg e (tDF X.K g)):PI X tg e (tDF X.K fun ρ=>if k ρ then f ρ else g ρ):=by
 intro pins s σ H R I h;obtain⟨ρ,F,w,so,e,q⟩:=h
 dsimp only at e
 cases hk:k ρ with
 |true=>exact hf pins s σ H R I ⟨ρ,F,w,so,by rw[if_pos hk]at e;exact e,q⟩
 |false=>exact hg pins s σ H R I ⟨ρ,F,w,so,by rw[if_neg (by rw[hk];exact bn)]at e;exact e,q⟩
theorem zk5 {t:Tg}{iter:Expr}{body:List Stmt}{fw:Rho->Res (G×List D×Rho)}(hp:dh (model X.prog X.w) X.A X.env X.xe)(hc:X.calm=true)(hi:PI X tg iter (tDF X.K fw))(hg:PG X tg (tDG X.K t))(hb:PSs X body (tDS X.K fs))(hs:∀x,c8 iter X.env x=pure x):
  PS X (.For tg iter body [] pos) (tDS X.K fun ρ=>fw ρ>>=fun w=>forD (fun x ρ1=>z0x t (gJ x w.1,x) ρ1>>=fun ρ2=>fs ρ2) w.2.1 w.2.2):=
 PS.imp (zc7 hp hc hi hg hb hs) fun D σ H zz=>by
  obtain⟨ρ,F,out,so,e,q⟩:=zz;obtain⟨w,e1,e⟩:=Res.bind_ok e;refine⟨ρ,F,w,so,e1,fun J B H1 F1 s1 r1 f1 so1 hBo hBi wk=>?_⟩;have q1:z4g X.K F1 H1 D out:=q.back r1 f1;generalize hf:(fun x ρ1=>z0x t (gJ x w.1,x) ρ1>>=fun ρ2=>fs ρ2)=f at e
  have kp:∀{F2:Fm} {H2:Hp},Frm F1 H1 F2 H2->Kp B H1 H2:=fun{F2 H2} fr a o e b=>by
   have hO:F1.O a=none:=by
    rcases b with b|b
    ·exact hBo a b
    ·cases e2:F1.O a with
     |none=>rfl
     |some j=>obtain⟨_,_,h'⟩:=so1.own a j e2;rcases h' with⟨xs,h'⟩|⟨xs,h'⟩<;>rw[e]at h'<;>cases h'<;>exact b.elim
   exact(fr a o e hO).1
  let W:Nat->Nat->L2.St->Hp->Prop:=fun i m σ2 H2=>m=w.2.1.length-i/\i<=w.2.1.length/\∃ρ2 F2,StOk X.K F2 H2 σ2 ρ2/\Run F1 F2/\Frm F1 H1 F2 H2/\forD f (w.2.1.drop i) ρ2=.ok out
  refine⟨W,⟨_,rfl,df _,w.2.2,F1,so1,Run.refl,Frm.refl,e⟩,?_⟩
  rintro i m σ2 H2 ⟨rfl,hile,ρ2,F2,so2,r2,f2,e2⟩
  by_cases hlt:i<w.2.1.length
  ·refine .inr ⟨wk.go H2 (kp f2) i hlt,W (i+1) (w.2.1.length-(i+1)),fun σ' H' p=>⟨_,by omega,p⟩,fun x H3 y=>?_⟩;obtain⟨s3,d,hd,rx⟩:=wk.yld H2 (kp f2) i x H3 hlt y
   have hdr:w.2.1.drop i=d::w.2.1.drop (i+1):=by
    have dc:=jp hlt;rw[dc];have:w.2.1[i]=d:=by rw[bg hlt]at hd;exact Option.some.inj hd
    rw[this]
   rw[hdr]at e2;simp only[forD]at e2;have so3:=so2.same s3
   have rx':Rep X.K H3 (BI F2 (gJ d w.1)) x d:=by
    have hBI:∀g a,BI F1 g a->BI F2 g a:=fun g a b=>by cases g<;>cases a<;>first|exact b|(have b':F1.V _:=b;rw[<-r2.2]at b';exact b')|(have b':F1.H0 _≠none/\F1.V _:=b;exact⟨fun z=>b'.1 (none_of r2.1 z),by rw[r2.2];exact b'.2⟩)
    unfold gJ;by_cases hi:imm d=true
    ·rw[if_pos hi];exact Rep.immB d hi rx
    ·rw[if_neg hi];exact rx.weak fun a b=>hBI _ _ (hBi a b)
   cases e3:f d ρ2 with
   |no=>rw[e3]at e2;cases e2
   |exc z=>rw[e3]at e2;cases e2
   |ok o1=>
    have e3':(z0x t (gJ d w.1,d) ρ2>>=fun ρ3=>fs ρ3)=.ok o1:=by rw[<-e3,<-hf]
    obtain⟨ρ3,e4,e5⟩:=Res.bind_ok e3';rw[e3]at e2;refine⟨ρ2,F2,(gJ d w.1,d),ρ3,so3,rx',e4,fun σ4 F4 so4 kps=>⟨ρ3,F4,o1,so4,e5,?_⟩⟩;have r4:Run F1 F4:=r2.trans (Run.of kps.h0 kps.v);have f4:Frm F1 H1 F4 H3:=f2.trans fun a o e n=>⟨s3 a o e,kps.o a n⟩;cases o1 with
    |nx ρ5=>exact fun σ' H' F' so' r' f'=>⟨rfl,hlt,ρ5,F',so',r4.trans r',f4.trans f',e2⟩
    |ct ρ5=>exact fun σ' H' F' so' r' f'=>⟨rfl,hlt,ρ5,F',so',r4.trans r',f4.trans f',e2⟩
    |bk ρ5=>cases e2;exact fun σ' H' F' so' r' f'=>q1 σ' H' F' so' (r4.trans r') (f4.trans f')
    |rt g d=>cases e2;exact(q1.back r4 f4:z4g X.K F4 H3 D (.rt g d))
  ·have hie:i=w.2.1.length:=by omega
   subst hie;rw[List.drop_length]at e2;cases e2;exact .inl ⟨wk.stop H2 (kp f2),q1 σ2 H2 F2 so2 r2 f2⟩
theorem zfc {body:List Stmt}{ft:Rho->Res Bool}{n:Nat}(hp:dh (model X.prog X.w) X.A X.env X.xe)(hc:PT X c (tDT X.K ft))(hb:PSs X body (tDS X.K fs)):PS X (.While c body [] pos) (tDS X.K (whD ft fs n)):=
 PS.imp (zaa hp hc hb) fun D σ H zz=>by
  obtain⟨ρ,F,out,so,e,q⟩:=zz
  let W:Nat->L2.St->Hp->Prop:=fun m σ2 H2=>∃ρ2 F2,StOk X.K F2 H2 σ2 ρ2/\Run F F2/\Frm F H F2 H2/\whD ft fs m ρ2=.ok out
  refine⟨W,⟨n,ρ,F,so,Run.refl,Frm.refl,e⟩,?_⟩
  rintro m σ2 H2 ⟨ρ2,F2,so2,r2,f2,e2⟩
  cases m with
  |zero=>cases e2
  |succ m=>
   obtain⟨k,e3,e2⟩:=Res.bind_ok e2;refine⟨ρ2,F2,k,so2,e3,fun H3 s3=>?_⟩;have f3:Frm F H F2 H3:=f2.trans (Frm.same s3);cases k with
   |false=>cases e2;exact iteF (q σ2 H3 F2 (so2.same s3) r2 f3)
   |true=>
    refine iteT ⟨W m,fun σ' H' p=>⟨m,j7 m,p⟩,?_⟩
    have e2:(match fs ρ2 with
     |.ok (.nx ρ')=>whD ft fs m ρ'
     |.ok (.ct ρ')=>whD ft fs m ρ'
     |.ok (.bk ρ')=>.ok (.nx ρ')
     |.ok (.rt g d)=>.ok (.rt g d)
     |.exc e=>.exc e
     |.no=>.no)=.ok out:=e2
    cases e4:fs ρ2 with
    |no=>rw[e4]at e2;cases e2
    |exc z=>rw[e4]at e2;cases e2
    |ok o1=>
     rw[e4]at e2;refine⟨ρ2,F2,o1,so2.same s3,e4,?_⟩;cases o1 with
     |nx ρ5=>exact fun σ' H' F' so' r' f'=>⟨ρ5,F',so',r2.trans r',f3.trans f',e2⟩
     |ct ρ5=>exact fun σ' H' F' so' r' f'=>⟨ρ5,F',so',r2.trans r',f3.trans f',e2⟩
     |bk ρ5=>cases e2;exact fun σ' H' F' so' r' f'=>q σ' H' F' so' (r2.trans r') (f3.trans f')
     |rt g d=>cases e2;exact(q.back r2 f3:z4g X.K F2 H3 D (.rt g d))
end
def rAgg (K:W.Frag)(f:String):List V->Hp->VK->Prop:=fun xs H Q=>∃B x dx l ys d,xs=[x]/\Rep K H B x dx/\z4e dx=.ok (l,ys)/\aggD f l ys=.ok d/\∀w H',Same H H'->Rep K H' (fun a=>nw H a\/(imms ys=false/\B a)) w d->Q w H'
theorem z47 {K:W.Frag}{H:Hp}{B:Ad->Prop}{x:V}{dx:D}{l:Bool}{ys:List D}(r:Rep K H B x dx)(e:z4e dx=.ok (l,ys)):∃a vs,x=.ref a/\(if l then SqL K H a vs else SqT K H a vs)/\Reps K H B vs ys:=by
 cases dx<;>try (cases e;done)
 ·cases e;obtain⟨a,vs,rfl,h,q⟩:=z1d r;exact⟨a,vs,rfl,h,q⟩
 ·cases e;obtain⟨a,vs,rfl,h,q⟩:=r;exact⟨a,vs,rfl,h,q⟩
theorem Reps.aggB {K:W.Frag}{H:Hp}{B:Ad->Prop}{vs:List V}{ys:List D}(r:Reps K H B vs ys):Reps K H (fun a=>nw H a\/(imms ys=false/\B a)) vs ys:=by
 cases hi:imms ys with
 |true=>exact Reps.immB ys hi r
 |false=>exact r.weak fun _ z=>.inr ⟨rfl,z⟩
section
variable {X:Cx}{e:Expr}{fa:Rho->Res GD}{pos:Pos}
theorem zg5 {f:String}{ρ:Rho}{F:Fm}{z:GD}{σ:L2.St}{H:Hp}{Q:VK}(so:StOk X.K F H σ ρ)(e:((fa ρ>>=fun x=>z4e x.2>>=fun p=>Res.ok (x.1,p))>>=fun w=>aggD f w.2.1 w.2.2>>=fun d=>Res.ok ((gJ d (if imms w.2.2 then .fr else agG w.1),d):GD))=.ok z)(q:∀v H',Same H H'->Rep X.K H' (BG F H z.1) v z.2->Q v H'):
  tCB (rAgg X.K f) (zdh (tD X.K fa) tNil) σ H Q:=by
 obtain⟨w,e0,e⟩:=Res.bind_ok e;obtain⟨x,e1,e0⟩:=Res.bind_ok e0;obtain⟨p,e2,e0⟩:=Res.bind_ok e0;cases e0;obtain⟨d,e3,e⟩:=Res.bind_ok e;cases e;refine⟨ρ,F,x,so,e1,fun v H1 s1 rv=>⟨_,v,x.2,p.1,p.2,d,rfl,rv,e2,e3,fun w' H2 s2 rw'=>q w' H2 (s1.trans s2) (z2c rw' fun a h=>?_)⟩⟩
 dsimp only
 cases hi:imms p.2 with
 |true=>
  rw[if_pos rfl];rcases h with h|⟨h,_⟩
  ·exact nw.back s1 h
  ·rw[hi]at h;cases h
 |false=>
  rw[if_neg bn]
  have al:visA F a:=by
   rcases h with h|⟨_,h⟩
   ·exact(nw.back s1 h).vis so.vis
   ·exact h.vis so.vis
  cases hg:x.1 with
  |fr=>
   rcases h with h|⟨_,h⟩
   ·exact nw.back s1 h
   ·rw[hg]at h;exact h
  |od=>exact al
  |al=>exact al
  |nu=>
   rcases h with h|⟨_,h⟩
   ·exact .inl (nw.back s1 h)
   ·rw[hg]at h;exact h
theorem zib:CallR X (.type "list") (rAgg X.K "list"):=by
 refine CallR.imp z4k fun xs H Q h=>?_;obtain⟨B,x,dx,l,ys,d,rfl,r,e,e2,q⟩:=h;obtain⟨a,vs,rfl,h,rs⟩:=z47 r e;simp only[aggD,if_true]at e2;cases e2
 have h':SqL X.K H a vs\/SqT X.K H a vs:=by
  cases l with
  |true=>exact .inl h
  |false=>exact .inr h
 refine⟨a,vs,rfl,h',fun p hp=>q _ _ (Same.upd hp) (z1i hp rs.aggB (fun _ z=>z) (.inl hp))⟩
theorem ze1:CallR X (.type "tuple") (rAgg X.K "tuple"):=by
 refine CallR.imp z3g fun xs H Q h=>?_;obtain⟨B,x,dx,l,ys,d,rfl,r,e,e2,q⟩:=h;obtain⟨a,vs,rfl,h,rs⟩:=z47 r e;simp only[aggD,show("tuple":String)≠"list" by decide,if_true,if_false]at e2;cases e2;refine⟨a,vs,rfl,?_⟩;cases l with
 |true=>exact .inl ⟨h,fun p hp=>q _ _ (Same.upd hp) (z2k hp rs.aggB fun _ z=>z)⟩
 |false=>exact .inr ⟨h,q _ H (Same.refl H) ⟨a,vs,rfl,h,rs.aggB⟩⟩
theorem zbm {f:String}{x:Str}{p:Pos}{y:Expr}(hc:CallR X (.type f) (rAgg X.K f))(hm:X.mg x=none)(hv:ck x=some (.type f))(hs:isStar y=false)(ha:PE X y (tD X.K fa))(hg:Gl X x)(hn:x≠"__name__")(hdb:(x==("__debug__":Str))=false):
  PE X (.Call (.Name x p) [y] [] pos) (tD X.K fun ρ=>(fa ρ>>=fun x=>z4e x.2>>=fun p=>Res.ok (x.1,p))>>=fun w=>aggD f w.2.1 w.2.2>>=fun d=>.ok (gJ d (if imms w.2.2 then .fr else agG w.1),d)):=
 PE.imp (ze5 hc hm hv (pa_c ha z39 hs) (by simp[hs]) hg hn hdb) fun σ H Q ⟨ρ,F,z,so,e,q⟩=>zg5 so e q
end
end Mi
namespace Mi
open PySem PySem.Spec
structure NoKeys (T id:String):Prop where
 own:PySem.Slot T "__getattribute__" id
 entry:entryFor table id=some Builtin.«object.__getattribute__»
 two:∀a b:Value,argsOk id {pos:=[a,b]}
 rest:typeLookup (.type T) "__getattr__"=pure none
 miss:∀(a:Addr) (xs:Array Value) (k:Nat) (sl:Array (Option Value)) (u:Tok),Meets (Builtin.«object.__getattribute__» {pos:=[.ref a,.str "keys" u]}) fun A R s=>s.heap.get? a=some {cls:=.type T,data:=.seq xs k,slots:=sl}/\raisesAttr (.ref a) "keys" A R s
theorem NoKeys.ask {T id:String}(N:NoKeys T id){prog:ao}{w:World}{A:ce}{E:Value->aa->Prop}{s:aa}{a:Addr}{o:Obj}{xs:Array Value}{k:Nat}{Q:Option Value->aa->Prop}
  (hx:s.heap.get? a=some o) (hc:o.cls=.type T) (hdat:o.data=.seq xs k) (hd:o.dict=none) (hA:A.handled=none)
  (h:∀h' tk e,Heap.NewExcOf s.heap h' e "AttributeError"->Q none {s with heap:=h',toks:=tk}):
  wpAny (model prog w) A (getAttr? (.ref a) "keys") Q E s:=by
 cases o;cases hc;cases hdat;cases hd;cases s;rename_i slots heap gens drawn toks os;have ty:∀t,(⟨heap,gens,drawn,t,os⟩:aa).TypeIs (.ref a) T:=fun t=>⟨_,hx,rfl⟩;have isA:=sub_AttributeError;have n1:=N.own.lookup;have n2:=N.own.bind (.ref a);have n3:=N.rest
 delta getAttr? getAttrBy? getAttrBy
 repeat' (first|assumption|exact ty _|(apply kq N.own (ty _) N.entry (N.two _ _) (N.miss a xs k slots _))|wp_step)
 refine⟨hx,hA,fun hp2 tk2 ex nx=>?_⟩;obtain⟨t2,u2,there⟩:=nx.there;have fin:=fun t=>h _ t _ nx.of
 dsimp only[wants]
 delta getattributeRaised
 repeat' (first|assumption|apply fin|wp_step)
end Mi
namespace Mi
open PySem PySem.Spec PyProof.Rows L2
namespace F
end F
section
variable {X:Cx}{pins:List (Addr×Obj)}{σ:L2.St}
end
end Mi
namespace Mi
open PySem PySem.Spec PyProof.Rows PySem.W
section
variable (key:Nat->Nat)
def Kp' (p:Array Nat)(i:Nat):Nat:=key (p.getD i 0)
variable {key}
def Asc (key:Nat->Nat)(p:Array Nat)(m:Nat):Prop:=∀i,1<=i->i<m->Kp' key p (i-1)<=Kp' key p i
theorem Asc.le {p:Array Nat}{m:Nat}(h:Asc key p m):∀(d i:Nat),i+d<m->Kp' key p i<=Kp' key p (i+d)
 |0,i,_=>ae _
 |d+1,i,hm=>by
  have h1:=Asc.le h d i (by omega);have h2:=h (i+d+1) (by omega) (by omega);have e:i+d+1-1=i+d:=by omega
  rw[e]at h2;exact bq h1 h2
end
def z6o {α:Type}(n:Nat)(Q:α->Prop):KasT α->Prop
 |.ret a=>Q a
 |.ask i j k=>i<n/\j<n/\∀b,z6o n Q (k b)
theorem z6o.bind {α β:Type}{n:Nat}{Q:α->Prop}{R:β->Prop}{f:α->KasT β}(hf:∀a,Q a->z6o n R (f a)):∀{t:KasT α},z6o n Q t->z6o n R (t.bind f)
 |.ret a,h=>hf a h
 |.ask i j k,h=>⟨h.1,h.2.1,fun b=>z6o.bind hf (h.2.2 b)⟩
def AllIn (n:Nat)(p:Array Nat):Prop:=0<n/\∀x∈p,x<n
theorem AllIn.get {n:Nat}{p:Array Nat}(h:AllIn n p)(i:Nat):p.getD i 0<n:=by
 rw[Array.getD_eq_getD_getElem?];cases e:p[i]? with
 |none=>exact h.1
 |some x=>exact h.2 x (Array.mem_of_getElem? e)
structure OrdOn (p:D->Prop):Prop where
 irr:∀x,p x->ltD x x=false
 tr:∀x y z,p x->p y->p z->ltD x y=true->ltD y z=true->ltD x z=true
 ntr:∀x y z,p x->p y->p z->ltD x z=true->ltD x y=true\/ltD y z=true
 tot:∀x y,p x->p y->ltD x y=false->ltD y x=false->x=y
section
variable {p:D->Prop}(O:OrdOn p)
include O
end
end Mi
namespace Mi
open PySem PySem.Spec PyProof.Rows L2 PySem.W
section
variable {prog:ao}{w:World}{A:ce}{E:Value->aa->Prop}{s:aa}{b:Bool}{x y:D}{u v:Value}{Q:Bool->aa->Prop}
end
theorem z0u.some {P:ao}{w:World}{H:Hp}{h:Heap}{a:Addr}{o:HO}(x:z0u P w H h a o):∃q,h.get? a=some q:=by
 cases o with
 |lst xs=>obtain⟨_,_,_,_,e⟩:=x;exact⟨_,e⟩
 |tup xs=>obtain⟨_,_,_,_,e⟩:=x;exact⟨_,e⟩
 |dK kvs=>obtain⟨_,_,_,_,o,_,_,e,_⟩:=x;exact⟨_,e⟩
 |dT kvs=>obtain⟨_,_,_,_,o,_,_,e,_⟩:=x;exact⟨_,e⟩
 |set S n=>obtain⟨ob,es,ep,t,e,c⟩:=x;exact⟨_,e⟩
 |ins C dx fs=>obtain⟨d,z,ne,e,_⟩:=x;exact⟨_,e⟩
 |own y=>exact x
 |xd fs=>obtain⟨mA,⟨od,es,ep,e,c⟩,r⟩:=x;exact⟨_,e⟩
 |rng lo hi=>obtain⟨t,u,v,e⟩:=x;exact⟨_,e⟩
 |frz ob u=>exact⟨_,x.1⟩
 |tbl ps=>exact⟨_,x⟩
 |met f y=>exact⟨_,x⟩
 |ext φ=>obtain⟨p,⟨o,e⟩,st⟩:=x;exact⟨_,e⟩
section
variable {X:Cx}
end
section
variable {X:Cx}
end
end Mi
namespace Mi
open PySem PySem.Spec PyProof.Rows L2
section
variable {X:Cx}
end
section
variable {X:Cx}{pins pins0:List (Addr×Obj)}{σ σ0:L2.St}{H H0:Hp}{s s0:aa}{d:Addr}{o:Obj}{kvs kvs0:List (Key×V)}
end
section
variable {X:Cx}{pins:List (Addr×Obj)}{σ:L2.St}{H:Hp}{s:aa}
end
theorem z72 {P:ao}{w:World}{k:Key}{u:Value}(h:(z0n P w).is k u=true):RelV (kV k) u:=by
 rw[z6s]at h;rcases z0l h with⟨i,t,rfl,rfl⟩|⟨x,t,rfl,rfl⟩
 ·exact⟨t,rfl⟩
 ·exact⟨t,rfl⟩
theorem REs.at {K:W.Frag}{H:Hp}{B:Ad->Prop}:∀{kvs:List (Key×V)} {es:Ents} {i:Nat} {k:Key} {v:V},REs K H B kvs es->kvs[i]?=some (k,v)->∃d,es[i]?=some (kD k,d)/\keyOk k/\Rep K H B v d
 |kvs,[],i,k,v,r,e=>by have:kvs=[]:=r;subst this;simp at e
 |kvs,(kd,d)::es,i,k,v,r,e=>by
  obtain⟨k',v',t,rfl,rfl,ok,h1,h2⟩:=r;cases i with
  |zero=>rw[List.getElem?_cons_zero]at e ⊢;cases e;exact⟨d,rfl,ok,h1⟩
  |succ i=>rw[ip]at e ⊢;exact REs.at h2 e
theorem zg9 {K:W.Frag}{H:Hp}{B:Ad->Prop}{k:Key}(ok:keyOk k):Rep K H B (kV k) (kD k):=by
 cases k with
 |inl i=>exact rfl
 |inr x=>exact⟨rfl,ok⟩
section
variable {X:Cx}
end
section
variable {X:Cx}
def compI (i nt:Nat)(t:Tg)(fc:Rho->Res Bool)(fe:Rho->Res GD):Rho->Res GD:=fun ρ=>match ρ[i]? with
 |some (some (_,.dict es))=>if immE es&&decide (es.length<=LIM)then z6q nt [] t (fun _=>.ok (.al,es.map ent)) fc fe []else .no
 |_=>.no
theorem z7r {K:W.Frag}{F:Fm}{H:Hp}{σ:L2.St}{ρ:Rho}{i:Nat}{g:G}{es:Ents}(so:StOk K F H σ ρ)(e:ρ[i]?=some (some (g,.dict es))):∃d kvs B,σ[i]?=some (some (.ref d))/\H d=some (.dK kvs)/\F.V d/\REs K H B kvs es:=by
 obtain⟨v,h1,h2⟩:=so.sl i g _ e;cases g with
 |fr=>
  obtain⟨p,rfl,ho,h⟩:=h2;rcases h with⟨_,_,z,_⟩|⟨kvs,es',z,h3,r⟩
  ·cases z
  ·cases z;exact⟨p,kvs,_,h1,h3,(so.own p i ho).2.1,r⟩
 |od=>obtain⟨p,kvs,rfl,h3,b,r⟩:=h2;exact⟨p,kvs,_,h1,h3,b.2,r⟩
 |al=>obtain⟨p,kvs,rfl,h3,b,r⟩:=h2;exact⟨p,kvs,_,h1,h3,b,r⟩
 |nu=>obtain⟨p,kvs,rfl,h3,b,r⟩:=h2;exact⟨p,kvs,_,h1,h3,b.2.2,r⟩
end
section
variable {X:Cx}{pins:List (Addr×Obj)}{σ:L2.St}{H:Hp}{s:aa}
end
end Mi
namespace Mi
open PySem PySem.Spec PyProof.Rows L2 PySem.W
section
variable {X:Cx}{pins:List (Addr×Obj)}{σ:L2.St}{H:Hp}{s:aa}
end
section
variable {X:Cx}
end
end Mi
namespace Mi
open PySem PySem.Spec PyProof.Rows L2
section
variable {X:Cx}
end
end Mi
namespace Mi
open PySem PySem.Spec PyProof.Rows L2 PySem.W
theorem z4y {P:ao}{w:World}:∀{kvs:List (Key×V)} {vs:List (Key×Value)} {us:List Value},KV kvs vs->us.length=vs.length->(∀(j:Nat) u,us[j]?=some u->∃k x,vs[j]?=some (k,x)/\(z0n P w).is k u=true)->Vals (kvs.map fun kv=>kV kv.1) us
 | [],_,us,.nil,hl,_=>by cases dj hl;exact .nil
 |(k,v)::kvs,_::vs,us,.cons hq t,hl,h=>by
  cases us with
  |nil=>cases hl
  |cons u us=>obtain⟨k',x,e,hk⟩:=h 0 u rfl;cases e;have hk1:k=k':=hq.1;subst hk1;exact .cons (z72 hk) (z4y t (by simpa using hl) fun j u e=>by simpa using h (j+1) u (by simpa using e))
theorem REs.keys {K:W.Frag}{H:Hp}{B B':Ad->Prop}:∀{kvs:List (Key×V)} {es:Ents},REs K H B kvs es->Reps K H B' (kvs.map fun kv=>kV kv.1) (es.map (·.1))
 |kvs,[],r=>by have e:kvs=[]:=r;subst e;exact rfl
 |kvs,(kd,d)::es,r=>by obtain⟨k,v,t,e,e2,ok,h,q⟩:=r;subst e e2;exact Reps.cons (zg9 ok) q.keys
section
variable {X:Cx}
end
section
variable {X:Cx}{a b:Expr}{pos:Pos}{fa fb:Rho->Res GD}
def rLK (K:W.Frag):List V->Hp->VK->Prop:=fun xs H Q=>∃d kvs es B,xs=[.ref d]/\H d=some (.dK kvs)/\REs K H B kvs es/\es.length<=LIM/\∀w H',Same H H'->Rep K H' (nw H) w (.list (es.map (·.1)))->Q w H'
theorem zcq (hc:X.calm=true):CallR X (.type "list") (rLK X.K):=by intro pins s σ H xs us Q I r h;obtain⟨d,kvs,es,B,rfl,hd,rs,hl,q⟩:=h;obtain⟨u,rfl,ru⟩:=vals1 r;cases ru;obtain⟨hz,hsys,vs,rel,o,es',ep,ho,hcx,hdat,r3⟩:=zeb I.hok hd;have hat:s.heap.DictAt (z0n X.prog X.w) d vs ep:=⟨o,es',ho,hcx,hdat,r3⟩;have lk:kvs.length=vs.length:=rel.length;have le:kvs.length=es.length:=rs.length;refine kdl_call (kdl_dict (knd:=z0n X.prog X.w) (kvs:=vs) (ep:=ep) hsys) (I.ok.hd hc) hat (by omega) fun h' tk acc c hk hS hacc=>?_;have rv:Vals (kvs.map fun kv=>kV kv.1) acc.toList:=z4y rel (by rw[cw];exact hacc.1) fun j u e=>hacc.2 j u (by rw[<-iy];exact e);have hD:H s.heap.objs.size=none:=I.hok.fresh (ae _);have I3:=I.laid (a:=s.heap.objs.size) (o:=.lst (kvs.map fun kv=>kV kv.1)) (t':=tk) (h':=h') hk (ae _) ⟨by rw[ag];omega,acc.toList,c,rv,by simpa using hS⟩;exact⟨.ref s.heap.objs.size,_,I3,rfl,q _ _ (Same.upd hD) (z1i hD (REs.keys (B':=nw H) rs) (fun _ z=>z) hD)⟩
theorem d_lk {i:Nat}{f x:Str}{p p2:Pos}(hc:X.calm=true)(hm:X.mg f=none)(hb:ck f=some (.type "list"))(hg:Gl X f)(hn:f≠"__name__")(hfd:(f==("__debug__":Str))=false)
  (hN:X.N[i]?=some x) (hv:Vis X.env.scope x) (hdb:(x==("__debug__":Str))=false) (hcd:(x==("__classdict__":Str))=false):
  PE X (.Call (.Name f p) [.Name x p2] [] pos) (tD X.K fun ρ=>match ρ[i]? with
   |some (some (_,.dict es))=>if decide (es.length<=LIM)then .ok (.fr,.list (es.map (·.1)))else .no
   |_=>.no):=
 PE.imp (ze5 (zcq hc) hm hb (pa_c (z1k hN hv hdb hcd) z39 rfl) rfl hg hn hfd) fun σ H Q zz=>by
  obtain⟨ρ,F,z,so,e,q⟩:=zz
  dsimp only at e
  split at e
  case h_2=>cases e
  rename_i g es hr;split at e
  case isFalse=>cases e
  rename_i hcond;cases e;obtain⟨d,kvs,B,hσ,hH,hV,rs⟩:=z7r so hr;exact⟨_,hσ,d,kvs,es,B,rfl,hH,rs,ny hcond,fun w H' sm rw'=>q w H' sm rw'⟩
theorem d_d1 (ha:PE X a (tD X.K fa))(hb:PE X b (tD X.K fb)):PE X (.Dict [some a] [b] pos) (tD X.K fun ρ=>fa ρ>>=fun x=>fb ρ>>=fun y=>if isK x.2&&imm y.2 then .ok (.fr,.dict [(x.2,y.2)])else .no):=
 PE.imp (ze7 (z9o ha hb zed) rfl rfl (by simp) (by simp)) fun σ H Q zz=>by
  obtain⟨ρ,F,z,so,e,q⟩:=zz;obtain⟨x,e1,e⟩:=Res.bind_ok e;obtain⟨y,e2,e⟩:=Res.bind_ok e;split at e
  ·rename_i hc;cases e;rw[av]at hc;intro p hp;have s0:Same H (upd H p (.dK [])):=Same.upd hp;refine⟨ρ,F,x,so.same s0,e1,fun u H1 s1 ru=>⟨ρ,F,y,so.same (s0.trans s1),e2,fun w H2 s2 rw'=>?_⟩⟩;obtain⟨k,ek,ek2,ok⟩:=z3d hc.1 ru;subst ek2;have e5:H2 p=some (.dK []):=s2 _ _ (s1 _ _ z0e);refine⟨e5,[(k,w)],rfl,by simp,q _ _ (fun a o e=>?_) ⟨p,[(k,w)],rfl,z0e,hp,⟨k,w,[],rfl,ek,ok,Rep.immK (fun a o e f=>?_) y.2 hc.2 rw',rfl⟩⟩⟩
   ·have hap:=z0c e hp;rw[z06 hap];exact s2 _ _ (s1 _ _ (by rw[z06 hap];exact e))
   ·have hap:a≠p:=fun z=>by subst z;rw[e5]at e;cases e;exact f
    rw[z06 hap];exact e
  ·cases e
end
section
variable {X:Cx}
end
end Mi
namespace Mi
open PySem PySem.Spec PyProof.Rows L2
section
variable {X:Cx}{tg a b c e:Expr}{es:List Expr}{fa fb:Rho->Res GD}{pos:Pos}
theorem zkg {x:Str}{T:String}{m:List D->Res D}{fs:Rho->Res (List GD)}{p:Pos}(hc:CallR X (.type T) (z9r X.K m))(hm:X.mg x=none)(hv:ck x=some (.type T))(ha:PA X (e::es) (tDA X.K fs))(hst:((e::es).all fun e=>!isStar e)=true)(hg:Gl X x)(hn:x≠"__name__")(hdb:(x==("__debug__":Str))=false):
  PE X (.Call (.Name x p) (e::es) [] pos) (tD X.K fun ρ=>fs ρ>>=fun ys=>m (ys.map (·.2))>>=fun d=>.ok (gJ d .al,d)):=by
 refine PE.imp (ze5 hc hm hv ha hst hg hn hdb) fun σ H Q hq=>?_;obtain⟨ρ,F,z,so,e0,q⟩:=hq;obtain⟨ys,e1,e0⟩:=Res.bind_ok e0;obtain⟨d,e2,e0⟩:=Res.bind_ok e0;cases e0;exact⟨ρ,F,ys,so,e1,fun vs H1 s1 rs=>⟨_,_,d,rs.repsV so.vis,e2,fun w H2 s2 rw'=>q w H2 (s1.trans s2) (z2c rw' fun a h=>h.elim (fun z=>(nw.back s1 z).vis so.vis) fun z=>z)⟩⟩
theorem z9c (i:Int):PyData.strOk (toString i:String)=true:=by
 have small:∀c:Char,c.toNat<1114112:=fun c=>by
  rcases c.valid with h|h
  ·have h':c.val.toNat<55296:=h;show c.val.toNat<_;omega
  ·exact h.2
 unfold PyData.strOk;rw[Str.ofString_eq_toList];simp only[List.all_map,List.all_toArray,bu];intro c _;exact nz (small c)
theorem ze2:CallR X (.type "str") (z9r X.K (biD "str")):=by
 refine CallR.imp z4q fun xs H Q h=>?_;obtain⟨B,ds,d,r,e0,q⟩:=h;simp only[biD,show("str":String)≠"len" by decide,show("str":String)≠"max" by decide,show("str":String)≠"int" by decide,if_true,if_false]at e0;split at e0
 ·rename_i i;split at e0
  ·rename_i hi;cases e0;obtain⟨v,rfl,h1⟩:=zcw r;obtain rfl:v=.int i:=h1;exact⟨i,rfl,hi,q _ H (Same.refl H) ⟨rfl,z9c i⟩⟩
  ·cases e0
 ·cases e0
end
end Mi
namespace Mi
open PySem
section
variable {prog:ao}{w:World}{A:ce}{E:Value->aa->Prop}{s:aa}{z TI TO:Addr}{f0:Value}{f1:Bool}
variable {i1 i2:Addr}{p1 p2:List Addr}{n1 n2 i:Nat}{P1 P2:Nat->Value->Prop}{S1 S2:Nat->Heap->Prop}{a b:Value}
end
end Mi
namespace Mi
open PySem PySem.Spec PyProof.Rows L2
section
variable {prog:ao}{w:World}{A:ce}{E:Value->aa->Prop}{s:aa}
theorem z6m {it t:Addr}{i:Nat}{items:Array Value}{x:Value}{Q:Value->aa->Prop}(hit:s.heap.IsTupleIter it t i)(ht:s.heap.IsTuple t items)(hx:items[i]?=some x)
  (hQ:∀h',h'.IsTupleIter it t (i+1)->ez it s.heap h'->Q x {s with heap:=h'}):wpAny (model prog w) A (jq (.ref it)) Q E s:=by
 have ty:=hit.typeIs;obtain⟨⟨ocls,odict,odata,oslots⟩,ho,hc,hd⟩:=hit;obtain⟨⟨tcls,tdict,tdata,tslots⟩,to,tc,n,td⟩:=ht;cases hc;cases hd;cases tc;cases td;apply ay;refine im ty F.slot_tuple_iterator_next (j9 F.slot_tuple_iterator_next ty F.entry_tuple_iterator_next ?_ (F.args_tuple_iterator_next_1 _));show wpAny _ _ (field (.ref it) 0>>=_) _ _ _;apply ay;refine ik ho rfl (x:=.ref t) rfl ?_;show wpAny _ _ (field (.ref it) 1>>=_) _ _ _;apply ay;refine ik ho rfl (x:=.int i 0) rfl ?_;apply ay;refine wpAny_seqItems to rfl ?_;have ei:((i:Int)).toNat=i:=mn i
 dsimp only
 rw[ei,hx];apply ay;refine wpAny_setField ho rfl (by simp) ?_;refine bv ⟨x,rfl,bv (hQ _ ⟨_,k8 _ ho rfl,rfl,?_⟩ (Heap.SameBut.update _ _ _))⟩;rfl
theorem z3k {it t:Addr}{i:Nat}{items:Array Value}{Q:Value->aa->Prop}(hh:A.handled=none)(hit:s.heap.IsTupleIter it t i)(ht:s.heap.IsTuple t items)(hx:items[i]?=none)
  (hE:∀h' e,Heap.ExtBut it s.heap h'->(∃o,h'.get? e=some o/\o.cls=.type "StopIteration")->E (.ref e) {s with heap:=h'}):wpAny (model prog w) A (jq (.ref it)) Q E s:=by
 have ty:=hit.typeIs;obtain⟨⟨ocls,odict,odata,oslots⟩,ho,hc,hd⟩:=hit;obtain⟨⟨tcls,tdict,tdata,tslots⟩,to,tc,n,td⟩:=ht;cases hc;cases hd;cases tc;cases td;apply ay;refine im ty F.slot_tuple_iterator_next (j9 F.slot_tuple_iterator_next ty F.entry_tuple_iterator_next ?_ (F.args_tuple_iterator_next_1 _));show wpAny _ _ (field (.ref it) 0>>=_) _ _ _;apply ay;refine ik ho rfl (x:=.ref t) rfl ?_;show wpAny _ _ (field (.ref it) 1>>=_) _ _ _;apply ay;refine ik ho rfl (x:=.int i 0) rfl ?_;apply ay;refine wpAny_seqItems to rfl ?_;have ei:((i:Int)).toNat=i:=mn i
 dsimp only
 rw[ei,hx];apply ay;refine wpAny_rule ?_;apply ay;refine wpAny_setField ho rfl (by simp) ?_
 delta Builtin.SmallTypes.stopIteration
 repeat (any_goals (first|assumption|wp_step))
 refine wpAny_raiseNew_none (show A.in1.handled=none from hh) ?_;refine hE _ _ (fun b o hb e=>?_) ⟨_,bp _ rfl,rfl⟩;refine am _ (am _ ?_);rw[Heap.get?_update_ne _ _ _ _ hb];exact e
theorem zhf (hh:A.handled=none)(it t:Addr)(hne:t≠it)(items:Array Value):Draws prog w A it [it,t] items.size (fun i v=>items[i]?=some v) (fun i h=>h.IsTupleIter it t i/\h.IsTuple t items) where
 live:=fun i h st=>let⟨⟨o,ho,_⟩,_⟩:=st;⟨o,ho⟩
 frame:=fun i h h' st k=>by obtain⟨⟨o,ho,r⟩,⟨o2,ho2,r2⟩⟩:=st;exact⟨⟨o,k it (by simp) o ho,r⟩,⟨o2,k t (by simp) o2 ho2,r2⟩⟩
 item:=fun i s1 Q1 E1 hi st hQ=>by refine z6m st.1 st.2 (jr hi) fun h' h1 sb=>?_;obtain⟨o2,ho2,r2⟩:=st.2;exact hQ _ h' s1.toks (jr hi) ⟨h1,⟨o2,sb.extBut t o2 hne ho2,r2⟩⟩ sb
 done:=fun s Q E st hE=>z3k hh st.1 st.2 (Array.getElem?_eq_none (ae _)) hE
end
def IsB (h:Heap)(l:Bool)(a:Addr)(xs:Array Value):Prop:=match l with
 |true=>h.IsList a xs
 |false=>h.IsTuple a xs
def ItB (h:Heap)(l:Bool)(it a:Addr)(i:Nat):Prop:=match l with
 |true=>h.IsListIter it a i
 |false=>h.IsTupleIter it a i
def SqB (K:W.Frag)(H:Hp)(l:Bool)(a:Addr)(vs:List V):Prop:=match l with
 |true=>SqL K H a vs
 |false=>SqT K H a vs
def SrB (K:W.Frag)(H:Hp)(B:Ad->Prop)(l:Bool)(a:Addr)(vs:List V):Prop:=match l with
 |true=>(H a=some (.lst vs)/\B (some a))\/(FL K H a vs/\B none)
 |false=>SqT K H a vs
abbrev itObj (l:Bool)(a:Addr):Obj:={cls:=.type (if l then "list_iterator"else "tuple_iterator"),data:=.fields #[.ref a,.int 0 0]}
theorem SrB.keep {K:W.Frag}{H H2:Hp}{B:Ad->Prop}{l:Bool}{a:Addr}{vs:List V}(h:SrB K H B l a vs)(k:Kp B H H2):SqB K H2 l a vs:=by
 cases l with
 |true=>
  rcases h with⟨h,b⟩|⟨⟨o,h⟩|h,_⟩
  ·exact .inl (.inl (k a _ h (.inl b)))
  ·exact .inl (.inr ⟨o,k a _ h (.inr True.intro)⟩)
  ·exact .inr h
 |false=>exact SqT.keep k h
theorem SrB.of {K:W.Frag}{H:Hp}{B:Ad->Prop}{v:V}{d:D}{xs:List D}(r:Rep K H B v d)(e:seqI d=.ok xs):∃l a vs,v=.ref a/\SrB K H B l a vs/\Reps K H B vs xs/\imms xs=true/\xs.length<=LIM:=by
 cases d<;>try (exact(z19 e).elim)
 case list ds=>
  have e:(if(imms ds&&decide (ds.length<=LIM))=true then Res.ok ds else Res.no)=Res.ok xs:=e;split at e
  ·rename_i hc;cases e;obtain⟨a,vs,rfl,h,rs⟩:=r;exact⟨true,a,vs,rfl,h,rs,(av.mp hc).1,ny (av.mp hc).2⟩
  ·cases e
 case tuple ds=>
  have e:(if(imms ds&&decide (ds.length<=LIM))=true then Res.ok ds else Res.no)=Res.ok xs:=e;split at e
  ·rename_i hc;cases e;obtain⟨a,vs,rfl,h,rs⟩:=r;exact⟨false,a,vs,rfl,h,rs,(av.mp hc).1,ny (av.mp hc).2⟩
  ·cases e
section
variable {X:Cx}{pins:List (Addr×Obj)}{σ:L2.St}{H:Hp}{s:aa}
theorem SqB.items {l:Bool}{a:Addr}{vs:List V}(I:Inv X pins σ H s)(h:SqB X.K H l a vs):∃its:List Value,Vals vs its/\IsB s.heap l a its.toArray/\vs.length=its.length:=by
 cases l with
 |true=>obtain⟨its,rv,p,_⟩:=I.list h;exact⟨its,rv,p.isList,rv.length⟩
 |false=>obtain⟨its,rv,p,_⟩:=I.tuple h;exact⟨its,rv,p,rv.length⟩
end
theorem zce {prog:ao}{w:World}{A:ce}(hh:A.handled=none)(l:Bool)(it a:Addr)(hne:a≠it)(items:Array Value):Draws prog w A it [it,a] items.size (fun i v=>items[i]?=some v) (fun i h=>ItB h l it a i/\IsB h l a items):=by
 cases l with
 |true=>exact Draws.list hh it a hne items
 |false=>exact zhf hh it a hne items
theorem ItB.live {h:Heap}{l:Bool}{it a:Addr}{i:Nat}(x:ItB h l it a i):∃o,h.get? it=some o/\∀v,o.data≠.cell v:=by cases l<;>(obtain⟨o,ho,_,hd⟩:=x;exact⟨o,ho,fun v z=>by rw[hd]at z;cases z⟩)
theorem ItB.keep {h h':Heap}{l:Bool}{it a:Addr}{i:Nat}(x:ItB h l it a i)(k:∀o,h.get? it=some o->h'.get? it=some o):ItB h' l it a i:=by cases l<;>(obtain⟨o,ho,r⟩:=x;exact⟨o,k o ho,r⟩)
theorem ItB.new {h:Heap}{l:Bool}{it a:Addr}(x:h.get? it=some (itObj l a)):ItB h l it a 0:=by cases l<;>exact⟨_,x,rfl,rfl⟩
theorem IsB.lt {h:Heap}{l:Bool}{a:Addr}{xs:Array Value}(x:IsB h l a xs):a<h.objs.size:=by cases l<;>(obtain⟨o,ho,_⟩:=x;exact ax ho)
theorem IsB.push {h:Heap}{l:Bool}{a:Addr}{xs:Array Value}(x:IsB h l a xs)(o:Obj):IsB (h.push o) l a xs:=by cases l<;>(obtain⟨q,hq,r⟩:=x;exact⟨q,am _ hq,r⟩)
theorem zbz {prog:ao}{w:World}{A:ce}{E:Value->aa->Prop}{s:aa}{l:Bool}{a:Addr}{xs:Array Value}{Q:Value->aa->Prop}(h:IsB s.heap l a xs)(hQ:Q (.ref s.heap.objs.size) {s with heap:=s.heap.push (itObj l a)}):wpAny (model prog w) A (nc (.ref a)) Q E s:=by
 cases l with
 |true=>exact ml h hQ
 |false=>exact l7 h hQ
section
variable {X:Cx}{pins:List (Addr×Obj)}{σ:L2.St}{H:Hp}{s:aa}
theorem _root_.L2.Inv.turnedTL {fp:List Addr}{p:Addr}{h':Heap}{t':Nat}{xs:List V}(I:Inv X pins σ H s)(f:∀b∈fp,FpOk X pins H b)(keep:∀b q,b∉fp->s.heap.get? b=some q->h'.get? b=some q)(hp:s.heap.objs.size<=p)
  (new:z0u X.prog X.w (upd H p (.tup xs)) h' p (.tup xs)):Inv X pins σ (upd H p (.tup xs)) {s with heap:=h',toks:=t'}:=by
 have hn:H p=none:=I.hok.fresh hp;have away:∀b u,H b=some u->b∉fp:=fun b u e1 z=>by rw[(f b z).1]at e1;cases e1
 have loc:X.env.locals∉fp:=fun z=>(f _ z).2.1 rfl;refine I.step (g':=s.gens) (d':=s.drawn) (ch:=fp) (fun b hb=>?_) (fun b q _ _ hc e _=>keep b q hc e) (fun b q _ _ hc e _=>⟨q.slots,keep b q hc e⟩) (fun b q _ e n=>by rw[z06 (b9 (bh (ax e) hp))];exact n) (fun b q hc e=>⟨q,keep b q hc e⟩) (fun b xs q=>by rw[z06 (z0c q hn)];exact q) (fun b u xs q=>by rw[z06 (z0c q hn)];exact q) (fun b ps q=>⟨#[],by rw[z06 (z0c q hn),q];simp⟩) (fun m hm=>?_) (fun b u e=>?_) I.bare
 ·obtain⟨f0,f1,f2,f3,f4,f5⟩:=f b hb;exact⟨f3,f1,f4,f5⟩
 ·exact hm.at fun q e=>keep _ q loc e
 ·by_cases hb:b=p
  ·subst hb;rw[z0e]at e;cases e;exact new
  ·rw[z06 hb]at e;refine(I.hok b u e).stay (fun c v hc q=>keep c v ?_ q) (fun c q=>by rw[z06 (z0c q hn)];exact q) fun c xs q=>by rw[z06 (z0c q hn)];exact q
   rcases hc with rfl|hc
   ·exact away _ _ e
   ·exact away _ _ hc
theorem _root_.L2.Inv.turnedL {fp:List Addr}{h':Heap}{t':Nat}(I:Inv X pins σ H s)(f:∀b∈fp,FpOk X pins H b)(keep:∀b q,b∉fp->s.heap.get? b=some q->h'.get? b=some q):Inv X pins σ H {s with heap:=h',toks:=t'}:=by
 have away:∀b u,H b=some u->b∉fp:=fun b u e1 z=>by rw[(f b z).1]at e1;cases e1
 have loc:X.env.locals∉fp:=fun z=>(f _ z).2.1 rfl;refine I.step (g':=s.gens) (d':=s.drawn) (ch:=fp) (fun b hb=>?_) (fun b q _ _ hc e _=>keep b q hc e) (fun b q _ _ hc e _=>⟨q.slots,keep b q hc e⟩) (fun b q _ e n=>n) (fun b q hc e=>⟨q,keep b q hc e⟩) (fun b xs q=>q) (fun b u xs q=>q) (fun b ps q=>⟨#[],by rw[q];simp⟩) (fun m hm=>?_) (fun b u e=>?_) I.bare
 ·obtain⟨f0,f1,f2,f3,f4,f5⟩:=f b hb;exact⟨f3,f1,f4,f5⟩
 ·exact hm.at fun q e=>keep _ q loc e
 ·refine(I.hok b u e).stay (fun c v hc q=>keep c v ?_ q) (fun c q=>q) fun c xs q=>q;rcases hc with rfl|hc
  ·exact away _ _ e
  ·exact away _ _ hc
end
theorem zdu {vs:List V}{its:List Value}{i:Nat}{x:Value}(rv:Vals vs its)(hi:i<vs.length)(hx:its.toArray[i]?=some x):∃v,vs[i]?=some v/\RelV v x:=by
 refine⟨vs[i],bg hi,?_⟩;obtain⟨u,e1,e2⟩:=rv.get (bg hi);have hx':its[i]?=some x:=by simpa using hx
 rw[hx']at e1;cases e1;exact e2
def ItE (K:W.Frag)(l:Bool)(t:Addr)(vs:List V):It:=⟨fun i H=>SqB K H l t vs/\i<vs.length,fun i H x H'=>∃p v,vs[i]?=some v/\H p=none/\x=.ref p/\H'=upd H p (.tup [.int i,v]),fun i H=>SqB K H l t vs/\i=vs.length⟩
theorem z93 {P:ao}{w:World}{K:W.Frag}{elts:List Expr}{x1:Nat}{pos:Pos}{l:Bool}{t e it:Addr}{vs:List V}(h1:t≠it)(h2:t≠e)(h3:e≠it):
  Turn P w K (.Tuple elts x1 pos) (ItE K l t vs) [e,it] e (fun i h=>(∃old,IsEnum h e it i old)/\ItB h l it t i) where
 mem:=by simp
 obj:=fun i h st b hb=>by
  obtain⟨⟨old,he⟩,hit⟩:=st;rcases(a8.mp hb)with rfl|hb
  ·exact⟨_,he,fun v z=>by cases z⟩
  ·obtain rfl:b=it:=by simpa using hb
   exact hit.live
 keep:=fun i h h' st k=>by obtain⟨⟨old,he⟩,hit⟩:=st;exact⟨⟨old,k e (by simp) _ he⟩,hit.keep fun o=>k it (by simp) o⟩
 item:=by
  intro X hP hw hK hc i pins s σ H E I hf st hg;subst hP hw hK;obtain⟨hq,hi⟩:=hg;obtain⟨⟨old,he⟩,hit⟩:=st;obtain⟨its,rv,p,hl⟩:=SqB.items I hq;have hA:X.A.in1.handled=none:=I.ok.hd hc;have D:=zce (prog:=X.prog) (w:=X.w) (A:=X.A.in1) hA l it t h1 its.toArray;have W:=WalksT.enumerateD D e h3 (by simp[h3,Ne.symm h2]) (by simp);obtain⟨oi,hoi,_⟩:=hit.live;refine wpAny_pyNext_enum_itemD D he ⟨hit,p⟩ (by simp;omega) h3 (by simp[h3,Ne.symm h2]) fun x h' tk hx hout hst htup hsz kp=>⟨_,rfl,?_⟩;have hT:s.heap.objs.size≠e/\s.heap.objs.size≠it:=⟨fun z=>cq _ (z▸ax he),fun z=>cq _ (z▸ax hoi)⟩;refine W.go elts x1 pos i s.heap.objs.size {s with heap:=h',toks:=tk+1} _ _ ⟨⟨x,hout⟩,hst,hT.1,hT.2⟩ fun h'' st'' kp2=>?_;have nw':s.heap.objs.size∉ [e,it]:=by simp[hT.1,hT.2]
  have htup':=kp2 s.heap.objs.size _ nw' htup;have hHp:H s.heap.objs.size=none:=I.hok.fresh (ae _);obtain⟨v,hv,rx⟩:=zdu rv hi hx;have I1:=I.turnedTL (fp:=[e,it]) (t':=tk+1) (xs:=[.int i,v]) (h':=h'') hf (fun b q hb z=>kp2 b q hb (kp b q (fun z=>hb (by simp[z])) (fun z=>hb (by simp[z])) z)) (ae _) ⟨by rw[fg];simp,[.int i tk,x],.cons ⟨tk,rfl⟩ (.cons rx .nil),0,htup'⟩;refine⟨.ref s.heap.objs.size,_,I1,rfl,⟨_,v,hv,hHp,rfl,rfl⟩,⟨st''.1,st''.2.1⟩,fun b hb=>?_⟩;rw[z06 fun z:b=s.heap.objs.size=>nw' (by rw[<-z];exact hb)];exact(hf b hb).1
 done:=by intro X hP hw hK hc i pins s σ H E I hf st hg;subst hP hw hK;obtain⟨hq,hi⟩:=hg;obtain⟨⟨old,he⟩,hit⟩:=st;obtain⟨its,rv,p,hl⟩:=SqB.items I hq;have hA:X.A.in1.handled=none:=I.ok.hd hc;have D:=zce (prog:=X.prog) (w:=X.w) (A:=X.A.in1) hA l it t h1 its.toArray;have St:ItB s.heap l it t its.toArray.size/\IsB s.heap l t its.toArray:=⟨by rw[ai,<-hl,<-hi];exact hit,p⟩;exact wpAny_pyNext_enum_endD D he St fun h' eb=>⟨rfl,I.turnedL (t':=s.toks) hf fun b o hb z=>eb b o (fun q=>hb (by simp[q])) z⟩
 self:=fun _ _ _ _ _ st h=>by obtain⟨⟨old,he⟩,_⟩:=st;exact mo he h
theorem z4j:∀(xs:List D) (k i:Nat),(z1h k xs)[i]?=(xs[i]?).map fun x=>.tuple [.int ((k+i:Nat):Int),x]
 | [],k,i=>by simp[z1h]
 |x::xs,k,0=>by simp[z1h]
 |x::xs,k,i+1=>by
  rw[z1h,ip,ip,z4j xs (k+1) i];have:k+1+i=k+(i+1):=by omega
  rw[this]
theorem z24:∀(xs:List D) (k:Nat),(z1h k xs).length=xs.length
 | [],_=>rfl
 |x::xs,k=>by rw[z1h,aj,aj,z24 xs]
theorem z9k {K:W.Frag}{H:Hp}{B:Ad->Prop}{l:Bool}{t:Addr}{vs:List V}{xs:List D}(hq:SrB K H B l t vs)(rs:Reps K H B vs xs)(hi:imms xs=true)(hz:xs.length<=aq):Walk K (ItE K l t vs) B H (z1h 0 xs):=by
 have hl:=rs.length;constructor
 ·rw[z24];exact hz
 ·intro H2 kp i h;rw[z24]at h;exact⟨hq.keep kp,by omega⟩
 ·intro H2 kp;exact⟨hq.keep kp,by rw[z24];exact hl.symm⟩
 ·intro H2 kp i x H3 h y;obtain⟨p,v,hv,hp,rfl,rfl⟩:=y;obtain⟨d,hd,rv⟩:=Reps.getV rs hv;have him:imm d=true:=z1s.mp hi d (b8 hd);refine⟨Same.upd hp,.tuple [.int i,d],by rw[z4j,hd];simp,p,[.int i,v],rfl,SqT.of z0e,?_⟩;refine Reps.cons rfl (Reps.cons ?_ rfl);exact Rep.immK (H':=upd H2 p (.tup [.int i,v])) (fun a q e f=>by have h2:=kp a q e (.inr f);rw[z06 (z0c h2 hp)];exact h2) d him rv
theorem z6t (l:Bool)(t:Addr)(items:Array Value):Meets (Builtin.«enumerate.__new__» {pos:=[.type "enumerate",.ref t]}) fun _ R s=>
  IsB s.heap l t items/\R (.ok (.ret (.ref (s.heap.push (itObj l t)).objs.size))) {s with heap:=(s.heap.push (itObj l t)).push {cls:=.type "enumerate",data:=.fields #[.none,.bool false,.ref s.heap.objs.size,nq 0,.none,.none]}}:=by
 rintro prog w A R s ⟨ht,hR⟩
 have sub:=sub_enumerate
 delta Builtin.«enumerate.__new__»
 repeat (any_goals (first|assumption|(apply zbz ht)|wp_step))
 refine wpAny_stack fun st _ _ _=>?_;refine gc (Q:=fun _ s'=>s'=s) (bv rfl) (fun b s' hs=>?_) fun _ _ x=>x;subst hs;cases b
 all_goals repeat (any_goals (first|assumption|(apply zbz ht)|wp_step))
 all_goals exact hR
theorem zae {prog:ao}{w:World}{A:ce}{E:Value->aa->Prop}{s:aa}{l:Bool}{t:Addr}{items:Array Value}{Q:Value->aa->Prop}(ht:IsB s.heap l t items)
  (hQ:Q (.ref (s.heap.push (itObj l t)).objs.size) {s with heap:=(s.heap.push (itObj l t)).push {cls:=.type "enumerate",data:=.fields #[.none,.bool false,.ref s.heap.objs.size,nq 0,.none,.none]}}):wpAny (model prog w) A (call (.type "enumerate") [.ref t]) Q E s:=by
 refine callType_new F.called_enumerate (by decide) (F.typeCall_enumerate_1 _) (F.newCall_enumerate_1 _) (fun obj=>?_) F.entry_enumerate_new (z6t l t items) ⟨ht,⟨_,bp _ rfl,rfl⟩,hQ⟩;exact F.args_object_init_2 _ _
section
variable {X:Cx}{pins:List (Addr×Obj)}{σ:L2.St}
theorem z4n {H1:Hp}{s1:aa}{B:Ad->Prop}{y:V}{v:Value}{d:D}{xs:List D}{R:It->Hp->Prop}{elts:List Expr}{x1:Nat}{tp:Pos}(I1:Inv X pins σ H1 s1)(r1:RelV y v)(rv:Rep X.K H1 B y d)(e:seqI d=.ok xs)(q:∀J,Walk X.K J B H1 (z1h 0 xs)->R J H1):
  wpAny (model X.prog X.w) X.A (call (.type "enumerate") [v]) (fun v' s2=>wpAny (model X.prog X.w) X.A (nc v') (PIE X pins σ (.Tuple elts x1 tp) R) X.xe s2) X.xe s1:=by
 obtain⟨l,t,ts,rfl,hq,rps,hi,hz⟩:=SrB.of rv e;cases r1;obtain⟨its,rvs,pt,_⟩:=SqB.items I1 (hq.keep (Kp.of (Same.refl H1)));refine zae pt ?_;generalize hR:s1.heap.push (itObj l t)=hp;have szp:hp.objs.size=s1.heap.objs.size+1:=by rw[<-hR];exact size_push' _ _
 have I2:Inv X pins σ H1 {s1 with heap:=hp}:=I1.kept (t':=s1.toks) fun b o e=>hR▸am _ e;generalize hR2:hp.push {cls:=.type "enumerate",data:=.fields #[.none,.bool false,.ref s1.heap.objs.size,nq 0,.none,.none]}=hp2;have I3:Inv X pins σ H1 {s1 with heap:=hp2}:=I2.kept (t':=s1.toks) fun b o e=>hR2▸am _ e;have g1:hp2.get? hp.objs.size=some {cls:=.type "enumerate",data:=.fields #[.none,.bool false,.ref s1.heap.objs.size,nq 0,.none,.none]}:=by rw[<-hR2];exact bp _ rfl
 have g2:hp2.get? s1.heap.objs.size=some (itObj l t):=by rw[<-hR2];refine am _ ?_;rw[<-hR];exact bp _ rfl
 have ht:t<s1.heap.objs.size:=pt.lt;refine mo (e:=hp.objs.size) (it:=s1.heap.objs.size) (i:=0) (old:=.none) g1 ?_;refine⟨hp.objs.size,[hp.objs.size,s1.heap.objs.size],_,ItE X.K l t ts,H1,rfl,I3,z93 (b9 ht) (b9 (ji ht (by rw[szp];exact j7 _))) (by rw[szp];exact Nat.succ_ne_self _),⟨⟨.none,g1⟩,ItB.new g2⟩,fun b hb=>?_,q _ (z9k hq rps hi (z0q hz))⟩;rcases(a8.mp hb)with rfl|hb
 ·exact I2.fpOk (ae _) (I2.hok.fresh (ae _))
 ·obtain rfl:b=s1.heap.objs.size:=by simpa using hb
  exact I1.fpOk (ae _) (I1.hok.fresh (ae _))
end
section
variable {X:Cx}{pins:List (Addr×Obj)}{σ:L2.St}
end
section
variable {X:Cx}{a b:Expr}{fa fb:Rho->Res GD}{p pos:Pos}
theorem z85:ck "enumerate"=some (.type "enumerate"):=by decide+kernel
theorem zgb (hs:isStar a=false)(ha:PE X a (tD X.K fa)):PA X [a] (tDA X.K fun ρ=>fa ρ>>=fun x=>.ok [x]):=by refine PA.imp (zby hs ha zgs) fun σ H Q ⟨ρ,F,z,so,e,q⟩=>⟨ρ,F,z,so,?_,q⟩;obtain⟨x,e1,e⟩:=Res.bind_ok e;show(fa ρ>>=fun x=>Res.ok []>>=fun xs=>Res.ok (x::xs))=_;rw[e1];exact e
theorem z67 {fs:Rho->Res GD}{ρ:Rho}{ys:List GD}(h:(fs ρ>>=fun x=>Res.ok [x])=.ok ys):∃x,fs ρ=.ok x/\ys=[x]:=by obtain⟨x,e,h⟩:=Res.bind_ok h;cases h;exact⟨x,e,rfl⟩
theorem zbc {K:W.Frag}{F:Fm}{H H1:Hp}{σ:L2.St}{ρ:Rho}{x:GD}{xs:List D}{v:V}(so:StOk K F H σ ρ)(hc:z70 x=true)(e:seqI x.2=.ok xs)(rv:Rep K H1 (BG F H x.1) v x.2):∃B,Rep K H1 B v x.2/\(∀a,B (some a)->F.O a=none)/\∀a,B a->BI F .al a:=by
 obtain⟨g,d⟩:=x;cases d<;>try (exact(z19 e).elim)
 case list ds=>
  have hg:g≠.al:=fun z=>by subst z;cases hc
  exact⟨_,rv,fun a h=>z6l so hg h,fun a h=>BI.of so.vis (g:=.al) (BG.vis so.vis h)⟩
 case tuple ds=>
  have hi:imm (.tuple ds)=true:=by
   have e:(if(imms ds&&decide (ds.length<=LIM))=true then Res.ok ds else Res.no)=Res.ok xs:=e;split at e
   ·rename_i h;exact(av.mp h).1
   ·cases e
  exact⟨fun _=>False,Rep.immB _ hi rv,fun _ h=>h.elim,fun _ h=>h.elim⟩
theorem z9m {ρ:Rho}{ys:List GD}(h:(fa ρ>>=fun x=>fb ρ>>=fun y=>Res.ok [x,y])=.ok ys):∃x y,fa ρ=.ok x/\fb ρ=.ok y/\ys=[x,y]:=by obtain⟨x,e,h⟩:=Res.bind_ok h;obtain⟨y,e2,h⟩:=Res.bind_ok h;cases h;exact⟨x,y,e,e2,rfl⟩
theorem zbp {elts:List Expr}{x1:Nat}{tp:Pos}(hm:X.mg "enumerate"=none)(hg:Gl X "enumerate")(hs:isStar a=false)(ha:PE X a (tD X.K fa)):PI X (.Tuple elts x1 tp) (.Call (.Name "enumerate" p) [a] [] pos) (tDW X.K fun ρ=>fa ρ>>=fun x=>seqI x.2>>=fun xs=>.ok (.al,z1h 0 xs)):=by intro pins s σ H R I h;obtain⟨ρ,F,w,so,e,q⟩:=h;obtain⟨x,e1,e⟩:=Res.bind_ok e;obtain⟨xs,e2,e⟩:=Res.bind_ok e;cases e;refine Call_ (z31 I hg hm z85 (PyProof.Rows.callWith_type1 (thn (zgb hs ha pos pins s σ H (fun vs H1=>Same H H1/\RGs X.K F H H1 vs [x]) I ⟨ρ,F,[x],so,by show(fa ρ>>=fun x=>Res.ok [x])=_;rw[e1];rfl,fun vs H1 s1 rs=>⟨s1,rs⟩⟩) fun us s1 ⟨vs,H1,I1,r1,sm,rs⟩=>?_) (z0g hs) rfl));obtain⟨v,rfl,rv⟩:=rs.one;obtain⟨u,rfl,ru⟩:=vals1 r1;exact z4n I1 ru (Rep.there _ rv) e2 fun J wk=>q J _ H1 sm (fun c z=>⟨BG.vis so.vis z.1,z.2⟩) wk
theorem zi1 {elts:List Expr}{x1:Nat}{tp:Pos}(hm:X.mg "enumerate"=none)(hg:Gl X "enumerate")(hs:isStar a=false)(ha:PE X a (tD X.K fa)):PI X (.Tuple elts x1 tp) (.Call (.Name "enumerate" p) [a] [] pos) (tDF X.K fun ρ=>(fa ρ>>=fun x=>.ok [x])>>=fun ys=>evEn ys ρ):=by
 intro pins s σ H R I h;obtain⟨ρ,F,w,so,e,q⟩:=h;obtain⟨ys,e0,e⟩:=Res.bind_ok e;obtain⟨x,e1,rfl⟩:=z67 e0;have e:(if z70 x=true then(seqI x.2>>=fun xs=>Res.ok (G.al,z1h 0 xs,ρ))else Res.no)=Res.ok w:=e;split at e
 case isFalse=>cases e
 rename_i hc;obtain⟨xs,e2,e⟩:=Res.bind_ok e;cases e;refine Call_ (z31 I hg hm z85 (PyProof.Rows.callWith_type1 (thn (zgb hs ha pos pins s σ H (fun vs H1=>Same H H1/\RGs X.K F H H1 vs [x]) I ⟨ρ,F,[x],so,by show(fa ρ>>=fun x=>Res.ok [x])=_;rw[e1];rfl,fun vs H1 s1 rs=>⟨s1,rs⟩⟩) fun us s1 ⟨vs,H1,I1,r1,sm,rs⟩=>?_) (z0g hs) rfl));obtain⟨v,rfl,rv⟩:=rs.one;obtain⟨u,rfl,ru⟩:=vals1 r1;obtain⟨B,rB,hB,hV⟩:=zbc so hc e2 rv;exact z4n I1 ru rB e2 fun J wk=>q J B H1 F sm Run.refl (Frm.same sm) (so.same sm) hB hV wk
end
abbrev bmV:List Value:=[.type "ValueError",.type "Exception",.type "BaseException",.type "object"]
abbrev exV (K:W.Frag)(C:Addr):Bool:=W.excIn K C bmV "ValueError.__new__"
def XC (C:Addr)(h:Heap)(bm:List Value):Prop:=∃N nm q bs hdct sn sub ab col dd k0 k1 k2 k3 k5 mN,h.get? C=some (excClassObj nm q C N bs bm hdct sn sub ab col dd k0 k1 k2 k3 k5 "ValueError.__new__")/\h.Ns N mN/\mN "__init__"=none/\OwnTail h bmV bm
theorem z8g {K:W.Frag}{C:Addr}(q:exV K C=true):∃dd cd bm k0 k1 k2 k3 k5,K.lookup C=some ⟨.type "type",dd,.cls cd,#[k0,k1,k2,k3,some (.builtin "ValueError.__new__"),k5]⟩/\cd.mro=.ref C::bm/\cd.hasDel=false/\W.tailIn K bmV bm=true/\W.nsOkIn K cd.ns=true/\W.nsIn K cd.ns "__init__"=some none:=by
 have two:∀{a b:Bool},(a&&b)=true->a=true/\b=true:=av.mp;unfold exV W.excIn at q;split at q
 ·rename_i dd cd sl ho;split at q
  ·rename_i A bm y0 y1 y2 y3 n y5 hm hs;obtain⟨q,q6⟩:=two q;obtain⟨q,q5⟩:=two q;obtain⟨q,q4⟩:=two q;obtain⟨q,q3⟩:=two q;obtain⟨q1,q2⟩:=two q;have e1:A=C:=n6 q1;have e2:n="ValueError.__new__":=n6 q2;have e3:sl=#[y0,y1,y2,y3,some (.builtin n),y5]:=Array.toList_inj.mp (by rw[hs]);refine⟨dd,cd,bm,y0,y1,y2,y3,y5,?_,?_,?_,q4,q5,n6 q6⟩
   ·rw[ho,e3,e2]
   ·rw[hm,e1]
   ·cases hd:cd.hasDel with
    |false=>rfl
    |true=>rw[hd]at q3;cases q3
  ·cases q
 ·cases q
theorem zat {K:W.Frag}{C:Addr}{dd:Option Addr}{cd:ClassData}{sl:Array (Option Value)}{bm:List Value}{v:Value}{b:Bool}(ho:K.lookup C=some ⟨.type "type",dd,.cls cd,sl⟩)(hm:cd.mro=.ref C::bm)(e:W.subIn K (.ref C) v=some b):(Value.ref C::bm).contains v=b:=by
 have e:W.mroIn K C v=some b:=e;unfold W.mroIn W.clsIn at e;rw[ho]at e
 dsimp only[Option.bind_some]at e
 rw[hm]at e;exact Option.some.inj e
theorem XC.mk {K:W.Frag}{C:Addr}{h:Heap}(X:K.In h)(q:exV K C=true):∃bm,XC C h bm/\∀v b,W.subIn K (.ref C) v=some b->(Value.ref C::bm).contains v=b:=by
 obtain⟨dd,cd,bm,k0,k1,k2,k3,k5,ho,hm,hd,ht,hk,hi⟩:=z8g q;refine⟨bm,⟨cd.ns,cd.name,cd.qualname,cd.bases,cd.hasDict,cd.slotNames,cd.subclasses,cd.abstract,cd.collection,dd,k0,k1,k2,k3,k5,h.nsMap cd.ns,?_,.of_isNs (W.isNs_of_in X hk),W.nsMap_none_of_in X hk hi,W.tail_of_in X ht⟩,fun v b e=>zat ho hm e⟩;have h2:=X _ _ ho;cases cd
 dsimp only at hm hd
 rw[hm,hd]at h2;exact h2
section
variable {M:Model}{A:ce}{E:Value->aa->Prop}{h:Heap}{g:Array ma}{d:Drawn}{t:Nat}{os:ju}{C B e:Addr}{bm bm':List Value}{oe:Obj}{Q:Bool->aa->Prop}
theorem z8u {l:List Value}(T:OwnTail h bmV l):l.contains (.type "BaseException")=true:=T.hasType rfl
theorem zb3 (hC:XC C h bm)(hB:XC B h bm')(he:h.get? e=some oe)(hc:oe.cls=.ref C)(hin:(Value.ref C::bm).contains (.ref B)=true)(hq:Q true ⟨h,g,d,t,os⟩):wpAny M A (excMatches (.ref e) (.ref B)) Q E ⟨h,g,d,t,os⟩:=by
 obtain⟨_,_,_,_,_,_,_,_,_,_,_,_,_,_,_,_,oC,_,_,_⟩:=hC;obtain⟨_,_,_,_,_,_,_,_,_,_,_,_,_,_,_,_,oB,_,_,tB⟩:=hB;have hcB:(Value.ref B::bm').contains (.type "BaseException")=true:=by rw[List.contains_cons,z8u tB,Bool.or_true]
 have f:=tc_notTuple;unfold excMatches
 repeat (first|(with_reducible refine mq he ?_;rw[hc])|with_reducible refine mq oB ?_|(with_reducible refine lq oB ?_;rw[hcB])|(with_reducible refine lq oC ?_;rw[hin])|wp_step)
 exact hq
end
section
variable {prog:ao}{w:World}{A:ce}{E:Value->aa->Prop}{K:W.Frag}{h:Heap}{g:Array ma}{d:Drawn}{t:Nat}{os:ju}{C e:Addr}{oe:Obj}
structure XA (K:W.Frag)(C:Addr):Prop where
 cl:W.findIn K (.ref C) "__class__"=some (some (.builtin "object.__class__"))
 ga:W.findIn K (.ref C) "__getattribute__"=some (some (.builtin "BaseException.__getattribute__"))
 gt:W.findIn K (.ref C) "__getattr__"=some none
 ob:W.subIn K (.ref C) (.type "object")=some true
 be:W.subIn K (.ref C) (.type "BaseException")=some true
 ty:W.typeIn K (.ref C)=some (.type "type")
 is:(W.clsIn K C).isSome=true
 ex:exV K C=true
structure XV (K:W.Frag)(v:Value):Prop where
 ty:∀(M:Model) (h:Heap),K.In h->W.Looks M h (typeOf v) (.type "type")
 is:∀(M:Model) (h:Heap),K.In h->W.Looks M h (isType v) true
theorem zao {M:Model}{D:Addr}(X:K.In h)(q:(W.clsIn K D).isSome=true):W.Looks M h (isType (.ref D)) true:=by
 unfold W.clsIn at q;split at q
 ·rename_i ho;intro A Q E s k z;unfold isType;refine ay (wpAny_load (k _ _ (X _ _ ho)) ?_);exact bv z
 ·cases q
theorem XV.own {D:Addr}(t:W.typeIn K (.ref D)=some (.type "type"))(q:(W.clsIn K D).isSome=true):XV K (.ref D):=⟨fun M h X=>W.looks_typeIn X t,fun M h X=>zao X q⟩
theorem XV.val:XV K (.type "ValueError"):=⟨fun M h X=>W.Looks.of_pure (by kernel_rfl),fun M h X=>W.Looks.of_pure rfl⟩
end
structure Fly (P:ao)(w:World)(base:Heap)(outer:List Env)(H:Hp)(s:aa)(C a:Addr)(H':Hp)(s':aa):Prop where
 os:s'.os=s.os
 bare:jh s'.gens
 same:Same H H'
 free:∀b o,s.heap.get? b=some o->H b=none->H' b=none
 hh:∃B t,base.StaysIn B/\HOk P w H' B/\(∀b o,s.heap.get? b=some o->H b=none->b∉frs outer->B.get? b=some o)/\Heap.FlyingW B outer a (.ref C) (.ref t) s'.heap
 slot:∀b o,s.heap.get? b=some o->H b=none->b∈frs outer->∃sl,s'.heap.get? b=some {o with slots:=sl}
def CXE (P:ao)(w:World)(base:Heap):CXT:=fun outer H s E e s'=>∃a C H',e=.ref a/\Fly P w base outer H s C a H' s'/\E (.ref C) none H'
theorem z2p {P:ao}{w:World}{H:Hp}{h:Heap}{a:Addr}{o:HO}(x:z0u P w H h a o):∃ob,h.get? a=some ob:=by
 cases o with
 |lst xs=>obtain⟨_,_,_,_,e⟩:=x;exact⟨_,e⟩
 |tup xs=>obtain⟨_,_,_,_,e⟩:=x;exact⟨_,e⟩
 |dK kvs=>obtain⟨_,_,_,_,o,_,_,e,_⟩:=x;exact⟨_,e⟩
 |dT kvs=>obtain⟨_,_,_,_,o,_,_,e,_⟩:=x;exact⟨_,e⟩
 |set S n=>obtain⟨o,_,_,_,e,_⟩:=x;exact⟨_,e⟩
 |ins C dx fs=>obtain⟨_,_,_,e,_⟩:=x;exact⟨_,e⟩
 |own y=>exact x
 |xd fs=>obtain⟨_,⟨_,_,_,e,_⟩,_⟩:=x;exact⟨_,e⟩
 |rng lo hi=>obtain⟨_,_,_,e⟩:=x;exact⟨_,e⟩
 |frz ob u=>exact⟨_,x.1⟩
 |tbl ps=>exact⟨_,x⟩
 |met f y=>exact⟨_,x⟩
 |ext φ=>exact x.2.1
section
variable {P:ao}{w:World}{base:Heap}{outer:List Env}{H H':Hp}{s s':aa}{C a:Addr}
theorem Fly.hok (f:Fly P w base outer H s C a H' s'):HOk P w H' s'.heap:=by obtain⟨B,t,_,hB,_,fl⟩:=f.hh;exact hB.kept fl.1
theorem Fly.un (f:Fly P w base outer H s C a H' s'):Un (frs outer) [] H H' s.heap s'.heap:=by
 obtain⟨B,t,_,hB,cov,fl⟩:=f.hh;refine⟨fun b o e n hb _=>fl.1 b o (cov b o e n hb),fun b o e n hb _=>f.slot b o e n hb,fun b o e n _=>f.free b o e n,fun b o e _=>?_,fun b xs e=>f.same b _ e,fun b o u e=>f.same b _ e,fun b ps e=>⟨#[],by rw[f.same b _ e,Array.append_empty]⟩⟩;cases hn:H b with
 |some u=>exact z2p (f.hok b u (f.same b u hn))
 |none=>
  by_cases hb:b∈frs outer
  ·obtain⟨sl,q⟩:=f.slot b o e hn hb;exact⟨_,q⟩
  ·exact⟨o,fl.1 b o (cov b o e hn hb)⟩
end
section
variable {X:Cx}{pins:List (Addr×Obj)}{σ:L2.St}{H H':Hp}{s s':aa}{C a:Addr}
theorem Fly.inv (f:Fly X.prog X.w X.base X.stack H s C a H' s')(I:Inv X pins σ H s):Inv X pins σ H' s':=by obtain⟨h',g,d,t,o⟩:=s';obtain rfl:o=s.os:=f.os;exact I.call (h':=h') (g':=g) (d':=d) (t':=t) (ch:=[]) f.un f.hok f.bare fun b z=>nomatch z
theorem Fly.leave {M:Model}{outer:List Env}{Q:Unit->aa->Prop}{E:Value->aa->Prop}(f:Fly X.prog X.w X.base X.stack H s C a H' s')(I:Inv X pins σ H s)(hs:X.stack=X.env::X.outer)(hf:X.env.frame=some X.env.locals)(hx:X.ex=[])(hS:Same X.H₀ H')
  (hQ:∀s'',Fly X.prog X.w X.base X.outer X.H₀ X.s₀ C a H' s''->Q () s''):wpAny M X.A (leaving X.env (.ref a)) Q E s':=by
 obtain⟨B,t,hb,hB,cov,fl⟩:=f.hh;rw[hs]at fl;have hfr:X.A.frames=some (X.env::X.outer):=by rw[<-hs];exact I.ok.frames
 refine wpAny_leaves_onW hfr hf fl fun h' fl' up=>hQ _ ⟨f.os.trans I.os,f.bare,hS,fun b o e n=>?_,⟨B,t,hb,hB,fun b o e n hn=>?_,fl'⟩,fun b o e n hn=>?_⟩
 ·have nx:b∉X.ex:=by rw[hx];simp
  obtain⟨o',e'⟩:=I.base.there b o e nx;exact f.free b o' e' (I.base.free b o e n nx)
 ·have nx:b∉X.ex:=by rw[hx];simp
  refine cov b o (I.base.keep b o e n hn nx) (I.base.free b o e n nx) ?_;rw[hs];intro z;unfold frs at z hn;rw[b7,hf]at z;rcases a8.mp z with z|z
  ·exact absurd (ax e) (by rw[z];exact Nat.not_lt.mpr I.ok.above)
  ·exact hn z
 ·have nx:b∉X.ex:=by rw[hx];simp
  obtain⟨sl,e1⟩:=I.base.slot b o e n hn nx;have hst:b∈frs X.stack:=by rw[hs];unfold frs;rw[b7,hf];exact ak _ hn
  obtain⟨sl2,e2⟩:=f.slot b _ e1 (I.base.free b o e n nx) hst;obtain⟨_,o3,e3,nd⟩:=I.ok.funs.mem hn;rw[e]at e3;cases e3;obtain⟨sl3,e4⟩:=up b _ e2 nd;exact⟨sl3,e4⟩
theorem za5 {P:ao}{w:World}{H:Hp}{h:Heap}{l:List Addr}(x:HOk P w H h)(n:∀b∈l,H b=none):HOk P w H (W.hideAll h l):=fun b o e=>by
 refine(x b o e).stay (fun c u hc q=>W.hideAll_get _ q fun z=>?_) (fun _ q=>q) fun _ _ q=>q;rcases hc with rfl|hc
 ·rw[n c z]at e;cases e
 ·rw[n c z]at hc;cases hc
theorem z6x {M:Model}{Q:Unit->aa->Prop}{E:Value->aa->Prop}{args:List Value}{h1:Heap}(I:Inv X pins σ H s)(hm:Heap.MadeExcOf s.heap h1 a (.ref C) args)(hs:X.stack=X.env::X.outer)(hf:X.env.frame=some X.env.locals)(hx:X.ex=[])(hS:Same X.H₀ H)
  (hQ:∀s'',Fly X.prog X.w X.base X.outer X.H₀ X.s₀ C a H s''->Q () s''):wpAny M X.A (leaving X.env (.ref a)) Q E {s with heap:=h1}:=by
 have hfr:X.A.frames=some (X.env::X.outer):=by rw[<-hs];exact I.ok.frames
 have nx:∀b,b∉X.ex:=fun b=>by rw[hx];simp
 have hst:=I.stack;rw[hs]at hst;have hfree:∀b∈frs (X.env::X.outer),H b=none:=fun b hb=>I.stkFree b (by rw[hs];exact hb);have hin:∀env∈X.env::X.outer,∀b,env.frame=some b->b∈frs (X.env::X.outer):=fun env he b hb=>jl.mpr ⟨env,he,hb⟩
 have notF:∀b o,X.s₀.heap.get? b=some o->b∉frs X.outer->b∉frs (X.env::X.outer):=fun b o e hn z=>by
  unfold frs at z hn;rw[b7,hf]at z;rcases a8.mp z with z|z
  ·exact absurd (ax e) (by rw[z];exact Nat.not_lt.mpr I.ok.above)
  ·exact hn z
 have hbase:X.base.StaysIn (W.hideAll s.heap (frs (X.env::X.outer))):=fun b o e=>W.hideAll_get _ (I.bk b o e) (notF b o (I.ok.bs b o e).1 (I.ok.nofr e));refine wpAny_leaves_madeW (base:=W.hideAll s.heap (frs (X.env::X.outer))) (h:=s.heap) hfr hf (fun b o q=>W.of_hideAll _ q) (W.funFrames_hide hst hin) hm fun h' t fl _ _ up=>hQ _ ⟨I.os,I.bare,hS,fun b o e n=>I.base.free b o e n (nx b),⟨_,t,hbase,za5 I.hok hfree,fun b o e n hn=>W.hideAll_get _ (I.base.keep b o e n hn (nx b)) (notF b o e hn),fl⟩,fun b o e n hn=>?_⟩;obtain⟨sl,e1⟩:=I.base.slot b o e n hn (nx b);obtain⟨_,o3,e3,nd⟩:=I.ok.funs.mem hn;rw[e]at e3;cases e3;obtain⟨sl3,e4⟩:=up b _ (hm.keeps _ _ e1) nd;exact⟨sl3,e4⟩
end
structure Lv (X:Cx)(H0:Hp)(c:Str):Prop where
 made:∀pins σ H s a C args h',Inv X pins σ H s->X.mg c=some (.ref C)->Same H0 H->Heap.MadeExcOf s.heap h' a (.ref C) args->X.xe (.ref a) {s with heap:=h'}
 fly:∀pins σ H s a C H' s',Inv X pins σ H s->X.mg c=some (.ref C)->Same H0 H'->Fly X.prog X.w X.base X.stack H s C a H' s'->X.xe (.ref a) s'
theorem Lv.mono {X:Cx}{H0 H1:Hp}{c:Str}(l:Lv X H0 c)(h:Same H0 H1):Lv X H1 c:=⟨fun pins σ H s a C args h' I m z=>l.made pins σ H s a C args h' I m (h.trans z),fun pins σ H s a C H' s' I m z=>l.fly pins σ H s a C H' s' I m (h.trans z)⟩
def Rz (X:Cx)(f:Rho->Option Str)(σ:L2.St)(H:Hp):Prop:=∃ρ F c,StOk X.K F H σ ρ/\f ρ=some c/\Lv X F.H0 c
def tR (X:Cx)(f:Rho->Option Str):TE:=fun σ H _=>Rz X f σ H
def tRT (X:Cx)(f:Rho->Option Str):TT:=fun σ H _=>Rz X f σ H
def tRA (X:Cx)(f:Rho->Option Str):TA:=fun σ H _=>Rz X f σ H
def tRS (X:Cx)(f:Rho->Option Str):TS:=fun _ σ H=>Rz X f σ H
def spX (K:W.Frag)(mg:Str->Option Value)(n:Nat)(m:Fn):Sp:=fun vs H _ E=>∃A ds c,vs.length=n/\Reps K H A vs ds/\excOf (m ds)=some c/\∀C H',mg c=some (.ref C)->Same H H'->E (.ref C) none H'
def CalX (P:ao)(w:World)(K:W.Frag)(mg:Str->Option Value)(base:Heap)(k:Nat)(x:Str)(ps:List Str)(n:Nat)(m:Fn):Prop:=∃f fd,FnOk P w K mg base (CXE P w base) k f fd ps (spX K mg n m)/\mg x=some (.ref f)/\W.keepIn K (.ref f)=true/\Binds K fd ps []
section
variable {X:Cx}{e:Expr}{es:List Expr}{pos:Pos}
theorem z46 {f:Rho->Option Str}(h:∀ρ,f ρ=none)(σ:L2.St)(H:Hp):¬Rz X f σ H:=fun⟨ρ,F,c,_,e,_⟩=>by rw[h ρ]at e;cases e
theorem z32 {x c:Str}{k k' n:Nat}{ps:List Str}{m:Fn}{fs:Rho->Res (List GD)}{p:Pos}{pins:List (Addr×Obj)}{s:aa}{σ:L2.St}{H:Hp}{ρ:Rho}{F:Fm}{ys:List GD}(Cc:CalX X.prog X.w X.K X.mg X.base k x ps n m)(hr:Room k' X.A)(hk:k<=k')(ha:PA X (e::es) (tDA X.K fs))(hst:((e::es).all fun e=> !isStar e)=true)(hg:Gl X x)(hdb:(x==("__debug__":Str))=false)
  (hl:∀ρ ys,fs ρ=.ok ys->ys.length=n) (I:Inv X pins σ H s) (so:StOk X.K F H σ ρ) (e2:fs ρ=.ok ys) (e3:excOf (m (ys.map (·.2)))=some c)
  (hE:∀H1 s1 C a H' s',Inv X pins σ H1 s1->Same H H1->X.mg c=some (.ref C)->Fly X.prog X.w X.base X.stack H1 s1 C a H' s'->X.xe (.ref a) s'):wpAny (model X.prog X.w) X.A (eval (.Call (.Name x p) (e::es) [] pos) X.env) (fun _ _=>False) X.xe s:=by
 obtain⟨f,fd,Fo,hm,kp,b⟩:=Cc;rw[ci,aw]at hst;refine gf (z5c I hg hm ?_ hdb);refine W.callWith_K (h₀:=X.base) I.ok.mod.kin kp (thn (ha pos pins s σ H (fun vs H1=>Same H H1/\RGs X.K F H H1 vs ys) I ⟨ρ,F,ys,so,e2,fun vs H1 s1 rg=>⟨s1,rg⟩⟩) fun us s1 zz=>?_) (z0g (by simpa using hst.1)) (z0z hst.2);obtain⟨vs,H1,I1,r,z1,rg⟩:=zz;refine⟨I1.kIn,?_⟩;have hsp:spX X.K X.mg n m vs H1 (fun _ _=>False) (fun v _ H'=>X.mg c=some v):=⟨_,_,c,by rw[rg.len];exact hl ρ ys e2,rg.repsV so.vis,e3,fun C H' hC _=>hC⟩;have hlen:us.length=ps.length:=by rw[<-r.length];exact Fo.len _ _ _ _ hsp
 have hb:=b s1 us I1.kIn (by rw[dg];exact hlen);rw[dg]at hb;refine wpAny_call (ke (Fo.run X.A X.stack s1 H1 ⟨us,[]⟩ us vs _ _ (hr.mono hk) I1.env0 hb r hsp) fun rr s' hq=>?_);cases rr with
 |error e'=>obtain⟨a,C,H',rfl,fl,q1⟩:=hq;exact hE H1 s1 C a H' s' I1 z1 q1 fl
 |ok fl=>
  cases fl with
  |ret u=>obtain⟨_,_,_,_,_,_,_,z⟩:=hq;exact z.elim
  |next=>exact hq.elim
  |brk=>exact hq.elim
  |cont=>exact hq.elim
theorem zd5 {x:Str}{k k' n:Nat}{ps:List Str}{m:Fn}{fs:Rho->Res (List GD)}{fx:Rho->Option Str}{p:Pos}(Cc:CalX X.prog X.w X.K X.mg X.base k x ps n m)(hr:Room k' X.A)(hk:k<=k')(ha:PA X (e::es) (tDA X.K fs))(hx:PA X (e::es) (tRA X fx))(hst:((e::es).all fun e=> !isStar e)=true)(hg:Gl X x)(hdb:(x==("__debug__":Str))=false)
  (hl:∀ρ ys,fs ρ=.ok ys->ys.length=n):PE X (.Call (.Name x p) (e::es) [] pos) (tR X fun ρ=>match fs ρ with|.ok ys=>excOf (m (ys.map (·.2)))|_=>fx ρ):=by
 intro pins s σ H Q I hq;obtain⟨ρ,F,c,so,e1,lv⟩:=hq;have e1:(match fs ρ with|.ok ys=>excOf (m (ys.map (·.2)))|_=>fx ρ)=some c:=e1
 have raw:(∃ys,fs ρ=.ok ys/\excOf (m (ys.map (·.2)))=some c)\/fx ρ=some c:=by
  cases e2:fs ρ with
  |ok ys=>rw[e2]at e1;exact .inl ⟨ys,rfl,e1⟩
  |exc z=>rw[e2]at e1;exact .inr e1
  |no=>rw[e2]at e1;exact .inr e1
 rcases raw with⟨ys,e2,e3⟩|e2
 ·exact thn (z32 Cc hr hk ha hst hg hdb hl I so e2 e3 fun H1 s1 C a H' s' I1 z1 q1 fl=>lv.fly pins σ H1 s1 a C H' s' I1 q1 (Same.trans so.ext (z1.trans fl.same)) fl) fun _ _ z=>z.elim
 ·obtain⟨f,fd,Fo,hm,kp,b⟩:=Cc;rw[ci,aw]at hst;refine gf (z5c I hg hm ?_ hdb);refine W.callWith_K (h₀:=X.base) I.ok.mod.kin kp (thn (hx pos pins s σ H (fun _ _=>False) I ⟨ρ,F,c,so,e2,lv⟩) fun us s1 q=>?_) (z0g (by simpa using hst.1)) (z0z hst.2);obtain⟨vs,H1,I1,r,q⟩:=q;exact q.elim
theorem ze9 {fa:Rho->Res GD}{fx fr:Rho->Option Str}(hs:isStar e=false)(ha:PE X e (tD X.K fa))(hx:PE X e (tR X fx))(hr:PA X es (tRA X fr)):PA X (e::es) (tRA X fun ρ=>match fa ρ with|.ok _=>fr ρ|_=>fx ρ):=by
 intro pos pins s σ H Q I hq;obtain⟨ρ,F,c,so,e1,lv⟩:=hq;have e1:(match fa ρ with|.ok _=>fr ρ|_=>fx ρ)=some c:=e1
 have raw:(∃y,fa ρ=.ok y/\fr ρ=some c)\/fx ρ=some c:=by
  cases e2:fa ρ with
  |ok ys=>rw[e2]at e1;exact .inl ⟨ys,rfl,e1⟩
  |exc z=>rw[e2]at e1;exact .inr e1
  |no=>rw[e2]at e1;exact .inr e1
 rw[z0g hs];show wpAny _ _ (spliced ((false,eval e X.env)::i3 pos (cu es X.env))) _ _ s;rcases raw with⟨y,e2,e3⟩|e2
 ·refine jm (thn (ha pins s σ H (fun v H1=>Same H H1) I ⟨ρ,F,y,so,e2,fun v H1 s1 _=>s1⟩) fun u s1 zz=>?_);obtain⟨v,H1,I1,r1,q1⟩:=zz;exact thn (hr pos pins s1 σ H1 (fun _ _=>False) I1 ⟨ρ,F,c,so.same q1,e3,lv⟩) fun us s2 zz=>by obtain⟨_,_,_,_,z⟩:=zz;exact z.elim
 ·exact jm (thn (hx pins s σ H (fun _ _=>False) I ⟨ρ,F,c,so,e2,lv⟩) fun u s1 zz=>by obtain⟨_,_,_,_,z⟩:=zz;exact z.elim)
theorem zie {a:Expr}{f:Rho->Option Str}(ha:PT X a (tRT X f)):PT X (.UnaryOp .Not a pos) (tRT X f):=PT.imp (zca ha) fun σ H Q z=>z
theorem zh4 {f:Rho->Option Str}(ha:PE X e (tR X f))(he:∀whole,lc e X.env whole=(do let v <-whole;m4 e.pos;m5 [v] (m9 v))):PT X e (tRT X f):=PT.imp (zfv ha he) fun σ H Q z=>z
theorem zgm {f:Rho->Option Str}{i:Nat}{x:Str}{px:Pos}(hN:X.N.Nodup)(hi:X.N[i]?=some x)(hx:Loc X.env.scope x)(hf:X.fn x=true\/X.env.scope.names.lookup x=some .local)(hs:z1w e=false)(ha:PE X e (tR X f)):PS X (.Assign [.Name x px] e pos) (tRS X f):=PS.imp (ps_s hN hi hx ha hs hf) fun D σ H z=>z
theorem zhm {f:Rho->Option Str}(ha:PE X e (tR X f)):PS X (.Return (some e) pos) (tRS X f):=PS.imp (z61 ha) fun D σ H z=>z
theorem zkk {c:Expr}{A B:List Stmt}{ft:Rho->Res Bool}{fx fa fb:Rho->Option Str}(hc:PT X c (tDT X.K ft))(hx:PT X c (tRT X fx))(ha:PSs X A (tRS X fa))(hb:PSs X B (tRS X fb)):PS X (.If c A B pos) (tRS X fun ρ=>match ft ρ with|.ok k=>if k then fa ρ else fb ρ|_=>fx ρ):=by
 intro pins s σ H D I hq;obtain⟨ρ,F,cl,so,e1,lv⟩:=hq;have e1:(match ft ρ with|.ok k=>if k then fa ρ else fb ρ|_=>fx ρ)=some cl:=e1
 have raw:(∃k,ft ρ=.ok k/\(if k then fa ρ else fb ρ)=some cl)\/fx ρ=some cl:=by
  cases e2:ft ρ with
  |ok ys=>rw[e2]at e1;exact .inl ⟨ys,rfl,e1⟩
  |exc z=>rw[e2]at e1;exact .inr e1
  |no=>rw[e2]at e1;exact .inr e1
 rcases raw with⟨k,e2,e3⟩|e2
 ·refine zfk hc ha hb pins s σ H D I ⟨ρ,F,k,so,e2,fun H1 s1=>?_⟩;cases k with
  |true=>exact iteT ⟨ρ,F,cl,so.same s1,e3,lv⟩
  |false=>exact iteF ⟨ρ,F,cl,so.same s1,e3,lv⟩
 ·exact wpAny_If (thn (hx pins s σ H (fun _ _=>False) I ⟨ρ,F,cl,so,e2,lv⟩) fun d s1 zz=>by obtain⟨_,_,z⟩:=zz;exact z.elim)
theorem zid {st:Stmt}{rest:List Stmt}{fs:Rho->Res Out}{fx gx:Rho->Option Str}(h1:PS X st (tDS X.K fs))(hx:PS X st (tRS X fx))(h2:PSs X rest (tRS X gx)):PSs X (st::rest) (tRS X fun ρ=>match fs ρ with|.ok (.nx ρ')=>gx ρ'|.ok _=>none|_=>fx ρ):=by
 intro pins s σ H D I hq;obtain⟨ρ,F,cl,so,e1,lv⟩:=hq;have e1:(match fs ρ with|.ok (.nx ρ')=>gx ρ'|.ok _=>none|_=>fx ρ)=some cl:=e1
 have raw:(∃ρ',fs ρ=.ok (.nx ρ')/\gx ρ'=some cl)\/fx ρ=some cl:=by
  cases e2:fs ρ with
  |ok o=>
   rw[e2]at e1;cases o with
   |nx ρ'=>exact .inl ⟨ρ',rfl,e1⟩
   |rt=>cases e1
   |bk=>cases e1
   |ct=>cases e1
  |exc z=>rw[e2]at e1;exact .inr e1
  |no=>rw[e2]at e1;exact .inr e1
 rcases raw with⟨ρ',e2,e3⟩|e2
 ·exact z2h h1 h2 pins s σ H D I ⟨ρ,F,_,so,e2,fun σ' H' F' so' r f=>⟨ρ',F',cl,so',e3,lv.mono r.1⟩⟩
 ·refine i4 (thn (hx pins s σ H ⟨fun _ _=>False,fun _ _=>False,fun _ _=>False,fun _ _=>False⟩ I ⟨ρ,F,cl,so,e2,lv⟩) fun f s1 q=>?_);cases f with
  |next=>obtain⟨_,_,_,z⟩:=q;exact z.elim
  |brk=>obtain⟨_,_,_,z⟩:=q;exact z.elim
  |cont=>obtain⟨_,_,_,z⟩:=q;exact z.elim
  |ret u=>obtain⟨_,_,_,_,_,z⟩:=q;exact z.elim
theorem zhl {t:Tg}{tg iter:Expr}{body:List Stmt}{fw:Rho->Res (G×List D×Rho)}{fs:Rho->Res Out}{fx:Rho->Option Str}(hp:dh (model X.prog X.w) X.A X.env X.xe)(hc:X.calm=true)(hi:PI X tg iter (tDF X.K fw))(hg:PG X tg (tDG X.K t))(hb:PSs X body (tDS X.K fs))(hx:PSs X body (tRS X fx))(hs:∀x,c8 iter X.env x=pure x):
  PS X (.For tg iter body [] pos) (tRS X fun ρ=>match fw ρ with
   |.ok w=>forX (fun x ρ1=>z0x t (gJ x w.1,x) ρ1>>=fun ρ2=>fs ρ2) (fun x ρ1=>match z0x t (gJ x w.1,x) ρ1 with|.ok ρ2=>fx ρ2|_=>none) w.2.1 w.2.2
   |_=>none):=by
 have hbx:PSs X body (fun D σ H=>tDS X.K fs D σ H\/tRS X fx D σ H):=fun pins s σ H D I z=>z.elim (hb pins s σ H D I) (hx pins s σ H D I);refine PS.imp (zc7 hp hc hi hg hbx hs) fun D σ H zz=>?_;obtain⟨ρ,F,c,so,e,lv⟩:=zz
 dsimp only at e
 cases e1:fw ρ with
 |no=>rw[e1]at e;cases e
 |exc z=>rw[e1]at e;cases e
 |ok w=>
  rw[e1]at e
  dsimp only at e
  refine⟨ρ,F,w,so,e1,fun J B H1 F1 s1 r1 f1 so1 hBo hBi wk=>?_⟩;generalize hf:(fun x ρ1=>z0x t (gJ x w.1,x) ρ1>>=fun ρ2=>fs ρ2)=f at e;generalize hgx:(fun x ρ1=>match z0x t (gJ x w.1,x) ρ1 with|.ok ρ2=>fx ρ2|_=>none)=gx at e
  have kp:∀{F2:Fm} {H2:Hp},Frm F1 H1 F2 H2->Kp B H1 H2:=fun{F2 H2} fr a o e b=>by
   have hO:F1.O a=none:=by
    rcases b with b|b
    ·exact hBo a b
    ·cases e2:F1.O a with
     |none=>rfl
     |some j=>obtain⟨_,_,h'⟩:=so1.own a j e2;rcases h' with⟨xs,h'⟩|⟨xs,h'⟩<;>rw[e]at h'<;>cases h'<;>exact b.elim
   exact(fr a o e hO).1
  let W:Nat->Nat->L2.St->Hp->Prop:=fun i m σ2 H2=>m=w.2.1.length-i/\i<=w.2.1.length/\∃ρ2 F2,StOk X.K F2 H2 σ2 ρ2/\Run F1 F2/\Frm F1 H1 F2 H2/\forX f gx (w.2.1.drop i) ρ2=some c
  refine⟨W,⟨_,rfl,df _,w.2.2,F1,so1,Run.refl,Frm.refl,e⟩,?_⟩
  rintro i m σ2 H2 ⟨rfl,hile,ρ2,F2,so2,r2,f2,e2⟩
  by_cases hlt:i<w.2.1.length
  ·refine .inr ⟨wk.go H2 (kp f2) i hlt,W (i+1) (w.2.1.length-(i+1)),fun σ' H' p=>⟨_,by omega,p⟩,fun x H3 y=>?_⟩;obtain⟨s3,d,hd,rx⟩:=wk.yld H2 (kp f2) i x H3 hlt y
   have hdr:w.2.1.drop i=d::w.2.1.drop (i+1):=by
    have dc:=jp hlt;rw[dc];have:w.2.1[i]=d:=by rw[bg hlt]at hd;exact Option.some.inj hd
    rw[this]
   rw[hdr]at e2;simp only[forX]at e2;have so3:=so2.same s3
   have rx':Rep X.K H3 (BI F2 (gJ d w.1)) x d:=by
    have hBI:∀g a,BI F1 g a->BI F2 g a:=fun g a b=>by cases g<;>cases a<;>first|exact b|(have b':F1.V _:=b;rw[<-r2.2]at b';exact b')|(have b':F1.H0 _≠none/\F1.V _:=b;exact⟨fun z=>b'.1 (none_of r2.1 z),by rw[r2.2];exact b'.2⟩)
    unfold gJ;by_cases hi:imm d=true
    ·rw[if_pos hi];exact Rep.immB d hi rx
    ·rw[if_neg hi];exact rx.weak fun a b=>hBI _ _ (hBi a b)
   cases e5:z0x t (gJ d w.1,d) ρ2 with
   |no=>rw[<-hf,<-hgx]at e2;simp only[e5,Res.no_bind]at e2;cases e2
   |exc z=>rw[<-hf,<-hgx]at e2;simp only[e5,Res.exc_bind]at e2;cases e2
   |ok ρ3=>
    have ef:f d ρ2=fs ρ3:=by rw[<-hf];show(z0x t (gJ d w.1,d) ρ2>>=fun ρ2=>fs ρ2)=_;rw[e5];rfl
    have eg:gx d ρ2=fx ρ3:=by rw[<-hgx];show(match z0x t (gJ d w.1,d) ρ2 with|.ok ρ2=>fx ρ2|_=>none)=_;rw[e5]
    rw[ef,eg]at e2;refine⟨ρ2,F2,(gJ d w.1,d),ρ3,so3,rx',e5,fun σ4 F4 so4 kps=>?_⟩;have r4:Run F1 F4:=r2.trans (Run.of kps.h0 kps.v);have f4:Frm F1 H1 F4 H3:=f2.trans fun a o e n=>⟨s3 a o e,kps.o a n⟩;cases e6:fs ρ3 with
    |ok o1=>
     rw[e6]at e2;refine .inl ⟨ρ3,F4,o1,so4,e6,?_⟩;cases o1 with
     |nx ρ5=>exact fun σ' H' F' so' r' f'=>⟨rfl,hlt,ρ5,F',so',r4.trans r',f4.trans f',e2⟩
     |ct ρ5=>exact fun σ' H' F' so' r' f'=>⟨rfl,hlt,ρ5,F',so',r4.trans r',f4.trans f',e2⟩
     |bk ρ5=>cases e2
     |rt g d=>cases e2
    |exc z=>rw[e6]at e2;exact .inr ⟨ρ3,F4,c,so4,e2,lv.mono (r1.trans r4).1⟩
    |no=>rw[e6]at e2;exact .inr ⟨ρ3,F4,c,so4,e2,lv.mono (r1.trans r4).1⟩
  ·have hie:i=w.2.1.length:=by omega
   subst hie;rw[List.drop_length]at e2;cases e2
theorem zho:PSs X [] (tRS X fun _=>none):=fun pins s σ H D I hq=>(z46 (fun _=>rfl) σ H hq).elim
end
def inX (X:Cx)(i:Nat)(n:Str)(a:Addr)(oe:Obj):Cx:={X with A:=X.A.mark (some (.ref a)),N:=X.N.set i "",calm:=false,pn:=(a,oe)::X.pn,xe:=fun _ _=>False,fx:=some (n,.ref a)}
section
variable {X:Cx}{pins:List (Addr×Obj)}{σ:L2.St}{H:Hp}{s:aa}{i:Nat}{n:Str}{a:Addr}{oe:Obj}
theorem zfj (ok:X.Ok)(nd:X.N.Nodup)(hi:X.N[i]?=some n)(hv:X.env.scope.names.lookup ("":Str)=none)(hl:X.env.scope.names.lookup n=some .local):(inX X i n a oe).Ok:=by
 refine⟨ok.mod,ok.kind,ok.glob,ok.blt,ok.above,ok.inj,ok.has,ok.cab,fun z=>(by cases z),ok.frames,ok.stk,ok.exf,ok.bs,ok.bsz,ok.noex,ok.exfs,ok.funs,ok.frf,fun x u z=>?_⟩;cases z;refine⟨fun hm=>?_,hl⟩;obtain⟨j,hj⟩:=la.mp hm;have hj:(X.N.set i "")[j]?=some n:=hj;by_cases e:i=j
 ·subst e;rw[br (au.mp hi).1]at hj;cases hj;rw[hv]at hl;cases hl
 ·rw[a9 e]at hj;exact e (z27 nd hi hj)
theorem zig (I:Inv X pins σ H s)(nd:X.N.Nodup)(hi:X.N[i]?=some n)(hv:X.env.scope.names.lookup ("":Str)=none)(hl:X.env.scope.names.lookup n=some .local)(hσ:σ[i]?=some (some (.ref a)))
  (ho:s.heap.get? a=some oe) (hH:H a=none) (h1:a≠X.env.locals) (h2:a∉X.fs) (h3:∀v,oe.data≠.cell v):Inv (inX X i n a oe) pins (σ.set i none) H s:=by
 obtain⟨m,hn,hlk⟩:=I.loc;refine⟨zfj I.ok nd hi hv hl,I.os,I.bare,I.base,⟨m,hn,fun j x v e1 e2 e3=>?_⟩,I.cell,I.free,I.freeC,fun p hp=>?_,I.hok,?_,fun x u z=>?_⟩
 ·have e1:(X.N.set i "")[j]?=some x:=e1;by_cases e:i=j
  ·subst e;rw[br (by rw[I.len];exact(au.mp hi).1)]at e2;cases e2
  ·rw[a9 e]at e1 e2;exact hlk j x v e1 e2 e3
 ·rcases a8.mp (show p∈(a,oe)::(X.pn++pins)from hp)with rfl|hp
  ·exact⟨ho,hH,h1,h2,h3⟩
  ·exact I.pin p hp
 ·show(σ.set i none).length=(X.N.set i "").length;rw[bo,bo];exact I.len
 ·cases z;obtain⟨u,r,q⟩:=hlk i n (.ref a) hi hσ (.inl hl);cases r;rcases q with⟨_,q⟩|⟨k,_⟩
  ·exact⟨m,hn,q⟩
  ·have k:X.env.scope.names.lookup n=some .cell\/X.env.scope.names.lookup n=some .free:=k;rcases k with k|k<;>(rw[hl]at k;cases k)
theorem zf3 (ok:X.Ok)(hx:X.fx=none)(hi:X.N[i]?=some n)(I:Inv (inX X i n a oe) pins σ H s):Inv X pins (σ.set i none) H s:=by
 obtain⟨m,hn,hlk⟩:=I.loc;have hlen:σ.length=(X.N.set i "").length:=I.len;rw[bo]at hlen;refine⟨ok,I.os,I.bare,I.base,⟨m,hn,fun j x v e1 e2 e3=>?_⟩,I.cell,I.free,I.freeC,fun p hp=>I.pin p (ak _ hp),I.hok,by rw[bo];exact hlen,fun x u z=>by rw[hx]at z;cases z⟩;by_cases e:i=j
 ·subst e;rw[br (by rw[hlen];exact(au.mp hi).1)]at e2;cases e2
 ·rw[a9 e]at e2;exact hlk j x v (show(X.N.set i "")[j]?=some x by rw[a9 e];exact e1) e2 e3
theorem zgv {M:Model}{A:ce}{E:Value->aa->Prop}{Q:Unit->aa->Prop}{v:V}{pos:Pos}(I:Inv X pins σ H s)(hx:X.fx=none)(nd:X.N.Nodup)(hi:X.N[i]?=some n)(hl:X.env.scope.names.lookup n=some .local)(hσ:σ[i]?=some (some v))
  (h:∀s',Inv X pins (σ.set i none) H s'->Q () s'):wpAny M A (gr X.env n pos) Q E s:=by
 obtain⟨m,hn,hlk⟩:=id I.loc;have cne:=I.cne;obtain⟨u,r,q⟩:=hlk i n v hi hσ (.inl hl)
 have hv:m n=some u:=by
  rcases q with⟨_,q⟩|⟨k,_⟩
  ·exact q
  ·have k:X.env.scope.names.lookup n=some .cell\/X.env.scope.names.lookup n=some .free:=k;rcases k with k|k<;>(rw[hl]at k;cases k)
 have hcls:(X.env.scope.kind==.class||(X.env.scope.kind==.module&&X.env.locals != X.env.globals))=false:=by rw[I.ok.kind];rfl
 unfold gr;refine wpAny_onRaise (wpAny_unbindName_local hl hn hv hcls fun h' u' hn' hs=>h _ ?_);obtain⟨oL,_,_,hoL,_⟩:=id hn;have old:∀b o,X.s₀.heap.get? b=some o->b≠X.env.locals:=fun b o e=>b9 (bh (ax e) I.ok.above);refine⟨I.ok,I.os,I.bare,⟨fun b o e z hb hx=>(hs.2 b (old b o e)).trans (I.base.keep b o e z hb hx),fun b o e z hb hx=>?_,I.base.free,fun b o e hx=>?_,I.base.tups,I.base.frzs,I.base.tbls⟩,⟨_,hn',fun j y w e1 e2 e3=>?_⟩,fun y c e=>?_,I.free,I.freeC,fun p hp=>?_,fun b ob e=>?_,by rw[bo];exact I.len,fun x u z=>by rw[hx]at z;cases z⟩
 ·obtain⟨sl,e1⟩:=I.base.slot b o e z hb hx;exact⟨sl,(hs.2 b (old b o e)).trans e1⟩
 ·obtain⟨o',e1⟩:=I.base.there b o e hx;exact⟨o',(hs.2 b (old b o e)).trans e1⟩
 ·by_cases hj:i=j
  ·subst hj;rw[br (by rw[I.len];exact(au.mp hi).1)]at e2;cases e2
  ·rw[a9 hj]at e2;obtain⟨u2,r2,q2⟩:=hlk j y w e1 e2 e3;refine⟨u2,r2,?_⟩;have hy:y≠n:=fun z=>hj (z27 nd hi (z▸e1));rcases q2 with⟨k,q2⟩|⟨k,c,e,z⟩
   ·exact .inl ⟨k,by simp only[if_neg hy];exact q2⟩
   ·exact .inr ⟨k,c,e,z.sameBut hs (cne y c e)⟩
 ·obtain⟨w,z⟩:=I.cell y c e;exact⟨w,z.sameBut hs (cne y c e)⟩
 ·obtain⟨e,nn,ne,nf,dd⟩:=I.pin p hp;exact⟨(hs.2 p.1 ne).trans e,nn,ne,nf,dd⟩
 ·have nl:∀c w,H c=some w->c≠X.env.locals:=fun c w q z=>by rw[z,I.free]at q;cases q
  exact(I.hok b ob e).stay (fun c w hc q=>(hs.2 c (hc.elim (fun z=>by rw[z];exact nl b _ e) fun z=>nl c _ z)).trans q) (fun _ q=>q) fun _ _ q=>q
theorem z9g {M:Model}{Dn:Ends}{pos:Pos}{D2:Ends}{E:Value->aa->Prop}{f:Flow}{s:aa}(ok:X.Ok)(hx:X.fx=none)(nd:X.N.Nodup)(hi:X.N[i]?=some n)(hl:X.env.scope.names.lookup n=some .local)(hnx:∀σ' H',D2.nx σ' H'->Dn.nx (σ'.set i none) H')(hrt:∀v H',D2.rt v H'->Dn.rt v H')(hbk:∀σ' H',¬D2.bk σ' H')(hct:∀σ' H',¬D2.ct σ' H')
  (h:SP (inX X i n a oe) pins D2 f s):wpAny M X.A (do bindName X.env n .none;gr X.env n pos) (fun _ s5=>SP X pins Dn f s5) E s:=by
 have key:∀{σ':L2.St} {H':Hp} {Q:Unit->aa->Prop},Inv (inX X i n a oe) pins σ' H' s->(∀s5,Inv X pins (σ'.set i none) H' s5->Q () s5)->wpAny M X.A (do bindName X.env n .none;gr X.env n pos) Q E s:=fun{σ' H' Q} I k=>by
  have I1:=zf3 ok hx hi I;refine ay (wpAny_bindName (z2v I1 nd hi (.inl hl) (v:=.non) rfl (fun s4 I4 _=>?_) (.inr hl)));have hlt:i<(σ'.set i none).length:=by rw[I1.len];exact(au.mp hi).1
  refine zgv I4 hx nd hi hl (v:=.non) (br hlt) fun s5 I5=>k s5 ?_;rw[mr,mr]at I5;exact I5
 cases f with
 |next=>obtain⟨σ',H',I,q⟩:=h;exact key I fun s5 I5=>⟨_,H',I5,hnx σ' H' q⟩
 |ret u=>obtain⟨v,σ',H',I,r,q⟩:=h;exact key I fun s5 I5=>⟨v,_,H',I5,r,hrt v H' q⟩
 |brk=>obtain⟨σ',H',_,q⟩:=h;exact(hbk σ' H' q).elim
 |cont=>obtain⟨σ',H',_,q⟩:=h;exact(hct σ' H' q).elim
theorem za3 {P:ao}{w:World}{base:Heap}{outer:List Env}{H H':Hp}{s s':aa}{C a:Addr}(f:Fly P w base outer H s C a H' s'):H' a=none:=by
 obtain⟨B,t,_,hB,_,fl⟩:=f.hh;cases e:H' a with
 |none=>rfl
 |some u=>obtain⟨o,q⟩:=z2p (hB a u e);rw[fl.2.1]at q;cases q
end
section
variable {X:Cx}{n x:Str}{p p1 p2 pos:Pos}{a C:Addr}{oe:Obj}{v:V}{u:Value}{b:Bool}
theorem zl9 (hx:X.fx=some (n,.ref a))(hl:X.env.scope.names.lookup n=some .local)(hd:(n==("__debug__":Str))=false):PE X (.Name n p) (fun _ H Q=>Q (.ref a) H):=by intro pins s σ H Q I h;obtain⟨m,hn,hm⟩:=I.fx n _ hx;exact l5 (lf I.ok.kind hl hn hm ⟨.ref a,H,I,rfl,h⟩) hd
def Xh (X:Cx)(a:Addr)(oe:Obj):Prop:=∀pins σ H s,Inv X pins σ H s->s.heap.get? a=some oe
end
section
theorem and2 {a b:Bool}(h:(a&&b)=true):a=true/\b=true:=av.mp h
theorem and3 {a b c:Bool}(h:(a&&b&&c)=true):a=true/\b=true/\c=true:=⟨(and2 (and2 h).1).1,(and2 (and2 h).1).2,(and2 h).2⟩
theorem and4 {a b c d:Bool}(h:(a&&b&&c&&d)=true):a=true/\b=true/\c=true/\d=true:=⟨(and3 (and2 h).1).1,(and3 (and2 h).1).2.1,(and3 (and2 h).1).2.2,(and2 h).2⟩
theorem and5 {a b c d e:Bool}(h:(a&&b&&c&&d&&e)=true):a=true/\b=true/\c=true/\d=true/\e=true:=⟨(and4 (and2 h).1).1,(and4 (and2 h).1).2.1,(and4 (and2 h).1).2.2.1,(and4 (and2 h).1).2.2.2,(and2 h).2⟩
theorem z1l {b:Bool}(h:(!b)=true):b=false:=by cases b<;>first|rfl|cases h
theorem ff {b:Bool}{p:Prop}(h:b=false)(z:b=true):p:=by rw[h]at z;cases z
theorem z1b {α:Type}{l:List α}(h:l.isEmpty=true):l=[]:=by cases l<;>first|rfl|cases h
theorem z2b {α:Type}{l:List α}(h:(!l.isEmpty)=true):∃x r,l=x::r:=by cases l<;>first|exact⟨_,_,rfl⟩|cases h
theorem z04 {α:Type}{o:Option α}{f:α->Bool}(h:o.any f=true):∃v,o=some v/\f v=true:=by
 cases o with
 |none=>cases h
 |some v=>exact⟨v,rfl,h⟩
theorem v_of {α:Type}{o:Option α}{v:α}{q:α->Prop}(h:o=some v)(d:o=none\/∃u,o=some u/\q u):q v:=by
 rcases d with d|⟨u,d,z⟩
 ·rw[d]at h;cases h
 ·rw[d]at h;cases h;exact z
theorem q_Nm {e:Expr}{v:Str}(h:vNm e=some v):∃p,e=.Name v p:=v_of (q:=fun v=>∃p,e=.Name v p) h (by cases e<;>first|exact .inl rfl|exact .inr ⟨_,rfl,_,rfl⟩)
theorem zcp {e:Expr}{v:Const}(h:vCst e=some v):∃k p,e=.Constant v k p:=v_of (q:=fun v=>∃k p,e=.Constant v k p) h (by cases e<;>first|exact .inl rfl|exact .inr ⟨_,rfl,_,_,rfl⟩)
theorem zk9 {e:Expr}{v:Expr×gy×Expr}(h:vBin e=some v):∃p,e=.BinOp v.1 v.2.1 v.2.2 p:=v_of (q:=fun v=>∃p,e=.BinOp v.1 v.2.1 v.2.2 p) h (by cases e<;>first|exact .inl rfl|exact .inr ⟨_,rfl,_,rfl⟩)
theorem q_Un {e:Expr}{v:UnaryOp×Expr}(h:vUn e=some v):∃p,e=.UnaryOp v.1 v.2 p:=v_of (q:=fun v=>∃p,e=.UnaryOp v.1 v.2 p) h (by cases e<;>first|exact .inl rfl|exact .inr ⟨_,rfl,_,rfl⟩)
theorem q_Cm {e:Expr}{v:Expr×List CmpOp×List Expr}(h:vCm e=some v):∃p,e=.Compare v.1 v.2.1 v.2.2 p:=v_of (q:=fun v=>∃p,e=.Compare v.1 v.2.1 v.2.2 p) h (by cases e<;>first|exact .inl rfl|exact .inr ⟨_,rfl,_,rfl⟩)
theorem q_Bo {e:Expr}{v:BoolOp×List Expr×Pos}(h:vBo e=some v):e=.BoolOp v.1 v.2.1 v.2.2:=v_of (q:=fun v=>e=.BoolOp v.1 v.2.1 v.2.2) h (by cases e<;>first|exact .inl rfl|exact .inr ⟨_,rfl,rfl⟩)
theorem zjo {e:Expr}{v:Expr×Expr×Expr}(h:vIfE e=some v):∃p,e=.IfExp v.1 v.2.1 v.2.2 p:=v_of (q:=fun v=>∃p,e=.IfExp v.1 v.2.1 v.2.2 p) h (by cases e<;>first|exact .inl rfl|exact .inr ⟨_,rfl,_,rfl⟩)
theorem z9p {e:Expr}{v:List Expr}(h:vTup e=some v):∃k p,e=.Tuple v k p:=v_of (q:=fun v=>∃k p,e=.Tuple v k p) h (by cases e<;>first|exact .inl rfl|exact .inr ⟨_,rfl,_,_,rfl⟩)
theorem zku {e:Expr}{v:List Expr}(h:vLst e=some v):∃p,e=.List v p:=v_of (q:=fun v=>∃p,e=.List v p) h (by cases e<;>first|exact .inl rfl|exact .inr ⟨_,rfl,_,rfl⟩)
theorem q_Di {e:Expr}{v:List (Option Expr)×List Expr}(h:vDi e=some v):∃p,e=.Dict v.1 v.2 p:=v_of (q:=fun v=>∃p,e=.Dict v.1 v.2 p) h (by cases e<;>first|exact .inl rfl|exact .inr ⟨_,rfl,_,rfl⟩)
theorem ze3 {e:Expr}{v:Expr×Expr}(h:vSub e=some v):∃p,e=.Subscript v.1 v.2 p:=v_of (q:=fun v=>∃p,e=.Subscript v.1 v.2 p) h (by cases e<;>first|exact .inl rfl|exact .inr ⟨_,rfl,_,rfl⟩)
theorem zmd {e:Expr}{v:Option Expr×Option Expr×Option Expr}(h:vSli e=some v):∃p,e=.Slice v.1 v.2.1 v.2.2 p:=v_of (q:=fun v=>∃p,e=.Slice v.1 v.2.1 v.2.2 p) h (by cases e<;>first|exact .inl rfl|exact .inr ⟨_,rfl,_,rfl⟩)
theorem q_Ca {e:Expr}{v:Expr×List Expr×List kh×Pos}(h:vCa e=some v):e=.Call v.1 v.2.1 v.2.2.1 v.2.2.2:=v_of (q:=fun v=>e=.Call v.1 v.2.1 v.2.2.1 v.2.2.2) h (by cases e<;>first|exact .inl rfl|exact .inr ⟨_,rfl,rfl⟩)
theorem q_At {e:Expr}{v:Expr×Str×Pos}(h:vAt e=some v):e=.Attribute v.1 v.2.1 v.2.2:=v_of (q:=fun v=>e=.Attribute v.1 v.2.1 v.2.2) h (by cases e<;>first|exact .inl rfl|exact .inr ⟨_,rfl,rfl⟩)
theorem q_LC {e:Expr}{v:Expr×List g8×Scope}(h:vLC e=some v):∃p,e=.ListComp v.1 v.2.1 v.2.2 p:=v_of (q:=fun v=>∃p,e=.ListComp v.1 v.2.1 v.2.2 p) h (by cases e<;>first|exact .inl rfl|exact .inr ⟨_,rfl,_,rfl⟩)
theorem z2a {α:Type}{l:List α}{v:α}(h:vOne l=some v):l=[v]:=by rcases l with _|⟨x,_|⟨y,l⟩⟩<;>cases h;rfl
theorem zl0 {α:Type}{l:List α}{v:α×α}(h:vTwo l=some v):l=[v.1,v.2]:=by rcases l with _|⟨x,_|⟨y,_|⟨z,l⟩⟩⟩<;>cases h;rfl
theorem z1q {e:Expr}{v:Str×List Expr}(h:z3c e=some v):∃q p,e=.Call (.Name v.1 q) v.2 [] p:=by
 obtain⟨u,hu,h⟩:=f8.mp h;cases hk:u.2.2.1.isEmpty with
 |false=>rw[hk]at h;exact absurd h nofun
 |true=>rw[hk]at h;obtain⟨x,hx,rfl⟩:=cv.mp h;obtain⟨q,hq⟩:=q_Nm hx;exact⟨q,_,by rw[q_Ca hu,hq,z1b hk]⟩
theorem q_Mt {e:Expr}{v:Expr×Str×List Expr×Bool}(h:vMt e=some v):∃ap cp,e=.Call (.Attribute v.1 v.2.1 ap) v.2.2.1 [] cp/\v.2.2.2=(ap.endLine==cp.line):=by
 obtain⟨u,hu,h⟩:=f8.mp h;cases hk:u.2.2.1.isEmpty with
 |false=>rw[hk]at h;exact absurd h nofun
 |true=>rw[hk]at h;obtain⟨x,hx,rfl⟩:=cv.mp h;exact⟨_,_,by rw[q_Ca hu,q_At hx,z1b hk],rfl⟩
theorem z25 {f:Str->Bool}{e:Expr}(h:hd1 f e=true):∃x p,e=.Name x p/\f x=true:=by obtain⟨x,hx,h⟩:=z04 h;obtain⟨p,hp⟩:=q_Nm hx;exact⟨x,p,hp,h⟩
def zje (K:W.Frag)(mg:Str->Option Value)(c C:Str)(b:Bool):Prop:=∃A v u,mg c=some (.ref A)/\XA K A/\XV K u/\W.subIn K (.ref A) u=some b/\RelV v u/\(∀w,RelV v w->w=u)/\(mg C=some u\/(mg C=none/\ck C=some u/\C≠"__name__"))
def RsOk (K:W.Frag)(mg:Str->Option Value)(c:Str):Prop:=∃C,mg c=some (.ref C)/\exV K C=true
def zlz (K:W.Frag)(mg:Str->Option Value)(c B:Str):Prop:=∃C D,mg c=some (.ref C)/\mg B=some (.ref D)/\exV K C=true/\exV K D=true/\W.subIn K (.ref C) (.ref D)=some true
structure Xok (Γ:Gm)(K:W.Frag)(mg:Str->Option Value):Prop where
 sub:∀c C b,Γ.sub.contains (c,C,b)=true->zje K mg c C b
 rs:∀c,Γ.rs.contains c=true->RsOk K mg c
 hnd:∀c B,Γ.hnd.contains (c,B)=true->zlz K mg c B
structure Cok (Γ:Gm)(Κ:List D)(Φ:List Fn)(X:Cx)(r:Nat):Prop where
 hN:X.N=Γ.N
 hs:X.env.scope=Γ.sc
 nd:Γ.N.Nodup
 fn:Γ.blk=false->∀x,X.fn x=true
 kind:Γ.sc.kind=.function
 free:∀x,Γ.free.contains x=true->X.mg x=none
 fns:∀(j:Nat) f n,Γ.fns[j]?=some (f,n)->∃m k ps,Φ[j]?=some m/\k<=r/\Cal X.prog X.w X.K X.mg X.base k f ps (spD X.K n m)
 cst:∀(j:Nat) x,Γ.cst[j]?=some x->∃d a,Κ[j]?=some d/\X.mg x=some (.ref a)/\∀H B,B none->Rep X.K H B (.ref a) d
 fnx:∀(j:Nat) f n,Γ.fns[j]?=some (f,n)->∃m k ps,Φ[j]?=some m/\k<=r/\CalX X.prog X.w X.K X.mg X.base k f ps n m
 room:Γ.cm=true->Room r X.A
 calm:Γ.cm=true->X.calm=true
 hu:X.A.units+64<cLine
 fun_:Γ.blk=false->X.stack=X.env::X.outer/\X.env.frame=some X.env.locals
 fx0:Γ.xc=none->X.fx=none
 xc:∀n c,Γ.xc=some (n,c)->∃a oe C,X.fx=some (n,.ref a)/\Xh X a oe/\oe.cls=.ref C/\X.mg c=some (.ref C)
 xk:Xok Γ X.K X.mg
section
variable {Γ:Gm}{Κ:List D}{Φ:List Fn}{X:Cx}{r:Nat}
theorem Cok.gl (k:Cok Γ Κ Φ X r){x:Str}(h:glB Γ x=true):Gl X x/\(x==("__debug__":Str))=false:=by unfold glB at h;rw[aw]at h;refine⟨?_,by simpa using h.2⟩;show X.env.scope.names.lookup x=_;rw[k.hs];simpa using h.1
theorem Cok.vis (k:Cok Γ Κ Φ X r){i:Nat}{x:Str}(h:visB Γ i x=true):X.N[i]?=some x/\Vis X.env.scope x/\(x==("__debug__":Str))=false/\(x==("__classdict__":Str))=false:=by
 unfold visB at h;simp only[aw,kz,beq_iff_eq]at h;have⟨⟨⟨h1,h2⟩,h3⟩,h4⟩:=h;refine⟨by rw[k.hN];exact h1,?_,by simpa using h3,by simpa using h4⟩;unfold Vis;rw[k.hs];rcases h2 with(h2|h2)|h2
 ·exact .inl h2
 ·exact .inr (.inl h2)
 ·exact .inr (.inr h2)
theorem Cok.loc (k:Cok Γ Κ Φ X r){i:Nat}{x:Str}(h:locB Γ i x=true):X.N[i]?=some x/\Loc X.env.scope x/\(X.fn x=true\/X.env.scope.names.lookup x=some .local):=by
 unfold locB at h;simp only[aw,kz,beq_iff_eq,mj]at h;obtain⟨h1,h2⟩:=h;refine⟨by rw[k.hN];exact h1,?_,?_⟩
 ·unfold L2.Loc;rw[k.hs];rcases h2 with h2|⟨_,h2⟩
  ·exact .inl h2
  ·exact .inr h2
 ·rcases h2 with h2|⟨h2,_⟩
  ·exact .inr (by rw[k.hs];exact h2)
  ·exact .inl (k.fn h2 x)
theorem Cok.blt (k:Cok Γ Κ Φ X r){x:Str}(h:bltB Γ x=true):Gl X x/\X.mg x=none/\(x==("__debug__":Str))=false/\x≠"__name__":=by unfold bltB at h;simp only[av]at h;obtain⟨⟨h1,h2⟩,h3⟩:=h;obtain⟨g1,g2⟩:=k.gl h1;exact⟨g1,k.free x h2,g2,by simpa using h3⟩
theorem zec {X:Cx}{scope:Scope}{N':List Str}{C:Addr}{fp:List Addr}{s:aa}{H:Hp}:(blk X scope N' C fp s H).env.scope=zfb scope X.env.scope:=rfl
theorem Cok.blk (k:Cok Γ Κ Φ X r){scope:Scope}{N':List Str}(hk:scope.kind=.function)(nd:N'.Nodup)(C:Addr)(fp:List Addr)(s:aa)(H:Hp):Cok {Γ with N:=N',sc:=zfb scope Γ.sc,blk:=true,xc:=none} Κ Φ (blk X scope N' C fp s H) r where
 hN:=rfl
 hs:=by rw[zec,k.hs]
 nd:=nd
 fn:=fun z=>by cases z
 kind:=hk
 free:=k.free
 fns:=k.fns
 cst:=k.cst
 fnx:=k.fnx
 room:=k.room
 calm:=k.calm
 hu:=k.hu
 fun_:=fun z=>by cases z
 fx0:=fun _=>rfl
 xc:=fun _ _ z=>by cases z
 xk:=⟨k.xk.sub,k.xk.rs,k.xk.hnd⟩
theorem zkh (k:Cok Γ Κ Φ X r)(all:List Nat){is:List Nat}:∀{es:List Expr},zdo Γ is es=true->PGs X es (tDGs X.K all is)/\(dm es X.env).length=is.length/\(dm es X.env).findIdx? (·.1)=none:=by
 induction is with
 |nil=>intro es h;cases z1b h;exact⟨zfn,rfl,rfl⟩
 |cons i is ih=>
  intro es h;cases es with
  |nil=>cases h
  |cons e es=>
   obtain⟨h0,h9⟩:=and2 h;obtain⟨x,p,rfl,h0⟩:=z25 h0;obtain⟨h1,h2,h3⟩:=k.loc h0;obtain⟨a1,a2,a3⟩:=ih h9;refine⟨zf2 (by rw[k.hN];exact k.nd) h1 h2 h3 a1,?_,?_⟩
   ·show(dm es X.env).length+1=_;rw[a2];rfl
   ·show((false,ka (.Name x p) X.env)::dm es X.env).findIdx? (·.1)=none;rw[List.findIdx?_cons,a3];rfl
theorem zay (k:Cok Γ Κ Φ X r){t:Tg}{e:Expr}(h:zak Γ t e=true):PG X e (tDG X.K t):=by
 cases t with
 |nm i=>obtain⟨x,p,rfl,h9⟩:=z25 h;obtain⟨h1,h2,h3⟩:=k.loc h9;exact zi9 (by rw[k.hN];exact k.nd) h1 h2 h3
 |tp is=>obtain⟨h0,h⟩:=and2 h;obtain⟨v,hv,h9⟩:=z04 h;obtain⟨_,_,rfl⟩:=z9p hv;obtain⟨a1,a2,a3⟩:=zkh k is h9;exact zkt (k.calm h0) a1 rfl a3 a2.symm
theorem z37 {e:Expr}(h:plainT e=true)(env:Env):∀whole,lc e env whole=(do let v <-whole;m4 e.pos;m5 [v] (m9 v)):=by
 intro whole;cases e<;>first|(cases h;done)|rfl|skip
 rename_i op x p;cases op<;>first|(cases h;done)|rfl
theorem z3q {e:Expr}(h:za6 e=true)(env:Env):∀x,c8 e env x=pure x:=by intro x;cases e<;>first|(cases h;done)|rfl
end
variable (Κ:List D)(Φ:List Fn)
theorem zco (c:C):∀(Γ:Gm) (es:List Expr) (ρ:Rho) (ys:List GD),chkA Γ c es=true->evA Κ Φ c ρ=.ok ys->ys.length=es.length/\(es.all fun e=>!isStar e)=true:=by
 induction c with
 |nil=>intro Γ es ρ ys h e;cases z1b h;cases e;exact⟨rfl,rfl⟩
 |cons a r _ ih=>
  intro Γ es ρ ys h e;cases es with
  |nil=>cases h
  |cons x es=>obtain⟨h1,_,h3⟩:=and3 h;obtain⟨y,_,e⟩:=Res.bind_ok e;obtain⟨ys',e2,e⟩:=Res.bind_ok e;cases e;obtain⟨i1,i2⟩:=ih Γ es ρ ys' h3 e2;exact⟨by rw[aj,aj,i1],by rw[ci,i2,h1];rfl⟩
 |_=>exact fun _ _ _ _ h=>ff rfl h
end
section
theorem zd8 {Γ:Gm}{T:String}{t:Expr}(h:tyB Γ T t=true):∃x p,t=.Name x p/\x=Str.ofString T/\bltB Γ x=true/\T∈tysB:=by obtain⟨x,p,e,h⟩:=z25 h;obtain⟨h1,h2,h3⟩:=and3 h;exact⟨x,p,e,n6 h1,h2,b6.mp h3⟩
theorem zas {T:String}(h:T∈tysB):ck (Str.ofString T)=some (.type T):=by simp only[tysB,a8,cy,or_false]at h;rcases h with rfl|rfl|rfl|rfl|rfl<;>decide+kernel
variable (Κ:List D)(Φ:List Fn)
theorem z0t {Γ:Gm}:∀{c:C} {es:List Expr},chkA Γ c es=true->(es.all fun e=>!isStar e)=true:=by
 intro c
 induction c with
 |nil=>intro es h;cases z1b h;rfl
 |cons a r _ ih=>
  intro es h;cases es with
  |nil=>rfl
  |cons e es=>obtain⟨h1,_,h3⟩:=and3 h;rw[ci,ih h3,h1];rfl
 |_=>exact fun h=>ff rfl h
theorem z1y {Γ:Gm}{c:C}{es:List Expr}(h:chkA Γ c es=true):∀ρ ys,evA Κ Φ c ρ=.ok ys->ys.length=es.length:=fun ρ ys e=>(zco Κ Φ c Γ es ρ ys h e).1
structure Sd (c:C):Prop where
 E:∀(Γ:Gm) (X:Cx) (r:Nat) (e:Expr),Cok Γ Κ Φ X r->chkE Γ c e=true->PE X e (tD X.K (evE Κ Φ c))
 T:∀(Γ:Gm) (X:Cx) (r:Nat) (e:Expr),Cok Γ Κ Φ X r->chkT Γ c e=true->PT X e (tDT X.K (evT Κ Φ c))/\((∃o l p,e=.BoolOp o l p)->PW X e (tDT X.K (evT Κ Φ c)))
 Q:∀(Γ:Gm) (X:Cx) (r:Nat) (l:Expr) (ops:List CmpOp) (rs:List Expr) (pos:Pos),Cok Γ Κ Φ X r->chkE Γ c (.Compare l ops rs pos)=true->PT X (.Compare l ops rs pos) (tDT X.K fun ρ=>evE Κ Φ c ρ>>=fun x=>z1f x.2)
 A:∀(Γ:Gm) (X:Cx) (r:Nat) (es:List Expr),Cok Γ Κ Φ X r->chkA Γ c es=true->PA X es (tDA X.K (evA Κ Φ c))
 O:∀(Γ:Gm) (X:Cx) (r:Nat) (e:Option Expr),Cok Γ Κ Φ X r->chkO Γ c e=true->PO X e (tDO X.K (evO Κ Φ c))
 W:∀(Γ:Gm) (X:Cx) (r:Nat) (e tg:Expr),Cok Γ Κ Φ X r->zel c tg=true->chkW Γ c e=true->PI X tg e (tDW X.K (evW Κ Φ c))
 G:∀(Γ:Gm) (X:Cx) (r:Nat) (e:Expr),Cok Γ Κ Φ X r->chkG Γ c e=true->∃a,c=.tv a/\PE X e (tD X.K (evE Κ Φ a))
def isX:C->Nat
 |.and _ _|.or _ _|.not _|.tv _|.nil|.cons _ _|.rng _|.enum _=>2
 |.cmp _ _ _=>1
 |_=>0
variable {Κ:List D}{Φ:List Fn}{a b c:C}
section
variable {Γ:Gm}{e tg:Expr}{es:List Expr}{o:Option Expr}
theorem x_T (h:isX c<2):chkT Γ c e=false:=by cases c<;>first|rfl|exact absurd h (cq 2)
theorem x_A (h:isX c<2):chkA Γ c es=false:=by cases c<;>first|rfl|exact absurd h (cq 2)
theorem x_O (h:isX c<2):chkO Γ c o=false:=by cases c<;>first|rfl|exact absurd h (cq 2)
theorem x_W (h:isX c<2):chkW Γ c e=false:=by cases c<;>first|rfl|exact absurd h (cq 2)
theorem x_G (h:isX c<2):chkG Γ c e=false:=by cases c<;>first|rfl|exact absurd h (cq 2)
end
theorem Sd.q (hE:∀(Γ:Gm) (X:Cx) (r:Nat) (e:Expr),Cok Γ Κ Φ X r->chkE Γ c e=true->PE X e (tD X.K (evE Κ Φ c)))(hQ:∀(Γ:Gm) (X:Cx) (r:Nat) (l:Expr) (ops:List CmpOp) (rs:List Expr) (pos:Pos),Cok Γ Κ Φ X r->chkE Γ c (.Compare l ops rs pos)=true->PT X (.Compare l ops rs pos) (tDT X.K fun ρ=>evE Κ Φ c ρ>>=fun x=>z1f x.2))(hx:isX c<2):Sd Κ Φ c:=⟨hE,fun _ _ _ _ _ h=>ff (x_T hx) h,hQ,fun _ _ _ _ _ h=>ff (x_A hx) h,fun _ _ _ _ _ h=>ff (x_O hx) h,fun _ _ _ _ _ _ _ h=>ff (x_W hx) h,fun _ _ _ _ _ h=>ff (x_G hx) h⟩
theorem x_Q {Γ:Gm}{l:Expr}{ops:List CmpOp}{rs:List Expr}{pos:Pos}(h:isX c=0):chkE Γ c (.Compare l ops rs pos)=false:=by cases c<;>first|rfl|(cases h;done)
theorem Sd.x (hE:∀(Γ:Gm) (X:Cx) (r:Nat) (e:Expr),Cok Γ Κ Φ X r->chkE Γ c e=true->PE X e (tD X.K (evE Κ Φ c)))(hx:isX c=0):Sd Κ Φ c:=Sd.q hE (fun _ _ _ _ _ _ _ _ h=>ff (x_Q hx) h) (by rw[hx];exact Nat.zero_lt_two)
theorem zma {i:Nat}:Sd Κ Φ (.var i):=Sd.x (fun Γ X r e k h=>by obtain⟨x,p,rfl,h⟩:=z25 h;obtain⟨h1,h2,h3,h4⟩:=k.vis h;exact zky h1 h2 h3 h4) rfl
theorem p_bl {b:Bool}:Sd Κ Φ (.bl b):=Sd.x (fun Γ X r e k h=>by obtain⟨_,_,rfl⟩:=zcp (ny h);exact z5t zmn fun _ _=>rfl) rfl
theorem zlv {b:Int}:Sd Κ Φ (.int b):=Sd.x (fun Γ X r e k h=>by obtain⟨_,_,rfl⟩:=zcp (ny h);exact z5t zgf fun _ _=>rfl) rfl
theorem zjy {b:Str}:Sd Κ Φ (.str b):=Sd.x (fun Γ X r e k h=>by obtain⟨h1,h2⟩:=and2 h;obtain⟨_,_,rfl⟩:=zcp (ny h1);exact z5t zfm fun _ _=>⟨rfl,h2⟩) rfl
theorem zlh {op:gy}(ia:Sd Κ Φ a)(ib:Sd Κ Φ b):Sd Κ Φ (.bin op a b):=Sd.x (fun Γ X r e k h=>by obtain⟨v,hv,h9⟩:=z04 h;obtain⟨p,rfl⟩:=zk9 hv;obtain⟨h1,h2,h3,h4⟩:=and4 h9;cases ny h1;exact zka h2 (ia.E Γ X r _ k h3) (ib.E Γ X r _ k h4)) rfl
theorem zj8 (ia:Sd Κ Φ a):Sd Κ Φ (.neg a):=Sd.x (fun Γ X r e k h=>by obtain⟨⟨o,x⟩,hv,h9⟩:=z04 h;obtain⟨p,rfl⟩:=q_Un hv;obtain⟨h1,h2⟩:=and2 h9;cases ny h1;exact zlm (ia.E Γ X r _ k h2)) rfl
theorem zj2 {Γ:Gm}{op:CmpOp}{e:Expr}(h:chkE Γ (.cmp op a b) e=true):∃l r p,e=.Compare l [op] [r] p/\z80 op=true/\gz op r=false/\chkE Γ a l=true/\chkE Γ b r=true:=by obtain⟨⟨l,o,rs⟩,hv,h9⟩:=z04 h;obtain⟨p,rfl⟩:=q_Cm hv;obtain⟨h1,h2⟩:=and2 h9;obtain⟨r,hr,h3⟩:=z04 h2;cases ny h1;cases z2a hr;obtain⟨h2,h3,h4,h5⟩:=and4 h3;exact⟨l,r,p,rfl,h2,z1l h3,h4,h5⟩
theorem zjf {op:CmpOp}(ia:Sd Κ Φ a)(ib:Sd Κ Φ b):Sd Κ Φ (.cmp op a b):=Sd.q (fun Γ X r e k h=>by
 obtain⟨_,_,_,rfl,h2,h3,h4,h5⟩:=zj2 h;exact zle k.hu h2 h3 (ia.E Γ X r _ k h4) (ib.E Γ X r _ k h5)) (fun Γ X r l ops rs p k h=>by
 obtain⟨_,_,_,he,h2,h3,h4,h5⟩:=zj2 h;cases he;exact zmw k.hu h2 h3 (ia.E Γ X r _ k h4) (ib.E Γ X r _ k h5)) Nat.one_lt_two
theorem z3t {f g:Expr->Bool}{o:BoolOp}{p:Pos}{xs:List Expr}(h:z7h f g o p xs=true):(∃x y,xs=[x,y]/\f x=true/\g y=true)\/∃x y z r,xs=x::y::z::r/\f x=true/\g (.BoolOp o (y::z::r) p)=true:=by
 rcases xs with _|⟨x,_|⟨y,_|⟨z,xs⟩⟩⟩
 ·cases h
 ·cases h
 ·exact .inl ⟨x,y,rfl,(and2 h).1,(and2 h).2⟩
 ·exact .inr ⟨x,y,z,xs,rfl,(and2 h).1,(and2 h).2⟩
theorem zk4 (ia:Sd Κ Φ a)(ib:Sd Κ Φ b):Sd Κ Φ (.and a b) where
 E:=fun Γ X r e k h=>by
  obtain⟨⟨o,xs,p⟩,hv,h9⟩:=z04 h;cases q_Bo hv;obtain⟨h1,h2⟩:=and2 h9;cases ny h1;rcases z3t h2 with⟨x,y,rfl,h3,h4⟩|⟨x,y,z,t,rfl,h3,h4⟩
  ·exact zhb (ia.E Γ X r _ k h3) (zcl (ib.E Γ X r _ k h4))
  ·exact zhb (ia.E Γ X r _ k h3) (ib.E Γ X r _ k h4)
 T:=fun Γ X r e k h=>by
  obtain⟨⟨o,xs,p⟩,hv,h9⟩:=z04 h;cases q_Bo hv;obtain⟨h1,h2⟩:=and2 h9;cases ny h1;rcases z3t h2 with⟨x,y,rfl,h3,h4⟩|⟨x,y,z,t,rfl,h3,h4⟩
  ·have w:=w_and (pos:=p) (ia.T Γ X r _ k h3).1 (zdc (ib.T Γ X r _ k h4).1);exact⟨w.pt,fun _=>w⟩
  ·have w:=w_and (pos:=p) (ia.T Γ X r _ k h3).1 ((ib.T Γ X r _ k h4).2 ⟨_,_,_,rfl⟩);exact⟨w.pt,fun _=>w⟩
 Q:=fun _ _ _ _ _ _ _ _ h=>ff rfl h
 A:=fun _ _ _ _ _ h=>ff rfl h
 O:=fun _ _ _ _ _ h=>ff rfl h
 W:=fun _ _ _ _ _ _ _ h=>ff rfl h
 G:=fun _ _ _ _ _ h=>ff rfl h
theorem p_or (ia:Sd Κ Φ a)(ib:Sd Κ Φ b):Sd Κ Φ (.or a b) where
 E:=fun Γ X r e k h=>by
  obtain⟨⟨o,xs,p⟩,hv,h9⟩:=z04 h;cases q_Bo hv;obtain⟨h1,h2⟩:=and2 h9;cases ny h1;rcases z3t h2 with⟨x,y,rfl,h3,h4⟩|⟨x,y,z,t,rfl,h3,h4⟩
  ·exact d_or (ia.E Γ X r _ k h3) (zcl (ib.E Γ X r _ k h4))
  ·exact d_or (ia.E Γ X r _ k h3) (ib.E Γ X r _ k h4)
 T:=fun Γ X r e k h=>by
  obtain⟨⟨o,xs,p⟩,hv,h9⟩:=z04 h;cases q_Bo hv;obtain⟨h1,h2⟩:=and2 h9;cases ny h1;rcases z3t h2 with⟨x,y,rfl,h3,h4⟩|⟨x,y,z,t,rfl,h3,h4⟩
  ·have w:=w_or (pos:=p) (ia.T Γ X r _ k h3).1 (zfu (ib.T Γ X r _ k h4).1);exact⟨w.pt,fun _=>w⟩
  ·have w:=w_or (pos:=p) (ia.T Γ X r _ k h3).1 ((ib.T Γ X r _ k h4).2 ⟨_,_,_,rfl⟩);exact⟨w.pt,fun _=>w⟩
 Q:=fun _ _ _ _ _ _ _ _ h=>ff rfl h
 A:=fun _ _ _ _ _ h=>ff rfl h
 O:=fun _ _ _ _ _ h=>ff rfl h
 W:=fun _ _ _ _ _ _ _ h=>ff rfl h
 G:=fun _ _ _ _ _ h=>ff rfl h
theorem zkj (ia:Sd Κ Φ a):Sd Κ Φ (.not a) where
 E:=fun Γ X r e k h=>by obtain⟨⟨o,x⟩,hv,h9⟩:=z04 h;obtain⟨p,rfl⟩:=q_Un hv;obtain⟨h1,h2⟩:=and2 h9;cases ny h1;exact zlk (ia.E Γ X r _ k h2)
 T:=fun Γ X r e k h=>by obtain⟨⟨o,x⟩,hv,h9⟩:=z04 h;obtain⟨p,rfl⟩:=q_Un hv;obtain⟨h1,h2⟩:=and2 h9;cases ny h1;exact⟨zb7 (ia.T Γ X r _ k h2).1,fun⟨_,_,_,z⟩=>by cases z⟩
 Q:=fun _ _ _ _ _ _ _ _ h=>ff rfl h
 A:=fun _ _ _ _ _ h=>ff rfl h
 O:=fun _ _ _ _ _ h=>ff rfl h
 W:=fun _ _ _ _ _ _ _ h=>ff rfl h
 G:=fun _ _ _ _ _ h=>ff rfl h
theorem z8f {e:Expr}(h:zc5 e=true):∃l o r p,e=.Compare l o r p:=by cases e<;>first|exact ff rfl h|exact⟨_,_,_,_,rfl⟩
theorem p_tv (ia:Sd Κ Φ a):Sd Κ Φ (.tv a) where
 E:=fun _ _ _ _ _ h=>ff rfl h
 T:=fun Γ X r e k h=>by
  obtain⟨h1,h2⟩:=and2 h;rcases de.mp h1 with h1|h1
  ·exact⟨zjr (ia.E Γ X r _ k h2) (z37 h1 _),fun⟨_,_,_,z⟩=>by subst z;cases h1⟩
  ·obtain⟨_,_,_,_,rfl⟩:=z8f h1;exact⟨ia.Q Γ X r _ _ _ _ k h2,fun⟨_,_,_,z⟩=>by cases z⟩
 Q:=fun _ _ _ _ _ _ _ _ h=>ff rfl h
 A:=fun _ _ _ _ _ h=>ff rfl h
 O:=fun Γ X r e k h=>by obtain⟨v,rfl,h⟩:=z04 h;exact zha (ia.E Γ X r _ k h)
 W:=fun Γ X r e tg k _ h=>w_tv (ia.E Γ X r _ k (and2 h).2)
 G:=fun Γ X r e k h=>⟨a,rfl,ia.E Γ X r _ k h⟩
theorem zm2 (ic:Sd Κ Φ c)(ia:Sd Κ Φ a)(ib:Sd Κ Φ b):Sd Κ Φ (.ife c a b):=Sd.x (fun Γ X r e k h=>by obtain⟨v,hv,h9⟩:=z04 h;obtain⟨p,rfl⟩:=zjo hv;obtain⟨h1,h2,h3⟩:=and3 h9;exact zl3 (ic.T Γ X r _ k h1).1 (ia.E Γ X r _ k h2) (ib.E Γ X r _ k h3)) rfl
theorem zjt (ia:Sd Κ Φ a):Sd Κ Φ (.tup a):=Sd.x (fun Γ X r e k h=>by obtain⟨v,hv,h9⟩:=z04 h;obtain⟨_,_,rfl⟩:=z9p hv;obtain⟨h1,h2⟩:=and2 h9;exact zmo (ia.A Γ X r _ k h2) fun ρ ys e=>by rw[z1y Κ Φ h2 ρ ys e];exact zbl (ny h1)) rfl
theorem zjc (ia:Sd Κ Φ a):Sd Κ Φ (.lst a):=Sd.x (fun Γ X r e k h=>by obtain⟨v,hv,h9⟩:=z04 h;obtain⟨_,rfl⟩:=zku hv;obtain⟨h1,h2⟩:=and2 h9;exact zkw (ia.A Γ X r _ k h2) fun ρ ys e=>by rw[z1y Κ Φ h2 ρ ys e];exact zbl (ny h1)) rfl
theorem p_ix (ia:Sd Κ Φ a)(ib:Sd Κ Φ b):Sd Κ Φ (.ix a b):=Sd.x (fun Γ X r e k h=>by obtain⟨v,hv,h9⟩:=z04 h;obtain⟨_,rfl⟩:=ze3 hv;obtain⟨h1,h2,h3⟩:=and3 h9;exact d_ix k.hu h1 (ia.E Γ X r _ k h2) (ib.E Γ X r _ k h3)) rfl
theorem p_sl {lo hi:C}(ia:Sd Κ Φ a)(il:Sd Κ Φ lo)(ih:Sd Κ Φ hi):Sd Κ Φ (.sl a lo hi):=Sd.x (fun Γ X r e k h=>by obtain⟨⟨x,i⟩,hv,h9⟩:=z04 h;obtain⟨_,rfl⟩:=ze3 hv;obtain⟨⟨l,u,s⟩,hs,h8⟩:=z04 h9;obtain⟨_,rfl⟩:=zmd hs;obtain⟨h1,h2,h3,h4⟩:=and4 h8;cases d8.mp h1;exact d_sl (ia.E Γ X r _ k h2) (il.O Γ X r _ k h3) (ih.O Γ X r _ k h4)) rfl
theorem zgn {j:Nat}{f:Str}{args:C}(ia:Sd Κ Φ args):Sd Κ Φ (.call j f args):=Sd.x (fun Γ X r e k h=>by
 obtain⟨⟨x,es⟩,hv,h9⟩:=z04 h;obtain⟨_,_,rfl⟩:=z1q hv;obtain⟨h1,h2,h3,h4,h5⟩:=and5 h9;obtain⟨y,es,rfl⟩:=z2b h5;obtain⟨h0,h1⟩:=and2 h1;cases n6 h1;obtain⟨g1,g2⟩:=k.gl h2;obtain⟨m,kk,ps,c1,c2,c3⟩:=k.fns j _ _ (n6 h3);refine PE.imp (zfo c3 (k.room h0) c2 (ia.A Γ X r _ k h4) (z0t h4) g1 g2 (z1y Κ Φ h4)) fun σ H Q hq=>?_
 have ee:evE Κ Φ (.call j x args)=fun ρ=>evA Κ Φ args ρ>>=fun ys=>m (ys.map (·.2))>>=fun r=>.ok (gJ r.2 (rtG r.1),r.2):=by
  funext ρ
  show(evA Κ Φ args ρ>>=fun ys=>match Φ[j]? with|some m=>m (ys.map (·.2))>>=fun r=>.ok (gJ r.2 (rtG r.1),r.2)|none=>.no)=_;rw[c1]
 rw[ee]at hq;exact hq) rfl
theorem p_bi {f:String}{args:C}(ia:Sd Κ Φ args):Sd Κ Φ (.bi f args):=Sd.x (fun Γ X r e k h=>by
 obtain⟨⟨x,es⟩,hv,h9⟩:=z04 h;obtain⟨_,_,rfl⟩:=z1q hv;obtain⟨h1,h2,h3,h4,h5⟩:=and5 h9;obtain⟨y,es,rfl⟩:=z2b h5;have h1:=n6 h1;obtain⟨g1,g2,g3,g4⟩:=k.blt h2;obtain⟨h3,hcm⟩:=and2 h3;have hf:f∈["len","str"]:=b6.mp h3;have ha:=ia.A Γ X r _ k h4;simp only[a8,cy,or_false]at hf;rcases hf with rfl|rfl
 ·exact d_cB zdd g2 (by rw[h1];decide+kernel) ha (z0t h4) g1 g4 g3
 ·exact zkg ze2 g2 (by rw[h1];decide+kernel) ha (z0t h4) g1 g4 g3) rfl
theorem zjh {f:String}(ia:Sd Κ Φ a):Sd Κ Φ (.agg f a):=Sd.x (fun Γ X r e k h=>by
 obtain⟨⟨x,es⟩,hv,h9⟩:=z04 h;obtain⟨_,_,rfl⟩:=z1q hv;obtain⟨h1,h2,h3,h4⟩:=and4 h9;obtain⟨y,hy,k5⟩:=z04 h4;obtain⟨k4,k6⟩:=and2 k5;cases z2a hy;have k1:=n6 h1;obtain⟨g1,g2,g3,g4⟩:=k.blt h2;obtain⟨a,rfl,ha⟩:=ia.G Γ X r _ k k6;have k7:=z1l k4;obtain⟨h3,hcm⟩:=and2 h3;have hf:f∈aggs:=b6.mp h3;simp only[aggs,a8,cy,or_false]at hf;rcases hf with rfl|rfl
 ·exact zbm zib g2 (by rw[k1];decide+kernel) k7 ha g1 g4 g3
 ·exact zbm ze1 g2 (by rw[k1];decide+kernel) k7 ha g1 g4 g3) rfl
theorem zk0 {ts:List String}(ia:Sd Κ Φ a):Sd Κ Φ (.isT a ts):=Sd.x (fun Γ X r e k h=>by obtain⟨⟨x,es⟩,hv,h9⟩:=z04 h;obtain⟨_,_,rfl⟩:=z1q hv;obtain⟨h1,h2,h3⟩:=and3 h9;obtain⟨⟨y,t⟩,hy,k3⟩:=z04 h3;obtain⟨k4,h4,k5⟩:=and3 k3;obtain⟨T,hT,k6⟩:=z04 k5;cases zl0 hy;cases z2a hT;cases n6 h1;obtain⟨g1,g2,g3,g4⟩:=k.blt h2;obtain⟨x2,p2,rfl,rfl,hb,kT⟩:=zd8 k6;obtain⟨b1,b2,b3,b4⟩:=k.blt hb;exact zl2 g2 g1 b2 (zas kT) b1 b4 b3 kT (z1l k4) (ia.E Γ X r _ k h4)) rfl
theorem p_mt {m:String}{args:C}(io:Sd Κ Φ a)(ia:Sd Κ Φ args):Sd Κ Φ (.mt m a args):=Sd.x (fun Γ X r e k h=>by
 obtain⟨⟨x,n,es,b⟩,hv,h9⟩:=z04 h;obtain⟨ap,cp,rfl,hb⟩:=q_Mt hv;obtain⟨h0,h6,h7,h8⟩:=and4 h9;obtain⟨h1,h2,h3,h4,h5⟩:=and5 h0;obtain⟨y,es,rfl⟩:=z2b h8;cases n6 h1;have k4:(ap.endLine==cp.line)=true:=hb.symm.trans h4;have ho:=io.E Γ X r _ k h6;have ha:=ia.A Γ X r _ k h7;have hm:m∈["join"]:=b6.mp h2;simp only[cy,a8,or_false]at hm;rcases hm with rfl
 ·exact d_mt PySem.F.plainAttrs_str PySem.F.slot_str_join PySem.F.type_str_join zj4 (fun _ _ _ _ _ _ r e=>zdf r e) ho ha h3 (z0t h7) (ny h5) k4) rfl
theorem zja {Γ:Gm}{X:Cx}{ifs:List Expr}{n:Nat}(ic:Sd Κ Φ c)(k:Cok Γ Κ Φ X n)(h:ifsB (isNl c) (fun t=>chkT Γ c t) ifs=true):PTs X ifs (tDT X.K (evT Κ Φ c)):=by
 cases ifs with
 |nil=>
  have:c=.nil:=by cases c<;>first|exact ff rfl h|rfl
  subst this;refine fun pins s σ H Q I q=>zd4 pins s σ H Q I ?_;obtain⟨ρ,F,b,so,e,q⟩:=q;cases e;exact q H (Same.refl H)
 |cons t r=>obtain⟨h1,h2⟩:=and2 h;cases z1b h1;exact zcz (ic.T Γ X n t k h2).1
theorem sC {nt:Nat}{js:List Nat}{N':List Str}{tg:Tg}{it cond elt:C}(ii:Sd Κ Φ it)(ic:Sd Κ Φ cond)(ie:Sd Κ Φ elt){Γ:Gm}{X:Cx}{r:Nat}{e:Expr}(k:Cok Γ Κ Φ X r)(h:chkE Γ (.comp nt js N' tg it cond elt) e=true):
  ∃el t i ifs scope pos,e=.ListComp el [⟨t,i,ifs,0⟩] scope pos/\BlkScope X scope N' nt js/\(∀i∈tgIx tg,i<nt)/\PI X t i (tDW X.K (evW Κ Φ it))/\(∀C fp s H,PG (blk X scope N' C fp s H) t (tDG X.K tg))/\(∀C fp s H,PTs (blk X scope N' C fp s H) ifs (tDT X.K (evT Κ Φ cond)))/\(∀C fp s H,PE (blk X scope N' C fp s H) el (tD X.K (evE Κ Φ elt)))/\(∀x,c8 i X.env x=pure x)/\Γ.cm=true:=by
 obtain⟨⟨el,gs,scope⟩,hv,h9⟩:=z04 h;obtain⟨pos,rfl⟩:=q_LC hv;obtain⟨⟨t,i,ifs,kk⟩,hg,h9⟩:=z04 h9;cases z2a hg;obtain⟨h0,h6,h7,h8,h9⟩:=and5 h9;obtain⟨h1,h2,h3,h4,h5⟩:=and5 h0;obtain⟨hcm,h1⟩:=and2 h1;cases n6 h1;have h2:=bu.mp h2;have hB:BlkScope X scope N' nt js:=ziz k.hN k.hs h3;have kb:=fun C fp s H=>k.blk (N':=N') hB.kind (ny h5) C fp s H;exact⟨el,t,i,ifs,scope,pos,rfl,hB,fun i hi=>ny (h2 i hi),ii.W Γ X r _ t k (and2 h6).2 h7,fun C fp s H=>zay (kb C fp s H) (and2 h6).1,fun C fp s H=>zja ic (kb C fp s H) h8,fun C fp s H=>ie.E _ _ r _ (kb C fp s H) h9,z3q h4 _,hcm⟩
theorem zgu {nt:Nat}{js:List Nat}{N':List Str}{tg:Tg}{it cond elt:C}(ii:Sd Κ Φ it)(ic:Sd Κ Φ cond)(ie:Sd Κ Φ elt):Sd Κ Φ (.comp nt js N' tg it cond elt):=Sd.x (fun Γ X r e k h=>by obtain⟨el,t,i,ifs,scope,pos,rfl,hB,h2,hi,hg,ht,he,hs,hcm⟩:=sC ii ic ie k h;exact(zcn (k.calm hcm) hB h2 hi hg ht he hs).1) rfl
theorem p_lk {i:Nat}:Sd Κ Φ (.lk i):=Sd.x (fun Γ X r e k h=>by obtain⟨⟨f,as⟩,hv,h9⟩:=z04 h;obtain⟨_,_,rfl⟩:=z1q hv;obtain⟨h1,h2,h3⟩:=and3 h9;obtain⟨hcm,h1⟩:=and2 h1;obtain⟨y,hy,h4⟩:=z04 h3;cases z2a hy;obtain⟨x,p,rfl,h5⟩:=z25 h4;obtain⟨v1,v2,v3,v4⟩:=k.vis h5;cases n6 h1;obtain⟨g1,g2,g3,g4⟩:=k.blt h2;exact d_lk (k.calm hcm) g2 (by show ck ("list":Str)=_;decide+kernel) g1 g4 g3 v1 v2 v3 v4) rfl
theorem p_d1 (ia:Sd Κ Φ a)(ib:Sd Κ Φ b):Sd Κ Φ (.d1 a b):=Sd.x (fun Γ X r e k h=>by obtain⟨⟨ks,vs⟩,hv,h9⟩:=z04 h;obtain⟨p,rfl⟩:=q_Di hv;obtain⟨o,ho,h8⟩:=z04 h9;obtain⟨y,hy,h7⟩:=z04 h8;cases z2a ho;cases z2a hy;obtain⟨h1,h2⟩:=and2 h7;obtain⟨x,rfl,h3⟩:=z04 h1;exact d_d1 (ia.E Γ X r _ k h3) (ib.E Γ X r _ k h2)) rfl
theorem zkl:Sd Κ Φ .nil where
 E:=fun _ _ _ _ _ h=>ff rfl h
 T:=fun _ _ _ _ _ h=>ff rfl h
 Q:=fun _ _ _ _ _ _ _ _ h=>ff rfl h
 A:=fun Γ X r es k h=>by cases z1b h;exact zgs
 O:=fun Γ X r e k h=>by cases d8.mp h;exact z4f
 W:=fun _ _ _ _ _ _ _ h=>ff rfl h
 G:=fun _ _ _ _ _ h=>ff rfl h
theorem zii (ia:Sd Κ Φ a)(ib:Sd Κ Φ b):Sd Κ Φ (.cons a b) where
 E:=fun _ _ _ _ _ h=>ff rfl h
 T:=fun _ _ _ _ _ h=>ff rfl h
 Q:=fun _ _ _ _ _ _ _ _ h=>ff rfl h
 A:=fun Γ X r es k h=>by
  cases es with
  |nil=>cases h
  |cons e es=>obtain⟨h1,h2,h3⟩:=and3 h;exact zby (z1l h1) (ia.E Γ X r _ k h2) (ib.A Γ X r _ k h3)
 O:=fun _ _ _ _ _ h=>ff rfl h
 W:=fun _ _ _ _ _ _ _ h=>ff rfl h
 G:=fun _ _ _ _ _ h=>ff rfl h
theorem zl1 (ia:Sd Κ Φ a):Sd Κ Φ (.rng a) where
 E:=fun _ _ _ _ _ h=>ff rfl h
 T:=fun _ _ _ _ _ h=>ff rfl h
 Q:=fun _ _ _ _ _ _ _ _ h=>ff rfl h
 A:=fun _ _ _ _ _ h=>ff rfl h
 O:=fun _ _ _ _ _ h=>ff rfl h
 W:=fun Γ X r e tg k _ h=>by
  obtain⟨⟨x,es⟩,hv,h9⟩:=z04 h;obtain⟨_,_,rfl⟩:=z1q hv;obtain⟨h1,h2,h3,h4⟩:=and4 h9;obtain⟨h4,h5⟩:=and2 h4;cases n6 h1;obtain⟨g1,g2,g3,g4⟩:=k.blt h2;have hs:=bu.mp (z0t h3);have hl:=z1y Κ Φ h3;have ha:=ia.A Γ X r _ k h3;rcases es with _|⟨x,_|⟨y,es⟩⟩
  ·cases h4
  ·exact zg6 g2 g1 (z1l (hs x (.head _))) ha hl
  ·exact absurd (ny h5) (Nat.not_le.mpr (Nat.succ_lt_succ (Nat.succ_pos _)))
 G:=fun _ _ _ _ _ h=>ff rfl h
theorem zcg {e:Expr}(h:isTup e=true):∃a b c,e=.Tuple a b c:=by cases e<;>first|exact ff rfl h|exact⟨_,_,_,rfl⟩
theorem zbx {Γ:Gm}{e:Expr}(h:chkW Γ (.enum a) e=true):∃y q p,e=.Call (.Name "enumerate" q) [y] [] p/\bltB Γ "enumerate"=true/\isStar y=false/\chkE Γ a y=true:=by obtain⟨⟨x,es⟩,hv,h9⟩:=z04 h;obtain⟨q,p,rfl⟩:=z1q hv;obtain⟨h1,h2,h3⟩:=and3 h9;obtain⟨y,hy,h3⟩:=z04 h3;cases z2a hy;cases n6 h1;exact⟨y,q,p,rfl,h2,z1l (and2 h3).1,(and2 h3).2⟩
theorem zhe (ia:Sd Κ Φ a):Sd Κ Φ (.enum a) where
 E:=fun _ _ _ _ _ h=>ff rfl h
 T:=fun _ _ _ _ _ h=>ff rfl h
 Q:=fun _ _ _ _ _ _ _ _ h=>ff rfl h
 A:=fun _ _ _ _ _ h=>ff rfl h
 O:=fun _ _ _ _ _ h=>ff rfl h
 W:=fun Γ X r e tg k ht h=>by obtain⟨y,q,p,rfl,h2,h3,h4⟩:=zbx h;obtain⟨_,_,_,rfl⟩:=zcg ht;obtain⟨g1,g2,g3,g4⟩:=k.blt h2;exact zbp g2 g1 h3 (ia.E Γ X r _ k h4)
 G:=fun _ _ _ _ _ h=>ff rfl h
theorem zis (hx:isX c=0)(hn:∀Γ e,chkE Γ c e=false):Sd Κ Φ c:=Sd.x (fun Γ X r e k h=>ff (hn Γ e) h) hx
theorem all (c:C):Sd Κ Φ c:=by
 induction c with
 |var=>exact zma
 |bl=>exact p_bl
 |int=>exact zlv
 |str=>exact zjy
 |bin _ _ _ ia ib=>exact zlh ia ib
 |neg _ ia=>exact zj8 ia
 |cmp _ _ _ ia ib=>exact zjf ia ib
 |and _ _ ia ib=>exact zk4 ia ib
 |or _ _ ia ib=>exact p_or ia ib
 |not _ ia=>exact zkj ia
 |ife _ _ _ ic ia ib=>exact zm2 ic ia ib
 |tup _ ia=>exact zjt ia
 |lst _ ia=>exact zjc ia
 |ix _ _ ia ib=>exact p_ix ia ib
 |sl _ _ _ ia ib ic=>exact p_sl ia ib ic
 |call _ _ _ ia=>exact zgn ia
 |bi _ _ ia=>exact p_bi ia
 |agg _ _ ia=>exact zjh ia
 |isT _ _ ia=>exact zk0 ia
 |mt _ _ _ ia ib=>exact p_mt ia ib
 |comp _ _ _ _ _ _ _ ia ib ic=>exact zgu ia ib ic
 |lk=>exact p_lk
 |d1 _ _ ia ib=>exact p_d1 ia ib
 |rng _ ia=>exact zl1 ia
 |enum _ ia=>exact zhe ia
 |tv _ ia=>exact p_tv ia
 |nil=>exact zkl
 |cons _ _ ia ib=>exact zii ia ib
 |_=>exact zis rfl fun _ _=>rfl
end
section
variable (Κ:List D)(Φ:List Fn)
theorem z63 {el:Expr}{gs:List g8}{s:Scope}{p px:Pos}{t:Str}{n:Nat}{env:Env}:i5 (.ListComp el gs s p) (some (.Name t px)) n env=pure (env.blockKind==.function&&env.kindOf t==some .local&&px.line==p.line&& !(s.names.any fun(n,k)=>n==t&&(k==.local||k==.cell))):=rfl
theorem zex {Γ:Gm}{c:C}{el:Expr}{gs:List g8}{s:Scope}{p:Pos}(hn:isCI c=false)(h:chkE Γ c (.ListComp el gs s p)=true):∃nt js N' tg it cond elt,c=.comp nt js N' tg it cond elt:=by cases c<;>first|exact ff rfl h|exact⟨_,_,_,_,_,_,_,rfl⟩|(cases hn;done)
theorem zea {Γ:Gm}{c:C}{el:Expr}{gs:List g8}{s:Scope}{p:Pos}(h:chkE Γ c (.SetComp el gs s p)=true):False:=by cases c<;>exact ff rfl h
theorem zeu {Γ:Gm}{c:C}{el el2:Expr}{gs:List g8}{s:Scope}{p:Pos}(h:chkE Γ c (.DictComp el el2 gs s p)=true):False:=by cases c<;>exact ff rfl h
theorem sAsg {Γ:Gm}{X:Cx}{r:Nat}(k:Cok Γ Κ Φ X r){i:Nat}{x:Str}{px pos:Pos}{c:C}{v:Expr}(h1:locB Γ i x=true)(hn:isCI c=false)(h2:chkE Γ c v=true):PS X (.Assign [.Name x px] v pos) (tDS X.K fun ρ=>evE Κ Φ c ρ>>=fun x=>.ok (.nx (ρ.set i (some (z1e x))))):=by
 obtain⟨l1,l2,l3⟩:=k.loc h1;have nd:X.N.Nodup:=by rw[k.hN];exact k.nd
 cases hc:z1w v with
 |false=>exact zhz nd l1 l2 l3 (z1v hc _ _ _) ((all c).E Γ X r _ k h2)
 |true=>
  cases v<;>first|(cases hc;done)|skip
  ·rename_i el gs s p;cases hb:(X.env.blockKind==.function&&X.env.kindOf x==some .local&&px.line==p.line&& !(s.names.any fun(n,k)=>n==x&&(k==.local||k==.cell)))with
   |false=>exact zhz nd l1 l2 l3 (by rw[z63,hb]) ((all c).E Γ X r _ k h2)
   |true=>
    obtain⟨nt,js,N',tg,it,cond,elt,rfl⟩:=zex hn h2;obtain⟨el',t,i',ifs,scope,pos',e,hB,h0,hi,hg,ht,he,hs,hcm⟩:=sC (all it) (all cond) (all elt) k h2;cases e;have hl:X.env.scope.names.lookup x=some .local:=by simp only[aw,beq_iff_eq]at hb;exact hb.1.1.2
    refine PS.imp (zal (k.calm hcm) nd l1 hl hB hi hg ht he (by rw[z63,hb]) hs) fun D σ H q=>?_;exact zbt (fa:=z6q nt js tg (evW Κ Φ it) (evT Κ Φ cond) (evE Κ Φ elt)) (fun σ H Q z=>(zcn (pos:=p) (k.calm hcm) hB h0 hi hg ht he hs).2 σ H Q z) D σ H q
  ·exact(zea h2).elim
  ·exact(zeu h2).elim
theorem sFF {Γ:Gm}{X:Cx}{r:Nat}(k:Cok Γ Κ Φ X r){c:C}{ie tg:Expr}(hh:chkF Γ c tg ie=true):PI X tg ie (tDF X.K (evF Κ Φ c))/\za6 ie=true:=by
 obtain⟨ht,h⟩:=and2 hh;have hw:=(all (Κ:=Κ) (Φ:=Φ) c).W Γ X r ie tg k ht h;cases c with
 |tv a=>
  have hal:=PI.orD (k:=fun ρ=>isAl Κ Φ (.tv a) ρ) (f_al ((all a).E Γ X r _ k (and2 h).2)) (zi6 hw);refine⟨?_,(and2 h).1⟩;cases a with
  |var i=>obtain⟨x,p,rfl,h2⟩:=z25 (and2 h).2;obtain⟨v1,v2,v3,v4⟩:=k.vis h2;exact PI.orD (k:=fun ρ=>ownB ρ i) (zla v1 v2 v3 v4) hal
  |_=>exact hal
 |enum a=>obtain⟨y,q,p,rfl,h2,h3,h4⟩:=zbx h;obtain⟨_,_,_,rfl⟩:=zcg ht;obtain⟨g1,g2,g3,g4⟩:=k.blt h2;exact⟨zi1 g2 g1 h3 ((all a).E Γ X r _ k h4),rfl⟩
 |rng a=>refine⟨zi6 hw,?_⟩;obtain⟨v,hv,_⟩:=z04 h;obtain⟨_,_,rfl⟩:=z1q hv;rfl
 |_=>exact ff rfl h
theorem z40 {a:List Expr}{b:Nat}{c:Pos}{v:Expr}{env:Env}(h:isTup v=false):lx [.Tuple a b c] v env=pure none:=by cases v<;>first|rfl|(cases h;done)
theorem q_As {s:Stmt}{v:List Expr×Expr}(h:vAs s=some v):∃p,s=.Assign v.1 v.2 p:=v_of (q:=fun v=>∃p,s=.Assign v.1 v.2 p) h (by cases s<;>first|exact .inl rfl|exact .inr ⟨_,rfl,_,rfl⟩)
theorem q_Ex {s:Stmt}{v:Expr}(h:vEx s=some v):∃p,s=.Expr v p:=v_of (q:=fun v=>∃p,s=.Expr v p) h (by cases s<;>first|exact .inl rfl|exact .inr ⟨_,rfl,_,rfl⟩)
theorem q_Rt {s:Stmt}{v:Option Expr}(h:vRt s=some v):∃p,s=.Return v p:=v_of (q:=fun v=>∃p,s=.Return v p) h (by cases s<;>first|exact .inl rfl|exact .inr ⟨_,rfl,_,rfl⟩)
theorem q_If {s:Stmt}{v:Expr×List Stmt×List Stmt}(h:vIf s=some v):∃p,s=.If v.1 v.2.1 v.2.2 p:=v_of (q:=fun v=>∃p,s=.If v.1 v.2.1 v.2.2 p) h (by cases s<;>first|exact .inl rfl|exact .inr ⟨_,rfl,_,rfl⟩)
theorem q_Fo {s:Stmt}{v:Expr×Expr×List Stmt×List Stmt}(h:vFo s=some v):∃p,s=.For v.1 v.2.1 v.2.2.1 v.2.2.2 p:=v_of (q:=fun v=>∃p,s=.For v.1 v.2.1 v.2.2.1 v.2.2.2 p) h (by cases s<;>first|exact .inl rfl|exact .inr ⟨_,rfl,_,rfl⟩)
theorem q_Wh {s:Stmt}{v:Expr×List Stmt×List Stmt}(h:vWh s=some v):∃p,s=.While v.1 v.2.1 v.2.2 p:=v_of (q:=fun v=>∃p,s=.While v.1 v.2.1 v.2.2 p) h (by cases s<;>first|exact .inl rfl|exact .inr ⟨_,rfl,_,rfl⟩)
structure Ss (s:S):Prop where
 R:∀(Γ:Gm) (X:Cx) (r:Nat) (st:Stmt),Cok Γ Κ Φ X r->dh (model X.prog X.w) X.A X.env X.xe->chk1 Γ s st=true->PS X st (tDS X.K (evS Κ Φ s))
 L:∀(Γ:Gm) (X:Cx) (r:Nat) (st:List Stmt),Cok Γ Κ Φ X r->dh (model X.prog X.w) X.A X.env X.xe->chkL Γ s st=true->PSs X st (tDS X.K (evS Κ Φ s))
def isSq:S->Bool
 |.nil=>false
 |.seq _ _=>false
 |_=>true
variable {Κ:List D}{Φ:List Fn}
theorem Ss.x {s:S}(h:∀(Γ:Gm) (X:Cx) (r:Nat) (st:Stmt),Cok Γ Κ Φ X r->dh (model X.prog X.w) X.A X.env X.xe->chk1 Γ s st=true->PS X st (tDS X.K (evS Κ Φ s)))(hx:isSq s=true):Ss Κ Φ s:=⟨h,by cases s<;>first|(cases hx;done)|exact fun _ _ _ _ _ _ h=>ff rfl h⟩
theorem zmv {t:Tg}{e:C}:Ss Κ Φ (.asg t e):=Ss.x (fun Γ X r st k hp h=>by
 obtain⟨⟨ts,v⟩,hv,h9⟩:=z04 h;obtain⟨p,rfl⟩:=q_As hv;obtain⟨x,hx,h8⟩:=z04 h9;cases z2a hx;obtain⟨h1,h2,h3,h4⟩:=and4 h8;cases t with
 |nm i=>obtain⟨y,q,rfl,h5⟩:=z25 h1;exact sAsg Κ Φ k h5 (z1l h2) h4
 |tp is=>obtain⟨k1,k2⟩:=and2 (show(!z1w v&& !isTup v)=true from h3);obtain⟨es,hes,_⟩:=z04 (and2 h1).2;obtain⟨_,_,rfl⟩:=z9p hes;exact zh8 (zay k (t:=.tp is) h1) ((all e).E Γ X r _ k h4) ((show lw [_] _ _ _=i5 _ _ _ _ from rfl).trans (z1v (z1l k1) _ _ _)) (z40 (z1l k2)) rfl) rfl
theorem zcu {i:Nat}{a b:C}:Ss Κ Φ (.setIx i a b):=Ss.x (fun Γ X r st k hp h=>by obtain⟨⟨ts,v⟩,hv,h9⟩:=z04 h;obtain⟨p,rfl⟩:=q_As hv;obtain⟨x,hx,h8⟩:=z04 h9;cases z2a hx;obtain⟨⟨y,ie⟩,hy,h7⟩:=z04 h8;obtain⟨_,rfl⟩:=ze3 hy;obtain⟨h1,h2,h3,h4,h5⟩:=and5 h7;obtain⟨z,q,hz,h6⟩:=z25 h1;cases hz;obtain⟨v1,v2,v3,v4⟩:=k.vis h6;exact zkv k.hu v1 v2 v3 v4 (z1l h3) ((all a).E Γ X r _ k h4) ((all b).E Γ X r _ k h5)) rfl
theorem zm1 {m:String}{i:Nat}{args:C}:Ss Κ Φ (.mut m i args):=Ss.x (fun Γ X r st k hp h=>by
 obtain⟨c,hv,h9⟩:=z04 h;obtain⟨p,rfl⟩:=q_Ex hv;obtain⟨⟨x,n,es,b⟩,hm,h8⟩:=z04 h9;obtain⟨ap,cp,rfl,hb⟩:=q_Mt hm;obtain⟨h0,h6,h7⟩:=and3 h8;obtain⟨h1,h2,h3,h4,h5⟩:=and5 h0;obtain⟨z,q,hz,k1⟩:=z25 h1;cases hz;obtain⟨y,es,rfl⟩:=z2b h6;cases n6 h2;have hm:m∈["append","insert","pop"]:=b6.mp h3;simp only[cy,a8,or_false]at hm;obtain⟨v1,v2,v3,v4⟩:=k.vis k1;rcases hm with rfl|rfl|rfl
 ·exact zbi v1 v2 v3 v4 ((all args).A Γ X r _ k h7) (z0t h7) (ny h5) (hb.symm.trans h4)
 ·exact zav v1 v2 v3 v4 ((all args).A Γ X r _ k h7) (z0t h7) (ny h5) (hb.symm.trans h4)
 ·exact zcx v1 v2 v3 v4 ((all args).A Γ X r _ k h7) (z0t h7) (ny h5) (hb.symm.trans h4)) rfl
theorem zjm {e:C}:Ss Κ Φ (.ret e):=Ss.x (fun Γ X r st k hp h=>by
 obtain⟨o,hv,h9⟩:=z04 h;obtain⟨p,rfl⟩:=q_Rt hv;obtain⟨v,rfl,h8⟩:=z04 h9;have g:=(all (Κ:=Κ) (Φ:=Φ) e).E Γ X r _ k h8;cases e with
 |var i=>obtain⟨x,q,rfl,h7⟩:=z25 h8;obtain⟨v1,v2,v3,v4⟩:=k.vis h7;exact z5w v1 v2 v3 v4
 |_=>exact zjw g) rfl
theorem q_if {c:C}{a b:S}(ia:Ss Κ Φ a)(ib:Ss Κ Φ b):Ss Κ Φ (.ifS c a b):=Ss.x (fun Γ X r st k hp h=>by obtain⟨v,hv,h9⟩:=z04 h;obtain⟨p,rfl⟩:=q_If hv;obtain⟨h1,h2,h3⟩:=and3 h9;exact s_if ((all c).T Γ X r _ k h1).1 (ia.L Γ X r _ k hp h2) (ib.L Γ X r _ k hp h3)) rfl
theorem zh5 {t:Tg}{it:C}{b:S}(ib:Ss Κ Φ b):Ss Κ Φ (.for_ t it b):=Ss.x (fun Γ X r st k hp h=>by obtain⟨hcm,h⟩:=and2 h;obtain⟨⟨t,i,B,o⟩,hv,h9⟩:=z04 h;obtain⟨p,rfl⟩:=q_Fo hv;obtain⟨h1,h2,h3,h4⟩:=and4 h9;cases z1b h4;obtain⟨hf,hn⟩:=sFF Κ Φ k h2;exact zk5 hp (k.calm hcm) hf (zay k h1) (ib.L Γ X r _ k hp h3) (z3q hn _)) rfl
theorem q_wh {n:Nat}{c:C}{b:S}(ib:Ss Κ Φ b):Ss Κ Φ (.wh n c b):=Ss.x (fun Γ X r st k hp h=>by obtain⟨⟨t,B,o⟩,hv,h9⟩:=z04 h;obtain⟨p,rfl⟩:=q_Wh hv;obtain⟨h1,h2,h3⟩:=and3 h9;cases z1b h3;exact zfc hp ((all c).T Γ X r _ k h1).1 (ib.L Γ X r _ k hp h2)) rfl
theorem q_pB {f:Str->Bool}{e:Expr}(h:popB (hd1 f) e=true):∃x p ap cp,e=.Call (.Attribute (.Name x p) "pop" ap) [] [] cp/\f x=true/\(ap.endLine==cp.line)=true:=by obtain⟨⟨o,n,es,b⟩,hm,h8⟩:=z04 h;obtain⟨ap,cp,rfl,hb⟩:=q_Mt hm;obtain⟨h1,h2,h3,h4⟩:=and4 h8;obtain⟨x,p,hx,h1⟩:=z25 h1;cases hx;cases n6 h2;cases z1b h3;exact⟨x,p,ap,cp,rfl,h1,hb.symm.trans h4⟩
theorem zml {j i:Nat}:Ss Κ Φ (.pop j i):=Ss.x (fun Γ X r st k hp h=>by obtain⟨⟨ts,v⟩,hv,h9⟩:=z04 h;obtain⟨p,rfl⟩:=q_As hv;obtain⟨x,hx,h8⟩:=z04 h9;cases z2a hx;obtain⟨h1,h2⟩:=and2 h8;obtain⟨y,q,rfl,h5⟩:=z25 h1;obtain⟨l1,l2,l3⟩:=k.loc h5;obtain⟨z,pz,ap,cp,rfl,h6,h7⟩:=q_pB h2;obtain⟨v1,v2,v3,v4⟩:=k.vis h6;exact s_pop (by rw[k.hN];exact k.nd) l1 l2 l3 v1 v2 v3 v4 h7) rfl
theorem zjb {i:Nat}{a c:C}:Ss Κ Φ (.pap i a c):=Ss.x (fun Γ X r st k hp h=>by
 obtain⟨e,hv,h9⟩:=z04 h;obtain⟨p,rfl⟩:=q_Ex hv;obtain⟨⟨x,n,es,b⟩,hm,h8⟩:=z04 h9;obtain⟨ap,cp,rfl,hb⟩:=q_Mt hm;obtain⟨h0,h7⟩:=and2 h8;obtain⟨h1,h2,h3⟩:=and3 h0;obtain⟨z,q,hz,k1⟩:=z25 h1;cases hz;cases n6 h2;obtain⟨t,ht,h6⟩:=z04 h7;cases z2a ht;obtain⟨l,hl,h5⟩:=z04 h6;obtain⟨_,_,rfl⟩:=z9p hl;rcases l with _|⟨e1,_|⟨e2,l⟩⟩
 ·cases h5
 ·cases h5
 ·obtain⟨g1,g2,g3⟩:=and3 h5;obtain⟨g4,g5⟩:=and2 g1;obtain⟨g6,g7⟩:=and2 g3;obtain⟨y,pz,ap2,cp2,rfl,h10,h11⟩:=q_pB g2;obtain⟨v1,v2,v3,v4⟩:=k.vis k1;obtain⟨w1,w2,w3,w4⟩:=k.vis h10;have:y=z:=Option.some.inj (w1.symm.trans v1);subst this;exact zkf v1 v2 v3 v4 (z1l g4) ((all a).E Γ X r _ k g5) ((all c).A Γ X r _ k g7) (fun ρ ys e=>by rw[z1y Κ Φ g7 ρ ys e];exact ny g6) (hb.symm.trans h3) h11) rfl
theorem Cok.wish {Γ:Gm}{X:Cx}{r:Nat}(k:Cok Γ Κ Φ X r)(E:Value->aa->Prop):Cok Γ Κ Φ (X.wish E) r:=⟨k.hN,k.hs,k.nd,k.fn,k.kind,k.free,k.fns,k.cst,k.fnx,k.room,k.calm,k.hu,k.fun_,k.fx0,fun n c z=>by obtain⟨a,oe,C,h1,h2,h3,h4⟩:=k.xc n c z;exact⟨a,oe,C,h1,fun p σ H s I=>h2 p σ H s I.unwish,h3,h4⟩,k.xk⟩
theorem Cok.inX {Γ:Gm}{X:Cx}{r i:Nat}{n c:Str}{a C:Addr}{oe:Obj}(k:Cok Γ Κ Φ X r)(nd:(Γ.N.set i "").Nodup)(hc:oe.cls=.ref C)(hm:X.mg c=some (.ref C)):Cok {Γ with N:=Γ.N.set i "",cm:=false,xc:=some (n,c),fns:=[]} Κ Φ (Mi.inX X i n a oe) r where
 hN:=by show X.N.set i ""=Γ.N.set i "";rw[k.hN]
 hs:=k.hs
 nd:=nd
 fn:=k.fn
 kind:=k.kind
 free:=k.free
 fns:=fun j f n e=>by simp at e
 cst:=k.cst
 fnx:=fun j f n e=>by simp at e
 room:=fun z=>by cases z
 calm:=fun z=>by cases z
 hu:=k.hu
 fun_:=k.fun_
 fx0:=fun z=>by cases z
 xc:=fun n' c' z=>by cases z;exact⟨a,oe,C,rfl,fun _ _ _ _ I=>(I.pin (a,oe) (di _ af)).1,hc,hm⟩
 xk:=⟨k.xk.sub,k.xk.rs,k.xk.hnd⟩
theorem q_Eh {h:ExceptHandler}{v:Str×Str×List Stmt}(e:vEh h=some v):∃np hp,h=.ExceptHandler (some (.Name v.1 np)) (some v.2.1) v.2.2 hp:=by
 unfold vEh at e;split at e
 ·cases e;exact⟨_,_,rfl⟩
 ·cases e
theorem q_Tr {s:Stmt}{v:Str×List Expr×Str×Str×List Stmt}(e:vTr s=some v):∃p cp ep np hp pos,s=.Try [.Expr (.Call (.Name v.1 p) v.2.1 [] cp) ep] [.ExceptHandler (some (.Name v.2.2.1 np)) (some v.2.2.2.1) v.2.2.2.2 hp] [] [] pos:=by
 unfold vTr at e;split at e
 ·obtain⟨u,h1,h2⟩:=f8.mp e;obtain⟨x,h3,rfl⟩:=cv.mp h2;obtain⟨q,p,rfl⟩:=z1q h1;obtain⟨np,hp,rfl⟩:=q_Eh h3;exact⟨_,_,_,_,_,_,rfl⟩
 ·cases e
theorem z9q (s:S):Ss Κ Φ s:=by
 induction s with
 |nil=>exact⟨fun _ _ _ _ _ _ h=>ff rfl h,fun Γ X r st k hp h=>by cases z1b h;exact zmu⟩
 |seq a b ia ib=>
  refine⟨fun _ _ _ _ _ _ h=>ff rfl h,fun Γ X r st k hp h=>?_⟩;cases st with
  |nil=>cases h
  |cons s st=>exact zlg (ia.R Γ X r _ k hp (and2 h).1) (ib.L Γ X r _ k hp (and2 h).2)
 |bad=>refine Ss.x (fun Γ X r st k hp h=>?_) rfl;intro pins s σ H D I q;obtain⟨ρ,F,out,so,e,_⟩:=q;cases e
 |asg=>exact zmv
 |pop=>exact zml
 |pap=>exact zjb
 |setIx=>exact zcu
 | «mut»=>exact zm1
 |ret=>exact zjm
 |ifS _ _ _ ia ib=>exact q_if ia ib
 |for_ _ _ _ ib=>exact zh5 ib
 |wh _ _ _ ib=>exact q_wh ib
 |_=>exact Ss.x (fun _ _ _ _ _ _ h=>ff rfl h) rfl
theorem sL (Κ:List D)(Φ:List Fn)(s:S):∀(Γ:Gm) (X:Cx) (r:Nat) (st:List Stmt),Cok Γ Κ Φ X r->dh (model X.prog X.w) X.A X.env X.xe->chkL Γ s st=true->PSs X st (tDS X.K (evS Κ Φ s)):=(z9q s).L
end
section
variable (Κ:List D)(Φ:List Fn)
structure Se (c:C):Prop where
 E:∀(Γ:Gm) (X:Cx) (r:Nat) (e:Expr),Cok Γ Κ Φ X r->chkE Γ c e=true->PE X e (tR X (exE Κ Φ c))
 A:∀(Γ:Gm) (X:Cx) (r:Nat) (es:List Expr),Cok Γ Κ Φ X r->chkA Γ c es=true->PA X es (tRA X (exA Κ Φ c))
 T:∀(Γ:Gm) (X:Cx) (r:Nat) (e:Expr),Cok Γ Κ Φ X r->chkT Γ c e=true->PT X e (tRT X (exT Κ Φ c))
variable {Κ Φ}
theorem no_E {X:Cx}{e:Expr}{c:C}(h:∀ρ,exE Κ Φ c ρ=none):PE X e (tR X (exE Κ Φ c)):=fun pins s σ H Q I z=>(z46 h σ H z).elim
theorem no_A {X:Cx}{e:List Expr}{c:C}(h:∀ρ,exA Κ Φ c ρ=none):PA X e (tRA X (exA Κ Φ c)):=fun pos pins s σ H Q I z=>(z46 h σ H z).elim
theorem no_T {X:Cx}{e:Expr}{c:C}(h:∀ρ,exT Κ Φ c ρ=none):PT X e (tRT X (exT Κ Φ c)):=fun pins s σ H Q I z=>(z46 h σ H z).elim
theorem Se.no {c:C}(h1:∀ρ,exE Κ Φ c ρ=none)(h2:∀ρ,exA Κ Φ c ρ=none)(h3:∀ρ,exT Κ Φ c ρ=none):Se Κ Φ c:=⟨fun _ _ _ _ _ _=>no_E h1,fun _ _ _ _ _ _=>no_A h2,fun _ _ _ _ _ _=>no_T h3⟩
theorem zbq {j:Nat}{f:Str}{args:C}(ia:Se Κ Φ args):Se Κ Φ (.call j f args) where
 E:=fun Γ X r e k h=>by
  obtain⟨⟨x,es⟩,hv,h9⟩:=z04 h;obtain⟨_,_,rfl⟩:=z1q hv;obtain⟨h1,h2,h3,h4,h5⟩:=and5 h9;obtain⟨y,es,rfl⟩:=z2b h5;obtain⟨h0,h1⟩:=and2 h1;cases n6 h1;obtain⟨g1,g2⟩:=k.gl h2;obtain⟨m,kk,ps,c1,c2,c3⟩:=k.fnx j _ _ (n6 h3);refine PE.imp (zd5 c3 (k.room h0) c2 ((all args).A Γ X r _ k h4) (ia.A Γ X r _ k h4) (z0t h4) g1 g2 (z1y Κ Φ h4)) fun σ H Q hq=>?_
  have ee:exE Κ Φ (.call j x args)=fun ρ=>match(evA Κ Φ args ρ:Res (List GD))with|.ok ys=>excOf (m (c7 (fun(y:GD)=>y.2) ys))|_=>exA Κ Φ args ρ:=by
   funext ρ
   show(match(evA Κ Φ args ρ:Res (List GD))with|.ok ys=>(match Φ[j]? with|some m=>excOf (m (c7 (fun(y:GD)=>y.2) ys))|none=>none)|_=>exA Κ Φ args ρ)=_;rw[c1]
  rw[ee]at hq;exact hq
 A:=fun _ _ _ _ _ h=>ff rfl h
 T:=fun _ _ _ _ _ h=>ff rfl h
theorem allE (c:C):Se Κ Φ c:=by
 induction c with
 |call _ _ _ ia=>exact zbq ia
 |cons a r ia ir=>
  refine⟨fun _ _ _ _ _ h=>ff rfl h,fun Γ X n es k h=>?_,fun _ _ _ _ _ h=>ff rfl h⟩;cases es with
  |nil=>cases h
  |cons e es=>obtain⟨h1,h2,h3⟩:=and3 h;exact ze9 (z1l h1) ((all a).E Γ X n _ k h2) (ia.E Γ X n _ k h2) (ir.A Γ X n _ k h3)
 |not a ia=>refine⟨fun _ _ _ _ _ _=>no_E fun _=>rfl,fun _ _ _ _ _ h=>ff rfl h,fun Γ X r e k h=>?_⟩;obtain⟨⟨o,x⟩,hv,h9⟩:=z04 h;obtain⟨p,rfl⟩:=q_Un hv;obtain⟨h1,h2⟩:=and2 h9;cases ny h1;exact zie (ia.T Γ X r _ k h2)
 |tv a ia=>
  refine⟨fun _ _ _ _ _ h=>ff rfl h,fun _ _ _ _ _ h=>ff rfl h,fun Γ X r e k h=>?_⟩;obtain⟨h1,h2⟩:=and2 h;rcases de.mp h1 with h1|h1
  ·exact zh4 (ia.E Γ X r _ k h2) (z37 h1 _)
  ·obtain⟨_,_,_,_,rfl⟩:=z8f h1;cases a<;>first|exact no_T fun _=>rfl|exact ff rfl h2
 |_=>exact Se.no (fun _=>rfl) (fun _=>rfl) fun _=>rfl
variable (Κ Φ)
structure Sq (s:S):Prop where
 R:∀(Γ:Gm) (X:Cx) (r:Nat) (st:Stmt),Cok Γ Κ Φ X r->dh (model X.prog X.w) X.A X.env X.xe->chk1 Γ s st=true->PS X st (tRS X (evX Κ Φ s))
 L:∀(Γ:Gm) (X:Cx) (r:Nat) (st:List Stmt),Cok Γ Κ Φ X r->dh (model X.prog X.w) X.A X.env X.xe->chkL Γ s st=true->PSs X st (tRS X (evX Κ Φ s))
variable {Κ Φ}
theorem Sq.x {s:S}(h:∀(Γ:Gm) (X:Cx) (r:Nat) (st:Stmt),Cok Γ Κ Φ X r->dh (model X.prog X.w) X.A X.env X.xe->chk1 Γ s st=true->PS X st (tRS X (evX Κ Φ s)))(hx:isSq s=true):Sq Κ Φ s:=⟨h,by cases s<;>first|(cases hx;done)|exact fun _ _ _ _ _ _ h=>ff rfl h⟩
theorem Sq.no {s:S}(h:∀ρ,evX Κ Φ s ρ=none)(hx:isSq s=true):Sq Κ Φ s:=Sq.x (fun Γ X r st k hp hc pins sh σ H D I z=>(z46 h σ H z).elim) hx
theorem allX (s:S):Sq Κ Φ s:=by
 induction s with
 |nil=>exact⟨fun _ _ _ _ _ _ h=>ff rfl h,fun Γ X r st k hp h=>by cases z1b h;exact zho⟩
 |seq a b ia ib=>
  refine⟨fun _ _ _ _ _ _ h=>ff rfl h,fun Γ X r st k hp h=>?_⟩;cases st with
  |nil=>cases h
  |cons s st=>exact zid ((z9q a).R Γ X r _ k hp (and2 h).1) (ia.R Γ X r _ k hp (and2 h).1) (ib.L Γ X r _ k hp (and2 h).2)
 |ifS c a b ia ib=>refine Sq.x (fun Γ X r st k hp h=>?_) rfl;obtain⟨v,hv,h9⟩:=z04 h;obtain⟨p,rfl⟩:=q_If hv;obtain⟨h1,h2,h3⟩:=and3 h9;exact zkk ((all c).T Γ X r _ k h1).1 ((allE c).T Γ X r _ k h1) (ia.L Γ X r _ k hp h2) (ib.L Γ X r _ k hp h3)
 |for_ t it b ib=>refine Sq.x (fun Γ X r st k hp h=>?_) rfl;obtain⟨hcm,h⟩:=and2 h;obtain⟨⟨t,i,B,o⟩,hv,h9⟩:=z04 h;obtain⟨p,rfl⟩:=q_Fo hv;obtain⟨h1,h2,h3,h4⟩:=and4 h9;cases z1b h4;obtain⟨hf,hn⟩:=sFF Κ Φ k h2;exact zhl hp (k.calm hcm) hf (zay k h1) ((z9q b).L Γ X r _ k hp h3) (ib.L Γ X r _ k hp h3) (z3q hn _)
 |drop=>exact⟨fun _ _ _ _ _ _ h=>ff rfl h,fun _ _ _ _ _ _ h=>ff rfl h⟩
 |ret e=>refine Sq.x (fun Γ X r st k hp h=>?_) rfl;obtain⟨o,hv,h9⟩:=z04 h;obtain⟨p,rfl⟩:=q_Rt hv;obtain⟨v,rfl,h8⟩:=z04 h9;exact zhm ((allE e).E Γ X r _ k h8)
 |asg t e=>
  cases t with
  |tp is=>exact Sq.no (fun _=>rfl) rfl
  |nm i=>
   cases e with
   |call j f args=>
    refine Sq.x (fun Γ X r st k hp h=>?_) rfl;obtain⟨⟨ts,v⟩,hv,h9⟩:=z04 h;obtain⟨p,rfl⟩:=q_As hv;obtain⟨x,hx,h8⟩:=z04 h9;cases z2a hx;obtain⟨h1,h2,h3,h4⟩:=and4 h8;obtain⟨y,q,rfl,h5⟩:=z25 h1;obtain⟨l1,l2,l3⟩:=k.loc h5;have hc:z1w v=false:=by obtain⟨u,hu,_⟩:=z04 h4;obtain⟨_,_,rfl⟩:=z1q hu;rfl
    exact zgm (by rw[k.hN];exact k.nd) l1 l2 l3 hc ((allE _).E Γ X r _ k h4)
   |_=>exact Sq.no (fun _=>rfl) rfl
 |rse c=>exact Sq.x (fun _ _ _ _ _ _ h=>ff rfl h) rfl
 |_=>exact Sq.no (fun _=>rfl) rfl
end
section
variable {P:ao}{w:World}{K:W.Frag}{mg:Str->Option Value}{base:Heap}
structure Dok (Γ:Gm)(Κ:List D)(Φ:List Fn)(P:ao)(w:World)(K:W.Frag)(mg:Str->Option Value)(base:Heap)(k:Nat):Prop where
 free:∀x,Γ.free.contains x=true->mg x=none
 fns:∀(j:Nat) f n,Γ.fns[j]?=some (f,n)->∃m k' ps,Φ[j]?=some m/\k'<=k/\Cal P w K mg base k' f ps (spD K n m)
 cst:∀(j:Nat) x,Γ.cst[j]?=some x->∃d a,Κ[j]?=some d/\mg x=some (.ref a)/\∀H B,B none->Rep K H B (.ref a) d
 fnx:∀(j:Nat) f n,Γ.fns[j]?=some (f,n)->∃m k' ps,Φ[j]?=some m/\k'<=k/\CalX P w K mg base k' f ps n m
 xk:Xok Γ K mg
theorem z3o {H:Hp}{A:Ad->Prop}{vs:List V}{ds:List D}{n:Nat}(r:Reps K H A vs ds):StOk K ⟨H,fun a=>H a=none\/A (some a),fun _=>none⟩ H (vs.map some++ba (n-vs.length) none) (ds.map (fun d=>some (.od,d))++ba (n-ds.length) none) where
 ext:=Same.refl H
 vis:=fun a e=>.inl e
 own:=fun a i e=>by cases e
 len:=by have:=r.length;simp only[ac,ag,bz];omega
 sl:=fun i g d e=>by
  rw[jb]at e;split at e
  ·rename_i hi;rw[bc]at e;cases h1:ds[i]? with
   |none=>rw[h1]at e;cases e
   |some d'=>
    rw[h1]at e;cases e;obtain⟨v,h2,h3⟩:=Reps.get r h1;refine⟨v,?_,?_⟩
    ·rw[jb,if_pos (by rw[ag,r.length];rw[ag]at hi;exact hi),bc,h2];rfl
    ·refine(Rep.there _ h3).weak fun a h=>?_;cases a with
     |none=>trivial
     |some a=>exact⟨fun z=>h.2 z,.inr h.1⟩
  ·rw[c0]at e;split at e<;>cases e
theorem z9h {Κ:List D}{Φ:List Fn}{s:S}{ρ:Rho}{x:GD}(e:(match evX Κ Φ s ρ with|some c=>Res.exc (.str c)|none=>.no)=Res.ok x):False:=by cases h:evX Κ Φ s ρ<;>rw[h]at e<;>cases e
theorem d_fn {Γ:Gm}{Κ:List D}{Φ:List Fn}{x:Str}{st:Stmt}{ps:List Str}{k:Nat}{s:S}{f:Addr}{fd:cz}(Fu:Fun K x x st f fd)(Sc:FnScope Γ.N ps (z05 st))(hs:Γ.sc=z05 st)(hb:Γ.blk=false)(hxc:Γ.xc=none)(dk:Dok Γ Κ Φ P w K mg base k)(hc:chkL Γ s (z0p st)=true):
  FnOk P w K mg base CX0 (k+1) f fd ps (spD K ps.length (runD Κ Φ Γ.N.length s)):=by
 refine Fu.ok Sc (fun vs H Q E h=>h.choose_spec.choose_spec.choose_spec.1) fun cdv A outer s1 H vs Q E hr hsp=>?_;obtain⟨B,ds,r,hl,rs,e,q⟩:=hsp;refine⟨_,sL Κ Φ s Γ (cxOf CX0 P w K mg base Γ.N x (z05 st) f cdv A outer s1 H E).nox k _ ⟨rfl,hs.symm,Sc.nd,fun _ _=>rfl,by rw[hs];exact Sc.kind,dk.free,dk.fns,dk.cst,dk.fnx,fun _=>hr,fun _=>rfl,hr.units,fun _=>⟨rfl,rfl⟩,fun _=>rfl,fun _ _ z=>(by rw[hxc]at z;cases z),dk.xk⟩ PassesOwn.never hc,?_⟩;unfold runD at e;have so:=z3o (n:=Γ.N.length) rs;have hd:ds.length=vs.length:=(rs.length).symm;generalize ho:evS Κ Φ s (ds.map (fun d=>some (.od,d))++ba (Γ.N.length-ds.length) none)=out at e
 match out,ho,e with
 |.ok (.nx ρ'),ho,e=>cases e;refine⟨_,_,_,so,ho,fun σ' H' F' so' ru fr=>q .non H' (fun a o e=>(fr a o e rfl).1) rfl⟩
 |.ok (.rt g d),ho,e=>
  cases e;refine⟨_,_,_,so,ho,fun v H' hk rv=>q v H' (fun a o e=>hk a o e rfl) (rv.weak fun a h=>?_)⟩;cases g with
  |fr=>cases a<;>exact h
  |nu=>cases a<;>exact h
  |od=>cases a with
   |none=>exact .inr (.inr rfl)
   |some a=>exact(show H a=none\/B (some a)from h).elim .inl fun z=>.inr (.inl z)
  |al=>cases a with
   |none=>exact .inr (.inr rfl)
   |some a=>exact(show H a=none\/B (some a)from h).elim .inl fun z=>.inr (.inl z)
 |.exc _,ho,e=>exact(z9h (Κ:=Κ) (Φ:=Φ) e).elim
 |.no,ho,e=>exact(z9h (Κ:=Κ) (Φ:=Φ) e).elim
theorem zln {Γ:Gm}{Κ:List D}{Φ:List Fn}{x:Str}{st:Stmt}{ps:List Str}{k:Nat}{s:S}{f:Addr}{fd:cz}(Fu:Fun K x x st f fd)(Sc:FnScope Γ.N ps (z05 st))(hs:Γ.sc=z05 st)(hb:Γ.blk=false)(hxc:Γ.xc=none)(dk:Dok Γ Κ Φ P w K mg base k)(hc:chkL Γ s (z0p st)=true):
  FnOk P w K mg base (CXE P w base) (k+1) f fd ps (spX K mg ps.length (runD Κ Φ Γ.N.length s)):=by
 obtain⟨oc,od,kV,doc,pm,an,cdv,ct,osl,rfl,lk,hcd⟩:=Fu.ex;refine zdk lk hcd Sc (fun vs H Q E h=>h.choose_spec.choose_spec.choose_spec.1) fun A outer s1 H vs Q E hr hsp=>?_;obtain⟨B,ds,c,hl,rs,e,q⟩:=hsp;refine⟨_,(allX s).L Γ (cxOf (CXE P w base) P w K mg base Γ.N x (z05 st) f cdv A outer s1 H E) k _ ⟨rfl,hs.symm,Sc.nd,fun _ _=>rfl,by rw[hs];exact Sc.kind,dk.free,dk.fns,dk.cst,dk.fnx,fun _=>hr,fun _=>rfl,hr.units,fun _=>⟨rfl,rfl⟩,fun _=>rfl,fun _ _ z=>(by rw[hxc]at z;cases z),dk.xk⟩ PassesOwn.leaving hc,?_⟩;have so:=z3o (n:=Γ.N.length) rs;refine⟨_,_,c,so,?_,?_⟩
 ·unfold runD at e;split at e
  ·cases e
  ·cases e
  ·cases e
  ·split at e
   ·rename_i h;cases e;exact h
   ·cases e
 ·refine⟨fun pins σ H1 s2 a C args h' I hm hS hx=>?_,fun pins σ H1 s2 a C H' s' I hm hS fl=>?_⟩
  ·exact z6x I hx rfl rfl rfl hS fun s3 fl=>⟨a,C,H1,rfl,fl,q C H1 hm hS⟩
  ·exact fl.leave (outer:=[]) I rfl rfl rfl hS fun s3 fl=>⟨a,C,H',rfl,fl,q C H' hm hS⟩
theorem z71 {K:W.Frag}{H:Hp}{a:Addr}{ns:List Int}(h:SqL K H a (ns.map V.int)):Reps K H (fun _=>True) [.ref a] [.list (ns.map .int)]:=by
 refine⟨_,_,rfl,⟨a,ns.map V.int,rfl,?_,?_⟩,rfl⟩
 ·rcases h with(h|h)|h
  ·exact .inl ⟨h,trivial⟩
  ·exact .inr ⟨.inl h,trivial⟩
  ·exact .inr ⟨.inr h,trivial⟩
 ·clear h
  induction ns with
  |nil=>rfl
  |cons n ns ih=>exact⟨_,_,rfl,rfl,ih⟩
end
section
variable {X:Cx}{pins:List (Addr×Obj)}{σ:L2.St}{H:Hp}{s:aa}{i:Nat}{n:Str}{a:Addr}{oe:Obj}
abbrev hld (o:Obj):HO:=.frz o (.own 0)
theorem zf5 (I:Inv X pins σ H s)(hn:H a=none)(ho:s.heap.get? a=some oe)(h0:X.s₀.heap.get? a=none)(h1:a≠X.env.locals)(h2:∀v,oe.data≠.cell v)(h3:∀p∈X.pn++pins,p.1≠a):Inv X pins σ (upd H a (hld oe)) s:=by
 have ne:∀b v,H b=some v->upd H a (hld oe) b=some v:=fun b v q=>by rw[z06 (fun z=>by subst z;rw[hn]at q;cases q)];exact q
 refine⟨I.ok,I.os,I.bare,⟨I.base.keep,I.base.slot,fun b q e1 e2 e3=>?_,I.base.there,fun b xs q=>ne b _ (I.base.tups b xs q),fun b u v q=>ne b _ (I.base.frzs b u v q),fun b ps q=>?_⟩,I.loc,I.cell,?_,fun x c h=>?_,fun p hp=>?_,fun b u q=>?_,I.len,I.fx⟩
 ·rw[z06 (fun z=>by subst z;rw[h0]at e1;cases e1)];exact I.base.free b q e1 e2 e3
 ·obtain⟨more,e⟩:=I.base.tbls b ps q;exact⟨more,ne b _ e⟩
 ·rw[z06 (fun z=>h1 z.symm)];exact I.free
 ·rw[z06 (fun z=>?_)]
  ·exact I.freeC x c h
  ·obtain⟨v,o,e,d⟩:=I.cell x c h;rw[z,ho]at e;cases e;exact h2 v d
 ·obtain⟨a1,a2,a3⟩:=I.pin p hp;exact⟨a1,by rw[z06 (fun z=>h3 p hp z)];exact a2,a3⟩
 ·by_cases hb:b=a
  ·subst hb;rw[z0e]at q;cases q;exact⟨ho,_,ho⟩
  ·rw[z06 hb]at q;exact(I.hok b u q).stay (fun c v _ q=>q) (fun c q=>ne c _ q) fun c xs q=>ne c _ q
def inF (X:Cx)(i:Nat)(n:Str)(a:Addr):Cx:={X with N:=X.N.set i "",fx:=some (n,.ref a)}
theorem zih (ok:X.Ok)(nd:X.N.Nodup)(hi:X.N[i]?=some n)(hv:X.env.scope.names.lookup ("":Str)=none)(hl:X.env.scope.names.lookup n=some .local):(inF X i n a).Ok:=by
 refine⟨ok.mod,ok.kind,ok.glob,ok.blt,ok.above,ok.inj,ok.has,ok.cab,ok.hd,ok.frames,ok.stk,ok.exf,ok.bs,ok.bsz,ok.noex,ok.exfs,ok.funs,ok.frf,fun x u z=>?_⟩;cases z;refine⟨fun hm=>?_,hl⟩;obtain⟨j,hj⟩:=la.mp hm;have hj:(X.N.set i "")[j]?=some n:=hj;by_cases e:i=j
 ·subst e;rw[br (au.mp hi).1]at hj;cases hj;rw[hv]at hl;cases hl
 ·rw[a9 e]at hj;exact e (z27 nd hi hj)
theorem zgy (I:Inv X pins σ H s)(nd:X.N.Nodup)(hi:X.N[i]?=some n)(hv:X.env.scope.names.lookup ("":Str)=none)(hl:X.env.scope.names.lookup n=some .local)(hσ:σ[i]?=some (some (.ref a))):Inv (inF X i n a) pins (σ.set i none) H s:=by
 obtain⟨m,hn,hlk⟩:=I.loc;refine⟨zih I.ok nd hi hv hl,I.os,I.bare,I.base,⟨m,hn,fun j x v e1 e2 e3=>?_⟩,I.cell,I.free,I.freeC,I.pin,I.hok,?_,fun x u z=>?_⟩
 ·have e1:(X.N.set i "")[j]?=some x:=e1;by_cases e:i=j
  ·subst e;rw[br (by rw[I.len];exact(au.mp hi).1)]at e2;cases e2
  ·rw[a9 e]at e1 e2;exact hlk j x v e1 e2 e3
 ·show(σ.set i none).length=(X.N.set i "").length;rw[bo,bo];exact I.len
 ·cases z;obtain⟨u,r,q⟩:=hlk i n (.ref a) hi hσ (.inl hl);cases r;rcases q with⟨_,q⟩|⟨k,_⟩
  ·exact⟨m,hn,q⟩
  ·have k:X.env.scope.names.lookup n=some .cell\/X.env.scope.names.lookup n=some .free:=k;rcases k with k|k<;>(rw[hl]at k;cases k)
theorem zdx (ok:X.Ok)(hx:X.fx=none)(hi:X.N[i]?=some n)(I:Inv (inF X i n a) pins σ H s):Inv X pins (σ.set i none) H s:=by
 obtain⟨m,hn,hlk⟩:=I.loc;have hlen:σ.length=(X.N.set i "").length:=I.len;rw[bo]at hlen;refine⟨ok,I.os,I.bare,I.base,⟨m,hn,fun j x v e1 e2 e3=>?_⟩,I.cell,I.free,I.freeC,I.pin,I.hok,by rw[bo];exact hlen,fun x u z=>by rw[hx]at z;cases z⟩;by_cases e:i=j
 ·subst e;rw[br (by rw[hlen];exact(au.mp hi).1)]at e2;cases e2
 ·rw[a9 e]at e2;exact hlk j x v (show(X.N.set i "")[j]?=some x by rw[a9 e];exact e1) e2 e3
theorem zda (h:X.H₀ a=some (hld oe)):Xh X a oe:=fun _ _ _ _ I=>(I.hok a _ (I.base.frzs a oe _ h)).1
end
section
variable {P:ao}{w:World}{K:W.Frag}{mg:Str->Option Value}{base:Heap}
def spE (mg:Str->Option Value)(c:Str)(r:Bool):Sp:=fun vs H Q _=>∃a oe C,vs=[.ref a]/\H a=some (hld oe)/\oe.cls=.ref C/\mg c=some (.ref C)/\∀H',Same H H'->Q (.bl r) H'
theorem z9s {H:Hp}{N:Nat}{σ:L2.St}(hl:σ.length=N):StOk K ⟨H,fun a=>H a=none\/True,fun _=>none⟩ H σ (ba N none) where
 ext:=Same.refl H
 vis:=fun a e=>.inl e
 own:=fun a i e=>by cases e
 len:=by rw[bz];exact hl
 sl:=fun i g d e=>by rw[c0]at e;split at e<;>cases e
theorem zli {Γ:Gm}{N:List Str}{x p c:Str}{st:Stmt}{k:Nat}{s:S}{g:G}{r:Bool}{f:Addr}{fd:cz}(Fu:Fun K x x st f fd)(Sc:FnScope N [p] (z05 st))(h0:N[0]?=some p)(hN:Γ.N=N.set 0 "")(nd:(N.set 0 "").Nodup)(hs:Γ.sc=z05 st)(hb:Γ.blk=false)(hf:Γ.fns=[])(hcs:Γ.cst=[])(hxc:Γ.xc=some (p,c))
  (hv:(z05 st).names.lookup ("":Str)=none) (hl:(z05 st).names.lookup p=some .local) (free:∀y,Γ.free.contains y=true->mg y=none) (xk:Xok Γ K mg) (hc:chkL Γ s (z0p st)=true) (he:evS [] [] s (ba N.length none)=.ok (.rt g (.bool r))):FnOk P w K mg base CX0 (k+1) f fd [p] (spE mg c r):=by
 refine Fu.ok Sc (fun vs H Q E h=>by obtain⟨_,_,_,rfl,_⟩:=h;rfl) fun cdv A outer s1 H vs Q E hr hsp=>?_;obtain⟨a,oe,C,rfl,hH,hcl,hm,q⟩:=hsp;refine⟨fun D σ H1=>σ=start N [.ref a]/\H1=H/\∀H',Same H H'->D.rt (.bl r) H',?_,rfl,rfl,q⟩;intro pins s2 σ H1 D I hq;obtain⟨rfl,rfl,hq⟩:=hq;have hsl:(start N [V.ref a])[0]?=some (some (.ref a)):=rfl;have I2:=zgy (i:=0) (n:=p) (a:=a) I Sc.nd h0 hv hl hsl;have len:((start N [V.ref a]).set 0 none).length=N.length:=by rw[bo];exact I.len
 have so:StOk K ⟨H1,fun a=>H1 a=none\/True,fun _=>none⟩ H1 ((start N [V.ref a]).set 0 none) (ba N.length none):=z9s len;have h:=sL [] [] s Γ (inF (cxOf CX0 P w K mg base N x (z05 st) f cdv A outer s1 H1 E).nox 0 p a) k _ ⟨hN.symm,hs.symm,by rw[hN];exact nd,fun _ _=>rfl,by rw[hs];exact Sc.kind,free,fun j _ _ z=>(by rw[hf]at z;simp at z),fun j _ z=>(by rw[hcs]at z;simp at z),fun j _ _ z=>(by rw[hf]at z;simp at z),fun _=>hr,fun _=>rfl,hr.units,fun _=>⟨rfl,rfl⟩,fun z=>(by rw[hxc]at z;cases z),fun n' c' z=>(by rw[hxc]at z;cases z;exact⟨a,oe,C,rfl,zda hH,hcl,hm⟩),xk⟩ PassesOwn.never hc;refine gc (h pins s2 _ H1 ⟨fun _ _=>False,D.rt,fun _ _=>False,fun _ _=>False⟩ I2 ⟨_,_,_,so,he,fun v H' hk rv=>?_⟩) (fun fl s9 h9=>?_) fun e s' z=>z
 ·have ev:v=.bl r:=rv;subst ev;exact hq H' fun b o e=>hk b o e rfl
 ·cases fl with
  |ret u=>obtain⟨v,σ',H',J,rv,qv⟩:=h9;exact⟨v,_,H',zdx I.ok rfl h0 J,rv,qv⟩
  |next=>obtain⟨_,_,_,z⟩:=h9;exact z.elim
  |brk=>obtain⟨_,_,_,z⟩:=h9;exact z.elim
  |cont=>obtain⟨_,_,_,z⟩:=h9;exact z.elim
end
section
variable {X:Cx}{pins:List (Addr×Obj)}{σ:L2.St}{H:Hp}{s:aa}{i j:Nat}{n y c:Str}{r:Bool}
def Hs (mg:Str->Option Value)(c:Str)(j:Nat)(σ:L2.St)(H:Hp):Prop:=∃a oe C,σ[j]?=some (some (.ref a))/\H a=some (hld oe)/\oe.cls=.ref C/\mg c=some (.ref C)
theorem zek {g pr:Str}{gp yp cp pos:Pos}{k k':Nat}(Co:Cal X.prog X.w X.K X.mg X.base k g [pr] (spE X.mg c r))(hr:Room k' X.A)(hk:k<=k')(hg:Gl X g)(hdb:(g==("__debug__":Str))=false)(hN:X.N[j]?=some y)(hv:Vis X.env.scope y)(hd:(y==("__debug__":Str))=false)(hcd:(y==("__classdict__":Str))=false):
  PS X (.Return (some (.Call (.Name g gp) [.Name y yp] [] cp)) pos) (fun D σ H=>Hs X.mg c j σ H/\∀H',Same H H'->D.rt (.bl r) H'):=
 PS.imp (z61 (z6g Co hr (z8h (z1k hN hv hd hcd) z39) rfl hk hg hdb)) fun D σ H zz=>by obtain⟨⟨a,oe,C,h1,h2,h3,h4⟩,q⟩:=zz;exact⟨.ref a,h1,a,oe,C,rfl,h2,h3,h4,q⟩
theorem zfi {Dn:Ends}{B:Str}{C D a:Addr}{H1 H':Hp}{s1 s':aa}{np hp yp ep ap:Pos}(I:Inv X pins σ H1 s1)(fl:Fly X.prog X.w X.base X.stack H1 s1 C a H' s')(hs:X.stack=X.env::X.outer)(hf:X.env.frame=some X.env.locals)(hex:X.ex=[])(hx:X.fx=none)(nd:X.N.Nodup)(hi:X.N[i]?=some n)(hv:X.env.scope.names.lookup ("":Str)=none)(hl:X.env.scope.names.lookup n=some .local)(hdn:(n==("__debug__":Str))=false)
  (nd2:(X.N.set i "").Nodup) (hij:i≠j) (hj:X.N[j]?=some y) (hly:X.env.scope.names.lookup y=some .local) (hc:X.mg c=some (.ref C))
  (hB:X.mg B=some (.ref D)) (xC:exV X.K C=true) (xD:exV X.K D=true) (sb:W.subIn X.K (.ref C) (.ref D)=some true) (hgB:Gl X B) (hdB:(B==("__debug__":Str))=false)
  (q:∀σ' H'',Same H1 H''->Hs X.mg c j σ' H''->Dn.nx σ' H''):
  wpAny (model X.prog X.w) X.A (noteFrame (.ref a) X.env) (fun _ s2=>wpAny (model X.prog X.w) X.A (setFlight (.ref a) none) (fun _ s3=>wpAny (model X.prog X.w) X.A (handleBy (.ref a) X.env [.ExceptHandler (some (.Name B np)) (some n) [.Assign [.Name y yp] (.Name n ep) ap] hp]) (SP X pins Dn) X.xe s3) X.xe s2) X.xe s':=by
 have hfr:X.A.frames=some (X.env::X.outer):=by rw[<-hs];exact I.ok.frames
 obtain⟨B0,t,hb0,hB0,cov,w0⟩:=fl.hh;have w0':=w0;rw[hs]at w0';have mk:∀h6,Heap.FlyingW B0 (X.env::X.outer) a (.ref C) (.ref t) h6->s'.heap.UpToSlots h6->Fly X.prog X.w X.base X.stack H1 s1 C a H' {s' with heap:=h6}:=fun h6 w6 up=>by refine⟨fl.os,fl.bare,fl.same,fl.free,⟨B0,t,hb0,hB0,cov,by rw[hs];exact w6⟩,fun b o e z hb=>?_⟩;obtain⟨sl,e1⟩:=fl.slot b o e z hb;obtain⟨_,o3,e3,nd3⟩:=I.stack.mem hb;rw[e]at e3;cases e3;obtain⟨sl3,e4⟩:=up b _ e1 nd3;exact⟨sl3,e4⟩
 refine wpAny_looks_onW hfr hf w0' fun h4 held up4=>?_;refine wpAny_landsW held fun h5 w5 up5=>?_;have f5:=mk h5 w5 (up4.trans up5);have I5:=f5.inv I;refine wpAny_handleBy_cons (codeAny_handlers_test ?_) (by intro z;cases z);refine gq I5.ok.kind hgB (j6 (by rw[I5.ok.glob];exact I5.mod.glob.keeps I5.bk) hB ?_) hdB;obtain⟨bmC,oC,cC⟩:=XC.mk I5.kIn xC;obtain⟨bmD,oD,_⟩:=XC.mk I5.kIn xD;obtain⟨ob,hob,hobc⟩:=w5.there;refine zb3 oC oD hob hobc (cC _ _ sb) ?_;refine codeAny_handlers_suite_as (lands_againW w5 fun h6 w6 up6=>?_);have f6:=mk h6 w6 ((up4.trans up5).trans up6);have I6:=f6.inv I;obtain⟨oe,vs,hoe,hoec,hoed,_⟩:=w6.first;refine z2v I6 nd hi (.inl hl) (v:=.ref a) rfl (fun s7 I7 ch=>?_) (.inr hl);obtain⟨ad,sbt,had⟩:=ch;have nL:a≠X.env.locals:=fun z=>by obtain⟨_,o3,e3,nd3⟩:=I6.stack.mem (b:=X.env.locals) (by rw[hs,b7,hf];exact af);rw[<-z]at e3;have e3:h6.get? a=some o3:=e3;rw[hoe]at e3;cases e3;exact nd3 vs hoed
 have nF:a∉X.fs:=fun z=>by obtain⟨_,o3,e3,nd3⟩:=I6.funs.mem (b:=a) z;have e3:h6.get? a=some o3:=e3;rw[hoe]at e3;cases e3;exact nd3 vs hoed
 have nA:a≠ad:=fun z=>by
  rcases had with h|h
  ·exact nL (z.trans h)
  ·obtain⟨v,oc,hoc,hocd⟩:=I6.cell n ad h;rw[<-z]at hoc;have hoc:h6.get? a=some oc:=hoc;rw[hoe]at hoc;cases hoc;rw[hoed]at hocd;cases hocd
 have ho7:s7.heap.get? a=some oe:=(sbt.2 a nA).trans hoe;have hlt:i<σ.length:=by rw[I.len];exact(au.mp hi).1
 have hH':H' a=none:=za3 f6;have ncell:∀v,oe.data≠.cell v:=fun v z=>by rw[hoed]at z;cases z
 have new1:s1.heap.get? a=none:=by
  cases e:s1.heap.get? a with
  |none=>rfl
  |some o=>
   cases hn:H1 a with
   |some u=>rw[fl.same a u hn]at hH';cases hH'
   |none=>
    have nst:a∉frs X.stack:=fun z=>by
     rw[hs]at z;unfold frs at z;rw[b7,hf]at z;rcases a8.mp z with z|z
     ·exact nL z
     ·exact nF z
    have:=cov a o e hn nst;rw[w0.2.1]at this;cases this
 have new0:X.s₀.heap.get? a=none:=by
  cases e:X.s₀.heap.get? a with
  |none=>rfl
  |some o=>obtain⟨o',e'⟩:=I.base.there a o e (by rw[hex];simp);rw[new1]at e';cases e'
 have nP:∀p∈X.pn++pins,p.1≠a:=fun p hp z=>by have:=(I.pin p hp).1;rw[z,new1]at this;cases this
 have I8:=zig I7 nd hi hv hl (br hlt) ho7 hH' nL nF ncell;rw[mr]at I8
 have I9:Inv (inX X i n a oe) ((a,oe)::pins) (σ.set i none) H' s7:=I8.pins_of fun p hp=>by
  rcases a8.mp hp with rfl|hp
  ·exact I8.pin _ (di _ af)
  ·exact I8.pin p (ar _ hp)
 have hjN:(inX X i n a oe).N[j]?=some y:=by show(X.N.set i "")[j]?=some y;rw[a9 hij];exact hj
 have st:=ps_s (X:=inX X i n a oe) (pos:=ap) (pos':=yp) nd2 hjN (.inl hly) (zl9 (p:=ep) rfl hl hdn) rfl (.inr hly);have run:=z8y st ((a,oe)::pins) s7 (σ.set i none) H' ⟨fun σ' H''=>σ'=(σ.set i none).set j (some (.ref a))/\H''=H',fun _ _=>False,fun _ _=>False,fun _ _=>False⟩ I9 ⟨rfl,rfl⟩;refine gc run (fun fl2 s9 h9=>?_) fun _ _ z=>z.elim;have en:=z9g (M:=model X.prog X.w) (D2:=⟨fun σ' H''=>σ'=(σ.set i none).set j (some (.ref a))/\H''=H',fun _ _=>False,fun _ _=>False,fun _ _=>False⟩) (Dn:=⟨fun σ' H''=>σ'=((σ.set i none).set j (some (.ref a))).set i none/\H''=H',fun _ _=>False,fun _ _=>False,fun _ _=>False⟩) (pos:=hp) (E:=X.xe) I.ok hx nd hi hl (fun σ' H'' z=>⟨by rw[z.1],z.2⟩) (fun _ _ z=>z) (fun _ _ z=>z) (fun _ _ z=>z) h9;refine gc en (fun _ s10 h10=>?_) fun _ _ z=>z;cases fl2 with
 |next=>
  obtain⟨σ',H'',I10,rfl,rfl⟩:=h10;have pa:=I10.pin (a,oe) (ar _ af);have I11:Inv X pins _ H'' s10:=I10.pins_of fun p hp=>I10.pin p (ar _ (ak _ hp));have I12:=zf5 I11 pa.2.1 pa.1 new0 nL ncell nP;refine⟨_,_,I12,q _ _ (fun b o e=>?_) ⟨a,oe,C,?_,z0e,hoec,hc⟩⟩
  ·rw[z06 (fun z=>by subst z;rw[fl.same b o e]at hH';cases hH')];exact fl.same b o e
  ·rw[a9 hij,br (by rw[bo,I.len];exact(au.mp hj).1)]
 |ret u=>obtain⟨_,_,_,_,_,z⟩:=h10;exact z.elim
 |brk=>obtain⟨_,_,_,z⟩:=h10;exact z.elim
 |cont=>obtain⟨_,_,_,z⟩:=h10;exact z.elim
end
end Mi
namespace Mi
open PySem
structure Gd where
 kf:Nat
 args:C
 c:Str
 i:Nat
 j:Nat
 g:Str
 r:Bool
def runG (Φ:List Fn)(n:Nat)(pre:S)(d:Gd)(ds:List D):Res GD:=match evS [] Φ pre (ds.map (fun d=>some (.od,d))++ba (n-ds.length) none)with
 |.ok (.nx ρ)=>(match evA [] Φ d.args ρ with
  |.ok ys=>(match Φ[d.kf]? with
   |some m=>if excOf (m (ys.map (·.2)))=some d.c then .ok (.fr,.bool d.r)else .no
   |none=>.no)
  |_=>.no)
 |_=>.no
end Mi
namespace Mi
open PySem PySem.Spec PyProof.Rows L2
section
variable {X:Cx}{i j:Nat}{n y c:Str}
theorem zge {e:Expr}{es:List Expr}{f B:Str}{k2 k' nn:Nat}{ps2:List Str}{m:Fn}{fs:Rho->Res (List GD)}{p cp ep np hp pos yp np2 ap:Pos}{C D:Addr}
  (Cx:CalX X.prog X.w X.K X.mg X.base k2 f ps2 nn m) (hr:Room k' X.A) (hk2:k2<=k') (ha:∀E,PA (X.wish E) (e::es) (tDA X.K fs)) (hst:((e::es).all fun e=>!isStar e)=true) (hg:Gl X f) (hdb:(f==("__debug__":Str))=false) (hlen:∀ρ ys,fs ρ=.ok ys->ys.length=nn)
  (hs:X.stack=X.env::X.outer) (hf:X.env.frame=some X.env.locals) (hex:X.ex=[]) (hx:X.fx=none) (nd:X.N.Nodup) (hi:X.N[i]?=some n) (hv:X.env.scope.names.lookup ("":Str)=none) (hl:X.env.scope.names.lookup n=some .local) (hdn:(n==("__debug__":Str))=false)
  (nd2:(X.N.set i "").Nodup) (hij:i≠j) (hj:X.N[j]?=some y) (hly:X.env.scope.names.lookup y=some .local)
  (hc:X.mg c=some (.ref C)) (hB:X.mg B=some (.ref D)) (xC:exV X.K C=true) (xD:exV X.K D=true) (sb:W.subIn X.K (.ref C) (.ref D)=some true) (hgB:Gl X B) (hdB:(B==("__debug__":Str))=false):
  PS X (.Try [.Expr (.Call (.Name f p) (e::es) [] cp) ep] [.ExceptHandler (some (.Name B np)) (some n) [.Assign [.Name y yp] (.Name n np2) ap] hp] [] [] pos) (fun Dn σ H=>∃ρ F ys,StOk X.K F H σ ρ/\fs ρ=.ok ys/\excOf (m (ys.map (·.2)))=some c/\∀σ' H',Same H H'->Hs X.mg c j σ' H'->Dn.nx σ' H'):=by
 intro pins s σ H Dn I hq;obtain⟨ρ,F,ys,so,e2,e3,q⟩:=hq;refine wpAny_Try_except ?_;generalize hE:(fun(e:Value) (s₁:aa)=>wpAny (model X.prog X.w) X.A (noteFrame e X.env) (fun _ s₂=>wpAny (model X.prog X.w) X.A (setFlight e none) (fun _ s₃=>wpAny (model X.prog X.w) X.A (handleBy e X.env [.ExceptHandler (some (.Name B np)) (some n) [.Assign [.Name y yp] (.Name n np2) ap] hp]) (SP X pins Dn) X.xe s₃) X.xe s₂) X.xe s₁)=E;have h1:=z32 (X:=X.wish E) (p:=p) (pos:=cp) Cx hr hk2 (ha E) hst hg hdb hlen (I.wish E) so e2 e3 fun H1 s1 C' a H' s' I1 z1 q1 fl=>by have e6:X.mg c=some (.ref C'):=q1;rw[hc]at e6;cases e6;show E (.ref a) s';rw[<-hE];exact zfi I1.unwish fl hs hf hex hx nd hi hv hl hdn nd2 hij hj hly hc hB xC xD sb hgB hdB fun σ' H'' z hh=>q σ' H'' (fun b o e=>z b o (z1 b o e)) hh
 exact i4 (wpAny_Expr_any (thn h1 fun _ _ z=>z.elim) I.quiet (z1v rfl _ _ _))
end
def vSv:List Stmt->Option (Str×Str)
 | [.Assign [.Name y _] (.Name n _) _]=>some (y,n)
 |_=>none
def vRg:Stmt->Option (Str×Str)
 |.Return (some (.Call (.Name g _) [.Name y _] [] _)) _=>some (g,y)
 |_=>none
theorem zh3 {l:List Stmt}{v:Str×Str}(h:vSv l=some v):∃yp np ap,l=[.Assign [.Name v.1 yp] (.Name v.2 np) ap]:=by
 unfold vSv at h;split at h
 ·cases h;exact⟨_,_,_,rfl⟩
 ·cases h
theorem zgj {s:Stmt}{v:Str×Str}(h:vRg s=some v):∃gp yp cp pos,s=.Return (some (.Call (.Name v.1 gp) [.Name v.2 yp] [] cp)) pos:=by
 unfold vRg at h;split at h
 ·cases h;exact⟨_,_,_,_,rfl⟩
 ·cases h
def zef (Γ:Gm)(pre:S)(d:Gd):List Stmt->Bool
 | [s0,t,rt]=>chk1 Γ pre s0&&(vTr t).any fun v=>(vSv v.2.2.2.2).any fun u=>(vRg rt).any fun w=>
   (Γ.cm&&(Γ.xc.isNone&& !Γ.blk)&&(Γ.N[d.i]?==some v.2.2.2.1)&&(Γ.sc.names.lookup v.2.2.2.1==some .local)&&decide (Γ.N.set d.i "").Nodup)&&
   ((Γ.sc.names.lookup ("":Str)).isNone&&glB Γ v.2.2.1&&Γ.hnd.contains (d.c,v.2.2.1)&&glB Γ v.1&&glB Γ d.g)&&
   ((Γ.fns[d.kf]?==some (v.1,v.2.1.length))&&chkA Γ d.args v.2.1&& !v.2.1.isEmpty&&(u==(w.2,v.2.2.2.1))&&(w.1==d.g))&&
   (decide (d.i≠d.j)&&(Γ.N[d.j]?==some w.2)&&(Γ.sc.names.lookup w.2==some .local)&& !(v.2.2.2.1==("__debug__":Str))&&(!(w.2==("__debug__":Str))&& !(w.2==("__classdict__":Str))))
 |_=>false
theorem zf7 {Φ:List Fn}{n:Nat}{pre:S}{d:Gd}{ds:List D}{x:GD}(h:runG Φ n pre d ds=.ok x):∃ρ ys m,evS [] Φ pre (ds.map (fun d=>some (.od,d))++ba (n-ds.length) none)=.ok (.nx ρ)/\evA [] Φ d.args ρ=.ok ys/\Φ[d.kf]?=some m/\excOf (m (ys.map (·.2)))=some d.c/\x=(.fr,.bool d.r):=by
 unfold runG at h;split at h
 ·rename_i ρ e;split at h
  ·rename_i ys e2;split at h
   ·rename_i m e3;split at h
    ·rename_i hz;cases h;exact⟨ρ,ys,m,e,e2,e3,hz,rfl⟩
    ·cases h
   ·cases h
  ·cases h
 ·cases h
theorem zbf {Φ:List Fn}{n:Nat}{pre:S}{d:Gd}{ds:List D}:excOf (runG Φ n pre d ds)=none:=by
 unfold runG;split
 ·split
  ·split
   ·split<;>rfl
   ·rfl
  ·rfl
 ·rfl
section
variable {P:ao}{w:World}{K:W.Frag}{mg:Str->Option Value}{base:Heap}
theorem zmj {Γ:Gm}{Φ:List Fn}{x:Str}{st:Stmt}{ps:List Str}{k kg:Nat}{pre:S}{d:Gd}{pr:Str}{f:Addr}{fd:cz}(Fu:Fun K x x st f fd)(Sc:FnScope Γ.N ps (z05 st))(hs:Γ.sc=z05 st)(hb:Γ.blk=false)(hxc:Γ.xc=none)(dk:Dok Γ [] Φ P w K mg base k)(hc:zef Γ pre d (z0p st)=true)(Cg:Cal P w K mg base kg d.g [pr] (spE mg d.c d.r))(hkg:kg<=k):
  FnOk P w K mg base CX0 (k+1) f fd ps (spD K ps.length (runG Φ Γ.N.length pre d)):=by
 refine Fu.ok Sc (fun vs H Q E h=>h.choose_spec.choose_spec.choose_spec.1) fun cdv A outer s1 H vs Q E hr hsp=>?_;obtain⟨B,ds,xx,hl,rs,e,q⟩:=hsp;obtain⟨ρ1,ys,m,e1,e2,e3,e4,rfl⟩:=zf7 e;generalize hbd:z0p st=bd at hc;unfold zef at hc;split at hc
 ·rename_i s0 t rt;obtain⟨h0,k1⟩:=and2 hc;obtain⟨⟨f',es,Bn,n,su⟩,hv,k2⟩:=z04 k1;obtain⟨⟨u1,u2⟩,hu,k3⟩:=z04 k2;obtain⟨⟨g',y⟩,hw,k4⟩:=z04 k3;clear hc k1 k2 k3;obtain⟨p,cp,ep,np,hpp,pos,rfl⟩:=q_Tr hv;obtain⟨gp,yp,cp2,pos2,rfl⟩:=zgj hw;obtain⟨k5,h4⟩:=and2 k4;obtain⟨h1,h2,h3⟩:=and3 k5;obtain⟨a1,a2,a3,a4,a5⟩:=and5 h1;obtain⟨b1,b2,b3,b4,b5⟩:=and5 h2;obtain⟨c1,c2,c3,c4,c5⟩:=and5 h3;obtain⟨d1,d2,d3,d4,d5⟩:=and5 h4;obtain⟨d6,d7⟩:=and2 d5;obtain⟨yp2,np2,ap,rfl⟩:=zh3 hu;have ce4:(u1,u2)=(y,n):=n6 c4;have ce5:d.g=g':=(n6 c5).symm;have u1e:y=u1:=(congrArg nk ce4).symm;have u2e:n=u2:=(congrArg Prod.snd ce4).symm;clear c4 c5 ce4 hu hw hv k4 k5;subst u1e;subst u2e;subst ce5;obtain⟨e0,es,rfl⟩:=z2b c3;have kk:Cok Γ [] Φ (cxOf CX0 P w K mg base Γ.N x (z05 st) f cdv A outer s1 H E).nox k:=⟨rfl,hs.symm,Sc.nd,fun _ _=>rfl,by rw[hs];exact Sc.kind,dk.free,dk.fns,dk.cst,dk.fnx,fun _=>hr,fun _=>rfl,hr.units,fun _=>⟨rfl,rfl⟩,fun _=>rfl,fun _ _ z=>(by rw[hxc]at z;cases z),dk.xk⟩;obtain⟨g1,g2⟩:=kk.gl b4;obtain⟨g3,g4⟩:=kk.gl b2;obtain⟨g5,g6⟩:=kk.gl b5;obtain⟨C,D,m1,m2,x1,x2,sb⟩:=kk.xk.hnd d.c Bn b3;obtain⟨m',kk',ps',n1,n2,n3⟩:=kk.fnx d.kf _ _ (n6 c1);rw[e3]at n1;cases n1;have hly:(z05 st).names.lookup y=some .local:=by rw[<-hs];exact n6 d3
  have st1:=(z9q (Κ:=[]) (Φ:=Φ) pre).R Γ _ k s0 kk PassesOwn.never h0;have st2:=zge (j:=d.j) (y:=y) (i:=d.i) (n:=n) (c:=d.c) (p:=p) (cp:=cp) (ep:=ep) (np:=np) (hp:=hpp) (pos:=pos) (yp:=yp2) (np2:=np2) (ap:=ap) (fs:=evA [] Φ d.args) n3 hr n2 (fun E=>(all d.args).A Γ _ k _ (kk.wish E) c2) (z0t c2) g1 g2 (z1y [] Φ c2) rfl rfl rfl rfl Sc.nd (n6 a3) (by have:=d8.mp b1;rw[hs]at this;exact this) (by have:=n6 a4;rw[hs]at this;exact this) (z1l d4) (ny a5) (ny d1) (n6 d2) hly m1 m2 x1 x2 sb g3 g4;have st3:=zek (X:=(cxOf CX0 P w K mg base Γ.N x (z05 st) f cdv A outer s1 H E).nox) (j:=d.j) (y:=y) (gp:=gp) (yp:=yp) (cp:=cp2) (pos:=pos2) Cg hr hkg g5 g6 (n6 d2) (.inl hly) (z1l d6) (z1l d7);refine⟨_,z2h st1 (z2h st2 (z8y st3)),?_⟩;have so:=z3o (n:=Γ.N.length) rs;refine⟨_,_,_,so,e1,fun σ' H' F' so' ru fr=>⟨_,_,ys,so',e2,e4,fun σ2 H2 z hh=>⟨hh,fun H3 z3=>q (.bl d.r) H3 (fun a o e=>z3 a o (z a o (fr a o e rfl).1)) rfl⟩⟩⟩
 ·cases hc
theorem zi3 {Γ:Gm}{Φ:List Fn}{x:Str}{st:Stmt}{ps:List Str}{k:Nat}{pre:S}{d:Gd}{f:Addr}{fd:cz}(Fu:Fun K x x st f fd)(Sc:FnScope Γ.N ps (z05 st)):
  FnOk P w K mg base (CXE P w base) (k+1) f fd ps (spX K mg ps.length (runG Φ Γ.N.length pre d)):=by
 obtain⟨oc,od,kV,doc,pm,an,cdv,ct,osl,rfl,lk,hcd⟩:=Fu.ex;refine zdk lk hcd Sc (fun vs H Q E h=>h.choose_spec.choose_spec.choose_spec.1) fun A outer s1 H vs Q E hr hsp=>?_;obtain⟨B,ds,c,hl,rs,e,q⟩:=hsp;rw[zbf]at e;cases e
end
structure XR where
 c:Str
 cs:List (Str×Bool)
 B:Str
def XR.subs (r:XR):List (Str×Str×Bool):=(r.c,"ValueError",true)::r.cs.map fun y=>(r.c,y.1,y.2)
def zab (K:W.Frag)(A:Addr):List (Str×Bool)->Prop
 | []=>True
 |y::l=>(∃D dd cd sl,W.nsIn K bj y.1=some (some (.ref D))/\K.lookup D=some ⟨.type "type",dd,.cls cd,sl⟩/\W.subIn K (.ref A) (.ref D)=some y.2)/\zab K A l
structure Kx (K:W.Frag)(r:XR)(A D:Addr):Prop where
 a:W.nsIn K bj r.c=some (some (.ref A))
 l:∃dd cd sl,K.lookup A=some ⟨.type "type",dd,.cls cd,sl⟩
 e:W.excIn K A [.type "ValueError",.type "Exception",.type "BaseException",.type "object"] "ValueError.__new__"=true
 cl:W.findIn K (.ref A) "__class__"=some (some (.builtin "object.__class__"))
 ga:W.findIn K (.ref A) "__getattribute__"=some (some (.builtin "BaseException.__getattribute__"))
 gt:W.findIn K (.ref A) "__getattr__"=some none
 ob:W.subIn K (.ref A) (.type "object")=some true
 be:W.subIn K (.ref A) (.type "BaseException")=some true
 v:W.subIn K (.ref A) (.type "ValueError")=some true
 b:W.nsIn K bj r.B=some (some (.ref D))
 f:W.excIn K D [.type "ValueError",.type "Exception",.type "BaseException",.type "object"] "ValueError.__new__"=true
 s:W.subIn K (.ref A) (.ref D)=some true
 cs:zab K A r.cs
def kxs (K:W.Frag):List XR->Prop
 | []=>True
 |r::l=>(∃A D,Kx K r A D)/\kxs K l
theorem z5y {K:W.Frag}:∀{l:List XR} {r:XR},kxs K l->r∈l->∃A D,Kx K r A D
 | [],_,_,z=>nomatch z
 |_::_,_,h,.head _=>h.1
 |_::_,_,h,.tail _ z=>z5y h.2 z
theorem z5v {K:W.Frag}{A:Addr}:∀{l:List (Str×Bool)} {y:Str×Bool},zab K A l->y∈l->∃D dd cd sl,W.nsIn K bj y.1=some (some (.ref D))/\K.lookup D=some ⟨.type "type",dd,.cls cd,sl⟩/\W.subIn K (.ref A) (.ref D)=some y.2
 | [],_,_,z=>nomatch z
 |_::_,_,h,.head _=>h.1
 |_::_,_,h,.tail _ z=>z5v h.2 z
theorem z6h {K:W.Frag}{D:Addr}{dd:Option Addr}{cd:ClassData}{sl:Array (Option Value)}(l:K.lookup D=some ⟨.type "type",dd,.cls cd,sl⟩):W.typeIn K (.ref D)=some (.type "type")/\(W.clsIn K D).isSome=true:=by
 refine⟨?_,?_⟩
 ·show(K.lookup D).map (·.cls)=_;rw[l];rfl
 ·unfold W.clsIn;rw[l];rfl
theorem ziy {Γ:Gm}{K:W.Frag}{h:Heap}{mg:Str->Option Value}{xt:List XR}(X:K.In h)(G:h.Ns bj mg)(hk:kxs K xt)(hz:xt≠[]->mg "ValueError"=none)(h1:Γ.sub=(xt.map XR.subs).flatten)(h2:Γ.rs=xt.map (·.c))(h3:Γ.hnd=xt.map fun r=>(r.c,r.B)):Xok Γ K mg:=by
 refine⟨fun c C b z=>?_,fun c z=>?_,fun c B z=>?_⟩
 ·rw[h1]at z;obtain⟨l,hl,z⟩:=i7.mp (b6.mp z);obtain⟨r,hr,rfl⟩:=bt.mp hl;obtain⟨A,D,k⟩:=z5y hk hr;obtain⟨dd,cd,sl,kl⟩:=k.l;have xa:XA K A:=⟨k.cl,k.ga,k.gt,k.ob,k.be,(z6h kl).1,(z6h kl).2,k.e⟩;rcases a8.mp z with e|z
  ·cases e;exact⟨A,.ty "ValueError",.type "ValueError",W.mg_of X G k.a,xa,XV.val,k.v,rfl,fun w q=>q,.inr ⟨hz (fun q=>by rw[q]at hr;cases hr),by decide+kernel,by decide⟩⟩
  ·obtain⟨y,hy,e⟩:=bt.mp z;cases e;obtain⟨D',dd',cd',sl',e1,e2,e3⟩:=z5v k.cs hy;exact⟨A,.ref D',.ref D',W.mg_of X G k.a,xa,XV.own (z6h e2).1 (z6h e2).2,e3,rfl,fun w q=>q,.inl (W.mg_of X G e1)⟩
 ·rw[h2]at z;obtain⟨r,hr,rfl⟩:=bt.mp (b6.mp z);obtain⟨A,D,k⟩:=z5y hk hr;exact⟨A,W.mg_of X G k.a,k.e⟩
 ·rw[h3]at z;obtain⟨r,hr,e⟩:=bt.mp (b6.mp z);cases e;obtain⟨A,D,k⟩:=z5y hk hr;exact⟨A,D,W.mg_of X G k.a,W.mg_of X G k.b,k.e,k.f,k.s⟩
inductive Kd where
 |n
 |e (c:Str) (r:Bool)
 |g (d:Gd) (je:Nat)
structure DRow where
 nm:Str
 st:Stmt
 N:List Str
 ps:List Str
 free:List Str
 fns:List Nat
 s:S
 F:Fn
 kd:Kd
 kc:List (Str×List Str):=[]
def cD (y:Str×List Str):D:=.tuple (y.2.map .str)
def sig (Rs:List DRow)(j:Nat):Str×Nat:=match Rs[j]? with
 |some c=>(c.nm,c.ps.length)
 |none=>("",0)
def fnAt (Rs:List DRow)(j:Nat):Fn:=match Rs[j]? with
 |some c=>c.F
 |none=>fun _=>.no
def DRow.G (Rs:List DRow)(xt:List XR)(r:DRow):Gm:={N:=r.N,sc:=z05 r.st,free:=r.free,fns:=r.fns.map (sig Rs),cst:=r.kc.map (·.1),sub:=(xt.map XR.subs).flatten,rs:=xt.map (·.c),hnd:=xt.map fun r=>(r.c,r.B)}
def DRow.GE (xt:List XR)(r:DRow)(c:Str):Gm:={N:=r.N.set 0 "",sc:=z05 r.st,free:=r.free,fns:=[],cst:=[],xc:=some (r.ps.headD "",c),sub:=(xt.map XR.subs).flatten,rs:=xt.map (·.c),hnd:=xt.map fun r=>(r.c,r.B)}
def z8v (s:S)(n:Nat)(b:Bool):Bool:=match evS [] [] s (ba n none)with
 |.ok (.rt _ (.bool b'))=>b'==b
 |_=>false
def Kd.isE:Kd->Bool
 |.e _ _=>true
 |_=>false
def nE (Rs:List DRow)(j:Nat):Bool:=match Rs[j]? with
 |some c=>!c.kd.isE
 |none=>true
def gE (Rs:List DRow)(d:Gd)(j:Nat):Bool:=match Rs[j]? with
 |some z=>(z.nm==d.g)&&decide (z.ps.length=1)&&(match z.kd with|.e c b=>(c==d.c)&&(b==d.r)|_=>false)
 |none=>false
def DRow.part (Rs:List DRow)(xt:List XR)(i:Nat)(r:DRow):Bool:=match r.kd with
 |.n=>chkL (r.G Rs xt) r.s (z0p r.st)
 |.e c b=>(decide (r.ps=[r.ps.headD ""])&&(r.N[0]?==some (r.ps.headD ""))&&decide (r.N.set 0 "").Nodup&&((z05 r.st).names.lookup ("":Str)).isNone&&((z05 r.st).names.lookup (r.ps.headD "")==some .local))&&chkL (r.GE xt c) r.s (z0p r.st)&&z8v r.s r.N.length b
 |.g d je=>zef (r.G Rs xt) r.s d (z0p r.st)&&decide (je<i)&&(gE Rs d je&&r.kc.isEmpty)
def DRow.ok (Rs:List DRow)(xt:List XR)(fr:List Str)(i:Nat)(r:DRow):Bool:=
 (decide ((z05 r.st).kind=.function)&& !(z05 r.st).isCoroutine&& !(z05 r.st).isGenerator&&decide r.N.Nodup&&decide (r.N.take r.ps.length=r.ps))&&
 (r.ps.all (fun x=>(z05 r.st).names.lookup x==some .local||(z05 r.st).names.lookup x==some .cell)&&(z05 r.st).names.all (fun y=>!(y.2==.free))&&r.free.all (fun x=>fr.contains x)&&r.fns.all (fun j=>decide (j<i)&&nE Rs j)&&r.part Rs xt i)
def oks (Rs:List DRow)(xt:List XR)(fr:List Str):Nat->List DRow->Bool
 |_,[]=>true
 |i,r::l=>r.ok Rs xt fr i&&oks Rs xt fr (i+1) l
def DRow.fOk (Rs:List DRow)(r:DRow):Prop:=match r.kd with
 |.n=>r.F=runD (r.kc.map cD) (r.fns.map (fnAt Rs)) r.N.length r.s
 |.e _ _=>True
 |.g d _=>r.F=runG (r.fns.map (fnAt Rs)) r.N.length r.s d
def fOks (Rs:List DRow):List DRow->Prop
 | []=>True
 |r::l=>r.fOk Rs/\fOks Rs l
theorem z8b {Rs:List DRow}{xt:List XR}{fr:List Str}:∀{l:List DRow} {k i:Nat} {r:DRow},oks Rs xt fr k l=true->l[i]?=some r->r.ok Rs xt fr (k+i)=true
 | [],_,i,_,_,e=>by simp at e
 |r::l,k,0,_,h,e=>by cases e;exact(and2 h).1
 |r::l,k,i+1,_,h,e=>by
  have:=z8b (k:=k+1) (and2 h).2 (show l[i]?=some _ from e)
  rwa [show k+(i+1)=k+1+i by omega]
theorem z5f {Rs:List DRow}:∀{l:List DRow} {i:Nat} {r:DRow},fOks Rs l->l[i]?=some r->r.fOk Rs
 | [],i,_,_,e=>by simp at e
 |r::l,0,_,h,e=>by cases e;exact h.1
 |r::l,i+1,_,h,e=>z5f h.2 (show l[i]?=some _ from e)
section
variable {P:ao}{w:World}{K:W.Frag}{mg:Str->Option Value}{base:Heap}{Rs:List DRow}{xt:List XR}{fr:List Str}
theorem z3b {r:DRow}{i:Nat}(h:r.ok Rs xt fr i=true):FnScope (r.G Rs xt).N r.ps (z05 r.st)/\(∀x,r.free.contains x=true->fr.contains x=true)/\(∀j∈r.fns,j<i/\nE Rs j=true)/\r.part Rs xt i=true:=by
 obtain⟨h1,h2⟩:=and2 h;obtain⟨a1,a2,a3,a4,a5⟩:=and5 h1;obtain⟨b1,b2,b3,b4,b5⟩:=and5 h2;refine⟨⟨ny a1,z1l a2,z1l a3,ny a4,ny a5,fun x hx=>?_,fun y hy z=>?_⟩,fun x hx=>?_,fun j hj=>⟨ny (and2 (bu.mp b4 j hj)).1,(and2 (bu.mp b4 j hj)).2⟩,b5⟩
 ·rcases de.mp (bu.mp b1 x hx)with q|q
  ·exact .inl (n6 q)
  ·exact .inr (n6 q)
 ·have :=z1l (bu.mp b2 y hy);rw[z]at this;cases this
 ·exact bu.mp b3 x (b6.mp hx)
def z4x (P:ao)(w:World)(K:W.Frag)(mg:Str->Option Value)(base:Heap)(i:Nat)(r:DRow):Prop:=match r.kd with
 |.e c b=>Cal P w K mg base (i+1) r.nm r.ps (spE mg c b)
 |_=>Cal P w K mg base (i+1) r.nm r.ps (spD K r.ps.length r.F)/\CalX P w K mg base (i+1) r.nm r.ps r.ps.length r.F
theorem rowN {j:Nat}{c:DRow}(h:z4x P w K mg base j c)(e:Rs[j]?=some c)(n:nE Rs j=true):Cal P w K mg base (j+1) c.nm c.ps (spD K c.ps.length c.F)/\CalX P w K mg base (j+1) c.nm c.ps c.ps.length c.F:=by
 unfold nE at n;rw[e]at n;have n:(!c.kd.isE)=true:=n;unfold z4x at h;cases hk:c.kd with
 |n=>rw[hk]at h;exact h
 |g d je=>rw[hk]at h;exact h
 |e x b=>rw[hk]at n;cases n
theorem rowE {j:Nat}{d:Gd}(h:∀c,Rs[j]?=some c->z4x P w K mg base j c)(n:gE Rs d j=true):∃p,Cal P w K mg base (j+1) d.g [p] (spE mg d.c d.r):=by
 unfold gE at n;cases e:Rs[j]? with
 |none=>rw[e]at n;cases n
 |some z=>
  rw[e]at n;have n:((z.nm==d.g)&&decide (z.ps.length=1)&&(match z.kd with|.e c b=>(c==d.c)&&(b==d.r)|_=>false))=true:=n;obtain⟨n1,n2,n3⟩:=and3 n;have h:=h z e;unfold z4x at h;cases hk:z.kd with
  |n=>rw[hk]at n3;cases n3
  |g d je=>rw[hk]at n3;cases n3
  |e x b=>
   rw[hk]at n3 h;obtain⟨m1,m2⟩:=and2 n3;have h:Cal P w K mg base (j+1) z.nm z.ps (spE mg x b):=h;rw[n6 n1,n6 m1,n6 m2]at h;cases hp:z.ps with
   |nil=>rw[hp]at n2;cases ny n2
   |cons p l=>rw[hp]at n2 h;have n2:l.length+1=1:=ny n2;cases dj (Nat.succ.inj n2);exact⟨p,h⟩
theorem tells_of {s:S}{n:Nat}{b:Bool}(h:z8v s n b=true):∃g,evS [] [] s (ba n none)=.ok (.rt g (.bool b)):=by
 unfold z8v at h;split at h
 ·rename_i g b' e;cases n6 h;exact⟨g,e⟩
 ·cases h
def zb1 (K:W.Frag)(mg:Str->Option Value)(y:Str×List Str):Prop:=∃a,mg y.1=some (.ref a)/\∀H B,B none->Rep K H B (.ref a) (cD y)
theorem z7v {r:DRow}{i:Nat}(hr:Rs[i]?=some r)(h:r.ok Rs xt fr i=true)(T:∀x∈fr,mg x=none)(xk:∀Γ:Gm,Γ.sub=(xt.map XR.subs).flatten->Γ.rs=xt.map (·.c)->(Γ.hnd=xt.map fun r=>(r.c,r.B))->Xok Γ K mg)(hC:∀y∈r.kc,zb1 K mg y)(ih:∀j c,j<i->Rs[j]?=some c->z4x P w K mg base j c):Dok (r.G Rs xt) (r.kc.map cD) (r.fns.map (fnAt Rs)) P w K mg base i where
 free:=fun x hx=>T x (b6.mp ((z3b h).2.1 x hx))
 fns:=fun j f n e=>by
  have e:(r.fns.map (sig Rs))[j]?=some (f,n):=e;rw[bc]at e;obtain⟨jj,ej,e⟩:=cv.mp e;obtain⟨hlt,hne⟩:=(z3b h).2.2.1 jj (b8 ej);have hl:i<Rs.length:=(au.mp hr).1;have hc:Rs[jj]?=some Rs[jj]:=bg (ji hlt hl);unfold sig at e;rw[hc]at e;cases e;refine⟨fnAt Rs jj,jj+1,Rs[jj].ps,by rw[bc,ej];rfl,hlt,?_⟩;have:fnAt Rs jj=Rs[jj].F:=by unfold fnAt;rw[hc]
  rw[this];exact(rowN (ih jj _ hlt hc) hc hne).1
 cst:=fun j x e=>by have e:(r.kc.map (·.1))[j]?=some x:=e;rw[bc]at e;obtain⟨y,ey,rfl⟩:=cv.mp e;obtain⟨a,h1,h2⟩:=hC y (b8 ey);exact⟨cD y,a,by rw[bc,ey];rfl,h1,h2⟩
 fnx:=fun j f n e=>by
  have e:(r.fns.map (sig Rs))[j]?=some (f,n):=e;rw[bc]at e;obtain⟨jj,ej,e⟩:=cv.mp e;obtain⟨hlt,hne⟩:=(z3b h).2.2.1 jj (b8 ej);have hl:i<Rs.length:=(au.mp hr).1;have hc:Rs[jj]?=some Rs[jj]:=bg (ji hlt hl);unfold sig at e;rw[hc]at e;cases e;refine⟨fnAt Rs jj,jj+1,Rs[jj].ps,by rw[bc,ej];rfl,hlt,?_⟩;have:fnAt Rs jj=Rs[jj].F:=by unfold fnAt;rw[hc]
  rw[this];exact(rowN (ih jj _ hlt hc) hc hne).2
 xk:=xk _ rfl rfl rfl
theorem zee (hok:oks Rs xt fr 0 Rs=true)(hF:fOks Rs Rs)(T:∀x∈fr,mg x=none)(xk:∀Γ:Gm,Γ.sub=(xt.map XR.subs).flatten->Γ.rs=xt.map (·.c)->(Γ.hnd=xt.map fun r=>(r.c,r.B))->Xok Γ K mg)(n:Nat)(hC:∀r∈Rs,∀y∈r.kc,zb1 K mg y)(O:∀i r,i<n->Rs[i]?=some r->Own K mg r.nm r.st r.ps):∀i r,i<n->Rs[i]?=some r->z4x P w K mg base i r:=by
 intro i
 induction i using Nat.strongRecOn with
 |ind i ih=>
  intro r hi hr
  have ho:r.ok Rs xt fr i=true:=by
   have:=z8b hok hr
   rwa [Nat.zero_add]at this
  have ih:∀j c,j<i->Rs[j]?=some c->z4x P w K mg base j c:=fun j c hj hc=>ih j hj c (ji hj hi) hc;have D:=z7v (P:=P) (w:=w) (K:=K) (base:=base) hr ho T xk (hC r (b8 hr)) ih;obtain⟨Sc,hfr,_,hp⟩:=z3b ho;have hf:=z5f hF hr;obtain⟨f,fd,Fu,m,kp,b⟩:=O i r hi hr;unfold DRow.fOk at hf;unfold DRow.part at hp;unfold z4x;cases hk:r.kd with
  |n=>rw[hk]at hf hp;have hf:r.F=_:=hf;show _/\_;rw[hf];exact⟨⟨f,fd,d_fn (Γ:=r.G Rs xt) Fu Sc rfl rfl rfl D hp,m,kp,b⟩,⟨f,fd,zln (Γ:=r.G Rs xt) Fu Sc rfl rfl rfl D hp,m,kp,b⟩⟩
  |e c bb=>rw[hk]at hp;obtain⟨p1,p2,p3⟩:=and3 hp;obtain⟨q1,q2,q3,q4,q5⟩:=and5 p1;obtain⟨g,eg⟩:=tells_of p3;have hps:r.ps=[r.ps.headD ""]:=ny q1;have Fo:FnOk P w K mg base CX0 (i+1) f fd [r.ps.headD ""] (spE mg c bb):=zli (Γ:=r.GE xt c) (N:=r.N) (p:=r.ps.headD "") (c:=c) Fu (by rw[<-hps];exact Sc) (n6 q2) rfl (ny q3) rfl rfl rfl rfl rfl (d8.mp q4) (n6 q5) (fun x hx=>T x (b6.mp (hfr x hx))) (xk _ rfl rfl rfl) p2 eg;show Cal P w K mg base (i+1) r.nm r.ps (spE mg c bb);rw[<-hps]at Fo;exact⟨f,fd,Fo,m,kp,b⟩
  |g d je=>rw[hk]at hf hp;obtain⟨p1,p2,p3⟩:=and3 hp;have hf:r.F=_:=hf;have hje:=ny p2;obtain⟨p3,p4⟩:=and2 p3;rw[z1b p4]at D;obtain⟨pr,Cg⟩:=rowE (P:=P) (w:=w) (K:=K) (mg:=mg) (base:=base) (fun c hc=>ih je c hje hc) p3;show _/\_;rw[hf];exact⟨⟨f,fd,zmj (Γ:=r.G Rs xt) Fu Sc rfl rfl rfl D p1 Cg hje,m,kp,b⟩,⟨f,fd,zi3 (Γ:=r.G Rs xt) Fu Sc,m,kp,b⟩⟩
end
def Kf (K:W.Frag)(r:DRow)(f:Addr)(fd:cz):Prop:=W.nsIn K bj r.nm=some (some (.ref f))/\∃(oc:Value) (od an:Option Addr) (sl:Array (Option Value)) (kV dc pm cd ct:Value),fd=W.fnOf r.nm r.nm (z17 r.st) (z0p r.st) (z05 r.st) .none kV dc pm an cd ct/\K.lookup f=some ⟨oc,od,.func fd,sl⟩/\W.codeIn K cd r.nm=true/\W.keepIn K (.ref f)=true
def zdm (r:DRow):Prop:=∀(kV doc pm:Value) (an:Option Addr) (cdv ct:Value) (us:List Value),us.length=r.ps.length->nh (W.fnOf r.nm r.nm (z17 r.st) (z0p r.st) (z05 r.st) .none kV doc pm an cdv ct) ⟨us,[]⟩=pure (r.ps.zip us)
theorem cut1 {us:List Value}{n:Nat}(h:us.length=n+1):∃a l,us=a::l/\l.length=n:=by
 cases us with
 |nil=>cases h
 |cons a l=>exact⟨a,l,rfl,Nat.succ.inj h⟩
theorem by1 {P:List Value->Prop}(h:∀a,P [a])(us:List Value)(z:us.length=1):P us:=by obtain⟨a,l,rfl,y⟩:=cut1 z;cases dj y;exact h a
theorem by2 {P:List Value->Prop}(h:∀a b,P [a,b])(us:List Value)(z:us.length=2):P us:=by obtain⟨a,l,rfl,y⟩:=cut1 z;exact by1 (P:=fun l=>P (a::l)) (h a) l y
theorem by3 {P:List Value->Prop}(h:∀a b c,P [a,b,c])(us:List Value)(z:us.length=3):P us:=by obtain⟨a,l,rfl,y⟩:=cut1 z;exact by2 (P:=fun l=>P (a::l)) (h a) l y
theorem by4 {P:List Value->Prop}(h:∀a b c d,P [a,b,c,d])(us:List Value)(z:us.length=4):P us:=by obtain⟨a,l,rfl,y⟩:=cut1 z;exact by3 (P:=fun l=>P (a::l)) (h a) l y
def kOks (K:W.Frag):List DRow->Prop
 | []=>True
 |r::l=>((∃f fd,Kf K r f fd)/\zdm r)/\kOks K l
theorem z7x {K:W.Frag}:∀{l:List DRow} {i:Nat} {r:DRow},kOks K l->l[i]?=some r->(∃f fd,Kf K r f fd)/\zdm r
 | [],i,_,_,e=>by simp at e
 |r::l,0,_,h,e=>by cases e;exact h.1
 |r::l,i+1,_,h,e=>z7x h.2 (show l[i]?=some _ from e)
def strOf:Value->Option Str
 |.str x _=>if PyData.strOk x then some x else none
 |_=>none
def ck1 (K:W.Frag)(y:Str×List Str):Bool:=match W.nsIn K bj y.1 with
 |some (some (.ref a))=>(match K.lookup a with
  |some ⟨.type "tuple",none,.seq its _,_⟩=>decide (its.toList.map strOf=y.2.map some)&&decide (y.2.length<=1000)
  |_=>false)
 |_=>false
theorem z69:∀{us:List Value} {ws:List Str},us.map strOf=ws.map some->Vals (ws.map V.str) us/\∀w∈ws,PyData.strOk w=true
 | [],[],_=>⟨.nil,fun _ h=>by cases h⟩
 | [],_::_,h=>by cases h
 |_::_,[],h=>by cases h
 |u::us,w::ws,h=>by
  obtain⟨h1,h2⟩:=List.cons.inj h;obtain⟨a,b⟩:=z69 h2;cases u with
  |str x t=>
   have h1:(if PyData.strOk x then some x else none)=some w:=h1;split at h1
   ·rename_i hx;cases h1;exact⟨.cons ⟨t,rfl⟩ a,fun z hz=>(a8.mp hz).elim (fun e=>by rw[e];exact hx) (b z)⟩
   ·cases h1
  |_=>cases h1
theorem z68 {K:W.Frag}{H:Hp}{B:Ad->Prop}:∀{ws:List Str},(∀w∈ws,PyData.strOk w=true)->Reps K H B (ws.map V.str) (ws.map PyData.str)
 | [],_=>rfl
 |w::ws,h=>Reps.cons ⟨rfl,h w (.head _)⟩ (z68 fun z hz=>h z (.tail _ hz))
theorem zlf {K:W.Frag}{h:Heap}{mg:Str->Option Value}{y:Str×List Str}(X:K.In h)(G:h.Ns bj mg)(c:ck1 K y=true):zb1 K mg y:=by
 unfold ck1 at c;split at c
 ·rename_i a ha;split at c
  ·rename_i its n sl hl;obtain⟨c1,c2⟩:=and2 c;obtain⟨v,ok⟩:=z69 (ny c1);have hz:its.size<=aq:=by have e:=v.length;rw[ag,cw]at e;have:=ny c2;rw[fg];omega
   exact⟨a,W.mg_of X G ha,fun H B _=>⟨a,y.2.map V.str,rfl,.inr ⟨_,its,n,hl,rfl,rfl,rfl,hz,v⟩,z68 ok⟩⟩
  ·cases c
 ·cases c
theorem all_rows {l:W.OpenLaw}{w:World}{K:W.Frag}{h:Heap}{mg:Str->Option Value}{fa:Addr}{Rs:List DRow}{lr:DRow}{xt:List XR}{fr:List Str}{x:Str}(X:K.In h)(G:h.Ns bj mg)(hfa:mg lr.nm=some (.ref fa))(hx:lr.ps=[x])(hkd:lr.kd=.n)(hok:oks (Rs++[lr]) xt fr 0 (Rs++[lr])=true)(hF:fOks (Rs++[lr]) (Rs++[lr]))(hK:kOks K Rs)(kl:∃f fd,Kf K lr f fd)
  (hb:∀(kV dc pm:Value) (an:Option Addr) (cd ct:Value) (s:aa) (v:Value),lj s (W.fnOf lr.nm lr.nm (z17 lr.st) (z0p lr.st) (z05 lr.st) .none kV dc pm an cd ct) ⟨[v],[]⟩ [(x,v)]) (hz:∀n∈fr,W.nsIn K bj n=some none) (hkx:kxs K xt) (hv:xt≠[]->("ValueError":Str)∈fr) (hC:∀r∈Rs++[lr],∀y∈r.kc,ck1 K y=true):
  ∃fd:cz,(∀(s:aa) (v:Value),lj s fd ⟨[v],[]⟩ [(x,v)])/\∀base:Heap,K.In base->base.Ns bj mg->FnOk l.prog w K mg base CX0 (Rs.length+1) fa fd [x] (spD K 1 lr.F):=by
 obtain⟨f,fd,a,oc,od,an,sl,kV,dc,pm,cd,ct,rfl,lk,hc,hk⟩:=kl;have e:=hfa.symm.trans (W.mg_of X G a);cases e;have T:∀n∈fr,mg n=none:=fun n hn=>W.mg_none_of X G (hz n hn);have hr:(Rs++[lr])[Rs.length]?=some lr:=by rw[da (ae _),Nat.sub_self];rfl
 have ho:lr.ok (Rs++[lr]) xt fr Rs.length=true:=by
  have:=z8b hok hr
  rwa [Nat.zero_add]at this
 refine⟨_,fun s v=>hb kV dc pm an cd ct s v,fun base _ _=>?_⟩;have O:∀i r,i<Rs.length->(Rs++[lr])[i]?=some r->Own K mg r.nm r.st r.ps:=fun i r hi e=>by rw[dw hi]at e;obtain⟨⟨f,fd,a,oc,od,an,sl,kV,dc,pm,cd,ct,rfl,lk,hc,hk⟩,hb⟩:=z7x hK e;exact zfl X G a lk hc hk hb
 have xk:∀Γ:Gm,Γ.sub=(xt.map XR.subs).flatten->Γ.rs=xt.map (·.c)->(Γ.hnd=xt.map fun r=>(r.c,r.B))->Xok Γ K mg:=fun Γ h1 h2 h3=>ziy X G hkx (fun z=>T _ (hv z)) h1 h2 h3;have hC:∀r∈Rs++[lr],∀y∈r.kc,zb1 K mg y:=fun r hr y hy=>zlf X G (hC r hr y hy);have D:=z7v (P:=l.prog) (w:=w) (K:=K) (base:=base) hr ho T xk (hC lr (ar _ (.head _))) fun j c hj hc=>zee hok hF T xk Rs.length hC O j c hj hc;have hp:=(z3b ho).2.2.2;have hf:=z5f hF hr;unfold DRow.part at hp;unfold DRow.fOk at hf;rw[hkd]at hp hf;have:=d_fn (Γ:=lr.G (Rs++[lr]) xt) (z8k (st:=lr.st) lk hc hk) (z3b ho).1 rfl rfl rfl D hp;have e2:runD (lr.kc.map cD) (c7 (fnAt (Rs++[lr])) lr.fns) (lr.G (Rs++[lr]) xt).N.length lr.s=lr.F:=hf.symm;rw[e2,hx]at this;exact this
end Mi
namespace Mi
open PySem PySem.Spec PyProof.Rows L2
def kf1 (K:W.Frag)(r:DRow):Option (cz×Bool):=match W.nsIn K bj r.nm with
 |some (some (.ref f))=>(match K.lookup f with
  |some ⟨_,_,.func fd,_⟩=>some (fd,W.codeIn K fd.code r.nm&&W.keepIn K (.ref f))
  |_=>none)
 |_=>none
def kf2 (r:DRow)(x:cz×Bool):cz×Bool:=(W.fnOf r.nm r.nm (z17 r.st) (z0p r.st) (z05 r.st) .none x.1.kwdefaults x.1.doc x.1.pyModule x.1.annotations x.1.code x.1.closureTuple,true)
def isC (K:W.Frag)(A:Addr):Bool:=match K.lookup A with
 |some ⟨.type "type",_,.cls _,_⟩=>true
 |_=>false
def MROX:List Value:=[.type "ValueError",.type "Exception",.type "BaseException",.type "object"]
def kx1 (K:W.Frag)(r:XR):Option (Bool×Bool×Option (Option Value)×Option (Option Value)×Option (Option Value)×Option Bool×Option Bool×Option Bool×Bool×Option Bool×List (Bool×Option Bool)):=match W.nsIn K bj r.c,W.nsIn K bj r.B with
 |some (some (.ref A)),some (some (.ref D))=>some (isC K A,W.excIn K A MROX "ValueError.__new__",W.findIn K (.ref A) "__class__",W.findIn K (.ref A) "__getattribute__",W.findIn K (.ref A) "__getattr__",W.subIn K (.ref A) (.type "object"),W.subIn K (.ref A) (.type "BaseException"),W.subIn K (.ref A) (.type "ValueError"),W.excIn K D MROX "ValueError.__new__",W.subIn K (.ref A) (.ref D),r.cs.map fun y=>match W.nsIn K bj y.1 with
  |some (some (.ref E))=>(isC K E,W.subIn K (.ref A) (.ref E))
  |_=>(false,none))
 |_,_=>none
def kx2 (r:XR):Option (Bool×Bool×Option (Option Value)×Option (Option Value)×Option (Option Value)×Option Bool×Option Bool×Option Bool×Bool×Option Bool×List (Bool×Option Bool)):=some (true,true,some (some (.builtin "object.__class__")),some (some (.builtin "BaseException.__getattribute__")),some none,some true,some true,some true,true,some true,r.cs.map fun y=>(true,some y.2))
theorem zbn {K:W.Frag}{A:Addr}(h:isC K A=true):∃dd cd sl,K.lookup A=some ⟨.type "type",dd,.cls cd,sl⟩:=by
 unfold isC at h;split at h
 ·rename_i dd cd sl e;exact⟨dd,cd,sl,e⟩
 ·cases h
theorem z8m {K:W.Frag}{A:Addr}:∀{l:List (Str×Bool)},(l.map fun y=>match W.nsIn K bj y.1 with
  |some (some (.ref E))=>(isC K E,W.subIn K (.ref A) (.ref E))
  |_=>(false,none))=(l.map fun y=>(true,some y.2))->zab K A l
 | [],_=>trivial
 |y::l,h=>by
  have h:=List.cons.inj h;refine⟨?_,z8m h.2⟩;have e:=h.1
  dsimp only at e
  split at e
  ·rename_i E hE;have e:=Prod.mk.inj e;obtain⟨dd,cd,sl,q⟩:=zbn e.1;exact⟨E,dd,cd,sl,hE,q,e.2⟩
  ·cases(Prod.mk.inj e).1
theorem zi4 {K:W.Frag}{r:XR}(h:kx1 K r=kx2 r):∃A D,Kx K r A D:=by
 unfold kx1 kx2 at h;split at h
 ·rename_i A D hA hD;have h:=Prod.mk.inj (Option.some.inj h);have h2:=Prod.mk.inj h.2;have h3:=Prod.mk.inj h2.2;have h4:=Prod.mk.inj h3.2;have h5:=Prod.mk.inj h4.2;have h6:=Prod.mk.inj h5.2;have h7:=Prod.mk.inj h6.2;have h8:=Prod.mk.inj h7.2;have h9:=Prod.mk.inj h8.2;have h10:=Prod.mk.inj h9.2;exact⟨A,D,hA,zbn h.1,h2.1,h3.1,h4.1,h5.1,h6.1,h7.1,h8.1,hD,h9.1,h10.1,z8m h10.2⟩
 ·cases h
theorem zcc {K:W.Frag}:∀{l:List XR},(∀r∈l,∃A D,Kx K r A D)->kxs K l
 | [],_=>trivial
 |r::_,h=>⟨h r (.head _),zcc fun r hr=>h r (.tail _ hr)⟩
def KEq (K:dn->W.Frag)(Rs:List DRow)(fr:List Str)(xt:List XR):Prop:=∀P,(Rs.map fun r=>(kf1 (K P) r).isSome,Rs.map fun r=>kf1 (K P) r,fr.map fun n=>W.nsIn (K P) bj n,xt.map fun r=>kx1 (K P) r,Rs.map fun r=>r.kc.map fun y=>ck1 (K P) y)=(Rs.map fun _=>true,Rs.map fun r=>(kf1 (K P) r).map (kf2 r),fr.map fun _=>some none,xt.map kx2,Rs.map fun r=>r.kc.map fun _=>true)
theorem KEq_r:KEq=KEq:=rfl
theorem zgt {K:W.Frag}{r:DRow}(h:(kf1 K r).isSome=true)(e:kf1 K r=(kf1 K r).map (kf2 r)):∃f fd,Kf K r f fd:=by
 cases z:kf1 K r with
 |none=>rw[z]at h;cases h
 |some x=>
  rw[z]at e;have e:x=kf2 r x:=Option.some.inj e;unfold kf1 at z;split at z
  ·rename_i f hf;split at z
   ·rename_i oc od fd sl hl;have z:=Option.some.inj z;have z1:fd=x.1:=congrArg nk z;have z2:(W.codeIn K fd.code r.nm&&W.keepIn K (.ref f))=x.2:=congrArg Prod.snd z;have e1:x.1=(kf2 r x).1:=congrArg nk e;have e2:x.2=true:=congrArg Prod.snd e;rw[e2]at z2;have z3:=av.mp z2;subst z1;exact⟨f,x.1,hf,oc,od,x.1.annotations,sl,x.1.kwdefaults,x.1.doc,x.1.pyModule,x.1.code,x.1.closureTuple,e1,hl,z3.1,z3.2⟩
   ·cases z
  ·cases z
theorem z42 {K:dn->W.Frag}{Rs:List DRow}{fr:List Str}{xt:List XR}(h:KEq K Rs fr xt)(P:dn):(∀r∈Rs,∃f fd,Kf (K P) r f fd)/\(∀n∈fr,W.nsIn (K P) bj n=some none)/\kxs (K P) xt/\∀r∈Rs,∀y∈r.kc,ck1 (K P) y=true:=by have a:=Prod.mk.inj (h P);have b:=Prod.mk.inj a.2;have c:=Prod.mk.inj b.2;have d:=Prod.mk.inj c.2;exact⟨fun r hr=>zgt (fq.mp a.1 r hr) (fq.mp b.1 r hr),fun n hn=>fq.mp c.1 n hn,zcc fun r hr=>zi4 (fq.mp d.1 r hr),fun r hr=>fq.mp (fq.mp d.2 r hr)⟩
def bOks:List DRow->Prop
 | []=>True
 |r::l=>zdm r/\bOks l
theorem z7e {K:W.Frag}:∀{l:List DRow},(∀r∈l,∃f fd,Kf K r f fd)->bOks l->kOks K l
 | [],_,_=>trivial
 |r::_,h,b=>⟨⟨h r (.head _),b.1⟩,z7e (fun r hr=>h r (.tail _ hr)) b.2⟩
end Mi
name_quick tkeq for Mi.KEq by Mi.KEq_r
namespace Mk
open Mi
section
open PySem
abbrev P:=List (Str×Int)
def pr (p:Str×Int):D:=.tuple [.str p.1,.int p.2]
def pk (l:P):D:=.tuple (l.map pr)
def ep (p:Str×Int):D×D:=(.str p.1,.int p.2)
def en (l:P):Ents:=l.map ep
def fnd:P->Str->Option Int
 | [],_=>none
 |p::l,n=>if p.1=n then some p.2 else fnd l n
def look (l:P)(n:Str):Int:=(fnd l n).getD 0
def ks (l:P):List Str:=l.map (·.1)
def put:P->Str->Int->P
 | [],n,v=>[(n,v)]
 |p::l,n,v=>if p.1=n then(p.1,v)::l else p::put l n v
def sl (a b:Str):Prop:=a.cps.toList<b.cps.toList
theorem z8o (a:Str):¬sl a a:=List.lt_irrefl _
theorem zk8 {a b c:Str}(h:sl a b)(k:sl b c):sl a c:=List.lt_trans h k
theorem zhq {a b:Str}(h:a.cps.toList=b.cps.toList):a=b:=by cases a;cases b;simp at h;subst h;rfl
theorem zfq {a b:Str}(h:a≠b):sl a b\/sl b a:=by
 by_cases h1:sl a b
 ·exact .inl h1
 ·by_cases h2:sl b a
  ·exact .inr h2
  ·exact(h (zhq (List.le_antisymm (List.not_lt.mp h2) (List.not_lt.mp h1)))).elim
theorem zmg {a b:Str}(h:sl a b):a≠b:=fun e=>z8o b (e▸h)
theorem z3h {n:Str}:∀{l:P},n∉ks l->fnd l n=none
 | [],_=>rfl
 |p::l,h=>by simp only[ks,az,a8,not_or]at h;rw[fnd,if_neg (fun e=>h.1 e.symm)];exact z3h h.2
theorem z3w {n:Str}{v:Int}:∀{l:P},fnd l n=some v->(n,v)∈l
 | [],h=>by cases h
 |p::l,h=>by
  rw[fnd]at h;split at h
  ·rename_i e;cases h;subst e;exact af
  ·exact ak _ (z3w h)
theorem zfh {n:Str}{v:Int}{l:P}(h:fnd l n=some v):n∈ks l:=bt.mpr ⟨_,z3w h,rfl⟩
theorem z7s:∀{l:P} {p:Str×Int},(ks l).Nodup->p∈l->fnd l p.1=some p.2
 |q::l,p,nd,h=>by
  rw[ks,az,eh]at nd;rw[fnd];rcases(a8.mp h)with rfl|h
  ·rw[if_pos rfl]
  ·rw[if_neg fun e:q.1=p.1=>nd.1 (bt.mpr ⟨p,h,e.symm⟩)];exact z7s nd.2 h
theorem zft {l:P}{n:Str}(h:n∈ks l):∃v,fnd l n=some v:=by
 cases e:fnd l n with
 |some v=>exact⟨v,rfl⟩
 |none=>
  exfalso
  induction l with
  |nil=>cases h
  |cons p l ih=>
   rw[fnd]at e;split at e
   ·cases e
   ·rename_i hn;rcases a8.mp h with h|h
    ·exact hn h.symm
    ·exact ih h e
theorem zdn (a b:Str):eqK (.str a) (.str b)=decide (a=b):=by simp only[eqK]
theorem z7z (a:Str):isK (.str a)=true:=by simp only[isK]
theorem z62 (n:Str):∀l:P,z1c (en l) (.str n)=(fnd l n).map .int
 | []=>rfl
 |p::l=>by
  have ih:=z62 n l;unfold z1c at ih ⊢;rw[en,az,eo,fnd];show Option.map _ (match eqK (.str p.1) (.str n)with|true=>_|false=>_)=_;rw[zdn];by_cases h:p.1=n
  ·rw[if_pos h];simp[h,ep]
  ·rw[if_neg h];simp only[h,decide_false];exact ih
theorem ze8 (l:P):imms (l.map pr)=true:=z1s.mpr fun x hx=>by obtain⟨p,_,rfl⟩:=bt.mp hx;rfl
theorem zc8 (l:P):imm (pk l)=true:=ze8 l
def Sd (l:P):Prop:=l.Pairwise fun p q=>sl p.1 q.1
theorem zl7 {l:P}(h:Sd l):(ks l).Nodup:=by unfold ks List.Nodup;rw[List.pairwise_map];exact List.Pairwise.imp (fun z=>zmg z) h
structure PK (l:P):Prop where
 sd:Sd l
 pos:∀p∈l,0<p.2
theorem PK.nd {l:P}(h:PK l):(ks l).Nodup:=zl7 h.sd
theorem PK.nil:PK []:=⟨List.Pairwise.nil,fun _ h=>by cases h⟩
theorem PK.key {l:P}(h:PK l){n:Str}:n∈ks l↔0<look l n:=by
 constructor
 ·intro z;obtain⟨v,e⟩:=zft z;unfold look;rw[e];exact h.pos _ (z3w e)
 ·intro z;unfold look at z;cases e:fnd l n with
  |none=>rw[e]at z;exact absurd z (by decide)
  |some v=>exact zfh e
theorem PK.look_mem {l:P}(h:PK l){p:Str×Int}(hp:p∈l):look l p.1=p.2:=by unfold look;rw[z7s h.nd hp];rfl
theorem PK.ext:∀{a b:P},PK a->PK b->(∀n,look a n=look b n)->a=b
 | [],[],_,_,_=>rfl
 | [],q::b,_,hb,h=>by have:=h q.1;rw[hb.look_mem af]at this;have z:0<q.2:=hb.pos _ af;rw[<-this]at z;exact absurd z (Int.lt_irrefl 0)
 |p::a,[],ha,_,h=>by have:=h p.1;rw[ha.look_mem af]at this;have z:0<p.2:=ha.pos _ af;rw[this]at z;exact absurd z (Int.lt_irrefl 0)
 |p::a,q::b,ha,hb,h=>by
  have no:∀{x y:Str×Int} {l m:P},PK (x::l)->PK (y::m)->(∀n,look (x::l) n=look (y::m) n)->¬sl x.1 y.1:=fun{x y l m} hx hy h z=>by
   have e:=h x.1;rw[hx.look_mem af]at e;have k:x.1∈ks (y::m):=hy.key.mpr (e▸hx.pos _ af);rcases a8.mp k with k|k
   ·exact z8o _ (k▸z)
   ·obtain⟨w,hw,e2⟩:=bt.mp k;have:=(jo.mp hy.sd).1 w hw;rw[e2]at this;exact z8o _ (zk8 z this)
  have e1:p.1=q.1:=by
   by_cases e:p.1=q.1
   ·exact e
   ·rcases zfq e with z|z
    ·exact(no ha hb h z).elim
    ·exact(no hb ha (fun n=>(h n).symm) z).elim
  have e2:p.2=q.2:=by have:=h p.1;rw[ha.look_mem af,e1,hb.look_mem af]at this;exact this
  have ep':p=q:=Prod.ext e1 e2;subst ep'
  congr 1
  have ta:PK a:=⟨(jo.mp ha.sd).2,fun x hx=>ha.pos x (ak _ hx)⟩;have tb:PK b:=⟨(jo.mp hb.sd).2,fun x hx=>hb.pos x (ak _ hx)⟩;refine PK.ext ta tb fun n=>?_;have hn:=h n;unfold look at hn ⊢;rw[fnd,fnd]at hn;by_cases e:p.1=n
  ·have na:n∉ks a:=by have :=ha.nd;rw[ks,az,eh]at this;exact e▸this.1
   have nb:n∉ks b:=by have:=hb.nd;rw[ks,az,eh]at this;exact e▸this.1
   rw[z3h na,z3h nb]
  ·rw[if_neg e,if_neg e]at hn;exact hn
end
section
open PySem
section
variable {Κ:List D}{Φ:List Fn}{ρ:Rho}{a b c t:C}{p q:S}{i:Nat}{f:D->Rho->Res Out}{x:D}{xs:List D}
theorem zga:evS Κ Φ (.seq p q) ρ=outB (evS Κ Φ p ρ) (evS Κ Φ q):=rfl
theorem zdi:evS Κ Φ (.asg (.nm i) t) ρ=(evE Κ Φ t ρ>>=fun x=>.ok (.nx (ρ.set i (some (z1e x))))):=rfl
theorem R_if:evS Κ Φ (.ifS c p q) ρ=(evT Κ Φ c ρ>>=fun k=>if k then evS Κ Φ p ρ else evS Κ Φ q ρ):=rfl
theorem zcj:evS Κ Φ (.ret (.var i)) ρ=(match ρ[i]? with|some (some (g,d))=>.ok (.rt (if imm d then .fr else rtG g) d)|_=>.no):=rfl
theorem zmi:evS Κ Φ (.setIx i a b) ρ=(evE Κ Φ b ρ>>=fun y=>evE Κ Φ a ρ>>=fun x=>match ρ[i]? with
 |some (some (.fr,.dict es))=>if isK x.2&&okIn y&&decide (es.length<LIM)then .ok (.nx ((ρ.set i (some (.fr,.dict (dput es x.2 y.2)))).map z07))else .no
 |some (some (.fr,.list xs))=>(match x.2 with
  |.int j=>if okIn y then(match ixN xs.length j with|some n=>.ok (.nx ((ρ.set i (some (.fr,.list (xs.set n y.2)))).map z07))|none=>.no)else .no
  |_=>.no)
 |_=>.no):=rfl
theorem zm9 {m:String}:evS Κ Φ (.mut m i a) ρ=(evA Κ Φ a ρ>>=fun ys=>match ρ[i]? with
 |some (some (.fr,.list xs))=>mutD m xs ys>>=fun xs'=>.ok (.nx ((ρ.set i (some (.fr,.list xs'))).map z07))
 |_=>.no):=rfl
theorem zjk {t':Tg}:evS Κ Φ (.for_ t' a p) ρ=(evF Κ Φ a ρ>>=fun w=>forD (fun x ρ1=>z0x t' (gJ x w.1,x) ρ1>>=fun ρ2=>evS Κ Φ p ρ2) w.2.1 w.2.2):=rfl
theorem zlx:forD f (x::xs) ρ=(match f x ρ with
 |.ok (.nx ρ')=>forD f xs ρ'
 |.ok (.ct ρ')=>forD f xs ρ'
 |.ok (.bk ρ')=>.ok (.nx ρ')
 |.ok (.rt g d)=>.ok (.rt g d)
 |.exc e=>.exc e
 |.no=>.no):=rfl
theorem zhd:evA Κ Φ .nil ρ=.ok []:=rfl
theorem z6k:evA Κ Φ (.cons a b) ρ=(evE Κ Φ a ρ>>=fun x=>evA Κ Φ b ρ>>=fun xs=>.ok (x::xs)):=rfl
theorem O_tv:evO Κ Φ (.tv a) ρ=(evE Κ Φ a ρ>>=fun x=>intO x.2):=rfl
theorem G_tv:evG Κ Φ (.tv a) ρ=(evE Κ Φ a ρ>>=fun x=>z4e x.2>>=fun p=>.ok (x.1,p)):=rfl
theorem T_tv:evT Κ Φ (.tv a) ρ=(evE Κ Φ a ρ>>=fun x=>z1f x.2):=rfl
theorem zmq:evT Κ Φ (.and a b) ρ=(evT Κ Φ a ρ>>=fun c=>if c then evT Κ Φ b ρ else .ok false):=rfl
theorem T_or:evT Κ Φ (.or a b) ρ=(evT Κ Φ a ρ>>=fun c=>if c then .ok true else evT Κ Φ b ρ):=rfl
theorem zjp:evT Κ Φ (.not a) ρ=(evT Κ Φ a ρ>>=fun c=>.ok (!c)):=rfl
theorem W_tv:evW Κ Φ (.tv a) ρ=(evE Κ Φ a ρ>>=fun x=>z5l x.2>>=fun xs=>.ok (x.1,xs)):=rfl
theorem zl4:evW Κ Φ (.rng a) ρ=(evA Κ Φ a ρ>>=fun ys=>rngD (ys.map (·.2))>>=fun xs=>.ok (.fr,xs)):=rfl
theorem R_tv (hv:∀i,a≠.var i):evF Κ Φ (.tv a) ρ=(if isAl Κ Φ (.tv a) ρ then evE Κ Φ a ρ>>=fun x=>evAl x ρ else evN Κ Φ (.tv a) ρ):=by cases a<;>first|exact absurd rfl (hv _)|rfl
end
theorem z0a {Κ:List D}{Φ:List Fn}{a b:S}{ρ ρ':Rho}{r:Res Out}(h:evS Κ Φ a ρ=.ok (.nx ρ'))(k:evS Κ Φ b ρ'=r):evS Κ Φ (.seq a b) ρ=r:=by rw[zga,h];exact k
theorem z0r {Κ:List D}{Φ:List Fn}{a b:S}{ρ:Rho}{g:G}{d:D}(h:evS Κ Φ a ρ=.ok (.rt g d)):evS Κ Φ (.seq a b) ρ=.ok (.rt g d):=by rw[zga,h];rfl
theorem z15 {Κ:List D}{Φ:List Fn}{n:Nat}{s:S}{ds:List D}{g:G}{d:D}(h:evS Κ Φ s (ds.map (fun d=>some (.od,d))++ba (n-ds.length) none)=.ok (.rt g d)):runD Κ Φ n s ds=.ok (g,d):=by unfold runD;rw[h]
theorem z89 {β:Type}{f:D->Rho->Res Out}{m:β->D}(I:List β->Rho->Prop):∀(xs pre:List β) (ρ:Rho),(∀pr' x post ρ,pre++xs=pr'++x::post->I pr' ρ->∃ρ',f (m x) ρ=.ok (.nx ρ')/\I (pr'++[x]) ρ')->I pre ρ->∃ρ',forD f (xs.map m) ρ=.ok (.nx ρ')/\I (pre++xs) ρ'
 | [],pre,ρ,_,h=>⟨ρ,rfl,by rw[dg];exact h⟩
 |x::xs,pre,ρ,hf,h=>by
  obtain⟨ρ1,e,h1⟩:=hf pre x xs ρ rfl h;have e0:pre++[x]++xs=pre++x::xs:=by rw[iu];rfl
  obtain⟨ρ2,e2,h2⟩:=z89 I xs (pre++[x]) ρ1 (fun pr' y post ρ hy=>hf pr' y post ρ (e0▸hy)) h1;exact⟨ρ2,by rw[az,zlx,e];exact e2,e0▸h2⟩
theorem z6j {β:Type}{f:D->Res (Option GD)}{m:β->D}(g:β->Option D):∀(xs:List β),(∀x∈xs,f (m x)=.ok ((g x).map fun d=>(.fr,d)))->z1z f (xs.map m)=.ok ((xs.filterMap g).map fun d=>(.fr,d))
 | [],_=>rfl
 |x::xs,h=>by
  rw[az,z1z,h x af,Res.ok_bind,z6j g xs fun y hy=>h y (ak _ hy),Res.ok_bind];cases e:g x with
  |none=>rw[jz e];rfl
  |some d=>rw[j4 e];rfl
theorem zhn (xs:List D):gCo (xs.map fun d=>(G.fr,d))=.fr:=by unfold gCo;rw[if_pos];rw[List.all_map];exact bu.mpr fun _ _=>rfl
theorem zfg (xs:List D):gAll (xs.map fun d=>(G.fr,d))=.fr:=by unfold gAll;rw[if_pos];rw[bu];intro x hx;obtain⟨d,_,rfl⟩:=bt.mp hx;rfl
theorem z7i (xs:List D):(xs.map fun d=>(G.fr,d)).map (fun x=>x.2)=xs:=by rw[fo];exact mz _
theorem zl8 (a b:Int):biD "max" [.int a,.int b]=.ok (.int (max a b)):=rfl
theorem zjg (a b:Int):biD "min" [.int a,.int b]=.ok (.int (min a b)):=rfl
theorem zfp (l:P)(n:Str)(v:Int):mtD "get" (.dict (en l)) [.str n,.int v]=.ok (.int ((fnd l n).getD v)):=by have:mtD "get" (.dict (en l)) [.str n,.int v]=.ok ((z1c (en l) (.str n)).getD (.int v)):=rfl;rw[this,z62];cases fnd l n<;>rfl
theorem zaj (l:P)(n:Str):mtD "get" (.dict (en l)) [.str n,.int 0]=.ok (.int (look l n)):=zfp l n 0
theorem z3m (l:Bool)(xs:List D):aggD "list" l xs=.ok (.list xs):=rfl
def chr (z:Str)(i:Int):Str:=⟨#[z.cps.toList.getD i.toNat 0]⟩
theorem z8l (z:Str)(i:Int):(chr z i).length=1:=rfl
theorem z09 (a b:Str):(a++b).length=a.length+b.length:=by show Array.size (a.cps++b.cps)=_;rw[Array.size_append];rfl
theorem zf1 {α:Type}(xs:List α)(i:Int)(d:α)(h0:0<=i)(h1:i<xs.length):atI xs i=some (xs.getD i.toNat d):=by
 unfold atI ixN;rw[if_pos h0,if_pos h1];show xs[i.toNat]?=_;have:i.toNat<xs.length:=by omega
 rw[bg this,bf,bg this];rfl
theorem z45 {z:Str}{i:Int}(h0:0<=i)(h1:i<z.length)(hz:z.length<=1000):ixD (.str z) (.int i)=.ok (.str (chr z i)):=by show(if z.length<=LIM then Res.ofO ((atI z.cps.toList i).map fun c=>PyData.str ⟨#[c]⟩)else .no)=_;rw[if_pos (by unfold LIM;omega),zf1 _ i 0 h0 (by rw[cw];exact h1)];rfl
theorem z1n {ns:List Str}{i:Int}(h0:0<=i)(h1:i<ns.length):ixD (.list (ns.map .str)) (.int i)=.ok (.str (ns.getD i.toNat ⟨#[]⟩)):=by
 show Res.ofO (atI (ns.map PyData.str) i)=_;rw[zf1 _ i (.str ⟨#[]⟩) h0 (by rw[ag];exact h1)];show Res.ok _=_
 congr 1
 have:i.toNat<ns.length:=by omega
 rw[bf,bf,bc,bg this];rfl
theorem z29 {ns:List Int}{i:Int}(h0:0<=i)(h1:i<ns.length):ixD (.list (ns.map .int)) (.int i)=.ok (.int (ns.getD i.toNat 0)):=by
 show Res.ofO (atI (ns.map PyData.int) i)=_;rw[zf1 _ i (.int 0) h0 (by rw[ag];exact h1)];show Res.ok _=_
 congr 1
 have:i.toNat<ns.length:=by omega
 rw[bf,bf,bc,bg this];rfl
theorem getD_mem {α:Type}{ns:List α}{i:Int}{d:α}(h0:0<=i)(h1:i<ns.length):ns.getD i.toNat d∈ns:=by
 have:i.toNat<ns.length:=by omega
 rw[bf,bg this];exact List.getElem_mem this
theorem add_str {a b:Str}(h:a.length+b.length<=1000):binD .Add (.str a) (.str b)=.ok (.str (a++b)):=by show(if _ then _ else _)=_;rw[if_pos (by unfold LIM;omega)]
theorem add_list {a b:List D}(h:a.length+b.length<=1000):binD .Add (.list a) (.list b)=.ok (.list (a++b)):=by show(if _ then _ else _)=_;rw[if_pos (by unfold LIM;omega)]
theorem z2z {a b:Int}(h:-(2 ^ 64)<b/\b<2 ^ 64):binD .Mult (.int a) (.int b)=.ok (.int (a*b)):=by show(if _ then _ else _)=_;rw[if_pos (.inr h)]
theorem z4o {a b:Int}(h:-(2 ^ 64)<a/\a<2 ^ 64):binD .Mult (.int a) (.int b)=.ok (.int (a*b)):=by show(if _ then _ else _)=_;rw[if_pos (.inl h)]
theorem z0v {a b:Int}(h:0<b):binD .Mod (.int a) (.int b)=.ok (.int (a%b)):=by show(if _ then _ else _)=_;rw[if_pos h]
theorem zju:binD .Pow (.int 10) (.int 15)=.ok (.int 1000000000000000):=rfl
theorem zmb:binD .Pow (.int 10) (.int 30)=.ok (.int 1000000000000000000000000000000):=rfl
theorem zko:binD .Pow (.int 10) (.int 40)=.ok (.int 10000000000000000000000000000000000000000):=rfl
theorem z78 {n:Int}(h0:0<=n)(h1:n<=1000):rngD [.int n]=.ok ((cb n.toNat).map fun(i:Nat)=>.int i):=by show(if _ then _ else _)=_;rw[if_pos (by unfold LIM;omega)]
theorem z6b {z:Str}{i j:Option Int}(h:z.length<=1000):slD (.str z) i j=.ok (.str (z13 z i j)):=by show(if _ then _ else _)=_;rw[if_pos (by unfold LIM;omega)]
theorem z0b (ns:List Str):imms (ns.map .str)=true:=z1s.mpr fun x hx=>by obtain⟨p,_,rfl⟩:=bt.mp hx;rfl
theorem z1p (ns:List Int):imms (ns.map .int)=true:=z1s.mpr fun x hx=>by obtain⟨p,_,rfl⟩:=bt.mp hx;rfl
theorem z3z:∀(ns:List Str),allS (ns.map .str)=some ns
 | []=>rfl
 |n::ns=>by rw[az,allS,z3z ns];rfl
theorem z4b:∀(ss:List Str),(∀s∈ss,s.length=1)->(z0o "" ss).length=ss.length
 | [],_=>rfl
 |x::r,h=>by
  show(List.toArray (x.cps.toList++(r.map fun p=>([]:List Nat)++p.cps.toList).flatten)).size=_;have hx:=h x af
  have h2:∀(r:List Str),(∀s∈r,s.length=1)->((r.map fun p=>([]:List Nat)++p.cps.toList).flatten).length=r.length:=by
   intro r
   induction r with
   |nil=>intro _;rfl
   |cons y r ih=>intro h;have hy:=h y af;rw[az,gm,ac,ih fun s hs=>h s (ak _ hs)];have:(([]:List Nat)++y.cps.toList).length=1:=hy;rw[this,aj];omega
  rw[ai,ac,h2 r fun s hs=>h s (ak _ hs)];have:x.cps.toList.length=1:=hx;rw[this,aj];omega
theorem zfz {ss:List Str}(h:∀s∈ss,s.length=1)(hl:ss.length<=1000):mtD "join" (.str "") [.list (ss.map .str)]=.ok (.str (z0o "" ss)):=by
 have:mtD "join" (.str "") [.list (ss.map .str)]=(match allS (ss.map .str)with|some ss=>if z20 "" ss<=LIM then .ok (.str (z0o "" ss))else .no|none=>.no):=rfl;rw[this,z3z]
 dsimp only
 rw[if_pos];unfold z20;have h0:("":Str).length=0:=rfl
 have h1:∀(r:List Str),(∀s∈r,s.length=1)->(r.map (·.length)).sum=r.length:=by
  intro r
  induction r with
  |nil=>intro _;rfl
  |cons y r ih=>intro h;rw[az,i8,h y af,ih fun s hs=>h s (ak _ hs),aj];omega
 rw[h1 ss h,h0];unfold LIM;omega
theorem z7b (a b:Int):eqD (.int a) (.int b)=decide (a=b):=by show(a==b)=_;rfl
section
variable {Κ:List D}{Φ:List Fn}{ρ:Rho}
theorem zem:evE Κ Φ (.var i) ρ=(rdS ρ[i]?):=rfl
theorem zjv:evE Κ Φ (.non) ρ=(.ok (.fr,.none)):=rfl
theorem E_bl:evE Κ Φ (.bl b) ρ=(.ok (.fr,.bool b)):=rfl
theorem zly:evE Κ Φ (.int i) ρ=(.ok (.fr,.int i)):=rfl
theorem zjz:evE Κ Φ (.str x) ρ=(.ok (.fr,.str x)):=rfl
theorem zmz:evE Κ Φ (.glob k w1) ρ=(match Κ[k]? with|some d=>.ok (gJ d .al,d)|none=>.no):=rfl
theorem zg2:evE Κ Φ (.bin op a b) ρ=(evE Κ Φ a ρ>>=fun x=>evE Κ Φ b ρ>>=fun y=>binD op x.2 y.2>>=fun d=>.ok (gN d (gAll [x,y]),d)):=rfl
theorem zn4:evE Κ Φ (.neg a) ρ=(evE Κ Φ a ρ>>=fun x=>match x.2 with|.int i=>.ok (.fr,.int (-i))|_=>.no):=rfl
theorem zmx:evE Κ Φ (.cmp op a b) ρ=(evE Κ Φ a ρ>>=fun x=>evE Κ Φ b ρ>>=fun y=>cmpD op x.2 y.2>>=fun b=>.ok (.fr,.bool b)):=rfl
theorem zjl:evE Κ Φ (.chain op op' a b c) ρ=(evE Κ Φ a ρ>>=fun x=>evE Κ Φ b ρ>>=fun y=>cmpD op x.2 y.2>>=fun k=>if k then evE Κ Φ c ρ>>=fun z=>cmpD op' y.2 z.2>>=fun k'=>.ok (.fr,.bool k')else .ok (.fr,.bool false)):=rfl
theorem zn2:evE Κ Φ (.isN ng a) ρ=(evE Κ Φ a ρ>>=fun x=>.ok (.fr,.bool (match x.2 with|.none=>!ng|_=>ng))):=rfl
theorem zme:evE Κ Φ (.isB ng a b) ρ=(evE Κ Φ a ρ>>=fun x=>match x.2 with|.bool c=>.ok (.fr,.bool (if ng then !(c==b)else c==b))|_=>.no):=rfl
theorem zn3:evE Κ Φ (.and a b) ρ=(evE Κ Φ a ρ>>=fun x=>match x.2 with|.bool c=>if c then evE Κ Φ b ρ else .ok (.fr,.bool false)|_=>.no):=rfl
theorem E_or:evE Κ Φ (.or a b) ρ=(evE Κ Φ a ρ>>=fun x=>match x.2 with|.bool c=>if c then .ok (.fr,.bool true)else evE Κ Φ b ρ|_=>.no):=rfl
theorem zn0:evE Κ Φ (.not a) ρ=(evE Κ Φ a ρ>>=fun x=>z1f x.2>>=fun c=>.ok (.fr,.bool (!c))):=rfl
theorem zh1:evE Κ Φ (.ife c a b) ρ=(evT Κ Φ c ρ>>=fun k=>if k then evE Κ Φ a ρ else evE Κ Φ b ρ):=rfl
theorem zl5:evE Κ Φ (.tup xs) ρ=(evA Κ Φ xs ρ>>=fun ys=>.ok (gJ (.tuple (ys.map (·.2))) (gAll ys),.tuple (ys.map (·.2)))):=rfl
theorem zlq:evE Κ Φ (.lst xs) ρ=(evA Κ Φ xs ρ>>=fun ys=>.ok (gAll ys,.list (ys.map (·.2)))):=rfl
theorem zmy:evE Κ Φ (.dnew) ρ=(.ok (.fr,.dict [])):=rfl
theorem E_ix:evE Κ Φ (.ix a b) ρ=(evE Κ Φ a ρ>>=fun x=>evE Κ Φ b ρ>>=fun y=>ixD x.2 y.2>>=fun d=>.ok (gJ d x.1,d)):=rfl
theorem E_sl:evE Κ Φ (.sl a lo hi) ρ=(evE Κ Φ a ρ>>=fun x=>evO Κ Φ lo ρ>>=fun l=>evO Κ Φ hi ρ>>=fun h=>slD x.2 l h>>=fun d=>.ok (gN d (gAll [x]),d)):=rfl
theorem zn1:evE Κ Φ (.sl3 a lo hi st) ρ=(evE Κ Φ a ρ>>=fun x=>evO Κ Φ lo ρ>>=fun l=>evO Κ Φ hi ρ>>=fun h=>(evE Κ Φ st ρ>>=fun z=>intO z.2)>>=fun k=>sl3D x.2 l h k>>=fun d=>.ok (gJ d (gAll [x]),d)):=rfl
theorem z8j:evE Κ Φ (.call k w1 args) ρ=(evA Κ Φ args ρ>>=fun ys=>match Φ[k]? with|some m=>m (ys.map (·.2))>>=fun r=>.ok (gJ r.2 (rtG r.1),r.2)|none=>.no):=rfl
theorem E_bi:evE Κ Φ (.bi f args) ρ=(evA Κ Φ args ρ>>=fun ys=>biD f (ys.map (·.2))>>=fun d=>.ok (gJ d .al,d)):=rfl
theorem zh7:evE Κ Φ (.agg f a) ρ=(evG Κ Φ a ρ>>=fun w=>aggD f w.2.1 w.2.2>>=fun d=>.ok (gJ d (if imms w.2.2 then .fr else agG w.1),d)):=rfl
theorem zmc:evE Κ Φ (.isT a ts) ρ=(evE Κ Φ a ρ>>=fun x=>.ok (.fr,.bool (ts.any fun T=>isTy (tyOf x.2) T))):=rfl
theorem E_mt:evE Κ Φ (.mt m o args) ρ=(evE Κ Φ o ρ>>=fun x=>evA Κ Φ args ρ>>=fun ys=>mtD m x.2 (ys.map (·.2))>>=fun d=>.ok (gJ d .al,d)):=rfl
theorem E_fs:evE Κ Φ (.fs a x b) ρ=(evE Κ Φ a ρ>>=fun u=>txtD u.2>>=fun p=>evE Κ Φ b ρ>>=fun v=>txtD v.2>>=fun q=>if p.length+x.length+q.length<=LIM then .ok (.fr,.str (p++x++q))else .no):=rfl
theorem zkz:evE Κ Φ (.sortI i) ρ=(match ρ[i]? with
 |some (some (_,.dict es))=>if immE es&&z98 (es.map ent)&&decide (es.length<64)then .ok (.fr,.list (z82 (es.map ent)))else .no
 |_=>.no):=rfl
theorem zlt {cond:C}:evE Κ Φ (.compI i nt w1 tg cond elt) ρ=(match ρ[i]? with
 |some (some (_,.dict es))=>if immE es&&decide (es.length<=LIM)then z1z (fun x=>z0x tg (gJ x .al,x) (ba nt none++([]:List Nat).map fun j=>toAl (([]:Rho).getD j none))>>=fun ρ1=>evT Κ Φ cond ρ1>>=fun k=>if k then evE Κ Φ elt ρ1>>=fun y=>.ok (some y)else .ok none) (es.map ent)>>=fun ys=>.ok (gCo ys,.list (ys.map (·.2)))else .no
 |_=>.no):=rfl
theorem zgi {cond:C}:evE Κ Φ (.comp nt js w1 tg it cond elt) ρ=(evW Κ Φ it ρ>>=fun w=>z1z (fun x=>z0x tg (gJ x w.1,x) (ba nt none++js.map fun j=>toAl (ρ.getD j none))>>=fun ρ1=>evT Κ Φ cond ρ1>>=fun k=>if k then evE Κ Φ elt ρ1>>=fun y=>.ok (some y)else .ok none) w.2>>=fun ys=>.ok (gCo ys,.list (ys.map (·.2)))):=rfl
end
section
variable {Κ:List D}{Φ:List Fn}{ρ:Rho}{a b c t o args:C}{x y d:D}{ds:List D}{k k':Bool}{g:G}
def Ev (Κ:List D)(Φ:List Fn)(c:C)(ρ:Rho)(d:D):Prop:=∃g,evE Κ Φ c ρ=.ok (g,d)
def Vv (Κ:List D)(Φ:List Fn)(c:C)(ρ:Rho)(d:D):Prop:=evE Κ Φ c ρ=.ok (.fr,d)/\imm d=true
def Aa (Κ:List D)(Φ:List Fn)(c:C)(ρ:Rho)(ds:List D):Prop:=∃ys,evA Κ Φ c ρ=.ok ys/\ys.map (·.2)=ds
def Av (Κ:List D)(Φ:List Fn)(c:C)(ρ:Rho)(ds:List D):Prop:=evA Κ Φ c ρ=.ok (ds.map fun d=>(.fr,d))/\imms ds=true
def Tt (Κ:List D)(Φ:List Fn)(c:C)(ρ:Rho)(k:Bool):Prop:=evT Κ Φ c ρ=.ok k
theorem Vv.e (h:Vv Κ Φ c ρ d):Ev Κ Φ c ρ d:=⟨_,h.1⟩
theorem Ev.of (h:evE Κ Φ c ρ=.ok (g,d)):Ev Κ Φ c ρ d:=⟨_,h⟩
theorem z00 {i:Nat}(h:ρ[i]?=some (some (g,d))):Ev Κ Φ (.var i) ρ d:=⟨_,by rw[zem];rw[h];rfl⟩
theorem v_var {i:Nat}(h:ρ[i]?=some (some (g,d)))(hi:imm d=true):Vv Κ Φ (.var i) ρ d:=⟨by rw[zem];rw[h];show Res.ok (if imm d=true then _ else _,d)=_;rw[if_pos hi],hi⟩
theorem z01 {i:Int}:Vv Κ Φ (.int i) ρ (.int i):=⟨by rw[zly],rfl⟩
theorem z0h {i:Str}:Vv Κ Φ (.str i) ρ (.str i):=⟨by rw[zjz],rfl⟩
theorem v_bl {i:Bool}:Vv Κ Φ (.bl i) ρ (.bool i):=⟨by rw[E_bl],rfl⟩
theorem zlc:Vv Κ Φ .non ρ .none:=⟨by rw[zjv],rfl⟩
theorem z2d (hi:imm d=true):gJ d g=.fr:=by unfold gJ;rw[if_pos hi]
theorem zc6 (hi:imm d=true):gN d g=.fr:=by cases d<;>first|exact z2d hi|cases hi
theorem z08 {op:gy}(ha:Ev Κ Φ a ρ x)(hb:Ev Κ Φ b ρ y)(h:binD op x y=.ok d)(hi:imm d=true):Vv Κ Φ (.bin op a b) ρ d:=by obtain⟨g1,ha⟩:=ha;obtain⟨g2,hb⟩:=hb;refine⟨?_,hi⟩;rw[zg2];rw[ha,Res.ok_bind,hb,Res.ok_bind];dsimp only;rw[h,Res.ok_bind,zc6 hi]
theorem z7c {op:gy}{xs:List D}(ha:Ev Κ Φ a ρ x)(hb:Ev Κ Φ b ρ y)(h:binD op x y=.ok (.list xs))(hi:imms xs=true):evE Κ Φ (.bin op a b) ρ=.ok (.fr,.list xs):=by obtain⟨g1,ha⟩:=ha;obtain⟨g2,hb⟩:=hb;rw[zg2];rw[ha,Res.ok_bind,hb,Res.ok_bind];dsimp only;rw[h,Res.ok_bind];show Res.ok (if imms xs=true then _ else _,_)=_;rw[if_pos hi]
theorem z1m {op:CmpOp}(ha:Ev Κ Φ a ρ x)(hb:Ev Κ Φ b ρ y)(h:cmpD op x y=.ok k):Vv Κ Φ (.cmp op a b) ρ (.bool k):=by obtain⟨g1,ha⟩:=ha;obtain⟨g2,hb⟩:=hb;refine⟨?_,rfl⟩;rw[zmx];rw[ha,Res.ok_bind,hb,Res.ok_bind];dsimp only;rw[h];rfl
theorem zlu {ng b':Bool}(ha:Ev Κ Φ a ρ (.bool k)):Vv Κ Φ (.isB ng a b') ρ (.bool (if ng then !(k==b')else k==b')):=by obtain⟨g1,ha⟩:=ha;refine⟨?_,rfl⟩;rw[zme];rw[ha];rfl
theorem zlp (hc:Tt Κ Φ c ρ k)(h1:k=true->Vv Κ Φ a ρ x)(h2:k=false->Vv Κ Φ b ρ y):Vv Κ Φ (.ife c a b) ρ (if k then x else y):=by
 unfold Tt at hc;cases k with
 |true=>exact⟨by rw[zh1];rw[hc];exact(h1 rfl).1,(h1 rfl).2⟩
 |false=>exact⟨by rw[zh1];rw[hc];exact(h2 rfl).1,(h2 rfl).2⟩
theorem z0j:Av Κ Φ .nil ρ []:=⟨rfl,rfl⟩
theorem z02 (ha:Vv Κ Φ a ρ x)(hb:Av Κ Φ b ρ ds):Av Κ Φ (.cons a b) ρ (x::ds):=⟨by rw[z6k,ha.1,Res.ok_bind,hb.1];rfl,by show(imm x&&imms ds)=true;rw[ha.2,hb.2];rfl⟩
theorem z0d:Aa Κ Φ .nil ρ []:=⟨[],rfl,rfl⟩
theorem z03 (ha:Ev Κ Φ a ρ x)(hb:Aa Κ Φ b ρ ds):Aa Κ Φ (.cons a b) ρ (x::ds):=by obtain⟨g1,ha⟩:=ha;obtain⟨ys,hb,e⟩:=hb;exact⟨_,by rw[z6k,ha,Res.ok_bind,hb];rfl,by rw[az,e]⟩
theorem z2t (h:Av Κ Φ args ρ ds):Vv Κ Φ (.tup args) ρ (.tuple ds):=by refine⟨?_,h.2⟩;rw[zl5];rw[h.1,Res.ok_bind,z7i,z2d (d:=.tuple ds) h.2]
theorem z1g (h:Av Κ Φ args ρ ds):evE Κ Φ (.lst args) ρ=.ok (.fr,.list ds):=by rw[zlq];rw[h.1,Res.ok_bind,z7i,zfg]
theorem v_ix (ha:Ev Κ Φ a ρ x)(hb:Ev Κ Φ b ρ y)(h:ixD x y=.ok d)(hi:imm d=true):Vv Κ Φ (.ix a b) ρ d:=by obtain⟨g1,ha⟩:=ha;obtain⟨g2,hb⟩:=hb;refine⟨?_,hi⟩;rw[E_ix];rw[ha,Res.ok_bind,hb,Res.ok_bind];dsimp only;rw[h,Res.ok_bind,z2d hi]
def Oo (Κ:List D)(Φ:List Fn)(c:C)(ρ:Rho)(i:Option Int):Prop:=evO Κ Φ c ρ=.ok i
theorem z4f:Oo Κ Φ .nil ρ none:=rfl
theorem z30 {i:Int}(h:Ev Κ Φ a ρ (.int i)):Oo Κ Φ (.tv a) ρ (some i):=by obtain⟨g1,h⟩:=h;unfold Oo;rw[O_tv,h];rfl
theorem v_sl {i j:Option Int}(ha:Ev Κ Φ a ρ x)(hb:Oo Κ Φ b ρ i)(hc:Oo Κ Φ c ρ j)(h:slD x i j=.ok d)(hi:imm d=true):Vv Κ Φ (.sl a b c) ρ d:=by obtain⟨g1,ha⟩:=ha;unfold Oo at hb hc;refine⟨?_,hi⟩;rw[E_sl];rw[ha,Res.ok_bind,hb,Res.ok_bind,hc,Res.ok_bind];dsimp only;rw[h,Res.ok_bind,zc6 hi]
theorem z0y {n:Nat}{f:Str}{m:Fn}(ha:Aa Κ Φ args ρ ds)(hf:Φ[n]?=some m)(h:m ds=.ok (g,d))(hi:imm d=true):Vv Κ Φ (.call n f args) ρ d:=by obtain⟨ys,ha,e⟩:=ha;refine⟨?_,hi⟩;rw[z8j];rw[ha,Res.ok_bind,hf];dsimp only;rw[e,h,Res.ok_bind,z2d hi]
theorem zbq {n:Nat}{f:Str}{m:Fn}(ha:Aa Κ Φ args ρ ds)(hf:Φ[n]?=some m)(h:m ds=.ok (g,d)):Ev Κ Φ (.call n f args) ρ d:=by obtain⟨ys,ha,e⟩:=ha;exact⟨_,by rw[z8j];rw[ha,Res.ok_bind,hf];dsimp only;rw[e,h,Res.ok_bind]⟩
theorem z6i {n:Nat}{f:Str}{m:Fn}{xs:List D}(ha:Aa Κ Φ args ρ ds)(hf:Φ[n]?=some m)(h:m ds=.ok (.fr,.list xs)):evE Κ Φ (.call n f args) ρ=.ok (.fr,.list xs):=by obtain⟨ys,ha,e⟩:=ha;rw[z8j];rw[ha,Res.ok_bind,hf];dsimp only;rw[e,h,Res.ok_bind];rfl
theorem v_bi {f:String}(ha:Aa Κ Φ args ρ ds)(h:biD f ds=.ok d)(hi:imm d=true):Vv Κ Φ (.bi f args) ρ d:=by obtain⟨ys,ha,e⟩:=ha;refine⟨?_,hi⟩;rw[E_bi];rw[ha,Res.ok_bind,e,h,Res.ok_bind,z2d hi]
theorem zks {f:String}{w:Bool×List D}(ha:Ev Κ Φ a ρ x)(hw:z4e x=.ok w)(h:aggD f w.1 w.2=.ok d)(hi:imm d=true):Vv Κ Φ (.agg f (.tv a)) ρ d:=by obtain⟨g1,ha⟩:=ha;refine⟨?_,hi⟩;rw[zh7];rw[G_tv,ha,Res.ok_bind];dsimp only;rw[hw];simp only[Res.ok_bind];rw[h,Res.ok_bind,z2d hi]
theorem zeo {f:String}{w:Bool×List D}(ha:Ev Κ Φ a ρ x)(hw:z4e x=.ok w)(h:aggD f w.1 w.2=.ok d)(hi:imms w.2=true):evE Κ Φ (.agg f (.tv a)) ρ=.ok (.fr,d):=by obtain⟨g1,ha⟩:=ha;rw[zh7];rw[G_tv,ha,Res.ok_bind];dsimp only;rw[hw];simp only[Res.ok_bind];rw[h,Res.ok_bind,if_pos hi];unfold gJ;split<;>rfl
theorem zhy {ts:List String}(ha:Ev Κ Φ a ρ x):Vv Κ Φ (.isT a ts) ρ (.bool (ts.any fun T=>isTy (tyOf x) T)):=by obtain⟨g1,ha⟩:=ha;refine⟨?_,rfl⟩;rw[zmc];rw[ha];rfl
theorem v_mt {m:String}(ho:Ev Κ Φ o ρ x)(ha:Aa Κ Φ args ρ ds)(h:mtD m x ds=.ok d)(hi:imm d=true):Vv Κ Φ (.mt m o args) ρ d:=by obtain⟨g1,ho⟩:=ho;obtain⟨ys,ha,e⟩:=ha;refine⟨?_,hi⟩;rw[E_mt];rw[ho,Res.ok_bind,ha,Res.ok_bind,e];dsimp only;rw[h,Res.ok_bind,z2d hi]
theorem t_tv (h:Ev Κ Φ a ρ x)(ht:z1f x=.ok k):Tt Κ Φ (.tv a) ρ k:=by obtain⟨g1,h⟩:=h;unfold Tt;rw[T_tv,h];exact ht
theorem z59:Tt Κ Φ .nil ρ true:=rfl
theorem z5h (ha:Tt Κ Φ a ρ k)(hb:k=true->Tt Κ Φ b ρ k'):Tt Κ Φ (.and a b) ρ (k&&k'):=by
 unfold Tt at *
 rw[zmq,ha];cases k with
 |true=>exact hb rfl
 |false=>rfl
theorem t_or (ha:Tt Κ Φ a ρ k)(hb:k=false->Tt Κ Φ b ρ k'):Tt Κ Φ (.or a b) ρ (k||k'):=by
 unfold Tt at *
 rw[T_or,ha];cases k with
 |false=>exact hb rfl
 |true=>rfl
theorem zb7 (ha:Tt Κ Φ a ρ k):Tt Κ Φ (.not a) ρ (!k):=by
 unfold Tt at *
 rw[zjp,ha];rfl
theorem z38 {β:Type}{nt:Nat}{js:List Nat}{N':List Str}{tg:Tg}{it cond elt:C}{w:G×List D}{m:β->D}{xs:List β}(p:β->Bool)(f:β->D)(hw:evW Κ Φ it ρ=.ok w)(hx:w.2=xs.map m)(r:β->Rho)
  (hb:∀x∈xs,z0x tg (gJ (m x) w.1,m x) (ba nt none++js.map fun j=>toAl (ρ.getD j none))=.ok (r x)) (hc:∀x∈xs,Tt Κ Φ cond (r x) (p x)) (he:∀x∈xs,p x=true->Vv Κ Φ elt (r x) (f x)):
  evE Κ Φ (.comp nt js N' tg it cond elt) ρ=.ok (.fr,.list ((xs.filter p).map f)):=by
 rw[zgi];rw[hw,Res.ok_bind,hx]
 rw[z6j (fun x=>if p x then some (f x)else none) xs fun x hx=>by
  rw[hb x hx,Res.ok_bind];have:=hc x hx;unfold Tt at this;rw[this,Res.ok_bind];cases e:p x with
  |true=>rw[if_pos rfl,(he x hx e).1];rfl
  |false=>rfl]
 rw[Res.ok_bind,zhn,z7i]
 have:(xs.filterMap fun x=>if p x=true then some (f x)else none)=(xs.filter p).map f:=by
  clear hx hb hc he hw
  induction xs with
  |nil=>rfl
  |cons x xs ih=>
   cases e:p x with
   |true=>rw[j4 (b:=f x) (by rw[e];rfl),List.filter_cons_of_pos e,az,ih]
   |false=>rw[jz (by rw[e];rfl),List.filter_cons_of_neg (by rw[e];exact bn),ih]
 rw[this]
theorem w_tv {xs:List D}(h:evE Κ Φ a ρ=.ok (g,x))(hw:z5l x=.ok xs):evW Κ Φ (.tv a) ρ=.ok (g,xs):=by rw[W_tv,h,Res.ok_bind];dsimp only;rw[hw];rfl
theorem zdy {xs:List D}(h:Aa Κ Φ args ρ ds)(hw:rngD ds=.ok xs):evW Κ Φ (.rng args) ρ=.ok (.fr,xs):=by obtain⟨ys,h,e⟩:=h;rw[zl4,h,Res.ok_bind,e,hw];rfl
theorem z0f {i:Nat}(h:Vv Κ Φ t ρ d):evS Κ Φ (.asg (.nm i) t) ρ=.ok (.nx (ρ.set i (some (.al,d)))):=by rw[zdi,h.1,Res.ok_bind];show Res.ok (Out.nx (ρ.set i (some (if imm d then(.al,d)else _))))=_;rw[if_pos h.2]
theorem z0w {i:Nat}{xs:List D}(h:evE Κ Φ t ρ=.ok (.fr,.list xs))(hi:imms xs=true):evS Κ Φ (.asg (.nm i) t) ρ=.ok (.nx (ρ.set i (some (.fr,.list xs)))):=by rw[zdi,h,Res.ok_bind];show Res.ok (Out.nx (ρ.set i (some (if imms xs then .fr else .nu,.list xs))))=_;rw[if_pos hi]
theorem zio {i:Nat}{es:Ents}(h:evE Κ Φ t ρ=.ok (.fr,.dict es))(hi:immE es=true):evS Κ Φ (.asg (.nm i) t) ρ=.ok (.nx (ρ.set i (some (.fr,.dict es)))):=by rw[zdi,h,Res.ok_bind];show Res.ok (Out.nx (ρ.set i (some (if immE es then .fr else .nu,.dict es))))=_;rw[if_pos hi]
theorem zbo (hv:∀i,t≠.var i):evS Κ Φ (.ret t) ρ=(evE Κ Φ t ρ>>=fun x=>.ok (.rt (rtG x.1) x.2)):=by cases t<;>first|exact absurd rfl (hv _)|rfl
theorem z0s (h:Vv Κ Φ t ρ d):evS Κ Φ (.ret t) ρ=.ok (.rt .fr d):=by
 by_cases hv:∀i,t≠.var i
 ·rw[zbo hv,h.1];rfl
 obtain⟨i,rfl⟩:∃i,t=.var i:=by cases t<;>first|exact⟨_,rfl⟩|exact(hv fun i z=>by cases z).elim
 have h1:=h.1;rw[zem]at h1;rw[zcj];cases hr:ρ[i]? with
 |none=>rw[hr]at h1;cases h1
 |some o=>
  cases o with
  |none=>rw[hr]at h1;cases h1
  |some gd=>
   obtain⟨g,d'⟩:=gd;rw[hr]at h1;have:d'=d:=by have:=congrArg (fun r:Res GD=>match r with|.ok p=>p.2|_=>.none) h1;exact this
   subst this;show Res.ok (Out.rt (if imm d'=true then _ else _) d')=_;rw[if_pos h.2]
theorem zin {xs:List D}(hv:∀i,t≠.var i)(h:evE Κ Φ t ρ=.ok (.fr,.list xs)):evS Κ Φ (.ret t) ρ=.ok (.rt .fr (.list xs)):=by rw[zbo hv,h];rfl
theorem z18 {p q:S}{r:Res Out}(hc:Tt Κ Φ c ρ k)(h1:k=true->evS Κ Φ p ρ=r)(h2:k=false->evS Κ Φ q ρ=r):evS Κ Φ (.ifS c p q) ρ=r:=by
 unfold Tt at hc;rw[R_if,hc,Res.ok_bind];cases k with
 |true=>exact h1 rfl
 |false=>exact h2 rfl
theorem z0i:evS Κ Φ .nil ρ=.ok (.nx ρ):=rfl
theorem z66 {y:GD}(h:imm y.2=true):okIn y=true:=by unfold okIn;rw[h];rfl
theorem zi5 {i:Nat}{es:Ents}{n:Str}(hv:Vv Κ Φ b ρ x)(hk:Ev Κ Φ a ρ (.str n))(hr:ρ[i]?=some (some (.fr,.dict es)))(hl:es.length<LIM):evS Κ Φ (.setIx i a b) ρ=.ok (.nx ((ρ.set i (some (.fr,.dict (dput es (.str n) x)))).map z07)):=by
 obtain⟨g1,hk⟩:=hk;rw[zmi,hv.1,Res.ok_bind,hk,Res.ok_bind,hr]
 dsimp only
 rw[if_pos];rw[z7z,z66 hv.2,jy,jy];exact nz hl
theorem s_app {i:Nat}{xs:List D}(hv:Vv Κ Φ a ρ x)(hr:ρ[i]?=some (some (.fr,.list xs)))(hl:xs.length<1000):evS Κ Φ (.mut "append" i (.cons a .nil)) ρ=.ok (.nx ((ρ.set i (some (.fr,.list (xs++[x])))).map z07)):=by
 rw[zm9,z6k,hv.1,Res.ok_bind,zhd,Res.ok_bind,Res.ok_bind,hr]
 dsimp only
 have:mutD "append" xs [(.fr,x)]=.ok (xs++[x]):=by show(if(okIn (G.fr,x)&&decide (xs.length<LIM))=true then _ else _)=_;rw[if_pos];rw[z66 hv.2,jy];refine nz ?_;unfold LIM;omega
 rw[this];rfl
theorem zau {xs:List D}(h:Aa Κ Φ args ρ ds)(hw:rngD ds=.ok xs):evF Κ Φ (.rng args) ρ=.ok (.fr,xs,ρ):=by show evN Κ Φ (.rng args) ρ=_;unfold evN;rw[zdy h hw];rfl
theorem zbp {xs:List D}{x:D}(ha:Ev Κ Φ a ρ x)(hx:seqI x=.ok xs):evW Κ Φ (.enum a) ρ=.ok (.al,z1h 0 xs):=by obtain⟨g,ha⟩:=ha;show(evE Κ Φ a ρ>>=fun x=>seqI x.2>>=fun xs=>Res.ok (G.al,z1h 0 xs))=_;rw[ha,Res.ok_bind];show(seqI x>>=fun xs=>Res.ok (G.al,z1h 0 xs))=_;rw[hx];rfl
theorem zm3 {xs:List D}{x:GD}(ha:evE Κ Φ a ρ=.ok x)(ca:z70 x=true)(hx:seqI x.2=.ok xs):evF Κ Φ (.enum a) ρ=.ok (.al,z1h 0 xs,ρ):=by
 have e:evA Κ Φ (.cons a .nil) ρ=.ok [x]:=by rw[z6k,ha,Res.ok_bind,zhd];rfl
 show(evA Κ Φ (.cons a .nil) ρ>>=fun ys=>evEn ys ρ)=_;rw[e,Res.ok_bind];unfold evEn
 dsimp only
 rw[ca,if_pos rfl,hx];rfl
theorem zgk {xs:List D}(h:imms xs=true)(hl:xs.length<=1000):seqI (.list xs)=.ok xs:=by show(if(imms xs&&decide (xs.length<=LIM))=true then Res.ok xs else .no)=_;rw[h,nz (show xs.length<=LIM by unfold LIM;omega)];rfl
theorem zci {β:Type}(m:β->D):∀(k:Nat) (xs:List β),z1h k (xs.map m)=(xs.zipIdx k).map fun p=>.tuple [.int p.2,m p.1]
 |_,[]=>rfl
 |k,x::xs=>by rw[az,z1h,zci m (k+1) xs];rfl
theorem zic {e0:C}{x':D}{xs:List D}(hv:∀i,e0≠.var i)(h:evE Κ Φ e0 ρ=.ok (.fr,x'))(hw:z5l x'=.ok xs):evF Κ Φ (.tv e0) ρ=.ok (.fr,xs,ρ):=by
 have e2:evW Κ Φ (.tv e0) ρ=.ok (.fr,xs):=w_tv h hw;have e3:isAl Κ Φ (.tv e0) ρ=false:=by unfold isAl;rw[e2];rfl
 rw[R_tv hv,e3];unfold evN;rw[e2];rfl
theorem zj1 {t':Tg}{it:C}{p:S}{w:G×List D×Rho}{r:Res Out}(h:evF Κ Φ it ρ=.ok w)(k:forD (fun x ρ1=>z0x t' (gJ x w.1,x) ρ1>>=fun ρ2=>evS Κ Φ p ρ2) w.2.1 w.2.2=r):evS Κ Φ (.for_ t' it p) ρ=r:=by rw[zjk,h];exact k
theorem z14 {p q rest:S}(hc:Tt Κ Φ c ρ k)(hk:k=true)(h:evS Κ Φ p ρ=.ok (.rt g d)):evS Κ Φ (.seq (.ifS c p q) rest) ρ=.ok (.rt g d):=z0r (z18 hc (fun _=>h) fun z=>by rw[hk]at z;cases z)
theorem z0m {p rest:S}{r:Res Out}(hc:Tt Κ Φ c ρ k)(hk:k=false)(h:evS Κ Φ rest ρ=r):evS Κ Φ (.seq (.ifS c p .nil) rest) ρ=r:=z0a (z18 hc (fun z=>by rw[hk]at z;cases z) fun _=>z0i) h
theorem z5q {p rest:S}{r:Res Out}{ρ':Rho}(hc:Tt Κ Φ c ρ k)(hk:k=true)(h:evS Κ Φ p ρ=.ok (.nx ρ'))(h2:evS Κ Φ rest ρ'=r):evS Κ Φ (.seq (.ifS c p .nil) rest) ρ=r:=z0a (z18 hc (fun _=>h) fun z=>by rw[hk]at z;cases z) h2
theorem z5w {i:Nat}{xs:List D}(h:ρ[i]?=some (some (.fr,.list xs))):evS Κ Φ (.ret (.var i)) ρ=.ok (.rt .fr (.list xs)):=by rw[zcj,h];rfl
theorem q_ok {Q:Res Out->Prop}{p q:S}{ρ':Rho}(h:evS Κ Φ p ρ=.ok (.nx ρ'))(k:Q (evS Κ Φ q ρ')):Q (evS Κ Φ (.seq p q) ρ):=by rw[z0a h rfl];exact k
theorem q_rt {Q:Res Out->Prop}{p q:S}(h:evS Κ Φ p ρ=.ok (.rt g d))(k:Q (.ok (.rt g d))):Q (evS Κ Φ (.seq p q) ρ):=by rw[z0r h];exact k
theorem zdj {Q:Res Out->Prop}{β:Type}{t':Tg}{it:C}{p rest:S}{m:β->D}{xs:List β}{ρ1:Rho}(h:evF Κ Φ it ρ=.ok (g,xs.map m,ρ1))(I:List β->Rho->Prop)(h0:I [] ρ1)
  (hf:∀pre x post ρ,xs=pre++x::post->I pre ρ->∃ρ',(z0x t' (gJ (m x) g,m x) ρ>>=fun ρ2=>evS Κ Φ p ρ2)=.ok (.nx ρ')/\I (pre++[x]) ρ') (hk:∀ρ',I xs ρ'->Q (evS Κ Φ rest ρ')):Q (evS Κ Φ (.seq (.for_ t' it p) rest) ρ):=by
 obtain⟨ρ',e,i⟩:=z89 (f:=fun x ρ1=>z0x t' (gJ x g,x) ρ1>>=fun ρ2=>evS Κ Φ p ρ2) I xs [] ρ1 hf h0;rw[z0a (zj1 h e) rfl];exact hk ρ' i
theorem z7q {Q:Res Out->Prop}{β:Type}{t':Tg}{it:C}{p rest:S}{m:β->D}{xs:List β}{ρ1:Rho}(h:evF Κ Φ it ρ=.ok (g,xs.map m,ρ1))(I:List β->Rho->Prop)(h0:I [] ρ1)
  (hf:∀pre x post ρ,xs=pre++x::post->I pre ρ->∃ρ2 ρ',z0x t' (gJ (m x) g,m x) ρ=.ok ρ2/\evS Κ Φ p ρ2=.ok (.nx ρ')/\I (pre++[x]) ρ') (hk:∀ρ',I xs ρ'->Q (evS Κ Φ rest ρ')):Q (evS Κ Φ (.seq (.for_ t' it p) rest) ρ):=
 zdj h I h0 (fun pre x post ρ hx hI=>by obtain⟨ρ2,ρ',h1,h2,h3⟩:=hf pre x post ρ hx hI;exact⟨ρ',by rw[h1,Res.ok_bind,h2],h3⟩) hk
theorem zde {Q:Res Out->Prop}{p rest:S}(hc:Tt Κ Φ c ρ k)(hk:k=false)(h:Q (evS Κ Φ rest ρ)):Q (evS Κ Φ (.seq (.ifS c p .nil) rest) ρ):=by rw[z0m hc hk rfl];exact h
theorem zen:Vv Κ Φ (.bin .Pow (.int 10) (.int 15)) ρ (.int 1000000000000000):=z08 z01.e z01.e zju rfl
theorem z58:Vv Κ Φ (.bin .Pow (.int 10) (.int 30)) ρ (.int 1000000000000000000000000000000):=z08 z01.e z01.e zmb rfl
theorem ze4:Vv Κ Φ (.bin .Pow (.int 10) (.int 40)) ρ (.int 10000000000000000000000000000000000000000):=z08 z01.e z01.e zko rfl
end
end
end Mk
namespace Mk
open PySem Mi
def S_z0:S:=(.seq (.asg (.nm 1) (.ix (.var 0) (.int 0)))
 (.seq (.ifS (.tv (.cmp .Eq (.var 1) (.str "is")))
 (.seq (.ret (.ix (.var 0) (.int 1)))
 .nil)
 .nil)
 (.seq (.ifS (.tv (.cmp .Eq (.var 1) (.str "at")))
 (.seq (.ret (.ife (.tv (.cmp .Eq (.ix (.var 0) (.int 2)) (.int 1))) (.ix (.var 0) (.int 1)) (.mt "join" (.str " ") (.cons (.lst (.cons (.ix (.var 0) (.int 1)) (.cons (.str ">=") (.cons (.bi "str" (.cons (.ix (.var 0) (.int 2)) .nil)) .nil)))) .nil))))
 .nil)
 .nil)
 (.seq (.ifS (.tv (.cmp .In (.var 1) (.tup (.cons (.str "and") (.cons (.str "or") .nil)))))
 (.seq (.ret (.mt "join" (.str " ") (.cons (.lst (.cons (.str "(") (.cons (.call 0 "shown_part" (.cons (.ix (.var 0) (.int 1)) .nil)) (.cons (.var 1) (.cons (.call 0 "shown_part" (.cons (.ix (.var 0) (.int 2)) .nil)) (.cons (.str ")") .nil)))))) .nil)))
 .nil)
 .nil)
 (.seq (.ret (.mt "join" (.str " ") (.cons (.lst (.cons (.var 1) (.cons (.call 0 "shown_part" (.cons (.ix (.var 0) (.int 1)) .nil)) .nil))) .nil)))
 .nil)))))
def S_z1:S:=(.seq .bad (.seq .bad (.seq .bad (.seq .bad (.seq .bad .nil)))))
def F_z0:Nat->Fn
 |0=>runD [] [] 2 S_z1
 |k+1=>runD [] [F_z0 k] 2 S_z0
def S_z2:S:=(.seq (.ifS (.tv (.cmp .Eq (.ix (.var 0) (.int 0)) (.str "fact")))
 (.seq (.asg (.nm 1) (.lst (.cons (.str "fact") (.cons (.ix (.var 0) (.int 1)) .nil))))
 .nil)
 (.seq (.ifS (.tv (.cmp .Eq (.ix (.var 0) (.int 0)) (.str "open")))
 (.seq (.asg (.nm 1) (.bin .Add (.bin .Add (.bin .Add (.lst (.cons (.str "open") (.cons (.ix (.var 0) (.int 1)) (.cons (.str "for") .nil)))) (.agg "list" (.tv (.ix (.var 0) (.int 2))))) (.lst (.cons (.str "against") .nil))) (.agg "list" (.tv (.ix (.var 0) (.int 3))))))
 .nil)
 (.seq (.asg (.nm 1) (.lst (.cons (.ix (.var 0) (.int 0)) (.cons (.ix (.var 0) (.int 1)) (.cons (.str "if") (.cons (.call 0 "shown_part" (.cons (.ix (.var 0) (.int 2)) .nil)) .nil))))))
 .nil))
 .nil))
 (.seq (.ret (.mt "join" (.str " ") (.cons (.var 1) .nil)))
 .nil))
def F_z2:Fn:=runD [] [(F_z0 6)] 2 S_z2
def S_z3:S:=(.seq (.ret (.mt "join" (.str "\n") (.cons (.comp 1 [] ["row"] (.nm 0) (.tv (.var 0)) .nil (.call 0 "shown_row" (.cons (.var 0) .nil))) .nil))) .nil)
def F_z3:Fn:=runD [] [F_z2] 1 S_z3
def S_z4:S:=(.seq (.ret (.bin .Mod (.bin .Mult (.bin .Add (.bin .Add (.bin .Mod (.var 0) (.bin .Pow (.int 10) (.int 15))) (.bin .Mult (.bin .Mult (.int 104729) (.var 1)) (.var 1))) (.int 11)) (.int 48271)) (.int 2147483647))) .nil)
def F_z4:Fn:=runD [] [] 2 S_z4
def S_z5:S:=(.seq (.ifS (.tv (.cmp .In (.var 0) (.lst (.cons (.str "and") (.cons (.str "or") (.cons (.str "not") (.cons (.str "if") (.cons (.str "is") (.cons (.str "some") (.cons (.str "all") (.cons (.str "for") (.cons (.str "against") .nil))))))))))))
 (.seq (.ret (.bin .Add (.var 0) (.str "x")))
 .nil)
 .nil)
 (.seq (.ret (.var 0))
 .nil))
def F_z5:Fn:=runD [] [] 1 S_z5
def S_z6:S:=(.seq (.asg (.nm 1) (.str "bcdefghjklmnpqrstuvwxyz"))
 (.seq (.asg (.nm 2) (.call 1 "_law_mixed" (.cons (.var 0) (.cons (.int 0) .nil))))
 (.seq (.asg (.nm 3) (.bin .Mod (.var 2) (.int 11)))
 (.seq (.asg (.nm 4) (.mt "join" (.str "") (.cons (.comp 1 [1,2] ["_law_k","_law_letters","_law_number"] (.nm 0) (.rng (.cons (.var 3) .nil)) .nil (.ix (.var 1) (.bin .Mod (.bin .Add (.bin .FloorDiv (.var 2) (.int 11)) (.bin .Mult (.bin .Mult (.int 5) (.var 0)) (.var 0))) (.int 23)))) .nil)))
 (.seq (.asg (.nm 5) (.bin .Mod (.bin .FloorDiv (.var 2) (.int 253)) (.bin .Add (.var 3) (.int 1))))
 (.seq (.asg (.nm 6) (.comp 1 [1,2] ["_law_k","_law_letters","_law_number"] (.nm 0) (.rng (.cons (.int 23) .nil)) .nil (.ix (.var 1) (.bin .Mod (.bin .Add (.bin .FloorDiv (.var 2) (.int 7)) (.bin .Mult (.int 3) (.var 0))) (.int 23)))))
 (.seq (.ifS (.tv (.cmp .Eq (.bin .Mod (.var 0) (.int 2)) (.int 1)))
 (.seq (.asg (.nm 1) (.str "abcdefghijklmnopqrstuvwxyz"))
 (.seq (.asg (.nm 2) (.bin .FloorDiv (.var 0) (.int 2)))
 (.seq (.asg (.nm 3) (.bin .Mod (.var 2) (.int 11)))
 (.seq (.asg (.nm 5) (.bin .Mod (.bin .FloorDiv (.var 2) (.int 11)) (.bin .Add (.var 3) (.int 1))))
 (.seq (.asg (.nm 6) (.comp 1 [1,2] ["_law_k","_law_letters","_law_number"] (.nm 0) (.rng (.cons (.int 23) .nil)) .nil (.ix (.var 1) (.bin .Mod (.bin .Add (.bin .FloorDiv (.var 2) (.int 132)) (.bin .Mult (.int 3) (.var 0))) (.int 26)))))
 (.seq (.asg (.nm 2) (.bin .FloorDiv (.var 2) (.int 3432)))
 (.seq (.asg (.nm 4) (.str ""))
 (.seq (.for_ (.nm 7) (.rng (.cons (.var 3) .nil))
 (.seq (.asg (.nm 4) (.bin .Add (.var 4) (.ix (.var 1) (.bin .Mod (.var 2) (.int 26)))))
 (.seq (.asg (.nm 2) (.bin .FloorDiv (.var 2) (.int 26)))
 .nil)))
 .nil))))))))
 .nil)
 (.seq (.asg (.nm 8) (.comp 1 [4,5] ["_law_sign","_law_stem","_law_at"] (.nm 0) (.tv (.var 6)) .nil (.call 0 "_law_good_name" (.cons (.bin .Add (.bin .Add (.sl (.var 1) .nil (.tv (.var 2))) (.var 0)) (.sl (.var 1) (.tv (.var 2)) .nil)) .nil))))
 (.seq (.ret (.bin .Add (.var 8) (.comp 1 [] ["_law_name"] (.nm 0) (.tv (.sl (.var 8) .nil (.tv (.int 4)))) .nil (.bin .Add (.var 0) (.str "x")))))
 .nil)))))))))
def F_z6:Fn:=runD [] [F_z5,F_z4] 9 S_z6
def S_z7:S:=(.seq (.asg (.nm 2) (.lst .nil))
 (.seq (.asg (.nm 3) (.bin .FloorDiv (.var 0) (.int 2)))
 (.seq (.for_ (.nm 4) (.rng (.cons (.var 1) .nil))
 (.seq (.asg (.nm 5) (.bin .Mod (.bin .Mult (.bin .Add (.bin .Add (.bin .Mod (.var 0) (.int 1000000007)) (.bin .Mult (.bin .Mult (.int 7919) (.var 4)) (.var 4))) (.int 104729)) (.int 48271)) (.int 2147483629)))
 (.seq (.asg (.nm 5) (.bin .Mod (.bin .Mult (.var 5) (.var 5)) (.int 2147483587)))
 (.seq (.asg (.nm 6) (.bin .FloorDiv (.bin .Mult (.bin .Mult (.bin .Mult (.var 5) (.bin .Add (.var 5) (.int 1))) (.int 69621)) (.bin .Add (.bin .Add (.var 5) (.var 4)) (.int 2))) (.int 97)))
 (.seq (.mut "append" 2 (.cons (.bin .Mod (.ix (.lst (.cons (.var 6) (.cons (.var 3) .nil))) (.bin .Mod (.var 0) (.int 2))) (.bin .Pow (.int 10) (.int 34))) .nil))
 (.seq (.asg (.nm 3) (.bin .FloorDiv (.var 3) (.bin .Pow (.int 10) (.int 34))))
 .nil))))))
 (.seq (.ret (.var 2))
 .nil))))
def F_z7:Fn:=runD [] [] 7 S_z7
def S_z8:S:=(.seq (.asg (.nm 2) (.lk 1))
 (.seq (.asg (.nm 3) (.ix (.var 2) (.bin .Mod (.bin .FloorDiv (.var 0) (.int 4)) (.bi "len" (.cons (.var 2) .nil)))))
 (.seq (.asg (.nm 4) (.bin .FloorDiv (.bin .FloorDiv (.var 0) (.int 4)) (.bi "len" (.cons (.var 2) .nil))))
 (.seq (.ifS (.tv (.cmp .Eq (.ix (.var 1) (.var 3)) (.str "fact")))
 (.seq (.asg (.nm 5) (.lst (.cons (.int 1) (.cons (.bin .Add (.int 2) (.bin .Mod (.var 4) (.int 5))) (.cons (.bin .Sub (.bin .Pow (.int 10) (.int 30)) (.bin .Mod (.var 4) (.int 3))) (.cons (.bin .Add (.int 1) (.bin .Mod (.var 4) (.bin .Pow (.int 10) (.int 30)))) .nil))))))
 (.seq (.ret (.tup (.cons (.str "at") (.cons (.var 3) (.cons (.ix (.var 5) (.bin .Mod (.var 0) (.int 4))) .nil)))))
 .nil))
 .nil)
 (.seq (.ret (.tup (.cons (.str "is") (.cons (.var 3) .nil))))
 .nil)))))
def F_z8:Fn:=runD [] [] 6 S_z8
def S_z9:S:=(.seq (.asg (.nm 4) (.lst .nil))
 (.seq (.for_ (.nm 5) (.rng (.cons (.var 2) .nil))
 (.seq (.asg (.nm 6) (.ix (.var 0) (.bin .Mult (.int 4) (.var 5))))
 (.seq (.ifS (.and (.tv (.cmp .Gt (.bi "len" (.cons (.var 4) .nil)) (.int 1))) (.tv (.cmp .Lt (.bin .Mod (.var 6) (.int 5)) (.int 2))))
 (.seq (.pop 7 4)
 (.seq (.pap 4 (.ix (.lst (.cons (.str "and") (.cons (.str "or") .nil))) (.bin .Mod (.bin .FloorDiv (.var 6) (.int 5)) (.int 2))) (.cons (.var 7) .nil))
 .nil))
 (.seq (.ifS (.and (.tv (.cmp .Gt (.bi "len" (.cons (.var 4) .nil)) (.int 0))) (.tv (.cmp .Eq (.bin .Mod (.var 6) (.int 5)) (.int 2))))
 (.seq (.pap 4 (.str "not") .nil)
 .nil)
 (.seq (.ifS (.tv (.var 3))
 (.seq (.asg (.nm 8) (.lst .nil))
 (.seq (.for_ (.nm 9) (.tv (.sl (.var 0) (.tv (.bin .Add (.bin .Mult (.int 4) (.var 5)) (.int 1))) (.tv (.bin .Add (.bin .Mult (.int 4) (.var 5)) (.int 4)))))
 (.seq (.asg (.nm 8) (.bin .Add (.var 8) (.lst (.cons (.var 9) (.cons (.int 0) (.cons (.int 0) (.cons (.int 0) .nil)))))))
 .nil))
 (.seq (.asg (.nm 10) (.call 0 "_law_tree" (.cons (.var 8) (.cons (.var 1) (.cons (.bin .Add (.int 1) (.bin .Mod (.bin .FloorDiv (.var 6) (.int 10)) (.int 2))) (.cons (.bl false) .nil))))))
 (.seq (.mut "append" 4 (.cons (.tup (.cons (.ix (.lst (.cons (.str "some") (.cons (.str "all") .nil))) (.bin .Mod (.bin .FloorDiv (.var 6) (.int 5)) (.int 2))) (.cons (.var 10) .nil))) .nil))
 .nil))))
 (.seq (.mut "append" 4 (.cons (.call 1 "_law_leaf" (.cons (.bin .FloorDiv (.var 6) (.int 5)) (.cons (.var 1) .nil))) .nil))
 .nil))
 .nil))
 .nil))
 .nil)))
 (.seq (.wh 100000 (.tv (.cmp .Gt (.bi "len" (.cons (.var 4) .nil)) (.int 1)))
 (.seq (.pop 7 4)
 (.seq (.pap 4 (.ix (.lst (.cons (.str "or") (.cons (.str "and") .nil))) (.bin .Mod (.bi "len" (.cons (.var 4) .nil)) (.int 2))) (.cons (.var 7) .nil))
 .nil)))
 (.seq (.ret (.ix (.var 4) (.int 0)))
 .nil))))
def zj0:S:=(.seq .bad (.seq .bad (.seq .bad (.seq .bad .nil))))
def F_z9:Nat->Fn
 |0=>runD [] [] 11 zj0
 |k+1=>runD [] [F_z9 k,F_z8] 11 S_z9
def zb0:S:=(.seq (.asg (.nm 2) (.lst .nil))
 (.seq (.asg (.nm 3) (.bin .Mod (.var 0) (.int 6)))
 (.seq (.asg (.nm 0) (.bin .FloorDiv (.var 0) (.int 6)))
 (.seq (.for_ (.nm 4) (.rng (.cons (.var 3) .nil))
 (.seq (.asg (.nm 5) (.ix (.var 1) (.bin .Mod (.var 0) (.bi "len" (.cons (.var 1) .nil)))))
 (.seq (.asg (.nm 0) (.bin .FloorDiv (.var 0) (.bi "len" (.cons (.var 1) .nil))))
 (.seq (.ifS (.tv (.cmp .NotIn (.var 5) (.var 2)))
 (.seq (.mut "append" 2 (.cons (.var 5) .nil))
 .nil)
 .nil)
 .nil))))
 (.seq (.ret (.agg "tuple" (.tv (.var 2))))
 .nil)))))
def za1:Fn:=runD [] [] 6 zb0
def zah:S:=(.seq (.asg (.nm 1) (.call 3 "_law_pool" (.cons (.int 0) .nil)))
 (.seq (.ifS (.tv (.cmp .Gt (.bi "len" (.cons (.var 0) .nil)) (.int 0)))
 (.seq (.asg (.nm 1) (.call 3 "_law_pool" (.cons (.ix (.var 0) (.int 0)) .nil)))
 .nil)
 .nil)
 (.seq (.asg (.nm 2) (.lst (.cons (.tup (.cons (.str "fact") (.cons (.ix (.var 1) (.int 26)) .nil))) .nil)))
 (.seq (.asg (.nm 3) (.d1 (.ix (.var 1) (.int 26)) (.str "fact")))
 (.seq (.asg (.nm 4) (.int 0))
 (.seq (.for_ (.tp [5,6]) (.enum (.sl (.var 0) (.tv (.int 1)) (.tv (.int 24))))
 (.seq (.asg (.nm 7) (.call 2 "_law_draws" (.cons (.bin .Add (.var 6) (.bin .Mult (.bin .Mult (.bin .Mult (.int 2) (.int 104729)) (.var 5)) (.var 5))) (.cons (.int 26) .nil))))
 (.seq (.asg (.nm 8) (.bin .Mod (.ix (.var 7) (.int 0)) (.int 6)))
 (.seq (.ifS (.and (.tv (.cmp .Eq (.var 8) (.int 1))) (.tv (.cmp .Lt (.var 4) (.int 4))))
 (.seq (.asg (.nm 4) (.bin .Add (.var 4) (.int 1)))
 (.seq (.asg (.nm 9) (.lk 3))
 (.seq (.mut "append" 2 (.cons (.tup (.cons (.str "open") (.cons (.ix (.var 1) (.var 5)) (.cons (.call 0 "_law_list" (.cons (.ix (.var 7) (.int 1)) (.cons (.var 9) .nil))) (.cons (.call 0 "_law_list" (.cons (.ix (.var 7) (.int 2)) (.cons (.var 9) .nil))) .nil))))) .nil))
 .nil)))
 (.seq (.ifS (.or (.tv (.cmp .Eq (.var 8) (.int 2))) (.tv (.cmp .Eq (.var 8) (.int 3))))
 (.seq (.mut "append" 2 (.cons (.tup (.cons (.str "word") (.cons (.ix (.var 1) (.var 5)) (.cons (.call 1 "_law_tree" (.cons (.sl (.var 7) (.tv (.int 2)) .nil) (.cons (.var 3) (.cons (.bin .Add (.int 1) (.bin .Mod (.ix (.var 7) (.int 1)) (.int 6))) (.cons (.bl false) .nil))))) .nil)))) .nil))
 .nil)
 (.seq (.ifS (.tv (.cmp .Gt (.var 8) (.int 3)))
 (.seq (.mut "append" 2 (.cons (.tup (.cons (.str "claim") (.cons (.ix (.var 1) (.var 5)) (.cons (.call 1 "_law_tree" (.cons (.sl (.var 7) (.tv (.int 2)) .nil) (.cons (.var 3) (.cons (.bin .Add (.int 1) (.bin .Mod (.ix (.var 7) (.int 1)) (.int 3))) (.cons (.bl true) .nil))))) .nil)))) .nil))
 .nil)
 (.seq (.mut "append" 2 (.cons (.tup (.cons (.str "fact") (.cons (.ix (.var 1) (.var 5)) .nil))) .nil))
 .nil))
 .nil))
 .nil))
 (.seq (.ifS (.tv (.cmp .Lt (.var 8) (.int 4)))
 (.seq (.setIx 3 (.ix (.var 1) (.var 5)) (.ix (.ix (.var 2) (.neg (.int 1))) (.int 0)))
 .nil)
 .nil)
 .nil)))))
 (.seq (.ret (.var 2))
 .nil)))))))
def zai:Fn:=runD [] [za1,(F_z9 2),F_z7,F_z6] 10 zah
def z4i:S:=(.seq (.ifS (.and (.tv (.cmp .Eq (.ix (.var 0) (.int 0)) (.str "at"))) (.tv (.cmp .Gt (.ix (.var 0) (.int 2)) (.int 1))))
 (.seq (.ret (.bin .Add (.bin .Add (.ix (.var 0) (.int 1)) (.str " >= ")) (.bi "str" (.cons (.ix (.var 0) (.int 2)) .nil))))
 .nil)
 .nil)
 (.seq (.ifS (.or (.tv (.cmp .Eq (.ix (.var 0) (.int 0)) (.str "at"))) (.tv (.cmp .Eq (.ix (.var 0) (.int 0)) (.str "is"))))
 (.seq (.ret (.ix (.var 0) (.int 1)))
 .nil)
 .nil)
 (.seq (.ifS (.tv (.cmp .Eq (.bi "len" (.cons (.var 0) .nil)) (.int 2)))
 (.seq (.ret (.bin .Add (.bin .Add (.ix (.var 0) (.int 0)) (.str " ")) (.call 0 "_law_written" (.cons (.ix (.var 0) (.int 1)) .nil))))
 .nil)
 .nil)
 (.seq (.asg (.nm 1) (.call 0 "_law_written" (.cons (.ix (.var 0) (.int 2)) .nil)))
 (.seq (.ret (.bin .Add (.bin .Add (.bin .Add (.bin .Add (.bin .Add (.bin .Add (.str "( ") (.call 0 "_law_written" (.cons (.ix (.var 0) (.int 1)) .nil))) (.str " ")) (.ix (.var 0) (.int 0))) (.str " ")) (.var 1)) (.str " )")))
 .nil)))))
def zgz:S:=(.seq .bad (.seq .bad (.seq .bad (.seq .bad (.seq .bad .nil)))))
def z16:Nat->Fn
 |0=>runD [] [] 2 zgz
 |k+1=>runD [] [z16 k] 2 z4i
def zfa:S:=(.seq (.ifS (.tv (.cmp .Eq (.ix (.var 0) (.int 0)) (.str "fact")))
 (.seq (.ret (.bin .Add (.str "fact ") (.ix (.var 0) (.int 1))))
 .nil)
 .nil)
 (.seq (.ifS (.tv (.cmp .Eq (.ix (.var 0) (.int 0)) (.str "open")))
 (.seq (.asg (.nm 1) (.bin .Add (.bin .Add (.str "open ") (.ix (.var 0) (.int 1))) (.str " for")))
 (.seq (.for_ (.nm 2) (.tv (.ix (.var 0) (.int 2)))
 (.seq (.asg (.nm 1) (.bin .Add (.bin .Add (.var 1) (.str " ")) (.var 2)))
 .nil))
 (.seq (.asg (.nm 1) (.bin .Add (.var 1) (.str " against")))
 (.seq (.for_ (.nm 2) (.tv (.ix (.var 0) (.int 3)))
 (.seq (.asg (.nm 1) (.bin .Add (.bin .Add (.var 1) (.str " ")) (.var 2)))
 .nil))
 (.seq (.ret (.var 1))
 .nil)))))
 .nil)
 (.seq (.ret (.bin .Add (.bin .Add (.bin .Add (.bin .Add (.ix (.var 0) (.int 0)) (.str " ")) (.ix (.var 0) (.int 1))) (.str " if ")) (.call 0 "_law_written" (.cons (.ix (.var 0) (.int 2)) .nil))))
 .nil)))
def z81:Fn:=runD [] [(z16 6)] 3 zfa
def zf4:S:=(.seq (.asg (.nm 1) (.call 2 "_law_rows" (.cons (.var 0) .nil)))
 (.seq (.asg (.nm 2) (.agg "list" (.tv (.var 1))))
 (.seq (.asg (.nm 3) (.call 1 "shown_act" (.cons (.var 2) .nil)))
 (.seq (.ifS (.or (.not (.tv (.isT (.var 3) ["str"]))) (.tv (.cmp .NotEq (.var 2) (.var 1))))
 (.seq (.ret (.bl false))
 .nil)
 .nil)
 (.seq (.ret (.cmp .Eq (.var 3) (.mt "join" (.str "\n") (.cons (.comp 1 [] ["_law_row"] (.nm 0) (.tv (.var 1)) .nil (.call 0 "_law_line" (.cons (.var 0) .nil))) .nil))))
 .nil)))))
def z87:Fn:=runD [] [z81,F_z3,zai] 4 zf4
def dec (i:Int):Str:=(toString i:String)
theorem z5s {i:Int}(h0:0<=i)(h:i<10 ^ 40):(dec i).length<=40:=by
 obtain⟨n,hn⟩:=Int.eq_ofNat_of_zero_le h0;subst hn;have e:(toString (n:Int):String)=n.repr:=rfl;unfold dec;rw[e,Str.ofString_eq_toList];show(List.toArray (c7 Char.toNat n.repr.toList)).size<=40;rw[ai,ag,Nat.repr_eq_ofList_toDigits,String.toList_ofList];refine(Nat.length_toDigits_le_iff (by decide) (by decide)).mpr ?_;have:(n:Int)<((10 ^ 40:Nat):Int):=by simpa using h
 exact Int.ofNat_lt.mp this
theorem zdb {i:Int}(h0:0<=i)(h:i<10 ^ 40):i.natAbs.log2<1920:=by
 by_cases z:i.natAbs=0
 ·rw[z];decide
 ·have h1:i.natAbs<2 ^ 200:=by omega
  have:=(Nat.log2_lt z).mpr h1;omega
theorem z4d {a b:Str}(h:a.cps.toList=b.cps.toList):a=b:=by
 cases a with
 |mk x=>
  cases b with
  |mk y=>rw[show x=y from Array.ext' h]
theorem z1a (a b:Str):(a++b).cps.toList=a.cps.toList++b.cps.toList:=by show(a.cps++b.cps).toList=_;rw[ls]
theorem z28 (z:Str)(ss:List Str):(z0o z ss).cps.toList=z3s z.cps.toList ss:=by show(z3s z.cps.toList ss).toArray.toList=_;rw[lu]
theorem zar (z:Str):z.length=z.cps.toList.length:=by rw[cw];rfl
theorem j2 (a b:Str):z0o " " [a,b]=a++" "++b:=by apply z4d;rw[z28,z1a,z1a];show a.cps.toList++([32]++b.cps.toList++[])=a.cps.toList++[32]++b.cps.toList;simp
theorem j3 (a c:Str):z0o " " [a,">=",c]=a++" >= "++c:=by apply z4d;rw[z28,z1a,z1a];show a.cps.toList++([32]++[62,61]++([32]++c.cps.toList++[]))=a.cps.toList++[32,62,61,32]++c.cps.toList;simp
theorem j5 (a w b:Str):z0o " " ["(",a,w,b,")"]="( "++a++" "++w++" "++b++" )":=by apply z4d;rw[z28,z1a,z1a,z1a,z1a,z1a,z1a];show[40]++([32]++a.cps.toList++([32]++w.cps.toList++([32]++b.cps.toList++([32]++[41]++[]))))=[40,32]++a.cps.toList++[32]++w.cps.toList++[32]++b.cps.toList++[32,41];simp
theorem z6f:∀(ss:List Str),allS (ss.map .str)=some ss
 | []=>rfl
 |b::bs=>by rw[az];show(allS (bs.map .str)).map (b:: ·)=_;rw[z6f bs];rfl
theorem z1u {z:Str}{ss:List Str}(h:z20 z ss<=LIM):mtD "join" (.str z) [.list (ss.map .str)]=.ok (.str (z0o z ss)):=by
 show(match allS (ss.map .str)with|some ss=>if z20 z ss<=LIM then Res.ok (PyData.str (z0o z ss))else .no|none=>.no)=_;rw[z6f]
 dsimp only
 rw[if_pos h]
inductive Tr where
 | at(n:Str) (k:Int)|is (n:Str)|un (w:Str) (t:Tr)|bi (w:Str) (a b:Tr)
def Tr.enc:Tr->D
 |.at n k=>.tuple [.str "at",.str n,.int k]
 |.is n=>.tuple [.str "is",.str n]
 |.un w t=>.tuple [.str w,t.enc]
 |.bi w a b=>.tuple [.str w,a.enc,b.enc]
def Tr.dep:Tr->Nat
 |.at _ _=>1
 |.is _=>1
 |.un _ t=>t.dep+1
 |.bi _ a b=>max a.dep b.dep+1
def Tr.txt:Tr->Str
 |.at n k=>if k=1 then n else z0o " " [n,">=",dec k]
 |.is n=>n
 |.un w t=>z0o " " [w,t.txt]
 |.bi w a b=>z0o " " ["(",a.txt,w,b.txt,")"]
def unW:List Str:=["not","some","all"]
def biW:List Str:=["and","or"]
def Tr.wf:Tr->Prop
 |.at n k=>n.length<=14/\1<=k/\k<=1000000000000000000000000000000
 |.is n=>n.length<=14
 |.un w t=>w∈unW/\t.wf
 |.bi w a b=>w∈biW/\a.wf/\b.wf
theorem z0k:∀t:Tr,imm t.enc=true
 |.at _ _=>rfl
 |.is _=>rfl
 |.un w t=>by show(true&&(imm t.enc&&true))=true;rw[z0k t];rfl
 |.bi w a b=>by show(true&&(imm a.enc&&(imm b.enc&&true)))=true;rw[z0k a,z0k b];rfl
theorem z5a:∀w∈unW,w.length<=4:=by decide+kernel
theorem z5i:∀w∈biW,w.length<=3:=by decide+kernel
theorem z3e:∀t:Tr,t.wf->t.txt.length+10<=60*2 ^ t.dep
 |.at n k,h=>by
  have h1:n.length<=14:=h.1;show(if k=1 then n else z0o " " [n,">=",dec k]).length+10<=60*2 ^ 1;split
  ·omega
  ·rw[j3,z09,z09];have h2:(dec k).length<=40:=z5s (by have:=h.2.1;omega) (by have:=h.2.2;omega);have h3:(" >= ":Str).length=4:=rfl;omega
 |.is n,h=>by have h1:n.length<=14:=h;show n.length+10<=60*2 ^ 1;omega
 |.un w t,h=>by have h1:=z5a w h.1;have h2:=z3e t h.2;show(z0o " " [w,t.txt]).length+10<=60*2 ^ (t.dep+1);rw[j2,z09,z09,Nat.pow_succ];have h3:(" ":Str).length=1:=rfl;omega
 |.bi w a b,h=>by have h1:=z5i w h.1;have h2:=z3e a h.2.1;have h3:=z3e b h.2.2;have h4:2 ^ a.dep<=2 ^ max a.dep b.dep:=jc (by decide) (Nat.le_max_left _ _);have h5:2 ^ b.dep<=2 ^ max a.dep b.dep:=jc (by decide) (Nat.le_max_right _ _);show(z0o " " ["(",a.txt,w,b.txt,")"]).length+10<=60*2 ^ (max a.dep b.dep+1);rw[j5,z09,z09,z09,z09,z09,z09,Nat.pow_succ];have e1:("( ":Str).length=2:=rfl;have e2:(" ":Str).length=1:=rfl;have e3:(" )":Str).length=2:=rfl;omega
theorem z2e {t:Tr}(h:t.wf){L:Nat}(hd:t.dep<=L)(hL:L<=6):t.txt.length<=4000:=by have h1:=z3e t h;have h2:2 ^ t.dep<=2 ^ 6:=jc (by decide) (by omega);have h3:(2:Nat) ^ 6=64:=rfl;omega
theorem z11 {Κ:List D}{Φ:List Fn}{ρ:Rho}{t:C}{x y:Str}(h:Ev Κ Φ t ρ (.str x)):Tt Κ Φ (.tv (.cmp .Eq t (.str y))) ρ (decide (x=y)):=t_tv (z1m (k:=decide (x=y)) h z0h.e (by show Res.ok (x==y)=_;congr 1)).e rfl
theorem zi2 {k:Int}(h0:0<=k)(h:k<10 ^ 40):biD "str" [.int k]=.ok (.str (dec k)):=by show(if k.natAbs.log2<1920 then _ else _)=_;rw[if_pos (zdb h0 h)];rfl
theorem z53 {Κ:List D}{Φ:List Fn}{ρ:Rho}{t:C}{i j:Int}(h:Ev Κ Φ t ρ (.int i)):Tt Κ Φ (.tv (.cmp .Eq t (.int j))) ρ (decide (i=j)):=t_tv (z1m (k:=decide (i=j)) h z01.e (by show Res.ok (eqD (.int _) (.int _))=_;rw[z7b])).e rfl
theorem z97:∀w∈unW,w≠"is"/\w≠"at"/\w≠"and"/\w≠"or":=by decide+kernel
theorem z8r:∀w∈biW,w≠"is"/\w≠"at"/\(w="and"\/w="or"):=by decide+kernel
theorem e_sp:∀(L:Nat) (t:Tr),L<=6->t.wf->t.dep<=L->F_z0 L [t.enc]=.ok (.fr,.str t.txt)
 |0,t,_,_,hd=>by cases t<;>(simp only[Tr.dep]at hd;omega)
 |L+1,t,hL,hw,hd=>by
  have ih:=fun u h1 h2=>e_sp L u (by omega) h1 h2;rw[F_z0];refine z15 ?_;unfold S_z0;have big:∀n:Nat,n<=100000->n<=LIM:=fun n h=>by unfold LIM;omega
  cases t with
  | «at» n k=>
   have k1:1<=k:=hw.2.1;have k2:k<=1000000000000000000000000000000:=hw.2.2;have kd:k<10 ^ 40:=by omega
   have hn:n.length<=14:=hw.1;have dl:=z5s (show 0<=k by omega) kd;refine z0a (z0f (d:=.str "at") (v_ix (z00 rfl) z01.e rfl rfl)) (z0m (z11 (z00 rfl)) (by decide) (z14 (z11 (z00 rfl)) (by decide) (z0r (z0s ?_))));have jw:z20 " " [n,">=",dec k]<=LIM:=big _ (by show n.length+(2+((dec k).length+0))+3*1<=100000;omega);have vi:=zlp (k:=decide (k=1)) (x:=.str n) (y:=.str (z0o " " [n,">=",dec k])) (z53 (Κ:=[]) (Φ:=[F_z0 L]) (ρ:=[some (.od,Tr.enc (.at n k)),some (.al,.str "at")]) (j:=1) (v_ix (a:=.var 0) (b:=.int 2) (d:=.int k) (z00 rfl) z01.e rfl rfl).e) (fun _=>v_ix (a:=.var 0) (b:=.int 1) (z00 rfl) z01.e rfl rfl) (fun _=>v_mt (m:="join") (o:=.str " ") (args:=.cons (.lst (.cons (.ix (.var 0) (.int 1)) (.cons (.str ">=") (.cons (.bi "str" (.cons (.ix (.var 0) (.int 2)) .nil)) .nil)))) .nil) z0h.e (z03 (Ev.of (z1g (ds:=[n,">=",dec k].map .str) (z02 (v_ix (z00 rfl) z01.e rfl rfl) (z02 z0h (z02 (v_bi (z03 (v_ix (d:=.int k) (z00 rfl) z01.e rfl rfl).e z0d) (zi2 (by omega) kd) rfl) z0j))))) z0d) (z1u jw) rfl)
   have e9:(if decide (k=1)=true then PyData.str n else .str (z0o " " [n,">=",dec k]))=.str (Tr.txt (.at n k)):=by
    show _=PyData.str (if k=1 then n else z0o " " [n,">=",dec k]);by_cases hk:k=1
    ·rw[if_pos hk,nz hk];rfl
    ·rw[if_neg hk,n5 hk];rfl
   rw[e9]at vi;exact vi
  |is n=>exact z0a (z0f (d:=.str "is") (v_ix (z00 rfl) z01.e rfl rfl)) (z14 (z11 (z00 rfl)) (by decide) (z0r (z0s (v_ix (z00 rfl) z01.e rfl rfl))))
  |un w t=>
   have hd':t.dep<=L:=by simp only[Tr.dep]at hd;omega
   have et:=ih t hw.2 hd';obtain⟨n1,n2,n3,n4⟩:=z97 w hw.1;have wl:=z5a w hw.1;have tl:=z2e hw.2 hd' (by omega);have jw:z20 " " [w,t.txt]<=LIM:=big _ (by show w.length+(t.txt.length+0)+2*1<=100000;omega);have tn:Tt [] [F_z0 L] (.tv (.cmp .In (.var 1) (.tup (.cons (.str "and") (.cons (.str "or") .nil))))) [some (.od,Tr.enc (.un w t)),some (.al,.str w)] false:=t_tv (z1m (k:=false) (z00 rfl) (z2t (z02 z0h (z02 z0h z0j))).e (by show Res.ok (("and":Str)==w||(("or":Str)==w||false))=_;rw[beq_false_of_ne (Ne.symm n3),beq_false_of_ne (Ne.symm n4)];rfl)).e rfl;refine z0a (z0f (d:=.str w) (v_ix (z00 rfl) z01.e rfl rfl)) (z0m (z11 (z00 rfl)) (n5 n1) (z0m (z11 (z00 rfl)) (n5 n2) (z0m tn rfl (z0r (z0s ?_)))));exact v_mt z0h.e (z03 (Ev.of (z1g (ds:=[w,t.txt].map .str) (z02 (v_var rfl rfl) (z02 (z0y (z03 (v_ix (d:=t.enc) (z00 rfl) z01.e rfl (z0k t)).e z0d) rfl et rfl) z0j)))) z0d) (z1u jw) rfl
  |bi w a b=>
   have ha:a.dep<=L:=by simp only[Tr.dep]at hd;omega
   have hb:b.dep<=L:=by simp only[Tr.dep]at hd;omega
   have ea:=ih a hw.2.1 ha;have eb:=ih b hw.2.2 hb;obtain⟨n1,n2,n3⟩:=z8r w hw.1;have wl:=z5i w hw.1;have al:=z2e hw.2.1 ha (by omega);have bl:=z2e hw.2.2 hb (by omega);have jw:z20 " " ["(",a.txt,w,b.txt,")"]<=LIM:=big _ (by show 1+(a.txt.length+(w.length+(b.txt.length+(1+0))))+5*1<=100000;omega);have tn:Tt [] [F_z0 L] (.tv (.cmp .In (.var 1) (.tup (.cons (.str "and") (.cons (.str "or") .nil))))) [some (.od,Tr.enc (.bi w a b)),some (.al,.str w)] true:=t_tv (z1m (k:=true) (z00 rfl) (z2t (z02 z0h (z02 z0h z0j))).e (by show Res.ok (("and":Str)==w||(("or":Str)==w||false))=_;rcases n3 with rfl|rfl<;>rfl)).e rfl;refine z0a (z0f (d:=.str w) (v_ix (z00 rfl) z01.e rfl rfl)) (z0m (z11 (z00 rfl)) (n5 n1) (z0m (z11 (z00 rfl)) (n5 n2) (z14 tn rfl (z0r (z0s ?_)))));exact v_mt z0h.e (z03 (Ev.of (z1g (ds:=(["(",a.txt,w,b.txt,")"]:List Str).map .str) (z02 z0h (z02 (z0y (z03 (v_ix (d:=a.enc) (z00 rfl) z01.e rfl (z0k a)).e z0d) rfl ea rfl) (z02 (v_var rfl rfl) (z02 (z0y (z03 (v_ix (d:=b.enc) (z00 rfl) z01.e rfl (z0k b)).e z0d) rfl eb rfl) (z02 z0h z0j))))))) z0d) (z1u jw) rfl
theorem zcr {a b:Str}(h:a.length+b.length<=100000):binD .Add (.str a) (.str b)=.ok (.str (a++b)):=by show(if a.length+b.length<=LIM then _ else _)=_;rw[if_pos (by unfold LIM;omega)]
theorem v_add {Κ:List D}{Φ:List Fn}{ρ:Rho}{s t:C}{a b:Str}(ha:Ev Κ Φ s ρ (.str a))(hb:Ev Κ Φ t ρ (.str b))(h:a.length+b.length<=100000):Vv Κ Φ (.bin .Add s t) ρ (.str (a++b)):=z08 ha hb (zcr h) rfl
theorem e_wr:∀(L:Nat) (t:Tr),L<=6->t.wf->t.dep<=L->z16 L [t.enc]=.ok (.fr,.str t.txt)
 |0,t,_,_,hd=>by cases t<;>(simp only[Tr.dep]at hd;omega)
 |L+1,t,hL,hw,hd=>by
  have ih:=fun u h1 h2=>e_wr L u (by omega) h1 h2;rw[z16];refine z15 ?_;unfold z4i;have sp:(" ":Str).length=1:=rfl;cases t with
  | «at» n k=>
   have k1:1<=k:=hw.2.1;have k2:k<=1000000000000000000000000000000:=hw.2.2;have kd:k<10 ^ 40:=by omega
   have hn:n.length<=14:=hw.1;have dl:=z5s (show 0<=k by omega) kd;have ge:(" >= ":Str).length=4:=rfl;have t0:Tt [] [z16 L] (.tv (.cmp .Eq (.ix (.var 0) (.int 0)) (.str "at"))) [some (.od,Tr.enc (.at n k)),none] true:=z11 (x:="at") (v_ix (z00 rfl) z01.e rfl rfl).e;have t1:Tt [] [z16 L] (.and (.tv (.cmp .Eq (.ix (.var 0) (.int 0)) (.str "at"))) (.tv (.cmp .Gt (.ix (.var 0) (.int 2)) (.int 1)))) [some (.od,Tr.enc (.at n k)),none] (true&&decide (1<k)):=z5h t0 fun _=>t_tv (z1m (v_ix (d:=.int k) (z00 rfl) z01.e rfl rfl).e z01.e rfl).e rfl;by_cases hk:k=1
   ·rw[show Tr.txt (.at n k)=n from if_pos hk];refine z0m t1 (by rw[n5 (by omega)];rfl) (z14 (t_or t0 fun z=>by cases z) (k:=true||false) rfl (z0r (z0s (v_ix (z00 rfl) z01.e rfl rfl))))
   ·rw[show Tr.txt (.at n k)=n++" >= "++dec k from(if_neg hk).trans (j3 n (dec k))];refine z14 t1 (by rw[nz (by omega)];rfl) (z0r (z0s (v_add (v_add (v_ix (z00 rfl) z01.e rfl rfl).e z0h.e (by omega)).e (v_bi (z03 (v_ix (d:=.int k) (z00 rfl) z01.e rfl rfl).e z0d) (zi2 (by omega) kd) rfl).e (by rw[z09];omega))))
  |is n=>have t0:Tt [] [z16 L] (.tv (.cmp .Eq (.ix (.var 0) (.int 0)) (.str "at"))) [some (.od,Tr.enc (.is n)),none] false:=z11 (x:="is") (v_ix (z00 rfl) z01.e rfl rfl).e;have t2:Tt [] [z16 L] (.tv (.cmp .Eq (.ix (.var 0) (.int 0)) (.str "is"))) [some (.od,Tr.enc (.is n)),none] true:=z11 (x:="is") (v_ix (z00 rfl) z01.e rfl rfl).e;exact z0m (k:=false&&false) (z5h t0 fun z=>by cases z) rfl (z14 (k:=false||true) (t_or t0 fun _=>t2) rfl (z0r (z0s (v_ix (z00 rfl) z01.e rfl rfl))))
  |un w t=>
   have hd':t.dep<=L:=by simp only[Tr.dep]at hd;omega
   have et:=ih t hw.2 hd';obtain⟨n1,n2,n3,n4⟩:=z97 w hw.1;have wl:=z5a w hw.1;have tl:=z2e hw.2 hd' (by omega);have t0:Tt [] [z16 L] (.tv (.cmp .Eq (.ix (.var 0) (.int 0)) (.str "at"))) [some (.od,Tr.enc (.un w t)),none] (decide (w="at")):=z11 (v_ix (z00 rfl) z01.e rfl rfl).e;have t2:Tt [] [z16 L] (.tv (.cmp .Eq (.ix (.var 0) (.int 0)) (.str "is"))) [some (.od,Tr.enc (.un w t)),none] (decide (w="is")):=z11 (v_ix (z00 rfl) z01.e rfl rfl).e;rw[n5 n2]at t0;rw[n5 n1]at t2;rw[show Tr.txt (.un w t)=w++" "++t.txt from j2 w t.txt];refine z0m (k:=false&&false) (z5h t0 fun z=>by cases z) rfl (z0m (k:=false||false) (t_or t0 fun _=>t2) rfl (z14 (k:=true) (z53 (i:=2) (v_bi (d:=.int 2) (z03 (z00 rfl) z0d) rfl rfl).e) rfl (z0r (z0s ?_))));exact v_add (v_add (v_ix (d:=.str w) (z00 rfl) z01.e rfl rfl).e z0h.e (by omega)).e (z0y (z03 (v_ix (d:=t.enc) (z00 rfl) z01.e rfl (z0k t)).e z0d) rfl et rfl).e (by rw[z09];omega)
  |bi w a b=>
   have ha:a.dep<=L:=by simp only[Tr.dep]at hd;omega
   have hb:b.dep<=L:=by simp only[Tr.dep]at hd;omega
   have ea:=ih a hw.2.1 ha;have eb:=ih b hw.2.2 hb;obtain⟨n1,n2,n3⟩:=z8r w hw.1;have wl:=z5i w hw.1;have al:=z2e hw.2.1 ha (by omega);have bl:=z2e hw.2.2 hb (by omega);have l1:("( ":Str).length=2:=rfl;have l2:(" )":Str).length=2:=rfl;have t0:Tt [] [z16 L] (.tv (.cmp .Eq (.ix (.var 0) (.int 0)) (.str "at"))) [some (.od,Tr.enc (.bi w a b)),none] (decide (w="at")):=z11 (v_ix (z00 rfl) z01.e rfl rfl).e;have t2:Tt [] [z16 L] (.tv (.cmp .Eq (.ix (.var 0) (.int 0)) (.str "is"))) [some (.od,Tr.enc (.bi w a b)),none] (decide (w="is")):=z11 (v_ix (z00 rfl) z01.e rfl rfl).e;rw[n5 n2]at t0;rw[n5 n1]at t2;rw[show Tr.txt (.bi w a b)="( "++a.txt++" "++w++" "++b.txt++" )"from j5 a.txt w b.txt];refine z0m (k:=false&&false) (z5h t0 fun z=>by cases z) rfl (z0m (k:=false||false) (t_or t0 fun _=>t2) rfl (z0m (k:=false) (z53 (i:=3) (v_bi (d:=.int 3) (z03 (z00 rfl) z0d) rfl rfl).e) rfl (z0a (z0f (z0y (z03 (v_ix (d:=b.enc) (z00 rfl) z01.e rfl (z0k b)).e z0d) rfl eb rfl)) (z0r (z0s ?_)))));exact v_add (v_add (v_add (v_add (v_add (v_add z0h.e (z0y (z03 (v_ix (d:=a.enc) (z00 rfl) z01.e rfl (z0k a)).e z0d) rfl ea rfl).e (by omega)).e z0h.e (by rw[z09];omega)).e (v_ix (d:=.str w) (z00 rfl) z01.e rfl rfl).e (by rw[z09,z09];omega)).e z0h.e (by rw[z09,z09,z09];omega)).e (z00 rfl) (by rw[z09,z09,z09,z09];omega)).e z0h.e (by rw[z09,z09,z09,z09,z09];omega)
inductive Rw where
 |fact (n:Str)|opn (n:Str) (ws vs:List Str)|row (w n:Str) (t:Tr)
def Rw.enc:Rw->D
 |.fact n=>.tuple [.str "fact",.str n]
 |.opn n ws vs=>.tuple [.str "open",.str n,.tuple (ws.map .str),.tuple (vs.map .str)]
 |.row w n t=>.tuple [.str w,.str n,t.enc]
def rwW:List Str:=["word","claim"]
def SW (ws:List Str):Prop:=ws.length<=6/\∀w∈ws,w.length<=14
def Rw.wf:Rw->Prop
 |.fact n=>n.length<=14
 |.opn n ws vs=>n.length<=14/\SW ws/\SW vs
 |.row w n t=>w∈rwW/\n.length<=14/\t.wf/\t.dep<=6
def Rw.txt:Rw->Str
 |.fact n=>z0o " " ["fact",n]
 |.opn n ws vs=>z0o " " ((["open",n,"for"]:List Str)++ws++(["against"]:List Str)++vs)
 |.row w n t=>z0o " " [w,n,"if",t.txt]
theorem z6e:∀r:Rw,imm r.enc=true
 |.fact _=>rfl
 |.opn n ws vs=>by show(true&&(true&&(imms (ws.map .str)&&(imms (vs.map .str)&&true))))=true;rw[z0b,z0b];rfl
 |.row w n t=>by show(true&&(true&&(imm t.enc&&true)))=true;rw[z0k t];rfl
theorem z5g:∀w∈rwW,w.length<=5/\w≠"fact"/\w≠"open":=by decide+kernel
theorem z60 {n k:Nat}:∀{ws:List Str},(∀w∈ws,w.length<=k)->ws.length<=n->(ws.map (·.length)).sum<=n*k
 | [],_,_=>by simp
 |w::ws,h,hl=>by
  cases n with
  |zero=>simp at hl
  |succ n=>have h1:=z60 (n:=n) (fun v hv=>h v (ak _ hv)) (by simpa using hl);have h2:=h w af;rw[az,i8,mv];omega
theorem z3n (z:Str):∀ss:List Str,(z0o z ss).length<=z20 z ss
 | []=>df _
 |x::r=>by
  rw[zar,z28]
  have key:∀r:List Str,((r.map fun p=>z.cps.toList++p.cps.toList).flatten).length=(r.map (·.length)).sum+r.length*z.length:=fun r=>by
   induction r with
   |nil=>simp
   |cons y r ih=>rw[az,gm,ac,ih,ac,<-zar,<-zar,az,i8,aj,mv];omega
  show(x.cps.toList++(r.map fun p=>z.cps.toList++p.cps.toList).flatten).length<=((x::r).map (·.length)).sum+(x::r).length*z.length;rw[ac,key,<-zar,az,i8,aj,mv];omega
theorem zir {n:Str}{ws vs:List Str}(h:n.length<=14/\SW ws/\SW vs):z20 " " ((["open",n,"for"]:List Str)++ws++(["against"]:List Str)++vs)<=400:=by have h1:=z60 h.2.1.2 h.2.1.1;have h2:=z60 h.2.2.2 h.2.2.1;have h3:=h.2.1.1;have h4:=h.2.2.1;unfold z20;simp only[cg,List.sum_append,ac,az,ki,i8,List.sum_nil,aj,eu];have e1:("open":Str).length=4:=rfl;have e2:("for":Str).length=3:=rfl;have e3:("against":Str).length=7:=rfl;have e4:(" ":Str).length=1:=rfl;rw[e1,e2,e3,e4];have:=h.1;omega
theorem zil {w n:Str}{t:Tr}(h:w∈rwW/\n.length<=14/\t.wf/\t.dep<=6):z20 " " [w,n,"if",t.txt]<=4100:=by have h1:=(z5g w h.1).1;have h2:=z2e h.2.2.1 h.2.2.2 (ae 6);have h3:=h.2.1;show w.length+(n.length+(2+(t.txt.length+0)))+4*1<=4100;omega
theorem zac {r:Rw}(h:r.wf):r.txt.length<=4100:=by
 cases r with
 |fact n=>have h:n.length<=14:=h;refine bq (z3n " " ["fact",n]) ?_;show 4+(n.length+0)+2*1<=4100;omega
 |opn n ws vs=>exact bq (z3n _ _) (bq (zir h) (by decide))
 |row w n t=>exact bq (z3n _ _) (zil h)
theorem lim {n m:Nat}(h:n<=m)(hm:m<=100000):n<=LIM:=by unfold LIM;omega
theorem zki {r:Rw}(h:r.wf):F_z2 [r.enc]=.ok (.fr,.str r.txt):=by
 unfold F_z2;refine z15 ?_;unfold S_z2;have fin:∀{x:Option GD} {ss:List Str},z20 " " ss<=LIM->evS [] [F_z0 6] (.seq (.ret (.mt "join" (.str " ") (.cons (.var 1) .nil))) .nil) [x,some (.fr,.list (ss.map .str))]=.ok (.rt .fr (.str (z0o " " ss))):=fun hw=>z0r (z0s (v_mt z0h.e (z03 (z00 rfl) z0d) (z1u hw) rfl));cases r with
 |fact n=>have hn:n.length<=14:=h;refine z0a (z18 (k:=true) (z11 (x:="fact") (v_ix (z00 rfl) z01.e rfl rfl).e) (fun _=>z0a (z0w (z1g (ds:=(["fact",n]:List Str).map .str) (z02 z0h (z02 (v_ix (z00 rfl) z01.e rfl rfl) z0j))) (z0b _)) z0i) (fun z=>by cases z)) (fin (lim (m:=100) (by show 4+(n.length+0)+2*1<=100;omega) (by decide)))
 |opn n ws vs=>
  have hw:=zir h;have h3:=h.2.1.1;have h4:=h.2.2.1;have l1:evE [] [F_z0 6] (.agg "list" (.tv (.ix (.var 0) (.int 2)))) [some (.od,Rw.enc (.opn n ws vs)),none]=.ok (.fr,.list (ws.map .str)):=zeo (v_ix (d:=.tuple (ws.map .str)) (z00 rfl) z01.e rfl (z0b ws)).e rfl (z3m _ _) (z0b ws);have l2:evE [] [F_z0 6] (.agg "list" (.tv (.ix (.var 0) (.int 3)))) [some (.od,Rw.enc (.opn n ws vs)),none]=.ok (.fr,.list (vs.map .str)):=zeo (v_ix (d:=.tuple (vs.map .str)) (z00 rfl) z01.e rfl (z0b vs)).e rfl (z3m _ _) (z0b vs);have l0:evE [] [F_z0 6] (.lst (.cons (.str "open") (.cons (.ix (.var 0) (.int 1)) (.cons (.str "for") .nil)))) [some (.od,Rw.enc (.opn n ws vs)),none]=.ok (.fr,.list ((["open",n,"for"]:List Str).map .str)):=z1g (z02 z0h (z02 (v_ix (z00 rfl) z01.e rfl rfl) (z02 z0h z0j)));have a1:binD .Add (.list ((["open",n,"for"]:List Str).map .str)) (.list (ws.map .str))=.ok (.list (((["open",n,"for"]:List Str)++ws).map .str)):=by rw[add_list (by simp only[ag,aj,eu];omega),<-cg]
  have a2:binD .Add (.list (((["open",n,"for"]:List Str)++ws).map .str)) (.list [.str "against"])=.ok (.list (((["open",n,"for"]:List Str)++ws++(["against"]:List Str)).map .str)):=by rw[add_list (by simp only[ag,ac,aj,eu];omega),cg (l₁:=(["open",n,"for"]:List Str)++ws)];rfl
  have a3:binD .Add (.list (((["open",n,"for"]:List Str)++ws++(["against"]:List Str)).map .str)) (.list (vs.map .str))=.ok (.list (((["open",n,"for"]:List Str)++ws++(["against"]:List Str)++vs).map .str)):=by rw[add_list (by simp only[ag,ac,aj,eu];omega),<-cg]
  refine z0a (z18 (k:=false) (z11 (x:="open") (v_ix (z00 rfl) z01.e rfl rfl).e) (fun z=>by cases z) (fun _=>z0a (z18 (k:=true) (z11 (x:="open") (v_ix (z00 rfl) z01.e rfl rfl).e) (fun _=>z0a (z0w (z7c (Ev.of (z7c (Ev.of (z7c (Ev.of l0) (Ev.of l1) a1 (z0b _))) (Ev.of (z1g (z02 z0h z0j))) a2 (z0b _))) (Ev.of l2) a3 (z0b _)) (z0b _)) z0i) (fun z=>by cases z)) z0i)) (fin (lim hw (by decide)))
 |row w n t=>obtain⟨wl,w1,w2⟩:=z5g w h.1;refine z0a (z18 (k:=decide (w="fact")) (z11 (v_ix (z00 rfl) z01.e rfl rfl).e) (fun z=>absurd (ny z) w1) (fun _=>z0a (z18 (k:=decide (w="open")) (z11 (v_ix (z00 rfl) z01.e rfl rfl).e) (fun z=>absurd (ny z) w2) (fun _=>z0a (z0w (z1g (ds:=([w,n,"if",t.txt]:List Str).map .str) (z02 (v_ix (z00 rfl) z01.e rfl rfl) (z02 (v_ix (z00 rfl) z01.e rfl rfl) (z02 z0h (z02 (z0y (z03 (v_ix (d:=t.enc) (z00 rfl) z01.e rfl (z0k t)).e z0d) rfl (e_sp 6 t (ae 6) h.2.2.1 h.2.2.2) rfl) z0j))))) (z0b _)) z0i)) z0i)) (fin (lim (zil h) (by decide)))
theorem join_snoc (l:List Str)(w:Str)(h:l≠[]):z0o " " (l++[w])=z0o " " l++" "++w:=by
 cases l with
 |nil=>exact absurd rfl h
 |cons x r=>apply z4d;rw[z1a,z1a,z28,z28];show x.cps.toList++((r++[w]).map fun p=>[32]++p.cps.toList).flatten=x.cps.toList++(r.map fun p=>[32]++p.cps.toList).flatten++[32]++w.cps.toList;simp
def addW (s:Str)(ws:List Str):Str:=ws.foldl (fun s w=>s++" "++w) s
theorem z2s:∀(ws l:List Str),l≠[]->addW (z0o " " l) ws=z0o " " (l++ws)
 | [],l,_=>by rw[dg];rfl
 |w::ws,l,h=>by show addW (z0o " " l++" "++w) ws=_;rw[<-join_snoc l w h,z2s ws (l++[w]) (by simp),iu];rfl
theorem z3p:∀(ws:List Str) (s:Str),(∀w∈ws,w.length<=14)->(addW s ws).length<=s.length+15*ws.length
 | [],s,_=>by simp[addW]
 |w::ws,s,h=>by have h1:=z3p ws (s++" "++w) fun v hv=>h v (ak _ hv);have h2:=h w af;rw[z09,z09]at h1;have e:(" ":Str).length=1:=rfl;show(addW (s++" "++w) ws).length<=_;rw[aj];omega
theorem zct (n:Str)(ws vs:List Str):addW (addW ("open "++n++" for") ws++" against") vs=z0o " " ((["open",n,"for"]:List Str)++ws++(["against"]:List Str)++vs):=by
 have e1:"open "++n++" for"=z0o " " (["open",n,"for"]:List Str):=by apply z4d;rw[z1a,z1a,z28];show[111,112,101,110,32]++n.cps.toList++[32,102,111,114]=[111,112,101,110]++([32]++n.cps.toList++([32]++[102,111,114]++[]));simp
 have e2:∀s:Str,s++" against"=s++" "++"against":=fun s=>by apply z4d;rw[z1a,z1a,z1a,iu];rfl
 rw[e1,z2s ws _ (by simp),e2,<-join_snoc _ "against" (by simp),z2s vs _ (by simp)]
theorem zht {r:Rw}(h:r.wf):z81 [r.enc]=.ok (.fr,.str r.txt):=by
 unfold z81;refine z15 ?_;unfold zfa;have sp:(" ":Str).length=1:=rfl;cases r with
 |fact n=>
  have hn:n.length<=14:=h;have e1:Rw.txt (.fact n)="fact "++n:=by apply z4d;rw[z1a];show(z0o " " ["fact",n]).cps.toList=_;rw[z28];show[102,97,99,116]++([32]++n.cps.toList++[])=[102,97,99,116,32]++n.cps.toList;simp
  rw[e1];exact z14 (k:=true) (z11 (x:="fact") (v_ix (z00 rfl) z01.e rfl rfl).e) rfl (z0r (z0s (v_add z0h.e (v_ix (z00 rfl) z01.e rfl rfl).e (by have:("fact ":Str).length=5:=rfl;omega))))
 |opn n ws vs=>
  rw[show Rw.txt (.opn n ws vs)=_ from(zct n ws vs).symm];have hn:n.length<=14:=h.1;have h3:=h.2.1.1;have h4:=h.2.2.1;have o1:("open ":Str).length=5:=rfl;have o2:(" for":Str).length=4:=rfl;have o3:(" against":Str).length=8:=rfl
  let Q:Res Out->Prop:=fun z=>z=.ok (.rt .fr (.str (addW (addW ("open "++n++" for") ws++" against") vs)))
  show Q _;have l0:("open "++n++" for").length<=30:=by rw[z09,z09];omega
  refine zde (k:=false) (z11 (x:="open") (v_ix (z00 rfl) z01.e rfl rfl).e) rfl ?_
  have walk:∀{s:Str} {rest:S} {k:Int} {us:List Str} {u:Option GD},s.length<=300->us.length<=6->(∀w∈us,w.length<=14)->Vv [] [z16 6] (.ix (.var 0) (.int k)) [some (.od,Rw.enc (.opn n ws vs)),some (.al,.str s),u] (.tuple (us.map .str))->(∀u,Q (evS [] [z16 6] rest [some (.od,Rw.enc (.opn n ws vs)),some (.al,.str (addW s us)),u]))->Q (evS [] [z16 6] (.seq (.for_ (.nm 2) (.tv (.ix (.var 0) (.int k))) (.seq (.asg (.nm 1) (.bin .Add (.bin .Add (.var 1) (.str " ")) (.var 2))) .nil)) rest) [some (.od,Rw.enc (.opn n ws vs)),some (.al,.str s),u]):=fun{s rest k us u} hs hu hw hv hr=>by
   refine zdj (m:=PyData.str) (xs:=us) (zic (fun i z=>by cases z) hv.1 rfl) (fun pre ρ=>∃u,ρ=[some (.od,Rw.enc (.opn n ws vs)),some (.al,.str (addW s pre)),u]) ⟨u,rfl⟩ ?_ ?_
   ·rintro pre x post ρ hx ⟨u,rfl⟩
    have hl:=congrArg f9 hx;rw[ac,aj]at hl;have h1:=z3p pre s fun w hw'=>hw w (by rw[hx];exact di _ hw');have h2:=hw x (by rw[hx];exact ar _ af);refine⟨[some (.od,Rw.enc (.opn n ws vs)),some (.al,.str (addW s pre++" "++x)),some (.al,.str x)],z0a (z0f (v_add (v_add (z00 rfl) z0h.e (by omega)).e (z00 rfl) (by rw[z09];omega))) z0i,some (.al,.str x),?_⟩;rw[show addW s (pre++[x])=addW s pre++" "++x from List.foldl_append]
   ·rintro ρ ⟨u,rfl⟩
    exact hr u
  have l1:=z3p ws ("open "++n++" for") h.2.1.2;have e9:evS [] [z16 6] (.seq (.asg (.nm 1) (.bin .Add (.bin .Add (.str "open ") (.ix (.var 0) (.int 1))) (.str " for"))) (.seq (.for_ (.nm 2) (.tv (.ix (.var 0) (.int 2))) (.seq (.asg (.nm 1) (.bin .Add (.bin .Add (.var 1) (.str " ")) (.var 2))) .nil)) (.seq (.asg (.nm 1) (.bin .Add (.var 1) (.str " against"))) (.seq (.for_ (.nm 2) (.tv (.ix (.var 0) (.int 3))) (.seq (.asg (.nm 1) (.bin .Add (.bin .Add (.var 1) (.str " ")) (.var 2))) .nil)) (.seq (.ret (.var 1)) .nil))))) [some (.od,Rw.enc (.opn n ws vs)),none,none]=.ok (.rt .fr (.str (addW (addW ("open "++n++" for") ws++" against") vs))):=by show Q _;refine q_ok (z0f (v_add (v_add z0h.e (v_ix (d:=.str n) (z00 rfl) z01.e rfl rfl).e (by omega)).e z0h.e (by rw[z09];omega))) ?_;refine walk (by omega) h3 h.2.1.2 (v_ix (z00 rfl) z01.e rfl (z0b ws)) fun u=>?_;refine q_ok (z0f (v_add (z00 rfl) z0h.e (by omega))) ?_;refine walk (by rw[z09];omega) h4 h.2.2.2 (v_ix (z00 rfl) z01.e rfl (z0b vs)) fun u=>?_;exact q_rt (z0s (v_var rfl rfl)) rfl
  exact z14 (k:=true) (z11 (x:="open") (v_ix (z00 rfl) z01.e rfl rfl).e) rfl e9
 |row w n t=>
  obtain⟨wl,w1,w2⟩:=z5g w h.1;have hn:=h.2.1;have tl:=z2e h.2.2.1 h.2.2.2 (ae 6);have o1:(" if ":Str).length=4:=rfl;have e1:Rw.txt (.row w n t)=w++" "++n++" if "++t.txt:=by apply z4d;rw[z1a,z1a,z1a,z1a];show(z0o " " [w,n,"if",t.txt]).cps.toList=_;rw[z28];show w.cps.toList++([32]++n.cps.toList++([32]++[105,102]++([32]++t.txt.cps.toList++[])))=w.cps.toList++[32]++n.cps.toList++[32,105,102,32]++t.txt.cps.toList;simp
  rw[e1];refine z0m (k:=decide (w="fact")) (z11 (v_ix (z00 rfl) z01.e rfl rfl).e) (n5 w1) (z0m (k:=decide (w="open")) (z11 (v_ix (z00 rfl) z01.e rfl rfl).e) (n5 w2) (z0r (z0s ?_)));exact v_add (v_add (v_add (v_add (v_ix (d:=.str w) (z00 rfl) z01.e rfl rfl).e z0h.e (by omega)).e (v_ix (d:=.str n) (z00 rfl) z01.e rfl rfl).e (by rw[z09];omega)).e z0h.e (by rw[z09,z09];omega)).e (z0y (z03 (v_ix (d:=t.enc) (z00 rfl) z01.e rfl (z0k t)).e z0d) rfl (e_wr 6 t (ae 6) h.2.2.1 h.2.2.2) rfl).e (by rw[z09,z09,z09];omega)
theorem z56 {a b:Int}(h:0<b)(h2:b<2 ^ 200):binD .FloorDiv (.int a) (.int b)=.ok (.int (a/b)):=by show(if _ then _ else _)=_;rw[if_pos ⟨h,h2⟩]
theorem z9v (cs:List Int):biD "len" [.list (cs.map .int)]=.ok (.int (cs.length:Int)):=by show Res.ok (PyData.int ((cs.map PyData.int).length:Int))=_;rw[ag]
theorem zej {α β:Type}(f:α->β)(xs:List α)(i j:Option Int):cut (xs.map f) i j=(cut xs i j).map f:=by unfold cut;rw[ag,List.map_take,List.map_drop]
theorem z7o {j:Nat}{d:D}{g:G}{ρ:Rho}(hi:imm d=true):z0x (.nm j) (gJ d g,d) ρ=.ok (ρ.set j (some (.al,d))):=by rw[z2d hi];rfl
theorem zc2 {β:Type}{m:β->D}(h:∀x,imm (m x)=true)(xs:List β):imms (xs.map m)=true:=z1s.mpr fun x hx=>by obtain⟨p,_,rfl⟩:=bt.mp hx;exact h p
theorem z5x {d:D}(h:imm d=true):z07 (some (.al,d))=some (.al,d):=by show(if imm d=true then some (G.al,d)else none)=_;rw[if_pos h]
def gnb (w:Str):Bool:=([.str "and",.str "or",.str "not",.str "if",.str "is",.str "some",.str "all",.str "for",.str "against"]:List D).any fun y=>eqD y (.str w)
def gn (w:Str):Str:=if gnb w then w++"x"else w
theorem zh2 {w:Str}(h:w.length<=100):F_z5 [.str w]=.ok (.fr,.str (gn w)):=by
 unfold F_z5;refine z15 ?_;unfold S_z5;have hc:Tt [] [] (.tv (.cmp .In (.var 0) (.lst (.cons (.str "and") (.cons (.str "or") (.cons (.str "not") (.cons (.str "if") (.cons (.str "is") (.cons (.str "some") (.cons (.str "all") (.cons (.str "for") (.cons (.str "against") .nil)))))))))))) [some (.od,.str w)] (gnb w):=t_tv (z1m (z00 rfl) (Ev.of (z1g (by(repeat' first|exact zen|exact z58|exact ze4|exact z01|exact z0h|exact v_bl|exact zlc|exact z0j|exact z0d|exact z59|exact z4f|(apply z00;rfl)|(apply v_var;rfl;first|assumption|exact zc8 _|rfl)|apply z02|apply z03|apply z08|apply z1m|apply v_ix|apply v_bi|apply v_mt|apply zhy|apply zlu|apply z2t|apply z30|apply t_tv|apply zb7|apply Vv.e|exact zaj _ _|exact zl8 _ _|exact zjg _ _|assumption|exact zc8 _|rfl)))) rfl).e rfl;unfold gn;cases hk:gnb w with
 |true=>refine z14 hc hk (z0r (z0s (z08 (z00 rfl) z0h.e (add_str (by have:("x":Str).length=1:=rfl;omega)) rfl)))
 |false=>exact z0m hc hk (z0r (z0s (v_var rfl rfl)))
theorem zhg (w:Str):(gn w).length<=w.length+1:=by
 unfold gn;split
 ·rw[z09];exact ae _
 ·exact Nat.le_succ _
theorem z91:("abcdefghijklmnopqrstuvwxyz":Str).length=26:=rfl
theorem z9e:("bcdefghjklmnpqrstuvwxyz":Str).length=23:=rfl
def p1 (c:Nat):Bool:=decide (97<=c)&&decide (c<=122)
def p2 (c:Nat):Bool:=p1 c&& !(c==97)&& !(c==105)&& !(c==111)
def Ch (p:Nat->Bool)(w:Str):Prop:=∀c∈w.cps.toList,p c=true
theorem Ch.app {p:Nat->Bool}{a b:Str}(ha:Ch p a)(hb:Ch p b):Ch p (a++b):=fun c hc=>by
 have hc':c∈(a.cps++b.cps).toList:=hc;rw[ls]at hc';rcases bx.mp hc' with h|h
 ·exact ha c h
 ·exact hb c h
theorem Ch.sl {p:Nat->Bool}{a:Str}(ha:Ch p a)(i j:Option Int):Ch p (z13 a i j):=fun c hc=>by
 have hc':c∈cut a.cps.toList i j:=by have h0:c∈(cut a.cps.toList i j).toArray.toList:=hc;simpa using h0
 exact ha c (fj (fm hc'))
theorem Ch.chr {p:Nat->Bool}{z:Str}{i:Int}(h:Ch p z)(h0:0<=i)(h1:i<z.length):Ch p (Mk.chr z i):=fun c hc=>by have hc':c∈[z.cps.toList.getD i.toNat 0]:=hc;rw[cj.mp hc'];refine h _ (getD_mem h0 ?_);rw[cw];exact h1
theorem Ch.weak {p q:Nat->Bool}{z:Str}(h:Ch p z)(hq:∀c,p c=true->q c=true):Ch q z:=fun c hc=>hq c (h c hc)
theorem Ch.nil {p:Nat->Bool}:Ch p "":=fun c hc=>by have hc':c∈([]:List Nat):=hc;cases hc'
theorem Ch.join {p:Nat->Bool}{ss:List Str}(h:∀s∈ss,Ch p s):Ch p (z0o "" ss):=fun c hc=>by
 have hc':c∈(z3s ("":Str).cps.toList ss).toArray.toList:=hc;rw[lu]at hc';cases ss with
 |nil=>cases hc'
 |cons x r=>
  simp only[z3s,bx,i7,bt]at hc';rcases hc' with hc'|⟨l,⟨y,hy,rfl⟩,hc'⟩
  ·exact h x af c hc'
  ·rcases bx.mp hc' with hc'|hc'
   ·cases(show c∈([]:List Nat)from hc')
   ·exact h y (ak _ hy) c hc'
def kws:List Str:=["and","or","not","if","is","some","all","for","against"]
theorem z99 (z:Str){i:Int}(h:0<=i):(z13 z none (some i)).length+(z13 z (some i) none).length=z.length:=by
 have hn:z.cps.toList.length=z.length:=by simp[Str.length]
 have e:∀(a b:Option Int),(z13 z a b).length=(cut z.cps.toList a b).length:=fun a b=>by show((cut z.cps.toList a b).toArray).size=_;rw[ai]
 rw[e,e];unfold cut;rw[hn];simp only[Mi.sIx,if_neg (show ¬i<0 by omega),cx,c6,hn];omega
theorem z8w {β:Type}{Κ:List D}{Φ:List Fn}{ρ:Rho}{a b c:C}{m:β->D}{xs:List β}{i j:Option Int}(hm:∀x,imm (m x)=true)(ha:Ev Κ Φ a ρ (.list (xs.map m)))(hb:Oo Κ Φ b ρ i)(hc:Oo Κ Φ c ρ j):evE Κ Φ (.sl a b c) ρ=.ok (.fr,.list ((cut xs i j).map m)):=by
 obtain⟨g1,ha⟩:=ha;unfold Oo at hb hc;rw[E_sl,ha,Res.ok_bind,hb,Res.ok_bind,hc,Res.ok_bind]
 dsimp only
 rw[show slD (.list (xs.map m)) i j=.ok (.list (cut (xs.map m) i j))from rfl,Res.ok_bind,zej];show Res.ok (if imms ((cut xs i j).map m)=true then G.fr else _,_)=_;rw[if_pos (zc2 hm _)]
theorem zb5 (c:Int):∃n,0<=n/\F_z4 [.int c,.int 0]=.ok (.fr,.int n):=by refine⟨(c%1000000000000000+104729*0*0+11)*48271%2147483647,by omega,?_⟩;unfold F_z4;refine z15 ?_;unfold S_z4;exact z0r (z0s (z08 (z08 (z08 (z08 (z08 (z00 rfl) (z08 (d:=.int 1000000000000000) z01.e z01.e rfl rfl).e (z0v (by decide)) rfl).e (z08 (z08 z01.e (z00 rfl) (z4o (by decide)) rfl).e (z00 rfl) (z2z (by decide)) rfl).e rfl rfl).e z01.e rfl rfl).e z01.e (z2z (by decide)) rfl).e z01.e (z0v (by decide)) rfl))
def Ns (n:Nat)(ns:List Str):Prop:=ns.length=n/\∀w∈ns,w.length<=14
theorem z65 {c:Int}{u1 u2 u3 u7:Option GD}{stem:Str}{at':Int}{ss:List Str}(hs:stem.length<=10)(h0:0<=at')(hl:ss.length=23)(h1:∀s∈ss,s.length=1):
  ∃ns,Ns 27 ns/\evS [] [F_z5,F_z4] (.seq (.asg (.nm 8) (.comp 1 [4,5] ["_law_sign","_law_stem","_law_at"] (.nm 0) (.tv (.var 6)) .nil (.call 0 "_law_good_name" (.cons (.bin .Add (.bin .Add (.sl (.var 1) .nil (.tv (.var 2))) (.var 0)) (.sl (.var 1) (.tv (.var 2)) .nil)) .nil))))
 (.seq (.ret (.bin .Add (.var 8) (.comp 1 [] ["_law_name"] (.nm 0) (.tv (.sl (.var 8) .nil (.tv (.int 4)))) .nil (.bin .Add (.var 0) (.str "x")))))
 .nil)) [some (.od,.int c),u1,u2,u3,some (.al,.str stem),some (.al,.int at'),some (.fr,.list (ss.map .str)),u7,none]=.ok (.rt .fr (.list (ns.map .str))):=by
 have hc:=z99 stem h0
 let w:Str->Str:=fun s=>z13 stem none (some at')++s++z13 stem (some at') none
 have hw:∀s∈ss,(w s).length<=11:=fun s hs'=>by show(z13 stem none (some at')++s++z13 stem (some at') none).length<=11;rw[z09,z09,h1 s hs'];omega
 have ec:=z38 (Κ:=[]) (Φ:=[F_z5,F_z4]) (ρ:=[some (.od,.int c),u1,u2,u3,some (.al,.str stem),some (.al,.int at'),some (.fr,.list (ss.map .str)),u7,none]) (nt:=1) (js:=[4,5]) (N':=["_law_sign","_law_stem","_law_at"]) (tg:=.nm 0) (it:=.tv (.var 6)) (cond:=.nil) (elt:=.call 0 "_law_good_name" (.cons (.bin .Add (.bin .Add (.sl (.var 1) .nil (.tv (.var 2))) (.var 0)) (.sl (.var 1) (.tv (.var 2)) .nil)) .nil)) (m:=PyData.str) (xs:=ss) (w:=(.al,ss.map .str)) (fun _=>true) (fun s=>.str (gn (w s))) (w_tv (g:=.al) (x:=.list (ss.map .str)) rfl rfl) rfl (fun s=>[some (.al,.str s),some (.al,.str stem),some (.al,.int at')]) (fun s _=>rfl) (fun s _=>z59) (fun s hx _=>z0y (z03 (v_add (v_add (v_sl (z00 rfl) z4f (z30 (z00 rfl)) (z6b (by omega)) rfl).e (z00 rfl) (by have:=h1 s hx;omega)).e (v_sl (z00 rfl) (z30 (z00 rfl)) z4f (z6b (by omega)) rfl).e (by rw[z09];have:=h1 s hx;omega)).e z0d) rfl (zh2 (bq (hw s hx) (by decide))) rfl);rw[dt.mpr fun _ _=>rfl]at ec;have e8:(ss.map fun s=>PyData.str (gn (w s)))=(ss.map fun s=>gn (w s)).map .str:=by rw[fo];rfl
 rw[e8]at ec;have hn8:∀v∈ss.map (fun s=>gn (w s)),v.length<=12:=fun v hv=>by obtain⟨s,hs',rfl⟩:=bt.mp hv;have:=hw s hs';have:=zhg (w s);omega
 have hl8:(ss.map fun s=>gn (w s)).length=23:=by rw[ag];exact hl
 generalize (ss.map fun s=>gn (w s))=ns at ec hn8 hl8;have hcl:(cut ns none (some 4)).length=4:=by unfold cut;simp only[Mi.sIx,if_neg (show ¬(4:Int)<0 by omega),cx,c6,hl8];omega
 have hcm:∀v∈cut ns none (some 4),v∈ns:=fun v hv=>fj (fm hv);have ex:=z38 (Κ:=[]) (Φ:=[F_z5,F_z4]) (ρ:=[some (.od,.int c),u1,u2,u3,some (.al,.str stem),some (.al,.int at'),some (.fr,.list (ss.map .str)),u7,some (.fr,.list (ns.map .str))]) (nt:=1) (js:=[]) (N':=["_law_name"]) (tg:=.nm 0) (it:=.tv (.sl (.var 8) .nil (.tv (.int 4)))) (cond:=.nil) (elt:=.bin .Add (.var 0) (.str "x")) (m:=PyData.str) (xs:=cut ns none (some 4)) (fun _=>true) (fun v=>.str (v++"x")) (w_tv (z8w (m:=PyData.str) (xs:=ns) (fun _=>rfl) (z00 rfl) z4f (z30 z01.e)) rfl) rfl (fun v=>[some (.al,.str v)]) (fun v _=>rfl) (fun v _=>z59) (fun v hx _=>v_add (z00 rfl) z0h.e (by have:=hn8 v (hcm v hx);have:("x":Str).length=1:=rfl;omega));rw[dt.mpr fun _ _=>rfl]at ex;have e9:((cut ns none (some 4)).map fun v=>PyData.str (v++"x"))=((cut ns none (some 4)).map fun(v:Str)=>v++"x").map .str:=by rw[fo];rfl
 rw[e9]at ex;refine⟨ns++(cut ns none (some 4)).map fun(v:Str)=>v++"x",⟨by rw[ac,ag,hl8,hcl],fun v hv=>?_⟩,z0a (z0w ec (z0b _)) (z0r (zin (fun i z=>by cases z) (z7c (z00 rfl) (Ev.of ex) (by rw[add_list (by simp only[ag];omega),<-cg]) (z0b _))))⟩;rcases bx.mp hv with h|h
 ·have:=hn8 v h;omega
 ·obtain⟨z,hz,rfl⟩:=bt.mp h;have:=hn8 z (hcm z hz);rw[z09];have:("x":Str).length=1:=rfl;omega
theorem sgn {Φ:List Fn}{ρ:Rho}{z:Str}{n:Int}{b:Int}{m:Int}(hz:z.length=b.toNat)(hb:0<b/\b<=100)(h1:ρ[1]?=some (some (.al,.str z)))(h2:ρ[2]?=some (some (.al,.int n)))(hm:0<m/\m<2 ^ 200):∃ss:List Str,(ss.length=23/\∀s∈ss,s.length=1)/\evE [] Φ (.comp 1 [1,2] ["_law_k","_law_letters","_law_number"] (.nm 0) (.rng (.cons (.int 23) .nil)) .nil (.ix (.var 1) (.bin .Mod (.bin .Add (.bin .FloorDiv (.var 2) (.int m)) (.bin .Mult (.int 3) (.var 0))) (.int b)))) ρ=.ok (.fr,.list (ss.map .str)):=by
 have ec:=z38 (Κ:=[]) (Φ:=Φ) (ρ:=ρ) (nt:=1) (js:=[1,2]) (N':=["_law_k","_law_letters","_law_number"]) (tg:=.nm 0) (it:=.rng (.cons (.int 23) .nil)) (cond:=.nil) (elt:=.ix (.var 1) (.bin .Mod (.bin .Add (.bin .FloorDiv (.var 2) (.int m)) (.bin .Mult (.int 3) (.var 0))) (.int b))) (m:=fun i:Nat=>PyData.int i) (xs:=cb 23) (w:=(.fr,_)) (fun _=>true) (fun k=>.str (chr z ((n/m+3*(k:Int))%b))) (zdy (z03 z01.e z0d) (z78 (by omega) (by omega))) rfl (fun k=>[some (.al,.int k),some (.al,.str z),some (.al,.int n)]) (fun k _=>by
   show z0x (.nm 0) _ ([none]++[toAl (ρ.getD 1 none),toAl (ρ.getD 2 none)])=_;rw[bf,bf,h1,h2];rfl) (fun k _=>z59)
  (fun k hk _=>v_ix (z00 rfl) (z08 (z08 (z08 (z00 rfl) z01.e (z56 hm.1 hm.2) rfl).e (z08 z01.e (z00 rfl) (z4o (by decide)) rfl).e rfl rfl).e z01.e (z0v hb.1) rfl).e (z45 (dq _ (by omega)) (by have:=gg (n/m+3*(k:Int)) hb.1;rw[hz];omega) (by rw[hz];omega)) rfl)
 rw[dt.mpr fun _ _=>rfl]at ec;refine⟨(cb 23).map fun(k:Nat)=>chr z ((n/m+3*(k:Int))%b),⟨by rw[ag,cr],fun s hs=>?_⟩,?_⟩
 ·obtain⟨k,_,rfl⟩:=bt.mp hs;rfl
 ·rw[ec,fo];rfl
theorem zgr {Κ:List D}{Φ:List Fn}{ρ ρ':Rho}{Q:Res Out->Prop}{p rest:S}{c:C}{k:Bool}(hc:Tt Κ Φ c ρ k)(hk:k=true)(h:evS Κ Φ p ρ=.ok (.nx ρ'))(h2:Q (evS Κ Φ rest ρ')):Q (evS Κ Φ (.seq (.ifS c p .nil) rest) ρ):=by rw[z5q hc hk h rfl];exact h2
theorem zcm (c:Int):∃ns,Ns 27 ns/\F_z6 [.int c]=.ok (.fr,.list (ns.map .str)):=by
 suffices h:∃ns,Ns 27 ns/\evS [] [F_z5,F_z4] S_z6 [some (.od,.int c),none,none,none,none,none,none,none,none]=.ok (.rt .fr (.list (ns.map .str))) by obtain⟨ns,h1,h2⟩:=h;exact⟨ns,h1,z15 h2⟩
 let Q:Res Out->Prop:=fun r=>∃ns,Ns 27 ns/\r=.ok (.rt .fr (.list (ns.map .str)))
 show Q _;unfold S_z6;obtain⟨n,n0,en⟩:=zb5 c;refine q_ok (z0f z0h) (q_ok (z0f (z0y (z03 (z00 rfl) (z03 z01.e z0d)) rfl en rfl)) (q_ok (z0f (z08 (z00 rfl) z01.e (z0v (by decide)) rfl)) ?_))
 have ej:=z38 (Κ:=[]) (Φ:=[F_z5,F_z4]) (ρ:=[some (.od,.int c),some (.al,.str "bcdefghjklmnpqrstuvwxyz"),some (.al,.int n),some (.al,.int (n%11)),none,none,none,none,none]) (nt:=1) (js:=[1,2]) (N':=["_law_k","_law_letters","_law_number"]) (tg:=.nm 0) (it:=.rng (.cons (.var 3) .nil)) (cond:=.nil) (elt:=.ix (.var 1) (.bin .Mod (.bin .Add (.bin .FloorDiv (.var 2) (.int 11)) (.bin .Mult (.bin .Mult (.int 5) (.var 0)) (.var 0))) (.int 23))) (m:=fun i:Nat=>PyData.int i) (xs:=cb (n%11).toNat) (w:=(.fr,_)) (fun _=>true) (fun k=>.str (chr "bcdefghjklmnpqrstuvwxyz" ((n/11+5*(k:Int)*k)%23))) (zdy (z03 (z00 rfl) z0d) (z78 (by omega) (by omega))) rfl (fun k=>[some (.al,.int k),some (.al,.str "bcdefghjklmnpqrstuvwxyz"),some (.al,.int n)]) (fun k _=>rfl) (fun k _=>z59)
  (fun k hk _=>by
   have hk':k<1000:=by have:=jk.mp hk;omega
   exact v_ix (z00 rfl) (z08 (z08 (z08 (d:=.int (n/11)) (z00 rfl) z01.e rfl rfl).e (z08 (z08 z01.e (z00 rfl) (z4o (by decide)) rfl).e (z00 rfl) (z2z (by omega)) rfl).e rfl rfl).e z01.e (z0v (by decide)) rfl).e (z45 (by omega) (by rw[z9e];omega) (by rw[z9e];omega)) rfl)
 let ss:List Str:=(cb (n%11).toNat).map fun(k:Nat)=>chr "bcdefghjklmnpqrstuvwxyz" ((n/11+5*(k:Int)*k)%23)
 have hss:∀s∈ss,s.length=1:=fun s h=>by obtain⟨k,_,rfl⟩:=bt.mp h;rfl
 have hsl:ss.length<=10:=by show(c7 _ _).length<=10;rw[ag,cr];omega
 have ejs:(((cb (n%11).toNat).filter fun _=>true).map fun(k:Nat)=>PyData.str (chr "bcdefghjklmnpqrstuvwxyz" ((n/11+5*(k:Int)*k)%23)))=ss.map .str:=by rw[dt.mpr fun _ _=>rfl];show _=(c7 _ _).map PyData.str;rw[fo];rfl
 rw[ejs]at ej;refine q_ok (z0f (v_mt z0h.e (z03 (Ev.of ej) z0d) (zfz hss (by omega)) rfl)) ?_;have hstl:(z0o "" ss).length<=10:=by rw[z4b ss hss];exact hsl
 generalize z0o "" ss=stem at hstl;refine q_ok (z0f (z08 (z08 (d:=.int (n/253)) (z00 rfl) z01.e rfl rfl).e (z08 (z00 rfl) z01.e rfl rfl).e (z0v (by omega)) rfl)) ?_;have a0:0<=n/253%(n%11+1):=dq _ (by omega);generalize n/253%(n%11+1)=at' at a0;obtain⟨sg,hsg,esg⟩:=sgn (Φ:=[F_z5,F_z4]) (ρ:=[some (.od,.int c),some (.al,.str "bcdefghjklmnpqrstuvwxyz"),some (.al,.int n),some (.al,.int (n%11)),some (.al,.str stem),some (.al,.int at'),none,none,none]) (z:="bcdefghjklmnpqrstuvwxyz") (n:=n) (b:=23) (m:=7) rfl (by decide) rfl rfl (by decide);refine q_ok (z0w esg (z0b _)) ?_;have tc:Tt [] [F_z5,F_z4] (.tv (.cmp .Eq (.bin .Mod (.var 0) (.int 2)) (.int 1))) [some (.od,.int c),some (.al,.str "bcdefghjklmnpqrstuvwxyz"),some (.al,.int n),some (.al,.int (n%11)),some (.al,.str stem),some (.al,.int at'),some (.fr,.list (sg.map .str)),none,none] (decide (c%2=1)):=z53 (z08 (z00 rfl) z01.e (z0v (by decide)) rfl).e;by_cases hc:c%2=1
 ·have m0:0<=c/2%11:=by omega
  have m1:c/2%11<11:=by omega
  obtain⟨sh,hsh,esh⟩:=sgn (Φ:=[F_z5,F_z4]) (ρ:=[some (.od,.int c),some (.al,.str "abcdefghijklmnopqrstuvwxyz"),some (.al,.int (c/2)),some (.al,.int (c/2%11)),some (.al,.str stem),some (.al,.int (c/2/11%(c/2%11+1))),some (.fr,.list (sg.map .str)),none,none]) (z:="abcdefghijklmnopqrstuvwxyz") (n:=c/2) (b:=26) (m:=132) rfl (by decide) rfl rfl (by decide);have a2:0<=c/2/11%(c/2%11+1):=dq _ (by omega)
  suffices h:∃st u1 u2 u3 u7,st.length<=10/\evS [] [F_z5,F_z4] (.seq (.asg (.nm 1) (.str "abcdefghijklmnopqrstuvwxyz"))
 (.seq (.asg (.nm 2) (.bin .FloorDiv (.var 0) (.int 2)))
 (.seq (.asg (.nm 3) (.bin .Mod (.var 2) (.int 11)))
 (.seq (.asg (.nm 5) (.bin .Mod (.bin .FloorDiv (.var 2) (.int 11)) (.bin .Add (.var 3) (.int 1))))
 (.seq (.asg (.nm 6) (.comp 1 [1,2] ["_law_k","_law_letters","_law_number"] (.nm 0) (.rng (.cons (.int 23) .nil)) .nil (.ix (.var 1) (.bin .Mod (.bin .Add (.bin .FloorDiv (.var 2) (.int 132)) (.bin .Mult (.int 3) (.var 0))) (.int 26)))))
 (.seq (.asg (.nm 2) (.bin .FloorDiv (.var 2) (.int 3432)))
 (.seq (.asg (.nm 4) (.str ""))
 (.seq (.for_ (.nm 7) (.rng (.cons (.var 3) .nil))
 (.seq (.asg (.nm 4) (.bin .Add (.var 4) (.ix (.var 1) (.bin .Mod (.var 2) (.int 26)))))
 (.seq (.asg (.nm 2) (.bin .FloorDiv (.var 2) (.int 26)))
 .nil)))
 .nil)))))))) [some (.od,.int c),some (.al,.str "bcdefghjklmnpqrstuvwxyz"),some (.al,.int n),some (.al,.int (n%11)),some (.al,.str stem),some (.al,.int at'),some (.fr,.list (sg.map .str)),none,none]=.ok (.nx [some (.od,.int c),u1,u2,u3,some (.al,.str st),some (.al,.int (c/2/11%(c/2%11+1))),some (.fr,.list (sh.map .str)),u7,none]) by
   obtain⟨st,u1,u2,u3,u7,hst,e⟩:=h;exact zgr (Q:=Q) tc (nz hc) e (z65 hst a2 hsh.1 hsh.2)
  let P:Res Out->Prop:=fun r=>∃st u1 u2 u3 u7,st.length<=10/\r=.ok (.nx [some (.od,.int c),u1,u2,u3,some (.al,.str st),some (.al,.int (c/2/11%(c/2%11+1))),some (.fr,.list (sh.map .str)),u7,none])
  show P _;refine q_ok (z0f z0h) (q_ok (z0f (d:=.int (c/2)) (z08 (z00 rfl) z01.e rfl rfl)) (q_ok (z0f (z08 (z00 rfl) z01.e (z0v (by decide)) rfl)) (q_ok (z0f (z08 (z08 (d:=.int (c/2/11)) (z00 rfl) z01.e rfl rfl).e (z08 (z00 rfl) z01.e rfl rfl).e (z0v (by omega)) rfl)) (q_ok (z0w esh (z0b _)) (q_ok (z0f (d:=.int (c/2/3432)) (z08 (z00 rfl) z01.e rfl rfl)) (q_ok (z0f z0h) ?_))))));refine zdj (m:=fun i:Nat=>.int i) (xs:=cb (c/2%11).toNat) (zau (z03 (z00 rfl) z0d) (z78 (by omega) (by omega))) (fun pre ρ=>∃q st u7,ρ=[some (.od,.int c),some (.al,.str "abcdefghijklmnopqrstuvwxyz"),some (.al,.int q),some (.al,.int (c/2%11)),some (.al,.str st),some (.al,.int (c/2/11%(c/2%11+1))),some (.fr,.list (sh.map .str)),u7,none]/\st.length=pre.length) ⟨c/2/3432,"",none,rfl,rfl⟩ ?_ ?_
  ·rintro pre x post ρ hx ⟨q,st,u7,rfl,hl⟩
   have hp:=congrArg f9 hx;simp only[cr,ac,aj]at hp;have hix:=z45 (z:="abcdefghijklmnopqrstuvwxyz") (i:=q%26) (by omega) (by rw[z91];omega) (by rw[z91];omega);have e4:evS [] [F_z5,F_z4] (.asg (.nm 4) (.bin .Add (.var 4) (.ix (.var 1) (.bin .Mod (.var 2) (.int 26))))) [some (.od,.int c),some (.al,.str "abcdefghijklmnopqrstuvwxyz"),some (.al,.int q),some (.al,.int (c/2%11)),some (.al,.str st),some (.al,.int (c/2/11%(c/2%11+1))),some (.fr,.list (sh.map .str)),some (.al,.int x),none]=.ok (.nx [some (.od,.int c),some (.al,.str "abcdefghijklmnopqrstuvwxyz"),some (.al,.int q),some (.al,.int (c/2%11)),some (.al,.str (st++chr "abcdefghijklmnopqrstuvwxyz" (q%26))),some (.al,.int (c/2/11%(c/2%11+1))),some (.fr,.list (sh.map .str)),some (.al,.int x),none]):=z0f (v_add (z00 rfl) (v_ix (z00 rfl) (z08 (z00 rfl) z01.e (z0v (by decide)) rfl).e hix rfl).e (by rw[z8l];omega));have e5:=z0a e4 (z0a (z0f (i:=2) (d:=.int (q/26)) (z08 (op:=.FloorDiv) (a:=.var 2) (b:=.int 26) (z00 rfl) z01.e rfl rfl)) (z0i (Κ:=[]) (Φ:=[F_z5,F_z4])));exact⟨_,e5,q/26,_,some (.al,.int x),rfl,by rw[z09,z8l,ac,hl];rfl⟩
  ·rintro ρ ⟨q,st,u7,rfl,hl⟩
   rw[cr]at hl;rw[z0i];exact⟨st,_,_,_,u7,by omega,rfl⟩
 ·refine zde tc (n5 hc) ?_;exact z65 hstl a0 hsg.1 hsg.2
theorem zix:binD .Pow (.int 10) (.int 34)=.ok (.int 10000000000000000000000000000000000):=rfl
def Bdr:S:=(.seq (.asg (.nm 5) (.bin .Mod (.bin .Mult (.bin .Add (.bin .Add (.bin .Mod (.var 0) (.int 1000000007)) (.bin .Mult (.bin .Mult (.int 7919) (.var 4)) (.var 4))) (.int 104729)) (.int 48271)) (.int 2147483629)))
 (.seq (.asg (.nm 5) (.bin .Mod (.bin .Mult (.var 5) (.var 5)) (.int 2147483587)))
 (.seq (.asg (.nm 6) (.bin .FloorDiv (.bin .Mult (.bin .Mult (.bin .Mult (.var 5) (.bin .Add (.var 5) (.int 1))) (.int 69621)) (.bin .Add (.bin .Add (.var 5) (.var 4)) (.int 2))) (.int 97)))
 (.seq (.mut "append" 2 (.cons (.bin .Mod (.ix (.lst (.cons (.var 6) (.cons (.var 3) .nil))) (.bin .Mod (.var 0) (.int 2))) (.bin .Pow (.int 10) (.int 34))) .nil))
 (.seq (.asg (.nm 3) (.bin .FloorDiv (.var 3) (.bin .Pow (.int 10) (.int 34))))
 .nil)))))
theorem zf8 (c:Int):∃ds:List Int,(ds.length=26/\∀d∈ds,0<=d)/\F_z7 [.int c,.int 26]=.ok (.fr,.list (ds.map .int)):=by
 suffices h:∃ds:List Int,(ds.length=26/\∀d∈ds,0<=d)/\evS [] [] S_z7 [some (.od,.int c),some (.od,.int 26),none,none,none,none,none]=.ok (.rt .fr (.list (ds.map .int))) by obtain⟨ns,h1,h2⟩:=h;exact⟨ns,h1,z15 h2⟩
 let Q:Res Out->Prop:=fun r=>∃ds:List Int,(ds.length=26/\∀d∈ds,0<=d)/\r=.ok (.rt .fr (.list (ds.map .int)))
 show Q _;unfold S_z7;refine q_ok (z0w (z1g z0j) rfl) (q_ok (z0f (d:=.int (c/2)) (z08 (z00 rfl) z01.e rfl rfl)) ?_);refine z7q (m:=fun i:Nat=>.int i) (xs:=cb 26) (zau (z03 (z00 rfl) z0d) (z78 (n:=26) (by omega) (by omega))) (fun pre ρ=>∃ds g u4 u5 u6,ρ=[some (.od,.int c),some (.od,.int 26),some (.fr,.list (c7 .int ds)),some (.al,.int g),u4,u5,u6]/\ds.length=pre.length/\∀d∈ds,0<=d) ⟨[],c/2,none,none,none,rfl,rfl,fun _ h=>by cases h⟩ ?_ ?_
 ·rintro pre x post ρ hx ⟨ds,g,u4,u5,u6,rfl,hl,hd⟩
  have hp:=congrArg f9 hx;simp only[cr,ac,aj]at hp;have hxx:x<26:=jk.mp (by rw[hx];exact ar _ af)
  let A:Res Out->Prop:=fun r=>∃ρ',r=.ok (.nx ρ')/\∃ds g u4 u5 u6,ρ'=[some (.od,.int c),some (.od,.int 26),some (.fr,.list (c7 .int ds)),some (.al,.int g),u4,u5,u6]/\ds.length=(pre++[x]).length/\∀d∈ds,0<=d
  suffices key:A (evS [] [] Bdr [some (.od,.int c),some (.od,.int 26),some (.fr,.list (c7 .int ds)),some (.al,.int g),some (.al,.int x),u5,u6]) by obtain⟨ρ',e,hI⟩:=key;exact⟨_,ρ',rfl,e,hI⟩
  unfold Bdr;refine q_ok (z0f (z08 (z08 (z08 (z08 (z08 (z00 rfl) z01.e (z0v (by decide)) rfl).e (z08 (z08 z01.e (z00 rfl) (z4o (by decide)) rfl).e (z00 rfl) (z2z (by omega)) rfl).e rfl rfl).e z01.e rfl rfl).e z01.e (z2z (by decide)) rfl).e z01.e (z0v (by decide)) rfl)) ?_;have b0:0<=(c%1000000007+7919*(x:Int)*x+104729)*48271%2147483629:=dq _ (by decide);have b1:(c%1000000007+7919*(x:Int)*x+104729)*48271%2147483629<2147483629:=gg _ (by decide);generalize (c%1000000007+7919*(x:Int)*x+104729)*48271%2147483629=N at b0 b1;refine q_ok (z0f (z08 (z08 (z00 rfl) (z00 rfl) (z2z (by omega)) rfl).e z01.e (z0v (by decide)) rfl)) ?_;have d0:0<=N*N%2147483587:=dq _ (by decide);have d1:N*N%2147483587<2147483587:=gg _ (by decide);generalize N*N%2147483587=M at d0 d1;refine q_ok (z0f (z08 (z08 (z08 (z08 (z00 rfl) (z08 (z00 rfl) z01.e rfl rfl).e (z2z (by omega)) rfl).e z01.e (z2z (by decide)) rfl).e (z08 (z08 (z00 rfl) (z00 rfl) rfl rfl).e z01.e rfl rfl).e (z2z (by omega)) rfl).e z01.e (z56 (by decide) (by decide)) rfl)) ?_;generalize M*(M+1)*69621*(M+(x:Int)+2)/97=Y;have i0:0<=c%2/\c%2<([Y,g]:List Int).length:=⟨by omega,by show c%2<2;omega⟩;have hix:=z29 (ns:=[Y,g]) (i:=c%2) i0.1 i0.2;generalize ([Y,g]:List Int).getD (c%2).toNat 0=V at hix;have v0:0<=V%10000000000000000000000000000000000:=dq _ (by decide);refine q_ok (s_app (xs:=ds.map .int) (x:=.int (V%10000000000000000000000000000000000)) (z08 (v_ix (Ev.of (z1g (ds:=([Y,g]:List Int).map .int) (z02 (v_var rfl rfl) (z02 (v_var rfl rfl) z0j)))) (z08 (z00 rfl) z01.e (z0v (by decide)) rfl).e hix rfl).e (z08 z01.e z01.e zix rfl).e (z0v (by decide)) rfl) rfl (by rw[ag];omega)) ?_;refine q_ok (z0f (d:=.int (g/10000000000000000000000000000000000)) (z08 (z00 rfl) (z08 z01.e z01.e zix rfl).e (z56 (by decide) (by decide)) rfl)) ?_;rw[z0i];refine⟨_,rfl,ds++[V%10000000000000000000000000000000000],_,_,_,_,by rw[cg];rfl,by rw[ac,ac,hl];rfl,fun d hd'=>?_⟩;exact(bx.mp hd').elim (hd d) fun h=>by rw[cj.mp h];exact v0
 ·rintro ρ ⟨ds,g,u4,u5,u6,rfl,hl,hd⟩
  rw[cr]at hl;exact q_rt (z5w rfl) ⟨ds,⟨hl,hd⟩,rfl⟩
def KO (es:Ents):Prop:=(es≠[]/\es.length<=60)/\∀e∈es,∃n v:Str,e=(.str n,.str v)/\n.length<=14
theorem z5d:∀{es:Ents},(∀e∈es,∃n v:Str,e=(.str n,.str v)/\n.length<=14)->∃ns:List Str,es.map (·.1)=ns.map .str/\ns.length=es.length/\∀w∈ns,w.length<=14
 | [],_=>⟨[],rfl,rfl,fun _ h=>by cases h⟩
 |e::es,h=>by obtain⟨ns,h1,h2,h3⟩:=z5d fun z hz=>h z (ak _ hz);obtain⟨n,v,rfl,hn⟩:=h e af;refine⟨n::ns,by rw[az,h1];rfl,by rw[aj,aj,h2],fun w hw=>?_⟩;exact(a8.mp hw).elim (fun z=>by rw[z];exact hn) (h3 w)
theorem z7l:∀{es:Ents} {n:Str},(∀e∈es,∃n v:Str,e=(.str n,.str v)/\n.length<=14)->PyData.str n∈es.map (·.1)->∃v:Str,z1c es (.str n)=some (.str v)
 | [],_,_,h=>by cases h
 |e::es,n,h,hm=>by
  obtain⟨m,v,rfl,_⟩:=h e af;by_cases hmn:m=n
  ·subst hmn;refine⟨v,?_⟩;unfold z1c;rw[kr (by show decide (m=m)=true;exact nz rfl)];rfl
  ·have hm':PyData.str n∈es.map (·.1):=(a8.mp hm).elim (fun z=>by cases z;exact absurd rfl hmn) id;obtain⟨v',e'⟩:=z7l (fun z hz=>h z (ak _ hz)) hm';refine⟨v',?_⟩;unfold z1c at e' ⊢;rw[ku (by show ¬decide (m=n)=true;simpa using hmn)];exact e'
theorem ziw {es:Ents}{n v:Str}(h:KO es)(hn:n.length<=14)(hl:es.length<60):KO (dput es (.str n) (.str v)):=by
 unfold dput;split
 ·refine⟨⟨fun z=>h.1.1 (List.map_eq_nil_iff.mp z),by rw[ag];exact h.1.2⟩,fun e he=>?_⟩;obtain⟨e0,h0,rfl⟩:=bt.mp he;obtain⟨m,w,rfl,hm⟩:=h.2 e0 h0;split
  ·exact⟨m,v,rfl,hm⟩
  ·exact⟨m,w,rfl,hm⟩
 ·refine⟨⟨by simp,by rw[ac];show es.length+1<=60;omega⟩,fun e he=>?_⟩;exact(bx.mp he).elim (h.2 e) fun z=>⟨n,v,cj.mp z,hn⟩
theorem zhs {es:Ents}(h:KO es){n:Int}(n0:0<=n):∃t:Tr,(t.wf/\t.dep=1)/\F_z8 [.int n,.dict es]=.ok (.fr,t.enc):=by
 suffices hh:∃t:Tr,(t.wf/\t.dep=1)/\evS [] [] S_z8 [some (.od,.int n),some (.od,.dict es),none,none,none,none]=.ok (.rt .fr t.enc) by obtain⟨t,h1,h2⟩:=hh;exact⟨t,h1,z15 h2⟩
 let Q:Res Out->Prop:=fun r=>∃t:Tr,(t.wf/\t.dep=1)/\r=.ok (.rt .fr t.enc)
 show Q _;unfold S_z8;obtain⟨ns,k1,k2,k3⟩:=z5d h.2;have hpos:0<ns.length:=by rw[k2];exact jg.mpr h.1.1
 have h60:ns.length<=60:=by rw[k2];exact h.1.2
 have e1:evE [] [] (.lk 1) [some (.od,.int n),some (.od,.dict es),none,none,none,none]=.ok (.fr,.list (ns.map .str)):=by show(if decide (es.length<=LIM)=true then Res.ok (G.fr,PyData.list (es.map (·.1)))else .no)=_;rw[if_pos (nz (by rw[<-k2];unfold LIM;omega)),k1]
 refine q_ok (z0w e1 (z0b ns)) ?_;have hlen:∀{Φ:List Fn} {ρ:Rho} {i:Nat} {g:G},ρ[i]?=some (some (g,.list (ns.map .str)))->Vv [] Φ (.bi "len" (.cons (.var i) .nil)) ρ (.int (ns.length:Int)):=fun h=>v_bi (z03 (z00 h) z0d) (by show Res.ok (PyData.int ((ns.map PyData.str).length:Int))=_;rw[ag]) rfl;have i0:0<=n/4%(ns.length:Int):=dq _ (by omega);have i1:n/4%(ns.length:Int)<ns.length:=gg _ (by omega);have hix:=z1n (ns:=ns) i0 i1;have hmem:ns.getD (n/4%(ns.length:Int)).toNat ⟨#[]⟩∈ns:=getD_mem i0 i1;generalize ns.getD (n/4%(ns.length:Int)).toNat ⟨#[]⟩=nm at hix hmem;have hnm:=k3 nm hmem;refine q_ok (z0f (v_ix (z00 rfl) (z08 (z08 (d:=.int (n/4)) (z00 rfl) z01.e rfl rfl).e (hlen rfl).e (z0v (by omega)) rfl).e hix rfl)) ?_;refine q_ok (z0f (z08 (z08 (d:=.int (n/4)) (z00 rfl) z01.e rfl rfl).e (hlen rfl).e (z56 (by omega) (by omega)) rfl)) ?_;generalize n/4/(ns.length:Int)=m;obtain⟨v,ev⟩:=z7l h.2 (n:=nm) (by rw[k1];exact bt.mpr ⟨nm,hmem,rfl⟩);have vd:Vv [] [] (.ix (.var 1) (.var 3)) [some (.od,.int n),some (.od,.dict es),some (.fr,.list (ns.map .str)),some (.al,.str nm),some (.al,.int m),none] (.str v):=v_ix (z00 rfl) (z00 rfl) (by show(if isK (.str nm)=true then Res.ofO (z1c es (.str nm))else .no)=_;rw[if_pos (z7z _),ev];rfl) rfl;by_cases hv:v="fact"
 ·let ks:List Int:=[1,2+m%5,1000000000000000000000000000000-m%3,1+m%1000000000000000000000000000000]
  have j0:0<=n%4:=by omega
  have j1:n%4<ks.length:=by show n%4<4;omega
  have hkx:=z29 (ns:=ks) j0 j1;have hk:∀k∈ks,1<=k/\k<=1000000000000000000000000000000:=fun k hk=>by simp only[ks,a8,cy,or_false]at hk;rcases hk with rfl|rfl|rfl|rfl<;>omega
  have hkm:=hk _ (getD_mem (d:=0) j0 j1);generalize ks.getD (n%4).toNat 0=k at hkx hkm;have el:evE [] [] (.lst (.cons (.int 1) (.cons (.bin .Add (.int 2) (.bin .Mod (.var 4) (.int 5))) (.cons (.bin .Sub (.bin .Pow (.int 10) (.int 30)) (.bin .Mod (.var 4) (.int 3))) (.cons (.bin .Add (.int 1) (.bin .Mod (.var 4) (.bin .Pow (.int 10) (.int 30)))) .nil))))) [some (.od,.int n),some (.od,.dict es),some (.fr,.list (ns.map .str)),some (.al,.str nm),some (.al,.int m),none]=.ok (.fr,.list (ks.map .int)):=z1g (z02 z01 (z02 (z08 z01.e (z08 (z00 rfl) z01.e (z0v (by decide)) rfl).e rfl rfl) (z02 (z08 z58.e (z08 (z00 rfl) z01.e (z0v (by decide)) rfl).e rfl rfl) (z02 (z08 z01.e (z08 (z00 rfl) z58.e (z0v (by decide)) rfl).e rfl rfl) z0j))));refine⟨.at nm k,⟨⟨hnm,hkm⟩,rfl⟩,z14 (z11 vd.e) (nz hv) (z0a (z0w el (z1p _)) (z0r (z0s ?_)))⟩;exact z2t (z02 z0h (z02 (v_var rfl rfl) (z02 (v_ix (z00 rfl) (z08 (z00 rfl) z01.e (z0v (by decide)) rfl).e hkx rfl) z0j)))
 ·exact⟨.is nm,⟨hnm,rfl⟩,z0m (z11 vd.e) (n5 hv) (z0r (z0s (z2t (z02 z0h (z02 (v_var rfl rfl) z0j)))))⟩
theorem zbw {ns:List Str}(hpos:0<ns.length)(h60:ns.length<=60)(k3:∀w∈ns,w.length<=14){n:Int}(n0:0<=n):∃ws,SW ws/\za1 [.int n,.list (ns.map .str)]=.ok (.fr,.tuple (ws.map .str)):=by
 suffices hh:∃ws,SW ws/\evS [] [] zb0 [some (.od,.int n),some (.od,.list (ns.map .str)),none,none,none,none]=.ok (.rt .fr (.tuple (ws.map .str))) by obtain⟨t,h1,h2⟩:=hh;exact⟨t,h1,z15 h2⟩
 let Q:Res Out->Prop:=fun r=>∃ws,SW ws/\r=.ok (.rt .fr (.tuple (ws.map .str)))
 show Q _;unfold zb0;refine q_ok (z0w (z1g z0j) rfl) (q_ok (z0f (z08 (z00 rfl) z01.e (z0v (by decide)) rfl)) (q_ok (z0f (d:=.int (n/6)) (z08 (z00 rfl) z01.e rfl rfl)) ?_));have hlen:∀{Φ:List Fn} {ρ:Rho} {i:Nat} {g:G},ρ[i]?=some (some (g,.list (ns.map .str)))->Vv [] Φ (.bi "len" (.cons (.var i) .nil)) ρ (.int (ns.length:Int)):=fun h=>v_bi (z03 (z00 h) z0d) (by show Res.ok (PyData.int ((ns.map PyData.str).length:Int))=_;rw[ag]) rfl;refine z7q (m:=fun i:Nat=>.int i) (xs:=cb (n%6).toNat) (zau (z03 (z00 rfl) z0d) (z78 (by omega) (by omega))) (fun pre ρ=>∃c ws u4 u5,ρ=[some (.al,.int c),some (.od,.list (ns.map .str)),some (.fr,.list (c7 .str ws)),some (.al,.int (n%6)),u4,u5]/\ws.length<=pre.length/\∀w∈ws,w.length<=14) ⟨n/6,[],none,none,rfl,ae _,fun _ h=>by cases h⟩ ?_ ?_
 ·rintro pre x post ρ hx ⟨c,ws,u4,u5,rfl,hl,hw⟩
  have hp:=congrArg f9 hx;simp only[cr,ac,aj]at hp;have i0:0<=c%(ns.length:Int):=dq _ (by omega);have i1:c%(ns.length:Int)<ns.length:=gg _ (by omega);have hix:=z1n (ns:=ns) i0 i1;have hmem:ns.getD (c%(ns.length:Int)).toNat ⟨#[]⟩∈ns:=getD_mem i0 i1;generalize ns.getD (c%(ns.length:Int)).toNat ⟨#[]⟩=nm at hix hmem;have s1:evS [] [] (.asg (.nm 5) (.ix (.var 1) (.bin .Mod (.var 0) (.bi "len" (.cons (.var 1) .nil))))) [some (.al,.int c),some (.od,.list (ns.map .str)),some (.fr,.list (c7 .str ws)),some (.al,.int (n%6)),some (.al,.int x),u5]=.ok (.nx [some (.al,.int c),some (.od,.list (ns.map .str)),some (.fr,.list (c7 .str ws)),some (.al,.int (n%6)),some (.al,.int x),some (.al,.str nm)]):=z0f (v_ix (z00 rfl) (z08 (z00 rfl) (hlen rfl).e (z0v (by omega)) rfl).e hix rfl);have s2:evS [] [] (.asg (.nm 0) (.bin .FloorDiv (.var 0) (.bi "len" (.cons (.var 1) .nil)))) [some (.al,.int c),some (.od,.list (ns.map .str)),some (.fr,.list (c7 .str ws)),some (.al,.int (n%6)),some (.al,.int x),some (.al,.str nm)]=.ok (.nx [some (.al,.int (c/ns.length)),some (.od,.list (ns.map .str)),some (.fr,.list (c7 .str ws)),some (.al,.int (n%6)),some (.al,.int x),some (.al,.str nm)]):=z0f (z08 (z00 rfl) (hlen rfl).e (z56 (by omega) (by omega)) rfl);have hs:z10 40 (ws.map PyData.str)=true:=z26.mpr fun z hz=>by obtain⟨w,_,rfl⟩:=bt.mp hz;rfl
  have tn:Tt [] [] (.tv (.cmp .NotIn (.var 5) (.var 2))) [some (.al,.int (c/ns.length)),some (.od,.list (ns.map .str)),some (.fr,.list (c7 .str ws)),some (.al,.int (n%6)),some (.al,.int x),some (.al,.str nm)] (!((ws.map PyData.str).any fun y=>eqD y (.str nm))):=t_tv (z1m (z00 rfl) (z00 rfl) (by show((if(shal 40 (.str nm)&&z10 40 (ws.map PyData.str))=true then Res.ok ((ws.map PyData.str).any fun y=>eqD y (.str nm))else .no)>>=fun b=>Res.ok (!b))=_;rw[hs];rfl)).e rfl;cases hk:(!((ws.map PyData.str).any fun y=>eqD y (.str nm)))with
  |false=>exact⟨_,_,rfl,z0a s1 (z0a s2 (z0m tn hk z0i)),_,ws,_,_,rfl,by rw[ac];show ws.length<=pre.length+1;omega,hw⟩
  |true=>have s3:evS [] [] (.mut "append" 2 (.cons (.var 5) .nil)) [some (.al,.int (c/ns.length)),some (.od,.list (ns.map .str)),some (.fr,.list (c7 .str ws)),some (.al,.int (n%6)),some (.al,.int x),some (.al,.str nm)]=.ok (.nx [some (.al,.int (c/ns.length)),some (.od,.list (ns.map .str)),some (.fr,.list (ws.map .str++[.str nm])),some (.al,.int (n%6)),some (.al,.int x),some (.al,.str nm)]):=Mk.s_app (v_var rfl rfl) rfl (by rw[ag];omega);refine⟨_,_,rfl,z0a s1 (z0a s2 (z5q tn hk (z0a s3 z0i) z0i)),_,ws++[nm],_,_,by rw[cg];rfl,by rw[ac,ac];show ws.length+1<=pre.length+1;omega,fun w hw'=>?_⟩;exact(bx.mp hw').elim (hw w) fun z=>by rw[cj.mp z];exact k3 nm hmem
 ·rintro ρ ⟨c,ws,u4,u5,rfl,hl,hw⟩
  rw[cr]at hl;exact q_rt (z0s (d:=.tuple (ws.map .str)) (zks (z00 rfl) rfl rfl (z0b ws))) ⟨ws,⟨by omega,hw⟩,rfl⟩
theorem zjn {Φ:List Fn}{ρ:Rho}{i j:Nat}{pre:List Tr}{t:Tr}(h:ρ[i]?=some (some (.fr,.list ((pre++[t]).map Tr.enc)))):evS [] Φ (.pop j i) ρ=.ok (.nx (((ρ.set i (some (.fr,.list (pre.map Tr.enc)))).map z07).set j (some (.al,t.enc)))):=by
 show(match ρ[i]? with|some (some (.fr,.list xs))=>(match z2f xs with|some d=>Res.ok (Out.nx (((ρ.set i (some (.fr,.list xs.dropLast))).map z07).set j (some (.al,d))))|none=>.no)|_=>.no)=_;have e:z2f ((pre++[t]).map Tr.enc)=some t.enc:=by unfold z2f;rw[cg];simp[z0k]
 have e2:((pre++[t]).map Tr.enc).dropLast=pre.map Tr.enc:=by rw[cg];simp
 rw[h]
 dsimp only
 rw[e]
 dsimp only
 rw[e2]
theorem zgc {Φ:List Fn}{ρ ρ1:Rho}{i:Nat}{a r:C}{x:D}{zs:List D}{pre:List Tr}{t:Tr}(h:ρ[i]?=some (some (.fr,.list ((pre++[t]).map Tr.enc))))(hl:pre.length<=100)(h1:(ρ.set i (some (.fr,.list (pre.map Tr.enc)))).map z07=ρ1)(ha:Vv [] Φ a ρ x)(hr:Av [] Φ r ρ1 zs):evS [] Φ (.pap i a r) ρ=.ok (.nx ((ρ1.set i (some (.fr,.list (pre.map Tr.enc++[.tuple (x::t.enc::zs)])))).map z07)):=by
 show(evE [] Φ a ρ>>=fun x=>match ρ[i]? with|some (some (.fr,.list xs))=>(match z2f xs with|some d=>evA [] Φ r ((ρ.set i (some (.fr,.list xs.dropLast))).map z07)>>=fun zs=>if(imm x.2&&imms (zs.map (·.2))&&decide (xs.length<=LIM))=true then Res.ok (Out.nx ((((ρ.set i (some (.fr,.list xs.dropLast))).map z07).set i (some (.fr,.list (xs.dropLast++[.tuple (x.2::d::zs.map (·.2))])))).map z07))else .no|none=>.no)|_=>.no)=_;have e:z2f ((pre++[t]).map Tr.enc)=some t.enc:=by unfold z2f;rw[cg];simp[z0k]
 have e2:((pre++[t]).map Tr.enc).dropLast=pre.map Tr.enc:=by rw[cg];simp
 rw[ha.1,Res.ok_bind,h]
 dsimp only
 rw[e]
 dsimp only
 rw[e2,h1,hr.1,Res.ok_bind];have e3:(zs.map fun d=>((G.fr,d):GD)).map (·.2)=zs:=by rw[fo];exact mz _
 rw[e3,ha.2,hr.2,nz (show((pre++[t]).map Tr.enc).length<=LIM by rw[ag,ac];show pre.length+1<=LIM;unfold LIM;omega)];rfl
abbrev RT (x0 x1 x2 x3:D)(ts:List Tr)(u5 u6 u7 u8 u9 u10:Option GD):Rho:=[some (.od,x0),some (.od,x1),some (.od,x2),some (.od,x3),some (.fr,.list (ts.map Tr.enc)),u5,u6,u7,u8,u9,u10]
theorem z3l (pre:List Tr)(t:Tr):(pre++[t]).map Tr.enc=pre.map Tr.enc++[t.enc]:=by rw[cg];rfl
theorem merge {Φ:List Fn}{x0 x1 x2 x3:D}{u5 u6 u7 u8 u9 u10:Option GD}{pre:List Tr}{a b:Tr}{w:Str}{W:C}(hl:pre.length<=90)(hW:Vv [] Φ W (RT x0 x1 x2 x3 (pre++[a]) (z07 u5) (z07 u6) (some (.al,b.enc)) (z07 u8) (z07 u9) (z07 u10)) (.str w)):
  ∃v5 v8 v9 v10,evS [] Φ (.seq (.pop 7 4) (.seq (.pap 4 W (.cons (.var 7) .nil)) .nil)) (RT x0 x1 x2 x3 (pre++[a]++[b]) u5 u6 u7 u8 u9 u10)=.ok (.nx (RT x0 x1 x2 x3 (pre++[.bi w a b]) v5 (z07 (z07 (z07 u6))) (some (.al,b.enc)) v8 v9 v10)):=by
 have e1:evS [] Φ (.pop 7 4) (RT x0 x1 x2 x3 (pre++[a]++[b]) u5 u6 u7 u8 u9 u10)=.ok (.nx (RT x0 x1 x2 x3 (pre++[a]) (z07 u5) (z07 u6) (some (.al,b.enc)) (z07 u8) (z07 u9) (z07 u10))):=zjn rfl;have e2:=zgc (Φ:=Φ) (ρ:=RT x0 x1 x2 x3 (pre++[a]) (z07 u5) (z07 u6) (some (.al,b.enc)) (z07 u8) (z07 u9) (z07 u10)) (ρ1:=RT x0 x1 x2 x3 pre (z07 (z07 u5)) (z07 (z07 u6)) (some (.al,b.enc)) (z07 (z07 u8)) (z07 (z07 u9)) (z07 (z07 u10))) (i:=4) (a:=W) (r:=.cons (.var 7) .nil) (x:=.str w) (zs:=[b.enc]) (pre:=pre) (t:=a) rfl (by omega) (by show[_,_,_,_,_,_,_,z07 (some (.al,b.enc)),_,_,_]=_;rw[z5x (z0k b)];rfl) hW (z02 (v_var rfl (z0k b)) z0j);refine⟨z07 (z07 (z07 u5)),z07 (z07 (z07 u8)),z07 (z07 (z07 u9)),z07 (z07 (z07 u10)),z0a e1 (z0a (e2.trans ?_) z0i)⟩;show Res.ok (Out.nx [_,_,_,_,some (.fr,.list (pre.map Tr.enc++[.tuple [.str w,a.enc,b.enc]])),_,_,z07 (some (.al,b.enc)),_,_,_])=_;rw[z5x (z0k b)];show _=Res.ok (Out.nx [_,_,_,_,some (.fr,.list ((pre++[Tr.bi w a b]).map Tr.enc)),_,_,_,_,_,_]);rw[z3l];rfl
def Okt (B:Nat)(ts:List Tr):Prop:=∀t∈ts,t.wf/\t.dep+ts.length<=B
theorem zbj {B:Nat}{pre:List Tr}{a b:Tr}{w:Str}(hw:w∈biW)(h:Okt B (pre++[a]++[b])):Okt B (pre++[.bi w a b]):=fun t ht=>by
 have l1:(pre++[a]++[b]).length=pre.length+2:=by simp
 have l2:(pre++[Tr.bi w a b]).length=pre.length+1:=by simp
 have ha:=h a (by simp);have hb:=h b (by simp);rw[l1]at ha hb;rw[l2];rcases bx.mp ht with hp|hp
 ·have hq:=h t (by simp[hp]);rw[l1]at hq;exact⟨hq.1,by omega⟩
 ·rw[cj.mp hp];exact⟨⟨hw,ha.1,hb.1⟩,by show max a.dep b.dep+1+(pre.length+1)<=B;omega⟩
theorem z9m {ts:List Tr}(h:1<ts.length):∃pre a b,ts=pre++[a]++[b]:=by
 have h1:ts≠[]:=fun z=>by rw[z]at h;simp at h
 have h2:ts.dropLast≠[]:=fun z=>by have:=congrArg f9 z;rw[i9]at this;simp at this;omega
 refine⟨ts.dropLast.dropLast,ts.dropLast.getLast h2,ts.getLast h1,?_⟩;rw[gh,gh]
theorem z67 {ts:List Tr}(h:ts≠[]):∃pre a,ts=pre++[a]:=⟨ts.dropLast,ts.getLast h,(gh h).symm⟩
def Wb:S:=(.seq (.pop 7 4)
 (.seq (.pap 4 (.ix (.lst (.cons (.str "or") (.cons (.str "and") .nil))) (.bin .Mod (.bi "len" (.cons (.var 4) .nil)) (.int 2))) (.cons (.var 7) .nil))
 .nil))
def Wc:C:=.tv (.cmp .Gt (.bi "len" (.cons (.var 4) .nil)) (.int 1))
theorem len_T {Φ:List Fn}{ρ:Rho}{ts:List Tr}{g:G}(h:ρ[4]?=some (some (g,.list (ts.map Tr.enc)))):Vv [] Φ (.bi "len" (.cons (.var 4) .nil)) ρ (.int (ts.length:Int)):=v_bi (z03 (z00 h) z0d) (by show Res.ok (PyData.int ((ts.map Tr.enc).length:Int))=_;rw[ag]) rfl
theorem wh_T {Φ:List Fn}{x0 x1 x2 x3:D}{B:Nat}:∀(k:Nat) (ts:List Tr) (n:Nat) (u5 u6 u7 u8 u9 u10:Option GD),ts.length=k+1->k<n->k<=80->Okt B ts->∃t v5 v6 v7 v8 v9 v10,(t.wf/\t.dep+1<=B)/\whD (evT [] Φ Wc) (evS [] Φ Wb) n (RT x0 x1 x2 x3 ts u5 u6 u7 u8 u9 u10)=.ok (.nx (RT x0 x1 x2 x3 [t] v5 v6 v7 v8 v9 v10))
 |_,_,0,_,_,_,_,_,_,_,hn,_,_=>by omega
 |k,ts,n+1,u5,u6,u7,u8,u9,u10,hk,hn,h8,ok=>by
  have tc:Tt [] Φ Wc (RT x0 x1 x2 x3 ts u5 u6 u7 u8 u9 u10) (decide ((1:Int)<ts.length)):=t_tv (z1m (len_T rfl).e z01.e rfl).e rfl;unfold Tt at tc;rw[whD,tc,Res.ok_bind];cases k with
  |zero=>rw[n5 (by omega),if_neg bn];obtain⟨pre,a,rfl⟩:=z67 (ts:=ts) (fun z=>by rw[z]at hk;cases hk);have hp:pre=[]:=dj (by simpa using hk);subst hp;have:=ok a (by simp);exact⟨a,u5,u6,u7,u8,u9,u10,⟨this.1,this.2⟩,rfl⟩
  |succ k=>
   rw[nz (by omega),if_pos rfl];obtain⟨pre,a,b,rfl⟩:=z9m (ts:=ts) (by omega);have hpl:pre.length=k:=by simpa using hk
   have i0:0<=((pre++[a]).length:Int)%2:=by omega
   have i1:((pre++[a]).length:Int)%2<(["or","and"]:List Str).length:=by show _<(2:Int);omega
   have hix:=z1n (ns:=["or","and"]) i0 i1;have hw:(["or","and"]:List Str).getD (((pre++[a]).length:Int)%2).toNat ⟨#[]⟩∈biW:=by have:=getD_mem (d:=(⟨#[]⟩:Str)) i0 i1;simp only[a8,cy,or_false]at this;rcases this with z|z<;>rw[z]<;>decide+kernel
   generalize (["or","and"]:List Str).getD (((pre++[a]).length:Int)%2).toNat ⟨#[]⟩=w at hix hw;obtain⟨v5,v8,v9,v10,e⟩:=merge (Φ:=Φ) (x0:=x0) (x1:=x1) (x2:=x2) (x3:=x3) (u5:=u5) (u6:=u6) (u7:=u7) (u8:=u8) (u9:=u9) (u10:=u10) (pre:=pre) (a:=a) (b:=b) (w:=w) (W:=.ix (.lst (.cons (.str "or") (.cons (.str "and") .nil))) (.bin .Mod (.bi "len" (.cons (.var 4) .nil)) (.int 2))) (by omega) (v_ix (Ev.of (z1g (ds:=(["or","and"]:List Str).map .str) (z02 z0h (z02 z0h z0j)))) (z08 (len_T rfl).e z01.e (z0v (by decide)) rfl).e hix rfl);have e:evS [] Φ Wb (RT x0 x1 x2 x3 (pre++[a]++[b]) u5 u6 u7 u8 u9 u10)=_:=e;rw[e];exact wh_T k (pre++[.bi w a b]) n _ _ _ _ _ _ (by simp[hpl]) (by omega) (by omega) (zbj hw ok)
def Sin:S:=(.ifS (.tv (.var 3))
 (.seq (.asg (.nm 8) (.lst .nil))
 (.seq (.for_ (.nm 9) (.tv (.sl (.var 0) (.tv (.bin .Add (.bin .Mult (.int 4) (.var 5)) (.int 1))) (.tv (.bin .Add (.bin .Mult (.int 4) (.var 5)) (.int 4)))))
 (.seq (.asg (.nm 8) (.bin .Add (.var 8) (.lst (.cons (.var 9) (.cons (.int 0) (.cons (.int 0) (.cons (.int 0) .nil)))))))
 .nil))
 (.seq (.asg (.nm 10) (.call 0 "_law_tree" (.cons (.var 8) (.cons (.var 1) (.cons (.bin .Add (.int 1) (.bin .Mod (.bin .FloorDiv (.var 6) (.int 10)) (.int 2))) (.cons (.bl false) .nil))))))
 (.seq (.mut "append" 4 (.cons (.tup (.cons (.ix (.lst (.cons (.str "some") (.cons (.str "all") .nil))) (.bin .Mod (.bin .FloorDiv (.var 6) (.int 5)) (.int 2))) (.cons (.var 10) .nil))) .nil))
 .nil))))
 (.seq (.mut "append" 4 (.cons (.call 1 "_law_leaf" (.cons (.bin .FloorDiv (.var 6) (.int 5)) (.cons (.var 1) .nil))) .nil))
 .nil))
def Lb:S:=(.seq (.asg (.nm 6) (.ix (.var 0) (.bin .Mult (.int 4) (.var 5))))
 (.seq (.ifS (.and (.tv (.cmp .Gt (.bi "len" (.cons (.var 4) .nil)) (.int 1))) (.tv (.cmp .Lt (.bin .Mod (.var 6) (.int 5)) (.int 2))))
 (.seq (.pop 7 4)
 (.seq (.pap 4 (.ix (.lst (.cons (.str "and") (.cons (.str "or") .nil))) (.bin .Mod (.bin .FloorDiv (.var 6) (.int 5)) (.int 2))) (.cons (.var 7) .nil))
 .nil))
 (.seq (.ifS (.and (.tv (.cmp .Gt (.bi "len" (.cons (.var 4) .nil)) (.int 0))) (.tv (.cmp .Eq (.bin .Mod (.var 6) (.int 5)) (.int 2))))
 (.seq (.pap 4 (.str "not") .nil)
 .nil)
 (.seq Sin
 .nil))
 .nil))
 .nil))
theorem z4v {Φ:List Fn}{ds:List Int}{es:Ents}{most:Int}{first:Bool}{base:Nat}(hm:1<=most/\most<=6)(hds:4*most<=ds.length)(hd:∀d∈ds,0<=d)
  (hin:∀(ts:List Tr) (x:Nat) (N:Int) (u7 u8 u9 u10:Option GD),(x:Int)<most->0<=N->ts.length<=10->∃t v7 v8 v9 v10,(t.wf/\t.dep<=base+1)/\evS [] Φ Sin (RT (.list (ds.map .int)) (.dict es) (.int most) (.bool first) ts (some (.al,.int x)) (some (.al,.int N)) u7 u8 u9 u10)=.ok (.nx (RT (.list (ds.map .int)) (.dict es) (.int most) (.bool first) (ts++[t]) (some (.al,.int x)) (some (.al,.int N)) v7 v8 v9 v10))):
  ∃t:Tr,(t.wf/\(t.dep:Int)<=base+most)/\evS [] Φ S_z9 [some (.od,.list (ds.map .int)),some (.od,.dict es),some (.od,.int most),some (.od,.bool first),none,none,none,none,none,none,none]=.ok (.rt .fr t.enc):=by
 let Q:Res Out->Prop:=fun r=>∃t:Tr,(t.wf/\(t.dep:Int)<=base+most)/\r=.ok (.rt .fr t.enc)
 show Q _;unfold S_z9;refine q_ok (z0w (z1g z0j) rfl) ?_;refine z7q (m:=fun i:Nat=>.int i) (xs:=cb most.toNat) (zau (z03 (z00 rfl) z0d) (z78 (by omega) (by omega))) (fun pre ρ=>∃ts u5 u6 u7 u8 u9 u10,ρ=RT (.list (ds.map .int)) (.dict es) (.int most) (.bool first) ts u5 u6 u7 u8 u9 u10/\ts.length<=pre.length/\Okt (base+pre.length+1) ts/\(0<pre.length->ts≠[])) ⟨[],none,none,none,none,none,none,rfl,ae _,(fun _ h=>by cases h),fun h=>absurd h (cq 0)⟩ ?_ ?_
 ·rintro pre x post ρ hx ⟨ts,u5,u6,u7,u8,u9,u10,rfl,hl,ok,hne⟩
  have hp:=congrArg f9 hx;simp only[cr,ac,aj]at hp;have hxx:x<most.toNat:=jk.mp (by rw[hx];exact ar _ af)
  let A:Res Out->Prop:=fun r=>∃ρ',r=.ok (.nx ρ')/\∃ts u5 u6 u7 u8 u9 u10,ρ'=RT (.list (ds.map .int)) (.dict es) (.int most) (.bool first) ts u5 u6 u7 u8 u9 u10/\ts.length<=(pre++[x]).length/\Okt (base+(pre++[x]).length+1) ts/\(0<(pre++[x]).length->ts≠[])
  suffices key:A (evS [] Φ Lb (RT (.list (ds.map .int)) (.dict es) (.int most) (.bool first) ts (some (.al,.int x)) u6 u7 u8 u9 u10)) by obtain⟨ρ',e,hI⟩:=key;exact⟨_,ρ',rfl,e,hI⟩
  unfold Lb;have pl:(pre++[x]).length=pre.length+1:=by simp
  have i0:(0:Int)<=4*(x:Int):=by omega
  have i1:4*(x:Int)<ds.length:=by omega
  have hix:=z29 (ns:=ds) i0 i1;have hN:0<=ds.getD (4*(x:Int)).toNat 0:=hd _ (getD_mem i0 i1);generalize ds.getD (4*(x:Int)).toNat 0=N at hix hN;refine q_ok (z0f (v_ix (z00 rfl) (z08 z01.e (z00 rfl) (z4o (by decide)) rfl).e hix rfl)) ?_;show A (evS [] Φ _ (RT (.list (ds.map .int)) (.dict es) (.int most) (.bool first) ts (some (.al,.int x)) (some (.al,.int N)) u7 u8 u9 u10));have ta:Tt [] Φ (.tv (.cmp .Gt (.bi "len" (.cons (.var 4) .nil)) (.int 1))) (RT (.list (ds.map .int)) (.dict es) (.int most) (.bool first) ts (some (.al,.int x)) (some (.al,.int N)) u7 u8 u9 u10) (decide ((1:Int)<ts.length)):=t_tv (z1m (len_T rfl).e z01.e rfl).e rfl;have tb:Tt [] Φ (.tv (.cmp .Lt (.bin .Mod (.var 6) (.int 5)) (.int 2))) (RT (.list (ds.map .int)) (.dict es) (.int most) (.bool first) ts (some (.al,.int x)) (some (.al,.int N)) u7 u8 u9 u10) (decide (N%5<2)):=t_tv (z1m (z08 (z00 rfl) z01.e (z0v (by decide)) rfl).e z01.e rfl).e rfl;have t1:=z5h ta fun _=>tb;have grow:∀{B:Nat},Okt B ts->Okt (B+1) ts:=fun h t ht=>⟨(h t ht).1,by have:=(h t ht).2;omega⟩;cases h1:(decide ((1:Int)<ts.length)&&decide (N%5<2))with
  |true=>
   rw[av,decide_eq_true_iff,decide_eq_true_iff]at h1;obtain⟨p2,a,b,rfl⟩:=z9m (ts:=ts) (by omega);have hpl:(p2++[a]++[b]).length=p2.length+2:=by simp
   have j0:0<=N/5%2:=by omega
   have j1:N/5%2<(["and","or"]:List Str).length:=by show _<(2:Int);omega
   have hjx:=z1n (ns:=["and","or"]) j0 j1;have hw:(["and","or"]:List Str).getD (N/5%2).toNat ⟨#[]⟩∈biW:=getD_mem (d:=(⟨#[]⟩:Str)) j0 j1;generalize (["and","or"]:List Str).getD (N/5%2).toNat ⟨#[]⟩=w at hjx hw;obtain⟨v5,v8,v9,v10,e⟩:=merge (Φ:=Φ) (x0:=.list (ds.map .int)) (x1:=.dict es) (x2:=.int most) (x3:=.bool first) (u5:=some (.al,.int x)) (u6:=some (.al,.int N)) (u7:=u7) (u8:=u8) (u9:=u9) (u10:=u10) (pre:=p2) (a:=a) (b:=b) (w:=w) (W:=.ix (.lst (.cons (.str "and") (.cons (.str "or") .nil))) (.bin .Mod (.bin .FloorDiv (.var 6) (.int 5)) (.int 2))) (by omega) (v_ix (Ev.of (z1g (ds:=(["and","or"]:List Str).map .str) (z02 z0h (z02 z0h z0j)))) (z08 (z08 (d:=.int (N/5)) (z00 rfl) z01.e rfl rfl).e z01.e (z0v (by decide)) rfl).e hjx rfl);refine⟨_,z0a (z18 t1 (fun _=>e) fun z=>by rw[nz h1.1,nz h1.2]at z;cases z) z0i,p2++[.bi w a b],_,_,_,_,_,_,rfl,by simp;omega,?_,fun _=>by simp⟩;have:=zbj hw ok;rw[pl];exact fun t ht=>⟨(this t ht).1,by have:=(this t ht).2;omega⟩
  |false=>
   have tc:Tt [] Φ (.tv (.cmp .Gt (.bi "len" (.cons (.var 4) .nil)) (.int 0))) (RT (.list (ds.map .int)) (.dict es) (.int most) (.bool first) ts (some (.al,.int x)) (some (.al,.int N)) u7 u8 u9 u10) (decide ((0:Int)<ts.length)):=t_tv (z1m (len_T rfl).e z01.e rfl).e rfl;have td:Tt [] Φ (.tv (.cmp .Eq (.bin .Mod (.var 6) (.int 5)) (.int 2))) (RT (.list (ds.map .int)) (.dict es) (.int most) (.bool first) ts (some (.al,.int x)) (some (.al,.int N)) u7 u8 u9 u10) (decide (N%5=2)):=z53 (z08 (z00 rfl) z01.e (z0v (by decide)) rfl).e;have t2:=z5h tc fun _=>td;have outer:∀{r:Res Out} {q:S},evS [] Φ q (RT (.list (ds.map .int)) (.dict es) (.int most) (.bool first) ts (some (.al,.int x)) (some (.al,.int N)) u7 u8 u9 u10)=r->∀{p:S},evS [] Φ (.ifS (.and (.tv (.cmp .Gt (.bi "len" (.cons (.var 4) .nil)) (.int 1))) (.tv (.cmp .Lt (.bin .Mod (.var 6) (.int 5)) (.int 2)))) p q) (RT (.list (ds.map .int)) (.dict es) (.int most) (.bool first) ts (some (.al,.int x)) (some (.al,.int N)) u7 u8 u9 u10)=r:=fun h=>z18 t1 (fun z=>by rw[h1]at z;cases z) fun _=>h;cases h2:(decide ((0:Int)<ts.length)&&decide (N%5=2))with
   |true=>
    rw[av,decide_eq_true_iff,decide_eq_true_iff]at h2;obtain⟨p2,a,rfl⟩:=z67 (ts:=ts) (fun z=>by rw[z]at h2;simp at h2);have hpl:(p2++[a]).length=p2.length+1:=by simp
    have e:=zgc (Φ:=Φ) (ρ:=RT (.list (ds.map .int)) (.dict es) (.int most) (.bool first) (p2++[a]) (some (.al,.int x)) (some (.al,.int N)) u7 u8 u9 u10) (ρ1:=RT (.list (ds.map .int)) (.dict es) (.int most) (.bool first) p2 (some (.al,.int x)) (some (.al,.int N)) (z07 u7) (z07 u8) (z07 u9) (z07 u10)) (i:=4) (a:=.str "not") (r:=.nil) (x:=.str "not") (zs:=[]) (pre:=p2) (t:=a) rfl (by omega) rfl z0h z0j;have e':evS [] Φ (.pap 4 (.str "not") .nil) (RT (.list (ds.map .int)) (.dict es) (.int most) (.bool first) (p2++[a]) (some (.al,.int x)) (some (.al,.int N)) u7 u8 u9 u10)=.ok (.nx (RT (.list (ds.map .int)) (.dict es) (.int most) (.bool first) (p2++[.un "not" a]) (some (.al,.int x)) (some (.al,.int N)) (z07 (z07 u7)) (z07 (z07 u8)) (z07 (z07 u9)) (z07 (z07 u10)))):=by rw[e];show _=Res.ok (Out.nx [_,_,_,_,some (.fr,.list ((p2++[Tr.un "not" a]).map Tr.enc)),_,_,_,_,_,_]);rw[z3l];rfl
    refine⟨_,z0a (outer (z0a (z18 t2 (fun _=>z0a e' z0i) fun z=>by rw[nz h2.1,nz h2.2]at z;cases z) z0i)) z0i,p2++[.un "not" a],_,_,_,_,_,_,rfl,by simp;omega,?_,fun _=>by simp⟩;rw[pl];intro t ht;have l2:(p2++[Tr.un "not" a]).length=p2.length+1:=by simp
    rw[l2];rcases bx.mp ht with hq|hq
    ·have :=ok t (by simp[hq]);rw[hpl]at this;exact⟨this.1,by omega⟩
    ·rw[cj.mp hq];have:=ok a (by simp);rw[hpl]at this;exact⟨⟨by decide+kernel,this.1⟩,by show a.dep+1+(p2.length+1)<=_;omega⟩
   |false=>
    obtain⟨t,v7,v8,v9,v10,ht,e⟩:=hin ts x N u7 u8 u9 u10 (by omega) hN (by omega);refine⟨_,z0a (outer (z0a (z18 t2 (fun z=>by rw[h2]at z;cases z) fun _=>z0a e z0i) z0i)) z0i,ts++[t],_,_,_,_,_,_,rfl,by simp;omega,?_,fun _=>by simp⟩;rw[pl];intro z hz;have l2:(ts++[t]).length=ts.length+1:=by simp
    rw[l2];rcases bx.mp hz with hq|hq
    ·have :=ok z hq;exact⟨this.1,by omega⟩
    ·rw[cj.mp hq];exact⟨ht.1,by have:=ht.2;omega⟩
 ·rintro ρ ⟨ts,u5,u6,u7,u8,u9,u10,rfl,hl,ok,hne⟩
  rw[cr]at hl ok hne;have hts:ts≠[]:=hne (by omega);have hpos:=jg.mpr hts;obtain⟨t,v5,v6,v7,v8,v9,v10,ht,e⟩:=wh_T (Φ:=Φ) (x0:=.list (ds.map .int)) (x1:=.dict es) (x2:=.int most) (x3:=.bool first) (ts.length-1) ts 100000 u5 u6 u7 u8 u9 u10 (by omega) (by omega) (by omega) ok;have e:evS [] Φ (.wh 100000 Wc Wb) (RT (.list (ds.map .int)) (.dict es) (.int most) (.bool first) ts u5 u6 u7 u8 u9 u10)=_:=e;refine⟨t,⟨ht.1,by have:=ht.2;omega⟩,z0a e (z0r (z0s (v_ix (d:=t.enc) (z00 rfl) z01.e rfl (z0k t))))⟩
theorem zj5 {Φ:List Fn}{x0 x1 x2 x3:D}{u5 u6 u7 u8 u9 u10:Option GD}{ts:List Tr}{t:Tr}{a:C}(hl:ts.length<=90)(hv:Vv [] Φ a (RT x0 x1 x2 x3 ts u5 u6 u7 u8 u9 u10) t.enc):evS [] Φ (.seq (.mut "append" 4 (.cons a .nil)) .nil) (RT x0 x1 x2 x3 ts u5 u6 u7 u8 u9 u10)=.ok (.nx (RT x0 x1 x2 x3 (ts++[t]) (z07 u5) (z07 u6) (z07 u7) (z07 u8) (z07 u9) (z07 u10))):=by have e:=Mk.s_app (xs:=ts.map Tr.enc) (i:=4) hv rfl (by rw[ag];omega);refine z0a (e.trans ?_) z0i;show _=Res.ok (Out.nx [_,_,_,_,some (.fr,.list ((ts++[t]).map Tr.enc)),_,_,_,_,_,_]);rw[z3l];rfl
theorem z8z (k:Nat){ds:List Int}{es:Ents}{most:Int}(ok:KO es)(hm:1<=most/\most<=6)(hds:4*most<=ds.length)(hd:∀d∈ds,0<=d):∃t:Tr,(t.wf/\(t.dep:Int)<=most)/\F_z9 (k+1) [.list (ds.map .int),.dict es,.int most,.bool false]=.ok (.fr,t.enc):=by
 obtain⟨t,ht,e⟩:=z4v (Φ:=[F_z9 k,F_z8]) (es:=es) (first:=false) (base:=0) hm hds hd fun ts x N u7 u8 u9 u10 hx hN hl=>by obtain⟨t,ht,el⟩:=zhs ok (n:=N/5) (by omega);exact⟨t,z07 u7,z07 u8,z07 u9,z07 u10,⟨ht.1,by rw[ht.2];exact ae _⟩,z18 (k:=false) (t_tv (z00 rfl) rfl) (fun z=>by cases z) fun _=>zj5 (by omega) (z0y (z03 (z08 (d:=.int (N/5)) (z00 rfl) z01.e rfl rfl).e (z03 (z00 rfl) z0d)) rfl el (z0k t))⟩
 refine⟨t,⟨ht.1,by have:=ht.2;omega⟩,?_⟩;rw[F_z9];exact z15 e
theorem zff {ds:List Int}{es:Ents}{most:Int}(ok:KO es)(hm:1<=most/\most<=3)(hds:4*most<=ds.length)(hd:∀d∈ds,0<=d):∃t:Tr,(t.wf/\(t.dep:Int)<=2+most)/\F_z9 2 [.list (ds.map .int),.dict es,.int most,.bool true]=.ok (.fr,t.enc):=by
 obtain⟨t,ht,e⟩:=z4v (Φ:=[F_z9 1,F_z8]) (es:=es) (first:=true) (base:=2) ⟨hm.1,by omega⟩ hds hd fun ts x N u7 u8 u9 u10 hx hN hl=>by
  let ys:List Int:=cut ds (some (4*(x:Int)+1)) (some (4*(x:Int)+4))
  have hyl:ys.length=3:=by show(cut ds _ _).length=3;unfold cut;simp only[Mi.sIx,if_neg (show ¬(4*(x:Int)+1)<0 by omega),if_neg (show ¬(4*(x:Int)+4)<0 by omega),cx,c6];omega
  have hyd:∀y∈ys,0<=y:=fun y hy=>hd y (fj (fm hy))
  let A:Res Out->Prop:=fun r=>∃t v7 v8 v9 v10,(t.wf/\t.dep<=2+1)/\r=.ok (.nx (RT (.list (ds.map .int)) (.dict es) (.int most) (.bool true) (ts++[t]) (some (.al,.int x)) (some (.al,.int N)) v7 v8 v9 v10))
  have key:A (evS [] [F_z9 1,F_z8] (.seq (.asg (.nm 8) (.lst .nil))
 (.seq (.for_ (.nm 9) (.tv (.sl (.var 0) (.tv (.bin .Add (.bin .Mult (.int 4) (.var 5)) (.int 1))) (.tv (.bin .Add (.bin .Mult (.int 4) (.var 5)) (.int 4)))))
 (.seq (.asg (.nm 8) (.bin .Add (.var 8) (.lst (.cons (.var 9) (.cons (.int 0) (.cons (.int 0) (.cons (.int 0) .nil)))))))
 .nil))
 (.seq (.asg (.nm 10) (.call 0 "_law_tree" (.cons (.var 8) (.cons (.var 1) (.cons (.bin .Add (.int 1) (.bin .Mod (.bin .FloorDiv (.var 6) (.int 10)) (.int 2))) (.cons (.bl false) .nil))))))
 (.seq (.mut "append" 4 (.cons (.tup (.cons (.ix (.lst (.cons (.str "some") (.cons (.str "all") .nil))) (.bin .Mod (.bin .FloorDiv (.var 6) (.int 5)) (.int 2))) (.cons (.var 10) .nil))) .nil))
 .nil)))) (RT (.list (ds.map .int)) (.dict es) (.int most) (.bool true) ts (some (.al,.int x)) (some (.al,.int N)) u7 u8 u9 u10)):=by
   refine q_ok (z0w (z1g z0j) rfl) ?_;have v4:∀{ρ:Rho} {j:Int},ρ[5]?=some (some (.al,.int x))->Vv [] [F_z9 1,F_z8] (.bin .Add (.bin .Mult (.int 4) (.var 5)) (.int j)) ρ (.int (4*(x:Int)+j)):=fun h=>z08 (z08 z01.e (z00 h) (z4o (by decide)) rfl).e z01.e rfl rfl;refine z7q (m:=PyData.int) (xs:=ys) (zic (fun i z=>by cases z) (z8w (m:=PyData.int) (xs:=ds) (fun _=>rfl) (z00 rfl) (z30 (v4 rfl).e) (z30 (v4 rfl).e)) rfl) (fun pre ρ=>∃zs u9,ρ=RT (.list (ds.map .int)) (.dict es) (.int most) (.bool true) ts (some (.al,.int x)) (some (.al,.int N)) u7 (some (.fr,.list (c7 .int zs))) u9 u10/\zs.length=4*pre.length/\∀z∈zs,0<=z) ⟨[],u9,rfl,rfl,fun _ h=>by cases h⟩ ?_ ?_
   ·rintro pre y post ρ hy ⟨zs,u9,rfl,hzl,hz⟩
    have hp:=congrArg f9 hy;rw[hyl,ac,aj]at hp;have hy0:0<=y:=hyd y (by rw[hy];exact ar _ af);have ea:binD .Add (.list (zs.map .int)) (.list ([y,0,0,0].map PyData.int))=.ok (.list ((zs++[y,0,0,0]).map .int)):=by rw[add_list (by simp only[ag,aj,eu];omega),<-cg]
    have e1:evS [] [F_z9 1,F_z8] (.asg (.nm 8) (.bin .Add (.var 8) (.lst (.cons (.var 9) (.cons (.int 0) (.cons (.int 0) (.cons (.int 0) .nil))))))) (RT (.list (ds.map .int)) (.dict es) (.int most) (.bool true) ts (some (.al,.int x)) (some (.al,.int N)) u7 (some (.fr,.list (c7 .int zs))) (some (.al,.int y)) u10)=.ok (.nx (RT (.list (ds.map .int)) (.dict es) (.int most) (.bool true) ts (some (.al,.int x)) (some (.al,.int N)) u7 (some (.fr,.list (c7 .int (zs++[y,0,0,0])))) (some (.al,.int y)) u10)):=z0w (z7c (z00 rfl) (Ev.of (z1g (z02 (v_var rfl rfl) (z02 z01 (z02 z01 (z02 z01 z0j)))))) ea (z1p _)) (z1p _);refine⟨_,_,rfl,z0a e1 z0i,zs++[y,0,0,0],_,rfl,by simp[hzl];omega,fun z hz'=>?_⟩;refine(bx.mp hz').elim (hz z) fun h=>?_;simp only[a8,cy,or_false]at h;rcases h with rfl|rfl|rfl|rfl<;>omega
   ·rintro ρ ⟨zs,u9,rfl,hzl,hz⟩
    rw[hyl]at hzl;have hq:1<=1+N/10%2/\1+N/10%2<=2:=by omega
    obtain⟨s,hs,es'⟩:=z8z 0 ok (ds:=zs) (most:=1+N/10%2) ⟨hq.1,by omega⟩ (by omega) hz;have e1:evS [] [F_z9 1,F_z8] (.asg (.nm 10) (.call 0 "_law_tree" (.cons (.var 8) (.cons (.var 1) (.cons (.bin .Add (.int 1) (.bin .Mod (.bin .FloorDiv (.var 6) (.int 10)) (.int 2))) (.cons (.bl false) .nil)))))) (RT (.list (ds.map .int)) (.dict es) (.int most) (.bool true) ts (some (.al,.int x)) (some (.al,.int N)) u7 (some (.fr,.list (c7 .int zs))) u9 u10)=.ok (.nx (RT (.list (ds.map .int)) (.dict es) (.int most) (.bool true) ts (some (.al,.int x)) (some (.al,.int N)) u7 (some (.fr,.list (c7 .int zs))) u9 (some (.al,s.enc)))):=z0f (z0y (z03 (z00 rfl) (z03 (z00 rfl) (z03 (z08 z01.e (z08 (z08 (d:=.int (N/10)) (z00 rfl) z01.e rfl rfl).e z01.e (z0v (by decide)) rfl).e rfl rfl).e (z03 v_bl.e z0d)))) rfl es' (z0k s));refine q_ok e1 ?_;have j0:0<=N/5%2:=by omega
    have j1:N/5%2<(["some","all"]:List Str).length:=by show _<(2:Int);omega
    have hjx:=z1n (ns:=["some","all"]) j0 j1;have hw:(["some","all"]:List Str).getD (N/5%2).toNat ⟨#[]⟩∈unW:=ak _ (getD_mem (d:=(⟨#[]⟩:Str)) j0 j1);generalize (["some","all"]:List Str).getD (N/5%2).toNat ⟨#[]⟩=w at hjx hw;exact⟨.un w s,_,_,_,_,⟨⟨hw,hs.1⟩,by have:=hs.2;show s.dep+1<=3;omega⟩,zj5 (t:=.un w s) (by omega) (z2t (ds:=[.str w,s.enc]) (z02 (v_ix (Ev.of (z1g (ds:=(["some","all"]:List Str).map .str) (z02 z0h (z02 z0h z0j)))) (z08 (z08 (d:=.int (N/5)) (z00 rfl) z01.e rfl rfl).e z01.e (z0v (by decide)) rfl).e hjx rfl) (z02 (v_var rfl (z0k s)) z0j)))⟩
  obtain⟨t,v7,v8,v9,v10,ht,e⟩:=key;exact⟨t,v7,v8,v9,v10,ht,z18 (k:=true) (t_tv (z00 rfl) rfl) (fun _=>e) fun z=>by cases z⟩
 refine⟨t,⟨ht.1,by have:=ht.2;omega⟩,?_⟩;rw[F_z9];exact z15 e
abbrev RR (xs:List Int)(ns:List Str)(rs:List Rw)(es:Ents)(o:Int)(u5 u6 u7 u8 u9:Option GD):Rho:=[some (.od,.list (xs.map .int)),some (.fr,.list (ns.map .str)),some (.fr,.list (rs.map Rw.enc)),some (.fr,.dict es),some (.al,.int o),u5,u6,u7,u8,u9]
theorem z8x (pre:List Rw)(t:Rw):(pre++[t]).map Rw.enc=pre.map Rw.enc++[t.enc]:=by rw[cg];rfl
theorem zb9 {Φ:List Fn}{xs:List Int}{ns:List Str}{rs:List Rw}{es:Ents}{o:Int}{u5 u6 u7 u8 u9:Option GD}{r:Rw}{a:C}(hl:rs.length<=90)(hv:Vv [] Φ a (RR xs ns rs es o u5 u6 u7 u8 u9) r.enc):evS [] Φ (.seq (.mut "append" 2 (.cons a .nil)) .nil) (RR xs ns rs es o u5 u6 u7 u8 u9)=.ok (.nx (RR xs ns (rs++[r]) es o (z07 u5) (z07 u6) (z07 u7) (z07 u8) (z07 u9))):=by have e:=Mk.s_app (xs:=rs.map Rw.enc) (i:=2) hv rfl (by rw[ag];omega);refine z0a (e.trans ?_) z0i;show _=Res.ok (Out.nx [_,_,some (.fr,.list ((rs++[r]).map Rw.enc)),_,_,_,_,_,_,_]);rw[z8x];rfl
def Phr:List Fn:=[za1,F_z9 2,F_z7,F_z6]
def If1:S:=(.ifS (.and (.tv (.cmp .Eq (.var 8) (.int 1))) (.tv (.cmp .Lt (.var 4) (.int 4))))
 (.seq (.asg (.nm 4) (.bin .Add (.var 4) (.int 1)))
 (.seq (.asg (.nm 9) (.lk 3))
 (.seq (.mut "append" 2 (.cons (.tup (.cons (.str "open") (.cons (.ix (.var 1) (.var 5)) (.cons (.call 0 "_law_list" (.cons (.ix (.var 7) (.int 1)) (.cons (.var 9) .nil))) (.cons (.call 0 "_law_list" (.cons (.ix (.var 7) (.int 2)) (.cons (.var 9) .nil))) .nil))))) .nil))
 .nil)))
 (.seq (.ifS (.or (.tv (.cmp .Eq (.var 8) (.int 2))) (.tv (.cmp .Eq (.var 8) (.int 3))))
 (.seq (.mut "append" 2 (.cons (.tup (.cons (.str "word") (.cons (.ix (.var 1) (.var 5)) (.cons (.call 1 "_law_tree" (.cons (.sl (.var 7) (.tv (.int 2)) .nil) (.cons (.var 3) (.cons (.bin .Add (.int 1) (.bin .Mod (.ix (.var 7) (.int 1)) (.int 6))) (.cons (.bl false) .nil))))) .nil)))) .nil))
 .nil)
 (.seq (.ifS (.tv (.cmp .Gt (.var 8) (.int 3)))
 (.seq (.mut "append" 2 (.cons (.tup (.cons (.str "claim") (.cons (.ix (.var 1) (.var 5)) (.cons (.call 1 "_law_tree" (.cons (.sl (.var 7) (.tv (.int 2)) .nil) (.cons (.var 3) (.cons (.bin .Add (.int 1) (.bin .Mod (.ix (.var 7) (.int 1)) (.int 3))) (.cons (.bl true) .nil))))) .nil)))) .nil))
 .nil)
 (.seq (.mut "append" 2 (.cons (.tup (.cons (.str "fact") (.cons (.ix (.var 1) (.var 5)) .nil))) .nil))
 .nil))
 .nil))
 .nil))
theorem zik {xs:List Int}{ns:List Str}{rs:List Rw}{es:Ents}{o kd cell:Int}{k:Nat}{ds:List Int}{u9:Option GD}(hns:Ns 27 ns)(hk:k<26)(ok:KO es)(hds:ds.length=26/\∀d∈ds,0<=d)(hl:rs.length<=60)(h0:0<=o):
  ∃r o' v9,(r.wf/\0<=o')/\evS [] Phr If1 (RR xs ns rs es o (some (.al,.int k)) (some (.al,.int cell)) (some (.fr,.list (ds.map .int))) (some (.al,.int kd)) u9)=.ok (.nx (RR xs ns (rs++[r]) es o' (some (.al,.int k)) (some (.al,.int cell)) (some (.fr,.list (ds.map .int))) (some (.al,.int kd)) v9)):=by
 have k0:(0:Int)<=(k:Int):=by omega
 have k1:(k:Int)<ns.length:=by rw[hns.1];omega
 have hix:=z1n (ns:=ns) k0 k1;have hnm:=hns.2 _ (getD_mem (d:=(⟨#[]⟩:Str)) k0 k1);generalize ns.getD (k:Int).toNat ⟨#[]⟩=nm at hix hnm;have dx:∀j:Nat,j<26->∃d,0<=d/\ixD (.list (ds.map .int)) (.int j)=.ok (.int d):=fun j hj=>⟨_,hds.2 _ (getD_mem (d:=0) (i:=(j:Int)) (by omega) (by rw[hds.1];omega)),z29 (by omega) (by rw[hds.1];omega)⟩;obtain⟨d1,hd1,e1⟩:=dx 1 (by decide);obtain⟨d2,hd2,e2⟩:=dx 2 (by decide);have hcl:(cut ds (some 2) none).length=24:=by unfold cut;simp only[Mi.sIx,if_neg (show ¬(2:Int)<0 by omega),cx,c6,hds.1];omega
 have hcd:∀d∈cut ds (some 2) none,0<=d:=fun d h=>hds.2 d (fj (fm h))
 let R:=RR xs ns rs es o (some (.al,.int k)) (some (.al,.int cell)) (some (.fr,.list (ds.map .int))) (some (.al,.int kd)) u9
 have ta:Tt [] Phr (.and (.tv (.cmp .Eq (.var 8) (.int 1))) (.tv (.cmp .Lt (.var 4) (.int 4)))) R (decide (kd=1)&&decide (o<4)):=z5h (z53 (z00 rfl)) fun _=>t_tv (z1m (z00 rfl) z01.e rfl).e rfl;have tb:Tt [] Phr (.or (.tv (.cmp .Eq (.var 8) (.int 2))) (.tv (.cmp .Eq (.var 8) (.int 3)))) R (decide (kd=2)||decide (kd=3)):=t_or (z53 (z00 rfl)) fun _=>z53 (z00 rfl);have tc:Tt [] Phr (.tv (.cmp .Gt (.var 8) (.int 3))) R (decide ((3:Int)<kd)):=t_tv (z1m (z00 rfl) z01.e rfl).e rfl;cases ha:(decide (kd=1)&&decide (o<4))with
 |true=>
  obtain⟨ms,m1,m2,m3⟩:=z5d ok.2;have mp:0<ms.length:=by rw[m2];exact jg.mpr ok.1.1
  have m6:ms.length<=60:=by rw[m2];exact ok.1.2
  obtain⟨ws,hws,el1⟩:=zbw mp m6 m3 hd1;obtain⟨vs,hvs,el2⟩:=zbw mp m6 m3 hd2;have s1:evS [] Phr (.asg (.nm 4) (.bin .Add (.var 4) (.int 1))) R=.ok (.nx (RR xs ns rs es (o+1) (some (.al,.int k)) (some (.al,.int cell)) (some (.fr,.list (ds.map .int))) (some (.al,.int kd)) u9)):=z0f (z08 (z00 rfl) z01.e rfl rfl);have elk:evE [] Phr (.lk 3) (RR xs ns rs es (o+1) (some (.al,.int k)) (some (.al,.int cell)) (some (.fr,.list (ds.map .int))) (some (.al,.int kd)) u9)=.ok (.fr,.list (ms.map .str)):=by show(if decide (es.length<=LIM)=true then Res.ok (G.fr,PyData.list (es.map (·.1)))else .no)=_;rw[if_pos (nz (by rw[<-m2];unfold LIM;omega)),m1]
  have s2:evS [] Phr (.asg (.nm 9) (.lk 3)) (RR xs ns rs es (o+1) (some (.al,.int k)) (some (.al,.int cell)) (some (.fr,.list (ds.map .int))) (some (.al,.int kd)) u9)=.ok (.nx (RR xs ns rs es (o+1) (some (.al,.int k)) (some (.al,.int cell)) (some (.fr,.list (ds.map .int))) (some (.al,.int kd)) (some (.fr,.list (ms.map .str))))):=z0w elk (z0b ms);refine⟨.opn nm ws vs,o+1,_,⟨⟨hnm,hws,hvs⟩,by omega⟩,z18 ta (fun _=>z0a s1 (z0a s2 (zb9 (r:=.opn nm ws vs) (by omega) ?_))) fun z=>by rw[ha]at z;cases z⟩;exact z2t (ds:=[.str "open",.str nm,.tuple (ws.map .str),.tuple (vs.map .str)]) (z02 z0h (z02 (v_ix (z00 rfl) (z00 rfl) hix rfl) (z02 (z0y (z03 (v_ix (z00 rfl) z01.e e1 rfl).e (z03 (z00 rfl) z0d)) rfl el1 (z0b ws)) (z02 (z0y (z03 (v_ix (z00 rfl) z01.e e2 rfl).e (z03 (z00 rfl) z0d)) rfl el2 (z0b vs)) z0j))))
 |false=>
  cases hb:(decide (kd=2)||decide (kd=3))with
  |true=>obtain⟨t,ht,et⟩:=z8z 1 ok (ds:=cut ds (some 2) none) (most:=1+d1%6) (by omega) (by omega) hcd;refine⟨.row "word" nm t,o,_,⟨⟨by decide+kernel,hnm,ht.1,by have:=ht.2;omega⟩,h0⟩,z18 ta (fun z=>by rw[ha]at z;cases z) fun _=>z0a (z18 tb (fun _=>zb9 (r:=.row "word" nm t) (by omega) ?_) fun z=>by rw[hb]at z;cases z) z0i⟩;exact z2t (ds:=[.str "word",.str nm,t.enc]) (z02 z0h (z02 (v_ix (z00 rfl) (z00 rfl) hix rfl) (z02 (z0y (z03 (Ev.of (z8w (m:=PyData.int) (xs:=ds) (fun _=>rfl) (z00 rfl) (z30 z01.e) z4f)) (z03 (z00 rfl) (z03 (z08 z01.e (z08 (v_ix (z00 rfl) z01.e e1 rfl).e z01.e (z0v (by decide)) rfl).e rfl rfl).e (z03 v_bl.e z0d)))) rfl et (z0k t)) z0j)))
  |false=>
   cases hc:decide ((3:Int)<kd)with
   |true=>obtain⟨t,ht,et⟩:=zff ok (ds:=cut ds (some 2) none) (most:=1+d1%3) (by omega) (by omega) hcd;refine⟨.row "claim" nm t,o,_,⟨⟨by decide+kernel,hnm,ht.1,by have:=ht.2;omega⟩,h0⟩,z18 ta (fun z=>by rw[ha]at z;cases z) fun _=>z0a (z18 tb (fun z=>by rw[hb]at z;cases z) fun _=>z0a (z18 tc (fun _=>zb9 (r:=.row "claim" nm t) (by omega) ?_) fun z=>by rw[hc]at z;cases z) z0i) z0i⟩;exact z2t (ds:=[.str "claim",.str nm,t.enc]) (z02 z0h (z02 (v_ix (z00 rfl) (z00 rfl) hix rfl) (z02 (z0y (z03 (Ev.of (z8w (m:=PyData.int) (xs:=ds) (fun _=>rfl) (z00 rfl) (z30 z01.e) z4f)) (z03 (z00 rfl) (z03 (z08 z01.e (z08 (v_ix (z00 rfl) z01.e e1 rfl).e z01.e (z0v (by decide)) rfl).e rfl rfl).e (z03 v_bl.e z0d)))) rfl et (z0k t)) z0j)))
   |false=>exact⟨.fact nm,o,_,⟨hnm,h0⟩,z18 ta (fun z=>by rw[ha]at z;cases z) fun _=>z0a (z18 tb (fun z=>by rw[hb]at z;cases z) fun _=>z0a (z18 tc (fun z=>by rw[hc]at z;cases z) fun _=>zb9 (r:=.fact nm) (by omega) (z2t (ds:=[.str "fact",.str nm]) (z02 z0h (z02 (v_ix (z00 rfl) (z00 rfl) hix rfl) z0j)))) z0i) z0i⟩
def Rw.kind:Rw->Str
 |.fact _=>"fact"
 |.opn _ _ _=>"open"
 |.row w _ _=>w
theorem zd1 (r:Rw):ixD r.enc (.int 0)=.ok (.str r.kind):=by cases r<;>rfl
theorem zgg (pre:List D)(a:D):ixD (.list (pre++[a])) (.int (-1))=.ok a:=by
 show Res.ofO (atI (pre++[a]) (-1))=_;unfold atI ixN;rw[if_neg (by decide),if_pos (by rw[ac];show -((pre.length+1:Nat):Int)<=-1;omega)];have e:((-1:Int)+((pre++[a]).length:Nat)).toNat=pre.length:=by rw[ac];show((-1:Int)+((pre.length+1:Nat):Int)).toNat=_;omega
 show Res.ofO ((pre++[a])[((-1:Int)+((pre++[a]).length:Nat)).toNat]?)=_;rw[e,da (ae _),Nat.sub_self];rfl
theorem za0 (es:Ents)(k v:D):(dput es k v).length<=es.length+1:=by
 unfold dput;split
 ·rw[ag];omega
 ·rw[ac];exact ae _
def Rb:S:=(.seq (.asg (.nm 7) (.call 2 "_law_draws" (.cons (.bin .Add (.var 6) (.bin .Mult (.bin .Mult (.bin .Mult (.int 2) (.int 104729)) (.var 5)) (.var 5))) (.cons (.int 26) .nil))))
 (.seq (.asg (.nm 8) (.bin .Mod (.ix (.var 7) (.int 0)) (.int 6)))
 (.seq If1
 (.seq (.ifS (.tv (.cmp .Lt (.var 8) (.int 4)))
 (.seq (.setIx 3 (.ix (.var 1) (.var 5)) (.ix (.ix (.var 2) (.neg (.int 1))) (.int 0)))
 .nil)
 .nil)
 .nil))))
theorem zk6 {xs:List Int}{ns:List Str}{rs:List Rw}{es:Ents}{o cell:Int}{k:Nat}{u7 u8 u9:Option GD}(hns:Ns 27 ns)(hk:k<26)(ok:KO es)(hes:es.length<=50)(hl:rs.length<=60)(h0:0<=o):
  ∃r es' o' v7 v8 v9,(r.wf/\0<=o'/\KO es'/\es'.length<=es.length+1)/\evS [] Phr Rb (RR xs ns rs es o (some (.al,.int k)) (some (.al,.int cell)) u7 u8 u9)=.ok (.nx (RR xs ns (rs++[r]) es' o' (some (.al,.int k)) (some (.al,.int cell)) v7 v8 v9)):=by
 obtain⟨ds,hds,ed⟩:=zf8 (cell+2*104729*k*k);have s1:evS [] Phr (.asg (.nm 7) (.call 2 "_law_draws" (.cons (.bin .Add (.var 6) (.bin .Mult (.bin .Mult (.bin .Mult (.int 2) (.int 104729)) (.var 5)) (.var 5))) (.cons (.int 26) .nil)))) (RR xs ns rs es o (some (.al,.int k)) (some (.al,.int cell)) u7 u8 u9)=.ok (.nx (RR xs ns rs es o (some (.al,.int k)) (some (.al,.int cell)) (some (.fr,.list (ds.map .int))) u8 u9)):=z0w (z6i (z03 (z08 (z00 rfl) (z08 (z08 (z08 z01.e z01.e (z4o (by decide)) rfl).e (z00 rfl) (z4o (by decide)) rfl).e (z00 rfl) (z2z (by omega)) rfl).e rfl rfl).e (z03 z01.e z0d)) rfl ed) (z1p ds);have hix:=z29 (ns:=ds) (i:=0) (by decide) (by rw[hds.1];decide);have s2:evS [] Phr (.asg (.nm 8) (.bin .Mod (.ix (.var 7) (.int 0)) (.int 6))) (RR xs ns rs es o (some (.al,.int k)) (some (.al,.int cell)) (some (.fr,.list (ds.map .int))) u8 u9)=.ok (.nx (RR xs ns rs es o (some (.al,.int k)) (some (.al,.int cell)) (some (.fr,.list (ds.map .int))) (some (.al,.int (ds.getD (0:Int).toNat 0%6))) u9)):=z0f (z08 (v_ix (z00 rfl) z01.e hix rfl).e z01.e (z0v (by decide)) rfl);generalize ds.getD (0:Int).toNat 0%6=kd at s2;obtain⟨r,o',v9,hr,e3⟩:=zik (xs:=xs) (rs:=rs) (es:=es) (o:=o) (kd:=kd) (cell:=cell) (k:=k) (ds:=ds) (u9:=u9) hns hk ok hds hl h0;have tc:Tt [] Phr (.tv (.cmp .Lt (.var 8) (.int 4))) (RR xs ns (rs++[r]) es o' (some (.al,.int k)) (some (.al,.int cell)) (some (.fr,.list (ds.map .int))) (some (.al,.int kd)) v9) (decide (kd<4)):=t_tv (z1m (z00 rfl) z01.e rfl).e rfl;by_cases hk4:kd<4
 ·have k0:(0:Int)<=(k:Int):=by omega
  have k1:(k:Int)<ns.length:=by rw[hns.1];omega
  have hnx:=z1n (ns:=ns) k0 k1;have hnm:=hns.2 _ (getD_mem (d:=(⟨#[]⟩:Str)) k0 k1);generalize ns.getD (k:Int).toNat ⟨#[]⟩=nm at hnx hnm;have e1:ixD (.list ((rs++[r]).map Rw.enc)) (.int (-1))=.ok r.enc:=by rw[z8x];exact zgg _ _
  have e4:evS [] Phr (.setIx 3 (.ix (.var 1) (.var 5)) (.ix (.ix (.var 2) (.neg (.int 1))) (.int 0))) (RR xs ns (rs++[r]) es o' (some (.al,.int k)) (some (.al,.int cell)) (some (.fr,.list (ds.map .int))) (some (.al,.int kd)) v9)=.ok (.nx (RR xs ns (rs++[r]) (dput es (.str nm) (.str r.kind)) o' (some (.al,.int k)) (some (.al,.int cell)) (some (.fr,.list (ds.map .int))) (some (.al,.int kd)) (z07 v9))):=zi5 (v_ix (v_ix (d:=r.enc) (z00 rfl) (show Ev [] Phr (.neg (.int 1)) _ (.int (-1))from⟨.fr,rfl⟩) e1 (z6e r)).e z01.e (zd1 r) rfl) (v_ix (z00 rfl) (z00 rfl) hnx rfl).e rfl (by unfold LIM;omega);exact⟨r,_,o',_,_,_,⟨hr.1,hr.2,ziw ok hnm (by omega),za0 _ _ _⟩,z0a s1 (z0a s2 (z0a e3 (z5q tc (nz hk4) (z0a e4 z0i) z0i)))⟩
 ·exact⟨r,es,o',_,_,_,⟨hr.1,hr.2,ok,by omega⟩,z0a s1 (z0a s2 (z0a e3 (z0m tc (n5 hk4) z0i)))⟩
theorem zia {xs:List Int}(hl:xs.length<=63):∃rs:List Rw,(rs.length<=30/\∀r∈rs,r.wf)/\zai [.list (xs.map .int)]=.ok (.fr,.list (rs.map Rw.enc)):=by
 suffices h:∃rs:List Rw,(rs.length<=30/\∀r∈rs,r.wf)/\evS [] Phr zah [some (.od,.list (xs.map .int)),none,none,none,none,none,none,none,none,none]=.ok (.rt .fr (.list (rs.map Rw.enc))) by obtain⟨ns,h1,h2⟩:=h;exact⟨ns,h1,z15 h2⟩
 let Q:Res Out->Prop:=fun r=>∃rs:List Rw,(rs.length<=30/\∀r∈rs,r.wf)/\r=.ok (.rt .fr (.list (rs.map Rw.enc)))
 show Q _;unfold zah;obtain⟨ns,hns,en⟩:=zcm 0;refine q_ok (z0w (z6i (z03 z01.e z0d) rfl en) (z0b ns)) ?_;have tl:Tt [] Phr (.tv (.cmp .Gt (.bi "len" (.cons (.var 0) .nil)) (.int 0))) [some (.od,.list (xs.map .int)),some (.fr,.list (ns.map .str)),none,none,none,none,none,none,none,none] (decide ((0:Int)<xs.length)):=t_tv (z1m (v_bi (z03 (z00 rfl) z0d) (z9v xs) rfl).e z01.e rfl).e rfl;have rest:∀{ns:List Str},Ns 27 ns->Q (evS [] Phr (.seq (.asg (.nm 2) (.lst (.cons (.tup (.cons (.str "fact") (.cons (.ix (.var 1) (.int 26)) .nil))) .nil)))
 (.seq (.asg (.nm 3) (.d1 (.ix (.var 1) (.int 26)) (.str "fact")))
 (.seq (.asg (.nm 4) (.int 0))
 (.seq (.for_ (.tp [5,6]) (.enum (.sl (.var 0) (.tv (.int 1)) (.tv (.int 24)))) Rb)
 (.seq (.ret (.var 2))
 .nil))))) [some (.od,.list (xs.map .int)),some (.fr,.list (ns.map .str)),none,none,none,none,none,none,none,none]):=fun{ns} hns=>by
  have hix:=z1n (ns:=ns) (i:=26) (by decide) (by rw[hns.1];decide);have hnm:=hns.2 _ (getD_mem (d:=(⟨#[]⟩:Str)) (i:=26) (by decide) (by rw[hns.1];decide));generalize ns.getD (26:Int).toNat ⟨#[]⟩=nm at hix hnm;have el:evE [] Phr (.lst (.cons (.tup (.cons (.str "fact") (.cons (.ix (.var 1) (.int 26)) .nil))) .nil)) [some (.od,.list (xs.map .int)),some (.fr,.list (ns.map .str)),none,none,none,none,none,none,none,none]=.ok (.fr,.list ([Rw.fact nm].map Rw.enc)):=z1g (z02 (z2t (z02 z0h (z02 (v_ix (z00 rfl) z01.e hix rfl) z0j))) z0j);refine q_ok (z0w el rfl) ?_;have ed:evE [] Phr (.d1 (.ix (.var 1) (.int 26)) (.str "fact")) [some (.od,.list (xs.map .int)),some (.fr,.list (ns.map .str)),some (.fr,.list ([Rw.fact nm].map Rw.enc)),none,none,none,none,none,none,none]=.ok (.fr,.dict [(.str nm,.str "fact")]):=by have v1:Vv [] Phr (.ix (.var 1) (.int 26)) [some (.od,.list (xs.map .int)),some (.fr,.list (ns.map .str)),some (.fr,.list ([Rw.fact nm].map Rw.enc)),none,none,none,none,none,none,none] (.str nm):=v_ix (z00 rfl) z01.e hix rfl;show(evE [] Phr (.ix (.var 1) (.int 26)) _>>=fun x=>evE [] Phr (.str "fact") _>>=fun y=>if(isK x.2&&imm y.2)=true then Res.ok (G.fr,PyData.dict [(x.2,y.2)])else .no)=_;rw[v1.1];rfl
  refine q_ok (zio ed rfl) (q_ok (z0f z01) ?_);have hys:(cut xs (some 1) (some 24)).length<=23:=by unfold cut;simp only[Mi.sIx,if_neg (show ¬(24:Int)<0 by omega),if_neg (show ¬(1:Int)<0 by omega),cx,c6];omega
  have ef:evF [] Phr (.enum (.sl (.var 0) (.tv (.int 1)) (.tv (.int 24)))) (RR xs ns [.fact nm] [(.str nm,.str "fact")] 0 none none none none none)=.ok (.al,((cut xs (some 1) (some 24)).zipIdx 0).map fun p=>.tuple [.int p.2,.int p.1],RR xs ns [.fact nm] [(.str nm,.str "fact")] 0 none none none none none):=by rw[zm3 (z8w (m:=PyData.int) (xs:=xs) (fun _=>rfl) (z00 rfl) (z30 z01.e) (z30 z01.e)) rfl (zgk (z1p _) (by rw[ag];omega)),zci]
  refine z7q (m:=fun p:Int×Nat=>.tuple [.int p.2,.int p.1]) (xs:=(cut xs (some 1) (some 24)).zipIdx 0) ef (fun pre ρ=>∃rs es o u5 u6 u7 u8 u9,ρ=RR xs ns rs es o u5 u6 u7 u8 u9/\(rs.length=pre.length+1/\∀r∈rs,r.wf)/\(KO es/\es.length<=pre.length+1)/\0<=o) ⟨[.fact nm],[(.str nm,.str "fact")],0,none,none,none,none,none,rfl,⟨rfl,fun r hr=>by rw[cj.mp hr];exact hnm⟩,⟨⟨⟨by simp,by show 1<=60;omega⟩,fun e he=>⟨nm,"fact",cj.mp he,hnm⟩⟩,ae _⟩,Int.le_refl 0⟩ ?_ ?_
  ·rintro pre p post ρ hx ⟨rs,es,o,u5,u6,u7,u8,u9,rfl,hrs,hes,h0⟩
   have hp:=congrArg f9 hx;rw[l8,ac,aj]at hp
   have hp2:p.2<26:=by
    have hm:p∈(cut xs (some 1) (some 24)).zipIdx 0:=by rw[hx];exact ar _ af
    have:=List.snd_lt_of_mem_zipIdx hm;omega
   obtain⟨r,es',o',v7,v8,v9,h,e⟩:=zk6 (xs:=xs) (rs:=rs) (es:=es) (o:=o) (cell:=p.1) (k:=p.2) (u7:=u7) (u8:=u8) (u9:=u9) hns hp2 hes.1 (by omega) (by omega) h0;refine⟨_,_,rfl,e,rs++[r],es',o',_,_,_,_,_,rfl,⟨by rw[ac,ac,hrs.1];rfl,fun z hz=>?_⟩,⟨h.2.2.1,by rw[ac];have:=h.2.2.2;show es'.length<=pre.length+1+1;omega⟩,h.2.1⟩;exact(bx.mp hz).elim (hrs.2 z) fun q=>by rw[cj.mp q];exact h.1
  ·rintro ρ ⟨rs,es,o,u5,u6,u7,u8,u9,rfl,hrs,hes,h0⟩
   have hlr:=hrs.1;rw[l8]at hlr;exact q_rt (z5w rfl) ⟨rs,⟨by omega,hrs.2⟩,rfl⟩
 by_cases hx:(0:Int)<xs.length
 ·obtain⟨ms,hms,em⟩:=zcm (xs.getD (0:Int).toNat 0);have e1:evS [] Phr (.seq (.asg (.nm 1) (.call 3 "_law_pool" (.cons (.ix (.var 0) (.int 0)) .nil))) .nil) [some (.od,.list (xs.map .int)),some (.fr,.list (ns.map .str)),none,none,none,none,none,none,none,none]=.ok (.nx [some (.od,.list (xs.map .int)),some (.fr,.list (ms.map .str)),none,none,none,none,none,none,none,none]):=z0a (z0w (z6i (z03 (v_ix (z00 rfl) z01.e (z29 (ns:=xs) (i:=0) (by decide) hx) rfl).e z0d) rfl em) (z0b ms)) z0i;exact zgr (Q:=Q) tl (nz hx) e1 (rest hms)
 ·exact zde tl (n5 hx) (rest hns)
theorem z2i:∀(t:Tr) (n:Nat),t.dep<=n->shal n t.enc=true
 |.at _ _,n,h=>by
  cases n with
  |zero=>simp[Tr.dep]at h
  |succ n=>rw[Tr.enc,shal];cases n<;>simp[z10,shal]
 |.is _,n,h=>by
  cases n with
  |zero=>simp[Tr.dep]at h
  |succ n=>rw[Tr.enc,shal];cases n<;>simp[z10,shal]
 |.un w t,n,h=>by
  cases n with
  |zero=>simp[Tr.dep]at h
  |succ n=>rw[Tr.enc,shal,z10,z10,z10,z2i t n (by simp only[Tr.dep]at h;omega)];cases n<;>simp[shal]
 |.bi w a b,n,h=>by
  cases n with
  |zero=>simp[Tr.dep]at h
  |succ n=>rw[Tr.enc,shal,z10,z10,z10,z10,z2i a n (by simp only[Tr.dep]at h;omega),z2i b n (by simp only[Tr.dep]at h;omega)];cases n<;>simp[shal]
theorem eqS (x:Str):eqD (.str x) (.str x)=true:=by show(x==x)=true;rw[beq_self_eq_true]
theorem z6a:∀t:Tr,eqD t.enc t.enc=true
 |.at n k=>by show(eqD (.str "at") (.str "at")&&(eqD (.str n) (.str n)&&(eqD (.int k) (.int k)&&true)))=true;rw[eqS,eqS,z7b,nz rfl];rfl
 |.is n=>by show(eqD (.str "is") (.str "is")&&(eqD (.str n) (.str n)&&true))=true;rw[eqS,eqS];rfl
 |.un w t=>by show(eqD (.str w) (.str w)&&(eqD t.enc t.enc&&true))=true;rw[eqS,z6a t];rfl
 |.bi w a b=>by show(eqD (.str w) (.str w)&&(eqD a.enc a.enc&&(eqD b.enc b.enc&&true)))=true;rw[eqS,z6a a,z6a b];rfl
theorem z5j:∀ws:List Str,eqD (.tuple (ws.map .str)) (.tuple (ws.map .str))=true
 | []=>rfl
 |w::ws=>by show(eqD (.str w) (.str w)&&eqD (.tuple (ws.map .str)) (.tuple (ws.map .str)))=true;rw[eqS,z5j ws];rfl
theorem zmh:∀r:Rw,eqD r.enc r.enc=true
 |.fact n=>by show(eqD (.str "fact") (.str "fact")&&(eqD (.str n) (.str n)&&true))=true;rw[eqS,eqS];rfl
 |.opn n ws vs=>by show(eqD (.str "open") (.str "open")&&(eqD (.str n) (.str n)&&(eqD (.tuple (ws.map .str)) (.tuple (ws.map .str))&&(eqD (.tuple (vs.map .str)) (.tuple (vs.map .str))&&true))))=true;rw[eqS,eqS,z5j,z5j];rfl
 |.row w n t=>by show(eqD (.str w) (.str w)&&(eqD (.str n) (.str n)&&(eqD t.enc t.enc&&true)))=true;rw[eqS,eqS,z6a];rfl
theorem zbs:∀rs:List Rw,eqD (.list (rs.map Rw.enc)) (.list (rs.map Rw.enc))=true
 | []=>rfl
 |r::rs=>by show(eqD r.enc r.enc&&eqD (.list (rs.map Rw.enc)) (.list (rs.map Rw.enc)))=true;rw[zmh,zbs rs];rfl
theorem z3a (n:Nat)(ws:List Str):z10 n (ws.map .str)=true:=z26.mpr fun z hz=>by obtain⟨w,_,rfl⟩:=bt.mp hz;cases n<;>rfl
theorem zd7 {r:Rw}(h:r.wf):shal 39 r.enc=true:=by
 cases r with
 |fact n=>rfl
 |opn n ws vs=>show(true&&(true&&(z10 37 (ws.map .str)&&(z10 37 (vs.map .str)&&true))))=true;rw[z3a,z3a];rfl
 |row w n t=>show(true&&(true&&(shal 38 t.enc&&true)))=true;rw[z2i t 38 (by have:=h.2.2.2;omega)];rfl
theorem zbu {rs:List Rw}(hl:rs.length<=30)(h:∀r∈rs,r.wf):z20 "\n" (rs.map Rw.txt)<=LIM:=by have h1:=z60 (n:=30) (k:=4100) (ws:=rs.map Rw.txt) (fun w hw=>by obtain⟨r,hr,rfl⟩:=bt.mp hw;exact zac (h r hr)) (by rw[ag];exact hl);unfold z20 LIM;rw[ag];have e:("\n":Str).length=1:=rfl;rw[e];omega
theorem zjx {rs:List Rw}(hl:rs.length<=30)(h:∀r∈rs,r.wf):F_z3 [.list (rs.map Rw.enc)]=.ok (.fr,.str (z0o "\n" (rs.map Rw.txt))):=by unfold F_z3;refine z15 ?_;unfold S_z3;have ec:=z38 (Κ:=[]) (Φ:=[F_z2]) (ρ:=[some (.od,.list (rs.map Rw.enc))]) (nt:=1) (js:=[]) (N':=["row"]) (tg:=.nm 0) (it:=.tv (.var 0)) (cond:=.nil) (elt:=.call 0 "shown_row" (.cons (.var 0) .nil)) (m:=Rw.enc) (xs:=rs) (w:=(.od,rs.map Rw.enc)) (fun _=>true) (fun r=>.str r.txt) (w_tv (g:=.od) (x:=.list (rs.map Rw.enc)) rfl rfl) rfl (fun r=>[some (.al,r.enc)]) (fun r _=>z7o (z6e r)) (fun r _=>z59) (fun r hr _=>z0y (z03 (z00 rfl) z0d) rfl (zki (h r hr)) rfl);rw[dt.mpr fun _ _=>rfl,show(rs.map fun r=>PyData.str r.txt)=(rs.map Rw.txt).map .str from by rw[fo];rfl]at ec;exact z0r (z0s (v_mt z0h.e (z03 (Ev.of ec) z0d) (z1u (zbu hl h)) rfl))
theorem zjd {xs:List Int}(hl:xs.length<=63):z87 [.list (xs.map .int)]=.ok (.fr,.bool true):=by
 unfold z87;refine z15 ?_;unfold zf4;obtain⟨rs,hrs,er⟩:=zia hl;have him:=zc2 z6e rs;refine z0a (z0w (z6i (z03 (z00 rfl) z0d) rfl er) him) (z0a (z0w (xs:=rs.map Rw.enc) (zeo (z00 rfl) rfl (z3m _ _) him) him) (z0a (z0f (z0y (z03 (z00 rfl) z0d) rfl (zjx hrs.1 hrs.2) rfl)) ?_))
 have hne:cmpD .NotEq (.list (rs.map Rw.enc)) (.list (rs.map Rw.enc))=.ok false:=by
  have hs:shal 40 (.list (rs.map Rw.enc))=true:=z26.mpr fun z hz=>by obtain⟨r,hr,rfl⟩:=bt.mp hz;exact zd7 (hrs.2 r hr)
  show(if(shal 40 (.list (rs.map Rw.enc))&&shal 40 (.list (rs.map Rw.enc)))=true then Res.ok (!eqD (.list (rs.map Rw.enc)) (.list (rs.map Rw.enc)))else .no)=_;rw[hs,zbs];rfl
 refine z0m (k:=(!true)||false) (t_or (zb7 (t_tv (zhy (z00 rfl)).e rfl)) fun _=>t_tv (z1m (z00 rfl) (z00 rfl) hne).e rfl) rfl ?_;have ec:=z38 (Κ:=[]) (Φ:=[z81,F_z3,zai]) (ρ:=[some (.od,.list (xs.map .int)),some (.fr,.list (rs.map Rw.enc)),some (.fr,.list (rs.map Rw.enc)),some (.al,.str (z0o "\n" (rs.map Rw.txt)))]) (nt:=1) (js:=[]) (N':=["_law_row"]) (tg:=.nm 0) (it:=.tv (.var 1)) (cond:=.nil) (elt:=.call 0 "_law_line" (.cons (.var 0) .nil)) (m:=Rw.enc) (xs:=rs) (w:=(.al,rs.map Rw.enc)) (fun _=>true) (fun r=>.str r.txt) (w_tv (g:=.al) (x:=.list (rs.map Rw.enc)) rfl rfl) rfl (fun r=>[some (.al,r.enc)]) (fun r _=>z7o (z6e r)) (fun r _=>z59) (fun r hr _=>z0y (z03 (z00 rfl) z0d) rfl (zht (hrs.2 r hr)) rfl);rw[dt.mpr fun _ _=>rfl,show(rs.map fun r=>PyData.str r.txt)=(rs.map Rw.txt).map .str from by rw[fo];rfl]at ec;exact z0r (z0s (z1m (k:=true) (z00 rfl) (v_mt z0h.e (z03 (Ev.of ec) z0d) (z1u (zbu hrs.1 hrs.2)) rfl).e (by show Res.ok (eqD (.str _) (.str _))=_;rw[eqS])))
end Mk
namespace Mk
open PySem PySem.Spec PyProof.Rows L2 Mi
def top (i:Nat):Stmt:=PySem.Challenge.pw_likebook_k56_shown.main.body.getD i (.Pass ⟨0,0,0,0⟩)
abbrev FREE:List Str:=["str","list","range","len","tuple","enumerate","isinstance"]
abbrev Rz:List DRow:=[
 ⟨"shown_part",top 3,["part","kind"],["part"],["str"],[],S_z1,F_z0 0,.n,[]⟩,
 ⟨"shown_part",top 3,["part","kind"],["part"],["str"],[0],S_z0,F_z0 1,.n,[]⟩,
 ⟨"shown_part",top 3,["part","kind"],["part"],["str"],[1],S_z0,F_z0 2,.n,[]⟩,
 ⟨"shown_part",top 3,["part","kind"],["part"],["str"],[2],S_z0,F_z0 3,.n,[]⟩,
 ⟨"shown_part",top 3,["part","kind"],["part"],["str"],[3],S_z0,F_z0 4,.n,[]⟩,
 ⟨"shown_part",top 3,["part","kind"],["part"],["str"],[4],S_z0,F_z0 5,.n,[]⟩,
 ⟨"shown_part",top 3,["part","kind"],["part"],["str"],[5],S_z0,F_z0 6,.n,[]⟩,
 ⟨"shown_row",top 2,["row","words"],["row"],["list"],[6],S_z2,F_z2,.n,[]⟩,
 ⟨"shown_act",top 1,["act"],["act"],[],[7],S_z3,F_z3,.n,[]⟩,
 ⟨"_law_mixed",top 5,["_law_cell","_law_k"],["_law_cell","_law_k"],[],[],S_z4,F_z4,.n,[]⟩,
 ⟨"_law_good_name",top 6,["_law_word"],["_law_word"],[],[],S_z5,F_z5,.n,[]⟩,
 ⟨"_law_pool",top 7,["_law_cell","_law_letters","_law_number","_law_many","_law_stem","_law_at","_law_signs","_law_k","_law_names"],["_law_cell"],["range"],[10,9],S_z6,F_z6,.n,[]⟩,
 ⟨"_law_draws",top 8,["_law_cell","_law_many","_law_found","_law_digits","_law_k","_law_number","_law_mixed_here"],["_law_cell","_law_many"],["range"],[],S_z7,F_z7,.n,[]⟩,
 ⟨"_law_leaf",top 9,["_law_number","_law_kinds","_law_names","_law_name","_law_more","_law_some"],["_law_number","_law_kinds"],["len","list"],[],S_z8,F_z8,.n,[]⟩,
 ⟨"_law_tree",top 10,["_law_draws_here","_law_kinds","_law_most","_law_first","_law_held","_law_turn","_law_number","_law_last","_law_some","_law_one","_law_said"],["_law_draws_here","_law_kinds","_law_most","_law_first"],["len","range"],[],zj0,F_z9 0,.n,[]⟩,
 ⟨"_law_tree",top 10,["_law_draws_here","_law_kinds","_law_most","_law_first","_law_held","_law_turn","_law_number","_law_last","_law_some","_law_one","_law_said"],["_law_draws_here","_law_kinds","_law_most","_law_first"],["len","range"],[14,13],S_z9,F_z9 1,.n,[]⟩,
 ⟨"_law_tree",top 10,["_law_draws_here","_law_kinds","_law_most","_law_first","_law_held","_law_turn","_law_number","_law_last","_law_some","_law_one","_law_said"],["_law_draws_here","_law_kinds","_law_most","_law_first"],["len","range"],[15,13],S_z9,F_z9 2,.n,[]⟩,
 ⟨"_law_list",top 11,["_law_number","_law_names","_law_found","_law_many","_law_k","_law_name"],["_law_number","_law_names"],["tuple","range","len"],[],zb0,za1,.n,[]⟩,
 ⟨"_law_rows",top 12,["_law_script","_law_names","_law_rows_here","_law_kinds","_law_opens","_law_k","_law_cell","_law_draws_here","_law_kind","_law_known"],["_law_script"],["enumerate","list","len"],[17,16,12,11],zah,zai,.n,[]⟩,
 ⟨"_law_written",top 13,["_law_tree_here","_law_two"],["_law_tree_here"],["len","str"],[],zgz,z16 0,.n,[]⟩,
 ⟨"_law_written",top 13,["_law_tree_here","_law_two"],["_law_tree_here"],["len","str"],[19],z4i,z16 1,.n,[]⟩,
 ⟨"_law_written",top 13,["_law_tree_here","_law_two"],["_law_tree_here"],["len","str"],[20],z4i,z16 2,.n,[]⟩,
 ⟨"_law_written",top 13,["_law_tree_here","_law_two"],["_law_tree_here"],["len","str"],[21],z4i,z16 3,.n,[]⟩,
 ⟨"_law_written",top 13,["_law_tree_here","_law_two"],["_law_tree_here"],["len","str"],[22],z4i,z16 4,.n,[]⟩,
 ⟨"_law_written",top 13,["_law_tree_here","_law_two"],["_law_tree_here"],["len","str"],[23],z4i,z16 5,.n,[]⟩,
 ⟨"_law_written",top 13,["_law_tree_here","_law_two"],["_law_tree_here"],["len","str"],[24],z4i,z16 6,.n,[]⟩,
 ⟨"_law_line",top 14,["_law_row","_law_text","_law_name"],["_law_row"],[],[25],zfa,z81,.n,[]⟩]
abbrev Lr:DRow:=⟨"law",top 15,["_law_script","_law_rows_here","_law_handed","_law_found"],["_law_script"],["isinstance","str","list"],[26,8,18],zf4,z87,.n,[]⟩
abbrev Xt:List XR:=[]
theorem t_ok:oks (Rz++[Lr]) Xt FREE 0 (Rz++[Lr])=true:=by decide+kernel
theorem t_F:fOks (Rz++[Lr]) (Rz++[Lr]):=⟨rfl,rfl,rfl,rfl,rfl,rfl,rfl,rfl,rfl,rfl,rfl,rfl,rfl,rfl,rfl,rfl,rfl,rfl,rfl,rfl,rfl,rfl,rfl,rfl,rfl,rfl,rfl,rfl,trivial⟩
def zLd:nr:=⟨"law",z17 (top 15),z0p (top 15),z05 (top 15),⟨141,0,147,88⟩⟩
theorem zH3:KEq zKz (Rz++[Lr]) FREE Xt:=by
 rw[PySem.W.Fast.tkeq_eq];intro P
 kernel_rfl
theorem zT1:Tp.said PySem.Challenge.rw_likebook_k56_shown=true:=by
 rw[PySem.W.Fast.tsaid_eq]
 kernel_rfl
theorem zT2:W.opening zRp=W.plainProg zRp.main.scope.names:=by kernel_rfl
theorem zT3:∀s,fenceModules? zRp s=some s:=fun s=>by kernel_rfl
theorem zT4:W.defOf zQv PySem.Challenge.rw_likebook_k56_shown.row.name=some (zLd,[]):=by kernel_rfl
theorem zT5:zRp.theDef PySem.Challenge.rw_likebook_k56_shown.row.name=some (zLd.params,zLd.body,zLd.scope):=by kernel_rfl
theorem zT6:W.kwWritten? zLd.params.kwonlyargs zLd.params.kw_defaults=some []:=by kernel_rfl
theorem zT7:(!PySem.Challenge.rw_likebook_k56_shown.row.writes||PySem.Challenge.rw_likebook_k56_shown.row.records.isEmpty)=true:=by kernel_rfl
theorem zT8:(W.chainsOk zQv&&W.opensWell zRp&&(W.frees PySem.Challenge.rw_likebook_k56_shown.row.toRowW&&PySem.Challenge.rw_likebook_k56_shown.row.within.isEmpty))=true:=by kernel_rfl
theorem walk {l:W.OpenLaw}{q:ao}{loose:List Str}{XP:(Str->Option Value)->Heap->Prop}{YP:World->Heap->Prop}{d:nr}{K:dn->W.Frag}(hn:l.most=some 63)(hdf:d.params.defaults=[])
  (hY:∀(w:World) (h:Heap),YP w h->(K w.params).In h)
  (F:∀(w:World) (mg:Str->Option Value) (fa:Addr) (h:Heap),(K w.params).In h->h.Ns bj mg->mg d.name=some (.ref fa)->∃fd:cz,(∀(s:aa) (u:Value),lj s fd ⟨[u],[]⟩ [("_law_script",u)])/\∀base:Heap,(K w.params).In base->base.Ns bj mg->FnOk l.prog w (K w.params) mg base CX0 28 fa fd ["_law_script"] (spD (K w.params) 1 z87)):
  W.WalkO q loose XP YP l.row.toRowW d [] (fun f vs=>PySem.call f vs):=
 L2.walk_of (n:=63) (k:=28) (x:="_law_script") (CX:=fun _=>CX0) (sp:=fun w=>spD (K w.params) 1 z87) hn (by decide) hdf ⟨rfl,by decide,by decide⟩ hY F (fun _ _ a ns hl _ hS=>⟨_,_,_,rfl,z71 hS,zjd hl,fun v H' _ r=>r⟩) fun _ _ _ _ _ z=>z
theorem b_ok:bOks Rz:=⟨fun _ _ _ _ _ _=>by1 fun _=>rfl,fun _ _ _ _ _ _=>by1 fun _=>rfl,fun _ _ _ _ _ _=>by1 fun _=>rfl,fun _ _ _ _ _ _=>by1 fun _=>rfl,fun _ _ _ _ _ _=>by1 fun _=>rfl,fun _ _ _ _ _ _=>by1 fun _=>rfl,fun _ _ _ _ _ _=>by1 fun _=>rfl,fun _ _ _ _ _ _=>by1 fun _=>rfl,fun _ _ _ _ _ _=>by1 fun _=>rfl,fun _ _ _ _ _ _=>by2 fun _ _=>rfl,fun _ _ _ _ _ _=>by1 fun _=>rfl,fun _ _ _ _ _ _=>by1 fun _=>rfl,fun _ _ _ _ _ _=>by2 fun _ _=>rfl,fun _ _ _ _ _ _=>by2 fun _ _=>rfl,fun _ _ _ _ _ _=>by4 fun _ _ _ _=>rfl,fun _ _ _ _ _ _=>by4 fun _ _ _ _=>rfl,fun _ _ _ _ _ _=>by4 fun _ _ _ _=>rfl,fun _ _ _ _ _ _=>by2 fun _ _=>rfl,fun _ _ _ _ _ _=>by1 fun _=>rfl,fun _ _ _ _ _ _=>by1 fun _=>rfl,fun _ _ _ _ _ _=>by1 fun _=>rfl,fun _ _ _ _ _ _=>by1 fun _=>rfl,fun _ _ _ _ _ _=>by1 fun _=>rfl,fun _ _ _ _ _ _=>by1 fun _=>rfl,fun _ _ _ _ _ _=>by1 fun _=>rfl,fun _ _ _ _ _ _=>by1 fun _=>rfl,fun _ _ _ _ _ _=>by1 fun _=>rfl,trivial⟩
end Mk
open PySem PySem.W PyProof.Rows Mi
set_option maxRecDepth 100000 in
set_option maxHeartbeats 0 in
theorem PySem.Challenge.cw_likebook_k56_shown_holds : PySem.Challenge.rw_likebook_k56_shown.Holds := by
 refine Tp.holds (l:=PySem.Challenge.rw_likebook_k56_shown) (q:=Mk.zQv) (d:=Mk.zLd) (K:=Mk.zKz) (M:=100000) (N:=200000) Mk.zT1 (Tp.Ko_as _ _ Mk.zAs) Mk.zT2 rfl Mk.zT3 (by decide) Mk.zH1 Mk.zH2 Mk.zT4 Mk.zT5 Mk.zT6 Mk.zT7 Mk.zT8 ⟨rfl,rfl,rfl,rfl,rfl,by decide+kernel⟩ (by w_witness2) ?_;refine Mk.walk (l:=PySem.Challenge.rw_likebook_k56_shown) rfl rfl (fun w h Y=>Y) ?_;intro w mg fa h KX G hmg;exact all_rows (Rs:=Mk.Rz) (lr:=Mk.Lr) (xt:=Mk.Xt) (fr:=Mk.FREE) KX G hmg rfl rfl Mk.t_ok Mk.t_F (z7e (fun r hr=>(z42 Mk.zH3 w.params).1 r (di _ hr)) Mk.b_ok) ((z42 Mk.zH3 w.params).1 Mk.Lr (ar _ (.head _))) (fun _ _ _ _ _ _ s v=>.of_eq rfl) (z42 Mk.zH3 w.params).2.1 (z42 Mk.zH3 w.params).2.2.1 (fun z=>absurd rfl z) (z42 Mk.zH3 w.params).2.2.2
