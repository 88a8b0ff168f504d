import PyProof.Rows.All
import Wide.All
import OpenK.AllK
import Wide.FinOn
import Lean
import PyProof.EqAt
import PyProof.EqKinds
import PyProof.TupleCall
import PySem.Syntax
import PyProof.P3Statements
import PyProof.SliceList
import KE.KUnpack
import KE.KIntText
import PyProof.Rows.StrFirst
import PyProof.StrLawsTight
import PyProof.StrCalls2
import PyProof.AttrMissSeq
import PyProof.AttrMissHeap
import KE.KDictOf
import KE.KSortTup
import PyProof.DictItemsLoops
import KE.KPairComp
import KE.KItemsList
import KE.KDictSum
import PyProof.Draws
import PyProof.ZipIter
import PyProof.EnumMake
import PyProof.WalksEnum
import PyProof.Rows.SetFrom
import PyProof.SetRoads
import KE.KRevIter
import Open.Pieces
import OpenK.KWalk
import PyProof.Rows.Walk
import PyProof.P3In
import PyProof.FactsAll.dict
import PyProof.DictValues
import KE.KDictList
import PyProof.FactsAll.list_3
import PyProof.DictIter
import PyProof.ExcInit
import PyProof.InstStore
import PyProof.InstLoad
import PyProof.FactsAll.object_2
import PyProof.FactsAll.list_2
import PySem.Challenge.RW_likebook_k51_facts
noncomputable section
open Array renaming length_toList→dh,getElem?_eq_some_iff→gz,toArray_toList→i0,all_toList→lg,append_assoc→l6,getElem?_eq_getElem→mj,getElem?_toList→oh,toList_append→pb,find?_toList→pi,forIn_toList→pq,ext'→sw
open Bool renaming and_eq_true→aq,and_eq_true_iff→aw,false_ne_true→cw,or_eq_true_iff→d9,beq_eq_decide_eq→lc,or_eq_true→n9,eq_iff_iff→og,eq_false_iff→qe,not_eq_true'→qf,or_true→qk
open Int renaming emod_nonneg→fm,emod_lt_of_pos→g9,toNat_natCast→mo
open List renaming mem_cons_of_mem→ah,mem_cons_self→ai,mem_cons→ak,getD_eq_getElem?_getD→am,size_toArray→ao,length_map→av,length_cons→ay,getElem?_eq_getElem→bg,replicate→bj,map_cons→bn,getElem?_eq_some_iff→bo,all_eq_true→bp,contains_iff_mem→bq,length_append→br,getElem?_map→bu,all_cons→bz,mem_append_right→b8,mem_singleton→ce,getElem?_set_ne→cf,mem_map→ci,getElem?_replicate→cj,length_replicate→cn,lookup_cons→cx,getElem?_set_self→db,length_set→df,map_inj_left→dg,append_nil→dj,getElem?_set→dt,mem_of_getElem?→du,range→dv,map_map→dw,mem_append→dz,filterMap_cons→d5,mem_append_left→d7,not_mem_nil→d8,length_take→f8,length_range→gc,getElem?_cons_succ→gg,find?_cons→gh,filter_eq_self→gk,length_drop→gq,getElem_mem→gr,getElem?_append_right→gu,getElem?_append_left→ij,drop_eq_getElem_cons→im,nodup_cons→iu,length_eq_zero_iff→ja,any_cons→jd,getElem?_eq_none→ji,getElem?_eq_none_iff→jt,toList_toArray→jx,forIn_cons→j5,map_append→j7,lookup→kj,flatten_cons→k8,drop_length→lh,mem_of_mem_drop→lp,mem_of_mem_take→lq,getElem?_append→lr,takeWhile_cons→lx,mem_range→l7,mem_filterMap→l8,forIn_nil→md,contains_cons→mf,pairwise_cons→mi,ext_getElem?→mn,filterMap_cons_none→mw,filterMap_cons_some→mx,mem_flatten→nh,getElem?_cons_zero→ni,countP_cons→nj,take_of_length_le→n4,of_mem_zip→n8,replicate_succ→oz,getElem?_range→o0,map_congr_left→o5,Pairwise→pf,append_assoc→qg,set_set→ql,map→qm,length→qu,map_id→q8
open Nat renaming le_refl→aj,lt_of_lt_of_le→bv,le_trans→bw,ne_of_lt→cg,lt_irrefl→de,zero_le→d6,le_add_right→jq,le_succ→km,lt_trans→lz,lt_succ_self→m7,succ_le_succ→nc,ne_of_gt→nq,add_sub_cancel'→oy,add_le_add_left→o9,lt_of_le_of_lt→pw,le_of_lt→pz
open Option renaming map_eq_some_iff→dn,isNone_iff_eq_none→fo,bind_eq_some_iff→kq,isSome_map→ml
open Prod renaming fst→qo,snd→sx
open PyProof.Rows renaming kindOf→lf,AllBare→ly,subscriptTail_builtinR→nz,size_push'→n5,envOfC→on,IntsAre→rj
open PySem renaming wpAny_bind→aa,Shared→ae,PyData→ag,wpAny_pure→au,Program→ax,sizeLine→az,mainGlobals→bh,wpAny_loadPart_at→bx,Around→cq,compareOp→cr,starEach→cu,bootBuiltins→cz,FuncData→di,sizeLine_eq→dq,wpAny_field→dr,wpAny_truthy_bool→eh,assignEach→et,Params→eu,wpAny_setField_rec→e7,PassesOwn→fg,foldedSetIterable→fi,NameKind→fj,wpAny_Call_Name_kw→fv,wpAny_holding→f9,wpAny_callSpecial?_slot→gb,binaryOp→gj,behindInMarks→gp,wpAny_seqItems→gv,letOwnedTupleGo→ip,wpAny_newObj_type→iz,sysModules→i3,backTo→i4,attributeBase→i5,wpAny_isSubtype_exc→i7,wpAny_call_entry→i8,wpAny_getItem_str_slice→i9,wpAny_mono→jb,tupleKind_room_in1→jc,wpAny_standAt→jf,noteFrame→jg,rawInt→jh,Operator→jl,codeAny_call_builtin→jm,unbindBehindTheSuite→jn,swapsWith→jo,codeAny_mono→jp,setFlight→jr,Comprehension→jy,wpAny_passesOwn→jz,Keyword→j4,importedModules→j6,Paired→j8,call_meets→ki,keywordEach→kn,sliceBounds→ko,treeTable→kr,wpAny_pyIter_list→ku,codeAny→ky,wpAny_setField→k9,plainObj_wpAny_Assign_Attribute→lb,checkBuiltinCall→li,wpAny_onRaise→lj,OsState→ll,post_val_or_str→ls,wpAny_rule→ma,isInstance→mh,excClassObj→mq,wpAny_comprehension_free→mv,tupleKind→my,GenState→mz,lastMarks→m6,backToKw→m8,noFill_tuple_add→m9,assign→nk,wpAny_call→nr,leaving→nv,concat_meets→ny,typeIs_str→n3,wpAny_execs_nil→n6,isTrue→oj,wpAny_loadName_local→ol,sliceRange_one→oo,handleBy→oq,valueAt→ou,callerA→ow,OwnTail→ox,wpAny_raiseNew_none→o8,swapsWithSole→pc,swappedStores→pd,seq_tuple_add→pe,wpAny_Name→ph,IsPart→pj,wpAny_pyIter_tuple→pp,excMatches→pv,wpAny_assign_Name→p6,BindsTo→p9,getItem→qa,call_meetsIn→qb,seqIndex_neg→qc,slot_list_getitem→qd,wpAny_pyIter_enum→qj,pyNext→qp,pyIter→qq,Result→qr,seqIndex?→qt,seqIndex_of→qv,wpAny_letGo→qx,builtinKind→qy,standAt→q9,holding→rc,getAttr→rh,builtinsNs→rq,truthy→se,wpAny_load→sf,bindArgs→si,PlainAttrs→sk,typeOf→sr,setAttr→sy,DefRec→tf,relabel→tq
open PySem.Builtin.Slice renaming slicePlaces→ik,sliceAdjust→ju,sliceApplied→l9
open PySem.Builtin.SmallTypes renaming nextOf→cv,ownedTupleIsFree→eo,ownedTupleHandOut→jv
open PySem.Builtin.Str renaming occurrences→cy,strSliceIndices→gm,strKind→o6,glued→qh
open PySem.Builtin.Tuple renaming tupleExact→i6
open PySem.Calls renaming Name_function_global→jk,spliced_cons→j9,callWith_builtin→kz,evalArgs_plain→lm,loadGlobal_global→m5,spliced_nil→p8
open PySem.Heap renaming get?_push_of_some→af,get?_push_size→ba,lt_size→bc,SameBut→b9,get?_update_other→fk,get?_update_self→fq,get?_none_of_le→iw,MadeExcOf→la,get?_update_ne→lw,get?_push_at→mr,size_push→om
open PySem.Heap.Ns1 renaming of_empty→p7
open PySem.Heap.SameBut renaming update→o7
set_option Elab.async false
set_option linter.all false
set_option maxRecDepth 100000
theorem tu {p:Prop} [Decidable p] (h:decide p=true):p:=of_decide_eq_true h
theorem tz {p:Prop} [Decidable p] (h:p):decide p=true:=decide_eq_true h
theorem t7 {p:Prop} [Decidable p] (h:¬p):decide p=false:=decide_eq_false h
theorem t8 {α} [BEq α] [LawfulBEq α] {a b:α}(h:(a==b)=true):a=b:=beq_iff_eq.mp h
namespace Tp
open PySem PySem.W PyProof.Rows
def q0:Pos:=⟨0,0,0,0⟩
def an:Option Value:=some (.ref 6)
def ev (p:ax):Env:={scope:=p.main.scope,locals:=mainNs,globals:=mainNs,cells:=[],code:=.ref 13,frame:=some 14}
def cd (p:ax):Code:=.body (behindTheImports p) (ev p)
def grow:List Obj->Nat->BT->BT
 | [],_,t=>t
 |o::l,i,t=>grow l (i+1) (t.ins i o)
def lift (s:ae):SharedT:=⟨grow s.heap.objs.toList 0 .nil,s.heap.objs.size,s.heap.life,s.gens,s.drawn,s.toks,s.os⟩
def pre (p:ax)(H:eu->Heap)(d:Drawn)(k:Nat)(w:World)(os:ll):Option (ae×Thread):=topGo kr p w 11 an 12 ⟨H w.params,#[],d,k,os⟩ (topStub p)
def preS (p:ax)(H:eu->Heap)(d:Drawn)(k:Nat)(w:World)(os:ll):SharedT:=lift (((pre p H d k w os).map qo).getD ⟨H w.params,#[],d,k,os⟩)
def run (p:ax)(H:eu->Heap)(d:Drawn)(k N:Nat)(w:World)(os:ll):Option (Flow×SharedT×Code×Pos):=segRunT kr p w 11 an 1 N (preS p H d k w os) (piecesOf (behindTheImports p) (ev p) (cd p) q0 [topFrame q0])
def PreEq (p:ax)(H:eu->Heap)(d:Drawn)(k:Nat):Prop:=∀(w:World) (os:ll),((H w.params).isNs bh&&(#[]:Array mz).size==0,(H w.params).objs.size,(H w.params).nsMap bh "__annotations__",pre p H d k w os,fun s c=>segRun kr p w 11 an 1 1 s (blockOf (behindTheImports p) (ev p) c q0 [topFrame q0]))=(true,11,an,some ((preS p H d k w os).abs,⟨denote kr (cd p),cd p,q0,[topFrame q0]⟩),fun s c=>some (.next,s,c,q0))
def seen (p q:ax)(R:WRecords)(as:List Addr)(H:eu->Heap)(w:World)(s:SharedT):=(staticsOk (j6 p.main.body) (H w.params) s.abs.heap&&namesBound p s.abs.heap&&gensDone s.abs&&laidKept (H w.params) s.abs.heap,openSeen q [] (j6 p.main.body) (fun s=>xlAt q [] s&&recOk R s) true s.abs,as.map s.abs.heap.get?)
def pick {α:Type}(f:SharedT->α):Flow×SharedT×Code×Pos->Option (Code×α)
 |(.next,s,c,_)=>some (c,f s)
 |_=>none
def RunEq (p q:ax)(R:WRecords)(as:List Addr)(K:eu->List (Addr×Obj))(H:eu->Heap)(d:Drawn)(k N:Nat):Prop:=∀(w:World) (os:ll),(run p H d k N w os).bind (pick (seen p q R as H w))=some (cd p,true,openGood q [],(K w.params).map fun x=>some x.2)
theorem fin_ (tb:String->Option Builtin)(p:ax)(w:World)(n:Nat)(a:Option Value)(s:ae)(c:Code)(ps q:Pos):topRun tb p w n a 2 s ⟨doneF .next,c,ps,[topFrame q]⟩=some s:=by obtain⟨h,g,d,k,os⟩:=s;rfl
theorem left {p q:ax}{R:WRecords}{as:List Addr}{K:eu->List (Addr×Obj)}{M N:Nat}(o:∀w,(fencedOpening kr p w N).map (fun s=>(s.heap,s.gens,s.drawn,s.toks))=some (boot_heap w.params,#[],boot_drawn,boot_toks))(le:12+(1+(M+2))<=N)
  (h1:PreEq p boot_heap boot_drawn boot_toks) (h2:RunEq p q R as K boot_heap boot_drawn boot_toks M):LeftO p q [] (fun s=>xlAt q [] s&&recOk R s) (fun s=>as.map s.heap.get?) (fun w=>(K w.params).map fun x=>some x.2) N:=fun w=>by
 obtain⟨⟨h,gs,d,k,os⟩,e,e'⟩:=dn.mp (o w);have e1:=Prod.mk.inj e';have e2:=Prod.mk.inj e1.2;have e3:=Prod.mk.inj e2.2;obtain rfl:h=boot_heap w.params:=e1.1;obtain rfl:gs=#[]:=e2.1;obtain rfl:d=boot_drawn:=e3.1;obtain rfl:k=boot_toks:=e3.2;have a:=Prod.mk.inj (h1 w os);have a2:=Prod.mk.inj a.2;have a3:=Prod.mk.inj a2.2;have a4:=Prod.mk.inj a3.2;obtain⟨⟨f,s,c,ps⟩,r1,r2⟩:=kq.mp (h2 w os);cases f with
 |next=>
  have b:=Prod.mk.inj (Option.some.inj r2);have b1:=Prod.mk.inj b.2;have b2:=Prod.mk.inj b1.2;obtain rfl:c=cd p:=b.1;have t1:topRun kr p w 11 an (M+2) (preS p boot_heap boot_drawn boot_toks w os).abs (restOf (behindTheImports p++[]) (ev p) (cd p) q0 [topFrame q0])=some s.abs:=piece_app (segRun_of r1) (fin_ kr p w 11 an s.abs (cd p) ps q0);rw[dj]at t1;have t2:=piece_block (congrFun (congrFun a4.2 (preS p boot_heap boot_drawn boot_toks w os).abs) (cd p)) t1;have t3:=go_top a4.1 t2;have t4:=topRun_mono (N-(12+(1+(M+2)))) _ _ _ _ t3;rw[oy le]at t4
  have t:topFrom kr p w N ⟨boot_heap w.params,#[],boot_drawn,boot_toks,os⟩=some s.abs:=by
   unfold topFrom
   dsimp only
   rw[a.1,a2.1,a3.1,t4];show(match staticsOk (j6 p.main.body) (boot_heap w.params) s.abs.heap&&namesBound p s.abs.heap&&gensDone s.abs&&laidKept (boot_heap w.params) s.abs.heap with|true=>some s.abs|false=>none)=_;rw[b1.1]
  unfold openEnds;rw[e];show(topFrom kr p w N _).map _=_;rw[t];exact congrArg some (Prod.ext b2.1 b2.2)
 |_=>cases r2
theorem pre_r:PreEq=PreEq:=rfl
def zdq (p q:ax)(R:WRecords)(H:eu->Heap)(w:World)(s:SharedT):=(staticsOk (j6 p.main.body) (H w.params) s.abs.heap&&namesBound p s.abs.heap&&gensDone s.abs&&laidKept (H w.params) s.abs.heap,openSeen q [] (j6 p.main.body) (fun s=>xlAt q [] s&&recOk R s) true s.abs)
def RunA (p q:ax)(R:WRecords)(H:eu->Heap)(d:Drawn)(k N:Nat):Prop:=∀(w:World) (os:ll),(run p H d k N w os).bind (pick (zdq p q R H w))=some (cd p,true,openGood q [])
def RunB (p:ax)(as:List Addr)(K:eu->List (Addr×Obj))(H:eu->Heap)(d:Drawn)(k N:Nat):Prop:=∀(w:World) (os:ll),(run p H d k N w os).bind (pick fun s=>as.map s.abs.heap.get?)=some (cd p,(K w.params).map fun x=>some x.2)
theorem zdg {α β:Type}{f:SharedT->α}{g:SharedT->β}{x:Option (Flow×SharedT×Code×Pos)}{c:Code}{a:α}{b:β}(h1:x.bind (pick f)=some (c,a))(h2:x.bind (pick g)=some (c,b)):x.bind (pick fun s=>(f s,g s))=some (c,a,b):=by
 cases x with
 |none=>cases h1
 |some y=>
  obtain⟨fl,s,c',ps⟩:=y;cases fl with
  |next=>have e1:=Prod.mk.inj (Option.some.inj (show some (c',f s)=some (c,a)from h1));have e2:=Prod.mk.inj (Option.some.inj (show some (c',g s)=some (c,b)from h2));show some (c',f s,g s)=_;rw[e1.1,e1.2,e2.2]
  |_=>cases h1
theorem run_ab {p q:ax}{R:WRecords}{as:List Addr}{K:eu->List (Addr×Obj)}{H:eu->Heap}{d:Drawn}{k N:Nat}(h1:RunA p q R H d k N)(h2:RunB p as K H d k N):RunEq p q R as K H d k N:=fun w os=>by
 have h:=zdg (h1 w os) (h2 w os);cases e:run p H d k N w os with
 |none=>rw[e]at h;cases h
 |some y=>
  rw[e]at h;obtain⟨fl,s,c',ps⟩:=y;cases fl with
  |next=>have e1:=Prod.mk.inj (Option.some.inj (show some (c',(zdq p q R H w s,as.map s.abs.heap.get?))=some (cd p,(true,openGood q []),_)from h));have e2:=Prod.mk.inj e1.2;show some (c',(zdq p q R H w s).1,(zdq p q R H w s).2,as.map s.abs.heap.get?)=_;rw[e1.1,e2.2,e2.1]
  |_=>cases h
theorem runA_r:RunA=RunA:=rfl
theorem runB_r:RunB=RunB:=rfl
end Tp
lay_quick Tp.PreEq Tp.RunA Tp.RunB
name_quick tpre for Tp.PreEq by Tp.pre_r
name_quick truna for Tp.RunA by Tp.runA_r
name_quick trunb for Tp.RunB by Tp.runB_r
namespace Tp
open PySem PySem.W PyProof.Rows
theorem rn_r:run=run:=rfl
end Tp
name_quick trn for Tp.run by Tp.rn_r
namespace Tp
open PySem PySem.W PyProof.Rows
def obj (p:ax)(M:Nat)(P:eu)(a:Addr):Obj:=((PySem.W.Fast.trn p boot_heap boot_drawn boot_toks M ⟨fun _ _=>0,P⟩ default).map fun x=>(x.2.1.tree.get a).getD default).getD default
def Ko (p:ax)(M:Nat)(as:List Addr)(P:eu):Frag:=as.map fun a=>(a,obj p M P a)
theorem Ko_as (p:ax)(M:Nat)(as:List Addr)(P:eu):as=(Ko p M as P).map (·.1):=by unfold Ko;rw[dw];exact(q8 _).symm
def said (l:OpenLaw):Bool:=l.wellSaid
theorem said_r:said=said:=rfl
theorem holds {l:OpenLaw}{q:ax}{d:tf}{as:List Addr}{K:eu->Frag}{M N:Nat}(ws:said l=true)(ek:∀P,as=(K P).map (·.1))(o1:opening l.row.prog=plainProg l.row.prog.main.scope.names)(o2:Nat.ble 600 N=true)(o3:∀s,fenceModules? l.row.prog s=some s)(le:12+(1+(M+2))<=N)
  (h1:PreEq l.row.prog boot_heap boot_drawn boot_toks) (h2:RunEq l.row.prog q l.row.records as K boot_heap boot_drawn boot_toks M) (a1:defOf q l.row.name=some (d,[])) (a2:l.row.prog.theDef l.row.name=some (d.params,d.body,d.scope)) (a3:kwWritten? d.params.kwonlyargs d.params.kw_defaults=some []) (a4:(!l.row.writes||l.row.records.isEmpty)=true)
  (a5:(chainsOk q&&opensWell l.row.prog&&(frees l.row.toRowW&&l.row.within.isEmpty))=true) (a6:l.row.prog.bare) (a7:l.row.toRowW.promised) (call:WalkO q [] (XL q []) (InK K) l.row.toRowW d [] fun f vs=>PySem.call f vs):l.Holds:=
 holds_law ws fun z=>holds_open (left (boot_open o1 o2 o3) le h1 h2) (InK.of ek) InK.keeps (fun s e=>xl_of s (aw.mp e).1) XL.keeps a1 a2 a3 (fun s e=>recFacts_of (aw.mp e).2) a4 z a5 a6 a7 call
end Tp
lay_quick Tp.said
name_quick tsaid for Tp.said by Tp.said_r
namespace Mk
open PySem PySem.Spec PyProof.Rows
abbrev zRp:ax:=PySem.Challenge.rw_likebook_k51_facts.row.prog
def zQv:ax:=W.view zRp [1,2,3,4,5,6,7,8,9,10,11,12,13,15,16,18,20,21,22,23,24,25,26,27,28,29,30,31,32,33,34,36,37,38,39,40,41,42,43,44]
def zAs:List Addr:=dv 397
def zKz:eu->W.Frag:=Tp.Ko zRp 100000 zAs
theorem zH1:Tp.PreEq zRp W.boot_heap W.boot_drawn W.boot_toks:=by
 rw[PySem.W.Fast.tpre_eq];intro w os
 kernel_rfl
theorem zH2a:Tp.RunA zRp zQv PySem.Challenge.rw_likebook_k51_facts.row.records W.boot_heap W.boot_drawn W.boot_toks 100000:=by
 rw[PySem.W.Fast.truna_eq];intro w os
 kernel_rfl
theorem zH2b:Tp.RunB zRp zAs zKz W.boot_heap W.boot_drawn W.boot_toks 100000:=by
 rw[PySem.W.Fast.trunb_eq];intro w os
 kernel_rfl
theorem zH2:Tp.RunEq zRp zQv PySem.Challenge.rw_likebook_k51_facts.row.records zAs zKz W.boot_heap W.boot_drawn W.boot_toks 100000:=Tp.run_ab zH2a zH2b
end Mk
namespace L2
open PySem PySem.Spec PyProof.Rows
abbrev Key:=Sum Int Str
def z8z:Key->Value->Bool
 |.inl k,v=>Value.isInt k v
 |.inr x,v=>Value.isStrOf x v
def keyH (w:World):Key->Int
 |.inl k=>hashInt k
 |.inr x=>hashStr w x
theorem z0j:∀{k:Key} {v:Value},z8z k v=true->(∃i t,k=Sum.inl i/\v=Value.int i t)\/(∃x t,k=Sum.inr x/\v=Value.str x t)
 |.inl i,v,h=>by obtain⟨t,e⟩:=Value.isInt_shape (k:=i) (v:=v) h;exact .inl ⟨i,t,rfl,e⟩
 |.inr x,v,h=>by obtain⟨t,e⟩:=Value.isStrOf_shape (x:=x) (v:=v) h;exact .inr ⟨x,t,rfl,e⟩
theorem zbt (i:Int)(t:Tok):z8z (.inl i) (.int i t)=true:=by simp[z8z,Value.isInt]
theorem zc0 (x:Str)(t:Tok):z8z (.inr x) (.str x t)=true:=by simp[z8z,Value.isStrOf]
theorem zn5 (a b:Int):decide ((Sum.inl a:Key)=Sum.inl b)=(a==b):=by
 by_cases e:a=b
 ·subst e;simp
 ·have h:¬(Sum.inl a:Key)=Sum.inl b:=fun q=>e (Sum.inl.inj q);rw[t7 h];exact(beq_eq_false_iff_ne.mpr e).symm
theorem zlf (a b:Str):decide ((Sum.inr a:Key)=Sum.inr b)=decide (a=b):=by
 by_cases e:a=b
 ·subst e;simp
 ·have h:¬(Sum.inr a:Key)=Sum.inr b:=fun q=>e (Sum.inr.inj q);rw[t7 h,t7 e]
theorem zm8 (a:Int)(b:Str):decide ((Sum.inl a:Key)=Sum.inr b)=false:=t7 (fun q=>nomatch q)
theorem zlx (a:Str)(b:Int):decide ((Sum.inr a:Key)=Sum.inl b)=false:=t7 (fun q=>nomatch q)
def z0i (prog:ax)(w:World):PySem.KeyKind prog w Key where
 is:=z8z
 hash:=keyH w
 inj:=fun v a b ha hb=>by
  rcases z0j ha with⟨i,t,rfl,rfl⟩|⟨x,t,rfl,rfl⟩
  ·rcases z0j hb with⟨j,u,rfl,e⟩|⟨y,u,rfl,e⟩
   ·injection e with e1 _;rw[e1]
   ·exact nomatch e
  ·rcases z0j hb with⟨j,u,rfl,e⟩|⟨y,u,rfl,e⟩
   ·exact nomatch e
   ·injection e with e1 _;rw[e1]
 byValue:=fun k v h=>by rcases z0j h with⟨i,t,rfl,rfl⟩|⟨x,t,rfl,rfl⟩<;>rfl
 pyHash:=fun hv h=>by
  rcases z0j hv with⟨i,t,rfl,rfl⟩|⟨x,t,rfl,rfl⟩
  ·exact wpAny_pyHash_int h
  ·exact wpAny_pyHash_str h
 eqBool:=fun hu hv h=>by
  rcases z0j hu with⟨i,t,rfl,rfl⟩|⟨x,t,rfl,rfl⟩
  ·rcases z0j hv with⟨j,u,rfl,rfl⟩|⟨y,u,rfl,rfl⟩
   ·rw[zn5]at h;exact wpAny_eqBool_int h
   ·rw[zm8]at h;exact SeqAt.EqAt.int_str i t y u _ _ _ _ h
  ·rcases z0j hv with⟨j,u,rfl,rfl⟩|⟨y,u,rfl,rfl⟩
   ·rw[zlx]at h;exact SeqAt.EqAt.str_int x t j u _ _ _ _ h
   ·rw[zlf]at h;exact wpAny_eqBool_str h
 «strs»:=fun k x t v h=>by
  rcases z0j h with⟨i,u,rfl,e⟩|⟨y,u,rfl,e⟩
  ·exact nomatch e
  ·injection e with e1 _;subst e1;cases v<;>rfl
theorem z6o (prog:ax)(w:World)(i:Int)(t:Tok):(z0i prog w).is (.inl i) (.int i t)=true:=zbt i t
theorem z65 (prog:ax)(w:World)(x:Str)(t:Tok):(z0i prog w).is (.inr x) (.str x t)=true:=zc0 x t
inductive V where
 |non|bl (b:Bool)|int (i:Int)|str (x:Str)|ref (a:Addr)|ty (n:String)
 deriving DecidableEq
def RelV:V->Value->Prop
 |.non,u=>u=Value.none
 |.bl b,u=>u=Value.bool b
 |.int i,u=>∃t,u=Value.int i t
 |.str x,u=>∃t,u=Value.str x t
 |.ref a,u=>u=Value.ref a
 |.ty n,u=>u=Value.type n
abbrev Vals:List V->List Value->Prop:=j8 RelV
theorem Vals.length {xs:List V}{us:List Value}(r:Vals xs us):xs.length=us.length:=Paired.length r
theorem Vals.get:∀{xs:List V} {us:List Value} {i:Nat} {x:V},Vals xs us->xs[i]?=some x->∃u,us[i]?=some u/\RelV x u
 |_,_,_,_,.nil,e=>by simp at e
 |_,_,0,_,.cons r _,e=>by simp at e;subst e;exact⟨_,rfl,r⟩
 |_,_,i+1,x,.cons _ t,e=>by obtain⟨u,h1,h2⟩:=Vals.get (i:=i) (x:=x) t (by simpa using e);exact⟨u,by simpa using h1,h2⟩
theorem Vals.set {x:V}{u:Value}(r:RelV x u):∀{xs:List V} {us:List Value} (i:Nat),Vals xs us->Vals (xs.set i x) (us.set i u)
 |_,_,_,.nil=>.nil
 |_,_,0,.cons _ t=>.cons r t
 |_,_,i+1,.cons q t=>.cons q (Vals.set r i t)
theorem Vals.append:∀{xs ys:List V} {us ws:List Value},Vals xs us->Vals ys ws->Vals (xs++ys) (us++ws)
 |_,_,_,_,.nil,s=>s
 |_,_,_,_,.cons r t,s=>.cons r (Vals.append t s)
theorem Vals.take:∀{xs:List V} {us:List Value} (n:Nat),Vals xs us->Vals (xs.take n) (us.take n)
 |_,_,0,_=>.nil
 |_,_,_+1,.nil=>.nil
 |_,_,n+1,.cons r t=>.cons r (Vals.take n t)
theorem Vals.drop:∀{xs:List V} {us:List Value} (n:Nat),Vals xs us->Vals (xs.drop n) (us.drop n)
 |_,_,0,r=>r
 |_,_,_+1,.nil=>.nil
 |_,_,n+1,.cons _ t=>Vals.drop n t
theorem Vals.none_of:∀{xs:List V} {us:List Value} {i:Nat},Vals xs us->xs[i]?=none->us[i]?=none:=fun{xs us i} r e=>by have h1:=r.length;have h2:xs.length<=i:=jt.mp e;exact jt.mpr (by omega)
def RelO:Option V->Option Value->Prop
 |some v,some u=>RelV v u
 |none,none=>True
 |_,_=>False
def KV {κ:Type}:List (κ×V)->List (κ×Value)->Prop:=j8 fun(p:κ×V) (q:κ×Value)=>p.1=q.1/\RelV p.2 q.2
def kV:Key->V
 |.inl i=>.int i
 |.inr x=>.str x
inductive HO where
 |lst (xs:List V)
 |tup (xs:List V)
 |dK (kvs:List (Key×V))|dT (kvs:List (List Key×V))
 |set (S:Int->Bool) (n:Nat)
 |ins (C dx:Addr) (fs:List (Str×V))
 |own (x:Addr)
 |xd (fs:List (Str×V))
 |frz (o:Obj) (u:HO)
 |tbl (ps:Array Value)
 |ext (φ:Heap->Prop)
abbrev Hp:=Addr->Option HO
def upd (H:Hp)(a:Addr)(o:HO):Hp:=fun b=>if b=a then some o else H b
theorem z02 {H:Hp}{a:Addr}{o:HO}:upd H a o a=some o:=by unfold upd;rw[if_pos rfl]
theorem z01 {H:Hp}{a b:Addr}{o:HO}(h:b≠a):upd H a o b=H b:=by unfold upd;rw[if_neg h]
theorem zp2 {H:Hp}{a b:Addr}{o u:HO}(h:H a=some o)(h':H b=some u)(d:o≠u):a≠b:=by intro e;subst e;rw[h]at h';exact d (Option.some.inj h')
theorem z0b {H:Hp}{a b:Addr}{o:HO}(h:H a=some o)(h':H b=none):a≠b:=by intro e;subst e;rw[h]at h';cases h'
def TupN (h:Heap)(a:Addr)(l:Array Value):Prop:=∃n,h.get? a=some {cls:=.type "tuple",data:=.seq l n}
theorem TupN.tup {h:Heap}{a:Addr}{l:Array Value}(x:TupN h a l):IsTup h a l:=let⟨n,q⟩:=x;⟨_,q,rfl,n,rfl⟩
theorem TupN.new (h:Heap)(l:Array Value):TupN (h.push {cls:=.type "tuple",data:=.seq l}) h.objs.size l:=⟨_,ba _ rfl⟩
section
variable (P:ax)(w:World)
def z0s (H:Hp)(h:Heap)(a:Addr):HO->Prop
 |.lst xs=>xs.length<=az/\∃(its:List Value) (n:Nat),Vals xs its/\h.get? a=some {cls:=.type "list",data:=.seq its.toArray n}
 |.tup xs=>xs.length<=az/\∃its:List Value,Vals xs its/\TupN h a its.toArray
 |.dK kvs=>kvs.length<=az/\(a==i3)=false/\∃vs,KV kvs vs/\h.DictOf (z0i P w) a vs
 |.dT kvs=>kvs.length<=az/\(a==i3)=false/\∃xs:List (List Key×Addr×Value),
  j8 (fun(p:List Key×V) (q:List Key×Addr×Value)=>p.1=q.1/\H q.2.1=some (.tup (p.1.map kV))/\RelV p.2 q.2.2) kvs xs/\
  ∃o es ep,h.get? a=some o/\o.ExactDict/\o.data=.dict es ep/\es.toList=xs.map (entryOfKey (my (z0i P w)))/\(xs.map (·.1)).Nodup
 |.set S n=>h.SetOf (intKind P w) a S n
 |.ins C dx fs=>H dx=some (.own a)/\fs.length<=1000/\dx≠a/\h.get? a=some (W.instObj C dx)/\∃mA,h.Ns1 dx mA/\(∀f,RelO (fs.lookup f) (mA f))/\PySem.Within mA (fs.map (·.1))
 |.own _=>∃o,h.get? a=some o
 |.xd fs=>∃mA,h.Ns1 a mA/\∀f,RelO (fs.lookup f) (mA f)
 |.frz o u=>h.get? a=some o/\z0s H h a u
 |.tbl ps=>h.get? a=some {cls:=.none,data:=.fields ps}
 |.ext φ=>φ h/\(∃o,h.get? a=some o)/\∀h1 h2:Heap,φ h1->(∀o,h1.get? a=some o->h2.get? a=some o)->φ h2
def HOk (H:Hp)(h:Heap):Prop:=∀a o,H a=some o->z0s P w H h a o
end
section
variable {P:ax}{w:World}{H H':Hp}{h h':Heap}{a:Addr}{o:HO}
theorem z0s.lt (x:z0s P w H h a o):a<h.objs.size:=by
 cases o with
 |lst xs=>obtain⟨_,_,_,_,e⟩:=x;exact bc e
 |tup xs=>obtain⟨_,_,_,_,q⟩:=x;exact bc q
 |dK kvs=>obtain⟨_,_,_,_,o,_,_,e,_⟩:=x;exact bc e
 |dT kvs=>obtain⟨_,_,_,_,o,_,_,e,_⟩:=x;exact bc e
 |set S n=>obtain⟨o,_,_,_,e,_⟩:=x;exact bc e
 |ins C dx fs=>obtain⟨_,_,_,e,_⟩:=x;exact bc e
 |own y=>obtain⟨_,e⟩:=x;exact bc e
 |xd fs=>obtain⟨_,⟨_,_,_,e,_⟩,_⟩:=x;exact bc e
 |frz ob u=>obtain⟨e,_⟩:=x;exact bc e
 |tbl ps=>exact bc (show h.get? a=some _ from x)
 |ext φ=>obtain⟨_,⟨_,e⟩,_⟩:=x;exact bc e
theorem Paired.mapP {α β:Type}{F G:α->β->Prop}:∀{l₁:List α} {l₂:List β},j8 F l₁ l₂->(∀a b,F a b->G a b)->j8 G l₁ l₂
 |_,_,.nil,_=>.nil
 |_,_,.cons r t,f=>.cons (f _ _ r) (Paired.mapP t f)
theorem z0s.stay (x:z0s P w H h a o)(k:∀b u,(b=a\/H b=some (.own a))->h.get? b=some u->h'.get? b=some u)
  (ho:∀b,H b=some (.own a)->H' b=some (.own a)) (ht:∀b xs,H b=some (.tup xs)->H' b=some (.tup xs)):z0s P w H' h' a o:=by
 induction o with
 |lst xs=>obtain⟨z,its,n,r,e⟩:=x;exact⟨z,its,n,r,k _ _ (.inl rfl) e⟩
 |tup xs=>obtain⟨z,l,r,n,q⟩:=x;exact⟨z,l,r,n,k _ _ (.inl rfl) q⟩
 |dK kvs=>obtain⟨z,y,vs,r,ob,es,ep,e,c⟩:=x;exact⟨z,y,vs,r,ob,es,ep,k _ _ (.inl rfl) e,c⟩
 |dT kvs=>obtain⟨z,y,xs,r,ob,es,ep,e,c⟩:=x;exact⟨z,y,xs,Paired.mapP r fun p q z=>⟨z.1,ht _ _ z.2.1,z.2.2⟩,ob,es,ep,k _ _ (.inl rfl) e,c⟩
 |set S n=>obtain⟨ob,es,ep,t,e,c⟩:=x;exact⟨ob,es,ep,t,k _ _ (.inl rfl) e,c⟩
 |ins C dx fs=>obtain⟨d,z,ne,e,mA,⟨od,es,ep,e2,c⟩,r⟩:=x;exact⟨ho _ d,z,ne,k _ _ (.inl rfl) e,mA,⟨od,es,ep,k _ _ (.inr d) e2,c⟩,r⟩
 |own y=>obtain⟨ob,e⟩:=x;exact⟨ob,k _ _ (.inl rfl) e⟩
 |xd fs=>obtain⟨mA,⟨od,es,ep,e,c⟩,r⟩:=x;exact⟨mA,⟨od,es,ep,k _ _ (.inl rfl) e,c⟩,r⟩
 |frz ob u ih=>obtain⟨e,q⟩:=x;exact⟨k _ _ (.inl rfl) e,ih q⟩
 |tbl ps=>have e:h.get? a=some {cls:=.none,data:=.fields ps}:=x;show h'.get? a=some {cls:=.none,data:=.fields ps};exact k a _ (.inl rfl) e
 |ext φ=>obtain⟨p,⟨o,e⟩,st⟩:=x;exact⟨st _ _ p fun o q=>k _ _ (.inl rfl) q,⟨o,k _ _ (.inl rfl) e⟩,st⟩
theorem HOk.lt (x:HOk P w H h)(e:H a=some o):a<h.objs.size:=(x a o e).lt
theorem HOk.fresh (x:HOk P w H h)(e:h.objs.size<=a):H a=none:=by
 cases q:H a with
 |none=>rfl
 |some u=>exact absurd (bv (x.lt q) e) (de _)
theorem HOk.kept (x:HOk P w H h)(k:∀b u,h.get? b=some u->h'.get? b=some u):HOk P w H h':=fun a o e=>(x a o e).stay (fun b u _ q=>k b u q) (fun _ q=>q) fun _ _ q=>q
theorem HOk.laid (x:HOk P w H h)(k:∀b u,h.get? b=some u->h'.get? b=some u)(hp:h.objs.size<=a)(new:z0s P w (upd H a o) h' a o):HOk P w (upd H a o) h':=fun b u e=>by
 have hn:=x.fresh hp;by_cases hb:b=a
 ·subst hb;rw[z02]at e;cases e;exact new
 ·rw[z01 hb]at e;exact(x b u e).stay (fun c v _ q=>k c v q) (fun c q=>by rw[z01 (z0b q hn)];exact q) fun c xs q=>by rw[z01 (z0b q hn)];exact q
end
def Rd (H:Hp)(a:Addr)(u:HO):Prop:=H a=some u\/∃o,H a=some (.frz o u)
theorem Rd.of {H:Hp}{a:Addr}{u:HO}(h:H a=some u):Rd H a u:=.inl h
theorem Rd.ok {P:ax}{w:World}{H:Hp}{h:Heap}{a:Addr}{u:HO}(r:Rd H a u)(x:HOk P w H h):z0s P w H h a u:=by
 rcases r with r|⟨o,r⟩
 ·exact x a u r
 ·obtain⟨_,q⟩:=x a _ r;exact q
def Mut:Option HO->Prop
 |some (.lst _)=>True
 |some (.dK _)=>True
 |some (.dT _)=>True
 |some (.set _ _)=>True
 |some (.ins _ _ _)=>True
 |some (.ext _)=>True
 |_=>False
section
variable {P:ax}{w:World}{H:Hp}{h h':Heap}{x e:Addr}{o':HO}
theorem HOk.write (ok:HOk P w H h)(mu:Mut (H x))(he:e=x\/H e=some (.own x))(k:∀b u,b≠e->h.get? b=some u->h'.get? b=some u)(heo:∃u,h'.get? e=some u)
  (new:z0s P w (upd H x o') h' x o'):HOk P w (upd H x o') h':=fun b u q=>by
 have nown:∀c y,H c=some (.own y)->c≠x:=fun c y r z=>by subst z;rw[r]at mu;exact mu
 have ntup:∀c xs,H c=some (.tup xs)->c≠x:=fun c xs r z=>by subst z;rw[r]at mu;exact mu
 by_cases hb:b=x
 ·subst hb;rw[z02]at q;cases q;exact new
 ·rw[z01 hb]at q;by_cases hbe:b=e
  ·have q':H b=some (.own x):=by
    rcases he with z|z
    ·exact absurd (hbe.trans z) hb
    ·rw[hbe];exact z
   rw[q]at q';cases q';obtain⟨v,hv⟩:=heo;exact⟨v,by rw[hbe];exact hv⟩
  ·refine(ok b u q).stay (fun c v hc r=>k c v ?_ r) (fun c r=>by rw[z01 (nown c b r)];exact r) fun c xs r=>by rw[z01 (ntup c xs r)];exact r
   rcases hc with rfl|hc
   ·exact hbe
   ·rintro rfl
    rcases he with z|z
    ·exact nown c b hc z
    ·rw[hc]at z;cases z;exact hb rfl
end
structure Un (fs ex:List Addr)(H H':Hp)(h h':Heap):Prop where
 keep:∀b o,h.get? b=some o->H b=none->b∉fs->b∉ex->h'.get? b=some o
 slot:∀b o,h.get? b=some o->H b=none->b∈fs->b∉ex->∃sl,h'.get? b=some {o with slots:=sl}
 free:∀b o,h.get? b=some o->H b=none->b∉ex->H' b=none
 there:∀b o,h.get? b=some o->b∉ex->∃o',h'.get? b=some o'
 tups:∀b xs,H b=some (.tup xs)->H' b=some (.tup xs)
 frzs:∀b o u,H b=some (.frz o u)->H' b=some (.frz o u)
 tbls:∀b ps,H b=some (.tbl ps)->∃more,H' b=some (.tbl (ps++more))
section
variable {fs fs' ex ex':List Addr}{H H1 H2:Hp}{h h1 h2 h':Heap}{a x e:Addr}{o:HO}
theorem Un.any (u:Un fs ex H H1 h h1){b:Addr}{ob:Obj}(q:h.get? b=some ob)(n:H b=none)(hx:b∉ex):∃sl,h1.get? b=some {ob with slots:=sl}:=by
 by_cases hb:b∈fs
 ·exact u.slot b ob q n hb hx
 ·exact⟨ob.slots,u.keep b ob q n hb hx⟩
theorem Un.trans (a:Un fs ex H H1 h h1)(b:Un fs ex H1 H2 h1 h2):Un fs ex H H2 h h2 where
 keep:=fun c ob q n hc hx=>b.keep c ob (a.keep c ob q n hc hx) (a.free c ob q n hx) hc hx
 slot:=fun c ob q n hc hx=>by obtain⟨sl,e1⟩:=a.slot c ob q n hc hx;obtain⟨sl',e2⟩:=b.slot c _ e1 (a.free c ob q n hx) hc hx;exact⟨sl',e2⟩
 free:=fun c ob q n hx=>by obtain⟨o',e1⟩:=a.there c ob q hx;exact b.free c o' e1 (a.free c ob q n hx) hx
 there:=fun c ob q hx=>by obtain⟨o',e1⟩:=a.there c ob q hx;exact b.there c o' e1 hx
 tups:=fun c xs q=>b.tups c xs (a.tups c xs q)
 frzs:=fun c ob xs q=>b.frzs c ob xs (a.frzs c ob xs q)
 tbls:=fun c ps q=>by obtain⟨m1,e1⟩:=a.tbls c ps q;obtain⟨m2,e2⟩:=b.tbls c _ e1;exact⟨m1++m2,by rw[e2,l6]⟩
theorem Un.kept (k:∀b u,h.get? b=some u->h'.get? b=some u):Un fs ex H H h h':=⟨fun b ob q _ _ _=>k b ob q,fun b ob q _ _ _=>⟨ob.slots,k b ob q⟩,fun _ _ _ n _=>n,fun b ob q _=>⟨ob,k b ob q⟩,fun _ _ q=>q,fun _ _ _ q=>q,fun _ ps q=>⟨#[],by rw[q];simp⟩⟩
theorem Un.refl:Un fs ex H H h h:=Un.kept fun _ _ q=>q
theorem Un.laid (k:∀b u,h.get? b=some u->h'.get? b=some u)(hp:h.objs.size<=a)(hn:H a=none):Un fs ex H (upd H a o) h h' where
 keep:=fun b u q _ _ _=>k b u q
 slot:=fun b u q _ _ _=>⟨u.slots,k b u q⟩
 free:=fun b u q n _=>by rw[z01 (cg (bv (bc q) hp))];exact n
 there:=fun b u q _=>⟨u,k b u q⟩
 tups:=fun b xs q=>by rw[z01 (z0b q hn)];exact q
 frzs:=fun b u xs q=>by rw[z01 (z0b q hn)];exact q
 tbls:=fun b ps q=>⟨#[],by rw[z01 (z0b q hn),q];simp⟩
theorem Un.write (mu:Mut (H x))(he:e=x\/H e=some (.own x))(k:∀b u,b≠e->h.get? b=some u->h'.get? b=some u)(heo:∃u,h'.get? e=some u):Un fs ex H (upd H x o) h h':=by
 have hx:∀b,H b=none->b≠x:=fun b n z=>by subst z;rw[n]at mu;exact mu
 have hb:∀b,H b=none->b≠e:=fun b n z=>by
  subst z;rcases he with r|r
  ·exact hx b n r
  ·rw[n]at r;cases r
 have hm:∀b u,H b=some u->¬Mut (some u)->b≠x:=fun b u q nm z=>by subst z;rw[q]at mu;exact nm mu
 refine⟨fun b u q n _ _=>k b u (hb b n) q,fun b u q n _ _=>⟨u.slots,k b u (hb b n) q⟩,fun b u q n _=>by rw[z01 (hx b n)];exact n,fun b u q _=>?_,fun b xs q=>by rw[z01 (hm b _ q fun z=>z)];exact q,fun b u xs q=>by rw[z01 (hm b _ q fun z=>z)];exact q,fun b ps q=>⟨#[],by rw[z01 (hm b _ q fun z=>z),q];simp⟩⟩;by_cases hbe:b=e
 ·subst hbe;exact heo
 ·exact⟨u,k b u hbe q⟩
end
def trk (h:Heap)(H:Hp):List Addr:=(dv h.objs.size).filter fun a=>(H a).isSome
def hidT (h:Heap)(H:Hp):Heap:=W.hideAll h (trk h H)
theorem zat (h:Heap)(H:Hp):(hidT h H).objs.size=h.objs.size:=W.hideAll_size _ _
theorem zeh {h:Heap}{H:Hp}{b:Addr}{o:Obj}(e:h.get? b=some o)(n:H b=none):(hidT h H).get? b=some o:=W.hideAll_get _ e fun hm=>by have q:(H b).isSome=true:=(List.mem_filter.mp hm).2;rw[n]at q;simp at q
theorem zib {h:Heap}{H:Hp}{b:Addr}{o:Obj}(e:(hidT h H).get? b=some o):h.get? b=some o/\H b=none:=by
 have e':h.get? b=some o:=W.of_hideAll (trk h H) e;refine⟨e',?_⟩;cases q:H b with
 |none=>rfl
 |some x=>have hm:b∈trk h H:=List.mem_filter.mpr ⟨l7.mpr (bc e'),by simp[q]⟩;have z:(hidT h H).get? b=none:=W.hideAll_none (trk h H) hm;rw[z]at e;cases e
def zh7 (g h:Heap)(L:Addr):List (Addr×Obj):=(dv h.objs.size).filterMap fun a=>if a=L\/(g.get? a).isSome=true then none else(h.get? a).map fun o=>(a,o)
def rest (g h:Heap)(L d:Addr):List (Addr×Obj):=(zh7 g h L).filter fun p=>decide (p.1≠d)
structure Mod (K:W.Frag)(mg:Str->Option Value)(base:Heap):Prop where
 kin:K.In base
 glob:base.Ns bh mg
 blt:∃mb,base.Ns rq mb/\∀x:Str,x≠"__name__"->mb x=cz x
 nolimit:base.NoLimit
structure Cx where
 prog:ax
 w:World
 K:W.Frag
 mg:Str->Option Value
 base:Heap
 A:cq
 N:List Str
 s₀:ae
 H₀:Hp
 env:Env
 outer:List Env
 stack:List Env
 ex:List Addr
 fn:Str->Bool
 calm:Bool
 pn:List (Addr×Obj)
 xe:Value->ae->Prop
 fx:Option (Str×Value):=none
def frs (l:List Env):List Addr:=l.filterMap (·.frame)
abbrev Cx.fs (X:Cx):List Addr:=frs X.outer
def Vis (sc:Scope)(x:Str):Prop:=sc.names.lookup x=some .local\/sc.names.lookup x=some .cell\/sc.names.lookup x=some .free
def Loc (sc:Scope)(x:Str):Prop:=sc.names.lookup x=some .local\/sc.names.lookup x=some .cell
def Look (env:Env)(h:Heap)(m:Str->Option Value)(x:Str)(u:Value):Prop:=(env.kindOf x=some .local/\m x=some u)\/((env.kindOf x=some .cell\/env.kindOf x=some .free)/\∃c,env.cells.lookup x=some c/\h.IsCell c (some u))
structure Cx.Ok (X:Cx):Prop where
 mod:Mod X.K X.mg X.base
 kind:X.env.scope.kind=.function
 glob:X.env.globals=bh
 blt:X.env.builtins=rq
 above:X.s₀.heap.objs.size<=X.env.locals
 inj:∀x y c,X.env.cells.lookup x=some c->X.env.cells.lookup y=some c->x=y
 has:∀x,(X.env.kindOf x=some .cell\/X.env.kindOf x=some .free)->∃c,X.env.cells.lookup x=some c
 cab:∀x c,X.fn x=true->X.env.cells.lookup x=some c->X.s₀.heap.objs.size<=c
 hd:X.calm=true->X.A.handled=none
 frames:X.A.frames=some X.stack
 stk:X.stack=X.outer\/(X.stack=X.env::X.outer/\X.env.frame=some X.env.locals)
 exf:∀b∈X.ex,b≠X.env.locals/\∀x c,X.env.cells.lookup x=some c->c≠b
 bs:∀b o,X.base.get? b=some o->X.s₀.heap.get? b=some o/\X.H₀ b=none
 bsz:X.base.objs.size<=X.s₀.heap.objs.size
 noex:∀b o,X.base.get? b=some o->b∉X.ex
 exfs:∀b∈X.ex,b∉X.fs
 funs:X.s₀.heap.FunFrames X.base X.outer
 frf:∀b∈X.fs,X.H₀ b=none
 fxN:∀x u,X.fx=some (x,u)->x∉X.N/\X.env.scope.names.lookup x=some .local
structure Inv (X:Cx)(pins:List (Addr×Obj))(σ:List (Option V))(H:Hp)(s:ae):Prop where
 ok:X.Ok
 os:s.os=X.s₀.os
 bare:ly s.gens
 base:Un X.fs X.ex X.H₀ H X.s₀.heap s.heap
 loc:∃m,s.heap.Ns X.env.locals m/\∀(i:Nat) (x:Str) (v:V),X.N[i]?=some x->σ[i]?=some (some v)->Vis X.env.scope x->∃u,RelV v u/\Look X.env s.heap m x u
 cell:∀x c,X.env.cells.lookup x=some c->∃v,s.heap.IsCell c v
 free:H X.env.locals=none
 freeC:∀x c,X.env.cells.lookup x=some c->H c=none
 pin:∀p∈X.pn++pins,s.heap.get? p.1=some p.2/\H p.1=none/\p.1≠X.env.locals/\p.1∉X.fs/\∀v,p.2.data≠.cell v
 hok:HOk X.prog X.w H s.heap
 len:σ.length=X.N.length
 fx:∀x u,X.fx=some (x,u)->∃m,s.heap.Ns X.env.locals m/\m x=some u
section
variable {X:Cx}{pins:List (Addr×Obj)}{σ:List (Option V)}{H H':Hp}{s:ae}{h':Heap}
theorem Cx.Ok.nofr (ok:X.Ok){b:Addr}{o:Obj}(e:X.base.get? b=some o):b∉X.fs:=fun hb=>by have:=(ok.funs.mem hb).1;rw[e]at this;cases this
theorem Inv.bs (I:Inv X pins σ H s):∀b o,X.base.get? b=some o->s.heap.get? b=some o/\H b=none:=fun b o e=>⟨I.base.keep b o (I.ok.bs b o e).1 (I.ok.bs b o e).2 (I.ok.nofr e) (I.ok.noex b o e),I.base.free b o (I.ok.bs b o e).1 (I.ok.bs b o e).2 (I.ok.noex b o e)⟩
theorem Inv.bk (I:Inv X pins σ H s):∀b o,X.base.get? b=some o->s.heap.get? b=some o:=fun b o e=>(I.bs b o e).1
theorem Inv.mod (I:Inv X pins σ H s):Mod X.K X.mg X.base:=I.ok.mod
theorem Inv.kIn (I:Inv X pins σ H s):X.K.In s.heap:=I.ok.mod.kin.keeps I.bk
theorem Inv.fr (I:Inv X pins σ H s):∃m,Fr X.base X.env.locals s.heap m:=
 let⟨m,hn,_⟩:=I.loc
 ⟨m,hn,I.bk,bw I.ok.bsz I.ok.above⟩
theorem Inv.lt (I:Inv X pins σ H s):X.env.locals<s.heap.objs.size:=let⟨_,hn,_⟩:=I.loc;hn.lt
theorem Inv.sz (I:Inv X pins σ H s):X.s₀.heap.objs.size<=s.heap.objs.size:=bw I.ok.above (pz I.lt)
theorem Inv.nofs (I:Inv X pins σ H s){a:Addr}(h:s.heap.objs.size<=a):a∉X.fs:=fun hb=>by obtain⟨_,o,ho,_⟩:=I.ok.funs.mem hb;exact absurd (bv (bc ho) (bw I.sz h)) (de _)
theorem Inv.cne (I:Inv X pins σ H s):∀x c,X.env.cells.lookup x=some c->c≠X.env.locals:=fun x c e z=>by obtain⟨v,o,ho,hd⟩:=I.cell x c e;obtain⟨m,⟨o',es,ep,ho',hd',_⟩,_⟩:=I.loc;rw[z,ho']at ho;cases ho;rw[hd']at hd;cases hd
theorem Inv.funs (I:Inv X pins σ H s):s.heap.FunFrames X.base X.outer:=by
 have all:∀(l:List Env),(∀b∈frs l,b∈X.fs)->X.s₀.heap.FunFrames X.base l->s.heap.FunFrames X.base l:=by
  intro l
  induction l with
  |nil=>intro _ _;trivial
  |cons env r ih=>intro hs hl;obtain⟨hk,⟨L,o,hf,hn,ho,hd⟩,hr⟩:=hl;have hL:L∈X.fs:=hs L (by unfold frs;rw[d5,hf];exact ai);obtain⟨sl,e⟩:=I.base.slot L o ho (I.ok.frf L hL) hL fun z=>I.ok.exfs L z hL;exact⟨hk,⟨L,_,hf,hn,e,hd⟩,ih (fun b hb=>hs b (by unfold frs;rw[d5,hf];exact ah _ hb)) hr⟩
 exact all X.outer (fun _ hb=>hb) I.ok.funs
theorem Inv.stack (I:Inv X pins σ H s):s.heap.FunFrames X.base X.stack:=by
 rcases I.ok.stk with e|⟨e,hf⟩
 ·rw[e];exact I.funs
 ·rw[e];obtain⟨m,hn,_⟩:=I.loc;refine .cons (by rw[I.ok.kind];decide) hf hn ?_ I.funs;exact iw (bw I.ok.bsz I.ok.above)
theorem Inv.stkSub (I:Inv X pins σ H s):∀b∈frs X.stack,b∈X.env.locals::X.fs:=fun b hb=>by
 rcases I.ok.stk with e|⟨e,hf⟩
 ·rw[e]at hb;exact ah _ hb
 ·rw[e]at hb;unfold frs at hb;rw[d5,hf]at hb;exact hb
theorem Inv.stkFree (I:Inv X pins σ H s):∀b∈frs X.stack,H b=none:=fun b hb=>by
 rcases ak.mp (I.stkSub b hb)with e|hb
 ·rw[e];exact I.free
 ·obtain⟨_,o,ho,_⟩:=I.ok.funs.mem hb;exact I.base.free b o ho (I.ok.frf b hb) fun z=>I.ok.exfs b z hb
theorem Inv.step {g':Array mz}{t':Nat}{d':Drawn}{ch:List Addr}(I:Inv X pins σ H s)
  (hch:∀b∈ch,(b∈X.ex\/X.s₀.heap.objs.size<=b)/\b≠X.env.locals/\(∀x c,X.env.cells.lookup x=some c->c≠b)/\∀p∈X.pn++pins,p.1≠b)
  (keep:∀b o,b≠X.env.locals->b∉X.fs->b∉ch->s.heap.get? b=some o->H b=none->h'.get? b=some o)
  (slot:∀b o,b≠X.env.locals->b∈X.fs->b∉ch->s.heap.get? b=some o->H b=none->∃sl,h'.get? b=some {o with slots:=sl}) (free:∀b o,b∉ch->s.heap.get? b=some o->H b=none->H' b=none)
  (there:∀b o,b∉ch->s.heap.get? b=some o->∃o',h'.get? b=some o')
  (tups:∀b xs,H b=some (.tup xs)->H' b=some (.tup xs)) (frzs:∀b o u,H b=some (.frz o u)->H' b=some (.frz o u)) (tbls:∀b ps,H b=some (.tbl ps)->∃more,H' b=some (.tbl (ps++more)))
  (ns:∀m,s.heap.Ns X.env.locals m->h'.Ns X.env.locals m) (hok:HOk X.prog X.w H' h') (hg:ly g'):
  Inv X pins σ H' {s with heap:=h',gens:=g',drawn:=d',toks:=t'}:=by
 have neL:∀b o,X.s₀.heap.get? b=some o->b≠X.env.locals:=fun b o e=>cg (bv (bc e) I.ok.above)
 have neC:∀b o,X.s₀.heap.get? b=some o->b∉X.ex->b∉ch:=fun b o e hx hb=>by
  rcases(hch b hb).1 with z|z
  ·exact hx z
  ·exact absurd (bv (bc e) z) (de _)
 have cellK:∀x c,X.env.cells.lookup x=some c->∀v,s.heap.IsCell c v->h'.IsCell c v:=fun x c e v ⟨o,ho,hd⟩=>by
  have nch:c∉ch:=fun z=>(hch c z).2.2.1 x c e rfl;by_cases hc:c∈X.fs
  ·obtain⟨sl,q⟩:=slot c o (I.cne x c e) hc nch ho (I.freeC x c e);exact⟨_,q,hd⟩
  ·exact⟨o,keep c o (I.cne x c e) hc nch ho (I.freeC x c e),hd⟩
 refine⟨I.ok,I.os,hg,⟨fun b o e n hb hx=>?_,fun b o e n hb hx=>?_,fun b o e n hx=>?_,fun b o e hx=>?_,fun b xs e=>tups b xs (I.base.tups b xs e),fun b o xs e=>frzs b o xs (I.base.frzs b o xs e),fun b ps e=>?_⟩,?_,fun x c e=>?_,?_,fun x c e=>?_,fun p hp=>?_,hok,I.len,fun x u e=>let⟨m,hn,q⟩:=I.fx x u e;⟨m,ns m hn,q⟩⟩
 ·exact keep b o (neL b o e) hb (neC b o e hx) (I.base.keep b o e n hb hx) (I.base.free b o e n hx)
 ·obtain⟨sl,e1⟩:=I.base.slot b o e n hb hx;obtain⟨sl',e2⟩:=slot b _ (neL b o e) hb (neC b o e hx) e1 (I.base.free b o e n hx);exact⟨sl',e2⟩
 ·obtain⟨o',e1⟩:=I.base.there b o e hx;exact free b o' (neC b o e hx) e1 (I.base.free b o e n hx)
 ·obtain⟨o',e1⟩:=I.base.there b o e hx;exact there b o' (neC b o e hx) e1
 ·obtain⟨m1,e1⟩:=I.base.tbls b ps e;obtain⟨m2,e2⟩:=tbls b _ e1;exact⟨m1++m2,by rw[e2,l6]⟩
 ·obtain⟨m,hn,hl⟩:=I.loc;refine⟨m,ns m hn,fun i x v e1 e2 e3=>?_⟩;obtain⟨u,r,l⟩:=hl i x v e1 e2 e3;refine⟨u,r,?_⟩;rcases l with l|⟨k,c,e,z⟩
  ·exact .inl l
  ·exact .inr ⟨k,c,e,cellK x c e _ z⟩
 ·obtain⟨v,z⟩:=I.cell x c e;exact⟨v,cellK x c e v z⟩
 ·obtain⟨m,⟨o,_,_,ho,_⟩,_⟩:=I.loc;exact free _ o (fun z=>(hch _ z).2.1 rfl) ho I.free
 ·obtain⟨v,o,ho,hd⟩:=I.cell x c e;exact free c o (fun z=>(hch c z).2.2.1 x c e rfl) ho (I.freeC x c e)
 ·obtain⟨e,n,ne,nf,d⟩:=I.pin p hp;have nch:p.1∉ch:=fun z=>(hch p.1 z).2.2.2 p hp rfl;exact⟨keep p.1 p.2 ne nf nch e n,free p.1 p.2 nch e n,ne,nf,d⟩
theorem Inv.un {t':Nat}(I:Inv X pins σ H s)(u:Un X.fs [] H H' s.heap h')(hok:HOk X.prog X.w H' h'):Inv X pins σ H' {s with heap:=h',toks:=t'}:=by obtain⟨m,⟨o,es,ep,ho,r⟩,_⟩:=id I.loc;obtain⟨sl,hL⟩:=u.any ho I.free (by simp);exact I.step (g':=s.gens) (d':=s.drawn) (ch:=[]) (fun _ z=>nomatch z) (fun b o _ hb _ e n=>u.keep b o e n hb (by simp)) (fun b o _ hb _ e n=>u.slot b o e n hb (by simp)) (fun b o _ e n=>u.free b o e n (by simp)) (fun b o _ e=>u.there b o e (by simp)) u.tups u.frzs u.tbls (fun m' hm=>by obtain⟨o',es',ep',ho',r'⟩:=hm;rw[ho]at ho';cases ho';exact⟨_,es',ep',hL,r'⟩) hok I.bare
theorem Inv.call {g':Array mz}{t':Nat}{d':Drawn}{ch:List Addr}(I:Inv X pins σ H s)(u:Un (frs X.stack) ch H H' s.heap h')(hok:HOk X.prog X.w H' h')(hg:ly g')
  (hch:∀b∈ch,(b∈X.ex\/X.s₀.heap.objs.size<=b)/\b≠X.env.locals/\(∀x c,X.env.cells.lookup x=some c->c≠b)/\∀p∈X.pn++pins,p.1≠b):
  Inv X pins σ H' {s with heap:=h',gens:=g',drawn:=d',toks:=t'}:=by
 obtain⟨m,⟨o,es,ep,ho,r⟩,_⟩:=id I.loc;obtain⟨sl,hL⟩:=u.any ho I.free fun z=>(hch _ z).2.1 rfl;exact I.step (ch:=ch) hch (fun b o hL hb hc e n=>u.keep b o e n (fun z=>(ak.mp (I.stkSub b z)).elim hL hb) hc) (fun b o _ _ hc e n=>u.any e n hc) (fun b o hc e n=>u.free b o e n hc) (fun b o hc e=>u.there b o e hc) u.tups u.frzs u.tbls (fun m' hm=>by obtain⟨o',es',ep',ho',r'⟩:=hm;rw[ho]at ho';cases ho';exact⟨_,es',ep',hL,r'⟩) hok hg
theorem Inv.turned {t':Nat}{it:Addr}(I:Inv X pins σ H s)(k:∀b o,b≠it->s.heap.get? b=some o->h'.get? b=some o)(hn:H it=none)(hL:it≠X.env.locals)
  (h1:it∈X.ex\/X.s₀.heap.objs.size<=it) (h2:∀x c,X.env.cells.lookup x=some c->c≠it) (h3:∀p∈X.pn++pins,p.1≠it):Inv X pins σ H {s with heap:=h',toks:=t'}:=by
 have nit:∀b u,H b=some u->b≠it:=fun b u e z=>by rw[z,hn]at e;cases e
 refine I.step (g':=s.gens) (d':=s.drawn) (ch:=[it]) (fun b hb=>?_) (fun b o _ _ hc e _=>k b o (fun z=>hc (by simp[z])) e) (fun b o _ _ hc e _=>⟨o.slots,k b o (fun z=>hc (by simp[z])) e⟩) (fun _ _ _ _ n=>n) (fun b o hc e=>⟨o,k b o (fun z=>hc (by simp[z])) e⟩) (fun _ _ e=>e) (fun _ _ _ e=>e) (fun b ps e=>⟨#[],by rw[e];simp⟩) (fun m hm=>?_) (fun b u e=>?_) I.bare
 ·have e:b=it:=by simpa using hb
  subst e;exact⟨h1,hL,h2,h3⟩
 ·obtain⟨o,es,ep,ho,r⟩:=hm;exact⟨o,es,ep,k _ o (Ne.symm hL) ho,r⟩
 ·refine(I.hok b u e).stay (fun c v hc q=>k c v ?_ q) (fun _ q=>q) fun _ _ q=>q;rcases hc with z|z
  ·rw[z];exact nit b u e
  ·exact nit c _ z
theorem Inv.tok (I:Inv X pins σ H s)(t:Nat):Inv X pins σ H {s with toks:=t}:=I.un (h':=s.heap) (t':=t) Un.refl I.hok
theorem Inv.kept {t':Nat}(I:Inv X pins σ H s)(k:∀b u,s.heap.get? b=some u->h'.get? b=some u):Inv X pins σ H {s with heap:=h',toks:=t'}:=I.un (Un.kept k) (I.hok.kept k)
theorem Inv.laid {a:Addr}{o:HO}{t':Nat}(I:Inv X pins σ H s)(k:∀b u,s.heap.get? b=some u->h'.get? b=some u)(hp:s.heap.objs.size<=a)(new:z0s X.prog X.w (upd H a o) h' a o): Inv X pins σ (upd H a o) {s with heap:=h',toks:=t'}:=I.un (Un.laid k hp (I.hok.fresh hp)) (I.hok.laid k hp new)
theorem Inv.write {x e:Addr}{o:HO}{t':Nat}(I:Inv X pins σ H s)(mu:Mut (H x))(he:e=x\/H e=some (.own x))(k:∀b u,b≠e->s.heap.get? b=some u->h'.get? b=some u)(heo:∃u,h'.get? e=some u) (new:z0s X.prog X.w (upd H x o) h' x o):Inv X pins σ (upd H x o) {s with heap:=h',toks:=t'}:=I.un (Un.write mu he k heo) (I.hok.write mu he k heo new)
theorem Inv.weak {σ':List (Option V)}(I:Inv X pins σ H s)(hl:σ'.length=σ.length)(w:∀(i:Nat) v,σ'[i]?=some (some v)->σ[i]?=some (some v)):Inv X pins σ' H s:=⟨I.ok,I.os,I.bare,I.base,let⟨m,hn,hl'⟩:=I.loc;⟨m,hn,fun i x v e1 e2 e3=>hl' i x v e1 (w i v e2) e3⟩,I.cell,I.free,I.freeC,I.pin,I.hok,hl.trans I.len,I.fx⟩
theorem Inv.pins_of {pins':List (Addr×Obj)}(I:Inv X pins σ H s)(h:∀p∈pins',s.heap.get? p.1=some p.2/\H p.1=none/\p.1≠X.env.locals/\p.1∉X.fs/\∀v,p.2.data≠.cell v):Inv X pins' σ H s:=⟨I.ok,I.os,I.bare,I.base,I.loc,I.cell,I.free,I.freeC,fun p hp=>(dz.mp hp).elim (fun z=>I.pin p (d7 _ z)) (h p),I.hok,I.len,I.fx⟩
theorem zny {h:Heap}{a:Addr}{m m':Str->Option Value}(x:h.Ns a m)(y:h.Ns a m')(n:Str):m n=m' n:=by obtain⟨o,es,ep,e,d,_,f⟩:=x;obtain⟨o',es',ep',e',d',_,f'⟩:=y;rw[e]at e';cases e';rw[d]at d';cases d';rw[<-f n,f' n]
theorem z2r {N:List Str}(hN:N.Nodup){i j:Nat}{x:Str}(a:N[i]?=some x)(b:N[j]?=some x):i=j:=by obtain⟨h1,e1⟩:=bo.mp a;obtain⟨h2,e2⟩:=bo.mp b;exact(List.getElem_inj hN).mp (e1.trans e2.symm)
theorem z36 {M:Model}{A:cq}{E:Value->ae->Prop}{i:Nat}{x:Str}{v:V}{u:Value}{Q:Unit->ae->Prop}(I:Inv X pins σ H s)(hN:X.N.Nodup)(hi:X.N[i]?=some x)(hx:Loc X.env.scope x)(r:RelV v u)
  (h:∀s',Inv X pins (σ.set i (some v)) H s'->(∃a,b9 a s.heap s'.heap/\(a=X.env.locals\/X.env.cells.lookup x=some a))->Q () s') (hf:X.fn x=true\/X.env.scope.names.lookup x=some .local:=by first|exact .inl rfl|exact .inr rfl|assumption):wpAny M A (storeName X.env x u) Q E s:=by
 obtain⟨m,hn,hl⟩:=id I.loc;have hcls:(X.env.scope.kind==.class||(X.env.scope.kind==.module&&X.env.locals != X.env.globals))=false:=by rw[I.ok.kind];rfl
 have hiσ:i<σ.length:=by rw[I.len];exact(bo.mp hi).1
 have cne:=I.cne
 have tracked:∀{a:Addr} {h':Heap},(∃o,s.heap.get? a=some o/\H a=none)->b9 a s.heap h'->HOk X.prog X.w H h':=fun{a h'} ha hs b ob e=>by
  obtain⟨_,_,hfree⟩:=ha;refine(I.hok b ob e).stay (fun c w' hc q=>(hs.2 c ?_).trans q) (fun _ q=>q) fun _ _ q=>q
  rintro rfl
  rcases hc with rfl|hc
  ·rw[hfree]at e;cases e
  ·rw[hfree]at hc;cases hc
 rcases hx with hk|hk
 ·refine wpAny_storeName_local hk hn (fun h' hn' hs=>?_) hcls;obtain⟨oL,_,_,hoL,_⟩:=id hn;refine h _ ⟨I.ok,I.os,I.bare,⟨fun b o e n hb hx=>?_,fun b o e n hb hx=>?_,I.base.free,fun b o e hx=>?_,I.base.tups,I.base.frzs,I.base.tbls⟩,⟨_,hn',fun j y v' e1 e2 e3=>?_⟩,fun y c e=>?_,I.free,I.freeC,fun p hp=>?_,tracked ⟨oL,hoL,I.free⟩ hs,by simpa using I.len,fun y u e=>by obtain⟨m',hn2,q⟩:=I.fx y u e;refine⟨_,hn',?_⟩;have hy:y≠x:=fun z=>(I.ok.fxN y u e).1 (z▸du hi);have:=zny hn hn2 y;simp[hy,this,q]⟩ ⟨_,hs,.inl rfl⟩
  ·exact(hs.2 b (cg (bv (bc e) I.ok.above))).trans (I.base.keep b o e n hb hx)
  ·obtain⟨sl,e1⟩:=I.base.slot b o e n hb hx;exact⟨sl,(hs.2 b (cg (bv (bc e) I.ok.above))).trans e1⟩
  ·obtain⟨o',e1⟩:=I.base.there b o e hx;exact⟨o',(hs.2 b (cg (bv (bc e) I.ok.above))).trans e1⟩
  ·by_cases hj:j=i
   ·subst hj;rw[hi]at e1;cases e1;rw[db hiσ]at e2;cases e2;exact⟨u,r,.inl ⟨hk,by simp⟩⟩
   ·rw[cf (Ne.symm hj)]at e2;obtain⟨u',r',q⟩:=hl j y v' e1 e2 e3;refine⟨u',r',?_⟩;rcases q with⟨k,e⟩|⟨k,c,e,z⟩
    ·refine .inl ⟨k,?_⟩;have:y≠x:=fun e=>hj (z2r hN e1 (e▸hi));simp[this,e]
    ·exact .inr ⟨k,c,e,z.sameBut hs (cne y c e)⟩
  ·obtain⟨w',z⟩:=I.cell y c e;exact⟨w',z.sameBut hs (cne y c e)⟩
  ·obtain⟨e,n,ne,nf,d⟩:=I.pin p hp;exact⟨(hs.2 p.1 ne).trans e,n,ne,nf,d⟩
 ·have hfn:X.fn x=true:=by
   rcases hf with z|z
   ·exact z
   ·rw[z]at hk;cases hk
  obtain⟨c,hc⟩:=I.ok.has x (.inl hk);obtain⟨w',z⟩:=I.cell x c hc;refine wpAny_storeName_cell I.ok.kind hk hc z (fun h' hc' hs=>?_);obtain⟨oc,hoc,hocd⟩:=id z;refine h {s with heap:=h'} ⟨I.ok,I.os,I.bare,⟨fun b o e n hb hx=>?_,fun b o e n hb hx=>?_,I.base.free,fun b o e hx=>?_,I.base.tups,I.base.frzs,I.base.tbls⟩,⟨m,hn.sameBut hs (Ne.symm (cne x c hc)),fun j y v' e1 e2 e3=>?_⟩,fun y c' e=>?_,I.free,I.freeC,fun p hp=>?_,tracked ⟨oc,hoc,I.freeC x c hc⟩ hs,by simpa using I.len,fun y u e=>let⟨m',hn2,q⟩:=I.fx y u e;⟨m',hn2.sameBut hs (Ne.symm (cne x c hc)),q⟩⟩ ⟨c,hs,.inr hc⟩
  ·exact(hs.2 b (cg (bv (bc e) (I.ok.cab x c hfn hc)))).trans (I.base.keep b o e n hb hx)
  ·obtain⟨sl,e1⟩:=I.base.slot b o e n hb hx;exact⟨sl,(hs.2 b (cg (bv (bc e) (I.ok.cab x c hfn hc)))).trans e1⟩
  ·obtain⟨o',e1⟩:=I.base.there b o e hx;exact⟨o',(hs.2 b (cg (bv (bc e) (I.ok.cab x c hfn hc)))).trans e1⟩
  ·by_cases hj:j=i
   ·subst hj;rw[hi]at e1;cases e1;rw[db hiσ]at e2;cases e2;exact⟨u,r,.inr ⟨.inl hk,c,hc,hc'⟩⟩
   ·rw[cf (Ne.symm hj)]at e2;obtain⟨u',r',q⟩:=hl j y v' e1 e2 e3;refine⟨u',r',?_⟩;rcases q with q|⟨k,c',e,z'⟩
    ·exact .inl q
    ·refine .inr ⟨k,c',e,z'.sameBut hs ?_⟩
     rintro rfl
     exact hj (z2r hN e1 (I.ok.inj _ _ _ e hc▸hi))
  ·by_cases hcc:c'=c
   ·subst hcc;exact⟨_,hc'⟩
   ·obtain⟨w2,z2⟩:=I.cell y c' e;exact⟨w2,z2.sameBut hs hcc⟩
  ·obtain⟨e,n,ne,nf,d⟩:=I.pin p hp;refine⟨(hs.2 p.1 ?_).trans e,n,ne,nf,d⟩;intro q;rw[q,hoc]at e;have q':oc=p.2:=Option.some.inj e;exact d w' (by rw[<-q'];exact hocd)
theorem z4b {M:Model}{A:cq}{E:Value->ae->Prop}{i:Nat}{x:Str}{v:V}{u:Value}{Q:Unit->ae->Prop}(I:Inv X pins σ H s)(hN:X.N.Nodup)(hi:X.N[i]?=some x)(hx:Loc X.env.scope x)(r:RelV v u)
  (h:∀s',Inv X pins (σ.set i (some v)) H s'->Q () s') (hf:X.fn x=true\/X.env.scope.names.lookup x=some .local:=by first|exact .inl rfl|exact .inr rfl|assumption):wpAny M A (storeName X.env x u) Q E s:=
 z36 I hN hi hx r (fun s' I' _=>h s' I') hf
theorem Inv.call' {s':ae}{ch:List Addr}(I:Inv X pins σ H s)(ho:s'.os=s.os)(u:Un (frs X.stack) ch H H' s.heap s'.heap)(hok:HOk X.prog X.w H' s'.heap)(hg:ly s'.gens)
  (hch:∀b∈ch,(b∈X.ex\/X.s₀.heap.objs.size<=b)/\b≠X.env.locals/\(∀x c,X.env.cells.lookup x=some c->c≠b)/\∀p∈X.pn++pins,p.1≠b):Inv X pins σ H' s':=by
 obtain⟨h',g',d',t',o'⟩:=s';have e:o'=s.os:=ho;subst e;exact I.call (g':=g') (t':=t') (d':=d') u hok hg hch
end
abbrev XK:=Value->Option Addr->Hp->Prop
abbrev St:=List (Option V)
abbrev VK:=V->Hp->Prop
abbrev TE:=St->Hp->VK->Prop
abbrev TT:=St->Hp->(Bool->Hp->Prop)->Prop
abbrev TA:=St->Hp->(List V->Hp->Prop)->Prop
structure Ends where
 nx:St->Hp->Prop
 rt:VK
 bk:St->Hp->Prop:=fun _ _=>False
 ct:St->Hp->Prop:=fun _ _=>False
abbrev TS:=Ends->St->Hp->Prop
def EP (X:Cx)(pins:List (Addr×Obj))(σ:St)(Q:VK)(u:Value)(s':ae):Prop:=∃v H',Inv X pins σ H' s'/\RelV v u/\Q v H'
def TP (X:Cx)(pins:List (Addr×Obj))(σ:St)(Q:Bool->Hp->Prop)(b:Bool)(s':ae):Prop:=∃H',Inv X pins σ H' s'/\Q b H'
def AP (X:Cx)(pins:List (Addr×Obj))(σ:St)(Q:List V->Hp->Prop)(us:List Value)(s':ae):Prop:=∃vs H',Inv X pins σ H' s'/\Vals vs us/\Q vs H'
def SP (X:Cx)(pins:List (Addr×Obj))(D:Ends)(f:Flow)(s':ae):Prop:=
 match f with
 |.next=>∃σ' H',Inv X pins σ' H' s'/\D.nx σ' H'
 |.brk=>∃σ' H',Inv X pins σ' H' s'/\D.bk σ' H'
 |.cont=>∃σ' H',Inv X pins σ' H' s'/\D.ct σ' H'
 |.ret u=>∃v σ' H',Inv X pins σ' H' s'/\RelV v u/\D.rt v H'
def PE (X:Cx)(e:Expr)(t:TE):Prop:=∀(pins:List (Addr×Obj)) (s:ae) (σ:St) (H:Hp) (Q:VK),Inv X pins σ H s->t σ H Q->wpAny (model X.prog X.w) X.A (eval e X.env) (EP X pins σ Q) X.xe s
def PT (X:Cx)(e:Expr)(t:TT):Prop:=∀(pins:List (Addr×Obj)) (s:ae) (σ:St) (H:Hp) (Q:Bool->Hp->Prop),Inv X pins σ H s->t σ H Q->wpAny (model X.prog X.w) X.A (oj e X.env (eval e X.env)) (TP X pins σ Q) X.xe s
def PW (X:Cx)(e:Expr)(t:TT):Prop:=∀(whole:Sem Value) (pins:List (Addr×Obj)) (s:ae) (σ:St) (H:Hp) (Q:Bool->Hp->Prop),Inv X pins σ H s->t σ H Q->wpAny (model X.prog X.w) X.A (oj e X.env whole) (TP X pins σ Q) X.xe s
theorem PW.pt {X:Cx}{e:Expr}{t:TT}(h:PW X e t):PT X e t:=h _
def PA (X:Cx)(es:List Expr)(t:TA):Prop:=∀(pos:Pos) (pins:List (Addr×Obj)) (s:ae) (σ:St) (H:Hp) (Q:List V->Hp->Prop),Inv X pins σ H s->t σ H Q->wpAny (model X.prog X.w) X.A (spliced (i4 pos (cu es X.env))) (AP X pins σ Q) X.xe s
def PS (X:Cx)(st:Stmt)(t:TS):Prop:=∀(pins:List (Addr×Obj)) (s:ae) (σ:St) (H:Hp) (D:Ends),Inv X pins σ H s->t D σ H->wpAny (model X.prog X.w) X.A (exec st X.env) (SP X pins D) X.xe s
def PSs (X:Cx)(st:List Stmt)(t:TS):Prop:=∀(pins:List (Addr×Obj)) (s:ae) (σ:St) (H:Hp) (D:Ends),Inv X pins σ H s->t D σ H->wpAny (model X.prog X.w) X.A (execs st X.env) (SP X pins D) X.xe s
theorem thn {α:Type}{t:Sem α}{Q Q':α->ae->Prop}{M:Model}{A:cq}{E:Value->ae->Prop}{s:ae}(h:wpAny M A t Q E s)(hQ:∀a s,Q a s->Q' a s):wpAny M A t Q' E s:=jb h hQ fun _ _ x=>x
section
variable {X:Cx}
theorem bin {a b:Expr}{ta tb:TE}(ha:PE X a ta)(hb:PE X b tb){pins:List (Addr×Obj)}{s:ae}{σ:St}{H:Hp}{R:V->V->Hp->Prop}(I:Inv X pins σ H s)(h:ta σ H fun x H1=>tb σ H1 fun y H2=>R x y H2)
  {α:Type} {Q:α->ae->Prop} {f:Value->Value->Sem α}
  (hf:∀v u s2 x y H2,Inv X pins σ H2 s2->RelV x v->RelV y u->R x y H2->wpAny (model X.prog X.w) X.A (f v u) Q X.xe s2):
  wpAny (model X.prog X.w) X.A (eval a X.env) (fun v s₁=>wpAny (model X.prog X.w) X.A (eval b X.env) (fun u s₂=>wpAny (model X.prog X.w) X.A (f v u) Q X.xe s₂) X.xe s₁) X.xe s:=by
 refine thn (ha pins s σ H _ I h) fun v s1 ⟨x,H1,I1,r1,q1⟩=>?_;refine thn (hb pins s1 σ H1 _ I1 q1) fun u s2 ⟨y,H2,I2,r2,q2⟩=>?_;exact hf v u s2 x y H2 I2 r1 r2 q2
def tVar (i:Nat):TE:=fun σ H Q=>∃v,σ[i]?=some (some v)/\Q v H
def tC (v:V):TE:=fun _ H Q=>Q v H
theorem z2y {i:Nat}{x:Str}{pos:Pos}(hN:X.N[i]?=some x)(hv:Vis X.env.scope x)(hd:(x==("__debug__":Str))=false:=by decide)(hcd:(x==("__classdict__":Str))=false:=by decide):PE X (.Name x pos) (tVar i):=by
 intro pins s σ H Q I h;obtain⟨v,e,h⟩:=h;obtain⟨m,hn,hl⟩:=I.loc;obtain⟨u,r,l⟩:=hl i x v hN e hv;have fin:EP X pins σ Q u s:=⟨v,H,I,r,h⟩;rcases l with⟨hk,hm⟩|⟨hk,c,hc,hcell⟩
 ·exact ph (ol I.ok.kind hk hn hm fin) hd
 ·rcases hk with hk|hk
  ·exact ph (wpAny_loadName_cell I.ok.kind hk hc hcell fin) hd
  ·exact ph (wpAny_loadName_free I.ok.kind hk hc hcell fin hcd) hd
theorem znv {i j pos}:PE X (.Constant (.int i) j pos) (tC (.int i)):=fun _ _ _ H _ I h=>wpAny_Constant_int ⟨.int i,H,I.tok _,⟨_,rfl⟩,h⟩
theorem zri {b j pos}:PE X (.Constant (.bool b) j pos) (tC (.bl b)):=fun _ _ _ H _ I h=>Constant_bool ⟨.bl b,H,I,rfl,h⟩
theorem znt {j pos}:PE X (.Constant .none j pos) (tC .non):=fun _ _ _ H _ I h=>Constant_none ⟨.non,H,I,rfl,h⟩
theorem zkn {x j pos}:PE X (.Constant (.str x) j pos) (tC (.str x)):=fun _ _ _ H _ I h=>Calls.Constant_str ⟨.str x,H,I.tok _,⟨_,rfl⟩,h⟩
def Gl (X:Cx)(x:Str):Prop:=X.env.kindOf x=some .globalImplicit
theorem z1t {E:Value->ae->Prop}{pins:List (Addr×Obj)}{s:ae}{σ:St}{H:Hp}{x:Str}{u:Value}{pos:Pos}{Q:Value->ae->Prop}(I:Inv X pins σ H s)(hg:Gl X x)(hm:X.mg x=some u)(h:Q u s)
  (hd:(x==("__debug__":Str))=false:=by decide):wpAny (model X.prog X.w) X.A (eval (.Name x pos) X.env) Q E s:=
 jk I.ok.kind hg (m5 (by rw[I.ok.glob];exact I.mod.glob.keeps I.bk) hm h) hd
theorem z20 {E:Value->ae->Prop}{pins:List (Addr×Obj)}{s:ae}{σ:St}{H:Hp}{x:Str}{u:Value}{pos:Pos}{Q:Value->ae->Prop}(I:Inv X pins σ H s)(hg:Gl X x)(hm:X.mg x=none)(hv:cz x=some u)(h:Q u s)
  (hn:x≠"__name__":=by decide) (hd:(x==("__debug__":Str))=false:=by decide):wpAny (model X.prog X.w) X.A (eval (.Name x pos) X.env) Q E s:=by
 obtain⟨mb,h1,h2⟩:=I.mod.blt;exact jk I.ok.kind hg (Calls.loadGlobal_builtin (by rw[I.ok.glob];exact I.mod.glob.keeps I.bk) hm (by rw[I.ok.blt];exact h1.keeps I.bk) ((h2 x hn).trans hv) h) hd
theorem zhx {x:Str}{v:V}{u:Value}{pos:Pos}(hg:Gl X x)(hm:X.mg x=some u)(r:RelV v u)(hd:(x==("__debug__":Str))=false:=by decide):PE X (.Name x pos) (tC v):=fun _ _ _ H _ I h=>z1t I hg hm ⟨v,H,I,r,h⟩ hd
theorem zhj {x:Str}{v:V}{u:Value}{pos:Pos}(hg:Gl X x)(hm:X.mg x=none)(hv:cz x=some u)(r:RelV v u)(hn:x≠"__name__":=by decide)(hd:(x==("__debug__":Str))=false:=by decide):PE X (.Name x pos) (tC v):=fun _ _ _ H _ I h=>z20 I hg hm hv ⟨v,H,I,r,h⟩ hn hd
variable {a b:Expr}{ta tb:TE}{pos:Pos}
def tB (t:TE):TT:=fun σ H Q=>t σ H fun x H1=>∃c,x=.bl c/\Q c H1
theorem zn3 {e:Expr}{t:TE}(h:PE X e t)(he:∀whole,oj e X.env whole=(do let v <-whole;q9 e.pos;rc [v] (se v)):=by intro _;rfl):PT X e (tB t):=by intro pins s σ H Q I hw;refine isTrue_plain (thn (h pins s σ H _ I hw) fun v s1 ⟨x,H1,I1,r1,q1⟩=>?_) (he _);obtain⟨d,rfl,q⟩:=q1;cases r1;exact eh ⟨H1,I1,q⟩
variable {tA tB':TT}{rest:List Expr}
def tAnd (t u:TT):TT:=fun σ H Q=>t σ H fun c H1=>if c=true then u σ H1 Q else Q false H1
def tOr (t u:TT):TT:=fun σ H Q=>t σ H fun c H1=>if c=true then Q true H1 else u σ H1 Q
def tNot (t:TT):TT:=fun σ H Q=>t σ H fun c H1=>Q (!c) H1
theorem zfz (ha:PT X a tA):PW X (.BoolOp .And [a] pos) tA:=by
 intro wh pins s σ H Q I h;refine isTrue_and (thn (ha pins s σ H Q I h) fun c s1 e=>?_);cases c with
 |true=>exact isTrue_and_nil e
 |false=>exact e
theorem zfv (ha:PT X a tA):PW X (.BoolOp .Or [a] pos) tA:=by
 intro wh pins s σ H Q I h;refine isTrue_or (thn (ha pins s σ H Q I h) fun c s1 e=>?_);cases c with
 |false=>exact isTrue_or_nil e
 |true=>exact e
theorem zlr (ha:PT X a tA)(hb:PW X (.BoolOp .And (b::rest) pos) tB'):PW X (.BoolOp .And (a::b::rest) pos) (tAnd tA tB'):=by
 intro wh pins s σ H Q I h;refine isTrue_and (thn (ha pins s σ H _ I h) fun c s1 ⟨H1,I1,q1⟩=>?_);cases c with
 |true=>exact hb wh pins s1 σ H1 Q I1 q1
 |false=>exact⟨H1,I1,q1⟩
theorem zir (ha:PT X a tA)(hb:PW X (.BoolOp .Or (b::rest) pos) tB'):PW X (.BoolOp .Or (a::b::rest) pos) (tOr tA tB'):=by
 intro wh pins s σ H Q I h;refine isTrue_or (thn (ha pins s σ H _ I h) fun c s1 ⟨H1,I1,q1⟩=>?_);cases c with
 |true=>exact⟨H1,I1,q1⟩
 |false=>exact hb wh pins s1 σ H1 Q I1 q1
theorem zap (ha:PT X a tA):PT X (.UnaryOp .Not a pos) (tNot tA):=by intro pins s σ H Q I h;exact isTrue_not (ha pins s σ H (fun c H1=>Q (!c) H1) I h)
def zpo (ta tb:TE):TE:=fun σ H Q=>ta σ H fun x H1=>∃c,x=.bl c/\if c=true then tb σ H1 Q else Q (.bl false) H1
def tOrV (ta tb:TE):TE:=fun σ H Q=>ta σ H fun x H1=>∃c,x=.bl c/\if c=true then Q (.bl true) H1 else tb σ H1 Q
theorem zf1 {op}{t:TE}(h:PE X a t):PE X (.BoolOp op [a] pos) t:=fun pins s σ H Q I hw=>BoolOp_one (h pins s σ H Q I hw)
theorem zl0 (ha:PE X a ta)(hb:PE X (.BoolOp .And (b::rest) pos) tb):PE X (.BoolOp .And (a::b::rest) pos) (zpo ta tb):=by
 intro pins s σ H Q I h;refine BoolOp_and (thn (ha pins s σ H _ I h) fun v s1 ⟨x,H1,I1,r1,q1⟩=>?_);obtain⟨c,rfl,q1⟩:=q1;cases r1;refine eh ?_;cases c with
 |true=>exact hb pins s1 σ H1 Q I1 q1
 |false=>exact⟨.bl false,H1,I1,rfl,q1⟩
theorem zpq (ha:PE X a ta)(hb:PE X (.BoolOp .Or (b::rest) pos) tb):PE X (.BoolOp .Or (a::b::rest) pos) (tOrV ta tb):=by
 intro pins s σ H Q I h;refine BoolOp_or (thn (ha pins s σ H _ I h) fun v s1 ⟨x,H1,I1,r1,q1⟩=>?_);obtain⟨c,rfl,q1⟩:=q1;cases r1;refine eh ?_;cases c with
 |false=>exact hb pins s1 σ H1 Q I1 q1
 |true=>exact⟨.bl true,H1,I1,rfl,q1⟩
def tIf (t:TT)(ta tb:TE):TE:=fun σ H Q=>t σ H fun c H1=>if c=true then ta σ H1 Q else tb σ H1 Q
theorem z7t {c:Expr}(hc:PT X c tA)(ha:PE X a ta)(hb:PE X b tb):PE X (.IfExp c a b pos) (tIf tA ta tb):=by
 intro pins s σ H Q I h;refine wpAny_IfExp (thn (hc pins s σ H _ I h) fun d s1 ⟨H1,I1,q1⟩=>?_);cases d with
 |true=>exact ha pins s1 σ H1 Q I1 q1
 |false=>exact hb pins s1 σ H1 Q I1 q1
end
def SqL (K:W.Frag)(H:Hp)(a:Addr)(xs:List V):Prop:=Rd H a (.lst xs)\/∃(o:Obj) (its:Array Value) (n:Nat),K.lookup a=some o/\o.cls=.type "list"/\o.dict=none/\o.data=.seq its n/\its.size<=az/\Vals xs its.toList
def SqT (K:W.Frag)(H:Hp)(a:Addr)(xs:List V):Prop:=Rd H a (.tup xs)\/∃(o:Obj) (its:Array Value) (n:Nat),K.lookup a=some o/\o.cls=.type "tuple"/\o.dict=none/\o.data=.seq its n/\its.size<=az/\Vals xs its.toList
def absV:Value->Option V
 |.none=>some .non
 |.bool b=>some (.bl b)
 |.int i _=>some (.int i)
 |.str x _=>some (.str x)
 |.ref a=>some (.ref a)
 |.type n=>some (.ty n)
 |_=>none
theorem RelV.abs {x:V}{u:Value}(r:RelV x u):absV u=some x:=by
 cases x with
 |non=>cases r;rfl
 |bl _=>cases r;rfl
 |int _=>obtain⟨t,rfl⟩:=r;rfl
 |str _=>obtain⟨t,rfl⟩:=r;rfl
 |ref _=>cases r;rfl
 |ty _=>cases r;rfl
theorem RelV.inj {x y:V}{u:Value}(r:RelV x u)(q:RelV y u):x=y:=Option.some.inj (r.abs.symm.trans q.abs)
theorem Vals.inj:∀{xs ys:List V} {us:List Value},Vals xs us->Vals ys us->xs=ys
 |_,_,_,.nil,.nil=>rfl
 |_,_,_,.cons r t,.cons r' t'=>by rw[r.inj r',Vals.inj t t']
section
variable {X:Cx}{pins:List (Addr×Obj)}{σ:St}{H:Hp}{s:ae}{a:Addr}{xs ys:List V}
theorem SqL.of {K:W.Frag}(h:H a=some (.lst xs)):SqL K H a xs:=.inl (.inl h)
theorem SqT.of {K:W.Frag}(h:H a=some (.tup xs)):SqT K H a xs:=.inl (.inl h)
theorem Inv.list (I:Inv X pins σ H s)(h:SqL X.K H a xs):∃its:List Value,Vals xs its/\PlainL s.heap a its.toArray/\xs.length<=az:=by
 rcases h with h|⟨o,its,n,hk,hc,hd,hs,hz,r⟩
 ·obtain⟨z,its,n,r,e⟩:=h.ok I.hok;exact⟨its,r,⟨_,n,e,rfl,rfl,rfl⟩,z⟩
 ·refine⟨its.toList,r,⟨o,n,I.kIn a o hk,hc,hd,by simpa using hs⟩,?_⟩;have e:=r.length;simp only[dh]at e;omega
theorem Inv.tuple (I:Inv X pins σ H s)(h:SqT X.K H a xs):∃its:List Value,Vals xs its/\IsTup s.heap a its.toArray/\xs.length<=az:=by
 rcases h with h|⟨o,its,n,hk,hc,_,hs,hz,r⟩
 ·obtain⟨z,its,r,p⟩:=h.ok I.hok;exact⟨its,r,p.tup,z⟩
 ·refine⟨its.toList,r,⟨o,I.kIn a o hk,hc,n,by simpa using hs⟩,?_⟩;have e:=r.length;simp only[dh]at e;omega
theorem Inv.list_inj (I:Inv X pins σ H s)(h:SqL X.K H a xs)(h':SqL X.K H a ys):xs=ys:=by
 obtain⟨its,r,⟨o,n,e,_,_,d⟩,_⟩:=I.list h;obtain⟨its',r',⟨o',n',e',_,_,d'⟩,_⟩:=I.list h';rw[e]at e';cases e';rw[d]at d';injection d' with d1 _;have:its=its':=by simpa using congrArg Array.toList d1
 subst this;exact r.inj r'
theorem Inv.tuple_inj (I:Inv X pins σ H s)(h:SqT X.K H a xs)(h':SqT X.K H a ys):xs=ys:=by
 obtain⟨its,r,⟨o,e,_,n,d⟩,_⟩:=I.tuple h;obtain⟨its',r',⟨o',e',_,n',d'⟩,_⟩:=I.tuple h';rw[e]at e';cases e';rw[d]at d';injection d' with d1 _;have:its=its':=by simpa using congrArg Array.toList d1
 subst this;exact r.inj r'
end
abbrev Cx.wish (X:Cx)(E:Value->ae->Prop):Cx:={X with xe:=E}
abbrev Cx.nox (X:Cx):Cx:=X.wish fun _ _=>False
theorem Cx.Ok.wish {X:Cx}(ok:X.Ok)(E:Value->ae->Prop):(X.wish E).Ok:=⟨ok.mod,ok.kind,ok.glob,ok.blt,ok.above,ok.inj,ok.has,ok.cab,ok.hd,ok.frames,ok.stk,ok.exf,ok.bs,ok.bsz,ok.noex,ok.exfs,ok.funs,ok.frf,ok.fxN⟩
theorem Cx.Ok.unwish {X:Cx}{E:Value->ae->Prop}(ok:(X.wish E).Ok):X.Ok:=⟨ok.mod,ok.kind,ok.glob,ok.blt,ok.above,ok.inj,ok.has,ok.cab,ok.hd,ok.frames,ok.stk,ok.exf,ok.bs,ok.bsz,ok.noex,ok.exfs,ok.funs,ok.frf,ok.fxN⟩
section
variable {X:Cx}{pins:List (Addr×Obj)}{σ:St}{H:Hp}{s:ae}{E:Value->ae->Prop}
theorem Inv.wish (I:Inv X pins σ H s)(E:Value->ae->Prop):Inv (X.wish E) pins σ H s:=⟨I.ok.wish E,I.os,I.bare,I.base,I.loc,I.cell,I.free,I.freeC,I.pin,I.hok,I.len,I.fx⟩
theorem Inv.unwish (I:Inv (X.wish E) pins σ H s):Inv X pins σ H s:=⟨I.ok.unwish,I.os,I.bare,I.base,I.loc,I.cell,I.free,I.freeC,I.pin,I.hok,I.len,I.fx⟩
theorem SP.unwish {D:Ends}{f:Flow}{s':ae}(h:SP (X.wish E) pins D f s'):SP X pins D f s':=by
 cases f with
 |next=>obtain⟨σ',H',I,q⟩:=h;exact⟨σ',H',I.unwish,q⟩
 |brk=>obtain⟨σ',H',I,q⟩:=h;exact⟨σ',H',I.unwish,q⟩
 |cont=>obtain⟨σ',H',I,q⟩:=h;exact⟨σ',H',I.unwish,q⟩
 |ret u=>obtain⟨v,σ',H',I,r,q⟩:=h;exact⟨v,σ',H',I.unwish,r,q⟩
theorem PSs.nox {st:List Stmt}{t:TS}(h:PSs X.nox st t):PSs X st t:=fun pins s σ H D I hw=>jb (h pins s σ H D (I.wish _) hw) (fun _ _ q=>q.unwish) fun _ _ z=>False.elim z
end
section
variable {X:Cx}{st:Stmt}{rest:List Stmt}{t u:TS}{e:Expr}{te:TE}{pos:Pos}
def zjl:TS:=fun D σ H=>D.nx σ H
def tSeq (t u:TS):TS:=fun D σ H=>t {D with nx:=u D} σ H
theorem zaw:PSs X [] zjl:=fun _ _ σ H _ I h=>n6 ⟨σ,H,I,h⟩
theorem z41 (h1:PS X st t)(h2:PSs X rest u):PSs X (st::rest) (tSeq t u):=by
 intro pins s σ H D I h;refine wpAny_execs_cons (thn (h1 pins s σ H {D with nx:=u D} I h) fun f s1 q=>?_);cases f with
 |next=>obtain⟨σ',H',I',q⟩:=q;exact h2 pins s1 σ' H' D I' q
 |ret v=>exact q
 |brk=>exact q
 |cont=>exact q
def zqi:TS:=fun D σ H=>D.ct σ H
theorem z67:PS X (.Continue pos) zqi:=fun _ _ σ H _ I h=>wpAny_Continue ⟨σ,H,I,h⟩
theorem Inv.quiet {pins:List (Addr×Obj)}{σ:St}{H:Hp}{s:ae}(I:Inv X pins σ H s):interactive X.env=false:=by simp[interactive,I.ok.kind]
def zbi (te:TE):TS:=fun D σ H=>te σ H fun _ H1=>D.nx σ H1
theorem zgv (he:PE X e te)(hs:jo e none pos.line X.env=pure false:=by rfl):PS X (.Expr e pos) (zbi te):=by intro pins s σ H D I h;exact wpAny_Expr_any (thn (he pins s σ H _ I h) fun v s1 ⟨x,H1,I1,r1,q1⟩=>⟨σ,H1,I1,q1⟩) I.quiet hs
def tRet (te:TE):TS:=fun D σ H=>te σ H D.rt
theorem z7n (he:PE X e te):PS X (.Return (some e) pos) (tRet te):=by intro pins s σ H D I h;exact wpAny_Return_some (thn (he pins s σ H _ I h) fun v s1 ⟨x,H1,I1,r1,q1⟩=>⟨x,σ,H1,I1,r1,q1⟩)
def tIfS (c:TT)(t u:TS):TS:=fun D σ H=>c σ H fun b H1=>if b=true then t D σ H1 else u D σ H1
theorem ziv {c:Expr}{a b:List Stmt}{tc:TT}(hc:PT X c tc)(ha:PSs X a t)(hb:PSs X b u):PS X (.If c a b pos) (tIfS tc t u):=by
 intro pins s σ H D I h;refine wpAny_If (thn (hc pins s σ H _ I h) fun d s1 ⟨H1,I1,q1⟩=>?_);cases d with
 |true=>exact ha pins s1 σ H1 D I1 q1
 |false=>exact hb pins s1 σ H1 D I1 q1
end
abbrev TG:=V->St->Hp->(St->Hp->Prop)->Prop
abbrev TGs:=List V->St->Hp->(St->Hp->Prop)->Prop
def PG (X:Cx)(target:Expr)(t:TG):Prop:=∀(pins:List (Addr×Obj)) (s:ae) (σ:St) (H:Hp) (v:V) (u:Value) (Q:St->Hp->Prop),Inv X pins σ H s->RelV v u->t v σ H Q->wpAny (model X.prog X.w) X.A (nk target X.env u) (fun _ s'=>∃σ' H',Inv X pins σ' H' s'/\Q σ' H') X.xe s
def PGs (X:Cx)(ts:List Expr)(t:TGs):Prop:=∀(pins:List (Addr×Obj)) (s:ae) (σ:St) (H:Hp) (vs:List V) (us:List Value) (Q:St->Hp->Prop),Inv X pins σ H s->Vals vs us->t vs σ H Q->wpAny (model X.prog X.w) X.A (assignInOrder ((et ts X.env).map (·.2)) us) (fun _ s'=>∃σ' H',Inv X pins σ' H' s'/\Q σ' H') X.xe s
abbrev TSet:=V->V->V->Hp->(Hp->Prop)->Prop
def PSet (X:Cx)(t:TSet):Prop:=∀(pins:List (Addr×Obj)) (s:ae) (σ:St) (H:Hp) (o i v:V) (ov iv u:Value) (Q:Hp->Prop),Inv X pins σ H s->RelV o ov->RelV i iv->RelV v u->t o i v H Q->wpAny (model X.prog X.w) X.A (setItem ov iv u) (fun _ s'=>∃H',Inv X pins σ H' s'/\Q H') X.xe s
section
variable {X:Cx}{pos:Pos}
def zd0 (i:Nat):TG:=fun v σ H Q=>Q (σ.set i (some v)) H
theorem z9q {i:Nat}{x:Str}(hN:X.N.Nodup)(hi:X.N[i]?=some x)(hx:Loc X.env.scope x)(hf:X.fn x=true\/X.env.scope.names.lookup x=some .local:=by first|exact .inl rfl|exact .inr rfl|assumption):PG X (.Name x pos) (zd0 i):=by intro pins s σ H v u Q I r h;exact p6 (z4b I hN hi hx r (fun s' I'=>⟨_,H,I',h⟩) hf)
def gNil:TGs:=fun vs σ H Q=>vs=[]/\Q σ H
def zqs (t:TG)(u:TGs):TGs:=fun vs σ H Q=>∃v r,vs=v::r/\t v σ H fun σ' H'=>u r σ' H' Q
theorem ziq:PGs X [] gNil:=by intro pins s σ H vs us Q I r h;obtain⟨e,h⟩:=h;subst e;cases r;exact assignInOrder_nil ⟨σ,H,I,h⟩
theorem zde {e:Expr}{es:List Expr}{t:TG}{u:TGs}(h1:PG X e t)(h2:PGs X es u)
  (hs:(et (e::es) X.env).map (·.2)=nk e X.env::(et es X.env).map (·.2):=by rfl):PGs X (e::es) (zqs t u):=by
 intro pins s σ H vs us Q I r h;obtain⟨v,vr,e1,h⟩:=h;subst e1;cases r with
 |cons r rr=>rw[hs];refine assignInOrder_cons (thn (h1 pins s σ H _ _ _ I r h) fun _ s1 ⟨σ1,H1,I1,q1⟩=>?_);exact h2 pins s1 σ1 H1 _ _ Q I1 rr q1
def gTup (K:W.Frag)(n:Nat)(t:TGs):TG:=fun v σ H Q=>∃a xs,v=.ref a/\SqT K H a xs/\xs.length=n/\t xs σ H Q
theorem zm7 {es:List Expr}{k:Nat}{t:TGs}{n:Nat}(hc:X.calm=true)(h:PGs X es t)
  (hn:(et es X.env).length=n:=by rfl) (hst:(et es X.env).findIdx? (·.1)=none:=by rfl):PG X (.Tuple es k pos) (gTup X.K n t):=by
 intro pins s σ H v u Q I r hw;obtain⟨a,xs,e1,hq,hl,hw⟩:=hw;subst e1;cases r;obtain⟨its,rv,ht,hz⟩:=I.tuple hq;refine assign_Tuple_tuple (I.ok.hd hc) ht (by simp[hn,<-hl,rv.length]) hst fun h' hx=>?_;have I1:Inv X pins σ H {s with heap:=h'}:=I.kept (t':=s.toks) fun b o e=>hx b o (cg (bc e)) e;exact h pins _ σ H xs _ Q I1 (by simpa using rv) hw
def tAsg (te:TE)(g:TG):TS:=fun D σ H=>te σ H fun x H1=>g x σ H1 D.nx
theorem zmp {tg e:Expr}{te:TE}{g:TG}(he:PE X e te)(hg:PG X tg g)(hs:pc [tg] e pos.line X.env=pure false:=by rfl)(hw:pd [tg] e X.env=pure none:=by rfl)
  (h1:(et [tg] X.env).map (·.2)=[nk tg X.env]:=by rfl):PS X (.Assign [tg] e pos) (tAsg te g):=by
 intro pins s σ H D I h;refine wpAny_Assign_stores (thn (he pins s σ H _ I h) fun v s1 ⟨x,H1,I1,r1,q1⟩=>?_) hs hw;rw[h1];exact thn (hg pins s1 σ H1 x v _ I1 r1 q1) fun _ s2 q=>q
theorem zf7 {i:Nat}{x:Str}{e:Expr}{te:TE}{pos':Pos}(hN:X.N.Nodup)(hi:X.N[i]?=some x)(hx:Loc X.env.scope x)(he:PE X e te)(hs:jo e (some (.Name x pos')) pos.line X.env=pure false:=by rfl)(hf:X.fn x=true\/X.env.scope.names.lookup x=some .local:=by first|exact .inl rfl|exact .inr rfl|assumption):
  PS X (.Assign [.Name x pos'] e pos) (tAsg te (zd0 i)):=by
 intro pins s σ H D I h;refine wpAny_Assign_Name (thn (he pins s σ H _ I h) fun v s1 ⟨y,H1,I1,r1,q1⟩=>?_) hs;exact z4b I1 hN hi hx r1 (fun s2 I2=>⟨_,H1,I2,q1⟩) hf
end
section
variable {X:Cx}{pos:Pos}
end
structure It where
 go:Nat->Hp->Prop
 yld:Nat->Hp->V->Hp->Prop
 stop:Nat->Hp->Prop
def FpOk (X:Cx)(pins:List (Addr×Obj))(H:Hp)(b:Addr):Prop:=H b=none/\b≠X.env.locals/\b∉X.fs/\(b∈X.ex\/X.s₀.heap.objs.size<=b)/\(∀x c,X.env.cells.lookup x=some c->c≠b)/\∀p∈X.pn++pins,p.1≠b
theorem Inv.fpOk {X:Cx}{pins:List (Addr×Obj)}{σ:St}{H H':Hp}{s:ae}{b:Addr}(I:Inv X pins σ H s)(hb:s.heap.objs.size<=b)(hn:H' b=none):FpOk X pins H' b:=by
 refine⟨hn,nq (bv I.lt hb),I.nofs hb,.inr (bw I.sz hb),fun x c e z=>?_,fun p hp z=>?_⟩
 ·obtain⟨v,q⟩:=I.cell x c e;exact absurd (bv q.lt (by rw[z];exact hb)) (de _)
 ·exact absurd (bv (bc (I.pin p hp).1) (by rw[z];exact hb)) (de _)
structure Turn (P:ax)(w:World)(K:W.Frag)(tg:Expr)(J:It)(fp:List Addr)(it:Addr)(tn:Nat->Heap->Prop):Prop where
 mem:it∈fp
 obj:∀i h,tn i h->∀b∈fp,∃o,h.get? b=some o/\∀v,o.data≠.cell v
 keep:∀i h h',tn i h->(∀b∈fp,∀o,h.get? b=some o->h'.get? b=some o)->tn i h'
 item:∀(X:Cx),X.prog=P->X.w=w->X.K=K->X.calm=true->∀(i:Nat) (pins:List (Addr×Obj)) (s:ae) (σ:St) (H:Hp) (E:Value->ae->Prop),Inv X pins σ H s->(∀b∈fp,FpOk X pins H b)->tn i s.heap->J.go i H->wpAny (model P w) X.A (qp (.ref it)) (fun r s1=>∃u,r=some u/\wpAny (model P w) X.A (ip tg (.ref it) u) (fun _ s2=>∃x H',Inv X pins σ H' s2/\RelV x u/\J.yld i H x H'/\tn (i+1) s2.heap/\∀b∈fp,H' b=none) E s1) E s
 done:∀(X:Cx),X.prog=P->X.w=w->X.K=K->X.calm=true->∀(i:Nat) (pins:List (Addr×Obj)) (s:ae) (σ:St) (H:Hp) (E:Value->ae->Prop),Inv X pins σ H s->(∀b∈fp,FpOk X pins H b)->tn i s.heap->J.stop i H->wpAny (model P w) X.A (qp (.ref it)) (fun r s1=>r=none/\Inv X pins σ H s1) E s
 self:∀(A:cq) (i:Nat) (s:ae) (Q:Value->ae->Prop) (E:Value->ae->Prop),tn i s.heap->Q (.ref it) s->wpAny (model P w) A (qq (.ref it)) Q E s
abbrev TI:=St->Hp->(It->Hp->Prop)->Prop
def PIE (X:Cx)(pins:List (Addr×Obj))(σ:St)(tg:Expr)(R:It->Hp->Prop)(itv:Value)(s2:ae):Prop:=∃(it:Addr) (fp:List Addr) (tn:Nat->Heap->Prop) (J:It) (H':Hp),itv=.ref it/\Inv X pins σ H' s2/\Turn X.prog X.w X.K tg J fp it tn/\tn 0 s2.heap/\(∀b∈fp,FpOk X pins H' b)/\R J H'
def PI (X:Cx)(tg iter:Expr)(wi:TI):Prop:=∀(pins:List (Addr×Obj)) (s:ae) (σ:St) (H:Hp) (R:It->Hp->Prop),Inv X pins σ H s->wi σ H R->wpAny (model X.prog X.w) X.A (eval iter X.env) (fun v s1=>wpAny (model X.prog X.w) X.A (qq v) (PIE X pins σ tg R) X.xe s1) X.xe s
theorem zei {M:Model}{A:cq}{E:Value->ae->Prop}{s:ae}{tg:Expr}{it:Addr}{u:Value}{o:Obj}{n:String}{vs:Array Value}{Q:Unit->ae->Prop}(ho:s.heap.get? it=some o)(hc:o.cls=.type n)(hd:o.data=.fields vs)
  (hn:["enumerate","zip","dict_itemiterator","dict_reverseitemiterator","odict_iterator","itertools.zip_longest","itertools.pairwise"].contains n=false) (hQ:Q () s):wpAny M A (ip tg (.ref it) u) Q E s:=by
 unfold ip
 cases tg<;>first
  |exact au hQ
  |(cases u<;>first
   |exact au hQ
   |(refine aa (sf ho ?_)
     rw[hc,hd];show wpAny M A (if(["enumerate","zip","dict_itemiterator","dict_reverseitemiterator","odict_iterator","itertools.zip_longest","itertools.pairwise"].contains n&&vs[0]?==some (jh _))=true then _ else _) Q E s;rw[if_neg (by intro h;rw[hn,Bool.false_and]at h;cases h)];exact au hQ))
def Itl (K:W.Frag)(a:Addr):It:=⟨fun i H=>∃xs x,SqL K H a xs/\xs[i]?=some x,fun i H x H'=>H'=H/\∀xs,SqL K H a xs->xs[i]?=some x,fun i H=>∃xs,SqL K H a xs/\xs.length<=i⟩
def Itt (K:W.Frag)(a:Addr):It:=⟨fun i H=>∃xs x,SqT K H a xs/\xs[i]?=some x,fun i H x H'=>H'=H/\∀xs,SqT K H a xs->xs[i]?=some x,fun i H=>∃xs,SqT K H a xs/\xs.length<=i⟩
def Itr (lo:Int)(n:Nat):It:=⟨fun i _=>i<n,fun i H x H'=>H'=H/\x=.int (lo+i),fun i _=>n<=i⟩
theorem z5k {P:ax}{w:World}{K:W.Frag}{tg:Expr}(a it:Addr):Turn P w K tg (Itl K a) [it] it (fun i h=>h.IsListIter it a i) where
 mem:=by simp
 obj:=fun i h st b hb=>by
  have e:b=it:=by simpa using hb
  subst e;obtain⟨o,e,c,d⟩:=st;exact⟨o,e,fun v z=>by rw[d]at z;cases z⟩
 keep:=fun i h h' st k=>st.at fun o e=>k it (by simp) o e
 item:=by intro X hP hw hK hc i pins s σ H E I hf st hg;subst hP hw hK;obtain⟨xs,x,hq,hx⟩:=hg;obtain⟨its,rv,p,hz⟩:=I.list hq;obtain⟨u,hu,ru⟩:=rv.get hx;obtain⟨f0,f1,f2,f3,f4,f5⟩:=hf it (by simp);refine wpAny_pyNext_list_item st p.isList (x:=u) (by simpa using hu) fun h' st' sb=>?_;have I1:Inv X pins σ H {s with heap:=h'}:=I.turned (t':=s.toks) (fun b o hb e=>(sb.2 b hb).trans e) f0 f1 f3 f4 f5;obtain⟨o,e,c,d⟩:=id st';exact⟨u,rfl,zei (s:={s with heap:=h'}) e c d (by decide) ⟨x,H,I1,ru,⟨rfl,fun ys hy=>by rw[I.list_inj hy hq];exact hx⟩,st',fun b hb=>(hf b hb).1⟩⟩
 done:=by intro X hP hw hK hc i pins s σ H E I hf st hg;subst hP hw hK;obtain⟨xs,hq,hx⟩:=hg;obtain⟨its,rv,p,hz⟩:=I.list hq;obtain⟨f0,f1,f2,f3,f4,f5⟩:=hf it (by simp);have hl:=rv.length;exact wpAny_pyNext_list_end (I.ok.hd hc) st p.isList (by simp;omega) fun h' eb=>⟨rfl,I.turned (t':=s.toks) (fun b o hb e=>eb b o hb e) f0 f1 f3 f4 f5⟩
 self:=fun _ _ _ _ _ st h=>wpAny_pyIter_listiter st h
theorem z96 {P:ax}{w:World}{K:W.Frag}{tg:Expr}(a it:Addr):Turn P w K tg (Itt K a) [it] it (fun i h=>h.IsTupleIter it a i) where
 mem:=by simp
 obj:=fun i h st b hb=>by
  have e:b=it:=by simpa using hb
  subst e;obtain⟨o,e,c,d⟩:=st;exact⟨o,e,fun v z=>by rw[d]at z;cases z⟩
 keep:=fun i h h' st k=>st.at fun o e=>k it (by simp) o e
 item:=by intro X hP hw hK hc i pins s σ H E I hf st hg;subst hP hw hK;obtain⟨xs,x,hq,hx⟩:=hg;obtain⟨its,rv,p,hz⟩:=I.tuple hq;obtain⟨u,hu,ru⟩:=rv.get hx;obtain⟨f0,f1,f2,f3,f4,f5⟩:=hf it (by simp);refine wpAny_pyNext_tuple_item st (show s.heap.IsTuple a its.toArray from p) (x:=u) (by simpa using hu) fun h' st' sb=>?_;have I1:Inv X pins σ H {s with heap:=h'}:=I.turned (t':=s.toks) (fun b o hb e=>(sb.2 b hb).trans e) f0 f1 f3 f4 f5;obtain⟨o,e,c,d⟩:=id st';exact⟨u,rfl,zei (s:={s with heap:=h'}) e c d (by decide) ⟨x,H,I1,ru,⟨rfl,fun ys hy=>by rw[I.tuple_inj hy hq];exact hx⟩,st',fun b hb=>(hf b hb).1⟩⟩
 done:=by intro X hP hw hK hc i pins s σ H E I hf st hg;subst hP hw hK;obtain⟨xs,hq,hx⟩:=hg;obtain⟨its,rv,p,hz⟩:=I.tuple hq;obtain⟨f0,f1,f2,f3,f4,f5⟩:=hf it (by simp);have hl:=rv.length;exact wpAny_pyNext_tuple_end (I.ok.hd hc) st (show s.heap.IsTuple a its.toArray from p) (by simp;omega) fun h' eb=>⟨rfl,I.turned (t':=s.toks) (fun b o hb e=>eb b o hb e) f0 f1 f3 f4 f5⟩
 self:=fun _ _ _ _ _ st h=>wpAny_pyIter_tupleiter st h
theorem z8p {P:ax}{w:World}{K:W.Frag}{tg:Expr}(it:Addr)(lo:Int)(n:Nat):Turn P w K tg (Itr lo n) [it] it (fun i h=>IsRangeIter h it (lo+(i:Nat)*1) ((n:Int)-(i:Nat)) 1) where
 mem:=by simp
 obj:=fun i h st b hb=>by
  have e:b=it:=by simpa using hb
  subst e;exact⟨_,st,fun v z=>by have z':Data.fields _=Data.cell v:=z;cases z'⟩
 keep:=fun i h h' st k=>k it (by simp) _ st
 item:=by intro X hP hw hK hc i pins s σ H E I hf st hg;subst hP hw hK;obtain⟨f0,f1,f2,f3,f4,f5⟩:=hf it (by simp);have W:=Walks.range (prog:=X.prog) (w:=X.w) (I.ok.hd hc) it lo 1 n;refine W.item i s _ _ hg st fun v h' tk hv st' kk=>?_;obtain⟨t,rfl⟩:=hv;have I1:Inv X pins σ H {s with heap:=h',toks:=tk}:=I.turned (fun b o hb e=>kk b o (by simpa using hb) e) f0 f1 f3 f4 f5;refine⟨_,rfl,zei (s:={s with heap:=h',toks:=tk}) (n:="range_iterator") st' rfl rfl (by decide) ⟨.int (lo+i),H,I1,⟨t,?_⟩,⟨rfl,rfl⟩,st',fun b hb=>(hf b hb).1⟩⟩;rw[Int.mul_one]
 done:=by intro X hP hw hK hc i pins s σ H E I hf st hg;subst hP hw hK;obtain⟨f0,f1,f2,f3,f4,f5⟩:=hf it (by simp);exact wpAny_pyNext_range_end (I.ok.hd hc) st (by have:n<=i:=hg;omega) fun h' eb=>⟨rfl,I.turned (t':=s.toks) (fun b o hb e=>eb b o hb e) f0 f1 f3 f4 f5⟩
 self:=fun _ _ _ _ _ st h=>wpAny_pyIter_rangeiter st h
section
variable {X:Cx}{tg:Expr}
def zbj (K:W.Frag)(tl:TE):TI:=fun σ H R=>tl σ H fun x H1=>∃a,x=.ref a/\(∃xs,SqL K H1 a xs)/\R (Itl K a) H1
theorem zgk {l:Expr}{tl:TE}(hl:PE X l tl):PI X tg l (zbj X.K tl):=by
 intro pins s σ H R I h;refine thn (hl pins s σ H _ I h) fun v s1 ⟨x,H1,I1,r1,q1⟩=>?_;obtain⟨a,e,⟨xs,hq⟩,q⟩:=q1;subst e;cases r1;obtain⟨its,rv,p,hz⟩:=I1.list hq;refine ku p.isList ?_;refine⟨s1.heap.objs.size,[s1.heap.objs.size],_,_,H1,rfl,I1.kept (t':=s1.toks) fun b o e=>af _ e,z5k a _,⟨_,ba _ rfl,rfl,rfl⟩,fun b hb=>?_,q⟩;have e:b=s1.heap.objs.size:=by simpa using hb
 subst e;exact I1.fpOk (aj _) (I1.hok.fresh (aj _))
theorem zea {pins:List (Addr×Obj)}{σ:St}{H:Hp}{s:ae}{R:It->Hp->Prop}{E:Value->ae->Prop}{lo hi:Int}{t u v:Tok}{tk:Nat}(I:Inv X pins σ H s)(h1:-(2 ^ 62)<=lo)(h2:lo<2 ^ 62)(h3:-(2 ^ 62)<=hi)(h4:hi<2 ^ 62)
  (q:R (Itr lo (hi-lo).toNat) H):wpAny (model X.prog X.w) X.A (qq (.ref s.heap.objs.size)) (PIE X pins σ tg R) E {s with heap:=s.heap.push {cls:=.type "range",data:=.fields #[.int lo t,.int hi u,.int 1 v]},toks:=tk}:=by
 refine wpAny_pyIter_range (IsRange.new ..) (small_one h1 h2 h3 h4) ?_;have I1:Inv X pins σ H {s with heap:=s.heap.push {cls:=.type "range",data:=.fields #[.int lo t,.int hi u,.int 1 v]},toks:=tk}:=I.kept fun b o e=>af _ e;refine⟨(s.heap.push {cls:=.type "range",data:=.fields #[.int lo t,.int hi u,.int 1 v]}).objs.size,[(s.heap.push {cls:=.type "range",data:=.fields #[.int lo t,.int hi u,.int 1 v]}).objs.size],_,_,H,rfl,I1.kept (t':=tk) fun b o e=>af _ e,z8p _ lo (hi-lo).toNat,?_,fun b hb=>?_,q⟩
 ·have e1:lo+((0:Nat):Int)*1=lo:=by simp
  have e2:(((hi-lo).toNat:Nat):Int)-((0:Nat):Int)=Builtin.Range.rangeSize lo hi 1:=by rw[rangeSize_one];split<;>omega
  show IsRangeIter _ _ (lo+((0:Nat):Int)*1) ((((hi-lo).toNat:Nat):Int)-((0:Nat):Int)) 1;rw[e1,e2];exact ba _ rfl
 ·have e:b=(s.heap.push {cls:=.type "range",data:=.fields #[.int lo t,.int hi u,.int 1 v]}).objs.size:=by simpa using hb
  subst e;exact I1.fpOk (aj _) (I1.hok.fresh (aj _))
def zrg (ta:TA):TI:=fun σ H R=>ta σ H fun vs H1=>∃j:Int,vs=[.int j]/\-(2 ^ 62)<=j/\j<2 ^ 62/\R (Itr 0 j.toNat) H1
theorem zbb {a:Expr}{ta:TA}{p pos:Pos}(hg:Gl X "range")(hm:X.mg "range"=none)(ha:PA X [a] ta)(hs:cu [a] X.env=[(false,eval a X.env)]:=by rfl):PI X tg (.Call (.Name "range" p) [a] [] pos) (zrg ta):=by
 intro pins s σ H R I h;refine Call_ (z20 I hg hm boot_range (PyProof.Rows.callWith_type1 (thn (ha pos pins s σ H _ I h) fun us s1 ⟨vs,H1,I1,r1,q1⟩=>?_) hs rfl));obtain⟨j,e,q1,q2,q⟩:=q1;subst e;cases r1 with
 |cons r rr=>cases rr;obtain⟨t,rfl⟩:=r;exact call_range_1 (zea I1 (by omega) (by omega) q1 q2 (by simpa using q))
def tFor (wi:TI)(g:TG)(tb:TS):TS:=fun D σ H=>wi σ H fun J H1=>∃W:Nat->Nat->St->Hp->Prop,(∃m,W 0 m σ H1)/\∀i m σ H,W i m σ H->(J.stop i H/\D.nx σ H)\/(J.go i H/\∃N:St->Hp->Prop,(∀σ' H',N σ' H'->∃m',m'<m/\W (i+1) m' σ' H')/\∀x H',J.yld i H x H'->g x σ H' fun σ2 H2=>tb {D with nx:=N,ct:=N,bk:=D.nx} σ2 H2)
def z56 (fp:List Addr)(h:Heap):List (Addr×Obj):=fp.filterMap fun b=>(h.get? b).map fun o=>(b,o)
theorem z1x {fp:List Addr}{h:Heap}{b:Addr}{o:Obj}(hb:b∈fp)(e:h.get? b=some o):(b,o)∈z56 fp h:=l8.mpr ⟨b,hb,by rw[e];rfl⟩
theorem zb9 {fp:List Addr}{h:Heap}{p:Addr×Obj}(hp:p∈z56 fp h):p.1∈fp/\h.get? p.1=some p.2:=by
 obtain⟨b,hb,e⟩:=l8.mp hp;cases q:h.get? b with
 |none=>rw[q]at e;cases e
 |some o=>rw[q]at e;have e':(b,o)=p:=Option.some.inj e;subst e';exact⟨hb,q⟩
theorem Inv.pinned {pins:List (Addr×Obj)}{σ:St}{H:Hp}{s:ae}{fp:List Addr}(I:Inv X pins σ H s)(hf:∀b∈fp,FpOk X pins H b)(ho:∀b∈fp,∃o,s.heap.get? b=some o/\∀v,o.data≠.cell v):Inv X (pins++z56 fp s.heap) σ H s:=I.pins_of fun p hp=>(dz.mp hp).elim (fun z=>I.pin p (b8 _ z)) fun z=>by obtain⟨hb,e⟩:=zb9 z;obtain⟨f0,f1,f2,_⟩:=hf p.1 hb;obtain⟨o,e',d⟩:=ho p.1 hb;rw[e]at e';cases e';exact⟨e,f0,f1,f2,d⟩
theorem Inv.unpinned {pins pl:List (Addr×Obj)}{σ:St}{H:Hp}{s:ae}(I:Inv X (pins++pl) σ H s):Inv X pins σ H s:=I.pins_of fun p hp=>I.pin p (b8 _ (d7 _ hp))
theorem z7b {iter:Expr}{body:List Stmt}{wi:TI}{g:TG}{tb:TS}{pos:Pos}(hp:fg (model X.prog X.w) X.A X.env X.xe)(hc:X.calm=true)(hi:PI X tg iter wi)(hg:PG X tg g)(hb:PSs X body tb)
  (hs:∀x,fi iter X.env x=pure x:=by intro _;rfl):PS X (.For tg iter body [] pos) (tFor wi g tb):=by
 intro pins s σ H D I h;refine wpAny_For (thn (hi pins s σ H _ I h) fun v s1 h1=>thn h1 fun itv s2 h2=>?_) hs;obtain⟨it,fp,tn,J,H2,e,I2,T,st2,f2,W,⟨m0,w0⟩,turn⟩:=h2;subst e;have stat:∀{H':Hp},(∀b∈fp,H' b=none)->∀b∈fp,FpOk X pins H' b:=fun hn b hb=>⟨hn b hb,(f2 b hb).2⟩;refine codeAny_forLoop_any (fun n s'=>∃i σ' H',Inv X pins σ' H' s'/\tn i s'.heap/\(∀b∈fp,H' b=none)/\W i n σ' H') ?_ m0 ⟨0,σ,H2,I2,st2,fun b hb=>(f2 b hb).1,w0⟩
 rintro n s3 ⟨i,σ3,H3,I3,st3,fr3,w3⟩
 rcases turn i n σ3 H3 w3 with⟨stop,qn⟩|⟨go,N,hN,step⟩
 ·refine jz hp (thn (T.done X rfl rfl rfl hc i pins s3 σ3 H3 X.xe I3 (stat fr3) st3 stop) fun r s4 ⟨hr,I4⟩=>?_);subst hr;exact n6 ⟨σ3,H3,I4,qn⟩
 ·refine jz hp (thn (T.item X rfl rfl rfl hc i pins s3 σ3 H3 X.xe I3 (stat fr3) st3 go) fun r s4 ⟨u,hr,h4⟩=>?_);subst hr;refine jz hp (thn h4 fun _ s5 ⟨x,H5,I5,r5,y5,st5,fr5⟩=>?_);have I5':=I5.pinned (stat fr5) (T.obj _ _ st5);refine jz hp (thn (hg _ s5 σ3 H5 x u _ I5' r5 (step x H5 y5)) fun _ s6 ⟨σ6,H6,I6,q6⟩=>?_);refine jz hp (thn (hb _ s6 σ6 H6 _ I6 q6) fun f s7 q7=>?_);have again:∀{σ7:St} {H7:Hp},Inv X (pins++z56 fp s5.heap) σ7 H7 s7->N σ7 H7->∃m,m<n/\∃i σ' H',Inv X pins σ' H' s7/\tn i s7.heap/\(∀b∈fp,H' b=none)/\W i m σ' H':=fun{σ7 H7} I7 n7=>by obtain⟨m',hm,w7⟩:=hN σ7 H7 n7;refine⟨m',hm,i+1,σ7,H7,I7.unpinned,T.keep _ _ _ st5 fun b hb o e=>(I7.pin (b,o) (b8 _ (b8 _ (z1x hb e)))).1,fun b hb=>?_,w7⟩;obtain⟨o,e,d⟩:=T.obj _ _ st5 b hb;exact(I7.pin (b,o) (b8 _ (b8 _ (z1x hb e)))).2.1
  cases f with
  |next=>obtain⟨σ7,H7,I7,n7⟩:=q7;exact again I7 n7
  |cont=>obtain⟨σ7,H7,I7,n7⟩:=q7;exact again I7 n7
  |brk=>obtain⟨σ7,H7,I7,q7⟩:=q7;exact⟨σ7,H7,I7.unpinned,q7⟩
  |ret v=>obtain⟨x7,σ7,H7,I7,r7,q7⟩:=q7;exact⟨x7,σ7,H7,I7.unpinned,r7,q7⟩
end
abbrev R2:=V->V->Hp->VK->Prop
def OpR (X:Cx)(f:Value->Value->Sem Value)(r:R2):Prop:=∀(pins:List (Addr×Obj)) (s:ae) (σ:St) (H:Hp) (x y:V) (v u:Value) (Q:VK),Inv X pins σ H s->RelV x v->RelV y u->r x y H Q->wpAny (model X.prog X.w) X.A (f v u) (EP X pins σ Q) X.xe s
def CallR (X:Cx)(f:Value)(r:List V->Hp->VK->Prop):Prop:=∀(pins:List (Addr×Obj)) (s:ae) (σ:St) (H:Hp) (xs:List V) (us:List Value) (Q:VK),Inv X pins σ H s->Vals xs us->r xs H Q->wpAny (model X.prog X.w) X.A (call f us) (EP X pins σ Q) X.xe s
def TruR (X:Cx)(r:V->Hp->(Bool->Hp->Prop)->Prop):Prop:=∀(pins:List (Addr×Obj)) (s:ae) (σ:St) (H:Hp) (x:V) (v:Value) (Q:Bool->Hp->Prop),Inv X pins σ H s->RelV x v->r x H Q->wpAny (model X.prog X.w) X.A (se v) (TP X pins σ Q) X.xe s
def tOp (r:R2)(ta tb:TE):TE:=fun σ H Q=>ta σ H fun x H1=>tb σ H1 fun y H2=>r x y H2 Q
def rI (C:Int->Int->Prop)(g:Int->Int->V):R2:=fun x y H Q=>∃i j,x=.int i/\y=.int j/\C i j/\Q (g i j) H
def rI0 (g:Int->Int->V):R2:=fun x y H Q=>∃i j,x=.int i/\y=.int j/\Q (g i j) H
section
variable {X:Cx}{a b c:Expr}{ta tb tc:TE}{pos:Pos}
theorem binT (ha:PE X a ta)(hb:PE X b tb){pins:List (Addr×Obj)}{s:ae}{σ:St}{H:Hp}{R:V->V->Hp->Prop}(I:Inv X pins σ H s)
  (h:ta σ H fun x H1=>tb σ H1 fun y H2=>R x y H2) {Q:Value->ae->Prop} {f:Value->Value->Sem Value}
  (hf:∀v u s2 x y H2,Inv X pins σ H2 s2->RelV x v->RelV y u->R x y H2->wpAny (model X.prog X.w) X.A (f v u) Q X.xe s2):
  wpAny (model X.prog X.w) X.A (eval a X.env) (fun v s₁=>wpAny (model X.prog X.w) X.A (eval b X.env) (fun u s₂=>wpAny (model X.prog X.w) X.A (f v u) Q X.xe s₂) X.xe s₁) X.xe s:=by
 refine thn (ha pins s σ H _ I h) fun v s1 ⟨x,H1,I1,r1,q1⟩=>?_;refine thn (hb pins s1 σ H1 _ I1 q1) fun u s2 ⟨y,H2,I2,r2,q2⟩=>?_;exact hf v u s2 x y H2 I2 r1 r2 q2
theorem zns {op:jl}{r:R2}(ho:OpR X (gj op) r)(ha:PE X a ta)(hb:PE X b tb):PE X (.BinOp a op b pos) (tOp r ta tb):=by intro pins s σ H Q I h;exact wpAny_BinOp (binT ha hb I h fun v u s2 x y H2 I2 rx ry q=>ho pins s2 σ H2 x y v u Q I2 rx ry q)
theorem opI {f:Value->Value->Sem Value}{C:Int->Int->Prop}{g:Int->Int->Int}
  (rule:∀(i j:Int) (t u:Tok) (s:ae) (Q:Value->ae->Prop) (E:Value->ae->Prop),C i j->Q (.int (g i j) s.toks) {s with toks:=s.toks+1}->wpAny (model X.prog X.w) X.A (f (.int i t) (.int j u)) Q E s):
  OpR X f (rI C fun i j=>.int (g i j)):=by
 intro pins s σ H x y v u Q I rx ry h;obtain⟨i,j,rfl,rfl,hc,q⟩:=h;obtain⟨t,rfl⟩:=rx;obtain⟨t',rfl⟩:=ry;exact rule i j t t' s _ _ hc ⟨.int (g i j),H,I.tok _,⟨_,rfl⟩,q⟩
theorem opI0 {f:Value->Value->Sem Value}{g:Int->Int->Int}
  (rule:∀(i j:Int) (t u:Tok) (s:ae) (Q:Value->ae->Prop) (E:Value->ae->Prop),Q (.int (g i j) s.toks) {s with toks:=s.toks+1}->wpAny (model X.prog X.w) X.A (f (.int i t) (.int j u)) Q E s):
  OpR X f (rI0 fun i j=>.int (g i j)):=by
 intro pins s σ H x y v u Q I rx ry h;obtain⟨i,j,rfl,rfl,q⟩:=h;obtain⟨t,rfl⟩:=rx;obtain⟨t',rfl⟩:=ry;exact rule i j t t' s _ _ ⟨.int (g i j),H,I.tok _,⟨_,rfl⟩,q⟩
theorem opB0 {f:Value->Value->Sem Value}{g:Int->Int->Bool}
  (rule:∀(i j:Int) (t u:Tok) (s:ae) (Q:Value->ae->Prop) (E:Value->ae->Prop),Q (.bool (g i j)) s->wpAny (model X.prog X.w) X.A (f (.int i t) (.int j u)) Q E s):
  OpR X f (rI0 fun i j=>.bl (g i j)):=by
 intro pins s σ H x y v u Q I rx ry h;obtain⟨i,j,rfl,rfl,q⟩:=h;obtain⟨t,rfl⟩:=rx;obtain⟨t',rfl⟩:=ry;exact rule i j t t' s _ _ ⟨.bl (g i j),H,I,rfl,q⟩
def CPow (i j:Int):Prop:=0<=j/\j<=1000000/\i.natAbs<2 ^ 64
def CMul (i j:Int):Prop:=(-(2 ^ 64)<i/\i<2 ^ 64)\/(-(2 ^ 64)<j/\j<2 ^ 64)
theorem CMul.ok {i j:Int}(h:CMul i j):IntMulOk i j:=by
 rcases h with⟨h1,h2⟩|⟨h1,h2⟩
 ·exact .of_left (intBits_le_64 h1 h2)
 ·exact .of_right (intBits_le_64 h1 h2)
theorem zm0:OpR X (gj .Add) (rI0 fun i j=>.int (i+j)):=opI0 fun _ _ _ _ _ _ _ q=>add_int q
theorem zl5:OpR X (gj .Sub) (rI0 fun i j=>.int (i-j)):=opI0 fun _ _ _ _ _ _ _ q=>sub_int q
theorem zk3:OpR X (gj .Mult) (rI CMul fun i j=>.int (i*j)):=opI fun _ _ _ _ _ _ _ hc q=>mul_int q hc.ok
theorem zjv:OpR X (gj .Mod) (rI (fun _ j=>0<j) fun i j=>.int (i%j)):=opI fun i j _ _ _ _ _ hc q=>by have h1:(0:Int)<j:=hc;exact mod_int' (by omega) (by rw[Int.fmod_eq_emod_of_nonneg i (by omega)];exact q)
theorem zjm:OpR X (gj .Pow) (rI CPow fun i j=>.int (i ^ j.toNat)):=opI fun _ _ _ _ _ _ _ hc q=>pow_int_small hc.1 hc.2.1 hc.2.2 q
end
section
variable {X:Cx}{a b c:Expr}{ta tb tc:TE}{pos:Pos}
theorem zfq {pins:List (Addr×Obj)}{σ:St}{H:Hp}{s:ae}{Q:VK}{k k':Bool}(I:Inv X pins σ H s)(q:Q (.bl k) H)(e:k=k'):EP X pins σ Q (.bool k') s:=by subst e;exact⟨.bl k,H,I,rfl,q⟩
theorem zpb:OpR X (cr .Lt) (rI0 fun i j=>.bl (decide (i<j))):=opB0 fun _ _ _ _ _ _ _ q=>lt_int q
theorem zo6:OpR X (cr .LtE) (rI0 fun i j=>.bl (decide (i<=j))):=opB0 fun _ _ _ _ _ _ _ q=>le_int q
theorem zqu:OpR X (cr .Gt) (rI0 fun i j=>.bl (decide (j<i))):=opB0 fun _ _ _ _ _ _ _ q=>gt_int q
theorem zba:OpR X (cr .Lt) (fun x y H Q=>∃i j,x=.str i/\y=.str j/\Q (.bl (decide (i.cps.toList<j.cps.toList))) H):=by intro pins s σ H x y v u Q I rx ry h;obtain⟨i,j,rfl,rfl,q⟩:=h;obtain⟨t,rfl⟩:=rx;obtain⟨t',rfl⟩:=ry;exact lt_str (zfq I q rfl)
theorem zbh:OpR X (cr .In) (fun x y H Q=>∃i j,x=.str i/\y=.str j/\Q (.bl (!(cy j i 0 j.length 1).isEmpty)) H):=by intro pins s σ H x y v u Q I rx ry h;obtain⟨i,j,rfl,rfl,q⟩:=h;obtain⟨t,rfl⟩:=rx;obtain⟨t',rfl⟩:=ry;exact in_str (zfq I q rfl)
theorem OpR.or {f:Value->Value->Sem Value}{r r':R2}(h:OpR X f r)(h':OpR X f r'):OpR X f (fun x y H Q=>r x y H Q\/r' x y H Q):=by
 intro pins s σ H x y v u Q I rx ry q;rcases q with q|q
 ·exact h pins s σ H x y v u Q I rx ry q
 ·exact h' pins s σ H x y v u Q I rx ry q
theorem zg8 {op:CmpOp}{r:R2}(ho:OpR X (cr op) r)(ha:PE X a ta)(hb:PE X b tb)(hm:gp op b=false):PE X (.Compare a [op] [b] pos) (tOp r ta tb):=by intro pins s σ H Q I h;exact wpAny_Compare1 (binT ha hb I h fun v u s2 x y H2 I2 rx ry q=>ho pins s2 σ H2 x y v u Q I2 rx ry q) hm
def za9 (t:TE):TT:=fun σ H Q=>t σ H fun x H'=>∃k,x=.bl k/\Q k H'
theorem zau {op:CmpOp}{r:R2}(ho:OpR X (cr op) r)(ha:PE X a ta)(hb:PE X b tb)(hm:gp op b=false):PT X (.Compare a [op] [b] pos) (za9 (tOp r ta tb)):=by intro pins s σ H Q I h;refine wpAny_isTrue_Compare1 (thn (ha pins s σ H _ I h) fun v s1 ⟨x,H1,I1,r1,q1⟩=>thn (hb pins s1 σ H1 _ I1 q1) fun u s2 ⟨y,H2,I2,r2,q2⟩=>thn (ho pins s2 σ H2 x y v u _ I2 r1 r2 q2) fun c s3 ⟨z,H3,I3,r3,k,e,q3⟩=>?_) hm;subst e;cases r3;exact eh ⟨H3,I3,q3⟩
def zbp (r r':R2)(ta tb tc:TE):TE:=fun σ H Q=>ta σ H fun x H1=>tb σ H1 fun y H2=>r x y H2 fun z H3=>∃k,z=.bl k/\(if k=true then tc σ H3 fun w' H4=>r' y w' H4 Q else Q (.bl false) H3)
theorem zdz {op op':CmpOp}{r r':R2}(ho:OpR X (cr op) r)(ho':OpR X (cr op') r')(ha:PE X a ta)(hb:PE X b tb)(hc:PE X c tc)
  (hm:m6 [op,op'] [b,c]=false:=by with_unfolding_all rfl):PE X (.Compare a [op,op'] [b,c] pos) (zbp r r' ta tb tc):=by
 intro pins s σ H Q I h;refine Compare_chain (thn (ha pins s σ H _ I h) fun v s1 ⟨x,H1,I1,r1,q1⟩=>chain_link (thn (hb pins s1 σ H1 _ I1 q1) fun u s2 ⟨y,H2,I2,r2,q2⟩=>thn (ho pins s2 σ H2 x y v u _ I2 r1 r2 q2) fun d s3 ⟨z,H3,I3,r3,k,e,q3⟩=>?_)) hm;subst e;cases r3;refine eh ?_;cases k with
 |false=>exact ite_ff ⟨.bl false,H3,I3,rfl,q3⟩
 |true=>exact ite_tt (chain_last (thn (hc pins s3 σ H3 _ I3 q3) fun w' s4 ⟨z',H4,I4,r4,q4⟩=>ho' pins s4 σ H4 y z' u w' Q I4 r2 r4 q4))
theorem zcg {op op':CmpOp}{r r':R2}(ho:OpR X (cr op) r)(ho':OpR X (cr op') r')(ha:PE X a ta)(hb:PE X b tb)(hc:PE X c tc)
  (hm:m6 [op,op'] [b,c]=false:=by with_unfolding_all rfl):PT X (.Compare a [op,op'] [b,c] pos) (za9 (zbp r r' ta tb tc)):=by
 intro pins s σ H Q I h;refine isTrue_chain (thn (ha pins s σ H _ I h) fun v s1 ⟨x,H1,I1,r1,q1⟩=>test_link (thn (hb pins s1 σ H1 _ I1 q1) fun u s2 ⟨y,H2,I2,r2,q2⟩=>thn (ho pins s2 σ H2 x y v u _ I2 r1 r2 q2) fun d s3 ⟨z,H3,I3,r3,k,e,q3⟩=>?_)) hm;subst e;cases r3;refine eh ?_;cases k with
 |false=>obtain⟨k',e',q'⟩:=q3;cases e';exact ite_ff ⟨H3,I3,q'⟩
 |true=>refine ite_tt (test_last (thn (hc pins s3 σ H3 _ I3 q3) fun w' s4 ⟨z',H4,I4,r4,q4⟩=>thn (ho' pins s4 σ H4 y z' u w' _ I4 r2 r4 q4) fun d' s5 ⟨z2,H5,I5,r5,k2,e2,q5⟩=>?_));subst e2;cases r5;exact eh ⟨H5,I5,q5⟩
def TruV (K:W.Frag)(x:V)(H:Hp)(k:Bool):Prop:=
 match x with
 |.non=>k=false
 |.bl b=>k=b
 |.int i=>k=(i != 0)
 |.str y=>y.length<=az/\k=((y.length:Int) != 0)
 |.ref p=>(∃xs,SqL K H p xs/\k=!xs.isEmpty)\/(∃xs,SqT K H p xs/\k=!xs.isEmpty)\/∃kvs,H p=some (.dK kvs)/\k=!kvs.isEmpty
 |_=>False
theorem z8n {κ:Type}{kvs:List (κ×V)}{vs:List (κ×Value)}(r:KV kvs vs):(!vs.isEmpty)=!kvs.isEmpty:=by cases r<;>rfl
theorem z3w {xs:List V}{its:List Value}(r:Vals xs its):(!its.toArray.isEmpty)=!xs.isEmpty:=by cases r<;>simp
theorem z3h:(az:Nat)<2 ^ 63:=by rw[dq];decide
theorem zft:TruR X (fun x H Q=>∃k,TruV X.K x H k/\Q k H):=by
 intro pins s σ H x v Q I rx h;obtain⟨k,e,q⟩:=h;have hl:=z3h;have hs:az=16777216:=dq;cases x with
 |non=>cases rx;have e':k=false:=e;subst e';exact truthy_none ⟨H,I,q⟩
 |bl b=>cases rx;have e':k=b:=e;subst e';exact eh ⟨H,I,q⟩
 |int i=>obtain⟨t,rfl⟩:=rx;have e':k=(i != 0):=e;subst e';exact PySem.P.truthy_int ⟨H,I,q⟩
 |str y=>obtain⟨t,rfl⟩:=rx;obtain⟨hy,e'⟩:y.length<=az/\k=((y.length:Int) != 0):=e;subst e';exact PySem.P.truthy_str (by omega) ⟨H,I.tok _,q⟩
 |ref p=>
  cases rx;have e':(∃xs,SqL X.K H p xs/\k=!xs.isEmpty)\/(∃xs,SqT X.K H p xs/\k=!xs.isEmpty)\/∃kvs,H p=some (.dK kvs)/\k=!kvs.isEmpty:=e;rcases e' with⟨xs,hx,e'⟩|⟨xs,hx,e'⟩|⟨kvs,hx,e'⟩
  ·subst e';obtain⟨its,r,pl,hz⟩:=I.list hx;have hlen:=r.length;exact wpAny_truthy_list pl.isList (by simp only[ao];omega) ⟨H,I.tok _,by rw[z3w r];exact q⟩
  ·subst e';obtain⟨its,r,pl,hz⟩:=I.tuple hx;have hlen:=r.length;exact truthy_tuple pl (by simp only[ao];omega) ⟨H,I.tok _,by rw[z3w r];exact q⟩
  ·subst e';obtain⟨hz,hS,vs,r,m⟩:kvs.length<=az/\(p==i3)=false/\∃vs,KV kvs vs/\s.heap.DictOf (z0i X.prog X.w) p vs:=I.hok p _ hx;have hlen:kvs.length=vs.length:=Paired.length r;exact wpAny_truthy_dict hS m (by omega) ⟨H,I.tok _,by rw[z8n r];exact q⟩
 |_=>exact(show False from e).elim
theorem zcr (ha:PE X a ta)(he:∀whole,oj a X.env whole=(do let v <-whole;q9 a.pos;rc [v] (se v))):
  PT X a (fun σ H Q=>ta σ H fun x H'=>∃k,TruV X.K x H' k/\Q k H'):=by
 intro pins s σ H Q I h;exact isTrue_plain (thn (ha pins s σ H _ I h) fun v s1 ⟨x,H1,I1,r1,q1⟩=>zft pins s1 σ H1 x v Q I1 r1 q1) (he _)
theorem z8f:OpR X (gj .Add) (fun x y H Q=>∃i j,x=.str i/\y=.str j/\i.length+j.length<=az/\Q (.str (i++j)) H):=by intro pins s σ H x y v u Q I rx ry h;obtain⟨i,j,rfl,rfl,hz,q⟩:=h;obtain⟨t,rfl⟩:=rx;obtain⟨t',rfl⟩:=ry;exact add_str (fun t' tk=>⟨.str (i++j),H,I.tok _,⟨_,rfl⟩,q⟩) hz
theorem vals1 {x:V}{us:List Value}(r:Vals [x] us):∃u,us=[u]/\RelV x u:=by
 cases r with
 |cons r1 r2=>cases r2;exact⟨_,rfl,r1⟩
theorem vals2 {x y:V}{us:List Value}(r:Vals [x,y] us):∃u w',us=[u,w']/\RelV x u/\RelV y w':=by
 cases r with
 |cons r1 r2=>
  cases r2 with
  |cons r3 r4=>cases r4;exact⟨_,_,rfl,r1,r3⟩
theorem zbm:CallR X (.type "int") (fun xs H Q=>(∃i,xs=[.int i]/\Q (.int i) H)\/∃k,xs=[.bl k]/\Q (.int (if k then 1 else 0)) H):=by
 intro pins s σ H xs us Q I r h;rcases h with⟨i,rfl,q⟩|⟨k,rfl,q⟩
 ·obtain⟨u,rfl,t,rfl⟩:=vals1 r;exact call_int_int ⟨.int i,H,I,⟨_,rfl⟩,q⟩
 ·obtain⟨u,rfl,r1⟩:=vals1 r;cases r1;exact call_int_bool ⟨.int (if k then 1 else 0),H,I.tok _,⟨_,rfl⟩,q⟩
end
structure ObjM (h:Heap)(x dx C:Addr)(mA:Str->Option Value):Prop where
 obj:h.get? x=some (W.instObj C dx)
 ns:h.Ns1 dx mA
 ne:dx≠x
theorem zbe {h:Heap}{dx:Addr}{mA:Str->Option Value}(n:h.Ns1 dx mA):∃od,h.get? dx=some od/\∀name,W.lookIn name od=some (mA name):=by
 obtain⟨o,es,ep,ho,hd,hk,_,hm⟩:=n;refine⟨o,ho,fun name=>?_⟩;have e:=hm name;unfold nsFind findBy at e;rw[<-pi]at e;unfold W.lookIn;rw[hd]
 dsimp only
 split
 ·rename_i y q;rw[q]at e;exact congrArg some e
 ·rename_i q;rw[q]at e;have a:es.toList.any (·.refKey)=false:=by rw[List.any_eq_false];intro y hy;obtain⟨z,t,hkey⟩:=hk y (Array.mem_toList_iff.mp hy);simp[DictEntry.refKey,hkey]
  have a':¬es.toList.any (·.refKey)=true:=by rw[a];exact cw
  rw[if_neg a'];exact congrArg some e
theorem ObjM.look {h:Heap}{x dx C:Addr}{mA:Str->Option Value}(I:ObjM h x dx C mA):∃od,W.InstAt h x (W.instObj C dx) C (some od)/\∀name,W.lookIn name od=some (mA name):=
 let⟨od,ho,hl⟩:=zbe I.ns
 ⟨od,⟨I.obj,rfl,rfl,ho⟩,hl⟩
section
variable {prog:ax}{w:World}{A:cq}{E:Value->ae->Prop}{s:ae}{K:W.Frag}{x dx C f:Addr}{mA:Str->Option Value}{name:Str}{v:Value}
theorem zh2 {expr:Bool}{Q:Value->ae->Prop}(X:K.In s.heap)(I:ObjM s.heap x dx C mA)(hg:W.plainGet K C name=true)(hh:W.hasDictIn K C=true)
  (ha:W.findIn K (.ref C) name=some none) (hv:mA name=some v) (hv':W.handedIn v=true) (h:Q v {s with toks:=s.toks+1}):
  wpAny (model prog w) A (rh (.ref x) name expr) Q E s:=by
 obtain⟨od,J,hl⟩:=I.look;exact W.get_value X J (W.plainGet_of hg).1 (W.findObj_own hh ha rfl (by rw[hl,hv])) hv' h
theorem zc3 {pl:Sem Bool}{Q:Value×List Value->ae->Prop}(X:K.In s.heap)(I:ObjM s.heap x dx C mA)(hg:W.plainGet K C name=true)
  (hf:W.findIn K (.ref C) name=some (some (.ref f))) (ht:W.isFn K (.ref f)=true) (hv:mA name=none) (h:Q (.ref f,[.ref x]) s):
  wpAny (model prog w) A (getMethod (.ref x) name pl) Q E s:=by
 obtain⟨od,J,hl⟩:=I.look;exact W.method_fn X J (W.plainGet_of hg).1 (W.plainGet_of hg).2 hf (t8 ht) (by show(W.lookIn name od).map (·.isSome)=some false;rw[hl,hv];rfl) h
theorem zgj {ns:List Str}{Q:Unit->ae->Prop}(X:K.In s.heap)(I:ObjM s.heap x dx C mA)
  (hs:W.findIn K (.ref C) "__setattr__"=some (some (.builtin "object.__setattr__"))) (hp:W.plainOver K C=true) (ht:W.takerIn K C name=some none) (hh:W.hasDictIn K C=true)
  (hw:PySem.Within mA ns) (hsz:ns.length<=az)
  (h:∀h',ObjM h' x dx C (fun y=>if y=name then some v else mA y)->b9 dx s.heap h'->Q () {s with heap:=h',toks:=s.toks+2}):
  wpAny (model prog w) A (sy (.ref x) name v) Q E s:=by
 obtain⟨od,J,hl⟩:=I.look;refine W.set_plain X J hs (W.osa_open (s:={s with toks:=s.toks+1}) (r:=none) X J hp ht fun b=>?_);obtain⟨cd,hc,hd'⟩:=W.any_some hh;have hx:s.heap.get? x=some ⟨.ref C,some dx,.plain,#[]⟩:=I.obj;refine aa (au (aa (aa (wpAny_loadPart hx (aa (W.Looks.here (s:={s with toks:=s.toks+1}) (W.looks_clsIn X hc) ?_))))));rw[hd'];refine au (a:=some dx) (aa (au (aa ?_)));refine wpAny_nsSet1 (s:={s with toks:=s.toks+1}) I.ns fun h' hn2 hs2=>?_;obtain⟨oD,esD,epD,hoD,hdD,hcD⟩:=hn2.count (PySem.Within.cons name v hw);refine aa (wpAny_lookBehind hoD (by rw[hdD];exact pastItsLine_dict (bw hcD (by rw[ay];omega))) ?_);exact au (h _ ⟨(hs2.2 _ (Ne.symm I.ne)).trans I.obj,hn2,I.ne⟩ hs2)
theorem zds {R:qr->ae->Prop}{vs:List Value}{kw:List (Str×Value)}(X:K.In s.heap)(hm:W.makesIn K C=true)
  (hi:W.findIn K (.ref C) "__init__"=some (some (.ref f))) (hf:W.typeIn K (.ref f)=some (.type "function"))
  (h:ky (model prog w) (A.under (.builtin "type.__call__" ⟨.ref C::vs,kw⟩)) (.call (.ref f) ⟨.ref (s.heap.objs.size+1)::vs,kw⟩) (W.InitBack (s.heap.objs.size+1) R)
   {s with heap:=(s.heap.push W.emptyDict).push (W.instObj C s.heap.objs.size)}):
  ky (model prog w) A (.call (.ref C) ⟨vs,kw⟩) R s:=by
 obtain⟨hh,g,d,t,os⟩:=s;exact W.make_core (W.makes_of X hm) (W.looks_findIn X hi) (fun self=>W.bind_fn X self hf) (.inl rfl) h
end
def putF (f:Str)(v:V):List (Str×V)->List (Str×V)
 | []=>[(f,v)]
 |(g,x)::r=>if g=f then(g,v)::r else(g,x)::putF f v r
theorem z38 (f g:Str)(v:V):∀fs:List (Str×V),(putF f v fs).lookup g=if g=f then some v else fs.lookup g
 | []=>by
  show kj g [(f,v)]=_;by_cases h:g=f
  ·have hb:(g==f)=true:=beq_iff_eq.mpr h;simp only[kj,hb,if_pos h]
  ·have hb:(g==f)=false:=beq_eq_false_iff_ne.mpr h;simp only[kj,hb,if_neg h]
 |(k,x)::r=>by
  have ih:=z38 f g v r;rw[show putF f v ((k,x)::r)=(if k=f then(k,v)::r else(k,x)::putF f v r)from rfl];by_cases hk:k=f
  ·rw[if_pos hk];by_cases h:g=k
   ·have hb:(g==k)=true:=beq_iff_eq.mpr h;simp only[kj,hb,if_pos (h.trans hk)]
   ·have hb:(g==k)=false:=beq_eq_false_iff_ne.mpr h;simp only[kj,hb,if_neg (fun e:g=f=>h (e.trans hk.symm))]
  ·rw[if_neg hk];by_cases h:g=k
   ·have hb:(g==k)=true:=beq_iff_eq.mpr h;simp only[kj,hb,if_neg (fun e:g=f=>hk (h.symm.trans e))]
   ·have hb:(g==k)=false:=beq_eq_false_iff_ne.mpr h;simp only[kj,hb];exact ih
theorem z3d (f:Str)(v:V):∀fs:List (Str×V),f∈(putF f v fs).map (·.1)/\∀g,g∈fs.map (·.1)->g∈(putF f v fs).map (·.1)
 | []=>⟨by simp[putF],fun g h=>by simp at h⟩
 |(k,x)::r=>by
  obtain⟨i1,i2⟩:=z3d f v r;rw[show putF f v ((k,x)::r)=(if k=f then(k,v)::r else(k,x)::putF f v r)from rfl];by_cases hk:k=f
  ·rw[if_pos hk];subst hk;exact⟨by simp,fun g h=>by simpa using h⟩
  ·rw[if_neg hk];refine⟨?_,fun g h=>?_⟩
   ·rw[bn];exact ah _ i1
   ·rw[bn]at h ⊢;rcases ak.mp h with e|e
    ·exact ak.mpr (.inl e)
    ·exact ah _ (i2 g e)
theorem z3b (f:Str)(v:V):∀fs:List (Str×V),(putF f v fs).length<=fs.length+1
 | []=>by simp[putF]
 |(k,x)::r=>by
  have ih:=z3b f v r;rw[show putF f v ((k,x)::r)=(if k=f then(k,v)::r else(k,x)::putF f v r)from rfl];by_cases hk:k=f
  ·rw[if_pos hk,ay,ay];omega
  ·rw[if_neg hk,ay,ay];omega
theorem RelO.some_of {v:V}{o:Option Value}(r:RelO (some v) o):∃u,o=some u/\RelV v u:=by
 cases o with
 |none=>exact(show False from r).elim
 |some u=>exact⟨u,rfl,r⟩
theorem RelO.none_of {o:Option Value}(r:RelO none o):o=none:=by
 cases o with
 |none=>rfl
 |some u=>exact(show False from r).elim
theorem z63 {v:V}{u:Value}(r:RelV v u):W.handedIn u=true:=by
 cases v with
 |non=>cases(show u=Value.none from r);rfl
 |bl b=>cases(show u=Value.bool b from r);rfl
 |int i=>obtain⟨t,e⟩:=(show ∃t,u=Value.int i t from r);cases e;rfl
 |str x=>obtain⟨t,e⟩:=(show ∃t,u=Value.str x t from r);cases e;rfl
 |ref a=>cases(show u=Value.ref a from r);rfl
 |ty n=>cases(show u=Value.type n from r);rfl
section
variable {P:ax}{w:World}{H H':Hp}{h h':Heap}{a C dx:Addr}{fs fs':List (Str×V)}
theorem z3z (hok:HOk P w H h)(e:H a=some (.ins C dx fs)):∃mA,ObjM h a dx C mA/\(∀f,RelO (fs.lookup f) (mA f))/\PySem.Within mA (fs.map (·.1))/\fs.length<=1000/\H dx=some (.own a):=by obtain⟨d,z,ne,ob,mA,n,r,q⟩:=(show z0s P w H h a (.ins C dx fs)from hok a _ e);exact⟨mA,⟨ob,n,ne⟩,r,q,z,d⟩
end
structure Cls (K:W.Frag)(C:Addr):Prop where
 pg:W.plainGet K C Str.empty=true
 hd:W.hasDictIn K C=true
 po:W.plainOver K C=true
 sa:W.findIn K (.ref C) "__setattr__"=some (some (.builtin "object.__setattr__"))
theorem Cls.get {K:W.Frag}{C:Addr}(c:Cls K C)(f:Str):W.plainGet K C f=true:=c.pg
def z2l (K:W.Frag)(C:Addr)(f:Str):Prop:=W.findIn K (.ref C) f=some none
theorem z2l.taker {K:W.Frag}{C:Addr}{f:Str}(n:z2l K C f):W.takerIn K C f=some none:=by unfold W.takerIn;rw[show W.findIn K (.ref C) f=some none from n];rfl
structure Meth (K:W.Frag)(C:Addr)(m:Str)(f:Addr):Prop where
 at_:W.findIn K (.ref C) m=some (some (.ref f))
 fn:W.isFn K (.ref f)=true
 kp:W.keepIn K (.ref f)=true
section
variable {X:Cx}{pins:List (Addr×Obj)}{σ:St}{H:Hp}{s:ae}{a C dx:Addr}{fs:List (Str×V)}{f:Str}{v:V}{A:cq}{E:Value->ae->Prop}
theorem z8t {b:Bool}{Q:Value->ae->Prop}(I:Inv X pins σ H s)(e:H a=some (.ins C dx fs))(c:Cls X.K C)(n:z2l X.K C f)(l:fs.lookup f=some v)
  (h:∀u s',Inv X pins σ H s'->RelV v u->Q u s'):wpAny (model X.prog X.w) A (rh (.ref a) f b) Q E s:=by
 obtain⟨mA,O,r,_,_,_⟩:=z3z I.hok e;obtain⟨u,hu,ru⟩:=RelO.some_of (v:=v) (o:=mA f) (by rw[<-l];exact r f);exact zh2 I.kIn O (c.get f) c.hd n hu (z63 ru) (h u _ (I.tok _) ru)
theorem z8s {m:Str}{g:Addr}{pl:Sem Bool}{Q:Value×List Value->ae->Prop}(I:Inv X pins σ H s)(e:H a=some (.ins C dx fs))(c:Cls X.K C)(k:Meth X.K C m g)(l:fs.lookup m=none)
  (h:Q (.ref g,[.ref a]) s):wpAny (model X.prog X.w) A (getMethod (.ref a) m pl) Q E s:=by
 obtain⟨mA,O,r,_,_,_⟩:=z3z I.hok e;have hn:mA m=none:=RelO.none_of (by rw[<-l];exact r m);exact zc3 I.kIn O (c.get m) k.at_ k.fn hn h
theorem z8m {y:V}{u:Value}{Q:Unit->ae->Prop}(I:Inv X pins σ H s)(e:H a=some (.ins C dx fs))(c:Cls X.K C)(n:z2l X.K C f)(hl:fs.length<1000)(ry:RelV y u)
  (h:∀s',Inv X pins σ (upd H a (.ins C dx (putF f y fs))) s'->Q () s'):wpAny (model X.prog X.w) A (sy (.ref a) f u) Q E s:=by
 obtain⟨mA,O,r,wi,_,ho⟩:=z3z I.hok e;have hz:(fs.map (·.1)).length<=az:=by rw[av,dq];omega
 refine zgj I.kIn O c.sa c.po n.taker c.hd wi hz fun h' O' sb=>h _ ?_;have hd:∃o,h'.get? dx=some o:=let⟨o,_,_,e',_⟩:=O'.ns;⟨o,e'⟩;refine I.write (x:=a) (e:=dx) (by rw[e];exact True.intro) (.inr ho) (fun b q hb z=>(sb.2 b hb).trans z) hd ?_;refine⟨by rw[z01 O.ne];exact ho,?_,O.ne,O'.obj,_,O'.ns,fun g=>?_,fun g hg=>?_⟩
 ·have:=z3b f y fs;omega
 ·show RelO ((putF f y fs).lookup g) (if g=f then some u else mA g);rw[z38];by_cases q:g=f
  ·rw[if_pos q,if_pos q];exact ry
  ·rw[if_neg q,if_neg q];exact r g
 ·by_cases q:g=f
  ·rw[q];exact(z3d f y fs).1
  ·refine(z3d f y fs).2 g (wi g fun z=>hg ?_);show(if g=f then some u else mA g)=none;rw[if_neg q];exact z
theorem Inv.made (I:Inv X pins σ H s):Inv X pins σ (upd (upd H s.heap.objs.size (.own (s.heap.objs.size+1))) (s.heap.objs.size+1) (.ins C s.heap.objs.size []))
  {s with heap:=(s.heap.push W.emptyDict).push (W.instObj C s.heap.objs.size)}:=by
 have e1:(s.heap.push W.emptyDict).get? s.heap.objs.size=some W.emptyDict:=ba s.heap rfl
 have e2:((s.heap.push W.emptyDict).push (W.instObj C s.heap.objs.size)).get? (s.heap.objs.size+1)=some (W.instObj C s.heap.objs.size):=by
  have:=ba (s.heap.push W.emptyDict) (o:=W.instObj C s.heap.objs.size) rfl
  rwa [om]at this
 have e3:(s.heap.push W.emptyDict).Ns s.heap.objs.size (fun _=>none):=⟨W.emptyDict,#[],_,e1,rfl,(fun e he=>absurd he (by simp)),fun _=>rfl⟩;have I1:=I.laid (a:=s.heap.objs.size) (o:=.own (s.heap.objs.size+1)) (h':=s.heap.push W.emptyDict) (t':=s.toks) (fun b u q=>af _ q) (aj _) ⟨_,e1⟩;refine I1.laid (a:=s.heap.objs.size+1) (o:=.ins C s.heap.objs.size []) (t':=s.toks) (fun b u q=>af _ q) (Nat.le_of_eq (om _ _)) ?_;have ne:s.heap.objs.size≠s.heap.objs.size+1:=cg (m7 _);refine⟨by rw[z01 ne,z02],d6 _,ne,e2,fun _=>none,(p7 e3).at fun o q=>af _ q,fun _=>True.intro,fun y hy=>absurd rfl hy⟩
theorem za7 {prog:ax}{w:World}{env:Env}{e:Expr}{f:Str}{pos:Pos}{s:ae}{Q:Value->ae->Prop}(hb:i5 e f env (eval e env)=eval e env)
  (h:wpAny (model prog w) A (eval e env) (fun o s₁=>wpAny (model prog w) A (rh o f true) Q E s₁) E s):wpAny (model prog w) A (eval (.Attribute e f pos) env) Q E s:=
 Attribute_any_ h (by rw[arm_eval_Attribute,hb])
end
def tFld (K:W.Frag)(ta:TE)(f:Str):TE:=fun σ H Q=>ta σ H fun x H1=>∃a C dx fs v,x=.ref a/\H1 a=some (.ins C dx fs)/\Cls K C/\z2l K C f/\fs.lookup f=some v/\Q v H1
def sFld (K:W.Frag)(ta tv:TE)(f:Str):TS:=fun D σ H=>tv σ H fun y H1=>ta σ H1 fun x H2=>∃a C dx fs,x=.ref a/\H2 a=some (.ins C dx fs)/\Cls K C/\z2l K C f/\fs.length<1000/\D.nx σ (upd H2 a (.ins C dx (putF f y fs)))
section
variable {X:Cx}{o e value:Expr}{f:Str}{pos pos' tpos:Pos}{ta tv:TE}
theorem znp (he:PE X e ta)(hb:i5 e f X.env (eval e X.env)=eval e X.env):PE X (.Attribute e f pos) (tFld X.K ta f):=by intro pins s σ H Q I h;refine za7 hb (thn (he pins s σ H _ I h) fun u s1 ⟨x,H1,I1,rx,a,C,dx,fs,v,ex,ea,c,n,l,q⟩=>?_);subst ex;obtain rfl:u=Value.ref a:=rx;exact z8t I1 ea c n l fun u' s2 I2 ru=>⟨v,H1,I2,ru,q⟩
theorem zj5 (ha:PE X o ta)(hv:PE X value tv)(hs:jo value (some (.Attribute o f pos')) pos.line X.env=pure false):PS X (.Assign [.Attribute o f pos'] value pos) (sFld X.K ta tv f):=by intro pins s σ H D I h;refine lb (thn (hv pins s σ H _ I h) fun u s1 ⟨y,H1,I1,ry,q⟩=>thn (ha pins s1 σ H1 _ I1 q) fun ov s2 ⟨x,H2,I2,rx,a,C,dx,fs,ex,ea,c,n,l,q2⟩=>?_) hs;subst ex;obtain rfl:ov=Value.ref a:=rx;exact z8m I2 ea c n l ry fun s3 I3=>⟨σ,_,I3,q2⟩
end
section
variable {X:Cx}{pins:List (Addr×Obj)}{σ:St}{H:Hp}{s:ae}{A:cq}{E:Value->ae->Prop}{Q:Value->ae->Prop}{c:Value}{b:Bool}
inductive TyOf (K:W.Frag)(H:Hp):V->Value->Prop where
 |non:TyOf K H .non (.type "NoneType")
 |bl (x:Bool):TyOf K H (.bl x) (.type "bool")
 |int (i:Int):TyOf K H (.int i) (.type "int")
 |str (x:Str):TyOf K H (.str x) (.type "str")
 |lst {a:Addr} {xs:List V} (e:H a=some (.lst xs)):TyOf K H (.ref a) (.type "list")
 |frz {a:Addr} {o:Obj} {xs:List V} (e:H a=some (.frz o (.lst xs))):TyOf K H (.ref a) (.type "list")
 |tup {a:Addr} {xs:List V} (e:H a=some (.tup xs)):TyOf K H (.ref a) (.type "tuple")
 |dK {a:Addr} {kvs:List (Key×V)} (e:H a=some (.dK kvs)):TyOf K H (.ref a) (.type "dict")
 |dT {a:Addr} {kvs:List (List Key×V)} (e:H a=some (.dT kvs)):TyOf K H (.ref a) (.type "dict")
 |ins {a C dx:Addr} {fs:List (Str×V)} (e:H a=some (.ins C dx fs)) (cl:Cls K C) (ha:W.findIn K (.ref C) "__class__"=some (some (.builtin "object.__class__")))
  (hn:W.specialIn K (.builtin "object.__class__") "__get__"=some (some (.builtin "getset_descriptor.__get__"))) (htk:W.takesIn K (.builtin "object.__class__")=some true)
  (hm:W.mroIn K C (.type "object")=some true):TyOf K H (.ref a) (.ref C)
theorem z1o {x:V}{u t:Value}(I:Inv X pins σ H s)(rx:RelV x u)(ty:TyOf X.K H x t)(e:W.kitOne X.K t c=some b)(h:∀tk,Q (.bool b) {s with toks:=tk}):
  wpAny (model X.prog X.w) A (call (.builtin "isinstance") [u,c]) Q E s:=by
 cases ty with
 |non=>cases(show u=Value.none from rx);exact W.kia_one W.kitx_none I.kIn True.intro e (fun z=>nomatch z) h
 |bl y=>cases(show u=Value.bool y from rx);exact W.kia_one W.kitx_bool I.kIn True.intro e (fun z=>nomatch z) h
 |int i=>obtain⟨t,q⟩:=(show ∃t,u=Value.int i t from rx);cases q;exact W.kia_one W.kitx_int I.kIn True.intro e (fun z=>nomatch z) h
 |str y=>obtain⟨t,q⟩:=(show ∃t,u=Value.str y t from rx);cases q;exact W.kia_one W.kitx_str I.kIn True.intro e (fun z=>nomatch z) h
 | @lst a xs ea=>cases(show u=Value.ref a from rx);obtain⟨_,_,n,_,h1⟩:=(show z0s X.prog X.w H s.heap a (.lst xs)from I.hok a _ ea);exact W.kia_one W.kitx_list I.kIn ⟨_,h1,rfl⟩ e (fun z=>nomatch z) h
 | @frz a ob xs ea=>cases(show u=Value.ref a from rx);obtain⟨_,_,_,n,_,h1⟩:=(show z0s X.prog X.w H s.heap a (.frz ob (.lst xs))from I.hok a _ ea);exact W.kia_one W.kitx_list I.kIn ⟨_,h1,rfl⟩ e (fun z=>nomatch z) h
 | @tup a xs ea=>cases(show u=Value.ref a from rx);obtain⟨_,_,_,p⟩:=(show z0s X.prog X.w H s.heap a (.tup xs)from I.hok a _ ea);obtain⟨o,h1,h2,_⟩:=p.tup;exact W.kia_one W.kitx_tuple I.kIn ⟨o,h1,h2⟩ e (fun z=>nomatch z) h
 | @dK a kvs ea=>cases(show u=Value.ref a from rx);obtain⟨_,_,vs,_,p⟩:=(show z0s X.prog X.w H s.heap a (.dK kvs)from I.hok a _ ea);obtain⟨o,es,ep,h1,h2,_⟩:=p;exact W.kia_one W.kitx_dict I.kIn ⟨o,h1,h2.1⟩ e (fun z=>nomatch z) h
 | @dT a kvs ea=>cases(show u=Value.ref a from rx);obtain⟨_,_,xs,_,o,es,ep,h1,h2,_⟩:=(show z0s X.prog X.w H s.heap a (.dT kvs)from I.hok a _ ea);exact W.kia_one W.kitx_dict I.kIn ⟨o,h1,h2.1⟩ e (fun z=>nomatch z) h
 | @ins a C dx fs ea cl ha hn htk hm=>cases(show u=Value.ref a from rx);obtain⟨mA,O,_⟩:=z3z I.hok ea;obtain⟨od,J,_⟩:=O.look;exact W.kia_one (W.kitx_own (cl.get _) cl.hd ha hn htk hm) I.kIn J e (fun z=>nomatch z) h
end
structure Room (k:Nat)(A:cq):Prop where
 hd:A.handled=none
 dp:A.depth+3*k+5<recursionLimit
 un:A.units+16*k+200<cLine
theorem Room.mono {j k:Nat}{A:cq}(r:Room k A)(h:j<=k):Room j A:=⟨r.hd,by have:=r.dp;omega,by have:=r.un;omega⟩
theorem Room.deeper {k:Nat}{A:cq}(r:Room (k+1) A)(env:Env):Room k (A.deeper env):=⟨r.hd,by have:=r.dp;show A.depth+1+3*k+5<_;omega,by have:=r.un;show A.units+3+16*k+200<_;omega⟩
theorem z8y {A:cq}{C:Addr}{us:List Value}{kw:List (Str×Value)}:(A.under (.builtin "type.__call__" ⟨.ref C::us,kw⟩)).depth=A.depth+1:=by first|rfl|simp[Around.under,Code.weight,Code.isCreation,Code.isGuard,Code.isCaller,Code.frames,Code.isFrame,guardIds]
theorem z8q {A:cq}{C:Addr}{us:List Value}{kw:List (Str×Value)}:(A.under (.builtin "type.__call__" ⟨.ref C::us,kw⟩)).units=A.units+1:=by first|rfl|simp[Around.under,Code.cUnits,Code.frames,Code.isFrame]
theorem Room.make {k:Nat}{A:cq}(r:Room (k+1) A)(C:Addr)(us:List Value)(kw:List (Str×Value)):Room k (A.under (.builtin "type.__call__" ⟨.ref C::us,kw⟩)):=⟨r.hd,by have:=r.dp;rw[z8y];omega,by have:=r.un;rw[z8q];omega⟩
theorem Room.depth {k:Nat}{A:cq}(r:Room k A):A.depth<recursionLimit:=by have:=r.dp;omega
theorem Room.units {k:Nat}{A:cq}(r:Room k A):A.units+64<cLine:=by have:=r.un;omega
def tNil:TA:=fun _ H Q=>Q [] H
def z3n (ta:TE)(tr:TA):TA:=fun σ H Q=>ta σ H fun x H1=>tr σ H1 fun xs H2=>Q (x::xs) H2
section
variable {X:Cx}{e:Expr}{es:List Expr}{te:TE}{t:TA}{pos:Pos}
theorem z1v:PA X [] tNil:=fun _ _ _ _ H Q I h=>p8 ⟨[],H,I,.nil,h⟩
theorem z4a (ha:PE X e te)(hr:PA X es t)(hs:cu (e::es) X.env=(false,eval e X.env)::cu es X.env:=by rfl):PA X (e::es) (z3n te t):=by intro pos pins s σ H Q I h;rw[hs];show wpAny _ _ (spliced ((false,eval e X.env)::i4 pos (cu es X.env))) _ _ s;refine j9 (thn (ha pins s σ H _ I h) fun u s1 ⟨x,H1,I1,r1,q1⟩=>?_);exact thn (hr pos pins s1 σ H1 _ I1 q1) fun us s2 ⟨xs,H2,I2,r2,q2⟩=>⟨x::xs,H2,I2,.cons r1 r2,q2⟩
def tTup (t:TA):TE:=fun σ H Q=>t σ H fun xs H1=>xs.length<=az/\∀p,H1 p=none->Q (.ref p) (upd H1 p (.tup xs))
def tLst (t:TA):TE:=fun σ H Q=>t σ H fun xs H1=>xs.length<=az/\∀p,H1 p=none->Q (.ref p) (upd H1 p (.lst xs))
theorem zfm {x1}(h:PA X es t):PE X (.Tuple es x1 pos) (tTup t):=by intro pins s σ H Q I hq;refine wpAny_Tuple_spliced (thn (h pos pins s σ H _ I hq) fun us s1 ⟨xs,H1,I1,r,z,q⟩=>⟨by rw[<-r.length];exact z,?_⟩);have hf:H1 s1.heap.objs.size=none:=I1.hok.fresh (aj _);refine⟨.ref s1.heap.objs.size,upd H1 s1.heap.objs.size (.tup xs),I1.laid (t':=s1.toks) (fun b u e=>af _ e) (aj _) ?_,rfl,q _ hf⟩;exact⟨z,us,r,⟨_,ba _ rfl⟩⟩
theorem zek (h:PA X es t):PE X (.List es pos) (tLst t):=by intro pins s σ H Q I hq;refine wpAny_List_spliced (thn (h pos pins s σ H _ I hq) fun us s1 ⟨xs,H1,I1,r,z,q⟩=>⟨by rw[<-r.length];exact z,?_⟩);have hf:H1 s1.heap.objs.size=none:=I1.hok.fresh (aj _);refine⟨.ref s1.heap.objs.size,upd H1 s1.heap.objs.size (.lst xs),I1.laid (t':=s1.toks) (fun b u e=>af _ e) (aj _) ?_,rfl,q _ hf⟩;exact⟨z,us,0,r,ba _ rfl⟩
end
abbrev Sp:=List V->Hp->VK->XK->Prop
abbrev CXT:=List Env->Hp->ae->XK->Value->ae->Prop
structure Env0 (P:ax)(w:World)(K:W.Frag)(mg:Str->Option Value)(base:Heap)(A:cq)(outer:List Env)(s:ae)(H:Hp):Prop where
 frames:A.frames=some outer
 mod:Mod K mg base
 bs:∀b o,base.get? b=some o->s.heap.get? b=some o/\H b=none
 bsz:base.objs.size<=s.heap.objs.size
 funs:s.heap.FunFrames base outer
 frf:∀b∈frs outer,H b=none
 hok:HOk P w H s.heap
 bare:ly s.gens
def CE (outer:List Env)(P:ax)(w:World)(H:Hp)(s:ae)(Q:VK)(u:Value)(s':ae):Prop:=∃v H',s'.os=s.os/\ly s'.gens/\Un (frs outer) [] H H' s.heap s'.heap/\HOk P w H' s'.heap/\RelV v u/\Q v H'
def CR (CX:CXT)(outer:List Env)(P:ax)(w:World)(H:Hp)(s:ae)(Q:VK)(E:XK)(r:qr)(s':ae):Prop:=
 match r with
 |.ok (.ret u)=>CE outer P w H s Q u s'
 |.ok _=>False
 |.error e=>CX outer H s E e s'
structure FnOk (P:ax)(w:World)(K:W.Frag)(mg:Str->Option Value)(base:Heap)(CX:CXT)(k:Nat)(f:Addr)(fd:di)(ps:List Str)(sp:Sp):Prop where
 len:∀vs H Q E,sp vs H Q E->vs.length=ps.length
 run:∀(A:cq) (outer:List Env) (s:ae) (H:Hp) (args:Args) (us:List Value) (vs:List V) (Q:VK) (E:XK),Room k A->Env0 P w K mg base A outer s H->p9 s fd args (ps.zip us)->Vals vs us->sp vs H Q E->ky (model P w) A (.call (.ref f) args) (CR CX outer P w H s Q E) s
theorem FnOk.imp {P:ax}{w:World}{K:W.Frag}{mg:Str->Option Value}{base:Heap}{CX:CXT}{k:Nat}{f:Addr}{fd:di}{ps:List Str}{sp sp':Sp}(F:FnOk P w K mg base CX k f fd ps sp)
  (h:∀vs H Q E,sp' vs H Q E->sp vs H Q E):FnOk P w K mg base CX k f fd ps sp':=
 ⟨fun vs H Q E q=>F.len vs H Q E (h _ _ _ _ q),fun A outer s H args us vs Q E hr he hb hv hs=>F.run A outer s H args us vs Q E hr he hb hv (h _ _ _ _ hs)⟩
theorem Env0.make {P:ax}{w:World}{K:W.Frag}{mg:Str->Option Value}{base:Heap}{A:cq}{outer:List Env}{s:ae}{H:Hp}(e:Env0 P w K mg base A outer s H)(C:Addr)(us:List Value)(kw:List (Str×Value)): Env0 P w K mg base (A.under (.builtin "type.__call__" ⟨.ref C::us,kw⟩)) outer s H:=⟨by first|exact e.frames|(simpa[Around.under,Code.envs,Code.isFrame,pushEnvs]using e.frames),e.mod,e.bs,e.bsz,e.funs,e.frf,e.hok,e.bare⟩
section
variable {X:Cx}{pins:List (Addr×Obj)}{σ:St}{H:Hp}{s s':ae}
theorem Inv.env0 (I:Inv X pins σ H s):Env0 X.prog X.w X.K X.mg X.base X.A X.stack s H:=⟨I.ok.frames,I.ok.mod,I.bs,bw I.ok.bsz I.sz,I.stack,I.stkFree,I.hok,I.bare⟩
theorem Inv.after {Q:VK}{u:Value}(I:Inv X pins σ H s)(h:CE X.stack X.prog X.w H s Q u s'):EP X pins σ Q u s':=by obtain⟨v,H',os,bare,un,hok,r,q⟩:=h;obtain⟨hh,g,d,t,os'⟩:=s';obtain rfl:os'=s.os:=os;exact⟨v,H',I.call (h':=hh) (g':=g) (d':=d) (t':=t) (ch:=[]) un hok bare (fun b z=>absurd z (by simp)),r,q⟩
end
def z6f (sp:Sp)(dvs:List V)(E:XK)(t:TA):TE:=fun σ H Q=>t σ H fun vs H1=>sp (vs++dvs) H1 Q E
def z4s (C:Addr)(m:Str)(sp:Sp)(dvs:List V)(E:XK)(ta:TE)(t:TA):TE:=fun σ H Q=>ta σ H fun x H1=>∃a dx fs,x=.ref a/\H1 a=some (.ins C dx fs)/\fs.lookup m=none/\t σ H1 fun vs H2=>sp (x::(vs++dvs)) H2 Q E
def z8w (C:Addr)(sp:Sp)(dvs:List V)(E:XK)(t:TA):TE:=fun σ H Q=>t σ H fun vs H1=>∀x dx,H1 x=none->H1 dx=none->dx≠x->sp (.ref x::(vs++dvs)) (upd (upd H1 dx (.own x)) x (.ins C dx [])) (fun v H2=>v=.non/\Q (.ref x) H2) E
def Binds (K:W.Frag)(fd:di)(ps:List Str)(ds:List Value):Prop:=∀(s:ae) (us:List Value),K.In s.heap->(us++ds).length=ps.length->p9 s fd ⟨us,[]⟩ (ps.zip (us++ds))
theorem Binds.all {K:W.Frag}{fd:di}{ps:List Str}(h:∀us:List Value,us.length=ps.length->si fd ⟨us,[]⟩=pure (ps.zip us)):Binds K fd ps []:=fun s us _ hl=>by rw[dj]at hl ⊢;exact .of_eq (h us hl)
def z2b (CX:CXT)(X:Cx)(E:XK):Prop:=∀(pins:List (Addr×Obj)) (σ:St) (H:Hp) (s:ae) (e:Value) (s':ae),Inv X pins σ H s->CX X.stack H s E e s'->X.xe e s'
section
variable {X:Cx}{CX:CXT}{k:Nat}{f C:Addr}{fd:di}{ps:List Str}{sp:Sp}{dvs:List V}{ds:List Value}{E:XK}{x m:Str}{p pos apos:Pos}{e o:Expr}{es:List Expr}{ta:TE}{t:TA}
theorem zaj {pins:List (Addr×Obj)}{σ:St}{H:Hp}{s:ae}{Q:VK}{us:List Value}{vs:List V}(F:FnOk X.prog X.w X.K X.mg X.base CX k f fd ps sp)(hr:Room k X.A)(hb:Binds X.K fd ps ds)(hd:Vals dvs ds)(hx:z2b CX X E)
  (I:Inv X pins σ H s) (r:Vals vs us) (h:sp (vs++dvs) H Q E):wpAny (model X.prog X.w) X.A (call (.ref f) us) (EP X pins σ Q) X.xe s:=by
 have r2:Vals (vs++dvs) (us++ds):=r.append hd;have hl:(us++ds).length=ps.length:=by rw[<-r2.length];exact F.len _ _ _ _ h
 refine nr (jp (F.run X.A X.stack s H ⟨us,[]⟩ (us++ds) (vs++dvs) Q E hr I.env0 (hb s us I.kIn hl) r2 h) fun r s' hq=>?_);cases r with
 |error e=>exact hx pins σ H s e s' I hq
 |ok fl=>
  cases fl with
  |ret u=>exact I.after hq
  |next=>exact False.elim hq
  |brk=>exact False.elim hq
  |cont=>exact False.elim hq
theorem z9f (F:FnOk X.prog X.w X.K X.mg X.base CX k f fd ps sp)(hr:Room k X.A)(hg:Gl X x)(hm:X.mg x=some (.ref f))(hk:W.keepIn X.K (.ref f)=true)(hb:Binds X.K fd ps ds)(hd:Vals dvs ds)(hx:z2b CX X E)
  (ha:PA X (e::es) t) (hdb:(x==("__debug__":Str))=false:=by decide) (he:cu (e::es) X.env=(false,eval e X.env)::cu es X.env:=by rfl) (hpl:(i4 pos (cu es X.env)).any (·.1)=false:=by rfl):
  PE X (.Call (.Name x p) (e::es) [] pos) (z6f sp dvs E t):=by
 intro pins s σ H Q I h;refine fv (z1t I hg hm ?_ hdb);refine W.callWith_K (h₀:=X.base) I.ok.mod.kin hk (thn (ha pos pins s σ H _ I h) fun us s1 ⟨vs,H1,I1,r,q⟩=>⟨I1.kIn,?_⟩) he hpl;exact zaj F hr hb hd hx I1 r q
structure Mk (K:W.Frag)(C f:Addr):Prop where
 makes:W.makesIn K C=true
 init:W.findIn K (.ref C) "__init__"=some (some (.ref f))
 fn:W.isFn K (.ref f)=true
 kp:W.keepIn K (.ref C)=true
theorem zd6 {pins:List (Addr×Obj)}{σ:St}{H:Hp}{s:ae}{Q:VK}{us:List Value}{vs:List V}(M:Mk X.K C f)(F:FnOk X.prog X.w X.K X.mg X.base CX k f fd ps sp)(hr:Room (k+1) X.A)(hb:Binds X.K fd ps ds)(hd:Vals dvs ds)
  (hx:z2b CX X E) (I:Inv X pins σ H s) (r:Vals vs us)
  (h:∀x dx,H x=none->H dx=none->dx≠x->sp (.ref x::(vs++dvs)) (upd (upd H dx (.own x)) x (.ins C dx [])) (fun v H2=>v=.non/\Q (.ref x) H2) E):
  wpAny (model X.prog X.w) X.A (call (.ref C) us) (EP X pins σ Q) X.xe s:=by
 have hq:=h (s.heap.objs.size+1) s.heap.objs.size (I.hok.fresh (km _)) (I.hok.fresh (aj _)) (cg (m7 _));have I2:=Inv.made (C:=C) I;have r2:Vals (V.ref (s.heap.objs.size+1)::(vs++dvs)) (Value.ref (s.heap.objs.size+1)::(us++ds)):=.cons rfl (r.append hd);have hl:(Value.ref (s.heap.objs.size+1)::us++ds).length=ps.length:=by have e:=r2.length;rw[F.len _ _ _ _ hq]at e;exact e.symm
 refine nr (zds (f:=f) I.kIn M.makes M.init (t8 M.fn) (jp (F.run _ X.stack _ _ ⟨Value.ref (s.heap.objs.size+1)::us,[]⟩ (Value.ref (s.heap.objs.size+1)::(us++ds)) _ _ E (hr.make C us []) (I2.env0.make C us []) (hb _ (Value.ref (s.heap.objs.size+1)::us) I2.kIn hl) r2 hq) fun r s' hq'=>?_));cases r with
 |error e=>exact hx pins σ _ _ e s' I2 hq'
 |ok fl=>
  cases fl with
  |ret u=>obtain⟨v,H',I3,rv,ev,q3⟩:=I2.after hq';subst ev;exact⟨rv,⟨V.ref (s.heap.objs.size+1),H',I3,rfl,q3⟩⟩
  |next=>exact False.elim hq'
  |brk=>exact False.elim hq'
  |cont=>exact False.elim hq'
theorem zgq (M:Mk X.K C f)(F:FnOk X.prog X.w X.K X.mg X.base CX k f fd ps sp)(hr:Room (k+1) X.A)(hg:Gl X x)(hm:X.mg x=some (.ref C))(hb:Binds X.K fd ps ds)(hd:Vals dvs ds)(hx:z2b CX X E)
  (ha:PA X (e::es) t) (hdb:(x==("__debug__":Str))=false:=by decide) (he:cu (e::es) X.env=(false,eval e X.env)::cu es X.env:=by rfl) (hpl:(i4 pos (cu es X.env)).any (·.1)=false:=by rfl):
  PE X (.Call (.Name x p) (e::es) [] pos) (z8w C sp dvs E t):=by
 intro pins s σ H Q I h;refine fv (z1t I hg hm ?_ hdb);refine W.callWith_K (h₀:=X.base) I.ok.mod.kin M.kp (thn (ha pos pins s σ H _ I h) fun us s1 ⟨vs,H1,I1,r,q⟩=>⟨I1.kIn,?_⟩) he hpl;exact zd6 M F hr hb hd hx I1 r q
end
def PK (X:Cx)(kws:List j4)(t:TA):Prop:=∀(pos:Pos) (pins:List (Addr×Obj)) (s:ae) (σ:St) (H:Hp) (Q:List V->Hp->Prop),Inv X pins σ H s->t σ H Q->wpAny (model X.prog X.w) X.A (evalAll ((m8 pos (kn kws X.env)).map (·.2))) (AP X pins σ Q) X.xe s
section
variable {X:Cx}{CX:CXT}{k:Nat}{f C:Addr}{fd:di}{ps ks:List Str}{sp:Sp}{E:XK}{x m:Str}{p pos apos kpos:Pos}{e o:Expr}{es:List Expr}{kws:List j4}{te ta:TE}{t tk:TA}{nm:Option Str}
variable {g:List Value->List Value->List Value}{gV:List V->List V->List V}
end
structure FnScope (N P:List Str)(sc:Scope):Prop where
 kind:sc.kind=.function
 co:sc.isCoroutine=false
 gen:sc.isGenerator=false
 nd:N.Nodup
 pre:N.take P.length=P
 par:∀x∈P,sc.names.lookup x=some .local\/sc.names.lookup x=some .cell
 nofree:∀y∈sc.names,y.2≠.free
theorem z4q {lf:Str->Option fj}{x:Str}:∀{binds:List (Str×Value)} {m:Str->Option Value},(∀v,(x,v)∉binds)->bindL lf binds m x=m x
 | [],_,_=>rfl
 |(n,v)::r,m,h=>by
  unfold bindL;rw[z4q fun w hw=>h w (ah _ hw)];split
  ·have :x≠n:=by rintro rfl;exact h v ai
   simp[this]
  ·rfl
theorem z5i {lf:Str->Option fj}{x:Str}:∀{binds:List (Str×Value)} {m:Str->Option Value},(∀v,(x,v)∉binds)->bindC lf binds m x=m x
 | [],_,_=>rfl
 |(n,v)::r,m,h=>by
  unfold bindC;rw[z5i fun w hw=>h w (ah _ hw)];split
  ·rfl
  ·have :x≠n:=by rintro rfl;exact h v ai
   simp[this]
theorem z4z {lf:Str->Option fj}{x:Str}{v:Value}:∀{P:List Str} {vs:List Value} {i:Nat} {m:Str->Option Value},P.Nodup->P[i]?=some x->vs[i]?=some v->lf x=some .local->
  bindL lf (P.zip vs) m x=some v
 | [],_,_,_,_,h,_,_=>by simp at h
 |_::_,[],_,_,_,_,h,_=>by simp at h
 |p::P,w::vs,0,m,nd,h1,h2,hk=>by simp at h1 h2;subst h1;subst h2;show bindL lf ((p,w)::P.zip vs) m p=_;unfold bindL;rw[z4q fun v hv=>(iu.mp nd).1 (n8 hv).1,if_pos hk];simp
 |p::P,w::vs,i+1,m,nd,h1,h2,hk=>by show bindL lf ((p,w)::P.zip vs) m x=_;unfold bindL;exact z4z (i:=i) (iu.mp nd).2 (by simpa using h1) (by simpa using h2) hk
theorem z59 {lf:Str->Option fj}{x:Str}{v:Value}:∀{P:List Str} {vs:List Value} {i:Nat} {m:Str->Option Value},P.Nodup->P[i]?=some x->vs[i]?=some v->lf x≠some .local->
  bindC lf (P.zip vs) m x=some v
 | [],_,_,_,_,h,_,_=>by simp at h
 |_::_,[],_,_,_,_,h,_=>by simp at h
 |p::P,w::vs,0,m,nd,h1,h2,hk=>by simp at h1 h2;subst h1;subst h2;show bindC lf ((p,w)::P.zip vs) m p=_;unfold bindC;rw[z5i fun v hv=>(iu.mp nd).1 (n8 hv).1,if_neg hk];simp
 |p::P,w::vs,i+1,m,nd,h1,h2,hk=>by show bindC lf ((p,w)::P.zip vs) m x=_;unfold bindC;exact z59 (i:=i) (iu.mp nd).2 (by simpa using h1) (by simpa using h2) hk
def start (N:List Str)(vs:List V):St:=vs.map some++bj (N.length-vs.length) none
def cxOf (CX:CXT)(P:ax)(w:World)(K:W.Frag)(mg:Str->Option Value)(base:Heap)(N:List Str)(qual:Str)(scope:Scope)(f:Addr)(cd:Value)(A:cq)(outer:List Env)(s:ae)(H:Hp)(E:XK):Cx where
 prog:=P
 w:=w
 K:=K
 mg:=mg
 base:=base
 A:=A.deeper (on qual scope s.heap.objs.size f cd)
 N:=N
 s₀:=s
 H₀:=H
 env:=on qual scope s.heap.objs.size f cd
 outer:=outer
 stack:=on qual scope s.heap.objs.size f cd::outer
 ex:=[]
 calm:=true
 fn:=fun _=>true
 pn:=[]
 xe:=fun e s'=>wpAny (model P w) (A.deeper (on qual scope s.heap.objs.size f cd)) (nv (on qual scope s.heap.objs.size f cd) e) (fun _ s''=>CX outer H s E e s'') (fun e' s''=>CX outer H s E e' s'') s'
theorem z7e {sc:Scope}{n:Nat}{x:Str}(h:sc.names.lookup x=some .cell):∃c,(cellsFrom n sc.names []).lookup x=some c:=by have q:=W.cellsFrom_some sc.names n [] (.inl h);exact Option.isSome_iff_exists.mp q
theorem z9e {CX:CXT}{P:ax}{w:World}{K:W.Frag}{mg:Str->Option Value}{base:Heap}{N ps:List Str}{qual:Str}{scope:Scope}{f:Addr}{cd:Value}{A:cq}{outer:List Env}{s s1:ae}{H:Hp}{E:XK}{us:List Value}{vs:List V}
  (S:FnScope N ps scope) (hd:A.handled=none) (e0:Env0 P w K mg base A outer s H) (hl:vs.length=ps.length) (r:Vals vs us)
  (x:InCallC s s.heap.objs.size (bindL (on qual scope s.heap.objs.size f cd).kindOf (ps.zip us) fun _=>none) (cellsFrom (s.heap.objs.size+1) scope.names []) (bindC (on qual scope s.heap.objs.size f cd).kindOf (ps.zip us) fun _=>none) s1):
  Inv (cxOf CX P w K mg base N qual scope f cd A outer s H E) [] (start N vs) H s1:=by
 have hpl:ps.length<=N.length:=by have:=congrArg qu S.pre;rw[f8]at this;omega
 obtain⟨h1,tk,rfl,hk⟩:=x.done;have noA:∀b:Addr,b∉(cxOf CX P w K mg base N qual scope f cd A outer s H E).ex:=fun b z=>absurd (show b∈([]:List Addr)from z) (by simp);refine⟨⟨e0.mod,S.kind,rfl,rfl,aj _,fun y z c h1 h2=>?_,fun y hy=>?_,fun y c _ h=>?_,fun _=>hd,Around.frames_deeper e0.frames,.inr ⟨rfl,rfl⟩,fun b z=>absurd z (noA b),e0.bs,e0.bsz,fun b _ _=>noA b,fun b z=>absurd z (noA b),e0.funs,e0.frf,fun _ _ z=>by cases z⟩,rfl,e0.bare,Un.kept hk,⟨_,x.toInCall.ns,fun i y v h1 h2 h3=>?_⟩,fun y c h=>⟨_,x.cell y c h⟩,e0.hok.fresh (aj _),fun y c h=>?_,fun p hp=>absurd (show p∈([]:List (Addr×Obj))from hp) (by simp),e0.hok.kept hk,?_,fun _ _ z=>by cases z⟩
 ·exact name_of_addr x.apart (PySem.mem_of_lookup h1) (PySem.mem_of_lookup h2)
 ·have hy:scope.names.lookup y=some .cell\/scope.names.lookup y=some .free:=hy;rcases hy with hy|hy
  ·exact z7e hy
  ·exact absurd rfl (S.nofree _ (PySem.mem_of_lookup hy))
 ·exact pz (x.above y c (PySem.mem_of_lookup h))
 ·have hi:i<vs.length:=by
   unfold start at h2;by_cases hi:i<vs.length
   ·exact hi
   ·rw[gu (by simpa using hi)]at h2;rw[cj]at h2;split at h2<;>cases h2
  have ha:vs[i]?=some v:=by
   unfold start at h2;rw[ij (by simpa using hi),bu]at h2;cases e:vs[i]? with
   |none=>rw[e]at h2;cases h2
   |some a=>rw[e]at h2;cases h2;rfl
  obtain⟨u,hu,rv⟩:=r.get ha;have hp:ps[i]?=some y:=by rw[<-S.pre,List.getElem?_take_of_lt (by omega)];exact h1
  have ndP:ps.Nodup:=by rw[<-S.pre];exact S.nd.sublist (List.take_sublist _ _)
  refine⟨u,rv,?_⟩;rcases S.par y (du hp)with k|k
  ·exact .inl ⟨k,z4z ndP hp hu k⟩
  ·obtain⟨c,e⟩:=z7e (n:=s.heap.objs.size+1) k;refine .inr ⟨.inl k,c,e,?_⟩;have q:=x.cell y c e;rw[z59 ndP hp hu (by show scope.names.lookup y≠_;rw[k];decide)]at q;exact q
 ·exact e0.hok.fresh (pz (x.above y c (PySem.mem_of_lookup h)))
 ·unfold start;show _=N.length;rw[br,av,cn];omega
theorem zgt {CX:CXT}{P:ax}{w:World}{K:W.Frag}{mg:Str->Option Value}{base:Heap}{k:Nat}{f:Addr}{name qual:Str}{params:Arguments}{body:List Stmt}{scope:Scope}{dV kV doc pm cdv ct oc:Value}{an od:Option Addr}
  {osl:Array (Option Value)} {N ps:List Str} {sp:Sp} (lk:K.lookup f=some ⟨oc,od,.func (W.fnOf name qual params body scope dV kV doc pm an cdv ct),osl⟩) (hcd:W.codeIn K cdv qual=true) (S:FnScope N ps scope)
  (len:∀vs H Q E,sp vs H Q E->vs.length=ps.length)
  (hbody:∀(A:cq) (outer:List Env) (s:ae) (H:Hp) (vs:List V) (Q:VK) (E:XK),Room k (A.deeper (on qual scope s.heap.objs.size f cdv))->sp vs H Q E->∃t,PSs (cxOf CX P w K mg base N qual scope f cdv A outer s H E) body t/\t {nx:=fun _ H'=>Q .non H',rt:=Q} (start N vs) H):
  FnOk P w K mg base CX (k+1) f (W.fnOf name qual params body scope dV kV doc pm an cdv ct) ps sp:=by
 refine⟨len,fun A outer s H args us vs Q E hr e0 hb r hsp=>?_⟩;have hl:=len _ _ _ _ hsp;have KX:K.In s.heap:=e0.mod.kin.keeps fun b o e=>(e0.bs b o e).1;have lim:s.heap.NoLimit:=e0.mod.nolimit.keeps fun b o e=>(e0.bs b o e).1
 have hkind:∀y∈ps.zip us,scope.names.lookup y.1=some .local\/(scope.names.lookup y.1=some .cell/\((cellsFrom (s.heap.objs.size+1) scope.names []).lookup y.1).isSome=true):=fun⟨n,v⟩ hy=>by
  rcases S.par n (n8 hy).1 with q|q
  ·exact .inl q
  ·exact .inr ⟨q,W.cellsFrom_some _ _ _ (.inl q)⟩
 refine codeAny_call_function hr.depth (KX _ _ lk) rfl S.co S.gen rfl (W.codeRec_of KX hcd) (hb _ _ _ _ ?_);refine wpAny_newFunctionEnv_cells S.kind hkind fun env he s1 x=>?_;subst he;refine⟨lim.keeps x.toInCall.keep,codeAny_func ?_⟩;obtain⟨t,ht,hq⟩:=hbody A outer s H vs Q E (hr.deeper _) hsp;have I:Inv (cxOf CX P w K mg base N qual scope f cdv A outer s H E) [] (start N vs) H s1:=z9e S hr.hd e0 hl r x;refine jb (ht [] s1 (start N vs) H _ I hq) (fun fl s' hs=>?_) fun e s' hs=>hs;have fin:∀{σ':St} {H':Hp} {v:V} {u:Value},Inv (cxOf CX P w K mg base N qual scope f cdv A outer s H E) [] σ' H' s'->RelV v u->Q v H'->CE outer P w H s Q u s':=fun{σ' H' v u} J rv q=>⟨v,H',J.os,J.bare,J.base,J.hok,rv,q⟩;cases fl with
 |ret u=>obtain⟨v,σ',H',J,rv,q⟩:=hs;exact fin J rv q
 |next=>obtain⟨σ',H',J,q⟩:=hs;exact fin (v:=V.non) (u:=Value.none) J rfl q
 |brk=>obtain⟨_,_,_,q⟩:=hs;exact False.elim q
 |cont=>obtain⟨_,_,_,q⟩:=hs;exact False.elim q
section
variable {X:Cx}{x:Str}{p pos:Pos}{e:Expr}{es:List Expr}{t:TA}{id T:String}{r:List V->Hp->VK->Prop}
def tCB (r:List V->Hp->VK->Prop)(t:TA):TE:=fun σ H Q=>t σ H fun vs H1=>r vs H1 Q
theorem zcz (hc:CallR X (.builtin id) r)(hg:Gl X x)(hm:X.mg x=none)(hv:cz x=some (.builtin id))(ha:PA X (e::es) t)(hn:x≠"__name__":=by decide)(hdb:(x==("__debug__":Str))=false:=by decide)
  (he:cu (e::es) X.env=(false,eval e X.env)::cu es X.env:=by rfl) (hpl:(i4 pos (cu es X.env)).any (·.1)=false:=by rfl):PE X (.Call (.Name x p) (e::es) [] pos) (tCB r t):=by
 intro pins s σ H Q I h;refine fv (z20 I hg hm hv ?_ hn hdb);exact PyProof.Rows.callWith_builtin1 (thn (ha pos pins s σ H _ I h) fun us s1 ⟨vs,H1,I1,r1,q1⟩=>hc pins s1 σ H1 vs us Q I1 r1 q1) he hpl
theorem z9a (hc:CallR X (.type T) r)(hg:Gl X x)(hm:X.mg x=none)(hv:cz x=some (.type T))(ha:PA X (e::es) t)(hn:x≠"__name__":=by decide)(hdb:(x==("__debug__":Str))=false:=by decide)
  (he:cu (e::es) X.env=(false,eval e X.env)::cu es X.env:=by rfl) (hpl:(i4 pos (cu es X.env)).any (·.1)=false:=by rfl):PE X (.Call (.Name x p) (e::es) [] pos) (tCB r t):=by
 intro pins s σ H Q I h;refine fv (z20 I hg hm hv ?_ hn hdb);exact PyProof.Rows.callWith_type1 (thn (ha pos pins s σ H _ I h) fun us s1 ⟨vs,H1,I1,r1,q1⟩=>hc pins s1 σ H1 vs us Q I1 r1 q1) he hpl
end
section
variable {κ:Type} [DecidableEq κ]
def valV (kvs:List (κ×V))(k:κ):Option V:=(kvs.find? fun kv=>decide (kv.1=k)).map (·.2)
def putK (kvs:List (κ×V))(k:κ)(v:V):List (κ×V):=if(kvs.any fun kv=>decide (kv.1=k))=true then kvs.map (fun kv=>if kv.1=k then(kv.1,v)else kv)else kvs++[(k,v)]
def zma (kvs:List (κ×V))(k:κ):List (κ×V):=kvs.filter fun kv=>decide (kv.1≠k)
theorem z2w {p:κ×V}{r:List (κ×V)}{k:κ}(e:p.1=k):valV (p::r) k=some p.2:=by simp[valV,gh,e]
theorem z2s {p:κ×V}{r:List (κ×V)}{k:κ}(e:¬p.1=k):valV (p::r) k=valV r k:=by simp[valV,gh,e]
theorem z6x (k:κ):∀kvs:List (κ×V),(kvs.any fun kv=>decide (kv.1=k))=(valV kvs k).isSome
 | []=>rfl
 |p::r=>by
  rw[jd];by_cases e:p.1=k
  ·simp only[z2w e,tz e,Bool.true_or,Option.isSome_some]
  ·rw[z2s e,t7 e,Bool.false_or];exact z6x k r
theorem z3e (kvs:List (κ×V))(k:κ)(v:V):(putK kvs k v).length<=kvs.length+1:=by
 unfold putK;split
 ·rw[av];omega
 ·rw[br,ay,List.length_nil];omega
theorem RelO.isSome_eq {o:Option V}{u:Option Value}(r:RelO o u):o.isSome=u.isSome:=by
 cases o with
 |none=>cases u with
  |none=>rfl
  |some _=>exact(show False from r).elim
 |some _=>cases u with
  |none=>exact(show False from r).elim
  |some _=>rfl
theorem RelO.getD {o:Option V}{u:Option Value}{d:V}{d':Value}(r:RelO o u)(rd:RelV d d'):RelV (o.getD d) (u.getD d'):=by
 cases o with
 |none=>cases u with
  |none=>exact rd
  |some _=>exact(show False from r).elim
 |some _=>cases u with
  |none=>exact(show False from r).elim
  |some _=>exact r
theorem KV.val {kvs:List (κ×V)}{vs:List (κ×Value)}(r:KV kvs vs)(k:κ):RelO (valV kvs k) (ou vs k):=by
 unfold KV at r
 induction r with
 |nil=>exact True.intro
 | @cons p q ps qs h t ih=>
  obtain⟨h1,h2⟩:=h;by_cases e:p.1=k
  ·have e':q.1=k:=h1.symm.trans e;have b:ou (q::qs) k=some q.2:=by simp[ou,gh,e']
   rw[z2w e,b];exact h2
  ·have e':¬q.1=k:=fun z=>e (h1.trans z);have b:ou (q::qs) k=ou qs k:=by simp[ou,gh,e']
   rw[z2s e,b];exact ih
theorem KV.any {kvs:List (κ×V)}{vs:List (κ×Value)}(r:KV kvs vs)(k:κ):(kvs.any fun kv=>decide (kv.1=k))=vs.any fun kv=>decide (kv.1=k):=by
 unfold KV at r
 induction r with
 |nil=>rfl
 |cons h t ih=>rw[jd,jd,ih,h.1]
theorem KV.repl {kvs:List (κ×V)}{vs:List (κ×Value)}(r:KV kvs vs)(k:κ){y:V}{u:Value}(ry:RelV y u):
  KV (kvs.map fun kv=>if kv.1=k then(kv.1,y)else kv) (vs.map fun kv=>if kv.1=k then(kv.1,u)else kv):=by
 unfold KV at r ⊢
 induction r with
 |nil=>exact .nil
 | @cons p q ps qs h t ih=>
  rw[bn,bn];refine .cons ?_ ih;obtain⟨h1,h2⟩:=h;by_cases e:p.1=k
  ·rw[if_pos e,if_pos (h1.symm.trans e)];exact⟨h1,ry⟩
  ·rw[if_neg e,if_neg (fun z=>e (h1.trans z))];exact⟨h1,h2⟩
theorem KV.put {kvs:List (κ×V)}{vs:List (κ×Value)}(r:KV kvs vs)(k:κ){y:V}{u:Value}(ry:RelV y u):KV (putK kvs k y) (stored vs k u):=by
 unfold putK stored;rw[r.any k];by_cases e:(vs.any fun kv=>decide (kv.1=k))=true
 ·rw[if_pos e,if_pos e];exact r.repl k ry
 ·rw[if_neg e,if_neg e];exact Paired.snoc r ⟨rfl,ry⟩
theorem KV.drop {kvs:List (κ×V)}{vs:List (κ×Value)}(r:KV kvs vs)(k:κ):KV (zma kvs k) (without vs k):=by
 unfold KV at r ⊢;unfold zma without
 induction r with
 |nil=>exact .nil
 | @cons p q ps qs h t ih=>
  obtain⟨h1,h2⟩:=h;rw[List.filter_cons,List.filter_cons];by_cases e:p.1=k
  ·have a:¬decide (p.1≠k)=true:=by simp[e]
   have b:¬decide (q.1≠k)=true:=by simp[h1.symm.trans e]
   rw[if_neg a,if_neg b];exact ih
  ·have e':¬q.1=k:=fun z=>e (h1.trans z);have a:decide (p.1≠k)=true:=by simp[e]
   have b:decide (q.1≠k)=true:=by simp[e']
   rw[if_pos a,if_pos b];exact .cons ⟨h1,h2⟩ ih
theorem KV.length {kvs:List (κ×V)}{vs:List (κ×Value)}(r:KV kvs vs):kvs.length=vs.length:=Paired.length r
end
theorem z8j {P:ax}{w:World}{k:Key}{u:Value}(r:RelV (kV k) u):(z0i P w).is k u=true:=by
 cases k with
 |inl i=>obtain⟨t,e⟩:=(show ∃t,u=Value.int i t from r);subst e;exact z6o P w i t
 |inr x=>obtain⟨t,e⟩:=(show ∃t,u=Value.str x t from r);subst e;exact z65 P w x t
theorem z4x {P:ax}{w:World}:∀{ks:List Key} {us:List Value},Vals (ks.map kV) us->ItemsAre (z0i P w) ks us
 | [],_,r=>by rw[List.map_nil]at r;cases r;exact .nil
 |k::ks,_,r=>by
  rw[bn]at r;cases r with
  |cons h t=>exact .cons (z8j h) (z4x t)
abbrev KT (H:Hp):List (List Key×V)->List (List Key×Addr×Value)->Prop:=j8 fun p q=>p.1=q.1/\H q.2.1=some (.tup (p.1.map kV))/\RelV p.2 q.2.2
theorem KT.val {H:Hp}{kvs:List (List Key×V)}{xs:List (List Key×Addr×Value)}(r:KT H kvs xs)(k:List Key):RelO (valV kvs k) ((atKey xs k).map (·.2)):=by
 induction r with
 |nil=>exact True.intro
 | @cons p q ps qs h t ih=>
  obtain⟨h1,_,h2⟩:=h;by_cases e:p.1=k
  ·have e':q.1=k:=h1.symm.trans e;have b:atKey (q::qs) k=some q.2:=by simp[atKey,gh,e']
   rw[z2w e,b];exact h2
  ·have e':¬q.1=k:=fun z=>e (h1.trans z);have b:atKey (q::qs) k=atKey qs k:=by simp[atKey,gh,e']
   rw[z2s e,b];exact ih
theorem KT.repl {H:Hp}{kvs:List (List Key×V)}{xs:List (List Key×Addr×Value)}(r:KT H kvs xs)(k:List Key){y:V}{u:Value}(ry:RelV y u):
  KT H (kvs.map fun kv=>if kv.1=k then(kv.1,y)else kv) (xs.map (putAt k u)):=by
 induction r with
 |nil=>exact .nil
 | @cons p q ps qs h t ih=>
  rw[bn,bn];refine .cons ?_ ih;obtain⟨h1,h2,h3⟩:=h;unfold putAt;by_cases e:p.1=k
  ·rw[if_pos e,if_pos (h1.symm.trans e)];exact⟨h1,h2,ry⟩
  ·rw[if_neg e,if_neg (fun z=>e (h1.trans z))];exact⟨h1,h2,h3⟩
theorem KT.put {H:Hp}{kvs:List (List Key×V)}{xs:List (List Key×Addr×Value)}(r:KT H kvs xs)(k:List Key){b:Addr}{y:V}{u:Value}(hb:H b=some (.tup (k.map kV)))(ry:RelV y u):
  KT H (putK kvs k y) (storedH xs k b u):=by
 have e:(kvs.any fun kv=>decide (kv.1=k))=(atKey xs k).isSome:=by rw[z6x,(r.val k).isSome_eq,ml]
 unfold putK storedH;rw[e];by_cases q:(atKey xs k).isSome=true
 ·rw[if_pos q,if_pos q];exact r.repl k ry
 ·rw[if_neg q,if_neg q];exact Paired.snoc r ⟨rfl,hb,ry⟩
theorem KT.keeps {H H':Hp}{kvs:List (List Key×V)}{xs:List (List Key×Addr×Value)}(r:KT H kvs xs)(ht:∀b ys,H b=some (.tup ys)->H' b=some (.tup ys)):KT H' kvs xs:=Paired.mapP r fun _ _ z=>⟨z.1,ht _ _ z.2.1,z.2.2⟩
section
variable {P:ax}{w:World}{H:Hp}{h:Heap}{a:Addr}
theorem zl6 {u:HO}(ok:HOk P w H h)(e:Rd H a u):z0s P w H h a u:=e.ok ok
theorem z5u {kvs:List (Key×V)}(ok:HOk P w H h)(e:Rd H a (.dK kvs)):kvs.length<=az/\(a==i3)=false/\∃vs,KV kvs vs/\h.DictOf (z0i P w) a vs:=show z0s P w H h a (.dK kvs)from zl6 ok e
theorem zh6 {kvs:List (Key×V)}(ok:HOk P w H h)(e:H a=some (.dK kvs)):kvs.length<=az/\(a==i3)=false/\∃vs,KV kvs vs/\h.DictOf (z0i P w) a vs:=z5u ok (.inl e)
theorem z3q {ks:List Key}(ok:HOk P w H h)(e:H a=some (.tup (ks.map kV))):(my (z0i P w)).is h ks a:=by obtain⟨_,its,r,n,h1⟩:=(show z0s P w H h a (.tup (ks.map kV))from ok a _ e);exact⟨_,its.toArray,n,h1,rfl,rfl,by simpa using z4x r⟩
theorem z6h {kvs:List (List Key×V)}(ok:HOk P w H h)(e:Rd H a (.dT kvs)):kvs.length<=az/\(a==i3)=false/\
  ∃xs,KT H kvs xs/\h.DictOfH (my (z0i P w)) a xs:=by
 obtain⟨z,y,xs,r,o,es,ep,h1,h2,h3,h4,h5⟩:=(show z0s P w H h a (.dT kvs)from zl6 ok e);refine⟨z,y,xs,r,o,es,ep,h1,h2,h3,h4,fun x hx=>?_,h5⟩
 have all:∀{l:List (List Key×V)} {m:List (List Key×Addr×Value)},KT H l m->∀x∈m,(my (z0i P w)).is h x.1 x.2.1:=by
  intro l m q
  induction q with
  |nil=>intro x hx;exact nomatch hx
  | @cons p q ps qs hq t ih=>
   intro x hx;rcases ak.mp hx with e|hx
   ·subst e;exact z3q ok (by rw[<-hq.1];exact hq.2.1)
   ·exact ih x hx
 exact all r x hx
theorem zq0 {kvs:List (List Key×V)}(ok:HOk P w H h)(e:H a=some (.dT kvs)):kvs.length<=az/\(a==i3)=false/\∃xs,KT H kvs xs/\h.DictOfH (my (z0i P w)) a xs:=z6h ok (.inl e)
end
def DGet (H:Hp)(a:Addr)(y:V)(r:Option V):Prop:=(∃kvs k,Rd H a (.dK kvs)/\y=kV k/\r=valV kvs k)\/∃kvs k b,Rd H a (.dT kvs)/\y=.ref b/\H b=some (.tup (k.map kV))/\r=valV kvs k
def DPut (H:Hp)(a:Addr)(y v:V)(H':Hp):Prop:=
 (∃kvs k,H a=some (.dK kvs)/\y=kV k/\kvs.length<az/\H'=upd H a (.dK (putK kvs k v)))\/
 ∃kvs k b,H a=some (.dT kvs)/\y=.ref b/\H b=some (.tup (k.map kV))/\kvs.length<az/\H'=upd H a (.dT (putK kvs k v))
theorem DGet.k {H:Hp}{a:Addr}{kvs:List (Key×V)}{k:Key}(e:H a=some (.dK kvs)):DGet H a (kV k) (valV kvs k):=.inl ⟨kvs,k,.inl e,rfl,rfl⟩
theorem DGet.t {H:Hp}{a b:Addr}{kvs:List (List Key×V)}{k:List Key}(e:H a=some (.dT kvs))(eb:H b=some (.tup (k.map kV))):DGet H a (.ref b) (valV kvs k):=.inr ⟨kvs,k,b,.inl e,rfl,eb,rfl⟩
theorem DPut.k {H:Hp}{a:Addr}{kvs:List (Key×V)}{k:Key}{v:V}(e:H a=some (.dK kvs))(hl:kvs.length<az):DPut H a (kV k) v (upd H a (.dK (putK kvs k v))):=.inl ⟨kvs,k,e,rfl,hl,rfl⟩
theorem DPut.t {H:Hp}{a b:Addr}{kvs:List (List Key×V)}{k:List Key}{v:V}(e:H a=some (.dT kvs))(eb:H b=some (.tup (k.map kV)))(hl:kvs.length<az): DPut H a (.ref b) v (upd H a (.dT (putK kvs k v))):=.inr ⟨kvs,k,b,e,rfl,eb,hl,rfl⟩
section
variable {X:Cx}{pins:List (Addr×Obj)}{σ:St}{H:Hp}{s:ae}{a:Addr}{y v:V}{u r:Value}{o:Option V}{A:cq}{E:Value->ae->Prop}
theorem Inv.big (I:Inv X pins σ H s):i3<s.heap.objs.size:=by have h:bh<s.heap.objs.size:=(I.mod.glob.keeps I.bk).lt;exact lz (by decide) h
theorem z9p {Q:Value->ae->Prop}(hu:A.units+1<cLine)(I:Inv X pins σ H s)(g:DGet H a y (some v))(ry:RelV y u)(h:∀w' s',Inv X pins σ H s'->RelV v w'->Q w' s'):
  wpAny (model X.prog X.w) A (qa (.ref a) u) Q E s:=by
 rcases g with⟨kvs,k,e,ey,l⟩|⟨kvs,k,b,e,ey,eb,l⟩
 ·subst ey;obtain⟨z,hd,vs,rel,dd⟩:=z5u I.hok e;obtain⟨w',hw,rw'⟩:=RelO.some_of (v:=v) (o:=ou vs k) (by rw[l];exact rel.val k);exact wpAny_getItem_of (z8j ry) dd.mapOf hw (h w' _ (I.tok _) rw')
 ·subst ey;cases(show u=Value.ref b from ry);obtain⟨z,hd,xs,rel,dd⟩:=z6h I.hok e;obtain⟨w',hw,rw'⟩:=RelO.some_of (v:=v) (o:=(atKey xs k).map (·.2)) (by rw[l];exact rel.val k);obtain⟨p,hp,hp2⟩:=dn.mp hw;refine wpAny_getItem_heap (jc hu) (z3q I.hok eb) dd hp ?_;rw[hp2];exact h w' _ (I.tok _) rw'
theorem d_in {Q:Value->ae->Prop}(hu:A.units+1<cLine)(I:Inv X pins σ H s)(g:DGet H a y o)(ry:RelV y u)(h:∀s',Inv X pins σ H s'->Q (.bool o.isSome) s'):
  wpAny (model X.prog X.w) A (cr .In u (.ref a)) Q E s:=by
 rcases g with⟨kvs,k,e,ey,l⟩|⟨kvs,k,b,e,ey,eb,l⟩
 ·subst ey;obtain⟨z,hd,vs,rel,dd⟩:=z5u I.hok e;refine wpAny_in_of (z8j ry) hd dd.mapOf ?_;rw[<-(rel.val k).isSome_eq,<-l];exact h _ (I.tok _)
 ·subst ey;cases(show u=Value.ref b from ry);obtain⟨z,hd,xs,rel,dd⟩:=z6h I.hok e;refine wpAny_in_heap (jc hu) (z3q I.hok eb) hd dd ?_;have q:=(rel.val k).isSome_eq;rw[ml]at q;rw[<-q,<-l];exact h _ (I.tok _)
theorem zhb {Q:Value->ae->Prop}(hu:A.units+1<cLine)(I:Inv X pins σ H s)(g:DGet H a y o)(ry:RelV y u)(h:∀s',Inv X pins σ H s'->Q (.bool (!o.isSome)) s'):
  wpAny (model X.prog X.w) A (cr .NotIn u (.ref a)) Q E s:=by
 rcases g with⟨kvs,k,e,ey,l⟩|⟨kvs,k,b,e,ey,eb,l⟩
 ·subst ey;obtain⟨z,hd,vs,rel,dd⟩:=z5u I.hok e;refine wpAny_notIn_of (z8j ry) hd dd.mapOf ?_;rw[<-(rel.val k).isSome_eq,<-l];exact h _ (I.tok _)
 ·subst ey;cases(show u=Value.ref b from ry);obtain⟨z,hd,xs,rel,dd⟩:=z6h I.hok e;refine wpAny_notIn_heap (jc hu) (z3q I.hok eb) hd dd ?_;have q:=(rel.val k).isSome_eq;rw[ml]at q;rw[<-q,<-l];exact h _ (I.tok _)
theorem zbg {h':Heap}{t':Nat}{ob:HO}(I:Inv X pins σ H s)(mu:Mut (H a))(hs:b9 a s.heap h')(he:∃q,h'.get? a=some q)(new:z0s X.prog X.w (upd H a ob) h' a ob):
  Inv X pins σ (upd H a ob) {s with heap:=h',toks:=t'}:=
 I.write (x:=a) (e:=a) mu (.inl rfl) (fun b q hb z=>(hs.2 b hb).trans z) he new
theorem zld {P:ax}{w:World}{H':Hp}{h':Heap}{kvs:List (Key×V)}{vs:List (Key×Value)}(z:kvs.length<=az)(hd:(a==i3)=false)(rel:KV kvs vs)(dd:h'.DictOf (z0i P w) a vs): z0s P w H' h' a (.dK kvs):=⟨z,hd,vs,rel,dd⟩
theorem zb3 {H':Hp}{Q:Unit->ae->Prop}(hu:A.units+1<cLine)(I:Inv X pins σ H s)(g:DPut H a y v H')(ry:RelV y u)(rv:RelV v r)(h:∀s',Inv X pins σ H' s'->Q () s'):
  wpAny (model X.prog X.w) A (setItem (.ref a) u r) Q E s:=by
 rcases g with⟨kvs,k,e,ey,l,eH⟩|⟨kvs,k,b,e,ey,eb,l,eH⟩
 ·subst ey eH;obtain⟨z,hd,vs,rel,dd⟩:=zh6 I.hok e;have hz:vs.length<=az:=by rw[<-rel.length];exact z
  have hl:(putK kvs k v).length<=az:=by have:=z3e kvs k v;omega
  refine wpAny_setItem_pairs (hsz:=hz) (z8j ry) dd fun h' dd' hs=>h _ ?_;have he:∃q,h'.get? a=some q:=let⟨q,_,_,hq,_⟩:=dd';⟨q,hq⟩;exact zbg I (by rw[e];exact True.intro) hs he (zld hl hd (rel.put k rv) dd')
 ·subst ey eH;cases(show u=Value.ref b from ry);obtain⟨z,hd,xs,rel,dd⟩:=zq0 I.hok e;have hz:xs.length<=az:=by rw[<-Paired.length rel];exact z
  have hl:(putK kvs k v).length<=az:=by have:=z3e kvs k v;omega
  refine wpAny_setItem_heap (hsz:=hz) (jc hu) (z3q I.hok eb) dd fun h' dd' hs=>h _ ?_;obtain⟨q,es,ep,hq,h2,h3,h4,_,h5⟩:=dd';refine zbg I (by rw[e];exact True.intro) hs ⟨q,hq⟩ ⟨hl,hd,_,(rel.put k eb rv).keeps fun c ys ec=>?_,q,es,ep,hq,h2,h3,h4,h5⟩;rw[z01 (zp2 ec e (fun z=>nomatch z))];exact ec
end
section
variable {X:Cx}{pins:List (Addr×Obj)}{σ:St}{H:Hp}{s:ae}{a:Addr}{kvs:List (Key×V)}{k:Key}{u:Value}{A:cq}{E:Value->ae->Prop}
theorem zpx {Q:Value->ae->Prop}(I:Inv X pins σ H s)(e:Rd H a (.dK kvs))(h:∀t s',Inv X pins σ H s'->Q (.int kvs.length t) s'):wpAny (model X.prog X.w) A (call (.builtin "len") [.ref a]) Q E s:=by obtain⟨z,hd,vs,rel,dd⟩:=z5u I.hok e;refine call_len_dict hd dd (by rw[<-rel.length];rw[dq]at z;omega) ?_;rw[<-rel.length];exact h _ _ (I.tok _)
end
theorem z6a {X:Cx}{pins:List (Addr×Obj)}{σ:St}{H:Hp}{s:ae}{a:Addr}{y:V}{o:Option V}(I:Inv X pins σ H s)(g:DGet H a y o):s.TypeIs (.ref a) "dict":=by
 rcases g with⟨kvs,k,e,_,_⟩|⟨kvs,k,b,e,_,_,_⟩
 ·obtain⟨_,_,vs,_,dd⟩:=z5u I.hok e;exact dd.typeIs
 ·obtain⟨_,_,xs,_,dd⟩:=z6h I.hok e;exact dd.typeIs
section
variable {X:Cx}{o i e value:Expr}{pos pos' tpos:Pos}{td ty tv:TE}
end
theorem zc6 {P:ax}{w:World}{H:Hp}(h:Heap)(hb:i3<h.objs.size):z0s P w H (h.push {cls:=.type "dict",data:=.dict #[]}) h.objs.size (.dK []):=⟨d6 _,beq_eq_false_iff_ne.mpr (Ne.symm (cg hb)),[],.nil,Heap.DictOf.new h⟩
def zf6:TE:=fun _ H Q=>∀p,H p=none->Q (.ref p) (upd H p (.dK []))
section
variable {X:Cx}{pos:Pos}
theorem z6y:PE X (.Dict [] [] pos) zf6:=fun pins s σ H Q I h=>wpAny_Dict_empty ⟨.ref s.heap.objs.size,_,I.laid (a:=s.heap.objs.size) (o:=.dK []) (t':=s.toks) (fun _ _ q=>af _ q) (aj _) (zc6 s.heap I.big),rfl,h _ (I.hok.fresh (aj _))⟩
end
structure M1 (X:Cx)(o:Expr)(m:Str)(apos:Pos)(e:Expr)(cpos:Pos):Prop where
 base:i5 o m X.env (eval o X.env)=eval o X.env
 few:((i4 cpos (cu [e] X.env)).all (fun x=> !x.1)&&(m8 cpos (kn [] X.env)).all (fun x=>x.1.isSome) &&decide (([e]:List Expr).length+([]:List j4).length+(if([]:List j4).isEmpty then 0 else 1)<30))=true
 line:(apos.endLine==cpos.line)=true
 trees:i4 cpos (cu [e] X.env)=[(false,eval e X.env)]
structure M2 (X:Cx)(o:Expr)(m:Str)(apos:Pos)(e f:Expr)(cpos:Pos):Prop where
 base:i5 o m X.env (eval o X.env)=eval o X.env
 few:((i4 cpos (cu [e,f] X.env)).all (fun x=> !x.1)&&(m8 cpos (kn [] X.env)).all (fun x=>x.1.isSome) &&decide (([e,f]:List Expr).length+([]:List j4).length+(if([]:List j4).isEmpty then 0 else 1)<30))=true
 line:(apos.endLine==cpos.line)=true
 trees:i4 cpos (cu [e,f] X.env)=[(false,eval e X.env),(false,eval f X.env)]
def IsD (H:Hp)(a:Addr):Prop:=(∃kvs,Rd H a (.dK kvs))\/∃kvs,Rd H a (.dT kvs)
theorem zjo {X:Cx}{pins:List (Addr×Obj)}{σ:St}{H:Hp}{s:ae}{a:Addr}(I:Inv X pins σ H s)(d:IsD H a):
  s.TypeIs (.ref a) "dict"/\(∀b,Value.ref a=.ref b->∃ob,s.heap.get? b=some ob/\ob.dict=none)/\(a==i3)=false:=by
 rcases d with⟨kvs,e⟩|⟨kvs,e⟩
 ·obtain⟨_,hd,vs,_,dd⟩:=z5u I.hok e;refine⟨dd.typeIs,fun b q=>?_,hd⟩;cases q;obtain⟨ob,_,_,h1,h2,_⟩:=dd;exact⟨ob,h1,h2.2.1⟩
 ·obtain⟨_,hd,xs,_,dd⟩:=z6h I.hok e;refine⟨dd.typeIs,fun b q=>?_,hd⟩;cases q;obtain⟨ob,_,_,h1,h2,_⟩:=dd;exact⟨ob,h1,h2.2.1⟩
section
variable {X:Cx}{pins:List (Addr×Obj)}{σ:St}{H:Hp}{s:ae}{a:Addr}{y d:V}{u r:Value}{o:Option V}{A:cq}{E:Value->ae->Prop}
theorem zno {Q:Value->ae->Prop}(hu:A.units+1<cLine)(I:Inv X pins σ H s)(g:DGet H a y o)(ry:RelV y u)(h:∀w' s',Inv X pins σ H s'->RelV (o.getD .non) w'->Q w' s'):
  wpAny (model X.prog X.w) A (call (.builtin "dict.get") [.ref a,u]) Q E s:=by
 rcases g with⟨kvs,k,e,ey,l⟩|⟨kvs,k,b,e,ey,eb,l⟩
 ·subst ey;obtain⟨z,hd,vs,rel,dd⟩:=z5u I.hok e;refine qb PySem.F.slot_dict_get dd.typeIs PySem.F.entry_dict_get (PySem.F.args_dict_get_2 _ _) (meets_dict_get (z0i X.prog X.w) a (z8j ry) hd) ⟨_,dd.mapOf,h _ _ (I.tok _) ?_⟩;rw[l];exact(rel.val k).getD rfl
 ·subst ey;cases(show u=Value.ref b from ry);obtain⟨z,hd,xs,rel,dd⟩:=z6h I.hok e;refine qb PySem.F.slot_dict_get dd.typeIs PySem.F.entry_dict_get (PySem.F.args_dict_get_2 _ _) (meetsH_dict_get (my (z0i X.prog X.w)) a b hd) ⟨jc hu,k,xs,z3q I.hok eb,dd,h _ _ (I.tok _) ?_⟩;rw[l];exact(rel.val k).getD rfl
end
def zeo (td ty:TE):TE:=fun σ H Q=>td σ H fun x H1=>∃a,x=.ref a/\IsD H1 a/\ty σ H1 fun y H2=>∃o,DGet H2 a y o/\Q (o.getD .non) H2
section
variable {X:Cx}{o e f:Expr}{apos cpos:Pos}{td ty tx:TE}
theorem zc7 (hu:X.A.units+1<cLine)(ho:PE X o td)(he:PE X e ty)(m:M1 X o "get" apos e cpos):PE X (.Call (.Attribute o "get" apos) [e] [] cpos) (zeo td ty):=by intro pins s σ H Q I h;refine wpAny_Call_method m.base m.few m.line PySem.F.plainAttrs_dict PySem.F.slot_dict_get PySem.F.type_dict_get (thn (ho pins s σ H _ I h) fun u s1 ⟨x,H1,I1,rx,a,ex,d,q1⟩=>?_);subst ex;obtain rfl:u=Value.ref a:=rx;obtain⟨t1,t2,_⟩:=zjo I1 d;refine⟨t1,t2,?_⟩;rw[m.trees];refine kz rfl (lm (j9 (thn (he pins s1 σ H1 _ I1 q1) fun iv s2 ⟨y,H2,I2,ry,ov,g,q2⟩=>p8 ?_)));exact zno hu I2 g ry fun w' s3 I3 rw'=>⟨_,H2,I3,rw',q2⟩
end
section
variable {X:Cx}{pins:List (Addr×Obj)}{σ:St}{H:Hp}{s:ae}{a:Addr}{kvs:List (Key×V)}{A:cq}{E:Value->ae->Prop}
end
section
variable {X:Cx}{pins:List (Addr×Obj)}{σ:St}{H:Hp}{s:ae}{a:Addr}{y:V}{u:Value}{A:cq}{E:Value->ae->Prop}
end
end L2
namespace HT
open PySem PyProof.Rows
section
open PySem.SeqAt
open PySem.AutoSeq1 (wpAny_loadPart')
open PySem.MeetsSeq PySem.MeetsSeq2 PySem.MeetsSeq3
end
section
variable {prog:ax}{w:World}{A:cq}{E:Value->ae->Prop}{s:ae}
theorem cat_tup {t b:Addr}{vs ws:List Value}{Q:Value->ae->Prop}(ht:IsTup s.heap t vs.toArray)(hb:IsTup s.heap b ws.toArray)(hv:vs≠[])
  (h1:ws=[]->Q (.ref t) s) (h2:ws≠[]->Q (.ref s.heap.objs.size) {s with heap:=s.heap.push {cls:=.type "tuple",data:=.seq (vs++ws).toArray}})
  (hsz:vs.length+ws.length<=az):wpAny (model prog w) A (gj .Add (.ref t) (.ref b)) Q E s:=by
 obtain⟨⟨cls,dd,data,sl⟩,ho,hc,n,hd⟩:=id ht;obtain⟨⟨cls2,dd2,data2,sl2⟩,ho2,hc2,n2,hd2⟩:=id hb;simp only at hc hd hc2 hd2;subst hc hd hc2 hd2;have e:vs.toArray++ws.toArray=(vs++ws).toArray:=by simp
 by_cases hw:ws=[]
 ·exact ny ⟨_,ho,rfl⟩ ⟨_,ho2,rfl⟩ m9 pe PySem.F.slot_tuple_add PySem.F.entry_tuple_add (PySem.F.args_tuple_add_2 _ _) (tuple_addW1 t b vs.toArray ws.toArray n n2 dd dd2 sl sl2 (by simpa using hv) (by simp[hw])) ⟨ho,ho2,h1 hw⟩
 ·refine ny ⟨_,ho,rfl⟩ ⟨_,ho2,rfl⟩ m9 pe PySem.F.slot_tuple_add PySem.F.entry_tuple_add (PySem.F.args_tuple_add_2 _ _)
   (tuple_addW2 t b vs.toArray ws.toArray n n2 dd dd2 sl sl2 (by simpa using hv) (by simpa using hw) (by rw[ao,ao];exact hsz)) ⟨ho,ho2,?_⟩
  rw[e];exact h2 hw
def sIx (n d:Nat):Option Int->Nat
 |none=>d
 |some v=>if v<0 then(v+(n:Int)).toNat else min v.toNat n
theorem sIx_le (n d:Nat)(hd:d<=n)(o:Option Int):sIx n d o<=n:=by
 cases o with
 |none=>exact hd
 |some v=>
  show(if v<0 then(v+(n:Int)).toNat else min v.toNat n)<=n;by_cases hv:v<0
  ·rw[if_pos hv];omega
  ·rw[if_neg hv];exact Nat.min_le_right _ _
theorem z9x (v:Int)(n d:Nat):(if v<0 then max (v+(n:Int)) 0 else min v (n:Int))=((sIx n d (some v):Nat):Int):=by
 show(if v<0 then max (v+(n:Int)) 0 else min v (n:Int))=(((if v<0 then(v+(n:Int)).toNat else min v.toNat n):Nat):Int);by_cases hv:v<0
 ·simp only[if_pos hv];omega
 ·simp only[if_neg hv];omega
theorem z8v (lo hi:Option Int)(n:Nat):ju lo hi 1 (n:Int)=(((sIx n 0 lo:Nat):Int),((sIx n n hi:Nat):Int)):=by
 have h1:¬((1:Int)<0):=by omega
 unfold ju;simp only[h1,if_false];refine Prod.ext ?_ ?_
 ·cases lo with
  |none=>rfl
  |some v=>exact z9x v n 0
 ·cases hi with
  |none=>rfl
  |some v=>exact z9x v n n
theorem z93 (i j:Nat):ik (i:Int) (j:Int) 1=j-i:=by
 unfold ik;have h1:(1:Int)>0:=by omega
 simp only[h1,if_true,Int.ediv_one];split<;>omega
theorem z3y {v:Value}{o:Option Int}{Q:Option Int->ae->Prop}(p:pj v o)(h:Q o s):wpAny (model prog w) A (Builtin.Slice.slicePartIndex v) Q E s:=by
 cases p with
 |none=>exact slicePart_none h
 |int i t=>exact slicePart_int h
theorem z2q {sl:Addr}{vl vu:Value}{lo hi:Option Int}{n:Nat}{Q:Int×Int×Nat->ae->Prop}(hs:s.heap.IsSliceOf sl vl vu .none)(pl:pj vl lo)(pu:pj vu hi)
  (h:Q (((sIx n 0 lo:Nat):Int),1,sIx n n hi-sIx n 0 lo) s):wpAny (model prog w) A (l9 (.ref sl) (pure (n:Int))) Q E s:=by
 obtain⟨os,hos,hcs,hds⟩:=id hs;unfold l9 Builtin.Slice.sliceFields;refine aa (aa (dr hos hds (x:=vl) rfl (aa (dr hos hds (x:=vu) rfl (aa (dr hos hds (x:=.none) rfl (au ?_)))))));refine aa (slicePart_none ?_);show wpAny _ _ (if((1:Int)==0)=true then _ else _) _ _ s;rw[if_neg (by decide)];refine aa (z3y pl (aa (z3y pu (aa (au ?_)))));show wpAny _ _ (match ju lo hi 1 (n:Int)with|(lo,hi)=>pure (lo,(1:Int),ik lo hi 1)) _ _ s;rw[z8v lo hi n];show wpAny _ _ (pure (((sIx n 0 lo:Nat):Int),(1:Int),ik ((sIx n 0 lo:Nat):Int) ((sIx n n hi:Nat):Int) 1)) _ _ s;rw[z93];exact au h
theorem zee (xs:Array Value)(i k:Nat):((dv k).filterMap fun(m:Nat)=>xs[((i:Int)+(m:Int)*1).toNat]?).toArray=((xs.toList.drop i).take k).toArray:=by
 have e:(fun(m:Nat)=>xs[((i:Int)+(m:Int)*1).toNat]?)=fun m=>xs[i+m]?:=by
  funext m
  have:((i:Int)+(m:Int)*1).toNat=i+m:=by omega
  rw[this]
 rw[e];have:=pick_run xs i k;rw[List.filterMap_map]at this;have e2:((fun x=>xs[x]?)∘fun x=>i+x)=fun m=>xs[i+m]?:=rfl;rw[e2]at this;rw[this]
theorem getItem_tuple_cut {t sl:Addr}{items:Array Value}{vl vu:Value}{lo hi:Option Int}{Q:Value->ae->Prop}(ht:IsTup s.heap t items)(hs:s.heap.IsSliceOf sl vl vu .none)(pl:pj vl lo)(pu:pj vu hi)
  (hw:¬(sIx items.size 0 lo=0/\sIx items.size items.size hi=items.size))
  (h:Q (.ref s.heap.objs.size) {s with heap:=s.heap.push {cls:=.type "tuple",data:=.seq ((items.toList.drop (sIx items.size 0 lo)).take (sIx items.size items.size hi-sIx items.size 0 lo)).toArray}})
  (hsz:items.size<=az):wpAny (model prog w) A (qa (.ref t) (.ref sl)) Q E s:=by
 have htake:sizeOk (.seq ((items.toList.drop (sIx items.size 0 lo)).take (sIx items.size items.size hi-sIx items.size 0 lo)).toArray):=by show((items.toList.drop (sIx items.size 0 lo)).take (sIx items.size items.size hi-sIx items.size 0 lo)).toArray.size<=az;rw[ao,f8,gq,dh];omega
 have hj:sIx items.size items.size hi<=items.size:=sIx_le _ _ (aj _) hi;obtain⟨os,hos,hcs,hds⟩:=id hs;have hTs:s.TypeIs (.ref sl) "slice":=⟨os,hos,hcs⟩;unfold qa
 try with_reducible refine f9 ?_
 first|refine aa (au ?_)|skip
 refine aa (wpAny_sequenceKey ht.typeIs (by decide) ?_);refine aa (gb (name:=Str.ofString "__getitem__") ht.typeIs PyProof.Rows.slot_tuple_getitem (i8 PyProof.Rows.slot_tuple_getitem ht.typeIs entry_tuple_getitem ?_ (args_tuple_getitem _ _)));show wpAny _ _ (Builtin.Tuple.tupleItemsOf (.ref t)>>=_) _ _ s;refine aa (tupleItemsOf_ ht ?_);refine aa (wpAny_typeOf hTs ?_);rw[if_pos (by decide)];refine aa (z2q hs pl pu ?_);have hno:¬((((sIx items.size 0 lo:Nat):Int)==0&&(1:Int)==1&&(sIx items.size items.size hi-sIx items.size 0 lo)==items.size)=true):=by intro q;rw[aq,aq]at q;have q1:((sIx items.size 0 lo:Nat):Int)=0:=eq_of_beq q.1.1;have q2:sIx items.size items.size hi-sIx items.size 0 lo=items.size:=eq_of_beq q.2;exact hw ⟨by omega,by omega⟩
 show wpAny _ _ (if(((sIx items.size 0 lo:Nat):Int)==0&&(1:Int)==1&&(sIx items.size items.size hi-sIx items.size 0 lo)==items.size)=true then _ else _) _ _ s;rw[if_neg hno,zee]
 first
  |exact aa (m:=i6 _) (iz (au ⟨_,rfl,au h⟩) htake)
  |exact aa (m:=i6 _) (iz (aa (au (au ⟨_,rfl,au h⟩))) htake)
  |exact aa (aa (m:=i6 _) (iz (au (au ⟨_,rfl,au h⟩)) htake))
  |exact aa (aa (m:=i6 _) (iz (au ⟨_,rfl,au h⟩) htake))
end
end HT
namespace L2
open PySem PySem.Spec PyProof.Rows
abbrev TO:=St->Hp->(Option Int->Hp->Prop)->Prop
def PO (X:Cx)(e:Option Expr)(t:TO):Prop:=∀(pins:List (Addr×Obj)) (s:ae) (σ:St) (H:Hp) (Q:Option Int->Hp->Prop),Inv X pins σ H s->t σ H Q->wpAny (model X.prog X.w) X.A (evalPart e X.env) (fun u s'=>∃o H',Inv X pins σ H' s'/\pj u o/\Q o H') X.xe s
def zi8:TO:=fun _ H Q=>Q none H
def zqg (t:TE):TO:=fun σ H Q=>t σ H fun x H1=>∃i,x=.int i/\Q (some i) H1
section
variable {X:Cx}{e:Expr}{te:TE}{lo hi:Option Expr}{tl th:TO}{pos p2:Pos}
theorem zh0:PO X none zi8:=by intro pins s σ H Q I h;rw[evalPart_none];exact au ⟨none,H,I,.none,h⟩
theorem zi0 (h:PE X e te):PO X (some e) (zqg te):=by intro pins s σ H Q I hw;rw[evalPart_some];refine thn (h pins s σ H _ I hw) fun u s1 ⟨x,H1,I1,r1,q1⟩=>?_;obtain⟨i,rfl,q⟩:=q1;obtain⟨t,rfl⟩:=r1;exact⟨some i,H1,I1,.int i t,q⟩
def SlR (X:Cx)(r:V->Option Int->Option Int->Hp->VK->Prop):Prop:=∀(pins:List (Addr×Obj)) (s:ae) (σ:St) (H:Hp) (x:V) (v vl vu:Value) (lo hi:Option Int) (sl:Addr) (Q:VK),Inv X pins σ H s->RelV x v->s.heap.IsSliceOf sl vl vu .none->pj vl lo->pj vu hi->r x lo hi H Q->∃T id,typeLookup (.type T) "__getitem__"=pure (some (.builtin id))/\s.TypeIs v T/\wpAny (model X.prog X.w) X.A (qa v (.ref sl)) (EP X pins σ Q) X.xe s
theorem SlR.or {r r':V->Option Int->Option Int->Hp->VK->Prop}(h:SlR X r)(h':SlR X r'):SlR X (fun x lo hi H Q=>r x lo hi H Q\/r' x lo hi H Q):=by
 intro pins s σ H x v vl vu lo hi sl Q I rx hs pl pu q;rcases q with q|q
 ·exact h pins s σ H x v vl vu lo hi sl Q I rx hs pl pu q
 ·exact h' pins s σ H x v vl vu lo hi sl Q I rx hs pl pu q
def tSl (r:V->Option Int->Option Int->Hp->VK->Prop)(te:TE)(tl th:TO):TE:=fun σ H Q=>te σ H fun x H1=>tl σ H1 fun l H2=>th σ H2 fun u H3=>r x l u H3 Q
theorem zef {r:V->Option Int->Option Int->Hp->VK->Prop}(hr:SlR X r)(he:PE X e te)(hl:PO X lo tl)(hu:PO X hi th):PE X (.Subscript e (.Slice lo hi none p2) pos) (tSl r te tl th):=by intro pins s σ H Q I h;refine Subscript_ (thn (he pins s σ H _ I h) fun v s1 ⟨x,H1,I1,r1,q1⟩=>?_);refine wpAny_Slice (thn (hl pins s1 σ H1 _ I1 q1) fun vl s2 ⟨l,H2,I2,pl,q2⟩=>thn (hu pins s2 σ H2 _ I2 q2) fun vu s3 ⟨u,H3,I3,pu,q3⟩=>?_);rw[evalPart_none];refine au ?_;have I4:Inv X pins σ H3 {s3 with heap:=s3.heap.push {cls:=.type "slice",data:=.fields #[vl,vu,.none]}}:=I3.kept (t':=s3.toks) fun b ob q=>af _ q;obtain⟨T,id,hT,ht,hg⟩:=hr pins {s3 with heap:=s3.heap.push {cls:=.type "slice",data:=.fields #[vl,vu,.none]}} σ H3 x v vl vu l u s3.heap.objs.size Q I4 r1 (Heap.IsSliceOf.new ..) pl pu q3;show wpAny (model X.prog X.w) X.A (subscriptTail e (.Slice lo hi none p2) v (.ref s3.heap.objs.size)) (EP X pins σ Q) X.xe {s3 with heap:=s3.heap.push {cls:=.type "slice",data:=.fields #[vl,vu,.none]}};exact tail_any (ops:=[.ref s3.heap.objs.size,v]) ht hT hg (by with_unfolding_all rfl)
def cutV (xs:List V)(lo hi:Option Int):List V:=(xs.drop (HT.sIx xs.length 0 lo)).take (HT.sIx xs.length xs.length hi-HT.sIx xs.length 0 lo)
theorem z31 (xs:List V)(lo hi:Option Int):(cutV xs lo hi).length<=xs.length:=by unfold cutV;rw[f8,gq];omega
def rSlT (K:W.Frag):V->Option Int->Option Int->Hp->VK->Prop:=fun x lo hi H Q=>∃a xs,x=.ref a/\SqT K H a xs/\¬(HT.sIx xs.length 0 lo=0/\HT.sIx xs.length xs.length hi=xs.length)/\∀p,H p=none->Q (.ref p) (upd H p (.tup (cutV xs lo hi)))
theorem zll:SlR X (rSlT X.K):=by
 intro pins s σ H x v vl vu lo hi sl Q I rx hs pl pu h;obtain⟨a,xs,rfl,hx,hw,q⟩:=h;cases rx;obtain⟨its,r,ht,hz⟩:=I.tuple hx;have hlen:its.toArray.size=xs.length:=by rw[ao];exact r.length.symm
 refine⟨"tuple",_,PyProof.Rows.slot_tuple_getitem.lookup,ht.typeIs,?_⟩;refine HT.getItem_tuple_cut ht hs pl pu (by rw[hlen];exact hw) ?_ (by rw[hlen];exact hz);rw[hlen];refine⟨.ref s.heap.objs.size,_,I.laid (t':=s.toks) (o:=.tup (cutV xs lo hi)) (fun b ob q=>af _ q) (aj _) ?_,rfl,q _ (I.hok.fresh (aj _))⟩;exact⟨bw (z31 xs lo hi) hz,_,(r.drop (HT.sIx xs.length 0 lo)).take (HT.sIx xs.length xs.length hi-HT.sIx xs.length 0 lo),TupN.new _ _⟩
def znj (K:W.Frag):R2:=fun x y H Q=>∃a b xs ys,x=.ref a/\y=.ref b/\SqT K H a xs/\SqT K H b ys/\xs≠ []/\xs.length+ys.length<=az/\(ys=[]->Q (.ref a) H)/\(ys≠[]->∀p,H p=none->Q (.ref p) (upd H p (.tup (xs++ys))))
theorem Vals.nil_iff {xs:List V}{us:List Value}(r:Vals xs us):us=[]↔xs=[]:=by
 cases r with
 |nil=>simp
 |cons _ _=>simp
theorem zil:OpR X (gj .Add) (znj X.K):=by intro pins s σ H x y v u Q I rx ry h;obtain⟨a,b,xs,ys,rfl,rfl,ha,hb,hx,hz,q1,q2⟩:=h;cases rx;cases ry;obtain⟨its,r1,p1,_⟩:=I.tuple ha;obtain⟨its2,r2,p2,_⟩:=I.tuple hb;refine HT.cat_tup p1 p2 (fun z=>hx (r1.nil_iff.mp z)) (fun z=>⟨.ref a,H,I,rfl,q1 (r2.nil_iff.mp z)⟩) (fun z=>?_) (by rw[<-r1.length,<-r2.length];exact hz);refine⟨.ref s.heap.objs.size,_,I.laid (t':=s.toks) (o:=.tup (xs++ys)) (fun b ob q=>af _ q) (aj _) ?_,rfl,q2 (fun w=>z (r2.nil_iff.mpr w)) _ (I.hok.fresh (aj _))⟩;exact⟨by rw[br];exact hz,_,r1.append r2,TupN.new _ _⟩
end
def ixN (n:Nat)(i:Int):Option Nat:=if 0<=i then(if i<n then some i.toNat else none)else if -(n:Int)<=i then some (i+n).toNat else none
def atI {α:Type}(xs:List α)(i:Int):Option α:=(ixN xs.length i).bind fun j=>xs[j]?
theorem zbr {n:Nat}{i:Int}{j:Nat}(h:ixN n i=some j):qt i n=some j/\j<n/\-(n:Int)<=i/\i<n:=by
 unfold ixN at h;by_cases h0:0<=i
 ·rw[if_pos h0]at h;by_cases h1:i<n
  ·rw[if_pos h1]at h;have e:i.toNat=j:=Option.some.inj h;exact⟨by rw[qv h0 h1,e],by omega,by omega,h1⟩
  ·rw[if_neg h1]at h;cases h
 ·rw[if_neg h0]at h;by_cases h1:-(n:Int)<=i
  ·rw[if_pos h1]at h;have e:(i+n).toNat=j:=Option.some.inj h;exact⟨by rw[qc (by omega) h1,e],by omega,h1,by omega⟩
  ·rw[if_neg h1]at h;cases h
theorem z64 {α:Type}{xs:List α}{i:Int}{v:α}(h:atI xs i=some v):∃j,qt i xs.length=some j/\xs[j]?=some v/\j<xs.length/\-(xs.length:Int)<=i/\i<xs.length:=by
 unfold atI at h;cases e:ixN xs.length i with
 |none=>rw[e]at h;cases h
 |some j=>rw[e]at h;obtain⟨h1,h2,h3,h4⟩:=zbr e;exact⟨j,h1,h,h2,h3,h4⟩
def z9s (b:Expr):Prop:=∀o i,subscripted b false o i=operate [o,i] (qa o i)
def IxR (X:Cx)(r:R2):Prop:=∀(value slice:Expr) (pins:List (Addr×Obj)) (s:ae) (σ:St) (H:Hp) (x y:V) (v u:Value) (Q:VK),Inv X pins σ H s->RelV x v->RelV y u->r x y H Q->subscripted slice false v u=operate [v,u] (qa v u)->wpAny (model X.prog X.w) X.A (subscriptTail value slice v u) (EP X pins σ Q) X.xe s
def MtR (X:Cx)(id:String)(r:V->List V->Hp->VK->Prop):Prop:=∀(pins:List (Addr×Obj)) (s:ae) (σ:St) (H:Hp) (x:V) (xs:List V) (v:Value) (us:List Value) (Q:VK),Inv X pins σ H s->RelV x v->Vals xs us->r x xs H Q->wpAny (model X.prog X.w) X.A (call (.builtin id) (v::us)) (EP X pins σ Q) X.xe s
section
variable {X:Cx}{a b:Expr}{ta tb:TE}{pos:Pos}
theorem IxR.or {r r':R2}(h:IxR X r)(h':IxR X r'):IxR X (fun x y H Q=>r x y H Q\/r' x y H Q):=by
 intro value slice pins s σ H x y v u Q I rx ry q hs;rcases q with q|q
 ·exact h value slice pins s σ H x y v u Q I rx ry q hs
 ·exact h' value slice pins s σ H x y v u Q I rx ry q hs
theorem MtR.or {id:String}{r r':V->List V->Hp->VK->Prop}(h:MtR X id r)(h':MtR X id r'):MtR X id (fun x xs H Q=>r x xs H Q\/r' x xs H Q):=by
 intro pins s σ H x xs v us Q I rx rs q;rcases q with q|q
 ·exact h pins s σ H x xs v us Q I rx rs q
 ·exact h' pins s σ H x xs v us Q I rx rs q
theorem zjt {r:R2}(hr:IxR X r)(ha:PE X a ta)(hb:PE X b tb)(hs:z9s b):PE X (.Subscript a b pos) (tOp r ta tb):=by intro pins s σ H Q I h;exact Subscript_ (binT ha hb I h fun v u s2 x y H2 I2 rx ry q=>hr a b pins s2 σ H2 x y v u Q I2 rx ry q (hs _ _))
def rIxL (K:W.Frag):R2:=fun x y H Q=>∃p xs i v,x=.ref p/\y=.int i/\SqL K H p xs/\atI xs i=some v/\Q v H
def rIxT (K:W.Frag):R2:=fun x y H Q=>∃p xs i v,x=.ref p/\y=.int i/\SqT K H p xs/\atI xs i=some v/\Q v H
def rIxS:R2:=fun x y H Q=>∃z i c,x=.str z/\y=.int i/\z.length<=az/\atI z.cps.toList i=some c/\Q (.str ⟨#[c]⟩) H
theorem zgz:IxR X (rIxL X.K):=by
 intro value slice pins s σ H x y v u Q I rx ry h hs;obtain⟨p,xs,i,z,rfl,rfl,hq,he,q⟩:=h;cases rx;obtain⟨t,rfl⟩:=ry;obtain⟨its,r,pl,hz⟩:=I.list hq;obtain⟨j,h1,h2,h3,h4,h5⟩:=z64 he;obtain⟨w,ew,rw'⟩:=r.get h2;have hl:=r.length;have hn:=z3h;have fin:EP X pins σ Q w s:=⟨z,H,I,rw',q⟩;by_cases h0:0<=i
 ·have hj:i.toNat=j:=by
   rw[qv h0 h5]at h1;exact Option.some.inj h1
  exact item_listR pl.isList h0 (by omega) (by rw[hj];simpa using ew) fin hs
 ·have hj:(i+(its.toArray.size:Int)).toNat=j:=by
   rw[qc (by omega) h4]at h1;rw[ao,<-hl];exact Option.some.inj h1
  exact nz (x:=w) pl.isList.typeIs slot_list_getitem.lookup (wpAny_getItem_list_neg (Q:=fun r s'=>r=w/\EP X pins σ Q r s') pl.isList (by omega) (by rw[ao]<;>omega) (by omega) (by rw[hj];simpa using ew) ⟨rfl,fin⟩) hs
theorem znb:IxR X (rIxT X.K):=by intro value slice pins s σ H x y v u Q I rx ry h hs;obtain⟨p,xs,i,z,rfl,rfl,hq,he,q⟩:=h;cases rx;obtain⟨t,rfl⟩:=ry;obtain⟨its,r,pl,hz⟩:=I.tuple hq;obtain⟨j,h1,h2,h3,h4,h5⟩:=z64 he;obtain⟨w,ew,rw'⟩:=r.get h2;have hl:=r.length;have hn:=z3h;have fin:EP X pins σ Q w s:=⟨z,H,I,rw',q⟩;exact nz (x:=w) pl.typeIs slot_tuple_getitem.lookup (getItem_tuple (j:=j) (Q:=fun r s'=>r=w/\EP X pins σ Q r s') pl (by omega) (by omega) (by rw[ao,<-hl];exact h1) (by simpa using ew) ⟨rfl,fin⟩) hs
theorem z4r:IxR X rIxS:=by
 intro value slice pins s σ H x y v u Q I rx ry h hs;obtain⟨z,i,c,rfl,rfl,hz,he,q⟩:=h;obtain⟨t,rfl⟩:=rx;obtain⟨t',rfl⟩:=ry;obtain⟨j,h1,h2,h3,h4,h5⟩:=z64 he;have hl:z.cps.toList.length=z.length:=by simp[Str.length]
 rw[hl]at h1 h4 h5;have hn:=z3h;exact tail_any (n3 s z t) slot_str_getitem.lookup (getItem_str (c:=c) (by have e1:decide (i< -(2 ^ 63:Int))=false:=t7 (by omega);have e2:decide (i ≥ 2 ^ 63)=false:=t7 (by omega);rw[e1,e2,Bool.or_false]) (by rw[h1];simpa using h2) ⟨.str ⟨#[c]⟩,H,I.tok _,⟨_,rfl⟩,q⟩) hs
def rIx (K:W.Frag):R2:=fun x y H Q=>rIxL K x y H Q\/rIxT K x y H Q\/rIxS x y H Q
theorem zke:IxR X (rIx X.K):=zgz.or (znb.or z4r)
theorem z8h (its:List Value)(n j:Nat)(u:Value):Obj.mapSeq (·.setIfInBounds j u) {cls:=.type "list",data:=.seq its.toArray n}={cls:=.type "list",data:=.seq (its.set j u).toArray n}:=by simp[Obj.mapSeq]
theorem Inv.lst {pins:List (Addr×Obj)}{σ:St}{H:Hp}{s:ae}{p:Addr}{xs:List V}(I:Inv X pins σ H s)(h:H p=some (.lst xs)):
  ∃(its:List Value) (n:Nat),Vals xs its/\s.heap.get? p=some {cls:=.type "list",data:=.seq its.toArray n}/\xs.length<=az:=by
 obtain⟨z,its,n,r,e⟩:=I.hok p _ h;exact⟨its,n,r,e,z⟩
theorem Inv.lstUpd {pins:List (Addr×Obj)}{σ:St}{H:Hp}{s:ae}{p:Addr}{xs ys:List V}{its its':List Value}{n n':Nat}{f:Obj->Obj}(I:Inv X pins σ H s)(h:H p=some (.lst xs))
  (ho:s.heap.get? p=some {cls:=.type "list",data:=.seq its.toArray n}) (hf:f {cls:=.type "list",data:=.seq its.toArray n}={cls:=.type "list",data:=.seq its'.toArray n'}) (r:Vals ys its') (hz:ys.length<=az) (t:Nat):
  Inv X pins σ (upd H p (.lst ys)) {s with heap:=s.heap.update p f,toks:=t}:=by
 have e:(s.heap.update p f).get? p=some {cls:=.type "list",data:=.seq its'.toArray n'}:=by rw[fq f ho (by rw[hf]<;>rfl),hf]
 refine I.write (x:=p) (e:=p) (by rw[h];trivial) (.inl rfl) (fun b u hb q=>(fk _ _ (Ne.symm hb)).trans q) ⟨_,e⟩ ?_;exact⟨hz,its',n',r,e⟩
def zl4:V->V->V->Hp->(Hp->Prop)->Prop:=fun o i v H Q=>∃p xs k j,o=.ref p/\i=.int k/\H p=some (.lst xs)/\ixN xs.length k=some j/\Q (upd H p (.lst (xs.set j v)))
theorem set_list:PSet X zl4:=by
 intro pins s σ H o i v ov iv u Q I ro ri rv h;obtain⟨p,xs,k,j,rfl,rfl,hp,hj,q⟩:=h;cases ro;obtain⟨t,rfl⟩:=ri;obtain⟨its,n,r,ho,hz⟩:=I.lst hp;obtain⟨h1,h2,h3,h4⟩:=zbr hj;have hl:=r.length;have hn:=z3h;have I':Inv X pins σ (upd H p (.lst (xs.set j v))) {s with heap:=s.heap.update p (Obj.mapSeq (·.setIfInBounds j u))}:=I.lstUpd hp ho (z8h its n j u) (r.set rv j) (by rw[df];exact hz) s.toks;by_cases h0:0<=k
 ·have hk:k.toNat=j:=by
   rw[qv h0 h4]at h1;exact Option.some.inj h1
  exact W.ki_setAt ho h0 (by omega) (by rw[ao,<-hl];exact h4) (by rw[hk];exact⟨_,I',q⟩)
 ·have hk:(k+(its.toArray.size:Int)).toNat=j:=by
   rw[qc (by omega) h3]at h1;rw[ao,<-hl];exact Option.some.inj h1
  exact W.ki_setBack ho (by omega) (by rw[ao,<-hl];exact h3) (by omega) (by rw[hk];exact⟨_,I',q⟩)
theorem z57 (lo hi:Option Int)(n:Nat):(ko lo hi none n).1=((HT.sIx n 0 lo:Nat):Int)/\(ko lo hi none n).2.1=((HT.sIx n n hi:Nat):Int)/\(ko lo hi none n).2.2=1:=by
 refine⟨?_,?_,rfl⟩
 ·cases lo with
  |none=>simp[ko,HT.sIx]
  |some i=>
   simp only[ko,HT.sIx,Option.getD_none,show(1:Int)>0 by decide,if_true];by_cases h:i<0
   ·simp only[h,if_true]<;>omega
   ·simp only[h,if_false]<;>omega
 ·cases hi with
  |none=>simp[ko,HT.sIx]
  |some i=>
   simp only[ko,HT.sIx,Option.getD_none,show(1:Int)>0 by decide,if_true];by_cases h:i<0
   ·simp only[h,if_true]<;>omega
   ·simp only[h,if_false]<;>omega
theorem z49 (its:List Value)(lo hi:Option Int):slicePick its.toArray lo hi none=((its.drop (HT.sIx its.length 0 lo)).take (HT.sIx its.length its.length hi-HT.sIx its.length 0 lo)).toArray:=by obtain⟨h1,h2,h3⟩:=z57 lo hi its.toArray.size;unfold slicePick;rw[h1,h2,h3];simp only[oo,pick_run,ao]<;>rfl
def rSlL (K:W.Frag):V->Option Int->Option Int->Hp->VK->Prop:=fun x lo hi H Q=>∃a xs,x=.ref a/\SqL K H a xs/\∀p,H p=none->Q (.ref p) (upd H p (.lst (cutV xs lo hi)))
theorem zhg:SlR X (rSlL X.K):=by intro pins s σ H x v vl vu lo hi sl Q I rx hs pl pu h;obtain⟨a,xs,rfl,hx,q⟩:=h;cases rx;obtain⟨its,r,ht,hz⟩:=I.list hx;have hlen:=r.length;refine⟨"list",_,slot_list_getitem.lookup,ht.isList.typeIs,?_⟩;refine wpAny_getItem_list_slice ht.isList hs pl pu .none (by simp) ?_ (by rw[ao]<;>omega);rw[z49,<-hlen];refine⟨.ref s.heap.objs.size,_,I.laid (t':=s.toks) (o:=.lst (cutV xs lo hi)) (fun b ob q=>af _ q) (aj _) ?_,rfl,q _ (I.hok.fresh (aj _))⟩;exact⟨bw (z31 xs lo hi) hz,_,0,(r.drop (HT.sIx xs.length 0 lo)).take (HT.sIx xs.length xs.length hi-HT.sIx xs.length 0 lo),ba _ rfl⟩
def z58:V->Bool
 |.non=>true
 |.bl _=>true
 |.int _=>true
 |.str _=>true
 |_=>false
def eqV:V->V->Bool
 |.non,.non=>true
 |.bl a,.bl b=>a==b
 |.bl a,.int b=>(if a then 1 else 0)==b
 |.int a,.bl b=>a==(if b then 1 else 0)
 |.int a,.int b=>a==b
 |.str a,.str b=>a==b
 |_,_=>false
theorem znw {A:cq}{s:ae}{y x:V}{u v:Value}(ry:RelV y u)(rx:RelV x v)(fy:z58 y=true)(fx:z58 x=true):SeqAt.EqAt A s u v (eqV y x):=by
 cases y with
 |non=>
  cases ry;cases x with
  |non=>cases rx;exact SeqAt.EqAt.same _
  |bl b=>cases rx;exact SeqAt.EqAt.none_bool b
  |int b=>obtain⟨t,rfl⟩:=rx;exact SeqAt.EqAt.none_int b t
  |str b=>obtain⟨t,rfl⟩:=rx;exact SeqAt.EqAt.none_str b t
  |_=>exact absurd (show false=true from fx) cw
 |bl a=>
  cases ry;cases x with
  |non=>cases rx;exact SeqAt.EqAt.bool_none a
  |bl b=>cases rx;exact SeqAt.EqAt.bool_bool a b
  |int b=>obtain⟨t,rfl⟩:=rx;exact SeqAt.EqAt.bool_int a b t
  |str b=>obtain⟨t,rfl⟩:=rx;exact SeqAt.EqAt.bool_str a b t
  |_=>exact absurd (show false=true from fx) cw
 |int a=>
  obtain⟨t',rfl⟩:=ry;cases x with
  |non=>cases rx;exact SeqAt.EqAt.int_none a t'
  |bl b=>cases rx;exact SeqAt.EqAt.int_bool a t' b
  |int b=>obtain⟨t,rfl⟩:=rx;exact SeqAt.EqAt.int_int a t' b t
  |str b=>obtain⟨t,rfl⟩:=rx;exact SeqAt.EqAt.int_str a t' b t
  |_=>exact absurd (show false=true from fx) cw
 |str a=>
  obtain⟨t',rfl⟩:=ry;cases x with
  |non=>cases rx;exact SeqAt.EqAt.str_none a t'
  |bl b=>cases rx;exact SeqAt.EqAt.str_bool a t' b
  |int b=>obtain⟨t,rfl⟩:=rx;exact SeqAt.EqAt.str_int a t' b t
  |str b=>obtain⟨t,rfl⟩:=rx;exact SeqAt.EqAt.str_str a t' b t
  |_=>exact absurd (show false=true from fx) cw
 |_=>exact absurd (show false=true from fy) cw
def eqU (x:V)(u:Value):Bool:=match u with
 |.none=>eqV .non x
 |.bool b=>eqV (.bl b) x
 |.int i _=>eqV (.int i) x
 |.str z _=>eqV (.str z) x
 |_=>false
theorem zf9 {x y:V}{u:Value}(r:RelV y u)(f:z58 y=true):eqU x u=eqV y x:=by
 cases y with
 |non=>cases r;rfl
 |bl b=>cases r;rfl
 |int i=>obtain⟨t,rfl⟩:=r;rfl
 |str z=>obtain⟨t,rfl⟩:=r;rfl
 |_=>exact absurd (show false=true from f) cw
theorem z3f {x:V}:∀{xs:List V} {us:List Value},Vals xs us->xs.all z58=true->us.any (eqU x)=xs.any fun y=>eqV y x
 |_,_,.nil,_=>rfl
 |y::xs,u::us,.cons r t,f=>by rw[bz,aq]at f;rw[jd,jd,zf9 r f.1,z3f t f.2]
theorem z25 {A:cq}{s:ae}{x:V}{v:Value}(rx:RelV x v)(fx:z58 x=true):∀{xs:List V} {us:List Value},Vals xs us->xs.all z58=true->∀u∈us,SeqAt.EqAt A s u v (eqU x u)
 |_,_,.nil,_=>fun u hu=>by cases hu
 |y::xs,u::us,.cons r t,f=>fun u' hu=>by
  rw[bz,aq]at f;rcases ak.mp hu with rfl|hu
  ·rw[zf9 r f.1];exact znw r rx f.1 fx
  ·exact z25 rx fx t f.2 u' hu
def inV (x:V)(xs:List V):Bool:=xs.any fun y=>eqV y x
def rIn (K:W.Frag)(neg:Bool):R2:=fun x y H Q=>∃p xs,y=.ref p/\(SqL K H p xs\/SqT K H p xs)/\z58 x=true/\xs.all z58=true/\Q (.bl (if neg then !inV x xs else inV x xs)) H
theorem z9v:OpR X (cr .In) (rIn X.K false):=by
 intro pins s σ H x y v u Q I rx ry h;obtain⟨p,xs,rfl,hq,fx,fs,q⟩:=h;cases ry;rcases hq with hq|hq
 ·obtain⟨its,r,pl,hz⟩:=I.list hq;refine SeqAt.in_listAt (eqU x) pl.isList (fun w hw=>z25 rx fx r fs w (by simpa using hw)) ⟨.bl _,H,I,rfl,?_⟩;rw[show its.toArray.any (eqU x)=its.any (eqU x) by simp,z3f r fs];exact q
 ·obtain⟨its,r,pl,hz⟩:=I.tuple hq;refine SeqAt.in_tupleAt (eqU x) pl (fun w hw=>z25 rx fx r fs w (by simpa using hw)) ⟨.bl _,H,I,rfl,?_⟩;rw[show its.toArray.any (eqU x)=its.any (eqU x) by simp,z3f r fs];exact q
theorem z5z:OpR X (cr .NotIn) (rIn X.K true):=by
 intro pins s σ H x y v u Q I rx ry h;obtain⟨p,xs,rfl,hq,fx,fs,q⟩:=h;cases ry;rcases hq with hq|hq
 ·obtain⟨its,r,pl,hz⟩:=I.list hq;refine SeqAt.notIn_listAt (eqU x) pl.isList (fun w hw=>z25 rx fx r fs w (by simpa using hw)) ⟨.bl _,H,I,rfl,?_⟩;rw[show its.toArray.any (eqU x)=its.any (eqU x) by simp,z3f r fs];exact q
 ·obtain⟨its,r,pl,hz⟩:=I.tuple hq;refine SeqAt.notIn_tupleAt (eqU x) pl (fun w hw=>z25 rx fx r fs w (by simpa using hw)) ⟨.bl _,H,I,rfl,?_⟩;rw[show its.toArray.any (eqU x)=its.any (eqU x) by simp,z3f r fs];exact q
theorem z5p:OpR X (cr .NotIn) (fun x y H Q=>∃i j,x=.str i/\y=.str j/\Q (.bl (!(!(cy j i 0 j.length 1).isEmpty))) H):=by intro pins s σ H x y v u Q I rx ry h;obtain⟨i,j,rfl,rfl,q⟩:=h;obtain⟨t,rfl⟩:=rx;obtain⟨t',rfl⟩:=ry;exact notIn_str ⟨.bl _,H,I,rfl,q⟩
theorem z5j:CallR X (.builtin "len") (fun xs H Q=>∃p ys,xs=[.ref p]/\(SqL X.K H p ys\/SqT X.K H p ys)/\Q (.int ys.length) H):=by
 intro pins s σ H xs us Q I r h;obtain⟨p,ys,rfl,hq,q⟩:=h;obtain⟨u,rfl,rx⟩:=vals1 r;cases rx;have hn:=z3h;rcases hq with hq|hq
 ·obtain⟨its,r',pl,hz⟩:=I.list hq;have hlen:=r'.length;exact Calls.call_len_list pl.isList (by simp only[ao]<;>omega) ⟨.int ys.length,H,I.tok _,⟨s.toks+1,by rw[ao,hlen]⟩,q⟩
 ·obtain⟨its,r',pl,hz⟩:=I.tuple hq;have hlen:=r'.length;exact len_tuple pl (by simp only[ao]<;>omega) ⟨.int ys.length,H,I.tok _,⟨s.toks+1,by rw[ao,hlen]⟩,q⟩
theorem z61:CallR X (.builtin "len") (fun xs H Q=>∃z,xs=[.str z]/\z.length<=az/\Q (.int z.length) H):=by intro pins s σ H xs us Q I r h;obtain⟨z,rfl,hz,q⟩:=h;obtain⟨u,rfl,t,rfl⟩:=vals1 r;have hn:=z3h;exact len_str (by omega) ⟨.int z.length,H,I.tok _,⟨_,rfl⟩,q⟩
theorem CallR.or {f:Value}{r r':List V->Hp->VK->Prop}(h:CallR X f r)(h':CallR X f r'):CallR X f (fun xs H Q=>r xs H Q\/r' xs H Q):=by
 intro pins s σ H xs us Q I rs q;rcases q with q|q
 ·exact h pins s σ H xs us Q I rs q
 ·exact h' pins s σ H xs us Q I rs q
def tyV (K:W.Frag)(T:String)(x:V)(H:Hp):Prop:=match x with
 |.str _=>T="str"
 |.int _=>T="int"
 |.ref p=>(T="list"/\∃xs,SqL K H p xs)\/(T="tuple"/\∃o,K.lookup p=some o/\o.cls=.type "tuple"/\o.dict=none)\/(T="dict"/\((∃kvs,H p=some (.dK kvs))\/∃kvs,H p=some (.dT kvs)))\/(T="set"/\∃S n,H p=some (.set S n))
 |_=>False
theorem zet {pins:List (Addr×Obj)}{σ:St}{H:Hp}{s:ae}{T:String}{x:V}{v:Value}(I:Inv X pins σ H s)(r:RelV x v)(ty:tyV X.K T x H):
  s.TypeIs v T/\∀a,v=.ref a->∃ob,s.heap.get? a=some ob/\ob.dict=none:=by
 cases x with
 |str z=>obtain⟨t,rfl⟩:=r;cases(show T="str"from ty);exact⟨n3 s z t,fun _ e=>nomatch e⟩
 |int i=>obtain⟨t,rfl⟩:=r;cases(show T="int"from ty);exact⟨typeIs_int s i t,fun _ e=>nomatch e⟩
 |ref p=>
  cases r;rcases ty with⟨rfl,xs,hq⟩|⟨rfl,o,hk,hc,hd⟩|⟨rfl,hk⟩|⟨rfl,S,n,hk⟩
  ·obtain⟨its,_,pl,_⟩:=I.list hq;refine⟨pl.isList.typeIs,fun a e=>?_⟩;cases e;obtain⟨o,n,e,c,hd,_⟩:=pl;exact⟨o,e,hd⟩
  ·refine⟨⟨o,I.kIn p o hk,hc⟩,fun a e=>?_⟩;cases e;exact⟨o,I.kIn _ o hk,hd⟩
  ·have z:∃o,s.heap.get? p=some o/\o.ExactDict:=by
    rcases hk with⟨kvs,hk⟩|⟨kvs,hk⟩
    ·obtain⟨_,_,_,_,o,_,_,e,ex,_⟩:=I.hok p _ hk;exact⟨o,e,ex⟩
    ·obtain⟨_,_,_,_,o,_,_,e,ex,_⟩:=I.hok p _ hk;exact⟨o,e,ex⟩
   obtain⟨o,e,ex⟩:=z;refine⟨⟨o,e,ex.1⟩,fun a e2=>?_⟩;cases e2;exact⟨o,e,ex.2.1⟩
  ·obtain⟨o,_,_,_,e,ex,_⟩:=I.hok p _ hk;refine⟨⟨o,e,ex.1⟩,fun a e2=>?_⟩;cases e2;exact⟨o,e,ex.2.1⟩
 |_=>exact False.elim ty
def tBM0 (K:W.Frag)(T:String)(r:V->List V->Hp->VK->Prop)(to:TE):TE:=fun σ H Q=>to σ H fun x H1=>tyV K T x H1/\r x [] H1 Q
def tBM (K:W.Frag)(T:String)(r:V->List V->Hp->VK->Prop)(to:TE)(t:TA):TE:=fun σ H Q=>to σ H fun x H1=>tyV K T x H1/\t σ H1 fun xs H2=>r x xs H2 Q
variable {o e:Expr}{es:List Expr}{to:TE}{t:TA}{name:Str}{apos cpos:Pos}{T id:String}{r:V->List V->Hp->VK->Prop}
theorem zfk (pa:sk T)(slot:Slot T name id)(hty:sr (.builtin id)=pure (.type "method_descriptor"))(hm:MtR X id r)(ho:PE X o to)
  (hbase:i5 o name X.env (eval o X.env)=eval o X.env:=by rfl) (hline:(apos.endLine==cpos.line)=true:=by rfl):PE X (.Call (.Attribute o name apos) [] [] cpos) (tBM0 X.K T r to):=by
 intro pins s σ H Q I h;refine wpAny_Call_method0_late hbase hline (thn (ho pins s σ H _ I h) fun v s1 ⟨x,H1,I1,r1,ty,q1⟩=>?_);obtain⟨h1,h2⟩:=zet I1 r1 ty;exact⟨T,id,pa,slot,hty,h1,h2,kz rfl (PySem.evalArgs_none (hm pins s1 σ H1 x [] v [] Q I1 r1 .nil q1))⟩
theorem z68 (pa:sk T)(slot:Slot T name id)(hty:sr (.builtin id)=pure (.type "method_descriptor"))(hm:MtR X id r)(ho:PE X o to)(ha:PA X (e::es) t)
  (hbase:i5 o name X.env (eval o X.env)=eval o X.env:=by rfl)
  (hfew:((i4 cpos (cu (e::es) X.env)).all (fun x=> !x.1)&&(m8 cpos (kn [] X.env)).all (fun x=>x.1.isSome)
   &&decide ((e::es).length+([]:List j4).length+(if([]:List j4).isEmpty then 0 else 1)<30))=true:=by rfl)
  (hline:(apos.endLine==cpos.line)=true:=by rfl) (hs:cu (e::es) X.env=(false,eval e X.env)::cu es X.env:=by rfl) (hplain:(i4 cpos (cu es X.env)).any (·.1)=false:=by rfl):
  PE X (.Call (.Attribute o name apos) (e::es) [] cpos) (tBM X.K T r to t):=by
 intro pins s σ H Q I h;refine wpAny_Call_method_late hbase hfew hline rfl (thn (ho pins s σ H _ I h) fun v s1 ⟨x,H1,I1,r1,ty,q1⟩=>?_);obtain⟨h1,h2⟩:=zet I1 r1 ty;refine⟨T,id,pa,slot,hty,h1,h2,?_⟩;have hA:=ha cpos pins s1 σ H1 _ I1 q1;rw[hs]at hA ⊢;refine kz (by show(false||(i4 cpos (cu es X.env)).any (·.1))=false;rw[hplain]<;>rfl) (lm ?_);exact thn hA fun us s2 ⟨vs,H2,I2,r2,q2⟩=>hm pins s2 σ H2 x vs v us Q I2 r1 r2 q2
end
def MtM (X:Cx)(id:String)(r:V->List V->Hp->VK->Prop):Prop:=∀(pins:List (Addr×Obj)) (s:ae) (σ:St) (H:Hp) (x:V) (xs:List V) (v:Value) (us:List Value) (Q:VK),Inv X pins σ H s->RelV x v->Vals xs us->r x xs H Q->wpAny (model X.prog X.w) X.A (call (.builtin id) (v::us)) (EP X pins σ Q) X.xe s
theorem Vals.one {x:V}{us:List Value}(h:Vals [x] us):∃u,us=[u]/\RelV x u:=by
 cases h with
 |cons r h=>cases h;exact⟨_,rfl,r⟩
theorem Vals.two {x y:V}{us:List Value}(h:Vals [x,y] us):∃u v,us=[u,v]/\RelV x u/\RelV y v:=by
 cases h with
 |cons r h=>cases h with
  |cons q h=>cases h;exact⟨_,_,rfl,r,q⟩
theorem Vals.zero:∀{us:List Value},Vals [] us->us=[]
 |_,.nil=>rfl
theorem Vals.eraseIdx:∀{xs:List V} {us:List Value} (i:Nat),Vals xs us->Vals (xs.eraseIdx i) (us.eraseIdx i)
 |_,_,_,.nil=>.nil
 |_,_,0,.cons _ t=>t
 |_,_,i+1,.cons r t=>.cons r (Vals.eraseIdx i t)
theorem z51 {α:Type}:∀(l:List α) (i:Nat),(l.eraseIdx i).length<=l.length
 | [],_=>aj _
 |_::_,0=>km _
 |_::r,i+1=>nc (z51 r i)
section
variable {X:Cx}{pins:List (Addr×Obj)}{σ:St}{H:Hp}{s:ae}{l b:Addr}{xs ys zs:List V}
theorem Inv.lset {its its':List Value}{n:Nat}{f:Array Value->Array Value}{t':Nat}(I:Inv X pins σ H s)(hH:H l=some (.lst xs))
  (e:s.heap.get? l=some {cls:=.type "list",data:=.seq its.toArray n}) (hf:f its.toArray=its'.toArray) (hv:Vals ys its') (hz:ys.length<=az):
  Inv X pins σ (upd H l (.lst ys)) {s with heap:=s.heap.update l (Obj.mapSeq f),toks:=t'}:=by
 have q:=PySem.IsL.update e f;rw[hf]at q;refine I.write (x:=l) (e:=l) (by rw[hH];exact trivial) (.inl rfl) (fun b' u hb hu=>(fk s.heap (Obj.mapSeq f) (Ne.symm hb)).trans hu) ⟨_,q⟩ ?_;exact⟨hz,its',_,hv,q⟩
theorem Inv.lnew {its:List Value}{t':Nat}(I:Inv X pins σ H s)(hv:Vals ys its)(hz:ys.length<=az):
  Inv X pins σ (upd H s.heap.objs.size (.lst ys)) {s with heap:=s.heap.push {cls:=.type "list",data:=.seq its.toArray},toks:=t'}:=
 I.laid (fun _ _ q=>af _ q) (aj _) ⟨hz,its,0,hv,ba _ rfl⟩
theorem Inv.fresh (I:Inv X pins σ H s):H s.heap.objs.size=none:=I.hok.fresh (aj _)
theorem Inv.lstM (I:Inv X pins σ H s)(hH:H l=some (.lst xs)):xs.length<=az/\∃(its:List Value) (n:Nat),Vals xs its/\xs.length=its.length/\s.heap.get? l=some {cls:=.type "list",data:=.seq its.toArray n}:=by obtain⟨z,its,n,r,e⟩:=I.hok l _ hH;exact⟨z,its,n,r,r.length,e⟩
end
section
variable {X:Cx}
def z6n:V->List V->Hp->VK->Prop:=fun x vs H Q=>∃l xs y,x=.ref l/\vs=[y]/\H l=some (.lst xs)/\xs.length<az/\Q .non (upd H l (.lst (xs++[y])))
theorem z35:MtM X "list.append" z6n:=by intro pins s σ H x vs v us Q I rx rv h;obtain⟨l,xs,y,rfl,rfl,hH,hz,q⟩:=h;cases rx;obtain⟨u,rfl,ru⟩:=rv.one;obtain⟨z,its,n,r,hl,e⟩:=I.lstM hH;refine ki F.slot_list_append ⟨_,e,rfl⟩ F.entry_list_append (F.args_list_append_2 _ _) (PySem.list_append l its.toArray n u (by rw[ao];omega)) ⟨e,?_⟩;refine⟨.non,_,I.lset (its':=its++[u]) hH e (by simp) (r.append (.cons ru .nil)) ?_,rfl,q⟩;rw[br,List.length_singleton];omega
def zlc:V->List V->Hp->VK->Prop:=fun x vs H Q=>∃l xs i k y,x=.ref l/\vs=[.int i]/\H l=some (.lst xs)/\-(2 ^ 63)<=i/\i<2 ^ 63/\qt i xs.length=some k/\xs[k]?=some y/\Q y (upd H l (.lst (xs.eraseIdx k)))
theorem zc4:MtM X "list.pop" zlc:=by
 intro pins s σ H x vs v us Q I rx rv h;obtain⟨l,xs,i,k,y,rfl,rfl,hH,h1,h2,hk,hy,q⟩:=h;cases rx;obtain⟨u,rfl,ru⟩:=rv.one;obtain⟨t,rfl⟩:=ru;obtain⟨z,its,n,r,hl,e⟩:=I.lstM hH;obtain⟨w,hw,rw'⟩:=r.get hy;refine ki F.slot_list_pop ⟨_,e,rfl⟩ F.entry_list_pop (F.args_list_pop_2 _ _) (MeetsSeq.list_pop_at l its.toArray n i t k w (fitsIndex_both h1 h2) (by rw[ao,<-hl];exact hk) (by rw[<-oh];exact hw) (by rw[ao];omega)) ⟨e,?_⟩;refine⟨y,_,I.lset (its':=its.eraseIdx k) hH e ?_ (r.eraseIdx k) ?_,rw',q⟩
 ·show its.toArray.eraseIdxIfInBounds k=(its.eraseIdx k).toArray;rw[List.eraseIdxIfInBounds_toArray]
 ·have :=z51 xs k;omega
def rCat:R2:=fun x y H Q=>∃l b xs zs,x=.ref l/\y=.ref b/\H l=some (.lst xs)/\H b=some (.lst zs)/\xs.length+zs.length<=az/\∀p,H p=none->Q (.ref p) (upd H p (.lst (xs++zs)))
theorem zn8:OpR X (gj .Add) rCat:=by
 intro pins s σ H x y v u Q I rx ry h;obtain⟨l,b,xs,zs,rfl,rfl,hH,hB,hz,q⟩:=h;cases rx;cases ry;obtain⟨z,its,n,r,hl,e⟩:=I.lstM hH;obtain⟨z2,its2,n2,r2,hl2,e2⟩:=I.lstM hB;refine PySem.P.add_list e e2 ?_ (by rw[ao,ao];omega);have ea:its.toArray++its2.toArray=(its++its2).toArray:=by simp
 rw[ea];exact⟨.ref _,_,I.lnew (t':=s.toks) (r.append r2) (by rw[br];omega),rfl,q _ I.fresh⟩
end
section
variable {prog:ax}{w:World}{A:cq}{E:Value->ae->Prop}{s:ae}
end
section
variable {X:Cx}
end
end L2
namespace Att
open PySem PySem.W PySem.Calls PyProof.Rows
theorem z30 {P:eu}{h:Heap}:∀(ns:List Int) (vs:List Value),WellAll P h vs (ns.map WData.int)->rj vs ns:=by
 intro ns
 induction ns with
 |nil=>intro vs w;rw[List.map_nil]at w;cases w;exact .nil
 |cons n ns ih=>
  intro vs w;rw[bn]at w;cases w with
  |cons a b=>cases a;exact .cons _ _ (ih _ b)
theorem z9y {l:OpenLaw}{n:Nat}(hn:l.most=some n){P:eu}{h:Heap}{args:List WData}{vals:List Value}
  (hpre:l.row.toRowW.claim.pre args=true) (hwl:WellAll P h vals args):
  ∃a vs ns,vals=[Value.ref a]/\args=[WData.list (ns.map WData.int)]/\h.get? a=some {cls:=.type "list",data:=.seq vs.toArray}/\rj vs ns/\ns.length<=n:=by
 have hsh:WShape.hasAll [] args [.list .int]=true:=(pre_splitW hpre).1;have hc:l.pre.holds [] {args:=args}=true:=(pre_splitW hpre).2;obtain⟨d,r,rfl,h1,h2⟩:=hasAllW_cons hsh;obtain rfl:=hasAllW_nil h2;obtain⟨xs,rfl,h3⟩:=hasW_list h1;obtain⟨ns,rfl⟩:=items_int h3
 have hlen:ns.length<=n:=by
  unfold OpenLaw.pre at hc;have h4:(WTm.not (.lt (.lit (.int (n:Int))) (.len (.arg 0)))).holds [] {args:=[.list (ns.map .int)]}=true:=by have h4:=(holds_andW hc).1;rw[hn]at h4;exact h4
  have h5:=condW_of h4 (w_not (w_lt w_lit (w_len_list (w_arg rfl))));rw[av]at h5;refine Nat.le_of_not_lt fun q=>?_;have q':(n:Int)<((ns.length:Nat):Int):=by omega
  first
   |(rw[tz q']at h5;exact absurd h5 (by decide))
   |(simp at h5;omega)
 cases hwl with
 |cons w1 w2=>
  cases w2;cases w1 with
  |list ho hall=>exact⟨_,_,ns,rfl,rfl,ho,z30 ns _ hall,hlen⟩
theorem z9n (l:OpenLaw)(args:List WData):l.row.toRowW.claim.post args (.bool true) args=true:=
 postW_of (r:=l.row.toRowW) (X:=(true==true))
  (show WShape.has [] (.bool true) .bool=true by first|rfl|decide|simp[WShape.has,WShape.arms,WShape.armsAll])
  (show(WTm.eq .res (.lit (.bool true))).value [] {args:=args,res:=some (.bool true),after:=args}=some (.bool (true==true))from w_eq_bool (w_res rfl) w_lit) rfl
theorem attach_call {l:OpenLaw}{n:Nat}{q:ax}{loose:List Str}{XP:(Str->Option Value)->Heap->Prop}{YP:World->Heap->Prop}{d:tf}
  (hn:l.most=some n) (hdf:d.params.defaults=[])
  (call:∀(w:World) (s₀ s₁:ae) (mg mb:Str->Option Value) (fa:Addr) (o:Obj) (pm cd doc:Value) (a:Addr) (vs:List Value) (ns:List Int),
   Ground q loose [] XP w s₀ mg mb s₁.heap->YP w s₁.heap->
   s₁.heap.get? fa=some o->o.data=.func (docDef d.name d.params d.body d.scope pm cd doc)->s₁.heap.CodeRec cd d.name->mg d.name=some (.ref fa)->
   s₁.heap.get? a=some {cls:=.type "list",data:=.seq vs.toArray}->rj vs ns->ns.length<=n->s₁.gens=#[]->
   ky (model l.prog w) ow (.call (.ref fa) ⟨[.ref a],[]⟩) (fun r s'=>r=.ok (.ret (.bool true))/\OldK s₁.heap s'.heap/\s'.os=s₁.os/\ly s'.gens) s₁):
  WalkO q loose XP YP l.row.toRowW d [] (fun f vs=>PySem.call f vs):=by
 intro w s₀ s₁ mg mb G Y fa o pm cd doc dV kV ho hd hcd hD hmg hg args vals as hpre hlay hrd hwl hlo;obtain rfl:dV=.none:=Dflts.none hD hdf;obtain rfl:kV=.none:=Dflts.noKw hD;obtain⟨a,vs,ns,rfl,rfl,hobj,hints,hlen⟩:=z9y hn hpre hwl;refine enter_call (jp (call w s₀ s₁ mg mb fa o pm cd doc a vs ns G Y ho (fd_plain hd) hcd hmg hobj hints hlen hg) fun r s' hq=>?_);obtain⟨rfl,h2,h3,h4⟩:=hq;exact⟨.inl ⟨.bool true,.bool true,[],rfl,fun _=>rfl,.bool true,z9n l _,fun _=>⟨List.Pairwise.nil,fun _ hm=>(nomatch hm)⟩⟩,h2,h3,h4⟩
section
variable {prog:ax}{w:World}{A:cq}{E:Value->ae->Prop}{s:ae}{K:Frag}
end
end Att
namespace L2
open PySem PySem.Spec PyProof.Rows
theorem z5h:∀{vs:List Value} {ns:List Int},rj vs ns->Vals (ns.map V.int) vs
 |_,_,.nil=>.nil
 |_,_,.cons n t h=>.cons ⟨t,rfl⟩ (z5h h)
def Only (H:Hp):Prop:=∀b,H b=none\/∃o xs,H b=some (.frz o (.lst xs))
theorem zd3 {P:ax}{w:World}{K:W.Frag}{mg mb:Str->Option Value}{CX:CXT}{k:Nat}{fa a:Addr}{fd:di}{x:Str}{sp:Sp}{s₁:ae}{vs:List Value}{ns:List Int}
  (KX:K.In s₁.heap) (hns:s₁.heap.Ns bh mg) (hb:s₁.heap.Ns rq mb) (hbb:∀x:Str,x≠"__name__"->mb x=cz x) (hlim:s₁.heap.NoLimit) (hg:s₁.gens=#[])
  (ha:s₁.heap.get? a=some {cls:=.type "list",data:=.seq vs.toArray}) (hi:rj vs ns) (hl:ns.length<=az) (hr:Room k ow)
  (F:∀base:Heap,K.In base->base.Ns bh mg->FnOk P w K mg base CX k fa fd [x] sp) (hbind:∀(s:ae) (u:Value),p9 s fd ⟨[u],[]⟩ [(x,u)])
  (hsp:∀H:Hp,Only H->SqL K H a (ns.map V.int)->sp [.ref a] H (fun v _=>v=.bl true) fun _ _ _=>False)
  (hCX:∀H e s',CX [] H s₁ (fun _ _ _=>False) e s'->False):
  ky (model P w) ow (.call (.ref fa) ⟨[.ref a],[]⟩) (fun r s'=>r=.ok (.ret (.bool true))/\OldK s₁.heap s'.heap/\s'.os=s₁.os/\ly s'.gens) s₁:=by
 have rv:=z5h hi;have lenV:=hi.length
 have core:∀H:Hp,Only H->SqL K H a (ns.map V.int)->HOk P w H s₁.heap->(∀b,H b≠none->b=a)->(H a≠none->K.lookup a=none)->
   ky (model P w) ow (.call (.ref fa) ⟨[.ref a],[]⟩) (fun r s'=>r=.ok (.ret (.bool true))/\OldK s₁.heap s'.heap/\s'.os=s₁.os/\ly s'.gens) s₁:=by
  intro H hO hS hok hA hK;have z10:∀{b:Addr} {o:Obj},s₁.heap.get? b=some o->H b=none->(hidT s₁.heap H).get? b=some o:=fun e n=>zeh e n
  have noA:∀{b:Addr} {o:Obj} {es:Array DictEntry} {ep:Nat},s₁.heap.get? b=some o->o.data=.dict es ep->H b=none:=fun{b o es ep} e d=>by
   cases q:H b with
   |none=>rfl
   |some u=>have e':b=a:=hA b (by rw[q];simp);subst e';rw[ha]at e;cases e;have d':Data.seq vs.toArray _=Data.dict es ep:=d;cases d'
  have nsK:∀{b:Addr} {m:Str->Option Value},s₁.heap.Ns b m->(hidT s₁.heap H).Ns b m:=fun{b m} ⟨o,es,ep,e,d,r⟩=>⟨o,es,ep,z10 e (noA e d),d,r⟩
  have hKb:K.In (hidT s₁.heap H):=fun b o e=>z10 (KX b o e) (by
   cases q:H b with
   |none=>rfl
   |some u=>have e':b=a:=hA b (by rw[q];simp);subst e';rw[hK (by rw[q];simp)]at e;cases e)
  have hM:Mod K mg (hidT s₁.heap H):=⟨hKb,nsK hns,⟨mb,nsK hb,hbb⟩,let⟨mc,h1,h2⟩:=hlim;⟨mc,nsK h1,h2⟩⟩;have e0:Env0 P w K mg (hidT s₁.heap H) ow [] s₁ H:=⟨rfl,hM,fun b o e=>zib e,Nat.le_of_eq (zat _ _),trivial,fun b hb=>absurd (show b∈([]:List Addr)from hb) (by simp),hok,.of_eq hg⟩;refine jp ((F _ hKb (nsK hns)).run ow [] s₁ H ⟨[.ref a],[]⟩ [.ref a] [.ref a] _ _ hr e0 (hbind s₁ (.ref a)) (.cons rfl .nil) (hsp H hO hS)) fun r s' h=>?_;cases r with
  |error e=>exact(hCX H e s' h).elim
  |ok fl=>
   cases fl with
   |next=>exact False.elim h
   |brk=>exact False.elim h
   |cont=>exact False.elim h
   |ret u=>
    obtain⟨v,H',os,bare,un,hok',r',q⟩:=h;have q':v=.bl true:=q;subst q';obtain rfl:u=Value.bool true:=r';refine⟨rfl,OldK.of_keep fun b o e=>?_,os,bare⟩;cases q:H b with
    |none=>exact un.keep b o e q (by intro z;exact absurd (show b∈([]:List Addr)from z) (by simp)) (by simp)
    |some u=>
     rcases hO b with z|⟨ob,xs,z⟩
     ·rw[q]at z;cases z
     ·have z2:=un.frzs b ob _ z;obtain⟨e1,_⟩:=hok b _ z;obtain⟨e2,_⟩:=hok' b _ z2;rw[e]at e1;cases e1;exact e2
 cases hk:K.lookup a with
 |some o=>have e:=KX a o hk;rw[ha]at e;cases e;refine core (fun _=>none) (fun _=>.inl rfl) (.inr ⟨_,vs.toArray,_,hk,rfl,rfl,rfl,by rw[ao,lenV];exact hl,by simpa using rv⟩) (fun b u z=>by have z':(none:Option HO)=some u:=z;cases z') (fun b z=>absurd rfl z) fun z=>absurd rfl z
 |none=>
  refine core (fun b=>if b=a then some (.frz {cls:=.type "list",data:=.seq vs.toArray} (.lst (ns.map V.int)))else none) (fun b=>?_) (.inl (.inr ⟨{cls:=.type "list",data:=.seq vs.toArray},if_pos rfl⟩)) (fun b u z=>?_) (fun b z=>?_) fun _=>hk
  ·by_cases hb:b=a
   ·exact .inr ⟨_,_,if_pos hb⟩
   ·exact .inl (if_neg hb)
  ·by_cases hb:b=a
   ·have z':=(if_pos hb).symm.trans z;cases z';subst hb;exact⟨ha,by rw[av];exact hl,vs,_,rv,ha⟩
   ·have z':=(if_neg hb).symm.trans z;cases z'
  ·by_cases hb:b=a
   ·exact hb
   ·exact absurd (if_neg hb) z
theorem walk_of {l:W.OpenLaw}{n k:Nat}{q:ax}{loose:List Str}{XP:(Str->Option Value)->Heap->Prop}{YP:World->Heap->Prop}{d:tf}{K:eu->W.Frag}{CX:World->CXT}{sp:World->Sp}{x:Str}
  (hn:l.most=some n) (hn2:n<=az) (hdf:d.params.defaults=[]) (hr:Room k ow)
  (hY:∀(w:World) (h:Heap),YP w h->(K w.params).In h)
  (F:∀(w:World) (mg:Str->Option Value) (fa:Addr) (h:Heap),(K w.params).In h->h.Ns bh mg->mg d.name=some (.ref fa)->∃fd:di,(∀(s:ae) (u:Value),p9 s fd ⟨[u],[]⟩ [(x,u)])/\∀base:Heap,(K w.params).In base->base.Ns bh mg->FnOk l.prog w (K w.params) mg base (CX w) k fa fd [x] (sp w))
  (hsp:∀(w:World) (H:Hp) (a:Addr) (ns:List Int),ns.length<=n->Only H->SqL (K w.params) H a (ns.map V.int)->sp w [.ref a] H (fun v _=>v=.bl true) fun _ _ _=>False)
  (hCX:∀(w:World) (H:Hp) (s:ae) (e:Value) (s':ae),CX w [] H s (fun _ _ _=>False) e s'->False):
  W.WalkO q loose XP YP l.row.toRowW d [] (fun f vs=>PySem.call f vs):=by
 refine Att.attach_call hn hdf fun w s₀ s₁ mg mb fa o pm cd doc a vs ns G Y ho hd hcd hmg hobj hints hlen hg=>?_;have KX:=hY w _ Y;obtain⟨fd,hb,hF⟩:=F w mg fa _ KX G.T.g hmg;exact zd3 KX G.T.g G.T.b G.T.builtins G.T.nolimit hg hobj hints (bw hlen hn2) hr hF hb (fun H hO hS=>hsp w H a ns hlen hO hS) fun H e s'=>hCX w H s₁ e s'
def z11 (s:Stmt):Arguments:=match s with
 |.FunctionDef _ a _ _ _ _ _ _ _ _=>a
 |_=>{posonlyargs:=[],args:=[],vararg:=none,kwonlyargs:=[],kw_defaults:=[],kwarg:=none,defaults:=[]}
def z08 (s:Stmt):List Stmt:=match s with
 |.FunctionDef _ _ b _ _ _ _ _ _ _=>b
 |_=>[]
def z07 (s:Stmt):Scope:=match s with
 |.FunctionDef _ _ _ _ _ _ sc _ _ _=>sc
 |_=>{kind:=.function,names:=[],isGenerator:=false,isCoroutine:=false}
abbrev CX0:CXT:=fun _ _ _ _ _ _=>False
abbrev E0:XK:=fun _ _ _=>False
theorem zq4 {X:Cx}:z2b CX0 X E0:=fun _ _ _ _ _ _ _ h=>h.elim
structure Fun (K:W.Frag)(x qual:Str)(st:Stmt)(f:Addr)(fd:di):Prop where
 ex:∃(oc:Value) (od:Option Addr) (kV doc pm:Value) (an:Option Addr) (cdv ct:Value) (osl:Array (Option Value)),fd=W.fnOf x qual (z11 st) (z08 st) (z07 st) .none kV doc pm an cdv ct/\K.lookup f=some ⟨oc,od,.func fd,osl⟩/\W.codeIn K cdv qual=true
 kp:W.keepIn K (.ref f)=true
section
variable {P:ax}{w:World}{K:W.Frag}{mg:Str->Option Value}{base:Heap}
theorem Fun.ok {x qual:Str}{st:Stmt}{f:Addr}{fd:di}{N ps:List Str}{k:Nat}{sp:Sp}(F:Fun K x qual st f fd)(S:FnScope N ps (z07 st))(len:∀vs H Q E,sp vs H Q E->vs.length=ps.length)
  (hbody:∀(cdv:Value) (A:cq) (outer:List Env) (s:ae) (H:Hp) (vs:List V) (Q:VK) (E:XK),Room k (A.deeper (on qual (z07 st) s.heap.objs.size f cdv))->sp vs H Q E->∃t,PSs (cxOf CX0 P w K mg base N qual (z07 st) f cdv A outer s H E).nox (z08 st) t/\t {nx:=fun _ H'=>Q .non H',rt:=Q} (start N vs) H):FnOk P w K mg base CX0 (k+1) f fd ps sp:=by
 obtain⟨oc,od,kV,doc,pm,an,cdv,ct,osl,rfl,lk,hcd⟩:=F.ex;refine zgt lk hcd S len fun A outer s H vs Q E hr hsp=>?_;obtain⟨t,h,q⟩:=hbody cdv A outer s H vs Q E hr hsp;exact⟨t,h.nox,q⟩
theorem Fun.binds {x qual:Str}{st:Stmt}{f:Addr}{fd:di}{ps:List Str}(F:Fun K x qual st f fd)
  (h:∀(kV doc pm:Value) (an:Option Addr) (cdv ct:Value) (us:List Value),us.length=ps.length->si (W.fnOf x qual (z11 st) (z08 st) (z07 st) .none kV doc pm an cdv ct) ⟨us,[]⟩=pure (ps.zip us)):Binds K fd ps []:=by
 obtain⟨oc,od,kV,doc,pm,an,cdv,ct,osl,rfl,lk,hcd⟩:=F.ex;exact .all (h kV doc pm an cdv ct)
theorem z9w {x qual:Str}{st:Stmt}{f:Addr}{oc:Value}{od an:Option Addr}{osl:Array (Option Value)}{kV doc pm cdv ct:Value}(l:K.lookup f=some ⟨oc,od,.func (W.fnOf x qual (z11 st) (z08 st) (z07 st) .none kV doc pm an cdv ct),osl⟩) (c:W.codeIn K cdv qual=true) (k:W.keepIn K (.ref f)=true):Fun K x qual st f (W.fnOf x qual (z11 st) (z08 st) (z07 st) .none kV doc pm an cdv ct):=⟨⟨oc,od,kV,doc,pm,an,cdv,ct,osl,rfl,l,c⟩,k⟩
end
section
variable {X:Cx}
end
theorem iteF {A B:Prop}(h:B):if false=true then A else B:=by rw[if_neg cw];exact h
theorem iteT {A B:Prop}(h:A):if true=true then A else B:=by rw[if_pos rfl];exact h
def Same (H H':Hp):Prop:=∀b o,H b=some o->H' b=some o
theorem Same.refl (H:Hp):Same H H:=fun _ _ h=>h
theorem Same.trans {H H1 H2:Hp}(a:Same H H1)(b:Same H1 H2):Same H H2:=fun c o h=>b c o (a c o h)
theorem Same.free {H H':Hp}(e:Same H H'){l:Addr}(h:H' l=Option.none):H l=Option.none:=by
 cases q:H l with
 |none=>rfl
 |some o=>rw[e l o q]at h;cases h
theorem Same.seq {K:W.Frag}{H H':Hp}{a:Addr}{xs:List V}(e:Same H H')(h:SqL K H a xs):SqL K H' a xs:=by
 rcases h with(h|⟨o,h⟩)|h
 ·exact .inl (.inl (e _ _ h))
 ·exact .inl (.inr ⟨o,e _ _ h⟩)
 ·exact .inr h
section
variable {X:Cx}
theorem zal:CallR X (.builtin "len") (fun xs H Q=>∃a kvs,xs=[V.ref a]/\H a=some (.dK kvs)/\Q (.int kvs.length) H):=by intro pins s σ H xs us Q I r h;obtain⟨a,kvs,rfl,ha,q⟩:=h;obtain⟨u,rfl,ru⟩:=vals1 r;cases ru;exact zpx I (.inl ha) fun t s' I'=>⟨.int kvs.length,H,I',⟨t,rfl⟩,q⟩
end
section
variable {κ:Type} [DecidableEq κ]
end
end L2
set_option maxHeartbeats 5000000
namespace L2
open PySem PySem.Spec PyProof.Rows
def clOf (env:Env):List (Str×fj)->List (Str×Addr)->List (Str×Addr)
 | [],cs=>cs
 |(n,k)::r,cs=>clOf env r (if(k==.free)=true then(n,(env.cells.lookup n).getD 0)::cs else cs)
theorem z7l {env:Env}{x:Str}:∀(l:List (Str×fj)) (cs:List (Str×Addr)),(∃c,cs.lookup x=some c)->∃c,(clOf env l cs).lookup x=some c
 | [],cs,h=>h
 |(n,k)::r,cs,h=>by
  unfold clOf;refine z7l r _ ?_;split
  ·by_cases e:(x==n)=true
   ·exact⟨_,by rw[cx,e]⟩
   ·obtain⟨c,hc⟩:=h;exact⟨c,by rw[cx,qe.mpr e];exact hc⟩
  ·exact h
theorem z3g {env:Env}{x:Str}:∀(l:List (Str×fj)) (cs:List (Str×Addr)),l.lookup x=some .free->∃c,(clOf env l cs).lookup x=some c
 | [],cs,h=>by simp at h
 |(n,k)::r,cs,h=>by
  rw[cx]at h;unfold clOf;cases e:(x==n)with
  |true=>rw[e]at h;have hk:k=.free:=Option.some.inj h;subst hk;exact z7l r _ ⟨_,by rw[if_pos (by rfl),cx,e]⟩
  |false=>rw[e]at h;exact z3g r _ h
theorem zay {env:Env}:∀(l:List (Str×fj)) (cs:List (Str×Addr)),(∀y∈l,y.2=.free->∃c,env.cells.lookup y.1=some c)->(∀x c,cs.lookup x=some c->env.cells.lookup x=some c)->
  ∀x c,(clOf env l cs).lookup x=some c->env.cells.lookup x=some c
 | [],cs,_,h=>h
 |(n,k)::r,cs,hl,h=>by
  unfold clOf;refine zay r _ (fun y hy=>hl y (ah _ hy)) fun x c hx=>?_;by_cases hk:(k==NameKind.free)=true
  ·rw[if_pos hk,cx]at hx;cases e:(x==n)with
   |true=>
    rw[e]at hx;have hxn:x=n:=by simpa using e
    obtain⟨d,hd⟩:=hl (n,k) ai (by simpa using hk);have hd':env.cells.lookup n=some d:=hd;rw[hd']at hx;rw[hxn,hd'];exact hx
   |false=>rw[e]at hx;exact h x c hx
  ·rw[if_neg hk]at hx;exact h x c hx
theorem z2a {env:Env}{scope:Scope}(h:∀y∈scope.names,y.2=.free->∃c,env.cells.lookup y.1=some c):closureFor scope env=pure (clOf env scope.names []):=by
 have go:∀(l:List (Str×fj)) (cs:List (Str×Addr)),(∀y∈l,y.2=.free->∃c,env.cells.lookup y.1=some c)->
   (forIn l cs fun(x:Str×fj) (r:List (Str×Addr))=>if(x.2==NameKind.free)=true then(do let a <-cellOf env x.1;pure (ForInStep.yield ((x.1,a)::r)):Sem _)else pure (ForInStep.yield r))=(pure (clOf env l cs):Sem _):=by
  intro l
  induction l with
  |nil=>intro cs _;rfl
  |cons y r ih=>
   intro cs hl;obtain⟨n,k⟩:=y;rw[j5];unfold clOf;by_cases hk:(k==NameKind.free)=true
   ·obtain⟨c,hc⟩:=hl (n,k) ai (by simpa using hk);have hc':env.cells.lookup n=some c:=hc;have e:cellOf env n=pure c:=by unfold cellOf;rw[hc']
    rw[if_pos hk,if_pos hk]
    dsimp only
    rw[e,hc'];exact ih ((n,c)::cs) fun y hy=>hl y (ah _ hy)
   ·rw[if_neg hk,if_neg hk];exact ih cs fun y hy=>hl y (ah _ hy)
 unfold closureFor;have:=go scope.names [] h
 first
  |exact this
  |(show(forIn scope.names [] _>>=fun r=>pure r)=_;rw[show(forIn scope.names ([]:List (Str×Addr)) _:Sem _)=_ from this];rfl)
theorem z95 {scope:Scope}{env:Env}(hc:∀y∈scope.names,y.2≠.cell){x:Str}:
  (tq scope env).names.lookup x=some .cell\/(tq scope env).names.lookup x=some .free->scope.names.lookup x=some .free:=by
 have go:∀(l:List (Str×fj)),(∀y∈l,y.2≠ .cell)->∀k,(k=NameKind.cell\/k=NameKind.free)->
   (l.map fun(n,k)=>if(k==.free&&env.scope.kind==.function&&env.kindOf n==some .cell)then(n,NameKind.cell)else(n,k)).lookup x=some k->l.lookup x=some .free:=by
  intro l
  induction l with
  |nil=>intro _ k _ h;simp at h
  |cons y r ih=>
   intro hl k hk h;obtain⟨n,q⟩:=y;rw[bn]at h;rw[cx];by_cases c:(q==NameKind.free&&env.scope.kind==.function&&env.kindOf n==some .cell)=true
   ·have hq:q=.free:=by
     simp only[aq]at c;simpa using c.1.1
    dsimp only at h
    rw[if_pos c,cx]at h;cases e:(x==n)with
    |true=>rw[hq]
    |false=>rw[e]at h;exact ih (fun y hy=>hl y (ah _ hy)) k hk h
   ·dsimp only at h
    rw[if_neg c,cx]at h;cases e:(x==n)with
    |true=>
     rw[e]at h;have hq:q=k:=Option.some.inj h;rcases hk with hk|hk
     ·exact absurd (hq.trans hk) (hl (n,q) ai)
     ·show some q=some .free;rw[hq,hk]
    |false=>rw[e]at h;exact ih (fun y hy=>hl y (ah _ hy)) k hk h
 rintro(h|h)
 ·exact go scope.names hc .cell (.inl rfl) h
 ·exact go scope.names hc .free (.inr rfl) h
def blk (X:Cx)(scope:Scope)(N':List Str)(C:Addr)(fp:List Addr)(s:ae)(H:Hp):Cx:={X with N:=N',s₀:=s,H₀:=H,env:=compEnvC scope (clOf X.env scope.names []) C X.env,outer:=X.stack,stack:=X.stack,ex:=fp,fn:=fun _=>false,xe:=fun _ _=>False,fx:=none}
structure BlkScope (X:Cx)(scope:Scope)(N':List Str)(nt:Nat)(js:List Nat):Prop where
 kind:scope.kind=.function
 nocell:∀y∈scope.names,y.2≠.cell
 names:∀y∈scope.names,y.2=.local->scope.names.lookup y.1=some .local
 frees:∀y∈scope.names,y.2=.free->X.env.scope.names.lookup y.1=some .cell\/X.env.scope.names.lookup y.1=some .free
 nd:N'.Nodup
 len:N'.length=nt+js.length
 pl:∀(i j:Nat),js[i]?=some j->N'[nt+i]?=X.N[j]?/\∃x,X.N[j]?=some x/\scope.names.lookup x=some .free
def blkB (NX:List Str)(sc0 scope:Scope)(N':List Str)(nt:Nat)(js:List Nat):Bool:=
 (scope.kind==.function)&&scope.names.all (fun y=>!(y.2==.cell))&&scope.names.all (fun y=>!(y.2==.local)||(scope.names.lookup y.1==some .local))&&
 scope.names.all (fun y=>!(y.2==.free)||(sc0.names.lookup y.1==some .cell)||(sc0.names.lookup y.1==some .free))&&decide N'.Nodup&&(N'.length==nt+js.length)&&
 (N'.drop nt==js.map fun j=>NX.getD j "")&&js.all (fun j=>decide (j<NX.length)&&(scope.names.lookup (NX.getD j "")==some .free))
theorem zju {X:Cx}{NX:List Str}{sc0 scope:Scope}{N':List Str}{nt:Nat}{js:List Nat}(hN:X.N=NX)(hs:X.env.scope=sc0)(h:blkB NX sc0 scope N' nt js=true):BlkScope X scope N' nt js:=by
 unfold blkB at h;simp only[aq,bp,decide_eq_true_eq,beq_iff_eq,n9,qf,beq_eq_false_iff_ne]at h;obtain⟨⟨⟨⟨⟨⟨⟨h1,h2⟩,h3⟩,h4⟩,h5⟩,h6⟩,h7⟩,h8⟩:=h;refine⟨h1,h2,fun y hy e=>(h3 y hy).resolve_left (fun z=>z e),fun y hy e=>?_,h5,h6,fun i j hj=>?_⟩
 ·rw[hs];rcases h4 y hy with(z|z)|z
  ·exact absurd e z
  ·exact .inl z
  ·exact .inr z
 ·obtain⟨a,b⟩:=h8 j (du hj);have e:X.N[j]?=some (NX.getD j ""):=by rw[hN,bg a,am,bg a];rfl
  refine⟨?_,_,e,b⟩;rw[e,<-List.getElem?_drop,h7,bu,hj];rfl
def emb (nt:Nat)(js:List Nat)(σ:St):St:=bj nt none++js.map fun j=>σ.getD j none
section
variable {X:Cx}{scope:Scope}{N':List Str}{nt:Nat}{js:List Nat}
theorem zgw {pins:List (Addr×Obj)}{σ:St}{H:Hp}{s:ae}{fp:List Addr}{h1:Heap}{m1:Str->Option Value}{t1:Nat}(B:BlkScope X scope N' nt js)(I:Inv X pins σ H s)
  (hfp:∀b∈fp,FpOk X pins H b) (hob:∀b∈fp,∃o,s.heap.get? b=some o)
  (k:∀b o,s.heap.get? b=some o->h1.get? b=some o) (hn:h1.Ns s.heap.objs.size m1):
  Inv (blk X scope N' s.heap.objs.size fp s H) pins (emb nt js σ) H {s with heap:=h1,toks:=t1}:=by
 have hcs:∀y∈scope.names,y.2=.free->∃c,X.env.cells.lookup y.1=some c:=fun y hy hf=>I.ok.has y.1 (B.frees y hy hf);have hcl:∀x c,(clOf X.env scope.names []).lookup x=some c->X.env.cells.lookup x=some c:=zay _ _ hcs (fun x c h=>by simp at h);have lt:∀b o,s.heap.get? b=some o->b≠s.heap.objs.size:=fun b o e=>cg (bc e);have hf:H s.heap.objs.size=none:=I.hok.fresh (aj _);refine⟨⟨I.ok.mod,B.kind,I.ok.glob,I.ok.blt,aj _,fun x y c h1 h2=>I.ok.inj x y c (hcl x c h1) (hcl y c h2),fun x hx=>z3g _ _ (z95 B.nocell hx),fun x c h=>(by cases h),I.ok.hd,I.ok.frames,.inl rfl,fun b hb=>?_,I.bs,bw I.ok.bsz I.sz,fun b o e hb=>?_,fun b hb hx=>?_,I.stack,I.stkFree,fun _ _ z=>by cases z⟩,rfl,I.bare,Un.kept k,⟨m1,hn,fun i x v e1 e2 e3=>?_⟩,fun x c e=>?_,hf,fun x c e=>I.freeC x c (hcl x c e),fun p hp=>?_,I.hok.kept k,?_,fun _ _ z=>by cases z⟩
 ·obtain⟨o,ho⟩:=hob b hb;exact⟨lt b o ho,fun x c h=>(hfp b hb).2.2.2.2.1 x c (hcl x c h)⟩
 ·rcases(hfp b hb).2.2.2.1 with z|z
  ·exact I.ok.noex b o e z
  ·exact absurd (bv (bc e) (bw I.ok.bsz z)) (de _)
 ·rcases ak.mp (I.stkSub b hx)with z|z
  ·exact(hfp b hb).2.1 z
  ·exact(hfp b hb).2.2.1 z
 ·--a name with a value:one of the frame's
  have hi:nt<=i:=by refine Nat.le_of_not_lt fun h=>?_;unfold emb at e2;rw[ij (by rw[cn];exact h),cj,if_pos h]at e2;cases e2
  unfold emb at e2;rw[gu (by rw[cn];exact hi),cn,bu]at e2;cases ej:js[i-nt]? with
  |none=>rw[ej]at e2;cases e2
  |some j=>
   rw[ej]at e2;have e2':σ.getD j none=some v:=Option.some.inj e2;obtain⟨h1',y,hy,hfree⟩:=B.pl (i-nt) j ej;rw[oy hi]at h1';have exy:x=y:=by have e1':N'[i]?=some x:=e1;rw[h1',hy]at e1';exact(Option.some.inj e1').symm
   subst exy
   have hσ:σ[j]?=some (some v):=by
    rw[am]at e2';cases q:σ[j]? with
    |none=>rw[q]at e2';cases e2'
    |some z=>rw[q]at e2';exact congrArg some e2'
   have hfr:=B.frees (x,.free) (PySem.mem_of_lookup hfree) rfl;have hvis:Vis X.env.scope x:=hfr.elim (fun z=>.inr (.inl z)) (fun z=>.inr (.inr z));obtain⟨m,hnm,hl⟩:=I.loc;obtain⟨u,r,l⟩:=hl j x v hy hσ hvis;refine⟨u,r,?_⟩;rcases l with⟨hk,_⟩|⟨hk,c,hc,hcell⟩
   ·rcases hfr with z|z
    ·have hk':X.env.scope.names.lookup x=some .local:=hk;rw[z]at hk';cases hk'
    ·have hk':X.env.scope.names.lookup x=some .local:=hk;rw[z]at hk';cases hk'
   ·obtain⟨d,hd⟩:=z3g (env:=X.env) scope.names [] hfree;have hdc:d=c:=by have:=hcl x d hd;rw[hc]at this;cases this;rfl
    subst hdc;refine .inr ⟨?_,d,hd,?_⟩
    ·rcases e3 with z|z|z
     ·exfalso;have z':(tq scope X.env).names.lookup x=some .local:=z
      have:∀(l:List (Str×fj)),l.lookup x=some .free->(l.map fun(n,k)=>if(k==.free&&X.env.scope.kind==.function&&X.env.kindOf n==some .cell)then(n,NameKind.cell)else(n,k)).lookup x≠some .local:=by
       intro l
       induction l with
       |nil=>intro h;simp at h
       |cons y r ih=>
        intro h;obtain⟨n,q⟩:=y;rw[cx]at h;rw[bn]
        dsimp only
        cases e:(x==n)with
        |true=>
         rw[e]at h;have hq:q=.free:=Option.some.inj h;subst hq;split
         ·rw[cx,e];intro z;cases z
         ·rw[cx,e];intro z;cases z
        |false=>
         rw[e]at h;split
         ·rw[cx,e];exact ih h
         ·rw[cx,e];exact ih h
      exact this _ hfree z'
     ·exact .inl z
     ·exact .inr z
    ·obtain⟨o,ho,hd'⟩:=hcell;exact⟨o,k _ _ ho,hd'⟩
 ·obtain⟨v,o,ho,hd⟩:=I.cell x c (hcl x c e);exact⟨v,o,k _ _ ho,hd⟩
 ·obtain⟨q1,q2,q3,q4,q5⟩:=I.pin p hp;refine⟨k _ _ q1,q2,lt _ _ q1,fun z=>?_,q5⟩;rcases ak.mp (I.stkSub p.1 z)with z|z
  ·exact q3 z
  ·exact q4 z
 ·show(emb nt js σ).length=N'.length;unfold emb;rw[br,cn,av,B.len]
end
section
variable (M:Model)(A:cq)(env:Env)
abbrev calmX:Value->ae->Prop:=fun _ _=>False
def zoj (acc:Value)(Z:ae->Prop)(x:Value):ae->Prop:=wpAny M A (call (.builtin "list.append") [acc,x]) (fun _=>Z) calmX
def cElt (elt:Expr)(acc:Value)(Z:ae->Prop)(ok:Bool)(s:ae):Prop:=if ok=true then wpAny M A (eval elt env) (zoj M A acc Z) calmX s else Z s
def zqd (ifs:List Expr)(elt:Expr)(acc:Value)(Z:ae->Prop):ae->Prop:=wpAny M A (forIn ifs true fun c r=>if r=true then(oj c env (eval c env)>>=fun ok=>pure (ForInStep.yield ok))else pure (ForInStep.yield r)) (cElt M A env elt acc Z) calmX
def cPut (tg:Expr)(ifs:List Expr)(elt:Expr)(acc:Value)(Z:ae->Prop)(v:Value):ae->Prop:=wpAny M A (nk tg env v) (fun _=>zqd M A env ifs elt acc Z) calmX
def cVal (tg:Expr)(ifs:List Expr)(elt:Expr)(it acc:Value)(End Z:ae->Prop)(r:Option Value)(s:ae):Prop:=match r with
 |some v=>wpAny M A (ip tg it v) (fun _=>cPut M A env tg ifs elt acc Z v) calmX s
 |none=>End s
end
theorem zhi {P:ax}{w:World}{A:cq}{R:qr->ae->Prop}{s:ae}{elt tg iter:Expr}{ifs:List Expr}{scope:Scope}{pos:Pos}{it acc:Value}{env:Env}(I:Nat->ae->Prop)
  (one:∀k t,I k t->wpAny (model P w) A (qp it) (cVal (model P w) A env tg ifs elt it acc (R (.ok .next)) fun t'=>∃m,m<k/\I m t') calmX t) (n:Nat) (h:I n s):
  ky (model P w) A (.compLoop (.ListComp elt [⟨tg,iter,ifs,0⟩] scope pos) 0 it acc env) R s:=by
 apply codeAny_loop rfl I _ n h;intro k t hk;apply wpAny_noted;apply wpAny_noRaise;rw[compTurn_list];apply aa;apply jf;apply aa;refine thn (one k t hk) ?_
 rintro(_|v) t1 h1
 ·exact au h1
 apply aa;refine thn (show wpAny _ _ _ _ _ _ from h1) fun _ t2 h2=>?_;apply aa;refine thn (show wpAny _ _ _ _ _ _ from h2) fun _ t3 h3=>?_;apply aa;refine thn (show wpAny _ _ _ _ _ _ from h3) ?_
 rintro(_|_) t4 h4
 ·exact au ⟨rfl,h4⟩
 apply aa;apply aa;refine thn (show wpAny _ _ _ _ _ _ from h4) fun x t5 h5=>?_;apply aa;refine thn (show wpAny _ _ _ _ _ _ from h5) fun _ t6 h6=>?_;exact au (au ⟨rfl,h6⟩)
theorem Un.but {fs ex:List Addr}{H H1:Hp}{h h1 h':Heap}{C:Addr}(u:Un fs ex H H1 h h1)(hC:h.get? C=none)(sb:b9 C h1 h'):Un fs ex H H1 h h':=by
 have ne:∀b o,h.get? b=some o->b≠C:=fun b o e z=>by rw[z,hC]at e;cases e
 exact⟨fun b o e n hb hx=>sb.extBut b o (ne b o e) (u.keep b o e n hb hx),fun b o e n hb hx=>let⟨sl,q⟩:=u.slot b o e n hb hx;⟨sl,sb.extBut b _ (ne b o e) q⟩,u.free,fun b o e hx=>let⟨o',q⟩:=u.there b o e hx;⟨o',sb.extBut b _ (ne b o e) q⟩,u.tups,u.frzs,u.tbls⟩
theorem HOk.but {P:ax}{w:World}{H:Hp}{h h':Heap}{C:Addr}(ok:HOk P w H h)(hC:H C=none)(sb:b9 C h h'):HOk P w H h':=fun a o e=>by
 refine(ok a o e).stay (fun b u hb q=>sb.extBut b u (fun z=>?_) q) (fun _ q=>q) fun _ _ q=>q;rcases hb with hb|hb
 ·rw[z]at hb;rw[<-hb,hC]at e;cases e
 ·rw[z,hC]at hb;cases hb
def PTs (X:Cx)(ifs:List Expr)(t:TT):Prop:=∀(pins:List (Addr×Obj)) (s:ae) (σ:St) (H:Hp) (Q:Bool->Hp->Prop),Inv X pins σ H s->t σ H Q->wpAny (model X.prog X.w) X.A (forIn ifs true fun c r=>if r=true then do let ok <-oj c X.env (eval c X.env);pure (ForInStep.yield ok)else pure (ForInStep.yield r)) (TP X pins σ Q) X.xe s
def tYes:TT:=fun _ H Q=>Q true H
theorem zj3 {X:Cx}:PTs X [] tYes:=fun _ _ _ H _ I h=>wpAny_tests_nil ⟨H,I,h⟩
theorem zfx {X:Cx}{c:Expr}{t:TT}(h:PT X c t):PTs X [c] t:=fun pins s σ H Q I q=>wpAny_tests_one (h pins s σ H Q I q)
def Keep (a b:St):Prop:=a.length=b.length/\∀(i:Nat) v,a[i]?=some (some v)->b[i]?=some (some v)
theorem Keep.refl (a:St):Keep a a:=⟨rfl,fun _ _ h=>h⟩
def tLC (wi:TI)(g:TG)(tc:TT)(te:TE)(em:St->St):TE:=fun σ H Q=>wi σ H fun J H1=>∀l,H1 l=none->∃P:Nat->Nat->List V->Hp->Prop,(∃m,P 0 m [] (upd H1 l (.lst [])))/\∀i m acc H2,P i m acc H2->(J.stop i H2/\Q (.ref l) H2)\/(J.go i H2/\acc.length<az/\∃N:List V->Hp->Prop,(∀acc' H',N acc' H'->∃m',m'<m/\P (i+1) m' acc' H')/\∀x H3,J.yld i H2 x H3->g x (em σ) H3 fun σ4 H4=>Keep (em σ) σ4/\tc σ4 H4 fun b H5=>if b=true then te σ4 H5 fun y H6=>H6 l=some (.lst acc)/\N (acc++[y]) (upd H6 l (.lst (acc++[y])))else N acc H5)
section
variable {X:Cx}{scope:Scope}{N':List Str}{nt:Nat}{js:List Nat}{tg iter elt:Expr}{ifs:List Expr}{wi:TI}{g:TG}{tc:TT}{te:TE}{pos:Pos}
theorem z3r {pins:List (Addr×Obj)}{σ:St}{s2:ae}{Q:VK}{itv:Value}{E:Value->ae->Prop}{RR:Value->Addr->qr->ae->Prop}(hc:X.calm=true)(B:BlkScope X scope N' nt js)
  (hg:∀C fp s H,PG (blk X scope N' C fp s H) tg g) (ht:∀C fp s H,PTs (blk X scope N' C fp s H) ifs tc) (he:∀C fp s H,PE (blk X scope N' C fp s H) elt te)
  (h2:PIE X pins σ tg (fun J H1=>∀l,H1 l=none->∃P:Nat->Nat->List V->Hp->Prop,(∃m,P 0 m [] (upd H1 l (.lst [])))/\∀i m acc H2,P i m acc H2->(J.stop i H2/\Q (.ref l) H2)\/(J.go i H2/\acc.length<az/\∃N:List V->Hp->Prop,(∀acc' H',N acc' H'->∃m',m'<m/\P (i+1) m' acc' H')/\∀x H3,J.yld i H2 x H3->g x (emb nt js σ) H3 fun σ4 H4=>Keep (emb nt js σ) σ4/\tc σ4 H4 fun b H5=>
  if b=true then te σ4 H5 fun y H6=>H6 l=some (.lst acc)/\N (acc++[y]) (upd H6 l (.lst (acc++[y])))else N acc H5)) itv s2)
  (hRR:∀(l C:Addr) (H':Hp) (s1:ae),(∃m,s1.heap.Ns C m)->H' C=none->C≠X.env.locals->C∉X.fs->(∀x c,X.env.cells.lookup x=some c->c≠C)->X.s₀.heap.objs.size<=C->(∀p∈X.pn++pins,p.1≠C)->(∀h',b9 C s1.heap h'->Inv X pins σ H' {s1 with heap:=h'})->Q (.ref l) H'->RR (.ref l) C (.ok .next) s1):
  wpAny (model X.prog X.w) X.A (newList []) (fun acc s₃=>wpAny (model X.prog X.w) X.A (newFunctionEnv scope X.env.globals (clOf X.env scope.names []) [] X.env.qual none .none (some X.env)) (fun cenv s₄=>ky (model X.prog X.w) X.A (.compStart (.ListComp elt [⟨tg,iter,ifs,0⟩] scope pos) 0 itv acc {cenv with scope:=tq scope X.env}) (RR acc cenv.locals) s₄) E s₃) E s2:=by
 obtain⟨it,fp,tn,J,H2,rfl,I2,T,st2,f2,q⟩:=h2;refine iz (wpAny_newFunctionEnv B.nocell (by intro y hy;simp at hy) (fun h₁ hns₁ hsb₁=>?_) B.kind)
 dsimp only at hns₁ hsb₁ ⊢
 have hob2:∀b∈fp,∃o,s2.heap.get? b=some o:=fun b hb=>let⟨o,e,_⟩:=T.obj 0 _ st2 b hb;⟨o,e⟩;have hl:H2 s2.heap.objs.size=none:=I2.hok.fresh (aj _);have I3:=I2.lnew (ys:=[]) (its:=[]) (t':=s2.toks) .nil (d6 _);obtain⟨P,⟨m0,p0⟩,turn⟩:=q _ hl;generalize hHh:s2.heap.push {cls:=.type "list",dict:=none,data:=.seq ([]:List Value).toArray}=Hh at hns₁ hsb₁ I3 ⊢;generalize hlv:s2.heap.objs.size=l at hl I3 p0 turn ⊢;have old2:∀b o,s2.heap.get? b=some o->Hh.get? b=some o:=fun b o e=>hHh▸af _ e;have k:∀b o,Hh.get? b=some o->h₁.get? b=some o:=fun b o e=>hsb₁.extBut b o (cg (bc e)) (af _ e)
 have f3:∀b∈fp,FpOk X pins (upd H2 l (.lst [])) b:=fun b hb=>by
  obtain⟨o,e⟩:=hob2 b hb;have nl:b≠l:=by rw[<-hlv];exact cg (bc e)
  exact⟨by rw[z01 nl];exact(f2 b hb).1,(f2 b hb).2⟩
 have hob3:∀b∈fp,∃o,Hh.get? b=some o:=fun b hb=>let⟨o,e⟩:=hob2 b hb;⟨o,old2 b o e⟩;have J0:=zgw (s:={s2 with heap:=Hh,toks:=s2.toks}) (t1:=s2.toks+([]:List (Str×Value)).length) B I3 f3 hob3 k hns₁;have stA:∀{H':Hp},(∀b∈fp,H' b=none)->∀b∈fp,FpOk (blk X scope N' Hh.objs.size fp {s2 with heap:=Hh,toks:=s2.toks} (upd H2 l (.lst []))) pins H' b:=fun hn b hb=>⟨hn b hb,(J0.ok.exf b hb).1,J0.ok.exfs b hb,.inl hb,(J0.ok.exf b hb).2,(f2 b hb).2.2.2.2.2⟩;have hCn:Hh.get? Hh.objs.size=none:=iw (aj _);have out:∀{H':Hp} {s1:ae},Inv (blk X scope N' Hh.objs.size fp {s2 with heap:=Hh,toks:=s2.toks} (upd H2 l (.lst []))) pins (emb nt js σ) H' s1->∀h',b9 Hh.objs.size s1.heap h'->Inv X pins σ H' {s1 with heap:=h'}:=fun{H' s1} Jn h' sb=>by refine I3.call' (s':={s1 with heap:=h'}) (ch:=fp) Jn.os (Un.but Jn.base hCn sb) (Jn.hok.but Jn.free sb) Jn.bare fun b hb=>?_;exact⟨(f3 b hb).2.2.2.1,(f3 b hb).2.1,(f3 b hb).2.2.2.2.1,(f3 b hb).2.2.2.2.2⟩
 have nL:Hh.objs.size≠X.env.locals:=nq (I3.lt);have nF:Hh.objs.size∉X.fs:=I3.nofs (aj _);have nC:∀x c,X.env.cells.lookup x=some c->c≠Hh.objs.size:=fun x c e z=>by obtain⟨v,q⟩:=I3.cell x c e;exact absurd q.lt (by rw[z];exact de _)
 have nS:X.s₀.heap.objs.size<=Hh.objs.size:=I3.sz;have nP:∀p∈X.pn++pins,p.1≠Hh.objs.size:=fun p hp=>cg (bc (I3.pin p hp).1)
 have loop:∀s₃:ae,s₃={s2 with heap:=h₁,toks:=s2.toks+([]:List (Str×Value)).length}->
   ky (model X.prog X.w) X.A (.compLoop (.ListComp elt [⟨tg,iter,ifs,0⟩] scope pos) 0 (.ref it) (.ref l) (compEnvC scope (clOf X.env scope.names []) Hh.objs.size X.env)) (RR (.ref l) Hh.objs.size) s₃:=by
  rintro s₃ rfl
  refine zhi (fun n s'=>∃i acc H',Inv (blk X scope N' Hh.objs.size fp {s2 with heap:=Hh,toks:=s2.toks} (upd H2 l (.lst []))) pins (emb nt js σ) H' s'/\tn i s'.heap/\(∀b∈fp,H' b=none)/\P i n acc H') ?_ m0 ⟨0,[],_,J0,T.keep _ _ _ st2 fun b _ o e=>k b o (old2 b o e),fun b hb=>(f3 b hb).1,p0⟩
  rintro n s3 ⟨i,acc,H3,Jn,st3,fr3,w3⟩
  rcases turn i n acc H3 w3 with⟨stop,qn⟩|⟨go,hz8,N,hN,step⟩
  ·refine thn (T.done (blk X scope N' Hh.objs.size fp {s2 with heap:=Hh,toks:=s2.toks} (upd H2 l (.lst []))) rfl rfl rfl hc i pins s3 _ H3 (fun _ _=>False) Jn (stA fr3) st3 stop) fun r s4 ⟨hr,I4⟩=>?_;subst hr;obtain⟨m,hn,_⟩:=id I4.loc;exact hRR l Hh.objs.size H3 s4 ⟨m,hn⟩ I4.free nL nF nC nS nP (out I4) qn
  ·refine thn (T.item (blk X scope N' Hh.objs.size fp {s2 with heap:=Hh,toks:=s2.toks} (upd H2 l (.lst []))) rfl rfl rfl hc i pins s3 _ H3 (fun _ _=>False) Jn (stA fr3) st3 go) fun r s4 ⟨u,hr,h4⟩=>?_;subst hr;refine thn h4 fun _ s5 ⟨x,H5,I5,r5,y5,st5,fr5⟩=>?_;have I5':=I5.pinned (stA fr5) (T.obj _ _ st5);refine thn (hg _ _ _ _ _ s5 _ H5 x u _ I5' r5 (step x H5 y5)) fun _ s6 ⟨σ6,H6,I6,kp,q6⟩=>?_;refine thn (ht _ _ _ _ _ s6 σ6 H6 _ I6 q6) fun b s7 ⟨H7,I7,q7⟩=>?_
   have again:∀{s7:ae} {H7:Hp} {acc':List V},Inv (blk X scope N' Hh.objs.size fp {s2 with heap:=Hh,toks:=s2.toks} (upd H2 l (.lst []))) (pins++z56 fp s5.heap) σ6 H7 s7->N acc' H7->
     ∃m,m<n/\∃i acc H',Inv (blk X scope N' Hh.objs.size fp {s2 with heap:=Hh,toks:=s2.toks} (upd H2 l (.lst []))) pins (emb nt js σ) H' s7/\tn i s7.heap/\(∀b∈fp,H' b=none)/\P i m acc H':=fun{s7 H7 acc'} I7 w7=>by
    obtain⟨n',hm,w7⟩:=hN _ _ w7;refine⟨n',hm,i+1,acc',H7,(I7.unpinned).weak kp.1 kp.2,T.keep _ _ _ st5 fun b hb o e=>(I7.pin (b,o) (b8 _ (b8 _ (z1x hb e)))).1,fun b hb=>?_,w7⟩;obtain⟨o,e,d⟩:=T.obj _ _ st5 b hb;exact(I7.pin (b,o) (b8 _ (b8 _ (z1x hb e)))).2.1
   cases b with
   |false=>rw[if_neg cw]at q7;unfold cElt;rw[if_neg cw];exact again I7 q7
   |true=>rw[if_pos rfl]at q7;unfold cElt;rw[if_pos rfl];refine thn (he _ _ _ _ _ s7 σ6 H7 _ I7 q7) fun y' s8 ⟨y,H8,I8,r8,hl8,w8⟩=>?_;refine thn (z35 _ s8 σ6 H8 (.ref l) [y] (.ref l) [y'] (fun _ H9=>N (acc++[y]) H9) I8 rfl (.cons r8 .nil) ⟨l,acc,y,rfl,rfl,hl8,hz8,w8⟩) fun _ s9 ⟨v9,H9,I9,r9,w9⟩=>?_;exact again I9 w9
 exact codeAny_compStart_list (loop _ rfl) (T.self _ 0 _ _ _ (T.keep _ _ _ st2 fun b _ o e=>k b o (old2 b o e)) (loop _ rfl))
theorem zdh (hc:X.calm=true)(B:BlkScope X scope N' nt js)(hi:PI X tg iter wi)
  (hg:∀C fp s H,PG (blk X scope N' C fp s H) tg g) (ht:∀C fp s H,PTs (blk X scope N' C fp s H) ifs tc) (he:∀C fp s H,PE (blk X scope N' C fp s H) elt te)
  (hs:∀x,fi iter X.env x=pure x:=by intro _;rfl):PE X (.ListComp elt [⟨tg,iter,ifs,0⟩] scope pos) (tLC wi g tc te (emb nt js)):=by
 intro pins s σ H Q I h;rw[eval_ListComp];refine mv (use:=none) rfl hs (z2a fun y hy hf=>I.ok.has y.1 (B.frees y hy hf)) B.kind B.names (thn (hi pins s σ H _ I h) fun v s1 h1=>thn h1 fun itv s2 h2=>?_);refine z3r (RR:=fun acc C=>compPost (model X.prog X.w) X.A X.xe none (EP X pins σ Q) acc C) hc B hg ht he h2 ?_;intro l C H' s1 ns _ _ _ _ _ _ out q;obtain⟨m,hn⟩:=ns;exact⟨m,hn,fun h' sb=>⟨.ref l,H',out h' sb,rfl,q⟩⟩
def zmj (i:Nat)(t:TE):TS:=fun D σ H=>t σ H fun v H1=>D.nx (σ.set i (some v)) H1
theorem zci {y:Str}{py spos:Pos}{i:Nat}(hc:X.calm=true)(hN:X.N.Nodup)(hy:X.N[i]?=some y)(hl:X.env.scope.names.lookup y=some .local)(B:BlkScope X scope N' nt js)(hi:PI X tg iter wi)
  (hg:∀C fp s H,PG (blk X scope N' C fp s H) tg g) (ht:∀C fp s H,PTs (blk X scope N' C fp s H) ifs tc) (he:∀C fp s H,PE (blk X scope N' C fp s H) elt te)
  (hsw:jo (.ListComp elt [⟨tg,iter,ifs,0⟩] scope pos) (some (.Name y py)) spos.line X.env=pure true)
  (hs:∀x,fi iter X.env x=pure x:=by intro _;rfl):PS X (.Assign [.Name y py] (.ListComp elt [⟨tg,iter,ifs,0⟩] scope pos) spos) (zmj i (tLC wi g tc te (emb nt js))):=by
 intro pins s σ H D I h;have ex:=exec_Assign_Name_used _ _ _ _ hsw;rw[ex];apply aa;apply jf;apply aa;show wpAny _ X.A (do let _ <-comprehension (.ListComp elt [⟨tg,iter,ifs,0⟩] scope pos) scope X.env _ (newList []) false (eval iter X.env) (some (nk (.Name y py) X.env))) _ _ s;refine aa (jb (mv (use:=some (nk (.Name y py) X.env)) (Q:=fun _ s'=>SP X pins D .next s') rfl hs (z2a fun z hz hf=>I.ok.has z.1 (B.frees z hz hf)) B.kind B.names (thn (hi pins s σ H _ I h) fun v s1 h1=>thn h1 fun itv s2 h2=>?_)) (fun _ s' hq=>au (au hq)) fun _ _ e=>e);refine z3r (Q:=fun v H1=>D.nx (σ.set i (some v)) H1) (RR:=fun acc C=>compPost (model X.prog X.w) X.A X.xe (some (nk (.Name y py) X.env)) (fun _ s'=>SP X pins D .next s') acc C) hc B hg ht he h2 ?_;intro l C H' s1 ns hH nL nF nC nS nP out q;obtain⟨m,hn⟩:=ns;have I1:Inv X pins σ H' s1:=out s1.heap (.refl ..);obtain⟨oC,es,ep,hoC,hdC,hrC⟩:=id hn
 have I2:Inv X (pins++[(C,oC)]) σ H' s1:=I1.pins_of fun p hp=>(dz.mp hp).elim (fun z=>I1.pin p (b8 _ z)) fun z=>by
  have e:p=(C,oC):=by simpa using z
  subst e;exact⟨hoC,hH,nL,nF,fun v z=>by have z':oC.data=.cell v:=z;rw[hdC]at z';cases z'⟩
 show wpAny _ X.A (nk (.Name y py) X.env (.ref l)) _ _ s1;refine p6 (z4b I2 hN hy (.inl hl) (v:=.ref l) rfl (fun s'' I''=>?_) (.inr hl));have hC2:=(I''.pin (C,oC) (b8 _ (b8 _ (ce.mpr rfl)))).1;refine⟨m,⟨oC,es,ep,hC2,hdC,hrC⟩,fun h' sb=>⟨_,H',?_,q⟩⟩;exact(I''.unpinned).turned (t':=s''.toks) (fun b o hb e=>sb.extBut b o hb e) hH nL (.inr nS) nC nP
end
def Its (z:Str):It:=⟨fun i _=>i<z.cps.size,fun i H x H'=>H'=H/\∃c,z.cps[i]?=some c/\x=.str ⟨#[c]⟩,fun i _=>z.cps.size<=i⟩
theorem zcs {P:ax}{w:World}{K:W.Frag}{tg:Expr}{ty:String}(hty:ty="str_ascii_iterator"\/ty="str_iterator")(it:Addr)(z:Str)(t:Tok):Turn P w K tg (Its z) [it] it (fun i h=>h.IsStrIter it ty z t i) where
 mem:=by simp
 obj:=fun i h st b hb=>by
  have e:b=it:=by simpa using hb
  subst e;obtain⟨o,e,c,d⟩:=st;exact⟨o,e,fun v z=>by rw[d]at z;cases z⟩
 keep:=fun i h h' st k=>let⟨o,e,r⟩:=st;⟨o,k it (by simp) o e,r⟩
 item:=by
  intro X hP hw hK hc i pins s σ H E I hf st hg;subst hP hw hK;obtain⟨f0,f1,f2,f3,f4,f5⟩:=hf it (by simp);have hi:i<z.cps.size:=hg
  have fin:∀(u:Value) (h':Heap) (tk:Nat),SignAt z i u->h'.IsStrIter it ty z t (i+1)->(∀b o,b∉ [it]->s.heap.get? b=some o->h'.get? b=some o)->
    ∃u',some u=some u'/\wpAny (model X.prog X.w) X.A (ip tg (.ref it) u') (fun _ s2=>∃x H',Inv X pins σ H' s2/\RelV x u'/\(Its z).yld i H x H'/\s2.heap.IsStrIter it ty z t (i+1)/\∀b∈[it],H' b=none) E {s with heap:=h',toks:=tk}:=by
   rintro u h' tk ⟨c,t',hx,rfl⟩ st' kk
   have I1:Inv X pins σ H {s with heap:=h',toks:=tk}:=I.turned (fun b o hb e=>kk b o (by simpa using hb) e) f0 f1 f3 f4 f5;obtain⟨o,e,cc,d⟩:=id st';exact⟨_,rfl,zei (s:={s with heap:=h',toks:=tk}) e cc d (by rcases hty with rfl|rfl<;>decide) ⟨.str ⟨#[c]⟩,H,I1,⟨t',rfl⟩,⟨rfl,c,hx,rfl⟩,st',fun b hb=>(hf b hb).1⟩⟩
  rcases hty with rfl|rfl
  ·exact(Walks.strAscii (prog:=X.prog) (w:=X.w) (I.ok.hd hc) it z t).item i s _ _ hi st fun v h' tk hv st' kk=>fin v h' tk hv st' kk
  ·exact(Walks.strWide (prog:=X.prog) (w:=X.w) (I.ok.hd hc) it z t).item i s _ _ hi st fun v h' tk hv st' kk=>fin v h' tk hv st' kk
 done:=by
  intro X hP hw hK hc i pins s σ H E I hf st hg;subst hP hw hK;obtain⟨f0,f1,f2,f3,f4,f5⟩:=hf it (by simp);have hi:z.cps[i]?=none:=by have:z.cps.size<=i:=hg;simpa using this
  rcases hty with rfl|rfl
  ·exact wpAny_pyNext_ascii_end (I.ok.hd hc) st hi fun h' eb=>⟨rfl,I.turned (t':=s.toks) (fun b o hb e=>eb b o hb e) f0 f1 f3 f4 f5⟩
  ·exact wpAny_pyNext_wide_end (I.ok.hd hc) st hi fun h' eb=>⟨rfl,I.turned (t':=s.toks) (fun b o hb e=>eb b o hb e) f0 f1 f3 f4 f5⟩
 self:=fun _ _ _ _ _ st h=>by
  rcases hty with rfl|rfl
  ·exact wpAny_pyIter_striter_ascii st h
  ·exact wpAny_pyIter_striter_wide st h
section
variable {X:Cx}{tg:Expr}
end
theorem zra {J:It}{n:Nat}{g:TG}{tc:TT}{te:TE}{σ':St}{Q:VK}{H1:Hp}{l:Addr}(P:Nat->List V->Hp->Prop)(hn:n<=az)(h0:P 0 [] (upd H1 l (.lst [])))
  (hlen:∀i acc H,P i acc H->acc.length<=i)
  (hstop:∀acc H,P n acc H->J.stop n H/\Q (.ref l) H) (hgo:∀i acc H,i<n->P i acc H->J.go i H)
  (turn:∀i acc H x H3,i<n->P i acc H->J.yld i H x H3->g x σ' H3 fun σ4 H4=>Keep σ' σ4/\tc σ4 H4 fun b H5=>if b=true then te σ4 H5 fun y H6=>H6 l=some (.lst acc)/\P (i+1) (acc++[y]) (upd H6 l (.lst (acc++[y])))else P (i+1) acc H5):
  ∃P:Nat->Nat->List V->Hp->Prop,(∃m,P 0 m [] (upd H1 l (.lst [])))/\∀i m acc H2,P i m acc H2->(J.stop i H2/\Q (.ref l) H2)\/(J.go i H2/\acc.length<az/\∃N:List V->Hp->Prop,(∀acc' H',N acc' H'->∃m',m'<m/\P (i+1) m' acc' H')/\∀x H3,J.yld i H2 x H3->g x σ' H3 fun σ4 H4=>Keep σ' σ4/\tc σ4 H4 fun b H5=>if b=true then te σ4 H5 fun y H6=>H6 l=some (.lst acc)/\N (acc++[y]) (upd H6 l (.lst (acc++[y])))else N acc H5):=by
 refine⟨fun i m acc H=>i<=n/\m=n-i/\P i acc H,⟨n,d6 _,rfl,h0⟩,?_⟩
 rintro i m acc H2 ⟨hi,rfl,p⟩
 by_cases hlt:i<n
 ·have hl:=hlen i acc H2 p;exact .inr ⟨hgo i acc H2 hlt p,by omega,P (i+1),fun acc' H' p'=>⟨n-(i+1),by omega,hlt,rfl,p'⟩,fun x H3 y=>turn i acc H2 x H3 hlt p y⟩
 ·have e:i=n:=by omega
  subst e;exact .inl (hstop acc H2 p)
section
variable {X:Cx}
theorem zb1:OpR X (cr .LtE) (fun x y H Q=>∃i j,x=.str i/\y=.str j/\Q (.bl (!decide (j.cps.toList<i.cps.toList))) H):=by intro pins s σ H x y v u Q I rx ry h;obtain⟨i,j,rfl,rfl,q⟩:=h;obtain⟨t,rfl⟩:=rx;obtain⟨t',rfl⟩:=ry;exact PySem.P.le_str ⟨.bl _,H,I,rfl,q⟩
theorem zad:OpR X (cr .Gt) (fun x y H Q=>∃i j,x=.str i/\y=.str j/\Q (.bl (decide (j.cps.toList<i.cps.toList))) H):=by intro pins s σ H x y v u Q I rx ry h;obtain⟨i,j,rfl,rfl,q⟩:=h;obtain⟨t,rfl⟩:=rx;obtain⟨t',rfl⟩:=ry;exact PySem.P.gt_str ⟨.bl _,H,I,rfl,q⟩
def rSlS:V->Option Int->Option Int->Hp->VK->Prop:=fun x lo hi H Q=>∃z,x=.str z/\z.length<=az/\Q (.str (Txt.slice z lo hi)) H
theorem z7w:SlR X rSlS:=by
 intro pins s σ H x v vl vu lo hi sl Q I rx hs pl pu h;obtain⟨z,rfl,hz,q⟩:=h;obtain⟨t,rfl⟩:=rx;refine⟨"str",_,PySem.F.slot_str_getitem.lookup,n3 _ _ _,?_⟩;obtain⟨o,ho,hc,hd⟩:=hs;have fin:∀t' k,EP X pins σ Q (.str (Txt.slice z lo hi) t') {s with toks:=k}:=fun t' k=>⟨.str _,H,I.tok _,⟨_,rfl⟩,q⟩;cases pl with
 |none=>
  cases pu with
  |none=>exact i9 (l:=none) (u:=none) (st:=none) ⟨o,ho,hc,hd⟩ rfl (ls ⟨bw (Txt.slice_le z _ _) hz,fin⟩)
  |int j tj=>exact i9 (l:=none) (u:=some (j,tj)) (st:=none) ⟨o,ho,hc,hd⟩ rfl (ls ⟨bw (Txt.slice_le z _ _) hz,fin⟩)
 |int i ti=>
  cases pu with
  |none=>exact i9 (l:=some (i,ti)) (u:=none) (st:=none) ⟨o,ho,hc,hd⟩ rfl (ls ⟨bw (Txt.slice_le z _ _) hz,fin⟩)
  |int j tj=>exact i9 (l:=some (i,ti)) (u:=some (j,tj)) (st:=none) ⟨o,ho,hc,hd⟩ rfl (ls ⟨bw (Txt.slice_le z _ _) hz,fin⟩)
theorem zcy (hc:X.calm=true):CallR X (.builtin "all") (fun xs H Q=>∃(p:Addr) (bs:List Bool),xs=[.ref p]/\SqL X.K H p (bs.map V.bl)/\Q (.bl (bs.all id)) H):=by
 intro pins s σ H xs us Q I r h;obtain⟨p,bs,rfl,hq,q⟩:=h;obtain⟨u,rfl,ru⟩:=vals1 r;cases ru;obtain⟨its,rv,pl,hz⟩:=I.list hq;refine call_all_walk (ku pl.isList ?_);have ne:p≠s.heap.objs.size:=by obtain⟨o,ho,_⟩:=pl.isList;exact cg (bc ho)
 have hlen:bs.length=its.length:=by have:=rv.length;rw[av]at this;exact this
 refine⟨s.heap.objs.size,_,_,_,_,_,fun i=>bs.getD i true,rfl,Walks.list (A:=X.A.in1) (I.ok.hd hc) s.heap.objs.size p ne its.toArray,⟨⟨_,ba _ rfl,rfl,rfl⟩,pl.isList.at fun o e=>af _ e⟩,?_,?_⟩
 ·intro i v s' Q' E' hP hQ;have hi:its[i]?=some v:=by simpa using hP
  have hb:i<bs.length:=by rw[hlen];exact(bo.mp hi).1
  obtain⟨u',hu,ru⟩:=rv.get (i:=i) (x:=V.bl bs[i]) (by rw[bu,bg hb];rfl);rw[hi]at hu;cases hu;cases ru;refine eh ?_;have e:bs.getD i true=bs[i]:=by simp[am,hb]
  have hQ':Q' (bs.getD i true) s':=hQ;rw[e]at hQ';exact hQ'
 ·intro h' tk k;refine⟨.bl (bs.all id),H,I.kept (h':=h') (t':=tk) fun b o e=>?_,?_,q⟩
  ·refine k b o (fun z=>?_) (af _ e);have z':b=s.heap.objs.size:=by simpa using z
   exact absurd (bc e) (by rw[z'];exact de _)
  ·have e:(dv its.toArray.size).all (fun i=>bs.getD i true)=bs.all id:=by
    rw[ao,<-hlen];apply og.mpr;simp only[bp];constructor
    ·intro a b hb;obtain⟨i,hi,rfl⟩:=List.mem_iff_getElem.mp hb;have:=a i (l7.mpr hi);simpa[am,hi]using this
    ·intro a i hi;rw[l7]at hi;have hi':=hi;have:=a bs[i] (gr hi');simpa[am,hi']using this
   rw[e];rfl
end
def Own (K:W.Frag)(mg:Str->Option Value)(x:Str)(st:Stmt)(ps:List Str):Prop:=∃f fd,Fun K x x st f fd/\mg x=some (.ref f)/\W.keepIn K (.ref f)=true/\Binds K fd ps []
def Cal (P:ax)(w:World)(K:W.Frag)(mg:Str->Option Value)(base:Heap)(k:Nat)(x:Str)(ps:List Str)(sp:Sp):Prop:=∃f fd,FnOk P w K mg base CX0 k f fd ps sp/\mg x=some (.ref f)/\W.keepIn K (.ref f)=true/\Binds K fd ps []
section
variable {P:ax}{w:World}{K:W.Frag}{mg:Str->Option Value}{base:Heap}
theorem zl3 {h:Heap}{x:Str}{st:Stmt}{f:Addr}{ps:List Str}{oc:Value}{od an:Option Addr}{osl:Array (Option Value)}{kV doc pm cdv ct:Value}(X:K.In h)(G:h.Ns bh mg)
  (a:W.nsIn K bh x=some (some (.ref f))) (l:K.lookup f=some ⟨oc,od,.func (W.fnOf x x (z11 st) (z08 st) (z07 st) .none kV doc pm an cdv ct),osl⟩) (c:W.codeIn K cdv x=true) (k:W.keepIn K (.ref f)=true)
  (b:∀(kV doc pm:Value) (an:Option Addr) (cdv ct:Value) (us:List Value),us.length=ps.length->si (W.fnOf x x (z11 st) (z08 st) (z07 st) .none kV doc pm an cdv ct) ⟨us,[]⟩=pure (ps.zip us)):Own K mg x st ps:=
 ⟨f,_,z9w l c k,W.mg_of X G a,k,(z9w (st:=st) l c k).binds b⟩
theorem Cal.imp {k:Nat}{x:Str}{ps:List Str}{sp sp':Sp}(C:Cal P w K mg base k x ps sp)(h:∀vs H Q E,sp' vs H Q E->sp vs H Q E):Cal P w K mg base k x ps sp':=by obtain⟨f,fd,F,r⟩:=C;exact⟨f,fd,F.imp h,r⟩
end
def isStar:Expr->Bool
 |.Starred ..=>true
 |_=>false
theorem z06 {e:Expr}{es:List Expr}{env:Env}(h:isStar e=false):cu (e::es) env=(false,eval e env)::cu es env:=by cases e<;>first|rfl|cases h
theorem z0k {pos:Pos}{env:Env}:∀{es:List Expr},(es.all fun e=> !isStar e)=true->(i4 pos (cu es env)).any (·.1)=false
 | [],_=>rfl
 |e::es,h=>by have h':=aw.mp (bz▸h);rw[z06 (by simpa using h'.1)];show(false||(i4 pos (cu es env)).any (·.1))=false;rw[z0k h'.2];rfl
section
variable {X:Cx}{x:Str}{p pos:Pos}{e:Expr}{es:List Expr}{t:TA}{id T:String}{r:List V->Hp->VK->Prop}
theorem pa_c {te:TE}(ha:PE X e te)(hr:PA X es t)(hs:isStar e=false:=by rfl):PA X (e::es) (z3n te t):=z4a ha hr (z06 hs)
theorem zcj (hc:CallR X (.builtin id) r)(hm:X.mg x=none)(hv:cz x=some (.builtin id))(ha:PA X (e::es) t)(hst:((e::es).all fun e=> !isStar e)=true:=by rfl)(hg:Gl X x:=by rfl)(hn:x≠"__name__":=by decide)(hdb:(x==("__debug__":Str))=false:=by decide):PE X (.Call (.Name x p) (e::es) [] pos) (tCB r t):=by rw[bz,aq]at hst;exact zcz hc hg hm hv ha hn hdb (z06 (by simpa using hst.1)) (z0k hst.2)
theorem zme (hc:CallR X (.type T) r)(hm:X.mg x=none)(hv:cz x=some (.type T))(ha:PA X (e::es) t)(hst:((e::es).all fun e=> !isStar e)=true:=by rfl)(hg:Gl X x:=by rfl)(hn:x≠"__name__":=by decide)(hdb:(x==("__debug__":Str))=false:=by decide):PE X (.Call (.Name x p) (e::es) [] pos) (tCB r t):=by rw[bz,aq]at hst;exact z9a hc hg hm hv ha hn hdb (z06 (by simpa using hst.1)) (z0k hst.2)
theorem ze6 {k k':Nat}{ps:List Str}{sp:Sp}(C:Cal X.prog X.w X.K X.mg X.base k x ps sp)(hr:Room k' X.A)(ha:PA X (e::es) t)(hst:((e::es).all fun e=> !isStar e)=true:=by rfl)(hk:k<=k':=by decide)(hg:Gl X x:=by rfl)
  (hdb:(x==("__debug__":Str))=false:=by decide):PE X (.Call (.Name x p) (e::es) [] pos) (z6f sp [] E0 t):=by
 obtain⟨f,fd,F,m,kp,b⟩:=C;rw[bz,aq]at hst;exact z9f F (hr.mono hk) hg m kp b .nil zq4 ha hdb (z06 (by simpa using hst.1)) (z0k hst.2)
end
def z1e:Expr->Bool
 |.ListComp ..=>true
 |.SetComp ..=>true
 |.DictComp ..=>true
 |_=>false
theorem z1g {e:Expr}(h:z1e e=false)(tg:Option Expr)(n:Nat)(env:Env):jo e tg n env=pure false:=by cases e<;>first|rfl|cases h
theorem ps_s {X:Cx}{pos:Pos}{i:Nat}{x:Str}{e:Expr}{te:TE}{pos':Pos}(hN:X.N.Nodup)(hi:X.N[i]?=some x)(hx:Loc X.env.scope x)(he:PE X e te)(hs:z1e e=false:=by rfl)(hf:X.fn x=true\/X.env.scope.names.lookup x=some .local:=by first|exact .inl rfl|exact .inr rfl|assumption): PS X (.Assign [.Name x pos'] e pos) (tAsg te (zd0 i)):=zf7 hN hi hx he (z1g hs _ _ _) hf
theorem ps_e {X:Cx}{pos:Pos}{e:Expr}{te:TE}(he:PE X e te)(hs:z1e e=false:=by rfl):PS X (.Expr e pos) (zbi te):=zgv he (z1g hs _ _ _)
section
variable {X:Cx}
def zhe (K:W.Frag):R2:=fun x y H Q=>rI0 (fun i j=>.int (i+j)) x y H Q\/(∃i j,x=.str i/\y=.str j/\i.length+j.length<=az/\Q (.str (i++j)) H)\/rCat x y H Q\/znj K x y H Q
def rLtA:R2:=fun x y H Q=>rI0 (fun i j=>.bl (decide (i<j))) x y H Q\/∃i j,x=.str i/\y=.str j/\Q (.bl (decide (i.cps.toList<j.cps.toList))) H
def rLeA:R2:=fun x y H Q=>rI0 (fun i j=>.bl (decide (i<=j))) x y H Q\/∃i j,x=.str i/\y=.str j/\Q (.bl (!decide (j.cps.toList<i.cps.toList))) H
def rGtA:R2:=fun x y H Q=>rI0 (fun i j=>.bl (decide (j<i))) x y H Q\/∃i j,x=.str i/\y=.str j/\Q (.bl (decide (j.cps.toList<i.cps.toList))) H
def rInA (K:W.Frag)(neg:Bool):R2:=fun x y H Q=>rIn K neg x y H Q\/∃i j,x=.str i/\y=.str j/\Q (.bl (if neg then !(!(cy j i 0 j.length 1).isEmpty)else !(cy j i 0 j.length 1).isEmpty)) H
def rSlA (K:W.Frag):V->Option Int->Option Int->Hp->VK->Prop:=fun x lo hi H Q=>rSlL K x lo hi H Q\/rSlS x lo hi H Q
def zpw (K:W.Frag):List V->Hp->VK->Prop:=fun xs H Q=>(∃z,xs=[.str z]/\z.length<=az/\Q (.int z.length) H)\/(∃p ys,xs=[.ref p]/\(SqL K H p ys\/SqT K H p ys)/\Q (.int ys.length) H)
theorem zpf:OpR X (gj .Add) (zhe X.K):=zm0.or (z8f.or (zn8.or zil))
theorem opLt:OpR X (cr .Lt) rLtA:=zpb.or zba
theorem opLe:OpR X (cr .LtE) rLeA:=zo6.or zb1
theorem opGt:OpR X (cr .Gt) rGtA:=zqu.or zad
theorem opIn:OpR X (cr .In) (rInA X.K false):=z9v.or zbh
theorem zhv:OpR X (cr .NotIn) (rInA X.K true):=z5z.or z5p
theorem zp8:IxR X (rIx X.K):=zke
theorem zq3:SlR X (rSlA X.K):=zhg.or z7w
theorem zg0:CallR X (.builtin "len") (zpw X.K):=z61.or z5j
theorem PI.or {tg iter:Expr}{wi wi':TI}(h:PI X tg iter wi)(h':PI X tg iter wi'):PI X tg iter (fun σ H R=>wi σ H R\/wi' σ H R):=by
 intro pins s σ H R I q;rcases q with q|q
 ·exact h pins s σ H R I q
 ·exact h' pins s σ H R I q
end
def isT (t T:String):Bool:=t==T||(t=="bool"&&T=="int")
def tysA:List String:=["NoneType","bool","int","str","list","tuple","dict"]
def tysB:List String:=["str","int","bool","tuple","list"]
theorem zj0 (K:W.Frag):∀t∈tysA,∀T∈tysB,W.kitOne K (.type t) (.type T)=some (isT t T):=by intro t ht T hT;simp only[tysA,ak,d8,or_false]at ht;simp only[tysB,ak,d8,or_false]at hT;rcases ht with rfl|rfl|rfl|rfl|rfl|rfl|rfl<;>rcases hT with rfl|rfl|rfl|rfl|rfl<;>kernel_rfl
section
variable {D:Ends}{σ:St}{H:Hp}{g:TG}{tb:TS}
end
section
variable {σ:St}{H:Hp}{R:It->Hp->Prop}{K:W.Frag}{te:TE}{ta:TA}
end
section
variable {D:Ends}{σ:St}{H:Hp}{Q:VK}{t u:TS}{te ta tb tc':TE}{r r':R2}{K:W.Frag}
theorem zlq {i j:Int}(h:Q (.int (i+j)) H):zhe K (.int i) (.int j) H Q:=.inl ⟨i,j,rfl,rfl,h⟩
theorem znc {i j:Str}(c:i.length+j.length<=az)(h:Q (.str (i++j)) H):zhe K (.str i) (.str j) H Q:=.inr (.inl ⟨i,j,rfl,rfl,c,h⟩)
theorem zpj {i j:Int}(h:Q (.bl (decide (i<j))) H):rLtA (.int i) (.int j) H Q:=.inl ⟨i,j,rfl,rfl,h⟩
theorem zo1 {i j:Int}(h:Q (.bl (decide (i<=j))) H):rLeA (.int i) (.int j) H Q:=.inl ⟨i,j,rfl,rfl,h⟩
theorem zop {i j:Int}(h:Q (.bl (decide (j<i))) H):rGtA (.int i) (.int j) H Q:=.inl ⟨i,j,rfl,rfl,h⟩
theorem zr1 {i j:Str}(h:Q (.bl (decide (i.cps.toList<j.cps.toList))) H):rLtA (.str i) (.str j) H Q:=.inr ⟨i,j,rfl,rfl,h⟩
theorem zq8 {i j:Str}(h:Q (.bl (!decide (j.cps.toList<i.cps.toList))) H):rLeA (.str i) (.str j) H Q:=.inr ⟨i,j,rfl,rfl,h⟩
theorem zoi {i j:Str}(h:Q (.bl (decide (j.cps.toList<i.cps.toList))) H):rGtA (.str i) (.str j) H Q:=.inr ⟨i,j,rfl,rfl,h⟩
section
variable {q:Bool->Hp->Prop}{s t:TT}
end
section
variable {q:List V->Hp->Prop}{a:TA}
end
end
section
variable {g:TG}{tc:TT}{te:TE}{σ':St}{l:Addr}{Q:VK}{H1:Hp}
end
section
variable {K:W.Frag}{H:Hp}{Q:VK}
theorem zrf {z:Str}{c:Nat}(h:Q (.bl (decide (c∈z.cps.toList))) H):rInA K false (.str ⟨#[c]⟩) (.str z) H Q:=.inr ⟨_,z,rfl,rfl,by have e:(if false=true then !(!(cy z ⟨#[c]⟩ 0 z.length 1).isEmpty)else !(cy z ⟨#[c]⟩ 0 z.length 1).isEmpty)=decide (c∈z.cps.toList):=PySem.StrLaws.found_one z c;rw[e];exact h⟩
theorem zk0 {z:Str}{c:Nat}(h:Q (.bl (!decide (c∈z.cps.toList))) H):rInA K true (.str ⟨#[c]⟩) (.str z) H Q:=.inr ⟨_,z,rfl,rfl,by have e:(if true=true then !(!(cy z ⟨#[c]⟩ 0 z.length 1).isEmpty)else !(cy z ⟨#[c]⟩ 0 z.length 1).isEmpty)=!decide (c∈z.cps.toList):=congrArg Bool.not (PySem.StrLaws.found_one z c);rw[e];exact h⟩
end
section
variable {K:W.Frag}{H:Hp}{Q:VK}
theorem Same.upd {H:Hp}{p:Addr}{o:HO}(h:H p=none):Same H (L2.upd H p o):=fun b u e=>by rw[z01 (z0b e h)];exact e
theorem zfc {n:Nat}(h:n<=1000):n<=az:=bw h (by rw[dq];decide)
end
theorem TyOf.same {K:W.Frag}{H H':Hp}{x:V}{t:Value}(s:Same H H')(h:TyOf K H x t):TyOf K H' x t:=by
 cases h with
 |non=>exact .non
 |bl b=>exact .bl b
 |int i=>exact .int i
 |str z=>exact .str z
 |lst e=>exact .lst (s _ _ e)
 |frz e=>exact .frz (s _ _ e)
 |tup e=>exact .tup (s _ _ e)
 |dK e=>exact .dK (s _ _ e)
 |dT e=>exact .dT (s _ _ e)
 |ins e a b c d f=>exact .ins (s _ _ e) a b c d f
section
variable {X:Cx}{a b c e o value i f:Expr}{es:List Expr}{ta tb tc te td ty tv tx to:TE}{t:TA}{pos pos' p p2 tpos apos cpos:Pos}
section
variable {tA tB':TT}{rest:List Expr}
end
section
variable {st:Stmt}{sts:List Stmt}{u v:TS}
end
end
section
variable {P:ax}{w:World}{K:W.Frag}{mg:Str->Option Value}{base:Heap}
end
end L2
namespace Mi
open PySem
abbrev D:=ag
inductive Res (α:Type) where
 |ok (a:α)|exc (e:D)|no
namespace Res
def bind {α β:Type}(x:Res α)(f:α->Res β):Res β:=match x with
 |.ok a=>f a
 |.exc e=>.exc e
 |.no=>.no
instance:Monad Res where
 pure:=.ok
 bind:=Res.bind
theorem ok_bind {α β:Type}(a:α)(f:α->Res β):(Res.ok a>>=f)=f a:=rfl
theorem exc_bind {α β:Type}(e:D)(f:α->Res β):((Res.exc e:Res α)>>=f)=.exc e:=rfl
theorem no_bind {α β:Type}(f:α->Res β):((Res.no:Res α)>>=f)=.no:=rfl
def ofO {α:Type}:Option α->Res α
 |some a=>.ok a
 |none=>.no
theorem bind_ok {α β:Type}{x:Res α}{f:α->Res β}{b:β}(h:(x>>=f)=.ok b):∃a,x=.ok a/\f a=.ok b:=by
 cases x with
 |ok a=>exact⟨a,rfl,h⟩
 |exc e=>cases h
 |no=>cases h
end Res
mutual
def imm:ag->Bool
 |.tuple xs=>imms xs
 |.list _=>false
 |.dict _=>false
 |.none=>true
 |.bool _=>true
 |.int _=>true
 |.str _=>true
def imms:List ag->Bool
 | []=>true
 |x::xs=>imm x&&imms xs
end
theorem z2t:∀{xs:List D},imms xs=true↔∀x∈xs,imm x=true
 | []=>by simp[imms]
 |x::xs=>by rw[imms,aq,z2t];simp
abbrev eqD:D->D->Bool:=PyData.eqv
mutual
def shal:Nat->ag->Bool
 |0,.tuple _=>false
 |0,.list _=>false
 |n+1,.tuple xs=>z2p n xs
 |n+1,.list xs=>z2p n xs
 |_,.dict _=>false
 |_,.none=>true
 |_,.bool _=>true
 |_,.int _=>true
 |_,.str _=>true
def z2p:Nat->List ag->Bool
 |_,[]=>true
 |n,x::xs=>shal n x&&z2p n xs
end
def truth:ag->Bool
 |.none=>false
 |.bool b=>b
 |.int i=>!decide (i=0)
 |.str x=>!decide (x.length=0)
 |.tuple xs=>!xs.isEmpty
 |.list xs=>!xs.isEmpty
 |.dict es=>!es.isEmpty
def ixN (n:Nat)(i:Int):Option Nat:=if 0<=i then(if i<n then some i.toNat else none)else if -(n:Int)<=i then some (i+n).toNat else none
def atI {α:Type}(xs:List α)(i:Int):Option α:=(ixN xs.length i).bind fun j=>xs[j]?
def sIx (n d:Nat):Option Int->Nat
 |none=>d
 |some v=>if v<0 then(v+(n:Int)).toNat else min v.toNat n
def cut {α:Type}(xs:List α)(lo hi:Option Int):List α:=(xs.drop (sIx xs.length 0 lo)).take (sIx xs.length xs.length hi-sIx xs.length 0 lo)
def eqK:ag->ag->Bool
 |.int a,y=>match y with|.int b=>a==b|_=>false
 |.str a,y=>match y with|.str b=>decide (a=b)|_=>false
 |_,_=>false
def isK:ag->Bool
 |.int _=>true
 |.str _=>true
 |_=>false
abbrev Ents:=List (D×D)
def z14 (es:Ents)(k:D):Option D:=(es.find? fun e=>eqK e.1 k).map (·.2)
mutual
def ltD:ag->ag->Bool
 |.int a,y=>match y with|.int b=>decide (a<b)|_=>false
 |.str a,y=>match y with|.str b=>decide (a.cps.toList<b.cps.toList)|_=>false
 |.tuple xs,y=>match y with|.tuple ys=>ltDs xs ys|_=>false
 |.none,_=>false
 |.bool _,_=>false
 |.list _,_=>false
 |.dict _,_=>false
def ltDs:List ag->List ag->Bool
 | [],ys=>!ys.isEmpty
 |x::xs,ys=>match ys with|y::ys=>if eqD x y then ltDs xs ys else ltD x y| []=>false
end
def isI:D->Bool
 |.int _=>true
 |_=>false
def isS:D->Bool
 |.str _=>true
 |_=>false
def ofK (b:Bool)(x:D):Bool:=if b then isI x else isS x
def shps:List Bool->List D->Bool
 | [],xs=>xs.isEmpty
 |b::bs,xs=>match xs with|x::xs=>ofK b x&&shps bs xs| []=>false
section
inductive G where
 |fr|od|al|nu
 deriving Inhabited,DecidableEq
abbrev Rho:=List (Option (G×D))
abbrev GD:=G×D
inductive Tg where
 |nm (i:Nat)|tp (is:List Nat)
 deriving Inhabited,DecidableEq
inductive C where
 |var (i:Nat)|non|bl (b:Bool)|int (i:Int)|str (x:Str)|glob (k:Nat) (x:Str)|bin (op:jl) (a b:C)|cmp (op:CmpOp) (a b:C)|chain (op op':CmpOp) (a b c:C)|and (a b:C)|or (a b:C)|not (a:C)|ife (c a b:C)|tup (xs:C)|lst (xs:C)|dnew|ix (a b:C)|sl (a lo hi:C)|call (k:Nat) (f:Str) (args:C)|bi (f:String) (args:C)|agg (f:String) (a:C)|isT (a:C) (ts:List String)|mt (m:String) (o args:C)|comp (nt:Nat) (js:List Nat) (N':List Str) (tg:Tg) (it cond elt:C)|upr (a:C)|spl (a b:C)|rng (args:C)|enum (a:C)|zip (a b:C)|tv (a:C)|isE (b:Bool) (x:Str)|nil|cons (a r:C)
 deriving Inhabited
inductive S where
 |nil|seq (a b:S)|bad|asg (t:Tg) (e:C)|mut (m:String) (i:Nat) (args:C)|ret (e:C)|ifS (c:C) (a b:S)|for_ (t:Tg) (it:C) (b:S)|cnt
 deriving Inhabited
inductive Out where
 |nx (ρ:Rho)|rt (g:G) (d:D)|bk (ρ:Rho)|ct (ρ:Rho)
abbrev Fn:=List D->Res GD
def LIM:Nat:=1000000
def rdG:G->G
 |.fr=>.al
 |.od=>.od
 |.al=>.al
 |.nu=>.nu
def rdS:Option (Option GD)->Res GD
 |some (some (g,d))=>.ok (if imm d then .fr else rdG g,d)
 |_=>.no
def z0z:D->Res Bool
 |.str x=>if x.length<=LIM then .ok (!decide (x.length=0))else .no
 |d=>.ok (truth d)
def rtG:G->G
 |.fr=>.fr
 |.od=>.al
 |.al=>.al
 |.nu=>.fr
def agG:G->G
 |.fr=>.fr
 |.od=>.al
 |.al=>.al
 |.nu=>.nu
def gJ (d:D)(g:G):G:=if imm d then .fr else g
def gN (d:D)(g:G):G:=match d with
 |.list xs=>if imms xs then .fr else g
 |d=>gJ d g
def gAll (xs:List GD):G:=if xs.all (fun x=>x.1==.fr)then .fr else if xs.all (fun x=>x.1==.fr||x.1==.nu)then .nu else .al
def gCo (xs:List GD):G:=if xs.all (fun x=>x.1==.fr)then .fr else .al
def okIn (x:GD):Bool:=imm x.2||(x.1==.fr||x.1==.nu)
def immE (es:Ents):Bool:=es.all fun e=>imm e.2
def z16:GD->GD
 |(g,d)=>if imm d then(.al,d)else match g,d with
  |.fr,.list xs=>(if imms xs then .fr else .nu,.list xs)
  |.fr,.dict es=>(if immE es then .fr else .nu,.dict es)
  |.fr,d=>(.nu,d)
  |.nu,d=>(.nu,d)
  |.od,d=>(.od,d)
  |.al,d=>(.al,d)
def z4i:GD->GD
 |(g,d)=>match g with|.od=>(.od,d)|_=>(.al,d)
def toAl:Option GD->Option GD
 |some (.fr,d)=>some (.al,d)
 |some (.nu,d)=>some (.al,d)
 |s=>s
def z5e:Option GD->Option GD
 |some (.al,d)=>if imm d then some (.al,d)else none
 |s=>s
def z2n:Rho->List Nat->List D->G->Option Rho
 |ρ,[],[],_=>some ρ
 |ρ,i::is,d::ds,g=>z2n (ρ.set i (some (z4i (gJ d g,d)))) is ds g
 |_,_,_,_=>none
def z0x:Tg->GD->Rho->Res Rho
 |.nm i,x,ρ=>.ok (ρ.set i (some (z4i x)))
 |.tp is,(g,.tuple ds),ρ=>Res.ofO (z2n ρ is ds g)
 |.tp is,(g,.list ds),ρ=>Res.ofO (z2n ρ is ds g)
 |_,_,_=>.no
def lenD:D->Res D
 |.str x=>if x.length<=LIM then .ok (.int x.length)else .no
 |.tuple xs=>.ok (.int xs.length)
 |.list xs=>.ok (.int xs.length)
 |.dict es=>.ok (.int es.length)
 |_=>.no
def z22 {α:Type}(n:Nat)(xs:List α):List α:=(bj n xs).flatten
def binD:jl->D->D->Res D
 |.Add,.int a,.int b=>.ok (.int (a+b))
 |.Add,.str a,.str b=>if a.length+b.length<=LIM then .ok (.str (a++b))else .no
 |.Add,.list a,.list b=>if a.length+b.length<=LIM then .ok (.list (a++b))else .no
 |.Add,.tuple a,.tuple b=>if a.length+b.length<=LIM then .ok (.tuple (a++b))else .no
 |.Sub,.int a,.int b=>.ok (.int (a-b))
 |.Mult,.str a,.int n=>if 0<=n/\n<=LIM/\a.length*n.toNat<=LIM then .ok (.str ⟨(z22 n.toNat a.cps.toList).toArray⟩)else .no
 |.Mult,.int a,.int b=>if(-(2 ^ 64)<a/\a<2 ^ 64)\/(-(2 ^ 64)<b/\b<2 ^ 64)then .ok (.int (a*b))else .no
 |.FloorDiv,.int a,.int b=>if 0<b/\b<2 ^ 200 then .ok (.int (a/b))else .no
 |.Mod,.int a,.int b=>if 0<b then .ok (.int (a%b))else .no
 |.Pow,.int a,.int b=>if 0<=b/\b<=1000/\a.natAbs<2 ^ 64 then .ok (.int (a ^ b.toNat))else .no
 |_,_,_=>.no
def inD (x:D):D->Res Bool
 |.list xs=>if shal 40 x&&z2p 40 xs then .ok (xs.any fun y=>eqD y x)else .no
 |.tuple xs=>if shal 40 x&&z2p 40 xs then .ok (xs.any fun y=>eqD y x)else .no
 |.dict es=>if isK x then .ok (z14 es x).isSome else .no
 |.str z=>match x with
  |.str w=>(match w.cps.toList with| [c]=>.ok (decide (c∈z.cps.toList))|_=>.no)
  |_=>.no
 |_=>.no
def cmpD:CmpOp->D->D->Res Bool
 |.Eq,x,y=>if shal 40 x&&shal 40 y then .ok (eqD x y)else .no
 |.NotEq,x,y=>if shal 40 x&&shal 40 y then .ok (!eqD x y)else .no
 |.Lt,.int a,.int b=>.ok (decide (a<b))
 |.LtE,.int a,.int b=>.ok (decide (a<=b))
 |.Gt,.int a,.int b=>.ok (decide (b<a))
 |.Lt,.str a,.str b=>.ok (decide (a.cps.toList<b.cps.toList))
 |.LtE,.str a,.str b=>.ok (!decide (b.cps.toList<a.cps.toList))
 |.Gt,.str a,.str b=>.ok (decide (b.cps.toList<a.cps.toList))
 |.In,x,y=>inD x y
 |.NotIn,x,y=>inD x y>>=fun b=>.ok (!b)
 |_,_,_=>.no
def ixD:D->D->Res D
 |.list xs,.int i=>Res.ofO (atI xs i)
 |.tuple xs,.int i=>Res.ofO (atI xs i)
 |.str z,.int i=>if z.length<=LIM then Res.ofO ((atI z.cps.toList i).map fun c=>.str ⟨#[c]⟩)else .no
 |.dict es,k=>if isK k then Res.ofO (z14 es k)else .no
 |_,_=>.no
def z12 (z:Str)(lo hi:Option Int):Str:=⟨(cut z.cps.toList lo hi).toArray⟩
def slD:D->Option Int->Option Int->Res D
 |.list xs,lo,hi=>.ok (.list (cut xs lo hi))
 |.tuple xs,lo,hi=>if sIx xs.length 0 lo=0/\sIx xs.length xs.length hi=xs.length then .no else .ok (.tuple (cut xs lo hi))
 |.str z,lo,hi=>if z.length<=LIM then .ok (.str (z12 z lo hi))else .no
 |_,_,_=>.no
def intO:D->Res (Option Int)
 |.int i=>.ok (some i)
 |_=>.no
def z4m:D->Res (List D)
 |.list xs=>.ok xs
 |.tuple xs=>.ok xs
 |.str z=>if z.length<=LIM then .ok (z.cps.toList.map fun c=>.str ⟨#[c]⟩)else .no
 |_=>.no
def allB:List D->Option (List Bool)
 | []=>some []
 |.bool b::r=>(allB r).map (b:: ·)
 |_=>none
def allS:List D->Option (List Str)
 | []=>some []
 |.str b::r=>(allS r).map (b:: ·)
 |_=>none
def z6e:D->Res (Bool×List D)
 |.list xs=>.ok (true,xs)
 |.tuple xs=>.ok (false,xs)
 |_=>.no
def aggD (f:String)(l:Bool)(xs:List D):Res D:=
 if f="list"then .ok (.list xs)
 else if f="tuple"then .ok (.tuple xs)
 else if f="all"then(if l then Res.ofO ((allB xs).map fun bs=>.bool (bs.all id))else .no)
 else .no
def vI:D->Option Int
 |.int i=>some i
 |_=>none
def vT:D->Option (List D)
 |.tuple xs=>some xs
 |_=>none
def min2 (x y:D):Res D:=Res.ofO ((vI x).bind fun a=>(vI y).map fun b=>.int (min a b))
def minD (xs:List D):Res D:=if xs.length=2 then min2 (xs.getD 0 .none) (xs.getD 1 .none)else if xs.length=1 then(match vT (xs.getD 0 .none)with|some ys=>if ys.length=2 then min2 (ys.getD 0 .none) (ys.getD 1 .none)else .no|none=>.no)else .no
def figs (l:List Nat):Bool:=!l.isEmpty&&l.all fun c=>decide (48<=c)&&decide (c<=57)
def digV (l:List Nat):Nat:=l.foldl (fun n c=>n*10+(c-48)) 0
def intS (x:Str):Res D:=if figs x.cps.toList&&decide (x.length<=600)then .ok (.int (digV x.cps.toList:Int))else .no
def oneC (y:Str):Option Nat:=match y.cps.toList with
 | [c]=>some c
 |_=>none
def toS (l:List Nat):Str:=⟨l.toArray⟩
def splC (c:Nat):List Nat->List (List Nat)
 | []=>[[]]
 |a::r=>if a=c then[]::splC c r else(match splC c r with|h::t=>(a::h)::t| []=>[[a]])
def splD:D->D->Res D
 |.str x,.str y=>match oneC y with
  |some c=>if decide (x.length<=LIM)then .ok (.list ((splC c x.cps.toList).map fun l=>.str (toS l)))else .no
  |none=>.no
 |_,_=>.no
def parD (x y:Str):Res D:=match oneC y with
 |some c=>if decide (x.length<=LIM)then .ok (.tuple [.str (toS (x.cps.toList.takeWhile (· != c))),.str (if x.cps.toList.contains c then y else ""),.str (toS ((x.cps.toList.dropWhile (· != c)).drop 1))])else .no
 |none=>.no
def fndD (x y:Str):Res D:=match oneC y with
 |some c=>.ok (.int (match x.cps.toList.findIdx? (· ==c)with|some i=>(i:Int)|none=>-1))
 |none=>.no
def biD (f:String)(xs:List D):Res D:=
 if f="len"then(match xs with| [x]=>lenD x|_=>.no)
 else if f="max"then(match xs with| [.int a,.int b]=>.ok (.int (max a b))|_=>.no)
 else if f="int"then(match xs with| [.int a]=>.ok (.int a)| [.bool b]=>.ok (.int (if b then 1 else 0))| [.str x]=>intS x|_=>.no)
 else if f="min"then minD xs
 else .no
def tyOf:D->String
 |.none=>"NoneType"|.bool _=>"bool"|.int _=>"int"|.str _=>"str"|.tuple _=>"tuple"|.list _=>"list"|.dict _=>"dict"
def isTy (t T:String):Bool:=t==T||(t=="bool"&&T=="int")
def z2h (sep:List Nat):List Str->List Nat
 | []=>[]
 |x::r=>x.cps.toList++(r.map fun p=>sep++p.cps.toList).flatten
def z17 (sep:Str)(xs:List Str):Str:=⟨(z2h sep.cps.toList xs).toArray⟩
def z6j (sep:Str)(xs:List Str):Nat:=(xs.map (·.length)).sum+xs.length*sep.length
def mtD (m:String)(o:D)(xs:List D):Res D:=
 if m="get"then(match o,xs with|.dict es,[k,d]=>if isK k then .ok ((z14 es k).getD d)else .no|_,_=>.no)
 else if m="join"then(match o,xs with|.str z,[.list ys]=>(match allS ys with|some ss=>if z6j z ss<=LIM then .ok (.str (z17 z ss))else .no|none=>.no)|_,_=>.no)
 else if m="partition"then(match o,xs with|.str x,[.str y]=>parD x y|_,_=>.no)
 else if m="find"then(match o,xs with|.str x,[.str y]=>fndD x y|_,_=>.no)
 else .no
def upD:D->Res D
 |.str z=>if z.cps.toList.all (fun c=>decide (97<=c)&&decide (c<=122))&&decide (z.length<=LIM)then .ok (.str ⟨(z.cps.toList.map (· -32)).toArray⟩)else .no
 |_=>.no
def rngD:List D->Res (List D)
 | [.int n]=>if n<=LIM/\-LIM<=n then .ok ((dv n.toNat).map fun(i:Nat)=>.int i)else .no
 |_=>.no
def z0r:Nat->List D->List D
 |_,[]=>[]
 |i,x::xs=>.tuple [.int i,x]::z0r (i+1) xs
def zipD:List D->List D->List D
 |x::xs,y::ys=>.tuple [x,y]::zipD xs ys
 |_,_=>[]
def seqR:D->Res (List D)
 |.list xs=>if decide (xs.length<=LIM)then .ok xs else .no
 |.tuple xs=>if decide (xs.length<=LIM)then .ok xs else .no
 |_=>.no
def oc:Option GD->List GD->List GD
 |some y,r=>y::r
 |none,r=>r
def z2k (f:D->Res (Option GD)):List D->Res (List GD)
 | []=>.ok []
 |x::xs=>f x>>=fun o=>z2k f xs>>=fun r=>.ok (oc o r)
variable (Κ:List D)(Φ:List Fn)
mutual
def evE:C->Rho->Res GD
 |.var i,ρ=>rdS ρ[i]?
 |.non,_=>.ok (.fr,.none)
 |.bl b,_=>.ok (.fr,.bool b)
 |.int i,_=>.ok (.fr,.int i)
 |.str x,_=>.ok (.fr,.str x)
 |.isE b _,_=>.ok (.fr,.bool b)
 |.glob k _,_=>match Κ[k]? with|some d=>if imm d then .ok (.fr,d)else .no|none=>.no
 |.bin op a b,ρ=>evE a ρ>>=fun x=>evE b ρ>>=fun y=>binD op x.2 y.2>>=fun d=>.ok (gN d (gAll [x,y]),d)
 |.cmp op a b,ρ=>evE a ρ>>=fun x=>evE b ρ>>=fun y=>cmpD op x.2 y.2>>=fun b=>.ok (.fr,.bool b)
 |.chain op op' a b c,ρ=>evE a ρ>>=fun x=>evE b ρ>>=fun y=>cmpD op x.2 y.2>>=fun k=>if k then evE c ρ>>=fun z=>cmpD op' y.2 z.2>>=fun k'=>.ok (.fr,.bool k')else .ok (.fr,.bool false)
 |.and a b,ρ=>evE a ρ>>=fun x=>match x.2 with|.bool c=>if c then evE b ρ else .ok (.fr,.bool false)|_=>.no
 |.or a b,ρ=>evE a ρ>>=fun x=>match x.2 with|.bool c=>if c then .ok (.fr,.bool true)else evE b ρ|_=>.no
 |.not a,ρ=>evE a ρ>>=fun x=>z0z x.2>>=fun c=>.ok (.fr,.bool (!c))
 |.ife c a b,ρ=>evT c ρ>>=fun k=>if k then evE a ρ else evE b ρ
 |.tup xs,ρ=>evA xs ρ>>=fun ys=>.ok (gJ (.tuple (ys.map (·.2))) (gAll ys),.tuple (ys.map (·.2)))
 |.lst xs,ρ=>evA xs ρ>>=fun ys=>.ok (gAll ys,.list (ys.map (·.2)))
 |.dnew,_=>.ok (.fr,.dict [])
 |.ix a b,ρ=>evE a ρ>>=fun x=>evE b ρ>>=fun y=>ixD x.2 y.2>>=fun d=>.ok (gJ d x.1,d)
 |.sl a lo hi,ρ=>evE a ρ>>=fun x=>evO lo ρ>>=fun l=>evO hi ρ>>=fun h=>slD x.2 l h>>=fun d=>.ok (gN d (gAll [x]),d)
 |.call k _ args,ρ=>evA args ρ>>=fun ys=>match Φ[k]? with|some m=>m (ys.map (·.2))>>=fun r=>.ok (gJ r.2 (rtG r.1),r.2)|none=>.no
 |.bi f args,ρ=>evA args ρ>>=fun ys=>biD f (ys.map (·.2))>>=fun d=>.ok (gJ d .al,d)
 |.agg f a,ρ=>evG a ρ>>=fun w=>aggD f w.2.1 w.2.2>>=fun d=>.ok (gJ d (if imms w.2.2 then .fr else agG w.1),d)
 |.isT a ts,ρ=>evE a ρ>>=fun x=>.ok (.fr,.bool (ts.any fun T=>isTy (tyOf x.2) T))
 |.mt m o args,ρ=>evE o ρ>>=fun x=>evA args ρ>>=fun ys=>mtD m x.2 (ys.map (·.2))>>=fun d=>.ok (gJ d .al,d)
 |.spl a b,ρ=>evE a ρ>>=fun x=>evE b ρ>>=fun y=>splD x.2 y.2>>=fun d=>.ok (.fr,d)
 |.upr a,ρ=>evE a ρ>>=fun x=>upD x.2>>=fun d=>.ok (.fr,d)
 |.comp nt js _ tg it cond elt,ρ=>evW it ρ>>=fun w=>z2k (fun x=>z0x tg (gJ x w.1,x) (bj nt none++js.map fun j=>toAl (ρ.getD j none))>>=fun ρ1=>evT cond ρ1>>=fun k=>if k then evE elt ρ1>>=fun y=>.ok (some y)else .ok none) w.2>>=fun ys=>.ok (gCo ys,.list (ys.map (·.2)))
 |_,_=>.no
def evT:C->Rho->Res Bool
 |.and a b,ρ=>evT a ρ>>=fun c=>if c then evT b ρ else .ok false
 |.or a b,ρ=>evT a ρ>>=fun c=>if c then .ok true else evT b ρ
 |.not a,ρ=>evT a ρ>>=fun c=>.ok (!c)
 |.nil,_=>.ok true
 |.tv a,ρ=>evE a ρ>>=fun x=>z0z x.2
 |_,_=>.no
def evA:C->Rho->Res (List GD)
 |.nil,_=>.ok []
 |.cons a r,ρ=>evE a ρ>>=fun x=>evA r ρ>>=fun xs=>.ok (x::xs)
 |_,_=>.no
def evO:C->Rho->Res (Option Int)
 |.nil,_=>.ok none
 |.tv a,ρ=>evE a ρ>>=fun x=>intO x.2
 |_,_=>.no
def evG:C->Rho->Res (G×Bool×List D)
 |.tv a,ρ=>evE a ρ>>=fun x=>z6e x.2>>=fun p=>.ok (x.1,p)
 |_,_=>.no
def evW:C->Rho->Res (G×List D)
 |.rng args,ρ=>evA args ρ>>=fun ys=>rngD (ys.map (·.2))>>=fun xs=>.ok (.fr,xs)
 |.tv a,ρ=>evE a ρ>>=fun x=>z4m x.2>>=fun xs=>.ok (x.1,xs)
 |.enum a,ρ=>evE a ρ>>=fun x=>seqR x.2>>=fun xs=>.ok (.al,z0r 0 xs)
 |.zip a b,ρ=>evE a ρ>>=fun x=>evE b ρ>>=fun y=>seqR x.2>>=fun xs=>seqR y.2>>=fun ys=>.ok (.al,zipD xs ys)
 |_,_=>.no
end
def outB:Res Out->(Rho->Res Out)->Res Out
 |.ok (.nx ρ),k=>k ρ
 |r,_=>r
def forD (f:D->Rho->Res Out):List D->Rho->Res Out
 | [],ρ=>.ok (.nx ρ)
 |x::xs,ρ=>match f x ρ with
  |.ok (.nx ρ')=>forD f xs ρ'
  |.ok (.ct ρ')=>forD f xs ρ'
  |.ok (.bk ρ')=>.ok (.nx ρ')
  |.ok (.rt g d)=>.ok (.rt g d)
  |.exc e=>.exc e
  |.no=>.no
def putAt (xs:List D)(ys:List GD):Res (List D):=match ys with
 | [x,y]=>(match x.2 with
  |.int i=>if okIn y&&decide (xs.length<LIM)&&decide (0<=i)&&decide (i<=xs.length)then .ok (xs.take i.toNat++y.2::xs.drop i.toNat)else .no
  |_=>.no)
 |_=>.no
def zi1 (xs:List D)(ys:List GD):Res (List D):=match ys with
 | [x]=>(match x.2 with
  |.int i=>if decide (0<=i)&&decide (i<xs.length)&&decide (xs.length<=LIM)then .ok (xs.eraseIdx i.toNat)else .no
  |_=>.no)
 |_=>.no
def mutD (m:String)(xs:List D)(ys:List GD):Res (List D):=
 if m="append"then(match ys with| [y]=>if okIn y&&decide (xs.length<LIM)then .ok (xs++[y.2])else .no|_=>.no)
 else if m="insert"then putAt xs ys
 else if m="pop"then zi1 xs ys
 else .no
def ownB (ρ:Rho)(i:Nat):Bool:=match ρ[i]? with
 |some (some (.fr,_))=>true
 |_=>false
def zco (i:Nat)(ρ:Rho):Res (G×List D×Rho):=match ρ[i]? with
 |some (some (.fr,d))=>z4m d>>=fun xs=>.ok (.al,xs,ρ.set i (some (.al,d)))
 |_=>.no
def zg6:Option GD->Option GD
 |some (.fr,.list xs)=>some (.al,.list xs)
 |s=>s
def evAl (x:GD)(ρ:Rho):Res (G×List D×Rho):=match x.2 with
 |.list xs=>if imms xs then .ok (.al,xs,ρ.map zg6)else .no
 |_=>.no
def z3l (x:GD):Bool:=match x.2 with
 |.list _=>!(x.1==.al)
 |d=>!(x.1==.al)||imm d
def evEn (ys:List GD)(ρ:Rho):Res (G×List D×Rho):=match ys with
 | [x]=>if z3l x then seqR x.2>>=fun xs=>.ok (.al,z0r 0 xs,ρ)else .no
 |_=>.no
def evZi (ys:List GD)(ρ:Rho):Res (G×List D×Rho):=match ys with
 | [x,y]=>if z3l x&&z3l y then seqR x.2>>=fun xs=>seqR y.2>>=fun zs=>.ok (.al,zipD xs zs,ρ)else .no
 |_=>.no
def isAl (it:C)(ρ:Rho):Bool:=match evW Κ Φ it ρ with
 |.ok w=>w.1==.al
 |_=>false
def evN (it:C)(ρ:Rho):Res (G×List D×Rho):=evW Κ Φ it ρ>>=fun w=>if w.1==.al then .no else .ok (w.1,w.2,ρ)
def evF (it:C)(ρ:Rho):Res (G×List D×Rho):=match it with
 |.tv (.var i)=>if ownB ρ i then zco i ρ else if isAl Κ Φ it ρ then evE Κ Φ (.var i) ρ>>=fun x=>evAl x ρ else evN Κ Φ it ρ
 |.tv a=>if isAl Κ Φ it ρ then evE Κ Φ a ρ>>=fun x=>evAl x ρ else evN Κ Φ it ρ
 |.enum a=>evA Κ Φ (.cons a .nil) ρ>>=fun ys=>evEn ys ρ
 |.zip a b=>evA Κ Φ (.cons a (.cons b .nil)) ρ>>=fun ys=>evZi ys ρ
 |it=>evN Κ Φ it ρ
def excOf:Res GD->Option Str
 |.exc (.str c)=>some c
 |_=>none
def frzS:Option GD->Option GD
 |some (.fr,d)=>some (.nu,d)
 |s=>s
def evS:S->Rho->Res Out
 |.nil,ρ=>.ok (.nx ρ)
 |.seq a b,ρ=>outB (evS a ρ) (evS b)
 |.bad,_=>.no
 |.asg (.nm i) e,ρ=>evE Κ Φ e ρ>>=fun x=>.ok (.nx (ρ.set i (some (z16 x))))
 |.asg t e,ρ=>evE Κ Φ e ρ>>=fun x=>z0x t x ρ>>=fun ρ'=>.ok (.nx ρ')
 |.mut m i args,ρ=>evA Κ Φ args ρ>>=fun ys=>match ρ[i]? with
  |some (some (.fr,.list xs))=>mutD m xs ys>>=fun xs'=>.ok (.nx ((ρ.set i (some (.fr,.list xs'))).map z5e))
  |_=>.no
 |.ret e,ρ=>match e with
  |.var i=>match ρ[i]? with
   |some (some (g,d))=>.ok (.rt (if imm d then .fr else rtG g) d)
   |_=>.no
  |e=>evE Κ Φ e ρ>>=fun x=>.ok (.rt (rtG x.1) x.2)
 |.ifS c a b,ρ=>evT Κ Φ c ρ>>=fun k=>if k then evS a ρ else evS b ρ
 |.for_ t it b,ρ=>evF Κ Φ it ρ>>=fun w=>forD (fun x ρ1=>z0x t (gJ x w.1,x) ρ1>>=fun ρ2=>evS b ρ2) w.2.1 w.2.2
 |.cnt,ρ=>.ok (.ct ρ)
mutual
def exE:C->Rho->Option Str
 |.call k _ args,ρ=>match evA Κ Φ args ρ with
  |.ok ys=>(match Φ[k]? with|some m=>excOf (m (ys.map (·.2)))|none=>none)
  |_=>exA args ρ
 |_,_=>none
def exA:C->Rho->Option Str
 |.cons a r,ρ=>match evE Κ Φ a ρ with
  |.ok _=>exA r ρ
  |_=>exE a ρ
 |_,_=>none
end
def exT:C->Rho->Option Str
 |.not a,ρ=>exT a ρ
 |.tv a,ρ=>exE Κ Φ a ρ
 |_,_=>none
def forX (f:D->Rho->Res Out)(g:D->Rho->Option Str):List D->Rho->Option Str
 | [],_=>none
 |x::xs,ρ=>match f x ρ with
  |.ok (.nx ρ')=>forX f g xs ρ'
  |.ok (.ct ρ')=>forX f g xs ρ'
  |.ok _=>none
  |_=>g x ρ
def evX:S->Rho->Option Str
 |.seq a b,ρ=>match evS Κ Φ a ρ with
  |.ok (.nx ρ')=>evX b ρ'
  |.ok _=>none
  |_=>evX a ρ
 |.ifS c a b,ρ=>match evT Κ Φ c ρ with
  |.ok k=>if k then evX a ρ else evX b ρ
  |_=>exT Κ Φ c ρ
 |.ret e,ρ=>exE Κ Φ e ρ
 |.asg (.nm _) e,ρ=>exE Κ Φ e ρ
 |.for_ t it b,ρ=>match evF Κ Φ it ρ with
  |.ok w=>forX (fun x ρ1=>z0x t (gJ x w.1,x) ρ1>>=fun ρ2=>evS Κ Φ b ρ2) (fun x ρ1=>match z0x t (gJ x w.1,x) ρ1 with|.ok ρ2=>evX b ρ2|_=>none) w.2.1 w.2.2
  |_=>none
 |_,_=>none
def runD (n:Nat)(s:S)(ds:List D):Res GD:=match evS Κ Φ s (ds.map (fun d=>some (.od,d))++bj (n-ds.length) none)with
 |.ok (.nx _)=>.ok (.fr,.none)
 |.ok (.rt g d)=>.ok (g,d)
 |.ok _=>.no
 |_=>match evX Κ Φ s (ds.map (fun d=>some (.od,d))++bj (n-ds.length) none)with
  |some c=>.exc (.str c)
  |none=>.no
end
end Mi
namespace Mi
open PySem PySem.Spec PyProof.Rows L2
def kD:Key->D
 |.inl i=>.int i
 |.inr x=>.str x
def keyOk:Key->Prop
 |.inl _=>True
 |.inr x=>PyData.strOk x=true
def KL (K:W.Frag)(a:Addr)(xs:List V):Prop:=∃(o:Obj) (its:Array Value) (n:Nat),K.lookup a=some o/\o.cls=.type "list"/\o.dict=none/\o.data=.seq its n/\its.size<=az/\Vals xs its.toList
abbrev Ad:=Option Addr
def FL (K:W.Frag)(H:Hp)(a:Addr)(xs:List V):Prop:=(∃o,H a=some (.frz o (.lst xs)))\/KL K a xs
def nw (H:Hp):Ad->Prop
 |some a=>H a=none
 |none=>False
section
variable (K:W.Frag)(H:Hp)(B:Ad->Prop)
mutual
def Rep:V->ag->Prop
 |v,.none=>v=.non
 |v,.bool b=>v=.bl b
 |v,.int i=>v=.int i
 |v,.str x=>v=.str x/\PyData.strOk x=true
 |v,.tuple ds=>∃a vs,v=.ref a/\SqT K H a vs/\Reps vs ds
 |v,.list ds=>∃a vs,v=.ref a/\((H a=some (.lst vs)/\B (some a))\/(FL K H a vs/\B none))/\Reps vs ds
 |v,.dict es=>∃a kvs,v=.ref a/\H a=some (.dK kvs)/\B (some a)/\REs kvs es
def Reps:List V->List ag->Prop
 |vs,[]=>vs=[]
 |vs,d::ds=>∃v r,vs=v::r/\Rep v d/\Reps r ds
def REs:List (Key×V)->List (ag×ag)->Prop
 |kvs,[]=>kvs=[]
 |kvs,(kd,d)::es=>∃k v r,kvs=(k,v)::r/\kd=kD k/\keyOk k/\Rep v d/\REs r es
end
end
def Fix:HO->Prop
 |.tup _=>True
 |.frz _ (.lst _)=>True
 |.frz _ (.tup _)=>True
 |_=>False
section
variable {K:W.Frag}{H H':Hp}{B B':Ad->Prop}
theorem FL.keep {a:Addr}{vs:List V}(hH:∀a o,H a=some o->(B (some a)\/Fix o)->H' a=some o)(r:FL K H a vs):FL K H' a vs:=by
 rcases r with⟨o,r⟩|r
 ·exact .inl ⟨o,hH a _ r (.inr True.intro)⟩
 ·exact .inr r
theorem _root_.L2.SqT.keep {a:Addr}{vs:List V}(hH:∀a o,H a=some o->(B (some a)\/Fix o)->H' a=some o)(r:SqT K H a vs):SqT K H' a vs:=by
 rcases r with(r|⟨o,r⟩)|r
 ·exact .inl (.inl (hH a _ r (.inr True.intro)))
 ·exact .inl (.inr ⟨o,hH a _ r (.inr True.intro)⟩)
 ·exact .inr r
mutual
theorem Rep.keep (hH:∀a o,H a=some o->(B (some a)\/Fix o)->H' a=some o)(hB:∀a,B a->B' a):∀{v:V} (d:ag),Rep K H B v d->Rep K H' B' v d
 |v,.none,r=>r
 |v,.bool b,r=>r
 |v,.int i,r=>r
 |v,.str x,r=>r
 |v,.tuple ds,r=>by obtain⟨a,vs,e,h,q⟩:=r;exact⟨a,vs,e,h.keep hH,Reps.keep hH hB ds q⟩
 |v,.list ds,r=>by
  obtain⟨a,vs,e,h,q⟩:=r;refine⟨a,vs,e,?_,Reps.keep hH hB ds q⟩;rcases h with⟨h,b⟩|h
  ·exact .inl ⟨hH a _ h (.inl b),hB _ b⟩
  ·exact .inr ⟨FL.keep hH h.1,hB _ h.2⟩
 |v,.dict es,r=>by obtain⟨a,kvs,e,h,b,q⟩:=r;exact⟨a,kvs,e,hH a _ h (.inl b),hB _ b,REs.keep hH hB es q⟩
theorem Reps.keep (hH:∀a o,H a=some o->(B (some a)\/Fix o)->H' a=some o)(hB:∀a,B a->B' a):∀{vs:List V} (ds:List ag),Reps K H B vs ds->Reps K H' B' vs ds
 |vs,[],r=>r
 |vs,d::ds,r=>by obtain⟨v,t,e,h,q⟩:=r;exact⟨v,t,e,Rep.keep hH hB d h,Reps.keep hH hB ds q⟩
theorem REs.keep (hH:∀a o,H a=some o->(B (some a)\/Fix o)->H' a=some o)(hB:∀a,B a->B' a):∀{kvs:List (Key×V)} (es:List (ag×ag)),REs K H B kvs es->REs K H' B' kvs es
 |kvs,[],r=>r
 |kvs,(kd,d)::es,r=>by obtain⟨k,v,t,e,e2,ok,h,q⟩:=r;exact⟨k,v,t,e,e2,ok,Rep.keep hH hB d h,REs.keep hH hB es q⟩
end
theorem Rep.same {v:V}{d:D}(s:Same H H')(hB:∀a,B a->B' a)(r:Rep K H B v d):Rep K H' B' v d:=Rep.keep (fun a o e _=>s a o e) hB d r
theorem Reps.same {vs:List V}{ds:List D}(s:Same H H')(hB:∀a,B a->B' a)(r:Reps K H B vs ds):Reps K H' B' vs ds:=Reps.keep (fun a o e _=>s a o e) hB ds r
theorem REs.same {vs:List (Key×V)}{ds:Ents}(s:Same H H')(hB:∀a,B a->B' a)(r:REs K H B vs ds):REs K H' B' vs ds:=REs.keep (fun a o e _=>s a o e) hB ds r
theorem Rep.weak {v:V}{d:D}(hB:∀a,B a->B' a)(r:Rep K H B v d):Rep K H B' v d:=r.same (fun _ _ e=>e) hB
theorem Reps.weak {v:List V}{d:List D}(hB:∀a,B a->B' a)(r:Reps K H B v d):Reps K H B' v d:=r.same (fun _ _ e=>e) hB
mutual
theorem Rep.immB:∀{v:V} (d:ag),imm d=true->Rep K H B v d->Rep K H B' v d
 |v,.none,_,r=>r
 |v,.bool b,_,r=>r
 |v,.int i,_,r=>r
 |v,.str x,_,r=>r
 |v,.tuple ds,i,r=>by obtain⟨a,vs,e,h,q⟩:=r;exact⟨a,vs,e,h,Reps.immB ds (i) q⟩
 |v,.list ds,i,r=>by cases(show false=true from i)
 |v,.dict es,i,r=>by cases(show false=true from i)
theorem Reps.immB:∀{vs:List V} (ds:List ag),imms ds=true->Reps K H B vs ds->Reps K H B' vs ds
 |vs,[],_,r=>r
 |vs,d::ds,i,r=>by have i:=aw.mp (show(imm d&&imms ds)=true from i);obtain⟨v,t,e,h,q⟩:=r;exact⟨v,t,e,Rep.immB d i.1 h,Reps.immB ds i.2 q⟩
end
mutual
theorem Rep.immK (hH:∀a o,H a=some o->Fix o->H' a=some o):∀{v:V} (d:ag),imm d=true->Rep K H B v d->Rep K H' B' v d
 |v,.none,_,r=>r
 |v,.bool b,_,r=>r
 |v,.int i,_,r=>r
 |v,.str x,_,r=>r
 |v,.tuple ds,i,r=>by obtain⟨a,vs,e,h,q⟩:=r;exact⟨a,vs,e,h.keep (B:=fun _=>False) (fun a o e f=>hH a o e (f.resolve_left id)),Reps.immK hH ds (i) q⟩
 |v,.list ds,i,r=>by cases(show false=true from i)
 |v,.dict es,i,r=>by cases(show false=true from i)
theorem Reps.immK (hH:∀a o,H a=some o->Fix o->H' a=some o):∀{vs:List V} (ds:List ag),imms ds=true->Reps K H B vs ds->Reps K H' B' vs ds
 |vs,[],_,r=>r
 |vs,d::ds,i,r=>by have i:=aw.mp (show(imm d&&imms ds)=true from i);obtain⟨v,t,e,h,q⟩:=r;exact⟨v,t,e,Rep.immK hH d i.1 h,Reps.immK hH ds i.2 q⟩
end
theorem Reps.length:∀{vs:List V} {ds:List D},Reps K H B vs ds->vs.length=ds.length
 |vs,[],r=>by have e:vs=[]:=r;subst e;rfl
 |vs,d::ds,r=>by obtain⟨v,t,e,h,q⟩:=r;subst e;rw[ay,ay,q.length]
theorem Reps.get:∀{vs:List V} {ds:List D} {i:Nat} {d:D},Reps K H B vs ds->ds[i]?=some d->∃v,vs[i]?=some v/\Rep K H B v d
 |vs,[],i,d,r,e=>by simp at e
 |vs,d0::ds,0,d,r,e=>by
  obtain⟨v,t,e1,h,q⟩:=r;subst e1;have:d0=d:=by simpa using e
  subst this;exact⟨v,rfl,h⟩
 |vs,d0::ds,i+1,d,r,e=>by obtain⟨v,t,e1,h,q⟩:=r;subst e1;obtain⟨u,h1,h2⟩:=q.get (i:=i) (d:=d) (by simpa using e);exact⟨u,by simpa using h1,h2⟩
theorem Reps.getV:∀{vs:List V} {ds:List D} {i:Nat} {v:V},Reps K H B vs ds->vs[i]?=some v->∃d,ds[i]?=some d/\Rep K H B v d
 |vs,[],i,v,r,e=>by have e1:vs=[]:=r;subst e1;simp at e
 |vs,d0::ds,0,v,r,e=>by
  obtain⟨u,t,e1,h,q⟩:=r;subst e1;have:u=v:=by simpa using e
  subst this;exact⟨d0,rfl,h⟩
 |vs,d0::ds,i+1,v,r,e=>by obtain⟨u,t,e1,h,q⟩:=r;subst e1;obtain⟨d,h1,h2⟩:=q.getV (i:=i) (v:=v) (by simpa using e);exact⟨d,by simpa using h1,h2⟩
theorem Reps.cons {v:V}{d:D}{vs:List V}{ds:List D}(h:Rep K H B v d)(r:Reps K H B vs ds):Reps K H B (v::vs) (d::ds):=⟨v,vs,rfl,h,r⟩
theorem Reps.append:∀{vs ws:List V} {ds es:List D},Reps K H B vs ds->Reps K H B ws es->Reps K H B (vs++ws) (ds++es)
 |vs,ws,[],es,r,q=>by have e:vs=[]:=r;subst e;exact q
 |vs,ws,d::ds,es,r,q=>by obtain⟨v,t,e,h,p⟩:=r;subst e;exact⟨v,t++ws,rfl,h,p.append q⟩
theorem Reps.take:∀{vs:List V} {ds:List D} (n:Nat),Reps K H B vs ds->Reps K H B (vs.take n) (ds.take n)
 |vs,ds,0,r=>by rw[List.take_zero,List.take_zero];exact rfl
 |vs,[],n+1,r=>by have e:vs=[]:=r;subst e;exact rfl
 |vs,d::ds,n+1,r=>by obtain⟨v,t,e,h,p⟩:=r;subst e;exact⟨v,t.take n,rfl,h,p.take n⟩
theorem Reps.drop:∀{vs:List V} {ds:List D} (n:Nat),Reps K H B vs ds->Reps K H B (vs.drop n) (ds.drop n)
 |vs,ds,0,r=>r
 |vs,[],n+1,r=>by have e:vs=[]:=r;subst e;exact rfl
 |vs,d::ds,n+1,r=>by obtain⟨v,t,e,h,p⟩:=r;subst e;exact p.drop n
theorem Reps.set {v:V}{d:D}(h:Rep K H B v d):∀{vs:List V} {ds:List D} (n:Nat),Reps K H B vs ds->Reps K H B (vs.set n v) (ds.set n d)
 |vs,[],n,r=>by have e:vs=[]:=r;subst e;exact rfl
 |vs,d::ds,0,r=>by obtain⟨u,t,e,_,p⟩:=r;subst e;exact⟨_,_,rfl,h,p⟩
 |vs,d::ds,n+1,r=>by obtain⟨u,t,e,h0,p⟩:=r;subst e;exact⟨_,_,rfl,h0,p.set h n⟩
mutual
theorem Rep.there:∀{v:V} (d:ag),Rep K H B v d->Rep K H (fun a=>B a/\¬nw H a) v d
 |v,.none,r=>r
 |v,.bool b,r=>r
 |v,.int i,r=>r
 |v,.str x,r=>r
 |v,.tuple ds,r=>by obtain⟨a,vs,e,h,q⟩:=r;exact⟨a,vs,e,h,Reps.there ds q⟩
 |v,.list ds,r=>by
  obtain⟨a,vs,e,h,q⟩:=r;refine⟨a,vs,e,?_,Reps.there ds q⟩;rcases h with⟨h,b⟩|h
  ·refine .inl ⟨h,b,fun z=>?_⟩;have z':H a=none:=z;rw[h]at z';cases z'
  ·exact .inr ⟨h.1,h.2,fun z=>z⟩
 |v,.dict es,r=>by obtain⟨a,kvs,e,h,b,q⟩:=r;exact⟨a,kvs,e,h,⟨b,fun z=>by have z':H a=none:=z;rw[h]at z';cases z'⟩,REs.there es q⟩
theorem Reps.there:∀{vs:List V} (ds:List ag),Reps K H B vs ds->Reps K H (fun a=>B a/\¬nw H a) vs ds
 |vs,[],r=>r
 |vs,d::ds,r=>by obtain⟨v,t,e,h,q⟩:=r;exact⟨v,t,e,Rep.there d h,Reps.there ds q⟩
theorem REs.there:∀{kvs:List (Key×V)} (es:List (ag×ag)),REs K H B kvs es->REs K H (fun a=>B a/\¬nw H a) kvs es
 |kvs,[],r=>r
 |kvs,(kd,d)::es,r=>by obtain⟨k,v,t,e,e2,ok,h,q⟩:=r;exact⟨k,v,t,e,e2,ok,Rep.there d h,REs.there es q⟩
end
end
structure Fm where
 H0:Hp
 V:Addr->Prop
 O:Addr->Option Nat
 z:Prop
def Bin (F:Fm):Ad->Prop
 |some a=>F.O a=none/\F.H0 a=none/\F.V a
 |none=>False
def visA (F:Fm):Ad->Prop
 |some a=>F.V a
 |none=>F.z
def oldA (F:Fm):Ad->Prop
 |some a=>F.H0 a≠none/\F.V a
 |none=>F.z
def Slot (K:W.Frag)(F:Fm)(H:Hp)(i:Nat):G->V->D->Prop
 |.fr,v,d=>∃p,v=.ref p/\F.O p=some i/\((∃vs ds,d=.list ds/\H p=some (.lst vs)/\Reps K H (Bin F) vs ds)\/(∃kvs es,d=.dict es/\H p=some (.dK kvs)/\REs K H (Bin F) kvs es))
 |.od,v,d=>Rep K H (oldA F) v d
 |.al,v,d=>Rep K H (visA F) v d
 |.nu,v,d=>Rep K H (Bin F) v d
structure StOk (K:W.Frag)(F:Fm)(H:Hp)(σ:L2.St)(ρ:Rho):Prop where
 ext:Same F.H0 H
 vis:∀a,H a=none->F.V a
 own:∀a i,F.O a=some i->F.H0 a=none/\F.V a/\((∃xs,H a=some (.lst xs))\/∃kvs,H a=some (.dK kvs))
 len:σ.length=ρ.length
 sl:∀i g d,ρ[i]?=some (some (g,d))->∃v,σ[i]?=some (some v)/\Slot K F H i g v d
def BG (F:Fm)(H:Hp):G->Ad->Prop
 |.fr=>nw H
 |.od=>oldA F
 |.al=>visA F
 |.nu=>fun a=>nw H a\/Bin F a
section
variable {K:W.Frag}{F:Fm}{H H':Hp}{σ:L2.St}{ρ:Rho}
theorem Slot.same {i:Nat}{g:G}{v:V}{d:D}(s:Same H H')(h:Slot K F H i g v d):Slot K F H' i g v d:=by
 cases g with
 |fr=>
  obtain⟨p,e,o,h⟩:=h;refine⟨p,e,o,?_⟩;rcases h with⟨vs,ds,e1,e2,r⟩|⟨vs,ds,e1,e2,r⟩
  ·exact .inl ⟨vs,ds,e1,s _ _ e2,r.same s fun _ b=>b⟩
  ·exact .inr ⟨vs,ds,e1,s _ _ e2,r.same s fun _ b=>b⟩
 |od=>exact Rep.same s (fun _ b=>b) h
 |al=>exact Rep.same s (fun _ b=>b) h
 |nu=>exact Rep.same s (fun _ b=>b) h
theorem _root_.L2.Same.none {a:Addr}(s:Same H H')(h:H' a=none):H a=none:=by
 cases e:H a with
 |none=>rfl
 |some o=>rw[s a o e]at h;cases h
theorem StOk.same (s:Same H H')(h:StOk K F H σ ρ):StOk K F H' σ ρ where
 ext:=fun a o e=>s a o (h.ext a o e)
 vis:=fun a e=>h.vis a (s.none e)
 own:=fun a i e=>by
  obtain⟨h1,h3,h2⟩:=h.own a i e;refine⟨h1,h3,?_⟩;rcases h2 with⟨xs,h2⟩|⟨xs,h2⟩
  ·exact .inl ⟨xs,s _ _ h2⟩
  ·exact .inr ⟨xs,s _ _ h2⟩
 len:=h.len
 sl:=fun i g d e=>by obtain⟨v,h1,h2⟩:=h.sl i g d e;exact⟨v,h1,h2.same s⟩
theorem nw.back {a:Ad}(s:Same H H')(h:nw H' a):nw H a:=by
 cases a with
 |none=>exact h
 |some a=>exact s.none h
theorem nw.vis {a:Ad}(hv:∀a,H a=none->F.V a)(h:nw H a):visA F a:=by
 cases a with
 |none=>exact h.elim
 |some a=>exact hv a h
theorem oldA.vis {a:Ad}(h:oldA F a):visA F a:=by
 cases a with
 |none=>exact h
 |some a=>exact h.2
theorem Bin.vis {a:Ad}(h:Bin F a):visA F a:=by
 cases a with
 |none=>exact h.elim
 |some a=>exact h.2.2
theorem BG.back {g:G}{a:Ad}(s:Same H H')(h:BG F H' g a):BG F H g a:=by
 cases g with
 |fr=>exact nw.back s h
 |od=>exact h
 |al=>exact h
 |nu=>exact h.elim (fun h=>.inl (nw.back s h)) .inr
theorem BG.vis {g:G}{a:Ad}(hv:∀a,H a=none->F.V a)(h:BG F H g a):visA F a:=by
 cases g with
 |fr=>exact nw.vis hv h
 |od=>exact oldA.vis h
 |al=>exact h
 |nu=>exact h.elim (nw.vis hv) Bin.vis
theorem Slot.rep {i:Nat}{g:G}{v:V}{d:D}(so:∀a i,F.O a=some i->F.V a)(h:Slot K F H i g v d):Rep K H (visA F) v d:=by
 cases g with
 |fr=>
  obtain⟨p,e,o,h⟩:=h;rcases h with⟨vs,ds,rfl,e2,r⟩|⟨vs,ds,rfl,e2,r⟩
  ·exact⟨p,vs,e,.inl ⟨e2,so _ _ o⟩,r.weak fun _ b=>b.vis⟩
  ·exact⟨p,vs,e,e2,so _ _ o,REs.same (fun _ _ e=>e) (fun _ b=>b.vis) r⟩
 |od=>exact Rep.weak (fun _ b=>b.vis) h
 |al=>exact h
 |nu=>exact Rep.weak (fun _ b=>Bin.vis b) h
theorem StOk.ownV (h:StOk K F H σ ρ):∀a i,F.O a=some i->F.V a:=fun a i e=>(h.own a i e).2.1
theorem StOk.rd (h:StOk K F H σ ρ){i:Nat}{x:GD}(e:rdS ρ[i]?=.ok x):∃v,σ[i]?=some (some v)/\Rep K H (BG F H x.1) v x.2:=by
 cases e1:ρ[i]? with
 |none=>rw[e1]at e;cases e
 |some o=>
  cases o with
  |none=>rw[e1]at e;cases e
  |some gd=>
   obtain⟨g,d⟩:=gd;rw[e1]at e;obtain⟨v,h1,h2⟩:=h.sl i g d e1;have e':x=(if imm d then .fr else rdG g,d):=(Res.ok.inj e).symm;subst e';refine⟨v,h1,?_⟩;by_cases hi:imm d=true
   ·show Rep K H (BG F H (if imm d=true then _ else _)) v d;rw[if_pos hi];exact Rep.immB d hi (h2.rep h.ownV)
   ·show Rep K H (BG F H (if imm d=true then _ else _)) v d;rw[if_neg hi];cases g with
    |fr=>exact h2.rep h.ownV
    |od=>exact h2
    |al=>exact h2
    |nu=>exact Rep.weak (fun _ b=>.inr b) h2
end
structure Gm where
 N:List Str
 sc:Scope
 blk:Bool:=false
 free:List Str
 fns:List (Str×Nat)
 cst:List Str
 cm:Bool:=true
 xc:Option (Str×Str):=none
 sub:List (Str×Str×Bool):=[]
 rs:List Str:=[]
 hnd:List (Str×Str):=[]
section
variable (Γ:Gm)
def visB (i:Nat)(x:Str):Bool:=(Γ.N[i]?==some x)&&(Γ.sc.names.lookup x==some .local||Γ.sc.names.lookup x==some .cell||Γ.sc.names.lookup x==some .free)&& !(x==("__debug__":Str))&& !(x==("__classdict__":Str))
def glB (x:Str):Bool:=(Γ.sc.names.lookup x==some .globalImplicit)&& !(x==("__debug__":Str))
def bltB (x:Str):Bool:=glB Γ x&&Γ.free.contains x&& !(x==("__name__":Str))
def locB (i:Nat)(x:Str):Bool:=(Γ.N[i]?==some x)&&(Γ.sc.names.lookup x==some .local||(!Γ.blk&&Γ.sc.names.lookup x==some .cell))
end
def tgIx:Tg->List Nat
 |.nm i=>[i]
 |.tp is=>is
def zie (scope sc:Scope):Scope:={scope with names:=scope.names.map fun(n,k)=>if(k==.free&&sc.kind==.function&&sc.names.lookup n==some .cell)then(n,.cell)else(n,k)}
def plainT:Expr->Bool
 |.UnaryOp .Not _ _=>false
 |.BoolOp _ _ _=>false
 |.IfExp _ _ _ _=>false
 |.Compare _ _ _ _=>false
 |_=>true
def zej:Expr->Bool
 |.Compare _ _ _ _=>true
 |_=>false
def z4k:Expr->Bool
 |.Slice _ _ _ _=>false
 |_=>true
def z0e:Expr->Bool
 |.Call (.Name _ _) [] [] _=>false
 |_=>true
def z98:Expr->Bool
 |.Set _ _ _=>false
 |_=>true
def isTup:Expr->Bool
 |.Tuple _ _ _=>true
 |_=>false
def vNm:Expr->Option Str
 |.Name x _=>some x
 |_=>none
def vCst:Expr->Option Const
 |.Constant v _ _=>some v
 |_=>none
def vBin:Expr->Option (Expr×jl×Expr)
 |.BinOp l o r _=>some (l,o,r)
 |_=>none
def vUn:Expr->Option (UnaryOp×Expr)
 |.UnaryOp o x _=>some (o,x)
 |_=>none
def vCm:Expr->Option (Expr×List CmpOp×List Expr)
 |.Compare l o r _=>some (l,o,r)
 |_=>none
def vBo:Expr->Option (BoolOp×List Expr×Pos)
 |.BoolOp o xs p=>some (o,xs,p)
 |_=>none
def vIfE:Expr->Option (Expr×Expr×Expr)
 |.IfExp t x y _=>some (t,x,y)
 |_=>none
def vTup:Expr->Option (List Expr)
 |.Tuple es _ _=>some es
 |_=>none
def vLst:Expr->Option (List Expr)
 |.List es _=>some es
 |_=>none
def vDi:Expr->Option (List (Option Expr)×List Expr)
 |.Dict k v _=>some (k,v)
 |_=>none
def vSub:Expr->Option (Expr×Expr)
 |.Subscript x i _=>some (x,i)
 |_=>none
def vSli:Expr->Option (Option Expr×Option Expr×Option Expr)
 |.Slice l h s _=>some (l,h,s)
 |_=>none
def vCa:Expr->Option (Expr×List Expr×List j4×Pos)
 |.Call f es k p=>some (f,es,k,p)
 |_=>none
def vAt:Expr->Option (Expr×Str×Pos)
 |.Attribute x n p=>some (x,n,p)
 |_=>none
def vLC:Expr->Option (Expr×List jy×Scope)
 |.ListComp el gs s _=>some (el,gs,s)
 |_=>none
def vOne {α:Type}:List α->Option α
 | [x]=>some x
 |_=>none
def vTwo {α:Type}:List α->Option (α×α)
 | [x,y]=>some (x,y)
 |_=>none
def z2g (e:Expr):Option (Str×List Expr):=(vCa e).bind fun v=>if v.2.2.1.isEmpty then(vNm v.1).map fun x=>(x,v.2.1)else none
def vMt (e:Expr):Option (Expr×Str×List Expr×Bool):=(vCa e).bind fun v=>if v.2.2.1.isEmpty then(vAt v.1).map fun u=>(u.1,u.2.1,v.2.1,u.2.2.endLine==v.2.2.2.line)else none
def z90 (f g:Expr->Bool)(o:BoolOp)(p:Pos):List Expr->Bool
 |x::y::r=>f x&&(if r.isEmpty then g y else g (.BoolOp o (y::r) p))
 |_=>false
def ifsB (n:Bool)(f:Expr->Bool):List Expr->Bool
 | []=>n
 |t::r=>r.isEmpty&&f t
def isNl:C->Bool
 |.nil=>true
 |_=>false
def hd1 (f:Str->Bool)(e:Expr):Bool:=(vNm e).any f
def zgr (Γ:Gm):List Nat->List Expr->Bool
 | [],es=>es.isEmpty
 |i::is,es=>match es with|e::es=>hd1 (locB Γ i) e&&zgr Γ is es| []=>false
def z6r (Γ:Gm):Tg->Expr->Bool
 |.nm i,e=>hd1 (locB Γ i) e
 |.tp is,e=>Γ.cm&&(vTup e).any (zgr Γ is)
def zdp:jl->Bool
 |.Add|.Sub|.Mult|.FloorDiv|.Mod|.Pow=>true
 |_=>false
def z1z:CmpOp->Bool
 |.Is|.IsNot|.GtE=>false
 |_=>true
def okTy (T:String):Bool:=tysB.contains T
def tyB (Γ:Gm)(T:String)(t:Expr):Bool:=hd1 (fun x=>(x==Str.ofString T)&&bltB Γ x&&okTy T) t
def aggs:List String:=["all"]
def tgN:Tg->Bool
 |.nm _=>true
 |.tp _=>false
def isNm:Expr->Bool
 |.Name _ _=>true
 |_=>false
def zcp:C->Expr->Bool
 |.enum _,e=>isTup e
 |.zip _ _,e=>isTup e||isNm e
 |_,_=>true
mutual
def chkE (Γ:Gm):C->Expr->Bool
 |.var i,e=>hd1 (visB Γ i) e
 |.non,e=>decide (vCst e=some .none)
 |.bl b,e=>decide (vCst e=some (.bool b))
 |.int i,e=>decide (vCst e=some (.int i))
 |.str x,e=>decide (vCst e=some (.str x))&&PyData.strOk x
 |.glob k x,e=>hd1 (fun y=>(x==y)&&glB Γ x&&(Γ.cst[k]?==some x)) e
 |.bin op a b,e=>(vBin e).any fun v=>decide (op=v.2.1)&&zdp op&&chkE Γ a v.1&&chkE Γ b v.2.2
 |.cmp op a b,e=>(vCm e).any fun v=>decide (v.2.1=[op])&&(vOne v.2.2).any fun r=>z1z op&& !(gp op r)&&chkE Γ a v.1&&chkE Γ b r
 |.chain op op' a b c,e=>(vCm e).any fun v=>decide (v.2.1=[op,op'])&&(vTwo v.2.2).any fun r=>z1z op&&z1z op'&& !(m6 [op,op'] [r.1,r.2])&&chkE Γ a v.1&&(chkE Γ b r.1&&chkE Γ c r.2)
 |.and a b,e=>(vBo e).any fun v=>decide (v.1=.And)&&z90 (fun x=>chkE Γ a x) (fun x=>chkE Γ b x) .And v.2.2 v.2.1
 |.or a b,e=>(vBo e).any fun v=>decide (v.1=.Or)&&z90 (fun x=>chkE Γ a x) (fun x=>chkE Γ b x) .Or v.2.2 v.2.1
 |.not a,e=>(vUn e).any fun v=>decide (v.1=.Not)&&chkE Γ a v.2
 |.ife c a b,e=>(vIfE e).any fun v=>chkT Γ c v.1&&chkE Γ a v.2.1&&chkE Γ b v.2.2
 |.tup xs,e=>(vTup e).any fun es=>decide (es.length<=1000)&&chkA Γ xs es
 |.lst xs,e=>(vLst e).any fun es=>decide (es.length<=1000)&&chkA Γ xs es
 |.dnew,e=>(vDi e).any fun v=>v.1.isEmpty&&v.2.isEmpty
 |.ix a b,e=>(vSub e).any fun v=>z4k v.2&&chkE Γ a v.1&&chkE Γ b v.2
 |.sl a lo hi,e=>(vSub e).any fun v=>(vSli v.2).any fun s=>s.2.2.isNone&&chkE Γ a v.1&&chkO Γ lo s.1&&chkO Γ hi s.2.1
 |.call k f args,e=>(z2g e).any fun v=>(Γ.cm&&(v.1==f))&&glB Γ v.1&&(Γ.fns[k]?==some (f,v.2.length))&&chkA Γ args v.2&& !v.2.isEmpty
 |.bi f args,e=>(z2g e).any fun v=>(v.1==Str.ofString f)&&bltB Γ v.1&&((["len","int"].contains f)&&(Γ.cm||f=="int"))&&chkA Γ args v.2&& !v.2.isEmpty
 |.agg f a,e=>(z2g e).any fun v=>(v.1==Str.ofString f)&&bltB Γ v.1&&(aggs.contains f&&Γ.cm)&&(vOne v.2).any fun y=>!isStar y&&chkG Γ a y
 |.isT a ts,e=>(z2g e).any fun v=>(v.1==("isinstance":Str))&&bltB Γ v.1&&(vTwo v.2).any fun y=>!isStar y.1&&chkE Γ a y.1&&(vOne ts).any fun T=>tyB Γ T y.2
 |.mt m o args,e=>(vMt e).any fun v=>((v.2.1==Str.ofString m)&& ["join"].contains m&&z0e v.1&&v.2.2.2&&decide (v.2.2.1.length<20))&&chkE Γ o v.1&&chkA Γ args v.2.2.1&& !v.2.2.1.isEmpty
 |.comp nt js N' tg it cond elt,e=>(vLC e).any fun v=>(vOne v.2.1).any fun g=>let Γ':Gm:={Γ with N:=N',sc:=zie v.2.2 Γ.sc,blk:=true,xc:=none}
  ((Γ.cm&&(g.is_async==0))&&(tgIx tg).all (fun i=>decide (i<nt))&&blkB Γ.N Γ.sc v.2.2 N' nt js&&z98 g.iter&&decide N'.Nodup)&&(z6r Γ' tg g.target&&zcp it g.target)&&chkW Γ it g.iter&&ifsB (isNl cond) (fun t=>chkT Γ' cond t) g.ifs&&chkE Γ' elt v.1
 |.spl a b,e=>(vMt e).any fun v=>((v.2.1==("split":Str))&&z0e v.1&&v.2.2.2)&&chkE Γ a v.1&&(vOne v.2.2.1).any fun y=>!isStar y&&chkE Γ b y
 |.upr a,e=>(vMt e).any fun v=>((v.2.1==("upper":Str))&&z0e v.1&&v.2.2.2)&&v.2.2.1.isEmpty&&chkE Γ a v.1
 |.isE b x,e=>(z2g e).any fun v=>(v.1==("isinstance":Str))&&bltB Γ v.1&&(vTwo v.2).any fun y=>Γ.xc.any fun z=>hd1 (fun n=>(n==z.1)&&(Γ.sc.names.lookup n==some .local)&& !(n==("__debug__":Str))&& !(n==("__classdict__":Str))) y.1&&hd1 (fun C=>(C==x)&&glB Γ C&&Γ.sub.contains (z.2,x,b)) y.2
 |.rng _,_=>false
 |.enum _,_=>false
 |.zip _ _,_=>false
 |.tv _,_=>false
 |.nil,_=>false
 |.cons _ _,_=>false
def chkT (Γ:Gm):C->Expr->Bool
 |.and a b,e=>(vBo e).any fun v=>decide (v.1=.And)&&z90 (fun x=>chkT Γ a x) (fun x=>chkT Γ b x) .And v.2.2 v.2.1
 |.or a b,e=>(vBo e).any fun v=>decide (v.1=.Or)&&z90 (fun x=>chkT Γ a x) (fun x=>chkT Γ b x) .Or v.2.2 v.2.1
 |.not a,e=>(vUn e).any fun v=>decide (v.1=.Not)&&chkT Γ a v.2
 |.tv a,e=>(plainT e||zej e)&&chkE Γ a e
 |_,_=>false
def chkA (Γ:Gm):C->List Expr->Bool
 |.nil,es=>es.isEmpty
 |.cons a r,es=>match es with|e::es=>!isStar e&&chkE Γ a e&&chkA Γ r es|_=>false
 |_,_=>false
def chkO (Γ:Gm):C->Option Expr->Bool
 |.nil,e=>e.isNone
 |.tv a,e=>e.any fun e=>chkE Γ a e
 |_,_=>false
def chkW (Γ:Gm):C->Expr->Bool
 |.rng args,e=>(z2g e).any fun v=>(v.1==("range":Str))&&bltB Γ v.1&&chkA Γ args v.2&&(!v.2.isEmpty&&decide (v.2.length<=1))
 |.tv a,e=>z98 e&&chkE Γ a e
 |.enum a,e=>(z2g e).any fun v=>(v.1==("enumerate":Str))&&bltB Γ v.1&&(vOne v.2).any fun y=>!isStar y&&chkE Γ a y
 |.zip a b,e=>(z2g e).any fun v=>(v.1==("zip":Str))&&bltB Γ v.1&&(vTwo v.2).any fun y=>(!isStar y.1&& !isStar y.2)&&chkE Γ a y.1&&chkE Γ b y.2
 |_,_=>false
def chkG (Γ:Gm):C->Expr->Bool
 |.tv a,e=>chkE Γ a e
 |_,_=>false
end
def isCI:C->Bool
 |_=>false
def chkF (Γ:Gm)(it:C)(tg ie:Expr):Bool:=zcp it tg&&chkW Γ it ie
def vAs:Stmt->Option (List Expr×Expr)
 |.Assign t v _=>some (t,v)
 |_=>none
def vEx:Stmt->Option Expr
 |.Expr v _=>some v
 |_=>none
def vRt:Stmt->Option (Option Expr)
 |.Return v _=>some v
 |_=>none
def vIf:Stmt->Option (Expr×List Stmt×List Stmt)
 |.If t A B _=>some (t,A,B)
 |_=>none
def vFo:Stmt->Option (Expr×Expr×List Stmt×List Stmt)
 |.For t i B o _=>some (t,i,B,o)
 |_=>none
def vPs:Stmt->Option Nat
 |.Pass _=>some 0
 |.Break _=>some 1
 |.Continue _=>some 2
 |_=>none
def vRa:Stmt->Option (Str×List Expr)
 |.Raise (some c) none _=>z2g c
 |_=>none
def vEh:ExceptHandler->Option (Str×Str×List Stmt)
 |.ExceptHandler (some (.Name x _)) (some n) b _=>some (x,n,b)
 |_=>none
mutual
def chk1 (Γ:Gm):S->Stmt->Bool
 |.bad,_=>true
 |.asg t e,s=>(vAs s).any fun u=>(vOne u.1).any fun x=>z6r Γ t x&& !isCI e&&(tgN t||(!z1e u.2&& !isTup u.2))&&chkE Γ e u.2
 |.mut m i args,s=>(vEx s).any fun c=>(vMt c).any fun v=>(hd1 (visB Γ i) v.1&&(v.2.1==Str.ofString m)&& ["append","insert","pop"].contains m&&v.2.2.2&&decide (v.2.2.1.length<20))&& !v.2.2.1.isEmpty&&chkA Γ args v.2.2.1
 |.ret e,s=>(vRt s).any fun o=>o.any fun v=>chkE Γ e v
 |.ifS c a b,s=>(vIf s).any fun v=>chkT Γ c v.1&&chkL Γ a v.2.1&&chkL Γ b v.2.2
 |.for_ t it b,s=>Γ.cm&&(vFo s).any fun v=>z6r Γ t v.1&&chkF Γ it v.1 v.2.1&&chkL Γ b v.2.2.1&&v.2.2.2.isEmpty
 |.cnt,s=>decide (vPs s=some 2)
 |.nil,_=>false
 |.seq _ _,_=>false
def chkL (Γ:Gm):S->List Stmt->Bool
 |.nil,l=>l.isEmpty
 |.seq a b,l=>match l with|s::r=>chk1 Γ a s&&chkL Γ b r|_=>false
 |_,_=>false
end
def tD (K:W.Frag)(f:Rho->Res GD):TE:=fun σ H Q=>∃ρ F x,StOk K F H σ ρ/\f ρ=.ok x/\∀v H',Same H H'->Rep K H' (BG F H x.1) v x.2->Q v H'
def tDT (K:W.Frag)(f:Rho->Res Bool):TT:=fun σ H Q=>∃ρ F b,StOk K F H σ ρ/\f ρ=.ok b/\∀H',Same H H'->Q b H'
def tDO (K:W.Frag)(f:Rho->Res (Option Int)):TO:=fun σ H Q=>∃ρ F b,StOk K F H σ ρ/\f ρ=.ok b/\∀H',Same H H'->Q b H'
def RGs (K:W.Frag)(F:Fm)(H H':Hp):List V->List GD->Prop
 |vs,[]=>vs=[]
 |vs,x::xs=>∃v r,vs=v::r/\Rep K H' (BG F H x.1) v x.2/\RGs K F H H' r xs
def tDA (K:W.Frag)(f:Rho->Res (List GD)):TA:=fun σ H Q=>∃ρ F xs,StOk K F H σ ρ/\f ρ=.ok xs/\∀vs H',Same H H'->RGs K F H H' vs xs->Q vs H'
theorem _root_.L2.PE.imp {X:Cx}{e:Expr}{t t':TE}(h:PE X e t)(i:∀σ H Q,t' σ H Q->t σ H Q):PE X e t':=fun pins s σ H Q I q=>h pins s σ H Q I (i σ H Q q)
theorem _root_.L2.PT.imp {X:Cx}{e:Expr}{t t':TT}(h:PT X e t)(i:∀σ H Q,t' σ H Q->t σ H Q):PT X e t':=fun pins s σ H Q I q=>h pins s σ H Q I (i σ H Q q)
theorem _root_.L2.PW.imp {X:Cx}{e:Expr}{t t':TT}(h:PW X e t)(i:∀σ H Q,t' σ H Q->t σ H Q):PW X e t':=fun wh pins s σ H Q I q=>h wh pins s σ H Q I (i σ H Q q)
theorem _root_.L2.PA.imp {X:Cx}{e:List Expr}{t t':TA}(h:PA X e t)(i:∀σ H Q,t' σ H Q->t σ H Q):PA X e t':=fun pos pins s σ H Q I q=>h pos pins s σ H Q I (i σ H Q q)
theorem _root_.L2.PO.imp {X:Cx}{e:Option Expr}{t t':TO}(h:PO X e t)(i:∀σ H Q,t' σ H Q->t σ H Q):PO X e t':=fun pins s σ H Q I q=>h pins s σ H Q I (i σ H Q q)
theorem _root_.L2.PS.imp {X:Cx}{e:Stmt}{t t':TS}(h:PS X e t)(i:∀D σ H,t' D σ H->t D σ H):PS X e t':=fun pins s σ H D I q=>h pins s σ H D I (i D σ H q)
theorem _root_.L2.PSs.imp {X:Cx}{e:List Stmt}{t t':TS}(h:PSs X e t)(i:∀D σ H,t' D σ H->t D σ H):PSs X e t':=fun pins s σ H D I q=>h pins s σ H D I (i D σ H q)
section
variable {K:W.Frag}{F:Fm}{H H1 H':Hp}
theorem RGs.same:∀{vs:List V} {xs:List GD},Same H1 H'->Same H H1->RGs K F H H1 vs xs->RGs K F H H' vs xs
 |vs,[],_,_,r=>r
 |vs,x::xs,s,s0,r=>by obtain⟨v,t,e,h,q⟩:=r;exact⟨v,t,e,h.same s fun _ b=>b,q.same s s0⟩
theorem RGs.back:∀{vs:List V} {xs:List GD},Same H H1->RGs K F H1 H' vs xs->RGs K F H H' vs xs
 |vs,[],_,r=>r
 |vs,x::xs,s,r=>by obtain⟨v,t,e,h,q⟩:=r;exact⟨v,t,e,h.weak fun _ b=>b.back s,q.back s⟩
theorem RGs.reps {B:Ad->Prop}:∀{vs:List V} {xs:List GD},(∀x∈xs,∀a,BG F H x.1 a->B a)->RGs K F H H' vs xs->Reps K H' B vs (xs.map (·.2))
 |vs,[],_,r=>r
 |vs,x::xs,hB,r=>by obtain⟨v,t,e,h,q⟩:=r;exact⟨v,t,e,h.weak (hB x ai),q.reps fun y hy=>hB y (ah _ hy)⟩
theorem RGs.repsV {vs:List V}{xs:List GD}(hv:∀a,H a=none->F.V a)(r:RGs K F H H' vs xs):Reps K H' (visA F) vs (xs.map (·.2)):=r.reps fun _ _ _ h=>h.vis hv
theorem z53 {xs:List GD}{x:GD}{a:Ad}(hv:∀a,H a=none->F.V a)(hx:x∈xs)(h:BG F H x.1 a):BG F H (gAll xs) a:=by
 unfold gAll;by_cases e:(xs.all fun x=>x.1==.fr)=true
 ·rw[if_pos e];have:=(bp.mp e) x hx;have e1:x.1=.fr:=by simpa using this
  rw[e1]at h;exact h
 ·rw[if_neg e];split
  ·rename_i e2;have:=(bp.mp e2) x hx;rcases d9.mp this with e1|e1
   ·rw[eq_of_beq e1]at h;exact .inl h
   ·rw[eq_of_beq e1]at h;exact h
  ·exact h.vis hv
theorem z4l {xs:List GD}{a:Ad}(hv:∀a,H a=none->F.V a)(s:Same H H1)(h:nw H1 a):BG F H (gAll xs) a:=by
 unfold gAll;by_cases e:(xs.all fun x=>x.1==.fr)=true
 ·rw[if_pos e];exact nw.back s h
 ·rw[if_neg e];split
  ·exact .inl (nw.back s h)
  ·exact(nw.back s h).vis hv
theorem z2o {B:Ad->Prop}{v:V}{d:D}{g:G}(r:Rep K H' B v d)(h:∀a,B a->BG F H g a):Rep K H' (BG F H (gJ d g)) v d:=by
 unfold gJ;by_cases e:imm d=true
 ·rw[if_pos e];exact Rep.immB d e r
 ·rw[if_neg e];exact r.weak h
end
def rOp (K:W.Frag)(m:D->D->Res D):R2:=fun x y H Q=>∃Bx By dx dy d,Rep K H Bx x dx/\Rep K H By y dy/\m dx dy=.ok d/\∀w H',Same H H'->Rep K H' (fun a=>nw H a\/Bx a\/By a) w d->Q w H'
def OpD (X:Cx)(f:Value->Value->Sem Value)(m:D->D->Res D):Prop:=OpR X f (rOp X.K m)
def rOpN (K:W.Frag)(m:D->D->Res D):R2:=fun x y H Q=>∃Bx By dx dy d,Rep K H Bx x dx/\Rep K H By y dy/\m dx dy=.ok d/\∀w H',Same H H'->Rep K H' (fun a=>nw H a\/Bx a\/By a) w d->(∀ds,d=.list ds->imms ds=true->Rep K H' (nw H) w d)->Q w H'
def OpN (X:Cx)(f:Value->Value->Sem Value)(m:D->D->Res D):Prop:=OpR X f (rOpN X.K m)
theorem _root_.L2.OpR.imp {X:Cx}{f:Value->Value->Sem Value}{r r':R2}(h:OpR X f r)(i:∀x y H Q,r' x y H Q->r x y H Q):OpR X f r':=fun pins s σ H x y v u Q I rx ry q=>h pins s σ H x y v u Q I rx ry (i x y H Q q)
def z6d (K:W.Frag)(m:List D->Res D):List V->Hp->VK->Prop:=fun xs H Q=>∃B ds d,Reps K H B xs ds/\m ds=.ok d/\∀w H',Same H H'->Rep K H' (fun a=>nw H a\/B a) w d->Q w H'
theorem _root_.L2.CallR.imp {X:Cx}{f:Value}{r r':List V->Hp->VK->Prop}(h:CallR X f r)(i:∀x H Q,r' x H Q->r x H Q):CallR X f r':=fun pins s σ H x v Q I rx q=>h pins s σ H x v Q I rx (i x H Q q)
theorem z5o {x y:Str}(hx:PyData.strOk x=true)(hy:PyData.strOk y=true):PyData.strOk (x++y)=true:=by
 unfold PyData.strOk at *
 show(x.cps++y.cps).all _=true;rw[Array.all_append,hx,hy];rfl
theorem strOk_iff {x:Str}:PyData.strOk x=true↔∀c∈x.cps.toList,c<0x110000:=by unfold PyData.strOk;rw[<-lg];rw[bp];exact⟨fun h c hc=>by simpa using h c hc,fun h c hc=>by simpa using h c hc⟩
theorem z5w {c:Nat}{x:Str}(hx:PyData.strOk x=true)(hc:c∈x.cps.toList):PyData.strOk ⟨#[c]⟩=true:=
 strOk_iff.mpr fun d hd=>by
  have e:d=c:=by simpa using hd
  rw[e];exact strOk_iff.mp hx c hc
theorem z0n {n:Nat}(h:n<=LIM):n<=az:=bw h (by rw[dq];unfold LIM;decide)
theorem _root_.L2.SqT.rel {K:W.Frag}{H H':Hp}{a:Addr}{xs:List V}(s:Same H H')(h:SqT K H a xs):SqT K H' a xs:=h.keep (B:=fun _=>True) fun a o e _=>s a o e
section
variable {X:Cx}
def zq9 (K:W.Frag):R2:=fun x y H Q=>∃l b xs zs,x=.ref l/\y=.ref b/\SqL K H l xs/\SqL K H b zs/\xs.length+zs.length<=az/\∀p,H p=none->Q (.ref p) (upd H p (.lst (xs++zs)))
theorem zij:OpR X (gj .Add) (zq9 X.K):=by
 intro pins s σ H x y v u Q I rx ry h;obtain⟨l,b,xs,zs,rfl,rfl,hH,hB,hz,q⟩:=h;cases rx;cases ry;obtain⟨its,r1,p1,_⟩:=I.list hH;obtain⟨its2,r2,p2,_⟩:=I.list hB;obtain⟨⟨cls,dd,data,sl⟩,n,ho,hc,_,hd⟩:=p1;obtain⟨⟨cls2,dd2,data2,sl2⟩,n2,ho2,hc2,_,hd2⟩:=p2;simp only at hc hd hc2 hd2;subst hc hd hc2 hd2;have hsz:its.toArray.size+its2.toArray.size<=az:=by rw[ao,ao,<-r1.length,<-r2.length];exact hz
 refine ny ⟨_,ho,rfl⟩ ⟨_,ho2,rfl⟩ noFill_list_add seq_list_add PySem.F.slot_list_add PySem.F.entry_list_add (PySem.F.args_list_add_2 _ _) (list_addW l b its.toArray its2.toArray n n2 dd dd2 sl sl2 hsz) ⟨ho,ho2,?_⟩;have ea:its.toArray++its2.toArray=(its++its2).toArray:=by simp
 rw[ea];exact⟨.ref _,_,I.lnew (t':=s.toks) (r1.append r2) (by rw[br];exact hz),rfl,q _ I.fresh⟩
def zlg (K:W.Frag):R2:=fun x y H Q=>∃a b ys,x=.ref a/\y=.ref b/\SqT K H a []/\SqT K H b ys/\Q (.ref b) H
theorem zdr:OpR X (gj .Add) (zlg X.K):=by intro pins s σ H x y v u Q I rx ry h;obtain⟨l,b,zs,rfl,rfl,hH,hB,q⟩:=h;cases rx;cases ry;obtain⟨its,r1,p1,_⟩:=I.tuple hH;obtain⟨its2,r2,p2,_⟩:=I.tuple hB;cases r1;obtain⟨⟨cls,dd,data,sl⟩,ho,hc,n,hd⟩:=p1;obtain⟨⟨cls2,dd2,data2,sl2⟩,ho2,hc2,n2,hd2⟩:=p2;simp only at hc hd hc2 hd2;subst hc hd hc2 hd2;refine ny ⟨_,ho,rfl⟩ ⟨_,ho2,rfl⟩ m9 pe PySem.F.slot_tuple_add PySem.F.entry_tuple_add (PySem.F.args_tuple_add_2 _ _) (tuple_addW0 l b _ its2.toArray n n2 dd dd2 sl sl2 (by simp)) ⟨ho,ho2,?_⟩;exact⟨.ref b,H,I,rfl,q⟩
variable {K:W.Frag}{H:Hp}{B:Ad->Prop}{v:V}
theorem z1a {ds:List D}(r:Rep K H B v (.list ds)):∃a vs,v=.ref a/\SqL K H a vs/\Reps K H B vs ds:=by
 obtain⟨a,vs,e,h,q⟩:=r;refine⟨a,vs,e,?_,q⟩;rcases h with⟨h,_⟩|⟨h|h,_⟩
 ·exact .inl (.inl h)
 ·exact .inl (.inr h)
 ·exact .inr h
theorem z1w {p:Addr}{vs:List V}{ds:List D}{B':Ad->Prop}(hp:H p=none)(r:Reps K H B vs ds)(hB:∀a,B a->B' a)(hb:B' (some p)):Rep K (upd H p (.lst vs)) B' (.ref p) (.list ds):=⟨p,vs,rfl,.inl ⟨z02,hb⟩,r.same (Same.upd hp) hB⟩
theorem z4p {p:Addr}{vs:List V}{ds:List D}{B':Ad->Prop}(hp:H p=none)(r:Reps K H B vs ds)(hB:∀a,B a->B' a):Rep K (upd H p (.tup vs)) B' (.ref p) (.tuple ds):=⟨p,vs,rfl,.inl (.inl z02),r.same (Same.upd hp) hB⟩
theorem z1d {α:Type}{a:α}(h:(Res.no:Res α)=.ok a):False:=by cases h
theorem zpt:OpN X (gj .Add) (binD .Add):=by
 refine OpR.imp ((zpf.or zij).or zdr) fun x y H Q h=>?_;obtain⟨Bx,By,dx,dy,d,rx,ry,e,q⟩:=h;cases dx<;>try (exact(z1d e).elim)
 all_goals cases dy<;>try (exact(z1d e).elim)
 case int.int i j=>cases e;have e1:x=.int i:=rx;have e2:y=.int j:=ry;subst e1 e2;exact .inl (.inl (zlq (q _ H (Same.refl H) rfl fun ds z=>by cases z)))
 case str.str i j=>
  have e1:x=.str i:=rx.1;have e2:y=.str j:=ry.1;subst e1 e2;have e:(if i.length+j.length<=LIM then Res.ok (PyData.str (i++j))else Res.no)=Res.ok d:=e;split at e
  ·rename_i hl;cases e;exact .inl (.inl (znc (z0n hl) (q _ H (Same.refl H) ⟨rfl,z5o rx.2 ry.2⟩ fun ds z=>by cases z)))
  ·cases e
 case list.list xs ys=>
  have e:(if xs.length+ys.length<=LIM then Res.ok (PyData.list (xs++ys))else Res.no)=Res.ok d:=e;split at e
  ·rename_i hl;cases e;obtain⟨a,vs,rfl,h1,q1⟩:=z1a rx;obtain⟨b,ws,rfl,h2,q2⟩:=z1a ry;refine .inl (.inr ⟨a,b,vs,ws,rfl,rfl,h1,h2,z0n (by rw[q1.length,q2.length];exact hl),fun p hp=>q _ _ (Same.upd hp) ?_ ?_⟩)
   ·exact z1w hp (Reps.append (q1.weak (B':=fun a=>nw H a\/Bx a\/By a) fun _ z=>.inr (.inl z)) (q2.weak fun _ z=>.inr (.inr z))) (fun _ z=>z) (.inl hp)
   ·intro ds z hi;cases z;exact z1w hp (Reps.immB (B':=nw H) _ hi (Reps.append (q1.weak (B':=fun a=>nw H a\/Bx a\/By a) fun _ z=>.inr (.inl z)) (q2.weak fun _ z=>.inr (.inr z)))) (fun _ z=>z) hp
  ·cases e
 case tuple.tuple xs ys=>
  have e:(if xs.length+ys.length<=LIM then Res.ok (PyData.tuple (xs++ys))else Res.no)=Res.ok d:=e;split at e
  ·rename_i hl;cases e;obtain⟨a,vs,rfl,h1,q1⟩:=rx;obtain⟨b,ws,rfl,h2,q2⟩:=ry;cases vs with
   |nil=>
    have:xs=[]:=by have:=q1.length;exact ja.mp this.symm
    subst this;exact .inr ⟨a,b,ws,rfl,rfl,h1,h2,q _ H (Same.refl H) ⟨b,ws,rfl,h2,q2.weak fun _ z=>.inr (.inr z)⟩ fun ds z=>by cases z⟩
   |cons v0 vr=>
    refine .inl (.inl (.inr (.inr (.inr ⟨a,b,v0::vr,ws,rfl,rfl,h1,h2,by simp,z0n (by rw[q1.length,q2.length];exact hl),fun z=>?_,fun z p hp=>q _ _ (Same.upd hp) ?_ fun ds z=>by cases z⟩))))
    ·subst z;have:ys=[]:=by have:=q2.length;exact ja.mp this.symm
     subst this;rw[dj]at q;exact q _ H (Same.refl H) ⟨a,_,rfl,h1,q1.weak fun _ z=>.inr (.inl z)⟩ fun ds z=>by cases z
    ·exact z4p hp (Reps.append (q1.weak (B':=fun a=>nw H a\/Bx a\/By a) fun _ z=>.inr (.inl z)) (q2.weak fun _ z=>.inr (.inr z))) (fun _ z=>z)
  ·cases e
theorem zcn {f:Value->Value->Sem Value}{m:D->D->Res D}{Cc:Int->Int->Prop}{g:Int->Int->V}{gd:Int->Int->D}(h:OpR X f (rI Cc g))(hg:∀i j H B,Rep X.K H B (g i j) (gd i j))(hm:∀dx dy d,m dx dy=.ok d->∃i j,dx=.int i/\dy=.int j/\Cc i j/\d=gd i j):OpN X f m:=by refine OpR.imp h fun x y H Q h=>?_;obtain⟨Bx,By,dx,dy,d,rx,ry,e,q⟩:=h;obtain⟨i,j,rfl,rfl,c,rfl⟩:=hm dx dy d e;exact⟨i,j,rx,ry,c,q _ H (Same.refl H) (hg i j _ _) fun _ _ _=>hg i j _ _⟩
theorem zp9 {f:Value->Value->Sem Value}{g:Int->Int->V}(h:OpR X f (rI0 g)):OpR X f (rI (fun _ _=>True) g):=OpR.imp h fun x y H Q ⟨i,j,e1,e2,_,q⟩=>⟨i,j,e1,e2,q⟩
theorem zdv:OpR X (gj .FloorDiv) (rI (fun _ j=>0<j/\j<2 ^ 200) fun i j=>.int (i/j)):=opI fun i j _ _ _ _ _ hc q=>by
 refine floordiv_int (by omega) (by rw[Int.fdiv_eq_ediv_of_nonneg i (by omega)];exact q) (.inl (PyProof.noPylong_of_log2 ?_));have h1:j.natAbs≠0:=by omega
 have h2:j.natAbs<2 ^ 200:=by omega
 have h3:=(Nat.log2_lt h1).mpr h2;omega
def zgg:R2:=fun x y H Q=>∃a n,x=.str a/\y=.int n/\(0<=n/\n<=LIM/\a.length*n.toNat<=LIM)/\Q (.str ⟨(z22 n.toNat a.cps.toList).toArray⟩) H
theorem zbd {α:Type}(n:Nat):z22 n ([]:List α)=[]:=by
 unfold z22
 induction n with
 |zero=>rfl
 |succ n ih=>rw[oz,k8,ih];rfl
theorem z5c (a:Array Nat):∀(k:Nat) (acc:List Nat),(bj k a).foldl (·++·) acc.toArray=(acc++z22 k a.toList).toArray
 |0,acc=>by simp[z22]
 |k+1,acc=>by
  rw[oz,List.foldl_cons];have e:acc.toArray++a=(acc++a.toList).toArray:=by simp
  rw[e,z5c a k];show(acc++a.toList++z22 k a.toList).toArray=_;rw[qg];rfl
theorem zd2 {a:Str}{n:Int}(h:0<=n):Txt.mul a n=⟨(z22 n.toNat a.cps.toList).toArray⟩:=by
 unfold Txt.mul;by_cases h1:n<1
 ·obtain rfl:n=0:=by omega
  rw[if_pos h1];rfl
 ·rw[if_neg h1];split
  ·rename_i h2;rcases d9.mp h2 with h2|h2
   ·obtain rfl:n=1:=t8 h2;show a=⟨(a.cps.toList++[]).toArray⟩;rw[dj]
   ·have h3:a.cps.size=0:=t8 h2;have h4:a.cps.toList=[]:=ja.mp (by rw[dh];exact h3);rw[h4,zbd];have h5:a.cps=#[]:=by rw[<-i0 (xs:=a.cps),h4]
    cases a;cases h5;rfl
  ·have :=z5c a.cps n.toNat [];rw[List.nil_append]at this;exact congrArg Str.mk this
theorem zec {a:Str}(h:PyData.strOk a=true)(n:Nat):PyData.strOk ⟨(z22 n a.cps.toList).toArray⟩=true:=by unfold PyData.strOk at h ⊢;rw[<-lg,bp]at h ⊢;intro c hc;have hc:c∈(bj n a.cps.toList).flatten:=hc;obtain⟨l,hl,hcl⟩:=nh.mp hc;rw[(List.mem_replicate.mp hl).2]at hcl;exact h c hcl
theorem zab:OpR X (gj .Mult) zgg:=by intro pins s σ H x y v u Q I rx ry h;obtain⟨a,n,rfl,rfl,⟨h0,hn,h1⟩,q⟩:=h;obtain⟨t,rfl⟩:=rx;obtain⟨t',rfl⟩:=ry;unfold LIM at hn h1;refine SB.mul (PyProof.Rows.mulOk_of a.length n.toNat (aj _) (by omega) (by omega) (by omega) (by omega)) fun t2 k=>?_;rw[zd2 h0];exact⟨.str _,H,I.tok _,⟨_,rfl⟩,q⟩
theorem zlb (op:jl)(h:zdp op=true):OpN X (gj op) (binD op):=by
 cases op<;>try (cases h;done)
 case Add=>exact zpt
 case Sub=>
  refine zcn (zp9 zl5) (gd:=fun i j=>.int (i-j)) (fun _ _ _ _=>rfl) fun dx dy d e=>?_;cases dx<;>try (exact(z1d e).elim)
  cases dy<;>try (exact(z1d e).elim)
  cases e;exact⟨_,_,rfl,rfl,trivial,rfl⟩
 case Mult=>
  refine OpR.imp (zk3.or zab) fun x y H Q h=>?_;obtain⟨Bx,By,dx,dy,d,rx,ry,e,q⟩:=h;cases dx<;>try (exact(z1d e).elim)
  all_goals cases dy<;>try (exact(z1d e).elim)
  case int.int i j=>
   have e:(if(-(2 ^ 64)<i/\i<2 ^ 64)\/(-(2 ^ 64)<j/\j<2 ^ 64)then Res.ok (PyData.int (i*j))else Res.no)=Res.ok d:=e;split at e
   ·rename_i hc;cases e;exact .inl ⟨i,j,rx,ry,hc,q _ H (Same.refl H) rfl fun ds z=>by cases z⟩
   ·cases e
  case str.int a n=>
   have e:(if 0<=n/\n<=LIM/\a.length*n.toNat<=LIM then Res.ok (PyData.str ⟨(z22 n.toNat a.cps.toList).toArray⟩)else Res.no)=Res.ok d:=e;split at e
   ·rename_i hc;cases e;obtain⟨rx1,rx2⟩:=rx;exact .inr ⟨a,n,rx1,ry,hc,q _ H (Same.refl H) ⟨rfl,zec rx2 _⟩ fun ds z=>by cases z⟩
   ·cases e
 case FloorDiv=>
  refine zcn zdv (gd:=fun i j=>.int (i/j)) (fun _ _ _ _=>rfl) fun dx dy d e=>?_;cases dx<;>try (exact(z1d e).elim)
  cases dy<;>try (exact(z1d e).elim)
  rename_i i j;have e:(if 0<j/\j<2 ^ 200 then Res.ok (PyData.int (i/j))else Res.no)=Res.ok d:=e;split at e
  ·rename_i hc;cases e;exact⟨_,_,rfl,rfl,hc,rfl⟩
  ·cases e
 case Mod=>
  refine zcn zjv (gd:=fun i j=>.int (i%j)) (fun _ _ _ _=>rfl) fun dx dy d e=>?_;cases dx<;>try (exact(z1d e).elim)
  cases dy<;>try (exact(z1d e).elim)
  rename_i i j;have e:(if 0<j then Res.ok (PyData.int (i%j))else Res.no)=Res.ok d:=e;split at e
  ·rename_i hc;cases e;exact⟨_,_,rfl,rfl,hc,rfl⟩
  ·cases e
 case Pow=>
  refine zcn zjm (gd:=fun i j=>.int (i ^ j.toNat)) (fun _ _ _ _=>rfl) fun dx dy d e=>?_;cases dx<;>try (exact(z1d e).elim)
  cases dy<;>try (exact(z1d e).elim)
  rename_i i j;have e:(if 0<=j/\j<=1000/\i.natAbs<2 ^ 64 then Res.ok (PyData.int (i ^ j.toNat))else Res.no)=Res.ok d:=e;split at e
  ·rename_i hc;cases e;exact⟨_,_,rfl,rfl,⟨hc.1,by omega,hc.2.2⟩,rfl⟩
  ·cases e
end
section
variable {X:Cx}{pins:List (Addr×Obj)}{σ:L2.St}{H:Hp}{s:ae}{B:Ad->Prop}
mutual
theorem Rep.reads (I:Inv X pins σ H s):∀{v:V} {u:Value} (d:ag) (n:Nat),shal n d=true->Rep X.K H B v d->RelV v u->(∃as,Reads s.heap u d as)/\d.canLay0=true/\d.depth<=n
 |v,u,.none,n,_,r,q=>by have e:v=.non:=r;subst e;cases q;exact⟨⟨[],.none⟩,by simp only[PyData.canLay0],d6 _⟩
 |v,u,.bool b,n,_,r,q=>by have e:v=.bl b:=r;subst e;cases q;exact⟨⟨[],.bool b⟩,by simp only[PyData.canLay0],d6 _⟩
 |v,u,.int b,n,_,r,q=>by have e:v=.int b:=r;subst e;obtain⟨t,rfl⟩:=q;exact⟨⟨[],.int b t⟩,by simp only[PyData.canLay0],d6 _⟩
 |v,u,.str b,n,_,r,q=>by obtain⟨e,ok⟩:v=.str b/\_:=r;subst e;obtain⟨t,rfl⟩:=q;exact⟨⟨[],.str b t⟩,by simp only[PyData.canLay0];exact ok,d6 _⟩
 |v,u,.tuple ds,0,h,r,q=>by cases h
 |v,u,.list ds,0,h,r,q=>by cases h
 |v,u,.tuple ds,n+1,h,r,q=>by obtain⟨a,vs,e,h1,r1⟩:=r;subst e;cases q;obtain⟨its,rv,⟨o,ho,hc,k,hd⟩,_⟩:=I.tuple h1;obtain⟨⟨as,ra⟩,c,dp⟩:=Reps.reads I ds n (h) r1 rv;refine⟨⟨as,.tuple ho hc hd (by simpa using ra)⟩,by simp only[PyData.canLay0];exact c,?_⟩;simp only[PyData.depth];omega
 |v,u,.list ds,n+1,h,r,q=>by obtain⟨a,vs,e,h1,r1⟩:=z1a r;subst e;cases q;obtain⟨its,rv,⟨o,k,ho,hc,_,hd⟩,_⟩:=I.list h1;obtain⟨⟨as,ra⟩,c,dp⟩:=Reps.reads I ds n (h) r1 rv;refine⟨⟨a::as,.list ho hc hd (by simpa using ra)⟩,by simp only[PyData.canLay0];exact c,?_⟩;simp only[PyData.depth];omega
 |v,u,.dict es,n,h,r,q=>by cases n<;>cases h
theorem Reps.reads (I:Inv X pins σ H s):∀{vs:List V} {us:List Value} (ds:List ag) (n:Nat),z2p n ds=true->Reps X.K H B vs ds->Vals vs us->(∃as,ReadsAll s.heap us ds as)/\PyData.canLayAll0 ds=true/\PyData.depthAll ds<=n
 |vs,us,[],n,_,r,q=>by have e:vs=[]:=r;subst e;cases q;exact⟨⟨[],.nil⟩,by simp only[PyData.canLayAll0],d6 _⟩
 |vs,us,d::ds,n,h,r,q=>by
  obtain⟨v,t,e,h1,r1⟩:=r;subst e;rw[z2p,aq]at h;cases q with
  |cons q1 q2=>obtain⟨⟨as,ra⟩,c,dp⟩:=Rep.reads I d n h.1 h1 q1;obtain⟨⟨bs,rb⟩,c2,dp2⟩:=Reps.reads I ds n h.2 r1 q2;refine⟨⟨as++bs,.cons ra rb⟩,by simp only[PyData.canLayAll0,c,c2,Bool.and_self],?_⟩;simp only[PyData.depthAll];exact Nat.max_le.mpr ⟨dp,dp2⟩
end
end
section
variable {X:Cx}
def mB (m:D->D->Res Bool):D->D->Res D:=fun x y=>m x y>>=fun b=>.ok (.bool b)
theorem zb7 {m:D->D->Res Bool}{x y d:D}(h:mB m x y=.ok d):∃b,m x y=.ok b/\d=.bool b:=by obtain⟨b,h1,h2⟩:=Res.bind_ok h;exact⟨b,h1,(Res.ok.inj h2).symm⟩
theorem c_eq (hu:X.A.units+64<cLine):OpD X (cr .Eq) (mB (cmpD .Eq)):=by
 intro pins s σ H x y v u Q I rx ry h;obtain⟨Bx,By,dx,dy,d,r1,r2,e,q⟩:=h;obtain⟨b,e',ed⟩:=zb7 e;subst ed;clear e;have e:=e';clear e';have e:(if(shal 40 dx&&shal 40 dy)=true then Res.ok (eqD dx dy)else Res.no)=Res.ok b:=e;split at e
 ·rename_i hs;cases e;rw[aq]at hs;obtain⟨⟨as,ra⟩,c1,p1⟩:=Rep.reads I dx 40 hs.1 r1 rx;obtain⟨⟨bs,rb⟩,c2,p2⟩:=Rep.reads I dy 40 hs.2 r2 ry;exact SeqAt.compareEq_reads ra rb c1 c2 (by omega) ⟨.bl _,H,I,rfl,q _ H (Same.refl H) rfl⟩
 ·cases e
theorem c_ne (hu:X.A.units+64<cLine):OpD X (cr .NotEq) (mB (cmpD .NotEq)):=by
 intro pins s σ H x y v u Q I rx ry h;obtain⟨Bx,By,dx,dy,d,r1,r2,e,q⟩:=h;obtain⟨b,e',ed⟩:=zb7 e;subst ed;clear e;have e:=e';clear e';have e:(if(shal 40 dx&&shal 40 dy)=true then Res.ok (!eqD dx dy)else Res.no)=Res.ok b:=e;split at e
 ·rename_i hs;cases e;rw[aq]at hs;obtain⟨⟨as,ra⟩,c1,p1⟩:=Rep.reads I dx 40 hs.1 r1 rx;obtain⟨⟨bs,rb⟩,c2,p2⟩:=Rep.reads I dy 40 hs.2 r2 ry;exact SeqAt.compareNe_reads ra rb c1 c2 (by omega) ⟨.bl _,H,I,rfl,q _ H (Same.refl H) rfl⟩
 ·cases e
theorem zio {op:CmpOp}{r:R2}(h:OpR X (cr op) r)(hI:∀i j b H Q,cmpD op (.int i) (.int j)=.ok b->Q (.bl b) H->r (.int i) (.int j) H Q)(hS:∀i j b H Q,cmpD op (.str i) (.str j)=.ok b->Q (.bl b) H->r (.str i) (.str j) H Q)
  (hm:∀dx dy b,cmpD op dx dy=.ok b->(∃i j,dx=.int i/\dy=.int j)\/∃i j,dx=.str i/\dy=.str j):OpD X (cr op) (mB (cmpD op)):=by
 refine OpR.imp h fun x y H Q h=>?_;obtain⟨Bx,By,dx,dy,d,rx,ry,e,q⟩:=h;obtain⟨b,e',ed⟩:=zb7 e;subst ed;clear e;have e:=e';clear e';rcases hm dx dy b e with⟨i,j,rfl,rfl⟩|⟨i,j,rfl,rfl⟩
 ·have e1:x=.int i:=rx;have e2:y=.int j:=ry;subst e1 e2;exact hI i j b H Q e (q _ H (Same.refl H) rfl)
 ·have e1:x=.str i:=rx.1;have e2:y=.str j:=ry.1;subst e1 e2;exact hS i j b H Q e (q _ H (Same.refl H) rfl)
theorem c_lt:OpD X (cr .Lt) (mB (cmpD .Lt)):=zio opLt (fun i j b H Q e q=>by cases e;exact zpj q) (fun i j b H Q e q=>by cases e;exact zr1 q) fun dx dy b e=>by cases dx<;>first|exact(z1d e).elim|(cases dy<;>first|exact .inl ⟨_,_,rfl,rfl⟩|exact .inr ⟨_,_,rfl,rfl⟩|exact(z1d e).elim)
theorem c_le:OpD X (cr .LtE) (mB (cmpD .LtE)):=zio opLe (fun i j b H Q e q=>by cases e;exact zo1 q) (fun i j b H Q e q=>by cases e;exact zq8 q) fun dx dy b e=>by cases dx<;>first|exact(z1d e).elim|(cases dy<;>first|exact .inl ⟨_,_,rfl,rfl⟩|exact .inr ⟨_,_,rfl,rfl⟩|exact(z1d e).elim)
theorem c_gt:OpD X (cr .Gt) (mB (cmpD .Gt)):=zio opGt (fun i j b H Q e q=>by cases e;exact zop q) (fun i j b H Q e q=>by cases e;exact zoi q) fun dx dy b e=>by cases dx<;>first|exact(z1d e).elim|(cases dy<;>first|exact .inl ⟨_,_,rfl,rfl⟩|exact .inr ⟨_,_,rfl,rfl⟩|exact(z1d e).elim)
theorem REs.val {K:W.Frag}{H:Hp}{B:Ad->Prop}(k:Key):∀{kvs:List (Key×V)} {es:Ents},REs K H B kvs es->match z14 es (kD k)with|some d=>∃v,valV kvs k=some v/\Rep K H B v d|none=>valV kvs k=none
 |kvs,[],r=>by have e:kvs=[]:=r;subst e;exact rfl
 |kvs,(kd,d)::es,r=>by
  obtain⟨k',v,t,e,e2,ok,h,q⟩:=r;subst e e2;have ih:=REs.val k q;by_cases z:k'=k
  ·subst z
   have e1:z14 ((kD k',d)::es) (kD k')=some d:=by
    have:eqK (kD k') (kD k')=true:=by cases k'<;>simp[kD,eqK]
    unfold z14;rw[List.find?_cons_of_pos (by exact this)];rfl
   rw[e1];exact⟨v,z2w (p:=(k',v)) rfl,h⟩
  ·have e0:eqK (kD k') (kD k)=false:=by
    rw[qe];intro w;apply z;cases k'<;>cases k<;>simp[kD,eqK]at w<;>rw[w]
   have e1:z14 ((kD k',d)::es) (kD k)=z14 es (kD k):=by unfold z14;rw[List.find?_cons_of_neg (by rw[e0];exact cw)]
   rw[e1,z2s (p:=(k',v)) z];exact ih
theorem zb5 {K:W.Frag}{H:Hp}{B:Ad->Prop}{v:V}{d:D}(h:isK d=true)(r:Rep K H B v d):∃k,d=kD k/\v=kV k/\keyOk k:=by
 cases d<;>try (cases h;done)
 case int i=>exact⟨.inl i,rfl,r,True.intro⟩
 case str x=>exact⟨.inr x,rfl,r.1,r.2⟩
theorem zfa (hu:X.A.units+64<cLine){pins:List (Addr×Obj)}{s:ae}{σ:L2.St}{H:Hp}{x y:V}{v u:Value}{Q:VK}(ng:Bool)(I:Inv X pins σ H s)(rx:RelV x v)(ry:RelV y u)
  {Bx By:Ad->Prop} {dx dy:D} {b:Bool} (r1:Rep X.K H Bx x dx) (r2:Rep X.K H By y dy) (e:inD dx dy=.ok b) (q:Q (.bl (if ng then !b else b)) H):
  wpAny (model X.prog X.w) X.A (cr (if ng then .NotIn else .In) v u) (EP X pins σ Q) X.xe s:=by
 cases dy<;>try (cases e;done)
 case list xs=>
  change(if(shal 40 dx&&z2p 40 xs)=true then Res.ok (xs.any fun y=>eqD y dx)else .no)=_ at e;split at e
  ·rename_i hs;cases e;rw[aq]at hs;obtain⟨⟨as,ra⟩,c1,p1⟩:=Rep.reads I dx 40 hs.1 r1 rx;obtain⟨⟨bs,rb⟩,c2,p2⟩:=Rep.reads I (.list xs) 41 hs.2 r2 ry;have c2':PyData.canLayAll0 xs=true:=by simpa only[PyData.canLay0]using c2
   cases ng
   ·exact SeqAt.in_list_reads rb ra c2' c1 (by omega) ⟨.bl _,H,I,rfl,q⟩
   ·exact SeqAt.notIn_list_reads rb ra c2' c1 (by omega) ⟨.bl _,H,I,rfl,q⟩
  ·cases e
 case tuple xs=>
  change(if(shal 40 dx&&z2p 40 xs)=true then Res.ok (xs.any fun y=>eqD y dx)else .no)=_ at e;split at e
  ·rename_i hs;cases e;rw[aq]at hs;obtain⟨⟨as,ra⟩,c1,p1⟩:=Rep.reads I dx 40 hs.1 r1 rx;obtain⟨⟨bs,rb⟩,c2,p2⟩:=Rep.reads I (.tuple xs) 41 hs.2 r2 ry;have c2':PyData.canLayAll0 xs=true:=by simpa only[PyData.canLay0]using c2
   cases ng
   ·exact SeqAt.in_tuple_reads rb ra c2' c1 (by omega) ⟨.bl _,H,I,rfl,q⟩
   ·exact SeqAt.notIn_tuple_reads rb ra c2' c1 (by omega) ⟨.bl _,H,I,rfl,q⟩
  ·cases e
 case dict es=>
  change(if isK dx=true then Res.ok (z14 es dx).isSome else .no)=_ at e;split at e
  ·rename_i hk;cases e;obtain⟨k,rfl,rfl,_⟩:=zb5 hk r1;obtain⟨a,kvs,rfl,h1,_,h2⟩:=r2;cases ry;have hv:=h2.val k;have g:DGet H a (kV k) (valV kvs k):=DGet.k h1
   have hb:(valV kvs k).isSome=(z14 es (kD k)).isSome:=by
    cases e:z14 es (kD k)with
    |none=>rw[e]at hv;rw[show valV kvs k=none from hv];rfl
    |some d=>rw[e]at hv;obtain⟨v,hv,_⟩:=hv;rw[hv];rfl
   cases ng
   ·exact d_in (by omega) I g rx fun s' I'=>⟨.bl _,H,I',rfl,by rw[hb];exact q⟩
   ·exact zhb (by omega) I g rx fun s' I'=>⟨.bl _,H,I',rfl,by rw[hb];exact q⟩
  ·cases e
 case str z=>
  cases dx<;>try (cases e;done)
  rename_i w;have e1:x=.str w:=r1.1;have e2:y=.str z:=r2.1;subst e1 e2;change(match w.cps.toList with| [c]=>Res.ok (decide (c∈z.cps.toList))|_=>.no)=_ at e;split at e
  ·rename_i c hw;cases e
   have ew:w=⟨#[c]⟩:=by
    obtain⟨cps⟩:=w;have:cps=#[c]:=by rw[<-i0 (xs:=cps)];rw[show cps.toList=[c]from hw]
    rw[this]
   subst ew;cases ng
   ·exact opIn pins s σ H _ _ v u Q I rx ry (zrf q)
   ·exact zhv pins s σ H _ _ v u Q I rx ry (zk0 q)
  ·cases e
theorem c_in (hu:X.A.units+64<cLine):OpD X (cr .In) (mB (cmpD .In)):=by intro pins s σ H x y v u Q I rx ry h;obtain⟨Bx,By,dx,dy,d,r1,r2,e,q⟩:=h;obtain⟨b,e',ed⟩:=zb7 e;subst ed;clear e;have e:=e';clear e';exact zfa hu false I rx ry r1 r2 e (q _ H (Same.refl H) rfl)
theorem zi9 (hu:X.A.units+64<cLine):OpD X (cr .NotIn) (mB (cmpD .NotIn)):=by intro pins s σ H x y v u Q I rx ry h;obtain⟨Bx,By,dx,dy,d,r1,r2,e,q⟩:=h;obtain⟨b,e',ed⟩:=zb7 e;subst ed;clear e;have e:=e';clear e';have e:(inD dx dy>>=fun b=>Res.ok (!b))=Res.ok b:=e;obtain⟨b',e1,e2⟩:=Res.bind_ok e;cases e2;exact zfa hu true I rx ry r1 r2 e1 (q _ H (Same.refl H) rfl)
theorem z6b (hu:X.A.units+64<cLine)(op:CmpOp)(h:z1z op=true):OpD X (cr op) (mB (cmpD op)):=by
 cases op<;>try (cases h;done)
 ·exact c_eq hu
 ·exact c_ne hu
 ·exact c_lt
 ·exact c_le
 ·exact c_gt
 ·exact c_in hu
 ·exact zi9 hu
end
section
variable {X:Cx}{a b c e:Expr}{es:List Expr}{fa fb fc:Rho->Res GD}{pos:Pos}
theorem z45 {e:Expr}{v:V}{d:D}(h:PE X e (tC v))(r:∀H B,Rep X.K H B v d):PE X e (tD X.K fun _=>.ok (.fr,d)):=PE.imp h fun σ H Q ⟨ρ,F,x,so,e,q⟩=>by cases e;exact q v H (Same.refl H) (r H _)
theorem zog {i:Nat}{x:Str}(hN:X.N[i]?=some x)(hv:Vis X.env.scope x)(hd:(x==("__debug__":Str))=false)(hcd:(x==("__classdict__":Str))=false):PE X (.Name x pos) (tD X.K fun ρ=>rdS ρ[i]?):=PE.imp (z2y hN hv hd hcd) fun σ H Q zz=>by obtain⟨ρ,F,x,so,e,q⟩:=zz;obtain⟨v,h1,h2⟩:=so.rd e;exact⟨v,h1,q v H (Same.refl H) h2⟩
theorem zlw {x:Str}{d:D}{g:Addr}(hg:Gl X x)(hm:X.mg x=some (.ref g))(hd:(x==("__debug__":Str))=false)(hi:imm d=true)(r:∀H (B:Ad->Prop),B none->Rep X.K H B (.ref g) d):PE X (.Name x pos) (tD X.K fun _=>.ok (.fr,d)):=PE.imp (zhx (v:=.ref g) hg hm rfl hd) fun σ H Q ⟨ρ,F,x,so,e,q⟩=>by cases e;exact q _ H (Same.refl H) (Rep.immB d hi (r H (fun _=>True) True.intro))
theorem zf8 {K:W.Frag}{F:Fm}{H H':Hp}{B:Ad->Prop}{v:V}{d:D}{g:G}(r:Rep K H' B v d)(h:∀a,B a->BG F H g a)(n:∀ds,d=.list ds->imms ds=true->Rep K H' (nw H) v d):Rep K H' (BG F H (gN d g)) v d:=by
 cases d with
 |list ds=>
  show Rep K H' (BG F H (if imms ds=true then .fr else g)) v _;split
  ·rename_i hi;exact n ds rfl hi
  ·exact r.weak h
 |_=>exact z2o r h
theorem zp0 {op:jl}(ho:zdp op=true)(ha:PE X a (tD X.K fa))(hb:PE X b (tD X.K fb)):PE X (.BinOp a op b pos) (tD X.K fun ρ=>fa ρ>>=fun x=>fb ρ>>=fun y=>binD op x.2 y.2>>=fun d=>.ok (gN d (gAll [x,y]),d)):=
 PE.imp (zns (zlb op ho) ha hb) fun σ H Q zz=>by
  obtain⟨ρ,F,z,so,e,q⟩:=zz;obtain⟨x,e1,e⟩:=Res.bind_ok e;obtain⟨y,e2,e⟩:=Res.bind_ok e;obtain⟨d,e3,e⟩:=Res.bind_ok e;cases e;refine⟨ρ,F,x,so,e1,fun v H1 s1 rv=>⟨ρ,F,y,so.same s1,e2,fun u H2 s2 ru=>⟨_,_,x.2,y.2,d,rv.same s2 fun _ z=>z,ru,e3,fun w H3 s3 rw' nn=>q w H3 ((s1.trans s2).trans s3) (zf8 rw' (fun a h=>?_) fun ds z hi=>(nn ds z hi).weak fun _ z=>nw.back (s1.trans s2) z)⟩⟩⟩;rcases h with h|h|h
  ·exact z4l so.vis (s1.trans s2) h
  ·exact z53 so.vis (x:=x) (by simp) h
  ·exact z53 so.vis (x:=y) (by simp) (h.back s1)
theorem zfr {op:CmpOp}{σ:L2.St}{H:Hp}{Q:VK}(h:tD X.K (fun ρ=>fa ρ>>=fun x=>fb ρ>>=fun y=>cmpD op x.2 y.2>>=fun b=>.ok (.fr,.bool b)) σ H Q):tOp (rOp X.K (mB (cmpD op))) (tD X.K fa) (tD X.K fb) σ H Q:=by obtain⟨ρ,F,z,so,e,q⟩:=h;obtain⟨x,e1,e⟩:=Res.bind_ok e;obtain⟨y,e2,e⟩:=Res.bind_ok e;obtain⟨d,e3,e⟩:=Res.bind_ok e;cases e;exact⟨ρ,F,x,so,e1,fun v H1 s1 rv=>⟨ρ,F,y,so.same s1,e2,fun u H2 s2 ru=>⟨_,_,x.2,y.2,.bool d,rv.same s2 fun _ z=>z,ru,by show(cmpD op x.2 y.2>>=fun b=>Res.ok (PyData.bool b))=_;rw[e3];rfl,fun w H3 s3 rw'=>q w H3 ((s1.trans s2).trans s3) rw'⟩⟩⟩
theorem zp4 {op:CmpOp}(hu:X.A.units+64<cLine)(ho:z1z op=true)(hm:gp op b=false)(ha:PE X a (tD X.K fa))(hb:PE X b (tD X.K fb)):
  PE X (.Compare a [op] [b] pos) (tD X.K fun ρ=>fa ρ>>=fun x=>fb ρ>>=fun y=>cmpD op x.2 y.2>>=fun b=>.ok (.fr,.bool b)):=
 PE.imp (zg8 (z6b hu op ho) ha hb hm) fun σ H Q h=>zfr h
theorem z9z {f:Rho->Res GD}{t:TE}(ht:∀σ H Q,tD X.K f σ H Q->t σ H Q)(hb:∀ρ x,f ρ=.ok x->∃c,x.2=.bool c)(σ:L2.St)(H:Hp)(Q:Bool->Hp->Prop)(h:tDT X.K (fun ρ=>f ρ>>=fun x=>z0z x.2) σ H Q):za9 t σ H Q:=by obtain⟨ρ,F,c,so,e,q⟩:=h;obtain⟨x,e1,e⟩:=Res.bind_ok e;obtain⟨k,e2⟩:=hb ρ x e1;rw[e2]at e;cases e;refine ht σ H _ ⟨ρ,F,x,so,e1,fun v H' s r=>?_⟩;rw[e2]at r;exact⟨k,r,q H' s⟩
theorem zcw {op:CmpOp}{ρ:Rho}{x:GD}(e:(fa ρ>>=fun x=>fb ρ>>=fun y=>cmpD op x.2 y.2>>=fun b=>Res.ok ((.fr,.bool b):GD))=.ok x):∃c,x.2=.bool c:=by obtain⟨x,e1,e⟩:=Res.bind_ok e;obtain⟨y,e2,e⟩:=Res.bind_ok e;obtain⟨d,e3,e⟩:=Res.bind_ok e;cases e;exact⟨d,rfl⟩
theorem zod {op:CmpOp}(hu:X.A.units+64<cLine)(ho:z1z op=true)(hm:gp op b=false)(ha:PE X a (tD X.K fa))(hb:PE X b (tD X.K fb)):
  PT X (.Compare a [op] [b] pos) (tDT X.K fun ρ=>(fa ρ>>=fun x=>fb ρ>>=fun y=>cmpD op x.2 y.2>>=fun b=>Res.ok ((.fr,.bool b):GD))>>=fun x=>z0z x.2):=
 PT.imp (zau (z6b hu op ho) ha hb hm) (z9z (fun σ H Q h=>zfr h) fun ρ x e=>zcw e)
def z77 (op op':CmpOp)(fa fb fc:Rho->Res GD):Rho->Res GD:=fun ρ=>fa ρ>>=fun x=>fb ρ>>=fun y=>cmpD op x.2 y.2>>=fun k=>if k then fc ρ>>=fun z=>cmpD op' y.2 z.2>>=fun k'=>.ok (.fr,.bool k')else .ok (.fr,.bool false)
theorem z8b {op op':CmpOp}{σ:L2.St}{H:Hp}{Q:VK}(h:tD X.K (z77 op op' fa fb fc) σ H Q):zbp (rOp X.K (mB (cmpD op))) (rOp X.K (mB (cmpD op'))) (tD X.K fa) (tD X.K fb) (tD X.K fc) σ H Q:=by
 obtain⟨ρ,F,z,so,e,q⟩:=h;obtain⟨x,e1,e⟩:=Res.bind_ok e;obtain⟨y,e2,e⟩:=Res.bind_ok e;obtain⟨k,e3,e⟩:=Res.bind_ok e;refine⟨ρ,F,x,so,e1,fun v H1 s1 rv=>⟨ρ,F,y,so.same s1,e2,fun u H2 s2 ru=>⟨_,_,x.2,y.2,.bool k,rv.same s2 fun _ z=>z,ru,by show(cmpD op x.2 y.2>>=fun b=>Res.ok (PyData.bool b))=_;rw[e3];rfl,fun w H3 s3 rw'=>⟨k,rw',?_⟩⟩⟩⟩;cases k with
 |false=>cases e;exact iteF (q _ H3 ((s1.trans s2).trans s3) rfl)
 |true=>obtain⟨z',e4,e⟩:=Res.bind_ok e;obtain⟨k',e5,e⟩:=Res.bind_ok e;cases e;refine iteT ⟨ρ,F,z',so.same ((s1.trans s2).trans s3),e4,fun t H4 s4 rt=>⟨_,_,y.2,z'.2,.bool k',ru.same (s3.trans s4) fun _ z=>z,rt,by show(cmpD op' y.2 z'.2>>=fun b=>Res.ok (PyData.bool b))=_;rw[e5];rfl,fun w5 H5 s5 r5=>q _ H5 (((s1.trans s2).trans s3).trans (s4.trans s5)) r5⟩⟩
theorem zhu {op op':CmpOp}(hu:X.A.units+64<cLine)(ho:z1z op=true)(ho':z1z op'=true)(hm:m6 [op,op'] [b,c]=false)(ha:PE X a (tD X.K fa))(hb:PE X b (tD X.K fb))(hc:PE X c (tD X.K fc)):
  PE X (.Compare a [op,op'] [b,c] pos) (tD X.K (z77 op op' fa fb fc)):=
 PE.imp (zdz (z6b hu op ho) (z6b hu op' ho') ha hb hc hm) fun σ H Q h=>z8b h
theorem z94 {op op':CmpOp}{ρ:Rho}{x:GD}(e:z77 op op' fa fb fc ρ=.ok x):∃c,x.2=.bool c:=by
 obtain⟨x,e1,e⟩:=Res.bind_ok e;obtain⟨y,e2,e⟩:=Res.bind_ok e;obtain⟨k,e3,e⟩:=Res.bind_ok e;cases k with
 |false=>cases e;exact⟨_,rfl⟩
 |true=>obtain⟨z',e4,e⟩:=Res.bind_ok e;obtain⟨k',e5,e⟩:=Res.bind_ok e;cases e;exact⟨_,rfl⟩
theorem zik {op op':CmpOp}(hu:X.A.units+64<cLine)(ho:z1z op=true)(ho':z1z op'=true)(hm:m6 [op,op'] [b,c]=false)(ha:PE X a (tD X.K fa))(hb:PE X b (tD X.K fb))(hc:PE X c (tD X.K fc)):
  PT X (.Compare a [op,op'] [b,c] pos) (tDT X.K fun ρ=>z77 op op' fa fb fc ρ>>=fun x=>z0z x.2):=
 PT.imp (zcg (z6b hu op ho) (z6b hu op' ho') ha hb hc hm) (z9z (fun σ H Q h=>z8b h) fun ρ x e=>z94 e)
def andF (fa fb:Rho->Res GD):Rho->Res GD:=fun ρ=>fa ρ>>=fun x=>match x.2 with|.bool c=>if c then fb ρ else .ok (.fr,.bool false)|_=>.no
def orF (fa fb:Rho->Res GD):Rho->Res GD:=fun ρ=>fa ρ>>=fun x=>match x.2 with|.bool c=>if c then .ok (.fr,.bool true)else fb ρ|_=>.no
theorem z4d {f:Rho->Res GD}{ρ:Rho}{F:Fm}{H H1:Hp}{x:GD}{σ:L2.St}{Q:VK}(s1:Same H H1)(so:StOk X.K F H σ ρ)(e:f ρ=.ok x)(q:∀v H',Same H H'->Rep X.K H' (BG F H x.1) v x.2->Q v H'):tD X.K f σ H1 Q:=⟨ρ,F,x,so.same s1,e,fun v H' s r=>q v H' (s1.trans s) (r.weak fun _ b=>b.back s1)⟩
theorem znr {rest:List Expr}(ha:PE X a (tD X.K fa))(hb:PE X (.BoolOp .And (b::rest) pos) (tD X.K fb)):PE X (.BoolOp .And (a::b::rest) pos) (tD X.K (andF fa fb)):=
 PE.imp (zl0 ha hb) fun σ H Q zz=>by
  obtain⟨ρ,F,z,so,e,q⟩:=zz;obtain⟨x,e1,e⟩:=Res.bind_ok e;refine⟨ρ,F,x,so,e1,fun v H1 s1 rv=>?_⟩;obtain⟨g,d⟩:=x;cases d<;>try (cases e;done)
  rename_i c;refine⟨c,rv,?_⟩;cases c with
  |true=>exact iteT (z4d s1 so e q)
  |false=>cases e;exact iteF (q _ H1 s1 rfl)
theorem d_or {rest:List Expr}(ha:PE X a (tD X.K fa))(hb:PE X (.BoolOp .Or (b::rest) pos) (tD X.K fb)):PE X (.BoolOp .Or (a::b::rest) pos) (tD X.K (orF fa fb)):=
 PE.imp (zpq ha hb) fun σ H Q zz=>by
  obtain⟨ρ,F,z,so,e,q⟩:=zz;obtain⟨x,e1,e⟩:=Res.bind_ok e;refine⟨ρ,F,x,so,e1,fun v H1 s1 rv=>?_⟩;obtain⟨g,d⟩:=x;cases d<;>try (cases e;done)
  rename_i c;refine⟨c,rv,?_⟩;cases c with
  |false=>exact iteF (z4d s1 so e q)
  |true=>cases e;exact iteT (q _ H1 s1 rfl)
theorem z9h {K:W.Frag}{H:Hp}{B:Ad->Prop}{v:V}{d:D}{k:Bool}(r:Rep K H B v d)(e:z0z d=.ok k):TruV K v H k:=by
 cases d with
 |none=>cases e;have e1:v=.non:=r;subst e1;exact rfl
 |bool b=>cases e;have e1:v=.bl b:=r;subst e1;exact rfl
 |int b=>cases e;have e1:v=.int b:=r;subst e1;show(!decide (b=0))=(b != 0);rw[bne,lc]
 |str b=>
  have e1:v=.str b:=r.1;subst e1;simp only[z0z]at e;split at e
  ·rename_i hl;cases e;refine⟨z0n hl,?_⟩;show(!decide (b.length=0))=((b.length:Int) != 0);rw[bne,lc]
   congr 1
   rw[decide_eq_decide];omega
  ·cases e
 |tuple ds=>cases e;obtain⟨a,vs,e1,h,q⟩:=r;subst e1;refine .inr (.inl ⟨vs,h,?_⟩);show(!ds.isEmpty)=!vs.isEmpty;have:=q.length;cases vs<;>cases ds<;>simp at this ⊢
 |list ds=>cases e;obtain⟨a,vs,e1,h,q⟩:=z1a r;subst e1;refine .inl ⟨vs,h,?_⟩;show(!ds.isEmpty)=!vs.isEmpty;have:=q.length;cases vs<;>cases ds<;>simp at this ⊢
 |dict es=>
  cases e;obtain⟨a,kvs,e1,h,_,q⟩:=r;subst e1;refine .inr (.inr ⟨kvs,h,?_⟩);show(!es.isEmpty)=!kvs.isEmpty;cases es with
  |nil=>have e2:kvs=[]:=q;subst e2;rfl
  |cons e0 er=>obtain⟨k,v,t,e2,_⟩:=q;subst e2;rfl
theorem zp1 (ha:PE X a (tD X.K fa)):PE X (.UnaryOp .Not a pos) (tD X.K fun ρ=>fa ρ>>=fun x=>z0z x.2>>=fun c=>.ok (.fr,.bool (!c))):=by intro pins s σ H Q I h;obtain⟨ρ,F,z,so,e,q⟩:=h;obtain⟨x,e1,e⟩:=Res.bind_ok e;obtain⟨k,e2,e⟩:=Res.bind_ok e;cases e;refine UnaryOp_ (thn (ha pins s σ H (fun v H1=>Same H H1/\Rep X.K H1 (BG F H x.1) v x.2) I ⟨ρ,F,x,so,e1,fun v H1 s1 rv=>⟨s1,rv⟩⟩) fun v s1 zz=>?_);obtain⟨y,H1,I1,r1,s2,rv⟩:=zz;exact not_of (thn (zft pins s1 σ H1 y v (fun b H2=>b=k/\H2=H1) I1 r1 ⟨k,z9h rv e2,rfl,rfl⟩) fun b s2' zz=>by obtain⟨H2,I2,eb,eH⟩:=zz;subst eb eH;exact⟨.bl _,H2,I2,rfl,q _ H2 s2 rfl⟩)
theorem zpg (ha:PE X e (tD X.K fa))(he:∀whole,oj e X.env whole=(do let v <-whole;q9 e.pos;rc [v] (se v))):PT X e (tDT X.K fun ρ=>fa ρ>>=fun x=>z0z x.2):=PT.imp (zcr ha he) fun σ H Q zz=>by obtain⟨ρ,F,k,so,e,q⟩:=zz;obtain⟨x,e1,e⟩:=Res.bind_ok e;exact⟨ρ,F,x,so,e1,fun v H1 s1 rv=>⟨k,z9h rv e,q H1 s1⟩⟩
section
variable {ta tb:Rho->Res Bool}{rest:List Expr}
theorem z71 {f:Rho->Res Bool}{ρ:Rho}{F:Fm}{H H1:Hp}{x:Bool}{σ:L2.St}{Q:Bool->Hp->Prop}(s1:Same H H1)(so:StOk X.K F H σ ρ)(e:f ρ=.ok x)(q:∀H',Same H H'->Q x H'):tDT X.K f σ H1 Q:=⟨ρ,F,x,so.same s1,e,fun H' s=>q H' (s1.trans s)⟩
theorem w_and (ha:PT X a (tDT X.K ta))(hb:PW X (.BoolOp .And (b::rest) pos) (tDT X.K tb)):PW X (.BoolOp .And (a::b::rest) pos) (tDT X.K fun ρ=>ta ρ>>=fun c=>if c then tb ρ else .ok false):=
 PW.imp (zlr ha hb) fun σ H Q zz=>by
  obtain⟨ρ,F,k,so,e,q⟩:=zz;obtain⟨x,e1,e⟩:=Res.bind_ok e;refine⟨ρ,F,x,so,e1,fun H1 s1=>?_⟩;cases x with
  |true=>exact iteT (z71 s1 so e q)
  |false=>cases e;exact iteF (q H1 s1)
theorem w_or (ha:PT X a (tDT X.K ta))(hb:PW X (.BoolOp .Or (b::rest) pos) (tDT X.K tb)):PW X (.BoolOp .Or (a::b::rest) pos) (tDT X.K fun ρ=>ta ρ>>=fun c=>if c then .ok true else tb ρ):=
 PW.imp (zir ha hb) fun σ H Q zz=>by
  obtain⟨ρ,F,k,so,e,q⟩:=zz;obtain⟨x,e1,e⟩:=Res.bind_ok e;refine⟨ρ,F,x,so,e1,fun H1 s1=>?_⟩;cases x with
  |false=>exact iteF (z71 s1 so e q)
  |true=>cases e;exact iteT (q H1 s1)
theorem z8i (ha:PT X a (tDT X.K ta)):PT X (.UnaryOp .Not a pos) (tDT X.K fun ρ=>ta ρ>>=fun c=>.ok (!c)):=PT.imp (zap ha) fun σ H Q zz=>by obtain⟨ρ,F,k,so,e,q⟩:=zz;obtain⟨x,e1,e⟩:=Res.bind_ok e;cases e;exact⟨ρ,F,x,so,e1,fun H1 s1=>q H1 s1⟩
theorem zox (hc:PT X c (tDT X.K ta))(ha:PE X a (tD X.K fa))(hb:PE X b (tD X.K fb)):PE X (.IfExp c a b pos) (tD X.K fun ρ=>ta ρ>>=fun k=>if k then fa ρ else fb ρ):=
 PE.imp (z7t hc ha hb) fun σ H Q zz=>by
  obtain⟨ρ,F,z,so,e,q⟩:=zz;obtain⟨x,e1,e⟩:=Res.bind_ok e;refine⟨ρ,F,x,so,e1,fun H1 s1=>?_⟩;cases x with
  |true=>exact iteT (z4d s1 so e q)
  |false=>exact iteF (z4d s1 so e q)
end
theorem zlm:PA X [] (tDA X.K fun _=>.ok []):=PA.imp z1v fun σ H Q ⟨ρ,F,z,so,e,q⟩=>by cases e;exact q [] H (Same.refl H) rfl
theorem za5 {fs:Rho->Res (List GD)}(hs:isStar e=false)(ha:PE X e (tD X.K fa))(hr:PA X es (tDA X.K fs)):PA X (e::es) (tDA X.K fun ρ=>fa ρ>>=fun x=>fs ρ>>=fun xs=>.ok (x::xs)):=PA.imp (pa_c ha hr hs) fun σ H Q zz=>by obtain⟨ρ,F,z,so,e,q⟩:=zz;obtain⟨x,e1,e⟩:=Res.bind_ok e;obtain⟨xs,e2,e⟩:=Res.bind_ok e;cases e;refine⟨ρ,F,x,so,e1,fun v H1 s1 rv=>⟨ρ,F,xs,so.same s1,e2,fun vs H2 s2 rs=>q _ H2 (s1.trans s2) ?_⟩⟩;exact⟨v,vs,rfl,rv.same s2 fun _ z=>z,rs.back s1⟩
theorem zpv {x1}{fs:Rho->Res (List GD)}(h:PA X es (tDA X.K fs))(hl:∀ρ xs,fs ρ=.ok xs->xs.length<=az):PE X (.Tuple es x1 pos) (tD X.K fun ρ=>fs ρ>>=fun ys=>.ok (gJ (.tuple (ys.map (·.2))) (gAll ys),.tuple (ys.map (·.2)))):=PE.imp (zfm h) fun σ H Q zz=>by obtain⟨ρ,F,z,so,e,q⟩:=zz;obtain⟨ys,e1,e⟩:=Res.bind_ok e;cases e;refine⟨ρ,F,ys,so,e1,fun vs H1 s1 rs=>?_⟩;have r:=rs.reps (B:=BG F H (gAll ys)) fun x hx a h=>z53 so.vis hx h;refine⟨by rw[r.length,av];exact hl ρ ys e1,fun p hp=>q _ _ (s1.trans (Same.upd hp)) (z2o (z4p hp r fun _ z=>z) fun _ z=>z)⟩
theorem zrl {fs:Rho->Res (List GD)}(h:PA X es (tDA X.K fs))(hl:∀ρ xs,fs ρ=.ok xs->xs.length<=az):PE X (.List es pos) (tD X.K fun ρ=>fs ρ>>=fun ys=>.ok (gAll ys,.list (ys.map (·.2)))):=PE.imp (zek h) fun σ H Q zz=>by obtain⟨ρ,F,z,so,e,q⟩:=zz;obtain⟨ys,e1,e⟩:=Res.bind_ok e;cases e;refine⟨ρ,F,ys,so,e1,fun vs H1 s1 rs=>?_⟩;have r:=rs.reps (B:=BG F H (gAll ys)) fun x hx a h=>z53 so.vis hx h;refine⟨by rw[r.length,av];exact hl ρ ys e1,fun p hp=>q _ _ (s1.trans (Same.upd hp)) (z1w hp r (fun _ z=>z) (z4l so.vis s1 hp))⟩
theorem zm3:PE X (.Dict [] [] pos) (tD X.K fun _=>.ok (.fr,.dict [])):=PE.imp z6y fun σ H Q zz=>by obtain⟨ρ,F,z,so,e,q⟩:=zz;cases e;intro p hp;exact q _ _ (Same.upd hp) ⟨p,[],rfl,z02,hp,rfl⟩
end
theorem zjj {α:Type}(xs:List α)(i:Int):L2.atI xs i=Mi.atI xs i:=rfl
theorem z4y (n d:Nat)(o:Option Int):HT.sIx n d o=Mi.sIx n d o:=by cases o<;>rfl
theorem zby (xs:List V)(lo hi:Option Int):L2.cutV xs lo hi=Mi.cut xs lo hi:=by unfold L2.cutV Mi.cut;rw[z4y,z4y]
theorem Reps.cut {K:W.Frag}{H:Hp}{B:Ad->Prop}{vs:List V}{ds:List D}(lo hi:Option Int)(r:Reps K H B vs ds):Reps K H B (Mi.cut vs lo hi) (Mi.cut ds lo hi):=by unfold Mi.cut;rw[r.length];exact(r.drop _).take _
theorem Reps.atI {K:W.Frag}{H:Hp}{B:Ad->Prop}{vs:List V}{ds:List D}{i:Int}{d:D}(r:Reps K H B vs ds)(e:Mi.atI ds i=some d):∃v,L2.atI vs i=some v/\Rep K H B v d:=by
 unfold Mi.atI at e;cases e1:Mi.ixN ds.length i with
 |none=>rw[e1]at e;cases e
 |some j=>rw[e1]at e;obtain⟨v,h1,h2⟩:=r.get (i:=j) (d:=d) e;refine⟨v,?_,h2⟩;rw[zjj];unfold Mi.atI;rw[r.length,e1];exact h1
section
variable {X:Cx}{a b c e:Expr}{es:List Expr}{fa fb fc:Rho->Res GD}{pos:Pos}
theorem zic (hu:X.A.units+64<cLine):IxR X (fun x y H Q=>∃a v,x=.ref a/\DGet H a y (some v)/\Q v H):=by intro value slice pins s σ H x y v u Q I rx ry h hs;obtain⟨a,z,rfl,g,q⟩:=h;cases rx;exact tail_any (z6a I g) PySem.F.slot_dict_getitem.lookup (z9p (by omega) I g ry fun w' s' I' rw'=>⟨z,H,I',rw',q⟩) hs
def rIxD (K:W.Frag):R2:=fun x y H Q=>∃B B' dx dy d,Rep K H B x dx/\Rep K H B' y dy/\ixD dx dy=.ok d/\∀w,Rep K H B w d->Q w H
theorem zkj (hu:X.A.units+64<cLine):IxR X (rIxD X.K):=by
 intro value slice pins s σ H x y v u Q I rx ry h hs;refine(zp8.or (zic hu)) value slice pins s σ H x y v u Q I rx ry ?_ hs;obtain⟨B,B',dx,dy,d,r1,r2,e,q⟩:=h;cases dx<;>try (cases e;done)
 case list xs=>
  cases dy<;>try (cases e;done)
  rename_i i;have e2:y=.int i:=r2;subst e2;obtain⟨a,vs,rfl,h1,q1⟩:=z1a r1;change Res.ofO (Mi.atI xs i)=_ at e;cases e3:Mi.atI xs i with
  |none=>rw[e3]at e;cases e
  |some d'=>rw[e3]at e;cases e;obtain⟨w,h3,h4⟩:=q1.atI e3;exact .inl (.inl ⟨a,vs,i,w,rfl,rfl,h1,h3,q w h4⟩)
 case tuple xs=>
  cases dy<;>try (cases e;done)
  rename_i i;have e2:y=.int i:=r2;subst e2;obtain⟨a,vs,rfl,h1,q1⟩:=r1;change Res.ofO (Mi.atI xs i)=_ at e;cases e3:Mi.atI xs i with
  |none=>rw[e3]at e;cases e
  |some d'=>rw[e3]at e;cases e;obtain⟨w,h3,h4⟩:=q1.atI e3;exact .inl (.inr (.inl ⟨a,vs,i,w,rfl,rfl,h1,h3,q w h4⟩))
 case str z=>
  cases dy<;>try (cases e;done)
  rename_i i;have e2:y=.int i:=r2;have e1:x=.str z:=r1.1;subst e1 e2;change(if z.length<=LIM then Res.ofO ((Mi.atI z.cps.toList i).map fun c=>PyData.str ⟨#[c]⟩)else .no)=_ at e;split at e
  ·rename_i hl;cases e3:Mi.atI z.cps.toList i with
   |none=>rw[e3]at e;cases e
   |some c=>
    rw[e3]at e;cases e
    have hc:c∈z.cps.toList:=by
     unfold Mi.atI at e3;cases e4:Mi.ixN z.cps.toList.length i with
     |none=>rw[e4]at e3;cases e3
     |some j=>rw[e4]at e3;exact du e3
    exact .inl (.inr (.inr ⟨z,i,c,rfl,rfl,z0n hl,e3,q _ ⟨rfl,z5w r1.2 hc⟩⟩))
  ·cases e
 case dict es=>
  change(if isK _=true then Res.ofO (z14 es _)else Res.no)=_ at e;split at e
  ·rename_i hk;obtain⟨k,rfl,rfl,_⟩:=zb5 hk r2;obtain⟨a,kvs,rfl,h1,_,h2⟩:=r1;have hv:=h2.val k;cases e3:z14 es (kD k)with
   |none=>rw[e3]at e;cases e
   |some d'=>rw[e3]at e hv;cases e;obtain⟨w,h3,h4⟩:=hv;exact .inr ⟨a,w,rfl,by rw[<-h3];exact DGet.k h1,q w h4⟩
  ·cases e
theorem z7o {i:Expr}(h:z4k i=true):z9s i:=fun o v=>by cases i<;>first|rfl|cases h
theorem d_ix {i:Expr}(hu:X.A.units+64<cLine)(hs:z4k i=true)(ha:PE X a (tD X.K fa))(hb:PE X i (tD X.K fb)):
  PE X (.Subscript a i pos) (tD X.K fun ρ=>fa ρ>>=fun x=>fb ρ>>=fun y=>ixD x.2 y.2>>=fun d=>.ok (gJ d x.1,d)):=
 PE.imp (zjt (zkj hu) ha hb (z7o hs)) fun σ H Q zz=>by obtain⟨ρ,F,z,so,e,q⟩:=zz;obtain⟨x,e1,e⟩:=Res.bind_ok e;obtain⟨y,e2,e⟩:=Res.bind_ok e;obtain⟨d,e3,e⟩:=Res.bind_ok e;cases e;exact⟨ρ,F,x,so,e1,fun v H1 s1 rv=>⟨ρ,F,y,so.same s1,e2,fun u H2 s2 ru=>⟨_,_,x.2,y.2,d,rv.same s2 fun _ z=>z,ru,e3,fun w rw'=>q w H2 (s1.trans s2) (z2o rw' fun _ z=>z)⟩⟩⟩
theorem zbu {z:Str}(h:PyData.strOk z=true)(lo hi:Option Int):PyData.strOk (z12 z lo hi)=true:=
 strOk_iff.mpr fun c hc=>strOk_iff.mp h c (by
  have:c∈Mi.cut z.cps.toList lo hi:=by simpa[z12]using hc
  unfold Mi.cut at this;exact lp (lq this))
theorem zfi (lo hi:Option Int)(n:Nat):gm lo hi 1 n=sliceRange ((Mi.sIx n 0 lo:Nat):Int) ((Mi.sIx n n hi:Nat):Int) 1:=by
 delta gm
 have h1:(1:Int)>0:=Int.one_pos;simp only[h1,if_true]
 congr 1
 ·cases lo with
  |none=>rfl
  |some v=>
   simp only[Mi.sIx];by_cases h:v<0
   ·simp only[if_pos h];omega
   ·simp only[if_neg h];omega
 ·cases hi with
  |none=>rfl
  |some v=>
   simp only[Mi.sIx];by_cases h:v<0
   ·simp only[if_pos h];omega
   ·simp only[if_neg h];omega
theorem z9i (n d:Nat)(hd:d<=n)(o:Option Int):Mi.sIx n d o<=n:=by rw[<-z4y];exact HT.sIx_le n d hd o
theorem zed (z:Str)(lo hi:Option Int):Txt.slice z lo hi=z12 z lo hi:=by
 have hn:z.cps.toList.length=z.length:=by simp[Str.length]
 have e:(gm lo hi 1 z.length).filterMap (z.cps[·]?)=Mi.cut z.cps.toList lo hi:=by rw[zfi,oo,pick_run];unfold Mi.cut;rw[hn]
 have hl:(gm lo hi 1 z.length).length=Mi.sIx z.length z.length hi-Mi.sIx z.length 0 lo:=by rw[zfi,oo,av,gc]
 unfold Txt.slice;split
 ·rename_i hc;simp only[beq_self_eq_true,Bool.true_and,beq_iff_eq]at hc;rw[hl]at hc;have h1:=z9i z.length 0 (d6 _) lo;have h2:=z9i z.length z.length (aj _) hi
  have e2:Mi.cut z.cps.toList lo hi=z.cps.toList:=by
   unfold Mi.cut;rw[hn];by_cases h0:Mi.sIx z.length 0 lo=0
   ·rw[h0,List.drop_zero,n4 (by rw[hn];omega)]
   ·have hz:z.length=0:=by omega
    have:z.cps.toList=[]:=ja.mp (by rw[hn];exact hz);rw[this];simp
  unfold z12;rw[e2]
 ·unfold z12;rw[<-e]
def rSlD (K:W.Frag):V->Option Int->Option Int->Hp->VK->Prop:=fun x lo hi H Q=>∃B dx d,Rep K H B x dx/\slD dx lo hi=.ok d/\∀w H',Same H H'->Rep K H' (fun a=>nw H a\/B a) w d->(∀ds,d=.list ds->imms ds=true->Rep K H' (nw H) w d)->Q w H'
theorem zo3:SlR X (rSlD X.K):=by
 intro pins s σ H x v vl vu lo hi sl Q I rx hs pl pu h;refine(zq3.or zll) pins s σ H x v vl vu lo hi sl Q I rx hs pl pu ?_;obtain⟨B,dx,d,r,e,q⟩:=h;cases dx<;>try (cases e;done)
 case list xs=>cases e;obtain⟨a,vs,rfl,h1,q1⟩:=z1a r;refine .inl (.inl ⟨a,vs,rfl,h1,fun p hp=>?_⟩);rw[zby];exact q _ _ (Same.upd hp) (z1w hp (q1.cut lo hi) (fun _ z=>.inr z) (.inl hp)) fun ds z hi'=>by cases z;exact z1w hp (Reps.immB (B':=nw H) _ hi' (q1.cut lo hi)) (fun _ z=>z) hp
 case tuple xs=>
  change(if sIx xs.length 0 lo=0/\sIx xs.length xs.length hi=xs.length then Res.no else Res.ok (PyData.tuple (cut xs lo hi)))=_ at e;split at e
  ·cases e
  ·rename_i hw;cases e;obtain⟨a,vs,rfl,h1,q1⟩:=r;refine .inr ⟨a,vs,rfl,h1,by rw[z4y,z4y,q1.length];exact hw,fun p hp=>?_⟩;rw[zby];exact q _ _ (Same.upd hp) (z4p hp (q1.cut lo hi) fun _ z=>.inr z) fun ds z=>by cases z
 case str z=>
  change(if z.length<=LIM then Res.ok (PyData.str (z12 z lo hi))else .no)=_ at e;split at e
  ·rename_i hl;cases e;have e1:x=.str z:=r.1;subst e1;refine .inl (.inr ⟨z,rfl,z0n hl,?_⟩);rw[zed];exact q _ H (Same.refl H) ⟨rfl,zbu r.2 lo hi⟩ fun ds z=>by cases z
  ·cases e
theorem z8e:PO X none (tDO X.K fun _=>.ok none):=PO.imp zh0 fun σ H Q ⟨ρ,F,z,so,e,q⟩=>by cases e;exact q H (Same.refl H)
theorem zmd (ha:PE X a (tD X.K fa)):PO X (some a) (tDO X.K fun ρ=>fa ρ>>=fun x=>intO x.2):=
 PO.imp (zi0 ha) fun σ H Q zz=>by
  obtain⟨ρ,F,z,so,e,q⟩:=zz;obtain⟨x,e1,e⟩:=Res.bind_ok e;refine⟨ρ,F,x,so,e1,fun v H1 s1 rv=>?_⟩;obtain⟨g,d⟩:=x;cases d<;>try (cases e;done)
  cases e;exact⟨_,rv,q H1 s1⟩
theorem d_sl {lo hi:Option Expr}{p2:Pos}{fl fh:Rho->Res (Option Int)}(ha:PE X a (tD X.K fa))(hl:PO X lo (tDO X.K fl))(hh:PO X hi (tDO X.K fh)):
  PE X (.Subscript a (.Slice lo hi none p2) pos) (tD X.K fun ρ=>fa ρ>>=fun x=>fl ρ>>=fun l=>fh ρ>>=fun h=>slD x.2 l h>>=fun d=>.ok (gN d (gAll [x]),d)):=
 PE.imp (zef zo3 ha hl hh) fun σ H Q zz=>by
  obtain⟨ρ,F,z,so,e,q⟩:=zz;obtain⟨x,e1,e⟩:=Res.bind_ok e;obtain⟨l,e2,e⟩:=Res.bind_ok e;obtain⟨h,e3,e⟩:=Res.bind_ok e;obtain⟨d,e4,e⟩:=Res.bind_ok e;cases e;refine⟨ρ,F,x,so,e1,fun v H1 s1 rv=>⟨ρ,F,l,so.same s1,e2,fun H2 s2=>⟨ρ,F,h,so.same (s1.trans s2),e3,fun H3 s3=>⟨_,x.2,d,rv.same (s2.trans s3) fun _ z=>z,e4,fun w H4 s4 rw' nn=>q w H4 ((s1.trans (s2.trans s3)).trans s4) (zf8 rw' (fun a h=>?_) fun ds z hi=>(nn ds z hi).weak fun _ z=>nw.back (s1.trans (s2.trans s3)) z)⟩⟩⟩⟩;rcases h with h|h
  ·exact z4l so.vis (s1.trans (s2.trans s3)) h
  ·exact z53 so.vis (x:=x) (by simp) h
theorem d_cB {x:Str}{id:String}{m:List D->Res D}{fs:Rho->Res (List GD)}(hc:CallR X (.builtin id) (z6d X.K m))(hm:X.mg x=none)(hv:cz x=some (.builtin id))(ha:PA X (e::es) (tDA X.K fs))(hst:((e::es).all fun e=>!isStar e)=true)(hg:Gl X x)(hn:x≠"__name__")(hdb:(x==("__debug__":Str))=false){p:Pos}:
  PE X (.Call (.Name x p) (e::es) [] pos) (tD X.K fun ρ=>fs ρ>>=fun ys=>m (ys.map (·.2))>>=fun d=>.ok (gJ d .al,d)):=
 PE.imp (zcj hc hm hv ha hst hg hn hdb) fun σ H Q zz=>by obtain⟨ρ,F,z,so,e,q⟩:=zz;obtain⟨ys,e1,e⟩:=Res.bind_ok e;obtain⟨d,e2,e⟩:=Res.bind_ok e;cases e;exact⟨ρ,F,ys,so,e1,fun vs H1 s1 rs=>⟨_,_,d,rs.repsV so.vis,e2,fun w H2 s2 rw'=>q w H2 (s1.trans s2) (z2o rw' fun a h=>h.elim (fun z=>(nw.back s1 z).vis so.vis) fun z=>z)⟩⟩
theorem REs.length {K:W.Frag}{H:Hp}{B:Ad->Prop}:∀{kvs:List (Key×V)} {es:Ents},REs K H B kvs es->kvs.length=es.length
 |kvs,[],r=>by have e:kvs=[]:=r;subst e;rfl
 |kvs,(kd,d)::es,r=>by obtain⟨k,v,t,e,_,_,_,q⟩:=r;subst e;rw[ay,ay,q.length]
theorem zaz {K:W.Frag}{H:Hp}{B:Ad->Prop}{xs:List V}{d:D}(r:Reps K H B xs [d]):∃v,xs=[v]/\Rep K H B v d:=by obtain⟨v,t,e,h,q⟩:=r;have e2:t=[]:=q;subst e e2;exact⟨v,rfl,h⟩
theorem zbf:CallR X (.builtin "len") (z6d X.K (biD "len")):=by
 refine CallR.imp (zg0.or zal) fun xs H Q h=>?_;obtain⟨B,ds,d,r,e,q⟩:=h;simp only[biD,if_true]at e;split at e
 ·rename_i x;obtain⟨v,rfl,r1⟩:=zaz r;clear r;have r:=r1;clear r1;cases x<;>try (cases e;done)
  case str z=>
   change(if z.length<=LIM then Res.ok (PyData.int z.length)else .no)=_ at e;split at e
   ·rename_i hl;cases e;have e1:v=.str z:=r.1;subst e1;exact .inl (.inl ⟨z,rfl,z0n hl,q _ H (Same.refl H) rfl⟩)
   ·cases e
  case tuple ds=>cases e;obtain⟨a,vs,rfl,h1,q1⟩:=r;exact .inl (.inr ⟨a,vs,rfl,.inr h1,q _ H (Same.refl H) (by rw[q1.length];exact rfl)⟩)
  case list ds=>cases e;obtain⟨a,vs,rfl,h1,q1⟩:=z1a r;exact .inl (.inr ⟨a,vs,rfl,.inl h1,q _ H (Same.refl H) (by rw[q1.length];exact rfl)⟩)
  case dict ds=>cases e;obtain⟨a,vs,rfl,h1,_,q1⟩:=r;exact .inr ⟨a,vs,rfl,h1,q _ H (Same.refl H) (by rw[q1.length];exact rfl)⟩
 ·cases e
theorem zeg {pins:List (Addr×Obj)}{σ:L2.St}{H:Hp}{s:ae}{A:cq}{E:Value->ae->Prop}{Q:Value->ae->Prop}{B:Ad->Prop}{x:V}{u:Value}{d:D}{T:String}(I:Inv X pins σ H s)(rx:RelV x u)(r:Rep X.K H B x d)(hT:T∈tysB)
  (h:∀tk,Q (.bool (isTy (tyOf d) T)) {s with toks:=tk}):wpAny (model X.prog X.w) A (call (.builtin "isinstance") [u,.type T]) Q E s:=by
 have ht:tyOf d∈tysA:=by cases d<;>simp[tyOf,tysA]
 have e:W.kitOne X.K (.type (tyOf d)) (.type T)=some (isTy (tyOf d) T):=zj0 X.K _ ht T hT;cases d with
 |none=>have e1:x=.non:=r;subst e1;exact z1o I rx .non e h
 |bool b=>have e1:x=.bl b:=r;subst e1;exact z1o I rx (.bl b) e h
 |int b=>have e1:x=.int b:=r;subst e1;exact z1o I rx (.int b) e h
 |str b=>have e1:x=.str b:=r.1;subst e1;exact z1o I rx (.str b) e h
 |tuple ds=>obtain⟨a,vs,e1,h1,_⟩:=r;subst e1;cases rx;obtain⟨_,_,⟨o,ho,hc,_⟩,_⟩:=I.tuple h1;exact W.kia_one W.kitx_tuple I.kIn ⟨o,ho,hc⟩ e (fun z=>nomatch z) h
 |list ds=>obtain⟨a,vs,e1,h1,_⟩:=z1a r;subst e1;cases rx;obtain⟨_,_,⟨o,_,ho,hc,_⟩,_⟩:=I.list h1;exact W.kia_one W.kitx_list I.kIn ⟨o,ho,hc⟩ e (fun z=>nomatch z) h
 |dict es=>obtain⟨a,vs,e1,h1,_⟩:=r;subst e1;exact z1o I rx (.dK h1) e h
def rIsD (K:W.Frag):List V->Hp->VK->Prop:=fun xs H Q=>∃B x d T,xs=[x,.ty T]/\Rep K H B x d/\T∈tysB/\Q (.bl (isTy (tyOf d) T)) H
theorem ze3:CallR X (.builtin "isinstance") (rIsD X.K):=by intro pins s σ H xs us Q I r h;obtain⟨B,x,d,T,rfl,rx,hT,q⟩:=h;obtain⟨u,w',rfl,r1,r2⟩:=vals2 r;obtain rfl:w'=Value.type T:=r2;exact zeg I r1 rx hT fun tk=>⟨.bl _,H,I.tok _,rfl,q⟩
theorem zpl {y:Expr}{T:String}{x2:Str}{p p2:Pos}(hm:X.mg "isinstance"=none)(hg:Gl X "isinstance")(hm2:X.mg x2=none)(hv2:cz x2=some (.type T))(hg2:Gl X x2)(hn2:x2≠"__name__")(hd2:(x2==("__debug__":Str))=false)(hT:T∈tysB)(hs:isStar y=false)(ha:PE X y (tD X.K fa)):
  PE X (.Call (.Name "isinstance" p) [y,.Name x2 p2] [] pos) (tD X.K fun ρ=>fa ρ>>=fun x=>.ok (.fr,.bool ([T].any fun T=>isTy (tyOf x.2) T))):=
 PE.imp (zcj ze3 hm (by decide+kernel) (pa_c ha (pa_c (zhj (v:=.ty T) hg2 hm2 hv2 rfl hn2 hd2) z1v) hs) (by simp[hs];rfl) hg (by decide) (by decide)) fun σ H Q zz=>by obtain⟨ρ,F,z,so,e,q⟩:=zz;obtain⟨x,e1,e⟩:=Res.bind_ok e;cases e;refine⟨ρ,F,x,so,e1,fun v H1 s1 rv=>?_⟩;refine⟨_,v,x.2,T,rfl,rv,hT,q _ H1 s1 ?_⟩;show V.bl _=V.bl _;simp
end
section
variable {X:Cx}{pos:Pos}
def gLst (K:W.Frag)(n:Nat)(t:TGs):TG:=fun v σ H Q=>∃a xs,v=.ref a/\SqL K H a xs/\xs.length=n/\t xs σ H Q
theorem zng {es:List Expr}{k:Nat}{t:TGs}{n:Nat}(hc:X.calm=true)(h:PGs X es t)(hn:(et es X.env).length=n)(hst:(et es X.env).findIdx? (·.1)=none):PG X (.Tuple es k pos) (gLst X.K n t):=by
 intro pins s σ H v u Q I r hw;obtain⟨a,xs,e1,hq,hl,hw⟩:=hw;subst e1;cases r;obtain⟨its,rv,pl,hz⟩:=I.list hq;rw[assign_Tuple];apply aa;refine jf ?_
 delta unpack
 rw[hst,show(et es X.env).length=its.toArray.size by rw[hn,<-hl,rv.length,ao]];apply aa;refine f9 (W.kun_itemsOf (I.ok.hd hc) pl.isList fun h' hx=>?_);have I1:Inv X pins σ H {s with heap:=h'}:=I.kept (t':=s.toks) fun b o e=>hx b o (cg (bc e)) e;exact h pins _ σ H xs _ Q I1 (by simpa using rv) hw
end
def Kp (B:Ad->Prop)(H1 H2:Hp):Prop:=∀a o,H1 a=some o->(B (some a)\/Fix o)->H2 a=some o
theorem Kp.of {B:Ad->Prop}{H1 H2:Hp}(s:Same H1 H2):Kp B H1 H2:=fun a o e _=>s a o e
structure Walk (K:W.Frag)(J:It)(B:Ad->Prop)(H1:Hp)(xs:List D):Prop where
 len:xs.length<=az
 go:∀H2,Kp B H1 H2->∀i,i<xs.length->J.go i H2
 stop:∀H2,Kp B H1 H2->J.stop xs.length H2
 yld:∀H2,Kp B H1 H2->∀i x H3,i<xs.length->J.yld i H2 x H3->Same H2 H3/\∃d,xs[i]?=some d/\Rep K H3 B x d
def tDW (K:W.Frag)(f:Rho->Res (G×List D)):TI:=fun σ H R=>∃ρ F w,StOk K F H σ ρ/\f ρ=.ok w/\∀J B H',Same H H'->(∀a,B a->BG F H w.1 a/\¬nw H' a)->Walk K J B H' w.2->R J H'
theorem _root_.L2.PI.imp {X:Cx}{tg e:Expr}{t t':TI}(h:PI X tg e t)(i:∀σ H Q,t' σ H Q->t σ H Q):PI X tg e t':=fun pins s σ H Q I q=>h pins s σ H Q I (i σ H Q q)
section
variable {K:W.Frag}{H:Hp}{B:Ad->Prop}
theorem zbc {a:Addr}{vs:List V}{ds:List D}(h:(H a=some (.lst vs)/\B (some a))\/(FL K H a vs/\B none))(r:Reps K H B vs ds)(hz:ds.length<=az):Walk K (Itl K a) B H ds:=by
 have sq:∀H2,Kp B H H2->SqL K H2 a vs:=fun H2 k=>by
  rcases h with⟨h,b⟩|⟨⟨o,h⟩|h,_⟩
  ·exact .inl (.inl (k a _ h (.inl b)))
  ·exact .inl (.inr ⟨o,k a _ h (.inr True.intro)⟩)
  ·exact .inr h
 refine⟨hz,fun H2 k i hi=>?_,fun H2 k=>⟨vs,sq H2 k,by rw[r.length];exact aj _⟩,fun H2 k i x H3 hi y=>?_⟩
 ·have hv:i<vs.length:=by rw[r.length];exact hi
  exact⟨vs,vs[i],sq H2 k,by simp[hv]⟩
 ·obtain⟨e,y⟩:=y;subst e;have hx:=y vs (sq _ k);obtain⟨d,h1,h2⟩:=r.getV hx;exact⟨Same.refl _,d,h1,Rep.keep k (fun _ z=>z) d h2⟩
theorem zdj {a:Addr}{vs:List V}{ds:List D}(h:SqT K H a vs)(r:Reps K H B vs ds)(hz:ds.length<=az):Walk K (Itt K a) B H ds:=by
 have sq:∀H2,Kp B H H2->SqT K H2 a vs:=fun H2 k=>h.keep k;refine⟨hz,fun H2 k i hi=>?_,fun H2 k=>⟨vs,sq H2 k,by rw[r.length];exact aj _⟩,fun H2 k i x H3 hi y=>?_⟩
 ·have hv:i<vs.length:=by rw[r.length];exact hi
  exact⟨vs,vs[i],sq H2 k,by simp[hv]⟩
 ·obtain⟨e,y⟩:=y;subst e;have hx:=y vs (sq _ k);obtain⟨d,h1,h2⟩:=r.getV hx;exact⟨Same.refl _,d,h1,Rep.keep k (fun _ z=>z) d h2⟩
theorem ze4 {z:Str}(ok:PyData.strOk z=true)(hz:z.length<=az):Walk K (Its z) B H (z.cps.toList.map fun c=>.str ⟨#[c]⟩):=by
 have hl:(z.cps.toList.map fun c=>(PyData.str ⟨#[c]⟩:D)).length=z.cps.size:=by simp
 refine⟨by rw[hl];exact hz,fun H2 k i hi=>?_,fun H2 k=>?_,fun H2 k i x H3 hi y=>?_⟩
 ·rw[hl]at hi;exact hi
 ·show z.cps.size<=_;rw[hl];exact aj _
 ·obtain⟨e,c,hc,rfl⟩:=y;subst e;have hc':z.cps.toList[i]?=some c:=by simpa using hc
  refine⟨Same.refl _,.str ⟨#[c]⟩,by rw[bu,hc'];rfl,rfl,z5w ok (du hc')⟩
theorem zdu {lo:Int}{n:Nat}(hz:n<=az):Walk K (Itr lo n) B H ((dv n).map fun(i:Nat)=>.int (lo+i)):=by
 have hl:((dv n).map fun(i:Nat)=>(PyData.int (lo+i):D)).length=n:=by simp
 refine⟨by rw[hl];exact hz,fun H2 k i hi=>?_,fun H2 k=>?_,fun H2 k i x H3 hi y=>?_⟩
 ·rw[hl]at hi;exact hi
 ·show n<=_;rw[hl];exact aj _
 ·obtain⟨e,rfl⟩:=y;subst e;rw[hl]at hi;exact⟨Same.refl _,.int (lo+i),by rw[bu,o0 hi];rfl,rfl⟩
end
section
variable {X:Cx}{tg a b c e:Expr}{es:List Expr}{fa fb fc:Rho->Res GD}{pos:Pos}
theorem z48 {pins:List (Addr×Obj)}{σ:L2.St}{H1:Hp}{s1:ae}{v:Value}{y:V}{B:Ad->Prop}{d:D}{xs:List D}{R:It->Hp->Prop}(I1:Inv X pins σ H1 s1)(r1:RelV y v)(rv:Rep X.K H1 B y d)(e:z4m d=.ok xs)
  (q:∀J,Walk X.K J B H1 xs->R J H1):wpAny (model X.prog X.w) X.A (qq v) (PIE X pins σ tg R) X.xe s1:=by
 cases d<;>try (cases e;done)
 case list ds=>
  cases e;obtain⟨a,vs,rfl,h,rs⟩:=rv
  have hq:SqL X.K H1 a vs:=by
   rcases h with⟨h,_⟩|⟨h|h,_⟩
   ·exact .inl (.inl h)
   ·exact .inl (.inr h)
   ·exact .inr h
  cases r1;obtain⟨its,rv',p,hz⟩:=I1.list hq;refine ku p.isList ?_;refine⟨s1.heap.objs.size,[s1.heap.objs.size],_,_,H1,rfl,I1.kept (t':=s1.toks) fun b o e=>af _ e,z5k a _,⟨_,ba _ rfl,rfl,rfl⟩,fun b hb=>?_,q _ (zbc h rs (by rw[<-rs.length];exact hz))⟩;have e:b=s1.heap.objs.size:=by simpa using hb
  subst e;exact I1.fpOk (aj _) (I1.hok.fresh (aj _))
 case tuple ds=>
  cases e;obtain⟨a,vs,rfl,hq,rs⟩:=rv;cases r1;obtain⟨its,rv',p,hz⟩:=I1.tuple hq;refine pp (show s1.heap.IsTuple a its.toArray from p) ?_;refine⟨s1.heap.objs.size,[s1.heap.objs.size],_,_,H1,rfl,I1.kept (t':=s1.toks) fun b o e=>af _ e,z96 a _,⟨_,ba _ rfl,rfl,rfl⟩,fun b hb=>?_,q _ (zdj hq rs (by rw[<-rs.length];exact hz))⟩;have e:b=s1.heap.objs.size:=by simpa using hb
  subst e;exact I1.fpOk (aj _) (I1.hok.fresh (aj _))
 case str z=>
  change(if z.length<=LIM then Res.ok (z.cps.toList.map fun c=>PyData.str ⟨#[c]⟩)else .no)=_ at e;split at e
  case isFalse=>cases e
  rename_i hs;cases e;have e1:y=.str z:=rv.1;subst e1;obtain⟨t,rfl⟩:=r1;have qz:=q _ (ze4 rv.2 (z0n hs))
  have fin:∀(ty:String) (hty:ty="str_ascii_iterator"\/ty="str_iterator"),PIE X pins σ tg R (.ref s1.heap.objs.size) {s1 with heap:=s1.heap.push {cls:=.type ty,data:=.fields #[.str z t,.int 0 0]}}:=fun ty hty=>by
   refine⟨s1.heap.objs.size,[s1.heap.objs.size],_,_,H1,rfl,I1.kept (t':=s1.toks) fun b o e=>af _ e,zcs hty _ z t,⟨_,ba _ rfl,rfl,rfl⟩,fun b hb=>?_,qz⟩;have e:b=s1.heap.objs.size:=by simpa using hb
   subst e;exact I1.fpOk (aj _) (I1.hok.fresh (aj _))
  cases ha:z.cps.all (· <128)
  ·exact wpAny_pyIter_wide ha (fin _ (.inr rfl))
  ·exact wpAny_pyIter_ascii ha (fin _ (.inl rfl))
theorem w_tv (ha:PE X a (tD X.K fa)):PI X tg a (tDW X.K fun ρ=>fa ρ>>=fun x=>z4m x.2>>=fun xs=>.ok (x.1,xs)):=by intro pins s σ H R I h;obtain⟨ρ,F,w,so,e,q⟩:=h;obtain⟨x,e1,e⟩:=Res.bind_ok e;obtain⟨xs,e2,e⟩:=Res.bind_ok e;cases e;refine thn (ha pins s σ H (fun v H1=>Same H H1/\Rep X.K H1 (BG F H x.1) v x.2) I ⟨ρ,F,x,so,e1,fun v H1 s1 rv=>⟨s1,rv⟩⟩) fun v s1 zz=>?_;obtain⟨y,H1,I1,r1,s1',rv⟩:=zz;exact z48 I1 r1 (Rep.there _ rv) e2 fun J wk=>q J _ H1 s1' (fun _ z=>z) wk
theorem zm1 {n:Int}(h1:n<=LIM)(h2:-LIM<=n):-(2 ^ 62)<=n/\n<2 ^ 62:=by unfold LIM at *;omega
theorem RGs.one {K:W.Frag}{F:Fm}{H H':Hp}{vs:List V}{x:GD}(r:RGs K F H H' vs [x]):∃v,vs=[v]/\Rep K H' (BG F H x.1) v x.2:=by obtain⟨v,t,e,h,q⟩:=r;have e2:t=[]:=q;subst e e2;exact⟨v,rfl,h⟩
theorem RGs.two {K:W.Frag}{F:Fm}{H H':Hp}{vs:List V}{x y:GD}(r:RGs K F H H' vs [x,y]):∃v w,vs=[v,w]/\Rep K H' (BG F H x.1) v x.2/\Rep K H' (BG F H y.1) w y.2:=by obtain⟨v,t,e,h,q⟩:=r;obtain⟨w,e2,h2⟩:=q.one;subst e e2;exact⟨v,w,rfl,h,h2⟩
theorem zle {p:Pos}{fs:Rho->Res (List GD)}(hm:X.mg "range"=none)(hg:Gl X "range")(hs:isStar a=false)(ha:PA X [a] (tDA X.K fs))(hl:∀ρ ys,fs ρ=.ok ys->ys.length=1):PI X tg (.Call (.Name "range" p) [a] [] pos) (tDW X.K fun ρ=>fs ρ>>=fun ys=>rngD (ys.map (·.2))>>=fun xs=>.ok (.fr,xs)):=
 PI.imp (zbb hg hm ha (z06 hs)) fun σ H R zz=>by
  obtain⟨ρ,F,w,so,e,q⟩:=zz;obtain⟨ys,e1,e⟩:=Res.bind_ok e;obtain⟨xs,e2,e⟩:=Res.bind_ok e;cases e;refine⟨ρ,F,ys,so,e1,fun vs H1 s1 rs=>?_⟩;have hy:=hl ρ ys e1
  match ys,hy with
  | [(g,d)],hy1=>
   clear hy1;obtain⟨v,rfl,rv⟩:=rs.one;cases d<;>try (cases e2;done)
   rename_i n;have ev:v=.int n:=rv;subst ev;change(if n<=LIM/\-LIM<=n then Res.ok ((dv n.toNat).map fun(i:Nat)=>PyData.int i)else .no)=_ at e2;split at e2
   case isFalse=>cases e2
   rename_i hn;cases e2;have h62:=zm1 hn.1 hn.2;refine⟨n,rfl,h62.1,h62.2,q _ (fun _=>False) H1 s1 (fun _ z=>z.elim) ?_⟩;have e0:((dv n.toNat).map fun(i:Nat)=>(PyData.int i:D))=(dv n.toNat).map fun(i:Nat)=>.int (0+i):=by apply o5;intro i _;rw[Int.zero_add]
   show Walk X.K (Itr 0 n.toNat) _ H1 ((dv n.toNat).map fun(i:Nat)=>(PyData.int i:D));rw[e0];exact zdu (z0n (by unfold LIM at *;omega))
def Fm.drop (F:Fm)(i:Nat):Fm:={F with O:=fun a=>if F.O a=some i then none else F.O a}
theorem Fm.drop_none {F:Fm}{i:Nat}{a:Addr}(h:F.O a=none):(F.drop i).O a=none:=by show(if F.O a=some i then none else F.O a)=none;rw[h];rfl
theorem Bin.drop {F:Fm}{i:Nat}{a:Ad}(h:Bin F a):Bin (F.drop i) a:=by
 cases a with
 |none=>exact h
 |some a=>exact⟨Fm.drop_none h.1,h.2⟩
theorem Slot.drop {K:W.Frag}{F:Fm}{H:Hp}{i j:Nat}{g:G}{v:V}{d:D}(hij:j≠i)(h:Slot K F H j g v d):Slot K (F.drop i) H j g v d:=by
 cases g with
 |fr=>
  obtain⟨p,e,o,h⟩:=h;refine⟨p,e,?_,?_⟩
  ·show(if F.O p=some i then none else F.O p)=some j;rw[o,if_neg (fun z=>hij (Option.some.inj z))]
  ·rcases h with⟨vs,ds,e1,e2,r⟩|⟨vs,ds,e1,e2,r⟩
   ·exact .inl ⟨vs,ds,e1,e2,r.weak fun _ b=>b.drop⟩
   ·exact .inr ⟨vs,ds,e1,e2,REs.same (fun _ _ e=>e) (fun _ b=>b.drop) r⟩
 |od=>exact h
 |al=>exact h
 |nu=>exact Rep.weak (fun _ b=>b.drop) h
def BI (F:Fm):G->Ad->Prop
 |.od=>oldA F
 |.fr=>visA F
 |.al=>visA F
 |.nu=>visA F
theorem BI.of {F:Fm}{H:Hp}{g:G}{a:Ad}(hv:∀a,H a=none->F.V a)(h:BG F H g a):BI F g a:=by
 cases g with
 |fr=>exact nw.vis hv h
 |od=>exact h
 |al=>exact h
 |nu=>exact h.elim (nw.vis hv) Bin.vis
theorem StOk.setI {K:W.Frag}{F:Fm}{H:Hp}{σ:L2.St}{ρ:Rho}{x:GD}{v:V}{i:Nat}(so:StOk K F H σ ρ)(r:Rep K H (BI F x.1) v x.2):StOk K (F.drop i) H (σ.set i (some v)) (ρ.set i (some (z4i x))) where
 ext:=so.ext
 vis:=so.vis
 own:=fun a j e=>by
  have e':F.O a=some j:=by
   have:(if F.O a=some i then none else F.O a)=some j:=e;split at this
   ·cases this
   ·exact this
  exact so.own a j e'
 len:=by rw[df,df];exact so.len
 sl:=fun j g d e=>by
  by_cases hj:i=j
  ·subst hj;rw[dt]at e;simp only[if_true]at e;split at e
   ·rename_i hl;have e1:z4i x=(g,d):=by simpa using e
    refine⟨v,?_,?_⟩
    ·rw[dt];simp[so.len,hl]
    ·obtain⟨gx,dx⟩:=x;cases gx with
     |fr=>cases e1;exact r
     |od=>cases e1;exact r
     |al=>cases e1;exact r
     |nu=>cases e1;exact r
   ·cases e
  ·rw[cf hj]at e ⊢;obtain⟨u,h1,h2⟩:=so.sl j g d e;exact⟨u,h1,h2.drop fun z=>hj z.symm⟩
structure Keeps (F F':Fm)(is:List Nat)(σ σ':L2.St):Prop where
 h0:F'.H0=F.H0
 v:F'.V=F.V
 z:F'.z=F.z
 o:∀a,F.O a=none->F'.O a=none
 len:σ'.length=σ.length
 rest:∀j,j∉is->σ'[j]?=σ[j]?
theorem Keeps.refl {F:Fm}{is:List Nat}{σ:L2.St}:Keeps F F is σ σ:=⟨rfl,rfl,rfl,fun _ h=>h,rfl,fun _ _=>rfl⟩
theorem Keeps.set {F:Fm}{is:List Nat}{i:Nat}{σ:L2.St}{v:Option V}(h:i∈is):Keeps F (F.drop i) is σ (σ.set i v):=⟨rfl,rfl,rfl,fun _ h=>Fm.drop_none h,df,fun j hj=>cf fun z=>hj (by rw[<-z];exact h)⟩
theorem Keeps.trans {F F' F'':Fm}{is:List Nat}{σ σ' σ'':L2.St}(a:Keeps F F' is σ σ')(b:Keeps F' F'' is σ' σ''):Keeps F F'' is σ σ'':=⟨b.h0.trans a.h0,b.v.trans a.v,b.z.trans a.z,fun x h=>b.o x (a.o x h),b.len.trans a.len,fun j hj=>(b.rest j hj).trans (a.rest j hj)⟩
def tDG (K:W.Frag)(t:Tg):TG:=fun v σ H Q=>∃ρ F x ρ',StOk K F H σ ρ/\Rep K H (BI F x.1) v x.2/\z0x t x ρ=.ok ρ'/\∀σ' F',StOk K F' H σ' ρ'->Keeps F F' (tgIx t) σ σ'->Q σ' H
theorem _root_.L2.PG.imp {X:Cx}{e:Expr}{t t':TG}(h:PG X e t)(i:∀v σ H Q,t' v σ H Q->t v σ H Q):PG X e t':=fun pins s σ H v u Q I r q=>h pins s σ H v u Q I r (i v σ H Q q)
theorem _root_.L2.PGs.imp {X:Cx}{e:List Expr}{t t':TGs}(h:PGs X e t)(i:∀v σ H Q,t' v σ H Q->t v σ H Q):PGs X e t':=fun pins s σ H v u Q I r q=>h pins s σ H v u Q I r (i v σ H Q q)
theorem zl1 {i:Nat}{x:Str}(hN:X.N.Nodup)(hi:X.N[i]?=some x)(hx:Loc X.env.scope x)(hf:X.fn x=true\/X.env.scope.names.lookup x=some .local):PG X (.Name x pos) (tDG X.K (.nm i)):=PG.imp (z9q hN hi hx hf) fun v σ H Q zz=>by obtain⟨ρ,F,x,ρ',so,r,e,q⟩:=zz;cases e;exact q _ _ (so.setI r) (Keeps.set (by simp[tgIx]))
def tDGs (K:W.Frag)(all is:List Nat):TGs:=fun vs σ H Q=>∃ρ F g ds ρ',(∀i∈is,i∈all)/\StOk K F H σ ρ/\Reps K H (BI F g) vs ds/\z2n ρ is ds g=some ρ'/\∀σ' F',StOk K F' H σ' ρ'->Keeps F F' all σ σ'->Q σ' H
theorem zl7 {all:List Nat}:PGs X [] (tDGs X.K all []):=
 PGs.imp ziq fun vs σ H Q zz=>by
  obtain⟨ρ,F,g,ds,ρ',_,so,r,e,q⟩:=zz;cases ds with
  |nil=>cases e;have e2:vs=[]:=r;exact⟨e2,q σ F so Keeps.refl⟩
  |cons d ds=>cases e
theorem zix {all is:List Nat}{i:Nat}{x:Str}{es:List Expr}{p:Pos}(hN:X.N.Nodup)(hi:X.N[i]?=some x)(hx:Loc X.env.scope x)(hf:X.fn x=true\/X.env.scope.names.lookup x=some .local)(h:PGs X es (tDGs X.K all is)):PGs X (.Name x p::es) (tDGs X.K all (i::is)):=
 PGs.imp (zde (z9q hN hi hx hf) h (by rfl)) fun vs σ H Q zz=>by
  obtain⟨ρ,F,g,ds,ρ',hin,so,r,e,q⟩:=zz;cases ds with
  |nil=>cases e
  |cons d ds=>
   obtain⟨v,t,rfl,h1,h2⟩:=r;refine⟨v,t,rfl,ρ.set i (some (z4i (gJ d g,d))),F.drop i,g,ds,ρ',fun j hj=>hin j (ah _ hj),?_,?_,e,fun σ' F' so' k=>q σ' F' so' ((Keeps.set (hin i ai)).trans k)⟩
   ·refine so.setI ?_;show Rep X.K H (BI F (gJ d g)) v d;unfold gJ;by_cases hi:imm d=true
    ·rw[if_pos hi];exact Rep.immB d hi h1
    ·rw[if_neg hi];exact h1
   ·exact h2.weak fun a b=>by cases g<;>exact b
theorem zoh {is:List Nat}{es:List Expr}{k:Nat}{n:Nat}(hc:X.calm=true)(h:PGs X es (tDGs X.K is is))(hn:(et es X.env).length=n)(hst:(et es X.env).findIdx? (·.1)=none)(hl:is.length=n):PG X (.Tuple es k pos) (tDG X.K (.tp is)):=
 fun pins s σ H v u Q I ru zz=>by
  obtain⟨ρ,F,x,ρ',so,r,e,q⟩:=zz;obtain⟨g,d⟩:=x
  have hlen:∀(is:List Nat) (ds:List D) (ρ ρ1:Rho),z2n ρ is ds g=some ρ1->is.length=ds.length:=by
   intro is
   induction is with
   |nil=>intro ds ρ ρ1 h;cases ds with
    |nil=>rfl
    |cons _ _=>cases h
   |cons i is ih=>intro ds ρ ρ1 h;cases ds with
    |nil=>cases h
    |cons d ds=>rw[ay,ay,ih ds _ _ h]
  have got:∀ds:List D,Res.ofO (z2n ρ is ds g)=.ok ρ'->z2n ρ is ds g=some ρ':=fun ds e=>by
   cases e1:z2n ρ is ds g with
   |none=>rw[e1]at e;cases e
   |some ρ1=>rw[e1]at e;rw[Res.ok.inj e]
  cases d<;>try (cases e;done)
  case tuple ds=>have e1:=got ds e;obtain⟨a,vs,rfl,h1,h2⟩:=r;exact zm7 hc h hn hst pins s σ H _ u Q I ru ⟨a,vs,rfl,h1,by rw[h2.length,<-hlen _ _ _ _ e1];exact hl,ρ,F,g,ds,ρ',fun _ h=>h,so,h2,e1,q⟩
  case list ds=>
   have e1:=got ds e;obtain⟨a,vs,rfl,h1,h2⟩:=r
   have h3:SqL X.K H a vs:=by
    rcases h1 with⟨h1,_⟩|⟨h1|h1,_⟩
    ·exact .inl (.inl h1)
    ·exact .inl (.inr h1)
    ·exact .inr h1
   exact zng hc h hn hst pins s σ H _ u Q I ru ⟨a,vs,rfl,h3,by rw[h2.length,<-hlen _ _ _ _ e1];exact hl,ρ,F,g,ds,ρ',fun _ h=>h,so,h2,e1,q⟩
theorem StOk.blk {K:W.Frag}{F:Fm}{H:Hp}{σ:L2.St}{ρ:Rho}(so:StOk K F H σ ρ)(nt:Nat)(js:List Nat)(l:Addr)(xs:List V)(hl:H l=none):
  StOk K {F with V:=fun a=>F.V a/\a≠l,O:=fun _=>none} (upd H l (.lst xs)) (emb nt js σ) (bj nt none++js.map fun j=>toAl (ρ.getD j none)) where
 ext:=fun a o e=>by have:=so.ext a o e;rw[z01 (z0b this hl)];exact this
 vis:=fun a e=>by
  by_cases h:a=l
  ·subst h;rw[z02]at e;cases e
  ·rw[z01 h]at e;exact⟨so.vis a e,h⟩
 own:=fun a i e=>by cases e
 len:=by unfold emb;simp
 sl:=fun i g d e=>by
  have hB:∀(a:Ad),visA F a/\¬nw H a->visA {F with V:=fun a=>F.V a/\a≠l,O:=fun _=>none} a:=fun a h=>by
   cases a with
   |none=>exact h.1
   |some a=>exact⟨h.1,fun z=>h.2 (by rw[z];exact hl)⟩
  have hB2:∀(a:Ad),oldA F a/\¬nw H a->oldA {F with V:=fun a=>F.V a/\a≠l,O:=fun _=>none} a:=fun a h=>by
   cases a with
   |none=>exact h.1
   |some a=>exact⟨h.1.1,h.1.2,fun z=>h.2 (by rw[z];exact hl)⟩
  rw[lr]at e;split at e
  ·rw[cj]at e;split at e<;>cases e
  ·rename_i hi;rw[cn]at hi e;rw[bu]at e;cases ej:js[i-nt]? with
   |none=>rw[ej]at e;cases e
   |some j=>
    rw[ej]at e;have e1:toAl (ρ.getD j none)=some (g,d):=Option.some.inj e;cases er:ρ[j]? with
    |none=>rw[am,er]at e1;cases e1
    |some o=>
     rw[am,er]at e1;cases o with
     |none=>cases e1
     |some gd=>
      obtain⟨g0,d0⟩:=gd;obtain⟨v,h1,h2⟩:=so.sl j g0 d0 er;refine⟨v,?_,?_⟩
      ·unfold emb;rw[gu (by rw[cn];omega),cn,bu,ej];show some (σ.getD j none)=_;rw[am,h1];rfl
      ·cases g0 with
       |fr=>cases e1;exact Rep.same (Same.upd hl) hB (Rep.there _ (h2.rep so.ownV))
       |od=>cases e1;exact Rep.same (Same.upd hl) hB2 (Rep.there _ h2)
       |al=>cases e1;exact Rep.same (Same.upd hl) hB (Rep.there _ h2)
       |nu=>cases e1;exact Rep.same (Same.upd hl) hB (Rep.there _ (h2.rep so.ownV))
theorem z3a {f:D->Res (Option GD)}:∀(l m:List D) (r:List GD),z2k f (l++m)=.ok r->∃r1 r2,z2k f l=.ok r1/\z2k f m=.ok r2/\r=r1++r2
 | [],m,r,h=>⟨[],r,rfl,h,rfl⟩
 |x::l,m,r,h=>by
  obtain⟨o,e1,h⟩:=Res.bind_ok h;obtain⟨r',e2,h⟩:=Res.bind_ok h;obtain⟨r1,r2,h1,h2,h3⟩:=z3a l m r' e2;subst h3;cases h;refine⟨oc o r1,r2,?_,h2,?_⟩
  ·show(f x>>=fun o=>z2k f l>>=fun r=>Res.ok (oc o r))=_;rw[e1,Res.ok_bind,h1,Res.ok_bind]
  ·cases o<;>rfl
theorem RGs.snoc {K:W.Frag}{F:Fm}{H H':Hp}:∀{vs:List V} {xs:List GD} {v:V} {x:GD},RGs K F H H' vs xs->Rep K H' (BG F H x.1) v x.2->RGs K F H H' (vs++[v]) (xs++[x])
 |vs,[],v,x,r,h=>by have e:vs=[]:=r;subst e;exact⟨v,[],rfl,h,rfl⟩
 |vs,y::ys,v,x,r,h=>by obtain⟨u,t,e,h1,q⟩:=r;subst e;exact⟨u,t++[v],rfl,h1,q.snoc h⟩
theorem RGs.keep {K:W.Frag}{F:Fm}{H H1 H2:Hp}(hk:∀a o (g:G),H1 a=some o->(BG F H g (some a)\/Fix o)->H2 a=some o):∀{vs:List V} {xs:List GD},RGs K F H H1 vs xs->RGs K F H H2 vs xs
 |vs,[],r=>r
 |vs,y::ys,r=>by obtain⟨u,t,e,h1,q⟩:=r;exact⟨u,t,e,Rep.keep (fun a o e b=>hk a o y.1 e b) (fun _ z=>z) _ h1,q.keep hk⟩
theorem RGs.len {K:W.Frag}{F:Fm}{H H':Hp}:∀{vs:List V} {xs:List GD},RGs K F H H' vs xs->vs.length=xs.length
 |vs,[],r=>by have e:vs=[]:=r;subst e;rfl
 |vs,y::ys,r=>by obtain⟨u,t,e,h1,q⟩:=r;subst e;rw[ay,ay,q.len]
theorem z60 {f:D->Res (Option GD)}:∀(l:List D) (r:List GD),z2k f l=.ok r->r.length<=l.length
 | [],r,h=>by cases h;exact aj _
 |x::l,r,h=>by
  obtain⟨o,e1,h⟩:=Res.bind_ok h;obtain⟨r',e2,h⟩:=Res.bind_ok h;have:=z60 l r' e2;cases h;cases o with
  |none=>exact bw this (by simp)
  |some y=>simp only[oc,ay];omega
def zaf (nt:Nat)(js:List Nat)(t:Tg)(fw:Rho->Res (G×List D))(fc:Rho->Res Bool)(fe:Rho->Res GD):Rho->Res GD:=fun ρ=>fw ρ>>=fun w=>z2k (fun x=>z0x t (gJ x w.1,x) (bj nt none++js.map fun j=>toAl (ρ.getD j none))>>=fun ρ1=>fc ρ1>>=fun k=>if k then fe ρ1>>=fun y=>.ok (some y)else .ok none) w.2>>=fun ys=>.ok (gCo ys,.list (ys.map (·.2)))
def lcB (g:TG)(tc:TT)(te:TE)(em:L2.St->L2.St)(σ:L2.St)(Q:VK):It->Hp->Prop:=fun J H1=>∀l,H1 l=none->∃P:Nat->Nat->List V->Hp->Prop,(∃m,P 0 m [] (upd H1 l (.lst [])))/\∀i m acc H2,P i m acc H2->(J.stop i H2/\Q (.ref l) H2)\/(J.go i H2/\acc.length<az/\∃N:List V->Hp->Prop,(∀acc' H',N acc' H'->∃m',m'<m/\P (i+1) m' acc' H')/\∀x H3,J.yld i H2 x H3->g x (em σ) H3 fun σ4 H4=>Keep (em σ) σ4/\tc σ4 H4 fun b H5=>if b=true then te σ4 H5 fun y H6=>H6 l=some (.lst acc)/\N (acc++[y]) (upd H6 l (.lst (acc++[y])))else N acc H5)
abbrev CI (K:W.Frag)(F:Fm)(f:D->Res (Option GD))(ds:List D)(H1:Hp)(l:Nat)(i:Nat)(acc:List V)(H2:Hp):Prop:=H2 l=some (.lst acc)/\(∀a o,H1 a=some o->H2 a=some o)/\∃ys,z2k f (ds.take i)=.ok ys/\RGs K F (upd H1 l (.lst [])) H2 acc ys
theorem z8x {nt:Nat}{js:List Nat}{t:Tg}{fw:Rho->Res (G×List D)}{fc:Rho->Res Bool}{fe:Rho->Res GD}(ht0:∀i∈tgIx t,i<nt){σ:L2.St}{H:Hp}{Q:VK}{ρ:Rho}{F:Fm}{z:GD}(so:StOk X.K F H σ ρ)(e:zaf nt js t fw fc fe ρ=.ok z)(q:∀v H',Same H H'->Rep X.K H' (BG F H z.1) v z.2->Q v H'):
  ∃w,fw ρ=.ok w/\∀J B H',Same H H'->(∀a,B a->BG F H w.1 a/\¬nw H' a)->Walk X.K J B H' w.2->lcB (tDG X.K t) (tDT X.K fc) (tD X.K fe) (emb nt js) σ Q J H':=by
 obtain⟨w,e1,e⟩:=Res.bind_ok e;obtain⟨ysA,e2,e⟩:=Res.bind_ok e;cases e;refine⟨w,e1,fun J B H1 s1 hB wk l hl=>?_⟩;generalize hr:(bj nt none++js.map fun j=>toAl (ρ.getD j none))=ρ0 at e2;generalize hf:(fun x=>z0x t (gJ x w.1,x) ρ0>>=fun ρ1=>fc ρ1>>=fun k=>if k then fe ρ1>>=fun y=>Res.ok (some y)else .ok none)=f at e2;have so1:=so.same s1;have hpre:∀i,∃ys,z2k f (w.2.take i)=.ok ys:=fun i=>by rw[<-List.take_append_drop i w.2]at e2;obtain⟨r1,r2,h1,_,_⟩:=z3a _ _ _ e2;exact⟨r1,h1⟩
 let Fb:Fm:={F with V:=fun a=>F.V a/\a≠l,O:=fun _=>none}
 refine zra (n:=w.2.length) (CI X.K Fb f w.2 H1 l) wk.len ?_ ?_ ?_ ?_ ?_
 ·exact⟨z02,fun a o e=>by rw[z01 (z0b e hl)];exact e,[],rfl,rfl⟩
 ·rintro i acc H2 ⟨_,_,ys,hy,rs⟩
  rw[rs.len];have:=z60 _ _ hy;rw[f8]at this;omega
 ·rintro acc H2 ⟨h1,h2,ys,hy,rs⟩
  rw[List.take_length]at hy;rw[e2]at hy;cases hy;have kp:Kp B H1 H2:=fun a o e _=>h2 a o e;refine⟨wk.stop H2 kp,q _ _ (fun a o e=>h2 a o (s1 a o e)) ?_⟩;have hHl:H l=none:=s1.none hl;refine⟨l,acc,rfl,.inl ⟨h1,?_⟩,rs.reps fun x hx a hb=>?_⟩
  ·show BG F H (gCo ysA) (some l);unfold gCo;split
   ·exact hHl
   ·exact so.vis l hHl
  ·unfold gCo;by_cases ea:(ysA.all fun x=>x.1==.fr)=true
   ·rw[if_pos ea];have hx1:x.1=.fr:=by simpa using bp.mp ea x hx
    rw[hx1]at hb;cases a with
    |none=>exact hb
    |some a=>
     have hb':upd H1 l (.lst []) a=none:=hb
     have:H1 a=none:=by
      by_cases hal:a=l
      ·subst hal;exact hl
      ·rw[z01 hal]at hb';exact hb'
     exact s1.none this
   ·rw[if_neg ea];have:visA Fb a:=BG.vis (F:=Fb) (H:=upd H1 l (.lst [])) (fun a e=>((so1.blk nt js l [] hl).vis a e)) hb;cases a with
    |none=>exact this
    |some a=>exact this.1
 ·rintro i acc H2 hi ⟨_,h2,_⟩
  exact wk.go H2 (fun a o e _=>h2 a o e) i hi
 ·rintro i acc H2 x H3 hi ⟨h1,h2,ys,hy,rs⟩ y
  obtain⟨s3,d,hd,rx⟩:=wk.yld H2 (fun a o e _=>h2 a o e) i x H3 hi y;obtain⟨ys',hy'⟩:=hpre (i+1);have htk:w.2.take (i+1)=w.2.take i++[d]:=by rw[List.take_add_one,hd];rfl
  rw[htk]at hy';obtain⟨r1,r2,g1,g2,g3⟩:=z3a _ _ _ hy';rw[hy]at g1;cases g1;obtain⟨o,g4,g2⟩:=Res.bind_ok g2;obtain⟨r3,g5,g2⟩:=Res.bind_ok g2;cases g5;rw[<-hf]at g4;obtain⟨ρ1,k1,g4⟩:=Res.bind_ok g4;obtain⟨k,k2,g4⟩:=Res.bind_ok g4
  have sb:StOk X.K Fb H3 (emb nt js σ) ρ0:=by
   rw[<-hr];refine(so1.blk nt js l acc hl).same fun a o e=>s3 a o ?_;by_cases hal:a=l
   ·subst hal;rw[z02]at e;rw[h1];exact e
   ·rw[z01 hal]at e;exact h2 a o e
  have rx':Rep X.K H3 (BI Fb (gJ d w.1)) x d:=by
   unfold gJ;by_cases hi:imm d=true
   ·rw[if_pos hi];exact Rep.immB d hi rx
   ·rw[if_neg hi];refine rx.weak fun a b=>?_;obtain⟨b1,b2⟩:=hB a b;have b3:=BI.of so.vis b1;cases a with
    |none=>cases hw:w.1<;>rw[hw]at b3<;>exact b3
    |some a=>
     have hal:a≠l:=fun z=>b2 (by show H1 a=none;rw[z];exact hl);cases hw:w.1<;>rw[hw]at b3
     ·exact⟨b3,hal⟩
     ·exact⟨b3.1,b3.2,hal⟩
     ·exact⟨b3,hal⟩
     ·exact⟨b3,hal⟩
  refine⟨_,Fb,(gJ d w.1,d),ρ1,sb,rx',k1,fun σ4 F4 so4 kps=>⟨⟨kps.len.symm,fun j v hj=>?_⟩,ρ1,F4,k,so4,k2,fun H5 s5=>?_⟩⟩
  ·by_cases hjt:j∈tgIx t
   ·have :=ht0 j hjt;unfold emb at hj;rw[ij (by rw[cn];exact this),cj,if_pos this]at hj;cases hj
   ·rw[kps.rest j hjt];exact hj
  ·have h5:∀a o,H1 a=some o->H5 a=some o:=fun a o e=>s5 a o (s3 a o (h2 a o e));have h5l:H5 l=some (.lst acc):=s5 _ _ (s3 _ _ h1);have rs5:RGs X.K Fb (upd H1 l (.lst [])) H5 acc ys:=rs.keep fun a o g e _=>s5 a o (s3 a o e);cases k with
   |false=>cases g4;cases g2;refine iteF ⟨h5l,h5,ys,?_,rs5⟩;rw[htk,hy',g3];simp[oc]
   |true=>
    obtain⟨yv,k3,g4⟩:=Res.bind_ok g4;cases g4;cases g2;refine iteT ⟨ρ1,F4,yv,so4.same s5,k3,fun v H6 s6 rv=>⟨s6 _ _ h5l,z02,fun a o e=>?_,ys++[yv],?_,?_⟩⟩
    ·rw[z01 (z0b e hl)];exact s6 a o (h5 a o e)
    ·rw[htk,hy',g3];rfl
    ·have h6l:=s6 _ _ h5l
     have hk:∀a o (g:G),H6 a=some o->(BG Fb (upd H1 l (.lst [])) g (some a)\/Fix o)->upd H6 l (.lst (acc++[v])) a=some o:=fun a o g e b=>by
      have hal:a≠l:=by
       intro z;subst z;rcases b with b|b
       ·cases g with
        |fr=>have b':upd H1 a (.lst []) a=none:=b;rw[z02]at b';cases b'
        |od=>exact b.2.2 rfl
        |al=>exact b.2 rfl
        |nu=>
         rcases b with b|b
         ·have b':upd H1 a (.lst []) a=none:=b;rw[z02]at b';cases b'
         ·exact b.2.2.2 rfl
       ·rw[h6l]at e;cases e;exact b
      rw[z01 hal];exact e
     have rs6:RGs X.K Fb (upd H1 l (.lst [])) H6 acc ys:=rs5.keep fun a o g e _=>s6 a o e
     have rv':Rep X.K H6 (BG Fb (upd H1 l (.lst [])) yv.1) v yv.2:=by
      refine rv.weak fun a b=>?_;cases hg:yv.1 with
      |fr=>
       rw[hg]at b;cases a with
       |none=>exact b
       |some a=>
        have b':H5 a=none:=b;show upd H1 l (.lst []) a=none;have hal:a≠l:=fun z=>by rw[z,h5l]at b';cases b'
        rw[z01 hal];cases e1:H1 a with
        |none=>rfl
        |some o=>rw[h5 a o e1]at b';cases b'
      |nu=>
       rw[hg]at b;cases a with
       |none=>exact b
       |some a=>
        rcases b with b|b
        ·have b':H5 a=none:=b;refine .inl ?_;show upd H1 l (.lst []) a=none;have hal:a≠l:=fun z=>by rw[z,h5l]at b';cases b'
         rw[z01 hal];cases e1:H1 a with
         |none=>rfl
         |some o=>rw[h5 a o e1]at b';cases b'
        ·refine .inr ⟨rfl,?_,?_⟩
         ·have:=b.2.1;rw[kps.h0]at this;exact this
         ·have:=b.2.2;rw[kps.v]at this;exact this
      |od=>
       rw[hg]at b;cases a with
       |none=>have b1:F4.z:=b;rw[kps.z]at b1;exact b1
       |some a=>have b1:F4.H0 a≠none/\F4.V a:=b;rw[kps.h0,kps.v]at b1;exact b1
      |al=>
       rw[hg]at b;cases a with
       |none=>have b1:F4.z:=b;rw[kps.z]at b1;exact b1
       |some a=>have b1:F4.V a:=b;rw[kps.v]at b1;exact b1
     exact(rs6.snoc rv').keep hk
theorem zb4 {nt:Nat}{js:List Nat}{t:Tg}{fw:Rho->Res (G×List D)}{fc:Rho->Res Bool}{fe:Rho->Res GD}(ht0:∀i∈tgIx t,i<nt):∀σ H Q,tD X.K (zaf nt js t fw fc fe) σ H Q->tLC (tDW X.K fw) (tDG X.K t) (tDT X.K fc) (tD X.K fe) (emb nt js) σ H Q:=by intro σ H Q h;obtain⟨ρ,F,z,so,e,q⟩:=h;obtain⟨w,e1,h⟩:=z8x (X:=X) (js:=js) (fw:=fw) (fc:=fc) (fe:=fe) ht0 so e q;exact⟨ρ,F,w,so,e1,h⟩
theorem zfd {scope:Scope}{N':List Str}{nt:Nat}{js:List Nat}{t:Tg}{iter elt:Expr}{ifs:List Expr}{fw:Rho->Res (G×List D)}{fc:Rho->Res Bool}{fe:Rho->Res GD}(hc:X.calm=true)(Bk:BlkScope X scope N' nt js)(ht0:∀i∈tgIx t,i<nt)(hi:PI X tg iter (tDW X.K fw))
  (hg:∀C fp s H,PG (blk X scope N' C fp s H) tg (tDG X.K t)) (ht:∀C fp s H,PTs (blk X scope N' C fp s H) ifs (tDT X.K fc)) (he:∀C fp s H,PE (blk X scope N' C fp s H) elt (tD X.K fe)) (hs:∀x,fi iter X.env x=pure x):
  PE X (.ListComp elt [⟨tg,iter,ifs,0⟩] scope pos) (tD X.K (zaf nt js t fw fc fe))/\∀σ H Q,tD X.K (zaf nt js t fw fc fe) σ H Q->tLC (tDW X.K fw) (tDG X.K t) (tDT X.K fc) (tD X.K fe) (emb nt js) σ H Q:=by
 have main:=zb4 (X:=X) (js:=js) (fw:=fw) (fc:=fc) (fe:=fe) ht0;exact⟨PE.imp (zdh hc Bk hi hg ht he hs) main,main⟩
end
def BC (H:Hp)(A:Ad->Prop):G->Ad->Prop
 |.fr=>nw H
 |.od=>fun a=>nw H a\/A a
 |.al=>fun a=>nw H a\/A a
 |.nu=>nw H
def spD (K:W.Frag)(n:Nat)(m:Fn):Sp:=fun vs H Q _=>∃A ds x,vs.length=n/\Reps K H A vs ds/\m ds=.ok x/\∀v H',Same H H'->Rep K H' (BC H A x.1) v x.2->Q v H'
section
variable {X:Cx}{tg a b c e o:Expr}{es:List Expr}{fa fb fc:Rho->Res GD}{pos:Pos}
theorem znx {x:Str}{k k' n:Nat}{ps:List Str}{m:Fn}{fs:Rho->Res (List GD)}{p:Pos}(Cc:Cal X.prog X.w X.K X.mg X.base k x ps (spD X.K n m))(hr:Room k' X.A)(hk:k<=k')(ha:PA X (e::es) (tDA X.K fs))(hst:((e::es).all fun e=> !isStar e)=true)(hg:Gl X x)(hdb:(x==("__debug__":Str))=false)
  (hl:∀ρ ys,fs ρ=.ok ys->ys.length=n):PE X (.Call (.Name x p) (e::es) [] pos) (tD X.K fun ρ=>fs ρ>>=fun ys=>m (ys.map (·.2))>>=fun r=>.ok (gJ r.2 (rtG r.1),r.2)):=
 PE.imp (ze6 Cc hr ha hst hk hg hdb) fun σ H Q zz=>by
  obtain⟨ρ,F,z,so,e,q⟩:=zz;obtain⟨ys,e1,e⟩:=Res.bind_ok e;obtain⟨r,e2,e⟩:=Res.bind_ok e;cases e;refine⟨ρ,F,ys,so,e1,fun vs H1 s1 rs=>?_⟩;show spD X.K n m (vs++[]) H1 Q E0;rw[dj];refine⟨_,_,r,by rw[rs.len];exact hl ρ ys e1,rs.repsV so.vis,e2,fun v H2 s2 rv=>q v H2 (s1.trans s2) (z2o rv fun a h=>?_)⟩;have al:(nw H1 a\/visA F a)->visA F a:=fun h=>h.elim (fun h=>(nw.back s1 h).vis so.vis) fun h=>h;cases hg:r.1 with
  |fr=>rw[hg]at h;exact nw.back s1 h
  |od=>rw[hg]at h;exact al h
  |al=>rw[hg]at h;exact al h
  |nu=>rw[hg]at h;exact nw.back s1 h
def rMt (K:W.Frag)(m:String):V->List V->Hp->VK->Prop:=fun x xs H Q=>∃B B' dx ds d,Rep K H B x dx/\Reps K H B' xs ds/\mtD m dx ds=.ok d/\∀w H',Same H H'->Rep K H' (fun a=>nw H a\/B a\/B' a) w d->Q w H'
theorem z10 {o:Expr}{n:Str}{env:Env}{w:Sem Value}(h:z0e o=true):i5 o n env w=w:=by
 unfold i5;split
 ·rename_i id p pos;cases h
 ·rfl
theorem z75 {pos:Pos}{env:Env}:∀{es:List Expr},(es.all fun e=> !isStar e)=true->(i4 pos (cu es env)).all (fun x=> !x.1)=true
 | [],_=>rfl
 |e::es,h=>by have h:=aw.mp (bz▸h);rw[z06 (by simpa using h.1)];show(true&&(i4 pos (cu es env)).all (fun x=>!x.1))=true;rw[z75 h.2];rfl
theorem z26 {cpos:Pos}{env:Env}{es:List Expr}(h:(es.all fun e=> !isStar e)=true)(hl:es.length<20):((i4 cpos (cu es env)).all (fun x=> !x.1)&&(m8 cpos (kn [] env)).all (fun x=>x.1.isSome)
  &&decide (es.length+([]:List j4).length+(if([]:List j4).isEmpty then 0 else 1)<30))=true:=by
 rw[z75 h];show(true&&true&&decide (es.length+0+0<30))=true;rw[tz (by omega)];rfl
theorem d_mt {m T id:String}{n:Str}{apos cpos:Pos}{fs:Rho->Res (List GD)}(pa:sk T)(slot:PySem.Slot T n id)(hty:sr (.builtin id)=pure (.type "method_descriptor"))(hm:MtR X id (rMt X.K m))(hT:∀H B x dx ds d,Rep X.K H B x dx->mtD m dx ds=.ok d->tyV X.K T x H)
  (ho:PE X o (tD X.K fa)) (ha:PA X (e::es) (tDA X.K fs)) (hns:z0e o=true) (hst:((e::es).all fun e=>!isStar e)=true) (hl:(e::es).length<20) (hline:(apos.endLine==cpos.line)=true):
  PE X (.Call (.Attribute o n apos) (e::es) [] cpos) (tD X.K fun ρ=>fa ρ>>=fun x=>fs ρ>>=fun ys=>mtD m x.2 (ys.map (·.2))>>=fun d=>.ok (gJ d .al,d)):=by
 have hst':=hst;rw[bz,aq]at hst';refine PE.imp (z68 pa slot hty hm ho ha (z10 hns) (z26 hst hl) hline (z06 (by simpa using hst'.1)) (z0k hst'.2)) fun σ H Q zz=>?_;obtain⟨ρ,F,z,so,e,q⟩:=zz;obtain⟨x,e1,e⟩:=Res.bind_ok e;obtain⟨ys,e2,e⟩:=Res.bind_ok e;obtain⟨d,e3,e⟩:=Res.bind_ok e;cases e;refine⟨ρ,F,x,so,e1,fun v H1 s1 rv=>⟨hT H1 _ v x.2 _ d rv e3,ρ,F,ys,so.same s1,e2,fun vs H2 s2 rs=>?_⟩⟩;refine⟨_,_,x.2,_,d,rv.same s2 fun _ z=>z,rs.repsV (so.same s1).vis,e3,fun w H3 s3 rw'=>q w H3 ((s1.trans s2).trans s3) (z2o rw' fun a h=>?_)⟩;rcases h with h|h|h
 ·exact(nw.back (s1.trans s2) h).vis so.vis
 ·exact h.vis so.vis
 ·exact h
theorem z5x {K:W.Frag}{H:Hp}{B:Ad->Prop}:∀{ds:List D} {ss:List Str} {vs:List V} {us:List Value},allS ds=some ss->Reps K H B vs ds->Vals vs us->StrsAre us ss/\∀s∈ss,PyData.strOk s=true
 | [],ss,vs,us,e,r,q=>by cases e;have e1:vs=[]:=r;subst e1;cases q;exact⟨.nil,fun _ h=>nomatch h⟩
 |d::ds,ss,vs,us,e,r,q=>by
  cases d<;>try (cases e;done)
  rename_i z;change(allS ds).map (z:: ·)=_ at e;cases e1:allS ds with
  |none=>rw[e1]at e;cases e
  |some ss'=>
   rw[e1]at e;cases e;obtain⟨v,t,rfl,h1,h2⟩:=r;have ev:v=.str z:=h1.1;subst ev;cases q with
   |cons q1 q2=>
    obtain⟨tk,rfl⟩:=q1;obtain⟨i1,i2⟩:=z5x e1 h2 q2;refine⟨.cons z tk i1,fun s hs=>?_⟩;rcases(ak.mp hs)with rfl|hs
    ·exact h1.2
    ·exact i2 s hs
theorem zch (z:Str)(ss:List Str):Txt.join z ss=z17 z ss:=by
 have go:∀(r:List Str) (acc:Array Nat),(r.foldl (fun acc p=>acc++z.cps++p.cps) acc).toList=acc.toList++(r.map fun p=>z.cps.toList++p.cps.toList).flatten:=by
  intro r
  induction r with
  |nil=>intro acc;simp
  |cons p r ih=>intro acc;rw[List.foldl_cons,ih];simp
 show qh z ss=_;unfold qh z17 z2h;cases ss with
 |nil=>rfl
 |cons x r=>
  have:=go r x.cps;show(⟨r.foldl (fun acc p=>acc++z.cps++p.cps) x.cps⟩:Str)=⟨(x.cps.toList++(r.map fun p=>z.cps.toList++p.cps.toList).flatten).toArray⟩
  congr 1
  rw[<-this,i0]
theorem z8r {z:Str}{ss:List Str}(hz:PyData.strOk z=true)(h:∀s∈ss,PyData.strOk s=true):PyData.strOk (z17 z ss)=true:=
 strOk_iff.mpr fun c hc=>by
  have hc':c∈z2h z.cps.toList ss:=by simpa[z17]using hc
  cases ss with
  |nil=>simp[z2h]at hc'
  |cons x r=>
   simp only[z2h,dz,nh,ci]at hc';rcases hc' with hc'|⟨l,⟨p,hp,rfl⟩,hc'⟩
   ·exact strOk_iff.mp (h x ai) c hc'
   ·rcases dz.mp hc' with hc'|hc'
    ·exact strOk_iff.mp hz c hc'
    ·exact strOk_iff.mp (h p (ah _ hp)) c hc'
theorem zk9:MtR X "str.join" (rMt X.K "join"):=by
 intro pins s σ H x xs v us Q I rx rs h;obtain⟨B,B',dx,ds,d,r1,r2,e,q⟩:=h;simp only[mtD,show("join":String)≠"get" by decide,if_true,if_false]at e;split at e
 ·rename_i z ys;split at e
  case h_2=>cases e
  rename_i ss hss;split at e
  case isFalse=>cases e
  rename_i hw;cases e;obtain⟨vl,rfl,h1⟩:=zaz r2;obtain⟨a,vs,rfl,hq,rl⟩:=z1a h1;obtain⟨u,rfl,ru⟩:=vals1 rs;cases ru;have ex:x=.str z:=r1.1;subst ex;obtain⟨t,rfl⟩:=rx;obtain⟨its,rv,pl,_⟩:=I.list hq;obtain⟨sa,ok⟩:=z5x hss rl rv;refine join_list pl.isList (by simpa using sa) (bw hw (by unfold LIM;decide)) fun t' k=>?_;rw[zch];exact⟨.str _,H,I.tok _,⟨_,rfl⟩,q _ H (Same.refl H) ⟨rfl,z8r r1.2 ok⟩⟩
 ·cases e
theorem zit {H:Hp}{B:Ad->Prop}{x:V}{dx d:D}{ds:List D}(r:Rep X.K H B x dx)(e:mtD "join" dx ds=.ok d):tyV X.K "str" x H:=by
 simp only[mtD,show("join":String)≠"get" by decide,if_true,if_false]at e;split at e
 ·have ex:x=.str _:=r.1;subst ex;exact rfl
 ·cases e
end
section
variable {X:Cx}{o:Expr}{fa:Rho->Res GD}
def rUp:V->List V->Hp->VK->Prop:=fun x xs H Q=>∃z,x=.str z/\xs=[]/\(z.cps.toList.all fun c=>decide (97<=c)&&decide (c<=122))=true/\z.length<=LIM/\Q (.str ⟨(z.cps.toList.map (· -32)).toArray⟩) H
theorem znm:∀c:Fin 26,Unicode.upperOf (97+c.val)=[97+c.val-32]:=by decide+kernel
theorem zo0 {c:Nat}(h0:97<=c)(h1:c<=122):Unicode.upperOf c=[c-32]:=by
 have h:=znm ⟨c-97,by omega⟩;have e:97+(c-97)=c:=by omega
 dsimp only at h
 rw[e]at h;exact h
theorem z9l:∀{l:List Nat},(l.all fun c=>decide (97<=c)&&decide (c<=122))=true->(l.map fun c=>Unicode.upperOf c).flatten=l.map (· -32)
 | [],_=>rfl
 |c::l,h=>by rw[bz,aw,aw,decide_eq_true_iff,decide_eq_true_iff]at h;rw[bn,k8,z9l h.2,zo0 h.1.1 h.1.2];rfl
theorem z7d {α β:Type}(g:α->β):∀l:List α,l.mapIdx (fun _ c=>g c)=l.map g
 | []=>rfl
 |a::l=>by rw[List.mapIdx_cons,z7d g l,bn]
theorem z5d {z:Str}(h:(z.cps.toList.all fun c=>decide (97<=c)&&decide (c<=122))=true):placed z (fun _ c=>Unicode.upperOf c)=(z.cps.toList.map (· -32)).toArray:=by apply sw;rw[<-z9l h];unfold placed;rw[Array.toList_flatten,Array.toList_mapIdx,z7d,dw];simp[Function.comp_def]
theorem m_up:MtR X "str.upper" rUp:=by
 intro pins s σ H x xs v us Q I rx rs h;obtain⟨z,rfl,rfl,hz,hl,q⟩:=h;obtain⟨t,rfl⟩:=rx;cases rs;have hlen:(z.cps.toList.map (· -32)).toArray.size=z.length:=by rw[ao,av,dh];rfl
 have hL:LIM=1000000:=rfl;have hs:=dq;have g:=gives_str_upper z t (by rw[z5d hz,hlen];exact t7 (show ¬z.length>az by omega));rw[z5d hz]at g;refine call_gives F.slot_str_upper (n3 _ _ _) F.entry_str_upper (F.args_str_upper_1 _) g ⟨?_,?_⟩
 ·show(z.cps.toList.map (· -32)).toArray.size<=az;rw[hlen];omega
 ·exact⟨.str _,H,I.tok _,⟨_,rfl⟩,q⟩
theorem zpi {apos cpos:Pos}(ho:PE X o (tD X.K fa))(hns:z0e o=true)(hline:(apos.endLine==cpos.line)=true):
  PE X (.Call (.Attribute o "upper" apos) [] [] cpos) (tD X.K fun ρ=>fa ρ>>=fun x=>upD x.2>>=fun d=>.ok (.fr,d)):=by
 refine PE.imp (zfk PySem.F.plainAttrs_str PySem.F.slot_str_upper PySem.F.type_str_upper m_up ho (z10 hns) hline) fun σ H Q zz=>?_;obtain⟨ρ,F,z,so,e,q⟩:=zz;obtain⟨x,e1,e⟩:=Res.bind_ok e;obtain⟨d,e3,e⟩:=Res.bind_ok e;cases e;refine⟨ρ,F,x,so,e1,fun v H1 s1 rv=>?_⟩;obtain⟨g,dx⟩:=x;cases dx with
 |str w=>
  have e3:(if _ then _ else _)=_:=e3;split at e3
  ·rename_i hc;cases e3;rw[aw,decide_eq_true_iff]at hc;have ev:v=.str w:=rv.1;subst ev;refine⟨rfl,w,rfl,rfl,hc.1,hc.2,q _ H1 s1 ⟨rfl,strOk_iff.mpr fun c hcm=>?_⟩⟩;have hcm':c∈w.cps.toList.map (· -32):=hcm;obtain⟨b,hb,rfl⟩:=ci.mp hcm';have hb':=bp.mp hc.1 b hb;rw[aw,decide_eq_true_iff,decide_eq_true_iff]at hb';show b-32<0x110000;omega
  ·cases e3
 |_=>cases e3
end
theorem zhz {y:Str}{c:Nat}(h:oneC y=some c):y=⟨#[c]⟩:=by
 obtain⟨⟨l⟩⟩:=y;unfold oneC at h
 match l,h with
 | [d],h=>cases h;rfl
theorem z83 (c:Nat):∀(p r:List Nat),c∉p->splC c (p++c::r)=p::splC c r
 | [],r,_=>by show splC c (c::r)=_;rw[splC,if_pos rfl]
 |a::p,r,h=>by rw[ak,not_or]at h;show splC c (a::(p++c::r))=_;rw[splC,if_neg (fun e=>h.1 e.symm),z83 c p r h.2]
theorem z85 (c:Nat):∀(p:List Nat),c∉p->splC c p=[p]
 | [],_=>rfl
 |a::p,h=>by rw[ak,not_or]at h;rw[splC,if_neg (fun e=>h.1 e.symm),z85 c p h.2]
theorem z55 (c:Nat):∀(ps:List Str),ps≠ []->(∀p∈ps,c∉p.cps.toList)->splC c (Str.join ⟨#[c]⟩ ps).cps.toList=ps.map fun p=>p.cps.toList
 | [],h,_=>absurd rfl h
 | [p],_,h=>z85 c _ (h p (.head _))
 |p::q::r,_,h=>by
  have e:(Str.join ⟨#[c]⟩ (p::q::r)).cps.toList=p.cps.toList++c::(Str.join ⟨#[c]⟩ (q::r)).cps.toList:=by show((p.cps++#[c])++(Str.join ⟨#[c]⟩ (q::r)).cps).toList=_;simp
  rw[e,z83 c _ _ (h p (.head _)),z55 c (q::r) (fun z=>nomatch z) fun z hz=>h z (.tail _ hz)];rfl
theorem z3s (x:Str)(c:Nat):(Txt.split x ⟨#[c]⟩).map (fun p=>p.cps.toList)=splC c x.cps.toList:=by have h:=z55 c (Txt.split x ⟨#[c]⟩) (fun z=>by have:=split_pos x ⟨#[c]⟩;rw[z]at this;exact absurd this (by decide)) (StrLaws.split_free x c);rw[StrLaws.join_split]at h;exact h.symm
theorem z8d (x:Str):toS x.cps.toList=x:=by obtain⟨a⟩:=x;show(⟨a.toList.toArray⟩:Str)=_;rw[i0]
theorem z99 (x:Str)(c:Nat):(splC c x.cps.toList).map (fun l=>PyData.str (toS l))=(Txt.split x ⟨#[c]⟩).map .str:=by rw[<-z3s,dw];exact o5 fun p _=>by show PyData.str (toS p.cps.toList)=_;rw[z8d]
theorem za0 {l m:List Nat}(h:∀c∈m,c∈l)(ok:PyData.strOk ⟨l.toArray⟩=true):PyData.strOk (toS m)=true:=
 strOk_iff.mpr fun c hc=>strOk_iff.mp ok c (by have hc':c∈m:=by simpa[toS]using hc
                                               simpa using h c hc')
theorem zh3 {x:Str}(ok:PyData.strOk x=true):PyData.strOk ⟨x.cps.toList.toArray⟩=true:=by rw[i0];exact ok
theorem z1i (c:Nat):∀(l p:List Nat),p∈splC c l->∀d∈p,d∈l
 | [],p,h,d,hd=>by rw[ce.mp h]at hd;exact hd
 |a::l,p,h,d,hd=>by
  rw[splC]at h;split at h
  ·rcases ak.mp h with rfl|h
   ·cases hd
   ·exact .tail _ (z1i c l p h d hd)
  ·cases e:splC c l with
   |nil=>rw[e]at h;rw[ce.mp h]at hd;rw[ce.mp hd];exact .head _
   |cons q t=>
    rw[e]at h;rcases ak.mp h with rfl|h
    ·rcases ak.mp hd with rfl|hd
     ·exact .head _
     ·exact .tail _ (z1i c l q (by rw[e];exact .head _) d hd)
    ·exact .tail _ (z1i c l p (by rw[e];exact .tail _ h) d hd)
section
variable {X:Cx}{o e:Expr}{fa fb:Rho->Res GD}
def rSp (K:W.Frag):V->List V->Hp->VK->Prop:=fun x xs H Q=>∃z c,x=.str z/\xs=[.str ⟨#[c]⟩]/\PyData.strOk z=true/\z.length<=LIM/\∀w H',Same H H'->Rep K H' (nw H) w (.list ((splC c z.cps.toList).map fun l=>.str (toS l)))->Q w H'
theorem z4w:∀(l:List (Str×Tok)),Vals ((l.map (·.1)).map V.str) (strValues l)
 | []=>.nil
 |p::l=>.cons ⟨_,rfl⟩ (z4w l)
theorem z5q {K:W.Frag}{H:Hp}{B:Ad->Prop}:∀(l:List Str),(∀p∈l,PyData.strOk p=true)->Reps K H B (l.map V.str) (l.map PyData.str)
 | [],_=>rfl
 |p::l,h=>⟨_,_,rfl,⟨rfl,h p (.head _)⟩,z5q l fun q hq=>h q (.tail _ hq)⟩
theorem zo2:MtR X "str.split" (rSp X.K):=by
 intro pins s σ H x xs v us Q I rx rs h;obtain⟨z,c,rfl,rfl,ok,hl,q⟩:=h;obtain⟨t,rfl⟩:=rx;obtain⟨u,rfl,t2,rfl⟩:=vals1 rs;have hL:LIM=1000000:=rfl;have hs:=dq
 have hok:∀p∈Txt.split z ⟨#[c]⟩,PyData.strOk p=true:=fun p hp=>by
  have hp2:p.cps.toList∈splC c z.cps.toList:=by rw[<-z3s];exact ci.mpr ⟨p,hp,rfl⟩
  have:=za0 (z1i c _ _ hp2) (zh3 ok);rw[z8d]at this;exact this
 have hN:=split_le z ⟨#[c]⟩;have hp:H s.heap.objs.size=none:=I.hok.fresh (aj _)
 have fin:∀(l:List (Str×Tok)) (tk:Nat),l.map (·.1)=Txt.split z ⟨#[c]⟩->EP X pins σ Q (.ref s.heap.objs.size) {s with toks:=tk,heap:=s.heap.push {cls:=.type "list",data:=.seq (strValues l).toArray}}:=fun l tk el=>by
  have r1:=z4w l;rw[el]at r1;refine⟨.ref _,_,I.laid (t':=tk) (o:=.lst ((Txt.split z ⟨#[c]⟩).map V.str)) (fun b ob q=>af _ q) (aj _) ⟨?_,_,0,r1,ba _ rfl⟩,rfl,q _ _ (Same.upd hp) ?_⟩
  ·rw[av];omega
  ·rw[z99];exact z1w (B:=nw H) hp (z5q _ hok) (fun _ z=>z) hp
 have hy:((⟨#[c]⟩:Str).length==0)=false:=rfl;have hT:=n3 s z t;by_cases h1:(decide (z.length<(⟨#[c]⟩:Str).length)||decide (o6 z<o6 ⟨#[c]⟩))=true
 ·refine ki F.slot_str_split hT F.entry_str_split (F.args_str_split_2 _ _) (meets_str_split_cannot_occur z _ t t2 h1) ?_;exact fin [(z,t)] s.toks (by show[z]=_;unfold Txt.split;rw[if_pos h1])
 have h1':=eq_false_of_ne_true h1;by_cases hf:(cy z ⟨#[c]⟩ 0 z.length (z.length+1)).isEmpty=true
 ·refine ki F.slot_str_split hT F.entry_str_split (F.args_str_split_2 _ _) (meets_str_split_not_found z _ t t2 h1' hy hf) ?_;exact fin [(z,t)] s.toks (by show[z]=_;unfold Txt.split;rw[if_neg h1,if_pos hf])
 have hf':=eq_false_of_ne_true hf;have es:Txt.split z ⟨#[c]⟩=Builtin.Str.partsBetween z (cy z ⟨#[c]⟩ 0 z.length (z.length+1)) (⟨#[c]⟩:Str).length:=by unfold Txt.split;rw[if_neg h1,if_neg hf]
 refine ki F.slot_str_split hT F.entry_str_split (F.args_str_split_2 _ _) (meets_str_split_sep z _ t t2 h1' hy hf' (by omega) (by rw[<-es];omega)) ?_;have:=fin (numbered s.toks (Txt.split z ⟨#[c]⟩)) (s.toks+(Txt.split z ⟨#[c]⟩).length) (numbered_texts _ _);rw[<-strsFrom_eq,es]at this;exact this
theorem zg9 {a b d:D}(h:splD a b=.ok d):∃x c,a=.str x/\b=.str ⟨#[c]⟩/\x.length<=LIM/\d=.list ((splC c x.cps.toList).map fun l=>.str (toS l)):=by
 cases a<;>cases b<;>try (cases h;done)
 rename_i x y;change(match oneC y with|some c=>if decide (x.length<=LIM)=true then Res.ok (PyData.list ((splC c x.cps.toList).map fun l=>.str (toS l)))else .no|none=>.no)=_ at h;cases hc:oneC y with
 |none=>rw[hc]at h;cases h
 |some c=>
  rw[hc]at h
  dsimp only at h
  split at h
  ·rename_i hl;cases h;exact⟨x,c,rfl,by rw[zhz hc],tu hl,rfl⟩
  ·cases h
theorem zor {apos cpos:Pos}(ho:PE X o (tD X.K fa))(he:PE X e (tD X.K fb))(hns:z0e o=true)(hst:isStar e=false)(hline:(apos.endLine==cpos.line)=true):
  PE X (.Call (.Attribute o "split" apos) [e] [] cpos) (tD X.K fun ρ=>fa ρ>>=fun x=>fb ρ>>=fun y=>splD x.2 y.2>>=fun d=>.ok (.fr,d)):=by
 have hsa:([e].all fun e=>!isStar e)=true:=by simp[hst]
 refine PE.imp (z68 PySem.F.plainAttrs_str PySem.F.slot_str_split PySem.F.type_str_split zo2 ho (z4a he z1v (z06 hst)) (z10 hns) (z26 hsa (by show 1<20;omega)) hline (z06 hst) rfl) fun σ H Q zz=>?_;obtain⟨ρ,F,z,so,e,q⟩:=zz;obtain⟨x,e1,e⟩:=Res.bind_ok e;obtain⟨y,e2,e⟩:=Res.bind_ok e;obtain⟨d,e3,e⟩:=Res.bind_ok e;cases e;obtain⟨gx,dx⟩:=x;obtain⟨gy,dy⟩:=y;obtain⟨zx,c,rfl,rfl,hl,rfl⟩:=zg9 e3;refine⟨ρ,F,(gx,.str zx),so,e1,fun v H1 s1 rv=>?_⟩;have ev:v=.str zx:=rv.1;subst ev;refine⟨rfl,ρ,F,(gy,.str ⟨#[c]⟩),so.same s1,e2,fun w H2 s2 rw'=>?_⟩;have ew:w=.str ⟨#[c]⟩:=rw'.1;subst ew;exact⟨zx,c,rfl,rfl,rv.2,hl,fun w H3 s3 r3=>q w H3 ((s1.trans s2).trans s3) (r3.weak fun a ha=>nw.back (s1.trans s2) ha)⟩
theorem z9o:CallR X (.type "int") (fun xs H Q=>∃x,xs=[.str x]/\figs x.cps.toList=true/\x.length<=600/\Q (.int (digV x.cps.toList:Int)) H):=by
 intro pins s σ H xs us Q I r h;obtain⟨x,rfl,hf,hl,q⟩:=h;obtain⟨u,rfl,t,rfl⟩:=vals1 r;unfold figs at hf;rw[aw]at hf;have hd:NumText.AllDigits x.cps.toList:=fun c hc=>by have:=bp.mp hf.2 c hc;rw[aw,decide_eq_true_iff,decide_eq_true_iff]at this;exact this
 have hn:=intText_digits hd (fun z=>by rw[z]at hf;cases hf.1) (by omega);exact W.KIN.call_text hn (by omega) ⟨.int _,H,I.tok _,⟨_,rfl⟩,q⟩
end
def Frm (F:Fm)(H:Hp)(F':Fm)(H':Hp):Prop:=∀a o,H a=some o->F.O a=none->H' a=some o/\F'.O a=none
theorem Frm.refl {F:Fm}{H:Hp}:Frm F H F H:=fun _ _ e o=>⟨e,o⟩
theorem Frm.trans {F F' F'':Fm}{H H' H'':Hp}(a:Frm F H F' H')(b:Frm F' H' F'' H''):Frm F H F'' H'':=fun x o e n=>by obtain⟨e1,n1⟩:=a x o e n;exact b x o e1 n1
theorem Frm.same {F:Fm}{H H':Hp}(s:Same H H'):Frm F H F H':=fun a o e n=>⟨s a o e,n⟩
def Run (F F':Fm):Prop:=Same F.H0 F'.H0/\F'.V=F.V/\F'.z=F.z
theorem Run.refl {F:Fm}:Run F F:=⟨fun _ _ e=>e,rfl,rfl⟩
theorem Run.trans {F F' F'':Fm}(a:Run F F')(b:Run F' F''):Run F F'':=⟨fun x o e=>b.1 x o (a.1 x o e),b.2.1.trans a.2.1,b.2.2.trans a.2.2⟩
theorem Run.of {F F':Fm}(h:F'.H0=F.H0)(v:F'.V=F.V)(z:F'.z=F.z):Run F F':=⟨fun _ _ e=>by rw[h];exact e,v,z⟩
def BR (F:Fm):G->Ad->Prop
 |.fr=>fun a=>match a with|some a=>F.H0 a=none|none=>False
 |.od=>visA F
 |.al=>visA F
 |.nu=>fun a=>match a with|some a=>F.H0 a=none|none=>False
def z69 (K:W.Frag)(F:Fm)(H:Hp)(D:Ends):Out->Prop
 |.nx ρ'=>∀σ' H' F',StOk K F' H' σ' ρ'->Run F F'->Frm F H F' H'->D.nx σ' H'
 |.bk ρ'=>∀σ' H' F',StOk K F' H' σ' ρ'->Run F F'->Frm F H F' H'->D.bk σ' H'
 |.ct ρ'=>∀σ' H' F',StOk K F' H' σ' ρ'->Run F F'->Frm F H F' H'->D.ct σ' H'
 |.rt g d=>∀v H',(∀a o,F.H0 a=some o->H' a=some o)->Rep K H' (BR F g) v d->D.rt v H'
def tDS (K:W.Frag)(f:Rho->Res Out):TS:=fun D σ H=>∃ρ F out,StOk K F H σ ρ/\f ρ=.ok out/\z69 K F H D out
theorem none_of {H H':Hp}{a:Addr}(s:Same H H')(h:H' a=none):H a=none:=by
 cases e:H a with
 |none=>rfl
 |some o=>rw[s a o e]at h;cases h
theorem BR.run {F F':Fm}(r:Run F F'){g:G}{a:Ad}(h:BR F' g a):BR F g a:=by obtain⟨r1,r2,r3⟩:=r;cases g<;>cases a<;>first|exact h|(exact none_of r1 h)|(have h':F'.V _:=h;rw[r2]at h';exact h')|(have h':F'.z:=h;rw[r3]at h';exact h')
theorem z69.back {K:W.Frag}{F F':Fm}{H H':Hp}{D:Ends}{out:Out}(r:Run F F')(f:Frm F H F' H')(h:z69 K F H D out):z69 K F' H' D out:=by
 cases out with
 |nx ρ'=>exact fun σ'' H'' F'' so r2 f2=>h σ'' H'' F'' so (r.trans r2) (f.trans f2)
 |bk ρ'=>exact fun σ'' H'' F'' so r2 f2=>h σ'' H'' F'' so (r.trans r2) (f.trans f2)
 |ct ρ'=>exact fun σ'' H'' F'' so r2 f2=>h σ'' H'' F'' so (r.trans r2) (f.trans f2)
 |rt g d=>exact fun v H'' k rv=>h v H'' (fun a o e=>k a o (r.1 a o e)) (rv.weak fun _ b=>b.run r)
section
variable {X:Cx}{tg a b c e:Expr}{es:List Expr}{fa fb fc:Rho->Res GD}{pos:Pos}{st:Stmt}{rest A Bs:List Stmt}{fs gs:Rho->Res Out}
theorem zpc:PSs X [] (tDS X.K fun ρ=>.ok (.nx ρ)):=PSs.imp zaw fun D σ H ⟨ρ,F,out,so,e,q⟩=>by cases e;exact q σ H F so Run.refl Frm.refl
theorem zr3 (h1:PS X st (tDS X.K fs))(h2:PSs X rest (tDS X.K gs)):PSs X (st::rest) (tDS X.K fun ρ=>outB (fs ρ) gs):=
 PSs.imp (z41 h1 h2) fun D σ H zz=>by
  obtain⟨ρ,F,out,so,e,q⟩:=zz;have e:outB (fs ρ) gs=.ok out:=e;cases e1:fs ρ with
  |no=>rw[e1]at e;cases e
  |exc x=>rw[e1]at e;cases e
  |ok o1=>
   rw[e1]at e;cases o1 with
   |nx ρ1=>exact⟨ρ,F,.nx ρ1,so,e1,fun σ' H' F' so' r f=>⟨ρ1,F',out,so',e,q.back r f⟩⟩
   |bk ρ1=>cases e;exact⟨ρ,F,.bk ρ1,so,e1,q⟩
   |ct ρ1=>cases e;exact⟨ρ,F,.ct ρ1,so,e1,q⟩
   |rt g d=>cases e;exact⟨ρ,F,.rt g d,so,e1,q⟩
theorem zo5:PS X (.Continue pos) (tDS X.K fun ρ=>.ok (.ct ρ)):=PS.imp z67 fun D σ H ⟨ρ,F,out,so,e,q⟩=>by cases e;exact q σ H F so Run.refl Frm.refl
theorem s_if {ft:Rho->Res Bool}(hc:PT X c (tDT X.K ft))(ha:PSs X A (tDS X.K fs))(hb:PSs X Bs (tDS X.K gs)):PS X (.If c A Bs pos) (tDS X.K fun ρ=>ft ρ>>=fun k=>if k then fs ρ else gs ρ):=
 PS.imp (ziv hc ha hb) fun D σ H zz=>by
  obtain⟨ρ,F,out,so,e,q⟩:=zz;obtain⟨k,e1,e⟩:=Res.bind_ok e;refine⟨ρ,F,k,so,e1,fun H1 s1=>?_⟩;cases k with
  |true=>exact iteT ⟨ρ,F,out,so.same s1,e,q.back Run.refl (Frm.same s1)⟩
  |false=>exact iteF ⟨ρ,F,out,so.same s1,e,q.back Run.refl (Frm.same s1)⟩
theorem zjf {K:W.Frag}{F:Fm}{H H':Hp}{g:G}{v:V}{d:D}(so:∀a o,F.H0 a=some o->H a=some o)(hv:∀a,H a=none->F.V a)(r:Rep K H' (BG F H g) v d):Rep K H' (BR F (rtG g)) v d:=by
 refine r.weak fun a b=>?_;cases g with
 |fr=>
  cases a with
  |none=>exact b
  |some a=>show F.H0 a=none;exact Same.none so b
 |od=>exact oldA.vis b
 |al=>exact b
 |nu=>
  cases a with
  |none=>exact b.elim id id
  |some a=>exact b.elim (fun b=>Same.none so b) fun b=>b.2.1
theorem zpk (ha:PE X e (tD X.K fa)):PS X (.Return (some e) pos) (tDS X.K fun ρ=>fa ρ>>=fun x=>.ok (.rt (rtG x.1) x.2)):=PS.imp (z7n ha) fun D σ H zz=>by obtain⟨ρ,F,out,so,e,q⟩:=zz;obtain⟨x,e1,e⟩:=Res.bind_ok e;cases e;exact⟨ρ,F,x,so,e1,fun v H1 s1 rv=>q v H1 (fun a o e=>s1 a o (so.ext a o e)) (zjf so.ext so.vis rv)⟩
theorem Slot.ret {K:W.Frag}{F:Fm}{H:Hp}{i:Nat}{g:G}{v:V}{d:D}(so:∀a i,F.O a=some i->F.H0 a=none/\F.V a)(h:Slot K F H i g v d):Rep K H (BR F (if imm d then .fr else rtG g)) v d:=by
 by_cases hi:imm d=true
 ·rw[if_pos hi];exact Rep.immB d hi (h.rep fun a i e=>(so a i e).2)
 ·rw[if_neg hi];cases g with
  |fr=>
   obtain⟨p,e,o,h⟩:=h
   have hb:∀a,Bin F a->BR F .fr a:=fun a b=>by
    cases a with
    |none=>exact b
    |some a=>exact b.2.1
   rcases h with⟨vs,ds,rfl,e2,r⟩|⟨vs,ds,rfl,e2,r⟩
   ·exact⟨p,vs,e,.inl ⟨e2,(so _ _ o).1⟩,r.weak hb⟩
   ·exact⟨p,vs,e,e2,(so _ _ o).1,REs.same (fun _ _ e=>e) hb r⟩
  |od=>exact Rep.weak (fun _ b=>b.vis) h
  |al=>exact h
  |nu=>
   refine Rep.weak (fun a b=>?_) h;cases a with
   |none=>exact b
   |some a=>exact b.2.1
theorem zak {i:Nat}{x:Str}{p:Pos}(hN:X.N[i]?=some x)(hv:Vis X.env.scope x)(hd:(x==("__debug__":Str))=false)(hcd:(x==("__classdict__":Str))=false):
  PS X (.Return (some (.Name x p)) pos) (tDS X.K fun ρ=>match ρ[i]? with|some (some (g,d))=>.ok (.rt (if imm d then .fr else rtG g) d)|_=>.no):=
 PS.imp (z7n (z2y hN hv hd hcd)) fun D σ H zz=>by
  obtain⟨ρ,F,out,so,e,q⟩:=zz;have e:(match ρ[i]? with|some (some (g,d))=>Res.ok (Out.rt (if imm d then .fr else rtG g) d)|_=>.no)=.ok out:=e;cases e1:ρ[i]? with
  |none=>rw[e1]at e;cases e
  |some o=>
   rw[e1]at e;cases o with
   |none=>cases e
   |some gd=>obtain⟨g,d⟩:=gd;cases e;obtain⟨v,h1,h2⟩:=so.sl i g d e1;exact⟨v,h1,q v H so.ext (h2.ret fun a i e=>⟨(so.own a i e).1,(so.own a i e).2.1⟩)⟩
theorem REs.immB {K:W.Frag}{H:Hp}{B B':Ad->Prop}:∀{kvs:List (Key×V)} (es:Ents),immE es=true->REs K H B kvs es->REs K H B' kvs es
 |kvs,[],_,r=>r
 |kvs,(kd,d)::es,i,r=>by unfold immE at i;rw[bz,aq]at i;obtain⟨k,v,t,e,e2,ok,h,q⟩:=r;exact⟨k,v,t,e,e2,ok,Rep.immB d i.1 h,REs.immB es i.2 q⟩
theorem StOk.nwBin {K:W.Frag}{F:Fm}{H:Hp}{σ:L2.St}{ρ:Rho}(so:StOk K F H σ ρ){a:Ad}(h:nw H a):Bin F a:=by
 cases a with
 |none=>exact h
 |some a=>
  have h:H a=none:=h;refine⟨?_,Same.none so.ext h,so.vis a h⟩;cases e1:F.O a with
  |none=>rfl
  |some j=>obtain⟨_,_,z⟩:=so.own a j e1;rcases z with⟨xs,z⟩|⟨xs,z⟩<;>rw[h]at z<;>cases z
theorem StOk.setN {K:W.Frag}{F:Fm}{H:Hp}{σ:L2.St}{ρ:Rho}{d:D}{v:V}{i:Nat}(so:StOk K F H σ ρ)(r:Rep K H (Bin F) v d):StOk K (F.drop i) H (σ.set i (some v)) (ρ.set i (some (.nu,d))):=by
 have z:=so.setI (i:=i) (x:=(.al,d)) (v:=v) (Rep.weak (fun _ b=>Bin.vis b) r);refine⟨z.ext,z.vis,z.own,by rw[df,df];exact so.len,fun j g d' e=>?_⟩;by_cases hj:i=j
 ·subst hj;rw[dt]at e;simp only[if_true]at e;split at e
  ·rename_i hl;cases e;exact⟨v,by rw[dt];simp[so.len,hl],Rep.weak (fun _ b=>b.drop) r⟩
  ·cases e
 ·refine z.sl j g d' ?_;rw[cf hj]at e ⊢;exact e
def Fm.take (F:Fm)(i:Nat)(p:Addr):Fm:={F with O:=fun a=>if a=p then some i else if F.O a=some i then none else F.O a}
theorem Frm.drop {F:Fm}{H H':Hp}{i:Nat}(s:Same H H'):Frm F H (F.drop i) H':=fun a o e n=>⟨s a o e,Fm.drop_none n⟩
theorem StOk.setA {K:W.Frag}{F:Fm}{H H1:Hp}{σ:L2.St}{ρ:Rho}{x:GD}{v:V}{i:Nat}(so:StOk K F H σ ρ)(s1:Same H H1)(r:Rep K H1 (BG F H x.1) v x.2):
  ∃F',StOk K F' H1 (σ.set i (some v)) (ρ.set i (some (z16 x)))/\Run F F'/\Frm F H F' H1:=by
 have so1:=so.same s1;obtain⟨g,d⟩:=x
 have plain:z16 (g,d)=z4i (if imm d then .al else rdG g,d)->∃F',StOk K F' H1 (σ.set i (some v)) (ρ.set i (some (z16 (g,d))))/\Run F F'/\Frm F H F' H1:=fun e=>by
  rw[e];refine⟨F.drop i,so1.setI ?_,Run.of rfl rfl rfl,Frm.drop s1⟩;show Rep K H1 (BI F (if imm d then .al else rdG g)) v d;by_cases hi:imm d=true
  ·rw[if_pos hi];exact Rep.immB d hi r
  ·rw[if_neg hi];cases g with
   |fr=>exact r.weak fun _ b=>nw.vis so.vis b
   |od=>exact r
   |al=>exact r
   |nu=>exact r.weak fun _ b=>b.elim (nw.vis so.vis) Bin.vis
 have nuc:z16 (g,d)=(.nu,d)->(∀a,BG F H g a->Bin F a)->∃F',StOk K F' H1 (σ.set i (some v)) (ρ.set i (some (z16 (g,d))))/\Run F F'/\Frm F H F' H1:=fun e hb=>by rw[e];exact⟨F.drop i,so1.setN (Rep.weak hb r),Run.of rfl rfl rfl,Frm.drop s1⟩
 have own:∀(p:Addr),F.O p=none->H p=none->F.H0 p=none->F.V p->v=.ref p->z16 (g,d)=(.fr,d)->(∀F':Fm,(∀a,Bin F a\/nw H a->a≠some p->Bin F' a)->F'.O p=some i->Slot K F' H1 i .fr v d)->(((∃xs,H1 p=some (.lst xs))\/∃kvs,H1 p=some (.dK kvs)))->
   ∃F',StOk K F' H1 (σ.set i (some v)) (ρ.set i (some (z16 (g,d))))/\Run F F'/\Frm F H F' H1:=fun p hOp hHp hH0 hVp ev es hsl hobj=>by
  have hdr:∀a,a≠p->(F.take i p).O a=(F.drop i).O a:=fun a ha=>by show(if a=p then some i else _)=_;rw[if_neg ha];rfl
  have hnw:∀a,H a=none->F.O a=none:=fun a e=>by
   cases e1:F.O a with
   |none=>rfl
   |some j=>obtain⟨_,_,h⟩:=so.own a j e1;rcases h with⟨xs,h⟩|⟨xs,h⟩<;>rw[e]at h<;>cases h
  have hnw0:∀a,H a=none->F.H0 a=none:=fun a e=>Same.none so.ext e
  have hbin:∀a,Bin F a\/nw H a->a≠some p->Bin (F.take i p) a:=fun a b hne=>by
   cases a with
   |none=>exact b.elim id id
   |some a=>have hap:a≠p:=fun z=>hne (by rw[z]);have hb:F.O a=none/\F.H0 a=none/\F.V a:=b.elim id fun b=>⟨hnw a b,hnw0 a b,so.vis a b⟩;exact⟨by rw[hdr a hap];exact Fm.drop_none hb.1,hb.2⟩
  have hOp':(F.take i p).O p=some i:=by show(if p=p then some i else _)=_;rw[if_pos rfl]
  refine⟨F.take i p,⟨so1.ext,so1.vis,fun a j e=>?_,by rw[df,df];exact so.len,fun j g' d' e=>?_⟩,Run.of rfl rfl rfl,fun a o e n=>⟨s1 a o e,?_⟩⟩
  ·by_cases hap:a=p
   ·subst hap;exact⟨hH0,hVp,hobj⟩
   ·rw[hdr a hap]at e
    have e':F.O a=some j:=by
     have:(if F.O a=some i then none else F.O a)=some j:=e;split at this
     ·cases this
     ·exact this
    exact so1.own a j e'
  ·by_cases hj:i=j
   ·subst hj;rw[dt]at e;simp only[if_true]at e;split at e
    ·rename_i hl;have e1:z16 (g,d)=(g',d'):=by simpa using e
     rw[es]at e1;cases e1;exact⟨v,by rw[dt];simp[so.len,hl],hsl _ hbin hOp'⟩
    ·cases e
   ·rw[cf hj]at e ⊢;obtain⟨u,h1,h2⟩:=so.sl j g' d' e;refine⟨u,h1,?_⟩;cases g' with
    |fr=>
     obtain⟨p',e1,o1,h3⟩:=h2;have hpp:p'≠p:=fun z=>by rw[z,hOp]at o1;cases o1
     refine⟨p',e1,?_,?_⟩
     ·rw[hdr p' hpp];show(if F.O p'=some i then none else F.O p')=some j;rw[o1,if_neg (fun z=>hj (Option.some.inj z).symm)]
     ·have hb':∀(a:Ad),Bin F a/\¬nw H a->Bin (F.take i p) a:=fun a b=>hbin a (.inl b.1) fun z=>b.2 (by rw[z];exact hHp);rcases h3 with⟨vs,ds,e3,e2,r3⟩|⟨vs,ds,e3,e2,r3⟩
      ·exact .inl ⟨vs,ds,e3,s1 _ _ e2,Reps.same s1 hb' (Reps.there _ r3)⟩
      ·exact .inr ⟨vs,ds,e3,s1 _ _ e2,REs.same s1 hb' (REs.there _ r3)⟩
    |od=>exact Rep.same s1 (fun _ b=>b) h2
    |al=>exact Rep.same s1 (fun _ b=>b) h2
    |nu=>exact Rep.same s1 (fun a b=>hbin a (.inl b.1) fun z=>b.2 (by rw[z];exact hHp)) (Rep.there _ h2)
  ·have hap:a≠p:=fun z=>by rw[z,hHp]at e;cases e
   rw[hdr a hap];exact Fm.drop_none n
 have hOn:∀p,H p=none->F.O p=none:=fun p hHp=>by
  cases e1:F.O p with
  |none=>rfl
  |some j=>obtain⟨_,_,h'⟩:=so.own p j e1;rcases h' with⟨xs,h'⟩|⟨xs,h'⟩<;>rw[hHp]at h'<;>cases h'
 by_cases hi:imm d=true
 ·exact plain (by show(if imm d then _ else _)=_;rw[if_pos hi];show _=z4i (if imm d then _ else _,d);rw[if_pos hi];rfl)
 ·cases g with
  |od=>exact plain (by delta z16;simp only[if_neg hi];rfl)
  |al=>exact plain (by delta z16;simp only[if_neg hi];cases d<;>rfl)
  |nu=>exact nuc (by delta z16;simp only[if_neg hi]) fun a b=>b.elim so.nwBin id
  |fr=>
   cases d with
   |none=>exact absurd rfl hi
   |bool b=>exact absurd rfl hi
   |int b=>exact absurd rfl hi
   |str b=>exact absurd rfl hi
   |tuple ds=>exact nuc (by delta z16;simp only[if_neg hi]) fun a b=>so.nwBin b
   |list ds=>
    by_cases him:imms ds=true
    ·obtain⟨p,vs,ev,h,rs⟩:=r;rcases h with⟨h,b⟩|⟨_,b⟩
     ·have hHp:H p=none:=b;exact own p (hOn p hHp) hHp (Same.none so.ext hHp) (so.vis p hHp) ev (by delta z16;simp only[if_neg hi,if_pos him]) (fun F' hb ho=>⟨p,ev,ho,.inl ⟨vs,ds,rfl,h,Reps.immB ds him rs⟩⟩) (.inl ⟨vs,h⟩)
     ·exact b.elim
    ·exact nuc (by delta z16;simp only[if_neg hi,if_neg him]) fun a b=>so.nwBin b
   |dict es=>
    by_cases him:immE es=true
    ·obtain⟨p,kvs,ev,h,b,rs⟩:=r;have hHp:H p=none:=b;exact own p (hOn p hHp) hHp (Same.none so.ext hHp) (so.vis p hHp) ev (by delta z16;simp only[if_neg hi,if_pos him]) (fun F' hb ho=>⟨p,ev,ho,.inr ⟨kvs,es,rfl,h,REs.immB es him rs⟩⟩) (.inr ⟨kvs,h⟩)
    ·exact nuc (by delta z16;simp only[if_neg hi,if_neg him]) fun a b=>so.nwBin b
theorem zfg {K:W.Frag}{i:Nat}{te:TE}(h:∀σ H Q,tD K fa σ H Q->te σ H Q)(D:Ends)(σ:L2.St)(H:Hp)(q:tDS K (fun ρ=>fa ρ>>=fun x=>.ok (.nx (ρ.set i (some (z16 x))))) D σ H):te σ H fun v H1=>D.nx (σ.set i (some v)) H1:=by obtain⟨ρ,F,out,so,e,q⟩:=q;obtain⟨x,e1,e⟩:=Res.bind_ok e;cases e;refine h σ H _ ⟨ρ,F,x,so,e1,fun v H1 s1 rv=>?_⟩;obtain⟨F',so',r,f⟩:=so.setA (i:=i) s1 rv;exact q _ H1 F' so' r f
theorem zku {i:Nat}{x:Str}{px:Pos}(hN:X.N.Nodup)(hi:X.N[i]?=some x)(hx:Loc X.env.scope x)(hf:X.fn x=true\/X.env.scope.names.lookup x=some .local)(hs:jo e (some (.Name x px)) pos.line X.env=pure false)(ha:PE X e (tD X.K fa)):
  PS X (.Assign [.Name x px] e pos) (tDS X.K fun ρ=>fa ρ>>=fun x=>.ok (.nx (ρ.set i (some (z16 x))))):=
 PS.imp (zf7 hN hi hx ha hs hf) fun D σ H q=>zfg (fun _ _ _ h=>h) D σ H q
theorem zjg {is:List Nat}{te:Expr}(hg:PG X te (tDG X.K (.tp is)))(ha:PE X e (tD X.K fa))(hs:pc [te] e pos.line X.env=pure false)(hw:pd [te] e X.env=pure none)(h1:(et [te] X.env).map (·.2)=[nk te X.env]):
  PS X (.Assign [te] e pos) (tDS X.K fun ρ=>fa ρ>>=fun x=>z0x (.tp is) x ρ>>=fun ρ'=>.ok (.nx ρ')):=
 PS.imp (zmp ha hg hs hw h1) fun D σ H zz=>by obtain⟨ρ,F,out,so,e,q⟩:=zz;obtain⟨x,e1,e⟩:=Res.bind_ok e;obtain⟨ρ',e2,e⟩:=Res.bind_ok e;cases e;refine⟨ρ,F,x,so,e1,fun v H1 s1 rv=>⟨ρ,F,x,ρ',so.same s1,rv.weak fun _ b=>BI.of so.vis b,e2,fun σ' F' so' kps=>?_⟩⟩;exact q σ' H1 F' so' (Run.of kps.h0 kps.v kps.z) fun a o e n=>⟨s1 a o e,kps.o a n⟩
theorem z44 {K:W.Frag}{F:Fm}{H H1:Hp}{σ:L2.St}{ρ:Rho}{y:GD}{u:V}(so:StOk K F H σ ρ)(h:okIn y=true)(r:Rep K H1 (BG F H y.1) u y.2):Rep K H1 (Bin F) u y.2:=by
 obtain⟨g,d⟩:=y;rcases d9.mp h with hi|hg
 ·exact Rep.immB d hi r
 rcases d9.mp hg with h|h
 ·cases eq_of_beq h;exact Rep.weak (fun a b=>so.nwBin b) r
 ·cases eq_of_beq h;exact Rep.weak (fun a b=>b.elim so.nwBin id) r
theorem StOk.mutate {K:W.Frag}{F:Fm}{H:Hp}{σ:L2.St}{ρ:Rho}{i:Nat}{p:Addr}{d':D}{o':HO}(so:StOk K F H σ ρ)(hO:F.O p=some i)(hσ:σ[i]?=some (some (.ref p)))(ho':(∃xs,o'=.lst xs)\/∃kvs,o'=.dK kvs)
  (hs:Slot K F (upd H p o') i .fr (.ref p) d'):StOk K F (upd H p o') σ ((ρ.set i (some (.fr,d'))).map z5e)/\Frm F H F (upd H p o'):=by
 obtain⟨h0,hV,hobj⟩:=so.own p i hO;have hne:∀a,F.O a=none->a≠p:=fun a e z=>by rw[z,hO]at e;cases e
 have hfix:∀a o,H a=some o->Fix o->a≠p:=fun a o e f z=>by subst z;rcases hobj with⟨xs,h⟩|⟨xs,h⟩<;>rw[e]at h<;>cases h<;>exact f
 have frm:Frm F H F (upd H p o'):=fun a o e n=>⟨by rw[z01 (hne a n)];exact e,n⟩;refine⟨⟨fun a o e=>?_,fun a e=>?_,fun a j e=>?_,by rw[av,df];exact so.len,fun j g d e=>?_⟩,frm⟩
 ·have hap:a≠p:=fun z=>by rw[z,h0]at e;cases e
  rw[z01 hap];exact so.ext a o e
 ·by_cases hap:a=p
  ·subst hap;exact hV
  ·rw[z01 hap]at e;exact so.vis a e
 ·obtain⟨x1,x2,x3⟩:=so.own a j e;refine⟨x1,x2,?_⟩;by_cases hap:a=p
  ·subst hap;rw[z02];rcases ho' with⟨xs,rfl⟩|⟨xs,rfl⟩
   ·exact .inl ⟨xs,rfl⟩
   ·exact .inr ⟨xs,rfl⟩
  ·rw[z01 hap];exact x3
 ·rw[bu]at e;by_cases hj:i=j
  ·subst hj;have hl:i<ρ.length:=by rw[<-so.len];exact(bo.mp hσ).1
   rw[dt]at e;simp only[if_true,hl]at e;have e1:z5e (some (.fr,d'))=some (g,d):=by simpa using e
   cases e1;exact⟨_,hσ,hs⟩
  ·rw[cf hj]at e;cases e2:ρ[j]? with
   |none=>rw[e2]at e;cases e
   |some sl=>
    rw[e2]at e;have e3:z5e sl=some (g,d):=by simpa using e
    cases sl with
    |none=>cases e3
    |some gd=>
     obtain⟨g0,d0⟩:=gd;obtain⟨v,h1,h2⟩:=so.sl j g0 d0 e2;refine⟨v,h1,?_⟩;cases g0 with
     |fr=>
      cases e3;obtain⟨p',e4,o4,h3⟩:=h2;have hpp:p'≠p:=fun z=>by rw[z,hO]at o4;exact hj (Option.some.inj o4)
      have hk:∀a o,H a=some o->(Bin F (some a)\/Fix o)->upd H p o' a=some o:=fun a o e b=>by have:a≠p:=b.elim (fun b=>hne a b.1) fun f=>hfix a o e f;rw[z01 this];exact e
      refine⟨p',e4,o4,?_⟩;rcases h3 with⟨vs,ds,e5,e6,r⟩|⟨vs,ds,e5,e6,r⟩
      ·exact .inl ⟨vs,ds,e5,by rw[z01 hpp];exact e6,Reps.keep hk (fun _ z=>z) ds r⟩
      ·exact .inr ⟨vs,ds,e5,by rw[z01 hpp];exact e6,REs.keep hk (fun _ z=>z) ds r⟩
     |od=>cases e3;exact Rep.keep (fun a o e b=>by have:a≠p:=b.elim (fun b z=>by have b1:F.H0 a≠none/\F.V a:=b;rw[z]at b1;exact b1.1 h0) fun f=>hfix a o e f;rw[z01 this];exact e) (fun _ z=>z) _ h2
     |nu=>cases e3;exact Rep.keep (fun a o e b=>by have:a≠p:=b.elim (fun b=>hne a b.1) fun f=>hfix a o e f;rw[z01 this];exact e) (fun _ z=>z) _ h2
     |al=>
      change(if imm d0 then some (G.al,d0)else none)=_ at e3;split at e3
      ·rename_i him;cases e3;exact Rep.immK (fun a o e f=>by rw[z01 (hfix a o e f)];exact e) _ him h2
      ·cases e3
theorem z42 {K:W.Frag}{F:Fm}{H:Hp}{σ:L2.St}{ρ:Rho}{i:Nat}{d:D}(so:StOk K F H σ ρ)(e:ρ[i]?=some (some (.fr,d))):∃p,σ[i]?=some (some (.ref p))/\F.O p=some i/\((∃vs ds,d=.list ds/\H p=some (.lst vs)/\Reps K H (Bin F) vs ds)\/(∃kvs es,d=.dict es/\H p=some (.dK kvs)/\REs K H (Bin F) kvs es)):=by obtain⟨v,h1,p,rfl,o,h⟩:=so.sl i .fr d e;exact⟨p,h1,o,h⟩
def mutF (m:String)(i:Nat)(fs:Rho->Res (List GD)):Rho->Res Out:=fun ρ=>fs ρ>>=fun ys=>match ρ[i]? with
 |some (some (.fr,.list xs))=>mutD m xs ys>>=fun xs'=>.ok (.nx ((ρ.set i (some (.fr,.list xs'))).map z5e))
 |_=>.no
theorem zdo {i:Nat}{x:Str}{p ap cp:Pos}{fs:Rho->Res (List GD)}(hN:X.N[i]?=some x)(hv:Vis X.env.scope x)(hd:(x==("__debug__":Str))=false)(hcd:(x==("__classdict__":Str))=false)(ha:PA X (e::es) (tDA X.K fs))(hst:((e::es).all fun e=>!isStar e)=true)(hl:(e::es).length<20)(hline:(ap.endLine==cp.line)=true):
  PS X (.Expr (.Call (.Attribute (.Name x p) "append" ap) (e::es) [] cp) pos) (tDS X.K (mutF "append" i fs)):=by
 have hst':=hst;rw[bz,aq]at hst';refine PS.imp (ps_e (z68 PySem.F.plainAttrs_list PySem.F.slot_list_append PySem.F.type_list_append z35 (z2y hN hv hd hcd) ha rfl (z26 hst hl) hline (z06 (by simpa using hst'.1)) (z0k hst'.2)) rfl) fun D σ H zz=>?_;obtain⟨ρ,F,out,so,e,q⟩:=zz;obtain⟨ys,e1,e⟩:=Res.bind_ok e;split at e
 ·rename_i xs hr;obtain⟨xs',e2,e⟩:=Res.bind_ok e;cases e;obtain⟨pa,h1,hO,h⟩:=z42 so hr;rcases h with⟨vs,ds,e3,e4,r⟩|⟨_,_,e3,_⟩
  ·cases e3;refine⟨_,h1,.inl ⟨rfl,vs,SqL.of e4⟩,ρ,F,ys,so,e1,fun us H1 s1 rs=>?_⟩;simp only[mutD,if_true]at e2;split at e2
   ·rename_i y;split at e2
    case isFalse=>cases e2
    rename_i hc;cases e2;rw[aw,decide_eq_true_iff]at hc;obtain⟨u,rfl,ru⟩:=rs.one;have so1:=so.same s1;have e5:=s1 _ _ e4;refine⟨pa,vs,u,rfl,rfl,e5,z0n (by rw[r.length];omega),?_⟩
    have r':Reps X.K (upd H1 pa (.lst (vs++[u]))) (Bin F) (vs++[u]) (xs++[y.2]):=by
     have r0:Reps X.K H1 (Bin F) (vs++[u]) (xs++[y.2]):=Reps.append (r.same s1 fun _ z=>z) ⟨u,[],rfl,z44 so hc.1 ru,rfl⟩;refine Reps.keep (fun a o e b=>?_) (fun _ z=>z) _ r0
     have hap:a≠pa:=by
      intro z;subst z;rcases b with b|b
      ·have b1:F.O a=none:=b.1;rw[hO]at b1;cases b1
      ·rw[e5]at e;cases e;exact b
     rw[z01 hap];exact e
    obtain⟨so2,f2⟩:=so1.mutate (o':=.lst (vs++[u])) (d':=.list (xs++[y.2])) hO h1 (.inl ⟨_,rfl⟩) ⟨pa,rfl,hO,.inl ⟨_,_,rfl,z02,r'⟩⟩;exact q σ _ F so2 Run.refl ((Frm.same s1).trans f2)
   ·cases e2
  ·cases e3
 ·cases e
end
section
variable {X:Cx}{e:Expr}{es:List Expr}{pos:Pos}
def rIns:V->List V->Hp->VK->Prop:=fun x vs H Q=>∃l xs i y,x=.ref l/\vs=[.int i,y]/\H l=some (.lst xs)/\0<=i/\i<=(xs.length:Int)/\xs.length<az/\Q .non (upd H l (.lst (xs.take i.toNat++y::xs.drop i.toNat)))
theorem zgx {its:List Value}{u:Value}{i:Int}(h0:0<=i)(h1:i<=(its.length:Int)):(fun ws:Array Value=>have k:=if i<0 then(i+(ws.size:Int)).toNat else min i.toNat ws.size;(ws.extract 0 k).push u++ws.extract k) its.toArray=(its.take i.toNat++u::its.drop i.toNat).toArray:=by
 have hk:min i.toNat its.length=i.toNat:=Nat.min_eq_left (by omega);show(fun k=>(its.toArray.extract 0 k).push u++its.toArray.extract k) (if i<0 then(i+(its.toArray.size:Int)).toNat else min i.toNat its.toArray.size)=_;rw[if_neg (by omega),ao,hk]
 dsimp only
 apply sw;simp[List.extract_eq_take_drop];exact n4 (by rw[gq];exact aj _)
theorem zk5:MtM X "list.insert" rIns:=by intro pins s σ H x vs v us Q I rx rv h;obtain⟨l,xs,i,y,rfl,rfl,hH,h0,h1,hz,q⟩:=h;cases rx;obtain⟨a,u,rfl,ra,ru⟩:=rv.two;obtain⟨t,rfl⟩:=ra;obtain⟨z,its,n,r,hl,e⟩:=I.lstM hH;have hsl:=dq;refine ki F.slot_list_insert ⟨_,e,rfl⟩ F.entry_list_insert (F.args_list_insert_3 _ _ _) (AutoSeq1.list_insert_list_int_val_1 l its.toArray n i t u (by rw[fitsIndex_both (by omega) (by omega)];decide) (by rw[ao];omega)) ⟨e,?_⟩;refine⟨.non,_,I.lset (its':=its.take i.toNat++u::its.drop i.toNat) hH e (zgx h0 (by omega)) ((r.take _).append (.cons ru (r.drop _))) ?_,rfl,q⟩;rw[br,f8,ay,gq];omega
theorem zc1 {F:Fm}{H H1:Hp}{σ:L2.St}{ρ:Rho}{i:Nat}{pa:Addr}{vs ws:List V}{zs:List D}{D:Ends}(so:StOk X.K F H σ ρ)(s1:Same H H1)(hO:F.O pa=some i)(h1:σ[i]?=some (some (.ref pa)))(e4:H pa=some (.lst vs))(r0:Reps X.K H1 (Bin F) ws zs)
  (q:z69 X.K F H D (.nx ((ρ.set i (some (.fr,.list zs))).map z5e))):D.nx σ (upd H1 pa (.lst ws)):=by
 have e5:=s1 _ _ e4
 have r':Reps X.K (upd H1 pa (.lst ws)) (Bin F) ws zs:=by
  refine Reps.keep (fun a o e b=>?_) (fun _ z=>z) _ r0
  have hap:a≠pa:=by
   intro z;subst z;rcases b with b|b
   ·have b1:F.O a=none:=b.1;rw[hO]at b1;cases b1
   ·rw[e5]at e;cases e;exact b
  rw[z01 hap];exact e
 obtain⟨so2,f2⟩:=(so.same s1).mutate (o':=.lst ws) (d':=.list zs) hO h1 (.inl ⟨_,rfl⟩) ⟨pa,rfl,hO,.inl ⟨_,_,rfl,z02,r'⟩⟩;exact q σ _ F so2 Run.refl ((Frm.same s1).trans f2)
theorem zkd {xs xs':List D}{ys:List GD}(h:putAt xs ys=.ok xs'):∃g i y,ys=[(g,.int i),y]/\okIn y=true/\xs.length<LIM/\0<=i/\i<=(xs.length:Int)/\xs'=xs.take i.toNat++y.2::xs.drop i.toNat:=by
 unfold putAt at h;split at h
 ·rename_i x y;obtain⟨g,d⟩:=x
  dsimp only at h
  split at h
  ·split at h
   ·rename_i i hc;simp only[aw,decide_eq_true_iff]at hc;cases h;exact⟨g,_,y,rfl,hc.1.1.1,hc.1.1.2,hc.1.2,hc.2,rfl⟩
   ·cases h
  ·cases h
 ·cases h
theorem zkp {xs xs':List D}{ys:List GD}(h:zi1 xs ys=.ok xs'):∃g i,ys=[(g,.int i)]/\0<=i/\i<(xs.length:Int)/\xs.length<=LIM/\xs'=xs.eraseIdx i.toNat:=by
 unfold zi1 at h;split at h
 ·rename_i x;obtain⟨g,d⟩:=x
  dsimp only at h
  split at h
  ·split at h
   ·rename_i i hc;simp only[aw,decide_eq_true_iff]at hc;cases h;exact⟨g,_,rfl,hc.1.1,hc.1.2,hc.2,rfl⟩
   ·cases h
  ·cases h
 ·cases h
theorem zdt {i:Nat}{x:Str}{p ap cp:Pos}{fs:Rho->Res (List GD)}(hN:X.N[i]?=some x)(hv:Vis X.env.scope x)(hd:(x==("__debug__":Str))=false)(hcd:(x==("__classdict__":Str))=false)(ha:PA X (e::es) (tDA X.K fs))(hst:((e::es).all fun e=>!isStar e)=true)(hl:(e::es).length<20)(hline:(ap.endLine==cp.line)=true):
  PS X (.Expr (.Call (.Attribute (.Name x p) "insert" ap) (e::es) [] cp) pos) (tDS X.K (mutF "insert" i fs)):=by
 have hst':=hst;rw[bz,aq]at hst';refine PS.imp (ps_e (z68 PySem.F.plainAttrs_list PySem.F.slot_list_insert PySem.F.type_list_insert zk5 (z2y hN hv hd hcd) ha rfl (z26 hst hl) hline (z06 (by simpa using hst'.1)) (z0k hst'.2)) rfl) fun D σ H zz=>?_;obtain⟨ρ,F,out,so,e,q⟩:=zz;obtain⟨ys,e1,e⟩:=Res.bind_ok e;split at e
 ·rename_i xs hr;obtain⟨xs',e2,e⟩:=Res.bind_ok e;cases e;obtain⟨pa,h1,hO,h⟩:=z42 so hr;rcases h with⟨vs,ds,e3,e4,r⟩|⟨_,_,e3,_⟩
  ·cases e3;refine⟨_,h1,.inl ⟨rfl,vs,SqL.of e4⟩,ρ,F,ys,so,e1,fun us H1 s1 rs=>?_⟩;simp only[mutD,show("insert":String)≠"append" by decide,if_true,if_false]at e2;obtain⟨g,j,y,rfl,hy,hlen,j0,j1,rfl⟩:=zkd e2;obtain⟨w,u,rfl,rw',ru⟩:=rs.two;have ew:w=.int j:=rw';subst ew;have hlv:=r.length;refine⟨pa,vs,j,u,rfl,rfl,s1 _ _ e4,j0,by omega,z0n (by omega),?_⟩;have r1:=r.same s1 fun _ z=>z;exact zc1 so s1 hO h1 e4 (Reps.append (r1.take _) (Reps.cons (z44 so hy ru) (r1.drop _))) q
  ·cases e3
 ·cases e
theorem _root_.Mi.Reps.eraseIdx {K:W.Frag}{H:Hp}{B:Ad->Prop}:∀{vs:List V} {ds:List D} (n:Nat),Reps K H B vs ds->Reps K H B (vs.eraseIdx n) (ds.eraseIdx n)
 |vs,[],n,r=>by have e:vs=[]:=r;subst e;exact rfl
 |vs,d::ds,0,r=>by obtain⟨v,t,e,_,p⟩:=r;subst e;exact p
 |vs,d::ds,n+1,r=>by obtain⟨v,t,e,h,p⟩:=r;subst e;exact⟨v,_,rfl,h,Reps.eraseIdx n p⟩
theorem zgs {i:Nat}{x:Str}{p ap cp:Pos}{fs:Rho->Res (List GD)}(hN:X.N[i]?=some x)(hv:Vis X.env.scope x)(hd:(x==("__debug__":Str))=false)(hcd:(x==("__classdict__":Str))=false)(ha:PA X (e::es) (tDA X.K fs))(hst:((e::es).all fun e=>!isStar e)=true)(hl:(e::es).length<20)(hline:(ap.endLine==cp.line)=true):
  PS X (.Expr (.Call (.Attribute (.Name x p) "pop" ap) (e::es) [] cp) pos) (tDS X.K (mutF "pop" i fs)):=by
 have hst':=hst;rw[bz,aq]at hst';refine PS.imp (ps_e (z68 PySem.F.plainAttrs_list PySem.F.slot_list_pop PySem.F.type_list_pop zc4 (z2y hN hv hd hcd) ha rfl (z26 hst hl) hline (z06 (by simpa using hst'.1)) (z0k hst'.2)) rfl) fun D σ H zz=>?_;obtain⟨ρ,F,out,so,e,q⟩:=zz;obtain⟨ys,e1,e⟩:=Res.bind_ok e;split at e
 ·rename_i xs hr;obtain⟨xs',e2,e⟩:=Res.bind_ok e;cases e;obtain⟨pa,h1,hO,h⟩:=z42 so hr;rcases h with⟨vs,ds,e3,e4,r⟩|⟨_,_,e3,_⟩
  ·cases e3;refine⟨_,h1,.inl ⟨rfl,vs,SqL.of e4⟩,ρ,F,ys,so,e1,fun us H1 s1 rs=>?_⟩;simp only[mutD,show("pop":String)≠"append" by decide,show("pop":String)≠"insert" by decide,if_true,if_false]at e2;obtain⟨g,j,rfl,j0,j1,hlen,rfl⟩:=zkp e2;obtain⟨w,rfl,rw'⟩:=rs.one;have ew:w=.int j:=rw';subst ew;have hlv:=r.length;have hj:j.toNat<vs.length:=by omega
   have hL:LIM=1000000:=rfl;refine⟨pa,vs,j,j.toNat,vs[j.toNat],rfl,rfl,s1 _ _ e4,by omega,by omega,?_,bg hj,?_⟩
   ·unfold qt;simp only[if_neg (show ¬j<0 by omega)];rw[if_pos (by simp;omega)]
   ·exact zc1 so s1 hO h1 e4 ((r.same s1 fun _ z=>z).eraseIdx _) q
  ·cases e3
 ·cases e
end
section
variable {X:Cx}{pos:Pos}
end
theorem RGs.ins {K:W.Frag}{F:Fm}{H H1:Hp}{σ:L2.St}{ρ:Rho}(so:StOk K F H σ ρ):∀{vs:List V} {xs:List GD},xs.all okIn=true->RGs K F H H1 vs xs->Reps K H1 (Bin F) vs (xs.map (·.2))
 |vs,[],_,r=>r
 |vs,x::xs,h,r=>by rw[bz]at h;rw[aq]at h;obtain⟨v,t,e,hv,q⟩:=r;exact⟨v,t,e,z44 so h.1 hv,RGs.ins so h.2 q⟩
theorem StOk.frz {K:W.Frag}{F:Fm}{H:Hp}{σ:L2.St}{ρ:Rho}(so:StOk K F H σ ρ)(j:Nat):StOk K (F.drop j) H σ (ρ.set j (frzS (ρ.getD j none))):=by
 refine⟨so.ext,so.vis,fun a i e=>?_,by rw[df];exact so.len,fun i g d e=>?_⟩
 ·have e':F.O a=some i:=by
   have e:(if F.O a=some j then none else F.O a)=some i:=e;split at e
   ·cases e
   ·exact e
  exact so.own a i e'
 ·by_cases hj:j=i
  ·subst hj;rw[dt]at e;simp only[if_true]at e;split at e
   ·rename_i hl;cases e2:ρ[j]? with
    |none=>exact absurd hl (by have:=jt.mp e2;omega)
    |some sl=>
     have e3:frzS sl=some (g,d):=by
      have:ρ.getD j none=sl:=by rw[am,e2];rfl
      rw[this]at e;exact Option.some.inj e
     cases sl with
     |none=>cases e3
     |some gd=>
      obtain⟨g0,d0⟩:=gd;obtain⟨v,h1,h2⟩:=so.sl j g0 d0 e2;refine⟨v,h1,?_⟩;cases g0 with
      |fr=>
       cases e3;obtain⟨p,rfl,o,h⟩:=h2;obtain⟨o1,o2,_⟩:=so.own p j o;have hp:Bin (F.drop j) (some p):=⟨by show(if F.O p=some j then none else F.O p)=none;rw[if_pos o],o1,o2⟩;rcases h with⟨vs,ds,rfl,h3,r⟩|⟨vs,ds,rfl,h3,r⟩
       ·exact⟨p,vs,rfl,.inl ⟨h3,hp⟩,r.weak fun _ b=>b.drop⟩
       ·exact⟨p,vs,rfl,h3,hp,REs.same (fun _ _ e=>e) (fun _ b=>b.drop) r⟩
      |od=>cases e3;exact h2
      |al=>cases e3;exact h2
      |nu=>cases e3;exact Rep.weak (fun _ b=>b.drop) h2
   ·cases e
  ·rw[cf hj]at e;obtain⟨v,h1,h2⟩:=so.sl i g d e;exact⟨v,h1,h2.drop fun z=>hj z.symm⟩
section
variable {K:W.Frag}{H:Hp}{B B':Ad->Prop}
end
section
variable {K:W.Frag}{H:Hp}{Bz:Ad->Prop}{p:Addr}{zs:List D}{vz:List V}
end
section
variable {X:Cx}{tg a b c e:Expr}{es:List Expr}{fa fb fc:Rho->Res GD}{pos:Pos}{st:Stmt}{rest A Bs:List Stmt}{fs gs:Rho->Res Out}
theorem zj8 (k k':Key):eqK (kD k') (kD k)=decide (k'=k):=by
 cases k'<;>cases k
 ·rename_i a b;show(a==b)=_;rw[lc,decide_eq_decide];exact⟨fun h=>by rw[h],fun h=>Sum.inl.inj h⟩
 ·rfl
 ·rfl
 ·rename_i a b;show decide (a=b)=_;rw[decide_eq_decide];exact⟨fun h=>by rw[h],fun h=>Sum.inr.inj h⟩
theorem REs.any {K:W.Frag}{H:Hp}{B:Ad->Prop}(k:Key):∀{kvs:List (Key×V)} {es:Ents},REs K H B kvs es->(es.any fun e=>eqK e.1 (kD k))=kvs.any fun kv=>decide (kv.1=k)
 |kvs,[],r=>by have e:kvs=[]:=r;subst e;rfl
 |kvs,(kd,d)::es,r=>by obtain⟨k',v,t,e,e2,_,_,q⟩:=r;subst e e2;rw[jd,jd,q.any k,zj8]
theorem REs.app {K:W.Frag}{H:Hp}{B:Ad->Prop}{k:Key}{v:V}{d:D}(ok:keyOk k)(h:Rep K H B v d):∀{kvs:List (Key×V)} {es:Ents},REs K H B kvs es->REs K H B (kvs++[(k,v)]) (es++[(kD k,d)])
 |kvs,[],r=>by have e:kvs=[]:=r;subst e;exact⟨k,v,[],rfl,rfl,ok,h,rfl⟩
 |kvs,(kd,d0)::es,r=>by obtain⟨k',v0,t,e,e2,ok',h0,q⟩:=r;subst e e2;exact⟨k',v0,_,rfl,rfl,ok',h0,q.app ok h⟩
def sSet (td ty tv:TE):TS:=fun D σ H=>tv σ H fun v H1=>td σ H1 fun x H2=>ty σ H2 fun y H3=>(∃a H4,x=.ref a/\DPut H3 a y v H4/\D.nx σ H4)\/zl4 x y v H3 fun H4=>D.nx σ H4
theorem zi7 {o i value:Expr}{pos':Pos}{td ty tv:TE}(hu:X.A.units+1<cLine)(ho:PE X o td)(hi:PE X i ty)(hv:PE X value tv)(hs:jo value (some (.Subscript o i pos')) pos.line X.env=pure false):PS X (.Assign [.Subscript o i pos'] value pos) (sSet td ty tv):=by
 intro pins s σ H D I h;refine wpAny_Assign_Subscript (thn (hv pins s σ H _ I h) fun r s1 ⟨v,H1,I1,rv,q1⟩=>thn (ho pins s1 σ H1 _ I1 q1) fun u s2 ⟨x,H2,I2,rx,q2⟩=>thn (hi pins s2 σ H2 _ I2 q2) fun iv s3 ⟨y,H3,I3,ry,q3⟩=>?_) hs;rcases q3 with⟨a,H4,ex,g,q3⟩|q3
 ·subst ex;obtain rfl:u=Value.ref a:=rx;exact zb3 hu I3 g ry rv fun s4 I4=>⟨σ,H4,I4,q3⟩
 ·exact thn (set_list pins s3 σ H3 x y v u iv r _ I3 rx ry rv q3) fun _ s4 ⟨H4,I4,q4⟩=>⟨σ,H4,I4,q4⟩
def tDF (K:W.Frag)(f:Rho->Res (G×List D×Rho)):TI:=fun σ H R=>∃ρ F w,StOk K F H σ ρ/\f ρ=.ok w/\∀J B H' F',Same H H'->Run F F'->Frm F H F' H'->StOk K F' H' σ w.2.2->(∀a,B (some a)->F'.O a=none)->(∀a,B a->BI F' w.1 a)->Walk K J B H' w.2.1->R J H'
theorem z4n {K:W.Frag}{F:Fm}{H:Hp}{σ:L2.St}{ρ:Rho}(so:StOk K F H σ ρ){a:Addr}{g:G}(hg:g≠.al)(h:BG F H g (some a)):F.O a=none:=by
 cases e1:F.O a with
 |none=>rfl
 |some j=>
  obtain⟨h0,_,h'⟩:=so.own a j e1;cases g with
  |fr=>have hb:H a=none:=h;rcases h' with⟨xs,h'⟩|⟨xs,h'⟩<;>rw[hb]at h'<;>cases h'
  |od=>exact absurd h0 h.1
  |al=>exact absurd rfl hg
  |nu=>
   rcases h with h|h
   ·have hb:H a=none:=h;rcases h' with⟨xs,h'⟩|⟨xs,h'⟩<;>rw[hb]at h'<;>cases h'
   ·have hb:F.O a=none:=h.1;rw[hb]at e1;cases e1
theorem zln {fw:Rho->Res (G×List D)}(hw:PI X tg e (tDW X.K fw)):PI X tg e (tDF X.K fun ρ=>fw ρ>>=fun w=>if w.1==.al then .no else .ok (w.1,w.2,ρ)):=
 PI.imp hw fun σ H R zz=>by
  obtain⟨ρ,F,w,so,e,q⟩:=zz;obtain⟨w0,e1,e⟩:=Res.bind_ok e;refine⟨ρ,F,w0,so,e1,fun J B H1 s1 hB wk=>?_⟩;split at e
  ·cases e
  ·rename_i hal;cases e;have hal':w0.1≠.al:=fun z=>hal (by rw[z];rfl);exact q J B H1 F s1 Run.refl (Frm.same s1) (so.same s1) (fun a b=>z4n so hal' (hB _ b).1) (fun a b=>BI.of so.vis (hB a b).1) wk
theorem StOk.giveUp {K:W.Frag}{F:Fm}{H:Hp}{σ:L2.St}{ρ:Rho}{i:Nat}{d:D}(so:StOk K F H σ ρ)(e:ρ[i]?=some (some (.fr,d))):StOk K (F.drop i) H σ (ρ.set i (some (.al,d))):=by
 obtain⟨v,h1,h2⟩:=so.sl i .fr d e;have:=so.setI (i:=i) (x:=(.al,d)) (v:=v) (h2.rep so.ownV)
 have es:σ.set i (some v)=σ:=by
  apply mn;intro j;by_cases hj:i=j
  ·subst hj;rw[dt];have hl:=(bo.mp h1).1;simp only[if_true,hl];exact h1.symm
  ·rw[cf hj]
 rw[es]at this;exact this
theorem zre {i:Nat}{x:Str}(hN:X.N[i]?=some x)(hv:Vis X.env.scope x)(hd:(x==("__debug__":Str))=false)(hcd:(x==("__classdict__":Str))=false):PI X tg (.Name x pos) (tDF X.K (zco i)):=by
 intro pins s σ H R I h;obtain⟨ρ,F,w,so,e,q⟩:=h;unfold zco at e;split at e
 ·rename_i d hr;obtain⟨xs,e2,e⟩:=Res.bind_ok e;cases e;obtain⟨v,h1,h2⟩:=so.sl i .fr d hr;refine thn (z2y hN hv hd hcd pins s σ H (fun u H1=>u=v/\H1=H) I ⟨v,h1,rfl,rfl⟩) fun u s1 zz=>?_;obtain⟨y,H1,I1,r1,ey,eH⟩:=zz;subst ey eH;have so':=so.giveUp hr
  let B:Ad->Prop:=fun a=>match a with|some a=>(F.drop i).O a=none/\F.V a|none=>False
  have rv:Rep X.K H1 B y d:=by
   obtain⟨p,ey,hO,h3⟩:=h2
   have hb:∀a,Bin F a->B a:=fun a b=>by
    cases a with
    |none=>exact b
    |some a=>exact⟨Fm.drop_none b.1,b.2.2⟩
   have hp:B (some p):=⟨by show(if F.O p=some i then none else F.O p)=none;rw[if_pos hO],so.ownV p i hO⟩;rcases h3 with⟨vs,ds,rfl,e4,r⟩|⟨vs,ds,rfl,e4,r⟩
   ·exact⟨p,vs,ey,.inl ⟨e4,hp⟩,r.weak hb⟩
   ·exact⟨p,vs,ey,e4,hp,REs.same (fun _ _ e=>e) hb r⟩
  refine z48 I1 r1 rv e2 fun J wk=>q J B H1 (F.drop i) (Same.refl _) (Run.of rfl rfl rfl) (Frm.drop (Same.refl _)) so' (fun a b=>b.1) (fun a b=>?_) wk;cases a with
  |none=>exact b.elim
  |some a=>exact b.2
 ·cases e
def Fm.noL (F:Fm)(H:Hp):Fm:={F with O:=fun a=>match H a with|some (.dK _)=>F.O a|_=>none}
theorem Fm.noL_none {F:Fm}{H:Hp}{a:Addr}(h:F.O a=none):(F.noL H).O a=none:=by
 unfold Fm.noL
 dsimp only
 split<;>first|exact h|rfl
theorem StOk.noL {K:W.Frag}{F:Fm}{H:Hp}{σ:L2.St}{ρ:Rho}(so:StOk K F H σ ρ):StOk K (F.noL H) H σ (ρ.map zg6) where
 ext:=so.ext
 vis:=so.vis
 own:=fun a i e=>by
  have e':F.O a=some i:=by
   unfold Fm.noL at e
   dsimp only at e
   split at e
   ·exact e
   ·cases e
  exact so.own a i e'
 len:=by rw[av];exact so.len
 sl:=fun i g d e=>by
  rw[bu]at e;cases h1:ρ[i]? with
  |none=>rw[h1]at e;cases e
  |some o=>
   rw[h1]at e;have e':zg6 o=some (g,d):=by simpa using e
   cases o with
   |none=>cases e'
   |some gd=>
    obtain⟨g0,d0⟩:=gd;obtain⟨v,h2,h3⟩:=so.sl i g0 d0 h1;refine⟨v,h2,?_⟩
    have hb:∀a,Bin F a->Bin (F.noL H) a:=fun a b=>by
     cases a with
     |none=>exact b
     |some a=>exact⟨Fm.noL_none b.1,b.2.1,b.2.2⟩
    cases g0 with
    |od=>cases e';exact h3
    |al=>cases e';exact h3
    |nu=>cases e';exact Rep.weak hb h3
    |fr=>
     obtain⟨p,ev,hO,h4⟩:=id h3;rcases h4 with⟨vs,ds,rfl,e4,r⟩|⟨kvs,es,rfl,e4,r⟩
     ·have e2:some (G.al,PyData.list ds)=some (g,d):=e';cases e2;have h5:Rep K H (visA F) v (.list ds):=Slot.rep (F:=F) so.ownV h3;exact h5
     ·have e2:some (G.fr,PyData.dict es)=some (g,d):=e';cases e2;refine⟨p,ev,?_,.inr ⟨kvs,es,rfl,e4,REs.same (fun _ _ z=>z) hb r⟩⟩;unfold Fm.noL
      dsimp only
      rw[e4];exact hO
theorem f_al {fa:Rho->Res GD}(ha:PE X e (tD X.K fa)):PI X tg e (tDF X.K fun ρ=>fa ρ>>=fun x=>evAl x ρ):=by
 intro pins s σ H R I h;obtain⟨ρ,F,w,so,e0,q⟩:=h;obtain⟨x,e1,e0⟩:=Res.bind_ok e0;obtain⟨g,d⟩:=x;unfold evAl at e0
 dsimp only at e0
 split at e0
 ·rename_i xs;split at e0
  ·rename_i hi;cases e0;refine thn (ha pins s σ H (fun v H1=>Same H H1/\Rep X.K H1 (BG F H g) v (.list xs)) I ⟨ρ,F,_,so,e1,fun v H1 s1 rv=>⟨s1,rv⟩⟩) fun v s1 zz=>?_;obtain⟨y,H1,I1,r1,s1',rv⟩:=zz;have so1:=(so.same s1').noL
   let B:Ad->Prop:=fun a=>match a with|some a=>(F.noL H1).O a=none/\F.V a|none=>F.z
   have rv':Rep X.K H1 B y (.list xs):=by
    obtain⟨p,vs,ey,h,r⟩:=rv;refine⟨p,vs,ey,?_,Reps.immB xs hi r⟩;rcases h with⟨h,b⟩|⟨h,b⟩
    ·refine .inl ⟨h,?_,(BG.vis so.vis b:visA F (some p))⟩;unfold Fm.noL
     dsimp only
     rw[h]
    ·exact .inr ⟨h,(BG.vis so.vis b:visA F none)⟩
   refine z48 I1 r1 rv' rfl fun J wk=>q J B H1 (F.noL H1) s1' (Run.of rfl rfl rfl) (fun a o e n=>⟨s1' a o e,Fm.noL_none n⟩) so1 (fun a b=>b.1) (fun a b=>?_) wk;cases a with
   |none=>exact b
   |some a=>exact b.2
  ·cases e0
 ·cases e0
theorem PI.orD {f g:Rho->Res (G×List D×Rho)}{k:Rho->Bool}(hf:PI X tg e (tDF X.K f))(hg:PI X tg e (tDF X.K g)):PI X tg e (tDF X.K fun ρ=>if k ρ then f ρ else g ρ):=by
 intro pins s σ H R I h;obtain⟨ρ,F,w,so,e,q⟩:=h
 dsimp only at e
 cases hk:k ρ with
 |true=>exact hf pins s σ H R I ⟨ρ,F,w,so,by rw[if_pos hk]at e;exact e,q⟩
 |false=>exact hg pins s σ H R I ⟨ρ,F,w,so,by rw[if_neg (by rw[hk];exact cw)]at e;exact e,q⟩
theorem zos {t:Tg}{iter:Expr}{body:List Stmt}{fw:Rho->Res (G×List D×Rho)}(hp:fg (model X.prog X.w) X.A X.env X.xe)(hc:X.calm=true)(hi:PI X tg iter (tDF X.K fw))(hg:PG X tg (tDG X.K t))(hb:PSs X body (tDS X.K fs))(hs:∀x,fi iter X.env x=pure x):
  PS X (.For tg iter body [] pos) (tDS X.K fun ρ=>fw ρ>>=fun w=>forD (fun x ρ1=>z0x t (gJ x w.1,x) ρ1>>=fun ρ2=>fs ρ2) w.2.1 w.2.2):=
 PS.imp (z7b hp hc hi hg hb hs) fun D σ H zz=>by
  obtain⟨ρ,F,out,so,e,q⟩:=zz;obtain⟨w,e1,e⟩:=Res.bind_ok e;refine⟨ρ,F,w,so,e1,fun J B H1 F1 s1 r1 f1 so1 hBo hBi wk=>?_⟩;have q1:z69 X.K F1 H1 D out:=q.back r1 f1;generalize hf:(fun x ρ1=>z0x t (gJ x w.1,x) ρ1>>=fun ρ2=>fs ρ2)=f at e
  have kp:∀{F2:Fm} {H2:Hp},Frm F1 H1 F2 H2->Kp B H1 H2:=fun{F2 H2} fr a o e b=>by
   have hO:F1.O a=none:=by
    rcases b with b|b
    ·exact hBo a b
    ·cases e2:F1.O a with
     |none=>rfl
     |some j=>obtain⟨_,_,h'⟩:=so1.own a j e2;rcases h' with⟨xs,h'⟩|⟨xs,h'⟩<;>rw[e]at h'<;>cases h'<;>exact b.elim
   exact(fr a o e hO).1
  let W:Nat->Nat->L2.St->Hp->Prop:=fun i m σ2 H2=>m=w.2.1.length-i/\i<=w.2.1.length/\∃ρ2 F2,StOk X.K F2 H2 σ2 ρ2/\Run F1 F2/\Frm F1 H1 F2 H2/\forD f (w.2.1.drop i) ρ2=.ok out
  refine⟨W,⟨_,rfl,d6 _,w.2.2,F1,so1,Run.refl,Frm.refl,e⟩,?_⟩
  rintro i m σ2 H2 ⟨rfl,hile,ρ2,F2,so2,r2,f2,e2⟩
  by_cases hlt:i<w.2.1.length
  ·refine .inr ⟨wk.go H2 (kp f2) i hlt,W (i+1) (w.2.1.length-(i+1)),fun σ' H' p=>⟨_,by omega,p⟩,fun x H3 y=>?_⟩;obtain⟨s3,d,hd,rx⟩:=wk.yld H2 (kp f2) i x H3 hlt y
   have hdr:w.2.1.drop i=d::w.2.1.drop (i+1):=by
    have dc:=im hlt;rw[dc];have:w.2.1[i]=d:=by rw[bg hlt]at hd;exact Option.some.inj hd
    rw[this]
   rw[hdr]at e2;simp only[forD]at e2;have so3:=so2.same s3
   have rx':Rep X.K H3 (BI F2 (gJ d w.1)) x d:=by
    have hBI:∀g a,BI F1 g a->BI F2 g a:=fun g a b=>by cases g<;>cases a<;>first|exact b|(have b':F1.V _:=b;rw[<-r2.2.1]at b';exact b')|(have b':F1.z:=b;rw[<-r2.2.2]at b';exact b')|(have b':F1.H0 _≠none/\F1.V _:=b;exact⟨fun z=>b'.1 (none_of r2.1 z),by rw[r2.2.1];exact b'.2⟩)
    unfold gJ;by_cases hi:imm d=true
    ·rw[if_pos hi];exact Rep.immB d hi rx
    ·rw[if_neg hi];exact rx.weak fun a b=>hBI _ _ (hBi a b)
   cases e3:f d ρ2 with
   |no=>rw[e3]at e2;cases e2
   |exc z=>rw[e3]at e2;cases e2
   |ok o1=>
    have e3':(z0x t (gJ d w.1,d) ρ2>>=fun ρ3=>fs ρ3)=.ok o1:=by rw[<-e3,<-hf]
    obtain⟨ρ3,e4,e5⟩:=Res.bind_ok e3';rw[e3]at e2;refine⟨ρ2,F2,(gJ d w.1,d),ρ3,so3,rx',e4,fun σ4 F4 so4 kps=>⟨ρ3,F4,o1,so4,e5,?_⟩⟩;have r4:Run F1 F4:=r2.trans (Run.of kps.h0 kps.v kps.z);have f4:Frm F1 H1 F4 H3:=f2.trans fun a o e n=>⟨s3 a o e,kps.o a n⟩;cases o1 with
    |nx ρ5=>exact fun σ' H' F' so' r' f'=>⟨rfl,hlt,ρ5,F',so',r4.trans r',f4.trans f',e2⟩
    |ct ρ5=>exact fun σ' H' F' so' r' f'=>⟨rfl,hlt,ρ5,F',so',r4.trans r',f4.trans f',e2⟩
    |bk ρ5=>cases e2;exact fun σ' H' F' so' r' f'=>q1 σ' H' F' so' (r4.trans r') (f4.trans f')
    |rt g d=>cases e2;exact(q1.back r4 f4:z69 X.K F4 H3 D (.rt g d))
  ·have hie:i=w.2.1.length:=by omega
   subst hie;rw[lh]at e2;cases e2;exact .inl ⟨wk.stop H2 (kp f2),q1 σ2 H2 F2 so2 r2 f2⟩
end
def rAgg (K:W.Frag)(f:String):List V->Hp->VK->Prop:=fun xs H Q=>∃B x dx l ys d,xs=[x]/\Rep K H B x dx/\z6e dx=.ok (l,ys)/\aggD f l ys=.ok d/\∀w H',Same H H'->Rep K H' (fun a=>nw H a\/(imms ys=false/\B a)) w d->Q w H'
theorem zah {K:W.Frag}{H:Hp}{B:Ad->Prop}{x:V}{dx:D}{l:Bool}{ys:List D}(r:Rep K H B x dx)(e:z6e dx=.ok (l,ys)):∃a vs,x=.ref a/\(if l then SqL K H a vs else SqT K H a vs)/\Reps K H B vs ys:=by
 cases dx<;>try (cases e;done)
 ·cases e;obtain⟨a,vs,rfl,h,q⟩:=z1a r;exact⟨a,vs,rfl,h,q⟩
 ·cases e;obtain⟨a,vs,rfl,h,q⟩:=r;exact⟨a,vs,rfl,h,q⟩
section
variable {X:Cx}{e:Expr}{fa:Rho->Res GD}{pos:Pos}
theorem zn7 {f:String}{ρ:Rho}{F:Fm}{z:GD}{σ:L2.St}{H:Hp}{Q:VK}(so:StOk X.K F H σ ρ)(e:((fa ρ>>=fun x=>z6e x.2>>=fun p=>Res.ok (x.1,p))>>=fun w=>aggD f w.2.1 w.2.2>>=fun d=>Res.ok ((gJ d (if imms w.2.2 then .fr else agG w.1),d):GD))=.ok z)(q:∀v H',Same H H'->Rep X.K H' (BG F H z.1) v z.2->Q v H'):
  tCB (rAgg X.K f) (z3n (tD X.K fa) tNil) σ H Q:=by
 obtain⟨w,e0,e⟩:=Res.bind_ok e;obtain⟨x,e1,e0⟩:=Res.bind_ok e0;obtain⟨p,e2,e0⟩:=Res.bind_ok e0;cases e0;obtain⟨d,e3,e⟩:=Res.bind_ok e;cases e;refine⟨ρ,F,x,so,e1,fun v H1 s1 rv=>⟨_,v,x.2,p.1,p.2,d,rfl,rv,e2,e3,fun w' H2 s2 rw'=>q w' H2 (s1.trans s2) (z2o rw' fun a h=>?_)⟩⟩
 dsimp only
 cases hi:imms p.2 with
 |true=>
  rw[if_pos rfl];rcases h with h|⟨h,_⟩
  ·exact nw.back s1 h
  ·rw[hi]at h;cases h
 |false=>
  rw[if_neg cw]
  have al:visA F a:=by
   rcases h with h|⟨_,h⟩
   ·exact(nw.back s1 h).vis so.vis
   ·exact h.vis so.vis
  cases hg:x.1 with
  |fr=>
   rcases h with h|⟨_,h⟩
   ·exact nw.back s1 h
   ·rw[hg]at h;exact h
  |od=>exact al
  |al=>exact al
  |nu=>
   rcases h with h|⟨_,h⟩
   ·exact .inl (nw.back s1 h)
   ·rw[hg]at h;exact h
theorem z5t {K:W.Frag}{H:Hp}{B:Ad->Prop}:∀{ds:List D} {bs:List Bool} {vs:List V},allB ds=some bs->Reps K H B vs ds->vs=bs.map V.bl
 | [],bs,vs,e,r=>by cases e;exact r
 |d::ds,bs,vs,e,r=>by
  cases d<;>try (cases e;done)
  rename_i b;simp only[allB]at e;cases e1:allB ds with
  |none=>rw[e1]at e;cases e
  |some bs'=>rw[e1]at e;cases e;obtain⟨v,t,rfl,h1,h2⟩:=r;have ev:v=.bl b:=h1;rw[ev,z5t e1 h2];rfl
theorem zr4 (hc:X.calm=true):CallR X (.builtin "all") (rAgg X.K "all"):=by
 refine CallR.imp (zcy hc) fun xs H Q h=>?_;obtain⟨B,x,dx,l,ys,d,rfl,r,e,e2,q⟩:=h;obtain⟨a,vs,rfl,h,rs⟩:=zah r e;simp only[aggD,show("all":String)≠"list" by decide,show("all":String)≠"tuple" by decide,show("all":String)≠"sorted" by decide,show("all":String)≠"sum" by decide,if_true,if_false]at e2;cases l with
 |false=>cases e2
 |true=>
  simp only[if_true]at e2;cases e3:allB ys with
  |none=>rw[e3]at e2;cases e2
  |some bs=>rw[e3]at e2;cases e2;have ev:=z5t e3 rs;subst ev;exact⟨a,bs,rfl,h,q _ H (Same.refl H) rfl⟩
theorem zmc {f:String}{x:Str}{p:Pos}{y:Expr}(hc:CallR X (.builtin f) (rAgg X.K f))(hm:X.mg x=none)(hv:cz x=some (.builtin f))(hs:isStar y=false)(ha:PE X y (tD X.K fa))(hg:Gl X x)(hn:x≠"__name__")(hdb:(x==("__debug__":Str))=false):
  PE X (.Call (.Name x p) [y] [] pos) (tD X.K fun ρ=>(fa ρ>>=fun x=>z6e x.2>>=fun p=>Res.ok (x.1,p))>>=fun w=>aggD f w.2.1 w.2.2>>=fun d=>.ok (gJ d (if imms w.2.2 then .fr else agG w.1),d)):=
 PE.imp (zcj hc hm hv (pa_c ha z1v hs) (by simp[hs]) hg hn hdb) fun σ H Q ⟨ρ,F,z,so,e,q⟩=>zn7 so e q
end
end Mi
namespace Mi
open PySem PySem.Spec
end Mi
namespace Mi
open PySem PySem.Spec PyProof.Rows L2
namespace F
end F
section
variable {X:Cx}{pins:List (Addr×Obj)}{σ:L2.St}
end
end Mi
namespace Mi
open PySem PySem.Spec PyProof.Rows PySem.W
section
variable (key:Nat->Nat)
def Kp' (p:Array Nat)(i:Nat):Nat:=key (p.getD i 0)
variable {key}
def Asc (key:Nat->Nat)(p:Array Nat)(m:Nat):Prop:=∀i,1<=i->i<m->Kp' key p (i-1)<=Kp' key p i
theorem Asc.le {p:Array Nat}{m:Nat}(h:Asc key p m):∀(d i:Nat),i+d<m->Kp' key p i<=Kp' key p (i+d)
 |0,i,_=>aj _
 |d+1,i,hm=>by
  have h1:=Asc.le h d i (by omega);have h2:=h (i+d+1) (by omega) (by omega);have e:i+d+1-1=i+d:=by omega
  rw[e]at h2;exact bw h1 h2
end
def AllIn (n:Nat)(p:Array Nat):Prop:=0<n/\∀x∈p,x<n
theorem AllIn.get {n:Nat}{p:Array Nat}(h:AllIn n p)(i:Nat):p.getD i 0<n:=by
 rw[Array.getD_eq_getD_getElem?];cases e:p[i]? with
 |none=>exact h.1
 |some x=>exact h.2 x (Array.mem_of_getElem? e)
structure OrdOn (p:D->Prop):Prop where
 irr:∀x,p x->ltD x x=false
 tr:∀x y z,p x->p y->p z->ltD x y=true->ltD y z=true->ltD x z=true
 ntr:∀x y z,p x->p y->p z->ltD x z=true->ltD x y=true\/ltD y z=true
 tot:∀x y,p x->p y->ltD x y=false->ltD y x=false->x=y
theorem z1p {x:D}(h:isI x=true):∃i,x=.int i:=by cases x<;>first|(cases h;done)|exact⟨_,rfl⟩
theorem z1u {x:D}(h:isS x=true):∃i,x=.str i:=by cases x<;>first|(cases h;done)|exact⟨_,rfl⟩
theorem z37 (a b:Int):ltD (.int a) (.int b)=decide (a<b):=rfl
theorem z34 (a b:Str):ltD (.str a) (.str b)=decide (a.cps.toList<b.cps.toList):=rfl
theorem ordI:OrdOn (fun x=>isI x=true) where
 irr:=fun x h=>by obtain⟨i,rfl⟩:=z1p h;rw[z37];simp
 tr:=fun x y z hx hy hz h1 h2=>by obtain⟨i,rfl⟩:=z1p hx;obtain⟨j,rfl⟩:=z1p hy;obtain⟨k,rfl⟩:=z1p hz;rw[z37,decide_eq_true_eq]at *;omega
 ntr:=fun x y z hx hy hz h=>by
  obtain⟨i,rfl⟩:=z1p hx;obtain⟨j,rfl⟩:=z1p hy;obtain⟨k,rfl⟩:=z1p hz;rw[z37,decide_eq_true_eq]at *
  rw[z37,decide_eq_true_eq];omega
 tot:=fun x y hx hy h1 h2=>by
  obtain⟨i,rfl⟩:=z1p hx;obtain⟨j,rfl⟩:=z1p hy;rw[z37,decide_eq_false_iff_not]at *
  rw[show i=j by omega]
theorem zfy {a b:Str}(h:a.cps.toList=b.cps.toList):a=b:=by obtain⟨⟨l⟩⟩:=a;obtain⟨⟨m⟩⟩:=b;simp only at h;rw[h]
theorem ordS:OrdOn (fun x=>isS x=true) where
 irr:=fun x h=>by obtain⟨i,rfl⟩:=z1u h;rw[z34];exact strKind.irrefl _
 tr:=fun x y z hx hy hz h1 h2=>by
  obtain⟨i,rfl⟩:=z1u hx;obtain⟨j,rfl⟩:=z1u hy;obtain⟨k,rfl⟩:=z1u hz;rw[z34]at *
  exact strKind.trans _ _ _ h1 h2
 ntr:=fun x y z hx hy hz h=>by
  obtain⟨i,rfl⟩:=z1u hx;obtain⟨j,rfl⟩:=z1u hy;obtain⟨k,rfl⟩:=z1u hz;rw[z34]at *
  rw[z34];exact strKind.negTrans _ _ _ h
 tot:=fun x y hx hy h1 h2=>by
  obtain⟨i,rfl⟩:=z1u hx;obtain⟨j,rfl⟩:=z1u hy;rw[z34]at *
  rw[zfy (strKind.total _ _ h1 h2)]
theorem ordK (b:Bool):OrdOn (fun x=>ofK b x=true):=by
 cases b with
 |true=>exact ordI
 |false=>exact ordS
theorem zki {b:Bool}{x y:D}(hx:ofK b x=true)(hy:ofK b y=true):eqD x y=true↔x=y:=by
 cases b with
 |true=>obtain⟨i,rfl⟩:=z1p hx;obtain⟨j,rfl⟩:=z1p hy;show(i==j)=true↔_;rw[beq_iff_eq];exact⟨fun h=>by rw[h],fun h=>by cases h;rfl⟩
 |false=>obtain⟨i,rfl⟩:=z1u hx;obtain⟨j,rfl⟩:=z1u hy;show(i==j)=true↔_;rw[beq_iff_eq];exact⟨fun h=>by rw[h],fun h=>by cases h;rfl⟩
theorem z0m {b:Bool}{bs:List Bool}{xs:List D}(h:shps (b::bs) xs=true):∃x r,xs=x::r/\ofK b x=true/\shps bs r=true:=by
 cases xs with
 |nil=>cases h
 |cons x r=>simp only[shps,aq]at h;exact⟨x,r,rfl,h.1,h.2⟩
theorem z0u {xs:List D}(h:shps [] xs=true):xs=[]:=by
 cases xs with
 |nil=>rfl
 |cons x r=>cases h
theorem z5f (x y:D)(xs ys:List D):ltDs (x::xs) (y::ys)=if eqD x y then ltDs xs ys else ltD x y:=by simp only[ltDs]
theorem z2e:ltDs [] []=false:=by simp[ltDs]
section
variable {p:D->Prop}(O:OrdOn p)
include O
end
end Mi
namespace Mi
open PySem PySem.Spec PyProof.Rows L2 PySem.W
section
variable {prog:ax}{w:World}{A:cq}{E:Value->ae->Prop}{s:ae}{b:Bool}{x y:D}{u v:Value}{Q:Bool->ae->Prop}
end
theorem z0s.some {P:ax}{w:World}{H:Hp}{h:Heap}{a:Addr}{o:HO}(x:z0s P w H h a o):∃q,h.get? a=some q:=by
 cases o with
 |lst xs=>obtain⟨_,_,_,_,e⟩:=x;exact⟨_,e⟩
 |tup xs=>obtain⟨_,_,_,_,e⟩:=x;exact⟨_,e⟩
 |dK kvs=>obtain⟨_,_,_,_,o,_,_,e,_⟩:=x;exact⟨_,e⟩
 |dT kvs=>obtain⟨_,_,_,_,o,_,_,e,_⟩:=x;exact⟨_,e⟩
 |set S n=>obtain⟨ob,es,ep,t,e,c⟩:=x;exact⟨_,e⟩
 |ins C dx fs=>obtain⟨d,z,ne,e,_⟩:=x;exact⟨_,e⟩
 |own y=>exact x
 |xd fs=>obtain⟨mA,⟨od,es,ep,e,c⟩,r⟩:=x;exact⟨_,e⟩
 |frz ob u=>exact⟨_,x.1⟩
 |tbl ps=>exact⟨_,x⟩
 |ext φ=>obtain⟨p,⟨o,e⟩,st⟩:=x;exact⟨_,e⟩
section
variable {X:Cx}
end
section
variable {X:Cx}
end
structure OrdE (p:D->Prop):Prop extends OrdOn p where
 eq:∀x y,p x->p y->(eqD x y=true↔x=y)
structure OrdL (q:List D->Prop):Prop where
 irr:∀x,q x->ltDs x x=false
 tr:∀x y z,q x->q y->q z->ltDs x y=true->ltDs y z=true->ltDs x z=true
 ntr:∀x y z,q x->q y->q z->ltDs x z=true->ltDs x y=true\/ltDs y z=true
 tot:∀x y,q x->q y->ltDs x y=false->ltDs y x=false->x=y
 eq:∀x y,q x->q y->(PyData.eqvAll x y=true↔x=y)
section
variable {p:D->Prop}(O:OrdE p){x y z:D}{xs ys zs:List D}
include O
theorem l_eq (hx:p x)(hy:p y)(h:x=y):ltDs (x::xs) (y::ys)=ltDs xs ys:=by rw[z5f,if_pos ((O.eq x y hx hy).mpr h)]
theorem l_ne (hx:p x)(hy:p y)(h:x≠y):ltDs (x::xs) (y::ys)=ltD x y:=by rw[z5f,if_neg fun z=>h ((O.eq x y hx hy).mp z)]
theorem l_tr (hx:p x)(hy:p y)(hz:p z)(ih:ltDs xs ys=true->ltDs ys zs=true->ltDs xs zs=true)(e1:ltDs (x::xs) (y::ys)=true)(e2:ltDs (y::ys) (z::zs)=true):ltDs (x::xs) (z::zs)=true:=by
 by_cases xy:x=y
 ·rw[l_eq O hx hy xy]at e1;by_cases yz:y=z
  ·rw[l_eq O hy hz yz]at e2;rw[l_eq O hx hz (xy.trans yz)];exact ih e1 e2
  ·rw[l_ne O hy hz yz]at e2;rw[l_ne O hx hz (by rw[xy];exact yz),xy];exact e2
 ·rw[l_ne O hx hy xy]at e1;by_cases yz:y=z
  ·rw[l_ne O hx hz (by rw[<-yz];exact xy),<-yz];exact e1
  ·rw[l_ne O hy hz yz]at e2;have e3:=O.tr x y z hx hy hz e1 e2;rw[l_ne O hx hz (fun q=>by subst q;rw[O.irr x hx]at e3;cases e3)];exact e3
theorem zkl (hx:p x)(hy:p y)(hz:p z)(ih:ltDs xs zs=true->ltDs xs ys=true\/ltDs ys zs=true)(e:ltDs (x::xs) (z::zs)=true):ltDs (x::xs) (y::ys)=true\/ltDs (y::ys) (z::zs)=true:=by
 by_cases xz:x=z
 ·rw[l_eq O hx hz xz]at e;by_cases xy:x=y
  ·rw[l_eq O hx hy xy,l_eq O hy hz (xy.symm.trans xz)];exact ih e
  ·rw[l_ne O hx hy xy,l_ne O hy hz (fun q=>xy (xz.trans q.symm)),<-xz];cases e1:ltD x y with
   |true=>exact .inl rfl
   |false=>
    cases e2:ltD y x with
    |true=>exact .inr rfl
    |false=>exact(xy (O.tot x y hx hy e1 e2)).elim
 ·rw[l_ne O hx hz xz]at e;by_cases xy:x=y
  ·rw[l_ne O hy hz (fun q=>xz (xy.trans q)),<-xy];exact .inr e
  ·rw[l_ne O hx hy xy];by_cases yz:y=z
   ·rw[yz];exact .inl e
   ·rw[l_ne O hy hz yz];exact O.ntr x y z hx hy hz e
theorem zji (hx:p x)(hy:p y)(ih:ltDs xs ys=false->ltDs ys xs=false->xs=ys)(e1:ltDs (x::xs) (y::ys)=false)(e2:ltDs (y::ys) (x::xs)=false):x::xs=y::ys:=by
 by_cases xy:x=y
 ·rw[l_eq O hx hy xy]at e1;rw[l_eq O hy hx xy.symm]at e2;rw[xy,ih e1 e2]
 ·rw[l_ne O hx hy xy]at e1;rw[l_ne O hy hx (fun q=>xy q.symm)]at e2;exact(xy (O.tot x y hx hy e1 e2)).elim
theorem zje (hx:p x)(hy:p y)(ih:PyData.eqvAll xs ys=true↔xs=ys):PyData.eqvAll (x::xs) (y::ys)=true↔x::xs=y::ys:=by rw[PyData.eqvAll,aq,ih,List.cons.injEq];exact and_congr (O.eq x y hx hy) Iff.rfl
end
theorem OrdL.nil:OrdL (fun l=>l=[]) where
 irr:=fun x h=>by rw[h];exact z2e
 tr:=fun x y z h1 h2 h3 e1 e2=>by rw[h1,h2,z2e]at e1;cases e1
 ntr:=fun x y z h1 h2 h3 e=>by rw[h1,h3,z2e]at e;cases e
 tot:=fun x y h1 h2 _ _=>h1.trans h2.symm
 eq:=fun x y h1 h2=>by rw[h1,h2];exact⟨fun _=>rfl,fun _=>rfl⟩
theorem OrdL.cons {p:D->Prop}{q:List D->Prop}(O:OrdE p)(L:OrdL q):OrdL (fun l=>∃x r,l=x::r/\p x/\q r) where
 irr:=fun l h=>by obtain⟨x,r,rfl,hx,hr⟩:=h;rw[l_eq O hx hx rfl];exact L.irr r hr
 tr:=fun l1 l2 l3 h1 h2 h3=>by obtain⟨x,r,rfl,hx,hr⟩:=h1;obtain⟨y,t,rfl,hy,ht⟩:=h2;obtain⟨z,u,rfl,hz,hu⟩:=h3;exact l_tr O hx hy hz (L.tr _ _ _ hr ht hu)
 ntr:=fun l1 l2 l3 h1 h2 h3=>by obtain⟨x,r,rfl,hx,hr⟩:=h1;obtain⟨y,t,rfl,hy,ht⟩:=h2;obtain⟨z,u,rfl,hz,hu⟩:=h3;exact zkl O hx hy hz (L.ntr _ _ _ hr ht hu)
 tot:=fun l1 l2 h1 h2=>by obtain⟨x,r,rfl,hx,hr⟩:=h1;obtain⟨y,t,rfl,hy,ht⟩:=h2;exact zji O hx hy (L.tot _ _ hr ht)
 eq:=fun l1 l2 h1 h2=>by obtain⟨x,r,rfl,hx,hr⟩:=h1;obtain⟨y,t,rfl,hy,ht⟩:=h2;exact zje O hx hy (L.eq _ _ hr ht)
theorem zg3 {ys:List D}(h:ltDs [] ys=true):∃y r,ys=y::r:=by
 cases ys with
 |nil=>rw[z2e]at h;cases h
 |cons y r=>exact⟨y,r,rfl⟩
theorem z3k (y:D)(r:List D):ltDs [] (y::r)=true:=by simp[ltDs]
theorem z4j (y:D)(r:List D):ltDs (y::r) []=false:=by simp[ltDs]
section
variable {p:D->Prop}(O:OrdE p)
include O
theorem zn2:∀xs:List D,(∀x∈xs,p x)->ltDs xs xs=false
 | [],_=>z2e
 |x::xs,h=>by rw[l_eq O (h x (by simp)) (h x (by simp)) rfl];exact zn2 xs fun z hz=>h z (by simp[hz])
theorem a_tr:∀xs ys zs:List D,(∀x∈xs,p x)->(∀x∈ys,p x)->(∀x∈zs,p x)->ltDs xs ys=true->ltDs ys zs=true->ltDs xs zs=true
 | [],ys,zs,h1,h2,h3,e1,e2=>by
  obtain⟨y,r,rfl⟩:=zg3 e1;cases zs with
  |nil=>rw[z4j]at e2;cases e2
  |cons z t=>exact z3k z t
 |x::xs,[],zs,h1,h2,h3,e1,e2=>by rw[z4j]at e1;cases e1
 |x::xs,y::ys,[],h1,h2,h3,e1,e2=>by rw[z4j]at e2;cases e2
 |x::xs,y::ys,z::zs,h1,h2,h3,e1,e2=>l_tr O (h1 x (by simp)) (h2 y (by simp)) (h3 z (by simp)) (a_tr xs ys zs (fun w hw=>h1 w (by simp[hw])) (fun w hw=>h2 w (by simp[hw])) fun w hw=>h3 w (by simp[hw])) e1 e2
theorem znz:∀xs ys zs:List D,(∀x∈xs,p x)->(∀x∈ys,p x)->(∀x∈zs,p x)->ltDs xs zs=true->ltDs xs ys=true\/ltDs ys zs=true
 | [],[],zs,h1,h2,h3,e=>.inr e
 | [],y::ys,zs,h1,h2,h3,e=>.inl (z3k y ys)
 |x::xs,ys,[],h1,h2,h3,e=>by rw[z4j]at e;cases e
 |x::xs,[],z::zs,h1,h2,h3,e=>.inr (z3k z zs)
 |x::xs,y::ys,z::zs,h1,h2,h3,e=>zkl O (h1 x (by simp)) (h2 y (by simp)) (h3 z (by simp)) (znz xs ys zs (fun w hw=>h1 w (by simp[hw])) (fun w hw=>h2 w (by simp[hw])) fun w hw=>h3 w (by simp[hw])) e
theorem zlu:∀xs ys:List D,(∀x∈xs,p x)->(∀x∈ys,p x)->ltDs xs ys=false->ltDs ys xs=false->xs=ys
 | [],[],h1,h2,e1,e2=>rfl
 | [],y::ys,h1,h2,e1,e2=>by rw[z3k]at e1;cases e1
 |x::xs,[],h1,h2,e1,e2=>by rw[z3k]at e2;cases e2
 |x::xs,y::ys,h1,h2,e1,e2=>zji O (h1 x (by simp)) (h2 y (by simp)) (zlu xs ys (fun w hw=>h1 w (by simp[hw])) fun w hw=>h2 w (by simp[hw])) e1 e2
theorem a_eq:∀xs ys:List D,(∀x∈xs,p x)->(∀x∈ys,p x)->(PyData.eqvAll xs ys=true↔xs=ys)
 | [],[],h1,h2=>⟨fun _=>rfl,fun _=>rfl⟩
 | [],y::ys,h1,h2=>⟨fun h=>by simp[PyData.eqvAll]at h,fun h=>nomatch h⟩
 |x::xs,[],h1,h2=>⟨fun h=>by simp[PyData.eqvAll]at h,fun h=>nomatch h⟩
 |x::xs,y::ys,h1,h2=>zje O (h1 x (by simp)) (h2 y (by simp)) (a_eq xs ys (fun w hw=>h1 w (by simp[hw])) fun w hw=>h2 w (by simp[hw]))
theorem OrdL.all:OrdL (fun l=>∀x∈l,p x):=⟨zn2 O,a_tr O,znz O,zlu O,a_eq O⟩
end
theorem OrdL.tup {q:List D->Prop}(L:OrdL q):OrdE (fun d=>∃l,d=.tuple l/\q l) where
 irr:=fun d h=>by obtain⟨l,rfl,h⟩:=h;exact L.irr l h
 tr:=fun x y z h1 h2 h3=>by obtain⟨l,rfl,h1⟩:=h1;obtain⟨m,rfl,h2⟩:=h2;obtain⟨n,rfl,h3⟩:=h3;exact L.tr l m n h1 h2 h3
 ntr:=fun x y z h1 h2 h3=>by obtain⟨l,rfl,h1⟩:=h1;obtain⟨m,rfl,h2⟩:=h2;obtain⟨n,rfl,h3⟩:=h3;exact L.ntr l m n h1 h2 h3
 tot:=fun x y h1 h2 e1 e2=>by obtain⟨l,rfl,h1⟩:=h1;obtain⟨m,rfl,h2⟩:=h2;rw[L.tot l m h1 h2 e1 e2]
 eq:=fun x y h1 h2=>by obtain⟨l,rfl,h1⟩:=h1;obtain⟨m,rfl,h2⟩:=h2;show PyData.eqvAll l m=true↔_;rw[L.eq l m h1 h2];exact⟨fun h=>by rw[h],fun h=>by cases h;rfl⟩
theorem OrdE.of {p q:D->Prop}(O:OrdE q)(h:∀d,p d->q d):OrdE p where
 irr:=fun x hx=>O.irr x (h x hx)
 tr:=fun x y z hx hy hz=>O.tr x y z (h x hx) (h y hy) (h z hz)
 ntr:=fun x y z hx hy hz=>O.ntr x y z (h x hx) (h y hy) (h z hz)
 tot:=fun x y hx hy=>O.tot x y (h x hx) (h y hy)
 eq:=fun x y hx hy=>O.eq x y (h x hx) (h y hy)
theorem zpp (b:Bool):OrdE (fun x=>ofK b x=true):=⟨ordK b,fun _ _=>zki⟩
theorem OrdL.sh:∀bs:List Bool,OrdL (fun l=>shps bs l=true)
 | []=>⟨fun x h=>OrdL.nil.irr x (z0u h),fun x y z h1 h2 h3=>OrdL.nil.tr x y z (z0u h1) (z0u h2) (z0u h3),fun x y z h1 h2 h3=>OrdL.nil.ntr x y z (z0u h1) (z0u h2) (z0u h3),fun x y h1 h2=>OrdL.nil.tot x y (z0u h1) (z0u h2),fun x y h1 h2=>OrdL.nil.eq x y (z0u h1) (z0u h2)⟩
 |b::bs=>by have L:=OrdL.cons (zpp b) (OrdL.sh bs);exact⟨fun x h=>L.irr x (z0m h),fun x y z h1 h2 h3=>L.tr x y z (z0m h1) (z0m h2) (z0m h3),fun x y z h1 h2 h3=>L.ntr x y z (z0m h1) (z0m h2) (z0m h3),fun x y h1 h2=>L.tot x y (z0m h1) (z0m h2),fun x y h1 h2=>L.eq x y (z0m h1) (z0m h2)⟩
section
variable {X:Cx}{pins:List (Addr×Obj)}{σ:L2.St}{H:Hp}{s:ae}{B:Ad->Prop}{h':Heap}
end
section
variable {X:Cx}{pins:List (Addr×Obj)}{σ:L2.St}{H:Hp}{s:ae}{B:Ad->Prop}{h':Heap}{t:Bool}
end
section
variable {X:Cx}
end
end Mi
namespace Mi
open PySem PySem.Spec PyProof.Rows L2
section
variable {X:Cx}
end
section
variable {X:Cx}{pins pins0:List (Addr×Obj)}{σ σ0:L2.St}{H H0:Hp}{s s0:ae}{d:Addr}{o:Obj}{kvs kvs0:List (Key×V)}
end
section
variable {X:Cx}{pins:List (Addr×Obj)}{σ:L2.St}{H:Hp}{s:ae}
end
theorem REs.at {K:W.Frag}{H:Hp}{B:Ad->Prop}:∀{kvs:List (Key×V)} {es:Ents} {i:Nat} {k:Key} {v:V},REs K H B kvs es->kvs[i]?=some (k,v)->∃d,es[i]?=some (kD k,d)/\keyOk k/\Rep K H B v d
 |kvs,[],i,k,v,r,e=>by have:kvs=[]:=r;subst this;simp at e
 |kvs,(kd,d)::es,i,k,v,r,e=>by
  obtain⟨k',v',t,rfl,rfl,ok,h1,h2⟩:=r;cases i with
  |zero=>rw[ni]at e ⊢;cases e;exact⟨d,rfl,ok,h1⟩
  |succ i=>rw[gg]at e ⊢;exact REs.at h2 e
section
variable {X:Cx}
end
section
variable {X:Cx}
end
section
variable {X:Cx}{pins:List (Addr×Obj)}{σ:L2.St}{H:Hp}{s:ae}
end
end Mi
namespace Mi
open PySem PySem.Spec PyProof.Rows L2 PySem.W
section
variable {X:Cx}{pins:List (Addr×Obj)}{σ:L2.St}{H:Hp}{s:ae}
end
section
variable {X:Cx}
end
end Mi
namespace Mi
open PySem PySem.Spec PyProof.Rows L2
section
variable {X:Cx}
end
end Mi
namespace Mi
open PySem PySem.Spec PyProof.Rows L2 PySem.W
section
variable {X:Cx}
end
section
variable {X:Cx}{a b:Expr}{pos:Pos}{fa fb:Rho->Res GD}
end
section
variable {X:Cx}
end
end Mi
namespace Mi
open PySem PySem.Spec PyProof.Rows L2
section
variable {X:Cx}{tg a b c e:Expr}{es:List Expr}{fa fb:Rho->Res GD}{pos:Pos}
theorem zqr {x:Str}{T:String}{m:List D->Res D}{fs:Rho->Res (List GD)}{p:Pos}(hc:CallR X (.type T) (z6d X.K m))(hm:X.mg x=none)(hv:cz x=some (.type T))(ha:PA X (e::es) (tDA X.K fs))(hst:((e::es).all fun e=>!isStar e)=true)(hg:Gl X x)(hn:x≠"__name__")(hdb:(x==("__debug__":Str))=false):
  PE X (.Call (.Name x p) (e::es) [] pos) (tD X.K fun ρ=>fs ρ>>=fun ys=>m (ys.map (·.2))>>=fun d=>.ok (gJ d .al,d)):=by
 refine PE.imp (zme hc hm hv ha hst hg hn hdb) fun σ H Q hq=>?_;obtain⟨ρ,F,z,so,e0,q⟩:=hq;obtain⟨ys,e1,e0⟩:=Res.bind_ok e0;obtain⟨d,e2,e0⟩:=Res.bind_ok e0;cases e0;exact⟨ρ,F,ys,so,e1,fun vs H1 s1 rs=>⟨_,_,d,rs.repsV so.vis,e2,fun w H2 s2 rw'=>q w H2 (s1.trans s2) (z2o rw' fun a h=>h.elim (fun z=>(nw.back s1 z).vis so.vis) fun z=>z)⟩⟩
theorem zii:CallR X (.type "int") (z6d X.K (biD "int")):=by
 refine CallR.imp (CallR.or zbm z9o) fun xs H Q h=>?_;obtain⟨B,ds,d,r,e0,q⟩:=h;simp only[biD,show("int":String)≠"len" by decide,show("int":String)≠"max" by decide,if_true,if_false]at e0;split at e0
 ·rename_i i;cases e0;obtain⟨v,rfl,h1⟩:=zaz r;obtain rfl:v=.int i:=h1;exact .inl (.inl ⟨i,rfl,q _ H (Same.refl H) rfl⟩)
 ·rename_i k;cases e0;obtain⟨v,rfl,h1⟩:=zaz r;obtain rfl:v=.bl k:=h1;exact .inl (.inr ⟨k,rfl,q _ H (Same.refl H) rfl⟩)
 ·rename_i x;unfold intS at e0;split at e0
  ·rename_i hc;cases e0;rw[aw]at hc;obtain⟨v,rfl,h1⟩:=zaz r;obtain rfl:v=.str x:=h1.1;exact .inr ⟨x,rfl,hc.1,tu hc.2,q _ H (Same.refl H) rfl⟩
  ·cases e0
 ·cases e0
end
end Mi
namespace Mi
open PySem
abbrev ZRec (TI TO:Addr)(f0:Value)(f1:Bool):Obj:={cls:=.type "zip",dict:=none,data:=.fields #[f0,.bool f1,.bool false,.ref TI,.ref TO],slots:=#[]}
def ZF (f0:Value):Prop:=f0=Value.none\/∃T:Nat,f0=jh T
section
variable {prog:ax}{w:World}{A:cq}{E:Value->ae->Prop}{s:ae}{z TI TO:Addr}{f0:Value}{f1:Bool}
theorem za3 {a:Addr}{Q:Option Obj->ae->Prop}(h:Q (s.heap.get? a) s):wpAny (model prog w) A (loadIfAlive a) Q E s:=fun _ _ _=>h
theorem z6v {Q:Bool->ae->Prop}(hf:ZF f0)(hz:s.heap.get? z=some (ZRec TI TO f0 f1))(hQ:∀b h' f1',h'.get? z=some (ZRec TI TO f0 f1')->b9 z s.heap h'->Q b {s with heap:=h'}):wpAny (model prog w) A (eo (.ref z)) Q E s:=by
 delta eo
 apply aa;refine dr hz rfl (x:=f0) rfl ?_;rcases hf with rfl|⟨T,rfl⟩
 ·exact au (hQ true s.heap f1 hz (Heap.SameBut.refl ..))
 ·show wpAny _ _ (loadIfAlive ((T:Int).toNat)>>=_) _ _ _;apply aa;refine za3 ?_;cases s.heap.get? ((T:Int).toNat)with
  |none=>exact au (hQ true s.heap f1 hz (Heap.SameBut.refl ..))
  |some o=>
   dsimp only[Option.isNone]
   rw[if_neg (by decide)];show wpAny _ _ (field (.ref z) 1>>=_) _ _ _;apply aa;refine dr hz rfl (x:=.bool f1) rfl ?_;cases f1 with
   |true=>rw[if_neg (by decide)];exact au (hQ false s.heap true hz (Heap.SameBut.refl ..))
   |false=>rw[if_pos (by decide)];apply aa;exact e7 hz (by simp) fun h' hz' sb=>au (hQ false h' true hz' sb)
structure ZApart (z TI TO i1 i2:Addr)(p1 p2:List Addr):Prop where
 TIz:TI≠z
 TOz:TO≠z
 i1z:i1≠z
 i2z:i2≠z
 TITO:TI≠TO
 TIi1:TI≠i1
 TIi2:TI≠i2
 TOi1:TO≠i1
 TOi2:TO≠i2
 i12:i1≠i2
 f1z:z∉p1
 f1T:TO∉p1
 f1i:i2∉p1
 f2z:z∉p2
 f2T:TO∉p2
 f2i:i1∉p2
variable {i1 i2:Addr}{p1 p2:List Addr}{n1 n2 i:Nat}{P1 P2:Nat->Value->Prop}{S1 S2:Nat->Heap->Prop}{a b:Value}
abbrev PairAt (h:Heap)(T:Addr)(a b:Value):Prop:=h.get? T=some {cls:=.type "tuple",data:=.seq #[a,b]}
def Zk (z TO i1 i2:Addr)(h h':Heap):Prop:=∀c o,c≠z->c≠TO->c≠i1->c≠i2->h.get? c=some o->h'.get? c=some o
theorem z66 {T:Addr}{x:Value}{k:Nat}{Q:Unit->ae->Prop}(hT:PairAt s.heap T a b)(h:∀h',h'.get? T=some {cls:=.type "tuple",data:=.seq ((#[a,b]:Array Value).setIfInBounds k x)}->b9 T s.heap h'->Q () {s with heap:=h'}):wpAny (model prog w) A (updateSeq T (·.setIfInBounds k x)) Q E s:=by exact wpAny_updateSeq hT rfl (h _ (by rw[fq _ hT rfl];simp[Obj.mapSeq]) (o7 ..))
theorem zcu {Q:Value->ae->Prop}(D:ZApart z TI TO i1 i2 p1 p2)(D1:Draws prog w A i1 p1 n1 P1 S1)(D2:Draws prog w A i2 p2 n2 P2 S2)(hf:ZF f0)(hz:s.heap.get? z=some (ZRec TI TO f0 f1))(hTI:PairAt s.heap TI (.ref i1) (.ref i2))(hTO:PairAt s.heap TO a b)(h1:S1 i s.heap)(h2:S2 i s.heap)(l1:i<n1)(l2:i<n2)
  (hQ:∀x y h' tk f0' f1' a' b',P1 i x->P2 i y->ZF f0'->h'.get? z=some (ZRec TI TO f0' f1')->PairAt h' TO a' b'->S1 (i+1) h'->S2 (i+1) h'->PairAt h' s.heap.objs.size x y->Zk z TO i1 i2 s.heap h'->Q (.ref s.heap.objs.size) {s with heap:=h',toks:=tk}):
  wpAny (model prog w) A (Builtin.«zip.__next__» {pos:=[.ref z],kw:=[]}) (fun fin s'=>∃v,fin=.done (.ret v)/\Q v s') E s:=by
 show wpAny (model prog w) A (field (.ref z) 2>>=_) _ E s;apply aa;refine dr hz rfl (x:=.bool false) rfl ?_;show wpAny (model prog w) A (field (.ref z) 3>>=_) _ E s;apply aa;refine dr hz rfl (x:=.ref TI) rfl ?_;apply aa;refine gv hTI rfl ?_;show wpAny (model prog w) A (eo (.ref z)>>=_) _ E s;apply aa;refine z6v hf hz fun bf h₀ f1' hz₀ sb₀=>?_;have k0:∀c o,c≠z->s.heap.get? c=some o->h₀.get? c=some o:=fun c o hc e=>sb₀.extBut c o hc e;have e1:S1 i h₀:=D1.frame _ _ _ h1 fun b hb o e=>k0 b o (fun q=>D.f1z (q▸hb)) e;have e2:S2 i h₀:=D2.frame _ _ _ h2 fun b hb o e=>k0 b o (fun q=>D.f2z (q▸hb)) e;have t0:PairAt h₀ TO a b:=k0 _ _ D.TOz hTO;have sz0:h₀.objs.size=s.heap.objs.size:=sb₀.1;cases bf with
 |true=>
  rw[if_pos rfl];apply aa;refine ma ?_;apply aa;refine dr hz₀ rfl (x:=.ref TO) rfl ?_;apply aa;refine e7 hz₀ (by simp) fun ha za ka=>?_;replace za:ha.get? z=some (ZRec TI TO .ellipsis f1'):=za;have e1a:S1 i ha:=D1.frame _ _ _ e1 fun b hb o e=>ka.extBut b o (fun q=>D.f1z (q▸hb)) e;have e2a:S2 i ha:=D2.frame _ _ _ e2 fun b hb o e=>ka.extBut b o (fun q=>D.f2z (q▸hb)) e;have ta:PairAt ha TO a b:=ka.extBut _ _ D.TOz t0;apply aa;simp only[j5,md,List.zipIdx_cons,List.zipIdx_nil];apply aa;apply aa;apply lj;show wpAny (model prog w) A (cv (.ref i1)>>=_) _ _ _;apply aa;refine D1.item i _ _ _ l1 e1a fun x hb tk hPx s1b kb=>au ?_;replace kb:b9 i1 ha hb:=kb;have tb:PairAt hb TO a b:=kb.extBut _ _ D.TOi1 ta;have zb:hb.get? z=some (ZRec TI TO .ellipsis f1'):=kb.extBut _ _ D.i1z.symm za;have e2b:S2 i hb:=D2.frame _ _ _ e2a fun b hb' o e=>kb.extBut b o (fun q=>D.f2i (q▸hb')) e;apply aa;refine gv tb rfl ?_;apply aa;refine z66 tb fun hc tc kc=>?_;replace tc:PairAt hc TO x b:=tc;replace kc:b9 TO hb hc:=kc;apply aa;refine qx (au ?_);have zc:hc.get? z=some (ZRec TI TO .ellipsis f1'):=kc.extBut _ _ D.TOz.symm zb;have e1c:S1 (i+1) hc:=D1.frame _ _ _ s1b fun b hb' o e=>kc.extBut b o (fun q=>D.f1T (q▸hb')) e;have e2c:S2 i hc:=D2.frame _ _ _ e2b fun b hb' o e=>kc.extBut b o (fun q=>D.f2T (q▸hb')) e;apply aa;apply aa;apply lj;show wpAny (model prog w) A (cv (.ref i2)>>=_) _ _ _;apply aa;refine D2.item i _ _ _ l2 e2c fun y hd tk2 hPy s2d kd=>au ?_;replace kd:b9 i2 hc hd:=kd;have td:PairAt hd TO x b:=kd.extBut _ _ D.TOi2 tc;have zd:hd.get? z=some (ZRec TI TO .ellipsis f1'):=kd.extBut _ _ D.i2z.symm zc;have e1d:S1 (i+1) hd:=D1.frame _ _ _ e1c fun b hb' o e=>kd.extBut b o (fun q=>D.f1i (q▸hb')) e;apply aa;refine gv td rfl ?_;apply aa;refine z66 td fun he te ke=>?_;replace te:PairAt he TO x y:=te;replace ke:b9 TO hd he:=ke;apply aa;refine qx (au (au ?_));apply aa;refine gv te rfl ?_;apply aa;refine wpAny_newTuple ?_;have sz:he.objs.size=s.heap.objs.size:=by rw[ke.1,kd.1,kc.1,kb.1,ka.1,sz0]
  have ze:he.get? z=some (ZRec TI TO .ellipsis f1'):=ke.extBut _ _ D.TOz.symm zd;have zlt:z<he.objs.size:=bc ze;have e1e:S1 (i+1) he:=D1.frame _ _ _ e1d fun b hb' o e=>ke.extBut b o (fun q=>D.f1T (q▸hb')) e;have e2e:S2 (i+1) he:=D2.frame _ _ _ s2d fun b hb' o e=>ke.extBut b o (fun q=>D.f2T (q▸hb')) e;show wpAny _ _ (jv (.ref z) (.ref he.objs.size)>>=_) _ _ _;apply aa
  delta jv
  have zf:(he.push {cls:=.type "tuple",data:=.seq #[x,y]}).get? z=some (ZRec TI TO .ellipsis f1'):=af _ ze;apply aa;refine e7 zf (by simp) fun hg zg kg=>?_;replace zg:hg.get? z=some (ZRec TI TO (jh he.objs.size) f1'):=zg;refine e7 zg (by simp) fun hh zh kh=>?_;replace zh:hh.get? z=some (ZRec TI TO (jh he.objs.size) false):=zh;have up:∀c o,c≠z->he.get? c=some o->hh.get? c=some o:=fun c o hc e=>kh.extBut _ _ hc (kg.extBut _ _ hc (af _ e));have new:PairAt hh he.objs.size x y:=kh.extBut _ _ (nq zlt) (kg.extBut _ _ (nq zlt) (ba _ rfl));refine au ⟨.ref he.objs.size,rfl,?_⟩;rw[sz]at new ⊢;refine hQ x y hh tk2 _ _ x y hPx hPy (.inr ⟨_,rfl⟩) zh (up _ _ D.TOz te) (D1.frame _ _ _ e1e fun b hb' o e=>up b o (fun q=>D.f1z (q▸hb')) e) (D2.frame _ _ _ e2e fun b hb' o e=>up b o (fun q=>D.f2z (q▸hb')) e) new fun c o c1 c2 c3 c4 e=>?_;exact up c o c1 (ke.extBut _ _ c2 (kd.extBut _ _ c4 (kc.extBut _ _ c2 (kb.extBut _ _ c3 (ka.extBut _ _ c1 (k0 c o c1 e))))))
 |false=>
  rw[if_neg (by decide)]
  dsimp only
  apply aa;rw[<-pq];simp only[md,j5];apply aa;apply aa;apply f9;show wpAny (model prog w) A (cv (.ref i1)>>=_) _ _ _;apply aa;refine D1.item i _ _ _ l1 e1 fun x hb tk hPx s1b kb=>au (au ?_);replace kb:b9 i1 h₀ hb:=kb;have e2b:S2 i hb:=D2.frame _ _ _ e2 fun b hb' o e=>kb.extBut b o (fun q=>D.f2i (q▸hb')) e;apply aa;apply aa;apply f9;show wpAny (model prog w) A (cv (.ref i2)>>=_) _ _ _;apply aa;refine D2.item i _ _ _ l2 e2b fun y hd tk2 hPy s2d kd=>au (au (au ?_));replace kd:b9 i2 hb hd:=kd;have e1d:S1 (i+1) hd:=D1.frame _ _ _ s1b fun b hb' o e=>kd.extBut b o (fun q=>D.f1i (q▸hb')) e;have sz:hd.objs.size=s.heap.objs.size:=by rw[kd.1,kb.1,sz0]
  apply aa;refine wpAny_newTuple (au ⟨_,rfl,?_⟩) (by show 2<=az;decide);have up:∀c o,hd.get? c=some o->(hd.push {cls:=.type "tuple",data:=.seq #[x,y]}).get? c=some o:=fun c o e=>af _ e;have zd:hd.get? z=some (ZRec TI TO f0 f1'):=kd.extBut _ _ D.i2z.symm (kb.extBut _ _ D.i1z.symm hz₀);have td:PairAt hd TO a b:=kd.extBut _ _ D.TOi2 (kb.extBut _ _ D.TOi1 t0);have new:PairAt (hd.push {cls:=.type "tuple",data:=.seq #[x,y]}) hd.objs.size x y:=ba _ rfl;show Q (.ref hd.objs.size) _;rw[sz]at new ⊢;refine hQ x y _ tk2 f0 f1' a b hPx hPy hf (up _ _ zd) (up _ _ td) (D1.frame _ _ _ e1d fun b hb' o e=>up b o e) (D2.frame _ _ _ s2d fun b hb' o e=>up b o e) new fun c o c1 c2 c3 c4 e=>?_;exact up c o (kd.extBut _ _ c4 (kb.extBut _ _ c3 (k0 c o c1 e)))
theorem ziw {Q:Fin->ae->Prop}(D:ZApart z TI TO i1 i2 p1 p2)(D1:Draws prog w A i1 p1 n1 P1 S1)(D2:Draws prog w A i2 p2 n2 P2 S2)(hf:ZF f0)(hz:s.heap.get? z=some (ZRec TI TO f0 f1))(hTI:PairAt s.heap TI (.ref i1) (.ref i2))(hTO:PairAt s.heap TO a b)(h1:S1 i s.heap)(h2:S2 i s.heap)(hl:i=min n1 n2)
  (hE:∀h' tk e,Zk z TO i1 i2 s.heap h'->(∃o,h'.get? e=some o/\o.cls=.type "StopIteration")->E (.ref e) {s with heap:=h',toks:=tk}):
  wpAny (model prog w) A (Builtin.«zip.__next__» {pos:=[.ref z],kw:=[]}) Q E s:=by
 show wpAny (model prog w) A (field (.ref z) 2>>=_) _ E s;apply aa;refine dr hz rfl (x:=.bool false) rfl ?_;show wpAny (model prog w) A (field (.ref z) 3>>=_) _ E s;apply aa;refine dr hz rfl (x:=.ref TI) rfl ?_;apply aa;refine gv hTI rfl ?_;show wpAny (model prog w) A (eo (.ref z)>>=_) _ E s;apply aa;refine z6v hf hz fun bf h₀ f1' hz₀ sb₀=>?_;have k0:∀c o,c≠z->s.heap.get? c=some o->h₀.get? c=some o:=fun c o hc e=>sb₀.extBut c o hc e;have e1:S1 i h₀:=D1.frame _ _ _ h1 fun b hb o e=>k0 b o (fun q=>D.f1z (q▸hb)) e;have e2:S2 i h₀:=D2.frame _ _ _ h2 fun b hb o e=>k0 b o (fun q=>D.f2z (q▸hb)) e;have t0:PairAt h₀ TO a b:=k0 _ _ D.TOz hTO;cases bf with
 |true=>
  rw[if_pos rfl];apply aa;refine ma ?_;apply aa;refine dr hz₀ rfl (x:=.ref TO) rfl ?_;apply aa;refine e7 hz₀ (by simp) fun ha za ka=>?_;replace za:ha.get? z=some (ZRec TI TO .ellipsis f1'):=za;have e1a:S1 i ha:=D1.frame _ _ _ e1 fun b hb o e=>ka.extBut b o (fun q=>D.f1z (q▸hb)) e;have e2a:S2 i ha:=D2.frame _ _ _ e2 fun b hb o e=>ka.extBut b o (fun q=>D.f2z (q▸hb)) e;have ta:PairAt ha TO a b:=ka.extBut _ _ D.TOz t0;apply aa;simp only[j5,md,List.zipIdx_cons,List.zipIdx_nil];apply aa;apply aa;apply lj;show wpAny (model prog w) A (cv (.ref i1)>>=_) _ _ _;apply aa;by_cases hi:i<n1
  ·refine D1.item i _ _ _ hi e1a fun x hb tk hPx s1b kb=>au ?_;replace kb:b9 i1 ha hb:=kb;have tb:PairAt hb TO a b:=kb.extBut _ _ D.TOi1 ta;have zb:hb.get? z=some (ZRec TI TO .ellipsis f1'):=kb.extBut _ _ D.i1z.symm za;have e2b:S2 i hb:=D2.frame _ _ _ e2a fun b hb' o e=>kb.extBut b o (fun q=>D.f2i (q▸hb')) e;apply aa;refine gv tb rfl ?_;apply aa;refine z66 tb fun hc tc kc=>?_;replace kc:b9 TO hb hc:=kc;apply aa;refine qx (au ?_);have zc:hc.get? z=some (ZRec TI TO .ellipsis f1'):=kc.extBut _ _ D.TOz.symm zb;have e2c:S2 n2 hc:=by rw[show n2=i by omega];exact D2.frame _ _ _ e2b fun b hb' o e=>kc.extBut b o (fun q=>D.f2T (q▸hb')) e
   apply aa;apply aa;apply lj;show wpAny (model prog w) A (cv (.ref i2)>>=_) _ _ _;apply aa;refine D2.done _ _ _ e2c fun hd e kd he=>?_;obtain⟨oe,hoe,hce⟩:=he;have zd:hd.get? z=some (ZRec TI TO .ellipsis f1'):=kd _ _ D.i2z.symm zc;have hez:e≠z:=fun q=>by subst q;rw[zd]at hoe;cases hoe;simp at hce
   refine e7 zd (by simp) fun he' _ ke=>hE he' tk e (fun c o c1 c2 c3 c4 q=>?_) ⟨oe,ke.extBut _ _ hez hoe,hce⟩;exact ke.extBut _ _ c1 (kd _ _ c4 (kc.extBut _ _ c2 (kb.extBut _ _ c3 (ka.extBut _ _ c1 (k0 c o c1 q)))))
  ·have e1n:S1 n1 ha:=by rw[show n1=i by omega];exact e1a
   refine D1.done _ _ _ e1n fun hd e kd he=>?_;obtain⟨oe,hoe,hce⟩:=he;have zd:hd.get? z=some (ZRec TI TO .ellipsis f1'):=kd _ _ D.i1z.symm za;have hez:e≠z:=fun q=>by subst q;rw[zd]at hoe;cases hoe;simp at hce
   refine e7 zd (by simp) fun he' _ ke=>hE he' s.toks e (fun c o c1 c2 c3 c4 q=>?_) ⟨oe,ke.extBut _ _ hez hoe,hce⟩;exact ke.extBut _ _ c1 (kd _ _ c3 (ka.extBut _ _ c1 (k0 c o c1 q)))
 |false=>
  rw[if_neg (by decide)]
  dsimp only
  apply aa;rw[<-pq];simp only[md,j5];apply aa;apply aa;apply f9;show wpAny (model prog w) A (cv (.ref i1)>>=_) _ _ _;apply aa;by_cases hi:i<n1
  ·refine D1.item i _ _ _ hi e1 fun x hb tk hPx s1b kb=>au (au ?_);replace kb:b9 i1 h₀ hb:=kb;have e2b:S2 n2 hb:=by rw[show n2=i by omega];exact D2.frame _ _ _ e2 fun b hb' o e=>kb.extBut b o (fun q=>D.f2i (q▸hb')) e
   apply aa;apply aa;apply f9;show wpAny (model prog w) A (cv (.ref i2)>>=_) _ _ _;apply aa;exact D2.done _ _ _ e2b fun hd e kd he=>hE hd tk e (fun c o c1 c2 c3 c4 q=>kd _ _ c4 (kb.extBut _ _ c3 (k0 c o c1 q))) he
  ·have e1n:S1 n1 h₀:=by rw[show n1=i by omega];exact e1
   exact D1.done _ _ _ e1n fun hd e kd he=>hE hd s.toks e (fun c o c1 c2 c3 c4 q=>kd _ _ c3 (k0 c o c1 q)) he
end
end Mi
namespace Mi
open PySem PySem.Spec PyProof.Rows L2
section
variable {prog:ax}{w:World}{A:cq}{E:Value->ae->Prop}{s:ae}
theorem z8g {it t:Addr}{i:Nat}{items:Array Value}{x:Value}{Q:Value->ae->Prop}(hit:s.heap.IsTupleIter it t i)(ht:s.heap.IsTuple t items)(hx:items[i]?=some x)
  (hQ:∀h',h'.IsTupleIter it t (i+1)->b9 it s.heap h'->Q x {s with heap:=h'}):wpAny (model prog w) A (cv (.ref it)) Q E s:=by
 have ty:=hit.typeIs;obtain⟨⟨ocls,odict,odata,oslots⟩,ho,hc,hd⟩:=hit;obtain⟨⟨tcls,tdict,tdata,tslots⟩,to,tc,n,td⟩:=ht;cases hc;cases hd;cases tc;cases td;apply aa;refine gb ty F.slot_tuple_iterator_next (i8 F.slot_tuple_iterator_next ty F.entry_tuple_iterator_next ?_ (F.args_tuple_iterator_next_1 _));show wpAny _ _ (field (.ref it) 0>>=_) _ _ _;apply aa;refine dr ho rfl (x:=.ref t) rfl ?_;show wpAny _ _ (field (.ref it) 1>>=_) _ _ _;apply aa;refine dr ho rfl (x:=.int i 0) rfl ?_;apply aa;refine gv to rfl ?_;have ei:((i:Int)).toNat=i:=mo i
 dsimp only
 rw[ei,hx];apply aa;refine k9 ho rfl (by simp) ?_;refine au ⟨x,rfl,au (hQ _ ⟨_,fq _ ho rfl,rfl,?_⟩ (o7 _ _ _))⟩;rfl
theorem z40 {it t:Addr}{i:Nat}{items:Array Value}{Q:Value->ae->Prop}(hh:A.handled=none)(hit:s.heap.IsTupleIter it t i)(ht:s.heap.IsTuple t items)(hx:items[i]?=none)
  (hE:∀h' e,Heap.ExtBut it s.heap h'->(∃o,h'.get? e=some o/\o.cls=.type "StopIteration")->E (.ref e) {s with heap:=h'}):wpAny (model prog w) A (cv (.ref it)) Q E s:=by
 have ty:=hit.typeIs;obtain⟨⟨ocls,odict,odata,oslots⟩,ho,hc,hd⟩:=hit;obtain⟨⟨tcls,tdict,tdata,tslots⟩,to,tc,n,td⟩:=ht;cases hc;cases hd;cases tc;cases td;apply aa;refine gb ty F.slot_tuple_iterator_next (i8 F.slot_tuple_iterator_next ty F.entry_tuple_iterator_next ?_ (F.args_tuple_iterator_next_1 _));show wpAny _ _ (field (.ref it) 0>>=_) _ _ _;apply aa;refine dr ho rfl (x:=.ref t) rfl ?_;show wpAny _ _ (field (.ref it) 1>>=_) _ _ _;apply aa;refine dr ho rfl (x:=.int i 0) rfl ?_;apply aa;refine gv to rfl ?_;have ei:((i:Int)).toNat=i:=mo i
 dsimp only
 rw[ei,hx];apply aa;refine ma ?_;apply aa;refine k9 ho rfl (by simp) ?_
 delta Builtin.SmallTypes.stopIteration
 repeat (any_goals (first|assumption|wp_step))
 refine o8 (show A.in1.handled=none from hh) ?_;refine hE _ _ (fun b o hb e=>?_) ⟨_,ba _ rfl,rfl⟩;refine af _ (af _ ?_);rw[lw _ _ _ _ hb];exact e
theorem zjd (hh:A.handled=none)(it t:Addr)(hne:t≠it)(items:Array Value):Draws prog w A it [it,t] items.size (fun i v=>items[i]?=some v) (fun i h=>h.IsTupleIter it t i/\h.IsTuple t items) where
 live:=fun i h st=>let⟨⟨o,ho,_⟩,_⟩:=st;⟨o,ho⟩
 frame:=fun i h h' st k=>by obtain⟨⟨o,ho,r⟩,⟨o2,ho2,r2⟩⟩:=st;exact⟨⟨o,k it (by simp) o ho,r⟩,⟨o2,k t (by simp) o2 ho2,r2⟩⟩
 item:=fun i s1 Q1 E1 hi st hQ=>by refine z8g st.1 st.2 (mj hi) fun h' h1 sb=>?_;obtain⟨o2,ho2,r2⟩:=st.2;exact hQ _ h' s1.toks (mj hi) ⟨h1,⟨o2,sb.extBut t o2 hne ho2,r2⟩⟩ sb
 done:=fun s Q E st hE=>z40 hh st.1 st.2 (Array.getElem?_eq_none (aj _)) hE
end
def IsB (h:Heap)(l:Bool)(a:Addr)(xs:Array Value):Prop:=match l with
 |true=>h.IsList a xs
 |false=>h.IsTuple a xs
def ItB (h:Heap)(l:Bool)(it a:Addr)(i:Nat):Prop:=match l with
 |true=>h.IsListIter it a i
 |false=>h.IsTupleIter it a i
def SqB (K:W.Frag)(H:Hp)(l:Bool)(a:Addr)(vs:List V):Prop:=match l with
 |true=>SqL K H a vs
 |false=>SqT K H a vs
def SrB (K:W.Frag)(H:Hp)(B:Ad->Prop)(l:Bool)(a:Addr)(vs:List V):Prop:=match l with
 |true=>(H a=some (.lst vs)/\B (some a))\/(FL K H a vs/\B none)
 |false=>SqT K H a vs
abbrev itObj (l:Bool)(a:Addr):Obj:={cls:=.type (if l then "list_iterator"else "tuple_iterator"),data:=.fields #[.ref a,.int 0 0]}
theorem SrB.keep {K:W.Frag}{H H2:Hp}{B:Ad->Prop}{l:Bool}{a:Addr}{vs:List V}(h:SrB K H B l a vs)(k:Kp B H H2):SqB K H2 l a vs:=by
 cases l with
 |true=>
  rcases h with⟨h,b⟩|⟨⟨o,h⟩|h,_⟩
  ·exact .inl (.inl (k a _ h (.inl b)))
  ·exact .inl (.inr ⟨o,k a _ h (.inr True.intro)⟩)
  ·exact .inr h
 |false=>exact SqT.keep k h
theorem SrB.of {K:W.Frag}{H:Hp}{B:Ad->Prop}{v:V}{d:D}{xs:List D}(r:Rep K H B v d)(e:seqR d=.ok xs):∃l a vs,v=.ref a/\SrB K H B l a vs/\Reps K H B vs xs/\xs.length<=LIM:=by
 cases d<;>try (exact(z1d e).elim)
 case list ds=>
  have e:(if decide (ds.length<=LIM)=true then Res.ok ds else Res.no)=Res.ok xs:=e;split at e
  ·rename_i hc;cases e;obtain⟨a,vs,rfl,h,rs⟩:=r;exact⟨true,a,vs,rfl,h,rs,tu hc⟩
  ·cases e
 case tuple ds=>
  have e:(if decide (ds.length<=LIM)=true then Res.ok ds else Res.no)=Res.ok xs:=e;split at e
  ·rename_i hc;cases e;obtain⟨a,vs,rfl,h,rs⟩:=r;exact⟨false,a,vs,rfl,h,rs,tu hc⟩
  ·cases e
section
variable {X:Cx}{pins:List (Addr×Obj)}{σ:L2.St}{H:Hp}{s:ae}
theorem SqB.items {l:Bool}{a:Addr}{vs:List V}(I:Inv X pins σ H s)(h:SqB X.K H l a vs):∃its:List Value,Vals vs its/\IsB s.heap l a its.toArray/\vs.length=its.length:=by
 cases l with
 |true=>obtain⟨its,rv,p,_⟩:=I.list h;exact⟨its,rv,p.isList,rv.length⟩
 |false=>obtain⟨its,rv,p,_⟩:=I.tuple h;exact⟨its,rv,p,rv.length⟩
end
theorem z3v {prog:ax}{w:World}{A:cq}(hh:A.handled=none)(l:Bool)(it a:Addr)(hne:a≠it)(items:Array Value):Draws prog w A it [it,a] items.size (fun i v=>items[i]?=some v) (fun i h=>ItB h l it a i/\IsB h l a items):=by
 cases l with
 |true=>exact Draws.list hh it a hne items
 |false=>exact zjd hh it a hne items
theorem ItB.live {h:Heap}{l:Bool}{it a:Addr}{i:Nat}(x:ItB h l it a i):∃o,h.get? it=some o/\∀v,o.data≠.cell v:=by cases l<;>(obtain⟨o,ho,_,hd⟩:=x;exact⟨o,ho,fun v z=>by rw[hd]at z;cases z⟩)
theorem ItB.keep {h h':Heap}{l:Bool}{it a:Addr}{i:Nat}(x:ItB h l it a i)(k:∀o,h.get? it=some o->h'.get? it=some o):ItB h' l it a i:=by cases l<;>(obtain⟨o,ho,r⟩:=x;exact⟨o,k o ho,r⟩)
theorem ItB.new {h:Heap}{l:Bool}{it a:Addr}(x:h.get? it=some (itObj l a)):ItB h l it a 0:=by cases l<;>exact⟨_,x,rfl,rfl⟩
theorem IsB.lt {h:Heap}{l:Bool}{a:Addr}{xs:Array Value}(x:IsB h l a xs):a<h.objs.size:=by cases l<;>(obtain⟨o,ho,_⟩:=x;exact bc ho)
theorem IsB.push {h:Heap}{l:Bool}{a:Addr}{xs:Array Value}(x:IsB h l a xs)(o:Obj):IsB (h.push o) l a xs:=by cases l<;>(obtain⟨q,hq,r⟩:=x;exact⟨q,af _ hq,r⟩)
theorem z7y {prog:ax}{w:World}{A:cq}{E:Value->ae->Prop}{s:ae}{l:Bool}{a:Addr}{xs:Array Value}{Q:Value->ae->Prop}(h:IsB s.heap l a xs)(hQ:Q (.ref s.heap.objs.size) {s with heap:=s.heap.push (itObj l a)}):wpAny (model prog w) A (qq (.ref a)) Q E s:=by
 cases l with
 |true=>exact ku h hQ
 |false=>exact pp h hQ
section
variable {X:Cx}{pins:List (Addr×Obj)}{σ:L2.St}{H:Hp}{s:ae}
theorem _root_.L2.Inv.turnedTL {fp:List Addr}{p:Addr}{h':Heap}{t':Nat}{xs:List V}(I:Inv X pins σ H s)(f:∀b∈fp,FpOk X pins H b)(keep:∀b q,b∉fp->s.heap.get? b=some q->h'.get? b=some q)(hp:s.heap.objs.size<=p)
  (new:z0s X.prog X.w (upd H p (.tup xs)) h' p (.tup xs)):Inv X pins σ (upd H p (.tup xs)) {s with heap:=h',toks:=t'}:=by
 have hn:H p=none:=I.hok.fresh hp;have away:∀b u,H b=some u->b∉fp:=fun b u e1 z=>by rw[(f b z).1]at e1;cases e1
 have loc:X.env.locals∉fp:=fun z=>(f _ z).2.1 rfl;refine I.step (g':=s.gens) (d':=s.drawn) (ch:=fp) (fun b hb=>?_) (fun b q _ _ hc e _=>keep b q hc e) (fun b q _ _ hc e _=>⟨q.slots,keep b q hc e⟩) (fun b q _ e n=>by rw[z01 (cg (bv (bc e) hp))];exact n) (fun b q hc e=>⟨q,keep b q hc e⟩) (fun b xs q=>by rw[z01 (z0b q hn)];exact q) (fun b u xs q=>by rw[z01 (z0b q hn)];exact q) (fun b ps q=>⟨#[],by rw[z01 (z0b q hn),q];simp⟩) (fun m hm=>?_) (fun b u e=>?_) I.bare
 ·obtain⟨f0,f1,f2,f3,f4,f5⟩:=f b hb;exact⟨f3,f1,f4,f5⟩
 ·exact hm.at fun q e=>keep _ q loc e
 ·by_cases hb:b=p
  ·subst hb;rw[z02]at e;cases e;exact new
  ·rw[z01 hb]at e;refine(I.hok b u e).stay (fun c v hc q=>keep c v ?_ q) (fun c q=>by rw[z01 (z0b q hn)];exact q) fun c xs q=>by rw[z01 (z0b q hn)];exact q
   rcases hc with rfl|hc
   ·exact away _ _ e
   ·exact away _ _ hc
theorem _root_.L2.Inv.turnedL {fp:List Addr}{h':Heap}{t':Nat}(I:Inv X pins σ H s)(f:∀b∈fp,FpOk X pins H b)(keep:∀b q,b∉fp->s.heap.get? b=some q->h'.get? b=some q):Inv X pins σ H {s with heap:=h',toks:=t'}:=by
 have away:∀b u,H b=some u->b∉fp:=fun b u e1 z=>by rw[(f b z).1]at e1;cases e1
 have loc:X.env.locals∉fp:=fun z=>(f _ z).2.1 rfl;refine I.step (g':=s.gens) (d':=s.drawn) (ch:=fp) (fun b hb=>?_) (fun b q _ _ hc e _=>keep b q hc e) (fun b q _ _ hc e _=>⟨q.slots,keep b q hc e⟩) (fun b q _ e n=>n) (fun b q hc e=>⟨q,keep b q hc e⟩) (fun b xs q=>q) (fun b u xs q=>q) (fun b ps q=>⟨#[],by rw[q];simp⟩) (fun m hm=>?_) (fun b u e=>?_) I.bare
 ·obtain⟨f0,f1,f2,f3,f4,f5⟩:=f b hb;exact⟨f3,f1,f4,f5⟩
 ·exact hm.at fun q e=>keep _ q loc e
 ·refine(I.hok b u e).stay (fun c v hc q=>keep c v ?_ q) (fun c q=>q) fun c xs q=>q;rcases hc with rfl|hc
  ·exact away _ _ e
  ·exact away _ _ hc
end
theorem z6c {vs:List V}{its:List Value}{i:Nat}{x:Value}(rv:Vals vs its)(hi:i<vs.length)(hx:its.toArray[i]?=some x):∃v,vs[i]?=some v/\RelV v x:=by
 refine⟨vs[i],bg hi,?_⟩;obtain⟨u,e1,e2⟩:=rv.get (bg hi);have hx':its[i]?=some x:=by simpa using hx
 rw[hx']at e1;cases e1;exact e2
def ItE (K:W.Frag)(l:Bool)(t:Addr)(vs:List V):It:=⟨fun i H=>SqB K H l t vs/\i<vs.length,fun i H x H'=>∃p v,vs[i]?=some v/\H p=none/\x=.ref p/\H'=upd H p (.tup [.int i,v]),fun i H=>SqB K H l t vs/\i=vs.length⟩
theorem zbs {P:ax}{w:World}{K:W.Frag}{elts:List Expr}{x1:Nat}{pos:Pos}{l:Bool}{t e it:Addr}{vs:List V}(h1:t≠it)(h2:t≠e)(h3:e≠it):
  Turn P w K (.Tuple elts x1 pos) (ItE K l t vs) [e,it] e (fun i h=>(∃old,IsEnum h e it i old)/\ItB h l it t i) where
 mem:=by simp
 obj:=fun i h st b hb=>by
  obtain⟨⟨old,he⟩,hit⟩:=st;rcases(ak.mp hb)with rfl|hb
  ·exact⟨_,he,fun v z=>by cases z⟩
  ·obtain rfl:b=it:=by simpa using hb
   exact hit.live
 keep:=fun i h h' st k=>by obtain⟨⟨old,he⟩,hit⟩:=st;exact⟨⟨old,k e (by simp) _ he⟩,hit.keep fun o=>k it (by simp) o⟩
 item:=by
  intro X hP hw hK hc i pins s σ H E I hf st hg;subst hP hw hK;obtain⟨hq,hi⟩:=hg;obtain⟨⟨old,he⟩,hit⟩:=st;obtain⟨its,rv,p,hl⟩:=SqB.items I hq;have hA:X.A.in1.handled=none:=I.ok.hd hc;have D:=z3v (prog:=X.prog) (w:=X.w) (A:=X.A.in1) hA l it t h1 its.toArray;have W:=WalksT.enumerateD D e h3 (by simp[h3,Ne.symm h2]) (by simp);obtain⟨oi,hoi,_⟩:=hit.live;refine wpAny_pyNext_enum_itemD D he ⟨hit,p⟩ (by simp;omega) h3 (by simp[h3,Ne.symm h2]) fun x h' tk hx hout hst htup hsz kp=>⟨_,rfl,?_⟩;have hT:s.heap.objs.size≠e/\s.heap.objs.size≠it:=⟨fun z=>de _ (z▸bc he),fun z=>de _ (z▸bc hoi)⟩;refine W.go elts x1 pos i s.heap.objs.size {s with heap:=h',toks:=tk+1} _ _ ⟨⟨x,hout⟩,hst,hT.1,hT.2⟩ fun h'' st'' kp2=>?_;have nw':s.heap.objs.size∉ [e,it]:=by simp[hT.1,hT.2]
  have htup':=kp2 s.heap.objs.size _ nw' htup;have hHp:H s.heap.objs.size=none:=I.hok.fresh (aj _);obtain⟨v,hv,rx⟩:=z6c rv hi hx;have I1:=I.turnedTL (fp:=[e,it]) (t':=tk+1) (xs:=[.int i,v]) (h':=h'') hf (fun b q hb z=>kp2 b q hb (kp b q (fun z=>hb (by simp[z])) (fun z=>hb (by simp[z])) z)) (aj _) ⟨by rw[dq];simp,[.int i tk,x],.cons ⟨tk,rfl⟩ (.cons rx .nil),0,htup'⟩;refine⟨.ref s.heap.objs.size,_,I1,rfl,⟨_,v,hv,hHp,rfl,rfl⟩,⟨st''.1,st''.2.1⟩,fun b hb=>?_⟩;rw[z01 fun z:b=s.heap.objs.size=>nw' (by rw[<-z];exact hb)];exact(hf b hb).1
 done:=by intro X hP hw hK hc i pins s σ H E I hf st hg;subst hP hw hK;obtain⟨hq,hi⟩:=hg;obtain⟨⟨old,he⟩,hit⟩:=st;obtain⟨its,rv,p,hl⟩:=SqB.items I hq;have hA:X.A.in1.handled=none:=I.ok.hd hc;have D:=z3v (prog:=X.prog) (w:=X.w) (A:=X.A.in1) hA l it t h1 its.toArray;have St:ItB s.heap l it t its.toArray.size/\IsB s.heap l t its.toArray:=⟨by rw[ao,<-hl,<-hi];exact hit,p⟩;exact wpAny_pyNext_enum_endD D he St fun h' eb=>⟨rfl,I.turnedL (t':=s.toks) hf fun b o hb z=>eb b o (fun q=>hb (by simp[q])) z⟩
 self:=fun _ _ _ _ _ st h=>by obtain⟨⟨old,he⟩,_⟩:=st;exact qj he h
theorem z5r:∀(xs:List D) (k i:Nat),(z0r k xs)[i]?=(xs[i]?).map fun x=>.tuple [.int ((k+i:Nat):Int),x]
 | [],k,i=>by simp[z0r]
 |x::xs,k,0=>by simp[z0r]
 |x::xs,k,i+1=>by
  rw[z0r,gg,gg,z5r xs (k+1) i];have:k+1+i=k+(i+1):=by omega
  rw[this]
theorem z2f:∀(xs:List D) (k:Nat),(z0r k xs).length=xs.length
 | [],_=>rfl
 |x::xs,k=>by rw[z0r,ay,ay,z2f xs]
theorem z9c {K:W.Frag}{H:Hp}{B:Ad->Prop}{l:Bool}{t:Addr}{vs:List V}{xs:List D}(hq:SrB K H B l t vs)(rs:Reps K H B vs xs)(hz:xs.length<=az):Walk K (ItE K l t vs) B H (z0r 0 xs):=by
 have hl:=rs.length;constructor
 ·rw[z2f];exact hz
 ·intro H2 kp i h;rw[z2f]at h;exact⟨hq.keep kp,by omega⟩
 ·intro H2 kp;exact⟨hq.keep kp,by rw[z2f];exact hl.symm⟩
 ·intro H2 kp i x H3 h y;obtain⟨p,v,hv,hp,rfl,rfl⟩:=y;obtain⟨d,hd,rv⟩:=Reps.getV rs hv;refine⟨Same.upd hp,.tuple [.int i,d],by rw[z5r,hd];simp,p,[.int i,v],rfl,SqT.of z02,?_⟩;refine Reps.cons rfl (Reps.cons ?_ rfl);exact Rep.keep (H':=upd H2 p (.tup [.int i,v])) (fun a q e f=>by have h2:=kp a q e f;rw[z01 (z0b h2 hp)];exact h2) (fun _ z=>z) d rv
theorem z92 (l:Bool)(t:Addr)(items:Array Value):Meets (Builtin.«enumerate.__new__» {pos:=[.type "enumerate",.ref t]}) fun _ R s=>
  IsB s.heap l t items/\R (.ok (.ret (.ref (s.heap.push (itObj l t)).objs.size))) {s with heap:=(s.heap.push (itObj l t)).push {cls:=.type "enumerate",data:=.fields #[.none,.bool false,.ref s.heap.objs.size,jh 0,.none,.none]}}:=by
 rintro prog w A R s ⟨ht,hR⟩
 have sub:=sub_enumerate
 delta Builtin.«enumerate.__new__»
 repeat (any_goals (first|assumption|(apply z7y ht)|wp_step))
 refine wpAny_stack fun st _ _ _=>?_;refine jb (Q:=fun _ s'=>s'=s) (au rfl) (fun b s' hs=>?_) fun _ _ x=>x;subst hs;cases b
 all_goals repeat (any_goals (first|assumption|(apply z7y ht)|wp_step))
 all_goals exact hR
theorem zdd {prog:ax}{w:World}{A:cq}{E:Value->ae->Prop}{s:ae}{l:Bool}{t:Addr}{items:Array Value}{Q:Value->ae->Prop}(ht:IsB s.heap l t items)
  (hQ:Q (.ref (s.heap.push (itObj l t)).objs.size) {s with heap:=(s.heap.push (itObj l t)).push {cls:=.type "enumerate",data:=.fields #[.none,.bool false,.ref s.heap.objs.size,jh 0,.none,.none]}}):wpAny (model prog w) A (call (.type "enumerate") [.ref t]) Q E s:=by
 refine callType_new F.called_enumerate (by decide) (F.typeCall_enumerate_1 _) (F.newCall_enumerate_1 _) (fun obj=>?_) F.entry_enumerate_new (z92 l t items) ⟨ht,⟨_,ba _ rfl,rfl⟩,hQ⟩;exact F.args_object_init_2 _ _
section
variable {X:Cx}{pins:List (Addr×Obj)}{σ:L2.St}
theorem z54 {H1:Hp}{s1:ae}{B:Ad->Prop}{y:V}{v:Value}{d:D}{xs:List D}{R:It->Hp->Prop}{elts:List Expr}{x1:Nat}{tp:Pos}(I1:Inv X pins σ H1 s1)(r1:RelV y v)(rv:Rep X.K H1 B y d)(e:seqR d=.ok xs)(q:∀J,Walk X.K J B H1 (z0r 0 xs)->R J H1):
  wpAny (model X.prog X.w) X.A (call (.type "enumerate") [v]) (fun v' s2=>wpAny (model X.prog X.w) X.A (qq v') (PIE X pins σ (.Tuple elts x1 tp) R) X.xe s2) X.xe s1:=by
 obtain⟨l,t,ts,rfl,hq,rps,hz⟩:=SrB.of rv e;cases r1;obtain⟨its,rvs,pt,_⟩:=SqB.items I1 (hq.keep (Kp.of (Same.refl H1)));refine zdd pt ?_;generalize hR:s1.heap.push (itObj l t)=hp;have szp:hp.objs.size=s1.heap.objs.size+1:=by rw[<-hR];exact n5 _ _
 have I2:Inv X pins σ H1 {s1 with heap:=hp}:=I1.kept (t':=s1.toks) fun b o e=>hR▸af _ e;generalize hR2:hp.push {cls:=.type "enumerate",data:=.fields #[.none,.bool false,.ref s1.heap.objs.size,jh 0,.none,.none]}=hp2;have I3:Inv X pins σ H1 {s1 with heap:=hp2}:=I2.kept (t':=s1.toks) fun b o e=>hR2▸af _ e;have g1:hp2.get? hp.objs.size=some {cls:=.type "enumerate",data:=.fields #[.none,.bool false,.ref s1.heap.objs.size,jh 0,.none,.none]}:=by rw[<-hR2];exact ba _ rfl
 have g2:hp2.get? s1.heap.objs.size=some (itObj l t):=by rw[<-hR2];refine af _ ?_;rw[<-hR];exact ba _ rfl
 have ht:t<s1.heap.objs.size:=pt.lt;refine qj (e:=hp.objs.size) (it:=s1.heap.objs.size) (i:=0) (old:=.none) g1 ?_;refine⟨hp.objs.size,[hp.objs.size,s1.heap.objs.size],_,ItE X.K l t ts,H1,rfl,I3,zbs (cg ht) (cg (lz ht (by rw[szp];exact m7 _))) (by rw[szp];exact Nat.succ_ne_self _),⟨⟨.none,g1⟩,ItB.new g2⟩,fun b hb=>?_,q _ (z9c hq rps (z0n hz))⟩;rcases(ak.mp hb)with rfl|hb
 ·exact I2.fpOk (aj _) (I2.hok.fresh (aj _))
 ·obtain rfl:b=s1.heap.objs.size:=by simpa using hb
  exact I1.fpOk (aj _) (I1.hok.fresh (aj _))
end
def ItZ (K:W.Frag)(l1:Bool)(a1:Addr)(vs:List V)(l2:Bool)(a2:Addr)(ws:List V):It:=⟨fun i H=>SqB K H l1 a1 vs/\SqB K H l2 a2 ws/\i<min vs.length ws.length,fun i H x H'=>∃p v w,vs[i]?=some v/\ws[i]?=some w/\H p=none/\x=.ref p/\H'=upd H p (.tup [v,w]),fun i H=>SqB K H l1 a1 vs/\SqB K H l2 a2 ws/\i=min vs.length ws.length⟩
def ZSt (z TI TO i1 i2:Addr)(l1:Bool)(a1:Addr)(l2:Bool)(a2:Addr)(i:Nat)(h:Heap):Prop:=(∃f0 f1,ZF f0/\h.get? z=some (ZRec TI TO f0 f1))/\PairAt h TI (.ref i1) (.ref i2)/\(∃a b,PairAt h TO a b)/\ItB h l1 i1 a1 i/\ItB h l2 i2 a2 i
theorem zkg {prog:ax}{w:World}{A:cq}{E:Value->ae->Prop}{s:ae}{tg:Expr}{z TI TO T:Addr}{f0:Value}{f1:Bool}{Q:Unit->ae->Prop}(ht:(isTup tg||isNm tg)=true)(hf:ZF f0)(hz:s.heap.get? z=some (ZRec TI TO f0 f1))
  (hQ:∀h' f0',ZF f0'->h'.get? z=some (ZRec TI TO f0' f1)->b9 z s.heap h'->Q () {s with heap:=h'}):wpAny (model prog w) A (ip tg (.ref z) (.ref T)) Q E s:=by
 cases tg<;>first|(cases ht;done)|exact au (hQ s.heap f0 hf hz (Heap.SameBut.refl ..))|skip
 delta ip
 apply aa;refine sf hz ?_;show wpAny _ _ (if(_&&(f0::_:List Value).toArray[0]?==some (jh T))=true then _ else _) Q E s;by_cases hc:(some f0==some (jh T))=true
 ·rw[if_pos (by simpa using hc)];apply aa;refine ma ?_;show wpAny (model prog w) A (setField (.ref z) 0 .none) Q E s;exact e7 hz (by simp) fun h' hz' sb=>hQ h' .none (.inl rfl) hz' sb
 ·rw[if_neg (by simpa using hc)];exact au (hQ s.heap f0 hf hz (Heap.SameBut.refl ..))
theorem zdw {prog:ax}{w:World}{A:cq}{E:Value->ae->Prop}{s:ae}{z TI TO i1 i2:Addr}{p1 p2:List Addr}{n1 n2 i:Nat}{P1 P2:Nat->Value->Prop}{S1 S2:Nat->Heap->Prop}{a b:Value}{f0:Value}{f1:Bool}{Q:Option Value->ae->Prop}(D:ZApart z TI TO i1 i2 p1 p2)(D1:Draws prog w A.in1 i1 p1 n1 P1 S1)(D2:Draws prog w A.in1 i2 p2 n2 P2 S2)(hf:ZF f0)(hz:s.heap.get? z=some (ZRec TI TO f0 f1))(hTI:PairAt s.heap TI (.ref i1) (.ref i2))(hTO:PairAt s.heap TO a b)(h1:S1 i s.heap)(h2:S2 i s.heap)(l1:i<n1)(l2:i<n2)
  (hQ:∀x y h' tk f0' f1' a' b',P1 i x->P2 i y->ZF f0'->h'.get? z=some (ZRec TI TO f0' f1')->PairAt h' TO a' b'->S1 (i+1) h'->S2 (i+1) h'->PairAt h' s.heap.objs.size x y->Zk z TO i1 i2 s.heap h'->Q (some (.ref s.heap.objs.size)) {s with heap:=h',toks:=tk}):wpAny (model prog w) A (qp (.ref z)) Q E s:=by
 have ty:s.TypeIs (.ref z) "zip":=⟨_,hz,rfl⟩
 delta qp
 apply aa;apply wpAny_attempt;refine gb (name:=Str.ofString "__next__") ty F.slot_zip_next (i8 F.slot_zip_next ty F.entry_zip_next ?_ (F.args_zip_next_1 _));exact zcu D D1 D2 hf hz hTI hTO h1 h2 l1 l2 fun x y h' tk f0' f1' a' b' c1 c2 c3 c4 c5 c6 c7 c8 c9=>au (hQ x y h' tk f0' f1' a' b' c1 c2 c3 c4 c5 c6 c7 c8 c9)
theorem zca {prog:ax}{w:World}{A:cq}{E:Value->ae->Prop}{s:ae}{z TI TO i1 i2:Addr}{p1 p2:List Addr}{n1 n2 i:Nat}{P1 P2:Nat->Value->Prop}{S1 S2:Nat->Heap->Prop}{a b:Value}{f0:Value}{f1:Bool}{Q:Option Value->ae->Prop}(D:ZApart z TI TO i1 i2 p1 p2)(D1:Draws prog w A.in1 i1 p1 n1 P1 S1)(D2:Draws prog w A.in1 i2 p2 n2 P2 S2)(hf:ZF f0)(hz:s.heap.get? z=some (ZRec TI TO f0 f1))(hTI:PairAt s.heap TI (.ref i1) (.ref i2))(hTO:PairAt s.heap TO a b)(h1:S1 i s.heap)(h2:S2 i s.heap)(hl:i=min n1 n2)
  (hQ:∀h' tk,Zk z TO i1 i2 s.heap h'->Q none {s with heap:=h',toks:=tk}):wpAny (model prog w) A (qp (.ref z)) Q E s:=by
 have ty:s.TypeIs (.ref z) "zip":=⟨_,hz,rfl⟩
 delta qp
 apply aa;apply wpAny_attempt;refine gb (name:=Str.ofString "__next__") ty F.slot_zip_next (i8 F.slot_zip_next ty F.entry_zip_next ?_ (F.args_zip_next_1 _));refine ziw D D1 D2 hf hz hTI hTO h1 h2 hl fun h' tk e kp he=>?_;obtain⟨o,ho,hc⟩:=he;apply aa;refine wpAny_isInstance (T:="StopIteration") (b:=true) ⟨o,ho,hc⟩ isSubtype_stop ?_;exact au (hQ _ _ kp)
theorem zd9 {P:ax}{w:World}{K:W.Frag}{tg:Expr}{z TI TO i1 i2 a1 a2:Addr}{l1 l2:Bool}{vs ws:List V}(ht:(isTup tg||isNm tg)=true)(D:ZApart z TI TO i1 i2 [i1,a1] [i2,a2])(n1:a1≠i1)(n2:a2≠i2):
  Turn P w K tg (ItZ K l1 a1 vs l2 a2 ws) [z,TI,TO,i1,i2] z (ZSt z TI TO i1 i2 l1 a1 l2 a2) where
 mem:=by simp
 obj:=fun i h st b hb=>by
  obtain⟨⟨f0,f1,_,hz⟩,hTI,⟨a,c,hTO⟩,h1,h2⟩:=st;simp only[d8,ak,or_false]at hb;rcases hb with rfl|rfl|rfl|rfl|rfl
  ·exact⟨_,hz,fun v q=>by cases q⟩
  ·exact⟨_,hTI,fun v q=>by cases q⟩
  ·exact⟨_,hTO,fun v q=>by cases q⟩
  ·exact h1.live
  ·exact h2.live
 keep:=fun i h h' st k=>by obtain⟨⟨f0,f1,hf,hz⟩,hTI,⟨a,c,hTO⟩,h1,h2⟩:=st;exact⟨⟨f0,f1,hf,k z (by simp) _ hz⟩,k TI (by simp) _ hTI,⟨a,c,k TO (by simp) _ hTO⟩,h1.keep fun o=>k i1 (by simp) o,h2.keep fun o=>k i2 (by simp) o⟩
 item:=by
  intro X hP hw hK hc i pins s σ H E I hf st hg;subst hP hw hK;obtain⟨hq1,hq2,hi⟩:=hg;obtain⟨⟨f0,f1,zf,hz⟩,hTI,⟨a,c,hTO⟩,h1,h2⟩:=st;obtain⟨its1,rv1,b1,e1⟩:=SqB.items I hq1;obtain⟨its2,rv2,b2,e2⟩:=SqB.items I hq2;have hA:X.A.in1.handled=none:=I.ok.hd hc;have D1:=z3v (prog:=X.prog) (w:=X.w) (A:=X.A.in1) hA l1 i1 a1 n1 its1.toArray;have D2:=z3v (prog:=X.prog) (w:=X.w) (A:=X.A.in1) hA l2 i2 a2 n2 its2.toArray;refine zdw D D1 D2 zf hz hTI hTO ⟨h1,b1⟩ ⟨h2,b2⟩ (by rw[ao];omega) (by rw[ao];omega) fun x y h' tk f0' f1' a' b' hx hy zf' hz' hTO' st1 st2 new kp=>⟨_,rfl,?_⟩;refine zkg ht zf' hz' fun h'' f0'' zf'' hz'' sb=>?_;have lt:∀{c o},s.heap.get? c=some o->s.heap.objs.size≠c:=fun e q=>de _ (q▸bc e);obtain⟨o1,ho1,_⟩:=h1.live;obtain⟨o2,ho2,_⟩:=h2.live;have nw':s.heap.objs.size∉ [z,TI,TO,i1,i2]:=by simp[lt hz,lt hTI,lt hTO,lt ho1,lt ho2]
  have up:∀c o,c≠z->h'.get? c=some o->h''.get? c=some o:=fun c o hc e=>sb.extBut c o hc e;have new':PairAt h'' s.heap.objs.size x y:=up _ _ (lt hz) new;obtain⟨v,hv,rx⟩:=z6c rv1 (by omega) hx;obtain⟨u,hu,ry⟩:=z6c rv2 (by omega) hy;have hHp:H s.heap.objs.size=none:=I.hok.fresh (aj _);have I1:=I.turnedTL (fp:=[z,TI,TO,i1,i2]) (t':=tk) (xs:=[v,u]) (h':=h'') hf (fun b q hb e=>up b q (fun q=>hb (by simp[q])) (kp b q (fun q=>hb (by simp[q])) (fun q=>hb (by simp[q])) (fun q=>hb (by simp[q])) (fun q=>hb (by simp[q])) e)) (aj _) ⟨by rw[dq];simp,[x,y],.cons rx (.cons ry .nil),0,new'⟩;refine⟨.ref s.heap.objs.size,_,I1,rfl,⟨_,v,u,hv,hu,hHp,rfl,rfl⟩,⟨⟨f0'',f1',zf'',hz''⟩,up _ _ D.TIz (kp _ _ D.TIz D.TITO D.TIi1 D.TIi2 hTI),⟨a',b',up _ _ D.TOz hTO'⟩,st1.1.keep fun o=>up _ o D.i1z,st2.1.keep fun o=>up _ o D.i2z⟩,fun b hb=>?_⟩;rw[z01 fun q:b=s.heap.objs.size=>nw' (by rw[<-q];exact hb)];exact(hf b hb).1
 done:=by intro X hP hw hK hc i pins s σ H E I hf st hg;subst hP hw hK;obtain⟨hq1,hq2,hi⟩:=hg;obtain⟨⟨f0,f1,zf,hz⟩,hTI,⟨a,c,hTO⟩,h1,h2⟩:=st;obtain⟨its1,rv1,b1,e1⟩:=SqB.items I hq1;obtain⟨its2,rv2,b2,e2⟩:=SqB.items I hq2;have hA:X.A.in1.handled=none:=I.ok.hd hc;have D1:=z3v (prog:=X.prog) (w:=X.w) (A:=X.A.in1) hA l1 i1 a1 n1 its1.toArray;have D2:=z3v (prog:=X.prog) (w:=X.w) (A:=X.A.in1) hA l2 i2 a2 n2 its2.toArray;refine zca D D1 D2 zf hz hTI hTO ⟨h1,b1⟩ ⟨h2,b2⟩ (by rw[ao,ao];omega) fun h' tk kp=>⟨rfl,I.turnedL hf fun b q hb e=>?_⟩;exact kp b q (fun q=>hb (by simp[q])) (fun q=>hb (by simp[q])) (fun q=>hb (by simp[q])) (fun q=>hb (by simp[q])) e
 self:=fun _ _ _ _ _ st h=>by obtain⟨⟨f0,f1,_,hz⟩,_⟩:=st;have ty:Shared.TypeIs _ (.ref z) "zip":=⟨_,hz,rfl⟩;refine wpAny_pyIter_slot ty F.slot_zip_iter (i8 F.slot_zip_iter ty F.entry_zip_iter ?_ (F.args_zip_iter_1 _));show wpAny _ _ (ret (.ref z)) _ _ _;exact au ⟨_,rfl,"zip",_,ty,F.slot_zip_next.lookup,h⟩
theorem z7a:∀(xs ys:List D) (i:Nat) {x y:D},xs[i]?=some x->ys[i]?=some y->(zipD xs ys)[i]?=some (.tuple [x,y])
 |x::xs,y::ys,0,_,_,h1,h2=>by cases h1;cases h2;rfl
 |x::xs,y::ys,i+1,_,_,h1,h2=>z7a xs ys i h1 h2
 | [],_,i,_,_,h1,_=>by simp at h1
 |_::_,[],i,_,_,_,h2=>by simp at h2
theorem z2v:∀(xs ys:List D),(zipD xs ys).length=min xs.length ys.length
 | [],_=>by simp[zipD]
 |_::_,[]=>by simp[zipD]
 |x::xs,y::ys=>by show(zipD xs ys).length+1=min (xs.length+1) (ys.length+1);rw[z2v xs ys];omega
theorem zcf {K:W.Frag}{H:Hp}{B:Ad->Prop}{l1 l2:Bool}{a1 a2:Addr}{vs ws:List V}{xs ys:List D}(h1:SrB K H B l1 a1 vs)(h2:SrB K H B l2 a2 ws)(r1:Reps K H B vs xs)(r2:Reps K H B ws ys)(hz:xs.length<=az):Walk K (ItZ K l1 a1 vs l2 a2 ws) B H (zipD xs ys):=by
 have e1:=r1.length;have e2:=r2.length;constructor
 ·rw[z2v];omega
 ·intro H2 kp i h;rw[z2v]at h;exact⟨h1.keep kp,h2.keep kp,by omega⟩
 ·intro H2 kp;exact⟨h1.keep kp,h2.keep kp,by rw[z2v];omega⟩
 ·intro H2 kp i x H3 h y;obtain⟨p,v,u,hv,hu,hp,rfl,rfl⟩:=y;obtain⟨d,hd,rv⟩:=Reps.getV r1 hv;obtain⟨d',hd',rv'⟩:=Reps.getV r2 hu;have kk:∀a q,H a=some q->(B (some a)\/Fix q)->upd H2 p (.tup [v,u]) a=some q:=fun a q e f=>by have h2:=kp a q e f;rw[z01 (z0b h2 hp)];exact h2
  exact⟨Same.upd hp,.tuple [d,d'],z7a xs ys i hd hd',p,[v,u],rfl,SqT.of z02,Reps.cons (Rep.keep kk (fun _ z=>z) d rv) (Reps.cons (Rep.keep kk (fun _ z=>z) d' rv') rfl)⟩
theorem zax (l1 l2:Bool)(a1 a2:Addr)(xs ys:Array Value):Meets (Builtin.«zip.__new__» ⟨[.type "zip",.ref a1,.ref a2],[]⟩) fun _ R s=>IsB s.heap l1 a1 xs/\IsB s.heap l2 a2 ys/\
  ∀h1 h2 h3 h4 h5,h1=s.heap.push (itObj l1 a1)->h2=h1.push (itObj l2 a2)->h3=h2.push {cls:=.type "tuple",data:=.seq #[.ref s.heap.objs.size,.ref h1.objs.size]}->h4=h3.push {cls:=.type "tuple",data:=.seq #[.none,.none]}->h5=h4.push {cls:=.type "zip",data:=.fields #[.none,.bool false,.bool false,.ref h2.objs.size,.ref h3.objs.size]}->R (.ok (.ret (.ref h4.objs.size))) {s with heap:=h5}:=by
 rintro prog w A R s ⟨b1,b2,hR⟩
 have sub:=sub_zip;obtain⟨hp,gs,dp,tk,os⟩:=s;have c1:IsB (Shared.heap ⟨hp,gs,dp,tk,os⟩) l1 a1 xs:=b1;have c2:IsB (Shared.heap ⟨hp.push (itObj l1 a1),gs,dp,tk,os⟩) l2 a2 ys:=b2.push _
 wp_walk using z7y c1,z7y c2
 exact hR _ _ _ _ _ rfl rfl rfl rfl rfl
section
variable {X:Cx}{pins:List (Addr×Obj)}{σ:L2.St}
theorem z86 {H1:Hp}{s1:ae}{B:Ad->Prop}{y1 y2:V}{u1 u2:Value}{d1 d2:D}{xs ys:List D}{R:It->Hp->Prop}{tg:Expr}(ht:(isTup tg||isNm tg)=true)(I1:Inv X pins σ H1 s1)(r1:RelV y1 u1)(r2:RelV y2 u2)(rv1:Rep X.K H1 B y1 d1)(rv2:Rep X.K H1 B y2 d2)(e1:seqR d1=.ok xs)(e2:seqR d2=.ok ys)(q:∀J,Walk X.K J B H1 (zipD xs ys)->R J H1):
  wpAny (model X.prog X.w) X.A (call (.type "zip") [u1,u2]) (fun v' s2=>wpAny (model X.prog X.w) X.A (qq v') (PIE X pins σ tg R) X.xe s2) X.xe s1:=by
 obtain⟨l1,a1,vs,rfl,q1,w1,z1⟩:=SrB.of rv1 e1;obtain⟨l2,a2,ws,rfl,q2,w2,z2⟩:=SrB.of rv2 e2;cases r1;cases r2;obtain⟨its1,_,b1,_⟩:=SqB.items I1 (q1.keep (Kp.of (Same.refl H1)));obtain⟨its2,_,b2,_⟩:=SqB.items I1 (q2.keep (Kp.of (Same.refl H1)));refine callType_new F.called_zip (by decide) (F.typeCall_zip_2 _ _) (F.newCall_zip_2 _ _) (fun obj=>F.args_object_init_3 obj _ _) F.entry_zip_new (zax l1 l2 a1 a2 its1.toArray its2.toArray) ⟨b1,b2,?_⟩;intro h1 h2 h3 h4 h5 k1 k2 k3 k4 k5;have s1z:h1.objs.size=s1.heap.objs.size+1:=by rw[k1];exact n5 _ _
 have s2z:h2.objs.size=s1.heap.objs.size+2:=by rw[k2,n5,s1z]
 have s3z:h3.objs.size=s1.heap.objs.size+3:=by rw[k3,n5,s2z]
 have s4z:h4.objs.size=s1.heap.objs.size+4:=by rw[k4,n5,s3z]
 have p1:∀b o,s1.heap.get? b=some o->h1.get? b=some o:=fun b o e=>by rw[k1];exact af _ e
 have p2:∀b o,h1.get? b=some o->h2.get? b=some o:=fun b o e=>by rw[k2];exact af _ e
 have p3:∀b o,h2.get? b=some o->h3.get? b=some o:=fun b o e=>by rw[k3];exact af _ e
 have p4:∀b o,h3.get? b=some o->h4.get? b=some o:=fun b o e=>by rw[k4];exact af _ e
 have p5:∀b o,h4.get? b=some o->h5.get? b=some o:=fun b o e=>by rw[k5];exact af _ e
 have I5:Inv X pins σ H1 {s1 with heap:=h5}:=I1.kept (t':=s1.toks) fun b o e=>p5 b o (p4 b o (p3 b o (p2 b o (p1 b o e))));have g1:h5.get? s1.heap.objs.size=some (itObj l1 a1):=p5 _ _ (p4 _ _ (p3 _ _ (p2 _ _ (by rw[k1];exact ba _ rfl))));have g2:h5.get? h1.objs.size=some (itObj l2 a2):=p5 _ _ (p4 _ _ (p3 _ _ (by rw[k2];exact ba _ rfl)));have g3:PairAt h5 h2.objs.size (.ref s1.heap.objs.size) (.ref h1.objs.size):=p5 _ _ (p4 _ _ (by rw[k3];exact ba _ rfl));have g4:PairAt h5 h3.objs.size .none .none:=p5 _ _ (by rw[k4];exact ba _ rfl);have g5:h5.get? h4.objs.size=some (ZRec h2.objs.size h3.objs.size .none false):=by rw[k5];exact ba _ rfl
 have t1:a1<s1.heap.objs.size:=b1.lt;have t2:a2<s1.heap.objs.size:=b2.lt;have Da:ZApart h4.objs.size h2.objs.size h3.objs.size s1.heap.objs.size h1.objs.size [s1.heap.objs.size,a1] [h1.objs.size,a2]:=by have nn:∀{i j:Nat},i≠j->s1.heap.objs.size+i≠s1.heap.objs.size+j:=fun h z=>h (Nat.add_left_cancel z);have n0:∀{j:Nat},0≠j->s1.heap.objs.size≠s1.heap.objs.size+j:=fun h=>nn (i:=0) h;have no:∀{x y z:Addr},x≠y->x≠z->x∉ [y,z]:=fun h1 h2 h=>(ak.mp h).elim h1 fun q=>h2 (ce.mp q);have na:∀{a:Addr} {j:Nat},a<s1.heap.objs.size->s1.heap.objs.size+j≠a:=fun h z=>de _ (bv h (z▸jq _ _));rw[s1z,s2z,s3z,s4z];exact⟨nn (by decide),nn (by decide),n0 (by decide),nn (by decide),nn (by decide),(n0 (by decide)).symm,nn (by decide),(n0 (by decide)).symm,nn (by decide),n0 (by decide),no (n0 (by decide)).symm (na t1),no (n0 (by decide)).symm (na t1),no (n0 (by decide)).symm (na t1),no (nn (by decide)) (na t2),no (nn (by decide)) (na t2),no (n0 (by decide)) (na (j:=0) t2)⟩
 have T:=zd9 (P:=X.prog) (w:=X.w) (K:=X.K) (tg:=tg) (l1:=l1) (l2:=l2) (vs:=vs) (ws:=ws) ht Da (cg t1) (by rw[s1z];exact cg (Nat.lt_succ_of_lt t2));have St:ZSt h4.objs.size h2.objs.size h3.objs.size s1.heap.objs.size h1.objs.size l1 a1 l2 a2 0 h5:=⟨⟨.none,false,.inl rfl,g5⟩,g3,⟨_,_,g4⟩,ItB.new g1,ItB.new g2⟩;refine⟨⟨_,g5,rfl⟩,T.self _ 0 _ _ _ St ⟨h4.objs.size,_,_,_,H1,rfl,I5,T,St,fun b hb=>?_,q _ (zcf q1 q2 w1 w2 (z0n z1))⟩⟩
 have hb2:s1.heap.objs.size<=b:=by
  rw[s1z,s2z,s3z,s4z]at hb;simp only[d8,ak,or_false]at hb;rcases hb with rfl|rfl|rfl|rfl|rfl
  ·exact jq _ _
  ·exact jq _ _
  ·exact jq _ _
  ·exact aj _
  ·exact jq _ _
 exact I1.fpOk hb2 (I1.hok.fresh hb2)
end
section
variable {X:Cx}{a b:Expr}{fa fb:Rho->Res GD}{p pos:Pos}
theorem zbl:cz "enumerate"=some (.type "enumerate"):=by decide+kernel
theorem zf3:cz "zip"=some (.type "zip"):=by decide+kernel
theorem zg7 (hs:isStar a=false)(ha:PE X a (tD X.K fa)):PA X [a] (tDA X.K fun ρ=>fa ρ>>=fun x=>.ok [x]):=by refine PA.imp (za5 hs ha zlm) fun σ H Q ⟨ρ,F,z,so,e,q⟩=>⟨ρ,F,z,so,?_,q⟩;obtain⟨x,e1,e⟩:=Res.bind_ok e;show(fa ρ>>=fun x=>Res.ok []>>=fun xs=>Res.ok (x::xs))=_;rw[e1];exact e
theorem zlh (hs:isStar a=false)(hs2:isStar b=false)(ha:PE X a (tD X.K fa))(hb:PE X b (tD X.K fb)):PA X [a,b] (tDA X.K fun ρ=>fa ρ>>=fun x=>fb ρ>>=fun y=>.ok [x,y]):=by refine PA.imp (za5 hs ha (zg7 hs2 hb)) fun σ H Q ⟨ρ,F,z,so,e,q⟩=>⟨ρ,F,z,so,?_,q⟩;obtain⟨x,e1,e⟩:=Res.bind_ok e;obtain⟨y,e2,e⟩:=Res.bind_ok e;show(fa ρ>>=fun x=>(fb ρ>>=fun y=>Res.ok [y])>>=fun xs=>Res.ok (x::xs))=_;rw[e1,Res.ok_bind,e2];exact e
theorem zlp {fs:Rho->Res GD}{ρ:Rho}{ys:List GD}(h:(fs ρ>>=fun x=>Res.ok [x])=.ok ys):∃x,fs ρ=.ok x/\ys=[x]:=by obtain⟨x,e,h⟩:=Res.bind_ok h;cases h;exact⟨x,e,rfl⟩
theorem z47 {K:W.Frag}{F:Fm}{H H1:Hp}{σ:L2.St}{ρ:Rho}{x:GD}{xs:List D}{v:V}(so:StOk K F H σ ρ)(hc:z3l x=true)(e:seqR x.2=.ok xs)(rv:Rep K H1 (BG F H x.1) v x.2):∃B,Rep K H1 B v x.2/\(∀a,B (some a)->F.O a=none)/\∀a,B a->BI F .al a:=by
 obtain⟨g,d⟩:=x;cases d<;>try (exact(z1d e).elim)
 case list ds=>
  have hg:g≠.al:=fun z=>by subst z;cases hc
  exact⟨_,rv,fun a h=>z4n so hg h,fun a h=>BI.of so.vis (g:=.al) (BG.vis so.vis h)⟩
 case tuple ds=>
  rcases d9.mp (show(!(g==.al)||imm (.tuple ds))=true from hc)with hg|hi
  ·have hg:g≠ .al:=fun z=>by subst z;cases hg
   exact⟨_,rv,fun a h=>z4n so hg h,fun a h=>BI.of so.vis (g:=.al) (BG.vis so.vis h)⟩
  ·exact⟨fun _=>False,Rep.immB _ hi rv,fun _ h=>h.elim,fun _ h=>h.elim⟩
theorem zkm {ρ:Rho}{ys:List GD}(h:(fa ρ>>=fun x=>fb ρ>>=fun y=>Res.ok [x,y])=.ok ys):∃x y,fa ρ=.ok x/\fb ρ=.ok y/\ys=[x,y]:=by obtain⟨x,e,h⟩:=Res.bind_ok h;obtain⟨y,e2,h⟩:=Res.bind_ok h;cases h;exact⟨x,y,e,e2,rfl⟩
theorem zqm {tg:Expr}(ht:(isTup tg||isNm tg)=true)(hm:X.mg "zip"=none)(hg:Gl X "zip")(hs:isStar a=false)(hs2:isStar b=false)(ha:PE X a (tD X.K fa))(hb:PE X b (tD X.K fb)):PI X tg (.Call (.Name "zip" p) [a,b] [] pos) (tDW X.K fun ρ=>fa ρ>>=fun x=>fb ρ>>=fun y=>seqR x.2>>=fun xs=>seqR y.2>>=fun ys=>.ok (.al,zipD xs ys)):=by intro pins s σ H R I h;obtain⟨ρ,F,w,so,e,q⟩:=h;obtain⟨x,e1,e⟩:=Res.bind_ok e;obtain⟨y,e2,e⟩:=Res.bind_ok e;obtain⟨xs,e3,e⟩:=Res.bind_ok e;obtain⟨ys,e4,e⟩:=Res.bind_ok e;cases e;refine Call_ (z20 I hg hm zf3 (PyProof.Rows.callWith_type1 (thn (zlh hs hs2 ha hb pos pins s σ H (fun vs H1=>Same H H1/\RGs X.K F H H1 vs [x,y]) I ⟨ρ,F,[x,y],so,by show(fa ρ>>=fun x=>fb ρ>>=fun y=>Res.ok [x,y])=_;rw[e1,Res.ok_bind,e2];rfl,fun vs H1 s1 rs=>⟨s1,rs⟩⟩) fun us s1 ⟨vs,H1,I1,r1,sm,rs⟩=>?_) (z06 hs) (by rw[z06 hs2];rfl)));obtain⟨v1,v2,rfl,rv1,rv2⟩:=rs.two;obtain⟨u1,u2,rfl,ru1,ru2⟩:=vals2 r1;have q1:=(Rep.there _ rv1).weak (B':=fun c=>visA F c/\¬nw H1 c) fun c z=>⟨BG.vis so.vis z.1,z.2⟩;have q2:=(Rep.there _ rv2).weak (B':=fun c=>visA F c/\¬nw H1 c) fun c z=>⟨BG.vis so.vis z.1,z.2⟩;exact z86 ht I1 ru1 ru2 q1 q2 e3 e4 fun J wk=>q J _ H1 sm (fun c z=>z) wk
theorem zih {tg:Expr}(ht:(isTup tg||isNm tg)=true)(hm:X.mg "zip"=none)(hg:Gl X "zip")(hs:isStar a=false)(hs2:isStar b=false)(ha:PE X a (tD X.K fa))(hb:PE X b (tD X.K fb)):PI X tg (.Call (.Name "zip" p) [a,b] [] pos) (tDF X.K fun ρ=>(fa ρ>>=fun x=>fb ρ>>=fun y=>.ok [x,y])>>=fun ys=>evZi ys ρ):=by
 intro pins s σ H R I h;obtain⟨ρ,F,w,so,e,q⟩:=h;obtain⟨zs,e0,e⟩:=Res.bind_ok e;obtain⟨x,y,e1,e2,rfl⟩:=zkm e0;have e:(if(z3l x&&z3l y)=true then(seqR x.2>>=fun xs=>seqR y.2>>=fun zs=>Res.ok (G.al,zipD xs zs,ρ))else Res.no)=Res.ok w:=e;split at e
 case isFalse=>cases e
 rename_i hc;obtain⟨c1,c2⟩:=aw.mp hc;obtain⟨xs,e3,e⟩:=Res.bind_ok e;obtain⟨ys,e4,e⟩:=Res.bind_ok e;cases e;refine Call_ (z20 I hg hm zf3 (PyProof.Rows.callWith_type1 (thn (zlh hs hs2 ha hb pos pins s σ H (fun vs H1=>Same H H1/\RGs X.K F H H1 vs [x,y]) I ⟨ρ,F,[x,y],so,by show(fa ρ>>=fun x=>fb ρ>>=fun y=>Res.ok [x,y])=_;rw[e1,Res.ok_bind,e2];rfl,fun vs H1 s1 rs=>⟨s1,rs⟩⟩) fun us s1 ⟨vs,H1,I1,r1,sm,rs⟩=>?_) (z06 hs) (by rw[z06 hs2];rfl)));obtain⟨v1,v2,rfl,rv1,rv2⟩:=rs.two;obtain⟨u1,u2,rfl,ru1,ru2⟩:=vals2 r1;obtain⟨B1,k1,k2,k3⟩:=z47 so c1 e3 rv1;obtain⟨B2,m1,m2,m3⟩:=z47 so c2 e4 rv2;have q1:=k1.weak (B':=fun c=>B1 c\/B2 c) fun c z=>.inl z;have q2:=m1.weak (B':=fun c=>B1 c\/B2 c) fun c z=>.inr z;exact z86 ht I1 ru1 ru2 q1 q2 e3 e4 fun J wk=>q J _ H1 F sm Run.refl (Frm.same sm) (so.same sm) (fun c z=>z.elim (k2 c) (m2 c)) (fun c z=>z.elim (k3 c) (m3 c)) wk
theorem z9k {elts:List Expr}{x1:Nat}{tp:Pos}(hm:X.mg "enumerate"=none)(hg:Gl X "enumerate")(hs:isStar a=false)(ha:PE X a (tD X.K fa)):PI X (.Tuple elts x1 tp) (.Call (.Name "enumerate" p) [a] [] pos) (tDW X.K fun ρ=>fa ρ>>=fun x=>seqR x.2>>=fun xs=>.ok (.al,z0r 0 xs)):=by intro pins s σ H R I h;obtain⟨ρ,F,w,so,e,q⟩:=h;obtain⟨x,e1,e⟩:=Res.bind_ok e;obtain⟨xs,e2,e⟩:=Res.bind_ok e;cases e;refine Call_ (z20 I hg hm zbl (PyProof.Rows.callWith_type1 (thn (zg7 hs ha pos pins s σ H (fun vs H1=>Same H H1/\RGs X.K F H H1 vs [x]) I ⟨ρ,F,[x],so,by show(fa ρ>>=fun x=>Res.ok [x])=_;rw[e1];rfl,fun vs H1 s1 rs=>⟨s1,rs⟩⟩) fun us s1 ⟨vs,H1,I1,r1,sm,rs⟩=>?_) (z06 hs) rfl));obtain⟨v,rfl,rv⟩:=rs.one;obtain⟨u,rfl,ru⟩:=vals1 r1;exact z54 I1 ru (Rep.there _ rv) e2 fun J wk=>q J _ H1 sm (fun c z=>⟨BG.vis so.vis z.1,z.2⟩) wk
theorem zj7 {elts:List Expr}{x1:Nat}{tp:Pos}(hm:X.mg "enumerate"=none)(hg:Gl X "enumerate")(hs:isStar a=false)(ha:PE X a (tD X.K fa)):PI X (.Tuple elts x1 tp) (.Call (.Name "enumerate" p) [a] [] pos) (tDF X.K fun ρ=>(fa ρ>>=fun x=>.ok [x])>>=fun ys=>evEn ys ρ):=by
 intro pins s σ H R I h;obtain⟨ρ,F,w,so,e,q⟩:=h;obtain⟨ys,e0,e⟩:=Res.bind_ok e;obtain⟨x,e1,rfl⟩:=zlp e0;have e:(if z3l x=true then(seqR x.2>>=fun xs=>Res.ok (G.al,z0r 0 xs,ρ))else Res.no)=Res.ok w:=e;split at e
 case isFalse=>cases e
 rename_i hc;obtain⟨xs,e2,e⟩:=Res.bind_ok e;cases e;refine Call_ (z20 I hg hm zbl (PyProof.Rows.callWith_type1 (thn (zg7 hs ha pos pins s σ H (fun vs H1=>Same H H1/\RGs X.K F H H1 vs [x]) I ⟨ρ,F,[x],so,by show(fa ρ>>=fun x=>Res.ok [x])=_;rw[e1];rfl,fun vs H1 s1 rs=>⟨s1,rs⟩⟩) fun us s1 ⟨vs,H1,I1,r1,sm,rs⟩=>?_) (z06 hs) rfl));obtain⟨v,rfl,rv⟩:=rs.one;obtain⟨u,rfl,ru⟩:=vals1 r1;obtain⟨B,rB,hB,hV⟩:=z47 so hc e2 rv;exact z54 I1 ru rB e2 fun J wk=>q J B H1 F sm Run.refl (Frm.same sm) (so.same sm) hB hV wk
end
abbrev bmV:List Value:=[.type "ValueError",.type "Exception",.type "BaseException",.type "object"]
abbrev exV (K:W.Frag)(C:Addr):Bool:=W.excIn K C bmV "ValueError.__new__"
def exW (K:W.Frag)(C:Addr):Bool:=match K.lookup C with
 |some ⟨.type "type",_,.cls cd,sl⟩=>(match cd.mro,sl.toList with
  |.ref D::bm,[_,_,_,_,some (.builtin n),_]=>(D==C)&&(n=="ValueError.__new__")&& !cd.hasDel&&W.tailIn K bmV bm&&W.nsOkIn K cd.ns
  |_,_=>false)
 |_=>false
def XC (C:Addr)(h:Heap)(bm:List Value):Prop:=∃N nm q bs hdct sn sub ab col dd k0 k1 k2 k3 k5 mN,h.get? C=some (mq nm q C N bs bm hdct sn sub ab col dd k0 k1 k2 k3 k5 "ValueError.__new__")/\h.Ns N mN/\ox h bmV bm
def XC0 (C:Addr)(h:Heap)(bm:List Value):Prop:=∃N nm q bs hdct sn sub ab col dd k0 k1 k2 k3 k5 mN,h.get? C=some (mq nm q C N bs bm hdct sn sub ab col dd k0 k1 k2 k3 k5 "ValueError.__new__")/\h.Ns N mN/\mN "__init__"=none/\ox h bmV bm
theorem z2z {a b:Bool}:(a&&b)=true->a=true/\b=true:=aw.mp
theorem zk8 {K:W.Frag}{C:Addr}(q:exV K C=true):exW K C=true/\∀dd cd sl,K.lookup C=some ⟨.type "type",dd,.cls cd,sl⟩->W.nsIn K cd.ns "__init__"=some none:=by
 unfold exV W.excIn at q;unfold exW;split at q
 ·rename_i dd cd sl ho;split at q
  ·rename_i A bm y0 y1 y2 y3 n y5 hm hs;obtain⟨q,q6⟩:=z2z q;refine⟨?_,fun dd' cd' sl' e=>by rw[ho]at e;cases e;exact t8 q6⟩;simp only[ho,hm,hs];exact q
  ·cases q
 ·cases q
theorem z1b {K:W.Frag}{C:Addr}(q:exW K C=true):∃dd cd bm k0 k1 k2 k3 k5,K.lookup C=some ⟨.type "type",dd,.cls cd,#[k0,k1,k2,k3,some (.builtin "ValueError.__new__"),k5]⟩/\cd.mro=.ref C::bm/\cd.hasDel=false/\W.tailIn K bmV bm=true/\W.nsOkIn K cd.ns=true:=by
 unfold exW at q;split at q
 ·rename_i dd cd sl ho;split at q
  ·rename_i A bm y0 y1 y2 y3 n y5 hm hs;obtain⟨q,q5⟩:=z2z q;obtain⟨q,q4⟩:=z2z q;obtain⟨q,q3⟩:=z2z q;obtain⟨q1,q2⟩:=z2z q;have e1:A=C:=t8 q1;have e2:n="ValueError.__new__":=t8 q2;have e3:sl=#[y0,y1,y2,y3,some (.builtin n),y5]:=Array.toList_inj.mp (by rw[hs]);refine⟨dd,cd,bm,y0,y1,y2,y3,y5,?_,?_,?_,q4,q5⟩
   ·rw[ho,e3,e2]
   ·rw[hm,e1]
   ·cases hd:cd.hasDel with
    |false=>rfl
    |true=>rw[hd]at q3;cases q3
  ·cases q
 ·cases q
theorem z89 {K:W.Frag}{C:Addr}{dd:Option Addr}{cd:ClassData}{sl:Array (Option Value)}{bm:List Value}{v:Value}{b:Bool}(ho:K.lookup C=some ⟨.type "type",dd,.cls cd,sl⟩)(hm:cd.mro=.ref C::bm)(e:W.subIn K (.ref C) v=some b):(Value.ref C::bm).contains v=b:=by
 have e:W.mroIn K C v=some b:=e;unfold W.mroIn W.clsIn at e;rw[ho]at e
 dsimp only[Option.bind_some]at e
 rw[hm]at e;exact Option.some.inj e
theorem XC.mk {K:W.Frag}{C:Addr}{h:Heap}(X:K.In h)(q:exW K C=true):∃bm,XC C h bm/\∀v b,W.subIn K (.ref C) v=some b->(Value.ref C::bm).contains v=b:=by
 obtain⟨dd,cd,bm,k0,k1,k2,k3,k5,ho,hm,hd,ht,hk⟩:=z1b q;refine⟨bm,⟨cd.ns,cd.name,cd.qualname,cd.bases,cd.hasDict,cd.slotNames,cd.subclasses,cd.abstract,cd.collection,dd,k0,k1,k2,k3,k5,h.nsMap cd.ns,?_,.of_isNs (W.isNs_of_in X hk),W.tail_of_in X ht⟩,fun v b e=>z89 ho hm e⟩;have h2:=X _ _ ho;cases cd
 dsimp only at hm hd
 rw[hm,hd]at h2;exact h2
theorem XC0.mk {K:W.Frag}{C:Addr}{h:Heap}(X:K.In h)(q:exV K C=true):∃bm,XC0 C h bm:=by
 obtain⟨qw,qi⟩:=zk8 q;obtain⟨dd,cd,bm,k0,k1,k2,k3,k5,ho,hm,hd,ht,hk⟩:=z1b qw;refine⟨bm,cd.ns,cd.name,cd.qualname,cd.bases,cd.hasDict,cd.slotNames,cd.subclasses,cd.abstract,cd.collection,dd,k0,k1,k2,k3,k5,h.nsMap cd.ns,?_,.of_isNs (W.isNs_of_in X hk),W.nsMap_none_of_in X hk (qi _ _ _ ho),W.tail_of_in X ht⟩;have h2:=X _ _ ho;cases cd
 dsimp only at hm hd
 rw[hm,hd]at h2;exact h2
section
variable {M:Model}{A:cq}{E:Value->ae->Prop}{h:Heap}{g:Array mz}{d:Drawn}{t:Nat}{os:ll}{C B e:Addr}{bm bm':List Value}{oe:Obj}{Q:Bool->ae->Prop}
theorem z5n {l:List Value}(T:ox h bmV l):l.contains (.type "BaseException")=true:=T.hasType rfl
theorem ze2 (hC:XC C h bm)(hB:XC B h bm')(he:h.get? e=some oe)(hc:oe.cls=.ref C)(hin:(Value.ref C::bm).contains (.ref B)=true)(hq:Q true ⟨h,g,d,t,os⟩):wpAny M A (pv (.ref e) (.ref B)) Q E ⟨h,g,d,t,os⟩:=by
 obtain⟨_,_,_,_,_,_,_,_,_,_,_,_,_,_,_,_,oC,_,_⟩:=hC;obtain⟨_,_,_,_,_,_,_,_,_,_,_,_,_,_,_,_,oB,_,tB⟩:=hB;have hcB:(Value.ref B::bm').contains (.type "BaseException")=true:=by rw[mf,z5n tB,qk]
 have f:=tc_notTuple;unfold pv
 repeat (first|(with_reducible refine bx he ?_;rw[hc])|with_reducible refine bx oB ?_|(with_reducible refine i7 oB ?_;rw[hcB])|(with_reducible refine i7 oC ?_;rw[hin])|wp_step)
 exact hq
end
section
variable {prog:ax}{w:World}{A:cq}{E:Value->ae->Prop}{K:W.Frag}{h:Heap}{g:Array mz}{d:Drawn}{t:Nat}{os:ll}{C e:Addr}{oe:Obj}
structure XA (K:W.Frag)(C:Addr):Prop where
 cl:W.findIn K (.ref C) "__class__"=some (some (.builtin "object.__class__"))
 ga:W.findIn K (.ref C) "__getattribute__"=some (some (.builtin "BaseException.__getattribute__"))
 gt:W.findIn K (.ref C) "__getattr__"=some none
 ob:W.subIn K (.ref C) (.type "object")=some true
 be:W.subIn K (.ref C) (.type "BaseException")=some true
 ty:W.typeIn K (.ref C)=some (.type "type")
 is:(W.clsIn K C).isSome=true
 ex:exW K C=true
theorem z5b {M:Model}(he:h.get? e=some oe)(hc:oe.cls=.ref C):W.Looks M h (sr (.ref e)) (.ref C):=by intro A Q E s k q;unfold sr;refine aa (wpAny_loadPart (k _ _ he) ?_);rw[hc];exact au q
theorem zpz {R:qr->ae->Prop}{tp:Value}(X:K.In h)(a:XA K C)(he:h.get? e=some oe)(hc:oe.cls=.ref C)(hq:R (.ok (.ret (.ref C))) ⟨h,g,d,t,os⟩):
  ky (model prog w) A (.call (.builtin "getset_descriptor.__get__") ⟨[.builtin "object.__class__",.ref e,tp],[]⟩) R ⟨h,g,d,t,os⟩:=by
 have l0:=z5b (M:=model prog w) he hc;have l1:=W.looks_subIn (M:=model prog w) X a.ob;refine jm W.KF.slot_gs.plain W.KF.entry_gs ?_;refine W.KF.slot_gs.check _ _ _ _ _ _ _ _ W.KF.type_class (W.KF.args_gs _ _ _) ?_;unfold Builtin.«getset_descriptor.__get__» Builtin.Getset_descriptor.descrGet;rw[W.dga_obj];refine aa (au ?_);unfold Builtin.Getset_descriptor.descrGetter Builtin.Getset_descriptor.descrCheckInstance Builtin.Getset_descriptor.descrNameAndClass mh;simp only[W.KF.owner_class]
 repeat lk
 refine⟨Code.quiet_builtin _ (by decide+kernel),?_⟩;refine codeAny_builtin W.KF.entry_class ?_;unfold Builtin.«object.__class__»;unfold shownTypeOf;repeat lk
 exact hq
theorem ziu {tk:Tok}{Q:Fin->ae->Prop}(X:K.In h)(a:XA K C)(he:h.get? e=some oe)(hc:oe.cls=.ref C)(hq:Q (.done (.ret (.ref C))) ⟨h,g,d,t,os⟩):
  wpAny (model prog w) A (Builtin.«object.__getattribute__» ⟨[.ref e,.str "__class__" tk],[]⟩) Q E ⟨h,g,d,t,os⟩:=by
 have hT:(⟨h,g,d,t,os⟩:ae).TypeIs (.builtin "object.__class__") "getset_descriptor":=F.typeOf_object_class;have⟨f5,f6,f7⟩:=And.intro F.typeOf_object_class (And.intro F.slot_gs_get.lookup F.slot_gs_set.lookup);have l0:=W.looks_findIn (M:=model prog w) X a.cl
 repeat (any_goals (first|assumption|(with_reducible refine bx he ?_;rw[hc])|with_reducible refine l0.at ?_|wp_step))
 refine zpz X a he hc ?_
 repeat' first|assumption|wp_step
theorem x_call {tk:Tok}{R:qr->ae->Prop}(X:K.In h)(a:XA K C)(he:h.get? e=some oe)(hc:oe.cls=.ref C)(hq:R (.ok (.ret (.ref C))) ⟨h,g,d,t,os⟩):
  ky (model prog w) A (.call (.builtin "BaseException.__getattribute__") ⟨[.ref e,.str "__class__" tk],[]⟩) R ⟨h,g,d,t,os⟩:=by
 refine jm F.excAttr_ValueError.ga.plain F.entry_bexc_ga ?_;have l1:=W.looks_subIn (M:=model prog w) X a.be;have ar:=F.args_bexc_ga (.ref e) (.str "__class__" tk);have z1:qy "BaseException.__getattribute__"=some .slot:=by decide+kernel
 have z2:splitId "BaseException.__getattribute__"=some ("BaseException","__getattribute__"):=by decide+kernel
 simp only[li,z1,z2];refine aa ?_;unfold mh
 repeat (first|(with_reducible refine ziu X a he hc ?_;exact hq)|(with_reducible refine bx he ?_;rw[hc])|with_reducible refine l1.at ?_|wp_step)
theorem x_by {tk:Tok}{Q:Value->ae->Prop}(X:K.In h)(a:XA K C)(he:h.get? e=some oe)(hc:oe.cls=.ref C)(hq:Q (.ref C) ⟨h,g,d,t,os⟩):
  wpAny (model prog w) A (getAttrBy (.ref e) (.str "__class__" tk) false) Q E ⟨h,g,d,t,os⟩:=by
 have f3:=F.excAttr_ValueError.ga.bind (.ref e);have x2:(Value.builtin "BaseException.__getattribute__"==Value.builtin "object.__getattribute__")=false:=by decide+kernel
 have x1:(onTheHeap (Value.ref C)&&Value.builtin "BaseException.__getattribute__"==Value.builtin "object.__getattribute__")=false:=by rw[x2];rfl
 have l1:=W.looks_findIn (M:=model prog w) X a.ga;have l2:=W.looks_findIn (M:=model prog w) X a.gt
 repeat (any_goals (first|assumption|(with_reducible refine bx he ?_;rw[hc])|with_reducible refine l1.at ?_|with_reducible refine l2.at ?_|wp_step))
 refine x_call X a he hc ?_
 repeat' first|assumption|wp_step
theorem zko {Q:Option Value->ae->Prop}(X:K.In h)(a:XA K C)(he:h.get? e=some oe)(hc:oe.cls=.ref C)(hq:Q (some (.ref C)) ⟨h,g,d,t+1,os⟩):wpAny (model prog w) A (getAttr? (.ref e) "__class__") Q E ⟨h,g,d,t,os⟩:=by
 unfold getAttr? getAttrBy?
 repeat (any_goals (first|assumption|with_reducible apply x_by X a he hc|wp_step))
theorem zm5 {b:Bool}(q:exW K C=true)(e:W.subIn K (.ref C) (.ref C)=some b):b=true:=by obtain⟨dd,cd,bm,k0,k1,k2,k3,k5,ho,hm,_⟩:=z1b q;rw[<-z89 ho hm e,mf,beq_self_eq_true,Bool.true_or]
structure XV (K:W.Frag)(v:Value):Prop where
 ty:∀(M:Model) (h:Heap),K.In h->W.Looks M h (sr v) (.type "type")
 is:∀(M:Model) (h:Heap),K.In h->W.Looks M h (isType v) true
theorem z84 {M:Model}{D:Addr}(X:K.In h)(q:(W.clsIn K D).isSome=true):W.Looks M h (isType (.ref D)) true:=by
 unfold W.clsIn at q;split at q
 ·rename_i ho;intro A Q E s k z;unfold isType;refine aa (sf (k _ _ (X _ _ ho)) ?_);exact au z
 ·cases q
theorem XV.own {D:Addr}(t:W.typeIn K (.ref D)=some (.type "type"))(q:(W.clsIn K D).isSome=true):XV K (.ref D):=⟨fun M h X=>W.looks_typeIn X t,fun M h X=>z84 X q⟩
theorem XV.val:XV K (.type "ValueError"):=⟨fun M h X=>W.Looks.of_pure (by kernel_rfl),fun M h X=>W.Looks.of_pure rfl⟩
theorem zpe {v:Value}{b:Bool}{dep:Int}{tk:Tok}{Q:Fin->ae->Prop}(X:K.In h)(a:XA K C)(he:h.get? e=some oe)(hc:oe.cls=.ref C)(hv:XV K v)(hs:W.subIn K (.ref C) v=some b)(h1:Q (.done (.ret (.bool b))) ⟨h,g,d,t,os⟩)(h2:Q (.done (.ret (.bool b))) ⟨h,g,d,t+1,os⟩):
  wpAny (model prog w) A (Builtin.«isinstance.nested» ⟨[.ref e,v,.int dep tk],[]⟩) Q E ⟨h,g,d,t,os⟩:=by
 have l0:=z5b (M:=model prog w) he hc;have l1:=hv.ty (model prog w) h X;have l2:=hv.is (model prog w) h X;have l4:=W.looks_subIn (M:=model prog w) X hs;have l3:W.Looks (model prog w) h (mh (.ref e) v) b:=l0.andThen l4;have l5:=z84 (M:=model prog w) X a.is;unfold Builtin.«isinstance.nested»;refine aa (l0.at ?_);by_cases q:(Value.ref C==v)=true
 ·rw[if_pos q];have hb:b=true:=by cases t8 q;exact zm5 a.ex hs
  subst hb;exact aa (ma (aa (au (au h1))))
 ·rw[if_neg q];refine aa (l1.at ?_);rw[if_pos (beq_self_eq_true _)]
  k_delta "plainIsInstance"
  refine aa (aa (l2.at ?_));rw[if_neg (by decide)];refine aa (l3.at ?_);cases b with
  |true=>rw[if_pos rfl];exact au (au h1)
  |false=>rw[if_neg (by decide)];refine aa (zko X a he hc ?_);refine aa (l5.at ?_);rw[if_neg (by decide)];refine aa (ma ?_);exact l4.at (au h2)
theorem zoc {v:Value}{b:Bool}{Q:Value->ae->Prop}{s:ae}(X:K.In s.heap)(a:XA K C)(he:s.heap.get? e=some oe)(hc:oe.cls=.ref C)(hv:XV K v)(hs:W.subIn K (.ref C) v=some b)(hq:∀t',Q (.bool b) {s with toks:=t'}):
  wpAny (model prog w) A (call (.builtin "isinstance") [.ref e,v]) Q E s:=
 call_isinstance (S:=fun _ R s=>(K.In s.heap/\s.heap.get? e=some oe)/\∀t',R (.ok (.ret (.bool b))) {s with toks:=t'}) (fun _ _ _ _ s hs'=>isinstance_outer (by obtain⟨h,g,d,t,os⟩:=s;exact zpe hs'.1.1 a hs'.1.2 hc hv hs (hs'.2 t) (hs'.2 (t+1))) nofun) ⟨⟨X,he⟩,hq⟩
end
theorem ze8 (f:Array Value->Array Value)(o:Obj):(Obj.mapFields f o).dict=o.dict:=by unfold Obj.mapFields;split<;>rfl
def TrD (h base:Heap)(e:Addr)(cls:Value)(dd:Option Addr)(fl:Value):Prop:=∃ob vs T tr ts,h.get? e=some ob/\ob.cls=cls/\ob.dict=dd/\ob.data=.fields vs/\vs[1]?=some (.ref T)/\base.get? T=none/\T≠e/\h.get? T=some tr/\tr.data=.fields ts/\ts[3]?=some fl
def FlD (base:Heap)(l:List Env)(e:Addr)(cls:Value)(dd:Option Addr)(h:Heap):Prop:=base.StaysIn h/\base.get? e=none/\h.FunFrames base l/\TrD h base e cls dd .none
def HeD (base:Heap)(l:List Env)(e:Addr)(cls:Value)(dd:Option Addr)(L:Addr)(h:Heap):Prop:=base.StaysIn h/\base.get? e=none/\h.FunFrames base l/\TrD h base e cls dd (jh L)
theorem FlD.first {base h:Heap}{l:List Env}{e:Addr}{cls:Value}{dd:Option Addr}(x:FlD base l e cls dd h):∃ob vs,h.get? e=some ob/\ob.cls=cls/\ob.dict=dd/\ob.data=.fields vs:=by obtain⟨_,_,_,ob,vs,_,_,_,h1,h2,h3,h4,_⟩:=x;exact⟨ob,vs,h1,h2,h3,h4⟩
section
variable {M:Model}{A:cq}{E:Value->ae->Prop}{s:ae}{base:Heap}{env:Env}{outer l:List Env}{L e:Addr}{Q:Unit->ae->Prop}{cls:Value}{dd:Option Addr}
theorem z78 {ob:Obj}{vs:Array Value}{head:Value}{hn:Bool}(fr:A.frames=some (env::outer))(ff:s.heap.FunFrames base (env::outer))(el:env.frame=some L)(ge:s.heap.get? e=some ob)(st:base.StaysIn s.heap)(be:base.get? e=none)(da:ob.data=.fields vs)(sz:1<vs.size)
  (go:∀h',base.StaysIn h'->h'.FunFrames base (env::outer)->TrD h' base e ob.cls ob.dict (jh L)->s.heap.UpToSlots h'->Q () {s with heap:=h'}):
  wpAny M A (do
   let a <-frameOf env
   let pl <-entryPlaceOf L hn
   let b <-EntryCells.newEntry head a .none (jh L) .none pl
   setField (.ref e) 1 b) Q E s:=by
 have nof:e∉(env::outer).filterMap (·.frame):=fun z=>by obtain⟨_,o,q,n⟩:=ff.mem z;rw[ge]at q;cases q;exact n vs da
 refine aa (wpAny_frameOf_fun fr ff el fun h1 k1=>aa (wpAny_entryPlaceOf fun pl hp=>?_));unfold EntryCells.newEntry newFields;refine aa (iz ?_ (hp.sizeOk5 _ _ _ _ _));have ge1:h1.get? e=some ob:=by rw[k1.2.1 e nof];exact ge
 have st1:base.StaysIn h1:=fun b o q=>by rw[k1.2.1 b fun z=>by rw[(ff.mem z).1]at q;cases q];exact st b o q
 generalize ht:({cls:=.type "traceback",dict:=none,data:=.fields ([head,.ref L,.none,jh L,.none]++(if pl.isEmpty then bj 6 Value.none else pl)).toArray}:Obj)=tr;have ge2:=af (h:=h1) tr ge1;have Te:h1.objs.size≠e:=fun z=>absurd (bc ge1) (by rw[z];exact de _);refine k9 ge2 da sz (go _ ?_ ?_ ?_ ?_)
 all_goals generalize hg:(fun v:Array Value=>v.setIfInBounds 1 (Value.ref h1.objs.size))=g
 all_goals
  have dm:=Obj.data_mapFields da g;have ge3:=fq (Obj.mapFields g) ge2 (Obj.isFreed_of_fields dm);have T3:((h1.push tr).update e (Obj.mapFields g)).get? h1.objs.size=some tr:=by rw[fk _ _ (Ne.symm Te)];exact ba h1 (by rw[<-ht];rfl)
  have keep:∀b o,b≠e->h1.get? b=some o->((h1.push tr).update e (Obj.mapFields g)).get? b=some o:=fun b o n q=>by rw[fk _ _ (Ne.symm n)];exact af _ q
  have norec:∀b o,s.heap.get? b=some o->(∀vs,o.data≠.fields vs)->b≠e:=fun b o q n z=>by rw[z,ge]at q;cases q;exact n vs da
 ·exact fun b o q=>keep b o (fun z=>by rw[z,be]at q;cases q) (st1 b o q)
 ·refine ff.of_keeps fun b o q n=>?_;obtain⟨sl,z⟩:=k1.2.2 b o q;exact⟨_,keep b _ (norec b o q n) z,rfl⟩
 ·refine⟨_,_,h1.objs.size,tr,_,ge3,Obj.cls_mapFields _ _,ze8 _ _,dm,?_,st1.fresh,Te,T3,by rw[<-ht],?_⟩
  ·rw[<-hg];simp[sz]
  ·first|(simp;done)|(rcases hp with rfl|⟨_,_,_,_,_,_,_,rfl⟩<;>simp)
 ·exact fun b o q n=>by obtain⟨sl,z⟩:=k1.2.2 b o q;exact⟨sl,keep b _ (norec b o q n) z⟩
theorem zd4 {ob:Obj}{vs:Array Value}(fr:A.frames=some (env::outer))(ff:s.heap.FunFrames base (env::outer))(el:env.frame=some L)(ge:s.heap.get? e=some ob)(st:base.StaysIn s.heap)(be:base.get? e=none)(da:ob.data=.fields vs)(v1:vs[1]?=some .none)
  (go:∀h',base.StaysIn h'->h'.FunFrames base (env::outer)->TrD h' base e ob.cls ob.dict (jh L)->s.heap.UpToSlots h'->Q () {s with heap:=h'}):wpAny M A (jg (.ref e) env) Q E s:=by
 unfold jg;simp only[el];refine aa (dr ge da v1 ?_);rw[if_neg (by decide)];exact z78 fr ff el ge st be da (gz.mp v1).1 go
theorem zgm (fr:A.frames=some (env::outer))(ff:s.heap.FunFrames base (env::outer))(el:env.frame=some L)(tr:TrD s.heap base e cls dd .none)(st:base.StaysIn s.heap)(be:base.get? e=none)
  (go:∀h',base.StaysIn h'->h'.FunFrames base (env::outer)->TrD h' base e cls dd (jh L)->s.heap.UpToSlots h'->Q () {s with heap:=h'}):wpAny M A (jg (.ref e) env) Q E s:=by
 obtain⟨ob,vs,T,oT,ts,ge,rfl,rfl,da,v1,bT,Te,gT,dT,t3⟩:=tr;unfold jg;simp only[el];refine aa (dr ge da v1 ?_);rw[if_pos (show(Value.ref T != Value.none)=true by simp)];refine aa (dr gT dT t3 ?_);rw[if_neg (show ¬((Value.none==jh L)=true) by simp[jh])];refine aa (k9 gT dT (gz.mp t3).1 ?_);generalize hg:(fun v:Array Value=>v.setIfInBounds 3 Value.none)=g;have oth:∀b,b≠T->(s.heap.update T (Obj.mapFields g)).get? b=s.heap.get? b:=fun b n=>fk _ _ (Ne.symm n);have norec:∀b o,s.heap.get? b=some o->(∀vs,o.data≠.fields vs)->b≠T:=fun b o q n z=>by rw[z,gT]at q;cases q;exact n ts dT
 refine z78 (s:={s with heap:=s.heap.update T (Obj.mapFields g)}) fr (ff.of_keeps fun b o q n=>⟨o,by rw[<-q];exact oth b (norec b o q n),rfl⟩) el ((oth e (Ne.symm Te)).trans ge) (fun b o q=>(oth b fun z=>by rw[z,bT]at q;cases q).trans (st b o q)) be da (gz.mp v1).1 fun h' k1 k2 k3 k4=>go h' k1 k2 k3 fun b o q n=>k4 b o ((oth b (norec b o q n)).trans q) n
theorem zam {fl:Value}(st:base.StaysIn s.heap)(ff:s.heap.FunFrames base l)(tr:TrD s.heap base e cls dd fl)
  (go:∀h',base.StaysIn h'->h'.FunFrames base l->TrD h' base e cls dd .none->s.heap.UpToSlots h'->Q () {s with heap:=h'}):wpAny M A (jr (.ref e) none) Q E s:=by
 obtain⟨ob,vs,T,oT,ts,ge,hc,hd,da,v1,bT,Te,gT,dT,t3⟩:=tr;have sz:=(gz.mp t3).1;unfold jr;refine aa (dr ge da v1 ?_);rw[if_pos (show(Value.ref T != Value.none)=true by simp)];refine k9 gT dT sz ?_;generalize hg:(fun v:Array Value=>v.setIfInBounds 3 ((none:Option Addr).elim Value.none fun f=>jh f))=g;have oth:∀b,b≠T->(s.heap.update T (Obj.mapFields g)).get? b=s.heap.get? b:=fun b n=>fk _ _ (Ne.symm n);have norec:∀b o,s.heap.get? b=some o->(∀vs,o.data≠.fields vs)->b≠T:=fun b o q n z=>by rw[z,gT]at q;cases q;exact n ts dT
 refine go _ (fun b o q=>(oth b fun z=>by rw[z,bT]at q;cases q).trans (st b o q)) (ff.of_keeps fun b o q n=>⟨o,(oth b (norec b o q n)).trans q,rfl⟩) ⟨ob,vs,T,_,_,(oth e (Ne.symm Te)).trans ge,hc,hd,da,v1,bT,Te,fq _ gT (Obj.isFreed_of_fields (Obj.data_mapFields dT _)),Obj.data_mapFields dT _,by rw[<-hg];simp[sz]⟩ fun b o q n=>⟨o.slots,(oth b (norec b o q n)).trans q⟩
theorem z7q (fr:A.frames=some (env::outer))(el:env.frame=some L)(fl:FlD base (env::outer) e cls dd s.heap)
  (go:∀h',HeD base (env::outer) e cls dd L h'->s.heap.UpToSlots h'->Q () {s with heap:=h'}):wpAny M A (jg (.ref e) env) Q E s:=by
 obtain⟨f1,f2,f3,f4⟩:=fl;exact zgm fr f3 el f4 f1 f2 fun h' k1 k2 k3 k4=>go h' ⟨k1,f2,k2,k3⟩ k4
theorem z7i (x:HeD base l e cls dd L s.heap)(go:∀h',FlD base l e cls dd h'->s.heap.UpToSlots h'->Q () {s with heap:=h'}):wpAny M A (jr (.ref e) none) Q E s:=by obtain⟨f1,f2,f3,f4⟩:=x;exact zam f1 f3 f4 fun h' k1 k2 k3 k4=>go h' ⟨k1,f2,k2,k3⟩ k4
theorem zdn (x:FlD base l e cls dd s.heap)(go:∀h',FlD base l e cls dd h'->s.heap.UpToSlots h'->Q () {s with heap:=h'}):wpAny M A (jr (.ref e) none) Q E s:=by obtain⟨f1,f2,f3,f4⟩:=x;exact zam f1 f3 f4 fun h' k1 k2 k3 k4=>go h' ⟨k1,f2,k2,k3⟩ k4
theorem zcm (fr:A.frames=some (env::outer))(el:env.frame=some L)(fl:FlD base (env::outer) e cls dd s.heap)
  (go:∀h',FlD base outer e cls dd h'->s.heap.UpToSlots h'->Q () {s with heap:=h'}):wpAny M A (nv env (.ref e)) Q E s:=by
 unfold nv;refine aa (z7q fr el fl fun h1 k1 u1=>z7i k1 fun h2 k2 u2=>?_);obtain⟨f1,f2,⟨_,_,f3⟩,f4⟩:=k2;exact go h2 ⟨f1,f2,f3,f4⟩ (u1.trans u2)
theorem za8 {ob:Obj}{vs:Array Value}(fr:A.frames=some (env::outer))(ff:s.heap.FunFrames base (env::outer))(el:env.frame=some L)(ge:s.heap.get? e=some ob)(st:base.StaysIn s.heap)(be:base.get? e=none)(da:ob.data=.fields vs)(v1:vs[1]?=some .none)
  (go:∀h',FlD base outer e ob.cls ob.dict h'->s.heap.UpToSlots h'->Q () {s with heap:=h'}):wpAny M A (nv env (.ref e)) Q E s:=by
 unfold nv;refine aa (zd4 fr ff el ge st be da v1 fun h1 k1 k2 k3 u1=>zam k1 k2 k3 fun h2 j1 j2 j3 u2=>?_);obtain⟨_,_,f3⟩:=j2;exact go h2 ⟨j1,be,f3,j3⟩ (u1.trans u2)
end
structure Fly (P:ax)(w:World)(base:Heap)(outer:List Env)(H:Hp)(s:ae)(C a:Addr)(H':Hp)(s':ae)(dd:Option Addr):Prop where
 os:s'.os=s.os
 bare:ly s'.gens
 tups:∀b xs,H b=some (.tup xs)->H' b=some (.tup xs)
 frzs:∀b o u,H b=some (.frz o u)->H' b=some (.frz o u)
 tbls:∀b ps,H b=some (.tbl ps)->∃more,H' b=some (.tbl (ps++more))
 free:∀b o,s.heap.get? b=some o->H b=none->H' b=none
 hh:∃B,base.StaysIn B/\HOk P w H' B/\(∀b o,s.heap.get? b=some o->b∉frs outer->∃o',B.get? b=some o'/\(H b=none->o'=o))/\FlD B outer a (.ref C) dd s'.heap
 slot:∀b o,s.heap.get? b=some o->H b=none->b∈frs outer->∃sl,s'.heap.get? b=some {o with slots:=sl}
def CXE (P:ax)(w:World)(base:Heap):CXT:=fun outer H s E e s'=>∃a C dd H',e=.ref a/\Fly P w base outer H s C a H' s' dd/\E (.ref C) dd H'
theorem z62 {P:ax}{w:World}{H:Hp}{h:Heap}{a:Addr}{o:HO}(x:z0s P w H h a o):∃ob,h.get? a=some ob:=by
 cases o with
 |lst xs=>obtain⟨_,_,_,_,e⟩:=x;exact⟨_,e⟩
 |tup xs=>obtain⟨_,_,_,_,e⟩:=x;exact⟨_,e⟩
 |dK kvs=>obtain⟨_,_,_,_,o,_,_,e,_⟩:=x;exact⟨_,e⟩
 |dT kvs=>obtain⟨_,_,_,_,o,_,_,e,_⟩:=x;exact⟨_,e⟩
 |set S n=>obtain⟨o,_,_,_,e,_⟩:=x;exact⟨_,e⟩
 |ins C dx fs=>obtain⟨_,_,_,e,_⟩:=x;exact⟨_,e⟩
 |own y=>exact x
 |xd fs=>obtain⟨_,⟨_,_,_,e,_⟩,_⟩:=x;exact⟨_,e⟩
 |frz ob u=>exact⟨_,x.1⟩
 |tbl ps=>exact⟨_,x⟩
 |ext φ=>exact x.2.1
section
variable {P:ax}{w:World}{base:Heap}{outer:List Env}{H H':Hp}{s s':ae}{C a:Addr}{dd:Option Addr}
theorem Fly.hok (f:Fly P w base outer H s C a H' s' dd):HOk P w H' s'.heap:=by obtain⟨B,_,hB,_,fl⟩:=f.hh;exact hB.kept fl.1
theorem Fly.un (f:Fly P w base outer H s C a H' s' dd):Un (frs outer) [] H H' s.heap s'.heap:=by
 obtain⟨B,_,hB,cov,fl⟩:=f.hh;refine⟨fun b o e n hb _=>?_,fun b o e n hb _=>f.slot b o e n hb,fun b o e n _=>f.free b o e n,fun b o e _=>?_,f.tups,f.frzs,f.tbls⟩
 ·obtain⟨o',e1,e2⟩:=cov b o e hb;rw[e2 n]at e1;exact fl.1 b o e1
 ·by_cases hb:b∈frs outer
  ·obtain⟨_,o3,e3,_⟩:=fl.2.2.1.mem hb;exact⟨o3,e3⟩
  ·obtain⟨o',e1,_⟩:=cov b o e hb;exact⟨o',fl.1 b o' e1⟩
end
section
variable {X:Cx}{pins:List (Addr×Obj)}{σ:L2.St}{H H':Hp}{s s':ae}{C a:Addr}{dd:Option Addr}
theorem Fly.inv (f:Fly X.prog X.w X.base X.stack H s C a H' s' dd)(I:Inv X pins σ H s):Inv X pins σ H' s':=by obtain⟨h',g,d,t,o⟩:=s';obtain rfl:o=s.os:=f.os;exact I.call (h':=h') (g':=g) (d':=d) (t':=t) (ch:=[]) f.un f.hok f.bare fun b z=>nomatch z
theorem Fly.leave {M:Model}{outer:List Env}{Q:Unit->ae->Prop}{E:Value->ae->Prop}(f:Fly X.prog X.w X.base X.stack H s C a H' s' dd)(I:Inv X pins σ H s)(hs:X.stack=X.env::X.outer)(hf:X.env.frame=some X.env.locals)(hx:X.ex=[])
  (hQ:∀s'',Fly X.prog X.w X.base X.outer X.H₀ X.s₀ C a H' s'' dd->Q () s''):wpAny M X.A (nv X.env (.ref a)) Q E s':=by
 obtain⟨B,hb,hB,cov,fl⟩:=f.hh;rw[hs]at fl;have hfr:X.A.frames=some (X.env::X.outer):=by rw[<-hs];exact I.ok.frames
 have u0:=I.base
 have notF:∀b o,X.s₀.heap.get? b=some o->b∉frs X.outer->b∉frs X.stack:=fun b o e hn z=>by
  rw[hs]at z;unfold frs at z hn;rw[d5,hf]at z;rcases ak.mp z with z|z
  ·exact absurd (bc e) (by rw[z];exact Nat.not_lt.mpr I.ok.above)
  ·exact hn z
 have slot:∀h',s'.heap.UpToSlots h'->∀b o,X.s₀.heap.get? b=some o->X.H₀ b=none->b∈frs X.outer->∃sl,h'.get? b=some {o with slots:=sl}:=fun h' up b o e n hn=>by
  have nx:b∉X.ex:=by rw[hx];simp
  obtain⟨sl,e1⟩:=I.base.slot b o e n hn nx;have hst:b∈frs X.stack:=by rw[hs];unfold frs;rw[d5,hf];exact ah _ hn
  obtain⟨sl2,e2⟩:=f.slot b _ e1 (I.base.free b o e n nx) hst;obtain⟨_,o3,e3,nd⟩:=I.ok.funs.mem hn;rw[e]at e3;cases e3;obtain⟨sl3,e4⟩:=up b _ e2 nd;exact⟨sl3,e4⟩
 refine zcm hfr hf fl fun h' fl' up=>hQ _ ⟨f.os.trans I.os,f.bare,fun b xs e=>f.tups b xs (u0.tups b xs e),fun b o u e=>f.frzs b o u (u0.frzs b o u e),fun b ps e=>?_,fun b o e n=>?_,⟨B,hb,hB,fun b o e hn=>?_,fl'⟩,slot h' up⟩
 ·obtain⟨m1,e1⟩:=u0.tbls b ps e;obtain⟨m2,e2⟩:=f.tbls b _ e1;exact⟨m1++m2,by rw[e2,l6]⟩
 ·have nx:b∉X.ex:=by rw[hx];simp
  obtain⟨o',e'⟩:=I.base.there b o e nx;exact f.free b o' e' (I.base.free b o e n nx)
 ·have nx:b∉X.ex:=by rw[hx];simp
  obtain⟨o1,e1⟩:=I.base.there b o e nx;obtain⟨o2,e2,e3⟩:=cov b o1 e1 (notF b o e hn);refine⟨o2,e2,fun n=>?_⟩;rw[e3 (I.base.free b o e n nx)];have:=I.base.keep b o e n hn nx;rw[this]at e1;cases e1;rfl
theorem zcv {P:ax}{w:World}{H:Hp}{h:Heap}{l:List Addr}(x:HOk P w H h)(n:∀b∈l,H b=none):HOk P w H (W.hideAll h l):=fun b o e=>by
 refine(x b o e).stay (fun c u hc q=>W.hideAll_get _ q fun z=>?_) (fun _ q=>q) fun _ _ q=>q;rcases hc with rfl|hc
 ·rw[n c z]at e;cases e
 ·rw[n c z]at hc;cases hc
theorem z5l {M:Model}{Q:Unit->ae->Prop}{E:Value->ae->Prop}{ob:Obj}{vs:Array Value}(I:Inv X pins σ H s)(h0:X.s₀.heap.get? a=none)(hH:H a=none)(ge:s.heap.get? a=some ob)(hc:ob.cls=.ref C)(da:ob.data=.fields vs)(v1:vs[1]?=some .none)(hs:X.stack=X.env::X.outer)(hf:X.env.frame=some X.env.locals)(hx:X.ex=[])
  (hQ:∀s'',Fly X.prog X.w X.base X.outer X.H₀ X.s₀ C a H s'' ob.dict->Q () s''):wpAny M X.A (nv X.env (.ref a)) Q E s:=by
 have hfr:X.A.frames=some (X.env::X.outer):=by rw[<-hs];exact I.ok.frames
 have nx:∀b,b∉X.ex:=fun b=>by rw[hx];simp
 have hst:=I.stack;rw[hs]at hst
 have hfree:∀b∈a::frs (X.env::X.outer),H b=none:=fun b hb=>by
  rcases ak.mp hb with rfl|hb
  ·exact hH
  ·exact I.stkFree b (by rw[hs];exact hb)
 have hin:∀env∈X.env::X.outer,∀b,env.frame=some b->b∈a::frs (X.env::X.outer):=fun env he b hb=>ah _ (l8.mpr ⟨env,he,hb⟩)
 have notF:∀b o,X.s₀.heap.get? b=some o->b∉frs X.outer->b∉a::frs (X.env::X.outer):=fun b o e hn z=>by
  rcases ak.mp z with rfl|z
  ·rw[h0]at e;cases e
  unfold frs at z hn;rw[d5,hf]at z;rcases ak.mp z with z|z
  ·exact absurd (bc e) (by rw[z];exact Nat.not_lt.mpr I.ok.above)
  ·exact hn z
 have hbase:X.base.StaysIn (W.hideAll s.heap (a::frs (X.env::X.outer))):=fun b o e=>W.hideAll_get _ (I.bk b o e) (notF b o (I.ok.bs b o e).1 (I.ok.nofr e));have ha:(W.hideAll s.heap (a::frs (X.env::X.outer))).get? a=none:=W.hideAll_none _ ai;refine za8 (base:=W.hideAll s.heap (a::frs (X.env::X.outer))) hfr (W.funFrames_hide hst hin) hf ge (fun b o q=>W.of_hideAll _ q) ha da v1 fun h' fl up=>hQ _ ⟨I.os,I.bare,I.base.tups,I.base.frzs,I.base.tbls,fun b o e n=>I.base.free b o e n (nx b),⟨_,hbase,zcv I.hok hfree,fun b o e hn=>?_,by rw[hc]at fl;exact fl⟩,fun b o e n hn=>?_⟩
 ·obtain⟨o1,e1⟩:=I.base.there b o e (nx b);refine⟨o1,W.hideAll_get _ e1 (notF b o e hn),fun n=>?_⟩;rw[I.base.keep b o e n hn (nx b)]at e1;cases e1;rfl
 obtain⟨sl,e1⟩:=I.base.slot b o e n hn (nx b);obtain⟨_,o3,e3,nd⟩:=I.ok.funs.mem hn;rw[e]at e3;cases e3;obtain⟨sl3,e4⟩:=up b _ e1 nd;exact⟨sl3,e4⟩
theorem z97 {M:Model}{Q:Unit->ae->Prop}{E:Value->ae->Prop}{args:List Value}{h1:Heap}(I:Inv X pins σ H s)(hm:la s.heap h1 a (.ref C) args)(hs:X.stack=X.env::X.outer)(hf:X.env.frame=some X.env.locals)(hx:X.ex=[])
  (hQ:∀s'',Fly X.prog X.w X.base X.outer X.H₀ X.s₀ C a H s'' none->Q () s''):wpAny M X.A (nv X.env (.ref a)) Q E {s with heap:=h1}:=by
 obtain⟨t,he,_,_⟩:=hm.there
 have h0:X.s₀.heap.get? a=none:=by
  cases e:X.s₀.heap.get? a with
  |none=>rfl
  |some o=>obtain⟨o',e'⟩:=I.base.there a o e (by rw[hx];simp);rw[hm.new]at e';cases e'
 have hH:H a=none:=by
  cases e:H a with
  |none=>rfl
  |some o=>obtain⟨ob,q⟩:=z62 (I.hok a o e);rw[hm.new]at q;cases q
 exact z5l (s:={s with heap:=h1}) (I.kept (t':=s.toks) hm.keeps) h0 hH he rfl rfl rfl hs hf hx hQ
end
structure Lv (X:Cx)(H0:Hp)(c:Str):Prop where
 made:∀pins σ H s a C args h',Inv X pins σ H s->X.mg c=some (.ref C)->Same H0 H->la s.heap h' a (.ref C) args->X.xe (.ref a) {s with heap:=h'}
 fly:∀pins σ H s a C H' s',Inv X pins σ H s->X.mg c=some (.ref C)->Same H0 H'->Fly X.prog X.w X.base X.stack H s C a H' s' none->X.xe (.ref a) s'
theorem Lv.mono {X:Cx}{H0 H1:Hp}{c:Str}(l:Lv X H0 c)(h:Same H0 H1):Lv X H1 c:=⟨fun pins σ H s a C args h' I m z=>l.made pins σ H s a C args h' I m (h.trans z),fun pins σ H s a C H' s' I m z=>l.fly pins σ H s a C H' s' I m (h.trans z)⟩
def Rz (X:Cx)(f:Rho->Option Str)(σ:L2.St)(H:Hp):Prop:=∃ρ F c,StOk X.K F H σ ρ/\f ρ=some c/\Lv X F.H0 c
def tR (X:Cx)(f:Rho->Option Str):TE:=fun σ H _=>Rz X f σ H
def tRT (X:Cx)(f:Rho->Option Str):TT:=fun σ H _=>Rz X f σ H
def tRA (X:Cx)(f:Rho->Option Str):TA:=fun σ H _=>Rz X f σ H
def tRS (X:Cx)(f:Rho->Option Str):TS:=fun _ σ H=>Rz X f σ H
def spX (K:W.Frag)(mg:Str->Option Value)(n:Nat)(m:Fn):Sp:=fun vs H _ E=>∃A ds c,vs.length=n/\Reps K H A vs ds/\excOf (m ds)=some c/\∀C H',mg c=some (.ref C)->Same H H'->E (.ref C) none H'
def CalX (P:ax)(w:World)(K:W.Frag)(mg:Str->Option Value)(base:Heap)(k:Nat)(x:Str)(ps:List Str)(n:Nat)(m:Fn):Prop:=∃f fd,FnOk P w K mg base (CXE P w base) k f fd ps (spX K mg n m)/\mg x=some (.ref f)/\W.keepIn K (.ref f)=true/\Binds K fd ps []
section
variable {X:Cx}{e:Expr}{es:List Expr}{pos:Pos}
theorem z5v {f:Rho->Option Str}(h:∀ρ,f ρ=none)(σ:L2.St)(H:Hp):¬Rz X f σ H:=fun⟨ρ,F,c,_,e,_⟩=>by rw[h ρ]at e;cases e
theorem z8l {x c:Str}{k k' n:Nat}{ps:List Str}{m:Fn}{fs:Rho->Res (List GD)}{p:Pos}{pins:List (Addr×Obj)}{s:ae}{σ:L2.St}{H:Hp}{ρ:Rho}{F:Fm}{ys:List GD}(Cc:CalX X.prog X.w X.K X.mg X.base k x ps n m)(hr:Room k' X.A)(hk:k<=k')(ha:PA X (e::es) (tDA X.K fs))(hst:((e::es).all fun e=> !isStar e)=true)(hg:Gl X x)(hdb:(x==("__debug__":Str))=false)
  (hl:∀ρ ys,fs ρ=.ok ys->ys.length=n) (I:Inv X pins σ H s) (so:StOk X.K F H σ ρ) (e2:fs ρ=.ok ys) (e3:excOf (m (ys.map (·.2)))=some c)
  (hE:∀H1 s1 C a H' s',Inv X pins σ H1 s1->Same H H1->X.mg c=some (.ref C)->Same H1 H'->Fly X.prog X.w X.base X.stack H1 s1 C a H' s' none->X.xe (.ref a) s'):wpAny (model X.prog X.w) X.A (eval (.Call (.Name x p) (e::es) [] pos) X.env) (fun _ _=>False) X.xe s:=by
 obtain⟨f,fd,Fo,hm,kp,b⟩:=Cc;rw[bz,aq]at hst;refine fv (z1t I hg hm ?_ hdb);refine W.callWith_K (h₀:=X.base) I.ok.mod.kin kp (thn (ha pos pins s σ H (fun vs H1=>Same H H1/\RGs X.K F H H1 vs ys) I ⟨ρ,F,ys,so,e2,fun vs H1 s1 rg=>⟨s1,rg⟩⟩) fun us s1 zz=>?_) (z06 (by simpa using hst.1)) (z0k hst.2);obtain⟨vs,H1,I1,r,z1,rg⟩:=zz;refine⟨I1.kIn,?_⟩;have hsp:spX X.K X.mg n m vs H1 (fun _ _=>False) (fun v dd H'=>dd=none/\X.mg c=some v/\Same H1 H'):=⟨_,_,c,by rw[rg.len];exact hl ρ ys e2,rg.repsV so.vis,e3,fun C H' hC sm=>⟨rfl,hC,sm⟩⟩;have hlen:us.length=ps.length:=by rw[<-r.length];exact Fo.len _ _ _ _ hsp
 have hb:=b s1 us I1.kIn (by rw[dj];exact hlen);rw[dj]at hb;refine nr (jp (Fo.run X.A X.stack s1 H1 ⟨us,[]⟩ us vs _ _ (hr.mono hk) I1.env0 hb r hsp) fun rr s' hq=>?_);cases rr with
 |error e'=>obtain⟨a,C,dd,H',rfl,fl,rfl,q1,q2⟩:=hq;exact hE H1 s1 C a H' s' I1 z1 q1 q2 fl
 |ok fl=>
  cases fl with
  |ret u=>obtain⟨_,_,_,_,_,_,_,z⟩:=hq;exact z.elim
  |next=>exact hq.elim
  |brk=>exact hq.elim
  |cont=>exact hq.elim
theorem zgp {x:Str}{k k' n:Nat}{ps:List Str}{m:Fn}{fs:Rho->Res (List GD)}{fx:Rho->Option Str}{p:Pos}(Cc:CalX X.prog X.w X.K X.mg X.base k x ps n m)(hr:Room k' X.A)(hk:k<=k')(ha:PA X (e::es) (tDA X.K fs))(hx:PA X (e::es) (tRA X fx))(hst:((e::es).all fun e=> !isStar e)=true)(hg:Gl X x)(hdb:(x==("__debug__":Str))=false)
  (hl:∀ρ ys,fs ρ=.ok ys->ys.length=n):PE X (.Call (.Name x p) (e::es) [] pos) (tR X fun ρ=>match fs ρ with|.ok ys=>excOf (m (ys.map (·.2)))|_=>fx ρ):=by
 intro pins s σ H Q I hq;obtain⟨ρ,F,c,so,e1,lv⟩:=hq;have e1:(match fs ρ with|.ok ys=>excOf (m (ys.map (·.2)))|_=>fx ρ)=some c:=e1
 have raw:(∃ys,fs ρ=.ok ys/\excOf (m (ys.map (·.2)))=some c)\/fx ρ=some c:=by
  cases e2:fs ρ with
  |ok ys=>rw[e2]at e1;exact .inl ⟨ys,rfl,e1⟩
  |exc z=>rw[e2]at e1;exact .inr e1
  |no=>rw[e2]at e1;exact .inr e1
 rcases raw with⟨ys,e2,e3⟩|e2
 ·exact thn (z8l Cc hr hk ha hst hg hdb hl I so e2 e3 fun H1 s1 C a H' s' I1 z1 q1 sm fl=>lv.fly pins σ H1 s1 a C H' s' I1 q1 (Same.trans so.ext (z1.trans sm)) fl) fun _ _ z=>z.elim
 ·obtain⟨f,fd,Fo,hm,kp,b⟩:=Cc;rw[bz,aq]at hst;refine fv (z1t I hg hm ?_ hdb);refine W.callWith_K (h₀:=X.base) I.ok.mod.kin kp (thn (hx pos pins s σ H (fun _ _=>False) I ⟨ρ,F,c,so,e2,lv⟩) fun us s1 q=>?_) (z06 (by simpa using hst.1)) (z0k hst.2);obtain⟨vs,H1,I1,r,q⟩:=q;exact q.elim
theorem ziy {fa:Rho->Res GD}{fx fr:Rho->Option Str}(hs:isStar e=false)(ha:PE X e (tD X.K fa))(hx:PE X e (tR X fx))(hr:PA X es (tRA X fr)):PA X (e::es) (tRA X fun ρ=>match fa ρ with|.ok _=>fr ρ|_=>fx ρ):=by
 intro pos pins s σ H Q I hq;obtain⟨ρ,F,c,so,e1,lv⟩:=hq;have e1:(match fa ρ with|.ok _=>fr ρ|_=>fx ρ)=some c:=e1
 have raw:(∃y,fa ρ=.ok y/\fr ρ=some c)\/fx ρ=some c:=by
  cases e2:fa ρ with
  |ok ys=>rw[e2]at e1;exact .inl ⟨ys,rfl,e1⟩
  |exc z=>rw[e2]at e1;exact .inr e1
  |no=>rw[e2]at e1;exact .inr e1
 rw[z06 hs];show wpAny _ _ (spliced ((false,eval e X.env)::i4 pos (cu es X.env))) _ _ s;rcases raw with⟨y,e2,e3⟩|e2
 ·refine j9 (thn (ha pins s σ H (fun v H1=>Same H H1) I ⟨ρ,F,y,so,e2,fun v H1 s1 _=>s1⟩) fun u s1 zz=>?_);obtain⟨v,H1,I1,r1,q1⟩:=zz;exact thn (hr pos pins s1 σ H1 (fun _ _=>False) I1 ⟨ρ,F,c,so.same q1,e3,lv⟩) fun us s2 zz=>by obtain⟨_,_,_,_,z⟩:=zz;exact z.elim
 ·exact j9 (thn (hx pins s σ H (fun _ _=>False) I ⟨ρ,F,c,so,e2,lv⟩) fun u s1 zz=>by obtain⟨_,_,_,_,z⟩:=zz;exact z.elim)
theorem zjc {a:Expr}{f:Rho->Option Str}(ha:PT X a (tRT X f)):PT X (.UnaryOp .Not a pos) (tRT X f):=PT.imp (zap ha) fun σ H Q z=>z
theorem zmr {f:Rho->Option Str}(ha:PE X e (tR X f))(he:∀whole,oj e X.env whole=(do let v <-whole;q9 e.pos;rc [v] (se v))):PT X e (tRT X f):=PT.imp (zn3 ha he) fun σ H Q z=>z
theorem zjq {f:Rho->Option Str}{i:Nat}{x:Str}{px:Pos}(hN:X.N.Nodup)(hi:X.N[i]?=some x)(hx:Loc X.env.scope x)(hf:X.fn x=true\/X.env.scope.names.lookup x=some .local)(hs:z1e e=false)(ha:PE X e (tR X f)):PS X (.Assign [.Name x px] e pos) (tRS X f):=PS.imp (ps_s hN hi hx ha hs hf) fun D σ H z=>z
theorem zjs {f:Rho->Option Str}(ha:PE X e (tR X f)):PS X (.Return (some e) pos) (tRS X f):=PS.imp (z7n ha) fun D σ H z=>z
theorem zqa {c:Expr}{A B:List Stmt}{ft:Rho->Res Bool}{fx fa fb:Rho->Option Str}(hc:PT X c (tDT X.K ft))(hx:PT X c (tRT X fx))(ha:PSs X A (tRS X fa))(hb:PSs X B (tRS X fb)):PS X (.If c A B pos) (tRS X fun ρ=>match ft ρ with|.ok k=>if k then fa ρ else fb ρ|_=>fx ρ):=by
 intro pins s σ H D I hq;obtain⟨ρ,F,cl,so,e1,lv⟩:=hq;have e1:(match ft ρ with|.ok k=>if k then fa ρ else fb ρ|_=>fx ρ)=some cl:=e1
 have raw:(∃k,ft ρ=.ok k/\(if k then fa ρ else fb ρ)=some cl)\/fx ρ=some cl:=by
  cases e2:ft ρ with
  |ok ys=>rw[e2]at e1;exact .inl ⟨ys,rfl,e1⟩
  |exc z=>rw[e2]at e1;exact .inr e1
  |no=>rw[e2]at e1;exact .inr e1
 rcases raw with⟨k,e2,e3⟩|e2
 ·refine ziv hc ha hb pins s σ H D I ⟨ρ,F,k,so,e2,fun H1 s1=>?_⟩;cases k with
  |true=>exact iteT ⟨ρ,F,cl,so.same s1,e3,lv⟩
  |false=>exact iteF ⟨ρ,F,cl,so.same s1,e3,lv⟩
 ·exact wpAny_If (thn (hx pins s σ H (fun _ _=>False) I ⟨ρ,F,cl,so,e2,lv⟩) fun d s1 zz=>by obtain⟨_,_,z⟩:=zz;exact z.elim)
theorem zkz {st:Stmt}{rest:List Stmt}{fs:Rho->Res Out}{fx gx:Rho->Option Str}(h1:PS X st (tDS X.K fs))(hx:PS X st (tRS X fx))(h2:PSs X rest (tRS X gx)):PSs X (st::rest) (tRS X fun ρ=>match fs ρ with|.ok (.nx ρ')=>gx ρ'|.ok _=>none|_=>fx ρ):=by
 intro pins s σ H D I hq;obtain⟨ρ,F,cl,so,e1,lv⟩:=hq;have e1:(match fs ρ with|.ok (.nx ρ')=>gx ρ'|.ok _=>none|_=>fx ρ)=some cl:=e1
 have raw:(∃ρ',fs ρ=.ok (.nx ρ')/\gx ρ'=some cl)\/fx ρ=some cl:=by
  cases e2:fs ρ with
  |ok o=>
   rw[e2]at e1;cases o with
   |nx ρ'=>exact .inl ⟨ρ',rfl,e1⟩
   |rt=>cases e1
   |bk=>cases e1
   |ct=>cases e1
  |exc z=>rw[e2]at e1;exact .inr e1
  |no=>rw[e2]at e1;exact .inr e1
 rcases raw with⟨ρ',e2,e3⟩|e2
 ·exact z41 h1 h2 pins s σ H D I ⟨ρ,F,_,so,e2,fun σ' H' F' so' r f=>⟨ρ',F',cl,so',e3,lv.mono r.1⟩⟩
 ·refine wpAny_execs_cons (thn (hx pins s σ H ⟨fun _ _=>False,fun _ _=>False,fun _ _=>False,fun _ _=>False⟩ I ⟨ρ,F,cl,so,e2,lv⟩) fun f s1 q=>?_);cases f with
  |next=>obtain⟨_,_,_,z⟩:=q;exact z.elim
  |brk=>obtain⟨_,_,_,z⟩:=q;exact z.elim
  |cont=>obtain⟨_,_,_,z⟩:=q;exact z.elim
  |ret u=>obtain⟨_,_,_,_,_,z⟩:=q;exact z.elim
theorem zkr {t:Tg}{tg iter:Expr}{body:List Stmt}{fw:Rho->Res (G×List D×Rho)}{fs:Rho->Res Out}{fx:Rho->Option Str}(hp:fg (model X.prog X.w) X.A X.env X.xe)(hc:X.calm=true)(hi:PI X tg iter (tDF X.K fw))(hg:PG X tg (tDG X.K t))(hb:PSs X body (tDS X.K fs))(hx:PSs X body (tRS X fx))(hs:∀x,fi iter X.env x=pure x):
  PS X (.For tg iter body [] pos) (tRS X fun ρ=>match fw ρ with
   |.ok w=>forX (fun x ρ1=>z0x t (gJ x w.1,x) ρ1>>=fun ρ2=>fs ρ2) (fun x ρ1=>match z0x t (gJ x w.1,x) ρ1 with|.ok ρ2=>fx ρ2|_=>none) w.2.1 w.2.2
   |_=>none):=by
 have hbx:PSs X body (fun D σ H=>tDS X.K fs D σ H\/tRS X fx D σ H):=fun pins s σ H D I z=>z.elim (hb pins s σ H D I) (hx pins s σ H D I);refine PS.imp (z7b hp hc hi hg hbx hs) fun D σ H zz=>?_;obtain⟨ρ,F,c,so,e,lv⟩:=zz
 dsimp only at e
 cases e1:fw ρ with
 |no=>rw[e1]at e;cases e
 |exc z=>rw[e1]at e;cases e
 |ok w=>
  rw[e1]at e
  dsimp only at e
  refine⟨ρ,F,w,so,e1,fun J B H1 F1 s1 r1 f1 so1 hBo hBi wk=>?_⟩;generalize hf:(fun x ρ1=>z0x t (gJ x w.1,x) ρ1>>=fun ρ2=>fs ρ2)=f at e;generalize hgx:(fun x ρ1=>match z0x t (gJ x w.1,x) ρ1 with|.ok ρ2=>fx ρ2|_=>none)=gx at e
  have kp:∀{F2:Fm} {H2:Hp},Frm F1 H1 F2 H2->Kp B H1 H2:=fun{F2 H2} fr a o e b=>by
   have hO:F1.O a=none:=by
    rcases b with b|b
    ·exact hBo a b
    ·cases e2:F1.O a with
     |none=>rfl
     |some j=>obtain⟨_,_,h'⟩:=so1.own a j e2;rcases h' with⟨xs,h'⟩|⟨xs,h'⟩<;>rw[e]at h'<;>cases h'<;>exact b.elim
   exact(fr a o e hO).1
  let W:Nat->Nat->L2.St->Hp->Prop:=fun i m σ2 H2=>m=w.2.1.length-i/\i<=w.2.1.length/\∃ρ2 F2,StOk X.K F2 H2 σ2 ρ2/\Run F1 F2/\Frm F1 H1 F2 H2/\forX f gx (w.2.1.drop i) ρ2=some c
  refine⟨W,⟨_,rfl,d6 _,w.2.2,F1,so1,Run.refl,Frm.refl,e⟩,?_⟩
  rintro i m σ2 H2 ⟨rfl,hile,ρ2,F2,so2,r2,f2,e2⟩
  by_cases hlt:i<w.2.1.length
  ·refine .inr ⟨wk.go H2 (kp f2) i hlt,W (i+1) (w.2.1.length-(i+1)),fun σ' H' p=>⟨_,by omega,p⟩,fun x H3 y=>?_⟩;obtain⟨s3,d,hd,rx⟩:=wk.yld H2 (kp f2) i x H3 hlt y
   have hdr:w.2.1.drop i=d::w.2.1.drop (i+1):=by
    have dc:=im hlt;rw[dc];have:w.2.1[i]=d:=by rw[bg hlt]at hd;exact Option.some.inj hd
    rw[this]
   rw[hdr]at e2;simp only[forX]at e2;have so3:=so2.same s3
   have rx':Rep X.K H3 (BI F2 (gJ d w.1)) x d:=by
    have hBI:∀g a,BI F1 g a->BI F2 g a:=fun g a b=>by cases g<;>cases a<;>first|exact b|(have b':F1.V _:=b;rw[<-r2.2.1]at b';exact b')|(have b':F1.z:=b;rw[<-r2.2.2]at b';exact b')|(have b':F1.H0 _≠none/\F1.V _:=b;exact⟨fun z=>b'.1 (none_of r2.1 z),by rw[r2.2.1];exact b'.2⟩)
    unfold gJ;by_cases hi:imm d=true
    ·rw[if_pos hi];exact Rep.immB d hi rx
    ·rw[if_neg hi];exact rx.weak fun a b=>hBI _ _ (hBi a b)
   cases e5:z0x t (gJ d w.1,d) ρ2 with
   |no=>rw[<-hf,<-hgx]at e2;simp only[e5,Res.no_bind]at e2;cases e2
   |exc z=>rw[<-hf,<-hgx]at e2;simp only[e5,Res.exc_bind]at e2;cases e2
   |ok ρ3=>
    have ef:f d ρ2=fs ρ3:=by rw[<-hf];show(z0x t (gJ d w.1,d) ρ2>>=fun ρ2=>fs ρ2)=_;rw[e5];rfl
    have eg:gx d ρ2=fx ρ3:=by rw[<-hgx];show(match z0x t (gJ d w.1,d) ρ2 with|.ok ρ2=>fx ρ2|_=>none)=_;rw[e5]
    rw[ef,eg]at e2;refine⟨ρ2,F2,(gJ d w.1,d),ρ3,so3,rx',e5,fun σ4 F4 so4 kps=>?_⟩;have r4:Run F1 F4:=r2.trans (Run.of kps.h0 kps.v kps.z);have f4:Frm F1 H1 F4 H3:=f2.trans fun a o e n=>⟨s3 a o e,kps.o a n⟩;cases e6:fs ρ3 with
    |ok o1=>
     rw[e6]at e2;refine .inl ⟨ρ3,F4,o1,so4,e6,?_⟩;cases o1 with
     |nx ρ5=>exact fun σ' H' F' so' r' f'=>⟨rfl,hlt,ρ5,F',so',r4.trans r',f4.trans f',e2⟩
     |ct ρ5=>exact fun σ' H' F' so' r' f'=>⟨rfl,hlt,ρ5,F',so',r4.trans r',f4.trans f',e2⟩
     |bk ρ5=>cases e2
     |rt g d=>cases e2
    |exc z=>rw[e6]at e2;exact .inr ⟨ρ3,F4,c,so4,e2,lv.mono (r1.trans r4).1⟩
    |no=>rw[e6]at e2;exact .inr ⟨ρ3,F4,c,so4,e2,lv.mono (r1.trans r4).1⟩
  ·have hie:i=w.2.1.length:=by omega
   subst hie;rw[lh]at e2;cases e2
theorem zmo:PSs X [] (tRS X fun _=>none):=fun pins s σ H D I hq=>(z5v (fun _=>rfl) σ H hq).elim
end
def inX (X:Cx)(i:Nat)(n:Str)(a:Addr)(oe:Obj):Cx:={X with A:=X.A.mark (some (.ref a)),N:=X.N.set i "",calm:=false,pn:=(a,oe)::X.pn,xe:=fun _ _=>False,fx:=some (n,.ref a)}
section
variable {X:Cx}{pins:List (Addr×Obj)}{σ:L2.St}{H:Hp}{s:ae}{i:Nat}{n:Str}{a:Addr}{oe:Obj}
theorem zlv (ok:X.Ok)(nd:X.N.Nodup)(hi:X.N[i]?=some n)(hv:X.env.scope.names.lookup ("":Str)=none)(hl:X.env.scope.names.lookup n=some .local):(inX X i n a oe).Ok:=by
 refine⟨ok.mod,ok.kind,ok.glob,ok.blt,ok.above,ok.inj,ok.has,ok.cab,fun z=>(by cases z),ok.frames,ok.stk,ok.exf,ok.bs,ok.bsz,ok.noex,ok.exfs,ok.funs,ok.frf,fun x u z=>?_⟩;cases z;refine⟨fun hm=>?_,hl⟩;obtain⟨j,hj⟩:=List.mem_iff_getElem?.mp hm;have hj:(X.N.set i "")[j]?=some n:=hj;by_cases e:i=j
 ·subst e;rw[db (bo.mp hi).1]at hj;cases hj;rw[hv]at hl;cases hl
 ·rw[cf e]at hj;exact e (z2r nd hi hj)
theorem zjr (I:Inv X pins σ H s)(nd:X.N.Nodup)(hi:X.N[i]?=some n)(hv:X.env.scope.names.lookup ("":Str)=none)(hl:X.env.scope.names.lookup n=some .local)(hσ:σ[i]?=some (some (.ref a)))
  (ho:s.heap.get? a=some oe) (hH:H a=none) (h1:a≠X.env.locals) (h2:a∉X.fs) (h3:∀v,oe.data≠.cell v):Inv (inX X i n a oe) pins (σ.set i none) H s:=by
 obtain⟨m,hn,hlk⟩:=I.loc;refine⟨zlv I.ok nd hi hv hl,I.os,I.bare,I.base,⟨m,hn,fun j x v e1 e2 e3=>?_⟩,I.cell,I.free,I.freeC,fun p hp=>?_,I.hok,?_,fun x u z=>?_⟩
 ·have e1:(X.N.set i "")[j]?=some x:=e1;by_cases e:i=j
  ·subst e;rw[db (by rw[I.len];exact(bo.mp hi).1)]at e2;cases e2
  ·rw[cf e]at e1 e2;exact hlk j x v e1 e2 e3
 ·rcases ak.mp (show p∈(a,oe)::(X.pn++pins)from hp)with rfl|hp
  ·exact⟨ho,hH,h1,h2,h3⟩
  ·exact I.pin p hp
 ·show(σ.set i none).length=(X.N.set i "").length;rw[df,df];exact I.len
 ·cases z;obtain⟨u,r,q⟩:=hlk i n (.ref a) hi hσ (.inl hl);cases r;rcases q with⟨_,q⟩|⟨k,_⟩
  ·exact⟨m,hn,q⟩
  ·have k:X.env.scope.names.lookup n=some .cell\/X.env.scope.names.lookup n=some .free:=k;rcases k with k|k<;>(rw[hl]at k;cases k)
theorem zgf (ok:X.Ok)(hx:X.fx=none)(hi:X.N[i]?=some n)(I:Inv (inX X i n a oe) pins σ H s):Inv X pins (σ.set i none) H s:=by
 obtain⟨m,hn,hlk⟩:=I.loc;have hlen:σ.length=(X.N.set i "").length:=I.len;rw[df]at hlen;refine⟨ok,I.os,I.bare,I.base,⟨m,hn,fun j x v e1 e2 e3=>?_⟩,I.cell,I.free,I.freeC,fun p hp=>I.pin p (ah _ hp),I.hok,by rw[df];exact hlen,fun x u z=>by rw[hx]at z;cases z⟩;by_cases e:i=j
 ·subst e;rw[db (by rw[hlen];exact(bo.mp hi).1)]at e2;cases e2
 ·rw[cf e]at e2;exact hlk j x v (show(X.N.set i "")[j]?=some x by rw[cf e];exact e1) e2 e3
theorem zmh {M:Model}{A:cq}{E:Value->ae->Prop}{Q:Unit->ae->Prop}{v:V}{pos:Pos}(I:Inv X pins σ H s)(hx:X.fx=none)(nd:X.N.Nodup)(hi:X.N[i]?=some n)(hl:X.env.scope.names.lookup n=some .local)(hσ:σ[i]?=some (some v))
  (h:∀s',Inv X pins (σ.set i none) H s'->Q () s'):wpAny M A (jn X.env n pos) Q E s:=by
 obtain⟨m,hn,hlk⟩:=id I.loc;have cne:=I.cne;obtain⟨u,r,q⟩:=hlk i n v hi hσ (.inl hl)
 have hv:m n=some u:=by
  rcases q with⟨_,q⟩|⟨k,_⟩
  ·exact q
  ·have k:X.env.scope.names.lookup n=some .cell\/X.env.scope.names.lookup n=some .free:=k;rcases k with k|k<;>(rw[hl]at k;cases k)
 have hcls:(X.env.scope.kind==.class||(X.env.scope.kind==.module&&X.env.locals != X.env.globals))=false:=by rw[I.ok.kind];rfl
 unfold jn;refine lj (wpAny_unbindName_local hl hn hv hcls fun h' u' hn' hs=>h _ ?_);obtain⟨oL,_,_,hoL,_⟩:=id hn;have old:∀b o,X.s₀.heap.get? b=some o->b≠X.env.locals:=fun b o e=>cg (bv (bc e) I.ok.above);refine⟨I.ok,I.os,I.bare,⟨fun b o e z hb hx=>(hs.2 b (old b o e)).trans (I.base.keep b o e z hb hx),fun b o e z hb hx=>?_,I.base.free,fun b o e hx=>?_,I.base.tups,I.base.frzs,I.base.tbls⟩,⟨_,hn',fun j y w e1 e2 e3=>?_⟩,fun y c e=>?_,I.free,I.freeC,fun p hp=>?_,fun b ob e=>?_,by rw[df];exact I.len,fun x u z=>by rw[hx]at z;cases z⟩
 ·obtain⟨sl,e1⟩:=I.base.slot b o e z hb hx;exact⟨sl,(hs.2 b (old b o e)).trans e1⟩
 ·obtain⟨o',e1⟩:=I.base.there b o e hx;exact⟨o',(hs.2 b (old b o e)).trans e1⟩
 ·by_cases hj:i=j
  ·subst hj;rw[db (by rw[I.len];exact(bo.mp hi).1)]at e2;cases e2
  ·rw[cf hj]at e2;obtain⟨u2,r2,q2⟩:=hlk j y w e1 e2 e3;refine⟨u2,r2,?_⟩;have hy:y≠n:=fun z=>hj (z2r nd hi (z▸e1));rcases q2 with⟨k,q2⟩|⟨k,c,e,z⟩
   ·exact .inl ⟨k,by simp only[if_neg hy];exact q2⟩
   ·exact .inr ⟨k,c,e,z.sameBut hs (cne y c e)⟩
 ·obtain⟨w,z⟩:=I.cell y c e;exact⟨w,z.sameBut hs (cne y c e)⟩
 ·obtain⟨e,nn,ne,nf,dd⟩:=I.pin p hp;exact⟨(hs.2 p.1 ne).trans e,nn,ne,nf,dd⟩
 ·have nl:∀c w,H c=some w->c≠X.env.locals:=fun c w q z=>by rw[z,I.free]at q;cases q
  exact(I.hok b ob e).stay (fun c w hc q=>(hs.2 c (hc.elim (fun z=>by rw[z];exact nl b _ e) fun z=>nl c _ z)).trans q) (fun _ q=>q) fun _ _ q=>q
theorem zaa {M:Model}{Dn:Ends}{pos:Pos}{D2:Ends}{E:Value->ae->Prop}{f:Flow}{s:ae}(ok:X.Ok)(hx:X.fx=none)(nd:X.N.Nodup)(hi:X.N[i]?=some n)(hl:X.env.scope.names.lookup n=some .local)(hnx:∀σ' H',D2.nx σ' H'->Dn.nx (σ'.set i none) H')(hrt:∀v H',D2.rt v H'->Dn.rt v H')(hbk:∀σ' H',¬D2.bk σ' H')(hct:∀σ' H',¬D2.ct σ' H')
  (h:SP (inX X i n a oe) pins D2 f s):wpAny M X.A (do bindName X.env n .none;jn X.env n pos) (fun _ s5=>SP X pins Dn f s5) E s:=by
 have key:∀{σ':L2.St} {H':Hp} {Q:Unit->ae->Prop},Inv (inX X i n a oe) pins σ' H' s->(∀s5,Inv X pins (σ'.set i none) H' s5->Q () s5)->wpAny M X.A (do bindName X.env n .none;jn X.env n pos) Q E s:=fun{σ' H' Q} I k=>by
  have I1:=zgf ok hx hi I;refine aa (wpAny_bindName (z36 I1 nd hi (.inl hl) (v:=.non) rfl (fun s4 I4 _=>?_) (.inr hl)));have hlt:i<(σ'.set i none).length:=by rw[I1.len];exact(bo.mp hi).1
  refine zmh I4 hx nd hi hl (v:=.non) (db hlt) fun s5 I5=>k s5 ?_;rw[ql,ql]at I5;exact I5
 cases f with
 |next=>obtain⟨σ',H',I,q⟩:=h;exact key I fun s5 I5=>⟨_,H',I5,hnx σ' H' q⟩
 |ret u=>obtain⟨v,σ',H',I,r,q⟩:=h;exact key I fun s5 I5=>⟨v,_,H',I5,r,hrt v H' q⟩
 |brk=>obtain⟨σ',H',_,q⟩:=h;exact(hbk σ' H' q).elim
 |cont=>obtain⟨σ',H',_,q⟩:=h;exact(hct σ' H' q).elim
theorem z7m {P:ax}{w:World}{base:Heap}{outer:List Env}{H H':Hp}{s s':ae}{C a:Addr}{dd:Option Addr}(f:Fly P w base outer H s C a H' s' dd):H' a=none:=by
 obtain⟨B,_,hB,_,fl⟩:=f.hh;cases e:H' a with
 |none=>rfl
 |some u=>obtain⟨o,q⟩:=z62 (hB a u e);rw[fl.2.1]at q;cases q
theorem za1 {Q:Flow->ae->Prop}{dd:Option Addr}{Dn:Ends}{B:Str}{C D:Addr}{B0:Heap}{H':Hp}{s':ae}{T:TS}{b0:Stmt}{suite:List Stmt}{np hp:Pos}(inv:∀h6,FlD B0 (X.env::X.outer) a (.ref C) dd h6->s'.heap.UpToSlots h6->Inv X pins σ H' {s' with heap:=h6})(w0:FlD B0 (X.env::X.outer) a (.ref C) dd s'.heap)(hHa:H' a=none)(hs:X.stack=X.env::X.outer)(hf:X.env.frame=some X.env.locals)(hx:X.fx=none)(nd:X.N.Nodup)(hi:X.N[i]?=some n)(hv:X.env.scope.names.lookup ("":Str)=none)(hl:X.env.scope.names.lookup n=some .local)
  (hB:X.mg B=some (.ref D)) (hm:∀(A:cq) (E:Value->ae->Prop) (Q:Bool->ae->Prop) s6 oe,X.K.In s6.heap->s6.heap.get? a=some oe->oe.cls=.ref C->Q true s6->wpAny (model X.prog X.w) A (pv (.ref a) (.ref D)) Q E s6) (hgB:Gl X B) (hdB:(B==("__debug__":Str))=false)
  (hQ:∀f s,SP X pins Dn f s->Q f s) (hsu:∀oe ws,oe.cls=.ref C->oe.dict=dd->oe.data=.fields ws->PSs (inX X i n a oe) (b0::suite) T) (q:T ⟨fun σ' H''=>Dn.nx (σ'.set i none) H'',Dn.rt,fun _ _=>False,fun _ _=>False⟩ (σ.set i none) H'):
  wpAny (model X.prog X.w) X.A (jg (.ref a) X.env) (fun _ s2=>wpAny (model X.prog X.w) X.A (jr (.ref a) none) (fun _ s3=>wpAny (model X.prog X.w) X.A (oq (.ref a) X.env [.ExceptHandler (some (.Name B np)) (some n) (b0::suite) hp]) Q X.xe s3) X.xe s2) X.xe s':=by
 have ok:=(inv _ w0 (Heap.UpToSlots.refl _)).ok;have hfr:X.A.frames=some (X.env::X.outer):=by rw[<-hs];exact ok.frames
 refine z7q hfr hf w0 fun h4 held up4=>?_;refine z7i held fun h5 w5 up5=>?_;have I5:=inv h5 w5 (up4.trans up5);refine wpAny_handleBy_cons (codeAny_handlers_test ?_) (by intro z;cases z);refine jk I5.ok.kind hgB (m5 (by rw[I5.ok.glob];exact I5.mod.glob.keeps I5.bk) hB ?_) hdB;obtain⟨ob,_,hob,hobc,_⟩:=w5.first;refine hm _ _ _ _ ob I5.kIn hob hobc ?_;refine codeAny_handlers_suite_as (zdn w5 fun h6 w6 up6=>?_);have I6:=inv h6 w6 ((up4.trans up5).trans up6);obtain⟨oe,ws,hoe,hoec,hoeD,hoed⟩:=w6.first;refine z36 I6 nd hi (.inl hl) (v:=.ref a) rfl (fun s7 I7 ch=>?_) (.inr hl);obtain⟨ad,sbt,had⟩:=ch;have nL:a≠X.env.locals:=fun z=>by obtain⟨_,o3,e3,nd3⟩:=I6.stack.mem (b:=X.env.locals) (by rw[hs,d5,hf];exact ai);rw[<-z]at e3;have e3:h6.get? a=some o3:=e3;rw[hoe]at e3;cases e3;exact nd3 ws hoed
 have nF:a∉X.fs:=fun z=>by obtain⟨_,o3,e3,nd3⟩:=I6.funs.mem (b:=a) z;have e3:h6.get? a=some o3:=e3;rw[hoe]at e3;cases e3;exact nd3 ws hoed
 have nA:a≠ad:=fun z=>by
  rcases had with h|h
  ·exact nL (z.trans h)
  ·obtain⟨v,oc,hoc,hocd⟩:=I6.cell n ad h;rw[<-z]at hoc;have hoc:h6.get? a=some oc:=hoc;rw[hoe]at hoc;cases hoc;rw[hoed]at hocd;cases hocd
 have ho7:s7.heap.get? a=some oe:=(sbt.2 a nA).trans hoe;have hlt:i<σ.length:=by rw[I6.len];exact(bo.mp hi).1
 have I8:=zjr I7 nd hi hv hl (db hlt) ho7 hHa nL nF (fun v z=>by rw[hoed]at z;cases z);rw[ql]at I8;refine jb (hsu oe ws hoec hoeD hoed pins s7 _ H' ⟨fun σ' H''=>Dn.nx (σ'.set i none) H'',Dn.rt,fun _ _=>False,fun _ _=>False⟩ I8 q) (fun fl2 s9 h9=>?_) fun _ _ z=>z.elim;refine jb (zaa (Dn:=Dn) (D2:=⟨fun σ' H''=>Dn.nx (σ'.set i none) H'',Dn.rt,fun _ _=>False,fun _ _=>False⟩) (pos:=hp) ok hx nd hi hl (fun _ _ z=>z) (fun _ _ z=>z) (fun _ _ z=>z) (fun _ _ z=>z) h9) (fun _ s5 h5=>hQ _ s5 h5) fun _ _ z=>z
theorem Fly.land {dd:Option Addr}{C:Addr}{H1 H':Hp}{s1 s':ae}{h6 B0:Heap}(I:Inv X pins σ H1 s1)(fl:Fly X.prog X.w X.base X.stack H1 s1 C a H' s' dd)(hb0:X.base.StaysIn B0)(hB0:HOk X.prog X.w H' B0)(cov:∀b o,s1.heap.get? b=some o->b∉frs X.stack->∃o',B0.get? b=some o'/\(H1 b=none->o'=o))(w6:FlD B0 X.stack a (.ref C) dd h6)(up:s'.heap.UpToSlots h6):Inv X pins σ H' {s' with heap:=h6}:=by refine Fly.inv (dd:=dd) (C:=C) (a:=a) (s':={s' with heap:=h6}) ⟨fl.os,fl.bare,fl.tups,fl.frzs,fl.tbls,fl.free,⟨B0,hb0,hB0,cov,w6⟩,fun b o e z hb=>?_⟩ I;obtain⟨sl,e1⟩:=fl.slot b o e z hb;obtain⟨_,o3,e3,nd3⟩:=I.stack.mem hb;rw[e]at e3;cases e3;obtain⟨sl3,e4⟩:=up b _ e1 nd3;exact⟨sl3,e4⟩
theorem x_up {C D:Addr}(xC:exW X.K C=true)(xD:exW X.K D=true)(sb:W.subIn X.K (.ref C) (.ref D)=some true)(A:cq)(E:Value->ae->Prop)(Q:Bool->ae->Prop)(s6:ae)(oe:Obj)(k:X.K.In s6.heap)(e:s6.heap.get? a=some oe)(c:oe.cls=.ref C)(q:Q true s6):wpAny (model X.prog X.w) A (pv (.ref a) (.ref D)) Q E s6:=by obtain⟨bmC,oC,cC⟩:=XC.mk k xC;obtain⟨bmD,oD,_⟩:=XC.mk k xD;exact ze2 oC oD e c (cC _ _ sb) q
end
section
variable {X:Cx}{n x:Str}{p p1 p2 pos:Pos}{a C:Addr}{oe:Obj}{v:V}{u:Value}{b:Bool}
theorem zl2 (hx:X.fx=some (n,.ref a))(hl:X.env.scope.names.lookup n=some .local)(hd:(n==("__debug__":Str))=false):PE X (.Name n p) (fun _ H Q=>Q (.ref a) H):=by intro pins s σ H Q I h;obtain⟨m,hn,hm⟩:=I.fx n _ hx;exact ph (ol I.ok.kind hl hn hm ⟨.ref a,H,I,rfl,h⟩) hd
theorem zp6 (hg:Gl X x)(hm:X.mg x=some u\/(X.mg x=none/\cz x=some u/\x≠"__name__"))(r:RelV v u)(hd:(x==("__debug__":Str))=false):PE X (.Name x p) (fun _ H Q=>Q v H):=by
 intro pins s σ H Q I h;rcases hm with hm|⟨h1,h2,h3⟩
 ·exact z1t I hg hm ⟨v,H,I,r,h⟩ hd
 ·exact z20 I hg h1 h2 ⟨v,H,I,r,h⟩ h3 hd
def Xh (X:Cx)(a:Addr)(oe:Obj):Prop:=∀pins σ H s,Inv X pins σ H s->s.heap.get? a=some oe
theorem zq7 (hm:X.mg "isinstance"=none)(hg:Gl X "isinstance")(hx:X.fx=some (n,.ref a))(hl:X.env.scope.names.lookup n=some .local)(hd:(n==("__debug__":Str))=false)(hp:Xh X a oe)(hc:oe.cls=.ref C)
  (hgx:Gl X x) (hmx:X.mg x=some u\/(X.mg x=none/\cz x=some u/\x≠"__name__")) (r:RelV v u) (ru:∀w,RelV v w->w=u) (hdx:(x==("__debug__":Str))=false) (xa:XA X.K C) (xv:XV X.K u) (hs:W.subIn X.K (.ref C) u=some b):
  PE X (.Call (.Name "isinstance" p) [.Name n p1,.Name x p2] [] pos) (tD X.K fun _=>.ok (.fr,.bool b)):=by
 intro pins s σ H Q I hq;obtain⟨ρ,F,z,so,e,q⟩:=hq;cases e;refine fv (z20 (u:=.builtin "isinstance") I hg hm (by decide+kernel) ?_ (by decide) (by decide));have hA:=z4a (X:=X) (zl2 (p:=p1) hx hl hd) (z4a (zp6 (p:=p2) hgx hmx r hdx) z1v);refine PyProof.Rows.callWith_builtin1 (thn (hA pos pins s σ H (fun vs H1=>vs=[.ref a,v]/\H1=H) I ⟨rfl,rfl⟩) fun us s1 zz=>?_) rfl rfl;obtain⟨vs,H1,I1,r1,rfl,rfl⟩:=zz;cases r1 with
 |cons ra rt=>
  cases rt with
  |cons rb rn=>cases rn;rename_i w1 w2;obtain rfl:w1=Value.ref a:=ra;have e2:w2=u:=ru w2 rb;subst e2;refine zoc I1.kIn xa (hp _ _ _ _ I1) hc xv hs fun t'=>?_;exact⟨.bl b,H1,I1.tok _,rfl,q _ H1 (Same.refl H1) rfl⟩
end
section
theorem and2 {a b:Bool}(h:(a&&b)=true):a=true/\b=true:=aw.mp h
theorem and3 {a b c:Bool}(h:(a&&b&&c)=true):a=true/\b=true/\c=true:=⟨(and2 (and2 h).1).1,(and2 (and2 h).1).2,(and2 h).2⟩
theorem and4 {a b c d:Bool}(h:(a&&b&&c&&d)=true):a=true/\b=true/\c=true/\d=true:=⟨(and3 (and2 h).1).1,(and3 (and2 h).1).2.1,(and3 (and2 h).1).2.2,(and2 h).2⟩
theorem and5 {a b c d e:Bool}(h:(a&&b&&c&&d&&e)=true):a=true/\b=true/\c=true/\d=true/\e=true:=⟨(and4 (and2 h).1).1,(and4 (and2 h).1).2.1,(and4 (and2 h).1).2.2.1,(and4 (and2 h).1).2.2.2,(and2 h).2⟩
theorem z0l {b:Bool}(h:(!b)=true):b=false:=by cases b<;>first|rfl|cases h
theorem ff {b:Bool}{p:Prop}(h:b=false)(z:b=true):p:=by rw[h]at z;cases z
theorem z0q {α:Type}{l:List α}(h:l.isEmpty=true):l=[]:=by cases l<;>first|rfl|cases h
theorem z1q {α:Type}{l:List α}(h:(!l.isEmpty)=true):∃x r,l=x::r:=by cases l<;>first|exact⟨_,_,rfl⟩|cases h
theorem z00 {α:Type}{o:Option α}{f:α->Bool}(h:o.any f=true):∃v,o=some v/\f v=true:=by
 cases o with
 |none=>cases h
 |some v=>exact⟨v,rfl,h⟩
theorem v_of {α:Type}{o:Option α}{v:α}{q:α->Prop}(h:o=some v)(d:o=none\/∃u,o=some u/\q u):q v:=by
 rcases d with d|⟨u,d,z⟩
 ·rw[d]at h;cases h
 ·rw[d]at h;cases h;exact z
theorem q_Nm {e:Expr}{v:Str}(h:vNm e=some v):∃p,e=.Name v p:=v_of (q:=fun v=>∃p,e=.Name v p) h (by cases e<;>first|exact .inl rfl|exact .inr ⟨_,rfl,_,rfl⟩)
theorem zc9 {e:Expr}{v:Const}(h:vCst e=some v):∃k p,e=.Constant v k p:=v_of (q:=fun v=>∃k p,e=.Constant v k p) h (by cases e<;>first|exact .inl rfl|exact .inr ⟨_,rfl,_,_,rfl⟩)
theorem zmn {e:Expr}{v:Expr×jl×Expr}(h:vBin e=some v):∃p,e=.BinOp v.1 v.2.1 v.2.2 p:=v_of (q:=fun v=>∃p,e=.BinOp v.1 v.2.1 v.2.2 p) h (by cases e<;>first|exact .inl rfl|exact .inr ⟨_,rfl,_,rfl⟩)
theorem q_Un {e:Expr}{v:UnaryOp×Expr}(h:vUn e=some v):∃p,e=.UnaryOp v.1 v.2 p:=v_of (q:=fun v=>∃p,e=.UnaryOp v.1 v.2 p) h (by cases e<;>first|exact .inl rfl|exact .inr ⟨_,rfl,_,rfl⟩)
theorem q_Cm {e:Expr}{v:Expr×List CmpOp×List Expr}(h:vCm e=some v):∃p,e=.Compare v.1 v.2.1 v.2.2 p:=v_of (q:=fun v=>∃p,e=.Compare v.1 v.2.1 v.2.2 p) h (by cases e<;>first|exact .inl rfl|exact .inr ⟨_,rfl,_,rfl⟩)
theorem q_Bo {e:Expr}{v:BoolOp×List Expr×Pos}(h:vBo e=some v):e=.BoolOp v.1 v.2.1 v.2.2:=v_of (q:=fun v=>e=.BoolOp v.1 v.2.1 v.2.2) h (by cases e<;>first|exact .inl rfl|exact .inr ⟨_,rfl,rfl⟩)
theorem zk2 {e:Expr}{v:Expr×Expr×Expr}(h:vIfE e=some v):∃p,e=.IfExp v.1 v.2.1 v.2.2 p:=v_of (q:=fun v=>∃p,e=.IfExp v.1 v.2.1 v.2.2 p) h (by cases e<;>first|exact .inl rfl|exact .inr ⟨_,rfl,_,rfl⟩)
theorem zdb {e:Expr}{v:List Expr}(h:vTup e=some v):∃k p,e=.Tuple v k p:=v_of (q:=fun v=>∃k p,e=.Tuple v k p) h (by cases e<;>first|exact .inl rfl|exact .inr ⟨_,rfl,_,_,rfl⟩)
theorem zmy {e:Expr}{v:List Expr}(h:vLst e=some v):∃p,e=.List v p:=v_of (q:=fun v=>∃p,e=.List v p) h (by cases e<;>first|exact .inl rfl|exact .inr ⟨_,rfl,_,rfl⟩)
theorem q_Di {e:Expr}{v:List (Option Expr)×List Expr}(h:vDi e=some v):∃p,e=.Dict v.1 v.2 p:=v_of (q:=fun v=>∃p,e=.Dict v.1 v.2 p) h (by cases e<;>first|exact .inl rfl|exact .inr ⟨_,rfl,_,rfl⟩)
theorem zda {e:Expr}{v:Expr×Expr}(h:vSub e=some v):∃p,e=.Subscript v.1 v.2 p:=v_of (q:=fun v=>∃p,e=.Subscript v.1 v.2 p) h (by cases e<;>first|exact .inl rfl|exact .inr ⟨_,rfl,_,rfl⟩)
theorem zot {e:Expr}{v:Option Expr×Option Expr×Option Expr}(h:vSli e=some v):∃p,e=.Slice v.1 v.2.1 v.2.2 p:=v_of (q:=fun v=>∃p,e=.Slice v.1 v.2.1 v.2.2 p) h (by cases e<;>first|exact .inl rfl|exact .inr ⟨_,rfl,_,rfl⟩)
theorem q_Ca {e:Expr}{v:Expr×List Expr×List j4×Pos}(h:vCa e=some v):e=.Call v.1 v.2.1 v.2.2.1 v.2.2.2:=v_of (q:=fun v=>e=.Call v.1 v.2.1 v.2.2.1 v.2.2.2) h (by cases e<;>first|exact .inl rfl|exact .inr ⟨_,rfl,rfl⟩)
theorem q_At {e:Expr}{v:Expr×Str×Pos}(h:vAt e=some v):e=.Attribute v.1 v.2.1 v.2.2:=v_of (q:=fun v=>e=.Attribute v.1 v.2.1 v.2.2) h (by cases e<;>first|exact .inl rfl|exact .inr ⟨_,rfl,rfl⟩)
theorem q_LC {e:Expr}{v:Expr×List jy×Scope}(h:vLC e=some v):∃p,e=.ListComp v.1 v.2.1 v.2.2 p:=v_of (q:=fun v=>∃p,e=.ListComp v.1 v.2.1 v.2.2 p) h (by cases e<;>first|exact .inl rfl|exact .inr ⟨_,rfl,_,rfl⟩)
theorem z1f {α:Type}{l:List α}{v:α}(h:vOne l=some v):l=[v]:=by rcases l with _|⟨x,_|⟨y,l⟩⟩<;>cases h;rfl
theorem zdm {α:Type}{l:List α}{v:α×α}(h:vTwo l=some v):l=[v.1,v.2]:=by rcases l with _|⟨x,_|⟨y,_|⟨z,l⟩⟩⟩<;>cases h;rfl
theorem z13 {e:Expr}{v:Str×List Expr}(h:z2g e=some v):∃q p,e=.Call (.Name v.1 q) v.2 [] p:=by
 obtain⟨u,hu,h⟩:=kq.mp h;cases hk:u.2.2.1.isEmpty with
 |false=>rw[hk]at h;exact absurd h nofun
 |true=>rw[hk]at h;obtain⟨x,hx,rfl⟩:=dn.mp h;obtain⟨q,hq⟩:=q_Nm hx;exact⟨q,_,by rw[q_Ca hu,hq,z0q hk]⟩
theorem q_Mt {e:Expr}{v:Expr×Str×List Expr×Bool}(h:vMt e=some v):∃ap cp,e=.Call (.Attribute v.1 v.2.1 ap) v.2.2.1 [] cp/\v.2.2.2=(ap.endLine==cp.line):=by
 obtain⟨u,hu,h⟩:=kq.mp h;cases hk:u.2.2.1.isEmpty with
 |false=>rw[hk]at h;exact absurd h nofun
 |true=>rw[hk]at h;obtain⟨x,hx,rfl⟩:=dn.mp h;exact⟨_,_,by rw[q_Ca hu,q_At hx,z0q hk],rfl⟩
theorem z1y {f:Str->Bool}{e:Expr}(h:hd1 f e=true):∃x p,e=.Name x p/\f x=true:=by obtain⟨x,hx,h⟩:=z00 h;obtain⟨p,hp⟩:=q_Nm hx;exact⟨x,p,hp,h⟩
def zms (K:W.Frag)(mg:Str->Option Value)(c C:Str)(b:Bool):Prop:=∃A v u,mg c=some (.ref A)/\XA K A/\XV K u/\W.subIn K (.ref A) u=some b/\RelV v u/\(∀w,RelV v w->w=u)/\(mg C=some u\/(mg C=none/\cz C=some u/\C≠"__name__"))
def RsOk (K:W.Frag)(mg:Str->Option Value)(c:Str):Prop:=∃C,mg c=some (.ref C)/\exV K C=true
def zrp (K:W.Frag)(mg:Str->Option Value)(c B:Str):Prop:=∃C D,mg c=some (.ref C)/\mg B=some (.ref D)/\exW K C=true/\exW K D=true/\W.subIn K (.ref C) (.ref D)=some true
structure Xok (Γ:Gm)(K:W.Frag)(mg:Str->Option Value):Prop where
 sub:∀c C b,Γ.sub.contains (c,C,b)=true->zms K mg c C b
 rs:∀c,Γ.rs.contains c=true->RsOk K mg c
 hnd:∀c B,Γ.hnd.contains (c,B)=true->zrp K mg c B
structure Cok (Γ:Gm)(Κ:List D)(Φ:List Fn)(X:Cx)(r:Nat):Prop where
 hN:X.N=Γ.N
 hs:X.env.scope=Γ.sc
 nd:Γ.N.Nodup
 fn:Γ.blk=false->∀x,X.fn x=true
 kind:Γ.sc.kind=.function
 free:∀x,Γ.free.contains x=true->X.mg x=none
 fns:∀(j:Nat) f n,Γ.fns[j]?=some (f,n)->∃m k ps,Φ[j]?=some m/\k<=r/\Cal X.prog X.w X.K X.mg X.base k f ps (spD X.K n m)
 cst:∀(j:Nat) x,Γ.cst[j]?=some x->∃d a,Κ[j]?=some d/\X.mg x=some (.ref a)/\∀H B,B none->Rep X.K H B (.ref a) d
 fnx:∀(j:Nat) f n,Γ.fns[j]?=some (f,n)->∃m k ps,Φ[j]?=some m/\k<=r/\CalX X.prog X.w X.K X.mg X.base k f ps n m
 room:Γ.cm=true->Room r X.A
 calm:Γ.cm=true->X.calm=true
 hu:X.A.units+64<cLine
 fun_:Γ.blk=false->X.stack=X.env::X.outer/\X.env.frame=some X.env.locals
 fx0:Γ.xc=none->X.fx=none
 xc:∀n c,Γ.xc=some (n,c)->∃a oe C,X.fx=some (n,.ref a)/\Xh X a oe/\oe.cls=.ref C/\X.mg c=some (.ref C)
 xk:Xok Γ X.K X.mg
section
variable {Γ:Gm}{Κ:List D}{Φ:List Fn}{X:Cx}{r:Nat}
theorem Cok.gl (k:Cok Γ Κ Φ X r){x:Str}(h:glB Γ x=true):Gl X x/\(x==("__debug__":Str))=false:=by unfold glB at h;rw[aq]at h;refine⟨?_,by simpa using h.2⟩;show X.env.scope.names.lookup x=_;rw[k.hs];simpa using h.1
theorem Cok.vis (k:Cok Γ Κ Φ X r){i:Nat}{x:Str}(h:visB Γ i x=true):X.N[i]?=some x/\Vis X.env.scope x/\(x==("__debug__":Str))=false/\(x==("__classdict__":Str))=false:=by
 unfold visB at h;simp only[aq,n9,beq_iff_eq]at h;have⟨⟨⟨h1,h2⟩,h3⟩,h4⟩:=h;refine⟨by rw[k.hN];exact h1,?_,by simpa using h3,by simpa using h4⟩;unfold Vis;rw[k.hs];rcases h2 with(h2|h2)|h2
 ·exact .inl h2
 ·exact .inr (.inl h2)
 ·exact .inr (.inr h2)
theorem Cok.loc (k:Cok Γ Κ Φ X r){i:Nat}{x:Str}(h:locB Γ i x=true):X.N[i]?=some x/\Loc X.env.scope x/\(X.fn x=true\/X.env.scope.names.lookup x=some .local):=by
 unfold locB at h;simp only[aq,n9,beq_iff_eq,qf]at h;obtain⟨h1,h2⟩:=h;refine⟨by rw[k.hN];exact h1,?_,?_⟩
 ·unfold L2.Loc;rw[k.hs];rcases h2 with h2|⟨_,h2⟩
  ·exact .inl h2
  ·exact .inr h2
 ·rcases h2 with h2|⟨h2,_⟩
  ·exact .inr (by rw[k.hs];exact h2)
  ·exact .inl (k.fn h2 x)
theorem Cok.blt (k:Cok Γ Κ Φ X r){x:Str}(h:bltB Γ x=true):Gl X x/\X.mg x=none/\(x==("__debug__":Str))=false/\x≠"__name__":=by unfold bltB at h;simp only[aw]at h;obtain⟨⟨h1,h2⟩,h3⟩:=h;obtain⟨g1,g2⟩:=k.gl h1;exact⟨g1,k.free x h2,g2,by simpa using h3⟩
theorem zgh {X:Cx}{scope:Scope}{N':List Str}{C:Addr}{fp:List Addr}{s:ae}{H:Hp}:(blk X scope N' C fp s H).env.scope=zie scope X.env.scope:=rfl
theorem Cok.blk (k:Cok Γ Κ Φ X r){scope:Scope}{N':List Str}(hk:scope.kind=.function)(nd:N'.Nodup)(C:Addr)(fp:List Addr)(s:ae)(H:Hp):Cok {Γ with N:=N',sc:=zie scope Γ.sc,blk:=true,xc:=none} Κ Φ (blk X scope N' C fp s H) r where
 hN:=rfl
 hs:=by rw[zgh,k.hs]
 nd:=nd
 fn:=fun z=>by cases z
 kind:=hk
 free:=k.free
 fns:=k.fns
 cst:=k.cst
 fnx:=k.fnx
 room:=k.room
 calm:=k.calm
 hu:=k.hu
 fun_:=fun z=>by cases z
 fx0:=fun _=>rfl
 xc:=fun _ _ z=>by cases z
 xk:=⟨k.xk.sub,k.xk.rs,k.xk.hnd⟩
theorem zoy (k:Cok Γ Κ Φ X r)(all:List Nat){is:List Nat}:∀{es:List Expr},zgr Γ is es=true->PGs X es (tDGs X.K all is)/\(et es X.env).length=is.length/\(et es X.env).findIdx? (·.1)=none:=by
 induction is with
 |nil=>intro es h;cases z0q h;exact⟨zl7,rfl,rfl⟩
 |cons i is ih=>
  intro es h;cases es with
  |nil=>cases h
  |cons e es=>
   obtain⟨h0,h9⟩:=and2 h;obtain⟨x,p,rfl,h0⟩:=z1y h0;obtain⟨h1,h2,h3⟩:=k.loc h0;obtain⟨a1,a2,a3⟩:=ih h9;refine⟨zix (by rw[k.hN];exact k.nd) h1 h2 h3 a1,?_,?_⟩
   ·show(et es X.env).length+1=_;rw[a2];rfl
   ·show((false,nk (.Name x p) X.env)::et es X.env).findIdx? (·.1)=none;rw[List.findIdx?_cons,a3];rfl
theorem z8k (k:Cok Γ Κ Φ X r){t:Tg}{e:Expr}(h:z6r Γ t e=true):PG X e (tDG X.K t):=by
 cases t with
 |nm i=>obtain⟨x,p,rfl,h9⟩:=z1y h;obtain⟨h1,h2,h3⟩:=k.loc h9;exact zl1 (by rw[k.hN];exact k.nd) h1 h2 h3
 |tp is=>obtain⟨h0,h⟩:=and2 h;obtain⟨v,hv,h9⟩:=z00 h;obtain⟨_,_,rfl⟩:=zdb hv;obtain⟨a1,a2,a3⟩:=zoy k is h9;exact zoh (k.calm h0) a1 rfl a3 a2.symm
theorem z3o {e:Expr}(h:plainT e=true)(env:Env):∀whole,oj e env whole=(do let v <-whole;q9 e.pos;rc [v] (se v)):=by
 intro whole;cases e<;>first|(cases h;done)|rfl|skip
 rename_i op x p;cases op<;>first|(cases h;done)|rfl
theorem z27 {e:Expr}(h:z98 e=true)(env:Env):∀x,fi e env x=pure x:=by intro x;cases e<;>first|(cases h;done)|rfl
end
variable (Κ:List D)(Φ:List Fn)
theorem zim (c:C):∀(Γ:Gm) (es:List Expr) (ρ:Rho) (ys:List GD),chkA Γ c es=true->evA Κ Φ c ρ=.ok ys->ys.length=es.length/\(es.all fun e=>!isStar e)=true:=by
 induction c with
 |nil=>intro Γ es ρ ys h e;cases z0q h;cases e;exact⟨rfl,rfl⟩
 |cons a r _ ih=>
  intro Γ es ρ ys h e;cases es with
  |nil=>cases h
  |cons x es=>obtain⟨h1,_,h3⟩:=and3 h;obtain⟨y,_,e⟩:=Res.bind_ok e;obtain⟨ys',e2,e⟩:=Res.bind_ok e;cases e;obtain⟨i1,i2⟩:=ih Γ es ρ ys' h3 e2;exact⟨by rw[ay,ay,i1],by rw[bz,i2,h1];rfl⟩
 |_=>exact fun _ _ _ _ h=>ff rfl h
end
section
theorem zin {Γ:Gm}{T:String}{t:Expr}(h:tyB Γ T t=true):∃x p,t=.Name x p/\x=Str.ofString T/\bltB Γ x=true/\T∈tysB:=by obtain⟨x,p,e,h⟩:=z1y h;obtain⟨h1,h2,h3⟩:=and3 h;exact⟨x,p,e,t8 h1,h2,bq.mp h3⟩
theorem zdx {T:String}(h:T∈tysB):cz (Str.ofString T)=some (.type T):=by simp only[tysB,ak,d8,or_false]at h;rcases h with rfl|rfl|rfl|rfl|rfl<;>decide+kernel
variable (Κ:List D)(Φ:List Fn)
theorem z0w {Γ:Gm}:∀{c:C} {es:List Expr},chkA Γ c es=true->(es.all fun e=>!isStar e)=true:=by
 intro c
 induction c with
 |nil=>intro es h;cases z0q h;rfl
 |cons a r _ ih=>
  intro es h;cases es with
  |nil=>rfl
  |cons e es=>obtain⟨h1,_,h3⟩:=and3 h;rw[bz,ih h3,h1];rfl
 |_=>exact fun h=>ff rfl h
theorem z39 {Γ:Gm}{c:C}{es:List Expr}(h:chkA Γ c es=true):∀ρ ys,evA Κ Φ c ρ=.ok ys->ys.length=es.length:=fun ρ ys e=>(zim Κ Φ c Γ es ρ ys h e).1
structure Sd (c:C):Prop where
 E:∀(Γ:Gm) (X:Cx) (r:Nat) (e:Expr),Cok Γ Κ Φ X r->chkE Γ c e=true->PE X e (tD X.K (evE Κ Φ c))
 T:∀(Γ:Gm) (X:Cx) (r:Nat) (e:Expr),Cok Γ Κ Φ X r->chkT Γ c e=true->PT X e (tDT X.K (evT Κ Φ c))/\((∃o l p,e=.BoolOp o l p)->PW X e (tDT X.K (evT Κ Φ c)))
 Q:∀(Γ:Gm) (X:Cx) (r:Nat) (l:Expr) (ops:List CmpOp) (rs:List Expr) (pos:Pos),Cok Γ Κ Φ X r->chkE Γ c (.Compare l ops rs pos)=true->PT X (.Compare l ops rs pos) (tDT X.K fun ρ=>evE Κ Φ c ρ>>=fun x=>z0z x.2)
 A:∀(Γ:Gm) (X:Cx) (r:Nat) (es:List Expr),Cok Γ Κ Φ X r->chkA Γ c es=true->PA X es (tDA X.K (evA Κ Φ c))
 O:∀(Γ:Gm) (X:Cx) (r:Nat) (e:Option Expr),Cok Γ Κ Φ X r->chkO Γ c e=true->PO X e (tDO X.K (evO Κ Φ c))
 W:∀(Γ:Gm) (X:Cx) (r:Nat) (e tg:Expr),Cok Γ Κ Φ X r->zcp c tg=true->chkW Γ c e=true->PI X tg e (tDW X.K (evW Κ Φ c))
 G:∀(Γ:Gm) (X:Cx) (r:Nat) (e:Expr),Cok Γ Κ Φ X r->chkG Γ c e=true->∃a,c=.tv a/\PE X e (tD X.K (evE Κ Φ a))
def isX:C->Nat
 |.and _ _|.or _ _|.not _|.tv _|.nil|.cons _ _|.rng _|.enum _|.zip _ _=>2
 |.cmp _ _ _|.chain _ _ _ _ _=>1
 |_=>0
variable {Κ:List D}{Φ:List Fn}{a b c:C}
section
variable {Γ:Gm}{e tg:Expr}{es:List Expr}{o:Option Expr}
theorem x_T (h:isX c<2):chkT Γ c e=false:=by cases c<;>first|rfl|exact absurd h (de 2)
theorem x_A (h:isX c<2):chkA Γ c es=false:=by cases c<;>first|rfl|exact absurd h (de 2)
theorem x_O (h:isX c<2):chkO Γ c o=false:=by cases c<;>first|rfl|exact absurd h (de 2)
theorem x_W (h:isX c<2):chkW Γ c e=false:=by cases c<;>first|rfl|exact absurd h (de 2)
theorem x_G (h:isX c<2):chkG Γ c e=false:=by cases c<;>first|rfl|exact absurd h (de 2)
end
theorem Sd.q (hE:∀(Γ:Gm) (X:Cx) (r:Nat) (e:Expr),Cok Γ Κ Φ X r->chkE Γ c e=true->PE X e (tD X.K (evE Κ Φ c)))(hQ:∀(Γ:Gm) (X:Cx) (r:Nat) (l:Expr) (ops:List CmpOp) (rs:List Expr) (pos:Pos),Cok Γ Κ Φ X r->chkE Γ c (.Compare l ops rs pos)=true->PT X (.Compare l ops rs pos) (tDT X.K fun ρ=>evE Κ Φ c ρ>>=fun x=>z0z x.2))(hx:isX c<2):Sd Κ Φ c:=⟨hE,fun _ _ _ _ _ h=>ff (x_T hx) h,hQ,fun _ _ _ _ _ h=>ff (x_A hx) h,fun _ _ _ _ _ h=>ff (x_O hx) h,fun _ _ _ _ _ _ _ h=>ff (x_W hx) h,fun _ _ _ _ _ h=>ff (x_G hx) h⟩
theorem x_Q {Γ:Gm}{l:Expr}{ops:List CmpOp}{rs:List Expr}{pos:Pos}(h:isX c=0):chkE Γ c (.Compare l ops rs pos)=false:=by cases c<;>first|rfl|(cases h;done)
theorem Sd.x (hE:∀(Γ:Gm) (X:Cx) (r:Nat) (e:Expr),Cok Γ Κ Φ X r->chkE Γ c e=true->PE X e (tD X.K (evE Κ Φ c)))(hx:isX c=0):Sd Κ Φ c:=Sd.q hE (fun _ _ _ _ _ _ _ _ h=>ff (x_Q hx) h) (by rw[hx];exact Nat.zero_lt_two)
theorem zow {i:Nat}:Sd Κ Φ (.var i):=Sd.x (fun Γ X r e k h=>by obtain⟨x,p,rfl,h⟩:=z1y h;obtain⟨h1,h2,h3,h4⟩:=k.vis h;exact zog h1 h2 h3 h4) rfl
theorem zrb:Sd Κ Φ .non:=Sd.x (fun Γ X r e k h=>by obtain⟨_,_,rfl⟩:=zc9 (tu h);exact z45 znt fun _ _=>rfl) rfl
theorem p_bl {b:Bool}:Sd Κ Φ (.bl b):=Sd.x (fun Γ X r e k h=>by obtain⟨_,_,rfl⟩:=zc9 (tu h);exact z45 zri fun _ _=>rfl) rfl
theorem zrc {b:Int}:Sd Κ Φ (.int b):=Sd.x (fun Γ X r e k h=>by obtain⟨_,_,rfl⟩:=zc9 (tu h);exact z45 znv fun _ _=>rfl) rfl
theorem zom {b:Str}:Sd Κ Φ (.str b):=Sd.x (fun Γ X r e k h=>by obtain⟨h1,h2⟩:=and2 h;obtain⟨_,_,rfl⟩:=zc9 (tu h1);exact z45 zkn fun _ _=>⟨rfl,h2⟩) rfl
theorem zmt {j:Nat}{x:Str}:Sd Κ Φ (.glob j x):=Sd.x (fun Γ X r e k h=>by
 obtain⟨y,p,rfl,h9⟩:=z1y h;obtain⟨h1,h2,h3⟩:=and3 h9;cases t8 h1;obtain⟨g1,g2⟩:=k.gl h2;obtain⟨d,a,c1,c2,c3⟩:=k.cst j _ (t8 h3);cases hi:imm d with
 |true=>
  refine PE.imp (zlw g1 c2 g2 hi c3) fun σ H Q hq=>?_
  have ee:evE Κ Φ (.glob j x)=fun _=>.ok (.fr,d):=by
   funext ρ
   show(match Κ[j]? with|some d=>if imm d=true then Res.ok (G.fr,d)else .no|none=>.no)=_;rw[c1];show(if imm d=true then Res.ok (G.fr,d)else .no)=_;rw[hi];rfl
  rw[ee]at hq;exact hq
 |false=>intro pins s σ H Q I zz;obtain⟨ρ,F,z,so,e,q⟩:=zz;have e:(match Κ[j]? with|some d=>if imm d=true then Res.ok (G.fr,d)else .no|none=>.no)=.ok z:=e;rw[c1]at e;have e:(if imm d=true then Res.ok (G.fr,d)else .no)=.ok z:=e;rw[hi]at e;cases e) rfl
theorem zr8 {op:jl}(ia:Sd Κ Φ a)(ib:Sd Κ Φ b):Sd Κ Φ (.bin op a b):=Sd.x (fun Γ X r e k h=>by obtain⟨v,hv,h9⟩:=z00 h;obtain⟨p,rfl⟩:=zmn hv;obtain⟨h1,h2,h3,h4⟩:=and4 h9;cases tu h1;exact zp0 h2 (ia.E Γ X r _ k h3) (ib.E Γ X r _ k h4)) rfl
theorem zky {Γ:Gm}{op:CmpOp}{e:Expr}(h:chkE Γ (.cmp op a b) e=true):∃l r p,e=.Compare l [op] [r] p/\z1z op=true/\gp op r=false/\chkE Γ a l=true/\chkE Γ b r=true:=by obtain⟨⟨l,o,rs⟩,hv,h9⟩:=z00 h;obtain⟨p,rfl⟩:=q_Cm hv;obtain⟨h1,h2⟩:=and2 h9;obtain⟨r,hr,h3⟩:=z00 h2;cases tu h1;cases z1f hr;obtain⟨h2,h3,h4,h5⟩:=and4 h3;exact⟨l,r,p,rfl,h2,z0l h3,h4,h5⟩
theorem zq6 {op:CmpOp}(ia:Sd Κ Φ a)(ib:Sd Κ Φ b):Sd Κ Φ (.cmp op a b):=Sd.q (fun Γ X r e k h=>by
 obtain⟨_,_,_,rfl,h2,h3,h4,h5⟩:=zky h;exact zp4 k.hu h2 h3 (ia.E Γ X r _ k h4) (ib.E Γ X r _ k h5)) (fun Γ X r l ops rs p k h=>by
 obtain⟨_,_,_,he,h2,h3,h4,h5⟩:=zky h;cases he;exact zod k.hu h2 h3 (ia.E Γ X r _ k h4) (ib.E Γ X r _ k h5)) Nat.one_lt_two
theorem zbo {Γ:Gm}{op op':CmpOp}{e:Expr}(h:chkE Γ (.chain op op' a b c) e=true):∃l m r p,e=.Compare l [op,op'] [m,r] p/\z1z op=true/\z1z op'=true/\m6 [op,op'] [m,r]=false/\chkE Γ a l=true/\chkE Γ b m=true/\chkE Γ c r=true:=by obtain⟨⟨l,o,rs⟩,hv,h9⟩:=z00 h;obtain⟨p,rfl⟩:=q_Cm hv;obtain⟨h1,h2⟩:=and2 h9;obtain⟨r,hr,h3⟩:=z00 h2;cases tu h1;cases zdm hr;obtain⟨h2,h3,h4,h5,h6⟩:=and5 h3;obtain⟨h6,h7⟩:=and2 h6;exact⟨l,r.1,r.2,p,rfl,h2,h3,z0l h4,h5,h6,h7⟩
theorem zi5 {op op':CmpOp}(ia:Sd Κ Φ a)(ib:Sd Κ Φ b)(ic:Sd Κ Φ c):Sd Κ Φ (.chain op op' a b c):=Sd.q (fun Γ X r e k h=>by
 obtain⟨_,_,_,_,rfl,h3,h4,h5,h6,h7,h8⟩:=zbo h;exact zhu k.hu h3 h4 h5 (ia.E Γ X r _ k h6) (ib.E Γ X r _ k h7) (ic.E Γ X r _ k h8)) (fun Γ X r l ops rs p k h=>by
 obtain⟨_,_,_,_,he,h3,h4,h5,h6,h7,h8⟩:=zbo h;cases he;exact zik k.hu h3 h4 h5 (ia.E Γ X r _ k h6) (ib.E Γ X r _ k h7) (ic.E Γ X r _ k h8)) Nat.one_lt_two
theorem z33 {f g:Expr->Bool}{o:BoolOp}{p:Pos}{xs:List Expr}(h:z90 f g o p xs=true):(∃x y,xs=[x,y]/\f x=true/\g y=true)\/∃x y z r,xs=x::y::z::r/\f x=true/\g (.BoolOp o (y::z::r) p)=true:=by
 rcases xs with _|⟨x,_|⟨y,_|⟨z,xs⟩⟩⟩
 ·cases h
 ·cases h
 ·exact .inl ⟨x,y,rfl,(and2 h).1,(and2 h).2⟩
 ·exact .inr ⟨x,y,z,xs,rfl,(and2 h).1,(and2 h).2⟩
theorem zob (ia:Sd Κ Φ a)(ib:Sd Κ Φ b):Sd Κ Φ (.and a b) where
 E:=fun Γ X r e k h=>by
  obtain⟨⟨o,xs,p⟩,hv,h9⟩:=z00 h;cases q_Bo hv;obtain⟨h1,h2⟩:=and2 h9;cases tu h1;rcases z33 h2 with⟨x,y,rfl,h3,h4⟩|⟨x,y,z,t,rfl,h3,h4⟩
  ·exact znr (ia.E Γ X r _ k h3) (zf1 (ib.E Γ X r _ k h4))
  ·exact znr (ia.E Γ X r _ k h3) (ib.E Γ X r _ k h4)
 T:=fun Γ X r e k h=>by
  obtain⟨⟨o,xs,p⟩,hv,h9⟩:=z00 h;cases q_Bo hv;obtain⟨h1,h2⟩:=and2 h9;cases tu h1;rcases z33 h2 with⟨x,y,rfl,h3,h4⟩|⟨x,y,z,t,rfl,h3,h4⟩
  ·have w:=w_and (pos:=p) (ia.T Γ X r _ k h3).1 (zfz (ib.T Γ X r _ k h4).1);exact⟨w.pt,fun _=>w⟩
  ·have w:=w_and (pos:=p) (ia.T Γ X r _ k h3).1 ((ib.T Γ X r _ k h4).2 ⟨_,_,_,rfl⟩);exact⟨w.pt,fun _=>w⟩
 Q:=fun _ _ _ _ _ _ _ _ h=>ff rfl h
 A:=fun _ _ _ _ _ h=>ff rfl h
 O:=fun _ _ _ _ _ h=>ff rfl h
 W:=fun _ _ _ _ _ _ _ h=>ff rfl h
 G:=fun _ _ _ _ _ h=>ff rfl h
theorem p_or (ia:Sd Κ Φ a)(ib:Sd Κ Φ b):Sd Κ Φ (.or a b) where
 E:=fun Γ X r e k h=>by
  obtain⟨⟨o,xs,p⟩,hv,h9⟩:=z00 h;cases q_Bo hv;obtain⟨h1,h2⟩:=and2 h9;cases tu h1;rcases z33 h2 with⟨x,y,rfl,h3,h4⟩|⟨x,y,z,t,rfl,h3,h4⟩
  ·exact d_or (ia.E Γ X r _ k h3) (zf1 (ib.E Γ X r _ k h4))
  ·exact d_or (ia.E Γ X r _ k h3) (ib.E Γ X r _ k h4)
 T:=fun Γ X r e k h=>by
  obtain⟨⟨o,xs,p⟩,hv,h9⟩:=z00 h;cases q_Bo hv;obtain⟨h1,h2⟩:=and2 h9;cases tu h1;rcases z33 h2 with⟨x,y,rfl,h3,h4⟩|⟨x,y,z,t,rfl,h3,h4⟩
  ·have w:=w_or (pos:=p) (ia.T Γ X r _ k h3).1 (zfv (ib.T Γ X r _ k h4).1);exact⟨w.pt,fun _=>w⟩
  ·have w:=w_or (pos:=p) (ia.T Γ X r _ k h3).1 ((ib.T Γ X r _ k h4).2 ⟨_,_,_,rfl⟩);exact⟨w.pt,fun _=>w⟩
 Q:=fun _ _ _ _ _ _ _ _ h=>ff rfl h
 A:=fun _ _ _ _ _ h=>ff rfl h
 O:=fun _ _ _ _ _ h=>ff rfl h
 W:=fun _ _ _ _ _ _ _ h=>ff rfl h
 G:=fun _ _ _ _ _ h=>ff rfl h
theorem zqx (ia:Sd Κ Φ a):Sd Κ Φ (.not a) where
 E:=fun Γ X r e k h=>by obtain⟨⟨o,x⟩,hv,h9⟩:=z00 h;obtain⟨p,rfl⟩:=q_Un hv;obtain⟨h1,h2⟩:=and2 h9;cases tu h1;exact zp1 (ia.E Γ X r _ k h2)
 T:=fun Γ X r e k h=>by obtain⟨⟨o,x⟩,hv,h9⟩:=z00 h;obtain⟨p,rfl⟩:=q_Un hv;obtain⟨h1,h2⟩:=and2 h9;cases tu h1;exact⟨z8i (ia.T Γ X r _ k h2).1,fun⟨_,_,_,z⟩=>by cases z⟩
 Q:=fun _ _ _ _ _ _ _ _ h=>ff rfl h
 A:=fun _ _ _ _ _ h=>ff rfl h
 O:=fun _ _ _ _ _ h=>ff rfl h
 W:=fun _ _ _ _ _ _ _ h=>ff rfl h
 G:=fun _ _ _ _ _ h=>ff rfl h
theorem zbn {e:Expr}(h:zej e=true):∃l o r p,e=.Compare l o r p:=by cases e<;>first|exact ff rfl h|exact⟨_,_,_,_,rfl⟩
theorem p_tv (ia:Sd Κ Φ a):Sd Κ Φ (.tv a) where
 E:=fun _ _ _ _ _ h=>ff rfl h
 T:=fun Γ X r e k h=>by
  obtain⟨h1,h2⟩:=and2 h;rcases d9.mp h1 with h1|h1
  ·exact⟨zpg (ia.E Γ X r _ k h2) (z3o h1 _),fun⟨_,_,_,z⟩=>by subst z;cases h1⟩
  ·obtain⟨_,_,_,_,rfl⟩:=zbn h1;exact⟨ia.Q Γ X r _ _ _ _ k h2,fun⟨_,_,_,z⟩=>by cases z⟩
 Q:=fun _ _ _ _ _ _ _ _ h=>ff rfl h
 A:=fun _ _ _ _ _ h=>ff rfl h
 O:=fun Γ X r e k h=>by obtain⟨v,rfl,h⟩:=z00 h;exact zmd (ia.E Γ X r _ k h)
 W:=fun Γ X r e tg k _ h=>w_tv (ia.E Γ X r _ k (and2 h).2)
 G:=fun Γ X r e k h=>⟨a,rfl,ia.E Γ X r _ k h⟩
theorem zo7 (ic:Sd Κ Φ c)(ia:Sd Κ Φ a)(ib:Sd Κ Φ b):Sd Κ Φ (.ife c a b):=Sd.x (fun Γ X r e k h=>by obtain⟨v,hv,h9⟩:=z00 h;obtain⟨p,rfl⟩:=zk2 hv;obtain⟨h1,h2,h3⟩:=and3 h9;exact zox (ic.T Γ X r _ k h1).1 (ia.E Γ X r _ k h2) (ib.E Γ X r _ k h3)) rfl
theorem zpd (ia:Sd Κ Φ a):Sd Κ Φ (.tup a):=Sd.x (fun Γ X r e k h=>by obtain⟨v,hv,h9⟩:=z00 h;obtain⟨_,_,rfl⟩:=zdb hv;obtain⟨h1,h2⟩:=and2 h9;exact zpv (ia.A Γ X r _ k h2) fun ρ ys e=>by rw[z39 Κ Φ h2 ρ ys e];exact zfc (tu h1)) rfl
theorem zp3 (ia:Sd Κ Φ a):Sd Κ Φ (.lst a):=Sd.x (fun Γ X r e k h=>by obtain⟨v,hv,h9⟩:=z00 h;obtain⟨_,rfl⟩:=zmy hv;obtain⟨h1,h2⟩:=and2 h9;exact zrl (ia.A Γ X r _ k h2) fun ρ ys e=>by rw[z39 Κ Φ h2 ρ ys e];exact zfc (tu h1)) rfl
theorem zn1:Sd Κ Φ .dnew:=Sd.x (fun Γ X r e k h=>by obtain⟨⟨a,b⟩,hv,h9⟩:=z00 h;obtain⟨_,rfl⟩:=q_Di hv;obtain⟨h1,h2⟩:=and2 h9;cases z0q h1;cases z0q h2;exact zm3) rfl
theorem p_ix (ia:Sd Κ Φ a)(ib:Sd Κ Φ b):Sd Κ Φ (.ix a b):=Sd.x (fun Γ X r e k h=>by obtain⟨v,hv,h9⟩:=z00 h;obtain⟨_,rfl⟩:=zda hv;obtain⟨h1,h2,h3⟩:=and3 h9;exact d_ix k.hu h1 (ia.E Γ X r _ k h2) (ib.E Γ X r _ k h3)) rfl
theorem p_sl {lo hi:C}(ia:Sd Κ Φ a)(il:Sd Κ Φ lo)(ih:Sd Κ Φ hi):Sd Κ Φ (.sl a lo hi):=Sd.x (fun Γ X r e k h=>by obtain⟨⟨x,i⟩,hv,h9⟩:=z00 h;obtain⟨_,rfl⟩:=zda hv;obtain⟨⟨l,u,s⟩,hs,h8⟩:=z00 h9;obtain⟨_,rfl⟩:=zot hs;obtain⟨h1,h2,h3,h4⟩:=and4 h8;cases fo.mp h1;exact d_sl (ia.E Γ X r _ k h2) (il.O Γ X r _ k h3) (ih.O Γ X r _ k h4)) rfl
theorem znu {j:Nat}{f:Str}{args:C}(ia:Sd Κ Φ args):Sd Κ Φ (.call j f args):=Sd.x (fun Γ X r e k h=>by
 obtain⟨⟨x,es⟩,hv,h9⟩:=z00 h;obtain⟨_,_,rfl⟩:=z13 hv;obtain⟨h1,h2,h3,h4,h5⟩:=and5 h9;obtain⟨y,es,rfl⟩:=z1q h5;obtain⟨h0,h1⟩:=and2 h1;cases t8 h1;obtain⟨g1,g2⟩:=k.gl h2;obtain⟨m,kk,ps,c1,c2,c3⟩:=k.fns j _ _ (t8 h3);refine PE.imp (znx c3 (k.room h0) c2 (ia.A Γ X r _ k h4) (z0w h4) g1 g2 (z39 Κ Φ h4)) fun σ H Q hq=>?_
 have ee:evE Κ Φ (.call j x args)=fun ρ=>evA Κ Φ args ρ>>=fun ys=>m (ys.map (·.2))>>=fun r=>.ok (gJ r.2 (rtG r.1),r.2):=by
  funext ρ
  show(evA Κ Φ args ρ>>=fun ys=>match Φ[j]? with|some m=>m (ys.map (·.2))>>=fun r=>.ok (gJ r.2 (rtG r.1),r.2)|none=>.no)=_;rw[c1]
 rw[ee]at hq;exact hq) rfl
theorem p_bi {f:String}{args:C}(ia:Sd Κ Φ args):Sd Κ Φ (.bi f args):=Sd.x (fun Γ X r e k h=>by
 obtain⟨⟨x,es⟩,hv,h9⟩:=z00 h;obtain⟨_,_,rfl⟩:=z13 hv;obtain⟨h1,h2,h3,h4,h5⟩:=and5 h9;obtain⟨y,es,rfl⟩:=z1q h5;have h1:=t8 h1;obtain⟨g1,g2,g3,g4⟩:=k.blt h2;obtain⟨h3,hcm⟩:=and2 h3;have hf:f∈["len","int"]:=bq.mp h3;have ha:=ia.A Γ X r _ k h4;simp only[ak,d8,or_false]at hf;rcases hf with rfl|rfl
 ·exact d_cB zbf g2 (by rw[h1];decide+kernel) ha (z0w h4) g1 g4 g3
 ·exact zqr zii g2 (by rw[h1];decide+kernel) ha (z0w h4) g1 g4 g3) rfl
theorem zq1 {f:String}(ia:Sd Κ Φ a):Sd Κ Φ (.agg f a):=Sd.x (fun Γ X r e k h=>by
 obtain⟨⟨x,es⟩,hv,h9⟩:=z00 h;obtain⟨_,_,rfl⟩:=z13 hv;obtain⟨h1,h2,h3,h4⟩:=and4 h9;obtain⟨y,hy,k5⟩:=z00 h4;obtain⟨k4,k6⟩:=and2 k5;cases z1f hy;have k1:=t8 h1;obtain⟨g1,g2,g3,g4⟩:=k.blt h2;obtain⟨a,rfl,ha⟩:=ia.G Γ X r _ k k6;have k7:=z0l k4;obtain⟨h3,hcm⟩:=and2 h3;have hf:f∈aggs:=bq.mp h3;simp only[aggs,ak,d8,or_false]at hf;rcases hf with rfl
 ·exact zmc (zr4 (k.calm hcm)) g2 (by rw[k1];decide+kernel) k7 ha g1 g4 g3) rfl
theorem zpm {ts:List String}(ia:Sd Κ Φ a):Sd Κ Φ (.isT a ts):=Sd.x (fun Γ X r e k h=>by obtain⟨⟨x,es⟩,hv,h9⟩:=z00 h;obtain⟨_,_,rfl⟩:=z13 hv;obtain⟨h1,h2,h3⟩:=and3 h9;obtain⟨⟨y,t⟩,hy,k3⟩:=z00 h3;obtain⟨k4,h4,k5⟩:=and3 k3;obtain⟨T,hT,k6⟩:=z00 k5;cases zdm hy;cases z1f hT;cases t8 h1;obtain⟨g1,g2,g3,g4⟩:=k.blt h2;obtain⟨x2,p2,rfl,rfl,hb,kT⟩:=zin k6;obtain⟨b1,b2,b3,b4⟩:=k.blt hb;exact zpl g2 g1 b2 (zdx kT) b1 b4 b3 kT (z0l k4) (ia.E Γ X r _ k h4)) rfl
theorem p_mt {m:String}{args:C}(io:Sd Κ Φ a)(ia:Sd Κ Φ args):Sd Κ Φ (.mt m a args):=Sd.x (fun Γ X r e k h=>by
 obtain⟨⟨x,n,es,b⟩,hv,h9⟩:=z00 h;obtain⟨ap,cp,rfl,hb⟩:=q_Mt hv;obtain⟨h0,h6,h7,h8⟩:=and4 h9;obtain⟨h1,h2,h3,h4,h5⟩:=and5 h0;obtain⟨y,es,rfl⟩:=z1q h8;cases t8 h1;have k4:(ap.endLine==cp.line)=true:=hb.symm.trans h4;have ho:=io.E Γ X r _ k h6;have ha:=ia.A Γ X r _ k h7;have hm:m∈["join"]:=bq.mp h2;simp only[d8,ak,or_false]at hm;rcases hm with rfl
 ·exact d_mt PySem.F.plainAttrs_str PySem.F.slot_str_join PySem.F.type_str_join zk9 (fun _ _ _ _ _ _ r e=>zit r e) ho ha h3 (z0w h7) (tu h5) k4) rfl
theorem zoq {Γ:Gm}{X:Cx}{ifs:List Expr}{n:Nat}(ic:Sd Κ Φ c)(k:Cok Γ Κ Φ X n)(h:ifsB (isNl c) (fun t=>chkT Γ c t) ifs=true):PTs X ifs (tDT X.K (evT Κ Φ c)):=by
 cases ifs with
 |nil=>
  have:c=.nil:=by cases c<;>first|exact ff rfl h|rfl
  subst this;refine fun pins s σ H Q I q=>zj3 pins s σ H Q I ?_;obtain⟨ρ,F,b,so,e,q⟩:=q;cases e;exact q H (Same.refl H)
 |cons t r=>obtain⟨h1,h2⟩:=and2 h;cases z0q h1;exact zfx (ic.T Γ X n t k h2).1
theorem sC {nt:Nat}{js:List Nat}{N':List Str}{tg:Tg}{it cond elt:C}(ii:Sd Κ Φ it)(ic:Sd Κ Φ cond)(ie:Sd Κ Φ elt){Γ:Gm}{X:Cx}{r:Nat}{e:Expr}(k:Cok Γ Κ Φ X r)(h:chkE Γ (.comp nt js N' tg it cond elt) e=true):
  ∃el t i ifs scope pos,e=.ListComp el [⟨t,i,ifs,0⟩] scope pos/\BlkScope X scope N' nt js/\(∀i∈tgIx tg,i<nt)/\PI X t i (tDW X.K (evW Κ Φ it))/\(∀C fp s H,PG (blk X scope N' C fp s H) t (tDG X.K tg))/\(∀C fp s H,PTs (blk X scope N' C fp s H) ifs (tDT X.K (evT Κ Φ cond)))/\(∀C fp s H,PE (blk X scope N' C fp s H) el (tD X.K (evE Κ Φ elt)))/\(∀x,fi i X.env x=pure x)/\Γ.cm=true:=by
 obtain⟨⟨el,gs,scope⟩,hv,h9⟩:=z00 h;obtain⟨pos,rfl⟩:=q_LC hv;obtain⟨⟨t,i,ifs,kk⟩,hg,h9⟩:=z00 h9;cases z1f hg;obtain⟨h0,h6,h7,h8,h9⟩:=and5 h9;obtain⟨h1,h2,h3,h4,h5⟩:=and5 h0;obtain⟨hcm,h1⟩:=and2 h1;cases t8 h1;have h2:=bp.mp h2;have hB:BlkScope X scope N' nt js:=zju k.hN k.hs h3;have kb:=fun C fp s H=>k.blk (N':=N') hB.kind (tu h5) C fp s H;exact⟨el,t,i,ifs,scope,pos,rfl,hB,fun i hi=>tu (h2 i hi),ii.W Γ X r _ t k (and2 h6).2 h7,fun C fp s H=>z8k (kb C fp s H) (and2 h6).1,fun C fp s H=>zoq ic (kb C fp s H) h8,fun C fp s H=>ie.E _ _ r _ (kb C fp s H) h9,z27 h4 _,hcm⟩
theorem zmu {nt:Nat}{js:List Nat}{N':List Str}{tg:Tg}{it cond elt:C}(ii:Sd Κ Φ it)(ic:Sd Κ Φ cond)(ie:Sd Κ Φ elt):Sd Κ Φ (.comp nt js N' tg it cond elt):=Sd.x (fun Γ X r e k h=>by obtain⟨el,t,i,ifs,scope,pos,rfl,hB,h2,hi,hg,ht,he,hs,hcm⟩:=sC ii ic ie k h;exact(zfd (k.calm hcm) hB h2 hi hg ht he hs).1) rfl
theorem zrs (ia:Sd Κ Φ a):Sd Κ Φ (.upr a):=Sd.x (fun Γ X r e k h=>by obtain⟨⟨x,n,es,b⟩,hv,h9⟩:=z00 h;obtain⟨ap,cp,rfl,hb⟩:=q_Mt hv;obtain⟨h0,h1,h2⟩:=and3 h9;obtain⟨h3,h4,h5⟩:=and3 h0;cases z0q h1;cases t8 h3;exact zpi (ia.E Γ X r _ k h2) h4 (hb.symm.trans h5)) rfl
theorem zr6 (ia:Sd Κ Φ a)(ib:Sd Κ Φ b):Sd Κ Φ (.spl a b):=Sd.x (fun Γ X r e k h=>by obtain⟨⟨x,n,es,bb⟩,hv,h9⟩:=z00 h;obtain⟨ap,cp,rfl,hb⟩:=q_Mt hv;obtain⟨h0,h1,h2⟩:=and3 h9;obtain⟨h3,h4,h5⟩:=and3 h0;obtain⟨y,hy,h6⟩:=z00 h2;cases z1f hy;obtain⟨h7,h8⟩:=and2 h6;cases t8 h3;exact zor (ia.E Γ X r _ k h1) (ib.E Γ X r _ k h8) h4 (z0l h7) (hb.symm.trans h5)) rfl
theorem zrk {b:Bool}{x:Str}:Sd Κ Φ (.isE b x):=Sd.x (fun Γ X r e k h=>by obtain⟨⟨f,es⟩,hv,h9⟩:=z00 h;obtain⟨_,_,rfl⟩:=z13 hv;obtain⟨h1,h2,h3⟩:=and3 h9;obtain⟨⟨y1,y2⟩,hy,h4⟩:=z00 h3;cases zdm hy;obtain⟨⟨n,c⟩,hz,h5⟩:=z00 h4;obtain⟨h6,h7⟩:=and2 h5;obtain⟨n',p1,hn,h6⟩:=z1y h6;obtain⟨C,p2,hC,h7⟩:=z1y h7;cases hn;cases hC;obtain⟨a1,a2,a3,a4⟩:=and4 h6;obtain⟨b1,b2,b3⟩:=and3 h7;cases t8 h1;cases t8 a1;cases t8 b1;obtain⟨g1,g2,g3,g4⟩:=k.blt h2;obtain⟨g5,g6⟩:=k.gl b2;obtain⟨a,oe,Cc,e1,e2,e3,e4⟩:=k.xc n c hz;obtain⟨A,v,u,m1,xa,xv,sb,rv,ru,mC⟩:=k.xk.sub c x b b3;rw[m1]at e4;cases e4;exact zq7 g2 g1 e1 (by rw[k.hs];exact t8 a2) (z0l a3) e2 e3 g5 mC rv ru g6 xa xv sb) rfl
theorem zo4:Sd Κ Φ .nil where
 E:=fun _ _ _ _ _ h=>ff rfl h
 T:=fun _ _ _ _ _ h=>ff rfl h
 Q:=fun _ _ _ _ _ _ _ _ h=>ff rfl h
 A:=fun Γ X r es k h=>by cases z0q h;exact zlm
 O:=fun Γ X r e k h=>by cases fo.mp h;exact z8e
 W:=fun _ _ _ _ _ _ _ h=>ff rfl h
 G:=fun _ _ _ _ _ h=>ff rfl h
theorem zks (ia:Sd Κ Φ a)(ib:Sd Κ Φ b):Sd Κ Φ (.cons a b) where
 E:=fun _ _ _ _ _ h=>ff rfl h
 T:=fun _ _ _ _ _ h=>ff rfl h
 Q:=fun _ _ _ _ _ _ _ _ h=>ff rfl h
 A:=fun Γ X r es k h=>by
  cases es with
  |nil=>cases h
  |cons e es=>obtain⟨h1,h2,h3⟩:=and3 h;exact za5 (z0l h1) (ia.E Γ X r _ k h2) (ib.A Γ X r _ k h3)
 O:=fun _ _ _ _ _ h=>ff rfl h
 W:=fun _ _ _ _ _ _ _ h=>ff rfl h
 G:=fun _ _ _ _ _ h=>ff rfl h
theorem zrh (ia:Sd Κ Φ a):Sd Κ Φ (.rng a) where
 E:=fun _ _ _ _ _ h=>ff rfl h
 T:=fun _ _ _ _ _ h=>ff rfl h
 Q:=fun _ _ _ _ _ _ _ _ h=>ff rfl h
 A:=fun _ _ _ _ _ h=>ff rfl h
 O:=fun _ _ _ _ _ h=>ff rfl h
 W:=fun Γ X r e tg k _ h=>by
  obtain⟨⟨x,es⟩,hv,h9⟩:=z00 h;obtain⟨_,_,rfl⟩:=z13 hv;obtain⟨h1,h2,h3,h4⟩:=and4 h9;obtain⟨h4,h5⟩:=and2 h4;cases t8 h1;obtain⟨g1,g2,g3,g4⟩:=k.blt h2;have hs:=bp.mp (z0w h3);have hl:=z39 Κ Φ h3;have ha:=ia.A Γ X r _ k h3;rcases es with _|⟨x,_|⟨y,es⟩⟩
  ·cases h4
  ·exact zle g2 g1 (z0l (hs x (.head _))) ha hl
  ·exact absurd (tu h5) (Nat.not_le.mpr (Nat.succ_lt_succ (Nat.succ_pos _)))
 G:=fun _ _ _ _ _ h=>ff rfl h
theorem zff {e:Expr}(h:isTup e=true):∃a b c,e=.Tuple a b c:=by cases e<;>first|exact ff rfl h|exact⟨_,_,_,rfl⟩
theorem zf0 {Γ:Gm}{e:Expr}(h:chkW Γ (.enum a) e=true):∃y q p,e=.Call (.Name "enumerate" q) [y] [] p/\bltB Γ "enumerate"=true/\isStar y=false/\chkE Γ a y=true:=by obtain⟨⟨x,es⟩,hv,h9⟩:=z00 h;obtain⟨q,p,rfl⟩:=z13 hv;obtain⟨h1,h2,h3⟩:=and3 h9;obtain⟨y,hy,h3⟩:=z00 h3;cases z1f hy;cases t8 h1;exact⟨y,q,p,rfl,h2,z0l (and2 h3).1,(and2 h3).2⟩
theorem zmg {Γ:Gm}{e:Expr}(h:chkW Γ (.zip a b) e=true):∃y z q p,e=.Call (.Name "zip" q) [y,z] [] p/\bltB Γ "zip"=true/\isStar y=false/\isStar z=false/\chkE Γ a y=true/\chkE Γ b z=true:=by obtain⟨⟨x,es⟩,hv,h9⟩:=z00 h;obtain⟨q,p,rfl⟩:=z13 hv;obtain⟨h1,h2,h3⟩:=and3 h9;obtain⟨⟨y,z⟩,hy,h3⟩:=z00 h3;cases zdm hy;cases t8 h1;obtain⟨h4,h5,h6⟩:=and3 h3;exact⟨y,z,q,p,rfl,h2,z0l (and2 h4).1,z0l (and2 h4).2,h5,h6⟩
theorem zlo (ia:Sd Κ Φ a):Sd Κ Φ (.enum a) where
 E:=fun _ _ _ _ _ h=>ff rfl h
 T:=fun _ _ _ _ _ h=>ff rfl h
 Q:=fun _ _ _ _ _ _ _ _ h=>ff rfl h
 A:=fun _ _ _ _ _ h=>ff rfl h
 O:=fun _ _ _ _ _ h=>ff rfl h
 W:=fun Γ X r e tg k ht h=>by obtain⟨y,q,p,rfl,h2,h3,h4⟩:=zf0 h;obtain⟨_,_,_,rfl⟩:=zff ht;obtain⟨g1,g2,g3,g4⟩:=k.blt h2;exact z9k g2 g1 h3 (ia.E Γ X r _ k h4)
 G:=fun _ _ _ _ _ h=>ff rfl h
theorem zpr (ia:Sd Κ Φ a)(ib:Sd Κ Φ b):Sd Κ Φ (.zip a b) where
 E:=fun _ _ _ _ _ h=>ff rfl h
 T:=fun _ _ _ _ _ h=>ff rfl h
 Q:=fun _ _ _ _ _ _ _ _ h=>ff rfl h
 A:=fun _ _ _ _ _ h=>ff rfl h
 O:=fun _ _ _ _ _ h=>ff rfl h
 W:=fun Γ X r e tg k ht h=>by obtain⟨y,z,q,p,rfl,h2,h3,h4,h5,h6⟩:=zmg h;obtain⟨g1,g2,g3,g4⟩:=k.blt h2;exact zqm ht g2 g1 h3 h4 (ia.E Γ X r _ k h5) (ib.E Γ X r _ k h6)
 G:=fun _ _ _ _ _ h=>ff rfl h
theorem all (c:C):Sd Κ Φ c:=by
 induction c with
 |var=>exact zow
 |non=>exact zrb
 |bl=>exact p_bl
 |int=>exact zrc
 |str=>exact zom
 |glob=>exact zmt
 |bin _ _ _ ia ib=>exact zr8 ia ib
 |cmp _ _ _ ia ib=>exact zq6 ia ib
 |chain _ _ _ _ _ ia ib ic=>exact zi5 ia ib ic
 |and _ _ ia ib=>exact zob ia ib
 |or _ _ ia ib=>exact p_or ia ib
 |not _ ia=>exact zqx ia
 |ife _ _ _ ic ia ib=>exact zo7 ic ia ib
 |tup _ ia=>exact zpd ia
 |lst _ ia=>exact zp3 ia
 |dnew=>exact zn1
 |ix _ _ ia ib=>exact p_ix ia ib
 |sl _ _ _ ia ib ic=>exact p_sl ia ib ic
 |call _ _ _ ia=>exact znu ia
 |bi _ _ ia=>exact p_bi ia
 |agg _ _ ia=>exact zq1 ia
 |isT _ _ ia=>exact zpm ia
 |mt _ _ _ ia ib=>exact p_mt ia ib
 |comp _ _ _ _ _ _ _ ia ib ic=>exact zmu ia ib ic
 |upr _ ia=>exact zrs ia
 |spl _ _ ia ib=>exact zr6 ia ib
 |rng _ ia=>exact zrh ia
 |enum _ ia=>exact zlo ia
 |zip _ _ ia ib=>exact zpr ia ib
 |tv _ ia=>exact p_tv ia
 |isE=>exact zrk
 |nil=>exact zo4
 |cons _ _ ia ib=>exact zks ia ib
end
section
variable (Κ:List D)(Φ:List Fn)
theorem z6u {el:Expr}{gs:List jy}{s:Scope}{p px:Pos}{t:Str}{n:Nat}{env:Env}:jo (.ListComp el gs s p) (some (.Name t px)) n env=pure (env.blockKind==.function&&env.kindOf t==some .local&&px.line==p.line&& !(s.names.any fun(n,k)=>n==t&&(k==.local||k==.cell))):=rfl
theorem zgu {Γ:Gm}{c:C}{el:Expr}{gs:List jy}{s:Scope}{p:Pos}(hn:isCI c=false)(h:chkE Γ c (.ListComp el gs s p)=true):∃nt js N' tg it cond elt,c=.comp nt js N' tg it cond elt:=by cases c<;>first|exact ff rfl h|exact⟨_,_,_,_,_,_,_,rfl⟩|(cases hn;done)
theorem zh1 {Γ:Gm}{c:C}{el:Expr}{gs:List jy}{s:Scope}{p:Pos}(h:chkE Γ c (.SetComp el gs s p)=true):False:=by cases c<;>exact ff rfl h
theorem zj2 {Γ:Gm}{c:C}{el el2:Expr}{gs:List jy}{s:Scope}{p:Pos}(h:chkE Γ c (.DictComp el el2 gs s p)=true):False:=by cases c<;>exact ff rfl h
theorem sAsg {Γ:Gm}{X:Cx}{r:Nat}(k:Cok Γ Κ Φ X r){i:Nat}{x:Str}{px pos:Pos}{c:C}{v:Expr}(h1:locB Γ i x=true)(hn:isCI c=false)(h2:chkE Γ c v=true):PS X (.Assign [.Name x px] v pos) (tDS X.K fun ρ=>evE Κ Φ c ρ>>=fun x=>.ok (.nx (ρ.set i (some (z16 x))))):=by
 obtain⟨l1,l2,l3⟩:=k.loc h1;have nd:X.N.Nodup:=by rw[k.hN];exact k.nd
 cases hc:z1e v with
 |false=>exact zku nd l1 l2 l3 (z1g hc _ _ _) ((all c).E Γ X r _ k h2)
 |true=>
  cases v<;>first|(cases hc;done)|skip
  ·rename_i el gs s p;cases hb:(X.env.blockKind==.function&&X.env.kindOf x==some .local&&px.line==p.line&& !(s.names.any fun(n,k)=>n==x&&(k==.local||k==.cell)))with
   |false=>exact zku nd l1 l2 l3 (by rw[z6u,hb]) ((all c).E Γ X r _ k h2)
   |true=>
    obtain⟨nt,js,N',tg,it,cond,elt,rfl⟩:=zgu hn h2;obtain⟨el',t,i',ifs,scope,pos',e,hB,h0,hi,hg,ht,he,hs,hcm⟩:=sC (all it) (all cond) (all elt) k h2;cases e;have hl:X.env.scope.names.lookup x=some .local:=by simp only[aq,beq_iff_eq]at hb;exact hb.1.1.2
    refine PS.imp (zci (k.calm hcm) nd l1 hl hB hi hg ht he (by rw[z6u,hb]) hs) fun D σ H q=>?_;exact zfg (fa:=zaf nt js tg (evW Κ Φ it) (evT Κ Φ cond) (evE Κ Φ elt)) (fun σ H Q z=>(zfd (pos:=p) (k.calm hcm) hB h0 hi hg ht he hs).2 σ H Q z) D σ H q
  ·exact(zh1 h2).elim
  ·exact(zj2 h2).elim
theorem sFF {Γ:Gm}{X:Cx}{r:Nat}(k:Cok Γ Κ Φ X r){c:C}{ie tg:Expr}(hh:chkF Γ c tg ie=true):PI X tg ie (tDF X.K (evF Κ Φ c))/\z98 ie=true:=by
 obtain⟨ht,h⟩:=and2 hh;have hw:=(all (Κ:=Κ) (Φ:=Φ) c).W Γ X r ie tg k ht h;cases c with
 |tv a=>
  have hal:=PI.orD (k:=fun ρ=>isAl Κ Φ (.tv a) ρ) (f_al ((all a).E Γ X r _ k (and2 h).2)) (zln hw);refine⟨?_,(and2 h).1⟩;cases a with
  |var i=>obtain⟨x,p,rfl,h2⟩:=z1y (and2 h).2;obtain⟨v1,v2,v3,v4⟩:=k.vis h2;exact PI.orD (k:=fun ρ=>ownB ρ i) (zre v1 v2 v3 v4) hal
  |_=>exact hal
 |enum a=>obtain⟨y,q,p,rfl,h2,h3,h4⟩:=zf0 h;obtain⟨_,_,_,rfl⟩:=zff ht;obtain⟨g1,g2,g3,g4⟩:=k.blt h2;exact⟨zj7 g2 g1 h3 ((all a).E Γ X r _ k h4),rfl⟩
 |zip a b=>
  obtain⟨y,z,q,p,rfl,h2,h3,h4,h5,h6⟩:=zmg h;obtain⟨g1,g2,g3,g4⟩:=k.blt h2
  have ez:evF Κ Φ (.zip a b)=fun ρ=>(evE Κ Φ a ρ>>=fun x=>evE Κ Φ b ρ>>=fun y=>Res.ok [x,y])>>=fun ys=>evZi ys ρ:=by
   funext ρ
   show((evE Κ Φ a ρ>>=fun x=>(evE Κ Φ b ρ>>=fun y=>Res.ok [y])>>=fun xs=>Res.ok (x::xs))>>=fun ys=>evZi ys ρ)=_;cases evE Κ Φ a ρ with
   |ok x=>cases evE Κ Φ b ρ<;>rfl
   |exc=>rfl
   |no=>rfl
  rw[ez];exact⟨zih ht g2 g1 h3 h4 ((all a).E Γ X r _ k h5) ((all b).E Γ X r _ k h6),rfl⟩
 |rng a=>refine⟨zln hw,?_⟩;obtain⟨v,hv,_⟩:=z00 h;obtain⟨_,_,rfl⟩:=z13 hv;rfl
 |_=>exact ff rfl h
theorem z5m {a:List Expr}{b:Nat}{c:Pos}{v:Expr}{env:Env}(h:isTup v=false):pd [.Tuple a b c] v env=pure none:=by cases v<;>first|rfl|(cases h;done)
theorem q_As {s:Stmt}{v:List Expr×Expr}(h:vAs s=some v):∃p,s=.Assign v.1 v.2 p:=v_of (q:=fun v=>∃p,s=.Assign v.1 v.2 p) h (by cases s<;>first|exact .inl rfl|exact .inr ⟨_,rfl,_,rfl⟩)
theorem q_Ex {s:Stmt}{v:Expr}(h:vEx s=some v):∃p,s=.Expr v p:=v_of (q:=fun v=>∃p,s=.Expr v p) h (by cases s<;>first|exact .inl rfl|exact .inr ⟨_,rfl,_,rfl⟩)
theorem q_Rt {s:Stmt}{v:Option Expr}(h:vRt s=some v):∃p,s=.Return v p:=v_of (q:=fun v=>∃p,s=.Return v p) h (by cases s<;>first|exact .inl rfl|exact .inr ⟨_,rfl,_,rfl⟩)
theorem q_If {s:Stmt}{v:Expr×List Stmt×List Stmt}(h:vIf s=some v):∃p,s=.If v.1 v.2.1 v.2.2 p:=v_of (q:=fun v=>∃p,s=.If v.1 v.2.1 v.2.2 p) h (by cases s<;>first|exact .inl rfl|exact .inr ⟨_,rfl,_,rfl⟩)
theorem q_Fo {s:Stmt}{v:Expr×Expr×List Stmt×List Stmt}(h:vFo s=some v):∃p,s=.For v.1 v.2.1 v.2.2.1 v.2.2.2 p:=v_of (q:=fun v=>∃p,s=.For v.1 v.2.1 v.2.2.1 v.2.2.2 p) h (by cases s<;>first|exact .inl rfl|exact .inr ⟨_,rfl,_,rfl⟩)
theorem q_Ps {s:Stmt}{v:Nat}(h:vPs s=some v):(v=0/\∃p,s=.Pass p)\/(v=1/\∃p,s=.Break p)\/(v=2/\∃p,s=.Continue p):=v_of (q:=fun v=>(v=0/\∃p,s=.Pass p)\/(v=1/\∃p,s=.Break p)\/(v=2/\∃p,s=.Continue p)) h (by cases s<;>first|exact .inl rfl|exact .inr ⟨_,rfl,.inl ⟨rfl,_,rfl⟩⟩|exact .inr ⟨_,rfl,.inr (.inl ⟨rfl,_,rfl⟩)⟩|exact .inr ⟨_,rfl,.inr (.inr ⟨rfl,_,rfl⟩)⟩)
structure Ss (s:S):Prop where
 R:∀(Γ:Gm) (X:Cx) (r:Nat) (st:Stmt),Cok Γ Κ Φ X r->fg (model X.prog X.w) X.A X.env X.xe->chk1 Γ s st=true->PS X st (tDS X.K (evS Κ Φ s))
 L:∀(Γ:Gm) (X:Cx) (r:Nat) (st:List Stmt),Cok Γ Κ Φ X r->fg (model X.prog X.w) X.A X.env X.xe->chkL Γ s st=true->PSs X st (tDS X.K (evS Κ Φ s))
def isSq:S->Bool
 |.nil=>false
 |.seq _ _=>false
 |_=>true
variable {Κ:List D}{Φ:List Fn}
theorem Ss.x {s:S}(h:∀(Γ:Gm) (X:Cx) (r:Nat) (st:Stmt),Cok Γ Κ Φ X r->fg (model X.prog X.w) X.A X.env X.xe->chk1 Γ s st=true->PS X st (tDS X.K (evS Κ Φ s)))(hx:isSq s=true):Ss Κ Φ s:=⟨h,by cases s<;>first|(cases hx;done)|exact fun _ _ _ _ _ _ h=>ff rfl h⟩
theorem zof {t:Tg}{e:C}:Ss Κ Φ (.asg t e):=Ss.x (fun Γ X r st k hp h=>by
 obtain⟨⟨ts,v⟩,hv,h9⟩:=z00 h;obtain⟨p,rfl⟩:=q_As hv;obtain⟨x,hx,h8⟩:=z00 h9;cases z1f hx;obtain⟨h1,h2,h3,h4⟩:=and4 h8;cases t with
 |nm i=>obtain⟨y,q,rfl,h5⟩:=z1y h1;exact sAsg Κ Φ k h5 (z0l h2) h4
 |tp is=>obtain⟨k1,k2⟩:=and2 (show(!z1e v&& !isTup v)=true from h3);obtain⟨es,hes,_⟩:=z00 (and2 h1).2;obtain⟨_,_,rfl⟩:=zdb hes;exact zjg (z8k k (t:=.tp is) h1) ((all e).E Γ X r _ k h4) ((show pc [_] _ _ _=jo _ _ _ _ from rfl).trans (z1g (z0l k1) _ _ _)) (z5m (z0l k2)) rfl) rfl
theorem zqv {m:String}{i:Nat}{args:C}:Ss Κ Φ (.mut m i args):=Ss.x (fun Γ X r st k hp h=>by
 obtain⟨c,hv,h9⟩:=z00 h;obtain⟨p,rfl⟩:=q_Ex hv;obtain⟨⟨x,n,es,b⟩,hm,h8⟩:=z00 h9;obtain⟨ap,cp,rfl,hb⟩:=q_Mt hm;obtain⟨h0,h6,h7⟩:=and3 h8;obtain⟨h1,h2,h3,h4,h5⟩:=and5 h0;obtain⟨z,q,hz,k1⟩:=z1y h1;cases hz;obtain⟨y,es,rfl⟩:=z1q h6;cases t8 h2;have hm:m∈["append","insert","pop"]:=bq.mp h3;simp only[d8,ak,or_false]at hm;obtain⟨v1,v2,v3,v4⟩:=k.vis k1;rcases hm with rfl|rfl|rfl
 ·exact zdo v1 v2 v3 v4 ((all args).A Γ X r _ k h7) (z0w h7) (tu h5) (hb.symm.trans h4)
 ·exact zdt v1 v2 v3 v4 ((all args).A Γ X r _ k h7) (z0w h7) (tu h5) (hb.symm.trans h4)
 ·exact zgs v1 v2 v3 v4 ((all args).A Γ X r _ k h7) (z0w h7) (tu h5) (hb.symm.trans h4)) rfl
theorem zqj {e:C}:Ss Κ Φ (.ret e):=Ss.x (fun Γ X r st k hp h=>by
 obtain⟨o,hv,h9⟩:=z00 h;obtain⟨p,rfl⟩:=q_Rt hv;obtain⟨v,rfl,h8⟩:=z00 h9;have g:=(all (Κ:=Κ) (Φ:=Φ) e).E Γ X r _ k h8;cases e with
 |var i=>obtain⟨x,q,rfl,h7⟩:=z1y h8;obtain⟨v1,v2,v3,v4⟩:=k.vis h7;exact zak v1 v2 v3 v4
 |_=>exact zpk g) rfl
theorem q_if {c:C}{a b:S}(ia:Ss Κ Φ a)(ib:Ss Κ Φ b):Ss Κ Φ (.ifS c a b):=Ss.x (fun Γ X r st k hp h=>by obtain⟨v,hv,h9⟩:=z00 h;obtain⟨p,rfl⟩:=q_If hv;obtain⟨h1,h2,h3⟩:=and3 h9;exact s_if ((all c).T Γ X r _ k h1).1 (ia.L Γ X r _ k hp h2) (ib.L Γ X r _ k hp h3)) rfl
theorem zn6 {t:Tg}{it:C}{b:S}(ib:Ss Κ Φ b):Ss Κ Φ (.for_ t it b):=Ss.x (fun Γ X r st k hp h=>by obtain⟨hcm,h⟩:=and2 h;obtain⟨⟨t,i,B,o⟩,hv,h9⟩:=z00 h;obtain⟨p,rfl⟩:=q_Fo hv;obtain⟨h1,h2,h3,h4⟩:=and4 h9;cases z0q h4;obtain⟨hf,hn⟩:=sFF Κ Φ k h2;exact zos hp (k.calm hcm) hf (z8k k h1) (ib.L Γ X r _ k hp h3) (z27 hn _)) rfl
theorem Cok.inX {Γ:Gm}{X:Cx}{r i:Nat}{n c:Str}{a C:Addr}{oe:Obj}(k:Cok Γ Κ Φ X r)(nd:(Γ.N.set i "").Nodup)(hc:oe.cls=.ref C)(hm:X.mg c=some (.ref C)):Cok {Γ with N:=Γ.N.set i "",cm:=false,xc:=some (n,c),fns:=[]} Κ Φ (Mi.inX X i n a oe) r where
 hN:=by show X.N.set i ""=Γ.N.set i "";rw[k.hN]
 hs:=k.hs
 nd:=nd
 fn:=k.fn
 kind:=k.kind
 free:=k.free
 fns:=fun j f n e=>by simp at e
 cst:=k.cst
 fnx:=fun j f n e=>by simp at e
 room:=fun z=>by cases z
 calm:=fun z=>by cases z
 hu:=k.hu
 fun_:=k.fun_
 fx0:=fun z=>by cases z
 xc:=fun n' c' z=>by cases z;exact⟨a,oe,C,rfl,fun _ _ _ _ I=>(I.pin (a,oe) (d7 _ ai)).1,hc,hm⟩
 xk:=⟨k.xk.sub,k.xk.rs,k.xk.hnd⟩
theorem q_Eh {h:ExceptHandler}{v:Str×Str×List Stmt}(e:vEh h=some v):∃np hp,h=.ExceptHandler (some (.Name v.1 np)) (some v.2.1) v.2.2 hp:=by
 unfold vEh at e;split at e
 ·cases e;exact⟨_,_,rfl⟩
 ·cases e
theorem q_Ra {s:Stmt}{v:Str×List Expr}(e:vRa s=some v):∃np cp pos,s=.Raise (some (.Call (.Name v.1 np) v.2 [] cp)) none pos:=by
 unfold vRa at e;split at e
 ·obtain⟨q,p,rfl⟩:=z13 e;exact⟨_,_,_,rfl⟩
 ·cases e
theorem zce (s:S):Ss Κ Φ s:=by
 induction s with
 |nil=>exact⟨fun _ _ _ _ _ _ h=>ff rfl h,fun Γ X r st k hp h=>by cases z0q h;exact zpc⟩
 |seq a b ia ib=>
  refine⟨fun _ _ _ _ _ _ h=>ff rfl h,fun Γ X r st k hp h=>?_⟩;cases st with
  |nil=>cases h
  |cons s st=>exact zr3 (ia.R Γ X r _ k hp (and2 h).1) (ib.L Γ X r _ k hp (and2 h).2)
 |bad=>refine Ss.x (fun Γ X r st k hp h=>?_) rfl;intro pins s σ H D I q;obtain⟨ρ,F,out,so,e,_⟩:=q;cases e
 |cnt=>
  refine Ss.x (fun Γ X r st k hp h=>?_) rfl;rcases q_Ps (tu h)with⟨z,_⟩|⟨z,_⟩|⟨_,p,rfl⟩
  ·cases z
  ·cases z
  ·exact zo5
 |asg=>exact zof
 | «mut»=>exact zqv
 |ret=>exact zqj
 |ifS _ _ _ ia ib=>exact q_if ia ib
 |for_ _ _ _ ib=>exact zn6 ib
theorem sL (Κ:List D)(Φ:List Fn)(s:S):∀(Γ:Gm) (X:Cx) (r:Nat) (st:List Stmt),Cok Γ Κ Φ X r->fg (model X.prog X.w) X.A X.env X.xe->chkL Γ s st=true->PSs X st (tDS X.K (evS Κ Φ s)):=(zce s).L
end
section
variable (Κ:List D)(Φ:List Fn)
structure Se (c:C):Prop where
 E:∀(Γ:Gm) (X:Cx) (r:Nat) (e:Expr),Cok Γ Κ Φ X r->chkE Γ c e=true->PE X e (tR X (exE Κ Φ c))
 A:∀(Γ:Gm) (X:Cx) (r:Nat) (es:List Expr),Cok Γ Κ Φ X r->chkA Γ c es=true->PA X es (tRA X (exA Κ Φ c))
 T:∀(Γ:Gm) (X:Cx) (r:Nat) (e:Expr),Cok Γ Κ Φ X r->chkT Γ c e=true->PT X e (tRT X (exT Κ Φ c))
variable {Κ Φ}
theorem no_E {X:Cx}{e:Expr}{c:C}(h:∀ρ,exE Κ Φ c ρ=none):PE X e (tR X (exE Κ Φ c)):=fun pins s σ H Q I z=>(z5v h σ H z).elim
theorem no_A {X:Cx}{e:List Expr}{c:C}(h:∀ρ,exA Κ Φ c ρ=none):PA X e (tRA X (exA Κ Φ c)):=fun pos pins s σ H Q I z=>(z5v h σ H z).elim
theorem no_T {X:Cx}{e:Expr}{c:C}(h:∀ρ,exT Κ Φ c ρ=none):PT X e (tRT X (exT Κ Φ c)):=fun pins s σ H Q I z=>(z5v h σ H z).elim
theorem Se.no {c:C}(h1:∀ρ,exE Κ Φ c ρ=none)(h2:∀ρ,exA Κ Φ c ρ=none)(h3:∀ρ,exT Κ Φ c ρ=none):Se Κ Φ c:=⟨fun _ _ _ _ _ _=>no_E h1,fun _ _ _ _ _ _=>no_A h2,fun _ _ _ _ _ _=>no_T h3⟩
theorem zn4 {j:Nat}{f:Str}{args:C}(ia:Se Κ Φ args):Se Κ Φ (.call j f args) where
 E:=fun Γ X r e k h=>by
  obtain⟨⟨x,es⟩,hv,h9⟩:=z00 h;obtain⟨_,_,rfl⟩:=z13 hv;obtain⟨h1,h2,h3,h4,h5⟩:=and5 h9;obtain⟨y,es,rfl⟩:=z1q h5;obtain⟨h0,h1⟩:=and2 h1;cases t8 h1;obtain⟨g1,g2⟩:=k.gl h2;obtain⟨m,kk,ps,c1,c2,c3⟩:=k.fnx j _ _ (t8 h3);refine PE.imp (zgp c3 (k.room h0) c2 ((all args).A Γ X r _ k h4) (ia.A Γ X r _ k h4) (z0w h4) g1 g2 (z39 Κ Φ h4)) fun σ H Q hq=>?_
  have ee:exE Κ Φ (.call j x args)=fun ρ=>match(evA Κ Φ args ρ:Res (List GD))with|.ok ys=>excOf (m (qm (fun(y:GD)=>y.2) ys))|_=>exA Κ Φ args ρ:=by
   funext ρ
   show(match(evA Κ Φ args ρ:Res (List GD))with|.ok ys=>(match Φ[j]? with|some m=>excOf (m (qm (fun(y:GD)=>y.2) ys))|none=>none)|_=>exA Κ Φ args ρ)=_;rw[c1]
  rw[ee]at hq;exact hq
 A:=fun _ _ _ _ _ h=>ff rfl h
 T:=fun _ _ _ _ _ h=>ff rfl h
theorem allE (c:C):Se Κ Φ c:=by
 induction c with
 |call _ _ _ ia=>exact zn4 ia
 |cons a r ia ir=>
  refine⟨fun _ _ _ _ _ h=>ff rfl h,fun Γ X n es k h=>?_,fun _ _ _ _ _ h=>ff rfl h⟩;cases es with
  |nil=>cases h
  |cons e es=>obtain⟨h1,h2,h3⟩:=and3 h;exact ziy (z0l h1) ((all a).E Γ X n _ k h2) (ia.E Γ X n _ k h2) (ir.A Γ X n _ k h3)
 |not a ia=>refine⟨fun _ _ _ _ _ _=>no_E fun _=>rfl,fun _ _ _ _ _ h=>ff rfl h,fun Γ X r e k h=>?_⟩;obtain⟨⟨o,x⟩,hv,h9⟩:=z00 h;obtain⟨p,rfl⟩:=q_Un hv;obtain⟨h1,h2⟩:=and2 h9;cases tu h1;exact zjc (ia.T Γ X r _ k h2)
 |tv a ia=>
  refine⟨fun _ _ _ _ _ h=>ff rfl h,fun _ _ _ _ _ h=>ff rfl h,fun Γ X r e k h=>?_⟩;obtain⟨h1,h2⟩:=and2 h;rcases d9.mp h1 with h1|h1
  ·exact zmr (ia.E Γ X r _ k h2) (z3o h1 _)
  ·obtain⟨_,_,_,_,rfl⟩:=zbn h1;cases a<;>first|exact no_T fun _=>rfl|exact ff rfl h2
 |_=>exact Se.no (fun _=>rfl) (fun _=>rfl) fun _=>rfl
variable (Κ Φ)
structure Sq (s:S):Prop where
 R:∀(Γ:Gm) (X:Cx) (r:Nat) (st:Stmt),Cok Γ Κ Φ X r->fg (model X.prog X.w) X.A X.env X.xe->chk1 Γ s st=true->PS X st (tRS X (evX Κ Φ s))
 L:∀(Γ:Gm) (X:Cx) (r:Nat) (st:List Stmt),Cok Γ Κ Φ X r->fg (model X.prog X.w) X.A X.env X.xe->chkL Γ s st=true->PSs X st (tRS X (evX Κ Φ s))
variable {Κ Φ}
theorem Sq.x {s:S}(h:∀(Γ:Gm) (X:Cx) (r:Nat) (st:Stmt),Cok Γ Κ Φ X r->fg (model X.prog X.w) X.A X.env X.xe->chk1 Γ s st=true->PS X st (tRS X (evX Κ Φ s)))(hx:isSq s=true):Sq Κ Φ s:=⟨h,by cases s<;>first|(cases hx;done)|exact fun _ _ _ _ _ _ h=>ff rfl h⟩
theorem Sq.no {s:S}(h:∀ρ,evX Κ Φ s ρ=none)(hx:isSq s=true):Sq Κ Φ s:=Sq.x (fun Γ X r st k hp hc pins sh σ H D I z=>(z5v h σ H z).elim) hx
theorem allX (s:S):Sq Κ Φ s:=by
 induction s with
 |nil=>exact⟨fun _ _ _ _ _ _ h=>ff rfl h,fun Γ X r st k hp h=>by cases z0q h;exact zmo⟩
 |seq a b ia ib=>
  refine⟨fun _ _ _ _ _ _ h=>ff rfl h,fun Γ X r st k hp h=>?_⟩;cases st with
  |nil=>cases h
  |cons s st=>exact zkz ((zce a).R Γ X r _ k hp (and2 h).1) (ia.R Γ X r _ k hp (and2 h).1) (ib.L Γ X r _ k hp (and2 h).2)
 |ifS c a b ia ib=>refine Sq.x (fun Γ X r st k hp h=>?_) rfl;obtain⟨v,hv,h9⟩:=z00 h;obtain⟨p,rfl⟩:=q_If hv;obtain⟨h1,h2,h3⟩:=and3 h9;exact zqa ((all c).T Γ X r _ k h1).1 ((allE c).T Γ X r _ k h1) (ia.L Γ X r _ k hp h2) (ib.L Γ X r _ k hp h3)
 |for_ t it b ib=>refine Sq.x (fun Γ X r st k hp h=>?_) rfl;obtain⟨hcm,h⟩:=and2 h;obtain⟨⟨t,i,B,o⟩,hv,h9⟩:=z00 h;obtain⟨p,rfl⟩:=q_Fo hv;obtain⟨h1,h2,h3,h4⟩:=and4 h9;cases z0q h4;obtain⟨hf,hn⟩:=sFF Κ Φ k h2;exact zkr hp (k.calm hcm) hf (z8k k h1) ((zce b).L Γ X r _ k hp h3) (ib.L Γ X r _ k hp h3) (z27 hn _)
 |ret e=>refine Sq.x (fun Γ X r st k hp h=>?_) rfl;obtain⟨o,hv,h9⟩:=z00 h;obtain⟨p,rfl⟩:=q_Rt hv;obtain⟨v,rfl,h8⟩:=z00 h9;exact zjs ((allE e).E Γ X r _ k h8)
 |asg t e=>
  cases t with
  |tp is=>exact Sq.no (fun _=>rfl) rfl
  |nm i=>
   cases e with
   |call j f args=>
    refine Sq.x (fun Γ X r st k hp h=>?_) rfl;obtain⟨⟨ts,v⟩,hv,h9⟩:=z00 h;obtain⟨p,rfl⟩:=q_As hv;obtain⟨x,hx,h8⟩:=z00 h9;cases z1f hx;obtain⟨h1,h2,h3,h4⟩:=and4 h8;obtain⟨y,q,rfl,h5⟩:=z1y h1;obtain⟨l1,l2,l3⟩:=k.loc h5;have hc:z1e v=false:=by obtain⟨u,hu,_⟩:=z00 h4;obtain⟨_,_,rfl⟩:=z13 hu;rfl
    exact zjq (by rw[k.hN];exact k.nd) l1 l2 l3 hc ((allE _).E Γ X r _ k h4)
   |_=>exact Sq.no (fun _=>rfl) rfl
 |_=>exact Sq.no (fun _=>rfl) rfl
end
section
variable {P:ax}{w:World}{K:W.Frag}{mg:Str->Option Value}{base:Heap}
structure Dok (Γ:Gm)(Κ:List D)(Φ:List Fn)(P:ax)(w:World)(K:W.Frag)(mg:Str->Option Value)(base:Heap)(k:Nat):Prop where
 free:∀x,Γ.free.contains x=true->mg x=none
 fns:∀(j:Nat) f n,Γ.fns[j]?=some (f,n)->∃m k' ps,Φ[j]?=some m/\k'<=k/\Cal P w K mg base k' f ps (spD K n m)
 cst:∀(j:Nat) x,Γ.cst[j]?=some x->∃d a,Κ[j]?=some d/\mg x=some (.ref a)/\∀H B,B none->Rep K H B (.ref a) d
 fnx:∀(j:Nat) f n,Γ.fns[j]?=some (f,n)->∃m k' ps,Φ[j]?=some m/\k'<=k/\CalX P w K mg base k' f ps n m
 xk:Xok Γ K mg
theorem z7z {H:Hp}{A:Ad->Prop}{vs:List V}{ds:List D}{n:Nat}(r:Reps K H A vs ds):StOk K ⟨H,fun a=>H a=none\/A (some a),fun _=>none,A none⟩ H (vs.map some++bj (n-vs.length) none) (ds.map (fun d=>some (.od,d))++bj (n-ds.length) none) where
 ext:=Same.refl H
 vis:=fun a e=>.inl e
 own:=fun a i e=>by cases e
 len:=by have:=r.length;simp only[br,av,cn];omega
 sl:=fun i g d e=>by
  rw[lr]at e;split at e
  ·rename_i hi;rw[bu]at e;cases h1:ds[i]? with
   |none=>rw[h1]at e;cases e
   |some d'=>
    rw[h1]at e;cases e;obtain⟨v,h2,h3⟩:=Reps.get r h1;refine⟨v,?_,?_⟩
    ·rw[lr,if_pos (by rw[av,r.length];rw[av]at hi;exact hi),bu,h2];rfl
    ·refine(Rep.there _ h3).weak fun a h=>?_;cases a with
     |none=>exact h.1
     |some a=>exact⟨fun z=>h.2 z,.inr h.1⟩
  ·rw[cj]at e;split at e<;>cases e
theorem z9g {Κ:List D}{Φ:List Fn}{s:S}{ρ:Rho}{x:GD}(e:(match evX Κ Φ s ρ with|some c=>Res.exc (.str c)|none=>.no)=Res.ok x):False:=by cases h:evX Κ Φ s ρ<;>rw[h]at e<;>cases e
theorem d_fn {Γ:Gm}{Κ:List D}{Φ:List Fn}{x:Str}{st:Stmt}{ps:List Str}{k:Nat}{s:S}{f:Addr}{fd:di}(Fu:Fun K x x st f fd)(Sc:FnScope Γ.N ps (z07 st))(hs:Γ.sc=z07 st)(hb:Γ.blk=false)(hxc:Γ.xc=none)(dk:Dok Γ Κ Φ P w K mg base k)(hc:chkL Γ s (z08 st)=true):
  FnOk P w K mg base CX0 (k+1) f fd ps (spD K ps.length (runD Κ Φ Γ.N.length s)):=by
 refine Fu.ok Sc (fun vs H Q E h=>h.choose_spec.choose_spec.choose_spec.1) fun cdv A outer s1 H vs Q E hr hsp=>?_;obtain⟨B,ds,r,hl,rs,e,q⟩:=hsp;refine⟨_,sL Κ Φ s Γ (cxOf CX0 P w K mg base Γ.N x (z07 st) f cdv A outer s1 H E).nox k _ ⟨rfl,hs.symm,Sc.nd,fun _ _=>rfl,by rw[hs];exact Sc.kind,dk.free,dk.fns,dk.cst,dk.fnx,fun _=>hr,fun _=>rfl,hr.units,fun _=>⟨rfl,rfl⟩,fun _=>rfl,fun _ _ z=>(by rw[hxc]at z;cases z),dk.xk⟩ PassesOwn.never hc,?_⟩;unfold runD at e;have so:=z7z (n:=Γ.N.length) rs;have hd:ds.length=vs.length:=(rs.length).symm;generalize ho:evS Κ Φ s (ds.map (fun d=>some (.od,d))++bj (Γ.N.length-ds.length) none)=out at e
 match out,ho,e with
 |.ok (.nx ρ'),ho,e=>cases e;refine⟨_,_,_,so,ho,fun σ' H' F' so' ru fr=>q .non H' (fun a o e=>(fr a o e rfl).1) rfl⟩
 |.ok (.rt g d),ho,e=>
  cases e;refine⟨_,_,_,so,ho,fun v H' hk rv=>q v H' hk (rv.weak fun a h=>?_)⟩;cases g with
  |fr=>cases a<;>exact h
  |nu=>cases a<;>exact h
  |od=>cases a with
   |none=>exact .inr h
   |some a=>exact(show H a=none\/B (some a)from h).elim .inl fun z=>.inr z
  |al=>cases a with
   |none=>exact .inr h
   |some a=>exact(show H a=none\/B (some a)from h).elim .inl fun z=>.inr z
 |.exc _,ho,e=>exact(z9g (Κ:=Κ) (Φ:=Φ) e).elim
 |.no,ho,e=>exact(z9g (Κ:=Κ) (Φ:=Φ) e).elim
theorem zou {Γ:Gm}{Κ:List D}{Φ:List Fn}{x:Str}{st:Stmt}{ps:List Str}{k:Nat}{s:S}{f:Addr}{fd:di}(Fu:Fun K x x st f fd)(Sc:FnScope Γ.N ps (z07 st))(hs:Γ.sc=z07 st)(hb:Γ.blk=false)(hxc:Γ.xc=none)(dk:Dok Γ Κ Φ P w K mg base k)(hc:chkL Γ s (z08 st)=true):
  FnOk P w K mg base (CXE P w base) (k+1) f fd ps (spX K mg ps.length (runD Κ Φ Γ.N.length s)):=by
 obtain⟨oc,od,kV,doc,pm,an,cdv,ct,osl,rfl,lk,hcd⟩:=Fu.ex;refine zgt lk hcd Sc (fun vs H Q E h=>h.choose_spec.choose_spec.choose_spec.1) fun A outer s1 H vs Q E hr hsp=>?_;obtain⟨B,ds,c,hl,rs,e,q⟩:=hsp;refine⟨_,(allX s).L Γ (cxOf (CXE P w base) P w K mg base Γ.N x (z07 st) f cdv A outer s1 H E) k _ ⟨rfl,hs.symm,Sc.nd,fun _ _=>rfl,by rw[hs];exact Sc.kind,dk.free,dk.fns,dk.cst,dk.fnx,fun _=>hr,fun _=>rfl,hr.units,fun _=>⟨rfl,rfl⟩,fun _=>rfl,fun _ _ z=>(by rw[hxc]at z;cases z),dk.xk⟩ PassesOwn.leaving hc,?_⟩;have so:=z7z (n:=Γ.N.length) rs;refine⟨_,_,c,so,?_,?_⟩
 ·unfold runD at e;split at e
  ·cases e
  ·cases e
  ·cases e
  ·split at e
   ·rename_i h;cases e;exact h
   ·cases e
 ·refine⟨fun pins σ H1 s2 a C args h' I hm hS hx=>?_,fun pins σ H1 s2 a C H' s' I hm hS fl=>?_⟩
  ·exact z97 I hx rfl rfl rfl fun s3 fl=>⟨a,C,none,H1,rfl,fl,q C H1 hm hS⟩
  ·exact fl.leave (outer:=[]) I rfl rfl rfl fun s3 fl=>⟨a,C,none,H',rfl,fl,q C H' hm hS⟩
theorem z91 {K:W.Frag}{H:Hp}{a:Addr}{ns:List Int}(h:SqL K H a (ns.map V.int)):Reps K H (fun _=>True) [.ref a] [.list (ns.map .int)]:=by
 refine⟨_,_,rfl,⟨a,ns.map V.int,rfl,?_,?_⟩,rfl⟩
 ·rcases h with(h|h)|h
  ·exact .inl ⟨h,trivial⟩
  ·exact .inr ⟨.inl h,trivial⟩
  ·exact .inr ⟨.inr h,trivial⟩
 ·clear h
  induction ns with
  |nil=>rfl
  |cons n ns ih=>exact⟨_,_,rfl,rfl,ih⟩
end
section
variable {X:Cx}{pins:List (Addr×Obj)}{σ:L2.St}{H:Hp}{s:ae}{i:Nat}{n:Str}{a:Addr}{oe:Obj}
end
section
variable {P:ax}{w:World}{K:W.Frag}{mg:Str->Option Value}{base:Heap}
end
section
variable {X:Cx}{pins:List (Addr×Obj)}{σ:L2.St}{H:Hp}{s:ae}{i j:Nat}{n y c:Str}{r:Bool}
end
end Mi
namespace Mi
open PySem
structure Gd where
 kf:Nat
 args:C
 c:Str
 i:Nat
 j:Nat
 g:Str
 r:Bool
end Mi
namespace Mi
open PySem PySem.Spec PyProof.Rows L2
section
variable {X:Cx}{i j:Nat}{n y c:Str}
end
section
variable {P:ax}{w:World}{K:W.Frag}{mg:Str->Option Value}{base:Heap}
end
structure XR where
 c:Str
 cs:List (Str×Bool)
 B:Str
def XR.subs (r:XR):List (Str×Str×Bool):=(r.c,"ValueError",true)::r.cs.map fun y=>(r.c,y.1,y.2)
def zhm (K:W.Frag)(A:Addr):List (Str×Bool)->Prop
 | []=>True
 |y::l=>(∃D dd cd sl,W.nsIn K bh y.1=some (some (.ref D))/\K.lookup D=some ⟨.type "type",dd,.cls cd,sl⟩/\W.subIn K (.ref A) (.ref D)=some y.2)/\zhm K A l
structure Kx (K:W.Frag)(r:XR)(A D:Addr):Prop where
 a:W.nsIn K bh r.c=some (some (.ref A))
 l:∃dd cd sl,K.lookup A=some ⟨.type "type",dd,.cls cd,sl⟩
 e:W.excIn K A [.type "ValueError",.type "Exception",.type "BaseException",.type "object"] "ValueError.__new__"=true
 cl:W.findIn K (.ref A) "__class__"=some (some (.builtin "object.__class__"))
 ga:W.findIn K (.ref A) "__getattribute__"=some (some (.builtin "BaseException.__getattribute__"))
 gt:W.findIn K (.ref A) "__getattr__"=some none
 ob:W.subIn K (.ref A) (.type "object")=some true
 be:W.subIn K (.ref A) (.type "BaseException")=some true
 v:W.subIn K (.ref A) (.type "ValueError")=some true
 b:W.nsIn K bh r.B=some (some (.ref D))
 f:W.excIn K D [.type "ValueError",.type "Exception",.type "BaseException",.type "object"] "ValueError.__new__"=true
 s:W.subIn K (.ref A) (.ref D)=some true
 cs:zhm K A r.cs
def kxs (K:W.Frag):List XR->Prop
 | []=>True
 |r::l=>(∃A D,Kx K r A D)/\kxs K l
inductive Kd where
 |n
 |e (c:Str) (r:Bool)
 |g (d:Gd) (je:Nat)
structure DRow where
 nm:Str
 st:Stmt
 N:List Str
 ps:List Str
 free:List Str
 fns:List Nat
 s:S
 F:Fn
 kd:Kd
 kc:List (Str×List Str):=[]
def cD (y:Str×List Str):D:=.tuple (y.2.map .str)
def sig (Rs:List DRow)(j:Nat):Str×Nat:=match Rs[j]? with
 |some c=>(c.nm,c.ps.length)
 |none=>("",0)
def fnAt (Rs:List DRow)(j:Nat):Fn:=match Rs[j]? with
 |some c=>c.F
 |none=>fun _=>.no
def DRow.G (Rs:List DRow)(xt:List XR)(r:DRow):Gm:={N:=r.N,sc:=z07 r.st,free:=r.free,fns:=r.fns.map (sig Rs),cst:=r.kc.map (·.1),sub:=(xt.map XR.subs).flatten,rs:=xt.map (·.c),hnd:=xt.map fun r=>(r.c,r.B)}
def Kd.isE:Kd->Bool
 |.e _ _=>true
 |_=>false
def nE (Rs:List DRow)(j:Nat):Bool:=match Rs[j]? with
 |some c=>!c.kd.isE
 |none=>true
def DRow.part (Rs:List DRow)(xt:List XR)(i:Nat)(r:DRow):Bool:=match r.kd with
 |.n=>chkL (r.G Rs xt) r.s (z08 r.st)
 |.e _ _=>false
 |.g _ _=>false
def DRow.ok (Rs:List DRow)(xt:List XR)(fr:List Str)(i:Nat)(r:DRow):Bool:=
 (decide ((z07 r.st).kind=.function)&& !(z07 r.st).isCoroutine&& !(z07 r.st).isGenerator&&decide r.N.Nodup&&decide (r.N.take r.ps.length=r.ps))&&
 (r.ps.all (fun x=>(z07 r.st).names.lookup x==some .local||(z07 r.st).names.lookup x==some .cell)&&(z07 r.st).names.all (fun y=>!(y.2==.free))&&r.free.all (fun x=>fr.contains x)&&r.fns.all (fun j=>decide (j<i)&&nE Rs j)&&r.part Rs xt i)
def oks (Rs:List DRow)(xt:List XR)(fr:List Str):Nat->List DRow->Bool
 |_,[]=>true
 |i,r::l=>r.ok Rs xt fr i&&oks Rs xt fr (i+1) l
def DRow.fOk (Rs:List DRow)(r:DRow):Prop:=match r.kd with
 |.n=>r.F=runD (r.kc.map cD) (r.fns.map (fnAt Rs)) r.N.length r.s
 |.e _ _=>True
 |.g _ _=>True
def fOks (Rs:List DRow):List DRow->Prop
 | []=>True
 |r::l=>r.fOk Rs/\fOks Rs l
theorem z72 {Rs:List DRow}{xt:List XR}{fr:List Str}:∀{l:List DRow} {k i:Nat} {r:DRow},oks Rs xt fr k l=true->l[i]?=some r->r.ok Rs xt fr (k+i)=true
 | [],_,i,_,_,e=>by simp at e
 |r::l,k,0,_,h,e=>by cases e;exact(and2 h).1
 |r::l,k,i+1,_,h,e=>by
  have:=z72 (k:=k+1) (and2 h).2 (show l[i]?=some _ from e)
  rwa [show k+(i+1)=k+1+i by omega]
theorem zac {Rs:List DRow}:∀{l:List DRow} {i:Nat} {r:DRow},fOks Rs l->l[i]?=some r->r.fOk Rs
 | [],i,_,_,e=>by simp at e
 |r::l,0,_,h,e=>by cases e;exact h.1
 |r::l,i+1,_,h,e=>zac h.2 (show l[i]?=some _ from e)
section
variable {P:ax}{w:World}{K:W.Frag}{mg:Str->Option Value}{base:Heap}{Rs:List DRow}{xt:List XR}{fr:List Str}
theorem z5y {r:DRow}{i:Nat}(h:r.ok Rs xt fr i=true):FnScope (r.G Rs xt).N r.ps (z07 r.st)/\(∀x,r.free.contains x=true->fr.contains x=true)/\(∀j∈r.fns,j<i/\nE Rs j=true)/\r.part Rs xt i=true:=by
 obtain⟨h1,h2⟩:=and2 h;obtain⟨a1,a2,a3,a4,a5⟩:=and5 h1;obtain⟨b1,b2,b3,b4,b5⟩:=and5 h2;refine⟨⟨tu a1,z0l a2,z0l a3,tu a4,tu a5,fun x hx=>?_,fun y hy z=>?_⟩,fun x hx=>?_,fun j hj=>⟨tu (and2 (bp.mp b4 j hj)).1,(and2 (bp.mp b4 j hj)).2⟩,b5⟩
 ·rcases d9.mp (bp.mp b1 x hx)with q|q
  ·exact .inl (t8 q)
  ·exact .inr (t8 q)
 ·have :=z0l (bp.mp b2 y hy);rw[z]at this;cases this
 ·exact bp.mp b3 x (bq.mp hx)
def z6k (P:ax)(w:World)(K:W.Frag)(mg:Str->Option Value)(base:Heap)(i:Nat)(r:DRow):Prop:=match r.kd with
 |.e _ _=>True
 |_=>Cal P w K mg base (i+1) r.nm r.ps (spD K r.ps.length r.F)/\CalX P w K mg base (i+1) r.nm r.ps r.ps.length r.F
theorem rowN {j:Nat}{c:DRow}(h:z6k P w K mg base j c)(e:Rs[j]?=some c)(n:nE Rs j=true):Cal P w K mg base (j+1) c.nm c.ps (spD K c.ps.length c.F)/\CalX P w K mg base (j+1) c.nm c.ps c.ps.length c.F:=by
 unfold nE at n;rw[e]at n;have n:(!c.kd.isE)=true:=n;unfold z6k at h;cases hk:c.kd with
 |n=>rw[hk]at h;exact h
 |g d je=>rw[hk]at h;exact h
 |e x b=>rw[hk]at n;cases n
def zdc (K:W.Frag)(mg:Str->Option Value)(y:Str×List Str):Prop:=∃a,mg y.1=some (.ref a)/\∀H B,B none->Rep K H B (.ref a) (cD y)
theorem z9d {r:DRow}{i:Nat}(hr:Rs[i]?=some r)(h:r.ok Rs xt fr i=true)(T:∀x∈fr,mg x=none)(xk:∀Γ:Gm,Γ.sub=(xt.map XR.subs).flatten->Γ.rs=xt.map (·.c)->(Γ.hnd=xt.map fun r=>(r.c,r.B))->Xok Γ K mg)(hC:∀y∈r.kc,zdc K mg y)(ih:∀j c,j<i->Rs[j]?=some c->z6k P w K mg base j c):Dok (r.G Rs xt) (r.kc.map cD) (r.fns.map (fnAt Rs)) P w K mg base i where
 free:=fun x hx=>T x (bq.mp ((z5y h).2.1 x hx))
 fns:=fun j f n e=>by
  have e:(r.fns.map (sig Rs))[j]?=some (f,n):=e;rw[bu]at e;obtain⟨jj,ej,e⟩:=dn.mp e;obtain⟨hlt,hne⟩:=(z5y h).2.2.1 jj (du ej);have hl:i<Rs.length:=(bo.mp hr).1;have hc:Rs[jj]?=some Rs[jj]:=bg (lz hlt hl);unfold sig at e;rw[hc]at e;cases e;refine⟨fnAt Rs jj,jj+1,Rs[jj].ps,by rw[bu,ej];rfl,hlt,?_⟩;have:fnAt Rs jj=Rs[jj].F:=by unfold fnAt;rw[hc]
  rw[this];exact(rowN (ih jj _ hlt hc) hc hne).1
 cst:=fun j x e=>by have e:(r.kc.map (·.1))[j]?=some x:=e;rw[bu]at e;obtain⟨y,ey,rfl⟩:=dn.mp e;obtain⟨a,h1,h2⟩:=hC y (du ey);exact⟨cD y,a,by rw[bu,ey];rfl,h1,h2⟩
 fnx:=fun j f n e=>by
  have e:(r.fns.map (sig Rs))[j]?=some (f,n):=e;rw[bu]at e;obtain⟨jj,ej,e⟩:=dn.mp e;obtain⟨hlt,hne⟩:=(z5y h).2.2.1 jj (du ej);have hl:i<Rs.length:=(bo.mp hr).1;have hc:Rs[jj]?=some Rs[jj]:=bg (lz hlt hl);unfold sig at e;rw[hc]at e;cases e;refine⟨fnAt Rs jj,jj+1,Rs[jj].ps,by rw[bu,ej];rfl,hlt,?_⟩;have:fnAt Rs jj=Rs[jj].F:=by unfold fnAt;rw[hc]
  rw[this];exact(rowN (ih jj _ hlt hc) hc hne).2
 xk:=xk _ rfl rfl rfl
theorem zg2 (hok:oks Rs xt fr 0 Rs=true)(hF:fOks Rs Rs)(T:∀x∈fr,mg x=none)(xk:∀Γ:Gm,Γ.sub=(xt.map XR.subs).flatten->Γ.rs=xt.map (·.c)->(Γ.hnd=xt.map fun r=>(r.c,r.B))->Xok Γ K mg)(n:Nat)(hC:∀r∈Rs,∀y∈r.kc,zdc K mg y)(O:∀i r,i<n->Rs[i]?=some r->Own K mg r.nm r.st r.ps):∀i r,i<n->Rs[i]?=some r->z6k P w K mg base i r:=by
 intro i
 induction i using Nat.strongRecOn with
 |ind i ih=>
  intro r hi hr
  have ho:r.ok Rs xt fr i=true:=by
   have:=z72 hok hr
   rwa [Nat.zero_add]at this
  have ih:∀j c,j<i->Rs[j]?=some c->z6k P w K mg base j c:=fun j c hj hc=>ih j hj c (lz hj hi) hc;have D:=z9d (P:=P) (w:=w) (K:=K) (base:=base) hr ho T xk (hC r (du hr)) ih;obtain⟨Sc,hfr,_,hp⟩:=z5y ho;have hf:=zac hF hr;obtain⟨f,fd,Fu,m,kp,b⟩:=O i r hi hr;unfold DRow.fOk at hf;unfold DRow.part at hp;unfold z6k;cases hk:r.kd with
  |n=>rw[hk]at hf hp;have hf:r.F=_:=hf;show _/\_;rw[hf];exact⟨⟨f,fd,d_fn (Γ:=r.G Rs xt) Fu Sc rfl rfl rfl D hp,m,kp,b⟩,⟨f,fd,zou (Γ:=r.G Rs xt) Fu Sc rfl rfl rfl D hp,m,kp,b⟩⟩
  |e c bb=>rw[hk]at hp;cases hp
  |g d je=>rw[hk]at hp;cases hp
end
def Kf (K:W.Frag)(r:DRow)(f:Addr)(fd:di):Prop:=W.nsIn K bh r.nm=some (some (.ref f))/\∃(oc:Value) (od an:Option Addr) (sl:Array (Option Value)) (kV dc pm cd ct:Value),fd=W.fnOf r.nm r.nm (z11 r.st) (z08 r.st) (z07 r.st) .none kV dc pm an cd ct/\K.lookup f=some ⟨oc,od,.func fd,sl⟩/\W.codeIn K cd r.nm=true/\W.keepIn K (.ref f)=true
def zg5 (r:DRow):Prop:=∀(kV doc pm:Value) (an:Option Addr) (cdv ct:Value) (us:List Value),us.length=r.ps.length->si (W.fnOf r.nm r.nm (z11 r.st) (z08 r.st) (z07 r.st) .none kV doc pm an cdv ct) ⟨us,[]⟩=pure (r.ps.zip us)
theorem cut1 {us:List Value}{n:Nat}(h:us.length=n+1):∃a l,us=a::l/\l.length=n:=by
 cases us with
 |nil=>cases h
 |cons a l=>exact⟨a,l,rfl,Nat.succ.inj h⟩
theorem by1 {P:List Value->Prop}(h:∀a,P [a])(us:List Value)(z:us.length=1):P us:=by obtain⟨a,l,rfl,y⟩:=cut1 z;cases List.eq_nil_of_length_eq_zero y;exact h a
theorem by2 {P:List Value->Prop}(h:∀a b,P [a,b])(us:List Value)(z:us.length=2):P us:=by obtain⟨a,l,rfl,y⟩:=cut1 z;exact by1 (P:=fun l=>P (a::l)) (h a) l y
theorem by3 {P:List Value->Prop}(h:∀a b c,P [a,b,c])(us:List Value)(z:us.length=3):P us:=by obtain⟨a,l,rfl,y⟩:=cut1 z;exact by2 (P:=fun l=>P (a::l)) (h a) l y
theorem by4 {P:List Value->Prop}(h:∀a b c d,P [a,b,c,d])(us:List Value)(z:us.length=4):P us:=by obtain⟨a,l,rfl,y⟩:=cut1 z;exact by3 (P:=fun l=>P (a::l)) (h a) l y
def kOks (K:W.Frag):List DRow->Prop
 | []=>True
 |r::l=>((∃f fd,Kf K r f fd)/\zg5 r)/\kOks K l
theorem z9u {K:W.Frag}:∀{l:List DRow} {i:Nat} {r:DRow},kOks K l->l[i]?=some r->(∃f fd,Kf K r f fd)/\zg5 r
 | [],i,_,_,e=>by simp at e
 |r::l,0,_,h,e=>by cases e;exact h.1
 |r::l,i+1,_,h,e=>z9u h.2 (show l[i]?=some _ from e)
def strOf:Value->Option Str
 |.str x _=>if PyData.strOk x then some x else none
 |_=>none
def ck1 (K:W.Frag)(y:Str×List Str):Bool:=match W.nsIn K bh y.1 with
 |some (some (.ref a))=>(match K.lookup a with
  |some ⟨.type "tuple",none,.seq its _,_⟩=>decide (its.toList.map strOf=y.2.map some)&&decide (y.2.length<=1000)
  |_=>false)
 |_=>false
theorem z8c:∀{us:List Value} {ws:List Str},us.map strOf=ws.map some->Vals (ws.map V.str) us/\∀w∈ws,PyData.strOk w=true
 | [],[],_=>⟨.nil,fun _ h=>by cases h⟩
 | [],_::_,h=>by cases h
 |_::_,[],h=>by cases h
 |u::us,w::ws,h=>by
  obtain⟨h1,h2⟩:=List.cons.inj h;obtain⟨a,b⟩:=z8c h2;cases u with
  |str x t=>
   have h1:(if PyData.strOk x then some x else none)=some w:=h1;split at h1
   ·rename_i hx;cases h1;exact⟨.cons ⟨t,rfl⟩ a,fun z hz=>(ak.mp hz).elim (fun e=>by rw[e];exact hx) (b z)⟩
   ·cases h1
  |_=>cases h1
theorem z6z {K:W.Frag}{H:Hp}{B:Ad->Prop}:∀{ws:List Str},(∀w∈ws,PyData.strOk w=true)->Reps K H B (ws.map V.str) (ws.map PyData.str)
 | [],_=>rfl
 |w::ws,h=>Reps.cons ⟨rfl,h w (.head _)⟩ (z6z fun z hz=>h z (.tail _ hz))
theorem zp5 {K:W.Frag}{h:Heap}{mg:Str->Option Value}{y:Str×List Str}(X:K.In h)(G:h.Ns bh mg)(c:ck1 K y=true):zdc K mg y:=by
 unfold ck1 at c;split at c
 ·rename_i a ha;split at c
  ·rename_i its n sl hl;obtain⟨c1,c2⟩:=and2 c;obtain⟨v,ok⟩:=z8c (tu c1);have hz:its.size<=az:=by have e:=v.length;rw[av,dh]at e;have:=tu c2;rw[dq];omega
   exact⟨a,W.mg_of X G ha,fun H B _=>⟨a,y.2.map V.str,rfl,.inr ⟨_,its,n,hl,rfl,rfl,rfl,hz,v⟩,z6z ok⟩⟩
  ·cases c
 ·cases c
end Mi
namespace Mi
open PySem PySem.Spec PyProof.Rows L2
def kf1 (K:W.Frag)(r:DRow):Option (di×Bool):=match W.nsIn K bh r.nm with
 |some (some (.ref f))=>(match K.lookup f with
  |some ⟨_,_,.func fd,_⟩=>some (fd,W.codeIn K fd.code r.nm&&W.keepIn K (.ref f))
  |_=>none)
 |_=>none
def kf2 (r:DRow)(x:di×Bool):di×Bool:=(W.fnOf r.nm r.nm (z11 r.st) (z08 r.st) (z07 r.st) .none x.1.kwdefaults x.1.doc x.1.pyModule x.1.annotations x.1.code x.1.closureTuple,true)
def isC (K:W.Frag)(A:Addr):Bool:=match K.lookup A with
 |some ⟨.type "type",_,.cls _,_⟩=>true
 |_=>false
def MROX:List Value:=[.type "ValueError",.type "Exception",.type "BaseException",.type "object"]
def kx1 (K:W.Frag)(r:XR):Option (Bool×Bool×Option (Option Value)×Option (Option Value)×Option (Option Value)×Option Bool×Option Bool×Option Bool×Bool×Option Bool×List (Bool×Option Bool)):=match W.nsIn K bh r.c,W.nsIn K bh r.B with
 |some (some (.ref A)),some (some (.ref D))=>some (isC K A,W.excIn K A MROX "ValueError.__new__",W.findIn K (.ref A) "__class__",W.findIn K (.ref A) "__getattribute__",W.findIn K (.ref A) "__getattr__",W.subIn K (.ref A) (.type "object"),W.subIn K (.ref A) (.type "BaseException"),W.subIn K (.ref A) (.type "ValueError"),W.excIn K D MROX "ValueError.__new__",W.subIn K (.ref A) (.ref D),r.cs.map fun y=>match W.nsIn K bh y.1 with
  |some (some (.ref E))=>(isC K E,W.subIn K (.ref A) (.ref E))
  |_=>(false,none))
 |_,_=>none
def kx2 (r:XR):Option (Bool×Bool×Option (Option Value)×Option (Option Value)×Option (Option Value)×Option Bool×Option Bool×Option Bool×Bool×Option Bool×List (Bool×Option Bool)):=some (true,true,some (some (.builtin "object.__class__")),some (some (.builtin "BaseException.__getattribute__")),some none,some true,some true,some true,true,some true,r.cs.map fun y=>(true,some y.2))
theorem zez {K:W.Frag}{A:Addr}(h:isC K A=true):∃dd cd sl,K.lookup A=some ⟨.type "type",dd,.cls cd,sl⟩:=by
 unfold isC at h;split at h
 ·rename_i dd cd sl e;exact⟨dd,cd,sl,e⟩
 ·cases h
theorem zb6 {K:W.Frag}{A:Addr}:∀{l:List (Str×Bool)},(l.map fun y=>match W.nsIn K bh y.1 with
  |some (some (.ref E))=>(isC K E,W.subIn K (.ref A) (.ref E))
  |_=>(false,none))=(l.map fun y=>(true,some y.2))->zhm K A l
 | [],_=>trivial
 |y::l,h=>by
  have h:=List.cons.inj h;refine⟨?_,zb6 h.2⟩;have e:=h.1
  dsimp only at e
  split at e
  ·rename_i E hE;have e:=Prod.mk.inj e;obtain⟨dd,cd,sl,q⟩:=zez e.1;exact⟨E,dd,cd,sl,hE,q,e.2⟩
  ·cases(Prod.mk.inj e).1
theorem znh {K:W.Frag}{r:XR}(h:kx1 K r=kx2 r):∃A D,Kx K r A D:=by
 unfold kx1 kx2 at h;split at h
 ·rename_i A D hA hD;have h:=Prod.mk.inj (Option.some.inj h);have h2:=Prod.mk.inj h.2;have h3:=Prod.mk.inj h2.2;have h4:=Prod.mk.inj h3.2;have h5:=Prod.mk.inj h4.2;have h6:=Prod.mk.inj h5.2;have h7:=Prod.mk.inj h6.2;have h8:=Prod.mk.inj h7.2;have h9:=Prod.mk.inj h8.2;have h10:=Prod.mk.inj h9.2;exact⟨A,D,hA,zez h.1,h2.1,h3.1,h4.1,h5.1,h6.1,h7.1,h8.1,hD,h9.1,h10.1,zb6 h10.2⟩
 ·cases h
theorem zf2 {K:W.Frag}:∀{l:List XR},(∀r∈l,∃A D,Kx K r A D)->kxs K l
 | [],_=>trivial
 |r::_,h=>⟨h r (.head _),zf2 fun r hr=>h r (.tail _ hr)⟩
def KEq (K:eu->W.Frag)(Rs:List DRow)(fr:List Str)(xt:List XR):Prop:=∀P,(Rs.map fun r=>(kf1 (K P) r).isSome,Rs.map fun r=>kf1 (K P) r,fr.map fun n=>W.nsIn (K P) bh n,xt.map fun r=>kx1 (K P) r,Rs.map fun r=>r.kc.map fun y=>ck1 (K P) y)=(Rs.map fun _=>true,Rs.map fun r=>(kf1 (K P) r).map (kf2 r),fr.map fun _=>some none,xt.map kx2,Rs.map fun r=>r.kc.map fun _=>true)
theorem KEq_r:KEq=KEq:=rfl
theorem zkb {K:W.Frag}{r:DRow}(h:(kf1 K r).isSome=true)(e:kf1 K r=(kf1 K r).map (kf2 r)):∃f fd,Kf K r f fd:=by
 cases z:kf1 K r with
 |none=>rw[z]at h;cases h
 |some x=>
  rw[z]at e;have e:x=kf2 r x:=Option.some.inj e;unfold kf1 at z;split at z
  ·rename_i f hf;split at z
   ·rename_i oc od fd sl hl;have z:=Option.some.inj z;have z1:fd=x.1:=congrArg qo z;have z2:(W.codeIn K fd.code r.nm&&W.keepIn K (.ref f))=x.2:=congrArg sx z;have e1:x.1=(kf2 r x).1:=congrArg qo e;have e2:x.2=true:=congrArg sx e;rw[e2]at z2;have z3:=aw.mp z2;subst z1;exact⟨f,x.1,hf,oc,od,x.1.annotations,sl,x.1.kwdefaults,x.1.doc,x.1.pyModule,x.1.code,x.1.closureTuple,e1,hl,z3.1,z3.2⟩
   ·cases z
  ·cases z
theorem z7j {K:eu->W.Frag}{Rs:List DRow}{fr:List Str}{xt:List XR}(h:KEq K Rs fr xt)(P:eu):(∀r∈Rs,∃f fd,Kf (K P) r f fd)/\(∀n∈fr,W.nsIn (K P) bh n=some none)/\kxs (K P) xt/\∀r∈Rs,∀y∈r.kc,ck1 (K P) y=true:=by have a:=Prod.mk.inj (h P);have b:=Prod.mk.inj a.2;have c:=Prod.mk.inj b.2;have d:=Prod.mk.inj c.2;exact⟨fun r hr=>zkb (dg.mp a.1 r hr) (dg.mp b.1 r hr),fun n hn=>dg.mp c.1 n hn,zf2 fun r hr=>znh (dg.mp d.1 r hr),fun r hr=>dg.mp (dg.mp d.2 r hr)⟩
def bOks:List DRow->Prop
 | []=>True
 |r::l=>zg5 r/\bOks l
theorem zas {K:W.Frag}:∀{l:List DRow},(∀r∈l,∃f fd,Kf K r f fd)->bOks l->kOks K l
 | [],_,_=>trivial
 |r::_,h,b=>⟨⟨h r (.head _),b.1⟩,zas (fun r hr=>h r (.tail _ hr)) b.2⟩
end Mi
name_quick tkeq for Mi.KEq by Mi.KEq_r
namespace Mk
open Mi
section
open PySem
abbrev P:=List (Str×Int)
def pr (p:Str×Int):D:=.tuple [.str p.1,.int p.2]
def pk (l:P):D:=.tuple (l.map pr)
def ep (p:Str×Int):D×D:=(.str p.1,.int p.2)
def en (l:P):Ents:=l.map ep
def fnd:P->Str->Option Int
 | [],_=>none
 |p::l,n=>if p.1=n then some p.2 else fnd l n
def look (l:P)(n:Str):Int:=(fnd l n).getD 0
def ks (l:P):List Str:=l.map (·.1)
def sl (a b:Str):Prop:=a.cps.toList<b.cps.toList
theorem zbq (a:Str):¬sl a a:=List.lt_irrefl _
theorem zru {a b c:Str}(h:sl a b)(k:sl b c):sl a c:=List.lt_trans h k
theorem zn9 {a b:Str}(h:a.cps.toList=b.cps.toList):a=b:=by cases a;cases b;simp at h;subst h;rfl
theorem znn {a b:Str}(h:a≠b):sl a b\/sl b a:=by
 by_cases h1:sl a b
 ·exact .inl h1
 ·by_cases h2:sl b a
  ·exact .inr h2
  ·exact(h (zn9 (List.le_antisymm (List.not_lt.mp h2) (List.not_lt.mp h1)))).elim
theorem zrr {a b:Str}(h:sl a b):a≠b:=fun e=>zbq b (e▸h)
theorem z4h {n:Str}:∀{l:P},n∉ks l->fnd l n=none
 | [],_=>rfl
 |p::l,h=>by simp only[ks,bn,ak,not_or]at h;rw[fnd,if_neg (fun e=>h.1 e.symm)];exact z4h h.2
theorem z46 {n:Str}{v:Int}:∀{l:P},fnd l n=some v->(n,v)∈l
 | [],h=>by cases h
 |p::l,h=>by
  rw[fnd]at h;split at h
  ·rename_i e;cases h;subst e;exact ai
  ·exact ah _ (z46 h)
theorem zhk {n:Str}{v:Int}{l:P}(h:fnd l n=some v):n∈ks l:=ci.mpr ⟨_,z46 h,rfl⟩
theorem zbw:∀{l:P} {p:Str×Int},(ks l).Nodup->p∈l->fnd l p.1=some p.2
 |q::l,p,nd,h=>by
  rw[ks,bn,iu]at nd;rw[fnd];rcases(ak.mp h)with rfl|h
  ·rw[if_pos rfl]
  ·rw[if_neg fun e:q.1=p.1=>nd.1 (ci.mpr ⟨p,h,e.symm⟩)];exact zbw nd.2 h
theorem zmz {l:P}{n:Str}(h:n∈ks l):∃v,fnd l n=some v:=by
 cases e:fnd l n with
 |some v=>exact⟨v,rfl⟩
 |none=>
  exfalso
  induction l with
  |nil=>cases h
  |cons p l ih=>
   rw[fnd]at e;split at e
   ·cases e
   ·rename_i hn;rcases ak.mp h with h|h
    ·exact hn h.symm
    ·exact ih h e
theorem zgc (a b:Str):eqK (.str a) (.str b)=decide (a=b):=by simp only[eqK]
theorem z82 (n:Str):∀l:P,z14 (en l) (.str n)=(fnd l n).map .int
 | []=>rfl
 |p::l=>by
  have ih:=z82 n l;unfold z14 at ih ⊢;rw[en,bn,gh,fnd];show Option.map _ (match eqK (.str p.1) (.str n)with|true=>_|false=>_)=_;rw[zgc];by_cases h:p.1=n
  ·rw[if_pos h];simp[h,ep]
  ·rw[if_neg h];simp only[h,decide_false];exact ih
theorem zhy (l:P):imms (l.map pr)=true:=z2t.mpr fun x hx=>by obtain⟨p,_,rfl⟩:=ci.mp hx;rfl
theorem zel (l:P):imm (pk l)=true:=zhy l
def Sd (l:P):Prop:=l.Pairwise fun p q=>sl p.1 q.1
theorem zr0 {l:P}(h:Sd l):(ks l).Nodup:=by unfold ks List.Nodup;rw[List.pairwise_map];exact List.Pairwise.imp (fun z=>zrr z) h
structure PK (l:P):Prop where
 sd:Sd l
 pos:∀p∈l,0<p.2
theorem PK.nd {l:P}(h:PK l):(ks l).Nodup:=zr0 h.sd
theorem PK.nil:PK []:=⟨List.Pairwise.nil,fun _ h=>by cases h⟩
theorem PK.key {l:P}(h:PK l){n:Str}:n∈ks l↔0<look l n:=by
 constructor
 ·intro z;obtain⟨v,e⟩:=zmz z;unfold look;rw[e];exact h.pos _ (z46 e)
 ·intro z;unfold look at z;cases e:fnd l n with
  |none=>rw[e]at z;exact absurd z (by decide)
  |some v=>exact zhk e
theorem PK.look_mem {l:P}(h:PK l){p:Str×Int}(hp:p∈l):look l p.1=p.2:=by unfold look;rw[zbw h.nd hp];rfl
theorem PK.ext:∀{a b:P},PK a->PK b->(∀n,look a n=look b n)->a=b
 | [],[],_,_,_=>rfl
 | [],q::b,_,hb,h=>by have:=h q.1;rw[hb.look_mem ai]at this;have z:0<q.2:=hb.pos _ ai;rw[<-this]at z;exact absurd z (Int.lt_irrefl 0)
 |p::a,[],ha,_,h=>by have:=h p.1;rw[ha.look_mem ai]at this;have z:0<p.2:=ha.pos _ ai;rw[this]at z;exact absurd z (Int.lt_irrefl 0)
 |p::a,q::b,ha,hb,h=>by
  have no:∀{x y:Str×Int} {l m:P},PK (x::l)->PK (y::m)->(∀n,look (x::l) n=look (y::m) n)->¬sl x.1 y.1:=fun{x y l m} hx hy h z=>by
   have e:=h x.1;rw[hx.look_mem ai]at e;have k:x.1∈ks (y::m):=hy.key.mpr (e▸hx.pos _ ai);rcases ak.mp k with k|k
   ·exact zbq _ (k▸z)
   ·obtain⟨w,hw,e2⟩:=ci.mp k;have:=(mi.mp hy.sd).1 w hw;rw[e2]at this;exact zbq _ (zru z this)
  have e1:p.1=q.1:=by
   by_cases e:p.1=q.1
   ·exact e
   ·rcases znn e with z|z
    ·exact(no ha hb h z).elim
    ·exact(no hb ha (fun n=>(h n).symm) z).elim
  have e2:p.2=q.2:=by have:=h p.1;rw[ha.look_mem ai,e1,hb.look_mem ai]at this;exact this
  have ep':p=q:=Prod.ext e1 e2;subst ep'
  congr 1
  have ta:PK a:=⟨(mi.mp ha.sd).2,fun x hx=>ha.pos x (ah _ hx)⟩;have tb:PK b:=⟨(mi.mp hb.sd).2,fun x hx=>hb.pos x (ah _ hx)⟩;refine PK.ext ta tb fun n=>?_;have hn:=h n;unfold look at hn ⊢;rw[fnd,fnd]at hn;by_cases e:p.1=n
  ·have na:n∉ks a:=by have :=ha.nd;rw[ks,bn,iu]at this;exact e▸this.1
   have nb:n∉ks b:=by have:=hb.nd;rw[ks,bn,iu]at this;exact e▸this.1
   rw[z4h na,z4h nb]
  ·rw[if_neg e,if_neg e]at hn;exact hn
end
section
open PySem
section
variable {Κ:List D}{Φ:List Fn}{ρ:Rho}{a b c t:C}{p q:S}{i:Nat}{f:D->Rho->Res Out}{x:D}{xs:List D}
theorem znk:evS Κ Φ (.seq p q) ρ=outB (evS Κ Φ p ρ) (evS Κ Φ q):=rfl
theorem zhd:evS Κ Φ (.asg (.nm i) t) ρ=(evE Κ Φ t ρ>>=fun x=>.ok (.nx (ρ.set i (some (z16 x))))):=rfl
theorem R_if:evS Κ Φ (.ifS c p q) ρ=(evT Κ Φ c ρ>>=fun k=>if k then evS Κ Φ p ρ else evS Κ Φ q ρ):=rfl
theorem zew:evS Κ Φ (.ret (.var i)) ρ=(match ρ[i]? with|some (some (g,d))=>.ok (.rt (if imm d then .fr else rtG g) d)|_=>.no):=rfl
theorem zok {m:String}:evS Κ Φ (.mut m i a) ρ=(evA Κ Φ a ρ>>=fun ys=>match ρ[i]? with
 |some (some (.fr,.list xs))=>mutD m xs ys>>=fun xs'=>.ok (.nx ((ρ.set i (some (.fr,.list xs'))).map z5e))
 |_=>.no):=rfl
theorem zoa {t':Tg}:evS Κ Φ (.for_ t' a p) ρ=(evF Κ Φ a ρ>>=fun w=>forD (fun x ρ1=>z0x t' (gJ x w.1,x) ρ1>>=fun ρ2=>evS Κ Φ p ρ2) w.2.1 w.2.2):=rfl
theorem zqe:forD f (x::xs) ρ=(match f x ρ with
 |.ok (.nx ρ')=>forD f xs ρ'
 |.ok (.ct ρ')=>forD f xs ρ'
 |.ok (.bk ρ')=>.ok (.nx ρ')
 |.ok (.rt g d)=>.ok (.rt g d)
 |.exc e=>.exc e
 |.no=>.no):=rfl
theorem zk1:evA Κ Φ .nil ρ=.ok []:=rfl
theorem z4v:evA Κ Φ (.cons a b) ρ=(evE Κ Φ a ρ>>=fun x=>evA Κ Φ b ρ>>=fun xs=>.ok (x::xs)):=rfl
theorem O_tv:evO Κ Φ (.tv a) ρ=(evE Κ Φ a ρ>>=fun x=>intO x.2):=rfl
theorem G_tv:evG Κ Φ (.tv a) ρ=(evE Κ Φ a ρ>>=fun x=>z6e x.2>>=fun p=>.ok (x.1,p)):=rfl
theorem T_tv:evT Κ Φ (.tv a) ρ=(evE Κ Φ a ρ>>=fun x=>z0z x.2):=rfl
theorem zro:evT Κ Φ (.and a b) ρ=(evT Κ Φ a ρ>>=fun c=>if c then evT Κ Φ b ρ else .ok false):=rfl
theorem T_or:evT Κ Φ (.or a b) ρ=(evT Κ Φ a ρ>>=fun c=>if c then .ok true else evT Κ Φ b ρ):=rfl
theorem zrj:evT Κ Φ (.not a) ρ=(evT Κ Φ a ρ>>=fun c=>.ok (!c)):=rfl
theorem W_tv:evW Κ Φ (.tv a) ρ=(evE Κ Φ a ρ>>=fun x=>z4m x.2>>=fun xs=>.ok (x.1,xs)):=rfl
theorem zql:evW Κ Φ (.rng a) ρ=(evA Κ Φ a ρ>>=fun ys=>rngD (ys.map (·.2))>>=fun xs=>.ok (.fr,xs)):=rfl
theorem zov:evF Κ Φ (.tv (.var i)) ρ=(if ownB ρ i then zco i ρ else if isAl Κ Φ (.tv (.var i)) ρ then evE Κ Φ (.var i) ρ>>=fun x=>evAl x ρ else evN Κ Φ (.tv (.var i)) ρ):=rfl
end
theorem z0v {Κ:List D}{Φ:List Fn}{a b:S}{ρ ρ':Rho}{r:Res Out}(h:evS Κ Φ a ρ=.ok (.nx ρ'))(k:evS Κ Φ b ρ'=r):evS Κ Φ (.seq a b) ρ=r:=by rw[znk,h];exact k
theorem z0p {Κ:List D}{Φ:List Fn}{a b:S}{ρ:Rho}{g:G}{d:D}(h:evS Κ Φ a ρ=.ok (.rt g d)):evS Κ Φ (.seq a b) ρ=.ok (.rt g d):=by rw[znk,h];rfl
theorem z1m {Κ:List D}{Φ:List Fn}{n:Nat}{s:S}{ds:List D}{g:G}{d:D}(h:evS Κ Φ s (ds.map (fun d=>some (.od,d))++bj (n-ds.length) none)=.ok (.rt g d)):runD Κ Φ n s ds=.ok (g,d):=by unfold runD;rw[h]
theorem zb8 {β:Type}{f:D->Rho->Res Out}{m:β->D}(I:List β->Rho->Prop):∀(xs pre:List β) (ρ:Rho),(∀pr' x post ρ,pre++xs=pr'++x::post->I pr' ρ->∃ρ',f (m x) ρ=.ok (.nx ρ')/\I (pr'++[x]) ρ')->I pre ρ->∃ρ',forD f (xs.map m) ρ=.ok (.nx ρ')/\I (pre++xs) ρ'
 | [],pre,ρ,_,h=>⟨ρ,rfl,by rw[dj];exact h⟩
 |x::xs,pre,ρ,hf,h=>by
  obtain⟨ρ1,e,h1⟩:=hf pre x xs ρ rfl h;have e0:pre++[x]++xs=pre++x::xs:=by rw[qg];rfl
  obtain⟨ρ2,e2,h2⟩:=zb8 I xs (pre++[x]) ρ1 (fun pr' y post ρ hy=>hf pr' y post ρ (e0▸hy)) h1;exact⟨ρ2,by rw[bn,zqe,e];exact e2,e0▸h2⟩
theorem z70 {β:Type}{f:D->Res (Option GD)}{m:β->D}(g:β->Option D):∀(xs:List β),(∀x∈xs,f (m x)=.ok ((g x).map fun d=>(.fr,d)))->z2k f (xs.map m)=.ok ((xs.filterMap g).map fun d=>(.fr,d))
 | [],_=>rfl
 |x::xs,h=>by
  rw[bn,z2k,h x ai,Res.ok_bind,z70 g xs fun y hy=>h y (ah _ hy),Res.ok_bind];cases e:g x with
  |none=>rw[mw e];rfl
  |some d=>rw[mx e];rfl
theorem zj4 (xs:List D):gCo (xs.map fun d=>(G.fr,d))=.fr:=by unfold gCo;rw[if_pos];rw[List.all_map];exact bp.mpr fun _ _=>rfl
theorem zhp (xs:List D):gAll (xs.map fun d=>(G.fr,d))=.fr:=by unfold gAll;rw[if_pos];rw[bp];intro x hx;obtain⟨d,_,rfl⟩:=ci.mp hx;rfl
theorem zav (xs:List D):(xs.map fun d=>(G.fr,d)).map (fun x=>x.2)=xs:=by rw[dw];exact q8 _
theorem zo9 (a b:Int):biD "max" [.int a,.int b]=.ok (.int (max a b)):=rfl
theorem zqn (a b:Int):biD "min" [.int a,.int b]=.ok (.int (min a b)):=rfl
theorem zlj (l:P)(n:Str)(v:Int):mtD "get" (.dict (en l)) [.str n,.int v]=.ok (.int ((fnd l n).getD v)):=by have:mtD "get" (.dict (en l)) [.str n,.int v]=.ok ((z14 (en l) (.str n)).getD (.int v)):=rfl;rw[this,z82];cases fnd l n<;>rfl
theorem zcb (l:P)(n:Str):mtD "get" (.dict (en l)) [.str n,.int 0]=.ok (.int (look l n)):=zlj l n 0
def chr (z:Str)(i:Int):Str:=⟨#[z.cps.toList.getD i.toNat 0]⟩
theorem za6 (z:Str)(i:Int):(chr z i).length=1:=rfl
theorem z0g (a b:Str):(a++b).length=a.length+b.length:=by show Array.size (a.cps++b.cps)=_;rw[Array.size_append];rfl
theorem zhs {α:Type}(xs:List α)(i:Int)(d:α)(h0:0<=i)(h1:i<xs.length):atI xs i=some (xs.getD i.toNat d):=by
 unfold atI ixN;rw[if_pos h0,if_pos h1];show xs[i.toNat]?=_;have:i.toNat<xs.length:=by omega
 rw[bg this,am,bg this];rfl
theorem z4r {z:Str}{i:Int}(h0:0<=i)(h1:i<z.length)(hz:z.length<=1000):ixD (.str z) (.int i)=.ok (.str (chr z i)):=by show(if z.length<=LIM then Res.ofO ((atI z.cps.toList i).map fun c=>PyData.str ⟨#[c]⟩)else .no)=_;rw[if_pos (by unfold LIM;omega),zhs _ i 0 h0 (by rw[dh];exact h1)];rfl
theorem z24 {ns:List Str}{i:Int}(h0:0<=i)(h1:i<ns.length):ixD (.list (ns.map .str)) (.int i)=.ok (.str (ns.getD i.toNat ⟨#[]⟩)):=by
 show Res.ofO (atI (ns.map PyData.str) i)=_;rw[zhs _ i (.str ⟨#[]⟩) h0 (by rw[av];exact h1)];show Res.ok _=_
 congr 1
 have:i.toNat<ns.length:=by omega
 rw[am,am,bu,bg this];rfl
theorem zif {ns:List Int}{i:Int}(h0:0<=i)(h1:i<ns.length):ixD (.list (ns.map .int)) (.int i)=.ok (.int (ns.getD i.toNat 0)):=by
 show Res.ofO (atI (ns.map PyData.int) i)=_;rw[zhs _ i (.int 0) h0 (by rw[av];exact h1)];show Res.ok _=_
 congr 1
 have:i.toNat<ns.length:=by omega
 rw[am,am,bu,bg this];rfl
theorem getD_mem {α:Type}{ns:List α}{i:Int}{d:α}(h0:0<=i)(h1:i<ns.length):ns.getD i.toNat d∈ns:=by
 have:i.toNat<ns.length:=by omega
 rw[am,bg this];exact gr this
theorem add_str {a b:Str}(h:a.length+b.length<=1000):binD .Add (.str a) (.str b)=.ok (.str (a++b)):=by show(if _ then _ else _)=_;rw[if_pos (by unfold LIM;omega)]
theorem add_list {a b:List D}(h:a.length+b.length<=1000):binD .Add (.list a) (.list b)=.ok (.list (a++b)):=by show(if _ then _ else _)=_;rw[if_pos (by unfold LIM;omega)]
theorem zbv {a b:Int}(h:-(2 ^ 64)<b/\b<2 ^ 64):binD .Mult (.int a) (.int b)=.ok (.int (a*b)):=by show(if _ then _ else _)=_;rw[if_pos (.inr h)]
theorem zcl {a b:Int}(h:-(2 ^ 64)<a/\a<2 ^ 64):binD .Mult (.int a) (.int b)=.ok (.int (a*b)):=by show(if _ then _ else _)=_;rw[if_pos (.inl h)]
theorem z1h {a b:Int}(h:0<b):binD .Mod (.int a) (.int b)=.ok (.int (a%b)):=by show(if _ then _ else _)=_;rw[if_pos h]
theorem zqc:binD .Pow (.int 10) (.int 15)=.ok (.int 1000000000000000):=rfl
theorem zqq:binD .Pow (.int 10) (.int 30)=.ok (.int 1000000000000000000000000000000):=rfl
theorem zq5:binD .Pow (.int 10) (.int 40)=.ok (.int 10000000000000000000000000000000000000000):=rfl
theorem zc8 {n:Int}(h0:0<=n)(h1:n<=1000):rngD [.int n]=.ok ((dv n.toNat).map fun(i:Nat)=>.int i):=by show(if _ then _ else _)=_;rw[if_pos (by unfold LIM;omega)]
theorem z7w {z:Str}{i j:Option Int}(h:z.length<=1000):slD (.str z) i j=.ok (.str (z12 z i j)):=by show(if _ then _ else _)=_;rw[if_pos (by unfold LIM;omega)]
theorem z0f (ns:List Str):imms (ns.map .str)=true:=z2t.mpr fun x hx=>by obtain⟨p,_,rfl⟩:=ci.mp hx;rfl
theorem z4t:∀(ns:List Str),allS (ns.map .str)=some ns
 | []=>rfl
 |n::ns=>by rw[bn,allS,z4t ns];rfl
theorem z5s:∀(ss:List Str),(∀s∈ss,s.length=1)->(z17 "" ss).length=ss.length
 | [],_=>rfl
 |x::r,h=>by
  show(List.toArray (x.cps.toList++(r.map fun p=>([]:List Nat)++p.cps.toList).flatten)).size=_;have hx:=h x ai
  have h2:∀(r:List Str),(∀s∈r,s.length=1)->((r.map fun p=>([]:List Nat)++p.cps.toList).flatten).length=r.length:=by
   intro r
   induction r with
   |nil=>intro _;rfl
   |cons y r ih=>intro h;have hy:=h y ai;rw[bn,k8,br,ih fun s hs=>h s (ah _ hs)];have:(([]:List Nat)++y.cps.toList).length=1:=hy;rw[this,ay];omega
  rw[ao,br,h2 r fun s hs=>h s (ah _ hs)];have:x.cps.toList.length=1:=hx;rw[this,ay];omega
theorem zmm {ss:List Str}(h:∀s∈ss,s.length=1)(hl:ss.length<=1000):mtD "join" (.str "") [.list (ss.map .str)]=.ok (.str (z17 "" ss)):=by
 have:mtD "join" (.str "") [.list (ss.map .str)]=(match allS (ss.map .str)with|some ss=>if z6j "" ss<=LIM then .ok (.str (z17 "" ss))else .no|none=>.no):=rfl;rw[this,z4t]
 dsimp only
 rw[if_pos];unfold z6j;have h0:("":Str).length=0:=rfl
 have h1:∀(r:List Str),(∀s∈r,s.length=1)->(r.map (·.length)).sum=r.length:=by
  intro r
  induction r with
  |nil=>intro _;rfl
  |cons y r ih=>intro h;rw[bn,List.sum_cons,h y ai,ih fun s hs=>h s (ah _ hs),ay];omega
 rw[h1 ss h,h0];unfold LIM;omega
theorem zid (a b:Int):eqD (.int a) (.int b)=decide (a=b):=by show(a==b)=_;rfl
section
variable {Κ:List D}{Φ:List Fn}{ρ:Rho}
theorem zgl:evE Κ Φ (.var i) ρ=(rdS ρ[i]?):=rfl
theorem zr7:evE Κ Φ (.non) ρ=(.ok (.fr,.none)):=rfl
theorem E_bl:evE Κ Φ (.bl b) ρ=(.ok (.fr,.bool b)):=rfl
theorem zo8:evE Κ Φ (.int i) ρ=(.ok (.fr,.int i)):=rfl
theorem zqh:evE Κ Φ (.str x) ρ=(.ok (.fr,.str x)):=rfl
theorem zm2:evE Κ Φ (.bin op a b) ρ=(evE Κ Φ a ρ>>=fun x=>evE Κ Φ b ρ>>=fun y=>binD op x.2 y.2>>=fun d=>.ok (gN d (gAll [x,y]),d)):=rfl
theorem zoo:evE Κ Φ (.cmp op a b) ρ=(evE Κ Φ a ρ>>=fun x=>evE Κ Φ b ρ>>=fun y=>cmpD op x.2 y.2>>=fun b=>.ok (.fr,.bool b)):=rfl
theorem zia:evE Κ Φ (.chain op op' a b c) ρ=(evE Κ Φ a ρ>>=fun x=>evE Κ Φ b ρ>>=fun y=>cmpD op x.2 y.2>>=fun k=>if k then evE Κ Φ c ρ>>=fun z=>cmpD op' y.2 z.2>>=fun k'=>.ok (.fr,.bool k')else .ok (.fr,.bool false)):=rfl
theorem zpu:evE Κ Φ (.and a b) ρ=(evE Κ Φ a ρ>>=fun x=>match x.2 with|.bool c=>if c then evE Κ Φ b ρ else .ok (.fr,.bool false)|_=>.no):=rfl
theorem zpy:evE Κ Φ (.not a) ρ=(evE Κ Φ a ρ>>=fun x=>z0z x.2>>=fun c=>.ok (.fr,.bool (!c))):=rfl
theorem zqf:evE Κ Φ (.tup xs) ρ=(evA Κ Φ xs ρ>>=fun ys=>.ok (gJ (.tuple (ys.map (·.2))) (gAll ys),.tuple (ys.map (·.2)))):=rfl
theorem zqk:evE Κ Φ (.lst xs) ρ=(evA Κ Φ xs ρ>>=fun ys=>.ok (gAll ys,.list (ys.map (·.2)))):=rfl
theorem E_ix:evE Κ Φ (.ix a b) ρ=(evE Κ Φ a ρ>>=fun x=>evE Κ Φ b ρ>>=fun y=>ixD x.2 y.2>>=fun d=>.ok (gJ d x.1,d)):=rfl
theorem E_sl:evE Κ Φ (.sl a lo hi) ρ=(evE Κ Φ a ρ>>=fun x=>evO Κ Φ lo ρ>>=fun l=>evO Κ Φ hi ρ>>=fun h=>slD x.2 l h>>=fun d=>.ok (gN d (gAll [x]),d)):=rfl
theorem zeq:evE Κ Φ (.call k w1 args) ρ=(evA Κ Φ args ρ>>=fun ys=>match Φ[k]? with|some m=>m (ys.map (·.2))>>=fun r=>.ok (gJ r.2 (rtG r.1),r.2)|none=>.no):=rfl
theorem E_bi:evE Κ Φ (.bi f args) ρ=(evA Κ Φ args ρ>>=fun ys=>biD f (ys.map (·.2))>>=fun d=>.ok (gJ d .al,d)):=rfl
theorem zoz:evE Κ Φ (.agg f a) ρ=(evG Κ Φ a ρ>>=fun w=>aggD f w.2.1 w.2.2>>=fun d=>.ok (gJ d (if imms w.2.2 then .fr else agG w.1),d)):=rfl
theorem zrt:evE Κ Φ (.isT a ts) ρ=(evE Κ Φ a ρ>>=fun x=>.ok (.fr,.bool (ts.any fun T=>isTy (tyOf x.2) T))):=rfl
theorem E_mt:evE Κ Φ (.mt m o args) ρ=(evE Κ Φ o ρ>>=fun x=>evA Κ Φ args ρ>>=fun ys=>mtD m x.2 (ys.map (·.2))>>=fun d=>.ok (gJ d .al,d)):=rfl
theorem zph:evE Κ Φ (.spl a b) ρ=(evE Κ Φ a ρ>>=fun x=>evE Κ Φ b ρ>>=fun y=>splD x.2 y.2>>=fun d=>.ok (.fr,d)):=rfl
theorem znq {cond:C}:evE Κ Φ (.comp nt js w1 tg it cond elt) ρ=(evW Κ Φ it ρ>>=fun w=>z2k (fun x=>z0x tg (gJ x w.1,x) (bj nt none++js.map fun j=>toAl (ρ.getD j none))>>=fun ρ1=>evT Κ Φ cond ρ1>>=fun k=>if k then evE Κ Φ elt ρ1>>=fun y=>.ok (some y)else .ok none) w.2>>=fun ys=>.ok (gCo ys,.list (ys.map (·.2)))):=rfl
end
section
variable {Κ:List D}{Φ:List Fn}{ρ:Rho}{a b c t o args:C}{x y d:D}{ds:List D}{k k':Bool}{g:G}
def Ev (Κ:List D)(Φ:List Fn)(c:C)(ρ:Rho)(d:D):Prop:=∃g,evE Κ Φ c ρ=.ok (g,d)
def Vv (Κ:List D)(Φ:List Fn)(c:C)(ρ:Rho)(d:D):Prop:=evE Κ Φ c ρ=.ok (.fr,d)/\imm d=true
def Aa (Κ:List D)(Φ:List Fn)(c:C)(ρ:Rho)(ds:List D):Prop:=∃ys,evA Κ Φ c ρ=.ok ys/\ys.map (·.2)=ds
def Av (Κ:List D)(Φ:List Fn)(c:C)(ρ:Rho)(ds:List D):Prop:=evA Κ Φ c ρ=.ok (ds.map fun d=>(.fr,d))/\imms ds=true
def Tt (Κ:List D)(Φ:List Fn)(c:C)(ρ:Rho)(k:Bool):Prop:=evT Κ Φ c ρ=.ok k
theorem Vv.e (h:Vv Κ Φ c ρ d):Ev Κ Φ c ρ d:=⟨_,h.1⟩
theorem Ev.of (h:evE Κ Φ c ρ=.ok (g,d)):Ev Κ Φ c ρ d:=⟨_,h⟩
theorem z03 {i:Nat}(h:ρ[i]?=some (some (g,d))):Ev Κ Φ (.var i) ρ d:=⟨_,by rw[zgl];rw[h];rfl⟩
theorem v_var {i:Nat}(h:ρ[i]?=some (some (g,d)))(hi:imm d=true):Vv Κ Φ (.var i) ρ d:=⟨by rw[zgl];rw[h];show Res.ok (if imm d=true then _ else _,d)=_;rw[if_pos hi],hi⟩
theorem z0a {i:Int}:Vv Κ Φ (.int i) ρ (.int i):=⟨by rw[zo8],rfl⟩
theorem z0d {i:Str}:Vv Κ Φ (.str i) ρ (.str i):=⟨by rw[zqh],rfl⟩
theorem v_bl {i:Bool}:Vv Κ Φ (.bl i) ρ (.bool i):=⟨by rw[E_bl],rfl⟩
theorem zol:Vv Κ Φ .non ρ .none:=⟨by rw[zr7],rfl⟩
theorem z2c (hi:imm d=true):gJ d g=.fr:=by unfold gJ;rw[if_pos hi]
theorem zfe (hi:imm d=true):gN d g=.fr:=by cases d<;>first|exact z2c hi|cases hi
theorem z0c {op:jl}(ha:Ev Κ Φ a ρ x)(hb:Ev Κ Φ b ρ y)(h:binD op x y=.ok d)(hi:imm d=true):Vv Κ Φ (.bin op a b) ρ d:=by obtain⟨g1,ha⟩:=ha;obtain⟨g2,hb⟩:=hb;refine⟨?_,hi⟩;rw[zm2];rw[ha,Res.ok_bind,hb,Res.ok_bind];dsimp only;rw[h,Res.ok_bind,zfe hi]
theorem zdi {op:jl}{xs:List D}(ha:Ev Κ Φ a ρ x)(hb:Ev Κ Φ b ρ y)(h:binD op x y=.ok (.list xs))(hi:imms xs=true):evE Κ Φ (.bin op a b) ρ=.ok (.fr,.list xs):=by obtain⟨g1,ha⟩:=ha;obtain⟨g2,hb⟩:=hb;rw[zm2];rw[ha,Res.ok_bind,hb,Res.ok_bind];dsimp only;rw[h,Res.ok_bind];show Res.ok (if imms xs=true then _ else _,_)=_;rw[if_pos hi]
theorem z1n {op:CmpOp}(ha:Ev Κ Φ a ρ x)(hb:Ev Κ Φ b ρ y)(h:cmpD op x y=.ok k):Vv Κ Φ (.cmp op a b) ρ (.bool k):=by obtain⟨g1,ha⟩:=ha;obtain⟨g2,hb⟩:=hb;refine⟨?_,rfl⟩;rw[zoo];rw[ha,Res.ok_bind,hb,Res.ok_bind];dsimp only;rw[h];rfl
theorem v_and (ha:Ev Κ Φ a ρ (.bool k))(hb:k=true->Vv Κ Φ b ρ (.bool k')):Vv Κ Φ (.and a b) ρ (.bool (k&&k')):=by
 obtain⟨g1,ha⟩:=ha;refine⟨?_,rfl⟩;rw[zpu];rw[ha];cases k with
 |true=>exact(hb rfl).1
 |false=>rfl
theorem v_not (ha:Ev Κ Φ a ρ x)(h:z0z x=.ok k):Vv Κ Φ (.not a) ρ (.bool (!k)):=by obtain⟨g1,ha⟩:=ha;refine⟨?_,rfl⟩;rw[zpy];rw[ha,Res.ok_bind];dsimp only;rw[h];rfl
theorem z15:Av Κ Φ .nil ρ []:=⟨rfl,rfl⟩
theorem z05 (ha:Vv Κ Φ a ρ x)(hb:Av Κ Φ b ρ ds):Av Κ Φ (.cons a b) ρ (x::ds):=⟨by rw[z4v,ha.1,Res.ok_bind,hb.1];rfl,by show(imm x&&imms ds)=true;rw[ha.2,hb.2];rfl⟩
theorem z0h:Aa Κ Φ .nil ρ []:=⟨[],rfl,rfl⟩
theorem z09 (ha:Ev Κ Φ a ρ x)(hb:Aa Κ Φ b ρ ds):Aa Κ Φ (.cons a b) ρ (x::ds):=by obtain⟨g1,ha⟩:=ha;obtain⟨ys,hb,e⟩:=hb;exact⟨_,by rw[z4v,ha,Res.ok_bind,hb];rfl,by rw[bn,e]⟩
theorem z8o (h:Av Κ Φ args ρ ds):Vv Κ Φ (.tup args) ρ (.tuple ds):=by refine⟨?_,h.2⟩;rw[zqf];rw[h.1,Res.ok_bind,zav,z2c (d:=.tuple ds) h.2]
theorem z3m (h:Av Κ Φ args ρ ds):evE Κ Φ (.lst args) ρ=.ok (.fr,.list ds):=by rw[zqk];rw[h.1,Res.ok_bind,zav,zhp]
theorem v_ix (ha:Ev Κ Φ a ρ x)(hb:Ev Κ Φ b ρ y)(h:ixD x y=.ok d)(hi:imm d=true):Vv Κ Φ (.ix a b) ρ d:=by obtain⟨g1,ha⟩:=ha;obtain⟨g2,hb⟩:=hb;refine⟨?_,hi⟩;rw[E_ix];rw[ha,Res.ok_bind,hb,Res.ok_bind];dsimp only;rw[h,Res.ok_bind,z2c hi]
def Oo (Κ:List D)(Φ:List Fn)(c:C)(ρ:Rho)(i:Option Int):Prop:=evO Κ Φ c ρ=.ok i
theorem z8e:Oo Κ Φ .nil ρ none:=rfl
theorem z8u {i:Int}(h:Ev Κ Φ a ρ (.int i)):Oo Κ Φ (.tv a) ρ (some i):=by obtain⟨g1,h⟩:=h;unfold Oo;rw[O_tv,h];rfl
theorem v_sl {i j:Option Int}(ha:Ev Κ Φ a ρ x)(hb:Oo Κ Φ b ρ i)(hc:Oo Κ Φ c ρ j)(h:slD x i j=.ok d)(hi:imm d=true):Vv Κ Φ (.sl a b c) ρ d:=by obtain⟨g1,ha⟩:=ha;unfold Oo at hb hc;refine⟨?_,hi⟩;rw[E_sl];rw[ha,Res.ok_bind,hb,Res.ok_bind,hc,Res.ok_bind];dsimp only;rw[h,Res.ok_bind,zfe hi]
theorem z1r {n:Nat}{f:Str}{m:Fn}(ha:Aa Κ Φ args ρ ds)(hf:Φ[n]?=some m)(h:m ds=.ok (g,d))(hi:imm d=true):Vv Κ Φ (.call n f args) ρ d:=by obtain⟨ys,ha,e⟩:=ha;refine⟨?_,hi⟩;rw[zeq];rw[ha,Res.ok_bind,hf];dsimp only;rw[e,h,Res.ok_bind,z2c hi]
theorem zey {n:Nat}{f:Str}{m:Fn}{xs:List D}(ha:Aa Κ Φ args ρ ds)(hf:Φ[n]?=some m)(h:m ds=.ok (.fr,.list xs)):evE Κ Φ (.call n f args) ρ=.ok (.fr,.list xs):=by obtain⟨ys,ha,e⟩:=ha;rw[zeq];rw[ha,Res.ok_bind,hf];dsimp only;rw[e,h,Res.ok_bind];rfl
theorem v_bi {f:String}(ha:Aa Κ Φ args ρ ds)(h:biD f ds=.ok d)(hi:imm d=true):Vv Κ Φ (.bi f args) ρ d:=by obtain⟨ys,ha,e⟩:=ha;refine⟨?_,hi⟩;rw[E_bi];rw[ha,Res.ok_bind,e,h,Res.ok_bind,z2c hi]
theorem zqb {f:String}{w:Bool×List D}(ha:Ev Κ Φ a ρ x)(hw:z6e x=.ok w)(h:aggD f w.1 w.2=.ok d)(hi:imm d=true):Vv Κ Φ (.agg f (.tv a)) ρ d:=by obtain⟨g1,ha⟩:=ha;refine⟨?_,hi⟩;rw[zoz];rw[G_tv,ha,Res.ok_bind];dsimp only;rw[hw];simp only[Res.ok_bind];rw[h,Res.ok_bind,z2c hi]
theorem z2i {ts:List String}(ha:Ev Κ Φ a ρ x):Vv Κ Φ (.isT a ts) ρ (.bool (ts.any fun T=>isTy (tyOf x) T)):=by obtain⟨g1,ha⟩:=ha;refine⟨?_,rfl⟩;rw[zrt];rw[ha];rfl
theorem v_mt {m:String}(ho:Ev Κ Φ o ρ x)(ha:Aa Κ Φ args ρ ds)(h:mtD m x ds=.ok d)(hi:imm d=true):Vv Κ Φ (.mt m o args) ρ d:=by obtain⟨g1,ho⟩:=ho;obtain⟨ys,ha,e⟩:=ha;refine⟨?_,hi⟩;rw[E_mt];rw[ho,Res.ok_bind,ha,Res.ok_bind,e];dsimp only;rw[h,Res.ok_bind,z2c hi]
theorem t_tv (h:Ev Κ Φ a ρ x)(ht:z0z x=.ok k):Tt Κ Φ (.tv a) ρ k:=by obtain⟨g1,h⟩:=h;unfold Tt;rw[T_tv,h];exact ht
theorem z6i:Tt Κ Φ .nil ρ true:=rfl
theorem z52 (ha:Tt Κ Φ a ρ k)(hb:k=true->Tt Κ Φ b ρ k'):Tt Κ Φ (.and a b) ρ (k&&k'):=by
 unfold Tt at *
 rw[zro,ha];cases k with
 |true=>exact hb rfl
 |false=>rfl
theorem t_or (ha:Tt Κ Φ a ρ k)(hb:k=false->Tt Κ Φ b ρ k'):Tt Κ Φ (.or a b) ρ (k||k'):=by
 unfold Tt at *
 rw[T_or,ha];cases k with
 |false=>exact hb rfl
 |true=>rfl
theorem z8i (ha:Tt Κ Φ a ρ k):Tt Κ Φ (.not a) ρ (!k):=by
 unfold Tt at *
 rw[zrj,ha];rfl
theorem z3u {β:Type}{nt:Nat}{js:List Nat}{N':List Str}{tg:Tg}{it cond elt:C}{w:G×List D}{m:β->D}{xs:List β}(p:β->Bool)(f:β->D)(hw:evW Κ Φ it ρ=.ok w)(hx:w.2=xs.map m)(r:β->Rho)
  (hb:∀x∈xs,z0x tg (gJ (m x) w.1,m x) (bj nt none++js.map fun j=>toAl (ρ.getD j none))=.ok (r x)) (hc:∀x∈xs,Tt Κ Φ cond (r x) (p x)) (he:∀x∈xs,p x=true->Vv Κ Φ elt (r x) (f x)):
  evE Κ Φ (.comp nt js N' tg it cond elt) ρ=.ok (.fr,.list ((xs.filter p).map f)):=by
 rw[znq];rw[hw,Res.ok_bind,hx]
 rw[z70 (fun x=>if p x then some (f x)else none) xs fun x hx=>by
  rw[hb x hx,Res.ok_bind];have:=hc x hx;unfold Tt at this;rw[this,Res.ok_bind];cases e:p x with
  |true=>rw[if_pos rfl,(he x hx e).1];rfl
  |false=>rfl]
 rw[Res.ok_bind,zj4,zav]
 have:(xs.filterMap fun x=>if p x=true then some (f x)else none)=(xs.filter p).map f:=by
  clear hx hb hc he hw
  induction xs with
  |nil=>rfl
  |cons x xs ih=>
   cases e:p x with
   |true=>rw[mx (b:=f x) (by rw[e];rfl),List.filter_cons_of_pos e,bn,ih]
   |false=>rw[mw (by rw[e];rfl),List.filter_cons_of_neg (by rw[e];exact cw),ih]
 rw[this]
theorem w_tv {xs:List D}(h:evE Κ Φ a ρ=.ok (g,x))(hw:z4m x=.ok xs):evW Κ Φ (.tv a) ρ=.ok (g,xs):=by rw[W_tv,h,Res.ok_bind];dsimp only;rw[hw];rfl
theorem zi6 {xs:List D}(h:Aa Κ Φ args ρ ds)(hw:rngD ds=.ok xs):evW Κ Φ (.rng args) ρ=.ok (.fr,xs):=by obtain⟨ys,h,e⟩:=h;rw[zql,h,Res.ok_bind,e,hw];rfl
theorem z0t {i:Nat}(h:Vv Κ Φ t ρ d):evS Κ Φ (.asg (.nm i) t) ρ=.ok (.nx (ρ.set i (some (.al,d)))):=by rw[zhd,h.1,Res.ok_bind];show Res.ok (Out.nx (ρ.set i (some (if imm d then(.al,d)else _))))=_;rw[if_pos h.2]
theorem z1k {i:Nat}{xs:List D}(h:evE Κ Φ t ρ=.ok (.fr,.list xs))(hi:imms xs=true):evS Κ Φ (.asg (.nm i) t) ρ=.ok (.nx (ρ.set i (some (.fr,.list xs)))):=by rw[zhd,h,Res.ok_bind];show Res.ok (Out.nx (ρ.set i (some (if imms xs then .fr else .nu,.list xs))))=_;rw[if_pos hi]
theorem zfj (hv:∀i,t≠.var i):evS Κ Φ (.ret t) ρ=(evE Κ Φ t ρ>>=fun x=>.ok (.rt (rtG x.1) x.2)):=by cases t<;>first|exact absurd rfl (hv _)|rfl
theorem z0y (h:Vv Κ Φ t ρ d):evS Κ Φ (.ret t) ρ=.ok (.rt .fr d):=by
 by_cases hv:∀i,t≠.var i
 ·rw[zfj hv,h.1];rfl
 obtain⟨i,rfl⟩:∃i,t=.var i:=by cases t<;>first|exact⟨_,rfl⟩|exact(hv fun i z=>by cases z).elim
 have h1:=h.1;rw[zgl]at h1;rw[zew];cases hr:ρ[i]? with
 |none=>rw[hr]at h1;cases h1
 |some o=>
  cases o with
  |none=>rw[hr]at h1;cases h1
  |some gd=>
   obtain⟨g,d'⟩:=gd;rw[hr]at h1;have:d'=d:=by have:=congrArg (fun r:Res GD=>match r with|.ok p=>p.2|_=>.none) h1;exact this
   subst this;show Res.ok (Out.rt (if imm d'=true then _ else _) d')=_;rw[if_pos h.2]
theorem zjw {xs:List D}(hv:∀i,t≠.var i)(h:evE Κ Φ t ρ=.ok (.fr,.list xs)):evS Κ Φ (.ret t) ρ=.ok (.rt .fr (.list xs)):=by rw[zfj hv,h];rfl
theorem zgb {p q:S}{r:Res Out}(hc:Tt Κ Φ c ρ k)(h1:k=true->evS Κ Φ p ρ=r)(h2:k=false->evS Κ Φ q ρ=r):evS Κ Φ (.ifS c p q) ρ=r:=by
 unfold Tt at hc;rw[R_if,hc,Res.ok_bind];cases k with
 |true=>exact h1 rfl
 |false=>exact h2 rfl
theorem z2m:evS Κ Φ .nil ρ=.ok (.nx ρ):=rfl
theorem zd5 {y:GD}(h:imm y.2=true):okIn y=true:=by unfold okIn;rw[h];rfl
theorem zh9 {i:Nat}{xs:List D}(hv:Vv Κ Φ a ρ x)(hr:ρ[i]?=some (some (.fr,.list xs)))(hl:xs.length<1000):evS Κ Φ (.mut "append" i (.cons a .nil)) ρ=.ok (.nx ((ρ.set i (some (.fr,.list (xs++[x])))).map z5e)):=by
 rw[zok,z4v,hv.1,Res.ok_bind,zk1,Res.ok_bind,Res.ok_bind,hr]
 dsimp only
 have:mutD "append" xs [(.fr,x)]=.ok (xs++[x]):=by show(if(okIn (G.fr,x)&&decide (xs.length<LIM))=true then _ else _)=_;rw[if_pos];rw[zd5 hv.2,Bool.true_and];refine tz ?_;unfold LIM;omega
 rw[this];rfl
theorem zrn {i:Nat}{xs:List D}(h:ρ[i]?=some (some (g,d)))(hg:g≠.fr)(hi:imm d=true)(hw:z4m d=.ok xs):evF Κ Φ (.tv (.var i)) ρ=.ok (.fr,xs,ρ):=by
 have e1:evE Κ Φ (.var i) ρ=.ok (.fr,d):=(v_var h hi).1;have e2:evW Κ Φ (.tv (.var i)) ρ=.ok (.fr,xs):=w_tv e1 hw
 have e3:ownB ρ i=false:=by
  unfold ownB;rw[h];cases g with
  |fr=>exact absurd rfl hg
  |od=>rfl
  |al=>rfl
  |nu=>rfl
 rw[zov,e3];unfold isAl evN;rw[e2];rfl
theorem zlz {xs:List D}(h:Aa Κ Φ args ρ ds)(hw:rngD ds=.ok xs):evF Κ Φ (.rng args) ρ=.ok (.fr,xs,ρ):=by show evN Κ Φ (.rng args) ρ=_;unfold evN;rw[zi6 h hw];rfl
theorem z9k {xs:List D}{x:D}(ha:Ev Κ Φ a ρ x)(hx:seqR x=.ok xs):evW Κ Φ (.enum a) ρ=.ok (.al,z0r 0 xs):=by obtain⟨g,ha⟩:=ha;show(evE Κ Φ a ρ>>=fun x=>seqR x.2>>=fun xs=>Res.ok (G.al,z0r 0 xs))=_;rw[ha,Res.ok_bind];show(seqR x>>=fun xs=>Res.ok (G.al,z0r 0 xs))=_;rw[hx];rfl
theorem zih {xs ys:List D}{x y:GD}(ha:evE Κ Φ a ρ=.ok x)(hb:evE Κ Φ b ρ=.ok y)(ca:z3l x=true)(cb:z3l y=true)(hx:seqR x.2=.ok xs)(hy:seqR y.2=.ok ys):evF Κ Φ (.zip a b) ρ=.ok (.al,zipD xs ys,ρ):=by
 have e:evA Κ Φ (.cons a (.cons b .nil)) ρ=.ok [x,y]:=by rw[z4v,ha,Res.ok_bind,z4v,hb,Res.ok_bind,zk1];rfl
 show(evA Κ Φ (.cons a (.cons b .nil)) ρ>>=fun ys=>evZi ys ρ)=_;rw[e,Res.ok_bind];unfold evZi
 dsimp only
 rw[ca,cb];show(seqR x.2>>=fun xs=>seqR y.2>>=fun zs=>Res.ok (G.al,zipD xs zs,ρ))=_;rw[hx,Res.ok_bind,hy];rfl
theorem zfw {β:Type}(m:β->D):∀(k:Nat) (xs:List β),z0r k (xs.map m)=(xs.zipIdx k).map fun p=>.tuple [.int p.2,m p.1]
 |_,[]=>rfl
 |k,x::xs=>by rw[bn,z0r,zfw m (k+1) xs];rfl
theorem zan {t':Tg}{it:C}{p:S}{w:G×List D×Rho}{r:Res Out}(h:evF Κ Φ it ρ=.ok w)(k:forD (fun x ρ1=>z0x t' (gJ x w.1,x) ρ1>>=fun ρ2=>evS Κ Φ p ρ2) w.2.1 w.2.2=r):evS Κ Φ (.for_ t' it p) ρ=r:=by rw[zoa,h];exact k
theorem z19 {p q rest:S}(hc:Tt Κ Φ c ρ k)(hk:k=true)(h:evS Κ Φ p ρ=.ok (.rt g d)):evS Κ Φ (.seq (.ifS c p q) rest) ρ=.ok (.rt g d):=z0p (zgb hc (fun _=>h) fun z=>by rw[hk]at z;cases z)
theorem z1j {p rest:S}{r:Res Out}(hc:Tt Κ Φ c ρ k)(hk:k=false)(h:evS Κ Φ rest ρ=r):evS Κ Φ (.seq (.ifS c p .nil) rest) ρ=r:=z0v (zgb hc (fun z=>by rw[hk]at z;cases z) fun _=>z2m) h
theorem zgy {p rest:S}{r:Res Out}{ρ':Rho}(hc:Tt Κ Φ c ρ k)(hk:k=true)(h:evS Κ Φ p ρ=.ok (.nx ρ'))(h2:evS Κ Φ rest ρ'=r):evS Κ Φ (.seq (.ifS c p .nil) rest) ρ=r:=z0v (zgb hc (fun _=>h) fun z=>by rw[hk]at z;cases z) h2
theorem zak {i:Nat}{xs:List D}(h:ρ[i]?=some (some (.fr,.list xs))):evS Κ Φ (.ret (.var i)) ρ=.ok (.rt .fr (.list xs)):=by rw[zew,h];rfl
theorem q_ok {Q:Res Out->Prop}{p q:S}{ρ':Rho}(h:evS Κ Φ p ρ=.ok (.nx ρ'))(k:Q (evS Κ Φ q ρ')):Q (evS Κ Φ (.seq p q) ρ):=by rw[z0v h rfl];exact k
theorem zpa {Q:Res Out->Prop}{β:Type}{t':Tg}{it:C}{p rest:S}{m:β->D}{xs:List β}{ρ1:Rho}(h:evF Κ Φ it ρ=.ok (g,xs.map m,ρ1))(I:List β->Rho->Prop)(h0:I [] ρ1)
  (hf:∀pre x post ρ,xs=pre++x::post->I pre ρ->∃ρ',(z0x t' (gJ (m x) g,m x) ρ>>=fun ρ2=>evS Κ Φ p ρ2)=.ok (.nx ρ')/\I (pre++[x]) ρ') (hk:∀ρ',I xs ρ'->Q (evS Κ Φ rest ρ')):Q (evS Κ Φ (.seq (.for_ t' it p) rest) ρ):=by
 obtain⟨ρ',e,i⟩:=zb8 (f:=fun x ρ1=>z0x t' (gJ x g,x) ρ1>>=fun ρ2=>evS Κ Φ p ρ2) I xs [] ρ1 hf h0;rw[z0v (zan h e) rfl];exact hk ρ' i
theorem z3i {Q:Res Out->Prop}{p rest:S}(hc:Tt Κ Φ c ρ k)(hk:k=false)(h:Q (evS Κ Φ rest ρ)):Q (evS Κ Φ (.seq (.ifS c p .nil) rest) ρ):=by rw[z1j hc hk rfl];exact h
theorem zhl:Vv Κ Φ (.bin .Pow (.int 10) (.int 15)) ρ (.int 1000000000000000):=z0c z0a.e z0a.e zqc rfl
theorem zht:Vv Κ Φ (.bin .Pow (.int 10) (.int 30)) ρ (.int 1000000000000000000000000000000):=z0c z0a.e z0a.e zqq rfl
theorem zh8:Vv Κ Φ (.bin .Pow (.int 10) (.int 40)) ρ (.int 10000000000000000000000000000000000000000):=z0c z0a.e z0a.e zq5 rfl
end
end
end Mk
namespace Mi
open PySem PySem.Spec PyProof.Rows L2
section
open PySem.SeqAt
section
variable {s:ae}{A:cq}
end
section
variable {X:Cx}
theorem z9t:∀{ss:List Str} {its:List Value},Vals (ss.map V.str) its->∀y∈its,∃b t,y=Value.str b t
 | [],_,r,y,hy=>by cases r;cases hy
 |s::ss,_,r,y,hy=>by
  cases r with
  |cons r1 r2=>
   rcases ak.mp hy with rfl|hy2
   ·obtain⟨t,rfl⟩:=r1;exact⟨_,_,rfl⟩
   ·exact z9t r2 y hy2
end
end
end Mi
namespace Mi
open PySem PySem.Spec PyProof.Rows L2 PySem.W
section
open PySem.SeqAt
def vwO (d:Addr):Obj:={cls:=.type "dict_values",data:=.fields #[.ref d]}
def vw (v d:Addr):HO:=.ext fun h=>h.get? v=some (vwO d)
theorem z8a {κ:Type}:∀{kvs:List (κ×V)} {vs:List (κ×Value)},KV kvs vs->Vals (kvs.map (·.2)) (vs.map (·.2))
 |_,_,.nil=>.nil
 |_,_,.cons r t=>.cons r.2 (z8a t)
section
variable {X:Cx}
def rVw:V->List V->Hp->VK->Prop:=fun x xs H Q=>∃d kvs,x=.ref d/\xs=[]/\H d=some (.dK kvs)/\∀v,H v=none->Q (.ref v) (upd H v (vw v d))
theorem z9r:MtR X "dict.values" rVw:=by intro pins s σ H x xs v us Q I rx rv h;obtain⟨d,kvs,rfl,rfl,hd,q⟩:=h;cases rx;cases rv;obtain⟨hz,hsys,vs,rel,o,es',ep,ho,hcx,hdat,r3⟩:=zh6 I.hok hd;refine qb PySem.F.slot_dict_values ⟨_,ho,hcx.1⟩ PySem.F.entry_dict_values (PySem.F.args_dict_values_1 _) (meets_dict_values (z0i X.prog X.w) d hsys) ⟨⟨vs,o,es',ep,ho,hcx,hdat,r3⟩,?_⟩;have hn:H s.heap.objs.size=none:=I.hok.fresh (aj _);have e1:(s.heap.push (vwO d)).get? s.heap.objs.size=some (vwO d):=ba _ rfl;exact⟨.ref s.heap.objs.size,_,I.laid (t':=s.toks) (o:=vw s.heap.objs.size d) (fun b u z=>af _ z) (aj _) ⟨e1,⟨_,e1⟩,fun h1 h2 p k=>k _ p⟩,rfl,q _ hn⟩
def rLV:List V->Hp->VK->Prop:=fun xs H Q=>∃v d kvs,xs=[.ref v]/\H v=some (vw v d)/\H d=some (.dK kvs)/\∀p,H p=none->Q (.ref p) (upd H p (.lst (kvs.map (·.2))))
theorem zga (hc:X.calm=true):CallR X (.type "list") rLV:=by
 intro pins s σ H xs us Q I r h;obtain⟨v,d,kvs,rfl,hv,hd,q⟩:=h;obtain⟨u,rfl,ru⟩:=vals1 r;cases ru;obtain⟨hz,hsys,vs,rel,o,es',ep,ho,hcx,hdat,r3⟩:=zh6 I.hok hd;have hat:s.heap.DictAt (z0i X.prog X.w) d vs ep:=⟨o,es',ho,hcx,hdat,r3⟩;have lk:kvs.length=vs.length:=rel.length;have hvw:s.heap.get? v=some (vwO d):=(I.hok v _ hv).1;refine kdl_call (kdl_values (knd:=z0i X.prog X.w) (kvs:=vs) (ep:=ep)) (I.ok.hd hc) ⟨⟨_,hvw,rfl,rfl⟩,hat⟩ (by omega) fun h' tk acc c hk hS hacc=>?_;have e1:acc.toList=vs.map (·.2):=kdl_vals_eq acc.toList (by rw[dh];exact hacc.1) fun j u e=>hacc.2 j u (by rw[<-oh];exact e);have rv:Vals (kvs.map (·.2)) acc.toList:=by rw[e1];exact z8a rel
 have hD:H s.heap.objs.size=none:=I.hok.fresh (aj _);have I3:=I.laid (a:=s.heap.objs.size) (o:=.lst (kvs.map (·.2))) (t':=tk) (h':=h') hk (aj _) ⟨by rw[av];omega,acc.toList,c,rv,by simpa using hS⟩;exact⟨.ref s.heap.objs.size,_,I3,rfl,q _ hD⟩
theorem zfb:∀{bs:List Bool} {its:List Value},Vals (bs.map V.bl) its->its=bs.map Value.bool
 | [],_,r=>by cases r;rfl
 |b::bs,_,r=>by
  cases r with
  |cons r1 r2=>cases r1;rw[zfb r2];rfl
theorem zao {s:Str}{e:Value->Bool}(he:∀b t,e (.str b t)=(b==s)):∀{ss:List Str} {its:List Value},Vals (ss.map V.str) its->its.countP e=ss.countP (· ==s)
 | [],_,r=>by cases r;rfl
 |b::bs,_,r=>by
  cases r with
  |cons r1 r2=>obtain⟨t,rfl⟩:=r1;rw[nj,nj,zao he r2,he]
def rCnt:V->List V->Hp->VK->Prop:=fun x vs H Q=>∃l,x=.ref l/\((∃(ss:List Str) (s:Str),vs=[.str s]/\H l=some (.lst (ss.map V.str))/\Q (.int (ss.countP (· ==s):Nat)) H)\/∃(bs:List Bool) (b:Bool),vs=[.bl b]/\H l=some (.lst (bs.map V.bl))/\Q (.int (bs.countP (· ==b):Nat)) H)
theorem zcc:MtR X "list.count" rCnt:=by
 intro pins s σ H x vs v us Q I rx rv h;obtain⟨l,rfl,h⟩:=h;cases rx;rcases h with⟨ss,z,rfl,hl,q⟩|⟨bs,b,rfl,hl,q⟩
 ·obtain⟨u,rfl,ru⟩:=rv.one;obtain⟨tk,rfl⟩:=ru;obtain⟨_,its,n,r,_,e⟩:=I.lstM hl
  let f:Value->Bool:=fun y=>match y with|.str b _=>b==z|_=>false
  refine ki PySem.F.slot_list_count ⟨_,e,rfl⟩ PySem.F.entry_list_count (PySem.F.args_list_count_2 _ _) (list_countAt l its.toArray n none _ (.str z tk) f) ⟨e,fun y hy=>?_,?_⟩
  ·obtain⟨b,t,rfl⟩:=z9t r y (by simpa using hy);exact EqAt.str_str b t z tk
  ·have ec:=zao (s:=z) (e:=f) (fun _ _=>rfl) r;refine⟨.int (ss.countP (· ==z):Nat),H,I.tok _,⟨_,by rw[<-ec]⟩,q⟩
 ·obtain⟨u,rfl,ru⟩:=rv.one;cases ru;obtain⟨_,its,n,r,_,e⟩:=I.lstM hl;have ei:=zfb r;subst ei
  let f:Value->Bool:=fun y=>match y with|.bool c=>c==b|_=>false
  refine ki PySem.F.slot_list_count ⟨_,e,rfl⟩ PySem.F.entry_list_count (PySem.F.args_list_count_2 _ _) (list_countAt l _ n none _ (.bool b) f) ⟨e,fun y hy=>?_,?_⟩
  ·obtain⟨c,_,rfl⟩:=ci.mp (show y∈bs.map Value.bool by simpa using hy);exact EqAt.bool_bool c b
  ·have ec:(bs.map Value.bool).countP f=bs.countP (· ==b):=by rw[List.countP_map];rfl
   exact⟨.int (bs.countP (· ==b):Nat),H,I.tok _,⟨_,by rw[<-ec]⟩,q⟩
end
end
end Mi
namespace Mi
open PySem PySem.Spec PyProof.Rows L2
inductive W where
 |pur (c:C)|raw (i:Nat)|bin (op:jl) (a b:W)|ife (c a b:W)|tup (xs:W)|lst (xs:W)|dnew|ix (a b:W)|len (a:W)|get (o k:W)|att (o:W) (f:Str)|cal (j:Nat) (as:W)|mth (o:W) (j:Nat) (as:W)|mk (j:Nat) (as:W)|tp (c:C)|tc (op:CmpOp) (a b:W)|not (a:W)|tor (a b:W)|exf (f:Str)|gi (j:Nat)|lv (o:W)|cnt (o k:W)|nil|cons (a r:W)
 deriving Inhabited
structure Wc where
 K:W.Frag
 mg:Str->Option Value
 Κ:List D
 Φ:List Fn
 E:XK
 fn:List Sp
 me:List (Addr×Str×Sp)
 cl:List (Addr×Sp)
 xf:Option V:=none
 gi:List Int:=[]
structure Gw where
 g:Gm
 fn:List (Str×Nat)
 me:List (Str×Nat)
 cl:List (Str×Nat)
 xf:Option Str:=none
 gi:List Str:=[]
 fld:List (Str×Str):=[]
def tNo:TE:=fun _ _ _=>False
section
variable (Z:Wc)
mutual
def wE:W->TE
 |.pur c=>tD Z.K (evE Z.Κ Z.Φ c)
 |.raw i=>tVar i
 |.bin op a b=>tOp (rOpN Z.K (binD op)) (wE a) (wE b)
 |.ife c a b=>tIf (wT c) (wE a) (wE b)
 |.tup xs=>tTup (wA xs)
 |.lst xs=>tLst (wA xs)
 |.dnew=>zf6
 |.ix a b=>tOp (rIxD Z.K) (wE a) (wE b)
 |.len a=>tCB (z6d Z.K (biD "len")) (z3n (wE a) tNil)
 |.get o k=>zeo (wE o) (wE k)
 |.att o f=>tFld Z.K (wE o) f
 |.cal j as=>match Z.fn[j]? with|some sp=>z6f sp [] Z.E (wA as)|none=>tNo
 |.mth o j as=>match Z.me[j]? with|some r=>z4s r.1 r.2.1 r.2.2 [] Z.E (wE o) (wA as)|none=>tNo
 |.mk j as=>match Z.cl[j]? with|some r=>z8w r.1 r.2 [] Z.E (wA as)|none=>tNo
 |.exf _=>match Z.xf with|some v=>fun _ H Q=>Q v H|none=>tNo
 |.lv o=>tCB rLV (z3n (tBM0 Z.K "dict" rVw (wE o)) tNil)
 |.cnt o k=>tBM Z.K "list" rCnt (wE o) (z3n (wE k) tNil)
 |.gi j=>match Z.gi[j]? with|some n=>fun _ H Q=>Q (.int n) H|none=>tNo
 |_=>tNo
def wA:W->TA
 |.nil=>tNil
 |.cons a r=>z3n (wE a) (wA r)
 |_=>fun _ _ _=>False
def wT:W->TT
 |.tp c=>tDT Z.K (evT Z.Κ Z.Φ c)
 |.tc op a b=>za9 (tOp (rOp Z.K (mB (cmpD op))) (wE a) (wE b))
 |.not a=>tNot (wT a)
 |.tor a b=>tOr (wT a) (wT b)
 |_=>fun _ _ _=>False
end
end
mutual
def wkE (Γ:Gw):W->Expr->Bool
 |.pur c,e=>chkE Γ.g c e
 |.raw i,e=>hd1 (visB Γ.g i) e
 |.bin op a b,e=>(vBin e).any fun v=>decide (v.2.1=op)&&zdp op&&wkE Γ a v.1&&wkE Γ b v.2.2
 |.ife c a b,e=>(vIfE e).any fun v=>wkT Γ c v.1&&wkE Γ a v.2.1&&wkE Γ b v.2.2
 |.tup xs,e=>(vTup e).any fun es=>wkA Γ xs es
 |.lst xs,e=>(vLst e).any fun es=>wkA Γ xs es
 |.dnew,e=>(vDi e).any fun v=>v.1.isEmpty&&v.2.isEmpty
 |.ix a b,e=>(vSub e).any fun v=>z4k v.2&&wkE Γ a v.1&&wkE Γ b v.2
 |.len a,e=>(z2g e).any fun v=>(v.1==("len":Str))&&bltB Γ.g v.1&&(vOne v.2).any fun y=>!isStar y&&wkE Γ a y
 |.get o k,e=>(vMt e).any fun v=>((v.2.1==("get":Str))&&z0e v.1&&v.2.2.2)&&wkE Γ o v.1&&(vOne v.2.2.1).any fun y=>!isStar y&&wkE Γ k y
 |.att o f,e=>(vAt e).any fun v=>(v.2.1==f)&&z0e v.1&&wkE Γ o v.1
 |.cal j as,e=>(z2g e).any fun v=>glB Γ.g v.1&&(Γ.fn[j]?==some (v.1,v.2.length))&&wkA Γ as v.2&&(Γ.g.cm&& !v.2.isEmpty)
 |.mth o j as,e=>Γ.g.cm&&(vMt e).any fun v=>(z0e v.1&&v.2.2.2&&decide (v.2.2.1.length<20))&&(Γ.me[j]?==some (v.2.1,v.2.2.1.length))&&wkE Γ o v.1&&wkA Γ as v.2.2.1
 |.mk j as,e=>(z2g e).any fun v=>glB Γ.g v.1&&(Γ.cl[j]?==some (v.1,v.2.length))&&wkA Γ as v.2&&(Γ.g.cm&& !v.2.isEmpty)
 |.exf f,e=>(vAt e).any fun v=>(v.2.1==f)&&z0e v.1&&(hd1 (fun x=>Γ.g.xc.any fun u=>u.1==x) v.1)&&(Γ.xf==some f)
 |.lv o,e=>Γ.g.cm&&(z2g e).any fun v=>(v.1==("list":Str))&&bltB Γ.g v.1&&(vOne v.2).any fun y=>(vMt y).any fun m=>((m.2.1==("values":Str))&&z0e m.1&&m.2.2.2)&&wkE Γ o m.1&&m.2.2.1.isEmpty
 |.cnt o k,e=>(vMt e).any fun v=>((v.2.1==("count":Str))&&z0e v.1&&v.2.2.2)&&wkE Γ o v.1&&(vOne v.2.2.1).any fun y=>!isStar y&&wkE Γ k y
 |.gi j,e=>hd1 (fun x=>glB Γ.g x&&(Γ.gi[j]?==some x)) e
 |_,_=>false
def wkA (Γ:Gw):W->List Expr->Bool
 |.nil,es=>es.isEmpty
 |.cons a r,es=>match es with|e::es=>!isStar e&&wkE Γ a e&&wkA Γ r es|_=>false
 |_,_=>false
def wkT (Γ:Gw):W->Expr->Bool
 |.tp c,e=>chkT Γ.g c e
 |.tc op a b,e=>(vCm e).any fun v=>decide (v.2.1=[op])&&(vOne v.2.2).any fun r=>z1z op&& !(gp op r)&&wkE Γ a v.1&&wkE Γ b r
 |.not a,e=>(vUn e).any fun v=>decide (v.1=.Not)&&wkT Γ a v.2
 |.tor a b,e=>(vBo e).any fun v=>decide (v.1=.Or)&&z90 (fun x=>wkT Γ a x) (fun x=>wkT Γ b x) .Or v.2.2 v.2.1
 |_,_=>false
end
structure Zok (Γ:Gw)(Z:Wc)(CX:CXT)(P:ax)(w:World)(K:W.Frag)(mg:Str->Option Value)(base:Heap)(r:Nat):Prop where
 kk:Z.K=K
 mm:Z.mg=mg
 fn:∀(j:Nat) x n,Γ.fn[j]?=some (x,n)->∃sp f fd ps k,Z.fn[j]?=some sp/\k<=r/\FnOk P w K mg base CX k f fd ps sp/\mg x=some (.ref f)/\W.keepIn K (.ref f)=true/\Binds K fd ps []
 me:∀(j:Nat) m n,Γ.me[j]?=some (m,n)->∃C sp f fd ps k,Z.me[j]?=some (C,m,sp)/\k<=r/\FnOk P w K mg base CX k f fd ps sp/\Cls K C/\Meth K C m f/\Binds K fd ps []
 cl:∀(j:Nat) x n,Γ.cl[j]?=some (x,n)->∃C sp f fd ps k,Z.cl[j]?=some (C,sp)/\k+1<=r/\FnOk P w K mg base CX k f fd ps sp/\Mk K C f/\mg x=some (.ref C)/\Binds K fd ps []
 gi:∀(j:Nat) x,Γ.gi[j]?=some x->∃n t,Z.gi[j]?=some n/\mg x=some (.int n t)
structure Wok (Γ:Gw)(Z:Wc)(CX:CXT)(X:Cx)(r:Nat):Prop extends Zok Γ Z CX X.prog X.w X.K X.mg X.base r where
 ck:Cok Γ.g Z.Κ Z.Φ X r
 room:Γ.g.cm=true->Room r X.A
 px:z2b CX X Z.E
 xf:∀f,Γ.xf=some f->∃v,Z.xf=some v/\∀n c,Γ.g.xc=some (n,c)->∀p q,z0e (.Name n p)=true->PE X (.Attribute (.Name n p) f q) (fun _ H Q=>Q v H)
section
variable {X:Cx}
theorem z7u {f C:Addr}{sp:Sp}{E:XK}{m:Str}{apos cpos:Pos}{o:Expr}{es:List Expr}{ta:TE}{t:TA}(he:PE X o ta)(c:Cls X.K C)(hm:Meth X.K C m f)
  (hns:z0e o=true) (hst:(es.all fun e=>!isStar e)=true) (hl:es.length<20) (hline:(apos.endLine==cpos.line)=true)
  (go:∀pins s σ H (Q:VK) a,Inv X pins σ H s->(t σ H fun vs H2=>sp (.ref a::(vs++[])) H2 Q E)->wpAny (model X.prog X.w) X.A (callWith cpos (.ref f) [.ref a] (i4 cpos (cu es X.env)) (m8 cpos (kn [] X.env))) (EP X pins σ Q) X.xe s):
  PE X (.Call (.Attribute o m apos) es [] cpos) (z4s C m sp [] E ta t):=by
 intro pins s σ H Q I h;rw[arm_eval_Call,z10 hns];refine aa (thn (he pins s σ H _ I h) fun u s1 ⟨x,H1,I1,rx,a,dx,fs,ex,ea,l,q⟩=>?_);subst ex;obtain rfl:u=Value.ref a:=rx;refine aa (jf ?_);have hform:methodCallForm (es.length+([]:List j4).length) (i4 cpos (cu es X.env)) (m8 cpos (kn [] X.env))=true:=z26 hst hl;have hpos:methodCallPos true o X.env apos cpos=pure cpos:=by unfold methodCallPos;simp[hline]
 unfold methodCall;rw[hform];refine aa (f9 (z8s I1 ea c hm l ?_));exact aa (wpAny_of_eq hpos (go pins s1 σ H1 Q a I1 q))
variable {CX:CXT}{k:Nat}{f C:Addr}{fd:di}{ps:List Str}{sp:Sp}{E:XK}{m:Str}{apos cpos:Pos}{o e:Expr}{es:List Expr}{ta:TE}{t:TA}
theorem zdf (he:PE X o ta)(c:Cls X.K C)(hm:Meth X.K C m f)(F:FnOk X.prog X.w X.K X.mg X.base CX k f fd ps sp)(hr:Room k X.A)(hb:Binds X.K fd ps [])(hx:z2b CX X E)(ha:PA X (e::es) t)
  (hns:z0e o=true) (hst:((e::es).all fun e=>!isStar e)=true) (hl:(e::es).length<20) (hline:(apos.endLine==cpos.line)=true):
  PE X (.Call (.Attribute o m apos) (e::es) [] cpos) (z4s C m sp [] E ta t):=
 z7u he c hm hns hst hl hline fun pins s σ H Q a I q=>by rw[bz,aq]at hst;refine W.callWith_K (first:=[.ref a]) (h₀:=X.base) I.ok.mod.kin hm.kp (thn (ha cpos pins s σ H _ I q) fun us s2 ⟨vs,H2,I2,r,q2⟩=>⟨I2.kIn,?_⟩) (z06 (by simpa using hst.1)) (z0k hst.2);exact zaj (us:=.ref a::us) (vs:=.ref a::vs) F hr hb .nil hx I2 (.cons rfl r) q2
theorem zc2 (he:PE X o ta)(c:Cls X.K C)(hm:Meth X.K C m f)(F:FnOk X.prog X.w X.K X.mg X.base CX k f fd ps sp)(hr:Room k X.A)(hb:Binds X.K fd ps [])(hx:z2b CX X E)
  (hns:z0e o=true) (hline:(apos.endLine==cpos.line)=true):
  PE X (.Call (.Attribute o m apos) [] [] cpos) (z4s C m sp [] E ta tNil):=
 z7u he c hm hns rfl (by decide) hline fun pins s σ H Q a I q=>W.callWith_K0 (first:=[.ref a]) I.kIn hm.kp (zaj (us:=[.ref a]) (vs:=[.ref a]) F hr hb .nil hx I (.cons rfl .nil) q)
end
section
variable {Γ:Gw}{Z:Wc}{CX:CXT}{X:Cx}{r:Nat}
structure We (w:W):Prop where
 E:∀(Γ:Gw) (Z:Wc) (CX:CXT) (X:Cx) (r:Nat) (e:Expr),Wok Γ Z CX X r->wkE Γ w e=true->PE X e (wE Z w)
 A:∀(Γ:Gw) (Z:Wc) (CX:CXT) (X:Cx) (r:Nat) (es:List Expr),Wok Γ Z CX X r->wkA Γ w es=true->PA X es (wA Z w)
 T:∀(Γ:Gw) (Z:Wc) (CX:CXT) (X:Cx) (r:Nat) (e:Expr),Wok Γ Z CX X r->wkT Γ w e=true->PT X e (wT Z w)/\((∃o l p,e=.BoolOp o l p)->PW X e (wT Z w))
theorem We.x {w:W}(h:∀(Γ:Gw) (Z:Wc) (CX:CXT) (X:Cx) (r:Nat) (e:Expr),Wok Γ Z CX X r->wkE Γ w e=true->PE X e (wE Z w))(ha:∀Γ es,wkA Γ w es=false)(ht:∀Γ e,wkT Γ w e=false):We w where
 E:=h
 A:=fun Γ Z CX X r es k z=>ff (ha Γ es) z
 T:=fun Γ Z CX X r e k z=>ff (ht Γ e) z
theorem We.t {w:W}(h:∀(Γ:Gw) (Z:Wc) (CX:CXT) (X:Cx) (r:Nat) (e:Expr),Wok Γ Z CX X r->wkT Γ w e=true->PT X e (wT Z w)/\((∃o l p,e=.BoolOp o l p)->PW X e (wT Z w)))(he:∀Γ e,wkE Γ w e=false)(ha:∀Γ es,wkA Γ w es=false):We w where
 E:=fun Γ Z CX X r e k z=>ff (he Γ e) z
 A:=fun Γ Z CX X r es k z=>ff (ha Γ es) z
 T:=h
theorem z2x {Γ:Gw}:∀{w:W} {es:List Expr},wkA Γ w es=true->(es.all fun e=> !isStar e)=true
 |.nil,es,h=>by cases z0q h;rfl
 |.cons a r,[],h=>by cases h
 |.cons a r,e::es,h=>by obtain⟨h1,_,h3⟩:=and3 h;rw[bz,h1,z2x h3];rfl
theorem Wok.rm (k:Wok Γ Z CX X r)(hc:Γ.g.cm=true){j:Nat}(h:j<=r):Room j X.A:=(k.room hc).mono h
theorem eqB {α:Type} [BEq α] [LawfulBEq α] {a b:α}(h:(a==b)=true):a=b:=eq_of_beq h
theorem zqo {Γ:Gw}{op:CmpOp}{a b:W}{e:Expr}(h:((vCm e).any fun v=>decide (v.2.1=[op])&&(vOne v.2.2).any fun r=>z1z op&& !(gp op r)&&wkE Γ a v.1&&wkE Γ b r)=true):∃l r p,e=.Compare l [op] [r] p/\z1z op=true/\gp op r=false/\wkE Γ a l=true/\wkE Γ b r=true:=by obtain⟨⟨l,o,rs⟩,hv,h9⟩:=z00 h;obtain⟨p,rfl⟩:=q_Cm hv;obtain⟨h1,h2⟩:=and2 h9;obtain⟨r,hr,h3⟩:=z00 h2;cases tu h1;cases z1f hr;obtain⟨h2,h3,h4,h5⟩:=and4 h3;exact⟨l,r,p,rfl,h2,z0l h3,h4,h5⟩
theorem w_mt {Γ:Gw}{o as:W}{j:Nat}{e:Expr}(h:wkE Γ (.mth o j as) e=true):Γ.g.cm=true/\∃b m ap es cp,e=.Call (.Attribute b m ap) es [] cp/\(ap.endLine==cp.line)=true/\z0e b=true/\es.length<20/\Γ.me[j]?=some (m,es.length)/\wkE Γ o b=true/\wkA Γ as es=true:=by obtain⟨hcm,h⟩:=and2 h;obtain⟨⟨x,n,es,b⟩,hv,h9⟩:=z00 h;obtain⟨ap,cp,rfl,hb⟩:=q_Mt hv;obtain⟨h0,h6,h7,h8⟩:=and4 h9;obtain⟨h1,h2,h3⟩:=and3 h0;exact⟨hcm,x,n,ap,es,cp,rfl,hb.symm.trans h2,h1,tu h3,eqB h6,h7,h8⟩
theorem zq2 {X:Cx}{o e:Expr}{m:Str}{ap cp:Pos}(h1:z0e o=true)(h2:(!isStar e)=true)(h3:(ap.endLine==cp.line)=true):M1 X o m ap e cp:=⟨z10 h1,z26 (by rw[bz,h2];rfl) (show 1<20 by decide),h3,by rw[z06 (z0l h2)];rfl⟩
theorem allW (w:W):We w:=by
 induction w with
 |pur c=>exact We.x (fun Γ Z CX X r e k h=>by show PE X e (tD Z.K (evE Z.Κ Z.Φ c));rw[k.kk];exact(all c).E Γ.g X r e k.ck h) (fun _ _=>rfl) fun _ _=>rfl
 |raw i=>exact We.x (fun Γ Z CX X r e k h=>by obtain⟨x,p,rfl,h⟩:=z1y h;obtain⟨h1,h2,h3,h4⟩:=k.ck.vis h;exact z2y h1 h2 h3 h4) (fun _ _=>rfl) fun _ _=>rfl
 |bin op a b ia ib=>exact We.x (fun Γ Z CX X r e k h=>by obtain⟨v,hv,h9⟩:=z00 h;obtain⟨p,rfl⟩:=zmn hv;obtain⟨h1,h2,h3,h4⟩:=and4 h9;cases tu h1;show PE X _ (tOp (rOpN Z.K (binD _)) _ _);rw[k.kk];exact zns (zlb _ h2) (ia.E Γ Z CX X r _ k h3) (ib.E Γ Z CX X r _ k h4)) (fun _ _=>rfl) fun _ _=>rfl
 |ife c a b ic ia ib=>exact We.x (fun Γ Z CX X r e k h=>by obtain⟨v,hv,h9⟩:=z00 h;obtain⟨p,rfl⟩:=zk2 hv;obtain⟨h1,h2,h3⟩:=and3 h9;exact z7t (ic.T Γ Z CX X r _ k h1).1 (ia.E Γ Z CX X r _ k h2) (ib.E Γ Z CX X r _ k h3)) (fun _ _=>rfl) fun _ _=>rfl
 |tup xs ia=>exact We.x (fun Γ Z CX X r e k h=>by obtain⟨v,hv,h9⟩:=z00 h;obtain⟨_,_,rfl⟩:=zdb hv;exact zfm (ia.A Γ Z CX X r _ k h9)) (fun _ _=>rfl) fun _ _=>rfl
 |lst xs ia=>exact We.x (fun Γ Z CX X r e k h=>by obtain⟨v,hv,h9⟩:=z00 h;obtain⟨_,rfl⟩:=zmy hv;exact zek (ia.A Γ Z CX X r _ k h9)) (fun _ _=>rfl) fun _ _=>rfl
 |dnew=>exact We.x (fun Γ Z CX X r e k h=>by obtain⟨⟨a,b⟩,hv,h9⟩:=z00 h;obtain⟨_,rfl⟩:=q_Di hv;obtain⟨h1,h2⟩:=and2 h9;cases z0q h1;cases z0q h2;exact z6y) (fun _ _=>rfl) fun _ _=>rfl
 |ix a b ia ib=>exact We.x (fun Γ Z CX X r e k h=>by obtain⟨v,hv,h9⟩:=z00 h;obtain⟨_,rfl⟩:=zda hv;obtain⟨h1,h2,h3⟩:=and3 h9;show PE X _ (tOp (rIxD Z.K) _ _);rw[k.kk];exact zjt (zkj k.ck.hu) (ia.E Γ Z CX X r _ k h2) (ib.E Γ Z CX X r _ k h3) (z7o h1)) (fun _ _=>rfl) fun _ _=>rfl
 |len a ia=>exact We.x (fun Γ Z CX X r e k h=>by obtain⟨⟨x,es⟩,hv,h9⟩:=z00 h;obtain⟨_,_,rfl⟩:=z13 hv;obtain⟨h1,h2,h3⟩:=and3 h9;obtain⟨y,hy,h4⟩:=z00 h3;cases z1f hy;obtain⟨h4,h5⟩:=and2 h4;have h1:x=("len":Str):=eqB h1;subst h1;obtain⟨g1,g2,g3,g4⟩:=k.ck.blt h2;show PE X _ (tCB (z6d Z.K (biD "len")) _);rw[k.kk];exact zcj zbf g2 (show cz "len"=_ by decide+kernel) (pa_c (ia.E Γ Z CX X r _ k h5) z1v (z0l h4)) (by rw[bz,h4];rfl) g1 g4 g3) (fun _ _=>rfl) fun _ _=>rfl
 |get o y io iy=>exact We.x (fun Γ Z CX X r e k h=>by obtain⟨⟨x,n,es,b⟩,hv,h9⟩:=z00 h;obtain⟨ap,cp,rfl,hb⟩:=q_Mt hv;obtain⟨h0,h6,h7⟩:=and3 h9;obtain⟨h1,h2,h3⟩:=and3 h0;obtain⟨y,hy,h4⟩:=z00 h7;cases z1f hy;obtain⟨h4,h5⟩:=and2 h4;have h1:n=("get":Str):=eqB h1;subst h1;exact zc7 (pw (o9 (by decide) _) k.ck.hu) (io.E Γ Z CX X r _ k h6) (iy.E Γ Z CX X r _ k h5) (zq2 h2 h4 (hb.symm.trans h3))) (fun _ _=>rfl) fun _ _=>rfl
 |att o f io=>exact We.x (fun Γ Z CX X r e k h=>by obtain⟨⟨x,n,p⟩,hv,h9⟩:=z00 h;cases q_At hv;obtain⟨h1,h2,h3⟩:=and3 h9;have h1:n=f:=eqB h1;subst h1;show PE X _ (tFld Z.K _ _);rw[k.kk];exact znp (io.E Γ Z CX X r _ k h3) (z10 h2)) (fun _ _=>rfl) fun _ _=>rfl
 |cal j as ia=>exact We.x (fun Γ Z CX X r e k h=>by
  obtain⟨⟨x,es⟩,hv,h9⟩:=z00 h;obtain⟨_,_,rfl⟩:=z13 hv;obtain⟨h1,h2,h3,h4⟩:=and4 h9;obtain⟨hcm,h4⟩:=and2 h4;obtain⟨y,es,rfl⟩:=z1q h4;obtain⟨g1,g2⟩:=k.ck.gl h1;obtain⟨sp,f,fd,ps,n,c1,c2,c3,c4,c5,c6⟩:=k.fn j _ _ (eqB h2);obtain⟨s1,s2⟩:=bz.symm.trans (z2x h3) |> aw.mp;have ee:wE Z (.cal j as)=z6f sp [] Z.E (wA Z as):=by show(match Z.fn[j]? with|some sp=>z6f sp [] Z.E (wA Z as)|none=>tNo)=_;rw[c1]
  rw[ee];exact z9f c3 (k.rm hcm c2) g1 c4 c5 c6 .nil k.px (ia.A Γ Z CX X r _ k h3) g2 (z06 (z0l s1)) (z0k s2)) (fun _ _=>rfl) fun _ _=>rfl
 |mth o j as io ia=>exact We.x (fun Γ Z CX X r e k h=>by
  obtain⟨hcm,b,m,ap,es,cp,rfl,h1,h2,h3,h4,h5,h6⟩:=w_mt h;obtain⟨C,sp,f,fd,ps,n,c1,c2,c3,c4,c5,c6⟩:=k.me j _ _ h4;have ee:wE Z (.mth o j as)=z4s C m sp [] Z.E (wE Z o) (wA Z as):=by show(match Z.me[j]? with|some r=>z4s r.1 r.2.1 r.2.2 [] Z.E (wE Z o) (wA Z as)|none=>tNo)=_;rw[c1]
  rw[ee];have ho:=io.E Γ Z CX X r _ k h5;have ha:=ia.A Γ Z CX X r _ k h6;have hs:=z2x h6;cases es with
  |nil=>
   refine PE.imp (zc2 ho c4 c5 c3 (k.rm hcm c2) c6 k.px h2 h1) fun σ H Q q=>?_;have:wA Z as=tNil:=by cases as<;>first|rfl|(cases h6;done)
   rw[this]at q;exact q
  |cons y es=>exact zdf ho c4 c5 c3 (k.rm hcm c2) c6 k.px ha h2 hs h3 h1) (fun _ _=>rfl) fun _ _=>rfl
 |mk j as ia=>exact We.x (fun Γ Z CX X r e k h=>by
  obtain⟨⟨x,es⟩,hv,h9⟩:=z00 h;obtain⟨_,_,rfl⟩:=z13 hv;obtain⟨h1,h2,h3,h4⟩:=and4 h9;obtain⟨hcm,h4⟩:=and2 h4;obtain⟨y,es,rfl⟩:=z1q h4;obtain⟨g1,g2⟩:=k.ck.gl h1;obtain⟨C,sp,f,fd,ps,n,c1,c2,c3,c4,c5,c6⟩:=k.cl j _ _ (eqB h2);obtain⟨s1,s2⟩:=bz.symm.trans (z2x h3) |> aw.mp;have ee:wE Z (.mk j as)=z8w C sp [] Z.E (wA Z as):=by show(match Z.cl[j]? with|some r=>z8w r.1 r.2 [] Z.E (wA Z as)|none=>tNo)=_;rw[c1]
  rw[ee];exact zgq c4 c3 ((k.room hcm).mono c2) g1 c5 c6 .nil k.px (ia.A Γ Z CX X r _ k h3) g2 (z06 (z0l s1)) (z0k s2)) (fun _ _=>rfl) fun _ _=>rfl
 |tp c=>exact We.t (fun Γ Z CX X r e k h=>by show PT X e (tDT Z.K (evT Z.Κ Z.Φ c))/\(_->PW X e (tDT Z.K (evT Z.Κ Z.Φ c)));rw[k.kk];exact(all c).T Γ.g X r e k.ck h) (fun _ _=>rfl) fun _ _=>rfl
 |tc op a b ia ib=>exact We.t (fun Γ Z CX X r e k h=>by obtain⟨_,_,_,rfl,h2,h3,h4,h5⟩:=zqo h;refine⟨?_,fun⟨_,_,_,z⟩=>by cases z⟩;show PT X _ (za9 (tOp (rOp Z.K (mB (cmpD _))) _ _));rw[k.kk];exact zau (z6b k.ck.hu _ h2) (ia.E Γ Z CX X r _ k h4) (ib.E Γ Z CX X r _ k h5) h3) (fun _ _=>rfl) fun _ _=>rfl
 |not a ia=>exact We.t (fun Γ Z CX X r e k h=>by obtain⟨⟨o,x⟩,hv,h9⟩:=z00 h;obtain⟨p,rfl⟩:=q_Un hv;obtain⟨h1,h2⟩:=and2 h9;cases tu h1;exact⟨zap (ia.T Γ Z CX X r _ k h2).1,fun⟨_,_,_,z⟩=>by cases z⟩) (fun _ _=>rfl) fun _ _=>rfl
 |tor a b ia ib=>exact We.t (fun Γ Z CX X r e k h=>by
  obtain⟨⟨o,xs,p⟩,hv,h9⟩:=z00 h;cases q_Bo hv;obtain⟨h1,h2⟩:=and2 h9;cases tu h1;rcases z33 h2 with⟨x,y,rfl,h3,h4⟩|⟨x,y,z,t,rfl,h3,h4⟩
  ·have w:=zir (pos:=p) (ia.T Γ Z CX X r _ k h3).1 (zfv (ib.T Γ Z CX X r _ k h4).1);exact⟨w.pt,fun _=>w⟩
  ·have w:=zir (pos:=p) (ia.T Γ Z CX X r _ k h3).1 ((ib.T Γ Z CX X r _ k h4).2 ⟨_,_,_,rfl⟩);exact⟨w.pt,fun _=>w⟩) (fun _ _=>rfl) fun _ _=>rfl
 |exf f=>exact We.x (fun Γ Z CX X r e k h=>by
  obtain⟨⟨x,n,p⟩,hv,h9⟩:=z00 h;cases q_At hv;obtain⟨h1,h0,h2,h3⟩:=and4 h9;have h1:n=f:=eqB h1;subst h1;obtain⟨y,q,rfl,h4⟩:=z1y h2;obtain⟨⟨m,c⟩,h5,h6⟩:=z00 h4;have h6:m=y:=eqB h6;subst h6;obtain⟨v,e1,e2⟩:=k.xf n (eqB h3);have ee:wE Z (.exf n)=fun _ H Q=>Q v H:=by show(match Z.xf with|some v=>(fun _ H Q=>Q v H:TE)|none=>tNo)=_;rw[e1]
  rw[ee];exact e2 m c h5 _ _ h0) (fun _ _=>rfl) fun _ _=>rfl
 |lv o io=>exact We.x (fun Γ Z CX X r e k h=>by obtain⟨hcm,h⟩:=and2 h;obtain⟨⟨x,es⟩,hv,h9⟩:=z00 h;obtain⟨_,_,rfl⟩:=z13 hv;obtain⟨h1,h2,h3⟩:=and3 h9;obtain⟨y,hy,h4⟩:=z00 h3;cases z1f hy;obtain⟨⟨b,n,es,l⟩,hm,h8⟩:=z00 h4;obtain⟨ap,cp,rfl,hb⟩:=q_Mt hm;obtain⟨h0,h6,h7⟩:=and3 h8;obtain⟨h5,h10,h11⟩:=and3 h0;cases z0q h7;have h5:n=("values":Str):=eqB h5;subst h5;have h1:x=("list":Str):=eqB h1;subst h1;obtain⟨g1,g2,g3,g4⟩:=k.ck.blt h2;show PE X _ (tCB rLV (z3n (tBM0 Z.K "dict" rVw _) tNil));rw[k.kk];exact zme (zga (k.ck.calm hcm)) g2 (show cz "list"=_ by decide+kernel) (pa_c (zfk PySem.F.plainAttrs_dict PySem.F.slot_dict_values PySem.F.type_dict_values z9r (io.E Γ Z CX X r _ k h6) (z10 h10) (hb.symm.trans h11)) z1v rfl) rfl g1 g4 g3) (fun _ _=>rfl) fun _ _=>rfl
 |cnt o y io iy=>exact We.x (fun Γ Z CX X r e k h=>by obtain⟨⟨x,n,es,b⟩,hv,h9⟩:=z00 h;obtain⟨ap,cp,rfl,hb⟩:=q_Mt hv;obtain⟨h0,h6,h7⟩:=and3 h9;obtain⟨h1,h2,h3⟩:=and3 h0;obtain⟨y,hy,h4⟩:=z00 h7;cases z1f hy;obtain⟨h4,h5⟩:=and2 h4;have h1:n=("count":Str):=eqB h1;subst h1;show PE X _ (tBM Z.K "list" rCnt _ _);rw[k.kk];exact z68 PySem.F.plainAttrs_list PySem.F.slot_list_count PySem.F.type_list_count zcc (io.E Γ Z CX X r _ k h6) (pa_c (iy.E Γ Z CX X r _ k h5) z1v (z0l h4)) (z10 h2) (z26 (by rw[bz,h4];rfl) (show 1<20 by decide)) (hb.symm.trans h3) (z06 (z0l h4)) (z0k rfl)) (fun _ _=>rfl) fun _ _=>rfl
 |gi j=>exact We.x (fun Γ Z CX X r e k h=>by
  obtain⟨x,p,rfl,h1⟩:=z1y h;obtain⟨h2,h3⟩:=and2 h1;obtain⟨g1,g2⟩:=k.ck.gl h2;obtain⟨n,t,e1,e2⟩:=k.gi j x (eqB h3);have ee:wE Z (.gi j)=fun _ H Q=>Q (.int n) H:=by show(match Z.gi[j]? with|some n=>(fun _ H Q=>Q (.int n) H:TE)|none=>tNo)=_;rw[e1]
  rw[ee];exact fun pins s σ H Q I h=>z1t I g1 e2 ⟨.int n,H,I,⟨t,rfl⟩,h⟩ g2) (fun _ _=>rfl) fun _ _=>rfl
 |nil=>exact⟨fun _ _ _ _ _ _ _ h=>ff rfl h,fun Γ Z CX X r es k h=>by cases z0q h;exact z1v,fun _ _ _ _ _ _ _ h=>ff rfl h⟩
 |cons a q ia iq=>exact⟨fun _ _ _ _ _ _ _ h=>ff rfl h,fun Γ Z CX X r es k h=>by
  cases es with
  |nil=>cases h
  |cons e es=>obtain⟨h1,h2,h3⟩:=and3 h;exact pa_c (ia.E Γ Z CX X r _ k h2) (iq.A Γ Z CX X r _ k h3) (z0l h1),fun _ _ _ _ _ _ _ h=>ff rfl h⟩
end
def inT (X:Cx)(pn:List (Addr×Obj))(E:Value->ae->Prop):Cx:={X with pn:=pn,xe:=E}
section
variable {X:Cx}{pins pins':List (Addr×Obj)}{σ:L2.St}{H:Hp}{s:ae}{E:Value->ae->Prop}{pn:List (Addr×Obj)}
theorem zer (ok:X.Ok):(inT X pn E).Ok:=⟨ok.mod,ok.kind,ok.glob,ok.blt,ok.above,ok.inj,ok.has,ok.cab,ok.hd,ok.frames,ok.stk,ok.exf,ok.bs,ok.bsz,ok.noex,ok.exfs,ok.funs,ok.frf,ok.fxN⟩
theorem zgi (I:Inv X pins σ H s)(E:Value->ae->Prop):Inv (inT X (X.pn++pins) E) [] σ H s:=⟨zer I.ok,I.os,I.bare,I.base,I.loc,I.cell,I.free,I.freeC,fun p hp=>I.pin p (by simpa[Mi.inT]using hp),I.hok,I.len,I.fx⟩
theorem z4e (ok:X.Ok)(I:Inv (inT X (X.pn++pins) E) pins' σ H s):Inv X pins σ H s:=⟨ok,I.os,I.bare,I.base,I.loc,I.cell,I.free,I.freeC,fun p hp=>I.pin p (d7 _ hp),I.hok,I.len,I.fx⟩
theorem zbz {Γ:Gm}{Κ:List D}{Φ:List Fn}{r:Nat}(k:Cok Γ Κ Φ X r)(hx:Γ.xc=none)(pn:List (Addr×Obj))(E:Value->ae->Prop):Cok Γ Κ Φ (inT X pn E) r:=⟨k.hN,k.hs,k.nd,k.fn,k.kind,k.free,k.fns,k.cst,k.fnx,k.room,k.calm,k.hu,k.fun_,k.fx0,fun n c z=>(by rw[hx]at z;cases z),k.xk⟩
end
section
variable {X:Cx}
end
end Mi
namespace Mi
open PySem PySem.Spec PyProof.Rows
section
variable {P:ax}{w:World}{A:cq}{E:Value->ae->Prop}{h:Heap}{g:Array mz}{d:Drawn}{t:Nat}{os:ll}
variable {nm q:Str}{C N:Addr}{bs bm bB:List Value}{hdct:Bool}{sn:List Str}{sub:List Value}{ab:Bool}{col:Option Bool}{dd:Option Addr}{k0 k1 k2 k3 k5:Option Value}{B newId initId:String}{mN:Str->Option Value}{us:List Value}{f:Addr}{o:Obj}
theorem zk4 (F:ExcBaseFacts B newId initId bB)(T:ox h bB bm){Q:Fin->ae->Prop}(hC:h.get? C=some (mq nm q C N bs bm hdct sn sub ab col dd k0 k1 k2 k3 k5 newId))(hN:h.Ns N mN)(hi:mN "__init__"=some (.ref f))(hf:h.get? f=some o)(hc:o.cls=.type "function")
  (go:∀h' e,h.objs.size<=e->la h h' e (.ref C) us->wpAny (model P w) A (call (.ref f) (.ref e::us)) (fun r s'=>r=.none/\Q (.done (.ret (.ref e))) s') E ⟨h',g,d,t,os⟩) (hl:us.length<=az):
  wpAny (model P w) A (Builtin.«type.__call__» ⟨.ref C::us,[]⟩) Q E ⟨h,g,d,t,os⟩:=by
 repeat (first|(with_reducible refine wpAny_madeBy_exc hC ?_)|(with_reducible refine bx hC ?_)|wp_step)
 refine codeAny_call_builtin_code (Code.quiet_builtin _ F.quiet) (wpAny_check_new_subT F T hC (codeAny_exc_new_subT F T hC ?_ hl));generalize ha:({cls:=.type "tuple",data:=.seq us.toArray}:Obj)=oa;generalize he:({cls:=.ref C,data:=.fields #[.ref h.objs.size,.none,.none,.none,.bool false,.none]}:Obj)=oe;have keep:∀b u,h.get? b=some u->((h.push oa).push oe).get? b=some u:=fun b u z=>af _ (af _ z);have at1:((h.push oa).push oe).get? (h.objs.size+1)=some oe:=mr (by rw[om]) (by rw[<-he];rfl);have at0:((h.push oa).push oe).get? h.objs.size=some oa:=af _ (mr rfl (by rw[<-ha];rfl));have clsE:oe.cls=.ref C:=by rw[<-he]
 have self:(Value.ref C::bm).contains (.ref C)=true:=by simp
 show wpAny _ _ _ _ _ _;unfold mh
 repeat (first|(with_reducible refine bx at1 ?_;rw[clsE])|(with_reducible refine i7 (keep _ _ hC) ?_;rw[self])|wp_step)
 refine wpAny_typeLookup_tail (keep _ _ hC) (hN.keeps keep) (T.keeps keep) F.mroIs F.init.lookup ?_;rw[hi];apply f9;apply aa;unfold bindSpecial;refine aa (wpAny_typeOf (T:="function") ⟨o,keep _ _ hf,hc⟩ ?_);rw[if_pos (show(_:Bool)=true from by decide)];have made:la h ((h.push oa).push oe) (h.objs.size+1) (.ref C) us:=⟨keep,iw (km _),h.objs.size,by rw[at1,<-he],iw (aj _),by rw[at0,<-ha]⟩;refine au (aa (jb (go _ _ (km _) made) (fun r s' z=>?_) fun _ _ z=>z));obtain⟨rfl,z⟩:=z
 wp_walk
 exact z
theorem zon (F:ExcBaseFacts B newId initId bB)(T:ox h bB bm){Q:Value->ae->Prop}(hC:h.get? C=some (mq nm q C N bs bm hdct sn sub ab col dd k0 k1 k2 k3 k5 newId))(hN:h.Ns N mN)(hi:mN "__init__"=some (.ref f))(hf:h.get? f=some o)(hc:o.cls=.type "function")
  (go:∀h' e,h.objs.size<=e->la h h' e (.ref C) us->wpAny (model P w) (A.under (.builtin "type.__call__" ⟨.ref C::us,[]⟩)) (call (.ref f) (.ref e::us)) (fun r s'=>r=.none/\Q (.ref e) s') E ⟨h',g,d,t,os⟩) (hl:us.length<=az):
  wpAny (model P w) A (call (.ref C) us) Q E ⟨h,g,d,t,os⟩:=by
 have isT:(⟨h,g,d,t,os⟩:ae).TypeIs (.ref C) "type":=⟨_,hC,rfl⟩;have l1:=tc_lookup;have l2:=tc_bind (.ref C);apply nr;apply codeAny_of_tree;change wpAny _ _ (callAny (.ref C) _) _ _ _
 repeat (any_goals (first|(with_reducible refine bx hC ?_)|assumption|wp_step))
 exact⟨rfl,codeAny_call_builtin_at (Code.quiet_builtin _ (by decide+kernel)) entry_typeCall (wpAny_check_type_call_sub hC (zk4 F T hC hN hi hf hc go hl))⟩
end
section
open Builtin
open Builtin.ObjectAttr
structure XF (K:W.Frag)(C:Addr)(f:Str):Prop where
 ex:exW K C=true
 hd:∀dd cd sl,K.lookup C=some ⟨.type "type",dd,.cls cd,sl⟩->cd.hasDict=true
 sa:W.findIn K (.ref C) "__setattr__"=some (some (.builtin "object.__setattr__"))
 nf:W.findIn K (.ref C) f=some none
 ga:W.findIn K (.ref C) "__getattribute__"=some (some (.builtin "BaseException.__getattribute__"))
 gt:W.findIn K (.ref C) "__getattr__"=some none
 ob:W.subIn K (.ref C) (.type "object")=some true
 be:W.subIn K (.ref C) (.type "BaseException")=some true
theorem z3j {h:Heap}{self:Value}{what:Str}:∀{l:List Value},ox h bmV l->refuseLoop self what bmV=pure ()->refuseLoop self what l=pure ()
 |_,.base,e=>e
 |_,.own _ _ _ T,e=>by rw[refuseLoop_ref];exact z3j T e
section
variable {prog:ax}{w:World}{A:cq}{E:Value->ae->Prop}{K:W.Frag}{h:Heap}{g:Array mz}{d:Drawn}{t:Nat}{os:ll}{C a:Addr}{ob:Obj}{vs:Array Value}{f:Str}{u:Value}
def Put (h:Heap)(a:Addr)(ob:Obj)(f:Str)(u:Value)(h':Heap):Prop:=∃dp,h.get? dp=none/\dp≠a/\h.objs.size<=dp/\h'.get? a=some {ob with dict:=some dp}/\h'.Ns1 dp (fun y=>if y=f then some u else none)/\∀b o,b≠a->h.get? b=some o->h'.get? b=some o
theorem zct {tk:Tok}{Q:Fin->ae->Prop}(X:K.In h)(x:XF K C f)(ge:h.get? a=some ob)(hc:ob.cls=.ref C)(hd:ob.dict=none)(da:ob.data=.fields vs)
  (go:∀h' tk',Put h a ob f u h'->Q (.done (.ret .none)) ⟨h',g,d,tk',os⟩):
  wpAny (model prog w) A (Builtin.«object.__setattr__» ⟨[.ref a,.str f tk,u],[]⟩) Q E ⟨h,g,d,t,os⟩:=by
 obtain⟨bm,⟨N,nm,q,bs,hdct,sn,sub,ab,col,dd,k0,k1,k2,k3,k5,mN,oC,hN,T⟩,_⟩:=XC.mk X x.ex;have hdt:hdct=true:=by obtain⟨dd',cd,bm',y0,y1,y2,y3,y5,ho,_⟩:=z1b x.ex;have e1:=x.hd _ _ _ ho;have e2:=X _ _ ho;rw[oC]at e2;cases e2;exact e1
 subst hdt;have hpass:=z3j (self:=.ref a) (what:="__setattr__") T (by kernel_rfl);have l0:=W.looks_findIn (M:=model prog w) X x.nf;unfold Builtin.«object.__setattr__»
 repeat (first|rw[refuse_eq]|(rw[refuseLoop_ref,hpass])|(with_reducible refine bx ge ?_;rw[hc])|with_reducible refine wpAny_mroOf_exc oC ?_|with_reducible refine l0.at ?_|wp_step)
 rw[hd,if_neg (by simp[typeHasDict]),da];have g1:(h.push {cls:=.type "dict",data:=.dict #[]}).get? a=some ob:=af _ ge;have na:a≠h.objs.size:=cg (bc ge);refine aa (wpAny_alloc' (aa (wpAny_update' g1 (au ?_))));generalize hh:((h.push {cls:=.type "dict",data:=.dict #[]}).update a fun o=>{cls:=o.cls,dict:=some h.objs.size,data:=o.data,slots:=o.slots})=h2;have gd:h2.get? h.objs.size=some {cls:=.type "dict",data:=.dict #[]}:=by rw[<-hh];exact(lw _ _ _ _ (Ne.symm na)).trans (mr rfl rfl)
 have ga:h2.get? a=some {ob with dict:=some h.objs.size}:=by rw[<-hh];refine fq _ g1 ?_;have fr:=(Heap.get?_some_iff.mp ge).2;obtain⟨oc,od,odt,osl⟩:=ob;cases odt<;>first|rfl|exact fr
 have keep:∀b o,b≠a->h.get? b=some o->h2.get? b=some o:=fun b o n e=>by rw[<-hh];exact(lw _ _ _ _ n).trans (af _ e)
 have nd:h2.Ns h.objs.size (fun _=>none):=⟨_,#[],_,gd,rfl,fun e z=>absurd z (by simp),fun _=>rfl⟩;show wpAny _ _ (storeInDict h.objs.size (.str f tk) f u) _ _ _;unfold storeInDict newKeyGuard;refine aa (au (aa (wpAny_nsSet1 (p7 nd) fun h' n1 sb=>?_)));obtain⟨oD,esD,epD,hoD,hdD,hcD⟩:=n1.count (Within.cons f u Within.nil);refine aa (wpAny_lookBehind hoD (by rw[hdD];exact pastItsLine_dict (bw hcD (by rw[ay,List.length_nil,dq];omega))) ?_)
 wp_walk
 refine go h' _ ⟨h.objs.size,iw (aj _),Ne.symm na,aj _,(sb.2 a na).trans ga,n1,fun b o n e=>(sb.2 b (cg (bc e))).trans (keep b o n e)⟩
theorem ze9 {M:Model}{nameV:Value}{Q:Unit->ae->Prop}(X:K.In h)(x:XF K C f)(ge:h.get? a=some ob)(hc:ob.cls=.ref C)(hq:Q () ⟨h,g,d,t,os⟩):
  wpAny M A (li "object.__setattr__" ⟨[.ref a,nameV,u],[]⟩) Q E ⟨h,g,d,t,os⟩:=by
 have z1:qy "object.__setattr__"=some .slot:=by decide+kernel
 have z2:splitId "object.__setattr__"=some ("object","__setattr__"):=by decide+kernel
 have l1:=W.looks_subIn (M:=M) X x.ob;have ar:=PySem.F.args_object_setattr_3 (.ref a) nameV u;simp only[li,z1,z2];refine aa ?_;unfold mh
 repeat (first|(with_reducible refine bx ge ?_;rw[hc])|with_reducible refine l1.at ?_|wp_step)
 exact hq
theorem zna {Q:Unit->ae->Prop}(X:K.In h)(x:XF K C f)(ge:h.get? a=some ob)(hc:ob.cls=.ref C)(hd:ob.dict=none)(da:ob.data=.fields vs)
  (go:∀h' tk',Put h a ob f u h'->Q () ⟨h',g,d,tk',os⟩):wpAny (model prog w) A (sy (.ref a) f u) Q E ⟨h,g,d,t,os⟩:=by
 have l0:=W.looks_findIn (M:=model prog w) X x.sa;have f3:=PySem.F.slot_list_setattr.bind (.ref a);unfold sy callSpecial? specialOf
 repeat (any_goals (first|assumption|(with_reducible refine bx ge ?_;rw[hc])|with_reducible refine l0.at ?_|wp_step))
 refine jm PySem.F.slot_list_setattr.plain PySem.F.entry_object_setattr (ze9 X x ge hc (zct X x ge hc hd da fun h' tk' p=>?_))
 repeat (any_goals (first|assumption|wp_step))
 exact go h' tk' p
theorem zhq {tk:Tok}{dp:Addr}{mA:Str->Option Value}{Q:Fin->ae->Prop}(X:K.In h)(x:XF K C f)(ge:h.get? a=some ob)(hc:ob.cls=.ref C)(da:ob.data=.fields vs)(hd:ob.dict=some dp)(hn:h.Ns dp mA)(hv:mA f=some u)
  (hq:Q (.done (.ret u)) ⟨h,g,d,t,os⟩):wpAny (model prog w) A (Builtin.«object.__getattribute__» ⟨[.ref a,.str f tk],[]⟩) Q E ⟨h,g,d,t,os⟩:=by
 obtain⟨bm,⟨N,nm,q,bs,hdct,sn,sub,ab,col,dd,k0,k1,k2,k3,k5,mN,oC,hN,T⟩,_⟩:=XC.mk X x.ex;have hdt:hdct=true:=by obtain⟨dd',cd,bm',y0,y1,y2,y3,y5,ho,_⟩:=z1b x.ex;have e1:=x.hd _ _ _ ho;have e2:=X _ _ ho;rw[oC]at e2;cases e2;exact e1
 subst hdt;have l0:=W.looks_findIn (M:=model prog w) X x.nf;unfold Builtin.«object.__getattribute__»
 repeat (first|(with_reducible refine bx ge ?_;rw[hc])|with_reducible refine l0.at ?_|wp_step)
 rw[da];unfold instanceDict
 repeat (first|(with_reducible refine bx ge ?_;rw[hc])|with_reducible refine bx oC ?_|wp_step)
 rw[hd]
 repeat (first|(with_reducible refine wpAny_nsGet hn ?_;rw[hv])|wp_step)
 exact hq
theorem zgo {tk:Tok}{dp:Addr}{mA:Str->Option Value}{R:qr->ae->Prop}(X:K.In h)(x:XF K C f)(ge:h.get? a=some ob)(hc:ob.cls=.ref C)(da:ob.data=.fields vs)(hd:ob.dict=some dp)(hn:h.Ns dp mA)(hv:mA f=some u)
  (hq:R (.ok (.ret u)) ⟨h,g,d,t,os⟩):ky (model prog w) A (.call (.builtin "BaseException.__getattribute__") ⟨[.ref a,.str f tk],[]⟩) R ⟨h,g,d,t,os⟩:=by
 refine jm F.excAttr_ValueError.ga.plain F.entry_bexc_ga ?_;have l1:=W.looks_subIn (M:=model prog w) X x.be;have ar:=F.args_bexc_ga (.ref a) (.str f tk);have z1:qy "BaseException.__getattribute__"=some .slot:=by decide+kernel
 have z2:splitId "BaseException.__getattribute__"=some ("BaseException","__getattribute__"):=by decide+kernel
 simp only[li,z1,z2];refine aa ?_;unfold mh
 repeat (first|(with_reducible refine zhq X x ge hc da hd hn hv ?_;exact hq)|(with_reducible refine bx ge ?_;rw[hc])|with_reducible refine l1.at ?_|wp_step)
theorem zqt {tk:Tok}{ex:Bool}{dp:Addr}{mA:Str->Option Value}{Q:Value->ae->Prop}(X:K.In h)(x:XF K C f)(ge:h.get? a=some ob)(hc:ob.cls=.ref C)(da:ob.data=.fields vs)(hd:ob.dict=some dp)(hn:h.Ns dp mA)(hv:mA f=some u)(hh:handedOut u=pure u)
  (hq:Q u ⟨h,g,d,t,os⟩):wpAny (model prog w) A (getAttrBy (.ref a) (.str f tk) true ex) Q E ⟨h,g,d,t,os⟩:=by
 have f3:=F.excAttr_ValueError.ga.bind (.ref a);have x2:(Value.builtin "BaseException.__getattribute__"==Value.builtin "object.__getattribute__")=false:=by decide+kernel
 have x1:(onTheHeap (Value.ref C)&&Value.builtin "BaseException.__getattribute__"==Value.builtin "object.__getattribute__")=false:=by rw[x2];rfl
 have x0:(ex&&onTheHeap (Value.builtin "BaseException.__getattribute__"))=false:=by cases ex<;>rfl
 have l1:=W.looks_findIn (M:=model prog w) X x.ga;have l2:=W.looks_findIn (M:=model prog w) X x.gt
 repeat (any_goals (first|assumption|(with_reducible refine bx ge ?_;rw[hc])|with_reducible refine l1.at ?_|with_reducible refine l2.at ?_|wp_step))
 refine zgo X x ge hc da hd hn hv ?_
 repeat' first|assumption|wp_step
theorem zka {ex:Bool}{dp:Addr}{mA:Str->Option Value}{Q:Value->ae->Prop}(X:K.In h)(x:XF K C f)(ge:h.get? a=some ob)(hc:ob.cls=.ref C)(da:ob.data=.fields vs)(hd:ob.dict=some dp)(hn:h.Ns dp mA)(hv:mA f=some u)(hh:handedOut u=pure u)
  (hq:Q u ⟨h,g,d,t+1,os⟩):wpAny (model prog w) A (rh (.ref a) f ex) Q E ⟨h,g,d,t,os⟩:=by
 unfold rh
 repeat (any_goals (first|assumption|with_reducible apply zqt X x ge hc da hd hn hv hh|wp_step))
end
end
end Mi
namespace Mi
open PySem PySem.Spec PyProof.Rows L2
def exO (a:Addr)(ob:Obj):HO:=.ext fun h=>h.get? a=some ob
def lone:HO->Prop
 |.ext _=>True
 |.xd _=>True
 |_=>False
def hid (H:Hp)(a:Addr):Hp:=fun b=>if b=a then none else H b
theorem z2u {H:Hp}{a:Addr}:hid H a a=none:=by unfold hid;rw[if_pos rfl]
theorem z29 {H:Hp}{a b:Addr}(h:b≠a):hid H a b=H b:=by unfold hid;rw[if_neg h]
section
variable {X:Cx}{pins:List (Addr×Obj)}{σ:L2.St}{H:Hp}{s:ae}{a C:Addr}{ob:Obj}{f:Str}
theorem zf4 (I:Inv X pins σ H s)(h:H a=some (exO a ob)):s.heap.get? a=some ob:=(I.hok a _ h).1
theorem zfl {P:ax}{w:World}{h:Heap}(e:h.get? a=some ob):z0s P w H h a (exO a ob):=⟨e,⟨_,e⟩,fun h1 h2 p k=>k _ p⟩
theorem Inv.hid (I:Inv X pins σ H s){o:HO}(hO:H a=some o)(hl:lone o):Inv X pins σ (hid H a) s:=by
 have ne:∀{b u},H b=some u->(lone u->False)->b≠a:=fun{b u} e n z=>by subst z;rw[hO]at e;cases e;exact n hl
 have nn:∀{b},H b=none->Mi.hid H a b=none:=fun{b} e=>by
  unfold Mi.hid;split
  ·rfl
  ·exact e
 refine⟨I.ok,I.os,I.bare,⟨I.base.keep,I.base.slot,fun b o e n hx=>nn (I.base.free b o e n hx),I.base.there,fun b xs e=>?_,fun b o u e=>?_,fun b ps e=>?_⟩,I.loc,I.cell,nn I.free,fun x c e=>nn (I.freeC x c e),fun p hp=>?_,fun b o e=>?_,I.len,I.fx⟩
 ·have e:=I.base.tups b xs e;rw[z29 (ne e id)];exact e
 ·have e:=I.base.frzs b o u e;rw[z29 (ne e id)];exact e
 ·obtain⟨m,e⟩:=I.base.tbls b ps e;exact⟨m,by rw[z29 (ne e id)];exact e⟩
 ·obtain⟨h1,h2,h3⟩:=I.pin p hp;exact⟨h1,nn h2,h3⟩
 ·have hb:b≠a:=by rintro rfl;rw[z2u]at e;cases e
  rw[z29 hb]at e;refine(I.hok b o e).stay (fun _ _ _ q=>q) (fun c q=>?_) fun c xs q=>?_
  ·rw[z29 (ne q id)];exact q
  ·rw[z29 (ne q id)];exact q
theorem zgn {y:V}{u:Value}{h':Heap}{tk:Nat}{dp:Addr}(I:Inv X pins σ H s)(hO:H a=some (exO a ob))(ry:RelV y u)(h0:s.heap.get? dp=none)(hz:s.heap.objs.size<=dp)(na:dp≠a)(ga:h'.get? a=some {ob with dict:=some dp})(ns:h'.Ns1 dp (fun g=>if g=f then some u else none))(k:∀b o,b≠a->s.heap.get? b=some o->h'.get? b=some o):
  H dp=none/\Inv X pins σ (upd (upd H dp (.xd [(f,y)])) a (exO a {ob with dict:=some dp})) {s with heap:=h',toks:=tk}:=by
 have hdp:H dp=none:=I.hok.fresh hz;have ne:∀{b u},H b=some u->(u=exO a ob->False)->b≠a:=fun{b u} e n z=>by subst z;rw[hO]at e;cases e;exact n rfl
 have nd:∀{b u},H b=some u->b≠dp:=fun{b u} e z=>by subst z;rw[hdp]at e;cases e
 have up:∀{b u},H b=some u->(u=exO a ob->False)->upd (upd H dp (.xd [(f,y)])) a (exO a {ob with dict:=some dp}) b=some u:=fun{b u} e n=>by rw[z01 (ne e n),z01 (nd e)];exact e
 have nn:∀{b o},s.heap.get? b=some o->H b=none->b≠a/\b≠dp:=fun{b o} e n=>⟨(by rintro rfl;rw[hO]at n;cases n),(by rintro rfl;rw[h0]at e;cases e)⟩;refine⟨hdp,I.un (t':=tk) ⟨fun b o e n _ _=>k b o (nn e n).1 e,fun b o e n _ _=>⟨o.slots,k b o (nn e n).1 e⟩,fun b o e n _=>?_,fun b o e _=>?_,fun b xs e=>up e nofun,fun b o u e=>up e nofun,fun b ps e=>⟨#[],by rw[Array.append_empty];exact up e nofun⟩⟩ fun b o e=>?_⟩
 ·rw[z01 (nn e n).1,z01 (nn e n).2];exact n
 ·by_cases hb:b=a
  ·subst hb;exact⟨_,ga⟩
  ·exact⟨o,k b o hb e⟩
 ·by_cases hb:b=a
  ·subst hb;rw[z02]at e;cases e;exact zfl ga
  ·rw[z01 hb]at e;by_cases hd:b=dp
   ·subst hd;rw[z02]at e;cases e;refine⟨_,ns,fun g=>?_⟩;by_cases hg:g=f
    ·subst hg;simp only[cx,beq_self_eq_true,if_true];exact ry
    ·have :(g==f)=false:=by simpa using hg
     simp only[cx,this,List.lookup_nil,if_neg hg];exact True.intro
   ·rw[z01 hd]at e;refine(I.hok b o e).stay (fun c v hc q=>k c v ?_ q) (fun c q=>up q nofun) fun c xs q=>up q nofun;rcases hc with rfl|hc
    ·exact hb
    ·exact ne hc nofun
def sXf (K:W.Frag)(ta tv:TE)(f:Str):TS:=fun D σ H=>tv σ H fun y H1=>ta σ H1 fun x H2=>∃a C ob vs,x=.ref a/\H2 a=some (exO a ob)/\ob.cls=.ref C/\ob.dict=none/\ob.data=.fields vs/\XF K C f/\∀dp,H2 dp=none->dp≠a->D.nx σ (upd (upd H2 dp (.xd [(f,y)])) a (exO a {ob with dict:=some dp}))
theorem zp7 {o value:Expr}{pos pos':Pos}{ta tv:TE}(ha:PE X o ta)(hv:PE X value tv)(hs:jo value (some (.Attribute o f pos')) pos.line X.env=pure false):PS X (.Assign [.Attribute o f pos'] value pos) (sXf X.K ta tv f):=by intro pins s σ H D I h;refine lb (thn (hv pins s σ H _ I h) fun u s1 ⟨y,H1,I1,ry,q⟩=>thn (ha pins s1 σ H1 _ I1 q) fun ov s2 ⟨x,H2,I2,rx,a,C,ob,vs,ex,ea,hc,hd,da,xf,q2⟩=>?_) hs;subst ex;obtain rfl:ov=Value.ref a:=rx;obtain⟨hp,g,d,t,os⟩:=s2;refine zna I2.kIn xf (zf4 I2 ea) hc hd da fun h' tk' ⟨dp,h0,na,hz,ga,ns,k⟩=>?_;obtain⟨e1,I3⟩:=zgn (tk:=tk') I2 ea ry h0 hz na ga ns k;exact⟨σ,_,I3,q2 dp e1 na⟩
end
def spXi (K:W.Frag)(f:Str):Sp:=fun vs H Q _=>∃a C ob ws y,vs=[.ref a,y]/\H a=some (exO a ob)/\ob.cls=.ref C/\ob.dict=none/\ob.data=.fields ws/\XF K C f/\∀dp,H dp=none->dp≠a->Q .non (upd (upd H dp (.xd [(f,y)])) a (exO a {ob with dict:=some dp}))
structure XI (K:W.Frag)(C f:Addr):Prop where
 ini:∀dd cd sl,K.lookup C=some ⟨.type "type",dd,.cls cd,sl⟩->W.nsIn K cd.ns "__init__"=some (some (.ref f))
 fn:W.isFn K (.ref f)=true
theorem zi2 {K:W.Frag}{h:Heap}{N:Addr}{m:Str->Option Value}{n:Str}{v:Value}(X:K.In h)(G:h.Ns N m)(e:W.nsIn K N n=some (some v)):m n=some v:=by
 obtain⟨o,es,ep,ho,hd,_,hf⟩:=G;unfold W.nsIn at e;split at e
 ·rename_i q;have z:=X _ _ q;rw[ho]at z;cases z;cases hd;split at e
  ·rename_i he;cases e;rw[<-hf];unfold nsFind findBy;rw[<-pi,he];rfl
  ·split at e<;>cases e
 ·cases e
theorem XI.at {K:W.Frag}{C f:Addr}{h:Heap}(X:K.In h)(q:exW K C=true)(x:XI K C f):∃bm N nm qn bs hdct sn sub ab col dd k0 k1 k2 k3 k5 mN o,h.get? C=some (mq nm qn C N bs bm hdct sn sub ab col dd k0 k1 k2 k3 k5 "ValueError.__new__")/\h.Ns N mN/\mN "__init__"=some (.ref f)/\ox h bmV bm/\h.get? f=some o/\o.cls=.type "function":=by
 obtain⟨dd,cd,bm,k0,k1,k2,k3,k5,ho,hm,hd,ht,hk⟩:=z1b q;have hN:h.Ns cd.ns (h.nsMap cd.ns):=.of_isNs (W.isNs_of_in X hk);have ef:W.typeIn K (.ref f)=some (.type "function"):=t8 x.fn;have ef:(K.lookup f).map (·.cls)=some (.type "function"):=ef;obtain⟨o,e1,e2⟩:=dn.mp ef;refine⟨bm,cd.ns,cd.name,cd.qualname,cd.bases,cd.hasDict,cd.slotNames,cd.subclasses,cd.abstract,cd.collection,dd,k0,k1,k2,k3,k5,h.nsMap cd.ns,o,?_,hN,zi2 X hN (x.ini _ _ _ ho),W.tail_of_in X ht,X _ _ e1,e2⟩;have h2:=X _ _ ho;cases cd
 dsimp only at hm hd
 rw[hm,hd]at h2;exact h2
def Rsd (X:Cx)(E:XK):Prop:=∀pins σ H s a C ob vs,Inv X pins σ H s->H a=none->(∃H1 s1,Inv X pins σ H1 s1/\s1.heap.get? a=none)->s.heap.get? a=some ob->ob.cls=.ref C->ob.data=.fields vs->vs[1]?=some .none->E (.ref C) ob.dict H->X.xe (.ref a) s
section
variable {X:Cx}{pos:Pos}
theorem zcx {M:Model}{A:cq}{E:Value->ae->Prop}{env:Env}{s:ae}{x:Sem Value}{Q:Flow->ae->Prop}{C:Addr}(hh:A.handled=none)
  (h:wpAny M A x (fun v s1=>∃e ob t bm,v=.ref e/\XC C s1.heap bm/\s1.heap.get? e=some ob/\ob.cls=.ref C/\ob.data=.fields #[.ref t,.none,.none,.none,.bool false,.none]/\E (.ref e) s1) E s):wpAny M A (raiseStmt env (some x) none) Q E s:=by
 unfold raiseStmt;refine aa (jb h (fun v s1 h1=>?_) fun _ _ x=>x);obtain⟨e,ob,t,bm,rfl,⟨N,nm,q,bs,hdct,sn,sub,ab,col,dd,k0,k1,k2,k3,k5,mN,oC,hN,T⟩,he,hc,da,hE⟩:=h1;have hcB:(Value.ref C::bm).contains (.type "BaseException")=true:=by rw[mf,z5n T,qk]
 obtain⟨hp,g,d,tk,os⟩:=s1
 repeat (first|(with_reducible refine bx he ?_;first|rw[hc]|rw[da])|with_reducible refine bx oC ?_|(with_reducible refine i7 oC ?_;rw[hcB])|wp_step)
 rw[da]
 repeat (first|(with_reducible refine bx he ?_;first|rw[hc]|rw[da])|with_reducible refine bx oC ?_|(with_reducible refine i7 oC ?_;rw[hcB])|wp_step)
 exact o8 hh hE
theorem zar {x fl:Str}{np cp:Pos}{e:Expr}{te:TE}{k:Nat}{f C:Addr}{fd:di}{ps:List Str}{E:XK}(hr:Room (k+1) X.A)(hg:Gl X x)(hm:X.mg x=some (.ref C))(hdb:(x==("__debug__":Str))=false)(xf:XF X.K C fl)(xi:XI X.K C f)
  (F:FnOk X.prog X.w X.K X.mg X.base (CXE X.prog X.w X.base) k f fd ps (spXi X.K fl)) (hb:Binds X.K fd ps []) (he:PE X e te) (hst:isStar e=false) (rs:Rsd X E):
  PS X (.Raise (some (.Call (.Name x np) [e] [] cp)) none pos) (fun _ σ H=>te σ H fun y H1=>∀dp,H1 dp=none->E (.ref C) (some dp) (upd H1 dp (.xd [(fl,y)]))):=by
 intro pins s σ H D I hq;have hpl:(i4 cp (cu [e] X.env)).any (·.1)=false:=by rw[z06 hst];rfl
 have hA:=pa_c (X:=X) he z1v hst;rw[arm_exec_Raise];refine aa (jf (zcx (C:=C) hr.hd (aa (jb (wpAny_Call_ofName (z1t I hg hm ?_ hdb)) (fun v s3 h3=>aa (jf (au h3))) fun _ _ z=>z))));unfold callWith;have hA2:=hA cp pins s σ H (fun vs H1=>match vs with| [y]=>∀dp,H1 dp=none->E (.ref C) (some dp) (upd H1 dp (.xd [(fl,y)]))|_=>False) I hq;have hse:cu [e] X.env=(false,eval e X.env)::cu [] X.env:=z06 hst;rw[hse]at hA2 hpl ⊢;refine aa (f9 (lm (thn hA2 fun us s1 zz=>aa (jf ?_))));obtain⟨vs,H1,I1,r,hv⟩:=zz
 obtain⟨y,rfl⟩:∃y,vs=[y]:=by
  rcases vs with _|⟨y,_|⟨z,l⟩⟩
  ·exact hv.elim
  ·exact⟨y,rfl⟩
  ·exact hv.elim
 have hv:∀dp,H1 dp=none->E (.ref C) (some dp) (upd H1 dp (.xd [(fl,y)])):=hv;cases r with
 |cons ry rn=>
  cases rn;rename_i u;obtain⟨hp,g,d,t,os⟩:=s1;obtain⟨bm,N,nm,qn,bs,hdct,sn,sub,ab,col,dd,k0,k1,k2,k3,k5,mN,o,oC,hN,hi,T,hf,hc⟩:=xi.at I1.kIn xf.ex;simp only[hpl];refine aa (wpAny_keeperOf_exc oC ?_);refine aa (zon (us:=[u]) PySem.F.excBase_ValueError T oC hN hi hf hc (fun h' a hz made=>?_) (show 1<=az by rw[dq];decide));obtain⟨tp,ga,_,_⟩:=made.there;generalize hob:({cls:=.ref C,data:=.fields #[.ref tp,.none,.none,.none,.bool false,.none]}:Obj)=ob at ga;have I2:Inv X pins σ (upd H1 a (exO a ob)) ⟨h',g,d,t,os⟩:=I1.laid (t':=t) made.keeps hz (zfl ga);have h1a:H1 a=none:=I1.hok.fresh hz
  let Q2:VK:=fun v H3=>v=.non/\∃dp,H1 dp=none/\dp≠a/\H3=upd (upd (upd H1 a (exO a ob)) dp (.xd [(fl,y)])) a (exO a {ob with dict:=some dp})
  have hsp:spXi X.K fl [.ref a,y] (upd H1 a (exO a ob)) Q2 (fun _ _ _=>False):=⟨a,C,ob,#[.ref tp,.none,.none,.none,.bool false,.none],y,rfl,z02,by rw[<-hob],by rw[<-hob],by rw[<-hob],xf,fun dp e1 e2=>⟨rfl,dp,by rw[z01 e2]at e1;exact e1,e2,rfl⟩⟩;have r2:Vals [V.ref a,y] [Value.ref a,u]:=.cons rfl (.cons ry .nil);have hl:[Value.ref a,u].length=ps.length:=by rw[<-r2.length];exact F.len _ _ _ _ hsp
  have hb2:=hb ⟨h',g,d,t,os⟩ [Value.ref a,u] I2.kIn (by rw[dj];exact hl);rw[dj]at hb2;refine nr (jp (F.run _ X.stack _ _ ⟨[Value.ref a,u],[]⟩ [Value.ref a,u] [V.ref a,y] Q2 (fun _ _ _=>False) (hr.make C [u] []) (I2.env0.make C [u] []) hb2 r2 hsp) fun rr s' hq'=>?_);cases rr with
  |error e'=>obtain⟨_,_,_,_,_,_,z⟩:=hq';exact z.elim
  |ok fl'=>
   cases fl' with
   |next=>exact hq'.elim
   |brk=>exact hq'.elim
   |cont=>exact hq'.elim
   |ret w=>
    obtain⟨v,H3,I3,rv,rfl,dp,e1,e2,rfl⟩:=I2.after hq';have rv:w=Value.none:=rv;refine⟨rv,aa (f9 (wpAny_point (au ?_)))⟩;have ga3:=zf4 I3 z02;have I4:=Mi.Inv.hid I3 z02 True.intro
    have eH:Mi.hid (upd (upd (upd H1 a (exO a ob)) dp (.xd [(fl,y)])) a (exO a {ob with dict:=some dp})) a=upd H1 dp (.xd [(fl,y)]):=by
     funext b
     by_cases hb:b=a
     ·subst hb;rw[z2u,z01 (Ne.symm e2),h1a]
     ·rw[z29 hb,z01 hb];by_cases hd:b=dp
      ·subst hd;rw[z02,z02]
      ·rw[z01 hd,z01 hd,z01 hb]
    rw[eH]at I4;obtain⟨bm',xc,_⟩:=XC.mk I3.kIn xf.ex;refine⟨a,_,tp,bm',rfl,xc,ga3,by rw[<-hob],by rw[<-hob],rs pins σ _ s' a C _ _ I4 ?_ ⟨H1,_,I1,made.new⟩ ga3 (by rw[<-hob]) (by rw[<-hob]) rfl (hv dp e1)⟩;rw[z01 (Ne.symm e2)];exact h1a
theorem zkc {n f:Str}{p q:Pos}{a C dp:Addr}{oe od:Obj}{ws:Array Value}{v:V}{u:Value}{mA:Str->Option Value}(hx:X.fx=some (n,.ref a))(hl:X.env.scope.names.lookup n=some .local)(hd:(n==("__debug__":Str))=false)(hns:z0e (.Name n p)=true)(ha:Xh X a oe)(hc:oe.cls=.ref C)(da:oe.data=.fields ws)(hdd:oe.dict=some dp)(hp:Xh X dp od)(hm:∀h:Heap,h.get? dp=some od->h.Ns dp mA)(hv:mA f=some u)(rv:RelV v u)(xf:XF X.K C f):
  PE X (.Attribute (.Name n p) f q) (fun _ H Q=>Q v H):=by
 intro pins s σ H Q I h;refine za7 (z10 hns) (thn (zl2 (p:=p) hx hl hd pins s σ H (fun w H1=>w=.ref a/\H1=H) I ⟨rfl,rfl⟩) fun w s1 zz=>?_);obtain⟨w1,H1,I1,r1,rfl,rfl⟩:=zz;obtain rfl:w=Value.ref a:=r1;obtain⟨hh,g,d,t,os⟩:=s1;exact zka I1.kIn xf (ha _ _ _ _ I1) hc da hdd (hm _ (hp _ _ _ _ I1)) hv (W.handedOut_of (z63 rv)) ⟨v,H1,I1.tok (t+1),rv,h⟩
theorem zge {pins:List (Addr×Obj)}{σ:L2.St}{i:Nat}{n B fl:Str}{a dp C D:Addr}{y:V}{H1 H':Hp}{s1 s':ae}{Dn:Ends}{T:TS}{b0:Stmt}{suite:List Stmt}{np hp:Pos}(I:Inv X pins σ H1 s1)(fy:Fly X.prog X.w X.base X.stack H1 s1 C a H' s' (some dp))(hy:H' dp=some (.xd [(fl,y)]))(hs:X.stack=X.env::X.outer)(hf:X.env.frame=some X.env.locals)(hx:X.fx=none)(nd:X.N.Nodup)(hi:X.N[i]?=some n)(hv:X.env.scope.names.lookup ("":Str)=none)(hl:X.env.scope.names.lookup n=some .local)
  (hB:X.mg B=some (.ref D)) (xC:exW X.K C=true) (xD:exW X.K D=true) (sb:W.subIn X.K (.ref C) (.ref D)=some true) (hgB:Gl X B) (hdB:(B==("__debug__":Str))=false)
  (hsu:∀od mA u oe ws,(∀h:Heap,h.get? dp=some od->h.Ns dp mA)->mA fl=some u->RelV y u->oe.cls=.ref C->oe.dict=some dp->oe.data=.fields ws->PSs (inX (inT X ((dp,od)::X.pn) X.xe) i n a oe) (b0::suite) T) (q:T ⟨fun σ' H''=>Dn.nx (σ'.set i none) H'',Dn.rt,fun _ _=>False,fun _ _=>False⟩ (bj σ.length none) (hid H' dp)):
  wpAny (model X.prog X.w) X.A (jg (.ref a) X.env) (fun _ s2=>wpAny (model X.prog X.w) X.A (jr (.ref a) none) (fun _ s3=>wpAny (model X.prog X.w) X.A (oq (.ref a) X.env [.ExceptHandler (some (.Name B np)) (some n) (b0::suite) hp]) (SP X pins Dn) X.xe s3) X.xe s2) X.xe s':=by
 obtain⟨B0,hb0,hB0,cov,w0⟩:=fy.hh;have w0':=w0;rw[hs]at w0';obtain⟨mA,ns1,rel⟩:=hB0 dp _ hy;obtain⟨od,es,ep,god,⟨hdat,hrest⟩⟩:=id ns1;have rf:=rel fl;simp only[cx,beq_self_eq_true]at rf;obtain⟨u,hu,ru⟩:=RelO.some_of rf;have nsT:∀h:Heap,h.get? dp=some od->h.Ns dp mA:=fun h e=>(ns1.at (h':=h) fun o z=>by rw[god]at z;cases z;exact e).ns
 have e0:(bj σ.length (none:Option V)).set i none=bj σ.length none:=by
  apply mn;intro j;rw[dt];split
  ·rename_i h;subst h;rw[cj];split<;>simp_all
  ·rfl
 have back:∀{p2:List (Addr×Obj)} {σ2:L2.St} {H2:Hp} {s2:ae},Inv (inT X ((dp,od)::X.pn) X.xe) pins σ2 H2 s2->Inv X pins σ2 H2 s2:=fun{p2 σ2 H2 s2} J=>⟨I.ok,J.os,J.bare,J.base,J.loc,J.cell,J.free,J.freeC,fun p hp=>J.pin p (by show p∈(dp,od)::(X.pn++pins);exact ah _ hp),J.hok,J.len,J.fx⟩;refine za1 (pins:=pins) (X:=inT X ((dp,od)::X.pn) X.xe) (Dn:=Dn) (Q:=SP X pins Dn) (σ:=bj σ.length none) (H':=hid H' dp) (T:=T) (fun h6 w6 up=>?_) w0' ?_ hs hf hx nd hi hv hl hB (fun A=>x_up (X:=inT X ((dp,od)::X.pn) X.xe) xC xD sb A) hgB hdB (fun f s h=>?_) (fun oe ws h1 h2 h3=>hsu od mA u oe ws nsT hu ru h1 h2 h3) (by rw[e0];exact q)
 ·have J:=Fly.land I fy hb0 hB0 cov (by rw[hs];exact w6) up;have J2:=Mi.Inv.hid J hy True.intro;have J3:Inv X pins (bj σ.length none) (hid H' dp) {s' with heap:=h6}:=J2.weak (by rw[cn]) fun j v e=>by rw[cj]at e;split at e<;>cases e
  have hb6:h6.get? dp=some od:=w6.1 _ _ god;refine⟨zer J3.ok,J3.os,J3.bare,J3.base,J3.loc,J3.cell,J3.free,J3.freeC,fun p hp=>?_,J3.hok,J3.len,J3.fx⟩;rcases ak.mp (show p∈(dp,od)::(X.pn++pins)from hp)with rfl|hp
  ·have nfr:∀b∈(X.env::X.outer).filterMap (·.frame),dp≠b:=fun b hb z=>by
    have:=(w0'.2.2.1.mem hb).1;rw[<-z,god]at this;cases this
   refine⟨hb6,z2u,nfr _ ?_,fun z=>nfr dp ?_ rfl,fun v z=>?_⟩
   ·rw[d5,hf];exact ai
   ·rw[d5,hf];exact ah _ z
   ·have z:od.data=.cell v:=z;rw[hdat]at z;cases z
  ·exact J3.pin p hp
 ·have :=z7m fy;by_cases e:a=dp
  ·rw[e];exact z2u
  ·rw[z29 e];exact this
 ·cases f with
  |next=>obtain⟨σ2,H2,J,z⟩:=h;exact⟨σ2,H2,back (p2:=pins) J,z⟩
  |brk=>obtain⟨σ2,H2,J,z⟩:=h;exact⟨σ2,H2,back (p2:=pins) J,z⟩
  |cont=>obtain⟨σ2,H2,J,z⟩:=h;exact⟨σ2,H2,back (p2:=pins) J,z⟩
  |ret u=>obtain⟨v,σ2,H2,J,r,z⟩:=h;exact⟨v,σ2,H2,back (p2:=pins) J,r,z⟩
end
inductive WS where
 |nil|seq (a b:WS)|asg (i:Nat) (e:W)|fld (o:W) (f:Str) (e:W)|put (o k v:W)|exp (e:W)|app (o v:W)|ret (e:W)|ifS (c:W) (a b:WS)|for_ (t:Tg) (it:C) (b:WS)|mir (s:S)|xfl (o:W) (f:Str) (e:W)|rsa (c fl:Str) (e:W)|forw (t:Tg) (it:W) (b:WS)|tr2 (b hs:WS) (i n:Nat)|hn (c:Str) (f:Option Str) (h rest:WS)
 deriving Inhabited
def rz:WS->Bool
 |.seq a b=>rz a||rz b
 |.rsa _ _ _=>true
 |.ifS _ a b=>rz a||rz b
 |.for_ _ _ _=>true
 |.forw _ _ _=>true
 |.mir _=>true
 |_=>false
mutual
def wS:Wc->WS->TS
 |_,.nil=>zjl
 |Z,.seq a b=>tSeq (wS Z a) (wS Z b)
 |Z,.asg i e=>tAsg (wE Z e) (zd0 i)
 |Z,.fld o f e=>sFld Z.K (wE Z o) (wE Z e) f
 |Z,.put o k v=>sSet (wE Z o) (wE Z k) (wE Z v)
 |Z,.exp e=>zbi (wE Z e)
 |Z,.app o v=>zbi (tBM Z.K "list" z6n (wE Z o) (z3n (wE Z v) tNil))
 |Z,.ret e=>tRet (wE Z e)
 |Z,.ifS c a b=>tIfS (wT Z c) (wS Z a) (wS Z b)
 |Z,.for_ t it b=>tFor (tDW Z.K (evW Z.Κ Z.Φ it)) (tDG Z.K t) (wS Z b)
 |Z,.mir s=>tDS Z.K (evS Z.Κ Z.Φ s)
 |Z,.xfl o f e=>sXf Z.K (wE Z o) (wE Z e) f
 |Z,.rsa c fl e=>fun _ σ H=>∀C,Z.mg c=some (.ref C)->wE Z e σ H fun y H1=>∀dp,H1 dp=none->Z.E (.ref C) (some dp) (upd H1 dp (.xd [(fl,y)]))
 |Z,.forw t it b=>tFor (zbj Z.K (wE Z it)) (tDG Z.K t) (wS Z b)
 |Z,.tr2 b hs i n=>fun D σ H=>wS {Z with E:=wX Z hs D i n} b ⟨D.nx,D.rt,fun _ _=>False,fun _ _=>False⟩ σ H
 |_,.hn _ _ _ _=>fun _ _ _=>False
def wX:Wc->WS->Ends->Nat->Nat->XK
 |Z,.hn c f h rest,D,i,n=>fun v dd H'=>(∃C,Z.mg c=some (.ref C)/\v=.ref C/\match f with
   |none=>wS {Z with E:=fun _ _ _=>False,xf:=none} h ⟨fun σ' H''=>D.nx (σ'.set i none) H'',D.rt,fun _ _=>False,fun _ _=>False⟩ (bj n none) H'
   |some fl=>∃dp y,dd=some dp/\H' dp=some (.xd [(fl,y)])/\wS {Z with E:=fun _ _ _=>False,xf:=some y} h ⟨fun σ' H''=>D.nx (σ'.set i none) H'',D.rt,fun _ _=>False,fun _ _=>False⟩ (bj n none) (hid H' dp))
  \/wX Z rest D i n v dd H'
 |_,_,_,_,_=>fun _ _ _=>False
end
def vTx:Stmt->Option (List Stmt×Str×Str×List Stmt)
 |.Try b [h] [] [] _=>(vEh h).map fun u=>(b,u)
 |_=>none
theorem q_Tx {s:Stmt}{v:List Stmt×Str×Str×List Stmt}(e:vTx s=some v):∃np hp pos,s=.Try v.1 [.ExceptHandler (some (.Name v.2.1 np)) (some v.2.2.1) v.2.2.2 hp] [] [] pos:=by
 unfold vTx at e;split at e
 ·obtain⟨x,h3,rfl⟩:=dn.mp e;obtain⟨np,hp,rfl⟩:=q_Eh h3;exact⟨_,_,_,rfl⟩
 ·cases e
def gIn (Γ:Gw)(i:Nat)(nm c:Str)(f:Option Str):Gw:={Γ with g:={Γ.g with N:=Γ.g.N.set i "",cm:=false,xc:=some (nm,c),fns:=[]},xf:=f}
mutual
def wk1:Gw->WS->Stmt->Bool
 |Γ,.asg i e,s=>(vAs s).any fun u=>(vOne u.1).any fun x=>z6r Γ.g (.nm i) x&& !z1e u.2&&wkE Γ e u.2
 |Γ,.fld o f e,s=>(vAs s).any fun u=>(vOne u.1).any fun x=>(vAt x).any fun v=>(v.2.1==f)&& !z1e u.2&&wkE Γ o v.1&&wkE Γ e u.2
 |Γ,.put o k v,s=>(vAs s).any fun u=>(vOne u.1).any fun x=>(vSub x).any fun w=>!z1e u.2&&wkE Γ o w.1&&wkE Γ k w.2&&wkE Γ v u.2
 |Γ,.exp e,s=>(vEx s).any fun v=>!z1e v&&wkE Γ e v
 |Γ,.app o e,s=>(vEx s).any fun c=>(vMt c).any fun v=>((v.2.1==("append":Str))&&z0e v.1&&v.2.2.2)&&wkE Γ o v.1&&(vOne v.2.2.1).any fun y=>!isStar y&&wkE Γ e y
 |Γ,.ret e,s=>(vRt s).any fun o=>o.any fun v=>wkE Γ e v
 |Γ,.ifS c a b,s=>(vIf s).any fun v=>wkT Γ c v.1&&wkL Γ a v.2.1&&wkL Γ b v.2.2
 |Γ,.for_ t it b,s=>Γ.g.cm&&(vFo s).any fun v=>(z6r Γ.g t v.1&&zcp it v.1&&z98 v.2.1)&&chkW Γ.g it v.2.1&&wkL Γ b v.2.2.1&&v.2.2.2.isEmpty
 |Γ,.mir x,s=>chk1 Γ.g x s
 |Γ,.xfl o f e,s=>(vAs s).any fun u=>(vOne u.1).any fun x=>(vAt x).any fun v=>(v.2.1==f)&& !z1e u.2&&wkE Γ o v.1&&wkE Γ e u.2
 |Γ,.rsa c fl e,s=>(vRa s).any fun v=>(v.1==c)&&glB Γ.g c&&Γ.fld.contains (c,fl)&&Γ.g.cm&&(vOne v.2).any fun y=>!isStar y&&wkE Γ e y
 |Γ,.forw t it b,s=>Γ.g.cm&&(vFo s).any fun v=>(z6r Γ.g t v.1&&z98 v.2.1)&&wkE Γ it v.2.1&&wkL Γ b v.2.2.1&&v.2.2.2.isEmpty
 |Γ,.tr2 b hs i n,s=>decide (Γ.g.N.length=n)&&(vTx s).any fun v=>(Γ.g.cm&&(Γ.g.xc.isNone&& !Γ.g.blk)&&(Γ.g.N[i]?==some v.2.2.1)&&(Γ.g.sc.names.lookup v.2.2.1==some .local)&&decide (Γ.g.N.set i "").Nodup)&&((Γ.g.sc.names.lookup ("":Str)).isNone&&glB Γ.g v.2.1&& !rz b&&wkL Γ b v.1&&Γ.xf.isNone)&&(!v.2.2.2.isEmpty&& !(v.2.2.1==("__debug__":Str))&&wkH Γ hs i v.2.2.1 v.2.1 v.2.2.2)
 |_,_,_=>false
def wkH:Gw->WS->Nat->Str->Str->List Stmt->Bool
 |_,.nil,_,_,_,_=>true
 |Γ,.hn c f h rest,i,nm,B,su=>Γ.g.hnd.contains (c,B)&&(match f with|none=>true|some fl=>Γ.fld.contains (c,fl))&&wkL (gIn Γ i nm c f) h su&&wkH Γ rest i nm B su
 |_,_,_,_,_,_=>false
def wkL:Gw->WS->List Stmt->Bool
 |_,.nil,l=>l.isEmpty
 |Γ,.seq a b,l=>match l with|s::l=>wk1 Γ a s&&wkL Γ b l|_=>false
 |_,_,_=>false
end
def Wfk (Γ:Gw)(X:Cx)(r:Nat):Prop:=∀c fl,Γ.fld.contains (c,fl)=true->∃C f fd ps k,X.mg c=some (.ref C)/\XF X.K C fl/\XI X.K C f/\k+1<=r/\FnOk X.prog X.w X.K X.mg X.base (CXE X.prog X.w X.base) k f fd ps (spXi X.K fl)/\Binds X.K fd ps []
structure Wz (s:WS):Prop where
 R:∀(Γ:Gw) (Z:Wc) (X:Cx) (r:Nat) (st:Stmt),Wok Γ Z (CXE X.prog X.w X.base) X r->Wfk Γ X r->(rz s=true->fg (model X.prog X.w) X.A X.env X.xe)->(rz s=true->Rsd X Z.E)->wk1 Γ s st=true->PS X st (wS Z s)
 L:∀(Γ:Gw) (Z:Wc) (X:Cx) (r:Nat) (st:List Stmt),Wok Γ Z (CXE X.prog X.w X.base) X r->Wfk Γ X r->(rz s=true->fg (model X.prog X.w) X.A X.env X.xe)->(rz s=true->Rsd X Z.E)->wkL Γ s st=true->PSs X st (wS Z s)
 H:∀(Γ:Gw) (Z:Wc) (X:Cx) (r i:Nat) (nm B:Str) (b0:Stmt) (su:List Stmt) (np hp:Pos) (pins:List (Addr×Obj)) (Dn:Ends),Wok Γ Z (CXE X.prog X.w X.base) X r->Wfk Γ X r->Γ.g.xc=none->X.stack=X.env::X.outer->X.env.frame=some X.env.locals->X.N[i]?=some nm->X.env.scope.names.lookup ("":Str)=none->X.env.scope.names.lookup nm=some .local->(nm==("__debug__":Str))=false->(Γ.g.N.set i "").Nodup->Gl X B->(B==("__debug__":Str))=false->wkH Γ s i nm B (b0::su)=true->∀σ H1 s1 C a H' s' dd,Inv X pins σ H1 s1->Fly X.prog X.w X.base X.stack H1 s1 C a H' s' dd->wX Z s Dn i σ.length (.ref C) dd H'->wpAny (model X.prog X.w) X.A (jg (.ref a) X.env) (fun _ s2=>wpAny (model X.prog X.w) X.A (jr (.ref a) none) (fun _ s3=>wpAny (model X.prog X.w) X.A (oq (.ref a) X.env [.ExceptHandler (some (.Name B np)) (some nm) (b0::su) hp]) (SP X pins Dn) X.xe s3) X.xe s2) X.xe s'
theorem Wz.x {s:WS}(h:∀(Γ:Gw) (Z:Wc) (X:Cx) (r:Nat) (st:Stmt),Wok Γ Z (CXE X.prog X.w X.base) X r->Wfk Γ X r->(rz s=true->fg (model X.prog X.w) X.A X.env X.xe)->(rz s=true->Rsd X Z.E)->wk1 Γ s st=true->PS X st (wS Z s))(hl:∀Γ st,wkL Γ s st=false)(hx:∀Z D i n v dd H',¬wX Z s D i n v dd H'):Wz s:=⟨h,fun Γ Z X r st k kx hp hr z=>ff (hl Γ st) z,fun Γ Z X r i nm B b0 su np hp pins Dn k kx a1 a2 a3 a4 a5 a6 a7 a8 a9 a10 a11 σ H1 s1 C a H' s' dd I fl z=>(hx _ _ _ _ _ _ _ z).elim⟩
section
variable {X:Cx}{pos:Pos}
end
theorem or_1 {a b:Bool}(h:a=true):(a||b)=true:=by rw[h];rfl
theorem or_2 {a b:Bool}(h:b=true):(a||b)=true:=by rw[h,qk]
theorem zhr {X:Cx}{pins:List (Addr×Obj)}{σ:L2.St}{i:Nat}{n B:Str}{a C D:Addr}{dd:Option Addr}{H1 H':Hp}{s1 s':ae}{Dn:Ends}{T:TS}{b0:Stmt}{suite:List Stmt}{np hp:Pos}(I:Inv X pins σ H1 s1)(fy:Fly X.prog X.w X.base X.stack H1 s1 C a H' s' dd)(hs:X.stack=X.env::X.outer)(hf:X.env.frame=some X.env.locals)(hx:X.fx=none)(nd:X.N.Nodup)(hi:X.N[i]?=some n)(hv:X.env.scope.names.lookup ("":Str)=none)(hl:X.env.scope.names.lookup n=some .local)
  (hB:X.mg B=some (.ref D)) (xC:exW X.K C=true) (xD:exW X.K D=true) (sb:W.subIn X.K (.ref C) (.ref D)=some true) (hgB:Gl X B) (hdB:(B==("__debug__":Str))=false)
  (hsu:∀oe,oe.cls=.ref C->PSs (inX X i n a oe) (b0::suite) T) (q:T ⟨fun σ' H''=>Dn.nx (σ'.set i none) H'',Dn.rt,fun _ _=>False,fun _ _=>False⟩ (bj σ.length none) H'):
  wpAny (model X.prog X.w) X.A (jg (.ref a) X.env) (fun _ s2=>wpAny (model X.prog X.w) X.A (jr (.ref a) none) (fun _ s3=>wpAny (model X.prog X.w) X.A (oq (.ref a) X.env [.ExceptHandler (some (.Name B np)) (some n) (b0::suite) hp]) (SP X pins Dn) X.xe s3) X.xe s2) X.xe s':=by
 obtain⟨B0,hb0,hB0,cov,w0⟩:=fy.hh;have w0':=w0;rw[hs]at w0'
 have e0:(bj σ.length (none:Option V)).set i none=bj σ.length none:=by
  apply mn;intro j;rw[dt];split
  ·rename_i h;subst h;rw[cj];split<;>simp_all
  ·rfl
 refine za1 (pins:=pins) (Dn:=Dn) (Q:=SP X pins Dn) (σ:=bj σ.length none) (H':=H') (T:=T) (fun h6 w6 up=>?_) w0' (z7m fy) hs hf hx nd hi hv hl hB (x_up xC xD sb) hgB hdB (fun _ _ z=>z) (fun oe ws h1 h2 h3=>hsu oe h1) (by rw[e0];exact q);exact(Fly.land I fy hb0 hB0 cov (by rw[hs];exact w6) up).weak (by rw[cn]) fun j v e=>by rw[cj]at e;split at e<;>cases e
theorem w_hn {c:Str}{f:Option Str}{h rest:WS}(ih:Wz h)(ir:Wz rest):∀(Γ:Gw) (Z:Wc) (X:Cx) (r i:Nat) (nm B:Str) (b0:Stmt) (su:List Stmt) (np hp:Pos) (pins:List (Addr×Obj)) (Dn:Ends),Wok Γ Z (CXE X.prog X.w X.base) X r->Wfk Γ X r->Γ.g.xc=none->X.stack=X.env::X.outer->X.env.frame=some X.env.locals->X.N[i]?=some nm->X.env.scope.names.lookup ("":Str)=none->X.env.scope.names.lookup nm=some .local->(nm==("__debug__":Str))=false->(Γ.g.N.set i "").Nodup->Gl X B->(B==("__debug__":Str))=false->wkH Γ (.hn c f h rest) i nm B (b0::su)=true->
  ∀σ H1 s1 C a H' s' dd,Inv X pins σ H1 s1->Fly X.prog X.w X.base X.stack H1 s1 C a H' s' dd->wX Z (.hn c f h rest) Dn i σ.length (.ref C) dd H'->wpAny (model X.prog X.w) X.A (jg (.ref a) X.env) (fun _ s2=>wpAny (model X.prog X.w) X.A (jr (.ref a) none) (fun _ s3=>wpAny (model X.prog X.w) X.A (oq (.ref a) X.env [.ExceptHandler (some (.Name B np)) (some nm) (b0::su) hp]) (SP X pins Dn) X.xe s3) X.xe s2) X.xe s':=by
 intro Γ Z X r i nm B b0 su np hp pins Dn k kx hxc hs hf hi hv hl hdn hnd hgB hdB hck σ H1 s1 C a H' s' dd I fy z;have hck:(Γ.g.hnd.contains (c,B)&&(match f with|none=>true|some fl=>Γ.fld.contains (c,fl))&&wkL (gIn Γ i nm c f) h (b0::su)&&wkH Γ rest i nm B (b0::su))=true:=by cases f<;>exact hck
 obtain⟨c1,c2,c3,c4⟩:=and4 hck
 have z:(∃C0,Z.mg c=some (.ref C0)/\Value.ref C=.ref C0/\match f with
  |none=>wS {Z with E:=fun _ _ _=>False,xf:=none} h ⟨fun σ' H''=>Dn.nx (σ'.set i none) H'',Dn.rt,fun _ _=>False,fun _ _=>False⟩ (bj σ.length none) H'
  |some fl=>∃dp y,dd=some dp/\H' dp=some (.xd [(fl,y)])/\wS {Z with E:=fun _ _ _=>False,xf:=some y} h ⟨fun σ' H''=>Dn.nx (σ'.set i none) H'',Dn.rt,fun _ _=>False,fun _ _=>False⟩ (bj σ.length none) (hid H' dp))\/wX Z rest Dn i σ.length (.ref C) dd H':=by cases f<;>exact z
 rcases z with⟨C0,m0,e0,z⟩|z
 ·cases e0;obtain⟨C',D,m1,m2,x1,x2,sb⟩:=k.ck.xk.hnd c B c1;rw[k.mm,m1]at m0;cases m0;have ndX:X.N.Nodup:=by rw[k.ck.hN];exact k.ck.nd
  have hx:=k.ck.fx0 hxc;cases f with
  |none=>refine zhr I fy hs hf hx ndX hi hv hl m2 x1 x2 sb hgB hdB (fun oe hc=>?_) z;exact ih.L (gIn Γ i nm c none) _ (inX X i nm a oe) r _ ⟨⟨k.kk,k.mm,k.fn,k.me,k.cl,k.gi⟩,k.ck.inX hnd hc m1,(fun z=>by cases z),(fun _ _ _ _ _ _ _ z=>by obtain⟨_,_,_,_,_,_,z⟩:=z;exact z),fun f z=>by cases z⟩ kx (fun _=>PassesOwn.never) (fun _ _ _ _ _ _ _ _ _ _ _ _ _ _ _ _ z=>z.elim) c3
  |some fl=>obtain⟨dp,y,rfl,hy,z⟩:=z;obtain⟨C2,f2,fd2,ps2,k2,n1,xf,_⟩:=kx c fl c2;rw[m1]at n1;cases n1;refine zge I fy hy hs hf hx ndX hi hv hl m2 x1 x2 sb hgB hdB (fun od mA u oe ws q1 q2 q3 q4 q5 q6=>?_) z;refine ih.L (gIn Γ i nm c (some fl)) _ (inX (inT X ((dp,od)::X.pn) X.xe) i nm a oe) r _ ⟨⟨k.kk,k.mm,k.fn,k.me,k.cl,k.gi⟩,(zbz k.ck hxc ((dp,od)::X.pn) X.xe).inX hnd q4 m1,(fun z=>by cases z),(fun _ _ _ _ _ _ _ z=>by obtain⟨_,_,_,_,_,_,z⟩:=z;exact z),fun f z=>?_⟩ kx (fun _=>PassesOwn.never) (fun _ _ _ _ _ _ _ _ _ _ _ _ _ _ _ _ z=>z.elim) c3;cases z;refine⟨y,rfl,fun n' c' e p q hns=>?_⟩;cases e;exact zkc (X:=inX (inT X ((dp,od)::X.pn) X.xe) i nm a oe) rfl hl hdn hns (fun _ _ _ _ J=>(J.pin (a,oe) (d7 _ ai)).1) q4 q6 q5 (fun _ _ _ _ J=>(J.pin (dp,od) (d7 _ (ah _ ai))).1) q1 q2 q3 xf
 ·exact ir.H Γ Z X r i nm B b0 su np hp pins Dn k kx hxc hs hf hi hv hl hdn hnd hgB hdB c4 σ H1 s1 C a H' s' dd I fy z
theorem zr2 {Γ:Gw}{Z:Wc}{X:Cx}{r:Nat}{st:Stmt}{b hs:WS}{i n:Nat}(ib:Wz b)(ih:Wz hs)(k:Wok Γ Z (CXE X.prog X.w X.base) X r)(kx:Wfk Γ X r)(h:wk1 Γ (.tr2 b hs i n) st=true):PS X st (wS Z (.tr2 b hs i n)):=by
 have h:(decide (Γ.g.N.length=n)&&(vTx st).any fun v=>(Γ.g.cm&&(Γ.g.xc.isNone&& !Γ.g.blk)&&(Γ.g.N[i]?==some v.2.2.1)&&(Γ.g.sc.names.lookup v.2.2.1==some .local)&&decide (Γ.g.N.set i "").Nodup)&&((Γ.g.sc.names.lookup ("":Str)).isNone&&glB Γ.g v.2.1&& !rz b&&wkL Γ b v.1&&Γ.xf.isNone)&&(!v.2.2.2.isEmpty&& !(v.2.2.1==("__debug__":Str))&&wkH Γ hs i v.2.2.1 v.2.1 v.2.2.2))=true:=h;obtain⟨hn,h⟩:=and2 h;obtain⟨⟨bd,B,nm,su⟩,hv,h9⟩:=z00 h;obtain⟨np,hpp,pos,rfl⟩:=q_Tx hv;obtain⟨h1,h2,h3⟩:=and3 h9;obtain⟨a1,a2,a3,a4,a5⟩:=and5 h1;obtain⟨b1,b2,b3,b4,b5⟩:=and5 h2;obtain⟨c1,c2,c3⟩:=and3 h3;obtain⟨a6,a7⟩:=and2 a2;obtain⟨b0,su,rfl⟩:=z1q c1;obtain⟨g3,g4⟩:=k.ck.gl b2;obtain⟨s1,s2⟩:=k.ck.fun_ (z0l a7);have hxc:=fo.mp a6;have hxf:=fo.mp b5;have hrz:rz b=false:=z0l b3;intro pins s σ H Dn I hq;refine wpAny_Try_except ?_;generalize hE:(fun(e:Value) (s₁:ae)=>wpAny (model X.prog X.w) X.A (jg e X.env) (fun _ s₂=>wpAny (model X.prog X.w) X.A (jr e none) (fun _ s₃=>wpAny (model X.prog X.w) X.A (oq e X.env [.ExceptHandler (some (.Name B np)) (some nm) (b0::su) hpp]) (SP X pins Dn) X.xe s₃) X.xe s₂) X.xe s₁)=E
 have px:z2b (CXE X.prog X.w X.base) (inT X (X.pn++pins) E) (wX Z hs Dn i n):=fun pins' σ' H1 s1' e s' I1 zz=>by
  obtain⟨a,C',dd,H',rfl,fl,q⟩:=zz;show E (.ref a) s';rw[<-hE];have I2:Inv X pins σ' H1 s1':=z4e I.ok I1;have hl2:n=σ'.length:=by rw[I2.len,k.ck.hN];exact(tu hn).symm
  rw[hl2]at q;exact ih.H Γ Z X r i nm B b0 su np hpp pins Dn k kx hxc s1 s2 (by rw[k.ck.hN];exact t8 a3) (by rw[k.ck.hs];exact fo.mp b1) (by rw[k.ck.hs];exact t8 a4) (z0l c2) (tu a5) g3 g4 c3 σ' H1 s1' C' a H' s' dd I2 fl q
 have wk:Wok Γ {Z with E:=wX Z hs Dn i n} (CXE X.prog X.w X.base) (inT X (X.pn++pins) E) r:=⟨⟨k.kk,k.mm,k.fn,k.me,k.cl,k.gi⟩,zbz k.ck hxc _ E,k.room,px,fun f z=>by rw[hxf]at z;cases z⟩;have h1:=ib.L Γ _ (inT X (X.pn++pins) E) r bd wk kx (fun z=>by rw[hrz]at z;cases z) (fun z=>by rw[hrz]at z;cases z) b4;refine thn (h1 [] s σ H ⟨Dn.nx,Dn.rt,fun _ _=>False,fun _ _=>False⟩ (zgi I E) hq) fun fl2 s2 h2=>?_;cases fl2 with
 |next=>obtain⟨σ',H',I2,z⟩:=h2;exact n6 ⟨σ',H',z4e I.ok I2,z⟩
 |brk=>obtain⟨_,_,_,z⟩:=h2;exact z.elim
 |cont=>obtain⟨_,_,_,z⟩:=h2;exact z.elim
 |ret u=>obtain⟨v,σ',H',I2,rv,z⟩:=h2;exact⟨v,σ',H',z4e I.ok I2,rv,z⟩
theorem zr9 (s:WS):Wz s:=by
 induction s with
 |nil=>exact⟨fun _ _ _ _ _ _ _ _ _ h=>ff rfl h,fun Γ Z X r st k kx hp hr h=>by cases z0q h;exact zaw,fun Γ Z X r i nm B b0 su np hp pins Dn k kx a1 a2 a3 a4 a5 a6 a7 a8 a9 a10 a11 σ H1 s1 C a H' s' dd I fl z=>z.elim⟩
 |seq a b ia ib=>exact⟨fun _ _ _ _ _ _ _ _ _ h=>ff rfl h,fun Γ Z X r st k kx hp hr h=>by
  cases st with
  |nil=>cases h
  |cons s st=>obtain⟨h1,h2⟩:=and2 h;exact z41 (ia.R Γ Z X r _ k kx (fun z=>hp (or_1 z)) (fun z=>hr (or_1 z)) h1) (ib.L Γ Z X r _ k kx (fun z=>hp (or_2 z)) (fun z=>hr (or_2 z)) h2),fun Γ Z X r i nm B b0 su np hp pins Dn k kx a1 a2 a3 a4 a5 a6 a7 a8 a9 a10 a11 σ H1 s1 C a H' s' dd I fl z=>z.elim⟩
 |asg i e=>exact Wz.x (fun Γ Z X r st k kx hp hr h=>by obtain⟨⟨ts,v⟩,hv,h9⟩:=z00 h;obtain⟨p,rfl⟩:=q_As hv;obtain⟨x,hx,h8⟩:=z00 h9;cases z1f hx;obtain⟨h1,h2,h3⟩:=and3 h8;obtain⟨y,q,rfl,h5⟩:=z1y h1;obtain⟨l1,l2,l3⟩:=k.ck.loc h5;exact ps_s (by rw[k.ck.hN];exact k.ck.nd) l1 l2 ((allW e).E Γ Z _ X r _ k h3) (z0l h2) l3) (fun _ _=>rfl) fun _ _ _ _ _ _ _ z=>z
 |fld o f e=>exact Wz.x (fun Γ Z X r st k kx hp hr h=>by obtain⟨⟨ts,v⟩,hv,h9⟩:=z00 h;obtain⟨p,rfl⟩:=q_As hv;obtain⟨x,hx,h8⟩:=z00 h9;cases z1f hx;obtain⟨⟨o',f',p'⟩,ho,h7⟩:=z00 h8;cases q_At ho;obtain⟨h1,h2,h3,h4⟩:=and4 h7;have h1:f'=f:=eqB h1;subst h1;show PS X _ (sFld Z.K _ _ _);rw[k.kk];exact zj5 ((allW o).E Γ Z _ X r _ k h3) ((allW e).E Γ Z _ X r _ k h4) (z1g (z0l h2) _ _ _)) (fun _ _=>rfl) fun _ _ _ _ _ _ _ z=>z
 |put o y v=>exact Wz.x (fun Γ Z X r st k kx hp hr h=>by obtain⟨⟨ts,v⟩,hv,h9⟩:=z00 h;obtain⟨p,rfl⟩:=q_As hv;obtain⟨x,hx,h8⟩:=z00 h9;cases z1f hx;obtain⟨w,ho,h7⟩:=z00 h8;obtain⟨_,rfl⟩:=zda ho;obtain⟨h1,h2,h3,h4⟩:=and4 h7;exact zi7 (pw (o9 (by decide) _) k.ck.hu) ((allW o).E Γ Z _ X r _ k h2) ((allW y).E Γ Z _ X r _ k h3) ((allW _).E Γ Z _ X r _ k h4) (z1g (z0l h1) _ _ _)) (fun _ _=>rfl) fun _ _ _ _ _ _ _ z=>z
 |exp e=>exact Wz.x (fun Γ Z X r st k kx hp hr h=>by obtain⟨v,hv,h9⟩:=z00 h;obtain⟨p,rfl⟩:=q_Ex hv;obtain⟨h1,h2⟩:=and2 h9;exact ps_e ((allW e).E Γ Z _ X r _ k h2) (z0l h1)) (fun _ _=>rfl) fun _ _ _ _ _ _ _ z=>z
 |app o e=>exact Wz.x (fun Γ Z X r st k kx hp hr h=>by obtain⟨c,hv,h9⟩:=z00 h;obtain⟨p,rfl⟩:=q_Ex hv;obtain⟨⟨x,n,es,b⟩,hm,h8⟩:=z00 h9;obtain⟨ap,cp,rfl,hb⟩:=q_Mt hm;obtain⟨h0,h6,h7⟩:=and3 h8;obtain⟨h1,h2,h3⟩:=and3 h0;obtain⟨y,hy,h4⟩:=z00 h7;cases z1f hy;obtain⟨h4,h5⟩:=and2 h4;have h1:n=("append":Str):=eqB h1;subst h1;show PS X _ (zbi (tBM Z.K "list" z6n _ _));rw[k.kk];exact ps_e (z68 PySem.F.plainAttrs_list PySem.F.slot_list_append PySem.F.type_list_append z35 ((allW o).E Γ Z _ X r _ k h6) (pa_c ((allW e).E Γ Z _ X r _ k h5) z1v (z0l h4)) (z10 h2) (z26 (by rw[bz,h4];rfl) (show 1<20 by decide)) (hb.symm.trans h3) (z06 (z0l h4)) (z0k rfl)) rfl) (fun _ _=>rfl) fun _ _ _ _ _ _ _ z=>z
 |ret e=>exact Wz.x (fun Γ Z X r st k kx hp hr h=>by obtain⟨o,hv,h9⟩:=z00 h;obtain⟨p,rfl⟩:=q_Rt hv;obtain⟨v,rfl,h8⟩:=z00 h9;exact z7n ((allW e).E Γ Z _ X r _ k h8)) (fun _ _=>rfl) fun _ _ _ _ _ _ _ z=>z
 |ifS c a b ia ib=>exact Wz.x (fun Γ Z X r st k kx hp hr h=>by obtain⟨v,hv,h9⟩:=z00 h;obtain⟨p,rfl⟩:=q_If hv;obtain⟨h1,h2,h3⟩:=and3 h9;exact ziv ((allW c).T Γ Z _ X r _ k h1).1 (ia.L Γ Z X r _ k kx (fun z=>hp (or_1 z)) (fun z=>hr (or_1 z)) h2) (ib.L Γ Z X r _ k kx (fun z=>hp (or_2 z)) (fun z=>hr (or_2 z)) h3)) (fun _ _=>rfl) fun _ _ _ _ _ _ _ z=>z
 |for_ t it b ib=>exact Wz.x (fun Γ Z X r st k kx hp hr h=>by obtain⟨hcm,h⟩:=and2 h;obtain⟨⟨t',i,B,o⟩,hv,h9⟩:=z00 h;obtain⟨p,rfl⟩:=q_Fo hv;obtain⟨h1,h2,h3,h4⟩:=and4 h9;obtain⟨h5,h6,h7⟩:=and3 h1;cases z0q h4;show PS X _ (tFor (tDW Z.K _) (tDG Z.K _) _);rw[k.kk];exact z7b (hp rfl) (k.ck.calm hcm) ((all it).W Γ.g X r _ _ k.ck h6 h2) (z8k k.ck h5) (ib.L Γ Z X r _ k kx (fun _=>hp rfl) (fun _=>hr rfl) h3) (z27 h7 _)) (fun _ _=>rfl) fun _ _ _ _ _ _ _ z=>z
 |mir s=>exact Wz.x (fun Γ Z X r st k kx hp hr h=>by show PS X _ (tDS Z.K _);rw[k.kk];exact(zce s).R Γ.g X r st k.ck (hp rfl) h) (fun _ _=>rfl) fun _ _ _ _ _ _ _ z=>z
 |xfl o f e=>exact Wz.x (fun Γ Z X r st k kx hp hr h=>by obtain⟨⟨ts,v⟩,hv,h9⟩:=z00 h;obtain⟨p,rfl⟩:=q_As hv;obtain⟨x,hx,h8⟩:=z00 h9;cases z1f hx;obtain⟨⟨o',f',p'⟩,ho,h7⟩:=z00 h8;cases q_At ho;obtain⟨h1,h2,h3,h4⟩:=and4 h7;have h1:f'=f:=eqB h1;subst h1;show PS X _ (sXf Z.K _ _ _);rw[k.kk];exact zp7 ((allW o).E Γ Z _ X r _ k h3) ((allW e).E Γ Z _ X r _ k h4) (z1g (z0l h2) _ _ _)) (fun _ _=>rfl) fun _ _ _ _ _ _ _ z=>z
 |rsa c fl e=>exact Wz.x (fun Γ Z X r st k kx hp hr h=>by obtain⟨⟨x,es⟩,hv,h9⟩:=z00 h;obtain⟨np,cp,pos,rfl⟩:=q_Ra hv;obtain⟨h1,h2,h3,h4,h5⟩:=and5 h9;obtain⟨y,hy,h6⟩:=z00 h5;cases z1f hy;obtain⟨h6,h7⟩:=and2 h6;cases t8 h1;obtain⟨g1,g2⟩:=k.ck.gl h2;obtain⟨C,f,fd,ps,n,m1,xf,xi,hn,F,hb⟩:=kx _ _ h3;exact PS.imp (zar (E:=Z.E) ((k.room h4).mono hn) g1 m1 g2 xf xi F hb ((allW e).E Γ Z _ X r _ k h7) (z0l h6) (hr rfl)) fun D σ H q=>q C (by rw[k.mm];exact m1)) (fun _ _=>rfl) fun _ _ _ _ _ _ _ z=>z
 |forw t it b ib=>exact Wz.x (fun Γ Z X r st k kx hp hr h=>by obtain⟨hcm,h⟩:=and2 h;obtain⟨⟨t',i,B,o⟩,hv,h9⟩:=z00 h;obtain⟨p,rfl⟩:=q_Fo hv;obtain⟨h1,h2,h3,h4⟩:=and4 h9;obtain⟨h5,h7⟩:=and2 h1;cases z0q h4;show PS X _ (tFor (zbj Z.K _) (tDG Z.K _) _);rw[k.kk];exact z7b (hp rfl) (k.ck.calm hcm) (zgk ((allW it).E Γ Z _ X r _ k h2)) (z8k k.ck h5) (ib.L Γ Z X r _ k kx (fun _=>hp rfl) (fun _=>hr rfl) h3) (z27 h7 _)) (fun _ _=>rfl) fun _ _ _ _ _ _ _ z=>z
 |tr2 b hs i n ib ih=>exact Wz.x (fun Γ Z X r st k kx hp hr h=>zr2 ib ih k kx h) (fun _ _=>rfl) fun _ _ _ _ _ _ _ z=>z
 |hn c f h rest ih ir=>exact⟨fun _ _ _ _ _ _ _ _ _ h=>ff rfl h,fun _ _ _ _ _ _ _ _ _ h=>ff rfl h,w_hn ih ir⟩
section
variable {P:ax}{w:World}{K:W.Frag}{mg:Str->Option Value}{base:Heap}
theorem w_fn {Γ:Gw}{Z:Wc}{x qual:Str}{st:Stmt}{ps:List Str}{k:Nat}{s:WS}{f:Addr}{fd:di}{sp:Sp}(Fu:Fun K x qual st f fd)(Sc:FnScope Γ.g.N ps (z07 st))(hs:Γ.g.sc=z07 st)(hxc:Γ.g.xc=none)(dk:Dok Γ.g Z.Κ Z.Φ P w K mg base k)(zk:∀E,Zok Γ {Z with E:=E} (CXE P w base) P w K mg base k)(hxf:Γ.xf=none)(kf:Γ.fld=[]\/∀X:Cx,X.prog=P->X.w=w->X.K=K->X.mg=mg->X.base=base->Wfk Γ X k)(hc:wkL Γ s (z08 st)=true)
  (len:∀vs H Q E,sp vs H Q E->vs.length=ps.length) (run:∀vs H Q E,sp vs H Q E->wS {Z with E:=E} s {nx:=fun _ H'=>Q .non H',rt:=Q} (start Γ.g.N vs) H):
  FnOk P w K mg base (CXE P w base) (k+1) f fd ps sp:=by
 obtain⟨oc,od,kV,doc,pm,an,cdv,ct,osl,rfl,lk,hcd⟩:=Fu.ex;refine zgt lk hcd Sc len fun A outer s1 H vs Q E hr hsp=>⟨_,(zr9 s).L Γ {Z with E:=E} (cxOf (CXE P w base) P w K mg base Γ.g.N qual (z07 st) f cdv A outer s1 H E) k _ ⟨zk E,⟨rfl,hs.symm,Sc.nd,fun _ _=>rfl,by rw[hs];exact Sc.kind,dk.free,dk.fns,dk.cst,dk.fnx,fun _=>hr,fun _=>rfl,hr.units,fun _=>⟨rfl,rfl⟩,fun _=>rfl,fun _ _ z=>(by rw[hxc]at z;cases z),dk.xk⟩,fun _=>hr,fun pins σ H1 s2 e s' I zz=>?_,fun f z=>by rw[hxf]at z;cases z⟩ (kf.elim (fun e c fl z=>by rw[e]at z;cases z) fun g=>g _ rfl rfl rfl rfl rfl) (fun _=>PassesOwn.leaving) (fun _ pins σ H1 s2 a C ob vs I q1 q2 q3 q4 q5 q6 q7=>?_) hc,run vs H Q E hsp⟩
 ·obtain⟨a,C,dd,H',rfl,fl,q⟩:=zz;exact fl.leave (outer:=[]) I rfl rfl rfl fun s3 fl=>⟨a,C,dd,H',rfl,fl,q⟩
 ·obtain⟨H2,s4,I2,n2⟩:=q2;refine z5l I ?_ q1 q3 q4 q5 q6 rfl rfl rfl fun s3 fl=>⟨a,C,ob.dict,H1,rfl,fl,q7⟩;cases e:(cxOf (CXE P w base) P w K mg base Γ.g.N qual (z07 st) f cdv A outer s1 H E).s₀.heap.get? a with
  |none=>rfl
  |some o=>obtain⟨o',e'⟩:=I2.base.there a o e (by show a∉ [];simp);rw[n2]at e';cases e'
end
abbrev NoB:Ad->Prop:=fun _=>False
abbrev AnyB:Ad->Prop:=fun _=>True
abbrev F0 (H:Hp):Fm:=⟨H,fun _=>True,fun _=>none,True⟩
section
variable {K:W.Frag}{H H':Hp}
theorem Rep.old {v:V}{d:D}{B:Ad->Prop}(r:Rep K H B v d):Rep K H (oldA (F0 H)) v d:=(Rep.there _ r).weak fun a h=>by
 cases a with
 |none=>exact trivial
 |some a=>exact⟨fun z=>h.2 z,trivial⟩
theorem z4g {σ:L2.St}{ρ:Rho}(hl:σ.length=ρ.length)(h:∀(i:Nat) (g:G) (d:D),ρ[i]?=some (some (g,d))->g=G.od/\∃v B,σ[i]?=some (some v)/\Rep K H B v d):StOk K (F0 H) H σ ρ where
 ext:=Same.refl H
 vis:=fun _ _=>trivial
 own:=fun a i e=>by cases e
 len:=hl
 sl:=fun i g d e=>by obtain⟨rfl,v,B,e1,r⟩:=h i g d e;exact⟨v,e1,r.old⟩
structure Crt (K:W.Frag)(CC:Addr)(H:Hp)(x dx d:Addr)(kvs:List (Key×V))(es:Ents):Prop where
 ins:H x=some (.ins CC dx [("aboves",.ref d)])
 dic:H d=some (.dK kvs)
 re:REs K H NoB kvs es
theorem Crt.same {CC x dx d:Addr}{kvs:List (Key×V)}{es:Ents}(c:Crt K CC H x dx d kvs es)(s:Same H H'):Crt K CC H' x dx d kvs es:=⟨s _ _ c.ins,s _ _ c.dic,c.re.same s fun _ z=>z⟩
def z7p:D->Bool
 |.str _=>true
 |_=>false
end
section
variable {Z:Wc}{H:Hp}{σ:L2.St}{CC x dx d:Addr}{kvs:List (Key×V)}{es:Ents}
theorem zqy {H:Hp}{x y:V}{dx:D}{es:Ents}{Q:VK}{B B':Ad->Prop}(rx:Rep Z.K H B x dx)(ry:Rep Z.K H B' y (.dict es))(hk:isK dx=true)(q:∀H',Same H H'->Q (.bl (z14 es dx).isSome) H'):rOp Z.K (mB (cmpD .In)) x y H Q:=⟨B,B',dx,.dict es,.bool (z14 es dx).isSome,rx,ry,by show((if isK dx=true then Res.ok (z14 es dx).isSome else Res.no)>>=fun b=>Res.ok (PyData.bool b))=_;rw[if_pos hk];rfl,fun w H' s r=>by cases r;exact q H' s⟩
theorem znd {ρ:Rho}{i:Nat}{c:D}{Κ:List D}{Φ:List Fn}(h:ρ[i]?=some (some (.od,c))):evE Κ Φ (.isT (.var i) ["str"]) ρ=.ok (.fr,.bool (z7p c)):=by show(rdS ρ[i]?>>=fun x=>Res.ok (G.fr,PyData.bool (["str"].any fun T=>isTy (tyOf x.2) T)))=_;rw[h];cases c<;>rfl
def zkt:D->Bool
 |.none=>true
 |_=>false
theorem Rep.non {K:W.Frag}{H:Hp}{B:Ad->Prop}{v:V}{a:D}(r:Rep K H B v a):decide (v=.non)=zkt a:=by
 cases a with
 |none=>cases r;rfl
 |bool b=>cases r;rfl
 |int b=>cases r;rfl
 |str b=>obtain⟨rfl,_⟩:=r;rfl
 |tuple ds=>obtain⟨_,_,rfl,_⟩:=r;rfl
 |list ds=>obtain⟨_,_,rfl,_⟩:=r;rfl
 |dict ds=>obtain⟨_,_,rfl,_⟩:=r;rfl
theorem REs.len {K:W.Frag}{H:Hp}{B:Ad->Prop}:∀{es:Ents} {kvs:List (Key×V)},REs K H B kvs es->kvs.length=es.length
 | [],kvs,r=>by cases r;rfl
 |e::es,kvs,r=>by obtain⟨k,v,t,rfl,_,_,_,r⟩:=r;rw[ay,ay,REs.len r]
theorem z6w {o as:W}{j:Nat}{C:Addr}{m:Str}{sp:Sp}(h:Z.me[j]?=some (C,m,sp)):wE Z (.mth o j as)=z4s C m sp [] Z.E (wE Z o) (wA Z as):=by show(match Z.me[j]? with|some r=>z4s r.1 r.2.1 r.2.2 [] Z.E (wE Z o) (wA Z as)|none=>tNo)=_;rw[h]
end
namespace Rd
abbrev PL:W:=.att (.raw 0) "place"
abbrev WD:W:=.att (.raw 0) "words"
abbrev NB:W:=.att (.raw 0) "number"
abbrev KD:W:=.att (.raw 0) "kinds"
abbrev SD:W:=.att (.raw 0) "said"
abbrev RN:WS:=.seq (.rsa "NoRow" "row" NB) .nil
def init:WS:=.seq (.fld (.raw 0) "number" (.raw 1)) (.seq (.fld (.raw 0) "words" (.pur (.spl (.var 2) (.str " ")))) (.seq (.fld (.raw 0) "place" (.pur (.int 0))) (.seq (.fld (.raw 0) "kinds" (.raw 3)) (.seq (.fld (.raw 0) "said" (.lst .nil)) .nil))))
def peek:WS:=.seq (.ret (.ife (.tc .Lt PL (.len WD)) (.ix WD PL) (.pur (.str "")))) .nil
def take:WS:=.seq (.asg 1 (.mth (.raw 0) 0 .nil)) (.seq (.fld (.raw 0) "place" (.bin .Add PL (.pur (.int 1)))) (.seq (.ret (.raw 1)) .nil))
def takeWord:WS:=.seq (.ifS (.tc .NotEq (.mth (.raw 0) 1 .nil) (.raw 1)) RN .nil) .nil
def takeName:WS:=.seq (.asg 1 (.mth (.raw 0) 1 .nil)) (.seq (.ifS (.not (.tp (.tv (.call 0 "is_name" (.cons (.var 1) .nil))))) RN .nil) (.seq (.ret (.raw 1)) .nil))
def takeEnd:WS:=.seq (.ifS (.tc .Lt PL (.len WD)) RN .nil) .nil
end Rd
def rowF (n:Int)(wl:Addr)(p:Nat)(kd sl:Addr):List (Str×V):=[("number",.int n),("words",.ref wl),("place",.int p),("kinds",.ref kd),("said",.ref sl)]
def okS (s:Str):Prop:=PyData.strOk s=true/\s.length<=LIM
structure Rw (K:W.Frag)(CR:Addr)(H:Hp)(x dx wl kd sl:Addr)(n:Int)(ws:List Str)(p:Nat):Prop where
 ins:H x=some (.ins CR dx (rowF n wl p kd sl))
 wrd:H wl=some (.lst (ws.map V.str))
 okw:∀s∈ws,okS s
structure RowK (K:W.Frag)(CR:Addr):Prop where
 cls:Cls K CR
 na:∀f∈(["number","words","place","kinds","said"]:List Str),z2l K CR f
section
variable {K:W.Frag}{H H':Hp}{CR x dx wl kd sl:Addr}{n:Int}{ws:List Str}{p:Nat}
theorem Rw.same (r:Rw K CR H x dx wl kd sl n ws p)(s:Same H H'):Rw K CR H' x dx wl kd sl n ws p:=⟨s _ _ r.ins,s _ _ r.wrd,r.okw⟩
theorem z81 {B:Ad->Prop}:∀{xs:List Str},(∀s∈xs,PyData.strOk s=true)->Reps K H B (xs.map V.str) (xs.map PyData.str)
 | [],_=>rfl
 |s::xs,h=>⟨_,_,rfl,⟨rfl,h s ai⟩,z81 fun t ht=>h t (ah _ ht)⟩
theorem Rw.wrep (r:Rw K CR H x dx wl kd sl n ws p):Rep K H AnyB (.ref wl) (.list (ws.map PyData.str)):=⟨wl,_,rfl,.inl ⟨r.wrd,trivial⟩,z81 fun s h=>(r.okw s h).1⟩
theorem Rw.move (r:Rw K CR H x dx wl kd sl n ws p)(k:∀b o,b≠x->H b=some o->H' b=some o){p':Nat}(e:H' x=some (.ins CR dx (rowF n wl p' kd sl))):Rw K CR H' x dx wl kd sl n ws p':=⟨e,k _ _ (fun z=>by have:=r.ins;rw[<-z,r.wrd]at this;cases this) r.wrd,r.okw⟩
end
section
variable {Z:Wc}{H:Hp}{σ:L2.St}{CR x dx wl kd sl:Addr}{n:Int}{ws:List Str}{p:Nat}
theorem z28 {f:Str}{v:V}{Q:VK}(rk:RowK Z.K CR)(r:Rw Z.K CR H x dx wl kd sl n ws p)(h0:σ[0]?=some (some (.ref x)))(hf:f∈(["number","words","place","kinds","said"]:List Str))(hl:(rowF n wl p kd sl).lookup f=some v)(q:Q v H):wE Z (.att (.raw 0) f) σ H Q:=⟨.ref x,h0,x,CR,dx,_,v,rfl,r.ins,rk.cls,rk.na f hf,hl,q⟩
theorem zj6 {Q:Bool->Hp->Prop}(rk:RowK Z.K CR)(r:Rw Z.K CR H x dx wl kd sl n ws p)(h0:σ[0]?=some (some (.ref x)))(q:∀H',Same H H'->Q (decide (p<ws.length)) H'):wT Z (.tc .Lt Rd.PL (.len Rd.WD)) σ H Q:=by
 show tOp _ _ _ _ _ _;refine z28 (f:="place") (v:=.int p) (Q:=fun a H1=>(wE Z (.len Rd.WD)) σ H1 fun b H2=>rOp Z.K (mB (cmpD .Lt)) a b H2 _) rk r h0 (by decide) rfl ?_;refine z28 (f:="words") (v:=.ref wl) (Q:=fun a H1=>z6d Z.K (biD "len") [a] H1 fun b H2=>rOp Z.K (mB (cmpD .Lt)) (.int p) b H2 fun x H'=>∃k,x=V.bl k/\Q k H') rk r h0 (by decide) rfl ?_;refine⟨AnyB,[.list (ws.map PyData.str)],.int ws.length,⟨_,_,rfl,r.wrep,rfl⟩,by show Res.ok (PyData.int _)=_;simp,fun w H1 s1 r1=>?_⟩;cases r1;refine⟨AnyB,AnyB,.int p,.int ws.length,.bool (decide (p<ws.length)),rfl,rfl,?_,fun w H2 s2 r2=>?_⟩
 ·show Res.ok (PyData.bool _)=_;simp
 ·cases r2;exact⟨_,rfl,q H2 (s1.trans s2)⟩
theorem zjy {xs:List Str}(h:p<xs.length):ixD (.list (xs.map PyData.str)) (.int p)=.ok (.str (xs.getD p "")):=by
 show Res.ofO (atI (xs.map PyData.str) p)=_
 have:atI (xs.map PyData.str) p=some (.str (xs.getD p "")):=by
  unfold atI ixN;have hp:(p:Int)<((xs.map PyData.str).length:Int):=by simp;omega
  rw[if_pos (Int.natCast_nonneg p),if_pos hp];simp[h]
 rw[this];rfl
theorem z18 {K:W.Frag}{H:Hp}{σ:L2.St}:StOk K (F0 H) H σ (bj σ.length none):=z4g (by rw[cn]) fun i g d' e=>by rw[cj]at e;split at e<;>cases e
def pk (ws:List Str)(p:Nat):Str:=ws.getD p ""
theorem okpk (h:∀s∈ws,okS s):okS (pk ws p):=by
 unfold pk;by_cases e:p<ws.length
 ·rw[am,bg e];exact h _ (gr e)
 ·rw[am,ji (by omega)];exact⟨by decide+kernel,by decide+kernel⟩
def z21 (K:W.Frag)(CR:Addr):Sp:=fun vs H Q _=>∃x dx wl kd sl n ws p,vs=[.ref x]/\Rw K CR H x dx wl kd sl n ws p/\∀H',Same H H'->Q (.str (pk ws p)) H'
theorem ze0 {D0:Ends}(rk:RowK Z.K CR)(r:Rw Z.K CR H x dx wl kd sl n ws p)(q:∀H',Same H H'->D0.rt (.str (pk ws p)) H'):wS Z Rd.peek D0 [some (.ref x)] H:=by
 show wT Z (.tc .Lt Rd.PL (.len Rd.WD)) _ _ _;refine zj6 rk r rfl fun H1 s1=>?_;by_cases e:p<ws.length
 ·rw[tz e];refine iteT ?_;show tOp _ _ _ _ _ _;refine z28 (f:="words") (v:=.ref wl) (Q:=fun a H1=>(wE Z Rd.PL) _ H1 fun b H2=>rIxD Z.K a b H2 _) rk (r.same s1) rfl (by decide) rfl ?_;refine z28 (f:="place") (v:=.int p) (Q:=fun b H2=>rIxD Z.K (.ref wl) b H2 _) rk (r.same s1) rfl (by decide) rfl ?_;refine⟨AnyB,AnyB,_,.int p,.str (pk ws p),(r.same s1).wrep,rfl,zjy e,fun w rw=>?_⟩;obtain⟨rfl,_⟩:=rw;exact q H1 s1
 ·rw[t7 e];refine iteF ⟨_,F0 H1,_,z18,rfl,fun v H2 s2 r2=>?_⟩;have e2:pk ws p="":=by unfold pk;rw[am,ji (by omega)];rfl
  rw[e2]at q;obtain⟨rfl,_⟩:=r2;exact q H2 (s1.trans s2)
def z1l (K:W.Frag)(CR:Addr):Sp:=fun vs H Q _=>∃x dx wl kd sl n ws p,vs=[.ref x]/\Rw K CR H x dx wl kd sl n ws p/\∀H',(∀b o,b≠x->H b=some o->H' b=some o)->H' x=some (.ins CR dx (rowF n wl (p+1) kd sl))->Q (.str (pk ws p)) H'
theorem zcd {D0:Ends}(rk:RowK Z.K CR)(hm:Z.me[0]?=some (CR,("peek":Str),z21 Z.K CR))(r:Rw Z.K CR H x dx wl kd sl n ws p)(q:∀H',(∀b o,b≠x->H b=some o->H' b=some o)->H' x=some (.ins CR dx (rowF n wl (p+1) kd sl))->D0.rt (.str (pk ws p)) H'):wS Z Rd.take D0 [some (.ref x),none] H:=by show wE Z (.mth _ 0 _) _ _ _;rw[z6w hm];refine⟨.ref x,rfl,x,dx,_,rfl,r.ins,rfl,x,dx,wl,kd,sl,n,ws,p,rfl,r,fun H1 s1=>?_⟩;have r1:=r.same s1;show wE Z (.bin .Add Rd.PL (.pur (.int 1))) [some (.ref x),some (.str (pk ws p))] H1 _;refine z28 (f:="place") (v:=.int p) (Q:=fun a H2=>(wE Z (.pur (.int 1))) _ H2 fun b H3=>rOpN Z.K (binD .Add) a b H3 _) rk r1 rfl (by decide) rfl ?_;refine⟨_,F0 H1,_,z18,rfl,fun v H2 s2 e2=>?_⟩;cases e2;refine⟨AnyB,AnyB,.int p,.int 1,.int (p+1),rfl,rfl,rfl,fun w H3 s3 e3 _=>?_⟩;cases e3;have r3:=(r1.same s2).same s3;refine⟨.ref x,rfl,x,CR,dx,_,rfl,r3.ins,rk.cls,rk.na _ (by decide),(show 5<1000 by decide),?_⟩;refine⟨.str (pk ws p),rfl,q _ (fun b o hb e=>by rw[z01 hb];exact s3 b o (s2 b o (s1 b o e))) ?_⟩;rw[z02];rfl
def ExF (mg:Str->Option Value)(c fl:Str)(y:V)(x:Addr)(H:Hp)(E:XK):Prop:=∀C H' dp,mg c=some (.ref C)->H dp=none->H' dp=some (.xd [(fl,y)])->(∀b o,b≠x->H b=some o->H' b=some o)->E (.ref C) (some dp) H'
theorem zdk {H1:Hp}{D0:Ends}(rk:RowK Z.K CR)(r:Rw Z.K CR H1 x dx wl kd sl n ws p)(h0:σ[0]?=some (some (.ref x)))(k:∀b o,b≠x->H b=some o->H1 b=some o)(ex:ExF Z.mg "NoRow" "row" (.int n) x H Z.E):wS Z Rd.RN D0 σ H1:=by
 intro C hC;refine z28 (f:="number") (v:=.int n) rk r h0 (by decide) rfl fun dp hd=>?_;have nx:dp≠x:=by rintro rfl;rw[r.ins]at hd;cases hd
 have h0:H dp=none:=by
  cases e:H dp with
  |none=>rfl
  |some o=>rw[k dp o nx e]at hd;cases hd
 exact ex C _ dp hC h0 z02 fun b o hb e=>by rw[z01 (by rintro rfl;rw[h0]at e;cases e)];exact k b o hb e
theorem z6p {Q:VK}(hm:Z.me[1]?=some (CR,("take":Str),z1l Z.K CR))(r:Rw Z.K CR H x dx wl kd sl n ws p)(h0:σ[0]?=some (some (.ref x)))(q:∀H',(∀b o,b≠x->H b=some o->H' b=some o)->H' x=some (.ins CR dx (rowF n wl (p+1) kd sl))->Q (.str (pk ws p)) H'):wE Z (.mth (.raw 0) 1 .nil) σ H Q:=by rw[z6w hm];exact⟨.ref x,h0,x,dx,_,rfl,r.ins,rfl,x,dx,wl,kd,sl,n,ws,p,rfl,r,q⟩
theorem z3t (a b:Str):eqD (.str a) (.str b)=decide (a=b):=by
 show(a==b)=_;by_cases h:a=b
 ·subst h;simp
 ·rw[t7 h];simpa using h
def spTW (K:W.Frag)(CR:Addr)(mg:Str->Option Value):Sp:=fun vs H Q E=>∃x dx wl kd sl n ws p w,vs=[.ref x,.str w]/\Rw K CR H x dx wl kd sl n ws p/\PyData.strOk w=true/\if pk ws p=w then ∀H',(∀b o,b≠x->H b=some o->H' b=some o)->H' x=some (.ins CR dx (rowF n wl (p+1) kd sl))->Q .non H' else ExF mg "NoRow" "row" (.int n) x H E
theorem zni {D0:Ends}{w:Str}(rk:RowK Z.K CR)(hm:Z.me[1]?=some (CR,("take":Str),z1l Z.K CR))(r:Rw Z.K CR H x dx wl kd sl n ws p)(hw:PyData.strOk w=true)
  (q:if pk ws p=w then ∀H',(∀b o,b≠x->H b=some o->H' b=some o)->H' x=some (.ins CR dx (rowF n wl (p+1) kd sl))->D0.nx [some (.ref x),some (.str w)] H' else ExF Z.mg "NoRow" "row" (.int n) x H Z.E):wS Z Rd.takeWord D0 [some (.ref x),some (.str w)] H:=by
 show wE Z (.mth (.raw 0) 1 .nil) _ H _;refine z6p hm r rfl fun H1 k1 e1=>?_;refine⟨.str w,rfl,AnyB,AnyB,.str (pk ws p),.str w,.bool (!decide (pk ws p=w)),⟨rfl,(okpk r.okw).1⟩,⟨rfl,hw⟩,?_,fun v H2 s2 r2=>?_⟩
 ·show(Res.ok (!eqD (.str (pk ws p)) (.str w))>>=fun b=>Res.ok (PyData.bool b))=_;rw[z3t];rfl
 cases r2;refine⟨_,rfl,?_⟩;have r2:=(r.move k1 e1).same s2;by_cases e:pk ws p=w
 ·rw[if_pos e]at q;rw[tz e];refine iteF ?_;exact q H2 (fun b o hb z=>s2 b o (k1 b o hb z)) r2.ins
 ·rw[if_neg e]at q;rw[t7 e];refine iteT (zdk rk r2 rfl (fun b o hb z=>s2 b o (k1 b o hb z)) q)
def NmOk (Z:Wc)(j:Nat)(nb:Str->Bool):Prop:=∃m,Z.Φ[j]?=some m/\∀s,okS s->m [.str s]=.ok (.fr,.bool (nb s))
def spTN (K:W.Frag)(CR:Addr)(mg:Str->Option Value)(nb:Str->Bool):Sp:=fun vs H Q E=>∃x dx wl kd sl n ws p,vs=[.ref x]/\Rw K CR H x dx wl kd sl n ws p/\if nb (pk ws p)=true then ∀H',(∀b o,b≠x->H b=some o->H' b=some o)->H' x=some (.ins CR dx (rowF n wl (p+1) kd sl))->Q (.str (pk ws p)) H' else ExF mg "NoRow" "row" (.int n) x H E
theorem zjn {D0:Ends}{nb:Str->Bool}(rk:RowK Z.K CR)(hm:Z.me[1]?=some (CR,("take":Str),z1l Z.K CR))(hn:NmOk Z 0 nb)(r:Rw Z.K CR H x dx wl kd sl n ws p)
  (q:if nb (pk ws p)=true then ∀H',(∀b o,b≠x->H b=some o->H' b=some o)->H' x=some (.ins CR dx (rowF n wl (p+1) kd sl))->D0.rt (.str (pk ws p)) H' else ExF Z.mg "NoRow" "row" (.int n) x H Z.E):wS Z Rd.takeName D0 [some (.ref x),none] H:=by
 refine z6p hm r rfl fun H1 k1 e1=>?_;have r1:=r.move k1 e1;have ok:=okpk (p:=p) r.okw;obtain⟨m,hm2,hn⟩:=hn;show wS Z (.seq (.ifS (.not (.tp (.tv (.call 0 "is_name" (.cons (.var 1) .nil))))) Rd.RN .nil) (.seq (.ret (.raw 1)) .nil)) D0 [some (.ref x),some (.str (pk ws p))] H1;refine⟨[none,some (.od,.str (pk ws p))],F0 H1,nb (pk ws p),z4g rfl fun i g d' e=>?_,?_,fun H2 s2=>?_⟩
 ·rcases i with _|_|i<;>cases e;exact⟨rfl,_,AnyB,rfl,rfl,ok.1⟩
 ·show(((match Z.Φ[0]? with|some m=>m [.str (pk ws p)]>>=fun r=>Res.ok (gJ r.2 (rtG r.1),r.2)|none=>.no):Res GD)>>=fun x=>z0z x.2)=_;rw[hm2];show((m [.str (pk ws p)]>>=fun r=>Res.ok (gJ r.2 (rtG r.1),r.2))>>=fun x=>z0z x.2)=_;rw[hn _ ok];rfl
 have r2:=r1.same s2;cases hb:nb (pk ws p)with
 |true=>rw[if_pos hb]at q;refine iteF ?_;exact⟨.str (pk ws p),rfl,q H2 (fun b o hb z=>s2 b o (k1 b o hb z)) r2.ins⟩
 |false=>rw[if_neg (by rw[hb];decide)]at q;exact iteT (zdk rk r2 rfl (fun b o hb z=>s2 b o (k1 b o hb z)) q)
def z5g (K:W.Frag)(CR:Addr)(mg:Str->Option Value):Sp:=fun vs H Q E=>∃x dx wl kd sl n ws p,vs=[.ref x]/\Rw K CR H x dx wl kd sl n ws p/\if p<ws.length then ExF mg "NoRow" "row" (.int n) x H E else ∀H',Same H H'->Q .non H'
theorem zkw {D0:Ends}(rk:RowK Z.K CR)(r:Rw Z.K CR H x dx wl kd sl n ws p)(q:if p<ws.length then ExF Z.mg "NoRow" "row" (.int n) x H Z.E else ∀H',Same H H'->D0.nx [some (.ref x)] H'):wS Z Rd.takeEnd D0 [some (.ref x)] H:=by
 show wT Z (.tc .Lt Rd.PL (.len Rd.WD)) _ _ _;refine zj6 rk r rfl fun H1 s1=>?_;by_cases e:p<ws.length
 ·rw[if_pos e]at q;rw[tz e];exact iteT (zdk rk (r.same s1) rfl (fun b o _ z=>s1 b o z) q)
 ·rw[if_neg e]at q;rw[t7 e];exact iteF (q H1 s1)
theorem z7k {c:Nat}:∀(xs:List Nat),∀l∈splC c xs,l.length<=xs.length
 | [],l,h=>by have h:l∈[[]]:=h;rw[ce.mp h];exact aj _
 |a::r,l,h=>by
  have ih:=z7k (c:=c) r;unfold splC at h;by_cases e:a=c
  ·rw[if_pos e]at h;rcases ak.mp h with rfl|h
   ·exact d6 _
   ·exact bw (ih l h) (km _)
  ·rw[if_neg e]at h;cases hs:splC c r with
   |nil=>rw[hs]at h;rw[ce.mp h,ay];exact nc (d6 _)
   |cons q t=>
    rw[hs]at h ih;rcases ak.mp h with rfl|h
    ·exact nc (ih q ai)
    ·exact bw (ih l (ah _ h)) (km _)
def spW (c:Nat)(t:Str):List Str:=(splC c t.cps.toList).map toS
theorem z4o {c:Nat}{t:Str}:∀s∈spW c t,s.length<=t.length:=fun s h=>by
 obtain⟨l,hl,rfl⟩:=ci.mp h;have e1:(toS l).length=l.length:=by show l.toArray.size=_;simp
 have e2:t.length=t.cps.toList.length:=by show t.cps.size=_;simp
 rw[e1,e2];exact z7k _ l hl
theorem z73 {K:W.Frag}{H:Hp}{B:Ad->Prop}:∀{xs:List Str} {vs:List V},Reps K H B vs (xs.map PyData.str)->vs=xs.map V.str/\∀s∈xs,PyData.strOk s=true
 | [],vs,r=>⟨r,fun _ h=>nomatch h⟩
 |s::xs,vs,r=>by obtain⟨v,t,rfl,⟨rfl,ok⟩,r⟩:=r;obtain⟨rfl,h⟩:=z73 r;exact⟨rfl,fun u hu=>(ak.mp hu).elim (fun e=>e▸ok) (h u)⟩
theorem zmx {Q:VK}{i:Nat}{t c:Str}{a:Nat}(hc:c=⟨#[a]⟩)(hi:σ[i]?=some (some (.str t)))(ok:okS t)(q:∀H' l,Same H H'->H l=none->H' l=some (.lst ((spW a t).map V.str))->(∀s∈spW a t,okS s)->Q (.ref l) H'):wE Z (.pur (.spl (.var i) (.str c))) σ H Q:=by
 subst hc;have hlt:i<σ.length:=(bo.mp hi).1;refine⟨(bj σ.length none).set i (some (.od,.str t)),F0 H,(.fr,.list ((spW a t).map PyData.str)),z4g (by simp) fun j g d e=>?_,?_,fun v H1 s1 r1=>?_⟩
 ·by_cases h:i=j
  ·subst h;rw[db (by simpa using hlt)]at e;cases e;exact⟨rfl,_,AnyB,hi,rfl,ok.1⟩
  ·rw[cf h,cj]at e;split at e<;>cases e
 ·show((rdS _>>=fun x=>Res.ok (G.fr,PyData.str ⟨#[a]⟩)>>=fun y=>splD x.2 y.2>>=fun d=>Res.ok (G.fr,d)):Res GD)=_;rw[db (by simpa using hlt)];show(splD (.str t) (.str ⟨#[a]⟩)>>=fun d=>Res.ok (G.fr,d))=_;have:splD (.str t) (.str ⟨#[a]⟩)=.ok (.list ((spW a t).map PyData.str)):=by show(if decide (t.length<=LIM)=true then Res.ok (PyData.list ((splC a t.cps.toList).map fun l=>PyData.str (toS l)))else .no)=_;rw[if_pos (tz ok.2)];unfold spW;rw[dw];rfl
  rw[this];rfl
 ·obtain⟨l,vs,rfl,hl,rs⟩:=r1;obtain⟨rfl,oks⟩:=z73 rs;rcases hl with⟨hl,hn⟩|⟨_,hn⟩
  ·exact q H1 l s1 hn hl fun s h=>⟨oks s h,bw (z4o s h) ok.2⟩
  ·exact hn.elim
def spRI (K:W.Frag)(CR:Addr):Sp:=fun vs H Q _=>∃x dx kd n t,vs=[.ref x,.int n,.str t,.ref kd]/\H x=some (.ins CR dx [])/\okS t/\∀H' wl sl,(∀b o,b≠x->H b=some o->H' b=some o)->Rw K CR H' x dx wl kd sl n (spW 32 t) 0->H' sl=some (.lst [])->Q .non H'
theorem zjk {D0:Ends}{t:Str}(rk:RowK Z.K CR)(hx:H x=some (.ins CR dx []))(ok:okS t)(q:∀H' wl sl,(∀b o,b≠x->H b=some o->H' b=some o)->Rw Z.K CR H' x dx wl kd sl n (spW 32 t) 0->H' sl=some (.lst [])->D0.nx [some (.ref x),some (.int n),some (.str t),some (.ref kd)] H'):
  wS Z Rd.init D0 [some (.ref x),some (.int n),some (.str t),some (.ref kd)] H:=by
 refine⟨.int n,rfl,.ref x,rfl,x,CR,dx,_,rfl,hx,rk.cls,rk.na _ (by decide),by decide,?_⟩;refine zmx (t:=t) (a:=32) (i:=2) (by decide+kernel) rfl ok fun H2 wl s2 hn2 hw okw=>?_;have x2:=s2 _ _ z02;have nwx:wl≠x:=by rintro rfl;rw[z02]at hn2;cases hn2
 refine⟨.ref x,rfl,x,CR,dx,_,rfl,x2,rk.cls,rk.na _ (by decide),(show 1<1000 by decide),?_⟩;refine⟨_,F0 _,_,z18,rfl,fun v H4 s4 r4=>?_⟩;cases r4;have x4:=s4 _ _ z02;refine⟨.ref x,rfl,x,CR,dx,_,rfl,x4,rk.cls,rk.na _ (by decide),(show 2<1000 by decide),?_⟩;refine⟨.ref kd,rfl,.ref x,rfl,x,CR,dx,_,rfl,z02,rk.cls,rk.na _ (by decide),(show 3<1000 by decide),?_⟩;refine⟨d6 _,fun sl hsl=>?_⟩;have nsx:sl≠x:=by rintro rfl;rw[z02]at hsl;cases hsl
 refine⟨.ref x,rfl,x,CR,dx,[("number",.int n),("words",.ref wl),("place",.int 0),("kinds",.ref kd)],rfl,(z01 (Ne.symm nsx)).trans z02,rk.cls,rk.na _ (by decide),(show 4<1000 by decide),?_⟩;have keep:∀b o,b≠x->b≠sl->H2 b=some o->H4 b=some o:=fun b o hb _ e=>s4 b o (by rw[z01 hb];exact e)
 have nws:wl≠sl:=by
  rintro rfl
  rw[z01 nwx,z01 nwx]at hsl;rw[s4 _ _ (by rw[z01 nwx];exact hw)]at hsl;cases hsl
 refine q _ wl sl (fun b o hb e=>?_) ⟨?_,?_,okw⟩ ?_
 ·have e4:H4 b=some o:=s4 b o (by rw[z01 hb];exact s2 b o (by rw[z01 hb];exact e))
  have nb:b≠sl:=by
   rintro rfl
   rw[z01 hb,z01 hb,e4]at hsl;cases hsl
  rw[z01 hb,z01 nb,z01 hb,z01 hb];exact e4
 ·rw[z02];rfl
 ·rw[z01 nwx,z01 nws,z01 nwx,z01 nwx];exact s4 _ _ (by rw[z01 nwx];exact hw)
 ·rw[z01 nsx,z02]
end
namespace Rd
abbrev TK:W:=.mth (.raw 0) 1 .nil
abbrev TN:W:=.mth (.raw 0) 3 .nil
def checkNames:WS:=.seq (.ifS (.tc .In (.raw 1) KD) (.seq (.rsa "Twice" "name" (.raw 1)) .nil) .nil) (.seq (.forw (.tp [2,3]) SD (.seq (.ifS (.tc .NotIn (.get KD (.raw 2)) (.raw 3)) (.seq (.rsa "Unknown" "name" (.raw 2)) .nil) .nil) .nil)) .nil)
def readRow:WS:=.seq (.asg 1 TK)
 (.seq (.ifS (.tc .Eq (.raw 1) (.pur (.str "fact"))) (.seq (.asg 2 (.tup (.cons (.pur (.str "fact")) (.cons TN .nil)))) .nil)
  (.seq (.ifS (.tc .Eq (.raw 1) (.pur (.str "open"))) (.seq (.asg 2 (.cal 0 (.cons (.raw 0) .nil))) .nil)
   (.seq (.ifS (.tc .Eq (.raw 1) (.pur (.str "word"))) (.seq (.asg 2 (.tup (.cons (.pur (.str "word")) (.cons (.cal 1 (.cons (.raw 0) .nil)) (.cons (.cal 2 (.cons (.raw 0) (.cons (.gi 2) .nil))) .nil))))) .nil)
    (.seq (.ifS (.tc .Eq (.raw 1) (.pur (.str "claim"))) (.seq (.asg 2 (.tup (.cons (.pur (.str "claim")) (.cons (.cal 1 (.cons (.raw 0) .nil)) (.cons (.cal 3 (.cons (.raw 0) (.cons (.gi 2) .nil))) .nil))))) .nil) RN) .nil)) .nil)) .nil))
 (.seq (.exp (.mth (.raw 0) 4 .nil)) (.seq (.ret (.raw 2)) .nil)))
def readHead:WS:=.seq (.asg 1 TN) (.seq (.exp (.mth (.raw 0) 2 (.cons (.pur (.str "if")) .nil))) (.seq (.ret (.raw 1)) .nil))
def readOpen:WS:=.seq (.ifS (.tc .Eq (.cnt (.lv KD) (.pur (.str "open"))) (.gi 1)) RN .nil)
 (.seq (.asg 1 TN) (.seq (.exp (.mth (.raw 0) 2 (.cons (.pur (.str "for")) .nil))) (.seq (.asg 2 (.cal 0 (.cons (.raw 0) .nil))) (.seq (.exp (.mth (.raw 0) 2 (.cons (.pur (.str "against")) .nil)))
 (.seq (.ret (.tup (.cons (.pur (.str "open")) (.cons (.raw 1) (.cons (.raw 2) (.cons (.cal 0 (.cons (.raw 0) .nil)) .nil)))))) .nil)))))
def readBody:WS:=.seq (.ifS (.tc .Eq (.raw 3) (.gi 0)) (.seq (.rsa "NoRow" "row" (.raw 3)) .nil) .nil)
 (.seq (.asg 5 (.mk 0 (.cons (.raw 3) (.cons (.raw 4) (.cons (.raw 2) .nil)))))
 (.seq (.asg 6 (.cal 0 (.cons (.raw 5) .nil)))
 (.seq (.exp (.cal 1 (.cons (.raw 5) (.cons (.ix (.raw 6) (.pur (.int 1))) .nil))))
 (.seq (.put (.raw 2) (.ix (.raw 6) (.pur (.int 1))) (.ix (.raw 6) (.pur (.int 0))))
 (.seq (.app (.raw 1) (.raw 6)) .nil)))))
def readAct:WS:=.seq (.ifS (.not (.tp (.tv (.isT (.var 0) ["str"])))) (.seq (.rsa "NoRow" "row" (.pur (.int 0))) .nil) .nil) (.seq (.asg 1 (.lst .nil)) (.seq (.asg 2 .dnew) (.seq (.for_ (.tp [3,4]) (.enum (.spl (.var 0) (.str "\n"))) readBody) (.seq (.ret (.raw 1)) .nil))))
def toldH (b1 b2:Bool)(tl:WS):WS:=.seq (.asg 2 (.pur (.lst (.cons (.isE false "NoPack") (.cons (.isE false "NoSide") (.cons (.isE false "NoReason") (.cons (.isE false "TooMuch") .nil)))))))
 (.seq (.asg 2 (.pur (.bin .Add (.var 2) (.lst (.cons (.isE false "NoCourt") (.cons (.isE false "Late") (.cons (.isE false "NotAllowed") .nil)))))))
 (.seq (.asg 2 (.pur (.bin .Add (.var 2) (.lst (.cons (.isE false "NoRuling") (.cons (.isE false "NotYours") (.cons (.not (.isE true "ValueError")) .nil)))))))
 (.seq (.asg 3 (.pur (.lst (.cons (.isE b1 "NoRow") (.cons (.isE b2 "Twice") (.cons (.isE false "Unknown") .nil))))))
 (.seq (.ifS (.tor (.tp (.tv (.cmp .In (.bl true) (.var 2)))) (.tc .NotEq (.cnt (.raw 3) (.pur (.bl true))) (.pur (.int 1)))) (.seq (.mir .bad) .nil) .nil) tl))))
def toldR:WS:=toldH true false (.seq (.ifS (.tp (.tv (.ix (.var 3) (.int 0)))) (.seq (.ret (.tup (.cons (.pur (.str "row")) (.cons (.exf "row") .nil)))) .nil) .nil) (.seq (.mir .bad) .nil))
def toldT:WS:=toldH false true (.seq (.ifS (.tp (.tv (.ix (.var 3) (.int 0)))) (.seq (.mir .bad) .nil) .nil) (.seq (.ret (.tup (.cons (.pur (.ix (.lst (.cons (.str "twice") (.cons (.str "unknown") .nil))) (.bi "int" (.cons (.ix (.var 3) (.int 2)) .nil)))) (.cons (.exf "name") .nil)))) .nil))
def told:WS:=.seq (.tr2 (.seq (.ret (.cal 0 (.cons (.raw 0) .nil))) .nil) (.hn "NoRow" (some "row") toldR (.hn "Twice" (some "name") toldT .nil)) 1 4) .nil
end Rd
def kvF (ns:List Str):List (Key×V):=ns.map fun s=>(.inr s,V.str "fact")
def esF (ns:List Str):Ents:=ns.map fun s=>(PyData.str s,PyData.str "fact")
theorem zm6 {K:W.Frag}{H:Hp}{B:Ad->Prop}:∀{ns:List Str},(∀s∈ns,PyData.strOk s=true)->REs K H B (kvF ns) (esF ns)
 | [],_=>rfl
 |s::ns,h=>⟨.inr s,.str "fact",kvF ns,rfl,rfl,h s ai,⟨rfl,by decide+kernel⟩,zm6 fun t ht=>h t (ah _ ht)⟩
theorem zgd (a b:Str):eqK (.str a) (.str b)=decide (a=b):=by
 show(a==b)=_;by_cases h:a=b
 ·subst h;simp
 ·rw[t7 h];simpa using h
theorem zfp {nm:Str}:∀{ns:List Str},(z14 (esF ns) (.str nm)).isSome=decide (nm∈ns)
 | []=>by simp[esF,z14]
 |s::ns=>by
  have ih:=zfp (nm:=nm) (ns:=ns);unfold z14 esF at ih ⊢;rw[bn,gh];show(Option.map _ (match eqK (.str s) (.str nm)with|true=>_|false=>_)).isSome=_;rw[zgd];by_cases h:s=nm
  ·subst h;simp
  ·rw[t7 h];rw[ih];have:nm≠s:=fun z=>h z.symm;simp[this]
theorem zrm {nm:Str}{ns:List Str}(h:nm∉ns):putK (kvF ns) (.inr nm) (V.str "fact")=kvF (ns++[nm]):=by
 unfold putK;rw[if_neg]
 ·unfold kvF;rw[j7];rfl
 ·intro z;obtain⟨kv,hkv,e⟩:=List.any_eq_true.mp z;obtain⟨s,hs,rfl⟩:=ci.mp hkv;have e:(Sum.inr s:Key)=.inr nm:=tu e;cases e;exact h hs
section
variable {Z:Wc}{H:Hp}{σ:L2.St}{CR x dx wl kd sl:Addr}{n:Int}{ws:List Str}{p:Nat}{ns:List Str}{nb:Str->Bool}
theorem zr5 {H1:Hp}{c fl:Str}{y:V}{dp C:Addr}(ex:ExF Z.mg c fl y x H Z.E)(hx:H1 x≠none)(k:∀b o,b≠x->H b=some o->H1 b=some o)(hC:Z.mg c=some (.ref C))(hd:H1 dp=none):Z.E (.ref C) (some dp) (upd H1 dp (.xd [(fl,y)])):=by
 have nx:dp≠x:=by rintro rfl;exact hx hd
 have h0:H dp=none:=by
  cases e:H dp with
  |none=>rfl
  |some o=>rw[k dp o nx e]at hd;cases hd
 exact ex C _ dp hC h0 z02 fun b o hb e=>by rw[z01 (by rintro rfl;rw[h0]at e;cases e)];exact k b o hb e
def spCN (K:W.Frag)(CR:Addr)(mg:Str->Option Value):Sp:=fun vs H Q E=>∃x dx wl kd sl n ws p ns nm,vs=[.ref x,.str nm]/\Rw K CR H x dx wl kd sl n ws p/\H kd=some (.dK (kvF ns))/\(∀s∈ns,PyData.strOk s=true)/\H sl=some (.lst [])/\PyData.strOk nm=true/\if nm∈ns then ExF mg "Twice" "name" (.str nm) x H E else ∀H',Same H H'->Q .non H'
theorem zj9 {D0:Ends}{nm:Str}(rk:RowK Z.K CR)(r:Rw Z.K CR H x dx wl kd sl n ws p)(hk:H kd=some (.dK (kvF ns)))(okn:∀s∈ns,PyData.strOk s=true)(hs:H sl=some (.lst []))(hn:PyData.strOk nm=true)
  (q:if nm∈ns then ExF Z.mg "Twice" "name" (.str nm) x H Z.E else ∀H',Same H H'->∀σ',D0.nx σ' H'):wS Z Rd.checkNames D0 [some (.ref x),some (.str nm),none,none] H:=by
 have rd:Rep Z.K H AnyB (.ref kd) (.dict (esF ns)):=⟨kd,_,rfl,hk,trivial,zm6 okn⟩;refine⟨.str nm,rfl,z28 (f:="kinds") (v:=.ref kd) rk r rfl (by decide) rfl (zqy (B:=AnyB) (dx:=.str nm) ⟨rfl,hn⟩ rd rfl fun H1 s1=>⟨_,rfl,?_⟩)⟩;rw[zfp];by_cases h:nm∈ns
 ·rw[if_pos h]at q;rw[tz h];refine iteT fun C hC=>⟨.str nm,rfl,fun dp hd=>zr5 q (by rw[(r.same s1).ins];nofun) (fun b o _ e=>s1 b o e) hC hd⟩
 ·rw[if_neg h]at q;rw[t7 h];refine iteF ?_;have sq:SqL Z.K H1 sl []:=.inl (.inl (s1 _ _ hs));have go:∀Q:VK,Q (.ref sl) H1->wE Z Rd.SD [some (.ref x),some (.str nm),none,none] H1 Q:=fun Q q=>z28 (f:="said") (v:=.ref sl) rk (r.same s1) rfl (by decide) rfl q;show tFor (zbj Z.K (wE Z Rd.SD)) _ _ _ _ H1;unfold tFor zbj;refine go _ ?_;refine⟨sl,rfl,⟨[],sq⟩,fun i m σ' H'=>i=0/\H'=H1,⟨0,rfl,rfl⟩,?_⟩
  rintro i m σ' H' ⟨rfl,rfl⟩
  exact .inl ⟨⟨[],sq,aj _⟩,q H' s1 σ'⟩
theorem zh5 {Q:VK}(hm:Z.me[3]?=some (CR,("take_name":Str),spTN Z.K CR Z.mg nb))(r:Rw Z.K CR H x dx wl kd sl n ws p)(h0:σ[0]?=some (some (.ref x)))
  (q:if nb (pk ws p)=true then ∀H',(∀b o,b≠x->H b=some o->H' b=some o)->H' x=some (.ins CR dx (rowF n wl (p+1) kd sl))->Q (.str (pk ws p)) H' else ExF Z.mg "NoRow" "row" (.int n) x H Z.E):wE Z Rd.TN σ H Q:=by
 rw[z6w hm];exact⟨.ref x,h0,x,dx,_,rfl,r.ins,rfl,x,dx,wl,kd,sl,n,ws,p,rfl,r,q⟩
def spHd (K:W.Frag)(CR:Addr)(mg:Str->Option Value)(nb:Str->Bool):Sp:=fun vs H _ E=>∃x dx wl kd sl n ws p,vs=[.ref x]/\Rw K CR H x dx wl kd sl n ws p/\nb (pk ws p)=false/\ExF mg "NoRow" "row" (.int n) x H E
theorem zl9 {D0:Ends}(hm:Z.me[3]?=some (CR,("take_name":Str),spTN Z.K CR Z.mg nb))(r:Rw Z.K CR H x dx wl kd sl n ws p)(hn:nb (pk ws p)=false)(q:ExF Z.mg "NoRow" "row" (.int n) x H Z.E):wS Z Rd.readHead D0 [some (.ref x),none] H:=zh5 hm r rfl (by rw[if_neg (by rw[hn];decide)];exact q)
def spOp (K:W.Frag)(CR:Addr)(mg:Str->Option Value)(nb:Str->Bool):Sp:=fun vs H _ E=>∃x dx wl kd sl n ws p ns,vs=[.ref x]/\Rw K CR H x dx wl kd sl n ws p/\H kd=some (.dK (kvF ns))/\nb (pk ws p)=false/\ExF mg "NoRow" "row" (.int n) x H E
theorem zfn:∀(ns:List Str),(ns.map fun _=>("fact":Str)).countP (· ==("open":Str))=0
 | []=>rfl
 |s::ns=>by rw[bn,nj,zfn ns];rfl
theorem zla (ns:List Str):(kvF ns).map (·.2)=(ns.map fun _=>("fact":Str)).map V.str:=by unfold kvF;rw[dw,dw];rfl
theorem zmi {Q:VK}(rk:RowK Z.K CR)(r:Rw Z.K CR H x dx wl kd sl n ws p)(hk:H kd=some (.dK (kvF ns)))(h0:σ[0]?=some (some (.ref x)))(q:∀H',Same H H'->Q (.int 0) H'):wE Z (.cnt (.lv Rd.KD) (.pur (.str "open"))) σ H Q:=by
 show wE Z Rd.KD σ H fun x H1=>tyV Z.K "dict" x H1/\rVw x [] H1 fun v H2=>rLV [v] H2 fun l H3=>tyV Z.K "list" l H3/\(z3n (wE Z (.pur (.str "open"))) tNil) σ H3 fun xs H4=>rCnt l xs H4 Q;refine z28 (f:="kinds") (v:=.ref kd) rk r h0 (by decide) rfl ⟨.inr (.inr (.inl ⟨rfl,.inl ⟨_,hk⟩⟩)),kd,_,rfl,rfl,hk,fun v hv=>?_⟩;have nkv:kd≠v:=by rintro rfl;rw[hk]at hv;cases hv
 refine⟨v,kd,_,rfl,z02,by rw[z01 nkv];exact hk,fun l hl=>?_⟩;have s1:Same H (upd (upd H v (vw v kd)) l (.lst ((kvF ns).map (·.2)))):=(Same.upd hv).trans (Same.upd hl);refine⟨.inl ⟨rfl,_,.inl (.inl z02)⟩,_,F0 _,_,z18,rfl,fun w H2 s2 r2=>?_⟩;obtain⟨rfl,_⟩:=r2;have hl2:=s2 _ _ z02;rw[zla]at hl2;refine⟨l,rfl,.inl ⟨_,"open",rfl,hl2,?_⟩⟩;rw[zfn];exact q H2 (s1.trans s2)
theorem zkk {D0:Ends}(rk:RowK Z.K CR)(hg:Z.gi[1]?=some 4)(hm:Z.me[3]?=some (CR,("take_name":Str),spTN Z.K CR Z.mg nb))(r:Rw Z.K CR H x dx wl kd sl n ws p)(hk:H kd=some (.dK (kvF ns)))(hn:nb (pk ws p)=false)(q:ExF Z.mg "NoRow" "row" (.int n) x H Z.E):wS Z Rd.readOpen D0 [some (.ref x),none,none] H:=by
 refine zmi (ns:=ns) rk r hk rfl fun H2 s2=>?_;have eg:wE Z (.gi 1)=fun _ H Q=>Q (.int 4) H:=by show(match Z.gi[1]? with|some n=>(fun _ H Q=>Q (.int n) H:TE)|none=>tNo)=_;rw[hg]
 rw[eg];refine⟨AnyB,AnyB,.int 0,.int 4,.bool false,rfl,rfl,rfl,fun w H3 s3 r3=>?_⟩;cases r3;refine⟨_,rfl,iteF ?_⟩;have s13:=s2.trans s3;refine zh5 hm (r.same s13) rfl ?_;rw[if_neg (by rw[hn];decide)];exact fun C H' dp e1 e2 e3 e4=>q C H' dp e1 (s13.none e2) e3 fun b o hb e=>e4 b o hb (s13 b o e)
theorem z3x {as:W}{j:Nat}{sp:Sp}(h:Z.fn[j]?=some sp):wE Z (.cal j as)=z6f sp [] Z.E (wA Z as):=by show(match Z.fn[j]? with|some sp=>z6f sp [] Z.E (wA Z as)|none=>tNo)=_;rw[h]
theorem z4u {mg:Str->Option Value}{E:XK}{H1:Hp}{c fl:Str}{y:V}(ex:ExF mg c fl y x H E)(k:∀b o,b≠x->H b=some o->H1 b=some o)(hx:H1 x≠none):ExF mg c fl y x H1 E:=fun C H' dp hC h1 hd k2=>by
 refine ex C H' dp hC ?_ hd fun b o hb e=>k2 b o hb (k b o hb e);cases e:H dp with
 |none=>rfl
 |some o=>
  by_cases z:dp=x
  ·subst z;exact absurd h1 hx
  ·rw[k dp o z e]at h1;cases h1
theorem z80 {Q:Bool->Hp->Prop}{i:Nat}{a b:Str}(hi:σ[i]?=some (some (.str a)))(oka:PyData.strOk a=true)(q:∀H',Same H H'->Q (decide (a=b)) H'):wT Z (.tc .Eq (.raw i) (.pur (.str b))) σ H Q:=by
 refine⟨.str a,hi,_,F0 H,_,z18,rfl,fun v H1 s1 r1=>?_⟩;refine⟨AnyB,_,.str a,.str b,.bool (decide (a=b)),⟨rfl,oka⟩,r1,?_,fun w H2 s2 r2=>?_⟩
 ·show(Res.ok (eqD (.str a) (.str b))>>=fun b=>Res.ok (PyData.bool b))=_;rw[z3t];rfl
 ·cases r2;exact⟨_,rfl,q H2 (s1.trans s2)⟩
def z1c (nb:Str->Bool)(ws:List Str):Option Str:=if pk ws 0="fact"then(if nb (pk ws 1)=true/\ws.length<=2 then some (pk ws 1)else none)else none
def spRR (K:W.Frag)(CR:Addr)(mg:Str->Option Value)(nb:Str->Bool):Sp:=fun vs H Q E=>∃x dx wl kd sl n ws ns,vs=[.ref x]/\Rw K CR H x dx wl kd sl n ws 0/\H kd=some (.dK (kvF ns))/\(pk ws 0="open"\/pk ws 0="word"\/pk ws 0="claim"->ws.length=1)/\nb ""=false/\
 match z1c nb ws with
 |some nm=>∀H' t p',(∀b o,b≠x->H b=some o->H' b=some o)->H' x=some (.ins CR dx (rowF n wl p' kd sl))->H t=none->t≠x->H' t=some (.tup [.str "fact",.str nm])->Q (.ref t) H'
 |none=>ExF mg "NoRow" "row" (.int n) x H E
theorem za4 (h:ws.length=1):pk ws 1="":=by unfold pk;rw[am,ji (by omega)];rfl
theorem zk7 {D0:Ends}(rk:RowK Z.K CR)(m1:Z.me[1]?=some (CR,("take":Str),z1l Z.K CR))(m3:Z.me[3]?=some (CR,("take_name":Str),spTN Z.K CR Z.mg nb))(m4:Z.me[4]?=some (CR,("take_end":Str),z5g Z.K CR Z.mg))(f0:Z.fn[0]?=some (spOp Z.K CR Z.mg nb))(f1:Z.fn[1]?=some (spHd Z.K CR Z.mg nb))
  (r:Rw Z.K CR H x dx wl kd sl n ws 0) (hk:H kd=some (.dK (kvF ns))) (sp:pk ws 0="open"\/pk ws 0="word"\/pk ws 0="claim"->ws.length=1) (n0:nb ""=false)
  (q:match z1c nb ws with
   |some nm=>∀H' t p',(∀b o,b≠x->H b=some o->H' b=some o)->H' x=some (.ins CR dx (rowF n wl p' kd sl))->H t=none->t≠x->H' t=some (.tup [.str "fact",.str nm])->D0.rt (.ref t) H'
   |none=>ExF Z.mg "NoRow" "row" (.int n) x H Z.E):wS Z Rd.readRow D0 [some (.ref x),none,none] H:=by
 refine z6p m1 r rfl fun H1 k1 e1=>?_;have r1:=r.move k1 e1;have ok0:=(okpk (p:=0) r.okw).1;have x1:H1 x≠none:=by rw[e1];nofun
 have nkx:kd≠x:=by rintro rfl;have:=r.ins;rw[hk]at this;cases this
 show wS Z (.seq _ _) D0 [some (.ref x),some (.str (pk ws 0)),none] H1;refine z80 (i:=1) (a:=pk ws 0) (b:="fact") rfl ok0 fun H2 s2=>?_;have k2:∀b o,b≠x->H b=some o->H2 b=some o:=fun b o hb e=>s2 b o (k1 b o hb e);have r2:=r1.same s2;by_cases h:pk ws 0="fact"
 ·rw[tz h];unfold z1c at q;rw[if_pos h]at q;refine iteT ?_;refine⟨_,F0 H2,_,z18,rfl,fun v H3 s3 r3=>?_⟩;obtain⟨rfl,_⟩:=r3;have r3:=r2.same s3;have k3:∀b o,b≠x->H b=some o->H3 b=some o:=fun b o hb e=>s3 b o (k2 b o hb e);refine zh5 m3 r3 rfl ?_;by_cases hn:nb (pk ws 1)=true
  ·rw[if_pos hn];intro H4 k4 e4;have r4:=r3.move k4 e4;have k4':∀b o,b≠x->H b=some o->H4 b=some o:=fun b o hb e=>k4 b o hb (k3 b o hb e);refine⟨(show 2<=az by rw[dq];decide),fun t ht=>?_⟩;have ntx:t≠x:=by rintro rfl;rw[e4]at ht;cases ht
   have s5:Same H4 (upd H4 t (.tup [.str "fact",.str (pk ws 1)])):=Same.upd ht;have r5:=r4.same s5;show wE Z (.mth (.raw 0) 4 .nil) [some (.ref x),some (.str (pk ws 0)),some (.ref t)] _ _;rw[z6w m4];refine⟨.ref x,rfl,x,dx,_,rfl,r5.ins,rfl,x,dx,wl,kd,sl,n,ws,_,rfl,r5,?_⟩;by_cases hl:ws.length<=2
   ·rw[if_pos ⟨hn,hl⟩]at q;rw[if_neg (by omega)];intro H6 s6
    have ht0:H t=none:=by
     cases e:H t with
     |none=>rfl
     |some o=>rw[k4' t o ntx e]at ht;cases ht
    exact⟨.ref t,rfl,q H6 t 2 (fun b o hb e=>s6 b o (s5 b o (k4' b o hb e))) (s6 _ _ r5.ins) ht0 ntx (s6 _ _ z02)⟩
   ·rw[if_neg (fun z=>hl z.2)]at q;rw[if_pos (by omega)];exact z4u q (fun b o hb e=>s5 b o (k4' b o hb e)) (by rw[r5.ins];nofun)
  ·rw[if_neg hn];rw[if_neg (fun z=>hn z.1)]at q;exact z4u q k3 (by rw[r3.ins];nofun)
 ·rw[t7 h];unfold z1c at q;rw[if_neg h]at q;have q:ExF Z.mg "NoRow" "row" (.int n) x H Z.E:=q;refine iteF ?_;refine z80 (i:=1) (a:=pk ws 0) (b:="open") rfl ok0 fun H3 s3=>?_;have r3:=r2.same s3;have k3:∀b o,b≠x->H b=some o->H3 b=some o:=fun b o hb e=>s3 b o (k2 b o hb e);by_cases h:pk ws 0="open"
  ·rw[tz h];refine iteT ?_;show wE Z (.cal 0 _) _ _ _;rw[z3x f0];exact⟨.ref x,rfl,x,dx,wl,kd,sl,n,ws,1,ns,rfl,r3,k3 _ _ nkx hk,by rw[za4 (sp (.inl h))];exact n0,z4u q k3 (by rw[r3.ins];nofun)⟩
  ·rw[t7 h];refine iteF ?_;refine z80 (i:=1) (a:=pk ws 0) (b:="word") rfl ok0 fun H4 s4=>?_;have r4:=r3.same s4;have k4:∀b o,b≠x->H b=some o->H4 b=some o:=fun b o hb e=>s4 b o (k3 b o hb e);by_cases h:pk ws 0="word"
   ·rw[tz h];refine iteT ⟨_,F0 H4,_,z18,rfl,fun v H5 s5 r5=>?_⟩;have r6:=r4.same s5;have k5:∀b o,b≠x->H b=some o->H5 b=some o:=fun b o hb e=>s5 b o (k4 b o hb e);show wE Z (.cal 1 _) _ _ _;rw[z3x f1];exact⟨.ref x,rfl,x,dx,wl,kd,sl,n,ws,1,rfl,r6,by rw[za4 (sp (.inr (.inl h)))];exact n0,z4u q k5 (by rw[r6.ins];nofun)⟩
   ·rw[t7 h];refine iteF ?_;refine z80 (i:=1) (a:=pk ws 0) (b:="claim") rfl ok0 fun H5 s5=>?_;have r5:=r4.same s5;have k5:∀b o,b≠x->H b=some o->H5 b=some o:=fun b o hb e=>s5 b o (k4 b o hb e);by_cases h:pk ws 0="claim"
    ·rw[tz h];refine iteT ⟨_,F0 H5,_,z18,rfl,fun v H6 s6 r6=>?_⟩;have r7:=r5.same s6;have k6:∀b o,b≠x->H b=some o->H6 b=some o:=fun b o hb e=>s6 b o (k5 b o hb e);show wE Z (.cal 1 _) _ _ _;rw[z3x f1];exact⟨.ref x,rfl,x,dx,wl,kd,sl,n,ws,1,rfl,r7,by rw[za4 (sp (.inr (.inr h)))];exact n0,z4u q k6 (by rw[r7.ins];nofun)⟩
    ·rw[t7 h];exact iteF (zdk rk r5 rfl k5 q)
end
inductive Rr where
 |ok (ns:List Str)|row (k:Nat)|tw (s:Str)
def z0o (nb:Str->Bool):Nat->List Str->List Str->Rr
 |_,ns,[]=>.ok ns
 |k,ns,r::rs=>if k=24 then .row k else match z1c nb (spW 32 r)with
  |none=>.row k
  |some nm=>if nm∈ns then .tw nm else z0o nb (k+1) (ns++[nm]) rs
def z23 (nb:Str->Bool):D->Rr
 |.str t=>z0o nb 0 [] (spW 10 t)
 |_=>.row 0
def z2j (s:Str):D:=.tuple [.str "fact",.str s]
def ExS (mg:Str->Option Value)(c fl:Str)(y:V)(H:Hp)(E:XK):Prop:=∀C H' dp,mg c=some (.ref C)->H dp=none->H' dp=some (.xd [(fl,y)])->Same H H'->E (.ref C) (some dp) H'
def zaq (t:Str):Prop:=∀r∈spW 10 t,pk (spW 32 r) 0="open"\/pk (spW 32 r) 0="word"\/pk (spW 32 r) 0="claim"->(spW 32 r).length=1
def RrOk (K:W.Frag)(mg:Str->Option Value)(H:Hp)(Q:VK)(E:XK):Rr->Prop
 |.ok ns=>∀H' l,Same H H'->Rep K H' (nw H) (.ref l) (.list (ns.map z2j))->Q (.ref l) H'
 |.row k=>ExS mg "NoRow" "row" (.int k) H E
 |.tw s=>ExS mg "Twice" "name" (.str s) H E
def spRA (K:W.Frag)(mg:Str->Option Value)(nb:Str->Bool):Sp:=fun vs H Q E=>∃v d B,vs=[v]/\Rep K H B v d/\nb ""=false/\(∀t,d=.str t->okS t/\zaq t/\(spW 10 t).length<=1000)/\RrOk K mg H Q E (z23 nb d)
theorem z9b:∀(xs:List D) (k i:Nat),(z0r k xs)[i]?=(xs[i]?).map fun x=>.tuple [.int ((k+i:Nat):Int),x]
 | [],_,i=>by simp[z0r]
 |x::xs,k,0=>by simp[z0r]
 |x::xs,k,i+1=>by
  unfold z0r;rw[gg,z9b xs (k+1) i,gg]
  congr 2
  funext y
  have:k+1+i=k+(i+1):=by omega
  rw[this]
theorem z7x:∀(xs:List D) (k:Nat),(z0r k xs).length=xs.length
 | [],_=>rfl
 |_::xs,k=>by unfold z0r;rw[ay,ay,z7x xs]
theorem z1s:∀(ns:List Str),imms (ns.map z2j)=true
 | []=>rfl
 |s::ns=>by show(imm (z2j s)&&imms (ns.map z2j))=true;rw[z1s ns];rfl
theorem z6t {nb:Str->Bool}{ws:List Str}{nm:Str}(h:z1c nb ws=some nm)(ok:∀s∈ws,okS s):PyData.strOk nm=true:=by
 unfold z1c at h;split at h
 ·split at h
  ·cases h;exact(okpk ok).1
  ·cases h
 ·cases h
section
variable {Z:Wc}{H:Hp}{σ:L2.St}{CR:Addr}{nb:Str->Bool}
theorem zps {as:W}{j:Nat}{C:Addr}{sp:Sp}(h:Z.cl[j]?=some (C,sp)):wE Z (.mk j as)=z8w C sp [] Z.E (wA Z as):=by show(match Z.cl[j]? with|some r=>z8w r.1 r.2 [] Z.E (wA Z as)|none=>tNo)=_;rw[h]
theorem zli {Q:VK}{t:Addr}{a b:Str}{j:Nat}{c:Str}(hi:σ[6]?=some (some (.ref t)))(ht:H t=some (.tup [.str a,.str b]))(oka:PyData.strOk a=true)(okb:PyData.strOk b=true)(hj:ixD (.tuple [.str a,.str b]) (.int j)=.ok (.str c))(q:∀H',Same H H'->Q (.str c) H'):wE Z (.ix (.raw 6) (.pur (.int j))) σ H Q:=by refine⟨.ref t,hi,_,F0 H,_,z18,rfl,fun v H1 s1 r1=>?_⟩;cases r1;refine⟨AnyB,AnyB,.tuple [.str a,.str b],.int j,.str c,⟨t,_,rfl,.inl (.inl (s1 _ _ ht)),⟨_,_,rfl,⟨rfl,oka⟩,_,_,rfl,⟨rfl,okb⟩,rfl⟩⟩,rfl,hj,fun w rw=>?_⟩;obtain⟨rfl,_⟩:=rw;exact q H1 s1
theorem z32 (a b:Int):eqD (.int a) (.int b)=decide (a=b):=by
 show(a==b)=_;by_cases h:a=b
 ·subst h;simp
 ·rw[t7 h];simpa using h
theorem zeu {c fl:Str}{y:V}{H1:Hp}{x:Addr}(ex:ExS Z.mg c fl y H Z.E)(s:Same H H1)(hx:H x=none):ExF Z.mg c fl y x H1 Z.E:=fun C H' dp hC h1 hd k=>ex C H' dp hC (s.none h1) hd fun b o e=>k b o (by rintro rfl;rw[hx]at e;cases e) (s b o e)
theorem zex {c fl:Str}{y:V}{H1:Hp}{C dp:Addr}(ex:ExS Z.mg c fl y H Z.E)(s:Same H H1)(hC:Z.mg c=some (.ref C))(hd:H1 dp=none):Z.E (.ref C) (some dp) (upd H1 dp (.xd [(fl,y)])):=ex C _ dp hC (s.none hd) z02 (s.trans (Same.upd hd))
theorem zl8 {D1:Ends}{ap kd:Addr}{k:Nat}{r:Str}{a0 a5 a6:Option V}{vs:List V}{ns:List Str}(g0:Z.gi[0]?=some 24)(c0:Z.cl[0]?=some (CR,spRI Z.K CR))(f0:Z.fn[0]?=some (spRR Z.K CR Z.mg nb))(f1:Z.fn[1]?=some (spCN Z.K CR Z.mg))
  (ha:H ap=some (.lst vs)) (hk:H kd=some (.dK (kvF ns))) (okn:∀s∈ns,PyData.strOk s=true) (okr:okS r) (sp:pk (spW 32 r) 0="open"\/pk (spW 32 r) 0="word"\/pk (spW 32 r) 0="claim"->(spW 32 r).length=1) (n0:nb ""=false) (hv:vs.length<1000) (hns:ns.length<1000)
  (q:if k=24 then ExS Z.mg "NoRow" "row" (.int k) H Z.E else match z1c nb (spW 32 r)with
   |none=>ExS Z.mg "NoRow" "row" (.int k) H Z.E
   |some nm=>if nm∈ns then ExS Z.mg "Twice" "name" (.str nm) H Z.E else ∀b5 b6 H' t,(∀b o,b≠ap->b≠kd->H b=some o->H' b=some o)->H' ap=some (.lst (vs++[.ref t]))->H' kd=some (.dK (kvF (ns++[nm])))->H' t=some (.tup [.str "fact",.str nm])->PyData.strOk nm=true->D1.nx [a0,some (.ref ap),some (.ref kd),some (.int k),some (.str r),b5,b6] H'):
  wS Z Rd.readBody D1 [a0,some (.ref ap),some (.ref kd),some (.int k),some (.str r),a5,a6] H:=by
 refine⟨.int k,rfl,?_⟩;have eg:wE Z (.gi 0)=fun _ H Q=>Q (.int 24) H:=by show(match Z.gi[0]? with|some n=>(fun _ H Q=>Q (.int n) H:TE)|none=>tNo)=_;rw[g0]
 rw[eg];refine⟨AnyB,AnyB,.int k,.int 24,.bool (decide ((k:Int)=24)),rfl,rfl,?_,fun w H1 s1 r1=>?_⟩
 ·show(Res.ok (eqD (.int k) (.int 24))>>=fun b=>Res.ok (PyData.bool b))=_;rw[z32];rfl
 cases r1;refine⟨_,rfl,?_⟩;by_cases h24:k=24
 ·rw[if_pos h24]at q;rw[tz (by omega)];refine iteT fun C hC=>⟨.int k,rfl,fun dp hd=>zex q s1 hC hd⟩
 rw[if_neg h24]at q;rw[t7 (by omega)];refine iteF ?_;show wE Z (.mk 0 _) _ _ _;rw[zps c0];refine⟨.int k,rfl,.str r,rfl,.ref kd,rfl,fun x dx hx hdx ne=>⟨x,dx,kd,k,r,rfl,z02,okr,fun H2 wl sl k2 rw2 sl2=>⟨rfl,?_⟩⟩⟩;have hx0:H x=none:=s1.none hx
 have s2:Same H H2:=fun b o e=>by
  have e1:=s1 b o e;have nx:b≠x:=by rintro rfl;rw[hx]at e1;cases e1
  have nd:b≠dx:=by rintro rfl;rw[hdx]at e1;cases e1
  exact k2 b o nx (by rw[z01 nx,z01 nd];exact e1)
 show wE Z (.cal 0 (.cons (.raw 5) .nil)) [a0,some (.ref ap),some (.ref kd),some (.int k),some (.str r),some (.ref x),a6] H2 _;rw[z3x f0];refine⟨.ref x,rfl,x,dx,wl,kd,sl,k,_,ns,rfl,rw2,s2 _ _ hk,sp,n0,?_⟩;cases hr:z1c nb (spW 32 r)with
 |none=>rw[hr]at q;exact zeu q s2 hx0
 |some nm=>
  rw[hr]at q;have oknm:=z6t hr rw2.okw;have q:if nm∈ns then ExS Z.mg "Twice" "name" (.str nm) H Z.E else ∀b5 b6 H' t,(∀b o,b≠ap->b≠kd->H b=some o->H' b=some o)->H' ap=some (.lst (vs++[.ref t]))->H' kd=some (.dK (kvF (ns++[nm])))->H' t=some (.tup [.str "fact",.str nm])->PyData.strOk nm=true->D1.nx [a0,some (.ref ap),some (.ref kd),some (.int k),some (.str r),b5,b6] H':=q
  intro H3 t p' k3 e3 ht0 ntx ht;have s3:Same H H3:=fun b o e=>k3 b o (by rintro rfl;rw[hx0]at e;cases e) (s2 b o e);have nwx:sl≠x:=by rintro rfl;have:=rw2.ins;rw[sl2]at this;cases this
  have r3:=rw2.move k3 e3;have okf:PyData.strOk ("fact":Str)=true:=by decide+kernel
  show wE Z (.cal 1 (.cons (.raw 5) (.cons (.ix (.raw 6) (.pur (.int 1))) .nil))) [a0,some (.ref ap),some (.ref kd),some (.int k),some (.str r),some (.ref x),some (.ref t)] H3 _;rw[z3x f1];have tix:∀{H':Hp} {Q:VK} (j:Nat) (c:Str),Same H3 H'->ixD (.tuple [.str "fact",.str nm]) (.int j)=.ok (.str c)->(∀H'',Same H' H''->Q (.str c) H'')->wE Z (.ix (.raw 6) (.pur (.int j))) [a0,some (.ref ap),some (.ref kd),some (.int k),some (.str r),some (.ref x),some (.ref t)] H' Q:=fun j c s e q=>zli rfl (s _ _ ht) okf oknm e q;refine⟨.ref x,rfl,tix 1 nm (Same.refl H3) rfl fun H4 s4=>?_⟩;have r4:=r3.same s4;refine⟨x,dx,wl,kd,sl,k,_,p',ns,nm,rfl,r4,s4 _ _ (s3 _ _ hk),okn,s4 _ _ (k3 _ _ nwx sl2),oknm,?_⟩;by_cases hm:nm∈ns
  ·rw[if_pos hm]at q ⊢;exact zeu q (s3.trans s4) hx0
  ·rw[if_neg hm]at q ⊢;intro H5 s5;refine tix 0 "fact" (s4.trans s5) rfl fun H6 s6=>⟨.ref kd,rfl,tix 1 nm ((s4.trans s5).trans s6) rfl fun H7 s7=>.inl ⟨kd,_,rfl,.inl ⟨kvF ns,.inr nm,?_,rfl,?_,rfl⟩,?_⟩⟩
   ·exact((s3.trans (s4.trans s5)).trans (s6.trans s7)) _ _ hk
   ·have :(kvF ns).length=ns.length:=by unfold kvF;rw[av]
    rw[this,dq];omega
   ·have s37:Same H H7:=(s3.trans (s4.trans s5)).trans (s6.trans s7);have nak:ap≠kd:=by rintro rfl;rw[ha]at hk;cases hk
    have ntk:t≠kd:=by rintro rfl;rw[s2 _ _ hk]at ht0;cases ht0
    have nta:t≠ap:=by rintro rfl;rw[s2 _ _ ha]at ht0;cases ht0
    have ht7:H7 t=some (.tup [.str "fact",.str nm]):=((s4.trans s5).trans (s6.trans s7)) _ _ ht;have ha7:upd H7 kd (.dK (putK (kvF ns) (.inr nm) (.str "fact"))) ap=some (.lst vs):=by rw[z01 nak];exact s37 _ _ ha
    refine⟨.ref ap,rfl,.inl ⟨rfl,_,.inl (.inl ha7)⟩,.ref t,rfl,ap,vs,.ref t,rfl,rfl,ha7,by rw[dq];omega,?_⟩;refine q _ _ _ t (fun b o h1 h2 e=>?_) z02 ?_ ?_ oknm
    ·rw[z01 h1,z01 h2];exact s37 b o e
    ·rw[z01 (Ne.symm nak),z02,zrm hm]
    ·rw[z01 nta,z01 ntk];exact ht7
theorem zqp {α:Type}{l:List α}(h:l.length=7):∃a b c d e f g,l=[a,b,c,d,e,f,g]:=by rcases l with _|⟨a,_|⟨b,_|⟨c,_|⟨d,_|⟨e,_|⟨f,_|⟨g,_|⟨i,l⟩⟩⟩⟩⟩⟩⟩⟩<;>first|exact⟨_,_,_,_,_,_,_,rfl⟩|(simp at h;done)|(simp at h;omega)
theorem zd7 {t:Str}(ok:okS t)(hl:(spW 10 t).length<=1000){ρ:Rho}(h0:ρ[0]?=some (some (.od,.str t))):evW Z.Κ Z.Φ (.enum (.spl (.var 0) (.str "\n"))) ρ=.ok (.al,z0r 0 ((spW 10 t).map PyData.str)):=by
 show(((rdS ρ[0]?>>=fun x=>Res.ok (G.fr,PyData.str "\n")>>=fun y=>splD x.2 y.2>>=fun d=>Res.ok (G.fr,d)):Res GD)>>=fun x=>seqR x.2>>=fun xs=>Res.ok (G.al,z0r 0 xs))=_;rw[h0];show((splD (.str t) (.str "\n")>>=fun d=>Res.ok (G.fr,d))>>=fun x=>seqR x.2>>=fun xs=>Res.ok (G.al,z0r 0 xs))=_
 have:splD (.str t) (.str "\n")=.ok (.list ((spW 10 t).map PyData.str)):=by
  have e:("\n":Str)=⟨#[10]⟩:=by decide+kernel
  rw[e];show(if decide (t.length<=LIM)=true then Res.ok (PyData.list ((splC 10 t.cps.toList).map fun l=>PyData.str (toS l)))else .no)=_;rw[if_pos (tz ok.2)];unfold spW;rw[dw];rfl
 rw[this];show(seqR (.list ((spW 10 t).map PyData.str))>>=fun xs=>Res.ok (G.al,z0r 0 xs))=_;have:seqR (.list ((spW 10 t).map PyData.str))=.ok ((spW 10 t).map PyData.str):=by show(if decide (((spW 10 t).map PyData.str).length<=LIM)=true then _ else _)=_;rw[if_pos (tz (by rw[av];unfold LIM;omega))]
 rw[this];rfl
theorem z87 {nb:Str->Bool}{d:D}(h:z7p d=false):z23 nb d=.row 0:=by cases d<;>first|(cases h;done)|rfl
theorem zmb {D0:Ends}{v:V}{d:D}{B:Ad->Prop}(g0:Z.gi[0]?=some 24)(c0:Z.cl[0]?=some (CR,spRI Z.K CR))(f0:Z.fn[0]?=some (spRR Z.K CR Z.mg nb))(f1:Z.fn[1]?=some (spCN Z.K CR Z.mg))
  (rv:Rep Z.K H B v d) (n0:nb ""=false) (hd:∀t,d=.str t->okS t/\zaq t/\(spW 10 t).length<=1000) (q:RrOk Z.K Z.mg H D0.rt Z.E (z23 nb d)):wS Z Rd.readAct D0 [some v,none,none,none,none,none,none] H:=by
 refine⟨[some (.od,d),none,none,none,none,none,none],F0 H,z7p d,z4g rfl fun i g d' e=>?_,?_,fun H1 s1=>?_⟩
 ·rcases i with _|_|_|_|_|_|_|i<;>cases e;exact⟨rfl,v,B,rfl,rv⟩
 ·show(evE Z.Κ Z.Φ (.isT (.var 0) ["str"]) _>>=fun x=>z0z x.2)=_;rw[znd (c:=d) rfl];rfl
 cases hs:z7p d with
 |false=>rw[z87 hs]at q;have q:ExS Z.mg "NoRow" "row" (.int 0) H Z.E:=q;refine iteT fun C hC=>⟨_,F0 H1,_,z18,rfl,fun w H2 s2 r2 dp hd=>?_⟩;cases r2;exact zex q (s1.trans s2) hC hd
 |true=>
  refine iteF ?_;obtain⟨t,rfl⟩:∃t,d=.str t:=by cases d<;>first|(cases hs;done)|exact⟨_,rfl⟩
  obtain⟨okt,rok,hlen⟩:=hd t rfl;obtain⟨rfl,_⟩:=rv;have q:RrOk Z.K Z.mg H D0.rt Z.E (z0o nb 0 [] (spW 10 t)):=q;refine⟨d6 _,fun ap hap=>?_⟩;show ∀kd,upd H1 ap (.lst []) kd=none->_;intro kd hkd;have nka:kd≠ap:=by rintro rfl;rw[z02]at hkd;cases hkd
  have hkd1:H1 kd=none:=by rw[z01 nka]at hkd;exact hkd
  generalize hH2:upd (upd H1 ap (.lst [])) kd (.dK [])=H2;have s2:Same H1 H2:=by rw[<-hH2];exact(Same.upd hap).trans (Same.upd hkd)
  have ha2:H2 ap=some (.lst []):=by rw[<-hH2,z01 (Ne.symm nka),z02]
  have hk2:H2 kd=some (.dK (kvF [])):=by rw[<-hH2,z02];rfl
  have hap0:H ap=none:=s1.none hap;have hkd0:H kd=none:=s1.none hkd1;show wS Z (.seq (.for_ (.tp [3,4]) (.enum (.spl (.var 0) (.str "\n"))) Rd.readBody) (.seq (.ret (.raw 1)) .nil)) D0 [some (.str t),some (.ref ap),some (.ref kd),none,none,none,none] H2
  let F1:Fm:=⟨fun _=>none,fun a=>a≠ap/\a≠kd,fun _=>none,True⟩
  have so1:StOk Z.K F1 H2 [some (.str t),some (.ref ap),some (.ref kd),none,none,none,none] [some (.od,.str t),none,none,none,none,none,none]:=by refine⟨(fun a o e=>by cases e),(fun a e=>⟨(by rintro rfl;rw[ha2]at e;cases e),(by rintro rfl;rw[hk2]at e;cases e)⟩),(fun a i e=>by cases e),rfl,fun i g d' e=>?_⟩;rcases i with _|_|_|_|_|_|_|i<;>cases e;exact⟨_,rfl,rfl,okt.1⟩
  refine⟨_,F1,_,so1,zd7 okt hlen rfl,fun J B' H3 s3 hB wk=>?_⟩
  have kp:∀{H4:Hp},(∀b o,b≠ap->b≠kd->H3 b=some o->H4 b=some o)->Kp B' H3 H4:=fun{H4} k b o e z=>k b o (by
   rintro rfl
   rcases z with z|z
   ·exact(show b≠b/\b≠kd from(hB _ z).1).1 rfl
   ·rw[s3 _ _ ha2]at e;cases e;exact z) (by
   rintro rfl
   rcases z with z|z
   ·exact(show b≠ap/\b≠b from(hB _ z).1).2 rfl
   ·rw[s3 _ _ hk2]at e;cases e;exact z) e
  let rows:=spW 10 t
  have hel:(z0r 0 (rows.map PyData.str)).length=rows.length:=by rw[z7x,av]
  let W:Nat->Nat->L2.St->Hp->Prop:=fun i m σ' H'=>m=rows.length-i/\i<=rows.length/\(∃a0 a3 a4 a5 a6,σ'=[a0,some (.ref ap),some (.ref kd),a3,a4,a5,a6])/\(∀b o,b≠ap->b≠kd->H3 b=some o->H' b=some o)/\∃vs ns,H' ap=some (.lst vs)/\H' kd=some (.dK (kvF ns))/\Reps Z.K H' AnyB vs (ns.map z2j)/\(∀s∈ns,PyData.strOk s=true)/\ns.length=i/\z0o nb i ns (rows.drop i)=z0o nb 0 [] rows
  refine⟨W,⟨_,rfl,d6 _,⟨_,_,_,_,_,rfl⟩,fun _ _ _ _ e=>e,[],[],s3 _ _ ha2,s3 _ _ hk2,rfl,(fun _ h=>by cases h),rfl,rfl⟩,?_⟩
  rintro i m σ' H' ⟨rfl,hile,⟨a0,a3,a4,a5,a6,rfl⟩,hk,vs,ns,ha',hk',rep,okn,hni,hrd⟩
  have sH:Same H H':=fun b o e=>hk b o (by rintro rfl;rw[hap0]at e;cases e) (by rintro rfl;rw[hkd0]at e;cases e) (s3 b o (s2 b o (s1 b o e)));have hvl:vs.length=ns.length:=by have:=Reps.length rep;rw[av]at this;exact this
  by_cases hlt:i<rows.length
  ·have hlt2:i<(z0r 0 (rows.map PyData.str)).length:=by rw[hel];exact hlt
   refine .inr ⟨wk.go H' (kp hk) i hlt2,W (i+1) (rows.length-(i+1)),fun σ2 H4 w=>⟨_,by omega,w⟩,fun y H4 hy=>?_⟩;obtain⟨s4,e,he,ry⟩:=wk.yld H' (kp hk) i y H4 hlt2 hy;rw[z9b,bu,bg hlt]at he;cases he;have hdr:rows.drop i=rows[i]::rows.drop (i+1):=im hlt;rw[hdr]at hrd
   have ry:Rep Z.K H4 B' y (.tuple [.int i,.str rows[i]]):=by
    have e0:((0+i:Nat):Int)=(i:Int):=by rw[Nat.zero_add]
    rw[e0]at ry;exact ry
   refine⟨bj 7 none,F0 H4,(.od,.tuple [.int i,.str rows[i]]),[none,none,none,some (.al,.int i),some (.al,.str rows[i]),none,none],z4g rfl (fun j g d' e=>?_),ry.old,rfl,fun σ3 F3 so3 kps=>?_⟩
   ·rw[cj]at e;split at e<;>cases e
   obtain⟨v3,hv3,r3⟩:=so3.sl 3 .al (.int i) rfl;obtain⟨v4,hv4,r4⟩:=so3.sl 4 .al (.str rows[i]) rfl;cases r3;obtain⟨rfl,ok4⟩:=r4;have h13:σ3[1]?=some (some (.ref ap)):=kps.rest 1 (by decide);have h23:σ3[2]?=some (some (.ref kd)):=kps.rest 2 (by decide);obtain⟨b0,b1,b2,b3,b4,b5,b6,rfl⟩:=zqp (l:=σ3) kps.len;cases h13;cases h23;cases hv3;cases hv4;have hmem:rows[i]∈rows:=gr hlt;have okr:okS rows[i]:=⟨ok4,bw (z4o _ hmem) okt.2⟩;have hns:ns.length<1000:=by rw[hni];exact bv hlt hlen
   have sH4:Same H H4:=sH.trans s4;refine zl8 (nb:=nb) (ns:=ns) (vs:=vs) g0 c0 f0 f1 (s4 _ _ ha') (s4 _ _ hk') okn okr (rok _ hmem) n0 (by omega) hns ?_
   have hrd:(if i=24 then Rr.row i else match z1c nb (spW 32 rows[i])with
    |none=>.row i
    |some nm=>if nm∈ns then .tw nm else z0o nb (i+1) (ns++[nm]) (rows.drop (i+1)))=z0o nb 0 [] rows:=hrd
   rw[<-hrd]at q;have up:∀{c fl:Str} {y:V},ExS Z.mg c fl y H Z.E->ExS Z.mg c fl y H4 Z.E:=fun{c fl y} ex C H' dp hC h1 hd s=>ex C H' dp hC (sH4.none h1) hd (sH4.trans s);by_cases h24:i=24
   ·rw[if_pos h24]at q ⊢;exact up q
   ·rw[if_neg h24]at q hrd ⊢;cases hr:z1c nb (spW 32 rows[i])with
    |none=>rw[hr]at q;exact up q
    |some nm=>
     rw[hr]at q hrd;have q:RrOk Z.K Z.mg H D0.rt Z.E (if nm∈ns then .tw nm else z0o nb (i+1) (ns++[nm]) (rows.drop (i+1))):=q;have hrd:(if nm∈ns then Rr.tw nm else z0o nb (i+1) (ns++[nm]) (rows.drop (i+1)))=z0o nb 0 [] rows:=hrd;show if nm∈ns then _ else _
     by_cases hm:nm∈ns
     ·rw[if_pos hm]at q ⊢;exact up q
     ·rw[if_neg hm]at hrd ⊢;intro c5 c6 H5 tt k5 ha5 hk5 ht5 oknm;refine⟨rfl,hlt,⟨_,_,_,_,_,rfl⟩,fun b o h1 h2 e=>k5 b o h1 h2 (s4 b o (hk b o h1 h2 e)),vs++[.ref tt],ns++[nm],ha5,hk5,?_,?_,by rw[br,hni];rfl,hrd⟩
      ·rw[j7];refine Reps.append (Reps.immK (fun a o e f=>?_) _ (z1s ns) rep) ⟨_,_,rfl,⟨tt,_,rfl,.inl (.inl ht5),⟨_,_,rfl,⟨rfl,by decide+kernel⟩,_,_,rfl,⟨rfl,oknm⟩,rfl⟩⟩,rfl⟩;exact k5 a o (by rintro rfl;rw[ha']at e;cases e;exact f) (by rintro rfl;rw[hk']at e;cases e;exact f) (s4 a o e)
      ·intro s hs;rcases dz.mp hs with hs|hs
       ·exact okn s hs
       ·rw[ce.mp hs];exact oknm
  ·have hie:i=rows.length:=by omega
   subst hie;refine .inl ⟨?_,?_⟩
   ·have :=wk.stop H' (kp hk);rw[hel]at this;exact this
   ·rw[lh]at hrd;rw[<-hrd]at q;exact⟨.ref ap,rfl,q H' ap sH ⟨ap,vs,rfl,.inl ⟨ha',hap0⟩,Reps.immK (fun _ _ e _=>e) _ (z1s ns) rep⟩⟩
end
def rrD:Rr->D
 |.ok ns=>.list (ns.map z2j)
 |.row k=>.tuple [.str "row",.int k]
 |.tw s=>.tuple [.str "twice",.str s]
def RaOk (nb:Str->Bool)(d:D):Prop:=nb ""=false/\∀t,d=.str t->okS t/\zaq t/\(spW 10 t).length<=1000
def spTo (K:W.Frag)(nb:Str->Bool):Sp:=fun vs H Q _=>∃v d B,vs=[v]/\Rep K H B v d/\RaOk nb d/\(∀s,z23 nb d=.tw s->PyData.strOk s=true)/\∀H' w,Same H H'->Rep K H' (nw H) w (rrD (z23 nb d))->Q w H'
section
variable {Z:Wc}{H:Hp}{nb:Str->Bool}
theorem zen {K:W.Frag}{H:Hp}{B:Ad->Prop}:∀{bs:List Bool} {vs:List V},Reps K H B vs (bs.map PyData.bool)->vs=bs.map V.bl
 | [],vs,r=>r
 |b::bs,vs,r=>by obtain⟨v,t,rfl,rb,r⟩:=r;cases rb;rw[zen r];rfl
theorem zfo {D1:Ends}{b1 b2:Bool}{tl:WS}(hb:[b1,b2,false].countP (· ==true)=1)
  (q:∀H' v2 v3 l2 l3,Same H H'->v2=.ref l2->v3=.ref l3->Rep Z.K H' AnyB v3 (.list [.bool b1,.bool b2,.bool false])->wS Z tl D1 [none,none,some v2,some v3] H'):
  wS Z (Rd.toldH b1 b2 tl) D1 [none,none,none,none] H:=by
 refine⟨[none,none,none,none],F0 H,(.fr,.list [.bool false,.bool false,.bool false,.bool false]),z18,rfl,fun v1 H1 s1 r1=>?_⟩;show wS Z (.seq _ _) D1 [none,none,some v1,none] H1;have st:∀{H:Hp} {v:V} {d:D} {B:Ad->Prop},Rep Z.K H B v d->StOk Z.K (F0 H) H [none,none,some v,none] [none,none,some (.od,d),none]:=fun{H v d B} r=>z4g rfl fun i g d' e=>by rcases i with _|_|_|_|i<;>cases e;exact⟨rfl,v,B,rfl,r⟩
 refine⟨_,F0 H1,(.fr,.list [.bool false,.bool false,.bool false,.bool false,.bool false,.bool false,.bool false]),st r1,rfl,fun v2 H2 s2 r2=>?_⟩;show wS Z (.seq _ _) D1 [none,none,some v2,none] H2;refine⟨_,F0 H2,(.fr,.list [.bool false,.bool false,.bool false,.bool false,.bool false,.bool false,.bool false,.bool false,.bool false,.bool false]),st r2,rfl,fun v3 H3 s3 r3=>?_⟩;show wS Z (.seq _ _) D1 [none,none,some v3,none] H3;refine⟨_,F0 H3,(.fr,.list [.bool b1,.bool b2,.bool false]),st r3,rfl,fun v4 H4 s4 r4=>?_⟩;show wS Z (.seq _ _) D1 [none,none,some v3,some v4] H4;have r34:=r3.same s4 fun _ z=>z;obtain⟨l2,vs2,rfl,_,_⟩:=id r3;obtain⟨l3,vs3,rfl,hl3,rs3⟩:=id r4;have rs3:Reps Z.K H4 (nw H3) vs3 ([b1,b2,false].map PyData.bool):=rs3;obtain rfl:=zen rs3
 have hl:H4 l3=some (.lst ([b1,b2,false].map V.bl)):=by
  rcases hl3 with⟨hl,_⟩|⟨_,z⟩
  ·exact hl
  ·exact z.elim
 refine⟨[none,none,some (.od,.list [.bool false,.bool false,.bool false,.bool false,.bool false,.bool false,.bool false,.bool false,.bool false,.bool false]),none],F0 H4,false,z4g rfl (fun i g d' e=>?_),rfl,fun H5 s5=>?_⟩
 ·rcases i with _|_|_|_|i<;>cases e;exact⟨rfl,_,_,rfl,r34⟩
 refine iteF ?_;refine⟨.ref l3,rfl,.inl ⟨rfl,_,.inl (.inl (s5 _ _ hl))⟩,_,F0 H5,_,z18,rfl,fun v6 H6 s6 r6=>?_⟩;cases r6;refine⟨l3,rfl,.inr ⟨_,true,rfl,s6 _ _ (s5 _ _ hl),?_⟩⟩;rw[hb];refine⟨_,F0 H6,_,z18,rfl,fun v7 H7 s7 r7=>?_⟩;cases r7;refine⟨AnyB,AnyB,.int 1,.int 1,.bool false,rfl,rfl,rfl,fun v8 H8 s8 r8=>?_⟩;cases r8;refine⟨_,rfl,iteF ?_⟩;have s48:Same H4 H8:=((s5.trans s6).trans s7).trans s8;exact q H8 _ _ l2 l3 ((((s1.trans s2).trans s3).trans s4).trans s48) rfl rfl ((r4.same s48 fun _ z=>z).weak fun _ _=>trivial)
theorem zls {D1:Ends}{y:V}{d:D}(hx:Z.xf=some y)(rp:∀H B,Rep Z.K H B y d)(q:∀H' w,Same H H'->(∀B,Rep Z.K H' B w (.tuple [.str "row",d]))->D1.rt w H'):wS Z Rd.toldR D1 [none,none,none,none] H:=by
 refine zfo (by decide) fun H1 v2 v3 l2 l3 s1 e2 e3 r3=>?_;refine⟨[none,none,none,some (.od,.list [.bool true,.bool false,.bool false])],F0 H1,true,z4g rfl (fun i g d' e=>?_),rfl,fun H2 s2=>?_⟩
 ·rcases i with _|_|_|_|i<;>cases e;exact⟨rfl,_,_,rfl,r3⟩
 refine iteT ?_;refine⟨_,F0 H2,_,z18,rfl,fun w H3 s3 r3=>?_⟩;obtain⟨rfl,okw⟩:=r3;have ex:wE Z (.exf "row")=fun _ H Q=>Q y H:=by show(match Z.xf with|some v=>(fun _ H Q=>Q v H:TE)|none=>tNo)=_;rw[hx]
 have go:∀(σ:L2.St) (H:Hp) (Q:List V->Hp->Prop),Q [y] H->wA Z (.cons (.exf "row") .nil) σ H Q:=fun σ H Q z=>by show wE Z (.exf "row") σ H fun x H1=>Q [x] H1;rw[ex];exact z
 refine go _ _ _ ⟨(show 2<=az by rw[dq];decide),fun t ht=>?_⟩;refine q _ (.ref t) (((s1.trans s2).trans s3).trans (Same.upd ht)) fun B=>⟨t,_,rfl,.inl (.inl z02),⟨_,_,rfl,⟨rfl,okw⟩,_,_,rfl,rp _ _,rfl⟩⟩
theorem zmf {D1:Ends}{y:V}{d:D}(hx:Z.xf=some y)(rp:∀H B,Rep Z.K H B y d)(q:∀H' w,Same H H'->(∀B,Rep Z.K H' B w (.tuple [.str "twice",d]))->D1.rt w H'):wS Z Rd.toldT D1 [none,none,none,none] H:=by
 refine zfo (by decide) fun H1 v2 v3 l2 l3 s1 e2 e3 r3=>?_;have so:∀{H':Hp},Same H1 H'->StOk Z.K (F0 H') H' [none,none,some v2,some v3] [none,none,none,some (.od,.list [.bool false,.bool true,.bool false])]:=fun{H'} s=>z4g rfl fun i g d' e=>by rcases i with _|_|_|_|i<;>cases e;exact⟨rfl,_,_,rfl,r3.same s fun _ z=>z⟩
 refine⟨_,F0 H1,false,so (Same.refl _),rfl,fun H2 s2=>?_⟩;refine iteF ?_;refine⟨_,F0 H2,(.fr,.str "twice"),so s2,rfl,fun w H3 s3 r3=>?_⟩;obtain⟨rfl,okw⟩:=r3;have ex:wE Z (.exf "name")=fun _ H Q=>Q y H:=by show(match Z.xf with|some v=>(fun _ H Q=>Q v H:TE)|none=>tNo)=_;rw[hx]
 have go:∀(σ:L2.St) (H:Hp) (Q:List V->Hp->Prop),Q [y] H->wA Z (.cons (.exf "name") .nil) σ H Q:=fun σ H Q z=>by show wE Z (.exf "name") σ H fun x H1=>Q [x] H1;rw[ex];exact z
 refine go _ _ _ ⟨(show 2<=az by rw[dq];decide),fun t ht=>?_⟩;refine q _ (.ref t) (((s1.trans s2).trans s3).trans (Same.upd ht)) fun B=>⟨t,_,rfl,.inl (.inl z02),⟨_,_,rfl,⟨rfl,okw⟩,_,_,rfl,rp _ _,rfl⟩⟩
theorem z7s {H':Hp}{dp:Addr}(s:Same H H')(h:H dp=none):Same H (hid H' dp):=fun b o e=>by rw[z29 (by rintro rfl;rw[h]at e;cases e)];exact s b o e
theorem zm4 {D0:Ends}{v:V}{d:D}{B:Ad->Prop}(f0:Z.fn[0]?=some (spRA Z.K Z.mg nb))(rv:Rep Z.K H B v d)(ra:RaOk nb d)(ot:∀s,z23 nb d=.tw s->PyData.strOk s=true)(q:∀H' w,Same H H'->Rep Z.K H' (nw H) w (rrD (z23 nb d))->D0.rt w H'):wS Z Rd.told D0 [some v,none,none,none] H:=by
 show wE _ (.cal 0 _) _ _ _;rw[z3x (sp:=spRA Z.K Z.mg nb) (by exact f0)];refine⟨v,rfl,v,d,B,rfl,rv,ra.1,ra.2,?_⟩;cases hr:z23 nb d with
 |ok ns=>rw[hr]at q;exact fun H' l s r=>q H' _ s r
 |row k=>rw[hr]at q;intro C H' dp hC h0 hd s;refine .inl ⟨C,hC,rfl,dp,.int k,rfl,hd,?_⟩;exact zls (Z:={Z with E:=fun _ _ _=>False,xf:=some (.int k)}) (y:=.int k) (d:=.int k) rfl (fun _ _=>rfl) fun H2 w s2 r2=>q H2 w ((z7s s h0).trans s2) (r2 _)
 |tw z=>rw[hr]at q;intro C H' dp hC h0 hd s;refine .inr (.inl ⟨C,hC,rfl,dp,.str z,rfl,hd,?_⟩);exact zmf (Z:={Z with E:=fun _ _ _=>False,xf:=some (.str z)}) (y:=.str z) (d:=.str z) rfl (fun _ _=>⟨rfl,ot z hr⟩) fun H2 w s2 r2=>q H2 w ((z7s s h0).trans s2) (r2 _)
end
structure CRow where
 c:Str
 f:List Str
 ms:List (Str×Stmt)
def km1 (K:W.Frag)(C:Addr)(c:Str)(m:Str×Stmt):Option (di×Bool):=match W.findIn K (.ref C) m.1 with
 |some (some (.ref p))=>(match K.lookup p with
  |some ⟨_,_,.func fd,_⟩=>some (fd,W.codeIn K fd.code (c++"."++m.1)&&W.keepIn K (.ref p)&&W.isFn K (.ref p))
  |_=>none)
 |_=>none
def km2 (c:Str)(m:Str×Stmt)(x:di×Bool):di×Bool:=(W.fnOf m.1 (c++"."++m.1) (z11 m.2) (z08 m.2) (z07 m.2) .none x.1.kwdefaults x.1.doc x.1.pyModule x.1.annotations x.1.code x.1.closureTuple,true)
def kc1 (K:W.Frag)(r:CRow):Option (List Bool×Option (Option Value)×List (Option (Option Value))×List Bool×List (Option (di×Bool))):=match W.nsIn K bh r.c with
 |some (some (.ref C))=>some ([W.plainGet K C Str.empty,W.hasDictIn K C,W.plainOver K C,W.makesIn K C,W.keepIn K (.ref C)],W.findIn K (.ref C) "__setattr__",r.f.map (fun f=>W.findIn K (.ref C) f),r.ms.map (fun m=>(km1 K C r.c m).isSome),r.ms.map fun m=>km1 K C r.c m)
 |_=>none
def kc2 (K:W.Frag)(r:CRow):Option (List Bool×Option (Option Value)×List (Option (Option Value))×List Bool×List (Option (di×Bool))):=match W.nsIn K bh r.c with
 |some (some (.ref C))=>some ([true,true,true,true,true],some (some (.builtin "object.__setattr__")),r.f.map (fun _=>some none),r.ms.map (fun _=>true),r.ms.map fun m=>(km1 K C r.c m).map (km2 r.c m))
 |_=>none
def KCq (K:eu->W.Frag)(r:CRow):Prop:=∀P,((kc1 (K P) r).isSome,kc1 (K P) r)=(true,kc2 (K P) r)
theorem KCq_r:KCq=KCq:=rfl
structure ClsAt (K:W.Frag)(r:CRow)(C:Addr):Prop where
 ns:W.nsIn K bh r.c=some (some (.ref C))
 cls:Cls K C
 na:∀f∈r.f,z2l K C f
 mks:W.makesIn K C=true
 kp:W.keepIn K (.ref C)=true
 ms:∀m∈r.ms,∃f fd,Fun K m.1 (r.c++"."++m.1) m.2 f fd/\Meth K C m.1 f
theorem zja {K:W.Frag}{C:Addr}{c:Str}{m:Str×Stmt}(h:(km1 K C c m).isSome=true)(e:km1 K C c m=(km1 K C c m).map (km2 c m)):∃f fd,Fun K m.1 (c++"."++m.1) m.2 f fd/\Meth K C m.1 f:=by
 cases z:km1 K C c m with
 |none=>rw[z]at h;cases h
 |some x=>
  rw[z]at e;have e:x=km2 c m x:=Option.some.inj e;unfold km1 at z;split at z
  ·rename_i f hf;split at z
   ·rename_i oc od fd sl hl;have z:=Option.some.inj z;have z1:fd=x.1:=congrArg qo z;have z2:(W.codeIn K fd.code (c++"."++m.1)&&W.keepIn K (.ref f)&&W.isFn K (.ref f))=x.2:=congrArg sx z;have e1:x.1=(km2 c m x).1:=congrArg qo e;have e2:x.2=true:=congrArg sx e;rw[e2]at z2;obtain⟨z3,z4⟩:=aw.mp z2;obtain⟨z3,z5⟩:=aw.mp z3;subst z1;exact⟨f,x.1,⟨⟨oc,od,x.1.kwdefaults,x.1.doc,x.1.pyModule,x.1.annotations,x.1.code,x.1.closureTuple,sl,e1,hl,z3⟩,z5⟩,⟨hf,z4,z5⟩⟩
   ·cases z
  ·cases z
theorem zm9 {K:eu->W.Frag}{r:CRow}(h:KCq K r)(P:eu):∃C,ClsAt (K P) r C:=by
 obtain⟨h1,h2⟩:=Prod.mk.inj (h P);unfold kc1 kc2 at h2;unfold kc1 at h1;split at h2
 ·rename_i C hC;obtain⟨a1,a2⟩:=Prod.mk.inj (Option.some.inj h2);obtain⟨a2,a3⟩:=Prod.mk.inj a2;obtain⟨a3,a4⟩:=Prod.mk.inj a3;obtain⟨a4,a5⟩:=Prod.mk.inj a4;obtain⟨b1,a1⟩:=List.cons.inj a1;obtain⟨b2,a1⟩:=List.cons.inj a1;obtain⟨b3,a1⟩:=List.cons.inj a1;obtain⟨b4,a1⟩:=List.cons.inj a1;obtain⟨b5,_⟩:=List.cons.inj a1;exact⟨C,hC,⟨b1,b2,b3,a2⟩,fun f hf=>dg.mp a3 f hf,b4,b5,fun m hm=>zja (dg.mp a4 m hm) (dg.mp a5 m hm)⟩
 ·rename_i hn;split at h1
  ·rename_i C hC;exact(hn C hC).elim
  ·cases h1
end Mi
name_quick tkcq for Mi.KCq by Mi.KCq_r
namespace Mi
open PySem PySem.Spec PyProof.Rows L2
structure XRow where
 c:Str
 fl:Str
 B:Str
 cs:List (Str×Bool)
 st:Stmt
abbrev XD:=List Bool×List (Option (Option Value))×List (Option Bool)×List (Option (Bool×Option Value×Option Bool))×di
def krc (K:W.Frag)(A:Addr)(y:Str×Bool):Option (Bool×Option Value×Option Bool):=match W.nsIn K bh y.1 with
 |some (some (.ref E))=>some ((W.clsIn K E).isSome,W.typeIn K (.ref E),W.subIn K (.ref A) (.ref E))
 |_=>none
def kr1 (K:W.Frag)(r:XRow):Option XD:=match W.nsIn K bh r.c,W.nsIn K bh r.B with
 |some (some (.ref A)),some (some (.ref D))=>(match K.lookup A with
  |some ⟨.type "type",_,.cls cd,_⟩=>(match W.nsIn K cd.ns "__init__"with
   |some (some (.ref f))=>(match K.lookup f with
    |some ⟨_,_,.func fd,_⟩=>some ([exW K A,cd.hasDict,W.isFn K (.ref f),W.codeIn K fd.code (r.c++"."++"__init__"),exW K D,(W.clsIn K A).isSome,W.keepIn K (.ref f)],
     [W.findIn K (.ref A) "__setattr__",W.findIn K (.ref A) r.fl,W.findIn K (.ref A) "__getattribute__",W.findIn K (.ref A) "__getattr__",W.findIn K (.ref A) "__class__"],
     [W.subIn K (.ref A) (.type "object"),W.subIn K (.ref A) (.type "BaseException"),W.subIn K (.ref A) (.type "ValueError"),W.subIn K (.ref A) (.ref D)],r.cs.map (krc K A),fd)
    |_=>none)
   |_=>none)
  |_=>none)
 |_,_=>none
def kre (r:XRow)(x:XD):XD:=([true,true,true,true,true,true,true],[some (some (.builtin "object.__setattr__")),some none,some (some (.builtin "BaseException.__getattribute__")),some none,some (some (.builtin "object.__class__"))],[some true,some true,some true,some true],r.cs.map (fun y=>some (true,some (.type "type"),some y.2)),W.fnOf "__init__" (r.c++"."++"__init__") (z11 r.st) (z08 r.st) (z07 r.st) .none x.2.2.2.2.kwdefaults x.2.2.2.2.doc x.2.2.2.2.pyModule x.2.2.2.2.annotations x.2.2.2.2.code x.2.2.2.2.closureTuple)
def kgi (K:W.Frag)(g:Str×Int):Option Int:=match W.nsIn K bh g.1 with
 |some (some (.int n _))=>some n
 |_=>none
def KXq (K:eu->W.Frag)(rs:List XRow)(gs:List (Str×Int)):Prop:=∀P,(rs.map (fun r=>(kr1 (K P) r).isSome),rs.map (fun r=>kr1 (K P) r),gs.map (kgi (K P)))=(rs.map (fun _=>true),rs.map (fun r=>(kr1 (K P) r).map (kre r)),gs.map fun g=>some g.2)
theorem KXq_r:KXq=KXq:=rfl
structure XAt (K:W.Frag)(r:XRow)(A D f:Addr)(fd:di):Prop where
 ns:W.nsIn K bh r.c=some (some (.ref A))
 nb:W.nsIn K bh r.B=some (some (.ref D))
 xf:XF K A r.fl
 xa:XA K A
 xi:XI K A f
 fu:Fun K "__init__" (r.c++"."++"__init__") r.st f fd
 ed:exW K D=true
 sd:W.subIn K (.ref A) (.ref D)=some true
 sv:W.subIn K (.ref A) (.type "ValueError")=some true
 cs:∀y∈r.cs,∃E,W.nsIn K bh y.1=some (some (.ref E))/\(W.clsIn K E).isSome=true/\W.typeIn K (.ref E)=some (.type "type")/\W.subIn K (.ref A) (.ref E)=some y.2
theorem zd8 {K:W.Frag}{r:XRow}(h:(kr1 K r).isSome=true)(e:kr1 K r=(kr1 K r).map (kre r)):∃A D f fd,XAt K r A D f fd:=by
 cases z:kr1 K r with
 |none=>rw[z]at h;cases h
 |some x=>
  rw[z]at e;have e:x=kre r x:=Option.some.inj e;unfold kr1 at z;split at z
  ·rename_i A D hA hD;split at z
   ·rename_i dd cd sl hl;split at z
    ·rename_i f hf;split at z
     ·rename_i oc od fd sl2 hl2;have z:=Option.some.inj z;rw[<-z]at e;unfold kre at e;obtain⟨e1,e⟩:=Prod.mk.inj e;obtain⟨e2,e⟩:=Prod.mk.inj e;obtain⟨e3,e⟩:=Prod.mk.inj e;obtain⟨e4,e5⟩:=Prod.mk.inj e;obtain⟨b1,e1⟩:=List.cons.inj e1;obtain⟨b2,e1⟩:=List.cons.inj e1;obtain⟨b3,e1⟩:=List.cons.inj e1;obtain⟨b4,e1⟩:=List.cons.inj e1;obtain⟨b5,e1⟩:=List.cons.inj e1;obtain⟨b6,e1⟩:=List.cons.inj e1;obtain⟨b7,_⟩:=List.cons.inj e1;obtain⟨c1,e2⟩:=List.cons.inj e2;obtain⟨c2,e2⟩:=List.cons.inj e2;obtain⟨c3,e2⟩:=List.cons.inj e2;obtain⟨c4,e2⟩:=List.cons.inj e2;obtain⟨c5,_⟩:=List.cons.inj e2;obtain⟨d1,e3⟩:=List.cons.inj e3;obtain⟨d2,e3⟩:=List.cons.inj e3;obtain⟨d3,e3⟩:=List.cons.inj e3;obtain⟨d4,_⟩:=List.cons.inj e3;refine⟨A,D,f,fd,hA,hD,⟨b1,fun dd' cd' sl' q=>by rw[hl]at q;cases q;exact b2,c1,c2,c3,c4,d1,d2⟩,⟨c5,c3,c4,d1,d2,?_,b6,b1⟩,⟨fun dd' cd' sl' q=>by rw[hl]at q;cases q;exact hf,b3⟩,⟨⟨oc,od,fd.kwdefaults,fd.doc,fd.pyModule,fd.annotations,fd.code,fd.closureTuple,sl2,e5,hl2,b4⟩,b7⟩,b5,d4,d3,fun y hy=>?_⟩
      ·show(K.lookup A).map (·.cls)=_;rw[hl];rfl
      ·have q:=dg.mp e4 y hy;unfold krc at q;split at q
       ·rename_i E hE;obtain⟨q1,q⟩:=Prod.mk.inj (Option.some.inj q);obtain⟨q2,q3⟩:=Prod.mk.inj q;exact⟨E,hE,q1,q2,q3⟩
       ·cases q
     ·cases z
    ·cases z
   ·cases z
  ·cases z
theorem za2 {K:eu->W.Frag}{rs:List XRow}{gs:List (Str×Int)}(h:KXq K rs gs)(P:eu):(∀r∈rs,∃A D f fd,XAt (K P) r A D f fd)/\∀g∈gs,∃t,W.nsIn (K P) bh g.1=some (some (.int g.2 t)):=by
 obtain⟨h1,h2⟩:=Prod.mk.inj (h P);obtain⟨h2,h3⟩:=Prod.mk.inj h2;refine⟨fun r hr=>zd8 (dg.mp h1 r hr) (dg.mp h2 r hr),fun g hg=>?_⟩;have q:=dg.mp h3 g hg;unfold kgi at q;split at q
 ·rename_i n t e;cases q;exact⟨t,e⟩
 ·cases q
end Mi
name_quick tkxq for Mi.KXq by Mi.KXq_r
namespace Mk
open PySem Mi
def S_z0:S:=(.seq (.ret (.and (.isT (.var 0) ["str"]) (.and (.chain .LtE .LtE (.int 1) (.bi "len" (.cons (.var 0) .nil)) (.int 12)) (.and (.agg "all" (.tv (.comp 1 [] ["sign"] (.nm 0) (.tv (.var 0)) .nil (.chain .LtE .LtE (.str "a") (.var 0) (.str "z"))))) (.cmp .NotIn (.var 0) (.glob 0 "NO_NAMES")))))) .nil)
def F_z0:Fn:=runD [(.tuple [(.str "and"),(.str "or"),(.str "not"),(.str "if"),(.str "is"),(.str "some"),(.str "all"),(.str "for"),(.str "against")])] [] 1 S_z0
def S_z1:S:=(.seq (.ret (.bin .Mod (.bin .Mult (.bin .Add (.bin .Add (.bin .Mod (.var 0) (.bin .Pow (.int 10) (.int 15))) (.bin .Mult (.bin .Mult (.int 104729) (.var 1)) (.var 1))) (.int 11)) (.int 48271)) (.int 2147483647))) .nil)
def F_z1:Fn:=runD [] [] 2 S_z1
def S_z2:S:=(.seq (.ifS (.tv (.cmp .In (.var 0) (.lst (.cons (.str "and") (.cons (.str "or") (.cons (.str "not") (.cons (.str "if") (.cons (.str "is") (.cons (.str "some") (.cons (.str "all") (.cons (.str "for") (.cons (.str "against") .nil))))))))))))
 (.seq (.ret (.bin .Add (.var 0) (.str "x")))
 .nil)
 .nil)
 (.seq (.ret (.var 0))
 .nil))
def F_z2:Fn:=runD [] [] 1 S_z2
def S_z3:S:=(.seq (.asg (.nm 1) (.str "bcdefghjklmnpqrstuvwxyz"))
 (.seq (.asg (.nm 2) (.call 1 "_law_mixed" (.cons (.var 0) (.cons (.int 0) .nil))))
 (.seq (.asg (.nm 3) (.bin .Mod (.var 2) (.int 11)))
 (.seq (.asg (.nm 4) (.mt "join" (.str "") (.cons (.comp 1 [1,2] ["_law_k","_law_letters","_law_number"] (.nm 0) (.rng (.cons (.var 3) .nil)) .nil (.ix (.var 1) (.bin .Mod (.bin .Add (.bin .FloorDiv (.var 2) (.int 11)) (.bin .Mult (.bin .Mult (.int 5) (.var 0)) (.var 0))) (.int 23)))) .nil)))
 (.seq (.asg (.nm 5) (.bin .Mod (.bin .FloorDiv (.var 2) (.int 253)) (.bin .Add (.var 3) (.int 1))))
 (.seq (.asg (.nm 6) (.comp 1 [1,2] ["_law_k","_law_letters","_law_number"] (.nm 0) (.rng (.cons (.int 23) .nil)) .nil (.ix (.var 1) (.bin .Mod (.bin .Add (.bin .FloorDiv (.var 2) (.int 7)) (.bin .Mult (.int 3) (.var 0))) (.int 23)))))
 (.seq (.ifS (.tv (.cmp .Eq (.bin .Mod (.var 0) (.int 2)) (.int 1)))
 (.seq (.asg (.nm 1) (.str "abcdefghijklmnopqrstuvwxyz"))
 (.seq (.asg (.nm 2) (.bin .FloorDiv (.var 0) (.int 2)))
 (.seq (.asg (.nm 3) (.bin .Mod (.var 2) (.int 11)))
 (.seq (.asg (.nm 5) (.bin .Mod (.bin .FloorDiv (.var 2) (.int 11)) (.bin .Add (.var 3) (.int 1))))
 (.seq (.asg (.nm 6) (.comp 1 [1,2] ["_law_k","_law_letters","_law_number"] (.nm 0) (.rng (.cons (.int 23) .nil)) .nil (.ix (.var 1) (.bin .Mod (.bin .Add (.bin .FloorDiv (.var 2) (.int 132)) (.bin .Mult (.int 3) (.var 0))) (.int 26)))))
 (.seq (.asg (.nm 2) (.bin .FloorDiv (.var 2) (.int 3432)))
 (.seq (.asg (.nm 4) (.str ""))
 (.seq (.for_ (.nm 7) (.rng (.cons (.var 3) .nil))
 (.seq (.asg (.nm 4) (.bin .Add (.var 4) (.ix (.var 1) (.bin .Mod (.var 2) (.int 26)))))
 (.seq (.asg (.nm 2) (.bin .FloorDiv (.var 2) (.int 26)))
 .nil)))
 .nil))))))))
 .nil)
 (.seq (.asg (.nm 8) (.comp 1 [4,5] ["_law_sign","_law_stem","_law_at"] (.nm 0) (.tv (.var 6)) .nil (.call 0 "_law_good_name" (.cons (.bin .Add (.bin .Add (.sl (.var 1) .nil (.tv (.var 2))) (.var 0)) (.sl (.var 1) (.tv (.var 2)) .nil)) .nil))))
 (.seq (.ret (.bin .Add (.var 8) (.comp 1 [] ["_law_name"] (.nm 0) (.tv (.sl (.var 8) .nil (.tv (.int 4)))) .nil (.bin .Add (.var 0) (.str "x")))))
 .nil)))))))))
def F_z3:Fn:=runD [] [F_z2,F_z1] 9 S_z3
def S_z4:S:=(.seq (.ifS (.tv (.isT (.var 1) ["str"]))
 (.seq (.ret (.and (.isT (.var 0) ["str"]) (.cmp .Eq (.var 0) (.var 1))))
 .nil)
 .nil)
 (.seq (.ifS (.tv (.isT (.var 1) ["int"]))
 (.seq (.ret (.and (.isT (.var 0) ["int"]) (.and (.not (.isT (.var 0) ["bool"])) (.cmp .Eq (.var 0) (.var 1)))))
 .nil)
 .nil)
 (.seq (.ifS (.or (.tv (.cmp .NotEq (.isT (.var 1) ["tuple"]) (.isT (.var 0) ["tuple"]))) (.tv (.cmp .NotEq (.isT (.var 1) ["list"]) (.isT (.var 0) ["list"]))))
 (.seq (.ret (.bl false))
 .nil)
 .nil)
 (.seq (.ifS (.tv (.cmp .NotEq (.bi "len" (.cons (.var 0) .nil)) (.bi "len" (.cons (.var 1) .nil))))
 (.seq (.ret (.bl false))
 .nil)
 .nil)
 (.seq (.for_ (.tp [2,3]) (.zip (.var 0) (.var 1))
 (.seq (.ifS (.not (.tv (.call 0 "_law_alike" (.cons (.var 2) (.cons (.var 3) .nil)))))
 (.seq (.ret (.bl false))
 .nil)
 .nil)
 .nil))
 (.seq (.ret (.bl true))
 .nil))))))
def S_z5:S:=(.seq .bad (.seq .bad (.seq .bad (.seq .bad (.seq .bad (.seq .bad .nil))))))
def F_z4:Nat->Fn
 |0=>runD [] [] 4 S_z5
 |k+1=>runD [] [F_z4 k] 4 S_z4
def S_z6:S:=(.seq (.asg (.nm 4) (.call 0 "_law_mixed" (.cons (.var 0) (.cons (.bin .Add (.var 1) (.int 1)) .nil))))
 (.seq (.ifS (.and (.tv (.var 3)) (.tv (.cmp .Eq (.bin .Mod (.var 4) (.int 9)) (.int 1))))
 (.seq (.asg (.nm 5) (.lst (.cons (.str "") (.cons (.str "fact") (.cons (.str "fact ") (.cons (.bin .Add (.str " fact ") (.ix (.var 2) (.var 1))) (.cons (.bin .Add (.str "fact  ") (.ix (.var 2) (.var 1))) (.cons (.bin .Add (.bin .Add (.str "fact ") (.ix (.var 2) (.var 1))) (.str " ")) .nil))))))))
 (.seq (.mut "append" 5 (.cons (.bin .Add (.str "Fact ") (.ix (.var 2) (.var 1))) .nil))
 (.seq (.asg (.nm 5) (.bin .Add (.var 5) (.lst (.cons (.str "fact not") (.cons (.bin .Add (.str "fact ") (.upr (.ix (.var 2) (.var 1)))) (.cons (.bin .Add (.str "facts ") (.ix (.var 2) (.var 1))) (.cons (.ix (.var 2) (.var 1)) (.cons (.bin .Add (.bin .Add (.str "fact ") (.ix (.var 2) (.var 1))) (.str "3")) .nil))))))))
 (.seq (.ret (.ix (.bin .Add (.var 5) (.lst (.cons (.bin .Add (.bin .Add (.bin .Add (.str "fact ") (.ix (.var 2) (.var 1))) (.str " ")) (.ix (.var 2) (.int 0))) (.cons (.str "fact against") .nil)))) (.bin .Mod (.bin .FloorDiv (.var 4) (.int 9)) (.int 14))))
 .nil))))
 .nil)
 (.seq (.ifS (.and (.tv (.var 3)) (.and (.tv (.cmp .Eq (.bin .Mod (.var 4) (.int 9)) (.int 2))) (.tv (.cmp .Gt (.var 1) (.int 0)))))
 (.seq (.ret (.bin .Add (.str "fact ") (.ix (.var 2) (.bin .Mod (.bin .FloorDiv (.var 4) (.int 9)) (.var 1)))))
 .nil)
 .nil)
 (.seq (.ifS (.and (.tv (.var 3)) (.tv (.cmp .Eq (.bin .Mod (.var 4) (.int 9)) (.int 3))))
 (.seq (.asg (.nm 6) (.lst (.cons (.str "fact") (.cons (.str "open") (.cons (.str "word") (.cons (.str "claim") (.cons (.str "act") (.cons (.str "court") (.cons (.str "under") (.cons (.str "judge") (.cons (.str "bound") (.cons (.str "stands") (.cons (.str "must") (.cons (.str "none") .nil))))))))))))))
 (.seq (.ret (.bin .Add (.str "fact ") (.ix (.bin .Add (.var 6) (.lst (.cons (.str "free") .nil))) (.bin .Mod (.bin .FloorDiv (.var 4) (.int 9)) (.int 13)))))
 .nil))
 .nil)
 (.seq (.ret (.bin .Add (.str "fact ") (.ix (.var 2) (.var 1))))
 .nil)))))
def F_z6:Fn:=runD [] [F_z1] 7 S_z6
def S_z7:S:=(.seq (.for_ (.nm 1) (.tv (.var 0))
 (.seq (.ifS (.tv (.cmp .NotIn (.var 1) (.str "abcdefghijklmnopqrstuvwxyz")))
 (.seq (.ret (.bl false))
 .nil)
 .nil)
 .nil))
 (.seq (.ifS (.tv (.cmp .In (.var 0) (.lst (.cons (.str "and") (.cons (.str "or") (.cons (.str "not") (.cons (.str "if") (.cons (.str "is") (.cons (.str "some") (.cons (.str "all") (.cons (.str "for") (.cons (.str "against") .nil))))))))))))
 (.seq (.ret (.bl false))
 .nil)
 .nil)
 (.seq (.ret (.chain .LtE .LtE (.int 1) (.bi "len" (.cons (.var 0) .nil)) (.int 12)))
 .nil)))
def F_z7:Fn:=runD [] [] 2 S_z7
def S_z8:S:=(.seq (.asg (.nm 1) (.lst .nil))
 (.seq (.asg (.nm 2) (.lst .nil))
 (.seq (.for_ (.nm 3) (.rng (.cons (.bi "len" (.cons (.var 0) .nil)) .nil))
 (.seq (.asg (.nm 4) (.spl (.ix (.var 0) (.var 3)) (.str " ")))
 (.seq (.ifS (.or (.tv (.cmp .NotEq (.bi "len" (.cons (.var 4) .nil)) (.int 2))) (.or (.tv (.cmp .NotEq (.ix (.var 4) (.int 0)) (.str "fact"))) (.or (.tv (.cmp .Eq (.var 3) (.int 24))) (.not (.tv (.call 0 "_law_is_name" (.cons (.ix (.var 4) (.int 1)) .nil)))))))
 (.seq (.ret (.tup (.cons (.str "row") (.cons (.var 3) .nil))))
 .nil)
 .nil)
 (.seq (.ifS (.tv (.cmp .In (.ix (.var 4) (.int 1)) (.var 2)))
 (.seq (.ret (.tup (.cons (.str "twice") (.cons (.ix (.var 4) (.int 1)) .nil))))
 .nil)
 .nil)
 (.seq (.mut "append" 2 (.cons (.ix (.var 4) (.int 1)) .nil))
 (.seq (.mut "append" 1 (.cons (.tup (.cons (.str "fact") (.cons (.ix (.var 4) (.int 1)) .nil))) .nil))
 .nil))))))
 (.seq (.ret (.var 1))
 .nil))))
def F_z8:Fn:=runD [] [F_z7] 5 S_z8
theorem zqz {a b:Str}(h:a.cps.toList=b.cps.toList):a=b:=by
 cases a with
 |mk x=>
  cases b with
  |mk y=>rw[show x=y from sw h]
theorem zjh (a b:Str):(a++b).cps.toList=a.cps.toList++b.cps.toList:=by show(a.cps++b.cps).toList=_;rw[pb]
theorem zbx (z:Str)(ss:List Str):(z17 z ss).cps.toList=z2h z.cps.toList ss:=by show(z2h z.cps.toList ss).toArray.toList=_;rw[jx]
theorem zhh (z:Str):z.length=z.cps.toList.length:=by rw[dh];rfl
theorem zg4 {a b:Str}(h:a.length+b.length<=100000):binD .Add (.str a) (.str b)=.ok (.str (a++b)):=by show(if a.length+b.length<=LIM then _ else _)=_;rw[if_pos (by unfold LIM;omega)]
theorem v_add {Κ:List D}{Φ:List Fn}{ρ:Rho}{s t:C}{a b:Str}(ha:Ev Κ Φ s ρ (.str a))(hb:Ev Κ Φ t ρ (.str b))(h:a.length+b.length<=100000):Vv Κ Φ (.bin .Add s t) ρ (.str (a++b)):=z0c ha hb (zg4 h) rfl
theorem z79:∀(ss:List Str),allS (ss.map .str)=some ss
 | []=>rfl
 |b::bs=>by rw[bn];show(allS (bs.map .str)).map (b:: ·)=_;rw[z79 bs];rfl
theorem zcq {z:Str}{ss:List Str}(h:z6j z ss<=LIM):mtD "join" (.str z) [.list (ss.map .str)]=.ok (.str (z17 z ss)):=by
 show(match allS (ss.map .str)with|some ss=>if z6j z ss<=LIM then Res.ok (PyData.str (z17 z ss))else .no|none=>.no)=_;rw[z79]
 dsimp only
 rw[if_pos h]
theorem zj1 {Κ:List D}{Φ:List Fn}{ρ:Rho}{t:C}{i j:Int}(h:Ev Κ Φ t ρ (.int i)):Tt Κ Φ (.tv (.cmp .Eq t (.int j))) ρ (decide (i=j)):=t_tv (z1n (k:=decide (i=j)) h z0a.e (by show Res.ok (eqD (.int _) (.int _))=_;rw[zid])).e rfl
theorem znl {a b:Int}(h:0<b)(h2:b<2 ^ 200):binD .FloorDiv (.int a) (.int b)=.ok (.int (a/b)):=by show(if _ then _ else _)=_;rw[if_pos ⟨h,h2⟩]
theorem zck (cs:List Int):biD "len" [.list (cs.map .int)]=.ok (.int (cs.length:Int)):=by show Res.ok (PyData.int ((cs.map PyData.int).length:Int))=_;rw[av]
theorem zha {α β:Type}(f:α->β)(xs:List α)(i j:Option Int):cut (xs.map f) i j=(cut xs i j).map f:=by unfold cut;rw[av,List.map_take,List.map_drop]
def Nx (I:Rho->Prop)(z:Res Out):Prop:=∃ρ',z=.ok (.nx ρ')/\I ρ'
theorem zkx {β:Type}{m:β->D}(h:∀x,imm (m x)=true)(xs:List β):imms (xs.map m)=true:=z2t.mpr fun x hx=>by obtain⟨p,_,rfl⟩:=ci.mp hx;exact h p
theorem z9j {β:Type}{f:D->Rho->Res Out}{m:β->D}{Q:Res Out->Prop}(I:List β->Rho->Prop):∀(xs pre:List β) (ρ:Rho),(∀pr' x post ρ,pre++xs=pr'++x::post->I pr' ρ->(∃ρ',f (m x) ρ=.ok (.nx ρ')/\I (pr'++[x]) ρ')\/∃g d,f (m x) ρ=.ok (.rt g d)/\Q (.ok (.rt g d)))->I pre ρ->(∃ρ',forD f (xs.map m) ρ=.ok (.nx ρ')/\I (pre++xs) ρ')\/∃g d,forD f (xs.map m) ρ=.ok (.rt g d)/\Q (.ok (.rt g d))
 | [],pre,ρ,_,h=>.inl ⟨ρ,rfl,by rw[dj];exact h⟩
 |x::xs,pre,ρ,hf,h=>by
  rcases hf pre x xs ρ rfl h with⟨ρ',e,h'⟩|⟨g,d,e,q⟩
  ·have e2:pre++x::xs=(pre++[x])++xs:=by simp
   rcases z9j I xs (pre++[x]) ρ' (fun a b c r hh=>hf a b c r (e2.trans hh)) h' with⟨ρ2,e3,h3⟩|⟨g,d,e3,q⟩
   ·exact .inl ⟨ρ2,by rw[bn];show(match f (m x) ρ with|.ok (.nx ρ')=>forD f (xs.map m) ρ'|.ok (.ct ρ')=>forD f (xs.map m) ρ'|.ok (.bk ρ')=>.ok (.nx ρ')|.ok (.rt g d)=>.ok (.rt g d)|.exc e=>.exc e|.no=>.no)=_;rw[e];exact e3,by rw[e2];exact h3⟩
   ·exact .inr ⟨g,d,by rw[bn];show(match f (m x) ρ with|.ok (.nx ρ')=>forD f (xs.map m) ρ'|.ok (.ct ρ')=>forD f (xs.map m) ρ'|.ok (.bk ρ')=>.ok (.nx ρ')|.ok (.rt g d)=>.ok (.rt g d)|.exc e=>.exc e|.no=>.no)=_;rw[e];exact e3,q⟩
  ·exact .inr ⟨g,d,by rw[bn];show(match f (m x) ρ with|.ok (.nx ρ')=>forD f (xs.map m) ρ'|.ok (.ct ρ')=>forD f (xs.map m) ρ'|.ok (.bk ρ')=>.ok (.nx ρ')|.ok (.rt g d)=>.ok (.rt g d)|.exc e=>.exc e|.no=>.no)=_;rw[e],q⟩
theorem zi3 {Κ:List D}{Φ:List Fn}{ρ:Rho}{g:G}{Q:Res Out->Prop}{β:Type}{t':Tg}{it:C}{p rest:S}{m:β->D}{xs:List β}{ρ1:Rho}(h:evF Κ Φ it ρ=.ok (g,xs.map m,ρ1))(I:List β->Rho->Prop)(h0:I [] ρ1)
  (hf:∀pre x post ρ,xs=pre++x::post->I pre ρ->∃ρ2,z0x t' (gJ (m x) g,m x) ρ=.ok ρ2/\(Nx (I (pre++[x])) (evS Κ Φ p ρ2)\/∃g d,evS Κ Φ p ρ2=.ok (.rt g d)/\Q (.ok (.rt g d)))) (hk:∀ρ',I xs ρ'->Q (evS Κ Φ rest ρ')):Q (evS Κ Φ (.seq (.for_ t' it p) rest) ρ):=by
 rcases z9j (f:=fun x ρ1=>z0x t' (gJ x g,x) ρ1>>=fun ρ2=>evS Κ Φ p ρ2) (m:=m) (Q:=Q) I xs [] ρ1 (fun pre x post ρ hx hI=>by
  obtain⟨ρ2,e,hh⟩:=hf pre x post ρ hx hI;rcases hh with⟨ρ',h1,h2⟩|⟨g',d,h1,h2⟩
  ·exact .inl ⟨ρ',by rw[e,Res.ok_bind,h1],h2⟩
  ·exact .inr ⟨g',d,by rw[e,Res.ok_bind,h1],h2⟩) h0 with⟨ρ',e,i⟩|⟨g',d,e,q⟩
 ·rw[z0v (zan h e) rfl];exact hk ρ' i
 ·rw[z0p (zan h e)];exact q
theorem zmv {α:Type}{xs:List α}{x:α×Nat}(h:x∈xs.zipIdx):xs[x.2]?=some x.1:=List.mem_zipIdx_iff_getElem?.mp h
def gnb (w:Str):Bool:=([.str "and",.str "or",.str "not",.str "if",.str "is",.str "some",.str "all",.str "for",.str "against"]:List D).any fun y=>eqD y (.str w)
def gn (w:Str):Str:=if gnb w then w++"x"else w
theorem zkv {w:Str}(h:w.length<=100):F_z2 [.str w]=.ok (.fr,.str (gn w)):=by
 unfold F_z2;refine z1m ?_;unfold S_z2;have hc:Tt [] [] (.tv (.cmp .In (.var 0) (.lst (.cons (.str "and") (.cons (.str "or") (.cons (.str "not") (.cons (.str "if") (.cons (.str "is") (.cons (.str "some") (.cons (.str "all") (.cons (.str "for") (.cons (.str "against") .nil)))))))))))) [some (.od,.str w)] (gnb w):=t_tv (z1n (z03 rfl) (Ev.of (z3m (by(repeat' first|exact zhl|exact zht|exact zh8|exact z0a|exact z0d|exact v_bl|exact zol|exact z15|exact z0h|exact z6i|exact z8e|(apply z03;rfl)|(apply v_var;rfl;first|assumption|exact zel _|rfl)|apply z05|apply z09|apply z0c|apply z1n|apply v_ix|apply v_bi|apply v_mt|apply z2i|apply z8o|apply z8u|apply t_tv|apply z8i|apply Vv.e|exact zcb _ _|exact zo9 _ _|exact zqn _ _|assumption|exact zel _|rfl)))) rfl).e rfl;unfold gn;cases hk:gnb w with
 |true=>refine z19 hc hk (z0p (z0y (z0c (z03 rfl) z0d.e (add_str (by have:("x":Str).length=1:=rfl;omega)) rfl)))
 |false=>exact z1j hc hk (z0p (z0y (v_var rfl rfl)))
theorem zjp (w:Str):(gn w).length<=w.length+1:=by
 unfold gn;split
 ·rw[z0g];exact aj _
 ·exact km _
theorem z6l:("abcdefghijklmnopqrstuvwxyz":Str).length=26:=rfl
theorem z6g:("bcdefghjklmnpqrstuvwxyz":Str).length=23:=rfl
def p1 (c:Nat):Bool:=decide (97<=c)&&decide (c<=122)
def p2 (c:Nat):Bool:=p1 c&& !(c==97)&& !(c==105)&& !(c==111)
def Ch (p:Nat->Bool)(w:Str):Prop:=∀c∈w.cps.toList,p c=true
theorem Ch.app {p:Nat->Bool}{a b:Str}(ha:Ch p a)(hb:Ch p b):Ch p (a++b):=fun c hc=>by
 have hc':c∈(a.cps++b.cps).toList:=hc;rw[pb]at hc';rcases dz.mp hc' with h|h
 ·exact ha c h
 ·exact hb c h
theorem Ch.sl {p:Nat->Bool}{a:Str}(ha:Ch p a)(i j:Option Int):Ch p (z12 a i j):=fun c hc=>by
 have hc':c∈cut a.cps.toList i j:=by have h0:c∈(cut a.cps.toList i j).toArray.toList:=hc;simpa using h0
 exact ha c (lp (lq hc'))
theorem Ch.chr {p:Nat->Bool}{z:Str}{i:Int}(h:Ch p z)(h0:0<=i)(h1:i<z.length):Ch p (Mk.chr z i):=fun c hc=>by have hc':c∈[z.cps.toList.getD i.toNat 0]:=hc;rw[ce.mp hc'];refine h _ (getD_mem h0 ?_);rw[dh];exact h1
theorem Ch.weak {p q:Nat->Bool}{z:Str}(h:Ch p z)(hq:∀c,p c=true->q c=true):Ch q z:=fun c hc=>hq c (h c hc)
theorem Ch.nil {p:Nat->Bool}:Ch p "":=fun c hc=>by have hc':c∈([]:List Nat):=hc;cases hc'
theorem p21 (c:Nat)(h:p2 c=true):p1 c=true:=by unfold p2 at h;rw[aw,aw,aw]at h;exact h.1.1.1
theorem Ch.join {p:Nat->Bool}{ss:List Str}(h:∀s∈ss,Ch p s):Ch p (z17 "" ss):=fun c hc=>by
 have hc':c∈(z2h ("":Str).cps.toList ss).toArray.toList:=hc;rw[jx]at hc';cases ss with
 |nil=>cases hc'
 |cons x r=>
  simp only[z2h,dz,nh,ci]at hc';rcases hc' with hc'|⟨l,⟨y,hy,rfl⟩,hc'⟩
  ·exact h x ai c hc'
  ·rcases dz.mp hc' with hc'|hc'
   ·cases(show c∈([]:List Nat)from hc')
   ·exact h y (ah _ hy) c hc'
theorem zem:Ch p1 "abcdefghijklmnopqrstuvwxyz":=by
 have h:(("abcdefghijklmnopqrstuvwxyz":Str).cps.toList.all p1)=true:=by decide+kernel
 exact fun c hc=>bp.mp h c hc
theorem zlk:Ch p2 "bcdefghjklmnpqrstuvwxyz":=by
 have h:(("bcdefghjklmnpqrstuvwxyz":Str).cps.toList.all p2)=true:=by decide+kernel
 exact fun c hc=>bp.mp h c hc
def kws:List Str:=["and","or","not","if","is","some","all","for","against"]
theorem zag (z:Str){i:Int}(h:0<=i):(z12 z none (some i)).length+(z12 z (some i) none).length=z.length:=by
 have hn:z.cps.toList.length=z.length:=by simp[Str.length]
 have e:∀(a b:Option Int),(z12 z a b).length=(cut z.cps.toList a b).length:=fun a b=>by show((cut z.cps.toList a b).toArray).size=_;rw[ao]
 rw[e,e];unfold cut;rw[hn];simp only[Mi.sIx,if_neg (show ¬i<0 by omega),f8,gq,hn];omega
theorem zmw {β:Type}{Κ:List D}{Φ:List Fn}{ρ:Rho}{a b c:C}{m:β->D}{xs:List β}{i j:Option Int}(hm:∀x,imm (m x)=true)(ha:Ev Κ Φ a ρ (.list (xs.map m)))(hb:Oo Κ Φ b ρ i)(hc:Oo Κ Φ c ρ j):evE Κ Φ (.sl a b c) ρ=.ok (.fr,.list ((cut xs i j).map m)):=by
 obtain⟨g1,ha⟩:=ha;unfold Oo at hb hc;rw[E_sl,ha,Res.ok_bind,hb,Res.ok_bind,hc,Res.ok_bind]
 dsimp only
 rw[show slD (.list (xs.map m)) i j=.ok (.list (cut (xs.map m) i j))from rfl,Res.ok_bind,zha];show Res.ok (if imms ((cut xs i j).map m)=true then G.fr else _,_)=_;rw[if_pos (zkx hm _)]
theorem x_ch:Ch p1 ("x":Str):=fun c hc=>by have hc':c∈[120]:=hc;rw[ce.mp hc'];rfl
theorem zoe {w:Str}(h:Ch p1 w):Ch p1 (gn w):=by
 unfold gn;split
 ·exact h.app x_ch
 ·exact h
theorem zfu:Ch p1 "bcdefghjklmnpqrstuvwxyz":=zlk.weak p21
theorem zdy (c:Int):∃n,0<=n/\F_z1 [.int c,.int 0]=.ok (.fr,.int n):=by refine⟨(c%1000000000000000+104729*0*0+11)*48271%2147483647,by omega,?_⟩;unfold F_z1;refine z1m ?_;unfold S_z1;exact z0p (z0y (z0c (z0c (z0c (z0c (z0c (z03 rfl) (z0c (d:=.int 1000000000000000) z0a.e z0a.e rfl rfl).e (z1h (by decide)) rfl).e (z0c (z0c z0a.e (z03 rfl) (zcl (by decide)) rfl).e (z03 rfl) (zbv (by decide)) rfl).e rfl rfl).e z0a.e rfl rfl).e z0a.e (zbv (by decide)) rfl).e z0a.e (z1h (by decide)) rfl))
def Ns (n:Nat)(ns:List Str):Prop:=ns.length=n/\∀w∈ns,w.length<=14/\Ch p1 w
theorem z76 {c:Int}{u1 u2 u3 u7:Option GD}{stem:Str}{at':Int}{ss:List Str}(hs:stem.length<=10)(h0:0<=at')(hl:ss.length=23)(h1:∀s∈ss,s.length=1/\Ch p1 s)(hch:Ch p1 stem):
  ∃ns,Ns 27 ns/\evS [] [F_z2,F_z1] (.seq (.asg (.nm 8) (.comp 1 [4,5] ["_law_sign","_law_stem","_law_at"] (.nm 0) (.tv (.var 6)) .nil (.call 0 "_law_good_name" (.cons (.bin .Add (.bin .Add (.sl (.var 1) .nil (.tv (.var 2))) (.var 0)) (.sl (.var 1) (.tv (.var 2)) .nil)) .nil))))
 (.seq (.ret (.bin .Add (.var 8) (.comp 1 [] ["_law_name"] (.nm 0) (.tv (.sl (.var 8) .nil (.tv (.int 4)))) .nil (.bin .Add (.var 0) (.str "x")))))
 .nil)) [some (.od,.int c),u1,u2,u3,some (.al,.str stem),some (.al,.int at'),some (.fr,.list (ss.map .str)),u7,none]=.ok (.rt .fr (.list (ns.map .str))):=by
 have hc:=zag stem h0
 let w:Str->Str:=fun s=>z12 stem none (some at')++s++z12 stem (some at') none
 have hw:∀s∈ss,(w s).length<=11:=fun s hs'=>by show(z12 stem none (some at')++s++z12 stem (some at') none).length<=11;rw[z0g,z0g,(h1 s hs').1];omega
 have ec:=z3u (Κ:=[]) (Φ:=[F_z2,F_z1]) (ρ:=[some (.od,.int c),u1,u2,u3,some (.al,.str stem),some (.al,.int at'),some (.fr,.list (ss.map .str)),u7,none]) (nt:=1) (js:=[4,5]) (N':=["_law_sign","_law_stem","_law_at"]) (tg:=.nm 0) (it:=.tv (.var 6)) (cond:=.nil) (elt:=.call 0 "_law_good_name" (.cons (.bin .Add (.bin .Add (.sl (.var 1) .nil (.tv (.var 2))) (.var 0)) (.sl (.var 1) (.tv (.var 2)) .nil)) .nil)) (m:=PyData.str) (xs:=ss) (w:=(.al,ss.map .str)) (fun _=>true) (fun s=>.str (gn (w s))) (w_tv (g:=.al) (x:=.list (ss.map .str)) rfl rfl) rfl (fun s=>[some (.al,.str s),some (.al,.str stem),some (.al,.int at')]) (fun s _=>rfl) (fun s _=>z6i) (fun s hx _=>z1r (z09 (v_add (v_add (v_sl (z03 rfl) z8e (z8u (z03 rfl)) (z7w (by omega)) rfl).e (z03 rfl) (by have:=(h1 s hx).1;omega)).e (v_sl (z03 rfl) (z8u (z03 rfl)) z8e (z7w (by omega)) rfl).e (by rw[z0g];have:=(h1 s hx).1;omega)).e z0h) rfl (zkv (bw (hw s hx) (by decide))) rfl);rw[gk.mpr fun _ _=>rfl]at ec;have e8:(ss.map fun s=>PyData.str (gn (w s)))=(ss.map fun s=>gn (w s)).map .str:=by rw[dw];rfl
 rw[e8]at ec;have hn8:∀v∈ss.map (fun s=>gn (w s)),v.length<=12/\Ch p1 v:=fun v hv=>by obtain⟨s,hs',rfl⟩:=ci.mp hv;have:=hw s hs';have:=zjp (w s);exact⟨by omega,zoe (((hch.sl _ _).app (h1 s hs').2).app (hch.sl _ _))⟩
 have hl8:(ss.map fun s=>gn (w s)).length=23:=by rw[av];exact hl
 generalize (ss.map fun s=>gn (w s))=ns at ec hn8 hl8;have hcl:(cut ns none (some 4)).length=4:=by unfold cut;simp only[Mi.sIx,if_neg (show ¬(4:Int)<0 by omega),f8,gq,hl8];omega
 have hcm:∀v∈cut ns none (some 4),v∈ns:=fun v hv=>lp (lq hv);have ex:=z3u (Κ:=[]) (Φ:=[F_z2,F_z1]) (ρ:=[some (.od,.int c),u1,u2,u3,some (.al,.str stem),some (.al,.int at'),some (.fr,.list (ss.map .str)),u7,some (.fr,.list (ns.map .str))]) (nt:=1) (js:=[]) (N':=["_law_name"]) (tg:=.nm 0) (it:=.tv (.sl (.var 8) .nil (.tv (.int 4)))) (cond:=.nil) (elt:=.bin .Add (.var 0) (.str "x")) (m:=PyData.str) (xs:=cut ns none (some 4)) (fun _=>true) (fun v=>.str (v++"x")) (w_tv (zmw (m:=PyData.str) (xs:=ns) (fun _=>rfl) (z03 rfl) z8e (z8u z0a.e)) rfl) rfl (fun v=>[some (.al,.str v)]) (fun v _=>rfl) (fun v _=>z6i) (fun v hx _=>v_add (z03 rfl) z0d.e (by have:=hn8 v (hcm v hx);have:("x":Str).length=1:=rfl;omega));rw[gk.mpr fun _ _=>rfl]at ex;have e9:((cut ns none (some 4)).map fun v=>PyData.str (v++"x"))=((cut ns none (some 4)).map fun(v:Str)=>v++"x").map .str:=by rw[dw];rfl
 rw[e9]at ex;refine⟨ns++(cut ns none (some 4)).map fun(v:Str)=>v++"x",⟨by rw[br,av,hl8,hcl],fun v hv=>?_⟩,z0v (z1k ec (z0f _)) (z0p (zjw (fun i z=>by cases z) (zdi (z03 rfl) (Ev.of ex) (by rw[add_list (by simp only[av];omega),<-j7]) (z0f _))))⟩;rcases dz.mp hv with h|h
 ·have:=hn8 v h;exact⟨by omega,this.2⟩
 ·obtain⟨z,hz,rfl⟩:=ci.mp h;have:=hn8 z (hcm z hz);refine⟨?_,this.2.app x_ch⟩;rw[z0g];have:("x":Str).length=1:=rfl;omega
theorem sgn {Φ:List Fn}{ρ:Rho}{z:Str}{n:Int}{b:Int}{m:Int}(hz:z.length=b.toNat)(hcz:Ch p1 z)(hb:0<b/\b<=100)(h1:ρ[1]?=some (some (.al,.str z)))(h2:ρ[2]?=some (some (.al,.int n)))(hm:0<m/\m<2 ^ 200):∃ss:List Str,(ss.length=23/\∀s∈ss,s.length=1/\Ch p1 s)/\evE [] Φ (.comp 1 [1,2] ["_law_k","_law_letters","_law_number"] (.nm 0) (.rng (.cons (.int 23) .nil)) .nil (.ix (.var 1) (.bin .Mod (.bin .Add (.bin .FloorDiv (.var 2) (.int m)) (.bin .Mult (.int 3) (.var 0))) (.int b)))) ρ=.ok (.fr,.list (ss.map .str)):=by
 have ec:=z3u (Κ:=[]) (Φ:=Φ) (ρ:=ρ) (nt:=1) (js:=[1,2]) (N':=["_law_k","_law_letters","_law_number"]) (tg:=.nm 0) (it:=.rng (.cons (.int 23) .nil)) (cond:=.nil) (elt:=.ix (.var 1) (.bin .Mod (.bin .Add (.bin .FloorDiv (.var 2) (.int m)) (.bin .Mult (.int 3) (.var 0))) (.int b))) (m:=fun i:Nat=>PyData.int i) (xs:=dv 23) (w:=(.fr,_)) (fun _=>true) (fun k=>.str (chr z ((n/m+3*(k:Int))%b))) (zi6 (z09 z0a.e z0h) (zc8 (by omega) (by omega))) rfl (fun k=>[some (.al,.int k),some (.al,.str z),some (.al,.int n)]) (fun k _=>by
   show z0x (.nm 0) _ ([none]++[toAl (ρ.getD 1 none),toAl (ρ.getD 2 none)])=_;rw[am,am,h1,h2];rfl) (fun k _=>z6i)
  (fun k hk _=>v_ix (z03 rfl) (z0c (z0c (z0c (z03 rfl) z0a.e (znl hm.1 hm.2) rfl).e (z0c z0a.e (z03 rfl) (zcl (by decide)) rfl).e rfl rfl).e z0a.e (z1h hb.1) rfl).e (z4r (fm _ (by omega)) (by have:=g9 (n/m+3*(k:Int)) hb.1;rw[hz];omega) (by rw[hz];omega)) rfl)
 rw[gk.mpr fun _ _=>rfl]at ec;refine⟨(dv 23).map fun(k:Nat)=>chr z ((n/m+3*(k:Int))%b),⟨by rw[av,gc],fun s hs=>?_⟩,?_⟩
 ·obtain⟨k,_,rfl⟩:=ci.mp hs;exact⟨rfl,hcz.chr (fm _ (by omega)) (by have:=g9 (n/m+3*(k:Int)) hb.1;rw[hz];omega)⟩
 ·rw[ec,dw];rfl
theorem zis {Κ:List D}{Φ:List Fn}{ρ ρ':Rho}{Q:Res Out->Prop}{p rest:S}{c:C}{k:Bool}(hc:Tt Κ Φ c ρ k)(hk:k=true)(h:evS Κ Φ p ρ=.ok (.nx ρ'))(h2:Q (evS Κ Φ rest ρ')):Q (evS Κ Φ (.seq (.ifS c p .nil) rest) ρ):=by rw[zgy hc hk h rfl];exact h2
theorem znf (c:Int):∃ns,Ns 27 ns/\F_z3 [.int c]=.ok (.fr,.list (ns.map .str)):=by
 suffices h:∃ns,Ns 27 ns/\evS [] [F_z2,F_z1] S_z3 [some (.od,.int c),none,none,none,none,none,none,none,none]=.ok (.rt .fr (.list (ns.map .str))) by obtain⟨ns,h1,h2⟩:=h;exact⟨ns,h1,z1m h2⟩
 let Q:Res Out->Prop:=fun r=>∃ns,Ns 27 ns/\r=.ok (.rt .fr (.list (ns.map .str)))
 show Q _;unfold S_z3;obtain⟨n,n0,en⟩:=zdy c;refine q_ok (z0t z0d) (q_ok (z0t (z1r (z09 (z03 rfl) (z09 z0a.e z0h)) rfl en rfl)) (q_ok (z0t (z0c (z03 rfl) z0a.e (z1h (by decide)) rfl)) ?_))
 have ej:=z3u (Κ:=[]) (Φ:=[F_z2,F_z1]) (ρ:=[some (.od,.int c),some (.al,.str "bcdefghjklmnpqrstuvwxyz"),some (.al,.int n),some (.al,.int (n%11)),none,none,none,none,none]) (nt:=1) (js:=[1,2]) (N':=["_law_k","_law_letters","_law_number"]) (tg:=.nm 0) (it:=.rng (.cons (.var 3) .nil)) (cond:=.nil) (elt:=.ix (.var 1) (.bin .Mod (.bin .Add (.bin .FloorDiv (.var 2) (.int 11)) (.bin .Mult (.bin .Mult (.int 5) (.var 0)) (.var 0))) (.int 23))) (m:=fun i:Nat=>PyData.int i) (xs:=dv (n%11).toNat) (w:=(.fr,_)) (fun _=>true) (fun k=>.str (chr "bcdefghjklmnpqrstuvwxyz" ((n/11+5*(k:Int)*k)%23))) (zi6 (z09 (z03 rfl) z0h) (zc8 (by omega) (by omega))) rfl (fun k=>[some (.al,.int k),some (.al,.str "bcdefghjklmnpqrstuvwxyz"),some (.al,.int n)]) (fun k _=>rfl) (fun k _=>z6i)
  (fun k hk _=>by
   have hk':k<1000:=by have:=l7.mp hk;omega
   exact v_ix (z03 rfl) (z0c (z0c (z0c (d:=.int (n/11)) (z03 rfl) z0a.e rfl rfl).e (z0c (z0c z0a.e (z03 rfl) (zcl (by decide)) rfl).e (z03 rfl) (zbv (by omega)) rfl).e rfl rfl).e z0a.e (z1h (by decide)) rfl).e (z4r (by omega) (by rw[z6g];omega) (by rw[z6g];omega)) rfl)
 let ss:List Str:=(dv (n%11).toNat).map fun(k:Nat)=>chr "bcdefghjklmnpqrstuvwxyz" ((n/11+5*(k:Int)*k)%23)
 have hss:∀s∈ss,s.length=1:=fun s h=>by obtain⟨k,_,rfl⟩:=ci.mp h;rfl
 have hsl:ss.length<=10:=by show(qm _ _).length<=10;rw[av,gc];omega
 have ejs:(((dv (n%11).toNat).filter fun _=>true).map fun(k:Nat)=>PyData.str (chr "bcdefghjklmnpqrstuvwxyz" ((n/11+5*(k:Int)*k)%23)))=ss.map .str:=by rw[gk.mpr fun _ _=>rfl];show _=(qm _ _).map PyData.str;rw[dw];rfl
 rw[ejs]at ej;refine q_ok (z0t (v_mt z0d.e (z09 (Ev.of ej) z0h) (zmm hss (by omega)) rfl)) ?_;have hstl:(z17 "" ss).length<=10:=by rw[z5s ss hss];exact hsl
 have hstc:Ch p1 (z17 "" ss):=Ch.join fun s h=>by obtain⟨k,hk,rfl⟩:=ci.mp h;exact zfu.chr (by omega) (by rw[z6g];omega)
 generalize z17 "" ss=stem at hstl hstc;refine q_ok (z0t (z0c (z0c (d:=.int (n/253)) (z03 rfl) z0a.e rfl rfl).e (z0c (z03 rfl) z0a.e rfl rfl).e (z1h (by omega)) rfl)) ?_;have a0:0<=n/253%(n%11+1):=fm _ (by omega);generalize n/253%(n%11+1)=at' at a0;obtain⟨sg,hsg,esg⟩:=sgn (Φ:=[F_z2,F_z1]) (ρ:=[some (.od,.int c),some (.al,.str "bcdefghjklmnpqrstuvwxyz"),some (.al,.int n),some (.al,.int (n%11)),some (.al,.str stem),some (.al,.int at'),none,none,none]) (z:="bcdefghjklmnpqrstuvwxyz") (n:=n) (b:=23) (m:=7) rfl zfu (by decide) rfl rfl (by decide);refine q_ok (z1k esg (z0f _)) ?_;have tc:Tt [] [F_z2,F_z1] (.tv (.cmp .Eq (.bin .Mod (.var 0) (.int 2)) (.int 1))) [some (.od,.int c),some (.al,.str "bcdefghjklmnpqrstuvwxyz"),some (.al,.int n),some (.al,.int (n%11)),some (.al,.str stem),some (.al,.int at'),some (.fr,.list (sg.map .str)),none,none] (decide (c%2=1)):=zj1 (z0c (z03 rfl) z0a.e (z1h (by decide)) rfl).e;by_cases hc:c%2=1
 ·have m0:0<=c/2%11:=by omega
  have m1:c/2%11<11:=by omega
  obtain⟨sh,hsh,esh⟩:=sgn (Φ:=[F_z2,F_z1]) (ρ:=[some (.od,.int c),some (.al,.str "abcdefghijklmnopqrstuvwxyz"),some (.al,.int (c/2)),some (.al,.int (c/2%11)),some (.al,.str stem),some (.al,.int (c/2/11%(c/2%11+1))),some (.fr,.list (sg.map .str)),none,none]) (z:="abcdefghijklmnopqrstuvwxyz") (n:=c/2) (b:=26) (m:=132) rfl zem (by decide) rfl rfl (by decide);have a2:0<=c/2/11%(c/2%11+1):=fm _ (by omega)
  suffices h:∃st u1 u2 u3 u7,(st.length<=10/\Ch p1 st)/\evS [] [F_z2,F_z1] (.seq (.asg (.nm 1) (.str "abcdefghijklmnopqrstuvwxyz"))
 (.seq (.asg (.nm 2) (.bin .FloorDiv (.var 0) (.int 2)))
 (.seq (.asg (.nm 3) (.bin .Mod (.var 2) (.int 11)))
 (.seq (.asg (.nm 5) (.bin .Mod (.bin .FloorDiv (.var 2) (.int 11)) (.bin .Add (.var 3) (.int 1))))
 (.seq (.asg (.nm 6) (.comp 1 [1,2] ["_law_k","_law_letters","_law_number"] (.nm 0) (.rng (.cons (.int 23) .nil)) .nil (.ix (.var 1) (.bin .Mod (.bin .Add (.bin .FloorDiv (.var 2) (.int 132)) (.bin .Mult (.int 3) (.var 0))) (.int 26)))))
 (.seq (.asg (.nm 2) (.bin .FloorDiv (.var 2) (.int 3432)))
 (.seq (.asg (.nm 4) (.str ""))
 (.seq (.for_ (.nm 7) (.rng (.cons (.var 3) .nil))
 (.seq (.asg (.nm 4) (.bin .Add (.var 4) (.ix (.var 1) (.bin .Mod (.var 2) (.int 26)))))
 (.seq (.asg (.nm 2) (.bin .FloorDiv (.var 2) (.int 26)))
 .nil)))
 .nil)))))))) [some (.od,.int c),some (.al,.str "bcdefghjklmnpqrstuvwxyz"),some (.al,.int n),some (.al,.int (n%11)),some (.al,.str stem),some (.al,.int at'),some (.fr,.list (sg.map .str)),none,none]=.ok (.nx [some (.od,.int c),u1,u2,u3,some (.al,.str st),some (.al,.int (c/2/11%(c/2%11+1))),some (.fr,.list (sh.map .str)),u7,none]) by
   obtain⟨st,u1,u2,u3,u7,hst,e⟩:=h;exact zis (Q:=Q) tc (tz hc) e (z76 hst.1 a2 hsh.1 hsh.2 hst.2)
  let P:Res Out->Prop:=fun r=>∃st u1 u2 u3 u7,(st.length<=10/\Ch p1 st)/\r=.ok (.nx [some (.od,.int c),u1,u2,u3,some (.al,.str st),some (.al,.int (c/2/11%(c/2%11+1))),some (.fr,.list (sh.map .str)),u7,none])
  show P _;refine q_ok (z0t z0d) (q_ok (z0t (d:=.int (c/2)) (z0c (z03 rfl) z0a.e rfl rfl)) (q_ok (z0t (z0c (z03 rfl) z0a.e (z1h (by decide)) rfl)) (q_ok (z0t (z0c (z0c (d:=.int (c/2/11)) (z03 rfl) z0a.e rfl rfl).e (z0c (z03 rfl) z0a.e rfl rfl).e (z1h (by omega)) rfl)) (q_ok (z1k esh (z0f _)) (q_ok (z0t (d:=.int (c/2/3432)) (z0c (z03 rfl) z0a.e rfl rfl)) (q_ok (z0t z0d) ?_))))));refine zpa (m:=fun i:Nat=>.int i) (xs:=dv (c/2%11).toNat) (zlz (z09 (z03 rfl) z0h) (zc8 (by omega) (by omega))) (fun pre ρ=>∃q st u7,ρ=[some (.od,.int c),some (.al,.str "abcdefghijklmnopqrstuvwxyz"),some (.al,.int q),some (.al,.int (c/2%11)),some (.al,.str st),some (.al,.int (c/2/11%(c/2%11+1))),some (.fr,.list (sh.map .str)),u7,none]/\st.length=pre.length/\Ch p1 st) ⟨c/2/3432,"",none,rfl,rfl,Ch.nil⟩ ?_ ?_
  ·rintro pre x post ρ hx ⟨q,st,u7,rfl,hl,hch⟩
   have hp:=congrArg qu hx;simp only[gc,br,ay]at hp;have hix:=z4r (z:="abcdefghijklmnopqrstuvwxyz") (i:=q%26) (by omega) (by rw[z6l];omega) (by rw[z6l];omega);have e4:evS [] [F_z2,F_z1] (.asg (.nm 4) (.bin .Add (.var 4) (.ix (.var 1) (.bin .Mod (.var 2) (.int 26))))) [some (.od,.int c),some (.al,.str "abcdefghijklmnopqrstuvwxyz"),some (.al,.int q),some (.al,.int (c/2%11)),some (.al,.str st),some (.al,.int (c/2/11%(c/2%11+1))),some (.fr,.list (sh.map .str)),some (.al,.int x),none]=.ok (.nx [some (.od,.int c),some (.al,.str "abcdefghijklmnopqrstuvwxyz"),some (.al,.int q),some (.al,.int (c/2%11)),some (.al,.str (st++chr "abcdefghijklmnopqrstuvwxyz" (q%26))),some (.al,.int (c/2/11%(c/2%11+1))),some (.fr,.list (sh.map .str)),some (.al,.int x),none]):=z0t (v_add (z03 rfl) (v_ix (z03 rfl) (z0c (z03 rfl) z0a.e (z1h (by decide)) rfl).e hix rfl).e (by rw[za6];omega));have e5:=z0v e4 (z0v (z0t (i:=2) (d:=.int (q/26)) (z0c (op:=.FloorDiv) (a:=.var 2) (b:=.int 26) (z03 rfl) z0a.e rfl rfl)) (z2m (Κ:=[]) (Φ:=[F_z2,F_z1])));exact⟨_,e5,q/26,_,some (.al,.int x),rfl,by rw[z0g,za6,br,hl];rfl,hch.app (zem.chr (by omega) (by rw[z6l];omega))⟩
  ·rintro ρ ⟨q,st,u7,rfl,hl,hch⟩
   rw[gc]at hl;rw[z2m];exact⟨st,_,_,_,u7,⟨by omega,hch⟩,rfl⟩
 ·refine z3i tc (t7 hc) ?_;exact z76 hstl a0 hsg.1 hsg.2 hstc
theorem z6q {Κ:List D}{Φ:List Fn}{ρ:Rho}{op op':CmpOp}{a b c:C}{x y z:D}{k k':Bool}(ha:Ev Κ Φ a ρ x)(hb:Ev Κ Φ b ρ y)(hc:Ev Κ Φ c ρ z)(h1:cmpD op x y=.ok k)(h2:cmpD op' y z=.ok k'):Vv Κ Φ (.chain op op' a b c) ρ (.bool (k&&k')):=by
 obtain⟨g1,ha⟩:=ha;obtain⟨g2,hb⟩:=hb;obtain⟨g3,hc⟩:=hc;refine⟨?_,rfl⟩;rw[zia,ha,Res.ok_bind,hb,Res.ok_bind]
 dsimp only
 rw[h1,Res.ok_bind];cases k with
 |true=>rw[if_pos rfl,hc,Res.ok_bind,h2];rfl
 |false=>rfl
theorem len_str {w:Str}(h:w.length<=LIM):biD "len" [.str w]=.ok (.int (w.length:Int)):=by show(if w.length<=LIM then _ else _)=_;rw[if_pos h]
theorem zly {Κ:List D}{Φ:List Fn}{ρ:Rho}{k:Nat}{x:Str}{d:D}(h:Κ[k]?=some d)(hi:imm d=true):Vv Κ Φ (.glob k x) ρ d:=by
 refine⟨?_,hi⟩;show(match Κ[k]? with|some d=>if imm d=true then Res.ok (G.fr,d)else .no|none=>.no)=_;rw[h]
 dsimp only
 rw[if_pos hi]
theorem z7f:∀(bs:List Bool),allB (bs.map .bool)=some bs
 | []=>rfl
 |b::bs=>by rw[bn];show(allB (bs.map .bool)).map (b:: ·)=_;rw[z7f bs];rfl
def isn (w:Str):Bool:=(decide ((1:Int)<=w.length)&&decide ((w.length:Int)<=12))&&(w.cps.toList.all p1&& !gnb w)
theorem lex1 (a b:Nat):decide ([a]< [b])=decide (a<b):=by
 rw[decide_eq_decide];constructor
 ·intro h;cases h with
  |rel h=>exact h
  |cons h=>cases h
 ·exact fun h=>.rel h
theorem zc5 {w:Str}(hL:w.length<=LIM):F_z0 [.str w]=.ok (.fr,.bool (isn w)):=by
 unfold F_z0;refine z1m ?_;unfold S_z0;have hw:z4m (.str w)=.ok (w.cps.toList.map fun c=>PyData.str ⟨#[c]⟩):=by show(if w.length<=LIM then _ else _)=_;rw[if_pos hL]
 have ec:=z3u (Κ:=[(.tuple [(.str "and"),(.str "or"),(.str "not"),(.str "if"),(.str "is"),(.str "some"),(.str "all"),(.str "for"),(.str "against")])]) (Φ:=[]) (ρ:=[some (.od,.str w)]) (nt:=1) (js:=[]) (N':=["sign"]) (tg:=.nm 0) (it:=.tv (.var 0)) (cond:=.nil) (elt:=.chain .LtE .LtE (.str "a") (.var 0) (.str "z")) (m:=fun c:Nat=>PyData.str ⟨#[c]⟩) (xs:=w.cps.toList) (fun _=>true) (fun c=>.bool (p1 c)) (w_tv (v_var rfl rfl).1 hw) rfl (fun c=>[some (.al,.str ⟨#[c]⟩)]) (fun c _=>rfl) (fun c _=>z6i)
  (fun c _ _=>by
   refine z6q z0d.e (z03 rfl) z0d.e ?_ ?_
   ·show Res.ok (!decide ([c]< [97]))=_;rw[lex1,<-decide_not]
    congr 1
    rw[decide_eq_decide];omega
   ·show Res.ok (!decide ([122]< [c]))=_;rw[lex1,<-decide_not]
    congr 1
    rw[decide_eq_decide];omega)
 rw[gk.mpr fun _ _=>rfl]at ec;have ea:aggD "all" true (w.cps.toList.map fun c=>PyData.bool (p1 c))=.ok (.bool (w.cps.toList.all p1)):=by have e1:=z7f (w.cps.toList.map p1);rw[dw]at e1;show Res.ofO ((allB (w.cps.toList.map fun c=>PyData.bool (p1 c))).map fun bs=>PyData.bool (bs.all id))=_;rw[show(w.cps.toList.map fun c=>PyData.bool (p1 c))=w.cps.toList.map (PyData.bool∘p1)from rfl,e1];show Res.ok (PyData.bool ((w.cps.toList.map p1).all id))=_;rw[List.all_map];rfl
 refine z0p (z0y ?_);have v1:=z2i (Κ:=[(.tuple [(.str "and"),(.str "or"),(.str "not"),(.str "if"),(.str "is"),(.str "some"),(.str "all"),(.str "for"),(.str "against")])]) (Φ:=[]) (ρ:=[some (.od,.str w)]) (a:=.var 0) (ts:=["str"]) (x:=.str w) (z03 rfl);have e2:(["str"].any fun T=>isTy (tyOf (.str w)) T)=true:=rfl;rw[e2]at v1;exact v_and (k:=true) v1.e fun _=>v_and (z6q (op:=.LtE) (op':=.LtE) z0a.e (v_bi (f:="len") (z09 (z03 (i:=0) (g:=.od) rfl) z0h) (len_str hL) rfl).e z0a.e rfl rfl).e fun _=>v_and (zqb (Ev.of ec) rfl ea rfl).e fun _=>z1n (op:=.NotIn) (x:=.str w) (k:=!gnb w) (z03 (i:=0) (g:=.od) rfl) (zly (k:=0) (x:="NO_NAMES") rfl rfl).e rfl
theorem zho (c:Nat):decide (c∈("abcdefghijklmnopqrstuvwxyz":Str).cps.toList)=p1 c:=by
 have e:("abcdefghijklmnopqrstuvwxyz":Str).cps.toList=List.range' 97 26:=by decide+kernel
 rw[e,og,decide_eq_true_iff,List.mem_range'_1];unfold p1;rw[aq,decide_eq_true_eq,decide_eq_true_eq];omega
theorem zn0 {w:Str}(hl:w.length<=1000):z4m (.str w)=.ok (w.cps.toList.map fun c=>PyData.str ⟨#[c]⟩):=by show(if w.length<=LIM then _ else _)=_;rw[if_pos (by unfold LIM;omega)]
theorem zig {w:Str}(hl:w.length<=1000):F_z7 [.str w]=.ok (.fr,.bool (isn w)):=by
 unfold F_z7;refine z1m ?_;unfold S_z7;have hL:w.length<=LIM:=by unfold LIM;omega
 let Q:Res Out->Prop:=fun r=>r=.ok (.rt .fr (.bool (isn w)))
 show Q _;refine zi3 (m:=fun c:Nat=>PyData.str ⟨#[c]⟩) (xs:=w.cps.toList) (zrn rfl (by decide) rfl (zn0 hl)) (fun pre ρ=>(∃u,ρ=[some (.od,.str w),u])/\pre.all p1=true) ⟨⟨none,rfl⟩,rfl⟩ ?_ ?_
 ·rintro pre x post ρ hx ⟨⟨u,rfl⟩,hp⟩
  refine⟨[some (.od,.str w),some (.al,.str ⟨#[x]⟩)],rfl,?_⟩;have t2:Tt [] [] (.tv (.cmp .NotIn (.var 1) (.str "abcdefghijklmnopqrstuvwxyz"))) [some (.od,.str w),some (.al,.str ⟨#[x]⟩)] (!(p1 x)):=t_tv (z1n (z03 rfl) z0d.e (by show(Res.ok (decide (x∈("abcdefghijklmnopqrstuvwxyz":Str).cps.toList))>>=fun b=>Res.ok (!b))=_;rw[zho];rfl)).e rfl;cases hd:p1 x with
  |true=>exact .inl ⟨_,z1j t2 (by rw[hd];rfl) z2m,⟨_,rfl⟩,by rw[List.all_append,hp,bz,hd];rfl⟩
  |false=>
   refine .inr ⟨.fr,.bool false,z19 t2 (by rw[hd];rfl) (z0p (z0y v_bl)),?_⟩;show _=Res.ok (Out.rt .fr (.bool (isn w)))
   have:w.cps.toList.all p1=false:=by
    cases ha:w.cps.toList.all p1 with
    |false=>rfl
    |true=>have:=bp.mp ha x (by rw[hx];simp);rw[hd]at this;cases this
   unfold isn;rw[this,Bool.false_and,Bool.and_false]
 ·rintro ρ ⟨⟨u,rfl⟩,hp⟩
  show evS _ _ _ _=Res.ok (Out.rt .fr (.bool (isn w)));have t3:Tt [] [] (.tv (.cmp .In (.var 0) (.lst (.cons (.str "and") (.cons (.str "or") (.cons (.str "not") (.cons (.str "if") (.cons (.str "is") (.cons (.str "some") (.cons (.str "all") (.cons (.str "for") (.cons (.str "against") .nil)))))))))))) [some (.od,.str w),u] (gnb w):=t_tv (z1n (z03 rfl) (Ev.of (z3m (z05 z0d (z05 z0d (z05 z0d (z05 z0d (z05 z0d (z05 z0d (z05 z0d (z05 z0d (z05 z0d z15))))))))))) rfl).e rfl;unfold isn;rw[hp];cases hk:gnb w with
  |true=>rw[show(true&& !true)=false from rfl,Bool.and_false];exact z19 t3 hk (z0p (z0y v_bl))
  |false=>rw[show(true&& !false)=true from rfl,Bool.and_true];exact z1j t3 hk (z0p (z0y (z6q z0a.e (v_bi (f:="len") (z09 (z03 rfl) z0h) (len_str hL) rfl).e z0a.e rfl rfl)))
def ac (c:Nat):Bool:=decide (c<128)&& !(c==10)
def Asc (w:Str):Prop:=Ch ac w
theorem asc1 {w:Str}(h:Ch p1 w):Asc w:=h.weak fun c z=>by unfold p1 at z;unfold ac;rw[aq,decide_eq_true_eq,decide_eq_true_eq]at z;rw[aq,decide_eq_true_eq];exact⟨by omega,by simp;omega⟩
theorem z3p {w:Str}(h:w.cps.toList.all ac=true):Asc w:=fun c hc=>bp.mp h c hc
theorem zk6 {w:Str}(h:Asc w):10∉w.cps.toList:=fun z=>by have:=h 10 z;revert this;decide
def fw (l:List Nat):List Nat:=l.takeWhile fun c=>!(c==32)
def badw:List (List Nat):=[("open":Str).cps.toList,("word":Str).cps.toList,("claim":Str).cps.toList]
structure RowQ (s:Str):Prop where
 asc:Asc s
 bl:32∈s.cps.toList
 fw:fw s.cps.toList∉badw
theorem zfs:∀{a b:List Nat},32∈a->fw (a++b)=fw a
 |c::a,b,h=>by
  unfold fw;rw[List.cons_append,lx,lx];by_cases e:c=32
  ·subst e;rfl
  ·have h2:32∈a:=by
    rcases ak.mp h with z|z
    ·exact absurd z.symm e
    ·exact z
   have ih:=zfs (b:=b) h2;unfold fw at ih;rw[ih]
theorem RowQ.app {s x:Str}(h:RowQ s)(hx:Asc x):RowQ (s++x) where
 asc:=h.asc.app hx
 bl:=by rw[zjh];exact d7 _ h.bl
 fw:=by rw[zjh,zfs h.bl];exact h.fw
def rqB (s:Str):Bool:=s.cps.toList.all ac&&s.cps.toList.contains 32&& !badw.contains (fw s.cps.toList)
theorem z4c {s:Str}(h:rqB s=true):RowQ s:=by unfold rqB at h;rw[aq,aq]at h;exact⟨z3p h.1.1,bq.mp h.1.2,fun z=>by rw[bq.mpr z]at h;exact absurd h.2 (by decide)⟩
theorem z7h:∀(l:List Nat),∃t,splC 32 l=fw l::t/\(32∉l->t=[])
 | []=>⟨[],rfl,fun _=>rfl⟩
 |c::l=>by
  obtain⟨t,e,h⟩:=z7h l;unfold splC fw;rw[lx];by_cases z:c=32
  ·subst z;rw[if_pos rfl];exact⟨_,rfl,fun n=>absurd ai n⟩
  ·rw[if_neg z,e];have:(!(c==32))=true:=by simpa using z
   rw[this];exact⟨t,rfl,fun n=>h fun q=>n (ah _ q)⟩
structure RowP (s:Str):Prop where
 asc:Asc s
 len:s.length<=60
 sp:Mi.pk (spW 32 s) 0="open"\/Mi.pk (spW 32 s) 0="word"\/Mi.pk (spW 32 s) 0="claim"->(spW 32 s).length=1
theorem zpn (s:Str):Mi.pk (spW 32 s) 0=toS (fw s.cps.toList):=by obtain⟨t,e,_⟩:=z7h s.cps.toList;unfold Mi.pk spW;rw[e];rfl
theorem RowQ.row {s:Str}(h:RowQ s)(hl:s.length<=60):RowP s:=⟨h.asc,hl,fun z=>by
 refine absurd ?_ h.fw;rw[zpn]at z;have e:(toS (Mk.fw s.cps.toList)).cps.toList=Mk.fw s.cps.toList:=by show(Mk.fw s.cps.toList).toArray.toList=_;simp
 rw[<-e];rcases z with z|z|z<;>rw[z]<;>simp[badw]⟩
theorem z6m {s:Str}(h:Asc s)(hl:s.length<=60)(hn:32∉s.cps.toList):RowP s:=⟨h,hl,fun _=>by obtain⟨t,e,ht⟩:=z7h s.cps.toList;unfold spW;rw[e,ht hn];rfl⟩
theorem no32 {w:Str}(h:Ch p1 w):32∉w.cps.toList:=fun z=>by have:=h 32 z;revert this;decide
def upS (z:Str):Str:=⟨(z.cps.toList.map (· -32)).toArray⟩
theorem up_D {w:Str}(h:Ch p1 w)(hl:w.length<=100):upD (.str w)=.ok (.str (upS w)):=by
 show(if(w.cps.toList.all (fun c=>decide (97<=c)&&decide (c<=122))&&decide (w.length<=LIM))=true then _ else _)=_;have h1:w.cps.toList.all (fun c=>decide (97<=c)&&decide (c<=122))=true:=bp.mpr h;have h2:w.length<=LIM:=by unfold LIM;omega
 rw[h1,tz h2];rfl
theorem zb0 (w:Str):(upS w).length=w.length:=by show((w.cps.toList.map (· -32)).toArray).size=_;rw[ao,av,dh];rfl
theorem zg1 {w:Str}(h:Ch p1 w):Asc (upS w):=fun c hc=>by have hc:c∈(w.cps.toList.map (· -32)).toArray.toList:=hc;rw[jx]at hc;obtain⟨d,hd,rfl⟩:=ci.mp hc;have:=h d hd;unfold p1 at this;unfold ac;rw[aq,decide_eq_true_eq,decide_eq_true_eq]at this;rw[aq,decide_eq_true_eq];exact⟨by omega,by simp;omega⟩
theorem zrq {Κ:List D}{Φ:List Fn}{ρ:Rho}{a:C}{w:Str}(ha:Ev Κ Φ a ρ (.str w))(h:Ch p1 w)(hl:w.length<=100):Vv Κ Φ (.upr a) ρ (.str (upS w)):=by obtain⟨g,ha⟩:=ha;refine⟨?_,rfl⟩;show(evE Κ Φ a ρ>>=fun x=>upD x.2>>=fun d=>Res.ok (G.fr,d))=_;rw[ha,Res.ok_bind,up_D h hl];rfl
theorem zh4 (c:Int){k:Int}(h0:0<=k)(h1:k<=100):∃n,0<=n/\F_z1 [.int c,.int k]=.ok (.fr,.int n):=by have hk:0<=k*k/\k*k<=10000:=⟨Int.mul_nonneg h0 h0,by have:=Int.mul_le_mul h1 h1 h0 (by decide);omega⟩;refine⟨(c%1000000000000000+104729*k*k+11)*48271%2147483647,fm _ (by decide),?_⟩;unfold F_z1;refine z1m ?_;unfold S_z1;exact z0p (z0y (z0c (z0c (z0c (z0c (z0c (z03 rfl) (z0c (d:=.int 1000000000000000) z0a.e z0a.e rfl rfl).e (z1h (by decide)) rfl).e (z0c (z0c z0a.e (z03 rfl) (zcl (by decide)) rfl).e (z03 rfl) (zbv ⟨by omega,by omega⟩) rfl).e rfl rfl).e z0a.e rfl rfl).e z0a.e (zbv (by decide)) rfl).e z0a.e (z1h (by decide)) rfl))
def ze7 (N M:Str):List Str:=["","fact","fact "," fact "++N,"fact  "++N,"fact "++N++" ","Fact "++N,"fact not","fact "++upS N,"facts "++N,N,"fact "++N++"3","fact "++N++" "++M,"fact against"]
theorem ze5 {N M:Str}(hN:N.length<=14/\Ch p1 N)(hM:M.length<=14/\Ch p1 M):∀s∈ze7 N M,RowP s:=by
 have aN:=asc1 hN.2;have aM:=asc1 hM.2;have l0:=hN.1;have l1:=hM.1;have lu:=zb0 N;have f5:("fact ":Str).length=5:=rfl;have g:∀{p x:Str},rqB p=true->Asc x->p.length+x.length<=60->RowP (p++x):=fun{p x} h hx hl=>((z4c h).app hx).row (by rw[z0g];exact hl);intro s hs;simp only[ze7,ak,d8,or_false]at hs;rcases hs with rfl|rfl|rfl|rfl|rfl|rfl|rfl|rfl|rfl|rfl|rfl|rfl|rfl|rfl
 ·exact z6m (z3p (by decide+kernel)) (by decide+kernel) (by decide+kernel)
 ·exact z6m (z3p (by decide+kernel)) (by decide+kernel) (by decide+kernel)
 ·exact(z4c (by decide+kernel)).row (by decide+kernel)
 ·exact g (by decide+kernel) aN (by have:(" fact ":Str).length=6:=rfl;omega)
 ·exact g (by decide+kernel) aN (by have:("fact  ":Str).length=6:=rfl;omega)
 ·exact(((z4c (by decide+kernel)).app aN).app (z3p (by decide+kernel))).row (by rw[z0g,z0g];have:(" ":Str).length=1:=rfl;omega)
 ·exact g (by decide+kernel) aN (by have:("Fact ":Str).length=5:=rfl;omega)
 ·exact(z4c (by decide+kernel)).row (by decide+kernel)
 ·exact g (by decide+kernel) (zg1 hN.2) (by omega)
 ·exact g (by decide+kernel) aN (by have:("facts ":Str).length=6:=rfl;omega)
 ·exact z6m aN (by omega) (no32 hN.2)
 ·exact(((z4c (by decide+kernel)).app aN).app (z3p (by decide+kernel))).row (by rw[z0g,z0g];have:("3":Str).length=1:=rfl;omega)
 ·exact((((z4c (by decide+kernel)).app aN).app (z3p (by decide+kernel))).app aM).row (by rw[z0g,z0g,z0g];have:(" ":Str).length=1:=rfl;omega)
 ·exact(z4c (by decide+kernel)).row (by decide+kernel)
def ws13:List Str:=["fact","open","word","claim","act","court","under","judge","bound","stands","must","none","free"]
theorem zkh:∀w∈ws13,RowP ("fact "++w):=by
 have h:∀w∈ws13,rqB ("fact "++w)=true/\("fact "++w).length<=60:=by decide+kernel
 exact fun w hw=>(z4c (h w hw).1).row (h w hw).2
theorem zhn {n:Nat}{ns:List Str}{i:Nat}(hn:Ns n ns)(h:i<n):(ns.getD i ⟨#[]⟩).length<=14/\Ch p1 (ns.getD i ⟨#[]⟩):=by
 have hi:i<ns.length:=by rw[hn.1];exact h
 rw[am,bg hi];exact hn.2 _ (gr hi)
theorem fact_row {N:Str}(hN:N.length<=14/\Ch p1 N):RowP ("fact "++N):=((z4c (by decide+kernel)).app (asc1 hN.2)).row (by rw[z0g];have:("fact ":Str).length=5:=rfl;have:=hN.1;omega)
theorem zep {L:List Str}{P:Str->Prop}{i:Int}(h:∀s∈L,P s)(h0:0<=i)(h1:i<L.length):P (L.getD i.toNat ⟨#[]⟩):=by
 have hi:i.toNat<L.length:=by omega
 rw[am,bg hi];exact h _ (gr hi)
theorem zmk (c:Int){k:Nat}{ns:List Str}{b:Bool}(hn:Ns 27 ns)(hk:k<27):∃r,RowP r/\F_z6 [.int c,.int k,.list (ns.map .str),.bool b]=.ok (.fr,.str r):=by
 suffices h:∃r,RowP r/\evS [] [F_z1] S_z6 [some (.od,.int c),some (.od,.int k),some (.od,.list (ns.map .str)),some (.od,.bool b),none,none,none]=.ok (.rt .fr (.str r)) by obtain⟨r,h1,h2⟩:=h;exact⟨r,h1,z1m h2⟩
 let Q:Res Out->Prop:=fun r=>∃s,RowP s/\r=.ok (.rt .fr (.str s))
 show Q _;unfold S_z6;obtain⟨n,n0,en⟩:=zh4 c (k:=(k:Int)+1) (by omega) (by omega);refine q_ok (z0t (z1r (z09 (z03 rfl) (z09 (z0c (d:=.int ((k:Int)+1)) (z03 rfl) z0a.e rfl rfl).e z0h)) rfl en rfl)) ?_
 let N:=ns.getD k ⟨#[]⟩
 let M:=ns.getD 0 ⟨#[]⟩
 have hN:N.length<=14/\Ch p1 N:=zhn hn hk;have hM:M.length<=14/\Ch p1 M:=zhn hn (by decide);have xN:ixD (.list (ns.map .str)) (.int k)=.ok (.str N):=z24 (by omega) (by rw[hn.1];omega);have xM:ixD (.list (ns.map .str)) (.int 0)=.ok (.str M):=z24 (by omega) (by rw[hn.1];decide);have vN:∀{ρ:Rho},ρ[1]?=some (some (.od,.int k))->ρ[2]?=some (some (.od,.list (ns.map .str)))->Vv [] [F_z1] (.ix (.var 2) (.var 1)) ρ (.str N):=fun h1 h2=>v_ix (z03 h2) (z03 h1) xN rfl;have vM:∀{ρ:Rho},ρ[2]?=some (some (.od,.list (ns.map .str)))->Vv [] [F_z1] (.ix (.var 2) (.int 0)) ρ (.str M):=fun h2=>v_ix (z03 h2) z0a.e xM rfl;have l0:=hN.1;have l1:=hM.1;have ad:∀{ρ:Rho} {t:C} {w:Str} (p:Str),p.length<=20->w.length<=40->Vv [] [F_z1] t ρ (.str w)->Vv [] [F_z1] (.bin .Add (.str p) t) ρ (.str (p++w)):=fun p hp hw h=>v_add z0d.e h.e (by omega);have tb:Tt [] [F_z1] (.tv (.var 3)) [some (.od,.int c),some (.od,.int k),some (.od,.list (ns.map .str)),some (.od,.bool b),some (.al,.int n),none,none] b:=t_tv (z03 rfl) rfl;have tm:∀j:Int,Tt [] [F_z1] (.tv (.cmp .Eq (.bin .Mod (.var 4) (.int 9)) (.int j))) [some (.od,.int c),some (.od,.int k),some (.od,.list (ns.map .str)),some (.od,.bool b),some (.al,.int n),none,none] (decide (n%9=j)):=fun j=>zj1 (z0c (z03 rfl) z0a.e (z1h (by decide)) rfl).e;have m14:0<=n/9%14/\n/9%14<14:=⟨fm _ (by decide),g9 _ (by decide)⟩;have m13:0<=n/9%13/\n/9%13<13:=⟨fm _ (by decide),g9 _ (by decide)⟩;by_cases h1:(b&&decide (n%9=1))=true
 ·refine⟨(ze7 N M).getD (n/9%14).toNat ⟨#[]⟩,zep (P:=RowP) (ze5 hN hM) m14.1 m14.2,z19 (z52 tb fun _=>tm 1) h1 ?_⟩;refine z0v (z1k (xs:=(["","fact","fact "," fact "++N,"fact  "++N,"fact "++N++" "]:List Str).map .str) (z3m (z05 z0d (z05 z0d (z05 z0d (z05 (ad " fact " (by decide+kernel) (by omega) (vN rfl rfl)) (z05 (ad "fact  " (by decide+kernel) (by omega) (vN rfl rfl)) (z05 (v_add (ad "fact " (by decide+kernel) (by omega) (vN rfl rfl)).e z0d.e (by rw[z0g];have:("fact ":Str).length=5:=rfl;have:(" ":Str).length=1:=rfl;omega)) z15))))))) (z0f _)) ?_;refine z0v (zh9 (ad "Fact " (by decide+kernel) (by omega) (vN rfl rfl)) rfl (show 6<1000 by decide)) ?_;refine z0v (z1k (xs:=(["","fact","fact "," fact "++N,"fact  "++N,"fact "++N++" ","Fact "++N,"fact not","fact "++upS N,"facts "++N,N,"fact "++N++"3"]:List Str).map .str) (zdi (z03 rfl) (Ev.of (z3m (z05 z0d (z05 (ad "fact " (by decide+kernel) (by rw[zb0];omega) (zrq (vN rfl rfl).e hN.2 (by omega))) (z05 (ad "facts " (by decide+kernel) (by omega) (vN rfl rfl)) (z05 (vN rfl rfl) (z05 (v_add (ad "fact " (by decide+kernel) (by omega) (vN rfl rfl)).e z0d.e (by rw[z0g];have:("fact ":Str).length=5:=rfl;have:("3":Str).length=1:=rfl;omega)) z15))))))) rfl (z0f _)) (z0f _)) ?_;refine z0p (z0y (v_ix (x:=.list ((ze7 N M).map .str)) (Ev.of (zdi (z03 rfl) (Ev.of (z3m (z05 (v_add (v_add (ad "fact " (by decide+kernel) (by omega) (vN rfl rfl)).e z0d.e (by rw[z0g];have:("fact ":Str).length=5:=rfl;have:(" ":Str).length=1:=rfl;omega)).e (vM rfl).e (by rw[z0g,z0g];have:("fact ":Str).length=5:=rfl;have:(" ":Str).length=1:=rfl;omega)) (z05 z0d z15)))) rfl (z0f _))) (z0c (z0c (d:=.int (n/9)) (z03 rfl) z0a.e rfl rfl).e z0a.e (z1h (by decide)) rfl).e (z24 m14.1 m14.2) rfl))
 refine z3i (z52 tb fun _=>tm 1) (by simpa using h1) ?_;have tk:Tt [] [F_z1] (.tv (.cmp .Gt (.var 1) (.int 0))) [some (.od,.int c),some (.od,.int k),some (.od,.list (ns.map .str)),some (.od,.bool b),some (.al,.int n),none,none] (decide ((0:Int)<k)):=t_tv (z1n (z03 rfl) z0a.e rfl).e rfl;by_cases h2:(b&&(decide (n%9=2)&&decide ((0:Int)<k)))=true
 ·have k0:(0:Int)<k:=by
   simp only[aq,decide_eq_true_eq]at h2;exact h2.2.2
  have mk:0<=n/9%(k:Int)/\n/9%(k:Int)<k:=⟨fm _ (by omega),g9 _ k0⟩;have hj:(ns.getD (n/9%(k:Int)).toNat ⟨#[]⟩).length<=14/\Ch p1 (ns.getD (n/9%(k:Int)).toNat ⟨#[]⟩):=zhn hn (by omega);refine⟨_,fact_row hj,z19 (z52 tb fun _=>z52 (tm 2) fun _=>tk) h2 ?_⟩;exact z0p (z0y (ad "fact " (by decide+kernel) (by have:=hj.1;omega) (v_ix (z03 rfl) (z0c (z0c (d:=.int (n/9)) (z03 rfl) z0a.e rfl rfl).e (z03 rfl) (z1h k0) rfl).e (z24 mk.1 (by rw[hn.1];omega)) rfl)))
 refine z3i (z52 tb fun _=>z52 (tm 2) fun _=>tk) (by simpa using h2) ?_;by_cases h3:(b&&decide (n%9=3))=true
 ·have hw:ws13.getD (n/9%13).toNat ⟨#[]⟩∈ws13:=zep (P:=fun s=>s∈ws13) (fun _ h=>h) m13.1 m13.2;have hl:∀w∈ws13,w.length<=10:=by decide+kernel
  refine⟨_,zkh _ hw,z19 (z52 tb fun _=>tm 3) h3 ?_⟩;refine z0v (z1k (xs:=(["fact","open","word","claim","act","court","under","judge","bound","stands","must","none"]:List Str).map .str) (z3m (z05 z0d (z05 z0d (z05 z0d (z05 z0d (z05 z0d (z05 z0d (z05 z0d (z05 z0d (z05 z0d (z05 z0d (z05 z0d (z05 z0d z15))))))))))))) (z0f _)) ?_;exact z0p (z0y (ad "fact " (by decide+kernel) (by have:=hl _ hw;omega) (v_ix (x:=.list (ws13.map .str)) (Ev.of (zdi (z03 rfl) (Ev.of (z3m (z05 z0d z15))) rfl (z0f _))) (z0c (z0c (d:=.int (n/9)) (z03 rfl) z0a.e rfl rfl).e z0a.e (z1h (by decide)) rfl).e (z24 m13.1 m13.2) rfl)))
 refine z3i (z52 tb fun _=>tm 3) (by simpa using h3) ?_;exact⟨_,fact_row hN,z0p (z0y (ad "fact " (by decide+kernel) (by omega) (vN rfl rfl)))⟩
theorem z9m (ws:List Str):biD "len" [.list (ws.map .str)]=.ok (.int (ws.length:Int)):=by show Res.ok (PyData.int ((ws.map PyData.str).length:Nat))=_;rw[av]
theorem z4f:∀(n:Nat) (ss:List Str),z2p (n+1) (ss.map .str)=true
 |_,[]=>rfl
 |n,s::ss=>by show(shal (n+1) (.str s)&&z2p (n+1) (ss.map .str))=true;rw[z4f n ss];rfl
theorem zne (w:Str)(ss:List Str):inD (.str w) (.list (ss.map .str))=.ok (decide (w∈ss)):=by
 show(if(shal 40 (.str w)&&z2p 40 (ss.map .str))=true then Res.ok _ else .no)=_;rw[z4f 39 ss];show Res.ok _=_
 congr 1
 rw[List.any_map,og,List.any_eq_true,decide_eq_true_iff];constructor
 ·rintro⟨x,hx,e⟩
  have e:eqD (.str x) (.str w)=true:=e;rw[z3t,decide_eq_true_eq]at e;rw[<-e];exact hx
 ·exact fun h=>⟨w,h,by show eqD (.str w) (.str w)=true;rw[z3t];simp⟩
theorem zrd {Κ:List D}{Φ:List Fn}{ρ:Rho}{a:C}{s:Str}(ha:Ev Κ Φ a ρ (.str s))(hl:s.length<=LIM):evE Κ Φ (.spl a (.str " ")) ρ=.ok (.fr,.list ((spW 32 s).map .str)):=by
 obtain⟨g,ha⟩:=ha;have e:(" ":Str)=⟨#[32]⟩:=by decide+kernel
 rw[zph,ha,Res.ok_bind];show(splD (.str s) (.str " ")>>=fun d=>Res.ok (G.fr,d))=_;rw[e];have:splD (.str s) (.str ⟨#[32]⟩)=.ok (.list ((spW 32 s).map PyData.str)):=by show(if decide (s.length<=LIM)=true then Res.ok (PyData.list ((splC 32 s.cps.toList).map fun l=>PyData.str (toS l)))else .no)=_;rw[if_pos (tz hl)];unfold spW;rw[dw];rfl
 rw[this];rfl
theorem zkf (s:Str):∃w t,spW 32 s=w::t:=by obtain⟨t,e,_⟩:=z7h s.cps.toList;exact⟨toS (fw s.cps.toList),t.map toS,by unfold spW;rw[e];rfl⟩
theorem z43:isn ""=false:=by decide+kernel
theorem zjx {a b:Str}:z1c isn [a,b]=if a="fact"/\isn b=true then some b else none:=by
 have e0:Mi.pk [a,b] 0=a:=rfl;have e1:Mi.pk [a,b] 1=b:=rfl;unfold z1c;rw[e0,e1];by_cases h1:a="fact"
 ·by_cases h2:isn b=true
  ·simp[h1,h2]
  ·simp[h1,h2]
 ·simp[h1]
theorem zfh {ws:List Str}(h:ws.length≠2):z1c isn ws=none:=by
 unfold z1c;split
 ·rw[if_neg]
  rintro⟨z1,z2⟩
  have:ws.length<=1:=by omega
  have e:Mi.pk ws 1="":=by unfold Mi.pk;rw[am,ji (by omega)];rfl
  rw[e,z43]at z1;cases z1
 ·rfl
theorem zqw {rs:List Str}(hr:∀r∈rs,RowP r)(hl:rs.length<=30):F_z8 [.list (rs.map .str)]=.ok (.fr,rrD (z0o isn 0 [] rs)):=by
 unfold F_z8;refine z1m ?_
 let Q:Res Out->Prop:=fun r=>r=.ok (.rt .fr (rrD (z0o isn 0 [] rs)))
 show Q _;unfold S_z8;refine q_ok (z1k (z3m z15) rfl) (q_ok (z1k (z3m z15) rfl) ?_);refine zi3 (m:=fun i:Nat=>.int i) (xs:=dv rs.length) (zlz (z09 (v_bi (z09 (z03 rfl) z0h) (z9m rs) rfl).e z0h) (zc8 (by omega) (by omega))) (fun pre ρ=>∃ns u3 u4,ρ=[some (.od,.list (rs.map .str)),some (.fr,.list (ns.map z2j)),some (.fr,.list (ns.map .str)),u3,u4]/\ns.length=pre.length/\z0o isn pre.length ns (rs.drop pre.length)=z0o isn 0 [] rs) ⟨[],none,none,rfl,rfl,rfl⟩ ?_ ?_
 ·rintro pre x post ρ hx ⟨ns,u3,u4,rfl,hn,hrd⟩
  have hp:=congrArg qu hx;simp only[gc,br,ay]at hp;have hxe:x=pre.length:=by have e:=congrArg (fun l=>l[pre.length]?) hx;simp only[gu (aj _),Nat.sub_self,ni]at e;rw[o0 (by omega)]at e;exact(Option.some.inj e).symm
  subst hxe;have hlt:pre.length<rs.length:=by omega
  have hdr:rs.drop pre.length=rs[pre.length]::rs.drop (pre.length+1):=im hlt;rw[hdr]at hrd
  have hrd:(if pre.length=24 then Rr.row pre.length else match z1c isn (spW 32 rs[pre.length])with
   |none=>.row pre.length
   |some nm=>if nm∈ns then .tw nm else z0o isn (pre.length+1) (ns++[nm]) (rs.drop (pre.length+1)))=z0o isn 0 [] rs:=hrd
  have hrow:=hr _ (gr hlt);generalize hg:rs[pre.length]=r at hrd hrow
  have hix:ixD (.list (rs.map .str)) (.int (pre.length:Int))=.ok (.str r):=by
   rw[z24 (by omega) (by omega)]
   congr 2
   rw[am];show(rs[(pre.length:Int).toNat]?).getD _=_;rw[mo,bg hlt,hg];rfl
  refine⟨[some (.od,.list (rs.map .str)),some (.fr,.list (ns.map z2j)),some (.fr,.list (ns.map .str)),some (.al,.int pre.length),u4],rfl,?_⟩;have es:evS [] [F_z7] (.asg (.nm 4) (.spl (.ix (.var 0) (.var 3)) (.str " "))) [some (.od,.list (rs.map .str)),some (.fr,.list (ns.map z2j)),some (.fr,.list (ns.map .str)),some (.al,.int pre.length),u4]=.ok (.nx [some (.od,.list (rs.map .str)),some (.fr,.list (ns.map z2j)),some (.fr,.list (ns.map .str)),some (.al,.int pre.length),some (.fr,.list ((spW 32 r).map .str))]):=z1k (zrd (v_ix (z03 rfl) (z03 rfl) hix rfl).e (by have:=hrow.len;unfold LIM;omega)) (z0f _);have wl:=z4o (c:=32) (t:=r);have rl:=hrow.len;obtain⟨w0,t,hsp⟩:=zkf r;rw[hsp]at es wl hrd;have m0:w0.length<=60:=bw (wl w0 ai) rl;generalize hρ:[some (G.od,PyData.list (rs.map .str)),some (.fr,.list (ns.map z2j)),some (.fr,.list (ns.map .str)),some (.al,.int pre.length),some (.fr,.list ((w0::t).map .str))]=ρ4 at es;have v3:ρ4[3]?=some (some (.al,.int pre.length)):=by rw[<-hρ];rfl
  have v4:ρ4[4]?=some (some (.fr,.list ((w0::t).map .str))):=by rw[<-hρ];rfl
  have t1:Tt [] [F_z7] (.tv (.cmp .NotEq (.bi "len" (.cons (.var 4) .nil)) (.int 2))) ρ4 (!decide (((w0::t).length:Int)=2)):=t_tv (z1n (v_bi (z09 (z03 v4) z0h) (z9m (w0::t)) rfl).e z0a.e (by show Res.ok (!eqD (.int _) (.int _))=_;rw[z32];rfl)).e rfl;have t2:Tt [] [F_z7] (.tv (.cmp .NotEq (.ix (.var 4) (.int 0)) (.str "fact"))) ρ4 (!decide (w0="fact")):=t_tv (z1n (v_ix (d:=.str w0) (z03 v4) z0a.e (z24 (ns:=w0::t) (i:=0) (by omega) (by rw[ay];omega)) rfl).e z0d.e (by show Res.ok (!eqD (.str _) (.str _))=_;rw[z3t];rfl)).e rfl;have t3:Tt [] [F_z7] (.tv (.cmp .Eq (.var 3) (.int 24))) ρ4 (decide ((pre.length:Int)=24)):=zj1 (z03 v3);have rt:∀{g:Bool},Tt [] [F_z7] (.or (.tv (.cmp .NotEq (.bi "len" (.cons (.var 4) .nil)) (.int 2))) (.or (.tv (.cmp .NotEq (.ix (.var 4) (.int 0)) (.str "fact"))) (.or (.tv (.cmp .Eq (.var 3) (.int 24))) (.not (.tv (.call 0 "_law_is_name" (.cons (.ix (.var 4) (.int 1)) .nil))))))) ρ4 g->g=true->z0o isn 0 [] rs=.row pre.length->∃g d,evS [] [F_z7] (.seq (.asg (.nm 4) (.spl (.ix (.var 0) (.var 3)) (.str " "))) (.seq (.ifS (.or (.tv (.cmp .NotEq (.bi "len" (.cons (.var 4) .nil)) (.int 2))) (.or (.tv (.cmp .NotEq (.ix (.var 4) (.int 0)) (.str "fact"))) (.or (.tv (.cmp .Eq (.var 3) (.int 24))) (.not (.tv (.call 0 "_law_is_name" (.cons (.ix (.var 4) (.int 1)) .nil)))))))
 (.seq (.ret (.tup (.cons (.str "row") (.cons (.var 3) .nil))))
 .nil)
 .nil)
 (.seq (.ifS (.tv (.cmp .In (.ix (.var 4) (.int 1)) (.var 2)))
 (.seq (.ret (.tup (.cons (.str "twice") (.cons (.ix (.var 4) (.int 1)) .nil))))
 .nil)
 .nil)
 (.seq (.mut "append" 2 (.cons (.ix (.var 4) (.int 1)) .nil))
 (.seq (.mut "append" 1 (.cons (.tup (.cons (.str "fact") (.cons (.ix (.var 4) (.int 1)) .nil))) .nil))
 .nil))))) [some (.od,.list (rs.map .str)),some (.fr,.list (ns.map z2j)),some (.fr,.list (ns.map .str)),some (.al,.int pre.length),u4]=.ok (.rt g d)/\Q (.ok (.rt g d)):=fun{g} tt hg e=>by
   refine⟨.fr,.tuple [.str "row",.int pre.length],z0v es (z19 tt hg (z0p (z0y (z8o (z05 z0d (z05 (v_var v3 rfl) z15)))))),?_⟩;show _=_;rw[e];rfl
  by_cases h2:(w0::t).length=2
  ·obtain⟨w1,rfl⟩:∃w1,t=[w1]:=by
    rcases t with _|⟨w1,_|⟨w2,t⟩⟩
    ·cases h2
    ·exact⟨w1,rfl⟩
    ·simp at h2
   have m1:w1.length<=60:=bw (wl w1 (ah _ ai)) rl;have x1:Vv [] [F_z7] (.ix (.var 4) (.int 1)) ρ4 (.str w1):=v_ix (d:=.str w1) (z03 v4) z0a.e rfl rfl;have t4:Tt [] [F_z7] (.not (.tv (.call 0 "_law_is_name" (.cons (.ix (.var 4) (.int 1)) .nil)))) ρ4 (!isn w1):=z8i (t_tv (z1r (z09 x1.e z0h) rfl (zig (by omega)) rfl).e rfl);have tt:=t_or t1 fun _=>t_or t2 fun _=>t_or t3 fun _=>t4;rw[zjx]at hrd;by_cases hb:pre.length≠24/\w0="fact"/\isn w1=true
   ·obtain⟨b1,b2,b3⟩:=hb;rw[if_neg b1,if_pos ⟨b2,b3⟩]at hrd;have hrd:(if w1∈ns then Rr.tw w1 else z0o isn (pre.length+1) (ns++[w1]) (rs.drop (pre.length+1)))=z0o isn 0 [] rs:=hrd;have gf:(!decide ((([w0,w1]:List Str).length:Int)=2)||(!decide (w0="fact")||(decide ((pre.length:Int)=24)|| !isn w1)))=false:=by rw[b3,tz b2,t7 (show ¬(pre.length:Int)=24 by omega)];rfl
    have ti:Tt [] [F_z7] (.tv (.cmp .In (.ix (.var 4) (.int 1)) (.var 2))) ρ4 (decide (w1∈ns)):=t_tv (z1n (op:=.In) (k:=decide (w1∈ns)) (y:=.list (ns.map .str)) x1.e (z03 (g:=.fr) (by rw[<-hρ];rfl)) (zne w1 ns)).e rfl;by_cases hm:w1∈ns
    ·rw[if_pos hm]at hrd;refine .inr ⟨.fr,.tuple [.str "twice",.str w1],z0v es ?_,?_⟩
     ·exact z1j tt gf (z19 ti (tz hm) (z0p (z0y (z8o (z05 z0d (z05 x1 z15))))))
     ·show _=_;rw[<-hrd];rfl
    ·rw[if_neg hm]at hrd;refine .inl ?_;subst hρ;refine⟨_,z0v es (z1j tt gf (z1j ti (t7 hm) (z0v (zh9 (xs:=ns.map .str) x1 rfl (by rw[av];omega)) (z0v (zh9 (xs:=ns.map z2j) (z8o (z05 z0d (z05 (v_ix (d:=.str w1) (z03 rfl) z0a.e rfl rfl) z15))) rfl (by rw[av];omega)) z2m)))),ns++[w1],some (.al,.int pre.length),some (.fr,.list ([w0,w1].map .str)),?_,by rw[br,br,hn];rfl,?_⟩
     ·rw[j7,j7];rfl
     ·rw[br];exact hrd
   ·refine .inr (rt tt ?_ ?_)
    ·cases hk:isn w1 with
     |false=>simp
     |true=>
      by_cases b2:w0="fact"
      ·have :pre.length=24:=Classical.byContradiction fun z=>hb ⟨z,b2,hk⟩;rw[tz (show(pre.length:Int)=24 by omega)];simp
      ·rw[t7 b2];simp
    ·rw[<-hrd];by_cases z:pre.length=24
     ·rw[if_pos z]
     ·rw[if_neg z,if_neg (fun q=>hb ⟨z,q⟩)]
  ·have g1:(!decide (((w0::t).length:Int)=2))=true:=by rw[t7 (by omega)];rfl
   refine .inr (rt (t_or (k':=false) t1 fun z=>by rw[g1]at z;cases z) (by rw[g1];rfl) ?_);rw[<-hrd,zfh h2];split<;>rfl
 ·rintro ρ ⟨ns,u3,u4,rfl,hn,hrd⟩
  rw[gc,lh]at hrd;have hrd:Rr.ok ns=z0o isn 0 [] rs:=hrd;show _=_;rw[<-hrd];exact z0p (zak rfl)
theorem z74:∀(xs:List D),zipD xs xs=xs.map fun e=>.tuple [e,e]
 | []=>rfl
 |x::xs=>by show PyData.tuple [x,x]::zipD xs xs=_;rw[z74 xs];rfl
theorem zmq {xs:List D}{e:D}(h:imms xs=true)(he:e∈xs):imm e=true:=by
 induction xs with
 |nil=>cases he
 |cons x xs ih=>
  have h:(imm x&&imms xs)=true:=h;rw[aq]at h;rcases ak.mp he with rfl|he
  ·exact h.1
  ·exact ih h.2 he
theorem z5a (k:Nat)(s:Str):F_z4 (k+1) [.str s,.str s]=.ok (.fr,.bool true):=by show runD [] [F_z4 k] 4 S_z4 _=_;refine z1m ?_;show evS [] [F_z4 k] S_z4 [some (.od,.str s),some (.od,.str s),none,none]=_;unfold S_z4;have v0:Vv [] [F_z4 k] (.isT (.var 0) ["str"]) [some (.od,.str s),some (.od,.str s),none,none] (.bool true):=z2i (x:=.str s) (z03 rfl);refine z19 (t_tv (z2i (z03 rfl)).e rfl) rfl (z0p (z0y (v_and (k:=true) v0.e fun _=>z1n (z03 rfl) (z03 rfl) ?_)));show Res.ok (eqD (.str s) (.str s))=_;rw[z3t];simp
theorem zml (k:Nat)(i:Int):F_z4 (k+1) [.int i,.int i]=.ok (.fr,.bool true):=by show runD [] [F_z4 k] 4 S_z4 _=_;refine z1m ?_;show evS [] [F_z4 k] S_z4 [some (.od,.int i),some (.od,.int i),none,none]=_;unfold S_z4;have v0:Vv [] [F_z4 k] (.isT (.var 0) ["int"]) [some (.od,.int i),some (.od,.int i),none,none] (.bool true):=z2i (x:=.int i) (z03 rfl);have v1:Vv [] [F_z4 k] (.isT (.var 0) ["bool"]) [some (.od,.int i),some (.od,.int i),none,none] (.bool false):=z2i (x:=.int i) (z03 rfl);refine z1j (t_tv (z2i (z03 rfl)).e rfl) rfl (z19 (t_tv (z2i (z03 rfl)).e rfl) rfl (z0p (z0y (v_and (k:=true) v0.e fun _=>v_and (k:=true) (v_not (k:=false) v1.e rfl).e fun _=>z1n (z03 rfl) (z03 rfl) ?_))));show Res.ok (eqD (.int i) (.int i))=_;rw[z32];simp
theorem zes {k:Nat}{x:D}{xs:List D}(hx:x=.tuple xs\/x=.list xs)(hi:imms xs=true)(hl:xs.length<=100)(he:∀e∈xs,F_z4 k [e,e]=.ok (.fr,.bool true)):F_z4 (k+1) [x,x]=.ok (.fr,.bool true):=by
 show runD [] [F_z4 k] 4 S_z4 _=_;refine z1m ?_
 let Q:Res Out->Prop:=fun r=>r=.ok (.rt .fr (.bool true))
 show Q _;unfold S_z4
 have sq:seqR x=.ok xs:=by
  rcases hx with rfl|rfl
  ·show(if decide (xs.length<=LIM)=true then _ else _)=_;rw[if_pos (tz (by unfold LIM;omega))]
  ·show(if decide (xs.length<=LIM)=true then _ else _)=_;rw[if_pos (tz (by unfold LIM;omega))]
 have ln:biD "len" [x]=.ok (.int xs.length):=by rcases hx with rfl|rfl<;>rfl
 have t1:Tt [] [F_z4 k] (.tv (.isT (.var 1) ["str"])) [some (.od,x),some (.od,x),none,none] false:=by rcases hx with rfl|rfl<;>exact t_tv (z2i (z03 rfl)).e rfl
 have t2:Tt [] [F_z4 k] (.tv (.isT (.var 1) ["int"])) [some (.od,x),some (.od,x),none,none] false:=by rcases hx with rfl|rfl<;>exact t_tv (z2i (z03 rfl)).e rfl
 have t3:Tt [] [F_z4 k] (.or (.tv (.cmp .NotEq (.isT (.var 1) ["tuple"]) (.isT (.var 0) ["tuple"]))) (.tv (.cmp .NotEq (.isT (.var 1) ["list"]) (.isT (.var 0) ["list"])))) [some (.od,x),some (.od,x),none,none] (false||false):=by rcases hx with rfl|rfl<;>exact t_or (t_tv (z1n (z2i (z03 rfl)).e (z2i (z03 rfl)).e rfl).e rfl) fun _=>t_tv (z1n (z2i (z03 rfl)).e (z2i (z03 rfl)).e rfl).e rfl
 have t4:Tt [] [F_z4 k] (.tv (.cmp .NotEq (.bi "len" (.cons (.var 0) .nil)) (.bi "len" (.cons (.var 1) .nil)))) [some (.od,x),some (.od,x),none,none] false:=t_tv (z1n (v_bi (z09 (z03 rfl) z0h) ln rfl).e (v_bi (z09 (z03 rfl) z0h) ln rfl).e (by show Res.ok (!eqD (.int _) (.int _))=_;rw[z32];simp)).e rfl;refine z3i t1 rfl (z3i t2 rfl (z3i t3 rfl (z3i t4 rfl ?_)))
 have ev:∀i,i<2->∃g,evE [] [F_z4 k] (.var i) [some (.od,x),some (.od,x),none,none]=.ok (g,x)/\z3l (g,x)=true:=fun i h=>by
  rcases hx with rfl|rfl
  ·rcases i with _|_|i
   ·exact⟨.fr,(v_var (i:=0) (g:=.od) (d:=.tuple xs) rfl hi).1,rfl⟩
   ·exact⟨.fr,(v_var (i:=1) (g:=.od) (d:=.tuple xs) rfl hi).1,rfl⟩
   ·omega
  ·rcases i with _|_|i
   ·exact⟨_,rfl,rfl⟩
   ·exact⟨_,rfl,rfl⟩
   ·omega
 obtain⟨g0,e0,c0⟩:=ev 0 (by decide);obtain⟨g1,e1,c1⟩:=ev 1 (by decide);have fz:=zih (Κ:=[]) (Φ:=[F_z4 k]) (ρ:=[some (.od,x),some (.od,x),none,none]) (a:=.var 0) (b:=.var 1) e0 e1 c0 c1 sq sq;rw[z74]at fz;refine zi3 (m:=fun e:D=>.tuple [e,e]) (xs:=xs) fz (fun pre ρ=>∃u2 u3,ρ=[some (.od,x),some (.od,x),u2,u3]) ⟨none,none,rfl⟩ ?_ ?_
 ·rintro pre e post ρ hx' ⟨u2,u3,rfl⟩
  have hm:e∈xs:=by rw[hx'];simp
  have ie:=zmq hi hm;refine⟨[some (.od,x),some (.od,x),some (.al,e),some (.al,e)],?_,.inl ?_⟩
  ·have ig:gJ (.tuple [e,e]) .al=.fr:=z2c (by show(imm e&&(imm e&&true))=true;rw[ie];rfl);rw[ig];show Res.ok [some (.od,x),some (.od,x),some (z4i (gJ e .fr,e)),some (z4i (gJ e .fr,e))]=_;rw[z2c ie];rfl
  ·exact⟨_,z1j (z8i (t_tv (z1r (z09 (v_var rfl ie).e (z09 (v_var rfl ie).e z0h)) rfl (he e hm) rfl).e rfl)) rfl z2m,_,_,rfl⟩
 ·rintro ρ ⟨u2,u3,rfl⟩
  exact z0p (z0y v_bl)
theorem zbk {k:Nat}{a b:D}(ha:F_z4 k [a,a]=.ok (.fr,.bool true))(hb:F_z4 k [b,b]=.ok (.fr,.bool true))(hi:imms [a,b]=true):F_z4 (k+1) [.tuple [a,b],.tuple [a,b]]=.ok (.fr,.bool true):=zes (.inl rfl) hi (show 2<=100 by decide) fun e he=>by
 rcases ak.mp he with rfl|he
 ·exact ha
 ·rw[ce.mp he];exact hb
theorem zae (r:Rr)(h:∀ns,r=.ok ns->ns.length<=100):F_z4 3 [rrD r,rrD r]=.ok (.fr,.bool true):=by
 cases r with
 |row k=>exact zbk (z5a 1 _) (zml 1 _) rfl
 |tw s=>exact zbk (z5a 1 _) (z5a 1 _) rfl
 |ok ns=>refine zes (.inr rfl) (z1s ns) (by rw[av];exact h ns rfl) fun e he=>?_;obtain⟨s,_,rfl⟩:=ci.mp he;exact zbk (z5a 0 _) (z5a 0 _) rfl
def TOk (d:D):Prop:=RaOk isn d/\∀s,z23 isn d=.tw s->PyData.strOk s=true
open Classical in
def z04:Fn:=fun ds=>match ds with
 | [d]=>if TOk d then .ok (.fr,rrD (z23 isn d))else .no
 |_=>.no
def S_z9:S:=(.seq (.asg (.nm 1) (.int 0))
 (.seq (.ifS (.tv (.cmp .Gt (.bi "len" (.cons (.var 0) .nil)) (.int 0)))
 (.seq (.asg (.nm 1) (.bin .Mod (.ix (.var 0) (.int 0)) (.bin .Pow (.int 10) (.int 15))))
 .nil)
 .nil)
 (.seq (.asg (.nm 2) (.call 4 "_law_pool" (.cons (.var 1) .nil)))
 (.seq (.asg (.nm 3) (.comp 2 [2,1] ["_law_k","_law_cell","_law_names","_law_first"] (.tp [0,1]) (.enum (.sl (.var 0) (.tv (.int 1)) (.tv (.int 27)))) .nil (.call 3 "_law_row" (.cons (.var 1) (.cons (.var 0) (.cons (.var 2) (.cons (.cmp .Eq (.bin .Mod (.var 3) (.int 2)) (.int 1)) .nil)))))))
 (.seq (.asg (.nm 4) (.call 2 "_law_due" (.cons (.var 3) .nil)))
 (.seq (.ifS (.tv (.cmp .Eq (.var 3) (.lst .nil)))
 (.seq (.asg (.nm 4) (.tup (.cons (.str "row") (.cons (.int 0) .nil))))
 .nil)
 .nil)
 (.seq (.asg (.nm 5) (.call 1 "_law_told" (.cons (.mt "join" (.str "\n") (.cons (.var 3) .nil)) .nil)))
 (.seq (.ifS (.not (.tv (.call 0 "_law_alike" (.cons (.var 5) (.cons (.var 4) .nil)))))
 (.seq (.ret (.bl false))
 .nil)
 .nil)
 (.seq (.asg (.nm 6) (.ix (.lst (.cons .non (.cons (.int 5) (.cons (.bl true) (.cons (.lst (.cons (.str "fact b") .nil)) (.cons (.tup (.cons (.str "fact b") .nil)) (.cons .dnew (.cons (.lst .nil) (.cons (.bl false) .nil))))))))) (.bin .Mod (.var 1) (.int 8))))
 (.seq (.ret (.call 0 "_law_alike" (.cons (.call 1 "_law_told" (.cons (.var 6) .nil)) (.cons (.tup (.cons (.str "row") (.cons (.int 0) .nil))) .nil))))
 .nil))))))))))
def F_z9:Fn:=runD [] [F_z4 3,z04,F_z8,F_z6,F_z3] 7 S_z9
theorem z6s {d:D}(h:TOk d):z04 [d]=.ok (.fr,rrD (z23 isn d)):=by unfold z04;exact if_pos h
theorem zf5:∀{a:List Nat},10∉a->splC 10 a=[a]
 | [],_=>rfl
 |c::a,h=>by have hc:c≠10:=fun z=>h (by rw[z];exact ai);unfold splC;rw[if_neg hc,zf5 fun z=>h (ah _ z)]
theorem zb2:∀{a b:List Nat},10∉a->splC 10 (a++10::b)=a::splC 10 b
 | [],b,_=>rfl
 |c::a,b,h=>by have hc:c≠10:=fun z=>h (by rw[z];exact ai);rw[List.cons_append];show(if c=10 then[]::splC 10 (a++10::b)else match splC 10 (a++10::b)with|h::t=>(c::h)::t| []=>[[c]])=_;rw[if_neg hc,zb2 fun z=>h (ah _ z)]
theorem z3c (x y:Str)(r:List Str):z2h [10] (x::y::r)=x.cps.toList++10::z2h [10] (y::r):=by show x.cps.toList++(qm (fun p:Str=>[10]++p.cps.toList) (y::r)).flatten=_;rw[bn,k8];rfl
theorem z7g:∀(r:List Str) (x:Str),(∀s∈x::r,10∉s.cps.toList)->splC 10 (z2h [10] (x::r))=(x::r).map fun s=>s.cps.toList
 | [],x,h=>by show splC 10 (x.cps.toList++[])=_;rw[dj,zf5 (h x ai)];rfl
 |y::r,x,h=>by rw[z3c,zb2 (h x ai),z7g r y fun s hs=>h s (ah _ hs)];rfl
theorem zai:("\n":Str).cps.toList=[10]:=by decide+kernel
theorem zkq (s:Str):toS s.cps.toList=s:=zqz (by show s.cps.toList.toArray.toList=_;simp)
theorem zhf {rs:List Str}(hr:∀r∈rs,RowP r)(hn:rs≠[]):spW 10 (z17 "\n" rs)=rs:=by
 cases rs with
 |nil=>exact absurd rfl hn
 |cons x r=>unfold spW;rw[zbx,zai,z7g r x fun s hs=>zk6 (hr s hs).asc,dw];have:(toS∘fun s:Str=>s.cps.toList)=id:=funext zkq;rw[this,q8]
theorem z88:∀{rs:List Str} {c:Nat},c∈z2h [10] rs->c=10\/∃r∈rs,c∈r.cps.toList
 | [],c,h=>by cases h
 | [x],c,h=>by have h:c∈x.cps.toList++[]:=h;rw[dj]at h;exact .inr ⟨x,ai,h⟩
 |x::y::r,c,h=>by
  rw[z3c]at h;rcases dz.mp h with h|h
  ·exact .inr ⟨x,ai,h⟩
  ·rcases ak.mp h with h|h
   ·exact .inl h
   ·rcases z88 h with h|⟨q,hq,h⟩
    ·exact .inl h
    ·exact .inr ⟨q,ah _ hq,h⟩
theorem zhc {rs:List Str}(hr:∀r∈rs,RowP r):PyData.strOk (z17 "\n" rs)=true:=by
 unfold PyData.strOk;rw[<-lg,bp];intro c hc;rw[zbx,zai]at hc;rcases z88 hc with rfl|⟨r,h,hc⟩
 ·decide
 ·have :=(hr r h).asc c hc;unfold ac at this;rw[aq,decide_eq_true_eq]at this;simp;omega
theorem z7v:∀{rs:List Str},(∀r∈rs,r.length<=60)->(z2h [10] rs).length<=61*rs.length
 | [],_=>aj _
 | [x],h=>by show(x.cps.toList++[]).length<=_;rw[dj,<-zhh];have:=h x ai;simp;omega
 |x::y::r,h=>by rw[z3c,br,ay,<-zhh,ay];have:=h x ai;have:=z7v (rs:=y::r) fun s hs=>h s (ah _ hs);omega
theorem z7r:∀{rs:List Str},(∀r∈rs,r.length<=60)->(rs.map (·.length)).sum<=60*rs.length
 | [],_=>aj _
 |x::r,h=>by rw[bn,List.sum_cons,ay];have:=h x ai;have:=z7r (rs:=r) fun s hs=>h s (ah _ hs);omega
theorem z1i {c:Nat}:∀(xs:List Nat),∀l∈splC c xs,∀a∈l,a∈xs
 | [],l,h,a,ha=>by have h:l∈[[]]:=h;rw[ce.mp h]at ha;cases ha
 |b::r,l,h,a,ha=>by
  have ih:=z1i (c:=c) r;unfold splC at h;by_cases e:b=c
  ·rw[if_pos e]at h;rcases ak.mp h with rfl|h
   ·cases ha
   ·exact ah _ (ih l h a ha)
  ·rw[if_neg e]at h;cases hs:splC c r with
   |nil=>rw[hs]at h;rw[ce.mp h]at ha;rw[ce.mp ha];exact ai
   |cons q t=>
    rw[hs]at h ih;rcases ak.mp h with rfl|h
    ·rcases ak.mp ha with rfl|ha
     ·exact ai
     ·exact ah _ (ih q ai a ha)
    ·exact ah _ (ih l (ah _ h) a ha)
theorem z7c {s:Str}:∀(rs:List Str) (k:Nat) (ns:List Str),(∀r∈rs,RowP r)->z0o isn k ns rs=.tw s->PyData.strOk s=true
 | [],_,_,_,h=>by cases h
 |r::rs,k,ns,hr,h=>by
  have h:(if k=24 then Rr.row k else match z1c isn (spW 32 r)with
   |none=>.row k
   |some nm=>if nm∈ns then .tw nm else z0o isn (k+1) (ns++[nm]) rs)=.tw s:=h
  split at h
  ·cases h
  ·split at h
   ·cases h
   ·rename_i nm hn;split at h
    ·cases h;refine z6t hn fun w hw=>⟨?_,?_⟩
     ·obtain⟨l,hl,rfl⟩:=ci.mp hw;unfold PyData.strOk;rw[<-lg,bp];intro c hc;have hc:c∈l.toArray.toList:=hc;rw[jx]at hc;have hm:c∈r.cps.toList:=z1i _ l hl c hc;have:=(hr r ai).asc c hm;unfold ac at this;rw[aq,decide_eq_true_eq]at this;simp;omega
     ·have :=z4o _ hw;have:=(hr r ai).len;unfold LIM;omega
    ·exact z7c rs _ _ (fun q hq=>hr q (ah _ hq)) h
theorem zeb {rs:List Str}(hr:∀r∈rs,RowP r)(hl:rs.length<=30):z04 [.str (z17 "\n" rs)]=.ok (.fr,rrD (if rs=[]then .row 0 else z0o isn 0 [] rs)):=by
 have hr60:∀r∈rs,r.length<=60:=fun r h=>(hr r h).len;have hjl:(z17 "\n" rs).length<=2000:=by rw[zhh,zbx,zai];have:=z7v hr60;omega
 by_cases he:rs=[]
 ·subst he;have e0:z17 "\n" []="":=by decide+kernel
  have e1:spW 10 ("":Str)=[("":Str)]:=by decide+kernel
  have e2:spW 32 ("":Str)=[("":Str)]:=by decide+kernel
  rw[if_pos rfl,e0];have ra:z23 isn (.str "")=.row 0:=by show z0o isn 0 [] (spW 10 "")=_;rw[e1];show(if 0=24 then Rr.row 0 else match z1c isn (spW 32 "")with|none=>.row 0|some nm=>if nm∈[]then .tw nm else z0o isn 1 ([]++[nm]) [])=_;rw[e2];have:z1c isn [("":Str)]=none:=zfh (by decide);rw[this];rfl
  rw[z6s ⟨⟨z43,fun t h=>by cases h;refine⟨⟨by decide+kernel,by decide+kernel⟩,fun r hr'=>?_,by rw[e1];decide⟩;rw[e1]at hr';rw[ce.mp hr',e2];exact fun _=>rfl⟩,fun s h=>by rw[ra]at h;cases h⟩,ra]
 ·rw[if_neg he];have sj:=zhf hr he;have ra:z23 isn (.str (z17 "\n" rs))=z0o isn 0 [] rs:=by show z0o isn 0 [] (spW 10 (z17 "\n" rs))=_;rw[sj]
  rw[z6s ⟨⟨z43,fun t h=>by cases h;refine⟨⟨zhc hr,by unfold LIM;omega⟩,fun r hr'=>?_,by rw[sj];omega⟩;rw[sj]at hr';exact(hr r hr').sp⟩,fun s h=>z7c rs 0 [] hr (by rw[<-ra];exact h)⟩,ra]
theorem zi4 {d:D}(h:∀t,d≠.str t):z04 [d]=.ok (.fr,.tuple [.str "row",.int 0]):=by have ra:z23 isn d=.row 0:=z87 (by cases d<;>first|rfl|exact absurd rfl (h _));rw[z6s ⟨⟨z43,fun t e=>absurd e (h t)⟩,fun s e=>by rw[ra]at e;cases e⟩,ra];rfl
theorem z50:∀(rs:List Str) (k:Nat) (ns ms:List Str),z0o isn k ns rs=.ok ms->ms.length=ns.length+rs.length
 | [],_,ns,ms,h=>by cases h;rfl
 |r::rs,k,ns,ms,h=>by
  have h:(if k=24 then Rr.row k else match z1c isn (spW 32 r)with
   |none=>.row k
   |some nm=>if nm∈ns then .tw nm else z0o isn (k+1) (ns++[nm]) rs)=.ok ms:=h
  split at h
  ·cases h
  ·split at h
   ·cases h
   ·split at h
    ·cases h
    ·rw[z50 rs _ _ _ h];simp;omega
theorem ziz {ns:List Str}{b:Bool}(hn:Ns 27 ns):∃f:Int×Nat->Str,∀p:Int×Nat,p.2<27->RowP (f p)/\F_z6 [.int p.1,.int p.2,.list (ns.map .str),.bool b]=.ok (.fr,.str (f p)):=by refine⟨fun p=>if h:p.2<27 then(zmk p.1 (k:=p.2) (b:=b) hn h).choose else "",fun p hp=>?_⟩;show RowP (if h:p.2<27 then _ else _)/\F_z6 _=.ok (.fr,.str (if h:p.2<27 then _ else _));rw[dif_pos hp];exact(zmk p.1 (k:=p.2) (b:=b) hn hp).choose_spec
theorem zd1 (ρ:Rho)(j:Int)(v:Int)(h:ρ[1]?=some (some (.al,.int v)))(hj:v%8=j)(Φ:List Fn):∃g d,evE [] Φ (.ix (.lst (.cons .non (.cons (.int 5) (.cons (.bl true) (.cons (.lst (.cons (.str "fact b") .nil)) (.cons (.tup (.cons (.str "fact b") .nil)) (.cons .dnew (.cons (.lst .nil) (.cons (.bl false) .nil))))))))) (.bin .Mod (.var 1) (.int 8))) ρ=.ok (g,d)/\∀t,d≠.str t:=by
 have em:evE [] Φ (.bin .Mod (.var 1) (.int 8)) ρ=.ok (.fr,.int j):=by rw[<-hj];exact(z0c (z03 h) z0a.e (z1h (by decide)) rfl).1
 have hb:0<=j/\j<8:=by rw[<-hj];exact⟨fm _ (by decide),g9 _ (by decide)⟩
 have ej:j=0\/j=1\/j=2\/j=3\/j=4\/j=5\/j=6\/j=7:=by omega
 rw[E_ix];rw[em];rcases ej with rfl|rfl|rfl|rfl|rfl|rfl|rfl|rfl<;>exact⟨_,_,rfl,nofun⟩
theorem e_z9 {xs:List Int}(hl:xs.length<=63):F_z9 [.list (xs.map .int)]=.ok (.fr,.bool true):=by
 unfold F_z9;refine z1m ?_
 let Q:Res Out->Prop:=fun r=>r=.ok (.rt .fr (.bool true))
 show Q (evS [] [F_z4 3,z04,F_z8,F_z6,F_z3] S_z9 [some (.od,.list (xs.map .int)),none,none,none,none,none,none]);unfold S_z9;refine q_ok (z0t z0a) ?_;have first:∃v:Int,∀rest,Q (evS [] [F_z4 3,z04,F_z8,F_z6,F_z3] rest [some (.od,.list (xs.map .int)),some (.al,.int v),none,none,none,none,none])->Q (evS [] [F_z4 3,z04,F_z8,F_z6,F_z3] (.seq (.ifS (.tv (.cmp .Gt (.bi "len" (.cons (.var 0) .nil)) (.int 0)))
 (.seq (.asg (.nm 1) (.bin .Mod (.ix (.var 0) (.int 0)) (.bin .Pow (.int 10) (.int 15))))
 .nil)
 .nil) rest) [some (.od,.list (xs.map .int)),some (.al,.int 0),none,none,none,none,none]):=by
  have tc:Tt [] [F_z4 3,z04,F_z8,F_z6,F_z3] (.tv (.cmp .Gt (.bi "len" (.cons (.var 0) .nil)) (.int 0))) [some (.od,.list (xs.map .int)),some (.al,.int 0),none,none,none,none,none] (decide ((0:Int)<xs.length)):=t_tv (z1n (v_bi (z09 (z03 rfl) z0h) (zck xs) rfl).e z0a.e rfl).e rfl;by_cases h:(0:Int)<xs.length
  ·refine⟨xs.getD 0 0%1000000000000000,fun rest k=>zis tc (tz h) (z0v (z0t (z0c (v_ix (z03 rfl) z0a.e (zif (by omega) h) rfl).e (z0c (d:=.int 1000000000000000) z0a.e z0a.e rfl rfl).e (z1h (by decide)) rfl)) z2m) k⟩
  ·exact⟨0,fun rest k=>z3i tc (t7 h) k⟩
 obtain⟨v,first⟩:=first
 refine first _ ?_
 obtain⟨ns,hns,en⟩:=znf v;refine q_ok (z1k (xs:=ns.map .str) (zey (z09 (z03 rfl) z0h) rfl en) (z0f _)) ?_
 let cs:List Int:=cut xs (some 1) (some 27)
 have hcs:cs.length<=26:=by show(cut xs (some 1) (some 27)).length<=26;unfold cut;simp only[Mi.sIx,f8,gq];split<;>split<;>omega
 obtain⟨f,hf⟩:=ziz (b:=decide (v%2=1)) hns;have hp2:∀p∈cs.zipIdx,p.2<27:=fun p hp=>by have:=(bo.mp (zmv hp)).1;omega
 have ec:=z3u (Κ:=[]) (Φ:=[F_z4 3,z04,F_z8,F_z6,F_z3]) (ρ:=[some (.od,.list (xs.map .int)),some (.al,.int v),some (.fr,.list (ns.map .str)),none,none,none,none]) (nt:=2) (js:=[2,1]) (N':=["_law_k","_law_cell","_law_names","_law_first"]) (tg:=.tp [0,1]) (it:=.enum (.sl (.var 0) (.tv (.int 1)) (.tv (.int 27)))) (cond:=.nil) (elt:=.call 3 "_law_row" (.cons (.var 1) (.cons (.var 0) (.cons (.var 2) (.cons (.cmp .Eq (.bin .Mod (.var 3) (.int 2)) (.int 1)) .nil))))) (m:=fun p:Int×Nat=>PyData.tuple [.int p.2,.int p.1]) (xs:=cs.zipIdx) (w:=(.al,z0r 0 (cs.map .int))) (fun _=>true) (fun p=>.str (f p)) (z9k (Ev.of (zmw (m:=PyData.int) (fun _=>rfl) (z03 rfl) (z8u z0a.e) (z8u z0a.e))) (by
   show(if decide ((cs.map PyData.int).length<=LIM)=true then _ else _)=_;rw[if_pos (tz (by rw[av];unfold LIM;omega))])) (zfw .int 0 cs) (fun p=>[some (.al,.int p.2),some (.al,.int p.1),some (.al,.list (ns.map .str)),some (.al,.int v)]) (fun p _=>rfl) (fun p _=>z6i)
  (fun p hp _=>z1r (z09 (z03 rfl) (z09 (z03 rfl) (z09 (z03 rfl) (z09 (z1n (k:=decide (v%2=1)) (z0c (z03 rfl) z0a.e (z1h (by decide)) rfl).e z0a.e (by show Res.ok (eqD (.int _) (.int _))=_;rw[z32])).e z0h)))) rfl (hf p (hp2 p hp)).2 rfl)
 rw[gk.mpr fun _ _=>rfl]at ec;have hr:∀r∈cs.zipIdx.map f,RowP r:=fun r h=>by obtain⟨p,hp,rfl⟩:=ci.mp h;exact(hf p (hp2 p hp)).1
 have hrl:(cs.zipIdx.map f).length<=26:=by rw[av,List.length_zipIdx];exact hcs
 have e9:(cs.zipIdx.map fun p=>PyData.str (f p))=(cs.zipIdx.map f).map .str:=by rw[dw];rfl
 rw[e9]at ec;generalize cs.zipIdx.map f=rows at ec hr hrl;refine q_ok (z1k ec (z0f _)) ?_
 have asg:∀{ρ:Rho} {i j:Nat} {nm:Str} {args:C} {ds:List D} {mm:Fn} {r:Rr},Aa [] [F_z4 3,z04,F_z8,F_z6,F_z3] args ρ ds->[F_z4 3,z04,F_z8,F_z6,F_z3][j]?=some mm->mm ds=.ok (.fr,rrD r)->∃g,evS [] [F_z4 3,z04,F_z8,F_z6,F_z3] (.asg (.nm i) (.call j nm args)) ρ=.ok (.nx (ρ.set i (some (g,rrD r)))):=fun{ρ i j nm args ds mm r} ha hj hm=>by
  cases r with
  |ok ms=>exact⟨.fr,z1k (zey ha hj hm) (z1s ms)⟩
  |row k=>exact⟨.al,z0t (z1r ha hj hm rfl)⟩
  |tw z=>exact⟨.al,z0t (z1r ha hj hm rfl)⟩
 obtain⟨g4,e4⟩:=asg (ρ:=[some (.od,.list (xs.map .int)),some (.al,.int v),some (.fr,.list (ns.map .str)),some (.fr,.list (rows.map .str)),none,none,none]) (i:=4) (j:=2) (nm:="_law_due") (z09 (a:=.var 3) (z03 rfl) z0h) rfl (zqw hr (by omega));refine q_ok e4 ?_
 have tn:Tt [] [F_z4 3,z04,F_z8,F_z6,F_z3] (.tv (.cmp .Eq (.var 3) (.lst .nil))) [some (.od,.list (xs.map .int)),some (.al,.int v),some (.fr,.list (ns.map .str)),some (.fr,.list (rows.map .str)),some (g4,rrD (z0o isn 0 [] rows)),none,none] (decide (rows=[])):=t_tv (z1n (k:=decide (rows=[])) (z03 rfl) (Ev.of (z3m z15)) (by
  show(if(shal 40 (.list (rows.map .str))&&shal 40 (.list []))=true then Res.ok (eqD (.list (rows.map .str)) (.list []))else .no)=_;have:shal 40 (.list (rows.map .str))=true:=z4f 38 rows;rw[this];show Res.ok _=_;cases rows with
  |nil=>rfl
  |cons x r=>rfl)).e rfl
 have hr60:∀r∈rows,r.length<=60:=fun r h=>(hr r h).len;have jw:z6j "\n" rows<=LIM:=by unfold z6j;have:=z7r hr60;have:("\n":Str).length=1:=rfl;unfold LIM;rw[this];omega
 have fin:∀(g4:G),Q (evS [] [F_z4 3,z04,F_z8,F_z6,F_z3] (.seq (.asg (.nm 5) (.call 1 "_law_told" (.cons (.mt "join" (.str "\n") (.cons (.var 3) .nil)) .nil)))
 (.seq (.ifS (.not (.tv (.call 0 "_law_alike" (.cons (.var 5) (.cons (.var 4) .nil)))))
 (.seq (.ret (.bl false))
 .nil)
 .nil)
 (.seq (.asg (.nm 6) (.ix (.lst (.cons .non (.cons (.int 5) (.cons (.bl true) (.cons (.lst (.cons (.str "fact b") .nil)) (.cons (.tup (.cons (.str "fact b") .nil)) (.cons .dnew (.cons (.lst .nil) (.cons (.bl false) .nil))))))))) (.bin .Mod (.var 1) (.int 8))))
 (.seq (.ret (.call 0 "_law_alike" (.cons (.call 1 "_law_told" (.cons (.var 6) .nil)) (.cons (.tup (.cons (.str "row") (.cons (.int 0) .nil))) .nil))))
 .nil)))) [some (.od,.list (xs.map .int)),some (.al,.int v),some (.fr,.list (ns.map .str)),some (.fr,.list (rows.map .str)),some (g4,rrD (if rows=[]then .row 0 else z0o isn 0 [] rows)),none,none]):=fun g4=>by
  have hlen:∀ms,(if rows=[]then Rr.row 0 else z0o isn 0 [] rows)=.ok ms->ms.length<=100:=fun ms h=>by
   split at h
   ·cases h
   ·have :=z50 rows 0 [] ms h;rw[this];simp;omega
  obtain⟨g5,e5⟩:=asg (ρ:=[some (.od,.list (xs.map .int)),some (.al,.int v),some (.fr,.list (ns.map .str)),some (.fr,.list (rows.map .str)),some (g4,rrD (if rows=[]then .row 0 else z0o isn 0 [] rows)),none,none]) (i:=5) (j:=1) (nm:="_law_told") (z09 (v_mt z0d.e (z09 (a:=.var 3) (z03 rfl) z0h) (zcq jw) rfl).e z0h) rfl (zeb hr (by omega));refine q_ok e5 ?_;generalize hr1:(if rows=[]then Rr.row 0 else z0o isn 0 [] rows)=r1 at hlen;refine z3i (z8i (t_tv (z1r (z09 (a:=.var 5) (z03 rfl) (z09 (a:=.var 4) (z03 rfl) z0h)) rfl (zae r1 hlen) rfl).e rfl)) rfl ?_;obtain⟨g,d,ed,nd⟩:=zd1 [some (.od,.list (xs.map .int)),some (.al,.int v),some (.fr,.list (ns.map .str)),some (.fr,.list (rows.map .str)),some (g4,rrD r1),some (g5,rrD r1),none] (v%8) v rfl rfl [F_z4 3,z04,F_z8,F_z6,F_z3]
  obtain⟨g6,hs⟩:∃g6,z16 (g,d)=(g6,d):=by
   by_cases hi:imm d=true
   ·exact⟨.al,by show(if imm d=true then _ else _)=_;rw[if_pos hi]⟩
   ·cases g<;>cases d<;>first|exact⟨_,rfl⟩|exact absurd rfl hi|exact⟨_,by show(if imm _=true then _ else _)=_;rw[if_neg hi]⟩
  have e6:evS [] [F_z4 3,z04,F_z8,F_z6,F_z3] (.asg (.nm 6) (.ix (.lst (.cons .non (.cons (.int 5) (.cons (.bl true) (.cons (.lst (.cons (.str "fact b") .nil)) (.cons (.tup (.cons (.str "fact b") .nil)) (.cons .dnew (.cons (.lst .nil) (.cons (.bl false) .nil))))))))) (.bin .Mod (.var 1) (.int 8)))) [some (.od,.list (xs.map .int)),some (.al,.int v),some (.fr,.list (ns.map .str)),some (.fr,.list (rows.map .str)),some (g4,rrD r1),some (g5,rrD r1),none]=.ok (.nx [some (.od,.list (xs.map .int)),some (.al,.int v),some (.fr,.list (ns.map .str)),some (.fr,.list (rows.map .str)),some (g4,rrD r1),some (g5,rrD r1),some (g6,d)]):=by rw[zhd,ed,Res.ok_bind,hs];rfl
  refine q_ok e6 ?_;exact z0p (z0y (z1r (z09 (z1r (z09 (a:=.var 6) (z03 rfl) z0h) rfl (zi4 nd) rfl).e (z09 (z8o (z05 z0d (z05 z0a z15))).e z0h)) rfl (zae (.row 0) (fun ms h=>by cases h)) rfl))
 by_cases hn:rows=[]
 ·refine zis tn (tz hn) (z0v (z0t (z8o (z05 z0d (z05 z0a z15)))) z2m) ?_;have:=fin .al;rw[if_pos hn]at this;exact this
 ·refine z3i tn (t7 hn) ?_;have:=fin g4;rw[if_neg hn]at this;exact this
end Mk
namespace Mk
open PySem PySem.Spec PyProof.Rows L2 Mi
section
def top (i:Nat):Stmt:=PySem.Challenge.pw_likebook_k51_facts.main.body.getD i (.Pass ⟨0,0,0,0⟩)
def ofC (i:Nat):Stmt->Stmt
 |.ClassDef _ _ _ b ..=>b.getD i (.Pass ⟨0,0,0,0⟩)
 |s=>s
def Sb:Nat->S
 |0=>.nil
 |n+1=>.seq .bad (Sb n)
def F0 (n k:Nat):Fn:=runD [] [] n (Sb k)
def zjz:Fn:=runD [] [F_z4 3,F0 4 1,F_z8,F_z6,F_z3] 7 S_z9
abbrev FREE:List Str:=["isinstance","str","len","all","range","list","tuple","int","bool","zip","enumerate","ValueError"]
abbrev Rz:List DRow:=[
 ⟨"is_name",top 16,["thing"],["thing"],["all","len","isinstance","str"],[],S_z0,F_z0,.n,[("NO_NAMES",["and","or","not","if","is","some","all","for","against"])]⟩,
 ⟨"read_names",top 30,["row","names","name"],["row"],FREE,[],Sb 3,F0 3 3,.n,[]⟩,
 ⟨"read_saying",top 31,["row","room","name"],["row","room"],FREE,[],Sb 7,F0 3 7,.n,[]⟩,
 ⟨"read_asking",top 32,["row","room","word"],["row","room"],FREE,[],Sb 6,F0 3 6,.n,[]⟩,
 ⟨"read_head",top 28,["row","name"],["row"],FREE,[],Sb 3,F0 2 3,.n,[]⟩,
 ⟨"read_open",top 29,["row","name","fors"],["row"],FREE,[],Sb 6,F0 3 6,.n,[]⟩,
 ⟨"read_row",top 27,["row","kind","told"],["row"],FREE,[],Sb 4,F0 3 4,.n,[]⟩,
 ⟨"check_names",top 26,["row","told","name","tellers"],["row","told"],FREE,[],Sb 2,F0 4 2,.n,[]⟩,
 ⟨"read_act",top 25,["text","act","kinds","number","written","row","told"],["text"],FREE,[],Sb 5,F0 7 5,.n,[]⟩,
 ⟨"_law_mixed",top 36,["_law_cell","_law_k"],["_law_cell","_law_k"],[],[],S_z1,F_z1,.n,[]⟩,
 ⟨"_law_good_name",top 37,["_law_word"],["_law_word"],[],[],S_z2,F_z2,.n,[]⟩,
 ⟨"_law_pool",top 38,["_law_cell","_law_letters","_law_number","_law_many","_law_stem","_law_at","_law_signs","_law_k","_law_names"],["_law_cell"],["range"],[10,9],S_z3,F_z3,.n,[]⟩,
 ⟨"_law_told",top 39,["_law_text","e","_law_some","_law_kinds"],["_law_text"],FREE,[],Sb 1,F0 4 1,.n,[]⟩,
 ⟨"_law_alike",top 40,["_law_found","_law_due_here","_law_one","_law_two"],["_law_found","_law_due_here"],["zip","len","isinstance","list","tuple","int","bool","str"],[],S_z5,F_z4 0,.n,[]⟩,
 ⟨"_law_alike",top 40,["_law_found","_law_due_here","_law_one","_law_two"],["_law_found","_law_due_here"],["zip","len","isinstance","list","tuple","int","bool","str"],[13],S_z4,F_z4 1,.n,[]⟩,
 ⟨"_law_alike",top 40,["_law_found","_law_due_here","_law_one","_law_two"],["_law_found","_law_due_here"],["zip","len","isinstance","list","tuple","int","bool","str"],[14],S_z4,F_z4 2,.n,[]⟩,
 ⟨"_law_alike",top 40,["_law_found","_law_due_here","_law_one","_law_two"],["_law_found","_law_due_here"],["zip","len","isinstance","list","tuple","int","bool","str"],[15],S_z4,F_z4 3,.n,[]⟩,
 ⟨"_law_row",top 41,["_law_cell","_law_k","_law_names","_law_odd","_law_number","_law_rows","_law_some"],["_law_cell","_law_k","_law_names","_law_odd"],[],[9],S_z6,F_z6,.n,[]⟩,
 ⟨"_law_is_name",top 43,["_law_word","_law_sign"],["_law_word"],["len"],[],S_z7,F_z7,.n,[]⟩,
 ⟨"_law_due",top 42,["_law_rows","_law_act_told","_law_known","_law_k","_law_words"],["_law_rows"],["range","len"],[18],S_z8,F_z8,.n,[]⟩]
abbrev Lr:DRow:=⟨"law",top 44,["_law_script","_law_first","_law_names","_law_rows","_law_due_here","_law_found","_law_thing"],["_law_script"],["enumerate","len"],[16,12,19,17,11],S_z9,zjz,.n,[]⟩
abbrev Xt:List XR:=[]
abbrev Ms:List DRow:=[
 ⟨"__init__",ofC 0 (top 24),["self","number","text","kinds"],["self","number","text","kinds"],FREE,[],Sb 5,fun _=>.no,.n,[]⟩,
 ⟨"peek",ofC 1 (top 24),["self"],["self"],FREE,[],Sb 1,fun _=>.no,.n,[]⟩,
 ⟨"take",ofC 2 (top 24),["self","word"],["self"],FREE,[],Sb 3,fun _=>.no,.n,[]⟩,
 ⟨"take_word",ofC 3 (top 24),["self","word"],["self","word"],FREE,[],Sb 1,fun _=>.no,.n,[]⟩,
 ⟨"take_name",ofC 4 (top 24),["self","name"],["self"],FREE,[],Sb 3,fun _=>.no,.n,[]⟩,
 ⟨"take_end",ofC 5 (top 24),["self"],["self"],FREE,[],Sb 1,fun _=>.no,.n,[]⟩,
 ⟨"__init__",ofC 0 (top 11),["self","row"],["self","row"],FREE,[],Sb 1,fun _=>.no,.n,[]⟩,
 ⟨"__init__",ofC 0 (top 12),["self","name"],["self","name"],FREE,[],Sb 1,fun _=>.no,.n,[]⟩,
 ⟨"__init__",ofC 0 (top 13),["self","name"],["self","name"],FREE,[],Sb 1,fun _=>.no,.n,[]⟩]
abbrev Cr:CRow:=⟨"Row",["number","words","place","kinds","said"],[("__init__",ofC 0 (top 24)),("peek",ofC 1 (top 24)),("take",ofC 2 (top 24)),("take_word",ofC 3 (top 24)),("take_name",ofC 4 (top 24)),("take_end",ofC 5 (top 24))]⟩
abbrev ALLX (c:Str):List (Str×Bool):=(["Late","NoCourt","NoPack","NoReason","NoRow","NoRuling","NoSide","NotAllowed","NotYours","TooMuch","Twice","Unknown"]:List Str).map fun x=>(x,x==c)
abbrev Xs:List XRow:=[⟨"NoRow","row","BookError",ALLX "NoRow",ofC 0 (top 11)⟩,⟨"Twice","name","BookError",ALLX "Twice",ofC 0 (top 12)⟩,⟨"Unknown","name","BookError",[],ofC 0 (top 13)⟩]
abbrev Gs:List (Str×Int):=[("MOST_ROWS",24),("MOST_OPENS",4),("MOST_DEEP",8)]
theorem t_ok:oks (Rz++[Lr]) Xt FREE 0 (Rz++[Lr])=true:=by decide+kernel
theorem t_F:fOks (Rz++[Lr]) (Rz++[Lr]):=⟨rfl,rfl,rfl,rfl,rfl,rfl,rfl,rfl,rfl,rfl,rfl,rfl,rfl,rfl,rfl,rfl,rfl,rfl,rfl,rfl,rfl,trivial⟩
theorem t_M:oks Ms Xt FREE 0 Ms=true:=by decide+kernel
abbrev FL:List (Str×Str):=[("NoRow","row"),("Twice","name"),("Unknown","name")]
abbrev GI:List Str:=["MOST_ROWS","MOST_OPENS","MOST_DEEP"]
abbrev subsX (c:Str):List (Str×Str×Bool):=(c,("ValueError":Str),true)::(ALLX c).map fun y=>(c,y.1,y.2)
abbrev SUB:List (Str×Str×Bool):=subsX "NoRow"++subsX "Twice"
abbrev gB (st:Stmt)(N:List Str)(fns:List (Str×Nat)):Gm:={N:=N,sc:=z07 st,free:=FREE,fns:=fns,cst:=[],sub:=SUB,rs:=[],hnd:=[("NoRow","BookError"),("Twice","BookError")]}
abbrev gw (r:DRow)(fns fn me cl:List (Str×Nat)):Gw:={g:=gB r.st r.N fns,fn:=fn,me:=me,cl:=cl,gi:=GI,fld:=FL}
abbrev gw0 (r:DRow)(me:List (Str×Nat)):Gw:={g:=gB r.st r.N [],fn:=[],me:=me,cl:=[],gi:=GI}
abbrev M0:Str×Nat:=("peek",0)
abbrev M1:Str×Nat:=("take",0)
abbrev M2:Str×Nat:=("take_word",1)
abbrev M3:Str×Nat:=("take_name",0)
abbrev M4:Str×Nat:=("take_end",0)
abbrev m (i:Nat):DRow:=Ms.getD i Lr
abbrev z (i:Nat):DRow:=Rz.getD i Lr
def xi (f:Str):WS:=.seq (.xfl (.raw 0) f (.raw 1)) .nil
theorem w_in:wkL (gw0 (m 0) []) Rd.init (z08 (m 0).st)=true:=by decide+kernel
theorem w_pk:wkL (gw0 (m 1) []) Rd.peek (z08 (m 1).st)=true:=by decide+kernel
theorem w_tk:wkL (gw0 (m 2) [M0]) Rd.take (z08 (m 2).st)=true:=by decide+kernel
theorem w_tw:wkL (gw (m 3) [] [] [M0,M1] []) Rd.takeWord (z08 (m 3).st)=true:=by decide+kernel
theorem w_tn:wkL (gw (m 4) [("is_name",1)] [] [M0,M1] []) Rd.takeName (z08 (m 4).st)=true:=by decide+kernel
theorem w_te:wkL (gw (m 5) [] [] [M0,M1] []) Rd.takeEnd (z08 (m 5).st)=true:=by decide+kernel
theorem w_x1:wkL (gw0 (m 6) []) (xi "row") (z08 (m 6).st)=true:=by decide+kernel
theorem w_x2:wkL (gw0 (m 7) []) (xi "name") (z08 (m 7).st)=true:=by decide+kernel
theorem w_x3:wkL (gw0 (m 8) []) (xi "name") (z08 (m 8).st)=true:=by decide+kernel
abbrev MM:List (Str×Nat):=[M0,M1,M2,M3,M4]
theorem w_cn:wkL (gw (z 7) [] [] MM []) Rd.checkNames (z08 (z 7).st)=true:=by decide+kernel
theorem w_hd:wkL (gw (z 4) [] [] MM []) Rd.readHead (z08 (z 4).st)=true:=by decide+kernel
theorem w_op:wkL (gw (z 5) [] [("read_names",1)] MM []) Rd.readOpen (z08 (z 5).st)=true:=by decide+kernel
theorem w_rr:wkL (gw (z 6) [] [("read_open",1),("read_head",1),("read_saying",2),("read_asking",2)] MM []) Rd.readRow (z08 (z 6).st)=true:=by decide+kernel
theorem w_ra:wkL (gw (z 8) [] [("read_row",1),("check_names",2)] [] [("Row",3)]) Rd.readAct (z08 (z 8).st)=true:=by decide+kernel
theorem w_to:wkL (gw (z 12) [] [("read_act",1)] [] []) Rd.told (z08 (z 12).st)=true:=by decide+kernel
theorem w_la:chkL (Lr.G (Rz++[Lr]) Xt) S_z9 (z08 (top 44))=true:=by decide+kernel
open PySem.Spec PyProof.Rows L2
theorem to0 {P:ax}{w:World}{K:W.Frag}{mg:Str->Option Value}{base:Heap}{k:Nat}{f:Addr}{fd:di}{ps:List Str}{sp sp':Sp}(F:FnOk P w K mg base (CXE P w base) k f fd ps sp)(h:∀vs H Q E,sp' vs H Q E->sp vs H Q fun _ _ _=>False):FnOk P w K mg base CX0 k f fd ps sp':=
 ⟨fun vs H Q E q=>F.len vs H Q _ (h _ _ _ _ q),fun A outer s H args us vs Q E hr he hb hv hs=>jp (F.run A outer s H args us vs Q _ hr he hb hv (h _ _ _ _ hs)) fun r s' z=>by
  cases r with
  |error e=>obtain⟨_,_,_,_,_,_,z⟩:=z;exact z.elim
  |ok x=>cases x<;>exact z⟩
theorem zhw {P:ax}{w:World}{K:W.Frag}{mg:Str->Option Value}{base:Heap}{CX:CXT}{k:Nat}{f:Addr}{fd:di}{ps:List Str}:FnOk P w K mg base CX k f fd ps (fun _ _ _ _=>False):=⟨fun _ _ _ _ z=>z.elim,fun _ _ _ _ _ _ _ _ _ _ _ _ _ z=>z.elim⟩
section
variable {P:ax}{w:World}{K:W.Frag}{mg:Str->Option Value}{base:Heap}{CR:Addr}
theorem z2d {Rs:List DRow}{i:Nat}{r:DRow}(h:oks Rs Xt FREE 0 Rs=true)(e:Rs[i]?=some r):FnScope r.N r.ps (z07 r.st):=(z5y (z72 h e)).1
theorem zjb {Γ:Gm}(h1:Γ.sub=SUB)(h2:Γ.rs=[])(h3:Γ.hnd=([("NoRow","BookError"),("Twice","BookError")]:List (Str×Str)))(hz:mg "ValueError"=none)(G:∀(x:Str) (v:Value),W.nsIn K bh x=some (some v)->mg x=some v)(XX:∀r∈Xs,∃A D f fd,XAt K r A D f fd):Xok Γ K mg:=by
 have one:∀r∈Xs,∀C b,(subsX r.c).contains (r.c,C,b)=true->(r.cs=ALLX r.c)->zms K mg r.c C b:=fun r hr C b h hcs=>by
  obtain⟨A,D,f,fd,a⟩:=XX r hr;rcases ak.mp (bq.mp h)with e|e
  ·cases e;exact⟨A,.ty "ValueError",.type "ValueError",G _ _ a.ns,a.xa,XV.val,a.sv,rfl,fun w q=>q,.inr ⟨hz,by decide+kernel,by decide⟩⟩
  ·obtain⟨y,hy,e⟩:=ci.mp e;cases e;obtain⟨E,e1,e2,e3,e4⟩:=a.cs y (by rw[hcs];exact hy);exact⟨A,.ref E,.ref E,G _ _ a.ns,a.xa,XV.own e3 e2,e4,rfl,fun w q=>q,.inl (G _ _ e1)⟩
 refine⟨fun c C b h=>?_,(fun c h=>by rw[h2]at h;cases h),fun c B h=>?_⟩
 ·rw[h1]at h;have h:=bq.mp h;rcases dz.mp h with h|h
  ·have hc:c="NoRow":=by
    rcases ak.mp h with e|e
    ·cases e;rfl
    ·obtain⟨y,_,e⟩:=ci.mp e;cases e;rfl
   subst hc;exact one ⟨"NoRow","row","BookError",ALLX "NoRow",ofC 0 (top 11)⟩ (.head _) C b (bq.mpr h) rfl
  ·have hc:c="Twice":=by
    rcases ak.mp h with e|e
    ·cases e;rfl
    ·obtain⟨y,_,e⟩:=ci.mp e;cases e;rfl
   subst hc;exact one ⟨"Twice","name","BookError",ALLX "Twice",ofC 0 (top 12)⟩ (.tail _ (.head _)) C b (bq.mpr h) rfl
 ·rw[h3]at h;rcases ak.mp (bq.mp h)with e|e
  ·cases e;obtain⟨A,D,f,fd,a⟩:=XX ⟨"NoRow","row","BookError",ALLX "NoRow",ofC 0 (top 11)⟩ (.head _);exact⟨A,D,G _ _ a.ns,G _ _ a.nb,a.xf.ex,a.ed,a.sd⟩
  ·cases ce.mp e;obtain⟨A,D,f,fd,a⟩:=XX ⟨"Twice","name","BookError",ALLX "Twice",ofC 0 (top 12)⟩ (.tail _ (.head _));exact⟨A,D,G _ _ a.ns,G _ _ a.nb,a.xf.ex,a.ed,a.sd⟩
variable (T:∀n∈FREE,mg n=none)(G:∀(x:Str) (v:Value),W.nsIn K bh x=some (some v)->mg x=some v)(XX:∀r∈Xs,∃A D f fd,XAt K r A D f fd)(GG:∀g∈Gs,∃t,W.nsIn K bh g.1=some (some (.int g.2 t)))
include T G XX
theorem dokB {st:Stmt}{N:List Str}{k:Nat}:Dok (gB st N []) [] [] P w K mg base k where
 free:=fun x hx=>T x (bq.mp hx)
 fns:=fun j f n e=>by cases e
 cst:=fun j x e=>by cases e
 fnx:=fun j f n e=>by cases e
 xk:=zjb rfl rfl rfl (T _ (by decide)) G XX
include GG
theorem gi51:∀(j:Nat) (x:Str),GI[j]?=some x->∃(n:Int) (t:Tok),([24,4,8]:List Int)[j]?=some n/\mg x=some (.int n t):=fun j x e=>by
 rcases j with _|_|_|j
 ·cases e;obtain⟨t,e⟩:=GG _ (.head _);exact⟨24,t,rfl,G _ _ e⟩
 ·cases e;obtain⟨t,e⟩:=GG _ (.tail _ (.head _));exact⟨4,t,rfl,G _ _ e⟩
 ·cases e;obtain⟨t,e⟩:=GG _ (.tail _ (.tail _ (.head _)));exact⟨8,t,rfl,G _ _ e⟩
 ·cases e
theorem fl51:∀(Γ:Gw) (X:Cx) (r:Nat),2<=r->Γ.fld=FL->X.prog=P->X.w=w->X.K=K->X.mg=mg->X.base=base->Wfk Γ X r:=by
 have one:∀(r:XRow) (i:Nat),r∈Xs->Ms[i]?=some ⟨"__init__",r.st,["self",r.fl],["self",r.fl],FREE,[],Sb 1,fun _=>.no,.n,[]⟩->wkL (gw0 ⟨"__init__",r.st,["self",r.fl],["self",r.fl],FREE,[],Sb 1,fun _=>.no,.n,[]⟩ []) (xi r.fl) (z08 r.st)=true->(∀fd,(∃f,Fun K "__init__" (r.c++"."++"__init__") r.st f fd)->Binds K fd ["self",r.fl] [])->
   ∃C f fd ps k,mg r.c=some (.ref C)/\XF K C r.fl/\XI K C f/\k+1<=2/\FnOk P w K mg base (CXE P w base) k f fd ps (spXi K r.fl)/\Binds K fd ps []:=fun r i hr hi hw hb=>by
  obtain⟨A,D,f,fd,a⟩:=XX r hr;refine⟨A,f,fd,["self",r.fl],1,G _ _ a.ns,a.xf,a.xi,aj _,?_,hb fd ⟨f,a.fu⟩⟩;refine w_fn (Γ:=gw0 ⟨"__init__",r.st,["self",r.fl],["self",r.fl],FREE,[],Sb 1,fun _=>.no,.n,[]⟩ []) (Z:={K:=K,mg:=mg,Κ:=[],Φ:=[],E:=fun _ _ _=>False,fn:=[],me:=[],cl:=[],gi:=[24,4,8]}) (s:=xi r.fl) a.fu (z2d t_M hi) rfl rfl (dokB T G XX) (fun E=>⟨rfl,rfl,(fun j x n e=>by cases e),(fun j x n e=>by cases e),(fun j x n e=>by cases e),gi51 T G XX GG⟩) rfl (.inl rfl) hw (fun vs H Q E ⟨_,_,_,_,_,e,_⟩=>by rw[e];rfl) fun vs H Q E ⟨x,C,ob,ws,y,e,hx,hc,hd,da,xf,q⟩=>?_;subst e;exact⟨y,rfl,.ref x,rfl,x,C,ob,ws,rfl,hx,hc,hd,da,xf,fun dp h1 h2=>q dp h1 h2⟩
 intro Γ X r hr hf hP hw hK hm hb;subst hP hw hK hm hb;intro c fl hc;rw[hf]at hc;have up:∀{c fl:Str},(∃C f fd ps k,X.mg c=some (.ref C)/\XF X.K C fl/\XI X.K C f/\k+1<=2/\FnOk X.prog X.w X.K X.mg X.base (CXE X.prog X.w X.base) k f fd ps (spXi X.K fl)/\Binds X.K fd ps [])->∃C f fd ps k,X.mg c=some (.ref C)/\XF X.K C fl/\XI X.K C f/\k+1<=r/\FnOk X.prog X.w X.K X.mg X.base (CXE X.prog X.w X.base) k f fd ps (spXi X.K fl)/\Binds X.K fd ps []:=fun{c fl} ⟨C,f,fd,ps,k,h1,h2,h3,h4,h5,h6⟩=>⟨C,f,fd,ps,k,h1,h2,h3,bw h4 hr,h5,h6⟩;rcases ak.mp (bq.mp hc)with e|e
 ·cases e;exact up (one ⟨"NoRow","row","BookError",ALLX "NoRow",ofC 0 (top 11)⟩ 6 (.head _) rfl w_x1 fun fd ⟨f,Fu⟩=>Fu.binds fun _ _ _ _ _ _=>by2 fun _ _=>rfl)
 ·rcases ak.mp e with e|e
  ·cases e;exact up (one ⟨"Twice","name","BookError",ALLX "Twice",ofC 0 (top 12)⟩ 7 (.tail _ (.head _)) rfl w_x2 fun fd ⟨f,Fu⟩=>Fu.binds fun _ _ _ _ _ _=>by2 fun _ _=>rfl)
  ·cases ce.mp e;exact up (one ⟨"Unknown","name","BookError",[],ofC 0 (top 13)⟩ 8 (.tail _ (.tail _ (.head _))) rfl w_x3 fun fd ⟨f,Fu⟩=>Fu.binds fun _ _ _ _ _ _=>by2 fun _ _=>rfl)
end
section
variable {P:ax}{w:World}{K:W.Frag}{mg:Str->Option Value}{base:Heap}{CR:Addr}
variable (T:∀n∈FREE,mg n=none)(G:∀(x:Str) (v:Value),W.nsIn K bh x=some (some v)->mg x=some v)(XX:∀r∈Xs,∃A D f fd,XAt K r A D f fd)(GG:∀g∈Gs,∃t,W.nsIn K bh g.1=some (some (.int g.2 t)))
abbrev zz (K:W.Frag)(mg:Str->Option Value)(Φ:List Fn)(E:XK)(fn:List Sp)(me:List (Addr×Str×Sp))(cl:List (Addr×Sp)):Wc:={K:=K,mg:=mg,Κ:=[],Φ:=Φ,E:=E,fn:=fn,me:=me,cl:=cl,gi:=[24,4,8]}
def Mth (P:ax)(w:World)(K:W.Frag)(mg:Str->Option Value)(base:Heap)(CR:Addr)(k:Nat)(m:Str)(ps:List Str)(sp:Sp):Prop:=∃f fd,FnOk P w K mg base (CXE P w base) k f fd ps sp/\Meth K CR m f/\Binds K fd ps []
include T G XX GG in
theorem ms51 (CA:ClsAt K Cr CR)(Dn:Dok (gB (m 4).st (m 4).N [("is_name",1)]) [] [F_z0] P w K mg base 2):
  Mth P w K mg base CR 1 "__init__" ["self","number","text","kinds"] (spRI K CR)/\Mth P w K mg base CR 1 "peek" ["self"] (z21 K CR)/\Mth P w K mg base CR 2 "take" ["self"] (z1l K CR)/\Mth P w K mg base CR 3 "take_word" ["self","word"] (spTW K CR mg)/\Mth P w K mg base CR 3 "take_name" ["self"] (spTN K CR mg isn)/\Mth P w K mg base CR 3 "take_end" ["self"] (z5g K CR mg):=by
 have rk:RowK K CR:=⟨CA.cls,CA.na⟩;obtain⟨f0,fd0,Fu0,M0'⟩:=CA.ms ("__init__",ofC 0 (top 24)) (.head _);obtain⟨f1,fd1,Fu1,M1'⟩:=CA.ms ("peek",ofC 1 (top 24)) (.tail _ (.head _));obtain⟨f2,fd2,Fu2,M2'⟩:=CA.ms ("take",ofC 2 (top 24)) (.tail _ (.tail _ (.head _)));obtain⟨f3,fd3,Fu3,M3'⟩:=CA.ms ("take_word",ofC 3 (top 24)) (.tail _ (.tail _ (.tail _ (.head _))));obtain⟨f4,fd4,Fu4,M4'⟩:=CA.ms ("take_name",ofC 4 (top 24)) (.tail _ (.tail _ (.tail _ (.tail _ (.head _)))));obtain⟨f5,fd5,Fu5,M5'⟩:=CA.ms ("take_end",ofC 5 (top 24)) (.tail _ (.tail _ (.tail _ (.tail _ (.tail _ (.head _))))));have b0:Binds K fd0 ["self","number","text","kinds"] []:=Fu0.binds fun _ _ _ _ _ _=>by4 fun _ _ _ _=>rfl;have b1:Binds K fd1 ["self"] []:=Fu1.binds fun _ _ _ _ _ _=>by1 fun _=>rfl;have b2:Binds K fd2 ["self"] []:=Fu2.binds fun _ _ _ _ _ _=>by1 fun _=>rfl;have b3:Binds K fd3 ["self","word"] []:=Fu3.binds fun _ _ _ _ _ _=>by2 fun _ _=>rfl;have b4:Binds K fd4 ["self"] []:=Fu4.binds fun _ _ _ _ _ _=>by1 fun _=>rfl;have b5:Binds K fd5 ["self"] []:=Fu5.binds fun _ _ _ _ _ _=>by1 fun _=>rfl;have gi:=gi51 T G XX GG;have F0:FnOk P w K mg base (CXE P w base) 1 f0 fd0 ["self","number","text","kinds"] (spRI K CR):=w_fn (Γ:=gw0 (m 0) []) (Z:=zz K mg [] (fun _ _ _=>False) [] [] []) (s:=Rd.init) Fu0 (z2d t_M (i:=0) rfl) rfl rfl (dokB T G XX) (fun E=>⟨rfl,rfl,(fun j x n e=>by cases e),(fun j x n e=>by cases e),(fun j x n e=>by cases e),gi⟩) rfl (.inl rfl) w_in (fun vs H Q E ⟨_,_,_,_,_,e,_⟩=>by rw[e];rfl) fun vs H Q E ⟨x,dx,kd,n,t,e,hx,ok,q⟩=>by subst e;exact zjk rk hx ok q
 have F1:FnOk P w K mg base (CXE P w base) 1 f1 fd1 ["self"] (z21 K CR):=w_fn (Γ:=gw0 (m 1) []) (Z:=zz K mg [] (fun _ _ _=>False) [] [] []) (s:=Rd.peek) Fu1 (z2d t_M (i:=1) rfl) rfl rfl (dokB T G XX) (fun E=>⟨rfl,rfl,(fun j x n e=>by cases e),(fun j x n e=>by cases e),(fun j x n e=>by cases e),gi⟩) rfl (.inl rfl) w_pk (fun vs H Q E ⟨_,_,_,_,_,_,_,_,e,_⟩=>by rw[e];rfl) fun vs H Q E ⟨x,dx,wl,kd,sl,n,ws,p,e,r,q⟩=>by subst e;exact ze0 rk r q
 have F2:FnOk P w K mg base (CXE P w base) 2 f2 fd2 ["self"] (z1l K CR):=w_fn (Γ:=gw0 (m 2) [M0]) (Z:=zz K mg [] (fun _ _ _=>False) [] [(CR,"peek",z21 K CR)] []) (s:=Rd.take) Fu2 (z2d t_M (i:=2) rfl) rfl rfl (dokB T G XX) (fun E=>⟨rfl,rfl,(fun j x n e=>by cases e),(fun j x n e=>by
   rcases j with _|j
   ·cases e;exact⟨CR,_,f1,fd1,_,1,rfl,aj _,F1,CA.cls,M1',b1⟩
   ·cases e),(fun j x n e=>by cases e),gi⟩) rfl (.inl rfl) w_tk
  (fun vs H Q E ⟨_,_,_,_,_,_,_,_,e,_⟩=>by rw[e];rfl) fun vs H Q E ⟨x,dx,wl,kd,sl,n,ws,p,e,r,q⟩=>by subst e;exact zcd rk rfl r q
 have me2:∀(j:Nat) (m:Str) (n:Nat),[M0,M1][j]?=some (m,n)->∃C sp f fd ps k,[(CR,(("peek":Str),z21 K CR)),(CR,(("take":Str),z1l K CR))][j]?=some (C,m,sp)/\k<=2/\FnOk P w K mg base (CXE P w base) k f fd ps sp/\Cls K C/\Meth K C m f/\Binds K fd ps []:=fun j m n e=>by
  rcases j with _|_|j
  ·cases e;exact⟨CR,_,f1,fd1,_,1,rfl,by decide,F1,CA.cls,M1',b1⟩
  ·cases e;exact⟨CR,_,f2,fd2,_,2,rfl,aj _,F2,CA.cls,M2',b2⟩
  ·cases e
 have F3:FnOk P w K mg base (CXE P w base) 3 f3 fd3 ["self","word"] (spTW K CR mg):=w_fn (Γ:=gw (m 3) [] [] [M0,M1] []) (Z:=zz K mg [] (fun _ _ _=>False) [] [(CR,"peek",z21 K CR),(CR,"take",z1l K CR)] []) (s:=Rd.takeWord) Fu3 (z2d t_M (i:=3) rfl) rfl rfl (dokB T G XX) (fun E=>⟨rfl,rfl,(fun j x n e=>by cases e),me2,(fun j x n e=>by cases e),gi⟩) rfl (.inr fun X h1 h2 h3 h4 h5=>fl51 T G XX GG _ X 2 (aj _) rfl h1 h2 h3 h4 h5) w_tw (fun vs H Q E ⟨_,_,_,_,_,_,_,_,_,e,_⟩=>by rw[e];rfl) fun vs H Q E ⟨x,dx,wl,kd,sl,n,ws,p,w0,e,r,hw,q⟩=>by subst e;exact zni rk rfl r hw q
 have F4:FnOk P w K mg base (CXE P w base) 3 f4 fd4 ["self"] (spTN K CR mg isn):=w_fn (Γ:=gw (m 4) [("is_name",1)] [] [M0,M1] []) (Z:=zz K mg [F_z0] (fun _ _ _=>False) [] [(CR,"peek",z21 K CR),(CR,"take",z1l K CR)] []) (s:=Rd.takeName) Fu4 (z2d t_M (i:=4) rfl) rfl rfl Dn (fun E=>⟨rfl,rfl,(fun j x n e=>by cases e),me2,(fun j x n e=>by cases e),gi⟩) rfl (.inr fun X h1 h2 h3 h4 h5=>fl51 T G XX GG _ X 2 (aj _) rfl h1 h2 h3 h4 h5) w_tn (fun vs H Q E ⟨_,_,_,_,_,_,_,_,e,_⟩=>by rw[e];rfl) fun vs H Q E ⟨x,dx,wl,kd,sl,n,ws,p,e,r,q⟩=>by subst e;exact zjn rk rfl ⟨F_z0,rfl,fun s ok=>zc5 ok.2⟩ r q
 have F5:FnOk P w K mg base (CXE P w base) 3 f5 fd5 ["self"] (z5g K CR mg):=w_fn (Γ:=gw (m 5) [] [] [M0,M1] []) (Z:=zz K mg [] (fun _ _ _=>False) [] [(CR,"peek",z21 K CR),(CR,"take",z1l K CR)] []) (s:=Rd.takeEnd) Fu5 (z2d t_M (i:=5) rfl) rfl rfl (dokB T G XX) (fun E=>⟨rfl,rfl,(fun j x n e=>by cases e),me2,(fun j x n e=>by cases e),gi⟩) rfl (.inr fun X h1 h2 h3 h4 h5=>fl51 T G XX GG _ X 2 (aj _) rfl h1 h2 h3 h4 h5) w_te (fun vs H Q E ⟨_,_,_,_,_,_,_,_,e,_⟩=>by rw[e];rfl) fun vs H Q E ⟨x,dx,wl,kd,sl,n,ws,p,e,r,q⟩=>by subst e;exact zkw rk r q
 exact⟨⟨f0,fd0,F0,M0',b0⟩,⟨f1,fd1,F1,M1',b1⟩,⟨f2,fd2,F2,M2',b2⟩,⟨f3,fd3,F3,M3',b3⟩,⟨f4,fd4,F4,M4',b4⟩,⟨f5,fd5,F5,M5',b5⟩⟩
include T G XX GG in
theorem fn51 (CA:ClsAt K Cr CR)(Dn:Dok (gB (m 4).st (m 4).N [("is_name",1)]) [] [F_z0] P w K mg base 2)(O:∀i r,i<20->(Rz++[Lr])[i]?=some r->Own K mg r.nm r.st r.ps):
  ∃f fd,FnOk P w K mg base (CXE P w base) 7 f fd ["_law_text"] (spTo K isn)/\mg "_law_told"=some (.ref f)/\W.keepIn K (.ref f)=true/\Binds K fd ["_law_text"] []:=by
 have rk:RowK K CR:=⟨CA.cls,CA.na⟩;obtain⟨⟨f0,fd0,F0,M0',b0⟩,⟨f1,fd1,F1,M1',b1⟩,⟨f2,fd2,F2,M2',b2⟩,⟨f3,fd3,F3,M3',b3⟩,⟨f4,fd4,F4,M4',b4⟩,⟨f5,fd5,F5,M5',b5⟩⟩:=ms51 T G XX GG CA Dn;have gi:=gi51 T G XX GG;have fl:∀(Γ:Gw) (r:Nat),2<=r->Γ.fld=FL->(Γ.fld=[]\/∀X:Cx,X.prog=P->X.w=w->X.K=K->X.mg=mg->X.base=base->Wfk Γ X r):=fun Γ r hr hf=>.inr fun X h1 h2 h3 h4 h5=>fl51 T G XX GG Γ X r hr hf h1 h2 h3 h4 h5
 have me5:∀(r j:Nat) (m:Str) (n:Nat),3<=r->MM[j]?=some (m,n)->∃C sp f fd ps k,[(CR,(("peek":Str),z21 K CR)),(CR,(("take":Str),z1l K CR)),(CR,(("take_word":Str),spTW K CR mg)),(CR,(("take_name":Str),spTN K CR mg isn)),(CR,(("take_end":Str),z5g K CR mg))][j]?=some (C,m,sp)/\k<=r/\FnOk P w K mg base (CXE P w base) k f fd ps sp/\Cls K C/\Meth K C m f/\Binds K fd ps []:=fun r j m n hr e=>by
  rcases j with _|_|_|_|_|j
  ·cases e;exact⟨CR,_,f1,fd1,_,1,rfl,by omega,F1,CA.cls,M1',b1⟩
  ·cases e;exact⟨CR,_,f2,fd2,_,2,rfl,by omega,F2,CA.cls,M2',b2⟩
  ·cases e;exact⟨CR,_,f3,fd3,_,3,rfl,hr,F3,CA.cls,M3',b3⟩
  ·cases e;exact⟨CR,_,f4,fd4,_,3,rfl,hr,F4,CA.cls,M4',b4⟩
  ·cases e;exact⟨CR,_,f5,fd5,_,3,rfl,hr,F5,CA.cls,M5',b5⟩
  ·cases e
 let ME:List (Addr×Str×Sp):=[(CR,(("peek":Str),z21 K CR)),(CR,(("take":Str),z1l K CR)),(CR,(("take_word":Str),spTW K CR mg)),(CR,(("take_name":Str),spTN K CR mg isn)),(CR,(("take_end":Str),z5g K CR mg))]
 obtain⟨g1,gd1,Gu1,gm1,gk1,gb1⟩:=O 1 _ (by decide) rfl;obtain⟨g2,gd2,Gu2,gm2,gk2,gb2⟩:=O 2 _ (by decide) rfl;obtain⟨g3,gd3,Gu3,gm3,gk3,gb3⟩:=O 3 _ (by decide) rfl;obtain⟨g4,gd4,Gu4,gm4,gk4,gb4⟩:=O 4 _ (by decide) rfl;obtain⟨g5,gd5,Gu5,gm5,gk5,gb5⟩:=O 5 _ (by decide) rfl;obtain⟨g6,gd6,Gu6,gm6,gk6,gb6⟩:=O 6 _ (by decide) rfl;obtain⟨g7,gd7,Gu7,gm7,gk7,gb7⟩:=O 7 _ (by decide) rfl;obtain⟨g8,gd8,Gu8,gm8,gk8,gb8⟩:=O 8 _ (by decide) rfl;obtain⟨g12,gd12,Gu12,gm12,gk12,gb12⟩:=O 12 _ (by decide) rfl
 have H7:FnOk P w K mg base (CXE P w base) 4 g7 gd7 ["row","told"] (spCN K CR mg):=w_fn (Γ:=gw (z 7) [] [] MM []) (Z:=zz K mg [] (fun _ _ _=>False) [] ME []) (s:=Rd.checkNames) Gu7 (z2d t_ok (i:=7) rfl) rfl rfl (dokB T G XX) (fun E=>⟨rfl,rfl,(fun j x n e=>by cases e),(fun j m n e=>me5 3 j m n (aj _) e),(fun j x n e=>by cases e),gi⟩) rfl (fl _ 3 (by decide) rfl) w_cn
  (fun vs H Q E ⟨_,_,_,_,_,_,_,_,_,_,e,_⟩=>by rw[e];rfl) fun vs H Q E ⟨x,dx,wl,kd,sl,n,ws,p,ns,nm,e,r,hk,okn,hs,hn,q⟩=>by
   subst e;refine zj9 rk r hk okn hs hn ?_;by_cases h:nm∈ns
   ·rw[if_pos h]at q ⊢;exact q
   ·rw[if_neg h]at q ⊢;exact fun H' s _=>q H' s
 have H4:FnOk P w K mg base (CXE P w base) 4 g4 gd4 ["row"] (spHd K CR mg isn):=w_fn (Γ:=gw (z 4) [] [] MM []) (Z:=zz K mg [] (fun _ _ _=>False) [] ME []) (s:=Rd.readHead) Gu4 (z2d t_ok (i:=4) rfl) rfl rfl (dokB T G XX) (fun E=>⟨rfl,rfl,(fun j x n e=>by cases e),(fun j m n e=>me5 3 j m n (aj _) e),(fun j x n e=>by cases e),gi⟩) rfl (fl _ 3 (by decide) rfl) w_hd (fun vs H Q E ⟨_,_,_,_,_,_,_,_,e,_⟩=>by rw[e];rfl) fun vs H Q E ⟨x,dx,wl,kd,sl,n,ws,p,e,r,hn,q⟩=>by subst e;exact zl9 rfl r hn q
 have H5:FnOk P w K mg base (CXE P w base) 4 g5 gd5 ["row"] (spOp K CR mg isn):=w_fn (Γ:=gw (z 5) [] [("read_names",1)] MM []) (Z:=zz K mg [] (fun _ _ _=>False) [fun _ _ _ _=>False] ME []) (s:=Rd.readOpen) Gu5 (z2d t_ok (i:=5) rfl) rfl rfl (dokB T G XX) (fun E=>⟨rfl,rfl,(fun j x n e=>by
   rcases j with _|j
   ·cases e;exact⟨_,g1,gd1,_,0,rfl,by decide,zhw,gm1,gk1,gb1⟩
   ·cases e),(fun j m n e=>me5 3 j m n (aj _) e),(fun j x n e=>by cases e),gi⟩) rfl (fl _ 3 (by decide) rfl) w_op
  (fun vs H Q E ⟨_,_,_,_,_,_,_,_,_,e,_⟩=>by rw[e];rfl) fun vs H Q E ⟨x,dx,wl,kd,sl,n,ws,p,ns,e,r,hk,hn,q⟩=>by subst e;exact zkk rk rfl rfl r hk hn q
 have H6:FnOk P w K mg base (CXE P w base) 5 g6 gd6 ["row"] (spRR K CR mg isn):=w_fn (Γ:=gw (z 6) [] [("read_open",1),("read_head",1),("read_saying",2),("read_asking",2)] MM []) (Z:=zz K mg [] (fun _ _ _=>False) [spOp K CR mg isn,spHd K CR mg isn,fun _ _ _ _=>False,fun _ _ _ _=>False] ME []) (s:=Rd.readRow) Gu6 (z2d t_ok (i:=6) rfl) rfl rfl (dokB T G XX) (fun E=>⟨rfl,rfl,(fun j x n e=>by
   rcases j with _|_|_|_|j
   ·cases e;exact⟨_,g5,gd5,_,4,rfl,by decide,H5,gm5,gk5,gb5⟩
   ·cases e;exact⟨_,g4,gd4,_,4,rfl,by decide,H4,gm4,gk4,gb4⟩
   ·cases e;exact⟨_,g2,gd2,_,0,rfl,by decide,zhw,gm2,gk2,gb2⟩
   ·cases e;exact⟨_,g3,gd3,_,0,rfl,by decide,zhw,gm3,gk3,gb3⟩
   ·cases e),(fun j m n e=>me5 4 j m n (by decide) e),(fun j x n e=>by cases e),gi⟩) rfl (fl _ 4 (by decide) rfl) w_rr
  (fun vs H Q E ⟨_,_,_,_,_,_,_,_,e,_⟩=>by rw[e];rfl) fun vs H Q E ⟨x,dx,wl,kd,sl,n,ws,ns,e,r,hk,sp,n0,q⟩=>by subst e;exact zk7 rk rfl rfl rfl rfl rfl r hk sp n0 q
 have H8:FnOk P w K mg base (CXE P w base) 6 g8 gd8 ["text"] (spRA K mg isn):=w_fn (Γ:=gw (z 8) [] [("read_row",1),("check_names",2)] [] [("Row",3)]) (Z:=zz K mg [] (fun _ _ _=>False) [spRR K CR mg isn,spCN K CR mg] [] [(CR,spRI K CR)]) (s:=Rd.readAct) Gu8 (z2d t_ok (i:=8) rfl) rfl rfl (dokB T G XX) (fun E=>⟨rfl,rfl,(fun j x n e=>by
   rcases j with _|_|j
   ·cases e;exact⟨_,g6,gd6,_,5,rfl,by decide,H6,gm6,gk6,gb6⟩
   ·cases e;exact⟨_,g7,gd7,_,4,rfl,by decide,H7,gm7,gk7,gb7⟩
   ·cases e),(fun j x n e=>by cases e),(fun j x n e=>by
   rcases j with _|j
   ·cases e;exact⟨CR,_,f0,fd0,_,1,rfl,by decide,F0,⟨CA.mks,M0'.at_,M0'.fn,CA.kp⟩,G _ _ CA.ns,b0⟩
   ·cases e),gi⟩) rfl (fl _ 5 (by decide) rfl) w_ra
  (fun vs H Q E ⟨_,_,_,e,_⟩=>by rw[e];rfl) fun vs H Q E ⟨v,d,B,e,rv,n0,hd,q⟩=>by subst e;exact zmb rfl rfl rfl rfl rv n0 hd q
 have H12:FnOk P w K mg base (CXE P w base) 7 g12 gd12 ["_law_text"] (spTo K isn):=w_fn (Γ:=gw (z 12) [] [("read_act",1)] [] []) (Z:=zz K mg [] (fun _ _ _=>False) [spRA K mg isn] [] []) (s:=Rd.told) Gu12 (z2d t_ok (i:=12) rfl) rfl rfl (dokB T G XX) (fun E=>⟨rfl,rfl,(fun j x n e=>by
   rcases j with _|j
   ·cases e;exact⟨_,g8,gd8,_,6,rfl,by decide,H8,gm8,gk8,gb8⟩
   ·cases e),(fun j x n e=>by cases e),(fun j x n e=>by cases e),gi⟩) rfl (fl _ 6 (by decide) rfl) w_to
  (fun vs H Q E ⟨_,_,_,e,_⟩=>by rw[e];rfl) fun vs H Q E ⟨v,d,B,e,rv,ra,ot,q⟩=>by subst e;exact zm4 rfl rv ra ot q
 exact⟨g12,gd12,H12,gm12,gk12,gb12⟩
end
theorem zdl {ds:List D}{x}(h:z04 ds=.ok x):∃d,ds=[d]/\TOk d/\x=(.fr,rrD (z23 isn d)):=by
 unfold z04 at h;split at h
 ·rename_i d;split at h
  ·rename_i ht;cases h;exact⟨d,rfl,ht,rfl⟩
  ·cases h
 ·cases h
theorem ze1 {ds:List D}{c}(h:excOf (z04 ds)=some c):False:=by
 unfold z04 at h;split at h
 ·split at h<;>cases h
 ·cases h
theorem all51 {l:W.OpenLaw}{w:World}{K:W.Frag}{mg:Str->Option Value}{CR:Addr}{h:Heap}{fa:Addr}(X:K.In h)(Gn:h.Ns bh mg)(hfa:mg "law"=some (.ref fa))(hK:kOks K Rz)(kl:∃f fd,Kf K Lr f fd)(hz:∀n∈FREE,W.nsIn K bh n=some none)(hC:∀r∈Rz++[Lr],∀y∈r.kc,ck1 K y=true)(CA:ClsAt K Cr CR)(XX:∀r∈Xs,∃A D f fd,XAt K r A D f fd)(GG:∀g∈Gs,∃t,W.nsIn K bh g.1=some (some (.int g.2 t))):
  ∃fd:di,(∀(s:ae) (v:Value),p9 s fd ⟨[v],[]⟩ [("_law_script",v)])/\∀base:Heap,K.In base->base.Ns bh mg->FnOk l.prog w K mg base CX0 21 fa fd ["_law_script"] (spD K 1 F_z9):=by
 obtain⟨f,fd,a,oc,od,an,sl,kV,dc,pm,cd,ct,rfl,lk,hc,hk⟩:=kl;have e:=hfa.symm.trans (W.mg_of X Gn a);cases e;have T:∀n∈FREE,mg n=none:=fun n hn=>W.mg_none_of X Gn (hz n hn);have Gx:∀(x:Str) (v:Value),W.nsIn K bh x=some (some v)->mg x=some v:=fun x v e=>W.mg_of X Gn e;refine⟨W.fnOf "law" "law" (z11 (top 44)) (z08 (top 44)) (z07 (top 44)) .none kV dc pm an cd ct,fun s v=>.of_eq rfl,fun base _ _=>?_⟩;have O:∀i r,i<20->(Rz++[Lr])[i]?=some r->Own K mg r.nm r.st r.ps:=fun i r hi e=>by rw[ij (show i<Rz.length from hi)]at e;obtain⟨⟨f,fd,a,oc,od,an,sl,kV,dc,pm,cd,ct,rfl,lk,hc,hk⟩,hb⟩:=z9u hK e;exact zl3 X Gn a lk hc hk hb
 have xk:∀Γ:Gm,Γ.sub=(Xt.map XR.subs).flatten->Γ.rs=Xt.map (·.c)->(Γ.hnd=Xt.map fun r=>(r.c,r.B))->Xok Γ K mg:=fun Γ h1 h2 h3=>⟨(fun c C b z=>by rw[h1]at z;cases z),(fun c z=>by rw[h2]at z;cases z),fun c B z=>by rw[h3]at z;cases z⟩;have hCs:∀r∈Rz++[Lr],∀y∈r.kc,zdc K mg y:=fun r hr y hy=>zp5 X Gn (hC r hr y hy);have cal:∀j c,j<20->(Rz++[Lr])[j]?=some c->z6k l.prog w K mg base j c:=fun j c hj hc=>zg2 t_ok t_F T xk 20 hCs O j c hj hc;have hr:(Rz++[Lr])[20]?=some Lr:=rfl;have ho:Lr.ok (Rz++[Lr]) Xt FREE 20=true:=z72 t_ok hr;have D:=z9d (P:=l.prog) (w:=w) (K:=K) (base:=base) hr ho T xk (hCs Lr (b8 _ (.head _))) cal;have n0:=rowN (cal 0 _ (by decide) rfl) (Rs:=Rz++[Lr]) rfl rfl
 have Dn:Dok (gB (m 4).st (m 4).N [("is_name",1)]) [] [F_z0] l.prog w K mg base 2:={
  free:=fun x hx=>T x (bq.mp hx)
  fns:=fun j f n e=>by
   rcases j with _|j
   ·cases e;exact⟨F_z0,1,["thing"],rfl,by decide,n0.1⟩
   ·cases e
  cst:=fun j x e=>by cases e
  fnx:=fun j f n e=>by
   rcases j with _|j
   ·cases e;exact⟨F_z0,1,["thing"],rfl,by decide,n0.2⟩
   ·cases e
  xk:=zjb rfl rfl rfl (T _ (by decide)) Gx XX}
 obtain⟨ft,fdt,Ft,mt,kt,bt⟩:=fn51 (P:=l.prog) (w:=w) (base:=base) T Gx XX GG CA Dn O;have C1:Cal l.prog w K mg base 7 "_law_told" ["_law_text"] (spD K 1 z04):=by refine⟨ft,fdt,to0 Ft fun vs H Q E ⟨A,ds,x,h1,h2,h3,q⟩=>?_,mt,kt,bt⟩;obtain⟨d,rfl,ht,rfl⟩:=zdl h3;obtain⟨v,t,rfl,rv,rt⟩:=h2;cases rt;exact⟨v,d,A,rfl,rv,ht.1,ht.2,fun H' w s r=>q w H' s r⟩
 have C2:CalX l.prog w K mg base 7 "_law_told" ["_law_text"] 1 z04:=by refine⟨ft,fdt,⟨fun vs H Q E ⟨A,ds,c,h1,h2,h3,_⟩=>h1,fun A outer s H args us vs Q E hr he hb hv ⟨B,ds,c,h1,h2,h3,_⟩=>?_⟩,mt,kt,bt⟩;exact(ze1 h3).elim
 have D':Dok (Lr.G (Rz++[Lr]) Xt) [] [F_z4 3,z04,F_z8,F_z6,F_z3] l.prog w K mg base 20:={
  free:=D.free
  fns:=fun j f n e=>by
   rcases j with _|_|_|_|_|j
   ·obtain⟨m,k',ps,e1,e2,e3⟩:=D.fns 0 f n e;cases e1;exact⟨_,k',ps,rfl,e2,e3⟩
   ·cases e;exact⟨_,7,_,rfl,by decide,C1⟩
   ·obtain⟨m,k',ps,e1,e2,e3⟩:=D.fns 2 f n e;cases e1;exact⟨_,k',ps,rfl,e2,e3⟩
   ·obtain⟨m,k',ps,e1,e2,e3⟩:=D.fns 3 f n e;cases e1;exact⟨_,k',ps,rfl,e2,e3⟩
   ·obtain⟨m,k',ps,e1,e2,e3⟩:=D.fns 4 f n e;cases e1;exact⟨_,k',ps,rfl,e2,e3⟩
   ·cases e
  cst:=fun j x e=>by cases e
  fnx:=fun j f n e=>by
   rcases j with _|_|_|_|_|j
   ·obtain⟨m,k',ps,e1,e2,e3⟩:=D.fnx 0 f n e;cases e1;exact⟨_,k',ps,rfl,e2,e3⟩
   ·cases e;exact⟨_,7,_,rfl,by decide,C2⟩
   ·obtain⟨m,k',ps,e1,e2,e3⟩:=D.fnx 2 f n e;cases e1;exact⟨_,k',ps,rfl,e2,e3⟩
   ·obtain⟨m,k',ps,e1,e2,e3⟩:=D.fnx 3 f n e;cases e1;exact⟨_,k',ps,rfl,e2,e3⟩
   ·obtain⟨m,k',ps,e1,e2,e3⟩:=D.fnx 4 f n e;cases e1;exact⟨_,k',ps,rfl,e2,e3⟩
   ·cases e
  xk:=D.xk}
 exact d_fn (Γ:=Lr.G (Rz++[Lr]) Xt) (Κ:=[]) (s:=S_z9) (z9w (st:=top 44) lk hc hk) (z2d t_ok (i:=20) rfl) rfl rfl rfl D' w_la
def zLd:tf:=⟨"law",z11 (top 44),z08 (top 44),z07 (top 44),⟨264,0,277,56⟩⟩
theorem zH3:KEq zKz (Rz++[Lr]) FREE Xt:=by
 rw[PySem.W.Fast.tkeq_eq];intro P
 kernel_rfl
theorem zT1:Tp.said PySem.Challenge.rw_likebook_k51_facts=true:=by
 rw[PySem.W.Fast.tsaid_eq]
 kernel_rfl
theorem zT2:W.opening zRp=W.plainProg zRp.main.scope.names:=by kernel_rfl
theorem zT3:∀s,fenceModules? zRp s=some s:=fun s=>by kernel_rfl
theorem zT4:W.defOf zQv PySem.Challenge.rw_likebook_k51_facts.row.name=some (zLd,[]):=by kernel_rfl
theorem zT5:zRp.theDef PySem.Challenge.rw_likebook_k51_facts.row.name=some (zLd.params,zLd.body,zLd.scope):=by kernel_rfl
theorem zT6:W.kwWritten? zLd.params.kwonlyargs zLd.params.kw_defaults=some []:=by kernel_rfl
theorem zT7:(!PySem.Challenge.rw_likebook_k51_facts.row.writes||PySem.Challenge.rw_likebook_k51_facts.row.records.isEmpty)=true:=by kernel_rfl
theorem zT8:(W.chainsOk zQv&&W.opensWell zRp&&(W.frees PySem.Challenge.rw_likebook_k51_facts.row.toRowW&&PySem.Challenge.rw_likebook_k51_facts.row.within.isEmpty))=true:=by kernel_rfl
theorem walk {l:W.OpenLaw}{q:ax}{loose:List Str}{XP:(Str->Option Value)->Heap->Prop}{YP:World->Heap->Prop}{d:tf}{K:eu->W.Frag}(hn:l.most=some 63)(hdf:d.params.defaults=[])
  (hY:∀(w:World) (h:Heap),YP w h->(K w.params).In h)
  (F:∀(w:World) (mg:Str->Option Value) (fa:Addr) (h:Heap),(K w.params).In h->h.Ns bh mg->mg d.name=some (.ref fa)->∃fd:di,(∀(s:ae) (u:Value),p9 s fd ⟨[u],[]⟩ [("_law_script",u)])/\∀base:Heap,(K w.params).In base->base.Ns bh mg->FnOk l.prog w (K w.params) mg base CX0 21 fa fd ["_law_script"] (spD (K w.params) 1 F_z9)):
  W.WalkO q loose XP YP l.row.toRowW d [] (fun f vs=>PySem.call f vs):=
 L2.walk_of (n:=63) (k:=21) (x:="_law_script") (CX:=fun _=>CX0) (sp:=fun w=>spD (K w.params) 1 F_z9) hn (by decide) hdf ⟨rfl,by decide,by decide⟩ hY F (fun _ _ a ns hl _ hS=>⟨_,_,_,rfl,z91 hS,e_z9 hl,fun v H' _ r=>r⟩) fun _ _ _ _ _ z=>z
theorem kC4:KCq zKz Cr:=by
 rw[PySem.W.Fast.tkcq_eq];intro P
 kernel_rfl
theorem kX:KXq zKz Xs Gs:=by
 rw[PySem.W.Fast.tkxq_eq];intro P
 kernel_rfl
theorem b_ok:bOks Rz:=⟨fun _ _ _ _ _ _=>by1 fun _=>rfl,fun _ _ _ _ _ _=>by1 fun _=>rfl,fun _ _ _ _ _ _=>by2 fun _ _=>rfl,fun _ _ _ _ _ _=>by2 fun _ _=>rfl,fun _ _ _ _ _ _=>by1 fun _=>rfl,fun _ _ _ _ _ _=>by1 fun _=>rfl,fun _ _ _ _ _ _=>by1 fun _=>rfl,fun _ _ _ _ _ _=>by2 fun _ _=>rfl,fun _ _ _ _ _ _=>by1 fun _=>rfl,fun _ _ _ _ _ _=>by2 fun _ _=>rfl,fun _ _ _ _ _ _=>by1 fun _=>rfl,fun _ _ _ _ _ _=>by1 fun _=>rfl,fun _ _ _ _ _ _=>by1 fun _=>rfl,fun _ _ _ _ _ _=>by2 fun _ _=>rfl,fun _ _ _ _ _ _=>by2 fun _ _=>rfl,fun _ _ _ _ _ _=>by2 fun _ _=>rfl,fun _ _ _ _ _ _=>by2 fun _ _=>rfl,fun _ _ _ _ _ _=>by4 fun _ _ _ _=>rfl,fun _ _ _ _ _ _=>by1 fun _=>rfl,fun _ _ _ _ _ _=>by1 fun _=>rfl,trivial⟩
end
end Mk
open PySem PySem.W PyProof.Rows Mi
set_option maxRecDepth 100000 in
set_option maxHeartbeats 0 in
theorem PySem.Challenge.cw_likebook_k51_facts_holds : PySem.Challenge.rw_likebook_k51_facts.Holds := by
 refine Tp.holds (l:=PySem.Challenge.rw_likebook_k51_facts) (q:=Mk.zQv) (d:=Mk.zLd) (K:=Mk.zKz) (M:=100000) (N:=200000) Mk.zT1 (Tp.Ko_as _ _ Mk.zAs) Mk.zT2 rfl Mk.zT3 (by decide) Mk.zH1 Mk.zH2 Mk.zT4 Mk.zT5 Mk.zT6 Mk.zT7 Mk.zT8 ⟨rfl,rfl,rfl,rfl,rfl,by decide+kernel⟩ (by w_witness2) ?_;refine Mk.walk (l:=PySem.Challenge.rw_likebook_k51_facts) rfl rfl (fun w h Y=>Y) ?_;intro w mg fa h KX G hmg;obtain⟨CR,CA⟩:=zm9 Mk.kC4 w.params;exact Mk.all51 (CR:=CR) KX G hmg (zas (fun r hr=>(z7j Mk.zH3 w.params).1 r (d7 _ hr)) Mk.b_ok) ((z7j Mk.zH3 w.params).1 Mk.Lr (b8 _ (.head _))) (z7j Mk.zH3 w.params).2.1 (z7j Mk.zH3 w.params).2.2.2 CA (za2 Mk.kX w.params).1 (za2 Mk.kX w.params).2
