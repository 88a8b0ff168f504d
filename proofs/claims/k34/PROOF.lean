import PyProof.Rows.All
import Wide.All
import OpenK.AllK
import Wide.FinOn
import Lean
import PyProof.EqAt
import PyProof.EqKinds
import PyProof.TupleCall
import PySem.Syntax
import PyProof.P3Statements
import PyProof.SliceList
import PyProof.AttrMissSeq
import PyProof.AttrMissHeap
import KE.KDictOf
import KE.KSortTup
import PyProof.DictItemsLoops
import KE.KPairComp
import KE.KItemsList
import KE.KDictSum
import PyProof.Draws
import PyProof.ZipIter
import PyProof.EnumMake
import PyProof.WalksEnum
import PyProof.Rows.SetFrom
import PyProof.SetRoads
import KE.KRevIter
import Open.Pieces
import OpenK.KWalk
import PyProof.Rows.Walk
import PySem.Challenge.RW_likebook_k34_marrows
noncomputable section
open Array renaming length_toList→ck,getD_eq_getD_getElem?→fi,toArray_toList→km,getElem?_eq_getElem→kr,getElem?_toList→l5,Perm→qb,append_assoc→tm,forIn_toList→t7,size_append→uq
open Bool renaming and_eq_true_iff→ar,and_eq_true→ax,false_ne_true→bu,or_eq_true→d9,false_eq_true→gc,or_eq_true_iff→g7,false_and→lu,not_eq_true'→lw,beq_eq_decide_eq→l6,true_and→ml,or_true→nr,and_false→oh,or_false→ox,and_self→oz,true_or→p7,eq_false_iff→uh
open Int renaming toNat_natCast→gk,emod_nonneg→gz,emod_lt_of_pos→iq,natCast_nonneg→ju,le_refl→va
open List renaming length_map→af,mem_cons_self→ak,size_toArray→ao,mem_cons_of_mem→au,length_append→av,mem_cons→aw,mem_append_right→ay,map_cons→a9,mem_of_getElem?→bc,all_eq_true→bg,getD_eq_getElem?_getD→bo,mem_singleton→bp,getElem?_eq_getElem→bq,length_cons→br,mem_map→bt,replicate→bv,getElem?_map→bw,mem_append→b9,contains_iff_mem→cg,pairwise_cons→cj,nodup_cons→cn,range→cu,not_mem_nil→cw,map_append→cx,getElem?_eq_some_iff→cy,mem_filter→cz,length_replicate→dg,lookup_cons→dh,filterMap_cons→dr,replicate_succ→dt,all_cons→dw,getElem?_set_ne→d5,flatten_cons→d7,mem_zipIdx_iff_getElem?→eh,length_take→eu,getElem_mem→fg,getElem?_append_right→fq,getElem?_set→fu,length_set→f8,getElem?_replicate→gh,length_range→gj,append_nil→gv,filter_eq_nil_iff→ig,any_cons→ij,mem_filterMap→ip,nodup_nil→ir,findSome?_eq_none_iff→iu,getElem?_eq_none_iff→iw,getElem?_append_left→iy,of_mem_zip→i6,find?_cons→i7,reverse_cons→ja,toArray→jb,map_map→jc,map_inj_left→jd,getElem?_of_mem→jf,filter_eq_self→jk,length_drop→jl,length_eq_zero_iff→jn,isEmpty_map→jo,Perm→jp,take_of_length_le→jt,Pairwise→jv,countP_mono_left→jx,append_assoc→j4,pairwise_map→j5,mem_append_left→j6,length→j8,isEmpty_iff→ko,getElem?_zip_eq_some→kt,forIn_cons→k8,zip_cons_cons→lh,pairwise_singleton→lj,getElem?_cons_succ→ll,nodup_append→ly,exists_of_findSome?_eq_some→lz,length_singleton→l4,length_filter_le→l7,filter_cons→md,countP_cons→mf,getElem?_append→ms,length_reverse→nh,mem_range→ny,forIn_nil→og,drop_eq_getElem_cons→om,pairwise_iff_getElem→oo,filterMap_cons_none→o7,filterMap_cons_some→o8,mem_flatten→pd,getElem?_cons_zero→pj,any_eq_true→pp,getElem?_set_self→pq,foldl_cons→qf,getElem?_eq_none→qh,filterMap_append→qi,mem_of_mem_drop→qt,mem_of_mem_take→qu,getElem?_range→r6,map_congr_left→se,sum_cons→sv,any_eq_false→ub,map_nil→ud,ext_getElem?→um,all_eq_false→ut,foldl→vn,map→vq
open List.Perm renaming swap→qx
open Nat renaming le_refl→am,le_trans→bx,lt_of_lt_of_le→bz,ne_of_lt→b7,lt_irrefl→ci,zero_le→dj,le_add_right→im,min_eq_left→k9,lt_of_le_of_lt→lg,ne_of_gt→ls,lt_succ_self→l9,min_le_left→nc,le_of_lt→np,lt_trans→nq,le_of_not_lt→pc,le_of_eq→pz,succ_pos→qa,sub_le_sub_right→qy,mul_le_mul_right→q8,add_sub_cancel'→rz,lt_succ_of_lt→ui,le_succ→u0
open Option renaming map_eq_some_iff→dz,bind_eq_some_iff→ln,isNone_iff_eq_none→oq,isSome_map→ot
open Prod renaming ext→vf
open PyProof.Rows renaming seqObj→dm,get?_update_seq→la,kindOf→ma,size_push'→me,listUpdate_at→mq,AllBare→nk,subscriptTail_builtinR→p9,listItems_at→qc,envOfC→qo,seqEpoch_at→qv,IntsAre→rh,Constant_none→si,keyKind'→uo
open PySem renaming wpAny_bind→aa,Shared→ac,PyData→ah,wpAny_pure→aq,sizeLine→az,Program→ba,Around→b6,mainGlobals→b8,compareOp→cq,bootBuiltins→df,wpAny_holding→dn,sizeLine_eq→dq,starEach→d3,wpAny_field→d6,wpAny_setField_rec→et,wpAny_call_entry→e8,FuncData→fj,NameKind→fm,wpAny_seqItems→fz,behindInMarks→ge,binaryOp→gf,foldedSetIterable→gg,wpAny_callSpecial?_slot→gi,assignEach→gn,letOwnedTupleGo→gu,Params→gy,wpAny_passesOwn→i0,sliceBounds→i9,wpAny_getItem_str_slice→jm,sysModules→jq,tupleKind_room_in1→jr,builtinLookup_eq_fast→jw,wpAny_truthy_bool→jy,wpAny_newObj_type→jz,wpAny_mono→j7,Operator→ky,Comprehension→kz,importedModules→lb,Paired→lc,wpAny_rule→lf,PassesOwn→li,treeTable→lq,wpAny_typeOf→lv,swapsWith→l8,codeAny→mh,plainId_quiet→mm,wpAny_newList→mo,backTo→mv,rawInt→my,post_val_or_str→mz,typeLookup_type→m6,codeAny_builtin→m7,wpAny_updateSeq→m8,wpAny_Call_Name_kw→n4,call_meets→n6,wpAny_pyIter_tuple→n8,wpAny_newTuple→n9,OsState→ou,wpAny_comprehension_free→oy,wpAny_onRaise→o5,tupleKind→o9,noFill_tuple_add→pb,ReadsAll→pe,wpAny_isInstance→pi,assign→pv,pyIter→pw,Keyword→p6,concat_meets→p8,wpAny_execs_nil→qe,wpAny_isTrue_Compare1→qg,pyNext→qk,sliceRange_one→qp,fitsIndex_both→qr,wpAny_letGo→qw,BindsTo→q9,valueAt→rf,callerA→rq,swapsWithSole→sj,swappedStores→sk,seq_tuple_add→sr,attributeBase→su,wpAny_load→tq,IsPart→tu,typeLookup→tw,wpAny_tupleItemsOf→tz,GenState→t8,wpAny_assign_Name→t9,holding→ua,codeAny_mono→uc,getItem→ue,seqIndex_neg→uf,slot_list_getitem→ug,wpAny_pyIter_list→uj,wpAny_pyIter_enum→ur,isTrue→uu,seqIndex?→uw,updateSeq→ux,keywordEach→uy,seqIndex_of→uz,builtinsNs→vb,wpAny_Name→vc,bindArgs→ve,typeIs_str→vg,typeIs_int→vh,typeOf→vm,intItems→vo,getAttr?→vp,Result→vt,DefRec→vw,relabel→vx
open PySem.Builtin.Dict renaming pairItems→lx,updateFrom→ph
open PySem.Builtin.List renaming listExtendWith→d4,listTooLong→jh,listLengthHint→nv,listSameRef→o6,listItems→qd
open PySem.Builtin.Slice renaming slicePlaces→iz,sliceAdjust→kq,sliceApplied→n5
open PySem.Builtin.SmallTypes renaming nextOf→cr,ownedTupleIsFree→d8,ownedTupleHandOut→ku
open PySem.Builtin.Str renaming occurrences→du,strSliceIndices→g9,glued→ul
open PySem.Builtin.Tuple renaming tupleExact→jg
open PySem.Calls renaming Name_function_global→nz,call_function_entry→on
open PySem.Heap renaming get?_push_of_some→ae,get?_push_size→a8,lt_size→bj,SameBut→ce,get?_update_self→f9,get?_update_other→g8,get?_none_of_le→qj,size_push→ql,get?_update_ne→sf,NewExcOf→tf
open PySem.Heap.SameBut renaming update→sg
set_option Elab.async false
set_option linter.all false
set_option maxRecDepth 100000
theorem vy {p:Prop} [Decidable p] (h:decide p=true):p:=of_decide_eq_true h
theorem vz {p:Prop} [Decidable p] (h:decide p=false):¬p:=of_decide_eq_false h
theorem v5 {p:Prop} [Decidable p] (h:p):decide p=true:=decide_eq_true h
theorem v6 {p:Prop} [Decidable p] (h:¬p):decide p=false:=decide_eq_false h
theorem v7 {α} [BEq α] [LawfulBEq α] {a b:α}(h:(a==b)=true):a=b:=beq_iff_eq.mp h
namespace Tp
open PySem PySem.W PyProof.Rows
def q0:Pos:=⟨0,0,0,0⟩
def an:Option Value:=some (.ref 6)
def ev (p:ba):Env:={scope:=p.main.scope,locals:=mainNs,globals:=mainNs,cells:=[],code:=.ref 13,frame:=some 14}
def cd (p:ba):Code:=.body (behindTheImports p) (ev p)
def grow:List Obj->Nat->BT->BT
 | [],_,t=>t
 |o::l,i,t=>grow l (i+1) (t.ins i o)
def lift (s:ac):SharedT:=⟨grow s.heap.objs.toList 0 .nil,s.heap.objs.size,s.heap.life,s.gens,s.drawn,s.toks,s.os⟩
def pre (p:ba)(H:gy->Heap)(d:Drawn)(k:Nat)(w:World)(os:ou):Option (ac×Thread):=topGo lq p w 11 an 12 ⟨H w.params,#[],d,k,os⟩ (topStub p)
def preS (p:ba)(H:gy->Heap)(d:Drawn)(k:Nat)(w:World)(os:ou):SharedT:=lift (((pre p H d k w os).map Prod.fst).getD ⟨H w.params,#[],d,k,os⟩)
def run (p:ba)(H:gy->Heap)(d:Drawn)(k N:Nat)(w:World)(os:ou):Option (Flow×SharedT×Code×Pos):=segRunT lq p w 11 an 1 N (preS p H d k w os) (piecesOf (behindTheImports p) (ev p) (cd p) q0 [topFrame q0])
def PreEq (p:ba)(H:gy->Heap)(d:Drawn)(k:Nat):Prop:=∀(w:World) (os:ou),((H w.params).isNs b8&&(#[]:Array t8).size==0,(H w.params).objs.size,(H w.params).nsMap b8 "__annotations__",pre p H d k w os,fun s c=>segRun lq p w 11 an 1 1 s (blockOf (behindTheImports p) (ev p) c q0 [topFrame q0]))=(true,11,an,some ((preS p H d k w os).abs,⟨denote lq (cd p),cd p,q0,[topFrame q0]⟩),fun s c=>some (.next,s,c,q0))
def seen (p q:ba)(R:WRecords)(as:List Addr)(H:gy->Heap)(w:World)(s:SharedT):=(staticsOk (lb p.main.body) (H w.params) s.abs.heap&&namesBound p s.abs.heap&&gensDone s.abs&&laidKept (H w.params) s.abs.heap,openSeen q [] (lb p.main.body) (fun s=>xlAt q [] s&&recOk R s) true s.abs,as.map s.abs.heap.get?)
def pick {α:Type}(f:SharedT->α):Flow×SharedT×Code×Pos->Option (Code×α)
 |(.next,s,c,_)=>some (c,f s)
 |_=>none
def RunEq (p q:ba)(R:WRecords)(as:List Addr)(K:gy->List (Addr×Obj))(H:gy->Heap)(d:Drawn)(k N:Nat):Prop:=∀(w:World) (os:ou),(run p H d k N w os).bind (pick (seen p q R as H w))=some (cd p,true,openGood q [],(K w.params).map fun x=>some x.2)
theorem fin_ (tb:String->Option Builtin)(p:ba)(w:World)(n:Nat)(a:Option Value)(s:ac)(c:Code)(ps q:Pos):topRun tb p w n a 2 s ⟨doneF .next,c,ps,[topFrame q]⟩=some s:=by obtain⟨h,g,d,k,os⟩:=s;rfl
theorem left {p q:ba}{R:WRecords}{as:List Addr}{K:gy->List (Addr×Obj)}{M N:Nat}(o:∀w,(fencedOpening lq p w N).map (fun s=>(s.heap,s.gens,s.drawn,s.toks))=some (boot_heap w.params,#[],boot_drawn,boot_toks))(le:12+(1+(M+2))<=N)
  (h1:PreEq p boot_heap boot_drawn boot_toks) (h2:RunEq p q R as K boot_heap boot_drawn boot_toks M):LeftO p q [] (fun s=>xlAt q [] s&&recOk R s) (fun s=>as.map s.heap.get?) (fun w=>(K w.params).map fun x=>some x.2) N:=fun w=>by
 obtain⟨⟨h,gs,d,k,os⟩,e,e'⟩:=dz.mp (o w);have e1:=Prod.mk.inj e';have e2:=Prod.mk.inj e1.2;have e3:=Prod.mk.inj e2.2;obtain rfl:h=boot_heap w.params:=e1.1;obtain rfl:gs=#[]:=e2.1;obtain rfl:d=boot_drawn:=e3.1;obtain rfl:k=boot_toks:=e3.2;have a:=Prod.mk.inj (h1 w os);have a2:=Prod.mk.inj a.2;have a3:=Prod.mk.inj a2.2;have a4:=Prod.mk.inj a3.2;obtain⟨⟨f,s,c,ps⟩,r1,r2⟩:=ln.mp (h2 w os);cases f with
 |next=>
  have b:=Prod.mk.inj (Option.some.inj r2);have b1:=Prod.mk.inj b.2;have b2:=Prod.mk.inj b1.2;obtain rfl:c=cd p:=b.1;have t1:topRun lq p w 11 an (M+2) (preS p boot_heap boot_drawn boot_toks w os).abs (restOf (behindTheImports p++[]) (ev p) (cd p) q0 [topFrame q0])=some s.abs:=piece_app (segRun_of r1) (fin_ lq p w 11 an s.abs (cd p) ps q0);rw[gv]at t1;have t2:=piece_block (congrFun (congrFun a4.2 (preS p boot_heap boot_drawn boot_toks w os).abs) (cd p)) t1;have t3:=go_top a4.1 t2;have t4:=topRun_mono (N-(12+(1+(M+2)))) _ _ _ _ t3;rw[rz le]at t4
  have t:topFrom lq p w N ⟨boot_heap w.params,#[],boot_drawn,boot_toks,os⟩=some s.abs:=by
   unfold topFrom
   dsimp only
   rw[a.1,a2.1,a3.1,t4];show(match staticsOk (lb p.main.body) (boot_heap w.params) s.abs.heap&&namesBound p s.abs.heap&&gensDone s.abs&&laidKept (boot_heap w.params) s.abs.heap with|true=>some s.abs|false=>none)=_;rw[b1.1]
  unfold openEnds;rw[e];show(topFrom lq p w N _).map _=_;rw[t];exact congrArg some (vf b2.1 b2.2)
 |_=>cases r2
theorem pre_r:PreEq=PreEq:=rfl
def zho (p q:ba)(R:WRecords)(H:gy->Heap)(w:World)(s:SharedT):=(staticsOk (lb p.main.body) (H w.params) s.abs.heap&&namesBound p s.abs.heap&&gensDone s.abs&&laidKept (H w.params) s.abs.heap,openSeen q [] (lb p.main.body) (fun s=>xlAt q [] s&&recOk R s) true s.abs)
def RunA (p q:ba)(R:WRecords)(H:gy->Heap)(d:Drawn)(k N:Nat):Prop:=∀(w:World) (os:ou),(run p H d k N w os).bind (pick (zho p q R H w))=some (cd p,true,openGood q [])
def RunB (p:ba)(as:List Addr)(K:gy->List (Addr×Obj))(H:gy->Heap)(d:Drawn)(k N:Nat):Prop:=∀(w:World) (os:ou),(run p H d k N w os).bind (pick fun s=>as.map s.abs.heap.get?)=some (cd p,(K w.params).map fun x=>some x.2)
theorem zg5 {α β:Type}{f:SharedT->α}{g:SharedT->β}{x:Option (Flow×SharedT×Code×Pos)}{c:Code}{a:α}{b:β}(h1:x.bind (pick f)=some (c,a))(h2:x.bind (pick g)=some (c,b)):x.bind (pick fun s=>(f s,g s))=some (c,a,b):=by
 cases x with
 |none=>cases h1
 |some y=>
  obtain⟨fl,s,c',ps⟩:=y;cases fl with
  |next=>have e1:=Prod.mk.inj (Option.some.inj (show some (c',f s)=some (c,a)from h1));have e2:=Prod.mk.inj (Option.some.inj (show some (c',g s)=some (c,b)from h2));show some (c',f s,g s)=_;rw[e1.1,e1.2,e2.2]
  |_=>cases h1
theorem run_ab {p q:ba}{R:WRecords}{as:List Addr}{K:gy->List (Addr×Obj)}{H:gy->Heap}{d:Drawn}{k N:Nat}(h1:RunA p q R H d k N)(h2:RunB p as K H d k N):RunEq p q R as K H d k N:=fun w os=>by
 have h:=zg5 (h1 w os) (h2 w os);cases e:run p H d k N w os with
 |none=>rw[e]at h;cases h
 |some y=>
  rw[e]at h;obtain⟨fl,s,c',ps⟩:=y;cases fl with
  |next=>have e1:=Prod.mk.inj (Option.some.inj (show some (c',(zho p q R H w s,as.map s.abs.heap.get?))=some (cd p,(true,openGood q []),_)from h));have e2:=Prod.mk.inj e1.2;show some (c',(zho p q R H w s).1,(zho p q R H w s).2,as.map s.abs.heap.get?)=_;rw[e1.1,e2.2,e2.1]
  |_=>cases h
theorem runA_r:RunA=RunA:=rfl
theorem runB_r:RunB=RunB:=rfl
end Tp
lay_quick Tp.PreEq Tp.RunA Tp.RunB
name_quick tpre for Tp.PreEq by Tp.pre_r
name_quick truna for Tp.RunA by Tp.runA_r
name_quick trunb for Tp.RunB by Tp.runB_r
namespace Tp
open PySem PySem.W PyProof.Rows
theorem rn_r:run=run:=rfl
end Tp
name_quick trn for Tp.run by Tp.rn_r
namespace Tp
open PySem PySem.W PyProof.Rows
def obj (p:ba)(M:Nat)(P:gy)(a:Addr):Obj:=((PySem.W.Fast.trn p boot_heap boot_drawn boot_toks M ⟨fun _ _=>0,P⟩ default).map fun x=>(x.2.1.tree.get a).getD default).getD default
def Ko (p:ba)(M:Nat)(as:List Addr)(P:gy):Frag:=as.map fun a=>(a,obj p M P a)
theorem Ko_as (p:ba)(M:Nat)(as:List Addr)(P:gy):as=(Ko p M as P).map (·.1):=by unfold Ko;rw[jc];exact(List.map_id _).symm
def said (l:OpenLaw):Bool:=l.wellSaid
theorem said_r:said=said:=rfl
theorem holds {l:OpenLaw}{q:ba}{d:vw}{as:List Addr}{K:gy->Frag}{M N:Nat}(ws:said l=true)(ek:∀P,as=(K P).map (·.1))(o1:opening l.row.prog=plainProg l.row.prog.main.scope.names)(o2:Nat.ble 600 N=true)(o3:∀s,fenceModules? l.row.prog s=some s)(le:12+(1+(M+2))<=N)
  (h1:PreEq l.row.prog boot_heap boot_drawn boot_toks) (h2:RunEq l.row.prog q l.row.records as K boot_heap boot_drawn boot_toks M) (a1:defOf q l.row.name=some (d,[])) (a2:l.row.prog.theDef l.row.name=some (d.params,d.body,d.scope)) (a3:kwWritten? d.params.kwonlyargs d.params.kw_defaults=some []) (a4:(!l.row.writes||l.row.records.isEmpty)=true)
  (a5:(chainsOk q&&opensWell l.row.prog&&(frees l.row.toRowW&&l.row.within.isEmpty))=true) (a6:l.row.prog.bare) (a7:l.row.toRowW.promised) (call:WalkO q [] (XL q []) (InK K) l.row.toRowW d [] fun f vs=>PySem.call f vs):l.Holds:=
 holds_law ws fun z=>holds_open (left (boot_open o1 o2 o3) le h1 h2) (InK.of ek) InK.keeps (fun s e=>xl_of s (ar.mp e).1) XL.keeps a1 a2 a3 (fun s e=>recFacts_of (ar.mp e).2) a4 z a5 a6 a7 call
end Tp
lay_quick Tp.said
name_quick tsaid for Tp.said by Tp.said_r
namespace Mk
open PySem PySem.Spec PyProof.Rows
abbrev zRp:ba:=PySem.Challenge.rw_likebook_k34_marrows.row.prog
def zQv:ba:=W.view zRp [1,2,4,5,6,7,9,10,12,13,14,16,18,19,20,21,22,23,24,26,27,28,29,30,31,32,33,34,35,36,37,38,39,40,41,42,43,44,45,46,47,48,49,50,51]
def zAs:List Addr:=cu 317
def zKz:gy->W.Frag:=Tp.Ko zRp 100000 zAs
theorem zH1:Tp.PreEq zRp W.boot_heap W.boot_drawn W.boot_toks:=by
 rw[PySem.W.Fast.tpre_eq];intro w os
 kernel_rfl
theorem zH2a:Tp.RunA zRp zQv PySem.Challenge.rw_likebook_k34_marrows.row.records W.boot_heap W.boot_drawn W.boot_toks 100000:=by
 rw[PySem.W.Fast.truna_eq];intro w os
 kernel_rfl
theorem zH2b:Tp.RunB zRp zAs zKz W.boot_heap W.boot_drawn W.boot_toks 100000:=by
 rw[PySem.W.Fast.trunb_eq];intro w os
 kernel_rfl
theorem zH2:Tp.RunEq zRp zQv PySem.Challenge.rw_likebook_k34_marrows.row.records zAs zKz W.boot_heap W.boot_drawn W.boot_toks 100000:=Tp.run_ab zH2a zH2b
end Mk
namespace L2
open PySem PySem.Spec PyProof.Rows
abbrev Key:=Sum Int Str
def zbn:Key->Value->Bool
 |.inl k,v=>Value.isInt k v
 |.inr x,v=>Value.isStrOf x v
def keyH (w:World):Key->Int
 |.inl k=>hashInt k
 |.inr x=>hashStr w x
theorem z0t:∀{k:Key} {v:Value},zbn k v=true->(∃i t,k=Sum.inl i/\v=Value.int i t)\/(∃x t,k=Sum.inr x/\v=Value.str x t)
 |.inl i,v,h=>by obtain⟨t,e⟩:=Value.isInt_shape (k:=i) (v:=v) h;exact .inl ⟨i,t,rfl,e⟩
 |.inr x,v,h=>by obtain⟨t,e⟩:=Value.isStrOf_shape (x:=x) (v:=v) h;exact .inr ⟨x,t,rfl,e⟩
theorem zff (i:Int)(t:Tok):zbn (.inl i) (.int i t)=true:=by simp[zbn,Value.isInt]
theorem zdc (x:Str)(t:Tok):zbn (.inr x) (.str x t)=true:=by simp[zbn,Value.isStrOf]
theorem zpf (a b:Int):decide ((Sum.inl a:Key)=Sum.inl b)=(a==b):=by
 by_cases e:a=b
 ·subst e;simp
 ·have h:¬(Sum.inl a:Key)=Sum.inl b:=fun q=>e (Sum.inl.inj q);rw[v6 h];exact(beq_eq_false_iff_ne.mpr e).symm
theorem zqc (a b:Str):decide ((Sum.inr a:Key)=Sum.inr b)=decide (a=b):=by
 by_cases e:a=b
 ·subst e;simp
 ·have h:¬(Sum.inr a:Key)=Sum.inr b:=fun q=>e (Sum.inr.inj q);rw[v6 h,v6 e]
theorem zoi (a:Int)(b:Str):decide ((Sum.inl a:Key)=Sum.inr b)=false:=v6 (fun q=>nomatch q)
theorem zrs (a:Str)(b:Int):decide ((Sum.inr a:Key)=Sum.inl b)=false:=v6 (fun q=>nomatch q)
def z10 (prog:ba)(w:World):PySem.KeyKind prog w Key where
 is:=zbn
 hash:=keyH w
 inj:=fun v a b ha hb=>by
  rcases z0t ha with⟨i,t,rfl,rfl⟩|⟨x,t,rfl,rfl⟩
  ·rcases z0t hb with⟨j,u,rfl,e⟩|⟨y,u,rfl,e⟩
   ·injection e with e1 _;rw[e1]
   ·exact nomatch e
  ·rcases z0t hb with⟨j,u,rfl,e⟩|⟨y,u,rfl,e⟩
   ·exact nomatch e
   ·injection e with e1 _;rw[e1]
 byValue:=fun k v h=>by rcases z0t h with⟨i,t,rfl,rfl⟩|⟨x,t,rfl,rfl⟩<;>rfl
 pyHash:=fun hv h=>by
  rcases z0t hv with⟨i,t,rfl,rfl⟩|⟨x,t,rfl,rfl⟩
  ·exact wpAny_pyHash_int h
  ·exact wpAny_pyHash_str h
 eqBool:=fun hu hv h=>by
  rcases z0t hu with⟨i,t,rfl,rfl⟩|⟨x,t,rfl,rfl⟩
  ·rcases z0t hv with⟨j,u,rfl,rfl⟩|⟨y,u,rfl,rfl⟩
   ·rw[zpf]at h;exact wpAny_eqBool_int h
   ·rw[zoi]at h;exact SeqAt.EqAt.int_str i t y u _ _ _ _ h
  ·rcases z0t hv with⟨j,u,rfl,rfl⟩|⟨y,u,rfl,rfl⟩
   ·rw[zrs]at h;exact SeqAt.EqAt.str_int x t j u _ _ _ _ h
   ·rw[zqc]at h;exact wpAny_eqBool_str h
 «strs»:=fun k x t v h=>by
  rcases z0t h with⟨i,u,rfl,e⟩|⟨y,u,rfl,e⟩
  ·exact nomatch e
  ·injection e with e1 _;subst e1;cases v<;>rfl
theorem z8r (prog:ba)(w:World)(i:Int)(t:Tok):(z10 prog w).is (.inl i) (.int i t)=true:=zff i t
theorem z8z (prog:ba)(w:World)(x:Str)(t:Tok):(z10 prog w).is (.inr x) (.str x t)=true:=zdc x t
inductive V where
 |non|bl (b:Bool)|int (i:Int)|str (x:Str)|byt (b:Array UInt8)|flt (b:UInt64)|ref (a:Addr)|ty (n:String)
 deriving DecidableEq
def RelV:V->Value->Prop
 |.non,u=>u=Value.none
 |.bl b,u=>u=Value.bool b
 |.int i,u=>∃t,u=Value.int i t
 |.str x,u=>∃t,u=Value.str x t
 |.byt b,u=>∃t,u=Value.bytes b t
 |.flt b,u=>∃t,u=Value.float b t
 |.ref a,u=>u=Value.ref a
 |.ty n,u=>u=Value.type n
abbrev Vals:List V->List Value->Prop:=lc RelV
theorem Vals.length {xs:List V}{us:List Value}(r:Vals xs us):xs.length=us.length:=Paired.length r
theorem Vals.get:∀{xs:List V} {us:List Value} {i:Nat} {x:V},Vals xs us->xs[i]?=some x->∃u,us[i]?=some u/\RelV x u
 |_,_,_,_,.nil,e=>by simp at e
 |_,_,0,_,.cons r _,e=>by simp at e;subst e;exact⟨_,rfl,r⟩
 |_,_,i+1,x,.cons _ t,e=>by obtain⟨u,h1,h2⟩:=Vals.get (i:=i) (x:=x) t (by simpa using e);exact⟨u,by simpa using h1,h2⟩
theorem Vals.set {x:V}{u:Value}(r:RelV x u):∀{xs:List V} {us:List Value} (i:Nat),Vals xs us->Vals (xs.set i x) (us.set i u)
 |_,_,_,.nil=>.nil
 |_,_,0,.cons _ t=>.cons r t
 |_,_,i+1,.cons q t=>.cons q (Vals.set r i t)
theorem Vals.append:∀{xs ys:List V} {us ws:List Value},Vals xs us->Vals ys ws->Vals (xs++ys) (us++ws)
 |_,_,_,_,.nil,s=>s
 |_,_,_,_,.cons r t,s=>.cons r (Vals.append t s)
theorem Vals.take:∀{xs:List V} {us:List Value} (n:Nat),Vals xs us->Vals (xs.take n) (us.take n)
 |_,_,0,_=>.nil
 |_,_,_+1,.nil=>.nil
 |_,_,n+1,.cons r t=>.cons r (Vals.take n t)
theorem Vals.drop:∀{xs:List V} {us:List Value} (n:Nat),Vals xs us->Vals (xs.drop n) (us.drop n)
 |_,_,0,r=>r
 |_,_,_+1,.nil=>.nil
 |_,_,n+1,.cons _ t=>Vals.drop n t
theorem Vals.none_of:∀{xs:List V} {us:List Value} {i:Nat},Vals xs us->xs[i]?=none->us[i]?=none:=fun{xs us i} r e=>by have h1:=r.length;have h2:xs.length<=i:=iw.mp e;exact iw.mpr (by omega)
def RelO:Option V->Option Value->Prop
 |some v,some u=>RelV v u
 |none,none=>True
 |_,_=>False
def KV {κ:Type}:List (κ×V)->List (κ×Value)->Prop:=lc fun(p:κ×V) (q:κ×Value)=>p.1=q.1/\RelV p.2 q.2
def kV:Key->V
 |.inl i=>.int i
 |.inr x=>.str x
inductive HO where
 |lst (xs:List V)
 |tup (xs:List V)
 |dK (kvs:List (Key×V))|dT (kvs:List (List Key×V))
 |set (S:Int->Bool) (n:Nat)
 |ins (C dx:Addr) (fs:List (Str×V))
 |own (x:Addr)
 |xd (fs:List (Str×V))
 |met (f x:Addr)
 |rng (lo hi:Int)
 |frz (o:Obj) (u:HO)
 |tbl (ps:Array Value)
 |ext (φ:Heap->Prop)
abbrev Hp:=Addr->Option HO
def upd (H:Hp)(a:Addr)(o:HO):Hp:=fun b=>if b=a then some o else H b
theorem z0d {H:Hp}{a:Addr}{o:HO}:upd H a o a=some o:=by unfold upd;rw[if_pos rfl]
theorem z05 {H:Hp}{a b:Addr}{o:HO}(h:b≠a):upd H a o b=H b:=by unfold upd;rw[if_neg h]
theorem zuq {H:Hp}{a b:Addr}{o u:HO}(h:H a=some o)(h':H b=some u)(d:o≠u):a≠b:=by intro e;subst e;rw[h]at h';exact d (Option.some.inj h')
theorem z06 {H:Hp}{a b:Addr}{o:HO}(h:H a=some o)(h':H b=none):a≠b:=by intro e;subst e;rw[h]at h';cases h'
def TupN (h:Heap)(a:Addr)(l:Array Value):Prop:=∃n,h.get? a=some {cls:=.type "tuple",data:=.seq l n}
theorem TupN.tup {h:Heap}{a:Addr}{l:Array Value}(x:TupN h a l):IsTup h a l:=let⟨n,q⟩:=x;⟨_,q,rfl,n,rfl⟩
theorem TupN.new (h:Heap)(l:Array Value):TupN (h.push {cls:=.type "tuple",data:=.seq l}) h.objs.size l:=⟨_,a8 _ rfl⟩
def znw (h:Heap)(a:Addr)(l:Array Value):Prop:=∃o n,h.get? a=some o/\o.cls=.type "tuple"/\o.dict=none/\o.data=.seq l n
section
variable (P:ba)(w:World)
def z0w (H:Hp)(h:Heap)(a:Addr):HO->Prop
 |.lst xs=>xs.length<=az/\∃(its:List Value) (n:Nat),Vals xs its/\h.get? a=some {cls:=.type "list",data:=.seq its.toArray n}
 |.tup xs=>xs.length<=az/\∃its:List Value,Vals xs its/\TupN h a its.toArray
 |.dK kvs=>kvs.length<=az/\(a==jq)=false/\∃vs,KV kvs vs/\h.DictOf (z10 P w) a vs
 |.dT kvs=>kvs.length<=az/\(a==jq)=false/\∃xs:List (List Key×Addr×Value),
  lc (fun(p:List Key×V) (q:List Key×Addr×Value)=>p.1=q.1/\H q.2.1=some (.tup (p.1.map kV))/\RelV p.2 q.2.2) kvs xs/\
  ∃o es ep,h.get? a=some o/\o.ExactDict/\o.data=.dict es ep/\es.toList=xs.map (entryOfKey (o9 (z10 P w)))/\(xs.map (·.1)).Nodup
 |.set S n=>h.SetOf (intKind P w) a S n
 |.ins C dx fs=>H dx=some (.own a)/\fs.length<=1000/\dx≠a/\h.get? a=some (W.instObj C dx)/\∃mA,h.Ns1 dx mA/\(∀f,RelO (fs.lookup f) (mA f))/\PySem.Within mA (fs.map (·.1))
 |.own _=>∃o,h.get? a=some o
 |.xd fs=>∃mA,h.Ns1 a mA/\∀f,RelO (fs.lookup f) (mA f)
 |.rng lo hi=>∃t u v,h.get? a=some {cls:=.type "range",data:=.fields #[.int lo t,.int hi u,.int 1 v]}
 |.frz o u=>h.get? a=some o/\z0w H h a u
 |.tbl ps=>h.get? a=some {cls:=.none,data:=.fields ps}
 |.met f x=>h.get? a=some (W.methodObj (.ref f) (.ref x))
 |.ext φ=>φ h/\(∃o,h.get? a=some o)/\∀h1 h2:Heap,φ h1->(∀o,h1.get? a=some o->h2.get? a=some o)->φ h2
def HOk (H:Hp)(h:Heap):Prop:=∀a o,H a=some o->z0w P w H h a o
end
section
variable {P:ba}{w:World}{H H':Hp}{h h':Heap}{a:Addr}{o:HO}
theorem z0w.lt (x:z0w P w H h a o):a<h.objs.size:=by
 cases o with
 |lst xs=>obtain⟨_,_,_,_,e⟩:=x;exact bj e
 |tup xs=>obtain⟨_,_,_,_,q⟩:=x;exact bj q
 |dK kvs=>obtain⟨_,_,_,_,o,_,_,e,_⟩:=x;exact bj e
 |dT kvs=>obtain⟨_,_,_,_,o,_,_,e,_⟩:=x;exact bj e
 |set S n=>obtain⟨o,_,_,_,e,_⟩:=x;exact bj e
 |ins C dx fs=>obtain⟨_,_,_,e,_⟩:=x;exact bj e
 |own y=>obtain⟨_,e⟩:=x;exact bj e
 |xd fs=>obtain⟨_,⟨_,_,_,e,_⟩,_⟩:=x;exact bj e
 |rng lo hi=>obtain⟨_,_,_,e⟩:=x;exact bj e
 |frz ob u=>obtain⟨e,_⟩:=x;exact bj e
 |tbl ps=>exact bj (show h.get? a=some _ from x)
 |met f y=>exact bj (show h.get? a=some _ from x)
 |ext φ=>obtain⟨_,⟨_,e⟩,_⟩:=x;exact bj e
theorem Paired.mapP {α β:Type}{F G:α->β->Prop}:∀{l₁:List α} {l₂:List β},lc F l₁ l₂->(∀a b,F a b->G a b)->lc G l₁ l₂
 |_,_,.nil,_=>.nil
 |_,_,.cons r t,f=>.cons (f _ _ r) (Paired.mapP t f)
theorem z0w.stay (x:z0w P w H h a o)(k:∀b u,(b=a\/H b=some (.own a))->h.get? b=some u->h'.get? b=some u)
  (ho:∀b,H b=some (.own a)->H' b=some (.own a)) (ht:∀b xs,H b=some (.tup xs)->H' b=some (.tup xs)):z0w P w H' h' a o:=by
 induction o with
 |lst xs=>obtain⟨z,its,n,r,e⟩:=x;exact⟨z,its,n,r,k _ _ (.inl rfl) e⟩
 |tup xs=>obtain⟨z,l,r,n,q⟩:=x;exact⟨z,l,r,n,k _ _ (.inl rfl) q⟩
 |dK kvs=>obtain⟨z,y,vs,r,ob,es,ep,e,c⟩:=x;exact⟨z,y,vs,r,ob,es,ep,k _ _ (.inl rfl) e,c⟩
 |dT kvs=>obtain⟨z,y,xs,r,ob,es,ep,e,c⟩:=x;exact⟨z,y,xs,Paired.mapP r fun p q z=>⟨z.1,ht _ _ z.2.1,z.2.2⟩,ob,es,ep,k _ _ (.inl rfl) e,c⟩
 |set S n=>obtain⟨ob,es,ep,t,e,c⟩:=x;exact⟨ob,es,ep,t,k _ _ (.inl rfl) e,c⟩
 |ins C dx fs=>obtain⟨d,z,ne,e,mA,⟨od,es,ep,e2,c⟩,r⟩:=x;exact⟨ho _ d,z,ne,k _ _ (.inl rfl) e,mA,⟨od,es,ep,k _ _ (.inr d) e2,c⟩,r⟩
 |own y=>obtain⟨ob,e⟩:=x;exact⟨ob,k _ _ (.inl rfl) e⟩
 |xd fs=>obtain⟨mA,⟨od,es,ep,e,c⟩,r⟩:=x;exact⟨mA,⟨od,es,ep,k _ _ (.inl rfl) e,c⟩,r⟩
 |rng lo hi=>obtain⟨t,u,v,e⟩:=x;exact⟨t,u,v,k _ _ (.inl rfl) e⟩
 |frz ob u ih=>obtain⟨e,q⟩:=x;exact⟨k _ _ (.inl rfl) e,ih q⟩
 |tbl ps=>have e:h.get? a=some {cls:=.none,data:=.fields ps}:=x;show h'.get? a=some {cls:=.none,data:=.fields ps};exact k a _ (.inl rfl) e
 |met f y=>have e:h.get? a=some (W.methodObj (.ref f) (.ref y)):=x;show h'.get? a=some (W.methodObj (.ref f) (.ref y));exact k a _ (.inl rfl) e
 |ext φ=>obtain⟨p,⟨o,e⟩,st⟩:=x;exact⟨st _ _ p fun o q=>k _ _ (.inl rfl) q,⟨o,k _ _ (.inl rfl) e⟩,st⟩
theorem HOk.lt (x:HOk P w H h)(e:H a=some o):a<h.objs.size:=(x a o e).lt
theorem HOk.fresh (x:HOk P w H h)(e:h.objs.size<=a):H a=none:=by
 cases q:H a with
 |none=>rfl
 |some u=>exact absurd (bz (x.lt q) e) (ci _)
theorem HOk.kept (x:HOk P w H h)(k:∀b u,h.get? b=some u->h'.get? b=some u):HOk P w H h':=fun a o e=>(x a o e).stay (fun b u _ q=>k b u q) (fun _ q=>q) fun _ _ q=>q
theorem HOk.laid (x:HOk P w H h)(k:∀b u,h.get? b=some u->h'.get? b=some u)(hp:h.objs.size<=a)(new:z0w P w (upd H a o) h' a o):HOk P w (upd H a o) h':=fun b u e=>by
 have hn:=x.fresh hp;by_cases hb:b=a
 ·subst hb;rw[z0d]at e;cases e;exact new
 ·rw[z05 hb]at e;exact(x b u e).stay (fun c v _ q=>k c v q) (fun c q=>by rw[z05 (z06 q hn)];exact q) fun c xs q=>by rw[z05 (z06 q hn)];exact q
end
def Rd (H:Hp)(a:Addr)(u:HO):Prop:=H a=some u\/∃o,H a=some (.frz o u)
theorem Rd.of {H:Hp}{a:Addr}{u:HO}(h:H a=some u):Rd H a u:=.inl h
theorem Rd.ok {P:ba}{w:World}{H:Hp}{h:Heap}{a:Addr}{u:HO}(r:Rd H a u)(x:HOk P w H h):z0w P w H h a u:=by
 rcases r with r|⟨o,r⟩
 ·exact x a u r
 ·obtain⟨_,q⟩:=x a _ r;exact q
def Mut:Option HO->Prop
 |some (.lst _)=>True
 |some (.dK _)=>True
 |some (.dT _)=>True
 |some (.set _ _)=>True
 |some (.ins _ _ _)=>True
 |some (.ext _)=>True
 |_=>False
section
variable {P:ba}{w:World}{H:Hp}{h h':Heap}{x e:Addr}{o':HO}
theorem HOk.write (ok:HOk P w H h)(mu:Mut (H x))(he:e=x\/H e=some (.own x))(k:∀b u,b≠e->h.get? b=some u->h'.get? b=some u)(heo:∃u,h'.get? e=some u)
  (new:z0w P w (upd H x o') h' x o'):HOk P w (upd H x o') h':=fun b u q=>by
 have nown:∀c y,H c=some (.own y)->c≠x:=fun c y r z=>by subst z;rw[r]at mu;exact mu
 have ntup:∀c xs,H c=some (.tup xs)->c≠x:=fun c xs r z=>by subst z;rw[r]at mu;exact mu
 by_cases hb:b=x
 ·subst hb;rw[z0d]at q;cases q;exact new
 ·rw[z05 hb]at q;by_cases hbe:b=e
  ·have q':H b=some (.own x):=by
    rcases he with z|z
    ·exact absurd (hbe.trans z) hb
    ·rw[hbe];exact z
   rw[q]at q';cases q';obtain⟨v,hv⟩:=heo;exact⟨v,by rw[hbe];exact hv⟩
  ·refine(ok b u q).stay (fun c v hc r=>k c v ?_ r) (fun c r=>by rw[z05 (nown c b r)];exact r) fun c xs r=>by rw[z05 (ntup c xs r)];exact r
   rcases hc with rfl|hc
   ·exact hbe
   ·rintro rfl
    rcases he with z|z
    ·exact nown c b hc z
    ·rw[hc]at z;cases z;exact hb rfl
end
structure Un (fs ex:List Addr)(H H':Hp)(h h':Heap):Prop where
 keep:∀b o,h.get? b=some o->H b=none->b∉fs->b∉ex->h'.get? b=some o
 slot:∀b o,h.get? b=some o->H b=none->b∈fs->b∉ex->∃sl,h'.get? b=some {o with slots:=sl}
 free:∀b o,h.get? b=some o->H b=none->b∉ex->H' b=none
 there:∀b o,h.get? b=some o->b∉ex->∃o',h'.get? b=some o'
 tups:∀b xs,H b=some (.tup xs)->H' b=some (.tup xs)
 frzs:∀b o u,H b=some (.frz o u)->H' b=some (.frz o u)
 tbls:∀b ps,H b=some (.tbl ps)->∃more,H' b=some (.tbl (ps++more))
section
variable {fs fs' ex ex':List Addr}{H H1 H2:Hp}{h h1 h2 h':Heap}{a x e:Addr}{o:HO}
theorem Un.any (u:Un fs ex H H1 h h1){b:Addr}{ob:Obj}(q:h.get? b=some ob)(n:H b=none)(hx:b∉ex):∃sl,h1.get? b=some {ob with slots:=sl}:=by
 by_cases hb:b∈fs
 ·exact u.slot b ob q n hb hx
 ·exact⟨ob.slots,u.keep b ob q n hb hx⟩
theorem Un.trans (a:Un fs ex H H1 h h1)(b:Un fs ex H1 H2 h1 h2):Un fs ex H H2 h h2 where
 keep:=fun c ob q n hc hx=>b.keep c ob (a.keep c ob q n hc hx) (a.free c ob q n hx) hc hx
 slot:=fun c ob q n hc hx=>by obtain⟨sl,e1⟩:=a.slot c ob q n hc hx;obtain⟨sl',e2⟩:=b.slot c _ e1 (a.free c ob q n hx) hc hx;exact⟨sl',e2⟩
 free:=fun c ob q n hx=>by obtain⟨o',e1⟩:=a.there c ob q hx;exact b.free c o' e1 (a.free c ob q n hx) hx
 there:=fun c ob q hx=>by obtain⟨o',e1⟩:=a.there c ob q hx;exact b.there c o' e1 hx
 tups:=fun c xs q=>b.tups c xs (a.tups c xs q)
 frzs:=fun c ob xs q=>b.frzs c ob xs (a.frzs c ob xs q)
 tbls:=fun c ps q=>by obtain⟨m1,e1⟩:=a.tbls c ps q;obtain⟨m2,e2⟩:=b.tbls c _ e1;exact⟨m1++m2,by rw[e2,tm]⟩
theorem Un.kept (k:∀b u,h.get? b=some u->h'.get? b=some u):Un fs ex H H h h':=⟨fun b ob q _ _ _=>k b ob q,fun b ob q _ _ _=>⟨ob.slots,k b ob q⟩,fun _ _ _ n _=>n,fun b ob q _=>⟨ob,k b ob q⟩,fun _ _ q=>q,fun _ _ _ q=>q,fun _ ps q=>⟨#[],by rw[q];simp⟩⟩
theorem Un.refl:Un fs ex H H h h:=Un.kept fun _ _ q=>q
theorem Un.laid (k:∀b u,h.get? b=some u->h'.get? b=some u)(hp:h.objs.size<=a)(hn:H a=none):Un fs ex H (upd H a o) h h' where
 keep:=fun b u q _ _ _=>k b u q
 slot:=fun b u q _ _ _=>⟨u.slots,k b u q⟩
 free:=fun b u q n _=>by rw[z05 (b7 (bz (bj q) hp))];exact n
 there:=fun b u q _=>⟨u,k b u q⟩
 tups:=fun b xs q=>by rw[z05 (z06 q hn)];exact q
 frzs:=fun b u xs q=>by rw[z05 (z06 q hn)];exact q
 tbls:=fun b ps q=>⟨#[],by rw[z05 (z06 q hn),q];simp⟩
theorem Un.write (mu:Mut (H x))(he:e=x\/H e=some (.own x))(k:∀b u,b≠e->h.get? b=some u->h'.get? b=some u)(heo:∃u,h'.get? e=some u):Un fs ex H (upd H x o) h h':=by
 have hx:∀b,H b=none->b≠x:=fun b n z=>by subst z;rw[n]at mu;exact mu
 have hb:∀b,H b=none->b≠e:=fun b n z=>by
  subst z;rcases he with r|r
  ·exact hx b n r
  ·rw[n]at r;cases r
 have hm:∀b u,H b=some u->¬Mut (some u)->b≠x:=fun b u q nm z=>by subst z;rw[q]at mu;exact nm mu
 refine⟨fun b u q n _ _=>k b u (hb b n) q,fun b u q n _ _=>⟨u.slots,k b u (hb b n) q⟩,fun b u q n _=>by rw[z05 (hx b n)];exact n,fun b u q _=>?_,fun b xs q=>by rw[z05 (hm b _ q fun z=>z)];exact q,fun b u xs q=>by rw[z05 (hm b _ q fun z=>z)];exact q,fun b ps q=>⟨#[],by rw[z05 (hm b _ q fun z=>z),q];simp⟩⟩;by_cases hbe:b=e
 ·subst hbe;exact heo
 ·exact⟨u,k b u hbe q⟩
theorem Un.mono (u:Un fs ex H H1 h h1)(hs:∀b∈fs,b∈fs')(hx:∀b∈ex,b∈ex'):Un fs' ex' H H1 h h1:=⟨fun b ob q n hb he=>u.keep b ob q n (fun z=>hb (hs b z)) fun z=>he (hx b z),fun _ _ q n _ he=>u.any q n fun z=>he (hx _ z),fun b ob q n he=>u.free b ob q n fun z=>he (hx b z),fun b ob q he=>u.there b ob q fun z=>he (hx b z),u.tups,u.frzs,u.tbls⟩
end
def trk (h:Heap)(H:Hp):List Addr:=(cu h.objs.size).filter fun a=>(H a).isSome
def hidT (h:Heap)(H:Hp):Heap:=W.hideAll h (trk h H)
theorem zdx (h:Heap)(H:Hp):(hidT h H).objs.size=h.objs.size:=W.hideAll_size _ _
theorem zgt {h:Heap}{H:Hp}{b:Addr}{o:Obj}(e:h.get? b=some o)(n:H b=none):(hidT h H).get? b=some o:=W.hideAll_get _ e fun hm=>by have q:(H b).isSome=true:=(cz.mp hm).2;rw[n]at q;simp at q
theorem zmm {h:Heap}{H:Hp}{b:Addr}{o:Obj}(e:(hidT h H).get? b=some o):h.get? b=some o/\H b=none:=by
 have e':h.get? b=some o:=W.of_hideAll (trk h H) e;refine⟨e',?_⟩;cases q:H b with
 |none=>rfl
 |some x=>have hm:b∈trk h H:=cz.mpr ⟨ny.mpr (bj e'),by simp[q]⟩;have z:(hidT h H).get? b=none:=W.hideAll_none (trk h H) hm;rw[z]at e;cases e
def z49 (g h:Heap)(L:Addr):List (Addr×Obj):=(cu h.objs.size).filterMap fun a=>if a=L\/(g.get? a).isSome=true then none else(h.get? a).map fun o=>(a,o)
theorem z30 {g h:Heap}{L a:Addr}{o:Obj}(h1:a≠L)(h2:g.get? a=none)(h3:h.get? a=some o):(a,o)∈z49 g h L:=ip.mpr ⟨a,ny.mpr (bj h3),by simp[h1,h2,h3]⟩
theorem z57 {g h:Heap}{L:Addr}{p:Addr×Obj}(hp:p∈z49 g h L):p.1≠L/\g.get? p.1=none/\h.get? p.1=some p.2:=by
 obtain⟨b,_,e⟩:=ip.mp hp;split at e
 ·cases e
 ·rename_i hn;cases q:h.get? b with
  |none=>rw[q]at e;simp at e
  |some u=>
   rw[q]at e;simp only[Option.map_some,Option.some.injEq]at e;subst e;refine⟨fun z=>hn (.inl z),?_,q⟩;show g.get? b=none;cases r:g.get? b with
   |none=>rfl
   |some v=>exact(hn (.inr (by simp[r]))).elim
def rest (g h:Heap)(L d:Addr):List (Addr×Obj):=(z49 g h L).filter fun p=>decide (p.1≠d)
theorem zds {g h:Heap}{L d:Addr}:∀p∈rest g h L d,p.1≠d:=fun p hp=>vy (cz.mp hp).2
theorem zh5 {g h:Heap}{L d a:Addr}{o:Obj}(h1:a≠L)(h2:g.get? a=none)(h3:h.get? a=some o)(h4:a≠d):(a,o)∈rest g h L d:=cz.mpr ⟨z30 h1 h2 h3,v5 h4⟩
theorem za8 {g h:Heap}{L:Addr}:News g L h (z49 g h L):=fun p hp=>let⟨a,b,c⟩:=z57 hp;⟨c,a,b⟩
theorem news_at {g h:Heap}{L d:Addr}{o:Obj}(h1:d≠L)(h2:g.get? d=none)(h3:h.get? d=some o):News g L h ((d,o)::rest g h L d):=fun p hp=>by
 rcases aw.mp hp with rfl|hp
 ·exact⟨h3,h1,h2⟩
 ·exact za8 p (cz.mp hp).1
theorem z7l {g h h':Heap}{L d:Addr}{m:Str->Option Value}(k:∀b o,g.get? b=some o->h.get? b=some o)(F:Fr g L h' m)(N:News g L h' (rest g h L d)):
  ∀b o,b≠L->b≠d->h.get? b=some o->h'.get? b=some o:=fun b o h1 h2 e=>by
 cases q:g.get? b with
 |some u=>have:=k b u q;rw[e]at this;cases this;exact F.keep b _ q
 |none=>exact(N (b,o) (zh5 h1 q e h2)).1
structure Mod (K:W.Frag)(mg:Str->Option Value)(base:Heap):Prop where
 kin:K.In base
 glob:base.Ns b8 mg
 blt:∃mb,base.Ns vb mb/\∀x:Str,x≠"__name__"->mb x=df x
 nolimit:base.NoLimit
structure Cx where
 prog:ba
 w:World
 K:W.Frag
 mg:Str->Option Value
 base:Heap
 A:b6
 N:List Str
 s₀:ac
 H₀:Hp
 env:Env
 outer:List Env
 stack:List Env
 ex:List Addr
 fn:Str->Bool
 calm:Bool
 pn:List (Addr×Obj)
 xe:Value->ac->Prop
 fx:Option (Str×Value):=none
def frs (l:List Env):List Addr:=l.filterMap (·.frame)
abbrev Cx.fs (X:Cx):List Addr:=frs X.outer
def Vis (sc:Scope)(x:Str):Prop:=sc.names.lookup x=some .local\/sc.names.lookup x=some .cell\/sc.names.lookup x=some .free
def Loc (sc:Scope)(x:Str):Prop:=sc.names.lookup x=some .local\/sc.names.lookup x=some .cell
def Look (env:Env)(h:Heap)(m:Str->Option Value)(x:Str)(u:Value):Prop:=(env.kindOf x=some .local/\m x=some u)\/((env.kindOf x=some .cell\/env.kindOf x=some .free)/\∃c,env.cells.lookup x=some c/\h.IsCell c (some u))
structure Cx.Ok (X:Cx):Prop where
 mod:Mod X.K X.mg X.base
 kind:X.env.scope.kind=.function
 glob:X.env.globals=b8
 blt:X.env.builtins=vb
 above:X.s₀.heap.objs.size<=X.env.locals
 inj:∀x y c,X.env.cells.lookup x=some c->X.env.cells.lookup y=some c->x=y
 has:∀x,(X.env.kindOf x=some .cell\/X.env.kindOf x=some .free)->∃c,X.env.cells.lookup x=some c
 cab:∀x c,X.fn x=true->X.env.cells.lookup x=some c->X.s₀.heap.objs.size<=c
 hd:X.calm=true->X.A.handled=none
 frames:X.A.frames=some X.stack
 stk:X.stack=X.outer\/(X.stack=X.env::X.outer/\X.env.frame=some X.env.locals)
 exf:∀b∈X.ex,b≠X.env.locals/\∀x c,X.env.cells.lookup x=some c->c≠b
 bs:∀b o,X.base.get? b=some o->X.s₀.heap.get? b=some o/\X.H₀ b=none
 bsz:X.base.objs.size<=X.s₀.heap.objs.size
 noex:∀b o,X.base.get? b=some o->b∉X.ex
 exfs:∀b∈X.ex,b∉X.fs
 funs:X.s₀.heap.FunFrames X.base X.outer
 frf:∀b∈X.fs,X.H₀ b=none
 fxN:∀x u,X.fx=some (x,u)->x∉X.N/\X.env.scope.names.lookup x=some .local
structure Inv (X:Cx)(pins:List (Addr×Obj))(σ:List (Option V))(H:Hp)(s:ac):Prop where
 ok:X.Ok
 os:s.os=X.s₀.os
 bare:nk s.gens
 base:Un X.fs X.ex X.H₀ H X.s₀.heap s.heap
 loc:∃m,s.heap.Ns X.env.locals m/\∀(i:Nat) (x:Str) (v:V),X.N[i]?=some x->σ[i]?=some (some v)->Vis X.env.scope x->∃u,RelV v u/\Look X.env s.heap m x u
 cell:∀x c,X.env.cells.lookup x=some c->∃v,s.heap.IsCell c v
 free:H X.env.locals=none
 freeC:∀x c,X.env.cells.lookup x=some c->H c=none
 pin:∀p∈X.pn++pins,s.heap.get? p.1=some p.2/\H p.1=none/\p.1≠X.env.locals/\p.1∉X.fs/\∀v,p.2.data≠.cell v
 hok:HOk X.prog X.w H s.heap
 len:σ.length=X.N.length
 fx:∀x u,X.fx=some (x,u)->∃m,s.heap.Ns X.env.locals m/\m x=some u
section
variable {X:Cx}{pins:List (Addr×Obj)}{σ:List (Option V)}{H H':Hp}{s:ac}{h':Heap}
theorem Cx.Ok.nofr (ok:X.Ok){b:Addr}{o:Obj}(e:X.base.get? b=some o):b∉X.fs:=fun hb=>by have:=(ok.funs.mem hb).1;rw[e]at this;cases this
theorem Inv.bs (I:Inv X pins σ H s):∀b o,X.base.get? b=some o->s.heap.get? b=some o/\H b=none:=fun b o e=>⟨I.base.keep b o (I.ok.bs b o e).1 (I.ok.bs b o e).2 (I.ok.nofr e) (I.ok.noex b o e),I.base.free b o (I.ok.bs b o e).1 (I.ok.bs b o e).2 (I.ok.noex b o e)⟩
theorem Inv.bk (I:Inv X pins σ H s):∀b o,X.base.get? b=some o->s.heap.get? b=some o:=fun b o e=>(I.bs b o e).1
theorem Inv.mod (I:Inv X pins σ H s):Mod X.K X.mg X.base:=I.ok.mod
theorem Inv.kIn (I:Inv X pins σ H s):X.K.In s.heap:=I.ok.mod.kin.keeps I.bk
theorem Inv.nolimit (I:Inv X pins σ H s):s.heap.NoLimit:=I.ok.mod.nolimit.keeps I.bk
theorem Inv.fr (I:Inv X pins σ H s):∃m,Fr X.base X.env.locals s.heap m:=
 let⟨m,hn,_⟩:=I.loc
 ⟨m,hn,I.bk,bx I.ok.bsz I.ok.above⟩
theorem Inv.lt (I:Inv X pins σ H s):X.env.locals<s.heap.objs.size:=let⟨_,hn,_⟩:=I.loc;hn.lt
theorem Inv.sz (I:Inv X pins σ H s):X.s₀.heap.objs.size<=s.heap.objs.size:=bx I.ok.above (np I.lt)
theorem Inv.nofs (I:Inv X pins σ H s){a:Addr}(h:s.heap.objs.size<=a):a∉X.fs:=fun hb=>by obtain⟨_,o,ho,_⟩:=I.ok.funs.mem hb;exact absurd (bz (bj ho) (bx I.sz h)) (ci _)
theorem Inv.cne (I:Inv X pins σ H s):∀x c,X.env.cells.lookup x=some c->c≠X.env.locals:=fun x c e z=>by obtain⟨v,o,ho,hd⟩:=I.cell x c e;obtain⟨m,⟨o',es,ep,ho',hd',_⟩,_⟩:=I.loc;rw[z,ho']at ho;cases ho;rw[hd']at hd;cases hd
theorem Inv.funs (I:Inv X pins σ H s):s.heap.FunFrames X.base X.outer:=by
 have all:∀(l:List Env),(∀b∈frs l,b∈X.fs)->X.s₀.heap.FunFrames X.base l->s.heap.FunFrames X.base l:=by
  intro l
  induction l with
  |nil=>intro _ _;trivial
  |cons env r ih=>intro hs hl;obtain⟨hk,⟨L,o,hf,hn,ho,hd⟩,hr⟩:=hl;have hL:L∈X.fs:=hs L (by unfold frs;rw[dr,hf];exact ak);obtain⟨sl,e⟩:=I.base.slot L o ho (I.ok.frf L hL) hL fun z=>I.ok.exfs L z hL;exact⟨hk,⟨L,_,hf,hn,e,hd⟩,ih (fun b hb=>hs b (by unfold frs;rw[dr,hf];exact au _ hb)) hr⟩
 exact all X.outer (fun _ hb=>hb) I.ok.funs
theorem Inv.stack (I:Inv X pins σ H s):s.heap.FunFrames X.base X.stack:=by
 rcases I.ok.stk with e|⟨e,hf⟩
 ·rw[e];exact I.funs
 ·rw[e];obtain⟨m,hn,_⟩:=I.loc;refine .cons (by rw[I.ok.kind];decide) hf hn ?_ I.funs;exact qj (bx I.ok.bsz I.ok.above)
theorem Inv.stkSub (I:Inv X pins σ H s):∀b∈frs X.stack,b∈X.env.locals::X.fs:=fun b hb=>by
 rcases I.ok.stk with e|⟨e,hf⟩
 ·rw[e]at hb;exact au _ hb
 ·rw[e]at hb;unfold frs at hb;rw[dr,hf]at hb;exact hb
theorem Inv.stkFree (I:Inv X pins σ H s):∀b∈frs X.stack,H b=none:=fun b hb=>by
 rcases aw.mp (I.stkSub b hb)with e|hb
 ·rw[e];exact I.free
 ·obtain⟨_,o,ho,_⟩:=I.ok.funs.mem hb;exact I.base.free b o ho (I.ok.frf b hb) fun z=>I.ok.exfs b z hb
theorem Inv.step {g':Array t8}{t':Nat}{d':Drawn}{ch:List Addr}(I:Inv X pins σ H s)
  (hch:∀b∈ch,(b∈X.ex\/X.s₀.heap.objs.size<=b)/\b≠X.env.locals/\(∀x c,X.env.cells.lookup x=some c->c≠b)/\∀p∈X.pn++pins,p.1≠b)
  (keep:∀b o,b≠X.env.locals->b∉X.fs->b∉ch->s.heap.get? b=some o->H b=none->h'.get? b=some o)
  (slot:∀b o,b≠X.env.locals->b∈X.fs->b∉ch->s.heap.get? b=some o->H b=none->∃sl,h'.get? b=some {o with slots:=sl}) (free:∀b o,b∉ch->s.heap.get? b=some o->H b=none->H' b=none)
  (there:∀b o,b∉ch->s.heap.get? b=some o->∃o',h'.get? b=some o')
  (tups:∀b xs,H b=some (.tup xs)->H' b=some (.tup xs)) (frzs:∀b o u,H b=some (.frz o u)->H' b=some (.frz o u)) (tbls:∀b ps,H b=some (.tbl ps)->∃more,H' b=some (.tbl (ps++more)))
  (ns:∀m,s.heap.Ns X.env.locals m->h'.Ns X.env.locals m) (hok:HOk X.prog X.w H' h') (hg:nk g'):
  Inv X pins σ H' {s with heap:=h',gens:=g',drawn:=d',toks:=t'}:=by
 have neL:∀b o,X.s₀.heap.get? b=some o->b≠X.env.locals:=fun b o e=>b7 (bz (bj e) I.ok.above)
 have neC:∀b o,X.s₀.heap.get? b=some o->b∉X.ex->b∉ch:=fun b o e hx hb=>by
  rcases(hch b hb).1 with z|z
  ·exact hx z
  ·exact absurd (bz (bj e) z) (ci _)
 have cellK:∀x c,X.env.cells.lookup x=some c->∀v,s.heap.IsCell c v->h'.IsCell c v:=fun x c e v ⟨o,ho,hd⟩=>by
  have nch:c∉ch:=fun z=>(hch c z).2.2.1 x c e rfl;by_cases hc:c∈X.fs
  ·obtain⟨sl,q⟩:=slot c o (I.cne x c e) hc nch ho (I.freeC x c e);exact⟨_,q,hd⟩
  ·exact⟨o,keep c o (I.cne x c e) hc nch ho (I.freeC x c e),hd⟩
 refine⟨I.ok,I.os,hg,⟨fun b o e n hb hx=>?_,fun b o e n hb hx=>?_,fun b o e n hx=>?_,fun b o e hx=>?_,fun b xs e=>tups b xs (I.base.tups b xs e),fun b o xs e=>frzs b o xs (I.base.frzs b o xs e),fun b ps e=>?_⟩,?_,fun x c e=>?_,?_,fun x c e=>?_,fun p hp=>?_,hok,I.len,fun x u e=>let⟨m,hn,q⟩:=I.fx x u e;⟨m,ns m hn,q⟩⟩
 ·exact keep b o (neL b o e) hb (neC b o e hx) (I.base.keep b o e n hb hx) (I.base.free b o e n hx)
 ·obtain⟨sl,e1⟩:=I.base.slot b o e n hb hx;obtain⟨sl',e2⟩:=slot b _ (neL b o e) hb (neC b o e hx) e1 (I.base.free b o e n hx);exact⟨sl',e2⟩
 ·obtain⟨o',e1⟩:=I.base.there b o e hx;exact free b o' (neC b o e hx) e1 (I.base.free b o e n hx)
 ·obtain⟨o',e1⟩:=I.base.there b o e hx;exact there b o' (neC b o e hx) e1
 ·obtain⟨m1,e1⟩:=I.base.tbls b ps e;obtain⟨m2,e2⟩:=tbls b _ e1;exact⟨m1++m2,by rw[e2,tm]⟩
 ·obtain⟨m,hn,hl⟩:=I.loc;refine⟨m,ns m hn,fun i x v e1 e2 e3=>?_⟩;obtain⟨u,r,l⟩:=hl i x v e1 e2 e3;refine⟨u,r,?_⟩;rcases l with l|⟨k,c,e,z⟩
  ·exact .inl l
  ·exact .inr ⟨k,c,e,cellK x c e _ z⟩
 ·obtain⟨v,z⟩:=I.cell x c e;exact⟨v,cellK x c e v z⟩
 ·obtain⟨m,⟨o,_,_,ho,_⟩,_⟩:=I.loc;exact free _ o (fun z=>(hch _ z).2.1 rfl) ho I.free
 ·obtain⟨v,o,ho,hd⟩:=I.cell x c e;exact free c o (fun z=>(hch c z).2.2.1 x c e rfl) ho (I.freeC x c e)
 ·obtain⟨e,n,ne,nf,d⟩:=I.pin p hp;have nch:p.1∉ch:=fun z=>(hch p.1 z).2.2.2 p hp rfl;exact⟨keep p.1 p.2 ne nf nch e n,free p.1 p.2 nch e n,ne,nf,d⟩
theorem Inv.un {t':Nat}(I:Inv X pins σ H s)(u:Un X.fs [] H H' s.heap h')(hok:HOk X.prog X.w H' h'):Inv X pins σ H' {s with heap:=h',toks:=t'}:=by obtain⟨m,⟨o,es,ep,ho,r⟩,_⟩:=id I.loc;obtain⟨sl,hL⟩:=u.any ho I.free (by simp);exact I.step (g':=s.gens) (d':=s.drawn) (ch:=[]) (fun _ z=>nomatch z) (fun b o _ hb _ e n=>u.keep b o e n hb (by simp)) (fun b o _ hb _ e n=>u.slot b o e n hb (by simp)) (fun b o _ e n=>u.free b o e n (by simp)) (fun b o _ e=>u.there b o e (by simp)) u.tups u.frzs u.tbls (fun m' hm=>by obtain⟨o',es',ep',ho',r'⟩:=hm;rw[ho]at ho';cases ho';exact⟨_,es',ep',hL,r'⟩) hok I.bare
theorem Inv.call {g':Array t8}{t':Nat}{d':Drawn}{ch:List Addr}(I:Inv X pins σ H s)(u:Un (frs X.stack) ch H H' s.heap h')(hok:HOk X.prog X.w H' h')(hg:nk g')
  (hch:∀b∈ch,(b∈X.ex\/X.s₀.heap.objs.size<=b)/\b≠X.env.locals/\(∀x c,X.env.cells.lookup x=some c->c≠b)/\∀p∈X.pn++pins,p.1≠b):
  Inv X pins σ H' {s with heap:=h',gens:=g',drawn:=d',toks:=t'}:=by
 obtain⟨m,⟨o,es,ep,ho,r⟩,_⟩:=id I.loc;obtain⟨sl,hL⟩:=u.any ho I.free fun z=>(hch _ z).2.1 rfl;exact I.step (ch:=ch) hch (fun b o hL hb hc e n=>u.keep b o e n (fun z=>(aw.mp (I.stkSub b z)).elim hL hb) hc) (fun b o _ _ hc e n=>u.any e n hc) (fun b o hc e n=>u.free b o e n hc) (fun b o hc e=>u.there b o e hc) u.tups u.frzs u.tbls (fun m' hm=>by obtain⟨o',es',ep',ho',r'⟩:=hm;rw[ho]at ho';cases ho';exact⟨_,es',ep',hL,r'⟩) hok hg
theorem Inv.turned {t':Nat}{it:Addr}(I:Inv X pins σ H s)(k:∀b o,b≠it->s.heap.get? b=some o->h'.get? b=some o)(hn:H it=none)(hL:it≠X.env.locals)
  (h1:it∈X.ex\/X.s₀.heap.objs.size<=it) (h2:∀x c,X.env.cells.lookup x=some c->c≠it) (h3:∀p∈X.pn++pins,p.1≠it):Inv X pins σ H {s with heap:=h',toks:=t'}:=by
 have nit:∀b u,H b=some u->b≠it:=fun b u e z=>by rw[z,hn]at e;cases e
 refine I.step (g':=s.gens) (d':=s.drawn) (ch:=[it]) (fun b hb=>?_) (fun b o _ _ hc e _=>k b o (fun z=>hc (by simp[z])) e) (fun b o _ _ hc e _=>⟨o.slots,k b o (fun z=>hc (by simp[z])) e⟩) (fun _ _ _ _ n=>n) (fun b o hc e=>⟨o,k b o (fun z=>hc (by simp[z])) e⟩) (fun _ _ e=>e) (fun _ _ _ e=>e) (fun b ps e=>⟨#[],by rw[e];simp⟩) (fun m hm=>?_) (fun b u e=>?_) I.bare
 ·have e:b=it:=by simpa using hb
  subst e;exact⟨h1,hL,h2,h3⟩
 ·obtain⟨o,es,ep,ho,r⟩:=hm;exact⟨o,es,ep,k _ o (Ne.symm hL) ho,r⟩
 ·refine(I.hok b u e).stay (fun c v hc q=>k c v ?_ q) (fun _ q=>q) fun _ _ q=>q;rcases hc with z|z
  ·rw[z];exact nit b u e
  ·exact nit c _ z
theorem Inv.tok (I:Inv X pins σ H s)(t:Nat):Inv X pins σ H {s with toks:=t}:=I.un (h':=s.heap) (t':=t) Un.refl I.hok
theorem Inv.kept {t':Nat}(I:Inv X pins σ H s)(k:∀b u,s.heap.get? b=some u->h'.get? b=some u):Inv X pins σ H {s with heap:=h',toks:=t'}:=I.un (Un.kept k) (I.hok.kept k)
theorem Inv.laid {a:Addr}{o:HO}{t':Nat}(I:Inv X pins σ H s)(k:∀b u,s.heap.get? b=some u->h'.get? b=some u)(hp:s.heap.objs.size<=a)(new:z0w X.prog X.w (upd H a o) h' a o): Inv X pins σ (upd H a o) {s with heap:=h',toks:=t'}:=I.un (Un.laid k hp (I.hok.fresh hp)) (I.hok.laid k hp new)
theorem Inv.write {x e:Addr}{o:HO}{t':Nat}(I:Inv X pins σ H s)(mu:Mut (H x))(he:e=x\/H e=some (.own x))(k:∀b u,b≠e->s.heap.get? b=some u->h'.get? b=some u)(heo:∃u,h'.get? e=some u) (new:z0w X.prog X.w (upd H x o) h' x o):Inv X pins σ (upd H x o) {s with heap:=h',toks:=t'}:=I.un (Un.write mu he k heo) (I.hok.write mu he k heo new)
theorem Inv.weak {σ':List (Option V)}(I:Inv X pins σ H s)(hl:σ'.length=σ.length)(w:∀(i:Nat) v,σ'[i]?=some (some v)->σ[i]?=some (some v)):Inv X pins σ' H s:=⟨I.ok,I.os,I.bare,I.base,let⟨m,hn,hl'⟩:=I.loc;⟨m,hn,fun i x v e1 e2 e3=>hl' i x v e1 (w i v e2) e3⟩,I.cell,I.free,I.freeC,I.pin,I.hok,hl.trans I.len,I.fx⟩
theorem Inv.pins_of {pins':List (Addr×Obj)}(I:Inv X pins σ H s)(h:∀p∈pins',s.heap.get? p.1=some p.2/\H p.1=none/\p.1≠X.env.locals/\p.1∉X.fs/\∀v,p.2.data≠.cell v):Inv X pins' σ H s:=⟨I.ok,I.os,I.bare,I.base,I.loc,I.cell,I.free,I.freeC,fun p hp=>(b9.mp hp).elim (fun z=>I.pin p (j6 _ z)) (h p),I.hok,I.len,I.fx⟩
theorem zrv {h:Heap}{a:Addr}{m m':Str->Option Value}(x:h.Ns a m)(y:h.Ns a m')(n:Str):m n=m' n:=by obtain⟨o,es,ep,e,d,_,f⟩:=x;obtain⟨o',es',ep',e',d',_,f'⟩:=y;rw[e]at e';cases e';rw[d]at d';cases d';rw[<-f n,f' n]
theorem zan {N:List Str}(hN:N.Nodup){i j:Nat}{x:Str}(a:N[i]?=some x)(b:N[j]?=some x):i=j:=by obtain⟨h1,e1⟩:=cy.mp a;obtain⟨h2,e2⟩:=cy.mp b;exact(List.getElem_inj hN).mp (e1.trans e2.symm)
theorem zdt {M:Model}{A:b6}{E:Value->ac->Prop}{i:Nat}{x:Str}{v:V}{u:Value}{Q:Unit->ac->Prop}(I:Inv X pins σ H s)(hN:X.N.Nodup)(hi:X.N[i]?=some x)(hx:Loc X.env.scope x)(r:RelV v u)
  (h:∀s',Inv X pins (σ.set i (some v)) H s'->(∃a,ce a s.heap s'.heap/\(a=X.env.locals\/X.env.cells.lookup x=some a))->Q () s') (hf:X.fn x=true\/X.env.scope.names.lookup x=some .local:=by first|exact .inl rfl|exact .inr rfl|assumption):wpAny M A (storeName X.env x u) Q E s:=by
 obtain⟨m,hn,hl⟩:=id I.loc;have hcls:(X.env.scope.kind==.class||(X.env.scope.kind==.module&&X.env.locals != X.env.globals))=false:=by rw[I.ok.kind];rfl
 have hiσ:i<σ.length:=by rw[I.len];exact(cy.mp hi).1
 have cne:=I.cne
 have tracked:∀{a:Addr} {h':Heap},(∃o,s.heap.get? a=some o/\H a=none)->ce a s.heap h'->HOk X.prog X.w H h':=fun{a h'} ha hs b ob e=>by
  obtain⟨_,_,hfree⟩:=ha;refine(I.hok b ob e).stay (fun c w' hc q=>(hs.2 c ?_).trans q) (fun _ q=>q) fun _ _ q=>q
  rintro rfl
  rcases hc with rfl|hc
  ·rw[hfree]at e;cases e
  ·rw[hfree]at hc;cases hc
 rcases hx with hk|hk
 ·refine wpAny_storeName_local hk hn (fun h' hn' hs=>?_) hcls;obtain⟨oL,_,_,hoL,_⟩:=id hn;refine h _ ⟨I.ok,I.os,I.bare,⟨fun b o e n hb hx=>?_,fun b o e n hb hx=>?_,I.base.free,fun b o e hx=>?_,I.base.tups,I.base.frzs,I.base.tbls⟩,⟨_,hn',fun j y v' e1 e2 e3=>?_⟩,fun y c e=>?_,I.free,I.freeC,fun p hp=>?_,tracked ⟨oL,hoL,I.free⟩ hs,by simpa using I.len,fun y u e=>by obtain⟨m',hn2,q⟩:=I.fx y u e;refine⟨_,hn',?_⟩;have hy:y≠x:=fun z=>(I.ok.fxN y u e).1 (z▸bc hi);have:=zrv hn hn2 y;simp[hy,this,q]⟩ ⟨_,hs,.inl rfl⟩
  ·exact(hs.2 b (b7 (bz (bj e) I.ok.above))).trans (I.base.keep b o e n hb hx)
  ·obtain⟨sl,e1⟩:=I.base.slot b o e n hb hx;exact⟨sl,(hs.2 b (b7 (bz (bj e) I.ok.above))).trans e1⟩
  ·obtain⟨o',e1⟩:=I.base.there b o e hx;exact⟨o',(hs.2 b (b7 (bz (bj e) I.ok.above))).trans e1⟩
  ·by_cases hj:j=i
   ·subst hj;rw[hi]at e1;cases e1;rw[pq hiσ]at e2;cases e2;exact⟨u,r,.inl ⟨hk,by simp⟩⟩
   ·rw[d5 (Ne.symm hj)]at e2;obtain⟨u',r',q⟩:=hl j y v' e1 e2 e3;refine⟨u',r',?_⟩;rcases q with⟨k,e⟩|⟨k,c,e,z⟩
    ·refine .inl ⟨k,?_⟩;have:y≠x:=fun e=>hj (zan hN e1 (e▸hi));simp[this,e]
    ·exact .inr ⟨k,c,e,z.sameBut hs (cne y c e)⟩
  ·obtain⟨w',z⟩:=I.cell y c e;exact⟨w',z.sameBut hs (cne y c e)⟩
  ·obtain⟨e,n,ne,nf,d⟩:=I.pin p hp;exact⟨(hs.2 p.1 ne).trans e,n,ne,nf,d⟩
 ·have hfn:X.fn x=true:=by
   rcases hf with z|z
   ·exact z
   ·rw[z]at hk;cases hk
  obtain⟨c,hc⟩:=I.ok.has x (.inl hk);obtain⟨w',z⟩:=I.cell x c hc;refine wpAny_storeName_cell I.ok.kind hk hc z (fun h' hc' hs=>?_);obtain⟨oc,hoc,hocd⟩:=id z;refine h {s with heap:=h'} ⟨I.ok,I.os,I.bare,⟨fun b o e n hb hx=>?_,fun b o e n hb hx=>?_,I.base.free,fun b o e hx=>?_,I.base.tups,I.base.frzs,I.base.tbls⟩,⟨m,hn.sameBut hs (Ne.symm (cne x c hc)),fun j y v' e1 e2 e3=>?_⟩,fun y c' e=>?_,I.free,I.freeC,fun p hp=>?_,tracked ⟨oc,hoc,I.freeC x c hc⟩ hs,by simpa using I.len,fun y u e=>let⟨m',hn2,q⟩:=I.fx y u e;⟨m',hn2.sameBut hs (Ne.symm (cne x c hc)),q⟩⟩ ⟨c,hs,.inr hc⟩
  ·exact(hs.2 b (b7 (bz (bj e) (I.ok.cab x c hfn hc)))).trans (I.base.keep b o e n hb hx)
  ·obtain⟨sl,e1⟩:=I.base.slot b o e n hb hx;exact⟨sl,(hs.2 b (b7 (bz (bj e) (I.ok.cab x c hfn hc)))).trans e1⟩
  ·obtain⟨o',e1⟩:=I.base.there b o e hx;exact⟨o',(hs.2 b (b7 (bz (bj e) (I.ok.cab x c hfn hc)))).trans e1⟩
  ·by_cases hj:j=i
   ·subst hj;rw[hi]at e1;cases e1;rw[pq hiσ]at e2;cases e2;exact⟨u,r,.inr ⟨.inl hk,c,hc,hc'⟩⟩
   ·rw[d5 (Ne.symm hj)]at e2;obtain⟨u',r',q⟩:=hl j y v' e1 e2 e3;refine⟨u',r',?_⟩;rcases q with q|⟨k,c',e,z'⟩
    ·exact .inl q
    ·refine .inr ⟨k,c',e,z'.sameBut hs ?_⟩
     rintro rfl
     exact hj (zan hN e1 (I.ok.inj _ _ _ e hc▸hi))
  ·by_cases hcc:c'=c
   ·subst hcc;exact⟨_,hc'⟩
   ·obtain⟨w2,z2⟩:=I.cell y c' e;exact⟨w2,z2.sameBut hs hcc⟩
  ·obtain⟨e,n,ne,nf,d⟩:=I.pin p hp;refine⟨(hs.2 p.1 ?_).trans e,n,ne,nf,d⟩;intro q;rw[q,hoc]at e;have q':oc=p.2:=Option.some.inj e;exact d w' (by rw[<-q'];exact hocd)
theorem z66 {M:Model}{A:b6}{E:Value->ac->Prop}{i:Nat}{x:Str}{v:V}{u:Value}{Q:Unit->ac->Prop}(I:Inv X pins σ H s)(hN:X.N.Nodup)(hi:X.N[i]?=some x)(hx:Loc X.env.scope x)(r:RelV v u)
  (h:∀s',Inv X pins (σ.set i (some v)) H s'->Q () s') (hf:X.fn x=true\/X.env.scope.names.lookup x=some .local:=by first|exact .inl rfl|exact .inr rfl|assumption):wpAny M A (storeName X.env x u) Q E s:=
 zdt I hN hi hx r (fun s' I' _=>h s' I') hf
theorem Inv.call' {s':ac}{ch:List Addr}(I:Inv X pins σ H s)(ho:s'.os=s.os)(u:Un (frs X.stack) ch H H' s.heap s'.heap)(hok:HOk X.prog X.w H' s'.heap)(hg:nk s'.gens)
  (hch:∀b∈ch,(b∈X.ex\/X.s₀.heap.objs.size<=b)/\b≠X.env.locals/\(∀x c,X.env.cells.lookup x=some c->c≠b)/\∀p∈X.pn++pins,p.1≠b):Inv X pins σ H' s':=by
 obtain⟨h',g',d',t',o'⟩:=s';have e:o'=s.os:=ho;subst e;exact I.call (g':=g') (t':=t') (d':=d') u hok hg hch
end
abbrev XK:=Value->Option Addr->Hp->Prop
abbrev St:=List (Option V)
abbrev VK:=V->Hp->Prop
abbrev TE:=St->Hp->VK->Prop
abbrev TT:=St->Hp->(Bool->Hp->Prop)->Prop
abbrev TA:=St->Hp->(List V->Hp->Prop)->Prop
structure Ends where
 nx:St->Hp->Prop
 rt:VK
 bk:St->Hp->Prop:=fun _ _=>False
 ct:St->Hp->Prop:=fun _ _=>False
abbrev TS:=Ends->St->Hp->Prop
def EP (X:Cx)(pins:List (Addr×Obj))(σ:St)(Q:VK)(u:Value)(s':ac):Prop:=∃v H',Inv X pins σ H' s'/\RelV v u/\Q v H'
def TP (X:Cx)(pins:List (Addr×Obj))(σ:St)(Q:Bool->Hp->Prop)(b:Bool)(s':ac):Prop:=∃H',Inv X pins σ H' s'/\Q b H'
def AP (X:Cx)(pins:List (Addr×Obj))(σ:St)(Q:List V->Hp->Prop)(us:List Value)(s':ac):Prop:=∃vs H',Inv X pins σ H' s'/\Vals vs us/\Q vs H'
def SP (X:Cx)(pins:List (Addr×Obj))(D:Ends)(f:Flow)(s':ac):Prop:=
 match f with
 |.next=>∃σ' H',Inv X pins σ' H' s'/\D.nx σ' H'
 |.brk=>∃σ' H',Inv X pins σ' H' s'/\D.bk σ' H'
 |.cont=>∃σ' H',Inv X pins σ' H' s'/\D.ct σ' H'
 |.ret u=>∃v σ' H',Inv X pins σ' H' s'/\RelV v u/\D.rt v H'
def PE (X:Cx)(e:Expr)(t:TE):Prop:=∀(pins:List (Addr×Obj)) (s:ac) (σ:St) (H:Hp) (Q:VK),Inv X pins σ H s->t σ H Q->wpAny (model X.prog X.w) X.A (eval e X.env) (EP X pins σ Q) X.xe s
def PT (X:Cx)(e:Expr)(t:TT):Prop:=∀(pins:List (Addr×Obj)) (s:ac) (σ:St) (H:Hp) (Q:Bool->Hp->Prop),Inv X pins σ H s->t σ H Q->wpAny (model X.prog X.w) X.A (uu e X.env (eval e X.env)) (TP X pins σ Q) X.xe s
def PW (X:Cx)(e:Expr)(t:TT):Prop:=∀(whole:Sem Value) (pins:List (Addr×Obj)) (s:ac) (σ:St) (H:Hp) (Q:Bool->Hp->Prop),Inv X pins σ H s->t σ H Q->wpAny (model X.prog X.w) X.A (uu e X.env whole) (TP X pins σ Q) X.xe s
theorem PW.pt {X:Cx}{e:Expr}{t:TT}(h:PW X e t):PT X e t:=h _
def PA (X:Cx)(es:List Expr)(t:TA):Prop:=∀(pos:Pos) (pins:List (Addr×Obj)) (s:ac) (σ:St) (H:Hp) (Q:List V->Hp->Prop),Inv X pins σ H s->t σ H Q->wpAny (model X.prog X.w) X.A (spliced (mv pos (d3 es X.env))) (AP X pins σ Q) X.xe s
def PS (X:Cx)(st:Stmt)(t:TS):Prop:=∀(pins:List (Addr×Obj)) (s:ac) (σ:St) (H:Hp) (D:Ends),Inv X pins σ H s->t D σ H->wpAny (model X.prog X.w) X.A (exec st X.env) (SP X pins D) X.xe s
def PSs (X:Cx)(st:List Stmt)(t:TS):Prop:=∀(pins:List (Addr×Obj)) (s:ac) (σ:St) (H:Hp) (D:Ends),Inv X pins σ H s->t D σ H->wpAny (model X.prog X.w) X.A (execs st X.env) (SP X pins D) X.xe s
theorem thn {α:Type}{t:Sem α}{Q Q':α->ac->Prop}{M:Model}{A:b6}{E:Value->ac->Prop}{s:ac}(h:wpAny M A t Q E s)(hQ:∀a s,Q a s->Q' a s):wpAny M A t Q' E s:=j7 h hQ fun _ _ x=>x
section
variable {X:Cx}
theorem bin {a b:Expr}{ta tb:TE}(ha:PE X a ta)(hb:PE X b tb){pins:List (Addr×Obj)}{s:ac}{σ:St}{H:Hp}{R:V->V->Hp->Prop}(I:Inv X pins σ H s)(h:ta σ H fun x H1=>tb σ H1 fun y H2=>R x y H2)
  {α:Type} {Q:α->ac->Prop} {f:Value->Value->Sem α}
  (hf:∀v u s2 x y H2,Inv X pins σ H2 s2->RelV x v->RelV y u->R x y H2->wpAny (model X.prog X.w) X.A (f v u) Q X.xe s2):
  wpAny (model X.prog X.w) X.A (eval a X.env) (fun v s₁=>wpAny (model X.prog X.w) X.A (eval b X.env) (fun u s₂=>wpAny (model X.prog X.w) X.A (f v u) Q X.xe s₂) X.xe s₁) X.xe s:=by
 refine thn (ha pins s σ H _ I h) fun v s1 ⟨x,H1,I1,r1,q1⟩=>?_;refine thn (hb pins s1 σ H1 _ I1 q1) fun u s2 ⟨y,H2,I2,r2,q2⟩=>?_;exact hf v u s2 x y H2 I2 r1 r2 q2
def tVar (i:Nat):TE:=fun σ H Q=>∃v,σ[i]?=some (some v)/\Q v H
def tC (v:V):TE:=fun _ H Q=>Q v H
theorem z50 {i:Nat}{x:Str}{pos:Pos}(hN:X.N[i]?=some x)(hv:Vis X.env.scope x)(hd:(x==("__debug__":Str))=false:=by decide)(hcd:(x==("__classdict__":Str))=false:=by decide):PE X (.Name x pos) (tVar i):=by
 intro pins s σ H Q I h;obtain⟨v,e,h⟩:=h;obtain⟨m,hn,hl⟩:=I.loc;obtain⟨u,r,l⟩:=hl i x v hN e hv;have fin:EP X pins σ Q u s:=⟨v,H,I,r,h⟩;rcases l with⟨hk,hm⟩|⟨hk,c,hc,hcell⟩
 ·exact vc (wpAny_loadName_local I.ok.kind hk hn hm fin) hd
 ·rcases hk with hk|hk
  ·exact vc (wpAny_loadName_cell I.ok.kind hk hc hcell fin) hd
  ·exact vc (wpAny_loadName_free I.ok.kind hk hc hcell fin hcd) hd
theorem zpr {i j pos}:PE X (.Constant (.int i) j pos) (tC (.int i)):=fun _ _ _ H _ I h=>wpAny_Constant_int ⟨.int i,H,I.tok _,⟨_,rfl⟩,h⟩
theorem zu8 {b j pos}:PE X (.Constant (.bool b) j pos) (tC (.bl b)):=fun _ _ _ H _ I h=>Constant_bool ⟨.bl b,H,I,rfl,h⟩
theorem zpu {j pos}:PE X (.Constant .none j pos) (tC .non):=fun _ _ _ H _ I h=>si ⟨.non,H,I,rfl,h⟩
theorem zrg {x j pos}:PE X (.Constant (.str x) j pos) (tC (.str x)):=fun _ _ _ H _ I h=>Calls.Constant_str ⟨.str x,H,I.tok _,⟨_,rfl⟩,h⟩
def Gl (X:Cx)(x:Str):Prop:=X.env.kindOf x=some .globalImplicit
theorem zjy {E:Value->ac->Prop}{pins:List (Addr×Obj)}{s:ac}{σ:St}{H:Hp}{x:Str}{u:Value}{pos:Pos}{Q:Value->ac->Prop}(I:Inv X pins σ H s)(hg:Gl X x)(hm:X.mg x=some u)(h:Q u s)
  (hd:(x==("__debug__":Str))=false:=by decide):wpAny (model X.prog X.w) X.A (eval (.Name x pos) X.env) Q E s:=
 nz I.ok.kind hg (Calls.loadGlobal_global (by rw[I.ok.glob];exact I.mod.glob.keeps I.bk) hm h) hd
theorem z3u {E:Value->ac->Prop}{pins:List (Addr×Obj)}{s:ac}{σ:St}{H:Hp}{x:Str}{u:Value}{pos:Pos}{Q:Value->ac->Prop}(I:Inv X pins σ H s)(hg:Gl X x)(hm:X.mg x=none)(hv:df x=some u)(h:Q u s)
  (hn:x≠"__name__":=by decide) (hd:(x==("__debug__":Str))=false:=by decide):wpAny (model X.prog X.w) X.A (eval (.Name x pos) X.env) Q E s:=by
 obtain⟨mb,h1,h2⟩:=I.mod.blt;exact nz I.ok.kind hg (Calls.loadGlobal_builtin (by rw[I.ok.glob];exact I.mod.glob.keeps I.bk) hm (by rw[I.ok.blt];exact h1.keeps I.bk) ((h2 x hn).trans hv) h) hd
theorem zl9 {x:Str}{v:V}{u:Value}{pos:Pos}(hg:Gl X x)(hm:X.mg x=none)(hv:df x=some u)(r:RelV v u)(hn:x≠"__name__":=by decide)(hd:(x==("__debug__":Str))=false:=by decide):PE X (.Name x pos) (tC v):=fun _ _ _ H _ I h=>z3u I hg hm hv ⟨v,H,I,r,h⟩ hn hd
variable {a b:Expr}{ta tb:TE}{pos:Pos}
def PC (X:Cx)(op:CmpOp)(a b:Expr)(t:TE):Prop:=∀(pins:List (Addr×Obj)) (s:ac) (σ:St) (H:Hp) (Q:VK),Inv X pins σ H s->t σ H Q->wpAny (model X.prog X.w) X.A (eval a X.env) (fun v s₁=>wpAny (model X.prog X.w) X.A (eval b X.env) (fun u s₂=>wpAny (model X.prog X.w) X.A (cq op v u) (EP X pins σ Q) X.xe s₂) X.xe s₁) X.xe s
theorem zae (b:Expr){op:CmpOp}(h:op≠.In)(h2:op≠.NotIn):ge op b=false:=by
 have e1:(op==CmpOp.In)=false:=by cases op<;>first|rfl|exact absurd rfl h
 have e2:(op==CmpOp.NotIn)=false:=by cases op<;>first|rfl|exact absurd rfl h2
 cases b<;>simp[ge,e1,e2]
def tIsN (ta:TE):TE:=fun σ H Q=>ta σ H fun x H1=>Q (.bl (decide (x=.non))) H1
def zro (ta:TE):TE:=fun σ H Q=>ta σ H fun x H1=>Q (.bl (!decide (x=.non))) H1
theorem RelV.none_iff {x:V}{v:Value}(r:RelV x v):(v==Value.none)=decide (x=.non):=by
 cases x with
 |non=>cases r;rfl
 |bl _=>cases r;rfl
 |int _=>obtain⟨t,rfl⟩:=r;rfl
 |str _=>obtain⟨t,rfl⟩:=r;rfl
 |byt _=>obtain⟨t,rfl⟩:=r;rfl
 |flt _=>obtain⟨t,rfl⟩:=r;rfl
 |ref _=>cases r;rfl
 |ty _=>cases r;rfl
theorem zjs {j pos'}(ha:PE X a ta):PC X .Is a (.Constant .none j pos') (tIsN ta):=by intro pins s σ H Q I h;refine thn (ha pins s σ H _ I h) fun v s1 ⟨x,H1,I1,r1,q1⟩=>?_;exact si (is_none_gen ⟨.bl _,H1,I1,by rw[r1.none_iff];rfl,q1⟩)
theorem zct {j pos'}(ha:PE X a ta):PC X .IsNot a (.Constant .none j pos') (zro ta):=by intro pins s σ H Q I h;refine thn (ha pins s σ H _ I h) fun v s1 ⟨x,H1,I1,r1,q1⟩=>?_;exact si (isnot_none_gen ⟨.bl _,H1,I1,by rw[r1.none_iff];rfl,q1⟩)
def tB (t:TE):TT:=fun σ H Q=>t σ H fun x H1=>∃c,x=.bl c/\Q c H1
theorem zjt {op:CmpOp}{t:TE}(h:PC X op a b t)(h1:ge op b=false:=by first|exact zae _ (by decide) (by decide)|rfl):PE X (.Compare a [op] [b] pos) t:=fun pins s σ H Q I hw=>wpAny_Compare1 (h pins s σ H Q I hw) h1
theorem zjd {op:CmpOp}{t:TE}(h:PC X op a b t)(h1:ge op b=false:=by first|exact zae _ (by decide) (by decide)|rfl):PT X (.Compare a [op] [b] pos) (tB t):=by intro pins s σ H Q I hw;refine qg (thn (h pins s σ H _ I hw) fun v s1 h1=>thn h1 fun u s2 h2=>thn h2 fun c s3 ⟨x,H1,I1,r1,q1⟩=>?_) h1;obtain⟨d,rfl,q⟩:=q1;cases r1;exact jy ⟨H1,I1,q⟩
variable {tA tB':TT}{rest:List Expr}
def tAnd (t u:TT):TT:=fun σ H Q=>t σ H fun c H1=>if c=true then u σ H1 Q else Q false H1
def tOr (t u:TT):TT:=fun σ H Q=>t σ H fun c H1=>if c=true then Q true H1 else u σ H1 Q
def tNot (t:TT):TT:=fun σ H Q=>t σ H fun c H1=>Q (!c) H1
theorem zl7 (ha:PT X a tA):PW X (.BoolOp .And [a] pos) tA:=by
 intro wh pins s σ H Q I h;refine isTrue_and (thn (ha pins s σ H Q I h) fun c s1 e=>?_);cases c with
 |true=>exact isTrue_and_nil e
 |false=>exact e
theorem zqg (ha:PT X a tA):PW X (.BoolOp .Or [a] pos) tA:=by
 intro wh pins s σ H Q I h;refine isTrue_or (thn (ha pins s σ H Q I h) fun c s1 e=>?_);cases c with
 |false=>exact isTrue_or_nil e
 |true=>exact e
theorem zoc (ha:PT X a tA)(hb:PW X (.BoolOp .And (b::rest) pos) tB'):PW X (.BoolOp .And (a::b::rest) pos) (tAnd tA tB'):=by
 intro wh pins s σ H Q I h;refine isTrue_and (thn (ha pins s σ H _ I h) fun c s1 ⟨H1,I1,q1⟩=>?_);cases c with
 |true=>exact hb wh pins s1 σ H1 Q I1 q1
 |false=>exact⟨H1,I1,q1⟩
theorem zvk (ha:PT X a tA)(hb:PW X (.BoolOp .Or (b::rest) pos) tB'):PW X (.BoolOp .Or (a::b::rest) pos) (tOr tA tB'):=by
 intro wh pins s σ H Q I h;refine isTrue_or (thn (ha pins s σ H _ I h) fun c s1 ⟨H1,I1,q1⟩=>?_);cases c with
 |true=>exact⟨H1,I1,q1⟩
 |false=>exact hb wh pins s1 σ H1 Q I1 q1
theorem zp1 (ha:PT X a tA):PT X (.UnaryOp .Not a pos) (tNot tA):=by intro pins s σ H Q I h;exact isTrue_not (ha pins s σ H (fun c H1=>Q (!c) H1) I h)
def ztz (ta tb:TE):TE:=fun σ H Q=>ta σ H fun x H1=>∃c,x=.bl c/\if c=true then tb σ H1 Q else Q (.bl false) H1
def tOrV (ta tb:TE):TE:=fun σ H Q=>ta σ H fun x H1=>∃c,x=.bl c/\if c=true then Q (.bl true) H1 else tb σ H1 Q
theorem zia {op}{t:TE}(h:PE X a t):PE X (.BoolOp op [a] pos) t:=fun pins s σ H Q I hw=>BoolOp_one (h pins s σ H Q I hw)
theorem zqb (ha:PE X a ta)(hb:PE X (.BoolOp .And (b::rest) pos) tb):PE X (.BoolOp .And (a::b::rest) pos) (ztz ta tb):=by
 intro pins s σ H Q I h;refine BoolOp_and (thn (ha pins s σ H _ I h) fun v s1 ⟨x,H1,I1,r1,q1⟩=>?_);obtain⟨c,rfl,q1⟩:=q1;cases r1;refine jy ?_;cases c with
 |true=>exact hb pins s1 σ H1 Q I1 q1
 |false=>exact⟨.bl false,H1,I1,rfl,q1⟩
theorem zsn (ha:PE X a ta)(hb:PE X (.BoolOp .Or (b::rest) pos) tb):PE X (.BoolOp .Or (a::b::rest) pos) (tOrV ta tb):=by
 intro pins s σ H Q I h;refine BoolOp_or (thn (ha pins s σ H _ I h) fun v s1 ⟨x,H1,I1,r1,q1⟩=>?_);obtain⟨c,rfl,q1⟩:=q1;cases r1;refine jy ?_;cases c with
 |false=>exact hb pins s1 σ H1 Q I1 q1
 |true=>exact⟨.bl true,H1,I1,rfl,q1⟩
def tIf (t:TT)(ta tb:TE):TE:=fun σ H Q=>t σ H fun c H1=>if c=true then ta σ H1 Q else tb σ H1 Q
theorem zfm {c:Expr}(hc:PT X c tA)(ha:PE X a ta)(hb:PE X b tb):PE X (.IfExp c a b pos) (tIf tA ta tb):=by
 intro pins s σ H Q I h;refine wpAny_IfExp (thn (hc pins s σ H _ I h) fun d s1 ⟨H1,I1,q1⟩=>?_);cases d with
 |true=>exact ha pins s1 σ H1 Q I1 q1
 |false=>exact hb pins s1 σ H1 Q I1 q1
end
def SqL (K:W.Frag)(H:Hp)(a:Addr)(xs:List V):Prop:=Rd H a (.lst xs)\/∃(o:Obj) (its:Array Value) (n:Nat),K.lookup a=some o/\o.cls=.type "list"/\o.dict=none/\o.data=.seq its n/\its.size<=az/\Vals xs its.toList
def SqT (K:W.Frag)(H:Hp)(a:Addr)(xs:List V):Prop:=Rd H a (.tup xs)\/∃(o:Obj) (its:Array Value) (n:Nat),K.lookup a=some o/\o.cls=.type "tuple"/\o.dict=none/\o.data=.seq its n/\its.size<=az/\Vals xs its.toList
def absV:Value->Option V
 |.none=>some .non
 |.bool b=>some (.bl b)
 |.int i _=>some (.int i)
 |.str x _=>some (.str x)
 |.bytes b _=>some (.byt b)
 |.float b _=>some (.flt b)
 |.ref a=>some (.ref a)
 |.type n=>some (.ty n)
 |_=>none
theorem RelV.abs {x:V}{u:Value}(r:RelV x u):absV u=some x:=by
 cases x with
 |non=>cases r;rfl
 |bl _=>cases r;rfl
 |int _=>obtain⟨t,rfl⟩:=r;rfl
 |str _=>obtain⟨t,rfl⟩:=r;rfl
 |byt _=>obtain⟨t,rfl⟩:=r;rfl
 |flt _=>obtain⟨t,rfl⟩:=r;rfl
 |ref _=>cases r;rfl
 |ty _=>cases r;rfl
theorem RelV.inj {x y:V}{u:Value}(r:RelV x u)(q:RelV y u):x=y:=Option.some.inj (r.abs.symm.trans q.abs)
theorem Vals.inj:∀{xs ys:List V} {us:List Value},Vals xs us->Vals ys us->xs=ys
 |_,_,_,.nil,.nil=>rfl
 |_,_,_,.cons r t,.cons r' t'=>by rw[r.inj r',Vals.inj t t']
section
variable {X:Cx}{pins:List (Addr×Obj)}{σ:St}{H:Hp}{s:ac}{a:Addr}{xs ys:List V}
theorem SqL.of {K:W.Frag}(h:H a=some (.lst xs)):SqL K H a xs:=.inl (.inl h)
theorem SqT.of {K:W.Frag}(h:H a=some (.tup xs)):SqT K H a xs:=.inl (.inl h)
theorem Inv.list (I:Inv X pins σ H s)(h:SqL X.K H a xs):∃its:List Value,Vals xs its/\PlainL s.heap a its.toArray/\xs.length<=az:=by
 rcases h with h|⟨o,its,n,hk,hc,hd,hs,hz,r⟩
 ·obtain⟨z,its,n,r,e⟩:=h.ok I.hok;exact⟨its,r,⟨_,n,e,rfl,rfl,rfl⟩,z⟩
 ·refine⟨its.toList,r,⟨o,n,I.kIn a o hk,hc,hd,by simpa using hs⟩,?_⟩;have e:=r.length;simp only[ck]at e;omega
theorem Inv.tuple (I:Inv X pins σ H s)(h:SqT X.K H a xs):∃its:List Value,Vals xs its/\IsTup s.heap a its.toArray/\xs.length<=az:=by
 rcases h with h|⟨o,its,n,hk,hc,_,hs,hz,r⟩
 ·obtain⟨z,its,r,p⟩:=h.ok I.hok;exact⟨its,r,p.tup,z⟩
 ·refine⟨its.toList,r,⟨o,I.kIn a o hk,hc,n,by simpa using hs⟩,?_⟩;have e:=r.length;simp only[ck]at e;omega
theorem Inv.tupleN (I:Inv X pins σ H s)(h:SqT X.K H a xs):∃l:List Value,Vals xs l/\znw s.heap a l.toArray/\xs.length<=az:=by
 rcases h with h|⟨o,l,n,q,hc,hd,hs,hz,r⟩
 ·obtain⟨z,l,r,n,q⟩:=h.ok I.hok;exact⟨l,r,⟨_,n,q,rfl,rfl,rfl⟩,z⟩
 ·exact⟨l.toList,r,⟨o,n,I.kIn a o q,hc,hd,(by simpa using hs)⟩,(by have w:=r.length;simp only[ck]at w;omega)⟩
theorem Inv.list_inj (I:Inv X pins σ H s)(h:SqL X.K H a xs)(h':SqL X.K H a ys):xs=ys:=by
 obtain⟨its,r,⟨o,n,e,_,_,d⟩,_⟩:=I.list h;obtain⟨its',r',⟨o',n',e',_,_,d'⟩,_⟩:=I.list h';rw[e]at e';cases e';rw[d]at d';injection d' with d1 _;have:its=its':=by simpa using congrArg Array.toList d1
 subst this;exact r.inj r'
theorem Inv.tuple_inj (I:Inv X pins σ H s)(h:SqT X.K H a xs)(h':SqT X.K H a ys):xs=ys:=by
 obtain⟨its,r,⟨o,e,_,n,d⟩,_⟩:=I.tuple h;obtain⟨its',r',⟨o',e',_,n',d'⟩,_⟩:=I.tuple h';rw[e]at e';cases e';rw[d]at d';injection d' with d1 _;have:its=its':=by simpa using congrArg Array.toList d1
 subst this;exact r.inj r'
end
abbrev Cx.wish (X:Cx)(E:Value->ac->Prop):Cx:={X with xe:=E}
abbrev Cx.nox (X:Cx):Cx:=X.wish fun _ _=>False
theorem Cx.Ok.wish {X:Cx}(ok:X.Ok)(E:Value->ac->Prop):(X.wish E).Ok:=⟨ok.mod,ok.kind,ok.glob,ok.blt,ok.above,ok.inj,ok.has,ok.cab,ok.hd,ok.frames,ok.stk,ok.exf,ok.bs,ok.bsz,ok.noex,ok.exfs,ok.funs,ok.frf,ok.fxN⟩
theorem Cx.Ok.unwish {X:Cx}{E:Value->ac->Prop}(ok:(X.wish E).Ok):X.Ok:=⟨ok.mod,ok.kind,ok.glob,ok.blt,ok.above,ok.inj,ok.has,ok.cab,ok.hd,ok.frames,ok.stk,ok.exf,ok.bs,ok.bsz,ok.noex,ok.exfs,ok.funs,ok.frf,ok.fxN⟩
section
variable {X:Cx}{pins:List (Addr×Obj)}{σ:St}{H:Hp}{s:ac}{E:Value->ac->Prop}
theorem Inv.wish (I:Inv X pins σ H s)(E:Value->ac->Prop):Inv (X.wish E) pins σ H s:=⟨I.ok.wish E,I.os,I.bare,I.base,I.loc,I.cell,I.free,I.freeC,I.pin,I.hok,I.len,I.fx⟩
theorem Inv.unwish (I:Inv (X.wish E) pins σ H s):Inv X pins σ H s:=⟨I.ok.unwish,I.os,I.bare,I.base,I.loc,I.cell,I.free,I.freeC,I.pin,I.hok,I.len,I.fx⟩
theorem SP.unwish {D:Ends}{f:Flow}{s':ac}(h:SP (X.wish E) pins D f s'):SP X pins D f s':=by
 cases f with
 |next=>obtain⟨σ',H',I,q⟩:=h;exact⟨σ',H',I.unwish,q⟩
 |brk=>obtain⟨σ',H',I,q⟩:=h;exact⟨σ',H',I.unwish,q⟩
 |cont=>obtain⟨σ',H',I,q⟩:=h;exact⟨σ',H',I.unwish,q⟩
 |ret u=>obtain⟨v,σ',H',I,r,q⟩:=h;exact⟨v,σ',H',I.unwish,r,q⟩
theorem PE.nox {e:Expr}{t:TE}(h:PE X.nox e t):PE X e t:=fun pins s σ H Q I hw=>j7 (h pins s σ H Q (I.wish _) hw) (fun _ _ ⟨v,H',I',r,q⟩=>⟨v,H',I'.unwish,r,q⟩) fun _ _ z=>False.elim z
theorem PT.nox {e:Expr}{t:TT}(h:PT X.nox e t):PT X e t:=fun pins s σ H Q I hw=>j7 (h pins s σ H Q (I.wish _) hw) (fun _ _ ⟨H',I',q⟩=>⟨H',I'.unwish,q⟩) fun _ _ z=>False.elim z
theorem PSs.nox {st:List Stmt}{t:TS}(h:PSs X.nox st t):PSs X st t:=fun pins s σ H D I hw=>j7 (h pins s σ H D (I.wish _) hw) (fun _ _ q=>q.unwish) fun _ _ z=>False.elim z
end
section
variable {X:Cx}{st:Stmt}{rest:List Stmt}{t u:TS}{e:Expr}{te:TE}{pos:Pos}
def zu7:TS:=fun D σ H=>D.nx σ H
def tSeq (t u:TS):TS:=fun D σ H=>t {D with nx:=u D} σ H
theorem zkk:PSs X [] zu7:=fun _ _ σ H _ I h=>qe ⟨σ,H,I,h⟩
theorem za2 (h1:PS X st t)(h2:PSs X rest u):PSs X (st::rest) (tSeq t u):=by
 intro pins s σ H D I h;refine wpAny_execs_cons (thn (h1 pins s σ H {D with nx:=u D} I h) fun f s1 q=>?_);cases f with
 |next=>obtain⟨σ',H',I',q⟩:=q;exact h2 pins s1 σ' H' D I' q
 |ret v=>exact q
 |brk=>exact q
 |cont=>exact q
theorem Inv.quiet {pins:List (Addr×Obj)}{σ:St}{H:Hp}{s:ac}(I:Inv X pins σ H s):interactive X.env=false:=by simp[interactive,I.ok.kind]
def zrw (te:TE):TS:=fun D σ H=>te σ H fun _ H1=>D.nx σ H1
theorem zjx (he:PE X e te)(hs:l8 e none pos.line X.env=pure false:=by rfl):PS X (.Expr e pos) (zrw te):=by intro pins s σ H D I h;exact wpAny_Expr_any (thn (he pins s σ H _ I h) fun v s1 ⟨x,H1,I1,r1,q1⟩=>⟨σ,H1,I1,q1⟩) I.quiet hs
def tRet (te:TE):TS:=fun D σ H=>te σ H D.rt
theorem zjn (he:PE X e te):PS X (.Return (some e) pos) (tRet te):=by intro pins s σ H D I h;exact wpAny_Return_some (thn (he pins s σ H _ I h) fun v s1 ⟨x,H1,I1,r1,q1⟩=>⟨x,σ,H1,I1,r1,q1⟩)
def tIfS (c:TT)(t u:TS):TS:=fun D σ H=>c σ H fun b H1=>if b=true then t D σ H1 else u D σ H1
theorem ztk {c:Expr}{a b:List Stmt}{tc:TT}(hc:PT X c tc)(ha:PSs X a t)(hb:PSs X b u):PS X (.If c a b pos) (tIfS tc t u):=by
 intro pins s σ H D I h;refine wpAny_If (thn (hc pins s σ H _ I h) fun d s1 ⟨H1,I1,q1⟩=>?_);cases d with
 |true=>exact ha pins s1 σ H1 D I1 q1
 |false=>exact hb pins s1 σ H1 D I1 q1
end
abbrev TG:=V->St->Hp->(St->Hp->Prop)->Prop
abbrev TGs:=List V->St->Hp->(St->Hp->Prop)->Prop
def PG (X:Cx)(target:Expr)(t:TG):Prop:=∀(pins:List (Addr×Obj)) (s:ac) (σ:St) (H:Hp) (v:V) (u:Value) (Q:St->Hp->Prop),Inv X pins σ H s->RelV v u->t v σ H Q->wpAny (model X.prog X.w) X.A (pv target X.env u) (fun _ s'=>∃σ' H',Inv X pins σ' H' s'/\Q σ' H') X.xe s
def PGs (X:Cx)(ts:List Expr)(t:TGs):Prop:=∀(pins:List (Addr×Obj)) (s:ac) (σ:St) (H:Hp) (vs:List V) (us:List Value) (Q:St->Hp->Prop),Inv X pins σ H s->Vals vs us->t vs σ H Q->wpAny (model X.prog X.w) X.A (assignInOrder ((gn ts X.env).map (·.2)) us) (fun _ s'=>∃σ' H',Inv X pins σ' H' s'/\Q σ' H') X.xe s
abbrev TSet:=V->V->V->Hp->(Hp->Prop)->Prop
def PSet (X:Cx)(t:TSet):Prop:=∀(pins:List (Addr×Obj)) (s:ac) (σ:St) (H:Hp) (o i v:V) (ov iv u:Value) (Q:Hp->Prop),Inv X pins σ H s->RelV o ov->RelV i iv->RelV v u->t o i v H Q->wpAny (model X.prog X.w) X.A (setItem ov iv u) (fun _ s'=>∃H',Inv X pins σ H' s'/\Q H') X.xe s
section
variable {X:Cx}{pos:Pos}
def zpy (i:Nat):TG:=fun v σ H Q=>Q (σ.set i (some v)) H
theorem zet {i:Nat}{x:Str}(hN:X.N.Nodup)(hi:X.N[i]?=some x)(hx:Loc X.env.scope x)(hf:X.fn x=true\/X.env.scope.names.lookup x=some .local:=by first|exact .inl rfl|exact .inr rfl|assumption):PG X (.Name x pos) (zpy i):=by intro pins s σ H v u Q I r h;exact t9 (z66 I hN hi hx r (fun s' I'=>⟨_,H,I',h⟩) hf)
def gNil:TGs:=fun vs σ H Q=>vs=[]/\Q σ H
def zvq (t:TG)(u:TGs):TGs:=fun vs σ H Q=>∃v r,vs=v::r/\t v σ H fun σ' H'=>u r σ' H' Q
theorem zl0:PGs X [] gNil:=by intro pins s σ H vs us Q I r h;obtain⟨e,h⟩:=h;subst e;cases r;exact assignInOrder_nil ⟨σ,H,I,h⟩
theorem zfn {e:Expr}{es:List Expr}{t:TG}{u:TGs}(h1:PG X e t)(h2:PGs X es u)
  (hs:(gn (e::es) X.env).map (·.2)=pv e X.env::(gn es X.env).map (·.2):=by rfl):PGs X (e::es) (zvq t u):=by
 intro pins s σ H vs us Q I r h;obtain⟨v,vr,e1,h⟩:=h;subst e1;cases r with
 |cons r rr=>rw[hs];refine assignInOrder_cons (thn (h1 pins s σ H _ _ _ I r h) fun _ s1 ⟨σ1,H1,I1,q1⟩=>?_);exact h2 pins s1 σ1 H1 _ _ Q I1 rr q1
def gTup (K:W.Frag)(n:Nat)(t:TGs):TG:=fun v σ H Q=>∃a xs,v=.ref a/\SqT K H a xs/\xs.length=n/\t xs σ H Q
theorem zo5 {es:List Expr}{k:Nat}{t:TGs}{n:Nat}(hc:X.calm=true)(h:PGs X es t)
  (hn:(gn es X.env).length=n:=by rfl) (hst:(gn es X.env).findIdx? (·.1)=none:=by rfl):PG X (.Tuple es k pos) (gTup X.K n t):=by
 intro pins s σ H v u Q I r hw;obtain⟨a,xs,e1,hq,hl,hw⟩:=hw;subst e1;cases r;obtain⟨its,rv,ht,hz⟩:=I.tuple hq;refine assign_Tuple_tuple (I.ok.hd hc) ht (by simp[hn,<-hl,rv.length]) hst fun h' hx=>?_;have I1:Inv X pins σ H {s with heap:=h'}:=I.kept (t':=s.toks) fun b o e=>hx b o (b7 (bj e)) e;exact h pins _ σ H xs _ Q I1 (by simpa using rv) hw
def tAsg (te:TE)(g:TG):TS:=fun D σ H=>te σ H fun x H1=>g x σ H1 D.nx
theorem zqz {tg e:Expr}{te:TE}{g:TG}(he:PE X e te)(hg:PG X tg g)(hs:sj [tg] e pos.line X.env=pure false:=by rfl)(hw:sk [tg] e X.env=pure none:=by rfl)
  (h1:(gn [tg] X.env).map (·.2)=[pv tg X.env]:=by rfl):PS X (.Assign [tg] e pos) (tAsg te g):=by
 intro pins s σ H D I h;refine wpAny_Assign_stores (thn (he pins s σ H _ I h) fun v s1 ⟨x,H1,I1,r1,q1⟩=>?_) hs hw;rw[h1];exact thn (hg pins s1 σ H1 x v _ I1 r1 q1) fun _ s2 q=>q
theorem zq8 {i:Nat}{x:Str}{e:Expr}{te:TE}{pos':Pos}(hN:X.N.Nodup)(hi:X.N[i]?=some x)(hx:Loc X.env.scope x)(he:PE X e te)(hs:l8 e (some (.Name x pos')) pos.line X.env=pure false:=by rfl)(hf:X.fn x=true\/X.env.scope.names.lookup x=some .local:=by first|exact .inl rfl|exact .inr rfl|assumption):
  PS X (.Assign [.Name x pos'] e pos) (tAsg te (zpy i)):=by
 intro pins s σ H D I h;refine wpAny_Assign_Name (thn (he pins s σ H _ I h) fun v s1 ⟨y,H1,I1,r1,q1⟩=>?_) hs;exact z66 I1 hN hi hx r1 (fun s2 I2=>⟨_,H1,I2,q1⟩) hf
end
section
variable {X:Cx}{pos:Pos}
def zr7 (c:TT)(tb:TS):TS:=fun D σ H=>∃W:Nat->St->Hp->Prop,(∃m,W m σ H)/\∀m σ H,W m σ H->c σ H fun b H1=>if b=true then ∃N:St->Hp->Prop,(∀σ' H',N σ' H'->∃m',m'<m/\W m' σ' H')/\tb {D with nx:=N,ct:=N,bk:=D.nx} σ H1 else D.nx σ H1
theorem zhm {c:Expr}{body:List Stmt}{tc:TT}{tb:TS}(hp:li (model X.prog X.w) X.A X.env X.xe)(hc:PT X c tc)(hb:PSs X body tb):PS X (.While c body [] pos) (zr7 tc tb):=by
 intro pins s σ H D I h;obtain⟨W,⟨m0,w0⟩,turn⟩:=h;refine wpAny_While (codeAny_whileLoop (fun n s'=>∃σ' H',Inv X pins σ' H' s'/\W n σ' H') ?_ m0 ⟨σ,H,I,w0⟩)
 rintro n s1 ⟨σ1,H1,I1,w1⟩
 refine i0 hp (thn (hc pins s1 σ1 H1 _ I1 (turn n σ1 H1 w1)) fun b s2 ⟨H2,I2,q2⟩=>?_);cases b with
 |true=>
  obtain⟨N,hN,q2⟩:=q2;rw[if_pos rfl];refine i0 hp (thn (hb pins s2 σ1 H2 _ I2 q2) fun f s3 q3=>?_);cases f with
  |next=>obtain⟨σ3,H3,I3,n3⟩:=q3;obtain⟨m',hm,w3⟩:=hN σ3 H3 n3;exact⟨m',hm,σ3,H3,I3,w3⟩
  |cont=>obtain⟨σ3,H3,I3,n3⟩:=q3;obtain⟨m',hm,w3⟩:=hN σ3 H3 n3;exact⟨m',hm,σ3,H3,I3,w3⟩
  |brk=>exact q3
  |ret v=>exact q3
 |false=>rw[if_neg bu];exact qe ⟨σ1,H2,I2,q2⟩
end
structure It where
 go:Nat->Hp->Prop
 yld:Nat->Hp->V->Hp->Prop
 stop:Nat->Hp->Prop
def FpOk (X:Cx)(pins:List (Addr×Obj))(H:Hp)(b:Addr):Prop:=H b=none/\b≠X.env.locals/\b∉X.fs/\(b∈X.ex\/X.s₀.heap.objs.size<=b)/\(∀x c,X.env.cells.lookup x=some c->c≠b)/\∀p∈X.pn++pins,p.1≠b
theorem Inv.fpOk {X:Cx}{pins:List (Addr×Obj)}{σ:St}{H H':Hp}{s:ac}{b:Addr}(I:Inv X pins σ H s)(hb:s.heap.objs.size<=b)(hn:H' b=none):FpOk X pins H' b:=by
 refine⟨hn,ls (bz I.lt hb),I.nofs hb,.inr (bx I.sz hb),fun x c e z=>?_,fun p hp z=>?_⟩
 ·obtain⟨v,q⟩:=I.cell x c e;exact absurd (bz q.lt (by rw[z];exact hb)) (ci _)
 ·exact absurd (bz (bj (I.pin p hp).1) (by rw[z];exact hb)) (ci _)
structure Turn (P:ba)(w:World)(K:W.Frag)(tg:Expr)(J:It)(fp:List Addr)(it:Addr)(tn:Nat->Heap->Prop):Prop where
 mem:it∈fp
 obj:∀i h,tn i h->∀b∈fp,∃o,h.get? b=some o/\∀v,o.data≠.cell v
 keep:∀i h h',tn i h->(∀b∈fp,∀o,h.get? b=some o->h'.get? b=some o)->tn i h'
 item:∀(X:Cx),X.prog=P->X.w=w->X.K=K->X.calm=true->∀(i:Nat) (pins:List (Addr×Obj)) (s:ac) (σ:St) (H:Hp) (E:Value->ac->Prop),Inv X pins σ H s->(∀b∈fp,FpOk X pins H b)->tn i s.heap->J.go i H->wpAny (model P w) X.A (qk (.ref it)) (fun r s1=>∃u,r=some u/\wpAny (model P w) X.A (gu tg (.ref it) u) (fun _ s2=>∃x H',Inv X pins σ H' s2/\RelV x u/\J.yld i H x H'/\tn (i+1) s2.heap/\∀b∈fp,H' b=none) E s1) E s
 done:∀(X:Cx),X.prog=P->X.w=w->X.K=K->X.calm=true->∀(i:Nat) (pins:List (Addr×Obj)) (s:ac) (σ:St) (H:Hp) (E:Value->ac->Prop),Inv X pins σ H s->(∀b∈fp,FpOk X pins H b)->tn i s.heap->J.stop i H->wpAny (model P w) X.A (qk (.ref it)) (fun r s1=>r=none/\Inv X pins σ H s1) E s
 self:∀(A:b6) (i:Nat) (s:ac) (Q:Value->ac->Prop) (E:Value->ac->Prop),tn i s.heap->Q (.ref it) s->wpAny (model P w) A (pw (.ref it)) Q E s
abbrev TI:=St->Hp->(It->Hp->Prop)->Prop
def PIE (X:Cx)(pins:List (Addr×Obj))(σ:St)(tg:Expr)(R:It->Hp->Prop)(itv:Value)(s2:ac):Prop:=∃(it:Addr) (fp:List Addr) (tn:Nat->Heap->Prop) (J:It) (H':Hp),itv=.ref it/\Inv X pins σ H' s2/\Turn X.prog X.w X.K tg J fp it tn/\tn 0 s2.heap/\(∀b∈fp,FpOk X pins H' b)/\R J H'
def PI (X:Cx)(tg iter:Expr)(wi:TI):Prop:=∀(pins:List (Addr×Obj)) (s:ac) (σ:St) (H:Hp) (R:It->Hp->Prop),Inv X pins σ H s->wi σ H R->wpAny (model X.prog X.w) X.A (eval iter X.env) (fun v s1=>wpAny (model X.prog X.w) X.A (pw v) (PIE X pins σ tg R) X.xe s1) X.xe s
theorem zft {M:Model}{A:b6}{E:Value->ac->Prop}{s:ac}{tg:Expr}{it:Addr}{u:Value}{o:Obj}{n:String}{vs:Array Value}{Q:Unit->ac->Prop}(ho:s.heap.get? it=some o)(hc:o.cls=.type n)(hd:o.data=.fields vs)
  (hn:["enumerate","zip","dict_itemiterator","dict_reverseitemiterator","odict_iterator","itertools.zip_longest","itertools.pairwise"].contains n=false) (hQ:Q () s):wpAny M A (gu tg (.ref it) u) Q E s:=by
 unfold gu
 cases tg<;>first
  |exact aq hQ
  |(cases u<;>first
   |exact aq hQ
   |(refine aa (tq ho ?_)
     rw[hc,hd];show wpAny M A (if(["enumerate","zip","dict_itemiterator","dict_reverseitemiterator","odict_iterator","itertools.zip_longest","itertools.pairwise"].contains n&&vs[0]?==some (my _))=true then _ else _) Q E s;rw[if_neg (by intro h;rw[hn,lu]at h;cases h)];exact aq hQ))
def Itl (K:W.Frag)(a:Addr):It:=⟨fun i H=>∃xs x,SqL K H a xs/\xs[i]?=some x,fun i H x H'=>H'=H/\∀xs,SqL K H a xs->xs[i]?=some x,fun i H=>∃xs,SqL K H a xs/\xs.length<=i⟩
def Itt (K:W.Frag)(a:Addr):It:=⟨fun i H=>∃xs x,SqT K H a xs/\xs[i]?=some x,fun i H x H'=>H'=H/\∀xs,SqT K H a xs->xs[i]?=some x,fun i H=>∃xs,SqT K H a xs/\xs.length<=i⟩
def Itr (lo:Int)(n:Nat):It:=⟨fun i _=>i<n,fun i H x H'=>H'=H/\x=.int (lo+i),fun i _=>n<=i⟩
theorem zdp {P:ba}{w:World}{K:W.Frag}{tg:Expr}(a it:Addr):Turn P w K tg (Itl K a) [it] it (fun i h=>h.IsListIter it a i) where
 mem:=by simp
 obj:=fun i h st b hb=>by
  have e:b=it:=by simpa using hb
  subst e;obtain⟨o,e,c,d⟩:=st;exact⟨o,e,fun v z=>by rw[d]at z;cases z⟩
 keep:=fun i h h' st k=>st.at fun o e=>k it (by simp) o e
 item:=by intro X hP hw hK hc i pins s σ H E I hf st hg;subst hP hw hK;obtain⟨xs,x,hq,hx⟩:=hg;obtain⟨its,rv,p,hz⟩:=I.list hq;obtain⟨u,hu,ru⟩:=rv.get hx;obtain⟨f0,f1,f2,f3,f4,f5⟩:=hf it (by simp);refine wpAny_pyNext_list_item st p.isList (x:=u) (by simpa using hu) fun h' st' sb=>?_;have I1:Inv X pins σ H {s with heap:=h'}:=I.turned (t':=s.toks) (fun b o hb e=>(sb.2 b hb).trans e) f0 f1 f3 f4 f5;obtain⟨o,e,c,d⟩:=id st';exact⟨u,rfl,zft (s:={s with heap:=h'}) e c d (by decide) ⟨x,H,I1,ru,⟨rfl,fun ys hy=>by rw[I.list_inj hy hq];exact hx⟩,st',fun b hb=>(hf b hb).1⟩⟩
 done:=by intro X hP hw hK hc i pins s σ H E I hf st hg;subst hP hw hK;obtain⟨xs,hq,hx⟩:=hg;obtain⟨its,rv,p,hz⟩:=I.list hq;obtain⟨f0,f1,f2,f3,f4,f5⟩:=hf it (by simp);have hl:=rv.length;exact wpAny_pyNext_list_end (I.ok.hd hc) st p.isList (by simp;omega) fun h' eb=>⟨rfl,I.turned (t':=s.toks) (fun b o hb e=>eb b o hb e) f0 f1 f3 f4 f5⟩
 self:=fun _ _ _ _ _ st h=>wpAny_pyIter_listiter st h
theorem zau {P:ba}{w:World}{K:W.Frag}{tg:Expr}(a it:Addr):Turn P w K tg (Itt K a) [it] it (fun i h=>h.IsTupleIter it a i) where
 mem:=by simp
 obj:=fun i h st b hb=>by
  have e:b=it:=by simpa using hb
  subst e;obtain⟨o,e,c,d⟩:=st;exact⟨o,e,fun v z=>by rw[d]at z;cases z⟩
 keep:=fun i h h' st k=>st.at fun o e=>k it (by simp) o e
 item:=by intro X hP hw hK hc i pins s σ H E I hf st hg;subst hP hw hK;obtain⟨xs,x,hq,hx⟩:=hg;obtain⟨its,rv,p,hz⟩:=I.tuple hq;obtain⟨u,hu,ru⟩:=rv.get hx;obtain⟨f0,f1,f2,f3,f4,f5⟩:=hf it (by simp);refine wpAny_pyNext_tuple_item st (show s.heap.IsTuple a its.toArray from p) (x:=u) (by simpa using hu) fun h' st' sb=>?_;have I1:Inv X pins σ H {s with heap:=h'}:=I.turned (t':=s.toks) (fun b o hb e=>(sb.2 b hb).trans e) f0 f1 f3 f4 f5;obtain⟨o,e,c,d⟩:=id st';exact⟨u,rfl,zft (s:={s with heap:=h'}) e c d (by decide) ⟨x,H,I1,ru,⟨rfl,fun ys hy=>by rw[I.tuple_inj hy hq];exact hx⟩,st',fun b hb=>(hf b hb).1⟩⟩
 done:=by intro X hP hw hK hc i pins s σ H E I hf st hg;subst hP hw hK;obtain⟨xs,hq,hx⟩:=hg;obtain⟨its,rv,p,hz⟩:=I.tuple hq;obtain⟨f0,f1,f2,f3,f4,f5⟩:=hf it (by simp);have hl:=rv.length;exact wpAny_pyNext_tuple_end (I.ok.hd hc) st (show s.heap.IsTuple a its.toArray from p) (by simp;omega) fun h' eb=>⟨rfl,I.turned (t':=s.toks) (fun b o hb e=>eb b o hb e) f0 f1 f3 f4 f5⟩
 self:=fun _ _ _ _ _ st h=>wpAny_pyIter_tupleiter st h
theorem zay {P:ba}{w:World}{K:W.Frag}{tg:Expr}(it:Addr)(lo:Int)(n:Nat):Turn P w K tg (Itr lo n) [it] it (fun i h=>IsRangeIter h it (lo+(i:Nat)*1) ((n:Int)-(i:Nat)) 1) where
 mem:=by simp
 obj:=fun i h st b hb=>by
  have e:b=it:=by simpa using hb
  subst e;exact⟨_,st,fun v z=>by have z':Data.fields _=Data.cell v:=z;cases z'⟩
 keep:=fun i h h' st k=>k it (by simp) _ st
 item:=by intro X hP hw hK hc i pins s σ H E I hf st hg;subst hP hw hK;obtain⟨f0,f1,f2,f3,f4,f5⟩:=hf it (by simp);have W:=Walks.range (prog:=X.prog) (w:=X.w) (I.ok.hd hc) it lo 1 n;refine W.item i s _ _ hg st fun v h' tk hv st' kk=>?_;obtain⟨t,rfl⟩:=hv;have I1:Inv X pins σ H {s with heap:=h',toks:=tk}:=I.turned (fun b o hb e=>kk b o (by simpa using hb) e) f0 f1 f3 f4 f5;refine⟨_,rfl,zft (s:={s with heap:=h',toks:=tk}) (n:="range_iterator") st' rfl rfl (by decide) ⟨.int (lo+i),H,I1,⟨t,?_⟩,⟨rfl,rfl⟩,st',fun b hb=>(hf b hb).1⟩⟩;rw[Int.mul_one]
 done:=by intro X hP hw hK hc i pins s σ H E I hf st hg;subst hP hw hK;obtain⟨f0,f1,f2,f3,f4,f5⟩:=hf it (by simp);exact wpAny_pyNext_range_end (I.ok.hd hc) st (by have:n<=i:=hg;omega) fun h' eb=>⟨rfl,I.turned (t':=s.toks) (fun b o hb e=>eb b o hb e) f0 f1 f3 f4 f5⟩
 self:=fun _ _ _ _ _ st h=>wpAny_pyIter_rangeiter st h
section
variable {X:Cx}{tg:Expr}
theorem zg4 {pins:List (Addr×Obj)}{σ:St}{H:Hp}{s:ac}{R:It->Hp->Prop}{E:Value->ac->Prop}{lo hi:Int}{t u v:Tok}{tk:Nat}(I:Inv X pins σ H s)(h1:-(2 ^ 62)<=lo)(h2:lo<2 ^ 62)(h3:-(2 ^ 62)<=hi)(h4:hi<2 ^ 62)
  (q:R (Itr lo (hi-lo).toNat) H):wpAny (model X.prog X.w) X.A (pw (.ref s.heap.objs.size)) (PIE X pins σ tg R) E {s with heap:=s.heap.push {cls:=.type "range",data:=.fields #[.int lo t,.int hi u,.int 1 v]},toks:=tk}:=by
 refine wpAny_pyIter_range (IsRange.new ..) (small_one h1 h2 h3 h4) ?_;have I1:Inv X pins σ H {s with heap:=s.heap.push {cls:=.type "range",data:=.fields #[.int lo t,.int hi u,.int 1 v]},toks:=tk}:=I.kept fun b o e=>ae _ e;refine⟨(s.heap.push {cls:=.type "range",data:=.fields #[.int lo t,.int hi u,.int 1 v]}).objs.size,[(s.heap.push {cls:=.type "range",data:=.fields #[.int lo t,.int hi u,.int 1 v]}).objs.size],_,_,H,rfl,I1.kept (t':=tk) fun b o e=>ae _ e,zay _ lo (hi-lo).toNat,?_,fun b hb=>?_,q⟩
 ·have e1:lo+((0:Nat):Int)*1=lo:=by simp
  have e2:(((hi-lo).toNat:Nat):Int)-((0:Nat):Int)=Builtin.Range.rangeSize lo hi 1:=by rw[rangeSize_one];split<;>omega
  show IsRangeIter _ _ (lo+((0:Nat):Int)*1) ((((hi-lo).toNat:Nat):Int)-((0:Nat):Int)) 1;rw[e1,e2];exact a8 _ rfl
 ·have e:b=(s.heap.push {cls:=.type "range",data:=.fields #[.int lo t,.int hi u,.int 1 v]}).objs.size:=by simpa using hb
  subst e;exact I1.fpOk (am _) (I1.hok.fresh (am _))
def zse (ta:TA):TI:=fun σ H R=>ta σ H fun vs H1=>∃j:Int,vs=[.int j]/\-(2 ^ 62)<=j/\j<2 ^ 62/\R (Itr 0 j.toNat) H1
theorem zf9 {a:Expr}{ta:TA}{p pos:Pos}(hg:Gl X "range")(hm:X.mg "range"=none)(ha:PA X [a] ta)(hs:d3 [a] X.env=[(false,eval a X.env)]:=by rfl):PI X tg (.Call (.Name "range" p) [a] [] pos) (zse ta):=by
 intro pins s σ H R I h;refine Call_ (z3u I hg hm boot_range (PyProof.Rows.callWith_type1 (thn (ha pos pins s σ H _ I h) fun us s1 ⟨vs,H1,I1,r1,q1⟩=>?_) hs rfl));obtain⟨j,e,q1,q2,q⟩:=q1;subst e;cases r1 with
 |cons r rr=>cases rr;obtain⟨t,rfl⟩:=r;exact call_range_1 (zg4 I1 (by omega) (by omega) q1 q2 (by simpa using q))
def tFor (wi:TI)(g:TG)(tb:TS):TS:=fun D σ H=>wi σ H fun J H1=>∃W:Nat->Nat->St->Hp->Prop,(∃m,W 0 m σ H1)/\∀i m σ H,W i m σ H->(J.stop i H/\D.nx σ H)\/(J.go i H/\∃N:St->Hp->Prop,(∀σ' H',N σ' H'->∃m',m'<m/\W (i+1) m' σ' H')/\∀x H',J.yld i H x H'->g x σ H' fun σ2 H2=>tb {D with nx:=N,ct:=N,bk:=D.nx} σ2 H2)
def z6w (fp:List Addr)(h:Heap):List (Addr×Obj):=fp.filterMap fun b=>(h.get? b).map fun o=>(b,o)
theorem z1n {fp:List Addr}{h:Heap}{b:Addr}{o:Obj}(hb:b∈fp)(e:h.get? b=some o):(b,o)∈z6w fp h:=ip.mpr ⟨b,hb,by rw[e];rfl⟩
theorem zdk {fp:List Addr}{h:Heap}{p:Addr×Obj}(hp:p∈z6w fp h):p.1∈fp/\h.get? p.1=some p.2:=by
 obtain⟨b,hb,e⟩:=ip.mp hp;cases q:h.get? b with
 |none=>rw[q]at e;cases e
 |some o=>rw[q]at e;have e':(b,o)=p:=Option.some.inj e;subst e';exact⟨hb,q⟩
theorem Inv.pinned {pins:List (Addr×Obj)}{σ:St}{H:Hp}{s:ac}{fp:List Addr}(I:Inv X pins σ H s)(hf:∀b∈fp,FpOk X pins H b)(ho:∀b∈fp,∃o,s.heap.get? b=some o/\∀v,o.data≠.cell v):Inv X (pins++z6w fp s.heap) σ H s:=I.pins_of fun p hp=>(b9.mp hp).elim (fun z=>I.pin p (ay _ z)) fun z=>by obtain⟨hb,e⟩:=zdk z;obtain⟨f0,f1,f2,_⟩:=hf p.1 hb;obtain⟨o,e',d⟩:=ho p.1 hb;rw[e]at e';cases e';exact⟨e,f0,f1,f2,d⟩
theorem Inv.unpinned {pins pl:List (Addr×Obj)}{σ:St}{H:Hp}{s:ac}(I:Inv X (pins++pl) σ H s):Inv X pins σ H s:=I.pins_of fun p hp=>I.pin p (ay _ (j6 _ hp))
theorem zqy {iter:Expr}{body:List Stmt}{wi:TI}{g:TG}{tb:TS}{pos:Pos}(hp:li (model X.prog X.w) X.A X.env X.xe)(hc:X.calm=true)(hi:PI X tg iter wi)(hg:PG X tg g)(hb:PSs X body tb)
  (hs:∀x,gg iter X.env x=pure x:=by intro _;rfl):PS X (.For tg iter body [] pos) (tFor wi g tb):=by
 intro pins s σ H D I h;refine wpAny_For (thn (hi pins s σ H _ I h) fun v s1 h1=>thn h1 fun itv s2 h2=>?_) hs;obtain⟨it,fp,tn,J,H2,e,I2,T,st2,f2,W,⟨m0,w0⟩,turn⟩:=h2;subst e;have stat:∀{H':Hp},(∀b∈fp,H' b=none)->∀b∈fp,FpOk X pins H' b:=fun hn b hb=>⟨hn b hb,(f2 b hb).2⟩;refine codeAny_forLoop_any (fun n s'=>∃i σ' H',Inv X pins σ' H' s'/\tn i s'.heap/\(∀b∈fp,H' b=none)/\W i n σ' H') ?_ m0 ⟨0,σ,H2,I2,st2,fun b hb=>(f2 b hb).1,w0⟩
 rintro n s3 ⟨i,σ3,H3,I3,st3,fr3,w3⟩
 rcases turn i n σ3 H3 w3 with⟨stop,qn⟩|⟨go,N,hN,step⟩
 ·refine i0 hp (thn (T.done X rfl rfl rfl hc i pins s3 σ3 H3 X.xe I3 (stat fr3) st3 stop) fun r s4 ⟨hr,I4⟩=>?_);subst hr;exact qe ⟨σ3,H3,I4,qn⟩
 ·refine i0 hp (thn (T.item X rfl rfl rfl hc i pins s3 σ3 H3 X.xe I3 (stat fr3) st3 go) fun r s4 ⟨u,hr,h4⟩=>?_);subst hr;refine i0 hp (thn h4 fun _ s5 ⟨x,H5,I5,r5,y5,st5,fr5⟩=>?_);have I5':=I5.pinned (stat fr5) (T.obj _ _ st5);refine i0 hp (thn (hg _ s5 σ3 H5 x u _ I5' r5 (step x H5 y5)) fun _ s6 ⟨σ6,H6,I6,q6⟩=>?_);refine i0 hp (thn (hb _ s6 σ6 H6 _ I6 q6) fun f s7 q7=>?_);have again:∀{σ7:St} {H7:Hp},Inv X (pins++z6w fp s5.heap) σ7 H7 s7->N σ7 H7->∃m,m<n/\∃i σ' H',Inv X pins σ' H' s7/\tn i s7.heap/\(∀b∈fp,H' b=none)/\W i m σ' H':=fun{σ7 H7} I7 n7=>by obtain⟨m',hm,w7⟩:=hN σ7 H7 n7;refine⟨m',hm,i+1,σ7,H7,I7.unpinned,T.keep _ _ _ st5 fun b hb o e=>(I7.pin (b,o) (ay _ (ay _ (z1n hb e)))).1,fun b hb=>?_,w7⟩;obtain⟨o,e,d⟩:=T.obj _ _ st5 b hb;exact(I7.pin (b,o) (ay _ (ay _ (z1n hb e)))).2.1
  cases f with
  |next=>obtain⟨σ7,H7,I7,n7⟩:=q7;exact again I7 n7
  |cont=>obtain⟨σ7,H7,I7,n7⟩:=q7;exact again I7 n7
  |brk=>obtain⟨σ7,H7,I7,q7⟩:=q7;exact⟨σ7,H7,I7.unpinned,q7⟩
  |ret v=>obtain⟨x7,σ7,H7,I7,r7,q7⟩:=q7;exact⟨x7,σ7,H7,I7.unpinned,r7,q7⟩
end
abbrev R2:=V->V->Hp->VK->Prop
def OpR (X:Cx)(f:Value->Value->Sem Value)(r:R2):Prop:=∀(pins:List (Addr×Obj)) (s:ac) (σ:St) (H:Hp) (x y:V) (v u:Value) (Q:VK),Inv X pins σ H s->RelV x v->RelV y u->r x y H Q->wpAny (model X.prog X.w) X.A (f v u) (EP X pins σ Q) X.xe s
def CallR (X:Cx)(f:Value)(r:List V->Hp->VK->Prop):Prop:=∀(pins:List (Addr×Obj)) (s:ac) (σ:St) (H:Hp) (xs:List V) (us:List Value) (Q:VK),Inv X pins σ H s->Vals xs us->r xs H Q->wpAny (model X.prog X.w) X.A (call f us) (EP X pins σ Q) X.xe s
def TruR (X:Cx)(r:V->Hp->(Bool->Hp->Prop)->Prop):Prop:=∀(pins:List (Addr×Obj)) (s:ac) (σ:St) (H:Hp) (x:V) (v:Value) (Q:Bool->Hp->Prop),Inv X pins σ H s->RelV x v->r x H Q->wpAny (model X.prog X.w) X.A (truthy v) (TP X pins σ Q) X.xe s
def tOp (r:R2)(ta tb:TE):TE:=fun σ H Q=>ta σ H fun x H1=>tb σ H1 fun y H2=>r x y H2 Q
def rI (C:Int->Int->Prop)(g:Int->Int->V):R2:=fun x y H Q=>∃i j,x=.int i/\y=.int j/\C i j/\Q (g i j) H
def rI0 (g:Int->Int->V):R2:=fun x y H Q=>∃i j,x=.int i/\y=.int j/\Q (g i j) H
section
variable {X:Cx}{a b c:Expr}{ta tb tc:TE}{pos:Pos}
theorem binT (ha:PE X a ta)(hb:PE X b tb){pins:List (Addr×Obj)}{s:ac}{σ:St}{H:Hp}{R:V->V->Hp->Prop}(I:Inv X pins σ H s)
  (h:ta σ H fun x H1=>tb σ H1 fun y H2=>R x y H2) {Q:Value->ac->Prop} {f:Value->Value->Sem Value}
  (hf:∀v u s2 x y H2,Inv X pins σ H2 s2->RelV x v->RelV y u->R x y H2->wpAny (model X.prog X.w) X.A (f v u) Q X.xe s2):
  wpAny (model X.prog X.w) X.A (eval a X.env) (fun v s₁=>wpAny (model X.prog X.w) X.A (eval b X.env) (fun u s₂=>wpAny (model X.prog X.w) X.A (f v u) Q X.xe s₂) X.xe s₁) X.xe s:=by
 refine thn (ha pins s σ H _ I h) fun v s1 ⟨x,H1,I1,r1,q1⟩=>?_;refine thn (hb pins s1 σ H1 _ I1 q1) fun u s2 ⟨y,H2,I2,r2,q2⟩=>?_;exact hf v u s2 x y H2 I2 r1 r2 q2
theorem zre {op:ky}{r:R2}(ho:OpR X (gf op) r)(ha:PE X a ta)(hb:PE X b tb):PE X (.BinOp a op b pos) (tOp r ta tb):=by intro pins s σ H Q I h;exact wpAny_BinOp (binT ha hb I h fun v u s2 x y H2 I2 rx ry q=>ho pins s2 σ H2 x y v u Q I2 rx ry q)
theorem opI {f:Value->Value->Sem Value}{C:Int->Int->Prop}{g:Int->Int->Int}
  (rule:∀(i j:Int) (t u:Tok) (s:ac) (Q:Value->ac->Prop) (E:Value->ac->Prop),C i j->Q (.int (g i j) s.toks) {s with toks:=s.toks+1}->wpAny (model X.prog X.w) X.A (f (.int i t) (.int j u)) Q E s):
  OpR X f (rI C fun i j=>.int (g i j)):=by
 intro pins s σ H x y v u Q I rx ry h;obtain⟨i,j,rfl,rfl,hc,q⟩:=h;obtain⟨t,rfl⟩:=rx;obtain⟨t',rfl⟩:=ry;exact rule i j t t' s _ _ hc ⟨.int (g i j),H,I.tok _,⟨_,rfl⟩,q⟩
theorem opI0 {f:Value->Value->Sem Value}{g:Int->Int->Int}
  (rule:∀(i j:Int) (t u:Tok) (s:ac) (Q:Value->ac->Prop) (E:Value->ac->Prop),Q (.int (g i j) s.toks) {s with toks:=s.toks+1}->wpAny (model X.prog X.w) X.A (f (.int i t) (.int j u)) Q E s):
  OpR X f (rI0 fun i j=>.int (g i j)):=by
 intro pins s σ H x y v u Q I rx ry h;obtain⟨i,j,rfl,rfl,q⟩:=h;obtain⟨t,rfl⟩:=rx;obtain⟨t',rfl⟩:=ry;exact rule i j t t' s _ _ ⟨.int (g i j),H,I.tok _,⟨_,rfl⟩,q⟩
theorem opB0 {f:Value->Value->Sem Value}{g:Int->Int->Bool}
  (rule:∀(i j:Int) (t u:Tok) (s:ac) (Q:Value->ac->Prop) (E:Value->ac->Prop),Q (.bool (g i j)) s->wpAny (model X.prog X.w) X.A (f (.int i t) (.int j u)) Q E s):
  OpR X f (rI0 fun i j=>.bl (g i j)):=by
 intro pins s σ H x y v u Q I rx ry h;obtain⟨i,j,rfl,rfl,q⟩:=h;obtain⟨t,rfl⟩:=rx;obtain⟨t',rfl⟩:=ry;exact rule i j t t' s _ _ ⟨.bl (g i j),H,I,rfl,q⟩
def CPow (i j:Int):Prop:=0<=j/\j<=1000000/\i.natAbs<2 ^ 64
def CMul (i j:Int):Prop:=(-(2 ^ 64)<i/\i<2 ^ 64)\/(-(2 ^ 64)<j/\j<2 ^ 64)
theorem CMul.ok {i j:Int}(h:CMul i j):IntMulOk i j:=by
 rcases h with⟨h1,h2⟩|⟨h1,h2⟩
 ·exact .of_left (intBits_le_64 h1 h2)
 ·exact .of_right (intBits_le_64 h1 h2)
theorem zo9:OpR X (gf .Add) (rI0 fun i j=>.int (i+j)):=opI0 fun _ _ _ _ _ _ _ q=>add_int q
theorem zp8:OpR X (gf .Sub) (rI0 fun i j=>.int (i-j)):=opI0 fun _ _ _ _ _ _ _ q=>sub_int q
theorem zo0:OpR X (gf .Mult) (rI CMul fun i j=>.int (i*j)):=opI fun _ _ _ _ _ _ _ hc q=>mul_int q hc.ok
theorem zoo:OpR X (gf .Mod) (rI (fun _ j=>0<j) fun i j=>.int (i%j)):=opI fun i j _ _ _ _ _ hc q=>by have h1:(0:Int)<j:=hc;exact mod_int' (by omega) (by rw[Int.fmod_eq_emod_of_nonneg i (by omega)];exact q)
theorem zp9:OpR X (gf .Pow) (rI CPow fun i j=>.int (i ^ j.toNat)):=opI fun _ _ _ _ _ _ _ hc q=>pow_int_small hc.1 hc.2.1 hc.2.2 q
end
section
variable {X:Cx}{a b c:Expr}{ta tb tc:TE}{pos:Pos}
theorem zjq {pins:List (Addr×Obj)}{σ:St}{H:Hp}{s:ac}{Q:VK}{k k':Bool}(I:Inv X pins σ H s)(q:Q (.bl k) H)(e:k=k'):EP X pins σ Q (.bool k') s:=by subst e;exact⟨.bl k,H,I,rfl,q⟩
theorem zw5:OpR X (cq .Lt) (rI0 fun i j=>.bl (decide (i<j))):=opB0 fun _ _ _ _ _ _ _ q=>lt_int q
theorem zup:OpR X (cq .LtE) (rI0 fun i j=>.bl (decide (i<=j))):=opB0 fun _ _ _ _ _ _ _ q=>le_int q
theorem zvf:OpR X (cq .Gt) (rI0 fun i j=>.bl (decide (j<i))):=opB0 fun _ _ _ _ _ _ _ q=>gt_int q
theorem ztm:OpR X (cq .GtE) (rI0 fun i j=>.bl (decide (j<=i))):=opB0 fun _ _ _ _ _ _ _ q=>ge_int q
theorem zfa:OpR X (cq .Lt) (fun x y H Q=>∃i j,x=.str i/\y=.str j/\Q (.bl (decide (i.cps.toList<j.cps.toList))) H):=by intro pins s σ H x y v u Q I rx ry h;obtain⟨i,j,rfl,rfl,q⟩:=h;obtain⟨t,rfl⟩:=rx;obtain⟨t',rfl⟩:=ry;exact lt_str (zjq I q rfl)
theorem zc4:OpR X (cq .In) (fun x y H Q=>∃i j,x=.str i/\y=.str j/\Q (.bl (!(du j i 0 j.length 1).isEmpty)) H):=by intro pins s σ H x y v u Q I rx ry h;obtain⟨i,j,rfl,rfl,q⟩:=h;obtain⟨t,rfl⟩:=rx;obtain⟨t',rfl⟩:=ry;exact in_str (zjq I q rfl)
def isObj:HO->Bool
 |.lst _=>true
 |.ins _ _ _=>true
 |_=>false
theorem z86 {pins:List (Addr×Obj)}{s:ac}{σ:St}{H:Hp}{a:Addr}{o:HO}(I:Inv X pins σ H s)(h:H a=some o)(p:isObj o=true):∃ob,s.heap.get? a=some ob/\ob.cls≠.type "tuple":=by
 cases o with
 |lst xs=>obtain⟨_,its,n,_,e⟩:xs.length<=az/\∃(its:List Value) (n:Nat),Vals xs its/\s.heap.get? a=some {cls:=.type "list",data:=.seq its.toArray n}:=I.hok a _ h;exact⟨_,e,(by show Value.type "list"≠.type "tuple";decide+kernel)⟩
 |ins C dx fs=>have x:=I.hok a _ h;obtain⟨_,_,_,e,_⟩:=x;exact⟨_,e,(by show Value.ref C≠.type "tuple";exact fun z=>by cases z)⟩
 |_=>exact absurd (show false=true from p) bu
theorem OpR.or {f:Value->Value->Sem Value}{r r':R2}(h:OpR X f r)(h':OpR X f r'):OpR X f (fun x y H Q=>r x y H Q\/r' x y H Q):=by
 intro pins s σ H x y v u Q I rx ry q;rcases q with q|q
 ·exact h pins s σ H x y v u Q I rx ry q
 ·exact h' pins s σ H x y v u Q I rx ry q
theorem zn0 {op:CmpOp}{r:R2}(ho:OpR X (cq op) r)(ha:PE X a ta)(hb:PE X b tb)(hm:ge op b=false):PE X (.Compare a [op] [b] pos) (tOp r ta tb):=by intro pins s σ H Q I h;exact wpAny_Compare1 (binT ha hb I h fun v u s2 x y H2 I2 rx ry q=>ho pins s2 σ H2 x y v u Q I2 rx ry q) hm
def zpd (t:TE):TT:=fun σ H Q=>t σ H fun x H'=>∃k,x=.bl k/\Q k H'
theorem zmk {op:CmpOp}{r:R2}(ho:OpR X (cq op) r)(ha:PE X a ta)(hb:PE X b tb)(hm:ge op b=false):PT X (.Compare a [op] [b] pos) (zpd (tOp r ta tb)):=by intro pins s σ H Q I h;refine qg (thn (ha pins s σ H _ I h) fun v s1 ⟨x,H1,I1,r1,q1⟩=>thn (hb pins s1 σ H1 _ I1 q1) fun u s2 ⟨y,H2,I2,r2,q2⟩=>thn (ho pins s2 σ H2 x y v u _ I2 r1 r2 q2) fun c s3 ⟨z,H3,I3,r3,k,e,q3⟩=>?_) hm;subst e;cases r3;exact jy ⟨H3,I3,q3⟩
def TruV (K:W.Frag)(x:V)(H:Hp)(k:Bool):Prop:=
 match x with
 |.non=>k=false
 |.bl b=>k=b
 |.int i=>k=(i != 0)
 |.str y=>y.length<=az/\k=((y.length:Int) != 0)
 |.byt y=>y.size<=az/\k=((y.size:Int) != 0)
 |.ref p=>(∃xs,SqL K H p xs/\k=!xs.isEmpty)\/(∃xs,SqT K H p xs/\k=!xs.isEmpty)\/∃kvs,H p=some (.dK kvs)/\k=!kvs.isEmpty
 |_=>False
theorem zbj {κ:Type}{kvs:List (κ×V)}{vs:List (κ×Value)}(r:KV kvs vs):(!vs.isEmpty)=!kvs.isEmpty:=by cases r<;>rfl
theorem z5p {xs:List V}{its:List Value}(r:Vals xs its):(!its.toArray.isEmpty)=!xs.isEmpty:=by cases r<;>simp
theorem z51:(az:Nat)<2 ^ 63:=by rw[dq];decide
theorem ziv:TruR X (fun x H Q=>∃k,TruV X.K x H k/\Q k H):=by
 intro pins s σ H x v Q I rx h;obtain⟨k,e,q⟩:=h;have hl:=z51;have hs:az=16777216:=dq;cases x with
 |non=>cases rx;have e':k=false:=e;subst e';exact truthy_none ⟨H,I,q⟩
 |bl b=>cases rx;have e':k=b:=e;subst e';exact jy ⟨H,I,q⟩
 |int i=>obtain⟨t,rfl⟩:=rx;have e':k=(i != 0):=e;subst e';exact PySem.P.truthy_int ⟨H,I,q⟩
 |str y=>obtain⟨t,rfl⟩:=rx;obtain⟨hy,e'⟩:y.length<=az/\k=((y.length:Int) != 0):=e;subst e';exact PySem.P.truthy_str (by omega) ⟨H,I.tok _,q⟩
 |byt y=>obtain⟨t,rfl⟩:=rx;obtain⟨hy,e'⟩:y.size<=az/\k=((y.size:Int) != 0):=e;subst e';exact W.truthy_bytes (by omega) ⟨H,I.tok _,q⟩
 |ref p=>
  cases rx;have e':(∃xs,SqL X.K H p xs/\k=!xs.isEmpty)\/(∃xs,SqT X.K H p xs/\k=!xs.isEmpty)\/∃kvs,H p=some (.dK kvs)/\k=!kvs.isEmpty:=e;rcases e' with⟨xs,hx,e'⟩|⟨xs,hx,e'⟩|⟨kvs,hx,e'⟩
  ·subst e';obtain⟨its,r,pl,hz⟩:=I.list hx;have hlen:=r.length;exact wpAny_truthy_list pl.isList (by simp only[ao];omega) ⟨H,I.tok _,by rw[z5p r];exact q⟩
  ·subst e';obtain⟨its,r,pl,hz⟩:=I.tuple hx;have hlen:=r.length;exact truthy_tuple pl (by simp only[ao];omega) ⟨H,I.tok _,by rw[z5p r];exact q⟩
  ·subst e';obtain⟨hz,hS,vs,r,m⟩:kvs.length<=az/\(p==jq)=false/\∃vs,KV kvs vs/\s.heap.DictOf (z10 X.prog X.w) p vs:=I.hok p _ hx;have hlen:kvs.length=vs.length:=Paired.length r;exact wpAny_truthy_dict hS m (by omega) ⟨H,I.tok _,by rw[zbj r];exact q⟩
 |_=>exact(show False from e).elim
theorem zhg (ha:PE X a ta)(he:∀whole,uu a X.env whole=(do let v <-whole;standAt a.pos;ua [v] (truthy v))):
  PT X a (fun σ H Q=>ta σ H fun x H'=>∃k,TruV X.K x H' k/\Q k H'):=by
 intro pins s σ H Q I h;exact isTrue_plain (thn (ha pins s σ H _ I h) fun v s1 ⟨x,H1,I1,r1,q1⟩=>ziv pins s1 σ H1 x v Q I1 r1 q1) (he _)
theorem zbi:OpR X (gf .Add) (fun x y H Q=>∃i j,x=.str i/\y=.str j/\i.length+j.length<=az/\Q (.str (i++j)) H):=by intro pins s σ H x y v u Q I rx ry h;obtain⟨i,j,rfl,rfl,hz,q⟩:=h;obtain⟨t,rfl⟩:=rx;obtain⟨t',rfl⟩:=ry;exact add_str (fun t' tk=>⟨.str (i++j),H,I.tok _,⟨_,rfl⟩,q⟩) hz
theorem vals1 {x:V}{us:List Value}(r:Vals [x] us):∃u,us=[u]/\RelV x u:=by
 cases r with
 |cons r1 r2=>cases r2;exact⟨_,rfl,r1⟩
theorem vals2 {x y:V}{us:List Value}(r:Vals [x,y] us):∃u w',us=[u,w']/\RelV x u/\RelV y w':=by
 cases r with
 |cons r1 r2=>
  cases r2 with
  |cons r3 r4=>cases r4;exact⟨_,_,rfl,r1,r3⟩
theorem zej (hc:X.calm=true):CallR X (.builtin "min") (fun xs H Q=>∃i j,xs=[.int i,.int j]/\Q (.int (if j<i then j else i)) H):=by
 intro pins s σ H xs us Q I r h;obtain⟨i,j,rfl,q⟩:=h;obtain⟨u,w',rfl,⟨t,rfl⟩,⟨t',rfl⟩⟩:=vals2 r;refine min_two_ints (I.ok.hd hc) fun h' tk k=>⟨_,H,I.kept k,?_,q⟩;by_cases hj:j<i
 ·rw[if_pos hj,if_pos hj];exact⟨_,rfl⟩
 ·rw[if_neg hj,if_neg hj];exact⟨_,rfl⟩
theorem zcc:CallR X (.type "int") (fun xs H Q=>(∃i,xs=[.int i]/\Q (.int i) H)\/∃k,xs=[.bl k]/\Q (.int (if k then 1 else 0)) H):=by
 intro pins s σ H xs us Q I r h;rcases h with⟨i,rfl,q⟩|⟨k,rfl,q⟩
 ·obtain⟨u,rfl,t,rfl⟩:=vals1 r;exact call_int_int ⟨.int i,H,I,⟨_,rfl⟩,q⟩
 ·obtain⟨u,rfl,r1⟩:=vals1 r;cases r1;exact call_int_bool ⟨.int (if k then 1 else 0),H,I.tok _,⟨_,rfl⟩,q⟩
end
structure ObjM (h:Heap)(x dx C:Addr)(mA:Str->Option Value):Prop where
 obj:h.get? x=some (W.instObj C dx)
 ns:h.Ns1 dx mA
 ne:dx≠x
theorem zcj {h:Heap}{dx:Addr}{mA:Str->Option Value}(n:h.Ns1 dx mA):∃od,h.get? dx=some od/\∀name,W.lookIn name od=some (mA name):=by
 obtain⟨o,es,ep,ho,hd,hk,_,hm⟩:=n;refine⟨o,ho,fun name=>?_⟩;have e:=hm name;unfold nsFind findBy at e;rw[<-Array.find?_toList]at e;unfold W.lookIn;rw[hd]
 dsimp only
 split
 ·rename_i y q;rw[q]at e;exact congrArg some e
 ·rename_i q;rw[q]at e;have a:es.toList.any (·.refKey)=false:=by rw[ub];intro y hy;obtain⟨z,t,hkey⟩:=hk y (Array.mem_toList_iff.mp hy);simp[DictEntry.refKey,hkey]
  have a':¬es.toList.any (·.refKey)=true:=by rw[a];exact bu
  rw[if_neg a'];exact congrArg some e
theorem ObjM.look {h:Heap}{x dx C:Addr}{mA:Str->Option Value}(I:ObjM h x dx C mA):∃od,W.InstAt h x (W.instObj C dx) C (some od)/\∀name,W.lookIn name od=some (mA name):=
 let⟨od,ho,hl⟩:=zcj I.ns
 ⟨od,⟨I.obj,rfl,rfl,ho⟩,hl⟩
section
variable {prog:ba}{w:World}{A:b6}{E:Value->ac->Prop}{s:ac}{K:W.Frag}{x dx C f:Addr}{mA:Str->Option Value}{name:Str}{v:Value}
end
theorem RelO.some_of {v:V}{o:Option Value}(r:RelO (some v) o):∃u,o=some u/\RelV v u:=by
 cases o with
 |none=>exact(show False from r).elim
 |some u=>exact⟨u,rfl,r⟩
theorem RelO.none_of {o:Option Value}(r:RelO none o):o=none:=by
 cases o with
 |none=>rfl
 |some u=>exact(show False from r).elim
section
variable {P:ba}{w:World}{H H':Hp}{h h':Heap}{a C dx:Addr}{fs fs':List (Str×V)}
theorem znb (hok:HOk P w H h)(e:H a=some (.ins C dx fs)):∃mA,ObjM h a dx C mA/\(∀f,RelO (fs.lookup f) (mA f))/\PySem.Within mA (fs.map (·.1))/\fs.length<=1000/\H dx=some (.own a):=by obtain⟨d,z,ne,ob,mA,n,r,q⟩:=(show z0w P w H h a (.ins C dx fs)from hok a _ e);exact⟨mA,⟨ob,n,ne⟩,r,q,z,d⟩
end
structure Cls (K:W.Frag)(C:Addr):Prop where
 pg:W.plainGet K C Str.empty=true
 hd:W.hasDictIn K C=true
 po:W.plainOver K C=true
 sa:W.findIn K (.ref C) "__setattr__"=some (some (.builtin "object.__setattr__"))
theorem Cls.get {K:W.Frag}{C:Addr}(c:Cls K C)(f:Str):W.plainGet K C f=true:=c.pg
section
variable {X:Cx}{pins:List (Addr×Obj)}{σ:St}{H:Hp}{s:ac}{a C dx:Addr}{fs:List (Str×V)}{f:Str}{v:V}{A:b6}{E:Value->ac->Prop}
theorem Inv.made (I:Inv X pins σ H s):Inv X pins σ (upd (upd H s.heap.objs.size (.own (s.heap.objs.size+1))) (s.heap.objs.size+1) (.ins C s.heap.objs.size []))
  {s with heap:=(s.heap.push W.emptyDict).push (W.instObj C s.heap.objs.size)}:=by
 have e1:(s.heap.push W.emptyDict).get? s.heap.objs.size=some W.emptyDict:=a8 s.heap rfl
 have e2:((s.heap.push W.emptyDict).push (W.instObj C s.heap.objs.size)).get? (s.heap.objs.size+1)=some (W.instObj C s.heap.objs.size):=by
  have:=a8 (s.heap.push W.emptyDict) (o:=W.instObj C s.heap.objs.size) rfl
  rwa [ql]at this
 have e3:(s.heap.push W.emptyDict).Ns s.heap.objs.size (fun _=>none):=⟨W.emptyDict,#[],_,e1,rfl,(fun e he=>absurd he (by simp)),fun _=>rfl⟩;have I1:=I.laid (a:=s.heap.objs.size) (o:=.own (s.heap.objs.size+1)) (h':=s.heap.push W.emptyDict) (t':=s.toks) (fun b u q=>ae _ q) (am _) ⟨_,e1⟩;refine I1.laid (a:=s.heap.objs.size+1) (o:=.ins C s.heap.objs.size []) (t':=s.toks) (fun b u q=>ae _ q) (pz (ql _ _)) ?_;have ne:s.heap.objs.size≠s.heap.objs.size+1:=b7 (l9 _);refine⟨by rw[z05 ne,z0d],dj _,ne,e2,fun _=>none,(Heap.Ns1.of_empty e3).at fun o q=>ae _ q,fun _=>True.intro,fun y hy=>absurd rfl hy⟩
end
section
variable {X:Cx}{o e value:Expr}{f:Str}{pos pos' tpos:Pos}{ta tv:TE}
end
section
variable {X:Cx}{pins:List (Addr×Obj)}{σ:St}{H:Hp}{s:ac}{A:b6}{E:Value->ac->Prop}{Q:Value->ac->Prop}{c:Value}{b:Bool}
inductive TyOf (K:W.Frag)(H:Hp):V->Value->Prop where
 |non:TyOf K H .non (.type "NoneType")
 |bl (x:Bool):TyOf K H (.bl x) (.type "bool")
 |int (i:Int):TyOf K H (.int i) (.type "int")
 |str (x:Str):TyOf K H (.str x) (.type "str")
 |flt (x:UInt64):TyOf K H (.flt x) (.type "float")
 |lst {a:Addr} {xs:List V} (e:H a=some (.lst xs)):TyOf K H (.ref a) (.type "list")
 |frz {a:Addr} {o:Obj} {xs:List V} (e:H a=some (.frz o (.lst xs))):TyOf K H (.ref a) (.type "list")
 |tup {a:Addr} {xs:List V} (e:H a=some (.tup xs)):TyOf K H (.ref a) (.type "tuple")
 |dK {a:Addr} {kvs:List (Key×V)} (e:H a=some (.dK kvs)):TyOf K H (.ref a) (.type "dict")
 |dT {a:Addr} {kvs:List (List Key×V)} (e:H a=some (.dT kvs)):TyOf K H (.ref a) (.type "dict")
 |ins {a C dx:Addr} {fs:List (Str×V)} (e:H a=some (.ins C dx fs)) (cl:Cls K C) (ha:W.findIn K (.ref C) "__class__"=some (some (.builtin "object.__class__")))
  (hn:W.specialIn K (.builtin "object.__class__") "__get__"=some (some (.builtin "getset_descriptor.__get__"))) (htk:W.takesIn K (.builtin "object.__class__")=some true)
  (hm:W.mroIn K C (.type "object")=some true):TyOf K H (.ref a) (.ref C)
theorem z2k {x:V}{u t:Value}(I:Inv X pins σ H s)(rx:RelV x u)(ty:TyOf X.K H x t)(e:W.kitOne X.K t c=some b)(h:∀tk,Q (.bool b) {s with toks:=tk}):
  wpAny (model X.prog X.w) A (call (.builtin "isinstance") [u,c]) Q E s:=by
 cases ty with
 |non=>cases(show u=Value.none from rx);exact W.kia_one W.kitx_none I.kIn True.intro e (fun z=>nomatch z) h
 |bl y=>cases(show u=Value.bool y from rx);exact W.kia_one W.kitx_bool I.kIn True.intro e (fun z=>nomatch z) h
 |int i=>obtain⟨t,q⟩:=(show ∃t,u=Value.int i t from rx);cases q;exact W.kia_one W.kitx_int I.kIn True.intro e (fun z=>nomatch z) h
 |str y=>obtain⟨t,q⟩:=(show ∃t,u=Value.str y t from rx);cases q;exact W.kia_one W.kitx_str I.kIn True.intro e (fun z=>nomatch z) h
 |flt y=>obtain⟨t,q⟩:=(show ∃t,u=Value.float y t from rx);cases q;exact W.kia_one W.kitx_float I.kIn True.intro e (fun z=>nomatch z) h
 | @lst a xs ea=>cases(show u=Value.ref a from rx);obtain⟨_,_,n,_,h1⟩:=(show z0w X.prog X.w H s.heap a (.lst xs)from I.hok a _ ea);exact W.kia_one W.kitx_list I.kIn ⟨_,h1,rfl⟩ e (fun z=>nomatch z) h
 | @frz a ob xs ea=>cases(show u=Value.ref a from rx);obtain⟨_,_,_,n,_,h1⟩:=(show z0w X.prog X.w H s.heap a (.frz ob (.lst xs))from I.hok a _ ea);exact W.kia_one W.kitx_list I.kIn ⟨_,h1,rfl⟩ e (fun z=>nomatch z) h
 | @tup a xs ea=>cases(show u=Value.ref a from rx);obtain⟨_,_,_,p⟩:=(show z0w X.prog X.w H s.heap a (.tup xs)from I.hok a _ ea);obtain⟨o,h1,h2,_⟩:=p.tup;exact W.kia_one W.kitx_tuple I.kIn ⟨o,h1,h2⟩ e (fun z=>nomatch z) h
 | @dK a kvs ea=>cases(show u=Value.ref a from rx);obtain⟨_,_,vs,_,p⟩:=(show z0w X.prog X.w H s.heap a (.dK kvs)from I.hok a _ ea);obtain⟨o,es,ep,h1,h2,_⟩:=p;exact W.kia_one W.kitx_dict I.kIn ⟨o,h1,h2.1⟩ e (fun z=>nomatch z) h
 | @dT a kvs ea=>cases(show u=Value.ref a from rx);obtain⟨_,_,xs,_,o,es,ep,h1,h2,_⟩:=(show z0w X.prog X.w H s.heap a (.dT kvs)from I.hok a _ ea);exact W.kia_one W.kitx_dict I.kIn ⟨o,h1,h2.1⟩ e (fun z=>nomatch z) h
 | @ins a C dx fs ea cl ha hn htk hm=>cases(show u=Value.ref a from rx);obtain⟨mA,O,_⟩:=znb I.hok ea;obtain⟨od,J,_⟩:=O.look;exact W.kia_one (W.kitx_own (cl.get _) cl.hd ha hn htk hm) I.kIn J e (fun z=>nomatch z) h
end
structure Room (k:Nat)(A:b6):Prop where
 hd:A.handled=none
 dp:A.depth+3*k+5<recursionLimit
 un:A.units+16*k+200<cLine
theorem Room.mono {j k:Nat}{A:b6}(r:Room k A)(h:j<=k):Room j A:=⟨r.hd,by have:=r.dp;omega,by have:=r.un;omega⟩
theorem Room.deeper {k:Nat}{A:b6}(r:Room (k+1) A)(env:Env):Room k (A.deeper env):=⟨r.hd,by have:=r.dp;show A.depth+1+3*k+5<_;omega,by have:=r.un;show A.units+3+16*k+200<_;omega⟩
theorem Room.in1 {k:Nat}{A:b6}(r:Room (k+1) A):Room k A.in1:=⟨r.hd,by have:=r.dp;show A.depth+3*k+5<_;omega,by have:=r.un;show A.units+1+16*k+200<_;omega⟩
theorem Room.depth {k:Nat}{A:b6}(r:Room k A):A.depth<recursionLimit:=by have:=r.dp;omega
theorem Room.units {k:Nat}{A:b6}(r:Room k A):A.units+64<cLine:=by have:=r.un;omega
def tNil:TA:=fun _ H Q=>Q [] H
def zlg (ta:TE)(tr:TA):TA:=fun σ H Q=>ta σ H fun x H1=>tr σ H1 fun xs H2=>Q (x::xs) H2
section
variable {X:Cx}{e:Expr}{es:List Expr}{te:TE}{t:TA}{pos:Pos}
theorem z4y:PA X [] tNil:=fun _ _ _ _ H Q I h=>Calls.spliced_nil ⟨[],H,I,.nil,h⟩
theorem zlv (ha:PE X e te)(hr:PA X es t)(hs:d3 (e::es) X.env=(false,eval e X.env)::d3 es X.env:=by rfl):PA X (e::es) (zlg te t):=by intro pos pins s σ H Q I h;rw[hs];show wpAny _ _ (spliced ((false,eval e X.env)::mv pos (d3 es X.env))) _ _ s;refine Calls.spliced_cons (thn (ha pins s σ H _ I h) fun u s1 ⟨x,H1,I1,r1,q1⟩=>?_);exact thn (hr pos pins s1 σ H1 _ I1 q1) fun us s2 ⟨xs,H2,I2,r2,q2⟩=>⟨x::xs,H2,I2,.cons r1 r2,q2⟩
def tTup (t:TA):TE:=fun σ H Q=>t σ H fun xs H1=>xs.length<=az/\∀p,H1 p=none->Q (.ref p) (upd H1 p (.tup xs))
def tLst (t:TA):TE:=fun σ H Q=>t σ H fun xs H1=>xs.length<=az/\∀p,H1 p=none->Q (.ref p) (upd H1 p (.lst xs))
theorem zns {x1}(h:PA X es t):PE X (.Tuple es x1 pos) (tTup t):=by intro pins s σ H Q I hq;refine wpAny_Tuple_spliced (thn (h pos pins s σ H _ I hq) fun us s1 ⟨xs,H1,I1,r,z,q⟩=>⟨by rw[<-r.length];exact z,?_⟩);have hf:H1 s1.heap.objs.size=none:=I1.hok.fresh (am _);refine⟨.ref s1.heap.objs.size,upd H1 s1.heap.objs.size (.tup xs),I1.laid (t':=s1.toks) (fun b u e=>ae _ e) (am _) ?_,rfl,q _ hf⟩;exact⟨z,us,r,⟨_,a8 _ rfl⟩⟩
theorem zja (h:PA X es t):PE X (.List es pos) (tLst t):=by intro pins s σ H Q I hq;refine wpAny_List_spliced (thn (h pos pins s σ H _ I hq) fun us s1 ⟨xs,H1,I1,r,z,q⟩=>⟨by rw[<-r.length];exact z,?_⟩);have hf:H1 s1.heap.objs.size=none:=I1.hok.fresh (am _);refine⟨.ref s1.heap.objs.size,upd H1 s1.heap.objs.size (.lst xs),I1.laid (t':=s1.toks) (fun b u e=>ae _ e) (am _) ?_,rfl,q _ hf⟩;exact⟨z,us,0,r,a8 _ rfl⟩
end
abbrev Sp:=List V->Hp->VK->XK->Prop
abbrev CXT:=List Env->Hp->ac->XK->Value->ac->Prop
structure Env0 (P:ba)(w:World)(K:W.Frag)(mg:Str->Option Value)(base:Heap)(A:b6)(outer:List Env)(s:ac)(H:Hp):Prop where
 frames:A.frames=some outer
 mod:Mod K mg base
 bs:∀b o,base.get? b=some o->s.heap.get? b=some o/\H b=none
 bsz:base.objs.size<=s.heap.objs.size
 funs:s.heap.FunFrames base outer
 frf:∀b∈frs outer,H b=none
 hok:HOk P w H s.heap
 bare:nk s.gens
def CE (outer:List Env)(P:ba)(w:World)(H:Hp)(s:ac)(Q:VK)(u:Value)(s':ac):Prop:=∃v H',s'.os=s.os/\nk s'.gens/\Un (frs outer) [] H H' s.heap s'.heap/\HOk P w H' s'.heap/\RelV v u/\Q v H'
def CR (CX:CXT)(outer:List Env)(P:ba)(w:World)(H:Hp)(s:ac)(Q:VK)(E:XK)(r:vt)(s':ac):Prop:=
 match r with
 |.ok (.ret u)=>CE outer P w H s Q u s'
 |.ok _=>False
 |.error e=>CX outer H s E e s'
structure FnOk (P:ba)(w:World)(K:W.Frag)(mg:Str->Option Value)(base:Heap)(CX:CXT)(k:Nat)(f:Addr)(fd:fj)(ps:List Str)(sp:Sp):Prop where
 len:∀vs H Q E,sp vs H Q E->vs.length=ps.length
 run:∀(A:b6) (outer:List Env) (s:ac) (H:Hp) (args:Args) (us:List Value) (vs:List V) (Q:VK) (E:XK),Room k A->Env0 P w K mg base A outer s H->q9 s fd args (ps.zip us)->Vals vs us->sp vs H Q E->mh (model P w) A (.call (.ref f) args) (CR CX outer P w H s Q E) s
theorem FnOk.mono {P:ba}{w:World}{K:W.Frag}{mg:Str->Option Value}{base:Heap}{CX:CXT}{j k:Nat}{f:Addr}{fd:fj}{ps:List Str}{sp:Sp}(F:FnOk P w K mg base CX j f fd ps sp)(h:j<=k): FnOk P w K mg base CX k f fd ps sp:=⟨F.len,fun A outer s H args us vs Q E hr=>F.run A outer s H args us vs Q E (hr.mono h)⟩
theorem FnOk.imp {P:ba}{w:World}{K:W.Frag}{mg:Str->Option Value}{base:Heap}{CX:CXT}{k:Nat}{f:Addr}{fd:fj}{ps:List Str}{sp sp':Sp}(F:FnOk P w K mg base CX k f fd ps sp)
  (h:∀vs H Q E,sp' vs H Q E->sp vs H Q E):FnOk P w K mg base CX k f fd ps sp':=
 ⟨fun vs H Q E q=>F.len vs H Q E (h _ _ _ _ q),fun A outer s H args us vs Q E hr he hb hv hs=>F.run A outer s H args us vs Q E hr he hb hv (h _ _ _ _ hs)⟩
theorem Env0.in1 {P:ba}{w:World}{K:W.Frag}{mg:Str->Option Value}{base:Heap}{A:b6}{outer:List Env}{s:ac}{H:Hp}(e:Env0 P w K mg base A outer s H): Env0 P w K mg base A.in1 outer s H:=⟨e.frames,e.mod,e.bs,e.bsz,e.funs,e.frf,e.hok,e.bare⟩
section
variable {X:Cx}{pins:List (Addr×Obj)}{σ:St}{H:Hp}{s s':ac}
theorem Inv.env0 (I:Inv X pins σ H s):Env0 X.prog X.w X.K X.mg X.base X.A X.stack s H:=⟨I.ok.frames,I.ok.mod,I.bs,bx I.ok.bsz I.sz,I.stack,I.stkFree,I.hok,I.bare⟩
theorem Inv.after {Q:VK}{u:Value}(I:Inv X pins σ H s)(h:CE X.stack X.prog X.w H s Q u s'):EP X pins σ Q u s':=by obtain⟨v,H',os,bare,un,hok,r,q⟩:=h;obtain⟨hh,g,d,t,os'⟩:=s';obtain rfl:os'=s.os:=os;exact⟨v,H',I.call (h':=hh) (g':=g) (d':=d) (t':=t) (ch:=[]) un hok bare (fun b z=>absurd z (by simp)),r,q⟩
end
def zr3 (sp:Sp)(dvs:List V)(E:XK)(t:TA):TE:=fun σ H Q=>t σ H fun vs H1=>sp (vs++dvs) H1 Q E
def Binds (K:W.Frag)(fd:fj)(ps:List Str)(ds:List Value):Prop:=∀(s:ac) (us:List Value),K.In s.heap->(us++ds).length=ps.length->q9 s fd ⟨us,[]⟩ (ps.zip (us++ds))
theorem Binds.all {K:W.Frag}{fd:fj}{ps:List Str}(h:∀us:List Value,us.length=ps.length->ve fd ⟨us,[]⟩=pure (ps.zip us)):Binds K fd ps []:=fun s us _ hl=>by rw[gv]at hl ⊢;exact .of_eq (h us hl)
def zce (CX:CXT)(X:Cx)(E:XK):Prop:=∀(pins:List (Addr×Obj)) (σ:St) (H:Hp) (s:ac) (e:Value) (s':ac),Inv X pins σ H s->CX X.stack H s E e s'->X.xe e s'
section
variable {X:Cx}{CX:CXT}{k:Nat}{f C:Addr}{fd:fj}{ps:List Str}{sp:Sp}{dvs:List V}{ds:List Value}{E:XK}{x m:Str}{p pos apos:Pos}{e o:Expr}{es:List Expr}{ta:TE}{t:TA}
theorem zo2 {pins:List (Addr×Obj)}{σ:St}{H:Hp}{s:ac}{Q:VK}{us:List Value}{vs:List V}(F:FnOk X.prog X.w X.K X.mg X.base CX k f fd ps sp)(hr:Room k X.A)(hb:Binds X.K fd ps ds)(hd:Vals dvs ds)(hx:zce CX X E)
  (I:Inv X pins σ H s) (r:Vals vs us) (h:sp (vs++dvs) H Q E):wpAny (model X.prog X.w) X.A (call (.ref f) us) (EP X pins σ Q) X.xe s:=by
 have r2:Vals (vs++dvs) (us++ds):=r.append hd;have hl:(us++ds).length=ps.length:=by rw[<-r2.length];exact F.len _ _ _ _ h
 refine wpAny_call (uc (F.run X.A X.stack s H ⟨us,[]⟩ (us++ds) (vs++dvs) Q E hr I.env0 (hb s us I.kIn hl) r2 h) fun r s' hq=>?_);cases r with
 |error e=>exact hx pins σ H s e s' I hq
 |ok fl=>
  cases fl with
  |ret u=>exact I.after hq
  |next=>exact False.elim hq
  |brk=>exact False.elim hq
  |cont=>exact False.elim hq
theorem zlb (F:FnOk X.prog X.w X.K X.mg X.base CX k f fd ps sp)(hr:Room k X.A)(hg:Gl X x)(hm:X.mg x=some (.ref f))(hk:W.keepIn X.K (.ref f)=true)(hb:Binds X.K fd ps ds)(hd:Vals dvs ds)(hx:zce CX X E)
  (ha:PA X (e::es) t) (hdb:(x==("__debug__":Str))=false:=by decide) (he:d3 (e::es) X.env=(false,eval e X.env)::d3 es X.env:=by rfl) (hpl:(mv pos (d3 es X.env)).any (·.1)=false:=by rfl):
  PE X (.Call (.Name x p) (e::es) [] pos) (zr3 sp dvs E t):=by
 intro pins s σ H Q I h;refine n4 (zjy I hg hm ?_ hdb);refine W.callWith_K (h₀:=X.base) I.ok.mod.kin hk (thn (ha pos pins s σ H _ I h) fun us s1 ⟨vs,H1,I1,r,q⟩=>⟨I1.kIn,?_⟩) he hpl;exact zo2 F hr hb hd hx I1 r q
structure Mk (K:W.Frag)(C f:Addr):Prop where
 makes:W.makesIn K C=true
 init:W.findIn K (.ref C) "__init__"=some (some (.ref f))
 fn:W.isFn K (.ref f)=true
 kp:W.keepIn K (.ref C)=true
end
def PK (X:Cx)(kws:List p6)(t:TA):Prop:=∀(pos:Pos) (pins:List (Addr×Obj)) (s:ac) (σ:St) (H:Hp) (Q:List V->Hp->Prop),Inv X pins σ H s->t σ H Q->wpAny (model X.prog X.w) X.A (evalAll ((backToKw pos (uy kws X.env)).map (·.2))) (AP X pins σ Q) X.xe s
section
variable {X:Cx}{CX:CXT}{k:Nat}{f C:Addr}{fd:fj}{ps ks:List Str}{sp:Sp}{E:XK}{x m:Str}{p pos apos kpos:Pos}{e o:Expr}{es:List Expr}{kws:List p6}{te ta:TE}{t tk:TA}{nm:Option Str}
variable {g:List Value->List Value->List Value}{gV:List V->List V->List V}
end
structure FnScope (N P:List Str)(sc:Scope):Prop where
 kind:sc.kind=.function
 co:sc.isCoroutine=false
 gen:sc.isGenerator=false
 nd:N.Nodup
 pre:N.take P.length=P
 par:∀x∈P,sc.names.lookup x=some .local\/sc.names.lookup x=some .cell
 nofree:∀y∈sc.names,y.2≠.free
theorem z6q {ma:Str->Option fm}{x:Str}:∀{binds:List (Str×Value)} {m:Str->Option Value},(∀v,(x,v)∉binds)->bindL ma binds m x=m x
 | [],_,_=>rfl
 |(n,v)::r,m,h=>by
  unfold bindL;rw[z6q fun w hw=>h w (au _ hw)];split
  ·have :x≠n:=by rintro rfl;exact h v ak
   simp[this]
  ·rfl
theorem z75 {ma:Str->Option fm}{x:Str}:∀{binds:List (Str×Value)} {m:Str->Option Value},(∀v,(x,v)∉binds)->bindC ma binds m x=m x
 | [],_,_=>rfl
 |(n,v)::r,m,h=>by
  unfold bindC;rw[z75 fun w hw=>h w (au _ hw)];split
  ·rfl
  ·have :x≠n:=by rintro rfl;exact h v ak
   simp[this]
theorem z81 {ma:Str->Option fm}{x:Str}{v:Value}:∀{P:List Str} {vs:List Value} {i:Nat} {m:Str->Option Value},P.Nodup->P[i]?=some x->vs[i]?=some v->ma x=some .local->
  bindL ma (P.zip vs) m x=some v
 | [],_,_,_,_,h,_,_=>by simp at h
 |_::_,[],_,_,_,_,h,_=>by simp at h
 |p::P,w::vs,0,m,nd,h1,h2,hk=>by simp at h1 h2;subst h1;subst h2;show bindL ma ((p,w)::P.zip vs) m p=_;unfold bindL;rw[z6q fun v hv=>(cn.mp nd).1 (i6 hv).1,if_pos hk];simp
 |p::P,w::vs,i+1,m,nd,h1,h2,hk=>by show bindL ma ((p,w)::P.zip vs) m x=_;unfold bindL;exact z81 (i:=i) (cn.mp nd).2 (by simpa using h1) (by simpa using h2) hk
theorem z7q {ma:Str->Option fm}{x:Str}{v:Value}:∀{P:List Str} {vs:List Value} {i:Nat} {m:Str->Option Value},P.Nodup->P[i]?=some x->vs[i]?=some v->ma x≠some .local->
  bindC ma (P.zip vs) m x=some v
 | [],_,_,_,_,h,_,_=>by simp at h
 |_::_,[],_,_,_,_,h,_=>by simp at h
 |p::P,w::vs,0,m,nd,h1,h2,hk=>by simp at h1 h2;subst h1;subst h2;show bindC ma ((p,w)::P.zip vs) m p=_;unfold bindC;rw[z75 fun v hv=>(cn.mp nd).1 (i6 hv).1,if_neg hk];simp
 |p::P,w::vs,i+1,m,nd,h1,h2,hk=>by show bindC ma ((p,w)::P.zip vs) m x=_;unfold bindC;exact z7q (i:=i) (cn.mp nd).2 (by simpa using h1) (by simpa using h2) hk
def start (N:List Str)(vs:List V):St:=vs.map some++bv (N.length-vs.length) none
def cxOf (CX:CXT)(P:ba)(w:World)(K:W.Frag)(mg:Str->Option Value)(base:Heap)(N:List Str)(qual:Str)(scope:Scope)(f:Addr)(cd:Value)(A:b6)(outer:List Env)(s:ac)(H:Hp)(E:XK):Cx where
 prog:=P
 w:=w
 K:=K
 mg:=mg
 base:=base
 A:=A.deeper (qo qual scope s.heap.objs.size f cd)
 N:=N
 s₀:=s
 H₀:=H
 env:=qo qual scope s.heap.objs.size f cd
 outer:=outer
 stack:=qo qual scope s.heap.objs.size f cd::outer
 ex:=[]
 calm:=true
 fn:=fun _=>true
 pn:=[]
 xe:=fun e s'=>wpAny (model P w) (A.deeper (qo qual scope s.heap.objs.size f cd)) (leaving (qo qual scope s.heap.objs.size f cd) e) (fun _ s''=>CX outer H s E e s'') (fun e' s''=>CX outer H s E e' s'') s'
theorem zai {sc:Scope}{n:Nat}{x:Str}(h:sc.names.lookup x=some .cell):∃c,(cellsFrom n sc.names []).lookup x=some c:=by have q:=W.cellsFrom_some sc.names n [] (.inl h);exact Option.isSome_iff_exists.mp q
theorem zdm {CX:CXT}{P:ba}{w:World}{K:W.Frag}{mg:Str->Option Value}{base:Heap}{N ps:List Str}{qual:Str}{scope:Scope}{f:Addr}{cd:Value}{A:b6}{outer:List Env}{s s1:ac}{H:Hp}{E:XK}{us:List Value}{vs:List V}
  (S:FnScope N ps scope) (hd:A.handled=none) (e0:Env0 P w K mg base A outer s H) (hl:vs.length=ps.length) (r:Vals vs us)
  (x:InCallC s s.heap.objs.size (bindL (qo qual scope s.heap.objs.size f cd).kindOf (ps.zip us) fun _=>none) (cellsFrom (s.heap.objs.size+1) scope.names []) (bindC (qo qual scope s.heap.objs.size f cd).kindOf (ps.zip us) fun _=>none) s1):
  Inv (cxOf CX P w K mg base N qual scope f cd A outer s H E) [] (start N vs) H s1:=by
 have hpl:ps.length<=N.length:=by have:=congrArg j8 S.pre;rw[eu]at this;omega
 obtain⟨h1,tk,rfl,hk⟩:=x.done;have noA:∀b:Addr,b∉(cxOf CX P w K mg base N qual scope f cd A outer s H E).ex:=fun b z=>absurd (show b∈([]:List Addr)from z) (by simp);refine⟨⟨e0.mod,S.kind,rfl,rfl,am _,fun y z c h1 h2=>?_,fun y hy=>?_,fun y c _ h=>?_,fun _=>hd,Around.frames_deeper e0.frames,.inr ⟨rfl,rfl⟩,fun b z=>absurd z (noA b),e0.bs,e0.bsz,fun b _ _=>noA b,fun b z=>absurd z (noA b),e0.funs,e0.frf,fun _ _ z=>by cases z⟩,rfl,e0.bare,Un.kept hk,⟨_,x.toInCall.ns,fun i y v h1 h2 h3=>?_⟩,fun y c h=>⟨_,x.cell y c h⟩,e0.hok.fresh (am _),fun y c h=>?_,fun p hp=>absurd (show p∈([]:List (Addr×Obj))from hp) (by simp),e0.hok.kept hk,?_,fun _ _ z=>by cases z⟩
 ·exact name_of_addr x.apart (PySem.mem_of_lookup h1) (PySem.mem_of_lookup h2)
 ·have hy:scope.names.lookup y=some .cell\/scope.names.lookup y=some .free:=hy;rcases hy with hy|hy
  ·exact zai hy
  ·exact absurd rfl (S.nofree _ (PySem.mem_of_lookup hy))
 ·exact np (x.above y c (PySem.mem_of_lookup h))
 ·have hi:i<vs.length:=by
   unfold start at h2;by_cases hi:i<vs.length
   ·exact hi
   ·rw[fq (by simpa using hi)]at h2;rw[gh]at h2;split at h2<;>cases h2
  have ha:vs[i]?=some v:=by
   unfold start at h2;rw[iy (by simpa using hi),bw]at h2;cases e:vs[i]? with
   |none=>rw[e]at h2;cases h2
   |some a=>rw[e]at h2;cases h2;rfl
  obtain⟨u,hu,rv⟩:=r.get ha;have hp:ps[i]?=some y:=by rw[<-S.pre,List.getElem?_take_of_lt (by omega)];exact h1
  have ndP:ps.Nodup:=by rw[<-S.pre];exact S.nd.sublist (List.take_sublist _ _)
  refine⟨u,rv,?_⟩;rcases S.par y (bc hp)with k|k
  ·exact .inl ⟨k,z81 ndP hp hu k⟩
  ·obtain⟨c,e⟩:=zai (n:=s.heap.objs.size+1) k;refine .inr ⟨.inl k,c,e,?_⟩;have q:=x.cell y c e;rw[z7q ndP hp hu (by show scope.names.lookup y≠_;rw[k];decide)]at q;exact q
 ·exact e0.hok.fresh (np (x.above y c (PySem.mem_of_lookup h)))
 ·unfold start;show _=N.length;rw[av,af,dg];omega
theorem zs6 {CX:CXT}{P:ba}{w:World}{K:W.Frag}{mg:Str->Option Value}{base:Heap}{k:Nat}{f:Addr}{name qual:Str}{params:Arguments}{body:List Stmt}{scope:Scope}{dV kV doc pm cdv ct oc:Value}{an od:Option Addr}
  {osl:Array (Option Value)} {N ps:List Str} {sp:Sp} (lk:K.lookup f=some ⟨oc,od,.func (W.fnOf name qual params body scope dV kV doc pm an cdv ct),osl⟩) (hcd:W.codeIn K cdv qual=true) (S:FnScope N ps scope)
  (len:∀vs H Q E,sp vs H Q E->vs.length=ps.length)
  (hbody:∀(A:b6) (outer:List Env) (s:ac) (H:Hp) (vs:List V) (Q:VK) (E:XK),Room k (A.deeper (qo qual scope s.heap.objs.size f cdv))->sp vs H Q E->∃t,PSs (cxOf CX P w K mg base N qual scope f cdv A outer s H E) body t/\t {nx:=fun _ H'=>Q .non H',rt:=Q} (start N vs) H):
  FnOk P w K mg base CX (k+1) f (W.fnOf name qual params body scope dV kV doc pm an cdv ct) ps sp:=by
 refine⟨len,fun A outer s H args us vs Q E hr e0 hb r hsp=>?_⟩;have hl:=len _ _ _ _ hsp;have KX:K.In s.heap:=e0.mod.kin.keeps fun b o e=>(e0.bs b o e).1;have lim:s.heap.NoLimit:=e0.mod.nolimit.keeps fun b o e=>(e0.bs b o e).1
 have hkind:∀y∈ps.zip us,scope.names.lookup y.1=some .local\/(scope.names.lookup y.1=some .cell/\((cellsFrom (s.heap.objs.size+1) scope.names []).lookup y.1).isSome=true):=fun⟨n,v⟩ hy=>by
  rcases S.par n (i6 hy).1 with q|q
  ·exact .inl q
  ·exact .inr ⟨q,W.cellsFrom_some _ _ _ (.inl q)⟩
 refine codeAny_call_function hr.depth (KX _ _ lk) rfl S.co S.gen rfl (W.codeRec_of KX hcd) (hb _ _ _ _ ?_);refine wpAny_newFunctionEnv_cells S.kind hkind fun env he s1 x=>?_;subst he;refine⟨lim.keeps x.toInCall.keep,codeAny_func ?_⟩;obtain⟨t,ht,hq⟩:=hbody A outer s H vs Q E (hr.deeper _) hsp;have I:Inv (cxOf CX P w K mg base N qual scope f cdv A outer s H E) [] (start N vs) H s1:=zdm S hr.hd e0 hl r x;refine j7 (ht [] s1 (start N vs) H _ I hq) (fun fl s' hs=>?_) fun e s' hs=>hs;have fin:∀{σ':St} {H':Hp} {v:V} {u:Value},Inv (cxOf CX P w K mg base N qual scope f cdv A outer s H E) [] σ' H' s'->RelV v u->Q v H'->CE outer P w H s Q u s':=fun{σ' H' v u} J rv q=>⟨v,H',J.os,J.bare,J.base,J.hok,rv,q⟩;cases fl with
 |ret u=>obtain⟨v,σ',H',J,rv,q⟩:=hs;exact fin J rv q
 |next=>obtain⟨σ',H',J,q⟩:=hs;exact fin (v:=V.non) (u:=Value.none) J rfl q
 |brk=>obtain⟨_,_,_,q⟩:=hs;exact False.elim q
 |cont=>obtain⟨_,_,_,q⟩:=hs;exact False.elim q
section
variable {X:Cx}{x:Str}{p pos:Pos}{e:Expr}{es:List Expr}{t:TA}{id T:String}{r:List V->Hp->VK->Prop}
def tCB (r:List V->Hp->VK->Prop)(t:TA):TE:=fun σ H Q=>t σ H fun vs H1=>r vs H1 Q
theorem zhd (hc:CallR X (.builtin id) r)(hg:Gl X x)(hm:X.mg x=none)(hv:df x=some (.builtin id))(ha:PA X (e::es) t)(hn:x≠"__name__":=by decide)(hdb:(x==("__debug__":Str))=false:=by decide)
  (he:d3 (e::es) X.env=(false,eval e X.env)::d3 es X.env:=by rfl) (hpl:(mv pos (d3 es X.env)).any (·.1)=false:=by rfl):PE X (.Call (.Name x p) (e::es) [] pos) (tCB r t):=by
 intro pins s σ H Q I h;refine n4 (z3u I hg hm hv ?_ hn hdb);exact PyProof.Rows.callWith_builtin1 (thn (ha pos pins s σ H _ I h) fun us s1 ⟨vs,H1,I1,r1,q1⟩=>hc pins s1 σ H1 vs us Q I1 r1 q1) he hpl
theorem zcp (hc:CallR X (.type T) r)(hg:Gl X x)(hm:X.mg x=none)(hv:df x=some (.type T))(ha:PA X (e::es) t)(hn:x≠"__name__":=by decide)(hdb:(x==("__debug__":Str))=false:=by decide)
  (he:d3 (e::es) X.env=(false,eval e X.env)::d3 es X.env:=by rfl) (hpl:(mv pos (d3 es X.env)).any (·.1)=false:=by rfl):PE X (.Call (.Name x p) (e::es) [] pos) (tCB r t):=by
 intro pins s σ H Q I h;refine n4 (z3u I hg hm hv ?_ hn hdb);exact PyProof.Rows.callWith_type1 (thn (ha pos pins s σ H _ I h) fun us s1 ⟨vs,H1,I1,r1,q1⟩=>hc pins s1 σ H1 vs us Q I1 r1 q1) he hpl
end
section
variable {κ:Type} [DecidableEq κ]
def valV (kvs:List (κ×V))(k:κ):Option V:=(kvs.find? fun kv=>decide (kv.1=k)).map (·.2)
def putK (kvs:List (κ×V))(k:κ)(v:V):List (κ×V):=if(kvs.any fun kv=>decide (kv.1=k))=true then kvs.map (fun kv=>if kv.1=k then(kv.1,v)else kv)else kvs++[(k,v)]
def zru (kvs:List (κ×V))(k:κ):List (κ×V):=kvs.filter fun kv=>decide (kv.1≠k)
theorem z44 {p:κ×V}{r:List (κ×V)}{k:κ}(e:p.1=k):valV (p::r) k=some p.2:=by simp[valV,i7,e]
theorem z45 {p:κ×V}{r:List (κ×V)}{k:κ}(e:¬p.1=k):valV (p::r) k=valV r k:=by simp[valV,i7,e]
theorem za0 (k:κ):∀kvs:List (κ×V),(kvs.any fun kv=>decide (kv.1=k))=(valV kvs k).isSome
 | []=>rfl
 |p::r=>by
  rw[ij];by_cases e:p.1=k
  ·simp only[z44 e,v5 e,p7,Option.isSome_some]
  ·rw[z45 e,v6 e,Bool.false_or];exact za0 k r
theorem z2z (kvs:List (κ×V))(k:κ)(v:V):(putK kvs k v).length<=kvs.length+1:=by
 unfold putK;split
 ·rw[af];omega
 ·rw[av,br,List.length_nil];omega
theorem RelO.isSome_eq {o:Option V}{u:Option Value}(r:RelO o u):o.isSome=u.isSome:=by
 cases o with
 |none=>cases u with
  |none=>rfl
  |some _=>exact(show False from r).elim
 |some _=>cases u with
  |none=>exact(show False from r).elim
  |some _=>rfl
theorem RelO.getD {o:Option V}{u:Option Value}{d:V}{d':Value}(r:RelO o u)(rd:RelV d d'):RelV (o.getD d) (u.getD d'):=by
 cases o with
 |none=>cases u with
  |none=>exact rd
  |some _=>exact(show False from r).elim
 |some _=>cases u with
  |none=>exact(show False from r).elim
  |some _=>exact r
theorem KV.val {kvs:List (κ×V)}{vs:List (κ×Value)}(r:KV kvs vs)(k:κ):RelO (valV kvs k) (rf vs k):=by
 unfold KV at r
 induction r with
 |nil=>exact True.intro
 | @cons p q ps qs h t ih=>
  obtain⟨h1,h2⟩:=h;by_cases e:p.1=k
  ·have e':q.1=k:=h1.symm.trans e;have b:rf (q::qs) k=some q.2:=by simp[rf,i7,e']
   rw[z44 e,b];exact h2
  ·have e':¬q.1=k:=fun z=>e (h1.trans z);have b:rf (q::qs) k=rf qs k:=by simp[rf,i7,e']
   rw[z45 e,b];exact ih
theorem KV.any {kvs:List (κ×V)}{vs:List (κ×Value)}(r:KV kvs vs)(k:κ):(kvs.any fun kv=>decide (kv.1=k))=vs.any fun kv=>decide (kv.1=k):=by
 unfold KV at r
 induction r with
 |nil=>rfl
 |cons h t ih=>rw[ij,ij,ih,h.1]
theorem KV.repl {kvs:List (κ×V)}{vs:List (κ×Value)}(r:KV kvs vs)(k:κ){y:V}{u:Value}(ry:RelV y u):
  KV (kvs.map fun kv=>if kv.1=k then(kv.1,y)else kv) (vs.map fun kv=>if kv.1=k then(kv.1,u)else kv):=by
 unfold KV at r ⊢
 induction r with
 |nil=>exact .nil
 | @cons p q ps qs h t ih=>
  rw[a9,a9];refine .cons ?_ ih;obtain⟨h1,h2⟩:=h;by_cases e:p.1=k
  ·rw[if_pos e,if_pos (h1.symm.trans e)];exact⟨h1,ry⟩
  ·rw[if_neg e,if_neg (fun z=>e (h1.trans z))];exact⟨h1,h2⟩
theorem KV.put {kvs:List (κ×V)}{vs:List (κ×Value)}(r:KV kvs vs)(k:κ){y:V}{u:Value}(ry:RelV y u):KV (putK kvs k y) (stored vs k u):=by
 unfold putK stored;rw[r.any k];by_cases e:(vs.any fun kv=>decide (kv.1=k))=true
 ·rw[if_pos e,if_pos e];exact r.repl k ry
 ·rw[if_neg e,if_neg e];exact Paired.snoc r ⟨rfl,ry⟩
theorem KV.drop {kvs:List (κ×V)}{vs:List (κ×Value)}(r:KV kvs vs)(k:κ):KV (zru kvs k) (without vs k):=by
 unfold KV at r ⊢;unfold zru without
 induction r with
 |nil=>exact .nil
 | @cons p q ps qs h t ih=>
  obtain⟨h1,h2⟩:=h;rw[md,md];by_cases e:p.1=k
  ·have a:¬decide (p.1≠k)=true:=by simp[e]
   have b:¬decide (q.1≠k)=true:=by simp[h1.symm.trans e]
   rw[if_neg a,if_neg b];exact ih
  ·have e':¬q.1=k:=fun z=>e (h1.trans z);have a:decide (p.1≠k)=true:=by simp[e]
   have b:decide (q.1≠k)=true:=by simp[e']
   rw[if_pos a,if_pos b];exact .cons ⟨h1,h2⟩ ih
theorem KV.keys {kvs:List (κ×V)}{vs:List (κ×Value)}(r:KV kvs vs):kvs.map (·.1)=vs.map (·.1):=by
 unfold KV at r
 induction r with
 |nil=>rfl
 |cons h t ih=>rw[a9,a9,ih,h.1]
theorem KV.length {kvs:List (κ×V)}{vs:List (κ×Value)}(r:KV kvs vs):kvs.length=vs.length:=Paired.length r
end
theorem z8f {P:ba}{w:World}{k:Key}{u:Value}(r:RelV (kV k) u):(z10 P w).is k u=true:=by
 cases k with
 |inl i=>obtain⟨t,e⟩:=(show ∃t,u=Value.int i t from r);subst e;exact z8r P w i t
 |inr x=>obtain⟨t,e⟩:=(show ∃t,u=Value.str x t from r);subst e;exact z8z P w x t
theorem z80 {P:ba}{w:World}:∀{ks:List Key} {us:List Value},Vals (ks.map kV) us->ItemsAre (z10 P w) ks us
 | [],_,r=>by rw[ud]at r;cases r;exact .nil
 |k::ks,_,r=>by
  rw[a9]at r;cases r with
  |cons h t=>exact .cons (z8f h) (z80 t)
abbrev KT (H:Hp):List (List Key×V)->List (List Key×Addr×Value)->Prop:=lc fun p q=>p.1=q.1/\H q.2.1=some (.tup (p.1.map kV))/\RelV p.2 q.2.2
theorem KT.val {H:Hp}{kvs:List (List Key×V)}{xs:List (List Key×Addr×Value)}(r:KT H kvs xs)(k:List Key):RelO (valV kvs k) ((atKey xs k).map (·.2)):=by
 induction r with
 |nil=>exact True.intro
 | @cons p q ps qs h t ih=>
  obtain⟨h1,_,h2⟩:=h;by_cases e:p.1=k
  ·have e':q.1=k:=h1.symm.trans e;have b:atKey (q::qs) k=some q.2:=by simp[atKey,i7,e']
   rw[z44 e,b];exact h2
  ·have e':¬q.1=k:=fun z=>e (h1.trans z);have b:atKey (q::qs) k=atKey qs k:=by simp[atKey,i7,e']
   rw[z45 e,b];exact ih
theorem KT.repl {H:Hp}{kvs:List (List Key×V)}{xs:List (List Key×Addr×Value)}(r:KT H kvs xs)(k:List Key){y:V}{u:Value}(ry:RelV y u):
  KT H (kvs.map fun kv=>if kv.1=k then(kv.1,y)else kv) (xs.map (putAt k u)):=by
 induction r with
 |nil=>exact .nil
 | @cons p q ps qs h t ih=>
  rw[a9,a9];refine .cons ?_ ih;obtain⟨h1,h2,h3⟩:=h;unfold putAt;by_cases e:p.1=k
  ·rw[if_pos e,if_pos (h1.symm.trans e)];exact⟨h1,h2,ry⟩
  ·rw[if_neg e,if_neg (fun z=>e (h1.trans z))];exact⟨h1,h2,h3⟩
theorem KT.put {H:Hp}{kvs:List (List Key×V)}{xs:List (List Key×Addr×Value)}(r:KT H kvs xs)(k:List Key){b:Addr}{y:V}{u:Value}(hb:H b=some (.tup (k.map kV)))(ry:RelV y u):
  KT H (putK kvs k y) (storedH xs k b u):=by
 have e:(kvs.any fun kv=>decide (kv.1=k))=(atKey xs k).isSome:=by rw[za0,(r.val k).isSome_eq,ot]
 unfold putK storedH;rw[e];by_cases q:(atKey xs k).isSome=true
 ·rw[if_pos q,if_pos q];exact r.repl k ry
 ·rw[if_neg q,if_neg q];exact Paired.snoc r ⟨rfl,hb,ry⟩
theorem KT.keeps {H H':Hp}{kvs:List (List Key×V)}{xs:List (List Key×Addr×Value)}(r:KT H kvs xs)(ht:∀b ys,H b=some (.tup ys)->H' b=some (.tup ys)):KT H' kvs xs:=Paired.mapP r fun _ _ z=>⟨z.1,ht _ _ z.2.1,z.2.2⟩
section
variable {P:ba}{w:World}{H:Hp}{h:Heap}{a:Addr}
theorem zrl {u:HO}(ok:HOk P w H h)(e:Rd H a u):z0w P w H h a u:=e.ok ok
theorem z8g {kvs:List (Key×V)}(ok:HOk P w H h)(e:Rd H a (.dK kvs)):kvs.length<=az/\(a==jq)=false/\∃vs,KV kvs vs/\h.DictOf (z10 P w) a vs:=show z0w P w H h a (.dK kvs)from zrl ok e
theorem zq2 {kvs:List (Key×V)}(ok:HOk P w H h)(e:H a=some (.dK kvs)):kvs.length<=az/\(a==jq)=false/\∃vs,KV kvs vs/\h.DictOf (z10 P w) a vs:=z8g ok (.inl e)
theorem z5m {ks:List Key}(ok:HOk P w H h)(e:H a=some (.tup (ks.map kV))):(o9 (z10 P w)).is h ks a:=by obtain⟨_,its,r,n,h1⟩:=(show z0w P w H h a (.tup (ks.map kV))from ok a _ e);exact⟨_,its.toArray,n,h1,rfl,rfl,by simpa using z80 r⟩
theorem zbo {kvs:List (List Key×V)}(ok:HOk P w H h)(e:Rd H a (.dT kvs)):kvs.length<=az/\(a==jq)=false/\
  ∃xs,KT H kvs xs/\h.DictOfH (o9 (z10 P w)) a xs:=by
 obtain⟨z,y,xs,r,o,es,ep,h1,h2,h3,h4,h5⟩:=(show z0w P w H h a (.dT kvs)from zrl ok e);refine⟨z,y,xs,r,o,es,ep,h1,h2,h3,h4,fun x hx=>?_,h5⟩
 have all:∀{l:List (List Key×V)} {m:List (List Key×Addr×Value)},KT H l m->∀x∈m,(o9 (z10 P w)).is h x.1 x.2.1:=by
  intro l m q
  induction q with
  |nil=>intro x hx;exact nomatch hx
  | @cons p q ps qs hq t ih=>
   intro x hx;rcases aw.mp hx with e|hx
   ·subst e;exact z5m ok (by rw[<-hq.1];exact hq.2.1)
   ·exact ih x hx
 exact all r x hx
theorem ztl {kvs:List (List Key×V)}(ok:HOk P w H h)(e:H a=some (.dT kvs)):kvs.length<=az/\(a==jq)=false/\∃xs,KT H kvs xs/\h.DictOfH (o9 (z10 P w)) a xs:=zbo ok (.inl e)
end
def DGet (H:Hp)(a:Addr)(y:V)(r:Option V):Prop:=(∃kvs k,Rd H a (.dK kvs)/\y=kV k/\r=valV kvs k)\/∃kvs k b,Rd H a (.dT kvs)/\y=.ref b/\H b=some (.tup (k.map kV))/\r=valV kvs k
def DPut (H:Hp)(a:Addr)(y v:V)(H':Hp):Prop:=
 (∃kvs k,H a=some (.dK kvs)/\y=kV k/\kvs.length<az/\H'=upd H a (.dK (putK kvs k v)))\/
 ∃kvs k b,H a=some (.dT kvs)/\y=.ref b/\H b=some (.tup (k.map kV))/\kvs.length<az/\H'=upd H a (.dT (putK kvs k v))
theorem DGet.k {H:Hp}{a:Addr}{kvs:List (Key×V)}{k:Key}(e:H a=some (.dK kvs)):DGet H a (kV k) (valV kvs k):=.inl ⟨kvs,k,.inl e,rfl,rfl⟩
theorem DGet.t {H:Hp}{a b:Addr}{kvs:List (List Key×V)}{k:List Key}(e:H a=some (.dT kvs))(eb:H b=some (.tup (k.map kV))):DGet H a (.ref b) (valV kvs k):=.inr ⟨kvs,k,b,.inl e,rfl,eb,rfl⟩
theorem DPut.k {H:Hp}{a:Addr}{kvs:List (Key×V)}{k:Key}{v:V}(e:H a=some (.dK kvs))(hl:kvs.length<az):DPut H a (kV k) v (upd H a (.dK (putK kvs k v))):=.inl ⟨kvs,k,e,rfl,hl,rfl⟩
theorem DPut.t {H:Hp}{a b:Addr}{kvs:List (List Key×V)}{k:List Key}{v:V}(e:H a=some (.dT kvs))(eb:H b=some (.tup (k.map kV)))(hl:kvs.length<az): DPut H a (.ref b) v (upd H a (.dT (putK kvs k v))):=.inr ⟨kvs,k,b,e,rfl,eb,hl,rfl⟩
section
variable {X:Cx}{pins:List (Addr×Obj)}{σ:St}{H:Hp}{s:ac}{a:Addr}{y v:V}{u r:Value}{o:Option V}{A:b6}{E:Value->ac->Prop}
theorem Inv.big (I:Inv X pins σ H s):jq<s.heap.objs.size:=by have h:b8<s.heap.objs.size:=(I.mod.glob.keeps I.bk).lt;exact nq (by decide) h
theorem zel {Q:Value->ac->Prop}(hu:A.units+1<cLine)(I:Inv X pins σ H s)(g:DGet H a y (some v))(ry:RelV y u)(h:∀w' s',Inv X pins σ H s'->RelV v w'->Q w' s'):
  wpAny (model X.prog X.w) A (ue (.ref a) u) Q E s:=by
 rcases g with⟨kvs,k,e,ey,l⟩|⟨kvs,k,b,e,ey,eb,l⟩
 ·subst ey;obtain⟨z,hd,vs,rel,dd⟩:=z8g I.hok e;obtain⟨w',hw,rw'⟩:=RelO.some_of (v:=v) (o:=rf vs k) (by rw[l];exact rel.val k);exact wpAny_getItem_of (z8f ry) dd.mapOf hw (h w' _ (I.tok _) rw')
 ·subst ey;cases(show u=Value.ref b from ry);obtain⟨z,hd,xs,rel,dd⟩:=zbo I.hok e;obtain⟨w',hw,rw'⟩:=RelO.some_of (v:=v) (o:=(atKey xs k).map (·.2)) (by rw[l];exact rel.val k);obtain⟨p,hp,hp2⟩:=dz.mp hw;refine wpAny_getItem_heap (jr hu) (z5m I.hok eb) dd hp ?_;rw[hp2];exact h w' _ (I.tok _) rw'
theorem d_in {Q:Value->ac->Prop}(hu:A.units+1<cLine)(I:Inv X pins σ H s)(g:DGet H a y o)(ry:RelV y u)(h:∀s',Inv X pins σ H s'->Q (.bool o.isSome) s'):
  wpAny (model X.prog X.w) A (cq .In u (.ref a)) Q E s:=by
 rcases g with⟨kvs,k,e,ey,l⟩|⟨kvs,k,b,e,ey,eb,l⟩
 ·subst ey;obtain⟨z,hd,vs,rel,dd⟩:=z8g I.hok e;refine wpAny_in_of (z8f ry) hd dd.mapOf ?_;rw[<-(rel.val k).isSome_eq,<-l];exact h _ (I.tok _)
 ·subst ey;cases(show u=Value.ref b from ry);obtain⟨z,hd,xs,rel,dd⟩:=zbo I.hok e;refine wpAny_in_heap (jr hu) (z5m I.hok eb) hd dd ?_;have q:=(rel.val k).isSome_eq;rw[ot]at q;rw[<-q,<-l];exact h _ (I.tok _)
theorem zkh {Q:Value->ac->Prop}(hu:A.units+1<cLine)(I:Inv X pins σ H s)(g:DGet H a y o)(ry:RelV y u)(h:∀s',Inv X pins σ H s'->Q (.bool (!o.isSome)) s'):
  wpAny (model X.prog X.w) A (cq .NotIn u (.ref a)) Q E s:=by
 rcases g with⟨kvs,k,e,ey,l⟩|⟨kvs,k,b,e,ey,eb,l⟩
 ·subst ey;obtain⟨z,hd,vs,rel,dd⟩:=z8g I.hok e;refine wpAny_notIn_of (z8f ry) hd dd.mapOf ?_;rw[<-(rel.val k).isSome_eq,<-l];exact h _ (I.tok _)
 ·subst ey;cases(show u=Value.ref b from ry);obtain⟨z,hd,xs,rel,dd⟩:=zbo I.hok e;refine wpAny_notIn_heap (jr hu) (z5m I.hok eb) hd dd ?_;have q:=(rel.val k).isSome_eq;rw[ot]at q;rw[<-q,<-l];exact h _ (I.tok _)
theorem z8q {h':Heap}{t':Nat}{ob:HO}(I:Inv X pins σ H s)(mu:Mut (H a))(hs:ce a s.heap h')(he:∃q,h'.get? a=some q)(new:z0w X.prog X.w (upd H a ob) h' a ob):
  Inv X pins σ (upd H a ob) {s with heap:=h',toks:=t'}:=
 I.write (x:=a) (e:=a) mu (.inl rfl) (fun b q hb z=>(hs.2 b hb).trans z) he new
theorem zik {P:ba}{w:World}{H':Hp}{h':Heap}{kvs:List (Key×V)}{vs:List (Key×Value)}(z:kvs.length<=az)(hd:(a==jq)=false)(rel:KV kvs vs)(dd:h'.DictOf (z10 P w) a vs): z0w P w H' h' a (.dK kvs):=⟨z,hd,vs,rel,dd⟩
theorem zex {H':Hp}{Q:Unit->ac->Prop}(hu:A.units+1<cLine)(I:Inv X pins σ H s)(g:DPut H a y v H')(ry:RelV y u)(rv:RelV v r)(h:∀s',Inv X pins σ H' s'->Q () s'):
  wpAny (model X.prog X.w) A (setItem (.ref a) u r) Q E s:=by
 rcases g with⟨kvs,k,e,ey,l,eH⟩|⟨kvs,k,b,e,ey,eb,l,eH⟩
 ·subst ey eH;obtain⟨z,hd,vs,rel,dd⟩:=zq2 I.hok e;have hz:vs.length<=az:=by rw[<-rel.length];exact z
  have hl:(putK kvs k v).length<=az:=by have:=z2z kvs k v;omega
  refine wpAny_setItem_pairs (hsz:=hz) (z8f ry) dd fun h' dd' hs=>h _ ?_;have he:∃q,h'.get? a=some q:=let⟨q,_,_,hq,_⟩:=dd';⟨q,hq⟩;exact z8q I (by rw[e];exact True.intro) hs he (zik hl hd (rel.put k rv) dd')
 ·subst ey eH;cases(show u=Value.ref b from ry);obtain⟨z,hd,xs,rel,dd⟩:=ztl I.hok e;have hz:xs.length<=az:=by rw[<-Paired.length rel];exact z
  have hl:(putK kvs k v).length<=az:=by have:=z2z kvs k v;omega
  refine wpAny_setItem_heap (hsz:=hz) (jr hu) (z5m I.hok eb) dd fun h' dd' hs=>h _ ?_;obtain⟨q,es,ep,hq,h2,h3,h4,_,h5⟩:=dd';refine z8q I (by rw[e];exact True.intro) hs ⟨q,hq⟩ ⟨hl,hd,_,(rel.put k eb rv).keeps fun c ys ec=>?_,q,es,ep,hq,h2,h3,h4,h5⟩;rw[z05 (zuq ec e (fun z=>nomatch z))];exact ec
end
section
variable {X:Cx}{pins:List (Addr×Obj)}{σ:St}{H:Hp}{s:ac}{a:Addr}{kvs:List (Key×V)}{k:Key}{u:Value}{A:b6}{E:Value->ac->Prop}
theorem zw1 {Q:Value->ac->Prop}(I:Inv X pins σ H s)(e:Rd H a (.dK kvs))(h:∀t s',Inv X pins σ H s'->Q (.int kvs.length t) s'):wpAny (model X.prog X.w) A (call (.builtin "len") [.ref a]) Q E s:=by obtain⟨z,hd,vs,rel,dd⟩:=z8g I.hok e;refine call_len_dict hd dd (by rw[<-rel.length];rw[dq]at z;omega) ?_;rw[<-rel.length];exact h _ _ (I.tok _)
end
theorem z92 {X:Cx}{pins:List (Addr×Obj)}{σ:St}{H:Hp}{s:ac}{a:Addr}{y:V}{o:Option V}(I:Inv X pins σ H s)(g:DGet H a y o):s.TypeIs (.ref a) "dict":=by
 rcases g with⟨kvs,k,e,_,_⟩|⟨kvs,k,b,e,_,_,_⟩
 ·obtain⟨_,_,vs,_,dd⟩:=z8g I.hok e;exact dd.typeIs
 ·obtain⟨_,_,xs,_,dd⟩:=zbo I.hok e;exact dd.typeIs
section
variable {X:Cx}{o i e value:Expr}{pos pos' tpos:Pos}{td ty tv:TE}
end
theorem zhe {P:ba}{w:World}{H:Hp}(h:Heap)(hb:jq<h.objs.size):z0w P w H (h.push {cls:=.type "dict",data:=.dict #[]}) h.objs.size (.dK []):=⟨dj _,beq_eq_false_iff_ne.mpr (Ne.symm (b7 hb)),[],.nil,Heap.DictOf.new h⟩
section
variable {X:Cx}{pos:Pos}
end
section
variable {X:Cx}{pins:List (Addr×Obj)}{σ:St}{H:Hp}{s:ac}{a:Addr}{y d:V}{u r:Value}{o:Option V}{A:b6}{E:Value->ac->Prop}
theorem zpa {Q:Value->ac->Prop}(hu:A.units+1<cLine)(I:Inv X pins σ H s)(g:DGet H a y o)(ry:RelV y u)(rd:RelV d r)(h:∀w' s',Inv X pins σ H s'->RelV (o.getD d) w'->Q w' s'):
  wpAny (model X.prog X.w) A (call (.builtin "dict.get") [.ref a,u,r]) Q E s:=by
 rcases g with⟨kvs,k,e,ey,l⟩|⟨kvs,k,b,e,ey,eb,l⟩
 ·subst ey;obtain⟨z,hd,vs,rel,dd⟩:=z8g I.hok e;refine call_meetsIn PySem.F.slot_dict_get dd.typeIs PySem.F.entry_dict_get (PySem.F.args_dict_get_3 _ _ _) (meets_dict_get_default (z10 X.prog X.w) a (z8f ry) hd r) ⟨_,dd.mapOf,h _ _ (I.tok _) ?_⟩;rw[l];exact(rel.val k).getD rd
 ·subst ey;cases(show u=Value.ref b from ry);obtain⟨z,hd,xs,rel,dd⟩:=zbo I.hok e;refine call_meetsIn PySem.F.slot_dict_get dd.typeIs PySem.F.entry_dict_get (PySem.F.args_dict_get_3 _ _ _) (meetsH_dict_get_default (o9 (z10 X.prog X.w)) a b hd r) ⟨jr hu,k,xs,z5m I.hok eb,dd,h _ _ (I.tok _) ?_⟩;rw[l];exact(rel.val k).getD rd
end
section
variable {X:Cx}{o e f:Expr}{apos cpos:Pos}{td ty tx:TE}
end
section
variable {X:Cx}{pins:List (Addr×Obj)}{σ:St}{H:Hp}{s:ac}{a:Addr}{kvs:List (Key×V)}{A:b6}{E:Value->ac->Prop}
end
section
variable {X:Cx}{pins:List (Addr×Obj)}{σ:St}{H:Hp}{s:ac}{a:Addr}{y:V}{u:Value}{A:b6}{E:Value->ac->Prop}
end
end L2
namespace HT
open PySem PyProof.Rows
section
open PySem.SeqAt
open PySem.AutoSeq1 (wpAny_loadPart')
open PySem.MeetsSeq PySem.MeetsSeq2 PySem.MeetsSeq3
end
section
variable {prog:ba}{w:World}{A:b6}{E:Value->ac->Prop}{s:ac}
theorem cat_tup {t b:Addr}{vs ws:List Value}{Q:Value->ac->Prop}(ht:IsTup s.heap t vs.toArray)(hb:IsTup s.heap b ws.toArray)(hv:vs≠[])
  (h1:ws=[]->Q (.ref t) s) (h2:ws≠[]->Q (.ref s.heap.objs.size) {s with heap:=s.heap.push {cls:=.type "tuple",data:=.seq (vs++ws).toArray}})
  (hsz:vs.length+ws.length<=az):wpAny (model prog w) A (gf .Add (.ref t) (.ref b)) Q E s:=by
 obtain⟨⟨cls,dd,data,sl⟩,ho,hc,n,hd⟩:=id ht;obtain⟨⟨cls2,dd2,data2,sl2⟩,ho2,hc2,n2,hd2⟩:=id hb;simp only at hc hd hc2 hd2;subst hc hd hc2 hd2;have e:vs.toArray++ws.toArray=(vs++ws).toArray:=by simp
 by_cases hw:ws=[]
 ·exact p8 ⟨_,ho,rfl⟩ ⟨_,ho2,rfl⟩ pb sr PySem.F.slot_tuple_add PySem.F.entry_tuple_add (PySem.F.args_tuple_add_2 _ _) (tuple_addW1 t b vs.toArray ws.toArray n n2 dd dd2 sl sl2 (by simpa using hv) (by simp[hw])) ⟨ho,ho2,h1 hw⟩
 ·refine p8 ⟨_,ho,rfl⟩ ⟨_,ho2,rfl⟩ pb sr PySem.F.slot_tuple_add PySem.F.entry_tuple_add (PySem.F.args_tuple_add_2 _ _)
   (tuple_addW2 t b vs.toArray ws.toArray n n2 dd dd2 sl sl2 (by simpa using hv) (by simpa using hw) (by rw[ao,ao];exact hsz)) ⟨ho,ho2,?_⟩
  rw[e];exact h2 hw
def sIx (n d:Nat):Option Int->Nat
 |none=>d
 |some v=>if v<0 then(v+(n:Int)).toNat else min v.toNat n
theorem sIx_le (n d:Nat)(hd:d<=n)(o:Option Int):sIx n d o<=n:=by
 cases o with
 |none=>exact hd
 |some v=>
  show(if v<0 then(v+(n:Int)).toNat else min v.toNat n)<=n;by_cases hv:v<0
  ·rw[if_pos hv];omega
  ·rw[if_neg hv];exact Nat.min_le_right _ _
theorem zda (v:Int)(n d:Nat):(if v<0 then max (v+(n:Int)) 0 else min v (n:Int))=((sIx n d (some v):Nat):Int):=by
 show(if v<0 then max (v+(n:Int)) 0 else min v (n:Int))=(((if v<0 then(v+(n:Int)).toNat else min v.toNat n):Nat):Int);by_cases hv:v<0
 ·simp only[if_pos hv];omega
 ·simp only[if_neg hv];omega
theorem zbd (lo hi:Option Int)(n:Nat):kq lo hi 1 (n:Int)=(((sIx n 0 lo:Nat):Int),((sIx n n hi:Nat):Int)):=by
 have h1:¬((1:Int)<0):=by omega
 unfold kq;simp only[h1,if_false];refine vf ?_ ?_
 ·cases lo with
  |none=>rfl
  |some v=>exact zda v n 0
 ·cases hi with
  |none=>rfl
  |some v=>exact zda v n n
theorem zbk (i j:Nat):iz (i:Int) (j:Int) 1=j-i:=by
 unfold iz;have h1:(1:Int)>0:=by omega
 simp only[h1,if_true,Int.ediv_one];split<;>omega
theorem z5g {v:Value}{o:Option Int}{Q:Option Int->ac->Prop}(p:tu v o)(h:Q o s):wpAny (model prog w) A (Builtin.Slice.slicePartIndex v) Q E s:=by
 cases p with
 |none=>exact slicePart_none h
 |int i t=>exact slicePart_int h
theorem z3z {sl:Addr}{vl vu:Value}{lo hi:Option Int}{n:Nat}{Q:Int×Int×Nat->ac->Prop}(hs:s.heap.IsSliceOf sl vl vu .none)(pl:tu vl lo)(pu:tu vu hi)
  (h:Q (((sIx n 0 lo:Nat):Int),1,sIx n n hi-sIx n 0 lo) s):wpAny (model prog w) A (n5 (.ref sl) (pure (n:Int))) Q E s:=by
 obtain⟨os,hos,hcs,hds⟩:=id hs;unfold n5 Builtin.Slice.sliceFields;refine aa (aa (d6 hos hds (x:=vl) rfl (aa (d6 hos hds (x:=vu) rfl (aa (d6 hos hds (x:=.none) rfl (aq ?_)))))));refine aa (slicePart_none ?_);show wpAny _ _ (if((1:Int)==0)=true then _ else _) _ _ s;rw[if_neg (by decide)];refine aa (z5g pl (aa (z5g pu (aa (aq ?_)))));show wpAny _ _ (match kq lo hi 1 (n:Int)with|(lo,hi)=>pure (lo,(1:Int),iz lo hi 1)) _ _ s;rw[zbd lo hi n];show wpAny _ _ (pure (((sIx n 0 lo:Nat):Int),(1:Int),iz ((sIx n 0 lo:Nat):Int) ((sIx n n hi:Nat):Int) 1)) _ _ s;rw[zbk];exact aq h
theorem zhf (xs:Array Value)(i k:Nat):((cu k).filterMap fun(m:Nat)=>xs[((i:Int)+(m:Int)*1).toNat]?).toArray=((xs.toList.drop i).take k).toArray:=by
 have e:(fun(m:Nat)=>xs[((i:Int)+(m:Int)*1).toNat]?)=fun m=>xs[i+m]?:=by
  funext m
  have:((i:Int)+(m:Int)*1).toNat=i+m:=by omega
  rw[this]
 rw[e];have:=pick_run xs i k;rw[List.filterMap_map]at this;have e2:((fun x=>xs[x]?)∘fun x=>i+x)=fun m=>xs[i+m]?:=rfl;rw[e2]at this;rw[this]
theorem getItem_tuple_cut {t sl:Addr}{items:Array Value}{vl vu:Value}{lo hi:Option Int}{Q:Value->ac->Prop}(ht:IsTup s.heap t items)(hs:s.heap.IsSliceOf sl vl vu .none)(pl:tu vl lo)(pu:tu vu hi)
  (hw:¬(sIx items.size 0 lo=0/\sIx items.size items.size hi=items.size))
  (h:Q (.ref s.heap.objs.size) {s with heap:=s.heap.push {cls:=.type "tuple",data:=.seq ((items.toList.drop (sIx items.size 0 lo)).take (sIx items.size items.size hi-sIx items.size 0 lo)).toArray}})
  (hsz:items.size<=az):wpAny (model prog w) A (ue (.ref t) (.ref sl)) Q E s:=by
 have htake:sizeOk (.seq ((items.toList.drop (sIx items.size 0 lo)).take (sIx items.size items.size hi-sIx items.size 0 lo)).toArray):=by show((items.toList.drop (sIx items.size 0 lo)).take (sIx items.size items.size hi-sIx items.size 0 lo)).toArray.size<=az;rw[ao,eu,jl,ck];omega
 have hj:sIx items.size items.size hi<=items.size:=sIx_le _ _ (am _) hi;obtain⟨os,hos,hcs,hds⟩:=id hs;have hTs:s.TypeIs (.ref sl) "slice":=⟨os,hos,hcs⟩;unfold ue
 try with_reducible refine dn ?_
 first|refine aa (aq ?_)|skip
 refine aa (wpAny_sequenceKey ht.typeIs (by decide) ?_);refine aa (gi (name:=Str.ofString "__getitem__") ht.typeIs PyProof.Rows.slot_tuple_getitem (e8 PyProof.Rows.slot_tuple_getitem ht.typeIs entry_tuple_getitem ?_ (args_tuple_getitem _ _)));show wpAny _ _ (Builtin.Tuple.tupleItemsOf (.ref t)>>=_) _ _ s;refine aa (tupleItemsOf_ ht ?_);refine aa (lv hTs ?_);rw[if_pos (by decide)];refine aa (z3z hs pl pu ?_);have hno:¬((((sIx items.size 0 lo:Nat):Int)==0&&(1:Int)==1&&(sIx items.size items.size hi-sIx items.size 0 lo)==items.size)=true):=by intro q;rw[ax,ax]at q;have q1:((sIx items.size 0 lo:Nat):Int)=0:=eq_of_beq q.1.1;have q2:sIx items.size items.size hi-sIx items.size 0 lo=items.size:=eq_of_beq q.2;exact hw ⟨by omega,by omega⟩
 show wpAny _ _ (if(((sIx items.size 0 lo:Nat):Int)==0&&(1:Int)==1&&(sIx items.size items.size hi-sIx items.size 0 lo)==items.size)=true then _ else _) _ _ s;rw[if_neg hno,zhf]
 first
  |exact aa (m:=jg _) (jz (aq ⟨_,rfl,aq h⟩) htake)
  |exact aa (m:=jg _) (jz (aa (aq (aq ⟨_,rfl,aq h⟩))) htake)
  |exact aa (aa (m:=jg _) (jz (aq (aq ⟨_,rfl,aq h⟩)) htake))
  |exact aa (aa (m:=jg _) (jz (aq ⟨_,rfl,aq h⟩) htake))
end
end HT
namespace L2
open PySem PySem.Spec PyProof.Rows
abbrev TO:=St->Hp->(Option Int->Hp->Prop)->Prop
def PO (X:Cx)(e:Option Expr)(t:TO):Prop:=∀(pins:List (Addr×Obj)) (s:ac) (σ:St) (H:Hp) (Q:Option Int->Hp->Prop),Inv X pins σ H s->t σ H Q->wpAny (model X.prog X.w) X.A (evalPart e X.env) (fun u s'=>∃o H',Inv X pins σ H' s'/\tu u o/\Q o H') X.xe s
def zk0:TO:=fun _ H Q=>Q none H
def zu0 (t:TE):TO:=fun σ H Q=>t σ H fun x H1=>∃i,x=.int i/\Q (some i) H1
theorem intsAre_of {ns:List Int}:∀{us:List Value},Vals (ns.map V.int) us->rh us ns:=by
 induction ns with
 |nil=>intro us r;rw[ud]at r;cases r;exact .nil
 |cons n ns ih=>
  intro us r;rw[a9]at r;cases r with
  |cons r1 r2=>obtain⟨t,e⟩:=r1;subst e;exact .cons n t (ih r2)
section
variable {X:Cx}{e:Expr}{te:TE}{lo hi:Option Expr}{tl th:TO}{pos p2:Pos}
theorem zk4:PO X none zk0:=by intro pins s σ H Q I h;rw[evalPart_none];exact aq ⟨none,H,I,.none,h⟩
theorem zkm (h:PE X e te):PO X (some e) (zu0 te):=by intro pins s σ H Q I hw;rw[evalPart_some];refine thn (h pins s σ H _ I hw) fun u s1 ⟨x,H1,I1,r1,q1⟩=>?_;obtain⟨i,rfl,q⟩:=q1;obtain⟨t,rfl⟩:=r1;exact⟨some i,H1,I1,.int i t,q⟩
def SlR (X:Cx)(r:V->Option Int->Option Int->Hp->VK->Prop):Prop:=∀(pins:List (Addr×Obj)) (s:ac) (σ:St) (H:Hp) (x:V) (v vl vu:Value) (lo hi:Option Int) (sl:Addr) (Q:VK),Inv X pins σ H s->RelV x v->s.heap.IsSliceOf sl vl vu .none->tu vl lo->tu vu hi->r x lo hi H Q->∃T id,tw (.type T) "__getitem__"=pure (some (.builtin id))/\s.TypeIs v T/\wpAny (model X.prog X.w) X.A (ue v (.ref sl)) (EP X pins σ Q) X.xe s
theorem SlR.or {r r':V->Option Int->Option Int->Hp->VK->Prop}(h:SlR X r)(h':SlR X r'):SlR X (fun x lo hi H Q=>r x lo hi H Q\/r' x lo hi H Q):=by
 intro pins s σ H x v vl vu lo hi sl Q I rx hs pl pu q;rcases q with q|q
 ·exact h pins s σ H x v vl vu lo hi sl Q I rx hs pl pu q
 ·exact h' pins s σ H x v vl vu lo hi sl Q I rx hs pl pu q
def tSl (r:V->Option Int->Option Int->Hp->VK->Prop)(te:TE)(tl th:TO):TE:=fun σ H Q=>te σ H fun x H1=>tl σ H1 fun l H2=>th σ H2 fun u H3=>r x l u H3 Q
theorem zhk {r:V->Option Int->Option Int->Hp->VK->Prop}(hr:SlR X r)(he:PE X e te)(hl:PO X lo tl)(hu:PO X hi th):PE X (.Subscript e (.Slice lo hi none p2) pos) (tSl r te tl th):=by intro pins s σ H Q I h;refine Subscript_ (thn (he pins s σ H _ I h) fun v s1 ⟨x,H1,I1,r1,q1⟩=>?_);refine wpAny_Slice (thn (hl pins s1 σ H1 _ I1 q1) fun vl s2 ⟨l,H2,I2,pl,q2⟩=>thn (hu pins s2 σ H2 _ I2 q2) fun vu s3 ⟨u,H3,I3,pu,q3⟩=>?_);rw[evalPart_none];refine aq ?_;have I4:Inv X pins σ H3 {s3 with heap:=s3.heap.push {cls:=.type "slice",data:=.fields #[vl,vu,.none]}}:=I3.kept (t':=s3.toks) fun b ob q=>ae _ q;obtain⟨T,id,hT,ht,hg⟩:=hr pins {s3 with heap:=s3.heap.push {cls:=.type "slice",data:=.fields #[vl,vu,.none]}} σ H3 x v vl vu l u s3.heap.objs.size Q I4 r1 (Heap.IsSliceOf.new ..) pl pu q3;show wpAny (model X.prog X.w) X.A (subscriptTail e (.Slice lo hi none p2) v (.ref s3.heap.objs.size)) (EP X pins σ Q) X.xe {s3 with heap:=s3.heap.push {cls:=.type "slice",data:=.fields #[vl,vu,.none]}};exact tail_any (ops:=[.ref s3.heap.objs.size,v]) ht hT hg (by with_unfolding_all rfl)
def cutV (xs:List V)(lo hi:Option Int):List V:=(xs.drop (HT.sIx xs.length 0 lo)).take (HT.sIx xs.length xs.length hi-HT.sIx xs.length 0 lo)
theorem z4z (xs:List V)(lo hi:Option Int):(cutV xs lo hi).length<=xs.length:=by unfold cutV;rw[eu,jl];omega
def rSlT (K:W.Frag):V->Option Int->Option Int->Hp->VK->Prop:=fun x lo hi H Q=>∃a xs,x=.ref a/\SqT K H a xs/\¬(HT.sIx xs.length 0 lo=0/\HT.sIx xs.length xs.length hi=xs.length)/\∀p,H p=none->Q (.ref p) (upd H p (.tup (cutV xs lo hi)))
theorem zrd:SlR X (rSlT X.K):=by
 intro pins s σ H x v vl vu lo hi sl Q I rx hs pl pu h;obtain⟨a,xs,rfl,hx,hw,q⟩:=h;cases rx;obtain⟨its,r,ht,hz⟩:=I.tuple hx;have hlen:its.toArray.size=xs.length:=by rw[ao];exact r.length.symm
 refine⟨"tuple",_,PyProof.Rows.slot_tuple_getitem.lookup,ht.typeIs,?_⟩;refine HT.getItem_tuple_cut ht hs pl pu (by rw[hlen];exact hw) ?_ (by rw[hlen];exact hz);rw[hlen];refine⟨.ref s.heap.objs.size,_,I.laid (t':=s.toks) (o:=.tup (cutV xs lo hi)) (fun b ob q=>ae _ q) (am _) ?_,rfl,q _ (I.hok.fresh (am _))⟩;exact⟨bx (z4z xs lo hi) hz,_,(r.drop (HT.sIx xs.length 0 lo)).take (HT.sIx xs.length xs.length hi-HT.sIx xs.length 0 lo),TupN.new _ _⟩
def zrx (K:W.Frag):R2:=fun x y H Q=>∃a b xs ys,x=.ref a/\y=.ref b/\SqT K H a xs/\SqT K H b ys/\xs≠ []/\xs.length+ys.length<=az/\(ys=[]->Q (.ref a) H)/\(ys≠[]->∀p,H p=none->Q (.ref p) (upd H p (.tup (xs++ys))))
theorem Vals.nil_iff {xs:List V}{us:List Value}(r:Vals xs us):us=[]↔xs=[]:=by
 cases r with
 |nil=>simp
 |cons _ _=>simp
theorem zlh:OpR X (gf .Add) (zrx X.K):=by intro pins s σ H x y v u Q I rx ry h;obtain⟨a,b,xs,ys,rfl,rfl,ha,hb,hx,hz,q1,q2⟩:=h;cases rx;cases ry;obtain⟨its,r1,p1,_⟩:=I.tuple ha;obtain⟨its2,r2,p2,_⟩:=I.tuple hb;refine HT.cat_tup p1 p2 (fun z=>hx (r1.nil_iff.mp z)) (fun z=>⟨.ref a,H,I,rfl,q1 (r2.nil_iff.mp z)⟩) (fun z=>?_) (by rw[<-r1.length,<-r2.length];exact hz);refine⟨.ref s.heap.objs.size,_,I.laid (t':=s.toks) (o:=.tup (xs++ys)) (fun b ob q=>ae _ q) (am _) ?_,rfl,q2 (fun w=>z (r2.nil_iff.mpr w)) _ (I.hok.fresh (am _))⟩;exact⟨by rw[av];exact hz,_,r1.append r2,TupN.new _ _⟩
end
def ixN (n:Nat)(i:Int):Option Nat:=if 0<=i then(if i<n then some i.toNat else none)else if -(n:Int)<=i then some (i+n).toNat else none
def atI {α:Type}(xs:List α)(i:Int):Option α:=(ixN xs.length i).bind fun j=>xs[j]?
theorem zcy {n:Nat}{i:Int}{j:Nat}(h:ixN n i=some j):uw i n=some j/\j<n/\-(n:Int)<=i/\i<n:=by
 unfold ixN at h;by_cases h0:0<=i
 ·rw[if_pos h0]at h;by_cases h1:i<n
  ·rw[if_pos h1]at h;have e:i.toNat=j:=Option.some.inj h;exact⟨by rw[uz h0 h1,e],by omega,by omega,h1⟩
  ·rw[if_neg h1]at h;cases h
 ·rw[if_neg h0]at h;by_cases h1:-(n:Int)<=i
  ·rw[if_pos h1]at h;have e:(i+n).toNat=j:=Option.some.inj h;exact⟨by rw[uf (by omega) h1,e],by omega,h1,by omega⟩
  ·rw[if_neg h1]at h;cases h
theorem z94 {α:Type}{xs:List α}{i:Int}{v:α}(h:atI xs i=some v):∃j,uw i xs.length=some j/\xs[j]?=some v/\j<xs.length/\-(xs.length:Int)<=i/\i<xs.length:=by
 unfold atI at h;cases e:ixN xs.length i with
 |none=>rw[e]at h;cases h
 |some j=>rw[e]at h;obtain⟨h1,h2,h3,h4⟩:=zcy e;exact⟨j,h1,h,h2,h3,h4⟩
def zd7 (b:Expr):Prop:=∀o i,subscripted b false o i=operate [o,i] (ue o i)
def IxR (X:Cx)(r:R2):Prop:=∀(value slice:Expr) (pins:List (Addr×Obj)) (s:ac) (σ:St) (H:Hp) (x y:V) (v u:Value) (Q:VK),Inv X pins σ H s->RelV x v->RelV y u->r x y H Q->subscripted slice false v u=operate [v,u] (ue v u)->wpAny (model X.prog X.w) X.A (subscriptTail value slice v u) (EP X pins σ Q) X.xe s
def MtR (X:Cx)(id:String)(r:V->List V->Hp->VK->Prop):Prop:=∀(pins:List (Addr×Obj)) (s:ac) (σ:St) (H:Hp) (x:V) (xs:List V) (v:Value) (us:List Value) (Q:VK),Inv X pins σ H s->RelV x v->Vals xs us->r x xs H Q->wpAny (model X.prog X.w) X.A (call (.builtin id) (v::us)) (EP X pins σ Q) X.xe s
section
variable {X:Cx}{a b:Expr}{ta tb:TE}{pos:Pos}
theorem IxR.or {r r':R2}(h:IxR X r)(h':IxR X r'):IxR X (fun x y H Q=>r x y H Q\/r' x y H Q):=by
 intro value slice pins s σ H x y v u Q I rx ry q hs;rcases q with q|q
 ·exact h value slice pins s σ H x y v u Q I rx ry q hs
 ·exact h' value slice pins s σ H x y v u Q I rx ry q hs
theorem MtR.or {id:String}{r r':V->List V->Hp->VK->Prop}(h:MtR X id r)(h':MtR X id r'):MtR X id (fun x xs H Q=>r x xs H Q\/r' x xs H Q):=by
 intro pins s σ H x xs v us Q I rx rs q;rcases q with q|q
 ·exact h pins s σ H x xs v us Q I rx rs q
 ·exact h' pins s σ H x xs v us Q I rx rs q
theorem zsj {r:R2}(hr:IxR X r)(ha:PE X a ta)(hb:PE X b tb)(hs:zd7 b):PE X (.Subscript a b pos) (tOp r ta tb):=by intro pins s σ H Q I h;exact Subscript_ (binT ha hb I h fun v u s2 x y H2 I2 rx ry q=>hr a b pins s2 σ H2 x y v u Q I2 rx ry q (hs _ _))
def rIxL (K:W.Frag):R2:=fun x y H Q=>∃p xs i v,x=.ref p/\y=.int i/\SqL K H p xs/\atI xs i=some v/\Q v H
def rIxT (K:W.Frag):R2:=fun x y H Q=>∃p xs i v,x=.ref p/\y=.int i/\SqT K H p xs/\atI xs i=some v/\Q v H
def rIxS:R2:=fun x y H Q=>∃z i c,x=.str z/\y=.int i/\z.length<=az/\atI z.cps.toList i=some c/\Q (.str ⟨#[c]⟩) H
theorem zmn:IxR X (rIxL X.K):=by
 intro value slice pins s σ H x y v u Q I rx ry h hs;obtain⟨p,xs,i,z,rfl,rfl,hq,he,q⟩:=h;cases rx;obtain⟨t,rfl⟩:=ry;obtain⟨its,r,pl,hz⟩:=I.list hq;obtain⟨j,h1,h2,h3,h4,h5⟩:=z94 he;obtain⟨w,ew,rw'⟩:=r.get h2;have hl:=r.length;have hn:=z51;have fin:EP X pins σ Q w s:=⟨z,H,I,rw',q⟩;by_cases h0:0<=i
 ·have hj:i.toNat=j:=by
   rw[uz h0 h5]at h1;exact Option.some.inj h1
  exact item_listR pl.isList h0 (by omega) (by rw[hj];simpa using ew) fin hs
 ·have hj:(i+(its.toArray.size:Int)).toNat=j:=by
   rw[uf (by omega) h4]at h1;rw[ao,<-hl];exact Option.some.inj h1
  exact p9 (x:=w) pl.isList.typeIs slot_list_getitem.lookup (wpAny_getItem_list_neg (Q:=fun r s'=>r=w/\EP X pins σ Q r s') pl.isList (by omega) (by rw[ao]<;>omega) (by omega) (by rw[hj];simpa using ew) ⟨rfl,fin⟩) hs
theorem znv:IxR X (rIxT X.K):=by intro value slice pins s σ H x y v u Q I rx ry h hs;obtain⟨p,xs,i,z,rfl,rfl,hq,he,q⟩:=h;cases rx;obtain⟨t,rfl⟩:=ry;obtain⟨its,r,pl,hz⟩:=I.tuple hq;obtain⟨j,h1,h2,h3,h4,h5⟩:=z94 he;obtain⟨w,ew,rw'⟩:=r.get h2;have hl:=r.length;have hn:=z51;have fin:EP X pins σ Q w s:=⟨z,H,I,rw',q⟩;exact p9 (x:=w) pl.typeIs slot_tuple_getitem.lookup (getItem_tuple (j:=j) (Q:=fun r s'=>r=w/\EP X pins σ Q r s') pl (by omega) (by omega) (by rw[ao,<-hl];exact h1) (by simpa using ew) ⟨rfl,fin⟩) hs
theorem z9g:IxR X rIxS:=by
 intro value slice pins s σ H x y v u Q I rx ry h hs;obtain⟨z,i,c,rfl,rfl,hz,he,q⟩:=h;obtain⟨t,rfl⟩:=rx;obtain⟨t',rfl⟩:=ry;obtain⟨j,h1,h2,h3,h4,h5⟩:=z94 he;have hl:z.cps.toList.length=z.length:=by simp[Str.length]
 rw[hl]at h1 h4 h5;have hn:=z51;exact tail_any (vg s z t) slot_str_getitem.lookup (getItem_str (c:=c) (by have e1:decide (i< -(2 ^ 63:Int))=false:=v6 (by omega);have e2:decide (i ≥ 2 ^ 63)=false:=v6 (by omega);rw[e1,e2,ox]) (by rw[h1];simpa using h2) ⟨.str ⟨#[c]⟩,H,I.tok _,⟨_,rfl⟩,q⟩) hs
def rIx (K:W.Frag):R2:=fun x y H Q=>rIxL K x y H Q\/rIxT K x y H Q\/rIxS x y H Q
theorem zov:IxR X (rIx X.K):=zmn.or (znv.or z9g)
theorem zb2 (its:List Value)(n j:Nat)(u:Value):Obj.mapSeq (·.setIfInBounds j u) {cls:=.type "list",data:=.seq its.toArray n}={cls:=.type "list",data:=.seq (its.set j u).toArray n}:=by simp[Obj.mapSeq]
theorem Inv.lst {pins:List (Addr×Obj)}{σ:St}{H:Hp}{s:ac}{p:Addr}{xs:List V}(I:Inv X pins σ H s)(h:H p=some (.lst xs)):
  ∃(its:List Value) (n:Nat),Vals xs its/\s.heap.get? p=some {cls:=.type "list",data:=.seq its.toArray n}/\xs.length<=az:=by
 obtain⟨z,its,n,r,e⟩:=I.hok p _ h;exact⟨its,n,r,e,z⟩
theorem Inv.lstUpd {pins:List (Addr×Obj)}{σ:St}{H:Hp}{s:ac}{p:Addr}{xs ys:List V}{its its':List Value}{n n':Nat}{f:Obj->Obj}(I:Inv X pins σ H s)(h:H p=some (.lst xs))
  (ho:s.heap.get? p=some {cls:=.type "list",data:=.seq its.toArray n}) (hf:f {cls:=.type "list",data:=.seq its.toArray n}={cls:=.type "list",data:=.seq its'.toArray n'}) (r:Vals ys its') (hz:ys.length<=az) (t:Nat):
  Inv X pins σ (upd H p (.lst ys)) {s with heap:=s.heap.update p f,toks:=t}:=by
 have e:(s.heap.update p f).get? p=some {cls:=.type "list",data:=.seq its'.toArray n'}:=by rw[f9 f ho (by rw[hf]<;>rfl),hf]
 refine I.write (x:=p) (e:=p) (by rw[h];trivial) (.inl rfl) (fun b u hb q=>(g8 _ _ (Ne.symm hb)).trans q) ⟨_,e⟩ ?_;exact⟨hz,its',n',r,e⟩
def zqa:V->V->V->Hp->(Hp->Prop)->Prop:=fun o i v H Q=>∃p xs k j,o=.ref p/\i=.int k/\H p=some (.lst xs)/\ixN xs.length k=some j/\Q (upd H p (.lst (xs.set j v)))
theorem set_list:PSet X zqa:=by
 intro pins s σ H o i v ov iv u Q I ro ri rv h;obtain⟨p,xs,k,j,rfl,rfl,hp,hj,q⟩:=h;cases ro;obtain⟨t,rfl⟩:=ri;obtain⟨its,n,r,ho,hz⟩:=I.lst hp;obtain⟨h1,h2,h3,h4⟩:=zcy hj;have hl:=r.length;have hn:=z51;have I':Inv X pins σ (upd H p (.lst (xs.set j v))) {s with heap:=s.heap.update p (Obj.mapSeq (·.setIfInBounds j u))}:=I.lstUpd hp ho (zb2 its n j u) (r.set rv j) (by rw[f8];exact hz) s.toks;by_cases h0:0<=k
 ·have hk:k.toNat=j:=by
   rw[uz h0 h4]at h1;exact Option.some.inj h1
  exact W.ki_setAt ho h0 (by omega) (by rw[ao,<-hl];exact h4) (by rw[hk];exact⟨_,I',q⟩)
 ·have hk:(k+(its.toArray.size:Int)).toNat=j:=by
   rw[uf (by omega) h3]at h1;rw[ao,<-hl];exact Option.some.inj h1
  exact W.ki_setBack ho (by omega) (by rw[ao,<-hl];exact h3) (by omega) (by rw[hk];exact⟨_,I',q⟩)
theorem z85 (lo hi:Option Int)(n:Nat):(i9 lo hi none n).1=((HT.sIx n 0 lo:Nat):Int)/\(i9 lo hi none n).2.1=((HT.sIx n n hi:Nat):Int)/\(i9 lo hi none n).2.2=1:=by
 refine⟨?_,?_,rfl⟩
 ·cases lo with
  |none=>simp[i9,HT.sIx]
  |some i=>
   simp only[i9,HT.sIx,Option.getD_none,show(1:Int)>0 by decide,if_true];by_cases h:i<0
   ·simp only[h,if_true]<;>omega
   ·simp only[h,if_false]<;>omega
 ·cases hi with
  |none=>simp[i9,HT.sIx]
  |some i=>
   simp only[i9,HT.sIx,Option.getD_none,show(1:Int)>0 by decide,if_true];by_cases h:i<0
   ·simp only[h,if_true]<;>omega
   ·simp only[h,if_false]<;>omega
theorem z5w (its:List Value)(lo hi:Option Int):slicePick its.toArray lo hi none=((its.drop (HT.sIx its.length 0 lo)).take (HT.sIx its.length its.length hi-HT.sIx its.length 0 lo)).toArray:=by obtain⟨h1,h2,h3⟩:=z85 lo hi its.toArray.size;unfold slicePick;rw[h1,h2,h3];simp only[qp,pick_run,ao]<;>rfl
def rSlL (K:W.Frag):V->Option Int->Option Int->Hp->VK->Prop:=fun x lo hi H Q=>∃a xs,x=.ref a/\SqL K H a xs/\∀p,H p=none->Q (.ref p) (upd H p (.lst (cutV xs lo hi)))
theorem zno:SlR X (rSlL X.K):=by intro pins s σ H x v vl vu lo hi sl Q I rx hs pl pu h;obtain⟨a,xs,rfl,hx,q⟩:=h;cases rx;obtain⟨its,r,ht,hz⟩:=I.list hx;have hlen:=r.length;refine⟨"list",_,slot_list_getitem.lookup,ht.isList.typeIs,?_⟩;refine wpAny_getItem_list_slice ht.isList hs pl pu .none (by simp) ?_ (by rw[ao]<;>omega);rw[z5w,<-hlen];refine⟨.ref s.heap.objs.size,_,I.laid (t':=s.toks) (o:=.lst (cutV xs lo hi)) (fun b ob q=>ae _ q) (am _) ?_,rfl,q _ (I.hok.fresh (am _))⟩;exact⟨bx (z4z xs lo hi) hz,_,0,(r.drop (HT.sIx xs.length 0 lo)).take (HT.sIx xs.length xs.length hi-HT.sIx xs.length 0 lo),a8 _ rfl⟩
def z88:V->Bool
 |.non=>true
 |.bl _=>true
 |.int _=>true
 |.str _=>true
 |_=>false
def eqV:V->V->Bool
 |.non,.non=>true
 |.bl a,.bl b=>a==b
 |.bl a,.int b=>(if a then 1 else 0)==b
 |.int a,.bl b=>a==(if b then 1 else 0)
 |.int a,.int b=>a==b
 |.str a,.str b=>a==b
 |_,_=>false
theorem zr2 {A:b6}{s:ac}{y x:V}{u v:Value}(ry:RelV y u)(rx:RelV x v)(fy:z88 y=true)(fx:z88 x=true):SeqAt.EqAt A s u v (eqV y x):=by
 cases y with
 |non=>
  cases ry;cases x with
  |non=>cases rx;exact SeqAt.EqAt.same _
  |bl b=>cases rx;exact SeqAt.EqAt.none_bool b
  |int b=>obtain⟨t,rfl⟩:=rx;exact SeqAt.EqAt.none_int b t
  |str b=>obtain⟨t,rfl⟩:=rx;exact SeqAt.EqAt.none_str b t
  |_=>exact absurd (show false=true from fx) bu
 |bl a=>
  cases ry;cases x with
  |non=>cases rx;exact SeqAt.EqAt.bool_none a
  |bl b=>cases rx;exact SeqAt.EqAt.bool_bool a b
  |int b=>obtain⟨t,rfl⟩:=rx;exact SeqAt.EqAt.bool_int a b t
  |str b=>obtain⟨t,rfl⟩:=rx;exact SeqAt.EqAt.bool_str a b t
  |_=>exact absurd (show false=true from fx) bu
 |int a=>
  obtain⟨t',rfl⟩:=ry;cases x with
  |non=>cases rx;exact SeqAt.EqAt.int_none a t'
  |bl b=>cases rx;exact SeqAt.EqAt.int_bool a t' b
  |int b=>obtain⟨t,rfl⟩:=rx;exact SeqAt.EqAt.int_int a t' b t
  |str b=>obtain⟨t,rfl⟩:=rx;exact SeqAt.EqAt.int_str a t' b t
  |_=>exact absurd (show false=true from fx) bu
 |str a=>
  obtain⟨t',rfl⟩:=ry;cases x with
  |non=>cases rx;exact SeqAt.EqAt.str_none a t'
  |bl b=>cases rx;exact SeqAt.EqAt.str_bool a t' b
  |int b=>obtain⟨t,rfl⟩:=rx;exact SeqAt.EqAt.str_int a t' b t
  |str b=>obtain⟨t,rfl⟩:=rx;exact SeqAt.EqAt.str_str a t' b t
  |_=>exact absurd (show false=true from fx) bu
 |_=>exact absurd (show false=true from fy) bu
def eqU (x:V)(u:Value):Bool:=match u with
 |.none=>eqV .non x
 |.bool b=>eqV (.bl b) x
 |.int i _=>eqV (.int i) x
 |.str z _=>eqV (.str z) x
 |_=>false
theorem zil {x y:V}{u:Value}(r:RelV y u)(f:z88 y=true):eqU x u=eqV y x:=by
 cases y with
 |non=>cases r;rfl
 |bl b=>cases r;rfl
 |int i=>obtain⟨t,rfl⟩:=r;rfl
 |str z=>obtain⟨t,rfl⟩:=r;rfl
 |_=>exact absurd (show false=true from f) bu
theorem z4o {x:V}:∀{xs:List V} {us:List Value},Vals xs us->xs.all z88=true->us.any (eqU x)=xs.any fun y=>eqV y x
 |_,_,.nil,_=>rfl
 |y::xs,u::us,.cons r t,f=>by rw[dw,ax]at f;rw[ij,ij,zil r f.1,z4o t f.2]
theorem z3k {A:b6}{s:ac}{x:V}{v:Value}(rx:RelV x v)(fx:z88 x=true):∀{xs:List V} {us:List Value},Vals xs us->xs.all z88=true->∀u∈us,SeqAt.EqAt A s u v (eqU x u)
 |_,_,.nil,_=>fun u hu=>by cases hu
 |y::xs,u::us,.cons r t,f=>fun u' hu=>by
  rw[dw,ax]at f;rcases aw.mp hu with rfl|hu
  ·rw[zil r f.1];exact zr2 r rx f.1 fx
  ·exact z3k rx fx t f.2 u' hu
def inV (x:V)(xs:List V):Bool:=xs.any fun y=>eqV y x
def rIn (K:W.Frag)(neg:Bool):R2:=fun x y H Q=>∃p xs,y=.ref p/\(SqL K H p xs\/SqT K H p xs)/\z88 x=true/\xs.all z88=true/\Q (.bl (if neg then !inV x xs else inV x xs)) H
theorem ze1:OpR X (cq .In) (rIn X.K false):=by
 intro pins s σ H x y v u Q I rx ry h;obtain⟨p,xs,rfl,hq,fx,fs,q⟩:=h;cases ry;rcases hq with hq|hq
 ·obtain⟨its,r,pl,hz⟩:=I.list hq;refine SeqAt.in_listAt (eqU x) pl.isList (fun w hw=>z3k rx fx r fs w (by simpa using hw)) ⟨.bl _,H,I,rfl,?_⟩;rw[show its.toArray.any (eqU x)=its.any (eqU x) by simp,z4o r fs];exact q
 ·obtain⟨its,r,pl,hz⟩:=I.tuple hq;refine SeqAt.in_tupleAt (eqU x) pl (fun w hw=>z3k rx fx r fs w (by simpa using hw)) ⟨.bl _,H,I,rfl,?_⟩;rw[show its.toArray.any (eqU x)=its.any (eqU x) by simp,z4o r fs];exact q
theorem z7y:OpR X (cq .NotIn) (rIn X.K true):=by
 intro pins s σ H x y v u Q I rx ry h;obtain⟨p,xs,rfl,hq,fx,fs,q⟩:=h;cases ry;rcases hq with hq|hq
 ·obtain⟨its,r,pl,hz⟩:=I.list hq;refine SeqAt.notIn_listAt (eqU x) pl.isList (fun w hw=>z3k rx fx r fs w (by simpa using hw)) ⟨.bl _,H,I,rfl,?_⟩;rw[show its.toArray.any (eqU x)=its.any (eqU x) by simp,z4o r fs];exact q
 ·obtain⟨its,r,pl,hz⟩:=I.tuple hq;refine SeqAt.notIn_tupleAt (eqU x) pl (fun w hw=>z3k rx fx r fs w (by simpa using hw)) ⟨.bl _,H,I,rfl,?_⟩;rw[show its.toArray.any (eqU x)=its.any (eqU x) by simp,z4o r fs];exact q
theorem z7h:OpR X (cq .NotIn) (fun x y H Q=>∃i j,x=.str i/\y=.str j/\Q (.bl (!(!(du j i 0 j.length 1).isEmpty))) H):=by intro pins s σ H x y v u Q I rx ry h;obtain⟨i,j,rfl,rfl,q⟩:=h;obtain⟨t,rfl⟩:=rx;obtain⟨t',rfl⟩:=ry;exact notIn_str ⟨.bl _,H,I,rfl,q⟩
theorem z6s:CallR X (.builtin "len") (fun xs H Q=>∃p ys,xs=[.ref p]/\(SqL X.K H p ys\/SqT X.K H p ys)/\Q (.int ys.length) H):=by
 intro pins s σ H xs us Q I r h;obtain⟨p,ys,rfl,hq,q⟩:=h;obtain⟨u,rfl,rx⟩:=vals1 r;cases rx;have hn:=z51;rcases hq with hq|hq
 ·obtain⟨its,r',pl,hz⟩:=I.list hq;have hlen:=r'.length;exact Calls.call_len_list pl.isList (by simp only[ao]<;>omega) ⟨.int ys.length,H,I.tok _,⟨s.toks+1,by rw[ao,hlen]⟩,q⟩
 ·obtain⟨its,r',pl,hz⟩:=I.tuple hq;have hlen:=r'.length;exact len_tuple pl (by simp only[ao]<;>omega) ⟨.int ys.length,H,I.tok _,⟨s.toks+1,by rw[ao,hlen]⟩,q⟩
theorem z6y:CallR X (.builtin "len") (fun xs H Q=>∃z,xs=[.str z]/\z.length<=az/\Q (.int z.length) H):=by intro pins s σ H xs us Q I r h;obtain⟨z,rfl,hz,q⟩:=h;obtain⟨u,rfl,t,rfl⟩:=vals1 r;have hn:=z51;exact len_str (by omega) ⟨.int z.length,H,I.tok _,⟨_,rfl⟩,q⟩
theorem CallR.or {f:Value}{r r':List V->Hp->VK->Prop}(h:CallR X f r)(h':CallR X f r'):CallR X f (fun xs H Q=>r xs H Q\/r' xs H Q):=by
 intro pins s σ H xs us Q I rs q;rcases q with q|q
 ·exact h pins s σ H xs us Q I rs q
 ·exact h' pins s σ H xs us Q I rs q
theorem z72:CallR X (.type "list") (fun xs H Q=>∃p ys,xs=[.ref p]/\(SqL X.K H p ys\/SqT X.K H p ys)/\∀l,H l=none->Q (.ref l) (upd H l (.lst ys))):=by
 intro pins s σ H xs us Q I r h;obtain⟨p,ys,rfl,hq,q⟩:=h;obtain⟨u,rfl,rx⟩:=vals1 r;cases rx
 have fin:∀(its:List Value),Vals ys its->ys.length<=az->∀(h':Heap) (c':Nat),(∀b o',s.heap.get? b=some o'->h'.get? b=some o')->
   h'.get? s.heap.objs.size=some {cls:=.type "list",dict:=none,data:=.seq its.toArray c',slots:=#[]}->EP X pins σ Q (.ref s.heap.objs.size) {s with heap:=h'}:=fun its r' hz h' c' kp e=>
  ⟨.ref s.heap.objs.size,_,I.laid (t':=s.toks) kp (am _) (show z0w X.prog X.w _ h' _ (.lst ys)from⟨hz,its,c',r',e⟩),rfl,q _ (I.hok.fresh (am _))⟩
 rcases hq with hq|hq
 ·obtain⟨its,r',pl,hz⟩:=I.list hq;have hlen:=r'.length;obtain⟨o,ho,hc,n,hd⟩:=pl.isList;exact call_list_seq p (.inl rfl) ho hc hd (fun h' c' kp e=>fin its r' hz h' c' kp e) (by simp only[ao]<;>omega)
 ·obtain⟨its,r',pl,hz⟩:=I.tuple hq;have hlen:=r'.length;obtain⟨o,ho,hc,n,hd⟩:=pl;exact call_list_seq p (.inr rfl) ho hc hd (fun h' c' kp e=>fin its r' hz h' c' kp e) (by simp only[ao]<;>omega)
theorem z6k:CallR X (.type "tuple") (fun xs H Q=>∃p ys,xs=[.ref p]/\((SqL X.K H p ys/\∀l,H l=none->Q (.ref l) (upd H l (.tup ys)))\/(SqT X.K H p ys/\Q (.ref p) H))):=by
 intro pins s σ H xs us Q I r h;obtain⟨p,ys,rfl,h⟩:=h;obtain⟨u,rfl,rx⟩:=vals1 r;cases rx;rcases h with⟨hq,q⟩|⟨hq,q⟩
 ·obtain⟨its,r',pl,hz⟩:=I.list hq;have hlen:=r'.length;refine call_tuple_list pl.isList (fun h' kp=>?_) (by simp only[ao]<;>omega);have I1:Inv X pins σ H {s with heap:=h'}:=I.kept (t':=s.toks) kp;have I2:Inv X pins σ (upd H h'.objs.size (.tup ys)) {s with heap:=h'.push {cls:=.type "tuple",data:=.seq its.toArray}}:=I1.laid (t':=s.toks) (fun b o e=>ae _ e) (am _) (show z0w X.prog X.w _ _ _ (.tup ys)from⟨hz,its,r',TupN.new _ _⟩);exact⟨.ref h'.objs.size,_,I2,rfl,q _ (I1.hok.fresh (am _))⟩
 ·obtain⟨its,r',pl,hz⟩:=I.tuple hq;exact call_tuple_same pl ⟨.ref p,H,I,rfl,q⟩
def tyV (K:W.Frag)(T:String)(x:V)(H:Hp):Prop:=match x with
 |.str _=>T="str"
 |.int _=>T="int"
 |.ref p=>(T="list"/\∃xs,SqL K H p xs)\/(T="tuple"/\∃o,K.lookup p=some o/\o.cls=.type "tuple"/\o.dict=none)\/(T="dict"/\((∃kvs,H p=some (.dK kvs))\/∃kvs,H p=some (.dT kvs)))\/(T="set"/\∃S n,H p=some (.set S n))
 |_=>False
theorem zqx {pins:List (Addr×Obj)}{σ:St}{H:Hp}{s:ac}{T:String}{x:V}{v:Value}(I:Inv X pins σ H s)(r:RelV x v)(ty:tyV X.K T x H):
  s.TypeIs v T/\∀a,v=.ref a->∃ob,s.heap.get? a=some ob/\ob.dict=none:=by
 cases x with
 |str z=>obtain⟨t,rfl⟩:=r;cases(show T="str"from ty);exact⟨vg s z t,fun _ e=>nomatch e⟩
 |int i=>obtain⟨t,rfl⟩:=r;cases(show T="int"from ty);exact⟨vh s i t,fun _ e=>nomatch e⟩
 |ref p=>
  cases r;rcases ty with⟨rfl,xs,hq⟩|⟨rfl,o,hk,hc,hd⟩|⟨rfl,hk⟩|⟨rfl,S,n,hk⟩
  ·obtain⟨its,_,pl,_⟩:=I.list hq;refine⟨pl.isList.typeIs,fun a e=>?_⟩;cases e;obtain⟨o,n,e,c,hd,_⟩:=pl;exact⟨o,e,hd⟩
  ·refine⟨⟨o,I.kIn p o hk,hc⟩,fun a e=>?_⟩;cases e;exact⟨o,I.kIn _ o hk,hd⟩
  ·have z:∃o,s.heap.get? p=some o/\o.ExactDict:=by
    rcases hk with⟨kvs,hk⟩|⟨kvs,hk⟩
    ·obtain⟨_,_,_,_,o,_,_,e,ex,_⟩:=I.hok p _ hk;exact⟨o,e,ex⟩
    ·obtain⟨_,_,_,_,o,_,_,e,ex,_⟩:=I.hok p _ hk;exact⟨o,e,ex⟩
   obtain⟨o,e,ex⟩:=z;refine⟨⟨o,e,ex.1⟩,fun a e2=>?_⟩;cases e2;exact⟨o,e,ex.2.1⟩
  ·obtain⟨o,_,_,_,e,ex,_⟩:=I.hok p _ hk;refine⟨⟨o,e,ex.1⟩,fun a e2=>?_⟩;cases e2;exact⟨o,e,ex.2.1⟩
 |_=>exact False.elim ty
def tBM (K:W.Frag)(T:String)(r:V->List V->Hp->VK->Prop)(to:TE)(t:TA):TE:=fun σ H Q=>to σ H fun x H1=>tyV K T x H1/\t σ H1 fun xs H2=>r x xs H2 Q
variable {o e:Expr}{es:List Expr}{to:TE}{t:TA}{name:Str}{apos cpos:Pos}{T id:String}{r:V->List V->Hp->VK->Prop}
theorem zc2 (pa:PlainAttrs T)(slot:Slot T name id)(hty:vm (.builtin id)=pure (.type "method_descriptor"))(hm:MtR X id r)(ho:PE X o to)(ha:PA X (e::es) t)
  (hbase:su o name X.env (eval o X.env)=eval o X.env:=by rfl)
  (hfew:((mv cpos (d3 (e::es) X.env)).all (fun x=> !x.1)&&(backToKw cpos (uy [] X.env)).all (fun x=>x.1.isSome)
   &&decide ((e::es).length+([]:List p6).length+(if([]:List p6).isEmpty then 0 else 1)<30))=true:=by rfl)
  (hline:(apos.endLine==cpos.line)=true:=by rfl) (hs:d3 (e::es) X.env=(false,eval e X.env)::d3 es X.env:=by rfl) (hplain:(mv cpos (d3 es X.env)).any (·.1)=false:=by rfl):
  PE X (.Call (.Attribute o name apos) (e::es) [] cpos) (tBM X.K T r to t):=by
 intro pins s σ H Q I h;refine wpAny_Call_method_late hbase hfew hline rfl (thn (ho pins s σ H _ I h) fun v s1 ⟨x,H1,I1,r1,ty,q1⟩=>?_);obtain⟨h1,h2⟩:=zqx I1 r1 ty;refine⟨T,id,pa,slot,hty,h1,h2,?_⟩;have hA:=ha cpos pins s1 σ H1 _ I1 q1;rw[hs]at hA ⊢;refine Calls.callWith_builtin (by show(false||(mv cpos (d3 es X.env)).any (·.1))=false;rw[hplain]<;>rfl) (Calls.evalArgs_plain ?_);exact thn hA fun us s2 ⟨vs,H2,I2,r2,q2⟩=>hm pins s2 σ H2 x vs v us Q I2 r1 r2 q2
end
def MtM (X:Cx)(id:String)(r:V->List V->Hp->VK->Prop):Prop:=∀(pins:List (Addr×Obj)) (s:ac) (σ:St) (H:Hp) (x:V) (xs:List V) (v:Value) (us:List Value) (Q:VK),Inv X pins σ H s->RelV x v->Vals xs us->r x xs H Q->wpAny (model X.prog X.w) X.A (call (.builtin id) (v::us)) (EP X pins σ Q) X.xe s
theorem Vals.one {x:V}{us:List Value}(h:Vals [x] us):∃u,us=[u]/\RelV x u:=by
 cases h with
 |cons r h=>cases h;exact⟨_,rfl,r⟩
theorem Vals.two {x y:V}{us:List Value}(h:Vals [x,y] us):∃u v,us=[u,v]/\RelV x u/\RelV y v:=by
 cases h with
 |cons r h=>cases h with
  |cons q h=>cases h;exact⟨_,_,rfl,r,q⟩
theorem Vals.zero:∀{us:List Value},Vals [] us->us=[]
 |_,.nil=>rfl
theorem Vals.dropLast {xs:List V}{us:List Value}(h:Vals xs us):Vals xs.dropLast us.dropLast:=by
 induction h with
 |nil=>exact .nil
 |cons r t ih=>
  cases t with
  |nil=>exact .nil
  |cons q t'=>exact .cons r ih
theorem Vals.eraseIdx:∀{xs:List V} {us:List Value} (i:Nat),Vals xs us->Vals (xs.eraseIdx i) (us.eraseIdx i)
 |_,_,_,.nil=>.nil
 |_,_,0,.cons _ t=>t
 |_,_,i+1,.cons r t=>.cons r (Vals.eraseIdx i t)
theorem Vals.reverse {xs:List V}{us:List Value}(h:Vals xs us):Vals xs.reverse us.reverse:=by
 induction h with
 |nil=>exact .nil
 |cons r t ih=>rw[ja,ja];exact Vals.append ih (.cons r .nil)
theorem Vals.rep {xs:List V}{us:List Value}(h:Vals xs us):∀k:Nat,Vals (bv k xs).flatten (bv k us).flatten
 |0=>.nil
 |k+1=>by rw[dt,dt,d7,d7];exact Vals.append h (Vals.rep h k)
theorem z73 {α:Type}:∀(l:List α) (i:Nat),(l.eraseIdx i).length<=l.length
 | [],_=>am _
 |_::_,0=>u0 _
 |_::r,i+1=>Nat.succ_le_succ (z73 r i)
theorem foldl_rep (its:List Value):∀(k:Nat) (acc:List Value),
  vn (fun x1 x2=>x1++x2) acc.toArray (bv k its.toArray)=(acc++(bv k its).flatten).toArray
 |0,acc=>by simp
 |k+1,acc=>by
  have e:acc.toArray++its.toArray=(acc++its).toArray:=by simp
  have e2:(acc++its)++(bv k its).flatten=acc++(bv (k+1) its).flatten:=by rw[dt,d7,j4]
  rw[<-e2,<-foldl_rep its k (acc++its),<-e,dt,qf]
section
variable {X:Cx}{pins:List (Addr×Obj)}{σ:St}{H:Hp}{s:ac}{l b:Addr}{xs ys zs:List V}
theorem Inv.lset {its its':List Value}{n:Nat}{f:Array Value->Array Value}{t':Nat}(I:Inv X pins σ H s)(hH:H l=some (.lst xs))
  (e:s.heap.get? l=some {cls:=.type "list",data:=.seq its.toArray n}) (hf:f its.toArray=its'.toArray) (hv:Vals ys its') (hz:ys.length<=az):
  Inv X pins σ (upd H l (.lst ys)) {s with heap:=s.heap.update l (Obj.mapSeq f),toks:=t'}:=by
 have q:=PySem.IsL.update e f;rw[hf]at q;refine I.write (x:=l) (e:=l) (by rw[hH];exact trivial) (.inl rfl) (fun b' u hb hu=>(g8 s.heap (Obj.mapSeq f) (Ne.symm hb)).trans hu) ⟨_,q⟩ ?_;exact⟨hz,its',_,hv,q⟩
theorem Inv.lnew {its:List Value}{t':Nat}(I:Inv X pins σ H s)(hv:Vals ys its)(hz:ys.length<=az):
  Inv X pins σ (upd H s.heap.objs.size (.lst ys)) {s with heap:=s.heap.push {cls:=.type "list",data:=.seq its.toArray},toks:=t'}:=
 I.laid (fun _ _ q=>ae _ q) (am _) ⟨hz,its,0,hv,a8 _ rfl⟩
theorem Inv.fresh (I:Inv X pins σ H s):H s.heap.objs.size=none:=I.hok.fresh (am _)
theorem Inv.lstM (I:Inv X pins σ H s)(hH:H l=some (.lst xs)):xs.length<=az/\∃(its:List Value) (n:Nat),Vals xs its/\xs.length=its.length/\s.heap.get? l=some {cls:=.type "list",data:=.seq its.toArray n}:=by obtain⟨z,its,n,r,e⟩:=I.hok l _ hH;exact⟨z,its,n,r,r.length,e⟩
theorem zi5 {n:Nat}(h:n<=az):jh n=false:=by unfold jh;exact v6 (by omega)
end
section
variable {X:Cx}
def zmq:V->List V->Hp->VK->Prop:=fun x vs H Q=>∃l xs y,x=.ref l/\vs=[y]/\H l=some (.lst xs)/\xs.length<az/\Q .non (upd H l (.lst (xs++[y])))
theorem z4j:MtM X "list.append" zmq:=by intro pins s σ H x vs v us Q I rx rv h;obtain⟨l,xs,y,rfl,rfl,hH,hz,q⟩:=h;cases rx;obtain⟨u,rfl,ru⟩:=rv.one;obtain⟨z,its,n,r,hl,e⟩:=I.lstM hH;refine n6 F.slot_list_append ⟨_,e,rfl⟩ F.entry_list_append (F.args_list_append_2 _ _) (PySem.list_append l its.toArray n u (by rw[ao];omega)) ⟨e,?_⟩;refine⟨.non,_,I.lset (its':=its++[u]) hH e (by simp) (r.append (.cons ru .nil)) ?_,rfl,q⟩;rw[av,l4];omega
def znz:V->List V->Hp->VK->Prop:=fun x vs H Q=>∃l xs i k y,x=.ref l/\vs=[.int i]/\H l=some (.lst xs)/\-(2 ^ 63)<=i/\i<2 ^ 63/\uw i xs.length=some k/\xs[k]?=some y/\Q y (upd H l (.lst (xs.eraseIdx k)))
theorem zhq:MtM X "list.pop" znz:=by
 intro pins s σ H x vs v us Q I rx rv h;obtain⟨l,xs,i,k,y,rfl,rfl,hH,h1,h2,hk,hy,q⟩:=h;cases rx;obtain⟨u,rfl,ru⟩:=rv.one;obtain⟨t,rfl⟩:=ru;obtain⟨z,its,n,r,hl,e⟩:=I.lstM hH;obtain⟨w,hw,rw'⟩:=r.get hy;refine n6 F.slot_list_pop ⟨_,e,rfl⟩ F.entry_list_pop (F.args_list_pop_2 _ _) (MeetsSeq.list_pop_at l its.toArray n i t k w (qr h1 h2) (by rw[ao,<-hl];exact hk) (by rw[<-l5];exact hw) (by rw[ao];omega)) ⟨e,?_⟩;refine⟨y,_,I.lset (its':=its.eraseIdx k) hH e ?_ (r.eraseIdx k) ?_,rw',q⟩
 ·show its.toArray.eraseIdxIfInBounds k=(its.eraseIdx k).toArray;rw[List.eraseIdxIfInBounds_toArray]
 ·have :=z73 xs k;omega
def rCat:R2:=fun x y H Q=>∃l b xs zs,x=.ref l/\y=.ref b/\H l=some (.lst xs)/\H b=some (.lst zs)/\xs.length+zs.length<=az/\∀p,H p=none->Q (.ref p) (upd H p (.lst (xs++zs)))
theorem zpo:OpR X (gf .Add) rCat:=by
 intro pins s σ H x y v u Q I rx ry h;obtain⟨l,b,xs,zs,rfl,rfl,hH,hB,hz,q⟩:=h;cases rx;cases ry;obtain⟨z,its,n,r,hl,e⟩:=I.lstM hH;obtain⟨z2,its2,n2,r2,hl2,e2⟩:=I.lstM hB;refine PySem.P.add_list e e2 ?_ (by rw[ao,ao];omega);have ea:its.toArray++its2.toArray=(its++its2).toArray:=by simp
 rw[ea];exact⟨.ref _,_,I.lnew (t':=s.toks) (r.append r2) (by rw[av];omega),rfl,q _ I.fresh⟩
def rRep:R2:=fun x y H Q=>∃l k xs,x=.ref l/\y=.int k/\H l=some (.lst xs)/\ -(2 ^ 63)<=k/\k<2 ^ 63/\xs.length*k.toNat<=az/\∀p,H p=none->Q (.ref p) (upd H p (.lst (bv k.toNat xs).flatten))
theorem len_rep {α:Type}(xs:List α)(k:Nat):(bv k xs).flatten.length=k*xs.length:=by
 induction k with
 |zero=>simp
 |succ k ih=>rw[dt,d7,av,ih,Nat.succ_mul,Nat.add_comm]
theorem zr4:OpR X (gf .Mult) rRep:=by
 intro pins s σ H x y v u Q I rx ry h;obtain⟨l,k,xs,rfl,rfl,hH,h1,h2,hz,q⟩:=h;cases rx;obtain⟨t,rfl⟩:=ry;obtain⟨z,its,n,r,hl,e⟩:=I.lstM hH;have hlen:its.toArray.size*k.toNat<=az:=by rw[ao,<-hl];exact hz
 have hcap:¬its.toArray.size*k.toNat>(2 ^ 63-1)/8:=by
  have:(az:Nat)<=(2 ^ 63-1)/8:=by decide
  omega
 have hfit:¬(!Builtin.List.listFitsIndex k)=true:=by rw[qr h1 h2];exact bu
 have hlong:¬jh (its.toArray.size*k.toNat)=true:=by rw[zi5 hlen];exact bu
 have hnew:vn (fun x1 x2=>x1++x2) #[] (bv (if its.toArray.isEmpty=true then 0 else k.toNat) its.toArray)=(bv k.toNat its).flatten.toArray:=by
  have f0:∀m:Nat,vn (fun x1 x2=>x1++x2) #[] (bv m its.toArray)=(bv m its).flatten.toArray:=fun m=>by have:=foldl_rep its m [];rw[List.nil_append]at this;exact this
  rw[f0];cases its with
  |nil=>simp
  |cons a r'=>rw[if_neg (by simp)]
 refine wpAny_binaryOp_repeat_ref (T:="list") (U:="int") (by decide) ⟨_,e,rfl⟩ (fun s'=>vh s' k t) noFill_list_mul F.fills_int_mul F.slot_int_rmul repeat_list F.slot_int_index.lookup
  (n6 F.slot_int_rmul (vh s k t) F.entry_int_rmul (F.args_int_rmul_2 _ _) (int___rmul___int_list k t l its.toArray n)
   ⟨e,rfl,⟨_,e,rfl⟩,n6 F.slot_list_mul ⟨_,e,rfl⟩ F.entry_list_mul (F.args_list_mul_2 _ _) (AutoListH.list___mul___list_int_3 l its.toArray n k t hfit hcap hlong) ⟨e,?_⟩⟩)
 rw[hnew];exact⟨.ref _,_,I.lnew (t':=s.toks) (r.rep k.toNat) (by rw[len_rep,Nat.mul_comm];exact hz),rfl,q _ I.fresh⟩
end
section
variable {prog:ba}{w:World}{A:b6}{E:Value->ac->Prop}{s:ac}
end
section
variable {X:Cx}
end
end L2
namespace Att
open PySem PySem.W PySem.Calls PyProof.Rows
theorem z4f {P:gy}{h:Heap}:∀(ns:List Int) (vs:List Value),WellAll P h vs (ns.map WData.int)->rh vs ns:=by
 intro ns
 induction ns with
 |nil=>intro vs w;rw[ud]at w;cases w;exact .nil
 |cons n ns ih=>
  intro vs w;rw[a9]at w;cases w with
  |cons a b=>cases a;exact .cons _ _ (ih _ b)
theorem zf7 {l:OpenLaw}{n:Nat}(hn:l.most=some n){P:gy}{h:Heap}{args:List WData}{vals:List Value}
  (hpre:l.row.toRowW.claim.pre args=true) (hwl:WellAll P h vals args):
  ∃a vs ns,vals=[Value.ref a]/\args=[WData.list (ns.map WData.int)]/\h.get? a=some {cls:=.type "list",data:=.seq vs.toArray}/\rh vs ns/\ns.length<=n:=by
 have hsh:WShape.hasAll [] args [.list .int]=true:=(pre_splitW hpre).1;have hc:l.pre.holds [] {args:=args}=true:=(pre_splitW hpre).2;obtain⟨d,r,rfl,h1,h2⟩:=hasAllW_cons hsh;obtain rfl:=hasAllW_nil h2;obtain⟨xs,rfl,h3⟩:=hasW_list h1;obtain⟨ns,rfl⟩:=items_int h3
 have hlen:ns.length<=n:=by
  unfold OpenLaw.pre at hc;have h4:(WTm.not (.lt (.lit (.int (n:Int))) (.len (.arg 0)))).holds [] {args:=[.list (ns.map .int)]}=true:=by have h4:=(holds_andW hc).1;rw[hn]at h4;exact h4
  have h5:=condW_of h4 (w_not (w_lt w_lit (w_len_list (w_arg rfl))));rw[af]at h5;refine pc fun q=>?_;have q':(n:Int)<((ns.length:Nat):Int):=by omega
  first
   |(rw[v5 q']at h5;exact absurd h5 (by decide))
   |(simp at h5;omega)
 cases hwl with
 |cons w1 w2=>
  cases w2;cases w1 with
  |list ho hall=>exact⟨_,_,ns,rfl,rfl,ho,z4f ns _ hall,hlen⟩
theorem zc1 (l:OpenLaw)(args:List WData):l.row.toRowW.claim.post args (.bool true) args=true:=
 postW_of (r:=l.row.toRowW) (X:=(true==true))
  (show WShape.has [] (.bool true) .bool=true by first|rfl|decide|simp[WShape.has,WShape.arms,WShape.armsAll])
  (show(WTm.eq .res (.lit (.bool true))).value [] {args:=args,res:=some (.bool true),after:=args}=some (.bool (true==true))from w_eq_bool (w_res rfl) w_lit) rfl
theorem attach_call {l:OpenLaw}{n:Nat}{q:ba}{loose:List Str}{XP:(Str->Option Value)->Heap->Prop}{YP:World->Heap->Prop}{d:vw}
  (hn:l.most=some n) (hdf:d.params.defaults=[])
  (call:∀(w:World) (s₀ s₁:ac) (mg mb:Str->Option Value) (fa:Addr) (o:Obj) (pm cd doc:Value) (a:Addr) (vs:List Value) (ns:List Int),
   Ground q loose [] XP w s₀ mg mb s₁.heap->YP w s₁.heap->
   s₁.heap.get? fa=some o->o.data=.func (docDef d.name d.params d.body d.scope pm cd doc)->s₁.heap.CodeRec cd d.name->mg d.name=some (.ref fa)->
   s₁.heap.get? a=some {cls:=.type "list",data:=.seq vs.toArray}->rh vs ns->ns.length<=n->s₁.gens=#[]->
   mh (model l.prog w) rq (.call (.ref fa) ⟨[.ref a],[]⟩) (fun r s'=>r=.ok (.ret (.bool true))/\OldK s₁.heap s'.heap/\s'.os=s₁.os/\nk s'.gens) s₁):
  WalkO q loose XP YP l.row.toRowW d [] (fun f vs=>PySem.call f vs):=by
 intro w s₀ s₁ mg mb G Y fa o pm cd doc dV kV ho hd hcd hD hmg hg args vals as hpre hlay hrd hwl hlo;obtain rfl:dV=.none:=Dflts.none hD hdf;obtain rfl:kV=.none:=Dflts.noKw hD;obtain⟨a,vs,ns,rfl,rfl,hobj,hints,hlen⟩:=zf7 hn hpre hwl;refine enter_call (uc (call w s₀ s₁ mg mb fa o pm cd doc a vs ns G Y ho (fd_plain hd) hcd hmg hobj hints hlen hg) fun r s' hq=>?_);obtain⟨rfl,h2,h3,h4⟩:=hq;exact⟨.inl ⟨.bool true,.bool true,[],rfl,fun _=>rfl,.bool true,zc1 l _,fun _=>⟨List.Pairwise.nil,fun _ hm=>(nomatch hm)⟩⟩,h2,h3,h4⟩
section
variable {prog:ba}{w:World}{A:b6}{E:Value->ac->Prop}{s:ac}{K:Frag}
end
end Att
namespace L2
open PySem PySem.Spec PyProof.Rows
theorem z7r:∀{vs:List Value} {ns:List Int},rh vs ns->Vals (ns.map V.int) vs
 |_,_,.nil=>.nil
 |_,_,.cons n t h=>.cons ⟨t,rfl⟩ (z7r h)
def Only (H:Hp):Prop:=∀b,H b=none\/∃o xs,H b=some (.frz o (.lst xs))
theorem zhy {P:ba}{w:World}{K:W.Frag}{mg mb:Str->Option Value}{CX:CXT}{k:Nat}{fa a:Addr}{fd:fj}{x:Str}{sp:Sp}{s₁:ac}{vs:List Value}{ns:List Int}
  (KX:K.In s₁.heap) (hns:s₁.heap.Ns b8 mg) (hb:s₁.heap.Ns vb mb) (hbb:∀x:Str,x≠"__name__"->mb x=df x) (hlim:s₁.heap.NoLimit) (hg:s₁.gens=#[])
  (ha:s₁.heap.get? a=some {cls:=.type "list",data:=.seq vs.toArray}) (hi:rh vs ns) (hl:ns.length<=az) (hr:Room k rq)
  (F:∀base:Heap,K.In base->base.Ns b8 mg->FnOk P w K mg base CX k fa fd [x] sp) (hbind:∀(s:ac) (u:Value),q9 s fd ⟨[u],[]⟩ [(x,u)])
  (hsp:∀H:Hp,Only H->SqL K H a (ns.map V.int)->sp [.ref a] H (fun v _=>v=.bl true) fun _ _ _=>False)
  (hCX:∀H e s',CX [] H s₁ (fun _ _ _=>False) e s'->False):
  mh (model P w) rq (.call (.ref fa) ⟨[.ref a],[]⟩) (fun r s'=>r=.ok (.ret (.bool true))/\OldK s₁.heap s'.heap/\s'.os=s₁.os/\nk s'.gens) s₁:=by
 have rv:=z7r hi;have lenV:=hi.length
 have core:∀H:Hp,Only H->SqL K H a (ns.map V.int)->HOk P w H s₁.heap->(∀b,H b≠none->b=a)->(H a≠none->K.lookup a=none)->
   mh (model P w) rq (.call (.ref fa) ⟨[.ref a],[]⟩) (fun r s'=>r=.ok (.ret (.bool true))/\OldK s₁.heap s'.heap/\s'.os=s₁.os/\nk s'.gens) s₁:=by
  intro H hO hS hok hA hK;have z4g:∀{b:Addr} {o:Obj},s₁.heap.get? b=some o->H b=none->(hidT s₁.heap H).get? b=some o:=fun e n=>zgt e n
  have noA:∀{b:Addr} {o:Obj} {es:Array DictEntry} {ep:Nat},s₁.heap.get? b=some o->o.data=.dict es ep->H b=none:=fun{b o es ep} e d=>by
   cases q:H b with
   |none=>rfl
   |some u=>have e':b=a:=hA b (by rw[q];simp);subst e';rw[ha]at e;cases e;have d':Data.seq vs.toArray _=Data.dict es ep:=d;cases d'
  have nsK:∀{b:Addr} {m:Str->Option Value},s₁.heap.Ns b m->(hidT s₁.heap H).Ns b m:=fun{b m} ⟨o,es,ep,e,d,r⟩=>⟨o,es,ep,z4g e (noA e d),d,r⟩
  have hKb:K.In (hidT s₁.heap H):=fun b o e=>z4g (KX b o e) (by
   cases q:H b with
   |none=>rfl
   |some u=>have e':b=a:=hA b (by rw[q];simp);subst e';rw[hK (by rw[q];simp)]at e;cases e)
  have hM:Mod K mg (hidT s₁.heap H):=⟨hKb,nsK hns,⟨mb,nsK hb,hbb⟩,let⟨mc,h1,h2⟩:=hlim;⟨mc,nsK h1,h2⟩⟩;have e0:Env0 P w K mg (hidT s₁.heap H) rq [] s₁ H:=⟨rfl,hM,fun b o e=>zmm e,pz (zdx _ _),trivial,fun b hb=>absurd (show b∈([]:List Addr)from hb) (by simp),hok,.of_eq hg⟩;refine uc ((F _ hKb (nsK hns)).run rq [] s₁ H ⟨[.ref a],[]⟩ [.ref a] [.ref a] _ _ hr e0 (hbind s₁ (.ref a)) (.cons rfl .nil) (hsp H hO hS)) fun r s' h=>?_;cases r with
  |error e=>exact(hCX H e s' h).elim
  |ok fl=>
   cases fl with
   |next=>exact False.elim h
   |brk=>exact False.elim h
   |cont=>exact False.elim h
   |ret u=>
    obtain⟨v,H',os,bare,un,hok',r',q⟩:=h;have q':v=.bl true:=q;subst q';obtain rfl:u=Value.bool true:=r';refine⟨rfl,OldK.of_keep fun b o e=>?_,os,bare⟩;cases q:H b with
    |none=>exact un.keep b o e q (by intro z;exact absurd (show b∈([]:List Addr)from z) (by simp)) (by simp)
    |some u=>
     rcases hO b with z|⟨ob,xs,z⟩
     ·rw[q]at z;cases z
     ·have z2:=un.frzs b ob _ z;obtain⟨e1,_⟩:=hok b _ z;obtain⟨e2,_⟩:=hok' b _ z2;rw[e]at e1;cases e1;exact e2
 cases hk:K.lookup a with
 |some o=>have e:=KX a o hk;rw[ha]at e;cases e;refine core (fun _=>none) (fun _=>.inl rfl) (.inr ⟨_,vs.toArray,_,hk,rfl,rfl,rfl,by rw[ao,lenV];exact hl,by simpa using rv⟩) (fun b u z=>by have z':(none:Option HO)=some u:=z;cases z') (fun b z=>absurd rfl z) fun z=>absurd rfl z
 |none=>
  refine core (fun b=>if b=a then some (.frz {cls:=.type "list",data:=.seq vs.toArray} (.lst (ns.map V.int)))else none) (fun b=>?_) (.inl (.inr ⟨{cls:=.type "list",data:=.seq vs.toArray},if_pos rfl⟩)) (fun b u z=>?_) (fun b z=>?_) fun _=>hk
  ·by_cases hb:b=a
   ·exact .inr ⟨_,_,if_pos hb⟩
   ·exact .inl (if_neg hb)
  ·by_cases hb:b=a
   ·have z':=(if_pos hb).symm.trans z;cases z';subst hb;exact⟨ha,by rw[af];exact hl,vs,_,rv,ha⟩
   ·have z':=(if_neg hb).symm.trans z;cases z'
  ·by_cases hb:b=a
   ·exact hb
   ·exact absurd (if_neg hb) z
theorem walk_of {l:W.OpenLaw}{n k:Nat}{q:ba}{loose:List Str}{XP:(Str->Option Value)->Heap->Prop}{YP:World->Heap->Prop}{d:vw}{K:gy->W.Frag}{CX:World->CXT}{sp:World->Sp}{x:Str}
  (hn:l.most=some n) (hn2:n<=az) (hdf:d.params.defaults=[]) (hr:Room k rq)
  (hY:∀(w:World) (h:Heap),YP w h->(K w.params).In h)
  (F:∀(w:World) (mg:Str->Option Value) (fa:Addr) (h:Heap),(K w.params).In h->h.Ns b8 mg->mg d.name=some (.ref fa)->∃fd:fj,(∀(s:ac) (u:Value),q9 s fd ⟨[u],[]⟩ [(x,u)])/\∀base:Heap,(K w.params).In base->base.Ns b8 mg->FnOk l.prog w (K w.params) mg base (CX w) k fa fd [x] (sp w))
  (hsp:∀(w:World) (H:Hp) (a:Addr) (ns:List Int),ns.length<=n->Only H->SqL (K w.params) H a (ns.map V.int)->sp w [.ref a] H (fun v _=>v=.bl true) fun _ _ _=>False)
  (hCX:∀(w:World) (H:Hp) (s:ac) (e:Value) (s':ac),CX w [] H s (fun _ _ _=>False) e s'->False):
  W.WalkO q loose XP YP l.row.toRowW d [] (fun f vs=>PySem.call f vs):=by
 refine Att.attach_call hn hdf fun w s₀ s₁ mg mb fa o pm cd doc a vs ns G Y ho hd hcd hmg hobj hints hlen hg=>?_;have KX:=hY w _ Y;obtain⟨fd,hb,hF⟩:=F w mg fa _ KX G.T.g hmg;exact zhy KX G.T.g G.T.b G.T.builtins G.T.nolimit hg hobj hints (bx hlen hn2) hr hF hb (fun H hO hS=>hsp w H a ns hlen hO hS) fun H e s'=>hCX w H s₁ e s'
def z1v (s:Stmt):Arguments:=match s with
 |.FunctionDef _ a _ _ _ _ _ _ _ _=>a
 |_=>{posonlyargs:=[],args:=[],vararg:=none,kwonlyargs:=[],kw_defaults:=[],kwarg:=none,defaults:=[]}
def z14 (s:Stmt):List Stmt:=match s with
 |.FunctionDef _ _ b _ _ _ _ _ _ _=>b
 |_=>[]
def z0i (s:Stmt):Scope:=match s with
 |.FunctionDef _ _ _ _ _ _ sc _ _ _=>sc
 |_=>{kind:=.function,names:=[],isGenerator:=false,isCoroutine:=false}
abbrev CX0:CXT:=fun _ _ _ _ _ _=>False
abbrev E0:XK:=fun _ _ _=>False
theorem zvo {X:Cx}:zce CX0 X E0:=fun _ _ _ _ _ _ _ h=>h.elim
structure Fun (K:W.Frag)(x qual:Str)(st:Stmt)(f:Addr)(fd:fj):Prop where
 ex:∃(oc:Value) (od:Option Addr) (kV doc pm:Value) (an:Option Addr) (cdv ct:Value) (osl:Array (Option Value)),fd=W.fnOf x qual (z1v st) (z14 st) (z0i st) .none kV doc pm an cdv ct/\K.lookup f=some ⟨oc,od,.func fd,osl⟩/\W.codeIn K cdv qual=true
 kp:W.keepIn K (.ref f)=true
section
variable {P:ba}{w:World}{K:W.Frag}{mg:Str->Option Value}{base:Heap}
theorem Fun.ok {x qual:Str}{st:Stmt}{f:Addr}{fd:fj}{N ps:List Str}{k:Nat}{sp:Sp}(F:Fun K x qual st f fd)(S:FnScope N ps (z0i st))(len:∀vs H Q E,sp vs H Q E->vs.length=ps.length)
  (hbody:∀(cdv:Value) (A:b6) (outer:List Env) (s:ac) (H:Hp) (vs:List V) (Q:VK) (E:XK),Room k (A.deeper (qo qual (z0i st) s.heap.objs.size f cdv))->sp vs H Q E->∃t,PSs (cxOf CX0 P w K mg base N qual (z0i st) f cdv A outer s H E).nox (z14 st) t/\t {nx:=fun _ H'=>Q .non H',rt:=Q} (start N vs) H):FnOk P w K mg base CX0 (k+1) f fd ps sp:=by
 obtain⟨oc,od,kV,doc,pm,an,cdv,ct,osl,rfl,lk,hcd⟩:=F.ex;refine zs6 lk hcd S len fun A outer s H vs Q E hr hsp=>?_;obtain⟨t,h,q⟩:=hbody cdv A outer s H vs Q E hr hsp;exact⟨t,h.nox,q⟩
theorem Fun.binds {x qual:Str}{st:Stmt}{f:Addr}{fd:fj}{ps:List Str}(F:Fun K x qual st f fd)
  (h:∀(kV doc pm:Value) (an:Option Addr) (cdv ct:Value) (us:List Value),us.length=ps.length->ve (W.fnOf x qual (z1v st) (z14 st) (z0i st) .none kV doc pm an cdv ct) ⟨us,[]⟩=pure (ps.zip us)):Binds K fd ps []:=by
 obtain⟨oc,od,kV,doc,pm,an,cdv,ct,osl,rfl,lk,hcd⟩:=F.ex;exact .all (h kV doc pm an cdv ct)
theorem zen {x qual:Str}{st:Stmt}{f:Addr}{oc:Value}{od an:Option Addr}{osl:Array (Option Value)}{kV doc pm cdv ct:Value}(l:K.lookup f=some ⟨oc,od,.func (W.fnOf x qual (z1v st) (z14 st) (z0i st) .none kV doc pm an cdv ct),osl⟩) (c:W.codeIn K cdv qual=true) (k:W.keepIn K (.ref f)=true):Fun K x qual st f (W.fnOf x qual (z1v st) (z14 st) (z0i st) .none kV doc pm an cdv ct):=⟨⟨oc,od,kV,doc,pm,an,cdv,ct,osl,rfl,l,c⟩,k⟩
end
section
variable {X:Cx}
end
theorem iteF {A B:Prop}(h:B):if false=true then A else B:=by rw[if_neg bu];exact h
theorem iteT {A B:Prop}(h:A):if true=true then A else B:=by rw[if_pos rfl];exact h
def Same (H H':Hp):Prop:=∀b o,H b=some o->H' b=some o
theorem Same.refl (H:Hp):Same H H:=fun _ _ h=>h
theorem Same.trans {H H1 H2:Hp}(a:Same H H1)(b:Same H1 H2):Same H H2:=fun c o h=>b c o (a c o h)
theorem Same.free {H H':Hp}(e:Same H H'){l:Addr}(h:H' l=Option.none):H l=Option.none:=by
 cases q:H l with
 |none=>rfl
 |some o=>rw[e l o q]at h;cases h
theorem Same.seq {K:W.Frag}{H H':Hp}{a:Addr}{xs:List V}(e:Same H H')(h:SqL K H a xs):SqL K H' a xs:=by
 rcases h with(h|⟨o,h⟩)|h
 ·exact .inl (.inl (e _ _ h))
 ·exact .inl (.inr ⟨o,e _ _ h⟩)
 ·exact .inr h
section
variable {X:Cx}
theorem zfk:CallR X (.builtin "len") (fun xs H Q=>∃a kvs,xs=[V.ref a]/\H a=some (.dK kvs)/\Q (.int kvs.length) H):=by intro pins s σ H xs us Q I r h;obtain⟨a,kvs,rfl,ha,q⟩:=h;obtain⟨u,rfl,ru⟩:=vals1 r;cases ru;exact zw1 I (.inl ha) fun t s' I'=>⟨.int kvs.length,H,I',⟨t,rfl⟩,q⟩
end
section
variable {κ:Type} [DecidableEq κ]
end
end L2
set_option maxHeartbeats 5000000
namespace L2
open PySem PySem.Spec PyProof.Rows
def clOf (env:Env):List (Str×fm)->List (Str×Addr)->List (Str×Addr)
 | [],cs=>cs
 |(n,k)::r,cs=>clOf env r (if(k==.free)=true then(n,(env.cells.lookup n).getD 0)::cs else cs)
theorem za5 {env:Env}{x:Str}:∀(l:List (Str×fm)) (cs:List (Str×Addr)),(∃c,cs.lookup x=some c)->∃c,(clOf env l cs).lookup x=some c
 | [],cs,h=>h
 |(n,k)::r,cs,h=>by
  unfold clOf;refine za5 r _ ?_;split
  ·by_cases e:(x==n)=true
   ·exact⟨_,by rw[dh,e]⟩
   ·obtain⟨c,hc⟩:=h;exact⟨c,by rw[dh,uh.mpr e];exact hc⟩
  ·exact h
theorem z4c {env:Env}{x:Str}:∀(l:List (Str×fm)) (cs:List (Str×Addr)),l.lookup x=some .free->∃c,(clOf env l cs).lookup x=some c
 | [],cs,h=>by simp at h
 |(n,k)::r,cs,h=>by
  rw[dh]at h;unfold clOf;cases e:(x==n)with
  |true=>rw[e]at h;have hk:k=.free:=Option.some.inj h;subst hk;exact za5 r _ ⟨_,by rw[if_pos (by rfl),dh,e]⟩
  |false=>rw[e]at h;exact z4c r _ h
theorem zd5 {env:Env}:∀(l:List (Str×fm)) (cs:List (Str×Addr)),(∀y∈l,y.2=.free->∃c,env.cells.lookup y.1=some c)->(∀x c,cs.lookup x=some c->env.cells.lookup x=some c)->
  ∀x c,(clOf env l cs).lookup x=some c->env.cells.lookup x=some c
 | [],cs,_,h=>h
 |(n,k)::r,cs,hl,h=>by
  unfold clOf;refine zd5 r _ (fun y hy=>hl y (au _ hy)) fun x c hx=>?_;by_cases hk:(k==NameKind.free)=true
  ·rw[if_pos hk,dh]at hx;cases e:(x==n)with
   |true=>
    rw[e]at hx;have hxn:x=n:=by simpa using e
    obtain⟨d,hd⟩:=hl (n,k) ak (by simpa using hk);have hd':env.cells.lookup n=some d:=hd;rw[hd']at hx;rw[hxn,hd'];exact hx
   |false=>rw[e]at hx;exact h x c hx
  ·rw[if_neg hk]at hx;exact h x c hx
theorem z3b {env:Env}{scope:Scope}(h:∀y∈scope.names,y.2=.free->∃c,env.cells.lookup y.1=some c):closureFor scope env=pure (clOf env scope.names []):=by
 have go:∀(l:List (Str×fm)) (cs:List (Str×Addr)),(∀y∈l,y.2=.free->∃c,env.cells.lookup y.1=some c)->
   (forIn l cs fun(x:Str×fm) (r:List (Str×Addr))=>if(x.2==NameKind.free)=true then(do let a <-cellOf env x.1;pure (ForInStep.yield ((x.1,a)::r)):Sem _)else pure (ForInStep.yield r))=(pure (clOf env l cs):Sem _):=by
  intro l
  induction l with
  |nil=>intro cs _;rfl
  |cons y r ih=>
   intro cs hl;obtain⟨n,k⟩:=y;rw[k8];unfold clOf;by_cases hk:(k==NameKind.free)=true
   ·obtain⟨c,hc⟩:=hl (n,k) ak (by simpa using hk);have hc':env.cells.lookup n=some c:=hc;have e:cellOf env n=pure c:=by unfold cellOf;rw[hc']
    rw[if_pos hk,if_pos hk]
    dsimp only
    rw[e,hc'];exact ih ((n,c)::cs) fun y hy=>hl y (au _ hy)
   ·rw[if_neg hk,if_neg hk];exact ih cs fun y hy=>hl y (au _ hy)
 unfold closureFor;have:=go scope.names [] h
 first
  |exact this
  |(show(forIn scope.names [] _>>=fun r=>pure r)=_;rw[show(forIn scope.names ([]:List (Str×Addr)) _:Sem _)=_ from this];rfl)
theorem zbc {scope:Scope}{env:Env}(hc:∀y∈scope.names,y.2≠.cell){x:Str}:
  (vx scope env).names.lookup x=some .cell\/(vx scope env).names.lookup x=some .free->scope.names.lookup x=some .free:=by
 have go:∀(l:List (Str×fm)),(∀y∈l,y.2≠ .cell)->∀k,(k=NameKind.cell\/k=NameKind.free)->
   (l.map fun(n,k)=>if(k==.free&&env.scope.kind==.function&&env.kindOf n==some .cell)then(n,NameKind.cell)else(n,k)).lookup x=some k->l.lookup x=some .free:=by
  intro l
  induction l with
  |nil=>intro _ k _ h;simp at h
  |cons y r ih=>
   intro hl k hk h;obtain⟨n,q⟩:=y;rw[a9]at h;rw[dh];by_cases c:(q==NameKind.free&&env.scope.kind==.function&&env.kindOf n==some .cell)=true
   ·have hq:q=.free:=by
     simp only[ax]at c;simpa using c.1.1
    dsimp only at h
    rw[if_pos c,dh]at h;cases e:(x==n)with
    |true=>rw[hq]
    |false=>rw[e]at h;exact ih (fun y hy=>hl y (au _ hy)) k hk h
   ·dsimp only at h
    rw[if_neg c,dh]at h;cases e:(x==n)with
    |true=>
     rw[e]at h;have hq:q=k:=Option.some.inj h;rcases hk with hk|hk
     ·exact absurd (hq.trans hk) (hl (n,q) ak)
     ·show some q=some .free;rw[hq,hk]
    |false=>rw[e]at h;exact ih (fun y hy=>hl y (au _ hy)) k hk h
 rintro(h|h)
 ·exact go scope.names hc .cell (.inl rfl) h
 ·exact go scope.names hc .free (.inr rfl) h
def blk (X:Cx)(scope:Scope)(N':List Str)(C:Addr)(fp:List Addr)(s:ac)(H:Hp):Cx:={X with N:=N',s₀:=s,H₀:=H,env:=compEnvC scope (clOf X.env scope.names []) C X.env,outer:=X.stack,stack:=X.stack,ex:=fp,fn:=fun _=>false,xe:=fun _ _=>False,fx:=none}
structure BlkScope (X:Cx)(scope:Scope)(N':List Str)(nt:Nat)(js:List Nat):Prop where
 kind:scope.kind=.function
 nocell:∀y∈scope.names,y.2≠.cell
 names:∀y∈scope.names,y.2=.local->scope.names.lookup y.1=some .local
 frees:∀y∈scope.names,y.2=.free->X.env.scope.names.lookup y.1=some .cell\/X.env.scope.names.lookup y.1=some .free
 nd:N'.Nodup
 len:N'.length=nt+js.length
 pl:∀(i j:Nat),js[i]?=some j->N'[nt+i]?=X.N[j]?/\∃x,X.N[j]?=some x/\scope.names.lookup x=some .free
def blkB (NX:List Str)(sc0 scope:Scope)(N':List Str)(nt:Nat)(js:List Nat):Bool:=
 (scope.kind==.function)&&scope.names.all (fun y=>!(y.2==.cell))&&scope.names.all (fun y=>!(y.2==.local)||(scope.names.lookup y.1==some .local))&&
 scope.names.all (fun y=>!(y.2==.free)||(sc0.names.lookup y.1==some .cell)||(sc0.names.lookup y.1==some .free))&&decide N'.Nodup&&(N'.length==nt+js.length)&&
 (N'.drop nt==js.map fun j=>NX.getD j "")&&js.all (fun j=>decide (j<NX.length)&&(scope.names.lookup (NX.getD j "")==some .free))
theorem zp0 {X:Cx}{NX:List Str}{sc0 scope:Scope}{N':List Str}{nt:Nat}{js:List Nat}(hN:X.N=NX)(hs:X.env.scope=sc0)(h:blkB NX sc0 scope N' nt js=true):BlkScope X scope N' nt js:=by
 unfold blkB at h;simp only[ax,bg,decide_eq_true_eq,beq_iff_eq,d9,lw,beq_eq_false_iff_ne]at h;obtain⟨⟨⟨⟨⟨⟨⟨h1,h2⟩,h3⟩,h4⟩,h5⟩,h6⟩,h7⟩,h8⟩:=h;refine⟨h1,h2,fun y hy e=>(h3 y hy).resolve_left (fun z=>z e),fun y hy e=>?_,h5,h6,fun i j hj=>?_⟩
 ·rw[hs];rcases h4 y hy with(z|z)|z
  ·exact absurd e z
  ·exact .inl z
  ·exact .inr z
 ·obtain⟨a,b⟩:=h8 j (bc hj);have e:X.N[j]?=some (NX.getD j ""):=by rw[hN,bq a,bo,bq a];rfl
  refine⟨?_,_,e,b⟩;rw[e,<-List.getElem?_drop,h7,bw,hj];rfl
def emb (nt:Nat)(js:List Nat)(σ:St):St:=bv nt none++js.map fun j=>σ.getD j none
section
variable {X:Cx}{scope:Scope}{N':List Str}{nt:Nat}{js:List Nat}
theorem zlw {pins:List (Addr×Obj)}{σ:St}{H:Hp}{s:ac}{fp:List Addr}{h1:Heap}{m1:Str->Option Value}{t1:Nat}(B:BlkScope X scope N' nt js)(I:Inv X pins σ H s)
  (hfp:∀b∈fp,FpOk X pins H b) (hob:∀b∈fp,∃o,s.heap.get? b=some o)
  (k:∀b o,s.heap.get? b=some o->h1.get? b=some o) (hn:h1.Ns s.heap.objs.size m1):
  Inv (blk X scope N' s.heap.objs.size fp s H) pins (emb nt js σ) H {s with heap:=h1,toks:=t1}:=by
 have hcs:∀y∈scope.names,y.2=.free->∃c,X.env.cells.lookup y.1=some c:=fun y hy hf=>I.ok.has y.1 (B.frees y hy hf);have hcl:∀x c,(clOf X.env scope.names []).lookup x=some c->X.env.cells.lookup x=some c:=zd5 _ _ hcs (fun x c h=>by simp at h);have lt:∀b o,s.heap.get? b=some o->b≠s.heap.objs.size:=fun b o e=>b7 (bj e);have hf:H s.heap.objs.size=none:=I.hok.fresh (am _);refine⟨⟨I.ok.mod,B.kind,I.ok.glob,I.ok.blt,am _,fun x y c h1 h2=>I.ok.inj x y c (hcl x c h1) (hcl y c h2),fun x hx=>z4c _ _ (zbc B.nocell hx),fun x c h=>(by cases h),I.ok.hd,I.ok.frames,.inl rfl,fun b hb=>?_,I.bs,bx I.ok.bsz I.sz,fun b o e hb=>?_,fun b hb hx=>?_,I.stack,I.stkFree,fun _ _ z=>by cases z⟩,rfl,I.bare,Un.kept k,⟨m1,hn,fun i x v e1 e2 e3=>?_⟩,fun x c e=>?_,hf,fun x c e=>I.freeC x c (hcl x c e),fun p hp=>?_,I.hok.kept k,?_,fun _ _ z=>by cases z⟩
 ·obtain⟨o,ho⟩:=hob b hb;exact⟨lt b o ho,fun x c h=>(hfp b hb).2.2.2.2.1 x c (hcl x c h)⟩
 ·rcases(hfp b hb).2.2.2.1 with z|z
  ·exact I.ok.noex b o e z
  ·exact absurd (bz (bj e) (bx I.ok.bsz z)) (ci _)
 ·rcases aw.mp (I.stkSub b hx)with z|z
  ·exact(hfp b hb).2.1 z
  ·exact(hfp b hb).2.2.1 z
 ·--a name with a value:one of the frame's
  have hi:nt<=i:=by refine pc fun h=>?_;unfold emb at e2;rw[iy (by rw[dg];exact h),gh,if_pos h]at e2;cases e2
  unfold emb at e2;rw[fq (by rw[dg];exact hi),dg,bw]at e2;cases ej:js[i-nt]? with
  |none=>rw[ej]at e2;cases e2
  |some j=>
   rw[ej]at e2;have e2':σ.getD j none=some v:=Option.some.inj e2;obtain⟨h1',y,hy,hfree⟩:=B.pl (i-nt) j ej;rw[rz hi]at h1';have exy:x=y:=by have e1':N'[i]?=some x:=e1;rw[h1',hy]at e1';exact(Option.some.inj e1').symm
   subst exy
   have hσ:σ[j]?=some (some v):=by
    rw[bo]at e2';cases q:σ[j]? with
    |none=>rw[q]at e2';cases e2'
    |some z=>rw[q]at e2';exact congrArg some e2'
   have hfr:=B.frees (x,.free) (PySem.mem_of_lookup hfree) rfl;have hvis:Vis X.env.scope x:=hfr.elim (fun z=>.inr (.inl z)) (fun z=>.inr (.inr z));obtain⟨m,hnm,hl⟩:=I.loc;obtain⟨u,r,l⟩:=hl j x v hy hσ hvis;refine⟨u,r,?_⟩;rcases l with⟨hk,_⟩|⟨hk,c,hc,hcell⟩
   ·rcases hfr with z|z
    ·have hk':X.env.scope.names.lookup x=some .local:=hk;rw[z]at hk';cases hk'
    ·have hk':X.env.scope.names.lookup x=some .local:=hk;rw[z]at hk';cases hk'
   ·obtain⟨d,hd⟩:=z4c (env:=X.env) scope.names [] hfree;have hdc:d=c:=by have:=hcl x d hd;rw[hc]at this;cases this;rfl
    subst hdc;refine .inr ⟨?_,d,hd,?_⟩
    ·rcases e3 with z|z|z
     ·exfalso;have z':(vx scope X.env).names.lookup x=some .local:=z
      have:∀(l:List (Str×fm)),l.lookup x=some .free->(l.map fun(n,k)=>if(k==.free&&X.env.scope.kind==.function&&X.env.kindOf n==some .cell)then(n,NameKind.cell)else(n,k)).lookup x≠some .local:=by
       intro l
       induction l with
       |nil=>intro h;simp at h
       |cons y r ih=>
        intro h;obtain⟨n,q⟩:=y;rw[dh]at h;rw[a9]
        dsimp only
        cases e:(x==n)with
        |true=>
         rw[e]at h;have hq:q=.free:=Option.some.inj h;subst hq;split
         ·rw[dh,e];intro z;cases z
         ·rw[dh,e];intro z;cases z
        |false=>
         rw[e]at h;split
         ·rw[dh,e];exact ih h
         ·rw[dh,e];exact ih h
      exact this _ hfree z'
     ·exact .inl z
     ·exact .inr z
    ·obtain⟨o,ho,hd'⟩:=hcell;exact⟨o,k _ _ ho,hd'⟩
 ·obtain⟨v,o,ho,hd⟩:=I.cell x c (hcl x c e);exact⟨v,o,k _ _ ho,hd⟩
 ·obtain⟨q1,q2,q3,q4,q5⟩:=I.pin p hp;refine⟨k _ _ q1,q2,lt _ _ q1,fun z=>?_,q5⟩;rcases aw.mp (I.stkSub p.1 z)with z|z
  ·exact q3 z
  ·exact q4 z
 ·show(emb nt js σ).length=N'.length;unfold emb;rw[av,dg,af,B.len]
end
section
variable (M:Model)(A:b6)(env:Env)
abbrev calmX:Value->ac->Prop:=fun _ _=>False
def zsz (acc:Value)(Z:ac->Prop)(x:Value):ac->Prop:=wpAny M A (call (.builtin "list.append") [acc,x]) (fun _=>Z) calmX
def cElt (elt:Expr)(acc:Value)(Z:ac->Prop)(ok:Bool)(s:ac):Prop:=if ok=true then wpAny M A (eval elt env) (zsz M A acc Z) calmX s else Z s
def zsi (ifs:List Expr)(elt:Expr)(acc:Value)(Z:ac->Prop):ac->Prop:=wpAny M A (forIn ifs true fun c r=>if r=true then(uu c env (eval c env)>>=fun ok=>pure (ForInStep.yield ok))else pure (ForInStep.yield r)) (cElt M A env elt acc Z) calmX
def cPut (tg:Expr)(ifs:List Expr)(elt:Expr)(acc:Value)(Z:ac->Prop)(v:Value):ac->Prop:=wpAny M A (pv tg env v) (fun _=>zsi M A env ifs elt acc Z) calmX
def cVal (tg:Expr)(ifs:List Expr)(elt:Expr)(it acc:Value)(End Z:ac->Prop)(r:Option Value)(s:ac):Prop:=match r with
 |some v=>wpAny M A (gu tg it v) (fun _=>cPut M A env tg ifs elt acc Z v) calmX s
 |none=>End s
end
theorem zkz {P:ba}{w:World}{A:b6}{R:vt->ac->Prop}{s:ac}{elt tg iter:Expr}{ifs:List Expr}{scope:Scope}{pos:Pos}{it acc:Value}{env:Env}(I:Nat->ac->Prop)
  (one:∀k t,I k t->wpAny (model P w) A (qk it) (cVal (model P w) A env tg ifs elt it acc (R (.ok .next)) fun t'=>∃m,m<k/\I m t') calmX t) (n:Nat) (h:I n s):
  mh (model P w) A (.compLoop (.ListComp elt [⟨tg,iter,ifs,0⟩] scope pos) 0 it acc env) R s:=by
 apply codeAny_loop rfl I _ n h;intro k t hk;apply wpAny_noted;apply wpAny_noRaise;rw[compTurn_list];apply aa;apply wpAny_standAt;apply aa;refine thn (one k t hk) ?_
 rintro(_|v) t1 h1
 ·exact aq h1
 apply aa;refine thn (show wpAny _ _ _ _ _ _ from h1) fun _ t2 h2=>?_;apply aa;refine thn (show wpAny _ _ _ _ _ _ from h2) fun _ t3 h3=>?_;apply aa;refine thn (show wpAny _ _ _ _ _ _ from h3) ?_
 rintro(_|_) t4 h4
 ·exact aq ⟨rfl,h4⟩
 apply aa;apply aa;refine thn (show wpAny _ _ _ _ _ _ from h4) fun x t5 h5=>?_;apply aa;refine thn (show wpAny _ _ _ _ _ _ from h5) fun _ t6 h6=>?_;exact aq (aq ⟨rfl,h6⟩)
theorem Un.but {fs ex:List Addr}{H H1:Hp}{h h1 h':Heap}{C:Addr}(u:Un fs ex H H1 h h1)(hC:h.get? C=none)(sb:ce C h1 h'):Un fs ex H H1 h h':=by
 have ne:∀b o,h.get? b=some o->b≠C:=fun b o e z=>by rw[z,hC]at e;cases e
 exact⟨fun b o e n hb hx=>sb.extBut b o (ne b o e) (u.keep b o e n hb hx),fun b o e n hb hx=>let⟨sl,q⟩:=u.slot b o e n hb hx;⟨sl,sb.extBut b _ (ne b o e) q⟩,u.free,fun b o e hx=>let⟨o',q⟩:=u.there b o e hx;⟨o',sb.extBut b _ (ne b o e) q⟩,u.tups,u.frzs,u.tbls⟩
theorem HOk.but {P:ba}{w:World}{H:Hp}{h h':Heap}{C:Addr}(ok:HOk P w H h)(hC:H C=none)(sb:ce C h h'):HOk P w H h':=fun a o e=>by
 refine(ok a o e).stay (fun b u hb q=>sb.extBut b u (fun z=>?_) q) (fun _ q=>q) fun _ _ q=>q;rcases hb with hb|hb
 ·rw[z]at hb;rw[<-hb,hC]at e;cases e
 ·rw[z,hC]at hb;cases hb
def PTs (X:Cx)(ifs:List Expr)(t:TT):Prop:=∀(pins:List (Addr×Obj)) (s:ac) (σ:St) (H:Hp) (Q:Bool->Hp->Prop),Inv X pins σ H s->t σ H Q->wpAny (model X.prog X.w) X.A (forIn ifs true fun c r=>if r=true then do let ok <-uu c X.env (eval c X.env);pure (ForInStep.yield ok)else pure (ForInStep.yield r)) (TP X pins σ Q) X.xe s
def tYes:TT:=fun _ H Q=>Q true H
theorem zn9 {X:Cx}:PTs X [] tYes:=fun _ _ _ H _ I h=>wpAny_tests_nil ⟨H,I,h⟩
theorem zle {X:Cx}{c:Expr}{t:TT}(h:PT X c t):PTs X [c] t:=fun pins s σ H Q I q=>wpAny_tests_one (h pins s σ H Q I q)
def Keep (a b:St):Prop:=a.length=b.length/\∀(i:Nat) v,a[i]?=some (some v)->b[i]?=some (some v)
theorem Keep.refl (a:St):Keep a a:=⟨rfl,fun _ _ h=>h⟩
def tLC (wi:TI)(g:TG)(tc:TT)(te:TE)(em:St->St):TE:=fun σ H Q=>wi σ H fun J H1=>∀l,H1 l=none->∃P:Nat->Nat->List V->Hp->Prop,(∃m,P 0 m [] (upd H1 l (.lst [])))/\∀i m acc H2,P i m acc H2->(J.stop i H2/\Q (.ref l) H2)\/(J.go i H2/\acc.length<az/\∃N:List V->Hp->Prop,(∀acc' H',N acc' H'->∃m',m'<m/\P (i+1) m' acc' H')/\∀x H3,J.yld i H2 x H3->g x (em σ) H3 fun σ4 H4=>Keep (em σ) σ4/\tc σ4 H4 fun b H5=>if b=true then te σ4 H5 fun y H6=>H6 l=some (.lst acc)/\N (acc++[y]) (upd H6 l (.lst (acc++[y])))else N acc H5)
section
variable {X:Cx}{scope:Scope}{N':List Str}{nt:Nat}{js:List Nat}{tg iter elt:Expr}{ifs:List Expr}{wi:TI}{g:TG}{tc:TT}{te:TE}{pos:Pos}
theorem z5l {pins:List (Addr×Obj)}{σ:St}{s2:ac}{Q:VK}{itv:Value}{E:Value->ac->Prop}{RR:Value->Addr->vt->ac->Prop}(hc:X.calm=true)(B:BlkScope X scope N' nt js)
  (hg:∀C fp s H,PG (blk X scope N' C fp s H) tg g) (ht:∀C fp s H,PTs (blk X scope N' C fp s H) ifs tc) (he:∀C fp s H,PE (blk X scope N' C fp s H) elt te)
  (h2:PIE X pins σ tg (fun J H1=>∀l,H1 l=none->∃P:Nat->Nat->List V->Hp->Prop,(∃m,P 0 m [] (upd H1 l (.lst [])))/\∀i m acc H2,P i m acc H2->(J.stop i H2/\Q (.ref l) H2)\/(J.go i H2/\acc.length<az/\∃N:List V->Hp->Prop,(∀acc' H',N acc' H'->∃m',m'<m/\P (i+1) m' acc' H')/\∀x H3,J.yld i H2 x H3->g x (emb nt js σ) H3 fun σ4 H4=>Keep (emb nt js σ) σ4/\tc σ4 H4 fun b H5=>
  if b=true then te σ4 H5 fun y H6=>H6 l=some (.lst acc)/\N (acc++[y]) (upd H6 l (.lst (acc++[y])))else N acc H5)) itv s2)
  (hRR:∀(l C:Addr) (H':Hp) (s1:ac),(∃m,s1.heap.Ns C m)->H' C=none->C≠X.env.locals->C∉X.fs->(∀x c,X.env.cells.lookup x=some c->c≠C)->X.s₀.heap.objs.size<=C->(∀p∈X.pn++pins,p.1≠C)->(∀h',ce C s1.heap h'->Inv X pins σ H' {s1 with heap:=h'})->Q (.ref l) H'->RR (.ref l) C (.ok .next) s1):
  wpAny (model X.prog X.w) X.A (newList []) (fun acc s₃=>wpAny (model X.prog X.w) X.A (newFunctionEnv scope X.env.globals (clOf X.env scope.names []) [] X.env.qual none .none (some X.env)) (fun cenv s₄=>mh (model X.prog X.w) X.A (.compStart (.ListComp elt [⟨tg,iter,ifs,0⟩] scope pos) 0 itv acc {cenv with scope:=vx scope X.env}) (RR acc cenv.locals) s₄) E s₃) E s2:=by
 obtain⟨it,fp,tn,J,H2,rfl,I2,T,st2,f2,q⟩:=h2;refine jz (wpAny_newFunctionEnv B.nocell (by intro y hy;simp at hy) (fun h₁ hns₁ hsb₁=>?_) B.kind)
 dsimp only at hns₁ hsb₁ ⊢
 have hob2:∀b∈fp,∃o,s2.heap.get? b=some o:=fun b hb=>let⟨o,e,_⟩:=T.obj 0 _ st2 b hb;⟨o,e⟩;have hl:H2 s2.heap.objs.size=none:=I2.hok.fresh (am _);have I3:=I2.lnew (ys:=[]) (its:=[]) (t':=s2.toks) .nil (dj _);obtain⟨P,⟨m0,p0⟩,turn⟩:=q _ hl;generalize hHh:s2.heap.push {cls:=.type "list",dict:=none,data:=.seq ([]:List Value).toArray}=Hh at hns₁ hsb₁ I3 ⊢;generalize hlv:s2.heap.objs.size=l at hl I3 p0 turn ⊢;have old2:∀b o,s2.heap.get? b=some o->Hh.get? b=some o:=fun b o e=>hHh▸ae _ e;have k:∀b o,Hh.get? b=some o->h₁.get? b=some o:=fun b o e=>hsb₁.extBut b o (b7 (bj e)) (ae _ e)
 have f3:∀b∈fp,FpOk X pins (upd H2 l (.lst [])) b:=fun b hb=>by
  obtain⟨o,e⟩:=hob2 b hb;have nl:b≠l:=by rw[<-hlv];exact b7 (bj e)
  exact⟨by rw[z05 nl];exact(f2 b hb).1,(f2 b hb).2⟩
 have hob3:∀b∈fp,∃o,Hh.get? b=some o:=fun b hb=>let⟨o,e⟩:=hob2 b hb;⟨o,old2 b o e⟩;have J0:=zlw (s:={s2 with heap:=Hh,toks:=s2.toks}) (t1:=s2.toks+([]:List (Str×Value)).length) B I3 f3 hob3 k hns₁;have stA:∀{H':Hp},(∀b∈fp,H' b=none)->∀b∈fp,FpOk (blk X scope N' Hh.objs.size fp {s2 with heap:=Hh,toks:=s2.toks} (upd H2 l (.lst []))) pins H' b:=fun hn b hb=>⟨hn b hb,(J0.ok.exf b hb).1,J0.ok.exfs b hb,.inl hb,(J0.ok.exf b hb).2,(f2 b hb).2.2.2.2.2⟩;have hCn:Hh.get? Hh.objs.size=none:=qj (am _);have out:∀{H':Hp} {s1:ac},Inv (blk X scope N' Hh.objs.size fp {s2 with heap:=Hh,toks:=s2.toks} (upd H2 l (.lst []))) pins (emb nt js σ) H' s1->∀h',ce Hh.objs.size s1.heap h'->Inv X pins σ H' {s1 with heap:=h'}:=fun{H' s1} Jn h' sb=>by refine I3.call' (s':={s1 with heap:=h'}) (ch:=fp) Jn.os (Un.but Jn.base hCn sb) (Jn.hok.but Jn.free sb) Jn.bare fun b hb=>?_;exact⟨(f3 b hb).2.2.2.1,(f3 b hb).2.1,(f3 b hb).2.2.2.2.1,(f3 b hb).2.2.2.2.2⟩
 have nL:Hh.objs.size≠X.env.locals:=ls (I3.lt);have nF:Hh.objs.size∉X.fs:=I3.nofs (am _);have nC:∀x c,X.env.cells.lookup x=some c->c≠Hh.objs.size:=fun x c e z=>by obtain⟨v,q⟩:=I3.cell x c e;exact absurd q.lt (by rw[z];exact ci _)
 have nS:X.s₀.heap.objs.size<=Hh.objs.size:=I3.sz;have nP:∀p∈X.pn++pins,p.1≠Hh.objs.size:=fun p hp=>b7 (bj (I3.pin p hp).1)
 have loop:∀s₃:ac,s₃={s2 with heap:=h₁,toks:=s2.toks+([]:List (Str×Value)).length}->
   mh (model X.prog X.w) X.A (.compLoop (.ListComp elt [⟨tg,iter,ifs,0⟩] scope pos) 0 (.ref it) (.ref l) (compEnvC scope (clOf X.env scope.names []) Hh.objs.size X.env)) (RR (.ref l) Hh.objs.size) s₃:=by
  rintro s₃ rfl
  refine zkz (fun n s'=>∃i acc H',Inv (blk X scope N' Hh.objs.size fp {s2 with heap:=Hh,toks:=s2.toks} (upd H2 l (.lst []))) pins (emb nt js σ) H' s'/\tn i s'.heap/\(∀b∈fp,H' b=none)/\P i n acc H') ?_ m0 ⟨0,[],_,J0,T.keep _ _ _ st2 fun b _ o e=>k b o (old2 b o e),fun b hb=>(f3 b hb).1,p0⟩
  rintro n s3 ⟨i,acc,H3,Jn,st3,fr3,w3⟩
  rcases turn i n acc H3 w3 with⟨stop,qn⟩|⟨go,hz8,N,hN,step⟩
  ·refine thn (T.done (blk X scope N' Hh.objs.size fp {s2 with heap:=Hh,toks:=s2.toks} (upd H2 l (.lst []))) rfl rfl rfl hc i pins s3 _ H3 (fun _ _=>False) Jn (stA fr3) st3 stop) fun r s4 ⟨hr,I4⟩=>?_;subst hr;obtain⟨m,hn,_⟩:=id I4.loc;exact hRR l Hh.objs.size H3 s4 ⟨m,hn⟩ I4.free nL nF nC nS nP (out I4) qn
  ·refine thn (T.item (blk X scope N' Hh.objs.size fp {s2 with heap:=Hh,toks:=s2.toks} (upd H2 l (.lst []))) rfl rfl rfl hc i pins s3 _ H3 (fun _ _=>False) Jn (stA fr3) st3 go) fun r s4 ⟨u,hr,h4⟩=>?_;subst hr;refine thn h4 fun _ s5 ⟨x,H5,I5,r5,y5,st5,fr5⟩=>?_;have I5':=I5.pinned (stA fr5) (T.obj _ _ st5);refine thn (hg _ _ _ _ _ s5 _ H5 x u _ I5' r5 (step x H5 y5)) fun _ s6 ⟨σ6,H6,I6,kp,q6⟩=>?_;refine thn (ht _ _ _ _ _ s6 σ6 H6 _ I6 q6) fun b s7 ⟨H7,I7,q7⟩=>?_
   have again:∀{s7:ac} {H7:Hp} {acc':List V},Inv (blk X scope N' Hh.objs.size fp {s2 with heap:=Hh,toks:=s2.toks} (upd H2 l (.lst []))) (pins++z6w fp s5.heap) σ6 H7 s7->N acc' H7->
     ∃m,m<n/\∃i acc H',Inv (blk X scope N' Hh.objs.size fp {s2 with heap:=Hh,toks:=s2.toks} (upd H2 l (.lst []))) pins (emb nt js σ) H' s7/\tn i s7.heap/\(∀b∈fp,H' b=none)/\P i m acc H':=fun{s7 H7 acc'} I7 w7=>by
    obtain⟨n',hm,w7⟩:=hN _ _ w7;refine⟨n',hm,i+1,acc',H7,(I7.unpinned).weak kp.1 kp.2,T.keep _ _ _ st5 fun b hb o e=>(I7.pin (b,o) (ay _ (ay _ (z1n hb e)))).1,fun b hb=>?_,w7⟩;obtain⟨o,e,d⟩:=T.obj _ _ st5 b hb;exact(I7.pin (b,o) (ay _ (ay _ (z1n hb e)))).2.1
   cases b with
   |false=>rw[if_neg bu]at q7;unfold cElt;rw[if_neg bu];exact again I7 q7
   |true=>rw[if_pos rfl]at q7;unfold cElt;rw[if_pos rfl];refine thn (he _ _ _ _ _ s7 σ6 H7 _ I7 q7) fun y' s8 ⟨y,H8,I8,r8,hl8,w8⟩=>?_;refine thn (z4j _ s8 σ6 H8 (.ref l) [y] (.ref l) [y'] (fun _ H9=>N (acc++[y]) H9) I8 rfl (.cons r8 .nil) ⟨l,acc,y,rfl,rfl,hl8,hz8,w8⟩) fun _ s9 ⟨v9,H9,I9,r9,w9⟩=>?_;exact again I9 w9
 exact codeAny_compStart_list (loop _ rfl) (T.self _ 0 _ _ _ (T.keep _ _ _ st2 fun b _ o e=>k b o (old2 b o e)) (loop _ rfl))
theorem zi8 (hc:X.calm=true)(B:BlkScope X scope N' nt js)(hi:PI X tg iter wi)
  (hg:∀C fp s H,PG (blk X scope N' C fp s H) tg g) (ht:∀C fp s H,PTs (blk X scope N' C fp s H) ifs tc) (he:∀C fp s H,PE (blk X scope N' C fp s H) elt te)
  (hs:∀x,gg iter X.env x=pure x:=by intro _;rfl):PE X (.ListComp elt [⟨tg,iter,ifs,0⟩] scope pos) (tLC wi g tc te (emb nt js)):=by
 intro pins s σ H Q I h;rw[eval_ListComp];refine oy (use:=none) rfl hs (z3b fun y hy hf=>I.ok.has y.1 (B.frees y hy hf)) B.kind B.names (thn (hi pins s σ H _ I h) fun v s1 h1=>thn h1 fun itv s2 h2=>?_);refine z5l (RR:=fun acc C=>compPost (model X.prog X.w) X.A X.xe none (EP X pins σ Q) acc C) hc B hg ht he h2 ?_;intro l C H' s1 ns _ _ _ _ _ _ out q;obtain⟨m,hn⟩:=ns;exact⟨m,hn,fun h' sb=>⟨.ref l,H',out h' sb,rfl,q⟩⟩
def zqm (i:Nat)(t:TE):TS:=fun D σ H=>t σ H fun v H1=>D.nx (σ.set i (some v)) H1
theorem zfr {y:Str}{py spos:Pos}{i:Nat}(hc:X.calm=true)(hN:X.N.Nodup)(hy:X.N[i]?=some y)(hl:X.env.scope.names.lookup y=some .local)(B:BlkScope X scope N' nt js)(hi:PI X tg iter wi)
  (hg:∀C fp s H,PG (blk X scope N' C fp s H) tg g) (ht:∀C fp s H,PTs (blk X scope N' C fp s H) ifs tc) (he:∀C fp s H,PE (blk X scope N' C fp s H) elt te)
  (hsw:l8 (.ListComp elt [⟨tg,iter,ifs,0⟩] scope pos) (some (.Name y py)) spos.line X.env=pure true)
  (hs:∀x,gg iter X.env x=pure x:=by intro _;rfl):PS X (.Assign [.Name y py] (.ListComp elt [⟨tg,iter,ifs,0⟩] scope pos) spos) (zqm i (tLC wi g tc te (emb nt js))):=by
 intro pins s σ H D I h;have ex:=exec_Assign_Name_used _ _ _ _ hsw;rw[ex];apply aa;apply wpAny_standAt;apply aa;show wpAny _ X.A (do let _ <-comprehension (.ListComp elt [⟨tg,iter,ifs,0⟩] scope pos) scope X.env _ (newList []) false (eval iter X.env) (some (pv (.Name y py) X.env))) _ _ s;refine aa (j7 (oy (use:=some (pv (.Name y py) X.env)) (Q:=fun _ s'=>SP X pins D .next s') rfl hs (z3b fun z hz hf=>I.ok.has z.1 (B.frees z hz hf)) B.kind B.names (thn (hi pins s σ H _ I h) fun v s1 h1=>thn h1 fun itv s2 h2=>?_)) (fun _ s' hq=>aq (aq hq)) fun _ _ e=>e);refine z5l (Q:=fun v H1=>D.nx (σ.set i (some v)) H1) (RR:=fun acc C=>compPost (model X.prog X.w) X.A X.xe (some (pv (.Name y py) X.env)) (fun _ s'=>SP X pins D .next s') acc C) hc B hg ht he h2 ?_;intro l C H' s1 ns hH nL nF nC nS nP out q;obtain⟨m,hn⟩:=ns;have I1:Inv X pins σ H' s1:=out s1.heap (.refl ..);obtain⟨oC,es,ep,hoC,hdC,hrC⟩:=id hn
 have I2:Inv X (pins++[(C,oC)]) σ H' s1:=I1.pins_of fun p hp=>(b9.mp hp).elim (fun z=>I1.pin p (ay _ z)) fun z=>by
  have e:p=(C,oC):=by simpa using z
  subst e;exact⟨hoC,hH,nL,nF,fun v z=>by have z':oC.data=.cell v:=z;rw[hdC]at z';cases z'⟩
 show wpAny _ X.A (pv (.Name y py) X.env (.ref l)) _ _ s1;refine t9 (z66 I2 hN hy (.inl hl) (v:=.ref l) rfl (fun s'' I''=>?_) (.inr hl));have hC2:=(I''.pin (C,oC) (ay _ (ay _ (bp.mpr rfl)))).1;refine⟨m,⟨oC,es,ep,hC2,hdC,hrC⟩,fun h' sb=>⟨_,H',?_,q⟩⟩;exact(I''.unpinned).turned (t':=s''.toks) (fun b o hb e=>sb.extBut b o hb e) hH nL (.inr nS) nC nP
end
def Its (z:Str):It:=⟨fun i _=>i<z.cps.size,fun i H x H'=>H'=H/\∃c,z.cps[i]?=some c/\x=.str ⟨#[c]⟩,fun i _=>z.cps.size<=i⟩
theorem zg9 {P:ba}{w:World}{K:W.Frag}{tg:Expr}{ty:String}(hty:ty="str_ascii_iterator"\/ty="str_iterator")(it:Addr)(z:Str)(t:Tok):Turn P w K tg (Its z) [it] it (fun i h=>h.IsStrIter it ty z t i) where
 mem:=by simp
 obj:=fun i h st b hb=>by
  have e:b=it:=by simpa using hb
  subst e;obtain⟨o,e,c,d⟩:=st;exact⟨o,e,fun v z=>by rw[d]at z;cases z⟩
 keep:=fun i h h' st k=>let⟨o,e,r⟩:=st;⟨o,k it (by simp) o e,r⟩
 item:=by
  intro X hP hw hK hc i pins s σ H E I hf st hg;subst hP hw hK;obtain⟨f0,f1,f2,f3,f4,f5⟩:=hf it (by simp);have hi:i<z.cps.size:=hg
  have fin:∀(u:Value) (h':Heap) (tk:Nat),SignAt z i u->h'.IsStrIter it ty z t (i+1)->(∀b o,b∉ [it]->s.heap.get? b=some o->h'.get? b=some o)->
    ∃u',some u=some u'/\wpAny (model X.prog X.w) X.A (gu tg (.ref it) u') (fun _ s2=>∃x H',Inv X pins σ H' s2/\RelV x u'/\(Its z).yld i H x H'/\s2.heap.IsStrIter it ty z t (i+1)/\∀b∈[it],H' b=none) E {s with heap:=h',toks:=tk}:=by
   rintro u h' tk ⟨c,t',hx,rfl⟩ st' kk
   have I1:Inv X pins σ H {s with heap:=h',toks:=tk}:=I.turned (fun b o hb e=>kk b o (by simpa using hb) e) f0 f1 f3 f4 f5;obtain⟨o,e,cc,d⟩:=id st';exact⟨_,rfl,zft (s:={s with heap:=h',toks:=tk}) e cc d (by rcases hty with rfl|rfl<;>decide) ⟨.str ⟨#[c]⟩,H,I1,⟨t',rfl⟩,⟨rfl,c,hx,rfl⟩,st',fun b hb=>(hf b hb).1⟩⟩
  rcases hty with rfl|rfl
  ·exact(Walks.strAscii (prog:=X.prog) (w:=X.w) (I.ok.hd hc) it z t).item i s _ _ hi st fun v h' tk hv st' kk=>fin v h' tk hv st' kk
  ·exact(Walks.strWide (prog:=X.prog) (w:=X.w) (I.ok.hd hc) it z t).item i s _ _ hi st fun v h' tk hv st' kk=>fin v h' tk hv st' kk
 done:=by
  intro X hP hw hK hc i pins s σ H E I hf st hg;subst hP hw hK;obtain⟨f0,f1,f2,f3,f4,f5⟩:=hf it (by simp);have hi:z.cps[i]?=none:=by have:z.cps.size<=i:=hg;simpa using this
  rcases hty with rfl|rfl
  ·exact wpAny_pyNext_ascii_end (I.ok.hd hc) st hi fun h' eb=>⟨rfl,I.turned (t':=s.toks) (fun b o hb e=>eb b o hb e) f0 f1 f3 f4 f5⟩
  ·exact wpAny_pyNext_wide_end (I.ok.hd hc) st hi fun h' eb=>⟨rfl,I.turned (t':=s.toks) (fun b o hb e=>eb b o hb e) f0 f1 f3 f4 f5⟩
 self:=fun _ _ _ _ _ st h=>by
  rcases hty with rfl|rfl
  ·exact wpAny_pyIter_striter_ascii st h
  ·exact wpAny_pyIter_striter_wide st h
section
variable {X:Cx}{tg:Expr}
end
theorem zvm {J:It}{n:Nat}{g:TG}{tc:TT}{te:TE}{σ':St}{Q:VK}{H1:Hp}{l:Addr}(P:Nat->List V->Hp->Prop)(hn:n<=az)(h0:P 0 [] (upd H1 l (.lst [])))
  (hlen:∀i acc H,P i acc H->acc.length<=i)
  (hstop:∀acc H,P n acc H->J.stop n H/\Q (.ref l) H) (hgo:∀i acc H,i<n->P i acc H->J.go i H)
  (turn:∀i acc H x H3,i<n->P i acc H->J.yld i H x H3->g x σ' H3 fun σ4 H4=>Keep σ' σ4/\tc σ4 H4 fun b H5=>if b=true then te σ4 H5 fun y H6=>H6 l=some (.lst acc)/\P (i+1) (acc++[y]) (upd H6 l (.lst (acc++[y])))else P (i+1) acc H5):
  ∃P:Nat->Nat->List V->Hp->Prop,(∃m,P 0 m [] (upd H1 l (.lst [])))/\∀i m acc H2,P i m acc H2->(J.stop i H2/\Q (.ref l) H2)\/(J.go i H2/\acc.length<az/\∃N:List V->Hp->Prop,(∀acc' H',N acc' H'->∃m',m'<m/\P (i+1) m' acc' H')/\∀x H3,J.yld i H2 x H3->g x σ' H3 fun σ4 H4=>Keep σ' σ4/\tc σ4 H4 fun b H5=>if b=true then te σ4 H5 fun y H6=>H6 l=some (.lst acc)/\N (acc++[y]) (upd H6 l (.lst (acc++[y])))else N acc H5):=by
 refine⟨fun i m acc H=>i<=n/\m=n-i/\P i acc H,⟨n,dj _,rfl,h0⟩,?_⟩
 rintro i m acc H2 ⟨hi,rfl,p⟩
 by_cases hlt:i<n
 ·have hl:=hlen i acc H2 p;exact .inr ⟨hgo i acc H2 hlt p,by omega,P (i+1),fun acc' H' p'=>⟨n-(i+1),by omega,hlt,rfl,p'⟩,fun x H3 y=>turn i acc H2 x H3 hlt p y⟩
 ·have e:i=n:=by omega
  subst e;exact .inl (hstop acc H2 p)
section
variable {X:Cx}
theorem zd1:OpR X (cq .LtE) (fun x y H Q=>∃i j,x=.str i/\y=.str j/\Q (.bl (!decide (j.cps.toList<i.cps.toList))) H):=by intro pins s σ H x y v u Q I rx ry h;obtain⟨i,j,rfl,rfl,q⟩:=h;obtain⟨t,rfl⟩:=rx;obtain⟨t',rfl⟩:=ry;exact PySem.P.le_str ⟨.bl _,H,I,rfl,q⟩
theorem zdv:OpR X (cq .Gt) (fun x y H Q=>∃i j,x=.str i/\y=.str j/\Q (.bl (decide (j.cps.toList<i.cps.toList))) H):=by intro pins s σ H x y v u Q I rx ry h;obtain⟨i,j,rfl,rfl,q⟩:=h;obtain⟨t,rfl⟩:=rx;obtain⟨t',rfl⟩:=ry;exact PySem.P.gt_str ⟨.bl _,H,I,rfl,q⟩
def rSlS:V->Option Int->Option Int->Hp->VK->Prop:=fun x lo hi H Q=>∃z,x=.str z/\z.length<=az/\Q (.str (Txt.slice z lo hi)) H
theorem zim:SlR X rSlS:=by
 intro pins s σ H x v vl vu lo hi sl Q I rx hs pl pu h;obtain⟨z,rfl,hz,q⟩:=h;obtain⟨t,rfl⟩:=rx;refine⟨"str",_,PySem.F.slot_str_getitem.lookup,vg _ _ _,?_⟩;obtain⟨o,ho,hc,hd⟩:=hs;have fin:∀t' k,EP X pins σ Q (.str (Txt.slice z lo hi) t') {s with toks:=k}:=fun t' k=>⟨.str _,H,I.tok _,⟨_,rfl⟩,q⟩;cases pl with
 |none=>
  cases pu with
  |none=>exact jm (l:=none) (u:=none) (st:=none) ⟨o,ho,hc,hd⟩ rfl (mz ⟨bx (Txt.slice_le z _ _) hz,fin⟩)
  |int j tj=>exact jm (l:=none) (u:=some (j,tj)) (st:=none) ⟨o,ho,hc,hd⟩ rfl (mz ⟨bx (Txt.slice_le z _ _) hz,fin⟩)
 |int i ti=>
  cases pu with
  |none=>exact jm (l:=some (i,ti)) (u:=none) (st:=none) ⟨o,ho,hc,hd⟩ rfl (mz ⟨bx (Txt.slice_le z _ _) hz,fin⟩)
  |int j tj=>exact jm (l:=some (i,ti)) (u:=some (j,tj)) (st:=none) ⟨o,ho,hc,hd⟩ rfl (mz ⟨bx (Txt.slice_le z _ _) hz,fin⟩)
end
def Own (K:W.Frag)(mg:Str->Option Value)(x:Str)(st:Stmt)(ps:List Str):Prop:=∃f fd,Fun K x x st f fd/\mg x=some (.ref f)/\W.keepIn K (.ref f)=true/\Binds K fd ps []
def Cal (P:ba)(w:World)(K:W.Frag)(mg:Str->Option Value)(base:Heap)(k:Nat)(x:Str)(ps:List Str)(sp:Sp):Prop:=∃f fd,FnOk P w K mg base CX0 k f fd ps sp/\mg x=some (.ref f)/\W.keepIn K (.ref f)=true/\Binds K fd ps []
section
variable {P:ba}{w:World}{K:W.Frag}{mg:Str->Option Value}{base:Heap}
theorem zs9 {h:Heap}{x:Str}{st:Stmt}{f:Addr}{ps:List Str}{oc:Value}{od an:Option Addr}{osl:Array (Option Value)}{kV doc pm cdv ct:Value}(X:K.In h)(G:h.Ns b8 mg)
  (a:W.nsIn K b8 x=some (some (.ref f))) (l:K.lookup f=some ⟨oc,od,.func (W.fnOf x x (z1v st) (z14 st) (z0i st) .none kV doc pm an cdv ct),osl⟩) (c:W.codeIn K cdv x=true) (k:W.keepIn K (.ref f)=true)
  (b:∀(kV doc pm:Value) (an:Option Addr) (cdv ct:Value) (us:List Value),us.length=ps.length->ve (W.fnOf x x (z1v st) (z14 st) (z0i st) .none kV doc pm an cdv ct) ⟨us,[]⟩=pure (ps.zip us)):Own K mg x st ps:=
 ⟨f,_,zen l c k,W.mg_of X G a,k,(zen (st:=st) l c k).binds b⟩
theorem Cal.imp {k:Nat}{x:Str}{ps:List Str}{sp sp':Sp}(C:Cal P w K mg base k x ps sp)(h:∀vs H Q E,sp' vs H Q E->sp vs H Q E):Cal P w K mg base k x ps sp':=by obtain⟨f,fd,F,r⟩:=C;exact⟨f,fd,F.imp h,r⟩
end
def isStar:Expr->Bool
 |.Starred ..=>true
 |_=>false
theorem z0l {e:Expr}{es:List Expr}{env:Env}(h:isStar e=false):d3 (e::es) env=(false,eval e env)::d3 es env:=by cases e<;>first|rfl|cases h
theorem z1m {pos:Pos}{env:Env}:∀{es:List Expr},(es.all fun e=> !isStar e)=true->(mv pos (d3 es env)).any (·.1)=false
 | [],_=>rfl
 |e::es,h=>by have h':=ar.mp (dw▸h);rw[z0l (by simpa using h'.1)];show(false||(mv pos (d3 es env)).any (·.1))=false;rw[z1m h'.2];rfl
section
variable {X:Cx}{x:Str}{p pos:Pos}{e:Expr}{es:List Expr}{t:TA}{id T:String}{r:List V->Hp->VK->Prop}
theorem pa_c {te:TE}(ha:PE X e te)(hr:PA X es t)(hs:isStar e=false:=by rfl):PA X (e::es) (zlg te t):=zlv ha hr (z0l hs)
theorem zkg (hc:CallR X (.builtin id) r)(hm:X.mg x=none)(hv:df x=some (.builtin id))(ha:PA X (e::es) t)(hst:((e::es).all fun e=> !isStar e)=true:=by rfl)(hg:Gl X x:=by rfl)(hn:x≠"__name__":=by decide)(hdb:(x==("__debug__":Str))=false:=by decide):PE X (.Call (.Name x p) (e::es) [] pos) (tCB r t):=by rw[dw,ax]at hst;exact zhd hc hg hm hv ha hn hdb (z0l (by simpa using hst.1)) (z1m hst.2)
theorem zhp (hc:CallR X (.type T) r)(hm:X.mg x=none)(hv:df x=some (.type T))(ha:PA X (e::es) t)(hst:((e::es).all fun e=> !isStar e)=true:=by rfl)(hg:Gl X x:=by rfl)(hn:x≠"__name__":=by decide)(hdb:(x==("__debug__":Str))=false:=by decide):PE X (.Call (.Name x p) (e::es) [] pos) (tCB r t):=by rw[dw,ax]at hst;exact zcp hc hg hm hv ha hn hdb (z0l (by simpa using hst.1)) (z1m hst.2)
theorem zgj {k k':Nat}{ps:List Str}{sp:Sp}(C:Cal X.prog X.w X.K X.mg X.base k x ps sp)(hr:Room k' X.A)(ha:PA X (e::es) t)(hst:((e::es).all fun e=> !isStar e)=true:=by rfl)(hk:k<=k':=by decide)(hg:Gl X x:=by rfl)
  (hdb:(x==("__debug__":Str))=false:=by decide):PE X (.Call (.Name x p) (e::es) [] pos) (zr3 sp [] E0 t):=by
 obtain⟨f,fd,F,m,kp,b⟩:=C;rw[dw,ax]at hst;exact zlb F (hr.mono hk) hg m kp b .nil zvo ha hdb (z0l (by simpa using hst.1)) (z1m hst.2)
end
def z38:Expr->Bool
 |.ListComp ..=>true
 |.SetComp ..=>true
 |.DictComp ..=>true
 |_=>false
theorem z43 {e:Expr}(h:z38 e=false)(tg:Option Expr)(n:Nat)(env:Env):l8 e tg n env=pure false:=by cases e<;>first|rfl|cases h
theorem ps_e {X:Cx}{pos:Pos}{e:Expr}{te:TE}(he:PE X e te)(hs:z38 e=false:=by rfl):PS X (.Expr e pos) (zrw te):=zjx he (z43 hs _ _ _)
section
variable {X:Cx}
def zmb (K:W.Frag):R2:=fun x y H Q=>rI0 (fun i j=>.int (i+j)) x y H Q\/(∃i j,x=.str i/\y=.str j/\i.length+j.length<=az/\Q (.str (i++j)) H)\/rCat x y H Q\/zrx K x y H Q
def rLtA:R2:=fun x y H Q=>rI0 (fun i j=>.bl (decide (i<j))) x y H Q\/∃i j,x=.str i/\y=.str j/\Q (.bl (decide (i.cps.toList<j.cps.toList))) H
def rLeA:R2:=fun x y H Q=>rI0 (fun i j=>.bl (decide (i<=j))) x y H Q\/∃i j,x=.str i/\y=.str j/\Q (.bl (!decide (j.cps.toList<i.cps.toList))) H
def rGtA:R2:=fun x y H Q=>rI0 (fun i j=>.bl (decide (j<i))) x y H Q\/∃i j,x=.str i/\y=.str j/\Q (.bl (decide (j.cps.toList<i.cps.toList))) H
def rInA (K:W.Frag)(neg:Bool):R2:=fun x y H Q=>rIn K neg x y H Q\/∃i j,x=.str i/\y=.str j/\Q (.bl (if neg then !(!(du j i 0 j.length 1).isEmpty)else !(du j i 0 j.length 1).isEmpty)) H
def rSlA (K:W.Frag):V->Option Int->Option Int->Hp->VK->Prop:=fun x lo hi H Q=>rSlL K x lo hi H Q\/rSlS x lo hi H Q
def zsk (K:W.Frag):List V->Hp->VK->Prop:=fun xs H Q=>(∃z,xs=[.str z]/\z.length<=az/\Q (.int z.length) H)\/(∃p ys,xs=[.ref p]/\(SqL K H p ys\/SqT K H p ys)/\Q (.int ys.length) H)
theorem zti:OpR X (gf .Add) (zmb X.K):=zo9.or (zbi.or (zpo.or zlh))
theorem opLt:OpR X (cq .Lt) rLtA:=zw5.or zfa
theorem opLe:OpR X (cq .LtE) rLeA:=zup.or zd1
theorem opGt:OpR X (cq .Gt) rGtA:=zvf.or zdv
theorem opIn:OpR X (cq .In) (rInA X.K false):=ze1.or zc4
theorem zni:OpR X (cq .NotIn) (rInA X.K true):=z7y.or z7h
theorem zt9:IxR X (rIx X.K):=zov
theorem zsq:SlR X (rSlA X.K):=zno.or zim
theorem zmh:CallR X (.builtin "len") (zsk X.K):=z6y.or z6s
theorem PI.or {tg iter:Expr}{wi wi':TI}(h:PI X tg iter wi)(h':PI X tg iter wi'):PI X tg iter (fun σ H R=>wi σ H R\/wi' σ H R):=by
 intro pins s σ H R I q;rcases q with q|q
 ·exact h pins s σ H R I q
 ·exact h' pins s σ H R I q
end
def isT (t T:String):Bool:=t==T||(t=="bool"&&T=="int")
def tysA:List String:=["NoneType","bool","int","str","list","tuple","dict"]
def tysB:List String:=["str","int","bool","tuple","list"]
theorem zmo (K:W.Frag):∀t∈tysA,∀T∈tysB,W.kitOne K (.type t) (.type T)=some (isT t T):=by intro t ht T hT;simp only[tysA,aw,cw,or_false]at ht;simp only[tysB,aw,cw,or_false]at hT;rcases ht with rfl|rfl|rfl|rfl|rfl|rfl|rfl<;>rcases hT with rfl|rfl|rfl|rfl|rfl<;>kernel_rfl
section
variable {D:Ends}{σ:St}{H:Hp}{g:TG}{tb:TS}
end
section
variable {σ:St}{H:Hp}{R:It->Hp->Prop}{K:W.Frag}{te:TE}{ta:TA}
end
section
variable {D:Ends}{σ:St}{H:Hp}{Q:VK}{t u:TS}{te ta tb tc':TE}{r r':R2}{K:W.Frag}
theorem zrc {i j:Int}(h:Q (.int (i+j)) H):zmb K (.int i) (.int j) H Q:=.inl ⟨i,j,rfl,rfl,h⟩
theorem zo8 {i j:Str}(c:i.length+j.length<=az)(h:Q (.str (i++j)) H):zmb K (.str i) (.str j) H Q:=.inr (.inl ⟨i,j,rfl,rfl,c,h⟩)
theorem zt8 {i j:Int}(h:Q (.bl (decide (i<j))) H):rLtA (.int i) (.int j) H Q:=.inl ⟨i,j,rfl,rfl,h⟩
theorem zv8 {i j:Int}(h:Q (.bl (decide (i<=j))) H):rLeA (.int i) (.int j) H Q:=.inl ⟨i,j,rfl,rfl,h⟩
theorem zv3 {i j:Int}(h:Q (.bl (decide (j<i))) H):rGtA (.int i) (.int j) H Q:=.inl ⟨i,j,rfl,rfl,h⟩
theorem ztd {i j:Str}(h:Q (.bl (decide (i.cps.toList<j.cps.toList))) H):rLtA (.str i) (.str j) H Q:=.inr ⟨i,j,rfl,rfl,h⟩
theorem ztb {i j:Str}(h:Q (.bl (!decide (j.cps.toList<i.cps.toList))) H):rLeA (.str i) (.str j) H Q:=.inr ⟨i,j,rfl,rfl,h⟩
theorem zvz {i j:Str}(h:Q (.bl (decide (j.cps.toList<i.cps.toList))) H):rGtA (.str i) (.str j) H Q:=.inr ⟨i,j,rfl,rfl,h⟩
section
variable {q:Bool->Hp->Prop}{s t:TT}
end
section
variable {q:List V->Hp->Prop}{a:TA}
end
end
section
variable {g:TG}{tc:TT}{te:TE}{σ':St}{l:Addr}{Q:VK}{H1:Hp}
end
section
variable {K:W.Frag}{H:Hp}{Q:VK}
theorem zvw {z:Str}{c:Nat}(h:Q (.bl (decide (c∈z.cps.toList))) H):rInA K false (.str ⟨#[c]⟩) (.str z) H Q:=.inr ⟨_,z,rfl,rfl,by have e:(if false=true then !(!(du z ⟨#[c]⟩ 0 z.length 1).isEmpty)else !(du z ⟨#[c]⟩ 0 z.length 1).isEmpty)=decide (c∈z.cps.toList):=PySem.StrLaws.found_one z c;rw[e];exact h⟩
theorem zq1 {z:Str}{c:Nat}(h:Q (.bl (!decide (c∈z.cps.toList))) H):rInA K true (.str ⟨#[c]⟩) (.str z) H Q:=.inr ⟨_,z,rfl,rfl,by have e:(if true=true then !(!(du z ⟨#[c]⟩ 0 z.length 1).isEmpty)else !(du z ⟨#[c]⟩ 0 z.length 1).isEmpty)=!decide (c∈z.cps.toList):=congrArg Bool.not (PySem.StrLaws.found_one z c);rw[e];exact h⟩
end
section
variable {K:W.Frag}{H:Hp}{Q:VK}
theorem Same.upd {H:Hp}{p:Addr}{o:HO}(h:H p=none):Same H (L2.upd H p o):=fun b u e=>by rw[z05 (z06 e h)];exact e
theorem zfg {n:Nat}(h:n<=1000):n<=az:=bx h (by rw[dq];decide)
end
theorem TyOf.same {K:W.Frag}{H H':Hp}{x:V}{t:Value}(s:Same H H')(h:TyOf K H x t):TyOf K H' x t:=by
 cases h with
 |non=>exact .non
 |bl b=>exact .bl b
 |int i=>exact .int i
 |str z=>exact .str z
 |flt z=>exact .flt z
 |lst e=>exact .lst (s _ _ e)
 |frz e=>exact .frz (s _ _ e)
 |tup e=>exact .tup (s _ _ e)
 |dK e=>exact .dK (s _ _ e)
 |dT e=>exact .dT (s _ _ e)
 |ins e a b c d f=>exact .ins (s _ _ e) a b c d f
section
variable {X:Cx}{a b c e o value i f:Expr}{es:List Expr}{ta tb tc te td ty tv tx to:TE}{t:TA}{pos pos' p p2 tpos apos cpos:Pos}
section
variable {tA tB':TT}{rest:List Expr}
end
section
variable {st:Stmt}{sts:List Stmt}{u v:TS}
end
end
section
variable {P:ba}{w:World}{K:W.Frag}{mg:Str->Option Value}{base:Heap}
end
end L2
namespace Mi
open PySem
abbrev D:=ah
inductive Res (α:Type) where
 |ok (a:α)|exc (e:D)|no
namespace Res
def bind {α β:Type}(x:Res α)(f:α->Res β):Res β:=match x with
 |.ok a=>f a
 |.exc e=>.exc e
 |.no=>.no
instance:Monad Res where
 pure:=.ok
 bind:=Res.bind
theorem ok_bind {α β:Type}(a:α)(f:α->Res β):(Res.ok a>>=f)=f a:=rfl
def ofO {α:Type}:Option α->Res α
 |some a=>.ok a
 |none=>.no
theorem bind_ok {α β:Type}{x:Res α}{f:α->Res β}{b:β}(h:(x>>=f)=.ok b):∃a,x=.ok a/\f a=.ok b:=by
 cases x with
 |ok a=>exact⟨a,rfl,h⟩
 |exc e=>cases h
 |no=>cases h
end Res
mutual
def imm:ah->Bool
 |.tuple xs=>imms xs
 |.list _=>false
 |.dict _=>false
 |.none=>true
 |.bool _=>true
 |.int _=>true
 |.str _=>true
def imms:List ah->Bool
 | []=>true
 |x::xs=>imm x&&imms xs
end
theorem z1a:∀{xs:List D},imms xs=true↔∀x∈xs,imm x=true
 | []=>by simp[imms]
 |x::xs=>by rw[imms,ax,z1a];simp
abbrev eqD:D->D->Bool:=PyData.eqv
mutual
def shal:Nat->ah->Bool
 |0,.tuple _=>false
 |0,.list _=>false
 |n+1,.tuple xs=>z0m n xs
 |n+1,.list xs=>z0m n xs
 |_,.dict _=>false
 |_,.none=>true
 |_,.bool _=>true
 |_,.int _=>true
 |_,.str _=>true
def z0m:Nat->List ah->Bool
 |_,[]=>true
 |n,x::xs=>shal n x&&z0m n xs
end
theorem z0s {n:Nat}:∀{xs:List D},z0m n xs=true↔∀x∈xs,shal n x=true
 | []=>by simp[z0m]
 |x::xs=>by rw[z0m,ax,z0s];simp
def truth:ah->Bool
 |.none=>false
 |.bool b=>b
 |.int i=>!decide (i=0)
 |.str x=>!decide (x.length=0)
 |.tuple xs=>!xs.isEmpty
 |.list xs=>!xs.isEmpty
 |.dict es=>!es.isEmpty
def ixN (n:Nat)(i:Int):Option Nat:=if 0<=i then(if i<n then some i.toNat else none)else if -(n:Int)<=i then some (i+n).toNat else none
def atI {α:Type}(xs:List α)(i:Int):Option α:=(ixN xs.length i).bind fun j=>xs[j]?
def sIx (n d:Nat):Option Int->Nat
 |none=>d
 |some v=>if v<0 then(v+(n:Int)).toNat else min v.toNat n
def cut {α:Type}(xs:List α)(lo hi:Option Int):List α:=(xs.drop (sIx xs.length 0 lo)).take (sIx xs.length xs.length hi-sIx xs.length 0 lo)
def cut3 {α:Type}(xs:List α)(lo hi st:Option Int):List α:=(sliceRange (i9 lo hi st xs.length).1 (i9 lo hi st xs.length).2.1 (i9 lo hi st xs.length).2.2).filterMap (xs[·]?)
def eqK:ah->ah->Bool
 |.int a,y=>match y with|.int b=>a==b|_=>false
 |.str a,y=>match y with|.str b=>decide (a=b)|_=>false
 |_,_=>false
def isK:ah->Bool
 |.int _=>true
 |.str _=>true
 |_=>false
abbrev Ents:=List (D×D)
def z2h (es:Ents)(k:D):Option D:=(es.find? fun e=>eqK e.1 k).map (·.2)
def dput (es:Ents)(k v:D):Ents:=if es.any (fun e=>eqK e.1 k)then es.map (fun e=>if eqK e.1 k then(e.1,v)else e)else es++[(k,v)]
def ent (e:D×D):D:=.tuple [e.1,e.2]
def z3m:Ents->List D->Option Ents
 |es,[]=>some es
 |es,p::ps=>match p with
  |.tuple [k,v]=>if isK k then z3m (dput es k v) ps else none
  |_=>none
mutual
def ltD:ah->ah->Bool
 |.int a,y=>match y with|.int b=>decide (a<b)|_=>false
 |.str a,y=>match y with|.str b=>decide (a.cps.toList<b.cps.toList)|_=>false
 |.tuple xs,y=>match y with|.tuple ys=>ltDs xs ys|_=>false
 |.none,_=>false
 |.bool _,_=>false
 |.list _,_=>false
 |.dict _,_=>false
def ltDs:List ah->List ah->Bool
 | [],ys=>!ys.isEmpty
 |x::xs,ys=>match ys with|y::ys=>if eqD x y then ltDs xs ys else ltD x y| []=>false
end
mutual
def cmpb:ah->ah->Bool
 |.int _,y=>match y with|.int _=>true|_=>false
 |.str _,y=>match y with|.str _=>true|_=>false
 |.tuple xs,y=>match y with|.tuple ys=>z37 xs ys|_=>false
 |.none,_=>false
 |.bool _,_=>false
 |.list _,_=>false
 |.dict _,_=>false
def z37:List ah->List ah->Bool
 | [],_=>true
 |x::xs,ys=>match ys with|y::ys=>cmpb x y&&z37 xs ys| []=>true
end
def insD (x:D):List D->List D
 | []=>[x]
 |y::ys=>if ltD y x then y::insD x ys else x::y::ys
def z1e:List D->List D
 | []=>[]
 |x::xs=>insD x (z1e xs)
def isI:D->Bool
 |.int _=>true
 |_=>false
def isS:D->Bool
 |.str _=>true
 |_=>false
def ofK (b:Bool)(x:D):Bool:=if b then isI x else isS x
def shps:List Bool->List D->Bool
 | [],xs=>xs.isEmpty
 |b::bs,xs=>match xs with|x::xs=>ofK b x&&shps bs xs| []=>false
def z2y (bs:List Bool):D->Bool
 |.tuple xs=>shps bs xs
 |_=>false
def z6v (xs:List D):Bool:=xs.all isI||xs.all isS||(match xs with|.tuple ys::_=>!ys.isEmpty&&xs.all (z2y (ys.map isI))|_=>false)
def isPk:D->Bool
 |.tuple xs=>xs.all (z2y [false,true])
 |_=>false
def neP:D->Bool
 |.tuple (x::xs)=>(x::xs).all (z2y [false,true])
 |_=>false
def isCo:D->Bool
 |.tuple [.str _,a,b]=>isPk a&&isPk b
 |_=>false
def z36 (xs:List D):Bool:=z6v xs||(xs.all neP||xs.all isCo)
section
inductive G where
 |fr|od|al|nu
 deriving Inhabited,DecidableEq
abbrev Rho:=List (Option (G×D))
abbrev GD:=G×D
inductive Tg where
 |nm (i:Nat)|tp (is:List Nat)
 deriving Inhabited,DecidableEq
inductive C where
 |var (i:Nat)|non|bl (b:Bool)|int (i:Int)|str (x:Str)
 |glob (k:Nat) (x:Str)
 |bin (op:ky) (a b:C)|neg (a:C)
 |cmp (op:CmpOp) (a b:C)|chain (op op':CmpOp) (a b c:C)
 |isN (neg:Bool) (a:C)|isB (neg:Bool) (a:C) (b:Bool)
 |and (a b:C)|or (a b:C)|not (a:C)|ife (c a b:C)
 |tup (xs:C)|lst (xs:C)|rep (xs b:C)|dnew|dis (ks:List Str) (xs:C)
 |ix (a b:C)|sl (a lo hi:C)|sl3 (a lo hi st:C)
 |call (k:Nat) (f:Str) (args:C)|bi (f:String) (args:C)|agg (f:String) (a:C)|isT (a:C) (ts:List String)
 |mt (m:String) (o args:C)
 |fst (parts:C)|fs (a:C) (x:Str) (b:C)
 |comp (nt:Nat) (js:List Nat) (N':List Str) (tg:Tg) (it cond elt:C)
 |compI (i nt:Nat) (N':List Str) (tg:Tg) (cond elt:C)|sortI (i:Nat)|sortK (i:Nat)|upr (a:C)|lk (i:Nat)|d1 (k v:C)|rv (a:C)
 |rng (args:C)|items (o:C)|vals (o:C)|enum (a:C)|zip (a b:C)
 |tv (a:C)|isE (b:Bool) (x:Str)|lset (a:C)
 |nil|cons (a r:C)
 deriving Inhabited
inductive S where
 |nil|seq (a b:S)|pass|bad|asg (t:Tg) (e:C)|setIx (i:Nat) (k v:C)|mut (m:String) (i:Nat) (args:C)
 |drop (e:C)|ret (e:C)|retN|ifS (c:C) (a b:S)|for_ (t:Tg) (it:C) (b:S)|wh (n:Nat) (c:C) (b:S)|brk|cnt|pop (j i:Nat)|pap (i:Nat) (a r:C)|stl (s:S)|dap (e a:C) (b:S)
 |rse (c:Str)|tr (k:Nat) (f:Str) (args:C) (c:Str) (i:Nat) (b:S)|alt (a b:S)
 deriving Inhabited
inductive Out where
 |nx (ρ:Rho)|rt (g:G) (d:D)|bk (ρ:Rho)|ct (ρ:Rho)
abbrev Fn:=List D->Res GD
def LIM:Nat:=1000000
def rdG:G->G
 |.fr=>.al
 |.od=>.od
 |.al=>.al
 |.nu=>.nu
def rdS:Option (Option GD)->Res GD
 |some (some (g,d))=>.ok (if imm d then .fr else rdG g,d)
 |_=>.no
def z21:D->Res Bool
 |.str x=>if x.length<=LIM then .ok (!decide (x.length=0))else .no
 |d=>.ok (truth d)
def rtG:G->G
 |.fr=>.fr
 |.od=>.al
 |.al=>.al
 |.nu=>.fr
def agG:G->G
 |.fr=>.fr
 |.od=>.al
 |.al=>.al
 |.nu=>.nu
def gJ (d:D)(g:G):G:=if imm d then .fr else g
def gN (d:D)(g:G):G:=match d with
 |.list xs=>if imms xs then .fr else g
 |d=>gJ d g
def gAll (xs:List GD):G:=if xs.all (fun x=>x.1==.fr)then .fr else if xs.all (fun x=>x.1==.fr||x.1==.nu)then .nu else .al
def gCo (xs:List GD):G:=if xs.all (fun x=>x.1==.fr)then .fr else .al
def immE (es:Ents):Bool:=es.all fun e=>imm e.2
def z1j:GD->GD
 |(g,d)=>if imm d then(.al,d)else match g,d with
  |.fr,.list xs=>(if imms xs then .fr else .nu,.list xs)
  |.fr,.dict es=>(if immE es then .fr else .nu,.dict es)
  |.fr,d=>(.nu,d)
  |.nu,d=>(.nu,d)
  |.od,d=>(.od,d)
  |.al,d=>(.al,d)
def z2j:GD->GD
 |(g,d)=>match g with|.od=>(.od,d)|_=>(.al,d)
def toAl:Option GD->Option GD
 |some (.fr,d)=>some (.al,d)
 |some (.nu,d)=>some (.al,d)
 |s=>s
def z1g:Option GD->Option GD
 |some (.al,d)=>if imm d then some (.al,d)else none
 |s=>s
def settle:Option GD->Option GD
 |some (.nu,d)=>some (.od,d)
 |some (.al,d)=>if imm d then some (.al,d)else some (.od,d)
 |s=>s
def settleA:Option GD->Option GD
 |some (g,d)=>if imm d then some (.al,d)else some (.od,d)
 |none=>none
def isFr:Option GD->Bool
 |some (.fr,_)=>true
 |_=>false
def noOwn (ρ:Rho):Bool:=ρ.all fun s=>!isFr s
def z3g:Rho->List Nat->List D->G->Option Rho
 |ρ,[],[],_=>some ρ
 |ρ,i::is,d::ds,g=>z3g (ρ.set i (some (z2j (gJ d g,d)))) is ds g
 |_,_,_,_=>none
def z1i:Tg->GD->Rho->Res Rho
 |.nm i,x,ρ=>.ok (ρ.set i (some (z2j x)))
 |.tp is,(g,.tuple ds),ρ=>Res.ofO (z3g ρ is ds g)
 |_,_,_=>.no
def lenD:D->Res D
 |.str x=>if x.length<=LIM then .ok (.int x.length)else .no
 |.tuple xs=>.ok (.int xs.length)
 |.list xs=>.ok (.int xs.length)
 |.dict es=>.ok (.int es.length)
 |_=>.no
def z17 {α:Type}(n:Nat)(xs:List α):List α:=(bv n xs).flatten
def binD:ky->D->D->Res D
 |.Add,.int a,.int b=>.ok (.int (a+b))
 |.Add,.str a,.str b=>if a.length+b.length<=LIM then .ok (.str (a++b))else .no
 |.Add,.list a,.list b=>if a.length+b.length<=LIM then .ok (.list (a++b))else .no
 |.Add,.tuple a,.tuple b=>if a.length+b.length<=LIM then .ok (.tuple (a++b))else .no
 |.Sub,.int a,.int b=>.ok (.int (a-b))
 |.Mult,.str a,.int n=>if 0<=n/\n<=LIM/\a.length*n.toNat<=LIM then .ok (.str ⟨(z17 n.toNat a.cps.toList).toArray⟩)else .no
 |.Mult,.int a,.int b=>if(-(2 ^ 64)<a/\a<2 ^ 64)\/(-(2 ^ 64)<b/\b<2 ^ 64)then .ok (.int (a*b))else .no
 |.FloorDiv,.int a,.int b=>if 0<b/\b<2 ^ 200 then .ok (.int (a/b))else .no
 |.Mod,.int a,.int b=>if 0<b then .ok (.int (a%b))else .no
 |.Pow,.int a,.int b=>if 0<=b/\b<=1000/\a.natAbs<2 ^ 64 then .ok (.int (a ^ b.toNat))else .no
 |_,_,_=>.no
def inD (x:D):D->Res Bool
 |.list xs=>if shal 40 x&&z0m 40 xs then .ok (xs.any fun y=>eqD y x)else .no
 |.tuple xs=>if shal 40 x&&z0m 40 xs then .ok (xs.any fun y=>eqD y x)else .no
 |.dict es=>if isK x then .ok (z2h es x).isSome else .no
 |.str z=>match x with
  |.str w=>(match w.cps.toList with| [c]=>.ok (decide (c∈z.cps.toList))|_=>.no)
  |_=>.no
 |_=>.no
def cmpD:CmpOp->D->D->Res Bool
 |.Eq,x,y=>if shal 40 x&&shal 40 y then .ok (eqD x y)else .no
 |.NotEq,x,y=>if shal 40 x&&shal 40 y then .ok (!eqD x y)else .no
 |.Lt,.int a,.int b=>.ok (decide (a<b))
 |.LtE,.int a,.int b=>.ok (decide (a<=b))
 |.Gt,.int a,.int b=>.ok (decide (b<a))
 |.GtE,.int a,.int b=>.ok (decide (b<=a))
 |.Lt,.str a,.str b=>.ok (decide (a.cps.toList<b.cps.toList))
 |.LtE,.str a,.str b=>.ok (!decide (b.cps.toList<a.cps.toList))
 |.Gt,.str a,.str b=>.ok (decide (b.cps.toList<a.cps.toList))
 |.In,x,y=>inD x y
 |.NotIn,x,y=>inD x y>>=fun b=>.ok (!b)
 |_,_,_=>.no
def ixD:D->D->Res D
 |.list xs,.int i=>Res.ofO (atI xs i)
 |.tuple xs,.int i=>Res.ofO (atI xs i)
 |.str z,.int i=>if z.length<=LIM then Res.ofO ((atI z.cps.toList i).map fun c=>.str ⟨#[c]⟩)else .no
 |.dict es,k=>if isK k then Res.ofO (z2h es k)else .no
 |_,_=>.no
def z3t (z:Str)(lo hi:Option Int):Str:=⟨(cut z.cps.toList lo hi).toArray⟩
def sl3D:D->Option Int->Option Int->Option Int->Res D
 |.list xs,lo,hi,st=>if st=some 0 then .no else .ok (.list (cut3 xs lo hi st))
 |_,_,_,_=>.no
def slD:D->Option Int->Option Int->Res D
 |.list xs,lo,hi=>.ok (.list (cut xs lo hi))
 |.tuple xs,lo,hi=>if sIx xs.length 0 lo=0/\sIx xs.length xs.length hi=xs.length then .no else .ok (.tuple (cut xs lo hi))
 |.str z,lo,hi=>if z.length<=LIM then .ok (.str (z3t z lo hi))else .no
 |_,_,_=>.no
def intO:D->Res (Option Int)
 |.int i=>.ok (some i)
 |_=>.no
def z59:D->Res (List D)
 |.list xs=>.ok xs
 |.tuple xs=>.ok xs
 |.str z=>if z.length<=LIM then .ok (z.cps.toList.map fun c=>.str ⟨#[c]⟩)else .no
 |_=>.no
def sumD:List D->Option Int
 | []=>some 0
 |.int i::r=>(sumD r).map (i+ ·)
 |_=>none
def allB:List D->Option (List Bool)
 | []=>some []
 |.bool b::r=>(allB r).map (b:: ·)
 |_=>none
def allS:List D->Option (List Str)
 | []=>some []
 |.str b::r=>(allS r).map (b:: ·)
 |_=>none
def z4k:D->Res (Bool×List D)
 |.list xs=>.ok (true,xs)
 |.tuple xs=>.ok (false,xs)
 |_=>.no
def aggD (f:String)(l:Bool)(xs:List D):Res D:=
 if f="list"then .ok (.list xs)
 else if f="tuple"then .ok (.tuple xs)
 else if f="sorted"then(if(l||imms xs)&&z36 xs&&decide (xs.length<64)then .ok (.list (z1e xs))else .no)
 else if f="sum"then(if l then Res.ofO ((sumD xs).map .int)else .no)
 else if f="all"then(if l then Res.ofO ((allB xs).map fun bs=>.bool (bs.all id))else .no)
 else if f="any"then(if l then Res.ofO ((allB xs).map fun bs=>.bool (bs.any id))else .no)
 else if f="dict"then Res.ofO ((z3m [] xs).map .dict)
 else .no
def vI:D->Option Int
 |.int i=>some i
 |_=>none
def vT:D->Option (List D)
 |.tuple xs=>some xs
 |_=>none
def min2 (x y:D):Res D:=Res.ofO ((vI x).bind fun a=>(vI y).map fun b=>.int (min a b))
def minD (xs:List D):Res D:=if xs.length=2 then min2 (xs.getD 0 .none) (xs.getD 1 .none)else if xs.length=1 then(match vT (xs.getD 0 .none)with|some ys=>if ys.length=2 then min2 (ys.getD 0 .none) (ys.getD 1 .none)else .no|none=>.no)else .no
def zps:List Str->List Str->List Str
 |acc,[]=>acc
 |acc,z::ws=>zps (if z∈acc then acc else acc++[z]) ws
def ztt:D->Res D
 |.list xs=>match allS xs with
  |some ws=>if decide (ws.length<4000)then .ok (.int ((zps [] ws).length:Int))else .no
  |none=>.no
 |_=>.no
def biD (f:String)(xs:List D):Res D:=
 if f="len"then(match xs with| [x]=>lenD x|_=>.no)
 else if f="max"then(match xs with| [.int a,.int b]=>.ok (.int (max a b))|_=>.no)
 else if f="int"then(match xs with| [.int a]=>.ok (.int a)| [.bool b]=>.ok (.int (if b then 1 else 0))|_=>.no)
 else if f="str"then(match xs with| [.int a]=>if a.natAbs.log2<1920 then .ok (.str (toString a))else .no|_=>.no)
 else if f="min"then minD xs
 else .no
def tyOf:D->String
 |.none=>"NoneType"|.bool _=>"bool"|.int _=>"int"|.str _=>"str"|.tuple _=>"tuple"|.list _=>"list"|.dict _=>"dict"
def isTy (t T:String):Bool:=t==T||(t=="bool"&&T=="int")
def zdu (sep:List Nat):List Str->List Nat
 | []=>[]
 |x::r=>x.cps.toList++(r.map fun p=>sep++p.cps.toList).flatten
def z67 (sep:Str)(xs:List Str):Str:=⟨(zdu sep.cps.toList xs).toArray⟩
def zm4 (sep:Str)(xs:List Str):Nat:=(xs.map (·.length)).sum+xs.length*sep.length
def mtD (m:String)(o:D)(xs:List D):Res D:=
 if m="get"then(match o,xs with|.dict es,[k,d]=>if isK k then .ok ((z2h es k).getD d)else .no|_,_=>.no)
 else if m="join"then(match o,xs with|.str z,[.list ys]=>(match allS ys with|some ss=>if zm4 z ss<=LIM then .ok (.str (z67 z ss))else .no|none=>.no)|_,_=>.no)
 else .no
def rvD:D->Res D
 |.list xs=>if imms xs&&decide (xs.length<=LIM)then .ok (.list xs.reverse)else .no
 |_=>.no
def upD:D->Res D
 |.str z=>if z.cps.toList.all (fun c=>decide (97<=c)&&decide (c<=122))&&decide (z.length<=LIM)then .ok (.str ⟨(z.cps.toList.map (· -32)).toArray⟩)else .no
 |_=>.no
def rngD:List D->Res (List D)
 | [.int n]=>if n<=LIM/\-LIM<=n then .ok ((cu n.toNat).map fun(i:Nat)=>.int i)else .no
 | [.int a,.int b]=>if -LIM<=a/\b<=LIM/\a<=LIM/\-LIM<=b then .ok ((cu (b-a).toNat).map fun(i:Nat)=>.int (a+i))else .no
 | [.int a,.int b,.int c]=>if -LIM<=a/\b<=LIM/\a<=LIM/\-LIM<=b/\0<c/\c<=LIM then .ok ((cu (if a<b then((b-a-1)/c+1).toNat else 0)).map fun(i:Nat)=>.int (a+i*c))else .no
 |_=>.no
def z29:Nat->List D->List D
 |_,[]=>[]
 |i,x::xs=>.tuple [.int i,x]::z29 (i+1) xs
def zipD:List D->List D->List D
 |x::xs,y::ys=>.tuple [x,y]::zipD xs ys
 |_,_=>[]
def seqI:D->Res (List D)
 |.list xs=>if imms xs&&decide (xs.length<=LIM)then .ok xs else .no
 |.tuple xs=>if imms xs&&decide (xs.length<=LIM)then .ok xs else .no
 |_=>.no
def txtD:D->Res Str
 |.str z=>if z.length<=LIM then .ok z else .no
 |.int i=>if i.natAbs.log2<1920 then .ok (toString i)else .no
 |_=>.no
def repD (ys:List GD):D->Res GD
 |.int n=>if imms (ys.map (·.2))=true/\0<=n/\n<=LIM/\ys.length*n.toNat<=LIM then .ok (.fr,.list (z17 n.toNat (ys.map (·.2))))else .no
 |_=>.no
def oc:Option GD->List GD->List GD
 |some y,r=>y::r
 |none,r=>r
def z3e (f:D->Res (Option GD)):List D->Res (List GD)
 | []=>.ok []
 |x::xs=>f x>>=fun o=>z3e f xs>>=fun r=>.ok (oc o r)
variable (Κ:List D)(Φ:List Fn)
mutual
def evE:C->Rho->Res GD
 |.var i,ρ=>rdS ρ[i]?
 |.non,_=>.ok (.fr,.none)
 |.bl b,_=>.ok (.fr,.bool b)
 |.int i,_=>.ok (.fr,.int i)
 |.str x,_=>.ok (.fr,.str x)
 |.isE b _,_=>.ok (.fr,.bool b)
 |.lset a,ρ=>evE a ρ>>=fun x=>ztt x.2>>=fun d=>.ok (.fr,d)
 |.glob k _,_=>match Κ[k]? with|some d=>.ok (gJ d .al,d)|none=>.no
 |.bin op a b,ρ=>evE a ρ>>=fun x=>evE b ρ>>=fun y=>binD op x.2 y.2>>=fun d=>.ok (gN d (gAll [x,y]),d)
 |.neg a,ρ=>evE a ρ>>=fun x=>match x.2 with|.int i=>.ok (.fr,.int (-i))|_=>.no
 |.cmp op a b,ρ=>evE a ρ>>=fun x=>evE b ρ>>=fun y=>cmpD op x.2 y.2>>=fun b=>.ok (.fr,.bool b)
 |.chain op op' a b c,ρ=>evE a ρ>>=fun x=>evE b ρ>>=fun y=>cmpD op x.2 y.2>>=fun k=>if k then evE c ρ>>=fun z=>cmpD op' y.2 z.2>>=fun k'=>.ok (.fr,.bool k')else .ok (.fr,.bool false)
 |.isN ng a,ρ=>evE a ρ>>=fun x=>.ok (.fr,.bool (match x.2 with|.none=>!ng|_=>ng))
 |.isB ng a b,ρ=>evE a ρ>>=fun x=>match x.2 with|.bool c=>.ok (.fr,.bool (if ng then !(c==b)else c==b))|_=>.no
 |.and a b,ρ=>evE a ρ>>=fun x=>match x.2 with|.bool c=>if c then evE b ρ else .ok (.fr,.bool false)|_=>.no
 |.or a b,ρ=>evE a ρ>>=fun x=>match x.2 with|.bool c=>if c then .ok (.fr,.bool true)else evE b ρ|_=>.no
 |.not a,ρ=>evE a ρ>>=fun x=>z21 x.2>>=fun c=>.ok (.fr,.bool (!c))
 |.ife c a b,ρ=>evT c ρ>>=fun k=>if k then evE a ρ else evE b ρ
 |.tup xs,ρ=>evA xs ρ>>=fun ys=>.ok (gJ (.tuple (ys.map (·.2))) (gAll ys),.tuple (ys.map (·.2)))
 |.lst xs,ρ=>evA xs ρ>>=fun ys=>.ok (gAll ys,.list (ys.map (·.2)))
 |.rep xs b,ρ=>evA xs ρ>>=fun ys=>evE b ρ>>=fun n=>repD ys n.2
 |.dnew,_=>.ok (.fr,.dict [])
 |.ix a b,ρ=>evE a ρ>>=fun x=>evE b ρ>>=fun y=>ixD x.2 y.2>>=fun d=>.ok (gJ d x.1,d)
 |.sl a lo hi,ρ=>evE a ρ>>=fun x=>evO lo ρ>>=fun l=>evO hi ρ>>=fun h=>slD x.2 l h>>=fun d=>.ok (gN d (gAll [x]),d)
 |.sl3 a lo hi st,ρ=>evE a ρ>>=fun x=>evO lo ρ>>=fun l=>evO hi ρ>>=fun h=>(evE st ρ>>=fun z=>intO z.2)>>=fun k=>sl3D x.2 l h k>>=fun d=>.ok (gJ d (gAll [x]),d)
 |.call k _ args,ρ=>evA args ρ>>=fun ys=>match Φ[k]? with|some m=>m (ys.map (·.2))>>=fun r=>.ok (gJ r.2 (rtG r.1),r.2)|none=>.no
 |.bi f args,ρ=>evA args ρ>>=fun ys=>biD f (ys.map (·.2))>>=fun d=>.ok (gJ d .al,d)
 |.agg f a,ρ=>evG a ρ>>=fun w=>aggD f w.2.1 w.2.2>>=fun d=>.ok (gJ d (if imms w.2.2 then .fr else agG w.1),d)
 |.isT a ts,ρ=>evE a ρ>>=fun x=>.ok (.fr,.bool (ts.any fun T=>isTy (tyOf x.2) T))
 |.mt m o args,ρ=>evE o ρ>>=fun x=>evA args ρ>>=fun ys=>mtD m x.2 (ys.map (·.2))>>=fun d=>.ok (gJ d .al,d)
 |.fs a x b,ρ=>evE a ρ>>=fun u=>txtD u.2>>=fun p=>evE b ρ>>=fun v=>txtD v.2>>=fun q=>if p.length+x.length+q.length<=LIM then .ok (.fr,.str (p++x++q))else .no
 |.sortK i,ρ=>match ρ[i]? with
  |some (some (_,.dict es))=>if((es.map (·.1)).all isI||(es.map (·.1)).all isS)&&decide (es.length<64)then .ok (.fr,.list (z1e (es.map (·.1))))else .no
  |_=>.no
 |.lk i,ρ=>match ρ[i]? with
  |some (some (_,.dict es))=>if decide (es.length<=LIM)then .ok (.fr,.list (es.map (·.1)))else .no
  |_=>.no
 |.d1 k v,ρ=>evE k ρ>>=fun x=>evE v ρ>>=fun y=>if isK x.2&&imm y.2 then .ok (.fr,.dict [(x.2,y.2)])else .no
 |.rv a,ρ=>evE a ρ>>=fun x=>rvD x.2>>=fun d=>.ok (.fr,d)
 |.upr a,ρ=>evE a ρ>>=fun x=>upD x.2>>=fun d=>.ok (.fr,d)
 |.sortI i,ρ=>match ρ[i]? with
  |some (some (_,.dict es))=>if immE es&&z6v (es.map ent)&&decide (es.length<64)then .ok (.fr,.list (z1e (es.map ent)))else .no
  |_=>.no
 |.compI i nt _ tg cond elt,ρ=>match ρ[i]? with
  |some (some (_,.dict es))=>if immE es&&decide (es.length<=LIM)then z3e (fun x=>z1i tg (gJ x .al,x) (bv nt none++([]:List Nat).map fun j=>toAl (([]:Rho).getD j none))>>=fun ρ1=>evT cond ρ1>>=fun k=>if k then evE elt ρ1>>=fun y=>.ok (some y)else .ok none) (es.map ent)>>=fun ys=>.ok (gCo ys,.list (ys.map (·.2)))else .no
  |_=>.no
 |.comp nt js _ tg it cond elt,ρ=>evW it ρ>>=fun w=>z3e (fun x=>z1i tg (gJ x w.1,x) (bv nt none++js.map fun j=>toAl (ρ.getD j none))>>=fun ρ1=>evT cond ρ1>>=fun k=>if k then evE elt ρ1>>=fun y=>.ok (some y)else .ok none) w.2>>=fun ys=>.ok (gCo ys,.list (ys.map (·.2)))
 |_,_=>.no
def evT:C->Rho->Res Bool
 |.and a b,ρ=>evT a ρ>>=fun c=>if c then evT b ρ else .ok false
 |.or a b,ρ=>evT a ρ>>=fun c=>if c then .ok true else evT b ρ
 |.not a,ρ=>evT a ρ>>=fun c=>.ok (!c)
 |.nil,_=>.ok true
 |.tv a,ρ=>evE a ρ>>=fun x=>z21 x.2
 |_,_=>.no
def evA:C->Rho->Res (List GD)
 |.nil,_=>.ok []
 |.cons a r,ρ=>evE a ρ>>=fun x=>evA r ρ>>=fun xs=>.ok (x::xs)
 |_,_=>.no
def evO:C->Rho->Res (Option Int)
 |.nil,_=>.ok none
 |.tv a,ρ=>evE a ρ>>=fun x=>intO x.2
 |_,_=>.no
def evG:C->Rho->Res (G×Bool×List D)
 |.tv a,ρ=>evE a ρ>>=fun x=>z4k x.2>>=fun p=>.ok (x.1,p)
 |_,_=>.no
def evW:C->Rho->Res (G×List D)
 |.rng args,ρ=>evA args ρ>>=fun ys=>rngD (ys.map (·.2))>>=fun xs=>.ok (.fr,xs)
 |.tv a,ρ=>evE a ρ>>=fun x=>z59 x.2>>=fun xs=>.ok (x.1,xs)
 |.enum a,ρ=>evE a ρ>>=fun x=>seqI x.2>>=fun xs=>.ok (.al,z29 0 xs)
 |.zip a b,ρ=>evE a ρ>>=fun x=>evE b ρ>>=fun y=>seqI x.2>>=fun xs=>seqI y.2>>=fun ys=>.ok (.al,zipD xs ys)
 |_,_=>.no
end
def outB:Res Out->(Rho->Res Out)->Res Out
 |.ok (.nx ρ),k=>k ρ
 |r,_=>r
def forD (f:D->Rho->Res Out):List D->Rho->Res Out
 | [],ρ=>.ok (.nx ρ)
 |x::xs,ρ=>match f x ρ with
  |.ok (.nx ρ')=>forD f xs ρ'
  |.ok (.ct ρ')=>forD f xs ρ'
  |.ok (.bk ρ')=>.ok (.nx ρ')
  |.ok (.rt g d)=>.ok (.rt g d)
  |.exc e=>.exc e
  |.no=>.no
def whD (c:Rho->Res Bool)(f:Rho->Res Out):Nat->Rho->Res Out
 |0,_=>.no
 |n+1,ρ=>c ρ>>=fun k=>if k then(match f ρ with
  |.ok (.nx ρ')=>whD c f n ρ'
  |.ok (.ct ρ')=>whD c f n ρ'
  |.ok (.bk ρ')=>.ok (.nx ρ')
  |.ok (.rt g d)=>.ok (.rt g d)
  |.exc e=>.exc e
  |.no=>.no)else .ok (.nx ρ)
def okIn (x:GD):Bool:=imm x.2||(x.1==.fr||x.1==.nu)
def putAt (xs:List D)(ys:List GD):Res (List D):=match ys with
 | [x,y]=>(match x.2 with
  |.int i=>if okIn y&&decide (xs.length<LIM)&&decide (0<=i)&&decide (i<=xs.length)then .ok (xs.take i.toNat++y.2::xs.drop i.toNat)else .no
  |_=>.no)
 |_=>.no
def zmw (xs:List D)(ys:List GD):Res (List D):=match ys with
 | [x]=>(match x.2 with
  |.int i=>if decide (0<=i)&&decide (i<xs.length)&&decide (xs.length<=LIM)then .ok (xs.eraseIdx i.toNat)else .no
  |_=>.no)
 |_=>.no
def mutD (m:String)(xs:List D)(ys:List GD):Res (List D):=
 if m="append"then(match ys with| [y]=>if okIn y&&decide (xs.length<LIM)then .ok (xs++[y.2])else .no|_=>.no)
 else if m="insert"then putAt xs ys
 else if m="pop"then zmw xs ys
 else .no
def ownB (ρ:Rho)(i:Nat):Bool:=match ρ[i]? with
 |some (some (.fr,_))=>true
 |_=>false
def zh4 (i:Nat)(ρ:Rho):Res (G×List D×Rho):=match ρ[i]? with
 |some (some (.fr,d))=>z59 d>>=fun xs=>.ok (.al,xs,ρ.set i (some (.al,d)))
 |_=>.no
def zku:Option GD->Option GD
 |some (.fr,.list xs)=>some (.al,.list xs)
 |s=>s
def evAl (x:GD)(ρ:Rho):Res (G×List D×Rho):=match x.2 with
 |.list xs=>if imms xs then .ok (.al,xs,ρ.map zku)else .no
 |_=>.no
def z58 (x:GD):Bool:=match x.2 with
 |.list _=>!(x.1==.al)
 |_=>true
def evEn (ys:List GD)(ρ:Rho):Res (G×List D×Rho):=match ys with
 | [x]=>if z58 x then seqI x.2>>=fun xs=>.ok (.al,z29 0 xs,ρ)else .no
 |_=>.no
def evZi (ys:List GD)(ρ:Rho):Res (G×List D×Rho):=match ys with
 | [x,y]=>if z58 x&&z58 y then seqI x.2>>=fun xs=>seqI y.2>>=fun zs=>.ok (.al,zipD xs zs,ρ)else .no
 |_=>.no
def isAl (it:C)(ρ:Rho):Bool:=match evW Κ Φ it ρ with
 |.ok w=>w.1==.al
 |_=>false
def evN (it:C)(ρ:Rho):Res (G×List D×Rho):=evW Κ Φ it ρ>>=fun w=>if w.1==.al then .no else .ok (w.1,w.2,ρ)
def evF (it:C)(ρ:Rho):Res (G×List D×Rho):=match it with
 |.tv (.var i)=>if ownB ρ i then zh4 i ρ else if isAl Κ Φ it ρ then evE Κ Φ (.var i) ρ>>=fun x=>evAl x ρ else evN Κ Φ it ρ
 |.tv a=>if isAl Κ Φ it ρ then evE Κ Φ a ρ>>=fun x=>evAl x ρ else evN Κ Φ it ρ
 |.enum a=>evA Κ Φ (.cons a .nil) ρ>>=fun ys=>evEn ys ρ
 |.zip a b=>evA Κ Φ (.cons a (.cons b .nil)) ρ>>=fun ys=>evZi ys ρ
 |it=>evN Κ Φ it ρ
def outI (i:Nat):Res Out->Res Out
 |.ok (.nx ρ)=>.ok (.nx (ρ.set i none))
 |.ok (.rt g d)=>.ok (.rt g d)
 |_=>.no
def excOf:Res GD->Option Str
 |.exc (.str c)=>some c
 |_=>none
def zrb (xs:List D):Option D:=match xs.getLast? with
 |some d=>if imm d then some d else none
 |none=>none
def z2t:Option GD->Option GD
 |some (g,d)=>if imm d then some (.al,d)else match g with|.od=>some (.od,d)|_=>none
 |none=>none
def dapD (x y:GD):Res Unit:=match x.2 with
 |.list xs=>if x.1==.nu&&imm y.2&&decide (xs.length<LIM)then .ok ()else .no
 |_=>.no
def zef:Res Out->Res Out
 |.ok (.rt g d)=>.ok (.rt g d)
 |_=>.no
def evS:S->Rho->Res Out
 |.nil,ρ=>.ok (.nx ρ)
 |.seq a b,ρ=>outB (evS a ρ) (evS b)
 |.pass,ρ=>.ok (.nx ρ)
 |.bad,_=>.no
 |.asg (.nm i) e,ρ=>evE Κ Φ e ρ>>=fun x=>.ok (.nx (ρ.set i (some (z1j x))))
 |.asg t e,ρ=>evE Κ Φ e ρ>>=fun x=>z1i t x ρ>>=fun ρ'=>.ok (.nx ρ')
 |.setIx i k v,ρ=>evE Κ Φ v ρ>>=fun y=>evE Κ Φ k ρ>>=fun x=>match ρ[i]? with
  |some (some (.fr,.dict es))=>if isK x.2&&okIn y&&decide (es.length<LIM)then .ok (.nx ((ρ.set i (some (.fr,.dict (dput es x.2 y.2)))).map z1g))else .no
  |some (some (.fr,.list xs))=>(match x.2 with
   |.int j=>if okIn y then(match ixN xs.length j with|some n=>.ok (.nx ((ρ.set i (some (.fr,.list (xs.set n y.2)))).map z1g))|none=>.no)else .no
   |_=>.no)
  |_=>.no
 |.mut m i args,ρ=>evA Κ Φ args ρ>>=fun ys=>match ρ[i]? with
  |some (some (.fr,.list xs))=>mutD m xs ys>>=fun xs'=>.ok (.nx ((ρ.set i (some (.fr,.list xs'))).map z1g))
  |_=>.no
 |.drop e,ρ=>evE Κ Φ e ρ>>=fun _=>.ok (.nx ρ)
 |.ret e,ρ=>match e with
  |.var i=>match ρ[i]? with
   |some (some (g,d))=>.ok (.rt (if imm d then .fr else rtG g) d)
   |_=>.no
  |e=>evE Κ Φ e ρ>>=fun x=>.ok (.rt (rtG x.1) x.2)
 |.retN,_=>.ok (.rt .fr .none)
 |.ifS c a b,ρ=>evT Κ Φ c ρ>>=fun k=>if k then evS a ρ else evS b ρ
 |.for_ t it b,ρ=>evF Κ Φ it ρ>>=fun w=>forD (fun x ρ1=>z1i t (gJ x w.1,x) ρ1>>=fun ρ2=>evS b ρ2) w.2.1 w.2.2
 |.wh n c b,ρ=>whD (evT Κ Φ c) (evS b) n ρ
 |.brk,ρ=>.ok (.bk ρ)
 |.cnt,ρ=>.ok (.ct ρ)
 |.pop j i,ρ=>match ρ[i]? with
  |some (some (.fr,.list xs))=>(match zrb xs with
   |some d=>.ok (.nx (((ρ.set i (some (.fr,.list xs.dropLast))).map z1g).set j (some (.al,d))))
   |none=>.no)
  |_=>.no
 |.pap i a r,ρ=>evE Κ Φ a ρ>>=fun x=>match ρ[i]? with
  |some (some (.fr,.list xs))=>(match zrb xs with
   |some d=>evA Κ Φ r ((ρ.set i (some (.fr,.list xs.dropLast))).map z1g)>>=fun zs=>if imm x.2&&imms (zs.map (·.2))&&decide (xs.length<=LIM)then .ok (.nx ((((ρ.set i (some (.fr,.list xs.dropLast))).map z1g).set i (some (.fr,.list (xs.dropLast++[.tuple (x.2::d::zs.map (·.2))])))).map z1g))else .no
   |none=>.no)
  |_=>.no
 |.dap e a b,ρ=>evE Κ Φ e ρ>>=fun x=>evE Κ Φ a ρ>>=fun y=>dapD x y>>=fun _=>zef (evS b (ρ.map z2t))
 |.stl s,ρ=>if noOwn ρ then evS s (ρ.map settle)else evS s (ρ.map settleA)
 |.rse _,_=>.no
 |.tr k _ args c i b,ρ=>evA Κ Φ args ρ>>=fun ys=>match Φ[k]? with
  |some m=>(match m (ys.map (·.2))with
   |.ok _=>.ok (.nx ρ)
   |r=>if excOf r=some c then outI i (evS b (ρ.set i none))else .no)
  |none=>.no
 |.alt a b,ρ=>match evS a ρ with
  |.ok o=>.ok o
  |_=>evS b ρ
def evX (Κ:List D)(Φ:List Fn)(_:S)(_:Rho):Option Str:=none
def runD (n:Nat)(s:S)(ds:List D):Res GD:=match evS Κ Φ s (ds.map (fun d=>some (.od,d))++bv (n-ds.length) none)with
 |.ok (.nx _)=>.ok (.fr,.none)
 |.ok (.rt g d)=>.ok (g,d)
 |.ok _=>.no
 |_=>match evX Κ Φ s (ds.map (fun d=>some (.od,d))++bv (n-ds.length) none)with
  |some c=>.exc (.str c)
  |none=>.no
end
end Mi
namespace Mi
open PySem PySem.Spec PyProof.Rows L2
def kD:Key->D
 |.inl i=>.int i
 |.inr x=>.str x
def keyOk:Key->Prop
 |.inl _=>True
 |.inr x=>PyData.strOk x=true
def KL (K:W.Frag)(a:Addr)(xs:List V):Prop:=∃(o:Obj) (its:Array Value) (n:Nat),K.lookup a=some o/\o.cls=.type "list"/\o.dict=none/\o.data=.seq its n/\its.size<=az/\Vals xs its.toList
abbrev Ad:=Option Addr
def FL (K:W.Frag)(H:Hp)(a:Addr)(xs:List V):Prop:=(∃o,H a=some (.frz o (.lst xs)))\/KL K a xs
def nw (H:Hp):Ad->Prop
 |some a=>H a=none
 |none=>False
section
variable (K:W.Frag)(H:Hp)(B:Ad->Prop)
mutual
def Rep:V->ah->Prop
 |v,.none=>v=.non
 |v,.bool b=>v=.bl b
 |v,.int i=>v=.int i
 |v,.str x=>v=.str x/\PyData.strOk x=true
 |v,.tuple ds=>∃a vs,v=.ref a/\SqT K H a vs/\Reps vs ds
 |v,.list ds=>∃a vs,v=.ref a/\((H a=some (.lst vs)/\B (some a))\/(FL K H a vs/\B none))/\Reps vs ds
 |v,.dict es=>∃a kvs,v=.ref a/\H a=some (.dK kvs)/\B (some a)/\REs kvs es
def Reps:List V->List ah->Prop
 |vs,[]=>vs=[]
 |vs,d::ds=>∃v r,vs=v::r/\Rep v d/\Reps r ds
def REs:List (Key×V)->List (ah×ah)->Prop
 |kvs,[]=>kvs=[]
 |kvs,(kd,d)::es=>∃k v r,kvs=(k,v)::r/\kd=kD k/\keyOk k/\Rep v d/\REs r es
end
end
def Fix:HO->Prop
 |.tup _=>True
 |.frz _ (.lst _)=>True
 |.frz _ (.tup _)=>True
 |_=>False
section
variable {K:W.Frag}{H H':Hp}{B B':Ad->Prop}
theorem FL.keep {a:Addr}{vs:List V}(hH:∀a o,H a=some o->(B (some a)\/Fix o)->H' a=some o)(r:FL K H a vs):FL K H' a vs:=by
 rcases r with⟨o,r⟩|r
 ·exact .inl ⟨o,hH a _ r (.inr True.intro)⟩
 ·exact .inr r
theorem _root_.L2.SqT.keep {a:Addr}{vs:List V}(hH:∀a o,H a=some o->(B (some a)\/Fix o)->H' a=some o)(r:SqT K H a vs):SqT K H' a vs:=by
 rcases r with(r|⟨o,r⟩)|r
 ·exact .inl (.inl (hH a _ r (.inr True.intro)))
 ·exact .inl (.inr ⟨o,hH a _ r (.inr True.intro)⟩)
 ·exact .inr r
mutual
theorem Rep.keep (hH:∀a o,H a=some o->(B (some a)\/Fix o)->H' a=some o)(hB:∀a,B a->B' a):∀{v:V} (d:ah),Rep K H B v d->Rep K H' B' v d
 |v,.none,r=>r
 |v,.bool b,r=>r
 |v,.int i,r=>r
 |v,.str x,r=>r
 |v,.tuple ds,r=>by obtain⟨a,vs,e,h,q⟩:=r;exact⟨a,vs,e,h.keep hH,Reps.keep hH hB ds q⟩
 |v,.list ds,r=>by
  obtain⟨a,vs,e,h,q⟩:=r;refine⟨a,vs,e,?_,Reps.keep hH hB ds q⟩;rcases h with⟨h,b⟩|h
  ·exact .inl ⟨hH a _ h (.inl b),hB _ b⟩
  ·exact .inr ⟨FL.keep hH h.1,hB _ h.2⟩
 |v,.dict es,r=>by obtain⟨a,kvs,e,h,b,q⟩:=r;exact⟨a,kvs,e,hH a _ h (.inl b),hB _ b,REs.keep hH hB es q⟩
theorem Reps.keep (hH:∀a o,H a=some o->(B (some a)\/Fix o)->H' a=some o)(hB:∀a,B a->B' a):∀{vs:List V} (ds:List ah),Reps K H B vs ds->Reps K H' B' vs ds
 |vs,[],r=>r
 |vs,d::ds,r=>by obtain⟨v,t,e,h,q⟩:=r;exact⟨v,t,e,Rep.keep hH hB d h,Reps.keep hH hB ds q⟩
theorem REs.keep (hH:∀a o,H a=some o->(B (some a)\/Fix o)->H' a=some o)(hB:∀a,B a->B' a):∀{kvs:List (Key×V)} (es:List (ah×ah)),REs K H B kvs es->REs K H' B' kvs es
 |kvs,[],r=>r
 |kvs,(kd,d)::es,r=>by obtain⟨k,v,t,e,e2,ok,h,q⟩:=r;exact⟨k,v,t,e,e2,ok,Rep.keep hH hB d h,REs.keep hH hB es q⟩
end
theorem Rep.same {v:V}{d:D}(s:Same H H')(hB:∀a,B a->B' a)(r:Rep K H B v d):Rep K H' B' v d:=Rep.keep (fun a o e _=>s a o e) hB d r
theorem Reps.same {vs:List V}{ds:List D}(s:Same H H')(hB:∀a,B a->B' a)(r:Reps K H B vs ds):Reps K H' B' vs ds:=Reps.keep (fun a o e _=>s a o e) hB ds r
theorem REs.same {vs:List (Key×V)}{ds:Ents}(s:Same H H')(hB:∀a,B a->B' a)(r:REs K H B vs ds):REs K H' B' vs ds:=REs.keep (fun a o e _=>s a o e) hB ds r
theorem Rep.weak {v:V}{d:D}(hB:∀a,B a->B' a)(r:Rep K H B v d):Rep K H B' v d:=r.same (fun _ _ e=>e) hB
theorem Reps.weak {v:List V}{d:List D}(hB:∀a,B a->B' a)(r:Reps K H B v d):Reps K H B' v d:=r.same (fun _ _ e=>e) hB
mutual
theorem Rep.immB:∀{v:V} (d:ah),imm d=true->Rep K H B v d->Rep K H B' v d
 |v,.none,_,r=>r
 |v,.bool b,_,r=>r
 |v,.int i,_,r=>r
 |v,.str x,_,r=>r
 |v,.tuple ds,i,r=>by obtain⟨a,vs,e,h,q⟩:=r;exact⟨a,vs,e,h,Reps.immB ds (i) q⟩
 |v,.list ds,i,r=>by cases(show false=true from i)
 |v,.dict es,i,r=>by cases(show false=true from i)
theorem Reps.immB:∀{vs:List V} (ds:List ah),imms ds=true->Reps K H B vs ds->Reps K H B' vs ds
 |vs,[],_,r=>r
 |vs,d::ds,i,r=>by have i:=ar.mp (show(imm d&&imms ds)=true from i);obtain⟨v,t,e,h,q⟩:=r;exact⟨v,t,e,Rep.immB d i.1 h,Reps.immB ds i.2 q⟩
end
mutual
theorem Rep.immK (hH:∀a o,H a=some o->Fix o->H' a=some o):∀{v:V} (d:ah),imm d=true->Rep K H B v d->Rep K H' B' v d
 |v,.none,_,r=>r
 |v,.bool b,_,r=>r
 |v,.int i,_,r=>r
 |v,.str x,_,r=>r
 |v,.tuple ds,i,r=>by obtain⟨a,vs,e,h,q⟩:=r;exact⟨a,vs,e,h.keep (B:=fun _=>False) (fun a o e f=>hH a o e (f.resolve_left id)),Reps.immK hH ds (i) q⟩
 |v,.list ds,i,r=>by cases(show false=true from i)
 |v,.dict es,i,r=>by cases(show false=true from i)
theorem Reps.immK (hH:∀a o,H a=some o->Fix o->H' a=some o):∀{vs:List V} (ds:List ah),imms ds=true->Reps K H B vs ds->Reps K H' B' vs ds
 |vs,[],_,r=>r
 |vs,d::ds,i,r=>by have i:=ar.mp (show(imm d&&imms ds)=true from i);obtain⟨v,t,e,h,q⟩:=r;exact⟨v,t,e,Rep.immK hH d i.1 h,Reps.immK hH ds i.2 q⟩
end
theorem Reps.length:∀{vs:List V} {ds:List D},Reps K H B vs ds->vs.length=ds.length
 |vs,[],r=>by have e:vs=[]:=r;subst e;rfl
 |vs,d::ds,r=>by obtain⟨v,t,e,h,q⟩:=r;subst e;rw[br,br,q.length]
theorem Reps.get:∀{vs:List V} {ds:List D} {i:Nat} {d:D},Reps K H B vs ds->ds[i]?=some d->∃v,vs[i]?=some v/\Rep K H B v d
 |vs,[],i,d,r,e=>by simp at e
 |vs,d0::ds,0,d,r,e=>by
  obtain⟨v,t,e1,h,q⟩:=r;subst e1;have:d0=d:=by simpa using e
  subst this;exact⟨v,rfl,h⟩
 |vs,d0::ds,i+1,d,r,e=>by obtain⟨v,t,e1,h,q⟩:=r;subst e1;obtain⟨u,h1,h2⟩:=q.get (i:=i) (d:=d) (by simpa using e);exact⟨u,by simpa using h1,h2⟩
theorem Reps.getV:∀{vs:List V} {ds:List D} {i:Nat} {v:V},Reps K H B vs ds->vs[i]?=some v->∃d,ds[i]?=some d/\Rep K H B v d
 |vs,[],i,v,r,e=>by have e1:vs=[]:=r;subst e1;simp at e
 |vs,d0::ds,0,v,r,e=>by
  obtain⟨u,t,e1,h,q⟩:=r;subst e1;have:u=v:=by simpa using e
  subst this;exact⟨d0,rfl,h⟩
 |vs,d0::ds,i+1,v,r,e=>by obtain⟨u,t,e1,h,q⟩:=r;subst e1;obtain⟨d,h1,h2⟩:=q.getV (i:=i) (v:=v) (by simpa using e);exact⟨d,by simpa using h1,h2⟩
theorem Reps.cons {v:V}{d:D}{vs:List V}{ds:List D}(h:Rep K H B v d)(r:Reps K H B vs ds):Reps K H B (v::vs) (d::ds):=⟨v,vs,rfl,h,r⟩
theorem Reps.append:∀{vs ws:List V} {ds es:List D},Reps K H B vs ds->Reps K H B ws es->Reps K H B (vs++ws) (ds++es)
 |vs,ws,[],es,r,q=>by have e:vs=[]:=r;subst e;exact q
 |vs,ws,d::ds,es,r,q=>by obtain⟨v,t,e,h,p⟩:=r;subst e;exact⟨v,t++ws,rfl,h,p.append q⟩
theorem Reps.take:∀{vs:List V} {ds:List D} (n:Nat),Reps K H B vs ds->Reps K H B (vs.take n) (ds.take n)
 |vs,ds,0,r=>by rw[List.take_zero,List.take_zero];exact rfl
 |vs,[],n+1,r=>by have e:vs=[]:=r;subst e;exact rfl
 |vs,d::ds,n+1,r=>by obtain⟨v,t,e,h,p⟩:=r;subst e;exact⟨v,t.take n,rfl,h,p.take n⟩
theorem Reps.drop:∀{vs:List V} {ds:List D} (n:Nat),Reps K H B vs ds->Reps K H B (vs.drop n) (ds.drop n)
 |vs,ds,0,r=>r
 |vs,[],n+1,r=>by have e:vs=[]:=r;subst e;exact rfl
 |vs,d::ds,n+1,r=>by obtain⟨v,t,e,h,p⟩:=r;subst e;exact p.drop n
theorem Reps.set {v:V}{d:D}(h:Rep K H B v d):∀{vs:List V} {ds:List D} (n:Nat),Reps K H B vs ds->Reps K H B (vs.set n v) (ds.set n d)
 |vs,[],n,r=>by have e:vs=[]:=r;subst e;exact rfl
 |vs,d::ds,0,r=>by obtain⟨u,t,e,_,p⟩:=r;subst e;exact⟨_,_,rfl,h,p⟩
 |vs,d::ds,n+1,r=>by obtain⟨u,t,e,h0,p⟩:=r;subst e;exact⟨_,_,rfl,h0,p.set h n⟩
mutual
theorem Rep.there:∀{v:V} (d:ah),Rep K H B v d->Rep K H (fun a=>B a/\¬nw H a) v d
 |v,.none,r=>r
 |v,.bool b,r=>r
 |v,.int i,r=>r
 |v,.str x,r=>r
 |v,.tuple ds,r=>by obtain⟨a,vs,e,h,q⟩:=r;exact⟨a,vs,e,h,Reps.there ds q⟩
 |v,.list ds,r=>by
  obtain⟨a,vs,e,h,q⟩:=r;refine⟨a,vs,e,?_,Reps.there ds q⟩;rcases h with⟨h,b⟩|h
  ·refine .inl ⟨h,b,fun z=>?_⟩;have z':H a=none:=z;rw[h]at z';cases z'
  ·exact .inr ⟨h.1,h.2,fun z=>z⟩
 |v,.dict es,r=>by obtain⟨a,kvs,e,h,b,q⟩:=r;exact⟨a,kvs,e,h,⟨b,fun z=>by have z':H a=none:=z;rw[h]at z';cases z'⟩,REs.there es q⟩
theorem Reps.there:∀{vs:List V} (ds:List ah),Reps K H B vs ds->Reps K H (fun a=>B a/\¬nw H a) vs ds
 |vs,[],r=>r
 |vs,d::ds,r=>by obtain⟨v,t,e,h,q⟩:=r;exact⟨v,t,e,Rep.there d h,Reps.there ds q⟩
theorem REs.there:∀{kvs:List (Key×V)} (es:List (ah×ah)),REs K H B kvs es->REs K H (fun a=>B a/\¬nw H a) kvs es
 |kvs,[],r=>r
 |kvs,(kd,d)::es,r=>by obtain⟨k,v,t,e,e2,ok,h,q⟩:=r;exact⟨k,v,t,e,e2,ok,Rep.there d h,REs.there es q⟩
end
end
structure Fm where
 H0:Hp
 V:Addr->Prop
 O:Addr->Option Nat
def Bin (F:Fm):Ad->Prop
 |some a=>F.O a=none/\F.H0 a=none/\F.V a
 |none=>False
def visA (F:Fm):Ad->Prop
 |some a=>F.V a
 |none=>True
def oldA (F:Fm):Ad->Prop
 |some a=>F.H0 a≠none/\F.V a
 |none=>True
def Slot (K:W.Frag)(F:Fm)(H:Hp)(i:Nat):G->V->D->Prop
 |.fr,v,d=>∃p,v=.ref p/\F.O p=some i/\((∃vs ds,d=.list ds/\H p=some (.lst vs)/\Reps K H (Bin F) vs ds)\/(∃kvs es,d=.dict es/\H p=some (.dK kvs)/\REs K H (Bin F) kvs es))
 |.od,v,d=>Rep K H (oldA F) v d
 |.al,v,d=>Rep K H (visA F) v d
 |.nu,v,d=>Rep K H (Bin F) v d
structure StOk (K:W.Frag)(F:Fm)(H:Hp)(σ:L2.St)(ρ:Rho):Prop where
 ext:Same F.H0 H
 vis:∀a,H a=none->F.V a
 own:∀a i,F.O a=some i->F.H0 a=none/\F.V a/\((∃xs,H a=some (.lst xs))\/∃kvs,H a=some (.dK kvs))
 len:σ.length=ρ.length
 sl:∀i g d,ρ[i]?=some (some (g,d))->∃v,σ[i]?=some (some v)/\Slot K F H i g v d
def BG (F:Fm)(H:Hp):G->Ad->Prop
 |.fr=>nw H
 |.od=>oldA F
 |.al=>visA F
 |.nu=>fun a=>nw H a\/Bin F a
section
variable {K:W.Frag}{F:Fm}{H H':Hp}{σ:L2.St}{ρ:Rho}
theorem Slot.same {i:Nat}{g:G}{v:V}{d:D}(s:Same H H')(h:Slot K F H i g v d):Slot K F H' i g v d:=by
 cases g with
 |fr=>
  obtain⟨p,e,o,h⟩:=h;refine⟨p,e,o,?_⟩;rcases h with⟨vs,ds,e1,e2,r⟩|⟨vs,ds,e1,e2,r⟩
  ·exact .inl ⟨vs,ds,e1,s _ _ e2,r.same s fun _ b=>b⟩
  ·exact .inr ⟨vs,ds,e1,s _ _ e2,r.same s fun _ b=>b⟩
 |od=>exact Rep.same s (fun _ b=>b) h
 |al=>exact Rep.same s (fun _ b=>b) h
 |nu=>exact Rep.same s (fun _ b=>b) h
theorem _root_.L2.Same.none {a:Addr}(s:Same H H')(h:H' a=none):H a=none:=by
 cases e:H a with
 |none=>rfl
 |some o=>rw[s a o e]at h;cases h
theorem StOk.same (s:Same H H')(h:StOk K F H σ ρ):StOk K F H' σ ρ where
 ext:=fun a o e=>s a o (h.ext a o e)
 vis:=fun a e=>h.vis a (s.none e)
 own:=fun a i e=>by
  obtain⟨h1,h3,h2⟩:=h.own a i e;refine⟨h1,h3,?_⟩;rcases h2 with⟨xs,h2⟩|⟨xs,h2⟩
  ·exact .inl ⟨xs,s _ _ h2⟩
  ·exact .inr ⟨xs,s _ _ h2⟩
 len:=h.len
 sl:=fun i g d e=>by obtain⟨v,h1,h2⟩:=h.sl i g d e;exact⟨v,h1,h2.same s⟩
theorem nw.back {a:Ad}(s:Same H H')(h:nw H' a):nw H a:=by
 cases a with
 |none=>exact h
 |some a=>exact s.none h
theorem nw.vis {a:Ad}(hv:∀a,H a=none->F.V a)(h:nw H a):visA F a:=by
 cases a with
 |none=>exact h.elim
 |some a=>exact hv a h
theorem oldA.vis {a:Ad}(h:oldA F a):visA F a:=by
 cases a with
 |none=>exact h
 |some a=>exact h.2
theorem Bin.vis {a:Ad}(h:Bin F a):visA F a:=by
 cases a with
 |none=>exact h.elim
 |some a=>exact h.2.2
theorem BG.back {g:G}{a:Ad}(s:Same H H')(h:BG F H' g a):BG F H g a:=by
 cases g with
 |fr=>exact nw.back s h
 |od=>exact h
 |al=>exact h
 |nu=>exact h.elim (fun h=>.inl (nw.back s h)) .inr
theorem BG.vis {g:G}{a:Ad}(hv:∀a,H a=none->F.V a)(h:BG F H g a):visA F a:=by
 cases g with
 |fr=>exact nw.vis hv h
 |od=>exact oldA.vis h
 |al=>exact h
 |nu=>exact h.elim (nw.vis hv) Bin.vis
theorem Slot.rep {i:Nat}{g:G}{v:V}{d:D}(so:∀a i,F.O a=some i->F.V a)(h:Slot K F H i g v d):Rep K H (visA F) v d:=by
 cases g with
 |fr=>
  obtain⟨p,e,o,h⟩:=h;rcases h with⟨vs,ds,rfl,e2,r⟩|⟨vs,ds,rfl,e2,r⟩
  ·exact⟨p,vs,e,.inl ⟨e2,so _ _ o⟩,r.weak fun _ b=>b.vis⟩
  ·exact⟨p,vs,e,e2,so _ _ o,REs.same (fun _ _ e=>e) (fun _ b=>b.vis) r⟩
 |od=>exact Rep.weak (fun _ b=>b.vis) h
 |al=>exact h
 |nu=>exact Rep.weak (fun _ b=>Bin.vis b) h
theorem StOk.ownV (h:StOk K F H σ ρ):∀a i,F.O a=some i->F.V a:=fun a i e=>(h.own a i e).2.1
theorem StOk.rd (h:StOk K F H σ ρ){i:Nat}{x:GD}(e:rdS ρ[i]?=.ok x):∃v,σ[i]?=some (some v)/\Rep K H (BG F H x.1) v x.2:=by
 cases e1:ρ[i]? with
 |none=>rw[e1]at e;cases e
 |some o=>
  cases o with
  |none=>rw[e1]at e;cases e
  |some gd=>
   obtain⟨g,d⟩:=gd;rw[e1]at e;obtain⟨v,h1,h2⟩:=h.sl i g d e1;have e':x=(if imm d then .fr else rdG g,d):=(Res.ok.inj e).symm;subst e';refine⟨v,h1,?_⟩;by_cases hi:imm d=true
   ·show Rep K H (BG F H (if imm d=true then _ else _)) v d;rw[if_pos hi];exact Rep.immB d hi (h2.rep h.ownV)
   ·show Rep K H (BG F H (if imm d=true then _ else _)) v d;rw[if_neg hi];cases g with
    |fr=>exact h2.rep h.ownV
    |od=>exact h2
    |al=>exact h2
    |nu=>exact Rep.weak (fun _ b=>.inr b) h2
end
structure Gm where
 N:List Str
 sc:Scope
 blk:Bool:=false
 free:List Str
 fns:List (Str×Nat)
 cst:List Str
 cm:Bool:=true
 xc:Option (Str×Str):=none
 sub:List (Str×Str×Bool):=[]
 rs:List Str:=[]
 hnd:List (Str×Str):=[]
section
variable (Γ:Gm)
def visB (i:Nat)(x:Str):Bool:=(Γ.N[i]?==some x)&&(Γ.sc.names.lookup x==some .local||Γ.sc.names.lookup x==some .cell||Γ.sc.names.lookup x==some .free)&& !(x==("__debug__":Str))&& !(x==("__classdict__":Str))
def glB (x:Str):Bool:=(Γ.sc.names.lookup x==some .globalImplicit)&& !(x==("__debug__":Str))
def bltB (x:Str):Bool:=glB Γ x&&Γ.free.contains x&& !(x==("__name__":Str))
def locB (i:Nat)(x:Str):Bool:=(Γ.N[i]?==some x)&&(Γ.sc.names.lookup x==some .local||(!Γ.blk&&Γ.sc.names.lookup x==some .cell))
end
def tgIx:Tg->List Nat
 |.nm i=>[i]
 |.tp is=>is
def zmr (scope sc:Scope):Scope:={scope with names:=scope.names.map fun(n,k)=>if(k==.free&&sc.kind==.function&&sc.names.lookup n==some .cell)then(n,.cell)else(n,k)}
def plainT:Expr->Bool
 |.UnaryOp .Not _ _=>false
 |.BoolOp _ _ _=>false
 |.IfExp _ _ _ _=>false
 |.Compare _ _ _ _=>false
 |_=>true
def ziz:Expr->Bool
 |.Compare _ _ _ _=>true
 |_=>false
def z62:Expr->Bool
 |.Slice _ _ _ _=>false
 |_=>true
def z4v:Expr->Bool
 |.Call (.Name _ _) [] [] _=>false
 |_=>true
def zh3:Expr->Bool
 |.Set _ _ _=>false
 |_=>true
def isTup:Expr->Bool
 |.Tuple _ _ _=>true
 |_=>false
def vNm:Expr->Option Str
 |.Name x _=>some x
 |_=>none
def vCst:Expr->Option Const
 |.Constant v _ _=>some v
 |_=>none
def vBin:Expr->Option (Expr×ky×Expr)
 |.BinOp l o r _=>some (l,o,r)
 |_=>none
def vUn:Expr->Option (UnaryOp×Expr)
 |.UnaryOp o x _=>some (o,x)
 |_=>none
def vCm:Expr->Option (Expr×List CmpOp×List Expr)
 |.Compare l o r _=>some (l,o,r)
 |_=>none
def vBo:Expr->Option (BoolOp×List Expr×Pos)
 |.BoolOp o xs p=>some (o,xs,p)
 |_=>none
def vIfE:Expr->Option (Expr×Expr×Expr)
 |.IfExp t x y _=>some (t,x,y)
 |_=>none
def vTup:Expr->Option (List Expr)
 |.Tuple es _ _=>some es
 |_=>none
def vLst:Expr->Option (List Expr)
 |.List es _=>some es
 |_=>none
def vSub:Expr->Option (Expr×Expr)
 |.Subscript x i _=>some (x,i)
 |_=>none
def vSli:Expr->Option (Option Expr×Option Expr×Option Expr)
 |.Slice l h s _=>some (l,h,s)
 |_=>none
def vCa:Expr->Option (Expr×List Expr×List p6×Pos)
 |.Call f es k p=>some (f,es,k,p)
 |_=>none
def vAt:Expr->Option (Expr×Str×Pos)
 |.Attribute x n p=>some (x,n,p)
 |_=>none
def vLC:Expr->Option (Expr×List kz×Scope)
 |.ListComp el gs s _=>some (el,gs,s)
 |_=>none
def vOne {α:Type}:List α->Option α
 | [x]=>some x
 |_=>none
def vTwo {α:Type}:List α->Option (α×α)
 | [x,y]=>some (x,y)
 |_=>none
def z5a (e:Expr):Option (Str×List Expr):=(vCa e).bind fun v=>if v.2.2.1.isEmpty then(vNm v.1).map fun x=>(x,v.2.1)else none
def vMt (e:Expr):Option (Expr×Str×List Expr×Bool):=(vCa e).bind fun v=>if v.2.2.1.isEmpty then(vAt v.1).map fun u=>(u.1,u.2.1,v.2.1,u.2.2.endLine==v.2.2.2.line)else none
def zch (f g:Expr->Bool)(o:BoolOp)(p:Pos):List Expr->Bool
 |x::y::r=>f x&&(if r.isEmpty then g y else g (.BoolOp o (y::r) p))
 |_=>false
def ifsB (n:Bool)(f:Expr->Bool):List Expr->Bool
 | []=>n
 |t::r=>r.isEmpty&&f t
def isNl:C->Bool
 |.nil=>true
 |_=>false
def hd1 (f:Str->Bool)(e:Expr):Bool:=(vNm e).any f
def zmu (Γ:Gm):List Nat->List Expr->Bool
 | [],es=>es.isEmpty
 |i::is,es=>match es with|e::es=>hd1 (locB Γ i) e&&zmu Γ is es| []=>false
def zgw (Γ:Gm):Tg->Expr->Bool
 |.nm i,e=>hd1 (locB Γ i) e
 |.tp is,e=>Γ.cm&&(vTup e).any (zmu Γ is)
def znf:ky->Bool
 |.Add|.Sub|.Mult|.FloorDiv|.Mod|.Pow=>true
 |_=>false
def zek:CmpOp->Bool
 |.Is|.IsNot=>false
 |_=>true
def okTy (T:String):Bool:=tysB.contains T
def tyB (Γ:Gm)(T:String)(t:Expr):Bool:=hd1 (fun x=>(x==Str.ofString T)&&bltB Γ x&&okTy T) t
def aggs:List String:=["list","tuple","sorted","sum","dict"]
def tgN:Tg->Bool
 |.nm _=>true
 |.tp _=>false
def isNm:Expr->Bool
 |.Name _ _=>true
 |_=>false
def zmp:C->Expr->Bool
 |.enum _,e=>isTup e
 |.zip _ _,e=>isTup e||isNm e
 |_,_=>true
mutual
def chkE (Γ:Gm):C->Expr->Bool
 |.var i,e=>hd1 (visB Γ i) e
 |.non,e=>decide (vCst e=some .none)
 |.bl b,e=>decide (vCst e=some (.bool b))
 |.int i,e=>decide (vCst e=some (.int i))
 |.str x,e=>decide (vCst e=some (.str x))&&PyData.strOk x
 |.glob _ _,_=>false
 |.bin op a b,e=>(vBin e).any fun v=>decide (op=v.2.1)&&znf op&&chkE Γ a v.1&&chkE Γ b v.2.2
 |.neg _,_=>false
 |.cmp op a b,e=>(vCm e).any fun v=>decide (v.2.1=[op])&&(vOne v.2.2).any fun r=>zek op&& !(ge op r)&&chkE Γ a v.1&&chkE Γ b r
 |.chain _ _ _ _ _,_=>false
 |.isN ng a,e=>(vCm e).any fun v=>decide (v.2.1=[if ng then .IsNot else .Is])&&(vOne v.2.2).any fun r=>decide (vCst r=some .none)&&chkE Γ a v.1
 |.isB _ _ _,_=>false
 |.and a b,e=>(vBo e).any fun v=>decide (v.1=.And)&&zch (fun x=>chkE Γ a x) (fun x=>chkE Γ b x) .And v.2.2 v.2.1
 |.or a b,e=>(vBo e).any fun v=>decide (v.1=.Or)&&zch (fun x=>chkE Γ a x) (fun x=>chkE Γ b x) .Or v.2.2 v.2.1
 |.not a,e=>(vUn e).any fun v=>decide (v.1=.Not)&&chkE Γ a v.2
 |.ife c a b,e=>(vIfE e).any fun v=>chkT Γ c v.1&&chkE Γ a v.2.1&&chkE Γ b v.2.2
 |.tup xs,e=>(vTup e).any fun es=>decide (es.length<=1000)&&chkA Γ xs es
 |.lst xs,e=>(vLst e).any fun es=>decide (es.length<=1000)&&chkA Γ xs es
 |.rep xs b,e=>(vBin e).any fun v=>decide (v.2.1=.Mult)&&(vLst v.1).any fun es=>decide (es.length<=1000)&&chkA Γ xs es&&chkE Γ b v.2.2
 |.dnew,_=>false
 |.ix a b,e=>(vSub e).any fun v=>z62 v.2&&chkE Γ a v.1&&chkE Γ b v.2
 |.fs _ _ _,_=>false
 |.sl a lo hi,e=>(vSub e).any fun v=>(vSli v.2).any fun s=>s.2.2.isNone&&chkE Γ a v.1&&chkO Γ lo s.1&&chkO Γ hi s.2.1
 |.call k f args,e=>(z5a e).any fun v=>(Γ.cm&&(v.1==f))&&glB Γ v.1&&(Γ.fns[k]?==some (f,v.2.length))&&chkA Γ args v.2&& !v.2.isEmpty
 |.lset _,_=>false
 |.bi f args,e=>(z5a e).any fun v=>(v.1==Str.ofString f)&&bltB Γ v.1&&((["len","min","int"].contains f)&&(Γ.cm||f=="int"))&&chkA Γ args v.2&& !v.2.isEmpty
 |.agg f a,e=>(z5a e).any fun v=>(v.1==Str.ofString f)&&bltB Γ v.1&&(aggs.contains f&&Γ.cm)&&(vOne v.2).any fun y=>!isStar y&&chkG Γ a y
 |.isT a ts,e=>(z5a e).any fun v=>(v.1==("isinstance":Str))&&bltB Γ v.1&&(vTwo v.2).any fun y=>!isStar y.1&&chkE Γ a y.1&&(vOne ts).any fun T=>tyB Γ T y.2
 |.mt m o args,e=>(vMt e).any fun v=>((v.2.1==Str.ofString m)&& ["get","join"].contains m&&z4v v.1&&v.2.2.2&&decide (v.2.2.1.length<20))&&chkE Γ o v.1&&chkA Γ args v.2.2.1&& !v.2.2.1.isEmpty
 |.comp nt js N' tg it cond elt,e=>(vLC e).any fun v=>(vOne v.2.1).any fun g=>let Γ':Gm:={Γ with N:=N',sc:=zmr v.2.2 Γ.sc,blk:=true,xc:=none}
  ((Γ.cm&&(g.is_async==0))&&(tgIx tg).all (fun i=>decide (i<nt))&&blkB Γ.N Γ.sc v.2.2 N' nt js&&zh3 g.iter&&decide N'.Nodup)&&(zgw Γ' tg g.target&&zmp it g.target)&&chkW Γ it g.iter&&ifsB (isNl cond) (fun t=>chkT Γ' cond t) g.ifs&&chkE Γ' elt v.1
 |.sortK _,_=>false
 |.lk _,_=>false
 |.rv a,e=>(z5a e).any fun v=>(v.1==("list":Str))&&(Γ.cm&&bltB Γ v.1)&&(vOne v.2).any fun y=>!isStar y&&(z5a y).any fun u=>(u.1==("reversed":Str))&&bltB Γ u.1&&(vOne u.2).any fun z=>!isStar z&&chkE Γ a z
 |.d1 _ _,_=>false
 |.upr _,_=>false
 |.sortI _,_=>false
 |.compI _ _ _ _ _ _,_=>false
 |.sl3 _ _ _ _,_=>false
 |.isE _ _,_=>false
 |.dis _ _,_=>false
 |.fst _,_=>false
 |.rng _,_=>false
 |.items _,_=>false
 |.vals _,_=>false
 |.enum _,_=>false
 |.zip _ _,_=>false
 |.tv _,_=>false
 |.nil,_=>false
 |.cons _ _,_=>false
def chkT (Γ:Gm):C->Expr->Bool
 |.and a b,e=>(vBo e).any fun v=>decide (v.1=.And)&&zch (fun x=>chkT Γ a x) (fun x=>chkT Γ b x) .And v.2.2 v.2.1
 |.or a b,e=>(vBo e).any fun v=>decide (v.1=.Or)&&zch (fun x=>chkT Γ a x) (fun x=>chkT Γ b x) .Or v.2.2 v.2.1
 |.not a,e=>(vUn e).any fun v=>decide (v.1=.Not)&&chkT Γ a v.2
 |.tv a,e=>(plainT e||ziz e)&&chkE Γ a e
 |_,_=>false
def chkA (Γ:Gm):C->List Expr->Bool
 |.nil,es=>es.isEmpty
 |.cons a r,es=>match es with|e::es=>!isStar e&&chkE Γ a e&&chkA Γ r es|_=>false
 |_,_=>false
def chkO (Γ:Gm):C->Option Expr->Bool
 |.nil,e=>e.isNone
 |.tv a,e=>e.any fun e=>chkE Γ a e
 |_,_=>false
def chkW (Γ:Gm):C->Expr->Bool
 |.rng args,e=>(z5a e).any fun v=>(v.1==("range":Str))&&bltB Γ v.1&&chkA Γ args v.2&&(!v.2.isEmpty&&decide (v.2.length<=1))
 |.tv a,e=>zh3 e&&chkE Γ a e
 |.enum a,e=>(z5a e).any fun v=>(v.1==("enumerate":Str))&&bltB Γ v.1&&(vOne v.2).any fun y=>!isStar y&&chkE Γ a y
 |.zip a b,e=>(z5a e).any fun v=>(v.1==("zip":Str))&&bltB Γ v.1&&(vTwo v.2).any fun y=>(!isStar y.1&& !isStar y.2)&&chkE Γ a y.1&&chkE Γ b y.2
 |_,_=>false
def chkG (Γ:Gm):C->Expr->Bool
 |.tv a,e=>chkE Γ a e
 |_,_=>false
end
def isCI:C->Bool
 |.compI _ _ _ _ _ _=>true
 |_=>false
def chkF (Γ:Gm)(it:C)(tg ie:Expr):Bool:=zmp it tg&&chkW Γ it ie
def vAs:Stmt->Option (List Expr×Expr)
 |.Assign t v _=>some (t,v)
 |_=>none
def vEx:Stmt->Option Expr
 |.Expr v _=>some v
 |_=>none
def vRt:Stmt->Option (Option Expr)
 |.Return v _=>some v
 |_=>none
def vIf:Stmt->Option (Expr×List Stmt×List Stmt)
 |.If t A B _=>some (t,A,B)
 |_=>none
def vFo:Stmt->Option (Expr×Expr×List Stmt×List Stmt)
 |.For t i B o _=>some (t,i,B,o)
 |_=>none
def vWh:Stmt->Option (Expr×List Stmt×List Stmt)
 |.While t B o _=>some (t,B,o)
 |_=>none
mutual
def chk1 (Γ:Gm):S->Stmt->Bool
 |.pass,_=>false
 |.bad,_=>true
 |.asg t e,s=>(vAs s).any fun u=>(vOne u.1).any fun x=>zgw Γ t x&& !isCI e&&(tgN t||(!z38 u.2&& !isTup u.2))&&chkE Γ e u.2
 |.setIx i k v,s=>(vAs s).any fun u=>(vOne u.1).any fun x=>(vSub x).any fun w=>hd1 (visB Γ i) w.1&&z62 w.2&& !z38 u.2&&chkE Γ k w.2&&chkE Γ v u.2
 |.mut m i args,s=>(vEx s).any fun c=>(vMt c).any fun v=>(hd1 (visB Γ i) v.1&&(v.2.1==Str.ofString m)&& ["append","insert","pop"].contains m&&v.2.2.2&&decide (v.2.2.1.length<20))&& !v.2.2.1.isEmpty&&chkA Γ args v.2.2.1
 |.drop e,s=>(vEx s).any fun v=>!z38 v&&chkE Γ e v
 |.ret e,s=>(vRt s).any fun o=>o.any fun v=>chkE Γ e v
 |.retN,_=>false
 |.ifS c a b,s=>(vIf s).any fun v=>chkT Γ c v.1&&chkL Γ a v.2.1&&chkL Γ b v.2.2
 |.for_ t it b,s=>Γ.cm&&(vFo s).any fun v=>zgw Γ t v.1&&chkF Γ it v.1 v.2.1&&chkL Γ b v.2.2.1&&v.2.2.2.isEmpty
 |.wh _ c b,s=>(vWh s).any fun v=>chkT Γ c v.1&&chkL Γ b v.2.1&&v.2.2.isEmpty
 |.brk,_=>false
 |.cnt,_=>false
 |.pop _ _,_=>false
 |.pap _ _ _,_=>false
 |.stl s,st=>chk1 Γ s st
 |.rse _,_=>false
 |.tr _ _ _ _ _ _,_=>false
 |.alt _ _,_=>false
 |.nil,_=>false
 |.seq _ _,_=>false
 |.dap _ _ _,_=>false
def chkL (Γ:Gm):S->List Stmt->Bool
 |.nil,l=>l.isEmpty
 |.seq a b,l=>match l with|s::r=>chk1 Γ a s&&chkL Γ b r|_=>false
 |.dap e a b,l=>match l with|s::r=>((vEx s).any fun c=>(vMt c).any fun v=>((v.2.1==("append":Str))&&z4v v.1&&v.2.2.2)&&chkE Γ e v.1&&(vOne v.2.2.1).any fun y=>!isStar y&&chkE Γ a y)&&chkL Γ b r|_=>false
 |_,_=>false
end
def tD (K:W.Frag)(f:Rho->Res GD):TE:=fun σ H Q=>∃ρ F x,StOk K F H σ ρ/\f ρ=.ok x/\∀v H',Same H H'->Rep K H' (BG F H x.1) v x.2->Q v H'
def tDT (K:W.Frag)(f:Rho->Res Bool):TT:=fun σ H Q=>∃ρ F b,StOk K F H σ ρ/\f ρ=.ok b/\∀H',Same H H'->Q b H'
def tDO (K:W.Frag)(f:Rho->Res (Option Int)):TO:=fun σ H Q=>∃ρ F b,StOk K F H σ ρ/\f ρ=.ok b/\∀H',Same H H'->Q b H'
def RGs (K:W.Frag)(F:Fm)(H H':Hp):List V->List GD->Prop
 |vs,[]=>vs=[]
 |vs,x::xs=>∃v r,vs=v::r/\Rep K H' (BG F H x.1) v x.2/\RGs K F H H' r xs
def tDA (K:W.Frag)(f:Rho->Res (List GD)):TA:=fun σ H Q=>∃ρ F xs,StOk K F H σ ρ/\f ρ=.ok xs/\∀vs H',Same H H'->RGs K F H H' vs xs->Q vs H'
theorem _root_.L2.PE.imp {X:Cx}{e:Expr}{t t':TE}(h:PE X e t)(i:∀σ H Q,t' σ H Q->t σ H Q):PE X e t':=fun pins s σ H Q I q=>h pins s σ H Q I (i σ H Q q)
theorem _root_.L2.PT.imp {X:Cx}{e:Expr}{t t':TT}(h:PT X e t)(i:∀σ H Q,t' σ H Q->t σ H Q):PT X e t':=fun pins s σ H Q I q=>h pins s σ H Q I (i σ H Q q)
theorem _root_.L2.PW.imp {X:Cx}{e:Expr}{t t':TT}(h:PW X e t)(i:∀σ H Q,t' σ H Q->t σ H Q):PW X e t':=fun wh pins s σ H Q I q=>h wh pins s σ H Q I (i σ H Q q)
theorem _root_.L2.PA.imp {X:Cx}{e:List Expr}{t t':TA}(h:PA X e t)(i:∀σ H Q,t' σ H Q->t σ H Q):PA X e t':=fun pos pins s σ H Q I q=>h pos pins s σ H Q I (i σ H Q q)
theorem _root_.L2.PO.imp {X:Cx}{e:Option Expr}{t t':TO}(h:PO X e t)(i:∀σ H Q,t' σ H Q->t σ H Q):PO X e t':=fun pins s σ H Q I q=>h pins s σ H Q I (i σ H Q q)
theorem _root_.L2.PS.imp {X:Cx}{e:Stmt}{t t':TS}(h:PS X e t)(i:∀D σ H,t' D σ H->t D σ H):PS X e t':=fun pins s σ H D I q=>h pins s σ H D I (i D σ H q)
theorem _root_.L2.PSs.imp {X:Cx}{e:List Stmt}{t t':TS}(h:PSs X e t)(i:∀D σ H,t' D σ H->t D σ H):PSs X e t':=fun pins s σ H D I q=>h pins s σ H D I (i D σ H q)
section
variable {K:W.Frag}{F:Fm}{H H1 H':Hp}
theorem RGs.same:∀{vs:List V} {xs:List GD},Same H1 H'->Same H H1->RGs K F H H1 vs xs->RGs K F H H' vs xs
 |vs,[],_,_,r=>r
 |vs,x::xs,s,s0,r=>by obtain⟨v,t,e,h,q⟩:=r;exact⟨v,t,e,h.same s fun _ b=>b,q.same s s0⟩
theorem RGs.back:∀{vs:List V} {xs:List GD},Same H H1->RGs K F H1 H' vs xs->RGs K F H H' vs xs
 |vs,[],_,r=>r
 |vs,x::xs,s,r=>by obtain⟨v,t,e,h,q⟩:=r;exact⟨v,t,e,h.weak fun _ b=>b.back s,q.back s⟩
theorem RGs.reps {B:Ad->Prop}:∀{vs:List V} {xs:List GD},(∀x∈xs,∀a,BG F H x.1 a->B a)->RGs K F H H' vs xs->Reps K H' B vs (xs.map (·.2))
 |vs,[],_,r=>r
 |vs,x::xs,hB,r=>by obtain⟨v,t,e,h,q⟩:=r;exact⟨v,t,e,h.weak (hB x ak),q.reps fun y hy=>hB y (au _ hy)⟩
theorem RGs.repsV {vs:List V}{xs:List GD}(hv:∀a,H a=none->F.V a)(r:RGs K F H H' vs xs):Reps K H' (visA F) vs (xs.map (·.2)):=r.reps fun _ _ _ h=>h.vis hv
theorem z5q {xs:List GD}{x:GD}{a:Ad}(hv:∀a,H a=none->F.V a)(hx:x∈xs)(h:BG F H x.1 a):BG F H (gAll xs) a:=by
 unfold gAll;by_cases e:(xs.all fun x=>x.1==.fr)=true
 ·rw[if_pos e];have:=(bg.mp e) x hx;have e1:x.1=.fr:=by simpa using this
  rw[e1]at h;exact h
 ·rw[if_neg e];split
  ·rename_i e2;have:=(bg.mp e2) x hx;rcases g7.mp this with e1|e1
   ·rw[eq_of_beq e1]at h;exact .inl h
   ·rw[eq_of_beq e1]at h;exact h
  ·exact h.vis hv
theorem z6e {xs:List GD}{a:Ad}(hv:∀a,H a=none->F.V a)(s:Same H H1)(h:nw H1 a):BG F H (gAll xs) a:=by
 unfold gAll;by_cases e:(xs.all fun x=>x.1==.fr)=true
 ·rw[if_pos e];exact nw.back s h
 ·rw[if_neg e];split
  ·exact .inl (nw.back s h)
  ·exact(nw.back s h).vis hv
theorem z3s {B:Ad->Prop}{v:V}{d:D}{g:G}(r:Rep K H' B v d)(h:∀a,B a->BG F H g a):Rep K H' (BG F H (gJ d g)) v d:=by
 unfold gJ;by_cases e:imm d=true
 ·rw[if_pos e];exact Rep.immB d e r
 ·rw[if_neg e];exact r.weak h
end
def rOp (K:W.Frag)(m:D->D->Res D):R2:=fun x y H Q=>∃Bx By dx dy d,Rep K H Bx x dx/\Rep K H By y dy/\m dx dy=.ok d/\∀w H',Same H H'->Rep K H' (fun a=>nw H a\/Bx a\/By a) w d->Q w H'
def OpD (X:Cx)(f:Value->Value->Sem Value)(m:D->D->Res D):Prop:=OpR X f (rOp X.K m)
def rOpN (K:W.Frag)(m:D->D->Res D):R2:=fun x y H Q=>∃Bx By dx dy d,Rep K H Bx x dx/\Rep K H By y dy/\m dx dy=.ok d/\∀w H',Same H H'->Rep K H' (fun a=>nw H a\/Bx a\/By a) w d->(∀ds,d=.list ds->imms ds=true->Rep K H' (nw H) w d)->Q w H'
def OpN (X:Cx)(f:Value->Value->Sem Value)(m:D->D->Res D):Prop:=OpR X f (rOpN X.K m)
theorem _root_.L2.OpR.imp {X:Cx}{f:Value->Value->Sem Value}{r r':R2}(h:OpR X f r)(i:∀x y H Q,r' x y H Q->r x y H Q):OpR X f r':=fun pins s σ H x y v u Q I rx ry q=>h pins s σ H x y v u Q I rx ry (i x y H Q q)
def zf0 (K:W.Frag)(m:List D->Res D):List V->Hp->VK->Prop:=fun xs H Q=>∃B ds d,Reps K H B xs ds/\m ds=.ok d/\∀w H',Same H H'->Rep K H' (fun a=>nw H a\/B a) w d->Q w H'
theorem _root_.L2.CallR.imp {X:Cx}{f:Value}{r r':List V->Hp->VK->Prop}(h:CallR X f r)(i:∀x H Q,r' x H Q->r x H Q):CallR X f r':=fun pins s σ H x v Q I rx q=>h pins s σ H x v Q I rx (i x H Q q)
theorem z6x {x y:Str}(hx:PyData.strOk x=true)(hy:PyData.strOk y=true):PyData.strOk (x++y)=true:=by
 unfold PyData.strOk at *
 show(x.cps++y.cps).all _=true;rw[Array.all_append,hx,hy];rfl
theorem z1f {x:Str}:PyData.strOk x=true↔∀c∈x.cps.toList,c<0x110000:=by unfold PyData.strOk;rw[<-Array.all_toList];rw[bg];exact⟨fun h c hc=>by simpa using h c hc,fun h c hc=>by simpa using h c hc⟩
theorem z76 {c:Nat}{x:Str}(hx:PyData.strOk x=true)(hc:c∈x.cps.toList):PyData.strOk ⟨#[c]⟩=true:=
 z1f.mpr fun d hd=>by
  have e:d=c:=by simpa using hd
  rw[e];exact z1f.mp hx c hc
theorem z0p {n:Nat}(h:n<=LIM):n<=az:=bx h (by rw[dq];unfold LIM;decide)
theorem _root_.L2.SqT.rel {K:W.Frag}{H H':Hp}{a:Addr}{xs:List V}(s:Same H H')(h:SqT K H a xs):SqT K H' a xs:=h.keep (B:=fun _=>True) fun a o e _=>s a o e
section
variable {X:Cx}
def zsm (K:W.Frag):R2:=fun x y H Q=>∃l b xs zs,x=.ref l/\y=.ref b/\SqL K H l xs/\SqL K H b zs/\xs.length+zs.length<=az/\∀p,H p=none->Q (.ref p) (upd H p (.lst (xs++zs)))
theorem zm5:OpR X (gf .Add) (zsm X.K):=by
 intro pins s σ H x y v u Q I rx ry h;obtain⟨l,b,xs,zs,rfl,rfl,hH,hB,hz,q⟩:=h;cases rx;cases ry;obtain⟨its,r1,p1,_⟩:=I.list hH;obtain⟨its2,r2,p2,_⟩:=I.list hB;obtain⟨⟨cls,dd,data,sl⟩,n,ho,hc,_,hd⟩:=p1;obtain⟨⟨cls2,dd2,data2,sl2⟩,n2,ho2,hc2,_,hd2⟩:=p2;simp only at hc hd hc2 hd2;subst hc hd hc2 hd2;have hsz:its.toArray.size+its2.toArray.size<=az:=by rw[ao,ao,<-r1.length,<-r2.length];exact hz
 refine p8 ⟨_,ho,rfl⟩ ⟨_,ho2,rfl⟩ noFill_list_add seq_list_add PySem.F.slot_list_add PySem.F.entry_list_add (PySem.F.args_list_add_2 _ _) (list_addW l b its.toArray its2.toArray n n2 dd dd2 sl sl2 hsz) ⟨ho,ho2,?_⟩;have ea:its.toArray++its2.toArray=(its++its2).toArray:=by simp
 rw[ea];exact⟨.ref _,_,I.lnew (t':=s.toks) (r1.append r2) (by rw[av];exact hz),rfl,q _ I.fresh⟩
def zs1 (K:W.Frag):R2:=fun x y H Q=>∃a b ys,x=.ref a/\y=.ref b/\SqT K H a []/\SqT K H b ys/\Q (.ref b) H
theorem zfv:OpR X (gf .Add) (zs1 X.K):=by intro pins s σ H x y v u Q I rx ry h;obtain⟨l,b,zs,rfl,rfl,hH,hB,q⟩:=h;cases rx;cases ry;obtain⟨its,r1,p1,_⟩:=I.tuple hH;obtain⟨its2,r2,p2,_⟩:=I.tuple hB;cases r1;obtain⟨⟨cls,dd,data,sl⟩,ho,hc,n,hd⟩:=p1;obtain⟨⟨cls2,dd2,data2,sl2⟩,ho2,hc2,n2,hd2⟩:=p2;simp only at hc hd hc2 hd2;subst hc hd hc2 hd2;refine p8 ⟨_,ho,rfl⟩ ⟨_,ho2,rfl⟩ pb sr PySem.F.slot_tuple_add PySem.F.entry_tuple_add (PySem.F.args_tuple_add_2 _ _) (tuple_addW0 l b _ its2.toArray n n2 dd dd2 sl sl2 (by simp)) ⟨ho,ho2,?_⟩;exact⟨.ref b,H,I,rfl,q⟩
variable {K:W.Frag}{H:Hp}{B:Ad->Prop}{v:V}
theorem z1y {ds:List D}(r:Rep K H B v (.list ds)):∃a vs,v=.ref a/\SqL K H a vs/\Reps K H B vs ds:=by
 obtain⟨a,vs,e,h,q⟩:=r;refine⟨a,vs,e,?_,q⟩;rcases h with⟨h,_⟩|⟨h|h,_⟩
 ·exact .inl (.inl h)
 ·exact .inl (.inr h)
 ·exact .inr h
theorem z1l {p:Addr}{vs:List V}{ds:List D}{B':Ad->Prop}(hp:H p=none)(r:Reps K H B vs ds)(hB:∀a,B a->B' a)(hb:B' (some p)):Rep K (upd H p (.lst vs)) B' (.ref p) (.list ds):=⟨p,vs,rfl,.inl ⟨z0d,hb⟩,r.same (Same.upd hp) hB⟩
theorem z46 {p:Addr}{vs:List V}{ds:List D}{B':Ad->Prop}(hp:H p=none)(r:Reps K H B vs ds)(hB:∀a,B a->B' a):Rep K (upd H p (.tup vs)) B' (.ref p) (.tuple ds):=⟨p,vs,rfl,.inl (.inl z0d),r.same (Same.upd hp) hB⟩
theorem z13 {α:Type}{a:α}(h:(Res.no:Res α)=.ok a):False:=by cases h
theorem zv2:OpN X (gf .Add) (binD .Add):=by
 refine OpR.imp ((zti.or zm5).or zfv) fun x y H Q h=>?_;obtain⟨Bx,By,dx,dy,d,rx,ry,e,q⟩:=h;cases dx<;>try (exact(z13 e).elim)
 all_goals cases dy<;>try (exact(z13 e).elim)
 case int.int i j=>cases e;have e1:x=.int i:=rx;have e2:y=.int j:=ry;subst e1 e2;exact .inl (.inl (zrc (q _ H (Same.refl H) rfl fun ds z=>by cases z)))
 case str.str i j=>
  have e1:x=.str i:=rx.1;have e2:y=.str j:=ry.1;subst e1 e2;have e:(if i.length+j.length<=LIM then Res.ok (PyData.str (i++j))else Res.no)=Res.ok d:=e;split at e
  ·rename_i hl;cases e;exact .inl (.inl (zo8 (z0p hl) (q _ H (Same.refl H) ⟨rfl,z6x rx.2 ry.2⟩ fun ds z=>by cases z)))
  ·cases e
 case list.list xs ys=>
  have e:(if xs.length+ys.length<=LIM then Res.ok (PyData.list (xs++ys))else Res.no)=Res.ok d:=e;split at e
  ·rename_i hl;cases e;obtain⟨a,vs,rfl,h1,q1⟩:=z1y rx;obtain⟨b,ws,rfl,h2,q2⟩:=z1y ry;refine .inl (.inr ⟨a,b,vs,ws,rfl,rfl,h1,h2,z0p (by rw[q1.length,q2.length];exact hl),fun p hp=>q _ _ (Same.upd hp) ?_ ?_⟩)
   ·exact z1l hp (Reps.append (q1.weak (B':=fun a=>nw H a\/Bx a\/By a) fun _ z=>.inr (.inl z)) (q2.weak fun _ z=>.inr (.inr z))) (fun _ z=>z) (.inl hp)
   ·intro ds z hi;cases z;exact z1l hp (Reps.immB (B':=nw H) _ hi (Reps.append (q1.weak (B':=fun a=>nw H a\/Bx a\/By a) fun _ z=>.inr (.inl z)) (q2.weak fun _ z=>.inr (.inr z)))) (fun _ z=>z) hp
  ·cases e
 case tuple.tuple xs ys=>
  have e:(if xs.length+ys.length<=LIM then Res.ok (PyData.tuple (xs++ys))else Res.no)=Res.ok d:=e;split at e
  ·rename_i hl;cases e;obtain⟨a,vs,rfl,h1,q1⟩:=rx;obtain⟨b,ws,rfl,h2,q2⟩:=ry;cases vs with
   |nil=>
    have:xs=[]:=by have:=q1.length;exact jn.mp this.symm
    subst this;exact .inr ⟨a,b,ws,rfl,rfl,h1,h2,q _ H (Same.refl H) ⟨b,ws,rfl,h2,q2.weak fun _ z=>.inr (.inr z)⟩ fun ds z=>by cases z⟩
   |cons v0 vr=>
    refine .inl (.inl (.inr (.inr (.inr ⟨a,b,v0::vr,ws,rfl,rfl,h1,h2,by simp,z0p (by rw[q1.length,q2.length];exact hl),fun z=>?_,fun z p hp=>q _ _ (Same.upd hp) ?_ fun ds z=>by cases z⟩))))
    ·subst z;have:ys=[]:=by have:=q2.length;exact jn.mp this.symm
     subst this;rw[gv]at q;exact q _ H (Same.refl H) ⟨a,_,rfl,h1,q1.weak fun _ z=>.inr (.inl z)⟩ fun ds z=>by cases z
    ·exact z46 hp (Reps.append (q1.weak (B':=fun a=>nw H a\/Bx a\/By a) fun _ z=>.inr (.inl z)) (q2.weak fun _ z=>.inr (.inr z))) (fun _ z=>z)
  ·cases e
theorem zhi {f:Value->Value->Sem Value}{m:D->D->Res D}{Cc:Int->Int->Prop}{g:Int->Int->V}{gd:Int->Int->D}(h:OpR X f (rI Cc g))(hg:∀i j H B,Rep X.K H B (g i j) (gd i j))(hm:∀dx dy d,m dx dy=.ok d->∃i j,dx=.int i/\dy=.int j/\Cc i j/\d=gd i j):OpN X f m:=by refine OpR.imp h fun x y H Q h=>?_;obtain⟨Bx,By,dx,dy,d,rx,ry,e,q⟩:=h;obtain⟨i,j,rfl,rfl,c,rfl⟩:=hm dx dy d e;exact⟨i,j,rx,ry,c,q _ H (Same.refl H) (hg i j _ _) fun _ _ _=>hg i j _ _⟩
theorem zss {f:Value->Value->Sem Value}{g:Int->Int->V}(h:OpR X f (rI0 g)):OpR X f (rI (fun _ _=>True) g):=OpR.imp h fun x y H Q ⟨i,j,e1,e2,_,q⟩=>⟨i,j,e1,e2,q⟩
theorem zga:OpR X (gf .FloorDiv) (rI (fun _ j=>0<j/\j<2 ^ 200) fun i j=>.int (i/j)):=opI fun i j _ _ _ _ _ hc q=>by
 refine floordiv_int (by omega) (by rw[Int.fdiv_eq_ediv_of_nonneg i (by omega)];exact q) (.inl (PyProof.noPylong_of_log2 ?_));have h1:j.natAbs≠0:=by omega
 have h2:j.natAbs<2 ^ 200:=by omega
 have h3:=(Nat.log2_lt h1).mpr h2;omega
def zme:R2:=fun x y H Q=>∃a n,x=.str a/\y=.int n/\(0<=n/\n<=LIM/\a.length*n.toNat<=LIM)/\Q (.str ⟨(z17 n.toNat a.cps.toList).toArray⟩) H
theorem ze5 {α:Type}(n:Nat):z17 n ([]:List α)=[]:=by
 unfold z17
 induction n with
 |zero=>rfl
 |succ n ih=>rw[dt,d7,ih];rfl
theorem z84 (a:Array Nat):∀(k:Nat) (acc:List Nat),(bv k a).foldl (·++·) acc.toArray=(acc++z17 k a.toList).toArray
 |0,acc=>by simp[z17]
 |k+1,acc=>by
  rw[dt,qf];have e:acc.toArray++a=(acc++a.toList).toArray:=by simp
  rw[e,z84 a k];show(acc++a.toList++z17 k a.toList).toArray=_;rw[j4];rfl
theorem zgk {a:Str}{n:Int}(h:0<=n):Txt.mul a n=⟨(z17 n.toNat a.cps.toList).toArray⟩:=by
 unfold Txt.mul;by_cases h1:n<1
 ·obtain rfl:n=0:=by omega
  rw[if_pos h1];rfl
 ·rw[if_neg h1];split
  ·rename_i h2;rcases g7.mp h2 with h2|h2
   ·obtain rfl:n=1:=v7 h2;show a=⟨(a.cps.toList++[]).toArray⟩;rw[gv]
   ·have h3:a.cps.size=0:=v7 h2;have h4:a.cps.toList=[]:=jn.mp (by rw[ck];exact h3);rw[h4,ze5];have h5:a.cps=#[]:=by rw[<-km (xs:=a.cps),h4]
    cases a;cases h5;rfl
  ·have :=z84 a.cps n.toNat [];rw[List.nil_append]at this;exact congrArg Str.mk this
theorem zgx {a:Str}(h:PyData.strOk a=true)(n:Nat):PyData.strOk ⟨(z17 n a.cps.toList).toArray⟩=true:=by unfold PyData.strOk at h ⊢;rw[<-Array.all_toList,bg]at h ⊢;intro c hc;have hc:c∈(bv n a.cps.toList).flatten:=hc;obtain⟨l,hl,hcl⟩:=pd.mp hc;rw[(List.mem_replicate.mp hl).2]at hcl;exact h c hcl
theorem zeq:OpR X (gf .Mult) zme:=by intro pins s σ H x y v u Q I rx ry h;obtain⟨a,n,rfl,rfl,⟨h0,hn,h1⟩,q⟩:=h;obtain⟨t,rfl⟩:=rx;obtain⟨t',rfl⟩:=ry;unfold LIM at hn h1;refine SB.mul (PyProof.Rows.mulOk_of a.length n.toNat (am _) (by omega) (by omega) (by omega) (by omega)) fun t2 k=>?_;rw[zgk h0];exact⟨.str _,H,I.tok _,⟨_,rfl⟩,q⟩
theorem zue (op:ky)(h:znf op=true):OpN X (gf op) (binD op):=by
 cases op<;>try (cases h;done)
 case Add=>exact zv2
 case Sub=>
  refine zhi (zss zp8) (gd:=fun i j=>.int (i-j)) (fun _ _ _ _=>rfl) fun dx dy d e=>?_;cases dx<;>try (exact(z13 e).elim)
  cases dy<;>try (exact(z13 e).elim)
  cases e;exact⟨_,_,rfl,rfl,trivial,rfl⟩
 case Mult=>
  refine OpR.imp (zo0.or zeq) fun x y H Q h=>?_;obtain⟨Bx,By,dx,dy,d,rx,ry,e,q⟩:=h;cases dx<;>try (exact(z13 e).elim)
  all_goals cases dy<;>try (exact(z13 e).elim)
  case int.int i j=>
   have e:(if(-(2 ^ 64)<i/\i<2 ^ 64)\/(-(2 ^ 64)<j/\j<2 ^ 64)then Res.ok (PyData.int (i*j))else Res.no)=Res.ok d:=e;split at e
   ·rename_i hc;cases e;exact .inl ⟨i,j,rx,ry,hc,q _ H (Same.refl H) rfl fun ds z=>by cases z⟩
   ·cases e
  case str.int a n=>
   have e:(if 0<=n/\n<=LIM/\a.length*n.toNat<=LIM then Res.ok (PyData.str ⟨(z17 n.toNat a.cps.toList).toArray⟩)else Res.no)=Res.ok d:=e;split at e
   ·rename_i hc;cases e;obtain⟨rx1,rx2⟩:=rx;exact .inr ⟨a,n,rx1,ry,hc,q _ H (Same.refl H) ⟨rfl,zgx rx2 _⟩ fun ds z=>by cases z⟩
   ·cases e
 case FloorDiv=>
  refine zhi zga (gd:=fun i j=>.int (i/j)) (fun _ _ _ _=>rfl) fun dx dy d e=>?_;cases dx<;>try (exact(z13 e).elim)
  cases dy<;>try (exact(z13 e).elim)
  rename_i i j;have e:(if 0<j/\j<2 ^ 200 then Res.ok (PyData.int (i/j))else Res.no)=Res.ok d:=e;split at e
  ·rename_i hc;cases e;exact⟨_,_,rfl,rfl,hc,rfl⟩
  ·cases e
 case Mod=>
  refine zhi zoo (gd:=fun i j=>.int (i%j)) (fun _ _ _ _=>rfl) fun dx dy d e=>?_;cases dx<;>try (exact(z13 e).elim)
  cases dy<;>try (exact(z13 e).elim)
  rename_i i j;have e:(if 0<j then Res.ok (PyData.int (i%j))else Res.no)=Res.ok d:=e;split at e
  ·rename_i hc;cases e;exact⟨_,_,rfl,rfl,hc,rfl⟩
  ·cases e
 case Pow=>
  refine zhi zp9 (gd:=fun i j=>.int (i ^ j.toNat)) (fun _ _ _ _=>rfl) fun dx dy d e=>?_;cases dx<;>try (exact(z13 e).elim)
  cases dy<;>try (exact(z13 e).elim)
  rename_i i j;have e:(if 0<=j/\j<=1000/\i.natAbs<2 ^ 64 then Res.ok (PyData.int (i ^ j.toNat))else Res.no)=Res.ok d:=e;split at e
  ·rename_i hc;cases e;exact⟨_,_,rfl,rfl,⟨hc.1,by omega,hc.2.2⟩,rfl⟩
  ·cases e
end
section
variable {X:Cx}{pins:List (Addr×Obj)}{σ:L2.St}{H:Hp}{s:ac}{B:Ad->Prop}
mutual
theorem Rep.reads (I:Inv X pins σ H s):∀{v:V} {u:Value} (d:ah) (n:Nat),shal n d=true->Rep X.K H B v d->RelV v u->(∃as,Reads s.heap u d as)/\d.canLay0=true/\d.depth<=n
 |v,u,.none,n,_,r,q=>by have e:v=.non:=r;subst e;cases q;exact⟨⟨[],.none⟩,by simp only[PyData.canLay0],dj _⟩
 |v,u,.bool b,n,_,r,q=>by have e:v=.bl b:=r;subst e;cases q;exact⟨⟨[],.bool b⟩,by simp only[PyData.canLay0],dj _⟩
 |v,u,.int b,n,_,r,q=>by have e:v=.int b:=r;subst e;obtain⟨t,rfl⟩:=q;exact⟨⟨[],.int b t⟩,by simp only[PyData.canLay0],dj _⟩
 |v,u,.str b,n,_,r,q=>by obtain⟨e,ok⟩:v=.str b/\_:=r;subst e;obtain⟨t,rfl⟩:=q;exact⟨⟨[],.str b t⟩,by simp only[PyData.canLay0];exact ok,dj _⟩
 |v,u,.tuple ds,0,h,r,q=>by cases h
 |v,u,.list ds,0,h,r,q=>by cases h
 |v,u,.tuple ds,n+1,h,r,q=>by obtain⟨a,vs,e,h1,r1⟩:=r;subst e;cases q;obtain⟨its,rv,⟨o,ho,hc,k,hd⟩,_⟩:=I.tuple h1;obtain⟨⟨as,ra⟩,c,dp⟩:=Reps.reads I ds n (h) r1 rv;refine⟨⟨as,.tuple ho hc hd (by simpa using ra)⟩,by simp only[PyData.canLay0];exact c,?_⟩;simp only[PyData.depth];omega
 |v,u,.list ds,n+1,h,r,q=>by obtain⟨a,vs,e,h1,r1⟩:=z1y r;subst e;cases q;obtain⟨its,rv,⟨o,k,ho,hc,_,hd⟩,_⟩:=I.list h1;obtain⟨⟨as,ra⟩,c,dp⟩:=Reps.reads I ds n (h) r1 rv;refine⟨⟨a::as,.list ho hc hd (by simpa using ra)⟩,by simp only[PyData.canLay0];exact c,?_⟩;simp only[PyData.depth];omega
 |v,u,.dict es,n,h,r,q=>by cases n<;>cases h
theorem Reps.reads (I:Inv X pins σ H s):∀{vs:List V} {us:List Value} (ds:List ah) (n:Nat),z0m n ds=true->Reps X.K H B vs ds->Vals vs us->(∃as,pe s.heap us ds as)/\PyData.canLayAll0 ds=true/\PyData.depthAll ds<=n
 |vs,us,[],n,_,r,q=>by have e:vs=[]:=r;subst e;cases q;exact⟨⟨[],.nil⟩,by simp only[PyData.canLayAll0],dj _⟩
 |vs,us,d::ds,n,h,r,q=>by
  obtain⟨v,t,e,h1,r1⟩:=r;subst e;rw[z0m,ax]at h;cases q with
  |cons q1 q2=>obtain⟨⟨as,ra⟩,c,dp⟩:=Rep.reads I d n h.1 h1 q1;obtain⟨⟨bs,rb⟩,c2,dp2⟩:=Reps.reads I ds n h.2 r1 q2;refine⟨⟨as++bs,.cons ra rb⟩,by simp only[PyData.canLayAll0,c,c2,oz],?_⟩;simp only[PyData.depthAll];exact Nat.max_le.mpr ⟨dp,dp2⟩
end
end
section
variable {X:Cx}
def mB (m:D->D->Res Bool):D->D->Res D:=fun x y=>m x y>>=fun b=>.ok (.bool b)
theorem zbv {m:D->D->Res Bool}{x y d:D}(h:mB m x y=.ok d):∃b,m x y=.ok b/\d=.bool b:=by obtain⟨b,h1,h2⟩:=Res.bind_ok h;exact⟨b,h1,(Res.ok.inj h2).symm⟩
theorem c_eq (hu:X.A.units+64<cLine):OpD X (cq .Eq) (mB (cmpD .Eq)):=by
 intro pins s σ H x y v u Q I rx ry h;obtain⟨Bx,By,dx,dy,d,r1,r2,e,q⟩:=h;obtain⟨b,e',ed⟩:=zbv e;subst ed;clear e;have e:=e';clear e';have e:(if(shal 40 dx&&shal 40 dy)=true then Res.ok (eqD dx dy)else Res.no)=Res.ok b:=e;split at e
 ·rename_i hs;cases e;rw[ax]at hs;obtain⟨⟨as,ra⟩,c1,p1⟩:=Rep.reads I dx 40 hs.1 r1 rx;obtain⟨⟨bs,rb⟩,c2,p2⟩:=Rep.reads I dy 40 hs.2 r2 ry;exact SeqAt.compareEq_reads ra rb c1 c2 (by omega) ⟨.bl _,H,I,rfl,q _ H (Same.refl H) rfl⟩
 ·cases e
theorem c_ne (hu:X.A.units+64<cLine):OpD X (cq .NotEq) (mB (cmpD .NotEq)):=by
 intro pins s σ H x y v u Q I rx ry h;obtain⟨Bx,By,dx,dy,d,r1,r2,e,q⟩:=h;obtain⟨b,e',ed⟩:=zbv e;subst ed;clear e;have e:=e';clear e';have e:(if(shal 40 dx&&shal 40 dy)=true then Res.ok (!eqD dx dy)else Res.no)=Res.ok b:=e;split at e
 ·rename_i hs;cases e;rw[ax]at hs;obtain⟨⟨as,ra⟩,c1,p1⟩:=Rep.reads I dx 40 hs.1 r1 rx;obtain⟨⟨bs,rb⟩,c2,p2⟩:=Rep.reads I dy 40 hs.2 r2 ry;exact SeqAt.compareNe_reads ra rb c1 c2 (by omega) ⟨.bl _,H,I,rfl,q _ H (Same.refl H) rfl⟩
 ·cases e
theorem zg0 {op:CmpOp}{r:R2}(h:OpR X (cq op) r)(hI:∀i j b H Q,cmpD op (.int i) (.int j)=.ok b->Q (.bl b) H->r (.int i) (.int j) H Q)(hS:∀i j b H Q,cmpD op (.str i) (.str j)=.ok b->Q (.bl b) H->r (.str i) (.str j) H Q)
  (hm:∀dx dy b,cmpD op dx dy=.ok b->(∃i j,dx=.int i/\dy=.int j)\/∃i j,dx=.str i/\dy=.str j):OpD X (cq op) (mB (cmpD op)):=by
 refine OpR.imp h fun x y H Q h=>?_;obtain⟨Bx,By,dx,dy,d,rx,ry,e,q⟩:=h;obtain⟨b,e',ed⟩:=zbv e;subst ed;clear e;have e:=e';clear e';rcases hm dx dy b e with⟨i,j,rfl,rfl⟩|⟨i,j,rfl,rfl⟩
 ·have e1:x=.int i:=rx;have e2:y=.int j:=ry;subst e1 e2;exact hI i j b H Q e (q _ H (Same.refl H) rfl)
 ·have e1:x=.str i:=rx.1;have e2:y=.str j:=ry.1;subst e1 e2;exact hS i j b H Q e (q _ H (Same.refl H) rfl)
theorem c_lt:OpD X (cq .Lt) (mB (cmpD .Lt)):=zg0 opLt (fun i j b H Q e q=>by cases e;exact zt8 q) (fun i j b H Q e q=>by cases e;exact ztd q) fun dx dy b e=>by cases dx<;>first|exact(z13 e).elim|(cases dy<;>first|exact .inl ⟨_,_,rfl,rfl⟩|exact .inr ⟨_,_,rfl,rfl⟩|exact(z13 e).elim)
theorem c_le:OpD X (cq .LtE) (mB (cmpD .LtE)):=zg0 opLe (fun i j b H Q e q=>by cases e;exact zv8 q) (fun i j b H Q e q=>by cases e;exact ztb q) fun dx dy b e=>by cases dx<;>first|exact(z13 e).elim|(cases dy<;>first|exact .inl ⟨_,_,rfl,rfl⟩|exact .inr ⟨_,_,rfl,rfl⟩|exact(z13 e).elim)
theorem c_gt:OpD X (cq .Gt) (mB (cmpD .Gt)):=zg0 opGt (fun i j b H Q e q=>by cases e;exact zv3 q) (fun i j b H Q e q=>by cases e;exact zvz q) fun dx dy b e=>by cases dx<;>first|exact(z13 e).elim|(cases dy<;>first|exact .inl ⟨_,_,rfl,rfl⟩|exact .inr ⟨_,_,rfl,rfl⟩|exact(z13 e).elim)
theorem c_ge:OpD X (cq .GtE) (mB (cmpD .GtE)):=zg0 ztm (fun i j b H Q e q=>by cases e;exact⟨i,j,rfl,rfl,q⟩) (fun i j b H Q e q=>by cases e) fun dx dy b e=>by cases dx<;>first|exact(z13 e).elim|(cases dy<;>first|exact .inl ⟨_,_,rfl,rfl⟩|exact .inr ⟨_,_,rfl,rfl⟩|exact(z13 e).elim)
theorem REs.val {K:W.Frag}{H:Hp}{B:Ad->Prop}(k:Key):∀{kvs:List (Key×V)} {es:Ents},REs K H B kvs es->match z2h es (kD k)with|some d=>∃v,valV kvs k=some v/\Rep K H B v d|none=>valV kvs k=none
 |kvs,[],r=>by have e:kvs=[]:=r;subst e;exact rfl
 |kvs,(kd,d)::es,r=>by
  obtain⟨k',v,t,e,e2,ok,h,q⟩:=r;subst e e2;have ih:=REs.val k q;by_cases z:k'=k
  ·subst z
   have e1:z2h ((kD k',d)::es) (kD k')=some d:=by
    have:eqK (kD k') (kD k')=true:=by cases k'<;>simp[kD,eqK]
    unfold z2h;rw[List.find?_cons_of_pos (by exact this)];rfl
   rw[e1];exact⟨v,z44 (p:=(k',v)) rfl,h⟩
  ·have e0:eqK (kD k') (kD k)=false:=by
    rw[uh];intro w;apply z;cases k'<;>cases k<;>simp[kD,eqK]at w<;>rw[w]
   have e1:z2h ((kD k',d)::es) (kD k)=z2h es (kD k):=by unfold z2h;rw[List.find?_cons_of_neg (by rw[e0];exact bu)]
   rw[e1,z45 (p:=(k',v)) z];exact ih
theorem z4u {K:W.Frag}{H:Hp}{B:Ad->Prop}{v:V}{d:D}(h:isK d=true)(r:Rep K H B v d):∃k,d=kD k/\v=kV k/\keyOk k:=by
 cases d<;>try (cases h;done)
 case int i=>exact⟨.inl i,rfl,r,True.intro⟩
 case str x=>exact⟨.inr x,rfl,r.1,r.2⟩
theorem zin (hu:X.A.units+64<cLine){pins:List (Addr×Obj)}{s:ac}{σ:L2.St}{H:Hp}{x y:V}{v u:Value}{Q:VK}(ng:Bool)(I:Inv X pins σ H s)(rx:RelV x v)(ry:RelV y u)
  {Bx By:Ad->Prop} {dx dy:D} {b:Bool} (r1:Rep X.K H Bx x dx) (r2:Rep X.K H By y dy) (e:inD dx dy=.ok b) (q:Q (.bl (if ng then !b else b)) H):
  wpAny (model X.prog X.w) X.A (cq (if ng then .NotIn else .In) v u) (EP X pins σ Q) X.xe s:=by
 cases dy<;>try (cases e;done)
 case list xs=>
  change(if(shal 40 dx&&z0m 40 xs)=true then Res.ok (xs.any fun y=>eqD y dx)else .no)=_ at e;split at e
  ·rename_i hs;cases e;rw[ax]at hs;obtain⟨⟨as,ra⟩,c1,p1⟩:=Rep.reads I dx 40 hs.1 r1 rx;obtain⟨⟨bs,rb⟩,c2,p2⟩:=Rep.reads I (.list xs) 41 hs.2 r2 ry;have c2':PyData.canLayAll0 xs=true:=by simpa only[PyData.canLay0]using c2
   cases ng
   ·exact SeqAt.in_list_reads rb ra c2' c1 (by omega) ⟨.bl _,H,I,rfl,q⟩
   ·exact SeqAt.notIn_list_reads rb ra c2' c1 (by omega) ⟨.bl _,H,I,rfl,q⟩
  ·cases e
 case tuple xs=>
  change(if(shal 40 dx&&z0m 40 xs)=true then Res.ok (xs.any fun y=>eqD y dx)else .no)=_ at e;split at e
  ·rename_i hs;cases e;rw[ax]at hs;obtain⟨⟨as,ra⟩,c1,p1⟩:=Rep.reads I dx 40 hs.1 r1 rx;obtain⟨⟨bs,rb⟩,c2,p2⟩:=Rep.reads I (.tuple xs) 41 hs.2 r2 ry;have c2':PyData.canLayAll0 xs=true:=by simpa only[PyData.canLay0]using c2
   cases ng
   ·exact SeqAt.in_tuple_reads rb ra c2' c1 (by omega) ⟨.bl _,H,I,rfl,q⟩
   ·exact SeqAt.notIn_tuple_reads rb ra c2' c1 (by omega) ⟨.bl _,H,I,rfl,q⟩
  ·cases e
 case dict es=>
  change(if isK dx=true then Res.ok (z2h es dx).isSome else .no)=_ at e;split at e
  ·rename_i hk;cases e;obtain⟨k,rfl,rfl,_⟩:=z4u hk r1;obtain⟨a,kvs,rfl,h1,_,h2⟩:=r2;cases ry;have hv:=h2.val k;have g:DGet H a (kV k) (valV kvs k):=DGet.k h1
   have hb:(valV kvs k).isSome=(z2h es (kD k)).isSome:=by
    cases e:z2h es (kD k)with
    |none=>rw[e]at hv;rw[show valV kvs k=none from hv];rfl
    |some d=>rw[e]at hv;obtain⟨v,hv,_⟩:=hv;rw[hv];rfl
   cases ng
   ·exact d_in (by omega) I g rx fun s' I'=>⟨.bl _,H,I',rfl,by rw[hb];exact q⟩
   ·exact zkh (by omega) I g rx fun s' I'=>⟨.bl _,H,I',rfl,by rw[hb];exact q⟩
  ·cases e
 case str z=>
  cases dx<;>try (cases e;done)
  rename_i w;have e1:x=.str w:=r1.1;have e2:y=.str z:=r2.1;subst e1 e2;change(match w.cps.toList with| [c]=>Res.ok (decide (c∈z.cps.toList))|_=>.no)=_ at e;split at e
  ·rename_i c hw;cases e
   have ew:w=⟨#[c]⟩:=by
    obtain⟨cps⟩:=w;have:cps=#[c]:=by rw[<-km (xs:=cps)];rw[show cps.toList=[c]from hw]
    rw[this]
   subst ew;cases ng
   ·exact opIn pins s σ H _ _ v u Q I rx ry (zvw q)
   ·exact zni pins s σ H _ _ v u Q I rx ry (zq1 q)
  ·cases e
theorem c_in (hu:X.A.units+64<cLine):OpD X (cq .In) (mB (cmpD .In)):=by intro pins s σ H x y v u Q I rx ry h;obtain⟨Bx,By,dx,dy,d,r1,r2,e,q⟩:=h;obtain⟨b,e',ed⟩:=zbv e;subst ed;clear e;have e:=e';clear e';exact zin hu false I rx ry r1 r2 e (q _ H (Same.refl H) rfl)
theorem zmt (hu:X.A.units+64<cLine):OpD X (cq .NotIn) (mB (cmpD .NotIn)):=by intro pins s σ H x y v u Q I rx ry h;obtain⟨Bx,By,dx,dy,d,r1,r2,e,q⟩:=h;obtain⟨b,e',ed⟩:=zbv e;subst ed;clear e;have e:=e';clear e';have e:(inD dx dy>>=fun b=>Res.ok (!b))=Res.ok b:=e;obtain⟨b',e1,e2⟩:=Res.bind_ok e;cases e2;exact zin hu true I rx ry r1 r2 e1 (q _ H (Same.refl H) rfl)
theorem zpp (hu:X.A.units+64<cLine)(op:CmpOp)(h:zek op=true):OpD X (cq op) (mB (cmpD op)):=by
 cases op<;>try (cases h;done)
 ·exact c_eq hu
 ·exact c_ne hu
 ·exact c_lt
 ·exact c_le
 ·exact c_gt
 ·exact c_ge
 ·exact c_in hu
 ·exact zmt hu
end
section
variable {X:Cx}{a b c e:Expr}{es:List Expr}{fa fb fc:Rho->Res GD}{pos:Pos}
theorem z5y {e:Expr}{v:V}{d:D}(h:PE X e (tC v))(r:∀H B,Rep X.K H B v d):PE X e (tD X.K fun _=>.ok (.fr,d)):=PE.imp h fun σ H Q ⟨ρ,F,x,so,e,q⟩=>by cases e;exact q v H (Same.refl H) (r H _)
theorem zvs {i:Nat}{x:Str}(hN:X.N[i]?=some x)(hv:Vis X.env.scope x)(hd:(x==("__debug__":Str))=false)(hcd:(x==("__classdict__":Str))=false):PE X (.Name x pos) (tD X.K fun ρ=>rdS ρ[i]?):=PE.imp (z50 hN hv hd hcd) fun σ H Q zz=>by obtain⟨ρ,F,x,so,e,q⟩:=zz;obtain⟨v,h1,h2⟩:=so.rd e;exact⟨v,h1,q v H (Same.refl H) h2⟩
theorem zjp {K:W.Frag}{F:Fm}{H H':Hp}{B:Ad->Prop}{v:V}{d:D}{g:G}(r:Rep K H' B v d)(h:∀a,B a->BG F H g a)(n:∀ds,d=.list ds->imms ds=true->Rep K H' (nw H) v d):Rep K H' (BG F H (gN d g)) v d:=by
 cases d with
 |list ds=>
  show Rep K H' (BG F H (if imms ds=true then .fr else g)) v _;split
  ·rename_i hi;exact n ds rfl hi
  ·exact r.weak h
 |_=>exact z3s r h
theorem ztn {op:ky}(ho:znf op=true)(ha:PE X a (tD X.K fa))(hb:PE X b (tD X.K fb)):PE X (.BinOp a op b pos) (tD X.K fun ρ=>fa ρ>>=fun x=>fb ρ>>=fun y=>binD op x.2 y.2>>=fun d=>.ok (gN d (gAll [x,y]),d)):=
 PE.imp (zre (zue op ho) ha hb) fun σ H Q zz=>by
  obtain⟨ρ,F,z,so,e,q⟩:=zz;obtain⟨x,e1,e⟩:=Res.bind_ok e;obtain⟨y,e2,e⟩:=Res.bind_ok e;obtain⟨d,e3,e⟩:=Res.bind_ok e;cases e;refine⟨ρ,F,x,so,e1,fun v H1 s1 rv=>⟨ρ,F,y,so.same s1,e2,fun u H2 s2 ru=>⟨_,_,x.2,y.2,d,rv.same s2 fun _ z=>z,ru,e3,fun w H3 s3 rw' nn=>q w H3 ((s1.trans s2).trans s3) (zjp rw' (fun a h=>?_) fun ds z hi=>(nn ds z hi).weak fun _ z=>nw.back (s1.trans s2) z)⟩⟩⟩;rcases h with h|h|h
  ·exact z6e so.vis (s1.trans s2) h
  ·exact z5q so.vis (x:=x) (by simp) h
  ·exact z5q so.vis (x:=y) (by simp) (h.back s1)
theorem zie {op:CmpOp}{σ:L2.St}{H:Hp}{Q:VK}(h:tD X.K (fun ρ=>fa ρ>>=fun x=>fb ρ>>=fun y=>cmpD op x.2 y.2>>=fun b=>.ok (.fr,.bool b)) σ H Q):tOp (rOp X.K (mB (cmpD op))) (tD X.K fa) (tD X.K fb) σ H Q:=by obtain⟨ρ,F,z,so,e,q⟩:=h;obtain⟨x,e1,e⟩:=Res.bind_ok e;obtain⟨y,e2,e⟩:=Res.bind_ok e;obtain⟨d,e3,e⟩:=Res.bind_ok e;cases e;exact⟨ρ,F,x,so,e1,fun v H1 s1 rv=>⟨ρ,F,y,so.same s1,e2,fun u H2 s2 ru=>⟨_,_,x.2,y.2,.bool d,rv.same s2 fun _ z=>z,ru,by show(cmpD op x.2 y.2>>=fun b=>Res.ok (PyData.bool b))=_;rw[e3];rfl,fun w H3 s3 rw'=>q w H3 ((s1.trans s2).trans s3) rw'⟩⟩⟩
theorem zw4 {op:CmpOp}(hu:X.A.units+64<cLine)(ho:zek op=true)(hm:ge op b=false)(ha:PE X a (tD X.K fa))(hb:PE X b (tD X.K fb)):
  PE X (.Compare a [op] [b] pos) (tD X.K fun ρ=>fa ρ>>=fun x=>fb ρ>>=fun y=>cmpD op x.2 y.2>>=fun b=>.ok (.fr,.bool b)):=
 PE.imp (zn0 (zpp hu op ho) ha hb hm) fun σ H Q h=>zie h
theorem z8n {f:Rho->Res GD}{t:TE}(ht:∀σ H Q,tD X.K f σ H Q->t σ H Q)(hb:∀ρ x,f ρ=.ok x->∃c,x.2=.bool c)(σ:L2.St)(H:Hp)(Q:Bool->Hp->Prop)(h:tDT X.K (fun ρ=>f ρ>>=fun x=>z21 x.2) σ H Q):zpd t σ H Q:=by obtain⟨ρ,F,c,so,e,q⟩:=h;obtain⟨x,e1,e⟩:=Res.bind_ok e;obtain⟨k,e2⟩:=hb ρ x e1;rw[e2]at e;cases e;refine ht σ H _ ⟨ρ,F,x,so,e1,fun v H' s r=>?_⟩;rw[e2]at r;exact⟨k,r,q H' s⟩
theorem zfl {op:CmpOp}{ρ:Rho}{x:GD}(e:(fa ρ>>=fun x=>fb ρ>>=fun y=>cmpD op x.2 y.2>>=fun b=>Res.ok ((.fr,.bool b):GD))=.ok x):∃c,x.2=.bool c:=by obtain⟨x,e1,e⟩:=Res.bind_ok e;obtain⟨y,e2,e⟩:=Res.bind_ok e;obtain⟨d,e3,e⟩:=Res.bind_ok e;cases e;exact⟨d,rfl⟩
theorem zw3 {op:CmpOp}(hu:X.A.units+64<cLine)(ho:zek op=true)(hm:ge op b=false)(ha:PE X a (tD X.K fa))(hb:PE X b (tD X.K fb)):
  PT X (.Compare a [op] [b] pos) (tDT X.K fun ρ=>(fa ρ>>=fun x=>fb ρ>>=fun y=>cmpD op x.2 y.2>>=fun b=>Res.ok ((.fr,.bool b):GD))>>=fun x=>z21 x.2):=
 PT.imp (zmk (zpp hu op ho) ha hb hm) (z8n (fun σ H Q h=>zie h) fun ρ x e=>zfl e)
theorem zdi {K:W.Frag}{H:Hp}{B:Ad->Prop}{v:V}{d:D}(r:Rep K H B v d):decide (v=.non)=(match d with|.none=>true|_=>false):=by
 cases d with
 |none=>have e:v=.non:=r;subst e;rfl
 |bool b=>have e:v=.bl b:=r;subst e;rfl
 |int b=>have e:v=.int b:=r;subst e;rfl
 |str b=>have e:v=.str b:=r.1;subst e;rfl
 |tuple ds=>obtain⟨a,vs,e,_⟩:=r;subst e;rfl
 |list ds=>obtain⟨a,vs,e,_⟩:=r;subst e;rfl
 |dict ds=>obtain⟨a,vs,e,_⟩:=r;subst e;rfl
def isNF (ng:Bool)(fa:Rho->Res GD):Rho->Res GD:=fun ρ=>fa ρ>>=fun x=>.ok (.fr,.bool (match x.2 with|.none=>!ng|_=>ng))
theorem z9c {ng:Bool}{σ:L2.St}{H:Hp}{Q:VK}(h:tD X.K (isNF ng fa) σ H Q):(if ng then zro (tD X.K fa)else tIsN (tD X.K fa)) σ H Q:=by
 obtain⟨ρ,F,z,so,e,q⟩:=h;obtain⟨x,e1,e⟩:=Res.bind_ok e;cases e;cases ng with
 |false=>
  refine⟨ρ,F,x,so,e1,fun v H1 s1 rv=>?_⟩
  dsimp only
  rw[zdi rv];refine q _ H1 s1 ?_;obtain⟨g,d⟩:=x;cases d<;>rfl
 |true=>
  refine⟨ρ,F,x,so,e1,fun v H1 s1 rv=>?_⟩
  dsimp only
  rw[zdi rv];refine q _ H1 s1 ?_;obtain⟨g,d⟩:=x;cases d<;>rfl
theorem za6 {ng:Bool}{ρ:Rho}{x:GD}(e:isNF ng fa ρ=.ok x):∃c,x.2=.bool c:=by obtain⟨x,e1,e⟩:=Res.bind_ok e;cases e;exact⟨_,rfl⟩
theorem zu4 {ng:Bool}{o:CmpOp}{j p2}(ho:o=if ng then .IsNot else .Is)(ha:PE X a (tD X.K fa)):PE X (.Compare a [o] [.Constant .none j p2] pos) (tD X.K (isNF ng fa)):=by
 subst ho;cases ng with
 |false=>exact PE.imp (zjt (zjs ha)) fun σ H Q h=>z9c (ng:=false) h
 |true=>exact PE.imp (zjt (zct ha)) fun σ H Q h=>z9c (ng:=true) h
theorem zuv {ng:Bool}{o:CmpOp}{j p2}(ho:o=if ng then .IsNot else .Is)(ha:PE X a (tD X.K fa)):PT X (.Compare a [o] [.Constant .none j p2] pos) (tDT X.K fun ρ=>isNF ng fa ρ>>=fun x=>z21 x.2):=by
 subst ho;cases ng with
 |false=>exact PT.imp (zjd (zjs ha)) (z8n (fun σ H Q h=>z9c (ng:=false) h) fun ρ x e=>za6 e)
 |true=>exact PT.imp (zjd (zct ha)) (z8n (fun σ H Q h=>z9c (ng:=true) h) fun ρ x e=>za6 e)
def andF (fa fb:Rho->Res GD):Rho->Res GD:=fun ρ=>fa ρ>>=fun x=>match x.2 with|.bool c=>if c then fb ρ else .ok (.fr,.bool false)|_=>.no
def orF (fa fb:Rho->Res GD):Rho->Res GD:=fun ρ=>fa ρ>>=fun x=>match x.2 with|.bool c=>if c then .ok (.fr,.bool true)else fb ρ|_=>.no
theorem z68 {f:Rho->Res GD}{ρ:Rho}{F:Fm}{H H1:Hp}{x:GD}{σ:L2.St}{Q:VK}(s1:Same H H1)(so:StOk X.K F H σ ρ)(e:f ρ=.ok x)(q:∀v H',Same H H'->Rep X.K H' (BG F H x.1) v x.2->Q v H'):tD X.K f σ H1 Q:=⟨ρ,F,x,so.same s1,e,fun v H' s r=>q v H' (s1.trans s) (r.weak fun _ b=>b.back s1)⟩
theorem zr9 {rest:List Expr}(ha:PE X a (tD X.K fa))(hb:PE X (.BoolOp .And (b::rest) pos) (tD X.K fb)):PE X (.BoolOp .And (a::b::rest) pos) (tD X.K (andF fa fb)):=
 PE.imp (zqb ha hb) fun σ H Q zz=>by
  obtain⟨ρ,F,z,so,e,q⟩:=zz;obtain⟨x,e1,e⟩:=Res.bind_ok e;refine⟨ρ,F,x,so,e1,fun v H1 s1 rv=>?_⟩;obtain⟨g,d⟩:=x;cases d<;>try (cases e;done)
  rename_i c;refine⟨c,rv,?_⟩;cases c with
  |true=>exact iteT (z68 s1 so e q)
  |false=>cases e;exact iteF (q _ H1 s1 rfl)
theorem d_or {rest:List Expr}(ha:PE X a (tD X.K fa))(hb:PE X (.BoolOp .Or (b::rest) pos) (tD X.K fb)):PE X (.BoolOp .Or (a::b::rest) pos) (tD X.K (orF fa fb)):=
 PE.imp (zsn ha hb) fun σ H Q zz=>by
  obtain⟨ρ,F,z,so,e,q⟩:=zz;obtain⟨x,e1,e⟩:=Res.bind_ok e;refine⟨ρ,F,x,so,e1,fun v H1 s1 rv=>?_⟩;obtain⟨g,d⟩:=x;cases d<;>try (cases e;done)
  rename_i c;refine⟨c,rv,?_⟩;cases c with
  |false=>exact iteF (z68 s1 so e q)
  |true=>cases e;exact iteT (q _ H1 s1 rfl)
theorem zd9 {K:W.Frag}{H:Hp}{B:Ad->Prop}{v:V}{d:D}{k:Bool}(r:Rep K H B v d)(e:z21 d=.ok k):TruV K v H k:=by
 cases d with
 |none=>cases e;have e1:v=.non:=r;subst e1;exact rfl
 |bool b=>cases e;have e1:v=.bl b:=r;subst e1;exact rfl
 |int b=>cases e;have e1:v=.int b:=r;subst e1;show(!decide (b=0))=(b != 0);rw[bne,l6]
 |str b=>
  have e1:v=.str b:=r.1;subst e1;simp only[z21]at e;split at e
  ·rename_i hl;cases e;refine⟨z0p hl,?_⟩;show(!decide (b.length=0))=((b.length:Int) != 0);rw[bne,l6]
   congr 1
   rw[decide_eq_decide];omega
  ·cases e
 |tuple ds=>cases e;obtain⟨a,vs,e1,h,q⟩:=r;subst e1;refine .inr (.inl ⟨vs,h,?_⟩);show(!ds.isEmpty)=!vs.isEmpty;have:=q.length;cases vs<;>cases ds<;>simp at this ⊢
 |list ds=>cases e;obtain⟨a,vs,e1,h,q⟩:=z1y r;subst e1;refine .inl ⟨vs,h,?_⟩;show(!ds.isEmpty)=!vs.isEmpty;have:=q.length;cases vs<;>cases ds<;>simp at this ⊢
 |dict es=>
  cases e;obtain⟨a,kvs,e1,h,_,q⟩:=r;subst e1;refine .inr (.inr ⟨kvs,h,?_⟩);show(!es.isEmpty)=!kvs.isEmpty;cases es with
  |nil=>have e2:kvs=[]:=q;subst e2;rfl
  |cons e0 er=>obtain⟨k,v,t,e2,_⟩:=q;subst e2;rfl
theorem zvt (ha:PE X a (tD X.K fa)):PE X (.UnaryOp .Not a pos) (tD X.K fun ρ=>fa ρ>>=fun x=>z21 x.2>>=fun c=>.ok (.fr,.bool (!c))):=by intro pins s σ H Q I h;obtain⟨ρ,F,z,so,e,q⟩:=h;obtain⟨x,e1,e⟩:=Res.bind_ok e;obtain⟨k,e2,e⟩:=Res.bind_ok e;cases e;refine UnaryOp_ (thn (ha pins s σ H (fun v H1=>Same H H1/\Rep X.K H1 (BG F H x.1) v x.2) I ⟨ρ,F,x,so,e1,fun v H1 s1 rv=>⟨s1,rv⟩⟩) fun v s1 zz=>?_);obtain⟨y,H1,I1,r1,s2,rv⟩:=zz;exact not_of (thn (ziv pins s1 σ H1 y v (fun b H2=>b=k/\H2=H1) I1 r1 ⟨k,zd9 rv e2,rfl,rfl⟩) fun b s2' zz=>by obtain⟨H2,I2,eb,eH⟩:=zz;subst eb eH;exact⟨.bl _,H2,I2,rfl,q _ H2 s2 rfl⟩)
theorem zvd (ha:PE X e (tD X.K fa))(he:∀whole,uu e X.env whole=(do let v <-whole;standAt e.pos;ua [v] (truthy v))):PT X e (tDT X.K fun ρ=>fa ρ>>=fun x=>z21 x.2):=PT.imp (zhg ha he) fun σ H Q zz=>by obtain⟨ρ,F,k,so,e,q⟩:=zz;obtain⟨x,e1,e⟩:=Res.bind_ok e;exact⟨ρ,F,x,so,e1,fun v H1 s1 rv=>⟨k,zd9 rv e,q H1 s1⟩⟩
section
variable {ta tb:Rho->Res Bool}{rest:List Expr}
theorem za7 {f:Rho->Res Bool}{ρ:Rho}{F:Fm}{H H1:Hp}{x:Bool}{σ:L2.St}{Q:Bool->Hp->Prop}(s1:Same H H1)(so:StOk X.K F H σ ρ)(e:f ρ=.ok x)(q:∀H',Same H H'->Q x H'):tDT X.K f σ H1 Q:=⟨ρ,F,x,so.same s1,e,fun H' s=>q H' (s1.trans s)⟩
theorem w_and (ha:PT X a (tDT X.K ta))(hb:PW X (.BoolOp .And (b::rest) pos) (tDT X.K tb)):PW X (.BoolOp .And (a::b::rest) pos) (tDT X.K fun ρ=>ta ρ>>=fun c=>if c then tb ρ else .ok false):=
 PW.imp (zoc ha hb) fun σ H Q zz=>by
  obtain⟨ρ,F,k,so,e,q⟩:=zz;obtain⟨x,e1,e⟩:=Res.bind_ok e;refine⟨ρ,F,x,so,e1,fun H1 s1=>?_⟩;cases x with
  |true=>exact iteT (za7 s1 so e q)
  |false=>cases e;exact iteF (q H1 s1)
theorem w_or (ha:PT X a (tDT X.K ta))(hb:PW X (.BoolOp .Or (b::rest) pos) (tDT X.K tb)):PW X (.BoolOp .Or (a::b::rest) pos) (tDT X.K fun ρ=>ta ρ>>=fun c=>if c then .ok true else tb ρ):=
 PW.imp (zvk ha hb) fun σ H Q zz=>by
  obtain⟨ρ,F,k,so,e,q⟩:=zz;obtain⟨x,e1,e⟩:=Res.bind_ok e;refine⟨ρ,F,x,so,e1,fun H1 s1=>?_⟩;cases x with
  |false=>exact iteF (za7 s1 so e q)
  |true=>cases e;exact iteT (q H1 s1)
theorem z6t (ha:PT X a (tDT X.K ta)):PT X (.UnaryOp .Not a pos) (tDT X.K fun ρ=>ta ρ>>=fun c=>.ok (!c)):=PT.imp (zp1 ha) fun σ H Q zz=>by obtain⟨ρ,F,k,so,e,q⟩:=zz;obtain⟨x,e1,e⟩:=Res.bind_ok e;cases e;exact⟨ρ,F,x,so,e1,fun H1 s1=>q H1 s1⟩
theorem zuk (hc:PT X c (tDT X.K ta))(ha:PE X a (tD X.K fa))(hb:PE X b (tD X.K fb)):PE X (.IfExp c a b pos) (tD X.K fun ρ=>ta ρ>>=fun k=>if k then fa ρ else fb ρ):=
 PE.imp (zfm hc ha hb) fun σ H Q zz=>by
  obtain⟨ρ,F,z,so,e,q⟩:=zz;obtain⟨x,e1,e⟩:=Res.bind_ok e;refine⟨ρ,F,x,so,e1,fun H1 s1=>?_⟩;cases x with
  |true=>exact iteT (z68 s1 so e q)
  |false=>exact iteF (z68 s1 so e q)
end
theorem zou:PA X [] (tDA X.K fun _=>.ok []):=PA.imp z4y fun σ H Q ⟨ρ,F,z,so,e,q⟩=>by cases e;exact q [] H (Same.refl H) rfl
theorem zdq {fs:Rho->Res (List GD)}(hs:isStar e=false)(ha:PE X e (tD X.K fa))(hr:PA X es (tDA X.K fs)):PA X (e::es) (tDA X.K fun ρ=>fa ρ>>=fun x=>fs ρ>>=fun xs=>.ok (x::xs)):=PA.imp (pa_c ha hr hs) fun σ H Q zz=>by obtain⟨ρ,F,z,so,e,q⟩:=zz;obtain⟨x,e1,e⟩:=Res.bind_ok e;obtain⟨xs,e2,e⟩:=Res.bind_ok e;cases e;refine⟨ρ,F,x,so,e1,fun v H1 s1 rv=>⟨ρ,F,xs,so.same s1,e2,fun vs H2 s2 rs=>q _ H2 (s1.trans s2) ?_⟩⟩;exact⟨v,vs,rfl,rv.same s2 fun _ z=>z,rs.back s1⟩
theorem zw7 {x1}{fs:Rho->Res (List GD)}(h:PA X es (tDA X.K fs))(hl:∀ρ xs,fs ρ=.ok xs->xs.length<=az):PE X (.Tuple es x1 pos) (tD X.K fun ρ=>fs ρ>>=fun ys=>.ok (gJ (.tuple (ys.map (·.2))) (gAll ys),.tuple (ys.map (·.2)))):=PE.imp (zns h) fun σ H Q zz=>by obtain⟨ρ,F,z,so,e,q⟩:=zz;obtain⟨ys,e1,e⟩:=Res.bind_ok e;cases e;refine⟨ρ,F,ys,so,e1,fun vs H1 s1 rs=>?_⟩;have r:=rs.reps (B:=BG F H (gAll ys)) fun x hx a h=>z5q so.vis hx h;refine⟨by rw[r.length,af];exact hl ρ ys e1,fun p hp=>q _ _ (s1.trans (Same.upd hp)) (z3s (z46 hp r fun _ z=>z) fun _ z=>z)⟩
theorem zub {fs:Rho->Res (List GD)}(h:PA X es (tDA X.K fs))(hl:∀ρ xs,fs ρ=.ok xs->xs.length<=az):PE X (.List es pos) (tD X.K fun ρ=>fs ρ>>=fun ys=>.ok (gAll ys,.list (ys.map (·.2)))):=PE.imp (zja h) fun σ H Q zz=>by obtain⟨ρ,F,z,so,e,q⟩:=zz;obtain⟨ys,e1,e⟩:=Res.bind_ok e;cases e;refine⟨ρ,F,ys,so,e1,fun vs H1 s1 rs=>?_⟩;have r:=rs.reps (B:=BG F H (gAll ys)) fun x hx a h=>z5q so.vis hx h;refine⟨by rw[r.length,af];exact hl ρ ys e1,fun p hp=>q _ _ (s1.trans (Same.upd hp)) (z1l hp r (fun _ z=>z) (z6e so.vis s1 hp))⟩
end
theorem zpx {α:Type}(xs:List α)(i:Int):L2.atI xs i=Mi.atI xs i:=rfl
theorem z6o (n d:Nat)(o:Option Int):HT.sIx n d o=Mi.sIx n d o:=by cases o<;>rfl
theorem zde (xs:List V)(lo hi:Option Int):L2.cutV xs lo hi=Mi.cut xs lo hi:=by unfold L2.cutV Mi.cut;rw[z6o,z6o]
theorem Reps.cut {K:W.Frag}{H:Hp}{B:Ad->Prop}{vs:List V}{ds:List D}(lo hi:Option Int)(r:Reps K H B vs ds):Reps K H B (Mi.cut vs lo hi) (Mi.cut ds lo hi):=by unfold Mi.cut;rw[r.length];exact(r.drop _).take _
theorem Reps.atI {K:W.Frag}{H:Hp}{B:Ad->Prop}{vs:List V}{ds:List D}{i:Int}{d:D}(r:Reps K H B vs ds)(e:Mi.atI ds i=some d):∃v,L2.atI vs i=some v/\Rep K H B v d:=by
 unfold Mi.atI at e;cases e1:Mi.ixN ds.length i with
 |none=>rw[e1]at e;cases e
 |some j=>rw[e1]at e;obtain⟨v,h1,h2⟩:=r.get (i:=j) (d:=d) e;refine⟨v,?_,h2⟩;rw[zpx];unfold Mi.atI;rw[r.length,e1];exact h1
section
variable {X:Cx}{a b c e:Expr}{es:List Expr}{fa fb fc:Rho->Res GD}{pos:Pos}
theorem zjw (hu:X.A.units+64<cLine):IxR X (fun x y H Q=>∃a v,x=.ref a/\DGet H a y (some v)/\Q v H):=by intro value slice pins s σ H x y v u Q I rx ry h hs;obtain⟨a,z,rfl,g,q⟩:=h;cases rx;exact tail_any (z92 I g) PySem.F.slot_dict_getitem.lookup (zel (by omega) I g ry fun w' s' I' rw'=>⟨z,H,I',rw',q⟩) hs
def rIxD (K:W.Frag):R2:=fun x y H Q=>∃B B' dx dy d,Rep K H B x dx/\Rep K H B' y dy/\ixD dx dy=.ok d/\∀w,Rep K H B w d->Q w H
theorem zv5 (hu:X.A.units+64<cLine):IxR X (rIxD X.K):=by
 intro value slice pins s σ H x y v u Q I rx ry h hs;refine(zt9.or (zjw hu)) value slice pins s σ H x y v u Q I rx ry ?_ hs;obtain⟨B,B',dx,dy,d,r1,r2,e,q⟩:=h;cases dx<;>try (cases e;done)
 case list xs=>
  cases dy<;>try (cases e;done)
  rename_i i;have e2:y=.int i:=r2;subst e2;obtain⟨a,vs,rfl,h1,q1⟩:=z1y r1;change Res.ofO (Mi.atI xs i)=_ at e;cases e3:Mi.atI xs i with
  |none=>rw[e3]at e;cases e
  |some d'=>rw[e3]at e;cases e;obtain⟨w,h3,h4⟩:=q1.atI e3;exact .inl (.inl ⟨a,vs,i,w,rfl,rfl,h1,h3,q w h4⟩)
 case tuple xs=>
  cases dy<;>try (cases e;done)
  rename_i i;have e2:y=.int i:=r2;subst e2;obtain⟨a,vs,rfl,h1,q1⟩:=r1;change Res.ofO (Mi.atI xs i)=_ at e;cases e3:Mi.atI xs i with
  |none=>rw[e3]at e;cases e
  |some d'=>rw[e3]at e;cases e;obtain⟨w,h3,h4⟩:=q1.atI e3;exact .inl (.inr (.inl ⟨a,vs,i,w,rfl,rfl,h1,h3,q w h4⟩))
 case str z=>
  cases dy<;>try (cases e;done)
  rename_i i;have e2:y=.int i:=r2;have e1:x=.str z:=r1.1;subst e1 e2;change(if z.length<=LIM then Res.ofO ((Mi.atI z.cps.toList i).map fun c=>PyData.str ⟨#[c]⟩)else .no)=_ at e;split at e
  ·rename_i hl;cases e3:Mi.atI z.cps.toList i with
   |none=>rw[e3]at e;cases e
   |some c=>
    rw[e3]at e;cases e
    have hc:c∈z.cps.toList:=by
     unfold Mi.atI at e3;cases e4:Mi.ixN z.cps.toList.length i with
     |none=>rw[e4]at e3;cases e3
     |some j=>rw[e4]at e3;exact bc e3
    exact .inl (.inr (.inr ⟨z,i,c,rfl,rfl,z0p hl,e3,q _ ⟨rfl,z76 r1.2 hc⟩⟩))
  ·cases e
 case dict es=>
  change(if isK _=true then Res.ofO (z2h es _)else Res.no)=_ at e;split at e
  ·rename_i hk;obtain⟨k,rfl,rfl,_⟩:=z4u hk r2;obtain⟨a,kvs,rfl,h1,_,h2⟩:=r1;have hv:=h2.val k;cases e3:z2h es (kD k)with
   |none=>rw[e3]at e;cases e
   |some d'=>rw[e3]at e hv;cases e;obtain⟨w,h3,h4⟩:=hv;exact .inr ⟨a,w,rfl,by rw[<-h3];exact DGet.k h1,q w h4⟩
  ·cases e
theorem zg1 {i:Expr}(h:z62 i=true):zd7 i:=fun o v=>by cases i<;>first|rfl|cases h
theorem d_ix {i:Expr}(hu:X.A.units+64<cLine)(hs:z62 i=true)(ha:PE X a (tD X.K fa))(hb:PE X i (tD X.K fb)):
  PE X (.Subscript a i pos) (tD X.K fun ρ=>fa ρ>>=fun x=>fb ρ>>=fun y=>ixD x.2 y.2>>=fun d=>.ok (gJ d x.1,d)):=
 PE.imp (zsj (zv5 hu) ha hb (zg1 hs)) fun σ H Q zz=>by obtain⟨ρ,F,z,so,e,q⟩:=zz;obtain⟨x,e1,e⟩:=Res.bind_ok e;obtain⟨y,e2,e⟩:=Res.bind_ok e;obtain⟨d,e3,e⟩:=Res.bind_ok e;cases e;exact⟨ρ,F,x,so,e1,fun v H1 s1 rv=>⟨ρ,F,y,so.same s1,e2,fun u H2 s2 ru=>⟨_,_,x.2,y.2,d,rv.same s2 fun _ z=>z,ru,e3,fun w rw'=>q w H2 (s1.trans s2) (z3s rw' fun _ z=>z)⟩⟩⟩
theorem zew {z:Str}(h:PyData.strOk z=true)(lo hi:Option Int):PyData.strOk (z3t z lo hi)=true:=
 z1f.mpr fun c hc=>z1f.mp h c (by
  have:c∈Mi.cut z.cps.toList lo hi:=by simpa[z3t]using hc
  unfold Mi.cut at this;exact qt (qu this))
theorem zih (lo hi:Option Int)(n:Nat):g9 lo hi 1 n=sliceRange ((Mi.sIx n 0 lo:Nat):Int) ((Mi.sIx n n hi:Nat):Int) 1:=by
 delta g9
 have h1:(1:Int)>0:=Int.one_pos;simp only[h1,if_true]
 congr 1
 ·cases lo with
  |none=>rfl
  |some v=>
   simp only[Mi.sIx];by_cases h:v<0
   ·simp only[if_pos h];omega
   ·simp only[if_neg h];omega
 ·cases hi with
  |none=>rfl
  |some v=>
   simp only[Mi.sIx];by_cases h:v<0
   ·simp only[if_pos h];omega
   ·simp only[if_neg h];omega
theorem zd3 (n d:Nat)(hd:d<=n)(o:Option Int):Mi.sIx n d o<=n:=by rw[<-z6o];exact HT.sIx_le n d hd o
theorem zfp (z:Str)(lo hi:Option Int):Txt.slice z lo hi=z3t z lo hi:=by
 have hn:z.cps.toList.length=z.length:=by simp[Str.length]
 have e:(g9 lo hi 1 z.length).filterMap (z.cps[·]?)=Mi.cut z.cps.toList lo hi:=by rw[zih,qp,pick_run];unfold Mi.cut;rw[hn]
 have hl:(g9 lo hi 1 z.length).length=Mi.sIx z.length z.length hi-Mi.sIx z.length 0 lo:=by rw[zih,qp,af,gj]
 unfold Txt.slice;split
 ·rename_i hc;simp only[beq_self_eq_true,ml,beq_iff_eq]at hc;rw[hl]at hc;have h1:=zd3 z.length 0 (dj _) lo;have h2:=zd3 z.length z.length (am _) hi
  have e2:Mi.cut z.cps.toList lo hi=z.cps.toList:=by
   unfold Mi.cut;rw[hn];by_cases h0:Mi.sIx z.length 0 lo=0
   ·rw[h0,List.drop_zero,jt (by rw[hn];omega)]
   ·have hz:z.length=0:=by omega
    have:z.cps.toList=[]:=jn.mp (by rw[hn];exact hz);rw[this];simp
  unfold z3t;rw[e2]
 ·unfold z3t;rw[<-e]
def rSlD (K:W.Frag):V->Option Int->Option Int->Hp->VK->Prop:=fun x lo hi H Q=>∃B dx d,Rep K H B x dx/\slD dx lo hi=.ok d/\∀w H',Same H H'->Rep K H' (fun a=>nw H a\/B a) w d->(∀ds,d=.list ds->imms ds=true->Rep K H' (nw H) w d)->Q w H'
theorem zu2:SlR X (rSlD X.K):=by
 intro pins s σ H x v vl vu lo hi sl Q I rx hs pl pu h;refine(zsq.or zrd) pins s σ H x v vl vu lo hi sl Q I rx hs pl pu ?_;obtain⟨B,dx,d,r,e,q⟩:=h;cases dx<;>try (cases e;done)
 case list xs=>cases e;obtain⟨a,vs,rfl,h1,q1⟩:=z1y r;refine .inl (.inl ⟨a,vs,rfl,h1,fun p hp=>?_⟩);rw[zde];exact q _ _ (Same.upd hp) (z1l hp (q1.cut lo hi) (fun _ z=>.inr z) (.inl hp)) fun ds z hi'=>by cases z;exact z1l hp (Reps.immB (B':=nw H) _ hi' (q1.cut lo hi)) (fun _ z=>z) hp
 case tuple xs=>
  change(if sIx xs.length 0 lo=0/\sIx xs.length xs.length hi=xs.length then Res.no else Res.ok (PyData.tuple (cut xs lo hi)))=_ at e;split at e
  ·cases e
  ·rename_i hw;cases e;obtain⟨a,vs,rfl,h1,q1⟩:=r;refine .inr ⟨a,vs,rfl,h1,by rw[z6o,z6o,q1.length];exact hw,fun p hp=>?_⟩;rw[zde];exact q _ _ (Same.upd hp) (z46 hp (q1.cut lo hi) fun _ z=>.inr z) fun ds z=>by cases z
 case str z=>
  change(if z.length<=LIM then Res.ok (PyData.str (z3t z lo hi))else .no)=_ at e;split at e
  ·rename_i hl;cases e;have e1:x=.str z:=r.1;subst e1;refine .inl (.inr ⟨z,rfl,z0p hl,?_⟩);rw[zfp];exact q _ H (Same.refl H) ⟨rfl,zew r.2 lo hi⟩ fun ds z=>by cases z
  ·cases e
theorem z40:PO X none (tDO X.K fun _=>.ok none):=PO.imp zk4 fun σ H Q ⟨ρ,F,z,so,e,q⟩=>by cases e;exact q H (Same.refl H)
theorem zoa (ha:PE X a (tD X.K fa)):PO X (some a) (tDO X.K fun ρ=>fa ρ>>=fun x=>intO x.2):=
 PO.imp (zkm ha) fun σ H Q zz=>by
  obtain⟨ρ,F,z,so,e,q⟩:=zz;obtain⟨x,e1,e⟩:=Res.bind_ok e;refine⟨ρ,F,x,so,e1,fun v H1 s1 rv=>?_⟩;obtain⟨g,d⟩:=x;cases d<;>try (cases e;done)
  cases e;exact⟨_,rv,q H1 s1⟩
theorem d_sl {lo hi:Option Expr}{p2:Pos}{fl fh:Rho->Res (Option Int)}(ha:PE X a (tD X.K fa))(hl:PO X lo (tDO X.K fl))(hh:PO X hi (tDO X.K fh)):
  PE X (.Subscript a (.Slice lo hi none p2) pos) (tD X.K fun ρ=>fa ρ>>=fun x=>fl ρ>>=fun l=>fh ρ>>=fun h=>slD x.2 l h>>=fun d=>.ok (gN d (gAll [x]),d)):=
 PE.imp (zhk zu2 ha hl hh) fun σ H Q zz=>by
  obtain⟨ρ,F,z,so,e,q⟩:=zz;obtain⟨x,e1,e⟩:=Res.bind_ok e;obtain⟨l,e2,e⟩:=Res.bind_ok e;obtain⟨h,e3,e⟩:=Res.bind_ok e;obtain⟨d,e4,e⟩:=Res.bind_ok e;cases e;refine⟨ρ,F,x,so,e1,fun v H1 s1 rv=>⟨ρ,F,l,so.same s1,e2,fun H2 s2=>⟨ρ,F,h,so.same (s1.trans s2),e3,fun H3 s3=>⟨_,x.2,d,rv.same (s2.trans s3) fun _ z=>z,e4,fun w H4 s4 rw' nn=>q w H4 ((s1.trans (s2.trans s3)).trans s4) (zjp rw' (fun a h=>?_) fun ds z hi=>(nn ds z hi).weak fun _ z=>nw.back (s1.trans (s2.trans s3)) z)⟩⟩⟩⟩;rcases h with h|h
  ·exact z6e so.vis (s1.trans (s2.trans s3)) h
  ·exact z5q so.vis (x:=x) (by simp) h
theorem Reps.pick {K:W.Frag}{H:Hp}{B:Ad->Prop}{vs:List V}{ds:List D}(r:Reps K H B vs ds):∀is:List Nat,Reps K H B (is.filterMap (vs[·]?)) (is.filterMap (ds[·]?))
 | []=>rfl
 |i::is=>by
  rw[dr,dr];cases h:ds[i]? with
  |some d=>obtain⟨v,h1,h2⟩:=r.get h;rw[h1];exact Reps.cons h2 (Reps.pick r is)
  |none=>
   have:vs[i]?=none:=by rw[iw]at h ⊢;rw[r.length];exact h
   rw[this];exact Reps.pick r is
theorem Vals.pick {vs:List V}{us:List Value}(r:Vals vs us):∀is:List Nat,Vals (is.filterMap (vs[·]?)) (is.filterMap (us[·]?))
 | []=>.nil
 |i::is=>by
  rw[dr,dr];cases h:vs[i]? with
  |some d=>obtain⟨v,h1,h2⟩:=r.get h;rw[h1];exact .cons h2 (Vals.pick r is)
  |none=>
   have:us[i]?=none:=by rw[iw]at h ⊢;rw[<-r.length];exact h
   rw[this];exact Vals.pick r is
theorem d_cB {x:Str}{id:String}{m:List D->Res D}{fs:Rho->Res (List GD)}(hc:CallR X (.builtin id) (zf0 X.K m))(hm:X.mg x=none)(hv:df x=some (.builtin id))(ha:PA X (e::es) (tDA X.K fs))(hst:((e::es).all fun e=>!isStar e)=true)(hg:Gl X x)(hn:x≠"__name__")(hdb:(x==("__debug__":Str))=false){p:Pos}:
  PE X (.Call (.Name x p) (e::es) [] pos) (tD X.K fun ρ=>fs ρ>>=fun ys=>m (ys.map (·.2))>>=fun d=>.ok (gJ d .al,d)):=
 PE.imp (zkg hc hm hv ha hst hg hn hdb) fun σ H Q zz=>by obtain⟨ρ,F,z,so,e,q⟩:=zz;obtain⟨ys,e1,e⟩:=Res.bind_ok e;obtain⟨d,e2,e⟩:=Res.bind_ok e;cases e;exact⟨ρ,F,ys,so,e1,fun vs H1 s1 rs=>⟨_,_,d,rs.repsV so.vis,e2,fun w H2 s2 rw'=>q w H2 (s1.trans s2) (z3s rw' fun a h=>h.elim (fun z=>(nw.back s1 z).vis so.vis) fun z=>z)⟩⟩
theorem REs.length {K:W.Frag}{H:Hp}{B:Ad->Prop}:∀{kvs:List (Key×V)} {es:Ents},REs K H B kvs es->kvs.length=es.length
 |kvs,[],r=>by have e:kvs=[]:=r;subst e;rfl
 |kvs,(kd,d)::es,r=>by obtain⟨k,v,t,e,_,_,_,q⟩:=r;subst e;rw[br,br,q.length]
theorem zb3 {K:W.Frag}{H:Hp}{B:Ad->Prop}{xs:List V}{d:D}(r:Reps K H B xs [d]):∃v,xs=[v]/\Rep K H B v d:=by obtain⟨v,t,e,h,q⟩:=r;have e2:t=[]:=q;subst e e2;exact⟨v,rfl,h⟩
theorem zgz {K:W.Frag}{H:Hp}{B:Ad->Prop}{xs:List V}{d d':D}(r:Reps K H B xs [d,d']):∃v v',xs=[v,v']/\Rep K H B v d/\Rep K H B v' d':=by obtain⟨v,t,e,h,q⟩:=r;obtain⟨v',e2,h'⟩:=zb3 q;subst e e2;exact⟨v,v',rfl,h,h'⟩
theorem zl5:CallR X (.builtin "len") (zf0 X.K (biD "len")):=by
 refine CallR.imp (zmh.or zfk) fun xs H Q h=>?_;obtain⟨B,ds,d,r,e,q⟩:=h;simp only[biD,if_true]at e;split at e
 ·rename_i x;obtain⟨v,rfl,r1⟩:=zb3 r;clear r;have r:=r1;clear r1;cases x<;>try (cases e;done)
  case str z=>
   change(if z.length<=LIM then Res.ok (PyData.int z.length)else .no)=_ at e;split at e
   ·rename_i hl;cases e;have e1:v=.str z:=r.1;subst e1;exact .inl (.inl ⟨z,rfl,z0p hl,q _ H (Same.refl H) rfl⟩)
   ·cases e
  case tuple ds=>cases e;obtain⟨a,vs,rfl,h1,q1⟩:=r;exact .inl (.inr ⟨a,vs,rfl,.inr h1,q _ H (Same.refl H) (by rw[q1.length];exact rfl)⟩)
  case list ds=>cases e;obtain⟨a,vs,rfl,h1,q1⟩:=z1y r;exact .inl (.inr ⟨a,vs,rfl,.inl h1,q _ H (Same.refl H) (by rw[q1.length];exact rfl)⟩)
  case dict ds=>cases e;obtain⟨a,vs,rfl,h1,_,q1⟩:=r;exact .inr ⟨a,vs,rfl,h1,q _ H (Same.refl H) (by rw[q1.length];exact rfl)⟩
 ·cases e
theorem zg7 {prog:ba}{w:World}{A:b6}{E:Value->ac->Prop}{s:ac}{p:Addr}{a b:Int}{t u:Tok}{Q:Value->ac->Prop}(hh:A.handled=none)(hp:s.heap.IsTuple p #[.int a t,.int b u])
  (hQ:∀z h' tk,(∀c o,s.heap.get? c=some o->h'.get? c=some o)->Q (.int (if b<a then b else a) z) {s with heap:=h',toks:=tk}):wpAny (model prog w) A (call (.builtin "min") [.ref p]) Q E s:=by
 have ei:vo #[(a,t),(b,u)]=#[.int a t,.int b u]:=by simp[vo]
 have hp2:s.heap.IsTuple p (vo #[(a,t),(b,u)]):=by rw[ei];exact hp
 have lt:p<s.heap.objs.size:=by obtain⟨o,ho,_⟩:=hp;exact bj ho
 refine call_min_walk ?_;refine n8 hp2 ?_;refine⟨_,[s.heap.objs.size,p],[s.heap.objs.size],_,_,_,_,rfl,Walks.tuple (A:=A.in1) hh _ p (b7 lt) _,⟨⟨_,a8 _ rfl,rfl,rfl⟩,hp2.push _⟩,fun c hc=>?_,(by rw[ei];exact qa 1),CmpOf.ints_lt (numAt #[(a,t),(b,u)]) (fun _ _=>intItems_at),fun v h' tk hP hk=>?_⟩
 ·rw[ql];simp only[aw,cw,or_false]at hc;rcases hc with rfl|rfl
  ·exact l9 _
  ·exact ui lt
 ·have keep:∀c o,s.heap.get? c=some o->h'.get? c=some o:=fun c o e=>hk c o (fun z=>ci _ (bp.mp z▸bj e)) (ae _ e);have es:(vo #[(a,t),(b,u)]).size-1=1:=by rw[ei];rfl
  rw[es]at hP;by_cases hba:b<a
  ·have e1:argBest (fun i j=>decide (numAt #[(a,t),(b,u)] i<numAt #[(a,t),(b,u)] j)) 1=1:=by
    show(if decide (b<a)=true then 1 else 0)=1;rw[v5 hba];rfl
   rw[e1,ei]at hP;cases(Option.some.inj hP);have:=hQ u h' tk keep
   rwa [if_pos hba]at this
  ·have e1:argBest (fun i j=>decide (numAt #[(a,t),(b,u)] i<numAt #[(a,t),(b,u)] j)) 1=0:=by
    show(if decide (b<a)=true then 1 else 0)=0;rw[v6 hba];rfl
   rw[e1,ei]at hP;cases(Option.some.inj hP);have:=hQ t h' tk keep
   rwa [if_neg hba]at this
theorem zeb (hc:X.calm=true):CallR X (.builtin "min") (fun xs H Q=>∃p i j,xs=[.ref p]/\SqT X.K H p [.int i,.int j]/\Q (.int (if j<i then j else i)) H):=by intro pins s σ H xs us Q I r h;obtain⟨p,i,j,rfl,hq,q⟩:=h;obtain⟨u,rfl,r1⟩:=vals1 r;cases r1;obtain⟨its,rv,hp,_⟩:=I.tuple hq;obtain⟨a,b,rfl,⟨t,rfl⟩,⟨t',rfl⟩⟩:=vals2 rv;exact zg7 (I.ok.hd hc) hp fun z h' tk k=>⟨.int (if j<i then j else i),H,I.kept k,⟨z,rfl⟩,q⟩
theorem zpv (hc:X.calm=true):CallR X (.builtin "min") (zf0 X.K (biD "min")):=by
 refine CallR.imp ((zej hc).or (zeb hc)) fun xs H Q h=>?_;obtain⟨B,ds,d,r,e,q⟩:=h;replace e:minD ds=Res.ok d:=e;have mn:∀i j:Int,(if j<i then j else i)=min i j:=fun i j=>by split<;>omega
 have m2:∀{x y:D},min2 x y=.ok d->∃i j,x=.int i/\y=.int j/\d=.int (min i j):=fun{x y} h=>by
  cases x<;>try (exact(z13 h).elim)
  cases y<;>try (exact(z13 h).elim)
  cases h;exact⟨_,_,rfl,rfl,rfl⟩
 rcases ds with _|⟨a,_|⟨b,_|⟨c,ds⟩⟩⟩
 ·exact(z13 e).elim
 ·cases a<;>try (exact(z13 e).elim)
  rename_i ys;rcases ys with _|⟨a,_|⟨b,_|⟨c,ys⟩⟩⟩
  ·exact(z13 e).elim
  ·exact(z13 e).elim
  ·obtain⟨i,j,rfl,rfl,rfl⟩:=m2 e;obtain⟨v,rfl,p,vs,rfl,hq,rs⟩:=zb3 r;obtain⟨v1,v2,rfl,h1,h2⟩:=zgz rs;have e1:v1=.int i:=h1;have e2:v2=.int j:=h2;subst e1 e2;exact .inr ⟨p,i,j,rfl,hq,q _ H (Same.refl H) (show V.int _=V.int _ by rw[mn])⟩
  ·unfold minD vT at e;exact(z13 e).elim
 ·obtain⟨i,j,rfl,rfl,rfl⟩:=m2 e;obtain⟨v,v',rfl,h1,h2⟩:=zgz r;have e1:v=.int i:=h1;have e2:v'=.int j:=h2;subst e1 e2;exact .inl ⟨i,j,rfl,q _ H (Same.refl H) (show V.int _=V.int _ by rw[mn])⟩
 ·exact(z13 e).elim
theorem zi4 {pins:List (Addr×Obj)}{σ:L2.St}{H:Hp}{s:ac}{A:b6}{E:Value->ac->Prop}{Q:Value->ac->Prop}{B:Ad->Prop}{x:V}{u:Value}{d:D}{T:String}(I:Inv X pins σ H s)(rx:RelV x u)(r:Rep X.K H B x d)(hT:T∈tysB)
  (h:∀tk,Q (.bool (isTy (tyOf d) T)) {s with toks:=tk}):wpAny (model X.prog X.w) A (call (.builtin "isinstance") [u,.type T]) Q E s:=by
 have ht:tyOf d∈tysA:=by cases d<;>simp[tyOf,tysA]
 have e:W.kitOne X.K (.type (tyOf d)) (.type T)=some (isTy (tyOf d) T):=zmo X.K _ ht T hT;cases d with
 |none=>have e1:x=.non:=r;subst e1;exact z2k I rx .non e h
 |bool b=>have e1:x=.bl b:=r;subst e1;exact z2k I rx (.bl b) e h
 |int b=>have e1:x=.int b:=r;subst e1;exact z2k I rx (.int b) e h
 |str b=>have e1:x=.str b:=r.1;subst e1;exact z2k I rx (.str b) e h
 |tuple ds=>obtain⟨a,vs,e1,h1,_⟩:=r;subst e1;cases rx;obtain⟨_,_,⟨o,ho,hc,_⟩,_⟩:=I.tuple h1;exact W.kia_one W.kitx_tuple I.kIn ⟨o,ho,hc⟩ e (fun z=>nomatch z) h
 |list ds=>obtain⟨a,vs,e1,h1,_⟩:=z1y r;subst e1;cases rx;obtain⟨_,_,⟨o,_,ho,hc,_⟩,_⟩:=I.list h1;exact W.kia_one W.kitx_list I.kIn ⟨o,ho,hc⟩ e (fun z=>nomatch z) h
 |dict es=>obtain⟨a,vs,e1,h1,_⟩:=r;subst e1;exact z2k I rx (.dK h1) e h
def rIsD (K:W.Frag):List V->Hp->VK->Prop:=fun xs H Q=>∃B x d T,xs=[x,.ty T]/\Rep K H B x d/\T∈tysB/\Q (.bl (isTy (tyOf d) T)) H
theorem zfs:CallR X (.builtin "isinstance") (rIsD X.K):=by intro pins s σ H xs us Q I r h;obtain⟨B,x,d,T,rfl,rx,hT,q⟩:=h;obtain⟨u,w',rfl,r1,r2⟩:=vals2 r;obtain rfl:w'=Value.type T:=r2;exact zi4 I r1 rx hT fun tk=>⟨.bl _,H,I.tok _,rfl,q⟩
theorem zsx {y:Expr}{T:String}{x2:Str}{p p2:Pos}(hm:X.mg "isinstance"=none)(hg:Gl X "isinstance")(hm2:X.mg x2=none)(hv2:df x2=some (.type T))(hg2:Gl X x2)(hn2:x2≠"__name__")(hd2:(x2==("__debug__":Str))=false)(hT:T∈tysB)(hs:isStar y=false)(ha:PE X y (tD X.K fa)):
  PE X (.Call (.Name "isinstance" p) [y,.Name x2 p2] [] pos) (tD X.K fun ρ=>fa ρ>>=fun x=>.ok (.fr,.bool ([T].any fun T=>isTy (tyOf x.2) T))):=
 PE.imp (zkg zfs hm (by decide+kernel) (pa_c ha (pa_c (zl9 (v:=.ty T) hg2 hm2 hv2 rfl hn2 hd2) z4y) hs) (by simp[hs];rfl) hg (by decide) (by decide)) fun σ H Q zz=>by obtain⟨ρ,F,z,so,e,q⟩:=zz;obtain⟨x,e1,e⟩:=Res.bind_ok e;cases e;refine⟨ρ,F,x,so,e1,fun v H1 s1 rv=>?_⟩;refine⟨_,v,x.2,T,rfl,rv,hT,q _ H1 s1 ?_⟩;show V.bl _=V.bl _;simp
end
def Kp (B:Ad->Prop)(H1 H2:Hp):Prop:=∀a o,H1 a=some o->(B (some a)\/Fix o)->H2 a=some o
theorem Kp.of {B:Ad->Prop}{H1 H2:Hp}(s:Same H1 H2):Kp B H1 H2:=fun a o e _=>s a o e
structure Walk (K:W.Frag)(J:It)(B:Ad->Prop)(H1:Hp)(xs:List D):Prop where
 len:xs.length<=az
 go:∀H2,Kp B H1 H2->∀i,i<xs.length->J.go i H2
 stop:∀H2,Kp B H1 H2->J.stop xs.length H2
 yld:∀H2,Kp B H1 H2->∀i x H3,i<xs.length->J.yld i H2 x H3->Same H2 H3/\∃d,xs[i]?=some d/\Rep K H3 B x d
def tDW (K:W.Frag)(f:Rho->Res (G×List D)):TI:=fun σ H R=>∃ρ F w,StOk K F H σ ρ/\f ρ=.ok w/\∀J B H',Same H H'->(∀a,B a->BG F H w.1 a/\¬nw H' a)->Walk K J B H' w.2->R J H'
theorem _root_.L2.PI.imp {X:Cx}{tg e:Expr}{t t':TI}(h:PI X tg e t)(i:∀σ H Q,t' σ H Q->t σ H Q):PI X tg e t':=fun pins s σ H Q I q=>h pins s σ H Q I (i σ H Q q)
section
variable {K:W.Frag}{H:Hp}{B:Ad->Prop}
theorem zci {a:Addr}{vs:List V}{ds:List D}(h:(H a=some (.lst vs)/\B (some a))\/(FL K H a vs/\B none))(r:Reps K H B vs ds)(hz:ds.length<=az):Walk K (Itl K a) B H ds:=by
 have sq:∀H2,Kp B H H2->SqL K H2 a vs:=fun H2 k=>by
  rcases h with⟨h,b⟩|⟨⟨o,h⟩|h,_⟩
  ·exact .inl (.inl (k a _ h (.inl b)))
  ·exact .inl (.inr ⟨o,k a _ h (.inr True.intro)⟩)
  ·exact .inr h
 refine⟨hz,fun H2 k i hi=>?_,fun H2 k=>⟨vs,sq H2 k,by rw[r.length];exact am _⟩,fun H2 k i x H3 hi y=>?_⟩
 ·have hv:i<vs.length:=by rw[r.length];exact hi
  exact⟨vs,vs[i],sq H2 k,by simp[hv]⟩
 ·obtain⟨e,y⟩:=y;subst e;have hx:=y vs (sq _ k);obtain⟨d,h1,h2⟩:=r.getV hx;exact⟨Same.refl _,d,h1,Rep.keep k (fun _ z=>z) d h2⟩
theorem zi2 {a:Addr}{vs:List V}{ds:List D}(h:SqT K H a vs)(r:Reps K H B vs ds)(hz:ds.length<=az):Walk K (Itt K a) B H ds:=by
 have sq:∀H2,Kp B H H2->SqT K H2 a vs:=fun H2 k=>h.keep k;refine⟨hz,fun H2 k i hi=>?_,fun H2 k=>⟨vs,sq H2 k,by rw[r.length];exact am _⟩,fun H2 k i x H3 hi y=>?_⟩
 ·have hv:i<vs.length:=by rw[r.length];exact hi
  exact⟨vs,vs[i],sq H2 k,by simp[hv]⟩
 ·obtain⟨e,y⟩:=y;subst e;have hx:=y vs (sq _ k);obtain⟨d,h1,h2⟩:=r.getV hx;exact⟨Same.refl _,d,h1,Rep.keep k (fun _ z=>z) d h2⟩
theorem zfx {z:Str}(ok:PyData.strOk z=true)(hz:z.length<=az):Walk K (Its z) B H (z.cps.toList.map fun c=>.str ⟨#[c]⟩):=by
 have hl:(z.cps.toList.map fun c=>(PyData.str ⟨#[c]⟩:D)).length=z.cps.size:=by simp
 refine⟨by rw[hl];exact hz,fun H2 k i hi=>?_,fun H2 k=>?_,fun H2 k i x H3 hi y=>?_⟩
 ·rw[hl]at hi;exact hi
 ·show z.cps.size<=_;rw[hl];exact am _
 ·obtain⟨e,c,hc,rfl⟩:=y;subst e;have hc':z.cps.toList[i]?=some c:=by simpa using hc
  refine⟨Same.refl _,.str ⟨#[c]⟩,by rw[bw,hc'];rfl,rfl,z76 ok (bc hc')⟩
theorem zgp {lo:Int}{n:Nat}(hz:n<=az):Walk K (Itr lo n) B H ((cu n).map fun(i:Nat)=>.int (lo+i)):=by
 have hl:((cu n).map fun(i:Nat)=>(PyData.int (lo+i):D)).length=n:=by simp
 refine⟨by rw[hl];exact hz,fun H2 k i hi=>?_,fun H2 k=>?_,fun H2 k i x H3 hi y=>?_⟩
 ·rw[hl]at hi;exact hi
 ·show n<=_;rw[hl];exact am _
 ·obtain⟨e,rfl⟩:=y;subst e;rw[hl]at hi;exact⟨Same.refl _,.int (lo+i),by rw[bw,r6 hi];rfl,rfl⟩
end
section
variable {X:Cx}{tg a b c e:Expr}{es:List Expr}{fa fb fc:Rho->Res GD}{pos:Pos}
theorem z47 {pins:List (Addr×Obj)}{σ:L2.St}{H1:Hp}{s1:ac}{v:Value}{y:V}{B:Ad->Prop}{d:D}{xs:List D}{R:It->Hp->Prop}(I1:Inv X pins σ H1 s1)(r1:RelV y v)(rv:Rep X.K H1 B y d)(e:z59 d=.ok xs)
  (q:∀J,Walk X.K J B H1 xs->R J H1):wpAny (model X.prog X.w) X.A (pw v) (PIE X pins σ tg R) X.xe s1:=by
 cases d<;>try (cases e;done)
 case list ds=>
  cases e;obtain⟨a,vs,rfl,h,rs⟩:=rv
  have hq:SqL X.K H1 a vs:=by
   rcases h with⟨h,_⟩|⟨h|h,_⟩
   ·exact .inl (.inl h)
   ·exact .inl (.inr h)
   ·exact .inr h
  cases r1;obtain⟨its,rv',p,hz⟩:=I1.list hq;refine uj p.isList ?_;refine⟨s1.heap.objs.size,[s1.heap.objs.size],_,_,H1,rfl,I1.kept (t':=s1.toks) fun b o e=>ae _ e,zdp a _,⟨_,a8 _ rfl,rfl,rfl⟩,fun b hb=>?_,q _ (zci h rs (by rw[<-rs.length];exact hz))⟩;have e:b=s1.heap.objs.size:=by simpa using hb
  subst e;exact I1.fpOk (am _) (I1.hok.fresh (am _))
 case tuple ds=>
  cases e;obtain⟨a,vs,rfl,hq,rs⟩:=rv;cases r1;obtain⟨its,rv',p,hz⟩:=I1.tuple hq;refine n8 (show s1.heap.IsTuple a its.toArray from p) ?_;refine⟨s1.heap.objs.size,[s1.heap.objs.size],_,_,H1,rfl,I1.kept (t':=s1.toks) fun b o e=>ae _ e,zau a _,⟨_,a8 _ rfl,rfl,rfl⟩,fun b hb=>?_,q _ (zi2 hq rs (by rw[<-rs.length];exact hz))⟩;have e:b=s1.heap.objs.size:=by simpa using hb
  subst e;exact I1.fpOk (am _) (I1.hok.fresh (am _))
 case str z=>
  change(if z.length<=LIM then Res.ok (z.cps.toList.map fun c=>PyData.str ⟨#[c]⟩)else .no)=_ at e;split at e
  case isFalse=>cases e
  rename_i hs;cases e;have e1:y=.str z:=rv.1;subst e1;obtain⟨t,rfl⟩:=r1;have qz:=q _ (zfx rv.2 (z0p hs))
  have fin:∀(ty:String) (hty:ty="str_ascii_iterator"\/ty="str_iterator"),PIE X pins σ tg R (.ref s1.heap.objs.size) {s1 with heap:=s1.heap.push {cls:=.type ty,data:=.fields #[.str z t,.int 0 0]}}:=fun ty hty=>by
   refine⟨s1.heap.objs.size,[s1.heap.objs.size],_,_,H1,rfl,I1.kept (t':=s1.toks) fun b o e=>ae _ e,zg9 hty _ z t,⟨_,a8 _ rfl,rfl,rfl⟩,fun b hb=>?_,qz⟩;have e:b=s1.heap.objs.size:=by simpa using hb
   subst e;exact I1.fpOk (am _) (I1.hok.fresh (am _))
  cases ha:z.cps.all (· <128)
  ·exact wpAny_pyIter_wide ha (fin _ (.inr rfl))
  ·exact wpAny_pyIter_ascii ha (fin _ (.inl rfl))
theorem w_tv (ha:PE X a (tD X.K fa)):PI X tg a (tDW X.K fun ρ=>fa ρ>>=fun x=>z59 x.2>>=fun xs=>.ok (x.1,xs)):=by intro pins s σ H R I h;obtain⟨ρ,F,w,so,e,q⟩:=h;obtain⟨x,e1,e⟩:=Res.bind_ok e;obtain⟨xs,e2,e⟩:=Res.bind_ok e;cases e;refine thn (ha pins s σ H (fun v H1=>Same H H1/\Rep X.K H1 (BG F H x.1) v x.2) I ⟨ρ,F,x,so,e1,fun v H1 s1 rv=>⟨s1,rv⟩⟩) fun v s1 zz=>?_;obtain⟨y,H1,I1,r1,s1',rv⟩:=zz;exact z47 I1 r1 (Rep.there _ rv) e2 fun J wk=>q J _ H1 s1' (fun _ z=>z) wk
theorem zr1 {n:Int}(h1:n<=LIM)(h2:-LIM<=n):-(2 ^ 62)<=n/\n<2 ^ 62:=by unfold LIM at *;omega
theorem RGs.one {K:W.Frag}{F:Fm}{H H':Hp}{vs:List V}{x:GD}(r:RGs K F H H' vs [x]):∃v,vs=[v]/\Rep K H' (BG F H x.1) v x.2:=by obtain⟨v,t,e,h,q⟩:=r;have e2:t=[]:=q;subst e e2;exact⟨v,rfl,h⟩
theorem RGs.two {K:W.Frag}{F:Fm}{H H':Hp}{vs:List V}{x y:GD}(r:RGs K F H H' vs [x,y]):∃v w,vs=[v,w]/\Rep K H' (BG F H x.1) v x.2/\Rep K H' (BG F H y.1) w y.2:=by obtain⟨v,t,e,h,q⟩:=r;obtain⟨w,e2,h2⟩:=q.one;subst e e2;exact⟨v,w,rfl,h,h2⟩
theorem zom {p:Pos}{fs:Rho->Res (List GD)}(hm:X.mg "range"=none)(hg:Gl X "range")(hs:isStar a=false)(ha:PA X [a] (tDA X.K fs))(hl:∀ρ ys,fs ρ=.ok ys->ys.length=1):PI X tg (.Call (.Name "range" p) [a] [] pos) (tDW X.K fun ρ=>fs ρ>>=fun ys=>rngD (ys.map (·.2))>>=fun xs=>.ok (.fr,xs)):=
 PI.imp (zf9 hg hm ha (z0l hs)) fun σ H R zz=>by
  obtain⟨ρ,F,w,so,e,q⟩:=zz;obtain⟨ys,e1,e⟩:=Res.bind_ok e;obtain⟨xs,e2,e⟩:=Res.bind_ok e;cases e;refine⟨ρ,F,ys,so,e1,fun vs H1 s1 rs=>?_⟩;have hy:=hl ρ ys e1
  match ys,hy with
  | [(g,d)],hy1=>
   clear hy1;obtain⟨v,rfl,rv⟩:=rs.one;cases d<;>try (cases e2;done)
   rename_i n;have ev:v=.int n:=rv;subst ev;change(if n<=LIM/\-LIM<=n then Res.ok ((cu n.toNat).map fun(i:Nat)=>PyData.int i)else .no)=_ at e2;split at e2
   case isFalse=>cases e2
   rename_i hn;cases e2;have h62:=zr1 hn.1 hn.2;refine⟨n,rfl,h62.1,h62.2,q _ (fun _=>False) H1 s1 (fun _ z=>z.elim) ?_⟩;have e0:((cu n.toNat).map fun(i:Nat)=>(PyData.int i:D))=(cu n.toNat).map fun(i:Nat)=>.int (0+i):=by apply se;intro i _;rw[Int.zero_add]
   show Walk X.K (Itr 0 n.toNat) _ H1 ((cu n.toNat).map fun(i:Nat)=>(PyData.int i:D));rw[e0];exact zgp (z0p (by unfold LIM at *;omega))
def Fm.drop (F:Fm)(i:Nat):Fm:={F with O:=fun a=>if F.O a=some i then none else F.O a}
theorem Fm.drop_none {F:Fm}{i:Nat}{a:Addr}(h:F.O a=none):(F.drop i).O a=none:=by show(if F.O a=some i then none else F.O a)=none;rw[h];rfl
theorem Bin.drop {F:Fm}{i:Nat}{a:Ad}(h:Bin F a):Bin (F.drop i) a:=by
 cases a with
 |none=>exact h
 |some a=>exact⟨Fm.drop_none h.1,h.2⟩
theorem Slot.drop {K:W.Frag}{F:Fm}{H:Hp}{i j:Nat}{g:G}{v:V}{d:D}(hij:j≠i)(h:Slot K F H j g v d):Slot K (F.drop i) H j g v d:=by
 cases g with
 |fr=>
  obtain⟨p,e,o,h⟩:=h;refine⟨p,e,?_,?_⟩
  ·show(if F.O p=some i then none else F.O p)=some j;rw[o,if_neg (fun z=>hij (Option.some.inj z))]
  ·rcases h with⟨vs,ds,e1,e2,r⟩|⟨vs,ds,e1,e2,r⟩
   ·exact .inl ⟨vs,ds,e1,e2,r.weak fun _ b=>b.drop⟩
   ·exact .inr ⟨vs,ds,e1,e2,REs.same (fun _ _ e=>e) (fun _ b=>b.drop) r⟩
 |od=>exact h
 |al=>exact h
 |nu=>exact Rep.weak (fun _ b=>b.drop) h
def BI (F:Fm):G->Ad->Prop
 |.od=>oldA F
 |.fr=>visA F
 |.al=>visA F
 |.nu=>visA F
theorem BI.of {F:Fm}{H:Hp}{g:G}{a:Ad}(hv:∀a,H a=none->F.V a)(h:BG F H g a):BI F g a:=by
 cases g with
 |fr=>exact nw.vis hv h
 |od=>exact h
 |al=>exact h
 |nu=>exact h.elim (nw.vis hv) Bin.vis
theorem StOk.setI {K:W.Frag}{F:Fm}{H:Hp}{σ:L2.St}{ρ:Rho}{x:GD}{v:V}{i:Nat}(so:StOk K F H σ ρ)(r:Rep K H (BI F x.1) v x.2):StOk K (F.drop i) H (σ.set i (some v)) (ρ.set i (some (z2j x))) where
 ext:=so.ext
 vis:=so.vis
 own:=fun a j e=>by
  have e':F.O a=some j:=by
   have:(if F.O a=some i then none else F.O a)=some j:=e;split at this
   ·cases this
   ·exact this
  exact so.own a j e'
 len:=by rw[f8,f8];exact so.len
 sl:=fun j g d e=>by
  by_cases hj:i=j
  ·subst hj;rw[fu]at e;simp only[if_true]at e;split at e
   ·rename_i hl;have e1:z2j x=(g,d):=by simpa using e
    refine⟨v,?_,?_⟩
    ·rw[fu];simp[so.len,hl]
    ·obtain⟨gx,dx⟩:=x;cases gx with
     |fr=>cases e1;exact r
     |od=>cases e1;exact r
     |al=>cases e1;exact r
     |nu=>cases e1;exact r
   ·cases e
  ·rw[d5 hj]at e ⊢;obtain⟨u,h1,h2⟩:=so.sl j g d e;exact⟨u,h1,h2.drop fun z=>hj z.symm⟩
structure Keeps (F F':Fm)(is:List Nat)(σ σ':L2.St):Prop where
 h0:F'.H0=F.H0
 v:F'.V=F.V
 o:∀a,F.O a=none->F'.O a=none
 len:σ'.length=σ.length
 rest:∀j,j∉is->σ'[j]?=σ[j]?
theorem Keeps.refl {F:Fm}{is:List Nat}{σ:L2.St}:Keeps F F is σ σ:=⟨rfl,rfl,fun _ h=>h,rfl,fun _ _=>rfl⟩
theorem Keeps.set {F:Fm}{is:List Nat}{i:Nat}{σ:L2.St}{v:Option V}(h:i∈is):Keeps F (F.drop i) is σ (σ.set i v):=⟨rfl,rfl,fun _ h=>Fm.drop_none h,f8,fun j hj=>d5 fun z=>hj (by rw[<-z];exact h)⟩
theorem Keeps.trans {F F' F'':Fm}{is:List Nat}{σ σ' σ'':L2.St}(a:Keeps F F' is σ σ')(b:Keeps F' F'' is σ' σ''):Keeps F F'' is σ σ'':=⟨b.h0.trans a.h0,b.v.trans a.v,fun x h=>b.o x (a.o x h),b.len.trans a.len,fun j hj=>(b.rest j hj).trans (a.rest j hj)⟩
def tDG (K:W.Frag)(t:Tg):TG:=fun v σ H Q=>∃ρ F x ρ',StOk K F H σ ρ/\Rep K H (BI F x.1) v x.2/\z1i t x ρ=.ok ρ'/\∀σ' F',StOk K F' H σ' ρ'->Keeps F F' (tgIx t) σ σ'->Q σ' H
theorem _root_.L2.PG.imp {X:Cx}{e:Expr}{t t':TG}(h:PG X e t)(i:∀v σ H Q,t' v σ H Q->t v σ H Q):PG X e t':=fun pins s σ H v u Q I r q=>h pins s σ H v u Q I r (i v σ H Q q)
theorem _root_.L2.PGs.imp {X:Cx}{e:List Expr}{t t':TGs}(h:PGs X e t)(i:∀v σ H Q,t' v σ H Q->t v σ H Q):PGs X e t':=fun pins s σ H v u Q I r q=>h pins s σ H v u Q I r (i v σ H Q q)
theorem zon {i:Nat}{x:Str}(hN:X.N.Nodup)(hi:X.N[i]?=some x)(hx:Loc X.env.scope x)(hf:X.fn x=true\/X.env.scope.names.lookup x=some .local):PG X (.Name x pos) (tDG X.K (.nm i)):=PG.imp (zet hN hi hx hf) fun v σ H Q zz=>by obtain⟨ρ,F,x,ρ',so,r,e,q⟩:=zz;cases e;exact q _ _ (so.setI r) (Keeps.set (by simp[tgIx]))
def tDGs (K:W.Frag)(all is:List Nat):TGs:=fun vs σ H Q=>∃ρ F g ds ρ',(∀i∈is,i∈all)/\StOk K F H σ ρ/\Reps K H (BI F g) vs ds/\z3g ρ is ds g=some ρ'/\∀σ' F',StOk K F' H σ' ρ'->Keeps F F' all σ σ'->Q σ' H
theorem zqu {all:List Nat}:PGs X [] (tDGs X.K all []):=
 PGs.imp zl0 fun vs σ H Q zz=>by
  obtain⟨ρ,F,g,ds,ρ',_,so,r,e,q⟩:=zz;cases ds with
  |nil=>cases e;have e2:vs=[]:=r;exact⟨e2,q σ F so Keeps.refl⟩
  |cons d ds=>cases e
theorem zn7 {all is:List Nat}{i:Nat}{x:Str}{es:List Expr}{p:Pos}(hN:X.N.Nodup)(hi:X.N[i]?=some x)(hx:Loc X.env.scope x)(hf:X.fn x=true\/X.env.scope.names.lookup x=some .local)(h:PGs X es (tDGs X.K all is)):PGs X (.Name x p::es) (tDGs X.K all (i::is)):=
 PGs.imp (zfn (zet hN hi hx hf) h (by rfl)) fun vs σ H Q zz=>by
  obtain⟨ρ,F,g,ds,ρ',hin,so,r,e,q⟩:=zz;cases ds with
  |nil=>cases e
  |cons d ds=>
   obtain⟨v,t,rfl,h1,h2⟩:=r;refine⟨v,t,rfl,ρ.set i (some (z2j (gJ d g,d))),F.drop i,g,ds,ρ',fun j hj=>hin j (au _ hj),?_,?_,e,fun σ' F' so' k=>q σ' F' so' ((Keeps.set (hin i ak)).trans k)⟩
   ·refine so.setI ?_;show Rep X.K H (BI F (gJ d g)) v d;unfold gJ;by_cases hi:imm d=true
    ·rw[if_pos hi];exact Rep.immB d hi h1
    ·rw[if_neg hi];exact h1
   ·exact h2.weak fun a b=>by cases g<;>exact b
theorem zvp {is:List Nat}{es:List Expr}{k:Nat}{n:Nat}(hc:X.calm=true)(h:PGs X es (tDGs X.K is is))(hn:(gn es X.env).length=n)(hst:(gn es X.env).findIdx? (·.1)=none)(hl:is.length=n):PG X (.Tuple es k pos) (tDG X.K (.tp is)):=
 PG.imp (zo5 hc h hn hst) fun v σ H Q zz=>by
  obtain⟨ρ,F,x,ρ',so,r,e,q⟩:=zz;obtain⟨g,d⟩:=x;cases d<;>try (cases e;done)
  rename_i ds;obtain⟨a,vs,rfl,h1,h2⟩:=r;cases e1:z3g ρ is ds g with
  |none=>change Res.ofO (z3g ρ is ds g)=_ at e;rw[e1]at e;cases e
  |some ρ1=>
   change Res.ofO (z3g ρ is ds g)=_ at e;rw[e1]at e;have e':ρ1=ρ':=Res.ok.inj e;subst e'
   have hlen:∀(is:List Nat) (ds:List D) (ρ ρ1:Rho),z3g ρ is ds g=some ρ1->is.length=ds.length:=by
    intro is
    induction is with
    |nil=>intro ds ρ ρ1 h;cases ds with
     |nil=>rfl
     |cons _ _=>cases h
    |cons i is ih=>intro ds ρ ρ1 h;cases ds with
     |nil=>cases h
     |cons d ds=>rw[br,br,ih ds _ _ h]
   exact⟨a,vs,rfl,h1,by rw[h2.length,<-hlen _ _ _ _ e1];exact hl,ρ,F,g,ds,ρ1,fun _ h=>h,so,h2,e1,q⟩
theorem StOk.blk {K:W.Frag}{F:Fm}{H:Hp}{σ:L2.St}{ρ:Rho}(so:StOk K F H σ ρ)(nt:Nat)(js:List Nat)(l:Addr)(xs:List V)(hl:H l=none):
  StOk K {F with V:=fun a=>F.V a/\a≠l,O:=fun _=>none} (upd H l (.lst xs)) (emb nt js σ) (bv nt none++js.map fun j=>toAl (ρ.getD j none)) where
 ext:=fun a o e=>by have:=so.ext a o e;rw[z05 (z06 this hl)];exact this
 vis:=fun a e=>by
  by_cases h:a=l
  ·subst h;rw[z0d]at e;cases e
  ·rw[z05 h]at e;exact⟨so.vis a e,h⟩
 own:=fun a i e=>by cases e
 len:=by unfold emb;simp
 sl:=fun i g d e=>by
  have hB:∀(a:Ad),visA F a/\¬nw H a->visA {F with V:=fun a=>F.V a/\a≠l,O:=fun _=>none} a:=fun a h=>by
   cases a with
   |none=>exact True.intro
   |some a=>exact⟨h.1,fun z=>h.2 (by rw[z];exact hl)⟩
  have hB2:∀(a:Ad),oldA F a/\¬nw H a->oldA {F with V:=fun a=>F.V a/\a≠l,O:=fun _=>none} a:=fun a h=>by
   cases a with
   |none=>exact True.intro
   |some a=>exact⟨h.1.1,h.1.2,fun z=>h.2 (by rw[z];exact hl)⟩
  rw[ms]at e;split at e
  ·rw[gh]at e;split at e<;>cases e
  ·rename_i hi;rw[dg]at hi e;rw[bw]at e;cases ej:js[i-nt]? with
   |none=>rw[ej]at e;cases e
   |some j=>
    rw[ej]at e;have e1:toAl (ρ.getD j none)=some (g,d):=Option.some.inj e;cases er:ρ[j]? with
    |none=>rw[bo,er]at e1;cases e1
    |some o=>
     rw[bo,er]at e1;cases o with
     |none=>cases e1
     |some gd=>
      obtain⟨g0,d0⟩:=gd;obtain⟨v,h1,h2⟩:=so.sl j g0 d0 er;refine⟨v,?_,?_⟩
      ·unfold emb;rw[fq (by rw[dg];omega),dg,bw,ej];show some (σ.getD j none)=_;rw[bo,h1];rfl
      ·cases g0 with
       |fr=>cases e1;exact Rep.same (Same.upd hl) hB (Rep.there _ (h2.rep so.ownV))
       |od=>cases e1;exact Rep.same (Same.upd hl) hB2 (Rep.there _ h2)
       |al=>cases e1;exact Rep.same (Same.upd hl) hB (Rep.there _ h2)
       |nu=>cases e1;exact Rep.same (Same.upd hl) hB (Rep.there _ (h2.rep so.ownV))
theorem z4d {f:D->Res (Option GD)}:∀(l m:List D) (r:List GD),z3e f (l++m)=.ok r->∃r1 r2,z3e f l=.ok r1/\z3e f m=.ok r2/\r=r1++r2
 | [],m,r,h=>⟨[],r,rfl,h,rfl⟩
 |x::l,m,r,h=>by
  obtain⟨o,e1,h⟩:=Res.bind_ok h;obtain⟨r',e2,h⟩:=Res.bind_ok h;obtain⟨r1,r2,h1,h2,h3⟩:=z4d l m r' e2;subst h3;cases h;refine⟨oc o r1,r2,?_,h2,?_⟩
  ·show(f x>>=fun o=>z3e f l>>=fun r=>Res.ok (oc o r))=_;rw[e1,Res.ok_bind,h1,Res.ok_bind]
  ·cases o<;>rfl
theorem RGs.snoc {K:W.Frag}{F:Fm}{H H':Hp}:∀{vs:List V} {xs:List GD} {v:V} {x:GD},RGs K F H H' vs xs->Rep K H' (BG F H x.1) v x.2->RGs K F H H' (vs++[v]) (xs++[x])
 |vs,[],v,x,r,h=>by have e:vs=[]:=r;subst e;exact⟨v,[],rfl,h,rfl⟩
 |vs,y::ys,v,x,r,h=>by obtain⟨u,t,e,h1,q⟩:=r;subst e;exact⟨u,t++[v],rfl,h1,q.snoc h⟩
theorem RGs.keep {K:W.Frag}{F:Fm}{H H1 H2:Hp}(hk:∀a o (g:G),H1 a=some o->(BG F H g (some a)\/Fix o)->H2 a=some o):∀{vs:List V} {xs:List GD},RGs K F H H1 vs xs->RGs K F H H2 vs xs
 |vs,[],r=>r
 |vs,y::ys,r=>by obtain⟨u,t,e,h1,q⟩:=r;exact⟨u,t,e,Rep.keep (fun a o e b=>hk a o y.1 e b) (fun _ z=>z) _ h1,q.keep hk⟩
theorem RGs.len {K:W.Frag}{F:Fm}{H H':Hp}:∀{vs:List V} {xs:List GD},RGs K F H H' vs xs->vs.length=xs.length
 |vs,[],r=>by have e:vs=[]:=r;subst e;rfl
 |vs,y::ys,r=>by obtain⟨u,t,e,h1,q⟩:=r;subst e;rw[br,br,q.len]
theorem z6z {f:D->Res (Option GD)}:∀(l:List D) (r:List GD),z3e f l=.ok r->r.length<=l.length
 | [],r,h=>by cases h;exact am _
 |x::l,r,h=>by
  obtain⟨o,e1,h⟩:=Res.bind_ok h;obtain⟨r',e2,h⟩:=Res.bind_ok h;have:=z6z l r' e2;cases h;cases o with
  |none=>exact bx this (by simp)
  |some y=>simp only[oc,br];omega
def zb1 (nt:Nat)(js:List Nat)(t:Tg)(fw:Rho->Res (G×List D))(fc:Rho->Res Bool)(fe:Rho->Res GD):Rho->Res GD:=fun ρ=>fw ρ>>=fun w=>z3e (fun x=>z1i t (gJ x w.1,x) (bv nt none++js.map fun j=>toAl (ρ.getD j none))>>=fun ρ1=>fc ρ1>>=fun k=>if k then fe ρ1>>=fun y=>.ok (some y)else .ok none) w.2>>=fun ys=>.ok (gCo ys,.list (ys.map (·.2)))
def lcB (g:TG)(tc:TT)(te:TE)(em:L2.St->L2.St)(σ:L2.St)(Q:VK):It->Hp->Prop:=fun J H1=>∀l,H1 l=none->∃P:Nat->Nat->List V->Hp->Prop,(∃m,P 0 m [] (upd H1 l (.lst [])))/\∀i m acc H2,P i m acc H2->(J.stop i H2/\Q (.ref l) H2)\/(J.go i H2/\acc.length<az/\∃N:List V->Hp->Prop,(∀acc' H',N acc' H'->∃m',m'<m/\P (i+1) m' acc' H')/\∀x H3,J.yld i H2 x H3->g x (em σ) H3 fun σ4 H4=>Keep (em σ) σ4/\tc σ4 H4 fun b H5=>if b=true then te σ4 H5 fun y H6=>H6 l=some (.lst acc)/\N (acc++[y]) (upd H6 l (.lst (acc++[y])))else N acc H5)
abbrev CI (K:W.Frag)(F:Fm)(f:D->Res (Option GD))(ds:List D)(H1:Hp)(l:Nat)(i:Nat)(acc:List V)(H2:Hp):Prop:=H2 l=some (.lst acc)/\(∀a o,H1 a=some o->H2 a=some o)/\∃ys,z3e f (ds.take i)=.ok ys/\RGs K F (upd H1 l (.lst [])) H2 acc ys
theorem zbh {nt:Nat}{js:List Nat}{t:Tg}{fw:Rho->Res (G×List D)}{fc:Rho->Res Bool}{fe:Rho->Res GD}(ht0:∀i∈tgIx t,i<nt){σ:L2.St}{H:Hp}{Q:VK}{ρ:Rho}{F:Fm}{z:GD}(so:StOk X.K F H σ ρ)(e:zb1 nt js t fw fc fe ρ=.ok z)(q:∀v H',Same H H'->Rep X.K H' (BG F H z.1) v z.2->Q v H'):
  ∃w,fw ρ=.ok w/\∀J B H',Same H H'->(∀a,B a->BG F H w.1 a/\¬nw H' a)->Walk X.K J B H' w.2->lcB (tDG X.K t) (tDT X.K fc) (tD X.K fe) (emb nt js) σ Q J H':=by
 obtain⟨w,e1,e⟩:=Res.bind_ok e;obtain⟨ysA,e2,e⟩:=Res.bind_ok e;cases e;refine⟨w,e1,fun J B H1 s1 hB wk l hl=>?_⟩;generalize hr:(bv nt none++js.map fun j=>toAl (ρ.getD j none))=ρ0 at e2;generalize hf:(fun x=>z1i t (gJ x w.1,x) ρ0>>=fun ρ1=>fc ρ1>>=fun k=>if k then fe ρ1>>=fun y=>Res.ok (some y)else .ok none)=f at e2;have so1:=so.same s1;have hpre:∀i,∃ys,z3e f (w.2.take i)=.ok ys:=fun i=>by rw[<-List.take_append_drop i w.2]at e2;obtain⟨r1,r2,h1,_,_⟩:=z4d _ _ _ e2;exact⟨r1,h1⟩
 let Fb:Fm:={F with V:=fun a=>F.V a/\a≠l,O:=fun _=>none}
 refine zvm (n:=w.2.length) (CI X.K Fb f w.2 H1 l) wk.len ?_ ?_ ?_ ?_ ?_
 ·exact⟨z0d,fun a o e=>by rw[z05 (z06 e hl)];exact e,[],rfl,rfl⟩
 ·rintro i acc H2 ⟨_,_,ys,hy,rs⟩
  rw[rs.len];have:=z6z _ _ hy;rw[eu]at this;omega
 ·rintro acc H2 ⟨h1,h2,ys,hy,rs⟩
  rw[List.take_length]at hy;rw[e2]at hy;cases hy;have kp:Kp B H1 H2:=fun a o e _=>h2 a o e;refine⟨wk.stop H2 kp,q _ _ (fun a o e=>h2 a o (s1 a o e)) ?_⟩;have hHl:H l=none:=s1.none hl;refine⟨l,acc,rfl,.inl ⟨h1,?_⟩,rs.reps fun x hx a hb=>?_⟩
  ·show BG F H (gCo ysA) (some l);unfold gCo;split
   ·exact hHl
   ·exact so.vis l hHl
  ·unfold gCo;by_cases ea:(ysA.all fun x=>x.1==.fr)=true
   ·rw[if_pos ea];have hx1:x.1=.fr:=by simpa using bg.mp ea x hx
    rw[hx1]at hb;cases a with
    |none=>exact hb
    |some a=>
     have hb':upd H1 l (.lst []) a=none:=hb
     have:H1 a=none:=by
      by_cases hal:a=l
      ·subst hal;exact hl
      ·rw[z05 hal]at hb';exact hb'
     exact s1.none this
   ·rw[if_neg ea];have:visA Fb a:=BG.vis (F:=Fb) (H:=upd H1 l (.lst [])) (fun a e=>((so1.blk nt js l [] hl).vis a e)) hb;cases a with
    |none=>exact True.intro
    |some a=>exact this.1
 ·rintro i acc H2 hi ⟨_,h2,_⟩
  exact wk.go H2 (fun a o e _=>h2 a o e) i hi
 ·rintro i acc H2 x H3 hi ⟨h1,h2,ys,hy,rs⟩ y
  obtain⟨s3,d,hd,rx⟩:=wk.yld H2 (fun a o e _=>h2 a o e) i x H3 hi y;obtain⟨ys',hy'⟩:=hpre (i+1);have htk:w.2.take (i+1)=w.2.take i++[d]:=by rw[List.take_add_one,hd];rfl
  rw[htk]at hy';obtain⟨r1,r2,g1,g2,g3⟩:=z4d _ _ _ hy';rw[hy]at g1;cases g1;obtain⟨o,g4,g2⟩:=Res.bind_ok g2;obtain⟨r3,g5,g2⟩:=Res.bind_ok g2;cases g5;rw[<-hf]at g4;obtain⟨ρ1,k1,g4⟩:=Res.bind_ok g4;obtain⟨k,k2,g4⟩:=Res.bind_ok g4
  have sb:StOk X.K Fb H3 (emb nt js σ) ρ0:=by
   rw[<-hr];refine(so1.blk nt js l acc hl).same fun a o e=>s3 a o ?_;by_cases hal:a=l
   ·subst hal;rw[z0d]at e;rw[h1];exact e
   ·rw[z05 hal]at e;exact h2 a o e
  have rx':Rep X.K H3 (BI Fb (gJ d w.1)) x d:=by
   unfold gJ;by_cases hi:imm d=true
   ·rw[if_pos hi];exact Rep.immB d hi rx
   ·rw[if_neg hi];refine rx.weak fun a b=>?_;obtain⟨b1,b2⟩:=hB a b;have b3:=BI.of so.vis b1;cases a with
    |none=>cases hw:w.1<;>rw[hw]at b3<;>exact True.intro
    |some a=>
     have hal:a≠l:=fun z=>b2 (by show H1 a=none;rw[z];exact hl);cases hw:w.1<;>rw[hw]at b3
     ·exact⟨b3,hal⟩
     ·exact⟨b3.1,b3.2,hal⟩
     ·exact⟨b3,hal⟩
     ·exact⟨b3,hal⟩
  refine⟨_,Fb,(gJ d w.1,d),ρ1,sb,rx',k1,fun σ4 F4 so4 kps=>⟨⟨kps.len.symm,fun j v hj=>?_⟩,ρ1,F4,k,so4,k2,fun H5 s5=>?_⟩⟩
  ·by_cases hjt:j∈tgIx t
   ·have :=ht0 j hjt;unfold emb at hj;rw[iy (by rw[dg];exact this),gh,if_pos this]at hj;cases hj
   ·rw[kps.rest j hjt];exact hj
  ·have h5:∀a o,H1 a=some o->H5 a=some o:=fun a o e=>s5 a o (s3 a o (h2 a o e));have h5l:H5 l=some (.lst acc):=s5 _ _ (s3 _ _ h1);have rs5:RGs X.K Fb (upd H1 l (.lst [])) H5 acc ys:=rs.keep fun a o g e _=>s5 a o (s3 a o e);cases k with
   |false=>cases g4;cases g2;refine iteF ⟨h5l,h5,ys,?_,rs5⟩;rw[htk,hy',g3];simp[oc]
   |true=>
    obtain⟨yv,k3,g4⟩:=Res.bind_ok g4;cases g4;cases g2;refine iteT ⟨ρ1,F4,yv,so4.same s5,k3,fun v H6 s6 rv=>⟨s6 _ _ h5l,z0d,fun a o e=>?_,ys++[yv],?_,?_⟩⟩
    ·rw[z05 (z06 e hl)];exact s6 a o (h5 a o e)
    ·rw[htk,hy',g3];rfl
    ·have h6l:=s6 _ _ h5l
     have hk:∀a o (g:G),H6 a=some o->(BG Fb (upd H1 l (.lst [])) g (some a)\/Fix o)->upd H6 l (.lst (acc++[v])) a=some o:=fun a o g e b=>by
      have hal:a≠l:=by
       intro z;subst z;rcases b with b|b
       ·cases g with
        |fr=>have b':upd H1 a (.lst []) a=none:=b;rw[z0d]at b';cases b'
        |od=>exact b.2.2 rfl
        |al=>exact b.2 rfl
        |nu=>
         rcases b with b|b
         ·have b':upd H1 a (.lst []) a=none:=b;rw[z0d]at b';cases b'
         ·exact b.2.2.2 rfl
       ·rw[h6l]at e;cases e;exact b
      rw[z05 hal];exact e
     have rs6:RGs X.K Fb (upd H1 l (.lst [])) H6 acc ys:=rs5.keep fun a o g e _=>s6 a o e
     have rv':Rep X.K H6 (BG Fb (upd H1 l (.lst [])) yv.1) v yv.2:=by
      refine rv.weak fun a b=>?_;cases hg:yv.1 with
      |fr=>
       rw[hg]at b;cases a with
       |none=>exact b
       |some a=>
        have b':H5 a=none:=b;show upd H1 l (.lst []) a=none;have hal:a≠l:=fun z=>by rw[z,h5l]at b';cases b'
        rw[z05 hal];cases e1:H1 a with
        |none=>rfl
        |some o=>rw[h5 a o e1]at b';cases b'
      |nu=>
       rw[hg]at b;cases a with
       |none=>exact b
       |some a=>
        rcases b with b|b
        ·have b':H5 a=none:=b;refine .inl ?_;show upd H1 l (.lst []) a=none;have hal:a≠l:=fun z=>by rw[z,h5l]at b';cases b'
         rw[z05 hal];cases e1:H1 a with
         |none=>rfl
         |some o=>rw[h5 a o e1]at b';cases b'
        ·refine .inr ⟨rfl,?_,?_⟩
         ·have:=b.2.1;rw[kps.h0]at this;exact this
         ·have:=b.2.2;rw[kps.v]at this;exact this
      |od=>
       rw[hg]at b;cases a with
       |none=>exact True.intro
       |some a=>have b1:F4.H0 a≠none/\F4.V a:=b;rw[kps.h0,kps.v]at b1;exact b1
      |al=>
       rw[hg]at b;cases a with
       |none=>exact True.intro
       |some a=>have b1:F4.V a:=b;rw[kps.v]at b1;exact b1
     exact(rs6.snoc rv').keep hk
theorem zcq {nt:Nat}{js:List Nat}{t:Tg}{fw:Rho->Res (G×List D)}{fc:Rho->Res Bool}{fe:Rho->Res GD}(ht0:∀i∈tgIx t,i<nt):∀σ H Q,tD X.K (zb1 nt js t fw fc fe) σ H Q->tLC (tDW X.K fw) (tDG X.K t) (tDT X.K fc) (tD X.K fe) (emb nt js) σ H Q:=by intro σ H Q h;obtain⟨ρ,F,z,so,e,q⟩:=h;obtain⟨w,e1,h⟩:=zbh (X:=X) (js:=js) (fw:=fw) (fc:=fc) (fe:=fe) ht0 so e q;exact⟨ρ,F,w,so,e1,h⟩
theorem zid {scope:Scope}{N':List Str}{nt:Nat}{js:List Nat}{t:Tg}{iter elt:Expr}{ifs:List Expr}{fw:Rho->Res (G×List D)}{fc:Rho->Res Bool}{fe:Rho->Res GD}(hc:X.calm=true)(Bk:BlkScope X scope N' nt js)(ht0:∀i∈tgIx t,i<nt)(hi:PI X tg iter (tDW X.K fw))
  (hg:∀C fp s H,PG (blk X scope N' C fp s H) tg (tDG X.K t)) (ht:∀C fp s H,PTs (blk X scope N' C fp s H) ifs (tDT X.K fc)) (he:∀C fp s H,PE (blk X scope N' C fp s H) elt (tD X.K fe)) (hs:∀x,gg iter X.env x=pure x):
  PE X (.ListComp elt [⟨tg,iter,ifs,0⟩] scope pos) (tD X.K (zb1 nt js t fw fc fe))/\∀σ H Q,tD X.K (zb1 nt js t fw fc fe) σ H Q->tLC (tDW X.K fw) (tDG X.K t) (tDT X.K fc) (tD X.K fe) (emb nt js) σ H Q:=by
 have main:=zcq (X:=X) (js:=js) (fw:=fw) (fc:=fc) (fe:=fe) ht0;exact⟨PE.imp (zi8 hc Bk hi hg ht he hs) main,main⟩
end
def BC (H:Hp)(A:Ad->Prop):G->Ad->Prop
 |.fr=>nw H
 |.od=>fun a=>nw H a\/A a\/a=none
 |.al=>fun a=>nw H a\/A a\/a=none
 |.nu=>nw H
def spD (K:W.Frag)(n:Nat)(m:Fn):Sp:=fun vs H Q _=>∃A ds x,vs.length=n/\Reps K H A vs ds/\m ds=.ok x/\∀v H',Same H H'->Rep K H' (BC H A x.1) v x.2->Q v H'
section
variable {X:Cx}{tg a b c e o:Expr}{es:List Expr}{fa fb fc:Rho->Res GD}{pos:Pos}
theorem zs8 {x:Str}{k k' n:Nat}{ps:List Str}{m:Fn}{fs:Rho->Res (List GD)}{p:Pos}(Cc:Cal X.prog X.w X.K X.mg X.base k x ps (spD X.K n m))(hr:Room k' X.A)(hk:k<=k')(ha:PA X (e::es) (tDA X.K fs))(hst:((e::es).all fun e=> !isStar e)=true)(hg:Gl X x)(hdb:(x==("__debug__":Str))=false)
  (hl:∀ρ ys,fs ρ=.ok ys->ys.length=n):PE X (.Call (.Name x p) (e::es) [] pos) (tD X.K fun ρ=>fs ρ>>=fun ys=>m (ys.map (·.2))>>=fun r=>.ok (gJ r.2 (rtG r.1),r.2)):=
 PE.imp (zgj Cc hr ha hst hk hg hdb) fun σ H Q zz=>by
  obtain⟨ρ,F,z,so,e,q⟩:=zz;obtain⟨ys,e1,e⟩:=Res.bind_ok e;obtain⟨r,e2,e⟩:=Res.bind_ok e;cases e;refine⟨ρ,F,ys,so,e1,fun vs H1 s1 rs=>?_⟩;show spD X.K n m (vs++[]) H1 Q E0;rw[gv];refine⟨_,_,r,by rw[rs.len];exact hl ρ ys e1,rs.repsV so.vis,e2,fun v H2 s2 rv=>q v H2 (s1.trans s2) (z3s rv fun a h=>?_)⟩;have al:(nw H1 a\/visA F a\/a=none)->visA F a:=fun h=>h.elim (fun h=>(nw.back s1 h).vis so.vis) fun h=>h.elim (fun h=>h) fun h=>by subst h;trivial
  cases hg:r.1 with
  |fr=>rw[hg]at h;exact nw.back s1 h
  |od=>rw[hg]at h;exact al h
  |al=>rw[hg]at h;exact al h
  |nu=>rw[hg]at h;exact nw.back s1 h
def rMt (K:W.Frag)(m:String):V->List V->Hp->VK->Prop:=fun x xs H Q=>∃B B' dx ds d,Rep K H B x dx/\Reps K H B' xs ds/\mtD m dx ds=.ok d/\∀w H',Same H H'->Rep K H' (fun a=>nw H a\/B a\/B' a) w d->Q w H'
theorem z4g {o:Expr}{n:Str}{env:Env}{w:Sem Value}(h:z4v o=true):su o n env w=w:=by
 unfold su;split
 ·rename_i id p pos;cases h
 ·rfl
theorem za1 {pos:Pos}{env:Env}:∀{es:List Expr},(es.all fun e=> !isStar e)=true->(mv pos (d3 es env)).all (fun x=> !x.1)=true
 | [],_=>rfl
 |e::es,h=>by have h:=ar.mp (dw▸h);rw[z0l (by simpa using h.1)];show(true&&(mv pos (d3 es env)).all (fun x=>!x.1))=true;rw[za1 h.2];rfl
theorem z7k {cpos:Pos}{env:Env}{es:List Expr}(h:(es.all fun e=> !isStar e)=true)(hl:es.length<20):((mv cpos (d3 es env)).all (fun x=> !x.1)&&(backToKw cpos (uy [] env)).all (fun x=>x.1.isSome)
  &&decide (es.length+([]:List p6).length+(if([]:List p6).isEmpty then 0 else 1)<30))=true:=by
 rw[za1 h];show(true&&true&&decide (es.length+0+0<30))=true;rw[v5 (by omega)];rfl
theorem d_mt {m T id:String}{n:Str}{apos cpos:Pos}{fs:Rho->Res (List GD)}(pa:PlainAttrs T)(slot:PySem.Slot T n id)(hty:vm (.builtin id)=pure (.type "method_descriptor"))(hm:MtR X id (rMt X.K m))(hT:∀H B x dx ds d,Rep X.K H B x dx->mtD m dx ds=.ok d->tyV X.K T x H)
  (ho:PE X o (tD X.K fa)) (ha:PA X (e::es) (tDA X.K fs)) (hns:z4v o=true) (hst:((e::es).all fun e=>!isStar e)=true) (hl:(e::es).length<20) (hline:(apos.endLine==cpos.line)=true):
  PE X (.Call (.Attribute o n apos) (e::es) [] cpos) (tD X.K fun ρ=>fa ρ>>=fun x=>fs ρ>>=fun ys=>mtD m x.2 (ys.map (·.2))>>=fun d=>.ok (gJ d .al,d)):=by
 have hst':=hst;rw[dw,ax]at hst';refine PE.imp (zc2 pa slot hty hm ho ha (z4g hns) (z7k hst hl) hline (z0l (by simpa using hst'.1)) (z1m hst'.2)) fun σ H Q zz=>?_;obtain⟨ρ,F,z,so,e,q⟩:=zz;obtain⟨x,e1,e⟩:=Res.bind_ok e;obtain⟨ys,e2,e⟩:=Res.bind_ok e;obtain⟨d,e3,e⟩:=Res.bind_ok e;cases e;refine⟨ρ,F,x,so,e1,fun v H1 s1 rv=>⟨hT H1 _ v x.2 _ d rv e3,ρ,F,ys,so.same s1,e2,fun vs H2 s2 rs=>?_⟩⟩;refine⟨_,_,x.2,_,d,rv.same s2 fun _ z=>z,rs.repsV (so.same s1).vis,e3,fun w H3 s3 rw'=>q w H3 ((s1.trans s2).trans s3) (z3s rw' fun a h=>?_)⟩;rcases h with h|h|h
 ·exact(nw.back (s1.trans s2) h).vis so.vis
 ·exact h.vis so.vis
 ·exact h
theorem zte (hu:X.A.units+64<cLine):MtR X "dict.get" (rMt X.K "get"):=by
 intro pins s σ H x xs v us Q I rx rs h;obtain⟨B,B',dx,ds,d,r1,r2,e,q⟩:=h;simp only[mtD,if_true]at e;split at e
 ·rename_i es k d0;split at e
  case isFalse=>cases e
  rename_i hk;cases e;obtain⟨vk,vd,rfl,h1,h2⟩:=zgz r2;obtain⟨kk,rfl,rfl,_⟩:=z4u hk h1;obtain⟨a,kvs,rfl,g1,_,g2⟩:=r1;cases rx;obtain⟨u1,u2,rfl,q1,q2⟩:=vals2 rs;have hv:=g2.val kk;refine zpa (by omega) I (DGet.k g1) q1 q2 fun w' s' I' rw'=>⟨_,H,I',rw',q _ H (Same.refl H) ?_⟩;cases e3:z2h es (kD kk)with
  |none=>rw[e3]at hv;rw[show valV kvs kk=none from hv];exact h2.weak fun _ z=>.inr (.inr z)
  |some d'=>rw[e3]at hv;obtain⟨w,h3,h4⟩:=hv;rw[h3];exact h4.weak fun _ z=>.inr (.inl z)
 ·cases e
theorem zqw {H:Hp}{B:Ad->Prop}{x:V}{dx d:D}{ds:List D}(r:Rep X.K H B x dx)(e:mtD "get" dx ds=.ok d):tyV X.K "dict" x H:=by
 simp only[mtD,if_true]at e;split at e
 ·obtain⟨a,kvs,rfl,g1,_,_⟩:=r;exact .inr (.inr (.inl ⟨rfl,.inl ⟨kvs,g1⟩⟩))
 ·cases e
theorem z78 {K:W.Frag}{H:Hp}{B:Ad->Prop}:∀{ds:List D} {ss:List Str} {vs:List V} {us:List Value},allS ds=some ss->Reps K H B vs ds->Vals vs us->StrsAre us ss/\∀s∈ss,PyData.strOk s=true
 | [],ss,vs,us,e,r,q=>by cases e;have e1:vs=[]:=r;subst e1;cases q;exact⟨.nil,fun _ h=>nomatch h⟩
 |d::ds,ss,vs,us,e,r,q=>by
  cases d<;>try (cases e;done)
  rename_i z;change(allS ds).map (z:: ·)=_ at e;cases e1:allS ds with
  |none=>rw[e1]at e;cases e
  |some ss'=>
   rw[e1]at e;cases e;obtain⟨v,t,rfl,h1,h2⟩:=r;have ev:v=.str z:=h1.1;subst ev;cases q with
   |cons q1 q2=>
    obtain⟨tk,rfl⟩:=q1;obtain⟨i1,i2⟩:=z78 e1 h2 q2;refine⟨.cons z tk i1,fun s hs=>?_⟩;rcases(aw.mp hs)with rfl|hs
    ·exact h1.2
    ·exact i2 s hs
theorem zhn (z:Str)(ss:List Str):Txt.join z ss=z67 z ss:=by
 have go:∀(r:List Str) (acc:Array Nat),(r.foldl (fun acc p=>acc++z.cps++p.cps) acc).toList=acc.toList++(r.map fun p=>z.cps.toList++p.cps.toList).flatten:=by
  intro r
  induction r with
  |nil=>intro acc;simp
  |cons p r ih=>intro acc;rw[qf,ih];simp
 show ul z ss=_;unfold ul z67 zdu;cases ss with
 |nil=>rfl
 |cons x r=>
  have:=go r x.cps;show(⟨r.foldl (fun acc p=>acc++z.cps++p.cps) x.cps⟩:Str)=⟨(x.cps.toList++(r.map fun p=>z.cps.toList++p.cps.toList).flatten).toArray⟩
  congr 1
  rw[<-this,km]
theorem zb8 {z:Str}{ss:List Str}(hz:PyData.strOk z=true)(h:∀s∈ss,PyData.strOk s=true):PyData.strOk (z67 z ss)=true:=
 z1f.mpr fun c hc=>by
  have hc':c∈zdu z.cps.toList ss:=by simpa[z67]using hc
  cases ss with
  |nil=>simp[zdu]at hc'
  |cons x r=>
   simp only[zdu,b9,pd,bt]at hc';rcases hc' with hc'|⟨l,⟨p,hp,rfl⟩,hc'⟩
   ·exact z1f.mp (h x ak) c hc'
   ·rcases b9.mp hc' with hc'|hc'
    ·exact z1f.mp hz c hc'
    ·exact z1f.mp (h p (au _ hp)) c hc'
theorem znt:MtR X "str.join" (rMt X.K "join"):=by
 intro pins s σ H x xs v us Q I rx rs h;obtain⟨B,B',dx,ds,d,r1,r2,e,q⟩:=h;simp only[mtD,show("join":String)≠"get" by decide,if_true,if_false]at e;split at e
 ·rename_i z ys;split at e
  case h_2=>cases e
  rename_i ss hss;split at e
  case isFalse=>cases e
  rename_i hw;cases e;obtain⟨vl,rfl,h1⟩:=zb3 r2;obtain⟨a,vs,rfl,hq,rl⟩:=z1y h1;obtain⟨u,rfl,ru⟩:=vals1 rs;cases ru;have ex:x=.str z:=r1.1;subst ex;obtain⟨t,rfl⟩:=rx;obtain⟨its,rv,pl,_⟩:=I.list hq;obtain⟨sa,ok⟩:=z78 hss rl rv;refine join_list pl.isList (by simpa using sa) (bx hw (by unfold LIM;decide)) fun t' k=>?_;rw[zhn];exact⟨.str _,H,I.tok _,⟨_,rfl⟩,q _ H (Same.refl H) ⟨rfl,zb8 r1.2 ok⟩⟩
 ·cases e
theorem zk9 {H:Hp}{B:Ad->Prop}{x:V}{dx d:D}{ds:List D}(r:Rep X.K H B x dx)(e:mtD "join" dx ds=.ok d):tyV X.K "str" x H:=by
 simp only[mtD,show("join":String)≠"get" by decide,if_true,if_false]at e;split at e
 ·have ex:x=.str _:=r.1;subst ex;exact rfl
 ·cases e
end
section
variable {X:Cx}{o:Expr}{fa:Rho->Res GD}
end
def Frm (F:Fm)(H:Hp)(F':Fm)(H':Hp):Prop:=∀a o,H a=some o->F.O a=none->H' a=some o/\F'.O a=none
theorem Frm.refl {F:Fm}{H:Hp}:Frm F H F H:=fun _ _ e o=>⟨e,o⟩
theorem Frm.trans {F F' F'':Fm}{H H' H'':Hp}(a:Frm F H F' H')(b:Frm F' H' F'' H''):Frm F H F'' H'':=fun x o e n=>by obtain⟨e1,n1⟩:=a x o e n;exact b x o e1 n1
theorem Frm.same {F:Fm}{H H':Hp}(s:Same H H'):Frm F H F H':=fun a o e n=>⟨s a o e,n⟩
def Run (F F':Fm):Prop:=Same F.H0 F'.H0/\F'.V=F.V
theorem Run.refl {F:Fm}:Run F F:=⟨fun _ _ e=>e,rfl⟩
theorem Run.trans {F F' F'':Fm}(a:Run F F')(b:Run F' F''):Run F F'':=⟨fun x o e=>b.1 x o (a.1 x o e),b.2.trans a.2⟩
theorem Run.of {F F':Fm}(h:F'.H0=F.H0)(v:F'.V=F.V):Run F F':=⟨fun _ _ e=>by rw[h];exact e,v⟩
def BR (F:Fm):G->Ad->Prop
 |.fr=>fun a=>match a with|some a=>F.H0 a=none|none=>False
 |.od=>visA F
 |.al=>visA F
 |.nu=>fun a=>match a with|some a=>F.H0 a=none|none=>False
def z83 (K:W.Frag)(F:Fm)(H:Hp)(D:Ends):Out->Prop
 |.nx ρ'=>∀σ' H' F',StOk K F' H' σ' ρ'->Run F F'->Frm F H F' H'->D.nx σ' H'
 |.bk ρ'=>∀σ' H' F',StOk K F' H' σ' ρ'->Run F F'->Frm F H F' H'->D.bk σ' H'
 |.ct ρ'=>∀σ' H' F',StOk K F' H' σ' ρ'->Run F F'->Frm F H F' H'->D.ct σ' H'
 |.rt g d=>∀v H',(∀a o,F.H0 a=some o->H' a=some o)->Rep K H' (BR F g) v d->D.rt v H'
def tDS (K:W.Frag)(f:Rho->Res Out):TS:=fun D σ H=>∃ρ F out,StOk K F H σ ρ/\f ρ=.ok out/\z83 K F H D out
theorem none_of {H H':Hp}{a:Addr}(s:Same H H')(h:H' a=none):H a=none:=by
 cases e:H a with
 |none=>rfl
 |some o=>rw[s a o e]at h;cases h
theorem BR.run {F F':Fm}(r:Run F F'){g:G}{a:Ad}(h:BR F' g a):BR F g a:=by obtain⟨r1,r2⟩:=r;cases g<;>cases a<;>first|exact h|(exact none_of r1 h)|(have h':F'.V _:=h;rw[r2]at h';exact h')
theorem z83.back {K:W.Frag}{F F':Fm}{H H':Hp}{D:Ends}{out:Out}(r:Run F F')(f:Frm F H F' H')(h:z83 K F H D out):z83 K F' H' D out:=by
 cases out with
 |nx ρ'=>exact fun σ'' H'' F'' so r2 f2=>h σ'' H'' F'' so (r.trans r2) (f.trans f2)
 |bk ρ'=>exact fun σ'' H'' F'' so r2 f2=>h σ'' H'' F'' so (r.trans r2) (f.trans f2)
 |ct ρ'=>exact fun σ'' H'' F'' so r2 f2=>h σ'' H'' F'' so (r.trans r2) (f.trans f2)
 |rt g d=>exact fun v H'' k rv=>h v H'' (fun a o e=>k a o (r.1 a o e)) (rv.weak fun _ b=>b.run r)
section
variable {X:Cx}{tg a b c e:Expr}{es:List Expr}{fa fb fc:Rho->Res GD}{pos:Pos}{st:Stmt}{rest A Bs:List Stmt}{fs gs:Rho->Res Out}
theorem zsl:PSs X [] (tDS X.K fun ρ=>.ok (.nx ρ)):=PSs.imp zkk fun D σ H ⟨ρ,F,out,so,e,q⟩=>by cases e;exact q σ H F so Run.refl Frm.refl
theorem zug (h1:PS X st (tDS X.K fs))(h2:PSs X rest (tDS X.K gs)):PSs X (st::rest) (tDS X.K fun ρ=>outB (fs ρ) gs):=
 PSs.imp (za2 h1 h2) fun D σ H zz=>by
  obtain⟨ρ,F,out,so,e,q⟩:=zz;have e:outB (fs ρ) gs=.ok out:=e;cases e1:fs ρ with
  |no=>rw[e1]at e;cases e
  |exc x=>rw[e1]at e;cases e
  |ok o1=>
   rw[e1]at e;cases o1 with
   |nx ρ1=>exact⟨ρ,F,.nx ρ1,so,e1,fun σ' H' F' so' r f=>⟨ρ1,F',out,so',e,q.back r f⟩⟩
   |bk ρ1=>cases e;exact⟨ρ,F,.bk ρ1,so,e1,q⟩
   |ct ρ1=>cases e;exact⟨ρ,F,.ct ρ1,so,e1,q⟩
   |rt g d=>cases e;exact⟨ρ,F,.rt g d,so,e1,q⟩
theorem s_if {ft:Rho->Res Bool}(hc:PT X c (tDT X.K ft))(ha:PSs X A (tDS X.K fs))(hb:PSs X Bs (tDS X.K gs)):PS X (.If c A Bs pos) (tDS X.K fun ρ=>ft ρ>>=fun k=>if k then fs ρ else gs ρ):=
 PS.imp (ztk hc ha hb) fun D σ H zz=>by
  obtain⟨ρ,F,out,so,e,q⟩:=zz;obtain⟨k,e1,e⟩:=Res.bind_ok e;refine⟨ρ,F,k,so,e1,fun H1 s1=>?_⟩;cases k with
  |true=>exact iteT ⟨ρ,F,out,so.same s1,e,q.back Run.refl (Frm.same s1)⟩
  |false=>exact iteF ⟨ρ,F,out,so.same s1,e,q.back Run.refl (Frm.same s1)⟩
theorem zq7 {K:W.Frag}{F:Fm}{H H':Hp}{g:G}{v:V}{d:D}(so:∀a o,F.H0 a=some o->H a=some o)(hv:∀a,H a=none->F.V a)(r:Rep K H' (BG F H g) v d):Rep K H' (BR F (rtG g)) v d:=by
 refine r.weak fun a b=>?_;cases g with
 |fr=>
  cases a with
  |none=>exact b
  |some a=>show F.H0 a=none;exact Same.none so b
 |od=>exact oldA.vis b
 |al=>exact b
 |nu=>
  cases a with
  |none=>exact b.elim id id
  |some a=>exact b.elim (fun b=>Same.none so b) fun b=>b.2.1
theorem zv7 (ha:PE X e (tD X.K fa)):PS X (.Return (some e) pos) (tDS X.K fun ρ=>fa ρ>>=fun x=>.ok (.rt (rtG x.1) x.2)):=PS.imp (zjn ha) fun D σ H zz=>by obtain⟨ρ,F,out,so,e,q⟩:=zz;obtain⟨x,e1,e⟩:=Res.bind_ok e;cases e;exact⟨ρ,F,x,so,e1,fun v H1 s1 rv=>q v H1 (fun a o e=>s1 a o (so.ext a o e)) (zq7 so.ext so.vis rv)⟩
theorem Slot.ret {K:W.Frag}{F:Fm}{H:Hp}{i:Nat}{g:G}{v:V}{d:D}(so:∀a i,F.O a=some i->F.H0 a=none/\F.V a)(h:Slot K F H i g v d):Rep K H (BR F (if imm d then .fr else rtG g)) v d:=by
 by_cases hi:imm d=true
 ·rw[if_pos hi];exact Rep.immB d hi (h.rep fun a i e=>(so a i e).2)
 ·rw[if_neg hi];cases g with
  |fr=>
   obtain⟨p,e,o,h⟩:=h
   have hb:∀a,Bin F a->BR F .fr a:=fun a b=>by
    cases a with
    |none=>exact b
    |some a=>exact b.2.1
   rcases h with⟨vs,ds,rfl,e2,r⟩|⟨vs,ds,rfl,e2,r⟩
   ·exact⟨p,vs,e,.inl ⟨e2,(so _ _ o).1⟩,r.weak hb⟩
   ·exact⟨p,vs,e,e2,(so _ _ o).1,REs.same (fun _ _ e=>e) hb r⟩
  |od=>exact Rep.weak (fun _ b=>b.vis) h
  |al=>exact h
  |nu=>
   refine Rep.weak (fun a b=>?_) h;cases a with
   |none=>exact b
   |some a=>exact b.2.1
theorem z7j {i:Nat}{x:Str}{p:Pos}(hN:X.N[i]?=some x)(hv:Vis X.env.scope x)(hd:(x==("__debug__":Str))=false)(hcd:(x==("__classdict__":Str))=false):
  PS X (.Return (some (.Name x p)) pos) (tDS X.K fun ρ=>match ρ[i]? with|some (some (g,d))=>.ok (.rt (if imm d then .fr else rtG g) d)|_=>.no):=
 PS.imp (zjn (z50 hN hv hd hcd)) fun D σ H zz=>by
  obtain⟨ρ,F,out,so,e,q⟩:=zz;have e:(match ρ[i]? with|some (some (g,d))=>Res.ok (Out.rt (if imm d then .fr else rtG g) d)|_=>.no)=.ok out:=e;cases e1:ρ[i]? with
  |none=>rw[e1]at e;cases e
  |some o=>
   rw[e1]at e;cases o with
   |none=>cases e
   |some gd=>obtain⟨g,d⟩:=gd;cases e;obtain⟨v,h1,h2⟩:=so.sl i g d e1;exact⟨v,h1,q v H so.ext (h2.ret fun a i e=>⟨(so.own a i e).1,(so.own a i e).2.1⟩)⟩
theorem zsd (hs:z38 e=false)(ha:PE X e (tD X.K fa)):PS X (.Expr e pos) (tDS X.K fun ρ=>fa ρ>>=fun _=>.ok (.nx ρ)):=PS.imp (ps_e ha hs) fun D σ H zz=>by obtain⟨ρ,F,out,so,e,q⟩:=zz;obtain⟨x,e1,e⟩:=Res.bind_ok e;cases e;exact⟨ρ,F,x,so,e1,fun v H1 s1 rv=>q σ H1 F (so.same s1) Run.refl (Frm.same s1)⟩
theorem REs.immB {K:W.Frag}{H:Hp}{B B':Ad->Prop}:∀{kvs:List (Key×V)} (es:Ents),immE es=true->REs K H B kvs es->REs K H B' kvs es
 |kvs,[],_,r=>r
 |kvs,(kd,d)::es,i,r=>by unfold immE at i;rw[dw,ax]at i;obtain⟨k,v,t,e,e2,ok,h,q⟩:=r;exact⟨k,v,t,e,e2,ok,Rep.immB d i.1 h,REs.immB es i.2 q⟩
theorem StOk.nwBin {K:W.Frag}{F:Fm}{H:Hp}{σ:L2.St}{ρ:Rho}(so:StOk K F H σ ρ){a:Ad}(h:nw H a):Bin F a:=by
 cases a with
 |none=>exact h
 |some a=>
  have h:H a=none:=h;refine⟨?_,Same.none so.ext h,so.vis a h⟩;cases e1:F.O a with
  |none=>rfl
  |some j=>obtain⟨_,_,z⟩:=so.own a j e1;rcases z with⟨xs,z⟩|⟨xs,z⟩<;>rw[h]at z<;>cases z
theorem StOk.setN {K:W.Frag}{F:Fm}{H:Hp}{σ:L2.St}{ρ:Rho}{d:D}{v:V}{i:Nat}(so:StOk K F H σ ρ)(r:Rep K H (Bin F) v d):StOk K (F.drop i) H (σ.set i (some v)) (ρ.set i (some (.nu,d))):=by
 have z:=so.setI (i:=i) (x:=(.al,d)) (v:=v) (Rep.weak (fun _ b=>Bin.vis b) r);refine⟨z.ext,z.vis,z.own,by rw[f8,f8];exact so.len,fun j g d' e=>?_⟩;by_cases hj:i=j
 ·subst hj;rw[fu]at e;simp only[if_true]at e;split at e
  ·rename_i hl;cases e;exact⟨v,by rw[fu];simp[so.len,hl],Rep.weak (fun _ b=>b.drop) r⟩
  ·cases e
 ·refine z.sl j g d' ?_;rw[d5 hj]at e ⊢;exact e
def Fm.take (F:Fm)(i:Nat)(p:Addr):Fm:={F with O:=fun a=>if a=p then some i else if F.O a=some i then none else F.O a}
theorem Frm.drop {F:Fm}{H H':Hp}{i:Nat}(s:Same H H'):Frm F H (F.drop i) H':=fun a o e n=>⟨s a o e,Fm.drop_none n⟩
theorem StOk.setA {K:W.Frag}{F:Fm}{H H1:Hp}{σ:L2.St}{ρ:Rho}{x:GD}{v:V}{i:Nat}(so:StOk K F H σ ρ)(s1:Same H H1)(r:Rep K H1 (BG F H x.1) v x.2):
  ∃F',StOk K F' H1 (σ.set i (some v)) (ρ.set i (some (z1j x)))/\Run F F'/\Frm F H F' H1:=by
 have so1:=so.same s1;obtain⟨g,d⟩:=x
 have plain:z1j (g,d)=z2j (if imm d then .al else rdG g,d)->∃F',StOk K F' H1 (σ.set i (some v)) (ρ.set i (some (z1j (g,d))))/\Run F F'/\Frm F H F' H1:=fun e=>by
  rw[e];refine⟨F.drop i,so1.setI ?_,Run.of rfl rfl,Frm.drop s1⟩;show Rep K H1 (BI F (if imm d then .al else rdG g)) v d;by_cases hi:imm d=true
  ·rw[if_pos hi];exact Rep.immB d hi r
  ·rw[if_neg hi];cases g with
   |fr=>exact r.weak fun _ b=>nw.vis so.vis b
   |od=>exact r
   |al=>exact r
   |nu=>exact r.weak fun _ b=>b.elim (nw.vis so.vis) Bin.vis
 have nuc:z1j (g,d)=(.nu,d)->(∀a,BG F H g a->Bin F a)->∃F',StOk K F' H1 (σ.set i (some v)) (ρ.set i (some (z1j (g,d))))/\Run F F'/\Frm F H F' H1:=fun e hb=>by rw[e];exact⟨F.drop i,so1.setN (Rep.weak hb r),Run.of rfl rfl,Frm.drop s1⟩
 have own:∀(p:Addr),F.O p=none->H p=none->F.H0 p=none->F.V p->v=.ref p->z1j (g,d)=(.fr,d)->(∀F':Fm,(∀a,Bin F a\/nw H a->a≠some p->Bin F' a)->F'.O p=some i->Slot K F' H1 i .fr v d)->(((∃xs,H1 p=some (.lst xs))\/∃kvs,H1 p=some (.dK kvs)))->
   ∃F',StOk K F' H1 (σ.set i (some v)) (ρ.set i (some (z1j (g,d))))/\Run F F'/\Frm F H F' H1:=fun p hOp hHp hH0 hVp ev es hsl hobj=>by
  have hdr:∀a,a≠p->(F.take i p).O a=(F.drop i).O a:=fun a ha=>by show(if a=p then some i else _)=_;rw[if_neg ha];rfl
  have hnw:∀a,H a=none->F.O a=none:=fun a e=>by
   cases e1:F.O a with
   |none=>rfl
   |some j=>obtain⟨_,_,h⟩:=so.own a j e1;rcases h with⟨xs,h⟩|⟨xs,h⟩<;>rw[e]at h<;>cases h
  have hnw0:∀a,H a=none->F.H0 a=none:=fun a e=>Same.none so.ext e
  have hbin:∀a,Bin F a\/nw H a->a≠some p->Bin (F.take i p) a:=fun a b hne=>by
   cases a with
   |none=>exact b.elim id id
   |some a=>have hap:a≠p:=fun z=>hne (by rw[z]);have hb:F.O a=none/\F.H0 a=none/\F.V a:=b.elim id fun b=>⟨hnw a b,hnw0 a b,so.vis a b⟩;exact⟨by rw[hdr a hap];exact Fm.drop_none hb.1,hb.2⟩
  have hOp':(F.take i p).O p=some i:=by show(if p=p then some i else _)=_;rw[if_pos rfl]
  refine⟨F.take i p,⟨so1.ext,so1.vis,fun a j e=>?_,by rw[f8,f8];exact so.len,fun j g' d' e=>?_⟩,Run.of rfl rfl,fun a o e n=>⟨s1 a o e,?_⟩⟩
  ·by_cases hap:a=p
   ·subst hap;exact⟨hH0,hVp,hobj⟩
   ·rw[hdr a hap]at e
    have e':F.O a=some j:=by
     have:(if F.O a=some i then none else F.O a)=some j:=e;split at this
     ·cases this
     ·exact this
    exact so1.own a j e'
  ·by_cases hj:i=j
   ·subst hj;rw[fu]at e;simp only[if_true]at e;split at e
    ·rename_i hl;have e1:z1j (g,d)=(g',d'):=by simpa using e
     rw[es]at e1;cases e1;exact⟨v,by rw[fu];simp[so.len,hl],hsl _ hbin hOp'⟩
    ·cases e
   ·rw[d5 hj]at e ⊢;obtain⟨u,h1,h2⟩:=so.sl j g' d' e;refine⟨u,h1,?_⟩;cases g' with
    |fr=>
     obtain⟨p',e1,o1,h3⟩:=h2;have hpp:p'≠p:=fun z=>by rw[z,hOp]at o1;cases o1
     refine⟨p',e1,?_,?_⟩
     ·rw[hdr p' hpp];show(if F.O p'=some i then none else F.O p')=some j;rw[o1,if_neg (fun z=>hj (Option.some.inj z).symm)]
     ·have hb':∀(a:Ad),Bin F a/\¬nw H a->Bin (F.take i p) a:=fun a b=>hbin a (.inl b.1) fun z=>b.2 (by rw[z];exact hHp);rcases h3 with⟨vs,ds,e3,e2,r3⟩|⟨vs,ds,e3,e2,r3⟩
      ·exact .inl ⟨vs,ds,e3,s1 _ _ e2,Reps.same s1 hb' (Reps.there _ r3)⟩
      ·exact .inr ⟨vs,ds,e3,s1 _ _ e2,REs.same s1 hb' (REs.there _ r3)⟩
    |od=>exact Rep.same s1 (fun _ b=>b) h2
    |al=>exact Rep.same s1 (fun _ b=>b) h2
    |nu=>exact Rep.same s1 (fun a b=>hbin a (.inl b.1) fun z=>b.2 (by rw[z];exact hHp)) (Rep.there _ h2)
  ·have hap:a≠p:=fun z=>by rw[z,hHp]at e;cases e
   rw[hdr a hap];exact Fm.drop_none n
 have hOn:∀p,H p=none->F.O p=none:=fun p hHp=>by
  cases e1:F.O p with
  |none=>rfl
  |some j=>obtain⟨_,_,h'⟩:=so.own p j e1;rcases h' with⟨xs,h'⟩|⟨xs,h'⟩<;>rw[hHp]at h'<;>cases h'
 by_cases hi:imm d=true
 ·exact plain (by show(if imm d then _ else _)=_;rw[if_pos hi];show _=z2j (if imm d then _ else _,d);rw[if_pos hi];rfl)
 ·cases g with
  |od=>exact plain (by delta z1j;simp only[if_neg hi];rfl)
  |al=>exact plain (by delta z1j;simp only[if_neg hi];cases d<;>rfl)
  |nu=>exact nuc (by delta z1j;simp only[if_neg hi]) fun a b=>b.elim so.nwBin id
  |fr=>
   cases d with
   |none=>exact absurd rfl hi
   |bool b=>exact absurd rfl hi
   |int b=>exact absurd rfl hi
   |str b=>exact absurd rfl hi
   |tuple ds=>exact nuc (by delta z1j;simp only[if_neg hi]) fun a b=>so.nwBin b
   |list ds=>
    by_cases him:imms ds=true
    ·obtain⟨p,vs,ev,h,rs⟩:=r;rcases h with⟨h,b⟩|⟨_,b⟩
     ·have hHp:H p=none:=b;exact own p (hOn p hHp) hHp (Same.none so.ext hHp) (so.vis p hHp) ev (by delta z1j;simp only[if_neg hi,if_pos him]) (fun F' hb ho=>⟨p,ev,ho,.inl ⟨vs,ds,rfl,h,Reps.immB ds him rs⟩⟩) (.inl ⟨vs,h⟩)
     ·exact b.elim
    ·exact nuc (by delta z1j;simp only[if_neg hi,if_neg him]) fun a b=>so.nwBin b
   |dict es=>
    by_cases him:immE es=true
    ·obtain⟨p,kvs,ev,h,b,rs⟩:=r;have hHp:H p=none:=b;exact own p (hOn p hHp) hHp (Same.none so.ext hHp) (so.vis p hHp) ev (by delta z1j;simp only[if_neg hi,if_pos him]) (fun F' hb ho=>⟨p,ev,ho,.inr ⟨kvs,es,rfl,h,REs.immB es him rs⟩⟩) (.inr ⟨kvs,h⟩)
    ·exact nuc (by delta z1j;simp only[if_neg hi,if_neg him]) fun a b=>so.nwBin b
theorem zj0 {K:W.Frag}{i:Nat}{te:TE}(h:∀σ H Q,tD K fa σ H Q->te σ H Q)(D:Ends)(σ:L2.St)(H:Hp)(q:tDS K (fun ρ=>fa ρ>>=fun x=>.ok (.nx (ρ.set i (some (z1j x))))) D σ H):te σ H fun v H1=>D.nx (σ.set i (some v)) H1:=by obtain⟨ρ,F,out,so,e,q⟩:=q;obtain⟨x,e1,e⟩:=Res.bind_ok e;cases e;refine h σ H _ ⟨ρ,F,x,so,e1,fun v H1 s1 rv=>?_⟩;obtain⟨F',so',r,f⟩:=so.setA (i:=i) s1 rv;exact q _ H1 F' so' r f
theorem zrk {i:Nat}{x:Str}{px:Pos}(hN:X.N.Nodup)(hi:X.N[i]?=some x)(hx:Loc X.env.scope x)(hf:X.fn x=true\/X.env.scope.names.lookup x=some .local)(hs:l8 e (some (.Name x px)) pos.line X.env=pure false)(ha:PE X e (tD X.K fa)):
  PS X (.Assign [.Name x px] e pos) (tDS X.K fun ρ=>fa ρ>>=fun x=>.ok (.nx (ρ.set i (some (z1j x))))):=
 PS.imp (zq8 hN hi hx ha hs hf) fun D σ H q=>zj0 (fun _ _ _ h=>h) D σ H q
theorem zqf {is:List Nat}{te:Expr}(hg:PG X te (tDG X.K (.tp is)))(ha:PE X e (tD X.K fa))(hs:sj [te] e pos.line X.env=pure false)(hw:sk [te] e X.env=pure none)(h1:(gn [te] X.env).map (·.2)=[pv te X.env]):
  PS X (.Assign [te] e pos) (tDS X.K fun ρ=>fa ρ>>=fun x=>z1i (.tp is) x ρ>>=fun ρ'=>.ok (.nx ρ')):=
 PS.imp (zqz ha hg hs hw h1) fun D σ H zz=>by obtain⟨ρ,F,out,so,e,q⟩:=zz;obtain⟨x,e1,e⟩:=Res.bind_ok e;obtain⟨ρ',e2,e⟩:=Res.bind_ok e;cases e;refine⟨ρ,F,x,so,e1,fun v H1 s1 rv=>⟨ρ,F,x,ρ',so.same s1,rv.weak fun _ b=>BI.of so.vis b,e2,fun σ' F' so' kps=>?_⟩⟩;exact q σ' H1 F' so' (Run.of kps.h0 kps.v) fun a o e n=>⟨s1 a o e,kps.o a n⟩
theorem StOk.settle {K:W.Frag}{F:Fm}{H:Hp}{σ:L2.St}{ρ:Rho}(so:StOk K F H σ ρ)(hn:noOwn ρ=true):StOk K ⟨H,F.V,fun _=>none⟩ H σ (ρ.map Mi.settle):=by
 refine⟨fun _ _ e=>e,so.vis,fun a i e=>(by cases e),(by rw[af];exact so.len),fun i g d e=>?_⟩;rw[bw]at e;cases e2:ρ[i]? with
 |none=>rw[e2]at e;cases e
 |some sl=>
  rw[e2]at e;have e3:Mi.settle sl=some (g,d):=Option.some.inj e;have hf:=bg.mp hn sl (bc e2);cases sl with
  |none=>cases e3
  |some x=>
   obtain⟨g0,d0⟩:=x
   have old:∀{B:Ad->Prop} {v:V},(∀a,B a->visA F a)->Rep K H B v d0->Rep K H (oldA ⟨H,F.V,fun _=>none⟩) v d0:=fun hB h=>(Rep.there d0 h).weak fun a b=>by
    obtain⟨b1,b2⟩:=b;cases a with
    |none=>exact trivial
    |some a=>exact⟨b2,hB _ b1⟩
   obtain⟨v,hv,h⟩:=so.sl i g0 d0 e2;cases g0 with
   |fr=>cases hf
   |od=>cases e3;exact⟨v,hv,old (fun a b=>by cases a with|none=>exact trivial|some a=>exact b.2) h⟩
   |nu=>cases e3;exact⟨v,hv,old (fun a b=>Bin.vis b) h⟩
   |al=>
    cases hi:imm d0 with
    |true=>
     have e4:Mi.settle (some (.al,d0))=some (.al,d0):=by show(if imm d0=true then _ else _)=_;rw[hi];rfl
     rw[e4]at e3;cases e3;exact⟨v,hv,h⟩
    |false=>
     have e4:Mi.settle (some (.al,d0))=some (.od,d0):=by show(if imm d0=true then _ else _)=_;rw[hi];rfl
     rw[e4]at e3;cases e3;exact⟨v,hv,old (fun _ b=>b) h⟩
theorem StOk.settleA {K:W.Frag}{F:Fm}{H:Hp}{σ:L2.St}{ρ:Rho}(so:StOk K F H σ ρ):StOk K ⟨H,F.V,fun _=>none⟩ H σ (ρ.map Mi.settleA):=by
 refine⟨fun _ _ e=>e,so.vis,fun a i e=>(by cases e),(by rw[af];exact so.len),fun i g d e=>?_⟩;rw[bw]at e;cases e2:ρ[i]? with
 |none=>rw[e2]at e;cases e
 |some sl=>
  rw[e2]at e;have e3:Mi.settleA sl=some (g,d):=Option.some.inj e;cases sl with
  |none=>cases e3
  |some x=>
   obtain⟨g0,d0⟩:=x;obtain⟨v,hv,h⟩:=so.sl i g0 d0 e2;have r:=h.rep fun a i e=>(so.own a i e).2.1;have e3:(if imm d0 then some (G.al,d0)else some (G.od,d0))=some (g,d):=e3;refine⟨v,hv,?_⟩;split at e3
   ·cases e3;exact r
   ·cases e3
    exact Rep.weak (B':=oldA ⟨H,F.V,fun _=>none⟩) (fun a b=>by
     obtain⟨b1,b2⟩:=b;cases a with
     |none=>exact trivial
     |some a=>exact⟨b2,b1⟩) (Rep.there _ r)
theorem z41 {K:W.Frag}{F:Fm}{H H1:Hp}{σ:L2.St}{ρ:Rho}{y:GD}{u:V}(so:StOk K F H σ ρ)(h:okIn y=true)(r:Rep K H1 (BG F H y.1) u y.2):Rep K H1 (Bin F) u y.2:=by
 obtain⟨g,d⟩:=y;rcases g7.mp h with hi|hg
 ·exact Rep.immB d hi r
 rcases g7.mp hg with h|h
 ·cases eq_of_beq h;exact Rep.weak (fun a b=>so.nwBin b) r
 ·cases eq_of_beq h;exact Rep.weak (fun a b=>b.elim so.nwBin id) r
theorem StOk.mutate {K:W.Frag}{F:Fm}{H:Hp}{σ:L2.St}{ρ:Rho}{i:Nat}{p:Addr}{d':D}{o':HO}(so:StOk K F H σ ρ)(hO:F.O p=some i)(hσ:σ[i]?=some (some (.ref p)))(ho':(∃xs,o'=.lst xs)\/∃kvs,o'=.dK kvs)
  (hs:Slot K F (upd H p o') i .fr (.ref p) d'):StOk K F (upd H p o') σ ((ρ.set i (some (.fr,d'))).map z1g)/\Frm F H F (upd H p o'):=by
 obtain⟨h0,hV,hobj⟩:=so.own p i hO;have hne:∀a,F.O a=none->a≠p:=fun a e z=>by rw[z,hO]at e;cases e
 have hfix:∀a o,H a=some o->Fix o->a≠p:=fun a o e f z=>by subst z;rcases hobj with⟨xs,h⟩|⟨xs,h⟩<;>rw[e]at h<;>cases h<;>exact f
 have frm:Frm F H F (upd H p o'):=fun a o e n=>⟨by rw[z05 (hne a n)];exact e,n⟩;refine⟨⟨fun a o e=>?_,fun a e=>?_,fun a j e=>?_,by rw[af,f8];exact so.len,fun j g d e=>?_⟩,frm⟩
 ·have hap:a≠p:=fun z=>by rw[z,h0]at e;cases e
  rw[z05 hap];exact so.ext a o e
 ·by_cases hap:a=p
  ·subst hap;exact hV
  ·rw[z05 hap]at e;exact so.vis a e
 ·obtain⟨x1,x2,x3⟩:=so.own a j e;refine⟨x1,x2,?_⟩;by_cases hap:a=p
  ·subst hap;rw[z0d];rcases ho' with⟨xs,rfl⟩|⟨xs,rfl⟩
   ·exact .inl ⟨xs,rfl⟩
   ·exact .inr ⟨xs,rfl⟩
  ·rw[z05 hap];exact x3
 ·rw[bw]at e;by_cases hj:i=j
  ·subst hj;have hl:i<ρ.length:=by rw[<-so.len];exact(cy.mp hσ).1
   rw[fu]at e;simp only[if_true,hl]at e;have e1:z1g (some (.fr,d'))=some (g,d):=by simpa using e
   cases e1;exact⟨_,hσ,hs⟩
  ·rw[d5 hj]at e;cases e2:ρ[j]? with
   |none=>rw[e2]at e;cases e
   |some sl=>
    rw[e2]at e;have e3:z1g sl=some (g,d):=by simpa using e
    cases sl with
    |none=>cases e3
    |some gd=>
     obtain⟨g0,d0⟩:=gd;obtain⟨v,h1,h2⟩:=so.sl j g0 d0 e2;refine⟨v,h1,?_⟩;cases g0 with
     |fr=>
      cases e3;obtain⟨p',e4,o4,h3⟩:=h2;have hpp:p'≠p:=fun z=>by rw[z,hO]at o4;exact hj (Option.some.inj o4)
      have hk:∀a o,H a=some o->(Bin F (some a)\/Fix o)->upd H p o' a=some o:=fun a o e b=>by have:a≠p:=b.elim (fun b=>hne a b.1) fun f=>hfix a o e f;rw[z05 this];exact e
      refine⟨p',e4,o4,?_⟩;rcases h3 with⟨vs,ds,e5,e6,r⟩|⟨vs,ds,e5,e6,r⟩
      ·exact .inl ⟨vs,ds,e5,by rw[z05 hpp];exact e6,Reps.keep hk (fun _ z=>z) ds r⟩
      ·exact .inr ⟨vs,ds,e5,by rw[z05 hpp];exact e6,REs.keep hk (fun _ z=>z) ds r⟩
     |od=>cases e3;exact Rep.keep (fun a o e b=>by have:a≠p:=b.elim (fun b z=>by have b1:F.H0 a≠none/\F.V a:=b;rw[z]at b1;exact b1.1 h0) fun f=>hfix a o e f;rw[z05 this];exact e) (fun _ z=>z) _ h2
     |nu=>cases e3;exact Rep.keep (fun a o e b=>by have:a≠p:=b.elim (fun b=>hne a b.1) fun f=>hfix a o e f;rw[z05 this];exact e) (fun _ z=>z) _ h2
     |al=>
      change(if imm d0 then some (G.al,d0)else none)=_ at e3;split at e3
      ·rename_i him;cases e3;exact Rep.immK (fun a o e f=>by rw[z05 (hfix a o e f)];exact e) _ him h2
      ·cases e3
theorem z3j {K:W.Frag}{F:Fm}{H:Hp}{σ:L2.St}{ρ:Rho}{i:Nat}{d:D}(so:StOk K F H σ ρ)(e:ρ[i]?=some (some (.fr,d))):∃p,σ[i]?=some (some (.ref p))/\F.O p=some i/\((∃vs ds,d=.list ds/\H p=some (.lst vs)/\Reps K H (Bin F) vs ds)\/(∃kvs es,d=.dict es/\H p=some (.dK kvs)/\REs K H (Bin F) kvs es)):=by obtain⟨v,h1,p,rfl,o,h⟩:=so.sl i .fr d e;exact⟨p,h1,o,h⟩
def mutF (m:String)(i:Nat)(fs:Rho->Res (List GD)):Rho->Res Out:=fun ρ=>fs ρ>>=fun ys=>match ρ[i]? with
 |some (some (.fr,.list xs))=>mutD m xs ys>>=fun xs'=>.ok (.nx ((ρ.set i (some (.fr,.list xs'))).map z1g))
 |_=>.no
theorem zhb {i:Nat}{x:Str}{p ap cp:Pos}{fs:Rho->Res (List GD)}(hN:X.N[i]?=some x)(hv:Vis X.env.scope x)(hd:(x==("__debug__":Str))=false)(hcd:(x==("__classdict__":Str))=false)(ha:PA X (e::es) (tDA X.K fs))(hst:((e::es).all fun e=>!isStar e)=true)(hl:(e::es).length<20)(hline:(ap.endLine==cp.line)=true):
  PS X (.Expr (.Call (.Attribute (.Name x p) "append" ap) (e::es) [] cp) pos) (tDS X.K (mutF "append" i fs)):=by
 have hst':=hst;rw[dw,ax]at hst';refine PS.imp (ps_e (zc2 PySem.F.plainAttrs_list PySem.F.slot_list_append PySem.F.type_list_append z4j (z50 hN hv hd hcd) ha rfl (z7k hst hl) hline (z0l (by simpa using hst'.1)) (z1m hst'.2)) rfl) fun D σ H zz=>?_;obtain⟨ρ,F,out,so,e,q⟩:=zz;obtain⟨ys,e1,e⟩:=Res.bind_ok e;split at e
 ·rename_i xs hr;obtain⟨xs',e2,e⟩:=Res.bind_ok e;cases e;obtain⟨pa,h1,hO,h⟩:=z3j so hr;rcases h with⟨vs,ds,e3,e4,r⟩|⟨_,_,e3,_⟩
  ·cases e3;refine⟨_,h1,.inl ⟨rfl,vs,SqL.of e4⟩,ρ,F,ys,so,e1,fun us H1 s1 rs=>?_⟩;simp only[mutD,if_true]at e2;split at e2
   ·rename_i y;split at e2
    case isFalse=>cases e2
    rename_i hc;cases e2;rw[ar,decide_eq_true_iff]at hc;obtain⟨u,rfl,ru⟩:=rs.one;have so1:=so.same s1;have e5:=s1 _ _ e4;refine⟨pa,vs,u,rfl,rfl,e5,z0p (by rw[r.length];omega),?_⟩
    have r':Reps X.K (upd H1 pa (.lst (vs++[u]))) (Bin F) (vs++[u]) (xs++[y.2]):=by
     have r0:Reps X.K H1 (Bin F) (vs++[u]) (xs++[y.2]):=Reps.append (r.same s1 fun _ z=>z) ⟨u,[],rfl,z41 so hc.1 ru,rfl⟩;refine Reps.keep (fun a o e b=>?_) (fun _ z=>z) _ r0
     have hap:a≠pa:=by
      intro z;subst z;rcases b with b|b
      ·have b1:F.O a=none:=b.1;rw[hO]at b1;cases b1
      ·rw[e5]at e;cases e;exact b
     rw[z05 hap];exact e
    obtain⟨so2,f2⟩:=so1.mutate (o':=.lst (vs++[u])) (d':=.list (xs++[y.2])) hO h1 (.inl ⟨_,rfl⟩) ⟨pa,rfl,hO,.inl ⟨_,_,rfl,z0d,r'⟩⟩;exact q σ _ F so2 Run.refl ((Frm.same s1).trans f2)
   ·cases e2
  ·cases e3
 ·cases e
end
section
variable {X:Cx}{e:Expr}{es:List Expr}{pos:Pos}
def rIns:V->List V->Hp->VK->Prop:=fun x vs H Q=>∃l xs i y,x=.ref l/\vs=[.int i,y]/\H l=some (.lst xs)/\0<=i/\i<=(xs.length:Int)/\xs.length<az/\Q .non (upd H l (.lst (xs.take i.toNat++y::xs.drop i.toNat)))
theorem zn5 {its:List Value}{u:Value}{i:Int}(h0:0<=i)(h1:i<=(its.length:Int)):(fun ws:Array Value=>have k:=if i<0 then(i+(ws.size:Int)).toNat else min i.toNat ws.size;(ws.extract 0 k).push u++ws.extract k) its.toArray=(its.take i.toNat++u::its.drop i.toNat).toArray:=by
 have hk:min i.toNat its.length=i.toNat:=k9 (by omega);show(fun k=>(its.toArray.extract 0 k).push u++its.toArray.extract k) (if i<0 then(i+(its.toArray.size:Int)).toNat else min i.toNat its.toArray.size)=_;rw[if_neg (by omega),ao,hk]
 dsimp only
 apply Array.ext';simp[List.extract_eq_take_drop];exact jt (by rw[jl];exact am _)
theorem zoq:MtM X "list.insert" rIns:=by intro pins s σ H x vs v us Q I rx rv h;obtain⟨l,xs,i,y,rfl,rfl,hH,h0,h1,hz,q⟩:=h;cases rx;obtain⟨a,u,rfl,ra,ru⟩:=rv.two;obtain⟨t,rfl⟩:=ra;obtain⟨z,its,n,r,hl,e⟩:=I.lstM hH;have hsl:=dq;refine n6 F.slot_list_insert ⟨_,e,rfl⟩ F.entry_list_insert (F.args_list_insert_3 _ _ _) (AutoSeq1.list_insert_list_int_val_1 l its.toArray n i t u (by rw[qr (by omega) (by omega)];decide) (by rw[ao];omega)) ⟨e,?_⟩;refine⟨.non,_,I.lset (its':=its.take i.toNat++u::its.drop i.toNat) hH e (zn5 h0 (by omega)) ((r.take _).append (.cons ru (r.drop _))) ?_,rfl,q⟩;rw[av,eu,br,jl];omega
theorem zec {F:Fm}{H H1:Hp}{σ:L2.St}{ρ:Rho}{i:Nat}{pa:Addr}{vs ws:List V}{zs:List D}{D:Ends}(so:StOk X.K F H σ ρ)(s1:Same H H1)(hO:F.O pa=some i)(h1:σ[i]?=some (some (.ref pa)))(e4:H pa=some (.lst vs))(r0:Reps X.K H1 (Bin F) ws zs)
  (q:z83 X.K F H D (.nx ((ρ.set i (some (.fr,.list zs))).map z1g))):D.nx σ (upd H1 pa (.lst ws)):=by
 have e5:=s1 _ _ e4
 have r':Reps X.K (upd H1 pa (.lst ws)) (Bin F) ws zs:=by
  refine Reps.keep (fun a o e b=>?_) (fun _ z=>z) _ r0
  have hap:a≠pa:=by
   intro z;subst z;rcases b with b|b
   ·have b1:F.O a=none:=b.1;rw[hO]at b1;cases b1
   ·rw[e5]at e;cases e;exact b
  rw[z05 hap];exact e
 obtain⟨so2,f2⟩:=(so.same s1).mutate (o':=.lst ws) (d':=.list zs) hO h1 (.inl ⟨_,rfl⟩) ⟨pa,rfl,hO,.inl ⟨_,_,rfl,z0d,r'⟩⟩;exact q σ _ F so2 Run.refl ((Frm.same s1).trans f2)
theorem zoj {xs xs':List D}{ys:List GD}(h:putAt xs ys=.ok xs'):∃g i y,ys=[(g,.int i),y]/\okIn y=true/\xs.length<LIM/\0<=i/\i<=(xs.length:Int)/\xs'=xs.take i.toNat++y.2::xs.drop i.toNat:=by
 unfold putAt at h;split at h
 ·rename_i x y;obtain⟨g,d⟩:=x
  dsimp only at h
  split at h
  ·split at h
   ·rename_i i hc;simp only[ar,decide_eq_true_iff]at hc;cases h;exact⟨g,_,y,rfl,hc.1.1.1,hc.1.1.2,hc.1.2,hc.2,rfl⟩
   ·cases h
  ·cases h
 ·cases h
theorem zrn {xs xs':List D}{ys:List GD}(h:zmw xs ys=.ok xs'):∃g i,ys=[(g,.int i)]/\0<=i/\i<(xs.length:Int)/\xs.length<=LIM/\xs'=xs.eraseIdx i.toNat:=by
 unfold zmw at h;split at h
 ·rename_i x;obtain⟨g,d⟩:=x
  dsimp only at h
  split at h
  ·split at h
   ·rename_i i hc;simp only[ar,decide_eq_true_iff]at hc;cases h;exact⟨g,_,rfl,hc.1.1,hc.1.2,hc.2,rfl⟩
   ·cases h
  ·cases h
 ·cases h
theorem zgi {i:Nat}{x:Str}{p ap cp:Pos}{fs:Rho->Res (List GD)}(hN:X.N[i]?=some x)(hv:Vis X.env.scope x)(hd:(x==("__debug__":Str))=false)(hcd:(x==("__classdict__":Str))=false)(ha:PA X (e::es) (tDA X.K fs))(hst:((e::es).all fun e=>!isStar e)=true)(hl:(e::es).length<20)(hline:(ap.endLine==cp.line)=true):
  PS X (.Expr (.Call (.Attribute (.Name x p) "insert" ap) (e::es) [] cp) pos) (tDS X.K (mutF "insert" i fs)):=by
 have hst':=hst;rw[dw,ax]at hst';refine PS.imp (ps_e (zc2 PySem.F.plainAttrs_list PySem.F.slot_list_insert PySem.F.type_list_insert zoq (z50 hN hv hd hcd) ha rfl (z7k hst hl) hline (z0l (by simpa using hst'.1)) (z1m hst'.2)) rfl) fun D σ H zz=>?_;obtain⟨ρ,F,out,so,e,q⟩:=zz;obtain⟨ys,e1,e⟩:=Res.bind_ok e;split at e
 ·rename_i xs hr;obtain⟨xs',e2,e⟩:=Res.bind_ok e;cases e;obtain⟨pa,h1,hO,h⟩:=z3j so hr;rcases h with⟨vs,ds,e3,e4,r⟩|⟨_,_,e3,_⟩
  ·cases e3;refine⟨_,h1,.inl ⟨rfl,vs,SqL.of e4⟩,ρ,F,ys,so,e1,fun us H1 s1 rs=>?_⟩;simp only[mutD,show("insert":String)≠"append" by decide,if_true,if_false]at e2;obtain⟨g,j,y,rfl,hy,hlen,j0,j1,rfl⟩:=zoj e2;obtain⟨w,u,rfl,rw',ru⟩:=rs.two;have ew:w=.int j:=rw';subst ew;have hlv:=r.length;refine⟨pa,vs,j,u,rfl,rfl,s1 _ _ e4,j0,by omega,z0p (by omega),?_⟩;have r1:=r.same s1 fun _ z=>z;exact zec so s1 hO h1 e4 (Reps.append (r1.take _) (Reps.cons (z41 so hy ru) (r1.drop _))) q
  ·cases e3
 ·cases e
theorem _root_.Mi.Reps.eraseIdx {K:W.Frag}{H:Hp}{B:Ad->Prop}:∀{vs:List V} {ds:List D} (n:Nat),Reps K H B vs ds->Reps K H B (vs.eraseIdx n) (ds.eraseIdx n)
 |vs,[],n,r=>by have e:vs=[]:=r;subst e;exact rfl
 |vs,d::ds,0,r=>by obtain⟨v,t,e,_,p⟩:=r;subst e;exact p
 |vs,d::ds,n+1,r=>by obtain⟨v,t,e,h,p⟩:=r;subst e;exact⟨v,_,rfl,h,Reps.eraseIdx n p⟩
theorem zkd {i:Nat}{x:Str}{p ap cp:Pos}{fs:Rho->Res (List GD)}(hN:X.N[i]?=some x)(hv:Vis X.env.scope x)(hd:(x==("__debug__":Str))=false)(hcd:(x==("__classdict__":Str))=false)(ha:PA X (e::es) (tDA X.K fs))(hst:((e::es).all fun e=>!isStar e)=true)(hl:(e::es).length<20)(hline:(ap.endLine==cp.line)=true):
  PS X (.Expr (.Call (.Attribute (.Name x p) "pop" ap) (e::es) [] cp) pos) (tDS X.K (mutF "pop" i fs)):=by
 have hst':=hst;rw[dw,ax]at hst';refine PS.imp (ps_e (zc2 PySem.F.plainAttrs_list PySem.F.slot_list_pop PySem.F.type_list_pop zhq (z50 hN hv hd hcd) ha rfl (z7k hst hl) hline (z0l (by simpa using hst'.1)) (z1m hst'.2)) rfl) fun D σ H zz=>?_;obtain⟨ρ,F,out,so,e,q⟩:=zz;obtain⟨ys,e1,e⟩:=Res.bind_ok e;split at e
 ·rename_i xs hr;obtain⟨xs',e2,e⟩:=Res.bind_ok e;cases e;obtain⟨pa,h1,hO,h⟩:=z3j so hr;rcases h with⟨vs,ds,e3,e4,r⟩|⟨_,_,e3,_⟩
  ·cases e3;refine⟨_,h1,.inl ⟨rfl,vs,SqL.of e4⟩,ρ,F,ys,so,e1,fun us H1 s1 rs=>?_⟩;simp only[mutD,show("pop":String)≠"append" by decide,show("pop":String)≠"insert" by decide,if_true,if_false]at e2;obtain⟨g,j,rfl,j0,j1,hlen,rfl⟩:=zrn e2;obtain⟨w,rfl,rw'⟩:=rs.one;have ew:w=.int j:=rw';subst ew;have hlv:=r.length;have hj:j.toNat<vs.length:=by omega
   have hL:LIM=1000000:=rfl;refine⟨pa,vs,j,j.toNat,vs[j.toNat],rfl,rfl,s1 _ _ e4,by omega,by omega,?_,bq hj,?_⟩
   ·unfold uw;simp only[if_neg (show ¬j<0 by omega)];rw[if_pos (by simp;omega)]
   ·exact zec so s1 hO h1 e4 ((r.same s1 fun _ z=>z).eraseIdx _) q
  ·cases e3
 ·cases e
end
section
variable {X:Cx}{pos:Pos}
end
theorem StOk.killed {K:W.Frag}{F:Fm}{H:Hp}{σ:L2.St}{ρ:Rho}{p:Addr}{vs ws:List V}(so:StOk K F H σ ρ)(h0:F.H0 p=none)(hO:F.O p=none)(hp:H p=some (.lst vs)):StOk K F (upd H p (.lst ws)) σ (ρ.map z2t):=by
 have hfix:∀a o,H a=some o->Fix o->a≠p:=fun a o e f z=>by subst z;rw[hp]at e;cases e;exact f
 refine⟨fun a o e=>?_,fun a e=>?_,fun a j e=>?_,by rw[af];exact so.len,fun j g d e=>?_⟩
 ·have hap:a≠p:=fun z=>by rw[z,h0]at e;cases e
  rw[z05 hap];exact so.ext a o e
 ·by_cases hap:a=p
  ·subst hap;rw[z0d]at e;cases e
  ·rw[z05 hap]at e;exact so.vis a e
 ·have hap:a≠p:=fun z=>by rw[z,hO]at e;cases e
  rw[z05 hap];exact so.own a j e
 ·rw[bw]at e;cases e2:ρ[j]? with
  |none=>rw[e2]at e;cases e
  |some sl=>
   rw[e2]at e;have e3:z2t sl=some (g,d):=Option.some.inj e;cases sl with
   |none=>cases e3
   |some gd=>
    obtain⟨g0,d0⟩:=gd;obtain⟨v,h1,h2⟩:=so.sl j g0 d0 e2;refine⟨v,h1,?_⟩;cases hi:imm d0 with
    |true=>
     have e4:z2t (some (g0,d0))=some (.al,d0):=by show(if imm d0=true then _ else _)=_;rw[hi];rfl
     rw[e4]at e3;cases e3;exact Rep.immK (fun a o e f=>by rw[z05 (hfix a o e f)];exact e) _ hi (h2.rep so.ownV)
    |false=>
     cases g0 with
     |od=>
      have e4:z2t (some (.od,d0))=some (.od,d0):=by show(if imm d0=true then _ else _)=_;rw[hi];rfl
      rw[e4]at e3;cases e3;exact Rep.keep (fun a o e b=>by have:a≠p:=b.elim (fun b z=>by have b1:F.H0 a≠none/\F.V a:=b;rw[z]at b1;exact b1.1 h0) fun f=>hfix a o e f;rw[z05 this];exact e) (fun _ z=>z) _ h2
     |_=>change(if imm d0=true then some (G.al,d0)else none)=_ at e3;rw[hi]at e3;cases e3
theorem zqe {x y:GD}{z:Unit}(h:dapD x y=.ok z):∃xs,x=(.nu,.list xs)/\xs.length<LIM:=by
 obtain⟨g,d⟩:=x;cases d with
 |list xs=>
  change(if(g==.nu&&imm y.2&&decide (xs.length<LIM))=true then Res.ok ()else .no)=_ at h;split at h
  ·rename_i hc;rw[ar,ar]at hc;cases eq_of_beq hc.1.1;exact⟨xs,rfl,vy hc.2⟩
  ·cases h
 |_=>cases h
theorem zms {r:Res Out}{o:Out}(h:zef r=.ok o):∃g d,r=.ok (.rt g d)/\o=.rt g d:=by
 cases r with
 |ok x=>cases x<;>cases h;exact⟨_,_,rfl,rfl⟩
 |_=>cases h
theorem zsy {X:Cx}{o e:Expr}{rest:List Stmt}{ap cp pos:Pos}{fo fa:Rho->Res GD}{gs:Rho->Res Out}(ho:PE X o (tD X.K fo))(ha:PE X e (tD X.K fa))(hr:PSs X rest (tDS X.K gs))(hns:z4v o=true)(hs:isStar e=false)(hline:(ap.endLine==cp.line)=true):
  PSs X (.Expr (.Call (.Attribute o "append" ap) [e] [] cp) pos::rest) (tDS X.K fun ρ=>fo ρ>>=fun x=>fa ρ>>=fun y=>dapD x y>>=fun _=>zef (gs (ρ.map z2t))):=by
 have hst:([e].all fun e=>!isStar e)=true:=by simp[hs]
 refine PSs.imp (za2 (ps_e (zc2 PySem.F.plainAttrs_list PySem.F.slot_list_append PySem.F.type_list_append z4j ho (pa_c ha z4y hs) (z4g hns) (z7k hst (show 1<20 by decide)) hline (z0l hs) (z1m rfl)) rfl) hr) fun D σ H zz=>?_;obtain⟨ρ,F,out,so,e0,q⟩:=zz;obtain⟨x,e1,e5⟩:=Res.bind_ok e0;obtain⟨y,e2,e6⟩:=Res.bind_ok e5;obtain⟨z,e3,e7⟩:=Res.bind_ok e6;obtain⟨g,d,e4,rfl⟩:=zms e7;obtain⟨xs,rfl,hl⟩:=zqe e3;refine⟨ρ,F,_,so,e1,fun v H1 s1 rv=>?_⟩;obtain⟨pa,vs,rfl,h,rs⟩:=rv;rcases h with⟨h,b⟩|⟨_,b⟩
 ·have hb:F.H0 pa=none/\F.O pa=none:=by
   rcases b with b|b
   ·exact⟨Same.none so.ext b,(so.nwBin (a:=some pa) b).1⟩
   ·exact⟨b.2.1,b.1⟩
  refine⟨.inl ⟨rfl,vs,SqL.of h⟩,ρ,F,y,so.same s1,e2,fun u H2 s2 ru=>?_⟩;exact⟨pa,vs,u,rfl,rfl,s2 _ _ h,z0p (by rw[rs.length];omega),ρ.map z2t,F,.rt g d,((so.same s1).same s2).killed hb.1 hb.2 (s2 _ _ h),e4,q⟩
 ·exact(b.elim id id).elim
section
variable {X:Cx}{tg a b c e:Expr}{es:List Expr}{fa fb fc:Rho->Res GD}{pos:Pos}{st:Stmt}{rest A Bs:List Stmt}{fs gs:Rho->Res Out}
theorem zer (k k':Key):eqK (kD k') (kD k)=decide (k'=k):=by
 cases k'<;>cases k
 ·rename_i a b;show(a==b)=_;rw[l6,decide_eq_decide];exact⟨fun h=>by rw[h],fun h=>Sum.inl.inj h⟩
 ·rfl
 ·rfl
 ·rename_i a b;show decide (a=b)=_;rw[decide_eq_decide];exact⟨fun h=>by rw[h],fun h=>Sum.inr.inj h⟩
theorem REs.any {K:W.Frag}{H:Hp}{B:Ad->Prop}(k:Key):∀{kvs:List (Key×V)} {es:Ents},REs K H B kvs es->(es.any fun e=>eqK e.1 (kD k))=kvs.any fun kv=>decide (kv.1=k)
 |kvs,[],r=>by have e:kvs=[]:=r;subst e;rfl
 |kvs,(kd,d)::es,r=>by obtain⟨k',v,t,e,e2,_,_,q⟩:=r;subst e e2;rw[ij,ij,q.any k,zer]
theorem REs.mapPut {K:W.Frag}{H:Hp}{B:Ad->Prop}(k:Key){v:V}{d:D}(h:Rep K H B v d):∀{kvs:List (Key×V)} {es:Ents},REs K H B kvs es->REs K H B (kvs.map fun kv=>if kv.1=k then(kv.1,v)else kv) (es.map fun e=>if eqK e.1 (kD k)then(e.1,d)else e)
 |kvs,[],r=>by have e:kvs=[]:=r;subst e;exact rfl
 |kvs,(kd,d0)::es,r=>by
  obtain⟨k',v0,t,e,e2,ok,h0,q⟩:=r;subst e e2;rw[a9,a9];have ih:=q.mapPut k h;by_cases z:k'=k
  ·subst z;rw[if_pos rfl,if_pos (by rw[zer];simp)];exact⟨k',v,_,rfl,rfl,ok,h,ih⟩
  ·rw[if_neg z,if_neg (by rw[zer];simpa using z)];exact⟨k',v0,_,rfl,rfl,ok,h0,ih⟩
theorem REs.app {K:W.Frag}{H:Hp}{B:Ad->Prop}{k:Key}{v:V}{d:D}(ok:keyOk k)(h:Rep K H B v d):∀{kvs:List (Key×V)} {es:Ents},REs K H B kvs es->REs K H B (kvs++[(k,v)]) (es++[(kD k,d)])
 |kvs,[],r=>by have e:kvs=[]:=r;subst e;exact⟨k,v,[],rfl,rfl,ok,h,rfl⟩
 |kvs,(kd,d0)::es,r=>by obtain⟨k',v0,t,e,e2,ok',h0,q⟩:=r;subst e e2;exact⟨k',v0,_,rfl,rfl,ok',h0,q.app ok h⟩
theorem REs.put {K:W.Frag}{H:Hp}{B:Ad->Prop}{k:Key}{v:V}{d:D}(ok:keyOk k)(h:Rep K H B v d){kvs:List (Key×V)}{es:Ents}(r:REs K H B kvs es):REs K H B (putK kvs k v) (dput es (kD k) d):=by
 unfold putK dput;rw[r.any k];split
 ·exact r.mapPut k h
 ·exact r.app ok h
def sSet (td ty tv:TE):TS:=fun D σ H=>tv σ H fun v H1=>td σ H1 fun x H2=>ty σ H2 fun y H3=>(∃a H4,x=.ref a/\DPut H3 a y v H4/\D.nx σ H4)\/zqa x y v H3 fun H4=>D.nx σ H4
theorem zn1 {o i value:Expr}{pos':Pos}{td ty tv:TE}(hu:X.A.units+1<cLine)(ho:PE X o td)(hi:PE X i ty)(hv:PE X value tv)(hs:l8 value (some (.Subscript o i pos')) pos.line X.env=pure false):PS X (.Assign [.Subscript o i pos'] value pos) (sSet td ty tv):=by
 intro pins s σ H D I h;refine wpAny_Assign_Subscript (thn (hv pins s σ H _ I h) fun r s1 ⟨v,H1,I1,rv,q1⟩=>thn (ho pins s1 σ H1 _ I1 q1) fun u s2 ⟨x,H2,I2,rx,q2⟩=>thn (hi pins s2 σ H2 _ I2 q2) fun iv s3 ⟨y,H3,I3,ry,q3⟩=>?_) hs;rcases q3 with⟨a,H4,ex,g,q3⟩|q3
 ·subst ex;obtain rfl:u=Value.ref a:=rx;exact zex hu I3 g ry rv fun s4 I4=>⟨σ,H4,I4,q3⟩
 ·exact thn (set_list pins s3 σ H3 x y v u iv r _ I3 rx ry rv q3) fun _ s4 ⟨H4,I4,q4⟩=>⟨σ,H4,I4,q4⟩
def setF (i:Nat)(fv fk:Rho->Res GD):Rho->Res Out:=fun ρ=>fv ρ>>=fun y=>fk ρ>>=fun x=>match ρ[i]? with
 |some (some (.fr,.dict es))=>if isK x.2&&okIn y&&decide (es.length<LIM)then .ok (.nx ((ρ.set i (some (.fr,.dict (dput es x.2 y.2)))).map z1g))else .no
 |some (some (.fr,.list xs))=>(match x.2 with
  |.int j=>if okIn y then(match ixN xs.length j with|some n=>.ok (.nx ((ρ.set i (some (.fr,.list (xs.set n y.2)))).map z1g))|none=>.no)else .no
  |_=>.no)
 |_=>.no
theorem zvn {i:Nat}{x:Str}{p pos':Pos}{ie value:Expr}{fv fk:Rho->Res GD}(hu:X.A.units+64<cLine)(hN:X.N[i]?=some x)(hv:Vis X.env.scope x)(hd:(x==("__debug__":Str))=false)(hcd:(x==("__classdict__":Str))=false)(hs:z38 value=false)(hk:PE X ie (tD X.K fk))(hva:PE X value (tD X.K fv)):
  PS X (.Assign [.Subscript (.Name x p) ie pos'] value pos) (tDS X.K (setF i fv fk)):=by
 refine PS.imp (zn1 (by omega) (z50 hN hv hd hcd) hk hva (z43 hs _ _ _)) fun D σ H zz=>?_;obtain⟨ρ,F,out,so,e,q⟩:=zz;obtain⟨y,e1,e⟩:=Res.bind_ok e;obtain⟨kx,e2,e⟩:=Res.bind_ok e;refine⟨ρ,F,y,so,e1,fun v H1 s1 rv=>?_⟩;have so1:=so.same s1;split at e
 ·rename_i es hr;split at e
  case isFalse=>cases e
  rename_i hc;cases e;rw[ax,ax,decide_eq_true_eq]at hc;obtain⟨pa,h1,hO,h⟩:=z3j so1 hr;rcases h with⟨_,_,e3,_⟩|⟨kvs,es',e3,e4,r⟩
  ·cases e3
  ·cases e3;refine⟨_,h1,ρ,F,kx,so1,e2,fun w H2 s2 rw'=>.inl ?_⟩;obtain⟨k,ek,rfl,ok⟩:=z4u hc.1.1 rw';have e5:=s2 _ _ e4;refine⟨pa,_,rfl,DPut.k e5 (by rw[r.length];exact bz hc.2 (z0p (am _))),?_⟩
   have hk:∀a o,H2 a=some o->(Bin F (some a)\/Fix o)->upd H2 pa (.dK (putK kvs k v)) a=some o:=fun a o e b=>by
    have hap:a≠pa:=by
     intro z;subst z;rcases b with b|b
     ·have b1:F.O a=none:=b.1;rw[hO]at b1;cases b1
     ·rw[e5]at e;cases e;exact b
    rw[z05 hap];exact e
   have r':REs X.K (upd H2 pa (.dK (putK kvs k v))) (Bin F) (putK kvs k v) (dput es kx.2 y.2):=by rw[ek];exact REs.keep hk (fun _ z=>z) _ (REs.put ok (z41 so hc.1.2 (rv.same s2 fun _ z=>z)) (r.same s2 fun _ z=>z))
   obtain⟨so2,f2⟩:=(so1.same s2).mutate (o':=.dK (putK kvs k v)) (d':=.dict (dput es kx.2 y.2)) hO h1 (.inr ⟨_,rfl⟩) ⟨pa,rfl,hO,.inr ⟨_,_,rfl,z0d,r'⟩⟩;exact q σ _ F so2 Run.refl ((Frm.same (s1.trans s2)).trans f2)
 ·rename_i xs hr;split at e
  case h_2=>cases e
  rename_i j hj;split at e
  case isFalse=>cases e
  rename_i hc;split at e
  case h_2=>cases e
  rename_i n hn;cases e;obtain⟨pa,h1,hO,h⟩:=z3j so1 hr;rcases h with⟨vs,ds,e3,e4,r⟩|⟨_,_,e3,_⟩
  ·cases e3;refine⟨_,h1,ρ,F,kx,so1,e2,fun w H2 s2 rw'=>.inr ?_⟩;rw[hj]at rw';have ew:w=.int j:=rw';subst ew;have e5:=s2 _ _ e4;refine⟨pa,vs,j,n,rfl,rfl,e5,by rw[r.length];exact hn,?_⟩
   have hk:∀a o,H2 a=some o->(Bin F (some a)\/Fix o)->upd H2 pa (.lst (vs.set n v)) a=some o:=fun a o e b=>by
    have hap:a≠pa:=by
     intro z;subst z;rcases b with b|b
     ·have b1:F.O a=none:=b.1;rw[hO]at b1;cases b1
     ·rw[e5]at e;cases e;exact b
    rw[z05 hap];exact e
   have r':Reps X.K (upd H2 pa (.lst (vs.set n v))) (Bin F) (vs.set n v) (xs.set n y.2):=Reps.keep hk (fun _ z=>z) _ (Reps.set (z41 so hc (rv.same s2 fun _ z=>z)) n (r.same s2 fun _ z=>z));obtain⟨so2,f2⟩:=(so1.same s2).mutate (o':=.lst (vs.set n v)) (d':=.list (xs.set n y.2)) hO h1 (.inl ⟨_,rfl⟩) ⟨pa,rfl,hO,.inl ⟨_,_,rfl,z0d,r'⟩⟩;exact q σ _ F so2 Run.refl ((Frm.same (s1.trans s2)).trans f2)
  ·cases e3
 ·cases e
def tDF (K:W.Frag)(f:Rho->Res (G×List D×Rho)):TI:=fun σ H R=>∃ρ F w,StOk K F H σ ρ/\f ρ=.ok w/\∀J B H' F',Same H H'->Run F F'->Frm F H F' H'->StOk K F' H' σ w.2.2->(∀a,B (some a)->F'.O a=none)->(∀a,B a->BI F' w.1 a)->Walk K J B H' w.2.1->R J H'
theorem z9b {K:W.Frag}{F:Fm}{H:Hp}{σ:L2.St}{ρ:Rho}(so:StOk K F H σ ρ){a:Addr}{g:G}(hg:g≠.al)(h:BG F H g (some a)):F.O a=none:=by
 cases e1:F.O a with
 |none=>rfl
 |some j=>
  obtain⟨h0,_,h'⟩:=so.own a j e1;cases g with
  |fr=>have hb:H a=none:=h;rcases h' with⟨xs,h'⟩|⟨xs,h'⟩<;>rw[hb]at h'<;>cases h'
  |od=>exact absurd h0 h.1
  |al=>exact absurd rfl hg
  |nu=>
   rcases h with h|h
   ·have hb:H a=none:=h;rcases h' with⟨xs,h'⟩|⟨xs,h'⟩<;>rw[hb]at h'<;>cases h'
   ·have hb:F.O a=none:=h.1;rw[hb]at e1;cases e1
theorem znx {fw:Rho->Res (G×List D)}(hw:PI X tg e (tDW X.K fw)):PI X tg e (tDF X.K fun ρ=>fw ρ>>=fun w=>if w.1==.al then .no else .ok (w.1,w.2,ρ)):=
 PI.imp hw fun σ H R zz=>by
  obtain⟨ρ,F,w,so,e,q⟩:=zz;obtain⟨w0,e1,e⟩:=Res.bind_ok e;refine⟨ρ,F,w0,so,e1,fun J B H1 s1 hB wk=>?_⟩;split at e
  ·cases e
  ·rename_i hal;cases e;have hal':w0.1≠.al:=fun z=>hal (by rw[z];rfl);exact q J B H1 F s1 Run.refl (Frm.same s1) (so.same s1) (fun a b=>z9b so hal' (hB _ b).1) (fun a b=>BI.of so.vis (hB a b).1) wk
theorem StOk.giveUp {K:W.Frag}{F:Fm}{H:Hp}{σ:L2.St}{ρ:Rho}{i:Nat}{d:D}(so:StOk K F H σ ρ)(e:ρ[i]?=some (some (.fr,d))):StOk K (F.drop i) H σ (ρ.set i (some (.al,d))):=by
 obtain⟨v,h1,h2⟩:=so.sl i .fr d e;have:=so.setI (i:=i) (x:=(.al,d)) (v:=v) (h2.rep so.ownV)
 have es:σ.set i (some v)=σ:=by
  apply um;intro j;by_cases hj:i=j
  ·subst hj;rw[fu];have hl:=(cy.mp h1).1;simp only[if_true,hl];exact h1.symm
  ·rw[d5 hj]
 rw[es]at this;exact this
theorem ztu {i:Nat}{x:Str}(hN:X.N[i]?=some x)(hv:Vis X.env.scope x)(hd:(x==("__debug__":Str))=false)(hcd:(x==("__classdict__":Str))=false):PI X tg (.Name x pos) (tDF X.K (zh4 i)):=by
 intro pins s σ H R I h;obtain⟨ρ,F,w,so,e,q⟩:=h;unfold zh4 at e;split at e
 ·rename_i d hr;obtain⟨xs,e2,e⟩:=Res.bind_ok e;cases e;obtain⟨v,h1,h2⟩:=so.sl i .fr d hr;refine thn (z50 hN hv hd hcd pins s σ H (fun u H1=>u=v/\H1=H) I ⟨v,h1,rfl,rfl⟩) fun u s1 zz=>?_;obtain⟨y,H1,I1,r1,ey,eH⟩:=zz;subst ey eH;have so':=so.giveUp hr
  let B:Ad->Prop:=fun a=>match a with|some a=>(F.drop i).O a=none/\F.V a|none=>False
  have rv:Rep X.K H1 B y d:=by
   obtain⟨p,ey,hO,h3⟩:=h2
   have hb:∀a,Bin F a->B a:=fun a b=>by
    cases a with
    |none=>exact b
    |some a=>exact⟨Fm.drop_none b.1,b.2.2⟩
   have hp:B (some p):=⟨by show(if F.O p=some i then none else F.O p)=none;rw[if_pos hO],so.ownV p i hO⟩;rcases h3 with⟨vs,ds,rfl,e4,r⟩|⟨vs,ds,rfl,e4,r⟩
   ·exact⟨p,vs,ey,.inl ⟨e4,hp⟩,r.weak hb⟩
   ·exact⟨p,vs,ey,e4,hp,REs.same (fun _ _ e=>e) hb r⟩
  refine z47 I1 r1 rv e2 fun J wk=>q J B H1 (F.drop i) (Same.refl _) (Run.of rfl rfl) (Frm.drop (Same.refl _)) so' (fun a b=>b.1) (fun a b=>?_) wk;cases a with
  |none=>exact b.elim
  |some a=>exact b.2
 ·cases e
def Fm.noL (F:Fm)(H:Hp):Fm:={F with O:=fun a=>match H a with|some (.dK _)=>F.O a|_=>none}
theorem Fm.noL_none {F:Fm}{H:Hp}{a:Addr}(h:F.O a=none):(F.noL H).O a=none:=by
 unfold Fm.noL
 dsimp only
 split<;>first|exact h|rfl
theorem StOk.noL {K:W.Frag}{F:Fm}{H:Hp}{σ:L2.St}{ρ:Rho}(so:StOk K F H σ ρ):StOk K (F.noL H) H σ (ρ.map zku) where
 ext:=so.ext
 vis:=so.vis
 own:=fun a i e=>by
  have e':F.O a=some i:=by
   unfold Fm.noL at e
   dsimp only at e
   split at e
   ·exact e
   ·cases e
  exact so.own a i e'
 len:=by rw[af];exact so.len
 sl:=fun i g d e=>by
  rw[bw]at e;cases h1:ρ[i]? with
  |none=>rw[h1]at e;cases e
  |some o=>
   rw[h1]at e;have e':zku o=some (g,d):=by simpa using e
   cases o with
   |none=>cases e'
   |some gd=>
    obtain⟨g0,d0⟩:=gd;obtain⟨v,h2,h3⟩:=so.sl i g0 d0 h1;refine⟨v,h2,?_⟩
    have hb:∀a,Bin F a->Bin (F.noL H) a:=fun a b=>by
     cases a with
     |none=>exact b
     |some a=>exact⟨Fm.noL_none b.1,b.2.1,b.2.2⟩
    cases g0 with
    |od=>cases e';exact h3
    |al=>cases e';exact h3
    |nu=>cases e';exact Rep.weak hb h3
    |fr=>
     obtain⟨p,ev,hO,h4⟩:=id h3;rcases h4 with⟨vs,ds,rfl,e4,r⟩|⟨kvs,es,rfl,e4,r⟩
     ·have e2:some (G.al,PyData.list ds)=some (g,d):=e';cases e2;have h5:Rep K H (visA F) v (.list ds):=Slot.rep (F:=F) so.ownV h3;exact h5
     ·have e2:some (G.fr,PyData.dict es)=some (g,d):=e';cases e2;refine⟨p,ev,?_,.inr ⟨kvs,es,rfl,e4,REs.same (fun _ _ z=>z) hb r⟩⟩;unfold Fm.noL
      dsimp only
      rw[e4];exact hO
theorem f_al {fa:Rho->Res GD}(ha:PE X e (tD X.K fa)):PI X tg e (tDF X.K fun ρ=>fa ρ>>=fun x=>evAl x ρ):=by
 intro pins s σ H R I h;obtain⟨ρ,F,w,so,e0,q⟩:=h;obtain⟨x,e1,e0⟩:=Res.bind_ok e0;obtain⟨g,d⟩:=x;unfold evAl at e0
 dsimp only at e0
 split at e0
 ·rename_i xs;split at e0
  ·rename_i hi;cases e0;refine thn (ha pins s σ H (fun v H1=>Same H H1/\Rep X.K H1 (BG F H g) v (.list xs)) I ⟨ρ,F,_,so,e1,fun v H1 s1 rv=>⟨s1,rv⟩⟩) fun v s1 zz=>?_;obtain⟨y,H1,I1,r1,s1',rv⟩:=zz;have so1:=(so.same s1').noL
   let B:Ad->Prop:=fun a=>match a with|some a=>(F.noL H1).O a=none/\F.V a|none=>True
   have rv':Rep X.K H1 B y (.list xs):=by
    obtain⟨p,vs,ey,h,r⟩:=rv;refine⟨p,vs,ey,?_,Reps.immB xs hi r⟩;rcases h with⟨h,b⟩|⟨h,b⟩
    ·refine .inl ⟨h,?_,(BG.vis so.vis b:visA F (some p))⟩;unfold Fm.noL
     dsimp only
     rw[h]
    ·exact .inr ⟨h,trivial⟩
   refine z47 I1 r1 rv' rfl fun J wk=>q J B H1 (F.noL H1) s1' (Run.of rfl rfl) (fun a o e n=>⟨s1' a o e,Fm.noL_none n⟩) so1 (fun a b=>b.1) (fun a b=>?_) wk;cases a with
   |none=>exact True.intro
   |some a=>exact b.2
  ·cases e0
 ·cases e0
theorem PI.orD {f g:Rho->Res (G×List D×Rho)}{k:Rho->Bool}(hf:PI X tg e (tDF X.K f))(hg:PI X tg e (tDF X.K g)):PI X tg e (tDF X.K fun ρ=>if k ρ then f ρ else g ρ):=by
 intro pins s σ H R I h;obtain⟨ρ,F,w,so,e,q⟩:=h
 dsimp only at e
 cases hk:k ρ with
 |true=>exact hf pins s σ H R I ⟨ρ,F,w,so,by rw[if_pos hk]at e;exact e,q⟩
 |false=>exact hg pins s σ H R I ⟨ρ,F,w,so,by rw[if_neg (by rw[hk];exact bu)]at e;exact e,q⟩
theorem zvu {t:Tg}{iter:Expr}{body:List Stmt}{fw:Rho->Res (G×List D×Rho)}(hp:li (model X.prog X.w) X.A X.env X.xe)(hc:X.calm=true)(hi:PI X tg iter (tDF X.K fw))(hg:PG X tg (tDG X.K t))(hb:PSs X body (tDS X.K fs))(hs:∀x,gg iter X.env x=pure x):
  PS X (.For tg iter body [] pos) (tDS X.K fun ρ=>fw ρ>>=fun w=>forD (fun x ρ1=>z1i t (gJ x w.1,x) ρ1>>=fun ρ2=>fs ρ2) w.2.1 w.2.2):=
 PS.imp (zqy hp hc hi hg hb hs) fun D σ H zz=>by
  obtain⟨ρ,F,out,so,e,q⟩:=zz;obtain⟨w,e1,e⟩:=Res.bind_ok e;refine⟨ρ,F,w,so,e1,fun J B H1 F1 s1 r1 f1 so1 hBo hBi wk=>?_⟩;have q1:z83 X.K F1 H1 D out:=q.back r1 f1;generalize hf:(fun x ρ1=>z1i t (gJ x w.1,x) ρ1>>=fun ρ2=>fs ρ2)=f at e
  have kp:∀{F2:Fm} {H2:Hp},Frm F1 H1 F2 H2->Kp B H1 H2:=fun{F2 H2} fr a o e b=>by
   have hO:F1.O a=none:=by
    rcases b with b|b
    ·exact hBo a b
    ·cases e2:F1.O a with
     |none=>rfl
     |some j=>obtain⟨_,_,h'⟩:=so1.own a j e2;rcases h' with⟨xs,h'⟩|⟨xs,h'⟩<;>rw[e]at h'<;>cases h'<;>exact b.elim
   exact(fr a o e hO).1
  let W:Nat->Nat->L2.St->Hp->Prop:=fun i m σ2 H2=>m=w.2.1.length-i/\i<=w.2.1.length/\∃ρ2 F2,StOk X.K F2 H2 σ2 ρ2/\Run F1 F2/\Frm F1 H1 F2 H2/\forD f (w.2.1.drop i) ρ2=.ok out
  refine⟨W,⟨_,rfl,dj _,w.2.2,F1,so1,Run.refl,Frm.refl,e⟩,?_⟩
  rintro i m σ2 H2 ⟨rfl,hile,ρ2,F2,so2,r2,f2,e2⟩
  by_cases hlt:i<w.2.1.length
  ·refine .inr ⟨wk.go H2 (kp f2) i hlt,W (i+1) (w.2.1.length-(i+1)),fun σ' H' p=>⟨_,by omega,p⟩,fun x H3 y=>?_⟩;obtain⟨s3,d,hd,rx⟩:=wk.yld H2 (kp f2) i x H3 hlt y
   have hdr:w.2.1.drop i=d::w.2.1.drop (i+1):=by
    have dc:=om hlt;rw[dc];have:w.2.1[i]=d:=by rw[bq hlt]at hd;exact Option.some.inj hd
    rw[this]
   rw[hdr]at e2;simp only[forD]at e2;have so3:=so2.same s3
   have rx':Rep X.K H3 (BI F2 (gJ d w.1)) x d:=by
    have hBI:∀g a,BI F1 g a->BI F2 g a:=fun g a b=>by cases g<;>cases a<;>first|exact b|(have b':F1.V _:=b;rw[<-r2.2]at b';exact b')|(have b':F1.H0 _≠none/\F1.V _:=b;exact⟨fun z=>b'.1 (none_of r2.1 z),by rw[r2.2];exact b'.2⟩)
    unfold gJ;by_cases hi:imm d=true
    ·rw[if_pos hi];exact Rep.immB d hi rx
    ·rw[if_neg hi];exact rx.weak fun a b=>hBI _ _ (hBi a b)
   cases e3:f d ρ2 with
   |no=>rw[e3]at e2;cases e2
   |exc z=>rw[e3]at e2;cases e2
   |ok o1=>
    have e3':(z1i t (gJ d w.1,d) ρ2>>=fun ρ3=>fs ρ3)=.ok o1:=by rw[<-e3,<-hf]
    obtain⟨ρ3,e4,e5⟩:=Res.bind_ok e3';rw[e3]at e2;refine⟨ρ2,F2,(gJ d w.1,d),ρ3,so3,rx',e4,fun σ4 F4 so4 kps=>⟨ρ3,F4,o1,so4,e5,?_⟩⟩;have r4:Run F1 F4:=r2.trans (Run.of kps.h0 kps.v);have f4:Frm F1 H1 F4 H3:=f2.trans fun a o e n=>⟨s3 a o e,kps.o a n⟩;cases o1 with
    |nx ρ5=>exact fun σ' H' F' so' r' f'=>⟨rfl,hlt,ρ5,F',so',r4.trans r',f4.trans f',e2⟩
    |ct ρ5=>exact fun σ' H' F' so' r' f'=>⟨rfl,hlt,ρ5,F',so',r4.trans r',f4.trans f',e2⟩
    |bk ρ5=>cases e2;exact fun σ' H' F' so' r' f'=>q1 σ' H' F' so' (r4.trans r') (f4.trans f')
    |rt g d=>cases e2;exact(q1.back r4 f4:z83 X.K F4 H3 D (.rt g d))
  ·have hie:i=w.2.1.length:=by omega
   subst hie;rw[List.drop_length]at e2;cases e2;exact .inl ⟨wk.stop H2 (kp f2),q1 σ2 H2 F2 so2 r2 f2⟩
theorem zm6 {body:List Stmt}{ft:Rho->Res Bool}{n:Nat}(hp:li (model X.prog X.w) X.A X.env X.xe)(hc:PT X c (tDT X.K ft))(hb:PSs X body (tDS X.K fs)):PS X (.While c body [] pos) (tDS X.K (whD ft fs n)):=
 PS.imp (zhm hp hc hb) fun D σ H zz=>by
  obtain⟨ρ,F,out,so,e,q⟩:=zz
  let W:Nat->L2.St->Hp->Prop:=fun m σ2 H2=>∃ρ2 F2,StOk X.K F2 H2 σ2 ρ2/\Run F F2/\Frm F H F2 H2/\whD ft fs m ρ2=.ok out
  refine⟨W,⟨n,ρ,F,so,Run.refl,Frm.refl,e⟩,?_⟩
  rintro m σ2 H2 ⟨ρ2,F2,so2,r2,f2,e2⟩
  cases m with
  |zero=>cases e2
  |succ m=>
   obtain⟨k,e3,e2⟩:=Res.bind_ok e2;refine⟨ρ2,F2,k,so2,e3,fun H3 s3=>?_⟩;have f3:Frm F H F2 H3:=f2.trans (Frm.same s3);cases k with
   |false=>cases e2;exact iteF (q σ2 H3 F2 (so2.same s3) r2 f3)
   |true=>
    refine iteT ⟨W m,fun σ' H' p=>⟨m,l9 m,p⟩,?_⟩
    have e2:(match fs ρ2 with
     |.ok (.nx ρ')=>whD ft fs m ρ'
     |.ok (.ct ρ')=>whD ft fs m ρ'
     |.ok (.bk ρ')=>.ok (.nx ρ')
     |.ok (.rt g d)=>.ok (.rt g d)
     |.exc e=>.exc e
     |.no=>.no)=.ok out:=e2
    cases e4:fs ρ2 with
    |no=>rw[e4]at e2;cases e2
    |exc z=>rw[e4]at e2;cases e2
    |ok o1=>
     rw[e4]at e2;refine⟨ρ2,F2,o1,so2.same s3,e4,?_⟩;cases o1 with
     |nx ρ5=>exact fun σ' H' F' so' r' f'=>⟨ρ5,F',so',r2.trans r',f3.trans f',e2⟩
     |ct ρ5=>exact fun σ' H' F' so' r' f'=>⟨ρ5,F',so',r2.trans r',f3.trans f',e2⟩
     |bk ρ5=>cases e2;exact fun σ' H' F' so' r' f'=>q σ' H' F' so' (r2.trans r') (f3.trans f')
     |rt g d=>cases e2;exact(q.back r2 f3:z83 X.K F2 H3 D (.rt g d))
end
def rAgg (K:W.Frag)(f:String):List V->Hp->VK->Prop:=fun xs H Q=>∃B x dx l ys d,xs=[x]/\Rep K H B x dx/\z4k dx=.ok (l,ys)/\aggD f l ys=.ok d/\∀w H',Same H H'->Rep K H' (fun a=>nw H a\/(imms ys=false/\B a)) w d->Q w H'
theorem z1t {K:W.Frag}{H:Hp}{B:Ad->Prop}{x:V}{dx:D}{l:Bool}{ys:List D}(r:Rep K H B x dx)(e:z4k dx=.ok (l,ys)):∃a vs,x=.ref a/\(if l then SqL K H a vs else SqT K H a vs)/\Reps K H B vs ys:=by
 cases dx<;>try (cases e;done)
 ·cases e;obtain⟨a,vs,rfl,h,q⟩:=z1y r;exact⟨a,vs,rfl,h,q⟩
 ·cases e;obtain⟨a,vs,rfl,h,q⟩:=r;exact⟨a,vs,rfl,h,q⟩
theorem Reps.aggB {K:W.Frag}{H:Hp}{B:Ad->Prop}{vs:List V}{ys:List D}(r:Reps K H B vs ys):Reps K H (fun a=>nw H a\/(imms ys=false/\B a)) vs ys:=by
 cases hi:imms ys with
 |true=>exact Reps.immB ys hi r
 |false=>exact r.weak fun _ z=>.inr ⟨rfl,z⟩
section
variable {X:Cx}{e:Expr}{fa:Rho->Res GD}{pos:Pos}
theorem ziq {f:String}{ρ:Rho}{F:Fm}{z:GD}{σ:L2.St}{H:Hp}{Q:VK}(so:StOk X.K F H σ ρ)(e:((fa ρ>>=fun x=>z4k x.2>>=fun p=>Res.ok (x.1,p))>>=fun w=>aggD f w.2.1 w.2.2>>=fun d=>Res.ok ((gJ d (if imms w.2.2 then .fr else agG w.1),d):GD))=.ok z)(q:∀v H',Same H H'->Rep X.K H' (BG F H z.1) v z.2->Q v H'):
  tCB (rAgg X.K f) (zlg (tD X.K fa) tNil) σ H Q:=by
 obtain⟨w,e0,e⟩:=Res.bind_ok e;obtain⟨x,e1,e0⟩:=Res.bind_ok e0;obtain⟨p,e2,e0⟩:=Res.bind_ok e0;cases e0;obtain⟨d,e3,e⟩:=Res.bind_ok e;cases e;refine⟨ρ,F,x,so,e1,fun v H1 s1 rv=>⟨_,v,x.2,p.1,p.2,d,rfl,rv,e2,e3,fun w' H2 s2 rw'=>q w' H2 (s1.trans s2) (z3s rw' fun a h=>?_)⟩⟩
 dsimp only
 cases hi:imms p.2 with
 |true=>
  rw[if_pos rfl];rcases h with h|⟨h,_⟩
  ·exact nw.back s1 h
  ·rw[hi]at h;cases h
 |false=>
  rw[if_neg bu]
  have al:visA F a:=by
   rcases h with h|⟨_,h⟩
   ·exact(nw.back s1 h).vis so.vis
   ·exact h.vis so.vis
  cases hg:x.1 with
  |fr=>
   rcases h with h|⟨_,h⟩
   ·exact nw.back s1 h
   ·rw[hg]at h;exact h
  |od=>exact al
  |al=>exact al
  |nu=>
   rcases h with h|⟨_,h⟩
   ·exact .inl (nw.back s1 h)
   ·rw[hg]at h;exact h
theorem zs3:CallR X (.type "list") (rAgg X.K "list"):=by
 refine CallR.imp z72 fun xs H Q h=>?_;obtain⟨B,x,dx,l,ys,d,rfl,r,e,e2,q⟩:=h;obtain⟨a,vs,rfl,h,rs⟩:=z1t r e;simp only[aggD,if_true]at e2;cases e2
 have h':SqL X.K H a vs\/SqT X.K H a vs:=by
  cases l with
  |true=>exact .inl h
  |false=>exact .inr h
 refine⟨a,vs,rfl,h',fun p hp=>q _ _ (Same.upd hp) (z1l hp rs.aggB (fun _ z=>z) (.inl hp))⟩
theorem zld:CallR X (.type "tuple") (rAgg X.K "tuple"):=by
 refine CallR.imp z6k fun xs H Q h=>?_;obtain⟨B,x,dx,l,ys,d,rfl,r,e,e2,q⟩:=h;obtain⟨a,vs,rfl,h,rs⟩:=z1t r e;simp only[aggD,show("tuple":String)≠"list" by decide,if_true,if_false]at e2;cases e2;refine⟨a,vs,rfl,?_⟩;cases l with
 |true=>exact .inl ⟨h,fun p hp=>q _ _ (Same.upd hp) (z46 hp rs.aggB fun _ z=>z)⟩
 |false=>exact .inr ⟨h,q _ H (Same.refl H) ⟨a,vs,rfl,h,rs.aggB⟩⟩
theorem z7f {K:W.Frag}{H:Hp}{B:Ad->Prop}:∀{ds:List D} {n:Int} {vs:List V},sumD ds=some n->Reps K H B vs ds->∃ns:List Int,vs=ns.map V.int/\ns.sum=n
 | [],n,vs,e,r=>by cases e;exact⟨[],r,rfl⟩
 |d::ds,n,vs,e,r=>by
  cases d<;>try (cases e;done)
  rename_i b;change(sumD ds).map (b+ ·)=_ at e;cases e1:sumD ds with
  |none=>rw[e1]at e;cases e
  |some m=>rw[e1]at e;cases e;obtain⟨v,t,rfl,h1,h2⟩:=r;have ev:v=.int b:=h1;obtain⟨ns,h3,h4⟩:=z7f e1 h2;exact⟨b::ns,by rw[ev,h3];rfl,by rw[sv,h4]⟩
theorem zi3 (hc:X.calm=true):CallR X (.builtin "sum") (fun xs H Q=>∃(p:Addr) (ns:List Int),xs=[.ref p]/\SqL X.K H p (ns.map V.int)/\Q (.int ns.sum) H):=by intro pins s σ H xs us Q I r h;obtain⟨p,ns,rfl,hq,q⟩:=h;obtain⟨u,rfl,ru⟩:=vals1 r;cases ru;obtain⟨its,rv,pl,hz⟩:=I.list hq;have hi:rh its.toArray.toList ns:=intsAre_of rv;have hl:=pl.isList;obtain⟨xs,ex⟩:=hi.allInts.items;have hn:=hi.numsOf;rw[show its.toArray.toList.toArray=its.toArray by simp]at ex;rw[ex]at hl hn;refine sum_intListG (I.ok.hd hc) hl fun h' tk t' hk=>⟨.int ns.sum,H,I.kept hk,⟨t',?_⟩,q⟩;rw[preSum_eq,jt (by simp)];rw[nums_intItems]at hn;rw[hn]
theorem zsp (hc:X.calm=true):CallR X (.builtin "sum") (rAgg X.K "sum"):=by
 refine CallR.imp (zi3 hc) fun xs H Q h=>?_;obtain⟨B,x,dx,l,ys,d,rfl,r,e,e2,q⟩:=h;obtain⟨a,vs,rfl,h,rs⟩:=z1t r e;simp only[aggD,show("sum":String)≠"list" by decide,show("sum":String)≠"tuple" by decide,show("sum":String)≠"sorted" by decide,if_true,if_false]at e2;cases l with
 |false=>cases e2
 |true=>
  simp only[if_true]at e2;cases e3:sumD ys with
  |none=>rw[e3]at e2;cases e2
  |some n=>rw[e3]at e2;cases e2;obtain⟨ns,ev,en⟩:=z7f e3 rs;subst ev en;exact⟨a,ns,rfl,h,q _ H (Same.refl H) rfl⟩
theorem zbz {f:String}{x:Str}{p:Pos}{y:Expr}(hc:CallR X (.type f) (rAgg X.K f))(hm:X.mg x=none)(hv:df x=some (.type f))(hs:isStar y=false)(ha:PE X y (tD X.K fa))(hg:Gl X x)(hn:x≠"__name__")(hdb:(x==("__debug__":Str))=false):
  PE X (.Call (.Name x p) [y] [] pos) (tD X.K fun ρ=>(fa ρ>>=fun x=>z4k x.2>>=fun p=>Res.ok (x.1,p))>>=fun w=>aggD f w.2.1 w.2.2>>=fun d=>.ok (gJ d (if imms w.2.2 then .fr else agG w.1),d)):=
 PE.imp (zhp hc hm hv (pa_c ha z4y hs) (by simp[hs]) hg hn hdb) fun σ H Q ⟨ρ,F,z,so,e,q⟩=>ziq so e q
theorem zj4 {f:String}{x:Str}{p:Pos}{y:Expr}(hc:CallR X (.builtin f) (rAgg X.K f))(hm:X.mg x=none)(hv:df x=some (.builtin f))(hs:isStar y=false)(ha:PE X y (tD X.K fa))(hg:Gl X x)(hn:x≠"__name__")(hdb:(x==("__debug__":Str))=false):
  PE X (.Call (.Name x p) [y] [] pos) (tD X.K fun ρ=>(fa ρ>>=fun x=>z4k x.2>>=fun p=>Res.ok (x.1,p))>>=fun w=>aggD f w.2.1 w.2.2>>=fun d=>.ok (gJ d (if imms w.2.2 then .fr else agG w.1),d)):=
 PE.imp (zkg hc hm hv (pa_c ha z4y hs) (by simp[hs]) hg hn hdb) fun σ H Q ⟨ρ,F,z,so,e,q⟩=>ziq so e q
end
end Mi
namespace Mi
open PySem PySem.Spec
structure NoKeys (T id:String):Prop where
 own:PySem.Slot T "__getattribute__" id
 entry:entryFor table id=some Builtin.«object.__getattribute__»
 two:∀a b:Value,argsOk id {pos:=[a,b]}
 rest:tw (.type T) "__getattr__"=pure none
 miss:∀(a:Addr) (xs:Array Value) (k:Nat) (sl:Array (Option Value)) (u:Tok),Meets (Builtin.«object.__getattribute__» {pos:=[.ref a,.str "keys" u]}) fun A R s=>s.heap.get? a=some {cls:=.type T,data:=.seq xs k,slots:=sl}/\raisesAttr (.ref a) "keys" A R s
theorem z8x:NoKeys "list" "list.__getattribute__" where
 own:=F.slot_list_getattribute
 entry:=am_entry_list_getattribute
 two:=F.args_list_getattribute_2
 rest:=am_list_getattr_none
 miss:=fun a xs k sl u=>meets_getattribute_miss_list a xs k sl "keys" u (by rw[m6,jw];kernel_rfl) (by decide) (by size_fits)
theorem z89:NoKeys "tuple" "tuple.__getattribute__" where
 own:=F.slot_tuple_getattribute
 entry:=am_entry_tuple_getattribute
 two:=F.args_tuple_getattribute_2
 rest:=am_tuple_getattr_none
 miss:=fun a xs k sl u=>meets_getattribute_miss_tuple a xs k sl "keys" u (by rw[m6,jw];kernel_rfl) (by decide) (by size_fits)
theorem NoKeys.ask {T id:String}(N:NoKeys T id){prog:ba}{w:World}{A:b6}{E:Value->ac->Prop}{s:ac}{a:Addr}{o:Obj}{xs:Array Value}{k:Nat}{Q:Option Value->ac->Prop}
  (hx:s.heap.get? a=some o) (hc:o.cls=.type T) (hdat:o.data=.seq xs k) (hd:o.dict=none) (hA:A.handled=none)
  (h:∀h' tk e,tf s.heap h' e "AttributeError"->Q none {s with heap:=h',toks:=tk}):
  wpAny (model prog w) A (vp (.ref a) "keys") Q E s:=by
 cases o;cases hc;cases hdat;cases hd;cases s;rename_i slots heap gens drawn toks os;have ty:∀t,(⟨heap,gens,drawn,t,os⟩:ac).TypeIs (.ref a) T:=fun t=>⟨_,hx,rfl⟩;have isA:=sub_AttributeError;have n1:=N.own.lookup;have n2:=N.own.bind (.ref a);have n3:=N.rest
 delta vp getAttrBy? getAttrBy
 repeat' (first|assumption|exact ty _|(apply n6 N.own (ty _) N.entry (N.two _ _) (N.miss a xs k slots _))|wp_step)
 refine⟨hx,hA,fun hp2 tk2 ex nx=>?_⟩;obtain⟨t2,u2,there⟩:=nx.there;have fin:=fun t=>h _ t _ nx.of
 dsimp only[wants]
 delta getattributeRaised
 repeat' (first|assumption|apply fin|wp_step)
theorem zck {prog:ba}{w:World}{A:b6}{E:Value->ac->Prop}{s:ac}{a:Addr}{o:Obj}{xs:Array Value}{k:Nat}{Q:Option Value->ac->Prop}
 (hx:s.heap.get? a=some o) (hc:o.cls=.type "list") (hdat:o.data=.seq xs k) (hd:o.dict=none) (hA:A.handled=none) (h:∀h' tk e,tf s.heap h' e "AttributeError"->Q none {s with heap:=h',toks:=tk}):
 wpAny (model prog w) A (vp (.ref a) "keys") Q E s:=z8x.ask hx hc hdat hd hA h
theorem zbe {prog:ba}{w:World}{A:b6}{E:Value->ac->Prop}{s:ac}{a:Addr}{o:Obj}{xs:Array Value}{k:Nat}{Q:Option Value->ac->Prop}
 (hx:s.heap.get? a=some o) (hc:o.cls=.type "tuple") (hdat:o.data=.seq xs k) (hd:o.dict=none) (hA:A.handled=none) (h:∀h' tk e,tf s.heap h' e "AttributeError"->Q none {s with heap:=h',toks:=tk}):
 wpAny (model prog w) A (vp (.ref a) "keys") Q E s:=z89.ask hx hc hdat hd hA h
end Mi
namespace Mi
open PySem PySem.Spec PyProof.Rows L2
abbrev inA (X:Cx)(A:b6)(E:Value->ac->Prop):Cx:={X with A:=A,xe:=E}
theorem _root_.L2.Inv.inA {X:Cx}{pins:List (Addr×Obj)}{σ:L2.St}{H:Hp}{s:ac}{A:b6}{E:Value->ac->Prop}(I:Inv X pins σ H s)(hd:A.handled=X.A.handled)(hf:A.frames=X.A.frames):Inv (inA X A E) pins σ H s:=⟨⟨I.ok.mod,I.ok.kind,I.ok.glob,I.ok.blt,I.ok.above,I.ok.inj,I.ok.has,I.ok.cab,fun z=>hd.trans (I.ok.hd z),hf.trans I.ok.frames,I.ok.stk,I.ok.exf,I.ok.bs,I.ok.bsz,I.ok.noex,I.ok.exfs,I.ok.funs,I.ok.frf,I.ok.fxN⟩,I.os,I.bare,I.base,I.loc,I.cell,I.free,I.freeC,I.pin,I.hok,I.len,I.fx⟩
theorem _root_.L2.Inv.outA {X:Cx}{pins:List (Addr×Obj)}{σ:L2.St}{H:Hp}{s:ac}{A:b6}{E:Value->ac->Prop}(ok:X.Ok)(I:Inv (inA X A E) pins σ H s):Inv X pins σ H s:=⟨ok,I.os,I.bare,I.base,I.loc,I.cell,I.free,I.freeC,I.pin,I.hok,I.len,I.fx⟩
namespace F
theorem entry_dict_loop:entryFor table "dict.update.loop"=some Builtin.«dict.update.loop»:=entryFor_of_tree (by kernel_rfl)
theorem plain_dict_loop:plainId "dict.update.loop"=true:=by decide+kernel
end F
section
variable {X:Cx}{pins:List (Addr×Obj)}{σ:L2.St}
theorem z6n {prog:ba}{w:World}{A:b6}{E:Value->ac->Prop}{s:ac}{a:Addr}{its:List Value}{Q:List Value->ac->Prop}(p:IsTup s.heap a its.toArray)(h:Q its s):wpAny (model prog w) A (lx (.ref a)) Q E s:=by have hT:=p.typeIs;obtain⟨o,ho,hc,n,hd⟩:=p;unfold lx;apply aa;refine lv hT ?_;rw[if_pos (by decide)];apply aa;refine fz ho hd ?_;apply aq;simpa using h
theorem zsw (hc:X.calm=true){A:b6}(hA:X.A=A.in1){x0:Str}{p0:Pos}{J:It}{fp:List Addr}{it:Addr}{tn:Nat->Heap->Prop}(T:Turn X.prog X.w X.K (.Name x0 p0) J fp it tn){B:Ad->Prop}{H1:Hp}{ds:List D}(Wk:Walk X.K J B H1 ds){d:Addr}(hdB:¬B (some d)){es':Ents}{R:vt->ac->Prop}:
  ∀(n i:Nat) (s:ac) (H:Hp) (kvs:List (Key×V)) (es:Ents) (t:Tok) (iv:Int),ds.length-i=n->i<=ds.length->Inv X pins σ H s->tn i s.heap->(∀b∈fp,FpOk X pins H b)->H d=some (.dK kvs)->kvs.length<=i->REs X.K H B kvs es->z3m es (ds.drop i)=some es'->Kp B H1 H->
   (∀s' H' kvs',Inv X pins σ H' s'->H' d=some (.dK kvs')->REs X.K H' B kvs' es'->(∀a o,a≠d->H a=some o->H' a=some o)->R (.ok (.ret .none)) s')->
   mh (model X.prog X.w) A (.builtin "dict.update.loop" ⟨[.ref d,.ref it,.int iv t,.none],[]⟩) R s:=by
 intro n
 induction n with
 |zero=>
  intro i s H kvs es t iv hn hi I st fo hd hl rs em kp hR;have e:i=ds.length:=by omega
  subst e;refine m7 F.entry_dict_loop ?_;rw[Around.under_plainId F.plain_dict_loop _,<-hA];show wpAny _ X.A (qk (.ref it)>>=_) _ _ s;refine aa (thn (T.done X rfl rfl rfl hc _ pins s σ H _ I fo st (Wk.stop H kp)) fun r s1 zz=>?_);obtain⟨hr,I1⟩:=zz;subst hr;show wpAny _ X.A (Builtin.Dict.addKeywords d []>>=_) _ _ _;rw[List.drop_length]at em;cases em;exact aa (aq (aq (hR s1 H kvs I1 hd rs fun _ _ _ e=>e)))
 |succ n ih=>
  intro i s H kvs es t iv hn hi I st fo hd hl rs em kp hR;have hlt:i<ds.length:=by omega
  refine m7 F.entry_dict_loop ?_;rw[Around.under_plainId F.plain_dict_loop _,<-hA];show wpAny _ X.A (qk (.ref it)>>=_) _ _ s;refine aa (thn (T.item X rfl rfl rfl hc i pins s σ H _ I fo st (Wk.go H kp i hlt)) fun r s1 zz=>?_);obtain⟨u,hr,h4⟩:=zz;subst hr;have key:∀(m:Sem PySem.Fin) (Q':PySem.Fin->ac->Prop) (E':Value->ac->Prop),wpAny (model X.prog X.w) X.A (gu (.Name x0 p0) (.ref it) u>>=fun _=>m) Q' E' s1->wpAny (model X.prog X.w) X.A m Q' E' s1:=fun m Q' E' h=>h;refine key _ _ _ (aa (thn h4 fun _ s5 zz=>?_));obtain⟨x,H5,I5,r5,y5,st5,fr5⟩:=zz;obtain⟨sm,di,hdi,rx⟩:=Wk.yld H kp i x H5 hlt y5;have ed:ds.drop i=di::ds.drop (i+1):=by have dc:=om hlt;rw[dc];rw[bq hlt]at hdi;cases hdi;rfl
  rw[ed]at em;unfold z3m at em;split at em
  case h_2=>cases em
  rename_i kd vd;split at em
  case isFalse=>cases em
  rename_i hk;obtain⟨a,vs,rfl,sq,rvs⟩:=rx;obtain⟨vk,vv,rfl,rk,rv⟩:=zgz rvs;cases r5;obtain⟨its,rits,pt,_⟩:=I5.tuple sq;obtain⟨uk,uv,rfl,ruk,ruv⟩:=vals2 rits;have stat:∀b∈fp,FpOk X pins H5 b:=fun b hb=>⟨fr5 b hb,(fo b hb).2⟩;have I5':=I5.pinned stat (T.obj _ _ st5);have hd5:H5 d=some (.dK kvs):=sm _ _ hd;obtain⟨k,rfl,rfl,ok⟩:=z4u hk rk;obtain⟨z,hds,vs',rel,dd⟩:=zq2 I5'.hok hd5;have hz':vs'.length<=az:=by rw[<-rel.length];exact z
  have hz:=Wk.len;have hpl:(putK kvs k vv).length<=i+1:=by have:=z2z kvs k vv;omega
  show wpAny _ X.A (ua [Value.ref a] (tryCatch (lx (.ref a)) _>>=_)>>=_) _ _ s5;refine aa (dn (aa (wpAny_tryCatch (z6n pt ?_))));show wpAny _ X.A (ua [uk,uv] (dictSet d uk uv)) _ _ s5;refine dn (wpAny_dictSet_pairs (hsz:=hz') (z8f ruk) dd fun h' dd' hs=>?_);have he:∃q,h'.get? d=some q:=let⟨q,_,_,hq,_⟩:=dd';⟨q,hq⟩;have I6:=z8q (t':=s5.toks+1) I5' (by rw[hd5];exact True.intro) hs he (zik (by omega) hds (rel.put k ruv) dd')
  have hk6:Kp B H5 (upd H5 d (.dK (putK kvs k vv))):=fun b o e z=>by
   have:b≠d:=by
    rintro rfl
    rcases z with z|z
    ·exact hdB z
    ·rw[hd5]at e;cases e;exact z
   rw[z05 this];exact e
  refine aq ⟨mm F.plain_dict_loop _,?_⟩;refine ih (i+1) _ (upd H5 d (.dK (putK kvs k vv))) (putK kvs k vv) (dput es (kD k) vd) _ _ (by omega) hlt I6.unpinned ?_ ?_ z0d hpl ?_ em ?_ ?_
  ·exact T.keep _ _ _ st5 fun b hb o e=>(I6.pin (b,o) (ay _ (ay _ (z1n hb e)))).1
  ·intro b hb;obtain⟨o,e,_⟩:=T.obj _ _ st5 b hb;exact⟨(I6.pin (b,o) (ay _ (ay _ (z1n hb e)))).2.1,(fo b hb).2⟩
  ·exact REs.keep hk6 (fun _ z=>z) _ (REs.put ok rv (rs.same sm fun _ z=>z))
  ·exact fun b o e z=>hk6 b o (sm b o (kp b o e z)) z
  ·intro s' H' kvs' I' hd' rs' ext;refine hR s' H' kvs' I' hd' rs' fun b o hb e=>ext b o hb ?_;rw[z05 hb];exact sm b o e
theorem z9i {K:W.Frag}{H H':Hp}{a:Addr}{xs:List V}(s:Same H H')(h:SqL K H a xs):SqL K H' a xs:=by
 rcases h with(h|⟨o,h⟩)|h
 ·exact .inl (.inl (s _ _ h))
 ·exact .inl (.inr ⟨o,s _ _ h⟩)
 ·exact .inr h
theorem zhc (es:Ents)(k v:D)(h1:immE es=true)(h:imm v=true):immE (es++[(k,v)])=true:=by
 unfold immE at *
 rw[List.all_append,h1];simp[h]
theorem zh8 (k v:D)(hv:imm v=true)(es:Ents)(h:immE es=true):immE (es.map fun e=>if eqK e.1 k then(e.1,v)else e)=true:=by
 unfold immE at *
 rw[bg]at *
 intro e he;obtain⟨e',h1,rfl⟩:=bt.mp he;split
 ·exact hv
 ·exact h e' h1
theorem z79:∀(ys:List D) (es es':Ents),imms ys=true->immE es=true->z3m es ys=some es'->immE es'=true
 | [],es,es',_,h,e=>by cases e;exact h
 |y::ys,es,es',h1,h2,e=>by
  simp only[imms,ax]at h1;unfold z3m at e;split at e
  case h_2=>cases e
  rename_i k v;split at e
  case isFalse=>cases e
  have hv:imm v=true:=by have:=h1.1;change(imm k&&(imm v&&true))=true at this;simp only[ax]at this;exact this.2.1
  refine z79 ys _ es' h1.2 ?_ e;unfold dput;split
  ·exact zh8 k v hv es h2
  ·exact zhc es k v h2 hv
theorem zs7 (hc:X.calm=true):CallR X (.type "dict") (rAgg X.K "dict"):=by
 intro pins s σ H xs us Q I r h;obtain⟨B,x,dx,l,ys,d,rfl,rx,e,e2,q⟩:=h;obtain⟨a,vs,rfl,hsq,rs⟩:=z1t rx e
 have e3:∃es',z3m [] ys=some es'/\d=.dict es':=by
  simp only[aggD,show("dict":String)≠"list" by decide,show("dict":String)≠"tuple" by decide,show("dict":String)≠"sorted" by decide,show("dict":String)≠"sum" by decide,show("dict":String)≠"all" by decide,show("dict":String)≠"any" by decide,if_true,if_false]at e2;cases h:z3m [] ys with
  |none=>rw[h]at e2;cases e2
  |some es=>rw[h]at e2;cases e2;exact⟨es,rfl,rfl⟩
 obtain⟨es',em,rfl⟩:=e3;have ew:z59 dx=.ok ys:=by cases dx<;>first|(cases e;done)|(cases e;rfl)
 obtain⟨u,rfl,ru⟩:=vals1 r;cases ru;have hp:H s.heap.objs.size=none:=I.hok.fresh (am _);have I1:Inv X pins σ (upd H s.heap.objs.size (.dK [])) {s with heap:=s.heap.push {cls:=.type "dict",data:=.dict #[]}}:=I.laid (a:=s.heap.objs.size) (o:=.dK []) (t':=s.toks) (fun _ _ q=>ae _ q) (am _) (zhe s.heap I.big);refine callType_codes (Q₁:=fun obj s₁=>obj=.ref s.heap.objs.size/\s₁={s with heap:=s.heap.push {cls:=.type "dict",data:=.dict #[]}}) PySem.F.kt_called_dict (PySem.F.kt_typeCall_dict_1 _) PySem.F.entry_dict_init (kt_code_dict_new _ ⟨rfl,rfl⟩) ?_
 rintro obj s₁ ⟨rfl,rfl⟩
 have hnew:(⟨s.heap.push {cls:=.type "dict",data:=.dict #[]},s.gens,s.drawn,s.toks,s.os⟩:ac).TypeIs (.ref s.heap.objs.size) "dict":=⟨_,a8 _ rfl,rfl⟩;refine⟨hnew,PySem.F.args_dict_init_2 _ _,?_⟩
 delta Builtin.«dict.__init__»
 refine aa ?_
 delta Builtin.Dict.selfAndRest
 refine aa (wpAny_notOrdered_dict hnew ?_);show wpAny _ _ (pure (s.heap.objs.size,[Value.ref a])) _ _ _;refine aq ?_;show wpAny _ _ (ph "dict.__init__" s.heap.objs.size (.ref a) [] .none) _ _ _
 delta ph
 have rest:∀(h':Heap) (tk:Nat),(∀b o,(s.heap.push {cls:=.type "dict",data:=.dict #[]}).get? b=some o->h'.get? b=some o)->wpAny (model X.prog X.w) X.A.in1.in1 (pw (.ref a)) (fun itv s2=>mh (model X.prog X.w) X.A.in1 (.builtin "dict.update.loop" ⟨[.ref s.heap.objs.size,itv,my 0,.none],[]⟩) (wants (fun r s₂=>r=.none/\EP X pins σ Q (.ref s.heap.objs.size) s₂) X.xe) s2) (fun _ _=>False) ⟨h',s.gens,s.drawn,tk,s.os⟩:=by
  intro h' tk kp;have I2:Inv (inA X X.A.in1.in1 (fun _ _=>False)) pins σ (upd H s.heap.objs.size (.dK [])) ⟨h',s.gens,s.drawn,tk,s.os⟩:=(I1.kept (t':=tk) kp).inA rfl rfl;have rx':Rep X.K (upd H s.heap.objs.size (.dK [])) (fun a=>B a/\¬nw H a) (.ref a) dx:=(Rep.there _ rx).same (Same.upd hp) fun _ z=>z;refine thn (z47 (X:=inA X X.A.in1.in1 (fun _ _=>False)) (tg:=.Name "" default) (R:=fun J H'=>Walk X.K J (fun a=>B a/\¬nw H a) H' ys/\H'=upd H s.heap.objs.size (.dK [])) I2 (y:=.ref a) (show RelV (.ref a) (.ref a)from rfl) rx' ew fun J wk=>⟨wk,rfl⟩) fun itv s2 zz=>?_;obtain⟨it,fp,tn,J,H',eit,I3,T,st,fo,wk,eH⟩:=zz;subst eit eH;refine zsw (X:=inA X X.A.in1.in1 (fun _ _=>False)) hc rfl T wk (fun z=>z.2 hp) ys.length 0 s2 _ [] [] _ _ (by omega) (by omega) I3 st fo z0d (am _) rfl em (fun _ _ e _=>e) ?_;intro s' H' kvs' I' hd' rs' ext;refine⟨rfl,.ref s.heap.objs.size,H',I'.outA I.ok,rfl,q _ H' (fun b o e=>ext b o (z06 e hp) (by rw[z05 (z06 e hp)];exact e)) ⟨_,kvs',rfl,hd',.inl hp,?_⟩⟩;cases hi:imms ys with
  |true=>exact REs.immB es' (z79 ys [] es' hi rfl em) rs'
  |false=>exact rs'.same (Same.refl H') fun _ z=>.inr ⟨rfl,z.1⟩
 have hA:X.A.in1.in1.handled=none:=I.ok.hd hc;cases l with
 |true=>obtain⟨its,_,⟨o,n,ho,hcl,hdi,hda⟩,_⟩:=I1.list (z9i (Same.upd hp) hsq);refine aa (lv (T:="list") ⟨o,ho,hcl⟩ ?_);rw[if_pos (by decide)];refine aa (zck ho hcl hda hdi hA fun h' tk e hx=>?_);show wpAny _ _ (do rule _;let it <-pw (.ref a);again (.builtin "dict.update.loop" ⟨[.ref s.heap.objs.size,it,my 0,.none],[]⟩)) _ _ _;refine aa (lf (aa (j7 (rest h' tk hx.keeps) (fun itv s2 hc2=>?_) fun _ _ z=>z.elim)));exact aq ⟨mm F.plain_dict_loop _,hc2⟩
 |false=>obtain⟨its,_,⟨o,n,ho,hcl,hdi,hda⟩,_⟩:=I1.tupleN (SqT.rel (Same.upd hp) hsq);refine aa (lv (T:="tuple") ⟨o,ho,hcl⟩ ?_);rw[if_pos (by decide)];refine aa (zbe ho hcl hda hdi hA fun h' tk e hx=>?_);show wpAny _ _ (do rule _;let it <-pw (.ref a);again (.builtin "dict.update.loop" ⟨[.ref s.heap.objs.size,it,my 0,.none],[]⟩)) _ _ _;refine aa (lf (aa (j7 (rest h' tk hx.keeps) (fun itv s2 hc2=>?_) fun _ _ z=>z.elim)));exact aq ⟨mm F.plain_dict_loop _,hc2⟩
end
end Mi
namespace Mi
open PySem PySem.Spec PyProof.Rows PySem.W
def runT {α:Type}(lt:Nat->Nat->Bool):KasT α->α
 |.ret a=>a
 |.ask i j k=>runT lt (k (lt i j))
theorem z25 {α β:Type}(lt:Nat->Nat->Bool)(f:α->KasT β):∀t:KasT α,runT lt (t.bind f)=runT lt (f (runT lt t))
 |.ret _=>rfl
 |.ask i j k=>z25 lt f (k (lt i j))
section
variable (key:Nat->Nat)
abbrev ltk:Nat->Nat->Bool:=fun i j=>decide (key i<key j)
def Kp' (p:Array Nat)(i:Nat):Nat:=key (p.getD i 0)
variable {key}
theorem z3c {p q:Array Nat}{i j:Nat}(h:p[i]?=q[j]?):Kp' key p i=Kp' key q j:=by unfold Kp';rw[fi,fi,h]
theorem zep {p:Array Nat}{i j:Nat}(hj:j<=p.size)(k:Nat):Kp' key (kas_rev p i j) k=if i<=k/\k<j then Kp' key p (i+j-1-k)else Kp' key p k:=by
 have h:=getElem?_mirror_all (xs:=p) (i:=i) hj k;split
 ·rename_i hk;refine z3c ?_;unfold kas_rev;rw[h,if_pos hk]
 ·rename_i hk;refine z3c ?_;unfold kas_rev;rw[h,if_neg hk]
theorem zpn {p:Array Nat}{src d:Nat}(hs:src<p.size)(hd:d<=src)(k:Nat):Kp' key (bubble p src d) k=if k=src-d then Kp' key p src else if src-d<k/\k<=src then Kp' key p (k-1)else Kp' key p k:=by
 have h:=getElem?_bubble hs d hd k;split
 ·rename_i hk;exact z3c (by rw[h,if_pos hk])
 ·rename_i hk;split
  ·rename_i hk2;exact z3c (by rw[h,if_neg hk,if_pos hk2])
  ·rename_i hk2;exact z3c (by rw[h,if_neg hk,if_neg hk2])
theorem z42 (p:Array Nat)(i j:Nat):(kas_rev p i j).size=p.size:=mirror_size _ _ _ _
theorem z3a (p:Array Nat)(i j:Nat):(kas_rev p i j).Perm p:=mirror_perm _ _ _ _
theorem z6d (p:Array Nat):∀(f n:Nat),1<=n->n<=runT (ltk key) (kas_asc p f n)/\runT (ltk key) (kas_asc p f n)<=n+f/\(∀i,n<=i->i<runT (ltk key) (kas_asc p f n)->Kp' key p (i-1)<=Kp' key p i)/\
  (runT (ltk key) (kas_asc p f n)<n+f->Kp' key p (runT (ltk key) (kas_asc p f n))<Kp' key p (runT (ltk key) (kas_asc p f n)-1))
 |0,n,h=>⟨am _,am _,fun i h1 h2=>absurd (lg h1 h2) (ci _),fun h2=>absurd h2 (ci _)⟩
 |f+1,n,h=>by
  have e:runT (ltk key) (kas_asc p (f+1) n)=runT (ltk key) (if decide (Kp' key p n<Kp' key p (n-1))=true then .ret n else kas_asc p f (n+1)):=rfl;rw[e];by_cases hc:Kp' key p n<Kp' key p (n-1)
  ·rw[if_pos (v5 hc)];exact⟨am _,im _ _,fun i h1 h2=>absurd (lg h1 h2) (ci _),fun _=>hc⟩
  ·rw[if_neg (show ¬_ from by simpa using hc)];obtain⟨i1,i2,i3,i4⟩:=z6d p f (n+1) (by omega);refine⟨by omega,by omega,fun i h1 h2=>?_,fun h2=>i4 (by omega)⟩;by_cases hi:i=n
   ·subst hi;omega
   ·exact i3 i (by omega) h2
structure DPre (key:Nat->Nat)(p:Array Nat)(n q:Nat):Prop where
 one:1<=n
 qn:q+1<=n
 sz:n<=p.size
 de:∀i,1<=i->i<n->Kp' key p i<=Kp' key p (i-1)
 eq:∀i,n<=i+1+q->i<n->Kp' key p i=Kp' key p (n-1)
theorem DPre.rev {p:Array Nat}{n q:Nat}(h:DPre key p n q)(k:Nat):Kp' key (kas_rev p (n-(q+1)) n) k=Kp' key p k:=by
 have:=h.qn;rw[zep h.sz];split
 ·rename_i hk;rw[h.eq k (by omega) hk.2,h.eq _ (by omega) (by omega)]
 ·rfl
theorem z33:∀(f:Nat) (p:Array Nat) (n q:Nat),DPre key p n q->n+f<=p.size->
  DPre key (runT (ltk key) (kas_desc f p n q)).1 (runT (ltk key) (kas_desc f p n q)).2.1 (runT (ltk key) (kas_desc f p n q)).2.2/\(runT (ltk key) (kas_desc f p n q)).1.Perm p/\(runT (ltk key) (kas_desc f p n q)).2.1<=n+f
 |0,p,n,q,h,hz=>⟨h,Array.Perm.refl _,am _⟩
 |f+1,p,n,q,h,hz=>by
  have hn:=h.one;have e:runT (ltk key) (kas_desc (f+1) p n q)=runT (ltk key) (if decide (Kp' key p n<Kp' key p (n-1))=true then(if q>0 then kas_desc f (kas_rev p (n-(q+1)) n) (n+1) 0 else kas_desc f p (n+1) 0) else .ask (p.getD (n-1) 0) (p.getD n 0) fun d=>if d=true then .ret (p,n,q)else kas_desc f p (n+1) (q+1)):=rfl;rw[e];by_cases hc:Kp' key p n<Kp' key p (n-1)
  ·rw[if_pos (v5 hc)];by_cases hq:q>0
   ·rw[if_pos hq]
    have h1:DPre key (kas_rev p (n-(q+1)) n) (n+1) 0:=⟨by omega,by omega,by rw[z42];omega,fun i i1 i2=>by
     rw[h.rev,h.rev];by_cases hi:i=n
     ·subst hi;omega
     ·exact h.de i i1 (by omega),fun i i1 i2=>by
     have:i=n:=by omega
     subst this;rfl⟩
    obtain⟨r1,r2,r3⟩:=z33 f _ (n+1) 0 h1 (by rw[z42];omega);exact⟨r1,r2.trans (z3a _ _ _),by omega⟩
   ·rw[if_neg hq]
    have h1:DPre key p (n+1) 0:=⟨by omega,by omega,by omega,fun i i1 i2=>by
     by_cases hi:i=n
     ·subst hi;omega
     ·exact h.de i i1 (by omega),fun i i1 i2=>by
     have:i=n:=by omega
     subst this;rfl⟩
    obtain⟨r1,r2,r3⟩:=z33 f _ (n+1) 0 h1 (by omega);exact⟨r1,r2,by omega⟩
  ·rw[if_neg (show ¬_ from by simpa using hc)];have e2:runT (ltk key) (KasT.ask (p.getD (n-1) 0) (p.getD n 0) fun d=>if d=true then .ret (p,n,q)else kas_desc f p (n+1) (q+1))=runT (ltk key) (if decide (Kp' key p (n-1)<Kp' key p n)=true then .ret (p,n,q)else kas_desc f p (n+1) (q+1)):=rfl;rw[e2];by_cases hc2:Kp' key p (n-1)<Kp' key p n
   ·rw[if_pos (v5 hc2)];exact⟨h,Array.Perm.refl _,by show n<=_;omega⟩
   ·rw[if_neg (by simpa using hc2)]
    have h1:DPre key p (n+1) (q+1):=⟨by omega,by have :=h.qn;omega,by omega,fun i i1 i2=>by
     by_cases hi:i=n
     ·subst hi;omega
     ·exact h.de i i1 (by omega),fun i i1 i2=>by
     by_cases hi:i=n
     ·subst hi;rfl
     ·have :=h.eq i (by omega) (by omega);show _=Kp' key p (n+1-1);rw[Nat.add_sub_cancel];omega⟩
    obtain⟨r1,r2,r3⟩:=z33 f _ (n+1) (q+1) h1 (by omega);exact⟨r1,r2,by omega⟩
def Asc (key:Nat->Nat)(p:Array Nat)(m:Nat):Prop:=∀i,1<=i->i<m->Kp' key p (i-1)<=Kp' key p i
theorem z5r {p:Array Nat}{n nrem:Nat}(h1:1<=n)(hn:n<=nrem)(hz:nrem<=p.size)(de:∀i,1<=i->i<n->Kp' key p i<=Kp' key p (i-1)):
  Asc key (runT (ltk key) (kas_tail3 n nrem p)).2 (runT (ltk key) (kas_tail3 n nrem p)).1/\(runT (ltk key) (kas_tail3 n nrem p)).2.Perm p/\1<=(runT (ltk key) (kas_tail3 n nrem p)).1/\(runT (ltk key) (kas_tail3 n nrem p)).1<=nrem:=by
 unfold kas_tail3;rw[z25];obtain⟨a1,a2,a3,_⟩:=z6d (key:=key) (kas_rev p 0 n) (nrem-n) n h1;refine⟨fun i i1 i2=>?_,z3a _ _ _,by show 1<=runT _ _;omega,by show runT _ _<=_;omega⟩;have i2':i<runT (ltk key) (kas_asc (kas_rev p 0 n) (nrem-n) n):=i2;by_cases hi:i<n
 ·show Kp' key (kas_rev p 0 n) (i-1)<=Kp' key (kas_rev p 0 n) i;rw[zep (by omega),zep (by omega),if_pos (by omega),if_pos (by omega)];have:=de (0+n-1-(i-1)) (by omega) (by omega);have e:0+n-1-(i-1)-1=0+n-1-i:=by omega
  rw[e]at this;exact this
 ·exact a3 i (by omega) i2'
theorem descPart_spec {p:Array Nat}{n nrem:Nat}(h1:1<=n)(hn:n<nrem)(hz:nrem<=p.size)(eq:∀i,i<n->Kp' key p i=Kp' key p (n-1))(lt:Kp' key p n<Kp' key p (n-1)):
  Asc key (runT (ltk key) (kas_descPart n nrem p)).2 (runT (ltk key) (kas_descPart n nrem p)).1/\(runT (ltk key) (kas_descPart n nrem p)).2.Perm p/\1<=(runT (ltk key) (kas_descPart n nrem p)).1/\(runT (ltk key) (kas_descPart n nrem p)).1<=nrem:=by
 unfold kas_descPart;rw[z25]
 have h:DPre key p (n+1) 0:=⟨by omega,by omega,by omega,fun i i1 i2=>by
  by_cases hi:i=n
  ·subst hi;omega
  ·rw[eq i (by omega),eq (i-1) (by omega)];exact am _,fun i i1 i2=>by
  have:i=n:=by omega
  subst this;rfl⟩
 obtain⟨r1,r2,r3⟩:=z33 (nrem-(n+1)) p (n+1) 0 h (by omega);generalize runT (ltk key) (kas_desc (nrem-(n+1)) p (n+1) 0)=r at r1 r2 r3 ⊢;have hsz:r.1.size=p.size:=r2.size_eq;by_cases hq:r.2.2>0
 ·rw[if_pos hq];obtain⟨t1,t2,t3,t4⟩:=z5r (key:=key) (p:=kas_rev r.1 (r.2.1-(r.2.2+1)) r.2.1) (n:=r.2.1) (nrem:=nrem) r1.one (by omega) (by rw[z42,hsz];exact hz) fun i i1 i2=>by rw[r1.rev,r1.rev];exact r1.de i i1 i2
  exact⟨t1,t2.trans ((z3a _ _ _).trans r2),t3,t4⟩
 ·rw[if_neg hq];obtain⟨t1,t2,t3,t4⟩:=z5r (key:=key) (p:=r.1) (n:=r.2.1) (nrem:=nrem) r1.one (by omega) (by rw[hsz];exact hz) r1.de;exact⟨t1,t2.trans r2,t3,t4⟩
theorem Asc.le {p:Array Nat}{m:Nat}(h:Asc key p m):∀(d i:Nat),i+d<m->Kp' key p i<=Kp' key p (i+d)
 |0,i,_=>am _
 |d+1,i,hm=>by
  have h1:=Asc.le h d i (by omega);have h2:=h (i+d+1) (by omega) (by omega);have e:i+d+1-1=i+d:=by omega
  rw[e]at h2;exact bx h1 h2
theorem zbr {p:Array Nat}{nrem:Nat}(h1:1<=nrem)(hz:nrem<=p.size):
  Asc key (runT (ltk key) (kas_count nrem p)).2 (runT (ltk key) (kas_count nrem p)).1/\(runT (ltk key) (kas_count nrem p)).2.Perm p/\1<=(runT (ltk key) (kas_count nrem p)).1/\(runT (ltk key) (kas_count nrem p)).1<=nrem:=by
 unfold kas_count;rw[z25];obtain⟨a1,a2,a3,a4⟩:=z6d (key:=key) p (nrem-1) 1 (am _);generalize runT (ltk key) (kas_asc p (nrem-1) 1)=n at a1 a2 a3 a4 ⊢;have ha:Asc key p n:=a3;by_cases hn:n=nrem
 ·rw[if_pos (by simpa using hn)];exact⟨ha,Array.Perm.refl _,a1,by show n<=_;omega⟩
 ·rw[if_neg (by simpa using hn)];have lt:=a4 (by omega);by_cases h2:n>1
  ·rw[if_pos h2];have e:runT (ltk key) (KasT.ask (p.getD 0 0) (p.getD (n-1) 0) fun c=>if c=true then .ret (n,p)else kas_descPart n nrem (kas_rev p 0 n))=runT (ltk key) (if decide (Kp' key p 0<Kp' key p (n-1))=true then .ret (n,p)else kas_descPart n nrem (kas_rev p 0 n)):=rfl;rw[e];by_cases hc:Kp' key p 0<Kp' key p (n-1)
   ·rw[if_pos (v5 hc)];exact⟨ha,Array.Perm.refl _,a1,by show n<=_;omega⟩
   ·rw[if_neg (show ¬_ from by simpa using hc)]
    have eq:∀i,i<n->Kp' key p i=Kp' key p (n-1):=fun i hi=>by
     have b1:=ha.le i 0 (by omega);have b2:=ha.le (n-1-i) i (by omega);have e1:0+i=i:=by omega
     have e2:i+(n-1-i)=n-1:=by omega
     rw[e1]at b1;rw[e2]at b2;omega
    have eqr:∀i,i<n->Kp' key (kas_rev p 0 n) i=Kp' key p (n-1):=fun i hi=>by rw[zep (by omega),if_pos (by omega)];exact eq _ (by omega)
    obtain⟨t1,t2,t3,t4⟩:=descPart_spec (key:=key) (p:=kas_rev p 0 n) (n:=n) (nrem:=nrem) (by omega) (by omega) (by rw[z42];exact hz) (fun i hi=>by rw[eqr i hi,eqr (n-1) (by omega)]) (by rw[eqr (n-1) (by omega),zep (by omega),if_neg (by omega)];exact lt);exact⟨t1,t2.trans (z3a _ _ _),t3,t4⟩
  ·rw[if_neg h2];have h11:n=1:=by omega
   subst h11
   exact descPart_spec (Nat.le_refl _) (by omega) hz (fun i hi=>by have :i=0:=by omega
                                                                   subst this;rfl) lt
theorem place_spec {p:Array Nat}{k:Nat}(ha:Asc key p k):∀(f l r:Nat),r-l<=f->l<=r->r<=k->(∀i,i<l->Kp' key p i<=Kp' key p k)->(∀i,r<=i->i<k->Kp' key p k<Kp' key p i)->
  runT (ltk key) (kas_place p k f l r)<=k/\(∀i,i<runT (ltk key) (kas_place p k f l r)->Kp' key p i<=Kp' key p k)/\(∀i,runT (ltk key) (kas_place p k f l r)<=i->i<k->Kp' key p k<Kp' key p i)
 |0,l,r,hf,hl,hr,h1,h2=>by
  have:l=r:=by omega
  subst this;exact⟨hr,h1,h2⟩
 |f+1,l,r,hf,hl,hr,h1,h2=>by
  unfold kas_place;by_cases hc:l ≥ r
  ·rw[if_pos hc];have:l=r:=by omega
   subst this;exact⟨hr,h1,h2⟩
  ·rw[if_neg hc];have e:runT (ltk key) (KasT.ask (p.getD k 0) (p.getD ((l+r)/2) 0) fun c=>if c=true then kas_place p k f l ((l+r)/2)else kas_place p k f ((l+r)/2+1) r)=runT (ltk key) (if decide (Kp' key p k<Kp' key p ((l+r)/2))=true then kas_place p k f l ((l+r)/2)else kas_place p k f ((l+r)/2+1) r):=rfl;rw[e];have hm1:l<=(l+r)/2:=by omega
   have hm2:(l+r)/2<r:=by omega
   generalize (l+r)/2=m at hm1 hm2 ⊢;by_cases hx:Kp' key p k<Kp' key p m
   ·rw[if_pos (v5 hx)];refine place_spec ha f l m (by omega) hm1 (by omega) h1 fun i i1 i2=>?_;have:=ha.le (i-m) m (by omega);have e2:m+(i-m)=i:=by omega
    rw[e2]at this;omega
   ·rw[if_neg (by simpa using hx)];refine place_spec ha f (m+1) r (by omega) (by omega) hr (fun i i1=>?_) h2;have:=ha.le (m-i) i (by omega);have e2:i+(m-i)=m:=by omega
    rw[e2]at this;omega
theorem zaj:∀(f:Nat) (p:Array Nat) (k:Nat),Asc key p k->k+f<=p.size->Asc key (runT (ltk key) (kas_bin f p k)) (k+f)/\(runT (ltk key) (kas_bin f p k)).Perm p
 |0,p,k,ha,hz=>⟨ha,Array.Perm.refl _⟩
 |f+1,p,k,ha,hz=>by
  unfold kas_bin;rw[z25];obtain⟨l1,l2,l3⟩:=place_spec (key:=key) ha k 0 k (by omega) (dj _) (am _) (fun i hi=>absurd hi (Nat.not_lt_zero _)) fun i i1 i2=>absurd (lg i1 i2) (ci _);generalize runT (ltk key) (kas_place p k k 0 k)=l at l1 l2 l3 ⊢
  have hb:Asc key (bubble p k (k-l)) (k+1):=fun i i1 i2=>by
   have e:k-(k-l)=l:=by omega
   rw[zpn (by omega) (by omega),zpn (by omega) (by omega),e];by_cases c1:i=l
   ·rw[if_neg (by omega),if_neg (by omega),if_pos c1];exact l2 _ (by omega)
   ·rw[if_neg c1];by_cases c2:i-1=l
    ·rw[if_pos c2,if_pos (by omega)];rw[c2];exact np (l3 l (am _) (by omega))
    ·rw[if_neg c2];by_cases c3:l<i
     ·rw[if_pos (by omega),if_pos (by omega)];exact ha (i-1) (by omega) (by omega)
     ·rw[if_neg (by omega),if_neg (by omega)];exact ha i i1 (by omega)
  obtain⟨b1,b2⟩:=zaj f (bubble p k (k-l)) (k+1) hb (by rw[bubble_size];omega);refine⟨?_,b2.trans (bubble_perm _ _ _)⟩;have e:k+1+f=k+(f+1):=by omega
  rw[e]at b1;exact b1
theorem z4w (n:Nat)(h1:1<=n):Asc key (runT (ltk key) (kas_sort n)) n/\(runT (ltk key) (kas_sort n)).Perm (jb (cu n)):=by
 unfold kas_sort;rw[z25];have hsz:(jb (cu n)).size=n:=by simp
 obtain⟨c1,c2,c3,c4⟩:=zbr (key:=key) (p:=jb (cu n)) h1 (by rw[hsz];exact am _);generalize runT (ltk key) (kas_count n (jb (cu n)))=r at c1 c2 c3 c4 ⊢;have hr:r.2.size=n:=by rw[c2.size_eq,hsz]
 by_cases h:r.1<n
 ·rw[if_pos h];have e:max r.1 1=r.1:=by omega
  rw[e];obtain⟨b1,b2⟩:=zaj (key:=key) (n-r.1) r.2 r.1 c1 (by omega);refine⟨?_,b2.trans c2⟩;have e:r.1+(n-r.1)=n:=by omega
  rw[e]at b1;exact b1
 ·rw[if_neg h];have e:r.1=n:=by omega
  rw[e]at c1;exact⟨c1,c2⟩
end
theorem z2p {h:Heap}{a b:Addr}{f:Obj->Obj}{o:Obj}(hb:b≠a)(e:h.get? b=some o):(h.update a f).get? b=some o:=by rw[sf _ _ _ _ hb];exact e
theorem z77 {prog:ba}{w:World}{A:b6}{E:Value->ac->Prop}{s:ac}{l:Addr}{vs:List Value}{Q:Value->ac->Prop}(hl:s.heap.IsList l vs.toArray)(h2:vs.length<2)
  (h:∀D h' n,s.heap.objs.size<=D->(∀b o,s.heap.get? b=some o->h'.get? b=some o)->h'.get? D=some (dm "list" vs.toArray n)->Q (.ref D) {s with heap:=h'}):wpAny (model prog w) A (call (.builtin "sorted") [.ref l]) Q E s:=by
 apply on kind_sorted plain_sorted entry_sorted (args_sorted1 _);unfold Builtin.«sorted»;apply aa (m:=checkCount "sorted" 1 1 _);apply aq;apply aa;refine collect_list hl ?_ (by rw[dq];omega);apply aa;refine mo ?_ (by rw[dq];omega);have k1:∀b o,s.heap.get? b=some o->((s.heap.push (dm "list" #[] 0)).update s.heap.objs.size (Obj.mapSeq (· ++vs.toArray))).get? b=some o:=fun b o e=>z2p (b7 (bj e)) (ae _ e);have z1:s.heap.objs.size<=((s.heap.push (dm "list" #[] 0)).update s.heap.objs.size (Obj.mapSeq (· ++vs.toArray))).objs.size:=by rw[Heap.size_update,me];omega
 generalize ((s.heap.push (dm "list" #[] 0)).update s.heap.objs.size (Obj.mapSeq (·++vs.toArray)))=h1 at k1 z1 ⊢;have hoL:(h1.push (dm "list" vs.toArray 0)).get? h1.objs.size=some (dm "list" vs.toArray 0):=a8 _ rfl;have k2:∀b o,s.heap.get? b=some o->b≠h1.objs.size/\(h1.push (dm "list" vs.toArray 0)).get? b=some o:=fun b o e=>⟨b7 (bz (bj e) z1),ae _ (k1 b o e)⟩;show wpAny _ _ _ _ _ {s with heap:=h1.push (dm "list" vs.toArray 0)};generalize hD:h1.objs.size=D at hoL k2 z1 ⊢;generalize h1.push (dm "list" vs.toArray 0)=h2' at hoL k2 ⊢;apply aa;apply dn;refine e8 slot_list_sort ⟨_,hoL,rfl⟩ entry_list_sort ?body (args_list_sort _);rw[list_sort_plain];refine aa (qc (s:={s with heap:=h2'}) hoL rfl ?_);refine aa (mq (s:={s with heap:=h2'}) hoL rfl ?_ (hsz:=by rw[dq];simp;omega));obtain⟨e1,ho1⟩:∃e1,(h2'.update D (Obj.mapSeq fun _=>(#[]:Array Value))).get? D=some (dm "list" #[] e1):=⟨_,la hoL fun _=>#[]⟩;have k3:∀b o,s.heap.get? b=some o->b≠D/\(h2'.update D (Obj.mapSeq fun _=>(#[]:Array Value))).get? b=some o:=fun b o e=>⟨(k2 b o e).1,z2p (k2 b o e).1 (k2 b o e).2⟩;generalize (h2'.update D (Obj.mapSeq fun _=>(#[]:Array Value)))=h3 at ho1 k3 ⊢;refine aa (qv (s:={s with heap:=h3}) ho1 rfl ?_);refine aa (n9 ?_ (by rw[dq];simp;omega));apply aa;refine mo ?_;refine dn ?_;have ho6:((h3.push (dm "tuple" vs.toArray 0)).push (dm "list" #[] 0)).get? D=some (dm "list" #[] e1):=ae _ (ae _ ho1);have k6:∀b o,s.heap.get? b=some o->b≠D/\((h3.push (dm "tuple" vs.toArray 0)).push (dm "list" #[] 0)).get? b=some o:=fun b o e=>⟨(k3 b o e).1,ae _ (ae _ (k3 b o e).2)⟩;show wpAny (model prog w) _ _ _ _ {s with heap:=(h3.push (dm "tuple" vs.toArray 0)).push (dm "list" #[] 0)};generalize ((h3.push (dm "tuple" vs.toArray 0)).push (dm "list" #[] 0))=h6 at ho6 k6 ⊢
 dsimp only
 have hz:vs.toArray.size<2:=by simpa using h2
 rw[if_pos hz,if_pos hz];refine aa (aq ?_);rw[StateT.run_pure];refine aa (aq ?_)
 dsimp only
 refine aa (qv (s:={s with heap:=h6}) ho6 rfl ?_);have em:(arrOf (SortSt.mk' general' (vs.toArray.zip vs.toArray) #[] 7 none)).map (·.2)=vs.toArray:=by show(vs.toArray.zip vs.toArray).map (·.2)=vs.toArray;simp;exact List.map_snd_zip (am _)
 rw[em];refine aa (mq (s:={s with heap:=h6}) ho6 rfl ?_ (hsz2:=by rw[dq];simp;omega));simp only[if_false,gc,bne_self_eq_false];refine aq ⟨_,rfl,aq ⟨_,rfl,h D _ _ z1 (fun b o e=>z2p (k6 b o e).1 (k6 b o e).2) (la ho6 fun _=>vs.toArray)⟩⟩
def z11 {α:Type}(n:Nat)(Q:α->Prop):KasT α->Prop
 |.ret a=>Q a
 |.ask i j k=>i<n/\j<n/\∀b,z11 n Q (k b)
theorem z11.bind {α β:Type}{n:Nat}{Q:α->Prop}{R:β->Prop}{f:α->KasT β}(hf:∀a,Q a->z11 n R (f a)):∀{t:KasT α},z11 n Q t->z11 n R (t.bind f)
 |.ret a,h=>hf a h
 |.ask i j k,h=>⟨h.1,h.2.1,fun b=>z11.bind hf (h.2.2 b)⟩
theorem z11.ite {α:Type}{n:Nat}{Q:α->Prop}{c:Prop} [Decidable c] {a b:KasT α}(h1:z11 n Q a)(h2:z11 n Q b):z11 n Q (if c then a else b):=by
 split
 ·exact h1
 ·exact h2
def AllIn (n:Nat)(p:Array Nat):Prop:=0<n/\∀x∈p,x<n
theorem AllIn.get {n:Nat}{p:Array Nat}(h:AllIn n p)(i:Nat):p.getD i 0<n:=by
 rw[fi];cases e:p[i]? with
 |none=>exact h.1
 |some x=>exact h.2 x (Array.mem_of_getElem? e)
theorem AllIn.perm {n:Nat}{p q:Array Nat}(h:AllIn n p)(hp:q.Perm p):AllIn n q:=⟨h.1,fun x hx=>h.2 x (hp.mem_iff.mp hx)⟩
theorem AllIn.rev {n:Nat}{p:Array Nat}(h:AllIn n p)(i j:Nat):AllIn n (kas_rev p i j):=h.perm (z3a _ _ _)
theorem z6b {n:Nat}{p:Array Nat}(h:AllIn n p):∀f m,z11 n (fun _=>True) (kas_asc p f m)
 |0,m=>trivial
 |f+1,m=>⟨h.get _,h.get _,fun b=>z11.ite trivial (z6b h f (m+1))⟩
theorem z3h {n:Nat}:∀(f:Nat) (p:Array Nat) (m q:Nat),AllIn n p->z11 n (fun r=>AllIn n r.1) (kas_desc f p m q)
 |0,p,m,q,h=>h
 |f+1,p,m,q,h=>⟨h.get _,h.get _,fun b=>z11.ite (z11.ite (z3h f _ _ _ (h.rev _ _)) (z3h f _ _ _ h)) ⟨h.get _,h.get _,fun d=>z11.ite h (z3h f _ _ _ h)⟩⟩
theorem z5c {n m r:Nat}{p:Array Nat}(h:AllIn n p):z11 n (fun r=>AllIn n r.2) (kas_tail3 m r p):=by unfold kas_tail3;refine z11.bind (Q:=fun _=>True) (fun a _=>?_) (z6b (h.rev _ _) _ _);exact h.rev _ _
theorem z32 {n m r:Nat}{p:Array Nat}(h:AllIn n p):z11 n (fun r=>AllIn n r.2) (kas_descPart m r p):=by unfold kas_descPart;exact z11.bind (fun a ha=>z11.ite (z5c (AllIn.rev ha _ _)) (z5c ha)) (z3h _ _ _ _ h)
theorem zba {n r:Nat}{p:Array Nat}(h:AllIn n p):z11 n (fun r=>AllIn n r.2) (kas_count r p):=by
 unfold kas_count;refine z11.bind (Q:=fun _=>True) (fun m _=>?_) (z6b h _ _);split
 ·exact h
 ·split
  ·refine⟨h.get _,h.get _,fun c=>?_⟩;show z11 n _ (if c=true then _ else _);split
   ·exact h
   ·exact z32 (h.rev _ _)
  ·exact z32 h
theorem z3r {n:Nat}{p:Array Nat}(h:AllIn n p)(k:Nat):∀f l r,z11 n (fun _=>True) (kas_place p k f l r)
 |0,l,r=>trivial
 |f+1,l,r=>by unfold kas_place;exact z11.ite trivial ⟨h.get _,h.get _,fun c=>z11.ite (z3r h k f _ _) (z3r h k f _ _)⟩
theorem zah {n:Nat}:∀(f:Nat) (p:Array Nat) (k:Nat),AllIn n p->z11 n (fun _=>True) (kas_bin f p k)
 |0,p,k,h=>trivial
 |f+1,p,k,h=>z11.bind (fun l _=>zah f _ _ (h.perm (bubble_perm _ _ _))) (z3r h k _ _ _)
theorem z7m {n:Nat}(h:0<n):z11 n (fun _=>True) (kas_sort n):=by
 have h0:AllIn n (jb (cu n)):=⟨h,fun x hx=>by simpa using hx⟩;unfold kas_sort;refine z11.bind (fun r hr=>?_) (zba h0);split
 ·exact zah _ _ _ hr
 ·exact trivial
theorem z3l {α:Type}{n:Nat}{cmp:Nat->Nat->(Bool->ac->Prop)->ac->Prop}{lt:Nat->Nat->Bool}{P:ac->Prop}(h:∀i j C s,i<n->j<n->P s->(∀s',P s'->C (lt i j) s')->cmp i j C s){Q:α->ac->Prop}:∀(t:KasT α) (s:ac),z11 n (fun _=>True) t->P s->(∀s',P s'->Q (runT lt t) s')->t.kasWp cmp Q s
 |.ret a,s,_,p,q=>q s p
 |.ask i j k,s,a,p,q=>h i j _ s a.1 a.2.1 p fun s' p'=>z3l h (k (lt i j)) s' (a.2.2 _) p' q
structure OrdOn (p:D->Prop):Prop where
 irr:∀x,p x->ltD x x=false
 tr:∀x y z,p x->p y->p z->ltD x y=true->ltD y z=true->ltD x z=true
 ntr:∀x y z,p x->p y->p z->ltD x z=true->ltD x y=true\/ltD y z=true
 tot:∀x y,p x->p y->ltD x y=false->ltD y x=false->x=y
theorem z1z {x:D}(h:isI x=true):∃i,x=.int i:=by cases x<;>first|(cases h;done)|exact⟨_,rfl⟩
theorem z1x {x:D}(h:isS x=true):∃i,x=.str i:=by cases x<;>first|(cases h;done)|exact⟨_,rfl⟩
theorem z3q (a b:Int):ltD (.int a) (.int b)=decide (a<b):=rfl
theorem z31 (a b:Str):ltD (.str a) (.str b)=decide (a.cps.toList<b.cps.toList):=rfl
theorem ordI:OrdOn (fun x=>isI x=true) where
 irr:=fun x h=>by obtain⟨i,rfl⟩:=z1z h;rw[z3q];simp
 tr:=fun x y z hx hy hz h1 h2=>by obtain⟨i,rfl⟩:=z1z hx;obtain⟨j,rfl⟩:=z1z hy;obtain⟨k,rfl⟩:=z1z hz;rw[z3q,decide_eq_true_eq]at *;omega
 ntr:=fun x y z hx hy hz h=>by
  obtain⟨i,rfl⟩:=z1z hx;obtain⟨j,rfl⟩:=z1z hy;obtain⟨k,rfl⟩:=z1z hz;rw[z3q,decide_eq_true_eq]at *
  rw[z3q,decide_eq_true_eq];omega
 tot:=fun x y hx hy h1 h2=>by
  obtain⟨i,rfl⟩:=z1z hx;obtain⟨j,rfl⟩:=z1z hy;rw[z3q,decide_eq_false_iff_not]at *
  rw[show i=j by omega]
theorem zlx {a b:Str}(h:a.cps.toList=b.cps.toList):a=b:=by obtain⟨⟨l⟩⟩:=a;obtain⟨⟨m⟩⟩:=b;simp only at h;rw[h]
theorem ordS:OrdOn (fun x=>isS x=true) where
 irr:=fun x h=>by obtain⟨i,rfl⟩:=z1x h;rw[z31];exact strKind.irrefl _
 tr:=fun x y z hx hy hz h1 h2=>by
  obtain⟨i,rfl⟩:=z1x hx;obtain⟨j,rfl⟩:=z1x hy;obtain⟨k,rfl⟩:=z1x hz;rw[z31]at *
  exact strKind.trans _ _ _ h1 h2
 ntr:=fun x y z hx hy hz h=>by
  obtain⟨i,rfl⟩:=z1x hx;obtain⟨j,rfl⟩:=z1x hy;obtain⟨k,rfl⟩:=z1x hz;rw[z31]at *
  rw[z31];exact strKind.negTrans _ _ _ h
 tot:=fun x y hx hy h1 h2=>by
  obtain⟨i,rfl⟩:=z1x hx;obtain⟨j,rfl⟩:=z1x hy;rw[z31]at *
  rw[zlx (strKind.total _ _ h1 h2)]
theorem ordK (b:Bool):OrdOn (fun x=>ofK b x=true):=by
 cases b with
 |true=>exact ordI
 |false=>exact ordS
theorem ze9 {b:Bool}{x y:D}(hx:ofK b x=true)(hy:ofK b y=true):eqD x y=true↔x=y:=by
 cases b with
 |true=>obtain⟨i,rfl⟩:=z1z hx;obtain⟨j,rfl⟩:=z1z hy;show(i==j)=true↔_;rw[beq_iff_eq];exact⟨fun h=>by rw[h],fun h=>by cases h;rfl⟩
 |false=>obtain⟨i,rfl⟩:=z1x hx;obtain⟨j,rfl⟩:=z1x hy;show(i==j)=true↔_;rw[beq_iff_eq];exact⟨fun h=>by rw[h],fun h=>by cases h;rfl⟩
theorem z0h {b:Bool}{bs:List Bool}{xs:List D}(h:shps (b::bs) xs=true):∃x r,xs=x::r/\ofK b x=true/\shps bs r=true:=by
 cases xs with
 |nil=>cases h
 |cons x r=>simp only[shps,ax]at h;exact⟨x,r,rfl,h.1,h.2⟩
theorem z0n {xs:List D}(h:shps [] xs=true):xs=[]:=by
 cases xs with
 |nil=>rfl
 |cons x r=>cases h
theorem z1q (x y:D)(xs ys:List D):ltDs (x::xs) (y::ys)=if eqD x y then ltDs xs ys else ltD x y:=by simp only[ltDs]
theorem z2f {b:Bool}{x y:D}{xs ys:List D}(hx:ofK b x=true)(hy:ofK b y=true)(h:x=y):ltDs (x::xs) (y::ys)=ltDs xs ys:=by rw[z1q,if_pos ((ze9 hx hy).mpr h)]
theorem z19 {b:Bool}{x y:D}{xs ys:List D}(hx:ofK b x=true)(hy:ofK b y=true)(h:x≠y):ltDs (x::xs) (y::ys)=ltD x y:=by rw[z1q,if_neg fun z=>h ((ze9 hx hy).mp z)]
theorem z1k:ltDs [] []=false:=by simp[ltDs]
theorem zjl:∀(bs:List Bool) (xs:List D),shps bs xs=true->ltDs xs xs=false
 | [],xs,h=>by rw[z0n h];exact z1k
 |b::bs,xs,h=>by obtain⟨x,r,rfl,h1,h2⟩:=z0h h;rw[z2f h1 h1 rfl];exact zjl bs r h2
theorem zny:∀(bs:List Bool) (xs ys zs:List D),shps bs xs=true->shps bs ys=true->shps bs zs=true->ltDs xs ys=true->ltDs ys zs=true->ltDs xs zs=true
 | [],xs,ys,zs,h1,h2,h3,e1,e2=>by rw[z0n h1,z0n h2,z1k]at e1;cases e1
 |b::bs,xs,ys,zs,h1,h2,h3,e1,e2=>by
  obtain⟨x,xs,rfl,hx,h1⟩:=z0h h1;obtain⟨y,ys,rfl,hy,h2⟩:=z0h h2;obtain⟨z,zs,rfl,hz,h3⟩:=z0h h3;have O:=ordK b;by_cases xy:x=y
  ·rw[z2f hx hy xy]at e1;by_cases yz:y=z
   ·rw[z2f hy hz yz]at e2;rw[z2f hx hz (xy.trans yz)];exact zny bs xs ys zs h1 h2 h3 e1 e2
   ·rw[z19 hy hz yz]at e2;rw[z19 hx hz (by rw[xy];exact yz),xy];exact e2
  ·rw[z19 hx hy xy]at e1;by_cases yz:y=z
   ·rw[z19 hx hz (by rw[<-yz];exact xy),<-yz];exact e1
   ·rw[z19 hy hz yz]at e2;have e3:=O.tr x y z hx hy hz e1 e2;rw[z19 hx hz (fun q=>by subst q;rw[O.irr x hx]at e3;cases e3)];exact e3
theorem zij:∀(bs:List Bool) (xs ys zs:List D),shps bs xs=true->shps bs ys=true->shps bs zs=true->ltDs xs zs=true->ltDs xs ys=true\/ltDs ys zs=true
 | [],xs,ys,zs,h1,h2,h3,e1=>by rw[z0n h1,z0n h3,z1k]at e1;cases e1
 |b::bs,xs,ys,zs,h1,h2,h3,e=>by
  obtain⟨x,xs,rfl,hx,h1⟩:=z0h h1;obtain⟨y,ys,rfl,hy,h2⟩:=z0h h2;obtain⟨z,zs,rfl,hz,h3⟩:=z0h h3;have O:=ordK b;by_cases xz:x=z
  ·rw[z2f hx hz xz]at e;by_cases xy:x=y
   ·rw[z2f hx hy xy,z2f hy hz (xy.symm.trans xz)];exact zij bs xs ys zs h1 h2 h3 e
   ·rw[z19 hx hy xy,z19 hy hz (fun q=>xy (xz.trans q.symm)),<-xz];cases e1:ltD x y with
    |true=>exact .inl rfl
    |false=>
     cases e2:ltD y x with
     |true=>exact .inr rfl
     |false=>exact(xy (O.tot x y hx hy e1 e2)).elim
  ·rw[z19 hx hz xz]at e;by_cases xy:x=y
   ·rw[z19 hy hz (fun q=>xz (xy.trans q)),<-xy];exact .inr e
   ·rw[z19 hx hy xy];by_cases yz:y=z
    ·rw[yz];exact .inl e
    ·rw[z19 hy hz yz];exact O.ntr x y z hx hy hz e
theorem zji:∀(bs:List Bool) (xs ys:List D),shps bs xs=true->shps bs ys=true->ltDs xs ys=false->ltDs ys xs=false->xs=ys
 | [],xs,ys,h1,h2,e1,e2=>by rw[z0n h1,z0n h2]
 |b::bs,xs,ys,h1,h2,e1,e2=>by
  obtain⟨x,xs,rfl,hx,h1⟩:=z0h h1;obtain⟨y,ys,rfl,hy,h2⟩:=z0h h2;by_cases xy:x=y
  ·rw[z2f hx hy xy]at e1;rw[z2f hy hx xy.symm]at e2;rw[xy,zji bs xs ys h1 h2 e1 e2]
  ·rw[z19 hx hy xy]at e1;rw[z19 hy hx (fun q=>xy q.symm)]at e2;exact(xy ((ordK b).tot x y hx hy e1 e2)).elim
theorem z0y {bs:List Bool}{x:D}(h:z2y bs x=true):∃xs,x=.tuple xs/\shps bs xs=true:=by cases x<;>first|(cases h;done)|exact⟨_,rfl,h⟩
theorem z3p (a b:List D):ltD (.tuple a) (.tuple b)=ltDs a b:=rfl
theorem ordT (bs:List Bool):OrdOn (fun x=>z2y bs x=true) where
 irr:=fun x h=>by obtain⟨i,rfl,h⟩:=z0y h;rw[z3p];exact zjl bs i h
 tr:=fun x y z hx hy hz h1 h2=>by
  obtain⟨i,rfl,hx⟩:=z0y hx;obtain⟨j,rfl,hy⟩:=z0y hy;obtain⟨k,rfl,hz⟩:=z0y hz;rw[z3p]at *
  exact zny bs _ _ _ hx hy hz h1 h2
 ntr:=fun x y z hx hy hz h=>by
  obtain⟨i,rfl,hx⟩:=z0y hx;obtain⟨j,rfl,hy⟩:=z0y hy;obtain⟨k,rfl,hz⟩:=z0y hz;rw[z3p]at *
  rw[z3p];exact zij bs _ _ _ hx hy hz h
 tot:=fun x y hx hy h1 h2=>by
  obtain⟨i,rfl,hx⟩:=z0y hx;obtain⟨j,rfl,hy⟩:=z0y hy;rw[z3p]at *
  rw[zji bs _ _ hx hy h1 h2]
def SrtD (l:List D):Prop:=l.Pairwise fun a b=>ltD b a=false
theorem z26 (x:D):∀l:List D,(insD x l).Perm (x::l)
 | []=>.refl _
 |y::l=>by
  unfold insD;split
  ·exact((z26 x l).cons y).trans (.swap x y l)
  ·exact .refl _
theorem z1o:∀l:List D,(z1e l).Perm l
 | []=>.refl _
 |x::l=>(z26 x (z1e l)).trans ((z1o l).cons x)
section
variable {p:D->Prop}(O:OrdOn p)
include O
theorem OrdOn.asym {x y:D}(hx:p x)(hy:p y)(h:ltD x y=true):ltD y x=false:=by
 cases e:ltD y x with
 |false=>rfl
 |true=>have:=O.tr x y x hx hy hx h e;rw[O.irr x hx]at this;cases this
theorem z9q (x:D)(hx:p x):∀l:List D,(∀y∈l,p y)->SrtD l->SrtD (insD x l)
 | [],_,_=>lj _ _
 |y::l,hp,hs=>by
  have hy:=hp y (by simp);have hl:∀z∈l,p z:=fun z hz=>hp z (by simp[hz]);obtain⟨h1,h2⟩:=cj.mp hs;unfold insD;split
  ·rename_i hc;refine cj.mpr ⟨fun z hz=>?_,z9q x hx l hl h2⟩;rcases aw.mp ((z26 x l).mem_iff.mp hz)with rfl|hz
   ·exact O.asym hy hx hc
   ·exact h1 z hz
  ·rename_i hc;refine cj.mpr ⟨fun z hz=>?_,hs⟩;rcases(aw.mp hz)with rfl|hz
   ·exact by simpa using hc
   ·cases e:ltD z x with
    |false=>rfl
    |true=>
     rcases O.ntr z y x (hl z hz) hy hx e with q|q
     ·rw[h1 z hz]at q;cases q
     ·exact(hc q).elim
theorem z87:∀l:List D,(∀y∈l,p y)->SrtD (z1e l)
 | [],_=>List.Pairwise.nil
 |x::l,hp=>z9q O x (hp x (by simp)) _ (fun z hz=>hp z (by simp[(z1o l).mem_iff.mp hz])) (z87 l fun z hz=>hp z (by simp[hz]))
theorem z9l:∀{a b:List D},(∀y∈a,p y)->a.Perm b->SrtD a->SrtD b->a=b
 | [],b,_,hp,_,_=>(hp.symm.eq_nil).symm
 |x::a,[],_,hp,_,_=>by have:=hp.length_eq;simp at this
 |x::a,y::b,hq,hp,ha,hb=>by
  obtain⟨a1,a2⟩:=cj.mp ha;obtain⟨b1,b2⟩:=cj.mp hb;have hx:=hq x (by simp);have hy:p y:=hq y (hp.mem_iff.mpr (by simp))
  have e:x=y:=by
   refine O.tot x y hx hy ?_ ?_
   ·rcases aw.mp (hp.mem_iff.mp (show x∈x::a by simp))with q|q
    ·rw[<-q];exact O.irr x hx
    ·exact b1 x q
   ·rcases aw.mp (hp.mem_iff.mpr (show y∈y::b by simp))with q|q
    ·rw[<-q];exact O.irr y hy
    ·exact a1 y q
  subst e;rw[z9l (fun z hz=>hq z (by simp[hz])) (List.perm_cons x |>.mp hp) a2 b2]
def rank (ds:List D)(i:Nat):Nat:=ds.countP fun d=>ltD d (ds.getD i .none)
omit O in
theorem z7b {q r:D->Bool}:∀(l:List D),(∀x∈l,q x=true->r x=true)->(∃x∈l,r x=true/\q x=false)->l.countP q<l.countP r
 | [],_,⟨_,h,_⟩=>by simp at h
 |x::l,h,⟨y,hy,h1,h2⟩=>by
  have hl:l.countP q<=l.countP r:=jx fun z hz=>h z (by simp[hz]);rcases(aw.mp hy)with rfl|hy
  ·rw[List.countP_cons_of_neg (by rw[h2];simp),List.countP_cons_of_pos h1];omega
  ·have :=z7b l (fun z hz=>h z (by simp[hz])) ⟨y,hy,h1,h2⟩;rw[mf,mf];have hx:=h x (by simp);cases e:q x with
   |true=>rw[hx e];simp;exact this
   |false=>simp;split<;>omega
theorem z8s {ds:List D}(hp:∀d∈ds,p d){i j:Nat}(hi:i<ds.length)(hj:j<ds.length):decide (rank ds i<rank ds j)=ltD (ds.getD i .none) (ds.getD j .none):=by
 have ei:ds.getD i .none=ds[i]:=by simp[hi]
 have ej:ds.getD j .none=ds[j]:=by simp[hj]
 have mi:ds[i]∈ds:=fg hi;have mj:ds[j]∈ds:=fg hj;unfold rank;rw[ei,ej];cases e:ltD ds[i] ds[j]with
 |true=>rw[decide_eq_true_eq];exact z7b ds (fun x hx h=>O.tr x _ _ (hp x hx) (hp _ mi) (hp _ mj) h e) ⟨ds[i],mi,e,O.irr _ (hp _ mi)⟩
 |false=>
  rw[decide_eq_false_iff_not]
  have:ds.countP (fun d=>ltD d ds[j])<=ds.countP fun d=>ltD d ds[i]:=jx fun x hx h=>by
   rcases O.ntr x _ _ (hp x hx) (hp _ mi) (hp _ mj) h with q|q
   ·exact q
   ·rw[e]at q;cases q
  omega
theorem zak {ds:List D}(hp:∀d∈ds,p d)(hn:1<=ds.length):(runT (ltk (rank ds)) (kas_sort ds.length)).toList.map (fun i=>ds.getD i .none)=z1e ds:=by
 obtain⟨h1,h2⟩:=z4w (key:=rank ds) ds.length hn;generalize runT (ltk (rank ds)) (kas_sort ds.length)=q at h1 h2 ⊢;have hq:q.toList.Perm (cu ds.length):=by simpa using h2.toList
 have hsz:q.size=ds.length:=by rw[h2.size_eq];simp
 have hperm:(q.toList.map fun i=>ds.getD i .none).Perm ds:=by
  refine(hq.map _).trans ?_
  have:(cu ds.length).map (fun i=>ds.getD i .none)=ds:=by
   apply List.ext_getElem
   ·simp
   ·intro i h1 h2;simp;rw[bq (by simpa using h2)];rfl
  rw[this]
 refine z9l O (fun y hy=>hp y (hperm.mem_iff.mp hy)) (hperm.trans (z1o ds).symm) ?_ (z87 O ds hp);unfold SrtD;rw[j5,oo];intro i j hi hj hij;have hi':i<ds.length:=by rw[<-hsz];simpa using hi
 have hj':j<ds.length:=by rw[<-hsz];simpa using hj
 have le:=h1.le (j-i) i (by omega);have e:i+(j-i)=j:=by omega
 rw[e]at le;have ki:Kp' (rank ds) q i=rank ds q.toList[i]:=by unfold Kp';rw[fi];simp[hsz,hi']
 have kj:Kp' (rank ds) q j=rank ds q.toList[j]:=by unfold Kp';rw[fi];simp[hsz,hj']
 rw[ki,kj]at le;have m1:q.toList[i]<ds.length:=by simpa using hq.mem_iff.mp (fg hi)
 have m2:q.toList[j]<ds.length:=by simpa using hq.mem_iff.mp (fg hj)
 rw[<-z8s O hp m2 m1,decide_eq_false_iff_not];omega
end
end Mi
namespace Mi
open PySem PySem.Spec PyProof.Rows L2 PySem.W
def ScV (b:Bool)(x:D)(u:Value):Prop:=if b then ∃i t,x=.int i/\u=.int i t else ∃z t,x=.str z/\u=.str z t
theorem zjb {K:W.Frag}{H:Hp}{B:Ad->Prop}{b:Bool}{x:D}{v:V}{u:Value}(hx:ofK b x=true)(r:Rep K H B v x)(ru:RelV v u):ScV b x u:=by
 cases b with
 |true=>obtain⟨i,rfl⟩:=z1z hx;have e:v=.int i:=r;subst e;obtain⟨t,rfl⟩:=ru;exact⟨i,t,rfl,rfl⟩
 |false=>obtain⟨z,rfl⟩:=z1x hx;have e:v=.str z:=r.1;subst e;obtain⟨t,rfl⟩:=ru;exact⟨z,t,rfl,rfl⟩
section
variable {prog:ba}{w:World}{A:b6}{E:Value->ac->Prop}{s:ac}{b:Bool}{x y:D}{u v:Value}{Q:Bool->ac->Prop}
theorem zr0 (h1:ScV b x u)(h2:ScV b y v)(q:Q (eqD x y) s):wpAny (model prog w) A (eqBool u v) Q E s:=by
 cases b with
 |true=>obtain⟨i,t,rfl,rfl⟩:=h1;obtain⟨j,t',rfl,rfl⟩:=h2;exact wpAny_eqBool_int q
 |false=>
  obtain⟨i,t,rfl,rfl⟩:=h1;obtain⟨j,t',rfl,rfl⟩:=h2;refine wpAny_eqBool_str ?_;have e:eqD (.str i) (.str j)=decide (i=j):=by show(i==j)=decide (i=j);apply Bool.eq_iff_iff.mpr;rw[beq_iff_eq,decide_eq_true_eq]
  rw[<-e];exact q
theorem zqv (c:Bool)(h1:ScV b x u)(h2:ScV b y v)(q:Q (ltD x y) s):wpAny (model prog w) A (oneLt' c u v) Q E s:=by
 cases b with
 |true=>
  obtain⟨i,t,rfl,rfl⟩:=h1;obtain⟨j,t',rfl,rfl⟩:=h2;rw[z3q]at q;cases c with
  |true=>exact oneLt_int q
  |false=>exact kat_one _ _ (PyProof.Rows.lt_int q)
 |false=>
  obtain⟨i,t,rfl,rfl⟩:=h1;obtain⟨j,t',rfl,rfl⟩:=h2;rw[z31]at q;cases c with
  |true=>exact oneLt_str q
  |false=>exact kat_one _ _ (PyProof.Rows.lt_str q)
end
def ScVs:List Bool->List D->List Value->Prop
 | [],xs,us=>xs=[]/\us=[]
 |b::bs,xs,us=>∃x r u t,xs=x::r/\us=u::t/\ofK b x=true/\ScV b x u/\ScVs bs r t
theorem z8h {K:W.Frag}{H:Hp}{B:Ad->Prop}:∀{bs:List Bool} {xs:List D} {vs:List V} {us:List Value},shps bs xs=true->Reps K H B vs xs->Vals vs us->ScVs bs xs us
 | [],xs,vs,us,h,r,rv=>by have e:=z0n h;subst e;have e2:vs=[]:=r;subst e2;cases rv;exact⟨rfl,rfl⟩
 |b::bs,xs,vs,us,h,r,rv=>by
  obtain⟨x,xs',rfl,h1,h2⟩:=z0h h;obtain⟨v,t,rfl,r1,r2⟩:=r;cases rv with
  |cons a c=>exact⟨x,xs',_,_,rfl,rfl,h1,zjb h1 r1 a,z8h h2 r2 c⟩
theorem zix {prog:ba}{w:World}{A:b6}{s:ac}{b:Bool}{Q:Bool->ac->Prop}:∀{bs:List Bool} {xs ys:List D} {us vs:List Value} (i:Nat),ScVs bs xs us->ScVs bs ys vs->Q (ltDs xs ys) s->KatLex prog w A b false Q (us.zip vs) i s
 | [],xs,ys,us,vs,i,h1,h2,q=>by obtain⟨rfl,rfl⟩:=h1;obtain⟨rfl,rfl⟩:=h2;rw[z1k]at q;exact q
 |c::bs,xs,ys,us,vs,i,h1,h2,q=>by
  obtain⟨x,xs,u,us,rfl,rfl,hx,sx,h1⟩:=h1;obtain⟨y,ys,v,vs,rfl,rfl,hy,sy,h2⟩:=h2;rw[lh];refine kat_cons (zr0 sx sy ?_);rw[z1q]at q;cases e:eqD x y with
  |true=>rw[e,if_pos rfl]at q;exact kat_yes (zix (i+1) h1 h2 q)
  |false=>rw[e,if_neg bu]at q;exact kat_no (zqv _ sx sy q)
theorem z64:∀{bs:List Bool} {xs:List D} {us:List Value},ScVs bs xs us->us.length=bs.length
 | [],_,_,h=>by rw[h.2];rfl
 |b::bs,_,_,h=>by obtain⟨x,r,u,t,rfl,rfl,_,_,h⟩:=h;rw[br,br,z64 h]
theorem z0w.some {P:ba}{w:World}{H:Hp}{h:Heap}{a:Addr}{o:HO}(x:z0w P w H h a o):∃q,h.get? a=some q:=by
 cases o with
 |lst xs=>obtain⟨_,_,_,_,e⟩:=x;exact⟨_,e⟩
 |tup xs=>obtain⟨_,_,_,_,e⟩:=x;exact⟨_,e⟩
 |dK kvs=>obtain⟨_,_,_,_,o,_,_,e,_⟩:=x;exact⟨_,e⟩
 |dT kvs=>obtain⟨_,_,_,_,o,_,_,e,_⟩:=x;exact⟨_,e⟩
 |set S n=>obtain⟨ob,es,ep,t,e,c⟩:=x;exact⟨_,e⟩
 |ins C dx fs=>obtain⟨d,z,ne,e,_⟩:=x;exact⟨_,e⟩
 |own y=>exact x
 |xd fs=>obtain⟨mA,⟨od,es,ep,e,c⟩,r⟩:=x;exact⟨_,e⟩
 |rng lo hi=>obtain⟨t,u,v,e⟩:=x;exact⟨_,e⟩
 |frz ob u=>exact⟨_,x.1⟩
 |tbl ps=>exact⟨_,x⟩
 |met f y=>exact⟨_,x⟩
 |ext φ=>obtain⟨p,⟨o,e⟩,st⟩:=x;exact⟨_,e⟩
theorem _root_.L2.Inv.laidF {X:Cx}{pins:List (Addr×Obj)}{σ:L2.St}{H:Hp}{s:ac}{h':Heap}{D:Addr}{o:HO}{t':Nat}{m:Str->Option Value}(I:Inv X pins σ H s)(hm:s.heap.Ns X.env.locals m)(hn':h'.Ns X.env.locals m)
  (kp:∀b u,b≠X.env.locals->s.heap.get? b=some u->h'.get? b=some u) (hD:s.heap.get? D=none) (new:z0w X.prog X.w (upd H D o) h' D o):Inv X pins σ (upd H D o) {s with heap:=h',toks:=t'}:=by
 have hH:H D=none:=by
  cases e:H D with
  |none=>rfl
  |some u=>obtain⟨q,hq⟩:=z0w.some (I.hok D u e);rw[hD]at hq;cases hq
 refine I.step (g':=s.gens) (d':=s.drawn) (ch:=[]) (fun _ z=>nomatch z) (fun b q hL _ _ e _=>kp b q hL e) (fun b q hL _ _ e _=>⟨q.slots,kp b q hL e⟩) (fun b q _ e n=>?_) (fun b q _ e=>?_) (fun b xs q=>by rw[z05 (z06 q hH)];exact q) (fun b u xs q=>by rw[z05 (z06 q hH)];exact q) (fun b ps q=>⟨#[],by rw[z05 (z06 q hH),q];simp⟩) (fun m' hm'=>?_) (fun b u e=>?_) I.bare
 ·rw[z05 (fun z=>by subst z;rw[hD]at e;cases e)];exact n
 ·by_cases hb:b=X.env.locals
  ·subst hb;obtain⟨o',_,_,ho',_⟩:=hn';exact⟨o',ho'⟩
  ·exact⟨q,kp b q hb e⟩
 ·rw[hm'.eq_nsMap,<-hm.eq_nsMap];exact hn'
 ·by_cases hb:b=D
  ·subst hb;rw[z0d]at e;cases e;exact new
  ·rw[z05 hb]at e;have nL:∀c v,H c=some v->c≠X.env.locals:=fun c v ec z=>by subst z;rw[I.free]at ec;cases ec
   refine(I.hok b u e).stay (fun c v hc q=>kp c v ?_ q) (fun c q=>by rw[z05 (z06 q hH)];exact q) fun c xs q=>by rw[z05 (z06 q hH)];exact q
   rcases hc with rfl|hc
   ·exact nL _ _ e
   ·exact nL _ _ hc
theorem z4p {vs:List V}{us:List Value}(r:Vals vs us):∀(is:List Nat),(∀i∈is,i<vs.length)->Vals (is.map fun i=>vs.getD i .non) (is.map fun i=>us.getD i Value.none)
 | [],_=>.nil
 |i::is,h=>by
  have hi:i<vs.length:=h i (by simp);obtain⟨u,hu,ru⟩:=r.get (i:=i) (x:=vs[i]) (by simp[hi]);have e1:vs.getD i .non=vs[i]:=by simp[hi]
  have e2:us.getD i Value.none=u:=by rw[bo,hu];rfl
  rw[a9,a9,e1,e2];exact .cons ru (z4p r is fun j hj=>h j (by simp[hj]))
theorem z4m {K:W.Frag}{H:Hp}{B:Ad->Prop}{vs:List V}{ds:List D}(r:Reps K H B vs ds):∀(is:List Nat),(∀i∈is,i<ds.length)->Reps K H B (is.map fun i=>vs.getD i .non) (is.map fun i=>ds.getD i .none)
 | [],_=>rfl
 |i::is,h=>by
  have hi:i<ds.length:=h i (by simp);obtain⟨v,hv,rv⟩:=r.get (i:=i) (d:=ds[i]) (by simp[hi]);have e1:ds.getD i .none=ds[i]:=by simp[hi]
  have e2:vs.getD i .non=v:=by rw[bo,hv];rfl
  rw[a9,a9,e1,e2];exact Reps.cons rv (z4m r is fun j hj=>h j (by simp[hj]))
section
variable {X:Cx}
theorem z2a {pins:List (Addr×Obj)}{s:ac}{σ:L2.St}{H:Hp}{Q:VK}{p:D->Prop}(O:OrdOn p)(I:Inv X pins σ H s){a:Addr}{vs:List V}{its:List Value}{ys:List D}{B:Ad->Prop}
  (hl:s.heap.IsList a its.toArray) (rv:Vals vs its) (rs:Reps X.K H B vs ys) (h2:2<=ys.length) (h64:ys.length<64) (hp:∀d∈ys,p d)
  (ask:∀h':Heap,(∀b o,b≠X.env.locals->s.heap.get? b=some o->h'.get? b=some o)->wpAny (model X.prog X.w) X.A.in1.in1 (uo its.toArray) (fun κ s'=>s'={s with heap:=h'}/\∀i j (C:Bool->ac->Prop),i<ys.length->j<ys.length->C (ltD (ys.getD i .none) (ys.getD j .none)) {s with heap:=h'}->kas_ask X.prog X.w X.A.in1.in1 κ its i j C {s with heap:=h'}) (fun _ _=>False) {s with heap:=h'})
  (q:∀w H',Same H H'->Rep X.K H' (fun a=>nw H a\/(imms ys=false/\B a)) w (.list (z1e ys))->Q w H'):
  wpAny (model X.prog X.w) X.A (call (.builtin "sorted") [.ref a]) (EP X pins σ Q) X.xe s:=by
 have l1:vs.length=ys.length:=rs.length;have l2:vs.length=its.length:=rv.length;obtain⟨m,hNs,_⟩:=id I.loc;have F:Fr X.base X.env.locals s.heap m:=⟨hNs,I.bk,bx I.ok.bsz I.ok.above⟩;refine kat_sorted F (za8 (h:=s.heap)) hl (by omega) (by omega) fun D e1 h' F' N' lts=>?_
 have kpOf:∀{h'':Heap} {o:Obj},Fr X.base X.env.locals h'' m->News X.base X.env.locals h'' ((D,o)::z49 X.base s.heap X.env.locals)->∀b o,b≠X.env.locals->s.heap.get? b=some o->h''.get? b=some o:=fun F'' N'' b o hb e=>by
  cases qq:X.base.get? b with
  |some u=>have:=I.bk b u qq;rw[e]at this;cases this;exact F''.keep b _ qq
  |none=>exact(N'' (b,o) (au _ (z30 hb qq e))).1
 have hDn:=N' (D,dm "list" #[] e1) ak
 have hD:s.heap.get? D=none:=by
  cases e:s.heap.get? D with
  |none=>rfl
  |some o=>exact absurd (lts (D,o) (z30 hDn.2.1 hDn.2.2 e)) (ci _)
 have hHD:H D=none:=by
  cases e:H D with
  |none=>rfl
  |some u=>obtain⟨q,hq⟩:=z0w.some (I.hok D u e);rw[hD]at hq;cases hq
 refine thn (ask h' (kpOf F' N')) fun κ s' zz=>?_;obtain⟨es,hask⟩:=zz;subst es;have el:its.length=ys.length:=by omega
 rw[el];refine z3l (n:=ys.length) (lt:=ltk (rank ys)) (P:=fun s'=>s'={s with heap:=h'}) (fun i j C s' hi hj e hC=>?_) (kas_sort ys.length) _ (z7m (by omega)) rfl fun s' e=>?_
 ·subst e;refine hask i j C hi hj ?_;rw[<-z8s O hp hi hj];exact hC _ rfl
 ·subst e;refine⟨_,_,F',N',.head (fun p hp=>b7 (lts p hp)),fun h'' c F'' N''=>?_⟩;have hD2:=(N'' _ ak).1;have out:=zak O hp (by omega);obtain⟨_,hperm⟩:=z4w (key:=rank ys) ys.length (by omega);generalize runT (ltk (rank ys)) (kas_sort ys.length)=pm at out hperm hD2 ⊢;have hin:∀i∈pm.toList,i<ys.length:=fun i hi=>by have:=(hperm.toList.mem_iff (a:=i)).mp hi;simpa using this
  have lnn:(pm.toList.map fun i=>vs.getD i .non).length=ys.length:=by rw[af];have:=hperm.toList.length_eq;simpa using this
  have new:z0w X.prog X.w (upd H D (.lst (pm.toList.map fun i=>vs.getD i .non))) h'' D (.lst (pm.toList.map fun i=>vs.getD i .non)):=⟨by rw[lnn,dq];omega,_,c,z4p rv pm.toList (fun i hi=>by rw[l1];exact hin i hi),hD2⟩;have I2:=I.laidF (t':=s.toks) hNs F''.ns (kpOf F'' N'') hD new;refine⟨.ref D,_,I2,rfl,q _ _ (Same.upd hHD) ?_⟩;rw[<-out];exact z1l hHD (z4m (Reps.aggB rs) pm.toList hin) (fun _ z=>z) (.inl hHD)
end
section
variable {X:Cx}
theorem z93 {K:W.Frag}{H:Hp}{B:Ad->Prop}{vs:List V}{ys:List D}{its:List Value}(rs:Reps K H B vs ys)(rv:Vals vs its){i:Nat}(hi:i<ys.length):∃v,Rep K H B v (ys.getD i .none)/\RelV v (its.getD i Value.none)/\its[i]?=some (its.getD i Value.none):=by
 obtain⟨v,h1,h2⟩:=rs.get (i:=i) (d:=ys[i]) (by simp[hi]);obtain⟨u,h3,h4⟩:=rv.get h1;have e1:ys.getD i .none=ys[i]:=by simp[hi]
 have e2:its.getD i Value.none=u:=by rw[bo,h3];rfl
 rw[e1,e2];exact⟨v,h2,h4,h3⟩
theorem zra {its:List Value}{u:Value}(h:u∈its):∃i,i<its.length/\its.getD i Value.none=u:=by obtain⟨i,hi,e⟩:=List.getElem_of_mem h;exact⟨i,hi,by rw[<-e];simp[hi]⟩
theorem z9x {H:Hp}{B:Ad->Prop}{s:ac}{vs:List V}{ys:List D}{its:List Value}(b:Bool)(hy:∀d∈ys,ofK b d=true)(rs:Reps X.K H B vs ys)(rv:Vals vs its)(h2:2<=ys.length)(h':Heap){A:b6}:
  wpAny (model X.prog X.w) A (uo its.toArray) (fun κ s'=>s'={s with heap:=h'}/\∀i j (C:Bool->ac->Prop),i<ys.length->j<ys.length->C (ltD (ys.getD i .none) (ys.getD j .none)) {s with heap:=h'}->kas_ask X.prog X.w A κ its i j C {s with heap:=h'}) (fun _ _=>False) {s with heap:=h'}:=by
 have hl:its.length=ys.length:=by rw[<-rv.length,rs.length]
 have sc:∀i,i<ys.length->ScV b (ys.getD i .none) (its.getD i Value.none):=fun i hi=>by obtain⟨v,h1,h2,_⟩:=z93 rs rv hi;exact zjb (hy _ (by rw[bo,bq hi];exact fg hi)) h1 h2
 have ty:∀u∈its,Looks (model X.prog X.w) h' (vm u) (.type (if b then "int"else "str")):=fun u hu=>by
  obtain⟨i,hi,rfl⟩:=zra hu;have:=sc i (by omega);cases b with
  |true=>obtain⟨k,t,_,e⟩:=this;rw[e];exact Looks.of_pure rfl
  |false=>obtain⟨k,t,_,e⟩:=this;rw[e];exact Looks.of_pure rfl
 refine kas_kind (T:=.type (if b then "int"else "str")) (by omega) ty (by cases b<;>decide) (by cases b<;>decide) ⟨rfl,fun i j C hi hj hC=>?_⟩;show wpAny _ _ (keyLt' oneType' _ _) C _ _;rw[keyLt'_oneType];exact zqv true (sc i hi) (sc j hj) hC
theorem zpw {pins:List (Addr×Obj)}{σ:L2.St}{H:Hp}{B:Ad->Prop}{s:ac}(I:Inv X pins σ H s){h':Heap}(kp:∀b o,s.heap.get? b=some o->o.cls=.type "tuple"->b≠X.env.locals->h'.get? b=some o)(b:Bool)(bs:List Bool):
  ∀{ys:List D} {vs:List V} {its:List Value},(∀d∈ys,z2y (b::bs) d=true)->Reps X.K H B vs ys->Vals vs its->∃fs,KatTups h' its fs/\fs.length=its.length/\∀f∈fs,∃x,ScV b x f
 | [],vs,its,_,r,rv=>by have e:vs=[]:=r;subst e;cases rv;exact⟨[],trivial,rfl,fun _ z=>nomatch z⟩
 |y::ys,vs,its,hy,r,rv=>by
  obtain⟨v,t,rfl,r1,r2⟩:=r;cases rv with
  |cons a c=>
   obtain⟨fs,k1,k2,k3⟩:=zpw I kp b bs (fun d hd=>hy d (by simp[hd])) r2 c;obtain⟨xs,rfl,hs⟩:=z0y (hy y (by simp));obtain⟨ad,ws,rfl,sq,rw'⟩:=r1;cases a;obtain⟨jts,rj,pt,_⟩:=I.tuple sq;obtain⟨o,ho,hc,n,hd⟩:=pt;have hne:ad≠X.env.locals:=by intro z;subst z;obtain⟨_,⟨o',es,ep,ho',hd',_⟩,_⟩:=id I.loc;rw[ho]at ho';cases ho';rw[hd]at hd';cases hd'
   have sc:=z8h hs rw' rj;obtain⟨x,r,u,t',rfl,rfl,_,sx,_⟩:=sc;exact⟨u::fs,KatTups.cons (kp _ _ ho hc hne) hc hd (by simp) k1,by simp[k2],fun f hf=>(aw.mp hf).elim (fun z=>⟨x,by rw[z];exact sx⟩) (k3 f)⟩
theorem zj5 {pins:List (Addr×Obj)}{σ:L2.St}{H:Hp}{B:Ad->Prop}{s:ac}(I:Inv X pins σ H s){vs:List V}{ys:List D}{its:List Value}(b:Bool)(bs:List Bool)(hy:∀d∈ys,z2y (b::bs) d=true)(rs:Reps X.K H B vs ys)(rv:Vals vs its)(h2:2<=ys.length){h':Heap}(kp:∀b o,s.heap.get? b=some o->o.cls=.type "tuple"->b≠X.env.locals->h'.get? b=some o){A:b6}:
  wpAny (model X.prog X.w) A (uo its.toArray) (fun κ s'=>s'={s with heap:=h'}/\∀i j (C:Bool->ac->Prop),i<ys.length->j<ys.length->C (ltD (ys.getD i .none) (ys.getD j .none)) {s with heap:=h'}->kas_ask X.prog X.w A κ its i j C {s with heap:=h'}) (fun _ _=>False) {s with heap:=h'}:=by
 have hl:its.length=ys.length:=by rw[<-rv.length,rs.length]
 obtain⟨fs,k1,k2,k3⟩:=zpw I kp b bs hy rs rv
 have ty:∀u∈fs,Looks (model X.prog X.w) h' (vm u) (.type (if b then "int"else "str")):=fun u hu=>by
  obtain⟨x,this⟩:=k3 u hu;cases b with
  |true=>obtain⟨k,t,_,e⟩:=this;rw[e];exact Looks.of_pure rfl
  |false=>obtain⟨k,t,_,e⟩:=this;rw[e];exact Looks.of_pure rfl
 have part:∀i,i<ys.length->∃ad xs o jts n,its.getD i Value.none=.ref ad/\ys.getD i .none=.tuple xs/\h'.get? ad=some o/\o.data=.seq (jb jts) n/\ScVs (b::bs) xs jts:=fun i hi=>by
  obtain⟨v,r1,r2,_⟩:=z93 rs rv hi;obtain⟨xs,ex,hs⟩:=z0y (hy (ys.getD i .none) (by rw[bo,bq hi];exact fg hi));rw[ex]at r1;obtain⟨ad,ws,rfl,sq,rw'⟩:=r1;obtain⟨jts,rj,⟨o,ho,hc,n,hd⟩,_⟩:=I.tuple sq;have hne:ad≠X.env.locals:=by intro z;subst z;obtain⟨_,⟨o',es,ep,ho',hd',_⟩,_⟩:=id I.loc;rw[ho]at ho';cases ho';rw[hd]at hd';cases hd'
  exact⟨ad,xs,o,jts,n,r2,ex,kp _ _ ho hc hne,hd,z8h hs rw' rj⟩
 refine kat_kind (T:=.type (if b then "int"else "str")) k1 (by omega) ty (by cases b<;>decide) ⟨rfl,fun i j C hi hj hC=>?_⟩;obtain⟨ai,xi,oi,ji,ni,e1,e2,e3,e4,e5⟩:=part i hi;obtain⟨aj,xj,oj,jj,nj,f1,f2,f3,f4,f5⟩:=part j hj;show wpAny _ _ (keyLt' _ (its.getD i Value.none) (its.getD j Value.none)) C _ _;rw[e1,f1];refine kat_lt e3 e4 f3 f4 ?_;have ef:decide ((jb ji).size<(jb jj).size)=false:=by rw[ao,ao,z64 e5,z64 f5];simp
 rw[ef];rw[e2,f2,z3p]at hC;exact zix 0 e5 f5 hC
end
def LtAt (A:b6)(s:ac)(a b:Value)(r:Bool):Prop:=∀(prog:ba) (w:World) (E:Value->ac->Prop) (Q:Value->ac->Prop),Q (.bool r) s->wpAny (model prog w) A (richCompare .Lt a b) Q E s
def TLex (A:b6)(s:ac)(fin:Bool):List (Value×Value)->Bool->Prop
 | [],r=>r=fin
 |(p,q)::l,r=>∃e,SeqAt.EqAt A s p q e/\if e=true then TLex A s fin l r else LtAt A s p q r
theorem zm8 {prog:ba}{w:World}{A:b6}{E:Value->ac->Prop}{s:ac}{a b:Addr}{oa ob:Obj}{xs ys:Array Value}{na nb:Nat}{r:Bool}{P:PySem.Fin->ac->Prop}
  (ha:s.heap.get? a=some oa) (da:oa.data=.seq xs na) (hb:s.heap.get? b=some ob) (cb:ob.cls=.type "tuple") (db:ob.data=.seq ys nb) (h:TLex A s (decide (xs.size<ys.size)) (xs.toList.zip ys.toList) r) (q:P (.done (.ret (.bool r))) s):
  wpAny (model prog w) A (Builtin.«tuple.__lt__» ⟨[.ref a,.ref b],[]⟩) P E s:=by
 have nT:¬(!true)=true:=bu;have yF:(!false)=true:=rfl;refine aa (m:=isInstance (.ref b) (.type "tuple")) (pi ⟨ob,hb,cb⟩ isSubtype_tuple_tuple ?_);rw[if_neg nT];refine aa (tz ha da (aa (tz hb db (aa ?_))));refine wpAny_forIn_list _ (fun l z s'=>z.1=none/\s'=s/\TLex A s (decide (xs.size<ys.size)) l r) _ ?_ ?_ _ _ ⟨rfl,rfl,h⟩
 ·rintro⟨u,v⟩ l z s' ⟨hz,rfl,e,he,ht⟩
  refine aa (he prog w _ _ ?_);cases e with
  |true=>rw[if_pos rfl]at ht;show wpAny _ _ (ite ((!true)=true) _ _) _ _ _;rw[if_neg nT];exact aq ⟨rfl,rfl,ht⟩
  |false=>rw[if_neg bu]at ht;show wpAny _ _ (ite ((!false)=true) _ _) _ _ _;rw[if_pos yF];refine aa (lf (aa (ht prog w _ _ (aa (aq ?_)))));exact aq (aq q)
 ·rintro⟨z,z'⟩ s' ⟨hz,rfl,ht⟩
  simp only at hz;subst hz;have hr:r=decide (xs.size<ys.size):=ht;rw[hr]at q;exact aq q
theorem zpt {A:b6}{s:ac}{a b:Addr}{oa ob:Obj}{xs ys:Array Value}{na nb:Nat}{r:Bool}(hu:A.units<cLine)(ha:s.heap.get? a=some oa)(ca:oa.cls=.type "tuple")(da:oa.data=.seq xs na)(hb:s.heap.get? b=some ob)(cb:ob.cls=.type "tuple")(db:ob.data=.seq ys nb)
  (h:TLex A.in1 s (decide (xs.size<ys.size)) (xs.toList.zip ys.toList) r):LtAt A s (.ref a) (.ref b) r:=fun prog w E Q q=>
 wpAny_richCompare_same_room ⟨oa,ha,ca⟩ ⟨ob,hb,cb⟩ F.slot_tuple_lt (e8 F.slot_tuple_lt ⟨oa,ha,ca⟩ F.entry_tuple_lt (zm8 ha da hb cb db h ⟨_,rfl,by simp,q⟩) (F.args_tuple_lt_2 _ _)) hu
theorem in1_units (A:b6):A.in1.units=A.units+1:=rfl
mutual
theorem z9o:∀(x y:ah) {A:b6} {s:ac} {a b:Value} {as bs:List Addr},Reads s.heap a x as->Reads s.heap b y bs->x.canLay0=true->y.canLay0=true->cmpb x y=true->A.units+x.depth+1<cLine->LtAt A s a b (ltD x y)
 |.int i,y,A,s,a,b,as,bs,ra,rb,ha,hb,hc,hu=>by
  cases y<;>try (cases hc;done)
  cases ra;cases rb;exact fun prog w E Q q=>PyProof.Rows.lt_int q
 |.str i,y,A,s,a,b,as,bs,ra,rb,ha,hb,hc,hu=>by
  cases y<;>try (cases hc;done)
  cases ra;cases rb;exact fun prog w E Q q=>PyProof.Rows.lt_str q
 |.tuple xs,y,A,s,a,b,as,bs,ra,rb,ha,hb,hc,hu=>by
  cases y<;>try (cases hc;done)
  rename_i ys;cases ra with
  |tuple h1 h2 h3 h4=>
   cases rb with
   |tuple k1 k2 k3 k4=>refine zpt (by omega) h1 h2 h3 k1 k2 k3 ?_;have e1:=SeqAt.ReadsAll.length _ _ _ h4;have e2:=SeqAt.ReadsAll.length _ _ _ k4;rw[<-ck,<-ck,e1,e2];exact z74 xs ys h4 k4 ha hb hc (by rw[in1_units];simp only[PyData.depth]at hu;omega)
 |.none,y,A,s,a,b,as,bs,ra,rb,ha,hb,hc,hu=>by cases hc
 |.bool _,y,A,s,a,b,as,bs,ra,rb,ha,hb,hc,hu=>by cases hc
 |.list _,y,A,s,a,b,as,bs,ra,rb,ha,hb,hc,hu=>by cases hc
 |.dict _,y,A,s,a,b,as,bs,ra,rb,ha,hb,hc,hu=>by cases hc
theorem z74:∀(xs ys:List ah) {A:b6} {s:ac} {us vs:List Value} {as bs:List Addr},pe s.heap us xs as->pe s.heap vs ys bs->PyData.canLayAll0 xs=true->PyData.canLayAll0 ys=true->z37 xs ys=true->A.units+PyData.depthAll xs+1<cLine->TLex A s (decide (xs.length<ys.length)) (us.zip vs) (ltDs xs ys)
 | [],ys,A,s,us,vs,as,bs,ra,rb,ha,hb,hc,hu=>by
  cases ra;cases rb with
  |nil=>exact rfl
  |cons _ _=>exact rfl
 |x::xs,ys,A,s,us,vs,as,bs,ra,rb,ha,hb,hc,hu=>by
  cases ra with
  |cons r1 r2=>
   cases rb with
   |nil=>exact rfl
   | @cons v vs' y ys' _ _ k1 k2=>
    rw[PyData.canLayAll0,ax]at ha hb;rw[z37,ax]at hc;simp only[PyData.depthAll]at hu;refine⟨eqD x y,SeqAt.eqAt_reads _ _ _ _ _ _ _ _ r1 k1 ha.1 hb.1 (by omega),?_⟩;rw[z1q];cases e:eqD x y with
    |true=>
     rw[if_pos rfl,if_pos rfl];have el:decide ((x::xs).length<(y::ys').length)=decide (xs.length<ys'.length):=by simp
     rw[el];exact z74 xs ys' r2 k2 ha.2 hb.2 hc.2 (by omega)
    |false=>rw[if_neg bu,if_neg bu];exact z9o x y r1 k1 ha.1 hb.1 hc.1 (by omega)
end
structure OrdE (p:D->Prop):Prop extends OrdOn p where
 eq:∀x y,p x->p y->(eqD x y=true↔x=y)
structure OrdL (q:List D->Prop):Prop where
 irr:∀x,q x->ltDs x x=false
 tr:∀x y z,q x->q y->q z->ltDs x y=true->ltDs y z=true->ltDs x z=true
 ntr:∀x y z,q x->q y->q z->ltDs x z=true->ltDs x y=true\/ltDs y z=true
 tot:∀x y,q x->q y->ltDs x y=false->ltDs y x=false->x=y
 eq:∀x y,q x->q y->(PyData.eqvAll x y=true↔x=y)
section
variable {p:D->Prop}(O:OrdE p){x y z:D}{xs ys zs:List D}
include O
theorem l_eq (hx:p x)(hy:p y)(h:x=y):ltDs (x::xs) (y::ys)=ltDs xs ys:=by rw[z1q,if_pos ((O.eq x y hx hy).mpr h)]
theorem l_ne (hx:p x)(hy:p y)(h:x≠y):ltDs (x::xs) (y::ys)=ltD x y:=by rw[z1q,if_neg fun z=>h ((O.eq x y hx hy).mp z)]
theorem l_tr (hx:p x)(hy:p y)(hz:p z)(ih:ltDs xs ys=true->ltDs ys zs=true->ltDs xs zs=true)(e1:ltDs (x::xs) (y::ys)=true)(e2:ltDs (y::ys) (z::zs)=true):ltDs (x::xs) (z::zs)=true:=by
 by_cases xy:x=y
 ·rw[l_eq O hx hy xy]at e1;by_cases yz:y=z
  ·rw[l_eq O hy hz yz]at e2;rw[l_eq O hx hz (xy.trans yz)];exact ih e1 e2
  ·rw[l_ne O hy hz yz]at e2;rw[l_ne O hx hz (by rw[xy];exact yz),xy];exact e2
 ·rw[l_ne O hx hy xy]at e1;by_cases yz:y=z
  ·rw[l_ne O hx hz (by rw[<-yz];exact xy),<-yz];exact e1
  ·rw[l_ne O hy hz yz]at e2;have e3:=O.tr x y z hx hy hz e1 e2;rw[l_ne O hx hz (fun q=>by subst q;rw[O.irr x hx]at e3;cases e3)];exact e3
theorem zql (hx:p x)(hy:p y)(hz:p z)(ih:ltDs xs zs=true->ltDs xs ys=true\/ltDs ys zs=true)(e:ltDs (x::xs) (z::zs)=true):ltDs (x::xs) (y::ys)=true\/ltDs (y::ys) (z::zs)=true:=by
 by_cases xz:x=z
 ·rw[l_eq O hx hz xz]at e;by_cases xy:x=y
  ·rw[l_eq O hx hy xy,l_eq O hy hz (xy.symm.trans xz)];exact ih e
  ·rw[l_ne O hx hy xy,l_ne O hy hz (fun q=>xy (xz.trans q.symm)),<-xz];cases e1:ltD x y with
   |true=>exact .inl rfl
   |false=>
    cases e2:ltD y x with
    |true=>exact .inr rfl
    |false=>exact(xy (O.tot x y hx hy e1 e2)).elim
 ·rw[l_ne O hx hz xz]at e;by_cases xy:x=y
  ·rw[l_ne O hy hz (fun q=>xz (xy.trans q)),<-xy];exact .inr e
  ·rw[l_ne O hx hy xy];by_cases yz:y=z
   ·rw[yz];exact .inl e
   ·rw[l_ne O hy hz yz];exact O.ntr x y z hx hy hz e
theorem zsb (hx:p x)(hy:p y)(ih:ltDs xs ys=false->ltDs ys xs=false->xs=ys)(e1:ltDs (x::xs) (y::ys)=false)(e2:ltDs (y::ys) (x::xs)=false):x::xs=y::ys:=by
 by_cases xy:x=y
 ·rw[l_eq O hx hy xy]at e1;rw[l_eq O hy hx xy.symm]at e2;rw[xy,ih e1 e2]
 ·rw[l_ne O hx hy xy]at e1;rw[l_ne O hy hx (fun q=>xy q.symm)]at e2;exact(xy (O.tot x y hx hy e1 e2)).elim
theorem zor (hx:p x)(hy:p y)(ih:PyData.eqvAll xs ys=true↔xs=ys):PyData.eqvAll (x::xs) (y::ys)=true↔x::xs=y::ys:=by rw[PyData.eqvAll,ax,ih,List.cons.injEq];exact and_congr (O.eq x y hx hy) Iff.rfl
end
theorem OrdL.nil:OrdL (fun l=>l=[]) where
 irr:=fun x h=>by rw[h];exact z1k
 tr:=fun x y z h1 h2 h3 e1 e2=>by rw[h1,h2,z1k]at e1;cases e1
 ntr:=fun x y z h1 h2 h3 e=>by rw[h1,h3,z1k]at e;cases e
 tot:=fun x y h1 h2 _ _=>h1.trans h2.symm
 eq:=fun x y h1 h2=>by rw[h1,h2];exact⟨fun _=>rfl,fun _=>rfl⟩
theorem OrdL.cons {p:D->Prop}{q:List D->Prop}(O:OrdE p)(L:OrdL q):OrdL (fun l=>∃x r,l=x::r/\p x/\q r) where
 irr:=fun l h=>by obtain⟨x,r,rfl,hx,hr⟩:=h;rw[l_eq O hx hx rfl];exact L.irr r hr
 tr:=fun l1 l2 l3 h1 h2 h3=>by obtain⟨x,r,rfl,hx,hr⟩:=h1;obtain⟨y,t,rfl,hy,ht⟩:=h2;obtain⟨z,u,rfl,hz,hu⟩:=h3;exact l_tr O hx hy hz (L.tr _ _ _ hr ht hu)
 ntr:=fun l1 l2 l3 h1 h2 h3=>by obtain⟨x,r,rfl,hx,hr⟩:=h1;obtain⟨y,t,rfl,hy,ht⟩:=h2;obtain⟨z,u,rfl,hz,hu⟩:=h3;exact zql O hx hy hz (L.ntr _ _ _ hr ht hu)
 tot:=fun l1 l2 h1 h2=>by obtain⟨x,r,rfl,hx,hr⟩:=h1;obtain⟨y,t,rfl,hy,ht⟩:=h2;exact zsb O hx hy (L.tot _ _ hr ht)
 eq:=fun l1 l2 h1 h2=>by obtain⟨x,r,rfl,hx,hr⟩:=h1;obtain⟨y,t,rfl,hy,ht⟩:=h2;exact zor O hx hy (L.eq _ _ hr ht)
theorem zkb {ys:List D}(h:ltDs [] ys=true):∃y r,ys=y::r:=by
 cases ys with
 |nil=>rw[z1k]at h;cases h
 |cons y r=>exact⟨y,r,rfl⟩
theorem z4a (y:D)(r:List D):ltDs [] (y::r)=true:=by simp[ltDs]
theorem z6g (y:D)(r:List D):ltDs (y::r) []=false:=by simp[ltDs]
section
variable {p:D->Prop}(O:OrdE p)
include O
theorem zs2:∀xs:List D,(∀x∈xs,p x)->ltDs xs xs=false
 | [],_=>z1k
 |x::xs,h=>by rw[l_eq O (h x (by simp)) (h x (by simp)) rfl];exact zs2 xs fun z hz=>h z (by simp[hz])
theorem a_tr:∀xs ys zs:List D,(∀x∈xs,p x)->(∀x∈ys,p x)->(∀x∈zs,p x)->ltDs xs ys=true->ltDs ys zs=true->ltDs xs zs=true
 | [],ys,zs,h1,h2,h3,e1,e2=>by
  obtain⟨y,r,rfl⟩:=zkb e1;cases zs with
  |nil=>rw[z6g]at e2;cases e2
  |cons z t=>exact z4a z t
 |x::xs,[],zs,h1,h2,h3,e1,e2=>by rw[z6g]at e1;cases e1
 |x::xs,y::ys,[],h1,h2,h3,e1,e2=>by rw[z6g]at e2;cases e2
 |x::xs,y::ys,z::zs,h1,h2,h3,e1,e2=>l_tr O (h1 x (by simp)) (h2 y (by simp)) (h3 z (by simp)) (a_tr xs ys zs (fun w hw=>h1 w (by simp[hw])) (fun w hw=>h2 w (by simp[hw])) fun w hw=>h3 w (by simp[hw])) e1 e2
theorem zph:∀xs ys zs:List D,(∀x∈xs,p x)->(∀x∈ys,p x)->(∀x∈zs,p x)->ltDs xs zs=true->ltDs xs ys=true\/ltDs ys zs=true
 | [],[],zs,h1,h2,h3,e=>.inr e
 | [],y::ys,zs,h1,h2,h3,e=>.inl (z4a y ys)
 |x::xs,ys,[],h1,h2,h3,e=>by rw[z6g]at e;cases e
 |x::xs,[],z::zs,h1,h2,h3,e=>.inr (z4a z zs)
 |x::xs,y::ys,z::zs,h1,h2,h3,e=>zql O (h1 x (by simp)) (h2 y (by simp)) (h3 z (by simp)) (zph xs ys zs (fun w hw=>h1 w (by simp[hw])) (fun w hw=>h2 w (by simp[hw])) fun w hw=>h3 w (by simp[hw])) e
theorem zq3:∀xs ys:List D,(∀x∈xs,p x)->(∀x∈ys,p x)->ltDs xs ys=false->ltDs ys xs=false->xs=ys
 | [],[],h1,h2,e1,e2=>rfl
 | [],y::ys,h1,h2,e1,e2=>by rw[z4a]at e1;cases e1
 |x::xs,[],h1,h2,e1,e2=>by rw[z4a]at e2;cases e2
 |x::xs,y::ys,h1,h2,e1,e2=>zsb O (h1 x (by simp)) (h2 y (by simp)) (zq3 xs ys (fun w hw=>h1 w (by simp[hw])) fun w hw=>h2 w (by simp[hw])) e1 e2
theorem a_eq:∀xs ys:List D,(∀x∈xs,p x)->(∀x∈ys,p x)->(PyData.eqvAll xs ys=true↔xs=ys)
 | [],[],h1,h2=>⟨fun _=>rfl,fun _=>rfl⟩
 | [],y::ys,h1,h2=>⟨fun h=>by simp[PyData.eqvAll]at h,fun h=>nomatch h⟩
 |x::xs,[],h1,h2=>⟨fun h=>by simp[PyData.eqvAll]at h,fun h=>nomatch h⟩
 |x::xs,y::ys,h1,h2=>zor O (h1 x (by simp)) (h2 y (by simp)) (a_eq xs ys (fun w hw=>h1 w (by simp[hw])) fun w hw=>h2 w (by simp[hw]))
theorem OrdL.all:OrdL (fun l=>∀x∈l,p x):=⟨zs2 O,a_tr O,zph O,zq3 O,a_eq O⟩
end
theorem OrdL.tup {q:List D->Prop}(L:OrdL q):OrdE (fun d=>∃l,d=.tuple l/\q l) where
 irr:=fun d h=>by obtain⟨l,rfl,h⟩:=h;exact L.irr l h
 tr:=fun x y z h1 h2 h3=>by obtain⟨l,rfl,h1⟩:=h1;obtain⟨m,rfl,h2⟩:=h2;obtain⟨n,rfl,h3⟩:=h3;exact L.tr l m n h1 h2 h3
 ntr:=fun x y z h1 h2 h3=>by obtain⟨l,rfl,h1⟩:=h1;obtain⟨m,rfl,h2⟩:=h2;obtain⟨n,rfl,h3⟩:=h3;exact L.ntr l m n h1 h2 h3
 tot:=fun x y h1 h2 e1 e2=>by obtain⟨l,rfl,h1⟩:=h1;obtain⟨m,rfl,h2⟩:=h2;rw[L.tot l m h1 h2 e1 e2]
 eq:=fun x y h1 h2=>by obtain⟨l,rfl,h1⟩:=h1;obtain⟨m,rfl,h2⟩:=h2;show PyData.eqvAll l m=true↔_;rw[L.eq l m h1 h2];exact⟨fun h=>by rw[h],fun h=>by cases h;rfl⟩
theorem OrdE.of {p q:D->Prop}(O:OrdE q)(h:∀d,p d->q d):OrdE p where
 irr:=fun x hx=>O.irr x (h x hx)
 tr:=fun x y z hx hy hz=>O.tr x y z (h x hx) (h y hy) (h z hz)
 ntr:=fun x y z hx hy hz=>O.ntr x y z (h x hx) (h y hy) (h z hz)
 tot:=fun x y hx hy=>O.tot x y (h x hx) (h y hy)
 eq:=fun x y hx hy=>O.eq x y (h x hx) (h y hy)
theorem zq6 (b:Bool):OrdE (fun x=>ofK b x=true):=⟨ordK b,fun _ _=>ze9⟩
theorem OrdL.sh:∀bs:List Bool,OrdL (fun l=>shps bs l=true)
 | []=>⟨fun x h=>OrdL.nil.irr x (z0n h),fun x y z h1 h2 h3=>OrdL.nil.tr x y z (z0n h1) (z0n h2) (z0n h3),fun x y z h1 h2 h3=>OrdL.nil.ntr x y z (z0n h1) (z0n h2) (z0n h3),fun x y h1 h2=>OrdL.nil.tot x y (z0n h1) (z0n h2),fun x y h1 h2=>OrdL.nil.eq x y (z0n h1) (z0n h2)⟩
 |b::bs=>by have L:=OrdL.cons (zq6 b) (OrdL.sh bs);exact⟨fun x h=>L.irr x (z0h h),fun x y z h1 h2 h3=>L.tr x y z (z0h h1) (z0h h2) (z0h h3),fun x y z h1 h2 h3=>L.ntr x y z (z0h h1) (z0h h2) (z0h h3),fun x y h1 h2=>L.tot x y (z0h h1) (z0h h2),fun x y h1 h2=>L.eq x y (z0h h1) (z0h h2)⟩
section
variable {X:Cx}{pins:List (Addr×Obj)}{σ:L2.St}{H:Hp}{s:ac}{B:Ad->Prop}{h':Heap}
mutual
theorem zcm (I:Inv X pins σ H s)(kp:∀b o,s.heap.get? b=some o->o.cls=.type "tuple"->b≠X.env.locals->h'.get? b=some o):∀{v:V} {u:Value} (d:ah) (n:Nat),cmpb d d=true->shal n d=true->Rep X.K H B v d->RelV v u->(∃as,Reads h' u d as)/\d.canLay0=true/\d.depth<=n
 |v,u,.int b,n,_,_,r,q=>by have e:v=.int b:=r;subst e;obtain⟨t,rfl⟩:=q;exact⟨⟨[],.int b t⟩,by simp only[PyData.canLay0],dj _⟩
 |v,u,.str b,n,_,_,r,q=>by obtain⟨e,ok⟩:v=.str b/\_:=r;subst e;obtain⟨t,rfl⟩:=q;exact⟨⟨[],.str b t⟩,by simp only[PyData.canLay0];exact ok,dj _⟩
 |v,u,.tuple ds,0,_,h,r,q=>by cases h
 |v,u,.tuple ds,n+1,hc,h,r,q=>by
  obtain⟨a,vs,e,h1,r1⟩:=r;subst e;cases q;obtain⟨its,rv,⟨o,ho,hcl,k,hd⟩,_⟩:=I.tuple h1;have hne:a≠X.env.locals:=fun z=>by subst z;obtain⟨_,⟨o',es,ep,ho',hd',_⟩,_⟩:=id I.loc;rw[ho]at ho';cases ho';rw[hd]at hd';cases hd'
  obtain⟨⟨as,ra⟩,c,dp⟩:=za4 I kp ds n hc h r1 rv;refine⟨⟨as,.tuple (kp _ _ ho hcl hne) hcl hd (by simpa using ra)⟩,by simp only[PyData.canLay0];exact c,?_⟩;simp only[PyData.depth];omega
 |v,u,.none,n,hc,h,r,q=>by cases hc
 |v,u,.bool _,n,hc,h,r,q=>by cases hc
 |v,u,.list _,n,hc,h,r,q=>by cases hc
 |v,u,.dict _,n,hc,h,r,q=>by cases hc
theorem za4 (I:Inv X pins σ H s)(kp:∀b o,s.heap.get? b=some o->o.cls=.type "tuple"->b≠X.env.locals->h'.get? b=some o):∀{vs:List V} {us:List Value} (ds:List ah) (n:Nat),z37 ds ds=true->z0m n ds=true->Reps X.K H B vs ds->Vals vs us->(∃as,pe h' us ds as)/\PyData.canLayAll0 ds=true/\PyData.depthAll ds<=n
 |vs,us,[],n,_,_,r,q=>by have e:vs=[]:=r;subst e;cases q;exact⟨⟨[],.nil⟩,by simp only[PyData.canLayAll0],dj _⟩
 |vs,us,d::ds,n,hc,h,r,q=>by
  obtain⟨v,t,e,h1,r1⟩:=r;subst e;rw[z0m,ax]at h;rw[z37,ax]at hc;cases q with
  |cons q1 q2=>obtain⟨⟨as,ra⟩,c,dp⟩:=zcm I kp d n hc.1 h.1 h1 q1;obtain⟨⟨bs,rb⟩,c2,dp2⟩:=za4 I kp ds n hc.2 h.2 r1 q2;refine⟨⟨as++bs,.cons ra rb⟩,by simp only[PyData.canLayAll0,c,c2,oz],?_⟩;simp only[PyData.depthAll];exact Nat.max_le.mpr ⟨dp,dp2⟩
end
end
def fstK (t:Bool):D->Bool
 |.tuple (.str _::_)=>!t
 |.tuple (.tuple _::_)=>t
 |_=>false
theorem lexN {prog:ba}{w:World}{A:b6}{s:ac}{b:Bool}{Q:Bool->ac->Prop}:∀(xs ys:List D) {us vs:List Value} {as bs:List Addr} (i:Nat),pe s.heap us xs as->pe s.heap vs ys bs->PyData.canLayAll0 xs=true->PyData.canLayAll0 ys=true->z37 xs ys=true->A.units+PyData.depthAll xs+1<cLine->
  (b=true->i=0->∀x r,xs=x::r->isS x=true)->Q (ltDs xs ys) s->KatLex prog w A b (decide (xs.length<ys.length)) Q (us.zip vs) i s
 | [],ys,us,vs,as,bs,i,ra,rb,ha,hb,hc,hu,hf,q=>by
  cases ra;cases rb with
  |nil=>exact q
  |cons _ _=>exact q
 |x::xs,ys,us,vs,as,bs,i,ra,rb,ha,hb,hc,hu,hf,q=>by
  cases ra with
  |cons r1 r2=>
   cases rb with
   |nil=>exact q
   | @cons v vs' y ys' _ _ k1 k2=>
    rw[PyData.canLayAll0,ax]at ha hb;rw[z37,ax]at hc;simp only[PyData.depthAll]at hu;rw[lh];refine kat_cons (SeqAt.eqAt_reads _ _ _ _ _ _ _ _ r1 k1 ha.1 hb.1 (by omega) prog w _ _ ?_);rw[z1q]at q;have el:decide ((x::xs).length<(y::ys').length)=decide (xs.length<ys'.length):=by simp
    rw[el];cases e:PyData.eqv x y with
    |true=>rw[show eqD x y=true from e,if_pos rfl]at q;exact kat_yes (lexN xs ys' (i+1) r2 k2 ha.2 hb.2 hc.2 (by omega) (fun _ z=>nomatch z) q)
    |false=>
     rw[show eqD x y=false from e,if_neg bu]at q;refine kat_no ?_;cases hbi:(b&&i==0)with
     |false=>exact kat_one _ _ (z9o x y r1 k1 ha.1 hb.1 hc.1 (by omega) prog w _ _ q)
     |true=>
      rw[ax,beq_iff_eq]at hbi;obtain⟨z,rfl⟩:=z1x (hf hbi.1 hbi.2 x xs rfl);have hc1:=hc.1;cases y<;>try (cases hc1;done)
      cases r1;cases k1;rw[z31]at q;exact oneLt_str q
def NtAt (h':Heap)(t:Bool)(d:D)(u:Value):Prop:=∃ad x xs o vs n as,u=.ref ad/\d=.tuple (x::xs)/\fstK t d=true/\h'.get? ad=some o/\o.cls=.type "tuple"/\o.data=.seq vs n/\pe h' vs.toList (x::xs) as/\PyData.canLayAll0 (x::xs)=true/\PyData.depthAll (x::xs)<=30
def znk (h':Heap)(t:Bool):List D->List Value->Prop
 | [],us=>us=[]
 |d::ds,us=>∃u r,us=u::r/\NtAt h' t d u/\znk h' t ds r
def tyN (t:Bool):Value:=.type (if t then "tuple"else "str")
section
variable {X:Cx}{pins:List (Addr×Obj)}{σ:L2.St}{H:Hp}{s:ac}{B:Ad->Prop}{h':Heap}{t:Bool}
theorem zqd (I:Inv X pins σ H s)(kp:∀b o,s.heap.get? b=some o->o.cls=.type "tuple"->b≠X.env.locals->h'.get? b=some o){v:V}{u:Value}{d:D}(hf:fstK t d=true)(hs:shal 30 d=true)(hc:cmpb d d=true)(r:Rep X.K H B v d)(ru:RelV v u):NtAt h' t d u:=by
 cases d<;>try (cases hf;done)
 rename_i ds;cases ds with
 |nil=>cases hf
 |cons x xs=>
  obtain⟨⟨as,ra⟩,c,dp⟩:=zcm I kp (.tuple (x::xs)) 30 hc hs r ru;cases ra with
  |tuple h1 h2 h3 h4=>exact⟨_,x,xs,_,_,_,as,rfl,rfl,hf,h1,h2,h3,h4,by simpa only[PyData.canLay0]using c,by simp only[PyData.depth]at dp;omega⟩
theorem ze3 {P:ba}{w:World}:∀{ys:List D} {its:List Value},znk h' t ys its->∃fs,KatTups h' its fs/\fs.length=its.length/\∀f∈fs,Looks (model P w) h' (vm f) (tyN t)
 | [],its,h=>by have e:its=[]:=h;subst e;exact⟨[],trivial,rfl,fun _ z=>nomatch z⟩
 |d::ys,its,h=>by
  obtain⟨u,its',rfl,a,r⟩:=h;obtain⟨fs,k1,k2,k3⟩:=ze3 (P:=P) (w:=w) r;obtain⟨ad,x,xs,o,vs,n,as,rfl,rfl,hf,h1,h2,h3,h4,_⟩:=a;generalize hl:vs.toList=l at h4;cases h4 with
  | @cons f l' _ _ _ _ r1 r2=>
   refine⟨f::fs,KatTups.cons h1 h2 h3 (by rw[<-l5,hl];rfl) k1,by simp[k2],fun g hg=>(aw.mp hg).elim (fun z=>?_) (k3 g)⟩;rw[z];cases x<;>try (cases hf;done)
   ·cases t<;>try (cases hf;done)
    cases r1;exact Looks.of_pure rfl
   ·cases t<;>try (cases hf;done)
    cases r1 with
    |tuple q1 q2 q3 q4=>have e:tyN true=_:=q2.symm;rw[e];exact(Looks.ld q1).andThen .now
theorem ziu (I:Inv X pins σ H s){vs:List V}{ys:List D}{its:List Value}(hy:∀d∈ys,fstK t d=true/\shal 30 d=true)(hc:∀d∈ys,∀e∈ys,cmpb d e=true)(rs:Reps X.K H B vs ys)(rv:Vals vs its)(h2:2<=ys.length)(kp:∀b o,s.heap.get? b=some o->o.cls=.type "tuple"->b≠X.env.locals->h'.get? b=some o){A:b6}(hu:A.units+40<cLine):
  wpAny (model X.prog X.w) A (uo its.toArray) (fun κ s'=>s'={s with heap:=h'}/\∀i j (C:Bool->ac->Prop),i<ys.length->j<ys.length->C (ltD (ys.getD i .none) (ys.getD j .none)) {s with heap:=h'}->kas_ask X.prog X.w A κ its i j C {s with heap:=h'}) (fun _ _=>False) {s with heap:=h'}:=by
 have hl:its.length=ys.length:=by rw[<-rv.length,rs.length]
 have all:∀{ys:List D} {vs:List V} {its:List Value},(∀d∈ys,fstK t d=true/\shal 30 d=true/\cmpb d d=true)->Reps X.K H B vs ys->Vals vs its->znk h' t ys its:=fun{ys}=>by
  induction ys with
  |nil=>intro vs its _ r rv;have e:vs=[]:=r;subst e;cases rv;exact rfl
  |cons y ys ih=>
   intro vs its h r rv;obtain⟨v,vs',rfl,r1,r2⟩:=r;cases rv with
   |cons a c=>obtain⟨z1,z2,z3⟩:=h y (by simp);exact⟨_,_,rfl,zqd I kp z1 z2 z3 r1 a,ih (fun d hd=>h d (by simp[hd])) r2 c⟩
 have fa:=all (fun d hd=>⟨(hy d hd).1,(hy d hd).2,hc d hd d hd⟩) rs rv;obtain⟨fs,k1,k2,k3⟩:=ze3 (P:=X.prog) (w:=X.w) fa;refine kat_kind (T:=tyN t) k1 (by omega) k3 (by cases t<;>decide) ⟨rfl,fun i j C hi hj hC=>?_⟩;have hm:∀i,i<ys.length->ys.getD i .none∈ys:=fun i hi=>by rw[bo,bq hi];exact fg hi
 have part:∀i,i<ys.length->NtAt h' t (ys.getD i .none) (its.getD i Value.none):=fun i hi=>by obtain⟨v,r1,r2,_⟩:=z93 rs rv hi;exact zqd I kp (hy _ (hm i hi)).1 (hy _ (hm i hi)).2 (hc _ (hm i hi) _ (hm i hi)) r1 r2
 have hcm:=hc _ (hm i hi) _ (hm j hj);obtain⟨ai,xi,ri,oi,vi,ni,asi,e1,e2,hf,e3,_,e4,e5,e6,e7⟩:=part i hi;obtain⟨aj,xj,rj,oj,vj,nj,asj,f1,f2,_,f3,_,f4,f5,f6,f7⟩:=part j hj;show wpAny _ _ (keyLt' _ (its.getD i Value.none) (its.getD j Value.none)) C _ _;rw[e1,f1];rw[e2]at hf;rw[e2,f2]at hcm hC;refine kat_lt e3 e4 f3 f4 ?_;rw[<-ck,<-ck,SeqAt.ReadsAll.length _ _ _ e5,SeqAt.ReadsAll.length _ _ _ f5];refine lexN (s:={s with heap:=h'}) (xi::ri) (xj::rj) 0 e5 f5 e6 f6 hcm (by omega) (fun hb _ x r hx=>?_) hC;cases hx;cases t with
 |true=>exact absurd hb (by decide)
 |false=>cases xi<;>first|(cases hf;done)|rfl
end
theorem zfq {d:D}(h:z2y [false,true] d=true):∃x i,d=.tuple [.str x,.int i]:=by obtain⟨l,rfl,h⟩:=z0y h;obtain⟨a,r,rfl,ha,h⟩:=z0h h;obtain⟨b,r,rfl,hb,h⟩:=z0h h;cases z0n h;obtain⟨x,rfl⟩:=z1x ha;obtain⟨i,rfl⟩:=z1z hb;exact⟨x,i,rfl⟩
theorem z7o {d:D}(h:isPk d=true):∃l,d=.tuple l/\∀x∈l,z2y [false,true] x=true:=by cases d<;>first|(cases h;done)|exact⟨_,rfl,bg.mp h⟩
theorem z9r {d:D}(h:neP d=true):∃x l,d=.tuple (x::l)/\∀z∈x::l,z2y [false,true] z=true:=by
 cases d<;>try (cases h;done)
 rename_i l;cases l with
 |nil=>cases h
 |cons x l=>exact⟨x,l,rfl,bg.mp h⟩
theorem zgs {d:D}(h:isCo d=true):∃x a b,d=.tuple [.str x,a,b]/\isPk a=true/\isPk b=true:=by
 unfold isCo at h;split at h
 ·exact⟨_,_,_,rfl,(ar.mp h).1,(ar.mp h).2⟩
 ·cases h
theorem z3f:∀l m:List D,(∀x∈l,z2y [false,true] x=true)->(∀x∈m,z2y [false,true] x=true)->z37 l m=true
 | [],m,_,_=>by rw[z37]
 |x::l,[],_,_=>by rw[z37]
 |x::l,y::m,h1,h2=>by obtain⟨a,i,rfl⟩:=zfq (h1 x (by simp));obtain⟨b,j,rfl⟩:=zfq (h2 y (by simp));rw[z37,z3f l m (fun z hz=>h1 z (by simp[hz])) fun z hz=>h2 z (by simp[hz])];rfl
theorem z4e {l:List D}(n:Nat)(h:∀x∈l,z2y [false,true] x=true):z0m (n+1) l=true:=z0s.mpr fun z hz=>by obtain⟨a,i,rfl⟩:=zfq (h z hz);cases n<;>rfl
theorem zeh:OrdE (fun d=>∃l,d=.tuple l/\∀x∈l,z2y [false,true] x=true):=OrdL.tup (OrdL.all ((OrdL.tup (OrdL.sh [false,true])).of fun _ h=>z0y h))
theorem z5t {ys:List D}(h:(ys.all neP||ys.all isCo)=true):∃(p:D->Prop) (t:Bool),OrdOn p/\(∀d∈ys,p d)/\(∀d∈ys,fstK t d=true/\shal 30 d=true)/\∀d∈ys,∀e∈ys,cmpb d e=true:=by
 rcases(d9 _ _).mp h with h|h
 ·rw[bg]at h;refine⟨_,true,zeh.toOrdOn,fun d hd=>?_,fun d hd=>?_,fun d hd e he=>?_⟩
  ·obtain⟨x,l,rfl,hl⟩:=z9r (h d hd);exact⟨_,rfl,hl⟩
  ·obtain⟨x,l,rfl,hl⟩:=z9r (h d hd);obtain⟨a,i,rfl⟩:=zfq (hl x (by simp));exact⟨rfl,z4e 28 hl⟩
  ·obtain⟨x,l,rfl,hl⟩:=z9r (h d hd);obtain⟨y,m,rfl,hm⟩:=z9r (h e he);exact z3f _ _ hl hm
 ·rw[bg]at h;refine⟨_,false,(OrdL.tup (OrdL.cons (zq6 false) (OrdL.cons zeh (OrdL.cons zeh OrdL.nil)))).toOrdOn,fun d hd=>?_,fun d hd=>?_,fun d hd e he=>?_⟩
  ·obtain⟨x,a,b,rfl,ha,hb⟩:=zgs (h d hd);exact⟨_,rfl,_,_,rfl,rfl,_,_,rfl,z7o ha,_,_,rfl,z7o hb,rfl⟩
  ·obtain⟨x,a,b,rfl,ha,hb⟩:=zgs (h d hd);obtain⟨l,rfl,hl⟩:=z7o ha;obtain⟨m,rfl,hm⟩:=z7o hb;refine⟨rfl,?_⟩;show(true&&(z0m 28 l&&(z0m 28 m&&true)))=true;rw[z4e 27 hl,z4e 27 hm];rfl
  ·obtain⟨x,a,b,rfl,ha,hb⟩:=zgs (h d hd);obtain⟨y,a',b',rfl,ha',hb'⟩:=zgs (h e he);obtain⟨l,rfl,hl⟩:=z7o ha;obtain⟨m,rfl,hm⟩:=z7o hb;obtain⟨l',rfl,hl'⟩:=z7o ha';obtain⟨m',rfl,hm'⟩:=z7o hb';show(true&&(z37 l l'&&(z37 m m'&&true)))=true;rw[z3f _ _ hl hl',z3f _ _ hm hm'];rfl
section
variable {X:Cx}
theorem zf1 {pins:List (Addr×Obj)}{s:ac}{σ:L2.St}{H:Hp}{xs:List V}{us:List Value}{Q:VK}{B:Ad->Prop}{x:V}{dx:D}{ys:List D}{d:D}(hu:X.A.units+64<cLine)(I:Inv X pins σ H s)(r:Vals xs us)(hx:xs=[x])(rx:Rep X.K H B x dx)(e:z4k dx=.ok (true,ys))(e2:aggD "sorted" true ys=.ok d)
  (q:∀w H',Same H H'->Rep X.K H' (fun a=>nw H a\/(imms ys=false/\B a)) w d->Q w H'):wpAny (model X.prog X.w) X.A (call (.builtin "sorted") us) (EP X pins σ Q) X.xe s:=by
 subst hx;obtain⟨a,vs,rfl,hsq,rs⟩:=z1t rx e;simp only[aggD,show("sorted":String)≠"list" by decide,show("sorted":String)≠"tuple" by decide,if_true,if_false]at e2;split at e2
 case isFalse=>cases e2
 rename_i hc;cases e2;simp only[decide_eq_true_eq,ax,p7,true_and]at hc;obtain⟨hs,h64⟩:=hc;obtain⟨u,rfl,ru⟩:=vals1 r;cases ru;obtain⟨its,rv,pl,hz⟩:=I.list hsq;have hll:its.length=ys.length:=by rw[<-rv.length,rs.length]
 by_cases h2:ys.length<2
 ·refine z77 pl.isList (by omega) fun D h' n hD kp ho=>?_;have hH:H D=none:=I.hok.fresh hD;have I2:=I.laid (a:=D) (o:=.lst vs) (t':=s.toks) kp hD ⟨hz,its,n,rv,ho⟩;refine⟨.ref D,_,I2,rfl,q _ _ (Same.upd hH) ?_⟩
  have es:z1e ys=ys:=by
   match ys,h2 with
   | [],_=>rfl
   | [y],_=>rfl
   |_::_::_,h2=>simp at h2;omega
  rw[es];exact z1l hH (Reps.aggB rs) (fun _ z=>z) (.inl hH)
 ·have h2':2<=ys.length:=by omega
  replace hs:=(d9 _ _).mp hs;rcases hs with hs|hs
  case inr=>obtain⟨p,t,O,hp,hy,hcm⟩:=z5t hs;exact z2a O I pl.isList rv rs h2' h64 hp (fun h' kp=>ziu I hy hcm rs rv h2' (fun b o e _ hL=>kp b o hL e) (by show X.A.units+1+1+40<cLine;omega)) q
  unfold z6v at hs;simp only[d9,bg]at hs;rcases hs with(hs|hs)|hs
  ·exact z2a ordI I pl.isList rv rs h2' h64 hs (fun h' kp=>z9x true hs rs rv h2' h') q
  ·exact z2a ordS I pl.isList rv rs h2' h64 hs (fun h' kp=>z9x false hs rs rv h2' h') q
  ·split at hs
   case h_2=>cases hs
   rename_i y0 _;simp only[ax,bg,lw]at hs;obtain⟨hne,hs⟩:=hs;cases y0 with
   |nil=>cases hne
   |cons y1 yr=>exact z2a (ordT _) I pl.isList rv rs h2' h64 hs (fun h' kp=>zj5 I _ _ hs rs rv h2' fun b o e _ hL=>kp b o hL e) q
end
end Mi
namespace Mi
open PySem PySem.Spec PyProof.Rows L2
section
variable {X:Cx}
end
section
variable {X:Cx}{pins pins0:List (Addr×Obj)}{σ σ0:L2.St}{H H0:Hp}{s s0:ac}{d:Addr}{o:Obj}{kvs kvs0:List (Key×V)}
end
section
variable {X:Cx}{pins:List (Addr×Obj)}{σ:L2.St}{H:Hp}{s:ac}
end
theorem REs.at {K:W.Frag}{H:Hp}{B:Ad->Prop}:∀{kvs:List (Key×V)} {es:Ents} {i:Nat} {k:Key} {v:V},REs K H B kvs es->kvs[i]?=some (k,v)->∃d,es[i]?=some (kD k,d)/\keyOk k/\Rep K H B v d
 |kvs,[],i,k,v,r,e=>by have:kvs=[]:=r;subst this;simp at e
 |kvs,(kd,d)::es,i,k,v,r,e=>by
  obtain⟨k',v',t,rfl,rfl,ok,h1,h2⟩:=r;cases i with
  |zero=>rw[pj]at e ⊢;cases e;exact⟨d,rfl,ok,h1⟩
  |succ i=>rw[ll]at e ⊢;exact REs.at h2 e
theorem zsc {K:W.Frag}{H:Hp}{B:Ad->Prop}{k:Key}(ok:keyOk k):Rep K H B (kV k) (kD k):=by
 cases k with
 |inl i=>exact rfl
 |inr x=>exact⟨rfl,ok⟩
section
variable {X:Cx}
end
section
variable {X:Cx}
def compI (i nt:Nat)(t:Tg)(fc:Rho->Res Bool)(fe:Rho->Res GD):Rho->Res GD:=fun ρ=>match ρ[i]? with
 |some (some (_,.dict es))=>if immE es&&decide (es.length<=LIM)then zb1 nt [] t (fun _=>.ok (.al,es.map ent)) fc fe []else .no
 |_=>.no
end
section
variable {X:Cx}{pins:List (Addr×Obj)}{σ:L2.St}{H:Hp}{s:ac}
theorem _root_.L2.Inv.writeF {h':Heap}{D:Addr}{xs ys:List V}{t':Nat}{m:Str->Option Value}(I:Inv X pins σ H s)(hH:H D=some (.lst xs))(hm:s.heap.Ns X.env.locals m)(hn':h'.Ns X.env.locals m)
  (kp:∀b u,b≠X.env.locals->b≠D->s.heap.get? b=some u->h'.get? b=some u) (new:z0w X.prog X.w (upd H D (.lst ys)) h' D (.lst ys)):Inv X pins σ (upd H D (.lst ys)) {s with heap:=h',toks:=t'}:=by
 have nd:∀b v,H b=some v->v≠.lst xs->upd H D (.lst ys) b=some v:=fun b v q hv=>by rw[z05 (fun z=>by subst z;rw[hH]at q;cases q;exact hv rfl)];exact q
 have ne:∀b,H b=none->b≠D:=fun b n z=>by subst z;rw[hH]at n;cases n
 have nL:∀c v,H c=some v->c≠X.env.locals:=fun c v ec z=>by subst z;rw[I.free]at ec;cases ec
 refine I.step (g':=s.gens) (d':=s.drawn) (ch:=[]) (fun _ z=>nomatch z) (fun b q hL _ _ e n=>kp b q hL (ne b n) e) (fun b q hL _ _ e n=>⟨q.slots,kp b q hL (ne b n) e⟩) (fun b q _ e n=>by rw[z05 (ne b n)];exact n) (fun b q _ e=>?_) (fun b xs q=>nd b _ q (fun z=>nomatch z)) (fun b u xs q=>nd b _ q (fun z=>nomatch z)) (fun b ps q=>⟨#[],by rw[nd b _ q (fun z=>nomatch z)];simp⟩) (fun m' hm'=>?_) (fun b u e=>?_) I.bare
 ·by_cases hb:b=X.env.locals
  ·subst hb;obtain⟨o',_,_,ho',_⟩:=hn';exact⟨o',ho'⟩
  ·by_cases hd:b=D
   ·subst hd;obtain⟨_,_,_,_,e'⟩:=new;exact⟨_,e'⟩
   ·exact⟨q,kp b q hb hd e⟩
 ·rw[hm'.eq_nsMap,<-hm.eq_nsMap];exact hn'
 ·by_cases hb:b=D
  ·subst hb;rw[z0d]at e;cases e;exact new
  ·rw[z05 hb]at e;refine(I.hok b u e).stay (fun c v hc q=>?_) (fun c q=>nd c _ q (fun z=>nomatch z)) fun c xs q=>nd c _ q (fun z=>nomatch z);rcases hc with rfl|hc
   ·exact kp _ v (nL _ _ e) hb q
   ·exact kp c v (nL _ _ hc) (fun z=>by subst z;rw[hH]at hc;cases hc) q
end
end Mi
namespace Mi
open PySem PySem.Spec PyProof.Rows L2 PySem.W
section
variable {X:Cx}{pins:List (Addr×Obj)}{σ:L2.St}{H:Hp}{s:ac}
theorem z2s {p:D->Prop}(O:OrdOn p)(I:Inv X pins σ H s){l:Addr}{vs:List V}{its:List Value}{n:Nat}{ys:List D}{B:Ad->Prop}{A:b6}{E:Value->ac->Prop}{Q:Value->ac->Prop}
  (hH:H l=some (.lst vs)) (ho:s.heap.get? l=some (listOf its.toArray n)) (rv:Vals vs its) (rs:Reps X.K H B vs ys) (h2:2<=ys.length) (h64:ys.length<64) (hp:∀d∈ys,p d)
  (ask:∀h':Heap,(∀b o,b≠X.env.locals->b≠l->s.heap.get? b=some o->h'.get? b=some o)->wpAny (model X.prog X.w) A.in1 (uo its.toArray) (fun κ s'=>s'={s with heap:=h'}/\∀i j (C:Bool->ac->Prop),i<ys.length->j<ys.length->C (ltD (ys.getD i .none) (ys.getD j .none)) {s with heap:=h'}->kas_ask X.prog X.w A.in1 κ its i j C {s with heap:=h'}) (fun _ _=>False) {s with heap:=h'})
  (q:∀s' vs',Inv X pins σ (upd H l (.lst vs')) s'->Reps X.K H B vs' (z1e ys)->Q .none s'):wpAny (model X.prog X.w) A (call (.builtin "list.sort") [.ref l]) Q E s:=by
 have l1:vs.length=ys.length:=rs.length;have l2:vs.length=its.length:=rv.length;obtain⟨m,hNs,_⟩:=id I.loc;have F:Fr X.base X.env.locals s.heap m:=⟨hNs,I.bk,bx I.ok.bsz I.ok.above⟩;have hL:l≠X.env.locals:=fun z=>by subst z;rw[I.free]at hH;cases hH
 have hb:X.base.get? l=none:=by
  cases e:X.base.get? l with
  |none=>rfl
  |some u=>have:=(I.bs l u e).2;rw[hH]at this;cases this
 refine kat_lsort (vs:=its) F (news_at hL hb ho) (.head zds) (by simp) (by omega) (by omega) fun e1 h' F' N'=>?_;have kpOf:∀{h'':Heap} {o:Obj},Fr X.base X.env.locals h'' m->News X.base X.env.locals h'' ((l,o)::rest X.base s.heap X.env.locals l)->∀b o,b≠X.env.locals->b≠l->s.heap.get? b=some o->h''.get? b=some o:=fun F'' N'' b o h1 h2 e=>z7l I.bk F'' (fun q hq=>N'' q (au _ hq)) b o h1 h2 e;refine thn (ask h' (kpOf F' N')) fun κ s' zz=>?_;obtain⟨es,hask⟩:=zz;subst es;have el:its.length=ys.length:=by omega
 rw[el];refine z3l (n:=ys.length) (lt:=ltk (rank ys)) (P:=fun s'=>s'={s with heap:=h'}) (fun i j C s' hi hj e hC=>?_) (kas_sort ys.length) _ (z7m (by omega)) rfl fun s' e=>?_
 ·subst e;refine hask i j C hi hj ?_;rw[<-z8s O hp hi hj];exact hC _ rfl
 ·subst e;refine⟨_,_,F',N',.head zds,fun h'' c F'' N''=>?_⟩;have hD2:=(N'' _ ak).1;have out:=zak O hp (by omega);obtain⟨_,hperm⟩:=z4w (key:=rank ys) ys.length (by omega);generalize runT (ltk (rank ys)) (kas_sort ys.length)=pm at out hperm hD2 ⊢;have hin:∀i∈pm.toList,i<ys.length:=fun i hi=>by have:=(hperm.toList.mem_iff (a:=i)).mp hi;simpa using this
  have lnn:(pm.toList.map fun i=>vs.getD i .non).length=ys.length:=by rw[af];have:=hperm.toList.length_eq;simpa using this
  refine q _ (pm.toList.map fun i=>vs.getD i .non) (I.writeF (t':=s.toks) hH hNs F''.ns (kpOf F'' N'') ⟨by rw[lnn,dq];omega,_,c,z4p rv pm.toList (fun i hi=>by rw[l1];exact hin i hi),hD2⟩) ?_;rw[<-out];exact z4m rs pm.toList hin
end
theorem z91 {prog:ba}{w:World}{A:b6}{E:Value->ac->Prop}{s:ac}{l:Addr}{vs:List Value}{n:Nat}{Q:Value->ac->Prop}(hoL:s.heap.get? l=some (dm "list" vs.toArray n))(h2:vs.length<2)
  (h:∀h' n',(∀b o,b≠l->s.heap.get? b=some o->h'.get? b=some o)->h'.get? l=some (dm "list" vs.toArray n')->Q .none {s with heap:=h'}):
  wpAny (model prog w) A (call (.builtin "list.sort") [.ref l]) Q E s:=by
 refine e8 slot_list_sort ⟨_,hoL,rfl⟩ entry_list_sort ?body (args_list_sort _);rw[list_sort_plain];refine aa (qc hoL rfl ?_);refine aa (mq hoL rfl ?_ (hsz:=by rw[dq];simp;omega));obtain⟨e1,ho1⟩:∃e1,(s.heap.update l (Obj.mapSeq fun _=>(#[]:Array Value))).get? l=some (dm "list" #[] e1):=⟨_,la hoL fun _=>#[]⟩;have k3:∀b o,b≠l->s.heap.get? b=some o->(s.heap.update l (Obj.mapSeq fun _=>(#[]:Array Value))).get? b=some o:=fun b o hb e=>z2p hb e;generalize (s.heap.update l (Obj.mapSeq fun _=>(#[]:Array Value)))=h3 at ho1 k3 ⊢;refine aa (qv (s:={s with heap:=h3}) ho1 rfl ?_);refine aa (n9 ?_ (by rw[dq];simp;omega));apply aa;refine mo ?_;refine dn ?_;have ho6:((h3.push (dm "tuple" vs.toArray 0)).push (dm "list" #[] 0)).get? l=some (dm "list" #[] e1):=ae _ (ae _ ho1);have k6:∀b o,b≠l->s.heap.get? b=some o->((h3.push (dm "tuple" vs.toArray 0)).push (dm "list" #[] 0)).get? b=some o:=fun b o hb e=>ae _ (ae _ (k3 b o hb e));show wpAny (model prog w) _ _ _ _ {s with heap:=(h3.push (dm "tuple" vs.toArray 0)).push (dm "list" #[] 0)};generalize ((h3.push (dm "tuple" vs.toArray 0)).push (dm "list" #[] 0))=h6 at ho6 k6 ⊢
 dsimp only
 have hz:vs.toArray.size<2:=by simpa using h2
 rw[if_pos hz,if_pos hz];refine aa (aq ?_);rw[StateT.run_pure];refine aa (aq ?_)
 dsimp only
 refine aa (qv (s:={s with heap:=h6}) ho6 rfl ?_);have em:(arrOf (SortSt.mk' general' (vs.toArray.zip vs.toArray) #[] 7 none)).map (·.2)=vs.toArray:=by show(vs.toArray.zip vs.toArray).map (·.2)=vs.toArray;simp;exact List.map_snd_zip (am _)
 rw[em];refine aa (mq (s:={s with heap:=h6}) ho6 rfl ?_ (hsz2:=by rw[dq];simp;omega));simp only[if_false,gc,bne_self_eq_false];exact aq ⟨_,rfl,h _ _ (fun b o hb e=>z2p hb (k6 b o hb e)) (la ho6 fun _=>vs.toArray)⟩
section
variable {X:Cx}
end
end Mi
namespace Mi
open PySem PySem.Spec PyProof.Rows L2
section
variable {X:Cx}
end
end Mi
namespace Mi
open PySem PySem.Spec PyProof.Rows L2 PySem.W
theorem REs.keys {K:W.Frag}{H:Hp}{B B':Ad->Prop}:∀{kvs:List (Key×V)} {es:Ents},REs K H B kvs es->Reps K H B' (kvs.map fun kv=>kV kv.1) (es.map (·.1))
 |kvs,[],r=>by have e:kvs=[]:=r;subst e;exact rfl
 |kvs,(kd,d)::es,r=>by obtain⟨k,v,t,e,e2,ok,h,q⟩:=r;subst e e2;exact Reps.cons (zsc ok) q.keys
section
variable {X:Cx}
end
section
variable {X:Cx}{a b:Expr}{pos:Pos}{fa fb:Rho->Res GD}
end
theorem z8u {prog:ba}{w:World}{A:b6}{E:Value->ac->Prop}{s:ac}{t:Addr}{o:Obj}{n:Nat}{its:List Value}{Q:List Value->ac->Prop}(ho:s.heap.get? t=some o)(hc:o.cls=.type "tuple")(hd:o.data=.seq its.toArray n)(hsz:its.length<=az)
  (h:∀h',(∀b u,s.heap.get? b=some u->h'.get? b=some u)->s.heap.objs.size<=h'.objs.size->Q its {s with heap:=h'}):wpAny (model prog w) A (collect (.ref t)) Q E s:=by
 have h1:(s.heap.push (dm "list" #[] 0)).get? t=some o:=ae _ ho;have h2:(s.heap.push (dm "list" #[] 0)).get? s.heap.objs.size=some (dm "list" #[] 0):=a8 _ rfl;have fit:((#[]:Array Value)++its.toArray).size<=az+1:=by rw[uq,ao];exact Nat.le_succ_of_le (by simpa using hsz)
 unfold collect;apply aa;apply wpAny_runValue;refine m7 entry_proto_collect' ?_;show wpAny (model prog w) _ (newList []>>=fun v=>again (.builtin "list.__iadd__" ⟨[v,.ref t],[]⟩)) _ E s;apply aa;refine mo (aq ⟨Code.quiet_builtin _ (by decide+kernel),m7 entry_list_iadd' ?_⟩);show wpAny (model prog w) _ (d4 (.ref s.heap.objs.size) (.ref t) (.ref s.heap.objs.size)) _ E ⟨s.heap.push (dm "list" #[] 0),s.gens,s.drawn,s.toks,s.os⟩;unfold d4;apply aa;refine lv (T:="tuple") ⟨o,h1,hc⟩ ?_;have tt:(Value.type "tuple"==Value.type "tuple")=true:=by rfl
 rw[tt,nr,if_pos rfl];apply aa;refine qc h1 hd ?_;apply aa;refine qc h2 rfl ?_;rw[show((!(#[]:Array Value).isEmpty)&&jh ((#[]:Array Value).size+its.toArray.size))=false from rfl,if_neg (by decide)];apply aa;refine mq h2 rfl ?_ (dj _) fit;apply aq;have hq:=h ((s.heap.push (dm "list" #[] 0)).update s.heap.objs.size (Obj.mapSeq (·++its.toArray))) (fun b u e=>z2p (b7 (bj e)) (ae _ e)) (by rw[Heap.size_update,me];exact u0 _);have h3:=la h2 (·++its.toArray);show wpAny (model prog w) A (load s.heap.objs.size>>=_) Q E ⟨(s.heap.push (dm "list" #[] 0)).update s.heap.objs.size (Obj.mapSeq (·++its.toArray)),s.gens,s.drawn,s.toks,s.os⟩;apply aa;refine tq h3 ?_;show wpAny (model prog w) A (pure ((#[]:Array Value)++its.toArray).toList) Q E _;have el:((#[]:Array Value)++its.toArray).toList=its:=by simp
 rw[el];exact aq hq
section
variable {X:Cx}
theorem zfy (hu:X.A.units+64<cLine):CallR X (.builtin "sorted") (rAgg X.K "sorted"):=by
 intro pins s σ H xs us Q I r h;obtain⟨B,x,dx,l,ys,d,hx,rx,e,e2,q⟩:=h;cases l with
 |true=>exact zf1 hu I r hx rx e e2 q
 |false=>
  subst hx;obtain⟨a,vs,rfl,hsq,rs⟩:=z1t rx e;have e3:(if((false||imms ys)&&z36 ys&&decide (ys.length<64))=true then Res.ok (PyData.list (z1e ys))else .no)=.ok d:=e2;cases hc:(false||imms ys)&&z36 ys&&decide (ys.length<64)with
  |false=>rw[hc]at e3;cases e3
  |true=>
   rw[hc]at e3;cases e3;obtain⟨hc,h64⟩:=ar.mp hc;obtain⟨him,hok⟩:=ar.mp hc;have h64:=vy h64;obtain⟨u,rfl,ru⟩:=vals1 r;cases ru;obtain⟨its,rv,⟨o,n,ho,hcl,hdi,hda⟩,hz⟩:=I.tupleN hsq;have hll:its.length=ys.length:=by rw[<-rv.length,rs.length]
   have sz:its.length<=az:=by rw[<-rv.length];exact hz
   apply on kind_sorted plain_sorted entry_sorted (args_sorted1 _);unfold Builtin.«sorted»;apply aa (m:=checkCount "sorted" 1 1 _);apply aq;refine aa (z8u ho hcl hda sz fun h' hk hsz=>?_);have I1:Inv X pins σ H {s with heap:=h'}:=I.kept (t':=s.toks) hk;refine aa (mo ?_ sz);have hHD:H h'.objs.size=none:=I1.hok.fresh (am _);have hoD:(h'.push (dm "list" its.toArray 0)).get? h'.objs.size=some (dm "list" its.toArray 0):=a8 _ rfl;have I3:Inv X pins σ (upd H h'.objs.size (.lst vs)) {s with heap:=h'.push (dm "list" its.toArray 0)}:=I1.laid (a:=h'.objs.size) (o:=.lst vs) (t':=s.toks) (fun _ _ z=>ae _ z) (am _) ⟨hz,its,0,rv,hoD⟩;have rp:Reps X.K (upd H h'.objs.size (.lst vs)) (fun _=>False) vs ys:=(Reps.immB (B':=fun _=>False) ys him rs).same (Same.upd hHD) fun _ z=>z
   have fin:∀s' vs',Inv X pins σ (upd (upd H h'.objs.size (.lst vs)) h'.objs.size (.lst vs')) s'->Reps X.K (upd H h'.objs.size (.lst vs)) (fun _=>False) vs' (z1e ys)->EP X pins σ Q (.ref h'.objs.size) s':=fun s' vs' I4 r4=>by
    refine⟨.ref h'.objs.size,_,I4,rfl,q _ _ (fun b u z=>?_) ⟨_,vs',rfl,.inl ⟨z0d,.inl hHD⟩,?_⟩⟩
    ·have hb:=z06 z hHD;rw[z05 hb,z05 hb];exact z
    ·refine Reps.keep (fun b u z f=>?_) (fun _ z=>z.elim) _ r4;rcases f with f|f
     ·exact f.elim
     ·have hb:b≠h'.objs.size:=fun z'=>by subst z';rw[z0d]at z;cases z;exact f
      rw[z05 hb];exact z
   show wpAny _ _ (ua [Value.ref h'.objs.size] (call (.builtin "list.sort") [.ref h'.objs.size])>>=_) _ _ {s with heap:=h'.push (dm "list" its.toArray 0)};obtain⟨m,hNs,_⟩:=id I3.loc;have hLD:X.env.locals≠h'.objs.size:=fun z=>by have:=I1.lt;rw[z]at this;exact ci _ this
   by_cases h2:ys.length<2
   ·have es:z1e ys=ys:=by
     match ys,h2 with
     | [],_=>rfl
     | [y],_=>rfl
     |_::_::_,h2=>simp at h2;omega
    refine aa (dn (z91 (s:={s with heap:=h'.push (dm "list" its.toArray 0)}) hoD (by omega) fun h'' n' kp hD2=>aq ⟨_,rfl,fin _ vs (I3.writeF (t':=s.toks) z0d hNs (hNs.at fun o e=>kp _ o hLD e) (fun b u _ hb e=>kp b u hb e) ⟨hz,its,n',rv,hD2⟩) (by rw[es];exact rp)⟩))
   ·have h2':2<=ys.length:=pc h2;have ktp:∀h'':Heap,(∀b o,b≠X.env.locals->b≠h'.objs.size->(h'.push (dm "list" its.toArray 0)).get? b=some o->h''.get? b=some o)->∀b o,(h'.push (dm "list" its.toArray 0)).get? b=some o->o.cls=.type "tuple"->b≠X.env.locals->h''.get? b=some o:=fun h'' kp b o e hcl hL=>kp b o hL (fun z=>by subst z;rw[hoD]at e;cases e;exact absurd hcl (by simp)) e;replace hok:=(d9 _ _).mp hok;rcases hok with hok|hok
    case inr=>obtain⟨p,t,O,hp,hy,hcm⟩:=z5t hok;exact aa (dn (z2s (A:=X.A.in1) O I3 z0d hoD rv rp h2' h64 hp (fun h'' kp=>ziu I3 hy hcm rp rv h2' (ktp h'' kp) (by show X.A.units+1+1+40<cLine;omega)) fun s' vs' I4 r4=>aq ⟨_,rfl,fin s' vs' I4 r4⟩))
    unfold z6v at hok;simp only[d9,bg]at hok;rcases hok with(hs|hs)|hs
    ·exact aa (dn (z2s (A:=X.A.in1) ordI I3 z0d hoD rv rp h2' h64 hs (fun h'' kp=>z9x true hs rp rv h2' h'') fun s' vs' I4 r4=>aq ⟨_,rfl,fin s' vs' I4 r4⟩))
    ·exact aa (dn (z2s (A:=X.A.in1) ordS I3 z0d hoD rv rp h2' h64 hs (fun h'' kp=>z9x false hs rp rv h2' h'') fun s' vs' I4 r4=>aq ⟨_,rfl,fin s' vs' I4 r4⟩))
    ·split at hs
     case h_2=>cases hs
     rename_i y0 _ _ _;simp only[ax,bg,lw]at hs;obtain⟨hne,hs⟩:=hs;cases y0 with
     |nil=>cases hne
     |cons y1 yr=>exact aa (dn (z2s (A:=X.A.in1) (ordT _) I3 z0d hoD rv rp h2' h64 hs (fun h'' kp=>zj5 I3 _ _ hs rp rv h2' (ktp h'' kp)) fun s' vs' I4 r4=>aq ⟨_,rfl,fin s' vs' I4 r4⟩))
end
end Mi
namespace Mi
open PySem PySem.Spec PyProof.Rows L2
section
variable {X:Cx}{tg a b c e:Expr}{es:List Expr}{fa fb:Rho->Res GD}{pos:Pos}
theorem ztr {x:Str}{T:String}{m:List D->Res D}{fs:Rho->Res (List GD)}{p:Pos}(hc:CallR X (.type T) (zf0 X.K m))(hm:X.mg x=none)(hv:df x=some (.type T))(ha:PA X (e::es) (tDA X.K fs))(hst:((e::es).all fun e=>!isStar e)=true)(hg:Gl X x)(hn:x≠"__name__")(hdb:(x==("__debug__":Str))=false):
  PE X (.Call (.Name x p) (e::es) [] pos) (tD X.K fun ρ=>fs ρ>>=fun ys=>m (ys.map (·.2))>>=fun d=>.ok (gJ d .al,d)):=by
 refine PE.imp (zhp hc hm hv ha hst hg hn hdb) fun σ H Q hq=>?_;obtain⟨ρ,F,z,so,e0,q⟩:=hq;obtain⟨ys,e1,e0⟩:=Res.bind_ok e0;obtain⟨d,e2,e0⟩:=Res.bind_ok e0;cases e0;exact⟨ρ,F,ys,so,e1,fun vs H1 s1 rs=>⟨_,_,d,rs.repsV so.vis,e2,fun w H2 s2 rw'=>q w H2 (s1.trans s2) (z3s rw' fun a h=>h.elim (fun z=>(nw.back s1 z).vis so.vis) fun z=>z)⟩⟩
theorem zmj:CallR X (.type "int") (zf0 X.K (biD "int")):=by
 refine CallR.imp zcc fun xs H Q h=>?_;obtain⟨B,ds,d,r,e0,q⟩:=h;simp only[biD,show("int":String)≠"len" by decide,show("int":String)≠"max" by decide,if_true,if_false]at e0;split at e0
 ·rename_i i;cases e0;obtain⟨v,rfl,h1⟩:=zb3 r;obtain rfl:v=.int i:=h1;exact .inl ⟨i,rfl,q _ H (Same.refl H) rfl⟩
 ·rename_i k;cases e0;obtain⟨v,rfl,h1⟩:=zb3 r;obtain rfl:v=.bl k:=h1;exact .inr ⟨k,rfl,q _ H (Same.refl H) rfl⟩
 ·cases e0
end
end Mi
namespace Mi
open PySem
abbrev ZRec (TI TO:Addr)(f0:Value)(f1:Bool):Obj:={cls:=.type "zip",dict:=none,data:=.fields #[f0,.bool f1,.bool false,.ref TI,.ref TO],slots:=#[]}
def ZF (f0:Value):Prop:=f0=Value.none\/∃T:Nat,f0=my T
section
variable {prog:ba}{w:World}{A:b6}{E:Value->ac->Prop}{s:ac}{z TI TO:Addr}{f0:Value}{f1:Bool}
theorem zc6 {a:Addr}{Q:Option Obj->ac->Prop}(h:Q (s.heap.get? a) s):wpAny (model prog w) A (loadIfAlive a) Q E s:=fun _ _ _=>h
theorem z9n {Q:Bool->ac->Prop}(hf:ZF f0)(hz:s.heap.get? z=some (ZRec TI TO f0 f1))(hQ:∀b h' f1',h'.get? z=some (ZRec TI TO f0 f1')->ce z s.heap h'->Q b {s with heap:=h'}):wpAny (model prog w) A (d8 (.ref z)) Q E s:=by
 delta d8
 apply aa;refine d6 hz rfl (x:=f0) rfl ?_;rcases hf with rfl|⟨T,rfl⟩
 ·exact aq (hQ true s.heap f1 hz (Heap.SameBut.refl ..))
 ·show wpAny _ _ (loadIfAlive ((T:Int).toNat)>>=_) _ _ _;apply aa;refine zc6 ?_;cases s.heap.get? ((T:Int).toNat)with
  |none=>exact aq (hQ true s.heap f1 hz (Heap.SameBut.refl ..))
  |some o=>
   dsimp only[Option.isNone]
   rw[if_neg (by decide)];show wpAny _ _ (field (.ref z) 1>>=_) _ _ _;apply aa;refine d6 hz rfl (x:=.bool f1) rfl ?_;cases f1 with
   |true=>rw[if_neg (by decide)];exact aq (hQ false s.heap true hz (Heap.SameBut.refl ..))
   |false=>rw[if_pos (by decide)];apply aa;exact et hz (by simp) fun h' hz' sb=>aq (hQ false h' true hz' sb)
structure ZApart (z TI TO i1 i2:Addr)(p1 p2:List Addr):Prop where
 TIz:TI≠z
 TOz:TO≠z
 i1z:i1≠z
 i2z:i2≠z
 TITO:TI≠TO
 TIi1:TI≠i1
 TIi2:TI≠i2
 TOi1:TO≠i1
 TOi2:TO≠i2
 i12:i1≠i2
 f1z:z∉p1
 f1T:TO∉p1
 f1i:i2∉p1
 f2z:z∉p2
 f2T:TO∉p2
 f2i:i1∉p2
variable {i1 i2:Addr}{p1 p2:List Addr}{n1 n2 i:Nat}{P1 P2:Nat->Value->Prop}{S1 S2:Nat->Heap->Prop}{a b:Value}
abbrev PairAt (h:Heap)(T:Addr)(a b:Value):Prop:=h.get? T=some {cls:=.type "tuple",data:=.seq #[a,b]}
def Zk (z TO i1 i2:Addr)(h h':Heap):Prop:=∀c o,c≠z->c≠TO->c≠i1->c≠i2->h.get? c=some o->h'.get? c=some o
theorem z8b {T:Addr}{x:Value}{k:Nat}{Q:Unit->ac->Prop}(hT:PairAt s.heap T a b)(h:∀h',h'.get? T=some {cls:=.type "tuple",data:=.seq ((#[a,b]:Array Value).setIfInBounds k x)}->ce T s.heap h'->Q () {s with heap:=h'}):wpAny (model prog w) A (ux T (·.setIfInBounds k x)) Q E s:=by exact m8 hT rfl (h _ (by rw[f9 _ hT rfl];simp[Obj.mapSeq]) (sg ..))
theorem zgn {Q:Value->ac->Prop}(D:ZApart z TI TO i1 i2 p1 p2)(D1:Draws prog w A i1 p1 n1 P1 S1)(D2:Draws prog w A i2 p2 n2 P2 S2)(hf:ZF f0)(hz:s.heap.get? z=some (ZRec TI TO f0 f1))(hTI:PairAt s.heap TI (.ref i1) (.ref i2))(hTO:PairAt s.heap TO a b)(h1:S1 i s.heap)(h2:S2 i s.heap)(l1:i<n1)(l2:i<n2)
  (hQ:∀x y h' tk f0' f1' a' b',P1 i x->P2 i y->ZF f0'->h'.get? z=some (ZRec TI TO f0' f1')->PairAt h' TO a' b'->S1 (i+1) h'->S2 (i+1) h'->PairAt h' s.heap.objs.size x y->Zk z TO i1 i2 s.heap h'->Q (.ref s.heap.objs.size) {s with heap:=h',toks:=tk}):
  wpAny (model prog w) A (Builtin.«zip.__next__» {pos:=[.ref z],kw:=[]}) (fun fin s'=>∃v,fin=.done (.ret v)/\Q v s') E s:=by
 show wpAny (model prog w) A (field (.ref z) 2>>=_) _ E s;apply aa;refine d6 hz rfl (x:=.bool false) rfl ?_;show wpAny (model prog w) A (field (.ref z) 3>>=_) _ E s;apply aa;refine d6 hz rfl (x:=.ref TI) rfl ?_;apply aa;refine fz hTI rfl ?_;show wpAny (model prog w) A (d8 (.ref z)>>=_) _ E s;apply aa;refine z9n hf hz fun bf h₀ f1' hz₀ sb₀=>?_;have k0:∀c o,c≠z->s.heap.get? c=some o->h₀.get? c=some o:=fun c o hc e=>sb₀.extBut c o hc e;have e1:S1 i h₀:=D1.frame _ _ _ h1 fun b hb o e=>k0 b o (fun q=>D.f1z (q▸hb)) e;have e2:S2 i h₀:=D2.frame _ _ _ h2 fun b hb o e=>k0 b o (fun q=>D.f2z (q▸hb)) e;have t0:PairAt h₀ TO a b:=k0 _ _ D.TOz hTO;have sz0:h₀.objs.size=s.heap.objs.size:=sb₀.1;cases bf with
 |true=>
  rw[if_pos rfl];apply aa;refine lf ?_;apply aa;refine d6 hz₀ rfl (x:=.ref TO) rfl ?_;apply aa;refine et hz₀ (by simp) fun ha za ka=>?_;replace za:ha.get? z=some (ZRec TI TO .ellipsis f1'):=za;have e1a:S1 i ha:=D1.frame _ _ _ e1 fun b hb o e=>ka.extBut b o (fun q=>D.f1z (q▸hb)) e;have e2a:S2 i ha:=D2.frame _ _ _ e2 fun b hb o e=>ka.extBut b o (fun q=>D.f2z (q▸hb)) e;have ta:PairAt ha TO a b:=ka.extBut _ _ D.TOz t0;apply aa;simp only[k8,og,List.zipIdx_cons,List.zipIdx_nil];apply aa;apply aa;apply o5;show wpAny (model prog w) A (cr (.ref i1)>>=_) _ _ _;apply aa;refine D1.item i _ _ _ l1 e1a fun x hb tk hPx s1b kb=>aq ?_;replace kb:ce i1 ha hb:=kb;have tb:PairAt hb TO a b:=kb.extBut _ _ D.TOi1 ta;have zb:hb.get? z=some (ZRec TI TO .ellipsis f1'):=kb.extBut _ _ D.i1z.symm za;have e2b:S2 i hb:=D2.frame _ _ _ e2a fun b hb' o e=>kb.extBut b o (fun q=>D.f2i (q▸hb')) e;apply aa;refine fz tb rfl ?_;apply aa;refine z8b tb fun hc tc kc=>?_;replace tc:PairAt hc TO x b:=tc;replace kc:ce TO hb hc:=kc;apply aa;refine qw (aq ?_);have zc:hc.get? z=some (ZRec TI TO .ellipsis f1'):=kc.extBut _ _ D.TOz.symm zb;have e1c:S1 (i+1) hc:=D1.frame _ _ _ s1b fun b hb' o e=>kc.extBut b o (fun q=>D.f1T (q▸hb')) e;have e2c:S2 i hc:=D2.frame _ _ _ e2b fun b hb' o e=>kc.extBut b o (fun q=>D.f2T (q▸hb')) e;apply aa;apply aa;apply o5;show wpAny (model prog w) A (cr (.ref i2)>>=_) _ _ _;apply aa;refine D2.item i _ _ _ l2 e2c fun y hd tk2 hPy s2d kd=>aq ?_;replace kd:ce i2 hc hd:=kd;have td:PairAt hd TO x b:=kd.extBut _ _ D.TOi2 tc;have zd:hd.get? z=some (ZRec TI TO .ellipsis f1'):=kd.extBut _ _ D.i2z.symm zc;have e1d:S1 (i+1) hd:=D1.frame _ _ _ e1c fun b hb' o e=>kd.extBut b o (fun q=>D.f1i (q▸hb')) e;apply aa;refine fz td rfl ?_;apply aa;refine z8b td fun he te ke=>?_;replace te:PairAt he TO x y:=te;replace ke:ce TO hd he:=ke;apply aa;refine qw (aq (aq ?_));apply aa;refine fz te rfl ?_;apply aa;refine n9 ?_;have sz:he.objs.size=s.heap.objs.size:=by rw[ke.1,kd.1,kc.1,kb.1,ka.1,sz0]
  have ze:he.get? z=some (ZRec TI TO .ellipsis f1'):=ke.extBut _ _ D.TOz.symm zd;have zlt:z<he.objs.size:=bj ze;have e1e:S1 (i+1) he:=D1.frame _ _ _ e1d fun b hb' o e=>ke.extBut b o (fun q=>D.f1T (q▸hb')) e;have e2e:S2 (i+1) he:=D2.frame _ _ _ s2d fun b hb' o e=>ke.extBut b o (fun q=>D.f2T (q▸hb')) e;show wpAny _ _ (ku (.ref z) (.ref he.objs.size)>>=_) _ _ _;apply aa
  delta ku
  have zf:(he.push {cls:=.type "tuple",data:=.seq #[x,y]}).get? z=some (ZRec TI TO .ellipsis f1'):=ae _ ze;apply aa;refine et zf (by simp) fun hg zg kg=>?_;replace zg:hg.get? z=some (ZRec TI TO (my he.objs.size) f1'):=zg;refine et zg (by simp) fun hh zh kh=>?_;replace zh:hh.get? z=some (ZRec TI TO (my he.objs.size) false):=zh;have up:∀c o,c≠z->he.get? c=some o->hh.get? c=some o:=fun c o hc e=>kh.extBut _ _ hc (kg.extBut _ _ hc (ae _ e));have new:PairAt hh he.objs.size x y:=kh.extBut _ _ (ls zlt) (kg.extBut _ _ (ls zlt) (a8 _ rfl));refine aq ⟨.ref he.objs.size,rfl,?_⟩;rw[sz]at new ⊢;refine hQ x y hh tk2 _ _ x y hPx hPy (.inr ⟨_,rfl⟩) zh (up _ _ D.TOz te) (D1.frame _ _ _ e1e fun b hb' o e=>up b o (fun q=>D.f1z (q▸hb')) e) (D2.frame _ _ _ e2e fun b hb' o e=>up b o (fun q=>D.f2z (q▸hb')) e) new fun c o c1 c2 c3 c4 e=>?_;exact up c o c1 (ke.extBut _ _ c2 (kd.extBut _ _ c4 (kc.extBut _ _ c2 (kb.extBut _ _ c3 (ka.extBut _ _ c1 (k0 c o c1 e))))))
 |false=>
  rw[if_neg (by decide)]
  dsimp only
  apply aa;rw[<-t7];simp only[og,k8];apply aa;apply aa;apply dn;show wpAny (model prog w) A (cr (.ref i1)>>=_) _ _ _;apply aa;refine D1.item i _ _ _ l1 e1 fun x hb tk hPx s1b kb=>aq (aq ?_);replace kb:ce i1 h₀ hb:=kb;have e2b:S2 i hb:=D2.frame _ _ _ e2 fun b hb' o e=>kb.extBut b o (fun q=>D.f2i (q▸hb')) e;apply aa;apply aa;apply dn;show wpAny (model prog w) A (cr (.ref i2)>>=_) _ _ _;apply aa;refine D2.item i _ _ _ l2 e2b fun y hd tk2 hPy s2d kd=>aq (aq (aq ?_));replace kd:ce i2 hb hd:=kd;have e1d:S1 (i+1) hd:=D1.frame _ _ _ s1b fun b hb' o e=>kd.extBut b o (fun q=>D.f1i (q▸hb')) e;have sz:hd.objs.size=s.heap.objs.size:=by rw[kd.1,kb.1,sz0]
  apply aa;refine n9 (aq ⟨_,rfl,?_⟩) (by show 2<=az;decide);have up:∀c o,hd.get? c=some o->(hd.push {cls:=.type "tuple",data:=.seq #[x,y]}).get? c=some o:=fun c o e=>ae _ e;have zd:hd.get? z=some (ZRec TI TO f0 f1'):=kd.extBut _ _ D.i2z.symm (kb.extBut _ _ D.i1z.symm hz₀);have td:PairAt hd TO a b:=kd.extBut _ _ D.TOi2 (kb.extBut _ _ D.TOi1 t0);have new:PairAt (hd.push {cls:=.type "tuple",data:=.seq #[x,y]}) hd.objs.size x y:=a8 _ rfl;show Q (.ref hd.objs.size) _;rw[sz]at new ⊢;refine hQ x y _ tk2 f0 f1' a b hPx hPy hf (up _ _ zd) (up _ _ td) (D1.frame _ _ _ e1d fun b hb' o e=>up b o e) (D2.frame _ _ _ s2d fun b hb' o e=>up b o e) new fun c o c1 c2 c3 c4 e=>?_;exact up c o (kd.extBut _ _ c4 (kb.extBut _ _ c3 (k0 c o c1 e)))
theorem znm {Q:Fin->ac->Prop}(D:ZApart z TI TO i1 i2 p1 p2)(D1:Draws prog w A i1 p1 n1 P1 S1)(D2:Draws prog w A i2 p2 n2 P2 S2)(hf:ZF f0)(hz:s.heap.get? z=some (ZRec TI TO f0 f1))(hTI:PairAt s.heap TI (.ref i1) (.ref i2))(hTO:PairAt s.heap TO a b)(h1:S1 i s.heap)(h2:S2 i s.heap)(hl:i=min n1 n2)
  (hE:∀h' tk e,Zk z TO i1 i2 s.heap h'->(∃o,h'.get? e=some o/\o.cls=.type "StopIteration")->E (.ref e) {s with heap:=h',toks:=tk}):
  wpAny (model prog w) A (Builtin.«zip.__next__» {pos:=[.ref z],kw:=[]}) Q E s:=by
 show wpAny (model prog w) A (field (.ref z) 2>>=_) _ E s;apply aa;refine d6 hz rfl (x:=.bool false) rfl ?_;show wpAny (model prog w) A (field (.ref z) 3>>=_) _ E s;apply aa;refine d6 hz rfl (x:=.ref TI) rfl ?_;apply aa;refine fz hTI rfl ?_;show wpAny (model prog w) A (d8 (.ref z)>>=_) _ E s;apply aa;refine z9n hf hz fun bf h₀ f1' hz₀ sb₀=>?_;have k0:∀c o,c≠z->s.heap.get? c=some o->h₀.get? c=some o:=fun c o hc e=>sb₀.extBut c o hc e;have e1:S1 i h₀:=D1.frame _ _ _ h1 fun b hb o e=>k0 b o (fun q=>D.f1z (q▸hb)) e;have e2:S2 i h₀:=D2.frame _ _ _ h2 fun b hb o e=>k0 b o (fun q=>D.f2z (q▸hb)) e;have t0:PairAt h₀ TO a b:=k0 _ _ D.TOz hTO;cases bf with
 |true=>
  rw[if_pos rfl];apply aa;refine lf ?_;apply aa;refine d6 hz₀ rfl (x:=.ref TO) rfl ?_;apply aa;refine et hz₀ (by simp) fun ha za ka=>?_;replace za:ha.get? z=some (ZRec TI TO .ellipsis f1'):=za;have e1a:S1 i ha:=D1.frame _ _ _ e1 fun b hb o e=>ka.extBut b o (fun q=>D.f1z (q▸hb)) e;have e2a:S2 i ha:=D2.frame _ _ _ e2 fun b hb o e=>ka.extBut b o (fun q=>D.f2z (q▸hb)) e;have ta:PairAt ha TO a b:=ka.extBut _ _ D.TOz t0;apply aa;simp only[k8,og,List.zipIdx_cons,List.zipIdx_nil];apply aa;apply aa;apply o5;show wpAny (model prog w) A (cr (.ref i1)>>=_) _ _ _;apply aa;by_cases hi:i<n1
  ·refine D1.item i _ _ _ hi e1a fun x hb tk hPx s1b kb=>aq ?_;replace kb:ce i1 ha hb:=kb;have tb:PairAt hb TO a b:=kb.extBut _ _ D.TOi1 ta;have zb:hb.get? z=some (ZRec TI TO .ellipsis f1'):=kb.extBut _ _ D.i1z.symm za;have e2b:S2 i hb:=D2.frame _ _ _ e2a fun b hb' o e=>kb.extBut b o (fun q=>D.f2i (q▸hb')) e;apply aa;refine fz tb rfl ?_;apply aa;refine z8b tb fun hc tc kc=>?_;replace kc:ce TO hb hc:=kc;apply aa;refine qw (aq ?_);have zc:hc.get? z=some (ZRec TI TO .ellipsis f1'):=kc.extBut _ _ D.TOz.symm zb;have e2c:S2 n2 hc:=by rw[show n2=i by omega];exact D2.frame _ _ _ e2b fun b hb' o e=>kc.extBut b o (fun q=>D.f2T (q▸hb')) e
   apply aa;apply aa;apply o5;show wpAny (model prog w) A (cr (.ref i2)>>=_) _ _ _;apply aa;refine D2.done _ _ _ e2c fun hd e kd he=>?_;obtain⟨oe,hoe,hce⟩:=he;have zd:hd.get? z=some (ZRec TI TO .ellipsis f1'):=kd _ _ D.i2z.symm zc;have hez:e≠z:=fun q=>by subst q;rw[zd]at hoe;cases hoe;simp at hce
   refine et zd (by simp) fun he' _ ke=>hE he' tk e (fun c o c1 c2 c3 c4 q=>?_) ⟨oe,ke.extBut _ _ hez hoe,hce⟩;exact ke.extBut _ _ c1 (kd _ _ c4 (kc.extBut _ _ c2 (kb.extBut _ _ c3 (ka.extBut _ _ c1 (k0 c o c1 q)))))
  ·have e1n:S1 n1 ha:=by rw[show n1=i by omega];exact e1a
   refine D1.done _ _ _ e1n fun hd e kd he=>?_;obtain⟨oe,hoe,hce⟩:=he;have zd:hd.get? z=some (ZRec TI TO .ellipsis f1'):=kd _ _ D.i1z.symm za;have hez:e≠z:=fun q=>by subst q;rw[zd]at hoe;cases hoe;simp at hce
   refine et zd (by simp) fun he' _ ke=>hE he' s.toks e (fun c o c1 c2 c3 c4 q=>?_) ⟨oe,ke.extBut _ _ hez hoe,hce⟩;exact ke.extBut _ _ c1 (kd _ _ c3 (ka.extBut _ _ c1 (k0 c o c1 q)))
 |false=>
  rw[if_neg (by decide)]
  dsimp only
  apply aa;rw[<-t7];simp only[og,k8];apply aa;apply aa;apply dn;show wpAny (model prog w) A (cr (.ref i1)>>=_) _ _ _;apply aa;by_cases hi:i<n1
  ·refine D1.item i _ _ _ hi e1 fun x hb tk hPx s1b kb=>aq (aq ?_);replace kb:ce i1 h₀ hb:=kb;have e2b:S2 n2 hb:=by rw[show n2=i by omega];exact D2.frame _ _ _ e2 fun b hb' o e=>kb.extBut b o (fun q=>D.f2i (q▸hb')) e
   apply aa;apply aa;apply dn;show wpAny (model prog w) A (cr (.ref i2)>>=_) _ _ _;apply aa;exact D2.done _ _ _ e2b fun hd e kd he=>hE hd tk e (fun c o c1 c2 c3 c4 q=>kd _ _ c4 (kb.extBut _ _ c3 (k0 c o c1 q))) he
  ·have e1n:S1 n1 h₀:=by rw[show n1=i by omega];exact e1
   exact D1.done _ _ _ e1n fun hd e kd he=>hE hd s.toks e (fun c o c1 c2 c3 c4 q=>kd _ _ c3 (k0 c o c1 q)) he
end
end Mi
namespace Mi
open PySem PySem.Spec PyProof.Rows L2
section
variable {prog:ba}{w:World}{A:b6}{E:Value->ac->Prop}{s:ac}
theorem zb5 {it t:Addr}{i:Nat}{items:Array Value}{x:Value}{Q:Value->ac->Prop}(hit:s.heap.IsTupleIter it t i)(ht:s.heap.IsTuple t items)(hx:items[i]?=some x)
  (hQ:∀h',h'.IsTupleIter it t (i+1)->ce it s.heap h'->Q x {s with heap:=h'}):wpAny (model prog w) A (cr (.ref it)) Q E s:=by
 have ty:=hit.typeIs;obtain⟨⟨ocls,odict,odata,oslots⟩,ho,hc,hd⟩:=hit;obtain⟨⟨tcls,tdict,tdata,tslots⟩,to,tc,n,td⟩:=ht;cases hc;cases hd;cases tc;cases td;apply aa;refine gi ty F.slot_tuple_iterator_next (e8 F.slot_tuple_iterator_next ty F.entry_tuple_iterator_next ?_ (F.args_tuple_iterator_next_1 _));show wpAny _ _ (field (.ref it) 0>>=_) _ _ _;apply aa;refine d6 ho rfl (x:=.ref t) rfl ?_;show wpAny _ _ (field (.ref it) 1>>=_) _ _ _;apply aa;refine d6 ho rfl (x:=.int i 0) rfl ?_;apply aa;refine fz to rfl ?_;have ei:((i:Int)).toNat=i:=gk i
 dsimp only
 rw[ei,hx];apply aa;refine wpAny_setField ho rfl (by simp) ?_;refine aq ⟨x,rfl,aq (hQ _ ⟨_,f9 _ ho rfl,rfl,?_⟩ (sg _ _ _))⟩;rfl
theorem z69 {it t:Addr}{i:Nat}{items:Array Value}{Q:Value->ac->Prop}(hh:A.handled=none)(hit:s.heap.IsTupleIter it t i)(ht:s.heap.IsTuple t items)(hx:items[i]?=none)
  (hE:∀h' e,Heap.ExtBut it s.heap h'->(∃o,h'.get? e=some o/\o.cls=.type "StopIteration")->E (.ref e) {s with heap:=h'}):wpAny (model prog w) A (cr (.ref it)) Q E s:=by
 have ty:=hit.typeIs;obtain⟨⟨ocls,odict,odata,oslots⟩,ho,hc,hd⟩:=hit;obtain⟨⟨tcls,tdict,tdata,tslots⟩,to,tc,n,td⟩:=ht;cases hc;cases hd;cases tc;cases td;apply aa;refine gi ty F.slot_tuple_iterator_next (e8 F.slot_tuple_iterator_next ty F.entry_tuple_iterator_next ?_ (F.args_tuple_iterator_next_1 _));show wpAny _ _ (field (.ref it) 0>>=_) _ _ _;apply aa;refine d6 ho rfl (x:=.ref t) rfl ?_;show wpAny _ _ (field (.ref it) 1>>=_) _ _ _;apply aa;refine d6 ho rfl (x:=.int i 0) rfl ?_;apply aa;refine fz to rfl ?_;have ei:((i:Int)).toNat=i:=gk i
 dsimp only
 rw[ei,hx];apply aa;refine lf ?_;apply aa;refine wpAny_setField ho rfl (by simp) ?_
 delta Builtin.SmallTypes.stopIteration
 repeat (any_goals (first|assumption|wp_step))
 refine wpAny_raiseNew_none (show A.in1.handled=none from hh) ?_;refine hE _ _ (fun b o hb e=>?_) ⟨_,a8 _ rfl,rfl⟩;refine ae _ (ae _ ?_);rw[sf _ _ _ _ hb];exact e
theorem zqi (hh:A.handled=none)(it t:Addr)(hne:t≠it)(items:Array Value):Draws prog w A it [it,t] items.size (fun i v=>items[i]?=some v) (fun i h=>h.IsTupleIter it t i/\h.IsTuple t items) where
 live:=fun i h st=>let⟨⟨o,ho,_⟩,_⟩:=st;⟨o,ho⟩
 frame:=fun i h h' st k=>by obtain⟨⟨o,ho,r⟩,⟨o2,ho2,r2⟩⟩:=st;exact⟨⟨o,k it (by simp) o ho,r⟩,⟨o2,k t (by simp) o2 ho2,r2⟩⟩
 item:=fun i s1 Q1 E1 hi st hQ=>by refine zb5 st.1 st.2 (kr hi) fun h' h1 sb=>?_;obtain⟨o2,ho2,r2⟩:=st.2;exact hQ _ h' s1.toks (kr hi) ⟨h1,⟨o2,sb.extBut t o2 hne ho2,r2⟩⟩ sb
 done:=fun s Q E st hE=>z69 hh st.1 st.2 (Array.getElem?_eq_none (am _)) hE
end
def IsB (h:Heap)(l:Bool)(a:Addr)(xs:Array Value):Prop:=match l with
 |true=>h.IsList a xs
 |false=>h.IsTuple a xs
def ItB (h:Heap)(l:Bool)(it a:Addr)(i:Nat):Prop:=match l with
 |true=>h.IsListIter it a i
 |false=>h.IsTupleIter it a i
def SqB (K:W.Frag)(H:Hp)(l:Bool)(a:Addr)(vs:List V):Prop:=match l with
 |true=>SqL K H a vs
 |false=>SqT K H a vs
def SrB (K:W.Frag)(H:Hp)(B:Ad->Prop)(l:Bool)(a:Addr)(vs:List V):Prop:=match l with
 |true=>(H a=some (.lst vs)/\B (some a))\/(FL K H a vs/\B none)
 |false=>SqT K H a vs
abbrev itObj (l:Bool)(a:Addr):Obj:={cls:=.type (if l then "list_iterator"else "tuple_iterator"),data:=.fields #[.ref a,.int 0 0]}
theorem SrB.keep {K:W.Frag}{H H2:Hp}{B:Ad->Prop}{l:Bool}{a:Addr}{vs:List V}(h:SrB K H B l a vs)(k:Kp B H H2):SqB K H2 l a vs:=by
 cases l with
 |true=>
  rcases h with⟨h,b⟩|⟨⟨o,h⟩|h,_⟩
  ·exact .inl (.inl (k a _ h (.inl b)))
  ·exact .inl (.inr ⟨o,k a _ h (.inr True.intro)⟩)
  ·exact .inr h
 |false=>exact SqT.keep k h
theorem SrB.of {K:W.Frag}{H:Hp}{B:Ad->Prop}{v:V}{d:D}{xs:List D}(r:Rep K H B v d)(e:seqI d=.ok xs):∃l a vs,v=.ref a/\SrB K H B l a vs/\Reps K H B vs xs/\imms xs=true/\xs.length<=LIM:=by
 cases d<;>try (exact(z13 e).elim)
 case list ds=>
  have e:(if(imms ds&&decide (ds.length<=LIM))=true then Res.ok ds else Res.no)=Res.ok xs:=e;split at e
  ·rename_i hc;cases e;obtain⟨a,vs,rfl,h,rs⟩:=r;exact⟨true,a,vs,rfl,h,rs,(ar.mp hc).1,vy (ar.mp hc).2⟩
  ·cases e
 case tuple ds=>
  have e:(if(imms ds&&decide (ds.length<=LIM))=true then Res.ok ds else Res.no)=Res.ok xs:=e;split at e
  ·rename_i hc;cases e;obtain⟨a,vs,rfl,h,rs⟩:=r;exact⟨false,a,vs,rfl,h,rs,(ar.mp hc).1,vy (ar.mp hc).2⟩
  ·cases e
section
variable {X:Cx}{pins:List (Addr×Obj)}{σ:L2.St}{H:Hp}{s:ac}
theorem SqB.items {l:Bool}{a:Addr}{vs:List V}(I:Inv X pins σ H s)(h:SqB X.K H l a vs):∃its:List Value,Vals vs its/\IsB s.heap l a its.toArray/\vs.length=its.length:=by
 cases l with
 |true=>obtain⟨its,rv,p,_⟩:=I.list h;exact⟨its,rv,p.isList,rv.length⟩
 |false=>obtain⟨its,rv,p,_⟩:=I.tuple h;exact⟨its,rv,p,rv.length⟩
end
theorem z5b {prog:ba}{w:World}{A:b6}(hh:A.handled=none)(l:Bool)(it a:Addr)(hne:a≠it)(items:Array Value):Draws prog w A it [it,a] items.size (fun i v=>items[i]?=some v) (fun i h=>ItB h l it a i/\IsB h l a items):=by
 cases l with
 |true=>exact Draws.list hh it a hne items
 |false=>exact zqi hh it a hne items
theorem ItB.live {h:Heap}{l:Bool}{it a:Addr}{i:Nat}(x:ItB h l it a i):∃o,h.get? it=some o/\∀v,o.data≠.cell v:=by cases l<;>(obtain⟨o,ho,_,hd⟩:=x;exact⟨o,ho,fun v z=>by rw[hd]at z;cases z⟩)
theorem ItB.keep {h h':Heap}{l:Bool}{it a:Addr}{i:Nat}(x:ItB h l it a i)(k:∀o,h.get? it=some o->h'.get? it=some o):ItB h' l it a i:=by cases l<;>(obtain⟨o,ho,r⟩:=x;exact⟨o,k o ho,r⟩)
theorem ItB.new {h:Heap}{l:Bool}{it a:Addr}(x:h.get? it=some (itObj l a)):ItB h l it a 0:=by cases l<;>exact⟨_,x,rfl,rfl⟩
theorem IsB.lt {h:Heap}{l:Bool}{a:Addr}{xs:Array Value}(x:IsB h l a xs):a<h.objs.size:=by cases l<;>(obtain⟨o,ho,_⟩:=x;exact bj ho)
theorem IsB.push {h:Heap}{l:Bool}{a:Addr}{xs:Array Value}(x:IsB h l a xs)(o:Obj):IsB (h.push o) l a xs:=by cases l<;>(obtain⟨q,hq,r⟩:=x;exact⟨q,ae _ hq,r⟩)
theorem zao {prog:ba}{w:World}{A:b6}{E:Value->ac->Prop}{s:ac}{l:Bool}{a:Addr}{xs:Array Value}{Q:Value->ac->Prop}(h:IsB s.heap l a xs)(hQ:Q (.ref s.heap.objs.size) {s with heap:=s.heap.push (itObj l a)}):wpAny (model prog w) A (pw (.ref a)) Q E s:=by
 cases l with
 |true=>exact uj h hQ
 |false=>exact n8 h hQ
section
variable {X:Cx}{pins:List (Addr×Obj)}{σ:L2.St}{H:Hp}{s:ac}
theorem _root_.L2.Inv.turnedTL {fp:List Addr}{p:Addr}{h':Heap}{t':Nat}{xs:List V}(I:Inv X pins σ H s)(f:∀b∈fp,FpOk X pins H b)(keep:∀b q,b∉fp->s.heap.get? b=some q->h'.get? b=some q)(hp:s.heap.objs.size<=p)
  (new:z0w X.prog X.w (upd H p (.tup xs)) h' p (.tup xs)):Inv X pins σ (upd H p (.tup xs)) {s with heap:=h',toks:=t'}:=by
 have hn:H p=none:=I.hok.fresh hp;have away:∀b u,H b=some u->b∉fp:=fun b u e1 z=>by rw[(f b z).1]at e1;cases e1
 have loc:X.env.locals∉fp:=fun z=>(f _ z).2.1 rfl;refine I.step (g':=s.gens) (d':=s.drawn) (ch:=fp) (fun b hb=>?_) (fun b q _ _ hc e _=>keep b q hc e) (fun b q _ _ hc e _=>⟨q.slots,keep b q hc e⟩) (fun b q _ e n=>by rw[z05 (b7 (bz (bj e) hp))];exact n) (fun b q hc e=>⟨q,keep b q hc e⟩) (fun b xs q=>by rw[z05 (z06 q hn)];exact q) (fun b u xs q=>by rw[z05 (z06 q hn)];exact q) (fun b ps q=>⟨#[],by rw[z05 (z06 q hn),q];simp⟩) (fun m hm=>?_) (fun b u e=>?_) I.bare
 ·obtain⟨f0,f1,f2,f3,f4,f5⟩:=f b hb;exact⟨f3,f1,f4,f5⟩
 ·exact hm.at fun q e=>keep _ q loc e
 ·by_cases hb:b=p
  ·subst hb;rw[z0d]at e;cases e;exact new
  ·rw[z05 hb]at e;refine(I.hok b u e).stay (fun c v hc q=>keep c v ?_ q) (fun c q=>by rw[z05 (z06 q hn)];exact q) fun c xs q=>by rw[z05 (z06 q hn)];exact q
   rcases hc with rfl|hc
   ·exact away _ _ e
   ·exact away _ _ hc
theorem _root_.L2.Inv.turnedL {fp:List Addr}{h':Heap}{t':Nat}(I:Inv X pins σ H s)(f:∀b∈fp,FpOk X pins H b)(keep:∀b q,b∉fp->s.heap.get? b=some q->h'.get? b=some q):Inv X pins σ H {s with heap:=h',toks:=t'}:=by
 have away:∀b u,H b=some u->b∉fp:=fun b u e1 z=>by rw[(f b z).1]at e1;cases e1
 have loc:X.env.locals∉fp:=fun z=>(f _ z).2.1 rfl;refine I.step (g':=s.gens) (d':=s.drawn) (ch:=fp) (fun b hb=>?_) (fun b q _ _ hc e _=>keep b q hc e) (fun b q _ _ hc e _=>⟨q.slots,keep b q hc e⟩) (fun b q _ e n=>n) (fun b q hc e=>⟨q,keep b q hc e⟩) (fun b xs q=>q) (fun b u xs q=>q) (fun b ps q=>⟨#[],by rw[q];simp⟩) (fun m hm=>?_) (fun b u e=>?_) I.bare
 ·obtain⟨f0,f1,f2,f3,f4,f5⟩:=f b hb;exact⟨f3,f1,f4,f5⟩
 ·exact hm.at fun q e=>keep _ q loc e
 ·refine(I.hok b u e).stay (fun c v hc q=>keep c v ?_ q) (fun c q=>q) fun c xs q=>q;rcases hc with rfl|hc
  ·exact away _ _ e
  ·exact away _ _ hc
end
theorem z8t {vs:List V}{its:List Value}{i:Nat}{x:Value}(rv:Vals vs its)(hi:i<vs.length)(hx:its.toArray[i]?=some x):∃v,vs[i]?=some v/\RelV v x:=by
 refine⟨vs[i],bq hi,?_⟩;obtain⟨u,e1,e2⟩:=rv.get (bq hi);have hx':its[i]?=some x:=by simpa using hx
 rw[hx']at e1;cases e1;exact e2
def ItE (K:W.Frag)(l:Bool)(t:Addr)(vs:List V):It:=⟨fun i H=>SqB K H l t vs/\i<vs.length,fun i H x H'=>∃p v,vs[i]?=some v/\H p=none/\x=.ref p/\H'=upd H p (.tup [.int i,v]),fun i H=>SqB K H l t vs/\i=vs.length⟩
theorem zdy {P:ba}{w:World}{K:W.Frag}{elts:List Expr}{x1:Nat}{pos:Pos}{l:Bool}{t e it:Addr}{vs:List V}(h1:t≠it)(h2:t≠e)(h3:e≠it):
  Turn P w K (.Tuple elts x1 pos) (ItE K l t vs) [e,it] e (fun i h=>(∃old,IsEnum h e it i old)/\ItB h l it t i) where
 mem:=by simp
 obj:=fun i h st b hb=>by
  obtain⟨⟨old,he⟩,hit⟩:=st;rcases(aw.mp hb)with rfl|hb
  ·exact⟨_,he,fun v z=>by cases z⟩
  ·obtain rfl:b=it:=by simpa using hb
   exact hit.live
 keep:=fun i h h' st k=>by obtain⟨⟨old,he⟩,hit⟩:=st;exact⟨⟨old,k e (by simp) _ he⟩,hit.keep fun o=>k it (by simp) o⟩
 item:=by
  intro X hP hw hK hc i pins s σ H E I hf st hg;subst hP hw hK;obtain⟨hq,hi⟩:=hg;obtain⟨⟨old,he⟩,hit⟩:=st;obtain⟨its,rv,p,hl⟩:=SqB.items I hq;have hA:X.A.in1.handled=none:=I.ok.hd hc;have D:=z5b (prog:=X.prog) (w:=X.w) (A:=X.A.in1) hA l it t h1 its.toArray;have W:=WalksT.enumerateD D e h3 (by simp[h3,Ne.symm h2]) (by simp);obtain⟨oi,hoi,_⟩:=hit.live;refine wpAny_pyNext_enum_itemD D he ⟨hit,p⟩ (by simp;omega) h3 (by simp[h3,Ne.symm h2]) fun x h' tk hx hout hst htup hsz kp=>⟨_,rfl,?_⟩;have hT:s.heap.objs.size≠e/\s.heap.objs.size≠it:=⟨fun z=>ci _ (z▸bj he),fun z=>ci _ (z▸bj hoi)⟩;refine W.go elts x1 pos i s.heap.objs.size {s with heap:=h',toks:=tk+1} _ _ ⟨⟨x,hout⟩,hst,hT.1,hT.2⟩ fun h'' st'' kp2=>?_;have nw':s.heap.objs.size∉ [e,it]:=by simp[hT.1,hT.2]
  have htup':=kp2 s.heap.objs.size _ nw' htup;have hHp:H s.heap.objs.size=none:=I.hok.fresh (am _);obtain⟨v,hv,rx⟩:=z8t rv hi hx;have I1:=I.turnedTL (fp:=[e,it]) (t':=tk+1) (xs:=[.int i,v]) (h':=h'') hf (fun b q hb z=>kp2 b q hb (kp b q (fun z=>hb (by simp[z])) (fun z=>hb (by simp[z])) z)) (am _) ⟨by rw[dq];simp,[.int i tk,x],.cons ⟨tk,rfl⟩ (.cons rx .nil),0,htup'⟩;refine⟨.ref s.heap.objs.size,_,I1,rfl,⟨_,v,hv,hHp,rfl,rfl⟩,⟨st''.1,st''.2.1⟩,fun b hb=>?_⟩;rw[z05 fun z:b=s.heap.objs.size=>nw' (by rw[<-z];exact hb)];exact(hf b hb).1
 done:=by intro X hP hw hK hc i pins s σ H E I hf st hg;subst hP hw hK;obtain⟨hq,hi⟩:=hg;obtain⟨⟨old,he⟩,hit⟩:=st;obtain⟨its,rv,p,hl⟩:=SqB.items I hq;have hA:X.A.in1.handled=none:=I.ok.hd hc;have D:=z5b (prog:=X.prog) (w:=X.w) (A:=X.A.in1) hA l it t h1 its.toArray;have St:ItB s.heap l it t its.toArray.size/\IsB s.heap l t its.toArray:=⟨by rw[ao,<-hl,<-hi];exact hit,p⟩;exact wpAny_pyNext_enum_endD D he St fun h' eb=>⟨rfl,I.turnedL (t':=s.toks) hf fun b o hb z=>eb b o (fun q=>hb (by simp[q])) z⟩
 self:=fun _ _ _ _ _ st h=>by obtain⟨⟨old,he⟩,_⟩:=st;exact ur he h
theorem z7t:∀(xs:List D) (k i:Nat),(z29 k xs)[i]?=(xs[i]?).map fun x=>.tuple [.int ((k+i:Nat):Int),x]
 | [],k,i=>by simp[z29]
 |x::xs,k,0=>by simp[z29]
 |x::xs,k,i+1=>by
  rw[z29,ll,ll,z7t xs (k+1) i];have:k+1+i=k+(i+1):=by omega
  rw[this]
theorem z39:∀(xs:List D) (k:Nat),(z29 k xs).length=xs.length
 | [],_=>rfl
 |x::xs,k=>by rw[z29,br,br,z39 xs]
theorem zdg {K:W.Frag}{H:Hp}{B:Ad->Prop}{l:Bool}{t:Addr}{vs:List V}{xs:List D}(hq:SrB K H B l t vs)(rs:Reps K H B vs xs)(hi:imms xs=true)(hz:xs.length<=az):Walk K (ItE K l t vs) B H (z29 0 xs):=by
 have hl:=rs.length;constructor
 ·rw[z39];exact hz
 ·intro H2 kp i h;rw[z39]at h;exact⟨hq.keep kp,by omega⟩
 ·intro H2 kp;exact⟨hq.keep kp,by rw[z39];exact hl.symm⟩
 ·intro H2 kp i x H3 h y;obtain⟨p,v,hv,hp,rfl,rfl⟩:=y;obtain⟨d,hd,rv⟩:=Reps.getV rs hv;have him:imm d=true:=z1a.mp hi d (bc hd);refine⟨Same.upd hp,.tuple [.int i,d],by rw[z7t,hd];simp,p,[.int i,v],rfl,SqT.of z0d,?_⟩;refine Reps.cons rfl (Reps.cons ?_ rfl);exact Rep.immK (H':=upd H2 p (.tup [.int i,v])) (fun a q e f=>by have h2:=kp a q e (.inr f);rw[z05 (z06 h2 hp)];exact h2) d him rv
theorem zb9 (l:Bool)(t:Addr)(items:Array Value):Meets (Builtin.«enumerate.__new__» {pos:=[.type "enumerate",.ref t]}) fun _ R s=>
  IsB s.heap l t items/\R (.ok (.ret (.ref (s.heap.push (itObj l t)).objs.size))) {s with heap:=(s.heap.push (itObj l t)).push {cls:=.type "enumerate",data:=.fields #[.none,.bool false,.ref s.heap.objs.size,my 0,.none,.none]}}:=by
 rintro prog w A R s ⟨ht,hR⟩
 have sub:=sub_enumerate
 delta Builtin.«enumerate.__new__»
 repeat (any_goals (first|assumption|(apply zao ht)|wp_step))
 refine wpAny_stack fun st _ _ _=>?_;refine j7 (Q:=fun _ s'=>s'=s) (aq rfl) (fun b s' hs=>?_) fun _ _ x=>x;subst hs;cases b
 all_goals repeat (any_goals (first|assumption|(apply zao ht)|wp_step))
 all_goals exact hR
theorem zh6 {prog:ba}{w:World}{A:b6}{E:Value->ac->Prop}{s:ac}{l:Bool}{t:Addr}{items:Array Value}{Q:Value->ac->Prop}(ht:IsB s.heap l t items)
  (hQ:Q (.ref (s.heap.push (itObj l t)).objs.size) {s with heap:=(s.heap.push (itObj l t)).push {cls:=.type "enumerate",data:=.fields #[.none,.bool false,.ref s.heap.objs.size,my 0,.none,.none]}}):wpAny (model prog w) A (call (.type "enumerate") [.ref t]) Q E s:=by
 refine callType_new F.called_enumerate (by decide) (F.typeCall_enumerate_1 _) (F.newCall_enumerate_1 _) (fun obj=>?_) F.entry_enumerate_new (zb9 l t items) ⟨ht,⟨_,a8 _ rfl,rfl⟩,hQ⟩;exact F.args_object_init_2 _ _
section
variable {X:Cx}{pins:List (Addr×Obj)}{σ:L2.St}
theorem z7e {H1:Hp}{s1:ac}{B:Ad->Prop}{y:V}{v:Value}{d:D}{xs:List D}{R:It->Hp->Prop}{elts:List Expr}{x1:Nat}{tp:Pos}(I1:Inv X pins σ H1 s1)(r1:RelV y v)(rv:Rep X.K H1 B y d)(e:seqI d=.ok xs)(q:∀J,Walk X.K J B H1 (z29 0 xs)->R J H1):
  wpAny (model X.prog X.w) X.A (call (.type "enumerate") [v]) (fun v' s2=>wpAny (model X.prog X.w) X.A (pw v') (PIE X pins σ (.Tuple elts x1 tp) R) X.xe s2) X.xe s1:=by
 obtain⟨l,t,ts,rfl,hq,rps,hi,hz⟩:=SrB.of rv e;cases r1;obtain⟨its,rvs,pt,_⟩:=SqB.items I1 (hq.keep (Kp.of (Same.refl H1)));refine zh6 pt ?_;generalize hR:s1.heap.push (itObj l t)=hp;have szp:hp.objs.size=s1.heap.objs.size+1:=by rw[<-hR];exact me _ _
 have I2:Inv X pins σ H1 {s1 with heap:=hp}:=I1.kept (t':=s1.toks) fun b o e=>hR▸ae _ e;generalize hR2:hp.push {cls:=.type "enumerate",data:=.fields #[.none,.bool false,.ref s1.heap.objs.size,my 0,.none,.none]}=hp2;have I3:Inv X pins σ H1 {s1 with heap:=hp2}:=I2.kept (t':=s1.toks) fun b o e=>hR2▸ae _ e;have g1:hp2.get? hp.objs.size=some {cls:=.type "enumerate",data:=.fields #[.none,.bool false,.ref s1.heap.objs.size,my 0,.none,.none]}:=by rw[<-hR2];exact a8 _ rfl
 have g2:hp2.get? s1.heap.objs.size=some (itObj l t):=by rw[<-hR2];refine ae _ ?_;rw[<-hR];exact a8 _ rfl
 have ht:t<s1.heap.objs.size:=pt.lt;refine ur (e:=hp.objs.size) (it:=s1.heap.objs.size) (i:=0) (old:=.none) g1 ?_;refine⟨hp.objs.size,[hp.objs.size,s1.heap.objs.size],_,ItE X.K l t ts,H1,rfl,I3,zdy (b7 ht) (b7 (nq ht (by rw[szp];exact l9 _))) (by rw[szp];exact Nat.succ_ne_self _),⟨⟨.none,g1⟩,ItB.new g2⟩,fun b hb=>?_,q _ (zdg hq rps hi (z0p hz))⟩;rcases(aw.mp hb)with rfl|hb
 ·exact I2.fpOk (am _) (I2.hok.fresh (am _))
 ·obtain rfl:b=s1.heap.objs.size:=by simpa using hb
  exact I1.fpOk (am _) (I1.hok.fresh (am _))
end
def ItZ (K:W.Frag)(l1:Bool)(a1:Addr)(vs:List V)(l2:Bool)(a2:Addr)(ws:List V):It:=⟨fun i H=>SqB K H l1 a1 vs/\SqB K H l2 a2 ws/\i<min vs.length ws.length,fun i H x H'=>∃p v w,vs[i]?=some v/\ws[i]?=some w/\H p=none/\x=.ref p/\H'=upd H p (.tup [v,w]),fun i H=>SqB K H l1 a1 vs/\SqB K H l2 a2 ws/\i=min vs.length ws.length⟩
def ZSt (z TI TO i1 i2:Addr)(l1:Bool)(a1:Addr)(l2:Bool)(a2:Addr)(i:Nat)(h:Heap):Prop:=(∃f0 f1,ZF f0/\h.get? z=some (ZRec TI TO f0 f1))/\PairAt h TI (.ref i1) (.ref i2)/\(∃a b,PairAt h TO a b)/\ItB h l1 i1 a1 i/\ItB h l2 i2 a2 i
theorem zoy {prog:ba}{w:World}{A:b6}{E:Value->ac->Prop}{s:ac}{tg:Expr}{z TI TO T:Addr}{f0:Value}{f1:Bool}{Q:Unit->ac->Prop}(ht:(isTup tg||isNm tg)=true)(hf:ZF f0)(hz:s.heap.get? z=some (ZRec TI TO f0 f1))
  (hQ:∀h' f0',ZF f0'->h'.get? z=some (ZRec TI TO f0' f1)->ce z s.heap h'->Q () {s with heap:=h'}):wpAny (model prog w) A (gu tg (.ref z) (.ref T)) Q E s:=by
 cases tg<;>first|(cases ht;done)|exact aq (hQ s.heap f0 hf hz (Heap.SameBut.refl ..))|skip
 delta gu
 apply aa;refine tq hz ?_;show wpAny _ _ (if(_&&(f0::_:List Value).toArray[0]?==some (my T))=true then _ else _) Q E s;by_cases hc:(some f0==some (my T))=true
 ·rw[if_pos (by simpa using hc)];apply aa;refine lf ?_;show wpAny (model prog w) A (setField (.ref z) 0 .none) Q E s;exact et hz (by simp) fun h' hz' sb=>hQ h' .none (.inl rfl) hz' sb
 ·rw[if_neg (by simpa using hc)];exact aq (hQ s.heap f0 hf hz (Heap.SameBut.refl ..))
theorem zgr {prog:ba}{w:World}{A:b6}{E:Value->ac->Prop}{s:ac}{z TI TO i1 i2:Addr}{p1 p2:List Addr}{n1 n2 i:Nat}{P1 P2:Nat->Value->Prop}{S1 S2:Nat->Heap->Prop}{a b:Value}{f0:Value}{f1:Bool}{Q:Option Value->ac->Prop}(D:ZApart z TI TO i1 i2 p1 p2)(D1:Draws prog w A.in1 i1 p1 n1 P1 S1)(D2:Draws prog w A.in1 i2 p2 n2 P2 S2)(hf:ZF f0)(hz:s.heap.get? z=some (ZRec TI TO f0 f1))(hTI:PairAt s.heap TI (.ref i1) (.ref i2))(hTO:PairAt s.heap TO a b)(h1:S1 i s.heap)(h2:S2 i s.heap)(l1:i<n1)(l2:i<n2)
  (hQ:∀x y h' tk f0' f1' a' b',P1 i x->P2 i y->ZF f0'->h'.get? z=some (ZRec TI TO f0' f1')->PairAt h' TO a' b'->S1 (i+1) h'->S2 (i+1) h'->PairAt h' s.heap.objs.size x y->Zk z TO i1 i2 s.heap h'->Q (some (.ref s.heap.objs.size)) {s with heap:=h',toks:=tk}):wpAny (model prog w) A (qk (.ref z)) Q E s:=by
 have ty:s.TypeIs (.ref z) "zip":=⟨_,hz,rfl⟩
 delta qk
 apply aa;apply wpAny_attempt;refine gi (name:=Str.ofString "__next__") ty F.slot_zip_next (e8 F.slot_zip_next ty F.entry_zip_next ?_ (F.args_zip_next_1 _));exact zgn D D1 D2 hf hz hTI hTO h1 h2 l1 l2 fun x y h' tk f0' f1' a' b' c1 c2 c3 c4 c5 c6 c7 c8 c9=>aq (hQ x y h' tk f0' f1' a' b' c1 c2 c3 c4 c5 c6 c7 c8 c9)
theorem zfo {prog:ba}{w:World}{A:b6}{E:Value->ac->Prop}{s:ac}{z TI TO i1 i2:Addr}{p1 p2:List Addr}{n1 n2 i:Nat}{P1 P2:Nat->Value->Prop}{S1 S2:Nat->Heap->Prop}{a b:Value}{f0:Value}{f1:Bool}{Q:Option Value->ac->Prop}(D:ZApart z TI TO i1 i2 p1 p2)(D1:Draws prog w A.in1 i1 p1 n1 P1 S1)(D2:Draws prog w A.in1 i2 p2 n2 P2 S2)(hf:ZF f0)(hz:s.heap.get? z=some (ZRec TI TO f0 f1))(hTI:PairAt s.heap TI (.ref i1) (.ref i2))(hTO:PairAt s.heap TO a b)(h1:S1 i s.heap)(h2:S2 i s.heap)(hl:i=min n1 n2)
  (hQ:∀h' tk,Zk z TO i1 i2 s.heap h'->Q none {s with heap:=h',toks:=tk}):wpAny (model prog w) A (qk (.ref z)) Q E s:=by
 have ty:s.TypeIs (.ref z) "zip":=⟨_,hz,rfl⟩
 delta qk
 apply aa;apply wpAny_attempt;refine gi (name:=Str.ofString "__next__") ty F.slot_zip_next (e8 F.slot_zip_next ty F.entry_zip_next ?_ (F.args_zip_next_1 _));refine znm D D1 D2 hf hz hTI hTO h1 h2 hl fun h' tk e kp he=>?_;obtain⟨o,ho,hc⟩:=he;apply aa;refine pi (T:="StopIteration") (b:=true) ⟨o,ho,hc⟩ isSubtype_stop ?_;exact aq (hQ _ _ kp)
theorem zg8 {P:ba}{w:World}{K:W.Frag}{tg:Expr}{z TI TO i1 i2 a1 a2:Addr}{l1 l2:Bool}{vs ws:List V}(ht:(isTup tg||isNm tg)=true)(D:ZApart z TI TO i1 i2 [i1,a1] [i2,a2])(n1:a1≠i1)(n2:a2≠i2):
  Turn P w K tg (ItZ K l1 a1 vs l2 a2 ws) [z,TI,TO,i1,i2] z (ZSt z TI TO i1 i2 l1 a1 l2 a2) where
 mem:=by simp
 obj:=fun i h st b hb=>by
  obtain⟨⟨f0,f1,_,hz⟩,hTI,⟨a,c,hTO⟩,h1,h2⟩:=st;simp only[cw,aw,or_false]at hb;rcases hb with rfl|rfl|rfl|rfl|rfl
  ·exact⟨_,hz,fun v q=>by cases q⟩
  ·exact⟨_,hTI,fun v q=>by cases q⟩
  ·exact⟨_,hTO,fun v q=>by cases q⟩
  ·exact h1.live
  ·exact h2.live
 keep:=fun i h h' st k=>by obtain⟨⟨f0,f1,hf,hz⟩,hTI,⟨a,c,hTO⟩,h1,h2⟩:=st;exact⟨⟨f0,f1,hf,k z (by simp) _ hz⟩,k TI (by simp) _ hTI,⟨a,c,k TO (by simp) _ hTO⟩,h1.keep fun o=>k i1 (by simp) o,h2.keep fun o=>k i2 (by simp) o⟩
 item:=by
  intro X hP hw hK hc i pins s σ H E I hf st hg;subst hP hw hK;obtain⟨hq1,hq2,hi⟩:=hg;obtain⟨⟨f0,f1,zf,hz⟩,hTI,⟨a,c,hTO⟩,h1,h2⟩:=st;obtain⟨its1,rv1,b1,e1⟩:=SqB.items I hq1;obtain⟨its2,rv2,b2,e2⟩:=SqB.items I hq2;have hA:X.A.in1.handled=none:=I.ok.hd hc;have D1:=z5b (prog:=X.prog) (w:=X.w) (A:=X.A.in1) hA l1 i1 a1 n1 its1.toArray;have D2:=z5b (prog:=X.prog) (w:=X.w) (A:=X.A.in1) hA l2 i2 a2 n2 its2.toArray;refine zgr D D1 D2 zf hz hTI hTO ⟨h1,b1⟩ ⟨h2,b2⟩ (by rw[ao];omega) (by rw[ao];omega) fun x y h' tk f0' f1' a' b' hx hy zf' hz' hTO' st1 st2 new kp=>⟨_,rfl,?_⟩;refine zoy ht zf' hz' fun h'' f0'' zf'' hz'' sb=>?_;have lt:∀{c o},s.heap.get? c=some o->s.heap.objs.size≠c:=fun e q=>ci _ (q▸bj e);obtain⟨o1,ho1,_⟩:=h1.live;obtain⟨o2,ho2,_⟩:=h2.live;have nw':s.heap.objs.size∉ [z,TI,TO,i1,i2]:=by simp[lt hz,lt hTI,lt hTO,lt ho1,lt ho2]
  have up:∀c o,c≠z->h'.get? c=some o->h''.get? c=some o:=fun c o hc e=>sb.extBut c o hc e;have new':PairAt h'' s.heap.objs.size x y:=up _ _ (lt hz) new;obtain⟨v,hv,rx⟩:=z8t rv1 (by omega) hx;obtain⟨u,hu,ry⟩:=z8t rv2 (by omega) hy;have hHp:H s.heap.objs.size=none:=I.hok.fresh (am _);have I1:=I.turnedTL (fp:=[z,TI,TO,i1,i2]) (t':=tk) (xs:=[v,u]) (h':=h'') hf (fun b q hb e=>up b q (fun q=>hb (by simp[q])) (kp b q (fun q=>hb (by simp[q])) (fun q=>hb (by simp[q])) (fun q=>hb (by simp[q])) (fun q=>hb (by simp[q])) e)) (am _) ⟨by rw[dq];simp,[x,y],.cons rx (.cons ry .nil),0,new'⟩;refine⟨.ref s.heap.objs.size,_,I1,rfl,⟨_,v,u,hv,hu,hHp,rfl,rfl⟩,⟨⟨f0'',f1',zf'',hz''⟩,up _ _ D.TIz (kp _ _ D.TIz D.TITO D.TIi1 D.TIi2 hTI),⟨a',b',up _ _ D.TOz hTO'⟩,st1.1.keep fun o=>up _ o D.i1z,st2.1.keep fun o=>up _ o D.i2z⟩,fun b hb=>?_⟩;rw[z05 fun q:b=s.heap.objs.size=>nw' (by rw[<-q];exact hb)];exact(hf b hb).1
 done:=by intro X hP hw hK hc i pins s σ H E I hf st hg;subst hP hw hK;obtain⟨hq1,hq2,hi⟩:=hg;obtain⟨⟨f0,f1,zf,hz⟩,hTI,⟨a,c,hTO⟩,h1,h2⟩:=st;obtain⟨its1,rv1,b1,e1⟩:=SqB.items I hq1;obtain⟨its2,rv2,b2,e2⟩:=SqB.items I hq2;have hA:X.A.in1.handled=none:=I.ok.hd hc;have D1:=z5b (prog:=X.prog) (w:=X.w) (A:=X.A.in1) hA l1 i1 a1 n1 its1.toArray;have D2:=z5b (prog:=X.prog) (w:=X.w) (A:=X.A.in1) hA l2 i2 a2 n2 its2.toArray;refine zfo D D1 D2 zf hz hTI hTO ⟨h1,b1⟩ ⟨h2,b2⟩ (by rw[ao,ao];omega) fun h' tk kp=>⟨rfl,I.turnedL hf fun b q hb e=>?_⟩;exact kp b q (fun q=>hb (by simp[q])) (fun q=>hb (by simp[q])) (fun q=>hb (by simp[q])) (fun q=>hb (by simp[q])) e
 self:=fun _ _ _ _ _ st h=>by obtain⟨⟨f0,f1,_,hz⟩,_⟩:=st;have ty:Shared.TypeIs _ (.ref z) "zip":=⟨_,hz,rfl⟩;refine wpAny_pyIter_slot ty F.slot_zip_iter (e8 F.slot_zip_iter ty F.entry_zip_iter ?_ (F.args_zip_iter_1 _));show wpAny _ _ (ret (.ref z)) _ _ _;exact aq ⟨_,rfl,"zip",_,ty,F.slot_zip_next.lookup,h⟩
theorem z97:∀(xs ys:List D) (i:Nat) {x y:D},xs[i]?=some x->ys[i]?=some y->(zipD xs ys)[i]?=some (.tuple [x,y])
 |x::xs,y::ys,0,_,_,h1,h2=>by cases h1;cases h2;rfl
 |x::xs,y::ys,i+1,_,_,h1,h2=>z97 xs ys i h1 h2
 | [],_,i,_,_,h1,_=>by simp at h1
 |_::_,[],i,_,_,_,h2=>by simp at h2
theorem z48:∀(xs ys:List D),(zipD xs ys).length=min xs.length ys.length
 | [],_=>by simp[zipD]
 |_::_,[]=>by simp[zipD]
 |x::xs,y::ys=>by show(zipD xs ys).length+1=min (xs.length+1) (ys.length+1);rw[z48 xs ys];omega
theorem zge {K:W.Frag}{H:Hp}{B:Ad->Prop}{l1 l2:Bool}{a1 a2:Addr}{vs ws:List V}{xs ys:List D}(h1:SrB K H B l1 a1 vs)(h2:SrB K H B l2 a2 ws)(r1:Reps K H B vs xs)(r2:Reps K H B ws ys)(i1:imms xs=true)(i2:imms ys=true)(hz:xs.length<=az):Walk K (ItZ K l1 a1 vs l2 a2 ws) B H (zipD xs ys):=by
 have e1:=r1.length;have e2:=r2.length;constructor
 ·rw[z48];omega
 ·intro H2 kp i h;rw[z48]at h;exact⟨h1.keep kp,h2.keep kp,by omega⟩
 ·intro H2 kp;exact⟨h1.keep kp,h2.keep kp,by rw[z48];omega⟩
 ·intro H2 kp i x H3 h y;obtain⟨p,v,u,hv,hu,hp,rfl,rfl⟩:=y;obtain⟨d,hd,rv⟩:=Reps.getV r1 hv;obtain⟨d',hd',rv'⟩:=Reps.getV r2 hu;have him:imm d=true:=z1a.mp i1 d (bc hd);have him':imm d'=true:=z1a.mp i2 d' (bc hd');have kk:∀a q,H a=some q->Fix q->upd H2 p (.tup [v,u]) a=some q:=fun a q e f=>by have h2:=kp a q e (.inr f);rw[z05 (z06 h2 hp)];exact h2
  exact⟨Same.upd hp,.tuple [d,d'],z97 xs ys i hd hd',p,[v,u],rfl,SqT.of z0d,Reps.cons (Rep.immK kk d him rv) (Reps.cons (Rep.immK kk d' him' rv') rfl)⟩
theorem zf5 (l1 l2:Bool)(a1 a2:Addr)(xs ys:Array Value):Meets (Builtin.«zip.__new__» ⟨[.type "zip",.ref a1,.ref a2],[]⟩) fun _ R s=>IsB s.heap l1 a1 xs/\IsB s.heap l2 a2 ys/\
  ∀h1 h2 h3 h4 h5,h1=s.heap.push (itObj l1 a1)->h2=h1.push (itObj l2 a2)->h3=h2.push {cls:=.type "tuple",data:=.seq #[.ref s.heap.objs.size,.ref h1.objs.size]}->h4=h3.push {cls:=.type "tuple",data:=.seq #[.none,.none]}->h5=h4.push {cls:=.type "zip",data:=.fields #[.none,.bool false,.bool false,.ref h2.objs.size,.ref h3.objs.size]}->R (.ok (.ret (.ref h4.objs.size))) {s with heap:=h5}:=by
 rintro prog w A R s ⟨b1,b2,hR⟩
 have sub:=sub_zip;obtain⟨hp,gs,dp,tk,os⟩:=s;have c1:IsB (Shared.heap ⟨hp,gs,dp,tk,os⟩) l1 a1 xs:=b1;have c2:IsB (Shared.heap ⟨hp.push (itObj l1 a1),gs,dp,tk,os⟩) l2 a2 ys:=b2.push _
 wp_walk using zao c1,zao c2
 exact hR _ _ _ _ _ rfl rfl rfl rfl rfl
section
variable {X:Cx}{pins:List (Addr×Obj)}{σ:L2.St}
theorem zab {H1:Hp}{s1:ac}{B:Ad->Prop}{y1 y2:V}{u1 u2:Value}{d1 d2:D}{xs ys:List D}{R:It->Hp->Prop}{tg:Expr}(ht:(isTup tg||isNm tg)=true)(I1:Inv X pins σ H1 s1)(r1:RelV y1 u1)(r2:RelV y2 u2)(rv1:Rep X.K H1 B y1 d1)(rv2:Rep X.K H1 B y2 d2)(e1:seqI d1=.ok xs)(e2:seqI d2=.ok ys)(q:∀J,Walk X.K J B H1 (zipD xs ys)->R J H1):
  wpAny (model X.prog X.w) X.A (call (.type "zip") [u1,u2]) (fun v' s2=>wpAny (model X.prog X.w) X.A (pw v') (PIE X pins σ tg R) X.xe s2) X.xe s1:=by
 obtain⟨l1,a1,vs,rfl,q1,w1,m1,z1⟩:=SrB.of rv1 e1;obtain⟨l2,a2,ws,rfl,q2,w2,m2,z2⟩:=SrB.of rv2 e2;cases r1;cases r2;obtain⟨its1,_,b1,_⟩:=SqB.items I1 (q1.keep (Kp.of (Same.refl H1)));obtain⟨its2,_,b2,_⟩:=SqB.items I1 (q2.keep (Kp.of (Same.refl H1)));refine callType_new F.called_zip (by decide) (F.typeCall_zip_2 _ _) (F.newCall_zip_2 _ _) (fun obj=>F.args_object_init_3 obj _ _) F.entry_zip_new (zf5 l1 l2 a1 a2 its1.toArray its2.toArray) ⟨b1,b2,?_⟩;intro h1 h2 h3 h4 h5 k1 k2 k3 k4 k5;have s1z:h1.objs.size=s1.heap.objs.size+1:=by rw[k1];exact me _ _
 have s2z:h2.objs.size=s1.heap.objs.size+2:=by rw[k2,me,s1z]
 have s3z:h3.objs.size=s1.heap.objs.size+3:=by rw[k3,me,s2z]
 have s4z:h4.objs.size=s1.heap.objs.size+4:=by rw[k4,me,s3z]
 have p1:∀b o,s1.heap.get? b=some o->h1.get? b=some o:=fun b o e=>by rw[k1];exact ae _ e
 have p2:∀b o,h1.get? b=some o->h2.get? b=some o:=fun b o e=>by rw[k2];exact ae _ e
 have p3:∀b o,h2.get? b=some o->h3.get? b=some o:=fun b o e=>by rw[k3];exact ae _ e
 have p4:∀b o,h3.get? b=some o->h4.get? b=some o:=fun b o e=>by rw[k4];exact ae _ e
 have p5:∀b o,h4.get? b=some o->h5.get? b=some o:=fun b o e=>by rw[k5];exact ae _ e
 have I5:Inv X pins σ H1 {s1 with heap:=h5}:=I1.kept (t':=s1.toks) fun b o e=>p5 b o (p4 b o (p3 b o (p2 b o (p1 b o e))));have g1:h5.get? s1.heap.objs.size=some (itObj l1 a1):=p5 _ _ (p4 _ _ (p3 _ _ (p2 _ _ (by rw[k1];exact a8 _ rfl))));have g2:h5.get? h1.objs.size=some (itObj l2 a2):=p5 _ _ (p4 _ _ (p3 _ _ (by rw[k2];exact a8 _ rfl)));have g3:PairAt h5 h2.objs.size (.ref s1.heap.objs.size) (.ref h1.objs.size):=p5 _ _ (p4 _ _ (by rw[k3];exact a8 _ rfl));have g4:PairAt h5 h3.objs.size .none .none:=p5 _ _ (by rw[k4];exact a8 _ rfl);have g5:h5.get? h4.objs.size=some (ZRec h2.objs.size h3.objs.size .none false):=by rw[k5];exact a8 _ rfl
 have t1:a1<s1.heap.objs.size:=b1.lt;have t2:a2<s1.heap.objs.size:=b2.lt;have Da:ZApart h4.objs.size h2.objs.size h3.objs.size s1.heap.objs.size h1.objs.size [s1.heap.objs.size,a1] [h1.objs.size,a2]:=by have nn:∀{i j:Nat},i≠j->s1.heap.objs.size+i≠s1.heap.objs.size+j:=fun h z=>h (Nat.add_left_cancel z);have n0:∀{j:Nat},0≠j->s1.heap.objs.size≠s1.heap.objs.size+j:=fun h=>nn (i:=0) h;have no:∀{x y z:Addr},x≠y->x≠z->x∉ [y,z]:=fun h1 h2 h=>(aw.mp h).elim h1 fun q=>h2 (bp.mp q);have na:∀{a:Addr} {j:Nat},a<s1.heap.objs.size->s1.heap.objs.size+j≠a:=fun h z=>ci _ (bz h (z▸im _ _));rw[s1z,s2z,s3z,s4z];exact⟨nn (by decide),nn (by decide),n0 (by decide),nn (by decide),nn (by decide),(n0 (by decide)).symm,nn (by decide),(n0 (by decide)).symm,nn (by decide),n0 (by decide),no (n0 (by decide)).symm (na t1),no (n0 (by decide)).symm (na t1),no (n0 (by decide)).symm (na t1),no (nn (by decide)) (na t2),no (nn (by decide)) (na t2),no (n0 (by decide)) (na (j:=0) t2)⟩
 have T:=zg8 (P:=X.prog) (w:=X.w) (K:=X.K) (tg:=tg) (l1:=l1) (l2:=l2) (vs:=vs) (ws:=ws) ht Da (b7 t1) (by rw[s1z];exact b7 (ui t2));have St:ZSt h4.objs.size h2.objs.size h3.objs.size s1.heap.objs.size h1.objs.size l1 a1 l2 a2 0 h5:=⟨⟨.none,false,.inl rfl,g5⟩,g3,⟨_,_,g4⟩,ItB.new g1,ItB.new g2⟩;refine⟨⟨_,g5,rfl⟩,T.self _ 0 _ _ _ St ⟨h4.objs.size,_,_,_,H1,rfl,I5,T,St,fun b hb=>?_,q _ (zge q1 q2 w1 w2 m1 m2 (z0p z1))⟩⟩
 have hb2:s1.heap.objs.size<=b:=by
  rw[s1z,s2z,s3z,s4z]at hb;simp only[cw,aw,or_false]at hb;rcases hb with rfl|rfl|rfl|rfl|rfl
  ·exact im _ _
  ·exact im _ _
  ·exact im _ _
  ·exact am _
  ·exact im _ _
 exact I1.fpOk hb2 (I1.hok.fresh hb2)
end
section
variable {X:Cx}{a b:Expr}{fa fb:Rho->Res GD}{p pos:Pos}
theorem zbx:df "enumerate"=some (.type "enumerate"):=by decide+kernel
theorem zj9:df "zip"=some (.type "zip"):=by decide+kernel
theorem zko (hs:isStar a=false)(ha:PE X a (tD X.K fa)):PA X [a] (tDA X.K fun ρ=>fa ρ>>=fun x=>.ok [x]):=by refine PA.imp (zdq hs ha zou) fun σ H Q ⟨ρ,F,z,so,e,q⟩=>⟨ρ,F,z,so,?_,q⟩;obtain⟨x,e1,e⟩:=Res.bind_ok e;show(fa ρ>>=fun x=>Res.ok []>>=fun xs=>Res.ok (x::xs))=_;rw[e1];exact e
theorem zqn (hs:isStar a=false)(hs2:isStar b=false)(ha:PE X a (tD X.K fa))(hb:PE X b (tD X.K fb)):PA X [a,b] (tDA X.K fun ρ=>fa ρ>>=fun x=>fb ρ>>=fun y=>.ok [x,y]):=by refine PA.imp (zdq hs ha (zko hs2 hb)) fun σ H Q ⟨ρ,F,z,so,e,q⟩=>⟨ρ,F,z,so,?_,q⟩;obtain⟨x,e1,e⟩:=Res.bind_ok e;obtain⟨y,e2,e⟩:=Res.bind_ok e;show(fa ρ>>=fun x=>(fb ρ>>=fun y=>Res.ok [y])>>=fun xs=>Res.ok (x::xs))=_;rw[e1,Res.ok_bind,e2];exact e
theorem zpc {fs:Rho->Res GD}{ρ:Rho}{ys:List GD}(h:(fs ρ>>=fun x=>Res.ok [x])=.ok ys):∃x,fs ρ=.ok x/\ys=[x]:=by obtain⟨x,e,h⟩:=Res.bind_ok h;cases h;exact⟨x,e,rfl⟩
theorem z61 {K:W.Frag}{F:Fm}{H H1:Hp}{σ:L2.St}{ρ:Rho}{x:GD}{xs:List D}{v:V}(so:StOk K F H σ ρ)(hc:z58 x=true)(e:seqI x.2=.ok xs)(rv:Rep K H1 (BG F H x.1) v x.2):∃B,Rep K H1 B v x.2/\(∀a,B (some a)->F.O a=none)/\∀a,B a->BI F .al a:=by
 obtain⟨g,d⟩:=x;cases d<;>try (exact(z13 e).elim)
 case list ds=>
  have hg:g≠.al:=fun z=>by subst z;cases hc
  exact⟨_,rv,fun a h=>z9b so hg h,fun a h=>BI.of so.vis (g:=.al) (BG.vis so.vis h)⟩
 case tuple ds=>
  have hi:imm (.tuple ds)=true:=by
   have e:(if(imms ds&&decide (ds.length<=LIM))=true then Res.ok ds else Res.no)=Res.ok xs:=e;split at e
   ·rename_i h;exact(ar.mp h).1
   ·cases e
  exact⟨fun _=>False,Rep.immB _ hi rv,fun _ h=>h.elim,fun _ h=>h.elim⟩
theorem zrm {ρ:Rho}{ys:List GD}(h:(fa ρ>>=fun x=>fb ρ>>=fun y=>Res.ok [x,y])=.ok ys):∃x y,fa ρ=.ok x/\fb ρ=.ok y/\ys=[x,y]:=by obtain⟨x,e,h⟩:=Res.bind_ok h;obtain⟨y,e2,h⟩:=Res.bind_ok h;cases h;exact⟨x,y,e,e2,rfl⟩
theorem zhz {tg:Expr}(ht:(isTup tg||isNm tg)=true)(hm:X.mg "zip"=none)(hg:Gl X "zip")(hs:isStar a=false)(hs2:isStar b=false)(ha:PE X a (tD X.K fa))(hb:PE X b (tD X.K fb)):PI X tg (.Call (.Name "zip" p) [a,b] [] pos) (tDW X.K fun ρ=>fa ρ>>=fun x=>fb ρ>>=fun y=>seqI x.2>>=fun xs=>seqI y.2>>=fun ys=>.ok (.al,zipD xs ys)):=by intro pins s σ H R I h;obtain⟨ρ,F,w,so,e,q⟩:=h;obtain⟨x,e1,e⟩:=Res.bind_ok e;obtain⟨y,e2,e⟩:=Res.bind_ok e;obtain⟨xs,e3,e⟩:=Res.bind_ok e;obtain⟨ys,e4,e⟩:=Res.bind_ok e;cases e;refine Call_ (z3u I hg hm zj9 (PyProof.Rows.callWith_type1 (thn (zqn hs hs2 ha hb pos pins s σ H (fun vs H1=>Same H H1/\RGs X.K F H H1 vs [x,y]) I ⟨ρ,F,[x,y],so,by show(fa ρ>>=fun x=>fb ρ>>=fun y=>Res.ok [x,y])=_;rw[e1,Res.ok_bind,e2];rfl,fun vs H1 s1 rs=>⟨s1,rs⟩⟩) fun us s1 ⟨vs,H1,I1,r1,sm,rs⟩=>?_) (z0l hs) (by rw[z0l hs2];rfl)));obtain⟨v1,v2,rfl,rv1,rv2⟩:=rs.two;obtain⟨u1,u2,rfl,ru1,ru2⟩:=vals2 r1;have q1:=(Rep.there _ rv1).weak (B':=fun c=>visA F c/\¬nw H1 c) fun c z=>⟨BG.vis so.vis z.1,z.2⟩;have q2:=(Rep.there _ rv2).weak (B':=fun c=>visA F c/\¬nw H1 c) fun c z=>⟨BG.vis so.vis z.1,z.2⟩;exact zab ht I1 ru1 ru2 q1 q2 e3 e4 fun J wk=>q J _ H1 sm (fun c z=>z) wk
theorem zmz {tg:Expr}(ht:(isTup tg||isNm tg)=true)(hm:X.mg "zip"=none)(hg:Gl X "zip")(hs:isStar a=false)(hs2:isStar b=false)(ha:PE X a (tD X.K fa))(hb:PE X b (tD X.K fb)):PI X tg (.Call (.Name "zip" p) [a,b] [] pos) (tDF X.K fun ρ=>(fa ρ>>=fun x=>fb ρ>>=fun y=>.ok [x,y])>>=fun ys=>evZi ys ρ):=by
 intro pins s σ H R I h;obtain⟨ρ,F,w,so,e,q⟩:=h;obtain⟨zs,e0,e⟩:=Res.bind_ok e;obtain⟨x,y,e1,e2,rfl⟩:=zrm e0;have e:(if(z58 x&&z58 y)=true then(seqI x.2>>=fun xs=>seqI y.2>>=fun zs=>Res.ok (G.al,zipD xs zs,ρ))else Res.no)=Res.ok w:=e;split at e
 case isFalse=>cases e
 rename_i hc;obtain⟨c1,c2⟩:=ar.mp hc;obtain⟨xs,e3,e⟩:=Res.bind_ok e;obtain⟨ys,e4,e⟩:=Res.bind_ok e;cases e;refine Call_ (z3u I hg hm zj9 (PyProof.Rows.callWith_type1 (thn (zqn hs hs2 ha hb pos pins s σ H (fun vs H1=>Same H H1/\RGs X.K F H H1 vs [x,y]) I ⟨ρ,F,[x,y],so,by show(fa ρ>>=fun x=>fb ρ>>=fun y=>Res.ok [x,y])=_;rw[e1,Res.ok_bind,e2];rfl,fun vs H1 s1 rs=>⟨s1,rs⟩⟩) fun us s1 ⟨vs,H1,I1,r1,sm,rs⟩=>?_) (z0l hs) (by rw[z0l hs2];rfl)));obtain⟨v1,v2,rfl,rv1,rv2⟩:=rs.two;obtain⟨u1,u2,rfl,ru1,ru2⟩:=vals2 r1;obtain⟨B1,k1,k2,k3⟩:=z61 so c1 e3 rv1;obtain⟨B2,m1,m2,m3⟩:=z61 so c2 e4 rv2;have q1:=k1.weak (B':=fun c=>B1 c\/B2 c) fun c z=>.inl z;have q2:=m1.weak (B':=fun c=>B1 c\/B2 c) fun c z=>.inr z;exact zab ht I1 ru1 ru2 q1 q2 e3 e4 fun J wk=>q J _ H1 F sm Run.refl (Frm.same sm) (so.same sm) (fun c z=>z.elim (k2 c) (m2 c)) (fun c z=>z.elim (k3 c) (m3 c)) wk
theorem zjc {elts:List Expr}{x1:Nat}{tp:Pos}(hm:X.mg "enumerate"=none)(hg:Gl X "enumerate")(hs:isStar a=false)(ha:PE X a (tD X.K fa)):PI X (.Tuple elts x1 tp) (.Call (.Name "enumerate" p) [a] [] pos) (tDW X.K fun ρ=>fa ρ>>=fun x=>seqI x.2>>=fun xs=>.ok (.al,z29 0 xs)):=by intro pins s σ H R I h;obtain⟨ρ,F,w,so,e,q⟩:=h;obtain⟨x,e1,e⟩:=Res.bind_ok e;obtain⟨xs,e2,e⟩:=Res.bind_ok e;cases e;refine Call_ (z3u I hg hm zbx (PyProof.Rows.callWith_type1 (thn (zko hs ha pos pins s σ H (fun vs H1=>Same H H1/\RGs X.K F H H1 vs [x]) I ⟨ρ,F,[x],so,by show(fa ρ>>=fun x=>Res.ok [x])=_;rw[e1];rfl,fun vs H1 s1 rs=>⟨s1,rs⟩⟩) fun us s1 ⟨vs,H1,I1,r1,sm,rs⟩=>?_) (z0l hs) rfl));obtain⟨v,rfl,rv⟩:=rs.one;obtain⟨u,rfl,ru⟩:=vals1 r1;exact z7e I1 ru (Rep.there _ rv) e2 fun J wk=>q J _ H1 sm (fun c z=>⟨BG.vis so.vis z.1,z.2⟩) wk
theorem zqh {elts:List Expr}{x1:Nat}{tp:Pos}(hm:X.mg "enumerate"=none)(hg:Gl X "enumerate")(hs:isStar a=false)(ha:PE X a (tD X.K fa)):PI X (.Tuple elts x1 tp) (.Call (.Name "enumerate" p) [a] [] pos) (tDF X.K fun ρ=>(fa ρ>>=fun x=>.ok [x])>>=fun ys=>evEn ys ρ):=by
 intro pins s σ H R I h;obtain⟨ρ,F,w,so,e,q⟩:=h;obtain⟨ys,e0,e⟩:=Res.bind_ok e;obtain⟨x,e1,rfl⟩:=zpc e0;have e:(if z58 x=true then(seqI x.2>>=fun xs=>Res.ok (G.al,z29 0 xs,ρ))else Res.no)=Res.ok w:=e;split at e
 case isFalse=>cases e
 rename_i hc;obtain⟨xs,e2,e⟩:=Res.bind_ok e;cases e;refine Call_ (z3u I hg hm zbx (PyProof.Rows.callWith_type1 (thn (zko hs ha pos pins s σ H (fun vs H1=>Same H H1/\RGs X.K F H H1 vs [x]) I ⟨ρ,F,[x],so,by show(fa ρ>>=fun x=>Res.ok [x])=_;rw[e1];rfl,fun vs H1 s1 rs=>⟨s1,rs⟩⟩) fun us s1 ⟨vs,H1,I1,r1,sm,rs⟩=>?_) (z0l hs) rfl));obtain⟨v,rfl,rv⟩:=rs.one;obtain⟨u,rfl,ru⟩:=vals1 r1;obtain⟨B,rB,hB,hV⟩:=z61 so hc e2 rv;exact z7e I1 ru rB e2 fun J wk=>q J B H1 F sm Run.refl (Frm.same sm) (so.same sm) hB hV wk
theorem zur {es:List Expr}{fs:Rho->Res (List GD)}{lp:Pos}(h:PA X es (tDA X.K fs))(hb:PE X b (tD X.K fb))(hl:∀ρ xs,fs ρ=.ok xs->xs.length<=az):PE X (.BinOp (.List es lp) .Mult b pos) (tD X.K fun ρ=>fs ρ>>=fun ys=>fb ρ>>=fun n=>repD ys n.2):=by
 refine PE.imp (zre zr4 (zja h) hb) fun σ H Q zz=>?_;obtain⟨ρ,F,z,so,e,q⟩:=zz;obtain⟨ys,e1,e⟩:=Res.bind_ok e;obtain⟨n,e2,e⟩:=Res.bind_ok e;refine⟨ρ,F,ys,so,e1,fun vs H1 s1 rs=>?_⟩;have r:=rs.reps (B:=BG F H (gAll ys)) fun x hx a h=>z5q so.vis hx h;refine⟨by rw[r.length,af];exact hl ρ ys e1,fun p hp=>?_⟩;have sm:=s1.trans (Same.upd (o:=.lst vs) hp);refine⟨ρ,F,n,so.same sm,e2,fun v H2 s2 rv=>?_⟩;obtain⟨g,d⟩:=n;cases d<;>try (exact(z13 e).elim)
 rename_i k;have e:(if imms (ys.map (·.2))=true/\0<=k/\k<=LIM/\ys.length*k.toNat<=LIM then Res.ok (G.fr,PyData.list (z17 k.toNat (ys.map (·.2))))else Res.no)=Res.ok z:=e;split at e
 case isFalse=>cases e
 rename_i hc;obtain⟨hi,h0,h1,h2⟩:=hc;cases e;obtain rfl:v=.int k:=rv;have hvl:vs.length=ys.length:=by rw[r.length,af]
 refine⟨p,k,vs,rfl,rfl,s2 _ _ z0d,by unfold LIM at h1;omega,by unfold LIM at h1;omega,z0p (by rw[hvl];exact h2),fun p2 hp2=>?_⟩;refine q _ _ ((sm.trans s2).trans (Same.upd hp2)) ?_
 have r2:Reps X.K H2 (BG F H .fr) (z17 k.toNat vs) (z17 k.toNat (ys.map (·.2))):=by
  have r0:Reps X.K H2 (BG F H .fr) vs (ys.map (·.2)):=Reps.immB _ hi (r.same ((Same.upd hp).trans s2) fun _ z=>z);unfold z17;generalize k.toNat=m
  induction m with
  |zero=>exact rfl
  |succ m ih=>rw[dt,dt,d7,d7];exact Reps.append r0 ih
 have hnw:H p2=none:=by
  cases hh:H p2 with
  |none=>rfl
  |some o=>have:=(sm.trans s2) _ _ hh;rw[hp2]at this;cases this
 exact z1l hp2 r2 (fun _ z=>z) hnw
end
end Mi
namespace Mi
open PySem PySem.Spec PyProof.Rows L2 PySem.W
section
variable {prog:ba}{w:World}{A:b6}{E:Value->ac->Prop}{s:ac}
theorem zgo:tw (.type "list_reverseiterator") "__len__"=pure none:=by rw[m6,jw];kernel_rfl
theorem zll:tw (.type "list_reverseiterator") "__length_hint__"=pure (some (.builtin "list_reverseiterator.__length_hint__")):=by rw[m6,jw];kernel_rfl
theorem zpk {r:Addr}{Q:Bool->ac->Prop}(hT:s.TypeIs (.ref r) "list_reverseiterator")(h:Q false s):wpAny (model prog w) A (nv (.ref r)) Q E s:=by
 unfold nv;apply aa;refine wpAny_specialOf hT zgo ?_;show wpAny _ A (specialOf (Value.ref r) (Str.ofString "__length_hint__")>>=_) _ _ _;apply aa;refine wpAny_specialOf hT zll ?_;generalize hid:("list_reverseiterator.__length_hint__":String)=z0
 wp_delta
 rw[show splitId z0=some ("list_reverseiterator","__length_hint__")from by subst hid;decide+kernel];subst hid;apply aa;refine pi (b:=true) hT (by rw[isSubtype_type];kernel_rfl) ?_;exact aq h
abbrev RvAt (items:Array Value):Nat->Value->Prop:=fun i v=>items[items.size-1-i]?=some v
abbrev RvObj (acc:Array Value)(c:Nat):Obj:={cls:=.type "list",dict:=none,data:=.seq acc c,slots:=#[]}
theorem ze2 {R:vt->ac->Prop}{p l S:Addr}{items:Array Value}(hh:A.handled=none)(hit:s.heap.IsRevIter p l ((items.size:Int)-1))(hl:s.heap.IsList l items)(hne:l≠p)(hSp:S≠p)(hSl:S≠l)(res:Value)(c0:Nat)(hS:s.heap.get? S=some (RvObj #[] c0))
  (hR:∀h' tk acc c,(∀b o,b≠S->b≠p->s.heap.get? b=some o->h'.get? b=some o)->h'.get? S=some (RvObj acc c)->ItemsOf (RvAt items) acc items.size->R (.ok (.ret res)) {s with heap:=h',toks:=tk}) (hn:items.size<=az):
  wpAny (model prog w) A.in1 (d4 (.ref S) (.ref p) res) (fun fin s'=>match fin with|.done f=>R (.ok f) s'|.again c'=>c'.quiet=true/\mh (model prog w) A c' R s') (fun e s'=>R (.error e) s') s:=by
 have nS:S∉ [p,l]:=fun z=>by
  rcases aw.mp z with z|z
  ·exact hSp z
  ·exact hSl (bp.mp z)
 have W:=Walks.listRev (prog:=prog) (w:=w) (A:=A.in1) hh p l hne items
 have st0:∀h:Heap,(∀b o,b≠S->s.heap.get? b=some o->h.get? b=some o)->0<=items.size/\h.IsRevIter p l ((items.size:Int)-1-((0:Nat):Int))/\h.IsList l items:=fun h k=>by
  refine⟨dj _,?_,hl.at fun o e=>k l o (Ne.symm hSl) e⟩;have e:(items.size:Int)-1-((0:Nat):Int)=(items.size:Int)-1:=by omega
  rw[e];exact hit.at fun o e=>k p o (Ne.symm hSp) e
 have go:∀(h:Heap) (c tk:Nat),(∀b o,b≠S->s.heap.get? b=some o->h.get? b=some o)->h.get? S=some (RvObj #[] c)->mh (model prog w) A (.builtin "list.extend.loop" ⟨[.ref S,.ref p,res],[]⟩) R {s with heap:=h,toks:=tk}:=by
  intro h c tk hk hS1;refine codeAny_extend_loopS W.toS hn S nS res items.size 0 _ #[] c rfl (dj _) (st0 h hk) hS1 (ItemsOf.nil _) fun s' acc c' hm hS' ha=>?_;rw[Moved.eq_with hm];refine hR s'.heap s'.toks acc c' (fun b o hb hb2 e=>hm.heap b o (fun z=>?_) (hk b o hb e)) hS' ha;rcases aw.mp z with z|z
  ·exact hb z
  ·exact hb2 (bp.mp z)
 unfold d4;apply aa;refine lv (T:="list_reverseiterator") hit.typeIs ?_;have h1:o6 (.ref S) (.ref p)=false:=by simp[o6,hSp]
 have h2:(Value.type "list_reverseiterator"==Value.type "list")=false:=by decide
 have h3:(Value.type "list_reverseiterator"==Value.type "tuple")=false:=by decide
 simp only[h1,h2,h3,ox,gc,if_false];apply aa;refine wpAny_pyIter_revIter hit ?_;apply aa;refine dn (zpk hit.typeIs ?_);refine wpAny_ite_split (fun _=>?_) (fun _=>aq ⟨mm PySem.F.plain_extend_loop _,go _ c0 _ (fun _ _ _ e=>e) hS⟩);apply aa;refine lf ?_;apply aa;show wpAny _ _ (ux S (·.push .none)>>=fun _=>ux S (·.pop)) _ _ _;apply aa;refine m8 hS rfl ?_;have hS2:=f9 (Obj.mapSeq (·.push Value.none)) hS rfl;refine m8 (hz:=by seq_fits) hS2 rfl ?_;have hS3:=f9 (Obj.mapSeq (·.pop)) hS2 rfl;refine aq ⟨mm PySem.F.plain_extend_loop _,go _ _ _ (fun b o hb e=>?_) hS3⟩;rw[g8 _ _ (Ne.symm hb),g8 _ _ (Ne.symm hb)];exact e
theorem zm0 {p l:Addr}{items:Array Value}{Q:Value->ac->Prop}(hh:A.handled=none)(hit:s.heap.IsRevIter p l ((items.size:Int)-1))(hl:s.heap.IsList l items)(hne:l≠p)(hn:items.size<=az)
  (hQ:∀h' tk acc c,(∀b o,b≠p->s.heap.get? b=some o->h'.get? b=some o)->h'.get? s.heap.objs.size=some (RvObj acc c)->ItemsOf (RvAt items) acc items.size->Q (.ref s.heap.objs.size) {s with heap:=h',toks:=tk}):
  wpAny (model prog w) A (call (.type "list") [.ref p]) Q E s:=by
 refine callType_codes (Q₁:=fun x s1=>x=.ref s.heap.objs.size/\s1={s with heap:=s.heap.push (RvObj #[] 0)}) PySem.F.called_list (PySem.F.typeCall_list_1 _) PySem.F.entry_list_init (code_list_new _ ⟨rfl,rfl⟩) fun x s1 h1=>?_;obtain⟨rfl,rfl⟩:=h1;have hS:(s.heap.push (RvObj #[] 0)).get? s.heap.objs.size=some (RvObj #[] 0):=a8 _ rfl;obtain⟨oi,hoi,ri⟩:=id hit;obtain⟨ol,hol,rl⟩:=id hl;have n1:s.heap.objs.size≠p:=ls (bj hoi);have n2:s.heap.objs.size≠l:=ls (bj hol);refine⟨⟨_,hS,rfl⟩,PySem.F.args_list_init_2 _ _,?_⟩;show wpAny _ _ (do let old <-qd (.ref s.heap.objs.size);Builtin.List.listUpdate (.ref s.heap.objs.size) (fun _=>#[]);letGo old.toList.reverse;d4 (.ref s.heap.objs.size) (.ref p) .none) _ _ _;apply aa;unfold qd;apply aa;refine fz hS rfl (aq ?_);show wpAny _ _ (ux s.heap.objs.size (fun _=>#[])>>=fun _=>letGo (#[]:Array Value).toList.reverse>>=fun _=>d4 (.ref s.heap.objs.size) (.ref p) .none) _ _ _;apply aa;refine m8 hS rfl ?_;have hS2:=f9 (Obj.mapSeq (fun _=>(#[]:Array Value))) hS rfl;have oth:∀b o,b≠s.heap.objs.size->s.heap.get? b=some o->((s.heap.push (RvObj #[] 0)).update s.heap.objs.size (Obj.mapSeq (fun _=>(#[]:Array Value)))).get? b=some o:=fun b o hb e=>by rw[g8 _ _ (Ne.symm hb)];exact ae _ e
 apply aa;refine qw ?_;refine ze2 (A:=A.in1) hh ⟨oi,oth p oi (Ne.symm n1) hoi,ri⟩ ⟨ol,oth l ol (Ne.symm n2) hol,rl⟩ hne n1 n2 .none _ hS2 (fun h' tk acc c hk hS' ha=>?_) hn;exact⟨rfl,hQ h' tk acc c (fun b o hb e=>hk b o (b7 (bj e)) hb (oth b o (b7 (bj e)) e)) hS' ha⟩
end
theorem Reps.rev {K:W.Frag}{H:Hp}{B:Ad->Prop}:∀{vs:List V} {ds:List D},Reps K H B vs ds->Reps K H B vs.reverse ds.reverse
 |vs,[],r=>by have e:vs=[]:=r;subst e;exact rfl
 |vs,d::ds,r=>by obtain⟨v,t,e,h,q⟩:=r;subst e;rw[ja,ja];exact q.rev.append ⟨v,[],rfl,h,rfl⟩
theorem zfz {xs:List D}(h:imms xs=true):imms xs.reverse=true:=z1a.mpr fun x hx=>z1a.mp h x (List.mem_reverse.mp hx)
theorem zas:∀{vs:List V} {us:List Value},Vals vs us->Vals vs.reverse us.reverse
 |_,_,.nil=>.nil
 |_::vs,_::us,.cons r t=>by rw[ja,ja];exact(zas t).append (.cons r .nil)
section
variable {X:Cx}{a:Expr}{pos:Pos}{fa:Rho->Res GD}
def RI (X:Cx)(p l:Addr)(n:Nat):HO:=.ext fun h=>h.IsRevIter p l ((n:Int)-1)/\X.s₀.heap.objs.size<=p
def rRev (X:Cx):List V->Hp->VK->Prop:=fun xs H Q=>∃B x ds,xs=[x]/\Rep X.K H B x (.list ds)/\∀a vs p,SqL X.K H a vs->Reps X.K H B vs ds->H p=none->Q (.ref p) (upd H p (RI X p a vs.length))
theorem zw0:CallR X (.type "reversed") (rRev X):=by
 intro pins s σ H xs us Q I r h;obtain⟨B,x,ds,rfl,rx,q⟩:=h;obtain⟨a,vs,rfl,hsq,rs⟩:=z1t rx (show z4k (.list ds)=.ok (true,ds)from rfl);obtain⟨u,rfl,ru⟩:=vals1 r;cases ru;obtain⟨its,rv,pl,hz⟩:=I.list hsq;refine call_reversed_list pl.isList ?_;have hH:H s.heap.objs.size=none:=I.hok.fresh (am _);have hlen:its.toArray.size=vs.length:=by rw[ao];exact rv.length.symm
 have hb:X.s₀.heap.objs.size<=s.heap.objs.size:=np (lg I.ok.above I.lt);have I2:=I.laid (a:=s.heap.objs.size) (o:=RI X s.heap.objs.size a vs.length) (t':=s.toks) (h':=s.heap.push (revObj a ((its.toArray.size:Int)-1))) (fun _ _ q=>ae _ q) (am _) ⟨⟨⟨_,a8 _ rfl,rfl,by rw[hlen];rfl⟩,hb⟩,⟨_,a8 _ rfl⟩,fun h1 h2 x k=>⟨x.1.at k,x.2⟩⟩;exact⟨.ref s.heap.objs.size,_,I2,rfl,q a vs _ hsq rs hH⟩
def z70 (H:Hp)(p:Addr):Hp:=fun b=>if b=p then none else H b
theorem z6m {H:Hp}{p b:Addr}(h:b≠p):z70 H p b=H b:=by unfold z70;rw[if_neg h]
theorem zhx {H:Hp}{p:Addr}:z70 H p p=none:=by unfold z70;rw[if_pos rfl]
def rLR (X:Cx):List V->Hp->VK->Prop:=fun xs H Q=>∃p a vs,xs=[.ref p]/\H p=some (RI X p a vs.length)/\SqL X.K H a vs/\vs.length<=LIM/\∀q,q≠p->H q=none->Q (.ref q) (upd (z70 H p) q (.lst vs.reverse))
theorem znp (hc:X.calm=true):CallR X (.type "list") (rLR X):=by
 intro pins s σ H xs us Q I r h;obtain⟨p,a,vs,rfl,hp,hsq,hl,q⟩:=h;obtain⟨u,rfl,ru⟩:=vals1 r;cases ru;obtain⟨its,rv,pl,hz⟩:=I.list hsq;obtain⟨⟨hit,hb⟩,_,_⟩:=I.hok p _ hp;have hlen:its.toArray.size=vs.length:=by rw[ao];exact rv.length.symm
 have hne:a≠p:=fun z=>by obtain⟨o1,e1,c1,_⟩:=hit;obtain⟨o2,e2,c2,_⟩:=pl.isList;rw[z,e1]at e2;cases e2;rw[c1]at c2;exact absurd c2 (by decide)
 rw[<-hlen]at hit;refine zm0 (I.ok.hd hc) hit pl.isList hne (by rw[hlen];exact z0p hl) fun h' tk acc c hk hS ha=>?_;have hD:H s.heap.objs.size=none:=I.hok.fresh (am _);have hpD:s.heap.objs.size≠p:=fun z=>by rw[z,hp]at hD;cases hD
 have hv:Vals vs.reverse acc.toList:=by
  have e:acc.toList=its.reverse:=by
   refine um fun i=>?_;by_cases hi:i<its.length
   ·have h1:acc[i]?=some (acc[i]'(by rw[ha.1,ao];exact hi)):=kr _;have h2:=ha.2 i _ h1;rw[l5,h1,List.getElem?_reverse hi];rw[<-h2,List.getElem?_toArray,ao]
   ·rw[qh (by rw[ck,ha.1,ao];omega),qh (by rw[nh];omega)]
  rw[e];exact zas rv
 have hnp:∀b,H b=none->b≠p:=fun b e z=>by rw[z,hp]at e;cases e
 have hx:∀b,b≠p->b≠s.heap.objs.size->upd (z70 H p) s.heap.objs.size (.lst vs.reverse) b=H b:=fun b h1 h2=>by rw[z05 h2,z6m h1]
 have hk2:∀b o,b∉ [p]->s.heap.get? b=some o->h'.get? b=some o:=fun b o hb e=>hk b o (fun z=>hb (bp.mpr z)) e;have hsz:∀b o,s.heap.get? b=some o->b≠s.heap.objs.size:=fun b o e=>b7 (bj e)
 have I2:Inv X pins σ (upd (z70 H p) s.heap.objs.size (.lst vs.reverse)) {s with heap:=h',gens:=s.gens,drawn:=s.drawn,toks:=tk}:=by
  refine I.step (ch:=[p]) (fun b hb1=>?_) (fun b o _ _ h1 e _=>hk2 b o h1 e) (fun b o _ _ h1 e _=>⟨o.slots,hk2 b o h1 e⟩) (fun b o h1 e n=>?_) (fun b o h1 e=>⟨o,hk2 b o h1 e⟩) (fun b xs e=>?_) (fun b o u e=>?_) (fun b ps e=>?_) (fun m hN=>?_) (fun b o e=>?_) I.bare
  ·cases bp.mp hb1;refine⟨.inr hb,fun z=>?_,fun x c e z=>?_,fun y hy z=>?_⟩
   ·have:=I.free;rw[<-z,hp]at this;cases this
   ·have:=I.freeC x c e;rw[z,hp]at this;cases this
   ·have:=(I.pin y hy).2.1;rw[z,hp]at this;cases this
  ·rw[hx b (hnp b n) (hsz b o e)];exact n
  ·have h1:b≠p:=fun z=>by rw[z,hp]at e;cases e
   rw[hx b h1 (z06 e hD)];exact e
  ·have h1:b≠p:=fun z=>by rw[z,hp]at e;cases e
   rw[hx b h1 (z06 e hD)];exact e
  ·have h1:b≠p:=fun z=>by rw[z,hp]at e;cases e
   exact⟨#[],by rw[hx b h1 (z06 e hD),e];simp⟩
  ·refine hN.at fun o e=>hk _ o (fun z=>?_) e;have:=I.free;rw[z,hp]at this;cases this
  ·by_cases h2:b=s.heap.objs.size
   ·subst h2;rw[z0d]at e;cases e;exact⟨by rw[nh];exact z0p hl,acc.toList,c,hv,by rw[km];exact hS⟩
   ·rw[z05 h2]at e;have h1:b≠p:=fun z=>by rw[z,zhx]at e;cases e
    rw[z6m h1]at e;refine(I.hok b o e).stay (fun y u hy r=>?_) (fun y hy=>?_) fun y xs hy=>?_
    ·refine hk y u (fun z=>?_) r;rcases hy with hy|hy
     ·exact h1 (hy.symm.trans z)
     ·rw[z,hp]at hy;cases hy
    ·have h3:y≠p:=fun z=>by rw[z,hp]at hy;cases hy
     rw[hx y h3 (z06 hy hD)];exact hy
    ·have h3:y≠p:=fun z=>by rw[z,hp]at hy;cases hy
     rw[hx y h3 (z06 hy hD)];exact hy
 exact⟨.ref s.heap.objs.size,_,I2,rfl,q _ hpD hD⟩
theorem d_rv {x y:Str}{p p' pos pos':Pos}{e:Expr}(hc:X.calm=true)(hm:X.mg x=none)(hv:df x=some (.type "list"))(hg:Gl X x)(hn:x≠"__name__")(hdb:(x==("__debug__":Str))=false)
  (hm':X.mg y=none) (hv':df y=some (.type "reversed")) (hg':Gl X y) (hn':y≠"__name__") (hdb':(y==("__debug__":Str))=false) (hs:isStar e=false) (ha:PE X e (tD X.K fa)):
  PE X (.Call (.Name x p) [.Call (.Name y p') [e] [] pos'] [] pos) (tD X.K fun ρ=>fa ρ>>=fun v=>rvD v.2>>=fun d=>.ok (.fr,d)):=
 PE.imp (zhp (znp hc) hm hv (pa_c (zhp zw0 hm' hv' (pa_c ha z4y hs) (by simp[hs]) hg' hn' hdb') z4y rfl) rfl hg hn hdb) fun σ H Q zz=>by
  obtain⟨ρ,F,z,so,e,q⟩:=zz;obtain⟨v,e1,e⟩:=Res.bind_ok e;obtain⟨d,e2,e⟩:=Res.bind_ok e;cases e;refine⟨ρ,F,v,so,e1,fun u H1 s1 ru=>?_⟩;obtain⟨g,dv⟩:=v;cases dv with
  |list xs=>
   change(if imms xs&&decide (xs.length<=LIM)then Res.ok (PyData.list xs.reverse)else .no)=_ at e2;cases hcond:(imms xs&&decide (xs.length<=LIM))with
   |false=>rw[hcond]at e2;cases e2
   |true=>
    rw[hcond]at e2;cases e2;obtain⟨hi,hl⟩:=ar.mp hcond;refine⟨_,u,xs,rfl,ru,fun a vs p0 hsq rs hp=>?_⟩;refine⟨p0,a,vs,rfl,z0d,z9i (Same.upd hp) hsq,by rw[rs.length];exact vy hl,fun r hr hH=>?_⟩;have hr1:H1 r=none:=by rw[z05 hr]at hH;exact hH
    have sm:Same H1 (upd (z70 (upd H1 p0 (RI X p0 a vs.length)) p0) r (.lst vs.reverse)):=fun b o e=>by rw[z05 (z06 e hr1),z6m (z06 e hp),z05 (z06 e hp)];exact e
    refine q _ _ (s1.trans sm) ⟨r,vs.reverse,rfl,.inl ⟨z0d,?_⟩,Reps.immB _ (zfz hi) ((Reps.same sm (fun _ z=>z) rs).rev)⟩;exact Same.none s1 hr1
  |_=>cases e2
end
end Mi
namespace Mi
open PySem PySem.Spec PyProof.Rows L2
abbrev bmV:List Value:=[.type "ValueError",.type "Exception",.type "BaseException",.type "object"]
abbrev exV (K:W.Frag)(C:Addr):Bool:=W.excIn K C bmV "ValueError.__new__"
def XC (C:Addr)(h:Heap)(bm:List Value):Prop:=∃N nm q bs hdct sn sub ab col dd k0 k1 k2 k3 k5 mN,h.get? C=some (excClassObj nm q C N bs bm hdct sn sub ab col dd k0 k1 k2 k3 k5 "ValueError.__new__")/\h.Ns N mN/\mN "__init__"=none/\OwnTail h bmV bm
theorem zcg {K:W.Frag}{C:Addr}(q:exV K C=true):∃dd cd bm k0 k1 k2 k3 k5,K.lookup C=some ⟨.type "type",dd,.cls cd,#[k0,k1,k2,k3,some (.builtin "ValueError.__new__"),k5]⟩/\cd.mro=.ref C::bm/\cd.hasDel=false/\W.tailIn K bmV bm=true/\W.nsOkIn K cd.ns=true/\W.nsIn K cd.ns "__init__"=some none:=by
 have two:∀{a b:Bool},(a&&b)=true->a=true/\b=true:=ar.mp;unfold exV W.excIn at q;split at q
 ·rename_i dd cd sl ho;split at q
  ·rename_i A bm y0 y1 y2 y3 n y5 hm hs;obtain⟨q,q6⟩:=two q;obtain⟨q,q5⟩:=two q;obtain⟨q,q4⟩:=two q;obtain⟨q,q3⟩:=two q;obtain⟨q1,q2⟩:=two q;have e1:A=C:=v7 q1;have e2:n="ValueError.__new__":=v7 q2;have e3:sl=#[y0,y1,y2,y3,some (.builtin n),y5]:=Array.toList_inj.mp (by rw[hs]);refine⟨dd,cd,bm,y0,y1,y2,y3,y5,?_,?_,?_,q4,q5,v7 q6⟩
   ·rw[ho,e3,e2]
   ·rw[hm,e1]
   ·cases hd:cd.hasDel with
    |false=>rfl
    |true=>rw[hd]at q3;cases q3
  ·cases q
 ·cases q
theorem zhs {K:W.Frag}{C:Addr}{dd:Option Addr}{cd:ClassData}{sl:Array (Option Value)}{bm:List Value}{v:Value}{b:Bool}(ho:K.lookup C=some ⟨.type "type",dd,.cls cd,sl⟩)(hm:cd.mro=.ref C::bm)(e:W.subIn K (.ref C) v=some b):(Value.ref C::bm).contains v=b:=by
 have e:W.mroIn K C v=some b:=e;unfold W.mroIn W.clsIn at e;rw[ho]at e
 dsimp only[Option.bind_some]at e
 rw[hm]at e;exact Option.some.inj e
theorem XC.mk {K:W.Frag}{C:Addr}{h:Heap}(X:K.In h)(q:exV K C=true):∃bm,XC C h bm/\∀v b,W.subIn K (.ref C) v=some b->(Value.ref C::bm).contains v=b:=by
 obtain⟨dd,cd,bm,k0,k1,k2,k3,k5,ho,hm,hd,ht,hk,hi⟩:=zcg q;refine⟨bm,⟨cd.ns,cd.name,cd.qualname,cd.bases,cd.hasDict,cd.slotNames,cd.subclasses,cd.abstract,cd.collection,dd,k0,k1,k2,k3,k5,h.nsMap cd.ns,?_,.of_isNs (W.isNs_of_in X hk),W.nsMap_none_of_in X hk hi,W.tail_of_in X ht⟩,fun v b e=>zhs ho hm e⟩;have h2:=X _ _ ho;cases cd
 dsimp only at hm hd
 rw[hm,hd]at h2;exact h2
section
variable {M:Model}{A:b6}{E:Value->ac->Prop}{h:Heap}{g:Array t8}{d:Drawn}{t:Nat}{os:ou}{C B e:Addr}{bm bm':List Value}{oe:Obj}{Q:Bool->ac->Prop}
end
section
variable {prog:ba}{w:World}{A:b6}{E:Value->ac->Prop}{K:W.Frag}{h:Heap}{g:Array t8}{d:Drawn}{t:Nat}{os:ou}{C e:Addr}{oe:Obj}
structure XA (K:W.Frag)(C:Addr):Prop where
 cl:W.findIn K (.ref C) "__class__"=some (some (.builtin "object.__class__"))
 ga:W.findIn K (.ref C) "__getattribute__"=some (some (.builtin "BaseException.__getattribute__"))
 gt:W.findIn K (.ref C) "__getattr__"=some none
 ob:W.subIn K (.ref C) (.type "object")=some true
 be:W.subIn K (.ref C) (.type "BaseException")=some true
 ty:W.typeIn K (.ref C)=some (.type "type")
 is:(W.clsIn K C).isSome=true
 ex:exV K C=true
structure XV (K:W.Frag)(v:Value):Prop where
 ty:∀(M:Model) (h:Heap),K.In h->W.Looks M h (vm v) (.type "type")
 is:∀(M:Model) (h:Heap),K.In h->W.Looks M h (isType v) true
theorem zi0 {M:Model}{D:Addr}(X:K.In h)(q:(W.clsIn K D).isSome=true):W.Looks M h (isType (.ref D)) true:=by
 unfold W.clsIn at q;split at q
 ·rename_i ho;intro A Q E s k z;unfold isType;refine aa (tq (k _ _ (X _ _ ho)) ?_);exact aq z
 ·cases q
theorem XV.own {D:Addr}(t:W.typeIn K (.ref D)=some (.type "type"))(q:(W.clsIn K D).isSome=true):XV K (.ref D):=⟨fun M h X=>W.looks_typeIn X t,fun M h X=>zi0 X q⟩
theorem XV.val:XV K (.type "ValueError"):=⟨fun M h X=>W.Looks.of_pure (by kernel_rfl),fun M h X=>W.Looks.of_pure rfl⟩
end
structure Fly (P:ba)(w:World)(base:Heap)(outer:List Env)(H:Hp)(s:ac)(C a:Addr)(H':Hp)(s':ac):Prop where
 os:s'.os=s.os
 bare:nk s'.gens
 same:Same H H'
 free:∀b o,s.heap.get? b=some o->H b=none->H' b=none
 hh:∃B t,base.StaysIn B/\HOk P w H' B/\(∀b o,s.heap.get? b=some o->H b=none->b∉frs outer->B.get? b=some o)/\Heap.FlyingW B outer a (.ref C) (.ref t) s'.heap
 slot:∀b o,s.heap.get? b=some o->H b=none->b∈frs outer->∃sl,s'.heap.get? b=some {o with slots:=sl}
def CXE (P:ba)(w:World)(base:Heap):CXT:=fun outer H s E e s'=>∃a C H',e=.ref a/\Fly P w base outer H s C a H' s'/\E (.ref C) none H'
theorem z86 {P:ba}{w:World}{H:Hp}{h:Heap}{a:Addr}{o:HO}(x:z0w P w H h a o):∃ob,h.get? a=some ob:=by
 cases o with
 |lst xs=>obtain⟨_,_,_,_,e⟩:=x;exact⟨_,e⟩
 |tup xs=>obtain⟨_,_,_,_,e⟩:=x;exact⟨_,e⟩
 |dK kvs=>obtain⟨_,_,_,_,o,_,_,e,_⟩:=x;exact⟨_,e⟩
 |dT kvs=>obtain⟨_,_,_,_,o,_,_,e,_⟩:=x;exact⟨_,e⟩
 |set S n=>obtain⟨o,_,_,_,e,_⟩:=x;exact⟨_,e⟩
 |ins C dx fs=>obtain⟨_,_,_,e,_⟩:=x;exact⟨_,e⟩
 |own y=>exact x
 |xd fs=>obtain⟨_,⟨_,_,_,e,_⟩,_⟩:=x;exact⟨_,e⟩
 |rng lo hi=>obtain⟨_,_,_,e⟩:=x;exact⟨_,e⟩
 |frz ob u=>exact⟨_,x.1⟩
 |tbl ps=>exact⟨_,x⟩
 |met f y=>exact⟨_,x⟩
 |ext φ=>exact x.2.1
section
variable {P:ba}{w:World}{base:Heap}{outer:List Env}{H H':Hp}{s s':ac}{C a:Addr}
theorem Fly.hok (f:Fly P w base outer H s C a H' s'):HOk P w H' s'.heap:=by obtain⟨B,t,_,hB,_,fl⟩:=f.hh;exact hB.kept fl.1
theorem Fly.un (f:Fly P w base outer H s C a H' s'):Un (frs outer) [] H H' s.heap s'.heap:=by
 obtain⟨B,t,_,hB,cov,fl⟩:=f.hh;refine⟨fun b o e n hb _=>fl.1 b o (cov b o e n hb),fun b o e n hb _=>f.slot b o e n hb,fun b o e n _=>f.free b o e n,fun b o e _=>?_,fun b xs e=>f.same b _ e,fun b o u e=>f.same b _ e,fun b ps e=>⟨#[],by rw[f.same b _ e,Array.append_empty]⟩⟩;cases hn:H b with
 |some u=>exact z86 (f.hok b u (f.same b u hn))
 |none=>
  by_cases hb:b∈frs outer
  ·obtain⟨sl,q⟩:=f.slot b o e hn hb;exact⟨_,q⟩
  ·exact⟨o,fl.1 b o (cov b o e hn hb)⟩
end
section
variable {X:Cx}{pins:List (Addr×Obj)}{σ:L2.St}{H H':Hp}{s s':ac}{C a:Addr}
end
structure Lv (X:Cx)(H0:Hp)(c:Str):Prop where
 made:∀pins σ H s a C args h',Inv X pins σ H s->X.mg c=some (.ref C)->Same H0 H->Heap.MadeExcOf s.heap h' a (.ref C) args->X.xe (.ref a) {s with heap:=h'}
 fly:∀pins σ H s a C H' s',Inv X pins σ H s->X.mg c=some (.ref C)->Same H0 H'->Fly X.prog X.w X.base X.stack H s C a H' s'->X.xe (.ref a) s'
theorem Lv.mono {X:Cx}{H0 H1:Hp}{c:Str}(l:Lv X H0 c)(h:Same H0 H1):Lv X H1 c:=⟨fun pins σ H s a C args h' I m z=>l.made pins σ H s a C args h' I m (h.trans z),fun pins σ H s a C H' s' I m z=>l.fly pins σ H s a C H' s' I m (h.trans z)⟩
def Rz (X:Cx)(f:Rho->Option Str)(σ:L2.St)(H:Hp):Prop:=∃ρ F c,StOk X.K F H σ ρ/\f ρ=some c/\Lv X F.H0 c
def spX (K:W.Frag)(mg:Str->Option Value)(n:Nat)(m:Fn):Sp:=fun vs H _ E=>∃A ds c,vs.length=n/\Reps K H A vs ds/\excOf (m ds)=some c/\∀C H',mg c=some (.ref C)->Same H H'->E (.ref C) none H'
def CalX (P:ba)(w:World)(K:W.Frag)(mg:Str->Option Value)(base:Heap)(k:Nat)(x:Str)(ps:List Str)(n:Nat)(m:Fn):Prop:=∃f fd,FnOk P w K mg base (CXE P w base) k f fd ps (spX K mg n m)/\mg x=some (.ref f)/\W.keepIn K (.ref f)=true/\Binds K fd ps []
section
variable {X:Cx}{e:Expr}{es:List Expr}{pos:Pos}
end
section
variable {X:Cx}{pins:List (Addr×Obj)}{σ:L2.St}{H:Hp}{s:ac}{i:Nat}{n:Str}{a:Addr}{oe:Obj}
end
section
variable {X:Cx}{n x:Str}{p p1 p2 pos:Pos}{a C:Addr}{oe:Obj}{v:V}{u:Value}{b:Bool}
def Xh (X:Cx)(a:Addr)(oe:Obj):Prop:=∀pins σ H s,Inv X pins σ H s->s.heap.get? a=some oe
end
section
theorem and2 {a b:Bool}(h:(a&&b)=true):a=true/\b=true:=ar.mp h
theorem and3 {a b c:Bool}(h:(a&&b&&c)=true):a=true/\b=true/\c=true:=⟨(and2 (and2 h).1).1,(and2 (and2 h).1).2,(and2 h).2⟩
theorem and4 {a b c d:Bool}(h:(a&&b&&c&&d)=true):a=true/\b=true/\c=true/\d=true:=⟨(and3 (and2 h).1).1,(and3 (and2 h).1).2.1,(and3 (and2 h).1).2.2,(and2 h).2⟩
theorem and5 {a b c d e:Bool}(h:(a&&b&&c&&d&&e)=true):a=true/\b=true/\c=true/\d=true/\e=true:=⟨(and4 (and2 h).1).1,(and4 (and2 h).1).2.1,(and4 (and2 h).1).2.2.1,(and4 (and2 h).1).2.2.2,(and2 h).2⟩
theorem z2i {b:Bool}(h:(!b)=true):b=false:=by cases b<;>first|rfl|cases h
theorem ff {b:Bool}{p:Prop}(h:b=false)(z:b=true):p:=by rw[h]at z;cases z
theorem z2x {α:Type}{l:List α}(h:l.isEmpty=true):l=[]:=by cases l<;>first|rfl|cases h
theorem z6h {α:Type}{l:List α}(h:(!l.isEmpty)=true):∃x r,l=x::r:=by cases l<;>first|exact⟨_,_,rfl⟩|cases h
theorem z0c {α:Type}{o:Option α}{f:α->Bool}(h:o.any f=true):∃v,o=some v/\f v=true:=by
 cases o with
 |none=>cases h
 |some v=>exact⟨v,rfl,h⟩
theorem v_of {α:Type}{o:Option α}{v:α}{q:α->Prop}(h:o=some v)(d:o=none\/∃u,o=some u/\q u):q v:=by
 rcases d with d|⟨u,d,z⟩
 ·rw[d]at h;cases h
 ·rw[d]at h;cases h;exact z
theorem q_Nm {e:Expr}{v:Str}(h:vNm e=some v):∃p,e=.Name v p:=v_of (q:=fun v=>∃p,e=.Name v p) h (by cases e<;>first|exact .inl rfl|exact .inr ⟨_,rfl,_,rfl⟩)
theorem zei {e:Expr}{v:Const}(h:vCst e=some v):∃k p,e=.Constant v k p:=v_of (q:=fun v=>∃k p,e=.Constant v k p) h (by cases e<;>first|exact .inl rfl|exact .inr ⟨_,rfl,_,_,rfl⟩)
theorem zqr {e:Expr}{v:Expr×ky×Expr}(h:vBin e=some v):∃p,e=.BinOp v.1 v.2.1 v.2.2 p:=v_of (q:=fun v=>∃p,e=.BinOp v.1 v.2.1 v.2.2 p) h (by cases e<;>first|exact .inl rfl|exact .inr ⟨_,rfl,_,rfl⟩)
theorem q_Un {e:Expr}{v:UnaryOp×Expr}(h:vUn e=some v):∃p,e=.UnaryOp v.1 v.2 p:=v_of (q:=fun v=>∃p,e=.UnaryOp v.1 v.2 p) h (by cases e<;>first|exact .inl rfl|exact .inr ⟨_,rfl,_,rfl⟩)
theorem q_Cm {e:Expr}{v:Expr×List CmpOp×List Expr}(h:vCm e=some v):∃p,e=.Compare v.1 v.2.1 v.2.2 p:=v_of (q:=fun v=>∃p,e=.Compare v.1 v.2.1 v.2.2 p) h (by cases e<;>first|exact .inl rfl|exact .inr ⟨_,rfl,_,rfl⟩)
theorem q_Bo {e:Expr}{v:BoolOp×List Expr×Pos}(h:vBo e=some v):e=.BoolOp v.1 v.2.1 v.2.2:=v_of (q:=fun v=>e=.BoolOp v.1 v.2.1 v.2.2) h (by cases e<;>first|exact .inl rfl|exact .inr ⟨_,rfl,rfl⟩)
theorem zvj {e:Expr}{v:Expr×Expr×Expr}(h:vIfE e=some v):∃p,e=.IfExp v.1 v.2.1 v.2.2 p:=v_of (q:=fun v=>∃p,e=.IfExp v.1 v.2.1 v.2.2 p) h (by cases e<;>first|exact .inl rfl|exact .inr ⟨_,rfl,_,rfl⟩)
theorem zks {e:Expr}{v:List Expr}(h:vTup e=some v):∃k p,e=.Tuple v k p:=v_of (q:=fun v=>∃k p,e=.Tuple v k p) h (by cases e<;>first|exact .inl rfl|exact .inr ⟨_,rfl,_,_,rfl⟩)
theorem zp5 {e:Expr}{v:List Expr}(h:vLst e=some v):∃p,e=.List v p:=v_of (q:=fun v=>∃p,e=.List v p) h (by cases e<;>first|exact .inl rfl|exact .inr ⟨_,rfl,_,rfl⟩)
theorem zke {e:Expr}{v:Expr×Expr}(h:vSub e=some v):∃p,e=.Subscript v.1 v.2 p:=v_of (q:=fun v=>∃p,e=.Subscript v.1 v.2 p) h (by cases e<;>first|exact .inl rfl|exact .inr ⟨_,rfl,_,rfl⟩)
theorem zt1 {e:Expr}{v:Option Expr×Option Expr×Option Expr}(h:vSli e=some v):∃p,e=.Slice v.1 v.2.1 v.2.2 p:=v_of (q:=fun v=>∃p,e=.Slice v.1 v.2.1 v.2.2 p) h (by cases e<;>first|exact .inl rfl|exact .inr ⟨_,rfl,_,rfl⟩)
theorem q_Ca {e:Expr}{v:Expr×List Expr×List p6×Pos}(h:vCa e=some v):e=.Call v.1 v.2.1 v.2.2.1 v.2.2.2:=v_of (q:=fun v=>e=.Call v.1 v.2.1 v.2.2.1 v.2.2.2) h (by cases e<;>first|exact .inl rfl|exact .inr ⟨_,rfl,rfl⟩)
theorem q_At {e:Expr}{v:Expr×Str×Pos}(h:vAt e=some v):e=.Attribute v.1 v.2.1 v.2.2:=v_of (q:=fun v=>e=.Attribute v.1 v.2.1 v.2.2) h (by cases e<;>first|exact .inl rfl|exact .inr ⟨_,rfl,rfl⟩)
theorem q_LC {e:Expr}{v:Expr×List kz×Scope}(h:vLC e=some v):∃p,e=.ListComp v.1 v.2.1 v.2.2 p:=v_of (q:=fun v=>∃p,e=.ListComp v.1 v.2.1 v.2.2 p) h (by cases e<;>first|exact .inl rfl|exact .inr ⟨_,rfl,_,rfl⟩)
theorem z54 {α:Type}{l:List α}{v:α}(h:vOne l=some v):l=[v]:=by rcases l with _|⟨x,_|⟨y,l⟩⟩<;>cases h;rfl
theorem zq9 {α:Type}{l:List α}{v:α×α}(h:vTwo l=some v):l=[v.1,v.2]:=by rcases l with _|⟨x,_|⟨y,_|⟨z,l⟩⟩⟩<;>cases h;rfl
theorem z2v {e:Expr}{v:Str×List Expr}(h:z5a e=some v):∃q p,e=.Call (.Name v.1 q) v.2 [] p:=by
 obtain⟨u,hu,h⟩:=ln.mp h;cases hk:u.2.2.1.isEmpty with
 |false=>rw[hk]at h;exact absurd h nofun
 |true=>rw[hk]at h;obtain⟨x,hx,rfl⟩:=dz.mp h;obtain⟨q,hq⟩:=q_Nm hx;exact⟨q,_,by rw[q_Ca hu,hq,z2x hk]⟩
theorem q_Mt {e:Expr}{v:Expr×Str×List Expr×Bool}(h:vMt e=some v):∃ap cp,e=.Call (.Attribute v.1 v.2.1 ap) v.2.2.1 [] cp/\v.2.2.2=(ap.endLine==cp.line):=by
 obtain⟨u,hu,h⟩:=ln.mp h;cases hk:u.2.2.1.isEmpty with
 |false=>rw[hk]at h;exact absurd h nofun
 |true=>rw[hk]at h;obtain⟨x,hx,rfl⟩:=dz.mp h;exact⟨_,_,by rw[q_Ca hu,q_At hx,z2x hk],rfl⟩
theorem z5z {f:Str->Bool}{e:Expr}(h:hd1 f e=true):∃x p,e=.Name x p/\f x=true:=by obtain⟨x,hx,h⟩:=z0c h;obtain⟨p,hp⟩:=q_Nm hx;exact⟨x,p,hp,h⟩
def zta (K:W.Frag)(mg:Str->Option Value)(c C:Str)(b:Bool):Prop:=∃A v u,mg c=some (.ref A)/\XA K A/\XV K u/\W.subIn K (.ref A) u=some b/\RelV v u/\(∀w,RelV v w->w=u)/\(mg C=some u\/(mg C=none/\df C=some u/\C≠"__name__"))
def RsOk (K:W.Frag)(mg:Str->Option Value)(c:Str):Prop:=∃C,mg c=some (.ref C)/\exV K C=true
def zv0 (K:W.Frag)(mg:Str->Option Value)(c B:Str):Prop:=∃C D,mg c=some (.ref C)/\mg B=some (.ref D)/\exV K C=true/\exV K D=true/\W.subIn K (.ref C) (.ref D)=some true
structure Xok (Γ:Gm)(K:W.Frag)(mg:Str->Option Value):Prop where
 sub:∀c C b,Γ.sub.contains (c,C,b)=true->zta K mg c C b
 rs:∀c,Γ.rs.contains c=true->RsOk K mg c
 hnd:∀c B,Γ.hnd.contains (c,B)=true->zv0 K mg c B
structure Cok (Γ:Gm)(Κ:List D)(Φ:List Fn)(X:Cx)(r:Nat):Prop where
 hN:X.N=Γ.N
 hs:X.env.scope=Γ.sc
 nd:Γ.N.Nodup
 fn:Γ.blk=false->∀x,X.fn x=true
 kind:Γ.sc.kind=.function
 free:∀x,Γ.free.contains x=true->X.mg x=none
 fns:∀(j:Nat) f n,Γ.fns[j]?=some (f,n)->∃m k ps,Φ[j]?=some m/\k<=r/\Cal X.prog X.w X.K X.mg X.base k f ps (spD X.K n m)
 cst:∀(j:Nat) x,Γ.cst[j]?=some x->∃d a,Κ[j]?=some d/\X.mg x=some (.ref a)/\∀H B,B none->Rep X.K H B (.ref a) d
 fnx:∀(j:Nat) f n,Γ.fns[j]?=some (f,n)->∃m k ps,Φ[j]?=some m/\k<=r/\CalX X.prog X.w X.K X.mg X.base k f ps n m
 room:Γ.cm=true->Room r X.A
 calm:Γ.cm=true->X.calm=true
 hu:X.A.units+64<cLine
 fun_:Γ.blk=false->X.stack=X.env::X.outer/\X.env.frame=some X.env.locals
 fx0:Γ.xc=none->X.fx=none
 xc:∀n c,Γ.xc=some (n,c)->∃a oe C,X.fx=some (n,.ref a)/\Xh X a oe/\oe.cls=.ref C/\X.mg c=some (.ref C)
 xk:Xok Γ X.K X.mg
section
variable {Γ:Gm}{Κ:List D}{Φ:List Fn}{X:Cx}{r:Nat}
theorem Cok.gl (k:Cok Γ Κ Φ X r){x:Str}(h:glB Γ x=true):Gl X x/\(x==("__debug__":Str))=false:=by unfold glB at h;rw[ax]at h;refine⟨?_,by simpa using h.2⟩;show X.env.scope.names.lookup x=_;rw[k.hs];simpa using h.1
theorem Cok.vis (k:Cok Γ Κ Φ X r){i:Nat}{x:Str}(h:visB Γ i x=true):X.N[i]?=some x/\Vis X.env.scope x/\(x==("__debug__":Str))=false/\(x==("__classdict__":Str))=false:=by
 unfold visB at h;simp only[ax,d9,beq_iff_eq]at h;have⟨⟨⟨h1,h2⟩,h3⟩,h4⟩:=h;refine⟨by rw[k.hN];exact h1,?_,by simpa using h3,by simpa using h4⟩;unfold Vis;rw[k.hs];rcases h2 with(h2|h2)|h2
 ·exact .inl h2
 ·exact .inr (.inl h2)
 ·exact .inr (.inr h2)
theorem Cok.loc (k:Cok Γ Κ Φ X r){i:Nat}{x:Str}(h:locB Γ i x=true):X.N[i]?=some x/\Loc X.env.scope x/\(X.fn x=true\/X.env.scope.names.lookup x=some .local):=by
 unfold locB at h;simp only[ax,d9,beq_iff_eq,lw]at h;obtain⟨h1,h2⟩:=h;refine⟨by rw[k.hN];exact h1,?_,?_⟩
 ·unfold L2.Loc;rw[k.hs];rcases h2 with h2|⟨_,h2⟩
  ·exact .inl h2
  ·exact .inr h2
 ·rcases h2 with h2|⟨h2,_⟩
  ·exact .inr (by rw[k.hs];exact h2)
  ·exact .inl (k.fn h2 x)
theorem Cok.blt (k:Cok Γ Κ Φ X r){x:Str}(h:bltB Γ x=true):Gl X x/\X.mg x=none/\(x==("__debug__":Str))=false/\x≠"__name__":=by unfold bltB at h;simp only[ar]at h;obtain⟨⟨h1,h2⟩,h3⟩:=h;obtain⟨g1,g2⟩:=k.gl h1;exact⟨g1,k.free x h2,g2,by simpa using h3⟩
theorem znn {X:Cx}{scope:Scope}{N':List Str}{C:Addr}{fp:List Addr}{s:ac}{H:Hp}:(blk X scope N' C fp s H).env.scope=zmr scope X.env.scope:=rfl
theorem Cok.blk (k:Cok Γ Κ Φ X r){scope:Scope}{N':List Str}(hk:scope.kind=.function)(nd:N'.Nodup)(C:Addr)(fp:List Addr)(s:ac)(H:Hp):Cok {Γ with N:=N',sc:=zmr scope Γ.sc,blk:=true,xc:=none} Κ Φ (blk X scope N' C fp s H) r where
 hN:=rfl
 hs:=by rw[znn,k.hs]
 nd:=nd
 fn:=fun z=>by cases z
 kind:=hk
 free:=k.free
 fns:=k.fns
 cst:=k.cst
 fnx:=k.fnx
 room:=k.room
 calm:=k.calm
 hu:=k.hu
 fun_:=fun z=>by cases z
 fx0:=fun _=>rfl
 xc:=fun _ _ z=>by cases z
 xk:=⟨k.xk.sub,k.xk.rs,k.xk.hnd⟩
theorem zso (k:Cok Γ Κ Φ X r)(all:List Nat){is:List Nat}:∀{es:List Expr},zmu Γ is es=true->PGs X es (tDGs X.K all is)/\(gn es X.env).length=is.length/\(gn es X.env).findIdx? (·.1)=none:=by
 induction is with
 |nil=>intro es h;cases z2x h;exact⟨zqu,rfl,rfl⟩
 |cons i is ih=>
  intro es h;cases es with
  |nil=>cases h
  |cons e es=>
   obtain⟨h0,h9⟩:=and2 h;obtain⟨x,p,rfl,h0⟩:=z5z h0;obtain⟨h1,h2,h3⟩:=k.loc h0;obtain⟨a1,a2,a3⟩:=ih h9;refine⟨zn7 (by rw[k.hN];exact k.nd) h1 h2 h3 a1,?_,?_⟩
   ·show(gn es X.env).length+1=_;rw[a2];rfl
   ·show((false,pv (.Name x p) X.env)::gn es X.env).findIdx? (·.1)=none;rw[List.findIdx?_cons,a3];rfl
theorem zkp (k:Cok Γ Κ Φ X r){t:Tg}{e:Expr}(h:zgw Γ t e=true):PG X e (tDG X.K t):=by
 cases t with
 |nm i=>obtain⟨x,p,rfl,h9⟩:=z5z h;obtain⟨h1,h2,h3⟩:=k.loc h9;exact zon (by rw[k.hN];exact k.nd) h1 h2 h3
 |tp is=>obtain⟨h0,h⟩:=and2 h;obtain⟨v,hv,h9⟩:=z0c h;obtain⟨_,_,rfl⟩:=zks hv;obtain⟨a1,a2,a3⟩:=zso k is h9;exact zvp (k.calm h0) a1 rfl a3 a2.symm
theorem zbp {e:Expr}(h:plainT e=true)(env:Env):∀whole,uu e env whole=(do let v <-whole;standAt e.pos;ua [v] (truthy v)):=by
 intro whole;cases e<;>first|(cases h;done)|rfl|skip
 rename_i op x p;cases op<;>first|(cases h;done)|rfl
theorem z9m {e:Expr}(h:zh3 e=true)(env:Env):∀x,gg e env x=pure x:=by intro x;cases e<;>first|(cases h;done)|rfl
end
variable (Κ:List D)(Φ:List Fn)
theorem zky (c:C):∀(Γ:Gm) (es:List Expr) (ρ:Rho) (ys:List GD),chkA Γ c es=true->evA Κ Φ c ρ=.ok ys->ys.length=es.length/\(es.all fun e=>!isStar e)=true:=by
 induction c with
 |nil=>intro Γ es ρ ys h e;cases z2x h;cases e;exact⟨rfl,rfl⟩
 |cons a r _ ih=>
  intro Γ es ρ ys h e;cases es with
  |nil=>cases h
  |cons x es=>obtain⟨h1,_,h3⟩:=and3 h;obtain⟨y,_,e⟩:=Res.bind_ok e;obtain⟨ys',e2,e⟩:=Res.bind_ok e;cases e;obtain⟨i1,i2⟩:=ih Γ es ρ ys' h3 e2;exact⟨by rw[br,br,i1],by rw[dw,i2,h1];rfl⟩
 |_=>exact fun _ _ _ _ h=>ff rfl h
end
section
theorem zml {Γ:Gm}{T:String}{t:Expr}(h:tyB Γ T t=true):∃x p,t=.Name x p/\x=Str.ofString T/\bltB Γ x=true/\T∈tysB:=by obtain⟨x,p,e,h⟩:=z5z h;obtain⟨h1,h2,h3⟩:=and3 h;exact⟨x,p,e,v7 h1,h2,cg.mp h3⟩
theorem or_l {a b:Bool}(h:(a||b)=true)(n:b=false):a=true:=by rw[n,ox]at h;exact h
theorem zgq {T:String}(h:T∈tysB):df (Str.ofString T)=some (.type T):=by simp only[tysB,aw,cw,or_false]at h;rcases h with rfl|rfl|rfl|rfl|rfl<;>decide+kernel
variable (Κ:List D)(Φ:List Fn)
theorem z12 {Γ:Gm}:∀{c:C} {es:List Expr},chkA Γ c es=true->(es.all fun e=>!isStar e)=true:=by
 intro c
 induction c with
 |nil=>intro es h;cases z2x h;rfl
 |cons a r _ ih=>
  intro es h;cases es with
  |nil=>rfl
  |cons e es=>obtain⟨h1,_,h3⟩:=and3 h;rw[dw,ih h3,h1];rfl
 |_=>exact fun h=>ff rfl h
theorem z4r {Γ:Gm}{c:C}{es:List Expr}(h:chkA Γ c es=true):∀ρ ys,evA Κ Φ c ρ=.ok ys->ys.length=es.length:=fun ρ ys e=>(zky Κ Φ c Γ es ρ ys h e).1
structure Sd (c:C):Prop where
 E:∀(Γ:Gm) (X:Cx) (r:Nat) (e:Expr),Cok Γ Κ Φ X r->chkE Γ c e=true->PE X e (tD X.K (evE Κ Φ c))
 T:∀(Γ:Gm) (X:Cx) (r:Nat) (e:Expr),Cok Γ Κ Φ X r->chkT Γ c e=true->PT X e (tDT X.K (evT Κ Φ c))/\((∃o l p,e=.BoolOp o l p)->PW X e (tDT X.K (evT Κ Φ c)))
 Q:∀(Γ:Gm) (X:Cx) (r:Nat) (l:Expr) (ops:List CmpOp) (rs:List Expr) (pos:Pos),Cok Γ Κ Φ X r->chkE Γ c (.Compare l ops rs pos)=true->PT X (.Compare l ops rs pos) (tDT X.K fun ρ=>evE Κ Φ c ρ>>=fun x=>z21 x.2)
 A:∀(Γ:Gm) (X:Cx) (r:Nat) (es:List Expr),Cok Γ Κ Φ X r->chkA Γ c es=true->PA X es (tDA X.K (evA Κ Φ c))
 O:∀(Γ:Gm) (X:Cx) (r:Nat) (e:Option Expr),Cok Γ Κ Φ X r->chkO Γ c e=true->PO X e (tDO X.K (evO Κ Φ c))
 W:∀(Γ:Gm) (X:Cx) (r:Nat) (e tg:Expr),Cok Γ Κ Φ X r->zmp c tg=true->chkW Γ c e=true->PI X tg e (tDW X.K (evW Κ Φ c))
 G:∀(Γ:Gm) (X:Cx) (r:Nat) (e:Expr),Cok Γ Κ Φ X r->chkG Γ c e=true->∃a,c=.tv a/\PE X e (tD X.K (evE Κ Φ a))
def isX:C->Nat
 |.and _ _|.or _ _|.not _|.tv _|.nil|.cons _ _|.rng _|.enum _|.zip _ _=>2
 |.cmp _ _ _|.isN _ _=>1
 |_=>0
variable {Κ:List D}{Φ:List Fn}{a b c:C}
section
variable {Γ:Gm}{e tg:Expr}{es:List Expr}{o:Option Expr}
theorem x_T (h:isX c<2):chkT Γ c e=false:=by cases c<;>first|rfl|exact absurd h (ci 2)
theorem x_A (h:isX c<2):chkA Γ c es=false:=by cases c<;>first|rfl|exact absurd h (ci 2)
theorem x_O (h:isX c<2):chkO Γ c o=false:=by cases c<;>first|rfl|exact absurd h (ci 2)
theorem x_W (h:isX c<2):chkW Γ c e=false:=by cases c<;>first|rfl|exact absurd h (ci 2)
theorem x_G (h:isX c<2):chkG Γ c e=false:=by cases c<;>first|rfl|exact absurd h (ci 2)
end
theorem Sd.q (hE:∀(Γ:Gm) (X:Cx) (r:Nat) (e:Expr),Cok Γ Κ Φ X r->chkE Γ c e=true->PE X e (tD X.K (evE Κ Φ c)))(hQ:∀(Γ:Gm) (X:Cx) (r:Nat) (l:Expr) (ops:List CmpOp) (rs:List Expr) (pos:Pos),Cok Γ Κ Φ X r->chkE Γ c (.Compare l ops rs pos)=true->PT X (.Compare l ops rs pos) (tDT X.K fun ρ=>evE Κ Φ c ρ>>=fun x=>z21 x.2))(hx:isX c<2):Sd Κ Φ c:=⟨hE,fun _ _ _ _ _ h=>ff (x_T hx) h,hQ,fun _ _ _ _ _ h=>ff (x_A hx) h,fun _ _ _ _ _ h=>ff (x_O hx) h,fun _ _ _ _ _ _ _ h=>ff (x_W hx) h,fun _ _ _ _ _ h=>ff (x_G hx) h⟩
theorem x_Q {Γ:Gm}{l:Expr}{ops:List CmpOp}{rs:List Expr}{pos:Pos}(h:isX c=0):chkE Γ c (.Compare l ops rs pos)=false:=by cases c<;>first|rfl|(cases h;done)
theorem Sd.x (hE:∀(Γ:Gm) (X:Cx) (r:Nat) (e:Expr),Cok Γ Κ Φ X r->chkE Γ c e=true->PE X e (tD X.K (evE Κ Φ c)))(hx:isX c=0):Sd Κ Φ c:=Sd.q hE (fun _ _ _ _ _ _ _ _ h=>ff (x_Q hx) h) (by rw[hx];exact Nat.zero_lt_two)
theorem zu6 {i:Nat}:Sd Κ Φ (.var i):=Sd.x (fun Γ X r e k h=>by obtain⟨x,p,rfl,h⟩:=z5z h;obtain⟨h1,h2,h3,h4⟩:=k.vis h;exact zvs h1 h2 h3 h4) rfl
theorem zv9:Sd Κ Φ .non:=Sd.x (fun Γ X r e k h=>by obtain⟨_,_,rfl⟩:=zei (vy h);exact z5y zpu fun _ _=>rfl) rfl
theorem p_bl {b:Bool}:Sd Κ Φ (.bl b):=Sd.x (fun Γ X r e k h=>by obtain⟨_,_,rfl⟩:=zei (vy h);exact z5y zu8 fun _ _=>rfl) rfl
theorem zva {b:Int}:Sd Κ Φ (.int b):=Sd.x (fun Γ X r e k h=>by obtain⟨_,_,rfl⟩:=zei (vy h);exact z5y zpr fun _ _=>rfl) rfl
theorem zty {b:Str}:Sd Κ Φ (.str b):=Sd.x (fun Γ X r e k h=>by obtain⟨h1,h2⟩:=and2 h;obtain⟨_,_,rfl⟩:=zei (vy h1);exact z5y zrg fun _ _=>⟨rfl,h2⟩) rfl
theorem zsu {op:ky}(ia:Sd Κ Φ a)(ib:Sd Κ Φ b):Sd Κ Φ (.bin op a b):=Sd.x (fun Γ X r e k h=>by obtain⟨v,hv,h9⟩:=z0c h;obtain⟨p,rfl⟩:=zqr hv;obtain⟨h1,h2,h3,h4⟩:=and4 h9;cases vy h1;exact ztn h2 (ia.E Γ X r _ k h3) (ib.E Γ X r _ k h4)) rfl
theorem zp6 {Γ:Gm}{op:CmpOp}{e:Expr}(h:chkE Γ (.cmp op a b) e=true):∃l r p,e=.Compare l [op] [r] p/\zek op=true/\ge op r=false/\chkE Γ a l=true/\chkE Γ b r=true:=by obtain⟨⟨l,o,rs⟩,hv,h9⟩:=z0c h;obtain⟨p,rfl⟩:=q_Cm hv;obtain⟨h1,h2⟩:=and2 h9;obtain⟨r,hr,h3⟩:=z0c h2;cases vy h1;cases z54 hr;obtain⟨h2,h3,h4,h5⟩:=and4 h3;exact⟨l,r,p,rfl,h2,z2i h3,h4,h5⟩
theorem zvx {op:CmpOp}(ia:Sd Κ Φ a)(ib:Sd Κ Φ b):Sd Κ Φ (.cmp op a b):=Sd.q (fun Γ X r e k h=>by
 obtain⟨_,_,_,rfl,h2,h3,h4,h5⟩:=zp6 h;exact zw4 k.hu h2 h3 (ia.E Γ X r _ k h4) (ib.E Γ X r _ k h5)) (fun Γ X r l ops rs p k h=>by
 obtain⟨_,_,_,he,h2,h3,h4,h5⟩:=zp6 h;cases he;exact zw3 k.hu h2 h3 (ia.E Γ X r _ k h4) (ib.E Γ X r _ k h5)) Nat.one_lt_two
theorem zrr {Γ:Gm}{o:CmpOp}{w:Const}{e:Expr}(h:((vCm e).any fun v=>decide (v.2.1=[o])&&(vOne v.2.2).any fun r=>decide (vCst r=some w)&&chkE Γ a v.1)=true):∃l k q p,e=.Compare l [o] [.Constant w k q] p/\chkE Γ a l=true:=by obtain⟨⟨l,o,rs⟩,hv,h9⟩:=z0c h;obtain⟨p,rfl⟩:=q_Cm hv;obtain⟨h1,h2⟩:=and2 h9;obtain⟨r,hr,h3⟩:=z0c h2;obtain⟨h4,h5⟩:=and2 h3;cases vy h1;cases z54 hr;obtain⟨_,_,rfl⟩:=zei (vy h4);exact⟨_,_,_,_,rfl,h5⟩
theorem zw2 {ng:Bool}(ia:Sd Κ Φ a):Sd Κ Φ (.isN ng a):=Sd.q (fun Γ X r e k h=>by
 obtain⟨_,_,_,_,rfl,h2⟩:=zrr h;exact zu4 rfl (ia.E Γ X r _ k h2)) (fun Γ X r l ops rs p k h=>by
 obtain⟨_,_,_,_,he,h2⟩:=zrr h;cases he;exact zuv rfl (ia.E Γ X r _ k h2)) Nat.one_lt_two
theorem z5v {f g:Expr->Bool}{o:BoolOp}{p:Pos}{xs:List Expr}(h:zch f g o p xs=true):(∃x y,xs=[x,y]/\f x=true/\g y=true)\/∃x y z r,xs=x::y::z::r/\f x=true/\g (.BoolOp o (y::z::r) p)=true:=by
 rcases xs with _|⟨x,_|⟨y,_|⟨z,xs⟩⟩⟩
 ·cases h
 ·cases h
 ·exact .inl ⟨x,y,rfl,(and2 h).1,(and2 h).2⟩
 ·exact .inr ⟨x,y,z,xs,rfl,(and2 h).1,(and2 h).2⟩
theorem zt6 (ia:Sd Κ Φ a)(ib:Sd Κ Φ b):Sd Κ Φ (.and a b) where
 E:=fun Γ X r e k h=>by
  obtain⟨⟨o,xs,p⟩,hv,h9⟩:=z0c h;cases q_Bo hv;obtain⟨h1,h2⟩:=and2 h9;cases vy h1;rcases z5v h2 with⟨x,y,rfl,h3,h4⟩|⟨x,y,z,t,rfl,h3,h4⟩
  ·exact zr9 (ia.E Γ X r _ k h3) (zia (ib.E Γ X r _ k h4))
  ·exact zr9 (ia.E Γ X r _ k h3) (ib.E Γ X r _ k h4)
 T:=fun Γ X r e k h=>by
  obtain⟨⟨o,xs,p⟩,hv,h9⟩:=z0c h;cases q_Bo hv;obtain⟨h1,h2⟩:=and2 h9;cases vy h1;rcases z5v h2 with⟨x,y,rfl,h3,h4⟩|⟨x,y,z,t,rfl,h3,h4⟩
  ·have w:=w_and (pos:=p) (ia.T Γ X r _ k h3).1 (zl7 (ib.T Γ X r _ k h4).1);exact⟨w.pt,fun _=>w⟩
  ·have w:=w_and (pos:=p) (ia.T Γ X r _ k h3).1 ((ib.T Γ X r _ k h4).2 ⟨_,_,_,rfl⟩);exact⟨w.pt,fun _=>w⟩
 Q:=fun _ _ _ _ _ _ _ _ h=>ff rfl h
 A:=fun _ _ _ _ _ h=>ff rfl h
 O:=fun _ _ _ _ _ h=>ff rfl h
 W:=fun _ _ _ _ _ _ _ h=>ff rfl h
 G:=fun _ _ _ _ _ h=>ff rfl h
theorem p_or (ia:Sd Κ Φ a)(ib:Sd Κ Φ b):Sd Κ Φ (.or a b) where
 E:=fun Γ X r e k h=>by
  obtain⟨⟨o,xs,p⟩,hv,h9⟩:=z0c h;cases q_Bo hv;obtain⟨h1,h2⟩:=and2 h9;cases vy h1;rcases z5v h2 with⟨x,y,rfl,h3,h4⟩|⟨x,y,z,t,rfl,h3,h4⟩
  ·exact d_or (ia.E Γ X r _ k h3) (zia (ib.E Γ X r _ k h4))
  ·exact d_or (ia.E Γ X r _ k h3) (ib.E Γ X r _ k h4)
 T:=fun Γ X r e k h=>by
  obtain⟨⟨o,xs,p⟩,hv,h9⟩:=z0c h;cases q_Bo hv;obtain⟨h1,h2⟩:=and2 h9;cases vy h1;rcases z5v h2 with⟨x,y,rfl,h3,h4⟩|⟨x,y,z,t,rfl,h3,h4⟩
  ·have w:=w_or (pos:=p) (ia.T Γ X r _ k h3).1 (zqg (ib.T Γ X r _ k h4).1);exact⟨w.pt,fun _=>w⟩
  ·have w:=w_or (pos:=p) (ia.T Γ X r _ k h3).1 ((ib.T Γ X r _ k h4).2 ⟨_,_,_,rfl⟩);exact⟨w.pt,fun _=>w⟩
 Q:=fun _ _ _ _ _ _ _ _ h=>ff rfl h
 A:=fun _ _ _ _ _ h=>ff rfl h
 O:=fun _ _ _ _ _ h=>ff rfl h
 W:=fun _ _ _ _ _ _ _ h=>ff rfl h
 G:=fun _ _ _ _ _ h=>ff rfl h
theorem zst (ia:Sd Κ Φ a):Sd Κ Φ (.not a) where
 E:=fun Γ X r e k h=>by obtain⟨⟨o,x⟩,hv,h9⟩:=z0c h;obtain⟨p,rfl⟩:=q_Un hv;obtain⟨h1,h2⟩:=and2 h9;cases vy h1;exact zvt (ia.E Γ X r _ k h2)
 T:=fun Γ X r e k h=>by obtain⟨⟨o,x⟩,hv,h9⟩:=z0c h;obtain⟨p,rfl⟩:=q_Un hv;obtain⟨h1,h2⟩:=and2 h9;cases vy h1;exact⟨z6t (ia.T Γ X r _ k h2).1,fun⟨_,_,_,z⟩=>by cases z⟩
 Q:=fun _ _ _ _ _ _ _ _ h=>ff rfl h
 A:=fun _ _ _ _ _ h=>ff rfl h
 O:=fun _ _ _ _ _ h=>ff rfl h
 W:=fun _ _ _ _ _ _ _ h=>ff rfl h
 G:=fun _ _ _ _ _ h=>ff rfl h
theorem zlu {e:Expr}(h:ziz e=true):∃l o r p,e=.Compare l o r p:=by cases e<;>first|exact ff rfl h|exact⟨_,_,_,_,rfl⟩
theorem p_tv (ia:Sd Κ Φ a):Sd Κ Φ (.tv a) where
 E:=fun _ _ _ _ _ h=>ff rfl h
 T:=fun Γ X r e k h=>by
  obtain⟨h1,h2⟩:=and2 h;rcases g7.mp h1 with h1|h1
  ·exact⟨zvd (ia.E Γ X r _ k h2) (zbp h1 _),fun⟨_,_,_,z⟩=>by subst z;cases h1⟩
  ·obtain⟨_,_,_,_,rfl⟩:=zlu h1;exact⟨ia.Q Γ X r _ _ _ _ k h2,fun⟨_,_,_,z⟩=>by cases z⟩
 Q:=fun _ _ _ _ _ _ _ _ h=>ff rfl h
 A:=fun _ _ _ _ _ h=>ff rfl h
 O:=fun Γ X r e k h=>by obtain⟨v,rfl,h⟩:=z0c h;exact zoa (ia.E Γ X r _ k h)
 W:=fun Γ X r e tg k _ h=>w_tv (ia.E Γ X r _ k (and2 h).2)
 G:=fun Γ X r e k h=>⟨a,rfl,ia.E Γ X r _ k h⟩
theorem zu1 (ic:Sd Κ Φ c)(ia:Sd Κ Φ a)(ib:Sd Κ Φ b):Sd Κ Φ (.ife c a b):=Sd.x (fun Γ X r e k h=>by obtain⟨v,hv,h9⟩:=z0c h;obtain⟨p,rfl⟩:=zvj hv;obtain⟨h1,h2,h3⟩:=and3 h9;exact zuk (ic.T Γ X r _ k h1).1 (ia.E Γ X r _ k h2) (ib.E Γ X r _ k h3)) rfl
theorem zt5 (ia:Sd Κ Φ a):Sd Κ Φ (.tup a):=Sd.x (fun Γ X r e k h=>by obtain⟨v,hv,h9⟩:=z0c h;obtain⟨_,_,rfl⟩:=zks hv;obtain⟨h1,h2⟩:=and2 h9;exact zw7 (ia.A Γ X r _ k h2) fun ρ ys e=>by rw[z4r Κ Φ h2 ρ ys e];exact zfg (vy h1)) rfl
theorem zuf (ia:Sd Κ Φ a):Sd Κ Φ (.lst a):=Sd.x (fun Γ X r e k h=>by obtain⟨v,hv,h9⟩:=z0c h;obtain⟨_,rfl⟩:=zp5 hv;obtain⟨h1,h2⟩:=and2 h9;exact zub (ia.A Γ X r _ k h2) fun ρ ys e=>by rw[z4r Κ Φ h2 ρ ys e];exact zfg (vy h1)) rfl
theorem zsf (ia:Sd Κ Φ a)(ib:Sd Κ Φ b):Sd Κ Φ (.rep a b):=Sd.x (fun Γ X r e k h=>by obtain⟨⟨x,o,y⟩,hv,h9⟩:=z0c h;obtain⟨p,rfl⟩:=zqr hv;obtain⟨h1,h2⟩:=and2 h9;obtain⟨es,he,h3⟩:=z0c h2;obtain⟨lp,rfl⟩:=zp5 he;cases vy h1;obtain⟨h4,h5,h6⟩:=and3 h3;exact zur (ia.A Γ X r _ k h5) (ib.E Γ X r _ k h6) fun ρ ys e=>by rw[z4r Κ Φ h5 ρ ys e];exact zfg (vy h4)) rfl
theorem p_ix (ia:Sd Κ Φ a)(ib:Sd Κ Φ b):Sd Κ Φ (.ix a b):=Sd.x (fun Γ X r e k h=>by obtain⟨v,hv,h9⟩:=z0c h;obtain⟨_,rfl⟩:=zke hv;obtain⟨h1,h2,h3⟩:=and3 h9;exact d_ix k.hu h1 (ia.E Γ X r _ k h2) (ib.E Γ X r _ k h3)) rfl
theorem p_sl {lo hi:C}(ia:Sd Κ Φ a)(il:Sd Κ Φ lo)(ih:Sd Κ Φ hi):Sd Κ Φ (.sl a lo hi):=Sd.x (fun Γ X r e k h=>by obtain⟨⟨x,i⟩,hv,h9⟩:=z0c h;obtain⟨_,rfl⟩:=zke hv;obtain⟨⟨l,u,s⟩,hs,h8⟩:=z0c h9;obtain⟨_,rfl⟩:=zt1 hs;obtain⟨h1,h2,h3,h4⟩:=and4 h8;cases oq.mp h1;exact d_sl (ia.E Γ X r _ k h2) (il.O Γ X r _ k h3) (ih.O Γ X r _ k h4)) rfl
theorem zof {j:Nat}{f:Str}{args:C}(ia:Sd Κ Φ args):Sd Κ Φ (.call j f args):=Sd.x (fun Γ X r e k h=>by
 obtain⟨⟨x,es⟩,hv,h9⟩:=z0c h;obtain⟨_,_,rfl⟩:=z2v hv;obtain⟨h1,h2,h3,h4,h5⟩:=and5 h9;obtain⟨y,es,rfl⟩:=z6h h5;obtain⟨h0,h1⟩:=and2 h1;cases v7 h1;obtain⟨g1,g2⟩:=k.gl h2;obtain⟨m,kk,ps,c1,c2,c3⟩:=k.fns j _ _ (v7 h3);refine PE.imp (zs8 c3 (k.room h0) c2 (ia.A Γ X r _ k h4) (z12 h4) g1 g2 (z4r Κ Φ h4)) fun σ H Q hq=>?_
 have ee:evE Κ Φ (.call j x args)=fun ρ=>evA Κ Φ args ρ>>=fun ys=>m (ys.map (·.2))>>=fun r=>.ok (gJ r.2 (rtG r.1),r.2):=by
  funext ρ
  show(evA Κ Φ args ρ>>=fun ys=>match Φ[j]? with|some m=>m (ys.map (·.2))>>=fun r=>.ok (gJ r.2 (rtG r.1),r.2)|none=>.no)=_;rw[c1]
 rw[ee]at hq;exact hq) rfl
theorem p_bi {f:String}{args:C}(ia:Sd Κ Φ args):Sd Κ Φ (.bi f args):=Sd.x (fun Γ X r e k h=>by
 obtain⟨⟨x,es⟩,hv,h9⟩:=z0c h;obtain⟨_,_,rfl⟩:=z2v hv;obtain⟨h1,h2,h3,h4,h5⟩:=and5 h9;obtain⟨y,es,rfl⟩:=z6h h5;have h1:=v7 h1;obtain⟨g1,g2,g3,g4⟩:=k.blt h2;obtain⟨h3,hcm⟩:=and2 h3;have hf:f∈["len","min","int"]:=cg.mp h3;have ha:=ia.A Γ X r _ k h4;simp only[aw,cw,or_false]at hf;rcases hf with rfl|rfl|rfl
 ·exact d_cB zl5 g2 (by rw[h1];decide+kernel) ha (z12 h4) g1 g4 g3
 ·exact d_cB (zpv (k.calm (or_l hcm rfl))) g2 (by rw[h1];decide+kernel) ha (z12 h4) g1 g4 g3
 ·exact ztr zmj g2 (by rw[h1];decide+kernel) ha (z12 h4) g1 g4 g3) rfl
theorem ztw {f:String}(ia:Sd Κ Φ a):Sd Κ Φ (.agg f a):=Sd.x (fun Γ X r e k h=>by
 obtain⟨⟨x,es⟩,hv,h9⟩:=z0c h;obtain⟨_,_,rfl⟩:=z2v hv;obtain⟨h1,h2,h3,h4⟩:=and4 h9;obtain⟨y,hy,k5⟩:=z0c h4;obtain⟨k4,k6⟩:=and2 k5;cases z54 hy;have k1:=v7 h1;obtain⟨g1,g2,g3,g4⟩:=k.blt h2;obtain⟨a,rfl,ha⟩:=ia.G Γ X r _ k k6;have k7:=z2i k4;obtain⟨h3,hcm⟩:=and2 h3;have hf:f∈aggs:=cg.mp h3;simp only[aggs,aw,cw,or_false]at hf;rcases hf with rfl|rfl|rfl|rfl|rfl
 ·exact zbz zs3 g2 (by rw[k1];decide+kernel) k7 ha g1 g4 g3
 ·exact zbz zld g2 (by rw[k1];decide+kernel) k7 ha g1 g4 g3
 ·exact zj4 (zfy k.hu) g2 (by rw[k1];decide+kernel) k7 ha g1 g4 g3
 ·exact zj4 (zsp (k.calm hcm)) g2 (by rw[k1];decide+kernel) k7 ha g1 g4 g3
 ·exact zbz (zs7 (k.calm hcm)) g2 (by rw[k1];decide+kernel) k7 ha g1 g4 g3) rfl
theorem p_rv (ia:Sd Κ Φ a):Sd Κ Φ (.rv a):=Sd.x (fun Γ X r e k h=>by obtain⟨⟨x,es⟩,hv,h9⟩:=z0c h;obtain⟨_,_,rfl⟩:=z2v hv;obtain⟨h1,h2,h3⟩:=and3 h9;obtain⟨y,hy,k3⟩:=z0c h3;obtain⟨k4,k5⟩:=and2 k3;cases z54 hy;obtain⟨⟨x2,es2⟩,hv2,j9⟩:=z0c k5;obtain⟨_,_,rfl⟩:=z2v hv2;obtain⟨j1,j2,j3⟩:=and3 j9;obtain⟨y2,hy2,i3⟩:=z0c j3;obtain⟨i4,i5⟩:=and2 i3;cases z54 hy2;have k1:=v7 h1;have l1:=v7 j1;obtain⟨hcm,h2⟩:=and2 h2;obtain⟨g1,g2,g3,g4⟩:=k.blt h2;obtain⟨f1,f2,f3,f4⟩:=k.blt j2;exact d_rv (k.calm hcm) g2 (by rw[k1];decide+kernel) g1 g4 g3 f2 (by rw[l1];decide+kernel) f1 f4 f3 (z2i i4) (ia.E Γ X r _ k i5)) rfl
theorem zvc {ts:List String}(ia:Sd Κ Φ a):Sd Κ Φ (.isT a ts):=Sd.x (fun Γ X r e k h=>by obtain⟨⟨x,es⟩,hv,h9⟩:=z0c h;obtain⟨_,_,rfl⟩:=z2v hv;obtain⟨h1,h2,h3⟩:=and3 h9;obtain⟨⟨y,t⟩,hy,k3⟩:=z0c h3;obtain⟨k4,h4,k5⟩:=and3 k3;obtain⟨T,hT,k6⟩:=z0c k5;cases zq9 hy;cases z54 hT;cases v7 h1;obtain⟨g1,g2,g3,g4⟩:=k.blt h2;obtain⟨x2,p2,rfl,rfl,hb,kT⟩:=zml k6;obtain⟨b1,b2,b3,b4⟩:=k.blt hb;exact zsx g2 g1 b2 (zgq kT) b1 b4 b3 kT (z2i k4) (ia.E Γ X r _ k h4)) rfl
theorem p_mt {m:String}{args:C}(io:Sd Κ Φ a)(ia:Sd Κ Φ args):Sd Κ Φ (.mt m a args):=Sd.x (fun Γ X r e k h=>by
 obtain⟨⟨x,n,es,b⟩,hv,h9⟩:=z0c h;obtain⟨ap,cp,rfl,hb⟩:=q_Mt hv;obtain⟨h0,h6,h7,h8⟩:=and4 h9;obtain⟨h1,h2,h3,h4,h5⟩:=and5 h0;obtain⟨y,es,rfl⟩:=z6h h8;cases v7 h1;have k4:(ap.endLine==cp.line)=true:=hb.symm.trans h4;have ho:=io.E Γ X r _ k h6;have ha:=ia.A Γ X r _ k h7;have hm:m∈["get","join"]:=cg.mp h2;simp only[cw,aw,or_false]at hm;rcases hm with rfl|rfl
 ·exact d_mt PySem.F.plainAttrs_dict PySem.F.slot_dict_get PySem.F.type_dict_get (zte k.hu) (fun _ _ _ _ _ _ r e=>zqw r e) ho ha h3 (z12 h7) (vy h5) k4
 ·exact d_mt PySem.F.plainAttrs_str PySem.F.slot_str_join PySem.F.type_str_join znt (fun _ _ _ _ _ _ r e=>zk9 r e) ho ha h3 (z12 h7) (vy h5) k4) rfl
theorem zu9 {Γ:Gm}{X:Cx}{ifs:List Expr}{n:Nat}(ic:Sd Κ Φ c)(k:Cok Γ Κ Φ X n)(h:ifsB (isNl c) (fun t=>chkT Γ c t) ifs=true):PTs X ifs (tDT X.K (evT Κ Φ c)):=by
 cases ifs with
 |nil=>
  have:c=.nil:=by cases c<;>first|exact ff rfl h|rfl
  subst this;refine fun pins s σ H Q I q=>zn9 pins s σ H Q I ?_;obtain⟨ρ,F,b,so,e,q⟩:=q;cases e;exact q H (Same.refl H)
 |cons t r=>obtain⟨h1,h2⟩:=and2 h;cases z2x h1;exact zle (ic.T Γ X n t k h2).1
theorem sC {nt:Nat}{js:List Nat}{N':List Str}{tg:Tg}{it cond elt:C}(ii:Sd Κ Φ it)(ic:Sd Κ Φ cond)(ie:Sd Κ Φ elt){Γ:Gm}{X:Cx}{r:Nat}{e:Expr}(k:Cok Γ Κ Φ X r)(h:chkE Γ (.comp nt js N' tg it cond elt) e=true):
  ∃el t i ifs scope pos,e=.ListComp el [⟨t,i,ifs,0⟩] scope pos/\BlkScope X scope N' nt js/\(∀i∈tgIx tg,i<nt)/\PI X t i (tDW X.K (evW Κ Φ it))/\(∀C fp s H,PG (blk X scope N' C fp s H) t (tDG X.K tg))/\(∀C fp s H,PTs (blk X scope N' C fp s H) ifs (tDT X.K (evT Κ Φ cond)))/\(∀C fp s H,PE (blk X scope N' C fp s H) el (tD X.K (evE Κ Φ elt)))/\(∀x,gg i X.env x=pure x)/\Γ.cm=true:=by
 obtain⟨⟨el,gs,scope⟩,hv,h9⟩:=z0c h;obtain⟨pos,rfl⟩:=q_LC hv;obtain⟨⟨t,i,ifs,kk⟩,hg,h9⟩:=z0c h9;cases z54 hg;obtain⟨h0,h6,h7,h8,h9⟩:=and5 h9;obtain⟨h1,h2,h3,h4,h5⟩:=and5 h0;obtain⟨hcm,h1⟩:=and2 h1;cases v7 h1;have h2:=bg.mp h2;have hB:BlkScope X scope N' nt js:=zp0 k.hN k.hs h3;have kb:=fun C fp s H=>k.blk (N':=N') hB.kind (vy h5) C fp s H;exact⟨el,t,i,ifs,scope,pos,rfl,hB,fun i hi=>vy (h2 i hi),ii.W Γ X r _ t k (and2 h6).2 h7,fun C fp s H=>zkp (kb C fp s H) (and2 h6).1,fun C fp s H=>zu9 ic (kb C fp s H) h8,fun C fp s H=>ie.E _ _ r _ (kb C fp s H) h9,z9m h4 _,hcm⟩
theorem zs4 {nt:Nat}{js:List Nat}{N':List Str}{tg:Tg}{it cond elt:C}(ii:Sd Κ Φ it)(ic:Sd Κ Φ cond)(ie:Sd Κ Φ elt):Sd Κ Φ (.comp nt js N' tg it cond elt):=Sd.x (fun Γ X r e k h=>by obtain⟨el,t,i,ifs,scope,pos,rfl,hB,h2,hi,hg,ht,he,hs,hcm⟩:=sC ii ic ie k h;exact(zid (k.calm hcm) hB h2 hi hg ht he hs).1) rfl
theorem zuu:Sd Κ Φ .nil where
 E:=fun _ _ _ _ _ h=>ff rfl h
 T:=fun _ _ _ _ _ h=>ff rfl h
 Q:=fun _ _ _ _ _ _ _ _ h=>ff rfl h
 A:=fun Γ X r es k h=>by cases z2x h;exact zou
 O:=fun Γ X r e k h=>by cases oq.mp h;exact z40
 W:=fun _ _ _ _ _ _ _ h=>ff rfl h
 G:=fun _ _ _ _ _ h=>ff rfl h
theorem zqo (ia:Sd Κ Φ a)(ib:Sd Κ Φ b):Sd Κ Φ (.cons a b) where
 E:=fun _ _ _ _ _ h=>ff rfl h
 T:=fun _ _ _ _ _ h=>ff rfl h
 Q:=fun _ _ _ _ _ _ _ _ h=>ff rfl h
 A:=fun Γ X r es k h=>by
  cases es with
  |nil=>cases h
  |cons e es=>obtain⟨h1,h2,h3⟩:=and3 h;exact zdq (z2i h1) (ia.E Γ X r _ k h2) (ib.A Γ X r _ k h3)
 O:=fun _ _ _ _ _ h=>ff rfl h
 W:=fun _ _ _ _ _ _ _ h=>ff rfl h
 G:=fun _ _ _ _ _ h=>ff rfl h
theorem ztq (ia:Sd Κ Φ a):Sd Κ Φ (.rng a) where
 E:=fun _ _ _ _ _ h=>ff rfl h
 T:=fun _ _ _ _ _ h=>ff rfl h
 Q:=fun _ _ _ _ _ _ _ _ h=>ff rfl h
 A:=fun _ _ _ _ _ h=>ff rfl h
 O:=fun _ _ _ _ _ h=>ff rfl h
 W:=fun Γ X r e tg k _ h=>by
  obtain⟨⟨x,es⟩,hv,h9⟩:=z0c h;obtain⟨_,_,rfl⟩:=z2v hv;obtain⟨h1,h2,h3,h4⟩:=and4 h9;obtain⟨h4,h5⟩:=and2 h4;cases v7 h1;obtain⟨g1,g2,g3,g4⟩:=k.blt h2;have hs:=bg.mp (z12 h3);have hl:=z4r Κ Φ h3;have ha:=ia.A Γ X r _ k h3;rcases es with _|⟨x,_|⟨y,es⟩⟩
  ·cases h4
  ·exact zom g2 g1 (z2i (hs x (.head _))) ha hl
  ·exact absurd (vy h5) (Nat.not_le.mpr (Nat.succ_lt_succ (qa _)))
 G:=fun _ _ _ _ _ h=>ff rfl h
theorem zif {e:Expr}(h:isTup e=true):∃a b c,e=.Tuple a b c:=by cases e<;>first|exact ff rfl h|exact⟨_,_,_,rfl⟩
theorem zje {Γ:Gm}{e:Expr}(h:chkW Γ (.enum a) e=true):∃y q p,e=.Call (.Name "enumerate" q) [y] [] p/\bltB Γ "enumerate"=true/\isStar y=false/\chkE Γ a y=true:=by obtain⟨⟨x,es⟩,hv,h9⟩:=z0c h;obtain⟨q,p,rfl⟩:=z2v hv;obtain⟨h1,h2,h3⟩:=and3 h9;obtain⟨y,hy,h3⟩:=z0c h3;cases z54 hy;cases v7 h1;exact⟨y,q,p,rfl,h2,z2i (and2 h3).1,(and2 h3).2⟩
theorem zoe {Γ:Gm}{e:Expr}(h:chkW Γ (.zip a b) e=true):∃y z q p,e=.Call (.Name "zip" q) [y,z] [] p/\bltB Γ "zip"=true/\isStar y=false/\isStar z=false/\chkE Γ a y=true/\chkE Γ b z=true:=by obtain⟨⟨x,es⟩,hv,h9⟩:=z0c h;obtain⟨q,p,rfl⟩:=z2v hv;obtain⟨h1,h2,h3⟩:=and3 h9;obtain⟨⟨y,z⟩,hy,h3⟩:=z0c h3;cases zq9 hy;cases v7 h1;obtain⟨h4,h5,h6⟩:=and3 h3;exact⟨y,z,q,p,rfl,h2,z2i (and2 h4).1,z2i (and2 h4).2,h5,h6⟩
theorem zow (ia:Sd Κ Φ a):Sd Κ Φ (.enum a) where
 E:=fun _ _ _ _ _ h=>ff rfl h
 T:=fun _ _ _ _ _ h=>ff rfl h
 Q:=fun _ _ _ _ _ _ _ _ h=>ff rfl h
 A:=fun _ _ _ _ _ h=>ff rfl h
 O:=fun _ _ _ _ _ h=>ff rfl h
 W:=fun Γ X r e tg k ht h=>by obtain⟨y,q,p,rfl,h2,h3,h4⟩:=zje h;obtain⟨_,_,_,rfl⟩:=zif ht;obtain⟨g1,g2,g3,g4⟩:=k.blt h2;exact zjc g2 g1 h3 (ia.E Γ X r _ k h4)
 G:=fun _ _ _ _ _ h=>ff rfl h
theorem ztx (ia:Sd Κ Φ a)(ib:Sd Κ Φ b):Sd Κ Φ (.zip a b) where
 E:=fun _ _ _ _ _ h=>ff rfl h
 T:=fun _ _ _ _ _ h=>ff rfl h
 Q:=fun _ _ _ _ _ _ _ _ h=>ff rfl h
 A:=fun _ _ _ _ _ h=>ff rfl h
 O:=fun _ _ _ _ _ h=>ff rfl h
 W:=fun Γ X r e tg k ht h=>by obtain⟨y,z,q,p,rfl,h2,h3,h4,h5,h6⟩:=zoe h;obtain⟨g1,g2,g3,g4⟩:=k.blt h2;exact zhz ht g2 g1 h3 h4 (ia.E Γ X r _ k h5) (ib.E Γ X r _ k h6)
 G:=fun _ _ _ _ _ h=>ff rfl h
theorem zq5 (hx:isX c=0)(hn:∀Γ e,chkE Γ c e=false):Sd Κ Φ c:=Sd.x (fun Γ X r e k h=>ff (hn Γ e) h) hx
theorem all (c:C):Sd Κ Φ c:=by
 induction c with
 |var=>exact zu6
 |non=>exact zv9
 |bl=>exact p_bl
 |int=>exact zva
 |str=>exact zty
 |bin _ _ _ ia ib=>exact zsu ia ib
 |cmp _ _ _ ia ib=>exact zvx ia ib
 |isN _ _ ia=>exact zw2 ia
 |and _ _ ia ib=>exact zt6 ia ib
 |or _ _ ia ib=>exact p_or ia ib
 |not _ ia=>exact zst ia
 |ife _ _ _ ic ia ib=>exact zu1 ic ia ib
 |tup _ ia=>exact zt5 ia
 |lst _ ia=>exact zuf ia
 |ix _ _ ia ib=>exact p_ix ia ib
 |sl _ _ _ ia ib ic=>exact p_sl ia ib ic
 |call _ _ _ ia=>exact zof ia
 |bi _ _ ia=>exact p_bi ia
 |agg _ _ ia=>exact ztw ia
 |isT _ _ ia=>exact zvc ia
 |mt _ _ _ ia ib=>exact p_mt ia ib
 |comp _ _ _ _ _ _ _ ia ib ic=>exact zs4 ia ib ic
 |rng _ ia=>exact ztq ia
 |rep _ _ ia ib=>exact zsf ia ib
 |enum _ ia=>exact zow ia
 |zip _ _ ia ib=>exact ztx ia ib
 |tv _ ia=>exact p_tv ia
 |rv _ ia=>exact p_rv ia
 |nil=>exact zuu
 |cons _ _ ia ib=>exact zqo ia ib
 |_=>exact zq5 rfl fun _ _=>rfl
end
section
variable (Κ:List D)(Φ:List Fn)
theorem z9j {el:Expr}{gs:List kz}{s:Scope}{p px:Pos}{t:Str}{n:Nat}{env:Env}:l8 (.ListComp el gs s p) (some (.Name t px)) n env=pure (env.blockKind==.function&&env.kindOf t==some .local&&px.line==p.line&& !(s.names.any fun(n,k)=>n==t&&(k==.local||k==.cell))):=rfl
theorem znq {Γ:Gm}{c:C}{el:Expr}{gs:List kz}{s:Scope}{p:Pos}(hn:isCI c=false)(h:chkE Γ c (.ListComp el gs s p)=true):∃nt js N' tg it cond elt,c=.comp nt js N' tg it cond elt:=by cases c<;>first|exact ff rfl h|exact⟨_,_,_,_,_,_,_,rfl⟩|(cases hn;done)
theorem zkw {Γ:Gm}{c:C}{el:Expr}{gs:List kz}{s:Scope}{p:Pos}(h:chkE Γ c (.SetComp el gs s p)=true):False:=by cases c<;>exact ff rfl h
theorem zln {Γ:Gm}{c:C}{el el2:Expr}{gs:List kz}{s:Scope}{p:Pos}(h:chkE Γ c (.DictComp el el2 gs s p)=true):False:=by cases c<;>exact ff rfl h
theorem sAsg {Γ:Gm}{X:Cx}{r:Nat}(k:Cok Γ Κ Φ X r){i:Nat}{x:Str}{px pos:Pos}{c:C}{v:Expr}(h1:locB Γ i x=true)(hn:isCI c=false)(h2:chkE Γ c v=true):PS X (.Assign [.Name x px] v pos) (tDS X.K fun ρ=>evE Κ Φ c ρ>>=fun x=>.ok (.nx (ρ.set i (some (z1j x))))):=by
 obtain⟨l1,l2,l3⟩:=k.loc h1;have nd:X.N.Nodup:=by rw[k.hN];exact k.nd
 cases hc:z38 v with
 |false=>exact zrk nd l1 l2 l3 (z43 hc _ _ _) ((all c).E Γ X r _ k h2)
 |true=>
  cases v<;>first|(cases hc;done)|skip
  ·rename_i el gs s p;cases hb:(X.env.blockKind==.function&&X.env.kindOf x==some .local&&px.line==p.line&& !(s.names.any fun(n,k)=>n==x&&(k==.local||k==.cell)))with
   |false=>exact zrk nd l1 l2 l3 (by rw[z9j,hb]) ((all c).E Γ X r _ k h2)
   |true=>
    obtain⟨nt,js,N',tg,it,cond,elt,rfl⟩:=znq hn h2;obtain⟨el',t,i',ifs,scope,pos',e,hB,h0,hi,hg,ht,he,hs,hcm⟩:=sC (all it) (all cond) (all elt) k h2;cases e;have hl:X.env.scope.names.lookup x=some .local:=by simp only[ax,beq_iff_eq]at hb;exact hb.1.1.2
    refine PS.imp (zfr (k.calm hcm) nd l1 hl hB hi hg ht he (by rw[z9j,hb]) hs) fun D σ H q=>?_;exact zj0 (fa:=zb1 nt js tg (evW Κ Φ it) (evT Κ Φ cond) (evE Κ Φ elt)) (fun σ H Q z=>(zid (pos:=p) (k.calm hcm) hB h0 hi hg ht he hs).2 σ H Q z) D σ H q
  ·exact(zkw h2).elim
  ·exact(zln h2).elim
theorem sFF {Γ:Gm}{X:Cx}{r:Nat}(k:Cok Γ Κ Φ X r){c:C}{ie tg:Expr}(hh:chkF Γ c tg ie=true):PI X tg ie (tDF X.K (evF Κ Φ c))/\zh3 ie=true:=by
 obtain⟨ht,h⟩:=and2 hh;have hw:=(all (Κ:=Κ) (Φ:=Φ) c).W Γ X r ie tg k ht h;cases c with
 |tv a=>
  have hal:=PI.orD (k:=fun ρ=>isAl Κ Φ (.tv a) ρ) (f_al ((all a).E Γ X r _ k (and2 h).2)) (znx hw);refine⟨?_,(and2 h).1⟩;cases a with
  |var i=>obtain⟨x,p,rfl,h2⟩:=z5z (and2 h).2;obtain⟨v1,v2,v3,v4⟩:=k.vis h2;exact PI.orD (k:=fun ρ=>ownB ρ i) (ztu v1 v2 v3 v4) hal
  |_=>exact hal
 |enum a=>obtain⟨y,q,p,rfl,h2,h3,h4⟩:=zje h;obtain⟨_,_,_,rfl⟩:=zif ht;obtain⟨g1,g2,g3,g4⟩:=k.blt h2;exact⟨zqh g2 g1 h3 ((all a).E Γ X r _ k h4),rfl⟩
 |zip a b=>
  obtain⟨y,z,q,p,rfl,h2,h3,h4,h5,h6⟩:=zoe h;obtain⟨g1,g2,g3,g4⟩:=k.blt h2
  have ez:evF Κ Φ (.zip a b)=fun ρ=>(evE Κ Φ a ρ>>=fun x=>evE Κ Φ b ρ>>=fun y=>Res.ok [x,y])>>=fun ys=>evZi ys ρ:=by
   funext ρ
   show((evE Κ Φ a ρ>>=fun x=>(evE Κ Φ b ρ>>=fun y=>Res.ok [y])>>=fun xs=>Res.ok (x::xs))>>=fun ys=>evZi ys ρ)=_;cases evE Κ Φ a ρ with
   |ok x=>cases evE Κ Φ b ρ<;>rfl
   |exc=>rfl
   |no=>rfl
  rw[ez];exact⟨zmz ht g2 g1 h3 h4 ((all a).E Γ X r _ k h5) ((all b).E Γ X r _ k h6),rfl⟩
 |rng a=>refine⟨znx hw,?_⟩;obtain⟨v,hv,_⟩:=z0c h;obtain⟨_,_,rfl⟩:=z2v hv;rfl
 |_=>exact ff rfl h
theorem z82 {a:List Expr}{b:Nat}{c:Pos}{v:Expr}{env:Env}(h:isTup v=false):sk [.Tuple a b c] v env=pure none:=by cases v<;>first|rfl|(cases h;done)
theorem q_As {s:Stmt}{v:List Expr×Expr}(h:vAs s=some v):∃p,s=.Assign v.1 v.2 p:=v_of (q:=fun v=>∃p,s=.Assign v.1 v.2 p) h (by cases s<;>first|exact .inl rfl|exact .inr ⟨_,rfl,_,rfl⟩)
theorem q_Ex {s:Stmt}{v:Expr}(h:vEx s=some v):∃p,s=.Expr v p:=v_of (q:=fun v=>∃p,s=.Expr v p) h (by cases s<;>first|exact .inl rfl|exact .inr ⟨_,rfl,_,rfl⟩)
theorem q_Rt {s:Stmt}{v:Option Expr}(h:vRt s=some v):∃p,s=.Return v p:=v_of (q:=fun v=>∃p,s=.Return v p) h (by cases s<;>first|exact .inl rfl|exact .inr ⟨_,rfl,_,rfl⟩)
theorem q_If {s:Stmt}{v:Expr×List Stmt×List Stmt}(h:vIf s=some v):∃p,s=.If v.1 v.2.1 v.2.2 p:=v_of (q:=fun v=>∃p,s=.If v.1 v.2.1 v.2.2 p) h (by cases s<;>first|exact .inl rfl|exact .inr ⟨_,rfl,_,rfl⟩)
theorem q_Fo {s:Stmt}{v:Expr×Expr×List Stmt×List Stmt}(h:vFo s=some v):∃p,s=.For v.1 v.2.1 v.2.2.1 v.2.2.2 p:=v_of (q:=fun v=>∃p,s=.For v.1 v.2.1 v.2.2.1 v.2.2.2 p) h (by cases s<;>first|exact .inl rfl|exact .inr ⟨_,rfl,_,rfl⟩)
theorem q_Wh {s:Stmt}{v:Expr×List Stmt×List Stmt}(h:vWh s=some v):∃p,s=.While v.1 v.2.1 v.2.2 p:=v_of (q:=fun v=>∃p,s=.While v.1 v.2.1 v.2.2 p) h (by cases s<;>first|exact .inl rfl|exact .inr ⟨_,rfl,_,rfl⟩)
structure Ss (s:S):Prop where
 R:∀(Γ:Gm) (X:Cx) (r:Nat) (st:Stmt),Cok Γ Κ Φ X r->li (model X.prog X.w) X.A X.env X.xe->chk1 Γ s st=true->PS X st (tDS X.K (evS Κ Φ s))
 L:∀(Γ:Gm) (X:Cx) (r:Nat) (st:List Stmt),Cok Γ Κ Φ X r->li (model X.prog X.w) X.A X.env X.xe->chkL Γ s st=true->PSs X st (tDS X.K (evS Κ Φ s))
def isSq:S->Bool
 |.nil=>false
 |.seq _ _=>false
 |.dap _ _ _=>false
 |_=>true
variable {Κ:List D}{Φ:List Fn}
theorem Ss.x {s:S}(h:∀(Γ:Gm) (X:Cx) (r:Nat) (st:Stmt),Cok Γ Κ Φ X r->li (model X.prog X.w) X.A X.env X.xe->chk1 Γ s st=true->PS X st (tDS X.K (evS Κ Φ s)))(hx:isSq s=true):Ss Κ Φ s:=⟨h,by cases s<;>first|(cases hx;done)|exact fun _ _ _ _ _ _ h=>ff rfl h⟩
theorem zvb {t:Tg}{e:C}:Ss Κ Φ (.asg t e):=Ss.x (fun Γ X r st k hp h=>by
 obtain⟨⟨ts,v⟩,hv,h9⟩:=z0c h;obtain⟨p,rfl⟩:=q_As hv;obtain⟨x,hx,h8⟩:=z0c h9;cases z54 hx;obtain⟨h1,h2,h3,h4⟩:=and4 h8;cases t with
 |nm i=>obtain⟨y,q,rfl,h5⟩:=z5z h1;exact sAsg Κ Φ k h5 (z2i h2) h4
 |tp is=>obtain⟨k1,k2⟩:=and2 (show(!z38 v&& !isTup v)=true from h3);obtain⟨es,hes,_⟩:=z0c (and2 h1).2;obtain⟨_,_,rfl⟩:=zks hes;exact zqf (zkp k (t:=.tp is) h1) ((all e).E Γ X r _ k h4) ((show sj [_] _ _ _=l8 _ _ _ _ from rfl).trans (z43 (z2i k1) _ _ _)) (z82 (z2i k2)) rfl) rfl
theorem zmg {i:Nat}{a b:C}:Ss Κ Φ (.setIx i a b):=Ss.x (fun Γ X r st k hp h=>by obtain⟨⟨ts,v⟩,hv,h9⟩:=z0c h;obtain⟨p,rfl⟩:=q_As hv;obtain⟨x,hx,h8⟩:=z0c h9;cases z54 hx;obtain⟨⟨y,ie⟩,hy,h7⟩:=z0c h8;obtain⟨_,rfl⟩:=zke hy;obtain⟨h1,h2,h3,h4,h5⟩:=and5 h7;obtain⟨z,q,hz,h6⟩:=z5z h1;cases hz;obtain⟨v1,v2,v3,v4⟩:=k.vis h6;exact zvn k.hu v1 v2 v3 v4 (z2i h3) ((all a).E Γ X r _ k h4) ((all b).E Γ X r _ k h5)) rfl
theorem ztc {m:String}{i:Nat}{args:C}:Ss Κ Φ (.mut m i args):=Ss.x (fun Γ X r st k hp h=>by
 obtain⟨c,hv,h9⟩:=z0c h;obtain⟨p,rfl⟩:=q_Ex hv;obtain⟨⟨x,n,es,b⟩,hm,h8⟩:=z0c h9;obtain⟨ap,cp,rfl,hb⟩:=q_Mt hm;obtain⟨h0,h6,h7⟩:=and3 h8;obtain⟨h1,h2,h3,h4,h5⟩:=and5 h0;obtain⟨z,q,hz,k1⟩:=z5z h1;cases hz;obtain⟨y,es,rfl⟩:=z6h h6;cases v7 h2;have hm:m∈["append","insert","pop"]:=cg.mp h3;simp only[cw,aw,or_false]at hm;obtain⟨v1,v2,v3,v4⟩:=k.vis k1;rcases hm with rfl|rfl|rfl
 ·exact zhb v1 v2 v3 v4 ((all args).A Γ X r _ k h7) (z12 h7) (vy h5) (hb.symm.trans h4)
 ·exact zgi v1 v2 v3 v4 ((all args).A Γ X r _ k h7) (z12 h7) (vy h5) (hb.symm.trans h4)
 ·exact zkd v1 v2 v3 v4 ((all args).A Γ X r _ k h7) (z12 h7) (vy h5) (hb.symm.trans h4)) rfl
theorem zq4 {e:C}:Ss Κ Φ (.drop e):=Ss.x (fun Γ X r st k hp h=>by obtain⟨v,hv,h9⟩:=z0c h;obtain⟨p,rfl⟩:=q_Ex hv;obtain⟨h1,h2⟩:=and2 h9;exact zsd (z2i h1) ((all e).E Γ X r _ k h2)) rfl
theorem ztj {e:C}:Ss Κ Φ (.ret e):=Ss.x (fun Γ X r st k hp h=>by
 obtain⟨o,hv,h9⟩:=z0c h;obtain⟨p,rfl⟩:=q_Rt hv;obtain⟨v,rfl,h8⟩:=z0c h9;have g:=(all (Κ:=Κ) (Φ:=Φ) e).E Γ X r _ k h8;cases e with
 |var i=>obtain⟨x,q,rfl,h7⟩:=z5z h8;obtain⟨v1,v2,v3,v4⟩:=k.vis h7;exact z7j v1 v2 v3 v4
 |_=>exact zv7 g) rfl
theorem q_if {c:C}{a b:S}(ia:Ss Κ Φ a)(ib:Ss Κ Φ b):Ss Κ Φ (.ifS c a b):=Ss.x (fun Γ X r st k hp h=>by obtain⟨v,hv,h9⟩:=z0c h;obtain⟨p,rfl⟩:=q_If hv;obtain⟨h1,h2,h3⟩:=and3 h9;exact s_if ((all c).T Γ X r _ k h1).1 (ia.L Γ X r _ k hp h2) (ib.L Γ X r _ k hp h3)) rfl
theorem zs0 {t:Tg}{it:C}{b:S}(ib:Ss Κ Φ b):Ss Κ Φ (.for_ t it b):=Ss.x (fun Γ X r st k hp h=>by obtain⟨hcm,h⟩:=and2 h;obtain⟨⟨t,i,B,o⟩,hv,h9⟩:=z0c h;obtain⟨p,rfl⟩:=q_Fo hv;obtain⟨h1,h2,h3,h4⟩:=and4 h9;cases z2x h4;obtain⟨hf,hn⟩:=sFF Κ Φ k h2;exact zvu hp (k.calm hcm) hf (zkp k h1) (ib.L Γ X r _ k hp h3) (z9m hn _)) rfl
theorem q_wh {n:Nat}{c:C}{b:S}(ib:Ss Κ Φ b):Ss Κ Φ (.wh n c b):=Ss.x (fun Γ X r st k hp h=>by obtain⟨⟨t,B,o⟩,hv,h9⟩:=z0c h;obtain⟨p,rfl⟩:=q_Wh hv;obtain⟨h1,h2,h3⟩:=and3 h9;cases z2x h3;exact zm6 hp ((all c).T Γ X r _ k h1).1 (ib.L Γ X r _ k hp h2)) rfl
theorem zv6 {s:S}(is:Ss Κ Φ s):Ss Κ Φ (.stl s):=Ss.x (fun Γ X r st k hp h=>PS.imp (is.R Γ X r st k hp h) fun D σ H zz=>by
 obtain⟨ρ,F,out,so,e,q⟩:=zz;have e:(if noOwn ρ then evS Κ Φ s (ρ.map settle)else evS Κ Φ s (ρ.map settleA))=.ok out:=e;cases hn:noOwn ρ with
 |false=>rw[hn]at e;exact⟨_,_,out,so.settleA,e,q.back ⟨so.ext,rfl⟩ fun a o e _=>⟨e,rfl⟩⟩
 |true=>rw[hn]at e;exact⟨_,_,out,so.settle hn,e,q.back ⟨so.ext,rfl⟩ fun a o e _=>⟨e,rfl⟩⟩) rfl
theorem Cok.wish {Γ:Gm}{X:Cx}{r:Nat}(k:Cok Γ Κ Φ X r)(E:Value->ac->Prop):Cok Γ Κ Φ (X.wish E) r:=⟨k.hN,k.hs,k.nd,k.fn,k.kind,k.free,k.fns,k.cst,k.fnx,k.room,k.calm,k.hu,k.fun_,k.fx0,fun n c z=>by obtain⟨a,oe,C,h1,h2,h3,h4⟩:=k.xc n c z;exact⟨a,oe,C,h1,fun p σ H s I=>h2 p σ H s I.unwish,h3,h4⟩,k.xk⟩
theorem zkx {e a:C}{b:S}(ib:Ss Κ Φ b):Ss Κ Φ (.dap e a b):=⟨fun _ _ _ _ _ _ h=>ff rfl h,fun Γ X r st k hp h=>by
 cases st with
 |nil=>cases h
 |cons s st=>obtain⟨h9,h8⟩:=and2 h;obtain⟨c,hv,h10⟩:=z0c h9;obtain⟨p,rfl⟩:=q_Ex hv;obtain⟨⟨x,n,es,b2⟩,hm,h7⟩:=z0c h10;obtain⟨ap,cp,rfl,hb⟩:=q_Mt hm;obtain⟨h0,h1,h2⟩:=and3 h7;obtain⟨h3,h4,h5⟩:=and3 h0;obtain⟨y,hy,h6⟩:=z0c h2;cases z54 hy;cases v7 h3;obtain⟨g1,g2⟩:=and2 h6;exact zsy ((all e).E Γ X r _ k h1) ((all a).E Γ X r _ k g2) (ib.L Γ X r _ k hp h8) h4 (z2i g1) (hb.symm.trans h5)⟩
theorem zul (s:S):Ss Κ Φ s:=by
 induction s with
 |nil=>exact⟨fun _ _ _ _ _ _ h=>ff rfl h,fun Γ X r st k hp h=>by cases z2x h;exact zsl⟩
 |seq a b ia ib=>
  refine⟨fun _ _ _ _ _ _ h=>ff rfl h,fun Γ X r st k hp h=>?_⟩;cases st with
  |nil=>cases h
  |cons s st=>exact zug (ia.R Γ X r _ k hp (and2 h).1) (ib.L Γ X r _ k hp (and2 h).2)
 |bad=>refine Ss.x (fun Γ X r st k hp h=>?_) rfl;intro pins s σ H D I q;obtain⟨ρ,F,out,so,e,_⟩:=q;cases e
 |asg=>exact zvb
 |stl s is=>exact zv6 is
 |dap _ _ _ ib=>exact zkx ib
 |setIx=>exact zmg
 | «mut»=>exact ztc
 |drop=>exact zq4
 |ret=>exact ztj
 |ifS _ _ _ ia ib=>exact q_if ia ib
 |for_ _ _ _ ib=>exact zs0 ib
 |wh _ _ _ ib=>exact q_wh ib
 |_=>exact Ss.x (fun _ _ _ _ _ _ h=>ff rfl h) rfl
theorem sL (Κ:List D)(Φ:List Fn)(s:S):∀(Γ:Gm) (X:Cx) (r:Nat) (st:List Stmt),Cok Γ Κ Φ X r->li (model X.prog X.w) X.A X.env X.xe->chkL Γ s st=true->PSs X st (tDS X.K (evS Κ Φ s)):=(zul s).L
end
section
variable (Κ:List D)(Φ:List Fn)
variable {Κ Φ}
end
section
variable {P:ba}{w:World}{K:W.Frag}{mg:Str->Option Value}{base:Heap}
structure Dok (Γ:Gm)(Κ:List D)(Φ:List Fn)(P:ba)(w:World)(K:W.Frag)(mg:Str->Option Value)(base:Heap)(k:Nat):Prop where
 free:∀x,Γ.free.contains x=true->mg x=none
 fns:∀(j:Nat) f n,Γ.fns[j]?=some (f,n)->∃m k' ps,Φ[j]?=some m/\k'<=k/\Cal P w K mg base k' f ps (spD K n m)
 cst:∀(j:Nat) x,Γ.cst[j]?=some x->∃d a,Κ[j]?=some d/\mg x=some (.ref a)/\∀H B,B none->Rep K H B (.ref a) d
 fnx:∀(j:Nat) f n,Γ.fns[j]?=some (f,n)->∃m k' ps,Φ[j]?=some m/\k'<=k/\CalX P w K mg base k' f ps n m
 xk:Xok Γ K mg
theorem zgh {H:Hp}{A:Ad->Prop}{vs:List V}{ds:List D}{n:Nat}(r:Reps K H A vs ds):StOk K ⟨H,fun a=>H a=none\/A (some a),fun _=>none⟩ H (vs.map some++bv (n-vs.length) none) (ds.map (fun d=>some (.od,d))++bv (n-ds.length) none) where
 ext:=Same.refl H
 vis:=fun a e=>.inl e
 own:=fun a i e=>by cases e
 len:=by have:=r.length;simp only[av,af,dg];omega
 sl:=fun i g d e=>by
  rw[ms]at e;split at e
  ·rename_i hi;rw[bw]at e;cases h1:ds[i]? with
   |none=>rw[h1]at e;cases e
   |some d'=>
    rw[h1]at e;cases e;obtain⟨v,h2,h3⟩:=Reps.get r h1;refine⟨v,?_,?_⟩
    ·rw[ms,if_pos (by rw[af,r.length];rw[af]at hi;exact hi),bw,h2];rfl
    ·refine(Rep.there _ h3).weak fun a h=>?_;cases a with
     |none=>trivial
     |some a=>exact⟨fun z=>h.2 z,.inr h.1⟩
  ·rw[gh]at e;split at e<;>cases e
theorem d_fn {Γ:Gm}{Κ:List D}{Φ:List Fn}{x:Str}{st:Stmt}{ps:List Str}{k:Nat}{s:S}{f:Addr}{fd:fj}(Fu:Fun K x x st f fd)(Sc:FnScope Γ.N ps (z0i st))(hs:Γ.sc=z0i st)(hb:Γ.blk=false)(hxc:Γ.xc=none)(dk:Dok Γ Κ Φ P w K mg base k)(hc:chkL Γ s (z14 st)=true):
  FnOk P w K mg base CX0 (k+1) f fd ps (spD K ps.length (runD Κ Φ Γ.N.length s)):=by
 refine Fu.ok Sc (fun vs H Q E h=>h.choose_spec.choose_spec.choose_spec.1) fun cdv A outer s1 H vs Q E hr hsp=>?_;obtain⟨B,ds,r,hl,rs,e,q⟩:=hsp;refine⟨_,sL Κ Φ s Γ (cxOf CX0 P w K mg base Γ.N x (z0i st) f cdv A outer s1 H E).nox k _ ⟨rfl,hs.symm,Sc.nd,fun _ _=>rfl,by rw[hs];exact Sc.kind,dk.free,dk.fns,dk.cst,dk.fnx,fun _=>hr,fun _=>rfl,hr.units,fun _=>⟨rfl,rfl⟩,fun _=>rfl,fun _ _ z=>(by rw[hxc]at z;cases z),dk.xk⟩ PassesOwn.never hc,?_⟩;unfold runD at e;have so:=zgh (n:=Γ.N.length) rs;have hd:ds.length=vs.length:=(rs.length).symm;generalize ho:evS Κ Φ s (ds.map (fun d=>some (.od,d))++bv (Γ.N.length-ds.length) none)=out at e
 match out,ho,e with
 |.ok (.nx ρ'),ho,e=>cases e;refine⟨_,_,_,so,ho,fun σ' H' F' so' ru fr=>q .non H' (fun a o e=>(fr a o e rfl).1) rfl⟩
 |.ok (.rt g d),ho,e=>
  cases e;refine⟨_,_,_,so,ho,fun v H' hk rv=>q v H' hk (rv.weak fun a h=>?_)⟩;cases g with
  |fr=>cases a<;>exact h
  |nu=>cases a<;>exact h
  |od=>cases a with
   |none=>exact .inr (.inr rfl)
   |some a=>exact(show H a=none\/B (some a)from h).elim .inl fun z=>.inr (.inl z)
  |al=>cases a with
   |none=>exact .inr (.inr rfl)
   |some a=>exact(show H a=none\/B (some a)from h).elim .inl fun z=>.inr (.inl z)
 |.exc _,ho,e=>cases e
 |.no,ho,e=>cases e
theorem zsg {Γ:Gm}{Κ:List D}{Φ:List Fn}{x:Str}{st:Stmt}{ps:List Str}{k:Nat}{s:S}{f:Addr}{fd:fj}(Fu:Fun K x x st f fd)(Sc:FnScope Γ.N ps (z0i st))(hs:Γ.sc=z0i st)(hb:Γ.blk=false)(hxc:Γ.xc=none)(dk:Dok Γ Κ Φ P w K mg base k)(hc:chkL Γ s (z14 st)=true):
  FnOk P w K mg base (CXE P w base) (k+1) f fd ps (spX K mg ps.length (runD Κ Φ Γ.N.length s)):=by
 obtain⟨oc,od,kV,doc,pm,an,cdv,ct,osl,rfl,lk,hcd⟩:=Fu.ex;refine zs6 lk hcd Sc (fun vs H Q E h=>h.choose_spec.choose_spec.choose_spec.1) fun A outer s1 H vs Q E hr hsp=>?_;obtain⟨B,ds,c,hl,rs,e,q⟩:=hsp;unfold runD at e;split at e<;>cases e
theorem zbf {K:W.Frag}{H:Hp}{a:Addr}{ns:List Int}(h:SqL K H a (ns.map V.int)):Reps K H (fun _=>True) [.ref a] [.list (ns.map .int)]:=by
 refine⟨_,_,rfl,⟨a,ns.map V.int,rfl,?_,?_⟩,rfl⟩
 ·rcases h with(h|h)|h
  ·exact .inl ⟨h,trivial⟩
  ·exact .inr ⟨.inl h,trivial⟩
  ·exact .inr ⟨.inr h,trivial⟩
 ·clear h
  induction ns with
  |nil=>rfl
  |cons n ns ih=>exact⟨_,_,rfl,rfl,ih⟩
end
section
variable {X:Cx}{pins:List (Addr×Obj)}{σ:L2.St}{H:Hp}{s:ac}{i:Nat}{n:Str}{a:Addr}{oe:Obj}
end
section
variable {P:ba}{w:World}{K:W.Frag}{mg:Str->Option Value}{base:Heap}
end
section
variable {X:Cx}{pins:List (Addr×Obj)}{σ:L2.St}{H:Hp}{s:ac}{i j:Nat}{n y c:Str}{r:Bool}
end
end Mi
namespace Mi
open PySem
structure Gd where
 kf:Nat
 args:C
 c:Str
 i:Nat
 j:Nat
 g:Str
 r:Bool
end Mi
namespace Mi
open PySem PySem.Spec PyProof.Rows L2
section
variable {X:Cx}{i j:Nat}{n y c:Str}
end
section
variable {P:ba}{w:World}{K:W.Frag}{mg:Str->Option Value}{base:Heap}
end
structure XR where
 c:Str
 cs:List (Str×Bool)
 B:Str
def XR.subs (r:XR):List (Str×Str×Bool):=(r.c,"ValueError",true)::r.cs.map fun y=>(r.c,y.1,y.2)
def zhh (K:W.Frag)(A:Addr):List (Str×Bool)->Prop
 | []=>True
 |y::l=>(∃D dd cd sl,W.nsIn K b8 y.1=some (some (.ref D))/\K.lookup D=some ⟨.type "type",dd,.cls cd,sl⟩/\W.subIn K (.ref A) (.ref D)=some y.2)/\zhh K A l
structure Kx (K:W.Frag)(r:XR)(A D:Addr):Prop where
 a:W.nsIn K b8 r.c=some (some (.ref A))
 l:∃dd cd sl,K.lookup A=some ⟨.type "type",dd,.cls cd,sl⟩
 e:W.excIn K A [.type "ValueError",.type "Exception",.type "BaseException",.type "object"] "ValueError.__new__"=true
 cl:W.findIn K (.ref A) "__class__"=some (some (.builtin "object.__class__"))
 ga:W.findIn K (.ref A) "__getattribute__"=some (some (.builtin "BaseException.__getattribute__"))
 gt:W.findIn K (.ref A) "__getattr__"=some none
 ob:W.subIn K (.ref A) (.type "object")=some true
 be:W.subIn K (.ref A) (.type "BaseException")=some true
 v:W.subIn K (.ref A) (.type "ValueError")=some true
 b:W.nsIn K b8 r.B=some (some (.ref D))
 f:W.excIn K D [.type "ValueError",.type "Exception",.type "BaseException",.type "object"] "ValueError.__new__"=true
 s:W.subIn K (.ref A) (.ref D)=some true
 cs:zhh K A r.cs
def kxs (K:W.Frag):List XR->Prop
 | []=>True
 |r::l=>(∃A D,Kx K r A D)/\kxs K l
theorem z9h {K:W.Frag}:∀{l:List XR} {r:XR},kxs K l->r∈l->∃A D,Kx K r A D
 | [],_,_,z=>nomatch z
 |_::_,_,h,.head _=>h.1
 |_::_,_,h,.tail _ z=>z9h h.2 z
theorem z99 {K:W.Frag}{A:Addr}:∀{l:List (Str×Bool)} {y:Str×Bool},zhh K A l->y∈l->∃D dd cd sl,W.nsIn K b8 y.1=some (some (.ref D))/\K.lookup D=some ⟨.type "type",dd,.cls cd,sl⟩/\W.subIn K (.ref A) (.ref D)=some y.2
 | [],_,_,z=>nomatch z
 |_::_,_,h,.head _=>h.1
 |_::_,_,h,.tail _ z=>z99 h.2 z
theorem zar {K:W.Frag}{D:Addr}{dd:Option Addr}{cd:ClassData}{sl:Array (Option Value)}(l:K.lookup D=some ⟨.type "type",dd,.cls cd,sl⟩):W.typeIn K (.ref D)=some (.type "type")/\(W.clsIn K D).isSome=true:=by
 refine⟨?_,?_⟩
 ·show(K.lookup D).map (·.cls)=_;rw[l];rfl
 ·unfold W.clsIn;rw[l];rfl
theorem zpg {Γ:Gm}{K:W.Frag}{h:Heap}{mg:Str->Option Value}{xt:List XR}(X:K.In h)(G:h.Ns b8 mg)(hk:kxs K xt)(hz:xt≠[]->mg "ValueError"=none)(h1:Γ.sub=(xt.map XR.subs).flatten)(h2:Γ.rs=xt.map (·.c))(h3:Γ.hnd=xt.map fun r=>(r.c,r.B)):Xok Γ K mg:=by
 refine⟨fun c C b z=>?_,fun c z=>?_,fun c B z=>?_⟩
 ·rw[h1]at z;obtain⟨l,hl,z⟩:=pd.mp (cg.mp z);obtain⟨r,hr,rfl⟩:=bt.mp hl;obtain⟨A,D,k⟩:=z9h hk hr;obtain⟨dd,cd,sl,kl⟩:=k.l;have xa:XA K A:=⟨k.cl,k.ga,k.gt,k.ob,k.be,(zar kl).1,(zar kl).2,k.e⟩;rcases aw.mp z with e|z
  ·cases e;exact⟨A,.ty "ValueError",.type "ValueError",W.mg_of X G k.a,xa,XV.val,k.v,rfl,fun w q=>q,.inr ⟨hz (fun q=>by rw[q]at hr;cases hr),by decide+kernel,by decide⟩⟩
  ·obtain⟨y,hy,e⟩:=bt.mp z;cases e;obtain⟨D',dd',cd',sl',e1,e2,e3⟩:=z99 k.cs hy;exact⟨A,.ref D',.ref D',W.mg_of X G k.a,xa,XV.own (zar e2).1 (zar e2).2,e3,rfl,fun w q=>q,.inl (W.mg_of X G e1)⟩
 ·rw[h2]at z;obtain⟨r,hr,rfl⟩:=bt.mp (cg.mp z);obtain⟨A,D,k⟩:=z9h hk hr;exact⟨A,W.mg_of X G k.a,k.e⟩
 ·rw[h3]at z;obtain⟨r,hr,e⟩:=bt.mp (cg.mp z);cases e;obtain⟨A,D,k⟩:=z9h hk hr;exact⟨A,D,W.mg_of X G k.a,W.mg_of X G k.b,k.e,k.f,k.s⟩
inductive Kd where
 |n
 |e (c:Str) (r:Bool)
 |g (d:Gd) (je:Nat)
structure DRow where
 nm:Str
 st:Stmt
 N:List Str
 ps:List Str
 free:List Str
 fns:List Nat
 s:S
 F:Fn
 kd:Kd
 kc:List (Str×List Str):=[]
def cD (y:Str×List Str):D:=.tuple (y.2.map .str)
def sig (Rs:List DRow)(j:Nat):Str×Nat:=match Rs[j]? with
 |some c=>(c.nm,c.ps.length)
 |none=>("",0)
def fnAt (Rs:List DRow)(j:Nat):Fn:=match Rs[j]? with
 |some c=>c.F
 |none=>fun _=>.no
def DRow.G (Rs:List DRow)(xt:List XR)(r:DRow):Gm:={N:=r.N,sc:=z0i r.st,free:=r.free,fns:=r.fns.map (sig Rs),cst:=r.kc.map (·.1),sub:=(xt.map XR.subs).flatten,rs:=xt.map (·.c),hnd:=xt.map fun r=>(r.c,r.B)}
def Kd.isE:Kd->Bool
 |.e _ _=>true
 |_=>false
def nE (Rs:List DRow)(j:Nat):Bool:=match Rs[j]? with
 |some c=>!c.kd.isE
 |none=>true
def DRow.part (Rs:List DRow)(xt:List XR)(i:Nat)(r:DRow):Bool:=match r.kd with
 |.n=>chkL (r.G Rs xt) r.s (z14 r.st)
 |.e _ _=>false
 |.g _ _=>false
def DRow.ok (Rs:List DRow)(xt:List XR)(fr:List Str)(i:Nat)(r:DRow):Bool:=
 (decide ((z0i r.st).kind=.function)&& !(z0i r.st).isCoroutine&& !(z0i r.st).isGenerator&&decide r.N.Nodup&&decide (r.N.take r.ps.length=r.ps))&&
 (r.ps.all (fun x=>(z0i r.st).names.lookup x==some .local||(z0i r.st).names.lookup x==some .cell)&&(z0i r.st).names.all (fun y=>!(y.2==.free))&&r.free.all (fun x=>fr.contains x)&&r.fns.all (fun j=>decide (j<i)&&nE Rs j)&&r.part Rs xt i)
def oks (Rs:List DRow)(xt:List XR)(fr:List Str):Nat->List DRow->Bool
 |_,[]=>true
 |i,r::l=>r.ok Rs xt fr i&&oks Rs xt fr (i+1) l
def DRow.fOk (Rs:List DRow)(r:DRow):Prop:=match r.kd with
 |.n=>r.F=runD (r.kc.map cD) (r.fns.map (fnAt Rs)) r.N.length r.s
 |.e _ _=>True
 |.g _ _=>True
def fOks (Rs:List DRow):List DRow->Prop
 | []=>True
 |r::l=>r.fOk Rs/\fOks Rs l
theorem zfe {Rs:List DRow}{xt:List XR}{fr:List Str}:∀{l:List DRow} {k i:Nat} {r:DRow},oks Rs xt fr k l=true->l[i]?=some r->r.ok Rs xt fr (k+i)=true
 | [],_,i,_,_,e=>by simp at e
 |r::l,k,0,_,h,e=>by cases e;exact(and2 h).1
 |r::l,k,i+1,_,h,e=>by
  have:=zfe (k:=k+1) (and2 h).2 (show l[i]?=some _ from e)
  rwa [show k+(i+1)=k+1+i by omega]
theorem z8c {Rs:List DRow}:∀{l:List DRow} {i:Nat} {r:DRow},fOks Rs l->l[i]?=some r->r.fOk Rs
 | [],i,_,_,e=>by simp at e
 |r::l,0,_,h,e=>by cases e;exact h.1
 |r::l,i+1,_,h,e=>z8c h.2 (show l[i]?=some _ from e)
section
variable {P:ba}{w:World}{K:W.Frag}{mg:Str->Option Value}{base:Heap}{Rs:List DRow}{xt:List XR}{fr:List Str}
theorem z5k {r:DRow}{i:Nat}(h:r.ok Rs xt fr i=true):FnScope (r.G Rs xt).N r.ps (z0i r.st)/\(∀x,r.free.contains x=true->fr.contains x=true)/\(∀j∈r.fns,j<i/\nE Rs j=true)/\r.part Rs xt i=true:=by
 obtain⟨h1,h2⟩:=and2 h;obtain⟨a1,a2,a3,a4,a5⟩:=and5 h1;obtain⟨b1,b2,b3,b4,b5⟩:=and5 h2;refine⟨⟨vy a1,z2i a2,z2i a3,vy a4,vy a5,fun x hx=>?_,fun y hy z=>?_⟩,fun x hx=>?_,fun j hj=>⟨vy (and2 (bg.mp b4 j hj)).1,(and2 (bg.mp b4 j hj)).2⟩,b5⟩
 ·rcases g7.mp (bg.mp b1 x hx)with q|q
  ·exact .inl (v7 q)
  ·exact .inr (v7 q)
 ·have :=z2i (bg.mp b2 y hy);rw[z]at this;cases this
 ·exact bg.mp b3 x (cg.mp hx)
def zav (P:ba)(w:World)(K:W.Frag)(mg:Str->Option Value)(base:Heap)(i:Nat)(r:DRow):Prop:=match r.kd with
 |.e _ _=>True
 |_=>Cal P w K mg base (i+1) r.nm r.ps (spD K r.ps.length r.F)/\CalX P w K mg base (i+1) r.nm r.ps r.ps.length r.F
theorem rowN {j:Nat}{c:DRow}(h:zav P w K mg base j c)(e:Rs[j]?=some c)(n:nE Rs j=true):Cal P w K mg base (j+1) c.nm c.ps (spD K c.ps.length c.F)/\CalX P w K mg base (j+1) c.nm c.ps c.ps.length c.F:=by
 unfold nE at n;rw[e]at n;have n:(!c.kd.isE)=true:=n;unfold zav at h;cases hk:c.kd with
 |n=>rw[hk]at h;exact h
 |g d je=>rw[hk]at h;exact h
 |e x b=>rw[hk]at n;cases n
def zhj (K:W.Frag)(mg:Str->Option Value)(y:Str×List Str):Prop:=∃a,mg y.1=some (.ref a)/\∀H B,B none->Rep K H B (.ref a) (cD y)
theorem zbt {r:DRow}{i:Nat}(hr:Rs[i]?=some r)(h:r.ok Rs xt fr i=true)(T:∀x∈fr,mg x=none)(xk:∀Γ:Gm,Γ.sub=(xt.map XR.subs).flatten->Γ.rs=xt.map (·.c)->(Γ.hnd=xt.map fun r=>(r.c,r.B))->Xok Γ K mg)(hC:∀y∈r.kc,zhj K mg y)(ih:∀j c,j<i->Rs[j]?=some c->zav P w K mg base j c):Dok (r.G Rs xt) (r.kc.map cD) (r.fns.map (fnAt Rs)) P w K mg base i where
 free:=fun x hx=>T x (cg.mp ((z5k h).2.1 x hx))
 fns:=fun j f n e=>by
  have e:(r.fns.map (sig Rs))[j]?=some (f,n):=e;rw[bw]at e;obtain⟨jj,ej,e⟩:=dz.mp e;obtain⟨hlt,hne⟩:=(z5k h).2.2.1 jj (bc ej);have hl:i<Rs.length:=(cy.mp hr).1;have hc:Rs[jj]?=some Rs[jj]:=bq (nq hlt hl);unfold sig at e;rw[hc]at e;cases e;refine⟨fnAt Rs jj,jj+1,Rs[jj].ps,by rw[bw,ej];rfl,hlt,?_⟩;have:fnAt Rs jj=Rs[jj].F:=by unfold fnAt;rw[hc]
  rw[this];exact(rowN (ih jj _ hlt hc) hc hne).1
 cst:=fun j x e=>by have e:(r.kc.map (·.1))[j]?=some x:=e;rw[bw]at e;obtain⟨y,ey,rfl⟩:=dz.mp e;obtain⟨a,h1,h2⟩:=hC y (bc ey);exact⟨cD y,a,by rw[bw,ey];rfl,h1,h2⟩
 fnx:=fun j f n e=>by
  have e:(r.fns.map (sig Rs))[j]?=some (f,n):=e;rw[bw]at e;obtain⟨jj,ej,e⟩:=dz.mp e;obtain⟨hlt,hne⟩:=(z5k h).2.2.1 jj (bc ej);have hl:i<Rs.length:=(cy.mp hr).1;have hc:Rs[jj]?=some Rs[jj]:=bq (nq hlt hl);unfold sig at e;rw[hc]at e;cases e;refine⟨fnAt Rs jj,jj+1,Rs[jj].ps,by rw[bw,ej];rfl,hlt,?_⟩;have:fnAt Rs jj=Rs[jj].F:=by unfold fnAt;rw[hc]
  rw[this];exact(rowN (ih jj _ hlt hc) hc hne).2
 xk:=xk _ rfl rfl rfl
theorem zlr (hok:oks Rs xt fr 0 Rs=true)(hF:fOks Rs Rs)(T:∀x∈fr,mg x=none)(xk:∀Γ:Gm,Γ.sub=(xt.map XR.subs).flatten->Γ.rs=xt.map (·.c)->(Γ.hnd=xt.map fun r=>(r.c,r.B))->Xok Γ K mg)(n:Nat)(hC:∀r∈Rs,∀y∈r.kc,zhj K mg y)(O:∀i r,i<n->Rs[i]?=some r->Own K mg r.nm r.st r.ps):∀i r,i<n->Rs[i]?=some r->zav P w K mg base i r:=by
 intro i
 induction i using Nat.strongRecOn with
 |ind i ih=>
  intro r hi hr
  have ho:r.ok Rs xt fr i=true:=by
   have:=zfe hok hr
   rwa [Nat.zero_add]at this
  have ih:∀j c,j<i->Rs[j]?=some c->zav P w K mg base j c:=fun j c hj hc=>ih j hj c (nq hj hi) hc;have D:=zbt (P:=P) (w:=w) (K:=K) (base:=base) hr ho T xk (hC r (bc hr)) ih;obtain⟨Sc,hfr,_,hp⟩:=z5k ho;have hf:=z8c hF hr;obtain⟨f,fd,Fu,m,kp,b⟩:=O i r hi hr;unfold DRow.fOk at hf;unfold DRow.part at hp;unfold zav;cases hk:r.kd with
  |n=>rw[hk]at hf hp;have hf:r.F=_:=hf;show _/\_;rw[hf];exact⟨⟨f,fd,d_fn (Γ:=r.G Rs xt) Fu Sc rfl rfl rfl D hp,m,kp,b⟩,⟨f,fd,zsg (Γ:=r.G Rs xt) Fu Sc rfl rfl rfl D hp,m,kp,b⟩⟩
  |e c bb=>rw[hk]at hp;cases hp
  |g d je=>rw[hk]at hp;cases hp
end
def Kf (K:W.Frag)(r:DRow)(f:Addr)(fd:fj):Prop:=W.nsIn K b8 r.nm=some (some (.ref f))/\∃(oc:Value) (od an:Option Addr) (sl:Array (Option Value)) (kV dc pm cd ct:Value),fd=W.fnOf r.nm r.nm (z1v r.st) (z14 r.st) (z0i r.st) .none kV dc pm an cd ct/\K.lookup f=some ⟨oc,od,.func fd,sl⟩/\W.codeIn K cd r.nm=true/\W.keepIn K (.ref f)=true
def zl2 (r:DRow):Prop:=∀(kV doc pm:Value) (an:Option Addr) (cdv ct:Value) (us:List Value),us.length=r.ps.length->ve (W.fnOf r.nm r.nm (z1v r.st) (z14 r.st) (z0i r.st) .none kV doc pm an cdv ct) ⟨us,[]⟩=pure (r.ps.zip us)
theorem cut1 {us:List Value}{n:Nat}(h:us.length=n+1):∃a l,us=a::l/\l.length=n:=by
 cases us with
 |nil=>cases h
 |cons a l=>exact⟨a,l,rfl,Nat.succ.inj h⟩
theorem by1 {P:List Value->Prop}(h:∀a,P [a])(us:List Value)(z:us.length=1):P us:=by obtain⟨a,l,rfl,y⟩:=cut1 z;cases List.eq_nil_of_length_eq_zero y;exact h a
theorem by2 {P:List Value->Prop}(h:∀a b,P [a,b])(us:List Value)(z:us.length=2):P us:=by obtain⟨a,l,rfl,y⟩:=cut1 z;exact by1 (P:=fun l=>P (a::l)) (h a) l y
theorem by3 {P:List Value->Prop}(h:∀a b c,P [a,b,c])(us:List Value)(z:us.length=3):P us:=by obtain⟨a,l,rfl,y⟩:=cut1 z;exact by2 (P:=fun l=>P (a::l)) (h a) l y
theorem by4 {P:List Value->Prop}(h:∀a b c d,P [a,b,c,d])(us:List Value)(z:us.length=4):P us:=by obtain⟨a,l,rfl,y⟩:=cut1 z;exact by3 (P:=fun l=>P (a::l)) (h a) l y
def kOks (K:W.Frag):List DRow->Prop
 | []=>True
 |r::l=>((∃f fd,Kf K r f fd)/\zl2 r)/\kOks K l
theorem zdj {K:W.Frag}:∀{l:List DRow} {i:Nat} {r:DRow},kOks K l->l[i]?=some r->(∃f fd,Kf K r f fd)/\zl2 r
 | [],i,_,_,e=>by simp at e
 |r::l,0,_,h,e=>by cases e;exact h.1
 |r::l,i+1,_,h,e=>zdj h.2 (show l[i]?=some _ from e)
def strOf:Value->Option Str
 |.str x _=>if PyData.strOk x then some x else none
 |_=>none
def ck1 (K:W.Frag)(y:Str×List Str):Bool:=match W.nsIn K b8 y.1 with
 |some (some (.ref a))=>(match K.lookup a with
  |some ⟨.type "tuple",none,.seq its _,_⟩=>decide (its.toList.map strOf=y.2.map some)&&decide (y.2.length<=1000)
  |_=>false)
 |_=>false
theorem zat:∀{us:List Value} {ws:List Str},us.map strOf=ws.map some->Vals (ws.map V.str) us/\∀w∈ws,PyData.strOk w=true
 | [],[],_=>⟨.nil,fun _ h=>by cases h⟩
 | [],_::_,h=>by cases h
 |_::_,[],h=>by cases h
 |u::us,w::ws,h=>by
  obtain⟨h1,h2⟩:=List.cons.inj h;obtain⟨a,b⟩:=zat h2;cases u with
  |str x t=>
   have h1:(if PyData.strOk x then some x else none)=some w:=h1;split at h1
   ·rename_i hx;cases h1;exact⟨.cons ⟨t,rfl⟩ a,fun z hz=>(aw.mp hz).elim (fun e=>by rw[e];exact hx) (b z)⟩
   ·cases h1
  |_=>cases h1
theorem z9v {K:W.Frag}{H:Hp}{B:Ad->Prop}:∀{ws:List Str},(∀w∈ws,PyData.strOk w=true)->Reps K H B (ws.map V.str) (ws.map PyData.str)
 | [],_=>rfl
 |w::ws,h=>Reps.cons ⟨rfl,h w (.head _)⟩ (z9v fun z hz=>h z (.tail _ hz))
theorem zuo {K:W.Frag}{h:Heap}{mg:Str->Option Value}{y:Str×List Str}(X:K.In h)(G:h.Ns b8 mg)(c:ck1 K y=true):zhj K mg y:=by
 unfold ck1 at c;split at c
 ·rename_i a ha;split at c
  ·rename_i its n sl hl;obtain⟨c1,c2⟩:=and2 c;obtain⟨v,ok⟩:=zat (vy c1);have hz:its.size<=az:=by have e:=v.length;rw[af,ck]at e;have:=vy c2;rw[dq];omega
   exact⟨a,W.mg_of X G ha,fun H B _=>⟨a,y.2.map V.str,rfl,.inr ⟨_,its,n,hl,rfl,rfl,rfl,hz,v⟩,z9v ok⟩⟩
  ·cases c
 ·cases c
theorem all_rows {l:W.OpenLaw}{w:World}{K:W.Frag}{h:Heap}{mg:Str->Option Value}{fa:Addr}{Rs:List DRow}{lr:DRow}{xt:List XR}{fr:List Str}{x:Str}(X:K.In h)(G:h.Ns b8 mg)(hfa:mg lr.nm=some (.ref fa))(hx:lr.ps=[x])(hkd:lr.kd=.n)(hok:oks (Rs++[lr]) xt fr 0 (Rs++[lr])=true)(hF:fOks (Rs++[lr]) (Rs++[lr]))(hK:kOks K Rs)(kl:∃f fd,Kf K lr f fd)
  (hb:∀(kV dc pm:Value) (an:Option Addr) (cd ct:Value) (s:ac) (v:Value),q9 s (W.fnOf lr.nm lr.nm (z1v lr.st) (z14 lr.st) (z0i lr.st) .none kV dc pm an cd ct) ⟨[v],[]⟩ [(x,v)]) (hz:∀n∈fr,W.nsIn K b8 n=some none) (hkx:kxs K xt) (hv:xt≠[]->("ValueError":Str)∈fr) (hC:∀r∈Rs++[lr],∀y∈r.kc,ck1 K y=true):
  ∃fd:fj,(∀(s:ac) (v:Value),q9 s fd ⟨[v],[]⟩ [(x,v)])/\∀base:Heap,K.In base->base.Ns b8 mg->FnOk l.prog w K mg base CX0 (Rs.length+1) fa fd [x] (spD K 1 lr.F):=by
 obtain⟨f,fd,a,oc,od,an,sl,kV,dc,pm,cd,ct,rfl,lk,hc,hk⟩:=kl;have e:=hfa.symm.trans (W.mg_of X G a);cases e;have T:∀n∈fr,mg n=none:=fun n hn=>W.mg_none_of X G (hz n hn);have hr:(Rs++[lr])[Rs.length]?=some lr:=by rw[fq (am _),Nat.sub_self];rfl
 have ho:lr.ok (Rs++[lr]) xt fr Rs.length=true:=by
  have:=zfe hok hr
  rwa [Nat.zero_add]at this
 refine⟨_,fun s v=>hb kV dc pm an cd ct s v,fun base _ _=>?_⟩;have O:∀i r,i<Rs.length->(Rs++[lr])[i]?=some r->Own K mg r.nm r.st r.ps:=fun i r hi e=>by rw[iy hi]at e;obtain⟨⟨f,fd,a,oc,od,an,sl,kV,dc,pm,cd,ct,rfl,lk,hc,hk⟩,hb⟩:=zdj hK e;exact zs9 X G a lk hc hk hb
 have xk:∀Γ:Gm,Γ.sub=(xt.map XR.subs).flatten->Γ.rs=xt.map (·.c)->(Γ.hnd=xt.map fun r=>(r.c,r.B))->Xok Γ K mg:=fun Γ h1 h2 h3=>zpg X G hkx (fun z=>T _ (hv z)) h1 h2 h3;have hC:∀r∈Rs++[lr],∀y∈r.kc,zhj K mg y:=fun r hr y hy=>zuo X G (hC r hr y hy);have D:=zbt (P:=l.prog) (w:=w) (K:=K) (base:=base) hr ho T xk (hC lr (ay _ (.head _))) fun j c hj hc=>zlr hok hF T xk Rs.length hC O j c hj hc;have hp:=(z5k ho).2.2.2;have hf:=z8c hF hr;unfold DRow.part at hp;unfold DRow.fOk at hf;rw[hkd]at hp hf;have:=d_fn (Γ:=lr.G (Rs++[lr]) xt) (zen (st:=lr.st) lk hc hk) (z5k ho).1 rfl rfl rfl D hp;have e2:runD (lr.kc.map cD) (vq (fnAt (Rs++[lr])) lr.fns) (lr.G (Rs++[lr]) xt).N.length lr.s=lr.F:=hf.symm;rw[e2,hx]at this;exact this
end Mi
namespace Mi
open PySem PySem.Spec PyProof.Rows L2
def kf1 (K:W.Frag)(r:DRow):Option (fj×Bool):=match W.nsIn K b8 r.nm with
 |some (some (.ref f))=>(match K.lookup f with
  |some ⟨_,_,.func fd,_⟩=>some (fd,W.codeIn K fd.code r.nm&&W.keepIn K (.ref f))
  |_=>none)
 |_=>none
def kf2 (r:DRow)(x:fj×Bool):fj×Bool:=(W.fnOf r.nm r.nm (z1v r.st) (z14 r.st) (z0i r.st) .none x.1.kwdefaults x.1.doc x.1.pyModule x.1.annotations x.1.code x.1.closureTuple,true)
def isC (K:W.Frag)(A:Addr):Bool:=match K.lookup A with
 |some ⟨.type "type",_,.cls _,_⟩=>true
 |_=>false
def MROX:List Value:=[.type "ValueError",.type "Exception",.type "BaseException",.type "object"]
def kx1 (K:W.Frag)(r:XR):Option (Bool×Bool×Option (Option Value)×Option (Option Value)×Option (Option Value)×Option Bool×Option Bool×Option Bool×Bool×Option Bool×List (Bool×Option Bool)):=match W.nsIn K b8 r.c,W.nsIn K b8 r.B with
 |some (some (.ref A)),some (some (.ref D))=>some (isC K A,W.excIn K A MROX "ValueError.__new__",W.findIn K (.ref A) "__class__",W.findIn K (.ref A) "__getattribute__",W.findIn K (.ref A) "__getattr__",W.subIn K (.ref A) (.type "object"),W.subIn K (.ref A) (.type "BaseException"),W.subIn K (.ref A) (.type "ValueError"),W.excIn K D MROX "ValueError.__new__",W.subIn K (.ref A) (.ref D),r.cs.map fun y=>match W.nsIn K b8 y.1 with
  |some (some (.ref E))=>(isC K E,W.subIn K (.ref A) (.ref E))
  |_=>(false,none))
 |_,_=>none
def kx2 (r:XR):Option (Bool×Bool×Option (Option Value)×Option (Option Value)×Option (Option Value)×Option Bool×Option Bool×Option Bool×Bool×Option Bool×List (Bool×Option Bool)):=some (true,true,some (some (.builtin "object.__class__")),some (some (.builtin "BaseException.__getattribute__")),some none,some true,some true,some true,true,some true,r.cs.map fun y=>(true,some y.2))
theorem zig {K:W.Frag}{A:Addr}(h:isC K A=true):∃dd cd sl,K.lookup A=some ⟨.type "type",dd,.cls cd,sl⟩:=by
 unfold isC at h;split at h
 ·rename_i dd cd sl e;exact⟨dd,cd,sl,e⟩
 ·cases h
theorem zcr {K:W.Frag}{A:Addr}:∀{l:List (Str×Bool)},(l.map fun y=>match W.nsIn K b8 y.1 with
  |some (some (.ref E))=>(isC K E,W.subIn K (.ref A) (.ref E))
  |_=>(false,none))=(l.map fun y=>(true,some y.2))->zhh K A l
 | [],_=>trivial
 |y::l,h=>by
  have h:=List.cons.inj h;refine⟨?_,zcr h.2⟩;have e:=h.1
  dsimp only at e
  split at e
  ·rename_i E hE;have e:=Prod.mk.inj e;obtain⟨dd,cd,sl,q⟩:=zig e.1;exact⟨E,dd,cd,sl,hE,q,e.2⟩
  ·cases(Prod.mk.inj e).1
theorem zo7 {K:W.Frag}{r:XR}(h:kx1 K r=kx2 r):∃A D,Kx K r A D:=by
 unfold kx1 kx2 at h;split at h
 ·rename_i A D hA hD;have h:=Prod.mk.inj (Option.some.inj h);have h2:=Prod.mk.inj h.2;have h3:=Prod.mk.inj h2.2;have h4:=Prod.mk.inj h3.2;have h5:=Prod.mk.inj h4.2;have h6:=Prod.mk.inj h5.2;have h7:=Prod.mk.inj h6.2;have h8:=Prod.mk.inj h7.2;have h9:=Prod.mk.inj h8.2;have h10:=Prod.mk.inj h9.2;exact⟨A,D,hA,zig h.1,h2.1,h3.1,h4.1,h5.1,h6.1,h7.1,h8.1,hD,h9.1,h10.1,zcr h10.2⟩
 ·cases h
theorem zjo {K:W.Frag}:∀{l:List XR},(∀r∈l,∃A D,Kx K r A D)->kxs K l
 | [],_=>trivial
 |r::_,h=>⟨h r (.head _),zjo fun r hr=>h r (.tail _ hr)⟩
def KEq (K:gy->W.Frag)(Rs:List DRow)(fr:List Str)(xt:List XR):Prop:=∀P,(Rs.map fun r=>(kf1 (K P) r).isSome,Rs.map fun r=>kf1 (K P) r,fr.map fun n=>W.nsIn (K P) b8 n,xt.map fun r=>kx1 (K P) r,Rs.map fun r=>r.kc.map fun y=>ck1 (K P) y)=(Rs.map fun _=>true,Rs.map fun r=>(kf1 (K P) r).map (kf2 r),fr.map fun _=>some none,xt.map kx2,Rs.map fun r=>r.kc.map fun _=>true)
theorem KEq_r:KEq=KEq:=rfl
theorem zqt {K:W.Frag}{r:DRow}(h:(kf1 K r).isSome=true)(e:kf1 K r=(kf1 K r).map (kf2 r)):∃f fd,Kf K r f fd:=by
 cases z:kf1 K r with
 |none=>rw[z]at h;cases h
 |some x=>
  rw[z]at e;have e:x=kf2 r x:=Option.some.inj e;unfold kf1 at z;split at z
  ·rename_i f hf;split at z
   ·rename_i oc od fd sl hl;have z:=Option.some.inj z;have z1:fd=x.1:=congrArg Prod.fst z;have z2:(W.codeIn K fd.code r.nm&&W.keepIn K (.ref f))=x.2:=congrArg Prod.snd z;have e1:x.1=(kf2 r x).1:=congrArg Prod.fst e;have e2:x.2=true:=congrArg Prod.snd e;rw[e2]at z2;have z3:=ar.mp z2;subst z1;exact⟨f,x.1,hf,oc,od,x.1.annotations,sl,x.1.kwdefaults,x.1.doc,x.1.pyModule,x.1.code,x.1.closureTuple,e1,hl,z3.1,z3.2⟩
   ·cases z
  ·cases z
theorem z6p {K:gy->W.Frag}{Rs:List DRow}{fr:List Str}{xt:List XR}(h:KEq K Rs fr xt)(P:gy):(∀r∈Rs,∃f fd,Kf (K P) r f fd)/\(∀n∈fr,W.nsIn (K P) b8 n=some none)/\kxs (K P) xt/\∀r∈Rs,∀y∈r.kc,ck1 (K P) y=true:=by have a:=Prod.mk.inj (h P);have b:=Prod.mk.inj a.2;have c:=Prod.mk.inj b.2;have d:=Prod.mk.inj c.2;exact⟨fun r hr=>zqt (jd.mp a.1 r hr) (jd.mp b.1 r hr),fun n hn=>jd.mp c.1 n hn,zjo fun r hr=>zo7 (jd.mp d.1 r hr),fun r hr=>jd.mp (jd.mp d.2 r hr)⟩
def bOks:List DRow->Prop
 | []=>True
 |r::l=>zl2 r/\bOks l
theorem zfd {K:W.Frag}:∀{l:List DRow},(∀r∈l,∃f fd,Kf K r f fd)->bOks l->kOks K l
 | [],_,_=>trivial
 |r::_,h,b=>⟨⟨h r (.head _),b.1⟩,zfd (fun r hr=>h r (.tail _ hr)) b.2⟩
end Mi
name_quick tkeq for Mi.KEq by Mi.KEq_r
namespace Mk
open Mi
section
open PySem
abbrev P:=List (Str×Int)
def pr (p:Str×Int):D:=.tuple [.str p.1,.int p.2]
def pk (l:P):D:=.tuple (l.map pr)
def ep (p:Str×Int):D×D:=(.str p.1,.int p.2)
def en (l:P):Ents:=l.map ep
def fnd:P->Str->Option Int
 | [],_=>none
 |p::l,n=>if p.1=n then some p.2 else fnd l n
def look (l:P)(n:Str):Int:=(fnd l n).getD 0
def ks (l:P):List Str:=l.map (·.1)
def put:P->Str->Int->P
 | [],n,v=>[(n,v)]
 |p::l,n,v=>if p.1=n then(p.1,v)::l else p::put l n v
def sl (a b:Str):Prop:=a.cps.toList<b.cps.toList
theorem zaa (a:Str):¬sl a a:=List.lt_irrefl _
theorem zrh {a b c:Str}(h:sl a b)(k:sl b c):sl a c:=List.lt_trans h k
theorem zc7 {a b:Str}(h:a.cps.toList=b.cps.toList):a=b:=by cases a;cases b;simp at h;subst h;rfl
theorem zj2 {a b:Str}(h:a≠b):sl a b\/sl b a:=by
 by_cases h1:sl a b
 ·exact .inl h1
 ·by_cases h2:sl b a
  ·exact .inr h2
  ·exact(h (zc7 (List.le_antisymm (List.not_lt.mp h2) (List.not_lt.mp h1)))).elim
theorem zuc {a b:Str}(h:sl a b):a≠b:=fun e=>zaa b (e▸h)
theorem z35 {n:Str}:∀{l:P},n∉ks l->fnd l n=none
 | [],_=>rfl
 |p::l,h=>by simp only[ks,a9,aw,not_or]at h;rw[fnd,if_neg (fun e=>h.1 e.symm)];exact z35 h.2
theorem z34 {n:Str}{v:Int}:∀{l:P},fnd l n=some v->(n,v)∈l
 | [],h=>by cases h
 |p::l,h=>by
  rw[fnd]at h;split at h
  ·rename_i e;cases h;subst e;exact ak
  ·exact au _ (z34 h)
theorem zmi {n:Str}{v:Int}{l:P}(h:fnd l n=some v):n∈ks l:=bt.mpr ⟨_,z34 h,rfl⟩
theorem ze7:∀{l:P} {p:Str×Int},(ks l).Nodup->p∈l->fnd l p.1=some p.2
 |q::l,p,nd,h=>by
  rw[ks,a9,cn]at nd;rw[fnd];rcases(aw.mp h)with rfl|h
  ·rw[if_pos rfl]
  ·rw[if_neg fun e:q.1=p.1=>nd.1 (bt.mpr ⟨p,h,e.symm⟩)];exact ze7 nd.2 h
theorem zib {l:P}{n:Str}(h:n∈ks l):∃v,fnd l n=some v:=by
 cases e:fnd l n with
 |some v=>exact⟨v,rfl⟩
 |none=>
  exfalso
  induction l with
  |nil=>cases h
  |cons p l ih=>
   rw[fnd]at e;split at e
   ·cases e
   ·rename_i hn;rcases aw.mp h with h|h
    ·exact hn h.symm
    ·exact ih h e
theorem zey:∀{a b:List Str},a.Nodup->(∀x∈a,x∈b)->a.length<=b.length
 | [],b,_,_=>dj _
 |x::a,b,nd,h=>by rw[cn]at nd;have hx:=h x ak;have:=zey (a:=a) (b:=b.erase x) nd.2 fun y hy=>(List.mem_erase_of_ne fun e:y=x=>nd.1 (e▸hy)).mpr (h y (au _ hy));rw[List.length_erase_of_mem hx]at this;have:0<b.length:=List.length_pos_of_mem hx;simp only[br];omega
theorem z6l (a b:Str):eqK (.str a) (.str b)=decide (a=b):=by simp only[eqK]
theorem zm1 (a:Str):isK (.str a)=true:=by simp only[isK]
theorem z96 (n:Str):∀l:P,z2h (en l) (.str n)=(fnd l n).map .int
 | []=>rfl
 |p::l=>by
  have ih:=z96 n l;unfold z2h at ih ⊢;rw[en,a9,i7,fnd];show Option.map _ (match eqK (.str p.1) (.str n)with|true=>_|false=>_)=_;rw[z6l];by_cases h:p.1=n
  ·rw[if_pos h];simp[h,ep]
  ·rw[if_neg h];simp only[h,decide_false];exact ih
theorem zcf (n:Str):∀l:P,((en l).any fun e=>eqK e.1 (.str n))=true↔n∈ks l
 | []=>by simp[en,ks]
 |p::l=>by rw[en,a9,ij];show(eqK (.str p.1) (.str n)||_)=true↔_;rw[z6l,d9,ks,a9,aw];have:=zcf n l;rw[en,ks]at this;rw[this];simp[eq_comm]
theorem zj8 {n:Str}{v:Int}:∀{l:P},(ks l).Nodup->n∈ks l->(en l).map (fun e=>if eqK e.1 (.str n)then(e.1,.int v)else e)=en (put l n v)
 |p::l,nd,h=>by
  rw[ks,a9,cn]at nd;rw[put,en,a9,a9];show(if eqK (.str p.1) (.str n)=true then _ else _)::_=_;rw[z6l];by_cases e:p.1=n
  ·have hn:∀q∈l,¬q.1=n:=fun q hq z=>nd.1 (bt.mpr ⟨q,hq,z.trans e.symm⟩);rw[if_pos e,if_pos (by simpa using e)];rw[en,a9]
   congr 1
   rw[jc];apply se;intro q hq;show(if eqK (.str q.1) (.str n)=true then _ else _)=ep q;rw[z6l,if_neg (by simpa using hn q hq)]
  ·rw[if_neg e,if_neg (by simpa using e)];rw[en,a9]
   congr 1
   refine zj8 (l:=l) nd.2 ?_;rcases aw.mp h with h|h
   ·exact(e h.symm).elim
   ·exact h
theorem z95 {n:Str}{v:Int}:∀{l:P},n∉ks l->put l n v=l++[(n,v)]
 | [],_=>rfl
 |p::l,h=>by simp only[ks,a9,aw,not_or]at h;rw[put,if_neg fun e=>h.1 e.symm,z95 h.2];rfl
theorem zmv {n:Str}{v:Int}{l:P}(nd:(ks l).Nodup):dput (en l) (.str n) (.int v)=en (put l n v):=by
 unfold dput;by_cases h:n∈ks l
 ·rw[if_pos ((zcf n l).mpr h)];exact zj8 nd h
 ·rw[if_neg fun z=>h ((zcf n l).mp z),z95 h];simp[en,ep]
theorem z98:∀(l acc:P),(ks (acc++l)).Nodup->z3m (en acc) (l.map pr)=some (en (acc++l))
 | [],acc,_=>by simp[z3m]
 |p::l,acc,nd=>by
  have nd':=nd;rw[ks,cx,a9]at nd;have h1:p.1∉ks acc:=fun z=>by rw[ly]at nd;exact nd.2.2 _ z _ ak rfl
  have h2:(ks acc).Nodup:=by rw[ly]at nd;exact nd.1
  rw[a9];show(if isK (.str p.1)then z3m (dput (en acc) (.str p.1) (.int p.2)) (l.map pr)else none)=_;rw[if_pos (zm1 _),zmv h2,z95 h1,z98 l (acc++[(p.1,p.2)]) (by rw[j4];exact nd'),j4];rfl
theorem zgl {l:P}(nd:(ks l).Nodup):z3m [] (l.map pr)=some (en l):=by have:=z98 l [] (by simpa using nd);simpa[en]using this
theorem znh (l:P):immE (en l)=true:=by unfold immE;rw[bg];intro e he;obtain⟨p,_,rfl⟩:=bt.mp he;rfl
theorem zj1 (p:Str×Int):imm (pr p)=true:=rfl
theorem z90 (l:P):imms (l.map pr)=true:=z1a.mpr fun x hx=>by obtain⟨p,_,rfl⟩:=bt.mp hx;rfl
theorem z08 (l:P):imm (pk l)=true:=z90 l
theorem zjv (n:Nat)(p:Str×Int):shal (n+1) (pr p)=true:=by cases n<;>rfl
theorem z1s (n:Nat)(l:P):shal (n+2) (pk l)=true:=by show z0m (n+1) (l.map pr)=true;exact z0s.mpr fun x hx=>by obtain⟨p,_,rfl⟩:=bt.mp hx;exact zjv n p
def lp (p q:Str×Int):Bool:=ltD (pr p) (pr q)
def insP (x:Str×Int):P->P
 | []=>[x]
 |y::ys=>if lp y x then y::insP x ys else x::y::ys
def srt:P->P
 | []=>[]
 |x::xs=>insP x (srt xs)
def Sd (l:P):Prop:=l.Pairwise fun p q=>sl p.1 q.1
theorem zvy {l:P}(h:Sd l):(ks l).Nodup:=by unfold ks List.Nodup;rw[j5];exact List.Pairwise.imp (fun z=>zuc z) h
structure PK (l:P):Prop where
 sd:Sd l
 pos:∀p∈l,0<p.2
theorem PK.nd {l:P}(h:PK l):(ks l).Nodup:=zvy h.sd
theorem PK.nil:PK []:=⟨List.Pairwise.nil,fun _ h=>by cases h⟩
theorem PK.look_nn {l:P}(h:PK l)(n:Str):0<=look l n:=by
 unfold look;cases e:fnd l n with
 |none=>exact va _
 |some v=>exact Int.le_of_lt (h.pos _ (z34 e))
theorem PK.key {l:P}(h:PK l){n:Str}:n∈ks l↔0<look l n:=by
 constructor
 ·intro z;obtain⟨v,e⟩:=zib z;unfold look;rw[e];exact h.pos _ (z34 e)
 ·intro z;unfold look at z;cases e:fnd l n with
  |none=>rw[e]at z;exact absurd z (by decide)
  |some v=>exact zmi e
theorem PK.look_mem {l:P}(h:PK l){p:Str×Int}(hp:p∈l):look l p.1=p.2:=by unfold look;rw[ze7 h.nd hp];rfl
theorem PK.ext:∀{a b:P},PK a->PK b->(∀n,look a n=look b n)->a=b
 | [],[],_,_,_=>rfl
 | [],q::b,_,hb,h=>by have:=h q.1;rw[hb.look_mem ak]at this;have z:0<q.2:=hb.pos _ ak;rw[<-this]at z;exact absurd z (Int.lt_irrefl 0)
 |p::a,[],ha,_,h=>by have:=h p.1;rw[ha.look_mem ak]at this;have z:0<p.2:=ha.pos _ ak;rw[this]at z;exact absurd z (Int.lt_irrefl 0)
 |p::a,q::b,ha,hb,h=>by
  have no:∀{x y:Str×Int} {l m:P},PK (x::l)->PK (y::m)->(∀n,look (x::l) n=look (y::m) n)->¬sl x.1 y.1:=fun{x y l m} hx hy h z=>by
   have e:=h x.1;rw[hx.look_mem ak]at e;have k:x.1∈ks (y::m):=hy.key.mpr (e▸hx.pos _ ak);rcases aw.mp k with k|k
   ·exact zaa _ (k▸z)
   ·obtain⟨w,hw,e2⟩:=bt.mp k;have:=(cj.mp hy.sd).1 w hw;rw[e2]at this;exact zaa _ (zrh z this)
  have e1:p.1=q.1:=by
   by_cases e:p.1=q.1
   ·exact e
   ·rcases zj2 e with z|z
    ·exact(no ha hb h z).elim
    ·exact(no hb ha (fun n=>(h n).symm) z).elim
  have e2:p.2=q.2:=by have:=h p.1;rw[ha.look_mem ak,e1,hb.look_mem ak]at this;exact this
  have ep':p=q:=vf e1 e2;subst ep'
  congr 1
  have ta:PK a:=⟨(cj.mp ha.sd).2,fun x hx=>ha.pos x (au _ hx)⟩;have tb:PK b:=⟨(cj.mp hb.sd).2,fun x hx=>hb.pos x (au _ hx)⟩;refine PK.ext ta tb fun n=>?_;have hn:=h n;unfold look at hn ⊢;rw[fnd,fnd]at hn;by_cases e:p.1=n
  ·have na:n∉ks a:=by have :=ha.nd;rw[ks,a9,cn]at this;exact e▸this.1
   have nb:n∉ks b:=by have:=hb.nd;rw[ks,a9,cn]at this;exact e▸this.1
   rw[z35 na,z35 nb]
  ·rw[if_neg e,if_neg e]at hn;exact hn
end
section
open PySem
section
variable {Κ:List D}{Φ:List Fn}{ρ:Rho}{a b c t:C}{p q:S}{i:Nat}{f:D->Rho->Res Out}{x:D}{xs:List D}
theorem zpm:evS Κ Φ (.seq p q) ρ=outB (evS Κ Φ p ρ) (evS Κ Φ q):=rfl
theorem zi9:evS Κ Φ (.asg (.nm i) t) ρ=(evE Κ Φ t ρ>>=fun x=>.ok (.nx (ρ.set i (some (z1j x))))):=rfl
theorem R_if:evS Κ Φ (.ifS c p q) ρ=(evT Κ Φ c ρ>>=fun k=>if k then evS Κ Φ p ρ else evS Κ Φ q ρ):=rfl
theorem zjg:evS Κ Φ (.ret (.var i)) ρ=(match ρ[i]? with|some (some (g,d))=>.ok (.rt (if imm d then .fr else rtG g) d)|_=>.no):=rfl
theorem zt7:evS Κ Φ (.setIx i a b) ρ=(evE Κ Φ b ρ>>=fun y=>evE Κ Φ a ρ>>=fun x=>match ρ[i]? with
 |some (some (.fr,.dict es))=>if isK x.2&&okIn y&&decide (es.length<LIM)then .ok (.nx ((ρ.set i (some (.fr,.dict (dput es x.2 y.2)))).map z1g))else .no
 |some (some (.fr,.list xs))=>(match x.2 with
  |.int j=>if okIn y then(match ixN xs.length j with|some n=>.ok (.nx ((ρ.set i (some (.fr,.list (xs.set n y.2)))).map z1g))|none=>.no)else .no
  |_=>.no)
 |_=>.no):=rfl
theorem zv4 {m:String}:evS Κ Φ (.mut m i a) ρ=(evA Κ Φ a ρ>>=fun ys=>match ρ[i]? with
 |some (some (.fr,.list xs))=>mutD m xs ys>>=fun xs'=>.ok (.nx ((ρ.set i (some (.fr,.list xs'))).map z1g))
 |_=>.no):=rfl
theorem zsv {t':Tg}:evS Κ Φ (.for_ t' a p) ρ=(evF Κ Φ a ρ>>=fun w=>forD (fun x ρ1=>z1i t' (gJ x w.1,x) ρ1>>=fun ρ2=>evS Κ Φ p ρ2) w.2.1 w.2.2):=rfl
theorem zu3:forD f (x::xs) ρ=(match f x ρ with
 |.ok (.nx ρ')=>forD f xs ρ'
 |.ok (.ct ρ')=>forD f xs ρ'
 |.ok (.bk ρ')=>.ok (.nx ρ')
 |.ok (.rt g d)=>.ok (.rt g d)
 |.exc e=>.exc e
 |.no=>.no):=rfl
theorem zhl:evA Κ Φ .nil ρ=.ok []:=rfl
theorem z3v:evA Κ Φ (.cons a b) ρ=(evE Κ Φ a ρ>>=fun x=>evA Κ Φ b ρ>>=fun xs=>.ok (x::xs)):=rfl
theorem O_tv:evO Κ Φ (.tv a) ρ=(evE Κ Φ a ρ>>=fun x=>intO x.2):=rfl
theorem G_tv:evG Κ Φ (.tv a) ρ=(evE Κ Φ a ρ>>=fun x=>z4k x.2>>=fun p=>.ok (x.1,p)):=rfl
theorem T_tv:evT Κ Φ (.tv a) ρ=(evE Κ Φ a ρ>>=fun x=>z21 x.2):=rfl
theorem zvv:evT Κ Φ (.and a b) ρ=(evT Κ Φ a ρ>>=fun c=>if c then evT Κ Φ b ρ else .ok false):=rfl
theorem T_or:evT Κ Φ (.or a b) ρ=(evT Κ Φ a ρ>>=fun c=>if c then .ok true else evT Κ Φ b ρ):=rfl
theorem zuh:evT Κ Φ (.not a) ρ=(evT Κ Φ a ρ>>=fun c=>.ok (!c)):=rfl
theorem W_tv:evW Κ Φ (.tv a) ρ=(evE Κ Φ a ρ>>=fun x=>z59 x.2>>=fun xs=>.ok (x.1,xs)):=rfl
theorem zto:evW Κ Φ (.rng a) ρ=(evA Κ Φ a ρ>>=fun ys=>rngD (ys.map (·.2))>>=fun xs=>.ok (.fr,xs)):=rfl
theorem zot:evF Κ Φ (.tv (.var i)) ρ=(if ownB ρ i then zh4 i ρ else if isAl Κ Φ (.tv (.var i)) ρ then evE Κ Φ (.var i) ρ>>=fun x=>evAl x ρ else evN Κ Φ (.tv (.var i)) ρ):=rfl
theorem R_tv (hv:∀i,a≠.var i):evF Κ Φ (.tv a) ρ=(if isAl Κ Φ (.tv a) ρ then evE Κ Φ a ρ>>=fun x=>evAl x ρ else evN Κ Φ (.tv a) ρ):=by cases a<;>first|exact absurd rfl (hv _)|rfl
end
theorem z0b {Κ:List D}{Φ:List Fn}{a b:S}{ρ ρ':Rho}{r:Res Out}(h:evS Κ Φ a ρ=.ok (.nx ρ'))(k:evS Κ Φ b ρ'=r):evS Κ Φ (.seq a b) ρ=r:=by rw[zpm,h];exact k
theorem z09 {Κ:List D}{Φ:List Fn}{a b:S}{ρ:Rho}{g:G}{d:D}(h:evS Κ Φ a ρ=.ok (.rt g d)):evS Κ Φ (.seq a b) ρ=.ok (.rt g d):=by rw[zpm,h];rfl
theorem z0j {Κ:List D}{Φ:List Fn}{n:Nat}{s:S}{ds:List D}{g:G}{d:D}(h:evS Κ Φ s (ds.map (fun d=>some (.od,d))++bv (n-ds.length) none)=.ok (.rt g d)):runD Κ Φ n s ds=.ok (g,d):=by unfold runD;rw[h]
theorem zc8 {β:Type}{f:D->Rho->Res Out}{m:β->D}(I:List β->Rho->Prop):∀(xs pre:List β) (ρ:Rho),(∀pr' x post ρ,pre++xs=pr'++x::post->I pr' ρ->∃ρ',f (m x) ρ=.ok (.nx ρ')/\I (pr'++[x]) ρ')->I pre ρ->∃ρ',forD f (xs.map m) ρ=.ok (.nx ρ')/\I (pre++xs) ρ'
 | [],pre,ρ,_,h=>⟨ρ,rfl,by rw[gv];exact h⟩
 |x::xs,pre,ρ,hf,h=>by
  obtain⟨ρ1,e,h1⟩:=hf pre x xs ρ rfl h;have e0:pre++[x]++xs=pre++x::xs:=by rw[j4];rfl
  obtain⟨ρ2,e2,h2⟩:=zc8 I xs (pre++[x]) ρ1 (fun pr' y post ρ hy=>hf pr' y post ρ (e0▸hy)) h1;exact⟨ρ2,by rw[a9,zu3,e];exact e2,e0▸h2⟩
theorem z9z {β:Type}{f:D->Res (Option GD)}{m:β->D}(g:β->Option D):∀(xs:List β),(∀x∈xs,f (m x)=.ok ((g x).map fun d=>(.fr,d)))->z3e f (xs.map m)=.ok ((xs.filterMap g).map fun d=>(.fr,d))
 | [],_=>rfl
 |x::xs,h=>by
  rw[a9,z3e,h x ak,Res.ok_bind,z9z g xs fun y hy=>h y (au _ hy),Res.ok_bind];cases e:g x with
  |none=>rw[o7 e];rfl
  |some d=>rw[o8 e];rfl
theorem zp2 (xs:List D):gCo (xs.map fun d=>(G.fr,d))=.fr:=by unfold gCo;rw[if_pos];rw[List.all_map];exact bg.mpr fun _ _=>rfl
theorem zlm (xs:List D):gAll (xs.map fun d=>(G.fr,d))=.fr:=by unfold gAll;rw[if_pos];rw[bg];intro x hx;obtain⟨d,_,rfl⟩:=bt.mp hx;rfl
theorem zco (xs:List D):(xs.map fun d=>(G.fr,d)).map (fun x=>x.2)=xs:=by rw[jc];exact List.map_id _
theorem zus (a b:Int):biD "min" [.int a,.int b]=.ok (.int (min a b)):=rfl
theorem zrq (l:P)(n:Str)(v:Int):mtD "get" (.dict (en l)) [.str n,.int v]=.ok (.int ((fnd l n).getD v)):=by have:mtD "get" (.dict (en l)) [.str n,.int v]=.ok ((z2h (en l) (.str n)).getD (.int v)):=rfl;rw[this,z96];cases fnd l n<;>rfl
theorem zgc (l:P)(n:Str):mtD "get" (.dict (en l)) [.str n,.int 0]=.ok (.int (look l n)):=zrq l n 0
theorem z9f (l:Bool)(xs:List D):aggD "list" l xs=.ok (.list xs):=rfl
theorem zgf {l:P}(b:Bool)(nd:(ks l).Nodup):aggD "dict" b (l.map pr)=.ok (.dict (en l)):=by show Res.ofO ((z3m [] (l.map pr)).map PyData.dict)=_;rw[zgl nd];rfl
def chr (z:Str)(i:Int):Str:=⟨#[z.cps.toList.getD i.toNat 0]⟩
theorem zdf (a b:Str):(a++b).length=a.length+b.length:=by show Array.size (a.cps++b.cps)=_;rw[uq];rfl
theorem zk1 {α:Type}(xs:List α)(i:Int)(d:α)(h0:0<=i)(h1:i<xs.length):atI xs i=some (xs.getD i.toNat d):=by
 unfold atI ixN;rw[if_pos h0,if_pos h1];show xs[i.toNat]?=_;have:i.toNat<xs.length:=by omega
 rw[bq this,bo,bq this];rfl
theorem z9g {z:Str}{i:Int}(h0:0<=i)(h1:i<z.length)(hz:z.length<=1000):ixD (.str z) (.int i)=.ok (.str (chr z i)):=by show(if z.length<=LIM then Res.ofO ((atI z.cps.toList i).map fun c=>PyData.str ⟨#[c]⟩)else .no)=_;rw[if_pos (by unfold LIM;omega),zk1 _ i 0 h0 (by rw[ck];exact h1)];rfl
theorem z52 {ns:List Int}{i:Int}(h0:0<=i)(h1:i<ns.length):ixD (.list (ns.map .int)) (.int i)=.ok (.int (ns.getD i.toNat 0)):=by
 show Res.ofO (atI (ns.map PyData.int) i)=_;rw[zk1 _ i (.int 0) h0 (by rw[af];exact h1)];show Res.ok _=_
 congr 1
 have:i.toNat<ns.length:=by omega
 rw[bo,bo,bw,bq this];rfl
theorem getD_mem {α:Type}{ns:List α}{i:Int}{d:α}(h0:0<=i)(h1:i<ns.length):ns.getD i.toNat d∈ns:=by
 have:i.toNat<ns.length:=by omega
 rw[bo,bq this];exact fg this
theorem add_str {a b:Str}(h:a.length+b.length<=1000):binD .Add (.str a) (.str b)=.ok (.str (a++b)):=by show(if _ then _ else _)=_;rw[if_pos (by unfold LIM;omega)]
theorem add_list {a b:List D}(h:a.length+b.length<=1000):binD .Add (.list a) (.list b)=.ok (.list (a++b)):=by show(if _ then _ else _)=_;rw[if_pos (by unfold LIM;omega)]
theorem zn4 {a b:Int}(h:-(2 ^ 64)<b/\b<2 ^ 64):binD .Mult (.int a) (.int b)=.ok (.int (a*b)):=by show(if _ then _ else _)=_;rw[if_pos (.inr h)]
theorem z56 {a b:Int}(h:-(2 ^ 64)<a/\a<2 ^ 64):binD .Mult (.int a) (.int b)=.ok (.int (a*b)):=by show(if _ then _ else _)=_;rw[if_pos (.inl h)]
theorem z1c {a b:Int}(h:0<b):binD .Mod (.int a) (.int b)=.ok (.int (a%b)):=by show(if _ then _ else _)=_;rw[if_pos h]
theorem zts:binD .Pow (.int 10) (.int 15)=.ok (.int 1000000000000000):=rfl
theorem zut:binD .Pow (.int 10) (.int 30)=.ok (.int 1000000000000000000000000000000):=rfl
theorem zgu {n:Int}(h0:0<=n)(h1:n<=1000):rngD [.int n]=.ok ((cu n.toNat).map fun(i:Nat)=>.int i):=by show(if _ then _ else _)=_;rw[if_pos (by unfold LIM;omega)]
theorem zim {z:Str}{i j:Option Int}(h:z.length<=1000):slD (.str z) i j=.ok (.str (z3t z i j)):=by show(if _ then _ else _)=_;rw[if_pos (by unfold LIM;omega)]
theorem z18 (ns:List Str):imms (ns.map .str)=true:=z1a.mpr fun x hx=>by obtain⟨p,_,rfl⟩:=bt.mp hx;rfl
theorem z0r (ns:List Int):imms (ns.map .int)=true:=z1a.mpr fun x hx=>by obtain⟨p,_,rfl⟩:=bt.mp hx;rfl
theorem z7p:∀(ns:List Str),allS (ns.map .str)=some ns
 | []=>rfl
 |n::ns=>by rw[a9,allS,z7p ns];rfl
theorem z7a:∀(ss:List Str),(∀s∈ss,s.length=1)->(z67 "" ss).length=ss.length
 | [],_=>rfl
 |x::r,h=>by
  show(jb (x.cps.toList++(r.map fun p=>([]:List Nat)++p.cps.toList).flatten)).size=_;have hx:=h x ak
  have h2:∀(r:List Str),(∀s∈r,s.length=1)->((r.map fun p=>([]:List Nat)++p.cps.toList).flatten).length=r.length:=by
   intro r
   induction r with
   |nil=>intro _;rfl
   |cons y r ih=>intro h;have hy:=h y ak;rw[a9,d7,av,ih fun s hs=>h s (au _ hs)];have:(([]:List Nat)++y.cps.toList).length=1:=hy;rw[this,br];omega
  rw[ao,av,h2 r fun s hs=>h s (au _ hs)];have:x.cps.toList.length=1:=hx;rw[this,br];omega
theorem zp3 {ss:List Str}(h:∀s∈ss,s.length=1)(hl:ss.length<=1000):mtD "join" (.str "") [.list (ss.map .str)]=.ok (.str (z67 "" ss)):=by
 have:mtD "join" (.str "") [.list (ss.map .str)]=(match allS (ss.map .str)with|some ss=>if zm4 "" ss<=LIM then .ok (.str (z67 "" ss))else .no|none=>.no):=rfl;rw[this,z7p]
 dsimp only
 rw[if_pos];unfold zm4;have h0:("":Str).length=0:=rfl
 have h1:∀(r:List Str),(∀s∈r,s.length=1)->(r.map (·.length)).sum=r.length:=by
  intro r
  induction r with
  |nil=>intro _;rfl
  |cons y r ih=>intro h;rw[a9,sv,h y ak,ih fun s hs=>h s (au _ hs),br];omega
 rw[h1 ss h,h0];unfold LIM;omega
theorem z2b (a b:Int):eqD (.int a) (.int b)=decide (a=b):=by show(a==b)=_;rfl
section
variable {Κ:List D}{Φ:List Fn}{ρ:Rho}
theorem z8j:evE Κ Φ (.var i) ρ=(rdS ρ[i]?):=rfl
theorem ztf:evE Κ Φ (.non) ρ=(.ok (.fr,.none)):=rfl
theorem E_bl:evE Κ Φ (.bl b) ρ=(.ok (.fr,.bool b)):=rfl
theorem zua:evE Κ Φ (.int i) ρ=(.ok (.fr,.int i)):=rfl
theorem zvl:evE Κ Φ (.str x) ρ=(.ok (.fr,.str x)):=rfl
theorem zo3:evE Κ Φ (.bin op a b) ρ=(evE Κ Φ a ρ>>=fun x=>evE Κ Φ b ρ>>=fun y=>binD op x.2 y.2>>=fun d=>.ok (gN d (gAll [x,y]),d)):=rfl
theorem zvg:evE Κ Φ (.cmp op a b) ρ=(evE Κ Φ a ρ>>=fun x=>evE Κ Φ b ρ>>=fun y=>cmpD op x.2 y.2>>=fun b=>.ok (.fr,.bool b)):=rfl
theorem zux:evE Κ Φ (.isN ng a) ρ=(evE Κ Φ a ρ>>=fun x=>.ok (.fr,.bool (match x.2 with|.none=>!ng|_=>ng))):=rfl
theorem zu5:evE Κ Φ (.and a b) ρ=(evE Κ Φ a ρ>>=fun x=>match x.2 with|.bool c=>if c then evE Κ Φ b ρ else .ok (.fr,.bool false)|_=>.no):=rfl
theorem zpl:evE Κ Φ (.ife c a b) ρ=(evT Κ Φ c ρ>>=fun k=>if k then evE Κ Φ a ρ else evE Κ Φ b ρ):=rfl
theorem zpe:evE Κ Φ (.tup xs) ρ=(evA Κ Φ xs ρ>>=fun ys=>.ok (gJ (.tuple (ys.map (·.2))) (gAll ys),.tuple (ys.map (·.2)))):=rfl
theorem zlo:evE Κ Φ (.lst xs) ρ=(evA Κ Φ xs ρ>>=fun ys=>.ok (gAll ys,.list (ys.map (·.2)))):=rfl
theorem zve:evE Κ Φ (.rep xs b) ρ=(evA Κ Φ xs ρ>>=fun ys=>evE Κ Φ b ρ>>=fun n=>repD ys n.2):=rfl
theorem E_ix:evE Κ Φ (.ix a b) ρ=(evE Κ Φ a ρ>>=fun x=>evE Κ Φ b ρ>>=fun y=>ixD x.2 y.2>>=fun d=>.ok (gJ d x.1,d)):=rfl
theorem E_sl:evE Κ Φ (.sl a lo hi) ρ=(evE Κ Φ a ρ>>=fun x=>evO Κ Φ lo ρ>>=fun l=>evO Κ Φ hi ρ>>=fun h=>slD x.2 l h>>=fun d=>.ok (gN d (gAll [x]),d)):=rfl
theorem z9s:evE Κ Φ (.call k w1 args) ρ=(evA Κ Φ args ρ>>=fun ys=>match Φ[k]? with|some m=>m (ys.map (·.2))>>=fun r=>.ok (gJ r.2 (rtG r.1),r.2)|none=>.no):=rfl
theorem E_bi:evE Κ Φ (.bi f args) ρ=(evA Κ Φ args ρ>>=fun ys=>biD f (ys.map (·.2))>>=fun d=>.ok (gJ d .al,d)):=rfl
theorem znr:evE Κ Φ (.agg f a) ρ=(evG Κ Φ a ρ>>=fun w=>aggD f w.2.1 w.2.2>>=fun d=>.ok (gJ d (if imms w.2.2 then .fr else agG w.1),d)):=rfl
theorem zvh:evE Κ Φ (.isT a ts) ρ=(evE Κ Φ a ρ>>=fun x=>.ok (.fr,.bool (ts.any fun T=>isTy (tyOf x.2) T))):=rfl
theorem E_mt:evE Κ Φ (.mt m o args) ρ=(evE Κ Φ o ρ>>=fun x=>evA Κ Φ args ρ>>=fun ys=>mtD m x.2 (ys.map (·.2))>>=fun d=>.ok (gJ d .al,d)):=rfl
theorem zqp {cond:C}:evE Κ Φ (.comp nt js w1 tg it cond elt) ρ=(evW Κ Φ it ρ>>=fun w=>z3e (fun x=>z1i tg (gJ x w.1,x) (bv nt none++js.map fun j=>toAl (ρ.getD j none))>>=fun ρ1=>evT Κ Φ cond ρ1>>=fun k=>if k then evE Κ Φ elt ρ1>>=fun y=>.ok (some y)else .ok none) w.2>>=fun ys=>.ok (gCo ys,.list (ys.map (·.2)))):=rfl
end
section
variable {Κ:List D}{Φ:List Fn}{ρ:Rho}{a b c t o args:C}{x y d:D}{ds:List D}{k k':Bool}{g:G}
def Ev (Κ:List D)(Φ:List Fn)(c:C)(ρ:Rho)(d:D):Prop:=∃g,evE Κ Φ c ρ=.ok (g,d)
def Vv (Κ:List D)(Φ:List Fn)(c:C)(ρ:Rho)(d:D):Prop:=evE Κ Φ c ρ=.ok (.fr,d)/\imm d=true
def Aa (Κ:List D)(Φ:List Fn)(c:C)(ρ:Rho)(ds:List D):Prop:=∃ys,evA Κ Φ c ρ=.ok ys/\ys.map (·.2)=ds
def Av (Κ:List D)(Φ:List Fn)(c:C)(ρ:Rho)(ds:List D):Prop:=evA Κ Φ c ρ=.ok (ds.map fun d=>(.fr,d))/\imms ds=true
def Tt (Κ:List D)(Φ:List Fn)(c:C)(ρ:Rho)(k:Bool):Prop:=evT Κ Φ c ρ=.ok k
theorem Vv.e (h:Vv Κ Φ c ρ d):Ev Κ Φ c ρ d:=⟨_,h.1⟩
theorem Ev.of (h:evE Κ Φ c ρ=.ok (g,d)):Ev Κ Φ c ρ d:=⟨_,h⟩
theorem z01 {i:Nat}(h:ρ[i]?=some (some (g,d))):Ev Κ Φ (.var i) ρ d:=⟨_,by rw[z8j];rw[h];rfl⟩
theorem v_var {i:Nat}(h:ρ[i]?=some (some (g,d)))(hi:imm d=true):Vv Κ Φ (.var i) ρ d:=⟨by rw[z8j];rw[h];show Res.ok (if imm d=true then _ else _,d)=_;rw[if_pos hi],hi⟩
theorem z04 {i:Int}:Vv Κ Φ (.int i) ρ (.int i):=⟨by rw[zua],rfl⟩
theorem z1r {i:Str}:Vv Κ Φ (.str i) ρ (.str i):=⟨by rw[zvl],rfl⟩
theorem v_bl {i:Bool}:Vv Κ Φ (.bl i) ρ (.bool i):=⟨by rw[E_bl],rfl⟩
theorem zi6:Vv Κ Φ .non ρ .none:=⟨by rw[ztf],rfl⟩
theorem z20 (hi:imm d=true):gJ d g=.fr:=by unfold gJ;rw[if_pos hi]
theorem zpb (hi:imm d=true):gN d g=.fr:=by cases d<;>first|exact z20 hi|cases hi
theorem z0e {op:ky}(ha:Ev Κ Φ a ρ x)(hb:Ev Κ Φ b ρ y)(h:binD op x y=.ok d)(hi:imm d=true):Vv Κ Φ (.bin op a b) ρ d:=by obtain⟨g1,ha⟩:=ha;obtain⟨g2,hb⟩:=hb;refine⟨?_,hi⟩;rw[zo3];rw[ha,Res.ok_bind,hb,Res.ok_bind];dsimp only;rw[h,Res.ok_bind,zpb hi]
theorem z60 {op:ky}{xs:List D}(ha:Ev Κ Φ a ρ x)(hb:Ev Κ Φ b ρ y)(h:binD op x y=.ok (.list xs))(hi:imms xs=true):evE Κ Φ (.bin op a b) ρ=.ok (.fr,.list xs):=by obtain⟨g1,ha⟩:=ha;obtain⟨g2,hb⟩:=hb;rw[zo3];rw[ha,Res.ok_bind,hb,Res.ok_bind];dsimp only;rw[h,Res.ok_bind];show Res.ok (if imms xs=true then _ else _,_)=_;rw[if_pos hi]
theorem z0q {op:CmpOp}(ha:Ev Κ Φ a ρ x)(hb:Ev Κ Φ b ρ y)(h:cmpD op x y=.ok k):Vv Κ Φ (.cmp op a b) ρ (.bool k):=by obtain⟨g1,ha⟩:=ha;obtain⟨g2,hb⟩:=hb;refine⟨?_,rfl⟩;rw[zvg];rw[ha,Res.ok_bind,hb,Res.ok_bind];dsimp only;rw[h];rfl
def isNo:D->Bool
 |.none=>true
 |_=>false
theorem zk5 {ng:Bool}(ha:Ev Κ Φ a ρ x):Vv Κ Φ (.isN ng a) ρ (.bool (if isNo x then !ng else ng)):=by obtain⟨g1,ha⟩:=ha;refine⟨?_,rfl⟩;rw[zux];rw[ha];cases x<;>rfl
theorem v_and (ha:Ev Κ Φ a ρ (.bool k))(hb:k=true->Vv Κ Φ b ρ (.bool k')):Vv Κ Φ (.and a b) ρ (.bool (k&&k')):=by
 obtain⟨g1,ha⟩:=ha;refine⟨?_,rfl⟩;rw[zu5];rw[ha];cases k with
 |true=>exact(hb rfl).1
 |false=>rfl
theorem zn8 (hc:Tt Κ Φ c ρ k)(h1:k=true->Vv Κ Φ a ρ x)(h2:k=false->Vv Κ Φ b ρ y):Vv Κ Φ (.ife c a b) ρ (if k then x else y):=by
 unfold Tt at hc;cases k with
 |true=>exact⟨by rw[zpl];rw[hc];exact(h1 rfl).1,(h1 rfl).2⟩
 |false=>exact⟨by rw[zpl];rw[hc];exact(h2 rfl).1,(h2 rfl).2⟩
theorem z0a:Av Κ Φ .nil ρ []:=⟨rfl,rfl⟩
theorem z02 (ha:Vv Κ Φ a ρ x)(hb:Av Κ Φ b ρ ds):Av Κ Φ (.cons a b) ρ (x::ds):=⟨by rw[z3v,ha.1,Res.ok_bind,hb.1];rfl,by show(imm x&&imms ds)=true;rw[ha.2,hb.2];rfl⟩
theorem z03:Aa Κ Φ .nil ρ []:=⟨[],rfl,rfl⟩
theorem z00 (ha:Ev Κ Φ a ρ x)(hb:Aa Κ Φ b ρ ds):Aa Κ Φ (.cons a b) ρ (x::ds):=by obtain⟨g1,ha⟩:=ha;obtain⟨ys,hb,e⟩:=hb;exact⟨_,by rw[z3v,ha,Res.ok_bind,hb];rfl,by rw[a9,e]⟩
theorem z0x (h:Av Κ Φ args ρ ds):Vv Κ Φ (.tup args) ρ (.tuple ds):=by refine⟨?_,h.2⟩;rw[zpe];rw[h.1,Res.ok_bind,zco,z20 (d:=.tuple ds) h.2]
theorem zol (h:Aa Κ Φ args ρ ds):Ev Κ Φ (.tup args) ρ (.tuple ds):=by obtain⟨ys,h,e⟩:=h;exact⟨_,by rw[zpe];rw[h,Res.ok_bind,e]⟩
theorem z1b (h:Av Κ Φ args ρ ds):evE Κ Φ (.lst args) ρ=.ok (.fr,.list ds):=by rw[zlo];rw[h.1,Res.ok_bind,zco,zlm]
theorem zuw (h:Av Κ Φ args ρ ds)(hb:Ev Κ Φ b ρ x)(hr:repD (ds.map fun d=>(.fr,d)) x=.ok (g,d)):evE Κ Φ (.rep args b) ρ=.ok (g,d):=by obtain⟨g',hb⟩:=hb;rw[zve,h.1,Res.ok_bind,hb,Res.ok_bind];exact hr
theorem v_ix (ha:Ev Κ Φ a ρ x)(hb:Ev Κ Φ b ρ y)(h:ixD x y=.ok d)(hi:imm d=true):Vv Κ Φ (.ix a b) ρ d:=by obtain⟨g1,ha⟩:=ha;obtain⟨g2,hb⟩:=hb;refine⟨?_,hi⟩;rw[E_ix];rw[ha,Res.ok_bind,hb,Res.ok_bind];dsimp only;rw[h,Res.ok_bind,z20 hi]
def Oo (Κ:List D)(Φ:List Fn)(c:C)(ρ:Rho)(i:Option Int):Prop:=evO Κ Φ c ρ=.ok i
theorem z40:Oo Κ Φ .nil ρ none:=rfl
theorem z2u {i:Int}(h:Ev Κ Φ a ρ (.int i)):Oo Κ Φ (.tv a) ρ (some i):=by obtain⟨g1,h⟩:=h;unfold Oo;rw[O_tv,h];rfl
theorem z07 {n:Nat}{f:Str}{m:Fn}(ha:Aa Κ Φ args ρ ds)(hf:Φ[n]?=some m)(h:m ds=.ok (g,d))(hi:imm d=true):Vv Κ Φ (.call n f args) ρ d:=by obtain⟨ys,ha,e⟩:=ha;refine⟨?_,hi⟩;rw[z9s];rw[ha,Res.ok_bind,hf];dsimp only;rw[e,h,Res.ok_bind,z20 hi]
theorem z3w {n:Nat}{f:Str}{m:Fn}(ha:Aa Κ Φ args ρ ds)(hf:Φ[n]?=some m)(h:m ds=.ok (g,d)):Ev Κ Φ (.call n f args) ρ d:=by obtain⟨ys,ha,e⟩:=ha;exact⟨_,by rw[z9s];rw[ha,Res.ok_bind,hf];dsimp only;rw[e,h,Res.ok_bind]⟩
theorem z16 {n:Nat}{f:Str}{m:Fn}{xs:List D}(ha:Aa Κ Φ args ρ ds)(hf:Φ[n]?=some m)(h:m ds=.ok (.fr,.list xs)):evE Κ Φ (.call n f args) ρ=.ok (.fr,.list xs):=by obtain⟨ys,ha,e⟩:=ha;rw[z9s];rw[ha,Res.ok_bind,hf];dsimp only;rw[e,h,Res.ok_bind];rfl
theorem v_bi {f:String}(ha:Aa Κ Φ args ρ ds)(h:biD f ds=.ok d)(hi:imm d=true):Vv Κ Φ (.bi f args) ρ d:=by obtain⟨ys,ha,e⟩:=ha;refine⟨?_,hi⟩;rw[E_bi];rw[ha,Res.ok_bind,e,h,Res.ok_bind,z20 hi]
theorem zna {f:String}{w:Bool×List D}(ha:Ev Κ Φ a ρ x)(hw:z4k x=.ok w)(h:aggD f w.1 w.2=.ok d)(hi:imm d=true):Vv Κ Φ (.agg f (.tv a)) ρ d:=by obtain⟨g1,ha⟩:=ha;refine⟨?_,hi⟩;rw[znr];rw[G_tv,ha,Res.ok_bind];dsimp only;rw[hw];simp only[Res.ok_bind];rw[h,Res.ok_bind,z20 hi]
theorem z7g {f:String}{w:Bool×List D}(ha:Ev Κ Φ a ρ x)(hw:z4k x=.ok w)(h:aggD f w.1 w.2=.ok d)(hi:imms w.2=true):evE Κ Φ (.agg f (.tv a)) ρ=.ok (.fr,d):=by obtain⟨g1,ha⟩:=ha;rw[znr];rw[G_tv,ha,Res.ok_bind];dsimp only;rw[hw];simp only[Res.ok_bind];rw[h,Res.ok_bind,if_pos hi];unfold gJ;split<;>rfl
theorem zki {ts:List String}(ha:Ev Κ Φ a ρ x):Vv Κ Φ (.isT a ts) ρ (.bool (ts.any fun T=>isTy (tyOf x) T)):=by obtain⟨g1,ha⟩:=ha;refine⟨?_,rfl⟩;rw[zvh];rw[ha];rfl
theorem v_mt {m:String}(ho:Ev Κ Φ o ρ x)(ha:Aa Κ Φ args ρ ds)(h:mtD m x ds=.ok d)(hi:imm d=true):Vv Κ Φ (.mt m o args) ρ d:=by obtain⟨g1,ho⟩:=ho;obtain⟨ys,ha,e⟩:=ha;refine⟨?_,hi⟩;rw[E_mt];rw[ho,Res.ok_bind,ha,Res.ok_bind,e];dsimp only;rw[h,Res.ok_bind,z20 hi]
theorem t_tv (h:Ev Κ Φ a ρ x)(ht:z21 x=.ok k):Tt Κ Φ (.tv a) ρ k:=by obtain⟨g1,h⟩:=h;unfold Tt;rw[T_tv,h];exact ht
theorem zd8:Tt Κ Φ .nil ρ true:=rfl
theorem z3x (ha:Tt Κ Φ a ρ k)(hb:k=true->Tt Κ Φ b ρ k'):Tt Κ Φ (.and a b) ρ (k&&k'):=by
 unfold Tt at *
 rw[zvv,ha];cases k with
 |true=>exact hb rfl
 |false=>rfl
theorem t_or (ha:Tt Κ Φ a ρ k)(hb:k=false->Tt Κ Φ b ρ k'):Tt Κ Φ (.or a b) ρ (k||k'):=by
 unfold Tt at *
 rw[T_or,ha];cases k with
 |false=>exact hb rfl
 |true=>rfl
theorem z6t (ha:Tt Κ Φ a ρ k):Tt Κ Φ (.not a) ρ (!k):=by
 unfold Tt at *
 rw[zuh,ha];rfl
theorem z2g {β:Type}{nt:Nat}{js:List Nat}{N':List Str}{tg:Tg}{it cond elt:C}{w:G×List D}{m:β->D}{xs:List β}(p:β->Bool)(f:β->D)(hw:evW Κ Φ it ρ=.ok w)(hx:w.2=xs.map m)(r:β->Rho)
  (hb:∀x∈xs,z1i tg (gJ (m x) w.1,m x) (bv nt none++js.map fun j=>toAl (ρ.getD j none))=.ok (r x)) (hc:∀x∈xs,Tt Κ Φ cond (r x) (p x)) (he:∀x∈xs,p x=true->Vv Κ Φ elt (r x) (f x)):
  evE Κ Φ (.comp nt js N' tg it cond elt) ρ=.ok (.fr,.list ((xs.filter p).map f)):=by
 rw[zqp];rw[hw,Res.ok_bind,hx]
 rw[z9z (fun x=>if p x then some (f x)else none) xs fun x hx=>by
  rw[hb x hx,Res.ok_bind];have:=hc x hx;unfold Tt at this;rw[this,Res.ok_bind];cases e:p x with
  |true=>rw[if_pos rfl,(he x hx e).1];rfl
  |false=>rfl]
 rw[Res.ok_bind,zp2,zco]
 have:(xs.filterMap fun x=>if p x=true then some (f x)else none)=(xs.filter p).map f:=by
  clear hx hb hc he hw
  induction xs with
  |nil=>rfl
  |cons x xs ih=>
   cases e:p x with
   |true=>rw[o8 (b:=f x) (by rw[e];rfl),List.filter_cons_of_pos e,a9,ih]
   |false=>rw[o7 (by rw[e];rfl),List.filter_cons_of_neg (by rw[e];exact bu),ih]
 rw[this]
theorem w_tv {xs:List D}(h:evE Κ Φ a ρ=.ok (g,x))(hw:z59 x=.ok xs):evW Κ Φ (.tv a) ρ=.ok (g,xs):=by rw[W_tv,h,Res.ok_bind];dsimp only;rw[hw];rfl
theorem zq0 {xs:List D}(h:Aa Κ Φ args ρ ds)(hw:rngD ds=.ok xs):evW Κ Φ (.rng args) ρ=.ok (.fr,xs):=by obtain⟨ys,h,e⟩:=h;rw[zto,h,Res.ok_bind,e,hw];rfl
theorem z0g {i:Nat}(h:Vv Κ Φ t ρ d):evS Κ Φ (.asg (.nm i) t) ρ=.ok (.nx (ρ.set i (some (.al,d)))):=by rw[zi9,h.1,Res.ok_bind];show Res.ok (Out.nx (ρ.set i (some (if imm d then(.al,d)else _))))=_;rw[if_pos h.2]
theorem z0z {i:Nat}{xs:List D}(h:evE Κ Φ t ρ=.ok (.fr,.list xs))(hi:imms xs=true):evS Κ Φ (.asg (.nm i) t) ρ=.ok (.nx (ρ.set i (some (.fr,.list xs)))):=by rw[zi9,h,Res.ok_bind];show Res.ok (Out.nx (ρ.set i (some (if imms xs then .fr else .nu,.list xs))))=_;rw[if_pos hi]
theorem zrf {i:Nat}{es:Ents}(h:evE Κ Φ t ρ=.ok (.fr,.dict es))(hi:immE es=true):evS Κ Φ (.asg (.nm i) t) ρ=.ok (.nx (ρ.set i (some (.fr,.dict es)))):=by rw[zi9,h,Res.ok_bind];show Res.ok (Out.nx (ρ.set i (some (if immE es then .fr else .nu,.dict es))))=_;rw[if_pos hi]
theorem zdh (hv:∀i,t≠.var i):evS Κ Φ (.ret t) ρ=(evE Κ Φ t ρ>>=fun x=>.ok (.rt (rtG x.1) x.2)):=by cases t<;>first|exact absurd rfl (hv _)|rfl
theorem z0f (h:Vv Κ Φ t ρ d):evS Κ Φ (.ret t) ρ=.ok (.rt .fr d):=by
 by_cases hv:∀i,t≠.var i
 ·rw[zdh hv,h.1];rfl
 obtain⟨i,rfl⟩:∃i,t=.var i:=by cases t<;>first|exact⟨_,rfl⟩|exact(hv fun i z=>by cases z).elim
 have h1:=h.1;rw[z8j]at h1;rw[zjg];cases hr:ρ[i]? with
 |none=>rw[hr]at h1;cases h1
 |some o=>
  cases o with
  |none=>rw[hr]at h1;cases h1
  |some gd=>
   obtain⟨g,d'⟩:=gd;rw[hr]at h1;have:d'=d:=by have:=congrArg (fun r:Res GD=>match r with|.ok p=>p.2|_=>.none) h1;exact this
   subst this;show Res.ok (Out.rt (if imm d'=true then _ else _) d')=_;rw[if_pos h.2]
theorem z27 {xs:List D}(hv:∀i,t≠.var i)(h:evE Κ Φ t ρ=.ok (.fr,.list xs)):evS Κ Φ (.ret t) ρ=.ok (.rt .fr (.list xs)):=by rw[zdh hv,h];rfl
theorem z0o {p q:S}{r:Res Out}(hc:Tt Κ Φ c ρ k)(h1:k=true->evS Κ Φ p ρ=r)(h2:k=false->evS Κ Φ q ρ=r):evS Κ Φ (.ifS c p q) ρ=r:=by
 unfold Tt at hc;rw[R_if,hc,Res.ok_bind];cases k with
 |true=>exact h1 rfl
 |false=>exact h2 rfl
theorem z0k:evS Κ Φ .nil ρ=.ok (.nx ρ):=rfl
theorem z9p {y:GD}(h:imm y.2=true):okIn y=true:=by unfold okIn;rw[h];rfl
theorem zbg {i:Nat}{xs:List D}(hv:Vv Κ Φ a ρ x)(hr:ρ[i]?=some (some (.fr,.list xs)))(hl:xs.length<1000):evS Κ Φ (.mut "append" i (.cons a .nil)) ρ=.ok (.nx ((ρ.set i (some (.fr,.list (xs++[x])))).map z1g)):=by
 rw[zv4,z3v,hv.1,Res.ok_bind,zhl,Res.ok_bind,Res.ok_bind,hr]
 dsimp only
 have:mutD "append" xs [(.fr,x)]=.ok (xs++[x]):=by show(if(okIn (G.fr,x)&&decide (xs.length<LIM))=true then _ else _)=_;rw[if_pos];rw[z9p hv.2,ml];refine v5 ?_;unfold LIM;omega
 rw[this];rfl
theorem zr6 {i:Nat}{xs:List D}(h:ρ[i]?=some (some (g,d)))(hg:g≠.fr)(hi:imm d=true)(hw:z59 d=.ok xs):evF Κ Φ (.tv (.var i)) ρ=.ok (.fr,xs,ρ):=by
 have e1:evE Κ Φ (.var i) ρ=.ok (.fr,d):=(v_var h hi).1;have e2:evW Κ Φ (.tv (.var i)) ρ=.ok (.fr,xs):=w_tv e1 hw
 have e3:ownB ρ i=false:=by
  unfold ownB;rw[h];cases g with
  |fr=>exact absurd rfl hg
  |od=>rfl
  |al=>rfl
  |nu=>rfl
 rw[zot,e3];unfold isAl evN;rw[e2];rfl
theorem f_od {i:Nat}{xs:List D}(h:ρ[i]?=some (some (.od,d)))(hi:imm d=false)(hw:z59 d=.ok xs):evF Κ Φ (.tv (.var i)) ρ=.ok (.od,xs,ρ):=by
 have e1:evE Κ Φ (.var i) ρ=.ok (.od,d):=by rw[z8j];rw[h];show Res.ok (if imm d=true then _ else _,d)=_;rw[hi];rfl
 have e2:evW Κ Φ (.tv (.var i)) ρ=.ok (.od,xs):=w_tv e1 hw;have e3:ownB ρ i=false:=by unfold ownB;rw[h]
 rw[zot,e3];unfold isAl evN;rw[e2];rfl
theorem zmx {xs:List D}(h:Aa Κ Φ args ρ ds)(hw:rngD ds=.ok xs):evF Κ Φ (.rng args) ρ=.ok (.fr,xs,ρ):=by show evN Κ Φ (.rng args) ρ=_;unfold evN;rw[zq0 h hw];rfl
theorem zhz {xs ys:List D}{x y:D}(ha:Ev Κ Φ a ρ x)(hb:Ev Κ Φ b ρ y)(hx:seqI x=.ok xs)(hy:seqI y=.ok ys):evW Κ Φ (.zip a b) ρ=.ok (.al,zipD xs ys):=by obtain⟨g,ha⟩:=ha;obtain⟨g',hb⟩:=hb;show(evE Κ Φ a ρ>>=fun x=>evE Κ Φ b ρ>>=fun y=>seqI x.2>>=fun xs=>seqI y.2>>=fun ys=>Res.ok (G.al,zipD xs ys))=_;rw[ha,Res.ok_bind,hb,Res.ok_bind];show(seqI x>>=fun xs=>seqI y>>=fun ys=>Res.ok (G.al,zipD xs ys))=_;rw[hx,Res.ok_bind,hy];rfl
theorem zjc {xs:List D}{x:D}(ha:Ev Κ Φ a ρ x)(hx:seqI x=.ok xs):evW Κ Φ (.enum a) ρ=.ok (.al,z29 0 xs):=by obtain⟨g,ha⟩:=ha;show(evE Κ Φ a ρ>>=fun x=>seqI x.2>>=fun xs=>Res.ok (G.al,z29 0 xs))=_;rw[ha,Res.ok_bind];show(seqI x>>=fun xs=>Res.ok (G.al,z29 0 xs))=_;rw[hx];rfl
theorem zmz {xs ys:List D}{x y:GD}(ha:evE Κ Φ a ρ=.ok x)(hb:evE Κ Φ b ρ=.ok y)(ca:z58 x=true)(cb:z58 y=true)(hx:seqI x.2=.ok xs)(hy:seqI y.2=.ok ys):evF Κ Φ (.zip a b) ρ=.ok (.al,zipD xs ys,ρ):=by
 have e:evA Κ Φ (.cons a (.cons b .nil)) ρ=.ok [x,y]:=by rw[z3v,ha,Res.ok_bind,z3v,hb,Res.ok_bind,zhl];rfl
 show(evA Κ Φ (.cons a (.cons b .nil)) ρ>>=fun ys=>evZi ys ρ)=_;rw[e,Res.ok_bind];unfold evZi
 dsimp only
 rw[ca,cb];show(seqI x.2>>=fun xs=>seqI y.2>>=fun zs=>Res.ok (G.al,zipD xs zs,ρ))=_;rw[hx,Res.ok_bind,hy];rfl
theorem zum {xs:List D}{x:GD}(ha:evE Κ Φ a ρ=.ok x)(ca:z58 x=true)(hx:seqI x.2=.ok xs):evF Κ Φ (.enum a) ρ=.ok (.al,z29 0 xs,ρ):=by
 have e:evA Κ Φ (.cons a .nil) ρ=.ok [x]:=by rw[z3v,ha,Res.ok_bind,zhl];rfl
 show(evA Κ Φ (.cons a .nil) ρ>>=fun ys=>evEn ys ρ)=_;rw[e,Res.ok_bind];unfold evEn
 dsimp only
 rw[ca,if_pos rfl,hx];rfl
theorem z5s {xs:List D}(h:imms xs=true)(hl:xs.length<=1000):seqI (.list xs)=.ok xs:=by show(if(imms xs&&decide (xs.length<=LIM))=true then Res.ok xs else .no)=_;rw[h,v5 (show xs.length<=LIM by unfold LIM;omega)];rfl
theorem zrz {xs:List D}(h:imms xs=true)(hl:xs.length<=1000):seqI (.tuple xs)=.ok xs:=by show(if(imms xs&&decide (xs.length<=LIM))=true then Res.ok xs else .no)=_;rw[h,v5 (show xs.length<=LIM by unfold LIM;omega)];rfl
theorem zfu {β γ:Type}(m:β->D)(n:γ->D):∀(xs:List β) (ys:List γ),zipD (xs.map m) (ys.map n)=(xs.zip ys).map fun p=>.tuple [m p.1,n p.2]
 | [],_=>by simp[zipD]
 |_::_,[]=>by simp[zipD]
 |x::xs,y::ys=>by rw[a9,a9,zipD,zfu m n xs ys];rfl
theorem zio {β:Type}(m:β->D):∀(k:Nat) (xs:List β),z29 k (xs.map m)=(xs.zipIdx k).map fun p=>.tuple [.int p.2,m p.1]
 |_,[]=>rfl
 |k,x::xs=>by rw[a9,z29,zio m (k+1) xs];rfl
theorem z2q {i j:Nat}{x y:D}{g:G}(hx:imm x=true)(hy:imm y=true):z1i (.tp [i,j]) (gJ (.tuple [x,y]) g,.tuple [x,y]) ρ=.ok ((ρ.set i (some (.al,x))).set j (some (.al,y))):=by show Res.ofO (some ((ρ.set i (some (z2j (gJ x _,x)))).set j (some (z2j (gJ y _,y)))))=_;rw[z20 hx,z20 hy];rfl
theorem zox {e0:C}{x':D}{xs:List D}(hv:∀i,e0≠.var i)(h:evE Κ Φ e0 ρ=.ok (.fr,x'))(hw:z59 x'=.ok xs):evF Κ Φ (.tv e0) ρ=.ok (.fr,xs,ρ):=by
 have e2:evW Κ Φ (.tv e0) ρ=.ok (.fr,xs):=w_tv h hw;have e3:isAl Κ Φ (.tv e0) ρ=false:=by unfold isAl;rw[e2];rfl
 rw[R_tv hv,e3];unfold evN;rw[e2];rfl
theorem zc3 {t':Tg}{it:C}{p:S}{w:G×List D×Rho}{r:Res Out}(h:evF Κ Φ it ρ=.ok w)(k:forD (fun x ρ1=>z1i t' (gJ x w.1,x) ρ1>>=fun ρ2=>evS Κ Φ p ρ2) w.2.1 w.2.2=r):evS Κ Φ (.for_ t' it p) ρ=r:=by rw[zsv,h];exact k
theorem z6i {p q rest:S}(hc:Tt Κ Φ c ρ k)(hk:k=true)(h:evS Κ Φ p ρ=.ok (.rt g d)):evS Κ Φ (.seq (.ifS c p q) rest) ρ=.ok (.rt g d):=z09 (z0o hc (fun _=>h) fun z=>by rw[hk]at z;cases z)
theorem z1u {p rest:S}{r:Res Out}(hc:Tt Κ Φ c ρ k)(hk:k=false)(h:evS Κ Φ rest ρ=r):evS Κ Φ (.seq (.ifS c p .nil) rest) ρ=r:=z0b (z0o hc (fun z=>by rw[hk]at z;cases z) fun _=>z0k) h
theorem z7j {i:Nat}{xs:List D}(h:ρ[i]?=some (some (.fr,.list xs))):evS Κ Φ (.ret (.var i)) ρ=.ok (.rt .fr (.list xs)):=by rw[zjg,h];rfl
theorem q_ok {Q:Res Out->Prop}{p q:S}{ρ':Rho}(h:evS Κ Φ p ρ=.ok (.nx ρ'))(k:Q (evS Κ Φ q ρ')):Q (evS Κ Φ (.seq p q) ρ):=by rw[z0b h rfl];exact k
theorem q_rt {Q:Res Out->Prop}{p q:S}(h:evS Κ Φ p ρ=.ok (.rt g d))(k:Q (.ok (.rt g d))):Q (evS Κ Φ (.seq p q) ρ):=by rw[z09 h];exact k
theorem zt4 {Q:Res Out->Prop}{β:Type}{t':Tg}{it:C}{p rest:S}{m:β->D}{xs:List β}{ρ1:Rho}(h:evF Κ Φ it ρ=.ok (g,xs.map m,ρ1))(I:List β->Rho->Prop)(h0:I [] ρ1)
  (hf:∀pre x post ρ,xs=pre++x::post->I pre ρ->∃ρ',(z1i t' (gJ (m x) g,m x) ρ>>=fun ρ2=>evS Κ Φ p ρ2)=.ok (.nx ρ')/\I (pre++[x]) ρ') (hk:∀ρ',I xs ρ'->Q (evS Κ Φ rest ρ')):Q (evS Κ Φ (.seq (.for_ t' it p) rest) ρ):=by
 obtain⟨ρ',e,i⟩:=zc8 (f:=fun x ρ1=>z1i t' (gJ x g,x) ρ1>>=fun ρ2=>evS Κ Φ p ρ2) I xs [] ρ1 hf h0;rw[z0b (zc3 h e) rfl];exact hk ρ' i
theorem zkl {Q:Res Out->Prop}{β:Type}{t':Tg}{it:C}{p rest:S}{m:β->D}{xs:List β}{ρ1:Rho}(h:evF Κ Φ it ρ=.ok (g,xs.map m,ρ1))(I:List β->Rho->Prop)(h0:I [] ρ1)
  (hf:∀pre x post ρ,xs=pre++x::post->I pre ρ->∃ρ2 ρ',z1i t' (gJ (m x) g,m x) ρ=.ok ρ2/\evS Κ Φ p ρ2=.ok (.nx ρ')/\I (pre++[x]) ρ') (hk:∀ρ',I xs ρ'->Q (evS Κ Φ rest ρ')):Q (evS Κ Φ (.seq (.for_ t' it p) rest) ρ):=
 zt4 h I h0 (fun pre x post ρ hx hI=>by obtain⟨ρ2,ρ',h1,h2,h3⟩:=hf pre x post ρ hx hI;exact⟨ρ',by rw[h1,Res.ok_bind,h2],h3⟩) hk
theorem z2e {Q:Res Out->Prop}{p rest:S}(hc:Tt Κ Φ c ρ k)(hk:k=false)(h:Q (evS Κ Φ rest ρ)):Q (evS Κ Φ (.seq (.ifS c p .nil) rest) ρ):=by rw[z1u hc hk rfl];exact h
theorem zkt:Vv Κ Φ (.bin .Pow (.int 10) (.int 15)) ρ (.int 1000000000000000):=z0e z04.e z04.e zts rfl
theorem z8i:Vv Κ Φ (.bin .Pow (.int 10) (.int 30)) ρ (.int 1000000000000000000000000000000):=z0e z04.e z04.e zut rfl
end
end
end Mk
namespace Mk
open PySem Mi
def S_z0:S:=(.seq (.ifS (.not (.and (.tv (.isT (.var 0) ["str"])) (.tv (.cmp .In (.var 0) (.tup (.cons (.str "for") (.cons (.str "against") .nil)))))))
 (.seq .bad
 .nil)
 .nil)
 .nil)
def F_z0:Fn:=runD [] [] 1 S_z0
def S_z1:S:=(.seq (.drop (.call 0 "check_side" (.cons (.var 0) .nil)))
 (.seq (.ret (.ife (.tv (.cmp .Eq (.var 0) (.str "for"))) (.str "against") (.str "for")))
 .nil))
def F_z1:Fn:=runD [] [F_z0] 1 S_z1
def S_z2:S:=(.seq (.drop (.call 0 "check_side" (.cons (.var 1) .nil)))
 (.seq (.ret (.ife (.tv (.cmp .Eq (.var 1) (.str "for"))) (.ix (.var 0) (.int 0)) (.ix (.var 0) (.int 1))))
 .nil))
def F_z2:Fn:=runD [] [F_z0] 2 S_z2
def S_z3:S:=(.seq (.ret (.ife (.tv (.cmp .Eq (.var 0) (.str "for"))) (.tup (.cons (.var 1) (.cons (.var 2) .nil))) (.tup (.cons (.var 2) (.cons (.var 1) .nil))))) .nil)
def F_z3:Fn:=runD [] [] 3 S_z3
def S_z4:S:=(.seq (.asg (.nm 2) (.agg "dict" (.tv (.var 1))))
 (.seq (.ret (.comp 2 [2] ["name","amount","held"] (.tp [0,1]) (.tv (.var 0)) (.tv (.cmp .Gt (.var 1) (.mt "get" (.var 2) (.cons (.var 0) (.cons (.int 0) .nil))))) (.var 0)))
 .nil))
def F_z4:Fn:=runD [] [] 3 S_z4
def S_z5:S:=(.seq (.ret (.cmp .Eq (.call 0 "over" (.cons (.var 0) (.cons (.var 1) .nil))) (.lst .nil))) .nil)
def F_z5:Fn:=runD [] [F_z4] 2 S_z5
def S_z6:S:=(.seq (.ret (.call 0 "side_of" (.cons (.ix (.var 0) (.int 0)) (.cons (.call 1 "other_side" (.cons (.ix (.var 0) (.int 1)) .nil)) .nil)))) .nil)
def F_z6:Fn:=runD [] [F_z2,F_z1] 1 S_z6
def S_z7:S:=(.seq (.asg (.nm 2) (.ix (.var 0) (.int 1)))
 (.seq (.asg (.nm 3) (.call 0 "over" (.cons (.ix (.var 0) (.int 2)) (.cons (.call 2 "side_of" (.cons (.var 1) (.cons (.var 2) .nil))) .nil))))
 (.seq (.asg (.nm 4) (.call 0 "over" (.cons (.call 2 "side_of" (.cons (.var 1) (.cons (.call 3 "other_side" (.cons (.var 2) .nil)) .nil))) (.cons (.call 1 "opposed_of" (.cons (.var 0) .nil)) .nil))))
 (.seq (.ret (.bin .Add (.comp 1 [] ["name"] (.nm 0) (.tv (.var 3)) .nil (.tup (.cons (.str "less") (.cons (.var 0) .nil)))) (.comp 1 [] ["name"] (.nm 0) (.tv (.var 4)) .nil (.tup (.cons (.str "more") (.cons (.var 0) .nil))))))
 .nil))))
def F_z7:Fn:=runD [] [F_z4,F_z6,F_z2,F_z1] 5 S_z7
def S_z8:S:=(.seq (.ret (.cmp .Eq (.call 0 "apart" (.cons (.var 0) (.cons (.var 1) .nil))) (.lst .nil))) .nil)
def F_z8:Fn:=runD [] [F_z7] 2 S_z8
def S_z9:S:=(.seq (.for_ (.tp [2,3]) (.enum (.var 0))
 (.seq (.ifS (.tv (.call 0 "binds" (.cons (.var 3) (.cons (.var 1) .nil))))
 (.seq (.ret (.tup (.cons (.ix (.var 3) (.int 1)) (.cons (.var 2) .nil))))
 .nil)
 .nil)
 .nil))
 (.seq (.ret .non)
 .nil))
def F_z9:Fn:=runD [] [F_z8] 4 S_z9
def zlf:S:=(.seq (.ret (.and (.cmp .Eq (.ix (.var 0) (.int 1)) (.ix (.var 1) (.int 1))) (.and (.call 0 "within" (.cons (.ix (.var 0) (.int 2)) (.cons (.ix (.var 1) (.int 2)) .nil))) (.call 0 "within" (.cons (.call 1 "opposed_of" (.cons (.var 1) .nil)) (.cons (.call 1 "opposed_of" (.cons (.var 0) .nil)) .nil)))))) .nil)
def zbu:Fn:=runD [] [F_z5,F_z6] 2 zlf
def zk8:S:=(.seq (.asg (.nm 2) (.ix (.var 0) (.var 1)))
 (.seq (.for_ (.tp [3,4]) (.enum (.var 0))
 (.seq (.ifS (.and (.tv (.cmp .NotEq (.var 3) (.var 1))) (.and (.tv (.call 0 "covers" (.cons (.var 4) (.cons (.var 2) .nil)))) (.or (.tv (.cmp .Lt (.var 3) (.var 1))) (.not (.tv (.call 0 "covers" (.cons (.var 2) (.cons (.var 4) .nil))))))))
 (.seq (.ret (.bl false))
 .nil)
 .nil)
 .nil))
 (.seq (.ret (.bl true))
 .nil)))
def zcx:Fn:=runD [] [zbu] 5 zk8
def zk2:S:=(.seq (.ret (.comp 1 [0] ["k","book"] (.nm 0) (.rng (.cons (.bi "len" (.cons (.var 0) .nil)) .nil)) (.tv (.call 0 "is_kept" (.cons (.var 1) (.cons (.var 0) .nil)))) (.var 0))) .nil)
def zf3:Fn:=runD [] [zcx] 1 zk2
def zmc:S:=(.seq (.ret (.tup (.cons (.ix (.var 0) (.int 1)) (.cons (.ix (.var 0) (.int 2)) (.cons (.call 0 "opposed_of" (.cons (.var 0) .nil)) .nil))))) .nil)
def zdz:Fn:=runD [] [F_z6] 1 zmc
def zm3:S:=(.seq (.ret (.agg "sorted" (.tv (.comp 1 [0] ["k","book"] (.nm 0) (.tv (.call 0 "kept" (.cons (.var 0) .nil))) .nil (.call 1 "core" (.cons (.ix (.var 1) (.var 0)) .nil)))))) .nil)
def z6f:Fn:=runD [] [zf3,zdz] 1 zm3
def zn3:S:=(.seq (.for_ (.tp [2,3,4]) (.tv (.call 0 "marrow" (.cons (.var 0) .nil)))
 (.seq (.asg (.nm 5) (.call 2 "case_with" (.cons (.var 2) (.cons (.var 3) (.cons (.var 4) .nil)))))
 (.seq (.asg (.nm 6) (.call 1 "binding" (.cons (.var 1) (.cons (.var 5) .nil))))
 (.seq (.ifS (.or (.tv (.isN false (.var 6))) (.tv (.cmp .NotEq (.ix (.var 6) (.int 0)) (.var 2))))
 (.seq (.ret (.tup (.cons (.var 5) (.cons (.var 2) .nil))))
 .nil)
 .nil)
 .nil))))
 (.seq (.ret .non)
 .nil))
def zgd:Fn:=runD [] [z6f,F_z9,F_z3] 7 zn3
def zk7:S:=(.seq (.asg (.nm 2) (.call 0 "bound_here_alone" (.cons (.var 0) (.cons (.var 1) .nil))))
 (.seq (.ifS (.tv (.isN true (.var 2)))
 (.seq (.ret (.bin .Add (.var 2) (.tup (.cons (.bl true) .nil))))
 .nil)
 .nil)
 (.seq (.asg (.nm 2) (.call 0 "bound_here_alone" (.cons (.var 1) (.cons (.var 0) .nil))))
 (.seq (.ifS (.tv (.isN true (.var 2)))
 (.seq (.ret (.bin .Add (.var 2) (.tup (.cons (.bl false) .nil))))
 .nil)
 .nil)
 (.seq (.ret .non)
 .nil)))))
def zc5:Fn:=runD [] [zgd] 3 zk7
def znj:S:=(.seq (.asg (.nm 2) (.bin .Add (.bin .Add (.bin .Mod (.var 0) (.int 1000000007)) (.bin .Mult (.bin .Mult (.int 31) (.var 1)) (.var 1))) (.int 1)))
 (.seq (.ret (.bin .Mod (.bin .Mult (.bin .Mod (.bin .Mult (.var 2) (.var 2)) (.int 2147483629)) (.bin .Add (.var 1) (.int 7))) (.int 2147483647)))
 .nil))
def z22:Fn:=runD [] [] 3 znj
def zn2:S:=(.seq (.asg (.nm 2) (.str "bcdfghjklmnpqrstvwxyz"))
 (.seq (.asg (.nm 3) (.bin .Add (.int 1) (.bin .Mod (.var 0) (.int 12))))
 (.seq (.asg (.nm 4) (.bin .Mod (.bin .FloorDiv (.var 0) (.int 12)) (.var 3)))
 (.seq (.asg (.nm 5) (.lst .nil))
 (.seq (.for_ (.nm 6) (.rng (.cons (.var 1) .nil))
 (.seq (.asg (.nm 7) (.str ""))
 (.seq (.for_ (.nm 8) (.rng (.cons (.var 3) .nil))
 (.seq (.asg (.nm 9) (.bin .Add (.bin .Mult (.var 8) (.var 8)) (.bin .Mult (.bin .Mult (.int 4) (.var 6)) (.bi "int" (.cons (.cmp .Eq (.var 8) (.var 4)) .nil)))))
 (.seq (.asg (.nm 7) (.bin .Add (.var 7) (.ix (.var 2) (.bin .Mod (.bin .Add (.bin .FloorDiv (.var 0) (.int 144)) (.var 9)) (.int 21)))))
 .nil)))
 (.seq (.mut "append" 5 (.cons (.var 7) .nil))
 .nil))))
 (.seq (.ret (.agg "sorted" (.tv (.var 5))))
 .nil))))))
def z8l:Fn:=runD [] [] 10 zn2
def zhr:S:=(.seq (.asg (.nm 1) (.bin .Add (.int 1) (.bin .Mod (.bin .FloorDiv (.var 0) (.int 4)) (.ix (.lst (.cons (.int 1) (.cons (.int 7) (.cons (.bin .Pow (.int 10) (.int 15)) (.cons (.bin .Sub (.bin .Pow (.int 10) (.int 30)) (.int 9)) .nil))))) (.bin .Mod (.var 0) (.int 4))))))
 (.seq (.ifS (.tv (.cmp .Eq (.bin .Mod (.var 0) (.int 5)) (.int 1)))
 (.seq (.ret (.lst (.cons (.int 0) (.cons (.var 1) (.cons (.bin .Add (.var 1) (.int 1)) (.cons (.bin .Pow (.int 10) (.int 30)) .nil))))))
 .nil)
 .nil)
 (.seq (.ret (.lst (.cons (.int 0) (.cons (.var 1) (.cons (.bin .Add (.var 1) (.int 1)) (.cons (.bin .Add (.bin .Add (.var 1) (.int 2)) (.bin .Mod (.bin .FloorDiv (.var 0) (.int 20)) (.int 3))) .nil))))))
 .nil)))
def z8p:Fn:=runD [] [] 2 zhr
def zg2:S:=(.seq (.asg (.nm 3) (.lst .nil))
 (.seq (.for_ (.nm 4) (.rng (.cons (.var 1) .nil))
 (.seq (.mut "append" 3 (.cons (.bin .Mod (.var 0) (.var 2)) .nil))
 (.seq (.asg (.nm 0) (.bin .FloorDiv (.var 0) (.var 2)))
 .nil)))
 (.seq (.ret (.var 3))
 .nil)))
def z1p:Fn:=runD [] [] 5 zg2
def znl:S:=(.seq (.ret (.agg "tuple" (.tv (.comp 2 [] ["_law_word","_law_amount_here"] (.tp [0,1]) (.zip (.var 0) (.var 1)) (.tv (.cmp .Gt (.var 1) (.int 0))) (.tup (.cons (.var 0) (.cons (.var 1) .nil))))))) .nil)
def z3y:Fn:=runD [] [] 2 znl
def zh7:S:=(.seq (.asg (.nm 1) (.lst (.cons (.str "and") (.cons (.str "or") (.cons (.str "not") (.cons (.str "if") (.cons (.str "is") (.cons (.str "some") (.cons (.str "all") (.cons (.str "for") (.cons (.str "against") .nil)))))))))))
 (.seq (.asg (.nm 2) (.lst .nil))
 (.seq (.for_ (.nm 3) (.tv (.var 0))
 (.seq (.asg (.nm 4) (.call 0 "_law_digits" (.cons (.bin .FloorDiv (.var 3) (.int 12)) (.cons (.bin .Add (.int 1) (.bin .Mod (.var 3) (.int 12))) (.cons (.int 26) .nil)))))
 (.seq (.asg (.nm 5) (.mt "join" (.str "") (.cons (.comp 1 [] ["_law_digit"] (.nm 0) (.tv (.var 4)) .nil (.ix (.str "abcdefghijklmnopqrstuvwxyz") (.var 0))) .nil)))
 (.seq (.asg (.nm 6) (.int 1))
 (.seq (.wh 100000 (.tv (.cmp .In (.var 5) (.bin .Add (.var 2) (.var 1))))
 (.seq (.asg (.nm 5) (.bin .Mult (.str "q") (.var 6)))
 (.seq (.asg (.nm 6) (.bin .Add (.var 6) (.int 1)))
 .nil)))
 (.seq (.mut "append" 2 (.cons (.var 5) .nil))
 .nil))))))
 (.seq (.ret (.var 2))
 .nil))))
def z8y:Fn:=runD [] [z1p] 7 zh7
def zgv:S:=(.seq (.asg (.nm 3) (.call 3 "_law_mix" (.cons (.agg "sum" (.tv (.sl (.var 0) .nil (.tv (.int 63))))) (.cons (.int 5) .nil))))
 (.seq (.asg (.nm 4) (.ix (.bin .Add (.var 0) (.lst (.cons (.int 0) .nil))) (.int 0)))
 (.seq (.ifS (.tv (.cmp .Eq (.bin .Mod (.var 4) (.int 2)) (.int 0)))
 (.seq (.asg (.nm 5) (.call 2 "_law_rungs" (.cons (.bin .Add (.bin .Mult (.call 3 "_law_mix" (.cons (.agg "sum" (.tv (.sl (.var 0) .nil (.tv (.int 63))))) (.cons (.int 6) .nil))) (.bin .Pow (.int 10) (.int 21))) (.var 3)) .nil)))
 (.seq (.ret (.tup (.cons (.var 3) (.cons (.call 1 "_law_names" (.cons (.var 3) (.cons (.int 3) .nil))) (.cons (.var 5) (.cons (.sl (.var 0) .nil (.tv (.var 1))) (.cons (.var 0) .nil)))))))
 .nil))
 .nil)
 (.seq (.asg (.nm 6) (.agg "sorted" (.tv (.call 0 "_law_free_names" (.cons (.sl (.bin .Add (.var 0) (.rep (.cons (.int 0) .nil) (.int 9))) (.tv (.int 1)) (.tv (.bin .Add (.int 2) (.bin .Mod (.bin .FloorDiv (.var 4) (.int 2)) (.var 2))))) .nil)))))
 (.seq (.asg (.nm 7) (.ix (.lst (.cons (.int 1) (.cons (.int 2) (.cons (.int 4) (.cons (.int 30) (.cons (.bin .Pow (.int 10) (.int 30)) .nil)))))) (.bin .Mod (.bin .FloorDiv (.var 4) (.bin .Mult (.int 2) (.var 2))) (.int 5))))
 (.seq (.ret (.tup (.cons (.var 3) (.cons (.var 6) (.cons (.lst (.cons (.var 7) .nil)) (.cons (.sl (.var 0) (.tv (.int 8)) (.tv (.bin .Add (.int 8) (.var 1)))) (.cons (.sl (.var 0) (.tv (.bin .Add (.int 8) (.var 1))) (.tv (.int 63))) .nil)))))))
 .nil))))))
def zb7:Fn:=runD [] [z8y,z8l,z8p,z22] 8 zgv
def zh0:S:=(.seq (.ifS (.tv (.cmp .Eq (.bi "len" (.cons (.var 2) .nil)) (.int 1)))
 (.seq (.ret (.call 0 "_law_packed" (.cons (.var 1) (.cons (.call 1 "_law_digits" (.cons (.var 0) (.cons (.bi "len" (.cons (.var 1) .nil)) (.cons (.bin .Add (.ix (.var 2) (.int 0)) (.int 1)) .nil)))) .nil))))
 .nil)
 .nil)
 (.seq (.ret (.call 0 "_law_packed" (.cons (.var 1) (.cons (.comp 1 [2] ["_law_digit","_law_rungs_here"] (.nm 0) (.tv (.call 1 "_law_digits" (.cons (.var 0) (.cons (.bi "len" (.cons (.var 1) .nil)) (.cons (.int 4) .nil))))) .nil (.ix (.var 1) (.var 0))) .nil))))
 .nil))
def z8w:Fn:=runD [] [z3y,z1p] 3 zh0
def zgg:S:=(.seq (.ifS (.tv (.cmp .Eq (.bi "len" (.cons (.var 2) .nil)) (.int 1)))
 (.seq (.asg (.nm 3) (.call 3 "_law_digits" (.cons (.var 0) (.cons (.bin .Mult (.int 2) (.bi "len" (.cons (.var 1) .nil))) (.cons (.bin .Add (.ix (.var 2) (.int 0)) (.int 1)) .nil)))))
 (.seq (.ret (.tup (.cons (.call 2 "_law_packed" (.cons (.var 1) (.cons (.var 3) .nil))) (.cons (.call 2 "_law_packed" (.cons (.var 1) (.cons (.sl (.var 3) (.tv (.bi "len" (.cons (.var 1) .nil))) .nil) .nil))) .nil))))
 .nil))
 .nil)
 (.seq (.ret (.tup (.cons (.call 0 "_law_pack_by" (.cons (.call 1 "_law_mix" (.cons (.var 0) (.cons (.int 1) .nil))) (.cons (.var 1) (.cons (.var 2) .nil)))) (.cons (.call 0 "_law_pack_by" (.cons (.call 1 "_law_mix" (.cons (.var 0) (.cons (.int 2) .nil))) (.cons (.var 1) (.cons (.var 2) .nil)))) .nil))))
 .nil))
def zaw:Fn:=runD [] [z8w,z22,z3y,z1p] 4 zgg
def zhu:S:=(.seq (.asg (.nm 3) (.int 4))
 (.seq (.ifS (.tv (.cmp .Eq (.bi "len" (.cons (.var 2) .nil)) (.int 1)))
 (.seq (.asg (.nm 3) (.bin .Add (.ix (.var 2) (.int 0)) (.int 1)))
 .nil)
 .nil)
 (.seq (.asg (.nm 4) (.lst .nil))
 (.seq (.for_ (.tp [5,6]) (.zip (.var 0) (.call 0 "_law_digits" (.cons (.var 1) (.cons (.bi "len" (.cons (.var 0) .nil)) (.cons (.var 3) .nil)))))
 (.seq (.asg (.nm 7) (.var 6))
 (.seq (.ifS (.tv (.cmp .Gt (.bi "len" (.cons (.var 2) .nil)) (.int 1)))
 (.seq (.asg (.nm 7) (.ix (.var 2) (.var 6)))
 .nil)
 .nil)
 (.seq (.ifS (.tv (.cmp .Gt (.bi "min" (.cons (.ix (.var 5) (.int 1)) (.cons (.var 7) .nil))) (.int 0)))
 (.seq (.mut "append" 4 (.cons (.tup (.cons (.ix (.var 5) (.int 0)) (.cons (.bi "min" (.cons (.ix (.var 5) (.int 1)) (.cons (.var 7) .nil))) .nil))) .nil))
 .nil)
 .nil)
 .nil))))
 (.seq (.ret (.agg "tuple" (.tv (.var 4))))
 .nil)))))
def z6c:Fn:=runD [] [z1p] 8 zhu
def zk3:S:=(.seq (.asg (.nm 3) (.bi "len" (.cons (.var 1) .nil)))
 (.seq (.asg (.nm 4) (.call 1 "_law_digits" (.cons (.bin .FloorDiv (.var 0) (.int 2)) (.cons (.bin .Mult (.int 3) (.var 3)) (.cons (.var 2) .nil)))))
 (.seq (.asg (.nm 5) (.sl (.var 4) (.tv (.bin .Mult (.bin .Mod (.var 0) (.int 2)) (.var 3))) .nil))
 (.seq (.asg (.nm 6) (.comp 1 [] ["_law_pair"] (.nm 0) (.zip (.var 5) (.sl (.var 4) (.tv (.bin .Mult (.int 2) (.var 3))) .nil)) .nil (.bi "min" (.cons (.var 0) .nil))))
 (.seq (.asg (.nm 7) (.tup (.cons (.call 0 "_law_packed" (.cons (.var 1) (.cons (.var 4) .nil))) (.cons (.call 0 "_law_packed" (.cons (.var 1) (.cons (.sl (.var 4) (.tv (.var 3)) .nil) .nil))) .nil))))
 (.seq (.ret (.tup (.cons (.var 7) (.cons (.ix (.lst (.cons (.str "for") (.cons (.str "against") .nil))) (.bin .Mod (.var 0) (.int 2))) (.cons (.call 0 "_law_packed" (.cons (.var 1) (.cons (.var 6) .nil))) .nil)))))
 .nil))))))
def zbm:Fn:=runD [] [z3y,z1p] 8 zk3
def zh1:S:=(.seq (.ifS (.tv (.cmp .Eq (.bi "len" (.cons (.var 2) .nil)) (.int 1)))
 (.seq (.ret (.call 3 "_law_free_ruling" (.cons (.var 0) (.cons (.var 1) (.cons (.bin .Add (.ix (.var 2) (.int 0)) (.int 1)) .nil)))))
 .nil)
 .nil)
 (.seq (.asg (.nm 3) (.call 2 "_law_case_by" (.cons (.var 0) (.cons (.var 1) (.cons (.var 2) .nil)))))
 (.seq (.asg (.nm 4) (.call 1 "_law_mix" (.cons (.var 0) (.cons (.int 3) .nil))))
 (.seq (.asg (.nm 5) (.ix (.var 3) (.bin .Mod (.var 4) (.int 2))))
 (.seq (.ifS (.tv (.cmp .Gt (.bin .Mod (.bin .FloorDiv (.var 4) (.int 2)) (.int 4)) (.int 0)))
 (.seq (.asg (.nm 5) (.call 0 "_law_less" (.cons (.var 5) (.cons (.call 1 "_law_mix" (.cons (.var 0) (.cons (.int 4) .nil))) (.cons (.var 2) .nil)))))
 .nil)
 .nil)
 (.seq (.ret (.tup (.cons (.var 3) (.cons (.ix (.lst (.cons (.str "for") (.cons (.str "against") .nil))) (.bin .Mod (.var 4) (.int 2))) (.cons (.var 5) .nil)))))
 .nil))))))
def zb4:Fn:=runD [] [z6c,z22,zaw,zbm] 6 zh1
def zl1:S:=(.seq (.for_ (.tp [2,3]) (.tv (.var 0))
 (.seq (.ifS (.tv (.cmp .Eq (.var 2) (.var 1)))
 (.seq (.ret (.var 3))
 .nil)
 .nil)
 .nil))
 (.seq (.ret (.int 0))
 .nil))
def zcw:Fn:=runD [] [] 4 zl1
def zmy:S:=(.seq (.for_ (.tp [2,3]) (.tv (.var 0))
 (.seq (.ifS (.tv (.cmp .Gt (.var 3) (.call 0 "_law_amount" (.cons (.var 1) (.cons (.var 2) .nil)))))
 (.seq (.ret (.bl false))
 .nil)
 .nil)
 .nil))
 (.seq (.ret (.bl true))
 .nil))
def z6r:Fn:=runD [] [zcw] 4 zmy
def zrp:S:=(.seq (.ret (.bi "int" (.cons (.cmp .Eq (.var 0) (.str "against")) .nil))) .nil)
def z5x:Fn:=runD [] [] 1 zrp
def zl3:S:=(.seq (.ifS (.tv (.cmp .Eq (.ix (.var 0) (.int 1)) (.ix (.var 1) (.int 1))))
 (.seq (.ret (.bl false))
 .nil)
 .nil)
 (.seq (.ret (.and (.call 0 "_law_fits" (.cons (.ix (.var 0) (.int 2)) (.cons (.ix (.ix (.var 1) (.int 0)) (.call 1 "_law_at" (.cons (.ix (.var 0) (.int 1)) .nil))) .nil))) (.call 0 "_law_fits" (.cons (.ix (.var 1) (.int 2)) (.cons (.ix (.ix (.var 0) (.int 0)) (.call 1 "_law_at" (.cons (.ix (.var 1) (.int 1)) .nil))) .nil)))))
 .nil))
def z8e:Fn:=runD [] [z6r,z5x] 2 zl3
def zkj:S:=(.seq (.asg (.nm 2) (.call 1 "_law_at" (.cons (.ix (.var 0) (.int 1)) .nil)))
 (.seq (.ret (.and (.call 0 "_law_fits" (.cons (.ix (.var 0) (.int 2)) (.cons (.ix (.var 1) (.var 2)) .nil))) (.call 0 "_law_fits" (.cons (.ix (.var 1) (.bin .Sub (.int 1) (.var 2))) (.cons (.ix (.ix (.var 0) (.int 0)) (.bin .Sub (.int 1) (.var 2))) .nil)))))
 .nil))
def ze8:Fn:=runD [] [z6r,z5x] 3 zkj
def zm2:S:=(.seq (.ret (.ix (.ix (.var 0) (.int 0)) (.bin .Sub (.int 1) (.call 0 "_law_at" (.cons (.ix (.var 0) (.int 1)) .nil))))) .nil)
def z8d:Fn:=runD [] [z5x] 1 zm2
def zlc:S:=(.seq (.ifS (.tv (.cmp .NotEq (.ix (.var 0) (.int 1)) (.ix (.var 1) (.int 1))))
 (.seq (.ret (.bl false))
 .nil)
 .nil)
 (.seq (.ret (.and (.call 0 "_law_fits" (.cons (.ix (.var 0) (.int 2)) (.cons (.ix (.var 1) (.int 2)) .nil))) (.call 0 "_law_fits" (.cons (.call 1 "_law_facing" (.cons (.var 1) .nil)) (.cons (.call 1 "_law_facing" (.cons (.var 0) .nil)) .nil)))))
 .nil))
def zd2:Fn:=runD [] [z6r,z8d] 2 zlc
def zhv:S:=(.seq (.asg (.nm 4) (.bin .Mod (.call 1 "_law_mix" (.cons (.var 1) (.cons (.int 11) .nil))) (.int 6)))
 (.seq (.asg (.nm 5) (.call 3 "_law_at" (.cons (.ix (.var 0) (.int 1)) .nil)))
 (.seq (.asg (.nm 6) (.lst (.cons (.ix (.ix (.var 0) (.int 0)) (.int 0)) (.cons (.ix (.ix (.var 0) (.int 0)) (.int 1)) .nil))))
 (.seq (.ifS (.tv (.cmp .Eq (.var 4) (.int 0)))
 (.seq (.ret (.var 0))
 .nil)
 .nil)
 (.seq (.ifS (.tv (.cmp .Eq (.var 4) (.int 1)))
 (.seq (.setIx 6 (.var 5) (.call 2 "_law_pack_by" (.cons (.call 1 "_law_mix" (.cons (.var 1) (.cons (.int 12) .nil))) (.cons (.var 2) (.cons (.var 3) .nil)))))
 (.seq (.asg (.nm 7) (.call 0 "_law_less" (.cons (.ix (.var 6) (.var 5)) (.cons (.call 1 "_law_mix" (.cons (.var 1) (.cons (.int 13) .nil))) (.cons (.var 3) .nil)))))
 (.seq (.ret (.tup (.cons (.tup (.cons (.ix (.var 6) (.int 0)) (.cons (.ix (.var 6) (.int 1)) .nil))) (.cons (.ix (.var 0) (.int 1)) (.cons (.var 7) .nil)))))
 .nil)))
 .nil)
 (.seq (.ifS (.tv (.cmp .Eq (.var 4) (.int 2)))
 (.seq (.setIx 6 (.bin .Sub (.int 1) (.var 5)) (.call 0 "_law_less" (.cons (.ix (.var 6) (.bin .Sub (.int 1) (.var 5))) (.cons (.call 1 "_law_mix" (.cons (.var 1) (.cons (.int 12) .nil))) (.cons (.var 3) .nil)))))
 (.seq (.ret (.tup (.cons (.tup (.cons (.ix (.var 6) (.int 0)) (.cons (.ix (.var 6) (.int 1)) .nil))) (.cons (.ix (.var 0) (.int 1)) (.cons (.ix (.var 0) (.int 2)) .nil)))))
 .nil))
 .nil)
 (.seq (.ifS (.tv (.cmp .Eq (.var 4) (.int 3)))
 (.seq (.ret (.tup (.cons (.ix (.var 0) (.int 0)) (.cons (.ix (.var 0) (.int 1)) (.cons (.call 0 "_law_less" (.cons (.ix (.var 0) (.int 2)) (.cons (.call 1 "_law_mix" (.cons (.var 1) (.cons (.int 12) .nil))) (.cons (.var 3) .nil)))) .nil)))))
 .nil)
 .nil)
 (.seq (.ifS (.tv (.cmp .Eq (.var 4) (.int 4)))
 (.seq (.ret (.tup (.cons (.ix (.var 0) (.int 0)) (.cons (.ix (.var 0) (.int 1)) (.cons (.ix (.var 6) (.var 5)) .nil)))))
 .nil)
 .nil)
 (.seq (.setIx 6 (.var 5) (.ix (.var 0) (.int 2)))
 (.seq (.ret (.tup (.cons (.tup (.cons (.ix (.var 6) (.int 0)) (.cons (.ix (.var 6) (.int 1)) .nil))) (.cons (.ix (.var 0) (.int 1)) (.cons (.ix (.var 0) (.int 2)) .nil)))))
 .nil))))))))))
def zgb:Fn:=runD [] [z6c,z22,z8w,z5x] 8 zhv
def zgy:S:=(.seq (.asg (.nm 3) (.lst .nil))
 (.seq (.for_ (.nm 4) (.tv (.var 0))
 (.seq (.asg (.nm 5) (.call 3 "_law_ruling_by" (.cons (.var 4) (.cons (.var 1) (.cons (.var 2) .nil)))))
 (.seq (.ifS (.and (.tv (.cmp .NotEq (.var 3) (.lst .nil))) (.and (.tv (.cmp .Gt (.bi "len" (.cons (.var 2) .nil)) (.int 1))) (.tv (.cmp .Gt (.bin .Mod (.call 1 "_law_mix" (.cons (.var 4) (.cons (.int 14) .nil))) (.int 3)) (.int 0)))))
 (.seq (.asg (.nm 5) (.call 2 "_law_twin" (.cons (.ix (.var 3) (.bin .Mod (.call 1 "_law_mix" (.cons (.var 4) (.cons (.int 15) .nil))) (.bi "len" (.cons (.var 3) .nil)))) (.cons (.var 4) (.cons (.var 1) (.cons (.var 2) .nil))))))
 .nil)
 .nil)
 (.seq (.ifS (.tv (.cmp .Eq (.comp 1 [5] ["_law_two","_law_one"] (.nm 0) (.tv (.var 3)) (.tv (.call 0 "_law_clash" (.cons (.var 1) (.cons (.var 0) .nil)))) (.var 0)) (.lst .nil)))
 (.seq (.mut "append" 3 (.cons (.var 5) .nil))
 .nil)
 .nil)
 .nil))))
 (.seq (.ret (.var 3))
 .nil)))
def zh9:Fn:=runD [] [z8e,z22,zgb,zb4] 6 zgy
def zn6:S:=(.seq (.asg (.nm 1) (.lst .nil))
 (.seq (.for_ (.nm 2) (.tv (.var 0))
 (.seq (.asg (.nm 3) (.tup (.cons (.ix (.var 2) (.int 1)) (.cons (.ix (.var 2) (.int 2)) (.cons (.call 1 "_law_facing" (.cons (.var 2) .nil)) .nil)))))
 (.seq (.asg (.nm 4) (.comp 1 [2] ["_law_two","_law_one"] (.nm 0) (.tv (.var 0)) (.and (.tv (.call 0 "_law_covers_by" (.cons (.var 0) (.cons (.var 1) .nil)))) (.not (.tv (.call 0 "_law_covers_by" (.cons (.var 1) (.cons (.var 0) .nil)))))) (.var 0)))
 (.seq (.ifS (.and (.tv (.cmp .Eq (.var 4) (.lst .nil))) (.tv (.cmp .NotIn (.var 3) (.var 1))))
 (.seq (.mut "append" 1 (.cons (.var 3) .nil))
 .nil)
 .nil)
 .nil))))
 (.seq (.ret (.agg "sorted" (.tv (.var 1))))
 .nil)))
def zes:Fn:=runD [] [zd2,z8d] 5 zn6
def zg3:S:=(.seq (.asg (.nm 3) (.rv (.var 0)))
 (.seq (.asg (.nm 4) (.bin .Mod (.var 1) (.int 5)))
 (.seq (.ifS (.or (.tv (.cmp .Eq (.var 4) (.int 0))) (.tv (.cmp .Eq (.var 3) (.lst .nil))))
 (.seq (.ret (.bin .Add (.var 3) (.sl (.var 3) .nil (.tv (.int 3)))))
 .nil)
 .nil)
 (.seq (.ifS (.tv (.cmp .Eq (.var 4) (.int 1)))
 (.seq (.ret (.sl (.var 3) (.tv (.int 1)) .nil))
 .nil)
 .nil)
 (.seq (.ifS (.tv (.cmp .Eq (.var 4) (.int 2)))
 (.seq (.asg (.nm 5) (.bin .Mod (.bin .FloorDiv (.var 1) (.int 5)) (.bi "len" (.cons (.var 3) .nil))))
 (.seq (.ret (.bin .Add (.sl (.var 3) .nil (.tv (.var 5))) (.sl (.var 3) (.tv (.bin .Add (.var 5) (.int 1))) .nil)))
 .nil))
 .nil)
 (.seq (.ifS (.and (.tv (.cmp .Eq (.var 4) (.int 3))) (.tv (.cmp .Eq (.comp 1 [2] ["_law_two","_law_more"] (.nm 0) (.tv (.var 3)) (.tv (.call 0 "_law_clash" (.cons (.var 1) (.cons (.var 0) .nil)))) (.var 0)) (.lst .nil))))
 (.seq (.ret (.bin .Add (.var 3) (.lst (.cons (.var 2) .nil))))
 .nil)
 .nil)
 (.seq (.ret (.bin .Add (.sl (.var 3) .nil (.tv (.int 1))) (.var 3)))
 .nil)))))))
def zi1:Fn:=runD [] [z8e] 6 zg3
def zl6:S:=(.seq (.ret (.cmp .NotEq (.comp 1 [2,1] ["_law_one","_law_side","_law_case"] (.nm 0) (.tv (.var 0)) (.and (.tv (.cmp .Eq (.ix (.var 0) (.int 1)) (.var 1))) (.tv (.call 0 "_law_binds_by" (.cons (.var 0) (.cons (.var 2) .nil))))) (.var 0)) (.lst .nil))) .nil)
def z8v:Fn:=runD [] [ze8] 3 zl6
def zjz:S:=(.seq (.ifS (.or (.not (.tv (.isT (.var 0) ["tuple"]))) (.or (.tv (.cmp .NotEq (.bi "len" (.cons (.var 0) .nil)) (.int 3))) (.not (.tv (.isT (.ix (.var 0) (.int 2)) ["bool"])))))
 (.seq (.ret (.bl false))
 .nil)
 .nil)
 (.seq (.ifS (.tv (.cmp .NotIn (.ix (.var 0) (.int 1)) (.lst (.cons (.str "for") (.cons (.str "against") .nil)))))
 (.seq (.ret (.bl false))
 .nil)
 .nil)
 (.seq (.asg (.nm 3) (.call 0 "_law_bound" (.cons (.var 1) (.cons (.ix (.var 0) (.int 0)) (.cons (.ix (.var 0) (.int 1)) .nil)))))
 (.seq (.asg (.nm 4) (.call 0 "_law_bound" (.cons (.var 2) (.cons (.ix (.var 0) (.int 0)) (.cons (.ix (.var 0) (.int 1)) .nil)))))
 (.seq (.ret (.and (.cmp .Eq (.var 3) (.ix (.var 0) (.int 2))) (.cmp .NotEq (.var 4) (.ix (.var 0) (.int 2)))))
 .nil)))))
def zd4:Fn:=runD [] [z8v] 5 zjz
def zfi:S:=(.seq (.asg (.tp [1,2,3,4,5]) (.call 8 "_law_begun" (.cons (.var 0) (.cons (.int 16) (.cons (.int 6) .nil)))))
 (.seq (.ifS (.and (.tv (.cmp .Gt (.bi "len" (.cons (.var 3) .nil)) (.int 1))) (.and (.tv (.cmp .Eq (.bin .Mod (.bin .FloorDiv (.var 1) (.int 3)) (.int 2)) (.int 0))) (.tv (.cmp .Lt (.bi "len" (.cons (.ix (.var 2) (.int 1)) .nil)) (.int 12)))))
 (.seq (.asg (.nm 2) (.agg "sorted" (.tv (.lst (.cons (.ix (.var 2) (.int 0)) (.cons (.bin .Add (.ix (.var 2) (.int 1)) (.str "m")) (.cons (.ix (.var 2) (.int 2)) .nil)))))))
 .nil)
 .nil)
 (.seq (.asg (.nm 6) (.call 4 "_law_book_by" (.cons (.var 4) (.cons (.var 2) (.cons (.var 3) .nil)))))
 (.seq (.asg (.nm 7) (.call 7 "_law_ruling_by" (.cons (.ix (.lst (.cons (.call 6 "_law_mix" (.cons (.var 1) (.cons (.int 19) .nil))) (.cons (.ix (.bin .Add (.var 5) (.lst (.cons (.var 1) .nil))) (.int 0)) .nil))) (.bi "int" (.cons (.cmp .Eq (.bi "len" (.cons (.var 3) .nil)) (.int 1)) .nil))) (.cons (.var 2) (.cons (.var 3) .nil)))))
 (.seq (.asg (.nm 8) (.call 5 "_law_changed" (.cons (.var 6) (.cons (.call 6 "_law_mix" (.cons (.var 1) (.cons (.int 20) .nil))) (.cons (.var 7) .nil)))))
 (.seq (.ifS (.and (.tv (.cmp .Eq (.bi "len" (.cons (.var 3) .nil)) (.int 1))) (.tv (.cmp .Eq (.bin .Mod (.bin .FloorDiv (.var 1) (.int 7)) (.int 2)) (.int 1))))
 (.seq (.asg (.nm 8) (.call 4 "_law_book_by" (.cons (.sl (.var 5) .nil (.tv (.int 16))) (.cons (.var 2) (.cons (.var 3) .nil)))))
 .nil)
 .nil)
 (.seq (.asg (.nm 9) (.lst (.cons (.agg "list" (.tv (.var 6))) (.cons (.agg "list" (.tv (.var 8))) .nil))))
 (.seq (.asg (.nm 10) (.lst (.cons (.call 3 "_law_marrow" (.cons (.var 6) .nil)) (.cons (.call 3 "_law_marrow" (.cons (.var 8) .nil)) .nil))))
 (.seq (.stl (.asg (.nm 11) (.lst (.cons (.call 0 "marrow" (.cons (.ix (.var 9) (.int 0)) .nil)) (.cons (.call 0 "marrow" (.cons (.ix (.var 9) (.int 1)) .nil)) .nil)))))
 (.seq (.ifS (.or (.not (.tv (.isT (.ix (.var 11) (.int 0)) ["list"]))) (.tv (.cmp .NotEq (.var 11) (.var 10))))
 (.seq (.ret (.bl false))
 .nil)
 .nil)
 (.seq (.for_ (.tp [12,13]) (.tv (.lst (.cons (.tup (.cons (.int 0) (.cons (.int 1) .nil))) (.cons (.tup (.cons (.int 1) (.cons (.int 0) .nil))) (.cons (.tup (.cons (.int 0) (.cons (.int 0) .nil))) .nil)))))
 (.seq (.asg (.nm 14) (.call 2 "parted" (.cons (.ix (.var 9) (.var 12)) (.cons (.ix (.var 9) (.var 13)) .nil))))
 (.seq (.ifS (.tv (.cmp .Eq (.ix (.var 10) (.var 12)) (.ix (.var 10) (.var 13))))
 (.seq (.ifS (.tv (.isN true (.var 14)))
 (.seq (.ret (.bl false))
 .nil)
 .nil)
 .nil)
 (.seq (.ifS (.not (.tv (.call 1 "_law_parts_well" (.cons (.var 14) (.cons (.ix (.lst (.cons (.var 6) (.cons (.var 8) .nil))) (.var 12)) (.cons (.ix (.lst (.cons (.var 6) (.cons (.var 8) .nil))) (.var 13)) .nil))))))
 (.seq (.ret (.bl false))
 .nil)
 .nil)
 .nil))
 .nil)))
 (.dap (.ix (.var 11) (.int 0)) .non
 (.seq (.ret (.and (.cmp .Eq (.call 0 "marrow" (.cons (.ix (.var 9) (.int 0)) .nil)) (.ix (.var 10) (.int 0))) (.cmp .Eq (.var 9) (.lst (.cons (.var 6) (.cons (.var 8) .nil))))))
 .nil)))))))))))))
def zcl:Fn:=runD [] [z6f,zd4,zc5,zes,zh9,zi1,z22,zb4,zb7] 15 zfi
def zt2 (acc:P)(l:P):P:=l.foldl (fun a p=>put a p.1 (max p.2 (look a p.1))) acc
def gr (l:P):P:=(srt (zt2 [] l)).filter fun p=>decide (0<p.2)
def up (l:P):P:=(srt l).filter fun p=>decide (0<p.2)
theorem e_z4 {a b:P}(hb:PK b):F_z4 [pk a,pk b]=.ok (.fr,.list ((a.filter fun p=>decide (look b p.1<p.2)).map fun p=>.str p.1)):=by unfold F_z4;refine z0j ?_;unfold S_z4;refine z0b (zrf (z7g (z01 rfl) rfl (zgf _ hb.nd) (z90 b)) (znh b)) ?_;exact z09 (z27 (fun i z=>by cases z) (z2g (m:=pr) (xs:=a) (fun p=>decide (look b p.1<p.2)) (fun p=>.str p.1) (w_tv (v_var rfl (z08 a)).1 rfl) rfl (fun p=>[some (.al,.str p.1),some (.al,.int p.2),some (.al,.dict (en b))]) (fun p _=>rfl) (fun p _=>t_tv (z0q (z01 rfl) (v_mt (z01 rfl) (z00 (z01 rfl) (z00 z04.e z03)) (zgc _ _) rfl).e rfl).e rfl) (fun p _ _=>v_var rfl rfl)))
def mt (a b:P):P:=(a.filter fun p=>decide (p.1∈ks b)).map fun p=>(p.1,min p.2 (look b p.1))
theorem eq_nil (xs:List D)(h:z0m 39 xs=true):cmpD .Eq (.list xs) (.list [])=.ok xs.isEmpty:=by show(if(shal 40 (.list xs)&&shal 40 (.list []))=true then Res.ok (eqD (.list xs) (.list []))else .no)=_;rw[if_pos (by show(z0m 39 xs&&true)=true;rw[h];rfl)];cases xs<;>simp[eqD,PyData.eqv,PyData.eqvAll]
theorem zem (l:P):z0m 39 (l.map fun p=>PyData.str p.1)=true:=z0s.mpr fun x hx=>by obtain⟨p,_,rfl⟩:=bt.mp hx;rfl
def wi (a b:P):Bool:=(a.filter fun p=>decide (look b p.1<p.2)).isEmpty
theorem e_z5 {a b:P}(hb:PK b):F_z5 [pk a,pk b]=.ok (.fr,.bool (wi a b)):=by unfold F_z5;refine z0j ?_;unfold S_z5;refine z09 (z0f (z0q (z3w (z00 (z01 rfl) (z00 (z01 rfl) z03)) rfl (e_z4 hb)) (Ev.of (z1b z0a)) ?_));rw[eq_nil _ (zem _)];unfold wi;rw[jo]
theorem z71:∀(xs:List Int),sumD (xs.map .int)=some xs.sum
 | []=>rfl
 |x::xs=>by rw[a9,sumD,z71 xs,sv];rfl
theorem z5o {a b:P}(ha:PK a)(hb:PK b):wi a b=true↔∀n,look a n<=look b n:=by
 unfold wi;rw[ko,ig];constructor
 ·intro h n;by_cases hn:n∈ks a
  ·obtain⟨v,e⟩:=zib hn;have:=h _ (z34 e);have e2:look a n=v:=by unfold look;rw[e];rfl
   simp only[decide_eq_true_eq]at this;rw[e2];omega
  ·have :look a n=0:=by unfold look;rw[z35 hn];rfl
   rw[this];exact hb.look_nn n
 ·intro h p hp;have:=h p.1;rw[ha.look_mem hp]at this;simp only[decide_eq_true_eq];omega
def sd (b:Bool):Str:=if b then "for"else "against"
def own (b:Bool)(f a:P):P:=if b then f else a
def opp (b:Bool)(f a:P):P:=if b then a else f
def cs2 (f a:P):D:=.tuple [pk f,pk a]
def rl (b:Bool)(f a r:P):D:=.tuple [cs2 f a,.str (sd b),pk r]
theorem z1w (f a:P):imm (cs2 f a)=true:=by show imms [pk f,pk a]=true;rw[imms,imms,imms,z08,z08];rfl
theorem zsa (b:Bool)(f a r:P):imm (rl b f a r)=true:=by show imms [cs2 f a,.str (sd b),pk r]=true;rw[imms,imms,imms,imms,z1w,z08];rfl
theorem zli (b:Bool):F_z0 [.str (sd b)]=.ok (.fr,.none):=by cases b<;>rfl
theorem zf6 (b:Bool):F_z1 [.str (sd b)]=.ok (.fr,.str (sd (!b))):=by cases b<;>rfl
theorem zkc {Κ:List D}{Φ:List Fn}{ρ:Rho}{t:C}{d:D}(h:Ev Κ Φ t ρ d):evS Κ Φ (.drop t) ρ=.ok (.nx ρ):=by obtain⟨g,h⟩:=h;show(evE Κ Φ t ρ>>=fun _=>Res.ok (Out.nx ρ))=_;rw[h];rfl
theorem zd6 (b:Bool)(f a:P):F_z2 [cs2 f a,.str (sd b)]=.ok (.fr,pk (own b f a)):=by
 unfold F_z2;refine z0j ?_;unfold S_z2;refine z0b (zkc (z3w (z00 (z01 rfl) z03) rfl (zli b))) ?_;cases b with
 |true=>exact z09 (z0f (d:=pk f) (zn8 (k:=true) (t_tv (z0q (z01 rfl) z1r.e rfl).e rfl) (fun _=>v_ix (z01 rfl) z04.e rfl (z08 f)) (y:=pk f) fun z=>by cases z))
 |false=>exact z09 (z0f (d:=pk a) (zn8 (k:=false) (t_tv (z0q (z01 rfl) z1r.e rfl).e rfl) (x:=pk a) (fun z=>by cases z) fun _=>v_ix (z01 rfl) z04.e rfl (z08 a)))
theorem z2m (b:Bool)(f a:P):own (!b) f a=opp b f a:=by cases b<;>rfl
theorem z7u (b:Bool)(f a r:P):F_z6 [rl b f a r]=.ok (.fr,pk (opp b f a)):=by unfold F_z6;refine z0j ?_;unfold S_z6;rw[<-z2m];exact z09 (z0f (z07 (z00 (v_ix (d:=cs2 f a) (z01 rfl) z04.e rfl (z1w f a)).e (z00 (z3w (z00 (v_ix (d:=.str (sd b)) (z01 rfl) z04.e rfl rfl).e z03) rfl (zf6 b)) z03)) rfl (zd6 (!b) f a) (z08 _)))
def ov (a b:P):List Str:=(a.filter fun p=>decide (look b p.1<p.2)).map (·.1)
theorem zkn (a b:P):((a.filter fun p=>decide (look b p.1<p.2)).map fun p=>PyData.str p.1)=(ov a b).map .str:=by unfold ov;rw[jc];rfl
theorem zic (a b:P):(ov a b).isEmpty=wi a b:=by unfold ov wi;rw[jo]
def mk2 (x:Str)(n:Str):D:=.tuple [.str x,.str n]
theorem e_z7 {b:Bool}{f a r f' a':P}(hf:PK f)(ha:PK a)(hf':PK f')(ha':PK a')(hr:r.length<=60)(l1:f'.length<=60)(l2:a'.length<=60):F_z7 [rl b f a r,cs2 f' a']=.ok (.fr,.list ((ov r (own b f' a')).map (mk2 "less")++(ov (opp b f' a') (opp b f a)).map (mk2 "more"))):=by
 unfold F_z7;refine z0j ?_;unfold S_z7;have ho:PK (own b f' a'):=by cases b<;>assumption
 have hp:PK (opp b f a):=by cases b<;>assumption
 have lo:(opp b f' a').length<=60:=by cases b<;>assumption
 have e1:=e_z4 (a:=r) ho;have e2:=e_z4 (a:=opp b f' a') hp;rw[zkn]at e1 e2;refine z0b (z0g (v_ix (d:=.str (sd b)) (z01 rfl) z04.e rfl rfl)) ?_;refine z0b (z0z (z16 (z00 (v_ix (d:=pk r) (z01 rfl) z04.e rfl (z08 r)).e (z00 (z3w (z00 (z01 rfl) (z00 (z01 rfl) z03)) rfl (zd6 b f' a')) z03)) rfl e1) (z18 _)) ?_;refine z0b (z0z (z16 (z00 (z3w (z00 (z01 rfl) (z00 (z3w (z00 (z01 rfl) z03) rfl (zf6 b)) z03)) rfl (by rw[zd6,z2m])) (z00 (z3w (z00 (z01 rfl) z03) rfl (z7u b f a r)) z03)) rfl e2) (z18 _)) ?_;have cp:∀(ρ:Rho) (i:Nat) (x:Str) (ns:List Str),ρ[i]?=some (some (.fr,.list (ns.map .str)))->evE [] [F_z4,F_z6,F_z2,F_z1] (.comp 1 [] ["name"] (.nm 0) (.tv (.var i)) .nil (.tup (.cons (.str x) (.cons (.var 0) .nil)))) ρ=.ok (.fr,.list (ns.map (mk2 x))):=fun ρ i x ns hi=>by have:=z2g (Κ:=[]) (Φ:=[F_z4,F_z6,F_z2,F_z1]) (ρ:=ρ) (nt:=1) (js:=[]) (N':=["name"]) (tg:=.nm 0) (it:=.tv (.var i)) (cond:=.nil) (elt:=.tup (.cons (.str x) (.cons (.var 0) .nil))) (m:=PyData.str) (xs:=ns) (w:=(.al,ns.map .str)) (fun _=>true) (mk2 x) (w_tv (g:=.al) (x:=.list (ns.map .str)) (by rw[z8j];rw[hi];rfl) rfl) rfl (fun n=>[some (.al,.str n)]) (fun n _=>rfl) (fun n _=>zd8) (fun n _ _=>z0x (z02 z1r (z02 (v_var rfl rfl) z0a)));rw[jk.mpr fun _ _=>rfl]at this;exact this
 have len1:(ov r (own b f' a')).length<=60:=by unfold ov;rw[af];exact bx (l7 _ _) hr
 have len2:(ov (opp b f' a') (opp b f a)).length<=60:=by unfold ov;rw[af];exact bx (l7 _ _) lo
 refine z09 (z27 (fun i z=>by cases z) (z60 (Ev.of (cp _ 3 "less" (ov r (own b f' a')) rfl)) (Ev.of (cp _ 4 "more" (ov (opp b f' a') (opp b f a)) rfl)) (add_list (by rw[af,af];omega)) (z1a.mpr fun z hz=>?_)));rcases(b9.mp hz)with hz|hz
 ·obtain⟨n,_,rfl⟩:=bt.mp hz;rfl
 ·obtain⟨n,_,rfl⟩:=bt.mp hz;rfl
theorem zng {α:Type}(xs ys:List α):(xs++ys).isEmpty=(xs.isEmpty&&ys.isEmpty):=by cases xs<;>simp
def bi (b:Bool)(f a r f' a':P):Bool:=wi r (own b f' a')&&wi (opp b f' a') (opp b f a)
theorem zeu (x y:Str)(xs ys:List Str):z0m 39 (xs.map (mk2 x)++ys.map (mk2 y))=true:=z0s.mpr fun z hz=>by
 rcases(b9.mp hz)with hz|hz
 ·obtain⟨n,_,rfl⟩:=bt.mp hz;rfl
 ·obtain⟨n,_,rfl⟩:=bt.mp hz;rfl
theorem e_z8 {b:Bool}{f a r f' a':P}(hf:PK f)(ha:PK a)(hf':PK f')(ha':PK a')(hr:r.length<=60)(l1:f'.length<=60)(l2:a'.length<=60):F_z8 [rl b f a r,cs2 f' a']=.ok (.fr,.bool (bi b f a r f' a')):=by unfold F_z8;refine z0j ?_;unfold S_z8;refine z09 (z0f (z0q (z3w (z00 (z01 rfl) (z00 (z01 rfl) z03)) rfl (e_z7 hf ha hf' ha' hr l1 l2)) (Ev.of (z1b z0a)) ?_));rw[eq_nil _ (zeu _ _ _ _)];unfold bi;rw[zng,jo,jo,zic,zic]
theorem z24 {a b:Int}(h:0<b)(h2:b<2 ^ 200):binD .FloorDiv (.int a) (.int b)=.ok (.int (a/b)):=by show(if _ then _ else _)=_;rw[if_pos ⟨h,h2⟩]
theorem z3i (cs:List Int):biD "len" [.list (cs.map .int)]=.ok (.int (cs.length:Int)):=by show Res.ok (PyData.int ((cs.map PyData.int).length:Int))=_;rw[af]
theorem e_sl {Κ:List D}{Φ:List Fn}{ρ:Rho}{a b c:C}{x d:D}{i j:Option Int}(ha:Ev Κ Φ a ρ x)(hb:Oo Κ Φ b ρ i)(hc:Oo Κ Φ c ρ j)(h:slD x i j=.ok d):Ev Κ Φ (.sl a b c) ρ d:=by obtain⟨g1,ha⟩:=ha;unfold Oo at hb hc;exact⟨_,by rw[E_sl];rw[ha,Res.ok_bind,hb,Res.ok_bind,hc,Res.ok_bind];dsimp only;rw[h,Res.ok_bind]⟩
theorem ze0 {α β:Type}(f:α->β)(xs:List α)(i j:Option Int):cut (xs.map f) i j=(cut xs i j).map f:=by unfold cut;rw[af,List.map_take,List.map_drop]
theorem z2l (xs:List Int)(i j:Option Int):slD (.list (xs.map .int)) i j=.ok (.list ((cut xs i j).map .int)):=by show Res.ok (PyData.list (cut (xs.map PyData.int) i j))=_;rw[ze0]
def ag (b:Bool)(f a r:P)(b':Bool)(f' a' r':P):Bool:=(!(b==b'))&&(wi r (own b f' a')&&wi r' (own b' f a))
theorem zne (b:Bool)(f a r:P)(b':Bool)(f' a' r':P):ag b' f' a' r' b f a r=ag b f a r b' f' a' r':=by unfold ag;rw[Bool.and_comm (wi r' _)];cases b<;>cases b'<;>rfl
theorem zk6 (b b':Bool):(sd b==sd b')=(b==b'):=by cases b<;>cases b'<;>rfl
theorem z23 {b:Bool}{f a:P}(hf:PK f)(ha:PK a):PK (own b f a):=by cases b<;>assumption
def Nx (I:Rho->Prop)(z:Res Out):Prop:=∃ρ',z=.ok (.nx ρ')/\I ρ'
theorem zad {Κ:List D}{Φ:List Fn}{ρ:Rho}{I:Rho->Prop}(h:I ρ):Nx I (evS Κ Φ .nil ρ):=⟨ρ,z0k,h⟩
theorem z4b {j:Nat}{d:D}{g:G}{ρ:Rho}(hi:imm d=true):z1i (.nm j) (gJ d g,d) ρ=.ok (ρ.set j (some (.al,d))):=by rw[z20 hi];rfl
theorem q_nm {Κ:List D}{Φ:List Fn}{ρ:Rho}{g:G}{Q:Res Out->Prop}{β:Type}{j:Nat}{it:C}{p rest:S}{m:β->D}{xs:List β}{ρ1:Rho}(h:evF Κ Φ it ρ=.ok (g,xs.map m,ρ1))(hm:∀x,imm (m x)=true)(I:List β->Rho->Prop)(h0:I [] ρ1)
  (hf:∀pre x post ρ,xs=pre++x::post->I pre ρ->Nx (I (pre++[x])) (evS Κ Φ p (ρ.set j (some (.al,m x))))) (hk:∀ρ',I xs ρ'->Q (evS Κ Φ rest ρ')):Q (evS Κ Φ (.seq (.for_ (.nm j) it p) rest) ρ):=
 zkl h I h0 (fun pre x post ρ hx hI=>by obtain⟨ρ',h1,h2⟩:=hf pre x post ρ hx hI;exact⟨_,ρ',z4b (hm x),h1,h2⟩) hk
theorem ix_m {β:Type}(m:β->D){xs:List β}{i:Int}(d:β)(h0:0<=i)(h1:i<xs.length):ixD (.list (xs.map m)) (.int i)=.ok (m (xs.getD i.toNat d)):=by
 show Res.ofO (atI (xs.map m) i)=_;rw[zk1 _ i (m d) h0 (by rw[af];exact h1)];show Res.ok _=_
 congr 1
 have:i.toNat<xs.length:=by omega
 rw[bo,bo,bw,bq this];rfl
theorem zed {β:Type}{m:β->D}(h:∀x,imm (m x)=true)(xs:List β):imms (xs.map m)=true:=z1a.mpr fun x hx=>by obtain⟨p,_,rfl⟩:=bt.mp hx;exact h p
theorem z5h {Κ:List D}{Φ:List Fn}{ρ:Rho}{a b:C}{i j n:Nat}{x:D}{xs:List D}(hv:Vv Κ Φ b ρ x)(hk:Ev Κ Φ a ρ (.int j))(hr:ρ[i]?=some (some (.fr,.list xs)))(hj:ixN xs.length (j:Int)=some n):evS Κ Φ (.setIx i a b) ρ=.ok (.nx ((ρ.set i (some (.fr,.list (xs.set n x)))).map z1g)):=by
 obtain⟨g1,hk⟩:=hk;rw[zt7,hv.1,Res.ok_bind,hk,Res.ok_bind,hr]
 dsimp only
 rw[if_pos (z9p hv.2),hj]
theorem z9e {d:D}(h:imm d=true):z1g (some (.al,d))=some (.al,d):=by show(if imm d=true then some (G.al,d)else none)=_;rw[if_pos h]
theorem zdl {β:Type}{f:D->Rho->Res Out}{m:β->D}{Q:Res Out->Prop}(I:List β->Rho->Prop):∀(xs pre:List β) (ρ:Rho),(∀pr' x post ρ,pre++xs=pr'++x::post->I pr' ρ->(∃ρ',f (m x) ρ=.ok (.nx ρ')/\I (pr'++[x]) ρ')\/∃g d,f (m x) ρ=.ok (.rt g d)/\Q (.ok (.rt g d)))->I pre ρ->(∃ρ',forD f (xs.map m) ρ=.ok (.nx ρ')/\I (pre++xs) ρ')\/∃g d,forD f (xs.map m) ρ=.ok (.rt g d)/\Q (.ok (.rt g d))
 | [],pre,ρ,_,h=>.inl ⟨ρ,rfl,by rw[gv];exact h⟩
 |x::xs,pre,ρ,hf,h=>by
  rcases hf pre x xs ρ rfl h with⟨ρ',e,h'⟩|⟨g,d,e,q⟩
  ·have e2:pre++x::xs=(pre++[x])++xs:=by simp
   rcases zdl I xs (pre++[x]) ρ' (fun a b c r hh=>hf a b c r (e2.trans hh)) h' with⟨ρ2,e3,h3⟩|⟨g,d,e3,q⟩
   ·exact .inl ⟨ρ2,by rw[a9];show(match f (m x) ρ with|.ok (.nx ρ')=>forD f (xs.map m) ρ'|.ok (.ct ρ')=>forD f (xs.map m) ρ'|.ok (.bk ρ')=>.ok (.nx ρ')|.ok (.rt g d)=>.ok (.rt g d)|.exc e=>.exc e|.no=>.no)=_;rw[e];exact e3,by rw[e2];exact h3⟩
   ·exact .inr ⟨g,d,by rw[a9];show(match f (m x) ρ with|.ok (.nx ρ')=>forD f (xs.map m) ρ'|.ok (.ct ρ')=>forD f (xs.map m) ρ'|.ok (.bk ρ')=>.ok (.nx ρ')|.ok (.rt g d)=>.ok (.rt g d)|.exc e=>.exc e|.no=>.no)=_;rw[e];exact e3,q⟩
  ·exact .inr ⟨g,d,by rw[a9];show(match f (m x) ρ with|.ok (.nx ρ')=>forD f (xs.map m) ρ'|.ok (.ct ρ')=>forD f (xs.map m) ρ'|.ok (.bk ρ')=>.ok (.nx ρ')|.ok (.rt g d)=>.ok (.rt g d)|.exc e=>.exc e|.no=>.no)=_;rw[e],q⟩
theorem ze4 {Κ:List D}{Φ:List Fn}{ρ:Rho}{g:G}{Q:Res Out->Prop}{β:Type}{t':Tg}{it:C}{p rest:S}{m:β->D}{xs:List β}{ρ1:Rho}(h:evF Κ Φ it ρ=.ok (g,xs.map m,ρ1))(I:List β->Rho->Prop)(h0:I [] ρ1)
  (hf:∀pre x post ρ,xs=pre++x::post->I pre ρ->∃ρ2,z1i t' (gJ (m x) g,m x) ρ=.ok ρ2/\(Nx (I (pre++[x])) (evS Κ Φ p ρ2)\/∃g d,evS Κ Φ p ρ2=.ok (.rt g d)/\Q (.ok (.rt g d)))) (hk:∀ρ',I xs ρ'->Q (evS Κ Φ rest ρ')):Q (evS Κ Φ (.seq (.for_ t' it p) rest) ρ):=by
 rcases zdl (f:=fun x ρ1=>z1i t' (gJ x g,x) ρ1>>=fun ρ2=>evS Κ Φ p ρ2) (m:=m) (Q:=Q) I xs [] ρ1 (fun pre x post ρ hx hI=>by
  obtain⟨ρ2,e,hh⟩:=hf pre x post ρ hx hI;rcases hh with⟨ρ',h1,h2⟩|⟨g',d,h1,h2⟩
  ·exact .inl ⟨ρ',by rw[e,Res.ok_bind,h1],h2⟩
  ·exact .inr ⟨g',d,by rw[e,Res.ok_bind,h1],h2⟩) h0 with⟨ρ',e,i⟩|⟨g',d,e,q⟩
 ·rw[z0b (zc3 h e) rfl];exact hk ρ' i
 ·rw[z09 (zc3 h e)];exact q
theorem z5j {α:Type}{xs:List α}{x:α×Nat}(h:x∈xs.zipIdx):xs[x.2]?=some x.1:=eh.mp h
theorem z1h {Φ:List Fn}{ρ:Rho}{t:C}{i j:Int}(h:Ev [] Φ t ρ (.int i)):Tt [] Φ (.tv (.cmp .Eq t (.int j))) ρ (decide (i=j)):=t_tv (z0q (k:=decide (i=j)) h z04.e (by show Res.ok (eqD (.int _) (.int _))=_;rw[z2b])).e rfl
theorem z3n (c:Int){k:Int}(h0:0<=k)(h1:k<=100):∃m,(0<=m/\m<2147483647)/\z22 [.int c,.int k]=.ok (.fr,.int m):=by
 have hk:0<=k*k/\k*k<=10000:=⟨Int.mul_nonneg h0 h0,by have:=Int.mul_le_mul h1 h1 h0 (by decide);omega⟩;have e:31*k*k=31*(k*k):=Int.mul_assoc ..;have hc:=gz c (show(1000000007:Int)≠0 by decide);have hd:=iq c (show(0:Int)<1000000007 by decide);generalize ha:c%1000000007+31*k*k+1=a;have h2:0<a/\a<2 ^ 60:=by rw[e]at ha;omega
 refine⟨(a*a%2147483629*(k+7))%2147483647,⟨gz _ (by decide),iq _ (by decide)⟩,z0j ?_⟩;unfold znj;refine z0b (z0g (d:=.int a) (by rw[<-ha];exact z0e (z0e (z0e (z01 rfl) z04.e (z1c (by decide)) rfl).e (z0e (z0e z04.e (z01 rfl) (z56 (by decide)) rfl).e (z01 rfl) (zn4 ⟨by omega,by omega⟩) rfl).e rfl rfl).e z04.e rfl rfl)) ?_;exact z09 (z0f (z0e (z0e (z0e (z0e (z01 rfl) (z01 rfl) (z56 ⟨by omega,by omega⟩) rfl).e z04.e (z1c (by decide)) rfl).e (z0e (z01 rfl) z04.e rfl rfl).e (zn4 ⟨by omega,by omega⟩) rfl).e z04.e (z1c (by decide)) rfl))
def DG (b:Int)(n:Nat)(ds:List Int):Prop:=ds.length=n/\∀d∈ds,0<=d/\d<b
theorem z2o (c:Int){n b:Int}(h0:0<=n)(h1:n<=100)(hb:0<b)(hb2:b<2 ^ 200):∃ds,DG b n.toNat ds/\z1p [.int c,.int n,.int b]=.ok (.fr,.list (ds.map .int)):=by
 suffices h:∃ds,DG b n.toNat ds/\evS [] [] zg2 [some (.od,.int c),some (.od,.int n),some (.od,.int b),none,none]=.ok (.rt .fr (.list (ds.map .int))) by obtain⟨ns,h1,h2⟩:=h;exact⟨ns,h1,z0j h2⟩
 let Q:Res Out->Prop:=fun r=>∃ds,DG b n.toNat ds/\r=.ok (.rt .fr (.list (ds.map .int)))
 show Q _;unfold zg2;refine q_ok (z0z (z1b z0a) rfl) ?_;refine q_nm (m:=fun(i:Nat)=>PyData.int i) (xs:=cu n.toNat) (zmx (z00 (z01 rfl) z03) (zgu h0 (by omega))) (fun _=>rfl) (fun pre ρ=>∃g c' ds u,ρ=[some (g,.int c'),some (.od,.int n),some (.od,.int b),some (.fr,.list (ds.map .int)),u]/\DG b pre.length ds) ⟨_,c,[],none,rfl,rfl,fun _ h=>by cases h⟩ ?_ ?_
 ·rintro pre x post ρ hx ⟨g,c',ds,u,rfl,hl,hd⟩
  have hp:pre.length<n.toNat:=by have:=congrArg j8 hx;rw[gj,av,br]at this;omega
  refine q_ok (zbg (xs:=ds.map .int) (z0e (z01 rfl) (z01 rfl) (z1c hb) rfl) rfl (by rw[af];omega)) ?_;refine q_ok (z0g (d:=.int (c'/b)) (z0e (z01 (g:=g) (d:=.int c') (by cases g<;>rfl)) (z01 rfl) (z24 hb hb2) rfl)) ?_;refine zad ⟨.al,c'/b,ds++[c'%b],some (.al,.int x),?_,?_,?_⟩
  ·rw[cx];rfl
  ·rw[av,av,hl];rfl
  ·intro d hd';rcases b9.mp hd' with h|h
   ·exact hd d h
   ·cases bp.mp h;exact⟨gz _ (by omega),iq _ hb⟩
 ·rintro ρ ⟨g,c',ds,u,rfl,hl,hd⟩
  rw[gj]at hl;exact q_rt (z7j rfl) ⟨ds,⟨hl,hd⟩,rfl⟩
def zp (ws:List Str)(ds:List Int):P:=(ws.zip ds).filter fun p=>decide (0<p.2)
def Sw (ws:List Str):Prop:=ws.Pairwise sl
theorem zjm:∀{ws:List Str} {ds:List Int},Sw ws->(ws.zip ds).Pairwise fun p q=>sl p.1 q.1
 | [],_,_=>by simp
 |_::_,[],_=>by simp
 |w::ws,d::ds,h=>by obtain⟨h1,h2⟩:=cj.1 h;rw[lh];refine cj.mpr ⟨fun p hp=>h1 _ ?_,zjm h2⟩;exact(i6 hp).1
theorem zp4 {ws:List Str}{ds:List Int}(h:Sw ws):PK (zp ws ds):=⟨(zjm h).filter _,fun p hp=>by simpa using(cz.mp hp).2⟩
theorem z28 {ws:List Str}{ds:List Int}(hw:ws.length<=60)(hd:ds.length<=600):z3y [.list (ws.map .str),.list (ds.map .int)]=.ok (.fr,pk (zp ws ds)):=by unfold z3y;refine z0j ?_;unfold znl;have hz:=zhz (Κ:=[]) (Φ:=[]) (ρ:=[some (.od,.list (ws.map .str)),some (.od,.list (ds.map .int))]) (z01 (i:=0) rfl) (z01 (i:=1) rfl) (z5s (z18 ws) (by rw[af];omega)) (z5s (z0r ds) (by rw[af];omega));rw[zfu]at hz;refine z09 (z0f (zna (w:=(true,(zp ws ds).map pr)) (x:=.list ((zp ws ds).map pr)) ⟨.fr,?_⟩ rfl rfl (z08 _)));exact z2g (m:=fun p:Str×Int=>PyData.tuple [.str p.1,.int p.2]) (xs:=ws.zip ds) (fun p=>decide (0<p.2)) pr hz rfl (fun p=>[some (.al,.str p.1),some (.al,.int p.2)]) (fun p _=>rfl) (fun p _=>t_tv (z0q (z01 rfl) z04.e rfl).e rfl) fun p _ _=>z0x (z02 (v_var rfl rfl) (z02 (v_var rfl rfl) z0a))
theorem zm7 {z:Str}(hz:z.cps.toList.Nodup){i j:Int}(hi:0<=i/\i<z.length)(hj:0<=j/\j<z.length)(h:chr z i=chr z j):i=j:=by
 have e:z.length=z.cps.toList.length:=by rw[ck];rfl
 unfold chr at h;have h1:z.cps.toList.getD i.toNat 0=z.cps.toList.getD j.toNat 0:=by have:=congrArg (fun s:Str=>s.cps.toList) h;simpa using this
 have a1:i.toNat<z.cps.toList.length:=by omega
 have a2:j.toNat<z.cps.toList.length:=by omega
 rw[bo,bo,bq a1,bq a2]at h1;have:=(List.getElem_inj hz).mp h1;omega
def wd (f:Nat->Str):Nat->Str
 |0=>""
 |n+1=>wd f n++f n
theorem z7s {f:Nat->Str}(hf:∀j,(f j).length=1):∀n,(wd f n).length=n
 |0=>rfl
 |n+1=>by rw[wd,zdf,z7s hf n,hf]
theorem app_list (a b:Str):(a++b).cps.toList=a.cps.toList++b.cps.toList:=by show(a.cps++b.cps).toList=_;rw[Array.toList_append]
theorem len_list (a:Str):a.cps.toList.length=a.length:=by rw[ck];rfl
theorem zjh {f g:Nat->Str}(hf:∀j,(f j).length=1)(hg:∀j,(g j).length=1):∀n,wd f n=wd g n->∀j,j<n->f j=g j
 |0,_,_,h=>by omega
 |n+1,e,j,h=>by
  have e2:(wd f n).cps.toList++(f n).cps.toList=(wd g n).cps.toList++(g n).cps.toList:=by rw[<-app_list,<-app_list];exact congrArg (fun s:Str=>s.cps.toList) e
  have hl:(wd f n).cps.toList.length=(wd g n).cps.toList.length:=by rw[len_list,len_list,z7s hf,z7s hg]
  obtain⟨e3,e4⟩:=List.append_inj e2 hl;by_cases hj:j=n
  ·rw[hj];exact zc7 e4
  ·exact zjh hf hg n (zc7 e3) j (by omega)
def LTR:Str:="bcdfghjklmnpqrstvwxyz"
theorem z6j:LTR.length=21:=rfl
theorem zo4:LTR.cps.toList.Nodup:=by decide+kernel
def lt (c:Int)(at_ k:Nat)(j:Nat):Str:=chr LTR ((c/144+((j:Int)*j+4*k*(if j=at_ then 1 else 0)))%21)
theorem z7c (c:Int)(at_ k j:Nat):(lt c at_ k j).length=1:=rfl
theorem zt3 {c:Int}{at_ k k' n:Nat}(ha:at_<n)(hk:k<3)(hk':k'<3)(h:wd (lt c at_ k) n=wd (lt c at_ k') n):k=k':=by have:=zjh (z7c c at_ k) (z7c c at_ k') n h at_ ha;unfold lt at this;have:=zm7 zo4 (by rw[z6j];omega) (by rw[z6j];omega) this;rw[if_pos rfl]at this;generalize (at_:Int)*at_=z at this;omega
def insW (x:Str):List Str->List Str
 | []=>[x]
 |y::ys=>if decide (y.cps.toList<x.cps.toList)then y::insW x ys else x::y::ys
def srtW:List Str->List Str
 | []=>[]
 |x::xs=>insW x (srtW xs)
theorem zr8 (x:Str):∀l:List Str,insD (.str x) (l.map .str)=(insW x l).map .str
 | []=>rfl
 |y::ys=>by
  show(if ltD (.str y) (.str x)then _ else _)=vq _ (if _ then _ else _);have e:ltD (.str y) (.str x)=decide (y.cps.toList<x.cps.toList):=rfl;rw[e];cases decide (y.cps.toList<x.cps.toList)with
  |true=>show _::insD (.str x) (ys.map .str)=_;rw[zr8 x ys];rfl
  |false=>rfl
theorem zoh:∀l:List Str,z1e (l.map .str)=(srtW l).map .str
 | []=>rfl
 |x::xs=>by show insD (.str x) (z1e (xs.map .str))=_;rw[zoh xs,zr8];rfl
theorem z4n (x:Str):∀l,(insW x l).Perm (x::l)
 | []=>List.Perm.refl _
 |y::ys=>by
  unfold insW;split
  ·exact((z4n x ys).cons y).trans (qx x y ys)
  ·exact List.Perm.refl _
theorem z1d:∀l,(srtW l).Perm l
 | []=>List.Perm.refl _
 |x::xs=>(z4n x _).trans ((z1d xs).cons x)
theorem zf4 {x:Str}:∀{l:List Str},Sw l->x∉l->Sw (insW x l)
 | [],_,_=>lj _ _
 |y::ys,h,hn=>by
  obtain⟨h1,h2⟩:=cj.1 h;unfold insW;split
  ·rename_i hd;refine cj.mpr ⟨fun z hz=>?_,zf4 h2 fun z=>hn (au _ z)⟩;rcases aw.mp ((z4n x ys).mem_iff.mp hz)with rfl|hz
   ·show y.cps.toList<_;exact vy hd
   ·exact h1 z hz
  ·rename_i hd;have hxy:sl x y:=(zj2 (a:=x) (b:=y) (fun e=>hn (by rw[e];exact ak))).elim id fun z=>(hd (v5 z)).elim;refine cj.mpr ⟨fun z hz=>?_,h⟩;rcases aw.1 hz with rfl|hz
   ·exact hxy
   ·exact zrh hxy (h1 z hz)
theorem z63:∀{l:List Str},l.Nodup->Sw (srtW l)
 | [],_=>List.Pairwise.nil
 |x::xs,h=>by obtain⟨h1,h2⟩:=cn.mp h;exact zf4 (z63 h2) fun z=>h1 ((z1d xs).mem_iff.mp z)
theorem zha (l:List Str):z36 (l.map .str)=true:=by
 unfold z36 z6v;have:(l.map PyData.str).all isS=true:=bg.mpr fun x hx=>by obtain⟨w,_,rfl⟩:=bt.mp hx;rfl
 rw[this,nr,p7,p7]
theorem z3o {l:List Str}(h:l.length<64):aggD "sorted" true (l.map .str)=.ok (.list ((srtW l).map .str)):=by show(if(true&&z36 (l.map .str)&&decide ((l.map PyData.str).length<64))=true then Res.ok (PyData.list (z1e (l.map .str)))else .no)=_;rw[zha,zoh,af,v5 h];rfl
structure GW (ws:List Str):Prop where
 sw:Sw ws
 pos:0<ws.length
 len:ws.length<=6
 wl:∀w∈ws,w.length<=30
theorem zht {c:Int}(hc:0<=c):∃ws,(GW ws/\ws.length=3/\∃n,∀w∈ws,w.length=n)/\z8l [.int c,.int 3]=.ok (.fr,.list (ws.map .str)):=by
 generalize hn:1+c%12=n;generalize ha:c/12%n=a;have n0:0<n/\n<=12:=by omega
 have a0:0<=a/\a<n:=by rw[<-ha];exact⟨gz _ (by omega),iq _ n0.1⟩
 let w:=fun k=>wd (lt c a.toNat k) n.toNat
 have wl:∀k,(w k).length=n.toNat:=fun k=>z7s (z7c c a.toNat k) _
 have nd:[w 0,w 1,w 2].Nodup:=by
  have h:∀i j,i<3->j<3->i≠j->w i≠w j:=fun i j hi hj hij e=>hij (zt3 (by omega) hi hj e);refine cn.mpr ⟨fun z=>?_,cn.mpr ⟨fun z=>?_,cn.mpr ⟨(fun z=>by cases z),ir⟩⟩⟩
  ·rcases aw.mp z with z|z
   ·exact h 0 1 (by decide) (by decide) (by decide) z
   ·exact h 0 2 (by decide) (by decide) (by decide) (bp.mp z)
  ·exact h 1 2 (by decide) (by decide) (by decide) (bp.mp z)
 have hl3:(srtW [w 0,w 1,w 2]).length=3:=(z1d _).length_eq
 have hle:∀x∈srtW [w 0,w 1,w 2],x.length=n.toNat:=fun x hx=>by
  have hx:=(z1d _).mem_iff.mp hx;rcases aw.1 hx with rfl|hx
  ·exact wl 0
  ·rcases aw.1 hx with rfl|hx
   ·exact wl 1
   ·rw[bp.mp hx];exact wl 2
 refine⟨srtW [w 0,w 1,w 2],⟨⟨z63 nd,by omega,by omega,fun x hx=>by rw[hle x hx];omega⟩,hl3,n.toNat,hle⟩,?_⟩;refine z0j ?_
 let Q:Res Out->Prop:=fun r=>r=.ok (.rt .fr (.list ((srtW [w 0,w 1,w 2]).map .str)))
 show Q _;unfold zn2;refine q_ok (z0g (d:=.str LTR) z1r) ?_;refine q_ok (z0g (d:=.int n) (by rw[<-hn];exact z0e z04.e (z0e (z01 rfl) z04.e (z1c (by decide)) rfl).e rfl rfl)) ?_;refine q_ok (z0g (d:=.int a) (by rw[<-ha];exact z0e (z0e (z01 rfl) z04.e (z24 (by decide) (by decide)) rfl).e (z01 rfl) (z1c n0.1) rfl)) ?_;refine q_ok (z0z (z1b z0a) rfl) ?_;refine q_nm (m:=fun(i:Nat)=>PyData.int i) (xs:=cu (3:Int).toNat) (zmx (z00 (z01 rfl) z03) (zgu (by decide) (by decide))) (fun _=>rfl) (fun pre ρ=>∃u6 u7 u8 u9,ρ=[some (.od,.int c),some (.od,.int 3),some (.al,.str LTR),some (.al,.int n),some (.al,.int a),some (.fr,.list ((pre.map w).map .str)),u6,u7,u8,u9]) ⟨none,none,none,none,rfl⟩ ?_ ?_
 ·rintro pre x post ρ hx ⟨u6,u7,u8,u9,rfl⟩
  have hp:pre.length<3/\x<3:=by
   have h1:=congrArg j8 hx;rw[gj,av,br]at h1;have h2:x∈cu (3:Int).toNat:=by rw[hx];exact ay _ ak
   have:=ny.mp h2;have e3:(3:Int).toNat=3:=rfl;omega
  refine q_ok (z0g (d:=.str "") z1r) ?_;refine q_nm (m:=fun(i:Nat)=>PyData.int i) (xs:=cu n.toNat) (zmx (z00 (z01 rfl) z03) (zgu (by omega) (by omega))) (fun _=>rfl) (fun pr2 ρ=>pr2=cu pr2.length/\∃u8 u9,ρ=[some (.od,.int c),some (.od,.int 3),some (.al,.str LTR),some (.al,.int n),some (.al,.int a),some (.fr,.list ((pre.map w).map .str)),some (.al,.int x),some (.al,.str (wd (lt c a.toNat x) pr2.length)),u8,u9]) ⟨rfl,u8,u9,rfl⟩ ?_ ?_
  ·rintro pr2 j po2 ρ hj ⟨hr,u8,u9,rfl⟩
   have h1:=congrArg j8 hj;rw[gj,av,br]at h1;have hjj:j=pr2.length:=by have:=congrArg (fun l:List Nat=>l[pr2.length]?) hj;simp only[fq (am _),Nat.sub_self,pj]at this;rw[r6 (by omega)]at this;exact(Option.some.inj this)▸rfl
   have ej:decide ((j:Int)=a)=decide (j=a.toNat):=by apply decide_eq_decide.mpr;omega
   generalize hst:((j:Int)*j+4*x*(if j=a.toNat then 1 else 0))=st;refine q_ok (z0g (d:=.int st) ?_) ?_
   ·rw[<-hst];refine z0e (z0e (z01 rfl) (z01 rfl) (z56 ⟨by omega,by omega⟩) rfl).e (z0e (z0e z04.e (z01 rfl) (z56 (by decide)) rfl).e (v_bi (z00 (z0q (k:=decide (j=a.toNat)) (z01 rfl) (z01 rfl) ?_).e z03) (d:=.int (if j=a.toNat then 1 else 0)) ?_ rfl).e (z56 ⟨by omega,by omega⟩) rfl).e rfl rfl
    ·show Res.ok (eqD (.int j) (.int a))=_;rw[z2b,ej]
    ·show Res.ok (PyData.int (if decide (j=a.toNat)=true then 1 else 0))=_;by_cases hh:j=a.toNat
     ·rw[v5 hh,if_pos rfl,if_pos hh]
     ·rw[v6 hh,if_neg (by decide),if_neg hh]
   have hi:ixD (.str LTR) (.int ((c/144+st)%21))=.ok (.str (lt c a.toNat x j)):=by rw[z9g (by omega) (by rw[z6j];omega) (by rw[z6j];decide)];unfold lt;rw[hst]
   refine q_ok (z0g (d:=.str (wd (lt c a.toNat x) pr2.length++lt c a.toNat x j)) (z0e (z01 rfl) (v_ix (z01 rfl) (z0e (z0e (z0e (z01 rfl) z04.e (z24 (by decide) (by decide)) rfl).e (z01 rfl) rfl rfl).e z04.e (z1c (by decide)) rfl).e hi rfl).e (add_str (by rw[z7s (z7c _ _ _),z7c];omega)) rfl)) ?_;refine zad ⟨?_,some (.al,.int j),some (.al,.int st),?_⟩
   ·rw[av,l4,List.range_succ,<-hr,hjj]
   ·rw[av,l4,hjj];rfl
  ·rintro ρ ⟨_,u8,u9,rfl⟩
   rw[gj];refine q_ok (zbg (xs:=(pre.map w).map .str) (x:=.str (w x)) (v_var rfl rfl) rfl (by rw[af,af];omega)) ?_;have i8:∃v8 v9,(vq z1g [u8,u9])=[v8,v9]:=⟨_,_,rfl⟩;obtain⟨v8,v9,e89⟩:=i8;refine zad ⟨some (.al,.int x),some (.al,.str (w x)),z1g u8,z1g u9,?_⟩;rw[cx,cx];rfl
 ·rintro ρ ⟨u6,u7,u8,u9,rfl⟩
  refine q_rt (z27 (fun i z=>by cases z) (z7g (w:=(true,[w 0,w 1,w 2].map .str)) (z01 rfl) rfl (z3o (by show 3<64;decide)) (z18 _))) rfl
structure RG (rs:List Int):Prop where
 nn:∀r∈rs,0<=r
 cs:rs.length=4\/∃t,rs=[t]/\0<t/\t<=10 ^ 30
theorem zl8 {c:Int}(hc:0<=c):∃rs,RG rs/\z8p [.int c]=.ok (.fr,.list (rs.map .int)):=by
 suffices h:∃rs,RG rs/\evS [] [] zhr [some (.od,.int c),none]=.ok (.rt .fr (.list (rs.map .int))) by obtain⟨ns,h1,h2⟩:=h;exact⟨ns,h1,z0j h2⟩
 let Q:Res Out->Prop:=fun r=>∃rs,RG rs/\r=.ok (.rt .fr (.list (rs.map .int)))
 show Q _;unfold zhr;have hix:=z52 (ns:=[1,7,1000000000000000,999999999999999999999999999991]) (i:=c%4) (by omega) (by show _<(4:Int);omega);generalize hm:([1,7,1000000000000000,999999999999999999999999999991]:List Int).getD (c%4).toNat 0=m at hix
 have m0:0<m/\m<2 ^ 200:=by
  have h:m∈([1,7,1000000000000000,999999999999999999999999999991]:List Int):=by rw[<-hm];exact getD_mem (by omega) (by show _<(4:Int);omega)
  have hall:∀x∈([1,7,1000000000000000,999999999999999999999999999991]:List Int),0<x/\x<2 ^ 200:=by decide
  exact hall m h
 generalize hl:1+c/4%m=l;have l0:0<l:=by have:=gz (c/4) (show m≠0 by omega);omega
 have e30:binD .Sub (.int 1000000000000000000000000000000) (.int 9)=.ok (.int 999999999999999999999999999991):=rfl;refine q_ok (z0g (d:=.int l) ?_) ?_
 ·rw[<-hl];exact z0e z04.e (z0e (z0e (z01 rfl) z04.e (z24 (by decide) (by decide)) rfl).e (v_ix (Ev.of (z1b (z02 z04 (z02 z04 (z02 zkt (z02 (z0e z8i.e z04.e e30 rfl) z0a)))))) (z0e (z01 rfl) z04.e (z1c (by decide)) rfl).e hix rfl).e (z1c m0.1) rfl).e rfl rfl
 have ht:Tt [] [] (.tv (.cmp .Eq (.bin .Mod (.var 0) (.int 5)) (.int 1))) [some (.od,.int c),some (.al,.int l)] (decide (c%5=1)):=t_tv (z0q (k:=decide (c%5=1)) (z0e (z01 rfl) z04.e (z1c (by decide)) rfl).e z04.e (by show Res.ok (eqD (.int _) (.int _))=_;rw[z2b])).e rfl;by_cases h5:c%5=1
 ·refine q_rt (g:=.fr) (z0o ht (fun _=>z09 (z27 (fun i z=>by cases z) (z1b (z02 z04 (z02 (v_var rfl rfl) (z02 (z0e (z01 rfl) z04.e rfl rfl) (z02 z8i z0a))))))) fun z=>absurd h5 (vz z)) ⟨[0,l,l+1,1000000000000000000000000000000],⟨?_,.inl rfl⟩,rfl⟩;intro r hr;simp only[aw,cw,or_false]at hr;omega
 ·refine z2e ht (v6 h5) ?_;have h3:=gz (c/20) (show(3:Int)≠0 by decide);refine q_rt (z27 (fun i z=>by cases z) (z1b (z02 z04 (z02 (v_var rfl rfl) (z02 (z0e (z01 rfl) z04.e rfl rfl) (z02 (z0e (z0e (z01 rfl) z04.e rfl rfl).e (z0e (z0e (z01 rfl) z04.e (z24 (by decide) (by decide)) rfl).e z04.e (z1c (by decide)) rfl).e rfl rfl) z0a)))))) ⟨[0,l,l+1,l+2+c/20%3],⟨?_,.inl rfl⟩,rfl⟩;intro r hr;simp only[aw,cw,or_false]at hr;omega
theorem zpi {c:Rho->Res Bool}{f:Rho->Res Out}{P:Rho->Prop}(I:Nat->Rho->Prop)(hs:∀k ρ,I k ρ->(c ρ=.ok false/\P ρ)\/∃k' ρ',k=k'+1/\c ρ=.ok true/\f ρ=.ok (.nx ρ')/\I k' ρ'):∀(k n:Nat) (ρ:Rho),k<n->I k ρ->∃ρ',whD c f n ρ=.ok (.nx ρ')/\P ρ'
 |k,0,_,h,_=>by omega
 |k,n+1,ρ,h,hI=>by
  rcases hs k ρ hI with⟨h1,h2⟩|⟨k',ρ',rfl,h1,h2,h3⟩
  ·exact⟨ρ,by show(c ρ>>=_)=_;rw[h1];rfl,h2⟩
  ·obtain⟨ρ2,e,p⟩:=zpi I hs k' n ρ' (by omega) h3;refine⟨ρ2,?_,p⟩;show(c ρ>>=_)=_;rw[h1,Res.ok_bind,if_pos rfl,h2];exact e
theorem q_wh {Κ:List D}{Φ:List Fn}{ρ:Rho}{Q:Res Out->Prop}{c:C}{b rest:S}{n:Nat}{P:Rho->Prop}(I:Nat->Rho->Prop)(k:Nat)(hn:k<n)(h0:I k ρ)(hs:∀k ρ,I k ρ->(Tt Κ Φ c ρ false/\P ρ)\/∃k' ρ',k=k'+1/\Tt Κ Φ c ρ true/\evS Κ Φ b ρ=.ok (.nx ρ')/\I k' ρ')(hk:∀ρ',P ρ'->Q (evS Κ Φ rest ρ')):Q (evS Κ Φ (.seq (.wh n c b) rest) ρ):=by obtain⟨ρ',e,p⟩:=zpi (c:=evT Κ Φ c) (f:=evS Κ Φ b) I hs k n ρ hn h0;have e2:evS Κ Φ (.wh n c b) ρ=.ok (.nx ρ'):=e;exact q_ok e2 (hk ρ' p)
theorem z2c (a b:Str):eqD (.str a) (.str b)=decide (a=b):=by
 show(a==b)=_;by_cases h:a=b
 ·rw[v5 h,h];exact beq_self_eq_true b
 ·rw[v6 h];exact beq_false_of_ne h
theorem zb6 (n:Nat)(ws:List Str):z0m n (ws.map .str)=true:=z0s.mpr fun x hx=>by obtain⟨w,_,rfl⟩:=bt.mp hx;cases n<;>rfl
theorem zlj (w:Str)(ws:List Str):cmpD .In (.str w) (.list (ws.map .str))=.ok (decide (w∈ws)):=by
 show(if(shal 40 (.str w)&&z0m 40 (ws.map .str))=true then Res.ok ((ws.map PyData.str).any fun y=>eqD y (.str w))else .no)=_;rw[zb6,show shal 40 (.str w)=true from rfl,List.any_map];show Res.ok _=_
 congr 1
 apply Bool.eq_iff_iff.mpr;rw[pp,decide_eq_true_iff];refine⟨fun⟨x,h1,h2⟩=>?_,fun h=>⟨w,h,?_⟩⟩
 ·have h2:eqD (.str x) (.str w)=true:=h2;rw[z2c]at h2;exact vy h2▸h1
 ·show eqD (.str w) (.str w)=true;rw[z2c];exact v5 rfl
def qs (n:Nat):Str:=⟨(z17 n ("q":Str).cps.toList).toArray⟩
theorem zc9 {α:Type}(x:α)(n:Nat):(z17 n [x]).length=n:=by
 unfold z17
 induction n with
 |zero=>rfl
 |succ n ih=>rw[dt,d7,av,ih];simp;omega
theorem zca (n:Nat):(qs n).length=n:=by show(z17 n ("q":Str).cps.toList).toArray.size=n;rw[ao];exact zc9 _ n
theorem zv1 {n:Nat}(h:n<=1000):binD .Mult (.str "q") (.int n)=.ok (.str (qs n)):=by show(if(0<=(n:Int)/\(n:Int)<=LIM/\("q":Str).length*(n:Int).toNat<=LIM)then Res.ok (PyData.str ⟨(z17 (n:Int).toNat ("q":Str).cps.toList).toArray⟩)else .no)=_;rw[if_pos ⟨by omega,by unfold LIM;omega,by rw[show("q":Str).length=1 from rfl];unfold LIM;omega⟩];rfl
theorem zh2 {bad:List Str}{z:Nat}(h:∀i,1<=i->i<z->qs i∈bad):z-1<=bad.length:=by
 have:=zey (a:=((cu (z-1)).map fun i=>qs (i+1))) (b:=bad) ?_ ?_
 ·rwa [af,gj]at this
 ·refine j5.mpr (List.nodup_range.imp fun{a b} hab e=>hab ?_);have:=congrArg Str.length e;rw[zca,zca]at this;omega
 ·intro x hx;obtain⟨i,hi,rfl⟩:=bt.mp hx;have:=ny.mp hi;exact h _ (by omega) (by omega)
theorem z9u:("abcdefghijklmnopqrstuvwxyz":Str).length=26:=rfl
def KEPT:List Str:=["and","or","not","if","is","some","all","for","against"]
theorem zkv {cs:List Int}(h0:0<cs.length)(h6:cs.length<=6):∃ws:List Str,(ws.Nodup/\ws.length=cs.length/\∀w∈ws,w.length<=30)/\z8y [.list (cs.map .int)]=.ok (.fr,.list (ws.map .str)):=by
 suffices h:∃ws:List Str,(ws.Nodup/\ws.length=cs.length/\∀w∈ws,w.length<=30)/\evS [] [z1p] zh7 [some (.od,.list (cs.map .int)),none,none,none,none,none,none]=.ok (.rt .fr (.list (ws.map .str))) by obtain⟨ns,h1,h2⟩:=h;exact⟨ns,h1,z0j h2⟩
 let Q:Res Out->Prop:=fun r=>∃ws:List Str,(ws.Nodup/\ws.length=cs.length/\∀w∈ws,w.length<=30)/\r=.ok (.rt .fr (.list (ws.map .str)))
 show Q _;unfold zh7;refine q_ok (z0z (xs:=KEPT.map .str) (z1b (z02 z1r (z02 z1r (z02 z1r (z02 z1r (z02 z1r (z02 z1r (z02 z1r (z02 z1r (z02 z1r z0a)))))))))) rfl) ?_;refine q_ok (z0z (z1b z0a) rfl) ?_;refine q_nm (m:=PyData.int) (xs:=cs) (f_od rfl rfl rfl) (fun _=>rfl) (fun pre ρ=>∃(ws:List Str) (u3 u4 u5 u6:Option GD),ρ=[some (.od,.list (cs.map .int)),some (.fr,.list (KEPT.map .str)),some (.fr,.list (ws.map .str)),u3,u4,u5,u6]/\ws.Nodup/\ws.length=pre.length/\∀w∈ws,w.length<=30) ⟨[],none,none,none,none,rfl,ir,rfl,fun _ h=>by cases h⟩ ?_ ?_
 ·rintro pre x post ρ hx ⟨ws,u3,u4,u5,u6,rfl,nd,hl,hw⟩
  have hp:pre.length<6:=by have:=congrArg j8 hx;rw[av,br]at this;omega
  obtain⟨ds,⟨d1,d2⟩,hd⟩:=z2o (x/12) (n:=1+x%12) (b:=26) (by omega) (by omega) (by decide) (by decide);refine q_ok (z0z (z16 (z00 (z0e (z01 rfl) z04.e (z24 (by decide) (by decide)) rfl).e (z00 (z0e z04.e (z0e (z01 rfl) z04.e (z1c (by decide)) rfl).e rfl rfl).e (z00 z04.e z03))) rfl hd) (z0r _)) ?_
  have hs:∃s0:Str,s0.length<=30/\∀{ρ:Rho},ρ[4]?=some (some (.fr,.list (ds.map .int)))->Vv [] [z1p] (.mt "join" (.str "") (.cons (.comp 1 [] ["_law_digit"] (.nm 0) (.tv (.var 4)) .nil (.ix (.str "abcdefghijklmnopqrstuvwxyz") (.var 0))) .nil)) ρ (.str s0):=by
   refine⟨z67 "" (ds.map fun d=>chr "abcdefghijklmnopqrstuvwxyz" d),?_,fun{ρ} h4=>?_⟩
   ·rw[z7a _ (fun s hs=>by obtain⟨d,_,rfl⟩:=bt.mp hs;rfl),af];omega
   ·have e4:evE [] [z1p] (.var 4) ρ=.ok (.al,.list (ds.map .int)):=by rw[z8j];rw[h4];rfl
    refine v_mt z1r.e (z00 (Ev.of (z2g (m:=PyData.int) (xs:=ds) (fun _=>true) (fun d=>.str (chr "abcdefghijklmnopqrstuvwxyz" d)) (w_tv e4 rfl) rfl (fun d=>[some (.al,.int d)]) (fun d _=>rfl) (fun d _=>zd8) fun d hd' _=>v_ix z1r.e (z01 rfl) (z9g (d2 d hd').1 (by rw[z9u];exact(d2 d hd').2) (by rw[z9u];decide)) rfl)) z03) ?_ rfl;rw[jk.mpr (fun _ _=>rfl),show(ds.map fun d=>PyData.str (chr "abcdefghijklmnopqrstuvwxyz" d))=(ds.map fun d=>chr "abcdefghijklmnopqrstuvwxyz" d).map .str by rw[jc];rfl];exact zp3 (fun s hs=>by obtain⟨d,_,rfl⟩:=bt.mp hs;rfl) (by rw[af];omega)
  obtain⟨s0,s1,s2⟩:=hs;refine q_ok (z0g (d:=.str s0) (s2 rfl)) ?_;refine q_ok (z0g (d:=.int 1) z04) ?_
  let R:Str->Int->Rho:=fun s z=>[some (.od,.list (cs.map .int)),some (.fr,.list (KEPT.map .str)),some (.fr,.list (ws.map .str)),some (.al,.int x),some (.fr,.list (ds.map .int)),some (.al,.str s),some (.al,.int z)]
  have ht:∀s z,Tt [] [z1p] (.tv (.cmp .In (.var 5) (.bin .Add (.var 2) (.var 1)))) (R s z) (decide (s∈ws++KEPT)):=fun s z=>by
   have e2:evE [] [z1p] (.bin .Add (.var 2) (.var 1)) (R s z)=.ok (.fr,.list ((ws++KEPT).map .str)):=by rw[cx];exact z60 (z01 rfl) (z01 rfl) (add_list (by rw[af,af];show ws.length+9<=1000;omega)) (by rw[<-cx];exact z18 _)
   exact t_tv (z0q (z01 rfl) (Ev.of e2) (zlj s _)).e rfl
  refine q_wh (P:=fun ρ=>∃s z,ρ=R s z/\s∉ws++KEPT/\s.length<=30) (fun k ρ=>∃s z,ρ=R s (z:Nat)/\k+z=40/\1<=z/\s.length<=30/\(2<=z->s=qs (z-1))/\∀i,1<=i->i<z-1->qs i∈ws++KEPT) 39 (by decide) ⟨s0,1,rfl,rfl,by decide,s1,fun h=>by omega,fun i h1 h2=>by omega⟩ ?_ ?_
  ·rintro k ρ ⟨s,z,rfl,hkz,z1,sl,sq,hq⟩
   by_cases hin:s∈ws++KEPT
   ·have hall:∀i,1<=i->i<z->qs i∈ws++KEPT:=fun i h1 h2=>by
     by_cases hi:i=z-1
     ·rw[hi,<-sq (by omega)];exact hin
     ·exact hq i h1 (by omega)
    have hz:=zh2 hall;rw[av,show KEPT.length=9 from rfl]at hz;refine .inr ⟨k-1,R (qs z) ((z+1:Nat):Int),by omega,?_,?_,qs z,z+1,rfl,by omega,by omega,by rw[zca];omega,fun _=>rfl,hall⟩
    ·have :=ht s z;rw[v5 hin]at this;exact this
    ·exact z0b (z0g (z0e z1r.e (z01 rfl) (zv1 (by omega)) rfl)) (z0b (z0g (d:=.int ((z+1:Nat):Int)) (z0e (z01 rfl) z04.e rfl rfl)) z0k)
   ·refine .inl ⟨?_,s,z,rfl,hin,sl⟩;have:=ht s z;rw[v6 hin]at this;exact this
  ·rintro ρ ⟨s,z,rfl,hin,hl2⟩
   refine q_ok (zbg (xs:=ws.map .str) (x:=.str s) (v_var rfl rfl) rfl (by rw[af];omega)) ?_;refine zad ⟨ws++[s],some (.al,.int x),some (.fr,.list (ds.map .int)),some (.al,.str s),some (.al,.int z),?_,?_,?_,?_⟩
   ·rw[cx];rfl
   ·refine ly.mpr ⟨nd,cn.mpr ⟨(fun z=>by cases z),ir⟩,fun a ha b hb e=>?_⟩;rw[bp.mp hb]at e;exact hin (j6 _ (e▸ha))
   ·rw[av,av,hl];rfl
   ·intro w hw';rcases b9.mp hw' with h|h
    ·exact hw w h
    ·rw[bp.mp h];exact hl2
 ·rintro ρ ⟨ws,u3,u4,u5,u6,rfl,nd,hl,hw⟩
  exact q_rt (z7j rfl) ⟨ws,⟨nd,hl,hw⟩,rfl⟩
theorem zjf {Κ:List D}{Φ:List Fn}{ρ:Rho}{t:C}{d:D}(hv:∀i,t≠.var i)(h:Ev Κ Φ t ρ d):∃g,evS Κ Φ (.ret t) ρ=.ok (.rt g d)/\g≠.od:=by obtain⟨g,h⟩:=h;refine⟨rtG g,by rw[zdh hv,h];rfl,?_⟩;cases g<;>decide
theorem zmd (xs:List Int):aggD "sum" true (xs.map .int)=.ok (.int xs.sum):=by show Res.ofO ((sumD (xs.map .int)).map PyData.int)=_;rw[z71];rfl
theorem z15 {α:Type}(xs:List α)(i j:Option Int):(cut xs i j).length<=xs.length:=by unfold cut;rw[eu,jl];omega
theorem z5f {n d:Nat}{v:Int}(h:0<=v):sIx n d (some v)=min v.toNat n:=by show(if v<0 then(v+(n:Int)).toNat else min v.toNat n)=_;rw[if_neg (Int.not_lt.mpr h)]
theorem zlz {α:Type}(xs:List α){i j:Nat}(h1:i<=j)(h2:j<=xs.length):(cut xs (some (i:Int)) (some (j:Int))).length=j-i:=by unfold cut;rw[eu,jl,z5f (ju _),z5f (ju _),gk,gk,k9 h2,k9 (bx h1 h2)];exact k9 (qy h2 _)
structure BG (xs:List Int)(m:Nat)(w:Int)(ws:List Str)(rs cs re:List Int):Prop where
 w0:0<=w
 w1:w<2147483647
 gw:GW ws
 rg:RG rs
 cl:cs.length<=xs.length
 cm:cs.length<=m
 rl:re.length<=xs.length
 el:rs.length=1\/(ws.length=3/\∃n,∀w∈ws,w.length=n)
def bgD (w:Int)(ws:List Str)(rs cs re:List Int):D:=.tuple [.int w,.list (ws.map .str),.list (rs.map .int),.list (cs.map .int),.list (re.map .int)]
theorem ztg:binD .Pow (.int 10) (.int 21)=.ok (.int 1000000000000000000000):=rfl
theorem zjk {α:Type}(xs:List α)(m:Nat):(cut xs none (some (m:Int))).length<=m:=by unfold cut;rw[eu,z5f (ju _)];exact bx (nc _ _) (bx (Nat.sub_le _ _) (nc _ _))
theorem zri {α:Type}(xs:List α)(k m:Nat):(cut xs (some (k:Int)) (some ((k+m:Nat):Int))).length<=m:=by
 unfold cut;rw[eu,z5f (ju _),z5f (ju _),gk,gk];refine bx (nc _ _) ?_;by_cases h:k<=xs.length
 ·rw[k9 h];exact bx (qy (nc _ _) _) (pz (Nat.add_sub_cancel_left ..))
 ·rw[Nat.min_eq_right (Nat.le_of_not_le h)];exact bx (pz (Nat.sub_eq_zero_of_le (Nat.min_le_right _ _))) (dj _)
theorem zkq {xs:List Int}(hl:xs.length<=63){m o:Nat}(hm:m<=60)(o0:0<o)(o1:o<=6):∃w ws rs cs re,BG xs m w ws rs cs re/\∃g,zb7 [.list (xs.map .int),.int m,.int o]=.ok (g,bgD w ws rs cs re)/\g≠.od:=by
 suffices h:∃w ws rs cs re,BG xs m w ws rs cs re/\∃g,evS [] [z8y,z8l,z8p,z22] zgv [some (.od,.list (xs.map .int)),some (.od,.int m),some (.od,.int o),none,none,none,none,none]=.ok (.rt g (bgD w ws rs cs re))/\g≠.od by obtain⟨w,ws,rs,cs,re,h1,g,h2,h3⟩:=h;exact⟨w,ws,rs,cs,re,h1,g,z0j h2,h3⟩
 let Q:Res Out->Prop:=fun r=>∃w ws rs cs re,BG xs m w ws rs cs re/\∃g,r=.ok (.rt g (bgD w ws rs cs re))/\g≠.od
 show Q _;unfold zgv;obtain⟨w,⟨w0,w1⟩,hw⟩:=z3n (cut xs none (some 63)).sum (k:=5) (by decide) (by decide);obtain⟨v,⟨v0,v1⟩,hv⟩:=z3n (cut xs none (some 63)).sum (k:=6) (by decide) (by decide);have es:∀{Φ:List Fn} {ρ:Rho},ρ[0]?=some (some (.od,.list (xs.map .int)))->Vv [] Φ (.agg "sum" (.tv (.sl (.var 0) .nil (.tv (.int 63))))) ρ (.int (cut xs none (some 63)).sum):=fun h=>zna (e_sl (z01 h) z40 (z2u z04.e) (z2l _ _ _)) rfl (zmd _) rfl;refine q_ok (z0g (d:=.int w) (z07 (z00 (es rfl).e (z00 z04.e z03)) rfl hw rfl)) ?_;have hix:=z52 (ns:=xs++[0]) (i:=0) (by decide) (by rw[av];show(0:Int)<((xs.length+1:Nat):Int);omega);generalize (xs++[0]).getD (0:Int).toNat 0=h at hix;rw[cx]at hix;refine q_ok (z0g (d:=.int h) (v_ix (Ev.of (z60 (z01 rfl) (Ev.of (z1b (z02 z04 z0a))) (add_list (by rw[af];show xs.length+1<=1000;omega)) (by rw[show[PyData.int 0]=[(0:Int)].map .int from rfl,<-cx];exact z0r _))) z04.e hix rfl)) ?_;have ht:Tt [] [z8y,z8l,z8p,z22] (.tv (.cmp .Eq (.bin .Mod (.var 4) (.int 2)) (.int 0))) [some (.od,.list (xs.map .int)),some (.od,.int m),some (.od,.int o),some (.al,.int w),some (.al,.int h),none,none,none] (decide (h%2=0)):=t_tv (z0q (k:=decide (h%2=0)) (z0e (z01 rfl) z04.e (z1c (by decide)) rfl).e z04.e (by show Res.ok (eqD (.int _) (.int _))=_;rw[z2b])).e rfl;by_cases h2:h%2=0
 ·obtain⟨rs,rg,hr⟩:=zl8 (c:=v*1000000000000000000000+w) (by have :=Int.mul_nonneg v0 (show(0:Int)<=1000000000000000000000 by decide);omega);obtain⟨ws,⟨gw,g3⟩,hn⟩:=zht w0;obtain⟨g,hg,g0⟩:=zjf (Κ:=[]) (Φ:=[z8y,z8l,z8p,z22]) (ρ:=[some (.od,.list (xs.map .int)),some (.od,.int m),some (.od,.int o),some (.al,.int w),some (.al,.int h),some (.fr,.list (rs.map .int)),none,none]) (t:=.tup (.cons (.var 3) (.cons (.call 1 "_law_names" (.cons (.var 3) (.cons (.int 3) .nil))) (.cons (.var 5) (.cons (.sl (.var 0) .nil (.tv (.var 1))) (.cons (.var 0) .nil)))))) (d:=bgD w ws rs (cut xs none (some (m:Int))) xs) (fun i z=>by cases z) (zol (z00 (z01 rfl) (z00 (Ev.of (z16 (z00 (z01 rfl) (z00 z04.e z03)) rfl hn)) (z00 (z01 rfl) (z00 (e_sl (z01 rfl) z40 (z2u (z01 rfl)) (z2l _ _ _)) (z00 (z01 rfl) z03))))));refine q_rt (g:=g) (z0o ht (fun _=>z0b (z0z (z16 (z00 (z0e (z0e (z07 (z00 (es rfl).e (z00 z04.e z03)) rfl hv rfl).e (z0e z04.e z04.e ztg rfl).e (z56 ⟨by omega,by omega⟩) rfl).e (z01 rfl) rfl rfl).e z03) rfl hr) (z0r _)) (z09 hg)) fun z=>absurd h2 (vz z)) ⟨w,ws,rs,_,xs,⟨w0,w1,gw,rg,z15 _ _ _,zjk _ _,am _,.inr g3⟩,g,rfl,g0⟩
 ·refine z2e ht (v6 h2) ?_;generalize hq:h/2%(o:Int)=r;have r0:0<=r/\r<o:=by rw[<-hq];exact⟨gz _ (by omega),iq _ (by omega)⟩
  obtain⟨rn,rfl⟩:∃rn:Nat,r=rn:=⟨r.toNat,by omega⟩;have cl:(cut (xs++[0,0,0,0,0,0,0,0,0]) (some 1) (some (2+(rn:Int)))).length=2+rn-1:=zlz _ (i:=1) (j:=2+rn) (by omega) (by rw[av];show 2+rn<=xs.length+9;omega);obtain⟨ws,⟨nd,wl,ww⟩,hf⟩:=zkv (cs:=cut (xs++[0,0,0,0,0,0,0,0,0]) (some 1) (some (2+(rn:Int)))) (by omega) (by omega);have e9:repD [(.fr,.int 0)] (.int 9)=.ok (.fr,.list (([0,0,0,0,0,0,0,0,0]:List Int).map .int)):=rfl;have hsl:=(z1d ws).length_eq;refine q_ok (z0z (xs:=(srtW ws).map .str) (z7g (x:=.list (ws.map .str)) (w:=(true,ws.map .str)) (Ev.of (z16 (z00 (e_sl (Ev.of (z60 (z01 rfl) (Ev.of (zuw (z02 z04 z0a) z04.e e9)) (add_list (by rw[af];show xs.length+9<=1000;omega)) (by rw[<-cx];exact z0r _))) (z2u z04.e) (z2u (z0e z04.e (z0e (z0e (z01 rfl) z04.e (z24 (by decide) (by decide)) rfl).e (z01 rfl) (z1c (by omega)) rfl).e rfl rfl).e) (by rw[<-cx,z2l,hq])) z03) rfl hf)) rfl (z3o (by omega)) (z18 _)) (z18 _)) ?_;have hi2:=z52 (ns:=[1,2,4,30,1000000000000000000000000000000]) (i:=h/(2*o)%5) (by omega) (by show _<(5:Int);omega);generalize ht5:([1,2,4,30,1000000000000000000000000000000]:List Int).getD (h/(2*o)%5).toNat 0=t at hi2
  have t0:0<t/\t<=10 ^ 30:=by
   have hh:t∈([1,2,4,30,1000000000000000000000000000000]:List Int):=by rw[<-ht5];exact getD_mem (by omega) (by show _<(5:Int);omega)
   have hall:∀x∈([1,2,4,30,1000000000000000000000000000000]:List Int),0<x/\x<=10 ^ 30:=by decide
   exact hall t hh
  refine q_ok (z0g (d:=.int t) (v_ix (Ev.of (z1b (z02 z04 (z02 z04 (z02 z04 (z02 z04 (z02 z8i z0a))))))) (z0e (z0e (z01 rfl) (z0e z04.e (z01 rfl) (z56 (by decide)) rfl).e (z24 (by omega) (by omega)) rfl).e z04.e (z1c (by decide)) rfl).e hi2 rfl)) ?_;obtain⟨g,hg,g0⟩:=zjf (Κ:=[]) (Φ:=[z8y,z8l,z8p,z22]) (ρ:=[some (.od,.list (xs.map .int)),some (.od,.int m),some (.od,.int o),some (.al,.int w),some (.al,.int h),none,some (.fr,.list ((srtW ws).map .str)),some (.al,.int t)]) (t:=.tup (.cons (.var 3) (.cons (.var 6) (.cons (.lst (.cons (.var 7) .nil)) (.cons (.sl (.var 0) (.tv (.int 8)) (.tv (.bin .Add (.int 8) (.var 1)))) (.cons (.sl (.var 0) (.tv (.bin .Add (.int 8) (.var 1))) (.tv (.int 63))) .nil)))))) (d:=bgD w (srtW ws) [t] (cut xs (some 8) (some ((8+m:Nat):Int))) (cut xs (some ((8+m:Nat):Int)) (some 63))) (fun i z=>by cases z) (zol (z00 (z01 rfl) (z00 (z01 rfl) (z00 (Ev.of (z1b (z02 (v_var rfl rfl) z0a))) (z00 (e_sl (z01 rfl) (z2u z04.e) (z2u (z0e z04.e (z01 rfl) rfl rfl).e) (z2l _ _ _)) (z00 (e_sl (z01 rfl) (z2u (z0e z04.e (z01 rfl) rfl rfl).e) (z2u z04.e) (z2l _ _ _)) z03))))));refine q_rt hg ⟨w,srtW ws,[t],_,_,⟨w0,w1,⟨z63 nd,by omega,by omega,fun x hx=>ww x ((z1d _).mem_iff.mp hx)⟩,⟨?_,.inr ⟨t,rfl,t0⟩⟩,z15 _ _ _,zri xs 8 m,z15 _ _ _,.inl rfl⟩,g,rfl,g0⟩;intro r hr;rw[bp.mp hr];omega
structure PW (ws:List Str)(l:P):Prop where
 pk:PK l
 ks:∀k∈ks l,k∈ws
theorem PW.len {ws:List Str}{l:P}(h:PW ws l):l.length<=ws.length:=by
 have:=zey h.pk.nd h.ks;unfold Mk.ks at this
 rwa [af]at this
theorem z8o {ws:List Str}(h:Sw ws)(ds:List Int):PW ws (zp ws ds):=⟨zp4 h,fun k hk=>by obtain⟨p,hp,rfl⟩:=bt.mp hk;exact(i6 (cz.mp hp).1).1⟩
theorem z2d {Φ:List Fn}{ρ:Rho}{i:Nat}{g:G}{rs:List Int}(h:ρ[i]?=some (some (g,.list (rs.map .int)))):Tt [] Φ (.tv (.cmp .Eq (.bi "len" (.cons (.var i) .nil)) (.int 1))) ρ (decide (rs.length=1)):=by
 refine t_tv (z0q (k:=decide (rs.length=1)) (v_bi (z00 (z01 h) z03) (z3i rs) rfl).e z04.e ?_).e rfl;show Res.ok (eqD (.int _) (.int _))=_;rw[z2b]
 congr 1
 apply decide_eq_decide.mpr;omega
theorem len_strs (ws:List Str):biD "len" [.list (ws.map .str)]=.ok (.int (ws.length:Int)):=by show Res.ok (PyData.int ((ws.map PyData.str).length:Int))=_;rw[af]
theorem za9 {Φ:List Fn}{ρ:Rho}{i:Nat}{g:G}{t:Int}(h:ρ[i]?=some (some (g,.list ([t].map .int)))):Vv [] Φ (.bin .Add (.ix (.var i) (.int 0)) (.int 1)) ρ (.int (t+1)):=z0e (v_ix (d:=.int t) (z01 h) z04.e rfl rfl).e z04.e rfl rfl
theorem RG.not1 {rs:List Int}(h:rs.length=4):decide (rs.length=1)=false:=v6 (by omega)
theorem z4s (c:Int){ws:List Str}{rs:List Int}(gw:GW ws)(rg:RG rs):∃l,PW ws l/\z8w [.int c,.list (ws.map .str),.list (rs.map .int)]=.ok (.fr,pk l):=by
 suffices h:∃l,PW ws l/\evS [] [z3y,z1p] zh0 [some (.od,.int c),some (.od,.list (ws.map .str)),some (.od,.list (rs.map .int))]=.ok (.rt .fr (pk l)) by obtain⟨ns,h1,h2⟩:=h;exact⟨ns,h1,z0j h2⟩
 have w6:=gw.len;unfold zh0;rcases rg.cs with h4|⟨t,rfl,t0,t1⟩
 ·obtain⟨ds,⟨d1,d2⟩,hd⟩:=z2o c (n:=(ws.length:Int)) (b:=4) (by omega) (by omega) (by decide) (by decide);refine⟨zp ws (ds.map fun d=>rs.getD d.toNat 0),z8o gw.sw _,?_⟩;refine z1u (z2d rfl) (RG.not1 h4) ?_;have hc:=z2g (Κ:=[]) (Φ:=[z3y,z1p]) (ρ:=[some (.od,.int c),some (.od,.list (ws.map .str)),some (.od,.list (rs.map .int))]) (nt:=1) (js:=[2]) (N':=["_law_digit","_law_rungs_here"]) (tg:=.nm 0) (cond:=.nil) (elt:=.ix (.var 1) (.var 0)) (m:=PyData.int) (xs:=ds) (fun _=>true) (fun d=>.int (rs.getD d.toNat 0)) (w_tv (z16 (n:=1) (f:="_law_digits") (z00 (z01 (i:=0) rfl) (z00 (v_bi (f:="len") (z00 (z01 (i:=1) rfl) z03) (len_strs ws) rfl).e (z00 (z04 (i:=4)).e z03))) rfl hd) rfl) rfl (fun d=>[some (.al,.int d),some (.od,.list (rs.map .int))]) (fun d _=>rfl) (fun d _=>zd8) fun d hd' _=>v_ix (z01 rfl) (z01 rfl) (z52 (d2 d hd').1 (by have:=(d2 d hd').2;omega)) rfl;rw[jk.mpr (fun _ _=>rfl),show(ds.map fun d=>PyData.int (rs.getD d.toNat 0))=(ds.map fun d=>rs.getD d.toNat 0).map .int by rw[jc];rfl]at hc;exact z09 (z0f (z07 (z00 (z01 rfl) (z00 (Ev.of hc) z03)) rfl (z28 (by omega) (by rw[af];omega)) (z08 _)))
 ·obtain⟨ds,⟨d1,d2⟩,hd⟩:=z2o c (n:=(ws.length:Int)) (b:=t+1) (by omega) (by omega) (by omega) (by omega);refine⟨zp ws ds,z8o gw.sw _,?_⟩;exact z6i (z2d rfl) rfl (z09 (z0f (z07 (z00 (z01 rfl) (z00 (Ev.of (z16 (z00 (z01 rfl) (z00 (v_bi (z00 (z01 rfl) z03) (len_strs ws) rfl).e (z00 (za9 rfl).e z03))) rfl hd)) z03)) rfl (z28 (by omega) (by omega)) (z08 _))))
theorem zeo (c:Int){ws:List Str}{rs:List Int}(gw:GW ws)(rg:RG rs):∃f a,(PW ws f/\PW ws a)/\zaw [.int c,.list (ws.map .str),.list (rs.map .int)]=.ok (.fr,cs2 f a):=by
 suffices h:∃f a,(PW ws f/\PW ws a)/\evS [] [z8w,z22,z3y,z1p] zgg [some (.od,.int c),some (.od,.list (ws.map .str)),some (.od,.list (rs.map .int)),none]=.ok (.rt .fr (cs2 f a)) by obtain⟨f,a,h1,h2⟩:=h;exact⟨f,a,h1,z0j h2⟩
 have w6:=gw.len;unfold zgg;rcases rg.cs with h4|⟨t,rfl,t0,t1⟩
 ·obtain⟨m1,_,e1⟩:=z3n c (k:=1) (by decide) (by decide);obtain⟨m2,_,e2⟩:=z3n c (k:=2) (by decide) (by decide);obtain⟨f,pf,ef⟩:=z4s m1 gw rg;obtain⟨a,pa,ea⟩:=z4s m2 gw rg;refine⟨f,a,⟨pf,pa⟩,?_⟩;refine z1u (z2d rfl) (RG.not1 h4) ?_;exact z09 (z0f (z0x (z02 (z07 (z00 (z07 (z00 (z01 rfl) (z00 z04.e z03)) rfl e1 rfl).e (z00 (z01 rfl) (z00 (z01 rfl) z03))) rfl ef (z08 _)) (z02 (z07 (z00 (z07 (z00 (z01 rfl) (z00 z04.e z03)) rfl e2 rfl).e (z00 (z01 rfl) (z00 (z01 rfl) z03))) rfl ea (z08 _)) z0a))))
 ·obtain⟨ds,⟨d1,d2⟩,hd⟩:=z2o c (n:=2*(ws.length:Int)) (b:=t+1) (by omega) (by omega) (by omega) (by omega);refine⟨zp ws ds,zp ws (cut ds (some (ws.length:Int)) none),⟨z8o gw.sw _,z8o gw.sw _⟩,?_⟩;have hcl:=z15 ds (some (ws.length:Int)) none;exact z6i (z2d rfl) rfl (z0b (z0z (z16 (z00 (z01 rfl) (z00 (z0e z04.e (v_bi (z00 (z01 rfl) z03) (len_strs ws) rfl).e (z56 (by decide)) rfl).e (z00 (za9 rfl).e z03))) rfl hd) (z0r _)) (z09 (z0f (z0x (z02 (z07 (z00 (z01 rfl) (z00 (z01 rfl) z03)) rfl (z28 (by omega) (by omega)) (z08 _)) (z02 (z07 (z00 (z01 rfl) (z00 (e_sl (z01 rfl) (z2u (v_bi (z00 (z01 rfl) z03) (len_strs ws) rfl).e) z40 (z2l _ _ _)) z03)) rfl (z28 (by omega) (by omega)) (z08 _)) z0a))))))
def lsF (mi:Int->Int)(p:(Str×Int)×Int):Option (Str×Int):=if 0<min p.1.2 (mi p.2)then some (p.1.1,min p.1.2 (mi p.2))else none
theorem zee (mi:Int->Int):∀(a:P) (ds:List Int),(ks ((a.zip ds).filterMap (lsF mi))).Sublist (ks a)
 | [],_=>by simp[ks]
 |_::_,[]=>by simp[ks]
 |p::a,d::ds=>by
  rw[lh,dr];have ih:=zee mi a ds;unfold lsF at ih ⊢
  dsimp only
  split
  ·exact ih.cons _
  ·rename_i x hx;split at hx
   ·cases hx;exact ih.cons₂ _
   ·cases hx
theorem zry {l:P}:Sd l↔(ks l).Pairwise sl:=by unfold Sd ks;rw[j5]
theorem zsh {ws:List Str}{a:P}(h:PW ws a)(mi:Int->Int)(ds:List Int):PW ws ((a.zip ds).filterMap (lsF mi)):=by
 refine⟨⟨zry.mpr ((zry.mp h.pk.sd).sublist (zee mi a ds)),fun p hp=>?_⟩,fun k hk=>h.ks k ((zee mi a ds).subset hk)⟩;obtain⟨q,_,hq⟩:=ip.mp hp;unfold lsF at hq;split at hq
 ·cases hq;assumption
 ·cases hq
theorem zw6 {ws:List Str}{a:P}(h:PW ws a)(mi:Int->Int)(ds:List Int):wi ((a.zip ds).filterMap (lsF mi)) a=true:=by
 unfold wi;rw[ko,ig];intro p hp z;obtain⟨x,hx,e⟩:=ip.mp hp;have hm:x.1∈a:=(i6 (a:=x.1) (b:=x.2) hx).1;unfold lsF at e;split at e
 ·cases e;have:=vy z;rw[h.pk.look_mem hm]at this;exact Int.not_le.mpr this (Int.min_le_left _ _)
 ·cases e
theorem z7v {ws:List Str}{a:P}(ha:PW ws a)(gw:GW ws)(c:Int){rs:List Int}(rg:RG rs):∃r,(PW ws r/\wi r a=true)/\z6c [pk a,.int c,.list (rs.map .int)]=.ok (.fr,pk r):=by
 suffices h:∃r,(PW ws r/\wi r a=true)/\evS [] [z1p] zhu [some (.od,pk a),some (.od,.int c),some (.od,.list (rs.map .int)),none,none,none,none,none]=.ok (.rt .fr (pk r)) by obtain⟨ns,h1,h2⟩:=h;exact⟨ns,h1,z0j h2⟩
 let Q:Res Out->Prop:=fun z=>∃r,(PW ws r/\wi r a=true)/\z=.ok (.rt .fr (pk r))
 show Q _;have w6:=gw.len;have al:=ha.len;unfold zhu;refine q_ok (z0g (d:=.int 4) z04) ?_
 obtain⟨b,b0,b1,hb⟩:∃b:Int,0<b/\b<2 ^ 200/\(rs.length=4/\b=4\/∃t,rs=[t]/\b=t+1):=by
  rcases rg.cs with h4|⟨t,h,t0,t1⟩
  ·exact⟨4,by decide,by decide,.inl ⟨h4,rfl⟩⟩
  ·exact⟨t+1,by omega,by omega,.inr ⟨t,h,rfl⟩⟩
 refine q_ok (ρ':=[some (.od,pk a),some (.od,.int c),some (.od,.list (rs.map .int)),some (.al,.int b),none,none,none,none]) ?_ ?_
 ·rcases hb with⟨h4,rfl⟩|⟨t,rfl,rfl⟩
  ·exact z0o (z2d rfl) (fun z=>by rw[RG.not1 h4]at z;cases z) fun _=>z0k
  ·exact z0o (z2d rfl) (fun _=>z0b (z0g (za9 rfl)) z0k) fun z=>by cases z
 refine q_ok (z0z (z1b z0a) rfl) ?_;have hla:biD "len" [pk a]=.ok (.int (a.length:Int)):=by show Res.ok (PyData.int ((a.map pr).length:Int))=_;rw[af]
 obtain⟨ds,⟨d1,d2⟩,hd⟩:=z2o c (n:=(a.length:Int)) (b:=b) (by omega) (by omega) b0 b1;have hz:=zmz (Κ:=[]) (Φ:=[z1p]) (ρ:=[some (.od,pk a),some (.od,.int c),some (.od,.list (rs.map .int)),some (.al,.int b),some (.fr,.list []),none,none,none]) (v_var (i:=0) rfl (z08 a)).1 (z16 (n:=0) (f:="_law_digits") (z00 (z01 (i:=1) rfl) (z00 (v_bi (f:="len") (z00 (z01 (i:=0) rfl) z03) hla rfl).e (z00 (z01 (i:=3) rfl) z03))) rfl hd) rfl rfl (zrz (z90 a) (by rw[af];omega)) (z5s (z0r ds) (by rw[af];omega));rw[zfu]at hz
 let mi:Int->Int:=fun d=>if rs.length=1 then d else rs.getD d.toNat 0
 refine zkl hz (fun pre ρ=>∃u5 u6 u7,ρ=[some (.od,pk a),some (.od,.int c),some (.od,.list (rs.map .int)),some (.al,.int b),some (.fr,.list ((pre.filterMap (lsF mi)).map pr)),u5,u6,u7]) ⟨none,none,none,rfl⟩ ?_ ?_
 ·rintro pre x post ρ hx ⟨u5,u6,u7,rfl⟩
  have hp:pre.length<6:=by have:=congrArg j8 hx;rw[List.length_zip,av,br]at this;omega
  have hxd:x.2∈ds:=(i6 (a:=x.1) (b:=x.2) (l₁:=a) (l₂:=ds) (by rw[hx];exact ay _ ak)).2;have hfl:=List.length_filterMap_le (lsF mi) pre
  have hmine:∀{u7:Option GD},evS [] [z1p] (.ifS (.tv (.cmp .Gt (.bi "len" (.cons (.var 2) .nil)) (.int 1))) (.seq (.asg (.nm 7) (.ix (.var 2) (.var 6))) .nil) .nil) [some (.od,pk a),some (.od,.int c),some (.od,.list (rs.map .int)),some (.al,.int b),some (.fr,.list ((pre.filterMap (lsF mi)).map pr)),some (.al,pr x.1),some (.al,.int x.2),some (.al,.int x.2)]=.ok (.nx [some (.od,pk a),some (.od,.int c),some (.od,.list (rs.map .int)),some (.al,.int b),some (.fr,.list ((pre.filterMap (lsF mi)).map pr)),some (.al,pr x.1),some (.al,.int x.2),some (.al,.int (mi x.2))]):=by
   intro _;have ht:Tt [] [z1p] (.tv (.cmp .Gt (.bi "len" (.cons (.var 2) .nil)) (.int 1))) [some (.od,pk a),some (.od,.int c),some (.od,.list (rs.map .int)),some (.al,.int b),some (.fr,.list ((pre.filterMap (lsF mi)).map pr)),some (.al,pr x.1),some (.al,.int x.2),some (.al,.int x.2)] (decide ((1:Int)<rs.length)):=t_tv (z0q (v_bi (z00 (z01 rfl) z03) (z3i rs) rfl).e z04.e rfl).e rfl;rcases hb with⟨h4,rfl⟩|⟨t,rfl,rfl⟩
   ·have hm:mi x.2=rs.getD x.2.toNat 0:=if_neg (by omega);rw[hm];refine z0o ht (fun _=>z0b (z0g (d:=.int (rs.getD x.2.toNat 0)) (v_ix (z01 rfl) (z01 rfl) (z52 (d2 _ hxd).1 (by have:=(d2 _ hxd).2;omega)) rfl)) z0k) fun z=>?_;have:=vz z;omega
   ·have hm:mi x.2=x.2:=if_pos rfl;rw[hm];exact z0o ht (fun z=>by have:=vy z;simp at this) fun _=>z0k
  have hmin:∀{ρ:Rho},ρ[5]?=some (some (.al,pr x.1))->ρ[7]?=some (some (.al,.int (mi x.2)))->Vv [] [z1p] (.bi "min" (.cons (.ix (.var 5) (.int 1)) (.cons (.var 7) .nil))) ρ (.int (min x.1.2 (mi x.2))):=fun h5 h7=>v_bi (z00 (v_ix (d:=.int x.1.2) (z01 h5) z04.e rfl rfl).e (z00 (z01 h7) z03)) (zus _ _) rfl;by_cases hpos:0<min x.1.2 (mi x.2)
  ·refine⟨_,_,z2q (zj1 x.1) rfl,z0b (z0g (d:=.int x.2) (v_var rfl rfl)) (z0b (hmine (u7:=none)) (z0b (z0o (t_tv (z0q (k:=decide (0<min x.1.2 (mi x.2))) (hmin rfl rfl).e z04.e rfl).e rfl) (fun _=>z0b (zbg (xs:=(pre.filterMap (lsF mi)).map pr) (x:=pr (x.1.1,min x.1.2 (mi x.2))) (z0x (z02 (v_ix (d:=.str x.1.1) (z01 rfl) z04.e rfl rfl) (z02 (hmin rfl rfl) z0a))) rfl (by rw[af];omega)) z0k) fun z=>absurd hpos (vz z)) z0k)),some (.al,pr x.1),some (.al,.int x.2),some (.al,.int (mi x.2)),?_⟩;have e:lsF mi x=some (x.1.1,min x.1.2 (mi x.2)):=if_pos hpos;rw[qi,dr,e,cx];rfl
  ·refine⟨_,_,z2q (zj1 x.1) rfl,z0b (z0g (d:=.int x.2) (v_var rfl rfl)) (z0b (hmine (u7:=none)) (z0b (z0o (t_tv (z0q (k:=decide (0<min x.1.2 (mi x.2))) (hmin rfl rfl).e z04.e rfl).e rfl) (fun z=>absurd (vy z) hpos) fun _=>z0k) z0k)),some (.al,pr x.1),some (.al,.int x.2),some (.al,.int (mi x.2)),?_⟩;have e:lsF mi x=none:=if_neg hpos;rw[qi,dr,e,List.filterMap_nil,gv]
 ·rintro ρ ⟨u5,u6,u7,rfl⟩
  exact q_rt (z0f (zna (w:=(true,((a.zip ds).filterMap (lsF mi)).map pr)) (z01 rfl) rfl rfl (z08 _))) ⟨_,⟨zsh ha mi ds,zw6 ha mi ds⟩,rfl⟩
theorem zbl {a b c:P}(ha:PK a)(hb:PK b)(hc:PK c)(h:wi a b=true)(k:wi b c=true):wi a c=true:=(z5o ha hc).mpr fun n=>Int.le_trans ((z5o ha hb).mp h n) ((z5o hb hc).mp k n)
theorem z3d {a:P}(ha:PK a):wi a a=true:=(z5o ha ha).mpr fun _=>va _
structure RW (ws:List Str)(p:Bool×P×P×P):Prop where
 f:PW ws p.2.1
 a:PW ws p.2.2.1
 r:PW ws p.2.2.2
 w:wi p.2.2.2 (own p.1 p.2.1 p.2.2.1)=true
def mr (p:Bool×P×P×P):D:=rl p.1 p.2.1 p.2.2.1 p.2.2.2
theorem z0u (p:Bool×P×P×P):imm (mr p)=true:=zsa _ _ _ _
theorem zok {Φ:List Fn}{ρ:Rho}{t:C}{w:Int}(h:Ev [] Φ t ρ (.int (w%2))):Vv [] Φ (.ix (.lst (.cons (.str "for") (.cons (.str "against") .nil))) t) ρ (.str (sd (decide (w%2=0)))):=by
 refine v_ix (Ev.of (z1b (z02 z1r (z02 z1r z0a)))) h ?_ rfl;rcases(show w%2=0\/w%2=1 by omega)with e|e
 ·rw[e];rfl
 ·rw[e];rfl
theorem zit {ws:List Str}(h:Sw ws)(ow th:List Int):wi (zp ws ((ow.zip th).map fun p=>min p.1 p.2)) (zp ws ow)=true:=by
 unfold wi;rw[ko,ig];intro p hp z;obtain⟨h1,h2⟩:=cz.mp hp;have h0:=vy h2;obtain⟨i,hi⟩:=jf h1;obtain⟨a1,a2⟩:=kt.mp hi;rw[bw,dz]at a2;obtain⟨x,hx,ex⟩:=a2;obtain⟨b1,b2⟩:=kt.mp hx;have hle:p.2<=x.1:=by rw[<-ex];exact Int.min_le_left _ _
 have hm:(p.1,x.1)∈zp ws ow:=cz.mpr ⟨bc (kt.mpr ⟨a1,b1⟩),v5 (Int.lt_of_lt_of_le h0 hle)⟩;have:=vy z;rw[(zp4 h).look_mem hm]at this;exact Int.not_le.mpr this hle
theorem zud {α:Type}(xs:List α):cut xs (some 0) none=xs:=by unfold cut;rw[z5f (va 0)];simp only[Int.toNat_zero,Nat.zero_min,List.drop_zero,Nat.sub_zero];exact jt (am _)
theorem z6a (c:Int){ws:List Str}(gw:GW ws){b:Int}(b0:0<b)(b1:b<2 ^ 200):∃p,RW ws p/\zbm [.int c,.list (ws.map .str),.int b]=.ok (.fr,mr p):=by
 have w6:=gw.len;obtain⟨ds,⟨d1,d2⟩,hd⟩:=z2o (c/2) (n:=3*(ws.length:Int)) (b:=b) (by omega) (by omega) b0 b1
 let ow:=cut ds (some (c%2*(ws.length:Int))) none
 let th:=cut ds (some (2*(ws.length:Int))) none
 have l1:ow.length<=ds.length:=z15 _ _ _;have l2:th.length<=ds.length:=z15 _ _ _;have l3:=z15 ds (some (ws.length:Int)) none;refine⟨(decide (c%2=0),zp ws ds,zp ws (cut ds (some (ws.length:Int)) none),zp ws ((ow.zip th).map fun p=>min p.1 p.2)),⟨z8o gw.sw _,z8o gw.sw _,z8o gw.sw _,?_⟩,z0j ?_⟩
 ·show wi (zp ws ((ow.zip th).map fun p=>min p.1 p.2)) (own (decide (c%2=0)) (zp ws ds) (zp ws (cut ds (some (ws.length:Int)) none)))=true;rcases(show c%2=0\/c%2=1 by omega)with e|e
  ·rw[v5 e];have eo:ow=ds:=by show cut ds (some (c%2*(ws.length:Int))) none=ds;rw[e,Int.zero_mul];exact zud ds
   rw[eo];exact zit gw.sw _ _
  ·rw[v6 (by omega)];have eo:ow=cut ds (some (ws.length:Int)) none:=by show cut ds (some (c%2*(ws.length:Int))) none=_;rw[e,Int.one_mul]
   rw[eo];exact zit gw.sw _ _
 unfold zk3;refine z0b (z0g (d:=.int ws.length) (v_bi (z00 (z01 rfl) z03) (len_strs ws) rfl)) ?_;refine z0b (z0z (z16 (z00 (z0e (z01 rfl) z04.e (z24 (by decide) (by decide)) rfl).e (z00 (z0e z04.e (z01 rfl) (z56 (by decide)) rfl).e (z00 (z01 rfl) z03))) rfl hd) (z0r _)) ?_;have sL:∀{Φ:List Fn} {ρ:Rho} {i:Nat} {g:G} {xs:List Int} {t:C} {k:Int},ρ[i]?=some (some (g,.list (xs.map .int)))->Ev [] Φ t ρ (.int k)->Ev [] Φ (.sl (.var i) (.tv t) .nil) ρ (.list ((cut xs (some k) none).map .int)):=fun h k=>e_sl (z01 h) (z2u k) z40 (z2l _ _ _);obtain⟨g5,e5⟩:=sL (Φ:=[z3y,z1p]) (ρ:=[some (.od,.int c),some (.od,.list (ws.map .str)),some (.od,.int b),some (.al,.int ws.length),some (.fr,.list (ds.map .int)),none,none,none]) (i:=4) (t:=.bin .Mult (.bin .Mod (.var 0) (.int 2)) (.var 3)) (k:=c%2*(ws.length:Int)) rfl (z0e (z0e (z01 rfl) z04.e (z1c (by decide)) rfl).e (z01 rfl) (zn4 ⟨by omega,by omega⟩) rfl).e
 obtain⟨g6,e6⟩:∃g6,evS [] [z3y,z1p] (.asg (.nm 5) (.sl (.var 4) (.tv (.bin .Mult (.bin .Mod (.var 0) (.int 2)) (.var 3))) .nil)) [some (.od,.int c),some (.od,.list (ws.map .str)),some (.od,.int b),some (.al,.int ws.length),some (.fr,.list (ds.map .int)),none,none,none]=.ok (.nx [some (.od,.int c),some (.od,.list (ws.map .str)),some (.od,.int b),some (.al,.int ws.length),some (.fr,.list (ds.map .int)),some (g6,.list (ow.map .int)),none,none]):=by
  have:∀g:G,∃g',z1j (g,.list (ow.map .int))=(g',.list (ow.map .int)):=fun g=>by
   cases g
   ·exact⟨_,show(if imms (ow.map .int)=true then G.fr else .nu,PyData.list (ow.map .int))=(G.fr,_) by rw[z0r];rfl⟩
   ·exact⟨.od,rfl⟩
   ·exact⟨.al,rfl⟩
   ·exact⟨.nu,rfl⟩
  obtain⟨g',hg'⟩:=this g5;refine⟨g',?_⟩;show(evE _ _ _ _>>=fun x=>Res.ok (Out.nx (List.set _ 5 (some (z1j x)))))=_;rw[e5,Res.ok_bind];show Res.ok (Out.nx (List.set _ 5 (some (z1j (g5,.list (ow.map .int))))))=_;rw[hg'];rfl
 refine z0b e6 ?_;have hz:=zhz (Κ:=[]) (Φ:=[z3y,z1p]) (ρ:=[some (.od,.int c),some (.od,.list (ws.map .str)),some (.od,.int b),some (.al,.int ws.length),some (.fr,.list (ds.map .int)),some (g6,.list (ow.map .int)),none,none]) (z01 (i:=5) rfl) (sL (i:=4) (t:=.bin .Mult (.int 2) (.var 3)) (k:=2*(ws.length:Int)) rfl (z0e z04.e (z01 rfl) (z56 (by decide)) rfl).e) (z5s (z0r ow) (by rw[af];exact bx l1 (by omega))) (z5s (z0r th) (by rw[af];exact bx l2 (by omega)));rw[zfu]at hz;have hc:=z2g (nt:=1) (js:=[]) (N':=["_law_pair"]) (tg:=.nm 0) (cond:=.nil) (elt:=.bi "min" (.cons (.var 0) .nil)) (m:=fun p:Int×Int=>PyData.tuple [.int p.1,.int p.2]) (xs:=ow.zip th) (fun _=>true) (fun p=>.int (min p.1 p.2)) hz rfl (fun p=>[some (.al,.tuple [.int p.1,.int p.2])]) (fun p _=>rfl) (fun p _=>zd8) fun p _ _=>v_bi (z00 (z01 rfl) z03) rfl rfl;rw[jk.mpr (fun _ _=>rfl),show((ow.zip th).map fun p=>PyData.int (min p.1 p.2))=((ow.zip th).map fun p=>min p.1 p.2).map .int by rw[jc];rfl]at hc;refine z0b (z0z hc (z0r _)) ?_;refine z0b (z0g (d:=cs2 (zp ws ds) (zp ws (cut ds (some (ws.length:Int)) none))) (z0x (z02 (z07 (z00 (z01 rfl) (z00 (z01 rfl) z03)) rfl (z28 (by omega) (by omega)) (z08 _)) (z02 (z07 (z00 (z01 rfl) (z00 (sL rfl (z01 rfl)) z03)) rfl (z28 (by omega) (by omega)) (z08 _)) z0a)))) ?_;exact z09 (z0f (z0x (z02 (v_var rfl (z1w _ _)) (z02 (zok (z0e (z01 rfl) z04.e (z1c (by decide)) rfl).e) (z02 (z07 (z00 (z01 rfl) (z00 (z01 rfl) z03)) rfl (z28 (by omega) (by rw[af,List.length_zip];omega)) (z08 _)) z0a)))))
theorem z4l (c:Int){ws:List Str}{rs:List Int}(gw:GW ws)(rg:RG rs):∃p,RW ws p/\zb4 [.int c,.list (ws.map .str),.list (rs.map .int)]=.ok (.fr,mr p):=by
 suffices h:∃p,RW ws p/\evS [] [z6c,z22,zaw,zbm] zh1 [some (.od,.int c),some (.od,.list (ws.map .str)),some (.od,.list (rs.map .int)),none,none,none]=.ok (.rt .fr (mr p)) by obtain⟨ns,h1,h2⟩:=h;exact⟨ns,h1,z0j h2⟩
 let Q:Res Out->Prop:=fun z=>∃p,RW ws p/\z=.ok (.rt .fr (mr p))
 show Q _;unfold zh1;rcases rg.cs with h4|⟨t,rfl,t0,t1⟩
 ·refine z2e (z2d rfl) (RG.not1 h4) ?_;obtain⟨f,a,⟨pf,pa⟩,ec⟩:=zeo c gw rg;obtain⟨w,_,ew⟩:=z3n c (k:=3) (by decide) (by decide);obtain⟨v,_,ev⟩:=z3n c (k:=4) (by decide) (by decide);refine q_ok (z0g (d:=cs2 f a) (z07 (z00 (z01 rfl) (z00 (z01 rfl) (z00 (z01 rfl) z03))) rfl ec (z1w _ _))) ?_;refine q_ok (z0g (d:=.int w) (z07 (z00 (z01 rfl) (z00 z04.e z03)) rfl ew rfl)) ?_
  let b:=decide (w%2=0)
  have po:PW ws (own b f a):=by cases hb:b<;>assumption
  have eo:ixD (cs2 f a) (.int (w%2))=.ok (pk (own b f a)):=by
   rcases(show w%2=0\/w%2=1 by omega)with e|e
   ·have :b=true:=v5 e;rw[e,this];rfl
   ·have :b=false:=v6 (by omega);rw[e,this];rfl
  refine q_ok (z0g (d:=pk (own b f a)) (v_ix (z01 rfl) (z0e (z01 rfl) z04.e (z1c (by decide)) rfl).e eo (z08 _))) ?_;obtain⟨r0,pr0,er0⟩:=z7v po gw v rg
  obtain⟨r,pr1,e5⟩:∃r,(PW ws r/\wi r (own b f a)=true)/\evS [] [z6c,z22,zaw,zbm] (.ifS (.tv (.cmp .Gt (.bin .Mod (.bin .FloorDiv (.var 4) (.int 2)) (.int 4)) (.int 0))) (.seq (.asg (.nm 5) (.call 0 "_law_less" (.cons (.var 5) (.cons (.call 1 "_law_mix" (.cons (.var 0) (.cons (.int 4) .nil))) (.cons (.var 2) .nil))))) .nil) .nil) [some (.od,.int c),some (.od,.list (ws.map .str)),some (.od,.list (rs.map .int)),some (.al,cs2 f a),some (.al,.int w),some (.al,pk (own b f a))]=.ok (.nx [some (.od,.int c),some (.od,.list (ws.map .str)),some (.od,.list (rs.map .int)),some (.al,cs2 f a),some (.al,.int w),some (.al,pk r)]):=by
   have ht:Tt [] [z6c,z22,zaw,zbm] (.tv (.cmp .Gt (.bin .Mod (.bin .FloorDiv (.var 4) (.int 2)) (.int 4)) (.int 0))) [some (.od,.int c),some (.od,.list (ws.map .str)),some (.od,.list (rs.map .int)),some (.al,cs2 f a),some (.al,.int w),some (.al,pk (own b f a))] (decide (0<w/2%4)):=t_tv (z0q (z0e (z0e (z01 rfl) z04.e (z24 (by decide) (by decide)) rfl).e z04.e (z1c (by decide)) rfl).e z04.e rfl).e rfl;by_cases hh:0<w/2%4
   ·exact⟨r0,pr0,z0o ht (fun _=>z0b (z0g (d:=pk r0) (z07 (z00 (z01 rfl) (z00 (z07 (z00 (z01 rfl) (z00 z04.e z03)) rfl ev rfl).e (z00 (z01 rfl) z03))) rfl er0 (z08 _))) z0k) fun z=>absurd hh (vz z)⟩
   ·exact⟨own b f a,⟨po,z3d po.pk⟩,z0o ht (fun z=>absurd (vy z) hh) fun _=>z0k⟩
  refine q_ok e5 ?_;exact q_rt (z0f (z0x (z02 (v_var rfl (z1w _ _)) (z02 (zok (z0e (z01 rfl) z04.e (z1c (by decide)) rfl).e) (z02 (v_var rfl (z08 _)) z0a))))) ⟨(b,f,a,r),⟨pf,pa,pr1.1,pr1.2⟩,rfl⟩
 ·obtain⟨p,hp,ep⟩:=z6a c gw (b:=t+1) (by omega) (by omega);exact q_rt (g:=.fr) (z0o (z2d rfl) (fun _=>z09 (z0f (z07 (z00 (z01 rfl) (z00 (z01 rfl) (z00 (za9 rfl).e z03))) rfl ep (z0u p)))) fun z=>by cases z) ⟨p,hp,rfl⟩
theorem zap {ρ:Rho}{g:G}{i j:Nat}(p:Str×Int):z1i (.tp [i,j]) (gJ (pr p) g,pr p) ρ=.ok ((ρ.set i (some (.al,.str p.1))).set j (some (.al,.int p.2))):=z2q rfl rfl
theorem zgm {l:P}(h:PK l)(w:Str):zcw [pk l,.str w]=.ok (.fr,.int (look l w)):=by
 unfold zcw;refine z0j ?_
 let Q:Res Out->Prop:=fun z=>z=.ok (.rt .fr (.int (look l w)))
 show Q _;unfold zl1;refine ze4 (m:=pr) (xs:=l) (zr6 (g:=.od) rfl (by decide) (z08 l) rfl) (fun pre ρ=>(∀p∈pre,p.1≠w)/\∃u2 u3,ρ=[some (.od,pk l),some (.od,.str w),u2,u3]) ⟨(fun _ h=>by cases h),none,none,rfl⟩ ?_ ?_
 ·rintro pre p post ρ hx ⟨hn,u2,u3,rfl⟩
  refine⟨_,zap p,?_⟩;have ht:Tt [] [] (.tv (.cmp .Eq (.var 2) (.var 1))) [some (.od,pk l),some (.od,.str w),some (.al,.str p.1),some (.al,.int p.2)] (decide (p.1=w)):=t_tv (z0q (k:=decide (p.1=w)) (z01 rfl) (z01 rfl) (by show Res.ok (eqD (.str _) (.str _))=_;rw[z2c])).e rfl;by_cases hw:p.1=w
  ·refine .inr ⟨.fr,.int p.2,z09 (z0o ht (fun _=>z09 (z0f (v_var rfl rfl))) fun z=>absurd hw (vz z)),?_⟩;show _=_;rw[<-hw,h.look_mem (by rw[hx];exact ay _ ak)]
  ·refine .inl ⟨_,z0b (z0o ht (fun z=>absurd (vy z) hw) fun _=>z0k) z0k,fun q hq=>?_,_,_,rfl⟩;rcases b9.mp hq with z|z
   ·exact hn q z
   ·rw[bp.mp z];exact hw
 ·rintro ρ ⟨hn,u2,u3,rfl⟩
  have e:look l w=0:=by unfold look;rw[z35];rfl;intro hk;obtain⟨p,hp,e⟩:=bt.mp hk;exact hn p hp e
  show evS _ _ _ _=_;rw[e];exact z09 (z0f z04)
theorem z5e {a b:P}(hb:PK b):z6r [pk a,pk b]=.ok (.fr,.bool (wi a b)):=by
 unfold z6r;refine z0j ?_
 let Q:Res Out->Prop:=fun z=>z=.ok (.rt .fr (.bool (wi a b)))
 show Q _;unfold zmy;refine ze4 (m:=pr) (xs:=a) (zr6 (g:=.od) rfl (by decide) (z08 a) rfl) (fun pre ρ=>(∀p∈pre,¬look b p.1<p.2)/\∃u2 u3,ρ=[some (.od,pk a),some (.od,pk b),u2,u3]) ⟨(fun _ h=>by cases h),none,none,rfl⟩ ?_ ?_
 ·rintro pre p post ρ hx ⟨hn,u2,u3,rfl⟩
  refine⟨_,zap p,?_⟩;have ht:Tt [] [zcw] (.tv (.cmp .Gt (.var 3) (.call 0 "_law_amount" (.cons (.var 1) (.cons (.var 2) .nil))))) [some (.od,pk a),some (.od,pk b),some (.al,.str p.1),some (.al,.int p.2)] (decide (look b p.1<p.2)):=t_tv (z0q (z01 rfl) (z07 (z00 (z01 rfl) (z00 (z01 rfl) z03)) rfl (zgm hb p.1) rfl).e rfl).e rfl;by_cases hw:look b p.1<p.2
  ·refine .inr ⟨.fr,.bool false,z09 (z0o ht (fun _=>z09 (z0f v_bl)) fun z=>absurd hw (vz z)),?_⟩;show _=_;have:wi a b=false:=by unfold wi;rw[List.isEmpty_eq_false_iff];exact List.ne_nil_of_mem (a:=p) (cz.mpr ⟨by rw[hx];exact ay _ ak,v5 hw⟩)
   rw[this]
  ·refine .inl ⟨_,z0b (z0o ht (fun z=>absurd (vy z) hw) fun _=>z0k) z0k,fun q hq=>?_,_,_,rfl⟩;rcases b9.mp hq with z|z
   ·exact hn q z
   ·rw[bp.mp z];exact hw
 ·rintro ρ ⟨hn,u2,u3,rfl⟩
  have e:wi a b=true:=by unfold wi;rw[ko,ig];intro p hp z;exact hn p hp (vy z)
  show evS _ _ _ _=_;rw[e];exact z09 (z0f v_bl)
theorem zcv (b:Bool):z5x [.str (sd b)]=.ok (.fr,.int (if b then 0 else 1)):=by cases b<;>rfl
def agp (p q:Bool×P×P×P):Bool:=ag p.1 p.2.1 p.2.2.1 p.2.2.2 q.1 q.2.1 q.2.2.1 q.2.2.2
structure GR (p:Bool×P×P×P):Prop where
 f:PK p.2.1
 a:PK p.2.2.1
 r:PK p.2.2.2
theorem RW.gr {ws:List Str}{p:Bool×P×P×P}(h:RW ws p):GR p:=⟨h.f.pk,h.a.pk,h.r.pk⟩
theorem mr_1 {Φ:List Fn}{ρ:Rho}{i:Nat}{g:G}{p:Bool×P×P×P}(h:ρ[i]?=some (some (g,mr p))):Vv [] Φ (.ix (.var i) (.int 1)) ρ (.str (sd p.1)):=v_ix (z01 h) z04.e rfl rfl
theorem mr_2 {Φ:List Fn}{ρ:Rho}{i:Nat}{g:G}{p:Bool×P×P×P}(h:ρ[i]?=some (some (g,mr p))):Vv [] Φ (.ix (.var i) (.int 2)) ρ (pk p.2.2.2):=v_ix (z01 h) z04.e rfl (z08 _)
theorem mr_0 {Φ:List Fn}{ρ:Rho}{i:Nat}{g:G}{p:Bool×P×P×P}(h:ρ[i]?=some (some (g,mr p))):Vv [] Φ (.ix (.var i) (.int 0)) ρ (cs2 p.2.1 p.2.2.1):=v_ix (z01 h) z04.e rfl (z1w _ _)
theorem znd (b:Bool)(f a:P):ixD (cs2 f a) (.int (if b then 0 else 1))=.ok (pk (own b f a)):=by cases b<;>rfl
theorem zby {p q:Bool×P×P×P}(hp:GR p)(hq:GR q):z8e [mr p,mr q]=.ok (.fr,.bool (agp p q)):=by
 unfold z8e;refine z0j ?_;unfold zl3;have ht:Tt [] [z6r,z5x] (.tv (.cmp .Eq (.ix (.var 0) (.int 1)) (.ix (.var 1) (.int 1)))) [some (.od,mr p),some (.od,mr q)] (p.1==q.1):=t_tv (z0q (k:=p.1==q.1) (mr_1 rfl).e (mr_1 rfl).e (by show Res.ok (sd p.1==sd q.1)=_;rw[zk6])).e rfl;cases hb:p.1==q.1 with
 |true=>
  have e:agp p q=false:=by unfold agp ag;rw[hb];rfl
  rw[e];exact z6i ht hb (z09 (z0f v_bl))
 |false=>
  refine z1u ht hb ?_;have e:agp p q=(wi p.2.2.2 (own p.1 q.2.1 q.2.2.1)&&wi q.2.2.2 (own q.1 p.2.1 p.2.2.1)):=by unfold agp ag;rw[hb];rfl
  rw[e];exact z09 (z0f (v_and (z07 (z00 (mr_2 rfl).e (z00 (v_ix (mr_0 rfl).e (z07 (z00 (mr_1 rfl).e z03) rfl (zcv p.1) rfl).e (znd p.1 _ _) (z08 _)).e z03)) rfl (z5e (z23 hq.f hq.a)) rfl).e fun _=>z07 (z00 (mr_2 rfl).e (z00 (v_ix (mr_0 rfl).e (z07 (z00 (mr_1 rfl).e z03) rfl (zcv q.1) rfl).e (znd q.1 _ _) (z08 _)).e z03)) rfl (z5e (z23 hp.f hp.a)) rfl))
theorem znu {α:Type}(xs:List α):xs.zipIdx.map (fun x=>PyData.int x.2)=(cu xs.length).map fun(i:Nat)=>.int i:=by rw[show(fun x:α×Nat=>PyData.int x.2)=(fun(i:Nat)=>PyData.int i)∘Prod.snd from rfl,<-jc,List.zipIdx_map_snd,List.range_eq_range']
theorem zaf {α β:Type}{G:α->Option β}{pre post:List α}{x:α}{v:β}(h:∀y∈pre,G y=none)(hx:G x=some v):(pre++x::post).findSome? G=some v:=by rw[List.findSome?_append,iu.mpr h,List.findSome?_cons,hx];rfl
theorem z8m {α β:Type}{G:α->Option β}{xs:List α}(h:∀y∈xs,G y=none):xs.findSome? G=none:=iu.mpr h
def fcG (q:Bool×P×P×P)(x:(Bool×P×P×P)×Nat):Option Nat:=if agp x.1 q then some x.2 else none
def fc (ps:List (Bool×P×P×P))(q:Bool×P×P×P):Option Nat:=ps.zipIdx.findSome? (fcG q)
theorem z0v (ps:List (Bool×P×P×P)):imms (ps.map mr)=true:=zed z0u ps
theorem zqk {Κ:List D}{Φ:List Fn}{ρ:Rho}{i:Nat}{ps:List (Bool×P×P×P)}(h:ρ[i]?=some (some (.od,.list (ps.map mr))))(hl:ps.length<=100):evF Κ Φ (.enum (.var i)) ρ=.ok (.al,ps.zipIdx.map fun x=>.tuple [.int x.2,mr x.1],ρ):=by
 have e:evE Κ Φ (.var i) ρ=.ok (.od,.list (ps.map mr)):=by rw[z8j];rw[h];rfl
 rw[zum e rfl (z5s (z0v ps) (by rw[af];omega)),zio]
theorem za3 {α β:Type}{G:α->Option β}{pre:List α}{x:α}(h:∀y∈pre,G y=none)(hx:G x=none):∀y∈pre++[x],G y=none:=fun y hy=>by
 rcases b9.mp hy with z|z
 ·exact h y z
 ·rw[bp.mp z];exact hx
theorem zcd (ps:List (Bool×P×P×P)):biD "len" [.list (ps.map mr)]=.ok (.int (ps.length:Int)):=by show Res.ok (PyData.int ((ps.map mr).length:Int))=_;rw[af]
theorem ix_B {ps:List (Bool×P×P×P)}{x:(Bool×P×P×P)×Nat}(h:ps[x.2]?=some x.1):ixD (.list (ps.map mr)) (.int x.2)=.ok (mr x.1):=by have hlt:x.2<ps.length:=(cy.mp h).1;rw[ix_m mr x.1 (by omega) (by omega)];rw[bo,show(x.2:Int).toNat=x.2 from rfl,h];rfl
def trG (ps:List (Bool×P×P×P))(x:(Bool×P×P×P)×Nat):Option (Nat×Nat):=(fc (ps.take x.2) x.1).map fun k=>(k,x.2)
def tr (ps:List (Bool×P×P×P)):Option (Nat×Nat):=ps.zipIdx.findSome? (trG ps)
def dT:Option (Nat×Nat)->D
 |none=>.none
 |some x=>.tuple [.int x.1,.int x.2]
theorem zqj {Κ:List D}{Φ:List Fn}{ρ:Rho}{t:C}{is:List Nat}{ds:List D}{g:G}(h:evE Κ Φ t ρ=.ok (g,.tuple ds)){ρ':Rho}(hs:z3g ρ is ds g=some ρ'):evS Κ Φ (.asg (.tp is) t) ρ=.ok (.nx ρ'):=by show(evE Κ Φ t ρ>>=fun x=>z1i (.tp is) x ρ>>=fun ρ'=>Res.ok (Out.nx ρ'))=_;rw[h,Res.ok_bind];show(Res.ofO (z3g ρ is ds g)>>=fun ρ'=>Res.ok (Out.nx ρ'))=_;rw[hs];rfl
def bgR (xs:List Int)(w:Int)(ws:List Str)(rs cs re:List Int)(tl:Rho):Rho:=some (.od,.list (xs.map .int))::some (.al,.int w)::some (.al,.list (ws.map .str))::some (.al,.list (rs.map .int))::some (.al,.list (cs.map .int))::some (.al,.list (re.map .int))::tl
theorem zma {xs:List Int}(hl:xs.length<=63){m o k:Nat}(hm:m<=60)(o0:0<o)(o1:o<=6){Φ:List Fn}(hk:Φ[k]?=some zb7)(tl:Rho):∃w ws rs cs re,BG xs m w ws rs cs re/\evS [] Φ (.asg (.tp [1,2,3,4,5]) (.call k "_law_begun" (.cons (.var 0) (.cons (.int m) (.cons (.int o) .nil))))) (some (.od,.list (xs.map .int))::none::none::none::none::none::tl)=.ok (.nx (bgR xs w ws rs cs re tl)):=by
 obtain⟨w,ws,rs,cs,re,hb,g,eb,g0⟩:=zkq hl hm o0 o1;refine⟨w,ws,rs,cs,re,hb,?_⟩
 have hgg:∃g',g'≠.od/\evE [] Φ (.call k "_law_begun" (.cons (.var 0) (.cons (.int m) (.cons (.int o) .nil)))) (some (.od,.list (xs.map .int))::none::none::none::none::none::tl)=.ok (g',bgD w ws rs cs re):=by
  refine⟨gJ (bgD w ws rs cs re) (rtG g),?_,?_⟩
  ·show(if imm (bgD w ws rs cs re)=true then G.fr else rtG g)≠ .od;cases g<;>first|(exact(g0 rfl).elim)|(cases imm (bgD w ws rs cs re)<;>decide)
  ·obtain⟨ys,ha,hy⟩:=(z00 (Κ:=[]) (Φ:=Φ) (ρ:=some (.od,.list (xs.map .int))::none::none::none::none::none::tl) (z01 (i:=0) rfl) (z00 (z04 (i:=m)).e (z00 (z04 (i:=o)).e z03)));rw[z9s,ha,Res.ok_bind,hk];show(zb7 (ys.map (·.2))>>=_)=_;rw[hy,eb];rfl
 obtain⟨g',g1,eg⟩:=hgg;have sl:∀d,z2j (gJ d g',d)=(.al,d):=fun d=>by unfold gJ;cases g'<;>first|(exact(g1 rfl).elim)|(cases hd:imm d<;>rfl)
 refine zqj eg ?_;show some ((((((some (.od,.list (xs.map .int))::none::none::none::none::none::tl:Rho).set 1 (some (z2j (gJ (.int w) g',.int w)))).set 2 (some (z2j (gJ (.list (ws.map .str)) g',.list (ws.map .str))))).set 3 (some (z2j (gJ (.list (rs.map .int)) g',.list (rs.map .int))))).set 4 (some (z2j (gJ (.list (cs.map .int)) g',.list (cs.map .int))))).set 5 (some (z2j (gJ (.list (re.map .int)) g',.list (re.map .int)))))=_;rw[sl,sl,sl,sl,sl];rfl
theorem z65 (l:List (Bool×P×P×P)):z0m 39 (l.map mr)=true:=z0s.mpr fun z hz=>by
 obtain⟨p,_,rfl⟩:=bt.mp hz;show z0m 38 [cs2 p.2.1 p.2.2.1,.str (sd p.1),pk p.2.2.2]=true;refine z0s.mpr fun w hw=>?_;simp only[aw,cw,or_false]at hw;rcases hw with rfl|rfl|rfl
 ·show z0m 37 [pk p.2.1,pk p.2.2.1]=true;refine z0s.mpr fun w hw=>?_;simp only[aw,cw,or_false]at hw;rcases hw with rfl|rfl<;>exact z1s 35 _
 ·rfl
 ·exact z1s 36 _
def bip (p:Bool×P×P×P)(f a:P):Bool:=bi p.1 p.2.1 p.2.2.1 p.2.2.2 f a
theorem zth {ws:List Str}{p:Bool×P×P×P}(gw:GW ws)(hp:RW ws p){f a:P}(hf:PW ws f)(ha:PW ws a):F_z8 [mr p,cs2 f a]=.ok (.fr,.bool (bip p f a)):=by have h1:=hp.r.len;have h2:=hf.len;have h3:=ha.len;have h4:=gw.len;exact e_z8 hp.f.pk hp.a.pk hf.pk ha.pk (by omega) (by omega) (by omega)
theorem zc0 (b:Bool):binD .Sub (.int 1) (.int (if b then 0 else 1))=.ok (.int (if !b then 0 else 1)):=by cases b<;>rfl
theorem zg6 {Φ:List Fn}{ρ:Rho}{t u:C}{b:Bool}{f a:P}(h:Ev [] Φ t ρ (cs2 f a))(h2:Ev [] Φ u ρ (.int (if b then 0 else 1))):Vv [] Φ (.ix t u) ρ (pk (own b f a)):=v_ix h h2 (znd b f a) (z08 _)
theorem zaz {p:Bool×P×P×P}(hp:GR p){f a:P}(hf:PK f)(ha:PK a):ze8 [mr p,cs2 f a]=.ok (.fr,.bool (bip p f a)):=by
 unfold ze8;refine z0j ?_;unfold zkj;refine z0b (z0g (z07 (z00 (mr_1 rfl).e z03) rfl (zcv p.1) rfl)) ?_;have e:bip p f a=(wi p.2.2.2 (own p.1 f a)&&wi (own (!p.1) f a) (own (!p.1) p.2.1 p.2.2.1)):=by unfold bip bi;rw[z2m,z2m]
 rw[e];exact z09 (z0f (v_and (z07 (z00 (mr_2 rfl).e (z00 (zg6 (z01 rfl) (z01 rfl)).e z03)) rfl (z5e (z23 hf ha)) rfl).e fun _=>z07 (z00 (zg6 (b:=!p.1) (z01 rfl) (z0e z04.e (z01 rfl) (zc0 p.1) rfl).e).e (z00 (zg6 (b:=!p.1) (mr_0 rfl).e (z0e z04.e (z01 rfl) (zc0 p.1) rfl).e).e z03)) rfl (z5e (z23 hp.f hp.a)) rfl))
def bdG (f a:P)(x:(Bool×P×P×P)×Nat):Option (Bool×Nat):=if bip x.1 f a then some (x.1.1,x.2)else none
def bd (ps:List (Bool×P×P×P))(f a:P):Option (Bool×Nat):=ps.zipIdx.findSome? (bdG f a)
def dB:Option (Bool×Nat)->D
 |none=>.none
 |some x=>.tuple [.str (sd x.1),.int x.2]
theorem zob (o:Option (Bool×Nat)):imm (dB o)=true:=by cases o<;>rfl
theorem e_z9 {ws:List Str}(gw:GW ws){ps:List (Bool×P×P×P)}(hp:∀p∈ps,RW ws p){f a:P}(hf:PW ws f)(ha:PW ws a)(hl:ps.length<=100):F_z9 [.list (ps.map mr),cs2 f a]=.ok (.fr,dB (bd ps f a)):=by
 unfold F_z9;refine z0j ?_
 let Q:Res Out->Prop:=fun z=>z=.ok (.rt .fr (dB (bd ps f a)))
 show Q _;unfold S_z9;refine ze4 (m:=fun x:(Bool×P×P×P)×Nat=>.tuple [.int x.2,mr x.1]) (xs:=ps.zipIdx) (zqk rfl hl) (fun pre ρ=>(∀y∈pre,bdG f a y=none)/\∃u2 u3,ρ=[some (.od,.list (ps.map mr)),some (.od,cs2 f a),u2,u3]) ⟨(fun _ h=>by cases h),none,none,rfl⟩ ?_ ?_
 ·rintro pre x post ρ hx ⟨hn,u2,u3,rfl⟩
  have hm:x.1∈ps:=bc (z5j (by rw[hx];exact ay _ ak));refine⟨_,z2q rfl (z0u x.1),?_⟩;have ht:Tt [] [F_z8] (.tv (.call 0 "binds" (.cons (.var 3) (.cons (.var 1) .nil)))) [some (.od,.list (ps.map mr)),some (.od,cs2 f a),some (.al,.int x.2),some (.al,mr x.1)] (bip x.1 f a):=t_tv (z07 (z00 (z01 rfl) (z00 (z01 rfl) z03)) rfl (zth gw (hp _ hm) hf ha) rfl).e rfl;cases hb:bip x.1 f a with
  |true=>
   refine .inr ⟨.fr,.tuple [.str (sd x.1.1),.int x.2],z09 (z0o ht (fun _=>z09 (z0f (z0x (z02 (mr_1 rfl) (z02 (v_var rfl rfl) z0a))))) fun z=>by rw[hb]at z;cases z),?_⟩;show _=_;have e:bd ps f a=some (x.1.1,x.2):=by unfold bd;rw[hx];exact zaf hn (by unfold bdG;rw[hb];rfl)
   rw[e];rfl
  |false=>exact .inl ⟨_,z0b (z0o ht (fun z=>by rw[hb]at z;cases z) fun _=>z0k) z0k,za3 hn (by unfold bdG;rw[hb];rfl),_,_,rfl⟩
 ·rintro ρ ⟨hn,u2,u3,rfl⟩
  have e:bd ps f a=none:=z8m hn;show evS _ _ _ _=_;rw[e];exact z09 (z0f zi6)
theorem zf8 (ps:List (Bool×P×P×P)):cmpD .Eq (.list (ps.map mr)) (.list [])=.ok ps.isEmpty:=by rw[eq_nil _ (z65 ps),jo]
theorem zjr {Φ:List Fn}{ρ:Rho}{i:Nat}{g:G}{ps:List (Bool×P×P×P)}(h:ρ[i]?=some (some (g,.list (ps.map mr)))):Tt [] Φ (.tv (.cmp .Eq (.var i) (.lst .nil))) ρ ps.isEmpty:=t_tv (z0q (z01 h) (Ev.of (z1b z0a)) (zf8 ps)).e rfl
theorem zag (p q:Bool×P×P×P):agp q p=agp p q:=zne _ _ _ _ _ _ _ _
theorem z9w (p:Bool×P×P×P):agp p p=false:=by unfold agp ag;rw[beq_self_eq_true];rfl
def Wh (ps:List (Bool×P×P×P)):Prop:=∀p∈ps,∀q∈ps,agp p q=false
theorem zl4:∀{ps:List (Bool×P×P×P)},(ps.Pairwise fun p q=>agp q p=false)->Wh ps
 | [],_=>fun _ h=>by cases h
 |x::ps,h=>by
  obtain⟨h1,h2⟩:=cj.1 h;intro p hp q hq;rcases aw.mp hp with u|u<;>rcases aw.mp hq with v|v
  ·rw[u,v];exact z9w _
  ·rw[u,<-zag];exact h1 q v
  ·rw[v];exact h1 p u
  ·exact zl4 h2 p u q v
theorem zdo {ps:List (Bool×P×P×P)}{f a:P}{x:Bool×Nat}(h:bd ps f a=some x):∃p,ps[x.2]?=some p/\p.1=x.1/\bip p f a=true:=by
 obtain⟨y,hy,e⟩:=lz h;unfold bdG at e;split at e
 ·cases e;exact⟨y.1,z5j hy,rfl,by assumption⟩
 ·cases e
theorem zlp {ps:List (Bool×P×P×P)}{f a:P}(h:bd ps f a=none){p:Bool×P×P×P}(hp:p∈ps):bip p f a=false:=by
 obtain⟨i,hi⟩:=jf hp;have:=iu.mp h (p,i) (eh.mpr hi);unfold bdG at this;cases hb:bip p f a with
 |false=>rfl
 |true=>rw[show bip (p,i).1 f a=true from hb]at this;cases this
theorem zcz (b:Bool)(f a:P):opp b f a=own (!b) f a:=(z2m b f a).symm
theorem bi_and {p:Bool×P×P×P}{f a:P}(h:bip p f a=true):wi p.2.2.2 (own p.1 f a)=true/\wi (own (!p.1) f a) (own (!p.1) p.2.1 p.2.2.1)=true:=by unfold bip bi at h;rw[zcz,zcz]at h;exact ar.mp h
theorem zfw {ps:List (Bool×P×P×P)}(hw:Wh ps)(hg:∀p∈ps,GR p){f a:P}(hf:PK f)(ha:PK a){p q:Bool×P×P×P}(hp:p∈ps)(hq:q∈ps)(h:bip p f a=true)(k:bip q f a=true):p.1=q.1:=by
 cases hb:(p.1==q.1)with
 |true=>exact eq_of_beq hb
 |false=>
  have hq1:q.1=!p.1:=by cases hp1:p.1<;>cases hq1:q.1<;>first|rfl|(rw[hp1,hq1]at hb;cases hb)
  obtain⟨h1,h2⟩:=bi_and h;obtain⟨k1,k2⟩:=bi_and k;have:agp p q=true:=by unfold agp ag;rw[hb];rw[hq1,Bool.not_not]at k2;rw[hq1]at k1;rw[zbl (hg p hp).r (z23 hf ha) (z23 (hg q hq).f (hg q hq).a) h1 k2,hq1,zbl (hg q hq).r (z23 hf ha) (z23 (hg p hp).f (hg p hp).a) k1 h2];rfl
  rw[hw p hp q hq]at this;cases this
theorem zd0 (ps:List (Bool×P×P×P)):cmpD .NotEq (.list (ps.map mr)) (.list [])=.ok (!ps.isEmpty):=by show(if(z0m 39 (ps.map mr)&&z0m 39 [])=true then Res.ok (!(PyData.eqvAll (ps.map mr) []))else .no)=_;rw[z65];cases ps<;>rfl
theorem zrj {ws:List Str}{rs:List Int}(gw:GW ws)(rg:RG rs)(c:Int):∀{p:Bool×P×P×P},RW ws p->∃q,RW ws q/\zgb [mr p,.int c,.list (ws.map .str),.list (rs.map .int)]=.ok (.fr,mr q):=by
 rintro⟨b,f,a,r⟩ hp
 suffices h:∃q,RW ws q/\evS [] [z6c,z22,z8w,z5x] zhv [some (.od,mr (b,f,a,r)),some (.od,.int c),some (.od,.list (ws.map .str)),some (.od,.list (rs.map .int)),none,none,none,none]=.ok (.rt .fr (mr q)) by obtain⟨q,h1,h2⟩:=h;exact⟨q,h1,z0j h2⟩
 let Q:Res Out->Prop:=fun z=>∃q,RW ws q/\z=.ok (.rt .fr (mr q))
 show Q _;unfold zhv;have hf:PW ws f:=hp.f;have ha:PW ws a:=hp.a;have hr:PW ws r:=hp.r;obtain⟨w,_,ew⟩:=z3n c (k:=11) (by decide) (by decide);obtain⟨w2,_,ew2⟩:=z3n c (k:=12) (by decide) (by decide);obtain⟨w3,_,ew3⟩:=z3n c (k:=13) (by decide) (by decide);obtain⟨z,hz,ez⟩:=z4s w2 gw rg;obtain⟨zr,hzr,ezr⟩:=z7v hz gw w3 rg;obtain⟨fl,hfl,efl⟩:=z7v hf gw w2 rg;obtain⟨al,hal,eal⟩:=z7v ha gw w2 rg;obtain⟨r2,hr2,er2⟩:=z7v hr gw w2 rg;refine q_ok (z0g (d:=.int (w%6)) (z0e (z07 (z00 (z01 rfl) (z00 z04.e z03)) rfl ew rfl).e z04.e (z1c (by decide)) rfl)) ?_;refine q_ok (z0g (z07 (z00 (mr_1 rfl).e z03) rfl (zcv b) rfl)) ?_;refine q_ok (z0z (xs:=[pk f,pk a]) (z1b (z02 (v_ix (d:=pk f) (mr_0 rfl).e z04.e rfl (z08 f)) (z02 (v_ix (d:=pk a) (mr_0 rfl).e z04.e rfl (z08 a)) z0a))) (zed z08 [f,a])) ?_;generalize w%6=k;have m2:∀{ρ:Rho},ρ[1]?=some (some (.od,.int c))->Ev [] [z6c,z22,z8w,z5x] (.call 1 "_law_mix" (.cons (.var 1) (.cons (.int 12) .nil))) ρ (.int w2):=fun h=>(z07 (z00 (z01 h) (z00 z04.e z03)) rfl ew2 rfl).e;by_cases h0:k=0
 ·exact q_rt (g:=.fr) (z0o (z1h (z01 rfl)) (fun _=>z09 (z0f (v_var rfl (z0u _)))) fun z=>absurd h0 (vz z)) ⟨_,hp,rfl⟩
 refine z2e (z1h (z01 rfl)) (v6 h0) ?_;cases b with
 |true=>
  by_cases h1:k=1
  ·exact q_rt (g:=.fr) (z0o (z1h (z01 rfl)) (fun _=>z0b (z5h (j:=0) (n:=0) (z07 (z00 (m2 rfl) (z00 (z01 rfl) (z00 (z01 rfl) z03))) rfl ez (z08 z)) (z01 rfl) rfl rfl) (z0b (z0g (z07 (z00 (v_ix (d:=pk z) (z01 rfl) (z01 rfl) rfl (z08 z)).e (z00 (z07 (z00 (z01 rfl) (z00 z04.e z03)) rfl ew3 rfl).e (z00 (z01 rfl) z03))) rfl ezr (z08 zr))) (z09 (z0f (z0x (z02 (z0x (z02 (v_ix (d:=pk z) (z01 rfl) z04.e rfl (z08 z)) (z02 (v_ix (d:=pk a) (z01 rfl) z04.e rfl (z08 a)) z0a))) (z02 (mr_1 (p:=(true,f,a,r)) rfl) (z02 (v_var rfl (z08 zr)) z0a)))))))) fun z=>absurd h1 (vz z)) ⟨(true,z,a,zr),⟨hz,ha,hzr.1,hzr.2⟩,rfl⟩
  refine z2e (z1h (z01 rfl)) (v6 h1) ?_;by_cases h2:k=2
  ·exact q_rt (g:=.fr) (z0o (z1h (z01 rfl)) (fun _=>z0b (z5h (j:=1) (n:=1) (z07 (z00 (v_ix (d:=pk a) (z01 rfl) (z0e (d:=.int 1) z04.e (z01 rfl) rfl rfl).e rfl (z08 a)).e (z00 (m2 rfl) (z00 (z01 rfl) z03))) rfl eal (z08 al)) (z0e (d:=.int 1) z04.e (z01 rfl) rfl rfl).e rfl rfl) (z09 (z0f (z0x (z02 (z0x (z02 (v_ix (d:=pk f) (z01 rfl) z04.e rfl (z08 f)) (z02 (v_ix (d:=pk al) (z01 rfl) z04.e rfl (z08 al)) z0a))) (z02 (mr_1 (p:=(true,f,a,r)) rfl) (z02 (mr_2 (p:=(true,f,a,r)) rfl) z0a))))))) fun z=>absurd h2 (vz z)) ⟨(true,f,al,r),⟨hf,hal.1,hr,hp.w⟩,rfl⟩
  refine z2e (z1h (z01 rfl)) (v6 h2) ?_;by_cases h3:k=3
  ·exact q_rt (g:=.fr) (z0o (z1h (z01 rfl)) (fun _=>z09 (z0f (z0x (z02 (mr_0 (p:=(true,f,a,r)) rfl) (z02 (mr_1 (p:=(true,f,a,r)) rfl) (z02 (z07 (z00 (mr_2 (p:=(true,f,a,r)) rfl).e (z00 (m2 rfl) (z00 (z01 rfl) z03))) rfl er2 (z08 r2)) z0a)))))) fun z=>absurd h3 (vz z)) ⟨(true,f,a,r2),⟨hf,ha,hr2.1,zbl hr2.1.pk hr.pk (z23 hf.pk ha.pk) hr2.2 hp.w⟩,rfl⟩
  refine z2e (z1h (z01 rfl)) (v6 h3) ?_;by_cases h4:k=4
  ·exact q_rt (g:=.fr) (z0o (z1h (z01 rfl)) (fun _=>z09 (z0f (z0x (z02 (mr_0 (p:=(true,f,a,r)) rfl) (z02 (mr_1 (p:=(true,f,a,r)) rfl) (z02 (v_ix (d:=pk f) (z01 rfl) (z01 rfl) rfl (z08 f)) z0a)))))) fun z=>absurd h4 (vz z)) ⟨(true,f,a,f),⟨hf,ha,hf,z3d hf.pk⟩,rfl⟩
  refine z2e (z1h (z01 rfl)) (v6 h4) ?_;refine q_ok (z5h (j:=0) (n:=0) (mr_2 (p:=(true,f,a,r)) rfl) (z01 rfl) rfl rfl) ?_;exact q_rt (g:=.fr) (z0f (z0x (z02 (z0x (z02 (v_ix (d:=pk r) (z01 rfl) z04.e rfl (z08 r)) (z02 (v_ix (d:=pk a) (z01 rfl) z04.e rfl (z08 a)) z0a))) (z02 (mr_1 (p:=(true,f,a,r)) rfl) (z02 (mr_2 (p:=(true,f,a,r)) rfl) z0a))))) ⟨(true,r,a,r),⟨hr,ha,hr,z3d hr.pk⟩,rfl⟩
 |false=>
  by_cases h1:k=1
  ·exact q_rt (g:=.fr) (z0o (z1h (z01 rfl)) (fun _=>z0b (z5h (j:=1) (n:=1) (z07 (z00 (m2 rfl) (z00 (z01 rfl) (z00 (z01 rfl) z03))) rfl ez (z08 z)) (z01 rfl) rfl rfl) (z0b (z0g (z07 (z00 (v_ix (d:=pk z) (z01 rfl) (z01 rfl) rfl (z08 z)).e (z00 (z07 (z00 (z01 rfl) (z00 z04.e z03)) rfl ew3 rfl).e (z00 (z01 rfl) z03))) rfl ezr (z08 zr))) (z09 (z0f (z0x (z02 (z0x (z02 (v_ix (d:=pk f) (z01 rfl) z04.e rfl (z08 f)) (z02 (v_ix (d:=pk z) (z01 rfl) z04.e rfl (z08 z)) z0a))) (z02 (mr_1 (p:=(false,f,a,r)) rfl) (z02 (v_var rfl (z08 zr)) z0a)))))))) fun z=>absurd h1 (vz z)) ⟨(false,f,z,zr),⟨hf,hz,hzr.1,hzr.2⟩,rfl⟩
  refine z2e (z1h (z01 rfl)) (v6 h1) ?_;by_cases h2:k=2
  ·exact q_rt (g:=.fr) (z0o (z1h (z01 rfl)) (fun _=>z0b (z5h (j:=0) (n:=0) (z07 (z00 (v_ix (d:=pk f) (z01 rfl) (z0e (d:=.int 0) z04.e (z01 rfl) rfl rfl).e rfl (z08 f)).e (z00 (m2 rfl) (z00 (z01 rfl) z03))) rfl efl (z08 fl)) (z0e (d:=.int 0) z04.e (z01 rfl) rfl rfl).e rfl rfl) (z09 (z0f (z0x (z02 (z0x (z02 (v_ix (d:=pk fl) (z01 rfl) z04.e rfl (z08 fl)) (z02 (v_ix (d:=pk a) (z01 rfl) z04.e rfl (z08 a)) z0a))) (z02 (mr_1 (p:=(false,f,a,r)) rfl) (z02 (mr_2 (p:=(false,f,a,r)) rfl) z0a))))))) fun z=>absurd h2 (vz z)) ⟨(false,fl,a,r),⟨hfl.1,ha,hr,hp.w⟩,rfl⟩
  refine z2e (z1h (z01 rfl)) (v6 h2) ?_;by_cases h3:k=3
  ·exact q_rt (g:=.fr) (z0o (z1h (z01 rfl)) (fun _=>z09 (z0f (z0x (z02 (mr_0 (p:=(false,f,a,r)) rfl) (z02 (mr_1 (p:=(false,f,a,r)) rfl) (z02 (z07 (z00 (mr_2 (p:=(false,f,a,r)) rfl).e (z00 (m2 rfl) (z00 (z01 rfl) z03))) rfl er2 (z08 r2)) z0a)))))) fun z=>absurd h3 (vz z)) ⟨(false,f,a,r2),⟨hf,ha,hr2.1,zbl hr2.1.pk hr.pk (z23 hf.pk ha.pk) hr2.2 hp.w⟩,rfl⟩
  refine z2e (z1h (z01 rfl)) (v6 h3) ?_;by_cases h4:k=4
  ·exact q_rt (g:=.fr) (z0o (z1h (z01 rfl)) (fun _=>z09 (z0f (z0x (z02 (mr_0 (p:=(false,f,a,r)) rfl) (z02 (mr_1 (p:=(false,f,a,r)) rfl) (z02 (v_ix (d:=pk a) (z01 rfl) (z01 rfl) rfl (z08 a)) z0a)))))) fun z=>absurd h4 (vz z)) ⟨(false,f,a,a),⟨hf,ha,ha,z3d ha.pk⟩,rfl⟩
  refine z2e (z1h (z01 rfl)) (v6 h4) ?_;refine q_ok (z5h (j:=1) (n:=1) (mr_2 (p:=(false,f,a,r)) rfl) (z01 rfl) rfl rfl) ?_;exact q_rt (g:=.fr) (z0f (z0x (z02 (z0x (z02 (v_ix (d:=pk f) (z01 rfl) z04.e rfl (z08 f)) (z02 (v_ix (d:=pk r) (z01 rfl) z04.e rfl (z08 r)) z0a))) (z02 (mr_1 (p:=(false,f,a,r)) rfl) (z02 (mr_2 (p:=(false,f,a,r)) rfl) z0a))))) ⟨(false,f,r,r),⟨hf,hr,hr,z3d hr.pk⟩,rfl⟩
theorem z7n {ws:List Str}{rs:List Int}(gw:GW ws)(rg:RG rs)(cs:List Int)(hl:cs.length<=100):∃qs:List (Bool×P×P×P),((∀q∈qs,RW ws q)/\qs.length<=cs.length/\qs.Pairwise fun p q=>agp q p=false)/\zh9 [.list (cs.map .int),.list (ws.map .str),.list (rs.map .int)]=.ok (.fr,.list (qs.map mr)):=by
 let Φ:List Fn:=[z8e,z22,zgb,zb4]
 suffices h:∃qs:List (Bool×P×P×P),((∀q∈qs,RW ws q)/\qs.length<=cs.length/\qs.Pairwise fun p q=>agp q p=false)/\evS [] Φ zgy [some (.od,.list (cs.map .int)),some (.od,.list (ws.map .str)),some (.od,.list (rs.map .int)),none,none,none]=.ok (.rt .fr (.list (qs.map mr))) by obtain⟨ns,h1,h2⟩:=h;exact⟨ns,h1,z0j h2⟩
 let Q:Res Out->Prop:=fun z=>∃qs:List (Bool×P×P×P),((∀q∈qs,RW ws q)/\qs.length<=cs.length/\qs.Pairwise fun p q=>agp q p=false)/\z=.ok (.rt .fr (.list (qs.map mr)))
 show Q _;unfold zgy;refine q_ok (z0z (z1b z0a) rfl) ?_
 let R:List (Bool×P×P×P)->Option GD->Option GD->Rho:=fun qs u4 u5=>[some (.od,.list (cs.map .int)),some (.od,.list (ws.map .str)),some (.od,.list (rs.map .int)),some (.fr,.list (qs.map mr)),u4,u5]
 refine q_nm (m:=PyData.int) (xs:=cs) (f_od rfl rfl rfl) (fun _=>rfl) (fun pre ρ=>∃(qs:List (Bool×P×P×P)) (u4 u5:Option GD),ρ=R qs u4 u5/\(∀q∈qs,RW ws q)/\qs.length<=pre.length/\qs.Pairwise fun p q=>agp q p=false) ⟨[],none,none,rfl,(fun _ h=>by cases h),am _,List.Pairwise.nil⟩ ?_ ?_
 ·rintro pre c post ρ hx ⟨qs,u4,u5,rfl,h1,h2,h3⟩
  have hpl:pre.length<100:=by have:=congrArg j8 hx;rw[av,br]at this;omega
  obtain⟨p0,hp0,e0⟩:=z4l c gw rg;refine q_ok (z0g (d:=mr p0) (z07 (z00 (z01 rfl) (z00 (z01 rfl) (z00 (z01 rfl) z03))) rfl e0 (z0u p0))) ?_;obtain⟨m4,_,em4⟩:=z3n c (k:=14) (by decide) (by decide);obtain⟨m5,_,em5⟩:=z3n c (k:=15) (by decide) (by decide);have ht:Tt [] Φ _ _ (!qs.isEmpty&&(decide ((1:Int)<rs.length)&&decide ((0:Int)<m4%3))):=z3x (Κ:=[]) (Φ:=Φ) (ρ:=R qs (some (.al,.int c)) (some (.al,mr p0))) (t_tv (z0q (z01 (i:=3) rfl) (Ev.of (z1b z0a)) (zd0 qs)).e rfl) fun _=>z3x (t_tv (z0q (op:=.Gt) (k:=decide ((1:Int)<rs.length)) (v_bi (z00 (z01 (i:=2) rfl) z03) (z3i rs) rfl).e (z04 (i:=1)).e rfl).e rfl) fun _=>t_tv (z0q (op:=.Gt) (k:=decide ((0:Int)<m4%3)) (z0e (d:=.int (m4%3)) (z07 (n:=1) (f:="_law_mix") (z00 (z01 (i:=4) rfl) (z00 (z04 (i:=14)).e z03)) rfl em4 rfl).e (z04 (i:=3)).e (z1c (by decide)) rfl).e (z04 (i:=0)).e rfl).e rfl
  obtain⟨p,hp,ep⟩:∃p,RW ws p/\evS [] Φ (.ifS (.and (.tv (.cmp .NotEq (.var 3) (.lst .nil))) (.and (.tv (.cmp .Gt (.bi "len" (.cons (.var 2) .nil)) (.int 1))) (.tv (.cmp .Gt (.bin .Mod (.call 1 "_law_mix" (.cons (.var 4) (.cons (.int 14) .nil))) (.int 3)) (.int 0))))) (.seq (.asg (.nm 5) (.call 2 "_law_twin" (.cons (.ix (.var 3) (.bin .Mod (.call 1 "_law_mix" (.cons (.var 4) (.cons (.int 15) .nil))) (.bi "len" (.cons (.var 3) .nil)))) (.cons (.var 4) (.cons (.var 1) (.cons (.var 2) .nil)))))) .nil) .nil) (R qs (some (.al,.int c)) (some (.al,mr p0)))=.ok (.nx (R qs (some (.al,.int c)) (some (.al,mr p)))):=by
   cases hk:(!qs.isEmpty&&(decide ((1:Int)<rs.length)&&decide ((0:Int)<m4%3)))with
   |false=>rw[hk]at ht;exact⟨p0,hp0,z0o ht (fun z=>by cases z) fun _=>z0k⟩
   |true=>
    rw[hk]at ht
    have hne:0<qs.length:=by
     have:=(ar.mp hk).1;cases qs with
     |nil=>cases this
     |cons _ _=>exact qa _
    have hi0:=gz m5 (show(qs.length:Int)≠0 by omega);have hi1:=iq m5 (show 0<(qs.length:Int) by omega);obtain⟨q0,hq0⟩:∃q0,q0∈qs:=⟨qs[0],fg _⟩;have hix:=ix_m mr (xs:=qs) q0 hi0 hi1;have hm:qs.getD (m5%(qs.length:Int)).toNat q0∈qs:=getD_mem hi0 hi1;generalize qs.getD (m5%(qs.length:Int)).toNat q0=q at hix hm;obtain⟨p,hp,ep⟩:=zrj gw rg c (h1 q hm);exact⟨p,hp,z0o ht (fun _=>z0b (z0g (d:=mr p) (z07 (z00 (v_ix (d:=mr q) (z01 rfl) (z0e (z07 (z00 (z01 rfl) (z00 z04.e z03)) rfl em5 rfl).e (v_bi (z00 (z01 rfl) z03) (zcd qs) rfl).e (z1c (by omega)) rfl).e hix (z0u q)).e (z00 (z01 rfl) (z00 (z01 rfl) (z00 (z01 rfl) z03)))) rfl ep (z0u p))) z0k) fun z=>by cases z⟩
  refine q_ok ep ?_;have e1:evE [] Φ (.var 3) (R qs (some (.al,.int c)) (some (.al,mr p)))=.ok (.al,.list (qs.map mr)):=rfl;have hc:=z2g (Κ:=[]) (Φ:=Φ) (ρ:=R qs (some (.al,.int c)) (some (.al,mr p))) (nt:=1) (js:=[5]) (N':=["_law_two","_law_one"]) (tg:=.nm 0) (cond:=.tv (.call 0 "_law_clash" (.cons (.var 1) (.cons (.var 0) .nil)))) (elt:=.var 0) (m:=mr) (xs:=qs) (fun y=>agp p y) mr (w_tv e1 rfl) rfl (fun y=>[some (.al,mr y),some (.al,mr p)]) (fun y _=>z4b (z0u y)) (fun y hy=>t_tv (z07 (z00 (z01 rfl) (z00 (z01 rfl) z03)) rfl (zby hp.gr (h1 y hy).gr) rfl).e rfl) fun y _ _=>v_var rfl (z0u y);have ht2:Tt [] Φ (.tv (.cmp .Eq (.comp 1 [5] ["_law_two","_law_one"] (.nm 0) (.tv (.var 3)) (.tv (.call 0 "_law_clash" (.cons (.var 1) (.cons (.var 0) .nil)))) (.var 0)) (.lst .nil))) (R qs (some (.al,.int c)) (some (.al,mr p))) ((qs.filter fun y=>agp p y).map mr).isEmpty:=t_tv (z0q (Ev.of hc) (Ev.of (z1b z0a)) (eq_nil _ (z65 _))).e rfl;cases he:((qs.filter fun y=>agp p y).map mr).isEmpty with
  |false=>refine⟨_,z0b (z0o ht2 (fun z=>by rw[he]at z;cases z) fun _=>z0k) z0k,qs,_,_,rfl,h1,?_,h3⟩;rw[av];omega
  |true=>
   refine⟨_,z0b (z0o ht2 (fun _=>z0b (zbg (xs:=qs.map mr) (x:=mr p) (v_var rfl (z0u p)) rfl (by rw[af];omega)) z0k) fun z=>by rw[he]at z;cases z) z0k,qs++[p],some (.al,.int c),z1g (some (.al,mr p)),?_,?_,?_,?_⟩
   ·show _=[_,_,_,some (G.fr,PyData.list ((qs++[p]).map mr)),_,_];rw[cx];rfl
   ·intro q hq;rcases b9.mp hq with z|z
    ·exact h1 q z
    ·rw[bp.mp z];exact hp
   ·rw[av,av];show qs.length+1<=pre.length+1;omega
   ·rw[jo,ko,ig]at he;refine List.pairwise_append.mpr ⟨h3,lj _ _,fun x hx q hq=>?_⟩;rw[bp.mp hq];have:=he x hx;simpa using this
 ·rintro ρ ⟨qs,u4,u5,rfl,h1,h2,h3⟩
  exact q_rt (z7j rfl) ⟨qs,⟨h1,h2,h3⟩,rfl⟩
def fac (p:Bool×P×P×P):P:=own (!p.1) p.2.1 p.2.2.1
def cv (p q:Bool×P×P×P):Bool:=(p.1==q.1)&&(wi p.2.2.2 q.2.2.2&&wi (fac q) (fac p))
theorem z2n {p:Bool×P×P×P}(h:GR p):PK (fac p):=z23 h.f h.a
theorem zcn (p:Bool×P×P×P):F_z6 [mr p]=.ok (.fr,pk (fac p)):=by unfold fac;rw[z2m];exact z7u _ _ _ _
theorem zod {p q:Bool×P×P×P}(hp:GR p)(hq:GR q):zbu [mr p,mr q]=.ok (.fr,.bool (cv p q)):=by unfold zbu;refine z0j ?_;unfold zlf;exact z09 (z0f (v_and (z0q (k:=p.1==q.1) (mr_1 rfl).e (mr_1 rfl).e (by show Res.ok (sd p.1==sd q.1)=_;rw[zk6])).e fun _=>v_and (z07 (z00 (mr_2 rfl).e (z00 (mr_2 rfl).e z03)) rfl (e_z5 hq.r) rfl).e fun _=>z07 (z00 (z07 (z00 (z01 rfl) z03) rfl (zcn q) (z08 _)).e (z00 (z07 (z00 (z01 rfl) z03) rfl (zcn p) (z08 _)).e z03)) rfl (e_z5 (z2n hp)) rfl))
theorem z5u (p:Bool×P×P×P):z8d [mr p]=.ok (.fr,pk (fac p)):=by unfold z8d;refine z0j ?_;unfold zm2;exact z09 (z0f (zg6 (b:=!p.1) (mr_0 rfl).e (z0e z04.e (z07 (z00 (mr_1 rfl).e z03) rfl (zcv p.1) rfl).e (zc0 p.1) rfl).e))
theorem z4t {p q:Bool×P×P×P}(hp:GR p)(hq:GR q):zd2 [mr p,mr q]=.ok (.fr,.bool (cv p q)):=by
 unfold zd2;refine z0j ?_;unfold zlc;have ht:Tt [] [z6r,z8d] (.tv (.cmp .NotEq (.ix (.var 0) (.int 1)) (.ix (.var 1) (.int 1)))) [some (.od,mr p),some (.od,mr q)] (!(p.1==q.1)):=t_tv (z0q (k:=!(p.1==q.1)) (mr_1 rfl).e (mr_1 rfl).e (by show Res.ok (!(sd p.1==sd q.1))=_;rw[zk6])).e rfl;cases hb:p.1==q.1 with
 |false=>
  have e:cv p q=false:=by unfold cv;rw[hb];rfl
  rw[e];exact z6i ht (by rw[hb];rfl) (z09 (z0f v_bl))
 |true=>
  refine z1u ht (by rw[hb];rfl) ?_;have e:cv p q=(wi p.2.2.2 q.2.2.2&&wi (fac q) (fac p)):=by unfold cv;rw[hb];rfl
  rw[e];exact z09 (z0f (v_and (z07 (z00 (mr_2 rfl).e (z00 (mr_2 rfl).e z03)) rfl (z5e hq.r) rfl).e fun _=>z07 (z00 (z07 (z00 (z01 rfl) z03) rfl (z5u q) (z08 _)).e (z00 (z07 (z00 (z01 rfl) z03) rfl (z5u p) (z08 _)).e z03)) rfl (z5e (z2n hp)) rfl))
theorem z9y {p q:Bool×P×P×P}(h:cv p q=true):p.1=q.1/\wi p.2.2.2 q.2.2.2=true/\wi (fac q) (fac p)=true:=by obtain⟨h1,h⟩:=ar.mp h;obtain⟨h2,h3⟩:=ar.mp h;exact⟨eq_of_beq h1,h2,h3⟩
theorem zka {p q:Bool×P×P×P}(h1:p.1=q.1)(h2:wi p.2.2.2 q.2.2.2=true)(h3:wi (fac q) (fac p)=true):cv p q=true:=by unfold cv;rw[h1,h2,h3,beq_self_eq_true];rfl
theorem zla (p:Bool×P×P×P)(f a:P):bip p f a=(wi p.2.2.2 (own p.1 f a)&&wi (own (!p.1) f a) (fac p)):=by unfold bip bi fac;rw[z2m,z2m]
theorem zam {p:Bool×P×P×P}(h:GR p):cv p p=true:=zka rfl (z3d h.r) (z3d (z2n h))
theorem zbb {p q r:Bool×P×P×P}(hp:GR p)(hq:GR q)(hr:GR r)(h:cv p q=true)(k:cv q r=true):cv p r=true:=by obtain⟨h1,h2,h3⟩:=z9y h;obtain⟨k1,k2,k3⟩:=z9y k;exact zka (h1.trans k1) (zbl hp.r hq.r hr.r h2 k2) (zbl (z2n hr) (z2n hq) (z2n hp) k3 h3)
def bef (p:Bool×P×P×P)(n:Nat)(x:(Bool×P×P×P)×Nat):Bool:=(!decide (x.2=n))&&(cv x.1 p&&(decide (x.2<n)|| !cv p x.1))
def ik (ps:List (Bool×P×P×P))(p:Bool×P×P×P)(n:Nat):Bool:=ps.zipIdx.all fun x=>!bef p n x
theorem zju {α:Type}{f g:α->Bool}:∀{xs:List α} {y:α},y∈xs->f y=false->g y=true->(∀x∈xs,f x=true->g x=true)->xs.countP f<xs.countP g
 |x::xs,y,hy,h1,h2,h=>by
  have hm:∀x∈xs,f x=true->g x=true:=fun z hz=>h z (au _ hz);have hle:xs.countP f<=xs.countP g:=jx hm;rw[mf,mf];rcases aw.1 hy with e|hy
  ·subst e;rw[h1,h2];exact Nat.lt_succ_of_le hle
  ·have ih:=zju hy h1 h2 hm;cases hf:f x with
   |false=>rw[if_neg (by decide)];exact bz ih (im _ _)
   |true=>rw[h x ak hf];exact Nat.succ_lt_succ ih
theorem z4q {ps:List (Bool×P×P×P)}(hg:∀p∈ps,GR p):∀(m:Nat) (n:Nat) (p:Bool×P×P×P),ps[n]?=some p->(ps.countP fun q=>cv q p)*(ps.length+1)+n=m->∃k q,ps[k]?=some q/\ik ps q k=true/\cv q p=true:=by
 intro m n p hp hm
 induction m using Nat.strongRecOn generalizing n p with
 |_ m ih=>
  have hpm:p∈ps:=bc hp;have gp:=hg p hpm;cases hk:ik ps p n with
  |true=>exact⟨n,p,hp,hk,zam gp⟩
  |false=>
   obtain⟨x,hx,hb⟩:∃x∈ps.zipIdx,bef p n x=true:=by
    have:=ut.mp hk;obtain⟨x,hx,h⟩:=this
    exact⟨x,hx,by cases hb:bef p n x with
     |true=>rfl
     |false=>rw[hb]at h;exact absurd rfl h⟩
   have hxp:=z5j hx;have gx:=hg x.1 (bc hxp);obtain⟨b1,hb⟩:=ar.mp hb;obtain⟨b2,b3⟩:=ar.mp hb
   have hlt:(ps.countP fun q=>cv q x.1)*(ps.length+1)+x.2<m:=by
    have hxl:x.2<ps.length:=(cy.mp hxp).1;cases hc:cv p x.1 with
    |true=>rw[hc,Bool.not_true,ox]at b3;have:(ps.countP fun q=>cv q x.1)<=(ps.countP fun q=>cv q p):=jx fun q hq h=>zbb (hg q hq) gx gp h b2;have:=q8 (ps.length+1) this;have:=vy b3;omega
    |false=>have:(ps.countP fun q=>cv q x.1)<(ps.countP fun q=>cv q p):=zju hpm hc (zam gp) fun q hq h=>zbb (hg q hq) gx gp h b2;have:=q8 (ps.length+1) (Nat.succ_le_of_lt this);rw[Nat.succ_mul]at this;omega
   obtain⟨k,q,h1,h2,h3⟩:=ih _ hlt x.2 x.1 hxp rfl;exact⟨k,q,h1,h2,zbb (hg q (bc h1)) gx gp h3 b2⟩
theorem eqI (i j:Nat):decide ((i:Int)=(j:Int))=decide (i=j):=decide_eq_decide.mpr Int.ofNat_inj
theorem zsr {ps:List (Bool×P×P×P)}(hg:∀p∈ps,GR p)(hl:ps.length<=100){p:Bool×P×P×P}{n:Nat}(hp:ps[n]?=some p):zcx [.list (ps.map mr),.int n]=.ok (.fr,.bool (ik ps p n)):=by
 have gp:=hg p (bc hp);unfold zcx;refine z0j ?_
 let Q:Res Out->Prop:=fun z=>z=.ok (.rt .fr (.bool (ik ps p n)))
 show Q _;unfold zk8;refine q_ok (z0g (d:=mr p) (v_ix (z01 rfl) (z01 rfl) (ix_B (x:=(p,n)) hp) (z0u p))) ?_;refine ze4 (m:=fun x:(Bool×P×P×P)×Nat=>.tuple [.int x.2,mr x.1]) (xs:=ps.zipIdx) (zqk rfl hl) (fun pre ρ=>(∀y∈pre,bef p n y=false)/\∃u3 u4,ρ=[some (.od,.list (ps.map mr)),some (.od,.int n),some (.al,mr p),u3,u4]) ⟨(fun _ h=>by cases h),none,none,rfl⟩ ?_ ?_
 ·rintro pre x post ρ hx ⟨hn,u3,u4,rfl⟩
  have hm:x.1∈ps:=bc (z5j (by rw[hx];exact ay _ ak));refine⟨_,z2q rfl (z0u x.1),?_⟩
  have ht:Tt [] [zbu] (.and (.tv (.cmp .NotEq (.var 3) (.var 1))) (.and (.tv (.call 0 "covers" (.cons (.var 4) (.cons (.var 2) .nil)))) (.or (.tv (.cmp .Lt (.var 3) (.var 1))) (.not (.tv (.call 0 "covers" (.cons (.var 2) (.cons (.var 4) .nil)))))))) [some (.od,.list (ps.map mr)),some (.od,.int n),some (.al,mr p),some (.al,.int x.2),some (.al,mr x.1)] (bef p n x):=by
   refine z3x (t_tv (z0q (k:=!decide (x.2=n)) (z01 rfl) (z01 rfl) (by show Res.ok (!eqD (.int _) (.int _))=_;rw[z2b,eqI])).e rfl) fun _=>z3x (t_tv (z07 (z00 (z01 rfl) (z00 (z01 rfl) z03)) rfl (zod (hg _ hm) gp) rfl).e rfl) fun _=>t_or (t_tv (z0q (k:=decide (x.2<n)) (z01 rfl) (z01 rfl) ?_).e rfl) fun _=>z6t (t_tv (z07 (z00 (z01 rfl) (z00 (z01 rfl) z03)) rfl (zod gp (hg _ hm)) rfl).e rfl);show Res.ok (decide ((x.2:Int)<(n:Int)))=_
   congr 1
   exact decide_eq_decide.mpr Int.ofNat_lt
  cases hb:bef p n x with
  |true=>refine .inr ⟨.fr,.bool false,z09 (z0o ht (fun _=>z09 (z0f v_bl)) fun z=>by rw[hb]at z;cases z),?_⟩;show _=_;have e:ik ps p n=false:=ut.mpr ⟨x,by rw[hx];exact ay _ ak,by rw[hb];decide⟩;rw[e]
  |false=>exact .inl ⟨_,z0b (z0o ht (fun z=>by rw[hb]at z;cases z) fun _=>z0k) z0k,(fun y hy=>by
   rcases b9.1 hy with z|z
   ·exact hn y z
   ·rw[bp.1 z];exact hb),_,_,rfl⟩
 ·rintro ρ ⟨hn,u3,u4,rfl⟩
  have e:ik ps p n=true:=bg.mpr fun x hx=>by rw[hn x hx];rfl
  show evS _ _ _ _=_;rw[e];exact z09 (z0f v_bl)
def kp (ps:List (Bool×P×P×P)):List ((Bool×P×P×P)×Nat):=ps.zipIdx.filter fun x=>ik ps x.1 x.2
def kn (ps:List (Bool×P×P×P)):D:=.list ((kp ps).map fun x=>.int x.2)
theorem zb0 {ps:List (Bool×P×P×P)}{x:(Bool×P×P×P)×Nat}(h:x∈kp ps):ps[x.2]?=some x.1:=z5j (cz.mp h).1
theorem zpj (ps:List (Bool×P×P×P)):(kp ps).length<=ps.length:=bx (l7 _ _) (by rw[List.length_zipIdx];exact am _)
theorem zuz {ps:List (Bool×P×P×P)}(hg:∀p∈ps,GR p)(hl:ps.length<=100):zf3 [.list (ps.map mr)]=.ok (.fr,kn ps):=by unfold zf3;refine z0j ?_;unfold zk2;have hw:=zq0 (Κ:=[]) (Φ:=[zcx]) (ρ:=[some (.od,.list (ps.map mr))]) (z00 (v_bi (z00 (z01 (i:=0) rfl) z03) (zcd ps) rfl).e z03) (zgu (n:=(ps.length:Int)) (by omega) (by omega));rw[gk,<-znu]at hw;have hc:=z2g (nt:=1) (js:=[0]) (N':=["k","book"]) (tg:=.nm 0) (cond:=.tv (.call 0 "is_kept" (.cons (.var 1) (.cons (.var 0) .nil)))) (elt:=.var 0) (m:=fun x:(Bool×P×P×P)×Nat=>.int x.2) (xs:=ps.zipIdx) (fun x=>ik ps x.1 x.2) (fun x=>.int x.2) hw rfl (fun x=>[some (.al,.int x.2),some (.od,.list (ps.map mr))]) (fun x _=>rfl) (fun x hx=>t_tv (z07 (z00 (z01 rfl) (z00 (z01 rfl) z03)) rfl (zsr hg hl (z5j hx)) rfl).e rfl) fun x _ _=>v_var rfl rfl;exact z09 (z27 (fun i z=>by cases z) hc)
def fkG (q:Bool×P×P×P)(x:(Bool×P×P×P)×Nat):Option Nat:=if cv x.1 q then some x.2 else none
def fk (ps:List (Bool×P×P×P))(q:Bool×P×P×P):Option Nat:=(kp ps).findSome? (fkG q)
def cl (ps:List (Bool×P×P×P))(x:(Bool×P×P×P)×Nat):Option Nat:=if(kp ps).any (fun y=>decide (y.2=x.2))then none else fk ps x.1
def co (p:Bool×P×P×P):Bool×P×P:=(p.1,p.2.2.2,fac p)
def cd (c:Bool×P×P):D:=.tuple [.str (sd c.1),pk c.2.1,pk c.2.2]
theorem z9a (c:Bool×P×P):imm (cd c)=true:=by show(imm (pk c.2.1)&&(imm (pk c.2.2)&&true))=true;rw[z08,z08];rfl
theorem zfb (l:P):isPk (pk l)=true:=by show(l.map pr).all (z2y [false,true])=true;rw[List.all_map];exact bg.mpr fun _ _=>rfl
theorem zfc (c:Bool×P×P):isCo (cd c)=true:=by show(isPk (pk c.2.1)&&isPk (pk c.2.2))=true;rw[zfb,zfb];rfl
theorem z8k:∀a b:P,PyData.eqvAll (a.map pr) (b.map pr)=decide (a=b)
 | [],[]=>rfl
 | [],_::_=>rfl
 |_::_,[]=>rfl
 |p::a,q::b=>by
  show((eqD (.str p.1) (.str q.1)&&(eqD (.int p.2) (.int q.2)&&true))&&PyData.eqvAll (a.map pr) (b.map pr))=_;rw[z8k a b,z2c,z2b,Bool.and_true];by_cases h:p=q
  ·subst h;rw[v5 rfl,v5 rfl,oz,ml];exact decide_eq_decide.mpr ⟨fun h=>by rw[h],fun h=>(List.cons.inj h).2⟩
  ·rw[v6 (p:=p::a=q::b) fun z=>h (List.cons.inj z).1];by_cases h1:p.1=q.1
   ·rw[v6 (p:=p.2=q.2) fun h2=>h (vf h1 h2),oh,lu]
   ·rw[v6 h1];rfl
theorem z7x (c e:Bool×P×P):eqD (cd c) (cd e)=decide (c=e):=by
 obtain⟨b,r,o⟩:=c;obtain⟨b',r',o'⟩:=e;show(eqD (.str (sd b)) (.str (sd b'))&&(PyData.eqvAll (r.map pr) (r'.map pr)&&(PyData.eqvAll (o.map pr) (o'.map pr)&&true)))=_;rw[z8k,z8k,z2c,Bool.and_true];have e1:decide (sd b=sd b')=decide (b=b'):=by cases b<;>cases b'<;>rfl
 rw[e1];by_cases h1:b=b'
 ·by_cases h2:r=r'
  ·by_cases h3:o=o'
   ·subst h1 h2 h3;simp
   ·rw[v6 h3,oh,oh];exact(v6 fun z=>h3 (Prod.mk.inj (Prod.mk.inj z).2).2).symm
  ·rw[v6 h2,lu,oh];exact(v6 fun z=>h2 (Prod.mk.inj (Prod.mk.inj z).2).1).symm
 ·rw[v6 h1,lu];exact(v6 fun z=>h1 (Prod.mk.inj z).1).symm
theorem zo6 {c e:Bool×P×P}(h:cd c=cd e):c=e:=by have:=z7x c e;rw[h,z7x e e,v5 rfl]at this;exact vy this.symm
theorem zlq (c:Bool×P×P):shal 39 (cd c)=true:=by show(shal 38 (.str (sd c.1))&&(shal 38 (pk c.2.1)&&(shal 38 (pk c.2.2)&&true)))=true;rw[z1s,z1s];rfl
theorem z9t (l:List (Bool×P×P)):z0m 39 (l.map cd)=true:=z0s.mpr fun z hz=>by obtain⟨c,_,rfl⟩:=bt.mp hz;exact zlq c
theorem zbw (l:List (Bool×P×P)):imms (l.map cd)=true:=zed z9a l
theorem z9d {p:D->Prop}(O:OrdOn p){x y:D}(hx:p x)(hy:p y):∀l:List D,(∀z∈l,p z)->insD x (insD y l)=insD y (insD x l)
 | [],_=>by
  show(if ltD y x then y::[x]else[x,y])=(if ltD x y then x::[y]else[y,x]);cases h1:ltD y x with
  |true=>
   cases h2:ltD x y with
   |true=>have:=O.tr x y x hx hy hx h2 h1;rw[O.irr x hx]at this;cases this
   |false=>rfl
  |false=>
   cases h2:ltD x y with
   |true=>rfl
   |false=>rw[O.tot x y hx hy h2 h1]
 |z::l,hl=>by
  have hz:=hl z ak;have ih:=z9d O hx hy l fun w hw=>hl w (au _ hw);have ins:∀u v (t:List D),insD u (v::t)=if ltD v u then v::insD u t else u::v::t:=fun _ _ _=>rfl
  rw[ins y z,ins x z];cases hzy:ltD z y with
  |true=>
   cases hzx:ltD z x with
   |true=>simp only[if_true];rw[ins,ins,hzy,hzx,if_pos rfl,if_pos rfl,ih]
   |false=>
    simp only[if_true,gc,if_false];rw[ins,hzx,ins]
    have hxy:ltD x y=true:=by
     rcases O.ntr z x y hz hx hy hzy with h|h
     ·rw[hzx]at h;cases h
     ·exact h
    rw[hxy,ins,hzy];rfl
  |false=>
   cases hzx:ltD z x with
   |true=>
    simp only[if_true,gc,if_false];rw[ins y,hzy,ins x]
    have hyx:ltD y x=true:=by
     rcases O.ntr z y x hz hy hx hzx with h|h
     ·rw[hzy]at h;cases h
     ·exact h
    rw[hyx,ins,hzx];rfl
   |false=>
    simp only[gc,if_false];rw[ins x,ins y,ins x z,hzx,ins y z,hzy];simp only[gc,if_false];cases h1:ltD y x with
    |true=>
     cases h2:ltD x y with
     |true=>have:=O.tr x y x hx hy hx h2 h1;rw[O.irr x hx]at this;cases this
     |false=>rfl
    |false=>
     cases h2:ltD x y with
     |true=>rfl
     |false=>rw[O.tot x y hx hy h2 h1]
theorem z26 (x:D):∀l:List D,(insD x l).Perm (x::l)
 | []=>List.Perm.refl _
 |y::l=>by
  show(if ltD y x then y::insD x l else x::y::l).Perm _;split
  ·exact((z26 x l).cons y).trans (qx x y l)
  ·exact List.Perm.refl _
theorem z1o:∀l:List D,(z1e l).Perm l
 | []=>List.Perm.refl _
 |x::l=>(z26 x (z1e l)).trans ((z1o l).cons x)
theorem ze6 {p:D->Prop}(O:OrdOn p){xs ys:List D}(h:xs.Perm ys):(∀x∈xs,p x)->z1e xs=z1e ys:=by
 induction h with
 |nil=>exact fun _=>rfl
 |cons x _ ih=>exact fun hp=>congrArg (insD x) (ih fun z hz=>hp z (au _ hz))
 |swap x y l=>exact fun hp=>z9d O (hp y ak) (hp x (au _ ak)) _ fun z hz=>hp z (au _ (au _ ((z1o l).mem_iff.mp hz)))
 |trans h1 _ ih1 ih2=>exact fun hp=>(ih1 hp).trans (ih2 fun z hz=>hp z (h1.mem_iff.mpr hz))
theorem zdw {xs ys:List (Bool×P×P)}(hx:xs.Nodup)(hy:ys.Nodup)(h:∀c,c∈xs↔c∈ys):z1e (xs.map cd)=z1e (ys.map cd):=by obtain⟨p,t,O,hp,_⟩:=z5t (ys:=xs.map cd) (by rw[d9];refine .inr (bg.mpr fun d hd=>?_);obtain⟨c,_,rfl⟩:=bt.mp hd;exact zfc c);exact ze6 O (((List.perm_ext_iff_of_nodup hx hy).mpr h).map cd) hp
def insC (x:Bool×P×P):List (Bool×P×P)->List (Bool×P×P)
 | []=>[x]
 |y::l=>if ltD (cd y) (cd x)then y::insC x l else x::y::l
def srtC:List (Bool×P×P)->List (Bool×P×P)
 | []=>[]
 |x::l=>insC x (srtC l)
theorem zrt (x:Bool×P×P):∀l,insD (cd x) (l.map cd)=(insC x l).map cd
 | []=>rfl
 |y::l=>by
  show(if ltD (cd y) (cd x)then _ else _)=vq _ (if _ then _ else _);cases ltD (cd y) (cd x)with
  |true=>show _::insD (cd x) (l.map cd)=_;rw[zrt x l];rfl
  |false=>rfl
theorem zax:∀l,z1e (l.map cd)=(srtC l).map cd
 | []=>rfl
 |x::l=>by show insD (cd x) (z1e (l.map cd))=_;rw[zax l,zrt];rfl
theorem z7d (x:Bool×P×P):∀l,(insC x l).Perm (x::l)
 | []=>List.Perm.refl _
 |y::l=>by
  show(if ltD (cd y) (cd x)then y::insC x l else x::y::l).Perm _;split
  ·exact((z7d x l).cons y).trans (qx x y l)
  ·exact List.Perm.refl _
theorem z4h:∀l,(srtC l).Perm l
 | []=>List.Perm.refl _
 |x::l=>(z7d x (srtC l)).trans ((z4h l).cons x)
theorem z6u {l:List (Bool×P×P)}(h:l.length<64):aggD "sorted" true (l.map cd)=.ok (.list ((srtC l).map cd)):=by
 have hk:z36 (l.map cd)=true:=by
  unfold z36;have:(l.map cd).all isCo=true:=bg.mpr fun d hd=>by obtain⟨c,_,rfl⟩:=bt.mp hd;exact zfc c
  rw[this,nr,nr]
 show(if(true&&z36 (l.map cd)&&decide ((l.map cd).length<64))=true then Res.ok (PyData.list (z1e (l.map cd)))else .no)=_;rw[hk,af,v5 h,zax];rfl
theorem zea {a b:P}(ha:PK a)(hb:PK b)(h:wi a b=true)(k:wi b a=true):a=b:=PK.ext ha hb fun n=>Int.le_antisymm ((z5o ha hb).mp h n) ((z5o hb ha).mp k n)
theorem zcs {p q:Bool×P×P×P}(hp:GR p)(hq:GR q)(h:cv p q=true)(k:cv q p=true):co p=co q:=by obtain⟨h1,h2,h3⟩:=z9y h;obtain⟨k1,k2,k3⟩:=z9y k;unfold co;rw[h1,zea hp.r hq.r h2 k2,zea (z2n hp) (z2n hq) k3 h3]
theorem zun {p q:Bool×P×P×P}(hp:GR p)(h:co p=co q):cv p q=true:=by obtain⟨h1,h2⟩:=Prod.mk.inj h;obtain⟨h2,h3⟩:=Prod.mk.inj h2;exact zka h1 (by rw[<-h2];exact z3d hp.r) (by rw[<-h3];exact z3d (z2n hp))
def mx (ps:List (Bool×P×P×P))(p:Bool×P×P×P):Bool:=ps.all fun q=>!(cv q p&& !cv p q)
def mc (ps:List (Bool×P×P×P)):List (Bool×P×P):=(kp ps).map fun x=>co x.1
theorem zs5 {α:Type}(xs:List α):xs.zipIdx.Pairwise fun a b=>a.2<b.2:=by rw[oo];intro i j hi hj hij;simp only[List.getElem_zipIdx];omega
theorem zjj {ps:List (Bool×P×P×P)}{x y:(Bool×P×P×P)×Nat}(hx:x∈kp ps)(hy:y∈ps.zipIdx):bef x.1 x.2 y=false:=by
 have h:=(cz.mp hx).2;have h2:=bg.mp h y hy;cases e:bef x.1 x.2 y with
 |false=>rfl
 |true=>rw[e]at h2;cases h2
theorem zlk {ps:List (Bool×P×P×P)}(hg:∀p∈ps,GR p):(mc ps).Nodup:=by unfold mc;rw[List.nodup_iff_pairwise_ne,j5];refine List.Pairwise.imp_of_mem ?_ ((zs5 ps).sublist List.filter_sublist);intro a b ha hb hab e;have hz:=(cz.mp ha).1;have hk:=zjj hb hz;have hga:=hg _ (bc (zb0 ha));unfold bef at hk;rw[v6 (b7 hab),zun hga e,v5 hab]at hk;cases hk
theorem zac {ps:List (Bool×P×P×P)}(hg:∀p∈ps,GR p)(c:Bool×P×P):c∈mc ps↔∃p∈ps,mx ps p=true/\co p=c:=by
 constructor
 ·intro h;obtain⟨x,hx,rfl⟩:=bt.mp h;refine⟨x.1,bc (zb0 hx),bg.mpr fun q hq=>?_,rfl⟩;obtain⟨k,hk⟩:=jf hq;have hb:=zjj hx (y:=(q,k)) (eh.mpr hk);cases h1:cv q x.1 with
  |false=>rfl
  |true=>
   cases h2:cv x.1 q with
   |true=>rfl
   |false=>
    unfold bef at hb;by_cases hkn:k=x.2
    ·have:q=x.1:=by
      have:=zb0 hx;rw[<-hkn,hk]at this;exact Option.some.inj this
     rw[this,zam (hg _ (bc (zb0 hx)))]at h2;cases h2
    ·simp only[h1,h2,v6 hkn,Bool.not_false,nr,oz]at hb;cases hb
 ·rintro⟨p,hp,hm,rfl⟩
  obtain⟨n,hn⟩:=jf hp;obtain⟨k,q,h1,h2,h3⟩:=z4q hg _ n p hn rfl;have hq:=bc h1;have hmq:=bg.mp hm q hq
  have h4:cv p q=true:=by
   cases e:cv p q with
   |true=>rfl
   |false=>rw[h3,e]at hmq;cases hmq
  exact bt.mpr ⟨(q,k),cz.mpr ⟨eh.mpr h1,h2⟩,zcs (hg q hq) (hg p hp) h3 h4⟩
def lmF (ps:List (Bool×P×P×P))(acc:List (Bool×P×P))(p:Bool×P×P×P):List (Bool×P×P):=if mx ps p&& !acc.contains (co p)then acc++[co p]else acc
def lm (ps:List (Bool×P×P×P)):List (Bool×P×P):=ps.foldl (lmF ps) []
theorem z9k (ps:List (Bool×P×P×P)):∀(qs:List (Bool×P×P×P)) (acc:List (Bool×P×P)),acc.Nodup->(qs.foldl (lmF ps) acc).Nodup/\(∀c,c∈qs.foldl (lmF ps) acc↔c∈acc\/∃p∈qs,mx ps p=true/\co p=c)/\(qs.foldl (lmF ps) acc).length<=acc.length+qs.length
 | [],acc,nd=>⟨nd,fun c=>⟨.inl,fun z=>z.elim id fun⟨_,h,_⟩=>by cases h⟩,am _⟩
 |q::qs,acc,nd=>by
  have step:(lmF ps acc q).Nodup/\(∀c,c∈lmF ps acc q↔c∈acc\/(mx ps q=true/\co q=c))/\(lmF ps acc q).length<=acc.length+1:=by
   unfold lmF;split
   ·rename_i h;obtain⟨h1,h2⟩:=ar.mp h;have h3:co q∉acc:=fun z=>by rw[cg.mpr z]at h2;cases h2
    refine⟨?_,fun c=>?_,by rw[av];exact am _⟩
    ·rw[ly];exact⟨nd,cn.mpr ⟨(fun y=>by cases y),ir⟩,fun a ha b hb e=>by rw[bp.mp hb]at e;exact h3 (e▸ha)⟩
    ·rw[b9,bp];exact⟨fun z=>z.imp id fun e=>⟨h1,e.symm⟩,fun z=>z.imp id fun e=>e.2.symm⟩
   ·rename_i h;refine⟨nd,fun c=>⟨.inl,fun z=>z.elim id fun⟨h1,h2⟩=>?_⟩,u0 _⟩;cases h3:acc.contains (co q)with
    |true=>rw[<-h2];exact cg.mp h3
    |false=>rw[h1,h3]at h;exact absurd rfl h
  obtain⟨s1,s2,s3⟩:=step;obtain⟨i1,i2,i3⟩:=z9k ps qs (lmF ps acc q) s1;refine⟨i1,fun c=>(i2 c).trans ?_,by rw[br];exact bx i3 (by omega)⟩;rw[s2 c,or_assoc];refine⟨fun z=>z.imp id fun z=>z.elim (fun z=>⟨q,ak,z⟩) fun⟨p,hp,z⟩=>⟨p,au _ hp,z⟩,fun z=>z.imp id fun⟨p,hp,w⟩=>?_⟩;rcases aw.mp hp with rfl|hp
  ·exact .inl w
  ·exact .inr ⟨p,hp,w⟩
theorem zvr {ps:List (Bool×P×P×P)}(hg:∀p∈ps,GR p):(srtC (lm ps)).map cd=(srtC (mc ps)).map cd:=by rw[<-zax,<-zax];obtain⟨h1,h2,_⟩:=z9k ps ps [] ir;exact zdw h1 (zlk hg) fun c=>(h2 c).trans (((Iff.intro (fun z=>z.elim (fun z=>by cases z) id) .inr)).trans (zac hg c).symm)
theorem zir (ps:List (Bool×P×P×P)):(mc ps).length<=ps.length:=by unfold mc;rw[af];exact zpj ps
def mw (ps:List (Bool×P×P×P)):List (Bool×P×P):=srtC (mc ps)
theorem z5n {ps:List (Bool×P×P×P)}{c:Bool×P×P}:c∈mw ps↔c∈mc ps:=(z4h _).mem_iff
theorem zuy {ps qs:List (Bool×P×P×P)}(hp:∀p∈ps,GR p)(hq:∀p∈qs,GR p)(h:∀c,c∈mc ps↔c∈mc qs):(mw ps).map cd=(mw qs).map cd:=by unfold mw;rw[<-zax,<-zax];exact zdw (zlk hp) (zlk hq) h
theorem zt0 (p:Bool×P×P×P):zdz [mr p]=.ok (.fr,cd (co p)):=by unfold zdz;refine z0j ?_;unfold zmc;exact z09 (z0f (z0x (z02 (mr_1 rfl) (z02 (mr_2 rfl) (z02 (z07 (z00 (z01 rfl) z03) rfl (zcn p) (z08 _)) z0a)))))
theorem zkf {ps:List (Bool×P×P×P)}(hg:∀p∈ps,GR p)(hl:ps.length<=60):z6f [.list (ps.map mr)]=.ok (.fr,.list ((mw ps).map cd)):=by unfold z6f;refine z0j ?_;unfold zm3;have hc:=z2g (Κ:=[]) (Φ:=[zf3,zdz]) (ρ:=[some (.od,.list (ps.map mr))]) (nt:=1) (js:=[0]) (N':=["k","book"]) (tg:=.nm 0) (it:=.tv (.call 0 "kept" (.cons (.var 0) .nil))) (cond:=.nil) (elt:=.call 1 "core" (.cons (.ix (.var 1) (.var 0)) .nil)) (m:=fun x:(Bool×P×P×P)×Nat=>.int x.2) (xs:=kp ps) (fun _=>true) (fun x=>cd (co x.1)) (w_tv (g:=.fr) (x:=kn ps) (z16 (z00 (z01 rfl) z03) rfl (zuz hg (by omega))) rfl) rfl (fun x=>[some (.al,.int x.2),some (.od,.list (ps.map mr))]) (fun _ _=>rfl) (fun _ _=>zd8) fun x hx _=>z07 (z00 (v_ix (z01 rfl) (z01 rfl) (ix_B (zb0 hx)) (z0u _)).e z03) rfl (zt0 x.1) (z9a _);rw[jk.mpr (fun _ _=>rfl),show((kp ps).map fun x=>cd (co x.1))=(mc ps).map cd by unfold mc;rw[jc];rfl]at hc;refine z09 (z27 (fun i z=>by cases z) (z7g (w:=(true,(mc ps).map cd)) (Ev.of hc) rfl (z6u ?_) (zbw _)));have:=zir ps;omega
theorem z8a {α:Type}(f:α->Bool):∀l:List α,(l.filter f).isEmpty=l.all fun q=> !f q
 | []=>rfl
 |x::l=>by rw[md,dw];cases f x<;>simp[z8a f l]
theorem z7z (c:Bool×P×P):shal 40 (cd c)=true:=by show(shal 39 (.str (sd c.1))&&(shal 39 (pk c.2.1)&&(shal 39 (pk c.2.2)&&true)))=true;rw[z1s,z1s];rfl
theorem zpq (c:Bool×P×P)(l:List (Bool×P×P)):cmpD .NotIn (cd c) (.list (l.map cd))=.ok (!l.contains c):=by
 have h:z0m 40 (l.map cd)=true:=z0s.mpr fun z hz=>by obtain⟨e,_,rfl⟩:=bt.mp hz;exact z7z e
 show((if(shal 40 (cd c)&&z0m 40 (l.map cd))=true then Res.ok ((l.map cd).any fun y=>eqD y (cd c))else .no)>>=fun b=>Res.ok (!b))=_;rw[h,z7z];show Res.ok (!(l.map cd).any fun y=>eqD y (cd c))=_
 congr 2
 rw[List.any_map];cases e:l.contains c with
 |true=>exact pp.mpr ⟨c,cg.mp e,by show eqD (cd c) (cd c)=true;rw[z7x];exact v5 rfl⟩
 |false=>rw[ub];intro y hy z;have z:eqD (cd y) (cd c)=true:=z;rw[z7x]at z;rw[vy z]at hy;rw[cg.mpr hy]at e;cases e
theorem z7w {ps:List (Bool×P×P×P)}(hg:∀p∈ps,GR p)(hl:ps.length<=60):zes [.list (ps.map mr)]=.ok (.fr,.list ((mw ps).map cd)):=by
 unfold zes;refine z0j ?_
 let Φ:List Fn:=[zd2,z8d]
 let Q:Res Out->Prop:=fun z=>z=.ok (.rt .fr (.list ((mw ps).map cd)))
 show Q _;unfold zn6;refine q_ok (z0z (z1b z0a) rfl) ?_
 let R:List (Bool×P×P)->Option GD->Option GD->Option GD->Rho:=fun acc u2 u3 u4=>[some (.od,.list (ps.map mr)),some (.fr,.list (acc.map cd)),u2,u3,u4]
 refine q_nm (m:=mr) (xs:=ps) (f_od rfl rfl rfl) z0u (fun pre ρ=>∃u2 u3 u4,ρ=R (pre.foldl (lmF ps) []) u2 u3 u4) ⟨none,none,none,rfl⟩ ?_ ?_
 ·rintro pre p post ρ hx ⟨u2,u3,u4,rfl⟩
  have hp:p∈ps:=by rw[hx];exact ay _ ak
  have hgp:=hg p hp;have hln:=(z9k ps pre [] ir).2.2;have hpl:pre.length<=60:=by have:=congrArg j8 hx;rw[av,br]at this;omega
  have hfold:(pre++[p]).foldl (lmF ps) []=lmF ps (pre.foldl (lmF ps) []) p:=by rw[List.foldl_append];rfl
  rw[hfold];generalize pre.foldl (lmF ps) []=acc at hln;refine q_ok (z0g (d:=cd (co p)) (z0x (z02 (mr_1 rfl) (z02 (mr_2 rfl) (z02 (z07 (z00 (z01 rfl) z03) rfl (z5u p) (z08 _)) z0a))))) ?_;have hc:=z2g (Κ:=[]) (Φ:=Φ) (ρ:=R acc (some (.al,mr p)) (some (.al,cd (co p))) u4) (nt:=1) (js:=[2]) (N':=["_law_two","_law_one"]) (tg:=.nm 0) (it:=.tv (.var 0)) (cond:=.and (.tv (.call 0 "_law_covers_by" (.cons (.var 0) (.cons (.var 1) .nil)))) (.not (.tv (.call 0 "_law_covers_by" (.cons (.var 1) (.cons (.var 0) .nil)))))) (elt:=.var 0) (m:=mr) (xs:=ps) (fun q=>cv q p&& !cv p q) mr (w_tv (g:=.od) (x:=.list (ps.map mr)) rfl rfl) rfl (fun y=>[some (.al,mr y),some (.al,mr p)]) (fun y _=>z4b (z0u y)) (fun y hy=>z3x (t_tv (z07 (z00 (z01 rfl) (z00 (z01 rfl) z03)) rfl (z4t (hg y hy) hgp) rfl).e rfl) fun _=>z6t (t_tv (z07 (z00 (z01 rfl) (z00 (z01 rfl) z03)) rfl (z4t hgp (hg y hy)) rfl).e rfl)) fun y _ _=>v_var rfl (z0u y);refine q_ok (z0z hc (z0v _)) ?_;have ht:Tt [] Φ (.and (.tv (.cmp .Eq (.var 4) (.lst .nil))) (.tv (.cmp .NotIn (.var 3) (.var 1)))) (R acc (some (.al,mr p)) (some (.al,cd (co p))) (some (.fr,.list ((ps.filter fun q=>cv q p&& !cv p q).map mr)))) (mx ps p&& !acc.contains (co p)):=by have h1:=zjr (Φ:=Φ) (ρ:=R acc (some (.al,mr p)) (some (.al,cd (co p))) (some (.fr,.list ((ps.filter fun q=>cv q p&& !cv p q).map mr)))) (i:=4) rfl;rw[z8a]at h1;exact z3x h1 fun _=>t_tv (z0q (z01 rfl) (z01 rfl) (zpq _ _)).e rfl
  unfold lmF;cases he:(mx ps p&& !acc.contains (co p))with
  |false=>rw[he]at ht;exact⟨_,z0b (z0o ht (fun z=>by cases z) fun _=>z0k) z0k,_,_,_,rfl⟩
  |true=>rw[he]at ht;refine⟨_,z0b (z0o ht (fun _=>z0b (zbg (xs:=acc.map cd) (x:=cd (co p)) (v_var rfl (z9a _)) rfl (by rw[af];simp at hln;omega)) z0k) fun z=>by cases z) z0k,some (.al,mr p),some (.al,cd (co p)),some (.fr,.list ((ps.filter fun q=>cv q p&& !cv p q).map mr)),?_⟩;show[some (G.od,PyData.list (ps.map mr)),some (.fr,.list (acc.map cd++[cd (co p)])),z1g (some (.al,mr p)),z1g (some (.al,cd (co p))),some (.fr,.list ((ps.filter fun q=>cv q p&& !cv p q).map mr))]=_;rw[z9e (z0u p),z9e (z9a _)];show _=R (acc++[co p]) _ _ _;show _=[some (G.od,PyData.list (ps.map mr)),some (.fr,.list ((acc++[co p]).map cd)),_,_,_];rw[cx];rfl
 ·rintro ρ ⟨u2,u3,u4,rfl⟩
  have hn:=(z9k ps ps [] ir).2.2;have:=z7g (Κ:=[]) (Φ:=Φ) (ρ:=R (ps.foldl (lmF ps) []) u2 u3 u4) (a:=.var 1) (w:=(true,(lm ps).map cd)) (z01 rfl) rfl (z6u (l:=lm ps) (by show(lm ps).length<64;unfold lm;simp at hn;omega)) (zbw _);rw[zvr hg]at this;exact z09 (z27 (fun i z=>by cases z) this)
def cf (c:Bool×P×P):P:=own c.1 c.2.1 c.2.2
def ca (c:Bool×P×P):P:=own c.1 c.2.2 c.2.1
theorem e_z3 (c:Bool×P×P):F_z3 [.str (sd c.1),pk c.2.1,pk c.2.2]=.ok (.fr,cs2 (cf c) (ca c)):=by
 obtain⟨b,r,o⟩:=c;unfold F_z3;refine z0j ?_;unfold S_z3;have ht:Tt [] [] (.tv (.cmp .Eq (.var 0) (.str "for"))) [some (.od,.str (sd b)),some (.od,pk r),some (.od,pk o)] b:=t_tv (z0q (k:=b) (z01 rfl) z1r.e (by show Res.ok (eqD (.str (sd b)) (.str "for"))=_;rw[z2c];cases b<;>rfl)).e rfl;have:=zn8 ht (x:=cs2 r o) (y:=cs2 o r) (fun _=>z0x (z02 (v_var (i:=1) rfl (z08 r)) (z02 (v_var (i:=2) rfl (z08 o)) z0a))) fun _=>z0x (z02 (v_var (i:=2) rfl (z08 o)) (z02 (v_var (i:=1) rfl (z08 r)) z0a));have e:(if b then cs2 r o else cs2 o r)=cs2 (cf (b,r,o)) (ca (b,r,o)):=by cases b<;>rfl
 rw[e]at this;exact z09 (z0f this)
def z2w (qs:List (Bool×P×P×P))(c:Bool×P×P):Bool:=match bd qs (cf c) (ca c)with
 |none=>true
 |some x=>!(x.1==c.1)
def z53 (qs:List (Bool×P×P×P))(c:Bool×P×P):Option (Bool×P×P):=if z2w qs c then some c else none
def bh (ps qs:List (Bool×P×P×P)):Option (Bool×P×P):=(mw ps).findSome? (z53 qs)
def dC:Option (Bool×P×P)->D
 |none=>.none
 |some c=>.tuple [cs2 (cf c) (ca c),.str (sd c.1)]
theorem zj3 (o:Option (Bool×P×P)):imm (dC o)=true:=by
 cases o with
 |none=>rfl
 |some c=>show(imm (cs2 (cf c) (ca c))&&(true&&true))=true;rw[z1w];rfl
theorem znc {ρ:Rho}{g:G}{i j k:Nat}(c:Bool×P×P):z1i (.tp [i,j,k]) (gJ (cd c) g,cd c) ρ=.ok (((ρ.set i (some (.al,.str (sd c.1)))).set j (some (.al,pk c.2.1))).set k (some (.al,pk c.2.2))):=by show Res.ofO (some (((ρ.set i (some (z2j (gJ (.str (sd c.1)) _,.str (sd c.1))))).set j (some (z2j (gJ (pk c.2.1) _,pk c.2.1)))).set k (some (z2j (gJ (pk c.2.2) _,pk c.2.2)))))=_;rw[z20 (z08 _),z20 (z08 _),z20 (show imm (.str (sd c.1))=true from rfl)];rfl
theorem zvi {ws:List Str}{ps:List (Bool×P×P×P)}(hp:∀p∈ps,RW ws p){c:Bool×P×P}(h:c∈mc ps):PW ws c.2.1/\PW ws c.2.2:=by
 obtain⟨x,hx,rfl⟩:=bt.mp h;have hr:=hp x.1 (bc (zb0 hx));refine⟨hr.r,?_⟩;show PW ws (own (!x.1.1) x.1.2.1 x.1.2.2.1);cases x.1.1
 ·exact hr.f
 ·exact hr.a
theorem ccp {ws:List Str}{c:Bool×P×P}(h:PW ws c.2.1/\PW ws c.2.2):PW ws (cf c)/\PW ws (ca c):=by
 obtain⟨b,r,o⟩:=c;cases b
 ·exact⟨h.2,h.1⟩
 ·exact h
theorem zii {Φ:List Fn}{ρ:Rho}{t:C}{o:Option (Bool×Nat)}(h:Ev [] Φ t ρ (dB o)):Vv [] Φ (.isN false t) ρ (.bool o.isNone):=by have:=zk5 (ng:=false) h;cases o<;>exact this
theorem zfh {ws:List Str}(gw:GW ws){ps qs:List (Bool×P×P×P)}(hp:∀p∈ps,RW ws p)(hq:∀p∈qs,RW ws p)(hl:ps.length<=60)(hk:qs.length<=60):zgd [.list (ps.map mr),.list (qs.map mr)]=.ok (.fr,dC (bh ps qs)):=by
 have hg:∀p∈ps,GR p:=fun p h=>(hp p h).gr;unfold zgd;refine z0j ?_
 let Φ:List Fn:=[z6f,F_z9,F_z3]
 let Q:Res Out->Prop:=fun z=>z=.ok (.rt .fr (dC (bh ps qs)))
 show Q _;unfold zn3;refine ze4 (m:=cd) (xs:=mw ps) (zox (fun i z=>by cases z) (z16 (z00 (z01 rfl) z03) rfl (zkf hg hl)) rfl) (fun pre ρ=>(∀y∈pre,z53 qs y=none)/\∃u2 u3 u4 u5 u6,ρ=[some (.od,.list (ps.map mr)),some (.od,.list (qs.map mr)),u2,u3,u4,u5,u6]) ⟨(fun _ h=>by cases h),none,none,none,none,none,rfl⟩ ?_ ?_
 ·rintro pre c post ρ hx ⟨hn,u2,u3,u4,u5,u6,rfl⟩
  have hm:c∈mc ps:=z5n.mp (by rw[hx];exact ay _ ak);obtain⟨pf,pa⟩:=ccp (zvi hp hm);refine⟨_,znc c,?_⟩
  let R:Rho:=[some (.od,.list (ps.map mr)),some (.od,.list (qs.map mr)),some (.al,.str (sd c.1)),some (.al,pk c.2.1),some (.al,pk c.2.2),some (.al,cs2 (cf c) (ca c)),some (.al,dB (bd qs (cf c) (ca c)))]
  have e1:evS [] Φ (.asg (.nm 5) (.call 2 "case_with" (.cons (.var 2) (.cons (.var 3) (.cons (.var 4) .nil))))) [some (.od,.list (ps.map mr)),some (.od,.list (qs.map mr)),some (.al,.str (sd c.1)),some (.al,pk c.2.1),some (.al,pk c.2.2),u5,u6]=.ok (.nx [some (.od,.list (ps.map mr)),some (.od,.list (qs.map mr)),some (.al,.str (sd c.1)),some (.al,pk c.2.1),some (.al,pk c.2.2),some (.al,cs2 (cf c) (ca c)),u6]):=z0g (z07 (z00 (z01 rfl) (z00 (z01 rfl) (z00 (z01 rfl) z03))) rfl (e_z3 c) (z1w _ _));have e2:evS [] Φ (.asg (.nm 6) (.call 1 "binding" (.cons (.var 1) (.cons (.var 5) .nil)))) [some (.od,.list (ps.map mr)),some (.od,.list (qs.map mr)),some (.al,.str (sd c.1)),some (.al,pk c.2.1),some (.al,pk c.2.2),some (.al,cs2 (cf c) (ca c)),u6]=.ok (.nx R):=z0g (z07 (z00 (z01 rfl) (z00 (z01 rfl) z03)) rfl (e_z9 gw hq pf pa (by omega)) (zob _))
  have ht:Tt [] Φ (.or (.tv (.isN false (.var 6))) (.tv (.cmp .NotEq (.ix (.var 6) (.int 0)) (.var 2)))) R (z2w qs c):=by
   unfold z2w;have h1:Ev [] Φ (.var 6) R (dB (bd qs (cf c) (ca c))):=z01 rfl;cases hb:bd qs (cf c) (ca c)with
   |none=>rw[hb]at h1;exact t_or (k':=false) (t_tv (zii h1).e rfl) fun z=>by cases z
   |some x=>rw[hb]at h1;exact t_or (t_tv (zii h1).e rfl) fun _=>t_tv (z0q (k:=!(x.1==c.1)) (v_ix (d:=.str (sd x.1)) h1 z04.e rfl rfl).e (z01 (i:=2) rfl) (by show Res.ok (!eqD (.str (sd x.1)) (.str (sd c.1)))=_;rw[z2c];cases x.1<;>cases c.1<;>rfl)).e rfl
  cases hb:z2w qs c with
  |true=>
   rw[hb]at ht;refine .inr ⟨.fr,dC (some c),z0b e1 (z0b e2 (z09 (z0o ht (fun _=>z09 (z0f (z0x (z02 (v_var rfl (z1w _ _)) (z02 (v_var rfl rfl) z0a))))) fun z=>by cases z))),?_⟩;show _=_;have e:bh ps qs=some c:=by unfold bh;rw[hx];exact zaf hn (by unfold z53;rw[hb];rfl)
   rw[e]
  |false=>rw[hb]at ht;exact .inl ⟨_,z0b e1 (z0b e2 (z0b (z0o ht (fun z=>by cases z) fun _=>z0k) z0k)),za3 hn (by unfold z53;rw[hb];rfl),_,_,_,_,_,rfl⟩
 ·rintro ρ ⟨hn,u2,u3,u4,u5,u6,rfl⟩
  have e:bh ps qs=none:=z8m hn;show evS _ _ _ _=_;rw[e];exact z09 (z0f zi6)
def pt (ps qs:List (Bool×P×P×P)):Option ((Bool×P×P)×Bool):=match bh ps qs with
 |some c=>some (c,true)
 |none=>(bh qs ps).map fun c=>(c,false)
def dP:Option ((Bool×P×P)×Bool)->D
 |none=>.none
 |some x=>.tuple [cs2 (cf x.1) (ca x.1),.str (sd x.1.1),.bool x.2]
theorem zcb (o:Option ((Bool×P×P)×Bool)):imm (dP o)=true:=by
 cases o with
 |none=>rfl
 |some x=>show(imm (cs2 (cf x.1) (ca x.1))&&(true&&(true&&true)))=true;rw[z1w];rfl
theorem zal {Φ:List Fn}{ρ:Rho}{t:C}{o:Option (Bool×P×P)}(h:Ev [] Φ t ρ (dC o)):Vv [] Φ (.isN true t) ρ (.bool o.isSome):=by have:=zk5 (ng:=true) h;cases o<;>exact this
theorem ziy {Φ:List Fn}{ρ:Rho}{i:Nat}{g:G}{c:Bool×P×P}(b:Bool)(h:ρ[i]?=some (some (g,dC (some c)))):Vv [] Φ (.bin .Add (.var i) (.tup (.cons (.bl b) .nil))) ρ (dP (some (c,b))):=z0e (z01 h) (z0x (z02 v_bl z0a)).e (show binD .Add (dC (some c)) (.tuple [.bool b])=.ok (dP (some (c,b)))from rfl) (zcb (some (c,b)))
theorem ztv {ws:List Str}(gw:GW ws){ps qs:List (Bool×P×P×P)}(hp:∀p∈ps,RW ws p)(hq:∀p∈qs,RW ws p)(hl:ps.length<=60)(hk:qs.length<=60):zc5 [.list (ps.map mr),.list (qs.map mr)]=.ok (.fr,dP (pt ps qs)):=by
 unfold zc5;refine z0j ?_;unfold zk7;have e1:=zfh gw hp hq hl hk;have e2:=zfh gw hq hp hk hl;refine z0b (z0g (z07 (z00 (z01 rfl) (z00 (z01 rfl) z03)) rfl e1 (zj3 _))) ?_;unfold pt;cases h1:bh ps qs with
 |some c=>exact z09 (z0o (t_tv (zal (o:=some c) (z01 rfl)).e rfl) (fun _=>z09 (z0f (ziy true rfl))) fun z=>by cases z)
 |none=>
  refine z1u (t_tv (zal (o:=none) (z01 rfl)).e rfl) rfl ?_;refine z0b (z0g (z07 (z00 (z01 rfl) (z00 (z01 rfl) z03)) rfl e2 (zj3 _))) ?_;cases h2:bh qs ps with
  |some c=>exact z09 (z0o (t_tv (zal (o:=some c) (z01 rfl)).e rfl) (fun _=>z09 (z0f (ziy false rfl))) fun z=>by cases z)
  |none=>refine z1u (t_tv (zal (o:=none) (z01 rfl)).e rfl) rfl ?_;exact z09 (z0f zi6)
theorem zop (c:Bool×P×P):own c.1 (cf c) (ca c)=c.2.1/\own (!c.1) (cf c) (ca c)=c.2.2:=by obtain⟨b,r,o⟩:=c;cases b<;>exact⟨rfl,rfl⟩
theorem zf2 {p q:Bool×P×P×P}(h:q.1=p.1):bip q (cf (co p)) (ca (co p))=cv q p:=by obtain⟨h1,h2⟩:=zop (co p);have h1:own p.1 (cf (co p)) (ca (co p))=p.2.2.2:=h1;have h2:own (!p.1) (cf (co p)) (ca (co p))=fac p:=h2;rw[zla,h,h1,h2];unfold cv;rw[h,beq_self_eq_true,ml]
def bn (qs:List (Bool×P×P×P))(b:Bool)(f a:P):Bool:=qs.any fun q=>(q.1==b)&&bip q f a
theorem z55 {qs:List (Bool×P×P×P)}{b:Bool}{f a:P}:bn qs b f a=true↔∃q∈qs,q.1=b/\bip q f a=true:=by
 unfold bn;rw[pp];refine⟨fun⟨q,h1,h2⟩=>?_,fun⟨q,h1,h2,h3⟩=>⟨q,h1,?_⟩⟩
 ·obtain⟨h2,h3⟩:=ar.mp h2;exact⟨q,h1,eq_of_beq h2,h3⟩
 ·rw[h2,h3,beq_self_eq_true];rfl
theorem z2r {qs:List (Bool×P×P×P)}(hw:Wh qs)(hg:∀p∈qs,GR p){c:Bool×P×P}(hf:PK (cf c))(ha:PK (ca c)):z2w qs c=!bn qs c.1 (cf c) (ca c):=by
 unfold z2w;cases hb:bn qs c.1 (cf c) (ca c)with
 |true=>
  obtain⟨q,h1,h2,h3⟩:=z55.mp hb;cases e:bd qs (cf c) (ca c)with
  |none=>rw[zlp e h1]at h3;cases h3
  |some x=>obtain⟨p,hp,hs,hbp⟩:=zdo e;have:=zfw hw hg hf ha (bc hp) h1 hbp h3;show(!(x.1==c.1))=false;rw[<-hs,this,h2,beq_self_eq_true];rfl
 |false=>
  cases e:bd qs (cf c) (ca c)with
  |none=>rfl
  |some x=>
   obtain⟨p,hp,hs,hbp⟩:=zdo e;show(!(x.1==c.1))=true;cases e2:x.1==c.1 with
   |false=>rfl
   |true=>have:bn qs c.1 (cf c) (ca c)=true:=z55.mpr ⟨p,bc hp,hs.trans (eq_of_beq e2),hbp⟩;rw[this]at hb;cases hb
theorem zhw {ps:List (Bool×P×P×P)}(hg:∀p∈ps,GR p){c:Bool×P×P}(h:c∈mc ps):bn ps c.1 (cf c) (ca c)=true:=by obtain⟨p,hp,_,rfl⟩:=(zac hg c).mp h;exact z55.mpr ⟨p,hp,rfl,by rw[zf2 rfl];exact zam (hg p hp)⟩
theorem zbs {ps:List (Bool×P×P×P)}(hg:∀p∈ps,GR p){c:Bool×P×P}(h:c∈mc ps):PK (cf c)/\PK (ca c):=by obtain⟨p,hp,_,rfl⟩:=(zac hg c).mp h;exact⟨z23 (hg p hp).r (z2n (hg p hp)),z23 (z2n (hg p hp)) (hg p hp).r⟩
theorem zez {ps qs:List (Bool×P×P×P)}{c:Bool×P×P}(h:bh ps qs=some c):c∈mc ps/\z2w qs c=true:=by
 obtain⟨y,hy,e⟩:=lz h;unfold z53 at e;split at e
 ·cases e;exact⟨z5n.mp hy,by assumption⟩
 ·cases e
theorem zdb {ps qs:List (Bool×P×P×P)}(h:bh ps qs=none){c:Bool×P×P}(hc:c∈mc ps):z2w qs c=false:=by
 have:=iu.mp h c (z5n.mpr hc);unfold z53 at this;cases e:z2w qs c with
 |false=>rfl
 |true=>rw[e]at this;cases this
theorem zoz {ps qs:List (Bool×P×P×P)}(h:∀c∈mc ps,z2w qs c=false):bh ps qs=none:=z8m fun c hc=>by unfold z53;rw[h c (z5n.mp hc)];rfl
theorem ziw {ps qs:List (Bool×P×P×P)}(hp:∀p∈ps,GR p)(hq:∀p∈qs,GR p)(wp:Wh ps)(wq:Wh qs)(h1:bh ps qs=none)(h2:bh qs ps=none){c:Bool×P×P}(hc:c∈mc ps):c∈mc qs:=by
 obtain⟨p,pm,hm,rfl⟩:=(zac hp c).mp hc;obtain⟨k1,k2⟩:=zbs hp hc;have a1:=zdb h1 hc;rw[z2r wq hq k1 k2]at a1;obtain⟨q,qm,s1,b1⟩:=z55.mp (show bn qs (co p).1 (cf (co p)) (ca (co p))=true by cases e:bn qs (co p).1 (cf (co p)) (ca (co p))<;>rw[e]at a1<;>first|rfl|cases a1);rw[zf2 s1]at b1;obtain⟨n,hn⟩:=jf qm;obtain⟨k,r,e1,e2,e3⟩:=z4q hq _ n q hn rfl;have rm:=bc e1;have rc:co r∈mc qs:=bt.mpr ⟨(r,k),cz.mpr ⟨eh.mpr e1,e2⟩,rfl⟩;obtain⟨k3,k4⟩:=zbs hq rc;have a2:=zdb h2 rc;rw[z2r wp hp k3 k4]at a2;obtain⟨p',pm',s2,b2⟩:=z55.mp (show bn ps (co r).1 (cf (co r)) (ca (co r))=true by cases e:bn ps (co r).1 (cf (co r)) (ca (co r))<;>rw[e]at a2<;>first|rfl|cases a2);rw[zf2 s2]at b2;have g:=hp p pm;have g':=hp p' pm';have gq:=hq q qm;have gr:=hq r rm;have c1:cv r p=true:=zbb gr gq g e3 b1;have c2:cv p' p=true:=zbb g' gr g b2 c1;have hmx:=bg.mp hm p' pm'
 have c3:cv p p'=true:=by
  cases e:cv p p' with
  |true=>rfl
  |false=>rw[c2,e]at hmx;cases hmx
 rw[zcs g gr (zbb g g' gr c3 b2) c1];exact rc
theorem zqs {ps qs:List (Bool×P×P×P)}(h:(mw ps).map cd=(mw qs).map cd):mw ps=mw qs:=(List.map_inj_right fun _ _=>zo6).mp h
theorem zcu {ps qs:List (Bool×P×P×P)}(hp:∀p∈ps,GR p)(hq:∀p∈qs,GR p)(wp:Wh ps)(wq:Wh qs):pt ps qs=none↔mw ps=mw qs:=by
 constructor
 ·intro h
  have h1:bh ps qs=none:=by
   cases e:bh ps qs with
   |none=>rfl
   |some c=>unfold pt at h;rw[e]at h;cases h
  have h2:bh qs ps=none:=by
   cases e:bh qs ps with
   |none=>rfl
   |some c=>unfold pt at h;rw[h1,e]at h;cases h
  exact zqs (zuy hp hq fun c=>⟨ziw hp hq wp wq h1 h2,ziw hq hp wq wp h2 h1⟩)
 ·intro h;have hm:∀c,c∈mc ps↔c∈mc qs:=fun c=>by rw[<-z5n,<-z5n,h]
  have h1:bh ps qs=none:=zoz fun c hc=>by obtain⟨k1,k2⟩:=zbs hp hc;rw[z2r wq hq k1 k2,zhw hq ((hm c).mp hc)];rfl
  have h2:bh qs ps=none:=zoz fun c hc=>by obtain⟨k1,k2⟩:=zbs hq hc;rw[z2r wp hp k1 k2,zhw hp ((hm c).mpr hc)];rfl
  unfold pt;rw[h1,h2];rfl
theorem zui {ps qs:List (Bool×P×P×P)}(hp:∀p∈ps,GR p)(hq:∀p∈qs,GR p)(wp:Wh ps)(wq:Wh qs){x:(Bool×P×P)×Bool}(h:pt ps qs=some x):(PK (cf x.1)/\PK (ca x.1))/\bn ps x.1.1 (cf x.1) (ca x.1)=x.2/\bn qs x.1.1 (cf x.1) (ca x.1)=!x.2:=by
 unfold pt at h;cases e:bh ps qs with
 |some c=>rw[e]at h;cases h;obtain⟨h1,h2⟩:=zez e;have k:=zbs hp h1;rw[z2r wq hq k.1 k.2]at h2;exact⟨k,zhw hp h1,by cases e2:bn qs c.1 (cf c) (ca c)with|true=>rw[e2]at h2;cases h2|false=>rfl⟩
 |none=>
  rw[e]at h;cases e3:bh qs ps with
  |none=>rw[e3]at h;cases h
  |some c=>rw[e3]at h;cases h;obtain⟨h1,h2⟩:=zez e3;have k:=zbs hq h1;rw[z2r wp hp k.1 k.2]at h2;exact⟨k,by cases e2:bn ps c.1 (cf c) (ca c)with|true=>rw[e2]at h2;cases h2|false=>rfl,zhw hq h1⟩
theorem zeg {α:Type}(f:α->Bool):∀l:List α,(!(l.filter f).isEmpty)=l.any f
 | []=>rfl
 |x::l=>by rw[md,ij];cases f x<;>simp[<-zeg f l]
theorem zdr {qs:List (Bool×P×P×P)}(hg:∀p∈qs,GR p){f a:P}(hf:PK f)(ha:PK a)(b:Bool):z8v [.list (qs.map mr),cs2 f a,.str (sd b)]=.ok (.fr,.bool (bn qs b f a)):=by unfold z8v;refine z0j ?_;unfold zl6;have hc:=z2g (Κ:=[]) (Φ:=[ze8]) (ρ:=[some (.od,.list (qs.map mr)),some (.od,cs2 f a),some (.od,.str (sd b))]) (nt:=1) (js:=[2,1]) (N':=["_law_one","_law_side","_law_case"]) (tg:=.nm 0) (it:=.tv (.var 0)) (cond:=.and (.tv (.cmp .Eq (.ix (.var 0) (.int 1)) (.var 1))) (.tv (.call 0 "_law_binds_by" (.cons (.var 0) (.cons (.var 2) .nil))))) (elt:=.var 0) (m:=mr) (xs:=qs) (fun q=>(q.1==b)&&bip q f a) mr (w_tv (g:=.od) (x:=.list (qs.map mr)) rfl rfl) rfl (fun y=>[some (.al,mr y),some (.od,.str (sd b)),some (.od,cs2 f a)]) (fun y _=>z4b (z0u y)) (fun y hy=>z3x (t_tv (z0q (k:=y.1==b) (mr_1 rfl).e (z01 rfl) (by show Res.ok (eqD (.str (sd y.1)) (.str (sd b)))=_;rw[z2c];cases y.1<;>cases b<;>rfl)).e rfl) fun _=>t_tv (z07 (z00 (z01 rfl) (z00 (z01 rfl) z03)) rfl (zaz (hg y hy) hf ha) rfl).e rfl) fun y _ _=>v_var rfl (z0u y);have:=z0q (Ev.of hc) (Ev.of (z1b z0a)) (zd0 _);rw[zeg]at this;exact z09 (z0f this)
theorem zmf {ps qs:List (Bool×P×P×P)}(hp:∀p∈ps,GR p)(hq:∀p∈qs,GR p){c:Bool×P×P}{b:Bool}(hc:PK (cf c)/\PK (ca c))(h1:bn ps c.1 (cf c) (ca c)=b)(h2:bn qs c.1 (cf c) (ca c)=!b):zd4 [dP (some (c,b)),.list (ps.map mr),.list (qs.map mr)]=.ok (.fr,.bool true):=by
 unfold zd4;refine z0j ?_;unfold zjz;have e1:=zdr hp hc.1 hc.2 c.1;have e2:=zdr hq hc.1 hc.2 c.1;rw[h1]at e1;rw[h2]at e2;have v0:∀{ρ:Rho},ρ[0]?=some (some (.od,dP (some (c,b))))->Vv [] [z8v] (.ix (.var 0) (.int 0)) ρ (cs2 (cf c) (ca c)):=fun h=>v_ix (z01 h) z04.e rfl (z1w _ _);have v1:∀{ρ:Rho},ρ[0]?=some (some (.od,dP (some (c,b))))->Vv [] [z8v] (.ix (.var 0) (.int 1)) ρ (.str (sd c.1)):=fun h=>v_ix (z01 h) z04.e rfl rfl;have v2:∀{ρ:Rho},ρ[0]?=some (some (.od,dP (some (c,b))))->Vv [] [z8v] (.ix (.var 0) (.int 2)) ρ (.bool b):=fun h=>v_ix (z01 h) z04.e rfl rfl;refine z1u (t_or (z6t (t_tv (zki (z01 rfl)).e rfl)) fun _=>t_or (t_tv (z0q (k:=false) (v_bi (d:=.int 3) (z00 (z01 rfl) z03) rfl rfl).e z04.e rfl).e rfl) fun _=>z6t (t_tv (zki (v2 rfl).e).e rfl)) rfl ?_;refine z1u (t_tv (z0q (k:=false) (v1 rfl).e (Ev.of (z1b (z02 z1r (z02 z1r z0a)))) ?_).e rfl) rfl ?_
 ·show((if(shal 40 (.str (sd c.1))&&z0m 40 [.str "for",.str "against"])=true then Res.ok ([PyData.str "for",.str "against"].any fun y=>eqD y (.str (sd c.1)))else .no)>>=fun b=>Res.ok (!b))=_;cases c.1<;>rfl
 refine z0b (z0g (d:=.bool b) (z07 (z00 (z01 rfl) (z00 (v0 rfl).e (z00 (v1 rfl).e z03))) rfl e1 rfl)) ?_;refine z0b (z0g (d:=.bool (!b)) (z07 (z00 (z01 rfl) (z00 (v0 rfl).e (z00 (v1 rfl).e z03))) rfl e2 rfl)) ?_;exact z09 (z0f (v_and (k:=true) (k':=true) (z0q (k:=true) (z01 rfl) (v2 rfl).e (by cases b<;>rfl)).e fun _=>z0q (k:=true) (z01 rfl) (v2 rfl).e (by cases b<;>rfl)))
theorem z4x {α:Type}{xs:List α}{i j:Option Int}{x:α}(h:x∈cut xs i j):x∈xs:=qt (qu h)
theorem zfj (ps:List (Bool×P×P×P))(i j:Option Int):slD (.list (ps.map mr)) i j=.ok (.list ((cut ps i j).map mr)):=by show Res.ok (PyData.list (cut (ps.map mr) i j))=_;rw[ze0]
theorem l_sl {Φ:List Fn}{ρ:Rho}{a b c:C}{x:D}{i j:Option Int}{xs:List D}(ha:Ev [] Φ a ρ x)(hb:Oo [] Φ b ρ i)(hc:Oo [] Φ c ρ j)(h:slD x i j=.ok (.list xs))(hi:imms xs=true):evE [] Φ (.sl a b c) ρ=.ok (.fr,.list xs):=by
 obtain⟨g,ha⟩:=ha;unfold Oo at hb hc;rw[E_sl,ha,Res.ok_bind,hb,Res.ok_bind,hc,Res.ok_bind]
 dsimp only
 rw[h,Res.ok_bind];show Res.ok (if imms xs=true then G.fr else _,_)=_;rw[if_pos hi]
theorem zaq {a b:List (Bool×P×P×P)}(h:a.length+b.length<=1000):binD .Add (.list (a.map mr)) (.list (b.map mr))=.ok (.list ((a++b).map mr)):=by rw[cx];exact add_list (by rw[af,af];exact h)
theorem e_rv {Φ:List Fn}{ρ:Rho}{i:Nat}{g:G}{ps:List (Bool×P×P×P)}(h:ρ[i]?=some (some (g,.list (ps.map mr))))(hl:ps.length<=1000):evE [] Φ (.rv (.var i)) ρ=.ok (.fr,.list (ps.reverse.map mr)):=by obtain⟨g',e⟩:=z01 (Κ:=[]) (Φ:=Φ) h;show(evE [] Φ (.var i) ρ>>=fun x=>rvD x.2>>=fun d=>Res.ok (G.fr,d))=_;rw[e,Res.ok_bind];show((if(imms (ps.map mr)&&decide ((ps.map mr).length<=LIM))=true then Res.ok (PyData.list (ps.map mr).reverse)else .no)>>=fun d=>Res.ok (G.fr,d))=_;rw[z0v,af,v5 (show ps.length<=LIM by unfold LIM;omega),List.map_reverse];rfl
theorem zdn {ws:List Str}{ps:List (Bool×P×P×P)}(hp:∀p∈ps,RW ws p)(hw:Wh ps)(hl:ps.length<=16)(c:Int){m:Bool×P×P×P}(hm:RW ws m):
  ∃qs,((∀q∈qs,RW ws q)/\Wh qs/\qs.length<=60)/\zi1 [.list (ps.map mr),.int c,mr m]=.ok (.fr,.list (qs.map mr)):=by
 let Φ:List Fn:=[z8e]
 suffices h:∃qs,((∀q∈qs,RW ws q)/\Wh qs/\qs.length<=60)/\evS [] Φ zg3 [some (.od,.list (ps.map mr)),some (.od,.int c),some (.od,mr m),none,none,none]=.ok (.rt .fr (.list (qs.map mr))) by obtain⟨ns,h1,h2⟩:=h;exact⟨ns,h1,z0j h2⟩
 let Q:Res Out->Prop:=fun z=>∃qs,((∀q∈qs,RW ws q)/\Wh qs/\qs.length<=60)/\z=.ok (.rt .fr (.list (qs.map mr)))
 show Q _;unfold zg3;have sub:∀qs:List (Bool×P×P×P),(∀q∈qs,q∈ps)->qs.length<=60->(∀q∈qs,RW ws q)/\Wh qs/\qs.length<=60:=fun qs h k=>⟨fun q hq=>hp q (h q hq),fun p h1 q h2=>hw p (h p h1) q (h q h2),k⟩;refine q_ok (z0z (e_rv rfl (by omega)) (z0v _)) ?_;have hrm:∀q∈ps.reverse,q∈ps:=fun q h=>List.mem_reverse.mp h;have hrl:ps.reverse.length=ps.length:=nh;generalize ps.reverse=rs at hrm hrl;refine q_ok (z0g (d:=.int (c%5)) (z0e (z01 rfl) z04.e (z1c (by decide)) rfl)) ?_
 let R:Option GD->Rho:=fun u5=>[some (.od,.list (ps.map mr)),some (.od,.int c),some (.od,mr m),some (.fr,.list (rs.map mr)),some (.al,.int (c%5)),u5]
 have l3:∀i j,(cut rs i j).length<=16:=fun i j=>by have:=z15 rs i j;omega
 have ht1:=t_or (z1h (Φ:=Φ) (ρ:=R none) (t:=.var 4) (j:=0) (z01 rfl)) fun _=>zjr (Φ:=Φ) (ρ:=R none) (i:=3) rfl;cases k1:(decide (c%5=0)||rs.isEmpty)with
 |true=>
  rw[k1]at ht1;refine q_rt (g:=.fr) (z0o ht1 (fun _=>z09 (z27 (fun i z=>by cases z) (z60 (z01 rfl) (Ev.of (l_sl (z01 rfl) z40 (z2u z04.e) (zfj _ _ _) (z0v _))) (zaq (b:=cut rs none (some 3)) (by have:=l3 none (some 3);omega)) (z0v _)))) fun z=>by cases z) ⟨_,sub _ (fun q hq=>?_) ?_,rfl⟩
  ·exact(b9.mp hq).elim (hrm q) fun z=>hrm q (z4x z)
  ·rw[av];have:=l3 none (some 3);omega
 |false=>
  rw[k1]at ht1;refine z2e ht1 rfl ?_
  have hne:0<rs.length:=by
   have:=(Bool.or_eq_false_iff.mp k1).2;cases rs with
   |nil=>cases this
   |cons _ _=>exact qa _
  by_cases k2:c%5=1
  ·refine q_rt (g:=.fr) (z0o (z1h (t:=.var 4) (j:=1) (z01 rfl)) (fun _=>z09 (z27 (fun i z=>by cases z) (l_sl (z01 rfl) (z2u z04.e) z40 (zfj _ _ _) (z0v _)))) fun z=>absurd k2 (vz z)) ⟨_,sub _ (fun q hq=>hrm q (z4x hq)) ?_,rfl⟩;have:=l3 (some 1) none;omega
  refine z2e (z1h (t:=.var 4) (j:=1) (z01 rfl)) (v6 k2) ?_;by_cases k3:c%5=2
  ·refine q_rt (g:=.fr) (z0o (z1h (t:=.var 4) (j:=2) (z01 rfl)) (fun _=>z0b (z0g (d:=.int (c/5%(rs.length:Int))) (z0e (z0e (z01 rfl) z04.e (z24 (by decide) (by decide)) rfl).e (v_bi (z00 (z01 rfl) z03) (zcd rs) rfl).e (z1c (by omega)) rfl)) (z09 (z27 (fun i z=>by cases z) (z60 (Ev.of (l_sl (z01 rfl) z40 (z2u (z01 rfl)) (zfj _ _ _) (z0v _))) (Ev.of (l_sl (z01 rfl) (z2u (z0e (d:=.int (c/5%(rs.length:Int)+1)) (z01 rfl) z04.e rfl rfl).e) z40 (zfj _ _ _) (z0v _))) (zaq (by have h1:=l3 none (some (c/5%(rs.length:Int)));have h2:=l3 (some (c/5%(rs.length:Int)+1)) none;omega)) (z0v _))))) fun z=>absurd k3 (vz z)) ⟨_,sub _ (fun q hq=>?_) ?_,rfl⟩
   ·exact(b9.mp hq).elim (fun z=>hrm q (z4x z)) fun z=>hrm q (z4x z)
   ·rw[av];have h1:=l3 none (some (c/5%(rs.length:Int)));have h2:=l3 (some (c/5%(rs.length:Int)+1)) none;omega
  refine z2e (z1h (t:=.var 4) (j:=2) (z01 rfl)) (v6 k3) ?_;have hrr:∀q∈rs,RW ws q:=fun q h=>hp q (hrm q h);have hc:=z2g (Κ:=[]) (Φ:=Φ) (ρ:=R none) (nt:=1) (js:=[2]) (N':=["_law_two","_law_more"]) (tg:=.nm 0) (it:=.tv (.var 3)) (cond:=.tv (.call 0 "_law_clash" (.cons (.var 1) (.cons (.var 0) .nil)))) (elt:=.var 0) (m:=mr) (xs:=rs) (fun y=>agp m y) mr (w_tv (g:=.al) (x:=.list (rs.map mr)) rfl rfl) rfl (fun y=>[some (.al,mr y),some (.od,mr m)]) (fun y _=>z4b (z0u y)) (fun y hy=>t_tv (z07 (z00 (z01 rfl) (z00 (z01 rfl) z03)) rfl (zby hm.gr (hrr y hy).gr) rfl).e rfl) fun y _ _=>v_var rfl (z0u y);have ht4:=z3x (z1h (Φ:=Φ) (ρ:=R none) (t:=.var 4) (j:=3) (z01 rfl)) fun _=>t_tv (k:=(rs.filter fun y=>agp m y).isEmpty) (z0q (Ev.of hc) (Ev.of (z1b z0a)) (zf8 _)).e rfl;cases k4:(decide (c%5=3)&&(rs.filter fun y=>agp m y).isEmpty)with
  |true=>
   rw[k4]at ht4
   have hno:∀q∈rs,agp m q=false:=fun q hq=>by
    have h1:=(ar.mp k4).2;rw[z8a]at h1;have h2:=bg.mp h1 q hq;cases e:agp m q with
    |false=>rfl
    |true=>rw[e]at h2;cases h2
   refine q_rt (g:=.fr) (z0o ht4 (fun _=>z09 (z27 (fun i z=>by cases z) (z60 (z01 rfl) (Ev.of (z1b (z02 (v_var rfl (z0u m)) z0a))) (zaq (a:=rs) (b:=[m]) (by show rs.length+1<=1000;omega)) (z0v _)))) fun z=>by cases z) ⟨_,⟨fun q hq=>?_,fun p h1 q h2=>?_,?_⟩,rfl⟩
   ·rcases b9.mp hq with h|h
    ·exact hrr q h
    ·rw[bp.mp h];exact hm
   ·rcases b9.mp h1 with h1|h1<;>rcases b9.mp h2 with h2|h2
    ·exact hw p (hrm p h1) q (hrm q h2)
    ·rw[bp.mp h2,zag];exact hno p h1
    ·rw[bp.mp h1];exact hno q h2
    ·rw[bp.mp h1,bp.mp h2];exact z9w m
   ·rw[av];show rs.length+1<=60;omega
  |false=>
   rw[k4]at ht4;refine z2e ht4 rfl ?_;refine q_rt (g:=.fr) (z27 (fun i z=>by cases z) (z60 (Ev.of (l_sl (z01 rfl) z40 (z2u z04.e) (zfj _ _ _) (z0v _))) (z01 rfl) (zaq (a:=cut rs none (some 1)) (b:=rs) (by have:=l3 none (some 1);omega)) (z0v _))) ⟨_,sub _ (fun q hq=>?_) ?_,rfl⟩
   ·exact(b9.mp hq).elim (fun z=>hrm q (z4x z)) (hrm q)
   ·rw[av];have:=l3 none (some 1);omega
mutual
theorem zr5:∀(n:Nat) (d:D),shal n d=true->eqD d d=true
 |_,.none,_=>rfl
 |_,.bool b,_=>by cases b<;>rfl
 |_,.int i,_=>by rw[z2b];exact v5 rfl
 |_,.str s,_=>by rw[z2c];exact v5 rfl
 |n+1,.tuple xs,h=>z4i n xs h
 |n+1,.list xs,h=>z4i n xs h
 |0,.dict _,h=>by cases h
 |_+1,.dict _,h=>by cases h
theorem z4i:∀(n:Nat) (xs:List D),z0m n xs=true->PyData.eqvAll xs xs=true
 |_,[],_=>rfl
 |n,x::xs,h=>by have h:=ar.mp (show(shal n x&&z0m n xs)=true from h);show(eqD x x&&PyData.eqvAll xs xs)=true;rw[zr5 n x h.1,z4i n xs h.2];rfl
end
theorem zly {L:List D}(h:z0m 39 L=true):cmpD .Eq (.list L) (.list L)=.ok true:=by show(if(z0m 39 L&&z0m 39 L)=true then Res.ok (PyData.eqvAll L L)else .no)=_;rw[h,z4i 39 L h];rfl
theorem zm9 {L:List D}(h:z0m 39 L=true):cmpD .NotEq (.list L) (.list L)=.ok false:=by show(if(z0m 39 L&&z0m 39 L)=true then Res.ok (!PyData.eqvAll L L)else .no)=_;rw[h,z4i 39 L h];rfl
theorem zbq {a b c:Str}{n:Nat}(gw:GW [a,b,c])(ha:a.length=n)(hb:b.length=n)(hc:c.length=n)(hn:n<12):GW (srtW [a,b++"m",c]):=by
 have hm:(b++"m").length=n+1:=by rw[zdf,hb];rfl
 have nd:[a,b++"m",c].Nodup:=by
  refine cn.mpr ⟨fun z=>?_,cn.mpr ⟨fun z=>?_,cn.mpr ⟨(fun z=>by cases z),ir⟩⟩⟩
  ·rcases aw.mp z with z|z
   ·have:=congrArg Str.length z;omega
   ·have h:sl a c:=(cj.mp gw.sw).1 c (au _ ak);rw[bp.mp z]at h;exact zaa _ h
  ·have:=congrArg Str.length (bp.mp z);omega
 have hl:=(z1d [a,b++"m",c]).length_eq;have hl:(srtW [a,b++"m",c]).length=3:=hl;refine⟨z63 nd,by omega,by omega,fun w hw=>?_⟩;have hw:=(z1d _).mem_iff.mp hw;simp only[aw,cw,or_false]at hw;rcases hw with rfl|rfl|rfl<;>omega
def tl2:S->S
 |.seq _ (.seq _ r)=>r
 |s=>s
theorem zuj {z:Str}(h:z.length<=1000):biD "len" [.str z]=.ok (.int (z.length:Int)):=by show(if z.length<=LIM then Res.ok (PyData.int (z.length:Int))else .no)=_;rw[if_pos (by unfold LIM;omega)]
theorem z5d (l:List (Bool×P×P)):z0m 38 (l.map cd)=true:=z0s.mpr fun z hz=>by obtain⟨c,_,rfl⟩:=bt.mp hz;show(shal 37 (.str (sd c.1))&&(shal 37 (pk c.2.1)&&(shal 37 (pk c.2.2)&&true)))=true;rw[z1s,z1s];rfl
theorem z5i (l:List (Bool×P×P×P)):z0m 38 (l.map mr)=true:=z0s.mpr fun z hz=>by obtain⟨p,_,rfl⟩:=bt.mp hz;show((shal 36 (pk p.2.1)&&(shal 36 (pk p.2.2.1)&&true))&&(shal 37 (.str (sd p.1))&&(shal 37 (pk p.2.2.2)&&true)))=true;rw[z1s,z1s,z1s];rfl
theorem z7i {a b:List D}(ha:z0m 38 a=true)(hb:z0m 38 b=true):z0m 39 [.list a,.list b]=true:=by show(z0m 38 a&&(z0m 38 b&&true))=true;rw[ha,hb];rfl
theorem zj6:∀a b:List (Bool×P×P),PyData.eqvAll (a.map cd) (b.map cd)=decide (a=b)
 | [],[]=>rfl
 | [],_::_=>rfl
 |_::_,[]=>rfl
 |p::a,q::b=>by
  show(eqD (cd p) (cd q)&&PyData.eqvAll (a.map cd) (b.map cd))=_;rw[zj6 a b,z7x];by_cases h:p=q
  ·subst h;rw[v5 rfl,ml];exact decide_eq_decide.mpr ⟨fun h=>by rw[h],fun h=>(List.cons.inj h).2⟩
  ·rw[v6 h,lu];exact(v6 fun z=>h (List.cons.inj z).1).symm
theorem zis (a b:List (Bool×P×P)):cmpD .Eq (.list (a.map cd)) (.list (b.map cd))=.ok (decide (a=b)):=by show(if(z0m 39 (a.map cd)&&z0m 39 (b.map cd))=true then Res.ok (PyData.eqvAll (a.map cd) (b.map cd))else .no)=_;rw[z9t,z9t,zj6];rfl
theorem zi7 {Φ:List Fn}{ρ:Rho}{a b:C}{x y d:D}(ha:Ev [] Φ a ρ x)(hb:Ev [] Φ b ρ y)(h:ixD x y=.ok d):Ev [] Φ (.ix a b) ρ d:=by obtain⟨g,ha⟩:=ha;obtain⟨g',hb⟩:=hb;exact⟨gJ d g,by rw[E_ix,ha,Res.ok_bind,hb,Res.ok_bind];dsimp only;rw[h];rfl⟩
theorem zj7 {Φ:List Fn}{ρ:Rho}{a:C}{ds:List D}(h:Aa [] Φ a ρ ds):Ev [] Φ (.lst a) ρ (.list ds):=by obtain⟨ys,h1,h2⟩:=h;exact⟨gAll ys,by rw[zlo,h1,Res.ok_bind,h2]⟩
theorem zkr {Φ:List Fn}{ρ:Rho}{a b:C}{x y:D}(ha:evE [] Φ a ρ=.ok (.fr,x))(hb:evE [] Φ b ρ=.ok (.fr,y)):evE [] Φ (.lst (.cons a (.cons b .nil))) ρ=.ok (.fr,.list [x,y]):=by rw[zlo,z3v,ha,Res.ok_bind,z3v,hb,Res.ok_bind,zhl];rfl
theorem zdd {Φ:List Fn}{ρ:Rho}{i:Nat}{t:C}{a b:List D}(h:evE [] Φ t ρ=.ok (.fr,.list [.list a,.list b])):evS [] Φ (.asg (.nm i) t) ρ=.ok (.nx (ρ.set i (some (.nu,.list [.list a,.list b])))):=by rw[zi9,h];rfl
theorem zog {Φ:List Fn}{ρ ρ':Rho}{s:S}{r:Res Out}(hn:noOwn ρ=false)(e:ρ.map settleA=ρ')(h:evS [] Φ s ρ'=r):evS [] Φ (.stl s) ρ=r:=by show(if noOwn ρ=true then evS [] Φ s (ρ.map settle)else evS [] Φ s (ρ.map settleA))=r;rw[hn,e];exact h
theorem zos {g:G}{d:D}(h:imm d=true):settleA (some (g,d))=some (.al,d):=by show(if imm d=true then _ else _)=_;rw[h];rfl
theorem zo1 {g:G}{d:D}(h:imm d=true):z2t (some (g,d))=some (.al,d):=by show(if imm d=true then _ else _)=_;rw[h];rfl
theorem zkx {Φ:List Fn}{ρ ρ':Rho}{Q:Res Out->Prop}{e a:C}{b:S}{xs:List D}{d r:D}{g:G}(he:evE [] Φ e ρ=.ok (.nu,.list xs))(hl:xs.length<=1000)(ha:Vv [] Φ a ρ d)(hk:ρ.map z2t=ρ')(h:evS [] Φ b ρ'=.ok (.rt g r))(hQ:Q (.ok (.rt g r))):Q (evS [] Φ (.dap e a b) ρ):=by
 have:evS [] Φ (.dap e a b) ρ=.ok (.rt g r):=by show(evE [] Φ e ρ>>=fun x=>evE [] Φ a ρ>>=fun y=>dapD x y>>=fun _=>zef (evS [] Φ b (ρ.map z2t)))=_;rw[he,Res.ok_bind,ha.1,Res.ok_bind];show((if(G.nu==G.nu&&imm d&&decide (xs.length<LIM))=true then Res.ok ()else .no)>>=fun _=>zef (evS [] Φ b (ρ.map z2t)))=_;rw[ha.2,v5 (show xs.length<LIM by unfold LIM;omega),hk,h];rfl
 rw[this];exact hQ
theorem zpz {a b:List D}(ha:z0m 38 a=true)(hb:z0m 38 b=true):cmpD .NotEq (.list [.list a,.list b]) (.list [.list a,.list b])=.ok false:=zm9 (z7i ha hb)
theorem zp7 {a b:List D}(ha:z0m 38 a=true)(hb:z0m 38 b=true):cmpD .Eq (.list [.list a,.list b]) (.list [.list a,.list b])=.ok true:=zly (z7i ha hb)
theorem zqq {a b:D}{i:Nat}(h:i<2):ixD (.list [a,b]) (.int i)=.ok (if i=0 then a else b):=by
 match i,h with
 |0,_=>rfl
 |1,_=>rfl
def B2 (ps qs:List (Bool×P×P×P))(i:Nat):List (Bool×P×P×P):=if i=0 then ps else qs
theorem zls {α:Type}(m:List (Bool×P×P×P)->List α)(k:List α->D){ps qs:List (Bool×P×P×P)}{i:Nat}(h:i<2):ixD (.list [k (m ps),k (m qs)]) (.int i)=.ok (k (m (B2 ps qs i))):=by rw[zqq h];unfold B2;split<;>rfl
theorem ztp {xs:List Int}(hl:xs.length<=63):zcl [.list (xs.map .int)]=.ok (.fr,.bool true):=by
 unfold zcl;refine z0j ?_
 let Q:Res Out->Prop:=fun z=>z=.ok (.rt .fr (.bool true))
 show Q _;unfold zfi
 let Φ:List Fn:=[z6f,zd4,zc5,zes,zh9,zi1,z22,zb4,zb7]
 obtain⟨w,ws,rs,cs,re,hb,eb⟩:=zma hl (m:=16) (o:=6) (k:=8) (Φ:=Φ) (by decide) (by decide) (by decide) rfl [none,none,none,none,none,none,none,none,none];refine q_ok eb ?_;have hcm:=hb.cm;have hrl:=hb.rl
 have fin:∀(g:G) (ws:List Str),GW ws->Q (evS [] Φ (tl2 zfi) [some (.od,.list (xs.map .int)),some (.al,.int w),some (g,.list (ws.map .str)),some (.al,.list (rs.map .int)),some (.al,.list (cs.map .int)),some (.al,.list (re.map .int)),none,none,none,none,none,none,none,none,none]):=fun g ws gw=>by
  obtain⟨ps,⟨hr,q2,q3⟩,eq⟩:=z7n gw hb.rg cs (by omega);have hw:=zl4 q3;have hpl:ps.length<=16:=by omega
  unfold zfi tl2;refine q_ok (z0z (z16 (z00 (z01 rfl) (z00 (z01 rfl) (z00 (z01 rfl) z03))) rfl eq) (z0v _)) ?_;obtain⟨m9,_,em9⟩:=z3n w (k:=19) (by decide) (by decide);obtain⟨m0,_,em0⟩:=z3n w (k:=20) (by decide) (by decide);obtain⟨v,hv⟩:∃v,ixD (.list ((re++[w]).map .int)) (.int 0)=.ok (.int v):=⟨_,ix_m PyData.int 0 (by omega) (by rw[av];show(0:Int)<((re.length+1:Nat):Int);omega)⟩;obtain⟨m,hm,em⟩:=z4l (if rs.length=1 then v else m9) gw hb.rg;refine q_ok (z0g (d:=mr m) (z07 (z00 (v_ix (d:=.int (if rs.length=1 then v else m9)) (Ev.of (z1b (z02 (z07 (z00 (z01 rfl) (z00 z04.e z03)) rfl em9 rfl) (z02 (v_ix (d:=.int v) (Ev.of (z60 (xs:=(re++[w]).map .int) (z01 rfl) (Ev.of (z1b (z02 (v_var rfl rfl) z0a))) ?_ (z0r _))) z04.e hv rfl) z0a)))) (v_bi (d:=.int (if rs.length=1 then 1 else 0)) (z00 (z0q (k:=decide (rs.length=1)) (v_bi (z00 (z01 rfl) z03) (z3i rs) rfl).e z04.e ?_).e z03) ?_ rfl).e ?_ rfl).e (z00 (z01 rfl) (z00 (z01 rfl) z03))) rfl em (z0u m))) ?_
  ·rw[cx];exact add_list (by rw[af];show re.length+1<=1000;omega)
  ·show Res.ok (eqD (.int (rs.length:Int)) (.int 1))=_;rw[z2b]
   congr 1
   exact decide_eq_decide.mpr (by omega)
  ·show Res.ok (PyData.int (if decide (rs.length=1)=true then 1 else 0))=_;by_cases h1:rs.length=1
   ·rw[v5 h1,if_pos rfl,if_pos h1]
   ·rw[v6 h1,if_neg (by decide),if_neg h1]
  ·by_cases h1:rs.length=1
   ·rw[if_pos h1,if_pos h1];rfl
   ·rw[if_neg h1,if_neg h1];rfl
  obtain⟨qs0,hq0,eq0⟩:=zdn hr hw hpl m0 hm;refine q_ok (z0z (z16 (z00 (z01 rfl) (z00 (z07 (z00 (z01 rfl) (z00 z04.e z03)) rfl em0 rfl).e (z00 (z01 rfl) z03))) rfl eq0) (z0v _)) ?_
  let R0:List (Bool×P×P×P)->Rho:=fun qs=>[some (.od,.list (xs.map .int)),some (.al,.int w),some (g,.list (ws.map .str)),some (.al,.list (rs.map .int)),some (.al,.list (cs.map .int)),some (.al,.list (re.map .int)),some (.fr,.list (ps.map mr)),some (.al,mr m),some (.fr,.list (qs.map mr)),none,none,none,none,none,none]
  obtain⟨qs,⟨hq,hv2,hql⟩,ei⟩:∃qs,((∀q∈qs,RW ws q)/\Wh qs/\qs.length<=60)/\evS [] Φ (.ifS (.and (.tv (.cmp .Eq (.bi "len" (.cons (.var 3) .nil)) (.int 1))) (.tv (.cmp .Eq (.bin .Mod (.bin .FloorDiv (.var 1) (.int 7)) (.int 2)) (.int 1)))) (.seq (.asg (.nm 8) (.call 4 "_law_book_by" (.cons (.sl (.var 5) .nil (.tv (.int 16))) (.cons (.var 2) (.cons (.var 3) .nil))))) .nil) .nil) (R0 qs0)=.ok (.nx (R0 qs)):=by
   have ht:=z3x (z2d (Φ:=Φ) (ρ:=R0 qs0) (i:=3) rfl) fun _=>z1h (Φ:=Φ) (ρ:=R0 qs0) (t:=.bin .Mod (.bin .FloorDiv (.var 1) (.int 7)) (.int 2)) (j:=1) (z0e (z0e (z01 rfl) z04.e (z24 (by decide) (by decide)) rfl).e z04.e (z1c (by decide)) rfl).e;cases hk:(decide (rs.length=1)&&decide (w/7%2=1))with
   |false=>rw[hk]at ht;exact⟨qs0,hq0,z0o ht (fun z=>by cases z) fun _=>z0k⟩
   |true=>rw[hk]at ht;have hc16:(cut re none (some 16)).length<=16:=zjk re 16;obtain⟨qs,⟨k1,k2,k3⟩,ek⟩:=z7n gw hb.rg (cut re none (some 16)) (by omega);exact⟨qs,⟨k1,zl4 k3,by omega⟩,z0o ht (fun _=>z0b (z0z (z16 (z00 (e_sl (z01 rfl) z40 (z2u z04.e) (z2l _ _ _)) (z00 (z01 rfl) (z00 (z01 rfl) z03))) rfl ek) (z0v _)) z0k) fun z=>by cases z⟩
  refine q_ok ei ?_;have hg:∀p∈ps,GR p:=fun p h=>(hr p h).gr;have hgq:∀p∈qs,GR p:=fun p h=>(hq p h).gr;refine q_ok (zdd (zkr (z7g (w:=(true,ps.map mr)) (z01 rfl) rfl (z9f _ _) (z0v _)) (z7g (w:=(true,qs.map mr)) (z01 rfl) rfl (z9f _ _) (z0v _)))) ?_;refine q_ok (zdd (zkr (z16 (z00 (z01 rfl) z03) rfl (z7w hg (by omega))) (z16 (z00 (z01 rfl) z03) rfl (z7w hgq hql)))) ?_
  let Hd:D:=.list [.list (ps.map mr),.list (qs.map mr)]
  let Du:D:=.list [.list ((mw ps).map cd),.list ((mw qs).map cd)]
  let R:Option GD->Option GD->Option GD->Option GD->Rho:=fun u11 u12 u13 u14=>[some (.od,.list (xs.map .int)),some (.al,.int w),some (.od,.list (ws.map .str)),some (.od,.list (rs.map .int)),some (.od,.list (cs.map .int)),some (.od,.list (re.map .int)),some (.od,.list (ps.map mr)),some (.al,mr m),some (.od,.list (qs.map mr)),some (.od,Hd),some (.od,Du),u11,u12,u13,u14]
  have ixH:∀{ρ:Rho} {t:C} {i:Nat},ρ[9]?=some (some (.od,Hd))->Ev [] Φ t ρ (.int i)->i<2->Ev [] Φ (.ix (.var 9) t) ρ (.list ((B2 ps qs i).map mr)):=fun h k l=>zi7 (z01 h) k (zls (fun z=>z.map mr) .list l);have ixD':∀{ρ:Rho} {t:C} {i:Nat},ρ[10]?=some (some (.od,Du))->Ev [] Φ t ρ (.int i)->i<2->Ev [] Φ (.ix (.var 10) t) ρ (.list ((mw (B2 ps qs i)).map cd)):=fun h k l=>zi7 (z01 h) k (zls (fun z=>(mw z).map cd) .list l);have v0:∀{ρ:Rho},Ev [] Φ (.int 0) ρ (.int ((0:Nat):Int)):=z04.e;have v1:∀{ρ:Rho},Ev [] Φ (.int 1) ρ (.int ((1:Nat):Int)):=z04.e;have em1:∀{ρ:Rho},ρ[9]?=some (some (.od,Hd))->evE [] Φ (.call 0 "marrow" (.cons (.ix (.var 9) (.int 0)) .nil)) ρ=.ok (.fr,.list ((mw ps).map cd)):=fun h=>z16 (z00 (ixH h v0 (by decide)) z03) rfl (show z6f [.list ((B2 ps qs 0).map mr)]=_ from zkf (ps:=ps) hg (by omega));have em2:∀{ρ:Rho},ρ[9]?=some (some (.od,Hd))->evE [] Φ (.call 0 "marrow" (.cons (.ix (.var 9) (.int 1)) .nil)) ρ=.ok (.fr,.list ((mw qs).map cd)):=fun h=>z16 (z00 (ixH h v1 (by decide)) z03) rfl (show z6f [.list ((B2 ps qs 1).map mr)]=_ from zkf (ps:=qs) hgq hql);refine q_ok (zog (ρ':=R none none none none) (by cases g<;>rfl) (by show[_,_,_,_,_,_,_,settleA (some (.al,mr m)),_,_,_,_,_,_,_]=_;rw[zos (z0u m)];rfl) (zdd (zkr (em1 rfl) (em2 rfl)))) ?_;refine z2e (t_or (z6t (t_tv (zki (zi7 (z01 rfl) z04.e rfl)).e rfl)) fun _=>t_tv (z0q (k:=false) (z01 rfl) (z01 rfl) (zpz (z5d _) (z5d _))).e rfl) rfl ?_
  have hB:∀i,(∀p∈B2 ps qs i,RW ws p)/\Wh (B2 ps qs i)/\(B2 ps qs i).length<=60:=fun i=>by
   unfold B2;split
   ·exact⟨hr,hw,by omega⟩
   ·exact⟨hq,hv2,hql⟩
  let Fd:Option GD:=some (.nu,Du)
  refine zkl (g:=.fr) (m:=fun x:Nat×Nat=>.tuple [.int x.1,.int x.2]) (xs:=[(0,1),(1,0),(0,0)]) (ρ1:=R Fd none none none) (zox (fun i z=>by cases z) (z1b (z02 (z0x (z02 z04 (z02 z04 z0a))) (z02 (z0x (z02 z04 (z02 z04 z0a))) (z02 (z0x (z02 z04 (z02 z04 z0a))) z0a)))) rfl) (fun _ ρ=>∃u12 u13 o,ρ=R Fd u12 u13 o/\(∀y,u12=some y->imm y.2=true)/\(∀y,u13=some y->imm y.2=true)/\∀y,o=some y->imm y.2=true) ⟨none,none,none,rfl,(fun _ z=>by cases z),(fun _ z=>by cases z),fun _ z=>by cases z⟩ ?_ ?_
  ·rintro pre x post ρ hx ⟨u12,u13,u14,rfl,_⟩
   have hxm:x∈[(0,1),(1,0),((0:Nat),(0:Nat))]:=by rw[hx];exact ay _ ak
   obtain⟨i,j⟩:=x;have hij:i<2/\j<2:=by simp only[aw,Prod.mk.injEq,cw,or_false]at hxm;omega
   obtain⟨a1,a2,a3⟩:=hB i;obtain⟨b1,b2,b3⟩:=hB j;have ga:∀p∈B2 ps qs i,GR p:=fun p h=>(a1 p h).gr;have gb:∀p∈B2 ps qs j,GR p:=fun p h=>(b1 p h).gr
   let T:Rho:=R Fd (some (.al,.int i)) (some (.al,.int j)) (some (.al,dP (pt (B2 ps qs i) (B2 ps qs j))))
   have e1:evS [] Φ (.asg (.nm 14) (.call 2 "parted" (.cons (.ix (.var 9) (.var 12)) (.cons (.ix (.var 9) (.var 13)) .nil)))) (R Fd (some (.al,.int i)) (some (.al,.int j)) u14)=.ok (.nx T):=z0g (z07 (z00 (ixH rfl (z01 rfl) hij.1) (z00 (ixH rfl (z01 rfl) hij.2) z03)) rfl (ztv gw a1 b1 a3 b3) (zcb _));have ht:Tt [] Φ (.tv (.cmp .Eq (.ix (.var 10) (.var 12)) (.ix (.var 10) (.var 13)))) T (decide (mw (B2 ps qs i)=mw (B2 ps qs j))):=t_tv (z0q (ixD' rfl (z01 rfl) hij.1) (ixD' rfl (z01 rfl) hij.2) (zis _ _)).e rfl;refine⟨_,T,z2q rfl rfl,z0b e1 (z0b (z0o ht (fun z=>?_) fun z=>?_) z0k),_,_,_,rfl,(fun y hy=>by cases hy;rfl),(fun y hy=>by cases hy;rfl),fun y hy=>by cases hy;exact zcb _⟩
   ·have hn:=(zcu ga gb a2 b2).mpr (vy z);refine z1u (t_tv (zk5 (ng:=true) (x:=dP none) ?_).e rfl) rfl z0k;rw[<-hn];exact z01 rfl
   ·cases hpt:pt (B2 ps qs i) (B2 ps qs j)with
    |none=>exact absurd ((zcu ga gb a2 b2).mp hpt) (vz z)
    |some y=>obtain⟨k1,k2,k3⟩:=zui ga gb a2 b2 hpt;have hpa:=zmf ga gb k1 k2 k3;have ix2:∀{t:C} {i:Nat},Ev [] Φ t T (.int i)->i<2->Ev [] Φ (.ix (.lst (.cons (.var 6) (.cons (.var 8) .nil))) t) T (.list ((B2 ps qs i).map mr)):=fun k l=>zi7 (zj7 (z00 (z01 rfl) (z00 (z01 rfl) z03))) k (zls (fun z=>z.map mr) .list l);refine z1u (z6t (t_tv (z07 (z00 ?_ (z00 (ix2 (z01 rfl) hij.1) (z00 (ix2 (z01 rfl) hij.2) z03))) rfl hpa rfl).e rfl)) rfl z0k;show Ev [] Φ (.var 14) T (dP (some y));rw[<-hpt];exact z01 rfl
  ·rintro ρ ⟨u12,u13,u14,rfl,i12,i13,i14⟩
   have hk:∀u:Option GD,(∀y,u=some y->imm y.2=true)->∃u',z2t u=u':=fun u _=>⟨_,rfl⟩;have hln:((mw ps).map cd).length<=1000:=by have h1:=(z4h (mc ps)).length_eq;have h2:=zir ps;rw[af];show(srtC (mc ps)).length<=1000;omega
   refine zkx (e:=.ix (.var 11) (.int 0)) (a:=.non) (xs:=(mw ps).map cd) (ρ':=R none (z2t u12) (z2t u13) (z2t u14)) rfl hln zi6 ?_ (z09 (z0f (v_and (k:=true) (k':=true) (z0q (k:=true) (Ev.of (em1 rfl)) (ixD' (i:=0) rfl v0 (by decide)) ?_).e fun _=>z0q (k:=true) (z01 rfl) (zj7 (z00 (z01 rfl) (z00 (z01 rfl) z03))) (zp7 (z5i _) (z5i _))))) rfl
   ·show[_,_,_,_,_,_,_,z2t (some (.al,mr m)),_,_,_,_,_,_,_]=_;rw[zo1 (z0u m)];rfl
   ·show cmpD .Eq (.list ((mw ps).map cd)) (.list ((mw ps).map cd))=_;rw[zis,v5 rfl]
 have ht1:Tt [] Φ (.tv (.cmp .Gt (.bi "len" (.cons (.var 3) .nil)) (.int 1))) (bgR xs w ws rs cs re [none,none,none,none,none,none,none,none,none]) (decide (1<rs.length)):=t_tv (z0q (k:=decide (1<rs.length)) (v_bi (z00 (z01 rfl) z03) (z3i rs) rfl).e z04.e (by show Res.ok (decide ((1:Int)<(rs.length:Int)))=_;exact congrArg Res.ok (decide_eq_decide.mpr (by omega)))).e rfl;rcases hb.el with h1|⟨h3,n,hn⟩
 ·exact z2e (z3x ht1 (k':=false) fun z=>by rw[h1]at z;cases z) (by rw[h1];rfl) (fin .al ws hb.gw)
 ·obtain⟨a,b,c,rfl⟩:∃a b c,ws=[a,b,c]:=by
   match ws,h3 with
   | [a,b,c],_=>exact⟨a,b,c,rfl⟩
  have hbn:=hn b (au _ ak);have ht:=z3x ht1 fun _=>z3x (z1h (Φ:=Φ) (ρ:=bgR xs w [a,b,c] rs cs re [none,none,none,none,none,none,none,none,none]) (t:=.bin .Mod (.bin .FloorDiv (.var 1) (.int 3)) (.int 2)) (j:=0) (z0e (z0e (z01 rfl) z04.e (z24 (by decide) (by decide)) rfl).e z04.e (z1c (by decide)) rfl).e) fun _=>t_tv (k:=decide (b.length<12)) (a:=.cmp .Lt (.bi "len" (.cons (.ix (.var 2) (.int 1)) .nil)) (.int 12)) (z0q (k:=decide (b.length<12)) (v_bi (z00 (v_ix (d:=.str b) (z01 rfl) z04.e rfl rfl).e z03) (d:=.int (b.length:Int)) (zuj (by have:=hb.gw.wl b (au _ ak);omega)) rfl).e z04.e (by show Res.ok (decide ((b.length:Int)<12))=_;exact congrArg Res.ok (decide_eq_decide.mpr (by omega)))).e rfl;cases hk:(decide (1<rs.length)&&(decide (w/3%2=0)&&decide (b.length<12)))with
  |false=>rw[hk]at ht;exact z2e ht rfl (fin .al _ hb.gw)
  |true=>rw[hk]at ht;have hb12:b.length<12:=vy (ar.mp (ar.mp hk).2).2;have gm:=zbq hb.gw (hn a ak) hbn (hn c (au _ (au _ ak))) (by omega);refine q_ok (z0o ht (fun _=>z0b (z0z (z7g (w:=(true,[a,b++"m",c].map .str)) (Ev.of (z1b (z02 (v_ix (d:=.str a) (z01 rfl) z04.e rfl rfl) (z02 (z0e (d:=.str (b++"m")) (v_ix (d:=.str b) (z01 rfl) z04.e rfl rfl).e z1r.e (add_str (by show b.length+1<=1000;omega)) rfl) (z02 (v_ix (d:=.str c) (z01 rfl) z04.e rfl rfl) z0a))))) rfl (z3o (by show 3<64;decide)) (z18 _)) (z18 _)) z0k) fun z=>by cases z) (fin .fr _ gm)
end Mk
namespace Mk
open PySem PySem.Spec PyProof.Rows L2 Mi
def top (i:Nat):Stmt:=PySem.Challenge.pw_likebook_k34_marrows.main.body.getD i (.Pass ⟨0,0,0,0⟩)
abbrev FREE:List Str:=["isinstance","str","dict","enumerate","range","len","sorted","int","tuple","zip","sum","min","list","reversed","bool"]
abbrev Rz:List DRow:=[
 ⟨"check_side",top 4,["side"],["side"],["isinstance","str"],[],S_z0,F_z0,.n,[]⟩,
 ⟨"other_side",top 5,["side"],["side"],[],[0],S_z1,F_z1,.n,[]⟩,
 ⟨"side_of",top 6,["case","side"],["case","side"],[],[0],S_z2,F_z2,.n,[]⟩,
 ⟨"case_with",top 7,["side","own","opposed"],["side","own","opposed"],[],[],S_z3,F_z3,.n,[]⟩,
 ⟨"over",top 10,["one","other","held"],["one","other"],["dict"],[],S_z4,F_z4,.n,[]⟩,
 ⟨"within",top 9,["one","other"],["one","other"],[],[4],S_z5,F_z5,.n,[]⟩,
 ⟨"opposed_of",top 12,["one"],["one"],[],[2,1],S_z6,F_z6,.n,[]⟩,
 ⟨"apart",top 14,["one","case","side","less","more"],["one","case"],[],[4,6,2,1],S_z7,F_z7,.n,[]⟩,
 ⟨"binds",top 13,["one","case"],["one","case"],[],[7],S_z8,F_z8,.n,[]⟩,
 ⟨"binding",top 16,["book","case","k","one"],["book","case"],["enumerate"],[8],S_z9,F_z9,.n,[]⟩,
 ⟨"covers",top 18,["one","other"],["one","other"],[],[5,6],zlf,zbu,.n,[]⟩,
 ⟨"is_kept",top 19,["book","number","mine","k","one"],["book","number"],["enumerate"],[10],zk8,zcx,.n,[]⟩,
 ⟨"kept",top 20,["book"],["book"],["range","len"],[11],zk2,zf3,.n,[]⟩,
 ⟨"core",top 21,["one"],["one"],[],[6],zmc,zdz,.n,[]⟩,
 ⟨"marrow",top 22,["book"],["book"],["sorted"],[12,13],zm3,z6f,.n,[]⟩,
 ⟨"bound_here_alone",top 23,["here","there","side","reason","opposed","case","found"],["here","there"],[],[14,9,3],zn3,zgd,.n,[]⟩,
 ⟨"parted",top 24,["one","other","found"],["one","other"],[],[15],zk7,zc5,.n,[]⟩,
 ⟨"_law_mix",top 26,["_law_cell","_law_k","_law_some"],["_law_cell","_law_k"],[],[],znj,z22,.n,[]⟩,
 ⟨"_law_names",top 27,["_law_cell","_law_many","_law_letters","_law_size","_law_at_here","_law_words","_law_k","_law_spelt","_law_j","_law_step"],["_law_cell","_law_many"],["sorted","range","int"],[],zn2,z8l,.n,[]⟩,
 ⟨"_law_rungs",top 28,["_law_cell","_law_low"],["_law_cell"],[],[],zhr,z8p,.n,[]⟩,
 ⟨"_law_digits",top 29,["_law_cell","_law_many","_law_base","_law_found","_law_k"],["_law_cell","_law_many","_law_base"],["range"],[],zg2,z1p,.n,[]⟩,
 ⟨"_law_packed",top 30,["_law_words","_law_amounts"],["_law_words","_law_amounts"],["tuple","zip"],[],znl,z3y,.n,[]⟩,
 ⟨"_law_free_names",top 31,["_law_cells","_law_kept_words","_law_found","_law_cell","_law_digits_here","_law_spelt","_law_size"],["_law_cells"],[],[20],zh7,z8y,.n,[]⟩,
 ⟨"_law_begun",top 32,["_law_script","_law_many","_law_most","_law_whole","_law_head","_law_rungs_here","_law_words","_law_top"],["_law_script","_law_many","_law_most"],["sorted","sum"],[22,18,19,17],zgv,zb7,.n,[]⟩,
 ⟨"_law_pack_by",top 33,["_law_cell","_law_words","_law_rungs_here"],["_law_cell","_law_words","_law_rungs_here"],["len"],[21,20],zh0,z8w,.n,[]⟩,
 ⟨"_law_case_by",top 34,["_law_cell","_law_words","_law_rungs_here","_law_digits_here"],["_law_cell","_law_words","_law_rungs_here"],["len"],[24,17,21,20],zgg,zaw,.n,[]⟩,
 ⟨"_law_less",top 35,["_law_one","_law_cell","_law_rungs_here","_law_base","_law_rows","_law_pair","_law_digit","_law_mine"],["_law_one","_law_cell","_law_rungs_here"],["tuple","zip","len","min"],[20],zhu,z6c,.n,[]⟩,
 ⟨"_law_free_ruling",top 36,["_law_cell","_law_words","_law_base","_law_many","_law_digits_here","_law_own","_law_reason","_law_case"],["_law_cell","_law_words","_law_base"],["zip","min","len"],[21,20],zk3,zbm,.n,[]⟩,
 ⟨"_law_ruling_by",top 37,["_law_cell","_law_words","_law_rungs_here","_law_case","_law_way","_law_reason"],["_law_cell","_law_words","_law_rungs_here"],["len"],[26,17,25,27],zh1,zb4,.n,[]⟩,
 ⟨"_law_amount",top 38,["_law_one","_law_word","_law_told","_law_amount_here"],["_law_one","_law_word"],[],[],zl1,zcw,.n,[]⟩,
 ⟨"_law_fits",top 39,["_law_one","_law_two","_law_word","_law_amount_here"],["_law_one","_law_two"],[],[29],zmy,z6r,.n,[]⟩,
 ⟨"_law_at",top 40,["_law_side"],["_law_side"],["int"],[],zrp,z5x,.n,[]⟩,
 ⟨"_law_clash",top 41,["_law_one","_law_two"],["_law_one","_law_two"],[],[30,31],zl3,z8e,.n,[]⟩,
 ⟨"_law_binds_by",top 42,["_law_one","_law_case","_law_at_here"],["_law_one","_law_case"],[],[30,31],zkj,ze8,.n,[]⟩,
 ⟨"_law_facing",top 43,["_law_one"],["_law_one"],[],[31],zm2,z8d,.n,[]⟩,
 ⟨"_law_covers_by",top 44,["_law_one","_law_two"],["_law_one","_law_two"],[],[30,34],zlc,zd2,.n,[]⟩,
 ⟨"_law_twin",top 45,["_law_one","_law_cell","_law_words","_law_rungs_here","_law_way","_law_at_here","_law_case","_law_reason"],["_law_one","_law_cell","_law_words","_law_rungs_here"],[],[26,17,24,31],zhv,zgb,.n,[]⟩,
 ⟨"_law_book_by",top 46,["_law_cells","_law_words","_law_rungs_here","_law_found","_law_cell","_law_one"],["_law_cells","_law_words","_law_rungs_here"],["len"],[32,17,36,28],zgy,zh9,.n,[]⟩,
 ⟨"_law_marrow",top 47,["_law_book","_law_rows","_law_one","_law_row","_law_others"],["_law_book"],["sorted"],[35,34],zn6,zes,.n,[]⟩,
 ⟨"_law_changed",top 48,["_law_book","_law_cell","_law_more","_law_found","_law_way","_law_at_here"],["_law_book","_law_cell","_law_more"],["len","list","reversed"],[32],zg3,zi1,.n,[]⟩,
 ⟨"_law_bound",top 49,["_law_book","_law_case","_law_side"],["_law_book","_law_case","_law_side"],[],[33],zl6,z8v,.n,[]⟩,
 ⟨"_law_parts_well",top 50,["_law_found","_law_book","_law_other","_law_first","_law_second"],["_law_found","_law_book","_law_other"],["isinstance","bool","len","tuple"],[40],zjz,zd4,.n,[]⟩]
abbrev Lr:DRow:=⟨"law",top 51,["_law_script","_law_whole","_law_words","_law_rungs_here","_law_cells","_law_rest","_law_book","_law_more","_law_other","_law_handed","_law_due","_law_found","_law_one","_law_two","_law_told"],["_law_script"],["isinstance","list","len","int","sorted"],[14,41,16,38,37,39,17,28,23],zfi,zcl,.n,[]⟩
abbrev Xt:List XR:=[]
theorem t_ok:oks (Rz++[Lr]) Xt FREE 0 (Rz++[Lr])=true:=by decide+kernel
theorem t_F:fOks (Rz++[Lr]) (Rz++[Lr]):=⟨rfl,rfl,rfl,rfl,rfl,rfl,rfl,rfl,rfl,rfl,rfl,rfl,rfl,rfl,rfl,rfl,rfl,rfl,rfl,rfl,rfl,rfl,rfl,rfl,rfl,rfl,rfl,rfl,rfl,rfl,rfl,rfl,rfl,rfl,rfl,rfl,rfl,rfl,rfl,rfl,rfl,rfl,rfl,trivial⟩
def zLd:vw:=⟨"law",z1v (top 51),z14 (top 51),z0i (top 51),⟨241,0,263,91⟩⟩
theorem zH3:KEq zKz (Rz++[Lr]) FREE Xt:=by
 rw[PySem.W.Fast.tkeq_eq];intro P
 kernel_rfl
theorem zT1:Tp.said PySem.Challenge.rw_likebook_k34_marrows=true:=by
 rw[PySem.W.Fast.tsaid_eq]
 kernel_rfl
theorem zT2:W.opening zRp=W.plainProg zRp.main.scope.names:=by kernel_rfl
theorem zT3:∀s,fenceModules? zRp s=some s:=fun s=>by kernel_rfl
theorem zT4:W.defOf zQv PySem.Challenge.rw_likebook_k34_marrows.row.name=some (zLd,[]):=by kernel_rfl
theorem zT5:zRp.theDef PySem.Challenge.rw_likebook_k34_marrows.row.name=some (zLd.params,zLd.body,zLd.scope):=by kernel_rfl
theorem zT6:W.kwWritten? zLd.params.kwonlyargs zLd.params.kw_defaults=some []:=by kernel_rfl
theorem zT7:(!PySem.Challenge.rw_likebook_k34_marrows.row.writes||PySem.Challenge.rw_likebook_k34_marrows.row.records.isEmpty)=true:=by kernel_rfl
theorem zT8:(W.chainsOk zQv&&W.opensWell zRp&&(W.frees PySem.Challenge.rw_likebook_k34_marrows.row.toRowW&&PySem.Challenge.rw_likebook_k34_marrows.row.within.isEmpty))=true:=by kernel_rfl
theorem walk {l:W.OpenLaw}{q:ba}{loose:List Str}{XP:(Str->Option Value)->Heap->Prop}{YP:World->Heap->Prop}{d:vw}{K:gy->W.Frag}(hn:l.most=some 63)(hdf:d.params.defaults=[])
  (hY:∀(w:World) (h:Heap),YP w h->(K w.params).In h)
  (F:∀(w:World) (mg:Str->Option Value) (fa:Addr) (h:Heap),(K w.params).In h->h.Ns b8 mg->mg d.name=some (.ref fa)->∃fd:fj,(∀(s:ac) (u:Value),q9 s fd ⟨[u],[]⟩ [("_law_script",u)])/\∀base:Heap,(K w.params).In base->base.Ns b8 mg->FnOk l.prog w (K w.params) mg base CX0 43 fa fd ["_law_script"] (spD (K w.params) 1 zcl)):
  W.WalkO q loose XP YP l.row.toRowW d [] (fun f vs=>PySem.call f vs):=
 L2.walk_of (n:=63) (k:=43) (x:="_law_script") (CX:=fun _=>CX0) (sp:=fun w=>spD (K w.params) 1 zcl) hn (by decide) hdf ⟨rfl,by decide,by decide⟩ hY F (fun _ _ a ns hl _ hS=>⟨_,_,_,rfl,zbf hS,ztp hl,fun v H' _ r=>r⟩) fun _ _ _ _ _ z=>z
theorem b_ok:bOks Rz:=⟨fun _ _ _ _ _ _=>by1 fun _=>rfl,fun _ _ _ _ _ _=>by1 fun _=>rfl,fun _ _ _ _ _ _=>by2 fun _ _=>rfl,fun _ _ _ _ _ _=>by3 fun _ _ _=>rfl,fun _ _ _ _ _ _=>by2 fun _ _=>rfl,fun _ _ _ _ _ _=>by2 fun _ _=>rfl,fun _ _ _ _ _ _=>by1 fun _=>rfl,fun _ _ _ _ _ _=>by2 fun _ _=>rfl,fun _ _ _ _ _ _=>by2 fun _ _=>rfl,fun _ _ _ _ _ _=>by2 fun _ _=>rfl,fun _ _ _ _ _ _=>by2 fun _ _=>rfl,fun _ _ _ _ _ _=>by2 fun _ _=>rfl,fun _ _ _ _ _ _=>by1 fun _=>rfl,fun _ _ _ _ _ _=>by1 fun _=>rfl,fun _ _ _ _ _ _=>by1 fun _=>rfl,fun _ _ _ _ _ _=>by2 fun _ _=>rfl,fun _ _ _ _ _ _=>by2 fun _ _=>rfl,fun _ _ _ _ _ _=>by2 fun _ _=>rfl,fun _ _ _ _ _ _=>by2 fun _ _=>rfl,fun _ _ _ _ _ _=>by1 fun _=>rfl,fun _ _ _ _ _ _=>by3 fun _ _ _=>rfl,fun _ _ _ _ _ _=>by2 fun _ _=>rfl,fun _ _ _ _ _ _=>by1 fun _=>rfl,fun _ _ _ _ _ _=>by3 fun _ _ _=>rfl,fun _ _ _ _ _ _=>by3 fun _ _ _=>rfl,fun _ _ _ _ _ _=>by3 fun _ _ _=>rfl,fun _ _ _ _ _ _=>by3 fun _ _ _=>rfl,fun _ _ _ _ _ _=>by3 fun _ _ _=>rfl,fun _ _ _ _ _ _=>by3 fun _ _ _=>rfl,fun _ _ _ _ _ _=>by2 fun _ _=>rfl,fun _ _ _ _ _ _=>by2 fun _ _=>rfl,fun _ _ _ _ _ _=>by1 fun _=>rfl,fun _ _ _ _ _ _=>by2 fun _ _=>rfl,fun _ _ _ _ _ _=>by2 fun _ _=>rfl,fun _ _ _ _ _ _=>by1 fun _=>rfl,fun _ _ _ _ _ _=>by2 fun _ _=>rfl,fun _ _ _ _ _ _=>by4 fun _ _ _ _=>rfl,fun _ _ _ _ _ _=>by3 fun _ _ _=>rfl,fun _ _ _ _ _ _=>by1 fun _=>rfl,fun _ _ _ _ _ _=>by3 fun _ _ _=>rfl,fun _ _ _ _ _ _=>by3 fun _ _ _=>rfl,fun _ _ _ _ _ _=>by3 fun _ _ _=>rfl,trivial⟩
end Mk
open PySem PySem.W PyProof.Rows Mi
set_option maxRecDepth 100000 in
set_option maxHeartbeats 0 in
theorem PySem.Challenge.cw_likebook_k34_marrows_holds : PySem.Challenge.rw_likebook_k34_marrows.Holds := by
 refine Tp.holds (l:=PySem.Challenge.rw_likebook_k34_marrows) (q:=Mk.zQv) (d:=Mk.zLd) (K:=Mk.zKz) (M:=100000) (N:=200000) Mk.zT1 (Tp.Ko_as _ _ Mk.zAs) Mk.zT2 rfl Mk.zT3 (by decide) Mk.zH1 Mk.zH2 Mk.zT4 Mk.zT5 Mk.zT6 Mk.zT7 Mk.zT8 ⟨rfl,rfl,rfl,rfl,rfl,by decide+kernel⟩ (by w_witness2) ?_;refine Mk.walk (l:=PySem.Challenge.rw_likebook_k34_marrows) rfl rfl (fun w h Y=>Y) ?_;intro w mg fa h KX G hmg;exact all_rows (Rs:=Mk.Rz) (lr:=Mk.Lr) (xt:=Mk.Xt) (fr:=Mk.FREE) KX G hmg rfl rfl Mk.t_ok Mk.t_F (zfd (fun r hr=>(z6p Mk.zH3 w.params).1 r (j6 _ hr)) Mk.b_ok) ((z6p Mk.zH3 w.params).1 Mk.Lr (ay _ (.head _))) (fun _ _ _ _ _ _ s v=>.of_eq rfl) (z6p Mk.zH3 w.params).2.1 (z6p Mk.zH3 w.params).2.2.1 (fun z=>absurd rfl z) (z6p Mk.zH3 w.params).2.2.2
