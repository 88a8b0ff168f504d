import PyProof.Rows.All
import Wide.All
import OpenK.AllK
import Wide.FinOn
import Lean
import PyProof.EqAt
import PyProof.EqKinds
import PyProof.TupleCall
import PySem.Syntax
import PyProof.P3Statements
import PyProof.SliceList
import KE.KUnpack
import KE.KIntText
import PyProof.Rows.StrFirst
import PyProof.StrLawsTight
import PyProof.StrCalls2
import PyProof.AttrMissSeq
import PyProof.AttrMissHeap
import KE.KDictOf
import KE.KSortTup
import PyProof.DictItemsLoops
import KE.KPairComp
import KE.KItemsList
import KE.KDictSum
import PyProof.Draws
import PyProof.ZipIter
import PyProof.EnumMake
import PyProof.WalksEnum
import PyProof.Rows.SetFrom
import PyProof.SetRoads
import KE.KRevIter
import Open.Pieces
import OpenK.KWalk
import PyProof.Rows.Walk
import PySem.Challenge.RW_likebook_k06_read
noncomputable section
open Array renaming length_toList→bp,getD_eq_getD_getElem?→e8,toArray_toList→g9,getElem?_eq_getElem→ly,size_append→l9,Perm→ny,getElem?_toList→og,toList_append→p7,append_assoc→qf
open Bool renaming and_eq_true→ak,and_eq_true_iff→ba,false_ne_true→bj,or_eq_true→cj,or_eq_true_iff→d8,not_eq_true'→eh,eq_iff_iff→jl,beq_eq_decide_eq→ka,true_and→mh,or_true→nq,and_eq_false_iff→om,false_and→ot,and_false→pe,and_self→qd,false_eq_true→ql,true_or→qx,eq_false_iff→re
open Char renaming toNat→gm
open Int renaming eq_ofNat_of_zero_le→j4,emod_nonneg→la,toNat_natCast→se,le_refl→tm
open List renaming map_cons→ae,length_map→am,mem_cons→ao,size_toArray→aq,mem_cons_self→au,mem_cons_of_mem→aw,all_eq_true→ax,length_cons→ay,length_append→az,getD_eq_getElem?_getD→a9,getElem?_eq_getElem→bd,getElem?_eq_some_iff→bn,getElem?_map→bo,mem_map→bq,getElem?_set_ne→bt,mem_append_right→bu,replicate→bw,range→b8,mem_singleton→cf,pairwise_cons→cg,length_set→ci,all_cons→cn,not_mem_nil→cr,mem_of_getElem?→cw,mem_append→cx,length_replicate→c6,contains_iff_mem→c7,filterMap_cons→c8,nodup_cons→c9,lookup_cons→df,map_map→di,getElem?_set_self→dm,append_nil→dn,length_drop→dq,getElem?_set→du,map→dw,map_append→dz,length_take→d6,filter_eq_self→d9,getElem_mem→ez,getElem?_append_right→fj,flatten_cons→fm,length_range→fo,takeWhile_cons→fq,getElem?_eq_none_iff→fu,toArray→f8,getElem?_replicate→f9,length_eq_zero_iff→gb,dropWhile_cons→gf,toList_toArray→gg,sum_cons→gi,contains_cons→gk,getElem?_append_left→gp,mem_filter→gu,find?_cons→gw,mem_append_left→gz,append_assoc→g8,map_inj_left→ig,any_cons→ij,getElem?_cons_succ→iq,cons_append→iw,mem_filterMap→iy,replicate_succ→ja,map_congr_left→jb,Pairwise→jd,nil_append→jm,length→jv,getElem?_cons_zero→jz,mem_range→j5,take_of_length_le→j8,count_append→j9,length_filter_le→ke,mem_flatten→kq,mem_of_mem_drop→kt,getElem?_append→ku,length_nil→kz,foldl_cons→k9,all_map→lh,findIdx?_cons→lq,drop_eq_getElem_cons→lw,filterMap_cons_none→ml,filterMap_cons_some→mm,pairwise_singleton→mx,filter_cons_of_pos→mz,filter_cons_of_neg→m3,takeWhile_sublist→nr,dropWhile_sublist→nv,of_mem_zip→n5,countP_mono_left→oh,mem_iff_getElem?→ol,mem_of_mem_take→o0,nodup_nil→pc,getElem?_range→pv,getElem_of_mem→p4,zip_cons_cons→qm,length_zipIdx→qt,take_sublist→qw,map_nil→rc,pairwise_map→rz,set_set→sg,Sublist→sj,mem_range'_1→sk
open List.Sublist renaming length_le→n4
open Nat renaming le_refl→ah,lt_of_lt_of_le→br,ne_of_lt→bx,lt_irrefl→b6,zero_le→ce,le_trans→ck,toDigits→dj,lt_of_le_of_lt→jt,le_of_lt→j6,lt_trans→lc,repr_eq_ofList_toDigits→li,length_toDigits_le_iff→lu,le_succ_of_le→ma,le_of_not_lt→mv,succ_lt_succ→my,one_lt_two→pb,add_sub_cancel'→pq,digitChar→qe,add_sub_cancel→qk,succ_pos→rf,zero_add→si
open Option renaming map_eq_some_iff→dh,isNone_iff_eq_none→d7,bind_eq_some_iff→iu
open Option.some renaming injEq→l6
open PyProof.Rows renaming seqObj→cu,get?_update_seq→jn,kindOf→kn,listUpdate_at→kr,AllBare→lb,subscriptTail_builtinR→nc,listItems_at→nz,envOfC→ow,seqEpoch_at→o5,joinParts_cons→o6,FormattedValue_plain→o8,Constant_none→p8,plain_sorted→rk,entry_sorted→rm,args_sorted1→rq,keyKind'→r6,kind_sorted→tf,IntsAre→tw,boot_range→t9,size_push'→ug
open PySem renaming Shared→aa,PyData→ac,wpAny_bind→af,wpAny_pure→a8,Program→bc,sizeLine→bf,mainGlobals→bv,Around→bz,compareOp→b9,sizeLine_eq→cq,bootBuiltins→cv,starEach→cy,wpAny_holding→dr,wpAny_truthy_bool→dt,assignEach→eu,foldedSetIterable→e9,FuncData→fg,NameKind→fi,behindInMarks→fz,Params→gc,binaryOp→ge,wpAny_Call_Name_kw→gj,PassesOwn→gv,wpAny_call_entry→im,wpAny_getItem_str_slice→ip,wpAny_newObj_type→iz,wpAny_loadPart_at→i5,unbindBehindTheSuite→i7,Operator→jc,Comprehension→jf,wpAny_newList→jg,letOwnedTupleGo→jh,wpAny_passesOwn→jk,importedModules→jo,wpAny_mono→jp,typeIs_str→jq,call_meets→jr,wpAny_field→jw,wpAny_callSpecial?_slot→jx,sliceBounds→jy,treeTable→j3,backTo→j7,sysModules→kg,wpAny_execs_cons→kh,swapsWith→km,Paired→kw,wpAny_execs_nil→ky,post_val_or_str→k8,wpAny_pyIter_tuple→lm,codeAny→l7,wpAny_pyIter_list→l8,OsState→md,attributeBase→me,wpAny_comprehension_free→mf,lastMarks→mq,noFill_tuple_add→mr,ReadsAll→mw,assign→m4,wpAny_pyNext_range_end→m5,wpAny_pyIter_rangeiter→m6,codeAny_mono→m7,Keyword→m8,concat_meets→m9,codeAny_builtin→n6,wpAny_isTrue_Compare1→n8,isTrue→oo,wpAny_loadName_local→oq,IsRangeIter→ou,sliceRange_one→ox,typeOf→oy,codeAny_call_builtin→o9,holding→pf,BindsTo→ph,valueAt→pi,callerA→pj,wpAny_isSubtype_exc→p6,swapsWithSole→p9,swappedStores→qa,seq_tuple_add→qb,wpAny_standAt→qc,wpAny_Name→qg,rawInt→qh,wpAny_pyIter_range→qi,IsPart→qj,isInstance→qo,wpAny_tupleItemsOf→qp,wpAny_rule→qr,GenState→qu,wpAny_assign_Name→qv,getItem→qy,seqIndex_neg→q8,slot_list_getitem→q9,wpAny_pyIter_enum→sf,seqIndex?→sr,keywordEach→sv,seqIndex_of→sw,standAt→tu,builtinsNs→tz,truthy→t0,pyIter→t7,wpAny_load→t8,bindArgs→ua,PlainAttrs→ub,intItems→uc,call_gives→ud,getAttr?→ue,checkCount→uf,Result→uh,DefRec→ui,relabel→uj
open PySem.Builtin.List renaming listExtendWith→lf
open PySem.Builtin.Range renaming rangeSize→ju,rangeFitsLong→lg,small→p5
open PySem.Builtin.Slice renaming slicePlaces→gq,sliceAdjust→i8,sliceApplied→ll
open PySem.Builtin.SmallTypes renaming nextOf→lx
open PySem.Builtin.Str renaming occurrences→b7,strSub→cz,strSliceIndices→gh,strKind→pw,glued→rh
open PySem.Builtin.Tuple renaming tupleExact→ik
open PySem.Calls renaming Name_function_global→i6,call_function_entry→i9,spliced_cons→lj,loadGlobal_global→mo,callWith_builtin→nk,evalArgs_plain→oz
open PySem.Heap renaming get?_push_of_some→ag,lt_size→bg,get?_push_size→bh,SameBut→g7,get?_update_other→nh,get?_update_self→n9,get?_none_of_le→on,get?_update_ne→pz
open String renaming toList_ofList→pd
set_option Elab.async false
set_option linter.all false
set_option maxRecDepth 100000
theorem uk {p:Prop} [Decidable p] (h:decide p=true):p:=of_decide_eq_true h
theorem ul {p:Prop} [Decidable p] (h:p):decide p=true:=decide_eq_true h
theorem um {p:Prop} [Decidable p] (h:¬p):decide p=false:=decide_eq_false h
theorem uo {α} [BEq α] [LawfulBEq α] {a b:α}(h:(a==b)=true):a=b:=beq_iff_eq.mp h
namespace Tp
open PySem PySem.W PyProof.Rows
def q0:Pos:=⟨0,0,0,0⟩
def an:Option Value:=some (.ref 6)
def ev (p:bc):Env:={scope:=p.main.scope,locals:=mainNs,globals:=mainNs,cells:=[],code:=.ref 13,frame:=some 14}
def cd (p:bc):Code:=.body (behindTheImports p) (ev p)
def grow:List Obj->Nat->BT->BT
 | [],_,t=>t
 |o::l,i,t=>grow l (i+1) (t.ins i o)
def lift (s:aa):SharedT:=⟨grow s.heap.objs.toList 0 .nil,s.heap.objs.size,s.heap.life,s.gens,s.drawn,s.toks,s.os⟩
def pre (p:bc)(H:gc->Heap)(d:Drawn)(k:Nat)(w:World)(os:md):Option (aa×Thread):=topGo j3 p w 11 an 12 ⟨H w.params,#[],d,k,os⟩ (topStub p)
def preS (p:bc)(H:gc->Heap)(d:Drawn)(k:Nat)(w:World)(os:md):SharedT:=lift (((pre p H d k w os).map Prod.fst).getD ⟨H w.params,#[],d,k,os⟩)
def run (p:bc)(H:gc->Heap)(d:Drawn)(k N:Nat)(w:World)(os:md):Option (Flow×SharedT×Code×Pos):=segRunT j3 p w 11 an 1 N (preS p H d k w os) (piecesOf (behindTheImports p) (ev p) (cd p) q0 [topFrame q0])
def PreEq (p:bc)(H:gc->Heap)(d:Drawn)(k:Nat):Prop:=∀(w:World) (os:md),((H w.params).isNs bv&&(#[]:Array qu).size==0,(H w.params).objs.size,(H w.params).nsMap bv "__annotations__",pre p H d k w os,fun s c=>segRun j3 p w 11 an 1 1 s (blockOf (behindTheImports p) (ev p) c q0 [topFrame q0]))=(true,11,an,some ((preS p H d k w os).abs,⟨denote j3 (cd p),cd p,q0,[topFrame q0]⟩),fun s c=>some (.next,s,c,q0))
def seen (p q:bc)(R:WRecords)(as:List Addr)(H:gc->Heap)(w:World)(s:SharedT):=(staticsOk (jo p.main.body) (H w.params) s.abs.heap&&namesBound p s.abs.heap&&gensDone s.abs&&laidKept (H w.params) s.abs.heap,openSeen q [] (jo p.main.body) (fun s=>xlAt q [] s&&recOk R s) true s.abs,as.map s.abs.heap.get?)
def pick {α:Type}(f:SharedT->α):Flow×SharedT×Code×Pos->Option (Code×α)
 |(.next,s,c,_)=>some (c,f s)
 |_=>none
def RunEq (p q:bc)(R:WRecords)(as:List Addr)(K:gc->List (Addr×Obj))(H:gc->Heap)(d:Drawn)(k N:Nat):Prop:=∀(w:World) (os:md),(run p H d k N w os).bind (pick (seen p q R as H w))=some (cd p,true,openGood q [],(K w.params).map fun x=>some x.2)
theorem fin_ (tb:String->Option Builtin)(p:bc)(w:World)(n:Nat)(a:Option Value)(s:aa)(c:Code)(ps q:Pos):topRun tb p w n a 2 s ⟨doneF .next,c,ps,[topFrame q]⟩=some s:=by obtain⟨h,g,d,k,os⟩:=s;rfl
theorem left {p q:bc}{R:WRecords}{as:List Addr}{K:gc->List (Addr×Obj)}{M N:Nat}(o:∀w,(fencedOpening j3 p w N).map (fun s=>(s.heap,s.gens,s.drawn,s.toks))=some (boot_heap w.params,#[],boot_drawn,boot_toks))(le:12+(1+(M+2))<=N)
  (h1:PreEq p boot_heap boot_drawn boot_toks) (h2:RunEq p q R as K boot_heap boot_drawn boot_toks M):LeftO p q [] (fun s=>xlAt q [] s&&recOk R s) (fun s=>as.map s.heap.get?) (fun w=>(K w.params).map fun x=>some x.2) N:=fun w=>by
 obtain⟨⟨h,gs,d,k,os⟩,e,e'⟩:=dh.mp (o w);have e1:=Prod.mk.inj e';have e2:=Prod.mk.inj e1.2;have e3:=Prod.mk.inj e2.2;obtain rfl:h=boot_heap w.params:=e1.1;obtain rfl:gs=#[]:=e2.1;obtain rfl:d=boot_drawn:=e3.1;obtain rfl:k=boot_toks:=e3.2;have a:=Prod.mk.inj (h1 w os);have a2:=Prod.mk.inj a.2;have a3:=Prod.mk.inj a2.2;have a4:=Prod.mk.inj a3.2;obtain⟨⟨f,s,c,ps⟩,r1,r2⟩:=iu.mp (h2 w os);cases f with
 |next=>
  have b:=Prod.mk.inj (Option.some.inj r2);have b1:=Prod.mk.inj b.2;have b2:=Prod.mk.inj b1.2;obtain rfl:c=cd p:=b.1;have t1:topRun j3 p w 11 an (M+2) (preS p boot_heap boot_drawn boot_toks w os).abs (restOf (behindTheImports p++[]) (ev p) (cd p) q0 [topFrame q0])=some s.abs:=piece_app (segRun_of r1) (fin_ j3 p w 11 an s.abs (cd p) ps q0);rw[dn]at t1;have t2:=piece_block (congrFun (congrFun a4.2 (preS p boot_heap boot_drawn boot_toks w os).abs) (cd p)) t1;have t3:=go_top a4.1 t2;have t4:=topRun_mono (N-(12+(1+(M+2)))) _ _ _ _ t3;rw[pq le]at t4
  have t:topFrom j3 p w N ⟨boot_heap w.params,#[],boot_drawn,boot_toks,os⟩=some s.abs:=by
   unfold topFrom
   dsimp only
   rw[a.1,a2.1,a3.1,t4];show(match staticsOk (jo p.main.body) (boot_heap w.params) s.abs.heap&&namesBound p s.abs.heap&&gensDone s.abs&&laidKept (boot_heap w.params) s.abs.heap with|true=>some s.abs|false=>none)=_;rw[b1.1]
  unfold openEnds;rw[e];show(topFrom j3 p w N _).map _=_;rw[t];exact congrArg some (Prod.ext b2.1 b2.2)
 |_=>cases r2
theorem pre_r:PreEq=PreEq:=rfl
def zg0 (p q:bc)(R:WRecords)(H:gc->Heap)(w:World)(s:SharedT):=(staticsOk (jo p.main.body) (H w.params) s.abs.heap&&namesBound p s.abs.heap&&gensDone s.abs&&laidKept (H w.params) s.abs.heap,openSeen q [] (jo p.main.body) (fun s=>xlAt q [] s&&recOk R s) true s.abs)
def RunA (p q:bc)(R:WRecords)(H:gc->Heap)(d:Drawn)(k N:Nat):Prop:=∀(w:World) (os:md),(run p H d k N w os).bind (pick (zg0 p q R H w))=some (cd p,true,openGood q [])
def RunB (p:bc)(as:List Addr)(K:gc->List (Addr×Obj))(H:gc->Heap)(d:Drawn)(k N:Nat):Prop:=∀(w:World) (os:md),(run p H d k N w os).bind (pick fun s=>as.map s.abs.heap.get?)=some (cd p,(K w.params).map fun x=>some x.2)
theorem zei {α β:Type}{f:SharedT->α}{g:SharedT->β}{x:Option (Flow×SharedT×Code×Pos)}{c:Code}{a:α}{b:β}(h1:x.bind (pick f)=some (c,a))(h2:x.bind (pick g)=some (c,b)):x.bind (pick fun s=>(f s,g s))=some (c,a,b):=by
 cases x with
 |none=>cases h1
 |some y=>
  obtain⟨fl,s,c',ps⟩:=y;cases fl with
  |next=>have e1:=Prod.mk.inj (Option.some.inj (show some (c',f s)=some (c,a)from h1));have e2:=Prod.mk.inj (Option.some.inj (show some (c',g s)=some (c,b)from h2));show some (c',f s,g s)=_;rw[e1.1,e1.2,e2.2]
  |_=>cases h1
theorem run_ab {p q:bc}{R:WRecords}{as:List Addr}{K:gc->List (Addr×Obj)}{H:gc->Heap}{d:Drawn}{k N:Nat}(h1:RunA p q R H d k N)(h2:RunB p as K H d k N):RunEq p q R as K H d k N:=fun w os=>by
 have h:=zei (h1 w os) (h2 w os);cases e:run p H d k N w os with
 |none=>rw[e]at h;cases h
 |some y=>
  rw[e]at h;obtain⟨fl,s,c',ps⟩:=y;cases fl with
  |next=>have e1:=Prod.mk.inj (Option.some.inj (show some (c',(zg0 p q R H w s,as.map s.abs.heap.get?))=some (cd p,(true,openGood q []),_)from h));have e2:=Prod.mk.inj e1.2;show some (c',(zg0 p q R H w s).1,(zg0 p q R H w s).2,as.map s.abs.heap.get?)=_;rw[e1.1,e2.2,e2.1]
  |_=>cases h
theorem runA_r:RunA=RunA:=rfl
theorem runB_r:RunB=RunB:=rfl
end Tp
lay_quick Tp.PreEq Tp.RunA Tp.RunB
name_quick tpre for Tp.PreEq by Tp.pre_r
name_quick truna for Tp.RunA by Tp.runA_r
name_quick trunb for Tp.RunB by Tp.runB_r
namespace Tp
open PySem PySem.W PyProof.Rows
theorem rn_r:run=run:=rfl
end Tp
name_quick trn for Tp.run by Tp.rn_r
namespace Tp
open PySem PySem.W PyProof.Rows
def obj (p:bc)(M:Nat)(P:gc)(a:Addr):Obj:=((PySem.W.Fast.trn p boot_heap boot_drawn boot_toks M ⟨fun _ _=>0,P⟩ default).map fun x=>(x.2.1.tree.get a).getD default).getD default
def Ko (p:bc)(M:Nat)(as:List Addr)(P:gc):Frag:=as.map fun a=>(a,obj p M P a)
theorem Ko_as (p:bc)(M:Nat)(as:List Addr)(P:gc):as=(Ko p M as P).map (·.1):=by unfold Ko;rw[di];exact(List.map_id _).symm
def said (l:OpenLaw):Bool:=l.wellSaid
theorem said_r:said=said:=rfl
theorem holds {l:OpenLaw}{q:bc}{d:ui}{as:List Addr}{K:gc->Frag}{M N:Nat}(ws:said l=true)(ek:∀P,as=(K P).map (·.1))(o1:opening l.row.prog=plainProg l.row.prog.main.scope.names)(o2:Nat.ble 600 N=true)(o3:∀s,fenceModules? l.row.prog s=some s)(le:12+(1+(M+2))<=N)
  (h1:PreEq l.row.prog boot_heap boot_drawn boot_toks) (h2:RunEq l.row.prog q l.row.records as K boot_heap boot_drawn boot_toks M) (a1:defOf q l.row.name=some (d,[])) (a2:l.row.prog.theDef l.row.name=some (d.params,d.body,d.scope)) (a3:kwWritten? d.params.kwonlyargs d.params.kw_defaults=some []) (a4:(!l.row.writes||l.row.records.isEmpty)=true)
  (a5:(chainsOk q&&opensWell l.row.prog&&(frees l.row.toRowW&&l.row.within.isEmpty))=true) (a6:l.row.prog.bare) (a7:l.row.toRowW.promised) (call:WalkO q [] (XL q []) (InK K) l.row.toRowW d [] fun f vs=>PySem.call f vs):l.Holds:=
 holds_law ws fun z=>holds_open (left (boot_open o1 o2 o3) le h1 h2) (InK.of ek) InK.keeps (fun s e=>xl_of s (ba.mp e).1) XL.keeps a1 a2 a3 (fun s e=>recFacts_of (ba.mp e).2) a4 z a5 a6 a7 call
end Tp
lay_quick Tp.said
name_quick tsaid for Tp.said by Tp.said_r
namespace Mk
open PySem PySem.Spec PyProof.Rows
abbrev zRp:bc:=PySem.Challenge.rw_likebook_k06_read.row.prog
def zQv:bc:=W.view zRp [1,2,3,4,5,6,7,8,9,10,11,12,13,15,16,17,18,19,21,22,23,24,25,27,28,29,30,31,32,33,34,35,36,37,38]
def zAs:List Addr:=b8 334
def zKz:gc->W.Frag:=Tp.Ko zRp 100000 zAs
theorem zH1:Tp.PreEq zRp W.boot_heap W.boot_drawn W.boot_toks:=by
 rw[PySem.W.Fast.tpre_eq];intro w os
 kernel_rfl
theorem zH2a:Tp.RunA zRp zQv PySem.Challenge.rw_likebook_k06_read.row.records W.boot_heap W.boot_drawn W.boot_toks 100000:=by
 rw[PySem.W.Fast.truna_eq];intro w os
 kernel_rfl
theorem zH2b:Tp.RunB zRp zAs zKz W.boot_heap W.boot_drawn W.boot_toks 100000:=by
 rw[PySem.W.Fast.trunb_eq];intro w os
 kernel_rfl
theorem zH2:Tp.RunEq zRp zQv PySem.Challenge.rw_likebook_k06_read.row.records zAs zKz W.boot_heap W.boot_drawn W.boot_toks 100000:=Tp.run_ab zH2a zH2b
end Mk
namespace L2
open PySem PySem.Spec PyProof.Rows
abbrev Key:=Sum Int Str
def z8o:Key->Value->Bool
 |.inl k,v=>Value.isInt k v
 |.inr x,v=>Value.isStrOf x v
def keyH (w:World):Key->Int
 |.inl k=>hashInt k
 |.inr x=>hashStr w x
theorem z0r:∀{k:Key} {v:Value},z8o k v=true->(∃i t,k=Sum.inl i/\v=Value.int i t)\/(∃x t,k=Sum.inr x/\v=Value.str x t)
 |.inl i,v,h=>by obtain⟨t,e⟩:=Value.isInt_shape (k:=i) (v:=v) h;exact .inl ⟨i,t,rfl,e⟩
 |.inr x,v,h=>by obtain⟨t,e⟩:=Value.isStrOf_shape (x:=x) (v:=v) h;exact .inr ⟨x,t,rfl,e⟩
theorem zcm (i:Int)(t:Tok):z8o (.inl i) (.int i t)=true:=by simp[z8o,Value.isInt]
theorem ze6 (x:Str)(t:Tok):z8o (.inr x) (.str x t)=true:=by simp[z8o,Value.isStrOf]
theorem zpo (a b:Int):decide ((Sum.inl a:Key)=Sum.inl b)=(a==b):=by
 by_cases e:a=b
 ·subst e;simp
 ·have h:¬(Sum.inl a:Key)=Sum.inl b:=fun q=>e (Sum.inl.inj q);rw[um h];exact(beq_eq_false_iff_ne.mpr e).symm
theorem zmk (a b:Str):decide ((Sum.inr a:Key)=Sum.inr b)=decide (a=b):=by
 by_cases e:a=b
 ·subst e;simp
 ·have h:¬(Sum.inr a:Key)=Sum.inr b:=fun q=>e (Sum.inr.inj q);rw[um h,um e]
theorem zmh (a:Int)(b:Str):decide ((Sum.inl a:Key)=Sum.inr b)=false:=um (fun q=>nomatch q)
theorem zpb (a:Str)(b:Int):decide ((Sum.inr a:Key)=Sum.inl b)=false:=um (fun q=>nomatch q)
def z17 (prog:bc)(w:World):PySem.KeyKind prog w Key where
 is:=z8o
 hash:=keyH w
 inj:=fun v a b ha hb=>by
  rcases z0r ha with⟨i,t,rfl,rfl⟩|⟨x,t,rfl,rfl⟩
  ·rcases z0r hb with⟨j,u,rfl,e⟩|⟨y,u,rfl,e⟩
   ·injection e with e1 _;rw[e1]
   ·exact nomatch e
  ·rcases z0r hb with⟨j,u,rfl,e⟩|⟨y,u,rfl,e⟩
   ·exact nomatch e
   ·injection e with e1 _;rw[e1]
 byValue:=fun k v h=>by rcases z0r h with⟨i,t,rfl,rfl⟩|⟨x,t,rfl,rfl⟩<;>rfl
 pyHash:=fun hv h=>by
  rcases z0r hv with⟨i,t,rfl,rfl⟩|⟨x,t,rfl,rfl⟩
  ·exact wpAny_pyHash_int h
  ·exact wpAny_pyHash_str h
 eqBool:=fun hu hv h=>by
  rcases z0r hu with⟨i,t,rfl,rfl⟩|⟨x,t,rfl,rfl⟩
  ·rcases z0r hv with⟨j,u,rfl,rfl⟩|⟨y,u,rfl,rfl⟩
   ·rw[zpo]at h;exact wpAny_eqBool_int h
   ·rw[zmh]at h;exact SeqAt.EqAt.int_str i t y u _ _ _ _ h
  ·rcases z0r hv with⟨j,u,rfl,rfl⟩|⟨y,u,rfl,rfl⟩
   ·rw[zpb]at h;exact SeqAt.EqAt.str_int x t j u _ _ _ _ h
   ·rw[zmk]at h;exact wpAny_eqBool_str h
 «strs»:=fun k x t v h=>by
  rcases z0r h with⟨i,u,rfl,e⟩|⟨y,u,rfl,e⟩
  ·exact nomatch e
  ·injection e with e1 _;subst e1;cases v<;>rfl
theorem zal (prog:bc)(w:World)(k:Key)(v:Value):(z17 prog w).is k v=z8o k v:=rfl
theorem z8j (prog:bc)(w:World)(i:Int)(t:Tok):(z17 prog w).is (.inl i) (.int i t)=true:=zcm i t
theorem z8r (prog:bc)(w:World)(x:Str)(t:Tok):(z17 prog w).is (.inr x) (.str x t)=true:=ze6 x t
inductive V where
 |non|bl (b:Bool)|int (i:Int)|str (x:Str)|ref (a:Addr)|ty (n:String)
 deriving DecidableEq
def RelV:V->Value->Prop
 |.non,u=>u=Value.none
 |.bl b,u=>u=Value.bool b
 |.int i,u=>∃t,u=Value.int i t
 |.str x,u=>∃t,u=Value.str x t
 |.ref a,u=>u=Value.ref a
 |.ty n,u=>u=Value.type n
abbrev Vals:List V->List Value->Prop:=kw RelV
theorem Vals.length {xs:List V}{us:List Value}(r:Vals xs us):xs.length=us.length:=Paired.length r
theorem Vals.get:∀{xs:List V} {us:List Value} {i:Nat} {x:V},Vals xs us->xs[i]?=some x->∃u,us[i]?=some u/\RelV x u
 |_,_,_,_,.nil,e=>by simp at e
 |_,_,0,_,.cons r _,e=>by simp at e;subst e;exact⟨_,rfl,r⟩
 |_,_,i+1,x,.cons _ t,e=>by obtain⟨u,h1,h2⟩:=Vals.get (i:=i) (x:=x) t (by simpa using e);exact⟨u,by simpa using h1,h2⟩
theorem Vals.set {x:V}{u:Value}(r:RelV x u):∀{xs:List V} {us:List Value} (i:Nat),Vals xs us->Vals (xs.set i x) (us.set i u)
 |_,_,_,.nil=>.nil
 |_,_,0,.cons _ t=>.cons r t
 |_,_,i+1,.cons q t=>.cons q (Vals.set r i t)
theorem Vals.append:∀{xs ys:List V} {us ws:List Value},Vals xs us->Vals ys ws->Vals (xs++ys) (us++ws)
 |_,_,_,_,.nil,s=>s
 |_,_,_,_,.cons r t,s=>.cons r (Vals.append t s)
theorem Vals.take:∀{xs:List V} {us:List Value} (n:Nat),Vals xs us->Vals (xs.take n) (us.take n)
 |_,_,0,_=>.nil
 |_,_,_+1,.nil=>.nil
 |_,_,n+1,.cons r t=>.cons r (Vals.take n t)
theorem Vals.drop:∀{xs:List V} {us:List Value} (n:Nat),Vals xs us->Vals (xs.drop n) (us.drop n)
 |_,_,0,r=>r
 |_,_,_+1,.nil=>.nil
 |_,_,n+1,.cons _ t=>Vals.drop n t
theorem Vals.none_of:∀{xs:List V} {us:List Value} {i:Nat},Vals xs us->xs[i]?=none->us[i]?=none:=fun{xs us i} r e=>by have h1:=r.length;have h2:xs.length<=i:=fu.mp e;exact fu.mpr (by omega)
def RelO:Option V->Option Value->Prop
 |some v,some u=>RelV v u
 |none,none=>True
 |_,_=>False
def KV {κ:Type}:List (κ×V)->List (κ×Value)->Prop:=kw fun(p:κ×V) (q:κ×Value)=>p.1=q.1/\RelV p.2 q.2
def kV:Key->V
 |.inl i=>.int i
 |.inr x=>.str x
inductive HO where
 |lst (xs:List V)
 |tup (xs:List V)
 |dK (kvs:List (Key×V))
 |own (x:Addr)
 |frz (o:Obj) (u:HO)
 |tbl (ps:Array Value)
 |ext (φ:Heap->Prop)
abbrev Hp:=Addr->Option HO
def upd (H:Hp)(a:Addr)(o:HO):Hp:=fun b=>if b=a then some o else H b
theorem z08 {H:Hp}{a:Addr}{o:HO}:upd H a o a=some o:=by unfold upd;rw[if_pos rfl]
theorem z02 {H:Hp}{a b:Addr}{o:HO}(h:b≠a):upd H a o b=H b:=by unfold upd;rw[if_neg h]
theorem z05 {H:Hp}{a b:Addr}{o:HO}(h:H a=some o)(h':H b=none):a≠b:=by intro e;subst e;rw[h]at h';cases h'
def TupN (h:Heap)(a:Addr)(l:Array Value):Prop:=∃n,h.get? a=some {cls:=.type "tuple",data:=.seq l n}
theorem TupN.tup {h:Heap}{a:Addr}{l:Array Value}(x:TupN h a l):IsTup h a l:=let⟨n,q⟩:=x;⟨_,q,rfl,n,rfl⟩
theorem TupN.new (h:Heap)(l:Array Value):TupN (h.push {cls:=.type "tuple",data:=.seq l}) h.objs.size l:=⟨_,bh _ rfl⟩
def zq2 (h:Heap)(a:Addr)(l:Array Value):Prop:=∃o n,h.get? a=some o/\o.cls=.type "tuple"/\o.dict=none/\o.data=.seq l n
section
variable (P:bc)(w:World)
def z12 (H:Hp)(h:Heap)(a:Addr):HO->Prop
 |.lst xs=>xs.length<=bf/\∃(its:List Value) (n:Nat),Vals xs its/\h.get? a=some {cls:=.type "list",data:=.seq its.toArray n}
 |.tup xs=>xs.length<=bf/\∃its:List Value,Vals xs its/\TupN h a its.toArray
 |.dK kvs=>kvs.length<=bf/\(a==kg)=false/\∃vs,KV kvs vs/\h.DictOf (z17 P w) a vs
 |.own _=>∃o,h.get? a=some o
 |.frz o u=>h.get? a=some o/\z12 H h a u
 |.tbl ps=>h.get? a=some {cls:=.none,data:=.fields ps}
 |.ext φ=>φ h/\(∃o,h.get? a=some o)/\∀h1 h2:Heap,φ h1->(∀o,h1.get? a=some o->h2.get? a=some o)->φ h2
def HOk (H:Hp)(h:Heap):Prop:=∀a o,H a=some o->z12 P w H h a o
end
section
variable {P:bc}{w:World}{H H':Hp}{h h':Heap}{a:Addr}{o:HO}
theorem z12.lt (x:z12 P w H h a o):a<h.objs.size:=by
 cases o with
 |lst xs=>obtain⟨_,_,_,_,e⟩:=x;exact bg e
 |tup xs=>obtain⟨_,_,_,_,q⟩:=x;exact bg q
 |dK kvs=>obtain⟨_,_,_,_,o,_,_,e,_⟩:=x;exact bg e
 |own y=>obtain⟨_,e⟩:=x;exact bg e
 |frz ob u=>obtain⟨e,_⟩:=x;exact bg e
 |tbl ps=>exact bg (show h.get? a=some _ from x)
 |ext φ=>obtain⟨_,⟨_,e⟩,_⟩:=x;exact bg e
theorem Paired.mapP {α β:Type}{F G:α->β->Prop}:∀{l₁:List α} {l₂:List β},kw F l₁ l₂->(∀a b,F a b->G a b)->kw G l₁ l₂
 |_,_,.nil,_=>.nil
 |_,_,.cons r t,f=>.cons (f _ _ r) (Paired.mapP t f)
theorem z12.stay (x:z12 P w H h a o)(k:∀b u,(b=a\/H b=some (.own a))->h.get? b=some u->h'.get? b=some u)
  (ho:∀b,H b=some (.own a)->H' b=some (.own a)) (ht:∀b xs,H b=some (.tup xs)->H' b=some (.tup xs)):z12 P w H' h' a o:=by
 induction o with
 |lst xs=>obtain⟨z,its,n,r,e⟩:=x;exact⟨z,its,n,r,k _ _ (.inl rfl) e⟩
 |tup xs=>obtain⟨z,l,r,n,q⟩:=x;exact⟨z,l,r,n,k _ _ (.inl rfl) q⟩
 |dK kvs=>obtain⟨z,y,vs,r,ob,es,ep,e,c⟩:=x;exact⟨z,y,vs,r,ob,es,ep,k _ _ (.inl rfl) e,c⟩
 |own y=>obtain⟨ob,e⟩:=x;exact⟨ob,k _ _ (.inl rfl) e⟩
 |frz ob u ih=>obtain⟨e,q⟩:=x;exact⟨k _ _ (.inl rfl) e,ih q⟩
 |tbl ps=>have e:h.get? a=some {cls:=.none,data:=.fields ps}:=x;show h'.get? a=some {cls:=.none,data:=.fields ps};exact k a _ (.inl rfl) e
 |ext φ=>obtain⟨p,⟨o,e⟩,st⟩:=x;exact⟨st _ _ p fun o q=>k _ _ (.inl rfl) q,⟨o,k _ _ (.inl rfl) e⟩,st⟩
theorem HOk.lt (x:HOk P w H h)(e:H a=some o):a<h.objs.size:=(x a o e).lt
theorem HOk.fresh (x:HOk P w H h)(e:h.objs.size<=a):H a=none:=by
 cases q:H a with
 |none=>rfl
 |some u=>exact absurd (br (x.lt q) e) (b6 _)
theorem HOk.kept (x:HOk P w H h)(k:∀b u,h.get? b=some u->h'.get? b=some u):HOk P w H h':=fun a o e=>(x a o e).stay (fun b u _ q=>k b u q) (fun _ q=>q) fun _ _ q=>q
theorem HOk.laid (x:HOk P w H h)(k:∀b u,h.get? b=some u->h'.get? b=some u)(hp:h.objs.size<=a)(new:z12 P w (upd H a o) h' a o):HOk P w (upd H a o) h':=fun b u e=>by
 have hn:=x.fresh hp;by_cases hb:b=a
 ·subst hb;rw[z08]at e;cases e;exact new
 ·rw[z02 hb]at e;exact(x b u e).stay (fun c v _ q=>k c v q) (fun c q=>by rw[z02 (z05 q hn)];exact q) fun c xs q=>by rw[z02 (z05 q hn)];exact q
end
def Rd (H:Hp)(a:Addr)(u:HO):Prop:=H a=some u\/∃o,H a=some (.frz o u)
theorem Rd.of {H:Hp}{a:Addr}{u:HO}(h:H a=some u):Rd H a u:=.inl h
theorem Rd.ok {P:bc}{w:World}{H:Hp}{h:Heap}{a:Addr}{u:HO}(r:Rd H a u)(x:HOk P w H h):z12 P w H h a u:=by
 rcases r with r|⟨o,r⟩
 ·exact x a u r
 ·obtain⟨_,q⟩:=x a _ r;exact q
def Mut:Option HO->Prop
 |some (.lst _)=>True
 |some (.dK _)=>True
 |some (.ext _)=>True
 |_=>False
section
variable {P:bc}{w:World}{H:Hp}{h h':Heap}{x e:Addr}{o':HO}
theorem HOk.write (ok:HOk P w H h)(mu:Mut (H x))(he:e=x\/H e=some (.own x))(k:∀b u,b≠e->h.get? b=some u->h'.get? b=some u)(heo:∃u,h'.get? e=some u)
  (new:z12 P w (upd H x o') h' x o'):HOk P w (upd H x o') h':=fun b u q=>by
 have nown:∀c y,H c=some (.own y)->c≠x:=fun c y r z=>by subst z;rw[r]at mu;exact mu
 have ntup:∀c xs,H c=some (.tup xs)->c≠x:=fun c xs r z=>by subst z;rw[r]at mu;exact mu
 by_cases hb:b=x
 ·subst hb;rw[z08]at q;cases q;exact new
 ·rw[z02 hb]at q;by_cases hbe:b=e
  ·have q':H b=some (.own x):=by
    rcases he with z|z
    ·exact absurd (hbe.trans z) hb
    ·rw[hbe];exact z
   rw[q]at q';cases q';obtain⟨v,hv⟩:=heo;exact⟨v,by rw[hbe];exact hv⟩
  ·refine(ok b u q).stay (fun c v hc r=>k c v ?_ r) (fun c r=>by rw[z02 (nown c b r)];exact r) fun c xs r=>by rw[z02 (ntup c xs r)];exact r
   rcases hc with rfl|hc
   ·exact hbe
   ·rintro rfl
    rcases he with z|z
    ·exact nown c b hc z
    ·rw[hc]at z;cases z;exact hb rfl
end
structure Un (fs ex:List Addr)(H H':Hp)(h h':Heap):Prop where
 keep:∀b o,h.get? b=some o->H b=none->b∉fs->b∉ex->h'.get? b=some o
 slot:∀b o,h.get? b=some o->H b=none->b∈fs->b∉ex->∃sl,h'.get? b=some {o with slots:=sl}
 free:∀b o,h.get? b=some o->H b=none->b∉ex->H' b=none
 there:∀b o,h.get? b=some o->b∉ex->∃o',h'.get? b=some o'
 tups:∀b xs,H b=some (.tup xs)->H' b=some (.tup xs)
 frzs:∀b o u,H b=some (.frz o u)->H' b=some (.frz o u)
 tbls:∀b ps,H b=some (.tbl ps)->∃more,H' b=some (.tbl (ps++more))
section
variable {fs fs' ex ex':List Addr}{H H1 H2:Hp}{h h1 h2 h':Heap}{a x e:Addr}{o:HO}
theorem Un.any (u:Un fs ex H H1 h h1){b:Addr}{ob:Obj}(q:h.get? b=some ob)(n:H b=none)(hx:b∉ex):∃sl,h1.get? b=some {ob with slots:=sl}:=by
 by_cases hb:b∈fs
 ·exact u.slot b ob q n hb hx
 ·exact⟨ob.slots,u.keep b ob q n hb hx⟩
theorem Un.trans (a:Un fs ex H H1 h h1)(b:Un fs ex H1 H2 h1 h2):Un fs ex H H2 h h2 where
 keep:=fun c ob q n hc hx=>b.keep c ob (a.keep c ob q n hc hx) (a.free c ob q n hx) hc hx
 slot:=fun c ob q n hc hx=>by obtain⟨sl,e1⟩:=a.slot c ob q n hc hx;obtain⟨sl',e2⟩:=b.slot c _ e1 (a.free c ob q n hx) hc hx;exact⟨sl',e2⟩
 free:=fun c ob q n hx=>by obtain⟨o',e1⟩:=a.there c ob q hx;exact b.free c o' e1 (a.free c ob q n hx) hx
 there:=fun c ob q hx=>by obtain⟨o',e1⟩:=a.there c ob q hx;exact b.there c o' e1 hx
 tups:=fun c xs q=>b.tups c xs (a.tups c xs q)
 frzs:=fun c ob xs q=>b.frzs c ob xs (a.frzs c ob xs q)
 tbls:=fun c ps q=>by obtain⟨m1,e1⟩:=a.tbls c ps q;obtain⟨m2,e2⟩:=b.tbls c _ e1;exact⟨m1++m2,by rw[e2,qf]⟩
theorem Un.kept (k:∀b u,h.get? b=some u->h'.get? b=some u):Un fs ex H H h h':=⟨fun b ob q _ _ _=>k b ob q,fun b ob q _ _ _=>⟨ob.slots,k b ob q⟩,fun _ _ _ n _=>n,fun b ob q _=>⟨ob,k b ob q⟩,fun _ _ q=>q,fun _ _ _ q=>q,fun _ ps q=>⟨#[],by rw[q];simp⟩⟩
theorem Un.refl:Un fs ex H H h h:=Un.kept fun _ _ q=>q
theorem Un.laid (k:∀b u,h.get? b=some u->h'.get? b=some u)(hp:h.objs.size<=a)(hn:H a=none):Un fs ex H (upd H a o) h h' where
 keep:=fun b u q _ _ _=>k b u q
 slot:=fun b u q _ _ _=>⟨u.slots,k b u q⟩
 free:=fun b u q n _=>by rw[z02 (bx (br (bg q) hp))];exact n
 there:=fun b u q _=>⟨u,k b u q⟩
 tups:=fun b xs q=>by rw[z02 (z05 q hn)];exact q
 frzs:=fun b u xs q=>by rw[z02 (z05 q hn)];exact q
 tbls:=fun b ps q=>⟨#[],by rw[z02 (z05 q hn),q];simp⟩
theorem Un.write (mu:Mut (H x))(he:e=x\/H e=some (.own x))(k:∀b u,b≠e->h.get? b=some u->h'.get? b=some u)(heo:∃u,h'.get? e=some u):Un fs ex H (upd H x o) h h':=by
 have hx:∀b,H b=none->b≠x:=fun b n z=>by subst z;rw[n]at mu;exact mu
 have hb:∀b,H b=none->b≠e:=fun b n z=>by
  subst z;rcases he with r|r
  ·exact hx b n r
  ·rw[n]at r;cases r
 have hm:∀b u,H b=some u->¬Mut (some u)->b≠x:=fun b u q nm z=>by subst z;rw[q]at mu;exact nm mu
 refine⟨fun b u q n _ _=>k b u (hb b n) q,fun b u q n _ _=>⟨u.slots,k b u (hb b n) q⟩,fun b u q n _=>by rw[z02 (hx b n)];exact n,fun b u q _=>?_,fun b xs q=>by rw[z02 (hm b _ q fun z=>z)];exact q,fun b u xs q=>by rw[z02 (hm b _ q fun z=>z)];exact q,fun b ps q=>⟨#[],by rw[z02 (hm b _ q fun z=>z),q];simp⟩⟩;by_cases hbe:b=e
 ·subst hbe;exact heo
 ·exact⟨u,k b u hbe q⟩
theorem Un.mono (u:Un fs ex H H1 h h1)(hs:∀b∈fs,b∈fs')(hx:∀b∈ex,b∈ex'):Un fs' ex' H H1 h h1:=⟨fun b ob q n hb he=>u.keep b ob q n (fun z=>hb (hs b z)) fun z=>he (hx b z),fun _ _ q n _ he=>u.any q n fun z=>he (hx _ z),fun b ob q n he=>u.free b ob q n fun z=>he (hx b z),fun b ob q he=>u.there b ob q fun z=>he (hx b z),u.tups,u.frzs,u.tbls⟩
end
def trk (h:Heap)(H:Hp):List Addr:=(b8 h.objs.size).filter fun a=>(H a).isSome
def hidT (h:Heap)(H:Hp):Heap:=W.hideAll h (trk h H)
theorem zbg (h:Heap)(H:Hp):(hidT h H).objs.size=h.objs.size:=W.hideAll_size _ _
theorem zfp {h:Heap}{H:Hp}{b:Addr}{o:Obj}(e:h.get? b=some o)(n:H b=none):(hidT h H).get? b=some o:=W.hideAll_get _ e fun hm=>by have q:(H b).isSome=true:=(gu.mp hm).2;rw[n]at q;simp at q
theorem zk0 {h:Heap}{H:Hp}{b:Addr}{o:Obj}(e:(hidT h H).get? b=some o):h.get? b=some o/\H b=none:=by
 have e':h.get? b=some o:=W.of_hideAll (trk h H) e;refine⟨e',?_⟩;cases q:H b with
 |none=>rfl
 |some x=>have hm:b∈trk h H:=gu.mpr ⟨j5.mpr (bg e'),by simp[q]⟩;have z:(hidT h H).get? b=none:=W.hideAll_none (trk h H) hm;rw[z]at e;cases e
def z4q (g h:Heap)(L:Addr):List (Addr×Obj):=(b8 h.objs.size).filterMap fun a=>if a=L\/(g.get? a).isSome=true then none else(h.get? a).map fun o=>(a,o)
theorem z2t {g h:Heap}{L a:Addr}{o:Obj}(h1:a≠L)(h2:g.get? a=none)(h3:h.get? a=some o):(a,o)∈z4q g h L:=iy.mpr ⟨a,j5.mpr (bg h3),by simp[h1,h2,h3]⟩
theorem z53 {g h:Heap}{L:Addr}{p:Addr×Obj}(hp:p∈z4q g h L):p.1≠L/\g.get? p.1=none/\h.get? p.1=some p.2:=by
 obtain⟨b,_,e⟩:=iy.mp hp;split at e
 ·cases e
 ·rename_i hn;cases q:h.get? b with
  |none=>rw[q]at e;simp at e
  |some u=>
   rw[q]at e;simp only[Option.map_some,l6]at e;subst e;refine⟨fun z=>hn (.inl z),?_,q⟩;show g.get? b=none;cases r:g.get? b with
   |none=>rfl
   |some v=>exact(hn (.inr (by simp[r]))).elim
def rest (g h:Heap)(L d:Addr):List (Addr×Obj):=(z4q g h L).filter fun p=>decide (p.1≠d)
theorem zcb {g h:Heap}{L d:Addr}:∀p∈rest g h L d,p.1≠d:=fun p hp=>uk (gu.mp hp).2
theorem zf0 {g h:Heap}{L d a:Addr}{o:Obj}(h1:a≠L)(h2:g.get? a=none)(h3:h.get? a=some o)(h4:a≠d):(a,o)∈rest g h L d:=gu.mpr ⟨z2t h1 h2 h3,ul h4⟩
theorem z9j {g h:Heap}{L:Addr}:News g L h (z4q g h L):=fun p hp=>let⟨a,b,c⟩:=z53 hp;⟨c,a,b⟩
theorem news_at {g h:Heap}{L d:Addr}{o:Obj}(h1:d≠L)(h2:g.get? d=none)(h3:h.get? d=some o):News g L h ((d,o)::rest g h L d):=fun p hp=>by
 rcases ao.mp hp with rfl|hp
 ·exact⟨h3,h1,h2⟩
 ·exact z9j p (gu.mp hp).1
theorem z80 {g h h':Heap}{L d:Addr}{m:Str->Option Value}(k:∀b o,g.get? b=some o->h.get? b=some o)(F:Fr g L h' m)(N:News g L h' (rest g h L d)):
  ∀b o,b≠L->b≠d->h.get? b=some o->h'.get? b=some o:=fun b o h1 h2 e=>by
 cases q:g.get? b with
 |some u=>have:=k b u q;rw[e]at this;cases this;exact F.keep b _ q
 |none=>exact(N (b,o) (zf0 h1 q e h2)).1
structure Mod (K:W.Frag)(mg:Str->Option Value)(base:Heap):Prop where
 kin:K.In base
 glob:base.Ns bv mg
 blt:∃mb,base.Ns tz mb/\∀x:Str,x≠"__name__"->mb x=cv x
 nolimit:base.NoLimit
structure Cx where
 prog:bc
 w:World
 K:W.Frag
 mg:Str->Option Value
 base:Heap
 A:bz
 N:List Str
 s₀:aa
 H₀:Hp
 env:Env
 outer:List Env
 stack:List Env
 ex:List Addr
 fn:Str->Bool
 calm:Bool
 pn:List (Addr×Obj)
 xe:Value->aa->Prop
 fx:Option (Str×Value):=none
def frs (l:List Env):List Addr:=l.filterMap (·.frame)
abbrev Cx.fs (X:Cx):List Addr:=frs X.outer
def Vis (sc:Scope)(x:Str):Prop:=sc.names.lookup x=some .local\/sc.names.lookup x=some .cell\/sc.names.lookup x=some .free
def Loc (sc:Scope)(x:Str):Prop:=sc.names.lookup x=some .local\/sc.names.lookup x=some .cell
def Look (env:Env)(h:Heap)(m:Str->Option Value)(x:Str)(u:Value):Prop:=(env.kindOf x=some .local/\m x=some u)\/((env.kindOf x=some .cell\/env.kindOf x=some .free)/\∃c,env.cells.lookup x=some c/\h.IsCell c (some u))
structure Cx.Ok (X:Cx):Prop where
 mod:Mod X.K X.mg X.base
 kind:X.env.scope.kind=.function
 glob:X.env.globals=bv
 blt:X.env.builtins=tz
 above:X.s₀.heap.objs.size<=X.env.locals
 inj:∀x y c,X.env.cells.lookup x=some c->X.env.cells.lookup y=some c->x=y
 has:∀x,(X.env.kindOf x=some .cell\/X.env.kindOf x=some .free)->∃c,X.env.cells.lookup x=some c
 cab:∀x c,X.fn x=true->X.env.cells.lookup x=some c->X.s₀.heap.objs.size<=c
 hd:X.calm=true->X.A.handled=none
 frames:X.A.frames=some X.stack
 stk:X.stack=X.outer\/(X.stack=X.env::X.outer/\X.env.frame=some X.env.locals)
 exf:∀b∈X.ex,b≠X.env.locals/\∀x c,X.env.cells.lookup x=some c->c≠b
 bs:∀b o,X.base.get? b=some o->X.s₀.heap.get? b=some o/\X.H₀ b=none
 bsz:X.base.objs.size<=X.s₀.heap.objs.size
 noex:∀b o,X.base.get? b=some o->b∉X.ex
 exfs:∀b∈X.ex,b∉X.fs
 funs:X.s₀.heap.FunFrames X.base X.outer
 frf:∀b∈X.fs,X.H₀ b=none
 fxN:∀x u,X.fx=some (x,u)->x∉X.N/\X.env.scope.names.lookup x=some .local
structure Inv (X:Cx)(pins:List (Addr×Obj))(σ:List (Option V))(H:Hp)(s:aa):Prop where
 ok:X.Ok
 os:s.os=X.s₀.os
 bare:lb s.gens
 base:Un X.fs X.ex X.H₀ H X.s₀.heap s.heap
 loc:∃m,s.heap.Ns X.env.locals m/\∀(i:Nat) (x:Str) (v:V),X.N[i]?=some x->σ[i]?=some (some v)->Vis X.env.scope x->∃u,RelV v u/\Look X.env s.heap m x u
 cell:∀x c,X.env.cells.lookup x=some c->∃v,s.heap.IsCell c v
 free:H X.env.locals=none
 freeC:∀x c,X.env.cells.lookup x=some c->H c=none
 pin:∀p∈X.pn++pins,s.heap.get? p.1=some p.2/\H p.1=none/\p.1≠X.env.locals/\p.1∉X.fs/\∀v,p.2.data≠.cell v
 hok:HOk X.prog X.w H s.heap
 len:σ.length=X.N.length
 fx:∀x u,X.fx=some (x,u)->∃m,s.heap.Ns X.env.locals m/\m x=some u
section
variable {X:Cx}{pins:List (Addr×Obj)}{σ:List (Option V)}{H H':Hp}{s:aa}{h':Heap}
theorem Cx.Ok.nofr (ok:X.Ok){b:Addr}{o:Obj}(e:X.base.get? b=some o):b∉X.fs:=fun hb=>by have:=(ok.funs.mem hb).1;rw[e]at this;cases this
theorem Inv.bs (I:Inv X pins σ H s):∀b o,X.base.get? b=some o->s.heap.get? b=some o/\H b=none:=fun b o e=>⟨I.base.keep b o (I.ok.bs b o e).1 (I.ok.bs b o e).2 (I.ok.nofr e) (I.ok.noex b o e),I.base.free b o (I.ok.bs b o e).1 (I.ok.bs b o e).2 (I.ok.noex b o e)⟩
theorem Inv.bk (I:Inv X pins σ H s):∀b o,X.base.get? b=some o->s.heap.get? b=some o:=fun b o e=>(I.bs b o e).1
theorem Inv.mod (I:Inv X pins σ H s):Mod X.K X.mg X.base:=I.ok.mod
theorem Inv.kIn (I:Inv X pins σ H s):X.K.In s.heap:=I.ok.mod.kin.keeps I.bk
theorem Inv.nolimit (I:Inv X pins σ H s):s.heap.NoLimit:=I.ok.mod.nolimit.keeps I.bk
theorem Inv.fr (I:Inv X pins σ H s):∃m,Fr X.base X.env.locals s.heap m:=
 let⟨m,hn,_⟩:=I.loc
 ⟨m,hn,I.bk,ck I.ok.bsz I.ok.above⟩
theorem Inv.lt (I:Inv X pins σ H s):X.env.locals<s.heap.objs.size:=let⟨_,hn,_⟩:=I.loc;hn.lt
theorem Inv.sz (I:Inv X pins σ H s):X.s₀.heap.objs.size<=s.heap.objs.size:=ck I.ok.above (j6 I.lt)
theorem Inv.nofs (I:Inv X pins σ H s){a:Addr}(h:s.heap.objs.size<=a):a∉X.fs:=fun hb=>by obtain⟨_,o,ho,_⟩:=I.ok.funs.mem hb;exact absurd (br (bg ho) (ck I.sz h)) (b6 _)
theorem Inv.cne (I:Inv X pins σ H s):∀x c,X.env.cells.lookup x=some c->c≠X.env.locals:=fun x c e z=>by obtain⟨v,o,ho,hd⟩:=I.cell x c e;obtain⟨m,⟨o',es,ep,ho',hd',_⟩,_⟩:=I.loc;rw[z,ho']at ho;cases ho;rw[hd']at hd;cases hd
theorem Inv.funs (I:Inv X pins σ H s):s.heap.FunFrames X.base X.outer:=by
 have all:∀(l:List Env),(∀b∈frs l,b∈X.fs)->X.s₀.heap.FunFrames X.base l->s.heap.FunFrames X.base l:=by
  intro l
  induction l with
  |nil=>intro _ _;trivial
  |cons env r ih=>intro hs hl;obtain⟨hk,⟨L,o,hf,hn,ho,hd⟩,hr⟩:=hl;have hL:L∈X.fs:=hs L (by unfold frs;rw[c8,hf];exact au);obtain⟨sl,e⟩:=I.base.slot L o ho (I.ok.frf L hL) hL fun z=>I.ok.exfs L z hL;exact⟨hk,⟨L,_,hf,hn,e,hd⟩,ih (fun b hb=>hs b (by unfold frs;rw[c8,hf];exact aw _ hb)) hr⟩
 exact all X.outer (fun _ hb=>hb) I.ok.funs
theorem Inv.stack (I:Inv X pins σ H s):s.heap.FunFrames X.base X.stack:=by
 rcases I.ok.stk with e|⟨e,hf⟩
 ·rw[e];exact I.funs
 ·rw[e];obtain⟨m,hn,_⟩:=I.loc;refine .cons (by rw[I.ok.kind];decide) hf hn ?_ I.funs;exact on (ck I.ok.bsz I.ok.above)
theorem Inv.stkSub (I:Inv X pins σ H s):∀b∈frs X.stack,b∈X.env.locals::X.fs:=fun b hb=>by
 rcases I.ok.stk with e|⟨e,hf⟩
 ·rw[e]at hb;exact aw _ hb
 ·rw[e]at hb;unfold frs at hb;rw[c8,hf]at hb;exact hb
theorem Inv.stkFree (I:Inv X pins σ H s):∀b∈frs X.stack,H b=none:=fun b hb=>by
 rcases ao.mp (I.stkSub b hb)with e|hb
 ·rw[e];exact I.free
 ·obtain⟨_,o,ho,_⟩:=I.ok.funs.mem hb;exact I.base.free b o ho (I.ok.frf b hb) fun z=>I.ok.exfs b z hb
theorem Inv.step {g':Array qu}{t':Nat}{d':Drawn}{ch:List Addr}(I:Inv X pins σ H s)
  (hch:∀b∈ch,(b∈X.ex\/X.s₀.heap.objs.size<=b)/\b≠X.env.locals/\(∀x c,X.env.cells.lookup x=some c->c≠b)/\∀p∈X.pn++pins,p.1≠b)
  (keep:∀b o,b≠X.env.locals->b∉X.fs->b∉ch->s.heap.get? b=some o->H b=none->h'.get? b=some o)
  (slot:∀b o,b≠X.env.locals->b∈X.fs->b∉ch->s.heap.get? b=some o->H b=none->∃sl,h'.get? b=some {o with slots:=sl}) (free:∀b o,b∉ch->s.heap.get? b=some o->H b=none->H' b=none)
  (there:∀b o,b∉ch->s.heap.get? b=some o->∃o',h'.get? b=some o')
  (tups:∀b xs,H b=some (.tup xs)->H' b=some (.tup xs)) (frzs:∀b o u,H b=some (.frz o u)->H' b=some (.frz o u)) (tbls:∀b ps,H b=some (.tbl ps)->∃more,H' b=some (.tbl (ps++more)))
  (ns:∀m,s.heap.Ns X.env.locals m->h'.Ns X.env.locals m) (hok:HOk X.prog X.w H' h') (hg:lb g'):
  Inv X pins σ H' {s with heap:=h',gens:=g',drawn:=d',toks:=t'}:=by
 have neL:∀b o,X.s₀.heap.get? b=some o->b≠X.env.locals:=fun b o e=>bx (br (bg e) I.ok.above)
 have neC:∀b o,X.s₀.heap.get? b=some o->b∉X.ex->b∉ch:=fun b o e hx hb=>by
  rcases(hch b hb).1 with z|z
  ·exact hx z
  ·exact absurd (br (bg e) z) (b6 _)
 have cellK:∀x c,X.env.cells.lookup x=some c->∀v,s.heap.IsCell c v->h'.IsCell c v:=fun x c e v ⟨o,ho,hd⟩=>by
  have nch:c∉ch:=fun z=>(hch c z).2.2.1 x c e rfl;by_cases hc:c∈X.fs
  ·obtain⟨sl,q⟩:=slot c o (I.cne x c e) hc nch ho (I.freeC x c e);exact⟨_,q,hd⟩
  ·exact⟨o,keep c o (I.cne x c e) hc nch ho (I.freeC x c e),hd⟩
 refine⟨I.ok,I.os,hg,⟨fun b o e n hb hx=>?_,fun b o e n hb hx=>?_,fun b o e n hx=>?_,fun b o e hx=>?_,fun b xs e=>tups b xs (I.base.tups b xs e),fun b o xs e=>frzs b o xs (I.base.frzs b o xs e),fun b ps e=>?_⟩,?_,fun x c e=>?_,?_,fun x c e=>?_,fun p hp=>?_,hok,I.len,fun x u e=>let⟨m,hn,q⟩:=I.fx x u e;⟨m,ns m hn,q⟩⟩
 ·exact keep b o (neL b o e) hb (neC b o e hx) (I.base.keep b o e n hb hx) (I.base.free b o e n hx)
 ·obtain⟨sl,e1⟩:=I.base.slot b o e n hb hx;obtain⟨sl',e2⟩:=slot b _ (neL b o e) hb (neC b o e hx) e1 (I.base.free b o e n hx);exact⟨sl',e2⟩
 ·obtain⟨o',e1⟩:=I.base.there b o e hx;exact free b o' (neC b o e hx) e1 (I.base.free b o e n hx)
 ·obtain⟨o',e1⟩:=I.base.there b o e hx;exact there b o' (neC b o e hx) e1
 ·obtain⟨m1,e1⟩:=I.base.tbls b ps e;obtain⟨m2,e2⟩:=tbls b _ e1;exact⟨m1++m2,by rw[e2,qf]⟩
 ·obtain⟨m,hn,hl⟩:=I.loc;refine⟨m,ns m hn,fun i x v e1 e2 e3=>?_⟩;obtain⟨u,r,l⟩:=hl i x v e1 e2 e3;refine⟨u,r,?_⟩;rcases l with l|⟨k,c,e,z⟩
  ·exact .inl l
  ·exact .inr ⟨k,c,e,cellK x c e _ z⟩
 ·obtain⟨v,z⟩:=I.cell x c e;exact⟨v,cellK x c e v z⟩
 ·obtain⟨m,⟨o,_,_,ho,_⟩,_⟩:=I.loc;exact free _ o (fun z=>(hch _ z).2.1 rfl) ho I.free
 ·obtain⟨v,o,ho,hd⟩:=I.cell x c e;exact free c o (fun z=>(hch c z).2.2.1 x c e rfl) ho (I.freeC x c e)
 ·obtain⟨e,n,ne,nf,d⟩:=I.pin p hp;have nch:p.1∉ch:=fun z=>(hch p.1 z).2.2.2 p hp rfl;exact⟨keep p.1 p.2 ne nf nch e n,free p.1 p.2 nch e n,ne,nf,d⟩
theorem Inv.un {t':Nat}(I:Inv X pins σ H s)(u:Un X.fs [] H H' s.heap h')(hok:HOk X.prog X.w H' h'):Inv X pins σ H' {s with heap:=h',toks:=t'}:=by obtain⟨m,⟨o,es,ep,ho,r⟩,_⟩:=id I.loc;obtain⟨sl,hL⟩:=u.any ho I.free (by simp);exact I.step (g':=s.gens) (d':=s.drawn) (ch:=[]) (fun _ z=>nomatch z) (fun b o _ hb _ e n=>u.keep b o e n hb (by simp)) (fun b o _ hb _ e n=>u.slot b o e n hb (by simp)) (fun b o _ e n=>u.free b o e n (by simp)) (fun b o _ e=>u.there b o e (by simp)) u.tups u.frzs u.tbls (fun m' hm=>by obtain⟨o',es',ep',ho',r'⟩:=hm;rw[ho]at ho';cases ho';exact⟨_,es',ep',hL,r'⟩) hok I.bare
theorem Inv.call {g':Array qu}{t':Nat}{d':Drawn}{ch:List Addr}(I:Inv X pins σ H s)(u:Un (frs X.stack) ch H H' s.heap h')(hok:HOk X.prog X.w H' h')(hg:lb g')
  (hch:∀b∈ch,(b∈X.ex\/X.s₀.heap.objs.size<=b)/\b≠X.env.locals/\(∀x c,X.env.cells.lookup x=some c->c≠b)/\∀p∈X.pn++pins,p.1≠b):
  Inv X pins σ H' {s with heap:=h',gens:=g',drawn:=d',toks:=t'}:=by
 obtain⟨m,⟨o,es,ep,ho,r⟩,_⟩:=id I.loc;obtain⟨sl,hL⟩:=u.any ho I.free fun z=>(hch _ z).2.1 rfl;exact I.step (ch:=ch) hch (fun b o hL hb hc e n=>u.keep b o e n (fun z=>(ao.mp (I.stkSub b z)).elim hL hb) hc) (fun b o _ _ hc e n=>u.any e n hc) (fun b o hc e n=>u.free b o e n hc) (fun b o hc e=>u.there b o e hc) u.tups u.frzs u.tbls (fun m' hm=>by obtain⟨o',es',ep',ho',r'⟩:=hm;rw[ho]at ho';cases ho';exact⟨_,es',ep',hL,r'⟩) hok hg
theorem Inv.turned {t':Nat}{it:Addr}(I:Inv X pins σ H s)(k:∀b o,b≠it->s.heap.get? b=some o->h'.get? b=some o)(hn:H it=none)(hL:it≠X.env.locals)
  (h1:it∈X.ex\/X.s₀.heap.objs.size<=it) (h2:∀x c,X.env.cells.lookup x=some c->c≠it) (h3:∀p∈X.pn++pins,p.1≠it):Inv X pins σ H {s with heap:=h',toks:=t'}:=by
 have nit:∀b u,H b=some u->b≠it:=fun b u e z=>by rw[z,hn]at e;cases e
 refine I.step (g':=s.gens) (d':=s.drawn) (ch:=[it]) (fun b hb=>?_) (fun b o _ _ hc e _=>k b o (fun z=>hc (by simp[z])) e) (fun b o _ _ hc e _=>⟨o.slots,k b o (fun z=>hc (by simp[z])) e⟩) (fun _ _ _ _ n=>n) (fun b o hc e=>⟨o,k b o (fun z=>hc (by simp[z])) e⟩) (fun _ _ e=>e) (fun _ _ _ e=>e) (fun b ps e=>⟨#[],by rw[e];simp⟩) (fun m hm=>?_) (fun b u e=>?_) I.bare
 ·have e:b=it:=by simpa using hb
  subst e;exact⟨h1,hL,h2,h3⟩
 ·obtain⟨o,es,ep,ho,r⟩:=hm;exact⟨o,es,ep,k _ o (Ne.symm hL) ho,r⟩
 ·refine(I.hok b u e).stay (fun c v hc q=>k c v ?_ q) (fun _ q=>q) fun _ _ q=>q;rcases hc with z|z
  ·rw[z];exact nit b u e
  ·exact nit c _ z
theorem Inv.tok (I:Inv X pins σ H s)(t:Nat):Inv X pins σ H {s with toks:=t}:=I.un (h':=s.heap) (t':=t) Un.refl I.hok
theorem Inv.kept {t':Nat}(I:Inv X pins σ H s)(k:∀b u,s.heap.get? b=some u->h'.get? b=some u):Inv X pins σ H {s with heap:=h',toks:=t'}:=I.un (Un.kept k) (I.hok.kept k)
theorem Inv.laid {a:Addr}{o:HO}{t':Nat}(I:Inv X pins σ H s)(k:∀b u,s.heap.get? b=some u->h'.get? b=some u)(hp:s.heap.objs.size<=a)(new:z12 X.prog X.w (upd H a o) h' a o): Inv X pins σ (upd H a o) {s with heap:=h',toks:=t'}:=I.un (Un.laid k hp (I.hok.fresh hp)) (I.hok.laid k hp new)
theorem Inv.write {x e:Addr}{o:HO}{t':Nat}(I:Inv X pins σ H s)(mu:Mut (H x))(he:e=x\/H e=some (.own x))(k:∀b u,b≠e->s.heap.get? b=some u->h'.get? b=some u)(heo:∃u,h'.get? e=some u) (new:z12 X.prog X.w (upd H x o) h' x o):Inv X pins σ (upd H x o) {s with heap:=h',toks:=t'}:=I.un (Un.write mu he k heo) (I.hok.write mu he k heo new)
theorem Inv.weak {σ':List (Option V)}(I:Inv X pins σ H s)(hl:σ'.length=σ.length)(w:∀(i:Nat) v,σ'[i]?=some (some v)->σ[i]?=some (some v)):Inv X pins σ' H s:=⟨I.ok,I.os,I.bare,I.base,let⟨m,hn,hl'⟩:=I.loc;⟨m,hn,fun i x v e1 e2 e3=>hl' i x v e1 (w i v e2) e3⟩,I.cell,I.free,I.freeC,I.pin,I.hok,hl.trans I.len,I.fx⟩
theorem Inv.pins_of {pins':List (Addr×Obj)}(I:Inv X pins σ H s)(h:∀p∈pins',s.heap.get? p.1=some p.2/\H p.1=none/\p.1≠X.env.locals/\p.1∉X.fs/\∀v,p.2.data≠.cell v):Inv X pins' σ H s:=⟨I.ok,I.os,I.bare,I.base,I.loc,I.cell,I.free,I.freeC,fun p hp=>(cx.mp hp).elim (fun z=>I.pin p (gz _ z)) (h p),I.hok,I.len,I.fx⟩
theorem zo5 {h:Heap}{a:Addr}{m m':Str->Option Value}(x:h.Ns a m)(y:h.Ns a m')(n:Str):m n=m' n:=by obtain⟨o,es,ep,e,d,_,f⟩:=x;obtain⟨o',es',ep',e',d',_,f'⟩:=y;rw[e]at e';cases e';rw[d]at d';cases d';rw[<-f n,f' n]
theorem z42 {N:List Str}(hN:N.Nodup){i j:Nat}{x:Str}(a:N[i]?=some x)(b:N[j]?=some x):i=j:=by obtain⟨h1,e1⟩:=bn.mp a;obtain⟨h2,e2⟩:=bn.mp b;exact(List.getElem_inj hN).mp (e1.trans e2.symm)
theorem z4g {M:Model}{A:bz}{E:Value->aa->Prop}{i:Nat}{x:Str}{v:V}{u:Value}{Q:Unit->aa->Prop}(I:Inv X pins σ H s)(hN:X.N.Nodup)(hi:X.N[i]?=some x)(hx:Loc X.env.scope x)(r:RelV v u)
  (h:∀s',Inv X pins (σ.set i (some v)) H s'->(∃a,g7 a s.heap s'.heap/\(a=X.env.locals\/X.env.cells.lookup x=some a))->Q () s') (hf:X.fn x=true\/X.env.scope.names.lookup x=some .local:=by first|exact .inl rfl|exact .inr rfl|assumption):wpAny M A (storeName X.env x u) Q E s:=by
 obtain⟨m,hn,hl⟩:=id I.loc;have hcls:(X.env.scope.kind==.class||(X.env.scope.kind==.module&&X.env.locals != X.env.globals))=false:=by rw[I.ok.kind];rfl
 have hiσ:i<σ.length:=by rw[I.len];exact(bn.mp hi).1
 have cne:=I.cne
 have tracked:∀{a:Addr} {h':Heap},(∃o,s.heap.get? a=some o/\H a=none)->g7 a s.heap h'->HOk X.prog X.w H h':=fun{a h'} ha hs b ob e=>by
  obtain⟨_,_,hfree⟩:=ha;refine(I.hok b ob e).stay (fun c w' hc q=>(hs.2 c ?_).trans q) (fun _ q=>q) fun _ _ q=>q
  rintro rfl
  rcases hc with rfl|hc
  ·rw[hfree]at e;cases e
  ·rw[hfree]at hc;cases hc
 rcases hx with hk|hk
 ·refine wpAny_storeName_local hk hn (fun h' hn' hs=>?_) hcls;obtain⟨oL,_,_,hoL,_⟩:=id hn;refine h _ ⟨I.ok,I.os,I.bare,⟨fun b o e n hb hx=>?_,fun b o e n hb hx=>?_,I.base.free,fun b o e hx=>?_,I.base.tups,I.base.frzs,I.base.tbls⟩,⟨_,hn',fun j y v' e1 e2 e3=>?_⟩,fun y c e=>?_,I.free,I.freeC,fun p hp=>?_,tracked ⟨oL,hoL,I.free⟩ hs,by simpa using I.len,fun y u e=>by obtain⟨m',hn2,q⟩:=I.fx y u e;refine⟨_,hn',?_⟩;have hy:y≠x:=fun z=>(I.ok.fxN y u e).1 (z▸cw hi);have:=zo5 hn hn2 y;simp[hy,this,q]⟩ ⟨_,hs,.inl rfl⟩
  ·exact(hs.2 b (bx (br (bg e) I.ok.above))).trans (I.base.keep b o e n hb hx)
  ·obtain⟨sl,e1⟩:=I.base.slot b o e n hb hx;exact⟨sl,(hs.2 b (bx (br (bg e) I.ok.above))).trans e1⟩
  ·obtain⟨o',e1⟩:=I.base.there b o e hx;exact⟨o',(hs.2 b (bx (br (bg e) I.ok.above))).trans e1⟩
  ·by_cases hj:j=i
   ·subst hj;rw[hi]at e1;cases e1;rw[dm hiσ]at e2;cases e2;exact⟨u,r,.inl ⟨hk,by simp⟩⟩
   ·rw[bt (Ne.symm hj)]at e2;obtain⟨u',r',q⟩:=hl j y v' e1 e2 e3;refine⟨u',r',?_⟩;rcases q with⟨k,e⟩|⟨k,c,e,z⟩
    ·refine .inl ⟨k,?_⟩;have:y≠x:=fun e=>hj (z42 hN e1 (e▸hi));simp[this,e]
    ·exact .inr ⟨k,c,e,z.sameBut hs (cne y c e)⟩
  ·obtain⟨w',z⟩:=I.cell y c e;exact⟨w',z.sameBut hs (cne y c e)⟩
  ·obtain⟨e,n,ne,nf,d⟩:=I.pin p hp;exact⟨(hs.2 p.1 ne).trans e,n,ne,nf,d⟩
 ·have hfn:X.fn x=true:=by
   rcases hf with z|z
   ·exact z
   ·rw[z]at hk;cases hk
  obtain⟨c,hc⟩:=I.ok.has x (.inl hk);obtain⟨w',z⟩:=I.cell x c hc;refine wpAny_storeName_cell I.ok.kind hk hc z (fun h' hc' hs=>?_);obtain⟨oc,hoc,hocd⟩:=id z;refine h {s with heap:=h'} ⟨I.ok,I.os,I.bare,⟨fun b o e n hb hx=>?_,fun b o e n hb hx=>?_,I.base.free,fun b o e hx=>?_,I.base.tups,I.base.frzs,I.base.tbls⟩,⟨m,hn.sameBut hs (Ne.symm (cne x c hc)),fun j y v' e1 e2 e3=>?_⟩,fun y c' e=>?_,I.free,I.freeC,fun p hp=>?_,tracked ⟨oc,hoc,I.freeC x c hc⟩ hs,by simpa using I.len,fun y u e=>let⟨m',hn2,q⟩:=I.fx y u e;⟨m',hn2.sameBut hs (Ne.symm (cne x c hc)),q⟩⟩ ⟨c,hs,.inr hc⟩
  ·exact(hs.2 b (bx (br (bg e) (I.ok.cab x c hfn hc)))).trans (I.base.keep b o e n hb hx)
  ·obtain⟨sl,e1⟩:=I.base.slot b o e n hb hx;exact⟨sl,(hs.2 b (bx (br (bg e) (I.ok.cab x c hfn hc)))).trans e1⟩
  ·obtain⟨o',e1⟩:=I.base.there b o e hx;exact⟨o',(hs.2 b (bx (br (bg e) (I.ok.cab x c hfn hc)))).trans e1⟩
  ·by_cases hj:j=i
   ·subst hj;rw[hi]at e1;cases e1;rw[dm hiσ]at e2;cases e2;exact⟨u,r,.inr ⟨.inl hk,c,hc,hc'⟩⟩
   ·rw[bt (Ne.symm hj)]at e2;obtain⟨u',r',q⟩:=hl j y v' e1 e2 e3;refine⟨u',r',?_⟩;rcases q with q|⟨k,c',e,z'⟩
    ·exact .inl q
    ·refine .inr ⟨k,c',e,z'.sameBut hs ?_⟩
     rintro rfl
     exact hj (z42 hN e1 (I.ok.inj _ _ _ e hc▸hi))
  ·by_cases hcc:c'=c
   ·subst hcc;exact⟨_,hc'⟩
   ·obtain⟨w2,z2⟩:=I.cell y c' e;exact⟨w2,z2.sameBut hs hcc⟩
  ·obtain⟨e,n,ne,nf,d⟩:=I.pin p hp;refine⟨(hs.2 p.1 ?_).trans e,n,ne,nf,d⟩;intro q;rw[q,hoc]at e;have q':oc=p.2:=Option.some.inj e;exact d w' (by rw[<-q'];exact hocd)
theorem z68 {M:Model}{A:bz}{E:Value->aa->Prop}{i:Nat}{x:Str}{v:V}{u:Value}{Q:Unit->aa->Prop}(I:Inv X pins σ H s)(hN:X.N.Nodup)(hi:X.N[i]?=some x)(hx:Loc X.env.scope x)(r:RelV v u)
  (h:∀s',Inv X pins (σ.set i (some v)) H s'->Q () s') (hf:X.fn x=true\/X.env.scope.names.lookup x=some .local:=by first|exact .inl rfl|exact .inr rfl|assumption):wpAny M A (storeName X.env x u) Q E s:=
 z4g I hN hi hx r (fun s' I' _=>h s' I') hf
theorem Inv.call' {s':aa}{ch:List Addr}(I:Inv X pins σ H s)(ho:s'.os=s.os)(u:Un (frs X.stack) ch H H' s.heap s'.heap)(hok:HOk X.prog X.w H' s'.heap)(hg:lb s'.gens)
  (hch:∀b∈ch,(b∈X.ex\/X.s₀.heap.objs.size<=b)/\b≠X.env.locals/\(∀x c,X.env.cells.lookup x=some c->c≠b)/\∀p∈X.pn++pins,p.1≠b):Inv X pins σ H' s':=by
 obtain⟨h',g',d',t',o'⟩:=s';have e:o'=s.os:=ho;subst e;exact I.call (g':=g') (t':=t') (d':=d') u hok hg hch
end
abbrev XK:=Value->Option Addr->Hp->Prop
abbrev St:=List (Option V)
abbrev VK:=V->Hp->Prop
abbrev TE:=St->Hp->VK->Prop
abbrev TT:=St->Hp->(Bool->Hp->Prop)->Prop
abbrev TA:=St->Hp->(List V->Hp->Prop)->Prop
structure Ends where
 nx:St->Hp->Prop
 rt:VK
 bk:St->Hp->Prop:=fun _ _=>False
 ct:St->Hp->Prop:=fun _ _=>False
abbrev TS:=Ends->St->Hp->Prop
def EP (X:Cx)(pins:List (Addr×Obj))(σ:St)(Q:VK)(u:Value)(s':aa):Prop:=∃v H',Inv X pins σ H' s'/\RelV v u/\Q v H'
def TP (X:Cx)(pins:List (Addr×Obj))(σ:St)(Q:Bool->Hp->Prop)(b:Bool)(s':aa):Prop:=∃H',Inv X pins σ H' s'/\Q b H'
def AP (X:Cx)(pins:List (Addr×Obj))(σ:St)(Q:List V->Hp->Prop)(us:List Value)(s':aa):Prop:=∃vs H',Inv X pins σ H' s'/\Vals vs us/\Q vs H'
def SP (X:Cx)(pins:List (Addr×Obj))(D:Ends)(f:Flow)(s':aa):Prop:=
 match f with
 |.next=>∃σ' H',Inv X pins σ' H' s'/\D.nx σ' H'
 |.brk=>∃σ' H',Inv X pins σ' H' s'/\D.bk σ' H'
 |.cont=>∃σ' H',Inv X pins σ' H' s'/\D.ct σ' H'
 |.ret u=>∃v σ' H',Inv X pins σ' H' s'/\RelV v u/\D.rt v H'
def PE (X:Cx)(e:Expr)(t:TE):Prop:=∀(pins:List (Addr×Obj)) (s:aa) (σ:St) (H:Hp) (Q:VK),Inv X pins σ H s->t σ H Q->wpAny (model X.prog X.w) X.A (eval e X.env) (EP X pins σ Q) X.xe s
def PT (X:Cx)(e:Expr)(t:TT):Prop:=∀(pins:List (Addr×Obj)) (s:aa) (σ:St) (H:Hp) (Q:Bool->Hp->Prop),Inv X pins σ H s->t σ H Q->wpAny (model X.prog X.w) X.A (oo e X.env (eval e X.env)) (TP X pins σ Q) X.xe s
def PW (X:Cx)(e:Expr)(t:TT):Prop:=∀(whole:Sem Value) (pins:List (Addr×Obj)) (s:aa) (σ:St) (H:Hp) (Q:Bool->Hp->Prop),Inv X pins σ H s->t σ H Q->wpAny (model X.prog X.w) X.A (oo e X.env whole) (TP X pins σ Q) X.xe s
theorem PW.pt {X:Cx}{e:Expr}{t:TT}(h:PW X e t):PT X e t:=h _
def PA (X:Cx)(es:List Expr)(t:TA):Prop:=∀(pos:Pos) (pins:List (Addr×Obj)) (s:aa) (σ:St) (H:Hp) (Q:List V->Hp->Prop),Inv X pins σ H s->t σ H Q->wpAny (model X.prog X.w) X.A (spliced (j7 pos (cy es X.env))) (AP X pins σ Q) X.xe s
def PS (X:Cx)(st:Stmt)(t:TS):Prop:=∀(pins:List (Addr×Obj)) (s:aa) (σ:St) (H:Hp) (D:Ends),Inv X pins σ H s->t D σ H->wpAny (model X.prog X.w) X.A (exec st X.env) (SP X pins D) X.xe s
def PSs (X:Cx)(st:List Stmt)(t:TS):Prop:=∀(pins:List (Addr×Obj)) (s:aa) (σ:St) (H:Hp) (D:Ends),Inv X pins σ H s->t D σ H->wpAny (model X.prog X.w) X.A (execs st X.env) (SP X pins D) X.xe s
theorem thn {α:Type}{t:Sem α}{Q Q':α->aa->Prop}{M:Model}{A:bz}{E:Value->aa->Prop}{s:aa}(h:wpAny M A t Q E s)(hQ:∀a s,Q a s->Q' a s):wpAny M A t Q' E s:=jp h hQ fun _ _ x=>x
section
variable {X:Cx}
theorem bin {a b:Expr}{ta tb:TE}(ha:PE X a ta)(hb:PE X b tb){pins:List (Addr×Obj)}{s:aa}{σ:St}{H:Hp}{R:V->V->Hp->Prop}(I:Inv X pins σ H s)(h:ta σ H fun x H1=>tb σ H1 fun y H2=>R x y H2)
  {α:Type} {Q:α->aa->Prop} {f:Value->Value->Sem α}
  (hf:∀v u s2 x y H2,Inv X pins σ H2 s2->RelV x v->RelV y u->R x y H2->wpAny (model X.prog X.w) X.A (f v u) Q X.xe s2):
  wpAny (model X.prog X.w) X.A (eval a X.env) (fun v s₁=>wpAny (model X.prog X.w) X.A (eval b X.env) (fun u s₂=>wpAny (model X.prog X.w) X.A (f v u) Q X.xe s₂) X.xe s₁) X.xe s:=by
 refine thn (ha pins s σ H _ I h) fun v s1 ⟨x,H1,I1,r1,q1⟩=>?_;refine thn (hb pins s1 σ H1 _ I1 q1) fun u s2 ⟨y,H2,I2,r2,q2⟩=>?_;exact hf v u s2 x y H2 I2 r1 r2 q2
def tVar (i:Nat):TE:=fun σ H Q=>∃v,σ[i]?=some (some v)/\Q v H
def tC (v:V):TE:=fun _ H Q=>Q v H
theorem z3t {i:Nat}{x:Str}{pos:Pos}(hN:X.N[i]?=some x)(hv:Vis X.env.scope x)(hd:(x==("__debug__":Str))=false:=by decide)(hcd:(x==("__classdict__":Str))=false:=by decide):PE X (.Name x pos) (tVar i):=by
 intro pins s σ H Q I h;obtain⟨v,e,h⟩:=h;obtain⟨m,hn,hl⟩:=I.loc;obtain⟨u,r,l⟩:=hl i x v hN e hv;have fin:EP X pins σ Q u s:=⟨v,H,I,r,h⟩;rcases l with⟨hk,hm⟩|⟨hk,c,hc,hcell⟩
 ·exact qg (oq I.ok.kind hk hn hm fin) hd
 ·rcases hk with hk|hk
  ·exact qg (wpAny_loadName_cell I.ok.kind hk hc hcell fin) hd
  ·exact qg (wpAny_loadName_free I.ok.kind hk hc hcell fin hcd) hd
theorem zp7 {i j pos}:PE X (.Constant (.int i) j pos) (tC (.int i)):=fun _ _ _ H _ I h=>wpAny_Constant_int ⟨.int i,H,I.tok _,⟨_,rfl⟩,h⟩
theorem zvb {b j pos}:PE X (.Constant (.bool b) j pos) (tC (.bl b)):=fun _ _ _ H _ I h=>Constant_bool ⟨.bl b,H,I,rfl,h⟩
theorem zqf {j pos}:PE X (.Constant .none j pos) (tC .non):=fun _ _ _ H _ I h=>p8 ⟨.non,H,I,rfl,h⟩
theorem zcz {x j pos}:PE X (.Constant (.str x) j pos) (tC (.str x)):=fun _ _ _ H _ I h=>Calls.Constant_str ⟨.str x,H,I.tok _,⟨_,rfl⟩,h⟩
def Gl (X:Cx)(x:Str):Prop:=X.env.kindOf x=some .globalImplicit
theorem z3i {E:Value->aa->Prop}{pins:List (Addr×Obj)}{s:aa}{σ:St}{H:Hp}{x:Str}{u:Value}{pos:Pos}{Q:Value->aa->Prop}(I:Inv X pins σ H s)(hg:Gl X x)(hm:X.mg x=some u)(h:Q u s)
  (hd:(x==("__debug__":Str))=false:=by decide):wpAny (model X.prog X.w) X.A (eval (.Name x pos) X.env) Q E s:=
 i6 I.ok.kind hg (mo (by rw[I.ok.glob];exact I.mod.glob.keeps I.bk) hm h) hd
theorem z2n {E:Value->aa->Prop}{pins:List (Addr×Obj)}{s:aa}{σ:St}{H:Hp}{x:Str}{u:Value}{pos:Pos}{Q:Value->aa->Prop}(I:Inv X pins σ H s)(hg:Gl X x)(hm:X.mg x=none)(hv:cv x=some u)(h:Q u s)
  (hn:x≠"__name__":=by decide) (hd:(x==("__debug__":Str))=false:=by decide):wpAny (model X.prog X.w) X.A (eval (.Name x pos) X.env) Q E s:=by
 obtain⟨mb,h1,h2⟩:=I.mod.blt;exact i6 I.ok.kind hg (Calls.loadGlobal_builtin (by rw[I.ok.glob];exact I.mod.glob.keeps I.bk) hm (by rw[I.ok.blt];exact h1.keeps I.bk) ((h2 x hn).trans hv) h) hd
theorem zma {x:Str}{v:V}{u:Value}{pos:Pos}(hg:Gl X x)(hm:X.mg x=some u)(r:RelV v u)(hd:(x==("__debug__":Str))=false:=by decide):PE X (.Name x pos) (tC v):=fun _ _ _ H _ I h=>z3i I hg hm ⟨v,H,I,r,h⟩ hd
theorem zjm {x:Str}{v:V}{u:Value}{pos:Pos}(hg:Gl X x)(hm:X.mg x=none)(hv:cv x=some u)(r:RelV v u)(hn:x≠"__name__":=by decide)(hd:(x==("__debug__":Str))=false:=by decide):PE X (.Name x pos) (tC v):=fun _ _ _ H _ I h=>z2n I hg hm hv ⟨v,H,I,r,h⟩ hn hd
variable {a b:Expr}{ta tb:TE}{pos:Pos}
def PC (X:Cx)(op:CmpOp)(a b:Expr)(t:TE):Prop:=∀(pins:List (Addr×Obj)) (s:aa) (σ:St) (H:Hp) (Q:VK),Inv X pins σ H s->t σ H Q->wpAny (model X.prog X.w) X.A (eval a X.env) (fun v s₁=>wpAny (model X.prog X.w) X.A (eval b X.env) (fun u s₂=>wpAny (model X.prog X.w) X.A (b9 op v u) (EP X pins σ Q) X.xe s₂) X.xe s₁) X.xe s
theorem z99 (b:Expr){op:CmpOp}(h:op≠.In)(h2:op≠.NotIn):fz op b=false:=by
 have e1:(op==CmpOp.In)=false:=by cases op<;>first|rfl|exact absurd rfl h
 have e2:(op==CmpOp.NotIn)=false:=by cases op<;>first|rfl|exact absurd rfl h2
 cases b<;>simp[fz,e1,e2]
def tIsN (ta:TE):TE:=fun σ H Q=>ta σ H fun x H1=>Q (.bl (decide (x=.non))) H1
def znv (ta:TE):TE:=fun σ H Q=>ta σ H fun x H1=>Q (.bl (!decide (x=.non))) H1
theorem RelV.none_iff {x:V}{v:Value}(r:RelV x v):(v==Value.none)=decide (x=.non):=by
 cases x with
 |non=>cases r;rfl
 |bl _=>cases r;rfl
 |int _=>obtain⟨t,rfl⟩:=r;rfl
 |str _=>obtain⟨t,rfl⟩:=r;rfl
 |ref _=>cases r;rfl
 |ty _=>cases r;rfl
theorem zi2 {j pos'}(ha:PE X a ta):PC X .Is a (.Constant .none j pos') (tIsN ta):=by intro pins s σ H Q I h;refine thn (ha pins s σ H _ I h) fun v s1 ⟨x,H1,I1,r1,q1⟩=>?_;exact p8 (is_none_gen ⟨.bl _,H1,I1,by rw[r1.none_iff];rfl,q1⟩)
theorem zbd {j pos'}(ha:PE X a ta):PC X .IsNot a (.Constant .none j pos') (znv ta):=by intro pins s σ H Q I h;refine thn (ha pins s σ H _ I h) fun v s1 ⟨x,H1,I1,r1,q1⟩=>?_;exact p8 (isnot_none_gen ⟨.bl _,H1,I1,by rw[r1.none_iff];rfl,q1⟩)
def tB (t:TE):TT:=fun σ H Q=>t σ H fun x H1=>∃c,x=.bl c/\Q c H1
theorem zi4 {op:CmpOp}{t:TE}(h:PC X op a b t)(h1:fz op b=false:=by first|exact z99 _ (by decide) (by decide)|rfl):PE X (.Compare a [op] [b] pos) t:=fun pins s σ H Q I hw=>wpAny_Compare1 (h pins s σ H Q I hw) h1
theorem zhd {op:CmpOp}{t:TE}(h:PC X op a b t)(h1:fz op b=false:=by first|exact z99 _ (by decide) (by decide)|rfl):PT X (.Compare a [op] [b] pos) (tB t):=by intro pins s σ H Q I hw;refine n8 (thn (h pins s σ H _ I hw) fun v s1 h1=>thn h1 fun u s2 h2=>thn h2 fun c s3 ⟨x,H1,I1,r1,q1⟩=>?_) h1;obtain⟨d,rfl,q⟩:=q1;cases r1;exact dt ⟨H1,I1,q⟩
theorem zr1 {e:Expr}{t:TE}(h:PE X e t)(he:∀whole,oo e X.env whole=(do let v <-whole;tu e.pos;pf [v] (t0 v)):=by intro _;rfl):PT X e (tB t):=by intro pins s σ H Q I hw;refine isTrue_plain (thn (h pins s σ H _ I hw) fun v s1 ⟨x,H1,I1,r1,q1⟩=>?_) (he _);obtain⟨d,rfl,q⟩:=q1;cases r1;exact dt ⟨H1,I1,q⟩
variable {tA tB':TT}{rest:List Expr}
def tAnd (t u:TT):TT:=fun σ H Q=>t σ H fun c H1=>if c=true then u σ H1 Q else Q false H1
def tOr (t u:TT):TT:=fun σ H Q=>t σ H fun c H1=>if c=true then Q true H1 else u σ H1 Q
def tNot (t:TT):TT:=fun σ H Q=>t σ H fun c H1=>Q (!c) H1
theorem zj3 (ha:PT X a tA):PW X (.BoolOp .And [a] pos) tA:=by
 intro wh pins s σ H Q I h;refine isTrue_and (thn (ha pins s σ H Q I h) fun c s1 e=>?_);cases c with
 |true=>exact isTrue_and_nil e
 |false=>exact e
theorem zmt (ha:PT X a tA):PW X (.BoolOp .Or [a] pos) tA:=by
 intro wh pins s σ H Q I h;refine isTrue_or (thn (ha pins s σ H Q I h) fun c s1 e=>?_);cases c with
 |false=>exact isTrue_or_nil e
 |true=>exact e
theorem zov (ha:PT X a tA)(hb:PW X (.BoolOp .And (b::rest) pos) tB'):PW X (.BoolOp .And (a::b::rest) pos) (tAnd tA tB'):=by
 intro wh pins s σ H Q I h;refine isTrue_and (thn (ha pins s σ H _ I h) fun c s1 ⟨H1,I1,q1⟩=>?_);cases c with
 |true=>exact hb wh pins s1 σ H1 Q I1 q1
 |false=>exact⟨H1,I1,q1⟩
theorem zta (ha:PT X a tA)(hb:PW X (.BoolOp .Or (b::rest) pos) tB'):PW X (.BoolOp .Or (a::b::rest) pos) (tOr tA tB'):=by
 intro wh pins s σ H Q I h;refine isTrue_or (thn (ha pins s σ H _ I h) fun c s1 ⟨H1,I1,q1⟩=>?_);cases c with
 |true=>exact⟨H1,I1,q1⟩
 |false=>exact hb wh pins s1 σ H1 Q I1 q1
theorem zh1 (ha:PT X a tA):PT X (.UnaryOp .Not a pos) (tNot tA):=by intro pins s σ H Q I h;exact isTrue_not (ha pins s σ H (fun c H1=>Q (!c) H1) I h)
def zrx (ta tb:TE):TE:=fun σ H Q=>ta σ H fun x H1=>∃c,x=.bl c/\if c=true then tb σ H1 Q else Q (.bl false) H1
def tOrV (ta tb:TE):TE:=fun σ H Q=>ta σ H fun x H1=>∃c,x=.bl c/\if c=true then Q (.bl true) H1 else tb σ H1 Q
theorem zhx {op}{t:TE}(h:PE X a t):PE X (.BoolOp op [a] pos) t:=fun pins s σ H Q I hw=>BoolOp_one (h pins s σ H Q I hw)
theorem zpa (ha:PE X a ta)(hb:PE X (.BoolOp .And (b::rest) pos) tb):PE X (.BoolOp .And (a::b::rest) pos) (zrx ta tb):=by
 intro pins s σ H Q I h;refine BoolOp_and (thn (ha pins s σ H _ I h) fun v s1 ⟨x,H1,I1,r1,q1⟩=>?_);obtain⟨c,rfl,q1⟩:=q1;cases r1;refine dt ?_;cases c with
 |true=>exact hb pins s1 σ H1 Q I1 q1
 |false=>exact⟨.bl false,H1,I1,rfl,q1⟩
theorem zrv (ha:PE X a ta)(hb:PE X (.BoolOp .Or (b::rest) pos) tb):PE X (.BoolOp .Or (a::b::rest) pos) (tOrV ta tb):=by
 intro pins s σ H Q I h;refine BoolOp_or (thn (ha pins s σ H _ I h) fun v s1 ⟨x,H1,I1,r1,q1⟩=>?_);obtain⟨c,rfl,q1⟩:=q1;cases r1;refine dt ?_;cases c with
 |false=>exact hb pins s1 σ H1 Q I1 q1
 |true=>exact⟨.bl true,H1,I1,rfl,q1⟩
def tIf (t:TT)(ta tb:TE):TE:=fun σ H Q=>t σ H fun c H1=>if c=true then ta σ H1 Q else tb σ H1 Q
theorem zgi {c:Expr}(hc:PT X c tA)(ha:PE X a ta)(hb:PE X b tb):PE X (.IfExp c a b pos) (tIf tA ta tb):=by
 intro pins s σ H Q I h;refine wpAny_IfExp (thn (hc pins s σ H _ I h) fun d s1 ⟨H1,I1,q1⟩=>?_);cases d with
 |true=>exact ha pins s1 σ H1 Q I1 q1
 |false=>exact hb pins s1 σ H1 Q I1 q1
end
def SqL (K:W.Frag)(H:Hp)(a:Addr)(xs:List V):Prop:=Rd H a (.lst xs)\/∃(o:Obj) (its:Array Value) (n:Nat),K.lookup a=some o/\o.cls=.type "list"/\o.dict=none/\o.data=.seq its n/\its.size<=bf/\Vals xs its.toList
def SqT (K:W.Frag)(H:Hp)(a:Addr)(xs:List V):Prop:=Rd H a (.tup xs)\/∃(o:Obj) (its:Array Value) (n:Nat),K.lookup a=some o/\o.cls=.type "tuple"/\o.dict=none/\o.data=.seq its n/\its.size<=bf/\Vals xs its.toList
def absV:Value->Option V
 |.none=>some .non
 |.bool b=>some (.bl b)
 |.int i _=>some (.int i)
 |.str x _=>some (.str x)
 |.ref a=>some (.ref a)
 |.type n=>some (.ty n)
 |_=>none
theorem RelV.abs {x:V}{u:Value}(r:RelV x u):absV u=some x:=by
 cases x with
 |non=>cases r;rfl
 |bl _=>cases r;rfl
 |int _=>obtain⟨t,rfl⟩:=r;rfl
 |str _=>obtain⟨t,rfl⟩:=r;rfl
 |ref _=>cases r;rfl
 |ty _=>cases r;rfl
theorem RelV.inj {x y:V}{u:Value}(r:RelV x u)(q:RelV y u):x=y:=Option.some.inj (r.abs.symm.trans q.abs)
theorem Vals.inj:∀{xs ys:List V} {us:List Value},Vals xs us->Vals ys us->xs=ys
 |_,_,_,.nil,.nil=>rfl
 |_,_,_,.cons r t,.cons r' t'=>by rw[r.inj r',Vals.inj t t']
section
variable {X:Cx}{pins:List (Addr×Obj)}{σ:St}{H:Hp}{s:aa}{a:Addr}{xs ys:List V}
theorem SqL.of {K:W.Frag}(h:H a=some (.lst xs)):SqL K H a xs:=.inl (.inl h)
theorem SqT.of {K:W.Frag}(h:H a=some (.tup xs)):SqT K H a xs:=.inl (.inl h)
theorem Inv.list (I:Inv X pins σ H s)(h:SqL X.K H a xs):∃its:List Value,Vals xs its/\PlainL s.heap a its.toArray/\xs.length<=bf:=by
 rcases h with h|⟨o,its,n,hk,hc,hd,hs,hz,r⟩
 ·obtain⟨z,its,n,r,e⟩:=h.ok I.hok;exact⟨its,r,⟨_,n,e,rfl,rfl,rfl⟩,z⟩
 ·refine⟨its.toList,r,⟨o,n,I.kIn a o hk,hc,hd,by simpa using hs⟩,?_⟩;have e:=r.length;simp only[bp]at e;omega
theorem Inv.tuple (I:Inv X pins σ H s)(h:SqT X.K H a xs):∃its:List Value,Vals xs its/\IsTup s.heap a its.toArray/\xs.length<=bf:=by
 rcases h with h|⟨o,its,n,hk,hc,_,hs,hz,r⟩
 ·obtain⟨z,its,r,p⟩:=h.ok I.hok;exact⟨its,r,p.tup,z⟩
 ·refine⟨its.toList,r,⟨o,I.kIn a o hk,hc,n,by simpa using hs⟩,?_⟩;have e:=r.length;simp only[bp]at e;omega
theorem Inv.tupleN (I:Inv X pins σ H s)(h:SqT X.K H a xs):∃l:List Value,Vals xs l/\zq2 s.heap a l.toArray/\xs.length<=bf:=by
 rcases h with h|⟨o,l,n,q,hc,hd,hs,hz,r⟩
 ·obtain⟨z,l,r,n,q⟩:=h.ok I.hok;exact⟨l,r,⟨_,n,q,rfl,rfl,rfl⟩,z⟩
 ·exact⟨l.toList,r,⟨o,n,I.kIn a o q,hc,hd,(by simpa using hs)⟩,(by have w:=r.length;simp only[bp]at w;omega)⟩
theorem Inv.list_inj (I:Inv X pins σ H s)(h:SqL X.K H a xs)(h':SqL X.K H a ys):xs=ys:=by
 obtain⟨its,r,⟨o,n,e,_,_,d⟩,_⟩:=I.list h;obtain⟨its',r',⟨o',n',e',_,_,d'⟩,_⟩:=I.list h';rw[e]at e';cases e';rw[d]at d';injection d' with d1 _;have:its=its':=by simpa using congrArg Array.toList d1
 subst this;exact r.inj r'
theorem Inv.tuple_inj (I:Inv X pins σ H s)(h:SqT X.K H a xs)(h':SqT X.K H a ys):xs=ys:=by
 obtain⟨its,r,⟨o,e,_,n,d⟩,_⟩:=I.tuple h;obtain⟨its',r',⟨o',e',_,n',d'⟩,_⟩:=I.tuple h';rw[e]at e';cases e';rw[d]at d';injection d' with d1 _;have:its=its':=by simpa using congrArg Array.toList d1
 subst this;exact r.inj r'
end
abbrev Cx.wish (X:Cx)(E:Value->aa->Prop):Cx:={X with xe:=E}
abbrev Cx.nox (X:Cx):Cx:=X.wish fun _ _=>False
theorem Cx.Ok.wish {X:Cx}(ok:X.Ok)(E:Value->aa->Prop):(X.wish E).Ok:=⟨ok.mod,ok.kind,ok.glob,ok.blt,ok.above,ok.inj,ok.has,ok.cab,ok.hd,ok.frames,ok.stk,ok.exf,ok.bs,ok.bsz,ok.noex,ok.exfs,ok.funs,ok.frf,ok.fxN⟩
theorem Cx.Ok.unwish {X:Cx}{E:Value->aa->Prop}(ok:(X.wish E).Ok):X.Ok:=⟨ok.mod,ok.kind,ok.glob,ok.blt,ok.above,ok.inj,ok.has,ok.cab,ok.hd,ok.frames,ok.stk,ok.exf,ok.bs,ok.bsz,ok.noex,ok.exfs,ok.funs,ok.frf,ok.fxN⟩
section
variable {X:Cx}{pins:List (Addr×Obj)}{σ:St}{H:Hp}{s:aa}{E:Value->aa->Prop}
theorem Inv.wish (I:Inv X pins σ H s)(E:Value->aa->Prop):Inv (X.wish E) pins σ H s:=⟨I.ok.wish E,I.os,I.bare,I.base,I.loc,I.cell,I.free,I.freeC,I.pin,I.hok,I.len,I.fx⟩
theorem Inv.unwish (I:Inv (X.wish E) pins σ H s):Inv X pins σ H s:=⟨I.ok.unwish,I.os,I.bare,I.base,I.loc,I.cell,I.free,I.freeC,I.pin,I.hok,I.len,I.fx⟩
theorem SP.unwish {D:Ends}{f:Flow}{s':aa}(h:SP (X.wish E) pins D f s'):SP X pins D f s':=by
 cases f with
 |next=>obtain⟨σ',H',I,q⟩:=h;exact⟨σ',H',I.unwish,q⟩
 |brk=>obtain⟨σ',H',I,q⟩:=h;exact⟨σ',H',I.unwish,q⟩
 |cont=>obtain⟨σ',H',I,q⟩:=h;exact⟨σ',H',I.unwish,q⟩
 |ret u=>obtain⟨v,σ',H',I,r,q⟩:=h;exact⟨v,σ',H',I.unwish,r,q⟩
theorem PE.nox {e:Expr}{t:TE}(h:PE X.nox e t):PE X e t:=fun pins s σ H Q I hw=>jp (h pins s σ H Q (I.wish _) hw) (fun _ _ ⟨v,H',I',r,q⟩=>⟨v,H',I'.unwish,r,q⟩) fun _ _ z=>False.elim z
theorem PT.nox {e:Expr}{t:TT}(h:PT X.nox e t):PT X e t:=fun pins s σ H Q I hw=>jp (h pins s σ H Q (I.wish _) hw) (fun _ _ ⟨H',I',q⟩=>⟨H',I'.unwish,q⟩) fun _ _ z=>False.elim z
theorem PSs.nox {st:List Stmt}{t:TS}(h:PSs X.nox st t):PSs X st t:=fun pins s σ H D I hw=>jp (h pins s σ H D (I.wish _) hw) (fun _ _ q=>q.unwish) fun _ _ z=>False.elim z
end
section
variable {X:Cx}{st:Stmt}{rest:List Stmt}{t u:TS}{e:Expr}{te:TE}{pos:Pos}
def zsg:TS:=fun D σ H=>D.nx σ H
def tSeq (t u:TS):TS:=fun D σ H=>t {D with nx:=u D} σ H
theorem zix:PSs X [] zsg:=fun _ _ σ H _ I h=>ky ⟨σ,H,I,h⟩
theorem z9g (h1:PS X st t)(h2:PSs X rest u):PSs X (st::rest) (tSeq t u):=by
 intro pins s σ H D I h;refine kh (thn (h1 pins s σ H {D with nx:=u D} I h) fun f s1 q=>?_);cases f with
 |next=>obtain⟨σ',H',I',q⟩:=q;exact h2 pins s1 σ' H' D I' q
 |ret v=>exact q
 |brk=>exact q
 |cont=>exact q
theorem zl3 (h1:PS X st t):PSs X [st] t:=by
 intro pins s σ H D I h;refine kh (thn (h1 pins s σ H D I h) fun f s1 q=>?_);cases f with
 |next=>exact ky q
 |ret v=>exact q
 |brk=>exact q
 |cont=>exact q
theorem Inv.quiet {pins:List (Addr×Obj)}{σ:St}{H:Hp}{s:aa}(I:Inv X pins σ H s):interactive X.env=false:=by simp[interactive,I.ok.kind]
def zo7 (te:TE):TS:=fun D σ H=>te σ H fun _ H1=>D.nx σ H1
theorem ziq (he:PE X e te)(hs:km e none pos.line X.env=pure false:=by rfl):PS X (.Expr e pos) (zo7 te):=by intro pins s σ H D I h;exact wpAny_Expr_any (thn (he pins s σ H _ I h) fun v s1 ⟨x,H1,I1,r1,q1⟩=>⟨σ,H1,I1,q1⟩) I.quiet hs
def tRet (te:TE):TS:=fun D σ H=>te σ H D.rt
theorem ze2 (he:PE X e te):PS X (.Return (some e) pos) (tRet te):=by intro pins s σ H D I h;exact wpAny_Return_some (thn (he pins s σ H _ I h) fun v s1 ⟨x,H1,I1,r1,q1⟩=>⟨x,σ,H1,I1,r1,q1⟩)
def tIfS (c:TT)(t u:TS):TS:=fun D σ H=>c σ H fun b H1=>if b=true then t D σ H1 else u D σ H1
theorem znd {c:Expr}{a b:List Stmt}{tc:TT}(hc:PT X c tc)(ha:PSs X a t)(hb:PSs X b u):PS X (.If c a b pos) (tIfS tc t u):=by
 intro pins s σ H D I h;refine wpAny_If (thn (hc pins s σ H _ I h) fun d s1 ⟨H1,I1,q1⟩=>?_);cases d with
 |true=>exact ha pins s1 σ H1 D I1 q1
 |false=>exact hb pins s1 σ H1 D I1 q1
end
abbrev TG:=V->St->Hp->(St->Hp->Prop)->Prop
abbrev TGs:=List V->St->Hp->(St->Hp->Prop)->Prop
def PG (X:Cx)(target:Expr)(t:TG):Prop:=∀(pins:List (Addr×Obj)) (s:aa) (σ:St) (H:Hp) (v:V) (u:Value) (Q:St->Hp->Prop),Inv X pins σ H s->RelV v u->t v σ H Q->wpAny (model X.prog X.w) X.A (m4 target X.env u) (fun _ s'=>∃σ' H',Inv X pins σ' H' s'/\Q σ' H') X.xe s
def PGs (X:Cx)(ts:List Expr)(t:TGs):Prop:=∀(pins:List (Addr×Obj)) (s:aa) (σ:St) (H:Hp) (vs:List V) (us:List Value) (Q:St->Hp->Prop),Inv X pins σ H s->Vals vs us->t vs σ H Q->wpAny (model X.prog X.w) X.A (assignInOrder ((eu ts X.env).map (·.2)) us) (fun _ s'=>∃σ' H',Inv X pins σ' H' s'/\Q σ' H') X.xe s
abbrev TSet:=V->V->V->Hp->(Hp->Prop)->Prop
def PSet (X:Cx)(t:TSet):Prop:=∀(pins:List (Addr×Obj)) (s:aa) (σ:St) (H:Hp) (o i v:V) (ov iv u:Value) (Q:Hp->Prop),Inv X pins σ H s->RelV o ov->RelV i iv->RelV v u->t o i v H Q->wpAny (model X.prog X.w) X.A (setItem ov iv u) (fun _ s'=>∃H',Inv X pins σ H' s'/\Q H') X.xe s
section
variable {X:Cx}{pos:Pos}
def zk2 (i:Nat):TG:=fun v σ H Q=>Q (σ.set i (some v)) H
theorem zbl {i:Nat}{x:Str}(hN:X.N.Nodup)(hi:X.N[i]?=some x)(hx:Loc X.env.scope x)(hf:X.fn x=true\/X.env.scope.names.lookup x=some .local:=by first|exact .inl rfl|exact .inr rfl|assumption):PG X (.Name x pos) (zk2 i):=by intro pins s σ H v u Q I r h;exact qv (z68 I hN hi hx r (fun s' I'=>⟨_,H,I',h⟩) hf)
def gNil:TGs:=fun vs σ H Q=>vs=[]/\Q σ H
def zt2 (t:TG)(u:TGs):TGs:=fun vs σ H Q=>∃v r,vs=v::r/\t v σ H fun σ' H'=>u r σ' H' Q
theorem zkb:PGs X [] gNil:=by intro pins s σ H vs us Q I r h;obtain⟨e,h⟩:=h;subst e;cases r;exact assignInOrder_nil ⟨σ,H,I,h⟩
theorem zfq {e:Expr}{es:List Expr}{t:TG}{u:TGs}(h1:PG X e t)(h2:PGs X es u)
  (hs:(eu (e::es) X.env).map (·.2)=m4 e X.env::(eu es X.env).map (·.2):=by rfl):PGs X (e::es) (zt2 t u):=by
 intro pins s σ H vs us Q I r h;obtain⟨v,vr,e1,h⟩:=h;subst e1;cases r with
 |cons r rr=>rw[hs];refine assignInOrder_cons (thn (h1 pins s σ H _ _ _ I r h) fun _ s1 ⟨σ1,H1,I1,q1⟩=>?_);exact h2 pins s1 σ1 H1 _ _ Q I1 rr q1
def gTup (K:W.Frag)(n:Nat)(t:TGs):TG:=fun v σ H Q=>∃a xs,v=.ref a/\SqT K H a xs/\xs.length=n/\t xs σ H Q
theorem zqh {es:List Expr}{k:Nat}{t:TGs}{n:Nat}(hc:X.calm=true)(h:PGs X es t)
  (hn:(eu es X.env).length=n:=by rfl) (hst:(eu es X.env).findIdx? (·.1)=none:=by rfl):PG X (.Tuple es k pos) (gTup X.K n t):=by
 intro pins s σ H v u Q I r hw;obtain⟨a,xs,e1,hq,hl,hw⟩:=hw;subst e1;cases r;obtain⟨its,rv,ht,hz⟩:=I.tuple hq;refine assign_Tuple_tuple (I.ok.hd hc) ht (by simp[hn,<-hl,rv.length]) hst fun h' hx=>?_;have I1:Inv X pins σ H {s with heap:=h'}:=I.kept (t':=s.toks) fun b o e=>hx b o (bx (bg e)) e;exact h pins _ σ H xs _ Q I1 (by simpa using rv) hw
def tAsg (te:TE)(g:TG):TS:=fun D σ H=>te σ H fun x H1=>g x σ H1 D.nx
theorem zqd {tg e:Expr}{te:TE}{g:TG}(he:PE X e te)(hg:PG X tg g)(hs:p9 [tg] e pos.line X.env=pure false:=by rfl)(hw:qa [tg] e X.env=pure none:=by rfl)
  (h1:(eu [tg] X.env).map (·.2)=[m4 tg X.env]:=by rfl):PS X (.Assign [tg] e pos) (tAsg te g):=by
 intro pins s σ H D I h;refine wpAny_Assign_stores (thn (he pins s σ H _ I h) fun v s1 ⟨x,H1,I1,r1,q1⟩=>?_) hs hw;rw[h1];exact thn (hg pins s1 σ H1 x v _ I1 r1 q1) fun _ s2 q=>q
theorem zik {i:Nat}{x:Str}{e:Expr}{te:TE}{pos':Pos}(hN:X.N.Nodup)(hi:X.N[i]?=some x)(hx:Loc X.env.scope x)(he:PE X e te)(hs:km e (some (.Name x pos')) pos.line X.env=pure false:=by rfl)(hf:X.fn x=true\/X.env.scope.names.lookup x=some .local:=by first|exact .inl rfl|exact .inr rfl|assumption):
  PS X (.Assign [.Name x pos'] e pos) (tAsg te (zk2 i)):=by
 intro pins s σ H D I h;refine wpAny_Assign_Name (thn (he pins s σ H _ I h) fun v s1 ⟨y,H1,I1,r1,q1⟩=>?_) hs;exact z68 I1 hN hi hx r1 (fun s2 I2=>⟨_,H1,I2,q1⟩) hf
end
section
variable {X:Cx}{pos:Pos}
end
structure It where
 go:Nat->Hp->Prop
 yld:Nat->Hp->V->Hp->Prop
 stop:Nat->Hp->Prop
def FpOk (X:Cx)(pins:List (Addr×Obj))(H:Hp)(b:Addr):Prop:=H b=none/\b≠X.env.locals/\b∉X.fs/\(b∈X.ex\/X.s₀.heap.objs.size<=b)/\(∀x c,X.env.cells.lookup x=some c->c≠b)/\∀p∈X.pn++pins,p.1≠b
theorem Inv.fpOk {X:Cx}{pins:List (Addr×Obj)}{σ:St}{H H':Hp}{s:aa}{b:Addr}(I:Inv X pins σ H s)(hb:s.heap.objs.size<=b)(hn:H' b=none):FpOk X pins H' b:=by
 refine⟨hn,Nat.ne_of_gt (br I.lt hb),I.nofs hb,.inr (ck I.sz hb),fun x c e z=>?_,fun p hp z=>?_⟩
 ·obtain⟨v,q⟩:=I.cell x c e;exact absurd (br q.lt (by rw[z];exact hb)) (b6 _)
 ·exact absurd (br (bg (I.pin p hp).1) (by rw[z];exact hb)) (b6 _)
structure Turn (P:bc)(w:World)(K:W.Frag)(tg:Expr)(J:It)(fp:List Addr)(it:Addr)(tn:Nat->Heap->Prop):Prop where
 mem:it∈fp
 obj:∀i h,tn i h->∀b∈fp,∃o,h.get? b=some o/\∀v,o.data≠.cell v
 keep:∀i h h',tn i h->(∀b∈fp,∀o,h.get? b=some o->h'.get? b=some o)->tn i h'
 item:∀(X:Cx),X.prog=P->X.w=w->X.K=K->X.calm=true->∀(i:Nat) (pins:List (Addr×Obj)) (s:aa) (σ:St) (H:Hp) (E:Value->aa->Prop),Inv X pins σ H s->(∀b∈fp,FpOk X pins H b)->tn i s.heap->J.go i H->wpAny (model P w) X.A (pyNext (.ref it)) (fun r s1=>∃u,r=some u/\wpAny (model P w) X.A (jh tg (.ref it) u) (fun _ s2=>∃x H',Inv X pins σ H' s2/\RelV x u/\J.yld i H x H'/\tn (i+1) s2.heap/\∀b∈fp,H' b=none) E s1) E s
 done:∀(X:Cx),X.prog=P->X.w=w->X.K=K->X.calm=true->∀(i:Nat) (pins:List (Addr×Obj)) (s:aa) (σ:St) (H:Hp) (E:Value->aa->Prop),Inv X pins σ H s->(∀b∈fp,FpOk X pins H b)->tn i s.heap->J.stop i H->wpAny (model P w) X.A (pyNext (.ref it)) (fun r s1=>r=none/\Inv X pins σ H s1) E s
 self:∀(A:bz) (i:Nat) (s:aa) (Q:Value->aa->Prop) (E:Value->aa->Prop),tn i s.heap->Q (.ref it) s->wpAny (model P w) A (t7 (.ref it)) Q E s
abbrev TI:=St->Hp->(It->Hp->Prop)->Prop
def PIE (X:Cx)(pins:List (Addr×Obj))(σ:St)(tg:Expr)(R:It->Hp->Prop)(itv:Value)(s2:aa):Prop:=∃(it:Addr) (fp:List Addr) (tn:Nat->Heap->Prop) (J:It) (H':Hp),itv=.ref it/\Inv X pins σ H' s2/\Turn X.prog X.w X.K tg J fp it tn/\tn 0 s2.heap/\(∀b∈fp,FpOk X pins H' b)/\R J H'
def PI (X:Cx)(tg iter:Expr)(wi:TI):Prop:=∀(pins:List (Addr×Obj)) (s:aa) (σ:St) (H:Hp) (R:It->Hp->Prop),Inv X pins σ H s->wi σ H R->wpAny (model X.prog X.w) X.A (eval iter X.env) (fun v s1=>wpAny (model X.prog X.w) X.A (t7 v) (PIE X pins σ tg R) X.xe s1) X.xe s
theorem zb7 {M:Model}{A:bz}{E:Value->aa->Prop}{s:aa}{tg:Expr}{it:Addr}{u:Value}{o:Obj}{n:String}{vs:Array Value}{Q:Unit->aa->Prop}(ho:s.heap.get? it=some o)(hc:o.cls=.type n)(hd:o.data=.fields vs)
  (hn:["enumerate","zip","dict_itemiterator","dict_reverseitemiterator","odict_iterator","itertools.zip_longest","itertools.pairwise"].contains n=false) (hQ:Q () s):wpAny M A (jh tg (.ref it) u) Q E s:=by
 unfold jh
 cases tg<;>first
  |exact a8 hQ
  |(cases u<;>first
   |exact a8 hQ
   |(refine af (t8 ho ?_)
     rw[hc,hd];show wpAny M A (if(["enumerate","zip","dict_itemiterator","dict_reverseitemiterator","odict_iterator","itertools.zip_longest","itertools.pairwise"].contains n&&vs[0]?==some (qh _))=true then _ else _) Q E s;rw[if_neg (by intro h;rw[hn,ot]at h;cases h)];exact a8 hQ))
def Itl (K:W.Frag)(a:Addr):It:=⟨fun i H=>∃xs x,SqL K H a xs/\xs[i]?=some x,fun i H x H'=>H'=H/\∀xs,SqL K H a xs->xs[i]?=some x,fun i H=>∃xs,SqL K H a xs/\xs.length<=i⟩
def Itt (K:W.Frag)(a:Addr):It:=⟨fun i H=>∃xs x,SqT K H a xs/\xs[i]?=some x,fun i H x H'=>H'=H/\∀xs,SqT K H a xs->xs[i]?=some x,fun i H=>∃xs,SqT K H a xs/\xs.length<=i⟩
def Itr (lo:Int)(n:Nat):It:=⟨fun i _=>i<n,fun i H x H'=>H'=H/\x=.int (lo+i),fun i _=>n<=i⟩
theorem zbr {P:bc}{w:World}{K:W.Frag}{tg:Expr}(a it:Addr):Turn P w K tg (Itl K a) [it] it (fun i h=>h.IsListIter it a i) where
 mem:=by simp
 obj:=fun i h st b hb=>by
  have e:b=it:=by simpa using hb
  subst e;obtain⟨o,e,c,d⟩:=st;exact⟨o,e,fun v z=>by rw[d]at z;cases z⟩
 keep:=fun i h h' st k=>st.at fun o e=>k it (by simp) o e
 item:=by intro X hP hw hK hc i pins s σ H E I hf st hg;subst hP hw hK;obtain⟨xs,x,hq,hx⟩:=hg;obtain⟨its,rv,p,hz⟩:=I.list hq;obtain⟨u,hu,ru⟩:=rv.get hx;obtain⟨f0,f1,f2,f3,f4,f5⟩:=hf it (by simp);refine wpAny_pyNext_list_item st p.isList (x:=u) (by simpa using hu) fun h' st' sb=>?_;have I1:Inv X pins σ H {s with heap:=h'}:=I.turned (t':=s.toks) (fun b o hb e=>(sb.2 b hb).trans e) f0 f1 f3 f4 f5;obtain⟨o,e,c,d⟩:=id st';exact⟨u,rfl,zb7 (s:={s with heap:=h'}) e c d (by decide) ⟨x,H,I1,ru,⟨rfl,fun ys hy=>by rw[I.list_inj hy hq];exact hx⟩,st',fun b hb=>(hf b hb).1⟩⟩
 done:=by intro X hP hw hK hc i pins s σ H E I hf st hg;subst hP hw hK;obtain⟨xs,hq,hx⟩:=hg;obtain⟨its,rv,p,hz⟩:=I.list hq;obtain⟨f0,f1,f2,f3,f4,f5⟩:=hf it (by simp);have hl:=rv.length;exact wpAny_pyNext_list_end (I.ok.hd hc) st p.isList (by simp;omega) fun h' eb=>⟨rfl,I.turned (t':=s.toks) (fun b o hb e=>eb b o hb e) f0 f1 f3 f4 f5⟩
 self:=fun _ _ _ _ _ st h=>wpAny_pyIter_listiter st h
theorem zai {P:bc}{w:World}{K:W.Frag}{tg:Expr}(a it:Addr):Turn P w K tg (Itt K a) [it] it (fun i h=>h.IsTupleIter it a i) where
 mem:=by simp
 obj:=fun i h st b hb=>by
  have e:b=it:=by simpa using hb
  subst e;obtain⟨o,e,c,d⟩:=st;exact⟨o,e,fun v z=>by rw[d]at z;cases z⟩
 keep:=fun i h h' st k=>st.at fun o e=>k it (by simp) o e
 item:=by intro X hP hw hK hc i pins s σ H E I hf st hg;subst hP hw hK;obtain⟨xs,x,hq,hx⟩:=hg;obtain⟨its,rv,p,hz⟩:=I.tuple hq;obtain⟨u,hu,ru⟩:=rv.get hx;obtain⟨f0,f1,f2,f3,f4,f5⟩:=hf it (by simp);refine wpAny_pyNext_tuple_item st (show s.heap.IsTuple a its.toArray from p) (x:=u) (by simpa using hu) fun h' st' sb=>?_;have I1:Inv X pins σ H {s with heap:=h'}:=I.turned (t':=s.toks) (fun b o hb e=>(sb.2 b hb).trans e) f0 f1 f3 f4 f5;obtain⟨o,e,c,d⟩:=id st';exact⟨u,rfl,zb7 (s:={s with heap:=h'}) e c d (by decide) ⟨x,H,I1,ru,⟨rfl,fun ys hy=>by rw[I.tuple_inj hy hq];exact hx⟩,st',fun b hb=>(hf b hb).1⟩⟩
 done:=by intro X hP hw hK hc i pins s σ H E I hf st hg;subst hP hw hK;obtain⟨xs,hq,hx⟩:=hg;obtain⟨its,rv,p,hz⟩:=I.tuple hq;obtain⟨f0,f1,f2,f3,f4,f5⟩:=hf it (by simp);have hl:=rv.length;exact wpAny_pyNext_tuple_end (I.ok.hd hc) st (show s.heap.IsTuple a its.toArray from p) (by simp;omega) fun h' eb=>⟨rfl,I.turned (t':=s.toks) (fun b o hb e=>eb b o hb e) f0 f1 f3 f4 f5⟩
 self:=fun _ _ _ _ _ st h=>wpAny_pyIter_tupleiter st h
theorem zar {P:bc}{w:World}{K:W.Frag}{tg:Expr}(it:Addr)(lo:Int)(n:Nat):Turn P w K tg (Itr lo n) [it] it (fun i h=>ou h it (lo+(i:Nat)*1) ((n:Int)-(i:Nat)) 1) where
 mem:=by simp
 obj:=fun i h st b hb=>by
  have e:b=it:=by simpa using hb
  subst e;exact⟨_,st,fun v z=>by have z':Data.fields _=Data.cell v:=z;cases z'⟩
 keep:=fun i h h' st k=>k it (by simp) _ st
 item:=by intro X hP hw hK hc i pins s σ H E I hf st hg;subst hP hw hK;obtain⟨f0,f1,f2,f3,f4,f5⟩:=hf it (by simp);have W:=Walks.range (prog:=X.prog) (w:=X.w) (I.ok.hd hc) it lo 1 n;refine W.item i s _ _ hg st fun v h' tk hv st' kk=>?_;obtain⟨t,rfl⟩:=hv;have I1:Inv X pins σ H {s with heap:=h',toks:=tk}:=I.turned (fun b o hb e=>kk b o (by simpa using hb) e) f0 f1 f3 f4 f5;refine⟨_,rfl,zb7 (s:={s with heap:=h',toks:=tk}) (n:="range_iterator") st' rfl rfl (by decide) ⟨.int (lo+i),H,I1,⟨t,?_⟩,⟨rfl,rfl⟩,st',fun b hb=>(hf b hb).1⟩⟩;rw[Int.mul_one]
 done:=by intro X hP hw hK hc i pins s σ H E I hf st hg;subst hP hw hK;obtain⟨f0,f1,f2,f3,f4,f5⟩:=hf it (by simp);exact m5 (I.ok.hd hc) st (by have:n<=i:=hg;omega) fun h' eb=>⟨rfl,I.turned (t':=s.toks) (fun b o hb e=>eb b o hb e) f0 f1 f3 f4 f5⟩
 self:=fun _ _ _ _ _ st h=>m6 st h
section
variable {X:Cx}{tg:Expr}
theorem z8t {pins:List (Addr×Obj)}{σ:St}{H:Hp}{s:aa}{R:It->Hp->Prop}{E:Value->aa->Prop}{lo hi:Int}{t u v:Tok}{tk:Nat}(I:Inv X pins σ H s)(h1:-(2 ^ 62)<=lo)(h2:lo<2 ^ 62)(h3:-(2 ^ 62)<=hi)(h4:hi<2 ^ 62)
  (q:R (Itr lo (hi-lo).toNat) H):wpAny (model X.prog X.w) X.A (t7 (.ref s.heap.objs.size)) (PIE X pins σ tg R) E {s with heap:=s.heap.push {cls:=.type "range",data:=.fields #[.int lo t,.int hi u,.int 1 v]},toks:=tk}:=by
 refine qi (IsRange.new ..) (small_one h1 h2 h3 h4) ?_;have I1:Inv X pins σ H {s with heap:=s.heap.push {cls:=.type "range",data:=.fields #[.int lo t,.int hi u,.int 1 v]},toks:=tk}:=I.kept fun b o e=>ag _ e;refine⟨(s.heap.push {cls:=.type "range",data:=.fields #[.int lo t,.int hi u,.int 1 v]}).objs.size,[(s.heap.push {cls:=.type "range",data:=.fields #[.int lo t,.int hi u,.int 1 v]}).objs.size],_,_,H,rfl,I1.kept (t':=tk) fun b o e=>ag _ e,zar _ lo (hi-lo).toNat,?_,fun b hb=>?_,q⟩
 ·have e1:lo+((0:Nat):Int)*1=lo:=by simp
  have e2:(((hi-lo).toNat:Nat):Int)-((0:Nat):Int)=ju lo hi 1:=by rw[rangeSize_one];split<;>omega
  show ou _ _ (lo+((0:Nat):Int)*1) ((((hi-lo).toNat:Nat):Int)-((0:Nat):Int)) 1;rw[e1,e2];exact bh _ rfl
 ·have e:b=(s.heap.push {cls:=.type "range",data:=.fields #[.int lo t,.int hi u,.int 1 v]}).objs.size:=by simpa using hb
  subst e;exact I1.fpOk (ah _) (I1.hok.fresh (ah _))
def zvc (ta:TA):TI:=fun σ H R=>ta σ H fun vs H1=>∃j:Int,vs=[.int j]/\-(2 ^ 62)<=j/\j<2 ^ 62/\R (Itr 0 j.toNat) H1
def ztv (ta:TA):TI:=fun σ H R=>ta σ H fun vs H1=>∃i j:Int,vs=[.int i,.int j]/\(-(2 ^ 62)<=i/\i<2 ^ 62/\-(2 ^ 62)<=j/\j<2 ^ 62)/\R (Itr i (j-i).toNat) H1
theorem zcq {a:Expr}{ta:TA}{p pos:Pos}(hg:Gl X "range")(hm:X.mg "range"=none)(ha:PA X [a] ta)(hs:cy [a] X.env=[(false,eval a X.env)]:=by rfl):PI X tg (.Call (.Name "range" p) [a] [] pos) (zvc ta):=by
 intro pins s σ H R I h;refine Call_ (z2n I hg hm t9 (PyProof.Rows.callWith_type1 (thn (ha pos pins s σ H _ I h) fun us s1 ⟨vs,H1,I1,r1,q1⟩=>?_) hs rfl));obtain⟨j,e,q1,q2,q⟩:=q1;subst e;cases r1 with
 |cons r rr=>cases rr;obtain⟨t,rfl⟩:=r;exact call_range_1 (z8t I1 (by omega) (by omega) q1 q2 (by simpa using q))
theorem zd8 {a b:Expr}{ta:TA}{p pos:Pos}(hg:Gl X "range")(hm:X.mg "range"=none)(ha:PA X [a,b] ta)(hs:cy [a,b] X.env=[(false,eval a X.env),(false,eval b X.env)]:=by rfl)(hs2:cy [b] X.env=[(false,eval b X.env)]:=by rfl):
  PI X tg (.Call (.Name "range" p) [a,b] [] pos) (ztv ta):=by
 intro pins s σ H R I h;refine Call_ (z2n I hg hm t9 (PyProof.Rows.callWith_type1 (thn (ha pos pins s σ H _ I h) fun us s1 ⟨vs,H1,I1,r1,q1⟩=>?_) (by rw[hs,hs2]) (by rw[hs2];rfl)));obtain⟨i,j,e,⟨q1,q2,q3,q4⟩,q⟩:=q1;subst e;cases r1 with
 |cons r rr=>
  cases rr with
  |cons r' rr=>cases rr;obtain⟨t,rfl⟩:=r;obtain⟨t',rfl⟩:=r';exact call_range_2 (z8t I1 q1 q2 q3 q4 q)
def tFor (wi:TI)(g:TG)(tb:TS):TS:=fun D σ H=>wi σ H fun J H1=>∃W:Nat->Nat->St->Hp->Prop,(∃m,W 0 m σ H1)/\∀i m σ H,W i m σ H->(J.stop i H/\D.nx σ H)\/(J.go i H/\∃N:St->Hp->Prop,(∀σ' H',N σ' H'->∃m',m'<m/\W (i+1) m' σ' H')/\∀x H',J.yld i H x H'->g x σ H' fun σ2 H2=>tb {D with nx:=N,ct:=N,bk:=D.nx} σ2 H2)
def z7j (fp:List Addr)(h:Heap):List (Addr×Obj):=fp.filterMap fun b=>(h.get? b).map fun o=>(b,o)
theorem z2i {fp:List Addr}{h:Heap}{b:Addr}{o:Obj}(hb:b∈fp)(e:h.get? b=some o):(b,o)∈z7j fp h:=iy.mpr ⟨b,hb,by rw[e];rfl⟩
theorem zcy {fp:List Addr}{h:Heap}{p:Addr×Obj}(hp:p∈z7j fp h):p.1∈fp/\h.get? p.1=some p.2:=by
 obtain⟨b,hb,e⟩:=iy.mp hp;cases q:h.get? b with
 |none=>rw[q]at e;cases e
 |some o=>rw[q]at e;have e':(b,o)=p:=Option.some.inj e;subst e';exact⟨hb,q⟩
theorem Inv.pinned {pins:List (Addr×Obj)}{σ:St}{H:Hp}{s:aa}{fp:List Addr}(I:Inv X pins σ H s)(hf:∀b∈fp,FpOk X pins H b)(ho:∀b∈fp,∃o,s.heap.get? b=some o/\∀v,o.data≠.cell v):Inv X (pins++z7j fp s.heap) σ H s:=I.pins_of fun p hp=>(cx.mp hp).elim (fun z=>I.pin p (bu _ z)) fun z=>by obtain⟨hb,e⟩:=zcy z;obtain⟨f0,f1,f2,_⟩:=hf p.1 hb;obtain⟨o,e',d⟩:=ho p.1 hb;rw[e]at e';cases e';exact⟨e,f0,f1,f2,d⟩
theorem Inv.unpinned {pins pl:List (Addr×Obj)}{σ:St}{H:Hp}{s:aa}(I:Inv X (pins++pl) σ H s):Inv X pins σ H s:=I.pins_of fun p hp=>I.pin p (bu _ (gz _ hp))
theorem zh3 {iter:Expr}{body:List Stmt}{wi:TI}{g:TG}{tb:TS}{pos:Pos}(hp:gv (model X.prog X.w) X.A X.env X.xe)(hc:X.calm=true)(hi:PI X tg iter wi)(hg:PG X tg g)(hb:PSs X body tb)
  (hs:∀x,e9 iter X.env x=pure x:=by intro _;rfl):PS X (.For tg iter body [] pos) (tFor wi g tb):=by
 intro pins s σ H D I h;refine wpAny_For (thn (hi pins s σ H _ I h) fun v s1 h1=>thn h1 fun itv s2 h2=>?_) hs;obtain⟨it,fp,tn,J,H2,e,I2,T,st2,f2,W,⟨m0,w0⟩,turn⟩:=h2;subst e;have stat:∀{H':Hp},(∀b∈fp,H' b=none)->∀b∈fp,FpOk X pins H' b:=fun hn b hb=>⟨hn b hb,(f2 b hb).2⟩;refine codeAny_forLoop_any (fun n s'=>∃i σ' H',Inv X pins σ' H' s'/\tn i s'.heap/\(∀b∈fp,H' b=none)/\W i n σ' H') ?_ m0 ⟨0,σ,H2,I2,st2,fun b hb=>(f2 b hb).1,w0⟩
 rintro n s3 ⟨i,σ3,H3,I3,st3,fr3,w3⟩
 rcases turn i n σ3 H3 w3 with⟨stop,qn⟩|⟨go,N,hN,step⟩
 ·refine jk hp (thn (T.done X rfl rfl rfl hc i pins s3 σ3 H3 X.xe I3 (stat fr3) st3 stop) fun r s4 ⟨hr,I4⟩=>?_);subst hr;exact ky ⟨σ3,H3,I4,qn⟩
 ·refine jk hp (thn (T.item X rfl rfl rfl hc i pins s3 σ3 H3 X.xe I3 (stat fr3) st3 go) fun r s4 ⟨u,hr,h4⟩=>?_);subst hr;refine jk hp (thn h4 fun _ s5 ⟨x,H5,I5,r5,y5,st5,fr5⟩=>?_);have I5':=I5.pinned (stat fr5) (T.obj _ _ st5);refine jk hp (thn (hg _ s5 σ3 H5 x u _ I5' r5 (step x H5 y5)) fun _ s6 ⟨σ6,H6,I6,q6⟩=>?_);refine jk hp (thn (hb _ s6 σ6 H6 _ I6 q6) fun f s7 q7=>?_);have again:∀{σ7:St} {H7:Hp},Inv X (pins++z7j fp s5.heap) σ7 H7 s7->N σ7 H7->∃m,m<n/\∃i σ' H',Inv X pins σ' H' s7/\tn i s7.heap/\(∀b∈fp,H' b=none)/\W i m σ' H':=fun{σ7 H7} I7 n7=>by obtain⟨m',hm,w7⟩:=hN σ7 H7 n7;refine⟨m',hm,i+1,σ7,H7,I7.unpinned,T.keep _ _ _ st5 fun b hb o e=>(I7.pin (b,o) (bu _ (bu _ (z2i hb e)))).1,fun b hb=>?_,w7⟩;obtain⟨o,e,d⟩:=T.obj _ _ st5 b hb;exact(I7.pin (b,o) (bu _ (bu _ (z2i hb e)))).2.1
  cases f with
  |next=>obtain⟨σ7,H7,I7,n7⟩:=q7;exact again I7 n7
  |cont=>obtain⟨σ7,H7,I7,n7⟩:=q7;exact again I7 n7
  |brk=>obtain⟨σ7,H7,I7,q7⟩:=q7;exact⟨σ7,H7,I7.unpinned,q7⟩
  |ret v=>obtain⟨x7,σ7,H7,I7,r7,q7⟩:=q7;exact⟨x7,σ7,H7,I7.unpinned,r7,q7⟩
end
abbrev R2:=V->V->Hp->VK->Prop
def OpR (X:Cx)(f:Value->Value->Sem Value)(r:R2):Prop:=∀(pins:List (Addr×Obj)) (s:aa) (σ:St) (H:Hp) (x y:V) (v u:Value) (Q:VK),Inv X pins σ H s->RelV x v->RelV y u->r x y H Q->wpAny (model X.prog X.w) X.A (f v u) (EP X pins σ Q) X.xe s
def UnR (X:Cx)(f:Value->Sem Value)(r:V->Hp->VK->Prop):Prop:=∀(pins:List (Addr×Obj)) (s:aa) (σ:St) (H:Hp) (x:V) (v:Value) (Q:VK),Inv X pins σ H s->RelV x v->r x H Q->wpAny (model X.prog X.w) X.A (f v) (EP X pins σ Q) X.xe s
def CallR (X:Cx)(f:Value)(r:List V->Hp->VK->Prop):Prop:=∀(pins:List (Addr×Obj)) (s:aa) (σ:St) (H:Hp) (xs:List V) (us:List Value) (Q:VK),Inv X pins σ H s->Vals xs us->r xs H Q->wpAny (model X.prog X.w) X.A (call f us) (EP X pins σ Q) X.xe s
def TruR (X:Cx)(r:V->Hp->(Bool->Hp->Prop)->Prop):Prop:=∀(pins:List (Addr×Obj)) (s:aa) (σ:St) (H:Hp) (x:V) (v:Value) (Q:Bool->Hp->Prop),Inv X pins σ H s->RelV x v->r x H Q->wpAny (model X.prog X.w) X.A (t0 v) (TP X pins σ Q) X.xe s
def tOp (r:R2)(ta tb:TE):TE:=fun σ H Q=>ta σ H fun x H1=>tb σ H1 fun y H2=>r x y H2 Q
def tUn (r:V->Hp->VK->Prop)(ta:TE):TE:=fun σ H Q=>ta σ H fun x H1=>r x H1 Q
def rI (C:Int->Int->Prop)(g:Int->Int->V):R2:=fun x y H Q=>∃i j,x=.int i/\y=.int j/\C i j/\Q (g i j) H
def rI0 (g:Int->Int->V):R2:=fun x y H Q=>∃i j,x=.int i/\y=.int j/\Q (g i j) H
def rU (g:Int->V):V->Hp->VK->Prop:=fun x H Q=>∃i,x=.int i/\Q (g i) H
section
variable {X:Cx}{a b c:Expr}{ta tb tc:TE}{pos:Pos}
theorem binT (ha:PE X a ta)(hb:PE X b tb){pins:List (Addr×Obj)}{s:aa}{σ:St}{H:Hp}{R:V->V->Hp->Prop}(I:Inv X pins σ H s)
  (h:ta σ H fun x H1=>tb σ H1 fun y H2=>R x y H2) {Q:Value->aa->Prop} {f:Value->Value->Sem Value}
  (hf:∀v u s2 x y H2,Inv X pins σ H2 s2->RelV x v->RelV y u->R x y H2->wpAny (model X.prog X.w) X.A (f v u) Q X.xe s2):
  wpAny (model X.prog X.w) X.A (eval a X.env) (fun v s₁=>wpAny (model X.prog X.w) X.A (eval b X.env) (fun u s₂=>wpAny (model X.prog X.w) X.A (f v u) Q X.xe s₂) X.xe s₁) X.xe s:=by
 refine thn (ha pins s σ H _ I h) fun v s1 ⟨x,H1,I1,r1,q1⟩=>?_;refine thn (hb pins s1 σ H1 _ I1 q1) fun u s2 ⟨y,H2,I2,r2,q2⟩=>?_;exact hf v u s2 x y H2 I2 r1 r2 q2
theorem zv7 {op:jc}{r:R2}(ho:OpR X (ge op) r)(ha:PE X a ta)(hb:PE X b tb):PE X (.BinOp a op b pos) (tOp r ta tb):=by intro pins s σ H Q I h;exact wpAny_BinOp (binT ha hb I h fun v u s2 x y H2 I2 rx ry q=>ho pins s2 σ H2 x y v u Q I2 rx ry q)
theorem zt0 {op:UnaryOp}{r:V->Hp->VK->Prop}(ho:UnR X (unaryOp op) r)(ha:PE X a ta):PE X (.UnaryOp op a pos) (tUn r ta):=by intro pins s σ H Q I h;exact UnaryOp_ (thn (ha pins s σ H _ I h) fun v s1 ⟨x,H1,I1,r1,q1⟩=>ho pins s1 σ H1 x v Q I1 r1 q1)
theorem opI {f:Value->Value->Sem Value}{C:Int->Int->Prop}{g:Int->Int->Int}
  (rule:∀(i j:Int) (t u:Tok) (s:aa) (Q:Value->aa->Prop) (E:Value->aa->Prop),C i j->Q (.int (g i j) s.toks) {s with toks:=s.toks+1}->wpAny (model X.prog X.w) X.A (f (.int i t) (.int j u)) Q E s):
  OpR X f (rI C fun i j=>.int (g i j)):=by
 intro pins s σ H x y v u Q I rx ry h;obtain⟨i,j,rfl,rfl,hc,q⟩:=h;obtain⟨t,rfl⟩:=rx;obtain⟨t',rfl⟩:=ry;exact rule i j t t' s _ _ hc ⟨.int (g i j),H,I.tok _,⟨_,rfl⟩,q⟩
theorem opI0 {f:Value->Value->Sem Value}{g:Int->Int->Int}
  (rule:∀(i j:Int) (t u:Tok) (s:aa) (Q:Value->aa->Prop) (E:Value->aa->Prop),Q (.int (g i j) s.toks) {s with toks:=s.toks+1}->wpAny (model X.prog X.w) X.A (f (.int i t) (.int j u)) Q E s):
  OpR X f (rI0 fun i j=>.int (g i j)):=by
 intro pins s σ H x y v u Q I rx ry h;obtain⟨i,j,rfl,rfl,q⟩:=h;obtain⟨t,rfl⟩:=rx;obtain⟨t',rfl⟩:=ry;exact rule i j t t' s _ _ ⟨.int (g i j),H,I.tok _,⟨_,rfl⟩,q⟩
theorem opB0 {f:Value->Value->Sem Value}{g:Int->Int->Bool}
  (rule:∀(i j:Int) (t u:Tok) (s:aa) (Q:Value->aa->Prop) (E:Value->aa->Prop),Q (.bool (g i j)) s->wpAny (model X.prog X.w) X.A (f (.int i t) (.int j u)) Q E s):
  OpR X f (rI0 fun i j=>.bl (g i j)):=by
 intro pins s σ H x y v u Q I rx ry h;obtain⟨i,j,rfl,rfl,q⟩:=h;obtain⟨t,rfl⟩:=rx;obtain⟨t',rfl⟩:=ry;exact rule i j t t' s _ _ ⟨.bl (g i j),H,I,rfl,q⟩
def CPow (i j:Int):Prop:=0<=j/\j<=1000000/\i.natAbs<2 ^ 64
def CMul (i j:Int):Prop:=(-(2 ^ 64)<i/\i<2 ^ 64)\/(-(2 ^ 64)<j/\j<2 ^ 64)
theorem CMul.ok {i j:Int}(h:CMul i j):IntMulOk i j:=by
 rcases h with⟨h1,h2⟩|⟨h1,h2⟩
 ·exact .of_left (intBits_le_64 h1 h2)
 ·exact .of_right (intBits_le_64 h1 h2)
theorem zq9:OpR X (ge .Add) (rI0 fun i j=>.int (i+j)):=opI0 fun _ _ _ _ _ _ _ q=>add_int q
theorem zqx:OpR X (ge .Sub) (rI0 fun i j=>.int (i-j)):=opI0 fun _ _ _ _ _ _ _ q=>sub_int q
theorem zqm:OpR X (ge .Mult) (rI CMul fun i j=>.int (i*j)):=opI fun _ _ _ _ _ _ _ hc q=>mul_int q hc.ok
theorem zpz:OpR X (ge .Mod) (rI (fun _ j=>0<j) fun i j=>.int (i%j)):=opI fun i j _ _ _ _ _ hc q=>by have h1:(0:Int)<j:=hc;exact mod_int' (by omega) (by rw[Int.fmod_eq_emod_of_nonneg i (by omega)];exact q)
theorem zmq:OpR X (ge .Pow) (rI CPow fun i j=>.int (i ^ j.toNat)):=opI fun _ _ _ _ _ _ _ hc q=>pow_int_small hc.1 hc.2.1 hc.2.2 q
theorem unI {f:Value->Sem Value}{g:Int->Int}
  (rule:∀(i:Int) (t:Tok) (s:aa) (Q:Value->aa->Prop) (E:Value->aa->Prop),Q (.int (g i) s.toks) {s with toks:=s.toks+1}->wpAny (model X.prog X.w) X.A (f (.int i t)) Q E s):
  UnR X f (rU fun i=>.int (g i)):=by
 intro pins s σ H x v Q I rx h;obtain⟨i,rfl,q⟩:=h;obtain⟨t,rfl⟩:=rx;exact rule i t s _ _ ⟨.int (g i),H,I.tok _,⟨_,rfl⟩,q⟩
theorem zql:UnR X (unaryOp .USub) (rU fun i=>.int (-i)):=unI fun _ _ _ _ _ q=>neg_int q
end
section
variable {X:Cx}{a b c:Expr}{ta tb tc:TE}{pos:Pos}
theorem zhy {pins:List (Addr×Obj)}{σ:St}{H:Hp}{s:aa}{Q:VK}{k k':Bool}(I:Inv X pins σ H s)(q:Q (.bl k) H)(e:k=k'):EP X pins σ Q (.bool k') s:=by subst e;exact⟨.bl k,H,I,rfl,q⟩
theorem zt4:OpR X (b9 .Lt) (rI0 fun i j=>.bl (decide (i<j))):=opB0 fun _ _ _ _ _ _ _ q=>lt_int q
theorem zvi:OpR X (b9 .LtE) (rI0 fun i j=>.bl (decide (i<=j))):=opB0 fun _ _ _ _ _ _ _ q=>le_int q
theorem zue:OpR X (b9 .Gt) (rI0 fun i j=>.bl (decide (j<i))):=opB0 fun _ _ _ _ _ _ _ q=>gt_int q
theorem zb5:OpR X (b9 .Lt) (fun x y H Q=>∃i j,x=.str i/\y=.str j/\Q (.bl (decide (i.cps.toList<j.cps.toList))) H):=by intro pins s σ H x y v u Q I rx ry h;obtain⟨i,j,rfl,rfl,q⟩:=h;obtain⟨t,rfl⟩:=rx;obtain⟨t',rfl⟩:=ry;exact lt_str (zhy I q rfl)
theorem zdx:OpR X (b9 .In) (fun x y H Q=>∃i j,x=.str i/\y=.str j/\Q (.bl (!(b7 j i 0 j.length 1).isEmpty)) H):=by intro pins s σ H x y v u Q I rx ry h;obtain⟨i,j,rfl,rfl,q⟩:=h;obtain⟨t,rfl⟩:=rx;obtain⟨t',rfl⟩:=ry;exact in_str (zhy I q rfl)
theorem OpR.or {f:Value->Value->Sem Value}{r r':R2}(h:OpR X f r)(h':OpR X f r'):OpR X f (fun x y H Q=>r x y H Q\/r' x y H Q):=by
 intro pins s σ H x y v u Q I rx ry q;rcases q with q|q
 ·exact h pins s σ H x y v u Q I rx ry q
 ·exact h' pins s σ H x y v u Q I rx ry q
theorem zli {op:CmpOp}{r:R2}(ho:OpR X (b9 op) r)(ha:PE X a ta)(hb:PE X b tb)(hm:fz op b=false):PE X (.Compare a [op] [b] pos) (tOp r ta tb):=by intro pins s σ H Q I h;exact wpAny_Compare1 (binT ha hb I h fun v u s2 x y H2 I2 rx ry q=>ho pins s2 σ H2 x y v u Q I2 rx ry q) hm
def zm2 (t:TE):TT:=fun σ H Q=>t σ H fun x H'=>∃k,x=.bl k/\Q k H'
theorem zjd {op:CmpOp}{r:R2}(ho:OpR X (b9 op) r)(ha:PE X a ta)(hb:PE X b tb)(hm:fz op b=false):PT X (.Compare a [op] [b] pos) (zm2 (tOp r ta tb)):=by intro pins s σ H Q I h;refine n8 (thn (ha pins s σ H _ I h) fun v s1 ⟨x,H1,I1,r1,q1⟩=>thn (hb pins s1 σ H1 _ I1 q1) fun u s2 ⟨y,H2,I2,r2,q2⟩=>thn (ho pins s2 σ H2 x y v u _ I2 r1 r2 q2) fun c s3 ⟨z,H3,I3,r3,k,e,q3⟩=>?_) hm;subst e;cases r3;exact dt ⟨H3,I3,q3⟩
def z8y (r r':R2)(ta tb tc:TE):TE:=fun σ H Q=>ta σ H fun x H1=>tb σ H1 fun y H2=>r x y H2 fun z H3=>∃k,z=.bl k/\(if k=true then tc σ H3 fun w' H4=>r' y w' H4 Q else Q (.bl false) H3)
theorem zf5 {op op':CmpOp}{r r':R2}(ho:OpR X (b9 op) r)(ho':OpR X (b9 op') r')(ha:PE X a ta)(hb:PE X b tb)(hc:PE X c tc)
  (hm:mq [op,op'] [b,c]=false:=by with_unfolding_all rfl):PE X (.Compare a [op,op'] [b,c] pos) (z8y r r' ta tb tc):=by
 intro pins s σ H Q I h;refine Compare_chain (thn (ha pins s σ H _ I h) fun v s1 ⟨x,H1,I1,r1,q1⟩=>chain_link (thn (hb pins s1 σ H1 _ I1 q1) fun u s2 ⟨y,H2,I2,r2,q2⟩=>thn (ho pins s2 σ H2 x y v u _ I2 r1 r2 q2) fun d s3 ⟨z,H3,I3,r3,k,e,q3⟩=>?_)) hm;subst e;cases r3;refine dt ?_;cases k with
 |false=>exact ite_ff ⟨.bl false,H3,I3,rfl,q3⟩
 |true=>exact ite_tt (chain_last (thn (hc pins s3 σ H3 _ I3 q3) fun w' s4 ⟨z',H4,I4,r4,q4⟩=>ho' pins s4 σ H4 y z' u w' Q I4 r2 r4 q4))
theorem zga {op op':CmpOp}{r r':R2}(ho:OpR X (b9 op) r)(ho':OpR X (b9 op') r')(ha:PE X a ta)(hb:PE X b tb)(hc:PE X c tc)
  (hm:mq [op,op'] [b,c]=false:=by with_unfolding_all rfl):PT X (.Compare a [op,op'] [b,c] pos) (zm2 (z8y r r' ta tb tc)):=by
 intro pins s σ H Q I h;refine isTrue_chain (thn (ha pins s σ H _ I h) fun v s1 ⟨x,H1,I1,r1,q1⟩=>test_link (thn (hb pins s1 σ H1 _ I1 q1) fun u s2 ⟨y,H2,I2,r2,q2⟩=>thn (ho pins s2 σ H2 x y v u _ I2 r1 r2 q2) fun d s3 ⟨z,H3,I3,r3,k,e,q3⟩=>?_)) hm;subst e;cases r3;refine dt ?_;cases k with
 |false=>obtain⟨k',e',q'⟩:=q3;cases e';exact ite_ff ⟨H3,I3,q'⟩
 |true=>refine ite_tt (test_last (thn (hc pins s3 σ H3 _ I3 q3) fun w' s4 ⟨z',H4,I4,r4,q4⟩=>thn (ho' pins s4 σ H4 y z' u w' _ I4 r2 r4 q4) fun d' s5 ⟨z2,H5,I5,r5,k2,e2,q5⟩=>?_));subst e2;cases r5;exact dt ⟨H5,I5,q5⟩
def TruV (K:W.Frag)(x:V)(H:Hp)(k:Bool):Prop:=
 match x with
 |.non=>k=false
 |.bl b=>k=b
 |.int i=>k=(i != 0)
 |.str y=>y.length<=bf/\k=((y.length:Int) != 0)
 |.ref p=>(∃xs,SqL K H p xs/\k=!xs.isEmpty)\/(∃xs,SqT K H p xs/\k=!xs.isEmpty)\/∃kvs,H p=some (.dK kvs)/\k=!kvs.isEmpty
 |_=>False
theorem zaa {κ:Type}{kvs:List (κ×V)}{vs:List (κ×Value)}(r:KV kvs vs):(!vs.isEmpty)=!kvs.isEmpty:=by cases r<;>rfl
theorem z5l {xs:List V}{its:List Value}(r:Vals xs its):(!its.toArray.isEmpty)=!xs.isEmpty:=by cases r<;>simp
theorem z4l:(bf:Nat)<2 ^ 63:=by rw[cq];decide
theorem zh8:TruR X (fun x H Q=>∃k,TruV X.K x H k/\Q k H):=by
 intro pins s σ H x v Q I rx h;obtain⟨k,e,q⟩:=h;have hl:=z4l;have hs:bf=16777216:=cq;cases x with
 |non=>cases rx;have e':k=false:=e;subst e';exact truthy_none ⟨H,I,q⟩
 |bl b=>cases rx;have e':k=b:=e;subst e';exact dt ⟨H,I,q⟩
 |int i=>obtain⟨t,rfl⟩:=rx;have e':k=(i != 0):=e;subst e';exact PySem.P.truthy_int ⟨H,I,q⟩
 |str y=>obtain⟨t,rfl⟩:=rx;obtain⟨hy,e'⟩:y.length<=bf/\k=((y.length:Int) != 0):=e;subst e';exact PySem.P.truthy_str (by omega) ⟨H,I.tok _,q⟩
 |ref p=>
  cases rx;have e':(∃xs,SqL X.K H p xs/\k=!xs.isEmpty)\/(∃xs,SqT X.K H p xs/\k=!xs.isEmpty)\/∃kvs,H p=some (.dK kvs)/\k=!kvs.isEmpty:=e;rcases e' with⟨xs,hx,e'⟩|⟨xs,hx,e'⟩|⟨kvs,hx,e'⟩
  ·subst e';obtain⟨its,r,pl,hz⟩:=I.list hx;have hlen:=r.length;exact wpAny_truthy_list pl.isList (by simp only[aq];omega) ⟨H,I.tok _,by rw[z5l r];exact q⟩
  ·subst e';obtain⟨its,r,pl,hz⟩:=I.tuple hx;have hlen:=r.length;exact truthy_tuple pl (by simp only[aq];omega) ⟨H,I.tok _,by rw[z5l r];exact q⟩
  ·subst e';obtain⟨hz,hS,vs,r,m⟩:kvs.length<=bf/\(p==kg)=false/\∃vs,KV kvs vs/\s.heap.DictOf (z17 X.prog X.w) p vs:=I.hok p _ hx;have hlen:kvs.length=vs.length:=Paired.length r;exact wpAny_truthy_dict hS m (by omega) ⟨H,I.tok _,by rw[zaa r];exact q⟩
 |_=>exact(show False from e).elim
theorem zel (ha:PE X a ta)(he:∀whole,oo a X.env whole=(do let v <-whole;tu a.pos;pf [v] (t0 v))):
  PT X a (fun σ H Q=>ta σ H fun x H'=>∃k,TruV X.K x H' k/\Q k H'):=by
 intro pins s σ H Q I h;exact isTrue_plain (thn (ha pins s σ H _ I h) fun v s1 ⟨x,H1,I1,r1,q1⟩=>zh8 pins s1 σ H1 x v Q I1 r1 q1) (he _)
theorem zab:OpR X (ge .Add) (fun x y H Q=>∃i j,x=.str i/\y=.str j/\i.length+j.length<=bf/\Q (.str (i++j)) H):=by intro pins s σ H x y v u Q I rx ry h;obtain⟨i,j,rfl,rfl,hz,q⟩:=h;obtain⟨t,rfl⟩:=rx;obtain⟨t',rfl⟩:=ry;exact add_str (fun t' tk=>⟨.str (i++j),H,I.tok _,⟨_,rfl⟩,q⟩) hz
theorem vals1 {x:V}{us:List Value}(r:Vals [x] us):∃u,us=[u]/\RelV x u:=by
 cases r with
 |cons r1 r2=>cases r2;exact⟨_,rfl,r1⟩
theorem vals2 {x y:V}{us:List Value}(r:Vals [x,y] us):∃u w',us=[u,w']/\RelV x u/\RelV y w':=by
 cases r with
 |cons r1 r2=>
  cases r2 with
  |cons r3 r4=>cases r4;exact⟨_,_,rfl,r1,r3⟩
theorem zcr (hc:X.calm=true):CallR X (.builtin "max") (fun xs H Q=>∃i j,xs=[.int i,.int j]/\Q (.int (if j>i then j else i)) H):=by
 intro pins s σ H xs us Q I r h;obtain⟨i,j,rfl,q⟩:=h;obtain⟨u,w',rfl,⟨t,rfl⟩,⟨t',rfl⟩⟩:=vals2 r;refine max_two_ints (I.ok.hd hc) fun h' tk k=>⟨_,H,I.kept k,?_,q⟩;by_cases hj:j>i
 ·rw[if_pos hj,if_pos hj];exact⟨_,rfl⟩
 ·rw[if_neg hj,if_neg hj];exact⟨_,rfl⟩
theorem zea (hc:X.calm=true):CallR X (.builtin "min") (fun xs H Q=>∃i j,xs=[.int i,.int j]/\Q (.int (if j<i then j else i)) H):=by
 intro pins s σ H xs us Q I r h;obtain⟨i,j,rfl,q⟩:=h;obtain⟨u,w',rfl,⟨t,rfl⟩,⟨t',rfl⟩⟩:=vals2 r;refine min_two_ints (I.ok.hd hc) fun h' tk k=>⟨_,H,I.kept k,?_,q⟩;by_cases hj:j<i
 ·rw[if_pos hj,if_pos hj];exact⟨_,rfl⟩
 ·rw[if_neg hj,if_neg hj];exact⟨_,rfl⟩
theorem zd2:CallR X (.type "int") (fun xs H Q=>(∃i,xs=[.int i]/\Q (.int i) H)\/∃k,xs=[.bl k]/\Q (.int (if k then 1 else 0)) H):=by
 intro pins s σ H xs us Q I r h;rcases h with⟨i,rfl,q⟩|⟨k,rfl,q⟩
 ·obtain⟨u,rfl,t,rfl⟩:=vals1 r;exact call_int_int ⟨.int i,H,I,⟨_,rfl⟩,q⟩
 ·obtain⟨u,rfl,r1⟩:=vals1 r;cases r1;exact call_int_bool ⟨.int (if k then 1 else 0),H,I.tok _,⟨_,rfl⟩,q⟩
theorem z6j:CallR X (.type "str") (fun xs H Q=>∃i,xs=[.int i]/\i.natAbs.log2<1920/\Q (.str (toString i)) H):=by intro pins s σ H xs us Q I r h;obtain⟨i,rfl,hz,q⟩:=h;obtain⟨u,rfl,t,rfl⟩:=vals1 r;exact PySem.P.str_of_int hz ⟨.str _,H,I.tok _,⟨_,rfl⟩,q⟩
end
structure ObjM (h:Heap)(x dx C:Addr)(mA:Str->Option Value):Prop where
 obj:h.get? x=some (W.instObj C dx)
 ns:h.Ns1 dx mA
 ne:dx≠x
theorem zcc {h:Heap}{dx:Addr}{mA:Str->Option Value}(n:h.Ns1 dx mA):∃od,h.get? dx=some od/\∀name,W.lookIn name od=some (mA name):=by
 obtain⟨o,es,ep,ho,hd,hk,_,hm⟩:=n;refine⟨o,ho,fun name=>?_⟩;have e:=hm name;unfold nsFind findBy at e;rw[<-Array.find?_toList]at e;unfold W.lookIn;rw[hd]
 dsimp only
 split
 ·rename_i y q;rw[q]at e;exact congrArg some e
 ·rename_i q;rw[q]at e;have a:es.toList.any (·.refKey)=false:=by rw[List.any_eq_false];intro y hy;obtain⟨z,t,hkey⟩:=hk y (Array.mem_toList_iff.mp hy);simp[DictEntry.refKey,hkey]
  have a':¬es.toList.any (·.refKey)=true:=by rw[a];exact bj
  rw[if_neg a'];exact congrArg some e
theorem ObjM.look {h:Heap}{x dx C:Addr}{mA:Str->Option Value}(I:ObjM h x dx C mA):∃od,W.InstAt h x (W.instObj C dx) C (some od)/\∀name,W.lookIn name od=some (mA name):=
 let⟨od,ho,hl⟩:=zcc I.ns
 ⟨od,⟨I.obj,rfl,rfl,ho⟩,hl⟩
section
variable {prog:bc}{w:World}{A:bz}{E:Value->aa->Prop}{s:aa}{K:W.Frag}{x dx C f:Addr}{mA:Str->Option Value}{name:Str}{v:Value}
end
theorem RelO.some_of {v:V}{o:Option Value}(r:RelO (some v) o):∃u,o=some u/\RelV v u:=by
 cases o with
 |none=>exact(show False from r).elim
 |some u=>exact⟨u,rfl,r⟩
theorem RelO.none_of {o:Option Value}(r:RelO none o):o=none:=by
 cases o with
 |none=>rfl
 |some u=>exact(show False from r).elim
section
variable {P:bc}{w:World}{H H':Hp}{h h':Heap}{a C dx:Addr}{fs fs':List (Str×V)}
end
structure Cls (K:W.Frag)(C:Addr):Prop where
 pg:W.plainGet K C Str.empty=true
 hd:W.hasDictIn K C=true
 po:W.plainOver K C=true
 sa:W.findIn K (.ref C) "__setattr__"=some (some (.builtin "object.__setattr__"))
theorem Cls.get {K:W.Frag}{C:Addr}(c:Cls K C)(f:Str):W.plainGet K C f=true:=c.pg
section
variable {X:Cx}{pins:List (Addr×Obj)}{σ:St}{H:Hp}{s:aa}{a C dx:Addr}{fs:List (Str×V)}{f:Str}{v:V}{A:bz}{E:Value->aa->Prop}
end
section
variable {X:Cx}{o e value:Expr}{f:Str}{pos pos' tpos:Pos}{ta tv:TE}
end
section
variable {X:Cx}{pins:List (Addr×Obj)}{σ:St}{H:Hp}{s:aa}{A:bz}{E:Value->aa->Prop}{Q:Value->aa->Prop}{c:Value}{b:Bool}
inductive TyOf (K:W.Frag)(H:Hp):V->Value->Prop where
 |non:TyOf K H .non (.type "NoneType")
 |bl (x:Bool):TyOf K H (.bl x) (.type "bool")
 |int (i:Int):TyOf K H (.int i) (.type "int")
 |str (x:Str):TyOf K H (.str x) (.type "str")
 |lst {a:Addr} {xs:List V} (e:H a=some (.lst xs)):TyOf K H (.ref a) (.type "list")
 |frz {a:Addr} {o:Obj} {xs:List V} (e:H a=some (.frz o (.lst xs))):TyOf K H (.ref a) (.type "list")
 |tup {a:Addr} {xs:List V} (e:H a=some (.tup xs)):TyOf K H (.ref a) (.type "tuple")
 |dK {a:Addr} {kvs:List (Key×V)} (e:H a=some (.dK kvs)):TyOf K H (.ref a) (.type "dict")
theorem z29 {x:V}{u t:Value}(I:Inv X pins σ H s)(rx:RelV x u)(ty:TyOf X.K H x t)(e:W.kitOne X.K t c=some b)(h:∀tk,Q (.bool b) {s with toks:=tk}):
  wpAny (model X.prog X.w) A (call (.builtin "isinstance") [u,c]) Q E s:=by
 cases ty with
 |non=>cases(show u=Value.none from rx);exact W.kia_one W.kitx_none I.kIn True.intro e (fun z=>nomatch z) h
 |bl y=>cases(show u=Value.bool y from rx);exact W.kia_one W.kitx_bool I.kIn True.intro e (fun z=>nomatch z) h
 |int i=>obtain⟨t,q⟩:=(show ∃t,u=Value.int i t from rx);cases q;exact W.kia_one W.kitx_int I.kIn True.intro e (fun z=>nomatch z) h
 |str y=>obtain⟨t,q⟩:=(show ∃t,u=Value.str y t from rx);cases q;exact W.kia_one W.kitx_str I.kIn True.intro e (fun z=>nomatch z) h
 | @lst a xs ea=>cases(show u=Value.ref a from rx);obtain⟨_,_,n,_,h1⟩:=(show z12 X.prog X.w H s.heap a (.lst xs)from I.hok a _ ea);exact W.kia_one W.kitx_list I.kIn ⟨_,h1,rfl⟩ e (fun z=>nomatch z) h
 | @frz a ob xs ea=>cases(show u=Value.ref a from rx);obtain⟨_,_,_,n,_,h1⟩:=(show z12 X.prog X.w H s.heap a (.frz ob (.lst xs))from I.hok a _ ea);exact W.kia_one W.kitx_list I.kIn ⟨_,h1,rfl⟩ e (fun z=>nomatch z) h
 | @tup a xs ea=>cases(show u=Value.ref a from rx);obtain⟨_,_,_,p⟩:=(show z12 X.prog X.w H s.heap a (.tup xs)from I.hok a _ ea);obtain⟨o,h1,h2,_⟩:=p.tup;exact W.kia_one W.kitx_tuple I.kIn ⟨o,h1,h2⟩ e (fun z=>nomatch z) h
 | @dK a kvs ea=>cases(show u=Value.ref a from rx);obtain⟨_,_,vs,_,p⟩:=(show z12 X.prog X.w H s.heap a (.dK kvs)from I.hok a _ ea);obtain⟨o,es,ep,h1,h2,_⟩:=p;exact W.kia_one W.kitx_dict I.kIn ⟨o,h1,h2.1⟩ e (fun z=>nomatch z) h
end
structure Room (k:Nat)(A:bz):Prop where
 hd:A.handled=none
 dp:A.depth+3*k+5<recursionLimit
 un:A.units+16*k+200<cLine
theorem Room.mono {j k:Nat}{A:bz}(r:Room k A)(h:j<=k):Room j A:=⟨r.hd,by have:=r.dp;omega,by have:=r.un;omega⟩
theorem Room.deeper {k:Nat}{A:bz}(r:Room (k+1) A)(env:Env):Room k (A.deeper env):=⟨r.hd,by have:=r.dp;show A.depth+1+3*k+5<_;omega,by have:=r.un;show A.units+3+16*k+200<_;omega⟩
theorem Room.in1 {k:Nat}{A:bz}(r:Room (k+1) A):Room k A.in1:=⟨r.hd,by have:=r.dp;show A.depth+3*k+5<_;omega,by have:=r.un;show A.units+1+16*k+200<_;omega⟩
theorem Room.depth {k:Nat}{A:bz}(r:Room k A):A.depth<recursionLimit:=by have:=r.dp;omega
theorem Room.units {k:Nat}{A:bz}(r:Room k A):A.units+64<cLine:=by have:=r.un;omega
def tNil:TA:=fun _ H Q=>Q [] H
def zm6 (ta:TE)(tr:TA):TA:=fun σ H Q=>ta σ H fun x H1=>tr σ H1 fun xs H2=>Q (x::xs) H2
section
variable {X:Cx}{e:Expr}{es:List Expr}{te:TE}{t:TA}{pos:Pos}
theorem z3v:PA X [] tNil:=fun _ _ _ _ H Q I h=>Calls.spliced_nil ⟨[],H,I,.nil,h⟩
theorem z4m (ha:PE X e te)(hr:PA X es t)(hs:cy (e::es) X.env=(false,eval e X.env)::cy es X.env:=by rfl):PA X (e::es) (zm6 te t):=by intro pos pins s σ H Q I h;rw[hs];show wpAny _ _ (spliced ((false,eval e X.env)::j7 pos (cy es X.env))) _ _ s;refine lj (thn (ha pins s σ H _ I h) fun u s1 ⟨x,H1,I1,r1,q1⟩=>?_);exact thn (hr pos pins s1 σ H1 _ I1 q1) fun us s2 ⟨xs,H2,I2,r2,q2⟩=>⟨x::xs,H2,I2,.cons r1 r2,q2⟩
def tTup (t:TA):TE:=fun σ H Q=>t σ H fun xs H1=>xs.length<=bf/\∀p,H1 p=none->Q (.ref p) (upd H1 p (.tup xs))
def tLst (t:TA):TE:=fun σ H Q=>t σ H fun xs H1=>xs.length<=bf/\∀p,H1 p=none->Q (.ref p) (upd H1 p (.lst xs))
theorem znj {x1}(h:PA X es t):PE X (.Tuple es x1 pos) (tTup t):=by intro pins s σ H Q I hq;refine wpAny_Tuple_spliced (thn (h pos pins s σ H _ I hq) fun us s1 ⟨xs,H1,I1,r,z,q⟩=>⟨by rw[<-r.length];exact z,?_⟩);have hf:H1 s1.heap.objs.size=none:=I1.hok.fresh (ah _);refine⟨.ref s1.heap.objs.size,upd H1 s1.heap.objs.size (.tup xs),I1.laid (t':=s1.toks) (fun b u e=>ag _ e) (ah _) ?_,rfl,q _ hf⟩;exact⟨z,us,r,⟨_,bh _ rfl⟩⟩
theorem zmr (h:PA X es t):PE X (.List es pos) (tLst t):=by intro pins s σ H Q I hq;refine wpAny_List_spliced (thn (h pos pins s σ H _ I hq) fun us s1 ⟨xs,H1,I1,r,z,q⟩=>⟨by rw[<-r.length];exact z,?_⟩);have hf:H1 s1.heap.objs.size=none:=I1.hok.fresh (ah _);refine⟨.ref s1.heap.objs.size,upd H1 s1.heap.objs.size (.lst xs),I1.laid (t':=s1.toks) (fun b u e=>ag _ e) (ah _) ?_,rfl,q _ hf⟩;exact⟨z,us,0,r,bh _ rfl⟩
end
abbrev Sp:=List V->Hp->VK->XK->Prop
abbrev CXT:=List Env->Hp->aa->XK->Value->aa->Prop
structure Env0 (P:bc)(w:World)(K:W.Frag)(mg:Str->Option Value)(base:Heap)(A:bz)(outer:List Env)(s:aa)(H:Hp):Prop where
 frames:A.frames=some outer
 mod:Mod K mg base
 bs:∀b o,base.get? b=some o->s.heap.get? b=some o/\H b=none
 bsz:base.objs.size<=s.heap.objs.size
 funs:s.heap.FunFrames base outer
 frf:∀b∈frs outer,H b=none
 hok:HOk P w H s.heap
 bare:lb s.gens
def CE (outer:List Env)(P:bc)(w:World)(H:Hp)(s:aa)(Q:VK)(u:Value)(s':aa):Prop:=∃v H',s'.os=s.os/\lb s'.gens/\Un (frs outer) [] H H' s.heap s'.heap/\HOk P w H' s'.heap/\RelV v u/\Q v H'
def CR (CX:CXT)(outer:List Env)(P:bc)(w:World)(H:Hp)(s:aa)(Q:VK)(E:XK)(r:uh)(s':aa):Prop:=
 match r with
 |.ok (.ret u)=>CE outer P w H s Q u s'
 |.ok _=>False
 |.error e=>CX outer H s E e s'
structure FnOk (P:bc)(w:World)(K:W.Frag)(mg:Str->Option Value)(base:Heap)(CX:CXT)(k:Nat)(f:Addr)(fd:fg)(ps:List Str)(sp:Sp):Prop where
 len:∀vs H Q E,sp vs H Q E->vs.length=ps.length
 run:∀(A:bz) (outer:List Env) (s:aa) (H:Hp) (args:Args) (us:List Value) (vs:List V) (Q:VK) (E:XK),Room k A->Env0 P w K mg base A outer s H->ph s fd args (ps.zip us)->Vals vs us->sp vs H Q E->l7 (model P w) A (.call (.ref f) args) (CR CX outer P w H s Q E) s
theorem FnOk.mono {P:bc}{w:World}{K:W.Frag}{mg:Str->Option Value}{base:Heap}{CX:CXT}{j k:Nat}{f:Addr}{fd:fg}{ps:List Str}{sp:Sp}(F:FnOk P w K mg base CX j f fd ps sp)(h:j<=k): FnOk P w K mg base CX k f fd ps sp:=⟨F.len,fun A outer s H args us vs Q E hr=>F.run A outer s H args us vs Q E (hr.mono h)⟩
theorem FnOk.imp {P:bc}{w:World}{K:W.Frag}{mg:Str->Option Value}{base:Heap}{CX:CXT}{k:Nat}{f:Addr}{fd:fg}{ps:List Str}{sp sp':Sp}(F:FnOk P w K mg base CX k f fd ps sp)
  (h:∀vs H Q E,sp' vs H Q E->sp vs H Q E):FnOk P w K mg base CX k f fd ps sp':=
 ⟨fun vs H Q E q=>F.len vs H Q E (h _ _ _ _ q),fun A outer s H args us vs Q E hr he hb hv hs=>F.run A outer s H args us vs Q E hr he hb hv (h _ _ _ _ hs)⟩
theorem Env0.in1 {P:bc}{w:World}{K:W.Frag}{mg:Str->Option Value}{base:Heap}{A:bz}{outer:List Env}{s:aa}{H:Hp}(e:Env0 P w K mg base A outer s H): Env0 P w K mg base A.in1 outer s H:=⟨e.frames,e.mod,e.bs,e.bsz,e.funs,e.frf,e.hok,e.bare⟩
section
variable {X:Cx}{pins:List (Addr×Obj)}{σ:St}{H:Hp}{s s':aa}
theorem Inv.env0 (I:Inv X pins σ H s):Env0 X.prog X.w X.K X.mg X.base X.A X.stack s H:=⟨I.ok.frames,I.ok.mod,I.bs,ck I.ok.bsz I.sz,I.stack,I.stkFree,I.hok,I.bare⟩
theorem Inv.after {Q:VK}{u:Value}(I:Inv X pins σ H s)(h:CE X.stack X.prog X.w H s Q u s'):EP X pins σ Q u s':=by obtain⟨v,H',os,bare,un,hok,r,q⟩:=h;obtain⟨hh,g,d,t,os'⟩:=s';obtain rfl:os'=s.os:=os;exact⟨v,H',I.call (h':=hh) (g':=g) (d':=d) (t':=t) (ch:=[]) un hok bare (fun b z=>absurd z (by simp)),r,q⟩
end
def zr3 (sp:Sp)(dvs:List V)(E:XK)(t:TA):TE:=fun σ H Q=>t σ H fun vs H1=>sp (vs++dvs) H1 Q E
def Binds (K:W.Frag)(fd:fg)(ps:List Str)(ds:List Value):Prop:=∀(s:aa) (us:List Value),K.In s.heap->(us++ds).length=ps.length->ph s fd ⟨us,[]⟩ (ps.zip (us++ds))
theorem Binds.all {K:W.Frag}{fd:fg}{ps:List Str}(h:∀us:List Value,us.length=ps.length->ua fd ⟨us,[]⟩=pure (ps.zip us)):Binds K fd ps []:=fun s us _ hl=>by rw[dn]at hl ⊢;exact .of_eq (h us hl)
def zcj (CX:CXT)(X:Cx)(E:XK):Prop:=∀(pins:List (Addr×Obj)) (σ:St) (H:Hp) (s:aa) (e:Value) (s':aa),Inv X pins σ H s->CX X.stack H s E e s'->X.xe e s'
section
variable {X:Cx}{CX:CXT}{k:Nat}{f C:Addr}{fd:fg}{ps:List Str}{sp:Sp}{dvs:List V}{ds:List Value}{E:XK}{x m:Str}{p pos apos:Pos}{e o:Expr}{es:List Expr}{ta:TE}{t:TA}
theorem zqn {pins:List (Addr×Obj)}{σ:St}{H:Hp}{s:aa}{Q:VK}{us:List Value}{vs:List V}(F:FnOk X.prog X.w X.K X.mg X.base CX k f fd ps sp)(hr:Room k X.A)(hb:Binds X.K fd ps ds)(hd:Vals dvs ds)(hx:zcj CX X E)
  (I:Inv X pins σ H s) (r:Vals vs us) (h:sp (vs++dvs) H Q E):wpAny (model X.prog X.w) X.A (call (.ref f) us) (EP X pins σ Q) X.xe s:=by
 have r2:Vals (vs++dvs) (us++ds):=r.append hd;have hl:(us++ds).length=ps.length:=by rw[<-r2.length];exact F.len _ _ _ _ h
 refine wpAny_call (m7 (F.run X.A X.stack s H ⟨us,[]⟩ (us++ds) (vs++dvs) Q E hr I.env0 (hb s us I.kIn hl) r2 h) fun r s' hq=>?_);cases r with
 |error e=>exact hx pins σ H s e s' I hq
 |ok fl=>
  cases fl with
  |ret u=>exact I.after hq
  |next=>exact False.elim hq
  |brk=>exact False.elim hq
  |cont=>exact False.elim hq
theorem zj5 (F:FnOk X.prog X.w X.K X.mg X.base CX k f fd ps sp)(hr:Room k X.A)(hg:Gl X x)(hm:X.mg x=some (.ref f))(hk:W.keepIn X.K (.ref f)=true)(hb:Binds X.K fd ps ds)(hd:Vals dvs ds)(hx:zcj CX X E)
  (ha:PA X (e::es) t) (hdb:(x==("__debug__":Str))=false:=by decide) (he:cy (e::es) X.env=(false,eval e X.env)::cy es X.env:=by rfl) (hpl:(j7 pos (cy es X.env)).any (·.1)=false:=by rfl):
  PE X (.Call (.Name x p) (e::es) [] pos) (zr3 sp dvs E t):=by
 intro pins s σ H Q I h;refine gj (z3i I hg hm ?_ hdb);refine W.callWith_K (h₀:=X.base) I.ok.mod.kin hk (thn (ha pos pins s σ H _ I h) fun us s1 ⟨vs,H1,I1,r,q⟩=>⟨I1.kIn,?_⟩) he hpl;exact zqn F hr hb hd hx I1 r q
structure Mk (K:W.Frag)(C f:Addr):Prop where
 makes:W.makesIn K C=true
 init:W.findIn K (.ref C) "__init__"=some (some (.ref f))
 fn:W.isFn K (.ref f)=true
 kp:W.keepIn K (.ref C)=true
end
def PK (X:Cx)(kws:List m8)(t:TA):Prop:=∀(pos:Pos) (pins:List (Addr×Obj)) (s:aa) (σ:St) (H:Hp) (Q:List V->Hp->Prop),Inv X pins σ H s->t σ H Q->wpAny (model X.prog X.w) X.A (evalAll ((backToKw pos (sv kws X.env)).map (·.2))) (AP X pins σ Q) X.xe s
section
variable {X:Cx}{CX:CXT}{k:Nat}{f C:Addr}{fd:fg}{ps ks:List Str}{sp:Sp}{E:XK}{x m:Str}{p pos apos kpos:Pos}{e o:Expr}{es:List Expr}{kws:List m8}{te ta:TE}{t tk:TA}{nm:Option Str}
variable {g:List Value->List Value->List Value}{gV:List V->List V->List V}
end
structure FnScope (N P:List Str)(sc:Scope):Prop where
 kind:sc.kind=.function
 co:sc.isCoroutine=false
 gen:sc.isGenerator=false
 nd:N.Nodup
 pre:N.take P.length=P
 par:∀x∈P,sc.names.lookup x=some .local\/sc.names.lookup x=some .cell
 nofree:∀y∈sc.names,y.2≠.free
theorem z7u {kn:Str->Option fi}{x:Str}:∀{binds:List (Str×Value)} {m:Str->Option Value},(∀v,(x,v)∉binds)->bindL kn binds m x=m x
 | [],_,_=>rfl
 |(n,v)::r,m,h=>by
  unfold bindL;rw[z7u fun w hw=>h w (aw _ hw)];split
  ·have :x≠n:=by rintro rfl;exact h v au
   simp[this]
  ·rfl
theorem z6n {kn:Str->Option fi}{x:Str}:∀{binds:List (Str×Value)} {m:Str->Option Value},(∀v,(x,v)∉binds)->bindC kn binds m x=m x
 | [],_,_=>rfl
 |(n,v)::r,m,h=>by
  unfold bindC;rw[z6n fun w hw=>h w (aw _ hw)];split
  ·rfl
  ·have :x≠n:=by rintro rfl;exact h v au
   simp[this]
theorem z6l {kn:Str->Option fi}{x:Str}{v:Value}:∀{P:List Str} {vs:List Value} {i:Nat} {m:Str->Option Value},P.Nodup->P[i]?=some x->vs[i]?=some v->kn x=some .local->
  bindL kn (P.zip vs) m x=some v
 | [],_,_,_,_,h,_,_=>by simp at h
 |_::_,[],_,_,_,_,h,_=>by simp at h
 |p::P,w::vs,0,m,nd,h1,h2,hk=>by simp at h1 h2;subst h1;subst h2;show bindL kn ((p,w)::P.zip vs) m p=_;unfold bindL;rw[z7u fun v hv=>(c9.mp nd).1 (n5 hv).1,if_pos hk];simp
 |p::P,w::vs,i+1,m,nd,h1,h2,hk=>by show bindL kn ((p,w)::P.zip vs) m x=_;unfold bindL;exact z6l (i:=i) (c9.mp nd).2 (by simpa using h1) (by simpa using h2) hk
theorem z6u {kn:Str->Option fi}{x:Str}{v:Value}:∀{P:List Str} {vs:List Value} {i:Nat} {m:Str->Option Value},P.Nodup->P[i]?=some x->vs[i]?=some v->kn x≠some .local->
  bindC kn (P.zip vs) m x=some v
 | [],_,_,_,_,h,_,_=>by simp at h
 |_::_,[],_,_,_,_,h,_=>by simp at h
 |p::P,w::vs,0,m,nd,h1,h2,hk=>by simp at h1 h2;subst h1;subst h2;show bindC kn ((p,w)::P.zip vs) m p=_;unfold bindC;rw[z6n fun v hv=>(c9.mp nd).1 (n5 hv).1,if_neg hk];simp
 |p::P,w::vs,i+1,m,nd,h1,h2,hk=>by show bindC kn ((p,w)::P.zip vs) m x=_;unfold bindC;exact z6u (i:=i) (c9.mp nd).2 (by simpa using h1) (by simpa using h2) hk
def start (N:List Str)(vs:List V):St:=vs.map some++bw (N.length-vs.length) none
def cxOf (CX:CXT)(P:bc)(w:World)(K:W.Frag)(mg:Str->Option Value)(base:Heap)(N:List Str)(qual:Str)(scope:Scope)(f:Addr)(cd:Value)(A:bz)(outer:List Env)(s:aa)(H:Hp)(E:XK):Cx where
 prog:=P
 w:=w
 K:=K
 mg:=mg
 base:=base
 A:=A.deeper (ow qual scope s.heap.objs.size f cd)
 N:=N
 s₀:=s
 H₀:=H
 env:=ow qual scope s.heap.objs.size f cd
 outer:=outer
 stack:=ow qual scope s.heap.objs.size f cd::outer
 ex:=[]
 calm:=true
 fn:=fun _=>true
 pn:=[]
 xe:=fun e s'=>wpAny (model P w) (A.deeper (ow qual scope s.heap.objs.size f cd)) (leaving (ow qual scope s.heap.objs.size f cd) e) (fun _ s''=>CX outer H s E e s'') (fun e' s''=>CX outer H s E e' s'') s'
theorem z9s {sc:Scope}{n:Nat}{x:Str}(h:sc.names.lookup x=some .cell):∃c,(cellsFrom n sc.names []).lookup x=some c:=by have q:=W.cellsFrom_some sc.names n [] (.inl h);exact Option.isSome_iff_exists.mp q
theorem ze4 {CX:CXT}{P:bc}{w:World}{K:W.Frag}{mg:Str->Option Value}{base:Heap}{N ps:List Str}{qual:Str}{scope:Scope}{f:Addr}{cd:Value}{A:bz}{outer:List Env}{s s1:aa}{H:Hp}{E:XK}{us:List Value}{vs:List V}
  (S:FnScope N ps scope) (hd:A.handled=none) (e0:Env0 P w K mg base A outer s H) (hl:vs.length=ps.length) (r:Vals vs us)
  (x:InCallC s s.heap.objs.size (bindL (ow qual scope s.heap.objs.size f cd).kindOf (ps.zip us) fun _=>none) (cellsFrom (s.heap.objs.size+1) scope.names []) (bindC (ow qual scope s.heap.objs.size f cd).kindOf (ps.zip us) fun _=>none) s1):
  Inv (cxOf CX P w K mg base N qual scope f cd A outer s H E) [] (start N vs) H s1:=by
 have hpl:ps.length<=N.length:=by have:=congrArg jv S.pre;rw[d6]at this;omega
 obtain⟨h1,tk,rfl,hk⟩:=x.done;have noA:∀b:Addr,b∉(cxOf CX P w K mg base N qual scope f cd A outer s H E).ex:=fun b z=>absurd (show b∈([]:List Addr)from z) (by simp);refine⟨⟨e0.mod,S.kind,rfl,rfl,ah _,fun y z c h1 h2=>?_,fun y hy=>?_,fun y c _ h=>?_,fun _=>hd,Around.frames_deeper e0.frames,.inr ⟨rfl,rfl⟩,fun b z=>absurd z (noA b),e0.bs,e0.bsz,fun b _ _=>noA b,fun b z=>absurd z (noA b),e0.funs,e0.frf,fun _ _ z=>by cases z⟩,rfl,e0.bare,Un.kept hk,⟨_,x.toInCall.ns,fun i y v h1 h2 h3=>?_⟩,fun y c h=>⟨_,x.cell y c h⟩,e0.hok.fresh (ah _),fun y c h=>?_,fun p hp=>absurd (show p∈([]:List (Addr×Obj))from hp) (by simp),e0.hok.kept hk,?_,fun _ _ z=>by cases z⟩
 ·exact name_of_addr x.apart (PySem.mem_of_lookup h1) (PySem.mem_of_lookup h2)
 ·have hy:scope.names.lookup y=some .cell\/scope.names.lookup y=some .free:=hy;rcases hy with hy|hy
  ·exact z9s hy
  ·exact absurd rfl (S.nofree _ (PySem.mem_of_lookup hy))
 ·exact j6 (x.above y c (PySem.mem_of_lookup h))
 ·have hi:i<vs.length:=by
   unfold start at h2;by_cases hi:i<vs.length
   ·exact hi
   ·rw[fj (by simpa using hi)]at h2;rw[f9]at h2;split at h2<;>cases h2
  have ha:vs[i]?=some v:=by
   unfold start at h2;rw[gp (by simpa using hi),bo]at h2;cases e:vs[i]? with
   |none=>rw[e]at h2;cases h2
   |some a=>rw[e]at h2;cases h2;rfl
  obtain⟨u,hu,rv⟩:=r.get ha;have hp:ps[i]?=some y:=by rw[<-S.pre,List.getElem?_take_of_lt (by omega)];exact h1
  have ndP:ps.Nodup:=by rw[<-S.pre];exact S.nd.sublist (qw _ _)
  refine⟨u,rv,?_⟩;rcases S.par y (cw hp)with k|k
  ·exact .inl ⟨k,z6l ndP hp hu k⟩
  ·obtain⟨c,e⟩:=z9s (n:=s.heap.objs.size+1) k;refine .inr ⟨.inl k,c,e,?_⟩;have q:=x.cell y c e;rw[z6u ndP hp hu (by show scope.names.lookup y≠_;rw[k];decide)]at q;exact q
 ·exact e0.hok.fresh (j6 (x.above y c (PySem.mem_of_lookup h)))
 ·unfold start;show _=N.length;rw[az,am,c6];omega
theorem zoh {CX:CXT}{P:bc}{w:World}{K:W.Frag}{mg:Str->Option Value}{base:Heap}{k:Nat}{f:Addr}{name qual:Str}{params:Arguments}{body:List Stmt}{scope:Scope}{dV kV doc pm cdv ct oc:Value}{an od:Option Addr}
  {osl:Array (Option Value)} {N ps:List Str} {sp:Sp} (lk:K.lookup f=some ⟨oc,od,.func (W.fnOf name qual params body scope dV kV doc pm an cdv ct),osl⟩) (hcd:W.codeIn K cdv qual=true) (S:FnScope N ps scope)
  (len:∀vs H Q E,sp vs H Q E->vs.length=ps.length)
  (hbody:∀(A:bz) (outer:List Env) (s:aa) (H:Hp) (vs:List V) (Q:VK) (E:XK),Room k (A.deeper (ow qual scope s.heap.objs.size f cdv))->sp vs H Q E->∃t,PSs (cxOf CX P w K mg base N qual scope f cdv A outer s H E) body t/\t {nx:=fun _ H'=>Q .non H',rt:=Q} (start N vs) H):
  FnOk P w K mg base CX (k+1) f (W.fnOf name qual params body scope dV kV doc pm an cdv ct) ps sp:=by
 refine⟨len,fun A outer s H args us vs Q E hr e0 hb r hsp=>?_⟩;have hl:=len _ _ _ _ hsp;have KX:K.In s.heap:=e0.mod.kin.keeps fun b o e=>(e0.bs b o e).1;have lim:s.heap.NoLimit:=e0.mod.nolimit.keeps fun b o e=>(e0.bs b o e).1
 have hkind:∀y∈ps.zip us,scope.names.lookup y.1=some .local\/(scope.names.lookup y.1=some .cell/\((cellsFrom (s.heap.objs.size+1) scope.names []).lookup y.1).isSome=true):=fun⟨n,v⟩ hy=>by
  rcases S.par n (n5 hy).1 with q|q
  ·exact .inl q
  ·exact .inr ⟨q,W.cellsFrom_some _ _ _ (.inl q)⟩
 refine codeAny_call_function hr.depth (KX _ _ lk) rfl S.co S.gen rfl (W.codeRec_of KX hcd) (hb _ _ _ _ ?_);refine wpAny_newFunctionEnv_cells S.kind hkind fun env he s1 x=>?_;subst he;refine⟨lim.keeps x.toInCall.keep,codeAny_func ?_⟩;obtain⟨t,ht,hq⟩:=hbody A outer s H vs Q E (hr.deeper _) hsp;have I:Inv (cxOf CX P w K mg base N qual scope f cdv A outer s H E) [] (start N vs) H s1:=ze4 S hr.hd e0 hl r x;refine jp (ht [] s1 (start N vs) H _ I hq) (fun fl s' hs=>?_) fun e s' hs=>hs;have fin:∀{σ':St} {H':Hp} {v:V} {u:Value},Inv (cxOf CX P w K mg base N qual scope f cdv A outer s H E) [] σ' H' s'->RelV v u->Q v H'->CE outer P w H s Q u s':=fun{σ' H' v u} J rv q=>⟨v,H',J.os,J.bare,J.base,J.hok,rv,q⟩;cases fl with
 |ret u=>obtain⟨v,σ',H',J,rv,q⟩:=hs;exact fin J rv q
 |next=>obtain⟨σ',H',J,q⟩:=hs;exact fin (v:=V.non) (u:=Value.none) J rfl q
 |brk=>obtain⟨_,_,_,q⟩:=hs;exact False.elim q
 |cont=>obtain⟨_,_,_,q⟩:=hs;exact False.elim q
section
variable {X:Cx}{x:Str}{p pos:Pos}{e:Expr}{es:List Expr}{t:TA}{id T:String}{r:List V->Hp->VK->Prop}
def tCB (r:List V->Hp->VK->Prop)(t:TA):TE:=fun σ H Q=>t σ H fun vs H1=>r vs H1 Q
theorem zg6 (hc:CallR X (.builtin id) r)(hg:Gl X x)(hm:X.mg x=none)(hv:cv x=some (.builtin id))(ha:PA X (e::es) t)(hn:x≠"__name__":=by decide)(hdb:(x==("__debug__":Str))=false:=by decide)
  (he:cy (e::es) X.env=(false,eval e X.env)::cy es X.env:=by rfl) (hpl:(j7 pos (cy es X.env)).any (·.1)=false:=by rfl):PE X (.Call (.Name x p) (e::es) [] pos) (tCB r t):=by
 intro pins s σ H Q I h;refine gj (z2n I hg hm hv ?_ hn hdb);exact PyProof.Rows.callWith_builtin1 (thn (ha pos pins s σ H _ I h) fun us s1 ⟨vs,H1,I1,r1,q1⟩=>hc pins s1 σ H1 vs us Q I1 r1 q1) he hpl
theorem zc0 (hc:CallR X (.type T) r)(hg:Gl X x)(hm:X.mg x=none)(hv:cv x=some (.type T))(ha:PA X (e::es) t)(hn:x≠"__name__":=by decide)(hdb:(x==("__debug__":Str))=false:=by decide)
  (he:cy (e::es) X.env=(false,eval e X.env)::cy es X.env:=by rfl) (hpl:(j7 pos (cy es X.env)).any (·.1)=false:=by rfl):PE X (.Call (.Name x p) (e::es) [] pos) (tCB r t):=by
 intro pins s σ H Q I h;refine gj (z2n I hg hm hv ?_ hn hdb);exact PyProof.Rows.callWith_type1 (thn (ha pos pins s σ H _ I h) fun us s1 ⟨vs,H1,I1,r1,q1⟩=>hc pins s1 σ H1 vs us Q I1 r1 q1) he hpl
end
section
variable {κ:Type} [DecidableEq κ]
def valV (kvs:List (κ×V))(k:κ):Option V:=(kvs.find? fun kv=>decide (kv.1=k)).map (·.2)
def putK (kvs:List (κ×V))(k:κ)(v:V):List (κ×V):=if(kvs.any fun kv=>decide (kv.1=k))=true then kvs.map (fun kv=>if kv.1=k then(kv.1,v)else kv)else kvs++[(k,v)]
def zr9 (kvs:List (κ×V))(k:κ):List (κ×V):=kvs.filter fun kv=>decide (kv.1≠k)
theorem z45 {p:κ×V}{r:List (κ×V)}{k:κ}(e:p.1=k):valV (p::r) k=some p.2:=by simp[valV,gw,e]
theorem z46 {p:κ×V}{r:List (κ×V)}{k:κ}(e:¬p.1=k):valV (p::r) k=valV r k:=by simp[valV,gw,e]
theorem z96 (k:κ):∀kvs:List (κ×V),(kvs.any fun kv=>decide (kv.1=k))=(valV kvs k).isSome
 | []=>rfl
 |p::r=>by
  rw[ij];by_cases e:p.1=k
  ·simp only[z45 e,ul e,qx,Option.isSome_some]
  ·rw[z46 e,um e,Bool.false_or];exact z96 k r
theorem z8n (kvs:List (κ×V))(k:κ)(v:V):(putK kvs k v).length<=kvs.length+1:=by
 unfold putK;split
 ·rw[am];omega
 ·rw[az,ay,kz];omega
theorem RelO.isSome_eq {o:Option V}{u:Option Value}(r:RelO o u):o.isSome=u.isSome:=by
 cases o with
 |none=>cases u with
  |none=>rfl
  |some _=>exact(show False from r).elim
 |some _=>cases u with
  |none=>exact(show False from r).elim
  |some _=>rfl
theorem RelO.getD {o:Option V}{u:Option Value}{d:V}{d':Value}(r:RelO o u)(rd:RelV d d'):RelV (o.getD d) (u.getD d'):=by
 cases o with
 |none=>cases u with
  |none=>exact rd
  |some _=>exact(show False from r).elim
 |some _=>cases u with
  |none=>exact(show False from r).elim
  |some _=>exact r
theorem KV.val {kvs:List (κ×V)}{vs:List (κ×Value)}(r:KV kvs vs)(k:κ):RelO (valV kvs k) (pi vs k):=by
 unfold KV at r
 induction r with
 |nil=>exact True.intro
 | @cons p q ps qs h t ih=>
  obtain⟨h1,h2⟩:=h;by_cases e:p.1=k
  ·have e':q.1=k:=h1.symm.trans e;have b:pi (q::qs) k=some q.2:=by simp[pi,gw,e']
   rw[z45 e,b];exact h2
  ·have e':¬q.1=k:=fun z=>e (h1.trans z);have b:pi (q::qs) k=pi qs k:=by simp[pi,gw,e']
   rw[z46 e,b];exact ih
theorem KV.any {kvs:List (κ×V)}{vs:List (κ×Value)}(r:KV kvs vs)(k:κ):(kvs.any fun kv=>decide (kv.1=k))=vs.any fun kv=>decide (kv.1=k):=by
 unfold KV at r
 induction r with
 |nil=>rfl
 |cons h t ih=>rw[ij,ij,ih,h.1]
theorem KV.repl {kvs:List (κ×V)}{vs:List (κ×Value)}(r:KV kvs vs)(k:κ){y:V}{u:Value}(ry:RelV y u):
  KV (kvs.map fun kv=>if kv.1=k then(kv.1,y)else kv) (vs.map fun kv=>if kv.1=k then(kv.1,u)else kv):=by
 unfold KV at r ⊢
 induction r with
 |nil=>exact .nil
 | @cons p q ps qs h t ih=>
  rw[ae,ae];refine .cons ?_ ih;obtain⟨h1,h2⟩:=h;by_cases e:p.1=k
  ·rw[if_pos e,if_pos (h1.symm.trans e)];exact⟨h1,ry⟩
  ·rw[if_neg e,if_neg (fun z=>e (h1.trans z))];exact⟨h1,h2⟩
theorem KV.put {kvs:List (κ×V)}{vs:List (κ×Value)}(r:KV kvs vs)(k:κ){y:V}{u:Value}(ry:RelV y u):KV (putK kvs k y) (stored vs k u):=by
 unfold putK stored;rw[r.any k];by_cases e:(vs.any fun kv=>decide (kv.1=k))=true
 ·rw[if_pos e,if_pos e];exact r.repl k ry
 ·rw[if_neg e,if_neg e];exact Paired.snoc r ⟨rfl,ry⟩
theorem KV.drop {kvs:List (κ×V)}{vs:List (κ×Value)}(r:KV kvs vs)(k:κ):KV (zr9 kvs k) (without vs k):=by
 unfold KV at r ⊢;unfold zr9 without
 induction r with
 |nil=>exact .nil
 | @cons p q ps qs h t ih=>
  obtain⟨h1,h2⟩:=h;rw[List.filter_cons,List.filter_cons];by_cases e:p.1=k
  ·have a:¬decide (p.1≠k)=true:=by simp[e]
   have b:¬decide (q.1≠k)=true:=by simp[h1.symm.trans e]
   rw[if_neg a,if_neg b];exact ih
  ·have e':¬q.1=k:=fun z=>e (h1.trans z);have a:decide (p.1≠k)=true:=by simp[e]
   have b:decide (q.1≠k)=true:=by simp[e']
   rw[if_pos a,if_pos b];exact .cons ⟨h1,h2⟩ ih
theorem KV.keys {kvs:List (κ×V)}{vs:List (κ×Value)}(r:KV kvs vs):kvs.map (·.1)=vs.map (·.1):=by
 unfold KV at r
 induction r with
 |nil=>rfl
 |cons h t ih=>rw[ae,ae,ih,h.1]
theorem KV.length {kvs:List (κ×V)}{vs:List (κ×Value)}(r:KV kvs vs):kvs.length=vs.length:=Paired.length r
end
theorem zc6 {P:bc}{w:World}{k:Key}{u:Value}(r:RelV (kV k) u):(z17 P w).is k u=true:=by
 cases k with
 |inl i=>obtain⟨t,e⟩:=(show ∃t,u=Value.int i t from r);subst e;exact z8j P w i t
 |inr x=>obtain⟨t,e⟩:=(show ∃t,u=Value.str x t from r);subst e;exact z8r P w x t
abbrev KT (H:Hp):List (List Key×V)->List (List Key×Addr×Value)->Prop:=kw fun p q=>p.1=q.1/\H q.2.1=some (.tup (p.1.map kV))/\RelV p.2 q.2.2
theorem KT.val {H:Hp}{kvs:List (List Key×V)}{xs:List (List Key×Addr×Value)}(r:KT H kvs xs)(k:List Key):RelO (valV kvs k) ((atKey xs k).map (·.2)):=by
 induction r with
 |nil=>exact True.intro
 | @cons p q ps qs h t ih=>
  obtain⟨h1,_,h2⟩:=h;by_cases e:p.1=k
  ·have e':q.1=k:=h1.symm.trans e;have b:atKey (q::qs) k=some q.2:=by simp[atKey,gw,e']
   rw[z45 e,b];exact h2
  ·have e':¬q.1=k:=fun z=>e (h1.trans z);have b:atKey (q::qs) k=atKey qs k:=by simp[atKey,gw,e']
   rw[z46 e,b];exact ih
theorem KT.repl {H:Hp}{kvs:List (List Key×V)}{xs:List (List Key×Addr×Value)}(r:KT H kvs xs)(k:List Key){y:V}{u:Value}(ry:RelV y u):
  KT H (kvs.map fun kv=>if kv.1=k then(kv.1,y)else kv) (xs.map (putAt k u)):=by
 induction r with
 |nil=>exact .nil
 | @cons p q ps qs h t ih=>
  rw[ae,ae];refine .cons ?_ ih;obtain⟨h1,h2,h3⟩:=h;unfold putAt;by_cases e:p.1=k
  ·rw[if_pos e,if_pos (h1.symm.trans e)];exact⟨h1,h2,ry⟩
  ·rw[if_neg e,if_neg (fun z=>e (h1.trans z))];exact⟨h1,h2,h3⟩
theorem KT.put {H:Hp}{kvs:List (List Key×V)}{xs:List (List Key×Addr×Value)}(r:KT H kvs xs)(k:List Key){b:Addr}{y:V}{u:Value}(hb:H b=some (.tup (k.map kV)))(ry:RelV y u):
  KT H (putK kvs k y) (storedH xs k b u):=by
 have e:(kvs.any fun kv=>decide (kv.1=k))=(atKey xs k).isSome:=by rw[z96,(r.val k).isSome_eq,Option.isSome_map]
 unfold putK storedH;rw[e];by_cases q:(atKey xs k).isSome=true
 ·rw[if_pos q,if_pos q];exact r.repl k ry
 ·rw[if_neg q,if_neg q];exact Paired.snoc r ⟨rfl,hb,ry⟩
theorem KT.keeps {H H':Hp}{kvs:List (List Key×V)}{xs:List (List Key×Addr×Value)}(r:KT H kvs xs)(ht:∀b ys,H b=some (.tup ys)->H' b=some (.tup ys)):KT H' kvs xs:=Paired.mapP r fun _ _ z=>⟨z.1,ht _ _ z.2.1,z.2.2⟩
section
variable {P:bc}{w:World}{H:Hp}{h:Heap}{a:Addr}
theorem zrl {u:HO}(ok:HOk P w H h)(e:Rd H a u):z12 P w H h a u:=e.ok ok
theorem z82 {kvs:List (Key×V)}(ok:HOk P w H h)(e:Rd H a (.dK kvs)):kvs.length<=bf/\(a==kg)=false/\∃vs,KV kvs vs/\h.DictOf (z17 P w) a vs:=show z12 P w H h a (.dK kvs)from zrl ok e
theorem zm1 {kvs:List (Key×V)}(ok:HOk P w H h)(e:H a=some (.dK kvs)):kvs.length<=bf/\(a==kg)=false/\∃vs,KV kvs vs/\h.DictOf (z17 P w) a vs:=z82 ok (.inl e)
end
def DGet (H:Hp)(a:Addr)(y:V)(r:Option V):Prop:=∃kvs k,Rd H a (.dK kvs)/\y=kV k/\r=valV kvs k
def DPut (H:Hp)(a:Addr)(y v:V)(H':Hp):Prop:=∃kvs k,H a=some (.dK kvs)/\y=kV k/\kvs.length<bf/\H'=upd H a (.dK (putK kvs k v))
theorem DGet.k {H:Hp}{a:Addr}{kvs:List (Key×V)}{k:Key}(e:H a=some (.dK kvs)):DGet H a (kV k) (valV kvs k):=⟨kvs,k,.inl e,rfl,rfl⟩
theorem DPut.k {H:Hp}{a:Addr}{kvs:List (Key×V)}{k:Key}{v:V}(e:H a=some (.dK kvs))(hl:kvs.length<bf):DPut H a (kV k) v (upd H a (.dK (putK kvs k v))):=⟨kvs,k,e,rfl,hl,rfl⟩
section
variable {X:Cx}{pins:List (Addr×Obj)}{σ:St}{H:Hp}{s:aa}{a:Addr}{y v:V}{u r:Value}{o:Option V}{A:bz}{E:Value->aa->Prop}
theorem Inv.big (I:Inv X pins σ H s):kg<s.heap.objs.size:=by have h:bv<s.heap.objs.size:=(I.mod.glob.keeps I.bk).lt;exact lc (by decide) h
theorem zbb {Q:Value->aa->Prop}(hu:A.units+1<cLine)(I:Inv X pins σ H s)(g:DGet H a y (some v))(ry:RelV y u)(h:∀w' s',Inv X pins σ H s'->RelV v w'->Q w' s'):
  wpAny (model X.prog X.w) A (qy (.ref a) u) Q E s:=by
 obtain⟨kvs,k,e,ey,l⟩:=g
 ·subst ey;obtain⟨z,hd,vs,rel,dd⟩:=z82 I.hok e;obtain⟨w',hw,rw'⟩:=RelO.some_of (v:=v) (o:=pi vs k) (by rw[l];exact rel.val k);exact wpAny_getItem_of (zc6 ry) dd.mapOf hw (h w' _ (I.tok _) rw')
theorem d_in {Q:Value->aa->Prop}(hu:A.units+1<cLine)(I:Inv X pins σ H s)(g:DGet H a y o)(ry:RelV y u)(h:∀s',Inv X pins σ H s'->Q (.bool o.isSome) s'):
  wpAny (model X.prog X.w) A (b9 .In u (.ref a)) Q E s:=by
 obtain⟨kvs,k,e,ey,l⟩:=g
 ·subst ey;obtain⟨z,hd,vs,rel,dd⟩:=z82 I.hok e;refine wpAny_in_of (zc6 ry) hd dd.mapOf ?_;rw[<-(rel.val k).isSome_eq,<-l];exact h _ (I.tok _)
theorem zjw {Q:Value->aa->Prop}(hu:A.units+1<cLine)(I:Inv X pins σ H s)(g:DGet H a y o)(ry:RelV y u)(h:∀s',Inv X pins σ H s'->Q (.bool (!o.isSome)) s'):
  wpAny (model X.prog X.w) A (b9 .NotIn u (.ref a)) Q E s:=by
 obtain⟨kvs,k,e,ey,l⟩:=g
 ·subst ey;obtain⟨z,hd,vs,rel,dd⟩:=z82 I.hok e;refine wpAny_notIn_of (zc6 ry) hd dd.mapOf ?_;rw[<-(rel.val k).isSome_eq,<-l];exact h _ (I.tok _)
theorem ziv {h':Heap}{t':Nat}{ob:HO}(I:Inv X pins σ H s)(mu:Mut (H a))(hs:g7 a s.heap h')(he:∃q,h'.get? a=some q)(new:z12 X.prog X.w (upd H a ob) h' a ob):
  Inv X pins σ (upd H a ob) {s with heap:=h',toks:=t'}:=
 I.write (x:=a) (e:=a) mu (.inl rfl) (fun b q hb z=>(hs.2 b hb).trans z) he new
theorem zmv {P:bc}{w:World}{H':Hp}{h':Heap}{kvs:List (Key×V)}{vs:List (Key×Value)}(z:kvs.length<=bf)(hd:(a==kg)=false)(rel:KV kvs vs)(dd:h'.DictOf (z17 P w) a vs): z12 P w H' h' a (.dK kvs):=⟨z,hd,vs,rel,dd⟩
theorem zda {H':Hp}{Q:Unit->aa->Prop}(hu:A.units+1<cLine)(I:Inv X pins σ H s)(g:DPut H a y v H')(ry:RelV y u)(rv:RelV v r)(h:∀s',Inv X pins σ H' s'->Q () s'):
  wpAny (model X.prog X.w) A (setItem (.ref a) u r) Q E s:=by
 obtain⟨kvs,k,e,ey,l,eH⟩:=g
 ·subst ey eH;obtain⟨z,hd,vs,rel,dd⟩:=zm1 I.hok e;have hz:vs.length<=bf:=by rw[<-rel.length];exact z
  have hl:(putK kvs k v).length<=bf:=by have:=z8n kvs k v;omega
  refine wpAny_setItem_pairs (hsz:=hz) (zc6 ry) dd fun h' dd' hs=>h _ ?_;have he:∃q,h'.get? a=some q:=let⟨q,_,_,hq,_⟩:=dd';⟨q,hq⟩;exact ziv I (by rw[e];exact True.intro) hs he (zmv hl hd (rel.put k rv) dd')
end
section
variable {X:Cx}{pins:List (Addr×Obj)}{σ:St}{H:Hp}{s:aa}{a:Addr}{kvs:List (Key×V)}{k:Key}{u:Value}{A:bz}{E:Value->aa->Prop}
theorem zt3 {Q:Value->aa->Prop}(I:Inv X pins σ H s)(e:Rd H a (.dK kvs))(h:∀t s',Inv X pins σ H s'->Q (.int kvs.length t) s'):wpAny (model X.prog X.w) A (call (.builtin "len") [.ref a]) Q E s:=by obtain⟨z,hd,vs,rel,dd⟩:=z82 I.hok e;refine call_len_dict hd dd (by rw[<-rel.length];rw[cq]at z;omega) ?_;rw[<-rel.length];exact h _ _ (I.tok _)
end
theorem z8i {X:Cx}{pins:List (Addr×Obj)}{σ:St}{H:Hp}{s:aa}{a:Addr}{y:V}{o:Option V}(I:Inv X pins σ H s)(g:DGet H a y o):s.TypeIs (.ref a) "dict":=by
 obtain⟨kvs,k,e,_,_⟩:=g
 ·obtain⟨_,_,vs,_,dd⟩:=z82 I.hok e;exact dd.typeIs
section
variable {X:Cx}{o i e value:Expr}{pos pos' tpos:Pos}{td ty tv:TE}
end
theorem zep {P:bc}{w:World}{H:Hp}(h:Heap)(hb:kg<h.objs.size):z12 P w H (h.push {cls:=.type "dict",data:=.dict #[]}) h.objs.size (.dK []):=⟨ce _,beq_eq_false_iff_ne.mpr (Ne.symm (bx hb)),[],.nil,Heap.DictOf.new h⟩
def znk:TE:=fun _ H Q=>∀p,H p=none->Q (.ref p) (upd H p (.dK []))
section
variable {X:Cx}{pos:Pos}
theorem zf2:PE X (.Dict [] [] pos) znk:=fun pins s σ H Q I h=>wpAny_Dict_empty ⟨.ref s.heap.objs.size,_,I.laid (a:=s.heap.objs.size) (o:=.dK []) (t':=s.toks) (fun _ _ q=>ag _ q) (ah _) (zep s.heap I.big),rfl,h _ (I.hok.fresh (ah _))⟩
end
section
variable {X:Cx}{pins:List (Addr×Obj)}{σ:St}{H:Hp}{s:aa}{a:Addr}{y d:V}{u r:Value}{o:Option V}{A:bz}{E:Value->aa->Prop}
theorem zp4 {Q:Value->aa->Prop}(hu:A.units+1<cLine)(I:Inv X pins σ H s)(g:DGet H a y o)(ry:RelV y u)(rd:RelV d r)(h:∀w' s',Inv X pins σ H s'->RelV (o.getD d) w'->Q w' s'):
  wpAny (model X.prog X.w) A (call (.builtin "dict.get") [.ref a,u,r]) Q E s:=by
 obtain⟨kvs,k,e,ey,l⟩:=g
 ·subst ey;obtain⟨z,hd,vs,rel,dd⟩:=z82 I.hok e;refine call_meetsIn PySem.F.slot_dict_get dd.typeIs PySem.F.entry_dict_get (PySem.F.args_dict_get_3 _ _ _) (meets_dict_get_default (z17 X.prog X.w) a (zc6 ry) hd r) ⟨_,dd.mapOf,h _ _ (I.tok _) ?_⟩;rw[l];exact(rel.val k).getD rd
end
section
variable {X:Cx}{o e f:Expr}{apos cpos:Pos}{td ty tx:TE}
end
section
variable {X:Cx}{pins:List (Addr×Obj)}{σ:St}{H:Hp}{s:aa}{a:Addr}{kvs:List (Key×V)}{A:bz}{E:Value->aa->Prop}
end
section
variable {X:Cx}{pins:List (Addr×Obj)}{σ:St}{H:Hp}{s:aa}{a:Addr}{y:V}{u:Value}{A:bz}{E:Value->aa->Prop}
end
end L2
namespace HT
open PySem PyProof.Rows
section
open PySem.SeqAt
open PySem.AutoSeq1 (wpAny_loadPart')
open PySem.MeetsSeq PySem.MeetsSeq2 PySem.MeetsSeq3
end
section
variable {prog:bc}{w:World}{A:bz}{E:Value->aa->Prop}{s:aa}
theorem cat_tup {t b:Addr}{vs ws:List Value}{Q:Value->aa->Prop}(ht:IsTup s.heap t vs.toArray)(hb:IsTup s.heap b ws.toArray)(hv:vs≠[])
  (h1:ws=[]->Q (.ref t) s) (h2:ws≠[]->Q (.ref s.heap.objs.size) {s with heap:=s.heap.push {cls:=.type "tuple",data:=.seq (vs++ws).toArray}})
  (hsz:vs.length+ws.length<=bf):wpAny (model prog w) A (ge .Add (.ref t) (.ref b)) Q E s:=by
 obtain⟨⟨cls,dd,data,sl⟩,ho,hc,n,hd⟩:=id ht;obtain⟨⟨cls2,dd2,data2,sl2⟩,ho2,hc2,n2,hd2⟩:=id hb;simp only at hc hd hc2 hd2;subst hc hd hc2 hd2;have e:vs.toArray++ws.toArray=(vs++ws).toArray:=by simp
 by_cases hw:ws=[]
 ·exact m9 ⟨_,ho,rfl⟩ ⟨_,ho2,rfl⟩ mr qb PySem.F.slot_tuple_add PySem.F.entry_tuple_add (PySem.F.args_tuple_add_2 _ _) (tuple_addW1 t b vs.toArray ws.toArray n n2 dd dd2 sl sl2 (by simpa using hv) (by simp[hw])) ⟨ho,ho2,h1 hw⟩
 ·refine m9 ⟨_,ho,rfl⟩ ⟨_,ho2,rfl⟩ mr qb PySem.F.slot_tuple_add PySem.F.entry_tuple_add (PySem.F.args_tuple_add_2 _ _)
   (tuple_addW2 t b vs.toArray ws.toArray n n2 dd dd2 sl sl2 (by simpa using hv) (by simpa using hw) (by rw[aq,aq];exact hsz)) ⟨ho,ho2,?_⟩
  rw[e];exact h2 hw
def sIx (n d:Nat):Option Int->Nat
 |none=>d
 |some v=>if v<0 then(v+(n:Int)).toNat else min v.toNat n
theorem sIx_le (n d:Nat)(hd:d<=n)(o:Option Int):sIx n d o<=n:=by
 cases o with
 |none=>exact hd
 |some v=>
  show(if v<0 then(v+(n:Int)).toNat else min v.toNat n)<=n;by_cases hv:v<0
  ·rw[if_pos hv];omega
  ·rw[if_neg hv];exact Nat.min_le_right _ _
theorem zc5 (v:Int)(n d:Nat):(if v<0 then max (v+(n:Int)) 0 else min v (n:Int))=((sIx n d (some v):Nat):Int):=by
 show(if v<0 then max (v+(n:Int)) 0 else min v (n:Int))=(((if v<0 then(v+(n:Int)).toNat else min v.toNat n):Nat):Int);by_cases hv:v<0
 ·simp only[if_pos hv];omega
 ·simp only[if_neg hv];omega
theorem zag (lo hi:Option Int)(n:Nat):i8 lo hi 1 (n:Int)=(((sIx n 0 lo:Nat):Int),((sIx n n hi:Nat):Int)):=by
 have h1:¬((1:Int)<0):=by omega
 unfold i8;simp only[h1,if_false];refine Prod.ext ?_ ?_
 ·cases lo with
  |none=>rfl
  |some v=>exact zc5 v n 0
 ·cases hi with
  |none=>rfl
  |some v=>exact zc5 v n n
theorem zap (i j:Nat):gq (i:Int) (j:Int) 1=j-i:=by
 unfold gq;have h1:(1:Int)>0:=by omega
 simp only[h1,if_true,Int.ediv_one];split<;>omega
theorem z5e {v:Value}{o:Option Int}{Q:Option Int->aa->Prop}(p:qj v o)(h:Q o s):wpAny (model prog w) A (Builtin.Slice.slicePartIndex v) Q E s:=by
 cases p with
 |none=>exact slicePart_none h
 |int i t=>exact slicePart_int h
theorem z3y {sl:Addr}{vl vu:Value}{lo hi:Option Int}{n:Nat}{Q:Int×Int×Nat->aa->Prop}(hs:s.heap.IsSliceOf sl vl vu .none)(pl:qj vl lo)(pu:qj vu hi)
  (h:Q (((sIx n 0 lo:Nat):Int),1,sIx n n hi-sIx n 0 lo) s):wpAny (model prog w) A (ll (.ref sl) (pure (n:Int))) Q E s:=by
 obtain⟨os,hos,hcs,hds⟩:=id hs;unfold ll Builtin.Slice.sliceFields;refine af (af (jw hos hds (x:=vl) rfl (af (jw hos hds (x:=vu) rfl (af (jw hos hds (x:=.none) rfl (a8 ?_)))))));refine af (slicePart_none ?_);show wpAny _ _ (if((1:Int)==0)=true then _ else _) _ _ s;rw[if_neg (by decide)];refine af (z5e pl (af (z5e pu (af (a8 ?_)))));show wpAny _ _ (match i8 lo hi 1 (n:Int)with|(lo,hi)=>pure (lo,(1:Int),gq lo hi 1)) _ _ s;rw[zag lo hi n];show wpAny _ _ (pure (((sIx n 0 lo:Nat):Int),(1:Int),gq ((sIx n 0 lo:Nat):Int) ((sIx n n hi:Nat):Int) 1)) _ _ s;rw[zap];exact a8 h
theorem zeu (xs:Array Value)(i k:Nat):((b8 k).filterMap fun(m:Nat)=>xs[((i:Int)+(m:Int)*1).toNat]?).toArray=((xs.toList.drop i).take k).toArray:=by
 have e:(fun(m:Nat)=>xs[((i:Int)+(m:Int)*1).toNat]?)=fun m=>xs[i+m]?:=by
  funext m
  have:((i:Int)+(m:Int)*1).toNat=i+m:=by omega
  rw[this]
 rw[e];have:=pick_run xs i k;rw[List.filterMap_map]at this;have e2:((fun x=>xs[x]?)∘fun x=>i+x)=fun m=>xs[i+m]?:=rfl;rw[e2]at this;rw[this]
theorem getItem_tuple_cut {t sl:Addr}{items:Array Value}{vl vu:Value}{lo hi:Option Int}{Q:Value->aa->Prop}(ht:IsTup s.heap t items)(hs:s.heap.IsSliceOf sl vl vu .none)(pl:qj vl lo)(pu:qj vu hi)
  (hw:¬(sIx items.size 0 lo=0/\sIx items.size items.size hi=items.size))
  (h:Q (.ref s.heap.objs.size) {s with heap:=s.heap.push {cls:=.type "tuple",data:=.seq ((items.toList.drop (sIx items.size 0 lo)).take (sIx items.size items.size hi-sIx items.size 0 lo)).toArray}})
  (hsz:items.size<=bf):wpAny (model prog w) A (qy (.ref t) (.ref sl)) Q E s:=by
 have htake:sizeOk (.seq ((items.toList.drop (sIx items.size 0 lo)).take (sIx items.size items.size hi-sIx items.size 0 lo)).toArray):=by show((items.toList.drop (sIx items.size 0 lo)).take (sIx items.size items.size hi-sIx items.size 0 lo)).toArray.size<=bf;rw[aq,d6,dq,bp];omega
 have hj:sIx items.size items.size hi<=items.size:=sIx_le _ _ (ah _) hi;obtain⟨os,hos,hcs,hds⟩:=id hs;have hTs:s.TypeIs (.ref sl) "slice":=⟨os,hos,hcs⟩;unfold qy
 try with_reducible refine dr ?_
 first|refine af (a8 ?_)|skip
 refine af (wpAny_sequenceKey ht.typeIs (by decide) ?_);refine af (jx (name:=Str.ofString "__getitem__") ht.typeIs PyProof.Rows.slot_tuple_getitem (im PyProof.Rows.slot_tuple_getitem ht.typeIs entry_tuple_getitem ?_ (args_tuple_getitem _ _)));show wpAny _ _ (Builtin.Tuple.tupleItemsOf (.ref t)>>=_) _ _ s;refine af (tupleItemsOf_ ht ?_);refine af (wpAny_typeOf hTs ?_);rw[if_pos (by decide)];refine af (z3y hs pl pu ?_);have hno:¬((((sIx items.size 0 lo:Nat):Int)==0&&(1:Int)==1&&(sIx items.size items.size hi-sIx items.size 0 lo)==items.size)=true):=by intro q;rw[ak,ak]at q;have q1:((sIx items.size 0 lo:Nat):Int)=0:=eq_of_beq q.1.1;have q2:sIx items.size items.size hi-sIx items.size 0 lo=items.size:=eq_of_beq q.2;exact hw ⟨by omega,by omega⟩
 show wpAny _ _ (if(((sIx items.size 0 lo:Nat):Int)==0&&(1:Int)==1&&(sIx items.size items.size hi-sIx items.size 0 lo)==items.size)=true then _ else _) _ _ s;rw[if_neg hno,zeu]
 first
  |exact af (m:=ik _) (iz (a8 ⟨_,rfl,a8 h⟩) htake)
  |exact af (m:=ik _) (iz (af (a8 (a8 ⟨_,rfl,a8 h⟩))) htake)
  |exact af (af (m:=ik _) (iz (a8 (a8 ⟨_,rfl,a8 h⟩)) htake))
  |exact af (af (m:=ik _) (iz (a8 ⟨_,rfl,a8 h⟩) htake))
end
end HT
namespace L2
open PySem PySem.Spec PyProof.Rows
abbrev TO:=St->Hp->(Option Int->Hp->Prop)->Prop
def PO (X:Cx)(e:Option Expr)(t:TO):Prop:=∀(pins:List (Addr×Obj)) (s:aa) (σ:St) (H:Hp) (Q:Option Int->Hp->Prop),Inv X pins σ H s->t σ H Q->wpAny (model X.prog X.w) X.A (evalPart e X.env) (fun u s'=>∃o H',Inv X pins σ H' s'/\qj u o/\Q o H') X.xe s
def zjp:TO:=fun _ H Q=>Q none H
def zsl (t:TE):TO:=fun σ H Q=>t σ H fun x H1=>∃i,x=.int i/\Q (some i) H1
section
variable {X:Cx}{e:Expr}{te:TE}{lo hi:Option Expr}{tl th:TO}{pos p2:Pos}
theorem zmc:PO X none zjp:=by intro pins s σ H Q I h;rw[evalPart_none];exact a8 ⟨none,H,I,.none,h⟩
theorem zje (h:PE X e te):PO X (some e) (zsl te):=by intro pins s σ H Q I hw;rw[evalPart_some];refine thn (h pins s σ H _ I hw) fun u s1 ⟨x,H1,I1,r1,q1⟩=>?_;obtain⟨i,rfl,q⟩:=q1;obtain⟨t,rfl⟩:=r1;exact⟨some i,H1,I1,.int i t,q⟩
def SlR (X:Cx)(r:V->Option Int->Option Int->Hp->VK->Prop):Prop:=∀(pins:List (Addr×Obj)) (s:aa) (σ:St) (H:Hp) (x:V) (v vl vu:Value) (lo hi:Option Int) (sl:Addr) (Q:VK),Inv X pins σ H s->RelV x v->s.heap.IsSliceOf sl vl vu .none->qj vl lo->qj vu hi->r x lo hi H Q->∃T id,typeLookup (.type T) "__getitem__"=pure (some (.builtin id))/\s.TypeIs v T/\wpAny (model X.prog X.w) X.A (qy v (.ref sl)) (EP X pins σ Q) X.xe s
theorem SlR.or {r r':V->Option Int->Option Int->Hp->VK->Prop}(h:SlR X r)(h':SlR X r'):SlR X (fun x lo hi H Q=>r x lo hi H Q\/r' x lo hi H Q):=by
 intro pins s σ H x v vl vu lo hi sl Q I rx hs pl pu q;rcases q with q|q
 ·exact h pins s σ H x v vl vu lo hi sl Q I rx hs pl pu q
 ·exact h' pins s σ H x v vl vu lo hi sl Q I rx hs pl pu q
def tSl (r:V->Option Int->Option Int->Hp->VK->Prop)(te:TE)(tl th:TO):TE:=fun σ H Q=>te σ H fun x H1=>tl σ H1 fun l H2=>th σ H2 fun u H3=>r x l u H3 Q
theorem zft {r:V->Option Int->Option Int->Hp->VK->Prop}(hr:SlR X r)(he:PE X e te)(hl:PO X lo tl)(hu:PO X hi th):PE X (.Subscript e (.Slice lo hi none p2) pos) (tSl r te tl th):=by intro pins s σ H Q I h;refine Subscript_ (thn (he pins s σ H _ I h) fun v s1 ⟨x,H1,I1,r1,q1⟩=>?_);refine wpAny_Slice (thn (hl pins s1 σ H1 _ I1 q1) fun vl s2 ⟨l,H2,I2,pl,q2⟩=>thn (hu pins s2 σ H2 _ I2 q2) fun vu s3 ⟨u,H3,I3,pu,q3⟩=>?_);rw[evalPart_none];refine a8 ?_;have I4:Inv X pins σ H3 {s3 with heap:=s3.heap.push {cls:=.type "slice",data:=.fields #[vl,vu,.none]}}:=I3.kept (t':=s3.toks) fun b ob q=>ag _ q;obtain⟨T,id,hT,ht,hg⟩:=hr pins {s3 with heap:=s3.heap.push {cls:=.type "slice",data:=.fields #[vl,vu,.none]}} σ H3 x v vl vu l u s3.heap.objs.size Q I4 r1 (Heap.IsSliceOf.new ..) pl pu q3;show wpAny (model X.prog X.w) X.A (subscriptTail e (.Slice lo hi none p2) v (.ref s3.heap.objs.size)) (EP X pins σ Q) X.xe {s3 with heap:=s3.heap.push {cls:=.type "slice",data:=.fields #[vl,vu,.none]}};exact tail_any (ops:=[.ref s3.heap.objs.size,v]) ht hT hg (by with_unfolding_all rfl)
def cutV (xs:List V)(lo hi:Option Int):List V:=(xs.drop (HT.sIx xs.length 0 lo)).take (HT.sIx xs.length xs.length hi-HT.sIx xs.length 0 lo)
theorem z4n (xs:List V)(lo hi:Option Int):(cutV xs lo hi).length<=xs.length:=by unfold cutV;rw[d6,dq];omega
def rSlT (K:W.Frag):V->Option Int->Option Int->Hp->VK->Prop:=fun x lo hi H Q=>∃a xs,x=.ref a/\SqT K H a xs/\¬(HT.sIx xs.length 0 lo=0/\HT.sIx xs.length xs.length hi=xs.length)/\∀p,H p=none->Q (.ref p) (upd H p (.tup (cutV xs lo hi)))
theorem zpv:SlR X (rSlT X.K):=by
 intro pins s σ H x v vl vu lo hi sl Q I rx hs pl pu h;obtain⟨a,xs,rfl,hx,hw,q⟩:=h;cases rx;obtain⟨its,r,ht,hz⟩:=I.tuple hx;have hlen:its.toArray.size=xs.length:=by rw[aq];exact r.length.symm
 refine⟨"tuple",_,PyProof.Rows.slot_tuple_getitem.lookup,ht.typeIs,?_⟩;refine HT.getItem_tuple_cut ht hs pl pu (by rw[hlen];exact hw) ?_ (by rw[hlen];exact hz);rw[hlen];refine⟨.ref s.heap.objs.size,_,I.laid (t':=s.toks) (o:=.tup (cutV xs lo hi)) (fun b ob q=>ag _ q) (ah _) ?_,rfl,q _ (I.hok.fresh (ah _))⟩;exact⟨ck (z4n xs lo hi) hz,_,(r.drop (HT.sIx xs.length 0 lo)).take (HT.sIx xs.length xs.length hi-HT.sIx xs.length 0 lo),TupN.new _ _⟩
def zn8 (K:W.Frag):R2:=fun x y H Q=>∃a b xs ys,x=.ref a/\y=.ref b/\SqT K H a xs/\SqT K H b ys/\xs≠ []/\xs.length+ys.length<=bf/\(ys=[]->Q (.ref a) H)/\(ys≠[]->∀p,H p=none->Q (.ref p) (upd H p (.tup (xs++ys))))
theorem Vals.nil_iff {xs:List V}{us:List Value}(r:Vals xs us):us=[]↔xs=[]:=by
 cases r with
 |nil=>simp
 |cons _ _=>simp
theorem zkk:OpR X (ge .Add) (zn8 X.K):=by intro pins s σ H x y v u Q I rx ry h;obtain⟨a,b,xs,ys,rfl,rfl,ha,hb,hx,hz,q1,q2⟩:=h;cases rx;cases ry;obtain⟨its,r1,p1,_⟩:=I.tuple ha;obtain⟨its2,r2,p2,_⟩:=I.tuple hb;refine HT.cat_tup p1 p2 (fun z=>hx (r1.nil_iff.mp z)) (fun z=>⟨.ref a,H,I,rfl,q1 (r2.nil_iff.mp z)⟩) (fun z=>?_) (by rw[<-r1.length,<-r2.length];exact hz);refine⟨.ref s.heap.objs.size,_,I.laid (t':=s.toks) (o:=.tup (xs++ys)) (fun b ob q=>ag _ q) (ah _) ?_,rfl,q2 (fun w=>z (r2.nil_iff.mpr w)) _ (I.hok.fresh (ah _))⟩;exact⟨by rw[az];exact hz,_,r1.append r2,TupN.new _ _⟩
end
def ixN (n:Nat)(i:Int):Option Nat:=if 0<=i then(if i<n then some i.toNat else none)else if -(n:Int)<=i then some (i+n).toNat else none
def atI {α:Type}(xs:List α)(i:Int):Option α:=(ixN xs.length i).bind fun j=>xs[j]?
theorem zdc {n:Nat}{i:Int}{j:Nat}(h:ixN n i=some j):sr i n=some j/\j<n/\-(n:Int)<=i/\i<n:=by
 unfold ixN at h;by_cases h0:0<=i
 ·rw[if_pos h0]at h;by_cases h1:i<n
  ·rw[if_pos h1]at h;have e:i.toNat=j:=Option.some.inj h;exact⟨by rw[sw h0 h1,e],by omega,by omega,h1⟩
  ·rw[if_neg h1]at h;cases h
 ·rw[if_neg h0]at h;by_cases h1:-(n:Int)<=i
  ·rw[if_pos h1]at h;have e:(i+n).toNat=j:=Option.some.inj h;exact⟨by rw[q8 (by omega) h1,e],by omega,h1,by omega⟩
  ·rw[if_neg h1]at h;cases h
theorem z8m {α:Type}{xs:List α}{i:Int}{v:α}(h:atI xs i=some v):∃j,sr i xs.length=some j/\xs[j]?=some v/\j<xs.length/\-(xs.length:Int)<=i/\i<xs.length:=by
 unfold atI at h;cases e:ixN xs.length i with
 |none=>rw[e]at h;cases h
 |some j=>rw[e]at h;obtain⟨h1,h2,h3,h4⟩:=zdc e;exact⟨j,h1,h,h2,h3,h4⟩
def zcl (b:Expr):Prop:=∀o i,subscripted b false o i=operate [o,i] (qy o i)
def IxR (X:Cx)(r:R2):Prop:=∀(value slice:Expr) (pins:List (Addr×Obj)) (s:aa) (σ:St) (H:Hp) (x y:V) (v u:Value) (Q:VK),Inv X pins σ H s->RelV x v->RelV y u->r x y H Q->subscripted slice false v u=operate [v,u] (qy v u)->wpAny (model X.prog X.w) X.A (subscriptTail value slice v u) (EP X pins σ Q) X.xe s
def MtR (X:Cx)(id:String)(r:V->List V->Hp->VK->Prop):Prop:=∀(pins:List (Addr×Obj)) (s:aa) (σ:St) (H:Hp) (x:V) (xs:List V) (v:Value) (us:List Value) (Q:VK),Inv X pins σ H s->RelV x v->Vals xs us->r x xs H Q->wpAny (model X.prog X.w) X.A (call (.builtin id) (v::us)) (EP X pins σ Q) X.xe s
section
variable {X:Cx}{a b:Expr}{ta tb:TE}{pos:Pos}
theorem IxR.or {r r':R2}(h:IxR X r)(h':IxR X r'):IxR X (fun x y H Q=>r x y H Q\/r' x y H Q):=by
 intro value slice pins s σ H x y v u Q I rx ry q hs;rcases q with q|q
 ·exact h value slice pins s σ H x y v u Q I rx ry q hs
 ·exact h' value slice pins s σ H x y v u Q I rx ry q hs
theorem MtR.or {id:String}{r r':V->List V->Hp->VK->Prop}(h:MtR X id r)(h':MtR X id r'):MtR X id (fun x xs H Q=>r x xs H Q\/r' x xs H Q):=by
 intro pins s σ H x xs v us Q I rx rs q;rcases q with q|q
 ·exact h pins s σ H x xs v us Q I rx rs q
 ·exact h' pins s σ H x xs v us Q I rx rs q
theorem zsm {r:R2}(hr:IxR X r)(ha:PE X a ta)(hb:PE X b tb)(hs:zcl b):PE X (.Subscript a b pos) (tOp r ta tb):=by intro pins s σ H Q I h;exact Subscript_ (binT ha hb I h fun v u s2 x y H2 I2 rx ry q=>hr a b pins s2 σ H2 x y v u Q I2 rx ry q (hs _ _))
def rIxL (K:W.Frag):R2:=fun x y H Q=>∃p xs i v,x=.ref p/\y=.int i/\SqL K H p xs/\atI xs i=some v/\Q v H
def rIxT (K:W.Frag):R2:=fun x y H Q=>∃p xs i v,x=.ref p/\y=.int i/\SqT K H p xs/\atI xs i=some v/\Q v H
def rIxS:R2:=fun x y H Q=>∃z i c,x=.str z/\y=.int i/\z.length<=bf/\atI z.cps.toList i=some c/\Q (.str ⟨#[c]⟩) H
theorem zkq:IxR X (rIxL X.K):=by
 intro value slice pins s σ H x y v u Q I rx ry h hs;obtain⟨p,xs,i,z,rfl,rfl,hq,he,q⟩:=h;cases rx;obtain⟨t,rfl⟩:=ry;obtain⟨its,r,pl,hz⟩:=I.list hq;obtain⟨j,h1,h2,h3,h4,h5⟩:=z8m he;obtain⟨w,ew,rw'⟩:=r.get h2;have hl:=r.length;have hn:=z4l;have fin:EP X pins σ Q w s:=⟨z,H,I,rw',q⟩;by_cases h0:0<=i
 ·have hj:i.toNat=j:=by
   rw[sw h0 h5]at h1;exact Option.some.inj h1
  exact item_listR pl.isList h0 (by omega) (by rw[hj];simpa using ew) fin hs
 ·have hj:(i+(its.toArray.size:Int)).toNat=j:=by
   rw[q8 (by omega) h4]at h1;rw[aq,<-hl];exact Option.some.inj h1
  exact nc (x:=w) pl.isList.typeIs slot_list_getitem.lookup (wpAny_getItem_list_neg (Q:=fun r s'=>r=w/\EP X pins σ Q r s') pl.isList (by omega) (by rw[aq]<;>omega) (by omega) (by rw[hj];simpa using ew) ⟨rfl,fin⟩) hs
theorem zoz:IxR X (rIxT X.K):=by intro value slice pins s σ H x y v u Q I rx ry h hs;obtain⟨p,xs,i,z,rfl,rfl,hq,he,q⟩:=h;cases rx;obtain⟨t,rfl⟩:=ry;obtain⟨its,r,pl,hz⟩:=I.tuple hq;obtain⟨j,h1,h2,h3,h4,h5⟩:=z8m he;obtain⟨w,ew,rw'⟩:=r.get h2;have hl:=r.length;have hn:=z4l;have fin:EP X pins σ Q w s:=⟨z,H,I,rw',q⟩;exact nc (x:=w) pl.typeIs slot_tuple_getitem.lookup (getItem_tuple (j:=j) (Q:=fun r s'=>r=w/\EP X pins σ Q r s') pl (by omega) (by omega) (by rw[aq,<-hl];exact h1) (by simpa using ew) ⟨rfl,fin⟩) hs
theorem z3u:IxR X rIxS:=by
 intro value slice pins s σ H x y v u Q I rx ry h hs;obtain⟨z,i,c,rfl,rfl,hz,he,q⟩:=h;obtain⟨t,rfl⟩:=rx;obtain⟨t',rfl⟩:=ry;obtain⟨j,h1,h2,h3,h4,h5⟩:=z8m he;have hl:z.cps.toList.length=z.length:=by simp[Str.length]
 rw[hl]at h1 h4 h5;have hn:=z4l;exact tail_any (jq s z t) slot_str_getitem.lookup (getItem_str (c:=c) (by have e1:decide (i< -(2 ^ 63:Int))=false:=um (by omega);have e2:decide (i ≥ 2 ^ 63)=false:=um (by omega);rw[e1,e2,Bool.or_false]) (by rw[h1];simpa using h2) ⟨.str ⟨#[c]⟩,H,I.tok _,⟨_,rfl⟩,q⟩) hs
def rIx (K:W.Frag):R2:=fun x y H Q=>rIxL K x y H Q\/rIxT K x y H Q\/rIxS x y H Q
theorem zqg:IxR X (rIx X.K):=zkq.or (zoz.or z3u)
theorem zao (its:List Value)(n j:Nat)(u:Value):Obj.mapSeq (·.setIfInBounds j u) {cls:=.type "list",data:=.seq its.toArray n}={cls:=.type "list",data:=.seq (its.set j u).toArray n}:=by simp[Obj.mapSeq]
theorem Inv.lst {pins:List (Addr×Obj)}{σ:St}{H:Hp}{s:aa}{p:Addr}{xs:List V}(I:Inv X pins σ H s)(h:H p=some (.lst xs)):
  ∃(its:List Value) (n:Nat),Vals xs its/\s.heap.get? p=some {cls:=.type "list",data:=.seq its.toArray n}/\xs.length<=bf:=by
 obtain⟨z,its,n,r,e⟩:=I.hok p _ h;exact⟨its,n,r,e,z⟩
theorem Inv.lstUpd {pins:List (Addr×Obj)}{σ:St}{H:Hp}{s:aa}{p:Addr}{xs ys:List V}{its its':List Value}{n n':Nat}{f:Obj->Obj}(I:Inv X pins σ H s)(h:H p=some (.lst xs))
  (ho:s.heap.get? p=some {cls:=.type "list",data:=.seq its.toArray n}) (hf:f {cls:=.type "list",data:=.seq its.toArray n}={cls:=.type "list",data:=.seq its'.toArray n'}) (r:Vals ys its') (hz:ys.length<=bf) (t:Nat):
  Inv X pins σ (upd H p (.lst ys)) {s with heap:=s.heap.update p f,toks:=t}:=by
 have e:(s.heap.update p f).get? p=some {cls:=.type "list",data:=.seq its'.toArray n'}:=by rw[n9 f ho (by rw[hf]<;>rfl),hf]
 refine I.write (x:=p) (e:=p) (by rw[h];trivial) (.inl rfl) (fun b u hb q=>(nh _ _ (Ne.symm hb)).trans q) ⟨_,e⟩ ?_;exact⟨hz,its',n',r,e⟩
def zn0:V->V->V->Hp->(Hp->Prop)->Prop:=fun o i v H Q=>∃p xs k j,o=.ref p/\i=.int k/\H p=some (.lst xs)/\ixN xs.length k=some j/\Q (upd H p (.lst (xs.set j v)))
theorem set_list:PSet X zn0:=by
 intro pins s σ H o i v ov iv u Q I ro ri rv h;obtain⟨p,xs,k,j,rfl,rfl,hp,hj,q⟩:=h;cases ro;obtain⟨t,rfl⟩:=ri;obtain⟨its,n,r,ho,hz⟩:=I.lst hp;obtain⟨h1,h2,h3,h4⟩:=zdc hj;have hl:=r.length;have hn:=z4l;have I':Inv X pins σ (upd H p (.lst (xs.set j v))) {s with heap:=s.heap.update p (Obj.mapSeq (·.setIfInBounds j u))}:=I.lstUpd hp ho (zao its n j u) (r.set rv j) (by rw[ci];exact hz) s.toks;by_cases h0:0<=k
 ·have hk:k.toNat=j:=by
   rw[sw h0 h4]at h1;exact Option.some.inj h1
  exact W.ki_setAt ho h0 (by omega) (by rw[aq,<-hl];exact h4) (by rw[hk];exact⟨_,I',q⟩)
 ·have hk:(k+(its.toArray.size:Int)).toNat=j:=by
   rw[q8 (by omega) h3]at h1;rw[aq,<-hl];exact Option.some.inj h1
  exact W.ki_setBack ho (by omega) (by rw[aq,<-hl];exact h3) (by omega) (by rw[hk];exact⟨_,I',q⟩)
theorem z7v (lo hi:Option Int)(n:Nat):(jy lo hi none n).1=((HT.sIx n 0 lo:Nat):Int)/\(jy lo hi none n).2.1=((HT.sIx n n hi:Nat):Int)/\(jy lo hi none n).2.2=1:=by
 refine⟨?_,?_,rfl⟩
 ·cases lo with
  |none=>simp[jy,HT.sIx]
  |some i=>
   simp only[jy,HT.sIx,Option.getD_none,show(1:Int)>0 by decide,if_true];by_cases h:i<0
   ·simp only[h,if_true]<;>omega
   ·simp only[h,if_false]<;>omega
 ·cases hi with
  |none=>simp[jy,HT.sIx]
  |some i=>
   simp only[jy,HT.sIx,Option.getD_none,show(1:Int)>0 by decide,if_true];by_cases h:i<0
   ·simp only[h,if_true]<;>omega
   ·simp only[h,if_false]<;>omega
theorem z6d (its:List Value)(lo hi:Option Int):slicePick its.toArray lo hi none=((its.drop (HT.sIx its.length 0 lo)).take (HT.sIx its.length its.length hi-HT.sIx its.length 0 lo)).toArray:=by obtain⟨h1,h2,h3⟩:=z7v lo hi its.toArray.size;unfold slicePick;rw[h1,h2,h3];simp only[ox,pick_run,aq]<;>rfl
def rSlL (K:W.Frag):V->Option Int->Option Int->Hp->VK->Prop:=fun x lo hi H Q=>∃a xs,x=.ref a/\SqL K H a xs/\∀p,H p=none->Q (.ref p) (upd H p (.lst (cutV xs lo hi)))
theorem zjx:SlR X (rSlL X.K):=by intro pins s σ H x v vl vu lo hi sl Q I rx hs pl pu h;obtain⟨a,xs,rfl,hx,q⟩:=h;cases rx;obtain⟨its,r,ht,hz⟩:=I.list hx;have hlen:=r.length;refine⟨"list",_,slot_list_getitem.lookup,ht.isList.typeIs,?_⟩;refine wpAny_getItem_list_slice ht.isList hs pl pu .none (by simp) ?_ (by rw[aq]<;>omega);rw[z6d,<-hlen];refine⟨.ref s.heap.objs.size,_,I.laid (t':=s.toks) (o:=.lst (cutV xs lo hi)) (fun b ob q=>ag _ q) (ah _) ?_,rfl,q _ (I.hok.fresh (ah _))⟩;exact⟨ck (z4n xs lo hi) hz,_,0,(r.drop (HT.sIx xs.length 0 lo)).take (HT.sIx xs.length xs.length hi-HT.sIx xs.length 0 lo),bh _ rfl⟩
def z6s:V->Bool
 |.non=>true
 |.bl _=>true
 |.int _=>true
 |.str _=>true
 |_=>false
def eqV:V->V->Bool
 |.non,.non=>true
 |.bl a,.bl b=>a==b
 |.bl a,.int b=>(if a then 1 else 0)==b
 |.int a,.bl b=>a==(if b then 1 else 0)
 |.int a,.int b=>a==b
 |.str a,.str b=>a==b
 |_,_=>false
theorem zqv {A:bz}{s:aa}{y x:V}{u v:Value}(ry:RelV y u)(rx:RelV x v)(fy:z6s y=true)(fx:z6s x=true):SeqAt.EqAt A s u v (eqV y x):=by
 cases y with
 |non=>
  cases ry;cases x with
  |non=>cases rx;exact SeqAt.EqAt.same _
  |bl b=>cases rx;exact SeqAt.EqAt.none_bool b
  |int b=>obtain⟨t,rfl⟩:=rx;exact SeqAt.EqAt.none_int b t
  |str b=>obtain⟨t,rfl⟩:=rx;exact SeqAt.EqAt.none_str b t
  |_=>exact absurd (show false=true from fx) bj
 |bl a=>
  cases ry;cases x with
  |non=>cases rx;exact SeqAt.EqAt.bool_none a
  |bl b=>cases rx;exact SeqAt.EqAt.bool_bool a b
  |int b=>obtain⟨t,rfl⟩:=rx;exact SeqAt.EqAt.bool_int a b t
  |str b=>obtain⟨t,rfl⟩:=rx;exact SeqAt.EqAt.bool_str a b t
  |_=>exact absurd (show false=true from fx) bj
 |int a=>
  obtain⟨t',rfl⟩:=ry;cases x with
  |non=>cases rx;exact SeqAt.EqAt.int_none a t'
  |bl b=>cases rx;exact SeqAt.EqAt.int_bool a t' b
  |int b=>obtain⟨t,rfl⟩:=rx;exact SeqAt.EqAt.int_int a t' b t
  |str b=>obtain⟨t,rfl⟩:=rx;exact SeqAt.EqAt.int_str a t' b t
  |_=>exact absurd (show false=true from fx) bj
 |str a=>
  obtain⟨t',rfl⟩:=ry;cases x with
  |non=>cases rx;exact SeqAt.EqAt.str_none a t'
  |bl b=>cases rx;exact SeqAt.EqAt.str_bool a t' b
  |int b=>obtain⟨t,rfl⟩:=rx;exact SeqAt.EqAt.str_int a t' b t
  |str b=>obtain⟨t,rfl⟩:=rx;exact SeqAt.EqAt.str_str a t' b t
  |_=>exact absurd (show false=true from fx) bj
 |_=>exact absurd (show false=true from fy) bj
def eqU (x:V)(u:Value):Bool:=match u with
 |.none=>eqV .non x
 |.bool b=>eqV (.bl b) x
 |.int i _=>eqV (.int i) x
 |.str z _=>eqV (.str z) x
 |_=>false
theorem zhi {x y:V}{u:Value}(r:RelV y u)(f:z6s y=true):eqU x u=eqV y x:=by
 cases y with
 |non=>cases r;rfl
 |bl b=>cases r;rfl
 |int i=>obtain⟨t,rfl⟩:=r;rfl
 |str z=>obtain⟨t,rfl⟩:=r;rfl
 |_=>exact absurd (show false=true from f) bj
theorem z4h {x:V}:∀{xs:List V} {us:List Value},Vals xs us->xs.all z6s=true->us.any (eqU x)=xs.any fun y=>eqV y x
 |_,_,.nil,_=>rfl
 |y::xs,u::us,.cons r t,f=>by rw[cn,ak]at f;rw[ij,ij,zhi r f.1,z4h t f.2]
theorem z38 {A:bz}{s:aa}{x:V}{v:Value}(rx:RelV x v)(fx:z6s x=true):∀{xs:List V} {us:List Value},Vals xs us->xs.all z6s=true->∀u∈us,SeqAt.EqAt A s u v (eqU x u)
 |_,_,.nil,_=>fun u hu=>by cases hu
 |y::xs,u::us,.cons r t,f=>fun u' hu=>by
  rw[cn,ak]at f;rcases ao.mp hu with rfl|hu
  ·rw[zhi r f.1];exact zqv r rx f.1 fx
  ·exact z38 rx fx t f.2 u' hu
def inV (x:V)(xs:List V):Bool:=xs.any fun y=>eqV y x
def rIn (K:W.Frag)(neg:Bool):R2:=fun x y H Q=>∃p xs,y=.ref p/\(SqL K H p xs\/SqT K H p xs)/\z6s x=true/\xs.all z6s=true/\Q (.bl (if neg then !inV x xs else inV x xs)) H
theorem zaz:OpR X (b9 .In) (rIn X.K false):=by
 intro pins s σ H x y v u Q I rx ry h;obtain⟨p,xs,rfl,hq,fx,fs,q⟩:=h;cases ry;rcases hq with hq|hq
 ·obtain⟨its,r,pl,hz⟩:=I.list hq;refine SeqAt.in_listAt (eqU x) pl.isList (fun w hw=>z38 rx fx r fs w (by simpa using hw)) ⟨.bl _,H,I,rfl,?_⟩;rw[show its.toArray.any (eqU x)=its.any (eqU x) by simp,z4h r fs];exact q
 ·obtain⟨its,r,pl,hz⟩:=I.tuple hq;refine SeqAt.in_tupleAt (eqU x) pl (fun w hw=>z38 rx fx r fs w (by simpa using hw)) ⟨.bl _,H,I,rfl,?_⟩;rw[show its.toArray.any (eqU x)=its.any (eqU x) by simp,z4h r fs];exact q
theorem z7r:OpR X (b9 .NotIn) (rIn X.K true):=by
 intro pins s σ H x y v u Q I rx ry h;obtain⟨p,xs,rfl,hq,fx,fs,q⟩:=h;cases ry;rcases hq with hq|hq
 ·obtain⟨its,r,pl,hz⟩:=I.list hq;refine SeqAt.notIn_listAt (eqU x) pl.isList (fun w hw=>z38 rx fx r fs w (by simpa using hw)) ⟨.bl _,H,I,rfl,?_⟩;rw[show its.toArray.any (eqU x)=its.any (eqU x) by simp,z4h r fs];exact q
 ·obtain⟨its,r,pl,hz⟩:=I.tuple hq;refine SeqAt.notIn_tupleAt (eqU x) pl (fun w hw=>z38 rx fx r fs w (by simpa using hw)) ⟨.bl _,H,I,rfl,?_⟩;rw[show its.toArray.any (eqU x)=its.any (eqU x) by simp,z4h r fs];exact q
theorem z7y:OpR X (b9 .NotIn) (fun x y H Q=>∃i j,x=.str i/\y=.str j/\Q (.bl (!(!(b7 j i 0 j.length 1).isEmpty))) H):=by intro pins s σ H x y v u Q I rx ry h;obtain⟨i,j,rfl,rfl,q⟩:=h;obtain⟨t,rfl⟩:=rx;obtain⟨t',rfl⟩:=ry;exact notIn_str ⟨.bl _,H,I,rfl,q⟩
theorem z7a:CallR X (.builtin "len") (fun xs H Q=>∃p ys,xs=[.ref p]/\(SqL X.K H p ys\/SqT X.K H p ys)/\Q (.int ys.length) H):=by
 intro pins s σ H xs us Q I r h;obtain⟨p,ys,rfl,hq,q⟩:=h;obtain⟨u,rfl,rx⟩:=vals1 r;cases rx;have hn:=z4l;rcases hq with hq|hq
 ·obtain⟨its,r',pl,hz⟩:=I.list hq;have hlen:=r'.length;exact Calls.call_len_list pl.isList (by simp only[aq]<;>omega) ⟨.int ys.length,H,I.tok _,⟨s.toks+1,by rw[aq,hlen]⟩,q⟩
 ·obtain⟨its,r',pl,hz⟩:=I.tuple hq;have hlen:=r'.length;exact len_tuple pl (by simp only[aq]<;>omega) ⟨.int ys.length,H,I.tok _,⟨s.toks+1,by rw[aq,hlen]⟩,q⟩
theorem z6r:CallR X (.builtin "len") (fun xs H Q=>∃z,xs=[.str z]/\z.length<=bf/\Q (.int z.length) H):=by intro pins s σ H xs us Q I r h;obtain⟨z,rfl,hz,q⟩:=h;obtain⟨u,rfl,t,rfl⟩:=vals1 r;have hn:=z4l;exact len_str (by omega) ⟨.int z.length,H,I.tok _,⟨_,rfl⟩,q⟩
theorem CallR.or {f:Value}{r r':List V->Hp->VK->Prop}(h:CallR X f r)(h':CallR X f r'):CallR X f (fun xs H Q=>r xs H Q\/r' xs H Q):=by
 intro pins s σ H xs us Q I rs q;rcases q with q|q
 ·exact h pins s σ H xs us Q I rs q
 ·exact h' pins s σ H xs us Q I rs q
theorem z6x:CallR X (.type "list") (fun xs H Q=>∃p ys,xs=[.ref p]/\(SqL X.K H p ys\/SqT X.K H p ys)/\∀l,H l=none->Q (.ref l) (upd H l (.lst ys))):=by
 intro pins s σ H xs us Q I r h;obtain⟨p,ys,rfl,hq,q⟩:=h;obtain⟨u,rfl,rx⟩:=vals1 r;cases rx
 have fin:∀(its:List Value),Vals ys its->ys.length<=bf->∀(h':Heap) (c':Nat),(∀b o',s.heap.get? b=some o'->h'.get? b=some o')->
   h'.get? s.heap.objs.size=some {cls:=.type "list",dict:=none,data:=.seq its.toArray c',slots:=#[]}->EP X pins σ Q (.ref s.heap.objs.size) {s with heap:=h'}:=fun its r' hz h' c' kp e=>
  ⟨.ref s.heap.objs.size,_,I.laid (t':=s.toks) kp (ah _) (show z12 X.prog X.w _ h' _ (.lst ys)from⟨hz,its,c',r',e⟩),rfl,q _ (I.hok.fresh (ah _))⟩
 rcases hq with hq|hq
 ·obtain⟨its,r',pl,hz⟩:=I.list hq;have hlen:=r'.length;obtain⟨o,ho,hc,n,hd⟩:=pl.isList;exact call_list_seq p (.inl rfl) ho hc hd (fun h' c' kp e=>fin its r' hz h' c' kp e) (by simp only[aq]<;>omega)
 ·obtain⟨its,r',pl,hz⟩:=I.tuple hq;have hlen:=r'.length;obtain⟨o,ho,hc,n,hd⟩:=pl;exact call_list_seq p (.inr rfl) ho hc hd (fun h' c' kp e=>fin its r' hz h' c' kp e) (by simp only[aq]<;>omega)
theorem z5p:CallR X (.type "tuple") (fun xs H Q=>∃p ys,xs=[.ref p]/\((SqL X.K H p ys/\∀l,H l=none->Q (.ref l) (upd H l (.tup ys)))\/(SqT X.K H p ys/\Q (.ref p) H))):=by
 intro pins s σ H xs us Q I r h;obtain⟨p,ys,rfl,h⟩:=h;obtain⟨u,rfl,rx⟩:=vals1 r;cases rx;rcases h with⟨hq,q⟩|⟨hq,q⟩
 ·obtain⟨its,r',pl,hz⟩:=I.list hq;have hlen:=r'.length;refine call_tuple_list pl.isList (fun h' kp=>?_) (by simp only[aq]<;>omega);have I1:Inv X pins σ H {s with heap:=h'}:=I.kept (t':=s.toks) kp;have I2:Inv X pins σ (upd H h'.objs.size (.tup ys)) {s with heap:=h'.push {cls:=.type "tuple",data:=.seq its.toArray}}:=I1.laid (t':=s.toks) (fun b o e=>ag _ e) (ah _) (show z12 X.prog X.w _ _ _ (.tup ys)from⟨hz,its,r',TupN.new _ _⟩);exact⟨.ref h'.objs.size,_,I2,rfl,q _ (I1.hok.fresh (ah _))⟩
 ·obtain⟨its,r',pl,hz⟩:=I.tuple hq;exact call_tuple_same pl ⟨.ref p,H,I,rfl,q⟩
def tyV (K:W.Frag)(T:String)(x:V)(H:Hp):Prop:=match x with
 |.str _=>T="str"
 |.int _=>T="int"
 |.ref p=>(T="list"/\∃xs,SqL K H p xs)\/(T="tuple"/\∃o,K.lookup p=some o/\o.cls=.type "tuple"/\o.dict=none)\/(T="dict"/\∃kvs,H p=some (.dK kvs))
 |_=>False
theorem zim {pins:List (Addr×Obj)}{σ:St}{H:Hp}{s:aa}{T:String}{x:V}{v:Value}(I:Inv X pins σ H s)(r:RelV x v)(ty:tyV X.K T x H):
  s.TypeIs v T/\∀a,v=.ref a->∃ob,s.heap.get? a=some ob/\ob.dict=none:=by
 cases x with
 |str z=>obtain⟨t,rfl⟩:=r;cases(show T="str"from ty);exact⟨jq s z t,fun _ e=>nomatch e⟩
 |int i=>obtain⟨t,rfl⟩:=r;cases(show T="int"from ty);exact⟨typeIs_int s i t,fun _ e=>nomatch e⟩
 |ref p=>
  cases r;rcases ty with⟨rfl,xs,hq⟩|⟨rfl,o,hk,hc,hd⟩|⟨rfl,kvs,hk⟩
  ·obtain⟨its,_,pl,_⟩:=I.list hq;refine⟨pl.isList.typeIs,fun a e=>?_⟩;cases e;obtain⟨o,n,e,c,hd,_⟩:=pl;exact⟨o,e,hd⟩
  ·refine⟨⟨o,I.kIn p o hk,hc⟩,fun a e=>?_⟩;cases e;exact⟨o,I.kIn _ o hk,hd⟩
  ·obtain⟨_,_,_,_,o,_,_,e,ex,_⟩:=I.hok p _ hk;refine⟨⟨o,e,ex.1⟩,fun a e2=>?_⟩;cases e2;exact⟨o,e,ex.2.1⟩
 |_=>exact False.elim ty
def tBM0 (K:W.Frag)(T:String)(r:V->List V->Hp->VK->Prop)(to:TE):TE:=fun σ H Q=>to σ H fun x H1=>tyV K T x H1/\r x [] H1 Q
def tBM (K:W.Frag)(T:String)(r:V->List V->Hp->VK->Prop)(to:TE)(t:TA):TE:=fun σ H Q=>to σ H fun x H1=>tyV K T x H1/\t σ H1 fun xs H2=>r x xs H2 Q
variable {o e:Expr}{es:List Expr}{to:TE}{t:TA}{name:Str}{apos cpos:Pos}{T id:String}{r:V->List V->Hp->VK->Prop}
theorem zqr (pa:ub T)(slot:Slot T name id)(hty:oy (.builtin id)=pure (.type "method_descriptor"))(hm:MtR X id r)(ho:PE X o to)
  (hbase:me o name X.env (eval o X.env)=eval o X.env:=by rfl) (hline:(apos.endLine==cpos.line)=true:=by rfl):PE X (.Call (.Attribute o name apos) [] [] cpos) (tBM0 X.K T r to):=by
 intro pins s σ H Q I h;refine wpAny_Call_method0_late hbase hline (thn (ho pins s σ H _ I h) fun v s1 ⟨x,H1,I1,r1,ty,q1⟩=>?_);obtain⟨h1,h2⟩:=zim I1 r1 ty;exact⟨T,id,pa,slot,hty,h1,h2,nk rfl (PySem.evalArgs_none (hm pins s1 σ H1 x [] v [] Q I1 r1 .nil q1))⟩
theorem zav (pa:ub T)(slot:Slot T name id)(hty:oy (.builtin id)=pure (.type "method_descriptor"))(hm:MtR X id r)(ho:PE X o to)(ha:PA X (e::es) t)
  (hbase:me o name X.env (eval o X.env)=eval o X.env:=by rfl)
  (hfew:((j7 cpos (cy (e::es) X.env)).all (fun x=> !x.1)&&(backToKw cpos (sv [] X.env)).all (fun x=>x.1.isSome)
   &&decide ((e::es).length+([]:List m8).length+(if([]:List m8).isEmpty then 0 else 1)<30))=true:=by rfl)
  (hline:(apos.endLine==cpos.line)=true:=by rfl) (hs:cy (e::es) X.env=(false,eval e X.env)::cy es X.env:=by rfl) (hplain:(j7 cpos (cy es X.env)).any (·.1)=false:=by rfl):
  PE X (.Call (.Attribute o name apos) (e::es) [] cpos) (tBM X.K T r to t):=by
 intro pins s σ H Q I h;refine wpAny_Call_method_late hbase hfew hline rfl (thn (ho pins s σ H _ I h) fun v s1 ⟨x,H1,I1,r1,ty,q1⟩=>?_);obtain⟨h1,h2⟩:=zim I1 r1 ty;refine⟨T,id,pa,slot,hty,h1,h2,?_⟩;have hA:=ha cpos pins s1 σ H1 _ I1 q1;rw[hs]at hA ⊢;refine nk (by show(false||(j7 cpos (cy es X.env)).any (·.1))=false;rw[hplain]<;>rfl) (oz ?_);exact thn hA fun us s2 ⟨vs,H2,I2,r2,q2⟩=>hm pins s2 σ H2 x vs v us Q I2 r1 r2 q2
end
def MtM (X:Cx)(id:String)(r:V->List V->Hp->VK->Prop):Prop:=∀(pins:List (Addr×Obj)) (s:aa) (σ:St) (H:Hp) (x:V) (xs:List V) (v:Value) (us:List Value) (Q:VK),Inv X pins σ H s->RelV x v->Vals xs us->r x xs H Q->wpAny (model X.prog X.w) X.A (call (.builtin id) (v::us)) (EP X pins σ Q) X.xe s
theorem Vals.one {x:V}{us:List Value}(h:Vals [x] us):∃u,us=[u]/\RelV x u:=by
 cases h with
 |cons r h=>cases h;exact⟨_,rfl,r⟩
theorem Vals.two {x y:V}{us:List Value}(h:Vals [x,y] us):∃u v,us=[u,v]/\RelV x u/\RelV y v:=by
 cases h with
 |cons r h=>cases h with
  |cons q h=>cases h;exact⟨_,_,rfl,r,q⟩
theorem Vals.zero:∀{us:List Value},Vals [] us->us=[]
 |_,.nil=>rfl
theorem Vals.dropLast {xs:List V}{us:List Value}(h:Vals xs us):Vals xs.dropLast us.dropLast:=by
 induction h with
 |nil=>exact .nil
 |cons r t ih=>
  cases t with
  |nil=>exact .nil
  |cons q t'=>exact .cons r ih
theorem Vals.eraseIdx:∀{xs:List V} {us:List Value} (i:Nat),Vals xs us->Vals (xs.eraseIdx i) (us.eraseIdx i)
 |_,_,_,.nil=>.nil
 |_,_,0,.cons _ t=>t
 |_,_,i+1,.cons r t=>.cons r (Vals.eraseIdx i t)
theorem Vals.rep {xs:List V}{us:List Value}(h:Vals xs us):∀k:Nat,Vals (bw k xs).flatten (bw k us).flatten
 |0=>.nil
 |k+1=>by rw[ja,ja,fm,fm];exact Vals.append h (Vals.rep h k)
theorem z6p {α:Type}:∀(l:List α) (i:Nat),(l.eraseIdx i).length<=l.length
 | [],_=>ah _
 |_::_,0=>Nat.le_succ _
 |_::r,i+1=>Nat.succ_le_succ (z6p r i)
section
variable {X:Cx}{pins:List (Addr×Obj)}{σ:St}{H:Hp}{s:aa}{l b:Addr}{xs ys zs:List V}
theorem Inv.lset {its its':List Value}{n:Nat}{f:Array Value->Array Value}{t':Nat}(I:Inv X pins σ H s)(hH:H l=some (.lst xs))
  (e:s.heap.get? l=some {cls:=.type "list",data:=.seq its.toArray n}) (hf:f its.toArray=its'.toArray) (hv:Vals ys its') (hz:ys.length<=bf):
  Inv X pins σ (upd H l (.lst ys)) {s with heap:=s.heap.update l (Obj.mapSeq f),toks:=t'}:=by
 have q:=PySem.IsL.update e f;rw[hf]at q;refine I.write (x:=l) (e:=l) (by rw[hH];exact trivial) (.inl rfl) (fun b' u hb hu=>(nh s.heap (Obj.mapSeq f) (Ne.symm hb)).trans hu) ⟨_,q⟩ ?_;exact⟨hz,its',_,hv,q⟩
theorem Inv.lnew {its:List Value}{t':Nat}(I:Inv X pins σ H s)(hv:Vals ys its)(hz:ys.length<=bf):
  Inv X pins σ (upd H s.heap.objs.size (.lst ys)) {s with heap:=s.heap.push {cls:=.type "list",data:=.seq its.toArray},toks:=t'}:=
 I.laid (fun _ _ q=>ag _ q) (ah _) ⟨hz,its,0,hv,bh _ rfl⟩
theorem Inv.fresh (I:Inv X pins σ H s):H s.heap.objs.size=none:=I.hok.fresh (ah _)
theorem Inv.lstM (I:Inv X pins σ H s)(hH:H l=some (.lst xs)):xs.length<=bf/\∃(its:List Value) (n:Nat),Vals xs its/\xs.length=its.length/\s.heap.get? l=some {cls:=.type "list",data:=.seq its.toArray n}:=by obtain⟨z,its,n,r,e⟩:=I.hok l _ hH;exact⟨z,its,n,r,r.length,e⟩
end
section
variable {X:Cx}
def zlg:V->List V->Hp->VK->Prop:=fun x vs H Q=>∃l xs y,x=.ref l/\vs=[y]/\H l=some (.lst xs)/\xs.length<bf/\Q .non (upd H l (.lst (xs++[y])))
theorem z7o:MtM X "list.append" zlg:=by intro pins s σ H x vs v us Q I rx rv h;obtain⟨l,xs,y,rfl,rfl,hH,hz,q⟩:=h;cases rx;obtain⟨u,rfl,ru⟩:=rv.one;obtain⟨z,its,n,r,hl,e⟩:=I.lstM hH;refine jr F.slot_list_append ⟨_,e,rfl⟩ F.entry_list_append (F.args_list_append_2 _ _) (PySem.list_append l its.toArray n u (by rw[aq];omega)) ⟨e,?_⟩;refine⟨.non,_,I.lset (its':=its++[u]) hH e (by simp) (r.append (.cons ru .nil)) ?_,rfl,q⟩;rw[az,List.length_singleton];omega
def zrd:V->List V->Hp->VK->Prop:=fun x vs H Q=>∃l xs i k y,x=.ref l/\vs=[.int i]/\H l=some (.lst xs)/\-(2 ^ 63)<=i/\i<2 ^ 63/\sr i xs.length=some k/\xs[k]?=some y/\Q y (upd H l (.lst (xs.eraseIdx k)))
theorem zfx:MtM X "list.pop" zrd:=by
 intro pins s σ H x vs v us Q I rx rv h;obtain⟨l,xs,i,k,y,rfl,rfl,hH,h1,h2,hk,hy,q⟩:=h;cases rx;obtain⟨u,rfl,ru⟩:=rv.one;obtain⟨t,rfl⟩:=ru;obtain⟨z,its,n,r,hl,e⟩:=I.lstM hH;obtain⟨w,hw,rw'⟩:=r.get hy;refine jr F.slot_list_pop ⟨_,e,rfl⟩ F.entry_list_pop (F.args_list_pop_2 _ _) (MeetsSeq.list_pop_at l its.toArray n i t k w (fitsIndex_both h1 h2) (by rw[aq,<-hl];exact hk) (by rw[<-og];exact hw) (by rw[aq];omega)) ⟨e,?_⟩;refine⟨y,_,I.lset (its':=its.eraseIdx k) hH e ?_ (r.eraseIdx k) ?_,rw',q⟩
 ·show its.toArray.eraseIdxIfInBounds k=(its.eraseIdx k).toArray;rw[List.eraseIdxIfInBounds_toArray]
 ·have :=z6p xs k;omega
def rCat:R2:=fun x y H Q=>∃l b xs zs,x=.ref l/\y=.ref b/\H l=some (.lst xs)/\H b=some (.lst zs)/\xs.length+zs.length<=bf/\∀p,H p=none->Q (.ref p) (upd H p (.lst (xs++zs)))
theorem zq7:OpR X (ge .Add) rCat:=by
 intro pins s σ H x y v u Q I rx ry h;obtain⟨l,b,xs,zs,rfl,rfl,hH,hB,hz,q⟩:=h;cases rx;cases ry;obtain⟨z,its,n,r,hl,e⟩:=I.lstM hH;obtain⟨z2,its2,n2,r2,hl2,e2⟩:=I.lstM hB;refine PySem.P.add_list e e2 ?_ (by rw[aq,aq];omega);have ea:its.toArray++its2.toArray=(its++its2).toArray:=by simp
 rw[ea];exact⟨.ref _,_,I.lnew (t':=s.toks) (r.append r2) (by rw[az];omega),rfl,q _ I.fresh⟩
end
section
variable {prog:bc}{w:World}{A:bz}{E:Value->aa->Prop}{s:aa}
end
section
variable {X:Cx}
end
end L2
namespace Att
open PySem PySem.W PySem.Calls PyProof.Rows
theorem z4u {P:gc}{h:Heap}:∀(ns:List Int) (vs:List Value),WellAll P h vs (ns.map WData.int)->tw vs ns:=by
 intro ns
 induction ns with
 |nil=>intro vs w;rw[rc]at w;cases w;exact .nil
 |cons n ns ih=>
  intro vs w;rw[ae]at w;cases w with
  |cons a b=>cases a;exact .cons _ _ (ih _ b)
theorem zbx {l:OpenLaw}{n:Nat}(hn:l.most=some n){P:gc}{h:Heap}{args:List WData}{vals:List Value}
  (hpre:l.row.toRowW.claim.pre args=true) (hwl:WellAll P h vals args):
  ∃a vs ns,vals=[Value.ref a]/\args=[WData.list (ns.map WData.int)]/\h.get? a=some {cls:=.type "list",data:=.seq vs.toArray}/\tw vs ns/\ns.length<=n:=by
 have hsh:WShape.hasAll [] args [.list .int]=true:=(pre_splitW hpre).1;have hc:l.pre.holds [] {args:=args}=true:=(pre_splitW hpre).2;obtain⟨d,r,rfl,h1,h2⟩:=hasAllW_cons hsh;obtain rfl:=hasAllW_nil h2;obtain⟨xs,rfl,h3⟩:=hasW_list h1;obtain⟨ns,rfl⟩:=items_int h3
 have hlen:ns.length<=n:=by
  unfold OpenLaw.pre at hc;have h4:(WTm.not (.lt (.lit (.int (n:Int))) (.len (.arg 0)))).holds [] {args:=[.list (ns.map .int)]}=true:=by have h4:=(holds_andW hc).1;rw[hn]at h4;exact h4
  have h5:=condW_of h4 (w_not (w_lt w_lit (w_len_list (w_arg rfl))));rw[am]at h5;refine mv fun q=>?_;have q':(n:Int)<((ns.length:Nat):Int):=by omega
  first
   |(rw[ul q']at h5;exact absurd h5 (by decide))
   |(simp at h5;omega)
 cases hwl with
 |cons w1 w2=>
  cases w2;cases w1 with
  |list ho hall=>exact⟨_,_,ns,rfl,rfl,ho,z4u ns _ hall,hlen⟩
theorem zbk (l:OpenLaw)(args:List WData):l.row.toRowW.claim.post args (.bool true) args=true:=
 postW_of (r:=l.row.toRowW) (X:=(true==true))
  (show WShape.has [] (.bool true) .bool=true by first|rfl|decide|simp[WShape.has,WShape.arms,WShape.armsAll])
  (show(WTm.eq .res (.lit (.bool true))).value [] {args:=args,res:=some (.bool true),after:=args}=some (.bool (true==true))from w_eq_bool (w_res rfl) w_lit) rfl
theorem attach_call {l:OpenLaw}{n:Nat}{q:bc}{loose:List Str}{XP:(Str->Option Value)->Heap->Prop}{YP:World->Heap->Prop}{d:ui}
  (hn:l.most=some n) (hdf:d.params.defaults=[])
  (call:∀(w:World) (s₀ s₁:aa) (mg mb:Str->Option Value) (fa:Addr) (o:Obj) (pm cd doc:Value) (a:Addr) (vs:List Value) (ns:List Int),
   Ground q loose [] XP w s₀ mg mb s₁.heap->YP w s₁.heap->
   s₁.heap.get? fa=some o->o.data=.func (docDef d.name d.params d.body d.scope pm cd doc)->s₁.heap.CodeRec cd d.name->mg d.name=some (.ref fa)->
   s₁.heap.get? a=some {cls:=.type "list",data:=.seq vs.toArray}->tw vs ns->ns.length<=n->s₁.gens=#[]->
   l7 (model l.prog w) pj (.call (.ref fa) ⟨[.ref a],[]⟩) (fun r s'=>r=.ok (.ret (.bool true))/\OldK s₁.heap s'.heap/\s'.os=s₁.os/\lb s'.gens) s₁):
  WalkO q loose XP YP l.row.toRowW d [] (fun f vs=>PySem.call f vs):=by
 intro w s₀ s₁ mg mb G Y fa o pm cd doc dV kV ho hd hcd hD hmg hg args vals as hpre hlay hrd hwl hlo;obtain rfl:dV=.none:=Dflts.none hD hdf;obtain rfl:kV=.none:=Dflts.noKw hD;obtain⟨a,vs,ns,rfl,rfl,hobj,hints,hlen⟩:=zbx hn hpre hwl;refine enter_call (m7 (call w s₀ s₁ mg mb fa o pm cd doc a vs ns G Y ho (fd_plain hd) hcd hmg hobj hints hlen hg) fun r s' hq=>?_);obtain⟨rfl,h2,h3,h4⟩:=hq;exact⟨.inl ⟨.bool true,.bool true,[],rfl,fun _=>rfl,.bool true,zbk l _,fun _=>⟨List.Pairwise.nil,fun _ hm=>(nomatch hm)⟩⟩,h2,h3,h4⟩
section
variable {prog:bc}{w:World}{A:bz}{E:Value->aa->Prop}{s:aa}{K:Frag}
end
end Att
namespace L2
open PySem PySem.Spec PyProof.Rows
theorem z6m:∀{vs:List Value} {ns:List Int},tw vs ns->Vals (ns.map V.int) vs
 |_,_,.nil=>.nil
 |_,_,.cons n t h=>.cons ⟨t,rfl⟩ (z6m h)
def Only (H:Hp):Prop:=∀b,H b=none\/∃o xs,H b=some (.frz o (.lst xs))
theorem zeo {P:bc}{w:World}{K:W.Frag}{mg mb:Str->Option Value}{CX:CXT}{k:Nat}{fa a:Addr}{fd:fg}{x:Str}{sp:Sp}{s₁:aa}{vs:List Value}{ns:List Int}
  (KX:K.In s₁.heap) (hns:s₁.heap.Ns bv mg) (hb:s₁.heap.Ns tz mb) (hbb:∀x:Str,x≠"__name__"->mb x=cv x) (hlim:s₁.heap.NoLimit) (hg:s₁.gens=#[])
  (ha:s₁.heap.get? a=some {cls:=.type "list",data:=.seq vs.toArray}) (hi:tw vs ns) (hl:ns.length<=bf) (hr:Room k pj)
  (F:∀base:Heap,K.In base->base.Ns bv mg->FnOk P w K mg base CX k fa fd [x] sp) (hbind:∀(s:aa) (u:Value),ph s fd ⟨[u],[]⟩ [(x,u)])
  (hsp:∀H:Hp,Only H->SqL K H a (ns.map V.int)->sp [.ref a] H (fun v _=>v=.bl true) fun _ _ _=>False)
  (hCX:∀H e s',CX [] H s₁ (fun _ _ _=>False) e s'->False):
  l7 (model P w) pj (.call (.ref fa) ⟨[.ref a],[]⟩) (fun r s'=>r=.ok (.ret (.bool true))/\OldK s₁.heap s'.heap/\s'.os=s₁.os/\lb s'.gens) s₁:=by
 have rv:=z6m hi;have lenV:=hi.length
 have core:∀H:Hp,Only H->SqL K H a (ns.map V.int)->HOk P w H s₁.heap->(∀b,H b≠none->b=a)->(H a≠none->K.lookup a=none)->
   l7 (model P w) pj (.call (.ref fa) ⟨[.ref a],[]⟩) (fun r s'=>r=.ok (.ret (.bool true))/\OldK s₁.heap s'.heap/\s'.os=s₁.os/\lb s'.gens) s₁:=by
  intro H hO hS hok hA hK;have z3f:∀{b:Addr} {o:Obj},s₁.heap.get? b=some o->H b=none->(hidT s₁.heap H).get? b=some o:=fun e n=>zfp e n
  have noA:∀{b:Addr} {o:Obj} {es:Array DictEntry} {ep:Nat},s₁.heap.get? b=some o->o.data=.dict es ep->H b=none:=fun{b o es ep} e d=>by
   cases q:H b with
   |none=>rfl
   |some u=>have e':b=a:=hA b (by rw[q];simp);subst e';rw[ha]at e;cases e;have d':Data.seq vs.toArray _=Data.dict es ep:=d;cases d'
  have nsK:∀{b:Addr} {m:Str->Option Value},s₁.heap.Ns b m->(hidT s₁.heap H).Ns b m:=fun{b m} ⟨o,es,ep,e,d,r⟩=>⟨o,es,ep,z3f e (noA e d),d,r⟩
  have hKb:K.In (hidT s₁.heap H):=fun b o e=>z3f (KX b o e) (by
   cases q:H b with
   |none=>rfl
   |some u=>have e':b=a:=hA b (by rw[q];simp);subst e';rw[hK (by rw[q];simp)]at e;cases e)
  have hM:Mod K mg (hidT s₁.heap H):=⟨hKb,nsK hns,⟨mb,nsK hb,hbb⟩,let⟨mc,h1,h2⟩:=hlim;⟨mc,nsK h1,h2⟩⟩;have e0:Env0 P w K mg (hidT s₁.heap H) pj [] s₁ H:=⟨rfl,hM,fun b o e=>zk0 e,Nat.le_of_eq (zbg _ _),trivial,fun b hb=>absurd (show b∈([]:List Addr)from hb) (by simp),hok,.of_eq hg⟩;refine m7 ((F _ hKb (nsK hns)).run pj [] s₁ H ⟨[.ref a],[]⟩ [.ref a] [.ref a] _ _ hr e0 (hbind s₁ (.ref a)) (.cons rfl .nil) (hsp H hO hS)) fun r s' h=>?_;cases r with
  |error e=>exact(hCX H e s' h).elim
  |ok fl=>
   cases fl with
   |next=>exact False.elim h
   |brk=>exact False.elim h
   |cont=>exact False.elim h
   |ret u=>
    obtain⟨v,H',os,bare,un,hok',r',q⟩:=h;have q':v=.bl true:=q;subst q';obtain rfl:u=Value.bool true:=r';refine⟨rfl,OldK.of_keep fun b o e=>?_,os,bare⟩;cases q:H b with
    |none=>exact un.keep b o e q (by intro z;exact absurd (show b∈([]:List Addr)from z) (by simp)) (by simp)
    |some u=>
     rcases hO b with z|⟨ob,xs,z⟩
     ·rw[q]at z;cases z
     ·have z2:=un.frzs b ob _ z;obtain⟨e1,_⟩:=hok b _ z;obtain⟨e2,_⟩:=hok' b _ z2;rw[e]at e1;cases e1;exact e2
 cases hk:K.lookup a with
 |some o=>have e:=KX a o hk;rw[ha]at e;cases e;refine core (fun _=>none) (fun _=>.inl rfl) (.inr ⟨_,vs.toArray,_,hk,rfl,rfl,rfl,by rw[aq,lenV];exact hl,by simpa using rv⟩) (fun b u z=>by have z':(none:Option HO)=some u:=z;cases z') (fun b z=>absurd rfl z) fun z=>absurd rfl z
 |none=>
  refine core (fun b=>if b=a then some (.frz {cls:=.type "list",data:=.seq vs.toArray} (.lst (ns.map V.int)))else none) (fun b=>?_) (.inl (.inr ⟨{cls:=.type "list",data:=.seq vs.toArray},if_pos rfl⟩)) (fun b u z=>?_) (fun b z=>?_) fun _=>hk
  ·by_cases hb:b=a
   ·exact .inr ⟨_,_,if_pos hb⟩
   ·exact .inl (if_neg hb)
  ·by_cases hb:b=a
   ·have z':=(if_pos hb).symm.trans z;cases z';subst hb;exact⟨ha,by rw[am];exact hl,vs,_,rv,ha⟩
   ·have z':=(if_neg hb).symm.trans z;cases z'
  ·by_cases hb:b=a
   ·exact hb
   ·exact absurd (if_neg hb) z
theorem walk_of {l:W.OpenLaw}{n k:Nat}{q:bc}{loose:List Str}{XP:(Str->Option Value)->Heap->Prop}{YP:World->Heap->Prop}{d:ui}{K:gc->W.Frag}{CX:World->CXT}{sp:World->Sp}{x:Str}
  (hn:l.most=some n) (hn2:n<=bf) (hdf:d.params.defaults=[]) (hr:Room k pj)
  (hY:∀(w:World) (h:Heap),YP w h->(K w.params).In h)
  (F:∀(w:World) (mg:Str->Option Value) (fa:Addr) (h:Heap),(K w.params).In h->h.Ns bv mg->mg d.name=some (.ref fa)->∃fd:fg,(∀(s:aa) (u:Value),ph s fd ⟨[u],[]⟩ [(x,u)])/\∀base:Heap,(K w.params).In base->base.Ns bv mg->FnOk l.prog w (K w.params) mg base (CX w) k fa fd [x] (sp w))
  (hsp:∀(w:World) (H:Hp) (a:Addr) (ns:List Int),ns.length<=n->Only H->SqL (K w.params) H a (ns.map V.int)->sp w [.ref a] H (fun v _=>v=.bl true) fun _ _ _=>False)
  (hCX:∀(w:World) (H:Hp) (s:aa) (e:Value) (s':aa),CX w [] H s (fun _ _ _=>False) e s'->False):
  W.WalkO q loose XP YP l.row.toRowW d [] (fun f vs=>PySem.call f vs):=by
 refine Att.attach_call hn hdf fun w s₀ s₁ mg mb fa o pm cd doc a vs ns G Y ho hd hcd hmg hobj hints hlen hg=>?_;have KX:=hY w _ Y;obtain⟨fd,hb,hF⟩:=F w mg fa _ KX G.T.g hmg;exact zeo KX G.T.g G.T.b G.T.builtins G.T.nolimit hg hobj hints (ck hlen hn2) hr hF hb (fun H hO hS=>hsp w H a ns hlen hO hS) fun H e s'=>hCX w H s₁ e s'
def z1o (s:Stmt):Arguments:=match s with
 |.FunctionDef _ a _ _ _ _ _ _ _ _=>a
 |_=>{posonlyargs:=[],args:=[],vararg:=none,kwonlyargs:=[],kw_defaults:=[],kwarg:=none,defaults:=[]}
def z15 (s:Stmt):List Stmt:=match s with
 |.FunctionDef _ _ b _ _ _ _ _ _ _=>b
 |_=>[]
def z0c (s:Stmt):Scope:=match s with
 |.FunctionDef _ _ _ _ _ _ sc _ _ _=>sc
 |_=>{kind:=.function,names:=[],isGenerator:=false,isCoroutine:=false}
abbrev CX0:CXT:=fun _ _ _ _ _ _=>False
abbrev E0:XK:=fun _ _ _=>False
theorem zs8 {X:Cx}:zcj CX0 X E0:=fun _ _ _ _ _ _ _ h=>h.elim
structure Fun (K:W.Frag)(x qual:Str)(st:Stmt)(f:Addr)(fd:fg):Prop where
 ex:∃(oc:Value) (od:Option Addr) (kV doc pm:Value) (an:Option Addr) (cdv ct:Value) (osl:Array (Option Value)),fd=W.fnOf x qual (z1o st) (z15 st) (z0c st) .none kV doc pm an cdv ct/\K.lookup f=some ⟨oc,od,.func fd,osl⟩/\W.codeIn K cdv qual=true
 kp:W.keepIn K (.ref f)=true
section
variable {P:bc}{w:World}{K:W.Frag}{mg:Str->Option Value}{base:Heap}
theorem Fun.ok {x qual:Str}{st:Stmt}{f:Addr}{fd:fg}{N ps:List Str}{k:Nat}{sp:Sp}(F:Fun K x qual st f fd)(S:FnScope N ps (z0c st))(len:∀vs H Q E,sp vs H Q E->vs.length=ps.length)
  (hbody:∀(cdv:Value) (A:bz) (outer:List Env) (s:aa) (H:Hp) (vs:List V) (Q:VK) (E:XK),Room k (A.deeper (ow qual (z0c st) s.heap.objs.size f cdv))->sp vs H Q E->∃t,PSs (cxOf CX0 P w K mg base N qual (z0c st) f cdv A outer s H E).nox (z15 st) t/\t {nx:=fun _ H'=>Q .non H',rt:=Q} (start N vs) H):FnOk P w K mg base CX0 (k+1) f fd ps sp:=by
 obtain⟨oc,od,kV,doc,pm,an,cdv,ct,osl,rfl,lk,hcd⟩:=F.ex;refine zoh lk hcd S len fun A outer s H vs Q E hr hsp=>?_;obtain⟨t,h,q⟩:=hbody cdv A outer s H vs Q E hr hsp;exact⟨t,h.nox,q⟩
theorem Fun.binds {x qual:Str}{st:Stmt}{f:Addr}{fd:fg}{ps:List Str}(F:Fun K x qual st f fd)
  (h:∀(kV doc pm:Value) (an:Option Addr) (cdv ct:Value) (us:List Value),us.length=ps.length->ua (W.fnOf x qual (z1o st) (z15 st) (z0c st) .none kV doc pm an cdv ct) ⟨us,[]⟩=pure (ps.zip us)):Binds K fd ps []:=by
 obtain⟨oc,od,kV,doc,pm,an,cdv,ct,osl,rfl,lk,hcd⟩:=F.ex;exact .all (h kV doc pm an cdv ct)
theorem zdg {x qual:Str}{st:Stmt}{f:Addr}{oc:Value}{od an:Option Addr}{osl:Array (Option Value)}{kV doc pm cdv ct:Value}(l:K.lookup f=some ⟨oc,od,.func (W.fnOf x qual (z1o st) (z15 st) (z0c st) .none kV doc pm an cdv ct),osl⟩) (c:W.codeIn K cdv qual=true) (k:W.keepIn K (.ref f)=true):Fun K x qual st f (W.fnOf x qual (z1o st) (z15 st) (z0c st) .none kV doc pm an cdv ct):=⟨⟨oc,od,kV,doc,pm,an,cdv,ct,osl,rfl,l,c⟩,k⟩
end
section
variable {X:Cx}
end
theorem iteF {A B:Prop}(h:B):if false=true then A else B:=by rw[if_neg bj];exact h
theorem iteT {A B:Prop}(h:A):if true=true then A else B:=by rw[if_pos rfl];exact h
def Same (H H':Hp):Prop:=∀b o,H b=some o->H' b=some o
theorem Same.refl (H:Hp):Same H H:=fun _ _ h=>h
theorem Same.trans {H H1 H2:Hp}(a:Same H H1)(b:Same H1 H2):Same H H2:=fun c o h=>b c o (a c o h)
theorem Same.free {H H':Hp}(e:Same H H'){l:Addr}(h:H' l=Option.none):H l=Option.none:=by
 cases q:H l with
 |none=>rfl
 |some o=>rw[e l o q]at h;cases h
theorem Same.seq {K:W.Frag}{H H':Hp}{a:Addr}{xs:List V}(e:Same H H')(h:SqL K H a xs):SqL K H' a xs:=by
 rcases h with(h|⟨o,h⟩)|h
 ·exact .inl (.inl (e _ _ h))
 ·exact .inl (.inr ⟨o,e _ _ h⟩)
 ·exact .inr h
section
variable {X:Cx}
theorem zd4:CallR X (.builtin "len") (fun xs H Q=>∃a kvs,xs=[V.ref a]/\H a=some (.dK kvs)/\Q (.int kvs.length) H):=by intro pins s σ H xs us Q I r h;obtain⟨a,kvs,rfl,ha,q⟩:=h;obtain⟨u,rfl,ru⟩:=vals1 r;cases ru;exact zt3 I (.inl ha) fun t s' I'=>⟨.int kvs.length,H,I',⟨t,rfl⟩,q⟩
end
section
variable {κ:Type} [DecidableEq κ]
end
end L2
set_option maxHeartbeats 5000000
namespace L2
open PySem PySem.Spec PyProof.Rows
def clOf (env:Env):List (Str×fi)->List (Str×Addr)->List (Str×Addr)
 | [],cs=>cs
 |(n,k)::r,cs=>clOf env r (if(k==.free)=true then(n,(env.cells.lookup n).getD 0)::cs else cs)
theorem za1 {env:Env}{x:Str}:∀(l:List (Str×fi)) (cs:List (Str×Addr)),(∃c,cs.lookup x=some c)->∃c,(clOf env l cs).lookup x=some c
 | [],cs,h=>h
 |(n,k)::r,cs,h=>by
  unfold clOf;refine za1 r _ ?_;split
  ·by_cases e:(x==n)=true
   ·exact⟨_,by rw[df,e]⟩
   ·obtain⟨c,hc⟩:=h;exact⟨c,by rw[df,re.mpr e];exact hc⟩
  ·exact h
theorem z48 {env:Env}{x:Str}:∀(l:List (Str×fi)) (cs:List (Str×Addr)),l.lookup x=some .free->∃c,(clOf env l cs).lookup x=some c
 | [],cs,h=>by simp at h
 |(n,k)::r,cs,h=>by
  rw[df]at h;unfold clOf;cases e:(x==n)with
  |true=>rw[e]at h;have hk:k=.free:=Option.some.inj h;subst hk;exact za1 r _ ⟨_,by rw[if_pos (by rfl),df,e]⟩
  |false=>rw[e]at h;exact z48 r _ h
theorem ze5 {env:Env}:∀(l:List (Str×fi)) (cs:List (Str×Addr)),(∀y∈l,y.2=.free->∃c,env.cells.lookup y.1=some c)->(∀x c,cs.lookup x=some c->env.cells.lookup x=some c)->
  ∀x c,(clOf env l cs).lookup x=some c->env.cells.lookup x=some c
 | [],cs,_,h=>h
 |(n,k)::r,cs,hl,h=>by
  unfold clOf;refine ze5 r _ (fun y hy=>hl y (aw _ hy)) fun x c hx=>?_;by_cases hk:(k==NameKind.free)=true
  ·rw[if_pos hk,df]at hx;cases e:(x==n)with
   |true=>
    rw[e]at hx;have hxn:x=n:=by simpa using e
    obtain⟨d,hd⟩:=hl (n,k) au (by simpa using hk);have hd':env.cells.lookup n=some d:=hd;rw[hd']at hx;rw[hxn,hd'];exact hx
   |false=>rw[e]at hx;exact h x c hx
  ·rw[if_neg hk]at hx;exact h x c hx
theorem z31 {env:Env}{scope:Scope}(h:∀y∈scope.names,y.2=.free->∃c,env.cells.lookup y.1=some c):closureFor scope env=pure (clOf env scope.names []):=by
 have go:∀(l:List (Str×fi)) (cs:List (Str×Addr)),(∀y∈l,y.2=.free->∃c,env.cells.lookup y.1=some c)->
   (forIn l cs fun(x:Str×fi) (r:List (Str×Addr))=>if(x.2==NameKind.free)=true then(do let a <-cellOf env x.1;pure (ForInStep.yield ((x.1,a)::r)):Sem _)else pure (ForInStep.yield r))=(pure (clOf env l cs):Sem _):=by
  intro l
  induction l with
  |nil=>intro cs _;rfl
  |cons y r ih=>
   intro cs hl;obtain⟨n,k⟩:=y;rw[List.forIn_cons];unfold clOf;by_cases hk:(k==NameKind.free)=true
   ·obtain⟨c,hc⟩:=hl (n,k) au (by simpa using hk);have hc':env.cells.lookup n=some c:=hc;have e:cellOf env n=pure c:=by unfold cellOf;rw[hc']
    rw[if_pos hk,if_pos hk]
    dsimp only
    rw[e,hc'];exact ih ((n,c)::cs) fun y hy=>hl y (aw _ hy)
   ·rw[if_neg hk,if_neg hk];exact ih cs fun y hy=>hl y (aw _ hy)
 unfold closureFor;have:=go scope.names [] h
 first
  |exact this
  |(show(forIn scope.names [] _>>=fun r=>pure r)=_;rw[show(forIn scope.names ([]:List (Str×Addr)) _:Sem _)=_ from this];rfl)
theorem zat {scope:Scope}{env:Env}(hc:∀y∈scope.names,y.2≠.cell){x:Str}:
  (uj scope env).names.lookup x=some .cell\/(uj scope env).names.lookup x=some .free->scope.names.lookup x=some .free:=by
 have go:∀(l:List (Str×fi)),(∀y∈l,y.2≠ .cell)->∀k,(k=NameKind.cell\/k=NameKind.free)->
   (l.map fun(n,k)=>if(k==.free&&env.scope.kind==.function&&env.kindOf n==some .cell)then(n,NameKind.cell)else(n,k)).lookup x=some k->l.lookup x=some .free:=by
  intro l
  induction l with
  |nil=>intro _ k _ h;simp at h
  |cons y r ih=>
   intro hl k hk h;obtain⟨n,q⟩:=y;rw[ae]at h;rw[df];by_cases c:(q==NameKind.free&&env.scope.kind==.function&&env.kindOf n==some .cell)=true
   ·have hq:q=.free:=by
     simp only[ak]at c;simpa using c.1.1
    dsimp only at h
    rw[if_pos c,df]at h;cases e:(x==n)with
    |true=>rw[hq]
    |false=>rw[e]at h;exact ih (fun y hy=>hl y (aw _ hy)) k hk h
   ·dsimp only at h
    rw[if_neg c,df]at h;cases e:(x==n)with
    |true=>
     rw[e]at h;have hq:q=k:=Option.some.inj h;rcases hk with hk|hk
     ·exact absurd (hq.trans hk) (hl (n,q) au)
     ·show some q=some .free;rw[hq,hk]
    |false=>rw[e]at h;exact ih (fun y hy=>hl y (aw _ hy)) k hk h
 rintro(h|h)
 ·exact go scope.names hc .cell (.inl rfl) h
 ·exact go scope.names hc .free (.inr rfl) h
def blk (X:Cx)(scope:Scope)(N':List Str)(C:Addr)(fp:List Addr)(s:aa)(H:Hp):Cx:={X with N:=N',s₀:=s,H₀:=H,env:=compEnvC scope (clOf X.env scope.names []) C X.env,outer:=X.stack,stack:=X.stack,ex:=fp,fn:=fun _=>false,xe:=fun _ _=>False,fx:=none}
structure BlkScope (X:Cx)(scope:Scope)(N':List Str)(nt:Nat)(js:List Nat):Prop where
 kind:scope.kind=.function
 nocell:∀y∈scope.names,y.2≠.cell
 names:∀y∈scope.names,y.2=.local->scope.names.lookup y.1=some .local
 frees:∀y∈scope.names,y.2=.free->X.env.scope.names.lookup y.1=some .cell\/X.env.scope.names.lookup y.1=some .free
 nd:N'.Nodup
 len:N'.length=nt+js.length
 pl:∀(i j:Nat),js[i]?=some j->N'[nt+i]?=X.N[j]?/\∃x,X.N[j]?=some x/\scope.names.lookup x=some .free
def blkB (NX:List Str)(sc0 scope:Scope)(N':List Str)(nt:Nat)(js:List Nat):Bool:=
 (scope.kind==.function)&&scope.names.all (fun y=>!(y.2==.cell))&&scope.names.all (fun y=>!(y.2==.local)||(scope.names.lookup y.1==some .local))&&
 scope.names.all (fun y=>!(y.2==.free)||(sc0.names.lookup y.1==some .cell)||(sc0.names.lookup y.1==some .free))&&decide N'.Nodup&&(N'.length==nt+js.length)&&
 (N'.drop nt==js.map fun j=>NX.getD j "")&&js.all (fun j=>decide (j<NX.length)&&(scope.names.lookup (NX.getD j "")==some .free))
theorem zp8 {X:Cx}{NX:List Str}{sc0 scope:Scope}{N':List Str}{nt:Nat}{js:List Nat}(hN:X.N=NX)(hs:X.env.scope=sc0)(h:blkB NX sc0 scope N' nt js=true):BlkScope X scope N' nt js:=by
 unfold blkB at h;simp only[ak,ax,decide_eq_true_eq,beq_iff_eq,cj,eh,beq_eq_false_iff_ne]at h;obtain⟨⟨⟨⟨⟨⟨⟨h1,h2⟩,h3⟩,h4⟩,h5⟩,h6⟩,h7⟩,h8⟩:=h;refine⟨h1,h2,fun y hy e=>(h3 y hy).resolve_left (fun z=>z e),fun y hy e=>?_,h5,h6,fun i j hj=>?_⟩
 ·rw[hs];rcases h4 y hy with(z|z)|z
  ·exact absurd e z
  ·exact .inl z
  ·exact .inr z
 ·obtain⟨a,b⟩:=h8 j (cw hj);have e:X.N[j]?=some (NX.getD j ""):=by rw[hN,bd a,a9,bd a];rfl
  refine⟨?_,_,e,b⟩;rw[e,<-List.getElem?_drop,h7,bo,hj];rfl
def emb (nt:Nat)(js:List Nat)(σ:St):St:=bw nt none++js.map fun j=>σ.getD j none
section
variable {X:Cx}{scope:Scope}{N':List Str}{nt:Nat}{js:List Nat}
theorem zla {pins:List (Addr×Obj)}{σ:St}{H:Hp}{s:aa}{fp:List Addr}{h1:Heap}{m1:Str->Option Value}{t1:Nat}(B:BlkScope X scope N' nt js)(I:Inv X pins σ H s)
  (hfp:∀b∈fp,FpOk X pins H b) (hob:∀b∈fp,∃o,s.heap.get? b=some o)
  (k:∀b o,s.heap.get? b=some o->h1.get? b=some o) (hn:h1.Ns s.heap.objs.size m1):
  Inv (blk X scope N' s.heap.objs.size fp s H) pins (emb nt js σ) H {s with heap:=h1,toks:=t1}:=by
 have hcs:∀y∈scope.names,y.2=.free->∃c,X.env.cells.lookup y.1=some c:=fun y hy hf=>I.ok.has y.1 (B.frees y hy hf);have hcl:∀x c,(clOf X.env scope.names []).lookup x=some c->X.env.cells.lookup x=some c:=ze5 _ _ hcs (fun x c h=>by simp at h);have lt:∀b o,s.heap.get? b=some o->b≠s.heap.objs.size:=fun b o e=>bx (bg e);have hf:H s.heap.objs.size=none:=I.hok.fresh (ah _);refine⟨⟨I.ok.mod,B.kind,I.ok.glob,I.ok.blt,ah _,fun x y c h1 h2=>I.ok.inj x y c (hcl x c h1) (hcl y c h2),fun x hx=>z48 _ _ (zat B.nocell hx),fun x c h=>(by cases h),I.ok.hd,I.ok.frames,.inl rfl,fun b hb=>?_,I.bs,ck I.ok.bsz I.sz,fun b o e hb=>?_,fun b hb hx=>?_,I.stack,I.stkFree,fun _ _ z=>by cases z⟩,rfl,I.bare,Un.kept k,⟨m1,hn,fun i x v e1 e2 e3=>?_⟩,fun x c e=>?_,hf,fun x c e=>I.freeC x c (hcl x c e),fun p hp=>?_,I.hok.kept k,?_,fun _ _ z=>by cases z⟩
 ·obtain⟨o,ho⟩:=hob b hb;exact⟨lt b o ho,fun x c h=>(hfp b hb).2.2.2.2.1 x c (hcl x c h)⟩
 ·rcases(hfp b hb).2.2.2.1 with z|z
  ·exact I.ok.noex b o e z
  ·exact absurd (br (bg e) (ck I.ok.bsz z)) (b6 _)
 ·rcases ao.mp (I.stkSub b hx)with z|z
  ·exact(hfp b hb).2.1 z
  ·exact(hfp b hb).2.2.1 z
 ·--a name with a value:one of the frame's
  have hi:nt<=i:=by refine mv fun h=>?_;unfold emb at e2;rw[gp (by rw[c6];exact h),f9,if_pos h]at e2;cases e2
  unfold emb at e2;rw[fj (by rw[c6];exact hi),c6,bo]at e2;cases ej:js[i-nt]? with
  |none=>rw[ej]at e2;cases e2
  |some j=>
   rw[ej]at e2;have e2':σ.getD j none=some v:=Option.some.inj e2;obtain⟨h1',y,hy,hfree⟩:=B.pl (i-nt) j ej;rw[pq hi]at h1';have exy:x=y:=by have e1':N'[i]?=some x:=e1;rw[h1',hy]at e1';exact(Option.some.inj e1').symm
   subst exy
   have hσ:σ[j]?=some (some v):=by
    rw[a9]at e2';cases q:σ[j]? with
    |none=>rw[q]at e2';cases e2'
    |some z=>rw[q]at e2';exact congrArg some e2'
   have hfr:=B.frees (x,.free) (PySem.mem_of_lookup hfree) rfl;have hvis:Vis X.env.scope x:=hfr.elim (fun z=>.inr (.inl z)) (fun z=>.inr (.inr z));obtain⟨m,hnm,hl⟩:=I.loc;obtain⟨u,r,l⟩:=hl j x v hy hσ hvis;refine⟨u,r,?_⟩;rcases l with⟨hk,_⟩|⟨hk,c,hc,hcell⟩
   ·rcases hfr with z|z
    ·have hk':X.env.scope.names.lookup x=some .local:=hk;rw[z]at hk';cases hk'
    ·have hk':X.env.scope.names.lookup x=some .local:=hk;rw[z]at hk';cases hk'
   ·obtain⟨d,hd⟩:=z48 (env:=X.env) scope.names [] hfree;have hdc:d=c:=by have:=hcl x d hd;rw[hc]at this;cases this;rfl
    subst hdc;refine .inr ⟨?_,d,hd,?_⟩
    ·rcases e3 with z|z|z
     ·exfalso;have z':(uj scope X.env).names.lookup x=some .local:=z
      have:∀(l:List (Str×fi)),l.lookup x=some .free->(l.map fun(n,k)=>if(k==.free&&X.env.scope.kind==.function&&X.env.kindOf n==some .cell)then(n,NameKind.cell)else(n,k)).lookup x≠some .local:=by
       intro l
       induction l with
       |nil=>intro h;simp at h
       |cons y r ih=>
        intro h;obtain⟨n,q⟩:=y;rw[df]at h;rw[ae]
        dsimp only
        cases e:(x==n)with
        |true=>
         rw[e]at h;have hq:q=.free:=Option.some.inj h;subst hq;split
         ·rw[df,e];intro z;cases z
         ·rw[df,e];intro z;cases z
        |false=>
         rw[e]at h;split
         ·rw[df,e];exact ih h
         ·rw[df,e];exact ih h
      exact this _ hfree z'
     ·exact .inl z
     ·exact .inr z
    ·obtain⟨o,ho,hd'⟩:=hcell;exact⟨o,k _ _ ho,hd'⟩
 ·obtain⟨v,o,ho,hd⟩:=I.cell x c (hcl x c e);exact⟨v,o,k _ _ ho,hd⟩
 ·obtain⟨q1,q2,q3,q4,q5⟩:=I.pin p hp;refine⟨k _ _ q1,q2,lt _ _ q1,fun z=>?_,q5⟩;rcases ao.mp (I.stkSub p.1 z)with z|z
  ·exact q3 z
  ·exact q4 z
 ·show(emb nt js σ).length=N'.length;unfold emb;rw[az,c6,am,B.len]
end
section
variable (M:Model)(A:bz)(env:Env)
abbrev calmX:Value->aa->Prop:=fun _ _=>False
def zrz (acc:Value)(Z:aa->Prop)(x:Value):aa->Prop:=wpAny M A (call (.builtin "list.append") [acc,x]) (fun _=>Z) calmX
def cElt (elt:Expr)(acc:Value)(Z:aa->Prop)(ok:Bool)(s:aa):Prop:=if ok=true then wpAny M A (eval elt env) (zrz M A acc Z) calmX s else Z s
def ztq (ifs:List Expr)(elt:Expr)(acc:Value)(Z:aa->Prop):aa->Prop:=wpAny M A (forIn ifs true fun c r=>if r=true then(oo c env (eval c env)>>=fun ok=>pure (ForInStep.yield ok))else pure (ForInStep.yield r)) (cElt M A env elt acc Z) calmX
def cPut (tg:Expr)(ifs:List Expr)(elt:Expr)(acc:Value)(Z:aa->Prop)(v:Value):aa->Prop:=wpAny M A (m4 tg env v) (fun _=>ztq M A env ifs elt acc Z) calmX
def cVal (tg:Expr)(ifs:List Expr)(elt:Expr)(it acc:Value)(End Z:aa->Prop)(r:Option Value)(s:aa):Prop:=match r with
 |some v=>wpAny M A (jh tg it v) (fun _=>cPut M A env tg ifs elt acc Z v) calmX s
 |none=>End s
end
theorem zl9 {P:bc}{w:World}{A:bz}{R:uh->aa->Prop}{s:aa}{elt tg iter:Expr}{ifs:List Expr}{scope:Scope}{pos:Pos}{it acc:Value}{env:Env}(I:Nat->aa->Prop)
  (one:∀k t,I k t->wpAny (model P w) A (pyNext it) (cVal (model P w) A env tg ifs elt it acc (R (.ok .next)) fun t'=>∃m,m<k/\I m t') calmX t) (n:Nat) (h:I n s):
  l7 (model P w) A (.compLoop (.ListComp elt [⟨tg,iter,ifs,0⟩] scope pos) 0 it acc env) R s:=by
 apply codeAny_loop rfl I _ n h;intro k t hk;apply wpAny_noted;apply wpAny_noRaise;rw[compTurn_list];apply af;apply qc;apply af;refine thn (one k t hk) ?_
 rintro(_|v) t1 h1
 ·exact a8 h1
 apply af;refine thn (show wpAny _ _ _ _ _ _ from h1) fun _ t2 h2=>?_;apply af;refine thn (show wpAny _ _ _ _ _ _ from h2) fun _ t3 h3=>?_;apply af;refine thn (show wpAny _ _ _ _ _ _ from h3) ?_
 rintro(_|_) t4 h4
 ·exact a8 ⟨rfl,h4⟩
 apply af;apply af;refine thn (show wpAny _ _ _ _ _ _ from h4) fun x t5 h5=>?_;apply af;refine thn (show wpAny _ _ _ _ _ _ from h5) fun _ t6 h6=>?_;exact a8 (a8 ⟨rfl,h6⟩)
theorem Un.but {fs ex:List Addr}{H H1:Hp}{h h1 h':Heap}{C:Addr}(u:Un fs ex H H1 h h1)(hC:h.get? C=none)(sb:g7 C h1 h'):Un fs ex H H1 h h':=by
 have ne:∀b o,h.get? b=some o->b≠C:=fun b o e z=>by rw[z,hC]at e;cases e
 exact⟨fun b o e n hb hx=>sb.extBut b o (ne b o e) (u.keep b o e n hb hx),fun b o e n hb hx=>let⟨sl,q⟩:=u.slot b o e n hb hx;⟨sl,sb.extBut b _ (ne b o e) q⟩,u.free,fun b o e hx=>let⟨o',q⟩:=u.there b o e hx;⟨o',sb.extBut b _ (ne b o e) q⟩,u.tups,u.frzs,u.tbls⟩
theorem HOk.but {P:bc}{w:World}{H:Hp}{h h':Heap}{C:Addr}(ok:HOk P w H h)(hC:H C=none)(sb:g7 C h h'):HOk P w H h':=fun a o e=>by
 refine(ok a o e).stay (fun b u hb q=>sb.extBut b u (fun z=>?_) q) (fun _ q=>q) fun _ _ q=>q;rcases hb with hb|hb
 ·rw[z]at hb;rw[<-hb,hC]at e;cases e
 ·rw[z,hC]at hb;cases hb
def PTs (X:Cx)(ifs:List Expr)(t:TT):Prop:=∀(pins:List (Addr×Obj)) (s:aa) (σ:St) (H:Hp) (Q:Bool->Hp->Prop),Inv X pins σ H s->t σ H Q->wpAny (model X.prog X.w) X.A (forIn ifs true fun c r=>if r=true then do let ok <-oo c X.env (eval c X.env);pure (ForInStep.yield ok)else pure (ForInStep.yield r)) (TP X pins σ Q) X.xe s
def tYes:TT:=fun _ H Q=>Q true H
theorem zlr {X:Cx}:PTs X [] tYes:=fun _ _ _ H _ I h=>wpAny_tests_nil ⟨H,I,h⟩
theorem zk5 {X:Cx}{c:Expr}{t:TT}(h:PT X c t):PTs X [c] t:=fun pins s σ H Q I q=>wpAny_tests_one (h pins s σ H Q I q)
def Keep (a b:St):Prop:=a.length=b.length/\∀(i:Nat) v,a[i]?=some (some v)->b[i]?=some (some v)
theorem Keep.refl (a:St):Keep a a:=⟨rfl,fun _ _ h=>h⟩
def tLC (wi:TI)(g:TG)(tc:TT)(te:TE)(em:St->St):TE:=fun σ H Q=>wi σ H fun J H1=>∀l,H1 l=none->∃P:Nat->Nat->List V->Hp->Prop,(∃m,P 0 m [] (upd H1 l (.lst [])))/\∀i m acc H2,P i m acc H2->(J.stop i H2/\Q (.ref l) H2)\/(J.go i H2/\acc.length<bf/\∃N:List V->Hp->Prop,(∀acc' H',N acc' H'->∃m',m'<m/\P (i+1) m' acc' H')/\∀x H3,J.yld i H2 x H3->g x (em σ) H3 fun σ4 H4=>Keep (em σ) σ4/\tc σ4 H4 fun b H5=>if b=true then te σ4 H5 fun y H6=>H6 l=some (.lst acc)/\N (acc++[y]) (upd H6 l (.lst (acc++[y])))else N acc H5)
section
variable {X:Cx}{scope:Scope}{N':List Str}{nt:Nat}{js:List Nat}{tg iter elt:Expr}{ifs:List Expr}{wi:TI}{g:TG}{tc:TT}{te:TE}{pos:Pos}
theorem z5a {pins:List (Addr×Obj)}{σ:St}{s2:aa}{Q:VK}{itv:Value}{E:Value->aa->Prop}{RR:Value->Addr->uh->aa->Prop}(hc:X.calm=true)(B:BlkScope X scope N' nt js)
  (hg:∀C fp s H,PG (blk X scope N' C fp s H) tg g) (ht:∀C fp s H,PTs (blk X scope N' C fp s H) ifs tc) (he:∀C fp s H,PE (blk X scope N' C fp s H) elt te)
  (h2:PIE X pins σ tg (fun J H1=>∀l,H1 l=none->∃P:Nat->Nat->List V->Hp->Prop,(∃m,P 0 m [] (upd H1 l (.lst [])))/\∀i m acc H2,P i m acc H2->(J.stop i H2/\Q (.ref l) H2)\/(J.go i H2/\acc.length<bf/\∃N:List V->Hp->Prop,(∀acc' H',N acc' H'->∃m',m'<m/\P (i+1) m' acc' H')/\∀x H3,J.yld i H2 x H3->g x (emb nt js σ) H3 fun σ4 H4=>Keep (emb nt js σ) σ4/\tc σ4 H4 fun b H5=>
  if b=true then te σ4 H5 fun y H6=>H6 l=some (.lst acc)/\N (acc++[y]) (upd H6 l (.lst (acc++[y])))else N acc H5)) itv s2)
  (hRR:∀(l C:Addr) (H':Hp) (s1:aa),(∃m,s1.heap.Ns C m)->H' C=none->C≠X.env.locals->C∉X.fs->(∀x c,X.env.cells.lookup x=some c->c≠C)->X.s₀.heap.objs.size<=C->(∀p∈X.pn++pins,p.1≠C)->(∀h',g7 C s1.heap h'->Inv X pins σ H' {s1 with heap:=h'})->Q (.ref l) H'->RR (.ref l) C (.ok .next) s1):
  wpAny (model X.prog X.w) X.A (newList []) (fun acc s₃=>wpAny (model X.prog X.w) X.A (newFunctionEnv scope X.env.globals (clOf X.env scope.names []) [] X.env.qual none .none (some X.env)) (fun cenv s₄=>l7 (model X.prog X.w) X.A (.compStart (.ListComp elt [⟨tg,iter,ifs,0⟩] scope pos) 0 itv acc {cenv with scope:=uj scope X.env}) (RR acc cenv.locals) s₄) E s₃) E s2:=by
 obtain⟨it,fp,tn,J,H2,rfl,I2,T,st2,f2,q⟩:=h2;refine iz (wpAny_newFunctionEnv B.nocell (by intro y hy;simp at hy) (fun h₁ hns₁ hsb₁=>?_) B.kind)
 dsimp only at hns₁ hsb₁ ⊢
 have hob2:∀b∈fp,∃o,s2.heap.get? b=some o:=fun b hb=>let⟨o,e,_⟩:=T.obj 0 _ st2 b hb;⟨o,e⟩;have hl:H2 s2.heap.objs.size=none:=I2.hok.fresh (ah _);have I3:=I2.lnew (ys:=[]) (its:=[]) (t':=s2.toks) .nil (ce _);obtain⟨P,⟨m0,p0⟩,turn⟩:=q _ hl;generalize hHh:s2.heap.push {cls:=.type "list",dict:=none,data:=.seq ([]:List Value).toArray}=Hh at hns₁ hsb₁ I3 ⊢;generalize hlv:s2.heap.objs.size=l at hl I3 p0 turn ⊢;have old2:∀b o,s2.heap.get? b=some o->Hh.get? b=some o:=fun b o e=>hHh▸ag _ e;have k:∀b o,Hh.get? b=some o->h₁.get? b=some o:=fun b o e=>hsb₁.extBut b o (bx (bg e)) (ag _ e)
 have f3:∀b∈fp,FpOk X pins (upd H2 l (.lst [])) b:=fun b hb=>by
  obtain⟨o,e⟩:=hob2 b hb;have nl:b≠l:=by rw[<-hlv];exact bx (bg e)
  exact⟨by rw[z02 nl];exact(f2 b hb).1,(f2 b hb).2⟩
 have hob3:∀b∈fp,∃o,Hh.get? b=some o:=fun b hb=>let⟨o,e⟩:=hob2 b hb;⟨o,old2 b o e⟩;have J0:=zla (s:={s2 with heap:=Hh,toks:=s2.toks}) (t1:=s2.toks+([]:List (Str×Value)).length) B I3 f3 hob3 k hns₁;have stA:∀{H':Hp},(∀b∈fp,H' b=none)->∀b∈fp,FpOk (blk X scope N' Hh.objs.size fp {s2 with heap:=Hh,toks:=s2.toks} (upd H2 l (.lst []))) pins H' b:=fun hn b hb=>⟨hn b hb,(J0.ok.exf b hb).1,J0.ok.exfs b hb,.inl hb,(J0.ok.exf b hb).2,(f2 b hb).2.2.2.2.2⟩;have hCn:Hh.get? Hh.objs.size=none:=on (ah _);have out:∀{H':Hp} {s1:aa},Inv (blk X scope N' Hh.objs.size fp {s2 with heap:=Hh,toks:=s2.toks} (upd H2 l (.lst []))) pins (emb nt js σ) H' s1->∀h',g7 Hh.objs.size s1.heap h'->Inv X pins σ H' {s1 with heap:=h'}:=fun{H' s1} Jn h' sb=>by refine I3.call' (s':={s1 with heap:=h'}) (ch:=fp) Jn.os (Un.but Jn.base hCn sb) (Jn.hok.but Jn.free sb) Jn.bare fun b hb=>?_;exact⟨(f3 b hb).2.2.2.1,(f3 b hb).2.1,(f3 b hb).2.2.2.2.1,(f3 b hb).2.2.2.2.2⟩
 have nL:Hh.objs.size≠X.env.locals:=Nat.ne_of_gt (I3.lt);have nF:Hh.objs.size∉X.fs:=I3.nofs (ah _);have nC:∀x c,X.env.cells.lookup x=some c->c≠Hh.objs.size:=fun x c e z=>by obtain⟨v,q⟩:=I3.cell x c e;exact absurd q.lt (by rw[z];exact b6 _)
 have nS:X.s₀.heap.objs.size<=Hh.objs.size:=I3.sz;have nP:∀p∈X.pn++pins,p.1≠Hh.objs.size:=fun p hp=>bx (bg (I3.pin p hp).1)
 have loop:∀s₃:aa,s₃={s2 with heap:=h₁,toks:=s2.toks+([]:List (Str×Value)).length}->
   l7 (model X.prog X.w) X.A (.compLoop (.ListComp elt [⟨tg,iter,ifs,0⟩] scope pos) 0 (.ref it) (.ref l) (compEnvC scope (clOf X.env scope.names []) Hh.objs.size X.env)) (RR (.ref l) Hh.objs.size) s₃:=by
  rintro s₃ rfl
  refine zl9 (fun n s'=>∃i acc H',Inv (blk X scope N' Hh.objs.size fp {s2 with heap:=Hh,toks:=s2.toks} (upd H2 l (.lst []))) pins (emb nt js σ) H' s'/\tn i s'.heap/\(∀b∈fp,H' b=none)/\P i n acc H') ?_ m0 ⟨0,[],_,J0,T.keep _ _ _ st2 fun b _ o e=>k b o (old2 b o e),fun b hb=>(f3 b hb).1,p0⟩
  rintro n s3 ⟨i,acc,H3,Jn,st3,fr3,w3⟩
  rcases turn i n acc H3 w3 with⟨stop,qn⟩|⟨go,hz8,N,hN,step⟩
  ·refine thn (T.done (blk X scope N' Hh.objs.size fp {s2 with heap:=Hh,toks:=s2.toks} (upd H2 l (.lst []))) rfl rfl rfl hc i pins s3 _ H3 (fun _ _=>False) Jn (stA fr3) st3 stop) fun r s4 ⟨hr,I4⟩=>?_;subst hr;obtain⟨m,hn,_⟩:=id I4.loc;exact hRR l Hh.objs.size H3 s4 ⟨m,hn⟩ I4.free nL nF nC nS nP (out I4) qn
  ·refine thn (T.item (blk X scope N' Hh.objs.size fp {s2 with heap:=Hh,toks:=s2.toks} (upd H2 l (.lst []))) rfl rfl rfl hc i pins s3 _ H3 (fun _ _=>False) Jn (stA fr3) st3 go) fun r s4 ⟨u,hr,h4⟩=>?_;subst hr;refine thn h4 fun _ s5 ⟨x,H5,I5,r5,y5,st5,fr5⟩=>?_;have I5':=I5.pinned (stA fr5) (T.obj _ _ st5);refine thn (hg _ _ _ _ _ s5 _ H5 x u _ I5' r5 (step x H5 y5)) fun _ s6 ⟨σ6,H6,I6,kp,q6⟩=>?_;refine thn (ht _ _ _ _ _ s6 σ6 H6 _ I6 q6) fun b s7 ⟨H7,I7,q7⟩=>?_
   have again:∀{s7:aa} {H7:Hp} {acc':List V},Inv (blk X scope N' Hh.objs.size fp {s2 with heap:=Hh,toks:=s2.toks} (upd H2 l (.lst []))) (pins++z7j fp s5.heap) σ6 H7 s7->N acc' H7->
     ∃m,m<n/\∃i acc H',Inv (blk X scope N' Hh.objs.size fp {s2 with heap:=Hh,toks:=s2.toks} (upd H2 l (.lst []))) pins (emb nt js σ) H' s7/\tn i s7.heap/\(∀b∈fp,H' b=none)/\P i m acc H':=fun{s7 H7 acc'} I7 w7=>by
    obtain⟨n',hm,w7⟩:=hN _ _ w7;refine⟨n',hm,i+1,acc',H7,(I7.unpinned).weak kp.1 kp.2,T.keep _ _ _ st5 fun b hb o e=>(I7.pin (b,o) (bu _ (bu _ (z2i hb e)))).1,fun b hb=>?_,w7⟩;obtain⟨o,e,d⟩:=T.obj _ _ st5 b hb;exact(I7.pin (b,o) (bu _ (bu _ (z2i hb e)))).2.1
   cases b with
   |false=>rw[if_neg bj]at q7;unfold cElt;rw[if_neg bj];exact again I7 q7
   |true=>rw[if_pos rfl]at q7;unfold cElt;rw[if_pos rfl];refine thn (he _ _ _ _ _ s7 σ6 H7 _ I7 q7) fun y' s8 ⟨y,H8,I8,r8,hl8,w8⟩=>?_;refine thn (z7o _ s8 σ6 H8 (.ref l) [y] (.ref l) [y'] (fun _ H9=>N (acc++[y]) H9) I8 rfl (.cons r8 .nil) ⟨l,acc,y,rfl,rfl,hl8,hz8,w8⟩) fun _ s9 ⟨v9,H9,I9,r9,w9⟩=>?_;exact again I9 w9
 exact codeAny_compStart_list (loop _ rfl) (T.self _ 0 _ _ _ (T.keep _ _ _ st2 fun b _ o e=>k b o (old2 b o e)) (loop _ rfl))
theorem zg3 (hc:X.calm=true)(B:BlkScope X scope N' nt js)(hi:PI X tg iter wi)
  (hg:∀C fp s H,PG (blk X scope N' C fp s H) tg g) (ht:∀C fp s H,PTs (blk X scope N' C fp s H) ifs tc) (he:∀C fp s H,PE (blk X scope N' C fp s H) elt te)
  (hs:∀x,e9 iter X.env x=pure x:=by intro _;rfl):PE X (.ListComp elt [⟨tg,iter,ifs,0⟩] scope pos) (tLC wi g tc te (emb nt js)):=by
 intro pins s σ H Q I h;rw[eval_ListComp];refine mf (use:=none) rfl hs (z31 fun y hy hf=>I.ok.has y.1 (B.frees y hy hf)) B.kind B.names (thn (hi pins s σ H _ I h) fun v s1 h1=>thn h1 fun itv s2 h2=>?_);refine z5a (RR:=fun acc C=>compPost (model X.prog X.w) X.A X.xe none (EP X pins σ Q) acc C) hc B hg ht he h2 ?_;intro l C H' s1 ns _ _ _ _ _ _ out q;obtain⟨m,hn⟩:=ns;exact⟨m,hn,fun h' sb=>⟨.ref l,H',out h' sb,rfl,q⟩⟩
def znc (i:Nat)(t:TE):TS:=fun D σ H=>t σ H fun v H1=>D.nx (σ.set i (some v)) H1
theorem zfw {y:Str}{py spos:Pos}{i:Nat}(hc:X.calm=true)(hN:X.N.Nodup)(hy:X.N[i]?=some y)(hl:X.env.scope.names.lookup y=some .local)(B:BlkScope X scope N' nt js)(hi:PI X tg iter wi)
  (hg:∀C fp s H,PG (blk X scope N' C fp s H) tg g) (ht:∀C fp s H,PTs (blk X scope N' C fp s H) ifs tc) (he:∀C fp s H,PE (blk X scope N' C fp s H) elt te)
  (hsw:km (.ListComp elt [⟨tg,iter,ifs,0⟩] scope pos) (some (.Name y py)) spos.line X.env=pure true)
  (hs:∀x,e9 iter X.env x=pure x:=by intro _;rfl):PS X (.Assign [.Name y py] (.ListComp elt [⟨tg,iter,ifs,0⟩] scope pos) spos) (znc i (tLC wi g tc te (emb nt js))):=by
 intro pins s σ H D I h;have ex:=exec_Assign_Name_used _ _ _ _ hsw;rw[ex];apply af;apply qc;apply af;show wpAny _ X.A (do let _ <-comprehension (.ListComp elt [⟨tg,iter,ifs,0⟩] scope pos) scope X.env _ (newList []) false (eval iter X.env) (some (m4 (.Name y py) X.env))) _ _ s;refine af (jp (mf (use:=some (m4 (.Name y py) X.env)) (Q:=fun _ s'=>SP X pins D .next s') rfl hs (z31 fun z hz hf=>I.ok.has z.1 (B.frees z hz hf)) B.kind B.names (thn (hi pins s σ H _ I h) fun v s1 h1=>thn h1 fun itv s2 h2=>?_)) (fun _ s' hq=>a8 (a8 hq)) fun _ _ e=>e);refine z5a (Q:=fun v H1=>D.nx (σ.set i (some v)) H1) (RR:=fun acc C=>compPost (model X.prog X.w) X.A X.xe (some (m4 (.Name y py) X.env)) (fun _ s'=>SP X pins D .next s') acc C) hc B hg ht he h2 ?_;intro l C H' s1 ns hH nL nF nC nS nP out q;obtain⟨m,hn⟩:=ns;have I1:Inv X pins σ H' s1:=out s1.heap (.refl ..);obtain⟨oC,es,ep,hoC,hdC,hrC⟩:=id hn
 have I2:Inv X (pins++[(C,oC)]) σ H' s1:=I1.pins_of fun p hp=>(cx.mp hp).elim (fun z=>I1.pin p (bu _ z)) fun z=>by
  have e:p=(C,oC):=by simpa using z
  subst e;exact⟨hoC,hH,nL,nF,fun v z=>by have z':oC.data=.cell v:=z;rw[hdC]at z';cases z'⟩
 show wpAny _ X.A (m4 (.Name y py) X.env (.ref l)) _ _ s1;refine qv (z68 I2 hN hy (.inl hl) (v:=.ref l) rfl (fun s'' I''=>?_) (.inr hl));have hC2:=(I''.pin (C,oC) (bu _ (bu _ (cf.mpr rfl)))).1;refine⟨m,⟨oC,es,ep,hC2,hdC,hrC⟩,fun h' sb=>⟨_,H',?_,q⟩⟩;exact(I''.unpinned).turned (t':=s''.toks) (fun b o hb e=>sb.extBut b o hb e) hH nL (.inr nS) nC nP
end
def Its (z:Str):It:=⟨fun i _=>i<z.cps.size,fun i H x H'=>H'=H/\∃c,z.cps[i]?=some c/\x=.str ⟨#[c]⟩,fun i _=>z.cps.size<=i⟩
theorem zfm {P:bc}{w:World}{K:W.Frag}{tg:Expr}{ty:String}(hty:ty="str_ascii_iterator"\/ty="str_iterator")(it:Addr)(z:Str)(t:Tok):Turn P w K tg (Its z) [it] it (fun i h=>h.IsStrIter it ty z t i) where
 mem:=by simp
 obj:=fun i h st b hb=>by
  have e:b=it:=by simpa using hb
  subst e;obtain⟨o,e,c,d⟩:=st;exact⟨o,e,fun v z=>by rw[d]at z;cases z⟩
 keep:=fun i h h' st k=>let⟨o,e,r⟩:=st;⟨o,k it (by simp) o e,r⟩
 item:=by
  intro X hP hw hK hc i pins s σ H E I hf st hg;subst hP hw hK;obtain⟨f0,f1,f2,f3,f4,f5⟩:=hf it (by simp);have hi:i<z.cps.size:=hg
  have fin:∀(u:Value) (h':Heap) (tk:Nat),SignAt z i u->h'.IsStrIter it ty z t (i+1)->(∀b o,b∉ [it]->s.heap.get? b=some o->h'.get? b=some o)->
    ∃u',some u=some u'/\wpAny (model X.prog X.w) X.A (jh tg (.ref it) u') (fun _ s2=>∃x H',Inv X pins σ H' s2/\RelV x u'/\(Its z).yld i H x H'/\s2.heap.IsStrIter it ty z t (i+1)/\∀b∈[it],H' b=none) E {s with heap:=h',toks:=tk}:=by
   rintro u h' tk ⟨c,t',hx,rfl⟩ st' kk
   have I1:Inv X pins σ H {s with heap:=h',toks:=tk}:=I.turned (fun b o hb e=>kk b o (by simpa using hb) e) f0 f1 f3 f4 f5;obtain⟨o,e,cc,d⟩:=id st';exact⟨_,rfl,zb7 (s:={s with heap:=h',toks:=tk}) e cc d (by rcases hty with rfl|rfl<;>decide) ⟨.str ⟨#[c]⟩,H,I1,⟨t',rfl⟩,⟨rfl,c,hx,rfl⟩,st',fun b hb=>(hf b hb).1⟩⟩
  rcases hty with rfl|rfl
  ·exact(Walks.strAscii (prog:=X.prog) (w:=X.w) (I.ok.hd hc) it z t).item i s _ _ hi st fun v h' tk hv st' kk=>fin v h' tk hv st' kk
  ·exact(Walks.strWide (prog:=X.prog) (w:=X.w) (I.ok.hd hc) it z t).item i s _ _ hi st fun v h' tk hv st' kk=>fin v h' tk hv st' kk
 done:=by
  intro X hP hw hK hc i pins s σ H E I hf st hg;subst hP hw hK;obtain⟨f0,f1,f2,f3,f4,f5⟩:=hf it (by simp);have hi:z.cps[i]?=none:=by have:z.cps.size<=i:=hg;simpa using this
  rcases hty with rfl|rfl
  ·exact wpAny_pyNext_ascii_end (I.ok.hd hc) st hi fun h' eb=>⟨rfl,I.turned (t':=s.toks) (fun b o hb e=>eb b o hb e) f0 f1 f3 f4 f5⟩
  ·exact wpAny_pyNext_wide_end (I.ok.hd hc) st hi fun h' eb=>⟨rfl,I.turned (t':=s.toks) (fun b o hb e=>eb b o hb e) f0 f1 f3 f4 f5⟩
 self:=fun _ _ _ _ _ st h=>by
  rcases hty with rfl|rfl
  ·exact wpAny_pyIter_striter_ascii st h
  ·exact wpAny_pyIter_striter_wide st h
section
variable {X:Cx}{tg:Expr}
end
theorem zvg {J:It}{n:Nat}{g:TG}{tc:TT}{te:TE}{σ':St}{Q:VK}{H1:Hp}{l:Addr}(P:Nat->List V->Hp->Prop)(hn:n<=bf)(h0:P 0 [] (upd H1 l (.lst [])))
  (hlen:∀i acc H,P i acc H->acc.length<=i)
  (hstop:∀acc H,P n acc H->J.stop n H/\Q (.ref l) H) (hgo:∀i acc H,i<n->P i acc H->J.go i H)
  (turn:∀i acc H x H3,i<n->P i acc H->J.yld i H x H3->g x σ' H3 fun σ4 H4=>Keep σ' σ4/\tc σ4 H4 fun b H5=>if b=true then te σ4 H5 fun y H6=>H6 l=some (.lst acc)/\P (i+1) (acc++[y]) (upd H6 l (.lst (acc++[y])))else P (i+1) acc H5):
  ∃P:Nat->Nat->List V->Hp->Prop,(∃m,P 0 m [] (upd H1 l (.lst [])))/\∀i m acc H2,P i m acc H2->(J.stop i H2/\Q (.ref l) H2)\/(J.go i H2/\acc.length<bf/\∃N:List V->Hp->Prop,(∀acc' H',N acc' H'->∃m',m'<m/\P (i+1) m' acc' H')/\∀x H3,J.yld i H2 x H3->g x σ' H3 fun σ4 H4=>Keep σ' σ4/\tc σ4 H4 fun b H5=>if b=true then te σ4 H5 fun y H6=>H6 l=some (.lst acc)/\N (acc++[y]) (upd H6 l (.lst (acc++[y])))else N acc H5):=by
 refine⟨fun i m acc H=>i<=n/\m=n-i/\P i acc H,⟨n,ce _,rfl,h0⟩,?_⟩
 rintro i m acc H2 ⟨hi,rfl,p⟩
 by_cases hlt:i<n
 ·have hl:=hlen i acc H2 p;exact .inr ⟨hgo i acc H2 hlt p,by omega,P (i+1),fun acc' H' p'=>⟨n-(i+1),by omega,hlt,rfl,p'⟩,fun x H3 y=>turn i acc H2 x H3 hlt p y⟩
 ·have e:i=n:=by omega
  subst e;exact .inl (hstop acc H2 p)
section
variable {X:Cx}
theorem zbj:OpR X (b9 .LtE) (fun x y H Q=>∃i j,x=.str i/\y=.str j/\Q (.bl (!decide (j.cps.toList<i.cps.toList))) H):=by intro pins s σ H x y v u Q I rx ry h;obtain⟨i,j,rfl,rfl,q⟩:=h;obtain⟨t,rfl⟩:=rx;obtain⟨t',rfl⟩:=ry;exact PySem.P.le_str ⟨.bl _,H,I,rfl,q⟩
theorem zde:OpR X (b9 .Gt) (fun x y H Q=>∃i j,x=.str i/\y=.str j/\Q (.bl (decide (j.cps.toList<i.cps.toList))) H):=by intro pins s σ H x y v u Q I rx ry h;obtain⟨i,j,rfl,rfl,q⟩:=h;obtain⟨t,rfl⟩:=rx;obtain⟨t',rfl⟩:=ry;exact PySem.P.gt_str ⟨.bl _,H,I,rfl,q⟩
def rSlS:V->Option Int->Option Int->Hp->VK->Prop:=fun x lo hi H Q=>∃z,x=.str z/\z.length<=bf/\Q (.str (Txt.slice z lo hi)) H
theorem z4s:SlR X rSlS:=by
 intro pins s σ H x v vl vu lo hi sl Q I rx hs pl pu h;obtain⟨z,rfl,hz,q⟩:=h;obtain⟨t,rfl⟩:=rx;refine⟨"str",_,PySem.F.slot_str_getitem.lookup,jq _ _ _,?_⟩;obtain⟨o,ho,hc,hd⟩:=hs;have fin:∀t' k,EP X pins σ Q (.str (Txt.slice z lo hi) t') {s with toks:=k}:=fun t' k=>⟨.str _,H,I.tok _,⟨_,rfl⟩,q⟩;cases pl with
 |none=>
  cases pu with
  |none=>exact ip (l:=none) (u:=none) (st:=none) ⟨o,ho,hc,hd⟩ rfl (k8 ⟨ck (Txt.slice_le z _ _) hz,fin⟩)
  |int j tj=>exact ip (l:=none) (u:=some (j,tj)) (st:=none) ⟨o,ho,hc,hd⟩ rfl (k8 ⟨ck (Txt.slice_le z _ _) hz,fin⟩)
 |int i ti=>
  cases pu with
  |none=>exact ip (l:=some (i,ti)) (u:=none) (st:=none) ⟨o,ho,hc,hd⟩ rfl (k8 ⟨ck (Txt.slice_le z _ _) hz,fin⟩)
  |int j tj=>exact ip (l:=some (i,ti)) (u:=some (j,tj)) (st:=none) ⟨o,ho,hc,hd⟩ rfl (k8 ⟨ck (Txt.slice_le z _ _) hz,fin⟩)
theorem zf4 (hc:X.calm=true):CallR X (.builtin "all") (fun xs H Q=>∃(p:Addr) (bs:List Bool),xs=[.ref p]/\SqL X.K H p (bs.map V.bl)/\Q (.bl (bs.all id)) H):=by
 intro pins s σ H xs us Q I r h;obtain⟨p,bs,rfl,hq,q⟩:=h;obtain⟨u,rfl,ru⟩:=vals1 r;cases ru;obtain⟨its,rv,pl,hz⟩:=I.list hq;refine call_all_walk (l8 pl.isList ?_);have ne:p≠s.heap.objs.size:=by obtain⟨o,ho,_⟩:=pl.isList;exact bx (bg ho)
 have hlen:bs.length=its.length:=by have:=rv.length;rw[am]at this;exact this
 refine⟨s.heap.objs.size,_,_,_,_,_,fun i=>bs.getD i true,rfl,Walks.list (A:=X.A.in1) (I.ok.hd hc) s.heap.objs.size p ne its.toArray,⟨⟨_,bh _ rfl,rfl,rfl⟩,pl.isList.at fun o e=>ag _ e⟩,?_,?_⟩
 ·intro i v s' Q' E' hP hQ;have hi:its[i]?=some v:=by simpa using hP
  have hb:i<bs.length:=by rw[hlen];exact(bn.mp hi).1
  obtain⟨u',hu,ru⟩:=rv.get (i:=i) (x:=V.bl bs[i]) (by rw[bo,bd hb];rfl);rw[hi]at hu;cases hu;cases ru;refine dt ?_;have e:bs.getD i true=bs[i]:=by simp[a9,hb]
  have hQ':Q' (bs.getD i true) s':=hQ;rw[e]at hQ';exact hQ'
 ·intro h' tk k;refine⟨.bl (bs.all id),H,I.kept (h':=h') (t':=tk) fun b o e=>?_,?_,q⟩
  ·refine k b o (fun z=>?_) (ag _ e);have z':b=s.heap.objs.size:=by simpa using z
   exact absurd (bg e) (by rw[z'];exact b6 _)
  ·have e:(b8 its.toArray.size).all (fun i=>bs.getD i true)=bs.all id:=by
    rw[aq,<-hlen];apply jl.mpr;simp only[ax];constructor
    ·intro a b hb;obtain⟨i,hi,rfl⟩:=List.mem_iff_getElem.mp hb;have:=a i (j5.mpr hi);simpa[a9,hi]using this
    ·intro a i hi;rw[j5]at hi;have hi':=hi;have:=a bs[i] (ez hi');simpa[a9,hi']using this
   rw[e];rfl
end
def Own (K:W.Frag)(mg:Str->Option Value)(x:Str)(st:Stmt)(ps:List Str):Prop:=∃f fd,Fun K x x st f fd/\mg x=some (.ref f)/\W.keepIn K (.ref f)=true/\Binds K fd ps []
def Cal (P:bc)(w:World)(K:W.Frag)(mg:Str->Option Value)(base:Heap)(k:Nat)(x:Str)(ps:List Str)(sp:Sp):Prop:=∃f fd,FnOk P w K mg base CX0 k f fd ps sp/\mg x=some (.ref f)/\W.keepIn K (.ref f)=true/\Binds K fd ps []
section
variable {P:bc}{w:World}{K:W.Frag}{mg:Str->Option Value}{base:Heap}
theorem zqq {h:Heap}{x:Str}{st:Stmt}{f:Addr}{ps:List Str}{oc:Value}{od an:Option Addr}{osl:Array (Option Value)}{kV doc pm cdv ct:Value}(X:K.In h)(G:h.Ns bv mg)
  (a:W.nsIn K bv x=some (some (.ref f))) (l:K.lookup f=some ⟨oc,od,.func (W.fnOf x x (z1o st) (z15 st) (z0c st) .none kV doc pm an cdv ct),osl⟩) (c:W.codeIn K cdv x=true) (k:W.keepIn K (.ref f)=true)
  (b:∀(kV doc pm:Value) (an:Option Addr) (cdv ct:Value) (us:List Value),us.length=ps.length->ua (W.fnOf x x (z1o st) (z15 st) (z0c st) .none kV doc pm an cdv ct) ⟨us,[]⟩=pure (ps.zip us)):Own K mg x st ps:=
 ⟨f,_,zdg l c k,W.mg_of X G a,k,(zdg (st:=st) l c k).binds b⟩
theorem Cal.imp {k:Nat}{x:Str}{ps:List Str}{sp sp':Sp}(C:Cal P w K mg base k x ps sp)(h:∀vs H Q E,sp' vs H Q E->sp vs H Q E):Cal P w K mg base k x ps sp':=by obtain⟨f,fd,F,r⟩:=C;exact⟨f,fd,F.imp h,r⟩
end
def isStar:Expr->Bool
 |.Starred ..=>true
 |_=>false
theorem z0b {e:Expr}{es:List Expr}{env:Env}(h:isStar e=false):cy (e::es) env=(false,eval e env)::cy es env:=by cases e<;>first|rfl|cases h
theorem z1g {pos:Pos}{env:Env}:∀{es:List Expr},(es.all fun e=> !isStar e)=true->(j7 pos (cy es env)).any (·.1)=false
 | [],_=>rfl
 |e::es,h=>by have h':=ba.mp (cn▸h);rw[z0b (by simpa using h'.1)];show(false||(j7 pos (cy es env)).any (·.1))=false;rw[z1g h'.2];rfl
section
variable {X:Cx}{x:Str}{p pos:Pos}{e:Expr}{es:List Expr}{t:TA}{id T:String}{r:List V->Hp->VK->Prop}
theorem pa_c {te:TE}(ha:PE X e te)(hr:PA X es t)(hs:isStar e=false:=by rfl):PA X (e::es) (zm6 te t):=z4m ha hr (z0b hs)
theorem zgh (hc:CallR X (.builtin id) r)(hm:X.mg x=none)(hv:cv x=some (.builtin id))(ha:PA X (e::es) t)(hst:((e::es).all fun e=> !isStar e)=true:=by rfl)(hg:Gl X x:=by rfl)(hn:x≠"__name__":=by decide)(hdb:(x==("__debug__":Str))=false:=by decide):PE X (.Call (.Name x p) (e::es) [] pos) (tCB r t):=by rw[cn,ak]at hst;exact zg6 hc hg hm hv ha hn hdb (z0b (by simpa using hst.1)) (z1g hst.2)
theorem zmo (hc:CallR X (.type T) r)(hm:X.mg x=none)(hv:cv x=some (.type T))(ha:PA X (e::es) t)(hst:((e::es).all fun e=> !isStar e)=true:=by rfl)(hg:Gl X x:=by rfl)(hn:x≠"__name__":=by decide)(hdb:(x==("__debug__":Str))=false:=by decide):PE X (.Call (.Name x p) (e::es) [] pos) (tCB r t):=by rw[cn,ak]at hst;exact zc0 hc hg hm hv ha hn hdb (z0b (by simpa using hst.1)) (z1g hst.2)
theorem zfz {k k':Nat}{ps:List Str}{sp:Sp}(C:Cal X.prog X.w X.K X.mg X.base k x ps sp)(hr:Room k' X.A)(ha:PA X (e::es) t)(hst:((e::es).all fun e=> !isStar e)=true:=by rfl)(hk:k<=k':=by decide)(hg:Gl X x:=by rfl)
  (hdb:(x==("__debug__":Str))=false:=by decide):PE X (.Call (.Name x p) (e::es) [] pos) (zr3 sp [] E0 t):=by
 obtain⟨f,fd,F,m,kp,b⟩:=C;rw[cn,ak]at hst;exact zj5 F (hr.mono hk) hg m kp b .nil zs8 ha hdb (z0b (by simpa using hst.1)) (z1g hst.2)
end
def z2m:Expr->Bool
 |.ListComp ..=>true
 |.SetComp ..=>true
 |.DictComp ..=>true
 |_=>false
theorem z2g {e:Expr}(h:z2m e=false)(tg:Option Expr)(n:Nat)(env:Env):km e tg n env=pure false:=by cases e<;>first|rfl|cases h
theorem ps_s {X:Cx}{pos:Pos}{i:Nat}{x:Str}{e:Expr}{te:TE}{pos':Pos}(hN:X.N.Nodup)(hi:X.N[i]?=some x)(hx:Loc X.env.scope x)(he:PE X e te)(hs:z2m e=false:=by rfl)(hf:X.fn x=true\/X.env.scope.names.lookup x=some .local:=by first|exact .inl rfl|exact .inr rfl|assumption): PS X (.Assign [.Name x pos'] e pos) (tAsg te (zk2 i)):=zik hN hi hx he (z2g hs _ _ _) hf
theorem ps_e {X:Cx}{pos:Pos}{e:Expr}{te:TE}(he:PE X e te)(hs:z2m e=false:=by rfl):PS X (.Expr e pos) (zo7 te):=ziq he (z2g hs _ _ _)
section
variable {X:Cx}
def zl6 (K:W.Frag):R2:=fun x y H Q=>rI0 (fun i j=>.int (i+j)) x y H Q\/(∃i j,x=.str i/\y=.str j/\i.length+j.length<=bf/\Q (.str (i++j)) H)\/rCat x y H Q\/zn8 K x y H Q
def rLtA:R2:=fun x y H Q=>rI0 (fun i j=>.bl (decide (i<j))) x y H Q\/∃i j,x=.str i/\y=.str j/\Q (.bl (decide (i.cps.toList<j.cps.toList))) H
def rLeA:R2:=fun x y H Q=>rI0 (fun i j=>.bl (decide (i<=j))) x y H Q\/∃i j,x=.str i/\y=.str j/\Q (.bl (!decide (j.cps.toList<i.cps.toList))) H
def rGtA:R2:=fun x y H Q=>rI0 (fun i j=>.bl (decide (j<i))) x y H Q\/∃i j,x=.str i/\y=.str j/\Q (.bl (decide (j.cps.toList<i.cps.toList))) H
def rInA (K:W.Frag)(neg:Bool):R2:=fun x y H Q=>rIn K neg x y H Q\/∃i j,x=.str i/\y=.str j/\Q (.bl (if neg then !(!(b7 j i 0 j.length 1).isEmpty)else !(b7 j i 0 j.length 1).isEmpty)) H
def rSlA (K:W.Frag):V->Option Int->Option Int->Hp->VK->Prop:=fun x lo hi H Q=>rSlL K x lo hi H Q\/rSlS x lo hi H Q
def ztx (K:W.Frag):List V->Hp->VK->Prop:=fun xs H Q=>(∃z,xs=[.str z]/\z.length<=bf/\Q (.int z.length) H)\/(∃p ys,xs=[.ref p]/\(SqL K H p ys\/SqT K H p ys)/\Q (.int ys.length) H)
theorem zrq:OpR X (ge .Add) (zl6 X.K):=zq9.or (zab.or (zq7.or zkk))
theorem opLt:OpR X (b9 .Lt) rLtA:=zt4.or zb5
theorem opLe:OpR X (b9 .LtE) rLeA:=zvi.or zbj
theorem opGt:OpR X (b9 .Gt) rGtA:=zue.or zde
theorem opIn:OpR X (b9 .In) (rInA X.K false):=zaz.or zdx
theorem zm7:OpR X (b9 .NotIn) (rInA X.K true):=z7r.or z7y
theorem zua:IxR X (rIx X.K):=zqg
theorem zt6:SlR X (rSlA X.K):=zjx.or z4s
theorem zmb:CallR X (.builtin "len") (ztx X.K):=z6r.or z7a
theorem PI.or {tg iter:Expr}{wi wi':TI}(h:PI X tg iter wi)(h':PI X tg iter wi'):PI X tg iter (fun σ H R=>wi σ H R\/wi' σ H R):=by
 intro pins s σ H R I q;rcases q with q|q
 ·exact h pins s σ H R I q
 ·exact h' pins s σ H R I q
end
def isT (t T:String):Bool:=t==T||(t=="bool"&&T=="int")
def tysA:List String:=["NoneType","bool","int","str","list","tuple","dict"]
def tysB:List String:=["str","int","bool","tuple","list"]
theorem zji (K:W.Frag):∀t∈tysA,∀T∈tysB,W.kitOne K (.type t) (.type T)=some (isT t T):=by intro t ht T hT;simp only[tysA,ao,cr,or_false]at ht;simp only[tysB,ao,cr,or_false]at hT;rcases ht with rfl|rfl|rfl|rfl|rfl|rfl|rfl<;>rcases hT with rfl|rfl|rfl|rfl|rfl<;>kernel_rfl
section
variable {D:Ends}{σ:St}{H:Hp}{g:TG}{tb:TS}
end
section
variable {σ:St}{H:Hp}{R:It->Hp->Prop}{K:W.Frag}{te:TE}{ta:TA}
end
section
variable {D:Ends}{σ:St}{H:Hp}{Q:VK}{t u:TS}{te ta tb tc':TE}{r r':R2}{K:W.Frag}
theorem zoy {i j:Int}(h:Q (.int (i+j)) H):zl6 K (.int i) (.int j) H Q:=.inl ⟨i,j,rfl,rfl,h⟩
theorem zqe {i j:Str}(c:i.length+j.length<=bf)(h:Q (.str (i++j)) H):zl6 K (.str i) (.str j) H Q:=.inr (.inl ⟨i,j,rfl,rfl,c,h⟩)
theorem zuz {i j:Int}(h:Q (.bl (decide (i<j))) H):rLtA (.int i) (.int j) H Q:=.inl ⟨i,j,rfl,rfl,h⟩
theorem ztf {i j:Int}(h:Q (.bl (decide (i<=j))) H):rLeA (.int i) (.int j) H Q:=.inl ⟨i,j,rfl,rfl,h⟩
theorem zuf {i j:Int}(h:Q (.bl (decide (j<i))) H):rGtA (.int i) (.int j) H Q:=.inl ⟨i,j,rfl,rfl,h⟩
theorem zs3 {i j:Str}(h:Q (.bl (decide (i.cps.toList<j.cps.toList))) H):rLtA (.str i) (.str j) H Q:=.inr ⟨i,j,rfl,rfl,h⟩
theorem zt1 {i j:Str}(h:Q (.bl (!decide (j.cps.toList<i.cps.toList))) H):rLeA (.str i) (.str j) H Q:=.inr ⟨i,j,rfl,rfl,h⟩
theorem zt7 {i j:Str}(h:Q (.bl (decide (j.cps.toList<i.cps.toList))) H):rGtA (.str i) (.str j) H Q:=.inr ⟨i,j,rfl,rfl,h⟩
theorem z8h {ta tb tc:TE}(h:ta σ H fun x H1=>tb σ H1 fun y H2=>r x y H2 fun z H3=>∃k,z=.bl k/\(if k=true then tc σ H3 fun w' H4=>r' y w' H4 Q else Q (.bl false) H3)):z8y r r' ta tb tc σ H Q:=h
section
variable {q:Bool->Hp->Prop}{s t:TT}
end
section
variable {q:List V->Hp->Prop}{a:TA}
end
end
section
variable {g:TG}{tc:TT}{te:TE}{σ':St}{l:Addr}{Q:VK}{H1:Hp}
end
section
variable {K:W.Frag}{H:Hp}{Q:VK}
theorem zv6 {z:Str}{c:Nat}(h:Q (.bl (decide (c∈z.cps.toList))) H):rInA K false (.str ⟨#[c]⟩) (.str z) H Q:=.inr ⟨_,z,rfl,rfl,by have e:(if false=true then !(!(b7 z ⟨#[c]⟩ 0 z.length 1).isEmpty)else !(b7 z ⟨#[c]⟩ 0 z.length 1).isEmpty)=decide (c∈z.cps.toList):=PySem.StrLaws.found_one z c;rw[e];exact h⟩
theorem zq6 {z:Str}{c:Nat}(h:Q (.bl (!decide (c∈z.cps.toList))) H):rInA K true (.str ⟨#[c]⟩) (.str z) H Q:=.inr ⟨_,z,rfl,rfl,by have e:(if true=true then !(!(b7 z ⟨#[c]⟩ 0 z.length 1).isEmpty)else !(b7 z ⟨#[c]⟩ 0 z.length 1).isEmpty)=!decide (c∈z.cps.toList):=congrArg Bool.not (PySem.StrLaws.found_one z c);rw[e];exact h⟩
end
section
variable {K:W.Frag}{H:Hp}{Q:VK}
theorem Same.upd {H:Hp}{p:Addr}{o:HO}(h:H p=none):Same H (L2.upd H p o):=fun b u e=>by rw[z02 (z05 e h)];exact e
theorem zgw {n:Nat}(h:n<=1000):n<=bf:=ck h (by rw[cq];decide)
end
theorem TyOf.same {K:W.Frag}{H H':Hp}{x:V}{t:Value}(s:Same H H')(h:TyOf K H x t):TyOf K H' x t:=by
 cases h with
 |non=>exact .non
 |bl b=>exact .bl b
 |int i=>exact .int i
 |str z=>exact .str z
 |lst e=>exact .lst (s _ _ e)
 |frz e=>exact .frz (s _ _ e)
 |tup e=>exact .tup (s _ _ e)
 |dK e=>exact .dK (s _ _ e)
section
variable {X:Cx}{a b c e o value i f:Expr}{es:List Expr}{ta tb tc te td ty tv tx to:TE}{t:TA}{pos pos' p p2 tpos apos cpos:Pos}
section
variable {tA tB':TT}{rest:List Expr}
end
section
variable {st:Stmt}{sts:List Stmt}{u v:TS}
end
end
section
variable {P:bc}{w:World}{K:W.Frag}{mg:Str->Option Value}{base:Heap}
end
end L2
namespace Mi
open PySem
abbrev D:=ac
inductive Res (α:Type) where
 |ok (a:α)|exc (e:D)|no
namespace Res
def bind {α β:Type}(x:Res α)(f:α->Res β):Res β:=match x with
 |.ok a=>f a
 |.exc e=>.exc e
 |.no=>.no
instance:Monad Res where
 pure:=.ok
 bind:=Res.bind
theorem ok_bind {α β:Type}(a:α)(f:α->Res β):(Res.ok a>>=f)=f a:=rfl
theorem exc_bind {α β:Type}(e:D)(f:α->Res β):((Res.exc e:Res α)>>=f)=.exc e:=rfl
theorem no_bind {α β:Type}(f:α->Res β):((Res.no:Res α)>>=f)=.no:=rfl
def ofO {α:Type}:Option α->Res α
 |some a=>.ok a
 |none=>.no
theorem bind_ok {α β:Type}{x:Res α}{f:α->Res β}{b:β}(h:(x>>=f)=.ok b):∃a,x=.ok a/\f a=.ok b:=by
 cases x with
 |ok a=>exact⟨a,rfl,h⟩
 |exc e=>cases h
 |no=>cases h
end Res
mutual
def imm:ac->Bool
 |.tuple xs=>imms xs
 |.list _=>false
 |.dict _=>false
 |.none=>true
 |.bool _=>true
 |.int _=>true
 |.str _=>true
def imms:List ac->Bool
 | []=>true
 |x::xs=>imm x&&imms xs
end
theorem z32:∀{xs:List D},imms xs=true↔∀x∈xs,imm x=true
 | []=>by simp[imms]
 |x::xs=>by rw[imms,ak,z32];simp
abbrev eqD:D->D->Bool:=PyData.eqv
mutual
def shal:Nat->ac->Bool
 |0,.tuple _=>false
 |0,.list _=>false
 |n+1,.tuple xs=>z1y n xs
 |n+1,.list xs=>z1y n xs
 |_,.dict _=>false
 |_,.none=>true
 |_,.bool _=>true
 |_,.int _=>true
 |_,.str _=>true
def z1y:Nat->List ac->Bool
 |_,[]=>true
 |n,x::xs=>shal n x&&z1y n xs
end
theorem z4j {n:Nat}:∀{xs:List D},z1y n xs=true↔∀x∈xs,shal n x=true
 | []=>by simp[z1y]
 |x::xs=>by rw[z1y,ak,z4j];simp
def truth:ac->Bool
 |.none=>false
 |.bool b=>b
 |.int i=>!decide (i=0)
 |.str x=>!decide (x.length=0)
 |.tuple xs=>!xs.isEmpty
 |.list xs=>!xs.isEmpty
 |.dict es=>!es.isEmpty
def ixN (n:Nat)(i:Int):Option Nat:=if 0<=i then(if i<n then some i.toNat else none)else if -(n:Int)<=i then some (i+n).toNat else none
def atI {α:Type}(xs:List α)(i:Int):Option α:=(ixN xs.length i).bind fun j=>xs[j]?
def sIx (n d:Nat):Option Int->Nat
 |none=>d
 |some v=>if v<0 then(v+(n:Int)).toNat else min v.toNat n
def cut {α:Type}(xs:List α)(lo hi:Option Int):List α:=(xs.drop (sIx xs.length 0 lo)).take (sIx xs.length xs.length hi-sIx xs.length 0 lo)
def eqK:ac->ac->Bool
 |.int a,y=>match y with|.int b=>a==b|_=>false
 |.str a,y=>match y with|.str b=>decide (a=b)|_=>false
 |_,_=>false
def isK:ac->Bool
 |.int _=>true
 |.str _=>true
 |_=>false
abbrev Ents:=List (D×D)
def z28 (es:Ents)(k:D):Option D:=(es.find? fun e=>eqK e.1 k).map (·.2)
def dput (es:Ents)(k v:D):Ents:=if es.any (fun e=>eqK e.1 k)then es.map (fun e=>if eqK e.1 k then(e.1,v)else e)else es++[(k,v)]
def ent (e:D×D):D:=.tuple [e.1,e.2]
mutual
def ltD:ac->ac->Bool
 |.int a,y=>match y with|.int b=>decide (a<b)|_=>false
 |.str a,y=>match y with|.str b=>decide (a.cps.toList<b.cps.toList)|_=>false
 |.tuple xs,y=>match y with|.tuple ys=>ltDs xs ys|_=>false
 |.none,_=>false
 |.bool _,_=>false
 |.list _,_=>false
 |.dict _,_=>false
def ltDs:List ac->List ac->Bool
 | [],ys=>!ys.isEmpty
 |x::xs,ys=>match ys with|y::ys=>if eqD x y then ltDs xs ys else ltD x y| []=>false
end
mutual
def cmpb:ac->ac->Bool
 |.int _,y=>match y with|.int _=>true|_=>false
 |.str _,y=>match y with|.str _=>true|_=>false
 |.tuple xs,y=>match y with|.tuple ys=>z2z xs ys|_=>false
 |.none,_=>false
 |.bool _,_=>false
 |.list _,_=>false
 |.dict _,_=>false
def z2z:List ac->List ac->Bool
 | [],_=>true
 |x::xs,ys=>match ys with|y::ys=>cmpb x y&&z2z xs ys| []=>true
end
def insD (x:D):List D->List D
 | []=>[x]
 |y::ys=>if ltD y x then y::insD x ys else x::y::ys
def z1h:List D->List D
 | []=>[]
 |x::xs=>insD x (z1h xs)
def isI:D->Bool
 |.int _=>true
 |_=>false
def isS:D->Bool
 |.str _=>true
 |_=>false
def ofK (b:Bool)(x:D):Bool:=if b then isI x else isS x
def shps:List Bool->List D->Bool
 | [],xs=>xs.isEmpty
 |b::bs,xs=>match xs with|x::xs=>ofK b x&&shps bs xs| []=>false
def z2u (bs:List Bool):D->Bool
 |.tuple xs=>shps bs xs
 |_=>false
def z2a (xs:List D):Bool:=xs.all isI||xs.all isS||(match xs with|.tuple ys::_=>!ys.isEmpty&&xs.all (z2u (ys.map isI))|_=>false)
def isPk:D->Bool
 |.tuple xs=>xs.all (z2u [false,true])
 |_=>false
def neP:D->Bool
 |.tuple (x::xs)=>(x::xs).all (z2u [false,true])
 |_=>false
def isCo:D->Bool
 |.tuple [.str _,a,b]=>isPk a&&isPk b
 |_=>false
def z57 (xs:List D):Bool:=z2a xs||(xs.all neP||xs.all isCo)
section
inductive G where
 |fr|od|al|nu
 deriving Inhabited,DecidableEq
abbrev Rho:=List (Option (G×D))
abbrev GD:=G×D
inductive Tg where
 |nm (i:Nat)|tp (is:List Nat)
 deriving Inhabited,DecidableEq
inductive C where
 |var (i:Nat)|non|bl (b:Bool)|int (i:Int)|str (x:Str)|glob (k:Nat) (x:Str)|bin (op:jc) (a b:C)|neg (a:C)|cmp (op:CmpOp) (a b:C)|chain (op op':CmpOp) (a b c:C)|isN (neg:Bool) (a:C)|and (a b:C)|or (a b:C)|not (a:C)|ife (c a b:C)|tup (xs:C)|lst (xs:C)|dnew|ix (a b:C)|sl (a lo hi:C)|call (k:Nat) (f:Str) (args:C)|bi (f:String) (args:C)|agg (f:String) (a:C)|isT (a:C) (ts:List String)|mt (m:String) (o args:C)|fs (a:C) (x:Str) (b:C)|comp (nt:Nat) (js:List Nat) (N':List Str) (tg:Tg) (it cond elt:C)|sortI (i:Nat)|upr (a:C)|spl (a b:C)|rng (args:C)|enum (a:C)|tv (a:C)|isE (b:Bool) (x:Str)|nil|cons (a r:C)
 deriving Inhabited
inductive S where
 |nil|seq (a b:S)|asg (t:Tg) (e:C)|setIx (i:Nat) (k v:C)|mut (m:String) (i:Nat) (args:C)|ret (e:C)|ifS (c:C) (a b:S)|for_ (t:Tg) (it:C) (b:S)|rse (c:Str)|tr (k:Nat) (f:Str) (args:C) (c:Str) (i:Nat) (b:S)
 deriving Inhabited
inductive Out where
 |nx (ρ:Rho)|rt (g:G) (d:D)
abbrev Fn:=List D->Res GD
def LIM:Nat:=1000000
def rdG:G->G
 |.fr=>.al
 |.od=>.od
 |.al=>.al
 |.nu=>.nu
def rdS:Option (Option GD)->Res GD
 |some (some (g,d))=>.ok (if imm d then .fr else rdG g,d)
 |_=>.no
def z1i:D->Res Bool
 |.str x=>if x.length<=LIM then .ok (!decide (x.length=0))else .no
 |d=>.ok (truth d)
def rtG:G->G
 |.fr=>.fr
 |.od=>.al
 |.al=>.al
 |.nu=>.fr
def agG:G->G
 |.fr=>.fr
 |.od=>.al
 |.al=>.al
 |.nu=>.nu
def gJ (d:D)(g:G):G:=if imm d then .fr else g
def gN (d:D)(g:G):G:=match d with
 |.list xs=>if imms xs then .fr else g
 |d=>gJ d g
def gAll (xs:List GD):G:=if xs.all (fun x=>x.1==.fr)then .fr else if xs.all (fun x=>x.1==.fr||x.1==.nu)then .nu else .al
def gCo (xs:List GD):G:=if xs.all (fun x=>x.1==.fr)then .fr else .al
def okIn (x:GD):Bool:=imm x.2||(x.1==.fr||x.1==.nu)
def immE (es:Ents):Bool:=es.all fun e=>imm e.2
def z1s:GD->GD
 |(g,d)=>if imm d then(.al,d)else match g,d with
  |.fr,.list xs=>(if imms xs then .fr else .nu,.list xs)
  |.fr,.dict es=>(if immE es then .fr else .nu,.dict es)
  |.fr,d=>(.nu,d)
  |.nu,d=>(.nu,d)
  |.od,d=>(.od,d)
  |.al,d=>(.al,d)
def z52:GD->GD
 |(g,d)=>match g with|.od=>(.od,d)|_=>(.al,d)
def toAl:Option GD->Option GD
 |some (.fr,d)=>some (.al,d)
 |some (.nu,d)=>some (.al,d)
 |s=>s
def z2l:Option GD->Option GD
 |some (.al,d)=>if imm d then some (.al,d)else none
 |s=>s
def z3x:Rho->List Nat->List D->G->Option Rho
 |ρ,[],[],_=>some ρ
 |ρ,i::is,d::ds,g=>z3x (ρ.set i (some (z52 (gJ d g,d)))) is ds g
 |_,_,_,_=>none
def z0x:Tg->GD->Rho->Res Rho
 |.nm i,x,ρ=>.ok (ρ.set i (some (z52 x)))
 |.tp is,(g,.tuple ds),ρ=>Res.ofO (z3x ρ is ds g)
 |.tp is,(g,.list ds),ρ=>Res.ofO (z3x ρ is ds g)
 |_,_,_=>.no
def lenD:D->Res D
 |.str x=>if x.length<=LIM then .ok (.int x.length)else .no
 |.tuple xs=>.ok (.int xs.length)
 |.list xs=>.ok (.int xs.length)
 |.dict es=>.ok (.int es.length)
 |_=>.no
def z2p {α:Type}(n:Nat)(xs:List α):List α:=(bw n xs).flatten
def binD:jc->D->D->Res D
 |.Add,.int a,.int b=>.ok (.int (a+b))
 |.Add,.str a,.str b=>if a.length+b.length<=LIM then .ok (.str (a++b))else .no
 |.Add,.list a,.list b=>if a.length+b.length<=LIM then .ok (.list (a++b))else .no
 |.Add,.tuple a,.tuple b=>if a.length+b.length<=LIM then .ok (.tuple (a++b))else .no
 |.Sub,.int a,.int b=>.ok (.int (a-b))
 |.Mult,.str a,.int n=>if 0<=n/\n<=LIM/\a.length*n.toNat<=LIM then .ok (.str ⟨(z2p n.toNat a.cps.toList).toArray⟩)else .no
 |.Mult,.int a,.int b=>if(-(2 ^ 64)<a/\a<2 ^ 64)\/(-(2 ^ 64)<b/\b<2 ^ 64)then .ok (.int (a*b))else .no
 |.FloorDiv,.int a,.int b=>if 0<b/\b<2 ^ 200 then .ok (.int (a/b))else .no
 |.Mod,.int a,.int b=>if 0<b then .ok (.int (a%b))else .no
 |.Pow,.int a,.int b=>if 0<=b/\b<=1000/\a.natAbs<2 ^ 64 then .ok (.int (a ^ b.toNat))else .no
 |_,_,_=>.no
def inD (x:D):D->Res Bool
 |.list xs=>if shal 40 x&&z1y 40 xs then .ok (xs.any fun y=>eqD y x)else .no
 |.tuple xs=>if shal 40 x&&z1y 40 xs then .ok (xs.any fun y=>eqD y x)else .no
 |.dict es=>if isK x then .ok (z28 es x).isSome else .no
 |.str z=>match x with
  |.str w=>(match w.cps.toList with| [c]=>.ok (decide (c∈z.cps.toList))|_=>.no)
  |_=>.no
 |_=>.no
def cmpD:CmpOp->D->D->Res Bool
 |.Eq,x,y=>if shal 40 x&&shal 40 y then .ok (eqD x y)else .no
 |.NotEq,x,y=>if shal 40 x&&shal 40 y then .ok (!eqD x y)else .no
 |.Lt,.int a,.int b=>.ok (decide (a<b))
 |.LtE,.int a,.int b=>.ok (decide (a<=b))
 |.Gt,.int a,.int b=>.ok (decide (b<a))
 |.Lt,.str a,.str b=>.ok (decide (a.cps.toList<b.cps.toList))
 |.LtE,.str a,.str b=>.ok (!decide (b.cps.toList<a.cps.toList))
 |.Gt,.str a,.str b=>.ok (decide (b.cps.toList<a.cps.toList))
 |.In,x,y=>inD x y
 |.NotIn,x,y=>inD x y>>=fun b=>.ok (!b)
 |_,_,_=>.no
def ixD:D->D->Res D
 |.list xs,.int i=>Res.ofO (atI xs i)
 |.tuple xs,.int i=>Res.ofO (atI xs i)
 |.str z,.int i=>if z.length<=LIM then Res.ofO ((atI z.cps.toList i).map fun c=>.str ⟨#[c]⟩)else .no
 |.dict es,k=>if isK k then Res.ofO (z28 es k)else .no
 |_,_=>.no
def z0k (z:Str)(lo hi:Option Int):Str:=⟨(cut z.cps.toList lo hi).toArray⟩
def slD:D->Option Int->Option Int->Res D
 |.list xs,lo,hi=>.ok (.list (cut xs lo hi))
 |.tuple xs,lo,hi=>if sIx xs.length 0 lo=0/\sIx xs.length xs.length hi=xs.length then .no else .ok (.tuple (cut xs lo hi))
 |.str z,lo,hi=>if z.length<=LIM then .ok (.str (z0k z lo hi))else .no
 |_,_,_=>.no
def intO:D->Res (Option Int)
 |.int i=>.ok (some i)
 |_=>.no
def z40:D->Res (List D)
 |.list xs=>.ok xs
 |.tuple xs=>.ok xs
 |.str z=>if z.length<=LIM then .ok (z.cps.toList.map fun c=>.str ⟨#[c]⟩)else .no
 |_=>.no
def allB:List D->Option (List Bool)
 | []=>some []
 |.bool b::r=>(allB r).map (b:: ·)
 |_=>none
def allS:List D->Option (List Str)
 | []=>some []
 |.str b::r=>(allS r).map (b:: ·)
 |_=>none
def z4z:D->Res (Bool×List D)
 |.list xs=>.ok (true,xs)
 |.tuple xs=>.ok (false,xs)
 |_=>.no
def aggD (f:String)(l:Bool)(xs:List D):Res D:=
 if f="list"then .ok (.list xs)
 else if f="tuple"then .ok (.tuple xs)
 else if f="sorted"then(if(l||imms xs)&&z57 xs&&decide (xs.length<64)then .ok (.list (z1h xs))else .no)
 else if f="all"then(if l then Res.ofO ((allB xs).map fun bs=>.bool (bs.all id))else .no)
 else .no
def vI:D->Option Int
 |.int i=>some i
 |_=>none
def vT:D->Option (List D)
 |.tuple xs=>some xs
 |_=>none
def min2 (x y:D):Res D:=Res.ofO ((vI x).bind fun a=>(vI y).map fun b=>.int (min a b))
def minD (xs:List D):Res D:=if xs.length=2 then min2 (xs.getD 0 .none) (xs.getD 1 .none)else if xs.length=1 then(match vT (xs.getD 0 .none)with|some ys=>if ys.length=2 then min2 (ys.getD 0 .none) (ys.getD 1 .none)else .no|none=>.no)else .no
def figs (l:List Nat):Bool:=!l.isEmpty&&l.all fun c=>decide (48<=c)&&decide (c<=57)
def digV (l:List Nat):Nat:=l.foldl (fun n c=>n*10+(c-48)) 0
def intS (x:Str):Res D:=if figs x.cps.toList&&decide (x.length<=600)then .ok (.int (digV x.cps.toList:Int))else .no
def oneC (y:Str):Option Nat:=match y.cps.toList with
 | [c]=>some c
 |_=>none
def toS (l:List Nat):Str:=⟨l.toArray⟩
def splC (c:Nat):List Nat->List (List Nat)
 | []=>[[]]
 |a::r=>if a=c then[]::splC c r else(match splC c r with|h::t=>(a::h)::t| []=>[[a]])
def splD:D->D->Res D
 |.str x,.str y=>match oneC y with
  |some c=>if decide (x.length<=LIM)then .ok (.list ((splC c x.cps.toList).map fun l=>.str (toS l)))else .no
  |none=>.no
 |_,_=>.no
def parD (x y:Str):Res D:=match oneC y with
 |some c=>if decide (x.length<=LIM)then .ok (.tuple [.str (toS (x.cps.toList.takeWhile (· != c))),.str (if x.cps.toList.contains c then y else ""),.str (toS ((x.cps.toList.dropWhile (· != c)).drop 1))])else .no
 |none=>.no
def fndD (x y:Str):Res D:=match oneC y with
 |some c=>.ok (.int (match x.cps.toList.findIdx? (· ==c)with|some i=>(i:Int)|none=>-1))
 |none=>.no
def biD (f:String)(xs:List D):Res D:=
 if f="len"then(match xs with| [x]=>lenD x|_=>.no)
 else if f="max"then(match xs with| [.int a,.int b]=>.ok (.int (max a b))|_=>.no)
 else if f="int"then(match xs with| [.int a]=>.ok (.int a)| [.bool b]=>.ok (.int (if b then 1 else 0))| [.str x]=>intS x|_=>.no)
 else if f="str"then(match xs with| [.int a]=>if a.natAbs.log2<1920 then .ok (.str (toString a))else .no|_=>.no)
 else if f="min"then minD xs
 else .no
def tyOf:D->String
 |.none=>"NoneType"|.bool _=>"bool"|.int _=>"int"|.str _=>"str"|.tuple _=>"tuple"|.list _=>"list"|.dict _=>"dict"
def isTy (t T:String):Bool:=t==T||(t=="bool"&&T=="int")
def z69 (sep:List Nat):List Str->List Nat
 | []=>[]
 |x::r=>x.cps.toList++(r.map fun p=>sep++p.cps.toList).flatten
def z1p (sep:Str)(xs:List Str):Str:=⟨(z69 sep.cps.toList xs).toArray⟩
def z4w (sep:Str)(xs:List Str):Nat:=(xs.map (·.length)).sum+xs.length*sep.length
def mtD (m:String)(o:D)(xs:List D):Res D:=
 if m="get"then(match o,xs with|.dict es,[k,d]=>if isK k then .ok ((z28 es k).getD d)else .no|_,_=>.no)
 else if m="join"then(match o,xs with|.str z,[.list ys]=>(match allS ys with|some ss=>if z4w z ss<=LIM then .ok (.str (z1p z ss))else .no|none=>.no)|_,_=>.no)
 else if m="partition"then(match o,xs with|.str x,[.str y]=>parD x y|_,_=>.no)
 else if m="find"then(match o,xs with|.str x,[.str y]=>fndD x y|_,_=>.no)
 else .no
def upD:D->Res D
 |.str z=>if z.cps.toList.all (fun c=>decide (97<=c)&&decide (c<=122))&&decide (z.length<=LIM)then .ok (.str ⟨(z.cps.toList.map (· -32)).toArray⟩)else .no
 |_=>.no
def rngD:List D->Res (List D)
 | [.int n]=>if n<=LIM/\-LIM<=n then .ok ((b8 n.toNat).map fun(i:Nat)=>.int i)else .no
 | [.int a,.int b]=>if -LIM<=a/\b<=LIM/\a<=LIM/\-LIM<=b then .ok ((b8 (b-a).toNat).map fun(i:Nat)=>.int (a+i))else .no
 | [.int a,.int b,.int c]=>if -LIM<=a/\b<=LIM/\a<=LIM/\-LIM<=b/\0<c/\c<=LIM then .ok ((b8 (if a<b then((b-a-1)/c+1).toNat else 0)).map fun(i:Nat)=>.int (a+i*c))else .no
 |_=>.no
def z23:Nat->List D->List D
 |_,[]=>[]
 |i,x::xs=>.tuple [.int i,x]::z23 (i+1) xs
def seqR:D->Res (List D)
 |.list xs=>if decide (xs.length<=LIM)then .ok xs else .no
 |.tuple xs=>if decide (xs.length<=LIM)then .ok xs else .no
 |_=>.no
def txtD:D->Res Str
 |.str z=>if z.length<=LIM then .ok z else .no
 |.int i=>if i.natAbs.log2<1920 then .ok (toString i)else .no
 |_=>.no
def oc:Option GD->List GD->List GD
 |some y,r=>y::r
 |none,r=>r
def z3j (f:D->Res (Option GD)):List D->Res (List GD)
 | []=>.ok []
 |x::xs=>f x>>=fun o=>z3j f xs>>=fun r=>.ok (oc o r)
variable (Κ:List D)(Φ:List Fn)
mutual
def evE:C->Rho->Res GD
 |.var i,ρ=>rdS ρ[i]?
 |.non,_=>.ok (.fr,.none)
 |.bl b,_=>.ok (.fr,.bool b)
 |.int i,_=>.ok (.fr,.int i)
 |.str x,_=>.ok (.fr,.str x)
 |.isE b _,_=>.ok (.fr,.bool b)
 |.glob k _,_=>match Κ[k]? with|some d=>if imm d then .ok (.fr,d)else .no|none=>.no
 |.bin op a b,ρ=>evE a ρ>>=fun x=>evE b ρ>>=fun y=>binD op x.2 y.2>>=fun d=>.ok (gN d (gAll [x,y]),d)
 |.neg a,ρ=>evE a ρ>>=fun x=>match x.2 with|.int i=>.ok (.fr,.int (-i))|_=>.no
 |.cmp op a b,ρ=>evE a ρ>>=fun x=>evE b ρ>>=fun y=>cmpD op x.2 y.2>>=fun b=>.ok (.fr,.bool b)
 |.chain op op' a b c,ρ=>evE a ρ>>=fun x=>evE b ρ>>=fun y=>cmpD op x.2 y.2>>=fun k=>if k then evE c ρ>>=fun z=>cmpD op' y.2 z.2>>=fun k'=>.ok (.fr,.bool k')else .ok (.fr,.bool false)
 |.isN ng a,ρ=>evE a ρ>>=fun x=>.ok (.fr,.bool (match x.2 with|.none=>!ng|_=>ng))
 |.and a b,ρ=>evE a ρ>>=fun x=>match x.2 with|.bool c=>if c then evE b ρ else .ok (.fr,.bool false)|_=>.no
 |.or a b,ρ=>evE a ρ>>=fun x=>match x.2 with|.bool c=>if c then .ok (.fr,.bool true)else evE b ρ|_=>.no
 |.not a,ρ=>evE a ρ>>=fun x=>z1i x.2>>=fun c=>.ok (.fr,.bool (!c))
 |.ife c a b,ρ=>evT c ρ>>=fun k=>if k then evE a ρ else evE b ρ
 |.tup xs,ρ=>evA xs ρ>>=fun ys=>.ok (gJ (.tuple (ys.map (·.2))) (gAll ys),.tuple (ys.map (·.2)))
 |.lst xs,ρ=>evA xs ρ>>=fun ys=>.ok (gAll ys,.list (ys.map (·.2)))
 |.dnew,_=>.ok (.fr,.dict [])
 |.ix a b,ρ=>evE a ρ>>=fun x=>evE b ρ>>=fun y=>ixD x.2 y.2>>=fun d=>.ok (gJ d x.1,d)
 |.sl a lo hi,ρ=>evE a ρ>>=fun x=>evO lo ρ>>=fun l=>evO hi ρ>>=fun h=>slD x.2 l h>>=fun d=>.ok (gN d (gAll [x]),d)
 |.call k _ args,ρ=>evA args ρ>>=fun ys=>match Φ[k]? with|some m=>m (ys.map (·.2))>>=fun r=>.ok (gJ r.2 (rtG r.1),r.2)|none=>.no
 |.bi f args,ρ=>evA args ρ>>=fun ys=>biD f (ys.map (·.2))>>=fun d=>.ok (gJ d .al,d)
 |.agg f a,ρ=>evG a ρ>>=fun w=>aggD f w.2.1 w.2.2>>=fun d=>.ok (gJ d (if imms w.2.2 then .fr else agG w.1),d)
 |.isT a ts,ρ=>evE a ρ>>=fun x=>.ok (.fr,.bool (ts.any fun T=>isTy (tyOf x.2) T))
 |.mt m o args,ρ=>evE o ρ>>=fun x=>evA args ρ>>=fun ys=>mtD m x.2 (ys.map (·.2))>>=fun d=>.ok (gJ d .al,d)
 |.fs a x b,ρ=>evE a ρ>>=fun u=>txtD u.2>>=fun p=>evE b ρ>>=fun v=>txtD v.2>>=fun q=>if p.length+x.length+q.length<=LIM then .ok (.fr,.str (p++x++q))else .no
 |.spl a b,ρ=>evE a ρ>>=fun x=>evE b ρ>>=fun y=>splD x.2 y.2>>=fun d=>.ok (.fr,d)
 |.upr a,ρ=>evE a ρ>>=fun x=>upD x.2>>=fun d=>.ok (.fr,d)
 |.sortI i,ρ=>match ρ[i]? with
  |some (some (_,.dict es))=>if immE es&&z2a (es.map ent)&&decide (es.length<64)then .ok (.fr,.list (z1h (es.map ent)))else .no
  |_=>.no
 |.comp nt js _ tg it cond elt,ρ=>evW it ρ>>=fun w=>z3j (fun x=>z0x tg (gJ x w.1,x) (bw nt none++js.map fun j=>toAl (ρ.getD j none))>>=fun ρ1=>evT cond ρ1>>=fun k=>if k then evE elt ρ1>>=fun y=>.ok (some y)else .ok none) w.2>>=fun ys=>.ok (gCo ys,.list (ys.map (·.2)))
 |_,_=>.no
def evT:C->Rho->Res Bool
 |.and a b,ρ=>evT a ρ>>=fun c=>if c then evT b ρ else .ok false
 |.or a b,ρ=>evT a ρ>>=fun c=>if c then .ok true else evT b ρ
 |.not a,ρ=>evT a ρ>>=fun c=>.ok (!c)
 |.nil,_=>.ok true
 |.tv a,ρ=>evE a ρ>>=fun x=>z1i x.2
 |_,_=>.no
def evA:C->Rho->Res (List GD)
 |.nil,_=>.ok []
 |.cons a r,ρ=>evE a ρ>>=fun x=>evA r ρ>>=fun xs=>.ok (x::xs)
 |_,_=>.no
def evO:C->Rho->Res (Option Int)
 |.nil,_=>.ok none
 |.tv a,ρ=>evE a ρ>>=fun x=>intO x.2
 |_,_=>.no
def evG:C->Rho->Res (G×Bool×List D)
 |.tv a,ρ=>evE a ρ>>=fun x=>z4z x.2>>=fun p=>.ok (x.1,p)
 |_,_=>.no
def evW:C->Rho->Res (G×List D)
 |.rng args,ρ=>evA args ρ>>=fun ys=>rngD (ys.map (·.2))>>=fun xs=>.ok (.fr,xs)
 |.tv a,ρ=>evE a ρ>>=fun x=>z40 x.2>>=fun xs=>.ok (x.1,xs)
 |.enum a,ρ=>evE a ρ>>=fun x=>seqR x.2>>=fun xs=>.ok (.al,z23 0 xs)
 |_,_=>.no
end
def outB:Res Out->(Rho->Res Out)->Res Out
 |.ok (.nx ρ),k=>k ρ
 |r,_=>r
def forD (f:D->Rho->Res Out):List D->Rho->Res Out
 | [],ρ=>.ok (.nx ρ)
 |x::xs,ρ=>match f x ρ with
  |.ok (.nx ρ')=>forD f xs ρ'
  |.ok (.rt g d)=>.ok (.rt g d)
  |.exc e=>.exc e
  |.no=>.no
def putAt (xs:List D)(ys:List GD):Res (List D):=match ys with
 | [x,y]=>(match x.2 with
  |.int i=>if okIn y&&decide (xs.length<LIM)&&decide (0<=i)&&decide (i<=xs.length)then .ok (xs.take i.toNat++y.2::xs.drop i.toNat)else .no
  |_=>.no)
 |_=>.no
def zm0 (xs:List D)(ys:List GD):Res (List D):=match ys with
 | [x]=>(match x.2 with
  |.int i=>if decide (0<=i)&&decide (i<xs.length)&&decide (xs.length<=LIM)then .ok (xs.eraseIdx i.toNat)else .no
  |_=>.no)
 |_=>.no
def mutD (m:String)(xs:List D)(ys:List GD):Res (List D):=
 if m="append"then(match ys with| [y]=>if okIn y&&decide (xs.length<LIM)then .ok (xs++[y.2])else .no|_=>.no)
 else if m="insert"then putAt xs ys
 else if m="pop"then zm0 xs ys
 else .no
def ownB (ρ:Rho)(i:Nat):Bool:=match ρ[i]? with
 |some (some (.fr,_))=>true
 |_=>false
def zez (i:Nat)(ρ:Rho):Res (G×List D×Rho):=match ρ[i]? with
 |some (some (.fr,d))=>z40 d>>=fun xs=>.ok (.al,xs,ρ.set i (some (.al,d)))
 |_=>.no
def zkr:Option GD->Option GD
 |some (.fr,.list xs)=>some (.al,.list xs)
 |s=>s
def evAl (x:GD)(ρ:Rho):Res (G×List D×Rho):=match x.2 with
 |.list xs=>if imms xs then .ok (.al,xs,ρ.map zkr)else .no
 |_=>.no
def zg5 (x:GD):Bool:=match x.2 with
 |.list _=>!(x.1==.al)
 |d=>!(x.1==.al)||imm d
def evEn (ys:List GD)(ρ:Rho):Res (G×List D×Rho):=match ys with
 | [x]=>if zg5 x then seqR x.2>>=fun xs=>.ok (.al,z23 0 xs,ρ)else .no
 |_=>.no
def isAl (it:C)(ρ:Rho):Bool:=match evW Κ Φ it ρ with
 |.ok w=>w.1==.al
 |_=>false
def evN (it:C)(ρ:Rho):Res (G×List D×Rho):=evW Κ Φ it ρ>>=fun w=>if w.1==.al then .no else .ok (w.1,w.2,ρ)
def evF (it:C)(ρ:Rho):Res (G×List D×Rho):=match it with
 |.tv (.var i)=>if ownB ρ i then zez i ρ else if isAl Κ Φ it ρ then evE Κ Φ (.var i) ρ>>=fun x=>evAl x ρ else evN Κ Φ it ρ
 |.tv a=>if isAl Κ Φ it ρ then evE Κ Φ a ρ>>=fun x=>evAl x ρ else evN Κ Φ it ρ
 |.enum a=>evA Κ Φ (.cons a .nil) ρ>>=fun ys=>evEn ys ρ
 |it=>evN Κ Φ it ρ
def outI (i:Nat):Res Out->Res Out
 |.ok (.nx ρ)=>.ok (.nx (ρ.set i none))
 |.ok (.rt g d)=>.ok (.rt g d)
 |_=>.no
def excOf:Res GD->Option Str
 |.exc (.str c)=>some c
 |_=>none
def frzS:Option GD->Option GD
 |some (.fr,d)=>some (.nu,d)
 |s=>s
mutual
def mayE:ac->ac->Bool
 |.list xs,y=>match y with|.list ys=>zo9 xs ys|_=>false
 |.tuple _,y=>match y with|.list _=>false|_=>true
 |.dict _,y=>match y with|.list _=>false|_=>true
 |.none,y=>match y with|.list _=>false|_=>true
 |.bool _,y=>match y with|.list _=>false|_=>true
 |.int _,y=>match y with|.list _=>false|_=>true
 |.str _,y=>match y with|.list _=>false|_=>true
def zo9:List ac->List ac->Bool
 | [],ys=>ys.isEmpty
 |x::xs,ys=>match ys with|y::ys=>mayE x y&&zo9 xs ys| []=>false
end
mutual
def apart (z:D):ac->Bool
 |.tuple xs=>zdp z xs
 |.list xs=>!(mayE (.list xs) z)&&zdp z xs
 |.dict _=>false
 |.none=>true
 |.bool _=>true
 |.int _=>true
 |.str _=>true
def zdp (z:D):List ac->Bool
 | []=>true
 |x::xs=>apart z x&&zdp z xs
end
def evS:S->Rho->Res Out
 |.nil,ρ=>.ok (.nx ρ)
 |.seq a b,ρ=>outB (evS a ρ) (evS b)
 |.asg (.nm i) e,ρ=>evE Κ Φ e ρ>>=fun x=>.ok (.nx (ρ.set i (some (z1s x))))
 |.asg t e,ρ=>evE Κ Φ e ρ>>=fun x=>z0x t x ρ>>=fun ρ'=>.ok (.nx ρ')
 |.setIx i k v,ρ=>evE Κ Φ v ρ>>=fun y=>evE Κ Φ k ρ>>=fun x=>match ρ[i]? with
  |some (some (.fr,.dict es))=>if isK x.2&&okIn y&&decide (es.length<LIM)then .ok (.nx ((ρ.set i (some (.fr,.dict (dput es x.2 y.2)))).map z2l))else .no
  |some (some (.fr,.list xs))=>(match x.2 with
   |.int j=>if okIn y then(match ixN xs.length j with|some n=>.ok (.nx ((ρ.set i (some (.fr,.list (xs.set n y.2)))).map z2l))|none=>.no)else .no
   |_=>.no)
  |_=>.no
 |.mut m i args,ρ=>evA Κ Φ args ρ>>=fun ys=>match ρ[i]? with
  |some (some (.fr,.list xs))=>mutD m xs ys>>=fun xs'=>.ok (.nx ((ρ.set i (some (.fr,.list xs'))).map z2l))
  |_=>.no
 |.ret e,ρ=>match e with
  |.var i=>match ρ[i]? with
   |some (some (g,d))=>.ok (.rt (if imm d then .fr else rtG g) d)
   |_=>.no
  |e=>evE Κ Φ e ρ>>=fun x=>.ok (.rt (rtG x.1) x.2)
 |.ifS c a b,ρ=>evT Κ Φ c ρ>>=fun k=>if k then evS a ρ else evS b ρ
 |.for_ t it b,ρ=>evF Κ Φ it ρ>>=fun w=>forD (fun x ρ1=>z0x t (gJ x w.1,x) ρ1>>=fun ρ2=>evS b ρ2) w.2.1 w.2.2
 |.rse _,_=>.no
 |.tr k _ args c i b,ρ=>evA Κ Φ args ρ>>=fun ys=>match Φ[k]? with
  |some m=>(match m (ys.map (·.2))with
   |.ok _=>.ok (.nx ρ)
   |r=>if excOf r=some c then outI i (evS b (ρ.set i none))else .no)
  |none=>.no
mutual
def exE:C->Rho->Option Str
 |.call k _ args,ρ=>match evA Κ Φ args ρ with
  |.ok ys=>(match Φ[k]? with|some m=>excOf (m (ys.map (·.2)))|none=>none)
  |_=>exA args ρ
 |_,_=>none
def exA:C->Rho->Option Str
 |.cons a r,ρ=>match evE Κ Φ a ρ with
  |.ok _=>exA r ρ
  |_=>exE a ρ
 |_,_=>none
end
def exT:C->Rho->Option Str
 |.not a,ρ=>exT a ρ
 |.tv a,ρ=>exE Κ Φ a ρ
 |_,_=>none
def forX (f:D->Rho->Res Out)(g:D->Rho->Option Str):List D->Rho->Option Str
 | [],_=>none
 |x::xs,ρ=>match f x ρ with
  |.ok (.nx ρ')=>forX f g xs ρ'
  |.ok _=>none
  |_=>g x ρ
def evX:S->Rho->Option Str
 |.rse c,_=>some c
 |.seq a b,ρ=>match evS Κ Φ a ρ with
  |.ok (.nx ρ')=>evX b ρ'
  |.ok _=>none
  |_=>evX a ρ
 |.ifS c a b,ρ=>match evT Κ Φ c ρ with
  |.ok k=>if k then evX a ρ else evX b ρ
  |_=>exT Κ Φ c ρ
 |.ret e,ρ=>exE Κ Φ e ρ
 |.asg (.nm _) e,ρ=>exE Κ Φ e ρ
 |.for_ t it b,ρ=>match evF Κ Φ it ρ with
  |.ok w=>forX (fun x ρ1=>z0x t (gJ x w.1,x) ρ1>>=fun ρ2=>evS Κ Φ b ρ2) (fun x ρ1=>match z0x t (gJ x w.1,x) ρ1 with|.ok ρ2=>evX b ρ2|_=>none) w.2.1 w.2.2
  |_=>none
 |_,_=>none
def runD (n:Nat)(s:S)(ds:List D):Res GD:=match evS Κ Φ s (ds.map (fun d=>some (.od,d))++bw (n-ds.length) none)with
 |.ok (.nx _)=>.ok (.fr,.none)
 |.ok (.rt g d)=>.ok (g,d)
 |_=>match evX Κ Φ s (ds.map (fun d=>some (.od,d))++bw (n-ds.length) none)with
  |some c=>.exc (.str c)
  |none=>.no
end
end Mi
namespace Mi
open PySem PySem.Spec PyProof.Rows L2
def kD:Key->D
 |.inl i=>.int i
 |.inr x=>.str x
def keyOk:Key->Prop
 |.inl _=>True
 |.inr x=>PyData.strOk x=true
def KL (K:W.Frag)(a:Addr)(xs:List V):Prop:=∃(o:Obj) (its:Array Value) (n:Nat),K.lookup a=some o/\o.cls=.type "list"/\o.dict=none/\o.data=.seq its n/\its.size<=bf/\Vals xs its.toList
abbrev Ad:=Option Addr
def FL (K:W.Frag)(H:Hp)(a:Addr)(xs:List V):Prop:=(∃o,H a=some (.frz o (.lst xs)))\/KL K a xs
def nw (H:Hp):Ad->Prop
 |some a=>H a=none
 |none=>False
section
variable (K:W.Frag)(H:Hp)(B:Ad->Prop)
mutual
def Rep:V->ac->Prop
 |v,.none=>v=.non
 |v,.bool b=>v=.bl b
 |v,.int i=>v=.int i
 |v,.str x=>v=.str x/\PyData.strOk x=true
 |v,.tuple ds=>∃a vs,v=.ref a/\SqT K H a vs/\Reps vs ds
 |v,.list ds=>∃a vs,v=.ref a/\((H a=some (.lst vs)/\B (some a))\/(FL K H a vs/\B none))/\Reps vs ds
 |v,.dict es=>∃a kvs,v=.ref a/\H a=some (.dK kvs)/\B (some a)/\REs kvs es
def Reps:List V->List ac->Prop
 |vs,[]=>vs=[]
 |vs,d::ds=>∃v r,vs=v::r/\Rep v d/\Reps r ds
def REs:List (Key×V)->List (ac×ac)->Prop
 |kvs,[]=>kvs=[]
 |kvs,(kd,d)::es=>∃k v r,kvs=(k,v)::r/\kd=kD k/\keyOk k/\Rep v d/\REs r es
end
end
def Fix:HO->Prop
 |.tup _=>True
 |.frz _ (.lst _)=>True
 |.frz _ (.tup _)=>True
 |_=>False
section
variable {K:W.Frag}{H H':Hp}{B B':Ad->Prop}
theorem FL.keep {a:Addr}{vs:List V}(hH:∀a o,H a=some o->(B (some a)\/Fix o)->H' a=some o)(r:FL K H a vs):FL K H' a vs:=by
 rcases r with⟨o,r⟩|r
 ·exact .inl ⟨o,hH a _ r (.inr True.intro)⟩
 ·exact .inr r
theorem _root_.L2.SqT.keep {a:Addr}{vs:List V}(hH:∀a o,H a=some o->(B (some a)\/Fix o)->H' a=some o)(r:SqT K H a vs):SqT K H' a vs:=by
 rcases r with(r|⟨o,r⟩)|r
 ·exact .inl (.inl (hH a _ r (.inr True.intro)))
 ·exact .inl (.inr ⟨o,hH a _ r (.inr True.intro)⟩)
 ·exact .inr r
mutual
theorem Rep.keep (hH:∀a o,H a=some o->(B (some a)\/Fix o)->H' a=some o)(hB:∀a,B a->B' a):∀{v:V} (d:ac),Rep K H B v d->Rep K H' B' v d
 |v,.none,r=>r
 |v,.bool b,r=>r
 |v,.int i,r=>r
 |v,.str x,r=>r
 |v,.tuple ds,r=>by obtain⟨a,vs,e,h,q⟩:=r;exact⟨a,vs,e,h.keep hH,Reps.keep hH hB ds q⟩
 |v,.list ds,r=>by
  obtain⟨a,vs,e,h,q⟩:=r;refine⟨a,vs,e,?_,Reps.keep hH hB ds q⟩;rcases h with⟨h,b⟩|h
  ·exact .inl ⟨hH a _ h (.inl b),hB _ b⟩
  ·exact .inr ⟨FL.keep hH h.1,hB _ h.2⟩
 |v,.dict es,r=>by obtain⟨a,kvs,e,h,b,q⟩:=r;exact⟨a,kvs,e,hH a _ h (.inl b),hB _ b,REs.keep hH hB es q⟩
theorem Reps.keep (hH:∀a o,H a=some o->(B (some a)\/Fix o)->H' a=some o)(hB:∀a,B a->B' a):∀{vs:List V} (ds:List ac),Reps K H B vs ds->Reps K H' B' vs ds
 |vs,[],r=>r
 |vs,d::ds,r=>by obtain⟨v,t,e,h,q⟩:=r;exact⟨v,t,e,Rep.keep hH hB d h,Reps.keep hH hB ds q⟩
theorem REs.keep (hH:∀a o,H a=some o->(B (some a)\/Fix o)->H' a=some o)(hB:∀a,B a->B' a):∀{kvs:List (Key×V)} (es:List (ac×ac)),REs K H B kvs es->REs K H' B' kvs es
 |kvs,[],r=>r
 |kvs,(kd,d)::es,r=>by obtain⟨k,v,t,e,e2,ok,h,q⟩:=r;exact⟨k,v,t,e,e2,ok,Rep.keep hH hB d h,REs.keep hH hB es q⟩
end
theorem Rep.same {v:V}{d:D}(s:Same H H')(hB:∀a,B a->B' a)(r:Rep K H B v d):Rep K H' B' v d:=Rep.keep (fun a o e _=>s a o e) hB d r
theorem Reps.same {vs:List V}{ds:List D}(s:Same H H')(hB:∀a,B a->B' a)(r:Reps K H B vs ds):Reps K H' B' vs ds:=Reps.keep (fun a o e _=>s a o e) hB ds r
theorem REs.same {vs:List (Key×V)}{ds:Ents}(s:Same H H')(hB:∀a,B a->B' a)(r:REs K H B vs ds):REs K H' B' vs ds:=REs.keep (fun a o e _=>s a o e) hB ds r
theorem Rep.weak {v:V}{d:D}(hB:∀a,B a->B' a)(r:Rep K H B v d):Rep K H B' v d:=r.same (fun _ _ e=>e) hB
theorem Reps.weak {v:List V}{d:List D}(hB:∀a,B a->B' a)(r:Reps K H B v d):Reps K H B' v d:=r.same (fun _ _ e=>e) hB
mutual
theorem Rep.immB:∀{v:V} (d:ac),imm d=true->Rep K H B v d->Rep K H B' v d
 |v,.none,_,r=>r
 |v,.bool b,_,r=>r
 |v,.int i,_,r=>r
 |v,.str x,_,r=>r
 |v,.tuple ds,i,r=>by obtain⟨a,vs,e,h,q⟩:=r;exact⟨a,vs,e,h,Reps.immB ds (i) q⟩
 |v,.list ds,i,r=>by cases(show false=true from i)
 |v,.dict es,i,r=>by cases(show false=true from i)
theorem Reps.immB:∀{vs:List V} (ds:List ac),imms ds=true->Reps K H B vs ds->Reps K H B' vs ds
 |vs,[],_,r=>r
 |vs,d::ds,i,r=>by have i:=ba.mp (show(imm d&&imms ds)=true from i);obtain⟨v,t,e,h,q⟩:=r;exact⟨v,t,e,Rep.immB d i.1 h,Reps.immB ds i.2 q⟩
end
mutual
theorem Rep.immK (hH:∀a o,H a=some o->Fix o->H' a=some o):∀{v:V} (d:ac),imm d=true->Rep K H B v d->Rep K H' B' v d
 |v,.none,_,r=>r
 |v,.bool b,_,r=>r
 |v,.int i,_,r=>r
 |v,.str x,_,r=>r
 |v,.tuple ds,i,r=>by obtain⟨a,vs,e,h,q⟩:=r;exact⟨a,vs,e,h.keep (B:=fun _=>False) (fun a o e f=>hH a o e (f.resolve_left id)),Reps.immK hH ds (i) q⟩
 |v,.list ds,i,r=>by cases(show false=true from i)
 |v,.dict es,i,r=>by cases(show false=true from i)
theorem Reps.immK (hH:∀a o,H a=some o->Fix o->H' a=some o):∀{vs:List V} (ds:List ac),imms ds=true->Reps K H B vs ds->Reps K H' B' vs ds
 |vs,[],_,r=>r
 |vs,d::ds,i,r=>by have i:=ba.mp (show(imm d&&imms ds)=true from i);obtain⟨v,t,e,h,q⟩:=r;exact⟨v,t,e,Rep.immK hH d i.1 h,Reps.immK hH ds i.2 q⟩
end
theorem Reps.length:∀{vs:List V} {ds:List D},Reps K H B vs ds->vs.length=ds.length
 |vs,[],r=>by have e:vs=[]:=r;subst e;rfl
 |vs,d::ds,r=>by obtain⟨v,t,e,h,q⟩:=r;subst e;rw[ay,ay,q.length]
theorem Reps.get:∀{vs:List V} {ds:List D} {i:Nat} {d:D},Reps K H B vs ds->ds[i]?=some d->∃v,vs[i]?=some v/\Rep K H B v d
 |vs,[],i,d,r,e=>by simp at e
 |vs,d0::ds,0,d,r,e=>by
  obtain⟨v,t,e1,h,q⟩:=r;subst e1;have:d0=d:=by simpa using e
  subst this;exact⟨v,rfl,h⟩
 |vs,d0::ds,i+1,d,r,e=>by obtain⟨v,t,e1,h,q⟩:=r;subst e1;obtain⟨u,h1,h2⟩:=q.get (i:=i) (d:=d) (by simpa using e);exact⟨u,by simpa using h1,h2⟩
theorem Reps.getV:∀{vs:List V} {ds:List D} {i:Nat} {v:V},Reps K H B vs ds->vs[i]?=some v->∃d,ds[i]?=some d/\Rep K H B v d
 |vs,[],i,v,r,e=>by have e1:vs=[]:=r;subst e1;simp at e
 |vs,d0::ds,0,v,r,e=>by
  obtain⟨u,t,e1,h,q⟩:=r;subst e1;have:u=v:=by simpa using e
  subst this;exact⟨d0,rfl,h⟩
 |vs,d0::ds,i+1,v,r,e=>by obtain⟨u,t,e1,h,q⟩:=r;subst e1;obtain⟨d,h1,h2⟩:=q.getV (i:=i) (v:=v) (by simpa using e);exact⟨d,by simpa using h1,h2⟩
theorem Reps.cons {v:V}{d:D}{vs:List V}{ds:List D}(h:Rep K H B v d)(r:Reps K H B vs ds):Reps K H B (v::vs) (d::ds):=⟨v,vs,rfl,h,r⟩
theorem Reps.append:∀{vs ws:List V} {ds es:List D},Reps K H B vs ds->Reps K H B ws es->Reps K H B (vs++ws) (ds++es)
 |vs,ws,[],es,r,q=>by have e:vs=[]:=r;subst e;exact q
 |vs,ws,d::ds,es,r,q=>by obtain⟨v,t,e,h,p⟩:=r;subst e;exact⟨v,t++ws,rfl,h,p.append q⟩
theorem Reps.take:∀{vs:List V} {ds:List D} (n:Nat),Reps K H B vs ds->Reps K H B (vs.take n) (ds.take n)
 |vs,ds,0,r=>by rw[List.take_zero,List.take_zero];exact rfl
 |vs,[],n+1,r=>by have e:vs=[]:=r;subst e;exact rfl
 |vs,d::ds,n+1,r=>by obtain⟨v,t,e,h,p⟩:=r;subst e;exact⟨v,t.take n,rfl,h,p.take n⟩
theorem Reps.drop:∀{vs:List V} {ds:List D} (n:Nat),Reps K H B vs ds->Reps K H B (vs.drop n) (ds.drop n)
 |vs,ds,0,r=>r
 |vs,[],n+1,r=>by have e:vs=[]:=r;subst e;exact rfl
 |vs,d::ds,n+1,r=>by obtain⟨v,t,e,h,p⟩:=r;subst e;exact p.drop n
theorem Reps.set {v:V}{d:D}(h:Rep K H B v d):∀{vs:List V} {ds:List D} (n:Nat),Reps K H B vs ds->Reps K H B (vs.set n v) (ds.set n d)
 |vs,[],n,r=>by have e:vs=[]:=r;subst e;exact rfl
 |vs,d::ds,0,r=>by obtain⟨u,t,e,_,p⟩:=r;subst e;exact⟨_,_,rfl,h,p⟩
 |vs,d::ds,n+1,r=>by obtain⟨u,t,e,h0,p⟩:=r;subst e;exact⟨_,_,rfl,h0,p.set h n⟩
mutual
theorem Rep.there:∀{v:V} (d:ac),Rep K H B v d->Rep K H (fun a=>B a/\¬nw H a) v d
 |v,.none,r=>r
 |v,.bool b,r=>r
 |v,.int i,r=>r
 |v,.str x,r=>r
 |v,.tuple ds,r=>by obtain⟨a,vs,e,h,q⟩:=r;exact⟨a,vs,e,h,Reps.there ds q⟩
 |v,.list ds,r=>by
  obtain⟨a,vs,e,h,q⟩:=r;refine⟨a,vs,e,?_,Reps.there ds q⟩;rcases h with⟨h,b⟩|h
  ·refine .inl ⟨h,b,fun z=>?_⟩;have z':H a=none:=z;rw[h]at z';cases z'
  ·exact .inr ⟨h.1,h.2,fun z=>z⟩
 |v,.dict es,r=>by obtain⟨a,kvs,e,h,b,q⟩:=r;exact⟨a,kvs,e,h,⟨b,fun z=>by have z':H a=none:=z;rw[h]at z';cases z'⟩,REs.there es q⟩
theorem Reps.there:∀{vs:List V} (ds:List ac),Reps K H B vs ds->Reps K H (fun a=>B a/\¬nw H a) vs ds
 |vs,[],r=>r
 |vs,d::ds,r=>by obtain⟨v,t,e,h,q⟩:=r;exact⟨v,t,e,Rep.there d h,Reps.there ds q⟩
theorem REs.there:∀{kvs:List (Key×V)} (es:List (ac×ac)),REs K H B kvs es->REs K H (fun a=>B a/\¬nw H a) kvs es
 |kvs,[],r=>r
 |kvs,(kd,d)::es,r=>by obtain⟨k,v,t,e,e2,ok,h,q⟩:=r;exact⟨k,v,t,e,e2,ok,Rep.there d h,REs.there es q⟩
end
end
structure Fm where
 H0:Hp
 V:Addr->Prop
 O:Addr->Option Nat
 z:Prop
def Bin (F:Fm):Ad->Prop
 |some a=>F.O a=none/\F.H0 a=none/\F.V a
 |none=>False
def visA (F:Fm):Ad->Prop
 |some a=>F.V a
 |none=>F.z
def oldA (F:Fm):Ad->Prop
 |some a=>F.H0 a≠none/\F.V a
 |none=>F.z
def Slot (K:W.Frag)(F:Fm)(H:Hp)(i:Nat):G->V->D->Prop
 |.fr,v,d=>∃p,v=.ref p/\F.O p=some i/\((∃vs ds,d=.list ds/\H p=some (.lst vs)/\Reps K H (Bin F) vs ds)\/(∃kvs es,d=.dict es/\H p=some (.dK kvs)/\REs K H (Bin F) kvs es))
 |.od,v,d=>Rep K H (oldA F) v d
 |.al,v,d=>Rep K H (visA F) v d
 |.nu,v,d=>Rep K H (Bin F) v d
structure StOk (K:W.Frag)(F:Fm)(H:Hp)(σ:L2.St)(ρ:Rho):Prop where
 ext:Same F.H0 H
 vis:∀a,H a=none->F.V a
 own:∀a i,F.O a=some i->F.H0 a=none/\F.V a/\((∃xs,H a=some (.lst xs))\/∃kvs,H a=some (.dK kvs))
 len:σ.length=ρ.length
 sl:∀i g d,ρ[i]?=some (some (g,d))->∃v,σ[i]?=some (some v)/\Slot K F H i g v d
def BG (F:Fm)(H:Hp):G->Ad->Prop
 |.fr=>nw H
 |.od=>oldA F
 |.al=>visA F
 |.nu=>fun a=>nw H a\/Bin F a
section
variable {K:W.Frag}{F:Fm}{H H':Hp}{σ:L2.St}{ρ:Rho}
theorem Slot.same {i:Nat}{g:G}{v:V}{d:D}(s:Same H H')(h:Slot K F H i g v d):Slot K F H' i g v d:=by
 cases g with
 |fr=>
  obtain⟨p,e,o,h⟩:=h;refine⟨p,e,o,?_⟩;rcases h with⟨vs,ds,e1,e2,r⟩|⟨vs,ds,e1,e2,r⟩
  ·exact .inl ⟨vs,ds,e1,s _ _ e2,r.same s fun _ b=>b⟩
  ·exact .inr ⟨vs,ds,e1,s _ _ e2,r.same s fun _ b=>b⟩
 |od=>exact Rep.same s (fun _ b=>b) h
 |al=>exact Rep.same s (fun _ b=>b) h
 |nu=>exact Rep.same s (fun _ b=>b) h
theorem _root_.L2.Same.none {a:Addr}(s:Same H H')(h:H' a=none):H a=none:=by
 cases e:H a with
 |none=>rfl
 |some o=>rw[s a o e]at h;cases h
theorem StOk.same (s:Same H H')(h:StOk K F H σ ρ):StOk K F H' σ ρ where
 ext:=fun a o e=>s a o (h.ext a o e)
 vis:=fun a e=>h.vis a (s.none e)
 own:=fun a i e=>by
  obtain⟨h1,h3,h2⟩:=h.own a i e;refine⟨h1,h3,?_⟩;rcases h2 with⟨xs,h2⟩|⟨xs,h2⟩
  ·exact .inl ⟨xs,s _ _ h2⟩
  ·exact .inr ⟨xs,s _ _ h2⟩
 len:=h.len
 sl:=fun i g d e=>by obtain⟨v,h1,h2⟩:=h.sl i g d e;exact⟨v,h1,h2.same s⟩
theorem nw.back {a:Ad}(s:Same H H')(h:nw H' a):nw H a:=by
 cases a with
 |none=>exact h
 |some a=>exact s.none h
theorem nw.vis {a:Ad}(hv:∀a,H a=none->F.V a)(h:nw H a):visA F a:=by
 cases a with
 |none=>exact h.elim
 |some a=>exact hv a h
theorem oldA.vis {a:Ad}(h:oldA F a):visA F a:=by
 cases a with
 |none=>exact h
 |some a=>exact h.2
theorem Bin.vis {a:Ad}(h:Bin F a):visA F a:=by
 cases a with
 |none=>exact h.elim
 |some a=>exact h.2.2
theorem BG.back {g:G}{a:Ad}(s:Same H H')(h:BG F H' g a):BG F H g a:=by
 cases g with
 |fr=>exact nw.back s h
 |od=>exact h
 |al=>exact h
 |nu=>exact h.elim (fun h=>.inl (nw.back s h)) .inr
theorem BG.vis {g:G}{a:Ad}(hv:∀a,H a=none->F.V a)(h:BG F H g a):visA F a:=by
 cases g with
 |fr=>exact nw.vis hv h
 |od=>exact oldA.vis h
 |al=>exact h
 |nu=>exact h.elim (nw.vis hv) Bin.vis
theorem Slot.rep {i:Nat}{g:G}{v:V}{d:D}(so:∀a i,F.O a=some i->F.V a)(h:Slot K F H i g v d):Rep K H (visA F) v d:=by
 cases g with
 |fr=>
  obtain⟨p,e,o,h⟩:=h;rcases h with⟨vs,ds,rfl,e2,r⟩|⟨vs,ds,rfl,e2,r⟩
  ·exact⟨p,vs,e,.inl ⟨e2,so _ _ o⟩,r.weak fun _ b=>b.vis⟩
  ·exact⟨p,vs,e,e2,so _ _ o,REs.same (fun _ _ e=>e) (fun _ b=>b.vis) r⟩
 |od=>exact Rep.weak (fun _ b=>b.vis) h
 |al=>exact h
 |nu=>exact Rep.weak (fun _ b=>Bin.vis b) h
theorem StOk.ownV (h:StOk K F H σ ρ):∀a i,F.O a=some i->F.V a:=fun a i e=>(h.own a i e).2.1
theorem StOk.rd (h:StOk K F H σ ρ){i:Nat}{x:GD}(e:rdS ρ[i]?=.ok x):∃v,σ[i]?=some (some v)/\Rep K H (BG F H x.1) v x.2:=by
 cases e1:ρ[i]? with
 |none=>rw[e1]at e;cases e
 |some o=>
  cases o with
  |none=>rw[e1]at e;cases e
  |some gd=>
   obtain⟨g,d⟩:=gd;rw[e1]at e;obtain⟨v,h1,h2⟩:=h.sl i g d e1;have e':x=(if imm d then .fr else rdG g,d):=(Res.ok.inj e).symm;subst e';refine⟨v,h1,?_⟩;by_cases hi:imm d=true
   ·show Rep K H (BG F H (if imm d=true then _ else _)) v d;rw[if_pos hi];exact Rep.immB d hi (h2.rep h.ownV)
   ·show Rep K H (BG F H (if imm d=true then _ else _)) v d;rw[if_neg hi];cases g with
    |fr=>exact h2.rep h.ownV
    |od=>exact h2
    |al=>exact h2
    |nu=>exact Rep.weak (fun _ b=>.inr b) h2
end
structure Gm where
 N:List Str
 sc:Scope
 blk:Bool:=false
 free:List Str
 fns:List (Str×Nat)
 cst:List Str
 cm:Bool:=true
 xc:Option (Str×Str):=none
 sub:List (Str×Str×Bool):=[]
 rs:List Str:=[]
 hnd:List (Str×Str):=[]
section
variable (Γ:Gm)
def visB (i:Nat)(x:Str):Bool:=(Γ.N[i]?==some x)&&(Γ.sc.names.lookup x==some .local||Γ.sc.names.lookup x==some .cell||Γ.sc.names.lookup x==some .free)&& !(x==("__debug__":Str))&& !(x==("__classdict__":Str))
def glB (x:Str):Bool:=(Γ.sc.names.lookup x==some .globalImplicit)&& !(x==("__debug__":Str))
def bltB (x:Str):Bool:=glB Γ x&&Γ.free.contains x&& !(x==("__name__":Str))
def locB (i:Nat)(x:Str):Bool:=(Γ.N[i]?==some x)&&(Γ.sc.names.lookup x==some .local||(!Γ.blk&&Γ.sc.names.lookup x==some .cell))
end
def tgIx:Tg->List Nat
 |.nm i=>[i]
 |.tp is=>is
def zlu (scope sc:Scope):Scope:={scope with names:=scope.names.map fun(n,k)=>if(k==.free&&sc.kind==.function&&sc.names.lookup n==some .cell)then(n,.cell)else(n,k)}
def plainT:Expr->Bool
 |.UnaryOp .Not _ _=>false
 |.BoolOp _ _ _=>false
 |.IfExp _ _ _ _=>false
 |.Compare _ _ _ _=>false
 |_=>true
def zhw:Expr->Bool
 |.Compare _ _ _ _=>true
 |_=>false
def z5y:Expr->Bool
 |.Slice _ _ _ _=>false
 |_=>true
def z2q:Expr->Bool
 |.Call (.Name _ _) [] [] _=>false
 |_=>true
def zg2:Expr->Bool
 |.Set _ _ _=>false
 |_=>true
def isTup:Expr->Bool
 |.Tuple _ _ _=>true
 |_=>false
def vNm:Expr->Option Str
 |.Name x _=>some x
 |_=>none
def vCst:Expr->Option Const
 |.Constant v _ _=>some v
 |_=>none
def vBin:Expr->Option (Expr×jc×Expr)
 |.BinOp l o r _=>some (l,o,r)
 |_=>none
def vUn:Expr->Option (UnaryOp×Expr)
 |.UnaryOp o x _=>some (o,x)
 |_=>none
def vCm:Expr->Option (Expr×List CmpOp×List Expr)
 |.Compare l o r _=>some (l,o,r)
 |_=>none
def vBo:Expr->Option (BoolOp×List Expr×Pos)
 |.BoolOp o xs p=>some (o,xs,p)
 |_=>none
def vIfE:Expr->Option (Expr×Expr×Expr)
 |.IfExp t x y _=>some (t,x,y)
 |_=>none
def vTup:Expr->Option (List Expr)
 |.Tuple es _ _=>some es
 |_=>none
def vLst:Expr->Option (List Expr)
 |.List es _=>some es
 |_=>none
def vDi:Expr->Option (List (Option Expr)×List Expr)
 |.Dict k v _=>some (k,v)
 |_=>none
def vSub:Expr->Option (Expr×Expr)
 |.Subscript x i _=>some (x,i)
 |_=>none
def vSli:Expr->Option (Option Expr×Option Expr×Option Expr)
 |.Slice l h s _=>some (l,h,s)
 |_=>none
def vCa:Expr->Option (Expr×List Expr×List m8×Pos)
 |.Call f es k p=>some (f,es,k,p)
 |_=>none
def vAt:Expr->Option (Expr×Str×Pos)
 |.Attribute x n p=>some (x,n,p)
 |_=>none
def vJo:Expr->Option (List Expr)
 |.JoinedStr xs _=>some xs
 |_=>none
def vFv:Expr->Option (Expr×Int×Option Expr)
 |.FormattedValue l c s _=>some (l,c,s)
 |_=>none
def vLC:Expr->Option (Expr×List jf×Scope)
 |.ListComp el gs s _=>some (el,gs,s)
 |_=>none
def vOne {α:Type}:List α->Option α
 | [x]=>some x
 |_=>none
def vTwo {α:Type}:List α->Option (α×α)
 | [x,y]=>some (x,y)
 |_=>none
def zhg {α:Type}:List α->Option (α×α×α)
 | [x,y,z]=>some (x,y,z)
 |_=>none
def z4f (e:Expr):Option (Str×List Expr):=(vCa e).bind fun v=>if v.2.2.1.isEmpty then(vNm v.1).map fun x=>(x,v.2.1)else none
def vMt (e:Expr):Option (Expr×Str×List Expr×Bool):=(vCa e).bind fun v=>if v.2.2.1.isEmpty then(vAt v.1).map fun u=>(u.1,u.2.1,v.2.1,u.2.2.endLine==v.2.2.2.line)else none
def zee (f g:Expr->Bool)(o:BoolOp)(p:Pos):List Expr->Bool
 |x::y::r=>f x&&(if r.isEmpty then g y else g (.BoolOp o (y::r) p))
 |_=>false
def ifsB (n:Bool)(f:Expr->Bool):List Expr->Bool
 | []=>n
 |t::r=>r.isEmpty&&f t
def isNl:C->Bool
 |.nil=>true
 |_=>false
def hd1 (f:Str->Bool)(e:Expr):Bool:=(vNm e).any f
def zk6 (Γ:Gm):List Nat->List Expr->Bool
 | [],es=>es.isEmpty
 |i::is,es=>match es with|e::es=>hd1 (locB Γ i) e&&zk6 Γ is es| []=>false
def zfo (Γ:Gm):Tg->Expr->Bool
 |.nm i,e=>hd1 (locB Γ i) e
 |.tp is,e=>Γ.cm&&(vTup e).any (zk6 Γ is)
def zjv:jc->Bool
 |.Add|.Sub|.Mult|.FloorDiv|.Mod|.Pow=>true
 |_=>false
def z3m:CmpOp->Bool
 |.Is|.IsNot|.GtE=>false
 |_=>true
def okTy (T:String):Bool:=tysB.contains T
def tyB (Γ:Gm)(T:String)(t:Expr):Bool:=hd1 (fun x=>(x==Str.ofString T)&&bltB Γ x&&okTy T) t
def aggs:List String:=["list","tuple","sorted","all"]
def tgN:Tg->Bool
 |.nm _=>true
 |.tp _=>false
def zkc:C->Expr->Bool
 |.enum _,e=>isTup e
 |_,_=>true
mutual
def chkE (Γ:Gm):C->Expr->Bool
 |.var i,e=>hd1 (visB Γ i) e
 |.non,e=>decide (vCst e=some .none)
 |.bl b,e=>decide (vCst e=some (.bool b))
 |.int i,e=>decide (vCst e=some (.int i))
 |.str x,e=>decide (vCst e=some (.str x))&&PyData.strOk x
 |.glob k x,e=>hd1 (fun y=>(x==y)&&glB Γ x&&(Γ.cst[k]?==some x)) e
 |.bin op a b,e=>(vBin e).any fun v=>decide (op=v.2.1)&&zjv op&&chkE Γ a v.1&&chkE Γ b v.2.2
 |.neg a,e=>(vUn e).any fun v=>decide (v.1=.USub)&&chkE Γ a v.2
 |.cmp op a b,e=>(vCm e).any fun v=>decide (v.2.1=[op])&&(vOne v.2.2).any fun r=>z3m op&& !(fz op r)&&chkE Γ a v.1&&chkE Γ b r
 |.chain op op' a b c,e=>(vCm e).any fun v=>decide (v.2.1=[op,op'])&&(vTwo v.2.2).any fun r=>z3m op&&z3m op'&& !(mq [op,op'] [r.1,r.2])&&chkE Γ a v.1&&(chkE Γ b r.1&&chkE Γ c r.2)
 |.isN ng a,e=>(vCm e).any fun v=>decide (v.2.1=[if ng then .IsNot else .Is])&&(vOne v.2.2).any fun r=>decide (vCst r=some .none)&&chkE Γ a v.1
 |.and a b,e=>(vBo e).any fun v=>decide (v.1=.And)&&zee (fun x=>chkE Γ a x) (fun x=>chkE Γ b x) .And v.2.2 v.2.1
 |.or a b,e=>(vBo e).any fun v=>decide (v.1=.Or)&&zee (fun x=>chkE Γ a x) (fun x=>chkE Γ b x) .Or v.2.2 v.2.1
 |.not a,e=>(vUn e).any fun v=>decide (v.1=.Not)&&chkE Γ a v.2
 |.ife c a b,e=>(vIfE e).any fun v=>chkT Γ c v.1&&chkE Γ a v.2.1&&chkE Γ b v.2.2
 |.tup xs,e=>(vTup e).any fun es=>decide (es.length<=1000)&&chkA Γ xs es
 |.lst xs,e=>(vLst e).any fun es=>decide (es.length<=1000)&&chkA Γ xs es
 |.dnew,e=>(vDi e).any fun v=>v.1.isEmpty&&v.2.isEmpty
 |.ix a b,e=>(vSub e).any fun v=>z5y v.2&&chkE Γ a v.1&&chkE Γ b v.2
 |.fs a x b,e=>(vJo e).any fun l=>(zhg l).any fun t=>(vFv t.1).any fun u=>(vFv t.2.2).any fun w=>((u.2.1== -1)&&u.2.2.isNone&&(w.2.1== -1)&&w.2.2.isNone)&&decide (vCst t.2.1=some (.str x))&&PyData.strOk x&&chkE Γ a u.1&&chkE Γ b w.1
 |.sl a lo hi,e=>(vSub e).any fun v=>(vSli v.2).any fun s=>s.2.2.isNone&&chkE Γ a v.1&&chkO Γ lo s.1&&chkO Γ hi s.2.1
 |.call k f args,e=>(z4f e).any fun v=>(Γ.cm&&(v.1==f))&&glB Γ v.1&&(Γ.fns[k]?==some (f,v.2.length))&&chkA Γ args v.2&& !v.2.isEmpty
 |.bi f args,e=>(z4f e).any fun v=>(v.1==Str.ofString f)&&bltB Γ v.1&&((["len","max","min","int","str"].contains f)&&(Γ.cm||f=="int"))&&chkA Γ args v.2&& !v.2.isEmpty
 |.agg f a,e=>(z4f e).any fun v=>(v.1==Str.ofString f)&&bltB Γ v.1&&(aggs.contains f&&Γ.cm)&&(vOne v.2).any fun y=>!isStar y&&chkG Γ a y
 |.isT a ts,e=>(z4f e).any fun v=>(v.1==("isinstance":Str))&&bltB Γ v.1&&(vTwo v.2).any fun y=>!isStar y.1&&chkE Γ a y.1&&(vOne ts).any fun T=>tyB Γ T y.2
 |.mt m o args,e=>(vMt e).any fun v=>((v.2.1==Str.ofString m)&& ["get","join","partition","find"].contains m&&z2q v.1&&v.2.2.2&&decide (v.2.2.1.length<20))&&chkE Γ o v.1&&chkA Γ args v.2.2.1&& !v.2.2.1.isEmpty
 |.comp nt js N' tg it cond elt,e=>(vLC e).any fun v=>(vOne v.2.1).any fun g=>let Γ':Gm:={Γ with N:=N',sc:=zlu v.2.2 Γ.sc,blk:=true,xc:=none}
  ((Γ.cm&&(g.is_async==0))&&(tgIx tg).all (fun i=>decide (i<nt))&&blkB Γ.N Γ.sc v.2.2 N' nt js&&zg2 g.iter&&decide N'.Nodup)&&(zfo Γ' tg g.target&&zkc it g.target)&&chkW Γ it g.iter&&ifsB (isNl cond) (fun t=>chkT Γ' cond t) g.ifs&&chkE Γ' elt v.1
 |.spl a b,e=>(vMt e).any fun v=>((v.2.1==("split":Str))&&z2q v.1&&v.2.2.2)&&chkE Γ a v.1&&(vOne v.2.2.1).any fun y=>!isStar y&&chkE Γ b y
 |.upr a,e=>(vMt e).any fun v=>((v.2.1==("upper":Str))&&z2q v.1&&v.2.2.2)&&v.2.2.1.isEmpty&&chkE Γ a v.1
 |.sortI i,e=>(z4f e).any fun v=>(Γ.cm&&(v.1==("sorted":Str)))&&bltB Γ v.1&&(vOne v.2).any fun y=>(vMt y).any fun m=>hd1 (visB Γ i) m.1&&(m.2.1==("items":Str))&&m.2.2.1.isEmpty&&m.2.2.2
 |.isE b x,e=>(z4f e).any fun v=>(v.1==("isinstance":Str))&&bltB Γ v.1&&(vTwo v.2).any fun y=>Γ.xc.any fun z=>hd1 (fun n=>(n==z.1)&&(Γ.sc.names.lookup n==some .local)&& !(n==("__debug__":Str))&& !(n==("__classdict__":Str))) y.1&&hd1 (fun C=>(C==x)&&glB Γ C&&Γ.sub.contains (z.2,x,b)) y.2
 |.rng _,_=>false
 |.enum _,_=>false
 |.tv _,_=>false
 |.nil,_=>false
 |.cons _ _,_=>false
def chkT (Γ:Gm):C->Expr->Bool
 |.and a b,e=>(vBo e).any fun v=>decide (v.1=.And)&&zee (fun x=>chkT Γ a x) (fun x=>chkT Γ b x) .And v.2.2 v.2.1
 |.or a b,e=>(vBo e).any fun v=>decide (v.1=.Or)&&zee (fun x=>chkT Γ a x) (fun x=>chkT Γ b x) .Or v.2.2 v.2.1
 |.not a,e=>(vUn e).any fun v=>decide (v.1=.Not)&&chkT Γ a v.2
 |.tv a,e=>(plainT e||zhw e)&&chkE Γ a e
 |_,_=>false
def chkA (Γ:Gm):C->List Expr->Bool
 |.nil,es=>es.isEmpty
 |.cons a r,es=>match es with|e::es=>!isStar e&&chkE Γ a e&&chkA Γ r es|_=>false
 |_,_=>false
def chkO (Γ:Gm):C->Option Expr->Bool
 |.nil,e=>e.isNone
 |.tv a,e=>e.any fun e=>chkE Γ a e
 |_,_=>false
def chkW (Γ:Gm):C->Expr->Bool
 |.rng args,e=>(z4f e).any fun v=>(v.1==("range":Str))&&bltB Γ v.1&&chkA Γ args v.2&&(!v.2.isEmpty&&decide (v.2.length<=3))
 |.tv a,e=>zg2 e&&chkE Γ a e
 |.enum a,e=>(z4f e).any fun v=>(v.1==("enumerate":Str))&&bltB Γ v.1&&(vOne v.2).any fun y=>!isStar y&&chkE Γ a y
 |_,_=>false
def chkG (Γ:Gm):C->Expr->Bool
 |.tv a,e=>chkE Γ a e
 |_,_=>false
end
def isCI:C->Bool
 |_=>false
def chkF (Γ:Gm)(it:C)(tg ie:Expr):Bool:=zkc it tg&&chkW Γ it ie
def vAs:Stmt->Option (List Expr×Expr)
 |.Assign t v _=>some (t,v)
 |_=>none
def vEx:Stmt->Option Expr
 |.Expr v _=>some v
 |_=>none
def vRt:Stmt->Option (Option Expr)
 |.Return v _=>some v
 |_=>none
def vIf:Stmt->Option (Expr×List Stmt×List Stmt)
 |.If t A B _=>some (t,A,B)
 |_=>none
def vFo:Stmt->Option (Expr×Expr×List Stmt×List Stmt)
 |.For t i B o _=>some (t,i,B,o)
 |_=>none
def vRa:Stmt->Option (Str×List Expr)
 |.Raise (some c) none _=>z4f c
 |_=>none
def zo2 (e:Expr):Bool:=(vCst e).any fun k=>match k with|.str x=>PyData.strOk x|_=>false
def vEh:ExceptHandler->Option (Str×Str×List Stmt)
 |.ExceptHandler (some (.Name x _)) (some n) b _=>some (x,n,b)
 |_=>none
def vTr:Stmt->Option (Str×List Expr×Str×Str×List Stmt)
 |.Try [.Expr c _] [h] [] [] _=>(z4f c).bind fun v=>(vEh h).map fun u=>(v.1,v.2,u)
 |_=>none
mutual
def chk1 (Γ:Gm):S->Stmt->Bool
 |.asg t e,s=>(vAs s).any fun u=>(vOne u.1).any fun x=>zfo Γ t x&& !isCI e&&(tgN t||(!z2m u.2&& !isTup u.2))&&chkE Γ e u.2
 |.setIx i k v,s=>(vAs s).any fun u=>(vOne u.1).any fun x=>(vSub x).any fun w=>hd1 (visB Γ i) w.1&&z5y w.2&& !z2m u.2&&chkE Γ k w.2&&chkE Γ v u.2
 |.mut m i args,s=>(vEx s).any fun c=>(vMt c).any fun v=>(hd1 (visB Γ i) v.1&&(v.2.1==Str.ofString m)&& ["append","insert","pop"].contains m&&v.2.2.2&&decide (v.2.2.1.length<20))&& !v.2.2.1.isEmpty&&chkA Γ args v.2.2.1
 |.ret e,s=>(vRt s).any fun o=>o.any fun v=>chkE Γ e v
 |.ifS c a b,s=>(vIf s).any fun v=>chkT Γ c v.1&&chkL Γ a v.2.1&&chkL Γ b v.2.2
 |.for_ t it b,s=>Γ.cm&&(vFo s).any fun v=>zfo Γ t v.1&&chkF Γ it v.1 v.2.1&&chkL Γ b v.2.2.1&&v.2.2.2.isEmpty
 |.rse c,s=>(vRa s).any fun v=>(v.1==c)&&glB Γ c&&Γ.rs.contains c&&Γ.cm&&(vOne v.2).any zo2
 |.tr k f args c i b,s=>(vTr s).any fun v=>(Γ.cm&&(Γ.xc.isNone&& !Γ.blk)&&(Γ.N[i]?==some v.2.2.2.1)&&(Γ.sc.names.lookup v.2.2.2.1==some .local)&&decide (Γ.N.set i "").Nodup)&&
  ((Γ.sc.names.lookup ("":Str)).isNone&&glB Γ v.2.2.1&&Γ.hnd.contains (c,v.2.2.1)&&(v.1==f)&&glB Γ f)&&((Γ.fns[k]?==some (f,v.2.1.length))&&chkA Γ args v.2.1&& !v.2.1.isEmpty&& !v.2.2.2.2.isEmpty&&chkL {Γ with N:=Γ.N.set i "",cm:=false,xc:=some (v.2.2.2.1,c),fns:=[]} b v.2.2.2.2)
 |.nil,_=>false
 |.seq _ _,_=>false
def chkL (Γ:Gm):S->List Stmt->Bool
 |.nil,l=>l.isEmpty
 |.seq a b,l=>match l with|s::r=>chk1 Γ a s&&chkL Γ b r|_=>false
 |_,_=>false
end
def tD (K:W.Frag)(f:Rho->Res GD):TE:=fun σ H Q=>∃ρ F x,StOk K F H σ ρ/\f ρ=.ok x/\∀v H',Same H H'->Rep K H' (BG F H x.1) v x.2->Q v H'
def tDT (K:W.Frag)(f:Rho->Res Bool):TT:=fun σ H Q=>∃ρ F b,StOk K F H σ ρ/\f ρ=.ok b/\∀H',Same H H'->Q b H'
def tDO (K:W.Frag)(f:Rho->Res (Option Int)):TO:=fun σ H Q=>∃ρ F b,StOk K F H σ ρ/\f ρ=.ok b/\∀H',Same H H'->Q b H'
def RGs (K:W.Frag)(F:Fm)(H H':Hp):List V->List GD->Prop
 |vs,[]=>vs=[]
 |vs,x::xs=>∃v r,vs=v::r/\Rep K H' (BG F H x.1) v x.2/\RGs K F H H' r xs
def tDA (K:W.Frag)(f:Rho->Res (List GD)):TA:=fun σ H Q=>∃ρ F xs,StOk K F H σ ρ/\f ρ=.ok xs/\∀vs H',Same H H'->RGs K F H H' vs xs->Q vs H'
theorem _root_.L2.PE.imp {X:Cx}{e:Expr}{t t':TE}(h:PE X e t)(i:∀σ H Q,t' σ H Q->t σ H Q):PE X e t':=fun pins s σ H Q I q=>h pins s σ H Q I (i σ H Q q)
theorem _root_.L2.PT.imp {X:Cx}{e:Expr}{t t':TT}(h:PT X e t)(i:∀σ H Q,t' σ H Q->t σ H Q):PT X e t':=fun pins s σ H Q I q=>h pins s σ H Q I (i σ H Q q)
theorem _root_.L2.PW.imp {X:Cx}{e:Expr}{t t':TT}(h:PW X e t)(i:∀σ H Q,t' σ H Q->t σ H Q):PW X e t':=fun wh pins s σ H Q I q=>h wh pins s σ H Q I (i σ H Q q)
theorem _root_.L2.PA.imp {X:Cx}{e:List Expr}{t t':TA}(h:PA X e t)(i:∀σ H Q,t' σ H Q->t σ H Q):PA X e t':=fun pos pins s σ H Q I q=>h pos pins s σ H Q I (i σ H Q q)
theorem _root_.L2.PO.imp {X:Cx}{e:Option Expr}{t t':TO}(h:PO X e t)(i:∀σ H Q,t' σ H Q->t σ H Q):PO X e t':=fun pins s σ H Q I q=>h pins s σ H Q I (i σ H Q q)
theorem _root_.L2.PS.imp {X:Cx}{e:Stmt}{t t':TS}(h:PS X e t)(i:∀D σ H,t' D σ H->t D σ H):PS X e t':=fun pins s σ H D I q=>h pins s σ H D I (i D σ H q)
theorem _root_.L2.PSs.imp {X:Cx}{e:List Stmt}{t t':TS}(h:PSs X e t)(i:∀D σ H,t' D σ H->t D σ H):PSs X e t':=fun pins s σ H D I q=>h pins s σ H D I (i D σ H q)
section
variable {K:W.Frag}{F:Fm}{H H1 H':Hp}
theorem RGs.same:∀{vs:List V} {xs:List GD},Same H1 H'->Same H H1->RGs K F H H1 vs xs->RGs K F H H' vs xs
 |vs,[],_,_,r=>r
 |vs,x::xs,s,s0,r=>by obtain⟨v,t,e,h,q⟩:=r;exact⟨v,t,e,h.same s fun _ b=>b,q.same s s0⟩
theorem RGs.back:∀{vs:List V} {xs:List GD},Same H H1->RGs K F H1 H' vs xs->RGs K F H H' vs xs
 |vs,[],_,r=>r
 |vs,x::xs,s,r=>by obtain⟨v,t,e,h,q⟩:=r;exact⟨v,t,e,h.weak fun _ b=>b.back s,q.back s⟩
theorem RGs.reps {B:Ad->Prop}:∀{vs:List V} {xs:List GD},(∀x∈xs,∀a,BG F H x.1 a->B a)->RGs K F H H' vs xs->Reps K H' B vs (xs.map (·.2))
 |vs,[],_,r=>r
 |vs,x::xs,hB,r=>by obtain⟨v,t,e,h,q⟩:=r;exact⟨v,t,e,h.weak (hB x au),q.reps fun y hy=>hB y (aw _ hy)⟩
theorem RGs.repsV {vs:List V}{xs:List GD}(hv:∀a,H a=none->F.V a)(r:RGs K F H H' vs xs):Reps K H' (visA F) vs (xs.map (·.2)):=r.reps fun _ _ _ h=>h.vis hv
theorem z7d {xs:List GD}{x:GD}{a:Ad}(hv:∀a,H a=none->F.V a)(hx:x∈xs)(h:BG F H x.1 a):BG F H (gAll xs) a:=by
 unfold gAll;by_cases e:(xs.all fun x=>x.1==.fr)=true
 ·rw[if_pos e];have:=(ax.mp e) x hx;have e1:x.1=.fr:=by simpa using this
  rw[e1]at h;exact h
 ·rw[if_neg e];split
  ·rename_i e2;have:=(ax.mp e2) x hx;rcases d8.mp this with e1|e1
   ·rw[eq_of_beq e1]at h;exact .inl h
   ·rw[eq_of_beq e1]at h;exact h
  ·exact h.vis hv
theorem z67 {xs:List GD}{a:Ad}(hv:∀a,H a=none->F.V a)(s:Same H H1)(h:nw H1 a):BG F H (gAll xs) a:=by
 unfold gAll;by_cases e:(xs.all fun x=>x.1==.fr)=true
 ·rw[if_pos e];exact nw.back s h
 ·rw[if_neg e];split
  ·exact .inl (nw.back s h)
  ·exact(nw.back s h).vis hv
theorem z3w {B:Ad->Prop}{v:V}{d:D}{g:G}(r:Rep K H' B v d)(h:∀a,B a->BG F H g a):Rep K H' (BG F H (gJ d g)) v d:=by
 unfold gJ;by_cases e:imm d=true
 ·rw[if_pos e];exact Rep.immB d e r
 ·rw[if_neg e];exact r.weak h
end
def rOp (K:W.Frag)(m:D->D->Res D):R2:=fun x y H Q=>∃Bx By dx dy d,Rep K H Bx x dx/\Rep K H By y dy/\m dx dy=.ok d/\∀w H',Same H H'->Rep K H' (fun a=>nw H a\/Bx a\/By a) w d->Q w H'
def OpD (X:Cx)(f:Value->Value->Sem Value)(m:D->D->Res D):Prop:=OpR X f (rOp X.K m)
def rOpN (K:W.Frag)(m:D->D->Res D):R2:=fun x y H Q=>∃Bx By dx dy d,Rep K H Bx x dx/\Rep K H By y dy/\m dx dy=.ok d/\∀w H',Same H H'->Rep K H' (fun a=>nw H a\/Bx a\/By a) w d->(∀ds,d=.list ds->imms ds=true->Rep K H' (nw H) w d)->Q w H'
def OpN (X:Cx)(f:Value->Value->Sem Value)(m:D->D->Res D):Prop:=OpR X f (rOpN X.K m)
theorem _root_.L2.OpR.imp {X:Cx}{f:Value->Value->Sem Value}{r r':R2}(h:OpR X f r)(i:∀x y H Q,r' x y H Q->r x y H Q):OpR X f r':=fun pins s σ H x y v u Q I rx ry q=>h pins s σ H x y v u Q I rx ry (i x y H Q q)
def z8l (K:W.Frag)(m:List D->Res D):List V->Hp->VK->Prop:=fun xs H Q=>∃B ds d,Reps K H B xs ds/\m ds=.ok d/\∀w H',Same H H'->Rep K H' (fun a=>nw H a\/B a) w d->Q w H'
theorem _root_.L2.CallR.imp {X:Cx}{f:Value}{r r':List V->Hp->VK->Prop}(h:CallR X f r)(i:∀x H Q,r' x H Q->r x H Q):CallR X f r':=fun pins s σ H x v Q I rx q=>h pins s σ H x v Q I rx (i x H Q q)
theorem z2c {x y:Str}(hx:PyData.strOk x=true)(hy:PyData.strOk y=true):PyData.strOk (x++y)=true:=by
 unfold PyData.strOk at *
 show(x.cps++y.cps).all _=true;rw[Array.all_append,hx,hy];rfl
theorem strOk_iff {x:Str}:PyData.strOk x=true↔∀c∈x.cps.toList,c<0x110000:=by unfold PyData.strOk;rw[<-Array.all_toList];rw[ax];exact⟨fun h c hc=>by simpa using h c hc,fun h c hc=>by simpa using h c hc⟩
theorem z7k {c:Nat}{x:Str}(hx:PyData.strOk x=true)(hc:c∈x.cps.toList):PyData.strOk ⟨#[c]⟩=true:=
 strOk_iff.mpr fun d hd=>by
  have e:d=c:=by simpa using hd
  rw[e];exact strOk_iff.mp hx c hc
theorem z0p {n:Nat}(h:n<=LIM):n<=bf:=ck h (by rw[cq];unfold LIM;decide)
theorem _root_.L2.SqT.rel {K:W.Frag}{H H':Hp}{a:Addr}{xs:List V}(s:Same H H')(h:SqT K H a xs):SqT K H' a xs:=h.keep (B:=fun _=>True) fun a o e _=>s a o e
section
variable {X:Cx}
def zva (K:W.Frag):R2:=fun x y H Q=>∃l b xs zs,x=.ref l/\y=.ref b/\SqL K H l xs/\SqL K H b zs/\xs.length+zs.length<=bf/\∀p,H p=none->Q (.ref p) (upd H p (.lst (xs++zs)))
theorem zls:OpR X (ge .Add) (zva X.K):=by
 intro pins s σ H x y v u Q I rx ry h;obtain⟨l,b,xs,zs,rfl,rfl,hH,hB,hz,q⟩:=h;cases rx;cases ry;obtain⟨its,r1,p1,_⟩:=I.list hH;obtain⟨its2,r2,p2,_⟩:=I.list hB;obtain⟨⟨cls,dd,data,sl⟩,n,ho,hc,_,hd⟩:=p1;obtain⟨⟨cls2,dd2,data2,sl2⟩,n2,ho2,hc2,_,hd2⟩:=p2;simp only at hc hd hc2 hd2;subst hc hd hc2 hd2;have hsz:its.toArray.size+its2.toArray.size<=bf:=by rw[aq,aq,<-r1.length,<-r2.length];exact hz
 refine m9 ⟨_,ho,rfl⟩ ⟨_,ho2,rfl⟩ noFill_list_add seq_list_add PySem.F.slot_list_add PySem.F.entry_list_add (PySem.F.args_list_add_2 _ _) (list_addW l b its.toArray its2.toArray n n2 dd dd2 sl sl2 hsz) ⟨ho,ho2,?_⟩;have ea:its.toArray++its2.toArray=(its++its2).toArray:=by simp
 rw[ea];exact⟨.ref _,_,I.lnew (t':=s.toks) (r1.append r2) (by rw[az];exact hz),rfl,q _ I.fresh⟩
def zn3 (K:W.Frag):R2:=fun x y H Q=>∃a b ys,x=.ref a/\y=.ref b/\SqT K H a []/\SqT K H b ys/\Q (.ref b) H
theorem zge:OpR X (ge .Add) (zn3 X.K):=by intro pins s σ H x y v u Q I rx ry h;obtain⟨l,b,zs,rfl,rfl,hH,hB,q⟩:=h;cases rx;cases ry;obtain⟨its,r1,p1,_⟩:=I.tuple hH;obtain⟨its2,r2,p2,_⟩:=I.tuple hB;cases r1;obtain⟨⟨cls,dd,data,sl⟩,ho,hc,n,hd⟩:=p1;obtain⟨⟨cls2,dd2,data2,sl2⟩,ho2,hc2,n2,hd2⟩:=p2;simp only at hc hd hc2 hd2;subst hc hd hc2 hd2;refine m9 ⟨_,ho,rfl⟩ ⟨_,ho2,rfl⟩ mr qb PySem.F.slot_tuple_add PySem.F.entry_tuple_add (PySem.F.args_tuple_add_2 _ _) (tuple_addW0 l b _ its2.toArray n n2 dd dd2 sl sl2 (by simp)) ⟨ho,ho2,?_⟩;exact⟨.ref b,H,I,rfl,q⟩
variable {K:W.Frag}{H:Hp}{B:Ad->Prop}{v:V}
theorem z1u {ds:List D}(r:Rep K H B v (.list ds)):∃a vs,v=.ref a/\SqL K H a vs/\Reps K H B vs ds:=by
 obtain⟨a,vs,e,h,q⟩:=r;refine⟨a,vs,e,?_,q⟩;rcases h with⟨h,_⟩|⟨h|h,_⟩
 ·exact .inl (.inl h)
 ·exact .inl (.inr h)
 ·exact .inr h
theorem z1l {p:Addr}{vs:List V}{ds:List D}{B':Ad->Prop}(hp:H p=none)(r:Reps K H B vs ds)(hB:∀a,B a->B' a)(hb:B' (some p)):Rep K (upd H p (.lst vs)) B' (.ref p) (.list ds):=⟨p,vs,rfl,.inl ⟨z08,hb⟩,r.same (Same.upd hp) hB⟩
theorem z2h {p:Addr}{vs:List V}{ds:List D}{B':Ad->Prop}(hp:H p=none)(r:Reps K H B vs ds)(hB:∀a,B a->B' a):Rep K (upd H p (.tup vs)) B' (.ref p) (.tuple ds):=⟨p,vs,rfl,.inl (.inl z08),r.same (Same.upd hp) hB⟩
theorem z1b {α:Type}{a:α}(h:(Res.no:Res α)=.ok a):False:=by cases h
theorem zug:OpN X (ge .Add) (binD .Add):=by
 refine OpR.imp ((zrq.or zls).or zge) fun x y H Q h=>?_;obtain⟨Bx,By,dx,dy,d,rx,ry,e,q⟩:=h;cases dx<;>try (exact(z1b e).elim)
 all_goals cases dy<;>try (exact(z1b e).elim)
 case int.int i j=>cases e;have e1:x=.int i:=rx;have e2:y=.int j:=ry;subst e1 e2;exact .inl (.inl (zoy (q _ H (Same.refl H) rfl fun ds z=>by cases z)))
 case str.str i j=>
  have e1:x=.str i:=rx.1;have e2:y=.str j:=ry.1;subst e1 e2;have e:(if i.length+j.length<=LIM then Res.ok (PyData.str (i++j))else Res.no)=Res.ok d:=e;split at e
  ·rename_i hl;cases e;exact .inl (.inl (zqe (z0p hl) (q _ H (Same.refl H) ⟨rfl,z2c rx.2 ry.2⟩ fun ds z=>by cases z)))
  ·cases e
 case list.list xs ys=>
  have e:(if xs.length+ys.length<=LIM then Res.ok (PyData.list (xs++ys))else Res.no)=Res.ok d:=e;split at e
  ·rename_i hl;cases e;obtain⟨a,vs,rfl,h1,q1⟩:=z1u rx;obtain⟨b,ws,rfl,h2,q2⟩:=z1u ry;refine .inl (.inr ⟨a,b,vs,ws,rfl,rfl,h1,h2,z0p (by rw[q1.length,q2.length];exact hl),fun p hp=>q _ _ (Same.upd hp) ?_ ?_⟩)
   ·exact z1l hp (Reps.append (q1.weak (B':=fun a=>nw H a\/Bx a\/By a) fun _ z=>.inr (.inl z)) (q2.weak fun _ z=>.inr (.inr z))) (fun _ z=>z) (.inl hp)
   ·intro ds z hi;cases z;exact z1l hp (Reps.immB (B':=nw H) _ hi (Reps.append (q1.weak (B':=fun a=>nw H a\/Bx a\/By a) fun _ z=>.inr (.inl z)) (q2.weak fun _ z=>.inr (.inr z)))) (fun _ z=>z) hp
  ·cases e
 case tuple.tuple xs ys=>
  have e:(if xs.length+ys.length<=LIM then Res.ok (PyData.tuple (xs++ys))else Res.no)=Res.ok d:=e;split at e
  ·rename_i hl;cases e;obtain⟨a,vs,rfl,h1,q1⟩:=rx;obtain⟨b,ws,rfl,h2,q2⟩:=ry;cases vs with
   |nil=>
    have:xs=[]:=by have:=q1.length;exact gb.mp this.symm
    subst this;exact .inr ⟨a,b,ws,rfl,rfl,h1,h2,q _ H (Same.refl H) ⟨b,ws,rfl,h2,q2.weak fun _ z=>.inr (.inr z)⟩ fun ds z=>by cases z⟩
   |cons v0 vr=>
    refine .inl (.inl (.inr (.inr (.inr ⟨a,b,v0::vr,ws,rfl,rfl,h1,h2,by simp,z0p (by rw[q1.length,q2.length];exact hl),fun z=>?_,fun z p hp=>q _ _ (Same.upd hp) ?_ fun ds z=>by cases z⟩))))
    ·subst z;have:ys=[]:=by have:=q2.length;exact gb.mp this.symm
     subst this;rw[dn]at q;exact q _ H (Same.refl H) ⟨a,_,rfl,h1,q1.weak fun _ z=>.inr (.inl z)⟩ fun ds z=>by cases z
    ·exact z2h hp (Reps.append (q1.weak (B':=fun a=>nw H a\/Bx a\/By a) fun _ z=>.inr (.inl z)) (q2.weak fun _ z=>.inr (.inr z))) (fun _ z=>z)
  ·cases e
theorem zeq {f:Value->Value->Sem Value}{m:D->D->Res D}{Cc:Int->Int->Prop}{g:Int->Int->V}{gd:Int->Int->D}(h:OpR X f (rI Cc g))(hg:∀i j H B,Rep X.K H B (g i j) (gd i j))(hm:∀dx dy d,m dx dy=.ok d->∃i j,dx=.int i/\dy=.int j/\Cc i j/\d=gd i j):OpN X f m:=by refine OpR.imp h fun x y H Q h=>?_;obtain⟨Bx,By,dx,dy,d,rx,ry,e,q⟩:=h;obtain⟨i,j,rfl,rfl,c,rfl⟩:=hm dx dy d e;exact⟨i,j,rx,ry,c,q _ H (Same.refl H) (hg i j _ _) fun _ _ _=>hg i j _ _⟩
theorem zsq {f:Value->Value->Sem Value}{g:Int->Int->V}(h:OpR X f (rI0 g)):OpR X f (rI (fun _ _=>True) g):=OpR.imp h fun x y H Q ⟨i,j,e1,e2,_,q⟩=>⟨i,j,e1,e2,q⟩
theorem zgf:OpR X (ge .FloorDiv) (rI (fun _ j=>0<j/\j<2 ^ 200) fun i j=>.int (i/j)):=opI fun i j _ _ _ _ _ hc q=>by
 refine floordiv_int (by omega) (by rw[Int.fdiv_eq_ediv_of_nonneg i (by omega)];exact q) (.inl (PyProof.noPylong_of_log2 ?_));have h1:j.natAbs≠0:=by omega
 have h2:j.natAbs<2 ^ 200:=by omega
 have h3:=(Nat.log2_lt h1).mpr h2;omega
def zm3:R2:=fun x y H Q=>∃a n,x=.str a/\y=.int n/\(0<=n/\n<=LIM/\a.length*n.toNat<=LIM)/\Q (.str ⟨(z2p n.toNat a.cps.toList).toArray⟩) H
theorem zdn {α:Type}(n:Nat):z2p n ([]:List α)=[]:=by
 unfold z2p
 induction n with
 |zero=>rfl
 |succ n ih=>rw[ja,fm,ih];rfl
theorem z7b (a:Array Nat):∀(k:Nat) (acc:List Nat),(bw k a).foldl (·++·) acc.toArray=(acc++z2p k a.toList).toArray
 |0,acc=>by simp[z2p]
 |k+1,acc=>by
  rw[ja,k9];have e:acc.toArray++a=(acc++a.toList).toArray:=by simp
  rw[e,z7b a k];show(acc++a.toList++z2p k a.toList).toArray=_;rw[g8];rfl
theorem zfu {a:Str}{n:Int}(h:0<=n):Txt.mul a n=⟨(z2p n.toNat a.cps.toList).toArray⟩:=by
 unfold Txt.mul;by_cases h1:n<1
 ·obtain rfl:n=0:=by omega
  rw[if_pos h1];rfl
 ·rw[if_neg h1];split
  ·rename_i h2;rcases d8.mp h2 with h2|h2
   ·obtain rfl:n=1:=uo h2;show a=⟨(a.cps.toList++[]).toArray⟩;rw[dn]
   ·have h3:a.cps.size=0:=uo h2;have h4:a.cps.toList=[]:=gb.mp (by rw[bp];exact h3);rw[h4,zdn];have h5:a.cps=#[]:=by rw[<-g9 (xs:=a.cps),h4]
    cases a;cases h5;rfl
  ·have :=z7b a.cps n.toNat [];rw[jm]at this;exact congrArg Str.mk this
theorem zfd {a:Str}(h:PyData.strOk a=true)(n:Nat):PyData.strOk ⟨(z2p n a.cps.toList).toArray⟩=true:=by unfold PyData.strOk at h ⊢;rw[<-Array.all_toList,ax]at h ⊢;intro c hc;have hc:c∈(bw n a.cps.toList).flatten:=hc;obtain⟨l,hl,hcl⟩:=kq.mp hc;rw[(List.mem_replicate.mp hl).2]at hcl;exact h c hcl
theorem zbo:OpR X (ge .Mult) zm3:=by intro pins s σ H x y v u Q I rx ry h;obtain⟨a,n,rfl,rfl,⟨h0,hn,h1⟩,q⟩:=h;obtain⟨t,rfl⟩:=rx;obtain⟨t',rfl⟩:=ry;unfold LIM at hn h1;refine SB.mul (PyProof.Rows.mulOk_of a.length n.toNat (ah _) (by omega) (by omega) (by omega) (by omega)) fun t2 k=>?_;rw[zfu h0];exact⟨.str _,H,I.tok _,⟨_,rfl⟩,q⟩
theorem zu3 (op:jc)(h:zjv op=true):OpN X (ge op) (binD op):=by
 cases op<;>try (cases h;done)
 case Add=>exact zug
 case Sub=>
  refine zeq (zsq zqx) (gd:=fun i j=>.int (i-j)) (fun _ _ _ _=>rfl) fun dx dy d e=>?_;cases dx<;>try (exact(z1b e).elim)
  cases dy<;>try (exact(z1b e).elim)
  cases e;exact⟨_,_,rfl,rfl,trivial,rfl⟩
 case Mult=>
  refine OpR.imp (zqm.or zbo) fun x y H Q h=>?_;obtain⟨Bx,By,dx,dy,d,rx,ry,e,q⟩:=h;cases dx<;>try (exact(z1b e).elim)
  all_goals cases dy<;>try (exact(z1b e).elim)
  case int.int i j=>
   have e:(if(-(2 ^ 64)<i/\i<2 ^ 64)\/(-(2 ^ 64)<j/\j<2 ^ 64)then Res.ok (PyData.int (i*j))else Res.no)=Res.ok d:=e;split at e
   ·rename_i hc;cases e;exact .inl ⟨i,j,rx,ry,hc,q _ H (Same.refl H) rfl fun ds z=>by cases z⟩
   ·cases e
  case str.int a n=>
   have e:(if 0<=n/\n<=LIM/\a.length*n.toNat<=LIM then Res.ok (PyData.str ⟨(z2p n.toNat a.cps.toList).toArray⟩)else Res.no)=Res.ok d:=e;split at e
   ·rename_i hc;cases e;obtain⟨rx1,rx2⟩:=rx;exact .inr ⟨a,n,rx1,ry,hc,q _ H (Same.refl H) ⟨rfl,zfd rx2 _⟩ fun ds z=>by cases z⟩
   ·cases e
 case FloorDiv=>
  refine zeq zgf (gd:=fun i j=>.int (i/j)) (fun _ _ _ _=>rfl) fun dx dy d e=>?_;cases dx<;>try (exact(z1b e).elim)
  cases dy<;>try (exact(z1b e).elim)
  rename_i i j;have e:(if 0<j/\j<2 ^ 200 then Res.ok (PyData.int (i/j))else Res.no)=Res.ok d:=e;split at e
  ·rename_i hc;cases e;exact⟨_,_,rfl,rfl,hc,rfl⟩
  ·cases e
 case Mod=>
  refine zeq zpz (gd:=fun i j=>.int (i%j)) (fun _ _ _ _=>rfl) fun dx dy d e=>?_;cases dx<;>try (exact(z1b e).elim)
  cases dy<;>try (exact(z1b e).elim)
  rename_i i j;have e:(if 0<j then Res.ok (PyData.int (i%j))else Res.no)=Res.ok d:=e;split at e
  ·rename_i hc;cases e;exact⟨_,_,rfl,rfl,hc,rfl⟩
  ·cases e
 case Pow=>
  refine zeq zmq (gd:=fun i j=>.int (i ^ j.toNat)) (fun _ _ _ _=>rfl) fun dx dy d e=>?_;cases dx<;>try (exact(z1b e).elim)
  cases dy<;>try (exact(z1b e).elim)
  rename_i i j;have e:(if 0<=j/\j<=1000/\i.natAbs<2 ^ 64 then Res.ok (PyData.int (i ^ j.toNat))else Res.no)=Res.ok d:=e;split at e
  ·rename_i hc;cases e;exact⟨_,_,rfl,rfl,⟨hc.1,by omega,hc.2.2⟩,rfl⟩
  ·cases e
end
section
variable {X:Cx}{pins:List (Addr×Obj)}{σ:L2.St}{H:Hp}{s:aa}{B:Ad->Prop}
mutual
theorem Rep.reads (I:Inv X pins σ H s):∀{v:V} {u:Value} (d:ac) (n:Nat),shal n d=true->Rep X.K H B v d->RelV v u->(∃as,Reads s.heap u d as)/\d.canLay0=true/\d.depth<=n
 |v,u,.none,n,_,r,q=>by have e:v=.non:=r;subst e;cases q;exact⟨⟨[],.none⟩,by simp only[PyData.canLay0],ce _⟩
 |v,u,.bool b,n,_,r,q=>by have e:v=.bl b:=r;subst e;cases q;exact⟨⟨[],.bool b⟩,by simp only[PyData.canLay0],ce _⟩
 |v,u,.int b,n,_,r,q=>by have e:v=.int b:=r;subst e;obtain⟨t,rfl⟩:=q;exact⟨⟨[],.int b t⟩,by simp only[PyData.canLay0],ce _⟩
 |v,u,.str b,n,_,r,q=>by obtain⟨e,ok⟩:v=.str b/\_:=r;subst e;obtain⟨t,rfl⟩:=q;exact⟨⟨[],.str b t⟩,by simp only[PyData.canLay0];exact ok,ce _⟩
 |v,u,.tuple ds,0,h,r,q=>by cases h
 |v,u,.list ds,0,h,r,q=>by cases h
 |v,u,.tuple ds,n+1,h,r,q=>by obtain⟨a,vs,e,h1,r1⟩:=r;subst e;cases q;obtain⟨its,rv,⟨o,ho,hc,k,hd⟩,_⟩:=I.tuple h1;obtain⟨⟨as,ra⟩,c,dp⟩:=Reps.reads I ds n (h) r1 rv;refine⟨⟨as,.tuple ho hc hd (by simpa using ra)⟩,by simp only[PyData.canLay0];exact c,?_⟩;simp only[PyData.depth];omega
 |v,u,.list ds,n+1,h,r,q=>by obtain⟨a,vs,e,h1,r1⟩:=z1u r;subst e;cases q;obtain⟨its,rv,⟨o,k,ho,hc,_,hd⟩,_⟩:=I.list h1;obtain⟨⟨as,ra⟩,c,dp⟩:=Reps.reads I ds n (h) r1 rv;refine⟨⟨a::as,.list ho hc hd (by simpa using ra)⟩,by simp only[PyData.canLay0];exact c,?_⟩;simp only[PyData.depth];omega
 |v,u,.dict es,n,h,r,q=>by cases n<;>cases h
theorem Reps.reads (I:Inv X pins σ H s):∀{vs:List V} {us:List Value} (ds:List ac) (n:Nat),z1y n ds=true->Reps X.K H B vs ds->Vals vs us->(∃as,mw s.heap us ds as)/\PyData.canLayAll0 ds=true/\PyData.depthAll ds<=n
 |vs,us,[],n,_,r,q=>by have e:vs=[]:=r;subst e;cases q;exact⟨⟨[],.nil⟩,by simp only[PyData.canLayAll0],ce _⟩
 |vs,us,d::ds,n,h,r,q=>by
  obtain⟨v,t,e,h1,r1⟩:=r;subst e;rw[z1y,ak]at h;cases q with
  |cons q1 q2=>obtain⟨⟨as,ra⟩,c,dp⟩:=Rep.reads I d n h.1 h1 q1;obtain⟨⟨bs,rb⟩,c2,dp2⟩:=Reps.reads I ds n h.2 r1 q2;refine⟨⟨as++bs,.cons ra rb⟩,by simp only[PyData.canLayAll0,c,c2,qd],?_⟩;simp only[PyData.depthAll];exact Nat.max_le.mpr ⟨dp,dp2⟩
end
end
section
variable {X:Cx}
def mB (m:D->D->Res Bool):D->D->Res D:=fun x y=>m x y>>=fun b=>.ok (.bool b)
theorem zb2 {m:D->D->Res Bool}{x y d:D}(h:mB m x y=.ok d):∃b,m x y=.ok b/\d=.bool b:=by obtain⟨b,h1,h2⟩:=Res.bind_ok h;exact⟨b,h1,(Res.ok.inj h2).symm⟩
theorem c_eq (hu:X.A.units+64<cLine):OpD X (b9 .Eq) (mB (cmpD .Eq)):=by
 intro pins s σ H x y v u Q I rx ry h;obtain⟨Bx,By,dx,dy,d,r1,r2,e,q⟩:=h;obtain⟨b,e',ed⟩:=zb2 e;subst ed;clear e;have e:=e';clear e';have e:(if(shal 40 dx&&shal 40 dy)=true then Res.ok (eqD dx dy)else Res.no)=Res.ok b:=e;split at e
 ·rename_i hs;cases e;rw[ak]at hs;obtain⟨⟨as,ra⟩,c1,p1⟩:=Rep.reads I dx 40 hs.1 r1 rx;obtain⟨⟨bs,rb⟩,c2,p2⟩:=Rep.reads I dy 40 hs.2 r2 ry;exact SeqAt.compareEq_reads ra rb c1 c2 (by omega) ⟨.bl _,H,I,rfl,q _ H (Same.refl H) rfl⟩
 ·cases e
theorem c_ne (hu:X.A.units+64<cLine):OpD X (b9 .NotEq) (mB (cmpD .NotEq)):=by
 intro pins s σ H x y v u Q I rx ry h;obtain⟨Bx,By,dx,dy,d,r1,r2,e,q⟩:=h;obtain⟨b,e',ed⟩:=zb2 e;subst ed;clear e;have e:=e';clear e';have e:(if(shal 40 dx&&shal 40 dy)=true then Res.ok (!eqD dx dy)else Res.no)=Res.ok b:=e;split at e
 ·rename_i hs;cases e;rw[ak]at hs;obtain⟨⟨as,ra⟩,c1,p1⟩:=Rep.reads I dx 40 hs.1 r1 rx;obtain⟨⟨bs,rb⟩,c2,p2⟩:=Rep.reads I dy 40 hs.2 r2 ry;exact SeqAt.compareNe_reads ra rb c1 c2 (by omega) ⟨.bl _,H,I,rfl,q _ H (Same.refl H) rfl⟩
 ·cases e
theorem zke {op:CmpOp}{r:R2}(h:OpR X (b9 op) r)(hI:∀i j b H Q,cmpD op (.int i) (.int j)=.ok b->Q (.bl b) H->r (.int i) (.int j) H Q)(hS:∀i j b H Q,cmpD op (.str i) (.str j)=.ok b->Q (.bl b) H->r (.str i) (.str j) H Q)
  (hm:∀dx dy b,cmpD op dx dy=.ok b->(∃i j,dx=.int i/\dy=.int j)\/∃i j,dx=.str i/\dy=.str j):OpD X (b9 op) (mB (cmpD op)):=by
 refine OpR.imp h fun x y H Q h=>?_;obtain⟨Bx,By,dx,dy,d,rx,ry,e,q⟩:=h;obtain⟨b,e',ed⟩:=zb2 e;subst ed;clear e;have e:=e';clear e';rcases hm dx dy b e with⟨i,j,rfl,rfl⟩|⟨i,j,rfl,rfl⟩
 ·have e1:x=.int i:=rx;have e2:y=.int j:=ry;subst e1 e2;exact hI i j b H Q e (q _ H (Same.refl H) rfl)
 ·have e1:x=.str i:=rx.1;have e2:y=.str j:=ry.1;subst e1 e2;exact hS i j b H Q e (q _ H (Same.refl H) rfl)
theorem c_lt:OpD X (b9 .Lt) (mB (cmpD .Lt)):=zke opLt (fun i j b H Q e q=>by cases e;exact zuz q) (fun i j b H Q e q=>by cases e;exact zs3 q) fun dx dy b e=>by cases dx<;>first|exact(z1b e).elim|(cases dy<;>first|exact .inl ⟨_,_,rfl,rfl⟩|exact .inr ⟨_,_,rfl,rfl⟩|exact(z1b e).elim)
theorem c_le:OpD X (b9 .LtE) (mB (cmpD .LtE)):=zke opLe (fun i j b H Q e q=>by cases e;exact ztf q) (fun i j b H Q e q=>by cases e;exact zt1 q) fun dx dy b e=>by cases dx<;>first|exact(z1b e).elim|(cases dy<;>first|exact .inl ⟨_,_,rfl,rfl⟩|exact .inr ⟨_,_,rfl,rfl⟩|exact(z1b e).elim)
theorem c_gt:OpD X (b9 .Gt) (mB (cmpD .Gt)):=zke opGt (fun i j b H Q e q=>by cases e;exact zuf q) (fun i j b H Q e q=>by cases e;exact zt7 q) fun dx dy b e=>by cases dx<;>first|exact(z1b e).elim|(cases dy<;>first|exact .inl ⟨_,_,rfl,rfl⟩|exact .inr ⟨_,_,rfl,rfl⟩|exact(z1b e).elim)
theorem REs.val {K:W.Frag}{H:Hp}{B:Ad->Prop}(k:Key):∀{kvs:List (Key×V)} {es:Ents},REs K H B kvs es->match z28 es (kD k)with|some d=>∃v,valV kvs k=some v/\Rep K H B v d|none=>valV kvs k=none
 |kvs,[],r=>by have e:kvs=[]:=r;subst e;exact rfl
 |kvs,(kd,d)::es,r=>by
  obtain⟨k',v,t,e,e2,ok,h,q⟩:=r;subst e e2;have ih:=REs.val k q;by_cases z:k'=k
  ·subst z
   have e1:z28 ((kD k',d)::es) (kD k')=some d:=by
    have:eqK (kD k') (kD k')=true:=by cases k'<;>simp[kD,eqK]
    unfold z28;rw[List.find?_cons_of_pos (by exact this)];rfl
   rw[e1];exact⟨v,z45 (p:=(k',v)) rfl,h⟩
  ·have e0:eqK (kD k') (kD k)=false:=by
    rw[re];intro w;apply z;cases k'<;>cases k<;>simp[kD,eqK]at w<;>rw[w]
   have e1:z28 ((kD k',d)::es) (kD k)=z28 es (kD k):=by unfold z28;rw[List.find?_cons_of_neg (by rw[e0];exact bj)]
   rw[e1,z46 (p:=(k',v)) z];exact ih
theorem z65 {K:W.Frag}{H:Hp}{B:Ad->Prop}{v:V}{d:D}(h:isK d=true)(r:Rep K H B v d):∃k,d=kD k/\v=kV k/\keyOk k:=by
 cases d<;>try (cases h;done)
 case int i=>exact⟨.inl i,rfl,r,True.intro⟩
 case str x=>exact⟨.inr x,rfl,r.1,r.2⟩
theorem zi3 (hu:X.A.units+64<cLine){pins:List (Addr×Obj)}{s:aa}{σ:L2.St}{H:Hp}{x y:V}{v u:Value}{Q:VK}(ng:Bool)(I:Inv X pins σ H s)(rx:RelV x v)(ry:RelV y u)
  {Bx By:Ad->Prop} {dx dy:D} {b:Bool} (r1:Rep X.K H Bx x dx) (r2:Rep X.K H By y dy) (e:inD dx dy=.ok b) (q:Q (.bl (if ng then !b else b)) H):
  wpAny (model X.prog X.w) X.A (b9 (if ng then .NotIn else .In) v u) (EP X pins σ Q) X.xe s:=by
 cases dy<;>try (cases e;done)
 case list xs=>
  change(if(shal 40 dx&&z1y 40 xs)=true then Res.ok (xs.any fun y=>eqD y dx)else .no)=_ at e;split at e
  ·rename_i hs;cases e;rw[ak]at hs;obtain⟨⟨as,ra⟩,c1,p1⟩:=Rep.reads I dx 40 hs.1 r1 rx;obtain⟨⟨bs,rb⟩,c2,p2⟩:=Rep.reads I (.list xs) 41 hs.2 r2 ry;have c2':PyData.canLayAll0 xs=true:=by simpa only[PyData.canLay0]using c2
   cases ng
   ·exact SeqAt.in_list_reads rb ra c2' c1 (by omega) ⟨.bl _,H,I,rfl,q⟩
   ·exact SeqAt.notIn_list_reads rb ra c2' c1 (by omega) ⟨.bl _,H,I,rfl,q⟩
  ·cases e
 case tuple xs=>
  change(if(shal 40 dx&&z1y 40 xs)=true then Res.ok (xs.any fun y=>eqD y dx)else .no)=_ at e;split at e
  ·rename_i hs;cases e;rw[ak]at hs;obtain⟨⟨as,ra⟩,c1,p1⟩:=Rep.reads I dx 40 hs.1 r1 rx;obtain⟨⟨bs,rb⟩,c2,p2⟩:=Rep.reads I (.tuple xs) 41 hs.2 r2 ry;have c2':PyData.canLayAll0 xs=true:=by simpa only[PyData.canLay0]using c2
   cases ng
   ·exact SeqAt.in_tuple_reads rb ra c2' c1 (by omega) ⟨.bl _,H,I,rfl,q⟩
   ·exact SeqAt.notIn_tuple_reads rb ra c2' c1 (by omega) ⟨.bl _,H,I,rfl,q⟩
  ·cases e
 case dict es=>
  change(if isK dx=true then Res.ok (z28 es dx).isSome else .no)=_ at e;split at e
  ·rename_i hk;cases e;obtain⟨k,rfl,rfl,_⟩:=z65 hk r1;obtain⟨a,kvs,rfl,h1,_,h2⟩:=r2;cases ry;have hv:=h2.val k;have g:DGet H a (kV k) (valV kvs k):=DGet.k h1
   have hb:(valV kvs k).isSome=(z28 es (kD k)).isSome:=by
    cases e:z28 es (kD k)with
    |none=>rw[e]at hv;rw[show valV kvs k=none from hv];rfl
    |some d=>rw[e]at hv;obtain⟨v,hv,_⟩:=hv;rw[hv];rfl
   cases ng
   ·exact d_in (by omega) I g rx fun s' I'=>⟨.bl _,H,I',rfl,by rw[hb];exact q⟩
   ·exact zjw (by omega) I g rx fun s' I'=>⟨.bl _,H,I',rfl,by rw[hb];exact q⟩
  ·cases e
 case str z=>
  cases dx<;>try (cases e;done)
  rename_i w;have e1:x=.str w:=r1.1;have e2:y=.str z:=r2.1;subst e1 e2;change(match w.cps.toList with| [c]=>Res.ok (decide (c∈z.cps.toList))|_=>.no)=_ at e;split at e
  ·rename_i c hw;cases e
   have ew:w=⟨#[c]⟩:=by
    obtain⟨cps⟩:=w;have:cps=#[c]:=by rw[<-g9 (xs:=cps)];rw[show cps.toList=[c]from hw]
    rw[this]
   subst ew;cases ng
   ·exact opIn pins s σ H _ _ v u Q I rx ry (zv6 q)
   ·exact zm7 pins s σ H _ _ v u Q I rx ry (zq6 q)
  ·cases e
theorem c_in (hu:X.A.units+64<cLine):OpD X (b9 .In) (mB (cmpD .In)):=by intro pins s σ H x y v u Q I rx ry h;obtain⟨Bx,By,dx,dy,d,r1,r2,e,q⟩:=h;obtain⟨b,e',ed⟩:=zb2 e;subst ed;clear e;have e:=e';clear e';exact zi3 hu false I rx ry r1 r2 e (q _ H (Same.refl H) rfl)
theorem zlc (hu:X.A.units+64<cLine):OpD X (b9 .NotIn) (mB (cmpD .NotIn)):=by intro pins s σ H x y v u Q I rx ry h;obtain⟨Bx,By,dx,dy,d,r1,r2,e,q⟩:=h;obtain⟨b,e',ed⟩:=zb2 e;subst ed;clear e;have e:=e';clear e';have e:(inD dx dy>>=fun b=>Res.ok (!b))=Res.ok b:=e;obtain⟨b',e1,e2⟩:=Res.bind_ok e;cases e2;exact zi3 hu true I rx ry r1 r2 e1 (q _ H (Same.refl H) rfl)
theorem zas (hu:X.A.units+64<cLine)(op:CmpOp)(h:z3m op=true):OpD X (b9 op) (mB (cmpD op)):=by
 cases op<;>try (cases h;done)
 ·exact c_eq hu
 ·exact c_ne hu
 ·exact c_lt
 ·exact c_le
 ·exact c_gt
 ·exact c_in hu
 ·exact zlc hu
end
section
variable {X:Cx}{a b c e:Expr}{es:List Expr}{fa fb fc:Rho->Res GD}{pos:Pos}
theorem z5t {e:Expr}{v:V}{d:D}(h:PE X e (tC v))(r:∀H B,Rep X.K H B v d):PE X e (tD X.K fun _=>.ok (.fr,d)):=PE.imp h fun σ H Q ⟨ρ,F,x,so,e,q⟩=>by cases e;exact q v H (Same.refl H) (r H _)
theorem zu1 {i:Nat}{x:Str}(hN:X.N[i]?=some x)(hv:Vis X.env.scope x)(hd:(x==("__debug__":Str))=false)(hcd:(x==("__classdict__":Str))=false):PE X (.Name x pos) (tD X.K fun ρ=>rdS ρ[i]?):=PE.imp (z3t hN hv hd hcd) fun σ H Q zz=>by obtain⟨ρ,F,x,so,e,q⟩:=zz;obtain⟨v,h1,h2⟩:=so.rd e;exact⟨v,h1,q v H (Same.refl H) h2⟩
theorem zpr {x:Str}{d:D}{g:Addr}(hg:Gl X x)(hm:X.mg x=some (.ref g))(hd:(x==("__debug__":Str))=false)(hi:imm d=true)(r:∀H (B:Ad->Prop),B none->Rep X.K H B (.ref g) d):PE X (.Name x pos) (tD X.K fun _=>.ok (.fr,d)):=PE.imp (zma (v:=.ref g) hg hm rfl hd) fun σ H Q ⟨ρ,F,x,so,e,q⟩=>by cases e;exact q _ H (Same.refl H) (Rep.immB d hi (r H (fun _=>True) True.intro))
theorem zhj {K:W.Frag}{F:Fm}{H H':Hp}{B:Ad->Prop}{v:V}{d:D}{g:G}(r:Rep K H' B v d)(h:∀a,B a->BG F H g a)(n:∀ds,d=.list ds->imms ds=true->Rep K H' (nw H) v d):Rep K H' (BG F H (gN d g)) v d:=by
 cases d with
 |list ds=>
  show Rep K H' (BG F H (if imms ds=true then .fr else g)) v _;split
  ·rename_i hi;exact n ds rfl hi
  ·exact r.weak h
 |_=>exact z3w r h
theorem ztb {op:jc}(ho:zjv op=true)(ha:PE X a (tD X.K fa))(hb:PE X b (tD X.K fb)):PE X (.BinOp a op b pos) (tD X.K fun ρ=>fa ρ>>=fun x=>fb ρ>>=fun y=>binD op x.2 y.2>>=fun d=>.ok (gN d (gAll [x,y]),d)):=
 PE.imp (zv7 (zu3 op ho) ha hb) fun σ H Q zz=>by
  obtain⟨ρ,F,z,so,e,q⟩:=zz;obtain⟨x,e1,e⟩:=Res.bind_ok e;obtain⟨y,e2,e⟩:=Res.bind_ok e;obtain⟨d,e3,e⟩:=Res.bind_ok e;cases e;refine⟨ρ,F,x,so,e1,fun v H1 s1 rv=>⟨ρ,F,y,so.same s1,e2,fun u H2 s2 ru=>⟨_,_,x.2,y.2,d,rv.same s2 fun _ z=>z,ru,e3,fun w H3 s3 rw' nn=>q w H3 ((s1.trans s2).trans s3) (zhj rw' (fun a h=>?_) fun ds z hi=>(nn ds z hi).weak fun _ z=>nw.back (s1.trans s2) z)⟩⟩⟩;rcases h with h|h|h
  ·exact z67 so.vis (s1.trans s2) h
  ·exact z7d so.vis (x:=x) (by simp) h
  ·exact z7d so.vis (x:=y) (by simp) (h.back s1)
theorem zth (ha:PE X a (tD X.K fa)):PE X (.UnaryOp .USub a pos) (tD X.K fun ρ=>fa ρ>>=fun x=>match x.2 with|.int i=>.ok (.fr,.int (-i))|_=>.no):=
 PE.imp (zt0 zql ha) fun σ H Q zz=>by
  obtain⟨ρ,F,z,so,e,q⟩:=zz;obtain⟨x,e1,e⟩:=Res.bind_ok e;refine⟨ρ,F,x,so,e1,fun v H1 s1 rv=>?_⟩;obtain⟨g,d⟩:=x;cases d<;>try (cases e;done)
  rename_i i;cases e;exact⟨i,rv,q _ H1 s1 rfl⟩
theorem zho {op:CmpOp}{σ:L2.St}{H:Hp}{Q:VK}(h:tD X.K (fun ρ=>fa ρ>>=fun x=>fb ρ>>=fun y=>cmpD op x.2 y.2>>=fun b=>.ok (.fr,.bool b)) σ H Q):tOp (rOp X.K (mB (cmpD op))) (tD X.K fa) (tD X.K fb) σ H Q:=by obtain⟨ρ,F,z,so,e,q⟩:=h;obtain⟨x,e1,e⟩:=Res.bind_ok e;obtain⟨y,e2,e⟩:=Res.bind_ok e;obtain⟨d,e3,e⟩:=Res.bind_ok e;cases e;exact⟨ρ,F,x,so,e1,fun v H1 s1 rv=>⟨ρ,F,y,so.same s1,e2,fun u H2 s2 ru=>⟨_,_,x.2,y.2,.bool d,rv.same s2 fun _ z=>z,ru,by show(cmpD op x.2 y.2>>=fun b=>Res.ok (PyData.bool b))=_;rw[e3];rfl,fun w H3 s3 rw'=>q w H3 ((s1.trans s2).trans s3) rw'⟩⟩⟩
theorem zrk {op:CmpOp}(hu:X.A.units+64<cLine)(ho:z3m op=true)(hm:fz op b=false)(ha:PE X a (tD X.K fa))(hb:PE X b (tD X.K fb)):
  PE X (.Compare a [op] [b] pos) (tD X.K fun ρ=>fa ρ>>=fun x=>fb ρ>>=fun y=>cmpD op x.2 y.2>>=fun b=>.ok (.fr,.bool b)):=
 PE.imp (zli (zas hu op ho) ha hb hm) fun σ H Q h=>zho h
theorem z6g {f:Rho->Res GD}{t:TE}(ht:∀σ H Q,tD X.K f σ H Q->t σ H Q)(hb:∀ρ x,f ρ=.ok x->∃c,x.2=.bool c)(σ:L2.St)(H:Hp)(Q:Bool->Hp->Prop)(h:tDT X.K (fun ρ=>f ρ>>=fun x=>z1i x.2) σ H Q):zm2 t σ H Q:=by obtain⟨ρ,F,c,so,e,q⟩:=h;obtain⟨x,e1,e⟩:=Res.bind_ok e;obtain⟨k,e2⟩:=hb ρ x e1;rw[e2]at e;cases e;refine ht σ H _ ⟨ρ,F,x,so,e1,fun v H' s r=>?_⟩;rw[e2]at r;exact⟨k,r,q H' s⟩
theorem zek {op:CmpOp}{ρ:Rho}{x:GD}(e:(fa ρ>>=fun x=>fb ρ>>=fun y=>cmpD op x.2 y.2>>=fun b=>Res.ok ((.fr,.bool b):GD))=.ok x):∃c,x.2=.bool c:=by obtain⟨x,e1,e⟩:=Res.bind_ok e;obtain⟨y,e2,e⟩:=Res.bind_ok e;obtain⟨d,e3,e⟩:=Res.bind_ok e;cases e;exact⟨d,rfl⟩
theorem zrf {op:CmpOp}(hu:X.A.units+64<cLine)(ho:z3m op=true)(hm:fz op b=false)(ha:PE X a (tD X.K fa))(hb:PE X b (tD X.K fb)):
  PT X (.Compare a [op] [b] pos) (tDT X.K fun ρ=>(fa ρ>>=fun x=>fb ρ>>=fun y=>cmpD op x.2 y.2>>=fun b=>Res.ok ((.fr,.bool b):GD))>>=fun x=>z1i x.2):=
 PT.imp (zjd (zas hu op ho) ha hb hm) (z6g (fun σ H Q h=>zho h) fun ρ x e=>zek e)
def z9x (op op':CmpOp)(fa fb fc:Rho->Res GD):Rho->Res GD:=fun ρ=>fa ρ>>=fun x=>fb ρ>>=fun y=>cmpD op x.2 y.2>>=fun k=>if k then fc ρ>>=fun z=>cmpD op' y.2 z.2>>=fun k'=>.ok (.fr,.bool k')else .ok (.fr,.bool false)
theorem za0 {op op':CmpOp}{σ:L2.St}{H:Hp}{Q:VK}(h:tD X.K (z9x op op' fa fb fc) σ H Q):z8y (rOp X.K (mB (cmpD op))) (rOp X.K (mB (cmpD op'))) (tD X.K fa) (tD X.K fb) (tD X.K fc) σ H Q:=by
 obtain⟨ρ,F,z,so,e,q⟩:=h;obtain⟨x,e1,e⟩:=Res.bind_ok e;obtain⟨y,e2,e⟩:=Res.bind_ok e;obtain⟨k,e3,e⟩:=Res.bind_ok e;refine⟨ρ,F,x,so,e1,fun v H1 s1 rv=>⟨ρ,F,y,so.same s1,e2,fun u H2 s2 ru=>⟨_,_,x.2,y.2,.bool k,rv.same s2 fun _ z=>z,ru,by show(cmpD op x.2 y.2>>=fun b=>Res.ok (PyData.bool b))=_;rw[e3];rfl,fun w H3 s3 rw'=>⟨k,rw',?_⟩⟩⟩⟩;cases k with
 |false=>cases e;exact iteF (q _ H3 ((s1.trans s2).trans s3) rfl)
 |true=>obtain⟨z',e4,e⟩:=Res.bind_ok e;obtain⟨k',e5,e⟩:=Res.bind_ok e;cases e;refine iteT ⟨ρ,F,z',so.same ((s1.trans s2).trans s3),e4,fun t H4 s4 rt=>⟨_,_,y.2,z'.2,.bool k',ru.same (s3.trans s4) fun _ z=>z,rt,by show(cmpD op' y.2 z'.2>>=fun b=>Res.ok (PyData.bool b))=_;rw[e5];rfl,fun w5 H5 s5 r5=>q _ H5 (((s1.trans s2).trans s3).trans (s4.trans s5)) r5⟩⟩
theorem zka {op op':CmpOp}(hu:X.A.units+64<cLine)(ho:z3m op=true)(ho':z3m op'=true)(hm:mq [op,op'] [b,c]=false)(ha:PE X a (tD X.K fa))(hb:PE X b (tD X.K fb))(hc:PE X c (tD X.K fc)):
  PE X (.Compare a [op,op'] [b,c] pos) (tD X.K (z9x op op' fa fb fc)):=
 PE.imp (zf5 (zas hu op ho) (zas hu op' ho') ha hb hc hm) fun σ H Q h=>za0 h
theorem zak {op op':CmpOp}{ρ:Rho}{x:GD}(e:z9x op op' fa fb fc ρ=.ok x):∃c,x.2=.bool c:=by
 obtain⟨x,e1,e⟩:=Res.bind_ok e;obtain⟨y,e2,e⟩:=Res.bind_ok e;obtain⟨k,e3,e⟩:=Res.bind_ok e;cases k with
 |false=>cases e;exact⟨_,rfl⟩
 |true=>obtain⟨z',e4,e⟩:=Res.bind_ok e;obtain⟨k',e5,e⟩:=Res.bind_ok e;cases e;exact⟨_,rfl⟩
theorem zmf {op op':CmpOp}(hu:X.A.units+64<cLine)(ho:z3m op=true)(ho':z3m op'=true)(hm:mq [op,op'] [b,c]=false)(ha:PE X a (tD X.K fa))(hb:PE X b (tD X.K fb))(hc:PE X c (tD X.K fc)):
  PT X (.Compare a [op,op'] [b,c] pos) (tDT X.K fun ρ=>z9x op op' fa fb fc ρ>>=fun x=>z1i x.2):=
 PT.imp (zga (zas hu op ho) (zas hu op' ho') ha hb hc hm) (z6g (fun σ H Q h=>za0 h) fun ρ x e=>zak e)
theorem zby {K:W.Frag}{H:Hp}{B:Ad->Prop}{v:V}{d:D}(r:Rep K H B v d):decide (v=.non)=(match d with|.none=>true|_=>false):=by
 cases d with
 |none=>have e:v=.non:=r;subst e;rfl
 |bool b=>have e:v=.bl b:=r;subst e;rfl
 |int b=>have e:v=.int b:=r;subst e;rfl
 |str b=>have e:v=.str b:=r.1;subst e;rfl
 |tuple ds=>obtain⟨a,vs,e,_⟩:=r;subst e;rfl
 |list ds=>obtain⟨a,vs,e,_⟩:=r;subst e;rfl
 |dict ds=>obtain⟨a,vs,e,_⟩:=r;subst e;rfl
def isNF (ng:Bool)(fa:Rho->Res GD):Rho->Res GD:=fun ρ=>fa ρ>>=fun x=>.ok (.fr,.bool (match x.2 with|.none=>!ng|_=>ng))
theorem z94 {ng:Bool}{σ:L2.St}{H:Hp}{Q:VK}(h:tD X.K (isNF ng fa) σ H Q):(if ng then znv (tD X.K fa)else tIsN (tD X.K fa)) σ H Q:=by
 obtain⟨ρ,F,z,so,e,q⟩:=h;obtain⟨x,e1,e⟩:=Res.bind_ok e;cases e;cases ng with
 |false=>
  refine⟨ρ,F,x,so,e1,fun v H1 s1 rv=>?_⟩
  dsimp only
  rw[zby rv];refine q _ H1 s1 ?_;obtain⟨g,d⟩:=x;cases d<;>rfl
 |true=>
  refine⟨ρ,F,x,so,e1,fun v H1 s1 rv=>?_⟩
  dsimp only
  rw[zby rv];refine q _ H1 s1 ?_;obtain⟨g,d⟩:=x;cases d<;>rfl
theorem z9i {ng:Bool}{ρ:Rho}{x:GD}(e:isNF ng fa ρ=.ok x):∃c,x.2=.bool c:=by obtain⟨x,e1,e⟩:=Res.bind_ok e;cases e;exact⟨_,rfl⟩
theorem zsn {ng:Bool}{o:CmpOp}{j p2}(ho:o=if ng then .IsNot else .Is)(ha:PE X a (tD X.K fa)):PE X (.Compare a [o] [.Constant .none j p2] pos) (tD X.K (isNF ng fa)):=by
 subst ho;cases ng with
 |false=>exact PE.imp (zi4 (zi2 ha)) fun σ H Q h=>z94 (ng:=false) h
 |true=>exact PE.imp (zi4 (zbd ha)) fun σ H Q h=>z94 (ng:=true) h
theorem zuk {ng:Bool}{o:CmpOp}{j p2}(ho:o=if ng then .IsNot else .Is)(ha:PE X a (tD X.K fa)):PT X (.Compare a [o] [.Constant .none j p2] pos) (tDT X.K fun ρ=>isNF ng fa ρ>>=fun x=>z1i x.2):=by
 subst ho;cases ng with
 |false=>exact PT.imp (zhd (zi2 ha)) (z6g (fun σ H Q h=>z94 (ng:=false) h) fun ρ x e=>z9i e)
 |true=>exact PT.imp (zhd (zbd ha)) (z6g (fun σ H Q h=>z94 (ng:=true) h) fun ρ x e=>z9i e)
def andF (fa fb:Rho->Res GD):Rho->Res GD:=fun ρ=>fa ρ>>=fun x=>match x.2 with|.bool c=>if c then fb ρ else .ok (.fr,.bool false)|_=>.no
def orF (fa fb:Rho->Res GD):Rho->Res GD:=fun ρ=>fa ρ>>=fun x=>match x.2 with|.bool c=>if c then .ok (.fr,.bool true)else fb ρ|_=>.no
theorem z63 {f:Rho->Res GD}{ρ:Rho}{F:Fm}{H H1:Hp}{x:GD}{σ:L2.St}{Q:VK}(s1:Same H H1)(so:StOk X.K F H σ ρ)(e:f ρ=.ok x)(q:∀v H',Same H H'->Rep X.K H' (BG F H x.1) v x.2->Q v H'):tD X.K f σ H1 Q:=⟨ρ,F,x,so.same s1,e,fun v H' s r=>q v H' (s1.trans s) (r.weak fun _ b=>b.back s1)⟩
theorem zra {rest:List Expr}(ha:PE X a (tD X.K fa))(hb:PE X (.BoolOp .And (b::rest) pos) (tD X.K fb)):PE X (.BoolOp .And (a::b::rest) pos) (tD X.K (andF fa fb)):=
 PE.imp (zpa ha hb) fun σ H Q zz=>by
  obtain⟨ρ,F,z,so,e,q⟩:=zz;obtain⟨x,e1,e⟩:=Res.bind_ok e;refine⟨ρ,F,x,so,e1,fun v H1 s1 rv=>?_⟩;obtain⟨g,d⟩:=x;cases d<;>try (cases e;done)
  rename_i c;refine⟨c,rv,?_⟩;cases c with
  |true=>exact iteT (z63 s1 so e q)
  |false=>cases e;exact iteF (q _ H1 s1 rfl)
theorem d_or {rest:List Expr}(ha:PE X a (tD X.K fa))(hb:PE X (.BoolOp .Or (b::rest) pos) (tD X.K fb)):PE X (.BoolOp .Or (a::b::rest) pos) (tD X.K (orF fa fb)):=
 PE.imp (zrv ha hb) fun σ H Q zz=>by
  obtain⟨ρ,F,z,so,e,q⟩:=zz;obtain⟨x,e1,e⟩:=Res.bind_ok e;refine⟨ρ,F,x,so,e1,fun v H1 s1 rv=>?_⟩;obtain⟨g,d⟩:=x;cases d<;>try (cases e;done)
  rename_i c;refine⟨c,rv,?_⟩;cases c with
  |false=>exact iteF (z63 s1 so e q)
  |true=>cases e;exact iteT (q _ H1 s1 rfl)
theorem zax {K:W.Frag}{H:Hp}{B:Ad->Prop}{v:V}{d:D}{k:Bool}(r:Rep K H B v d)(e:z1i d=.ok k):TruV K v H k:=by
 cases d with
 |none=>cases e;have e1:v=.non:=r;subst e1;exact rfl
 |bool b=>cases e;have e1:v=.bl b:=r;subst e1;exact rfl
 |int b=>cases e;have e1:v=.int b:=r;subst e1;show(!decide (b=0))=(b != 0);rw[bne,ka]
 |str b=>
  have e1:v=.str b:=r.1;subst e1;simp only[z1i]at e;split at e
  ·rename_i hl;cases e;refine⟨z0p hl,?_⟩;show(!decide (b.length=0))=((b.length:Int) != 0);rw[bne,ka]
   congr 1
   rw[decide_eq_decide];omega
  ·cases e
 |tuple ds=>cases e;obtain⟨a,vs,e1,h,q⟩:=r;subst e1;refine .inr (.inl ⟨vs,h,?_⟩);show(!ds.isEmpty)=!vs.isEmpty;have:=q.length;cases vs<;>cases ds<;>simp at this ⊢
 |list ds=>cases e;obtain⟨a,vs,e1,h,q⟩:=z1u r;subst e1;refine .inl ⟨vs,h,?_⟩;show(!ds.isEmpty)=!vs.isEmpty;have:=q.length;cases vs<;>cases ds<;>simp at this ⊢
 |dict es=>
  cases e;obtain⟨a,kvs,e1,h,_,q⟩:=r;subst e1;refine .inr (.inr ⟨kvs,h,?_⟩);show(!es.isEmpty)=!kvs.isEmpty;cases es with
  |nil=>have e2:kvs=[]:=q;subst e2;rfl
  |cons e0 er=>obtain⟨k,v,t,e2,_⟩:=q;subst e2;rfl
theorem ztp (ha:PE X a (tD X.K fa)):PE X (.UnaryOp .Not a pos) (tD X.K fun ρ=>fa ρ>>=fun x=>z1i x.2>>=fun c=>.ok (.fr,.bool (!c))):=by intro pins s σ H Q I h;obtain⟨ρ,F,z,so,e,q⟩:=h;obtain⟨x,e1,e⟩:=Res.bind_ok e;obtain⟨k,e2,e⟩:=Res.bind_ok e;cases e;refine UnaryOp_ (thn (ha pins s σ H (fun v H1=>Same H H1/\Rep X.K H1 (BG F H x.1) v x.2) I ⟨ρ,F,x,so,e1,fun v H1 s1 rv=>⟨s1,rv⟩⟩) fun v s1 zz=>?_);obtain⟨y,H1,I1,r1,s2,rv⟩:=zz;exact not_of (thn (zh8 pins s1 σ H1 y v (fun b H2=>b=k/\H2=H1) I1 r1 ⟨k,zax rv e2,rfl,rfl⟩) fun b s2' zz=>by obtain⟨H2,I2,eb,eH⟩:=zz;subst eb eH;exact⟨.bl _,H2,I2,rfl,q _ H2 s2 rfl⟩)
theorem ztt (ha:PE X e (tD X.K fa))(he:∀whole,oo e X.env whole=(do let v <-whole;tu e.pos;pf [v] (t0 v))):PT X e (tDT X.K fun ρ=>fa ρ>>=fun x=>z1i x.2):=PT.imp (zel ha he) fun σ H Q zz=>by obtain⟨ρ,F,k,so,e,q⟩:=zz;obtain⟨x,e1,e⟩:=Res.bind_ok e;exact⟨ρ,F,x,so,e1,fun v H1 s1 rv=>⟨k,zax rv e,q H1 s1⟩⟩
section
variable {ta tb:Rho->Res Bool}{rest:List Expr}
theorem za4 {f:Rho->Res Bool}{ρ:Rho}{F:Fm}{H H1:Hp}{x:Bool}{σ:L2.St}{Q:Bool->Hp->Prop}(s1:Same H H1)(so:StOk X.K F H σ ρ)(e:f ρ=.ok x)(q:∀H',Same H H'->Q x H'):tDT X.K f σ H1 Q:=⟨ρ,F,x,so.same s1,e,fun H' s=>q H' (s1.trans s)⟩
theorem w_and (ha:PT X a (tDT X.K ta))(hb:PW X (.BoolOp .And (b::rest) pos) (tDT X.K tb)):PW X (.BoolOp .And (a::b::rest) pos) (tDT X.K fun ρ=>ta ρ>>=fun c=>if c then tb ρ else .ok false):=
 PW.imp (zov ha hb) fun σ H Q zz=>by
  obtain⟨ρ,F,k,so,e,q⟩:=zz;obtain⟨x,e1,e⟩:=Res.bind_ok e;refine⟨ρ,F,x,so,e1,fun H1 s1=>?_⟩;cases x with
  |true=>exact iteT (za4 s1 so e q)
  |false=>cases e;exact iteF (q H1 s1)
theorem w_or (ha:PT X a (tDT X.K ta))(hb:PW X (.BoolOp .Or (b::rest) pos) (tDT X.K tb)):PW X (.BoolOp .Or (a::b::rest) pos) (tDT X.K fun ρ=>ta ρ>>=fun c=>if c then .ok true else tb ρ):=
 PW.imp (zta ha hb) fun σ H Q zz=>by
  obtain⟨ρ,F,k,so,e,q⟩:=zz;obtain⟨x,e1,e⟩:=Res.bind_ok e;refine⟨ρ,F,x,so,e1,fun H1 s1=>?_⟩;cases x with
  |false=>exact iteF (za4 s1 so e q)
  |true=>cases e;exact iteT (q H1 s1)
theorem z0w (ha:PT X a (tDT X.K ta)):PT X (.UnaryOp .Not a pos) (tDT X.K fun ρ=>ta ρ>>=fun c=>.ok (!c)):=PT.imp (zh1 ha) fun σ H Q zz=>by obtain⟨ρ,F,k,so,e,q⟩:=zz;obtain⟨x,e1,e⟩:=Res.bind_ok e;cases e;exact⟨ρ,F,x,so,e1,fun H1 s1=>q H1 s1⟩
theorem zum (hc:PT X c (tDT X.K ta))(ha:PE X a (tD X.K fa))(hb:PE X b (tD X.K fb)):PE X (.IfExp c a b pos) (tD X.K fun ρ=>ta ρ>>=fun k=>if k then fa ρ else fb ρ):=
 PE.imp (zgi hc ha hb) fun σ H Q zz=>by
  obtain⟨ρ,F,z,so,e,q⟩:=zz;obtain⟨x,e1,e⟩:=Res.bind_ok e;refine⟨ρ,F,x,so,e1,fun H1 s1=>?_⟩;cases x with
  |true=>exact iteT (z63 s1 so e q)
  |false=>exact iteF (z63 s1 so e q)
end
theorem zp1:PA X [] (tDA X.K fun _=>.ok []):=PA.imp z3v fun σ H Q ⟨ρ,F,z,so,e,q⟩=>by cases e;exact q [] H (Same.refl H) rfl
theorem zi9 {fs:Rho->Res (List GD)}(hs:isStar e=false)(ha:PE X e (tD X.K fa))(hr:PA X es (tDA X.K fs)):PA X (e::es) (tDA X.K fun ρ=>fa ρ>>=fun x=>fs ρ>>=fun xs=>.ok (x::xs)):=PA.imp (pa_c ha hr hs) fun σ H Q zz=>by obtain⟨ρ,F,z,so,e,q⟩:=zz;obtain⟨x,e1,e⟩:=Res.bind_ok e;obtain⟨xs,e2,e⟩:=Res.bind_ok e;cases e;refine⟨ρ,F,x,so,e1,fun v H1 s1 rv=>⟨ρ,F,xs,so.same s1,e2,fun vs H2 s2 rs=>q _ H2 (s1.trans s2) ?_⟩⟩;exact⟨v,vs,rfl,rv.same s2 fun _ z=>z,rs.back s1⟩
theorem zun {x1}{fs:Rho->Res (List GD)}(h:PA X es (tDA X.K fs))(hl:∀ρ xs,fs ρ=.ok xs->xs.length<=bf):PE X (.Tuple es x1 pos) (tD X.K fun ρ=>fs ρ>>=fun ys=>.ok (gJ (.tuple (ys.map (·.2))) (gAll ys),.tuple (ys.map (·.2)))):=PE.imp (znj h) fun σ H Q zz=>by obtain⟨ρ,F,z,so,e,q⟩:=zz;obtain⟨ys,e1,e⟩:=Res.bind_ok e;cases e;refine⟨ρ,F,ys,so,e1,fun vs H1 s1 rs=>?_⟩;have r:=rs.reps (B:=BG F H (gAll ys)) fun x hx a h=>z7d so.vis hx h;refine⟨by rw[r.length,am];exact hl ρ ys e1,fun p hp=>q _ _ (s1.trans (Same.upd hp)) (z3w (z2h hp r fun _ z=>z) fun _ z=>z)⟩
theorem zsk {fs:Rho->Res (List GD)}(h:PA X es (tDA X.K fs))(hl:∀ρ xs,fs ρ=.ok xs->xs.length<=bf):PE X (.List es pos) (tD X.K fun ρ=>fs ρ>>=fun ys=>.ok (gAll ys,.list (ys.map (·.2)))):=PE.imp (zmr h) fun σ H Q zz=>by obtain⟨ρ,F,z,so,e,q⟩:=zz;obtain⟨ys,e1,e⟩:=Res.bind_ok e;cases e;refine⟨ρ,F,ys,so,e1,fun vs H1 s1 rs=>?_⟩;have r:=rs.reps (B:=BG F H (gAll ys)) fun x hx a h=>z7d so.vis hx h;refine⟨by rw[r.length,am];exact hl ρ ys e1,fun p hp=>q _ _ (s1.trans (Same.upd hp)) (z1l hp r (fun _ z=>z) (z67 so.vis s1 hp))⟩
theorem zrb:PE X (.Dict [] [] pos) (tD X.K fun _=>.ok (.fr,.dict [])):=PE.imp zf2 fun σ H Q zz=>by obtain⟨ρ,F,z,so,e,q⟩:=zz;cases e;intro p hp;exact q _ _ (Same.upd hp) ⟨p,[],rfl,z08,hp,rfl⟩
end
theorem zn5 {α:Type}(xs:List α)(i:Int):L2.atI xs i=Mi.atI xs i:=rfl
theorem z7i (n d:Nat)(o:Option Int):HT.sIx n d o=Mi.sIx n d o:=by cases o<;>rfl
theorem zbn (xs:List V)(lo hi:Option Int):L2.cutV xs lo hi=Mi.cut xs lo hi:=by unfold L2.cutV Mi.cut;rw[z7i,z7i]
theorem Reps.cut {K:W.Frag}{H:Hp}{B:Ad->Prop}{vs:List V}{ds:List D}(lo hi:Option Int)(r:Reps K H B vs ds):Reps K H B (Mi.cut vs lo hi) (Mi.cut ds lo hi):=by unfold Mi.cut;rw[r.length];exact(r.drop _).take _
theorem Reps.atI {K:W.Frag}{H:Hp}{B:Ad->Prop}{vs:List V}{ds:List D}{i:Int}{d:D}(r:Reps K H B vs ds)(e:Mi.atI ds i=some d):∃v,L2.atI vs i=some v/\Rep K H B v d:=by
 unfold Mi.atI at e;cases e1:Mi.ixN ds.length i with
 |none=>rw[e1]at e;cases e
 |some j=>rw[e1]at e;obtain⟨v,h1,h2⟩:=r.get (i:=j) (d:=d) e;refine⟨v,?_,h2⟩;rw[zn5];unfold Mi.atI;rw[r.length,e1];exact h1
section
variable {X:Cx}{a b c e:Expr}{es:List Expr}{fa fb fc:Rho->Res GD}{pos:Pos}
theorem ziu (hu:X.A.units+64<cLine):IxR X (fun x y H Q=>∃a v,x=.ref a/\DGet H a y (some v)/\Q v H):=by intro value slice pins s σ H x y v u Q I rx ry h hs;obtain⟨a,z,rfl,g,q⟩:=h;cases rx;exact tail_any (z8i I g) PySem.F.slot_dict_getitem.lookup (zbb (by omega) I g ry fun w' s' I' rw'=>⟨z,H,I',rw',q⟩) hs
def rIxD (K:W.Frag):R2:=fun x y H Q=>∃B B' dx dy d,Rep K H B x dx/\Rep K H B' y dy/\ixD dx dy=.ok d/\∀w,Rep K H B w d->Q w H
theorem ztr (hu:X.A.units+64<cLine):IxR X (rIxD X.K):=by
 intro value slice pins s σ H x y v u Q I rx ry h hs;refine(zua.or (ziu hu)) value slice pins s σ H x y v u Q I rx ry ?_ hs;obtain⟨B,B',dx,dy,d,r1,r2,e,q⟩:=h;cases dx<;>try (cases e;done)
 case list xs=>
  cases dy<;>try (cases e;done)
  rename_i i;have e2:y=.int i:=r2;subst e2;obtain⟨a,vs,rfl,h1,q1⟩:=z1u r1;change Res.ofO (Mi.atI xs i)=_ at e;cases e3:Mi.atI xs i with
  |none=>rw[e3]at e;cases e
  |some d'=>rw[e3]at e;cases e;obtain⟨w,h3,h4⟩:=q1.atI e3;exact .inl (.inl ⟨a,vs,i,w,rfl,rfl,h1,h3,q w h4⟩)
 case tuple xs=>
  cases dy<;>try (cases e;done)
  rename_i i;have e2:y=.int i:=r2;subst e2;obtain⟨a,vs,rfl,h1,q1⟩:=r1;change Res.ofO (Mi.atI xs i)=_ at e;cases e3:Mi.atI xs i with
  |none=>rw[e3]at e;cases e
  |some d'=>rw[e3]at e;cases e;obtain⟨w,h3,h4⟩:=q1.atI e3;exact .inl (.inr (.inl ⟨a,vs,i,w,rfl,rfl,h1,h3,q w h4⟩))
 case str z=>
  cases dy<;>try (cases e;done)
  rename_i i;have e2:y=.int i:=r2;have e1:x=.str z:=r1.1;subst e1 e2;change(if z.length<=LIM then Res.ofO ((Mi.atI z.cps.toList i).map fun c=>PyData.str ⟨#[c]⟩)else .no)=_ at e;split at e
  ·rename_i hl;cases e3:Mi.atI z.cps.toList i with
   |none=>rw[e3]at e;cases e
   |some c=>
    rw[e3]at e;cases e
    have hc:c∈z.cps.toList:=by
     unfold Mi.atI at e3;cases e4:Mi.ixN z.cps.toList.length i with
     |none=>rw[e4]at e3;cases e3
     |some j=>rw[e4]at e3;exact cw e3
    exact .inl (.inr (.inr ⟨z,i,c,rfl,rfl,z0p hl,e3,q _ ⟨rfl,z7k r1.2 hc⟩⟩))
  ·cases e
 case dict es=>
  change(if isK _=true then Res.ofO (z28 es _)else Res.no)=_ at e;split at e
  ·rename_i hk;obtain⟨k,rfl,rfl,_⟩:=z65 hk r2;obtain⟨a,kvs,rfl,h1,_,h2⟩:=r1;have hv:=h2.val k;cases e3:z28 es (kD k)with
   |none=>rw[e3]at e;cases e
   |some d'=>rw[e3]at e hv;cases e;obtain⟨w,h3,h4⟩:=hv;exact .inr ⟨a,w,rfl,by rw[<-h3];exact DGet.k h1,q w h4⟩
  ·cases e
theorem zgo {i:Expr}(h:z5y i=true):zcl i:=fun o v=>by cases i<;>first|rfl|cases h
theorem d_ix {i:Expr}(hu:X.A.units+64<cLine)(hs:z5y i=true)(ha:PE X a (tD X.K fa))(hb:PE X i (tD X.K fb)):
  PE X (.Subscript a i pos) (tD X.K fun ρ=>fa ρ>>=fun x=>fb ρ>>=fun y=>ixD x.2 y.2>>=fun d=>.ok (gJ d x.1,d)):=
 PE.imp (zsm (ztr hu) ha hb (zgo hs)) fun σ H Q zz=>by obtain⟨ρ,F,z,so,e,q⟩:=zz;obtain⟨x,e1,e⟩:=Res.bind_ok e;obtain⟨y,e2,e⟩:=Res.bind_ok e;obtain⟨d,e3,e⟩:=Res.bind_ok e;cases e;exact⟨ρ,F,x,so,e1,fun v H1 s1 rv=>⟨ρ,F,y,so.same s1,e2,fun u H2 s2 ru=>⟨_,_,x.2,y.2,d,rv.same s2 fun _ z=>z,ru,e3,fun w rw'=>q w H2 (s1.trans s2) (z3w rw' fun _ z=>z)⟩⟩⟩
theorem zdq {z:Str}(h:PyData.strOk z=true)(lo hi:Option Int):PyData.strOk (z0k z lo hi)=true:=
 strOk_iff.mpr fun c hc=>strOk_iff.mp h c (by
  have:c∈Mi.cut z.cps.toList lo hi:=by simpa[z0k]using hc
  unfold Mi.cut at this;exact kt (o0 this))
theorem zi1 (lo hi:Option Int)(n:Nat):gh lo hi 1 n=sliceRange ((Mi.sIx n 0 lo:Nat):Int) ((Mi.sIx n n hi:Nat):Int) 1:=by
 delta gh
 have h1:(1:Int)>0:=Int.one_pos;simp only[h1,if_true]
 congr 1
 ·cases lo with
  |none=>rfl
  |some v=>
   simp only[Mi.sIx];by_cases h:v<0
   ·simp only[if_pos h];omega
   ·simp only[if_neg h];omega
 ·cases hi with
  |none=>rfl
  |some v=>
   simp only[Mi.sIx];by_cases h:v<0
   ·simp only[if_pos h];omega
   ·simp only[if_neg h];omega
theorem zbq (n d:Nat)(hd:d<=n)(o:Option Int):Mi.sIx n d o<=n:=by rw[<-z7i];exact HT.sIx_le n d hd o
theorem zfj (z:Str)(lo hi:Option Int):Txt.slice z lo hi=z0k z lo hi:=by
 have hn:z.cps.toList.length=z.length:=by simp[Str.length]
 have e:(gh lo hi 1 z.length).filterMap (z.cps[·]?)=Mi.cut z.cps.toList lo hi:=by rw[zi1,ox,pick_run];unfold Mi.cut;rw[hn]
 have hl:(gh lo hi 1 z.length).length=Mi.sIx z.length z.length hi-Mi.sIx z.length 0 lo:=by rw[zi1,ox,am,fo]
 unfold Txt.slice;split
 ·rename_i hc;simp only[beq_self_eq_true,mh,beq_iff_eq]at hc;rw[hl]at hc;have h1:=zbq z.length 0 (ce _) lo;have h2:=zbq z.length z.length (ah _) hi
  have e2:Mi.cut z.cps.toList lo hi=z.cps.toList:=by
   unfold Mi.cut;rw[hn];by_cases h0:Mi.sIx z.length 0 lo=0
   ·rw[h0,List.drop_zero,j8 (by rw[hn];omega)]
   ·have hz:z.length=0:=by omega
    have:z.cps.toList=[]:=gb.mp (by rw[hn];exact hz);rw[this];simp
  unfold z0k;rw[e2]
 ·unfold z0k;rw[<-e]
def rSlD (K:W.Frag):V->Option Int->Option Int->Hp->VK->Prop:=fun x lo hi H Q=>∃B dx d,Rep K H B x dx/\slD dx lo hi=.ok d/\∀w H',Same H H'->Rep K H' (fun a=>nw H a\/B a) w d->(∀ds,d=.list ds->imms ds=true->Rep K H' (nw H) w d)->Q w H'
theorem zry:SlR X (rSlD X.K):=by
 intro pins s σ H x v vl vu lo hi sl Q I rx hs pl pu h;refine(zt6.or zpv) pins s σ H x v vl vu lo hi sl Q I rx hs pl pu ?_;obtain⟨B,dx,d,r,e,q⟩:=h;cases dx<;>try (cases e;done)
 case list xs=>cases e;obtain⟨a,vs,rfl,h1,q1⟩:=z1u r;refine .inl (.inl ⟨a,vs,rfl,h1,fun p hp=>?_⟩);rw[zbn];exact q _ _ (Same.upd hp) (z1l hp (q1.cut lo hi) (fun _ z=>.inr z) (.inl hp)) fun ds z hi'=>by cases z;exact z1l hp (Reps.immB (B':=nw H) _ hi' (q1.cut lo hi)) (fun _ z=>z) hp
 case tuple xs=>
  change(if sIx xs.length 0 lo=0/\sIx xs.length xs.length hi=xs.length then Res.no else Res.ok (PyData.tuple (cut xs lo hi)))=_ at e;split at e
  ·cases e
  ·rename_i hw;cases e;obtain⟨a,vs,rfl,h1,q1⟩:=r;refine .inr ⟨a,vs,rfl,h1,by rw[z7i,z7i,q1.length];exact hw,fun p hp=>?_⟩;rw[zbn];exact q _ _ (Same.upd hp) (z2h hp (q1.cut lo hi) fun _ z=>.inr z) fun ds z=>by cases z
 case str z=>
  change(if z.length<=LIM then Res.ok (PyData.str (z0k z lo hi))else .no)=_ at e;split at e
  ·rename_i hl;cases e;have e1:x=.str z:=r.1;subst e1;refine .inl (.inr ⟨z,rfl,z0p hl,?_⟩);rw[zfj];exact q _ H (Same.refl H) ⟨rfl,zdq r.2 lo hi⟩ fun ds z=>by cases z
  ·cases e
theorem z1d:PO X none (tDO X.K fun _=>.ok none):=PO.imp zmc fun σ H Q ⟨ρ,F,z,so,e,q⟩=>by cases e;exact q H (Same.refl H)
theorem znb (ha:PE X a (tD X.K fa)):PO X (some a) (tDO X.K fun ρ=>fa ρ>>=fun x=>intO x.2):=
 PO.imp (zje ha) fun σ H Q zz=>by
  obtain⟨ρ,F,z,so,e,q⟩:=zz;obtain⟨x,e1,e⟩:=Res.bind_ok e;refine⟨ρ,F,x,so,e1,fun v H1 s1 rv=>?_⟩;obtain⟨g,d⟩:=x;cases d<;>try (cases e;done)
  cases e;exact⟨_,rv,q H1 s1⟩
theorem d_sl {lo hi:Option Expr}{p2:Pos}{fl fh:Rho->Res (Option Int)}(ha:PE X a (tD X.K fa))(hl:PO X lo (tDO X.K fl))(hh:PO X hi (tDO X.K fh)):
  PE X (.Subscript a (.Slice lo hi none p2) pos) (tD X.K fun ρ=>fa ρ>>=fun x=>fl ρ>>=fun l=>fh ρ>>=fun h=>slD x.2 l h>>=fun d=>.ok (gN d (gAll [x]),d)):=
 PE.imp (zft zry ha hl hh) fun σ H Q zz=>by
  obtain⟨ρ,F,z,so,e,q⟩:=zz;obtain⟨x,e1,e⟩:=Res.bind_ok e;obtain⟨l,e2,e⟩:=Res.bind_ok e;obtain⟨h,e3,e⟩:=Res.bind_ok e;obtain⟨d,e4,e⟩:=Res.bind_ok e;cases e;refine⟨ρ,F,x,so,e1,fun v H1 s1 rv=>⟨ρ,F,l,so.same s1,e2,fun H2 s2=>⟨ρ,F,h,so.same (s1.trans s2),e3,fun H3 s3=>⟨_,x.2,d,rv.same (s2.trans s3) fun _ z=>z,e4,fun w H4 s4 rw' nn=>q w H4 ((s1.trans (s2.trans s3)).trans s4) (zhj rw' (fun a h=>?_) fun ds z hi=>(nn ds z hi).weak fun _ z=>nw.back (s1.trans (s2.trans s3)) z)⟩⟩⟩⟩;rcases h with h|h
  ·exact z67 so.vis (s1.trans (s2.trans s3)) h
  ·exact z7d so.vis (x:=x) (by simp) h
theorem Reps.pick {K:W.Frag}{H:Hp}{B:Ad->Prop}{vs:List V}{ds:List D}(r:Reps K H B vs ds):∀is:List Nat,Reps K H B (is.filterMap (vs[·]?)) (is.filterMap (ds[·]?))
 | []=>rfl
 |i::is=>by
  rw[c8,c8];cases h:ds[i]? with
  |some d=>obtain⟨v,h1,h2⟩:=r.get h;rw[h1];exact Reps.cons h2 (Reps.pick r is)
  |none=>
   have:vs[i]?=none:=by rw[fu]at h ⊢;rw[r.length];exact h
   rw[this];exact Reps.pick r is
theorem Vals.pick {vs:List V}{us:List Value}(r:Vals vs us):∀is:List Nat,Vals (is.filterMap (vs[·]?)) (is.filterMap (us[·]?))
 | []=>.nil
 |i::is=>by
  rw[c8,c8];cases h:vs[i]? with
  |some d=>obtain⟨v,h1,h2⟩:=r.get h;rw[h1];exact .cons h2 (Vals.pick r is)
  |none=>
   have:us[i]?=none:=by rw[fu]at h ⊢;rw[<-r.length];exact h
   rw[this];exact Vals.pick r is
theorem d_cB {x:Str}{id:String}{m:List D->Res D}{fs:Rho->Res (List GD)}(hc:CallR X (.builtin id) (z8l X.K m))(hm:X.mg x=none)(hv:cv x=some (.builtin id))(ha:PA X (e::es) (tDA X.K fs))(hst:((e::es).all fun e=>!isStar e)=true)(hg:Gl X x)(hn:x≠"__name__")(hdb:(x==("__debug__":Str))=false){p:Pos}:
  PE X (.Call (.Name x p) (e::es) [] pos) (tD X.K fun ρ=>fs ρ>>=fun ys=>m (ys.map (·.2))>>=fun d=>.ok (gJ d .al,d)):=
 PE.imp (zgh hc hm hv ha hst hg hn hdb) fun σ H Q zz=>by obtain⟨ρ,F,z,so,e,q⟩:=zz;obtain⟨ys,e1,e⟩:=Res.bind_ok e;obtain⟨d,e2,e⟩:=Res.bind_ok e;cases e;exact⟨ρ,F,ys,so,e1,fun vs H1 s1 rs=>⟨_,_,d,rs.repsV so.vis,e2,fun w H2 s2 rw'=>q w H2 (s1.trans s2) (z3w rw' fun a h=>h.elim (fun z=>(nw.back s1 z).vis so.vis) fun z=>z)⟩⟩
theorem REs.length {K:W.Frag}{H:Hp}{B:Ad->Prop}:∀{kvs:List (Key×V)} {es:Ents},REs K H B kvs es->kvs.length=es.length
 |kvs,[],r=>by have e:kvs=[]:=r;subst e;rfl
 |kvs,(kd,d)::es,r=>by obtain⟨k,v,t,e,_,_,_,q⟩:=r;subst e;rw[ay,ay,q.length]
theorem z50 {K:W.Frag}{H:Hp}{B:Ad->Prop}{xs:List V}{d:D}(r:Reps K H B xs [d]):∃v,xs=[v]/\Rep K H B v d:=by obtain⟨v,t,e,h,q⟩:=r;have e2:t=[]:=q;subst e e2;exact⟨v,rfl,h⟩
theorem zf6 {K:W.Frag}{H:Hp}{B:Ad->Prop}{xs:List V}{d d':D}(r:Reps K H B xs [d,d']):∃v v',xs=[v,v']/\Rep K H B v d/\Rep K H B v' d':=by obtain⟨v,t,e,h,q⟩:=r;obtain⟨v',e2,h'⟩:=z50 q;subst e e2;exact⟨v,v',rfl,h,h'⟩
theorem zkj:CallR X (.builtin "len") (z8l X.K (biD "len")):=by
 refine CallR.imp (zmb.or zd4) fun xs H Q h=>?_;obtain⟨B,ds,d,r,e,q⟩:=h;simp only[biD,if_true]at e;split at e
 ·rename_i x;obtain⟨v,rfl,r1⟩:=z50 r;clear r;have r:=r1;clear r1;cases x<;>try (cases e;done)
  case str z=>
   change(if z.length<=LIM then Res.ok (PyData.int z.length)else .no)=_ at e;split at e
   ·rename_i hl;cases e;have e1:v=.str z:=r.1;subst e1;exact .inl (.inl ⟨z,rfl,z0p hl,q _ H (Same.refl H) rfl⟩)
   ·cases e
  case tuple ds=>cases e;obtain⟨a,vs,rfl,h1,q1⟩:=r;exact .inl (.inr ⟨a,vs,rfl,.inr h1,q _ H (Same.refl H) (by rw[q1.length];exact rfl)⟩)
  case list ds=>cases e;obtain⟨a,vs,rfl,h1,q1⟩:=z1u r;exact .inl (.inr ⟨a,vs,rfl,.inl h1,q _ H (Same.refl H) (by rw[q1.length];exact rfl)⟩)
  case dict ds=>cases e;obtain⟨a,vs,rfl,h1,_,q1⟩:=r;exact .inr ⟨a,vs,rfl,h1,q _ H (Same.refl H) (by rw[q1.length];exact rfl)⟩
 ·cases e
theorem zo1 (hc:X.calm=true):CallR X (.builtin "max") (z8l X.K (biD "max")):=by
 refine CallR.imp (zcr hc) fun xs H Q h=>?_;obtain⟨B,ds,d,r,e,q⟩:=h;simp only[biD,show("max":String)≠"len" by decide,if_true,if_false]at e;split at e
 ·rename_i i j;cases e;obtain⟨v,v',rfl,h1,h2⟩:=zf6 r;have e1:v=.int i:=h1;have e2:v'=.int j:=h2;subst e1 e2;refine⟨i,j,rfl,q _ H (Same.refl H) ?_⟩;show V.int _=V.int _
  congr 1
  split<;>omega
 ·cases e
theorem zer {prog:bc}{w:World}{A:bz}{E:Value->aa->Prop}{s:aa}{p:Addr}{a b:Int}{t u:Tok}{Q:Value->aa->Prop}(hh:A.handled=none)(hp:s.heap.IsTuple p #[.int a t,.int b u])
  (hQ:∀z h' tk,(∀c o,s.heap.get? c=some o->h'.get? c=some o)->Q (.int (if b<a then b else a) z) {s with heap:=h',toks:=tk}):wpAny (model prog w) A (call (.builtin "min") [.ref p]) Q E s:=by
 have ei:uc #[(a,t),(b,u)]=#[.int a t,.int b u]:=by simp[uc]
 have hp2:s.heap.IsTuple p (uc #[(a,t),(b,u)]):=by rw[ei];exact hp
 have lt:p<s.heap.objs.size:=by obtain⟨o,ho,_⟩:=hp;exact bg ho
 refine call_min_walk ?_;refine lm hp2 ?_;refine⟨_,[s.heap.objs.size,p],[s.heap.objs.size],_,_,_,_,rfl,Walks.tuple (A:=A.in1) hh _ p (bx lt) _,⟨⟨_,bh _ rfl,rfl,rfl⟩,hp2.push _⟩,fun c hc=>?_,(by rw[ei];exact rf 1),CmpOf.ints_lt (numAt #[(a,t),(b,u)]) (fun _ _=>intItems_at),fun v h' tk hP hk=>?_⟩
 ·rw[Heap.size_push];simp only[ao,cr,or_false]at hc;rcases hc with rfl|rfl
  ·exact Nat.lt_succ_self _
  ·exact Nat.lt_succ_of_lt lt
 ·have keep:∀c o,s.heap.get? c=some o->h'.get? c=some o:=fun c o e=>hk c o (fun z=>b6 _ (cf.mp z▸bg e)) (ag _ e);have es:(uc #[(a,t),(b,u)]).size-1=1:=by rw[ei];rfl
  rw[es]at hP;by_cases hba:b<a
  ·have e1:argBest (fun i j=>decide (numAt #[(a,t),(b,u)] i<numAt #[(a,t),(b,u)] j)) 1=1:=by
    show(if decide (b<a)=true then 1 else 0)=1;rw[ul hba];rfl
   rw[e1,ei]at hP;cases(Option.some.inj hP);have:=hQ u h' tk keep
   rwa [if_pos hba]at this
  ·have e1:argBest (fun i j=>decide (numAt #[(a,t),(b,u)] i<numAt #[(a,t),(b,u)] j)) 1=0:=by
    show(if decide (b<a)=true then 1 else 0)=0;rw[um hba];rfl
   rw[e1,ei]at hP;cases(Option.some.inj hP);have:=hQ t h' tk keep
   rwa [if_neg hba]at this
theorem zcf (hc:X.calm=true):CallR X (.builtin "min") (fun xs H Q=>∃p i j,xs=[.ref p]/\SqT X.K H p [.int i,.int j]/\Q (.int (if j<i then j else i)) H):=by intro pins s σ H xs us Q I r h;obtain⟨p,i,j,rfl,hq,q⟩:=h;obtain⟨u,rfl,r1⟩:=vals1 r;cases r1;obtain⟨its,rv,hp,_⟩:=I.tuple hq;obtain⟨a,b,rfl,⟨t,rfl⟩,⟨t',rfl⟩⟩:=vals2 rv;exact zer (I.ok.hd hc) hp fun z h' tk k=>⟨.int (if j<i then j else i),H,I.kept k,⟨z,rfl⟩,q⟩
theorem znt (hc:X.calm=true):CallR X (.builtin "min") (z8l X.K (biD "min")):=by
 refine CallR.imp ((zea hc).or (zcf hc)) fun xs H Q h=>?_;obtain⟨B,ds,d,r,e,q⟩:=h;replace e:minD ds=Res.ok d:=e;have mn:∀i j:Int,(if j<i then j else i)=min i j:=fun i j=>by split<;>omega
 have m2:∀{x y:D},min2 x y=.ok d->∃i j,x=.int i/\y=.int j/\d=.int (min i j):=fun{x y} h=>by
  cases x<;>try (exact(z1b h).elim)
  cases y<;>try (exact(z1b h).elim)
  cases h;exact⟨_,_,rfl,rfl,rfl⟩
 rcases ds with _|⟨a,_|⟨b,_|⟨c,ds⟩⟩⟩
 ·exact(z1b e).elim
 ·cases a<;>try (exact(z1b e).elim)
  rename_i ys;rcases ys with _|⟨a,_|⟨b,_|⟨c,ys⟩⟩⟩
  ·exact(z1b e).elim
  ·exact(z1b e).elim
  ·obtain⟨i,j,rfl,rfl,rfl⟩:=m2 e;obtain⟨v,rfl,p,vs,rfl,hq,rs⟩:=z50 r;obtain⟨v1,v2,rfl,h1,h2⟩:=zf6 rs;have e1:v1=.int i:=h1;have e2:v2=.int j:=h2;subst e1 e2;exact .inr ⟨p,i,j,rfl,hq,q _ H (Same.refl H) (show V.int _=V.int _ by rw[mn])⟩
  ·unfold minD vT at e;exact(z1b e).elim
 ·obtain⟨i,j,rfl,rfl,rfl⟩:=m2 e;obtain⟨v,v',rfl,h1,h2⟩:=zf6 r;have e1:v=.int i:=h1;have e2:v'=.int j:=h2;subst e1 e2;exact .inl ⟨i,j,rfl,q _ H (Same.refl H) (show V.int _=V.int _ by rw[mn])⟩
 ·exact(z1b e).elim
theorem zgu {pins:List (Addr×Obj)}{σ:L2.St}{H:Hp}{s:aa}{A:bz}{E:Value->aa->Prop}{Q:Value->aa->Prop}{B:Ad->Prop}{x:V}{u:Value}{d:D}{T:String}(I:Inv X pins σ H s)(rx:RelV x u)(r:Rep X.K H B x d)(hT:T∈tysB)
  (h:∀tk,Q (.bool (isTy (tyOf d) T)) {s with toks:=tk}):wpAny (model X.prog X.w) A (call (.builtin "isinstance") [u,.type T]) Q E s:=by
 have ht:tyOf d∈tysA:=by cases d<;>simp[tyOf,tysA]
 have e:W.kitOne X.K (.type (tyOf d)) (.type T)=some (isTy (tyOf d) T):=zji X.K _ ht T hT;cases d with
 |none=>have e1:x=.non:=r;subst e1;exact z29 I rx .non e h
 |bool b=>have e1:x=.bl b:=r;subst e1;exact z29 I rx (.bl b) e h
 |int b=>have e1:x=.int b:=r;subst e1;exact z29 I rx (.int b) e h
 |str b=>have e1:x=.str b:=r.1;subst e1;exact z29 I rx (.str b) e h
 |tuple ds=>obtain⟨a,vs,e1,h1,_⟩:=r;subst e1;cases rx;obtain⟨_,_,⟨o,ho,hc,_⟩,_⟩:=I.tuple h1;exact W.kia_one W.kitx_tuple I.kIn ⟨o,ho,hc⟩ e (fun z=>nomatch z) h
 |list ds=>obtain⟨a,vs,e1,h1,_⟩:=z1u r;subst e1;cases rx;obtain⟨_,_,⟨o,_,ho,hc,_⟩,_⟩:=I.list h1;exact W.kia_one W.kitx_list I.kIn ⟨o,ho,hc⟩ e (fun z=>nomatch z) h
 |dict es=>obtain⟨a,vs,e1,h1,_⟩:=r;subst e1;exact z29 I rx (.dK h1) e h
def rIsD (K:W.Frag):List V->Hp->VK->Prop:=fun xs H Q=>∃B x d T,xs=[x,.ty T]/\Rep K H B x d/\T∈tysB/\Q (.bl (isTy (tyOf d) T)) H
theorem zfg:CallR X (.builtin "isinstance") (rIsD X.K):=by intro pins s σ H xs us Q I r h;obtain⟨B,x,d,T,rfl,rx,hT,q⟩:=h;obtain⟨u,w',rfl,r1,r2⟩:=vals2 r;obtain rfl:w'=Value.type T:=r2;exact zgu I r1 rx hT fun tk=>⟨.bl _,H,I.tok _,rfl,q⟩
theorem zs4 {y:Expr}{T:String}{x2:Str}{p p2:Pos}(hm:X.mg "isinstance"=none)(hg:Gl X "isinstance")(hm2:X.mg x2=none)(hv2:cv x2=some (.type T))(hg2:Gl X x2)(hn2:x2≠"__name__")(hd2:(x2==("__debug__":Str))=false)(hT:T∈tysB)(hs:isStar y=false)(ha:PE X y (tD X.K fa)):
  PE X (.Call (.Name "isinstance" p) [y,.Name x2 p2] [] pos) (tD X.K fun ρ=>fa ρ>>=fun x=>.ok (.fr,.bool ([T].any fun T=>isTy (tyOf x.2) T))):=
 PE.imp (zgh zfg hm (by decide+kernel) (pa_c ha (pa_c (zjm (v:=.ty T) hg2 hm2 hv2 rfl hn2 hd2) z3v) hs) (by simp[hs];rfl) hg (by decide) (by decide)) fun σ H Q zz=>by obtain⟨ρ,F,z,so,e,q⟩:=zz;obtain⟨x,e1,e⟩:=Res.bind_ok e;cases e;refine⟨ρ,F,x,so,e1,fun v H1 s1 rv=>?_⟩;refine⟨_,v,x.2,T,rfl,rv,hT,q _ H1 s1 ?_⟩;show V.bl _=V.bl _;simp
end
section
variable {X:Cx}{pos:Pos}
def gLst (K:W.Frag)(n:Nat)(t:TGs):TG:=fun v σ H Q=>∃a xs,v=.ref a/\SqL K H a xs/\xs.length=n/\t xs σ H Q
theorem znr {es:List Expr}{k:Nat}{t:TGs}{n:Nat}(hc:X.calm=true)(h:PGs X es t)(hn:(eu es X.env).length=n)(hst:(eu es X.env).findIdx? (·.1)=none):PG X (.Tuple es k pos) (gLst X.K n t):=by
 intro pins s σ H v u Q I r hw;obtain⟨a,xs,e1,hq,hl,hw⟩:=hw;subst e1;cases r;obtain⟨its,rv,pl,hz⟩:=I.list hq;rw[assign_Tuple];apply af;refine qc ?_
 delta unpack
 rw[hst,show(eu es X.env).length=its.toArray.size by rw[hn,<-hl,rv.length,aq]];apply af;refine dr (W.kun_itemsOf (I.ok.hd hc) pl.isList fun h' hx=>?_);have I1:Inv X pins σ H {s with heap:=h'}:=I.kept (t':=s.toks) fun b o e=>hx b o (bx (bg e)) e;exact h pins _ σ H xs _ Q I1 (by simpa using rv) hw
end
def Kp (B:Ad->Prop)(H1 H2:Hp):Prop:=∀a o,H1 a=some o->(B (some a)\/Fix o)->H2 a=some o
theorem Kp.of {B:Ad->Prop}{H1 H2:Hp}(s:Same H1 H2):Kp B H1 H2:=fun a o e _=>s a o e
structure Walk (K:W.Frag)(J:It)(B:Ad->Prop)(H1:Hp)(xs:List D):Prop where
 len:xs.length<=bf
 go:∀H2,Kp B H1 H2->∀i,i<xs.length->J.go i H2
 stop:∀H2,Kp B H1 H2->J.stop xs.length H2
 yld:∀H2,Kp B H1 H2->∀i x H3,i<xs.length->J.yld i H2 x H3->Same H2 H3/\∃d,xs[i]?=some d/\Rep K H3 B x d
def tDW (K:W.Frag)(f:Rho->Res (G×List D)):TI:=fun σ H R=>∃ρ F w,StOk K F H σ ρ/\f ρ=.ok w/\∀J B H',Same H H'->(∀a,B a->BG F H w.1 a/\¬nw H' a)->Walk K J B H' w.2->R J H'
theorem _root_.L2.PI.imp {X:Cx}{tg e:Expr}{t t':TI}(h:PI X tg e t)(i:∀σ H Q,t' σ H Q->t σ H Q):PI X tg e t':=fun pins s σ H Q I q=>h pins s σ H Q I (i σ H Q q)
section
variable {K:W.Frag}{H:Hp}{B:Ad->Prop}
theorem zce {a:Addr}{vs:List V}{ds:List D}(h:(H a=some (.lst vs)/\B (some a))\/(FL K H a vs/\B none))(r:Reps K H B vs ds)(hz:ds.length<=bf):Walk K (Itl K a) B H ds:=by
 have sq:∀H2,Kp B H H2->SqL K H2 a vs:=fun H2 k=>by
  rcases h with⟨h,b⟩|⟨⟨o,h⟩|h,_⟩
  ·exact .inl (.inl (k a _ h (.inl b)))
  ·exact .inl (.inr ⟨o,k a _ h (.inr True.intro)⟩)
  ·exact .inr h
 refine⟨hz,fun H2 k i hi=>?_,fun H2 k=>⟨vs,sq H2 k,by rw[r.length];exact ah _⟩,fun H2 k i x H3 hi y=>?_⟩
 ·have hv:i<vs.length:=by rw[r.length];exact hi
  exact⟨vs,vs[i],sq H2 k,by simp[hv]⟩
 ·obtain⟨e,y⟩:=y;subst e;have hx:=y vs (sq _ k);obtain⟨d,h1,h2⟩:=r.getV hx;exact⟨Same.refl _,d,h1,Rep.keep k (fun _ z=>z) d h2⟩
theorem zgs {a:Addr}{vs:List V}{ds:List D}(h:SqT K H a vs)(r:Reps K H B vs ds)(hz:ds.length<=bf):Walk K (Itt K a) B H ds:=by
 have sq:∀H2,Kp B H H2->SqT K H2 a vs:=fun H2 k=>h.keep k;refine⟨hz,fun H2 k i hi=>?_,fun H2 k=>⟨vs,sq H2 k,by rw[r.length];exact ah _⟩,fun H2 k i x H3 hi y=>?_⟩
 ·have hv:i<vs.length:=by rw[r.length];exact hi
  exact⟨vs,vs[i],sq H2 k,by simp[hv]⟩
 ·obtain⟨e,y⟩:=y;subst e;have hx:=y vs (sq _ k);obtain⟨d,h1,h2⟩:=r.getV hx;exact⟨Same.refl _,d,h1,Rep.keep k (fun _ z=>z) d h2⟩
theorem zem {z:Str}(ok:PyData.strOk z=true)(hz:z.length<=bf):Walk K (Its z) B H (z.cps.toList.map fun c=>.str ⟨#[c]⟩):=by
 have hl:(z.cps.toList.map fun c=>(PyData.str ⟨#[c]⟩:D)).length=z.cps.size:=by simp
 refine⟨by rw[hl];exact hz,fun H2 k i hi=>?_,fun H2 k=>?_,fun H2 k i x H3 hi y=>?_⟩
 ·rw[hl]at hi;exact hi
 ·show z.cps.size<=_;rw[hl];exact ah _
 ·obtain⟨e,c,hc,rfl⟩:=y;subst e;have hc':z.cps.toList[i]?=some c:=by simpa using hc
  refine⟨Same.refl _,.str ⟨#[c]⟩,by rw[bo,hc'];rfl,rfl,z7k ok (cw hc')⟩
theorem z9l {lo:Int}{n:Nat}(hz:n<=bf):Walk K (Itr lo n) B H ((b8 n).map fun(i:Nat)=>.int (lo+i)):=by
 have hl:((b8 n).map fun(i:Nat)=>(PyData.int (lo+i):D)).length=n:=by simp
 refine⟨by rw[hl];exact hz,fun H2 k i hi=>?_,fun H2 k=>?_,fun H2 k i x H3 hi y=>?_⟩
 ·rw[hl]at hi;exact hi
 ·show n<=_;rw[hl];exact ah _
 ·obtain⟨e,rfl⟩:=y;subst e;rw[hl]at hi;exact⟨Same.refl _,.int (lo+i),by rw[bo,pv hi];rfl,rfl⟩
end
section
variable {X:Cx}{tg a b c e:Expr}{es:List Expr}{fa fb fc:Rho->Res GD}{pos:Pos}
theorem z5r {pins:List (Addr×Obj)}{σ:L2.St}{H1:Hp}{s1:aa}{v:Value}{y:V}{B:Ad->Prop}{d:D}{xs:List D}{R:It->Hp->Prop}(I1:Inv X pins σ H1 s1)(r1:RelV y v)(rv:Rep X.K H1 B y d)(e:z40 d=.ok xs)
  (q:∀J,Walk X.K J B H1 xs->R J H1):wpAny (model X.prog X.w) X.A (t7 v) (PIE X pins σ tg R) X.xe s1:=by
 cases d<;>try (cases e;done)
 case list ds=>
  cases e;obtain⟨a,vs,rfl,h,rs⟩:=rv
  have hq:SqL X.K H1 a vs:=by
   rcases h with⟨h,_⟩|⟨h|h,_⟩
   ·exact .inl (.inl h)
   ·exact .inl (.inr h)
   ·exact .inr h
  cases r1;obtain⟨its,rv',p,hz⟩:=I1.list hq;refine l8 p.isList ?_;refine⟨s1.heap.objs.size,[s1.heap.objs.size],_,_,H1,rfl,I1.kept (t':=s1.toks) fun b o e=>ag _ e,zbr a _,⟨_,bh _ rfl,rfl,rfl⟩,fun b hb=>?_,q _ (zce h rs (by rw[<-rs.length];exact hz))⟩;have e:b=s1.heap.objs.size:=by simpa using hb
  subst e;exact I1.fpOk (ah _) (I1.hok.fresh (ah _))
 case tuple ds=>
  cases e;obtain⟨a,vs,rfl,hq,rs⟩:=rv;cases r1;obtain⟨its,rv',p,hz⟩:=I1.tuple hq;refine lm (show s1.heap.IsTuple a its.toArray from p) ?_;refine⟨s1.heap.objs.size,[s1.heap.objs.size],_,_,H1,rfl,I1.kept (t':=s1.toks) fun b o e=>ag _ e,zai a _,⟨_,bh _ rfl,rfl,rfl⟩,fun b hb=>?_,q _ (zgs hq rs (by rw[<-rs.length];exact hz))⟩;have e:b=s1.heap.objs.size:=by simpa using hb
  subst e;exact I1.fpOk (ah _) (I1.hok.fresh (ah _))
 case str z=>
  change(if z.length<=LIM then Res.ok (z.cps.toList.map fun c=>PyData.str ⟨#[c]⟩)else .no)=_ at e;split at e
  case isFalse=>cases e
  rename_i hs;cases e;have e1:y=.str z:=rv.1;subst e1;obtain⟨t,rfl⟩:=r1;have qz:=q _ (zem rv.2 (z0p hs))
  have fin:∀(ty:String) (hty:ty="str_ascii_iterator"\/ty="str_iterator"),PIE X pins σ tg R (.ref s1.heap.objs.size) {s1 with heap:=s1.heap.push {cls:=.type ty,data:=.fields #[.str z t,.int 0 0]}}:=fun ty hty=>by
   refine⟨s1.heap.objs.size,[s1.heap.objs.size],_,_,H1,rfl,I1.kept (t':=s1.toks) fun b o e=>ag _ e,zfm hty _ z t,⟨_,bh _ rfl,rfl,rfl⟩,fun b hb=>?_,qz⟩;have e:b=s1.heap.objs.size:=by simpa using hb
   subst e;exact I1.fpOk (ah _) (I1.hok.fresh (ah _))
  cases ha:z.cps.all (· <128)
  ·exact wpAny_pyIter_wide ha (fin _ (.inr rfl))
  ·exact wpAny_pyIter_ascii ha (fin _ (.inl rfl))
theorem w_tv (ha:PE X a (tD X.K fa)):PI X tg a (tDW X.K fun ρ=>fa ρ>>=fun x=>z40 x.2>>=fun xs=>.ok (x.1,xs)):=by intro pins s σ H R I h;obtain⟨ρ,F,w,so,e,q⟩:=h;obtain⟨x,e1,e⟩:=Res.bind_ok e;obtain⟨xs,e2,e⟩:=Res.bind_ok e;cases e;refine thn (ha pins s σ H (fun v H1=>Same H H1/\Rep X.K H1 (BG F H x.1) v x.2) I ⟨ρ,F,x,so,e1,fun v H1 s1 rv=>⟨s1,rv⟩⟩) fun v s1 zz=>?_;obtain⟨y,H1,I1,r1,s1',rv⟩:=zz;exact z5r I1 r1 (Rep.there _ rv) e2 fun J wk=>q J _ H1 s1' (fun _ z=>z) wk
theorem zdw {n:Int}(h1:n<=LIM)(h2:-LIM<=n):-(2 ^ 62)<=n/\n<2 ^ 62:=by unfold LIM at *;omega
theorem RGs.one {K:W.Frag}{F:Fm}{H H':Hp}{vs:List V}{x:GD}(r:RGs K F H H' vs [x]):∃v,vs=[v]/\Rep K H' (BG F H x.1) v x.2:=by obtain⟨v,t,e,h,q⟩:=r;have e2:t=[]:=q;subst e e2;exact⟨v,rfl,h⟩
theorem RGs.two {K:W.Frag}{F:Fm}{H H':Hp}{vs:List V}{x y:GD}(r:RGs K F H H' vs [x,y]):∃v w,vs=[v,w]/\Rep K H' (BG F H x.1) v x.2/\Rep K H' (BG F H y.1) w y.2:=by obtain⟨v,t,e,h,q⟩:=r;obtain⟨w,e2,h2⟩:=q.one;subst e e2;exact⟨v,w,rfl,h,h2⟩
theorem zr2 {p:Pos}{fs:Rho->Res (List GD)}(hm:X.mg "range"=none)(hg:Gl X "range")(hs:isStar a=false)(ha:PA X [a] (tDA X.K fs))(hl:∀ρ ys,fs ρ=.ok ys->ys.length=1):PI X tg (.Call (.Name "range" p) [a] [] pos) (tDW X.K fun ρ=>fs ρ>>=fun ys=>rngD (ys.map (·.2))>>=fun xs=>.ok (.fr,xs)):=
 PI.imp (zcq hg hm ha (z0b hs)) fun σ H R zz=>by
  obtain⟨ρ,F,w,so,e,q⟩:=zz;obtain⟨ys,e1,e⟩:=Res.bind_ok e;obtain⟨xs,e2,e⟩:=Res.bind_ok e;cases e;refine⟨ρ,F,ys,so,e1,fun vs H1 s1 rs=>?_⟩;have hy:=hl ρ ys e1
  match ys,hy with
  | [(g,d)],hy1=>
   clear hy1;obtain⟨v,rfl,rv⟩:=rs.one;cases d<;>try (cases e2;done)
   rename_i n;have ev:v=.int n:=rv;subst ev;change(if n<=LIM/\-LIM<=n then Res.ok ((b8 n.toNat).map fun(i:Nat)=>PyData.int i)else .no)=_ at e2;split at e2
   case isFalse=>cases e2
   rename_i hn;cases e2;have h62:=zdw hn.1 hn.2;refine⟨n,rfl,h62.1,h62.2,q _ (fun _=>False) H1 s1 (fun _ z=>z.elim) ?_⟩;have e0:((b8 n.toNat).map fun(i:Nat)=>(PyData.int i:D))=(b8 n.toNat).map fun(i:Nat)=>.int (0+i):=by apply jb;intro i _;rw[Int.zero_add]
   show Walk X.K (Itr 0 n.toNat) _ H1 ((b8 n.toNat).map fun(i:Nat)=>(PyData.int i:D));rw[e0];exact z9l (z0p (by unfold LIM at *;omega))
theorem zqk {p:Pos}{fs:Rho->Res (List GD)}(hm:X.mg "range"=none)(hg:Gl X "range")(hs:isStar a=false)(hs2:isStar b=false)(ha:PA X [a,b] (tDA X.K fs))(hl:∀ρ ys,fs ρ=.ok ys->ys.length=2):PI X tg (.Call (.Name "range" p) [a,b] [] pos) (tDW X.K fun ρ=>fs ρ>>=fun ys=>rngD (ys.map (·.2))>>=fun xs=>.ok (.fr,xs)):=
 PI.imp (zd8 hg hm ha (by rw[z0b hs,z0b hs2];rfl) (z0b hs2)) fun σ H R zz=>by
  obtain⟨ρ,F,w,so,e,q⟩:=zz;obtain⟨ys,e1,e⟩:=Res.bind_ok e;obtain⟨xs,e2,e⟩:=Res.bind_ok e;cases e;refine⟨ρ,F,ys,so,e1,fun vs H1 s1 rs=>?_⟩;have hy:=hl ρ ys e1
  match ys,hy with
  | [(g,d),(g',d')],hy1=>
   clear hy1;obtain⟨v,v',rfl,rv,rv'⟩:=rs.two;cases d<;>try (cases e2;done)
   cases d'<;>try (cases e2;done)
   rename_i n m;have ev:v=.int n:=rv;have ev':v'=.int m:=rv';subst ev ev';simp only[ae,rc,rngD]at e2;split at e2
   case isFalse=>cases e2
   rename_i hn;cases e2;have h1:=zdw hn.2.2.1 hn.1;have h2:=zdw hn.2.1 hn.2.2.2;refine⟨n,m,rfl,⟨h1.1,h1.2,h2.1,h2.2⟩,q _ (fun _=>False) H1 s1 (fun _ z=>z.elim) ?_⟩;refine z9l ?_;rw[cq];unfold LIM at *;omega
def Fm.drop (F:Fm)(i:Nat):Fm:={F with O:=fun a=>if F.O a=some i then none else F.O a}
theorem Fm.drop_none {F:Fm}{i:Nat}{a:Addr}(h:F.O a=none):(F.drop i).O a=none:=by show(if F.O a=some i then none else F.O a)=none;rw[h];rfl
theorem Bin.drop {F:Fm}{i:Nat}{a:Ad}(h:Bin F a):Bin (F.drop i) a:=by
 cases a with
 |none=>exact h
 |some a=>exact⟨Fm.drop_none h.1,h.2⟩
theorem Slot.drop {K:W.Frag}{F:Fm}{H:Hp}{i j:Nat}{g:G}{v:V}{d:D}(hij:j≠i)(h:Slot K F H j g v d):Slot K (F.drop i) H j g v d:=by
 cases g with
 |fr=>
  obtain⟨p,e,o,h⟩:=h;refine⟨p,e,?_,?_⟩
  ·show(if F.O p=some i then none else F.O p)=some j;rw[o,if_neg (fun z=>hij (Option.some.inj z))]
  ·rcases h with⟨vs,ds,e1,e2,r⟩|⟨vs,ds,e1,e2,r⟩
   ·exact .inl ⟨vs,ds,e1,e2,r.weak fun _ b=>b.drop⟩
   ·exact .inr ⟨vs,ds,e1,e2,REs.same (fun _ _ e=>e) (fun _ b=>b.drop) r⟩
 |od=>exact h
 |al=>exact h
 |nu=>exact Rep.weak (fun _ b=>b.drop) h
def BI (F:Fm):G->Ad->Prop
 |.od=>oldA F
 |.fr=>visA F
 |.al=>visA F
 |.nu=>visA F
theorem BI.of {F:Fm}{H:Hp}{g:G}{a:Ad}(hv:∀a,H a=none->F.V a)(h:BG F H g a):BI F g a:=by
 cases g with
 |fr=>exact nw.vis hv h
 |od=>exact h
 |al=>exact h
 |nu=>exact h.elim (nw.vis hv) Bin.vis
theorem StOk.setI {K:W.Frag}{F:Fm}{H:Hp}{σ:L2.St}{ρ:Rho}{x:GD}{v:V}{i:Nat}(so:StOk K F H σ ρ)(r:Rep K H (BI F x.1) v x.2):StOk K (F.drop i) H (σ.set i (some v)) (ρ.set i (some (z52 x))) where
 ext:=so.ext
 vis:=so.vis
 own:=fun a j e=>by
  have e':F.O a=some j:=by
   have:(if F.O a=some i then none else F.O a)=some j:=e;split at this
   ·cases this
   ·exact this
  exact so.own a j e'
 len:=by rw[ci,ci];exact so.len
 sl:=fun j g d e=>by
  by_cases hj:i=j
  ·subst hj;rw[du]at e;simp only[if_true]at e;split at e
   ·rename_i hl;have e1:z52 x=(g,d):=by simpa using e
    refine⟨v,?_,?_⟩
    ·rw[du];simp[so.len,hl]
    ·obtain⟨gx,dx⟩:=x;cases gx with
     |fr=>cases e1;exact r
     |od=>cases e1;exact r
     |al=>cases e1;exact r
     |nu=>cases e1;exact r
   ·cases e
  ·rw[bt hj]at e ⊢;obtain⟨u,h1,h2⟩:=so.sl j g d e;exact⟨u,h1,h2.drop fun z=>hj z.symm⟩
structure Keeps (F F':Fm)(is:List Nat)(σ σ':L2.St):Prop where
 h0:F'.H0=F.H0
 v:F'.V=F.V
 z:F'.z=F.z
 o:∀a,F.O a=none->F'.O a=none
 len:σ'.length=σ.length
 rest:∀j,j∉is->σ'[j]?=σ[j]?
theorem Keeps.refl {F:Fm}{is:List Nat}{σ:L2.St}:Keeps F F is σ σ:=⟨rfl,rfl,rfl,fun _ h=>h,rfl,fun _ _=>rfl⟩
theorem Keeps.set {F:Fm}{is:List Nat}{i:Nat}{σ:L2.St}{v:Option V}(h:i∈is):Keeps F (F.drop i) is σ (σ.set i v):=⟨rfl,rfl,rfl,fun _ h=>Fm.drop_none h,ci,fun j hj=>bt fun z=>hj (by rw[<-z];exact h)⟩
theorem Keeps.trans {F F' F'':Fm}{is:List Nat}{σ σ' σ'':L2.St}(a:Keeps F F' is σ σ')(b:Keeps F' F'' is σ' σ''):Keeps F F'' is σ σ'':=⟨b.h0.trans a.h0,b.v.trans a.v,b.z.trans a.z,fun x h=>b.o x (a.o x h),b.len.trans a.len,fun j hj=>(b.rest j hj).trans (a.rest j hj)⟩
def tDG (K:W.Frag)(t:Tg):TG:=fun v σ H Q=>∃ρ F x ρ',StOk K F H σ ρ/\Rep K H (BI F x.1) v x.2/\z0x t x ρ=.ok ρ'/\∀σ' F',StOk K F' H σ' ρ'->Keeps F F' (tgIx t) σ σ'->Q σ' H
theorem _root_.L2.PG.imp {X:Cx}{e:Expr}{t t':TG}(h:PG X e t)(i:∀v σ H Q,t' v σ H Q->t v σ H Q):PG X e t':=fun pins s σ H v u Q I r q=>h pins s σ H v u Q I r (i v σ H Q q)
theorem _root_.L2.PGs.imp {X:Cx}{e:List Expr}{t t':TGs}(h:PGs X e t)(i:∀v σ H Q,t' v σ H Q->t v σ H Q):PGs X e t':=fun pins s σ H v u Q I r q=>h pins s σ H v u Q I r (i v σ H Q q)
theorem zoi {i:Nat}{x:Str}(hN:X.N.Nodup)(hi:X.N[i]?=some x)(hx:Loc X.env.scope x)(hf:X.fn x=true\/X.env.scope.names.lookup x=some .local):PG X (.Name x pos) (tDG X.K (.nm i)):=PG.imp (zbl hN hi hx hf) fun v σ H Q zz=>by obtain⟨ρ,F,x,ρ',so,r,e,q⟩:=zz;cases e;exact q _ _ (so.setI r) (Keeps.set (by simp[tgIx]))
def tDGs (K:W.Frag)(all is:List Nat):TGs:=fun vs σ H Q=>∃ρ F g ds ρ',(∀i∈is,i∈all)/\StOk K F H σ ρ/\Reps K H (BI F g) vs ds/\z3x ρ is ds g=some ρ'/\∀σ' F',StOk K F' H σ' ρ'->Keeps F F' all σ σ'->Q σ' H
theorem zpn {all:List Nat}:PGs X [] (tDGs X.K all []):=
 PGs.imp zkb fun vs σ H Q zz=>by
  obtain⟨ρ,F,g,ds,ρ',_,so,r,e,q⟩:=zz;cases ds with
  |nil=>cases e;have e2:vs=[]:=r;exact⟨e2,q σ F so Keeps.refl⟩
  |cons d ds=>cases e
theorem zjs {all is:List Nat}{i:Nat}{x:Str}{es:List Expr}{p:Pos}(hN:X.N.Nodup)(hi:X.N[i]?=some x)(hx:Loc X.env.scope x)(hf:X.fn x=true\/X.env.scope.names.lookup x=some .local)(h:PGs X es (tDGs X.K all is)):PGs X (.Name x p::es) (tDGs X.K all (i::is)):=
 PGs.imp (zfq (zbl hN hi hx hf) h (by rfl)) fun vs σ H Q zz=>by
  obtain⟨ρ,F,g,ds,ρ',hin,so,r,e,q⟩:=zz;cases ds with
  |nil=>cases e
  |cons d ds=>
   obtain⟨v,t,rfl,h1,h2⟩:=r;refine⟨v,t,rfl,ρ.set i (some (z52 (gJ d g,d))),F.drop i,g,ds,ρ',fun j hj=>hin j (aw _ hj),?_,?_,e,fun σ' F' so' k=>q σ' F' so' ((Keeps.set (hin i au)).trans k)⟩
   ·refine so.setI ?_;show Rep X.K H (BI F (gJ d g)) v d;unfold gJ;by_cases hi:imm d=true
    ·rw[if_pos hi];exact Rep.immB d hi h1
    ·rw[if_neg hi];exact h1
   ·exact h2.weak fun a b=>by cases g<;>exact b
theorem zrw {is:List Nat}{es:List Expr}{k:Nat}{n:Nat}(hc:X.calm=true)(h:PGs X es (tDGs X.K is is))(hn:(eu es X.env).length=n)(hst:(eu es X.env).findIdx? (·.1)=none)(hl:is.length=n):PG X (.Tuple es k pos) (tDG X.K (.tp is)):=
 fun pins s σ H v u Q I ru zz=>by
  obtain⟨ρ,F,x,ρ',so,r,e,q⟩:=zz;obtain⟨g,d⟩:=x
  have hlen:∀(is:List Nat) (ds:List D) (ρ ρ1:Rho),z3x ρ is ds g=some ρ1->is.length=ds.length:=by
   intro is
   induction is with
   |nil=>intro ds ρ ρ1 h;cases ds with
    |nil=>rfl
    |cons _ _=>cases h
   |cons i is ih=>intro ds ρ ρ1 h;cases ds with
    |nil=>cases h
    |cons d ds=>rw[ay,ay,ih ds _ _ h]
  have got:∀ds:List D,Res.ofO (z3x ρ is ds g)=.ok ρ'->z3x ρ is ds g=some ρ':=fun ds e=>by
   cases e1:z3x ρ is ds g with
   |none=>rw[e1]at e;cases e
   |some ρ1=>rw[e1]at e;rw[Res.ok.inj e]
  cases d<;>try (cases e;done)
  case tuple ds=>have e1:=got ds e;obtain⟨a,vs,rfl,h1,h2⟩:=r;exact zqh hc h hn hst pins s σ H _ u Q I ru ⟨a,vs,rfl,h1,by rw[h2.length,<-hlen _ _ _ _ e1];exact hl,ρ,F,g,ds,ρ',fun _ h=>h,so,h2,e1,q⟩
  case list ds=>
   have e1:=got ds e;obtain⟨a,vs,rfl,h1,h2⟩:=r
   have h3:SqL X.K H a vs:=by
    rcases h1 with⟨h1,_⟩|⟨h1|h1,_⟩
    ·exact .inl (.inl h1)
    ·exact .inl (.inr h1)
    ·exact .inr h1
   exact znr hc h hn hst pins s σ H _ u Q I ru ⟨a,vs,rfl,h3,by rw[h2.length,<-hlen _ _ _ _ e1];exact hl,ρ,F,g,ds,ρ',fun _ h=>h,so,h2,e1,q⟩
theorem StOk.blk {K:W.Frag}{F:Fm}{H:Hp}{σ:L2.St}{ρ:Rho}(so:StOk K F H σ ρ)(nt:Nat)(js:List Nat)(l:Addr)(xs:List V)(hl:H l=none):
  StOk K {F with V:=fun a=>F.V a/\a≠l,O:=fun _=>none} (upd H l (.lst xs)) (emb nt js σ) (bw nt none++js.map fun j=>toAl (ρ.getD j none)) where
 ext:=fun a o e=>by have:=so.ext a o e;rw[z02 (z05 this hl)];exact this
 vis:=fun a e=>by
  by_cases h:a=l
  ·subst h;rw[z08]at e;cases e
  ·rw[z02 h]at e;exact⟨so.vis a e,h⟩
 own:=fun a i e=>by cases e
 len:=by unfold emb;simp
 sl:=fun i g d e=>by
  have hB:∀(a:Ad),visA F a/\¬nw H a->visA {F with V:=fun a=>F.V a/\a≠l,O:=fun _=>none} a:=fun a h=>by
   cases a with
   |none=>exact h.1
   |some a=>exact⟨h.1,fun z=>h.2 (by rw[z];exact hl)⟩
  have hB2:∀(a:Ad),oldA F a/\¬nw H a->oldA {F with V:=fun a=>F.V a/\a≠l,O:=fun _=>none} a:=fun a h=>by
   cases a with
   |none=>exact h.1
   |some a=>exact⟨h.1.1,h.1.2,fun z=>h.2 (by rw[z];exact hl)⟩
  rw[ku]at e;split at e
  ·rw[f9]at e;split at e<;>cases e
  ·rename_i hi;rw[c6]at hi e;rw[bo]at e;cases ej:js[i-nt]? with
   |none=>rw[ej]at e;cases e
   |some j=>
    rw[ej]at e;have e1:toAl (ρ.getD j none)=some (g,d):=Option.some.inj e;cases er:ρ[j]? with
    |none=>rw[a9,er]at e1;cases e1
    |some o=>
     rw[a9,er]at e1;cases o with
     |none=>cases e1
     |some gd=>
      obtain⟨g0,d0⟩:=gd;obtain⟨v,h1,h2⟩:=so.sl j g0 d0 er;refine⟨v,?_,?_⟩
      ·unfold emb;rw[fj (by rw[c6];omega),c6,bo,ej];show some (σ.getD j none)=_;rw[a9,h1];rfl
      ·cases g0 with
       |fr=>cases e1;exact Rep.same (Same.upd hl) hB (Rep.there _ (h2.rep so.ownV))
       |od=>cases e1;exact Rep.same (Same.upd hl) hB2 (Rep.there _ h2)
       |al=>cases e1;exact Rep.same (Same.upd hl) hB (Rep.there _ h2)
       |nu=>cases e1;exact Rep.same (Same.upd hl) hB (Rep.there _ (h2.rep so.ownV))
theorem z4v {f:D->Res (Option GD)}:∀(l m:List D) (r:List GD),z3j f (l++m)=.ok r->∃r1 r2,z3j f l=.ok r1/\z3j f m=.ok r2/\r=r1++r2
 | [],m,r,h=>⟨[],r,rfl,h,rfl⟩
 |x::l,m,r,h=>by
  obtain⟨o,e1,h⟩:=Res.bind_ok h;obtain⟨r',e2,h⟩:=Res.bind_ok h;obtain⟨r1,r2,h1,h2,h3⟩:=z4v l m r' e2;subst h3;cases h;refine⟨oc o r1,r2,?_,h2,?_⟩
  ·show(f x>>=fun o=>z3j f l>>=fun r=>Res.ok (oc o r))=_;rw[e1,Res.ok_bind,h1,Res.ok_bind]
  ·cases o<;>rfl
theorem RGs.snoc {K:W.Frag}{F:Fm}{H H':Hp}:∀{vs:List V} {xs:List GD} {v:V} {x:GD},RGs K F H H' vs xs->Rep K H' (BG F H x.1) v x.2->RGs K F H H' (vs++[v]) (xs++[x])
 |vs,[],v,x,r,h=>by have e:vs=[]:=r;subst e;exact⟨v,[],rfl,h,rfl⟩
 |vs,y::ys,v,x,r,h=>by obtain⟨u,t,e,h1,q⟩:=r;subst e;exact⟨u,t++[v],rfl,h1,q.snoc h⟩
theorem RGs.keep {K:W.Frag}{F:Fm}{H H1 H2:Hp}(hk:∀a o (g:G),H1 a=some o->(BG F H g (some a)\/Fix o)->H2 a=some o):∀{vs:List V} {xs:List GD},RGs K F H H1 vs xs->RGs K F H H2 vs xs
 |vs,[],r=>r
 |vs,y::ys,r=>by obtain⟨u,t,e,h1,q⟩:=r;exact⟨u,t,e,Rep.keep (fun a o e b=>hk a o y.1 e b) (fun _ z=>z) _ h1,q.keep hk⟩
theorem RGs.len {K:W.Frag}{F:Fm}{H H':Hp}:∀{vs:List V} {xs:List GD},RGs K F H H' vs xs->vs.length=xs.length
 |vs,[],r=>by have e:vs=[]:=r;subst e;rfl
 |vs,y::ys,r=>by obtain⟨u,t,e,h1,q⟩:=r;subst e;rw[ay,ay,q.len]
theorem z7f {f:D->Res (Option GD)}:∀(l:List D) (r:List GD),z3j f l=.ok r->r.length<=l.length
 | [],r,h=>by cases h;exact ah _
 |x::l,r,h=>by
  obtain⟨o,e1,h⟩:=Res.bind_ok h;obtain⟨r',e2,h⟩:=Res.bind_ok h;have:=z7f l r' e2;cases h;cases o with
  |none=>exact ck this (by simp)
  |some y=>simp only[oc,ay];omega
def zc3 (nt:Nat)(js:List Nat)(t:Tg)(fw:Rho->Res (G×List D))(fc:Rho->Res Bool)(fe:Rho->Res GD):Rho->Res GD:=fun ρ=>fw ρ>>=fun w=>z3j (fun x=>z0x t (gJ x w.1,x) (bw nt none++js.map fun j=>toAl (ρ.getD j none))>>=fun ρ1=>fc ρ1>>=fun k=>if k then fe ρ1>>=fun y=>.ok (some y)else .ok none) w.2>>=fun ys=>.ok (gCo ys,.list (ys.map (·.2)))
def lcB (g:TG)(tc:TT)(te:TE)(em:L2.St->L2.St)(σ:L2.St)(Q:VK):It->Hp->Prop:=fun J H1=>∀l,H1 l=none->∃P:Nat->Nat->List V->Hp->Prop,(∃m,P 0 m [] (upd H1 l (.lst [])))/\∀i m acc H2,P i m acc H2->(J.stop i H2/\Q (.ref l) H2)\/(J.go i H2/\acc.length<bf/\∃N:List V->Hp->Prop,(∀acc' H',N acc' H'->∃m',m'<m/\P (i+1) m' acc' H')/\∀x H3,J.yld i H2 x H3->g x (em σ) H3 fun σ4 H4=>Keep (em σ) σ4/\tc σ4 H4 fun b H5=>if b=true then te σ4 H5 fun y H6=>H6 l=some (.lst acc)/\N (acc++[y]) (upd H6 l (.lst (acc++[y])))else N acc H5)
abbrev CI (K:W.Frag)(F:Fm)(f:D->Res (Option GD))(ds:List D)(H1:Hp)(l:Nat)(i:Nat)(acc:List V)(H2:Hp):Prop:=H2 l=some (.lst acc)/\(∀a o,H1 a=some o->H2 a=some o)/\∃ys,z3j f (ds.take i)=.ok ys/\RGs K F (upd H1 l (.lst [])) H2 acc ys
theorem zaq {nt:Nat}{js:List Nat}{t:Tg}{fw:Rho->Res (G×List D)}{fc:Rho->Res Bool}{fe:Rho->Res GD}(ht0:∀i∈tgIx t,i<nt){σ:L2.St}{H:Hp}{Q:VK}{ρ:Rho}{F:Fm}{z:GD}(so:StOk X.K F H σ ρ)(e:zc3 nt js t fw fc fe ρ=.ok z)(q:∀v H',Same H H'->Rep X.K H' (BG F H z.1) v z.2->Q v H'):
  ∃w,fw ρ=.ok w/\∀J B H',Same H H'->(∀a,B a->BG F H w.1 a/\¬nw H' a)->Walk X.K J B H' w.2->lcB (tDG X.K t) (tDT X.K fc) (tD X.K fe) (emb nt js) σ Q J H':=by
 obtain⟨w,e1,e⟩:=Res.bind_ok e;obtain⟨ysA,e2,e⟩:=Res.bind_ok e;cases e;refine⟨w,e1,fun J B H1 s1 hB wk l hl=>?_⟩;generalize hr:(bw nt none++js.map fun j=>toAl (ρ.getD j none))=ρ0 at e2;generalize hf:(fun x=>z0x t (gJ x w.1,x) ρ0>>=fun ρ1=>fc ρ1>>=fun k=>if k then fe ρ1>>=fun y=>Res.ok (some y)else .ok none)=f at e2;have so1:=so.same s1;have hpre:∀i,∃ys,z3j f (w.2.take i)=.ok ys:=fun i=>by rw[<-List.take_append_drop i w.2]at e2;obtain⟨r1,r2,h1,_,_⟩:=z4v _ _ _ e2;exact⟨r1,h1⟩
 let Fb:Fm:={F with V:=fun a=>F.V a/\a≠l,O:=fun _=>none}
 refine zvg (n:=w.2.length) (CI X.K Fb f w.2 H1 l) wk.len ?_ ?_ ?_ ?_ ?_
 ·exact⟨z08,fun a o e=>by rw[z02 (z05 e hl)];exact e,[],rfl,rfl⟩
 ·rintro i acc H2 ⟨_,_,ys,hy,rs⟩
  rw[rs.len];have:=z7f _ _ hy;rw[d6]at this;omega
 ·rintro acc H2 ⟨h1,h2,ys,hy,rs⟩
  rw[List.take_length]at hy;rw[e2]at hy;cases hy;have kp:Kp B H1 H2:=fun a o e _=>h2 a o e;refine⟨wk.stop H2 kp,q _ _ (fun a o e=>h2 a o (s1 a o e)) ?_⟩;have hHl:H l=none:=s1.none hl;refine⟨l,acc,rfl,.inl ⟨h1,?_⟩,rs.reps fun x hx a hb=>?_⟩
  ·show BG F H (gCo ysA) (some l);unfold gCo;split
   ·exact hHl
   ·exact so.vis l hHl
  ·unfold gCo;by_cases ea:(ysA.all fun x=>x.1==.fr)=true
   ·rw[if_pos ea];have hx1:x.1=.fr:=by simpa using ax.mp ea x hx
    rw[hx1]at hb;cases a with
    |none=>exact hb
    |some a=>
     have hb':upd H1 l (.lst []) a=none:=hb
     have:H1 a=none:=by
      by_cases hal:a=l
      ·subst hal;exact hl
      ·rw[z02 hal]at hb';exact hb'
     exact s1.none this
   ·rw[if_neg ea];have:visA Fb a:=BG.vis (F:=Fb) (H:=upd H1 l (.lst [])) (fun a e=>((so1.blk nt js l [] hl).vis a e)) hb;cases a with
    |none=>exact this
    |some a=>exact this.1
 ·rintro i acc H2 hi ⟨_,h2,_⟩
  exact wk.go H2 (fun a o e _=>h2 a o e) i hi
 ·rintro i acc H2 x H3 hi ⟨h1,h2,ys,hy,rs⟩ y
  obtain⟨s3,d,hd,rx⟩:=wk.yld H2 (fun a o e _=>h2 a o e) i x H3 hi y;obtain⟨ys',hy'⟩:=hpre (i+1);have htk:w.2.take (i+1)=w.2.take i++[d]:=by rw[List.take_add_one,hd];rfl
  rw[htk]at hy';obtain⟨r1,r2,g1,g2,g3⟩:=z4v _ _ _ hy';rw[hy]at g1;cases g1;obtain⟨o,g4,g2⟩:=Res.bind_ok g2;obtain⟨r3,g5,g2⟩:=Res.bind_ok g2;cases g5;rw[<-hf]at g4;obtain⟨ρ1,k1,g4⟩:=Res.bind_ok g4;obtain⟨k,k2,g4⟩:=Res.bind_ok g4
  have sb:StOk X.K Fb H3 (emb nt js σ) ρ0:=by
   rw[<-hr];refine(so1.blk nt js l acc hl).same fun a o e=>s3 a o ?_;by_cases hal:a=l
   ·subst hal;rw[z08]at e;rw[h1];exact e
   ·rw[z02 hal]at e;exact h2 a o e
  have rx':Rep X.K H3 (BI Fb (gJ d w.1)) x d:=by
   unfold gJ;by_cases hi:imm d=true
   ·rw[if_pos hi];exact Rep.immB d hi rx
   ·rw[if_neg hi];refine rx.weak fun a b=>?_;obtain⟨b1,b2⟩:=hB a b;have b3:=BI.of so.vis b1;cases a with
    |none=>cases hw:w.1<;>rw[hw]at b3<;>exact b3
    |some a=>
     have hal:a≠l:=fun z=>b2 (by show H1 a=none;rw[z];exact hl);cases hw:w.1<;>rw[hw]at b3
     ·exact⟨b3,hal⟩
     ·exact⟨b3.1,b3.2,hal⟩
     ·exact⟨b3,hal⟩
     ·exact⟨b3,hal⟩
  refine⟨_,Fb,(gJ d w.1,d),ρ1,sb,rx',k1,fun σ4 F4 so4 kps=>⟨⟨kps.len.symm,fun j v hj=>?_⟩,ρ1,F4,k,so4,k2,fun H5 s5=>?_⟩⟩
  ·by_cases hjt:j∈tgIx t
   ·have :=ht0 j hjt;unfold emb at hj;rw[gp (by rw[c6];exact this),f9,if_pos this]at hj;cases hj
   ·rw[kps.rest j hjt];exact hj
  ·have h5:∀a o,H1 a=some o->H5 a=some o:=fun a o e=>s5 a o (s3 a o (h2 a o e));have h5l:H5 l=some (.lst acc):=s5 _ _ (s3 _ _ h1);have rs5:RGs X.K Fb (upd H1 l (.lst [])) H5 acc ys:=rs.keep fun a o g e _=>s5 a o (s3 a o e);cases k with
   |false=>cases g4;cases g2;refine iteF ⟨h5l,h5,ys,?_,rs5⟩;rw[htk,hy',g3];simp[oc]
   |true=>
    obtain⟨yv,k3,g4⟩:=Res.bind_ok g4;cases g4;cases g2;refine iteT ⟨ρ1,F4,yv,so4.same s5,k3,fun v H6 s6 rv=>⟨s6 _ _ h5l,z08,fun a o e=>?_,ys++[yv],?_,?_⟩⟩
    ·rw[z02 (z05 e hl)];exact s6 a o (h5 a o e)
    ·rw[htk,hy',g3];rfl
    ·have h6l:=s6 _ _ h5l
     have hk:∀a o (g:G),H6 a=some o->(BG Fb (upd H1 l (.lst [])) g (some a)\/Fix o)->upd H6 l (.lst (acc++[v])) a=some o:=fun a o g e b=>by
      have hal:a≠l:=by
       intro z;subst z;rcases b with b|b
       ·cases g with
        |fr=>have b':upd H1 a (.lst []) a=none:=b;rw[z08]at b';cases b'
        |od=>exact b.2.2 rfl
        |al=>exact b.2 rfl
        |nu=>
         rcases b with b|b
         ·have b':upd H1 a (.lst []) a=none:=b;rw[z08]at b';cases b'
         ·exact b.2.2.2 rfl
       ·rw[h6l]at e;cases e;exact b
      rw[z02 hal];exact e
     have rs6:RGs X.K Fb (upd H1 l (.lst [])) H6 acc ys:=rs5.keep fun a o g e _=>s6 a o e
     have rv':Rep X.K H6 (BG Fb (upd H1 l (.lst [])) yv.1) v yv.2:=by
      refine rv.weak fun a b=>?_;cases hg:yv.1 with
      |fr=>
       rw[hg]at b;cases a with
       |none=>exact b
       |some a=>
        have b':H5 a=none:=b;show upd H1 l (.lst []) a=none;have hal:a≠l:=fun z=>by rw[z,h5l]at b';cases b'
        rw[z02 hal];cases e1:H1 a with
        |none=>rfl
        |some o=>rw[h5 a o e1]at b';cases b'
      |nu=>
       rw[hg]at b;cases a with
       |none=>exact b
       |some a=>
        rcases b with b|b
        ·have b':H5 a=none:=b;refine .inl ?_;show upd H1 l (.lst []) a=none;have hal:a≠l:=fun z=>by rw[z,h5l]at b';cases b'
         rw[z02 hal];cases e1:H1 a with
         |none=>rfl
         |some o=>rw[h5 a o e1]at b';cases b'
        ·refine .inr ⟨rfl,?_,?_⟩
         ·have:=b.2.1;rw[kps.h0]at this;exact this
         ·have:=b.2.2;rw[kps.v]at this;exact this
      |od=>
       rw[hg]at b;cases a with
       |none=>have b1:F4.z:=b;rw[kps.z]at b1;exact b1
       |some a=>have b1:F4.H0 a≠none/\F4.V a:=b;rw[kps.h0,kps.v]at b1;exact b1
      |al=>
       rw[hg]at b;cases a with
       |none=>have b1:F4.z:=b;rw[kps.z]at b1;exact b1
       |some a=>have b1:F4.V a:=b;rw[kps.v]at b1;exact b1
     exact(rs6.snoc rv').keep hk
theorem zbu {nt:Nat}{js:List Nat}{t:Tg}{fw:Rho->Res (G×List D)}{fc:Rho->Res Bool}{fe:Rho->Res GD}(ht0:∀i∈tgIx t,i<nt):∀σ H Q,tD X.K (zc3 nt js t fw fc fe) σ H Q->tLC (tDW X.K fw) (tDG X.K t) (tDT X.K fc) (tD X.K fe) (emb nt js) σ H Q:=by intro σ H Q h;obtain⟨ρ,F,z,so,e,q⟩:=h;obtain⟨w,e1,h⟩:=zaq (X:=X) (js:=js) (fw:=fw) (fc:=fc) (fe:=fe) ht0 so e q;exact⟨ρ,F,w,so,e1,h⟩
theorem zht {scope:Scope}{N':List Str}{nt:Nat}{js:List Nat}{t:Tg}{iter elt:Expr}{ifs:List Expr}{fw:Rho->Res (G×List D)}{fc:Rho->Res Bool}{fe:Rho->Res GD}(hc:X.calm=true)(Bk:BlkScope X scope N' nt js)(ht0:∀i∈tgIx t,i<nt)(hi:PI X tg iter (tDW X.K fw))
  (hg:∀C fp s H,PG (blk X scope N' C fp s H) tg (tDG X.K t)) (ht:∀C fp s H,PTs (blk X scope N' C fp s H) ifs (tDT X.K fc)) (he:∀C fp s H,PE (blk X scope N' C fp s H) elt (tD X.K fe)) (hs:∀x,e9 iter X.env x=pure x):
  PE X (.ListComp elt [⟨tg,iter,ifs,0⟩] scope pos) (tD X.K (zc3 nt js t fw fc fe))/\∀σ H Q,tD X.K (zc3 nt js t fw fc fe) σ H Q->tLC (tDW X.K fw) (tDG X.K t) (tDT X.K fc) (tD X.K fe) (emb nt js) σ H Q:=by
 have main:=zbu (X:=X) (js:=js) (fw:=fw) (fc:=fc) (fe:=fe) ht0;exact⟨PE.imp (zg3 hc Bk hi hg ht he hs) main,main⟩
end
def BC (H:Hp)(A:Ad->Prop):G->Ad->Prop
 |.fr=>nw H
 |.od=>fun a=>nw H a\/A a
 |.al=>fun a=>nw H a\/A a
 |.nu=>nw H
def spD (K:W.Frag)(n:Nat)(m:Fn):Sp:=fun vs H Q _=>∃A ds x,vs.length=n/\Reps K H A vs ds/\m ds=.ok x/\∀v H',Same H H'->Rep K H' (BC H A x.1) v x.2->Q v H'
section
variable {X:Cx}{tg a b c e o:Expr}{es:List Expr}{fa fb fc:Rho->Res GD}{pos:Pos}
theorem zgy {x:Str}{k k' n:Nat}{ps:List Str}{m:Fn}{fs:Rho->Res (List GD)}{p:Pos}(Cc:Cal X.prog X.w X.K X.mg X.base k x ps (spD X.K n m))(hr:Room k' X.A)(hk:k<=k')(ha:PA X (e::es) (tDA X.K fs))(hst:((e::es).all fun e=> !isStar e)=true)(hg:Gl X x)(hdb:(x==("__debug__":Str))=false)
  (hl:∀ρ ys,fs ρ=.ok ys->ys.length=n):PE X (.Call (.Name x p) (e::es) [] pos) (tD X.K fun ρ=>fs ρ>>=fun ys=>m (ys.map (·.2))>>=fun r=>.ok (gJ r.2 (rtG r.1),r.2)):=
 PE.imp (zfz Cc hr ha hst hk hg hdb) fun σ H Q zz=>by
  obtain⟨ρ,F,z,so,e,q⟩:=zz;obtain⟨ys,e1,e⟩:=Res.bind_ok e;obtain⟨r,e2,e⟩:=Res.bind_ok e;cases e;refine⟨ρ,F,ys,so,e1,fun vs H1 s1 rs=>?_⟩;show spD X.K n m (vs++[]) H1 Q E0;rw[dn];refine⟨_,_,r,by rw[rs.len];exact hl ρ ys e1,rs.repsV so.vis,e2,fun v H2 s2 rv=>q v H2 (s1.trans s2) (z3w rv fun a h=>?_)⟩;have al:(nw H1 a\/visA F a)->visA F a:=fun h=>h.elim (fun h=>(nw.back s1 h).vis so.vis) fun h=>h;cases hg:r.1 with
  |fr=>rw[hg]at h;exact nw.back s1 h
  |od=>rw[hg]at h;exact al h
  |al=>rw[hg]at h;exact al h
  |nu=>rw[hg]at h;exact nw.back s1 h
def rMt (K:W.Frag)(m:String):V->List V->Hp->VK->Prop:=fun x xs H Q=>∃B B' dx ds d,Rep K H B x dx/\Reps K H B' xs ds/\mtD m dx ds=.ok d/\∀w H',Same H H'->Rep K H' (fun a=>nw H a\/B a\/B' a) w d->Q w H'
theorem z3f {o:Expr}{n:Str}{env:Env}{w:Sem Value}(h:z2q o=true):me o n env w=w:=by
 unfold me;split
 ·rename_i id p pos;cases h
 ·rfl
theorem z98 {pos:Pos}{env:Env}:∀{es:List Expr},(es.all fun e=> !isStar e)=true->(j7 pos (cy es env)).all (fun x=> !x.1)=true
 | [],_=>rfl
 |e::es,h=>by have h:=ba.mp (cn▸h);rw[z0b (by simpa using h.1)];show(true&&(j7 pos (cy es env)).all (fun x=>!x.1))=true;rw[z98 h.2];rfl
theorem z7l {cpos:Pos}{env:Env}{es:List Expr}(h:(es.all fun e=> !isStar e)=true)(hl:es.length<20):((j7 cpos (cy es env)).all (fun x=> !x.1)&&(backToKw cpos (sv [] env)).all (fun x=>x.1.isSome)
  &&decide (es.length+([]:List m8).length+(if([]:List m8).isEmpty then 0 else 1)<30))=true:=by
 rw[z98 h];show(true&&true&&decide (es.length+0+0<30))=true;rw[ul (by omega)];rfl
theorem d_mt {m T id:String}{n:Str}{apos cpos:Pos}{fs:Rho->Res (List GD)}(pa:ub T)(slot:PySem.Slot T n id)(hty:oy (.builtin id)=pure (.type "method_descriptor"))(hm:MtR X id (rMt X.K m))(hT:∀H B x dx ds d,Rep X.K H B x dx->mtD m dx ds=.ok d->tyV X.K T x H)
  (ho:PE X o (tD X.K fa)) (ha:PA X (e::es) (tDA X.K fs)) (hns:z2q o=true) (hst:((e::es).all fun e=>!isStar e)=true) (hl:(e::es).length<20) (hline:(apos.endLine==cpos.line)=true):
  PE X (.Call (.Attribute o n apos) (e::es) [] cpos) (tD X.K fun ρ=>fa ρ>>=fun x=>fs ρ>>=fun ys=>mtD m x.2 (ys.map (·.2))>>=fun d=>.ok (gJ d .al,d)):=by
 have hst':=hst;rw[cn,ak]at hst';refine PE.imp (zav pa slot hty hm ho ha (z3f hns) (z7l hst hl) hline (z0b (by simpa using hst'.1)) (z1g hst'.2)) fun σ H Q zz=>?_;obtain⟨ρ,F,z,so,e,q⟩:=zz;obtain⟨x,e1,e⟩:=Res.bind_ok e;obtain⟨ys,e2,e⟩:=Res.bind_ok e;obtain⟨d,e3,e⟩:=Res.bind_ok e;cases e;refine⟨ρ,F,x,so,e1,fun v H1 s1 rv=>⟨hT H1 _ v x.2 _ d rv e3,ρ,F,ys,so.same s1,e2,fun vs H2 s2 rs=>?_⟩⟩;refine⟨_,_,x.2,_,d,rv.same s2 fun _ z=>z,rs.repsV (so.same s1).vis,e3,fun w H3 s3 rw'=>q w H3 ((s1.trans s2).trans s3) (z3w rw' fun a h=>?_)⟩;rcases h with h|h|h
 ·exact(nw.back (s1.trans s2) h).vis so.vis
 ·exact h.vis so.vis
 ·exact h
theorem zu7 (hu:X.A.units+64<cLine):MtR X "dict.get" (rMt X.K "get"):=by
 intro pins s σ H x xs v us Q I rx rs h;obtain⟨B,B',dx,ds,d,r1,r2,e,q⟩:=h;simp only[mtD,if_true]at e;split at e
 ·rename_i es k d0;split at e
  case isFalse=>cases e
  rename_i hk;cases e;obtain⟨vk,vd,rfl,h1,h2⟩:=zf6 r2;obtain⟨kk,rfl,rfl,_⟩:=z65 hk h1;obtain⟨a,kvs,rfl,g1,_,g2⟩:=r1;cases rx;obtain⟨u1,u2,rfl,q1,q2⟩:=vals2 rs;have hv:=g2.val kk;refine zp4 (by omega) I (DGet.k g1) q1 q2 fun w' s' I' rw'=>⟨_,H,I',rw',q _ H (Same.refl H) ?_⟩;cases e3:z28 es (kD kk)with
  |none=>rw[e3]at hv;rw[show valV kvs kk=none from hv];exact h2.weak fun _ z=>.inr (.inr z)
  |some d'=>rw[e3]at hv;obtain⟨w,h3,h4⟩:=hv;rw[h3];exact h4.weak fun _ z=>.inr (.inl z)
 ·cases e
theorem zq4 {H:Hp}{B:Ad->Prop}{x:V}{dx d:D}{ds:List D}(r:Rep X.K H B x dx)(e:mtD "get" dx ds=.ok d):tyV X.K "dict" x H:=by
 simp only[mtD,if_true]at e;split at e
 ·obtain⟨a,kvs,rfl,g1,_,_⟩:=r;exact .inr (.inr ⟨rfl,kvs,g1⟩)
 ·cases e
theorem z6y {K:W.Frag}{H:Hp}{B:Ad->Prop}:∀{ds:List D} {ss:List Str} {vs:List V} {us:List Value},allS ds=some ss->Reps K H B vs ds->Vals vs us->StrsAre us ss/\∀s∈ss,PyData.strOk s=true
 | [],ss,vs,us,e,r,q=>by cases e;have e1:vs=[]:=r;subst e1;cases q;exact⟨.nil,fun _ h=>nomatch h⟩
 |d::ds,ss,vs,us,e,r,q=>by
  cases d<;>try (cases e;done)
  rename_i z;change(allS ds).map (z:: ·)=_ at e;cases e1:allS ds with
  |none=>rw[e1]at e;cases e
  |some ss'=>
   rw[e1]at e;cases e;obtain⟨v,t,rfl,h1,h2⟩:=r;have ev:v=.str z:=h1.1;subst ev;cases q with
   |cons q1 q2=>
    obtain⟨tk,rfl⟩:=q1;obtain⟨i1,i2⟩:=z6y e1 h2 q2;refine⟨.cons z tk i1,fun s hs=>?_⟩;rcases(ao.mp hs)with rfl|hs
    ·exact h1.2
    ·exact i2 s hs
theorem zej (z:Str)(ss:List Str):Txt.join z ss=z1p z ss:=by
 have go:∀(r:List Str) (acc:Array Nat),(r.foldl (fun acc p=>acc++z.cps++p.cps) acc).toList=acc.toList++(r.map fun p=>z.cps.toList++p.cps.toList).flatten:=by
  intro r
  induction r with
  |nil=>intro acc;simp
  |cons p r ih=>intro acc;rw[k9,ih];simp
 show rh z ss=_;unfold rh z1p z69;cases ss with
 |nil=>rfl
 |cons x r=>
  have:=go r x.cps;show(⟨r.foldl (fun acc p=>acc++z.cps++p.cps) x.cps⟩:Str)=⟨(x.cps.toList++(r.map fun p=>z.cps.toList++p.cps.toList).flatten).toArray⟩
  congr 1
  rw[<-this,g9]
theorem zaf {z:Str}{ss:List Str}(hz:PyData.strOk z=true)(h:∀s∈ss,PyData.strOk s=true):PyData.strOk (z1p z ss)=true:=
 strOk_iff.mpr fun c hc=>by
  have hc':c∈z69 z.cps.toList ss:=by simpa[z1p]using hc
  cases ss with
  |nil=>simp[z69]at hc'
  |cons x r=>
   simp only[z69,cx,kq,bq]at hc';rcases hc' with hc'|⟨l,⟨p,hp,rfl⟩,hc'⟩
   ·exact strOk_iff.mp (h x au) c hc'
   ·rcases cx.mp hc' with hc'|hc'
    ·exact strOk_iff.mp hz c hc'
    ·exact strOk_iff.mp (h p (aw _ hp)) c hc'
theorem zpk:MtR X "str.join" (rMt X.K "join"):=by
 intro pins s σ H x xs v us Q I rx rs h;obtain⟨B,B',dx,ds,d,r1,r2,e,q⟩:=h;simp only[mtD,show("join":String)≠"get" by decide,if_true,if_false]at e;split at e
 ·rename_i z ys;split at e
  case h_2=>cases e
  rename_i ss hss;split at e
  case isFalse=>cases e
  rename_i hw;cases e;obtain⟨vl,rfl,h1⟩:=z50 r2;obtain⟨a,vs,rfl,hq,rl⟩:=z1u h1;obtain⟨u,rfl,ru⟩:=vals1 rs;cases ru;have ex:x=.str z:=r1.1;subst ex;obtain⟨t,rfl⟩:=rx;obtain⟨its,rv,pl,_⟩:=I.list hq;obtain⟨sa,ok⟩:=z6y hss rl rv;refine join_list pl.isList (by simpa using sa) (ck hw (by unfold LIM;decide)) fun t' k=>?_;rw[zej];exact⟨.str _,H,I.tok _,⟨_,rfl⟩,q _ H (Same.refl H) ⟨rfl,zaf r1.2 ok⟩⟩
 ·cases e
theorem zme {H:Hp}{B:Ad->Prop}{x:V}{dx d:D}{ds:List D}(r:Rep X.K H B x dx)(e:mtD "join" dx ds=.ok d):tyV X.K "str" x H:=by
 simp only[mtD,show("join":String)≠"get" by decide,if_true,if_false]at e;split at e
 ·have ex:x=.str _:=r.1;subst ex;exact rfl
 ·cases e
end
section
variable {X:Cx}{o:Expr}{fa:Rho->Res GD}
def rUp:V->List V->Hp->VK->Prop:=fun x xs H Q=>∃z,x=.str z/\xs=[]/\(z.cps.toList.all fun c=>decide (97<=c)&&decide (c<=122))=true/\z.length<=LIM/\Q (.str ⟨(z.cps.toList.map (· -32)).toArray⟩) H
theorem zo6:∀c:Fin 26,Unicode.upperOf (97+c.val)=[97+c.val-32]:=by decide+kernel
theorem zsy {c:Nat}(h0:97<=c)(h1:c<=122):Unicode.upperOf c=[c-32]:=by
 have h:=zo6 ⟨c-97,by omega⟩;have e:97+(c-97)=c:=by omega
 dsimp only at h
 rw[e]at h;exact h
theorem zck:∀{l:List Nat},(l.all fun c=>decide (97<=c)&&decide (c<=122))=true->(l.map fun c=>Unicode.upperOf c).flatten=l.map (· -32)
 | [],_=>rfl
 |c::l,h=>by rw[cn,ba,ba,decide_eq_true_iff,decide_eq_true_iff]at h;rw[ae,fm,zck h.2,zsy h.1.1 h.1.2];rfl
theorem z93 {α β:Type}(g:α->β):∀l:List α,l.mapIdx (fun _ c=>g c)=l.map g
 | []=>rfl
 |a::l=>by rw[List.mapIdx_cons,z93 g l,ae]
theorem z7t {z:Str}(h:(z.cps.toList.all fun c=>decide (97<=c)&&decide (c<=122))=true):placed z (fun _ c=>Unicode.upperOf c)=(z.cps.toList.map (· -32)).toArray:=by apply Array.ext';rw[<-zck h];unfold placed;rw[Array.toList_flatten,Array.toList_mapIdx,z93,di];simp[Function.comp_def]
theorem m_up:MtR X "str.upper" rUp:=by
 intro pins s σ H x xs v us Q I rx rs h;obtain⟨z,rfl,rfl,hz,hl,q⟩:=h;obtain⟨t,rfl⟩:=rx;cases rs;have hlen:(z.cps.toList.map (· -32)).toArray.size=z.length:=by rw[aq,am,bp];rfl
 have hL:LIM=1000000:=rfl;have hs:=cq;have g:=gives_str_upper z t (by rw[z7t hz,hlen];exact um (show ¬z.length>bf by omega));rw[z7t hz]at g;refine ud F.slot_str_upper (jq _ _ _) F.entry_str_upper (F.args_str_upper_1 _) g ⟨?_,?_⟩
 ·show(z.cps.toList.map (· -32)).toArray.size<=bf;rw[hlen];omega
 ·exact⟨.str _,H,I.tok _,⟨_,rfl⟩,q⟩
theorem zv4 {apos cpos:Pos}(ho:PE X o (tD X.K fa))(hns:z2q o=true)(hline:(apos.endLine==cpos.line)=true):
  PE X (.Call (.Attribute o "upper" apos) [] [] cpos) (tD X.K fun ρ=>fa ρ>>=fun x=>upD x.2>>=fun d=>.ok (.fr,d)):=by
 refine PE.imp (zqr PySem.F.plainAttrs_str PySem.F.slot_str_upper PySem.F.type_str_upper m_up ho (z3f hns) hline) fun σ H Q zz=>?_;obtain⟨ρ,F,z,so,e,q⟩:=zz;obtain⟨x,e1,e⟩:=Res.bind_ok e;obtain⟨d,e3,e⟩:=Res.bind_ok e;cases e;refine⟨ρ,F,x,so,e1,fun v H1 s1 rv=>?_⟩;obtain⟨g,dx⟩:=x;cases dx with
 |str w=>
  have e3:(if _ then _ else _)=_:=e3;split at e3
  ·rename_i hc;cases e3;rw[ba,decide_eq_true_iff]at hc;have ev:v=.str w:=rv.1;subst ev;refine⟨rfl,w,rfl,rfl,hc.1,hc.2,q _ H1 s1 ⟨rfl,strOk_iff.mpr fun c hcm=>?_⟩⟩;have hcm':c∈w.cps.toList.map (· -32):=hcm;obtain⟨b,hb,rfl⟩:=bq.mp hcm';have hb':=ax.mp hc.1 b hb;rw[ba,decide_eq_true_iff,decide_eq_true_iff]at hb';show b-32<0x110000;omega
  ·cases e3
 |_=>cases e3
end
theorem z8k {y:Str}{c:Nat}(h:oneC y=some c):y=⟨#[c]⟩:=by
 obtain⟨⟨l⟩⟩:=y;unfold oneC at h
 match l,h with
 | [d],h=>cases h;rfl
theorem z9m (c:Nat):∀(p r:List Nat),c∉p->splC c (p++c::r)=p::splC c r
 | [],r,_=>by show splC c (c::r)=_;rw[splC,if_pos rfl]
 |a::p,r,h=>by rw[ao,not_or]at h;show splC c (a::(p++c::r))=_;rw[splC,if_neg (fun e=>h.1 e.symm),z9m c p r h.2]
theorem z8w (c:Nat):∀(p:List Nat),c∉p->splC c p=[p]
 | [],_=>rfl
 |a::p,h=>by rw[ao,not_or]at h;rw[splC,if_neg (fun e=>h.1 e.symm),z8w c p h.2]
theorem z77 (c:Nat):∀(ps:List Str),ps≠ []->(∀p∈ps,c∉p.cps.toList)->splC c (Str.join ⟨#[c]⟩ ps).cps.toList=ps.map fun p=>p.cps.toList
 | [],h,_=>absurd rfl h
 | [p],_,h=>z8w c _ (h p (.head _))
 |p::q::r,_,h=>by
  have e:(Str.join ⟨#[c]⟩ (p::q::r)).cps.toList=p.cps.toList++c::(Str.join ⟨#[c]⟩ (q::r)).cps.toList:=by show((p.cps++#[c])++(Str.join ⟨#[c]⟩ (q::r)).cps).toList=_;simp
  rw[e,z9m c _ _ (h p (.head _)),z77 c (q::r) (fun z=>nomatch z) fun z hz=>h z (.tail _ hz)];rfl
theorem z5i (x:Str)(c:Nat):(Txt.split x ⟨#[c]⟩).map (fun p=>p.cps.toList)=splC c x.cps.toList:=by have h:=z77 c (Txt.split x ⟨#[c]⟩) (fun z=>by have:=split_pos x ⟨#[c]⟩;rw[z]at this;exact absurd this (by decide)) (StrLaws.split_free x c);rw[StrLaws.join_split]at h;exact h.symm
theorem z3a (x:Str):toS x.cps.toList=x:=by obtain⟨a⟩:=x;show(⟨a.toList.toArray⟩:Str)=_;rw[g9]
theorem zae (x:Str)(c:Nat):(splC c x.cps.toList).map (fun l=>PyData.str (toS l))=(Txt.split x ⟨#[c]⟩).map .str:=by rw[<-z5i,di];exact jb fun p _=>by show PyData.str (toS p.cps.toList)=_;rw[z3a]
theorem z5v {c:Nat}:∀{l:List Nat} {i:Nat},l[i]?=some c->(∀k,k<i->l[k]?≠some c)->l.takeWhile (· != c)=l.take i/\(l.dropWhile (· != c)).drop 1=l.drop (i+1)/\l.contains c=true/\l.findIdx? (· ==c)=some i
 | [],i,h,_=>by simp at h
 |a::l,0,h,_=>by simp only[jz,l6]at h;subst h;refine⟨by simp,by simp,by simp,?_⟩;rw[lq,beq_self_eq_true];rfl
 |a::l,i+1,h,hn=>by
  have h0:a≠c:=fun e=>hn 0 (by omega) (by rw[e];rfl);have h1:=z5v (l:=l) (i:=i) (by simpa using h) fun k hk=>by have:=hn (k+1) (by omega);simpa using this
  obtain⟨i1,i2,i3,i4⟩:=h1;have hb:(a != c)=true:=by simpa using h0
  have hb2:(a==c)=false:=by simpa using h0
  refine⟨?_,?_,?_,?_⟩
  ·rw[fq,if_pos hb,i1];rfl
  ·rw[gf,if_pos hb,i2];rfl
  ·rw[gk,i3,nq]
  ·rw[lq,hb2,i4];rfl
theorem zn6 {c:Nat}:∀{l:List Nat},c∉l->l.takeWhile (· != c)=l/\l.dropWhile (· != c)=[]
 | [],_=>⟨rfl,rfl⟩
 |a::l,h=>by
  rw[ao,not_or]at h;have hb:(a != c)=true:=by have:a≠c:=fun e=>h.1 e.symm;simpa using this
  obtain⟨i1,i2⟩:=zn6 h.2;exact⟨by rw[fq,if_pos hb,i1],by rw[gf,if_pos hb,i2]⟩
theorem zdt {c:Nat}{l:List Nat}(h:∀i:Nat,l[i]?≠some c):l.takeWhile (· != c)=l/\(l.dropWhile (· != c)).drop 1=[]/\l.contains c=false/\l.findIdx? (· ==c)=none:=by
 have hm:c∉l:=fun z=>by obtain⟨i,hi⟩:=List.getElem?_of_mem z;exact h i hi
 obtain⟨i1,i2⟩:=zn6 hm;refine⟨i1,by rw[i2];rfl,by simpa using hm,List.findIdx?_eq_none_iff.mpr fun a ha=>?_⟩;have:a≠c:=fun e=>hm (e▸ha);simpa using this
theorem z9p (x:Str)(c:Nat):(b7 x ⟨#[c]⟩ 0 x.length 1=[]/\∀i:Nat,x.cps.toList[i]?≠some c)\/∃(i:Nat) (r:List Nat),b7 x ⟨#[c]⟩ 0 x.length 1=i::r/\x.cps.toList[i]?=some c/\∀k:Nat,k<i->x.cps.toList[k]?≠some c:=by
 rcases StrLaws.occ_head x ⟨#[c]⟩ 1 (ah 1)with⟨h0,hn⟩|⟨i,r,h0,hi,hn⟩
 ·exact .inl ⟨h0,fun i hi=>hn i ((StrLaws.subAt_one x c i).mpr hi)⟩
 ·exact .inr ⟨i,r,h0,(StrLaws.subAt_one x c i).mp hi,fun k hk hh=>hn k hk ((StrLaws.subAt_one x c k).mpr hh)⟩
theorem z47 {l m:List Nat}(h:∀c∈m,c∈l)(ok:PyData.strOk ⟨l.toArray⟩=true):PyData.strOk (toS m)=true:=
 strOk_iff.mpr fun c hc=>strOk_iff.mp ok c (by have hc':c∈m:=by simpa[toS]using hc
                                               simpa using h c hc')
theorem z6f:PyData.strOk Str.empty=true:=strOk_iff.mpr fun c hc=>by cases(show c∈([]:List Nat)from hc)
theorem zbs {x:Str}(ok:PyData.strOk x=true):PyData.strOk ⟨x.cps.toList.toArray⟩=true:=by rw[g9];exact ok
theorem z43 (c:Nat):∀(l p:List Nat),p∈splC c l->∀d∈p,d∈l
 | [],p,h,d,hd=>by rw[cf.mp h]at hd;exact hd
 |a::l,p,h,d,hd=>by
  rw[splC]at h;split at h
  ·rcases ao.mp h with rfl|h
   ·cases hd
   ·exact .tail _ (z43 c l p h d hd)
  ·cases e:splC c l with
   |nil=>rw[e]at h;rw[cf.mp h]at hd;rw[cf.mp hd];exact .head _
   |cons q t=>
    rw[e]at h;rcases ao.mp h with rfl|h
    ·rcases ao.mp hd with rfl|hd
     ·exact .head _
     ·exact .tail _ (z43 c l q (by rw[e];exact .head _) d hd)
    ·exact .tail _ (z43 c l p (by rw[e];exact .tail _ h) d hd)
section
variable {X:Cx}{o e:Expr}{fa fb:Rho->Res GD}
def rSp (K:W.Frag):V->List V->Hp->VK->Prop:=fun x xs H Q=>∃z c,x=.str z/\xs=[.str ⟨#[c]⟩]/\PyData.strOk z=true/\z.length<=LIM/\∀w H',Same H H'->Rep K H' (nw H) w (.list ((splC c z.cps.toList).map fun l=>.str (toS l)))->Q w H'
theorem z4e:∀(l:List (Str×Tok)),Vals ((l.map (·.1)).map V.str) (strValues l)
 | []=>.nil
 |p::l=>.cons ⟨_,rfl⟩ (z4e l)
theorem z39 {K:W.Frag}{H:Hp}{B:Ad->Prop}:∀(l:List Str),(∀p∈l,PyData.strOk p=true)->Reps K H B (l.map V.str) (l.map PyData.str)
 | [],_=>rfl
 |p::l,h=>⟨_,_,rfl,⟨rfl,h p (.head _)⟩,z39 l fun q hq=>h q (.tail _ hq)⟩
theorem zvd:MtR X "str.split" (rSp X.K):=by
 intro pins s σ H x xs v us Q I rx rs h;obtain⟨z,c,rfl,rfl,ok,hl,q⟩:=h;obtain⟨t,rfl⟩:=rx;obtain⟨u,rfl,t2,rfl⟩:=vals1 rs;have hL:LIM=1000000:=rfl;have hs:=cq
 have hok:∀p∈Txt.split z ⟨#[c]⟩,PyData.strOk p=true:=fun p hp=>by
  have hp2:p.cps.toList∈splC c z.cps.toList:=by rw[<-z5i];exact bq.mpr ⟨p,hp,rfl⟩
  have:=z47 (z43 c _ _ hp2) (zbs ok);rw[z3a]at this;exact this
 have hN:=split_le z ⟨#[c]⟩;have hp:H s.heap.objs.size=none:=I.hok.fresh (ah _)
 have fin:∀(l:List (Str×Tok)) (tk:Nat),l.map (·.1)=Txt.split z ⟨#[c]⟩->EP X pins σ Q (.ref s.heap.objs.size) {s with toks:=tk,heap:=s.heap.push {cls:=.type "list",data:=.seq (strValues l).toArray}}:=fun l tk el=>by
  have r1:=z4e l;rw[el]at r1;refine⟨.ref _,_,I.laid (t':=tk) (o:=.lst ((Txt.split z ⟨#[c]⟩).map V.str)) (fun b ob q=>ag _ q) (ah _) ⟨?_,_,0,r1,bh _ rfl⟩,rfl,q _ _ (Same.upd hp) ?_⟩
  ·rw[am];omega
  ·rw[zae];exact z1l (B:=nw H) hp (z39 _ hok) (fun _ z=>z) hp
 have hy:((⟨#[c]⟩:Str).length==0)=false:=rfl;have hT:=jq s z t;by_cases h1:(decide (z.length<(⟨#[c]⟩:Str).length)||decide (pw z<pw ⟨#[c]⟩))=true
 ·refine jr F.slot_str_split hT F.entry_str_split (F.args_str_split_2 _ _) (meets_str_split_cannot_occur z _ t t2 h1) ?_;exact fin [(z,t)] s.toks (by show[z]=_;unfold Txt.split;rw[if_pos h1])
 have h1':=eq_false_of_ne_true h1;by_cases hf:(b7 z ⟨#[c]⟩ 0 z.length (z.length+1)).isEmpty=true
 ·refine jr F.slot_str_split hT F.entry_str_split (F.args_str_split_2 _ _) (meets_str_split_not_found z _ t t2 h1' hy hf) ?_;exact fin [(z,t)] s.toks (by show[z]=_;unfold Txt.split;rw[if_neg h1,if_pos hf])
 have hf':=eq_false_of_ne_true hf;have es:Txt.split z ⟨#[c]⟩=Builtin.Str.partsBetween z (b7 z ⟨#[c]⟩ 0 z.length (z.length+1)) (⟨#[c]⟩:Str).length:=by unfold Txt.split;rw[if_neg h1,if_neg hf]
 refine jr F.slot_str_split hT F.entry_str_split (F.args_str_split_2 _ _) (meets_str_split_sep z _ t t2 h1' hy hf' (by omega) (by rw[<-es];omega)) ?_;have:=fin (numbered s.toks (Txt.split z ⟨#[c]⟩)) (s.toks+(Txt.split z ⟨#[c]⟩).length) (numbered_texts _ _);rw[<-strsFrom_eq,es]at this;exact this
theorem zja {a b d:D}(h:splD a b=.ok d):∃x c,a=.str x/\b=.str ⟨#[c]⟩/\x.length<=LIM/\d=.list ((splC c x.cps.toList).map fun l=>.str (toS l)):=by
 cases a<;>cases b<;>try (cases h;done)
 rename_i x y;change(match oneC y with|some c=>if decide (x.length<=LIM)=true then Res.ok (PyData.list ((splC c x.cps.toList).map fun l=>.str (toS l)))else .no|none=>.no)=_ at h;cases hc:oneC y with
 |none=>rw[hc]at h;cases h
 |some c=>
  rw[hc]at h
  dsimp only at h
  split at h
  ·rename_i hl;cases h;exact⟨x,c,rfl,by rw[z8k hc],uk hl,rfl⟩
  ·cases h
theorem zu4 {apos cpos:Pos}(ho:PE X o (tD X.K fa))(he:PE X e (tD X.K fb))(hns:z2q o=true)(hst:isStar e=false)(hline:(apos.endLine==cpos.line)=true):
  PE X (.Call (.Attribute o "split" apos) [e] [] cpos) (tD X.K fun ρ=>fa ρ>>=fun x=>fb ρ>>=fun y=>splD x.2 y.2>>=fun d=>.ok (.fr,d)):=by
 have hsa:([e].all fun e=>!isStar e)=true:=by simp[hst]
 refine PE.imp (zav PySem.F.plainAttrs_str PySem.F.slot_str_split PySem.F.type_str_split zvd ho (z4m he z3v (z0b hst)) (z3f hns) (z7l hsa (by show 1<20;omega)) hline (z0b hst) rfl) fun σ H Q zz=>?_;obtain⟨ρ,F,z,so,e,q⟩:=zz;obtain⟨x,e1,e⟩:=Res.bind_ok e;obtain⟨y,e2,e⟩:=Res.bind_ok e;obtain⟨d,e3,e⟩:=Res.bind_ok e;cases e;obtain⟨gx,dx⟩:=x;obtain⟨gy,dy⟩:=y;obtain⟨zx,c,rfl,rfl,hl,rfl⟩:=zja e3;refine⟨ρ,F,(gx,.str zx),so,e1,fun v H1 s1 rv=>?_⟩;have ev:v=.str zx:=rv.1;subst ev;refine⟨rfl,ρ,F,(gy,.str ⟨#[c]⟩),so.same s1,e2,fun w H2 s2 rw'=>?_⟩;have ew:w=.str ⟨#[c]⟩:=rw'.1;subst ew;exact⟨zx,c,rfl,rfl,rv.2,hl,fun w H3 s3 r3=>q w H3 ((s1.trans s2).trans s3) (r3.weak fun a ha=>nw.back (s1.trans s2) ha)⟩
theorem zup:MtR X "str.partition" (rMt X.K "partition"):=by
 intro pins s σ H x xs v us Q I rx rs h;obtain⟨B,B',dx,ds,d,r1,r2,e,q⟩:=h;simp only[mtD,show("partition":String)≠"get" by decide,show("partition":String)≠"join" by decide,if_true,if_false]at e;split at e
 ·rename_i z y;unfold parD at e;split at e
  ·rename_i c hc;split at e
   ·rename_i hl;cases e;have ey:=z8k hc;subst ey;have hl:=uk hl;have ex:x=.str z:=r1.1;subst ex;obtain⟨t,rfl⟩:=rx;obtain⟨vy,rfl,h1⟩:=z50 r2;have ev:vy=.str ⟨#[c]⟩:=h1.1;subst ev;obtain⟨u,rfl,t2,rfl⟩:=vals1 rs;have hL:LIM=1000000:=rfl;have hs:=cq;have hp:H s.heap.objs.size=none:=I.hok.fresh (ah _);have ok:=zbs r1.2;refine jr F.slot_str_partition (jq _ _ _) F.entry_str_partition (F.args_str_partition_2 _ _) (meets_str_partition z _ t t2 rfl (by omega)) ?_;have fin:∀(a b c':Str) (ta tb tc:Tok) (tk:Nat),(∀p∈ [a,b,c'],PyData.strOk p=true)->Rep X.K (upd H s.heap.objs.size (.tup ([a,b,c'].map V.str))) (fun a=>nw H a\/B a\/B' a) (.ref s.heap.objs.size) (.tuple [.str (toS (z.cps.toList.takeWhile (· != c))),.str (if z.cps.toList.contains c then(⟨#[c]⟩:Str)else ""),.str (toS ((z.cps.toList.dropWhile (· != c)).drop 1))])->EP X pins σ Q (.ref s.heap.objs.size) {s with toks:=tk,heap:=s.heap.push {cls:=.type "tuple",data:=.seq [.str a ta,.str b tb,.str c' tc].toArray}}:=fun a b c' ta tb tc tk hok rr=>by have r1:=z4e [(a,ta),(b,tb),(c',tc)];exact⟨.ref _,_,I.laid (t':=tk) (o:=.tup ([a,b,c'].map V.str)) (fun b ob q=>ag _ q) (ah _) ⟨by show 3<=bf;omega,_,r1,TupN.new _ _⟩,rfl,q _ _ (Same.upd hp) rr⟩
    rcases z9p z c with⟨h0,hn⟩|⟨i,r,h0,hi,hn⟩
    ·rw[h0];obtain⟨i1,i2,i3,i4⟩:=zdt hn;refine fin z Str.empty Str.empty t s.toks s.toks (s.toks+1) ?_ ?_
     ·intro p hp;simp only[ao,cr,or_false]at hp;rcases hp with rfl|rfl|rfl
      ·exact r1.2
      ·exact z6f
      ·exact z6f
     ·rw[i1,i2,i3,z3a]
      exact z2h (ds:=[z,Str.empty,Str.empty].map .str) hp (z39 (B:=fun _=>False) _ fun p hp=>by
       simp only[ao,cr,or_false]at hp;rcases hp with rfl|rfl|rfl
       ·exact r1.2
       ·exact z6f
       ·exact z6f) (fun _ z=>z.elim)
    ·rw[h0];obtain⟨i1,i2,i3,i4⟩:=z5v hi hn;have e1:cz z 0 i=toS (z.cps.toList.takeWhile (· != c)):=by rw[<-z3a (cz z 0 i),StrLaws.strSub_toList,i1];rfl
     have e2:cz z (i+(⟨#[c]⟩:Str).length) z.length=toS ((z.cps.toList.dropWhile (· != c)).drop 1):=by rw[<-z3a (cz z _ _),StrLaws.strSub_toList,i2];show toS ((z.cps.toList.drop (i+1)).take (z.length-(i+1)))=_;rw[j8];rw[dq,bp];exact ah _
     have ko:∀p∈[cz z 0 i,⟨#[c]⟩,cz z (i+(⟨#[c]⟩:Str).length) z.length],PyData.strOk p=true:=by
      intro p hp;simp only[ao,cr,or_false]at hp;rcases hp with rfl|rfl|rfl
      ·rw[e1];exact z47 (fun d hd=>(nr _).mem hd) ok
      ·exact h1.2
      ·rw[e2];exact z47 (fun d hd=>(nv _).mem (kt hd)) ok
     refine fin _ _ _ s.toks t2 (s.toks+1) (s.toks+1+1) ko ?_;have hh:=z2h (K:=X.K) (B':=fun a=>nw H a\/B a\/B' a) (ds:=[cz z 0 i,⟨#[c]⟩,cz z (i+(⟨#[c]⟩:Str).length) z.length].map .str) hp (z39 (B:=fun _=>False) _ ko) (fun _ z=>z.elim);rw[i3,if_pos rfl];rw[show[cz z 0 i,⟨#[c]⟩,cz z (i+(⟨#[c]⟩:Str).length) z.length].map PyData.str=[.str (cz z 0 i),.str ⟨#[c]⟩,.str (cz z (i+(⟨#[c]⟩:Str).length) z.length)]from rfl,e1,e2]at hh;rw[e1,e2];exact hh
   ·cases e
  ·cases e
 ·cases e
theorem zpy {H:Hp}{B:Ad->Prop}{x:V}{dx d:D}{ds:List D}(r:Rep X.K H B x dx)(e:mtD "partition" dx ds=.ok d):tyV X.K "str" x H:=by
 simp only[mtD,show("partition":String)≠"get" by decide,show("partition":String)≠"join" by decide,if_true,if_false]at e;split at e
 ·have ex:x=.str _:=r.1;subst ex;exact rfl
 ·cases e
theorem zve:MtR X "str.find" (rMt X.K "find"):=by
 intro pins s σ H x xs v us Q I rx rs h;obtain⟨B,B',dx,ds,d,r1,r2,e,q⟩:=h;simp only[mtD,show("find":String)≠"get" by decide,show("find":String)≠"join" by decide,show("find":String)≠"partition" by decide,if_true,if_false]at e;split at e
 ·rename_i z y;unfold fndD at e;split at e
  ·rename_i c hc;cases e;have ey:=z8k hc;subst ey;have ex:x=.str z:=r1.1;subst ex;obtain⟨t,rfl⟩:=rx;obtain⟨vy,rfl,h1⟩:=z50 r2;have ev:vy=.str ⟨#[c]⟩:=h1.1;subst ev;obtain⟨u,rfl,t2,rfl⟩:=vals1 rs;have g:=gives_str_find z ⟨#[c]⟩ t t2;rcases z9p z c with⟨h0,hn⟩|⟨i,r,h0,hi,hn⟩
   ·rw[h0]at g;rw[(zdt hn).2.2.2]at q;exact ud F.slot_str_find (jq _ _ _) F.entry_str_find (F.args_str_find_2 _ _) g ⟨.int _,H,I.tok _,⟨_,rfl⟩,q _ H (Same.refl H) rfl⟩
   ·rw[h0]at g;rw[(z5v hi hn).2.2.2]at q;exact ud F.slot_str_find (jq _ _ _) F.entry_str_find (F.args_str_find_2 _ _) g ⟨.int _,H,I.tok _,⟨_,rfl⟩,q _ H (Same.refl H) rfl⟩
  ·cases e
 ·cases e
theorem zna {H:Hp}{B:Ad->Prop}{x:V}{dx d:D}{ds:List D}(r:Rep X.K H B x dx)(e:mtD "find" dx ds=.ok d):tyV X.K "str" x H:=by
 simp only[mtD,show("find":String)≠"get" by decide,show("find":String)≠"join" by decide,show("find":String)≠"partition" by decide,if_true,if_false]at e;split at e
 ·have ex:x=.str _:=r.1;subst ex;exact rfl
 ·cases e
theorem zd3:CallR X (.type "int") (fun xs H Q=>∃x,xs=[.str x]/\figs x.cps.toList=true/\x.length<=600/\Q (.int (digV x.cps.toList:Int)) H):=by
 intro pins s σ H xs us Q I r h;obtain⟨x,rfl,hf,hl,q⟩:=h;obtain⟨u,rfl,t,rfl⟩:=vals1 r;unfold figs at hf;rw[ba]at hf;have hd:NumText.AllDigits x.cps.toList:=fun c hc=>by have:=ax.mp hf.2 c hc;rw[ba,decide_eq_true_iff,decide_eq_true_iff]at this;exact this
 have hn:=intText_digits hd (fun z=>by rw[z]at hf;cases hf.1) (by omega);exact W.KIN.call_text hn (by omega) ⟨.int _,H,I.tok _,⟨_,rfl⟩,q⟩
end
def Frm (F:Fm)(H:Hp)(F':Fm)(H':Hp):Prop:=∀a o,H a=some o->F.O a=none->H' a=some o/\F'.O a=none
theorem Frm.refl {F:Fm}{H:Hp}:Frm F H F H:=fun _ _ e o=>⟨e,o⟩
theorem Frm.trans {F F' F'':Fm}{H H' H'':Hp}(a:Frm F H F' H')(b:Frm F' H' F'' H''):Frm F H F'' H'':=fun x o e n=>by obtain⟨e1,n1⟩:=a x o e n;exact b x o e1 n1
theorem Frm.same {F:Fm}{H H':Hp}(s:Same H H'):Frm F H F H':=fun a o e n=>⟨s a o e,n⟩
def Run (F F':Fm):Prop:=Same F.H0 F'.H0/\F'.V=F.V/\F'.z=F.z
theorem Run.refl {F:Fm}:Run F F:=⟨fun _ _ e=>e,rfl,rfl⟩
theorem Run.trans {F F' F'':Fm}(a:Run F F')(b:Run F' F''):Run F F'':=⟨fun x o e=>b.1 x o (a.1 x o e),b.2.1.trans a.2.1,b.2.2.trans a.2.2⟩
theorem Run.of {F F':Fm}(h:F'.H0=F.H0)(v:F'.V=F.V)(z:F'.z=F.z):Run F F':=⟨fun _ _ e=>by rw[h];exact e,v,z⟩
def BR (F:Fm):G->Ad->Prop
 |.fr=>fun a=>match a with|some a=>F.H0 a=none|none=>False
 |.od=>visA F
 |.al=>visA F
 |.nu=>fun a=>match a with|some a=>F.H0 a=none|none=>False
def z5u (K:W.Frag)(F:Fm)(H:Hp)(D:Ends):Out->Prop
 |.nx ρ'=>∀σ' H' F',StOk K F' H' σ' ρ'->Run F F'->Frm F H F' H'->D.nx σ' H'
 |.rt g d=>∀v H',(∀a o,F.H0 a=some o->H' a=some o)->Rep K H' (BR F g) v d->D.rt v H'
def tDS (K:W.Frag)(f:Rho->Res Out):TS:=fun D σ H=>∃ρ F out,StOk K F H σ ρ/\f ρ=.ok out/\z5u K F H D out
theorem none_of {H H':Hp}{a:Addr}(s:Same H H')(h:H' a=none):H a=none:=by
 cases e:H a with
 |none=>rfl
 |some o=>rw[s a o e]at h;cases h
theorem BR.run {F F':Fm}(r:Run F F'){g:G}{a:Ad}(h:BR F' g a):BR F g a:=by obtain⟨r1,r2,r3⟩:=r;cases g<;>cases a<;>first|exact h|(exact none_of r1 h)|(have h':F'.V _:=h;rw[r2]at h';exact h')|(have h':F'.z:=h;rw[r3]at h';exact h')
theorem z5u.back {K:W.Frag}{F F':Fm}{H H':Hp}{D:Ends}{out:Out}(r:Run F F')(f:Frm F H F' H')(h:z5u K F H D out):z5u K F' H' D out:=by
 cases out with
 |nx ρ'=>exact fun σ'' H'' F'' so r2 f2=>h σ'' H'' F'' so (r.trans r2) (f.trans f2)
 |rt g d=>exact fun v H'' k rv=>h v H'' (fun a o e=>k a o (r.1 a o e)) (rv.weak fun _ b=>b.run r)
section
variable {X:Cx}{tg a b c e:Expr}{es:List Expr}{fa fb fc:Rho->Res GD}{pos:Pos}{st:Stmt}{rest A Bs:List Stmt}{fs gs:Rho->Res Out}
theorem zro:PSs X [] (tDS X.K fun ρ=>.ok (.nx ρ)):=PSs.imp zix fun D σ H ⟨ρ,F,out,so,e,q⟩=>by cases e;exact q σ H F so Run.refl Frm.refl
theorem zvj (h1:PS X st (tDS X.K fs))(h2:PSs X rest (tDS X.K gs)):PSs X (st::rest) (tDS X.K fun ρ=>outB (fs ρ) gs):=
 PSs.imp (z9g h1 h2) fun D σ H zz=>by
  obtain⟨ρ,F,out,so,e,q⟩:=zz;have e:outB (fs ρ) gs=.ok out:=e;cases e1:fs ρ with
  |no=>rw[e1]at e;cases e
  |exc x=>rw[e1]at e;cases e
  |ok o1=>
   rw[e1]at e;cases o1 with
   |nx ρ1=>exact⟨ρ,F,.nx ρ1,so,e1,fun σ' H' F' so' r f=>⟨ρ1,F',out,so',e,q.back r f⟩⟩
   |rt g d=>cases e;exact⟨ρ,F,.rt g d,so,e1,q⟩
theorem s_if {ft:Rho->Res Bool}(hc:PT X c (tDT X.K ft))(ha:PSs X A (tDS X.K fs))(hb:PSs X Bs (tDS X.K gs)):PS X (.If c A Bs pos) (tDS X.K fun ρ=>ft ρ>>=fun k=>if k then fs ρ else gs ρ):=
 PS.imp (znd hc ha hb) fun D σ H zz=>by
  obtain⟨ρ,F,out,so,e,q⟩:=zz;obtain⟨k,e1,e⟩:=Res.bind_ok e;refine⟨ρ,F,k,so,e1,fun H1 s1=>?_⟩;cases k with
  |true=>exact iteT ⟨ρ,F,out,so.same s1,e,q.back Run.refl (Frm.same s1)⟩
  |false=>exact iteF ⟨ρ,F,out,so.same s1,e,q.back Run.refl (Frm.same s1)⟩
theorem zmu {K:W.Frag}{F:Fm}{H H':Hp}{g:G}{v:V}{d:D}(so:∀a o,F.H0 a=some o->H a=some o)(hv:∀a,H a=none->F.V a)(r:Rep K H' (BG F H g) v d):Rep K H' (BR F (rtG g)) v d:=by
 refine r.weak fun a b=>?_;cases g with
 |fr=>
  cases a with
  |none=>exact b
  |some a=>show F.H0 a=none;exact Same.none so b
 |od=>exact oldA.vis b
 |al=>exact b
 |nu=>
  cases a with
  |none=>exact b.elim id id
  |some a=>exact b.elim (fun b=>Same.none so b) fun b=>b.2.1
theorem zub (ha:PE X e (tD X.K fa)):PS X (.Return (some e) pos) (tDS X.K fun ρ=>fa ρ>>=fun x=>.ok (.rt (rtG x.1) x.2)):=PS.imp (ze2 ha) fun D σ H zz=>by obtain⟨ρ,F,out,so,e,q⟩:=zz;obtain⟨x,e1,e⟩:=Res.bind_ok e;cases e;exact⟨ρ,F,x,so,e1,fun v H1 s1 rv=>q v H1 (fun a o e=>s1 a o (so.ext a o e)) (zmu so.ext so.vis rv)⟩
theorem Slot.ret {K:W.Frag}{F:Fm}{H:Hp}{i:Nat}{g:G}{v:V}{d:D}(so:∀a i,F.O a=some i->F.H0 a=none/\F.V a)(h:Slot K F H i g v d):Rep K H (BR F (if imm d then .fr else rtG g)) v d:=by
 by_cases hi:imm d=true
 ·rw[if_pos hi];exact Rep.immB d hi (h.rep fun a i e=>(so a i e).2)
 ·rw[if_neg hi];cases g with
  |fr=>
   obtain⟨p,e,o,h⟩:=h
   have hb:∀a,Bin F a->BR F .fr a:=fun a b=>by
    cases a with
    |none=>exact b
    |some a=>exact b.2.1
   rcases h with⟨vs,ds,rfl,e2,r⟩|⟨vs,ds,rfl,e2,r⟩
   ·exact⟨p,vs,e,.inl ⟨e2,(so _ _ o).1⟩,r.weak hb⟩
   ·exact⟨p,vs,e,e2,(so _ _ o).1,REs.same (fun _ _ e=>e) hb r⟩
  |od=>exact Rep.weak (fun _ b=>b.vis) h
  |al=>exact h
  |nu=>
   refine Rep.weak (fun a b=>?_) h;cases a with
   |none=>exact b
   |some a=>exact b.2.1
theorem zig {i:Nat}{x:Str}{p:Pos}(hN:X.N[i]?=some x)(hv:Vis X.env.scope x)(hd:(x==("__debug__":Str))=false)(hcd:(x==("__classdict__":Str))=false):
  PS X (.Return (some (.Name x p)) pos) (tDS X.K fun ρ=>match ρ[i]? with|some (some (g,d))=>.ok (.rt (if imm d then .fr else rtG g) d)|_=>.no):=
 PS.imp (ze2 (z3t hN hv hd hcd)) fun D σ H zz=>by
  obtain⟨ρ,F,out,so,e,q⟩:=zz;have e:(match ρ[i]? with|some (some (g,d))=>Res.ok (Out.rt (if imm d then .fr else rtG g) d)|_=>.no)=.ok out:=e;cases e1:ρ[i]? with
  |none=>rw[e1]at e;cases e
  |some o=>
   rw[e1]at e;cases o with
   |none=>cases e
   |some gd=>obtain⟨g,d⟩:=gd;cases e;obtain⟨v,h1,h2⟩:=so.sl i g d e1;exact⟨v,h1,q v H so.ext (h2.ret fun a i e=>⟨(so.own a i e).1,(so.own a i e).2.1⟩)⟩
theorem REs.immB {K:W.Frag}{H:Hp}{B B':Ad->Prop}:∀{kvs:List (Key×V)} (es:Ents),immE es=true->REs K H B kvs es->REs K H B' kvs es
 |kvs,[],_,r=>r
 |kvs,(kd,d)::es,i,r=>by unfold immE at i;rw[cn,ak]at i;obtain⟨k,v,t,e,e2,ok,h,q⟩:=r;exact⟨k,v,t,e,e2,ok,Rep.immB d i.1 h,REs.immB es i.2 q⟩
theorem StOk.nwBin {K:W.Frag}{F:Fm}{H:Hp}{σ:L2.St}{ρ:Rho}(so:StOk K F H σ ρ){a:Ad}(h:nw H a):Bin F a:=by
 cases a with
 |none=>exact h
 |some a=>
  have h:H a=none:=h;refine⟨?_,Same.none so.ext h,so.vis a h⟩;cases e1:F.O a with
  |none=>rfl
  |some j=>obtain⟨_,_,z⟩:=so.own a j e1;rcases z with⟨xs,z⟩|⟨xs,z⟩<;>rw[h]at z<;>cases z
theorem StOk.setN {K:W.Frag}{F:Fm}{H:Hp}{σ:L2.St}{ρ:Rho}{d:D}{v:V}{i:Nat}(so:StOk K F H σ ρ)(r:Rep K H (Bin F) v d):StOk K (F.drop i) H (σ.set i (some v)) (ρ.set i (some (.nu,d))):=by
 have z:=so.setI (i:=i) (x:=(.al,d)) (v:=v) (Rep.weak (fun _ b=>Bin.vis b) r);refine⟨z.ext,z.vis,z.own,by rw[ci,ci];exact so.len,fun j g d' e=>?_⟩;by_cases hj:i=j
 ·subst hj;rw[du]at e;simp only[if_true]at e;split at e
  ·rename_i hl;cases e;exact⟨v,by rw[du];simp[so.len,hl],Rep.weak (fun _ b=>b.drop) r⟩
  ·cases e
 ·refine z.sl j g d' ?_;rw[bt hj]at e ⊢;exact e
def Fm.take (F:Fm)(i:Nat)(p:Addr):Fm:={F with O:=fun a=>if a=p then some i else if F.O a=some i then none else F.O a}
theorem Frm.drop {F:Fm}{H H':Hp}{i:Nat}(s:Same H H'):Frm F H (F.drop i) H':=fun a o e n=>⟨s a o e,Fm.drop_none n⟩
theorem StOk.setA {K:W.Frag}{F:Fm}{H H1:Hp}{σ:L2.St}{ρ:Rho}{x:GD}{v:V}{i:Nat}(so:StOk K F H σ ρ)(s1:Same H H1)(r:Rep K H1 (BG F H x.1) v x.2):
  ∃F',StOk K F' H1 (σ.set i (some v)) (ρ.set i (some (z1s x)))/\Run F F'/\Frm F H F' H1:=by
 have so1:=so.same s1;obtain⟨g,d⟩:=x
 have plain:z1s (g,d)=z52 (if imm d then .al else rdG g,d)->∃F',StOk K F' H1 (σ.set i (some v)) (ρ.set i (some (z1s (g,d))))/\Run F F'/\Frm F H F' H1:=fun e=>by
  rw[e];refine⟨F.drop i,so1.setI ?_,Run.of rfl rfl rfl,Frm.drop s1⟩;show Rep K H1 (BI F (if imm d then .al else rdG g)) v d;by_cases hi:imm d=true
  ·rw[if_pos hi];exact Rep.immB d hi r
  ·rw[if_neg hi];cases g with
   |fr=>exact r.weak fun _ b=>nw.vis so.vis b
   |od=>exact r
   |al=>exact r
   |nu=>exact r.weak fun _ b=>b.elim (nw.vis so.vis) Bin.vis
 have nuc:z1s (g,d)=(.nu,d)->(∀a,BG F H g a->Bin F a)->∃F',StOk K F' H1 (σ.set i (some v)) (ρ.set i (some (z1s (g,d))))/\Run F F'/\Frm F H F' H1:=fun e hb=>by rw[e];exact⟨F.drop i,so1.setN (Rep.weak hb r),Run.of rfl rfl rfl,Frm.drop s1⟩
 have own:∀(p:Addr),F.O p=none->H p=none->F.H0 p=none->F.V p->v=.ref p->z1s (g,d)=(.fr,d)->(∀F':Fm,(∀a,Bin F a\/nw H a->a≠some p->Bin F' a)->F'.O p=some i->Slot K F' H1 i .fr v d)->(((∃xs,H1 p=some (.lst xs))\/∃kvs,H1 p=some (.dK kvs)))->
   ∃F',StOk K F' H1 (σ.set i (some v)) (ρ.set i (some (z1s (g,d))))/\Run F F'/\Frm F H F' H1:=fun p hOp hHp hH0 hVp ev es hsl hobj=>by
  have hdr:∀a,a≠p->(F.take i p).O a=(F.drop i).O a:=fun a ha=>by show(if a=p then some i else _)=_;rw[if_neg ha];rfl
  have hnw:∀a,H a=none->F.O a=none:=fun a e=>by
   cases e1:F.O a with
   |none=>rfl
   |some j=>obtain⟨_,_,h⟩:=so.own a j e1;rcases h with⟨xs,h⟩|⟨xs,h⟩<;>rw[e]at h<;>cases h
  have hnw0:∀a,H a=none->F.H0 a=none:=fun a e=>Same.none so.ext e
  have hbin:∀a,Bin F a\/nw H a->a≠some p->Bin (F.take i p) a:=fun a b hne=>by
   cases a with
   |none=>exact b.elim id id
   |some a=>have hap:a≠p:=fun z=>hne (by rw[z]);have hb:F.O a=none/\F.H0 a=none/\F.V a:=b.elim id fun b=>⟨hnw a b,hnw0 a b,so.vis a b⟩;exact⟨by rw[hdr a hap];exact Fm.drop_none hb.1,hb.2⟩
  have hOp':(F.take i p).O p=some i:=by show(if p=p then some i else _)=_;rw[if_pos rfl]
  refine⟨F.take i p,⟨so1.ext,so1.vis,fun a j e=>?_,by rw[ci,ci];exact so.len,fun j g' d' e=>?_⟩,Run.of rfl rfl rfl,fun a o e n=>⟨s1 a o e,?_⟩⟩
  ·by_cases hap:a=p
   ·subst hap;exact⟨hH0,hVp,hobj⟩
   ·rw[hdr a hap]at e
    have e':F.O a=some j:=by
     have:(if F.O a=some i then none else F.O a)=some j:=e;split at this
     ·cases this
     ·exact this
    exact so1.own a j e'
  ·by_cases hj:i=j
   ·subst hj;rw[du]at e;simp only[if_true]at e;split at e
    ·rename_i hl;have e1:z1s (g,d)=(g',d'):=by simpa using e
     rw[es]at e1;cases e1;exact⟨v,by rw[du];simp[so.len,hl],hsl _ hbin hOp'⟩
    ·cases e
   ·rw[bt hj]at e ⊢;obtain⟨u,h1,h2⟩:=so.sl j g' d' e;refine⟨u,h1,?_⟩;cases g' with
    |fr=>
     obtain⟨p',e1,o1,h3⟩:=h2;have hpp:p'≠p:=fun z=>by rw[z,hOp]at o1;cases o1
     refine⟨p',e1,?_,?_⟩
     ·rw[hdr p' hpp];show(if F.O p'=some i then none else F.O p')=some j;rw[o1,if_neg (fun z=>hj (Option.some.inj z).symm)]
     ·have hb':∀(a:Ad),Bin F a/\¬nw H a->Bin (F.take i p) a:=fun a b=>hbin a (.inl b.1) fun z=>b.2 (by rw[z];exact hHp);rcases h3 with⟨vs,ds,e3,e2,r3⟩|⟨vs,ds,e3,e2,r3⟩
      ·exact .inl ⟨vs,ds,e3,s1 _ _ e2,Reps.same s1 hb' (Reps.there _ r3)⟩
      ·exact .inr ⟨vs,ds,e3,s1 _ _ e2,REs.same s1 hb' (REs.there _ r3)⟩
    |od=>exact Rep.same s1 (fun _ b=>b) h2
    |al=>exact Rep.same s1 (fun _ b=>b) h2
    |nu=>exact Rep.same s1 (fun a b=>hbin a (.inl b.1) fun z=>b.2 (by rw[z];exact hHp)) (Rep.there _ h2)
  ·have hap:a≠p:=fun z=>by rw[z,hHp]at e;cases e
   rw[hdr a hap];exact Fm.drop_none n
 have hOn:∀p,H p=none->F.O p=none:=fun p hHp=>by
  cases e1:F.O p with
  |none=>rfl
  |some j=>obtain⟨_,_,h'⟩:=so.own p j e1;rcases h' with⟨xs,h'⟩|⟨xs,h'⟩<;>rw[hHp]at h'<;>cases h'
 by_cases hi:imm d=true
 ·exact plain (by show(if imm d then _ else _)=_;rw[if_pos hi];show _=z52 (if imm d then _ else _,d);rw[if_pos hi];rfl)
 ·cases g with
  |od=>exact plain (by delta z1s;simp only[if_neg hi];rfl)
  |al=>exact plain (by delta z1s;simp only[if_neg hi];cases d<;>rfl)
  |nu=>exact nuc (by delta z1s;simp only[if_neg hi]) fun a b=>b.elim so.nwBin id
  |fr=>
   cases d with
   |none=>exact absurd rfl hi
   |bool b=>exact absurd rfl hi
   |int b=>exact absurd rfl hi
   |str b=>exact absurd rfl hi
   |tuple ds=>exact nuc (by delta z1s;simp only[if_neg hi]) fun a b=>so.nwBin b
   |list ds=>
    by_cases him:imms ds=true
    ·obtain⟨p,vs,ev,h,rs⟩:=r;rcases h with⟨h,b⟩|⟨_,b⟩
     ·have hHp:H p=none:=b;exact own p (hOn p hHp) hHp (Same.none so.ext hHp) (so.vis p hHp) ev (by delta z1s;simp only[if_neg hi,if_pos him]) (fun F' hb ho=>⟨p,ev,ho,.inl ⟨vs,ds,rfl,h,Reps.immB ds him rs⟩⟩) (.inl ⟨vs,h⟩)
     ·exact b.elim
    ·exact nuc (by delta z1s;simp only[if_neg hi,if_neg him]) fun a b=>so.nwBin b
   |dict es=>
    by_cases him:immE es=true
    ·obtain⟨p,kvs,ev,h,b,rs⟩:=r;have hHp:H p=none:=b;exact own p (hOn p hHp) hHp (Same.none so.ext hHp) (so.vis p hHp) ev (by delta z1s;simp only[if_neg hi,if_pos him]) (fun F' hb ho=>⟨p,ev,ho,.inr ⟨kvs,es,rfl,h,REs.immB es him rs⟩⟩) (.inr ⟨kvs,h⟩)
    ·exact nuc (by delta z1s;simp only[if_neg hi,if_neg him]) fun a b=>so.nwBin b
theorem zib {K:W.Frag}{i:Nat}{te:TE}(h:∀σ H Q,tD K fa σ H Q->te σ H Q)(D:Ends)(σ:L2.St)(H:Hp)(q:tDS K (fun ρ=>fa ρ>>=fun x=>.ok (.nx (ρ.set i (some (z1s x))))) D σ H):te σ H fun v H1=>D.nx (σ.set i (some v)) H1:=by obtain⟨ρ,F,out,so,e,q⟩:=q;obtain⟨x,e1,e⟩:=Res.bind_ok e;cases e;refine h σ H _ ⟨ρ,F,x,so,e1,fun v H1 s1 rv=>?_⟩;obtain⟨F',so',r,f⟩:=so.setA (i:=i) s1 rv;exact q _ H1 F' so' r f
theorem zph {i:Nat}{x:Str}{px:Pos}(hN:X.N.Nodup)(hi:X.N[i]?=some x)(hx:Loc X.env.scope x)(hf:X.fn x=true\/X.env.scope.names.lookup x=some .local)(hs:km e (some (.Name x px)) pos.line X.env=pure false)(ha:PE X e (tD X.K fa)):
  PS X (.Assign [.Name x px] e pos) (tDS X.K fun ρ=>fa ρ>>=fun x=>.ok (.nx (ρ.set i (some (z1s x))))):=
 PS.imp (zik hN hi hx ha hs hf) fun D σ H q=>zib (fun _ _ _ h=>h) D σ H q
theorem zpj {is:List Nat}{te:Expr}(hg:PG X te (tDG X.K (.tp is)))(ha:PE X e (tD X.K fa))(hs:p9 [te] e pos.line X.env=pure false)(hw:qa [te] e X.env=pure none)(h1:(eu [te] X.env).map (·.2)=[m4 te X.env]):
  PS X (.Assign [te] e pos) (tDS X.K fun ρ=>fa ρ>>=fun x=>z0x (.tp is) x ρ>>=fun ρ'=>.ok (.nx ρ')):=
 PS.imp (zqd ha hg hs hw h1) fun D σ H zz=>by obtain⟨ρ,F,out,so,e,q⟩:=zz;obtain⟨x,e1,e⟩:=Res.bind_ok e;obtain⟨ρ',e2,e⟩:=Res.bind_ok e;cases e;refine⟨ρ,F,x,so,e1,fun v H1 s1 rv=>⟨ρ,F,x,ρ',so.same s1,rv.weak fun _ b=>BI.of so.vis b,e2,fun σ' F' so' kps=>?_⟩⟩;exact q σ' H1 F' so' (Run.of kps.h0 kps.v kps.z) fun a o e n=>⟨s1 a o e,kps.o a n⟩
theorem z2y {K:W.Frag}{F:Fm}{H H1:Hp}{σ:L2.St}{ρ:Rho}{y:GD}{u:V}(so:StOk K F H σ ρ)(h:okIn y=true)(r:Rep K H1 (BG F H y.1) u y.2):Rep K H1 (Bin F) u y.2:=by
 obtain⟨g,d⟩:=y;rcases d8.mp h with hi|hg
 ·exact Rep.immB d hi r
 rcases d8.mp hg with h|h
 ·cases eq_of_beq h;exact Rep.weak (fun a b=>so.nwBin b) r
 ·cases eq_of_beq h;exact Rep.weak (fun a b=>b.elim so.nwBin id) r
theorem StOk.mutate {K:W.Frag}{F:Fm}{H:Hp}{σ:L2.St}{ρ:Rho}{i:Nat}{p:Addr}{d':D}{o':HO}(so:StOk K F H σ ρ)(hO:F.O p=some i)(hσ:σ[i]?=some (some (.ref p)))(ho':(∃xs,o'=.lst xs)\/∃kvs,o'=.dK kvs)
  (hs:Slot K F (upd H p o') i .fr (.ref p) d'):StOk K F (upd H p o') σ ((ρ.set i (some (.fr,d'))).map z2l)/\Frm F H F (upd H p o'):=by
 obtain⟨h0,hV,hobj⟩:=so.own p i hO;have hne:∀a,F.O a=none->a≠p:=fun a e z=>by rw[z,hO]at e;cases e
 have hfix:∀a o,H a=some o->Fix o->a≠p:=fun a o e f z=>by subst z;rcases hobj with⟨xs,h⟩|⟨xs,h⟩<;>rw[e]at h<;>cases h<;>exact f
 have frm:Frm F H F (upd H p o'):=fun a o e n=>⟨by rw[z02 (hne a n)];exact e,n⟩;refine⟨⟨fun a o e=>?_,fun a e=>?_,fun a j e=>?_,by rw[am,ci];exact so.len,fun j g d e=>?_⟩,frm⟩
 ·have hap:a≠p:=fun z=>by rw[z,h0]at e;cases e
  rw[z02 hap];exact so.ext a o e
 ·by_cases hap:a=p
  ·subst hap;exact hV
  ·rw[z02 hap]at e;exact so.vis a e
 ·obtain⟨x1,x2,x3⟩:=so.own a j e;refine⟨x1,x2,?_⟩;by_cases hap:a=p
  ·subst hap;rw[z08];rcases ho' with⟨xs,rfl⟩|⟨xs,rfl⟩
   ·exact .inl ⟨xs,rfl⟩
   ·exact .inr ⟨xs,rfl⟩
  ·rw[z02 hap];exact x3
 ·rw[bo]at e;by_cases hj:i=j
  ·subst hj;have hl:i<ρ.length:=by rw[<-so.len];exact(bn.mp hσ).1
   rw[du]at e;simp only[if_true,hl]at e;have e1:z2l (some (.fr,d'))=some (g,d):=by simpa using e
   cases e1;exact⟨_,hσ,hs⟩
  ·rw[bt hj]at e;cases e2:ρ[j]? with
   |none=>rw[e2]at e;cases e
   |some sl=>
    rw[e2]at e;have e3:z2l sl=some (g,d):=by simpa using e
    cases sl with
    |none=>cases e3
    |some gd=>
     obtain⟨g0,d0⟩:=gd;obtain⟨v,h1,h2⟩:=so.sl j g0 d0 e2;refine⟨v,h1,?_⟩;cases g0 with
     |fr=>
      cases e3;obtain⟨p',e4,o4,h3⟩:=h2;have hpp:p'≠p:=fun z=>by rw[z,hO]at o4;exact hj (Option.some.inj o4)
      have hk:∀a o,H a=some o->(Bin F (some a)\/Fix o)->upd H p o' a=some o:=fun a o e b=>by have:a≠p:=b.elim (fun b=>hne a b.1) fun f=>hfix a o e f;rw[z02 this];exact e
      refine⟨p',e4,o4,?_⟩;rcases h3 with⟨vs,ds,e5,e6,r⟩|⟨vs,ds,e5,e6,r⟩
      ·exact .inl ⟨vs,ds,e5,by rw[z02 hpp];exact e6,Reps.keep hk (fun _ z=>z) ds r⟩
      ·exact .inr ⟨vs,ds,e5,by rw[z02 hpp];exact e6,REs.keep hk (fun _ z=>z) ds r⟩
     |od=>cases e3;exact Rep.keep (fun a o e b=>by have:a≠p:=b.elim (fun b z=>by have b1:F.H0 a≠none/\F.V a:=b;rw[z]at b1;exact b1.1 h0) fun f=>hfix a o e f;rw[z02 this];exact e) (fun _ z=>z) _ h2
     |nu=>cases e3;exact Rep.keep (fun a o e b=>by have:a≠p:=b.elim (fun b=>hne a b.1) fun f=>hfix a o e f;rw[z02 this];exact e) (fun _ z=>z) _ h2
     |al=>
      change(if imm d0 then some (G.al,d0)else none)=_ at e3;split at e3
      ·rename_i him;cases e3;exact Rep.immK (fun a o e f=>by rw[z02 (hfix a o e f)];exact e) _ him h2
      ·cases e3
theorem z33 {K:W.Frag}{F:Fm}{H:Hp}{σ:L2.St}{ρ:Rho}{i:Nat}{d:D}(so:StOk K F H σ ρ)(e:ρ[i]?=some (some (.fr,d))):∃p,σ[i]?=some (some (.ref p))/\F.O p=some i/\((∃vs ds,d=.list ds/\H p=some (.lst vs)/\Reps K H (Bin F) vs ds)\/(∃kvs es,d=.dict es/\H p=some (.dK kvs)/\REs K H (Bin F) kvs es)):=by obtain⟨v,h1,p,rfl,o,h⟩:=so.sl i .fr d e;exact⟨p,h1,o,h⟩
def mutF (m:String)(i:Nat)(fs:Rho->Res (List GD)):Rho->Res Out:=fun ρ=>fs ρ>>=fun ys=>match ρ[i]? with
 |some (some (.fr,.list xs))=>mutD m xs ys>>=fun xs'=>.ok (.nx ((ρ.set i (some (.fr,.list xs'))).map z2l))
 |_=>.no
theorem zf8 {i:Nat}{x:Str}{p ap cp:Pos}{fs:Rho->Res (List GD)}(hN:X.N[i]?=some x)(hv:Vis X.env.scope x)(hd:(x==("__debug__":Str))=false)(hcd:(x==("__classdict__":Str))=false)(ha:PA X (e::es) (tDA X.K fs))(hst:((e::es).all fun e=>!isStar e)=true)(hl:(e::es).length<20)(hline:(ap.endLine==cp.line)=true):
  PS X (.Expr (.Call (.Attribute (.Name x p) "append" ap) (e::es) [] cp) pos) (tDS X.K (mutF "append" i fs)):=by
 have hst':=hst;rw[cn,ak]at hst';refine PS.imp (ps_e (zav PySem.F.plainAttrs_list PySem.F.slot_list_append PySem.F.type_list_append z7o (z3t hN hv hd hcd) ha rfl (z7l hst hl) hline (z0b (by simpa using hst'.1)) (z1g hst'.2)) rfl) fun D σ H zz=>?_;obtain⟨ρ,F,out,so,e,q⟩:=zz;obtain⟨ys,e1,e⟩:=Res.bind_ok e;split at e
 ·rename_i xs hr;obtain⟨xs',e2,e⟩:=Res.bind_ok e;cases e;obtain⟨pa,h1,hO,h⟩:=z33 so hr;rcases h with⟨vs,ds,e3,e4,r⟩|⟨_,_,e3,_⟩
  ·cases e3;refine⟨_,h1,.inl ⟨rfl,vs,SqL.of e4⟩,ρ,F,ys,so,e1,fun us H1 s1 rs=>?_⟩;simp only[mutD,if_true]at e2;split at e2
   ·rename_i y;split at e2
    case isFalse=>cases e2
    rename_i hc;cases e2;rw[ba,decide_eq_true_iff]at hc;obtain⟨u,rfl,ru⟩:=rs.one;have so1:=so.same s1;have e5:=s1 _ _ e4;refine⟨pa,vs,u,rfl,rfl,e5,z0p (by rw[r.length];omega),?_⟩
    have r':Reps X.K (upd H1 pa (.lst (vs++[u]))) (Bin F) (vs++[u]) (xs++[y.2]):=by
     have r0:Reps X.K H1 (Bin F) (vs++[u]) (xs++[y.2]):=Reps.append (r.same s1 fun _ z=>z) ⟨u,[],rfl,z2y so hc.1 ru,rfl⟩;refine Reps.keep (fun a o e b=>?_) (fun _ z=>z) _ r0
     have hap:a≠pa:=by
      intro z;subst z;rcases b with b|b
      ·have b1:F.O a=none:=b.1;rw[hO]at b1;cases b1
      ·rw[e5]at e;cases e;exact b
     rw[z02 hap];exact e
    obtain⟨so2,f2⟩:=so1.mutate (o':=.lst (vs++[u])) (d':=.list (xs++[y.2])) hO h1 (.inl ⟨_,rfl⟩) ⟨pa,rfl,hO,.inl ⟨_,_,rfl,z08,r'⟩⟩;exact q σ _ F so2 Run.refl ((Frm.same s1).trans f2)
   ·cases e2
  ·cases e3
 ·cases e
end
section
variable {X:Cx}{e:Expr}{es:List Expr}{pos:Pos}
def rIns:V->List V->Hp->VK->Prop:=fun x vs H Q=>∃l xs i y,x=.ref l/\vs=[.int i,y]/\H l=some (.lst xs)/\0<=i/\i<=(xs.length:Int)/\xs.length<bf/\Q .non (upd H l (.lst (xs.take i.toNat++y::xs.drop i.toNat)))
theorem zl5 {its:List Value}{u:Value}{i:Int}(h0:0<=i)(h1:i<=(its.length:Int)):(fun ws:Array Value=>have k:=if i<0 then(i+(ws.size:Int)).toNat else min i.toNat ws.size;(ws.extract 0 k).push u++ws.extract k) its.toArray=(its.take i.toNat++u::its.drop i.toNat).toArray:=by
 have hk:min i.toNat its.length=i.toNat:=Nat.min_eq_left (by omega);show(fun k=>(its.toArray.extract 0 k).push u++its.toArray.extract k) (if i<0 then(i+(its.toArray.size:Int)).toNat else min i.toNat its.toArray.size)=_;rw[if_neg (by omega),aq,hk]
 dsimp only
 apply Array.ext';simp[List.extract_eq_take_drop];exact j8 (by rw[dq];exact ah _)
theorem zpp:MtM X "list.insert" rIns:=by intro pins s σ H x vs v us Q I rx rv h;obtain⟨l,xs,i,y,rfl,rfl,hH,h0,h1,hz,q⟩:=h;cases rx;obtain⟨a,u,rfl,ra,ru⟩:=rv.two;obtain⟨t,rfl⟩:=ra;obtain⟨z,its,n,r,hl,e⟩:=I.lstM hH;have hsl:=cq;refine jr F.slot_list_insert ⟨_,e,rfl⟩ F.entry_list_insert (F.args_list_insert_3 _ _ _) (AutoSeq1.list_insert_list_int_val_1 l its.toArray n i t u (by rw[fitsIndex_both (by omega) (by omega)];decide) (by rw[aq];omega)) ⟨e,?_⟩;refine⟨.non,_,I.lset (its':=its.take i.toNat++u::its.drop i.toNat) hH e (zl5 h0 (by omega)) ((r.take _).append (.cons ru (r.drop _))) ?_,rfl,q⟩;rw[az,d6,ay,dq];omega
theorem zdb {F:Fm}{H H1:Hp}{σ:L2.St}{ρ:Rho}{i:Nat}{pa:Addr}{vs ws:List V}{zs:List D}{D:Ends}(so:StOk X.K F H σ ρ)(s1:Same H H1)(hO:F.O pa=some i)(h1:σ[i]?=some (some (.ref pa)))(e4:H pa=some (.lst vs))(r0:Reps X.K H1 (Bin F) ws zs)
  (q:z5u X.K F H D (.nx ((ρ.set i (some (.fr,.list zs))).map z2l))):D.nx σ (upd H1 pa (.lst ws)):=by
 have e5:=s1 _ _ e4
 have r':Reps X.K (upd H1 pa (.lst ws)) (Bin F) ws zs:=by
  refine Reps.keep (fun a o e b=>?_) (fun _ z=>z) _ r0
  have hap:a≠pa:=by
   intro z;subst z;rcases b with b|b
   ·have b1:F.O a=none:=b.1;rw[hO]at b1;cases b1
   ·rw[e5]at e;cases e;exact b
  rw[z02 hap];exact e
 obtain⟨so2,f2⟩:=(so.same s1).mutate (o':=.lst ws) (d':=.list zs) hO h1 (.inl ⟨_,rfl⟩) ⟨pa,rfl,hO,.inl ⟨_,_,rfl,z08,r'⟩⟩;exact q σ _ F so2 Run.refl ((Frm.same s1).trans f2)
theorem zom {xs xs':List D}{ys:List GD}(h:putAt xs ys=.ok xs'):∃g i y,ys=[(g,.int i),y]/\okIn y=true/\xs.length<LIM/\0<=i/\i<=(xs.length:Int)/\xs'=xs.take i.toNat++y.2::xs.drop i.toNat:=by
 unfold putAt at h;split at h
 ·rename_i x y;obtain⟨g,d⟩:=x
  dsimp only at h
  split at h
  ·split at h
   ·rename_i i hc;simp only[ba,decide_eq_true_iff]at hc;cases h;exact⟨g,_,y,rfl,hc.1.1.1,hc.1.1.2,hc.1.2,hc.2,rfl⟩
   ·cases h
  ·cases h
 ·cases h
theorem zn4 {xs xs':List D}{ys:List GD}(h:zm0 xs ys=.ok xs'):∃g i,ys=[(g,.int i)]/\0<=i/\i<(xs.length:Int)/\xs.length<=LIM/\xs'=xs.eraseIdx i.toNat:=by
 unfold zm0 at h;split at h
 ·rename_i x;obtain⟨g,d⟩:=x
  dsimp only at h
  split at h
  ·split at h
   ·rename_i i hc;simp only[ba,decide_eq_true_iff]at hc;cases h;exact⟨g,_,rfl,hc.1.1,hc.1.2,hc.2,rfl⟩
   ·cases h
  ·cases h
 ·cases h
theorem zg7 {i:Nat}{x:Str}{p ap cp:Pos}{fs:Rho->Res (List GD)}(hN:X.N[i]?=some x)(hv:Vis X.env.scope x)(hd:(x==("__debug__":Str))=false)(hcd:(x==("__classdict__":Str))=false)(ha:PA X (e::es) (tDA X.K fs))(hst:((e::es).all fun e=>!isStar e)=true)(hl:(e::es).length<20)(hline:(ap.endLine==cp.line)=true):
  PS X (.Expr (.Call (.Attribute (.Name x p) "insert" ap) (e::es) [] cp) pos) (tDS X.K (mutF "insert" i fs)):=by
 have hst':=hst;rw[cn,ak]at hst';refine PS.imp (ps_e (zav PySem.F.plainAttrs_list PySem.F.slot_list_insert PySem.F.type_list_insert zpp (z3t hN hv hd hcd) ha rfl (z7l hst hl) hline (z0b (by simpa using hst'.1)) (z1g hst'.2)) rfl) fun D σ H zz=>?_;obtain⟨ρ,F,out,so,e,q⟩:=zz;obtain⟨ys,e1,e⟩:=Res.bind_ok e;split at e
 ·rename_i xs hr;obtain⟨xs',e2,e⟩:=Res.bind_ok e;cases e;obtain⟨pa,h1,hO,h⟩:=z33 so hr;rcases h with⟨vs,ds,e3,e4,r⟩|⟨_,_,e3,_⟩
  ·cases e3;refine⟨_,h1,.inl ⟨rfl,vs,SqL.of e4⟩,ρ,F,ys,so,e1,fun us H1 s1 rs=>?_⟩;simp only[mutD,show("insert":String)≠"append" by decide,if_true,if_false]at e2;obtain⟨g,j,y,rfl,hy,hlen,j0,j1,rfl⟩:=zom e2;obtain⟨w,u,rfl,rw',ru⟩:=rs.two;have ew:w=.int j:=rw';subst ew;have hlv:=r.length;refine⟨pa,vs,j,u,rfl,rfl,s1 _ _ e4,j0,by omega,z0p (by omega),?_⟩;have r1:=r.same s1 fun _ z=>z;exact zdb so s1 hO h1 e4 (Reps.append (r1.take _) (Reps.cons (z2y so hy ru) (r1.drop _))) q
  ·cases e3
 ·cases e
theorem _root_.Mi.Reps.eraseIdx {K:W.Frag}{H:Hp}{B:Ad->Prop}:∀{vs:List V} {ds:List D} (n:Nat),Reps K H B vs ds->Reps K H B (vs.eraseIdx n) (ds.eraseIdx n)
 |vs,[],n,r=>by have e:vs=[]:=r;subst e;exact rfl
 |vs,d::ds,0,r=>by obtain⟨v,t,e,_,p⟩:=r;subst e;exact p
 |vs,d::ds,n+1,r=>by obtain⟨v,t,e,h,p⟩:=r;subst e;exact⟨v,_,rfl,h,Reps.eraseIdx n p⟩
theorem zm9 {i:Nat}{x:Str}{p ap cp:Pos}{fs:Rho->Res (List GD)}(hN:X.N[i]?=some x)(hv:Vis X.env.scope x)(hd:(x==("__debug__":Str))=false)(hcd:(x==("__classdict__":Str))=false)(ha:PA X (e::es) (tDA X.K fs))(hst:((e::es).all fun e=>!isStar e)=true)(hl:(e::es).length<20)(hline:(ap.endLine==cp.line)=true):
  PS X (.Expr (.Call (.Attribute (.Name x p) "pop" ap) (e::es) [] cp) pos) (tDS X.K (mutF "pop" i fs)):=by
 have hst':=hst;rw[cn,ak]at hst';refine PS.imp (ps_e (zav PySem.F.plainAttrs_list PySem.F.slot_list_pop PySem.F.type_list_pop zfx (z3t hN hv hd hcd) ha rfl (z7l hst hl) hline (z0b (by simpa using hst'.1)) (z1g hst'.2)) rfl) fun D σ H zz=>?_;obtain⟨ρ,F,out,so,e,q⟩:=zz;obtain⟨ys,e1,e⟩:=Res.bind_ok e;split at e
 ·rename_i xs hr;obtain⟨xs',e2,e⟩:=Res.bind_ok e;cases e;obtain⟨pa,h1,hO,h⟩:=z33 so hr;rcases h with⟨vs,ds,e3,e4,r⟩|⟨_,_,e3,_⟩
  ·cases e3;refine⟨_,h1,.inl ⟨rfl,vs,SqL.of e4⟩,ρ,F,ys,so,e1,fun us H1 s1 rs=>?_⟩;simp only[mutD,show("pop":String)≠"append" by decide,show("pop":String)≠"insert" by decide,if_true,if_false]at e2;obtain⟨g,j,rfl,j0,j1,hlen,rfl⟩:=zn4 e2;obtain⟨w,rfl,rw'⟩:=rs.one;have ew:w=.int j:=rw';subst ew;have hlv:=r.length;have hj:j.toNat<vs.length:=by omega
   have hL:LIM=1000000:=rfl;refine⟨pa,vs,j,j.toNat,vs[j.toNat],rfl,rfl,s1 _ _ e4,by omega,by omega,?_,bd hj,?_⟩
   ·unfold sr;simp only[if_neg (show ¬j<0 by omega)];rw[if_pos (by simp;omega)]
   ·exact zdb so s1 hO h1 e4 ((r.same s1 fun _ z=>z).eraseIdx _) q
  ·cases e3
 ·cases e
end
section
variable {X:Cx}{pos:Pos}
end
theorem RGs.ins {K:W.Frag}{F:Fm}{H H1:Hp}{σ:L2.St}{ρ:Rho}(so:StOk K F H σ ρ):∀{vs:List V} {xs:List GD},xs.all okIn=true->RGs K F H H1 vs xs->Reps K H1 (Bin F) vs (xs.map (·.2))
 |vs,[],_,r=>r
 |vs,x::xs,h,r=>by rw[cn]at h;rw[ak]at h;obtain⟨v,t,e,hv,q⟩:=r;exact⟨v,t,e,z2y so h.1 hv,RGs.ins so h.2 q⟩
theorem StOk.frz {K:W.Frag}{F:Fm}{H:Hp}{σ:L2.St}{ρ:Rho}(so:StOk K F H σ ρ)(j:Nat):StOk K (F.drop j) H σ (ρ.set j (frzS (ρ.getD j none))):=by
 refine⟨so.ext,so.vis,fun a i e=>?_,by rw[ci];exact so.len,fun i g d e=>?_⟩
 ·have e':F.O a=some i:=by
   have e:(if F.O a=some j then none else F.O a)=some i:=e;split at e
   ·cases e
   ·exact e
  exact so.own a i e'
 ·by_cases hj:j=i
  ·subst hj;rw[du]at e;simp only[if_true]at e;split at e
   ·rename_i hl;cases e2:ρ[j]? with
    |none=>exact absurd hl (by have:=fu.mp e2;omega)
    |some sl=>
     have e3:frzS sl=some (g,d):=by
      have:ρ.getD j none=sl:=by rw[a9,e2];rfl
      rw[this]at e;exact Option.some.inj e
     cases sl with
     |none=>cases e3
     |some gd=>
      obtain⟨g0,d0⟩:=gd;obtain⟨v,h1,h2⟩:=so.sl j g0 d0 e2;refine⟨v,h1,?_⟩;cases g0 with
      |fr=>
       cases e3;obtain⟨p,rfl,o,h⟩:=h2;obtain⟨o1,o2,_⟩:=so.own p j o;have hp:Bin (F.drop j) (some p):=⟨by show(if F.O p=some j then none else F.O p)=none;rw[if_pos o],o1,o2⟩;rcases h with⟨vs,ds,rfl,h3,r⟩|⟨vs,ds,rfl,h3,r⟩
       ·exact⟨p,vs,rfl,.inl ⟨h3,hp⟩,r.weak fun _ b=>b.drop⟩
       ·exact⟨p,vs,rfl,h3,hp,REs.same (fun _ _ e=>e) (fun _ b=>b.drop) r⟩
      |od=>cases e3;exact h2
      |al=>cases e3;exact h2
      |nu=>cases e3;exact Rep.weak (fun _ b=>b.drop) h2
   ·cases e
  ·rw[bt hj]at e;obtain⟨v,h1,h2⟩:=so.sl i g d e;exact⟨v,h1,h2.drop fun z=>hj z.symm⟩
section
variable {K:W.Frag}{H:Hp}{B B':Ad->Prop}
end
section
variable {K:W.Frag}{H:Hp}{Bz:Ad->Prop}{p:Addr}{zs:List D}{vz:List V}
end
section
variable {X:Cx}{tg a b c e:Expr}{es:List Expr}{fa fb fc:Rho->Res GD}{pos:Pos}{st:Stmt}{rest A Bs:List Stmt}{fs gs:Rho->Res Out}
theorem zc4 (k k':Key):eqK (kD k') (kD k)=decide (k'=k):=by
 cases k'<;>cases k
 ·rename_i a b;show(a==b)=_;rw[ka,decide_eq_decide];exact⟨fun h=>by rw[h],fun h=>Sum.inl.inj h⟩
 ·rfl
 ·rfl
 ·rename_i a b;show decide (a=b)=_;rw[decide_eq_decide];exact⟨fun h=>by rw[h],fun h=>Sum.inr.inj h⟩
theorem REs.any {K:W.Frag}{H:Hp}{B:Ad->Prop}(k:Key):∀{kvs:List (Key×V)} {es:Ents},REs K H B kvs es->(es.any fun e=>eqK e.1 (kD k))=kvs.any fun kv=>decide (kv.1=k)
 |kvs,[],r=>by have e:kvs=[]:=r;subst e;rfl
 |kvs,(kd,d)::es,r=>by obtain⟨k',v,t,e,e2,_,_,q⟩:=r;subst e e2;rw[ij,ij,q.any k,zc4]
theorem REs.mapPut {K:W.Frag}{H:Hp}{B:Ad->Prop}(k:Key){v:V}{d:D}(h:Rep K H B v d):∀{kvs:List (Key×V)} {es:Ents},REs K H B kvs es->REs K H B (kvs.map fun kv=>if kv.1=k then(kv.1,v)else kv) (es.map fun e=>if eqK e.1 (kD k)then(e.1,d)else e)
 |kvs,[],r=>by have e:kvs=[]:=r;subst e;exact rfl
 |kvs,(kd,d0)::es,r=>by
  obtain⟨k',v0,t,e,e2,ok,h0,q⟩:=r;subst e e2;rw[ae,ae];have ih:=q.mapPut k h;by_cases z:k'=k
  ·subst z;rw[if_pos rfl,if_pos (by rw[zc4];simp)];exact⟨k',v,_,rfl,rfl,ok,h,ih⟩
  ·rw[if_neg z,if_neg (by rw[zc4];simpa using z)];exact⟨k',v0,_,rfl,rfl,ok,h0,ih⟩
theorem REs.app {K:W.Frag}{H:Hp}{B:Ad->Prop}{k:Key}{v:V}{d:D}(ok:keyOk k)(h:Rep K H B v d):∀{kvs:List (Key×V)} {es:Ents},REs K H B kvs es->REs K H B (kvs++[(k,v)]) (es++[(kD k,d)])
 |kvs,[],r=>by have e:kvs=[]:=r;subst e;exact⟨k,v,[],rfl,rfl,ok,h,rfl⟩
 |kvs,(kd,d0)::es,r=>by obtain⟨k',v0,t,e,e2,ok',h0,q⟩:=r;subst e e2;exact⟨k',v0,_,rfl,rfl,ok',h0,q.app ok h⟩
theorem REs.put {K:W.Frag}{H:Hp}{B:Ad->Prop}{k:Key}{v:V}{d:D}(ok:keyOk k)(h:Rep K H B v d){kvs:List (Key×V)}{es:Ents}(r:REs K H B kvs es):REs K H B (putK kvs k v) (dput es (kD k) d):=by
 unfold putK dput;rw[r.any k];split
 ·exact r.mapPut k h
 ·exact r.app ok h
def sSet (td ty tv:TE):TS:=fun D σ H=>tv σ H fun v H1=>td σ H1 fun x H2=>ty σ H2 fun y H3=>(∃a H4,x=.ref a/\DPut H3 a y v H4/\D.nx σ H4)\/zn0 x y v H3 fun H4=>D.nx σ H4
theorem zjh {o i value:Expr}{pos':Pos}{td ty tv:TE}(hu:X.A.units+1<cLine)(ho:PE X o td)(hi:PE X i ty)(hv:PE X value tv)(hs:km value (some (.Subscript o i pos')) pos.line X.env=pure false):PS X (.Assign [.Subscript o i pos'] value pos) (sSet td ty tv):=by
 intro pins s σ H D I h;refine wpAny_Assign_Subscript (thn (hv pins s σ H _ I h) fun r s1 ⟨v,H1,I1,rv,q1⟩=>thn (ho pins s1 σ H1 _ I1 q1) fun u s2 ⟨x,H2,I2,rx,q2⟩=>thn (hi pins s2 σ H2 _ I2 q2) fun iv s3 ⟨y,H3,I3,ry,q3⟩=>?_) hs;rcases q3 with⟨a,H4,ex,g,q3⟩|q3
 ·subst ex;obtain rfl:u=Value.ref a:=rx;exact zda hu I3 g ry rv fun s4 I4=>⟨σ,H4,I4,q3⟩
 ·exact thn (set_list pins s3 σ H3 x y v u iv r _ I3 rx ry rv q3) fun _ s4 ⟨H4,I4,q4⟩=>⟨σ,H4,I4,q4⟩
def setF (i:Nat)(fv fk:Rho->Res GD):Rho->Res Out:=fun ρ=>fv ρ>>=fun y=>fk ρ>>=fun x=>match ρ[i]? with
 |some (some (.fr,.dict es))=>if isK x.2&&okIn y&&decide (es.length<LIM)then .ok (.nx ((ρ.set i (some (.fr,.dict (dput es x.2 y.2)))).map z2l))else .no
 |some (some (.fr,.list xs))=>(match x.2 with
  |.int j=>if okIn y then(match ixN xs.length j with|some n=>.ok (.nx ((ρ.set i (some (.fr,.list (xs.set n y.2)))).map z2l))|none=>.no)else .no
  |_=>.no)
 |_=>.no
theorem zrp {i:Nat}{x:Str}{p pos':Pos}{ie value:Expr}{fv fk:Rho->Res GD}(hu:X.A.units+64<cLine)(hN:X.N[i]?=some x)(hv:Vis X.env.scope x)(hd:(x==("__debug__":Str))=false)(hcd:(x==("__classdict__":Str))=false)(hs:z2m value=false)(hk:PE X ie (tD X.K fk))(hva:PE X value (tD X.K fv)):
  PS X (.Assign [.Subscript (.Name x p) ie pos'] value pos) (tDS X.K (setF i fv fk)):=by
 refine PS.imp (zjh (by omega) (z3t hN hv hd hcd) hk hva (z2g hs _ _ _)) fun D σ H zz=>?_;obtain⟨ρ,F,out,so,e,q⟩:=zz;obtain⟨y,e1,e⟩:=Res.bind_ok e;obtain⟨kx,e2,e⟩:=Res.bind_ok e;refine⟨ρ,F,y,so,e1,fun v H1 s1 rv=>?_⟩;have so1:=so.same s1;split at e
 ·rename_i es hr;split at e
  case isFalse=>cases e
  rename_i hc;cases e;rw[ak,ak,decide_eq_true_eq]at hc;obtain⟨pa,h1,hO,h⟩:=z33 so1 hr;rcases h with⟨_,_,e3,_⟩|⟨kvs,es',e3,e4,r⟩
  ·cases e3
  ·cases e3;refine⟨_,h1,ρ,F,kx,so1,e2,fun w H2 s2 rw'=>.inl ?_⟩;obtain⟨k,ek,rfl,ok⟩:=z65 hc.1.1 rw';have e5:=s2 _ _ e4;refine⟨pa,_,rfl,DPut.k e5 (by rw[r.length];exact br hc.2 (z0p (ah _))),?_⟩
   have hk:∀a o,H2 a=some o->(Bin F (some a)\/Fix o)->upd H2 pa (.dK (putK kvs k v)) a=some o:=fun a o e b=>by
    have hap:a≠pa:=by
     intro z;subst z;rcases b with b|b
     ·have b1:F.O a=none:=b.1;rw[hO]at b1;cases b1
     ·rw[e5]at e;cases e;exact b
    rw[z02 hap];exact e
   have r':REs X.K (upd H2 pa (.dK (putK kvs k v))) (Bin F) (putK kvs k v) (dput es kx.2 y.2):=by rw[ek];exact REs.keep hk (fun _ z=>z) _ (REs.put ok (z2y so hc.1.2 (rv.same s2 fun _ z=>z)) (r.same s2 fun _ z=>z))
   obtain⟨so2,f2⟩:=(so1.same s2).mutate (o':=.dK (putK kvs k v)) (d':=.dict (dput es kx.2 y.2)) hO h1 (.inr ⟨_,rfl⟩) ⟨pa,rfl,hO,.inr ⟨_,_,rfl,z08,r'⟩⟩;exact q σ _ F so2 Run.refl ((Frm.same (s1.trans s2)).trans f2)
 ·rename_i xs hr;split at e
  case h_2=>cases e
  rename_i j hj;split at e
  case isFalse=>cases e
  rename_i hc;split at e
  case h_2=>cases e
  rename_i n hn;cases e;obtain⟨pa,h1,hO,h⟩:=z33 so1 hr;rcases h with⟨vs,ds,e3,e4,r⟩|⟨_,_,e3,_⟩
  ·cases e3;refine⟨_,h1,ρ,F,kx,so1,e2,fun w H2 s2 rw'=>.inr ?_⟩;rw[hj]at rw';have ew:w=.int j:=rw';subst ew;have e5:=s2 _ _ e4;refine⟨pa,vs,j,n,rfl,rfl,e5,by rw[r.length];exact hn,?_⟩
   have hk:∀a o,H2 a=some o->(Bin F (some a)\/Fix o)->upd H2 pa (.lst (vs.set n v)) a=some o:=fun a o e b=>by
    have hap:a≠pa:=by
     intro z;subst z;rcases b with b|b
     ·have b1:F.O a=none:=b.1;rw[hO]at b1;cases b1
     ·rw[e5]at e;cases e;exact b
    rw[z02 hap];exact e
   have r':Reps X.K (upd H2 pa (.lst (vs.set n v))) (Bin F) (vs.set n v) (xs.set n y.2):=Reps.keep hk (fun _ z=>z) _ (Reps.set (z2y so hc (rv.same s2 fun _ z=>z)) n (r.same s2 fun _ z=>z));obtain⟨so2,f2⟩:=(so1.same s2).mutate (o':=.lst (vs.set n v)) (d':=.list (xs.set n y.2)) hO h1 (.inl ⟨_,rfl⟩) ⟨pa,rfl,hO,.inl ⟨_,_,rfl,z08,r'⟩⟩;exact q σ _ F so2 Run.refl ((Frm.same (s1.trans s2)).trans f2)
  ·cases e3
 ·cases e
def tDF (K:W.Frag)(f:Rho->Res (G×List D×Rho)):TI:=fun σ H R=>∃ρ F w,StOk K F H σ ρ/\f ρ=.ok w/\∀J B H' F',Same H H'->Run F F'->Frm F H F' H'->StOk K F' H' σ w.2.2->(∀a,B (some a)->F'.O a=none)->(∀a,B a->BI F' w.1 a)->Walk K J B H' w.2.1->R J H'
theorem z60 {K:W.Frag}{F:Fm}{H:Hp}{σ:L2.St}{ρ:Rho}(so:StOk K F H σ ρ){a:Addr}{g:G}(hg:g≠.al)(h:BG F H g (some a)):F.O a=none:=by
 cases e1:F.O a with
 |none=>rfl
 |some j=>
  obtain⟨h0,_,h'⟩:=so.own a j e1;cases g with
  |fr=>have hb:H a=none:=h;rcases h' with⟨xs,h'⟩|⟨xs,h'⟩<;>rw[hb]at h'<;>cases h'
  |od=>exact absurd h0 h.1
  |al=>exact absurd rfl hg
  |nu=>
   rcases h with h|h
   ·have hb:H a=none:=h;rcases h' with⟨xs,h'⟩|⟨xs,h'⟩<;>rw[hb]at h'<;>cases h'
   ·have hb:F.O a=none:=h.1;rw[hb]at e1;cases e1
theorem zo4 {fw:Rho->Res (G×List D)}(hw:PI X tg e (tDW X.K fw)):PI X tg e (tDF X.K fun ρ=>fw ρ>>=fun w=>if w.1==.al then .no else .ok (w.1,w.2,ρ)):=
 PI.imp hw fun σ H R zz=>by
  obtain⟨ρ,F,w,so,e,q⟩:=zz;obtain⟨w0,e1,e⟩:=Res.bind_ok e;refine⟨ρ,F,w0,so,e1,fun J B H1 s1 hB wk=>?_⟩;split at e
  ·cases e
  ·rename_i hal;cases e;have hal':w0.1≠.al:=fun z=>hal (by rw[z];rfl);exact q J B H1 F s1 Run.refl (Frm.same s1) (so.same s1) (fun a b=>z60 so hal' (hB _ b).1) (fun a b=>BI.of so.vis (hB a b).1) wk
theorem StOk.giveUp {K:W.Frag}{F:Fm}{H:Hp}{σ:L2.St}{ρ:Rho}{i:Nat}{d:D}(so:StOk K F H σ ρ)(e:ρ[i]?=some (some (.fr,d))):StOk K (F.drop i) H σ (ρ.set i (some (.al,d))):=by
 obtain⟨v,h1,h2⟩:=so.sl i .fr d e;have:=so.setI (i:=i) (x:=(.al,d)) (v:=v) (h2.rep so.ownV)
 have es:σ.set i (some v)=σ:=by
  apply List.ext_getElem?;intro j;by_cases hj:i=j
  ·subst hj;rw[du];have hl:=(bn.mp h1).1;simp only[if_true,hl];exact h1.symm
  ·rw[bt hj]
 rw[es]at this;exact this
theorem zuc {i:Nat}{x:Str}(hN:X.N[i]?=some x)(hv:Vis X.env.scope x)(hd:(x==("__debug__":Str))=false)(hcd:(x==("__classdict__":Str))=false):PI X tg (.Name x pos) (tDF X.K (zez i)):=by
 intro pins s σ H R I h;obtain⟨ρ,F,w,so,e,q⟩:=h;unfold zez at e;split at e
 ·rename_i d hr;obtain⟨xs,e2,e⟩:=Res.bind_ok e;cases e;obtain⟨v,h1,h2⟩:=so.sl i .fr d hr;refine thn (z3t hN hv hd hcd pins s σ H (fun u H1=>u=v/\H1=H) I ⟨v,h1,rfl,rfl⟩) fun u s1 zz=>?_;obtain⟨y,H1,I1,r1,ey,eH⟩:=zz;subst ey eH;have so':=so.giveUp hr
  let B:Ad->Prop:=fun a=>match a with|some a=>(F.drop i).O a=none/\F.V a|none=>False
  have rv:Rep X.K H1 B y d:=by
   obtain⟨p,ey,hO,h3⟩:=h2
   have hb:∀a,Bin F a->B a:=fun a b=>by
    cases a with
    |none=>exact b
    |some a=>exact⟨Fm.drop_none b.1,b.2.2⟩
   have hp:B (some p):=⟨by show(if F.O p=some i then none else F.O p)=none;rw[if_pos hO],so.ownV p i hO⟩;rcases h3 with⟨vs,ds,rfl,e4,r⟩|⟨vs,ds,rfl,e4,r⟩
   ·exact⟨p,vs,ey,.inl ⟨e4,hp⟩,r.weak hb⟩
   ·exact⟨p,vs,ey,e4,hp,REs.same (fun _ _ e=>e) hb r⟩
  refine z5r I1 r1 rv e2 fun J wk=>q J B H1 (F.drop i) (Same.refl _) (Run.of rfl rfl rfl) (Frm.drop (Same.refl _)) so' (fun a b=>b.1) (fun a b=>?_) wk;cases a with
  |none=>exact b.elim
  |some a=>exact b.2
 ·cases e
def Fm.noL (F:Fm)(H:Hp):Fm:={F with O:=fun a=>match H a with|some (.dK _)=>F.O a|_=>none}
theorem Fm.noL_none {F:Fm}{H:Hp}{a:Addr}(h:F.O a=none):(F.noL H).O a=none:=by
 unfold Fm.noL
 dsimp only
 split<;>first|exact h|rfl
theorem StOk.noL {K:W.Frag}{F:Fm}{H:Hp}{σ:L2.St}{ρ:Rho}(so:StOk K F H σ ρ):StOk K (F.noL H) H σ (ρ.map zkr) where
 ext:=so.ext
 vis:=so.vis
 own:=fun a i e=>by
  have e':F.O a=some i:=by
   unfold Fm.noL at e
   dsimp only at e
   split at e
   ·exact e
   ·cases e
  exact so.own a i e'
 len:=by rw[am];exact so.len
 sl:=fun i g d e=>by
  rw[bo]at e;cases h1:ρ[i]? with
  |none=>rw[h1]at e;cases e
  |some o=>
   rw[h1]at e;have e':zkr o=some (g,d):=by simpa using e
   cases o with
   |none=>cases e'
   |some gd=>
    obtain⟨g0,d0⟩:=gd;obtain⟨v,h2,h3⟩:=so.sl i g0 d0 h1;refine⟨v,h2,?_⟩
    have hb:∀a,Bin F a->Bin (F.noL H) a:=fun a b=>by
     cases a with
     |none=>exact b
     |some a=>exact⟨Fm.noL_none b.1,b.2.1,b.2.2⟩
    cases g0 with
    |od=>cases e';exact h3
    |al=>cases e';exact h3
    |nu=>cases e';exact Rep.weak hb h3
    |fr=>
     obtain⟨p,ev,hO,h4⟩:=id h3;rcases h4 with⟨vs,ds,rfl,e4,r⟩|⟨kvs,es,rfl,e4,r⟩
     ·have e2:some (G.al,PyData.list ds)=some (g,d):=e';cases e2;have h5:Rep K H (visA F) v (.list ds):=Slot.rep (F:=F) so.ownV h3;exact h5
     ·have e2:some (G.fr,PyData.dict es)=some (g,d):=e';cases e2;refine⟨p,ev,?_,.inr ⟨kvs,es,rfl,e4,REs.same (fun _ _ z=>z) hb r⟩⟩;unfold Fm.noL
      dsimp only
      rw[e4];exact hO
theorem f_al {fa:Rho->Res GD}(ha:PE X e (tD X.K fa)):PI X tg e (tDF X.K fun ρ=>fa ρ>>=fun x=>evAl x ρ):=by
 intro pins s σ H R I h;obtain⟨ρ,F,w,so,e0,q⟩:=h;obtain⟨x,e1,e0⟩:=Res.bind_ok e0;obtain⟨g,d⟩:=x;unfold evAl at e0
 dsimp only at e0
 split at e0
 ·rename_i xs;split at e0
  ·rename_i hi;cases e0;refine thn (ha pins s σ H (fun v H1=>Same H H1/\Rep X.K H1 (BG F H g) v (.list xs)) I ⟨ρ,F,_,so,e1,fun v H1 s1 rv=>⟨s1,rv⟩⟩) fun v s1 zz=>?_;obtain⟨y,H1,I1,r1,s1',rv⟩:=zz;have so1:=(so.same s1').noL
   let B:Ad->Prop:=fun a=>match a with|some a=>(F.noL H1).O a=none/\F.V a|none=>F.z
   have rv':Rep X.K H1 B y (.list xs):=by
    obtain⟨p,vs,ey,h,r⟩:=rv;refine⟨p,vs,ey,?_,Reps.immB xs hi r⟩;rcases h with⟨h,b⟩|⟨h,b⟩
    ·refine .inl ⟨h,?_,(BG.vis so.vis b:visA F (some p))⟩;unfold Fm.noL
     dsimp only
     rw[h]
    ·exact .inr ⟨h,(BG.vis so.vis b:visA F none)⟩
   refine z5r I1 r1 rv' rfl fun J wk=>q J B H1 (F.noL H1) s1' (Run.of rfl rfl rfl) (fun a o e n=>⟨s1' a o e,Fm.noL_none n⟩) so1 (fun a b=>b.1) (fun a b=>?_) wk;cases a with
   |none=>exact b
   |some a=>exact b.2
  ·cases e0
 ·cases e0
theorem PI.orD {f g:Rho->Res (G×List D×Rho)}{k:Rho->Bool}(hf:PI X tg e (tDF X.K f))(hg:PI X tg e (tDF X.K g)):PI X tg e (tDF X.K fun ρ=>if k ρ then f ρ else g ρ):=by
 intro pins s σ H R I h;obtain⟨ρ,F,w,so,e,q⟩:=h
 dsimp only at e
 cases hk:k ρ with
 |true=>exact hf pins s σ H R I ⟨ρ,F,w,so,by rw[if_pos hk]at e;exact e,q⟩
 |false=>exact hg pins s σ H R I ⟨ρ,F,w,so,by rw[if_neg (by rw[hk];exact bj)]at e;exact e,q⟩
theorem zrm {t:Tg}{iter:Expr}{body:List Stmt}{fw:Rho->Res (G×List D×Rho)}(hp:gv (model X.prog X.w) X.A X.env X.xe)(hc:X.calm=true)(hi:PI X tg iter (tDF X.K fw))(hg:PG X tg (tDG X.K t))(hb:PSs X body (tDS X.K fs))(hs:∀x,e9 iter X.env x=pure x):
  PS X (.For tg iter body [] pos) (tDS X.K fun ρ=>fw ρ>>=fun w=>forD (fun x ρ1=>z0x t (gJ x w.1,x) ρ1>>=fun ρ2=>fs ρ2) w.2.1 w.2.2):=
 PS.imp (zh3 hp hc hi hg hb hs) fun D σ H zz=>by
  obtain⟨ρ,F,out,so,e,q⟩:=zz;obtain⟨w,e1,e⟩:=Res.bind_ok e;refine⟨ρ,F,w,so,e1,fun J B H1 F1 s1 r1 f1 so1 hBo hBi wk=>?_⟩;have q1:z5u X.K F1 H1 D out:=q.back r1 f1;generalize hf:(fun x ρ1=>z0x t (gJ x w.1,x) ρ1>>=fun ρ2=>fs ρ2)=f at e
  have kp:∀{F2:Fm} {H2:Hp},Frm F1 H1 F2 H2->Kp B H1 H2:=fun{F2 H2} fr a o e b=>by
   have hO:F1.O a=none:=by
    rcases b with b|b
    ·exact hBo a b
    ·cases e2:F1.O a with
     |none=>rfl
     |some j=>obtain⟨_,_,h'⟩:=so1.own a j e2;rcases h' with⟨xs,h'⟩|⟨xs,h'⟩<;>rw[e]at h'<;>cases h'<;>exact b.elim
   exact(fr a o e hO).1
  let W:Nat->Nat->L2.St->Hp->Prop:=fun i m σ2 H2=>m=w.2.1.length-i/\i<=w.2.1.length/\∃ρ2 F2,StOk X.K F2 H2 σ2 ρ2/\Run F1 F2/\Frm F1 H1 F2 H2/\forD f (w.2.1.drop i) ρ2=.ok out
  refine⟨W,⟨_,rfl,ce _,w.2.2,F1,so1,Run.refl,Frm.refl,e⟩,?_⟩
  rintro i m σ2 H2 ⟨rfl,hile,ρ2,F2,so2,r2,f2,e2⟩
  by_cases hlt:i<w.2.1.length
  ·refine .inr ⟨wk.go H2 (kp f2) i hlt,W (i+1) (w.2.1.length-(i+1)),fun σ' H' p=>⟨_,by omega,p⟩,fun x H3 y=>?_⟩;obtain⟨s3,d,hd,rx⟩:=wk.yld H2 (kp f2) i x H3 hlt y
   have hdr:w.2.1.drop i=d::w.2.1.drop (i+1):=by
    have dc:=lw hlt;rw[dc];have:w.2.1[i]=d:=by rw[bd hlt]at hd;exact Option.some.inj hd
    rw[this]
   rw[hdr]at e2;simp only[forD]at e2;have so3:=so2.same s3
   have rx':Rep X.K H3 (BI F2 (gJ d w.1)) x d:=by
    have hBI:∀g a,BI F1 g a->BI F2 g a:=fun g a b=>by cases g<;>cases a<;>first|exact b|(have b':F1.V _:=b;rw[<-r2.2.1]at b';exact b')|(have b':F1.z:=b;rw[<-r2.2.2]at b';exact b')|(have b':F1.H0 _≠none/\F1.V _:=b;exact⟨fun z=>b'.1 (none_of r2.1 z),by rw[r2.2.1];exact b'.2⟩)
    unfold gJ;by_cases hi:imm d=true
    ·rw[if_pos hi];exact Rep.immB d hi rx
    ·rw[if_neg hi];exact rx.weak fun a b=>hBI _ _ (hBi a b)
   cases e3:f d ρ2 with
   |no=>rw[e3]at e2;cases e2
   |exc z=>rw[e3]at e2;cases e2
   |ok o1=>
    have e3':(z0x t (gJ d w.1,d) ρ2>>=fun ρ3=>fs ρ3)=.ok o1:=by rw[<-e3,<-hf]
    obtain⟨ρ3,e4,e5⟩:=Res.bind_ok e3';rw[e3]at e2;refine⟨ρ2,F2,(gJ d w.1,d),ρ3,so3,rx',e4,fun σ4 F4 so4 kps=>⟨ρ3,F4,o1,so4,e5,?_⟩⟩;have r4:Run F1 F4:=r2.trans (Run.of kps.h0 kps.v kps.z);have f4:Frm F1 H1 F4 H3:=f2.trans fun a o e n=>⟨s3 a o e,kps.o a n⟩;cases o1 with
    |nx ρ5=>exact fun σ' H' F' so' r' f'=>⟨rfl,hlt,ρ5,F',so',r4.trans r',f4.trans f',e2⟩
    |rt g d=>cases e2;exact(q1.back r4 f4:z5u X.K F4 H3 D (.rt g d))
  ·have hie:i=w.2.1.length:=by omega
   subst hie;rw[List.drop_length]at e2;cases e2;exact .inl ⟨wk.stop H2 (kp f2),q1 σ2 H2 F2 so2 r2 f2⟩
end
def rAgg (K:W.Frag)(f:String):List V->Hp->VK->Prop:=fun xs H Q=>∃B x dx l ys d,xs=[x]/\Rep K H B x dx/\z4z dx=.ok (l,ys)/\aggD f l ys=.ok d/\∀w H',Same H H'->Rep K H' (fun a=>nw H a\/(imms ys=false/\B a)) w d->Q w H'
theorem z2e {K:W.Frag}{H:Hp}{B:Ad->Prop}{x:V}{dx:D}{l:Bool}{ys:List D}(r:Rep K H B x dx)(e:z4z dx=.ok (l,ys)):∃a vs,x=.ref a/\(if l then SqL K H a vs else SqT K H a vs)/\Reps K H B vs ys:=by
 cases dx<;>try (cases e;done)
 ·cases e;obtain⟨a,vs,rfl,h,q⟩:=z1u r;exact⟨a,vs,rfl,h,q⟩
 ·cases e;obtain⟨a,vs,rfl,h,q⟩:=r;exact⟨a,vs,rfl,h,q⟩
theorem Reps.aggB {K:W.Frag}{H:Hp}{B:Ad->Prop}{vs:List V}{ys:List D}(r:Reps K H B vs ys):Reps K H (fun a=>nw H a\/(imms ys=false/\B a)) vs ys:=by
 cases hi:imms ys with
 |true=>exact Reps.immB ys hi r
 |false=>exact r.weak fun _ z=>.inr ⟨rfl,z⟩
section
variable {X:Cx}{e:Expr}{fa:Rho->Res GD}{pos:Pos}
theorem zha {f:String}{ρ:Rho}{F:Fm}{z:GD}{σ:L2.St}{H:Hp}{Q:VK}(so:StOk X.K F H σ ρ)(e:((fa ρ>>=fun x=>z4z x.2>>=fun p=>Res.ok (x.1,p))>>=fun w=>aggD f w.2.1 w.2.2>>=fun d=>Res.ok ((gJ d (if imms w.2.2 then .fr else agG w.1),d):GD))=.ok z)(q:∀v H',Same H H'->Rep X.K H' (BG F H z.1) v z.2->Q v H'):
  tCB (rAgg X.K f) (zm6 (tD X.K fa) tNil) σ H Q:=by
 obtain⟨w,e0,e⟩:=Res.bind_ok e;obtain⟨x,e1,e0⟩:=Res.bind_ok e0;obtain⟨p,e2,e0⟩:=Res.bind_ok e0;cases e0;obtain⟨d,e3,e⟩:=Res.bind_ok e;cases e;refine⟨ρ,F,x,so,e1,fun v H1 s1 rv=>⟨_,v,x.2,p.1,p.2,d,rfl,rv,e2,e3,fun w' H2 s2 rw'=>q w' H2 (s1.trans s2) (z3w rw' fun a h=>?_)⟩⟩
 dsimp only
 cases hi:imms p.2 with
 |true=>
  rw[if_pos rfl];rcases h with h|⟨h,_⟩
  ·exact nw.back s1 h
  ·rw[hi]at h;cases h
 |false=>
  rw[if_neg bj]
  have al:visA F a:=by
   rcases h with h|⟨_,h⟩
   ·exact(nw.back s1 h).vis so.vis
   ·exact h.vis so.vis
  cases hg:x.1 with
  |fr=>
   rcases h with h|⟨_,h⟩
   ·exact nw.back s1 h
   ·rw[hg]at h;exact h
  |od=>exact al
  |al=>exact al
  |nu=>
   rcases h with h|⟨_,h⟩
   ·exact .inl (nw.back s1 h)
   ·rw[hg]at h;exact h
theorem zmz:CallR X (.type "list") (rAgg X.K "list"):=by
 refine CallR.imp z6x fun xs H Q h=>?_;obtain⟨B,x,dx,l,ys,d,rfl,r,e,e2,q⟩:=h;obtain⟨a,vs,rfl,h,rs⟩:=z2e r e;simp only[aggD,if_true]at e2;cases e2
 have h':SqL X.K H a vs\/SqT X.K H a vs:=by
  cases l with
  |true=>exact .inl h
  |false=>exact .inr h
 refine⟨a,vs,rfl,h',fun p hp=>q _ _ (Same.upd hp) (z1l hp rs.aggB (fun _ z=>z) (.inl hp))⟩
theorem zll:CallR X (.type "tuple") (rAgg X.K "tuple"):=by
 refine CallR.imp z5p fun xs H Q h=>?_;obtain⟨B,x,dx,l,ys,d,rfl,r,e,e2,q⟩:=h;obtain⟨a,vs,rfl,h,rs⟩:=z2e r e;simp only[aggD,show("tuple":String)≠"list" by decide,if_true,if_false]at e2;cases e2;refine⟨a,vs,rfl,?_⟩;cases l with
 |true=>exact .inl ⟨h,fun p hp=>q _ _ (Same.upd hp) (z2h hp rs.aggB fun _ z=>z)⟩
 |false=>exact .inr ⟨h,q _ H (Same.refl H) ⟨a,vs,rfl,h,rs.aggB⟩⟩
theorem z7s {K:W.Frag}{H:Hp}{B:Ad->Prop}:∀{ds:List D} {bs:List Bool} {vs:List V},allB ds=some bs->Reps K H B vs ds->vs=bs.map V.bl
 | [],bs,vs,e,r=>by cases e;exact r
 |d::ds,bs,vs,e,r=>by
  cases d<;>try (cases e;done)
  rename_i b;simp only[allB]at e;cases e1:allB ds with
  |none=>rw[e1]at e;cases e
  |some bs'=>rw[e1]at e;cases e;obtain⟨v,t,rfl,h1,h2⟩:=r;have ev:v=.bl b:=h1;rw[ev,z7s e1 h2];rfl
theorem zs9 (hc:X.calm=true):CallR X (.builtin "all") (rAgg X.K "all"):=by
 refine CallR.imp (zf4 hc) fun xs H Q h=>?_;obtain⟨B,x,dx,l,ys,d,rfl,r,e,e2,q⟩:=h;obtain⟨a,vs,rfl,h,rs⟩:=z2e r e;simp only[aggD,show("all":String)≠"list" by decide,show("all":String)≠"tuple" by decide,show("all":String)≠"sorted" by decide,show("all":String)≠"sum" by decide,if_true,if_false]at e2;cases l with
 |false=>cases e2
 |true=>
  simp only[if_true]at e2;cases e3:allB ys with
  |none=>rw[e3]at e2;cases e2
  |some bs=>rw[e3]at e2;cases e2;have ev:=z7s e3 rs;subst ev;exact⟨a,bs,rfl,h,q _ H (Same.refl H) rfl⟩
theorem zhc {f:String}{x:Str}{p:Pos}{y:Expr}(hc:CallR X (.type f) (rAgg X.K f))(hm:X.mg x=none)(hv:cv x=some (.type f))(hs:isStar y=false)(ha:PE X y (tD X.K fa))(hg:Gl X x)(hn:x≠"__name__")(hdb:(x==("__debug__":Str))=false):
  PE X (.Call (.Name x p) [y] [] pos) (tD X.K fun ρ=>(fa ρ>>=fun x=>z4z x.2>>=fun p=>Res.ok (x.1,p))>>=fun w=>aggD f w.2.1 w.2.2>>=fun d=>.ok (gJ d (if imms w.2.2 then .fr else agG w.1),d)):=
 PE.imp (zmo hc hm hv (pa_c ha z3v hs) (by simp[hs]) hg hn hdb) fun σ H Q ⟨ρ,F,z,so,e,q⟩=>zha so e q
theorem zh7 {f:String}{x:Str}{p:Pos}{y:Expr}(hc:CallR X (.builtin f) (rAgg X.K f))(hm:X.mg x=none)(hv:cv x=some (.builtin f))(hs:isStar y=false)(ha:PE X y (tD X.K fa))(hg:Gl X x)(hn:x≠"__name__")(hdb:(x==("__debug__":Str))=false):
  PE X (.Call (.Name x p) [y] [] pos) (tD X.K fun ρ=>(fa ρ>>=fun x=>z4z x.2>>=fun p=>Res.ok (x.1,p))>>=fun w=>aggD f w.2.1 w.2.2>>=fun d=>.ok (gJ d (if imms w.2.2 then .fr else agG w.1),d)):=
 PE.imp (zgh hc hm hv (pa_c ha z3v hs) (by simp[hs]) hg hn hdb) fun σ H Q ⟨ρ,F,z,so,e,q⟩=>zha so e q
end
end Mi
namespace Mi
open PySem PySem.Spec
structure NoKeys (T id:String):Prop where
 own:PySem.Slot T "__getattribute__" id
 entry:entryFor table id=some Builtin.«object.__getattribute__»
 two:∀a b:Value,argsOk id {pos:=[a,b]}
 rest:typeLookup (.type T) "__getattr__"=pure none
 miss:∀(a:Addr) (xs:Array Value) (k:Nat) (sl:Array (Option Value)) (u:Tok),Meets (Builtin.«object.__getattribute__» {pos:=[.ref a,.str "keys" u]}) fun A R s=>s.heap.get? a=some {cls:=.type T,data:=.seq xs k,slots:=sl}/\raisesAttr (.ref a) "keys" A R s
theorem NoKeys.ask {T id:String}(N:NoKeys T id){prog:bc}{w:World}{A:bz}{E:Value->aa->Prop}{s:aa}{a:Addr}{o:Obj}{xs:Array Value}{k:Nat}{Q:Option Value->aa->Prop}
  (hx:s.heap.get? a=some o) (hc:o.cls=.type T) (hdat:o.data=.seq xs k) (hd:o.dict=none) (hA:A.handled=none)
  (h:∀h' tk e,Heap.NewExcOf s.heap h' e "AttributeError"->Q none {s with heap:=h',toks:=tk}):
  wpAny (model prog w) A (ue (.ref a) "keys") Q E s:=by
 cases o;cases hc;cases hdat;cases hd;cases s;rename_i slots heap gens drawn toks os;have ty:∀t,(⟨heap,gens,drawn,t,os⟩:aa).TypeIs (.ref a) T:=fun t=>⟨_,hx,rfl⟩;have isA:=sub_AttributeError;have n1:=N.own.lookup;have n2:=N.own.bind (.ref a);have n3:=N.rest
 delta ue getAttrBy? getAttrBy
 repeat' (first|assumption|exact ty _|(apply jr N.own (ty _) N.entry (N.two _ _) (N.miss a xs k slots _))|wp_step)
 refine⟨hx,hA,fun hp2 tk2 ex nx=>?_⟩;obtain⟨t2,u2,there⟩:=nx.there;have fin:=fun t=>h _ t _ nx.of
 dsimp only[wants]
 delta getattributeRaised
 repeat' (first|assumption|apply fin|wp_step)
end Mi
namespace Mi
open PySem PySem.Spec PyProof.Rows L2
namespace F
end F
section
variable {X:Cx}{pins:List (Addr×Obj)}{σ:L2.St}
end
end Mi
namespace Mi
open PySem PySem.Spec PyProof.Rows PySem.W
def runT {α:Type}(lt:Nat->Nat->Bool):KasT α->α
 |.ret a=>a
 |.ask i j k=>runT lt (k (lt i j))
theorem z1z {α β:Type}(lt:Nat->Nat->Bool)(f:α->KasT β):∀t:KasT α,runT lt (t.bind f)=runT lt (f (runT lt t))
 |.ret _=>rfl
 |.ask i j k=>z1z lt f (k (lt i j))
section
variable (key:Nat->Nat)
abbrev ltk:Nat->Nat->Bool:=fun i j=>decide (key i<key j)
def Kp' (p:Array Nat)(i:Nat):Nat:=key (p.getD i 0)
variable {key}
theorem z30 {p q:Array Nat}{i j:Nat}(h:p[i]?=q[j]?):Kp' key p i=Kp' key q j:=by unfold Kp';rw[e8,e8,h]
theorem zdd {p:Array Nat}{i j:Nat}(hj:j<=p.size)(k:Nat):Kp' key (kas_rev p i j) k=if i<=k/\k<j then Kp' key p (i+j-1-k)else Kp' key p k:=by
 have h:=getElem?_mirror_all (xs:=p) (i:=i) hj k;split
 ·rename_i hk;refine z30 ?_;unfold kas_rev;rw[h,if_pos hk]
 ·rename_i hk;refine z30 ?_;unfold kas_rev;rw[h,if_neg hk]
theorem zq5 {p:Array Nat}{src d:Nat}(hs:src<p.size)(hd:d<=src)(k:Nat):Kp' key (bubble p src d) k=if k=src-d then Kp' key p src else if src-d<k/\k<=src then Kp' key p (k-1)else Kp' key p k:=by
 have h:=getElem?_bubble hs d hd k;split
 ·rename_i hk;exact z30 (by rw[h,if_pos hk])
 ·rename_i hk;split
  ·rename_i hk2;exact z30 (by rw[h,if_neg hk,if_pos hk2])
  ·rename_i hk2;exact z30 (by rw[h,if_neg hk,if_neg hk2])
theorem z44 (p:Array Nat)(i j:Nat):(kas_rev p i j).size=p.size:=mirror_size _ _ _ _
theorem z35 (p:Array Nat)(i j:Nat):(kas_rev p i j).Perm p:=mirror_perm _ _ _ _
theorem z5s (p:Array Nat):∀(f n:Nat),1<=n->n<=runT (ltk key) (kas_asc p f n)/\runT (ltk key) (kas_asc p f n)<=n+f/\(∀i,n<=i->i<runT (ltk key) (kas_asc p f n)->Kp' key p (i-1)<=Kp' key p i)/\
  (runT (ltk key) (kas_asc p f n)<n+f->Kp' key p (runT (ltk key) (kas_asc p f n))<Kp' key p (runT (ltk key) (kas_asc p f n)-1))
 |0,n,h=>⟨ah _,ah _,fun i h1 h2=>absurd (jt h1 h2) (b6 _),fun h2=>absurd h2 (b6 _)⟩
 |f+1,n,h=>by
  have e:runT (ltk key) (kas_asc p (f+1) n)=runT (ltk key) (if decide (Kp' key p n<Kp' key p (n-1))=true then .ret n else kas_asc p f (n+1)):=rfl;rw[e];by_cases hc:Kp' key p n<Kp' key p (n-1)
  ·rw[if_pos (ul hc)];exact⟨ah _,Nat.le_add_right _ _,fun i h1 h2=>absurd (jt h1 h2) (b6 _),fun _=>hc⟩
  ·rw[if_neg (show ¬_ from by simpa using hc)];obtain⟨i1,i2,i3,i4⟩:=z5s p f (n+1) (by omega);refine⟨by omega,by omega,fun i h1 h2=>?_,fun h2=>i4 (by omega)⟩;by_cases hi:i=n
   ·subst hi;omega
   ·exact i3 i (by omega) h2
structure DPre (key:Nat->Nat)(p:Array Nat)(n q:Nat):Prop where
 one:1<=n
 qn:q+1<=n
 sz:n<=p.size
 de:∀i,1<=i->i<n->Kp' key p i<=Kp' key p (i-1)
 eq:∀i,n<=i+1+q->i<n->Kp' key p i=Kp' key p (n-1)
theorem DPre.rev {p:Array Nat}{n q:Nat}(h:DPre key p n q)(k:Nat):Kp' key (kas_rev p (n-(q+1)) n) k=Kp' key p k:=by
 have:=h.qn;rw[zdd h.sz];split
 ·rename_i hk;rw[h.eq k (by omega) hk.2,h.eq _ (by omega) (by omega)]
 ·rfl
theorem z3d:∀(f:Nat) (p:Array Nat) (n q:Nat),DPre key p n q->n+f<=p.size->
  DPre key (runT (ltk key) (kas_desc f p n q)).1 (runT (ltk key) (kas_desc f p n q)).2.1 (runT (ltk key) (kas_desc f p n q)).2.2/\(runT (ltk key) (kas_desc f p n q)).1.Perm p/\(runT (ltk key) (kas_desc f p n q)).2.1<=n+f
 |0,p,n,q,h,hz=>⟨h,Array.Perm.refl _,ah _⟩
 |f+1,p,n,q,h,hz=>by
  have hn:=h.one;have e:runT (ltk key) (kas_desc (f+1) p n q)=runT (ltk key) (if decide (Kp' key p n<Kp' key p (n-1))=true then(if q>0 then kas_desc f (kas_rev p (n-(q+1)) n) (n+1) 0 else kas_desc f p (n+1) 0) else .ask (p.getD (n-1) 0) (p.getD n 0) fun d=>if d=true then .ret (p,n,q)else kas_desc f p (n+1) (q+1)):=rfl;rw[e];by_cases hc:Kp' key p n<Kp' key p (n-1)
  ·rw[if_pos (ul hc)];by_cases hq:q>0
   ·rw[if_pos hq]
    have h1:DPre key (kas_rev p (n-(q+1)) n) (n+1) 0:=⟨by omega,by omega,by rw[z44];omega,fun i i1 i2=>by
     rw[h.rev,h.rev];by_cases hi:i=n
     ·subst hi;omega
     ·exact h.de i i1 (by omega),fun i i1 i2=>by
     have:i=n:=by omega
     subst this;rfl⟩
    obtain⟨r1,r2,r3⟩:=z3d f _ (n+1) 0 h1 (by rw[z44];omega);exact⟨r1,r2.trans (z35 _ _ _),by omega⟩
   ·rw[if_neg hq]
    have h1:DPre key p (n+1) 0:=⟨by omega,by omega,by omega,fun i i1 i2=>by
     by_cases hi:i=n
     ·subst hi;omega
     ·exact h.de i i1 (by omega),fun i i1 i2=>by
     have:i=n:=by omega
     subst this;rfl⟩
    obtain⟨r1,r2,r3⟩:=z3d f _ (n+1) 0 h1 (by omega);exact⟨r1,r2,by omega⟩
  ·rw[if_neg (show ¬_ from by simpa using hc)];have e2:runT (ltk key) (KasT.ask (p.getD (n-1) 0) (p.getD n 0) fun d=>if d=true then .ret (p,n,q)else kas_desc f p (n+1) (q+1))=runT (ltk key) (if decide (Kp' key p (n-1)<Kp' key p n)=true then .ret (p,n,q)else kas_desc f p (n+1) (q+1)):=rfl;rw[e2];by_cases hc2:Kp' key p (n-1)<Kp' key p n
   ·rw[if_pos (ul hc2)];exact⟨h,Array.Perm.refl _,by show n<=_;omega⟩
   ·rw[if_neg (by simpa using hc2)]
    have h1:DPre key p (n+1) (q+1):=⟨by omega,by have :=h.qn;omega,by omega,fun i i1 i2=>by
     by_cases hi:i=n
     ·subst hi;omega
     ·exact h.de i i1 (by omega),fun i i1 i2=>by
     by_cases hi:i=n
     ·subst hi;rfl
     ·have :=h.eq i (by omega) (by omega);show _=Kp' key p (n+1-1);rw[qk];omega⟩
    obtain⟨r1,r2,r3⟩:=z3d f _ (n+1) (q+1) h1 (by omega);exact⟨r1,r2,by omega⟩
def Asc (key:Nat->Nat)(p:Array Nat)(m:Nat):Prop:=∀i,1<=i->i<m->Kp' key p (i-1)<=Kp' key p i
theorem z5m {p:Array Nat}{n nrem:Nat}(h1:1<=n)(hn:n<=nrem)(hz:nrem<=p.size)(de:∀i,1<=i->i<n->Kp' key p i<=Kp' key p (i-1)):
  Asc key (runT (ltk key) (kas_tail3 n nrem p)).2 (runT (ltk key) (kas_tail3 n nrem p)).1/\(runT (ltk key) (kas_tail3 n nrem p)).2.Perm p/\1<=(runT (ltk key) (kas_tail3 n nrem p)).1/\(runT (ltk key) (kas_tail3 n nrem p)).1<=nrem:=by
 unfold kas_tail3;rw[z1z];obtain⟨a1,a2,a3,_⟩:=z5s (key:=key) (kas_rev p 0 n) (nrem-n) n h1;refine⟨fun i i1 i2=>?_,z35 _ _ _,by show 1<=runT _ _;omega,by show runT _ _<=_;omega⟩;have i2':i<runT (ltk key) (kas_asc (kas_rev p 0 n) (nrem-n) n):=i2;by_cases hi:i<n
 ·show Kp' key (kas_rev p 0 n) (i-1)<=Kp' key (kas_rev p 0 n) i;rw[zdd (by omega),zdd (by omega),if_pos (by omega),if_pos (by omega)];have:=de (0+n-1-(i-1)) (by omega) (by omega);have e:0+n-1-(i-1)-1=0+n-1-i:=by omega
  rw[e]at this;exact this
 ·exact a3 i (by omega) i2'
theorem descPart_spec {p:Array Nat}{n nrem:Nat}(h1:1<=n)(hn:n<nrem)(hz:nrem<=p.size)(eq:∀i,i<n->Kp' key p i=Kp' key p (n-1))(lt:Kp' key p n<Kp' key p (n-1)):
  Asc key (runT (ltk key) (kas_descPart n nrem p)).2 (runT (ltk key) (kas_descPart n nrem p)).1/\(runT (ltk key) (kas_descPart n nrem p)).2.Perm p/\1<=(runT (ltk key) (kas_descPart n nrem p)).1/\(runT (ltk key) (kas_descPart n nrem p)).1<=nrem:=by
 unfold kas_descPart;rw[z1z]
 have h:DPre key p (n+1) 0:=⟨by omega,by omega,by omega,fun i i1 i2=>by
  by_cases hi:i=n
  ·subst hi;omega
  ·rw[eq i (by omega),eq (i-1) (by omega)];exact ah _,fun i i1 i2=>by
  have:i=n:=by omega
  subst this;rfl⟩
 obtain⟨r1,r2,r3⟩:=z3d (nrem-(n+1)) p (n+1) 0 h (by omega);generalize runT (ltk key) (kas_desc (nrem-(n+1)) p (n+1) 0)=r at r1 r2 r3 ⊢;have hsz:r.1.size=p.size:=r2.size_eq;by_cases hq:r.2.2>0
 ·rw[if_pos hq];obtain⟨t1,t2,t3,t4⟩:=z5m (key:=key) (p:=kas_rev r.1 (r.2.1-(r.2.2+1)) r.2.1) (n:=r.2.1) (nrem:=nrem) r1.one (by omega) (by rw[z44,hsz];exact hz) fun i i1 i2=>by rw[r1.rev,r1.rev];exact r1.de i i1 i2
  exact⟨t1,t2.trans ((z35 _ _ _).trans r2),t3,t4⟩
 ·rw[if_neg hq];obtain⟨t1,t2,t3,t4⟩:=z5m (key:=key) (p:=r.1) (n:=r.2.1) (nrem:=nrem) r1.one (by omega) (by rw[hsz];exact hz) r1.de;exact⟨t1,t2.trans r2,t3,t4⟩
theorem Asc.le {p:Array Nat}{m:Nat}(h:Asc key p m):∀(d i:Nat),i+d<m->Kp' key p i<=Kp' key p (i+d)
 |0,i,_=>ah _
 |d+1,i,hm=>by
  have h1:=Asc.le h d i (by omega);have h2:=h (i+d+1) (by omega) (by omega);have e:i+d+1-1=i+d:=by omega
  rw[e]at h2;exact ck h1 h2
theorem za9 {p:Array Nat}{nrem:Nat}(h1:1<=nrem)(hz:nrem<=p.size):
  Asc key (runT (ltk key) (kas_count nrem p)).2 (runT (ltk key) (kas_count nrem p)).1/\(runT (ltk key) (kas_count nrem p)).2.Perm p/\1<=(runT (ltk key) (kas_count nrem p)).1/\(runT (ltk key) (kas_count nrem p)).1<=nrem:=by
 unfold kas_count;rw[z1z];obtain⟨a1,a2,a3,a4⟩:=z5s (key:=key) p (nrem-1) 1 (ah _);generalize runT (ltk key) (kas_asc p (nrem-1) 1)=n at a1 a2 a3 a4 ⊢;have ha:Asc key p n:=a3;by_cases hn:n=nrem
 ·rw[if_pos (by simpa using hn)];exact⟨ha,Array.Perm.refl _,a1,by show n<=_;omega⟩
 ·rw[if_neg (by simpa using hn)];have lt:=a4 (by omega);by_cases h2:n>1
  ·rw[if_pos h2];have e:runT (ltk key) (KasT.ask (p.getD 0 0) (p.getD (n-1) 0) fun c=>if c=true then .ret (n,p)else kas_descPart n nrem (kas_rev p 0 n))=runT (ltk key) (if decide (Kp' key p 0<Kp' key p (n-1))=true then .ret (n,p)else kas_descPart n nrem (kas_rev p 0 n)):=rfl;rw[e];by_cases hc:Kp' key p 0<Kp' key p (n-1)
   ·rw[if_pos (ul hc)];exact⟨ha,Array.Perm.refl _,a1,by show n<=_;omega⟩
   ·rw[if_neg (show ¬_ from by simpa using hc)]
    have eq:∀i,i<n->Kp' key p i=Kp' key p (n-1):=fun i hi=>by
     have b1:=ha.le i 0 (by omega);have b2:=ha.le (n-1-i) i (by omega);have e1:0+i=i:=by omega
     have e2:i+(n-1-i)=n-1:=by omega
     rw[e1]at b1;rw[e2]at b2;omega
    have eqr:∀i,i<n->Kp' key (kas_rev p 0 n) i=Kp' key p (n-1):=fun i hi=>by rw[zdd (by omega),if_pos (by omega)];exact eq _ (by omega)
    obtain⟨t1,t2,t3,t4⟩:=descPart_spec (key:=key) (p:=kas_rev p 0 n) (n:=n) (nrem:=nrem) (by omega) (by omega) (by rw[z44];exact hz) (fun i hi=>by rw[eqr i hi,eqr (n-1) (by omega)]) (by rw[eqr (n-1) (by omega),zdd (by omega),if_neg (by omega)];exact lt);exact⟨t1,t2.trans (z35 _ _ _),t3,t4⟩
  ·rw[if_neg h2];have h11:n=1:=by omega
   subst h11
   exact descPart_spec (Nat.le_refl _) (by omega) hz (fun i hi=>by have :i=0:=by omega
                                                                   subst this;rfl) lt
theorem place_spec {p:Array Nat}{k:Nat}(ha:Asc key p k):∀(f l r:Nat),r-l<=f->l<=r->r<=k->(∀i,i<l->Kp' key p i<=Kp' key p k)->(∀i,r<=i->i<k->Kp' key p k<Kp' key p i)->
  runT (ltk key) (kas_place p k f l r)<=k/\(∀i,i<runT (ltk key) (kas_place p k f l r)->Kp' key p i<=Kp' key p k)/\(∀i,runT (ltk key) (kas_place p k f l r)<=i->i<k->Kp' key p k<Kp' key p i)
 |0,l,r,hf,hl,hr,h1,h2=>by
  have:l=r:=by omega
  subst this;exact⟨hr,h1,h2⟩
 |f+1,l,r,hf,hl,hr,h1,h2=>by
  unfold kas_place;by_cases hc:l ≥ r
  ·rw[if_pos hc];have:l=r:=by omega
   subst this;exact⟨hr,h1,h2⟩
  ·rw[if_neg hc];have e:runT (ltk key) (KasT.ask (p.getD k 0) (p.getD ((l+r)/2) 0) fun c=>if c=true then kas_place p k f l ((l+r)/2)else kas_place p k f ((l+r)/2+1) r)=runT (ltk key) (if decide (Kp' key p k<Kp' key p ((l+r)/2))=true then kas_place p k f l ((l+r)/2)else kas_place p k f ((l+r)/2+1) r):=rfl;rw[e];have hm1:l<=(l+r)/2:=by omega
   have hm2:(l+r)/2<r:=by omega
   generalize (l+r)/2=m at hm1 hm2 ⊢;by_cases hx:Kp' key p k<Kp' key p m
   ·rw[if_pos (ul hx)];refine place_spec ha f l m (by omega) hm1 (by omega) h1 fun i i1 i2=>?_;have:=ha.le (i-m) m (by omega);have e2:m+(i-m)=i:=by omega
    rw[e2]at this;omega
   ·rw[if_neg (by simpa using hx)];refine place_spec ha f (m+1) r (by omega) (by omega) hr (fun i i1=>?_) h2;have:=ha.le (m-i) i (by omega);have e2:i+(m-i)=m:=by omega
    rw[e2]at this;omega
theorem z9f:∀(f:Nat) (p:Array Nat) (k:Nat),Asc key p k->k+f<=p.size->Asc key (runT (ltk key) (kas_bin f p k)) (k+f)/\(runT (ltk key) (kas_bin f p k)).Perm p
 |0,p,k,ha,hz=>⟨ha,Array.Perm.refl _⟩
 |f+1,p,k,ha,hz=>by
  unfold kas_bin;rw[z1z];obtain⟨l1,l2,l3⟩:=place_spec (key:=key) ha k 0 k (by omega) (ce _) (ah _) (fun i hi=>absurd hi (Nat.not_lt_zero _)) fun i i1 i2=>absurd (jt i1 i2) (b6 _);generalize runT (ltk key) (kas_place p k k 0 k)=l at l1 l2 l3 ⊢
  have hb:Asc key (bubble p k (k-l)) (k+1):=fun i i1 i2=>by
   have e:k-(k-l)=l:=by omega
   rw[zq5 (by omega) (by omega),zq5 (by omega) (by omega),e];by_cases c1:i=l
   ·rw[if_neg (by omega),if_neg (by omega),if_pos c1];exact l2 _ (by omega)
   ·rw[if_neg c1];by_cases c2:i-1=l
    ·rw[if_pos c2,if_pos (by omega)];rw[c2];exact j6 (l3 l (ah _) (by omega))
    ·rw[if_neg c2];by_cases c3:l<i
     ·rw[if_pos (by omega),if_pos (by omega)];exact ha (i-1) (by omega) (by omega)
     ·rw[if_neg (by omega),if_neg (by omega)];exact ha i i1 (by omega)
  obtain⟨b1,b2⟩:=z9f f (bubble p k (k-l)) (k+1) hb (by rw[bubble_size];omega);refine⟨?_,b2.trans (bubble_perm _ _ _)⟩;have e:k+1+f=k+(f+1):=by omega
  rw[e]at b1;exact b1
theorem z4o (n:Nat)(h1:1<=n):Asc key (runT (ltk key) (kas_sort n)) n/\(runT (ltk key) (kas_sort n)).Perm (f8 (b8 n)):=by
 unfold kas_sort;rw[z1z];have hsz:(f8 (b8 n)).size=n:=by simp
 obtain⟨c1,c2,c3,c4⟩:=za9 (key:=key) (p:=f8 (b8 n)) h1 (by rw[hsz];exact ah _);generalize runT (ltk key) (kas_count n (f8 (b8 n)))=r at c1 c2 c3 c4 ⊢;have hr:r.2.size=n:=by rw[c2.size_eq,hsz]
 by_cases h:r.1<n
 ·rw[if_pos h];have e:max r.1 1=r.1:=by omega
  rw[e];obtain⟨b1,b2⟩:=z9f (key:=key) (n-r.1) r.2 r.1 c1 (by omega);refine⟨?_,b2.trans c2⟩;have e:r.1+(n-r.1)=n:=by omega
  rw[e]at b1;exact b1
 ·rw[if_neg h];have e:r.1=n:=by omega
  rw[e]at c1;exact⟨c1,c2⟩
end
theorem z2f {h:Heap}{a b:Addr}{f:Obj->Obj}{o:Obj}(hb:b≠a)(e:h.get? b=some o):(h.update a f).get? b=some o:=by rw[pz _ _ _ _ hb];exact e
theorem z7w {prog:bc}{w:World}{A:bz}{E:Value->aa->Prop}{s:aa}{l:Addr}{vs:List Value}{Q:Value->aa->Prop}(hl:s.heap.IsList l vs.toArray)(h2:vs.length<2)
  (h:∀D h' n,s.heap.objs.size<=D->(∀b o,s.heap.get? b=some o->h'.get? b=some o)->h'.get? D=some (cu "list" vs.toArray n)->Q (.ref D) {s with heap:=h'}):wpAny (model prog w) A (call (.builtin "sorted") [.ref l]) Q E s:=by
 apply i9 tf rk rm (rq _);unfold Builtin.«sorted»;apply af (m:=uf "sorted" 1 1 _);apply a8;apply af;refine collect_list hl ?_ (by rw[cq];omega);apply af;refine jg ?_ (by rw[cq];omega);have k1:∀b o,s.heap.get? b=some o->((s.heap.push (cu "list" #[] 0)).update s.heap.objs.size (Obj.mapSeq (· ++vs.toArray))).get? b=some o:=fun b o e=>z2f (bx (bg e)) (ag _ e);have z1:s.heap.objs.size<=((s.heap.push (cu "list" #[] 0)).update s.heap.objs.size (Obj.mapSeq (· ++vs.toArray))).objs.size:=by rw[Heap.size_update,ug];omega
 generalize ((s.heap.push (cu "list" #[] 0)).update s.heap.objs.size (Obj.mapSeq (·++vs.toArray)))=h1 at k1 z1 ⊢;have hoL:(h1.push (cu "list" vs.toArray 0)).get? h1.objs.size=some (cu "list" vs.toArray 0):=bh _ rfl;have k2:∀b o,s.heap.get? b=some o->b≠h1.objs.size/\(h1.push (cu "list" vs.toArray 0)).get? b=some o:=fun b o e=>⟨bx (br (bg e) z1),ag _ (k1 b o e)⟩;show wpAny _ _ _ _ _ {s with heap:=h1.push (cu "list" vs.toArray 0)};generalize hD:h1.objs.size=D at hoL k2 z1 ⊢;generalize h1.push (cu "list" vs.toArray 0)=h2' at hoL k2 ⊢;apply af;apply dr;refine im slot_list_sort ⟨_,hoL,rfl⟩ entry_list_sort ?body (args_list_sort _);rw[list_sort_plain];refine af (nz (s:={s with heap:=h2'}) hoL rfl ?_);refine af (kr (s:={s with heap:=h2'}) hoL rfl ?_ (hsz:=by rw[cq];simp;omega));obtain⟨e1,ho1⟩:∃e1,(h2'.update D (Obj.mapSeq fun _=>(#[]:Array Value))).get? D=some (cu "list" #[] e1):=⟨_,jn hoL fun _=>#[]⟩;have k3:∀b o,s.heap.get? b=some o->b≠D/\(h2'.update D (Obj.mapSeq fun _=>(#[]:Array Value))).get? b=some o:=fun b o e=>⟨(k2 b o e).1,z2f (k2 b o e).1 (k2 b o e).2⟩;generalize (h2'.update D (Obj.mapSeq fun _=>(#[]:Array Value)))=h3 at ho1 k3 ⊢;refine af (o5 (s:={s with heap:=h3}) ho1 rfl ?_);refine af (wpAny_newTuple ?_ (by rw[cq];simp;omega));apply af;refine jg ?_;refine dr ?_;have ho6:((h3.push (cu "tuple" vs.toArray 0)).push (cu "list" #[] 0)).get? D=some (cu "list" #[] e1):=ag _ (ag _ ho1);have k6:∀b o,s.heap.get? b=some o->b≠D/\((h3.push (cu "tuple" vs.toArray 0)).push (cu "list" #[] 0)).get? b=some o:=fun b o e=>⟨(k3 b o e).1,ag _ (ag _ (k3 b o e).2)⟩;show wpAny (model prog w) _ _ _ _ {s with heap:=(h3.push (cu "tuple" vs.toArray 0)).push (cu "list" #[] 0)};generalize ((h3.push (cu "tuple" vs.toArray 0)).push (cu "list" #[] 0))=h6 at ho6 k6 ⊢
 dsimp only
 have hz:vs.toArray.size<2:=by simpa using h2
 rw[if_pos hz,if_pos hz];refine af (a8 ?_);rw[StateT.run_pure];refine af (a8 ?_)
 dsimp only
 refine af (o5 (s:={s with heap:=h6}) ho6 rfl ?_);have em:(arrOf (SortSt.mk' general' (vs.toArray.zip vs.toArray) #[] 7 none)).map (·.2)=vs.toArray:=by show(vs.toArray.zip vs.toArray).map (·.2)=vs.toArray;simp;exact List.map_snd_zip (ah _)
 rw[em];refine af (kr (s:={s with heap:=h6}) ho6 rfl ?_ (hsz2:=by rw[cq];simp;omega));simp only[if_false,ql,bne_self_eq_false];refine a8 ⟨_,rfl,a8 ⟨_,rfl,h D _ _ z1 (fun b o e=>z2f (k6 b o e).1 (k6 b o e).2) (jn ho6 fun _=>vs.toArray)⟩⟩
def z14 {α:Type}(n:Nat)(Q:α->Prop):KasT α->Prop
 |.ret a=>Q a
 |.ask i j k=>i<n/\j<n/\∀b,z14 n Q (k b)
theorem z14.bind {α β:Type}{n:Nat}{Q:α->Prop}{R:β->Prop}{f:α->KasT β}(hf:∀a,Q a->z14 n R (f a)):∀{t:KasT α},z14 n Q t->z14 n R (t.bind f)
 |.ret a,h=>hf a h
 |.ask i j k,h=>⟨h.1,h.2.1,fun b=>z14.bind hf (h.2.2 b)⟩
theorem z14.ite {α:Type}{n:Nat}{Q:α->Prop}{c:Prop} [Decidable c] {a b:KasT α}(h1:z14 n Q a)(h2:z14 n Q b):z14 n Q (if c then a else b):=by
 split
 ·exact h1
 ·exact h2
def AllIn (n:Nat)(p:Array Nat):Prop:=0<n/\∀x∈p,x<n
theorem AllIn.get {n:Nat}{p:Array Nat}(h:AllIn n p)(i:Nat):p.getD i 0<n:=by
 rw[e8];cases e:p[i]? with
 |none=>exact h.1
 |some x=>exact h.2 x (Array.mem_of_getElem? e)
theorem AllIn.perm {n:Nat}{p q:Array Nat}(h:AllIn n p)(hp:q.Perm p):AllIn n q:=⟨h.1,fun x hx=>h.2 x (hp.mem_iff.mp hx)⟩
theorem AllIn.rev {n:Nat}{p:Array Nat}(h:AllIn n p)(i j:Nat):AllIn n (kas_rev p i j):=h.perm (z35 _ _ _)
theorem z5q {n:Nat}{p:Array Nat}(h:AllIn n p):∀f m,z14 n (fun _=>True) (kas_asc p f m)
 |0,m=>trivial
 |f+1,m=>⟨h.get _,h.get _,fun b=>z14.ite trivial (z5q h f (m+1))⟩
theorem z3c {n:Nat}:∀(f:Nat) (p:Array Nat) (m q:Nat),AllIn n p->z14 n (fun r=>AllIn n r.1) (kas_desc f p m q)
 |0,p,m,q,h=>h
 |f+1,p,m,q,h=>⟨h.get _,h.get _,fun b=>z14.ite (z14.ite (z3c f _ _ _ (h.rev _ _)) (z3c f _ _ _ h)) ⟨h.get _,h.get _,fun d=>z14.ite h (z3c f _ _ _ h)⟩⟩
theorem z5f {n m r:Nat}{p:Array Nat}(h:AllIn n p):z14 n (fun r=>AllIn n r.2) (kas_tail3 m r p):=by unfold kas_tail3;refine z14.bind (Q:=fun _=>True) (fun a _=>?_) (z5q (h.rev _ _) _ _);exact h.rev _ _
theorem z34 {n m r:Nat}{p:Array Nat}(h:AllIn n p):z14 n (fun r=>AllIn n r.2) (kas_descPart m r p):=by unfold kas_descPart;exact z14.bind (fun a ha=>z14.ite (z5f (AllIn.rev ha _ _)) (z5f ha)) (z3c _ _ _ _ h)
theorem zac {n r:Nat}{p:Array Nat}(h:AllIn n p):z14 n (fun r=>AllIn n r.2) (kas_count r p):=by
 unfold kas_count;refine z14.bind (Q:=fun _=>True) (fun m _=>?_) (z5q h _ _);split
 ·exact h
 ·split
  ·refine⟨h.get _,h.get _,fun c=>?_⟩;show z14 n _ (if c=true then _ else _);split
   ·exact h
   ·exact z34 (h.rev _ _)
  ·exact z34 h
theorem z3k {n:Nat}{p:Array Nat}(h:AllIn n p)(k:Nat):∀f l r,z14 n (fun _=>True) (kas_place p k f l r)
 |0,l,r=>trivial
 |f+1,l,r=>by unfold kas_place;exact z14.ite trivial ⟨h.get _,h.get _,fun c=>z14.ite (z3k h k f _ _) (z3k h k f _ _)⟩
theorem z97 {n:Nat}:∀(f:Nat) (p:Array Nat) (k:Nat),AllIn n p->z14 n (fun _=>True) (kas_bin f p k)
 |0,p,k,h=>trivial
 |f+1,p,k,h=>z14.bind (fun l _=>z97 f _ _ (h.perm (bubble_perm _ _ _))) (z3k h k _ _ _)
theorem z7c {n:Nat}(h:0<n):z14 n (fun _=>True) (kas_sort n):=by
 have h0:AllIn n (f8 (b8 n)):=⟨h,fun x hx=>by simpa using hx⟩;unfold kas_sort;refine z14.bind (fun r hr=>?_) (zac h0);split
 ·exact z97 _ _ _ hr
 ·exact trivial
theorem z3p {α:Type}{n:Nat}{cmp:Nat->Nat->(Bool->aa->Prop)->aa->Prop}{lt:Nat->Nat->Bool}{P:aa->Prop}(h:∀i j C s,i<n->j<n->P s->(∀s',P s'->C (lt i j) s')->cmp i j C s){Q:α->aa->Prop}:∀(t:KasT α) (s:aa),z14 n (fun _=>True) t->P s->(∀s',P s'->Q (runT lt t) s')->t.kasWp cmp Q s
 |.ret a,s,_,p,q=>q s p
 |.ask i j k,s,a,p,q=>h i j _ s a.1 a.2.1 p fun s' p'=>z3p h (k (lt i j)) s' (a.2.2 _) p' q
structure OrdOn (p:D->Prop):Prop where
 irr:∀x,p x->ltD x x=false
 tr:∀x y z,p x->p y->p z->ltD x y=true->ltD y z=true->ltD x z=true
 ntr:∀x y z,p x->p y->p z->ltD x z=true->ltD x y=true\/ltD y z=true
 tot:∀x y,p x->p y->ltD x y=false->ltD y x=false->x=y
theorem z1x {x:D}(h:isI x=true):∃i,x=.int i:=by cases x<;>first|(cases h;done)|exact⟨_,rfl⟩
theorem z1t {x:D}(h:isS x=true):∃i,x=.str i:=by cases x<;>first|(cases h;done)|exact⟨_,rfl⟩
theorem z3q (a b:Int):ltD (.int a) (.int b)=decide (a<b):=rfl
theorem z2r (a b:Str):ltD (.str a) (.str b)=decide (a.cps.toList<b.cps.toList):=rfl
theorem ordI:OrdOn (fun x=>isI x=true) where
 irr:=fun x h=>by obtain⟨i,rfl⟩:=z1x h;rw[z3q];simp
 tr:=fun x y z hx hy hz h1 h2=>by obtain⟨i,rfl⟩:=z1x hx;obtain⟨j,rfl⟩:=z1x hy;obtain⟨k,rfl⟩:=z1x hz;rw[z3q,decide_eq_true_eq]at *;omega
 ntr:=fun x y z hx hy hz h=>by
  obtain⟨i,rfl⟩:=z1x hx;obtain⟨j,rfl⟩:=z1x hy;obtain⟨k,rfl⟩:=z1x hz;rw[z3q,decide_eq_true_eq]at *
  rw[z3q,decide_eq_true_eq];omega
 tot:=fun x y hx hy h1 h2=>by
  obtain⟨i,rfl⟩:=z1x hx;obtain⟨j,rfl⟩:=z1x hy;rw[z3q,decide_eq_false_iff_not]at *
  rw[show i=j by omega]
theorem zku {a b:Str}(h:a.cps.toList=b.cps.toList):a=b:=by obtain⟨⟨l⟩⟩:=a;obtain⟨⟨m⟩⟩:=b;simp only at h;rw[h]
theorem ordS:OrdOn (fun x=>isS x=true) where
 irr:=fun x h=>by obtain⟨i,rfl⟩:=z1t h;rw[z2r];exact strKind.irrefl _
 tr:=fun x y z hx hy hz h1 h2=>by
  obtain⟨i,rfl⟩:=z1t hx;obtain⟨j,rfl⟩:=z1t hy;obtain⟨k,rfl⟩:=z1t hz;rw[z2r]at *
  exact strKind.trans _ _ _ h1 h2
 ntr:=fun x y z hx hy hz h=>by
  obtain⟨i,rfl⟩:=z1t hx;obtain⟨j,rfl⟩:=z1t hy;obtain⟨k,rfl⟩:=z1t hz;rw[z2r]at *
  rw[z2r];exact strKind.negTrans _ _ _ h
 tot:=fun x y hx hy h1 h2=>by
  obtain⟨i,rfl⟩:=z1t hx;obtain⟨j,rfl⟩:=z1t hy;rw[z2r]at *
  rw[zku (strKind.total _ _ h1 h2)]
theorem ordK (b:Bool):OrdOn (fun x=>ofK b x=true):=by
 cases b with
 |true=>exact ordI
 |false=>exact ordS
theorem ze0 {b:Bool}{x y:D}(hx:ofK b x=true)(hy:ofK b y=true):eqD x y=true↔x=y:=by
 cases b with
 |true=>obtain⟨i,rfl⟩:=z1x hx;obtain⟨j,rfl⟩:=z1x hy;show(i==j)=true↔_;rw[beq_iff_eq];exact⟨fun h=>by rw[h],fun h=>by cases h;rfl⟩
 |false=>obtain⟨i,rfl⟩:=z1t hx;obtain⟨j,rfl⟩:=z1t hy;show(i==j)=true↔_;rw[beq_iff_eq];exact⟨fun h=>by rw[h],fun h=>by cases h;rfl⟩
theorem z0d {b:Bool}{bs:List Bool}{xs:List D}(h:shps (b::bs) xs=true):∃x r,xs=x::r/\ofK b x=true/\shps bs r=true:=by
 cases xs with
 |nil=>cases h
 |cons x r=>simp only[shps,ak]at h;exact⟨x,r,rfl,h.1,h.2⟩
theorem z0i {xs:List D}(h:shps [] xs=true):xs=[]:=by
 cases xs with
 |nil=>rfl
 |cons x r=>cases h
theorem z1r (x y:D)(xs ys:List D):ltDs (x::xs) (y::ys)=if eqD x y then ltDs xs ys else ltD x y:=by simp only[ltDs]
theorem z25 {b:Bool}{x y:D}{xs ys:List D}(hx:ofK b x=true)(hy:ofK b y=true)(h:x=y):ltDs (x::xs) (y::ys)=ltDs xs ys:=by rw[z1r,if_pos ((ze0 hx hy).mpr h)]
theorem z18 {b:Bool}{x y:D}{xs ys:List D}(hx:ofK b x=true)(hy:ofK b y=true)(h:x≠y):ltDs (x::xs) (y::ys)=ltD x y:=by rw[z1r,if_neg fun z=>h ((ze0 hx hy).mp z)]
theorem z1m:ltDs [] []=false:=by simp[ltDs]
theorem zi5:∀(bs:List Bool) (xs:List D),shps bs xs=true->ltDs xs xs=false
 | [],xs,h=>by rw[z0i h];exact z1m
 |b::bs,xs,h=>by obtain⟨x,r,rfl,h1,h2⟩:=z0d h;rw[z25 h1 h1 rfl];exact zi5 bs r h2
theorem zno:∀(bs:List Bool) (xs ys zs:List D),shps bs xs=true->shps bs ys=true->shps bs zs=true->ltDs xs ys=true->ltDs ys zs=true->ltDs xs zs=true
 | [],xs,ys,zs,h1,h2,h3,e1,e2=>by rw[z0i h1,z0i h2,z1m]at e1;cases e1
 |b::bs,xs,ys,zs,h1,h2,h3,e1,e2=>by
  obtain⟨x,xs,rfl,hx,h1⟩:=z0d h1;obtain⟨y,ys,rfl,hy,h2⟩:=z0d h2;obtain⟨z,zs,rfl,hz,h3⟩:=z0d h3;have O:=ordK b;by_cases xy:x=y
  ·rw[z25 hx hy xy]at e1;by_cases yz:y=z
   ·rw[z25 hy hz yz]at e2;rw[z25 hx hz (xy.trans yz)];exact zno bs xs ys zs h1 h2 h3 e1 e2
   ·rw[z18 hy hz yz]at e2;rw[z18 hx hz (by rw[xy];exact yz),xy];exact e2
  ·rw[z18 hx hy xy]at e1;by_cases yz:y=z
   ·rw[z18 hx hz (by rw[<-yz];exact xy),<-yz];exact e1
   ·rw[z18 hy hz yz]at e2;have e3:=O.tr x y z hx hy hz e1 e2;rw[z18 hx hz (fun q=>by subst q;rw[O.irr x hx]at e3;cases e3)];exact e3
theorem zh5:∀(bs:List Bool) (xs ys zs:List D),shps bs xs=true->shps bs ys=true->shps bs zs=true->ltDs xs zs=true->ltDs xs ys=true\/ltDs ys zs=true
 | [],xs,ys,zs,h1,h2,h3,e1=>by rw[z0i h1,z0i h3,z1m]at e1;cases e1
 |b::bs,xs,ys,zs,h1,h2,h3,e=>by
  obtain⟨x,xs,rfl,hx,h1⟩:=z0d h1;obtain⟨y,ys,rfl,hy,h2⟩:=z0d h2;obtain⟨z,zs,rfl,hz,h3⟩:=z0d h3;have O:=ordK b;by_cases xz:x=z
  ·rw[z25 hx hz xz]at e;by_cases xy:x=y
   ·rw[z25 hx hy xy,z25 hy hz (xy.symm.trans xz)];exact zh5 bs xs ys zs h1 h2 h3 e
   ·rw[z18 hx hy xy,z18 hy hz (fun q=>xy (xz.trans q.symm)),<-xz];cases e1:ltD x y with
    |true=>exact .inl rfl
    |false=>
     cases e2:ltD y x with
     |true=>exact .inr rfl
     |false=>exact(xy (O.tot x y hx hy e1 e2)).elim
  ·rw[z18 hx hz xz]at e;by_cases xy:x=y
   ·rw[z18 hy hz (fun q=>xz (xy.trans q)),<-xy];exact .inr e
   ·rw[z18 hx hy xy];by_cases yz:y=z
    ·rw[yz];exact .inl e
    ·rw[z18 hy hz yz];exact O.ntr x y z hx hy hz e
theorem zgz:∀(bs:List Bool) (xs ys:List D),shps bs xs=true->shps bs ys=true->ltDs xs ys=false->ltDs ys xs=false->xs=ys
 | [],xs,ys,h1,h2,e1,e2=>by rw[z0i h1,z0i h2]
 |b::bs,xs,ys,h1,h2,e1,e2=>by
  obtain⟨x,xs,rfl,hx,h1⟩:=z0d h1;obtain⟨y,ys,rfl,hy,h2⟩:=z0d h2;by_cases xy:x=y
  ·rw[z25 hx hy xy]at e1;rw[z25 hy hx xy.symm]at e2;rw[xy,zgz bs xs ys h1 h2 e1 e2]
  ·rw[z18 hx hy xy]at e1;rw[z18 hy hx (fun q=>xy q.symm)]at e2;exact(xy ((ordK b).tot x y hx hy e1 e2)).elim
theorem z0z {bs:List Bool}{x:D}(h:z2u bs x=true):∃xs,x=.tuple xs/\shps bs xs=true:=by cases x<;>first|(cases h;done)|exact⟨_,rfl,h⟩
theorem z3r (a b:List D):ltD (.tuple a) (.tuple b)=ltDs a b:=rfl
theorem ordT (bs:List Bool):OrdOn (fun x=>z2u bs x=true) where
 irr:=fun x h=>by obtain⟨i,rfl,h⟩:=z0z h;rw[z3r];exact zi5 bs i h
 tr:=fun x y z hx hy hz h1 h2=>by
  obtain⟨i,rfl,hx⟩:=z0z hx;obtain⟨j,rfl,hy⟩:=z0z hy;obtain⟨k,rfl,hz⟩:=z0z hz;rw[z3r]at *
  exact zno bs _ _ _ hx hy hz h1 h2
 ntr:=fun x y z hx hy hz h=>by
  obtain⟨i,rfl,hx⟩:=z0z hx;obtain⟨j,rfl,hy⟩:=z0z hy;obtain⟨k,rfl,hz⟩:=z0z hz;rw[z3r]at *
  rw[z3r];exact zh5 bs _ _ _ hx hy hz h
 tot:=fun x y hx hy h1 h2=>by
  obtain⟨i,rfl,hx⟩:=z0z hx;obtain⟨j,rfl,hy⟩:=z0z hy;rw[z3r]at *
  rw[zgz bs _ _ hx hy h1 h2]
def SrtD (l:List D):Prop:=l.Pairwise fun a b=>ltD b a=false
theorem z4t (x:D):∀l:List D,(insD x l).Perm (x::l)
 | []=>.refl _
 |y::l=>by
  unfold insD;split
  ·exact((z4t x l).cons y).trans (.swap x y l)
  ·exact .refl _
theorem z3n:∀l:List D,(z1h l).Perm l
 | []=>.refl _
 |x::l=>(z4t x (z1h l)).trans ((z3n l).cons x)
section
variable {p:D->Prop}(O:OrdOn p)
include O
theorem OrdOn.asym {x y:D}(hx:p x)(hy:p y)(h:ltD x y=true):ltD y x=false:=by
 cases e:ltD y x with
 |false=>rfl
 |true=>have:=O.tr x y x hx hy hx h e;rw[O.irr x hx]at this;cases this
theorem z9r (x:D)(hx:p x):∀l:List D,(∀y∈l,p y)->SrtD l->SrtD (insD x l)
 | [],_,_=>mx _ _
 |y::l,hp,hs=>by
  have hy:=hp y (by simp);have hl:∀z∈l,p z:=fun z hz=>hp z (by simp[hz]);obtain⟨h1,h2⟩:=cg.mp hs;unfold insD;split
  ·rename_i hc;refine cg.mpr ⟨fun z hz=>?_,z9r x hx l hl h2⟩;rcases ao.mp ((z4t x l).mem_iff.mp hz)with rfl|hz
   ·exact O.asym hy hx hc
   ·exact h1 z hz
  ·rename_i hc;refine cg.mpr ⟨fun z hz=>?_,hs⟩;rcases(ao.mp hz)with rfl|hz
   ·exact by simpa using hc
   ·cases e:ltD z x with
    |false=>rfl
    |true=>
     rcases O.ntr z y x (hl z hz) hy hx e with q|q
     ·rw[h1 z hz]at q;cases q
     ·exact(hc q).elim
theorem z78:∀l:List D,(∀y∈l,p y)->SrtD (z1h l)
 | [],_=>List.Pairwise.nil
 |x::l,hp=>z9r O x (hp x (by simp)) _ (fun z hz=>hp z (by simp[(z3n l).mem_iff.mp hz])) (z78 l fun z hz=>hp z (by simp[hz]))
theorem za5:∀{a b:List D},(∀y∈a,p y)->a.Perm b->SrtD a->SrtD b->a=b
 | [],b,_,hp,_,_=>(hp.symm.eq_nil).symm
 |x::a,[],_,hp,_,_=>by have:=hp.length_eq;simp at this
 |x::a,y::b,hq,hp,ha,hb=>by
  obtain⟨a1,a2⟩:=cg.mp ha;obtain⟨b1,b2⟩:=cg.mp hb;have hx:=hq x (by simp);have hy:p y:=hq y (hp.mem_iff.mpr (by simp))
  have e:x=y:=by
   refine O.tot x y hx hy ?_ ?_
   ·rcases ao.mp (hp.mem_iff.mp (show x∈x::a by simp))with q|q
    ·rw[<-q];exact O.irr x hx
    ·exact b1 x q
   ·rcases ao.mp (hp.mem_iff.mpr (show y∈y::b by simp))with q|q
    ·rw[<-q];exact O.irr y hy
    ·exact a1 y q
  subst e;rw[za5 (fun z hz=>hq z (by simp[hz])) (List.perm_cons x |>.mp hp) a2 b2]
def rank (ds:List D)(i:Nat):Nat:=ds.countP fun d=>ltD d (ds.getD i .none)
omit O in
theorem z76 {q r:D->Bool}:∀(l:List D),(∀x∈l,q x=true->r x=true)->(∃x∈l,r x=true/\q x=false)->l.countP q<l.countP r
 | [],_,⟨_,h,_⟩=>by simp at h
 |x::l,h,⟨y,hy,h1,h2⟩=>by
  have hl:l.countP q<=l.countP r:=oh fun z hz=>h z (by simp[hz]);rcases(ao.mp hy)with rfl|hy
  ·rw[List.countP_cons_of_neg (by rw[h2];simp),List.countP_cons_of_pos h1];omega
  ·have :=z76 l (fun z hz=>h z (by simp[hz])) ⟨y,hy,h1,h2⟩;rw[List.countP_cons,List.countP_cons];have hx:=h x (by simp);cases e:q x with
   |true=>rw[hx e];simp;exact this
   |false=>simp;split<;>omega
theorem z86 {ds:List D}(hp:∀d∈ds,p d){i j:Nat}(hi:i<ds.length)(hj:j<ds.length):decide (rank ds i<rank ds j)=ltD (ds.getD i .none) (ds.getD j .none):=by
 have ei:ds.getD i .none=ds[i]:=by simp[hi]
 have ej:ds.getD j .none=ds[j]:=by simp[hj]
 have mi:ds[i]∈ds:=ez hi;have mj:ds[j]∈ds:=ez hj;unfold rank;rw[ei,ej];cases e:ltD ds[i] ds[j]with
 |true=>rw[decide_eq_true_eq];exact z76 ds (fun x hx h=>O.tr x _ _ (hp x hx) (hp _ mi) (hp _ mj) h e) ⟨ds[i],mi,e,O.irr _ (hp _ mi)⟩
 |false=>
  rw[decide_eq_false_iff_not]
  have:ds.countP (fun d=>ltD d ds[j])<=ds.countP fun d=>ltD d ds[i]:=oh fun x hx h=>by
   rcases O.ntr x _ _ (hp x hx) (hp _ mi) (hp _ mj) h with q|q
   ·exact q
   ·rw[e]at q;cases q
  omega
theorem za6 {ds:List D}(hp:∀d∈ds,p d)(hn:1<=ds.length):(runT (ltk (rank ds)) (kas_sort ds.length)).toList.map (fun i=>ds.getD i .none)=z1h ds:=by
 obtain⟨h1,h2⟩:=z4o (key:=rank ds) ds.length hn;generalize runT (ltk (rank ds)) (kas_sort ds.length)=q at h1 h2 ⊢;have hq:q.toList.Perm (b8 ds.length):=by simpa using h2.toList
 have hsz:q.size=ds.length:=by rw[h2.size_eq];simp
 have hperm:(q.toList.map fun i=>ds.getD i .none).Perm ds:=by
  refine(hq.map _).trans ?_
  have:(b8 ds.length).map (fun i=>ds.getD i .none)=ds:=by
   apply List.ext_getElem
   ·simp
   ·intro i h1 h2;simp;rw[bd (by simpa using h2)];rfl
  rw[this]
 refine za5 O (fun y hy=>hp y (hperm.mem_iff.mp hy)) (hperm.trans (z3n ds).symm) ?_ (z78 O ds hp);unfold SrtD;rw[rz,List.pairwise_iff_getElem];intro i j hi hj hij;have hi':i<ds.length:=by rw[<-hsz];simpa using hi
 have hj':j<ds.length:=by rw[<-hsz];simpa using hj
 have le:=h1.le (j-i) i (by omega);have e:i+(j-i)=j:=by omega
 rw[e]at le;have ki:Kp' (rank ds) q i=rank ds q.toList[i]:=by unfold Kp';rw[e8];simp[hsz,hi']
 have kj:Kp' (rank ds) q j=rank ds q.toList[j]:=by unfold Kp';rw[e8];simp[hsz,hj']
 rw[ki,kj]at le;have m1:q.toList[i]<ds.length:=by simpa using hq.mem_iff.mp (ez hi)
 have m2:q.toList[j]<ds.length:=by simpa using hq.mem_iff.mp (ez hj)
 rw[<-z86 O hp m2 m1,decide_eq_false_iff_not];omega
end
end Mi
namespace Mi
open PySem PySem.Spec PyProof.Rows L2 PySem.W
def ScV (b:Bool)(x:D)(u:Value):Prop:=if b then ∃i t,x=.int i/\u=.int i t else ∃z t,x=.str z/\u=.str z t
theorem zhn {K:W.Frag}{H:Hp}{B:Ad->Prop}{b:Bool}{x:D}{v:V}{u:Value}(hx:ofK b x=true)(r:Rep K H B v x)(ru:RelV v u):ScV b x u:=by
 cases b with
 |true=>obtain⟨i,rfl⟩:=z1x hx;have e:v=.int i:=r;subst e;obtain⟨t,rfl⟩:=ru;exact⟨i,t,rfl,rfl⟩
 |false=>obtain⟨z,rfl⟩:=z1t hx;have e:v=.str z:=r.1;subst e;obtain⟨t,rfl⟩:=ru;exact⟨z,t,rfl,rfl⟩
section
variable {prog:bc}{w:World}{A:bz}{E:Value->aa->Prop}{s:aa}{b:Bool}{x y:D}{u v:Value}{Q:Bool->aa->Prop}
theorem zp9 (h1:ScV b x u)(h2:ScV b y v)(q:Q (eqD x y) s):wpAny (model prog w) A (eqBool u v) Q E s:=by
 cases b with
 |true=>obtain⟨i,t,rfl,rfl⟩:=h1;obtain⟨j,t',rfl,rfl⟩:=h2;exact wpAny_eqBool_int q
 |false=>
  obtain⟨i,t,rfl,rfl⟩:=h1;obtain⟨j,t',rfl,rfl⟩:=h2;refine wpAny_eqBool_str ?_;have e:eqD (.str i) (.str j)=decide (i=j):=by show(i==j)=decide (i=j);apply jl.mpr;rw[beq_iff_eq,decide_eq_true_eq]
  rw[<-e];exact q
theorem zqj (c:Bool)(h1:ScV b x u)(h2:ScV b y v)(q:Q (ltD x y) s):wpAny (model prog w) A (oneLt' c u v) Q E s:=by
 cases b with
 |true=>
  obtain⟨i,t,rfl,rfl⟩:=h1;obtain⟨j,t',rfl,rfl⟩:=h2;rw[z3q]at q;cases c with
  |true=>exact oneLt_int q
  |false=>exact kat_one _ _ (PyProof.Rows.lt_int q)
 |false=>
  obtain⟨i,t,rfl,rfl⟩:=h1;obtain⟨j,t',rfl,rfl⟩:=h2;rw[z2r]at q;cases c with
  |true=>exact oneLt_str q
  |false=>exact kat_one _ _ (PyProof.Rows.lt_str q)
end
def ScVs:List Bool->List D->List Value->Prop
 | [],xs,us=>xs=[]/\us=[]
 |b::bs,xs,us=>∃x r u t,xs=x::r/\us=u::t/\ofK b x=true/\ScV b x u/\ScVs bs r t
theorem z88 {K:W.Frag}{H:Hp}{B:Ad->Prop}:∀{bs:List Bool} {xs:List D} {vs:List V} {us:List Value},shps bs xs=true->Reps K H B vs xs->Vals vs us->ScVs bs xs us
 | [],xs,vs,us,h,r,rv=>by have e:=z0i h;subst e;have e2:vs=[]:=r;subst e2;cases rv;exact⟨rfl,rfl⟩
 |b::bs,xs,vs,us,h,r,rv=>by
  obtain⟨x,xs',rfl,h1,h2⟩:=z0d h;obtain⟨v,t,rfl,r1,r2⟩:=r;cases rv with
  |cons a c=>exact⟨x,xs',_,_,rfl,rfl,h1,zhn h1 r1 a,z88 h2 r2 c⟩
theorem zic {prog:bc}{w:World}{A:bz}{s:aa}{b:Bool}{Q:Bool->aa->Prop}:∀{bs:List Bool} {xs ys:List D} {us vs:List Value} (i:Nat),ScVs bs xs us->ScVs bs ys vs->Q (ltDs xs ys) s->KatLex prog w A b false Q (us.zip vs) i s
 | [],xs,ys,us,vs,i,h1,h2,q=>by obtain⟨rfl,rfl⟩:=h1;obtain⟨rfl,rfl⟩:=h2;rw[z1m]at q;exact q
 |c::bs,xs,ys,us,vs,i,h1,h2,q=>by
  obtain⟨x,xs,u,us,rfl,rfl,hx,sx,h1⟩:=h1;obtain⟨y,ys,v,vs,rfl,rfl,hy,sy,h2⟩:=h2;rw[qm];refine kat_cons (zp9 sx sy ?_);rw[z1r]at q;cases e:eqD x y with
  |true=>rw[e,if_pos rfl]at q;exact kat_yes (zic (i+1) h1 h2 q)
  |false=>rw[e,if_neg bj]at q;exact kat_no (zqj _ sx sy q)
theorem z64:∀{bs:List Bool} {xs:List D} {us:List Value},ScVs bs xs us->us.length=bs.length
 | [],_,_,h=>by rw[h.2];rfl
 |b::bs,_,_,h=>by obtain⟨x,r,u,t,rfl,rfl,_,_,h⟩:=h;rw[ay,ay,z64 h]
theorem z12.some {P:bc}{w:World}{H:Hp}{h:Heap}{a:Addr}{o:HO}(x:z12 P w H h a o):∃q,h.get? a=some q:=by
 cases o with
 |lst xs=>obtain⟨_,_,_,_,e⟩:=x;exact⟨_,e⟩
 |tup xs=>obtain⟨_,_,_,_,e⟩:=x;exact⟨_,e⟩
 |dK kvs=>obtain⟨_,_,_,_,o,_,_,e,_⟩:=x;exact⟨_,e⟩
 |own y=>exact x
 |frz ob u=>exact⟨_,x.1⟩
 |tbl ps=>exact⟨_,x⟩
 |ext φ=>obtain⟨p,⟨o,e⟩,st⟩:=x;exact⟨_,e⟩
theorem _root_.L2.Inv.laidF {X:Cx}{pins:List (Addr×Obj)}{σ:L2.St}{H:Hp}{s:aa}{h':Heap}{D:Addr}{o:HO}{t':Nat}{m:Str->Option Value}(I:Inv X pins σ H s)(hm:s.heap.Ns X.env.locals m)(hn':h'.Ns X.env.locals m)
  (kp:∀b u,b≠X.env.locals->s.heap.get? b=some u->h'.get? b=some u) (hD:s.heap.get? D=none) (new:z12 X.prog X.w (upd H D o) h' D o):Inv X pins σ (upd H D o) {s with heap:=h',toks:=t'}:=by
 have hH:H D=none:=by
  cases e:H D with
  |none=>rfl
  |some u=>obtain⟨q,hq⟩:=z12.some (I.hok D u e);rw[hD]at hq;cases hq
 refine I.step (g':=s.gens) (d':=s.drawn) (ch:=[]) (fun _ z=>nomatch z) (fun b q hL _ _ e _=>kp b q hL e) (fun b q hL _ _ e _=>⟨q.slots,kp b q hL e⟩) (fun b q _ e n=>?_) (fun b q _ e=>?_) (fun b xs q=>by rw[z02 (z05 q hH)];exact q) (fun b u xs q=>by rw[z02 (z05 q hH)];exact q) (fun b ps q=>⟨#[],by rw[z02 (z05 q hH),q];simp⟩) (fun m' hm'=>?_) (fun b u e=>?_) I.bare
 ·rw[z02 (fun z=>by subst z;rw[hD]at e;cases e)];exact n
 ·by_cases hb:b=X.env.locals
  ·subst hb;obtain⟨o',_,_,ho',_⟩:=hn';exact⟨o',ho'⟩
  ·exact⟨q,kp b q hb e⟩
 ·rw[hm'.eq_nsMap,<-hm.eq_nsMap];exact hn'
 ·by_cases hb:b=D
  ·subst hb;rw[z08]at e;cases e;exact new
  ·rw[z02 hb]at e;have nL:∀c v,H c=some v->c≠X.env.locals:=fun c v ec z=>by subst z;rw[I.free]at ec;cases ec
   refine(I.hok b u e).stay (fun c v hc q=>kp c v ?_ q) (fun c q=>by rw[z02 (z05 q hH)];exact q) fun c xs q=>by rw[z02 (z05 q hH)];exact q
   rcases hc with rfl|hc
   ·exact nL _ _ e
   ·exact nL _ _ hc
theorem z4a {vs:List V}{us:List Value}(r:Vals vs us):∀(is:List Nat),(∀i∈is,i<vs.length)->Vals (is.map fun i=>vs.getD i .non) (is.map fun i=>us.getD i Value.none)
 | [],_=>.nil
 |i::is,h=>by
  have hi:i<vs.length:=h i (by simp);obtain⟨u,hu,ru⟩:=r.get (i:=i) (x:=vs[i]) (by simp[hi]);have e1:vs.getD i .non=vs[i]:=by simp[hi]
  have e2:us.getD i Value.none=u:=by rw[a9,hu];rfl
  rw[ae,ae,e1,e2];exact .cons ru (z4a r is fun j hj=>h j (by simp[hj]))
theorem z4b {K:W.Frag}{H:Hp}{B:Ad->Prop}{vs:List V}{ds:List D}(r:Reps K H B vs ds):∀(is:List Nat),(∀i∈is,i<ds.length)->Reps K H B (is.map fun i=>vs.getD i .non) (is.map fun i=>ds.getD i .none)
 | [],_=>rfl
 |i::is,h=>by
  have hi:i<ds.length:=h i (by simp);obtain⟨v,hv,rv⟩:=r.get (i:=i) (d:=ds[i]) (by simp[hi]);have e1:ds.getD i .none=ds[i]:=by simp[hi]
  have e2:vs.getD i .non=v:=by rw[a9,hv];rfl
  rw[ae,ae,e1,e2];exact Reps.cons rv (z4b r is fun j hj=>h j (by simp[hj]))
section
variable {X:Cx}
theorem z24 {pins:List (Addr×Obj)}{s:aa}{σ:L2.St}{H:Hp}{Q:VK}{p:D->Prop}(O:OrdOn p)(I:Inv X pins σ H s){a:Addr}{vs:List V}{its:List Value}{ys:List D}{B:Ad->Prop}
  (hl:s.heap.IsList a its.toArray) (rv:Vals vs its) (rs:Reps X.K H B vs ys) (h2:2<=ys.length) (h64:ys.length<64) (hp:∀d∈ys,p d)
  (ask:∀h':Heap,(∀b o,b≠X.env.locals->s.heap.get? b=some o->h'.get? b=some o)->wpAny (model X.prog X.w) X.A.in1.in1 (r6 its.toArray) (fun κ s'=>s'={s with heap:=h'}/\∀i j (C:Bool->aa->Prop),i<ys.length->j<ys.length->C (ltD (ys.getD i .none) (ys.getD j .none)) {s with heap:=h'}->kas_ask X.prog X.w X.A.in1.in1 κ its i j C {s with heap:=h'}) (fun _ _=>False) {s with heap:=h'})
  (q:∀w H',Same H H'->Rep X.K H' (fun a=>nw H a\/(imms ys=false/\B a)) w (.list (z1h ys))->Q w H'):
  wpAny (model X.prog X.w) X.A (call (.builtin "sorted") [.ref a]) (EP X pins σ Q) X.xe s:=by
 have l1:vs.length=ys.length:=rs.length;have l2:vs.length=its.length:=rv.length;obtain⟨m,hNs,_⟩:=id I.loc;have F:Fr X.base X.env.locals s.heap m:=⟨hNs,I.bk,ck I.ok.bsz I.ok.above⟩;refine kat_sorted F (z9j (h:=s.heap)) hl (by omega) (by omega) fun D e1 h' F' N' lts=>?_
 have kpOf:∀{h'':Heap} {o:Obj},Fr X.base X.env.locals h'' m->News X.base X.env.locals h'' ((D,o)::z4q X.base s.heap X.env.locals)->∀b o,b≠X.env.locals->s.heap.get? b=some o->h''.get? b=some o:=fun F'' N'' b o hb e=>by
  cases qq:X.base.get? b with
  |some u=>have:=I.bk b u qq;rw[e]at this;cases this;exact F''.keep b _ qq
  |none=>exact(N'' (b,o) (aw _ (z2t hb qq e))).1
 have hDn:=N' (D,cu "list" #[] e1) au
 have hD:s.heap.get? D=none:=by
  cases e:s.heap.get? D with
  |none=>rfl
  |some o=>exact absurd (lts (D,o) (z2t hDn.2.1 hDn.2.2 e)) (b6 _)
 have hHD:H D=none:=by
  cases e:H D with
  |none=>rfl
  |some u=>obtain⟨q,hq⟩:=z12.some (I.hok D u e);rw[hD]at hq;cases hq
 refine thn (ask h' (kpOf F' N')) fun κ s' zz=>?_;obtain⟨es,hask⟩:=zz;subst es;have el:its.length=ys.length:=by omega
 rw[el];refine z3p (n:=ys.length) (lt:=ltk (rank ys)) (P:=fun s'=>s'={s with heap:=h'}) (fun i j C s' hi hj e hC=>?_) (kas_sort ys.length) _ (z7c (by omega)) rfl fun s' e=>?_
 ·subst e;refine hask i j C hi hj ?_;rw[<-z86 O hp hi hj];exact hC _ rfl
 ·subst e;refine⟨_,_,F',N',.head (fun p hp=>bx (lts p hp)),fun h'' c F'' N''=>?_⟩;have hD2:=(N'' _ au).1;have out:=za6 O hp (by omega);obtain⟨_,hperm⟩:=z4o (key:=rank ys) ys.length (by omega);generalize runT (ltk (rank ys)) (kas_sort ys.length)=pm at out hperm hD2 ⊢;have hin:∀i∈pm.toList,i<ys.length:=fun i hi=>by have:=(hperm.toList.mem_iff (a:=i)).mp hi;simpa using this
  have lnn:(pm.toList.map fun i=>vs.getD i .non).length=ys.length:=by rw[am];have:=hperm.toList.length_eq;simpa using this
  have new:z12 X.prog X.w (upd H D (.lst (pm.toList.map fun i=>vs.getD i .non))) h'' D (.lst (pm.toList.map fun i=>vs.getD i .non)):=⟨by rw[lnn,cq];omega,_,c,z4a rv pm.toList (fun i hi=>by rw[l1];exact hin i hi),hD2⟩;have I2:=I.laidF (t':=s.toks) hNs F''.ns (kpOf F'' N'') hD new;refine⟨.ref D,_,I2,rfl,q _ _ (Same.upd hHD) ?_⟩;rw[<-out];exact z1l hHD (z4b (Reps.aggB rs) pm.toList hin) (fun _ z=>z) (.inl hHD)
end
section
variable {X:Cx}
theorem z83 {K:W.Frag}{H:Hp}{B:Ad->Prop}{vs:List V}{ys:List D}{its:List Value}(rs:Reps K H B vs ys)(rv:Vals vs its){i:Nat}(hi:i<ys.length):∃v,Rep K H B v (ys.getD i .none)/\RelV v (its.getD i Value.none)/\its[i]?=some (its.getD i Value.none):=by
 obtain⟨v,h1,h2⟩:=rs.get (i:=i) (d:=ys[i]) (by simp[hi]);obtain⟨u,h3,h4⟩:=rv.get h1;have e1:ys.getD i .none=ys[i]:=by simp[hi]
 have e2:its.getD i Value.none=u:=by rw[a9,h3];rfl
 rw[e1,e2];exact⟨v,h2,h4,h3⟩
theorem zoa {its:List Value}{u:Value}(h:u∈its):∃i,i<its.length/\its.getD i Value.none=u:=by obtain⟨i,hi,e⟩:=p4 h;exact⟨i,hi,by rw[<-e];simp[hi]⟩
theorem z5o {H:Hp}{B:Ad->Prop}{s:aa}{vs:List V}{ys:List D}{its:List Value}(b:Bool)(hy:∀d∈ys,ofK b d=true)(rs:Reps X.K H B vs ys)(rv:Vals vs its)(h2:2<=ys.length)(h':Heap){A:bz}:
  wpAny (model X.prog X.w) A (r6 its.toArray) (fun κ s'=>s'={s with heap:=h'}/\∀i j (C:Bool->aa->Prop),i<ys.length->j<ys.length->C (ltD (ys.getD i .none) (ys.getD j .none)) {s with heap:=h'}->kas_ask X.prog X.w A κ its i j C {s with heap:=h'}) (fun _ _=>False) {s with heap:=h'}:=by
 have hl:its.length=ys.length:=by rw[<-rv.length,rs.length]
 have sc:∀i,i<ys.length->ScV b (ys.getD i .none) (its.getD i Value.none):=fun i hi=>by obtain⟨v,h1,h2,_⟩:=z83 rs rv hi;exact zhn (hy _ (by rw[a9,bd hi];exact ez hi)) h1 h2
 have ty:∀u∈its,Looks (model X.prog X.w) h' (oy u) (.type (if b then "int"else "str")):=fun u hu=>by
  obtain⟨i,hi,rfl⟩:=zoa hu;have:=sc i (by omega);cases b with
  |true=>obtain⟨k,t,_,e⟩:=this;rw[e];exact Looks.of_pure rfl
  |false=>obtain⟨k,t,_,e⟩:=this;rw[e];exact Looks.of_pure rfl
 refine kas_kind (T:=.type (if b then "int"else "str")) (by omega) ty (by cases b<;>decide) (by cases b<;>decide) ⟨rfl,fun i j C hi hj hC=>?_⟩;show wpAny _ _ (keyLt' oneType' _ _) C _ _;rw[keyLt'_oneType];exact zqj true (sc i hi) (sc j hj) hC
theorem zp3 {pins:List (Addr×Obj)}{σ:L2.St}{H:Hp}{B:Ad->Prop}{s:aa}(I:Inv X pins σ H s){h':Heap}(kp:∀b o,s.heap.get? b=some o->o.cls=.type "tuple"->b≠X.env.locals->h'.get? b=some o)(b:Bool)(bs:List Bool):
  ∀{ys:List D} {vs:List V} {its:List Value},(∀d∈ys,z2u (b::bs) d=true)->Reps X.K H B vs ys->Vals vs its->∃fs,KatTups h' its fs/\fs.length=its.length/\∀f∈fs,∃x,ScV b x f
 | [],vs,its,_,r,rv=>by have e:vs=[]:=r;subst e;cases rv;exact⟨[],trivial,rfl,fun _ z=>nomatch z⟩
 |y::ys,vs,its,hy,r,rv=>by
  obtain⟨v,t,rfl,r1,r2⟩:=r;cases rv with
  |cons a c=>
   obtain⟨fs,k1,k2,k3⟩:=zp3 I kp b bs (fun d hd=>hy d (by simp[hd])) r2 c;obtain⟨xs,rfl,hs⟩:=z0z (hy y (by simp));obtain⟨ad,ws,rfl,sq,rw'⟩:=r1;cases a;obtain⟨jts,rj,pt,_⟩:=I.tuple sq;obtain⟨o,ho,hc,n,hd⟩:=pt;have hne:ad≠X.env.locals:=by intro z;subst z;obtain⟨_,⟨o',es,ep,ho',hd',_⟩,_⟩:=id I.loc;rw[ho]at ho';cases ho';rw[hd]at hd';cases hd'
   have sc:=z88 hs rw' rj;obtain⟨x,r,u,t',rfl,rfl,_,sx,_⟩:=sc;exact⟨u::fs,KatTups.cons (kp _ _ ho hc hne) hc hd (by simp) k1,by simp[k2],fun f hf=>(ao.mp hf).elim (fun z=>⟨x,by rw[z];exact sx⟩) (k3 f)⟩
theorem zd7 {pins:List (Addr×Obj)}{σ:L2.St}{H:Hp}{B:Ad->Prop}{s:aa}(I:Inv X pins σ H s){vs:List V}{ys:List D}{its:List Value}(b:Bool)(bs:List Bool)(hy:∀d∈ys,z2u (b::bs) d=true)(rs:Reps X.K H B vs ys)(rv:Vals vs its)(h2:2<=ys.length){h':Heap}(kp:∀b o,s.heap.get? b=some o->o.cls=.type "tuple"->b≠X.env.locals->h'.get? b=some o){A:bz}:
  wpAny (model X.prog X.w) A (r6 its.toArray) (fun κ s'=>s'={s with heap:=h'}/\∀i j (C:Bool->aa->Prop),i<ys.length->j<ys.length->C (ltD (ys.getD i .none) (ys.getD j .none)) {s with heap:=h'}->kas_ask X.prog X.w A κ its i j C {s with heap:=h'}) (fun _ _=>False) {s with heap:=h'}:=by
 have hl:its.length=ys.length:=by rw[<-rv.length,rs.length]
 obtain⟨fs,k1,k2,k3⟩:=zp3 I kp b bs hy rs rv
 have ty:∀u∈fs,Looks (model X.prog X.w) h' (oy u) (.type (if b then "int"else "str")):=fun u hu=>by
  obtain⟨x,this⟩:=k3 u hu;cases b with
  |true=>obtain⟨k,t,_,e⟩:=this;rw[e];exact Looks.of_pure rfl
  |false=>obtain⟨k,t,_,e⟩:=this;rw[e];exact Looks.of_pure rfl
 have part:∀i,i<ys.length->∃ad xs o jts n,its.getD i Value.none=.ref ad/\ys.getD i .none=.tuple xs/\h'.get? ad=some o/\o.data=.seq (f8 jts) n/\ScVs (b::bs) xs jts:=fun i hi=>by
  obtain⟨v,r1,r2,_⟩:=z83 rs rv hi;obtain⟨xs,ex,hs⟩:=z0z (hy (ys.getD i .none) (by rw[a9,bd hi];exact ez hi));rw[ex]at r1;obtain⟨ad,ws,rfl,sq,rw'⟩:=r1;obtain⟨jts,rj,⟨o,ho,hc,n,hd⟩,_⟩:=I.tuple sq;have hne:ad≠X.env.locals:=by intro z;subst z;obtain⟨_,⟨o',es,ep,ho',hd',_⟩,_⟩:=id I.loc;rw[ho]at ho';cases ho';rw[hd]at hd';cases hd'
  exact⟨ad,xs,o,jts,n,r2,ex,kp _ _ ho hc hne,hd,z88 hs rw' rj⟩
 refine kat_kind (T:=.type (if b then "int"else "str")) k1 (by omega) ty (by cases b<;>decide) ⟨rfl,fun i j C hi hj hC=>?_⟩;obtain⟨ai,xi,oi,ji,ni,e1,e2,e3,e4,e5⟩:=part i hi;obtain⟨aj,xj,oj,jj,nj,f1,f2,f3,f4,f5⟩:=part j hj;show wpAny _ _ (keyLt' _ (its.getD i Value.none) (its.getD j Value.none)) C _ _;rw[e1,f1];refine kat_lt e3 e4 f3 f4 ?_;have ef:decide ((f8 ji).size<(f8 jj).size)=false:=by rw[aq,aq,z64 e5,z64 f5];simp
 rw[ef];rw[e2,f2,z3r]at hC;exact zic 0 e5 f5 hC
end
def LtAt (A:bz)(s:aa)(a b:Value)(r:Bool):Prop:=∀(prog:bc) (w:World) (E:Value->aa->Prop) (Q:Value->aa->Prop),Q (.bool r) s->wpAny (model prog w) A (richCompare .Lt a b) Q E s
def TLex (A:bz)(s:aa)(fin:Bool):List (Value×Value)->Bool->Prop
 | [],r=>r=fin
 |(p,q)::l,r=>∃e,SeqAt.EqAt A s p q e/\if e=true then TLex A s fin l r else LtAt A s p q r
theorem zlb {prog:bc}{w:World}{A:bz}{E:Value->aa->Prop}{s:aa}{a b:Addr}{oa ob:Obj}{xs ys:Array Value}{na nb:Nat}{r:Bool}{P:PySem.Fin->aa->Prop}
  (ha:s.heap.get? a=some oa) (da:oa.data=.seq xs na) (hb:s.heap.get? b=some ob) (cb:ob.cls=.type "tuple") (db:ob.data=.seq ys nb) (h:TLex A s (decide (xs.size<ys.size)) (xs.toList.zip ys.toList) r) (q:P (.done (.ret (.bool r))) s):
  wpAny (model prog w) A (Builtin.«tuple.__lt__» ⟨[.ref a,.ref b],[]⟩) P E s:=by
 have nT:¬(!true)=true:=bj;have yF:(!false)=true:=rfl;refine af (m:=qo (.ref b) (.type "tuple")) (wpAny_isInstance ⟨ob,hb,cb⟩ isSubtype_tuple_tuple ?_);rw[if_neg nT];refine af (qp ha da (af (qp hb db (af ?_))));refine wpAny_forIn_list _ (fun l z s'=>z.1=none/\s'=s/\TLex A s (decide (xs.size<ys.size)) l r) _ ?_ ?_ _ _ ⟨rfl,rfl,h⟩
 ·rintro⟨u,v⟩ l z s' ⟨hz,rfl,e,he,ht⟩
  refine af (he prog w _ _ ?_);cases e with
  |true=>rw[if_pos rfl]at ht;show wpAny _ _ (ite ((!true)=true) _ _) _ _ _;rw[if_neg nT];exact a8 ⟨rfl,rfl,ht⟩
  |false=>rw[if_neg bj]at ht;show wpAny _ _ (ite ((!false)=true) _ _) _ _ _;rw[if_pos yF];refine af (qr (af (ht prog w _ _ (af (a8 ?_)))));exact a8 (a8 q)
 ·rintro⟨z,z'⟩ s' ⟨hz,rfl,ht⟩
  simp only at hz;subst hz;have hr:r=decide (xs.size<ys.size):=ht;rw[hr]at q;exact a8 q
theorem zon {A:bz}{s:aa}{a b:Addr}{oa ob:Obj}{xs ys:Array Value}{na nb:Nat}{r:Bool}(hu:A.units<cLine)(ha:s.heap.get? a=some oa)(ca:oa.cls=.type "tuple")(da:oa.data=.seq xs na)(hb:s.heap.get? b=some ob)(cb:ob.cls=.type "tuple")(db:ob.data=.seq ys nb)
  (h:TLex A.in1 s (decide (xs.size<ys.size)) (xs.toList.zip ys.toList) r):LtAt A s (.ref a) (.ref b) r:=fun prog w E Q q=>
 wpAny_richCompare_same_room ⟨oa,ha,ca⟩ ⟨ob,hb,cb⟩ F.slot_tuple_lt (im F.slot_tuple_lt ⟨oa,ha,ca⟩ F.entry_tuple_lt (zlb ha da hb cb db h ⟨_,rfl,by simp,q⟩) (F.args_tuple_lt_2 _ _)) hu
theorem in1_units (A:bz):A.in1.units=A.units+1:=rfl
mutual
theorem z9a:∀(x y:ac) {A:bz} {s:aa} {a b:Value} {as bs:List Addr},Reads s.heap a x as->Reads s.heap b y bs->x.canLay0=true->y.canLay0=true->cmpb x y=true->A.units+x.depth+1<cLine->LtAt A s a b (ltD x y)
 |.int i,y,A,s,a,b,as,bs,ra,rb,ha,hb,hc,hu=>by
  cases y<;>try (cases hc;done)
  cases ra;cases rb;exact fun prog w E Q q=>PyProof.Rows.lt_int q
 |.str i,y,A,s,a,b,as,bs,ra,rb,ha,hb,hc,hu=>by
  cases y<;>try (cases hc;done)
  cases ra;cases rb;exact fun prog w E Q q=>PyProof.Rows.lt_str q
 |.tuple xs,y,A,s,a,b,as,bs,ra,rb,ha,hb,hc,hu=>by
  cases y<;>try (cases hc;done)
  rename_i ys;cases ra with
  |tuple h1 h2 h3 h4=>
   cases rb with
   |tuple k1 k2 k3 k4=>refine zon (by omega) h1 h2 h3 k1 k2 k3 ?_;have e1:=SeqAt.ReadsAll.length _ _ _ h4;have e2:=SeqAt.ReadsAll.length _ _ _ k4;rw[<-bp,<-bp,e1,e2];exact z74 xs ys h4 k4 ha hb hc (by rw[in1_units];simp only[PyData.depth]at hu;omega)
 |.none,y,A,s,a,b,as,bs,ra,rb,ha,hb,hc,hu=>by cases hc
 |.bool _,y,A,s,a,b,as,bs,ra,rb,ha,hb,hc,hu=>by cases hc
 |.list _,y,A,s,a,b,as,bs,ra,rb,ha,hb,hc,hu=>by cases hc
 |.dict _,y,A,s,a,b,as,bs,ra,rb,ha,hb,hc,hu=>by cases hc
theorem z74:∀(xs ys:List ac) {A:bz} {s:aa} {us vs:List Value} {as bs:List Addr},mw s.heap us xs as->mw s.heap vs ys bs->PyData.canLayAll0 xs=true->PyData.canLayAll0 ys=true->z2z xs ys=true->A.units+PyData.depthAll xs+1<cLine->TLex A s (decide (xs.length<ys.length)) (us.zip vs) (ltDs xs ys)
 | [],ys,A,s,us,vs,as,bs,ra,rb,ha,hb,hc,hu=>by
  cases ra;cases rb with
  |nil=>exact rfl
  |cons _ _=>exact rfl
 |x::xs,ys,A,s,us,vs,as,bs,ra,rb,ha,hb,hc,hu=>by
  cases ra with
  |cons r1 r2=>
   cases rb with
   |nil=>exact rfl
   | @cons v vs' y ys' _ _ k1 k2=>
    rw[PyData.canLayAll0,ak]at ha hb;rw[z2z,ak]at hc;simp only[PyData.depthAll]at hu;refine⟨eqD x y,SeqAt.eqAt_reads _ _ _ _ _ _ _ _ r1 k1 ha.1 hb.1 (by omega),?_⟩;rw[z1r];cases e:eqD x y with
    |true=>
     rw[if_pos rfl,if_pos rfl];have el:decide ((x::xs).length<(y::ys').length)=decide (xs.length<ys'.length):=by simp
     rw[el];exact z74 xs ys' r2 k2 ha.2 hb.2 hc.2 (by omega)
    |false=>rw[if_neg bj,if_neg bj];exact z9a x y r1 k1 ha.1 hb.1 hc.1 (by omega)
end
structure OrdE (p:D->Prop):Prop extends OrdOn p where
 eq:∀x y,p x->p y->(eqD x y=true↔x=y)
structure OrdL (q:List D->Prop):Prop where
 irr:∀x,q x->ltDs x x=false
 tr:∀x y z,q x->q y->q z->ltDs x y=true->ltDs y z=true->ltDs x z=true
 ntr:∀x y z,q x->q y->q z->ltDs x z=true->ltDs x y=true\/ltDs y z=true
 tot:∀x y,q x->q y->ltDs x y=false->ltDs y x=false->x=y
 eq:∀x y,q x->q y->(PyData.eqvAll x y=true↔x=y)
section
variable {p:D->Prop}(O:OrdE p){x y z:D}{xs ys zs:List D}
include O
theorem l_eq (hx:p x)(hy:p y)(h:x=y):ltDs (x::xs) (y::ys)=ltDs xs ys:=by rw[z1r,if_pos ((O.eq x y hx hy).mpr h)]
theorem l_ne (hx:p x)(hy:p y)(h:x≠y):ltDs (x::xs) (y::ys)=ltD x y:=by rw[z1r,if_neg fun z=>h ((O.eq x y hx hy).mp z)]
theorem l_tr (hx:p x)(hy:p y)(hz:p z)(ih:ltDs xs ys=true->ltDs ys zs=true->ltDs xs zs=true)(e1:ltDs (x::xs) (y::ys)=true)(e2:ltDs (y::ys) (z::zs)=true):ltDs (x::xs) (z::zs)=true:=by
 by_cases xy:x=y
 ·rw[l_eq O hx hy xy]at e1;by_cases yz:y=z
  ·rw[l_eq O hy hz yz]at e2;rw[l_eq O hx hz (xy.trans yz)];exact ih e1 e2
  ·rw[l_ne O hy hz yz]at e2;rw[l_ne O hx hz (by rw[xy];exact yz),xy];exact e2
 ·rw[l_ne O hx hy xy]at e1;by_cases yz:y=z
  ·rw[l_ne O hx hz (by rw[<-yz];exact xy),<-yz];exact e1
  ·rw[l_ne O hy hz yz]at e2;have e3:=O.tr x y z hx hy hz e1 e2;rw[l_ne O hx hz (fun q=>by subst q;rw[O.irr x hx]at e3;cases e3)];exact e3
theorem zoc (hx:p x)(hy:p y)(hz:p z)(ih:ltDs xs zs=true->ltDs xs ys=true\/ltDs ys zs=true)(e:ltDs (x::xs) (z::zs)=true):ltDs (x::xs) (y::ys)=true\/ltDs (y::ys) (z::zs)=true:=by
 by_cases xz:x=z
 ·rw[l_eq O hx hz xz]at e;by_cases xy:x=y
  ·rw[l_eq O hx hy xy,l_eq O hy hz (xy.symm.trans xz)];exact ih e
  ·rw[l_ne O hx hy xy,l_ne O hy hz (fun q=>xy (xz.trans q.symm)),<-xz];cases e1:ltD x y with
   |true=>exact .inl rfl
   |false=>
    cases e2:ltD y x with
    |true=>exact .inr rfl
    |false=>exact(xy (O.tot x y hx hy e1 e2)).elim
 ·rw[l_ne O hx hz xz]at e;by_cases xy:x=y
  ·rw[l_ne O hy hz (fun q=>xz (xy.trans q)),<-xy];exact .inr e
  ·rw[l_ne O hx hy xy];by_cases yz:y=z
   ·rw[yz];exact .inl e
   ·rw[l_ne O hy hz yz];exact O.ntr x y z hx hy hz e
theorem zpm (hx:p x)(hy:p y)(ih:ltDs xs ys=false->ltDs ys xs=false->xs=ys)(e1:ltDs (x::xs) (y::ys)=false)(e2:ltDs (y::ys) (x::xs)=false):x::xs=y::ys:=by
 by_cases xy:x=y
 ·rw[l_eq O hx hy xy]at e1;rw[l_eq O hy hx xy.symm]at e2;rw[xy,ih e1 e2]
 ·rw[l_ne O hx hy xy]at e1;rw[l_ne O hy hx (fun q=>xy q.symm)]at e2;exact(xy (O.tot x y hx hy e1 e2)).elim
theorem zp0 (hx:p x)(hy:p y)(ih:PyData.eqvAll xs ys=true↔xs=ys):PyData.eqvAll (x::xs) (y::ys)=true↔x::xs=y::ys:=by rw[PyData.eqvAll,ak,ih,List.cons.injEq];exact and_congr (O.eq x y hx hy) Iff.rfl
end
theorem OrdL.nil:OrdL (fun l=>l=[]) where
 irr:=fun x h=>by rw[h];exact z1m
 tr:=fun x y z h1 h2 h3 e1 e2=>by rw[h1,h2,z1m]at e1;cases e1
 ntr:=fun x y z h1 h2 h3 e=>by rw[h1,h3,z1m]at e;cases e
 tot:=fun x y h1 h2 _ _=>h1.trans h2.symm
 eq:=fun x y h1 h2=>by rw[h1,h2];exact⟨fun _=>rfl,fun _=>rfl⟩
theorem OrdL.cons {p:D->Prop}{q:List D->Prop}(O:OrdE p)(L:OrdL q):OrdL (fun l=>∃x r,l=x::r/\p x/\q r) where
 irr:=fun l h=>by obtain⟨x,r,rfl,hx,hr⟩:=h;rw[l_eq O hx hx rfl];exact L.irr r hr
 tr:=fun l1 l2 l3 h1 h2 h3=>by obtain⟨x,r,rfl,hx,hr⟩:=h1;obtain⟨y,t,rfl,hy,ht⟩:=h2;obtain⟨z,u,rfl,hz,hu⟩:=h3;exact l_tr O hx hy hz (L.tr _ _ _ hr ht hu)
 ntr:=fun l1 l2 l3 h1 h2 h3=>by obtain⟨x,r,rfl,hx,hr⟩:=h1;obtain⟨y,t,rfl,hy,ht⟩:=h2;obtain⟨z,u,rfl,hz,hu⟩:=h3;exact zoc O hx hy hz (L.ntr _ _ _ hr ht hu)
 tot:=fun l1 l2 h1 h2=>by obtain⟨x,r,rfl,hx,hr⟩:=h1;obtain⟨y,t,rfl,hy,ht⟩:=h2;exact zpm O hx hy (L.tot _ _ hr ht)
 eq:=fun l1 l2 h1 h2=>by obtain⟨x,r,rfl,hx,hr⟩:=h1;obtain⟨y,t,rfl,hy,ht⟩:=h2;exact zp0 O hx hy (L.eq _ _ hr ht)
theorem zj8 {ys:List D}(h:ltDs [] ys=true):∃y r,ys=y::r:=by
 cases ys with
 |nil=>rw[z1m]at h;cases h
 |cons y r=>exact⟨y,r,rfl⟩
theorem z4r (y:D)(r:List D):ltDs [] (y::r)=true:=by simp[ltDs]
theorem z6a (y:D)(r:List D):ltDs (y::r) []=false:=by simp[ltDs]
section
variable {p:D->Prop}(O:OrdE p)
include O
theorem zog:∀xs:List D,(∀x∈xs,p x)->ltDs xs xs=false
 | [],_=>z1m
 |x::xs,h=>by rw[l_eq O (h x (by simp)) (h x (by simp)) rfl];exact zog xs fun z hz=>h z (by simp[hz])
theorem a_tr:∀xs ys zs:List D,(∀x∈xs,p x)->(∀x∈ys,p x)->(∀x∈zs,p x)->ltDs xs ys=true->ltDs ys zs=true->ltDs xs zs=true
 | [],ys,zs,h1,h2,h3,e1,e2=>by
  obtain⟨y,r,rfl⟩:=zj8 e1;cases zs with
  |nil=>rw[z6a]at e2;cases e2
  |cons z t=>exact z4r z t
 |x::xs,[],zs,h1,h2,h3,e1,e2=>by rw[z6a]at e1;cases e1
 |x::xs,y::ys,[],h1,h2,h3,e1,e2=>by rw[z6a]at e2;cases e2
 |x::xs,y::ys,z::zs,h1,h2,h3,e1,e2=>l_tr O (h1 x (by simp)) (h2 y (by simp)) (h3 z (by simp)) (a_tr xs ys zs (fun w hw=>h1 w (by simp[hw])) (fun w hw=>h2 w (by simp[hw])) fun w hw=>h3 w (by simp[hw])) e1 e2
theorem zqw:∀xs ys zs:List D,(∀x∈xs,p x)->(∀x∈ys,p x)->(∀x∈zs,p x)->ltDs xs zs=true->ltDs xs ys=true\/ltDs ys zs=true
 | [],[],zs,h1,h2,h3,e=>.inr e
 | [],y::ys,zs,h1,h2,h3,e=>.inl (z4r y ys)
 |x::xs,ys,[],h1,h2,h3,e=>by rw[z6a]at e;cases e
 |x::xs,[],z::zs,h1,h2,h3,e=>.inr (z4r z zs)
 |x::xs,y::ys,z::zs,h1,h2,h3,e=>zoc O (h1 x (by simp)) (h2 y (by simp)) (h3 z (by simp)) (zqw xs ys zs (fun w hw=>h1 w (by simp[hw])) (fun w hw=>h2 w (by simp[hw])) fun w hw=>h3 w (by simp[hw])) e
theorem zni:∀xs ys:List D,(∀x∈xs,p x)->(∀x∈ys,p x)->ltDs xs ys=false->ltDs ys xs=false->xs=ys
 | [],[],h1,h2,e1,e2=>rfl
 | [],y::ys,h1,h2,e1,e2=>by rw[z4r]at e1;cases e1
 |x::xs,[],h1,h2,e1,e2=>by rw[z4r]at e2;cases e2
 |x::xs,y::ys,h1,h2,e1,e2=>zpm O (h1 x (by simp)) (h2 y (by simp)) (zni xs ys (fun w hw=>h1 w (by simp[hw])) fun w hw=>h2 w (by simp[hw])) e1 e2
theorem a_eq:∀xs ys:List D,(∀x∈xs,p x)->(∀x∈ys,p x)->(PyData.eqvAll xs ys=true↔xs=ys)
 | [],[],h1,h2=>⟨fun _=>rfl,fun _=>rfl⟩
 | [],y::ys,h1,h2=>⟨fun h=>by simp[PyData.eqvAll]at h,fun h=>nomatch h⟩
 |x::xs,[],h1,h2=>⟨fun h=>by simp[PyData.eqvAll]at h,fun h=>nomatch h⟩
 |x::xs,y::ys,h1,h2=>zp0 O (h1 x (by simp)) (h2 y (by simp)) (a_eq xs ys (fun w hw=>h1 w (by simp[hw])) fun w hw=>h2 w (by simp[hw]))
theorem OrdL.all:OrdL (fun l=>∀x∈l,p x):=⟨zog O,a_tr O,zqw O,zni O,a_eq O⟩
end
theorem OrdL.tup {q:List D->Prop}(L:OrdL q):OrdE (fun d=>∃l,d=.tuple l/\q l) where
 irr:=fun d h=>by obtain⟨l,rfl,h⟩:=h;exact L.irr l h
 tr:=fun x y z h1 h2 h3=>by obtain⟨l,rfl,h1⟩:=h1;obtain⟨m,rfl,h2⟩:=h2;obtain⟨n,rfl,h3⟩:=h3;exact L.tr l m n h1 h2 h3
 ntr:=fun x y z h1 h2 h3=>by obtain⟨l,rfl,h1⟩:=h1;obtain⟨m,rfl,h2⟩:=h2;obtain⟨n,rfl,h3⟩:=h3;exact L.ntr l m n h1 h2 h3
 tot:=fun x y h1 h2 e1 e2=>by obtain⟨l,rfl,h1⟩:=h1;obtain⟨m,rfl,h2⟩:=h2;rw[L.tot l m h1 h2 e1 e2]
 eq:=fun x y h1 h2=>by obtain⟨l,rfl,h1⟩:=h1;obtain⟨m,rfl,h2⟩:=h2;show PyData.eqvAll l m=true↔_;rw[L.eq l m h1 h2];exact⟨fun h=>by rw[h],fun h=>by cases h;rfl⟩
theorem OrdE.of {p q:D->Prop}(O:OrdE q)(h:∀d,p d->q d):OrdE p where
 irr:=fun x hx=>O.irr x (h x hx)
 tr:=fun x y z hx hy hz=>O.tr x y z (h x hx) (h y hy) (h z hz)
 ntr:=fun x y z hx hy hz=>O.ntr x y z (h x hx) (h y hy) (h z hz)
 tot:=fun x y hx hy=>O.tot x y (h x hx) (h y hy)
 eq:=fun x y hx hy=>O.eq x y (h x hx) (h y hy)
theorem zn9 (b:Bool):OrdE (fun x=>ofK b x=true):=⟨ordK b,fun _ _=>ze0⟩
theorem OrdL.sh:∀bs:List Bool,OrdL (fun l=>shps bs l=true)
 | []=>⟨fun x h=>OrdL.nil.irr x (z0i h),fun x y z h1 h2 h3=>OrdL.nil.tr x y z (z0i h1) (z0i h2) (z0i h3),fun x y z h1 h2 h3=>OrdL.nil.ntr x y z (z0i h1) (z0i h2) (z0i h3),fun x y h1 h2=>OrdL.nil.tot x y (z0i h1) (z0i h2),fun x y h1 h2=>OrdL.nil.eq x y (z0i h1) (z0i h2)⟩
 |b::bs=>by have L:=OrdL.cons (zn9 b) (OrdL.sh bs);exact⟨fun x h=>L.irr x (z0d h),fun x y z h1 h2 h3=>L.tr x y z (z0d h1) (z0d h2) (z0d h3),fun x y z h1 h2 h3=>L.ntr x y z (z0d h1) (z0d h2) (z0d h3),fun x y h1 h2=>L.tot x y (z0d h1) (z0d h2),fun x y h1 h2=>L.eq x y (z0d h1) (z0d h2)⟩
section
variable {X:Cx}{pins:List (Addr×Obj)}{σ:L2.St}{H:Hp}{s:aa}{B:Ad->Prop}{h':Heap}
mutual
theorem zdl (I:Inv X pins σ H s)(kp:∀b o,s.heap.get? b=some o->o.cls=.type "tuple"->b≠X.env.locals->h'.get? b=some o):∀{v:V} {u:Value} (d:ac) (n:Nat),cmpb d d=true->shal n d=true->Rep X.K H B v d->RelV v u->(∃as,Reads h' u d as)/\d.canLay0=true/\d.depth<=n
 |v,u,.int b,n,_,_,r,q=>by have e:v=.int b:=r;subst e;obtain⟨t,rfl⟩:=q;exact⟨⟨[],.int b t⟩,by simp only[PyData.canLay0],ce _⟩
 |v,u,.str b,n,_,_,r,q=>by obtain⟨e,ok⟩:v=.str b/\_:=r;subst e;obtain⟨t,rfl⟩:=q;exact⟨⟨[],.str b t⟩,by simp only[PyData.canLay0];exact ok,ce _⟩
 |v,u,.tuple ds,0,_,h,r,q=>by cases h
 |v,u,.tuple ds,n+1,hc,h,r,q=>by
  obtain⟨a,vs,e,h1,r1⟩:=r;subst e;cases q;obtain⟨its,rv,⟨o,ho,hcl,k,hd⟩,_⟩:=I.tuple h1;have hne:a≠X.env.locals:=fun z=>by subst z;obtain⟨_,⟨o',es,ep,ho',hd',_⟩,_⟩:=id I.loc;rw[ho]at ho';cases ho';rw[hd]at hd';cases hd'
  obtain⟨⟨as,ra⟩,c,dp⟩:=z9c I kp ds n hc h r1 rv;refine⟨⟨as,.tuple (kp _ _ ho hcl hne) hcl hd (by simpa using ra)⟩,by simp only[PyData.canLay0];exact c,?_⟩;simp only[PyData.depth];omega
 |v,u,.none,n,hc,h,r,q=>by cases hc
 |v,u,.bool _,n,hc,h,r,q=>by cases hc
 |v,u,.list _,n,hc,h,r,q=>by cases hc
 |v,u,.dict _,n,hc,h,r,q=>by cases hc
theorem z9c (I:Inv X pins σ H s)(kp:∀b o,s.heap.get? b=some o->o.cls=.type "tuple"->b≠X.env.locals->h'.get? b=some o):∀{vs:List V} {us:List Value} (ds:List ac) (n:Nat),z2z ds ds=true->z1y n ds=true->Reps X.K H B vs ds->Vals vs us->(∃as,mw h' us ds as)/\PyData.canLayAll0 ds=true/\PyData.depthAll ds<=n
 |vs,us,[],n,_,_,r,q=>by have e:vs=[]:=r;subst e;cases q;exact⟨⟨[],.nil⟩,by simp only[PyData.canLayAll0],ce _⟩
 |vs,us,d::ds,n,hc,h,r,q=>by
  obtain⟨v,t,e,h1,r1⟩:=r;subst e;rw[z1y,ak]at h;rw[z2z,ak]at hc;cases q with
  |cons q1 q2=>obtain⟨⟨as,ra⟩,c,dp⟩:=zdl I kp d n hc.1 h.1 h1 q1;obtain⟨⟨bs,rb⟩,c2,dp2⟩:=z9c I kp ds n hc.2 h.2 r1 q2;refine⟨⟨as++bs,.cons ra rb⟩,by simp only[PyData.canLayAll0,c,c2,qd],?_⟩;simp only[PyData.depthAll];exact Nat.max_le.mpr ⟨dp,dp2⟩
end
end
def fstK (t:Bool):D->Bool
 |.tuple (.str _::_)=>!t
 |.tuple (.tuple _::_)=>t
 |_=>false
theorem lexN {prog:bc}{w:World}{A:bz}{s:aa}{b:Bool}{Q:Bool->aa->Prop}:∀(xs ys:List D) {us vs:List Value} {as bs:List Addr} (i:Nat),mw s.heap us xs as->mw s.heap vs ys bs->PyData.canLayAll0 xs=true->PyData.canLayAll0 ys=true->z2z xs ys=true->A.units+PyData.depthAll xs+1<cLine->
  (b=true->i=0->∀x r,xs=x::r->isS x=true)->Q (ltDs xs ys) s->KatLex prog w A b (decide (xs.length<ys.length)) Q (us.zip vs) i s
 | [],ys,us,vs,as,bs,i,ra,rb,ha,hb,hc,hu,hf,q=>by
  cases ra;cases rb with
  |nil=>exact q
  |cons _ _=>exact q
 |x::xs,ys,us,vs,as,bs,i,ra,rb,ha,hb,hc,hu,hf,q=>by
  cases ra with
  |cons r1 r2=>
   cases rb with
   |nil=>exact q
   | @cons v vs' y ys' _ _ k1 k2=>
    rw[PyData.canLayAll0,ak]at ha hb;rw[z2z,ak]at hc;simp only[PyData.depthAll]at hu;rw[qm];refine kat_cons (SeqAt.eqAt_reads _ _ _ _ _ _ _ _ r1 k1 ha.1 hb.1 (by omega) prog w _ _ ?_);rw[z1r]at q;have el:decide ((x::xs).length<(y::ys').length)=decide (xs.length<ys'.length):=by simp
    rw[el];cases e:PyData.eqv x y with
    |true=>rw[show eqD x y=true from e,if_pos rfl]at q;exact kat_yes (lexN xs ys' (i+1) r2 k2 ha.2 hb.2 hc.2 (by omega) (fun _ z=>nomatch z) q)
    |false=>
     rw[show eqD x y=false from e,if_neg bj]at q;refine kat_no ?_;cases hbi:(b&&i==0)with
     |false=>exact kat_one _ _ (z9a x y r1 k1 ha.1 hb.1 hc.1 (by omega) prog w _ _ q)
     |true=>
      rw[ak,beq_iff_eq]at hbi;obtain⟨z,rfl⟩:=z1t (hf hbi.1 hbi.2 x xs rfl);have hc1:=hc.1;cases y<;>try (cases hc1;done)
      cases r1;cases k1;rw[z2r]at q;exact oneLt_str q
def NtAt (h':Heap)(t:Bool)(d:D)(u:Value):Prop:=∃ad x xs o vs n as,u=.ref ad/\d=.tuple (x::xs)/\fstK t d=true/\h'.get? ad=some o/\o.cls=.type "tuple"/\o.data=.seq vs n/\mw h' vs.toList (x::xs) as/\PyData.canLayAll0 (x::xs)=true/\PyData.depthAll (x::xs)<=30
def zlx (h':Heap)(t:Bool):List D->List Value->Prop
 | [],us=>us=[]
 |d::ds,us=>∃u r,us=u::r/\NtAt h' t d u/\zlx h' t ds r
def tyN (t:Bool):Value:=.type (if t then "tuple"else "str")
section
variable {X:Cx}{pins:List (Addr×Obj)}{σ:L2.St}{H:Hp}{s:aa}{B:Ad->Prop}{h':Heap}{t:Bool}
theorem zpg (I:Inv X pins σ H s)(kp:∀b o,s.heap.get? b=some o->o.cls=.type "tuple"->b≠X.env.locals->h'.get? b=some o){v:V}{u:Value}{d:D}(hf:fstK t d=true)(hs:shal 30 d=true)(hc:cmpb d d=true)(r:Rep X.K H B v d)(ru:RelV v u):NtAt h' t d u:=by
 cases d<;>try (cases hf;done)
 rename_i ds;cases ds with
 |nil=>cases hf
 |cons x xs=>
  obtain⟨⟨as,ra⟩,c,dp⟩:=zdl I kp (.tuple (x::xs)) 30 hc hs r ru;cases ra with
  |tuple h1 h2 h3 h4=>exact⟨_,x,xs,_,_,_,as,rfl,rfl,hf,h1,h2,h3,h4,by simpa only[PyData.canLay0]using c,by simp only[PyData.depth]at dp;omega⟩
theorem zci {P:bc}{w:World}:∀{ys:List D} {its:List Value},zlx h' t ys its->∃fs,KatTups h' its fs/\fs.length=its.length/\∀f∈fs,Looks (model P w) h' (oy f) (tyN t)
 | [],its,h=>by have e:its=[]:=h;subst e;exact⟨[],trivial,rfl,fun _ z=>nomatch z⟩
 |d::ys,its,h=>by
  obtain⟨u,its',rfl,a,r⟩:=h;obtain⟨fs,k1,k2,k3⟩:=zci (P:=P) (w:=w) r;obtain⟨ad,x,xs,o,vs,n,as,rfl,rfl,hf,h1,h2,h3,h4,_⟩:=a;generalize hl:vs.toList=l at h4;cases h4 with
  | @cons f l' _ _ _ _ r1 r2=>
   refine⟨f::fs,KatTups.cons h1 h2 h3 (by rw[<-og,hl];rfl) k1,by simp[k2],fun g hg=>(ao.mp hg).elim (fun z=>?_) (k3 g)⟩;rw[z];cases x<;>try (cases hf;done)
   ·cases t<;>try (cases hf;done)
    cases r1;exact Looks.of_pure rfl
   ·cases t<;>try (cases hf;done)
    cases r1 with
    |tuple q1 q2 q3 q4=>have e:tyN true=_:=q2.symm;rw[e];exact(Looks.ld q1).andThen .now
theorem zil (I:Inv X pins σ H s){vs:List V}{ys:List D}{its:List Value}(hy:∀d∈ys,fstK t d=true/\shal 30 d=true)(hc:∀d∈ys,∀e∈ys,cmpb d e=true)(rs:Reps X.K H B vs ys)(rv:Vals vs its)(h2:2<=ys.length)(kp:∀b o,s.heap.get? b=some o->o.cls=.type "tuple"->b≠X.env.locals->h'.get? b=some o){A:bz}(hu:A.units+40<cLine):
  wpAny (model X.prog X.w) A (r6 its.toArray) (fun κ s'=>s'={s with heap:=h'}/\∀i j (C:Bool->aa->Prop),i<ys.length->j<ys.length->C (ltD (ys.getD i .none) (ys.getD j .none)) {s with heap:=h'}->kas_ask X.prog X.w A κ its i j C {s with heap:=h'}) (fun _ _=>False) {s with heap:=h'}:=by
 have hl:its.length=ys.length:=by rw[<-rv.length,rs.length]
 have all:∀{ys:List D} {vs:List V} {its:List Value},(∀d∈ys,fstK t d=true/\shal 30 d=true/\cmpb d d=true)->Reps X.K H B vs ys->Vals vs its->zlx h' t ys its:=fun{ys}=>by
  induction ys with
  |nil=>intro vs its _ r rv;have e:vs=[]:=r;subst e;cases rv;exact rfl
  |cons y ys ih=>
   intro vs its h r rv;obtain⟨v,vs',rfl,r1,r2⟩:=r;cases rv with
   |cons a c=>obtain⟨z1,z2,z3⟩:=h y (by simp);exact⟨_,_,rfl,zpg I kp z1 z2 z3 r1 a,ih (fun d hd=>h d (by simp[hd])) r2 c⟩
 have fa:=all (fun d hd=>⟨(hy d hd).1,(hy d hd).2,hc d hd d hd⟩) rs rv;obtain⟨fs,k1,k2,k3⟩:=zci (P:=X.prog) (w:=X.w) fa;refine kat_kind (T:=tyN t) k1 (by omega) k3 (by cases t<;>decide) ⟨rfl,fun i j C hi hj hC=>?_⟩;have hm:∀i,i<ys.length->ys.getD i .none∈ys:=fun i hi=>by rw[a9,bd hi];exact ez hi
 have part:∀i,i<ys.length->NtAt h' t (ys.getD i .none) (its.getD i Value.none):=fun i hi=>by obtain⟨v,r1,r2,_⟩:=z83 rs rv hi;exact zpg I kp (hy _ (hm i hi)).1 (hy _ (hm i hi)).2 (hc _ (hm i hi) _ (hm i hi)) r1 r2
 have hcm:=hc _ (hm i hi) _ (hm j hj);obtain⟨ai,xi,ri,oi,vi,ni,asi,e1,e2,hf,e3,_,e4,e5,e6,e7⟩:=part i hi;obtain⟨aj,xj,rj,oj,vj,nj,asj,f1,f2,_,f3,_,f4,f5,f6,f7⟩:=part j hj;show wpAny _ _ (keyLt' _ (its.getD i Value.none) (its.getD j Value.none)) C _ _;rw[e1,f1];rw[e2]at hf;rw[e2,f2]at hcm hC;refine kat_lt e3 e4 f3 f4 ?_;rw[<-bp,<-bp,SeqAt.ReadsAll.length _ _ _ e5,SeqAt.ReadsAll.length _ _ _ f5];refine lexN (s:={s with heap:=h'}) (xi::ri) (xj::rj) 0 e5 f5 e6 f6 hcm (by omega) (fun hb _ x r hx=>?_) hC;cases hx;cases t with
 |true=>exact absurd hb (by decide)
 |false=>cases xi<;>first|(cases hf;done)|rfl
end
theorem zfe {d:D}(h:z2u [false,true] d=true):∃x i,d=.tuple [.str x,.int i]:=by obtain⟨l,rfl,h⟩:=z0z h;obtain⟨a,r,rfl,ha,h⟩:=z0d h;obtain⟨b,r,rfl,hb,h⟩:=z0d h;cases z0i h;obtain⟨x,rfl⟩:=z1t ha;obtain⟨i,rfl⟩:=z1x hb;exact⟨x,i,rfl⟩
theorem z6o {d:D}(h:isPk d=true):∃l,d=.tuple l/\∀x∈l,z2u [false,true] x=true:=by cases d<;>first|(cases h;done)|exact⟨_,rfl,ax.mp h⟩
theorem z8s {d:D}(h:neP d=true):∃x l,d=.tuple (x::l)/\∀z∈x::l,z2u [false,true] z=true:=by
 cases d<;>try (cases h;done)
 rename_i l;cases l with
 |nil=>cases h
 |cons x l=>exact⟨x,l,rfl,ax.mp h⟩
theorem zgt {d:D}(h:isCo d=true):∃x a b,d=.tuple [.str x,a,b]/\isPk a=true/\isPk b=true:=by
 unfold isCo at h;split at h
 ·exact⟨_,_,_,rfl,(ba.mp h).1,(ba.mp h).2⟩
 ·cases h
theorem z2x:∀l m:List D,(∀x∈l,z2u [false,true] x=true)->(∀x∈m,z2u [false,true] x=true)->z2z l m=true
 | [],m,_,_=>by rw[z2z]
 |x::l,[],_,_=>by rw[z2z]
 |x::l,y::m,h1,h2=>by obtain⟨a,i,rfl⟩:=zfe (h1 x (by simp));obtain⟨b,j,rfl⟩:=zfe (h2 y (by simp));rw[z2z,z2x l m (fun z hz=>h1 z (by simp[hz])) fun z hz=>h2 z (by simp[hz])];rfl
theorem z4i {l:List D}(n:Nat)(h:∀x∈l,z2u [false,true] x=true):z1y (n+1) l=true:=z4j.mpr fun z hz=>by obtain⟨a,i,rfl⟩:=zfe (h z hz);cases n<;>rfl
theorem zb6:OrdE (fun d=>∃l,d=.tuple l/\∀x∈l,z2u [false,true] x=true):=OrdL.tup (OrdL.all ((OrdL.tup (OrdL.sh [false,true])).of fun _ h=>z0z h))
theorem z9e {ys:List D}(h:(ys.all neP||ys.all isCo)=true):∃(p:D->Prop) (t:Bool),OrdOn p/\(∀d∈ys,p d)/\(∀d∈ys,fstK t d=true/\shal 30 d=true)/\∀d∈ys,∀e∈ys,cmpb d e=true:=by
 rcases(cj _ _).mp h with h|h
 ·rw[ax]at h;refine⟨_,true,zb6.toOrdOn,fun d hd=>?_,fun d hd=>?_,fun d hd e he=>?_⟩
  ·obtain⟨x,l,rfl,hl⟩:=z8s (h d hd);exact⟨_,rfl,hl⟩
  ·obtain⟨x,l,rfl,hl⟩:=z8s (h d hd);obtain⟨a,i,rfl⟩:=zfe (hl x (by simp));exact⟨rfl,z4i 28 hl⟩
  ·obtain⟨x,l,rfl,hl⟩:=z8s (h d hd);obtain⟨y,m,rfl,hm⟩:=z8s (h e he);exact z2x _ _ hl hm
 ·rw[ax]at h;refine⟨_,false,(OrdL.tup (OrdL.cons (zn9 false) (OrdL.cons zb6 (OrdL.cons zb6 OrdL.nil)))).toOrdOn,fun d hd=>?_,fun d hd=>?_,fun d hd e he=>?_⟩
  ·obtain⟨x,a,b,rfl,ha,hb⟩:=zgt (h d hd);exact⟨_,rfl,_,_,rfl,rfl,_,_,rfl,z6o ha,_,_,rfl,z6o hb,rfl⟩
  ·obtain⟨x,a,b,rfl,ha,hb⟩:=zgt (h d hd);obtain⟨l,rfl,hl⟩:=z6o ha;obtain⟨m,rfl,hm⟩:=z6o hb;refine⟨rfl,?_⟩;show(true&&(z1y 28 l&&(z1y 28 m&&true)))=true;rw[z4i 27 hl,z4i 27 hm];rfl
  ·obtain⟨x,a,b,rfl,ha,hb⟩:=zgt (h d hd);obtain⟨y,a',b',rfl,ha',hb'⟩:=zgt (h e he);obtain⟨l,rfl,hl⟩:=z6o ha;obtain⟨m,rfl,hm⟩:=z6o hb;obtain⟨l',rfl,hl'⟩:=z6o ha';obtain⟨m',rfl,hm'⟩:=z6o hb';show(true&&(z2z l l'&&(z2z m m'&&true)))=true;rw[z2x _ _ hl hl',z2x _ _ hm hm'];rfl
section
variable {X:Cx}
theorem zdu {pins:List (Addr×Obj)}{s:aa}{σ:L2.St}{H:Hp}{xs:List V}{us:List Value}{Q:VK}{B:Ad->Prop}{x:V}{dx:D}{ys:List D}{d:D}(hu:X.A.units+64<cLine)(I:Inv X pins σ H s)(r:Vals xs us)(hx:xs=[x])(rx:Rep X.K H B x dx)(e:z4z dx=.ok (true,ys))(e2:aggD "sorted" true ys=.ok d)
  (q:∀w H',Same H H'->Rep X.K H' (fun a=>nw H a\/(imms ys=false/\B a)) w d->Q w H'):wpAny (model X.prog X.w) X.A (call (.builtin "sorted") us) (EP X pins σ Q) X.xe s:=by
 subst hx;obtain⟨a,vs,rfl,hsq,rs⟩:=z2e rx e;simp only[aggD,show("sorted":String)≠"list" by decide,show("sorted":String)≠"tuple" by decide,if_true,if_false]at e2;split at e2
 case isFalse=>cases e2
 rename_i hc;cases e2;simp only[decide_eq_true_eq,ak,qx,true_and]at hc;obtain⟨hs,h64⟩:=hc;obtain⟨u,rfl,ru⟩:=vals1 r;cases ru;obtain⟨its,rv,pl,hz⟩:=I.list hsq;have hll:its.length=ys.length:=by rw[<-rv.length,rs.length]
 by_cases h2:ys.length<2
 ·refine z7w pl.isList (by omega) fun D h' n hD kp ho=>?_;have hH:H D=none:=I.hok.fresh hD;have I2:=I.laid (a:=D) (o:=.lst vs) (t':=s.toks) kp hD ⟨hz,its,n,rv,ho⟩;refine⟨.ref D,_,I2,rfl,q _ _ (Same.upd hH) ?_⟩
  have es:z1h ys=ys:=by
   match ys,h2 with
   | [],_=>rfl
   | [y],_=>rfl
   |_::_::_,h2=>simp at h2;omega
  rw[es];exact z1l hH (Reps.aggB rs) (fun _ z=>z) (.inl hH)
 ·have h2':2<=ys.length:=by omega
  replace hs:=(cj _ _).mp hs;rcases hs with hs|hs
  case inr=>obtain⟨p,t,O,hp,hy,hcm⟩:=z9e hs;exact z24 O I pl.isList rv rs h2' h64 hp (fun h' kp=>zil I hy hcm rs rv h2' (fun b o e _ hL=>kp b o hL e) (by show X.A.units+1+1+40<cLine;omega)) q
  unfold z2a at hs;simp only[cj,ax]at hs;rcases hs with(hs|hs)|hs
  ·exact z24 ordI I pl.isList rv rs h2' h64 hs (fun h' kp=>z5o true hs rs rv h2' h') q
  ·exact z24 ordS I pl.isList rv rs h2' h64 hs (fun h' kp=>z5o false hs rs rv h2' h') q
  ·split at hs
   case h_2=>cases hs
   rename_i y0 _;simp only[ak,ax,eh]at hs;obtain⟨hne,hs⟩:=hs;cases y0 with
   |nil=>cases hne
   |cons y1 yr=>exact z24 (ordT _) I pl.isList rv rs h2' h64 hs (fun h' kp=>zd7 I _ _ hs rs rv h2' fun b o e _ hL=>kp b o hL e) q
end
end Mi
namespace Mi
open PySem PySem.Spec PyProof.Rows L2
section
variable {X:Cx}
end
section
variable {X:Cx}{pins pins0:List (Addr×Obj)}{σ σ0:L2.St}{H H0:Hp}{s s0:aa}{d:Addr}{o:Obj}{kvs kvs0:List (Key×V)}
end
section
variable {X:Cx}{pins:List (Addr×Obj)}{σ:L2.St}{H:Hp}{s:aa}
end
theorem ztk {kvs:List (Key×V)}{vs:List (Key×Value)}(r:KV kvs vs){i:Nat}{k:Key}{v:V}(h:kvs[i]?=some (k,v)):∃u,vs[i]?=some (k,u)/\RelV v u:=by
 induction r generalizing i with
 |nil=>simp at h
 |cons a b ih=>
  cases i with
  |zero=>rw[jz]at h ⊢;cases h;rename_i bb _ _;obtain⟨b1,b2⟩:=bb;obtain⟨a1,a2⟩:=a;have a1':k=b1:=a1;subst a1';exact⟨b2,rfl,a2⟩
  |succ i=>rw[iq]at h ⊢;exact ih h
theorem zam {P:bc}{w:World}{k:Key}{u:Value}(h:(z17 P w).is k u=true):RelV (kV k) u:=by
 rw[zal]at h;rcases z0r h with⟨i,t,rfl,rfl⟩|⟨x,t,rfl,rfl⟩
 ·exact⟨t,rfl⟩
 ·exact⟨t,rfl⟩
theorem REs.at {K:W.Frag}{H:Hp}{B:Ad->Prop}:∀{kvs:List (Key×V)} {es:Ents} {i:Nat} {k:Key} {v:V},REs K H B kvs es->kvs[i]?=some (k,v)->∃d,es[i]?=some (kD k,d)/\keyOk k/\Rep K H B v d
 |kvs,[],i,k,v,r,e=>by have:kvs=[]:=r;subst this;simp at e
 |kvs,(kd,d)::es,i,k,v,r,e=>by
  obtain⟨k',v',t,rfl,rfl,ok,h1,h2⟩:=r;cases i with
  |zero=>rw[jz]at e ⊢;cases e;exact⟨d,rfl,ok,h1⟩
  |succ i=>rw[iq]at e ⊢;exact REs.at h2 e
theorem zh6 {K:W.Frag}{H:Hp}{B:Ad->Prop}{k:Key}(ok:keyOk k):Rep K H B (kV k) (kD k):=by
 cases k with
 |inl i=>exact rfl
 |inr x=>exact⟨rfl,ok⟩
section
variable {X:Cx}
end
section
variable {X:Cx}
theorem zb3 {K:W.Frag}{F:Fm}{H:Hp}{σ:L2.St}{ρ:Rho}{i:Nat}{g:G}{es:Ents}(so:StOk K F H σ ρ)(e:ρ[i]?=some (some (g,.dict es))):∃d kvs B,σ[i]?=some (some (.ref d))/\H d=some (.dK kvs)/\F.V d/\REs K H B kvs es:=by
 obtain⟨v,h1,h2⟩:=so.sl i g _ e;cases g with
 |fr=>
  obtain⟨p,rfl,ho,h⟩:=h2;rcases h with⟨_,_,z,_⟩|⟨kvs,es',z,h3,r⟩
  ·cases z
  ·cases z;exact⟨p,kvs,_,h1,h3,(so.own p i ho).2.1,r⟩
 |od=>obtain⟨p,kvs,rfl,h3,b,r⟩:=h2;exact⟨p,kvs,_,h1,h3,b.2,r⟩
 |al=>obtain⟨p,kvs,rfl,h3,b,r⟩:=h2;exact⟨p,kvs,_,h1,h3,b,r⟩
 |nu=>obtain⟨p,kvs,rfl,h3,b,r⟩:=h2;exact⟨p,kvs,_,h1,h3,b.2.2,r⟩
end
section
variable {X:Cx}{pins:List (Addr×Obj)}{σ:L2.St}{H:Hp}{s:aa}
theorem _root_.L2.Inv.track {a:Addr}{u:HO}(I:Inv X pins σ H s)(f:FpOk X pins H a)(new:z12 X.prog X.w (upd H a u) s.heap a u):Inv X pins σ (upd H a u) s:=by
 obtain⟨f0,f1,f2,f3,f4,f5⟩:=f
 exact I.step (g':=s.gens) (d':=s.drawn) (t':=s.toks) (h':=s.heap) (ch:=[a]) (fun b hb=>by
   have e:b=a:=by simpa using hb
   subst e;exact⟨f3,f1,f4,f5⟩) (fun b q _ _ _ e _=>e) (fun b q _ _ _ e _=>⟨q.slots,e⟩) (fun b q hc _ n=>by rw[z02 (fun z=>hc (by simp[z]))];exact n) (fun b q _ e=>⟨q,e⟩)
  (fun b xs q=>by rw[z02 (z05 q f0)];exact q) (fun b v xs q=>by rw[z02 (z05 q f0)];exact q) (fun b ps q=>⟨#[],by rw[z02 (z05 q f0),q];simp⟩) (fun m h=>h) (fun b v e=>by
   by_cases hb:b=a
   ·subst hb;rw[z08]at e;cases e;exact new
   ·rw[z02 hb]at e;exact(I.hok b v e).stay (fun c w _ q=>q) (fun c q=>by rw[z02 (z05 q f0)];exact q) fun c xs q=>by rw[z02 (z05 q f0)];exact q) I.bare
theorem z6v:∀(l:List (Addr×List V)) {H:Hp},Inv X pins σ H s->(l.map (·.1)).Nodup->(∀q∈l,FpOk X pins H q.1)->(∀q∈l,q.2.length<=bf/\∃its:List Value,Vals q.2 its/\TupN s.heap q.1 its.toArray)->
  ∃H1,Inv X pins σ H1 s/\Same H H1/\(∀q∈l,H1 q.1=some (.tup q.2))/\∀a,a∉l.map (·.1)->H1 a=H a
 | [],H,I,_,_,_=>⟨H,I,Same.refl H,(fun q hq=>absurd hq (by simp)),fun _ _=>rfl⟩
 |(a,xs)::l,H,I,nd,hf,ht=>by
  rw[ae,c9]at nd;have fa:=hf (a,xs) (by simp);have I1:=I.track (u:=.tup xs) fa (ht (a,xs) (by simp));have hne:∀q∈l,q.1≠a:=fun q hq z=>nd.1 (bq.mpr ⟨q,hq,z⟩);obtain⟨H1,J1,sm,h1,h2⟩:=z6v l I1 nd.2 (fun q hq=>by obtain⟨f0,r⟩:=hf q (by simp[hq]);exact⟨by rw[z02 (hne q hq)];exact f0,r⟩) fun q hq=>ht q (by simp[hq]);refine⟨H1,J1,(Same.upd fa.1).trans sm,fun q hq=>?_,fun b hb=>?_⟩
  ·rcases ao.mp hq with e0|hq;subst e0
   ·rw[h2 a nd.1];exact z08
   ·exact h1 q hq
  ·rw[ae,ao,not_or]at hb;rw[h2 b hb.2,z02 hb.1]
theorem _root_.L2.Inv.writeF {h':Heap}{D:Addr}{xs ys:List V}{t':Nat}{m:Str->Option Value}(I:Inv X pins σ H s)(hH:H D=some (.lst xs))(hm:s.heap.Ns X.env.locals m)(hn':h'.Ns X.env.locals m)
  (kp:∀b u,b≠X.env.locals->b≠D->s.heap.get? b=some u->h'.get? b=some u) (new:z12 X.prog X.w (upd H D (.lst ys)) h' D (.lst ys)):Inv X pins σ (upd H D (.lst ys)) {s with heap:=h',toks:=t'}:=by
 have nd:∀b v,H b=some v->v≠.lst xs->upd H D (.lst ys) b=some v:=fun b v q hv=>by rw[z02 (fun z=>by subst z;rw[hH]at q;cases q;exact hv rfl)];exact q
 have ne:∀b,H b=none->b≠D:=fun b n z=>by subst z;rw[hH]at n;cases n
 have nL:∀c v,H c=some v->c≠X.env.locals:=fun c v ec z=>by subst z;rw[I.free]at ec;cases ec
 refine I.step (g':=s.gens) (d':=s.drawn) (ch:=[]) (fun _ z=>nomatch z) (fun b q hL _ _ e n=>kp b q hL (ne b n) e) (fun b q hL _ _ e n=>⟨q.slots,kp b q hL (ne b n) e⟩) (fun b q _ e n=>by rw[z02 (ne b n)];exact n) (fun b q _ e=>?_) (fun b xs q=>nd b _ q (fun z=>nomatch z)) (fun b u xs q=>nd b _ q (fun z=>nomatch z)) (fun b ps q=>⟨#[],by rw[nd b _ q (fun z=>nomatch z)];simp⟩) (fun m' hm'=>?_) (fun b u e=>?_) I.bare
 ·by_cases hb:b=X.env.locals
  ·subst hb;obtain⟨o',_,_,ho',_⟩:=hn';exact⟨o',ho'⟩
  ·by_cases hd:b=D
   ·subst hd;obtain⟨_,_,_,_,e'⟩:=new;exact⟨_,e'⟩
   ·exact⟨q,kp b q hb hd e⟩
 ·rw[hm'.eq_nsMap,<-hm.eq_nsMap];exact hn'
 ·by_cases hb:b=D
  ·subst hb;rw[z08]at e;cases e;exact new
  ·rw[z02 hb]at e;refine(I.hok b u e).stay (fun c v hc q=>?_) (fun c q=>nd c _ q (fun z=>nomatch z)) fun c xs q=>nd c _ q (fun z=>nomatch z);rcases hc with rfl|hc
   ·exact kp _ v (nL _ _ e) hb q
   ·exact kp c v (nL _ _ hc) (fun z=>by subst z;rw[hH]at hc;cases hc) q
def zp2 (i:Nat):TE:=fun σ H Q=>∃d kvs,σ[i]?=some (some (.ref d))/\H d=some (.dK kvs)/\∀p,H p=none->Q (.ref p) (upd H p (.ext fun h=>h.IsItemsView p d))
theorem zgk {i:Nat}{x:Str}{p ap cp:Pos}(hN:X.N[i]?=some x)(hv:Vis X.env.scope x)(hdb:(x==("__debug__":Str))=false)(hcd:(x==("__classdict__":Str))=false)(hline:(ap.endLine==cp.line)=true):
  PE X (.Call (.Attribute (.Name x p) "items" ap) [] [] cp) (zp2 i):=by
 intro pins s σ H Q I h;obtain⟨d,kvs,hσ,hd,q⟩:=h;refine wpAny_Call_method (T:="dict") (id:="dict.items") rfl rfl hline PySem.F.plainAttrs_dict PySem.F.slot_dict_items PySem.F.type_dict_items (thn (z3t hN hv hdb hcd pins s σ H (fun v H1=>v=.ref d/\H1=H) I ⟨_,hσ,rfl,rfl⟩) fun ov s1 zz=>?_);obtain⟨y,H1,I1,r1,ey,eH⟩:=zz;subst ey eH;cases r1;obtain⟨_,hsys,vs,rel,hdo⟩:=zm1 I1.hok hd;refine⟨hdo.typeIs,hdo.mapOf.noDict,?_⟩;show wpAny _ _ (callWith cp (.builtin "dict.items") [.ref d] [] []) _ _ s1;refine method_meetsIn PySem.F.slot_dict_items PySem.F.entry_dict_items rfl (PySem.evalArgs_none ⟨rfl,hdo.typeIs,PySem.F.args_dict_items_1 _,_,meets_dict_items (z17 X.prog X.w) d hsys,⟨vs,hdo⟩,?_⟩);have hp:H1 s1.heap.objs.size=none:=I1.hok.fresh (ah _);refine⟨.ref s1.heap.objs.size,_,I1.laid (a:=s1.heap.objs.size) (o:=.ext fun h=>h.IsItemsView s1.heap.objs.size d) (t':=s1.toks) (fun _ _ q=>ag _ q) (ah _) ⟨⟨_,bh _ rfl,rfl,rfl⟩,⟨_,bh _ rfl⟩,fun h1 h2 ⟨o,ho,r⟩ k=>⟨o,k o ho,r⟩⟩,rfl,q _ hp⟩
end
end Mi
namespace Mi
open PySem PySem.Spec PyProof.Rows L2 PySem.W
section
variable {X:Cx}{pins:List (Addr×Obj)}{σ:L2.St}{H:Hp}{s:aa}
theorem z1e {p:D->Prop}(O:OrdOn p)(I:Inv X pins σ H s){l:Addr}{vs:List V}{its:List Value}{n:Nat}{ys:List D}{B:Ad->Prop}{A:bz}{E:Value->aa->Prop}{Q:Value->aa->Prop}
  (hH:H l=some (.lst vs)) (ho:s.heap.get? l=some (listOf its.toArray n)) (rv:Vals vs its) (rs:Reps X.K H B vs ys) (h2:2<=ys.length) (h64:ys.length<64) (hp:∀d∈ys,p d)
  (ask:∀h':Heap,(∀b o,b≠X.env.locals->b≠l->s.heap.get? b=some o->h'.get? b=some o)->wpAny (model X.prog X.w) A.in1 (r6 its.toArray) (fun κ s'=>s'={s with heap:=h'}/\∀i j (C:Bool->aa->Prop),i<ys.length->j<ys.length->C (ltD (ys.getD i .none) (ys.getD j .none)) {s with heap:=h'}->kas_ask X.prog X.w A.in1 κ its i j C {s with heap:=h'}) (fun _ _=>False) {s with heap:=h'})
  (q:∀s' vs',Inv X pins σ (upd H l (.lst vs')) s'->Reps X.K H B vs' (z1h ys)->Q .none s'):wpAny (model X.prog X.w) A (call (.builtin "list.sort") [.ref l]) Q E s:=by
 have l1:vs.length=ys.length:=rs.length;have l2:vs.length=its.length:=rv.length;obtain⟨m,hNs,_⟩:=id I.loc;have F:Fr X.base X.env.locals s.heap m:=⟨hNs,I.bk,ck I.ok.bsz I.ok.above⟩;have hL:l≠X.env.locals:=fun z=>by subst z;rw[I.free]at hH;cases hH
 have hb:X.base.get? l=none:=by
  cases e:X.base.get? l with
  |none=>rfl
  |some u=>have:=(I.bs l u e).2;rw[hH]at this;cases this
 refine kat_lsort (vs:=its) F (news_at hL hb ho) (.head zcb) (by simp) (by omega) (by omega) fun e1 h' F' N'=>?_;have kpOf:∀{h'':Heap} {o:Obj},Fr X.base X.env.locals h'' m->News X.base X.env.locals h'' ((l,o)::rest X.base s.heap X.env.locals l)->∀b o,b≠X.env.locals->b≠l->s.heap.get? b=some o->h''.get? b=some o:=fun F'' N'' b o h1 h2 e=>z80 I.bk F'' (fun q hq=>N'' q (aw _ hq)) b o h1 h2 e;refine thn (ask h' (kpOf F' N')) fun κ s' zz=>?_;obtain⟨es,hask⟩:=zz;subst es;have el:its.length=ys.length:=by omega
 rw[el];refine z3p (n:=ys.length) (lt:=ltk (rank ys)) (P:=fun s'=>s'={s with heap:=h'}) (fun i j C s' hi hj e hC=>?_) (kas_sort ys.length) _ (z7c (by omega)) rfl fun s' e=>?_
 ·subst e;refine hask i j C hi hj ?_;rw[<-z86 O hp hi hj];exact hC _ rfl
 ·subst e;refine⟨_,_,F',N',.head zcb,fun h'' c F'' N''=>?_⟩;have hD2:=(N'' _ au).1;have out:=za6 O hp (by omega);obtain⟨_,hperm⟩:=z4o (key:=rank ys) ys.length (by omega);generalize runT (ltk (rank ys)) (kas_sort ys.length)=pm at out hperm hD2 ⊢;have hin:∀i∈pm.toList,i<ys.length:=fun i hi=>by have:=(hperm.toList.mem_iff (a:=i)).mp hi;simpa using this
  have lnn:(pm.toList.map fun i=>vs.getD i .non).length=ys.length:=by rw[am];have:=hperm.toList.length_eq;simpa using this
  refine q _ (pm.toList.map fun i=>vs.getD i .non) (I.writeF (t':=s.toks) hH hNs F''.ns (kpOf F'' N'') ⟨by rw[lnn,cq];omega,_,c,z4a rv pm.toList (fun i hi=>by rw[l1];exact hin i hi),hD2⟩) ?_;rw[<-out];exact z4b rs pm.toList hin
end
theorem z4p {prog:bc}{w:World}{A:bz}{E:Value->aa->Prop}{s:aa}{l:Addr}{vs:List Value}{n:Nat}{Q:Value->aa->Prop}(hoL:s.heap.get? l=some (cu "list" vs.toArray n))(h2:vs.length<2)
  (h:∀h' n',(∀b o,b≠l->s.heap.get? b=some o->h'.get? b=some o)->h'.get? l=some (cu "list" vs.toArray n')->Q .none {s with heap:=h'}):
  wpAny (model prog w) A (call (.builtin "list.sort") [.ref l]) Q E s:=by
 refine im slot_list_sort ⟨_,hoL,rfl⟩ entry_list_sort ?body (args_list_sort _);rw[list_sort_plain];refine af (nz hoL rfl ?_);refine af (kr hoL rfl ?_ (hsz:=by rw[cq];simp;omega));obtain⟨e1,ho1⟩:∃e1,(s.heap.update l (Obj.mapSeq fun _=>(#[]:Array Value))).get? l=some (cu "list" #[] e1):=⟨_,jn hoL fun _=>#[]⟩;have k3:∀b o,b≠l->s.heap.get? b=some o->(s.heap.update l (Obj.mapSeq fun _=>(#[]:Array Value))).get? b=some o:=fun b o hb e=>z2f hb e;generalize (s.heap.update l (Obj.mapSeq fun _=>(#[]:Array Value)))=h3 at ho1 k3 ⊢;refine af (o5 (s:={s with heap:=h3}) ho1 rfl ?_);refine af (wpAny_newTuple ?_ (by rw[cq];simp;omega));apply af;refine jg ?_;refine dr ?_;have ho6:((h3.push (cu "tuple" vs.toArray 0)).push (cu "list" #[] 0)).get? l=some (cu "list" #[] e1):=ag _ (ag _ ho1);have k6:∀b o,b≠l->s.heap.get? b=some o->((h3.push (cu "tuple" vs.toArray 0)).push (cu "list" #[] 0)).get? b=some o:=fun b o hb e=>ag _ (ag _ (k3 b o hb e));show wpAny (model prog w) _ _ _ _ {s with heap:=(h3.push (cu "tuple" vs.toArray 0)).push (cu "list" #[] 0)};generalize ((h3.push (cu "tuple" vs.toArray 0)).push (cu "list" #[] 0))=h6 at ho6 k6 ⊢
 dsimp only
 have hz:vs.toArray.size<2:=by simpa using h2
 rw[if_pos hz,if_pos hz];refine af (a8 ?_);rw[StateT.run_pure];refine af (a8 ?_)
 dsimp only
 refine af (o5 (s:={s with heap:=h6}) ho6 rfl ?_);have em:(arrOf (SortSt.mk' general' (vs.toArray.zip vs.toArray) #[] 7 none)).map (·.2)=vs.toArray:=by show(vs.toArray.zip vs.toArray).map (·.2)=vs.toArray;simp;exact List.map_snd_zip (ah _)
 rw[em];refine af (kr (s:={s with heap:=h6}) ho6 rfl ?_ (hsz2:=by rw[cq];simp;omega));simp only[if_false,ql,bne_self_eq_false];exact a8 ⟨_,rfl,h _ _ (fun b o hb e=>z2f hb (k6 b o hb e)) (jn ho6 fun _=>vs.toArray)⟩
theorem zbc {K:W.Frag}{H:Hp}{B:Ad->Prop}:∀{vs:List V} {ds:List D},vs.length=ds.length->(∀(i:Nat) v d,vs[i]?=some v->ds[i]?=some d->Rep K H B v d)->Reps K H B vs ds
 | [],[],_,_=>rfl
 |v::vs,d::ds,hl,h=>Reps.cons (h 0 v d rfl rfl) (zbc (by simpa using hl) fun i v d h1 h2=>h (i+1) v d (by simpa using h1) (by simpa using h2))
 | [],_::_,hl,_=>by cases hl
 |_::_,[],hl,_=>by cases hl
theorem z1a:∀as:List Addr,Vals (as.map V.ref) (as.map Value.ref)
 | []=>.nil
 |a::as=>.cons rfl (z1a as)
section
variable {X:Cx}
def rSV (K:W.Frag):List V->Hp->VK->Prop:=fun xs H Q=>∃p d kvs es B,xs=[.ref p]/\H p=some (.ext fun h=>h.IsItemsView p d)/\H d=some (.dK kvs)/\REs K H B kvs es/\immE es=true/\z2a (es.map ent)=true/\es.length<64/\∀w H',Same H H'->Rep K H' (nw H) w (.list (z1h (es.map ent)))->Q w H'
theorem zbm (hc:X.calm=true):CallR X (.builtin "sorted") (rSV X.K):=by
 intro pins s σ H xs us Q I r h;obtain⟨p,d,kvs,es,B,rfl,hp,hd,rs,him,hok,h64,q⟩:=h;obtain⟨u,rfl,ru⟩:=vals1 r;cases ru;obtain⟨hview,_,_⟩:=I.hok p _ hp;obtain⟨hz,hsys,vs,rel,o,es',ep,ho,hcx,hdat,r3⟩:=zm1 I.hok hd;have hat:s.heap.DictAt (z17 X.prog X.w) d vs ep:=⟨o,es',ho,hcx,hdat,r3⟩;have lk:kvs.length=vs.length:=rel.length;have le:kvs.length=es.length:=rs.length;apply i9 tf rk rm (rq _);unfold Builtin.«sorted»;apply af (m:=uf "sorted" 1 1 _);apply a8;refine af (kdx_collect (A:=X.A.in1) (knd:=z17 X.prog X.w) (kvs:=vs) (ep:=ep) (I.ok.hd hc) hview hat (by omega) fun h' tk as hk hl hG=>?_);have I1:Inv X pins σ H {s with heap:=h',toks:=tk}:=I.kept (t':=tk) hk;have lz:as.length=kvs.length:=by omega
 have e1:((as.zip (kvs.map fun kv=>[kV kv.1,kv.2])).map (·.1))=as:=List.map_fst_zip (by rw[am];omega)
 have memZ:∀z∈as.zip (kvs.map fun kv=>[kV kv.1,kv.2]),∃j k v,as[j]?=some z.1/\kvs[j]?=some (k,v)/\z.2=[kV k,v]:=fun z hz1=>by
  obtain⟨j,hj,ej⟩:=p4 hz1;have hj':j<as.length/\j<kvs.length:=by rw[List.length_zip,am]at hj;omega
  refine⟨j,(kvs[j]'hj'.2).1,(kvs[j]'hj'.2).2,?_,bd hj'.2,?_⟩
  ·rw[<-ej,List.getElem_zip];exact bd hj'.1
  ·rw[<-ej,List.getElem_zip];simp
 obtain⟨H1,I2,sm,ht,_⟩:=z6v (as.zip (kvs.map fun kv=>[kV kv.1,kv.2])) I1 (by rw[e1];exact hG.rise.imp fun h=>bx h)
  (fun z hz=>by obtain⟨j,k,v,h1,_,_⟩:=memZ z hz;have ha:=hG.above z.1 (cw h1);exact I.fpOk (j6 ha) (I.hok.fresh (j6 ha)))
  (fun z hz=>by obtain⟨j,k,v,h1,h2,h3⟩:=memZ z hz;obtain⟨key,k',x,g1,g2,g3⟩:=hG.pairs j z.1 h1;obtain⟨u,g4,ru⟩:=ztk rel h2;rw[g4]at g1;cases g1;rw[h3];exact⟨by rw[cq];simp,[key,_],.cons (zam g2) (.cons ru .nil),0,g3⟩)
 refine af (jg ?_ (by rw[am];omega));have hD:H1 h'.objs.size=none:=I2.hok.fresh (ah _);have I3:Inv X pins σ (upd H1 h'.objs.size (.lst (as.map V.ref))) {s with heap:=h'.push (cu "list" (as.map Value.ref).toArray 0),toks:=tk}:=I2.laid (a:=h'.objs.size) (o:=.lst (as.map V.ref)) (t':=tk) (fun _ _ q=>ag _ q) (ah _) ⟨by rw[am];omega,_,0,z1a as,bh _ rfl⟩
 have rp:Reps X.K (upd H1 h'.objs.size (.lst (as.map V.ref))) (fun _=>False) (as.map V.ref) (es.map ent):=by
  refine zbc (by rw[am,am];omega) fun i v dd h1 h2=>?_;rw[bo]at h1 h2;obtain⟨a,ha,rfl⟩:=dh.mp h1;obtain⟨ev,hev,rfl⟩:=dh.mp h2;have hi:i<kvs.length:=by rw[<-lz];exact(bn.mp ha).1
  have hkv:kvs[i]?=some (kvs[i].1,kvs[i].2):=by simp[hi]
  obtain⟨dv,h4,ok,rv⟩:=REs.at rs hkv;rw[h4]at hev;cases hev;have hta:H1 a=some (.tup [kV kvs[i].1,kvs[i].2]):=ht (a,[kV kvs[i].1,kvs[i].2]) (by refine ol.mpr ⟨i,?_⟩;rw[List.getElem?_zip_eq_some];exact⟨ha,by rw[bo,hkv];rfl⟩);have hdv:imm dv=true:=ax.mp him _ (cw h4);refine⟨a,_,rfl,SqT.of (by rw[z02 (z05 hta hD)];exact hta),Reps.cons (zh6 ok) (Reps.cons ?_ rfl)⟩;exact Rep.immK (fun b u e f=>by have:=sm b u e;rw[z02 (z05 this hD)];exact this) dv hdv rv
 have hHD:H h'.objs.size=none:=by
  cases e:H h'.objs.size with
  |none=>rfl
  |some u=>have:=sm _ _ e;rw[hD]at this;cases this
 have fin:∀s' vs',Inv X pins σ (upd (upd H1 h'.objs.size (.lst (as.map V.ref))) h'.objs.size (.lst vs')) s'->Reps X.K (upd H1 h'.objs.size (.lst (as.map V.ref))) (fun _=>False) vs' (z1h (es.map ent))->EP X pins σ Q (.ref h'.objs.size) s':=fun s' vs' I4 r4=>by
  refine⟨.ref h'.objs.size,_,I4,rfl,q _ _ (fun b u e=>?_) ⟨_,vs',rfl,.inl ⟨z08,hHD⟩,?_⟩⟩
  ·have hb:=z05 e hHD;rw[z02 hb,z02 hb];exact sm b u e
  ·exact Reps.keep (fun b u e f=>by
    rcases f with f|f
    ·exact f.elim
    ·have hb:b≠h'.objs.size:=fun z=>by subst z;rw[z08]at e;cases e;exact f
     rw[z02 hb];exact e) (fun _ z=>z.elim) _ r4
 show wpAny _ _ (pf [Value.ref h'.objs.size] (call (.builtin "list.sort") [.ref h'.objs.size])>>=_) _ _ {s with heap:=h'.push (cu "list" (as.map Value.ref).toArray 0),toks:=tk};have hoD:(h'.push (cu "list" (as.map Value.ref).toArray 0)).get? h'.objs.size=some (cu "list" (as.map Value.ref).toArray 0):=bh _ rfl;obtain⟨m,hNs,_⟩:=id I3.loc;have hLD:X.env.locals≠h'.objs.size:=fun z=>by have:=I2.lt;rw[z]at this;exact b6 _ this
 by_cases h2:es.length<2
 ·refine af (dr (z4p (s:={s with heap:=h'.push (cu "list" (as.map Value.ref).toArray 0),toks:=tk}) hoD (by rw[am];omega) fun h'' n' kp hD2=>a8 ⟨_,rfl,fin _ _ (I3.writeF (t':=tk) z08 hNs (hNs.at fun o e=>kp _ o hLD e) (fun b u _ hb e=>kp b u hb e) ⟨by rw[am];omega,_,n',z1a as,hD2⟩) ?_⟩))
  have es2:z1h (es.map ent)=es.map ent:=by
   match es,h2 with
   | [],_=>rfl
   | [y],_=>rfl
   |_::_::_,h2=>simp at h2;omega
  rw[es2];exact rp
 ·have h2':2<=(es.map ent).length:=by rw[am];omega
  have h64':(es.map ent).length<64:=by rw[am];exact h64
  have post:∀s' vs',Inv X pins σ (upd (upd H1 h'.objs.size (.lst (as.map V.ref))) h'.objs.size (.lst vs')) s'->Reps X.K (upd H1 h'.objs.size (.lst (as.map V.ref))) (fun _=>False) vs' (z1h (es.map ent))->EP X pins σ Q (.ref h'.objs.size) s':=fin;unfold z2a at hok;simp only[cj,ax]at hok;have ktp:∀h'':Heap,(∀b o,b≠X.env.locals->b≠h'.objs.size->(h'.push (cu "list" (as.map Value.ref).toArray 0)).get? b=some o->h''.get? b=some o)->∀b o,(h'.push (cu "list" (as.map Value.ref).toArray 0)).get? b=some o->o.cls=.type "tuple"->b≠X.env.locals->h''.get? b=some o:=fun h'' kp b o e hcl hL=>kp b o hL (fun z=>by subst z;rw[hoD]at e;cases e;exact absurd hcl (by simp)) e;rcases hok with(hs|hs)|hs
  ·exact af (dr (z1e (A:=X.A.in1) ordI I3 z08 hoD (z1a as) rp h2' h64' hs (fun h'' kp=>z5o true hs rp (z1a as) h2' h'') fun s' vs' I4 r4=>a8 ⟨_,rfl,fin s' vs' I4 r4⟩))
  ·exact af (dr (z1e (A:=X.A.in1) ordS I3 z08 hoD (z1a as) rp h2' h64' hs (fun h'' kp=>z5o false hs rp (z1a as) h2' h'') fun s' vs' I4 r4=>a8 ⟨_,rfl,fin s' vs' I4 r4⟩))
  ·split at hs
   case h_2=>cases hs
   rename_i y0 _ _;simp only[ak,ax,eh]at hs;obtain⟨hne,hs⟩:=hs;cases y0 with
   |nil=>cases hne
   |cons y1 yr=>exact af (dr (z1e (A:=X.A.in1) (ordT _) I3 z08 hoD (z1a as) rp h2' h64' hs (fun h'' kp=>zd7 I3 _ _ hs rp (z1a as) h2' (ktp h'' kp)) fun s' vs' I4 r4=>a8 ⟨_,rfl,fin s' vs' I4 r4⟩))
end
end Mi
namespace Mi
open PySem PySem.Spec PyProof.Rows L2
section
variable {X:Cx}
theorem zl2 {i:Nat}{f x:Str}{p p2 ap cp pos:Pos}(hc:X.calm=true)(hm:X.mg f=none)(hb:cv f=some (.builtin "sorted"))(hg:Gl X f)(hn:f≠"__name__")(hfd:(f==("__debug__":Str))=false)
  (hN:X.N[i]?=some x) (hv:Vis X.env.scope x) (hdb:(x==("__debug__":Str))=false) (hcd:(x==("__classdict__":Str))=false) (hline:(ap.endLine==cp.line)=true):
  PE X (.Call (.Name f p) [.Call (.Attribute (.Name x p2) "items" ap) [] [] cp] [] pos) (tD X.K fun ρ=>match ρ[i]? with
   |some (some (_,.dict es))=>if immE es&&z2a (es.map ent)&&decide (es.length<64)then .ok (.fr,.list (z1h (es.map ent)))else .no
   |_=>.no):=
 PE.imp (zgh (zbm hc) hm hb (pa_c (zgk hN hv hdb hcd hline) z3v rfl) rfl hg hn hfd) fun σ H Q zz=>by
  obtain⟨ρ,F,z,so,e,q⟩:=zz
  dsimp only at e
  split at e
  case h_2=>cases e
  rename_i g es hr;split at e
  case isFalse=>cases e
  rename_i hcond;cases e;simp only[ak,decide_eq_true_eq]at hcond;obtain⟨⟨h1,h2⟩,h3⟩:=hcond;obtain⟨d,kvs,B,hσ,hH,hV,rs⟩:=zb3 so hr;refine⟨d,kvs,hσ,hH,fun v hp=>⟨v,d,kvs,es,B,rfl,z08,by rw[z02 (z05 hH hp)];exact hH,rs.same (Same.upd hp) fun _ z=>z,h1,h2,h3,fun w H' sm rw'=>q w H' ((Same.upd hp).trans sm) (rw'.weak fun a ha=>?_)⟩⟩;cases a with
  |none=>exact ha
  |some a=>
   have ha':upd H v (.ext fun h=>h.IsItemsView v d) a=none:=ha;show H a=none;by_cases hav:a=v
   ·subst hav;exact hp
   ·rw[z02 hav]at ha';exact ha'
end
end Mi
namespace Mi
open PySem PySem.Spec PyProof.Rows L2 PySem.W
theorem REs.keys {K:W.Frag}{H:Hp}{B B':Ad->Prop}:∀{kvs:List (Key×V)} {es:Ents},REs K H B kvs es->Reps K H B' (kvs.map fun kv=>kV kv.1) (es.map (·.1))
 |kvs,[],r=>by have e:kvs=[]:=r;subst e;exact rfl
 |kvs,(kd,d)::es,r=>by obtain⟨k,v,t,e,e2,ok,h,q⟩:=r;subst e e2;exact Reps.cons (zh6 ok) q.keys
section
variable {X:Cx}
end
section
variable {X:Cx}{a b:Expr}{pos:Pos}{fa fb:Rho->Res GD}
end
theorem z8p {prog:bc}{w:World}{A:bz}{E:Value->aa->Prop}{s:aa}{t:Addr}{o:Obj}{n:Nat}{its:List Value}{Q:List Value->aa->Prop}(ho:s.heap.get? t=some o)(hc:o.cls=.type "tuple")(hd:o.data=.seq its.toArray n)(hsz:its.length<=bf)
  (h:∀h',(∀b u,s.heap.get? b=some u->h'.get? b=some u)->s.heap.objs.size<=h'.objs.size->Q its {s with heap:=h'}):wpAny (model prog w) A (collect (.ref t)) Q E s:=by
 have h1:(s.heap.push (cu "list" #[] 0)).get? t=some o:=ag _ ho;have h2:(s.heap.push (cu "list" #[] 0)).get? s.heap.objs.size=some (cu "list" #[] 0):=bh _ rfl;have fit:((#[]:Array Value)++its.toArray).size<=bf+1:=by rw[l9,aq];exact ma (by simpa using hsz)
 unfold collect;apply af;apply wpAny_runValue;refine n6 entry_proto_collect' ?_;show wpAny (model prog w) _ (newList []>>=fun v=>again (.builtin "list.__iadd__" ⟨[v,.ref t],[]⟩)) _ E s;apply af;refine jg (a8 ⟨Code.quiet_builtin _ (by decide+kernel),n6 entry_list_iadd' ?_⟩);show wpAny (model prog w) _ (lf (.ref s.heap.objs.size) (.ref t) (.ref s.heap.objs.size)) _ E ⟨s.heap.push (cu "list" #[] 0),s.gens,s.drawn,s.toks,s.os⟩;unfold lf;apply af;refine wpAny_typeOf (T:="tuple") ⟨o,h1,hc⟩ ?_;have tt:(Value.type "tuple"==Value.type "tuple")=true:=by rfl
 rw[tt,nq,if_pos rfl];apply af;refine nz h1 hd ?_;apply af;refine nz h2 rfl ?_;rw[show((!(#[]:Array Value).isEmpty)&&Builtin.List.listTooLong ((#[]:Array Value).size+its.toArray.size))=false from rfl,if_neg (by decide)];apply af;refine kr h2 rfl ?_ (ce _) fit;apply a8;have hq:=h ((s.heap.push (cu "list" #[] 0)).update s.heap.objs.size (Obj.mapSeq (·++its.toArray))) (fun b u e=>z2f (bx (bg e)) (ag _ e)) (by rw[Heap.size_update,ug];exact Nat.le_succ _);have h3:=jn h2 (·++its.toArray);show wpAny (model prog w) A (load s.heap.objs.size>>=_) Q E ⟨(s.heap.push (cu "list" #[] 0)).update s.heap.objs.size (Obj.mapSeq (·++its.toArray)),s.gens,s.drawn,s.toks,s.os⟩;apply af;refine t8 h3 ?_;show wpAny (model prog w) A (pure ((#[]:Array Value)++its.toArray).toList) Q E _;have el:((#[]:Array Value)++its.toArray).toList=its:=by simp
 rw[el];exact a8 hq
section
variable {X:Cx}
theorem zeh (hu:X.A.units+64<cLine):CallR X (.builtin "sorted") (rAgg X.K "sorted"):=by
 intro pins s σ H xs us Q I r h;obtain⟨B,x,dx,l,ys,d,hx,rx,e,e2,q⟩:=h;cases l with
 |true=>exact zdu hu I r hx rx e e2 q
 |false=>
  subst hx;obtain⟨a,vs,rfl,hsq,rs⟩:=z2e rx e;have e3:(if((false||imms ys)&&z57 ys&&decide (ys.length<64))=true then Res.ok (PyData.list (z1h ys))else .no)=.ok d:=e2;cases hc:(false||imms ys)&&z57 ys&&decide (ys.length<64)with
  |false=>rw[hc]at e3;cases e3
  |true=>
   rw[hc]at e3;cases e3;obtain⟨hc,h64⟩:=ba.mp hc;obtain⟨him,hok⟩:=ba.mp hc;have h64:=uk h64;obtain⟨u,rfl,ru⟩:=vals1 r;cases ru;obtain⟨its,rv,⟨o,n,ho,hcl,hdi,hda⟩,hz⟩:=I.tupleN hsq;have hll:its.length=ys.length:=by rw[<-rv.length,rs.length]
   have sz:its.length<=bf:=by rw[<-rv.length];exact hz
   apply i9 tf rk rm (rq _);unfold Builtin.«sorted»;apply af (m:=uf "sorted" 1 1 _);apply a8;refine af (z8p ho hcl hda sz fun h' hk hsz=>?_);have I1:Inv X pins σ H {s with heap:=h'}:=I.kept (t':=s.toks) hk;refine af (jg ?_ sz);have hHD:H h'.objs.size=none:=I1.hok.fresh (ah _);have hoD:(h'.push (cu "list" its.toArray 0)).get? h'.objs.size=some (cu "list" its.toArray 0):=bh _ rfl;have I3:Inv X pins σ (upd H h'.objs.size (.lst vs)) {s with heap:=h'.push (cu "list" its.toArray 0)}:=I1.laid (a:=h'.objs.size) (o:=.lst vs) (t':=s.toks) (fun _ _ z=>ag _ z) (ah _) ⟨hz,its,0,rv,hoD⟩;have rp:Reps X.K (upd H h'.objs.size (.lst vs)) (fun _=>False) vs ys:=(Reps.immB (B':=fun _=>False) ys him rs).same (Same.upd hHD) fun _ z=>z
   have fin:∀s' vs',Inv X pins σ (upd (upd H h'.objs.size (.lst vs)) h'.objs.size (.lst vs')) s'->Reps X.K (upd H h'.objs.size (.lst vs)) (fun _=>False) vs' (z1h ys)->EP X pins σ Q (.ref h'.objs.size) s':=fun s' vs' I4 r4=>by
    refine⟨.ref h'.objs.size,_,I4,rfl,q _ _ (fun b u z=>?_) ⟨_,vs',rfl,.inl ⟨z08,.inl hHD⟩,?_⟩⟩
    ·have hb:=z05 z hHD;rw[z02 hb,z02 hb];exact z
    ·refine Reps.keep (fun b u z f=>?_) (fun _ z=>z.elim) _ r4;rcases f with f|f
     ·exact f.elim
     ·have hb:b≠h'.objs.size:=fun z'=>by subst z';rw[z08]at z;cases z;exact f
      rw[z02 hb];exact z
   show wpAny _ _ (pf [Value.ref h'.objs.size] (call (.builtin "list.sort") [.ref h'.objs.size])>>=_) _ _ {s with heap:=h'.push (cu "list" its.toArray 0)};obtain⟨m,hNs,_⟩:=id I3.loc;have hLD:X.env.locals≠h'.objs.size:=fun z=>by have:=I1.lt;rw[z]at this;exact b6 _ this
   by_cases h2:ys.length<2
   ·have es:z1h ys=ys:=by
     match ys,h2 with
     | [],_=>rfl
     | [y],_=>rfl
     |_::_::_,h2=>simp at h2;omega
    refine af (dr (z4p (s:={s with heap:=h'.push (cu "list" its.toArray 0)}) hoD (by omega) fun h'' n' kp hD2=>a8 ⟨_,rfl,fin _ vs (I3.writeF (t':=s.toks) z08 hNs (hNs.at fun o e=>kp _ o hLD e) (fun b u _ hb e=>kp b u hb e) ⟨hz,its,n',rv,hD2⟩) (by rw[es];exact rp)⟩))
   ·have h2':2<=ys.length:=mv h2;have ktp:∀h'':Heap,(∀b o,b≠X.env.locals->b≠h'.objs.size->(h'.push (cu "list" its.toArray 0)).get? b=some o->h''.get? b=some o)->∀b o,(h'.push (cu "list" its.toArray 0)).get? b=some o->o.cls=.type "tuple"->b≠X.env.locals->h''.get? b=some o:=fun h'' kp b o e hcl hL=>kp b o hL (fun z=>by subst z;rw[hoD]at e;cases e;exact absurd hcl (by simp)) e;replace hok:=(cj _ _).mp hok;rcases hok with hok|hok
    case inr=>obtain⟨p,t,O,hp,hy,hcm⟩:=z9e hok;exact af (dr (z1e (A:=X.A.in1) O I3 z08 hoD rv rp h2' h64 hp (fun h'' kp=>zil I3 hy hcm rp rv h2' (ktp h'' kp) (by show X.A.units+1+1+40<cLine;omega)) fun s' vs' I4 r4=>a8 ⟨_,rfl,fin s' vs' I4 r4⟩))
    unfold z2a at hok;simp only[cj,ax]at hok;rcases hok with(hs|hs)|hs
    ·exact af (dr (z1e (A:=X.A.in1) ordI I3 z08 hoD rv rp h2' h64 hs (fun h'' kp=>z5o true hs rp rv h2' h'') fun s' vs' I4 r4=>a8 ⟨_,rfl,fin s' vs' I4 r4⟩))
    ·exact af (dr (z1e (A:=X.A.in1) ordS I3 z08 hoD rv rp h2' h64 hs (fun h'' kp=>z5o false hs rp rv h2' h'') fun s' vs' I4 r4=>a8 ⟨_,rfl,fin s' vs' I4 r4⟩))
    ·split at hs
     case h_2=>cases hs
     rename_i y0 _ _ _;simp only[ak,ax,eh]at hs;obtain⟨hne,hs⟩:=hs;cases y0 with
     |nil=>cases hne
     |cons y1 yr=>exact af (dr (z1e (A:=X.A.in1) (ordT _) I3 z08 hoD rv rp h2' h64 hs (fun h'' kp=>zd7 I3 _ _ hs rp rv h2' (ktp h'' kp)) fun s' vs' I4 r4=>a8 ⟨_,rfl,fin s' vs' I4 r4⟩))
end
end Mi
namespace Mi
open PySem PySem.Spec PyProof.Rows L2
def ItS (lo c:Int)(n:Nat):It:=⟨fun i _=>i<n,fun i H x H'=>H'=H/\x=.int (lo+i*c),fun i _=>n<=i⟩
theorem z8b {P:bc}{w:World}{K:W.Frag}{tg:Expr}(it:Addr)(lo c:Int)(n:Nat):Turn P w K tg (ItS lo c n) [it] it (fun i h=>ou h it (lo+(i:Nat)*c) ((n:Int)-(i:Nat)) c) where
 mem:=by simp
 obj:=fun i h st b hb=>by
  obtain rfl:b=it:=by simpa using hb
  refine⟨_,st,fun v z=>?_⟩;have z':Data.fields _=Data.cell v:=z;cases z'
 keep:=fun i h h' st k=>k it (by simp) _ st
 item:=by intro X hP hw hK hc i pins s σ H E I hf st hg;subst hP hw hK;have⟨f0,f1,f2,f3,f4,f5⟩:=hf it (by simp);refine(Walks.range (prog:=X.prog) (w:=X.w) (I.ok.hd hc) it lo c n).item i s _ _ hg st fun v h' tk hv st' kk=>?_;obtain⟨t,rfl⟩:=hv;have I1:Inv X pins σ H {s with heap:=h',toks:=tk}:=I.turned (fun b o hb e=>kk b o (by simpa using hb) e) f0 f1 f3 f4 f5;exact⟨_,rfl,zb7 (s:={s with heap:=h',toks:=tk}) (n:="range_iterator") st' rfl rfl (by decide) ⟨.int (lo+i*c),H,I1,⟨t,rfl⟩,⟨rfl,rfl⟩,st',fun b hb=>(hf b hb).1⟩⟩
 done:=by intro X hP hw hK hc i pins s σ H E I hf st hg;subst hP hw hK;have⟨f0,f1,f2,f3,f4,f5⟩:=hf it (by simp);have hn:n<=i:=hg;refine m5 (I.ok.hd hc) st (by omega) fun h' eb=>⟨rfl,?_⟩;exact I.turned (t':=s.toks) (fun b o hb e=>eb b o hb e) f0 f1 f3 f4 f5
 self:=fun _ _ _ _ _ st h=>m6 st h
section
variable {X:Cx}{tg a b c e:Expr}{es:List Expr}{fa fb:Rho->Res GD}{pos:Pos}
def nOf (a b c:Int):Nat:=if a<b then((b-a-1)/c+1).toNat else 0
theorem rangeSize_pos {a b c:Int}(hc:0<c):ju a b c=(nOf a b c:Int):=by
 unfold ju nOf;rw[if_pos hc];split
 ·have :0<=(b-a-1)/c:=Int.ediv_nonneg (by omega) (by omega);omega
 ·rfl
theorem zhm {a b c:Int}(hc:0<c)(ha:-LIM<=a)(hb:b<=LIM):nOf a b c<=3*LIM:=by
 unfold nOf;split
 ·have h1:(b-a-1)/c<=b-a-1:=Int.ediv_le_self _ (by omega);unfold LIM at *
  omega
 ·exact ce _
theorem zdk {a b c:Int}(hc:0<c)(ha:-LIM<=a)(ha':a<=LIM)(hb:b<=LIM)(hb':-LIM<=b)(hc':c<=LIM):p5 a b c=true:=by
 have hn:=zhm hc ha hb;unfold p5;rw[rangeSize_pos hc,if_pos hc];have fit:∀x:Int,-4000000<=x->x<=4000000->lg x=true:=fun x h1 h2=>by unfold lg;simp only[decide_eq_true_eq,ak];omega
 unfold LIM at *
 rw[fit a (by omega) (by omega),fit b (by omega) (by omega),fit c (by omega) (by omega),fit _ (by omega) (by omega),fit (b+(c-1)) (by omega) (by omega)];simp
theorem zaw {K:W.Frag}{H:Hp}{B:Ad->Prop}{lo c:Int}{n:Nat}(hz:n<=bf):Walk K (ItS lo c n) B H ((b8 n).map fun(i:Nat)=>.int (lo+i*c)):=by
 have hl:((b8 n).map fun(i:Nat)=>(PyData.int (lo+i*c):D)).length=n:=by simp
 constructor
 ·rw[hl];exact hz
 ·intro H2 k i hi;rw[hl]at hi;exact hi
 ·intro H2 k;show n<=_;rw[hl];exact ah _
 ·intro H2 k i x H3 hi y;obtain⟨e,rfl⟩:=y;subst e;rw[hl]at hi;exact⟨Same.refl _,.int (lo+i*c),by rw[bo,pv hi];rfl,rfl⟩
theorem zne {p:Pos}{fs:Rho->Res (List GD)}(hm:X.mg "range"=none)(hg:Gl X "range")(hs:isStar a=false)(hs2:isStar b=false)(hs3:isStar c=false)(ha:PA X [a,b,c] (tDA X.K fs))(hl:∀ρ ys,fs ρ=.ok ys->ys.length=3):PI X tg (.Call (.Name "range" p) [a,b,c] [] pos) (tDW X.K fun ρ=>fs ρ>>=fun ys=>rngD (ys.map (·.2))>>=fun xs=>.ok (.fr,xs)):=by
 intro pins s σ H R I h;obtain⟨ρ,F,w,so,e,q⟩:=h;obtain⟨ys,e1,e⟩:=Res.bind_ok e;obtain⟨xs,e2,e⟩:=Res.bind_ok e;cases e;have st1:cy [c] X.env=[(false,eval c X.env)]:=z0b hs3;have st2:cy [b,c] X.env=(false,eval b X.env)::[(false,eval c X.env)]:=by rw[z0b hs2,st1]
 refine Call_ (z2n I hg hm t9 (PyProof.Rows.callWith_type1 (thn (ha pos pins s σ H (fun vs H1=>Same H H1/\RGs X.K F H H1 vs ys) I ⟨ρ,F,ys,so,e1,fun vs H1 s1 rs=>⟨s1,rs⟩⟩) fun us s1 ⟨vs,H1,I1,r1,sm,rs⟩=>?_) (z0b hs) (by rw[st2];rfl)));have hy:=hl ρ ys e1
 match ys,hy with
 | [(g,d),(g',d'),(g2,d2)],hy1=>
  clear hy1;obtain⟨v,t1,ev,h1,q1⟩:=rs;obtain⟨v',v2,ev',h2,h3⟩:=q1.two;subst ev ev';obtain⟨lo,rfl⟩:∃i,d=.int i:=by cases d<;>first|exact⟨_,rfl⟩|cases e2
  obtain⟨hi,rfl⟩:∃i,d'=.int i:=by cases d'<;>first|exact⟨_,rfl⟩|cases e2
  obtain⟨st,rfl⟩:∃i,d2=.int i:=by cases d2<;>first|exact⟨_,rfl⟩|cases e2
  obtain rfl:v=.int lo:=h1;obtain rfl:v'=.int hi:=h2;obtain rfl:v2=.int st:=h3;simp only[ae,rc,rngD]at e2;split at e2
  case isFalse=>cases e2
  rename_i hn;cases e2;cases r1 with
  |cons r rr=>
  cases rr with
  |cons r' rr=>
  cases rr with
  |cons r2 rr=>
  cases rr;obtain⟨t,rfl⟩:=r;obtain⟨t',rfl⟩:=r';obtain⟨t2,rfl⟩:=r2;have hc:0<st:=hn.2.2.2.2.1;refine call_range_3 (by omega) ?_ (.inl (PyProof.noPylong_small (by unfold LIM at hn;omega)));refine qi (IsRange.new ..) (zdk hc hn.1 hn.2.2.1 hn.2.1 hn.2.2.2.1 hn.2.2.2.2.2) ?_;rw[rangeSize_pos hc];generalize hR:s1.heap.push {cls:=.type "range",data:=.fields #[.int lo t,.int hi t',.int st t2]}=hp;have I2:Inv X pins σ H1 {s1 with heap:=hp}:=I1.kept (t':=s1.toks) fun b o e=>hR▸ag _ e;have I3:Inv X pins σ H1 {s1 with heap:=hp.push {cls:=.type "range_iterator",data:=.fields #[qh lo,qh (nOf lo hi st:Int),qh st]}}:=I2.kept (t':=s1.toks) fun b o e=>ag _ e;refine⟨hp.objs.size,[hp.objs.size],_,_,H1,rfl,I3,z8b hp.objs.size lo st (nOf lo hi st),?_,fun b hb=>?_,q _ (fun _=>False) H1 sm (fun _ z=>z.elim) (zaw ?_)⟩
  ·show ou _ _ (lo+((0:Nat):Int)*st) ((nOf lo hi st:Int)-((0:Nat):Int)) st;have e1:lo+((0:Nat):Int)*st=lo:=by simp
   have e2:(nOf lo hi st:Int)-((0:Nat):Int)=nOf lo hi st:=by simp
   rw[e1,e2];exact bh _ rfl
  ·obtain rfl:b=hp.objs.size:=by simpa using hb
   exact I2.fpOk (ah _) (I2.hok.fresh (ah _))
  ·have :=zhm hc hn.1 hn.2.1;rw[cq];unfold LIM at this;omega
theorem znw {x:Str}{T:String}{m:List D->Res D}{fs:Rho->Res (List GD)}{p:Pos}(hc:CallR X (.type T) (z8l X.K m))(hm:X.mg x=none)(hv:cv x=some (.type T))(ha:PA X (e::es) (tDA X.K fs))(hst:((e::es).all fun e=>!isStar e)=true)(hg:Gl X x)(hn:x≠"__name__")(hdb:(x==("__debug__":Str))=false):
  PE X (.Call (.Name x p) (e::es) [] pos) (tD X.K fun ρ=>fs ρ>>=fun ys=>m (ys.map (·.2))>>=fun d=>.ok (gJ d .al,d)):=by
 refine PE.imp (zmo hc hm hv ha hst hg hn hdb) fun σ H Q hq=>?_;obtain⟨ρ,F,z,so,e0,q⟩:=hq;obtain⟨ys,e1,e0⟩:=Res.bind_ok e0;obtain⟨d,e2,e0⟩:=Res.bind_ok e0;cases e0;exact⟨ρ,F,ys,so,e1,fun vs H1 s1 rs=>⟨_,_,d,rs.repsV so.vis,e2,fun w H2 s2 rw'=>q w H2 (s1.trans s2) (z3w rw' fun a h=>h.elim (fun z=>(nw.back s1 z).vis so.vis) fun z=>z)⟩⟩
theorem zj1:CallR X (.type "int") (z8l X.K (biD "int")):=by
 refine CallR.imp (CallR.or zd2 zd3) fun xs H Q h=>?_;obtain⟨B,ds,d,r,e0,q⟩:=h;simp only[biD,show("int":String)≠"len" by decide,show("int":String)≠"max" by decide,if_true,if_false]at e0;split at e0
 ·rename_i i;cases e0;obtain⟨v,rfl,h1⟩:=z50 r;obtain rfl:v=.int i:=h1;exact .inl (.inl ⟨i,rfl,q _ H (Same.refl H) rfl⟩)
 ·rename_i k;cases e0;obtain⟨v,rfl,h1⟩:=z50 r;obtain rfl:v=.bl k:=h1;exact .inl (.inr ⟨k,rfl,q _ H (Same.refl H) rfl⟩)
 ·rename_i x;unfold intS at e0;split at e0
  ·rename_i hc;cases e0;rw[ba]at hc;obtain⟨v,rfl,h1⟩:=z50 r;obtain rfl:v=.str x:=h1.1;exact .inr ⟨x,rfl,hc.1,uk hc.2,q _ H (Same.refl H) rfl⟩
  ·cases e0
 ·cases e0
theorem z6w (i:Int):PyData.strOk (toString i:String)=true:=by
 have small:∀c:Char,c.toNat<1114112:=fun c=>by
  rcases c.valid with h|h
  ·have h':c.val.toNat<55296:=h;show c.val.toNat<_;omega
  ·exact h.2
 unfold PyData.strOk;rw[Str.ofString_eq_toList];simp only[lh,List.all_toArray,ax];intro c _;exact ul (small c)
theorem ziy:CallR X (.type "str") (z8l X.K (biD "str")):=by
 refine CallR.imp z6j fun xs H Q h=>?_;obtain⟨B,ds,d,r,e0,q⟩:=h;simp only[biD,show("str":String)≠"len" by decide,show("str":String)≠"max" by decide,show("str":String)≠"int" by decide,if_true,if_false]at e0;split at e0
 ·rename_i i;split at e0
  ·rename_i hi;cases e0;obtain⟨v,rfl,h1⟩:=z50 r;obtain rfl:v=.int i:=h1;exact⟨i,rfl,hi,q _ H (Same.refl H) ⟨rfl,z6w i⟩⟩
  ·cases e0
 ·cases e0
theorem ze8 {A:bz}{K:W.Frag}{H:Hp}{B:Ad->Prop}{s:aa}{y:V}{v:Value}{d:D}{p:Str}{Q:Value->aa->Prop}{E:Value->aa->Prop}(r1:RelV y v)(rv:Rep K H B y d)(e:txtD d=.ok p)(hQ:∀t tk,PyData.strOk p=true->Q (.str p t) {s with toks:=tk}):wpAny (model X.prog X.w) A (formatField v Str.empty) Q E s:=by
 cases d<;>try (cases e;done)
 case int i=>
  obtain rfl:y=.int i:=rv;obtain⟨t,rfl⟩:=r1;simp only[txtD]at e;split at e
  ·rename_i h;cases e;exact formatField_int_small h (hQ _ _ (z6w i))
  ·cases e
 case str z=>
  obtain rfl:y=.str z:=rv.1;obtain⟨t,rfl⟩:=r1;simp only[txtD]at e;split at e
  ·rename_i h;cases e;exact formatField_str (fun t' tk=>hQ t' tk rv.2) (z0p h)
  ·cases e
theorem d_fs {x:Str}{n:Nat}{p1 p2 p3:Pos}(hx:PyData.strOk x=true)(ha:PE X a (tD X.K fa))(hb:PE X b (tD X.K fb)):
  PE X (.JoinedStr [.FormattedValue a (-1) none p1,.Constant (.str x) n p2,.FormattedValue b (-1) none p3] pos) (tD X.K fun ρ=>fa ρ>>=fun u=>txtD u.2>>=fun p=>fb ρ>>=fun v=>txtD v.2>>=fun q=>if p.length+x.length+q.length<=LIM then .ok (.fr,.str (p++x++q))else .no):=by
 intro pins s σ H Q I h;obtain⟨ρ,F,w,so,e0,q⟩:=h;obtain⟨u,e1,e0⟩:=Res.bind_ok e0;obtain⟨pp,e2,e0⟩:=Res.bind_ok e0;obtain⟨v,e3,e0⟩:=Res.bind_ok e0;obtain⟨qq,e4,e0⟩:=Res.bind_ok e0;split at e0
 case isFalse=>cases e0
 rename_i hl;cases e0;have l0:(Str.empty++pp:Str)=pp:=by show Str.mk (#[]++pp.cps)=pp;rw[Array.empty_append]
 have len:∀y z:Str,(y++z).length=y.length+z.length:=fun y z=>by show Array.size (y.cps++z.cps)=_;rw[l9];rfl
 refine JoinedStr_many ?_;refine o6 ?_;refine o8 ?_;refine thn (ha pins s σ H (fun v H1=>Same H H1/\Rep X.K H1 (BG F H u.1) v u.2) I ⟨ρ,F,u,so,e1,fun v H1 s1 rv=>⟨s1,rv⟩⟩) fun v1 s1 zz=>?_;obtain⟨y1,H1,I1,r1,sm1,rv1⟩:=zz;refine ze8 (X:=X) r1 rv1 e2 fun t tk k1=>?_;show(Str.empty++pp).length<=bf/\_;rw[l0];refine⟨z0p (by omega),?_⟩;refine o6 ?_;have I1':Inv X pins σ H1 {s1 with toks:=tk}:=I1.tok tk;refine thn (zcz (X:=X) pins _ σ H1 (fun v H2=>v=.str x/\H2=H1) I1' ⟨rfl,rfl⟩) fun v2 s2 zz=>?_;obtain⟨y2,H2,I2,r2,ey,eH⟩:=zz;subst ey eH;obtain⟨t2,rfl⟩:=r2;refine⟨z0p (by rw[len];omega),?_⟩;refine o6 ?_;refine o8 ?_;refine thn (hb pins s2 σ H2 (fun v' H3=>Same H2 H3/\Rep X.K H3 (BG F H2 v.1) v' v.2) I2 ⟨ρ,F,v,so.same sm1,e3,fun v H1 s1 rv=>⟨s1,rv⟩⟩) fun v3 s3 zz=>?_;obtain⟨y3,H3,I3,r3,sm3,rv3⟩:=zz;refine ze8 (X:=X) r3 rv3 e4 fun t3 tk3 k3=>?_;refine⟨z0p (by rw[len,len];omega),?_⟩;refine joinParts_nil ?_ (z0p (by rw[len,len];omega));exact⟨.str (pp++x++qq),H3,I3.tok _,⟨_,rfl⟩,q _ _ (sm1.trans sm3) ⟨rfl,z2c (z2c k1 hx) k3⟩⟩
end
end Mi
namespace Mi
open PySem
section
variable {prog:bc}{w:World}{A:bz}{E:Value->aa->Prop}{s:aa}{z TI TO:Addr}{f0:Value}{f1:Bool}
variable {i1 i2:Addr}{p1 p2:List Addr}{n1 n2 i:Nat}{P1 P2:Nat->Value->Prop}{S1 S2:Nat->Heap->Prop}{a b:Value}
end
end Mi
namespace Mi
open PySem PySem.Spec PyProof.Rows L2
section
variable {prog:bc}{w:World}{A:bz}{E:Value->aa->Prop}{s:aa}
theorem zad {it t:Addr}{i:Nat}{items:Array Value}{x:Value}{Q:Value->aa->Prop}(hit:s.heap.IsTupleIter it t i)(ht:s.heap.IsTuple t items)(hx:items[i]?=some x)
  (hQ:∀h',h'.IsTupleIter it t (i+1)->g7 it s.heap h'->Q x {s with heap:=h'}):wpAny (model prog w) A (lx (.ref it)) Q E s:=by
 have ty:=hit.typeIs;obtain⟨⟨ocls,odict,odata,oslots⟩,ho,hc,hd⟩:=hit;obtain⟨⟨tcls,tdict,tdata,tslots⟩,to,tc,n,td⟩:=ht;cases hc;cases hd;cases tc;cases td;apply af;refine jx ty F.slot_tuple_iterator_next (im F.slot_tuple_iterator_next ty F.entry_tuple_iterator_next ?_ (F.args_tuple_iterator_next_1 _));show wpAny _ _ (field (.ref it) 0>>=_) _ _ _;apply af;refine jw ho rfl (x:=.ref t) rfl ?_;show wpAny _ _ (field (.ref it) 1>>=_) _ _ _;apply af;refine jw ho rfl (x:=.int i 0) rfl ?_;apply af;refine wpAny_seqItems to rfl ?_;have ei:((i:Int)).toNat=i:=se i
 dsimp only
 rw[ei,hx];apply af;refine wpAny_setField ho rfl (by simp) ?_;refine a8 ⟨x,rfl,a8 (hQ _ ⟨_,n9 _ ho rfl,rfl,?_⟩ (Heap.SameBut.update _ _ _))⟩;rfl
theorem z66 {it t:Addr}{i:Nat}{items:Array Value}{Q:Value->aa->Prop}(hh:A.handled=none)(hit:s.heap.IsTupleIter it t i)(ht:s.heap.IsTuple t items)(hx:items[i]?=none)
  (hE:∀h' e,Heap.ExtBut it s.heap h'->(∃o,h'.get? e=some o/\o.cls=.type "StopIteration")->E (.ref e) {s with heap:=h'}):wpAny (model prog w) A (lx (.ref it)) Q E s:=by
 have ty:=hit.typeIs;obtain⟨⟨ocls,odict,odata,oslots⟩,ho,hc,hd⟩:=hit;obtain⟨⟨tcls,tdict,tdata,tslots⟩,to,tc,n,td⟩:=ht;cases hc;cases hd;cases tc;cases td;apply af;refine jx ty F.slot_tuple_iterator_next (im F.slot_tuple_iterator_next ty F.entry_tuple_iterator_next ?_ (F.args_tuple_iterator_next_1 _));show wpAny _ _ (field (.ref it) 0>>=_) _ _ _;apply af;refine jw ho rfl (x:=.ref t) rfl ?_;show wpAny _ _ (field (.ref it) 1>>=_) _ _ _;apply af;refine jw ho rfl (x:=.int i 0) rfl ?_;apply af;refine wpAny_seqItems to rfl ?_;have ei:((i:Int)).toNat=i:=se i
 dsimp only
 rw[ei,hx];apply af;refine qr ?_;apply af;refine wpAny_setField ho rfl (by simp) ?_
 delta Builtin.SmallTypes.stopIteration
 repeat (any_goals (first|assumption|wp_step))
 refine wpAny_raiseNew_none (show A.in1.handled=none from hh) ?_;refine hE _ _ (fun b o hb e=>?_) ⟨_,bh _ rfl,rfl⟩;refine ag _ (ag _ ?_);rw[pz _ _ _ _ hb];exact e
theorem zpl (hh:A.handled=none)(it t:Addr)(hne:t≠it)(items:Array Value):Draws prog w A it [it,t] items.size (fun i v=>items[i]?=some v) (fun i h=>h.IsTupleIter it t i/\h.IsTuple t items) where
 live:=fun i h st=>let⟨⟨o,ho,_⟩,_⟩:=st;⟨o,ho⟩
 frame:=fun i h h' st k=>by obtain⟨⟨o,ho,r⟩,⟨o2,ho2,r2⟩⟩:=st;exact⟨⟨o,k it (by simp) o ho,r⟩,⟨o2,k t (by simp) o2 ho2,r2⟩⟩
 item:=fun i s1 Q1 E1 hi st hQ=>by refine zad st.1 st.2 (ly hi) fun h' h1 sb=>?_;obtain⟨o2,ho2,r2⟩:=st.2;exact hQ _ h' s1.toks (ly hi) ⟨h1,⟨o2,sb.extBut t o2 hne ho2,r2⟩⟩ sb
 done:=fun s Q E st hE=>z66 hh st.1 st.2 (Array.getElem?_eq_none (ah _)) hE
end
def IsB (h:Heap)(l:Bool)(a:Addr)(xs:Array Value):Prop:=match l with
 |true=>h.IsList a xs
 |false=>h.IsTuple a xs
def ItB (h:Heap)(l:Bool)(it a:Addr)(i:Nat):Prop:=match l with
 |true=>h.IsListIter it a i
 |false=>h.IsTupleIter it a i
def SqB (K:W.Frag)(H:Hp)(l:Bool)(a:Addr)(vs:List V):Prop:=match l with
 |true=>SqL K H a vs
 |false=>SqT K H a vs
def SrB (K:W.Frag)(H:Hp)(B:Ad->Prop)(l:Bool)(a:Addr)(vs:List V):Prop:=match l with
 |true=>(H a=some (.lst vs)/\B (some a))\/(FL K H a vs/\B none)
 |false=>SqT K H a vs
abbrev itObj (l:Bool)(a:Addr):Obj:={cls:=.type (if l then "list_iterator"else "tuple_iterator"),data:=.fields #[.ref a,.int 0 0]}
theorem SrB.keep {K:W.Frag}{H H2:Hp}{B:Ad->Prop}{l:Bool}{a:Addr}{vs:List V}(h:SrB K H B l a vs)(k:Kp B H H2):SqB K H2 l a vs:=by
 cases l with
 |true=>
  rcases h with⟨h,b⟩|⟨⟨o,h⟩|h,_⟩
  ·exact .inl (.inl (k a _ h (.inl b)))
  ·exact .inl (.inr ⟨o,k a _ h (.inr True.intro)⟩)
  ·exact .inr h
 |false=>exact SqT.keep k h
theorem SrB.of {K:W.Frag}{H:Hp}{B:Ad->Prop}{v:V}{d:D}{xs:List D}(r:Rep K H B v d)(e:seqR d=.ok xs):∃l a vs,v=.ref a/\SrB K H B l a vs/\Reps K H B vs xs/\xs.length<=LIM:=by
 cases d<;>try (exact(z1b e).elim)
 case list ds=>
  have e:(if decide (ds.length<=LIM)=true then Res.ok ds else Res.no)=Res.ok xs:=e;split at e
  ·rename_i hc;cases e;obtain⟨a,vs,rfl,h,rs⟩:=r;exact⟨true,a,vs,rfl,h,rs,uk hc⟩
  ·cases e
 case tuple ds=>
  have e:(if decide (ds.length<=LIM)=true then Res.ok ds else Res.no)=Res.ok xs:=e;split at e
  ·rename_i hc;cases e;obtain⟨a,vs,rfl,h,rs⟩:=r;exact⟨false,a,vs,rfl,h,rs,uk hc⟩
  ·cases e
section
variable {X:Cx}{pins:List (Addr×Obj)}{σ:L2.St}{H:Hp}{s:aa}
theorem SqB.items {l:Bool}{a:Addr}{vs:List V}(I:Inv X pins σ H s)(h:SqB X.K H l a vs):∃its:List Value,Vals vs its/\IsB s.heap l a its.toArray/\vs.length=its.length:=by
 cases l with
 |true=>obtain⟨its,rv,p,_⟩:=I.list h;exact⟨its,rv,p.isList,rv.length⟩
 |false=>obtain⟨its,rv,p,_⟩:=I.tuple h;exact⟨its,rv,p,rv.length⟩
end
theorem zhq {prog:bc}{w:World}{A:bz}(hh:A.handled=none)(l:Bool)(it a:Addr)(hne:a≠it)(items:Array Value):Draws prog w A it [it,a] items.size (fun i v=>items[i]?=some v) (fun i h=>ItB h l it a i/\IsB h l a items):=by
 cases l with
 |true=>exact Draws.list hh it a hne items
 |false=>exact zpl hh it a hne items
theorem ItB.live {h:Heap}{l:Bool}{it a:Addr}{i:Nat}(x:ItB h l it a i):∃o,h.get? it=some o/\∀v,o.data≠.cell v:=by cases l<;>(obtain⟨o,ho,_,hd⟩:=x;exact⟨o,ho,fun v z=>by rw[hd]at z;cases z⟩)
theorem ItB.keep {h h':Heap}{l:Bool}{it a:Addr}{i:Nat}(x:ItB h l it a i)(k:∀o,h.get? it=some o->h'.get? it=some o):ItB h' l it a i:=by cases l<;>(obtain⟨o,ho,r⟩:=x;exact⟨o,k o ho,r⟩)
theorem ItB.new {h:Heap}{l:Bool}{it a:Addr}(x:h.get? it=some (itObj l a)):ItB h l it a 0:=by cases l<;>exact⟨_,x,rfl,rfl⟩
theorem IsB.lt {h:Heap}{l:Bool}{a:Addr}{xs:Array Value}(x:IsB h l a xs):a<h.objs.size:=by cases l<;>(obtain⟨o,ho,_⟩:=x;exact bg ho)
theorem IsB.push {h:Heap}{l:Bool}{a:Addr}{xs:Array Value}(x:IsB h l a xs)(o:Obj):IsB (h.push o) l a xs:=by cases l<;>(obtain⟨q,hq,r⟩:=x;exact⟨q,ag _ hq,r⟩)
theorem zh2 {prog:bc}{w:World}{A:bz}{E:Value->aa->Prop}{s:aa}{l:Bool}{a:Addr}{xs:Array Value}{Q:Value->aa->Prop}(h:IsB s.heap l a xs)(hQ:Q (.ref s.heap.objs.size) {s with heap:=s.heap.push (itObj l a)}):wpAny (model prog w) A (t7 (.ref a)) Q E s:=by
 cases l with
 |true=>exact l8 h hQ
 |false=>exact lm h hQ
section
variable {X:Cx}{pins:List (Addr×Obj)}{σ:L2.St}{H:Hp}{s:aa}
theorem _root_.L2.Inv.turnedTL {fp:List Addr}{p:Addr}{h':Heap}{t':Nat}{xs:List V}(I:Inv X pins σ H s)(f:∀b∈fp,FpOk X pins H b)(keep:∀b q,b∉fp->s.heap.get? b=some q->h'.get? b=some q)(hp:s.heap.objs.size<=p)
  (new:z12 X.prog X.w (upd H p (.tup xs)) h' p (.tup xs)):Inv X pins σ (upd H p (.tup xs)) {s with heap:=h',toks:=t'}:=by
 have hn:H p=none:=I.hok.fresh hp;have away:∀b u,H b=some u->b∉fp:=fun b u e1 z=>by rw[(f b z).1]at e1;cases e1
 have loc:X.env.locals∉fp:=fun z=>(f _ z).2.1 rfl;refine I.step (g':=s.gens) (d':=s.drawn) (ch:=fp) (fun b hb=>?_) (fun b q _ _ hc e _=>keep b q hc e) (fun b q _ _ hc e _=>⟨q.slots,keep b q hc e⟩) (fun b q _ e n=>by rw[z02 (bx (br (bg e) hp))];exact n) (fun b q hc e=>⟨q,keep b q hc e⟩) (fun b xs q=>by rw[z02 (z05 q hn)];exact q) (fun b u xs q=>by rw[z02 (z05 q hn)];exact q) (fun b ps q=>⟨#[],by rw[z02 (z05 q hn),q];simp⟩) (fun m hm=>?_) (fun b u e=>?_) I.bare
 ·obtain⟨f0,f1,f2,f3,f4,f5⟩:=f b hb;exact⟨f3,f1,f4,f5⟩
 ·exact hm.at fun q e=>keep _ q loc e
 ·by_cases hb:b=p
  ·subst hb;rw[z08]at e;cases e;exact new
  ·rw[z02 hb]at e;refine(I.hok b u e).stay (fun c v hc q=>keep c v ?_ q) (fun c q=>by rw[z02 (z05 q hn)];exact q) fun c xs q=>by rw[z02 (z05 q hn)];exact q
   rcases hc with rfl|hc
   ·exact away _ _ e
   ·exact away _ _ hc
theorem _root_.L2.Inv.turnedL {fp:List Addr}{h':Heap}{t':Nat}(I:Inv X pins σ H s)(f:∀b∈fp,FpOk X pins H b)(keep:∀b q,b∉fp->s.heap.get? b=some q->h'.get? b=some q):Inv X pins σ H {s with heap:=h',toks:=t'}:=by
 have away:∀b u,H b=some u->b∉fp:=fun b u e1 z=>by rw[(f b z).1]at e1;cases e1
 have loc:X.env.locals∉fp:=fun z=>(f _ z).2.1 rfl;refine I.step (g':=s.gens) (d':=s.drawn) (ch:=fp) (fun b hb=>?_) (fun b q _ _ hc e _=>keep b q hc e) (fun b q _ _ hc e _=>⟨q.slots,keep b q hc e⟩) (fun b q _ e n=>n) (fun b q hc e=>⟨q,keep b q hc e⟩) (fun b xs q=>q) (fun b u xs q=>q) (fun b ps q=>⟨#[],by rw[q];simp⟩) (fun m hm=>?_) (fun b u e=>?_) I.bare
 ·obtain⟨f0,f1,f2,f3,f4,f5⟩:=f b hb;exact⟨f3,f1,f4,f5⟩
 ·exact hm.at fun q e=>keep _ q loc e
 ·refine(I.hok b u e).stay (fun c v hc q=>keep c v ?_ q) (fun c q=>q) fun c xs q=>q;rcases hc with rfl|hc
  ·exact away _ _ e
  ·exact away _ _ hc
end
theorem zlh {vs:List V}{its:List Value}{i:Nat}{x:Value}(rv:Vals vs its)(hi:i<vs.length)(hx:its.toArray[i]?=some x):∃v,vs[i]?=some v/\RelV v x:=by
 refine⟨vs[i],bd hi,?_⟩;obtain⟨u,e1,e2⟩:=rv.get (bd hi);have hx':its[i]?=some x:=by simpa using hx
 rw[hx']at e1;cases e1;exact e2
def ItE (K:W.Frag)(l:Bool)(t:Addr)(vs:List V):It:=⟨fun i H=>SqB K H l t vs/\i<vs.length,fun i H x H'=>∃p v,vs[i]?=some v/\H p=none/\x=.ref p/\H'=upd H p (.tup [.int i,v]),fun i H=>SqB K H l t vs/\i=vs.length⟩
theorem zdi {P:bc}{w:World}{K:W.Frag}{elts:List Expr}{x1:Nat}{pos:Pos}{l:Bool}{t e it:Addr}{vs:List V}(h1:t≠it)(h2:t≠e)(h3:e≠it):
  Turn P w K (.Tuple elts x1 pos) (ItE K l t vs) [e,it] e (fun i h=>(∃old,IsEnum h e it i old)/\ItB h l it t i) where
 mem:=by simp
 obj:=fun i h st b hb=>by
  obtain⟨⟨old,he⟩,hit⟩:=st;rcases(ao.mp hb)with rfl|hb
  ·exact⟨_,he,fun v z=>by cases z⟩
  ·obtain rfl:b=it:=by simpa using hb
   exact hit.live
 keep:=fun i h h' st k=>by obtain⟨⟨old,he⟩,hit⟩:=st;exact⟨⟨old,k e (by simp) _ he⟩,hit.keep fun o=>k it (by simp) o⟩
 item:=by
  intro X hP hw hK hc i pins s σ H E I hf st hg;subst hP hw hK;obtain⟨hq,hi⟩:=hg;obtain⟨⟨old,he⟩,hit⟩:=st;obtain⟨its,rv,p,hl⟩:=SqB.items I hq;have hA:X.A.in1.handled=none:=I.ok.hd hc;have D:=zhq (prog:=X.prog) (w:=X.w) (A:=X.A.in1) hA l it t h1 its.toArray;have W:=WalksT.enumerateD D e h3 (by simp[h3,Ne.symm h2]) (by simp);obtain⟨oi,hoi,_⟩:=hit.live;refine wpAny_pyNext_enum_itemD D he ⟨hit,p⟩ (by simp;omega) h3 (by simp[h3,Ne.symm h2]) fun x h' tk hx hout hst htup hsz kp=>⟨_,rfl,?_⟩;have hT:s.heap.objs.size≠e/\s.heap.objs.size≠it:=⟨fun z=>b6 _ (z▸bg he),fun z=>b6 _ (z▸bg hoi)⟩;refine W.go elts x1 pos i s.heap.objs.size {s with heap:=h',toks:=tk+1} _ _ ⟨⟨x,hout⟩,hst,hT.1,hT.2⟩ fun h'' st'' kp2=>?_;have nw':s.heap.objs.size∉ [e,it]:=by simp[hT.1,hT.2]
  have htup':=kp2 s.heap.objs.size _ nw' htup;have hHp:H s.heap.objs.size=none:=I.hok.fresh (ah _);obtain⟨v,hv,rx⟩:=zlh rv hi hx;have I1:=I.turnedTL (fp:=[e,it]) (t':=tk+1) (xs:=[.int i,v]) (h':=h'') hf (fun b q hb z=>kp2 b q hb (kp b q (fun z=>hb (by simp[z])) (fun z=>hb (by simp[z])) z)) (ah _) ⟨by rw[cq];simp,[.int i tk,x],.cons ⟨tk,rfl⟩ (.cons rx .nil),0,htup'⟩;refine⟨.ref s.heap.objs.size,_,I1,rfl,⟨_,v,hv,hHp,rfl,rfl⟩,⟨st''.1,st''.2.1⟩,fun b hb=>?_⟩;rw[z02 fun z:b=s.heap.objs.size=>nw' (by rw[<-z];exact hb)];exact(hf b hb).1
 done:=by intro X hP hw hK hc i pins s σ H E I hf st hg;subst hP hw hK;obtain⟨hq,hi⟩:=hg;obtain⟨⟨old,he⟩,hit⟩:=st;obtain⟨its,rv,p,hl⟩:=SqB.items I hq;have hA:X.A.in1.handled=none:=I.ok.hd hc;have D:=zhq (prog:=X.prog) (w:=X.w) (A:=X.A.in1) hA l it t h1 its.toArray;have St:ItB s.heap l it t its.toArray.size/\IsB s.heap l t its.toArray:=⟨by rw[aq,<-hl,<-hi];exact hit,p⟩;exact wpAny_pyNext_enum_endD D he St fun h' eb=>⟨rfl,I.turnedL (t':=s.toks) hf fun b o hb z=>eb b o (fun q=>hb (by simp[q])) z⟩
 self:=fun _ _ _ _ _ st h=>by obtain⟨⟨old,he⟩,_⟩:=st;exact sf he h
theorem z81:∀(xs:List D) (k i:Nat),(z23 k xs)[i]?=(xs[i]?).map fun x=>.tuple [.int ((k+i:Nat):Int),x]
 | [],k,i=>by simp[z23]
 |x::xs,k,0=>by simp[z23]
 |x::xs,k,i+1=>by
  rw[z23,iq,iq,z81 xs (k+1) i];have:k+1+i=k+(i+1):=by omega
  rw[this]
theorem z3b:∀(xs:List D) (k:Nat),(z23 k xs).length=xs.length
 | [],_=>rfl
 |x::xs,k=>by rw[z23,ay,ay,z3b xs]
theorem zcp {K:W.Frag}{H:Hp}{B:Ad->Prop}{l:Bool}{t:Addr}{vs:List V}{xs:List D}(hq:SrB K H B l t vs)(rs:Reps K H B vs xs)(hz:xs.length<=bf):Walk K (ItE K l t vs) B H (z23 0 xs):=by
 have hl:=rs.length;constructor
 ·rw[z3b];exact hz
 ·intro H2 kp i h;rw[z3b]at h;exact⟨hq.keep kp,by omega⟩
 ·intro H2 kp;exact⟨hq.keep kp,by rw[z3b];exact hl.symm⟩
 ·intro H2 kp i x H3 h y;obtain⟨p,v,hv,hp,rfl,rfl⟩:=y;obtain⟨d,hd,rv⟩:=Reps.getV rs hv;refine⟨Same.upd hp,.tuple [.int i,d],by rw[z81,hd];simp,p,[.int i,v],rfl,SqT.of z08,?_⟩;refine Reps.cons rfl (Reps.cons ?_ rfl);exact Rep.keep (H':=upd H2 p (.tup [.int i,v])) (fun a q e f=>by have h2:=kp a q e f;rw[z02 (z05 h2 hp)];exact h2) (fun _ z=>z) d rv
theorem zaj (l:Bool)(t:Addr)(items:Array Value):Meets (Builtin.«enumerate.__new__» {pos:=[.type "enumerate",.ref t]}) fun _ R s=>
  IsB s.heap l t items/\R (.ok (.ret (.ref (s.heap.push (itObj l t)).objs.size))) {s with heap:=(s.heap.push (itObj l t)).push {cls:=.type "enumerate",data:=.fields #[.none,.bool false,.ref s.heap.objs.size,qh 0,.none,.none]}}:=by
 rintro prog w A R s ⟨ht,hR⟩
 have sub:=sub_enumerate
 delta Builtin.«enumerate.__new__»
 repeat (any_goals (first|assumption|(apply zh2 ht)|wp_step))
 refine wpAny_stack fun st _ _ _=>?_;refine jp (Q:=fun _ s'=>s'=s) (a8 rfl) (fun b s' hs=>?_) fun _ _ x=>x;subst hs;cases b
 all_goals repeat (any_goals (first|assumption|(apply zh2 ht)|wp_step))
 all_goals exact hR
theorem zfs {prog:bc}{w:World}{A:bz}{E:Value->aa->Prop}{s:aa}{l:Bool}{t:Addr}{items:Array Value}{Q:Value->aa->Prop}(ht:IsB s.heap l t items)
  (hQ:Q (.ref (s.heap.push (itObj l t)).objs.size) {s with heap:=(s.heap.push (itObj l t)).push {cls:=.type "enumerate",data:=.fields #[.none,.bool false,.ref s.heap.objs.size,qh 0,.none,.none]}}):wpAny (model prog w) A (call (.type "enumerate") [.ref t]) Q E s:=by
 refine callType_new F.called_enumerate (by decide) (F.typeCall_enumerate_1 _) (F.newCall_enumerate_1 _) (fun obj=>?_) F.entry_enumerate_new (zaj l t items) ⟨ht,⟨_,bh _ rfl,rfl⟩,hQ⟩;exact F.args_object_init_2 _ _
section
variable {X:Cx}{pins:List (Addr×Obj)}{σ:L2.St}
theorem z6q {H1:Hp}{s1:aa}{B:Ad->Prop}{y:V}{v:Value}{d:D}{xs:List D}{R:It->Hp->Prop}{elts:List Expr}{x1:Nat}{tp:Pos}(I1:Inv X pins σ H1 s1)(r1:RelV y v)(rv:Rep X.K H1 B y d)(e:seqR d=.ok xs)(q:∀J,Walk X.K J B H1 (z23 0 xs)->R J H1):
  wpAny (model X.prog X.w) X.A (call (.type "enumerate") [v]) (fun v' s2=>wpAny (model X.prog X.w) X.A (t7 v') (PIE X pins σ (.Tuple elts x1 tp) R) X.xe s2) X.xe s1:=by
 obtain⟨l,t,ts,rfl,hq,rps,hz⟩:=SrB.of rv e;cases r1;obtain⟨its,rvs,pt,_⟩:=SqB.items I1 (hq.keep (Kp.of (Same.refl H1)));refine zfs pt ?_;generalize hR:s1.heap.push (itObj l t)=hp;have szp:hp.objs.size=s1.heap.objs.size+1:=by rw[<-hR];exact ug _ _
 have I2:Inv X pins σ H1 {s1 with heap:=hp}:=I1.kept (t':=s1.toks) fun b o e=>hR▸ag _ e;generalize hR2:hp.push {cls:=.type "enumerate",data:=.fields #[.none,.bool false,.ref s1.heap.objs.size,qh 0,.none,.none]}=hp2;have I3:Inv X pins σ H1 {s1 with heap:=hp2}:=I2.kept (t':=s1.toks) fun b o e=>hR2▸ag _ e;have g1:hp2.get? hp.objs.size=some {cls:=.type "enumerate",data:=.fields #[.none,.bool false,.ref s1.heap.objs.size,qh 0,.none,.none]}:=by rw[<-hR2];exact bh _ rfl
 have g2:hp2.get? s1.heap.objs.size=some (itObj l t):=by rw[<-hR2];refine ag _ ?_;rw[<-hR];exact bh _ rfl
 have ht:t<s1.heap.objs.size:=pt.lt;refine sf (e:=hp.objs.size) (it:=s1.heap.objs.size) (i:=0) (old:=.none) g1 ?_;refine⟨hp.objs.size,[hp.objs.size,s1.heap.objs.size],_,ItE X.K l t ts,H1,rfl,I3,zdi (bx ht) (bx (lc ht (by rw[szp];exact Nat.lt_succ_self _))) (by rw[szp];exact Nat.succ_ne_self _),⟨⟨.none,g1⟩,ItB.new g2⟩,fun b hb=>?_,q _ (zcp hq rps (z0p hz))⟩;rcases(ao.mp hb)with rfl|hb
 ·exact I2.fpOk (ah _) (I2.hok.fresh (ah _))
 ·obtain rfl:b=s1.heap.objs.size:=by simpa using hb
  exact I1.fpOk (ah _) (I1.hok.fresh (ah _))
end
section
variable {X:Cx}{pins:List (Addr×Obj)}{σ:L2.St}
end
section
variable {X:Cx}{a b:Expr}{fa fb:Rho->Res GD}{p pos:Pos}
theorem zco:cv "enumerate"=some (.type "enumerate"):=by decide+kernel
theorem zpf (hs:isStar a=false)(ha:PE X a (tD X.K fa)):PA X [a] (tDA X.K fun ρ=>fa ρ>>=fun x=>.ok [x]):=by refine PA.imp (zi9 hs ha zp1) fun σ H Q ⟨ρ,F,z,so,e,q⟩=>⟨ρ,F,z,so,?_,q⟩;obtain⟨x,e1,e⟩:=Res.bind_ok e;show(fa ρ>>=fun x=>Res.ok []>>=fun xs=>Res.ok (x::xs))=_;rw[e1];exact e
theorem zml {fs:Rho->Res GD}{ρ:Rho}{ys:List GD}(h:(fs ρ>>=fun x=>Res.ok [x])=.ok ys):∃x,fs ρ=.ok x/\ys=[x]:=by obtain⟨x,e,h⟩:=Res.bind_ok h;cases h;exact⟨x,e,rfl⟩
theorem zfh {K:W.Frag}{F:Fm}{H H1:Hp}{σ:L2.St}{ρ:Rho}{x:GD}{xs:List D}{v:V}(so:StOk K F H σ ρ)(hc:zg5 x=true)(e:seqR x.2=.ok xs)(rv:Rep K H1 (BG F H x.1) v x.2):∃B,Rep K H1 B v x.2/\(∀a,B (some a)->F.O a=none)/\∀a,B a->BI F .al a:=by
 obtain⟨g,d⟩:=x;cases d<;>try (exact(z1b e).elim)
 case list ds=>
  have hg:g≠.al:=fun z=>by subst z;cases hc
  exact⟨_,rv,fun a h=>z60 so hg h,fun a h=>BI.of so.vis (g:=.al) (BG.vis so.vis h)⟩
 case tuple ds=>
  rcases d8.mp (show(!(g==.al)||imm (.tuple ds))=true from hc)with hg|hi
  ·have hg:g≠ .al:=fun z=>by subst z;cases hg
   exact⟨_,rv,fun a h=>z60 so hg h,fun a h=>BI.of so.vis (g:=.al) (BG.vis so.vis h)⟩
  ·exact⟨fun _=>False,Rep.immB _ hi rv,fun _ h=>h.elim,fun _ h=>h.elim⟩
theorem zi8 {elts:List Expr}{x1:Nat}{tp:Pos}(hm:X.mg "enumerate"=none)(hg:Gl X "enumerate")(hs:isStar a=false)(ha:PE X a (tD X.K fa)):PI X (.Tuple elts x1 tp) (.Call (.Name "enumerate" p) [a] [] pos) (tDW X.K fun ρ=>fa ρ>>=fun x=>seqR x.2>>=fun xs=>.ok (.al,z23 0 xs)):=by intro pins s σ H R I h;obtain⟨ρ,F,w,so,e,q⟩:=h;obtain⟨x,e1,e⟩:=Res.bind_ok e;obtain⟨xs,e2,e⟩:=Res.bind_ok e;cases e;refine Call_ (z2n I hg hm zco (PyProof.Rows.callWith_type1 (thn (zpf hs ha pos pins s σ H (fun vs H1=>Same H H1/\RGs X.K F H H1 vs [x]) I ⟨ρ,F,[x],so,by show(fa ρ>>=fun x=>Res.ok [x])=_;rw[e1];rfl,fun vs H1 s1 rs=>⟨s1,rs⟩⟩) fun us s1 ⟨vs,H1,I1,r1,sm,rs⟩=>?_) (z0b hs) rfl));obtain⟨v,rfl,rv⟩:=rs.one;obtain⟨u,rfl,ru⟩:=vals1 r1;exact z6q I1 ru (Rep.there _ rv) e2 fun J wk=>q J _ H1 sm (fun c z=>⟨BG.vis so.vis z.1,z.2⟩) wk
theorem zo8 {elts:List Expr}{x1:Nat}{tp:Pos}(hm:X.mg "enumerate"=none)(hg:Gl X "enumerate")(hs:isStar a=false)(ha:PE X a (tD X.K fa)):PI X (.Tuple elts x1 tp) (.Call (.Name "enumerate" p) [a] [] pos) (tDF X.K fun ρ=>(fa ρ>>=fun x=>.ok [x])>>=fun ys=>evEn ys ρ):=by
 intro pins s σ H R I h;obtain⟨ρ,F,w,so,e,q⟩:=h;obtain⟨ys,e0,e⟩:=Res.bind_ok e;obtain⟨x,e1,rfl⟩:=zml e0;have e:(if zg5 x=true then(seqR x.2>>=fun xs=>Res.ok (G.al,z23 0 xs,ρ))else Res.no)=Res.ok w:=e;split at e
 case isFalse=>cases e
 rename_i hc;obtain⟨xs,e2,e⟩:=Res.bind_ok e;cases e;refine Call_ (z2n I hg hm zco (PyProof.Rows.callWith_type1 (thn (zpf hs ha pos pins s σ H (fun vs H1=>Same H H1/\RGs X.K F H H1 vs [x]) I ⟨ρ,F,[x],so,by show(fa ρ>>=fun x=>Res.ok [x])=_;rw[e1];rfl,fun vs H1 s1 rs=>⟨s1,rs⟩⟩) fun us s1 ⟨vs,H1,I1,r1,sm,rs⟩=>?_) (z0b hs) rfl));obtain⟨v,rfl,rv⟩:=rs.one;obtain⟨u,rfl,ru⟩:=vals1 r1;obtain⟨B,rB,hB,hV⟩:=zfh so hc e2 rv;exact z6q I1 ru rB e2 fun J wk=>q J B H1 F sm Run.refl (Frm.same sm) (so.same sm) hB hV wk
end
abbrev bmV:List Value:=[.type "ValueError",.type "Exception",.type "BaseException",.type "object"]
abbrev exV (K:W.Frag)(C:Addr):Bool:=W.excIn K C bmV "ValueError.__new__"
def XC (C:Addr)(h:Heap)(bm:List Value):Prop:=∃N nm q bs hdct sn sub ab col dd k0 k1 k2 k3 k5 mN,h.get? C=some (excClassObj nm q C N bs bm hdct sn sub ab col dd k0 k1 k2 k3 k5 "ValueError.__new__")/\h.Ns N mN/\mN "__init__"=none/\OwnTail h bmV bm
theorem z7z {K:W.Frag}{C:Addr}(q:exV K C=true):∃dd cd bm k0 k1 k2 k3 k5,K.lookup C=some ⟨.type "type",dd,.cls cd,#[k0,k1,k2,k3,some (.builtin "ValueError.__new__"),k5]⟩/\cd.mro=.ref C::bm/\cd.hasDel=false/\W.tailIn K bmV bm=true/\W.nsOkIn K cd.ns=true/\W.nsIn K cd.ns "__init__"=some none:=by
 have two:∀{a b:Bool},(a&&b)=true->a=true/\b=true:=ba.mp;unfold exV W.excIn at q;split at q
 ·rename_i dd cd sl ho;split at q
  ·rename_i A bm y0 y1 y2 y3 n y5 hm hs;obtain⟨q,q6⟩:=two q;obtain⟨q,q5⟩:=two q;obtain⟨q,q4⟩:=two q;obtain⟨q,q3⟩:=two q;obtain⟨q1,q2⟩:=two q;have e1:A=C:=uo q1;have e2:n="ValueError.__new__":=uo q2;have e3:sl=#[y0,y1,y2,y3,some (.builtin n),y5]:=Array.toList_inj.mp (by rw[hs]);refine⟨dd,cd,bm,y0,y1,y2,y3,y5,?_,?_,?_,q4,q5,uo q6⟩
   ·rw[ho,e3,e2]
   ·rw[hm,e1]
   ·cases hd:cd.hasDel with
    |false=>rfl
    |true=>rw[hd]at q3;cases q3
  ·cases q
 ·cases q
theorem z9n {K:W.Frag}{C:Addr}{dd:Option Addr}{cd:ClassData}{sl:Array (Option Value)}{bm:List Value}{v:Value}{b:Bool}(ho:K.lookup C=some ⟨.type "type",dd,.cls cd,sl⟩)(hm:cd.mro=.ref C::bm)(e:W.subIn K (.ref C) v=some b):(Value.ref C::bm).contains v=b:=by
 have e:W.mroIn K C v=some b:=e;unfold W.mroIn W.clsIn at e;rw[ho]at e
 dsimp only[Option.bind_some]at e
 rw[hm]at e;exact Option.some.inj e
theorem XC.mk {K:W.Frag}{C:Addr}{h:Heap}(X:K.In h)(q:exV K C=true):∃bm,XC C h bm/\∀v b,W.subIn K (.ref C) v=some b->(Value.ref C::bm).contains v=b:=by
 obtain⟨dd,cd,bm,k0,k1,k2,k3,k5,ho,hm,hd,ht,hk,hi⟩:=z7z q;refine⟨bm,⟨cd.ns,cd.name,cd.qualname,cd.bases,cd.hasDict,cd.slotNames,cd.subclasses,cd.abstract,cd.collection,dd,k0,k1,k2,k3,k5,h.nsMap cd.ns,?_,.of_isNs (W.isNs_of_in X hk),W.nsMap_none_of_in X hk hi,W.tail_of_in X ht⟩,fun v b e=>z9n ho hm e⟩;have h2:=X _ _ ho;cases cd
 dsimp only at hm hd
 rw[hm,hd]at h2;exact h2
section
variable {M:Model}{A:bz}{E:Value->aa->Prop}{h:Heap}{g:Array qu}{d:Drawn}{t:Nat}{os:md}{C B e:Addr}{bm bm':List Value}{oe:Obj}{Q:Bool->aa->Prop}
theorem zed {l:List Value}(T:OwnTail h bmV l):l.contains (.type "BaseException")=true:=T.hasType rfl
theorem zfl (hC:XC C h bm)(hB:XC B h bm')(he:h.get? e=some oe)(hc:oe.cls=.ref C)(hin:(Value.ref C::bm).contains (.ref B)=true)(hq:Q true ⟨h,g,d,t,os⟩):wpAny M A (excMatches (.ref e) (.ref B)) Q E ⟨h,g,d,t,os⟩:=by
 obtain⟨_,_,_,_,_,_,_,_,_,_,_,_,_,_,_,_,oC,_,_,_⟩:=hC;obtain⟨_,_,_,_,_,_,_,_,_,_,_,_,_,_,_,_,oB,_,_,tB⟩:=hB;have hcB:(Value.ref B::bm').contains (.type "BaseException")=true:=by rw[gk,zed tB,nq]
 have f:=tc_notTuple;unfold excMatches
 repeat (first|(with_reducible refine i5 he ?_;rw[hc])|with_reducible refine i5 oB ?_|(with_reducible refine p6 oB ?_;rw[hcB])|(with_reducible refine p6 oC ?_;rw[hin])|wp_step)
 exact hq
end
section
variable {prog:bc}{w:World}{A:bz}{E:Value->aa->Prop}{K:W.Frag}{h:Heap}{g:Array qu}{d:Drawn}{t:Nat}{os:md}{C e:Addr}{oe:Obj}
structure XA (K:W.Frag)(C:Addr):Prop where
 cl:W.findIn K (.ref C) "__class__"=some (some (.builtin "object.__class__"))
 ga:W.findIn K (.ref C) "__getattribute__"=some (some (.builtin "BaseException.__getattribute__"))
 gt:W.findIn K (.ref C) "__getattr__"=some none
 ob:W.subIn K (.ref C) (.type "object")=some true
 be:W.subIn K (.ref C) (.type "BaseException")=some true
 ty:W.typeIn K (.ref C)=some (.type "type")
 is:(W.clsIn K C).isSome=true
 ex:exV K C=true
theorem z71 {M:Model}(he:h.get? e=some oe)(hc:oe.cls=.ref C):W.Looks M h (oy (.ref e)) (.ref C):=by intro A Q E s k q;unfold oy;refine af (wpAny_loadPart (k _ _ he) ?_);rw[hc];exact a8 q
theorem zu5 {R:uh->aa->Prop}{tp:Value}(X:K.In h)(a:XA K C)(he:h.get? e=some oe)(hc:oe.cls=.ref C)(hq:R (.ok (.ret (.ref C))) ⟨h,g,d,t,os⟩):
  l7 (model prog w) A (.call (.builtin "getset_descriptor.__get__") ⟨[.builtin "object.__class__",.ref e,tp],[]⟩) R ⟨h,g,d,t,os⟩:=by
 have l0:=z71 (M:=model prog w) he hc;have l1:=W.looks_subIn (M:=model prog w) X a.ob;refine o9 W.KF.slot_gs.plain W.KF.entry_gs ?_;refine W.KF.slot_gs.check _ _ _ _ _ _ _ _ W.KF.type_class (W.KF.args_gs _ _ _) ?_;unfold Builtin.«getset_descriptor.__get__» Builtin.Getset_descriptor.descrGet;rw[W.dga_obj];refine af (a8 ?_);unfold Builtin.Getset_descriptor.descrGetter Builtin.Getset_descriptor.descrCheckInstance Builtin.Getset_descriptor.descrNameAndClass qo;simp only[W.KF.owner_class]
 repeat lk
 refine⟨Code.quiet_builtin _ (by decide+kernel),?_⟩;refine n6 W.KF.entry_class ?_;unfold Builtin.«object.__class__»;unfold shownTypeOf;repeat lk
 exact hq
theorem zj4 {tk:Tok}{Q:Fin->aa->Prop}(X:K.In h)(a:XA K C)(he:h.get? e=some oe)(hc:oe.cls=.ref C)(hq:Q (.done (.ret (.ref C))) ⟨h,g,d,t,os⟩):
  wpAny (model prog w) A (Builtin.«object.__getattribute__» ⟨[.ref e,.str "__class__" tk],[]⟩) Q E ⟨h,g,d,t,os⟩:=by
 have hT:(⟨h,g,d,t,os⟩:aa).TypeIs (.builtin "object.__class__") "getset_descriptor":=F.typeOf_object_class;have⟨f5,f6,f7⟩:=And.intro F.typeOf_object_class (And.intro F.slot_gs_get.lookup F.slot_gs_set.lookup);have l0:=W.looks_findIn (M:=model prog w) X a.cl
 repeat (any_goals (first|assumption|(with_reducible refine i5 he ?_;rw[hc])|with_reducible refine l0.at ?_|wp_step))
 refine zu5 X a he hc ?_
 repeat' first|assumption|wp_step
theorem x_call {tk:Tok}{R:uh->aa->Prop}(X:K.In h)(a:XA K C)(he:h.get? e=some oe)(hc:oe.cls=.ref C)(hq:R (.ok (.ret (.ref C))) ⟨h,g,d,t,os⟩):
  l7 (model prog w) A (.call (.builtin "BaseException.__getattribute__") ⟨[.ref e,.str "__class__" tk],[]⟩) R ⟨h,g,d,t,os⟩:=by
 refine o9 F.excAttr_ValueError.ga.plain F.entry_bexc_ga ?_;have l1:=W.looks_subIn (M:=model prog w) X a.be;have ar:=F.args_bexc_ga (.ref e) (.str "__class__" tk);have z1:builtinKind "BaseException.__getattribute__"=some .slot:=by decide+kernel
 have z2:splitId "BaseException.__getattribute__"=some ("BaseException","__getattribute__"):=by decide+kernel
 simp only[checkBuiltinCall,z1,z2];refine af ?_;unfold qo
 repeat (first|(with_reducible refine zj4 X a he hc ?_;exact hq)|(with_reducible refine i5 he ?_;rw[hc])|with_reducible refine l1.at ?_|wp_step)
theorem x_by {tk:Tok}{Q:Value->aa->Prop}(X:K.In h)(a:XA K C)(he:h.get? e=some oe)(hc:oe.cls=.ref C)(hq:Q (.ref C) ⟨h,g,d,t,os⟩):
  wpAny (model prog w) A (getAttrBy (.ref e) (.str "__class__" tk) false) Q E ⟨h,g,d,t,os⟩:=by
 have f3:=F.excAttr_ValueError.ga.bind (.ref e);have x2:(Value.builtin "BaseException.__getattribute__"==Value.builtin "object.__getattribute__")=false:=by decide+kernel
 have x1:(onTheHeap (Value.ref C)&&Value.builtin "BaseException.__getattribute__"==Value.builtin "object.__getattribute__")=false:=by rw[x2];rfl
 have l1:=W.looks_findIn (M:=model prog w) X a.ga;have l2:=W.looks_findIn (M:=model prog w) X a.gt
 repeat (any_goals (first|assumption|(with_reducible refine i5 he ?_;rw[hc])|with_reducible refine l1.at ?_|with_reducible refine l2.at ?_|wp_step))
 refine x_call X a he hc ?_
 repeat' first|assumption|wp_step
theorem zq0 {Q:Option Value->aa->Prop}(X:K.In h)(a:XA K C)(he:h.get? e=some oe)(hc:oe.cls=.ref C)(hq:Q (some (.ref C)) ⟨h,g,d,t+1,os⟩):wpAny (model prog w) A (ue (.ref e) "__class__") Q E ⟨h,g,d,t,os⟩:=by
 unfold ue getAttrBy?
 repeat (any_goals (first|assumption|with_reducible apply x_by X a he hc|wp_step))
theorem znp {b:Bool}(q:exV K C=true)(e:W.subIn K (.ref C) (.ref C)=some b):b=true:=by obtain⟨dd,cd,bm,k0,k1,k2,k3,k5,ho,hm,_⟩:=z7z q;rw[<-z9n ho hm e,gk,beq_self_eq_true,qx]
structure XV (K:W.Frag)(v:Value):Prop where
 ty:∀(M:Model) (h:Heap),K.In h->W.Looks M h (oy v) (.type "type")
 is:∀(M:Model) (h:Heap),K.In h->W.Looks M h (isType v) true
theorem z9u {M:Model}{D:Addr}(X:K.In h)(q:(W.clsIn K D).isSome=true):W.Looks M h (isType (.ref D)) true:=by
 unfold W.clsIn at q;split at q
 ·rename_i ho;intro A Q E s k z;unfold isType;refine af (t8 (k _ _ (X _ _ ho)) ?_);exact a8 z
 ·cases q
theorem XV.own {D:Addr}(t:W.typeIn K (.ref D)=some (.type "type"))(q:(W.clsIn K D).isSome=true):XV K (.ref D):=⟨fun M h X=>W.looks_typeIn X t,fun M h X=>z9u X q⟩
theorem XV.val:XV K (.type "ValueError"):=⟨fun M h X=>W.Looks.of_pure (by kernel_rfl),fun M h X=>W.Looks.of_pure rfl⟩
theorem zuh {v:Value}{b:Bool}{dep:Int}{tk:Tok}{Q:Fin->aa->Prop}(X:K.In h)(a:XA K C)(he:h.get? e=some oe)(hc:oe.cls=.ref C)(hv:XV K v)(hs:W.subIn K (.ref C) v=some b)(h1:Q (.done (.ret (.bool b))) ⟨h,g,d,t,os⟩)(h2:Q (.done (.ret (.bool b))) ⟨h,g,d,t+1,os⟩):
  wpAny (model prog w) A (Builtin.«isinstance.nested» ⟨[.ref e,v,.int dep tk],[]⟩) Q E ⟨h,g,d,t,os⟩:=by
 have l0:=z71 (M:=model prog w) he hc;have l1:=hv.ty (model prog w) h X;have l2:=hv.is (model prog w) h X;have l4:=W.looks_subIn (M:=model prog w) X hs;have l3:W.Looks (model prog w) h (qo (.ref e) v) b:=l0.andThen l4;have l5:=z9u (M:=model prog w) X a.is;unfold Builtin.«isinstance.nested»;refine af (l0.at ?_);by_cases q:(Value.ref C==v)=true
 ·rw[if_pos q];have hb:b=true:=by cases uo q;exact znp a.ex hs
  subst hb;exact af (qr (af (a8 (a8 h1))))
 ·rw[if_neg q];refine af (l1.at ?_);rw[if_pos (beq_self_eq_true _)]
  k_delta "plainIsInstance"
  refine af (af (l2.at ?_));rw[if_neg (by decide)];refine af (l3.at ?_);cases b with
  |true=>rw[if_pos rfl];exact a8 (a8 h1)
  |false=>rw[if_neg (by decide)];refine af (zq0 X a he hc ?_);refine af (l5.at ?_);rw[if_neg (by decide)];refine af (qr ?_);exact l4.at (a8 h2)
theorem zui {v:Value}{b:Bool}{Q:Value->aa->Prop}{s:aa}(X:K.In s.heap)(a:XA K C)(he:s.heap.get? e=some oe)(hc:oe.cls=.ref C)(hv:XV K v)(hs:W.subIn K (.ref C) v=some b)(hq:∀t',Q (.bool b) {s with toks:=t'}):
  wpAny (model prog w) A (call (.builtin "isinstance") [.ref e,v]) Q E s:=
 call_isinstance (S:=fun _ R s=>(K.In s.heap/\s.heap.get? e=some oe)/\∀t',R (.ok (.ret (.bool b))) {s with toks:=t'}) (fun _ _ _ _ s hs'=>isinstance_outer (by obtain⟨h,g,d,t,os⟩:=s;exact zuh hs'.1.1 a hs'.1.2 hc hv hs (hs'.2 t) (hs'.2 (t+1))) nofun) ⟨⟨X,he⟩,hq⟩
end
structure Fly (P:bc)(w:World)(base:Heap)(outer:List Env)(H:Hp)(s:aa)(C a:Addr)(H':Hp)(s':aa):Prop where
 os:s'.os=s.os
 bare:lb s'.gens
 same:Same H H'
 free:∀b o,s.heap.get? b=some o->H b=none->H' b=none
 hh:∃B t,base.StaysIn B/\HOk P w H' B/\(∀b o,s.heap.get? b=some o->H b=none->b∉frs outer->B.get? b=some o)/\Heap.FlyingW B outer a (.ref C) (.ref t) s'.heap
 slot:∀b o,s.heap.get? b=some o->H b=none->b∈frs outer->∃sl,s'.heap.get? b=some {o with slots:=sl}
def CXE (P:bc)(w:World)(base:Heap):CXT:=fun outer H s E e s'=>∃a C H',e=.ref a/\Fly P w base outer H s C a H' s'/\E (.ref C) none H'
theorem z7g {P:bc}{w:World}{H:Hp}{h:Heap}{a:Addr}{o:HO}(x:z12 P w H h a o):∃ob,h.get? a=some ob:=by
 cases o with
 |lst xs=>obtain⟨_,_,_,_,e⟩:=x;exact⟨_,e⟩
 |tup xs=>obtain⟨_,_,_,_,e⟩:=x;exact⟨_,e⟩
 |dK kvs=>obtain⟨_,_,_,_,o,_,_,e,_⟩:=x;exact⟨_,e⟩
 |own y=>exact x
 |frz ob u=>exact⟨_,x.1⟩
 |tbl ps=>exact⟨_,x⟩
 |ext φ=>exact x.2.1
section
variable {P:bc}{w:World}{base:Heap}{outer:List Env}{H H':Hp}{s s':aa}{C a:Addr}
theorem Fly.hok (f:Fly P w base outer H s C a H' s'):HOk P w H' s'.heap:=by obtain⟨B,t,_,hB,_,fl⟩:=f.hh;exact hB.kept fl.1
theorem Fly.un (f:Fly P w base outer H s C a H' s'):Un (frs outer) [] H H' s.heap s'.heap:=by
 obtain⟨B,t,_,hB,cov,fl⟩:=f.hh;refine⟨fun b o e n hb _=>fl.1 b o (cov b o e n hb),fun b o e n hb _=>f.slot b o e n hb,fun b o e n _=>f.free b o e n,fun b o e _=>?_,fun b xs e=>f.same b _ e,fun b o u e=>f.same b _ e,fun b ps e=>⟨#[],by rw[f.same b _ e,Array.append_empty]⟩⟩;cases hn:H b with
 |some u=>exact z7g (f.hok b u (f.same b u hn))
 |none=>
  by_cases hb:b∈frs outer
  ·obtain⟨sl,q⟩:=f.slot b o e hn hb;exact⟨_,q⟩
  ·exact⟨o,fl.1 b o (cov b o e hn hb)⟩
end
section
variable {X:Cx}{pins:List (Addr×Obj)}{σ:L2.St}{H H':Hp}{s s':aa}{C a:Addr}
theorem Fly.inv (f:Fly X.prog X.w X.base X.stack H s C a H' s')(I:Inv X pins σ H s):Inv X pins σ H' s':=by obtain⟨h',g,d,t,o⟩:=s';obtain rfl:o=s.os:=f.os;exact I.call (h':=h') (g':=g) (d':=d) (t':=t) (ch:=[]) f.un f.hok f.bare fun b z=>nomatch z
theorem Fly.leave {M:Model}{outer:List Env}{Q:Unit->aa->Prop}{E:Value->aa->Prop}(f:Fly X.prog X.w X.base X.stack H s C a H' s')(I:Inv X pins σ H s)(hs:X.stack=X.env::X.outer)(hf:X.env.frame=some X.env.locals)(hx:X.ex=[])(hS:Same X.H₀ H')
  (hQ:∀s'',Fly X.prog X.w X.base X.outer X.H₀ X.s₀ C a H' s''->Q () s''):wpAny M X.A (leaving X.env (.ref a)) Q E s':=by
 obtain⟨B,t,hb,hB,cov,fl⟩:=f.hh;rw[hs]at fl;have hfr:X.A.frames=some (X.env::X.outer):=by rw[<-hs];exact I.ok.frames
 refine wpAny_leaves_onW hfr hf fl fun h' fl' up=>hQ _ ⟨f.os.trans I.os,f.bare,hS,fun b o e n=>?_,⟨B,t,hb,hB,fun b o e n hn=>?_,fl'⟩,fun b o e n hn=>?_⟩
 ·have nx:b∉X.ex:=by rw[hx];simp
  obtain⟨o',e'⟩:=I.base.there b o e nx;exact f.free b o' e' (I.base.free b o e n nx)
 ·have nx:b∉X.ex:=by rw[hx];simp
  refine cov b o (I.base.keep b o e n hn nx) (I.base.free b o e n nx) ?_;rw[hs];intro z;unfold frs at z hn;rw[c8,hf]at z;rcases ao.mp z with z|z
  ·exact absurd (bg e) (by rw[z];exact Nat.not_lt.mpr I.ok.above)
  ·exact hn z
 ·have nx:b∉X.ex:=by rw[hx];simp
  obtain⟨sl,e1⟩:=I.base.slot b o e n hn nx;have hst:b∈frs X.stack:=by rw[hs];unfold frs;rw[c8,hf];exact aw _ hn
  obtain⟨sl2,e2⟩:=f.slot b _ e1 (I.base.free b o e n nx) hst;obtain⟨_,o3,e3,nd⟩:=I.ok.funs.mem hn;rw[e]at e3;cases e3;obtain⟨sl3,e4⟩:=up b _ e2 nd;exact⟨sl3,e4⟩
theorem zgl {P:bc}{w:World}{H:Hp}{h:Heap}{l:List Addr}(x:HOk P w H h)(n:∀b∈l,H b=none):HOk P w H (W.hideAll h l):=fun b o e=>by
 refine(x b o e).stay (fun c u hc q=>W.hideAll_get _ q fun z=>?_) (fun _ q=>q) fun _ _ q=>q;rcases hc with rfl|hc
 ·rw[n c z]at e;cases e
 ·rw[n c z]at hc;cases hc
theorem zau {M:Model}{Q:Unit->aa->Prop}{E:Value->aa->Prop}{args:List Value}{h1:Heap}(I:Inv X pins σ H s)(hm:Heap.MadeExcOf s.heap h1 a (.ref C) args)(hs:X.stack=X.env::X.outer)(hf:X.env.frame=some X.env.locals)(hx:X.ex=[])(hS:Same X.H₀ H)
  (hQ:∀s'',Fly X.prog X.w X.base X.outer X.H₀ X.s₀ C a H s''->Q () s''):wpAny M X.A (leaving X.env (.ref a)) Q E {s with heap:=h1}:=by
 have hfr:X.A.frames=some (X.env::X.outer):=by rw[<-hs];exact I.ok.frames
 have nx:∀b,b∉X.ex:=fun b=>by rw[hx];simp
 have hst:=I.stack;rw[hs]at hst;have hfree:∀b∈frs (X.env::X.outer),H b=none:=fun b hb=>I.stkFree b (by rw[hs];exact hb);have hin:∀env∈X.env::X.outer,∀b,env.frame=some b->b∈frs (X.env::X.outer):=fun env he b hb=>iy.mpr ⟨env,he,hb⟩
 have notF:∀b o,X.s₀.heap.get? b=some o->b∉frs X.outer->b∉frs (X.env::X.outer):=fun b o e hn z=>by
  unfold frs at z hn;rw[c8,hf]at z;rcases ao.mp z with z|z
  ·exact absurd (bg e) (by rw[z];exact Nat.not_lt.mpr I.ok.above)
  ·exact hn z
 have hbase:X.base.StaysIn (W.hideAll s.heap (frs (X.env::X.outer))):=fun b o e=>W.hideAll_get _ (I.bk b o e) (notF b o (I.ok.bs b o e).1 (I.ok.nofr e));refine wpAny_leaves_madeW (base:=W.hideAll s.heap (frs (X.env::X.outer))) (h:=s.heap) hfr hf (fun b o q=>W.of_hideAll _ q) (W.funFrames_hide hst hin) hm fun h' t fl _ _ up=>hQ _ ⟨I.os,I.bare,hS,fun b o e n=>I.base.free b o e n (nx b),⟨_,t,hbase,zgl I.hok hfree,fun b o e n hn=>W.hideAll_get _ (I.base.keep b o e n hn (nx b)) (notF b o e hn),fl⟩,fun b o e n hn=>?_⟩;obtain⟨sl,e1⟩:=I.base.slot b o e n hn (nx b);obtain⟨_,o3,e3,nd⟩:=I.ok.funs.mem hn;rw[e]at e3;cases e3;obtain⟨sl3,e4⟩:=up b _ (hm.keeps _ _ e1) nd;exact⟨sl3,e4⟩
end
structure Lv (X:Cx)(H0:Hp)(c:Str):Prop where
 made:∀pins σ H s a C args h',Inv X pins σ H s->X.mg c=some (.ref C)->Same H0 H->Heap.MadeExcOf s.heap h' a (.ref C) args->X.xe (.ref a) {s with heap:=h'}
 fly:∀pins σ H s a C H' s',Inv X pins σ H s->X.mg c=some (.ref C)->Same H0 H'->Fly X.prog X.w X.base X.stack H s C a H' s'->X.xe (.ref a) s'
theorem Lv.mono {X:Cx}{H0 H1:Hp}{c:Str}(l:Lv X H0 c)(h:Same H0 H1):Lv X H1 c:=⟨fun pins σ H s a C args h' I m z=>l.made pins σ H s a C args h' I m (h.trans z),fun pins σ H s a C H' s' I m z=>l.fly pins σ H s a C H' s' I m (h.trans z)⟩
def Rz (X:Cx)(f:Rho->Option Str)(σ:L2.St)(H:Hp):Prop:=∃ρ F c,StOk X.K F H σ ρ/\f ρ=some c/\Lv X F.H0 c
def tR (X:Cx)(f:Rho->Option Str):TE:=fun σ H _=>Rz X f σ H
def tRT (X:Cx)(f:Rho->Option Str):TT:=fun σ H _=>Rz X f σ H
def tRA (X:Cx)(f:Rho->Option Str):TA:=fun σ H _=>Rz X f σ H
def tRS (X:Cx)(f:Rho->Option Str):TS:=fun _ σ H=>Rz X f σ H
def spX (K:W.Frag)(mg:Str->Option Value)(n:Nat)(m:Fn):Sp:=fun vs H _ E=>∃A ds c,vs.length=n/\Reps K H A vs ds/\excOf (m ds)=some c/\∀C H',mg c=some (.ref C)->Same H H'->E (.ref C) none H'
def CalX (P:bc)(w:World)(K:W.Frag)(mg:Str->Option Value)(base:Heap)(k:Nat)(x:Str)(ps:List Str)(n:Nat)(m:Fn):Prop:=∃f fd,FnOk P w K mg base (CXE P w base) k f fd ps (spX K mg n m)/\mg x=some (.ref f)/\W.keepIn K (.ref f)=true/\Binds K fd ps []
section
variable {X:Cx}{e:Expr}{es:List Expr}{pos:Pos}
theorem z6k {f:Rho->Option Str}(h:∀ρ,f ρ=none)(σ:L2.St)(H:Hp):¬Rz X f σ H:=fun⟨ρ,F,c,_,e,_⟩=>by rw[h ρ]at e;cases e
theorem z56 {x c:Str}{k k' n:Nat}{ps:List Str}{m:Fn}{fs:Rho->Res (List GD)}{p:Pos}{pins:List (Addr×Obj)}{s:aa}{σ:L2.St}{H:Hp}{ρ:Rho}{F:Fm}{ys:List GD}(Cc:CalX X.prog X.w X.K X.mg X.base k x ps n m)(hr:Room k' X.A)(hk:k<=k')(ha:PA X (e::es) (tDA X.K fs))(hst:((e::es).all fun e=> !isStar e)=true)(hg:Gl X x)(hdb:(x==("__debug__":Str))=false)
  (hl:∀ρ ys,fs ρ=.ok ys->ys.length=n) (I:Inv X pins σ H s) (so:StOk X.K F H σ ρ) (e2:fs ρ=.ok ys) (e3:excOf (m (ys.map (·.2)))=some c)
  (hE:∀H1 s1 C a H' s',Inv X pins σ H1 s1->Same H H1->X.mg c=some (.ref C)->Fly X.prog X.w X.base X.stack H1 s1 C a H' s'->X.xe (.ref a) s'):wpAny (model X.prog X.w) X.A (eval (.Call (.Name x p) (e::es) [] pos) X.env) (fun _ _=>False) X.xe s:=by
 obtain⟨f,fd,Fo,hm,kp,b⟩:=Cc;rw[cn,ak]at hst;refine gj (z3i I hg hm ?_ hdb);refine W.callWith_K (h₀:=X.base) I.ok.mod.kin kp (thn (ha pos pins s σ H (fun vs H1=>Same H H1/\RGs X.K F H H1 vs ys) I ⟨ρ,F,ys,so,e2,fun vs H1 s1 rg=>⟨s1,rg⟩⟩) fun us s1 zz=>?_) (z0b (by simpa using hst.1)) (z1g hst.2);obtain⟨vs,H1,I1,r,z1,rg⟩:=zz;refine⟨I1.kIn,?_⟩;have hsp:spX X.K X.mg n m vs H1 (fun _ _=>False) (fun v _ H'=>X.mg c=some v):=⟨_,_,c,by rw[rg.len];exact hl ρ ys e2,rg.repsV so.vis,e3,fun C H' hC _=>hC⟩;have hlen:us.length=ps.length:=by rw[<-r.length];exact Fo.len _ _ _ _ hsp
 have hb:=b s1 us I1.kIn (by rw[dn];exact hlen);rw[dn]at hb;refine wpAny_call (m7 (Fo.run X.A X.stack s1 H1 ⟨us,[]⟩ us vs _ _ (hr.mono hk) I1.env0 hb r hsp) fun rr s' hq=>?_);cases rr with
 |error e'=>obtain⟨a,C,H',rfl,fl,q1⟩:=hq;exact hE H1 s1 C a H' s' I1 z1 q1 fl
 |ok fl=>
  cases fl with
  |ret u=>obtain⟨_,_,_,_,_,_,_,z⟩:=hq;exact z.elim
  |next=>exact hq.elim
  |brk=>exact hq.elim
  |cont=>exact hq.elim
theorem zle {x:Str}{k k' n:Nat}{ps:List Str}{m:Fn}{fs:Rho->Res (List GD)}{fx:Rho->Option Str}{p:Pos}(Cc:CalX X.prog X.w X.K X.mg X.base k x ps n m)(hr:Room k' X.A)(hk:k<=k')(ha:PA X (e::es) (tDA X.K fs))(hx:PA X (e::es) (tRA X fx))(hst:((e::es).all fun e=> !isStar e)=true)(hg:Gl X x)(hdb:(x==("__debug__":Str))=false)
  (hl:∀ρ ys,fs ρ=.ok ys->ys.length=n):PE X (.Call (.Name x p) (e::es) [] pos) (tR X fun ρ=>match fs ρ with|.ok ys=>excOf (m (ys.map (·.2)))|_=>fx ρ):=by
 intro pins s σ H Q I hq;obtain⟨ρ,F,c,so,e1,lv⟩:=hq;have e1:(match fs ρ with|.ok ys=>excOf (m (ys.map (·.2)))|_=>fx ρ)=some c:=e1
 have raw:(∃ys,fs ρ=.ok ys/\excOf (m (ys.map (·.2)))=some c)\/fx ρ=some c:=by
  cases e2:fs ρ with
  |ok ys=>rw[e2]at e1;exact .inl ⟨ys,rfl,e1⟩
  |exc z=>rw[e2]at e1;exact .inr e1
  |no=>rw[e2]at e1;exact .inr e1
 rcases raw with⟨ys,e2,e3⟩|e2
 ·exact thn (z56 Cc hr hk ha hst hg hdb hl I so e2 e3 fun H1 s1 C a H' s' I1 z1 q1 fl=>lv.fly pins σ H1 s1 a C H' s' I1 q1 (Same.trans so.ext (z1.trans fl.same)) fl) fun _ _ z=>z.elim
 ·obtain⟨f,fd,Fo,hm,kp,b⟩:=Cc;rw[cn,ak]at hst;refine gj (z3i I hg hm ?_ hdb);refine W.callWith_K (h₀:=X.base) I.ok.mod.kin kp (thn (hx pos pins s σ H (fun _ _=>False) I ⟨ρ,F,c,so,e2,lv⟩) fun us s1 q=>?_) (z0b (by simpa using hst.1)) (z1g hst.2);obtain⟨vs,H1,I1,r,q⟩:=q;exact q.elim
theorem zir {fa:Rho->Res GD}{fx fr:Rho->Option Str}(hs:isStar e=false)(ha:PE X e (tD X.K fa))(hx:PE X e (tR X fx))(hr:PA X es (tRA X fr)):PA X (e::es) (tRA X fun ρ=>match fa ρ with|.ok _=>fr ρ|_=>fx ρ):=by
 intro pos pins s σ H Q I hq;obtain⟨ρ,F,c,so,e1,lv⟩:=hq;have e1:(match fa ρ with|.ok _=>fr ρ|_=>fx ρ)=some c:=e1
 have raw:(∃y,fa ρ=.ok y/\fr ρ=some c)\/fx ρ=some c:=by
  cases e2:fa ρ with
  |ok ys=>rw[e2]at e1;exact .inl ⟨ys,rfl,e1⟩
  |exc z=>rw[e2]at e1;exact .inr e1
  |no=>rw[e2]at e1;exact .inr e1
 rw[z0b hs];show wpAny _ _ (spliced ((false,eval e X.env)::j7 pos (cy es X.env))) _ _ s;rcases raw with⟨y,e2,e3⟩|e2
 ·refine lj (thn (ha pins s σ H (fun v H1=>Same H H1) I ⟨ρ,F,y,so,e2,fun v H1 s1 _=>s1⟩) fun u s1 zz=>?_);obtain⟨v,H1,I1,r1,q1⟩:=zz;exact thn (hr pos pins s1 σ H1 (fun _ _=>False) I1 ⟨ρ,F,c,so.same q1,e3,lv⟩) fun us s2 zz=>by obtain⟨_,_,_,_,z⟩:=zz;exact z.elim
 ·exact lj (thn (hx pins s σ H (fun _ _=>False) I ⟨ρ,F,c,so,e2,lv⟩) fun u s1 zz=>by obtain⟨_,_,_,_,z⟩:=zz;exact z.elim)
theorem zox {a:Expr}{f:Rho->Option Str}(ha:PT X a (tRT X f)):PT X (.UnaryOp .Not a pos) (tRT X f):=PT.imp (zh1 ha) fun σ H Q z=>z
theorem znz {f:Rho->Option Str}(ha:PE X e (tR X f))(he:∀whole,oo e X.env whole=(do let v <-whole;tu e.pos;pf [v] (t0 v))):PT X e (tRT X f):=PT.imp (zr1 ha he) fun σ H Q z=>z
theorem zpi {f:Rho->Option Str}{i:Nat}{x:Str}{px:Pos}(hN:X.N.Nodup)(hi:X.N[i]?=some x)(hx:Loc X.env.scope x)(hf:X.fn x=true\/X.env.scope.names.lookup x=some .local)(hs:z2m e=false)(ha:PE X e (tR X f)):PS X (.Assign [.Name x px] e pos) (tRS X f):=PS.imp (ps_s hN hi hx ha hs hf) fun D σ H z=>z
theorem zpw {f:Rho->Option Str}(ha:PE X e (tR X f)):PS X (.Return (some e) pos) (tRS X f):=PS.imp (ze2 ha) fun D σ H z=>z
theorem zrt {c:Expr}{A B:List Stmt}{ft:Rho->Res Bool}{fx fa fb:Rho->Option Str}(hc:PT X c (tDT X.K ft))(hx:PT X c (tRT X fx))(ha:PSs X A (tRS X fa))(hb:PSs X B (tRS X fb)):PS X (.If c A B pos) (tRS X fun ρ=>match ft ρ with|.ok k=>if k then fa ρ else fb ρ|_=>fx ρ):=by
 intro pins s σ H D I hq;obtain⟨ρ,F,cl,so,e1,lv⟩:=hq;have e1:(match ft ρ with|.ok k=>if k then fa ρ else fb ρ|_=>fx ρ)=some cl:=e1
 have raw:(∃k,ft ρ=.ok k/\(if k then fa ρ else fb ρ)=some cl)\/fx ρ=some cl:=by
  cases e2:ft ρ with
  |ok ys=>rw[e2]at e1;exact .inl ⟨ys,rfl,e1⟩
  |exc z=>rw[e2]at e1;exact .inr e1
  |no=>rw[e2]at e1;exact .inr e1
 rcases raw with⟨k,e2,e3⟩|e2
 ·refine znd hc ha hb pins s σ H D I ⟨ρ,F,k,so,e2,fun H1 s1=>?_⟩;cases k with
  |true=>exact iteT ⟨ρ,F,cl,so.same s1,e3,lv⟩
  |false=>exact iteF ⟨ρ,F,cl,so.same s1,e3,lv⟩
 ·exact wpAny_If (thn (hx pins s σ H (fun _ _=>False) I ⟨ρ,F,cl,so,e2,lv⟩) fun d s1 zz=>by obtain⟨_,_,z⟩:=zz;exact z.elim)
theorem zor {st:Stmt}{rest:List Stmt}{fs:Rho->Res Out}{fx gx:Rho->Option Str}(h1:PS X st (tDS X.K fs))(hx:PS X st (tRS X fx))(h2:PSs X rest (tRS X gx)):PSs X (st::rest) (tRS X fun ρ=>match fs ρ with|.ok (.nx ρ')=>gx ρ'|.ok _=>none|_=>fx ρ):=by
 intro pins s σ H D I hq;obtain⟨ρ,F,cl,so,e1,lv⟩:=hq;have e1:(match fs ρ with|.ok (.nx ρ')=>gx ρ'|.ok _=>none|_=>fx ρ)=some cl:=e1
 have raw:(∃ρ',fs ρ=.ok (.nx ρ')/\gx ρ'=some cl)\/fx ρ=some cl:=by
  cases e2:fs ρ with
  |ok o=>
   rw[e2]at e1;cases o with
   |nx ρ'=>exact .inl ⟨ρ',rfl,e1⟩
   |rt=>cases e1
  |exc z=>rw[e2]at e1;exact .inr e1
  |no=>rw[e2]at e1;exact .inr e1
 rcases raw with⟨ρ',e2,e3⟩|e2
 ·exact z9g h1 h2 pins s σ H D I ⟨ρ,F,_,so,e2,fun σ' H' F' so' r f=>⟨ρ',F',cl,so',e3,lv.mono r.1⟩⟩
 ·refine kh (thn (hx pins s σ H ⟨fun _ _=>False,fun _ _=>False,fun _ _=>False,fun _ _=>False⟩ I ⟨ρ,F,cl,so,e2,lv⟩) fun f s1 q=>?_);cases f with
  |next=>obtain⟨_,_,_,z⟩:=q;exact z.elim
  |brk=>obtain⟨_,_,_,z⟩:=q;exact z.elim
  |cont=>obtain⟨_,_,_,z⟩:=q;exact z.elim
  |ret u=>obtain⟨_,_,_,_,_,z⟩:=q;exact z.elim
theorem zpu {t:Tg}{tg iter:Expr}{body:List Stmt}{fw:Rho->Res (G×List D×Rho)}{fs:Rho->Res Out}{fx:Rho->Option Str}(hp:gv (model X.prog X.w) X.A X.env X.xe)(hc:X.calm=true)(hi:PI X tg iter (tDF X.K fw))(hg:PG X tg (tDG X.K t))(hb:PSs X body (tDS X.K fs))(hx:PSs X body (tRS X fx))(hs:∀x,e9 iter X.env x=pure x):
  PS X (.For tg iter body [] pos) (tRS X fun ρ=>match fw ρ with
   |.ok w=>forX (fun x ρ1=>z0x t (gJ x w.1,x) ρ1>>=fun ρ2=>fs ρ2) (fun x ρ1=>match z0x t (gJ x w.1,x) ρ1 with|.ok ρ2=>fx ρ2|_=>none) w.2.1 w.2.2
   |_=>none):=by
 have hbx:PSs X body (fun D σ H=>tDS X.K fs D σ H\/tRS X fx D σ H):=fun pins s σ H D I z=>z.elim (hb pins s σ H D I) (hx pins s σ H D I);refine PS.imp (zh3 hp hc hi hg hbx hs) fun D σ H zz=>?_;obtain⟨ρ,F,c,so,e,lv⟩:=zz
 dsimp only at e
 cases e1:fw ρ with
 |no=>rw[e1]at e;cases e
 |exc z=>rw[e1]at e;cases e
 |ok w=>
  rw[e1]at e
  dsimp only at e
  refine⟨ρ,F,w,so,e1,fun J B H1 F1 s1 r1 f1 so1 hBo hBi wk=>?_⟩;generalize hf:(fun x ρ1=>z0x t (gJ x w.1,x) ρ1>>=fun ρ2=>fs ρ2)=f at e;generalize hgx:(fun x ρ1=>match z0x t (gJ x w.1,x) ρ1 with|.ok ρ2=>fx ρ2|_=>none)=gx at e
  have kp:∀{F2:Fm} {H2:Hp},Frm F1 H1 F2 H2->Kp B H1 H2:=fun{F2 H2} fr a o e b=>by
   have hO:F1.O a=none:=by
    rcases b with b|b
    ·exact hBo a b
    ·cases e2:F1.O a with
     |none=>rfl
     |some j=>obtain⟨_,_,h'⟩:=so1.own a j e2;rcases h' with⟨xs,h'⟩|⟨xs,h'⟩<;>rw[e]at h'<;>cases h'<;>exact b.elim
   exact(fr a o e hO).1
  let W:Nat->Nat->L2.St->Hp->Prop:=fun i m σ2 H2=>m=w.2.1.length-i/\i<=w.2.1.length/\∃ρ2 F2,StOk X.K F2 H2 σ2 ρ2/\Run F1 F2/\Frm F1 H1 F2 H2/\forX f gx (w.2.1.drop i) ρ2=some c
  refine⟨W,⟨_,rfl,ce _,w.2.2,F1,so1,Run.refl,Frm.refl,e⟩,?_⟩
  rintro i m σ2 H2 ⟨rfl,hile,ρ2,F2,so2,r2,f2,e2⟩
  by_cases hlt:i<w.2.1.length
  ·refine .inr ⟨wk.go H2 (kp f2) i hlt,W (i+1) (w.2.1.length-(i+1)),fun σ' H' p=>⟨_,by omega,p⟩,fun x H3 y=>?_⟩;obtain⟨s3,d,hd,rx⟩:=wk.yld H2 (kp f2) i x H3 hlt y
   have hdr:w.2.1.drop i=d::w.2.1.drop (i+1):=by
    have dc:=lw hlt;rw[dc];have:w.2.1[i]=d:=by rw[bd hlt]at hd;exact Option.some.inj hd
    rw[this]
   rw[hdr]at e2;simp only[forX]at e2;have so3:=so2.same s3
   have rx':Rep X.K H3 (BI F2 (gJ d w.1)) x d:=by
    have hBI:∀g a,BI F1 g a->BI F2 g a:=fun g a b=>by cases g<;>cases a<;>first|exact b|(have b':F1.V _:=b;rw[<-r2.2.1]at b';exact b')|(have b':F1.z:=b;rw[<-r2.2.2]at b';exact b')|(have b':F1.H0 _≠none/\F1.V _:=b;exact⟨fun z=>b'.1 (none_of r2.1 z),by rw[r2.2.1];exact b'.2⟩)
    unfold gJ;by_cases hi:imm d=true
    ·rw[if_pos hi];exact Rep.immB d hi rx
    ·rw[if_neg hi];exact rx.weak fun a b=>hBI _ _ (hBi a b)
   cases e5:z0x t (gJ d w.1,d) ρ2 with
   |no=>rw[<-hf,<-hgx]at e2;simp only[e5,Res.no_bind]at e2;cases e2
   |exc z=>rw[<-hf,<-hgx]at e2;simp only[e5,Res.exc_bind]at e2;cases e2
   |ok ρ3=>
    have ef:f d ρ2=fs ρ3:=by rw[<-hf];show(z0x t (gJ d w.1,d) ρ2>>=fun ρ2=>fs ρ2)=_;rw[e5];rfl
    have eg:gx d ρ2=fx ρ3:=by rw[<-hgx];show(match z0x t (gJ d w.1,d) ρ2 with|.ok ρ2=>fx ρ2|_=>none)=_;rw[e5]
    rw[ef,eg]at e2;refine⟨ρ2,F2,(gJ d w.1,d),ρ3,so3,rx',e5,fun σ4 F4 so4 kps=>?_⟩;have r4:Run F1 F4:=r2.trans (Run.of kps.h0 kps.v kps.z);have f4:Frm F1 H1 F4 H3:=f2.trans fun a o e n=>⟨s3 a o e,kps.o a n⟩;cases e6:fs ρ3 with
    |ok o1=>
     rw[e6]at e2;refine .inl ⟨ρ3,F4,o1,so4,e6,?_⟩;cases o1 with
     |nx ρ5=>exact fun σ' H' F' so' r' f'=>⟨rfl,hlt,ρ5,F',so',r4.trans r',f4.trans f',e2⟩
     |rt g d=>cases e2
    |exc z=>rw[e6]at e2;exact .inr ⟨ρ3,F4,c,so4,e2,lv.mono (r1.trans r4).1⟩
    |no=>rw[e6]at e2;exact .inr ⟨ρ3,F4,c,so4,e2,lv.mono (r1.trans r4).1⟩
  ·have hie:i=w.2.1.length:=by omega
   subst hie;rw[List.drop_length]at e2;cases e2
theorem zo3:PSs X [] (tRS X fun _=>none):=fun pins s σ H D I hq=>(z6k (fun _=>rfl) σ H hq).elim
theorem zis {x z:Str}{np cp kp:Pos}{kk:Nat}{C:Addr}(hh:X.A.handled=none)(hg:Gl X x)(hm:X.mg x=some (.ref C))(hdb:(x==("__debug__":Str))=false)(hC:exV X.K C=true):PS X (.Raise (some (.Call (.Name x np) [.Constant (.str z) kk kp] [] cp)) none pos) (tRS X fun _=>some x):=by
 intro pins s σ H D I hq;obtain⟨ρ,F,c,so,e1,lv⟩:=hq;cases e1;obtain⟨bm,⟨N,nm,q,bs,hdct,sn,sub,ab,col,dd,k0,k1,k2,k3,k5,mN,oC,hN,hni,T⟩,_⟩:=XC.mk I.mod.kin hC;have hb:=T.hasType (X:="BaseException") (b:=true) rfl;have hpl:(j7 cp (cy [.Constant (.str z) kk kp] X.env)).any (·.1)=false:=rfl;have hA:=z4m (X:=X) (zcz (x:=z) (j:=kk) (pos:=kp)) z3v;refine wpAny_Raise_call_subT (nm:=nm) (q:=q) (C:=C) (N:=N) (bs:=bs) (bm:=bm) (hdct:=hdct) (sn:=sn) (sub:=sub) (ab:=ab) (col:=col) (dd:=dd) (k0:=k0) (k1:=k1) (k2:=k2) (k3:=k3) (k5:=k5) (mN:=mN) PySem.F.excBase_ValueError hb hh hpl hni (z3i I hg hm ⟨rfl,?_⟩ hdb);have hA2:=hA cp pins s σ H (fun vs H1=>vs.length=1/\H1=H) I ⟨rfl,rfl⟩;refine oz (thn hA2 fun us s1 zz=>?_);obtain⟨vs,H1,I1,r,hv,rfl⟩:=zz;have hl:us.length=1:=by rw[<-r.length];exact hv
 exact⟨rfl,by rw[hl];decide,I1.bk _ _ oC,hN.keeps I1.bk,T.keeps I1.bk,fun h' a hx=>lv.made pins σ H1 s1 a C us h' I1 hm so.ext hx⟩
end
def inX (X:Cx)(i:Nat)(n:Str)(a:Addr)(oe:Obj):Cx:={X with A:=X.A.mark (some (.ref a)),N:=X.N.set i "",calm:=false,pn:=(a,oe)::X.pn,xe:=fun _ _=>False,fx:=some (n,.ref a)}
section
variable {X:Cx}{pins:List (Addr×Obj)}{σ:L2.St}{H:Hp}{s:aa}{i:Nat}{n:Str}{a:Addr}{oe:Obj}
theorem zpt (ok:X.Ok)(nd:X.N.Nodup)(hi:X.N[i]?=some n)(hv:X.env.scope.names.lookup ("":Str)=none)(hl:X.env.scope.names.lookup n=some .local):(inX X i n a oe).Ok:=by
 refine⟨ok.mod,ok.kind,ok.glob,ok.blt,ok.above,ok.inj,ok.has,ok.cab,fun z=>(by cases z),ok.frames,ok.stk,ok.exf,ok.bs,ok.bsz,ok.noex,ok.exfs,ok.funs,ok.frf,fun x u z=>?_⟩;cases z;refine⟨fun hm=>?_,hl⟩;obtain⟨j,hj⟩:=ol.mp hm;have hj:(X.N.set i "")[j]?=some n:=hj;by_cases e:i=j
 ·subst e;rw[dm (bn.mp hi).1]at hj;cases hj;rw[hv]at hl;cases hl
 ·rw[bt e]at hj;exact e (z42 nd hi hj)
theorem znq (I:Inv X pins σ H s)(nd:X.N.Nodup)(hi:X.N[i]?=some n)(hv:X.env.scope.names.lookup ("":Str)=none)(hl:X.env.scope.names.lookup n=some .local)(hσ:σ[i]?=some (some (.ref a)))
  (ho:s.heap.get? a=some oe) (hH:H a=none) (h1:a≠X.env.locals) (h2:a∉X.fs) (h3:∀v,oe.data≠.cell v):Inv (inX X i n a oe) pins (σ.set i none) H s:=by
 obtain⟨m,hn,hlk⟩:=I.loc;refine⟨zpt I.ok nd hi hv hl,I.os,I.bare,I.base,⟨m,hn,fun j x v e1 e2 e3=>?_⟩,I.cell,I.free,I.freeC,fun p hp=>?_,I.hok,?_,fun x u z=>?_⟩
 ·have e1:(X.N.set i "")[j]?=some x:=e1;by_cases e:i=j
  ·subst e;rw[dm (by rw[I.len];exact(bn.mp hi).1)]at e2;cases e2
  ·rw[bt e]at e1 e2;exact hlk j x v e1 e2 e3
 ·rcases ao.mp (show p∈(a,oe)::(X.pn++pins)from hp)with rfl|hp
  ·exact⟨ho,hH,h1,h2,h3⟩
  ·exact I.pin p hp
 ·show(σ.set i none).length=(X.N.set i "").length;rw[ci,ci];exact I.len
 ·cases z;obtain⟨u,r,q⟩:=hlk i n (.ref a) hi hσ (.inl hl);cases r;rcases q with⟨_,q⟩|⟨k,_⟩
  ·exact⟨m,hn,q⟩
  ·have k:X.env.scope.names.lookup n=some .cell\/X.env.scope.names.lookup n=some .free:=k;rcases k with k|k<;>(rw[hl]at k;cases k)
theorem zlv (ok:X.Ok)(hx:X.fx=none)(hi:X.N[i]?=some n)(I:Inv (inX X i n a oe) pins σ H s):Inv X pins (σ.set i none) H s:=by
 obtain⟨m,hn,hlk⟩:=I.loc;have hlen:σ.length=(X.N.set i "").length:=I.len;rw[ci]at hlen;refine⟨ok,I.os,I.bare,I.base,⟨m,hn,fun j x v e1 e2 e3=>?_⟩,I.cell,I.free,I.freeC,fun p hp=>I.pin p (aw _ hp),I.hok,by rw[ci];exact hlen,fun x u z=>by rw[hx]at z;cases z⟩;by_cases e:i=j
 ·subst e;rw[dm (by rw[hlen];exact(bn.mp hi).1)]at e2;cases e2
 ·rw[bt e]at e2;exact hlk j x v (show(X.N.set i "")[j]?=some x by rw[bt e];exact e1) e2 e3
theorem zob {M:Model}{A:bz}{E:Value->aa->Prop}{Q:Unit->aa->Prop}{v:V}{pos:Pos}(I:Inv X pins σ H s)(hx:X.fx=none)(nd:X.N.Nodup)(hi:X.N[i]?=some n)(hl:X.env.scope.names.lookup n=some .local)(hσ:σ[i]?=some (some v))
  (h:∀s',Inv X pins (σ.set i none) H s'->Q () s'):wpAny M A (i7 X.env n pos) Q E s:=by
 obtain⟨m,hn,hlk⟩:=id I.loc;have cne:=I.cne;obtain⟨u,r,q⟩:=hlk i n v hi hσ (.inl hl)
 have hv:m n=some u:=by
  rcases q with⟨_,q⟩|⟨k,_⟩
  ·exact q
  ·have k:X.env.scope.names.lookup n=some .cell\/X.env.scope.names.lookup n=some .free:=k;rcases k with k|k<;>(rw[hl]at k;cases k)
 have hcls:(X.env.scope.kind==.class||(X.env.scope.kind==.module&&X.env.locals != X.env.globals))=false:=by rw[I.ok.kind];rfl
 unfold i7;refine wpAny_onRaise (wpAny_unbindName_local hl hn hv hcls fun h' u' hn' hs=>h _ ?_);obtain⟨oL,_,_,hoL,_⟩:=id hn;have old:∀b o,X.s₀.heap.get? b=some o->b≠X.env.locals:=fun b o e=>bx (br (bg e) I.ok.above);refine⟨I.ok,I.os,I.bare,⟨fun b o e z hb hx=>(hs.2 b (old b o e)).trans (I.base.keep b o e z hb hx),fun b o e z hb hx=>?_,I.base.free,fun b o e hx=>?_,I.base.tups,I.base.frzs,I.base.tbls⟩,⟨_,hn',fun j y w e1 e2 e3=>?_⟩,fun y c e=>?_,I.free,I.freeC,fun p hp=>?_,fun b ob e=>?_,by rw[ci];exact I.len,fun x u z=>by rw[hx]at z;cases z⟩
 ·obtain⟨sl,e1⟩:=I.base.slot b o e z hb hx;exact⟨sl,(hs.2 b (old b o e)).trans e1⟩
 ·obtain⟨o',e1⟩:=I.base.there b o e hx;exact⟨o',(hs.2 b (old b o e)).trans e1⟩
 ·by_cases hj:i=j
  ·subst hj;rw[dm (by rw[I.len];exact(bn.mp hi).1)]at e2;cases e2
  ·rw[bt hj]at e2;obtain⟨u2,r2,q2⟩:=hlk j y w e1 e2 e3;refine⟨u2,r2,?_⟩;have hy:y≠n:=fun z=>hj (z42 nd hi (z▸e1));rcases q2 with⟨k,q2⟩|⟨k,c,e,z⟩
   ·exact .inl ⟨k,by simp only[if_neg hy];exact q2⟩
   ·exact .inr ⟨k,c,e,z.sameBut hs (cne y c e)⟩
 ·obtain⟨w,z⟩:=I.cell y c e;exact⟨w,z.sameBut hs (cne y c e)⟩
 ·obtain⟨e,nn,ne,nf,dd⟩:=I.pin p hp;exact⟨(hs.2 p.1 ne).trans e,nn,ne,nf,dd⟩
 ·have nl:∀c w,H c=some w->c≠X.env.locals:=fun c w q z=>by rw[z,I.free]at q;cases q
  exact(I.hok b ob e).stay (fun c w hc q=>(hs.2 c (hc.elim (fun z=>by rw[z];exact nl b _ e) fun z=>nl c _ z)).trans q) (fun _ q=>q) fun _ _ q=>q
theorem StOk.forget {K:W.Frag}{F:Fm}{H:Hp}{σ:L2.St}{ρ:Rho}{v:Option V}(so:StOk K F H σ ρ):StOk K F H (σ.set i v) (ρ.set i none) where
 ext:=so.ext
 vis:=so.vis
 own:=so.own
 len:=by rw[ci,ci];exact so.len
 sl:=fun j g d e=>by
  by_cases h:i=j
  ·subst h;rw[du]at e;split at e
   ·split at e<;>cases e
   ·exact absurd rfl (by assumption)
  ·rw[bt h]at e;obtain⟨w,h1,h2⟩:=so.sl j g d e;exact⟨w,by rw[bt h];exact h1,h2⟩
theorem zcu {M:Model}{Dn:Ends}{pos:Pos}{D2:Ends}{E:Value->aa->Prop}{f:Flow}{s:aa}(ok:X.Ok)(hx:X.fx=none)(nd:X.N.Nodup)(hi:X.N[i]?=some n)(hl:X.env.scope.names.lookup n=some .local)(hnx:∀σ' H',D2.nx σ' H'->Dn.nx (σ'.set i none) H')(hrt:∀v H',D2.rt v H'->Dn.rt v H')(hbk:∀σ' H',¬D2.bk σ' H')(hct:∀σ' H',¬D2.ct σ' H')
  (h:SP (inX X i n a oe) pins D2 f s):wpAny M X.A (do bindName X.env n .none;i7 X.env n pos) (fun _ s5=>SP X pins Dn f s5) E s:=by
 have key:∀{σ':L2.St} {H':Hp} {Q:Unit->aa->Prop},Inv (inX X i n a oe) pins σ' H' s->(∀s5,Inv X pins (σ'.set i none) H' s5->Q () s5)->wpAny M X.A (do bindName X.env n .none;i7 X.env n pos) Q E s:=fun{σ' H' Q} I k=>by
  have I1:=zlv ok hx hi I;refine af (wpAny_bindName (z4g I1 nd hi (.inl hl) (v:=.non) rfl (fun s4 I4 _=>?_) (.inr hl)));have hlt:i<(σ'.set i none).length:=by rw[I1.len];exact(bn.mp hi).1
  refine zob I4 hx nd hi hl (v:=.non) (dm hlt) fun s5 I5=>k s5 ?_;rw[sg,sg]at I5;exact I5
 cases f with
 |next=>obtain⟨σ',H',I,q⟩:=h;exact key I fun s5 I5=>⟨_,H',I5,hnx σ' H' q⟩
 |ret u=>obtain⟨v,σ',H',I,r,q⟩:=h;exact key I fun s5 I5=>⟨v,_,H',I5,r,hrt v H' q⟩
 |brk=>obtain⟨σ',H',_,q⟩:=h;exact(hbk σ' H' q).elim
 |cont=>obtain⟨σ',H',_,q⟩:=h;exact(hct σ' H' q).elim
theorem zex {P:bc}{w:World}{base:Heap}{outer:List Env}{H H':Hp}{s s':aa}{C a:Addr}(f:Fly P w base outer H s C a H' s'):H' a=none:=by
 obtain⟨B,t,_,hB,_,fl⟩:=f.hh;cases e:H' a with
 |none=>rfl
 |some u=>obtain⟨o,q⟩:=z7g (hB a u e);rw[fl.2.1]at q;cases q
theorem handle {Dn:Ends}{B:Str}{C D:Addr}{H1 H':Hp}{s1 s':aa}{F:Fm}{ρ:Rho}{fb:Rho->Res Out}{out:Out}{b0:Stmt}{suite:List Stmt}{np hp:Pos}(I:Inv X pins σ H1 s1)(fl:Fly X.prog X.w X.base X.stack H1 s1 C a H' s')(so:StOk X.K F H1 σ ρ)(hs:X.stack=X.env::X.outer)(hf:X.env.frame=some X.env.locals)(hx:X.fx=none)(nd:X.N.Nodup)(hi:X.N[i]?=some n)(hv:X.env.scope.names.lookup ("":Str)=none)(hl:X.env.scope.names.lookup n=some .local)
  (hB:X.mg B=some (.ref D)) (xC:exV X.K C=true) (xD:exV X.K D=true) (sb:W.subIn X.K (.ref C) (.ref D)=some true) (hgB:Gl X B) (hdB:(B==("__debug__":Str))=false)
  (hsu:∀a oe,oe.cls=.ref C->PSs (inX X i n a oe) (b0::suite) (tDS X.K fb)) (eo:outI i (fb (ρ.set i none))=.ok out) (q:z5u X.K F H1 Dn out):
  wpAny (model X.prog X.w) X.A (noteFrame (.ref a) X.env) (fun _ s2=>wpAny (model X.prog X.w) X.A (setFlight (.ref a) none) (fun _ s3=>wpAny (model X.prog X.w) X.A (handleBy (.ref a) X.env [.ExceptHandler (some (.Name B np)) (some n) (b0::suite) hp]) (SP X pins Dn) X.xe s3) X.xe s2) X.xe s':=by
 have hfr:X.A.frames=some (X.env::X.outer):=by rw[<-hs];exact I.ok.frames
 obtain⟨B0,t,hb0,hB0,cov,w0⟩:=fl.hh;have w0':=w0;rw[hs]at w0';have mk:∀h6,Heap.FlyingW B0 (X.env::X.outer) a (.ref C) (.ref t) h6->s'.heap.UpToSlots h6->Fly X.prog X.w X.base X.stack H1 s1 C a H' {s' with heap:=h6}:=fun h6 w6 up=>by refine⟨fl.os,fl.bare,fl.same,fl.free,⟨B0,t,hb0,hB0,cov,by rw[hs];exact w6⟩,fun b o e z hb=>?_⟩;obtain⟨sl,e1⟩:=fl.slot b o e z hb;obtain⟨_,o3,e3,nd3⟩:=I.stack.mem hb;rw[e]at e3;cases e3;obtain⟨sl3,e4⟩:=up b _ e1 nd3;exact⟨sl3,e4⟩
 refine wpAny_looks_onW hfr hf w0' fun h4 held up4=>?_;refine wpAny_landsW held fun h5 w5 up5=>?_;have f5:=mk h5 w5 (up4.trans up5);have I5:=f5.inv I;refine wpAny_handleBy_cons (codeAny_handlers_test ?_) (by intro z;cases z);refine i6 I5.ok.kind hgB (mo (by rw[I5.ok.glob];exact I5.mod.glob.keeps I5.bk) hB ?_) hdB;obtain⟨bmC,oC,cC⟩:=XC.mk I5.kIn xC;obtain⟨bmD,oD,_⟩:=XC.mk I5.kIn xD;obtain⟨ob,hob,hobc⟩:=w5.there;refine zfl oC oD hob hobc (cC _ _ sb) ?_;refine codeAny_handlers_suite_as (lands_againW w5 fun h6 w6 up6=>?_);have f6:=mk h6 w6 ((up4.trans up5).trans up6);have I6:=f6.inv I;obtain⟨oe,ws,hoe,hoec,hoed,_⟩:=w6.first;refine z4g I6 nd hi (.inl hl) (v:=.ref a) rfl (fun s7 I7 ch=>?_) (.inr hl);obtain⟨ad,sbt,had⟩:=ch;have nL:a≠X.env.locals:=fun z=>by obtain⟨_,o3,e3,nd3⟩:=I6.stack.mem (b:=X.env.locals) (by rw[hs,c8,hf];exact au);rw[<-z]at e3;have e3:h6.get? a=some o3:=e3;rw[hoe]at e3;cases e3;exact nd3 ws hoed
 have nF:a∉X.fs:=fun z=>by obtain⟨_,o3,e3,nd3⟩:=I6.funs.mem (b:=a) z;have e3:h6.get? a=some o3:=e3;rw[hoe]at e3;cases e3;exact nd3 ws hoed
 have nA:a≠ad:=fun z=>by
  rcases had with h|h
  ·exact nL (z.trans h)
  ·obtain⟨v,oc,hoc,hocd⟩:=I6.cell n ad h;rw[<-z]at hoc;have hoc:h6.get? a=some oc:=hoc;rw[hoe]at hoc;cases hoc;rw[hoed]at hocd;cases hocd
 have ho7:s7.heap.get? a=some oe:=(sbt.2 a nA).trans hoe;have hlt:i<σ.length:=by rw[I.len];exact(bn.mp hi).1
 have I8:=znq I7 nd hi hv hl (dm hlt) ho7 (zex f6) nL nF (fun v z=>by rw[hoed]at z;cases z);rw[sg]at I8;have so8:=(so.same fl.same).forget (i:=i) (v:=none)
 have fin:∀(r:Out),fb (ρ.set i none)=.ok r->z5u X.K F H' ⟨fun σ' H''=>Dn.nx (σ'.set i none) H'',Dn.rt,fun _ _=>False,fun _ _=>False⟩ r:=fun r er=>by
  rw[er]at eo;cases r with
  |nx ρ'=>cases eo;exact fun σ' H'' F' so' ru fr=>q (σ'.set i none) H'' F' so'.forget ru ((Frm.same fl.same).trans fr)
  |rt g d=>cases eo;exact fun v H'' hk rv=>q v H'' hk rv
 cases er:fb (ρ.set i none)with
 |no=>rw[er]at eo;cases eo
 |exc z=>rw[er]at eo;cases eo
 |ok r=>refine jp (hsu a oe hoec pins s7 _ H' ⟨fun σ' H''=>Dn.nx (σ'.set i none) H'',Dn.rt,fun _ _=>False,fun _ _=>False⟩ I8 ⟨_,F,r,so8,er,fin r er⟩) (fun fl2 s9 h9=>?_) fun _ _ z=>z.elim;exact zcu (D2:=⟨fun σ' H''=>Dn.nx (σ'.set i none) H'',Dn.rt,fun _ _=>False,fun _ _=>False⟩) (pos:=hp) I.ok hx nd hi hl (fun _ _ z=>z) (fun _ _ z=>z) (fun _ _ z=>z) (fun _ _ z=>z) h9
theorem zty {e:Expr}{es:List Expr}{f B c:Str}{k k' nn:Nat}{ps:List Str}{m:Fn}{fs:Rho->Res (List GD)}{fb:Rho->Res Out}{p cp ep np hp pos:Pos}{b0:Stmt}{suite:List Stmt}{C D:Addr}
  (Co:Cal X.prog X.w X.K X.mg X.base k f ps (spD X.K nn m)) {k2:Nat} {ps2:List Str} (Cx:CalX X.prog X.w X.K X.mg X.base k2 f ps2 nn m) (hr:Room k' X.A) (hk:k<=k') (hk2:k2<=k') (ha:∀E,PA (X.wish E) (e::es) (tDA X.K fs)) (hst:((e::es).all fun e=>!isStar e)=true) (hg:Gl X f) (hdb:(f==("__debug__":Str))=false) (hlen:∀ρ ys,fs ρ=.ok ys->ys.length=nn)
  (hs:X.stack=X.env::X.outer) (hf:X.env.frame=some X.env.locals) (hx:X.fx=none) (nd:X.N.Nodup) (hi:X.N[i]?=some n) (hv:X.env.scope.names.lookup ("":Str)=none) (hl:X.env.scope.names.lookup n=some .local)
  (hc:X.mg c=some (.ref C)) (hB:X.mg B=some (.ref D)) (xC:exV X.K C=true) (xD:exV X.K D=true) (sb:W.subIn X.K (.ref C) (.ref D)=some true) (hgB:Gl X B) (hdB:(B==("__debug__":Str))=false)
  (hsu:∀a oe,oe.cls=.ref C->PSs (inX X i n a oe) (b0::suite) (tDS X.K fb)):
  PS X (.Try [.Expr (.Call (.Name f p) (e::es) [] cp) ep] [.ExceptHandler (some (.Name B np)) (some n) (b0::suite) hp] [] [] pos) (tDS X.K fun ρ=>fs ρ>>=fun ys=>match m (ys.map (·.2))with|.ok _=>.ok (.nx ρ)|r=>if excOf r=some c then outI i (fb (ρ.set i none))else .no):=by
 intro pins s σ H Dn I hq;obtain⟨ρ,F,out,so,eo,q⟩:=hq;obtain⟨ys,e2,eo⟩:=Res.bind_ok eo
 have raw:(∃r,m (ys.map (·.2))=.ok r/\out=.nx ρ)\/(excOf (m (ys.map (·.2)))=some c/\outI i (fb (ρ.set i none))=.ok out):=by
  cases em:m (ys.map (·.2))with
  |ok r=>rw[em]at eo;cases eo;exact .inl ⟨r,rfl,rfl⟩
  |exc z=>
   rw[em]at eo;by_cases hz:excOf (.exc z)=some c
   ·have eo:(if excOf (.exc z)=some c then outI i (fb (ρ.set i none))else .no)=.ok out:=eo;rw[if_pos hz]at eo;exact .inr ⟨hz,eo⟩
   ·have eo:(if excOf (.exc z)=some c then outI i (fb (ρ.set i none))else .no)=.ok out:=eo;rw[if_neg hz]at eo;cases eo
  |no=>rw[em]at eo;have eo:(if excOf .no=some c then outI i (fb (ρ.set i none))else .no)=.ok out:=eo;rw[if_neg nofun]at eo;cases eo
 refine wpAny_Try_except ?_;generalize hE:(fun(e:Value) (s₁:aa)=>wpAny (model X.prog X.w) X.A (noteFrame e X.env) (fun _ s₂=>wpAny (model X.prog X.w) X.A (setFlight e none) (fun _ s₃=>wpAny (model X.prog X.w) X.A (handleBy e X.env [.ExceptHandler (some (.Name B np)) (some n) (b0::suite) hp]) (SP X pins Dn) X.xe s₃) X.xe s₂) X.xe s₁)=E;rcases raw with⟨r,e3,rfl⟩|⟨e3,e4⟩
 ·have h1:=zl3 (ps_e (pos:=ep) (zgy (X:=X.wish E) (p:=p) (pos:=cp) Co hr hk (ha E) hst hg hdb hlen) rfl);have e5:(fs ρ>>=fun ys=>m (ys.map (·.2))>>=fun r=>Res.ok (gJ r.2 (rtG r.1),r.2))=.ok (gJ r.2 (rtG r.1),r.2):=by rw[e2,Res.ok_bind,e3,Res.ok_bind]
  refine thn (h1 pins s σ H ⟨fun σ' H'=>σ'=σ/\Same H H',fun _ _=>False,fun _ _=>False,fun _ _=>False⟩ (I.wish E) ⟨ρ,F,_,so,e5,fun v H1 s1 _=>⟨rfl,s1⟩⟩) fun fl2 s2 h2=>?_;cases fl2 with
  |next=>obtain⟨σ',H',I2,rfl,z⟩:=h2;exact ky ⟨σ',H',I2.unwish,q σ' H' F (so.same z) Run.refl (Frm.same z)⟩
  |brk=>obtain⟨_,_,_,z⟩:=h2;exact z.elim
  |cont=>obtain⟨_,_,_,z⟩:=h2;exact z.elim
  |ret u=>obtain⟨_,_,_,_,_,z⟩:=h2;exact z.elim
 ·have h1:=z56 (X:=X.wish E) (p:=p) (pos:=cp) Cx hr hk2 (ha E) hst hg hdb hlen (I.wish E) so e2 e3 fun H1 s1 C' a H' s' I1 z1 q1 fl=>by
   have e6:X.mg c=some (.ref C'):=q1;rw[hc]at e6;cases e6;show E (.ref a) s';rw[<-hE];exact handle I1.unwish fl (so.same z1) hs hf hx nd hi hv hl hB xC xD sb hgB hdB hsu e4 (q.back Run.refl (Frm.same z1))
  exact kh (wpAny_Expr_any (thn h1 fun _ _ z=>z.elim) I.quiet (z2g rfl _ _ _))
end
section
variable {X:Cx}{n x:Str}{p p1 p2 pos:Pos}{a C:Addr}{oe:Obj}{v:V}{u:Value}{b:Bool}
theorem zut (hx:X.fx=some (n,.ref a))(hl:X.env.scope.names.lookup n=some .local)(hd:(n==("__debug__":Str))=false):PE X (.Name n p) (fun _ H Q=>Q (.ref a) H):=by intro pins s σ H Q I h;obtain⟨m,hn,hm⟩:=I.fx n _ hx;exact qg (oq I.ok.kind hl hn hm ⟨.ref a,H,I,rfl,h⟩) hd
theorem zus (hg:Gl X x)(hm:X.mg x=some u\/(X.mg x=none/\cv x=some u/\x≠"__name__"))(r:RelV v u)(hd:(x==("__debug__":Str))=false):PE X (.Name x p) (fun _ H Q=>Q v H):=by
 intro pins s σ H Q I h;rcases hm with hm|⟨h1,h2,h3⟩
 ·exact z3i I hg hm ⟨v,H,I,r,h⟩ hd
 ·exact z2n I hg h1 h2 ⟨v,H,I,r,h⟩ h3 hd
def Xh (X:Cx)(a:Addr)(oe:Obj):Prop:=∀pins σ H s,Inv X pins σ H s->s.heap.get? a=some oe
theorem zt8 (hm:X.mg "isinstance"=none)(hg:Gl X "isinstance")(hx:X.fx=some (n,.ref a))(hl:X.env.scope.names.lookup n=some .local)(hd:(n==("__debug__":Str))=false)(hp:Xh X a oe)(hc:oe.cls=.ref C)
  (hgx:Gl X x) (hmx:X.mg x=some u\/(X.mg x=none/\cv x=some u/\x≠"__name__")) (r:RelV v u) (ru:∀w,RelV v w->w=u) (hdx:(x==("__debug__":Str))=false) (xa:XA X.K C) (xv:XV X.K u) (hs:W.subIn X.K (.ref C) u=some b):
  PE X (.Call (.Name "isinstance" p) [.Name n p1,.Name x p2] [] pos) (tD X.K fun _=>.ok (.fr,.bool b)):=by
 intro pins s σ H Q I hq;obtain⟨ρ,F,z,so,e,q⟩:=hq;cases e;refine gj (z2n (u:=.builtin "isinstance") I hg hm (by decide+kernel) ?_ (by decide) (by decide));have hA:=z4m (X:=X) (zut (p:=p1) hx hl hd) (z4m (zus (p:=p2) hgx hmx r hdx) z3v);refine PyProof.Rows.callWith_builtin1 (thn (hA pos pins s σ H (fun vs H1=>vs=[.ref a,v]/\H1=H) I ⟨rfl,rfl⟩) fun us s1 zz=>?_) rfl rfl;obtain⟨vs,H1,I1,r1,rfl,rfl⟩:=zz;cases r1 with
 |cons ra rt=>
  cases rt with
  |cons rb rn=>cases rn;rename_i w1 w2;obtain rfl:w1=Value.ref a:=ra;have e2:w2=u:=ru w2 rb;subst e2;refine zui I1.kIn xa (hp _ _ _ _ I1) hc xv hs fun t'=>?_;exact⟨.bl b,H1,I1.tok _,rfl,q _ H1 (Same.refl H1) rfl⟩
end
section
theorem and2 {a b:Bool}(h:(a&&b)=true):a=true/\b=true:=ba.mp h
theorem and3 {a b c:Bool}(h:(a&&b&&c)=true):a=true/\b=true/\c=true:=⟨(and2 (and2 h).1).1,(and2 (and2 h).1).2,(and2 h).2⟩
theorem and4 {a b c d:Bool}(h:(a&&b&&c&&d)=true):a=true/\b=true/\c=true/\d=true:=⟨(and3 (and2 h).1).1,(and3 (and2 h).1).2.1,(and3 (and2 h).1).2.2,(and2 h).2⟩
theorem and5 {a b c d e:Bool}(h:(a&&b&&c&&d&&e)=true):a=true/\b=true/\c=true/\d=true/\e=true:=⟨(and4 (and2 h).1).1,(and4 (and2 h).1).2.1,(and4 (and2 h).1).2.2.1,(and4 (and2 h).1).2.2.2,(and2 h).2⟩
theorem z1n {b:Bool}(h:(!b)=true):b=false:=by cases b<;>first|rfl|cases h
theorem ff {b:Bool}{p:Prop}(h:b=false)(z:b=true):p:=by rw[h]at z;cases z
theorem z1q {α:Type}{l:List α}(h:l.isEmpty=true):l=[]:=by cases l<;>first|rfl|cases h
theorem z2s {α:Type}{l:List α}(h:(!l.isEmpty)=true):∃x r,l=x::r:=by cases l<;>first|exact⟨_,_,rfl⟩|cases h
theorem z03 {α:Type}{o:Option α}{f:α->Bool}(h:o.any f=true):∃v,o=some v/\f v=true:=by
 cases o with
 |none=>cases h
 |some v=>exact⟨v,rfl,h⟩
theorem v_of {α:Type}{o:Option α}{v:α}{q:α->Prop}(h:o=some v)(d:o=none\/∃u,o=some u/\q u):q v:=by
 rcases d with d|⟨u,d,z⟩
 ·rw[d]at h;cases h
 ·rw[d]at h;cases h;exact z
theorem q_Nm {e:Expr}{v:Str}(h:vNm e=some v):∃p,e=.Name v p:=v_of (q:=fun v=>∃p,e=.Name v p) h (by cases e<;>first|exact .inl rfl|exact .inr ⟨_,rfl,_,rfl⟩)
theorem z84 {e:Expr}{v:Const}(h:vCst e=some v):∃k p,e=.Constant v k p:=v_of (q:=fun v=>∃k p,e=.Constant v k p) h (by cases e<;>first|exact .inl rfl|exact .inr ⟨_,rfl,_,_,rfl⟩)
theorem zu8 {e:Expr}{v:Expr×jc×Expr}(h:vBin e=some v):∃p,e=.BinOp v.1 v.2.1 v.2.2 p:=v_of (q:=fun v=>∃p,e=.BinOp v.1 v.2.1 v.2.2 p) h (by cases e<;>first|exact .inl rfl|exact .inr ⟨_,rfl,_,rfl⟩)
theorem q_Un {e:Expr}{v:UnaryOp×Expr}(h:vUn e=some v):∃p,e=.UnaryOp v.1 v.2 p:=v_of (q:=fun v=>∃p,e=.UnaryOp v.1 v.2 p) h (by cases e<;>first|exact .inl rfl|exact .inr ⟨_,rfl,_,rfl⟩)
theorem q_Cm {e:Expr}{v:Expr×List CmpOp×List Expr}(h:vCm e=some v):∃p,e=.Compare v.1 v.2.1 v.2.2 p:=v_of (q:=fun v=>∃p,e=.Compare v.1 v.2.1 v.2.2 p) h (by cases e<;>first|exact .inl rfl|exact .inr ⟨_,rfl,_,rfl⟩)
theorem q_Bo {e:Expr}{v:BoolOp×List Expr×Pos}(h:vBo e=some v):e=.BoolOp v.1 v.2.1 v.2.2:=v_of (q:=fun v=>e=.BoolOp v.1 v.2.1 v.2.2) h (by cases e<;>first|exact .inl rfl|exact .inr ⟨_,rfl,rfl⟩)
theorem zs0 {e:Expr}{v:Expr×Expr×Expr}(h:vIfE e=some v):∃p,e=.IfExp v.1 v.2.1 v.2.2 p:=v_of (q:=fun v=>∃p,e=.IfExp v.1 v.2.1 v.2.2 p) h (by cases e<;>first|exact .inl rfl|exact .inr ⟨_,rfl,_,rfl⟩)
theorem zl4 {e:Expr}{v:List Expr}(h:vTup e=some v):∃k p,e=.Tuple v k p:=v_of (q:=fun v=>∃k p,e=.Tuple v k p) h (by cases e<;>first|exact .inl rfl|exact .inr ⟨_,rfl,_,_,rfl⟩)
theorem zsz {e:Expr}{v:List Expr}(h:vLst e=some v):∃p,e=.List v p:=v_of (q:=fun v=>∃p,e=.List v p) h (by cases e<;>first|exact .inl rfl|exact .inr ⟨_,rfl,_,rfl⟩)
theorem q_Di {e:Expr}{v:List (Option Expr)×List Expr}(h:vDi e=some v):∃p,e=.Dict v.1 v.2 p:=v_of (q:=fun v=>∃p,e=.Dict v.1 v.2 p) h (by cases e<;>first|exact .inl rfl|exact .inr ⟨_,rfl,_,rfl⟩)
theorem zln {e:Expr}{v:Expr×Expr}(h:vSub e=some v):∃p,e=.Subscript v.1 v.2 p:=v_of (q:=fun v=>∃p,e=.Subscript v.1 v.2 p) h (by cases e<;>first|exact .inl rfl|exact .inr ⟨_,rfl,_,rfl⟩)
theorem zsr {e:Expr}{v:Option Expr×Option Expr×Option Expr}(h:vSli e=some v):∃p,e=.Slice v.1 v.2.1 v.2.2 p:=v_of (q:=fun v=>∃p,e=.Slice v.1 v.2.1 v.2.2 p) h (by cases e<;>first|exact .inl rfl|exact .inr ⟨_,rfl,_,rfl⟩)
theorem q_Ca {e:Expr}{v:Expr×List Expr×List m8×Pos}(h:vCa e=some v):e=.Call v.1 v.2.1 v.2.2.1 v.2.2.2:=v_of (q:=fun v=>e=.Call v.1 v.2.1 v.2.2.1 v.2.2.2) h (by cases e<;>first|exact .inl rfl|exact .inr ⟨_,rfl,rfl⟩)
theorem q_At {e:Expr}{v:Expr×Str×Pos}(h:vAt e=some v):e=.Attribute v.1 v.2.1 v.2.2:=v_of (q:=fun v=>e=.Attribute v.1 v.2.1 v.2.2) h (by cases e<;>first|exact .inl rfl|exact .inr ⟨_,rfl,rfl⟩)
theorem q_Jo {e:Expr}{v:List Expr}(h:vJo e=some v):∃p,e=.JoinedStr v p:=v_of (q:=fun v=>∃p,e=.JoinedStr v p) h (by cases e<;>first|exact .inl rfl|exact .inr ⟨_,rfl,_,rfl⟩)
theorem q_Fv {e:Expr}{v:Expr×Int×Option Expr}(h:vFv e=some v):∃p,e=.FormattedValue v.1 v.2.1 v.2.2 p:=v_of (q:=fun v=>∃p,e=.FormattedValue v.1 v.2.1 v.2.2 p) h (by cases e<;>first|exact .inl rfl|exact .inr ⟨_,rfl,_,rfl⟩)
theorem q_LC {e:Expr}{v:Expr×List jf×Scope}(h:vLC e=some v):∃p,e=.ListComp v.1 v.2.1 v.2.2 p:=v_of (q:=fun v=>∃p,e=.ListComp v.1 v.2.1 v.2.2 p) h (by cases e<;>first|exact .inl rfl|exact .inr ⟨_,rfl,_,rfl⟩)
theorem z3z {α:Type}{l:List α}{v:α}(h:vOne l=some v):l=[v]:=by rcases l with _|⟨x,_|⟨y,l⟩⟩<;>cases h;rfl
theorem zki {α:Type}{l:List α}{v:α×α}(h:vTwo l=some v):l=[v.1,v.2]:=by rcases l with _|⟨x,_|⟨y,_|⟨z,l⟩⟩⟩<;>cases h;rfl
theorem zky {α:Type}{l:List α}{v:α×α×α}(h:zhg l=some v):l=[v.1,v.2.1,v.2.2]:=by rcases l with _|⟨x,_|⟨y,_|⟨z,_|⟨w,l⟩⟩⟩⟩<;>cases h;rfl
theorem z1w {e:Expr}{v:Str×List Expr}(h:z4f e=some v):∃q p,e=.Call (.Name v.1 q) v.2 [] p:=by
 obtain⟨u,hu,h⟩:=iu.mp h;cases hk:u.2.2.1.isEmpty with
 |false=>rw[hk]at h;exact absurd h nofun
 |true=>rw[hk]at h;obtain⟨x,hx,rfl⟩:=dh.mp h;obtain⟨q,hq⟩:=q_Nm hx;exact⟨q,_,by rw[q_Ca hu,hq,z1q hk]⟩
theorem q_Mt {e:Expr}{v:Expr×Str×List Expr×Bool}(h:vMt e=some v):∃ap cp,e=.Call (.Attribute v.1 v.2.1 ap) v.2.2.1 [] cp/\v.2.2.2=(ap.endLine==cp.line):=by
 obtain⟨u,hu,h⟩:=iu.mp h;cases hk:u.2.2.1.isEmpty with
 |false=>rw[hk]at h;exact absurd h nofun
 |true=>rw[hk]at h;obtain⟨x,hx,rfl⟩:=dh.mp h;exact⟨_,_,by rw[q_Ca hu,q_At hx,z1q hk],rfl⟩
theorem z37 {f:Str->Bool}{e:Expr}(h:hd1 f e=true):∃x p,e=.Name x p/\f x=true:=by obtain⟨x,hx,h⟩:=z03 h;obtain⟨p,hp⟩:=q_Nm hx;exact⟨x,p,hp,h⟩
def zru (K:W.Frag)(mg:Str->Option Value)(c C:Str)(b:Bool):Prop:=∃A v u,mg c=some (.ref A)/\XA K A/\XV K u/\W.subIn K (.ref A) u=some b/\RelV v u/\(∀w,RelV v w->w=u)/\(mg C=some u\/(mg C=none/\cv C=some u/\C≠"__name__"))
def RsOk (K:W.Frag)(mg:Str->Option Value)(c:Str):Prop:=∃C,mg c=some (.ref C)/\exV K C=true
def zv5 (K:W.Frag)(mg:Str->Option Value)(c B:Str):Prop:=∃C D,mg c=some (.ref C)/\mg B=some (.ref D)/\exV K C=true/\exV K D=true/\W.subIn K (.ref C) (.ref D)=some true
structure Xok (Γ:Gm)(K:W.Frag)(mg:Str->Option Value):Prop where
 sub:∀c C b,Γ.sub.contains (c,C,b)=true->zru K mg c C b
 rs:∀c,Γ.rs.contains c=true->RsOk K mg c
 hnd:∀c B,Γ.hnd.contains (c,B)=true->zv5 K mg c B
structure Cok (Γ:Gm)(Κ:List D)(Φ:List Fn)(X:Cx)(r:Nat):Prop where
 hN:X.N=Γ.N
 hs:X.env.scope=Γ.sc
 nd:Γ.N.Nodup
 fn:Γ.blk=false->∀x,X.fn x=true
 kind:Γ.sc.kind=.function
 free:∀x,Γ.free.contains x=true->X.mg x=none
 fns:∀(j:Nat) f n,Γ.fns[j]?=some (f,n)->∃m k ps,Φ[j]?=some m/\k<=r/\Cal X.prog X.w X.K X.mg X.base k f ps (spD X.K n m)
 cst:∀(j:Nat) x,Γ.cst[j]?=some x->∃d a,Κ[j]?=some d/\X.mg x=some (.ref a)/\∀H B,B none->Rep X.K H B (.ref a) d
 fnx:∀(j:Nat) f n,Γ.fns[j]?=some (f,n)->∃m k ps,Φ[j]?=some m/\k<=r/\CalX X.prog X.w X.K X.mg X.base k f ps n m
 room:Γ.cm=true->Room r X.A
 calm:Γ.cm=true->X.calm=true
 hu:X.A.units+64<cLine
 fun_:Γ.blk=false->X.stack=X.env::X.outer/\X.env.frame=some X.env.locals
 fx0:Γ.xc=none->X.fx=none
 xc:∀n c,Γ.xc=some (n,c)->∃a oe C,X.fx=some (n,.ref a)/\Xh X a oe/\oe.cls=.ref C/\X.mg c=some (.ref C)
 xk:Xok Γ X.K X.mg
section
variable {Γ:Gm}{Κ:List D}{Φ:List Fn}{X:Cx}{r:Nat}
theorem Cok.gl (k:Cok Γ Κ Φ X r){x:Str}(h:glB Γ x=true):Gl X x/\(x==("__debug__":Str))=false:=by unfold glB at h;rw[ak]at h;refine⟨?_,by simpa using h.2⟩;show X.env.scope.names.lookup x=_;rw[k.hs];simpa using h.1
theorem Cok.vis (k:Cok Γ Κ Φ X r){i:Nat}{x:Str}(h:visB Γ i x=true):X.N[i]?=some x/\Vis X.env.scope x/\(x==("__debug__":Str))=false/\(x==("__classdict__":Str))=false:=by
 unfold visB at h;simp only[ak,cj,beq_iff_eq]at h;have⟨⟨⟨h1,h2⟩,h3⟩,h4⟩:=h;refine⟨by rw[k.hN];exact h1,?_,by simpa using h3,by simpa using h4⟩;unfold Vis;rw[k.hs];rcases h2 with(h2|h2)|h2
 ·exact .inl h2
 ·exact .inr (.inl h2)
 ·exact .inr (.inr h2)
theorem Cok.loc (k:Cok Γ Κ Φ X r){i:Nat}{x:Str}(h:locB Γ i x=true):X.N[i]?=some x/\Loc X.env.scope x/\(X.fn x=true\/X.env.scope.names.lookup x=some .local):=by
 unfold locB at h;simp only[ak,cj,beq_iff_eq,eh]at h;obtain⟨h1,h2⟩:=h;refine⟨by rw[k.hN];exact h1,?_,?_⟩
 ·unfold L2.Loc;rw[k.hs];rcases h2 with h2|⟨_,h2⟩
  ·exact .inl h2
  ·exact .inr h2
 ·rcases h2 with h2|⟨h2,_⟩
  ·exact .inr (by rw[k.hs];exact h2)
  ·exact .inl (k.fn h2 x)
theorem Cok.blt (k:Cok Γ Κ Φ X r){x:Str}(h:bltB Γ x=true):Gl X x/\X.mg x=none/\(x==("__debug__":Str))=false/\x≠"__name__":=by unfold bltB at h;simp only[ba]at h;obtain⟨⟨h1,h2⟩,h3⟩:=h;obtain⟨g1,g2⟩:=k.gl h1;exact⟨g1,k.free x h2,g2,by simpa using h3⟩
theorem zjb {X:Cx}{scope:Scope}{N':List Str}{C:Addr}{fp:List Addr}{s:aa}{H:Hp}:(blk X scope N' C fp s H).env.scope=zlu scope X.env.scope:=rfl
theorem Cok.blk (k:Cok Γ Κ Φ X r){scope:Scope}{N':List Str}(hk:scope.kind=.function)(nd:N'.Nodup)(C:Addr)(fp:List Addr)(s:aa)(H:Hp):Cok {Γ with N:=N',sc:=zlu scope Γ.sc,blk:=true,xc:=none} Κ Φ (blk X scope N' C fp s H) r where
 hN:=rfl
 hs:=by rw[zjb,k.hs]
 nd:=nd
 fn:=fun z=>by cases z
 kind:=hk
 free:=k.free
 fns:=k.fns
 cst:=k.cst
 fnx:=k.fnx
 room:=k.room
 calm:=k.calm
 hu:=k.hu
 fun_:=fun z=>by cases z
 fx0:=fun _=>rfl
 xc:=fun _ _ z=>by cases z
 xk:=⟨k.xk.sub,k.xk.rs,k.xk.hnd⟩
theorem zt9 (k:Cok Γ Κ Φ X r)(all:List Nat){is:List Nat}:∀{es:List Expr},zk6 Γ is es=true->PGs X es (tDGs X.K all is)/\(eu es X.env).length=is.length/\(eu es X.env).findIdx? (·.1)=none:=by
 induction is with
 |nil=>intro es h;cases z1q h;exact⟨zpn,rfl,rfl⟩
 |cons i is ih=>
  intro es h;cases es with
  |nil=>cases h
  |cons e es=>
   obtain⟨h0,h9⟩:=and2 h;obtain⟨x,p,rfl,h0⟩:=z37 h0;obtain⟨h1,h2,h3⟩:=k.loc h0;obtain⟨a1,a2,a3⟩:=ih h9;refine⟨zjs (by rw[k.hN];exact k.nd) h1 h2 h3 a1,?_,?_⟩
   ·show(eu es X.env).length+1=_;rw[a2];rfl
   ·show((false,m4 (.Name x p) X.env)::eu es X.env).findIdx? (·.1)=none;rw[lq,a3];rfl
theorem zf1 (k:Cok Γ Κ Φ X r){t:Tg}{e:Expr}(h:zfo Γ t e=true):PG X e (tDG X.K t):=by
 cases t with
 |nm i=>obtain⟨x,p,rfl,h9⟩:=z37 h;obtain⟨h1,h2,h3⟩:=k.loc h9;exact zoi (by rw[k.hN];exact k.nd) h1 h2 h3
 |tp is=>obtain⟨h0,h⟩:=and2 h;obtain⟨v,hv,h9⟩:=z03 h;obtain⟨_,_,rfl⟩:=zl4 hv;obtain⟨a1,a2,a3⟩:=zt9 k is h9;exact zrw (k.calm h0) a1 rfl a3 a2.symm
theorem z5b {e:Expr}(h:plainT e=true)(env:Env):∀whole,oo e env whole=(do let v <-whole;tu e.pos;pf [v] (t0 v)):=by
 intro whole;cases e<;>first|(cases h;done)|rfl|skip
 rename_i op x p;cases op<;>first|(cases h;done)|rfl
theorem z5z {e:Expr}(h:zg2 e=true)(env:Env):∀x,e9 e env x=pure x:=by intro x;cases e<;>first|(cases h;done)|rfl
end
variable (Κ:List D)(Φ:List Fn)
theorem zkv (c:C):∀(Γ:Gm) (es:List Expr) (ρ:Rho) (ys:List GD),chkA Γ c es=true->evA Κ Φ c ρ=.ok ys->ys.length=es.length/\(es.all fun e=>!isStar e)=true:=by
 induction c with
 |nil=>intro Γ es ρ ys h e;cases z1q h;cases e;exact⟨rfl,rfl⟩
 |cons a r _ ih=>
  intro Γ es ρ ys h e;cases es with
  |nil=>cases h
  |cons x es=>obtain⟨h1,_,h3⟩:=and3 h;obtain⟨y,_,e⟩:=Res.bind_ok e;obtain⟨ys',e2,e⟩:=Res.bind_ok e;cases e;obtain⟨i1,i2⟩:=ih Γ es ρ ys' h3 e2;exact⟨by rw[ay,ay,i1],by rw[cn,i2,h1];rfl⟩
 |_=>exact fun _ _ _ _ h=>ff rfl h
end
section
theorem zkz {Γ:Gm}{T:String}{t:Expr}(h:tyB Γ T t=true):∃x p,t=.Name x p/\x=Str.ofString T/\bltB Γ x=true/\T∈tysB:=by obtain⟨x,p,e,h⟩:=z37 h;obtain⟨h1,h2,h3⟩:=and3 h;exact⟨x,p,e,uo h1,h2,c7.mp h3⟩
theorem or_l {a b:Bool}(h:(a||b)=true)(n:b=false):a=true:=by rw[n,Bool.or_false]at h;exact h
theorem zfc {T:String}(h:T∈tysB):cv (Str.ofString T)=some (.type T):=by simp only[tysB,ao,cr,or_false]at h;rcases h with rfl|rfl|rfl|rfl|rfl<;>decide+kernel
variable (Κ:List D)(Φ:List Fn)
theorem z0l {Γ:Gm}:∀{c:C} {es:List Expr},chkA Γ c es=true->(es.all fun e=>!isStar e)=true:=by
 intro c
 induction c with
 |nil=>intro es h;cases z1q h;rfl
 |cons a r _ ih=>
  intro es h;cases es with
  |nil=>rfl
  |cons e es=>obtain⟨h1,_,h3⟩:=and3 h;rw[cn,ih h3,h1];rfl
 |_=>exact fun h=>ff rfl h
theorem z3o {Γ:Gm}{c:C}{es:List Expr}(h:chkA Γ c es=true):∀ρ ys,evA Κ Φ c ρ=.ok ys->ys.length=es.length:=fun ρ ys e=>(zkv Κ Φ c Γ es ρ ys h e).1
structure Sd (c:C):Prop where
 E:∀(Γ:Gm) (X:Cx) (r:Nat) (e:Expr),Cok Γ Κ Φ X r->chkE Γ c e=true->PE X e (tD X.K (evE Κ Φ c))
 T:∀(Γ:Gm) (X:Cx) (r:Nat) (e:Expr),Cok Γ Κ Φ X r->chkT Γ c e=true->PT X e (tDT X.K (evT Κ Φ c))/\((∃o l p,e=.BoolOp o l p)->PW X e (tDT X.K (evT Κ Φ c)))
 Q:∀(Γ:Gm) (X:Cx) (r:Nat) (l:Expr) (ops:List CmpOp) (rs:List Expr) (pos:Pos),Cok Γ Κ Φ X r->chkE Γ c (.Compare l ops rs pos)=true->PT X (.Compare l ops rs pos) (tDT X.K fun ρ=>evE Κ Φ c ρ>>=fun x=>z1i x.2)
 A:∀(Γ:Gm) (X:Cx) (r:Nat) (es:List Expr),Cok Γ Κ Φ X r->chkA Γ c es=true->PA X es (tDA X.K (evA Κ Φ c))
 O:∀(Γ:Gm) (X:Cx) (r:Nat) (e:Option Expr),Cok Γ Κ Φ X r->chkO Γ c e=true->PO X e (tDO X.K (evO Κ Φ c))
 W:∀(Γ:Gm) (X:Cx) (r:Nat) (e tg:Expr),Cok Γ Κ Φ X r->zkc c tg=true->chkW Γ c e=true->PI X tg e (tDW X.K (evW Κ Φ c))
 G:∀(Γ:Gm) (X:Cx) (r:Nat) (e:Expr),Cok Γ Κ Φ X r->chkG Γ c e=true->∃a,c=.tv a/\PE X e (tD X.K (evE Κ Φ a))
def isX:C->Nat
 |.and _ _|.or _ _|.not _|.tv _|.nil|.cons _ _|.rng _|.enum _=>2
 |.cmp _ _ _|.chain _ _ _ _ _|.isN _ _=>1
 |_=>0
variable {Κ:List D}{Φ:List Fn}{a b c:C}
section
variable {Γ:Gm}{e tg:Expr}{es:List Expr}{o:Option Expr}
theorem x_T (h:isX c<2):chkT Γ c e=false:=by cases c<;>first|rfl|exact absurd h (b6 2)
theorem x_A (h:isX c<2):chkA Γ c es=false:=by cases c<;>first|rfl|exact absurd h (b6 2)
theorem x_O (h:isX c<2):chkO Γ c o=false:=by cases c<;>first|rfl|exact absurd h (b6 2)
theorem x_W (h:isX c<2):chkW Γ c e=false:=by cases c<;>first|rfl|exact absurd h (b6 2)
theorem x_G (h:isX c<2):chkG Γ c e=false:=by cases c<;>first|rfl|exact absurd h (b6 2)
end
theorem Sd.q (hE:∀(Γ:Gm) (X:Cx) (r:Nat) (e:Expr),Cok Γ Κ Φ X r->chkE Γ c e=true->PE X e (tD X.K (evE Κ Φ c)))(hQ:∀(Γ:Gm) (X:Cx) (r:Nat) (l:Expr) (ops:List CmpOp) (rs:List Expr) (pos:Pos),Cok Γ Κ Φ X r->chkE Γ c (.Compare l ops rs pos)=true->PT X (.Compare l ops rs pos) (tDT X.K fun ρ=>evE Κ Φ c ρ>>=fun x=>z1i x.2))(hx:isX c<2):Sd Κ Φ c:=⟨hE,fun _ _ _ _ _ h=>ff (x_T hx) h,hQ,fun _ _ _ _ _ h=>ff (x_A hx) h,fun _ _ _ _ _ h=>ff (x_O hx) h,fun _ _ _ _ _ _ _ h=>ff (x_W hx) h,fun _ _ _ _ _ h=>ff (x_G hx) h⟩
theorem x_Q {Γ:Gm}{l:Expr}{ops:List CmpOp}{rs:List Expr}{pos:Pos}(h:isX c=0):chkE Γ c (.Compare l ops rs pos)=false:=by cases c<;>first|rfl|(cases h;done)
theorem Sd.x (hE:∀(Γ:Gm) (X:Cx) (r:Nat) (e:Expr),Cok Γ Κ Φ X r->chkE Γ c e=true->PE X e (tD X.K (evE Κ Φ c)))(hx:isX c=0):Sd Κ Φ c:=Sd.q hE (fun _ _ _ _ _ _ _ _ h=>ff (x_Q hx) h) (by rw[hx];exact Nat.zero_lt_two)
theorem zv2 {i:Nat}:Sd Κ Φ (.var i):=Sd.x (fun Γ X r e k h=>by obtain⟨x,p,rfl,h⟩:=z37 h;obtain⟨h1,h2,h3,h4⟩:=k.vis h;exact zu1 h1 h2 h3 h4) rfl
theorem zrj:Sd Κ Φ .non:=Sd.x (fun Γ X r e k h=>by obtain⟨_,_,rfl⟩:=z84 (uk h);exact z5t zqf fun _ _=>rfl) rfl
theorem p_bl {b:Bool}:Sd Κ Φ (.bl b):=Sd.x (fun Γ X r e k h=>by obtain⟨_,_,rfl⟩:=z84 (uk h);exact z5t zvb fun _ _=>rfl) rfl
theorem ztm {b:Int}:Sd Κ Φ (.int b):=Sd.x (fun Γ X r e k h=>by obtain⟨_,_,rfl⟩:=z84 (uk h);exact z5t zp7 fun _ _=>rfl) rfl
theorem zti {b:Str}:Sd Κ Φ (.str b):=Sd.x (fun Γ X r e k h=>by obtain⟨h1,h2⟩:=and2 h;obtain⟨_,_,rfl⟩:=z84 (uk h1);exact z5t zcz fun _ _=>⟨rfl,h2⟩) rfl
theorem zps {j:Nat}{x:Str}:Sd Κ Φ (.glob j x):=Sd.x (fun Γ X r e k h=>by
 obtain⟨y,p,rfl,h9⟩:=z37 h;obtain⟨h1,h2,h3⟩:=and3 h9;cases uo h1;obtain⟨g1,g2⟩:=k.gl h2;obtain⟨d,a,c1,c2,c3⟩:=k.cst j _ (uo h3);cases hi:imm d with
 |true=>
  refine PE.imp (zpr g1 c2 g2 hi c3) fun σ H Q hq=>?_
  have ee:evE Κ Φ (.glob j x)=fun _=>.ok (.fr,d):=by
   funext ρ
   show(match Κ[j]? with|some d=>if imm d=true then Res.ok (G.fr,d)else .no|none=>.no)=_;rw[c1];show(if imm d=true then Res.ok (G.fr,d)else .no)=_;rw[hi];rfl
  rw[ee]at hq;exact hq
 |false=>intro pins s σ H Q I zz;obtain⟨ρ,F,z,so,e,q⟩:=zz;have e:(match Κ[j]? with|some d=>if imm d=true then Res.ok (G.fr,d)else .no|none=>.no)=.ok z:=e;rw[c1]at e;have e:(if imm d=true then Res.ok (G.fr,d)else .no)=.ok z:=e;rw[hi]at e;cases e) rfl
theorem zrs {op:jc}(ia:Sd Κ Φ a)(ib:Sd Κ Φ b):Sd Κ Φ (.bin op a b):=Sd.x (fun Γ X r e k h=>by obtain⟨v,hv,h9⟩:=z03 h;obtain⟨p,rfl⟩:=zu8 hv;obtain⟨h1,h2,h3,h4⟩:=and4 h9;cases uk h1;exact ztb h2 (ia.E Γ X r _ k h3) (ib.E Γ X r _ k h4)) rfl
theorem zts (ia:Sd Κ Φ a):Sd Κ Φ (.neg a):=Sd.x (fun Γ X r e k h=>by obtain⟨⟨o,x⟩,hv,h9⟩:=z03 h;obtain⟨p,rfl⟩:=q_Un hv;obtain⟨h1,h2⟩:=and2 h9;cases uk h1;exact zth (ia.E Γ X r _ k h2)) rfl
theorem zq8 {Γ:Gm}{op:CmpOp}{e:Expr}(h:chkE Γ (.cmp op a b) e=true):∃l r p,e=.Compare l [op] [r] p/\z3m op=true/\fz op r=false/\chkE Γ a l=true/\chkE Γ b r=true:=by obtain⟨⟨l,o,rs⟩,hv,h9⟩:=z03 h;obtain⟨p,rfl⟩:=q_Cm hv;obtain⟨h1,h2⟩:=and2 h9;obtain⟨r,hr,h3⟩:=z03 h2;cases uk h1;cases z3z hr;obtain⟨h2,h3,h4,h5⟩:=and4 h3;exact⟨l,r,p,rfl,h2,z1n h3,h4,h5⟩
theorem zsd {op:CmpOp}(ia:Sd Κ Φ a)(ib:Sd Κ Φ b):Sd Κ Φ (.cmp op a b):=Sd.q (fun Γ X r e k h=>by
 obtain⟨_,_,_,rfl,h2,h3,h4,h5⟩:=zq8 h;exact zrk k.hu h2 h3 (ia.E Γ X r _ k h4) (ib.E Γ X r _ k h5)) (fun Γ X r l ops rs p k h=>by
 obtain⟨_,_,_,he,h2,h3,h4,h5⟩:=zq8 h;cases he;exact zrf k.hu h2 h3 (ia.E Γ X r _ k h4) (ib.E Γ X r _ k h5)) pb
theorem z8h {Γ:Gm}{op op':CmpOp}{e:Expr}(h:chkE Γ (.chain op op' a b c) e=true):∃l m r p,e=.Compare l [op,op'] [m,r] p/\z3m op=true/\z3m op'=true/\mq [op,op'] [m,r]=false/\chkE Γ a l=true/\chkE Γ b m=true/\chkE Γ c r=true:=by obtain⟨⟨l,o,rs⟩,hv,h9⟩:=z03 h;obtain⟨p,rfl⟩:=q_Cm hv;obtain⟨h1,h2⟩:=and2 h9;obtain⟨r,hr,h3⟩:=z03 h2;cases uk h1;cases zki hr;obtain⟨h2,h3,h4,h5,h6⟩:=and5 h3;obtain⟨h6,h7⟩:=and2 h6;exact⟨l,r.1,r.2,p,rfl,h2,h3,z1n h4,h5,h6,h7⟩
theorem zlo {op op':CmpOp}(ia:Sd Κ Φ a)(ib:Sd Κ Φ b)(ic:Sd Κ Φ c):Sd Κ Φ (.chain op op' a b c):=Sd.q (fun Γ X r e k h=>by
 obtain⟨_,_,_,_,rfl,h3,h4,h5,h6,h7,h8⟩:=z8h h;exact zka k.hu h3 h4 h5 (ia.E Γ X r _ k h6) (ib.E Γ X r _ k h7) (ic.E Γ X r _ k h8)) (fun Γ X r l ops rs p k h=>by
 obtain⟨_,_,_,_,he,h3,h4,h5,h6,h7,h8⟩:=z8h h;cases he;exact zmf k.hu h3 h4 h5 (ia.E Γ X r _ k h6) (ib.E Γ X r _ k h7) (ic.E Γ X r _ k h8)) pb
theorem zo0 {Γ:Gm}{o:CmpOp}{w:Const}{e:Expr}(h:((vCm e).any fun v=>decide (v.2.1=[o])&&(vOne v.2.2).any fun r=>decide (vCst r=some w)&&chkE Γ a v.1)=true):∃l k q p,e=.Compare l [o] [.Constant w k q] p/\chkE Γ a l=true:=by obtain⟨⟨l,o,rs⟩,hv,h9⟩:=z03 h;obtain⟨p,rfl⟩:=q_Cm hv;obtain⟨h1,h2⟩:=and2 h9;obtain⟨r,hr,h3⟩:=z03 h2;obtain⟨h4,h5⟩:=and2 h3;cases uk h1;cases z3z hr;obtain⟨_,_,rfl⟩:=z84 (uk h4);exact⟨_,_,_,_,rfl,h5⟩
theorem zs1 {ng:Bool}(ia:Sd Κ Φ a):Sd Κ Φ (.isN ng a):=Sd.q (fun Γ X r e k h=>by
 obtain⟨_,_,_,_,rfl,h2⟩:=zo0 h;exact zsn rfl (ia.E Γ X r _ k h2)) (fun Γ X r l ops rs p k h=>by
 obtain⟨_,_,_,_,he,h2⟩:=zo0 h;cases he;exact zuk rfl (ia.E Γ X r _ k h2)) pb
theorem z6c {f g:Expr->Bool}{o:BoolOp}{p:Pos}{xs:List Expr}(h:zee f g o p xs=true):(∃x y,xs=[x,y]/\f x=true/\g y=true)\/∃x y z r,xs=x::y::z::r/\f x=true/\g (.BoolOp o (y::z::r) p)=true:=by
 rcases xs with _|⟨x,_|⟨y,_|⟨z,xs⟩⟩⟩
 ·cases h
 ·cases h
 ·exact .inl ⟨x,y,rfl,(and2 h).1,(and2 h).2⟩
 ·exact .inr ⟨x,y,z,xs,rfl,(and2 h).1,(and2 h).2⟩
theorem zvh (ia:Sd Κ Φ a)(ib:Sd Κ Φ b):Sd Κ Φ (.and a b) where
 E:=fun Γ X r e k h=>by
  obtain⟨⟨o,xs,p⟩,hv,h9⟩:=z03 h;cases q_Bo hv;obtain⟨h1,h2⟩:=and2 h9;cases uk h1;rcases z6c h2 with⟨x,y,rfl,h3,h4⟩|⟨x,y,z,t,rfl,h3,h4⟩
  ·exact zra (ia.E Γ X r _ k h3) (zhx (ib.E Γ X r _ k h4))
  ·exact zra (ia.E Γ X r _ k h3) (ib.E Γ X r _ k h4)
 T:=fun Γ X r e k h=>by
  obtain⟨⟨o,xs,p⟩,hv,h9⟩:=z03 h;cases q_Bo hv;obtain⟨h1,h2⟩:=and2 h9;cases uk h1;rcases z6c h2 with⟨x,y,rfl,h3,h4⟩|⟨x,y,z,t,rfl,h3,h4⟩
  ·have w:=w_and (pos:=p) (ia.T Γ X r _ k h3).1 (zj3 (ib.T Γ X r _ k h4).1);exact⟨w.pt,fun _=>w⟩
  ·have w:=w_and (pos:=p) (ia.T Γ X r _ k h3).1 ((ib.T Γ X r _ k h4).2 ⟨_,_,_,rfl⟩);exact⟨w.pt,fun _=>w⟩
 Q:=fun _ _ _ _ _ _ _ _ h=>ff rfl h
 A:=fun _ _ _ _ _ h=>ff rfl h
 O:=fun _ _ _ _ _ h=>ff rfl h
 W:=fun _ _ _ _ _ _ _ h=>ff rfl h
 G:=fun _ _ _ _ _ h=>ff rfl h
theorem p_or (ia:Sd Κ Φ a)(ib:Sd Κ Φ b):Sd Κ Φ (.or a b) where
 E:=fun Γ X r e k h=>by
  obtain⟨⟨o,xs,p⟩,hv,h9⟩:=z03 h;cases q_Bo hv;obtain⟨h1,h2⟩:=and2 h9;cases uk h1;rcases z6c h2 with⟨x,y,rfl,h3,h4⟩|⟨x,y,z,t,rfl,h3,h4⟩
  ·exact d_or (ia.E Γ X r _ k h3) (zhx (ib.E Γ X r _ k h4))
  ·exact d_or (ia.E Γ X r _ k h3) (ib.E Γ X r _ k h4)
 T:=fun Γ X r e k h=>by
  obtain⟨⟨o,xs,p⟩,hv,h9⟩:=z03 h;cases q_Bo hv;obtain⟨h1,h2⟩:=and2 h9;cases uk h1;rcases z6c h2 with⟨x,y,rfl,h3,h4⟩|⟨x,y,z,t,rfl,h3,h4⟩
  ·have w:=w_or (pos:=p) (ia.T Γ X r _ k h3).1 (zmt (ib.T Γ X r _ k h4).1);exact⟨w.pt,fun _=>w⟩
  ·have w:=w_or (pos:=p) (ia.T Γ X r _ k h3).1 ((ib.T Γ X r _ k h4).2 ⟨_,_,_,rfl⟩);exact⟨w.pt,fun _=>w⟩
 Q:=fun _ _ _ _ _ _ _ _ h=>ff rfl h
 A:=fun _ _ _ _ _ h=>ff rfl h
 O:=fun _ _ _ _ _ h=>ff rfl h
 W:=fun _ _ _ _ _ _ _ h=>ff rfl h
 G:=fun _ _ _ _ _ h=>ff rfl h
theorem ztd (ia:Sd Κ Φ a):Sd Κ Φ (.not a) where
 E:=fun Γ X r e k h=>by obtain⟨⟨o,x⟩,hv,h9⟩:=z03 h;obtain⟨p,rfl⟩:=q_Un hv;obtain⟨h1,h2⟩:=and2 h9;cases uk h1;exact ztp (ia.E Γ X r _ k h2)
 T:=fun Γ X r e k h=>by obtain⟨⟨o,x⟩,hv,h9⟩:=z03 h;obtain⟨p,rfl⟩:=q_Un hv;obtain⟨h1,h2⟩:=and2 h9;cases uk h1;exact⟨z0w (ia.T Γ X r _ k h2).1,fun⟨_,_,_,z⟩=>by cases z⟩
 Q:=fun _ _ _ _ _ _ _ _ h=>ff rfl h
 A:=fun _ _ _ _ _ h=>ff rfl h
 O:=fun _ _ _ _ _ h=>ff rfl h
 W:=fun _ _ _ _ _ _ _ h=>ff rfl h
 G:=fun _ _ _ _ _ h=>ff rfl h
theorem zcn {e:Expr}(h:zhw e=true):∃l o r p,e=.Compare l o r p:=by cases e<;>first|exact ff rfl h|exact⟨_,_,_,_,rfl⟩
theorem p_tv (ia:Sd Κ Φ a):Sd Κ Φ (.tv a) where
 E:=fun _ _ _ _ _ h=>ff rfl h
 T:=fun Γ X r e k h=>by
  obtain⟨h1,h2⟩:=and2 h;rcases d8.mp h1 with h1|h1
  ·exact⟨ztt (ia.E Γ X r _ k h2) (z5b h1 _),fun⟨_,_,_,z⟩=>by subst z;cases h1⟩
  ·obtain⟨_,_,_,_,rfl⟩:=zcn h1;exact⟨ia.Q Γ X r _ _ _ _ k h2,fun⟨_,_,_,z⟩=>by cases z⟩
 Q:=fun _ _ _ _ _ _ _ _ h=>ff rfl h
 A:=fun _ _ _ _ _ h=>ff rfl h
 O:=fun Γ X r e k h=>by obtain⟨v,rfl,h⟩:=z03 h;exact znb (ia.E Γ X r _ k h)
 W:=fun Γ X r e tg k _ h=>w_tv (ia.E Γ X r _ k (and2 h).2)
 G:=fun Γ X r e k h=>⟨a,rfl,ia.E Γ X r _ k h⟩
theorem zsu (ic:Sd Κ Φ c)(ia:Sd Κ Φ a)(ib:Sd Κ Φ b):Sd Κ Φ (.ife c a b):=Sd.x (fun Γ X r e k h=>by obtain⟨v,hv,h9⟩:=z03 h;obtain⟨p,rfl⟩:=zs0 hv;obtain⟨h1,h2,h3⟩:=and3 h9;exact zum (ic.T Γ X r _ k h1).1 (ia.E Γ X r _ k h2) (ib.E Γ X r _ k h3)) rfl
theorem zre (ia:Sd Κ Φ a):Sd Κ Φ (.tup a):=Sd.x (fun Γ X r e k h=>by obtain⟨v,hv,h9⟩:=z03 h;obtain⟨_,_,rfl⟩:=zl4 hv;obtain⟨h1,h2⟩:=and2 h9;exact zun (ia.A Γ X r _ k h2) fun ρ ys e=>by rw[z3o Κ Φ h2 ρ ys e];exact zgw (uk h1)) rfl
theorem zuo (ia:Sd Κ Φ a):Sd Κ Φ (.lst a):=Sd.x (fun Γ X r e k h=>by obtain⟨v,hv,h9⟩:=z03 h;obtain⟨_,rfl⟩:=zsz hv;obtain⟨h1,h2⟩:=and2 h9;exact zsk (ia.A Γ X r _ k h2) fun ρ ys e=>by rw[z3o Κ Φ h2 ρ ys e];exact zgw (uk h1)) rfl
theorem zoo:Sd Κ Φ .dnew:=Sd.x (fun Γ X r e k h=>by obtain⟨⟨a,b⟩,hv,h9⟩:=z03 h;obtain⟨_,rfl⟩:=q_Di hv;obtain⟨h1,h2⟩:=and2 h9;cases z1q h1;cases z1q h2;exact zrb) rfl
theorem p_ix (ia:Sd Κ Φ a)(ib:Sd Κ Φ b):Sd Κ Φ (.ix a b):=Sd.x (fun Γ X r e k h=>by obtain⟨v,hv,h9⟩:=z03 h;obtain⟨_,rfl⟩:=zln hv;obtain⟨h1,h2,h3⟩:=and3 h9;exact d_ix k.hu h1 (ia.E Γ X r _ k h2) (ib.E Γ X r _ k h3)) rfl
theorem p_sl {lo hi:C}(ia:Sd Κ Φ a)(il:Sd Κ Φ lo)(ih:Sd Κ Φ hi):Sd Κ Φ (.sl a lo hi):=Sd.x (fun Γ X r e k h=>by obtain⟨⟨x,i⟩,hv,h9⟩:=z03 h;obtain⟨_,rfl⟩:=zln hv;obtain⟨⟨l,u,s⟩,hs,h8⟩:=z03 h9;obtain⟨_,rfl⟩:=zsr hs;obtain⟨h1,h2,h3,h4⟩:=and4 h8;cases d7.mp h1;exact d_sl (ia.E Γ X r _ k h2) (il.O Γ X r _ k h3) (ih.O Γ X r _ k h4)) rfl
theorem zr5 {j:Nat}{f:Str}{args:C}(ia:Sd Κ Φ args):Sd Κ Φ (.call j f args):=Sd.x (fun Γ X r e k h=>by
 obtain⟨⟨x,es⟩,hv,h9⟩:=z03 h;obtain⟨_,_,rfl⟩:=z1w hv;obtain⟨h1,h2,h3,h4,h5⟩:=and5 h9;obtain⟨y,es,rfl⟩:=z2s h5;obtain⟨h0,h1⟩:=and2 h1;cases uo h1;obtain⟨g1,g2⟩:=k.gl h2;obtain⟨m,kk,ps,c1,c2,c3⟩:=k.fns j _ _ (uo h3);refine PE.imp (zgy c3 (k.room h0) c2 (ia.A Γ X r _ k h4) (z0l h4) g1 g2 (z3o Κ Φ h4)) fun σ H Q hq=>?_
 have ee:evE Κ Φ (.call j x args)=fun ρ=>evA Κ Φ args ρ>>=fun ys=>m (ys.map (·.2))>>=fun r=>.ok (gJ r.2 (rtG r.1),r.2):=by
  funext ρ
  show(evA Κ Φ args ρ>>=fun ys=>match Φ[j]? with|some m=>m (ys.map (·.2))>>=fun r=>.ok (gJ r.2 (rtG r.1),r.2)|none=>.no)=_;rw[c1]
 rw[ee]at hq;exact hq) rfl
theorem p_bi {f:String}{args:C}(ia:Sd Κ Φ args):Sd Κ Φ (.bi f args):=Sd.x (fun Γ X r e k h=>by
 obtain⟨⟨x,es⟩,hv,h9⟩:=z03 h;obtain⟨_,_,rfl⟩:=z1w hv;obtain⟨h1,h2,h3,h4,h5⟩:=and5 h9;obtain⟨y,es,rfl⟩:=z2s h5;have h1:=uo h1;obtain⟨g1,g2,g3,g4⟩:=k.blt h2;obtain⟨h3,hcm⟩:=and2 h3;have hf:f∈["len","max","min","int","str"]:=c7.mp h3;have ha:=ia.A Γ X r _ k h4;simp only[ao,cr,or_false]at hf;rcases hf with rfl|rfl|rfl|rfl|rfl
 ·exact d_cB zkj g2 (by rw[h1];decide+kernel) ha (z0l h4) g1 g4 g3
 ·exact d_cB (zo1 (k.calm (or_l hcm rfl))) g2 (by rw[h1];decide+kernel) ha (z0l h4) g1 g4 g3
 ·exact d_cB (znt (k.calm (or_l hcm rfl))) g2 (by rw[h1];decide+kernel) ha (z0l h4) g1 g4 g3
 ·exact znw zj1 g2 (by rw[h1];decide+kernel) ha (z0l h4) g1 g4 g3
 ·exact znw ziy g2 (by rw[h1];decide+kernel) ha (z0l h4) g1 g4 g3) rfl
theorem p_fs {x:Str}(ia:Sd Κ Φ a)(ib:Sd Κ Φ b):Sd Κ Φ (.fs a x b):=Sd.x (fun Γ X r e k h=>by obtain⟨l,hv,h9⟩:=z03 h;obtain⟨_,rfl⟩:=q_Jo hv;obtain⟨⟨t1,t2,t3⟩,ht,h8⟩:=z03 h9;cases zky ht;obtain⟨⟨u,c1,s1⟩,hu,h7⟩:=z03 h8;obtain⟨⟨w,c2,s2⟩,hw,h6⟩:=z03 h7;obtain⟨h0,h1,h2,h3,h4⟩:=and5 h6;obtain⟨k1,k2,k3,k4⟩:=and4 h0;obtain⟨_,rfl⟩:=q_Fv hu;obtain⟨_,rfl⟩:=q_Fv hw;obtain⟨_,_,rfl⟩:=z84 (uk h1);cases uo k1;cases uo k3;cases d7.mp k2;cases d7.mp k4;exact d_fs h2 (ia.E Γ X r _ k h3) (ib.E Γ X r _ k h4)) rfl
theorem zri {f:String}(ia:Sd Κ Φ a):Sd Κ Φ (.agg f a):=Sd.x (fun Γ X r e k h=>by
 obtain⟨⟨x,es⟩,hv,h9⟩:=z03 h;obtain⟨_,_,rfl⟩:=z1w hv;obtain⟨h1,h2,h3,h4⟩:=and4 h9;obtain⟨y,hy,k5⟩:=z03 h4;obtain⟨k4,k6⟩:=and2 k5;cases z3z hy;have k1:=uo h1;obtain⟨g1,g2,g3,g4⟩:=k.blt h2;obtain⟨a,rfl,ha⟩:=ia.G Γ X r _ k k6;have k7:=z1n k4;obtain⟨h3,hcm⟩:=and2 h3;have hf:f∈aggs:=c7.mp h3;simp only[aggs,ao,cr,or_false]at hf;rcases hf with rfl|rfl|rfl|rfl
 ·exact zhc zmz g2 (by rw[k1];decide+kernel) k7 ha g1 g4 g3
 ·exact zhc zll g2 (by rw[k1];decide+kernel) k7 ha g1 g4 g3
 ·exact zh7 (zeh k.hu) g2 (by rw[k1];decide+kernel) k7 ha g1 g4 g3
 ·exact zh7 (zs9 (k.calm hcm)) g2 (by rw[k1];decide+kernel) k7 ha g1 g4 g3) rfl
theorem zuq {ts:List String}(ia:Sd Κ Φ a):Sd Κ Φ (.isT a ts):=Sd.x (fun Γ X r e k h=>by obtain⟨⟨x,es⟩,hv,h9⟩:=z03 h;obtain⟨_,_,rfl⟩:=z1w hv;obtain⟨h1,h2,h3⟩:=and3 h9;obtain⟨⟨y,t⟩,hy,k3⟩:=z03 h3;obtain⟨k4,h4,k5⟩:=and3 k3;obtain⟨T,hT,k6⟩:=z03 k5;cases zki hy;cases z3z hT;cases uo h1;obtain⟨g1,g2,g3,g4⟩:=k.blt h2;obtain⟨x2,p2,rfl,rfl,hb,kT⟩:=zkz k6;obtain⟨b1,b2,b3,b4⟩:=k.blt hb;exact zs4 g2 g1 b2 (zfc kT) b1 b4 b3 kT (z1n k4) (ia.E Γ X r _ k h4)) rfl
theorem p_mt {m:String}{args:C}(io:Sd Κ Φ a)(ia:Sd Κ Φ args):Sd Κ Φ (.mt m a args):=Sd.x (fun Γ X r e k h=>by
 obtain⟨⟨x,n,es,b⟩,hv,h9⟩:=z03 h;obtain⟨ap,cp,rfl,hb⟩:=q_Mt hv;obtain⟨h0,h6,h7,h8⟩:=and4 h9;obtain⟨h1,h2,h3,h4,h5⟩:=and5 h0;obtain⟨y,es,rfl⟩:=z2s h8;cases uo h1;have k4:(ap.endLine==cp.line)=true:=hb.symm.trans h4;have ho:=io.E Γ X r _ k h6;have ha:=ia.A Γ X r _ k h7;have hm:m∈["get","join","partition","find"]:=c7.mp h2;simp only[cr,ao,or_false]at hm;rcases hm with rfl|rfl|rfl|rfl
 ·exact d_mt PySem.F.plainAttrs_dict PySem.F.slot_dict_get PySem.F.type_dict_get (zu7 k.hu) (fun _ _ _ _ _ _ r e=>zq4 r e) ho ha h3 (z0l h7) (uk h5) k4
 ·exact d_mt PySem.F.plainAttrs_str PySem.F.slot_str_join PySem.F.type_str_join zpk (fun _ _ _ _ _ _ r e=>zme r e) ho ha h3 (z0l h7) (uk h5) k4
 ·exact d_mt PySem.F.plainAttrs_str PySem.F.slot_str_partition PySem.F.type_str_partition zup (fun _ _ _ _ _ _ r e=>zpy r e) ho ha h3 (z0l h7) (uk h5) k4
 ·exact d_mt PySem.F.plainAttrs_str PySem.F.slot_str_find PySem.F.type_str_find zve (fun _ _ _ _ _ _ r e=>zna r e) ho ha h3 (z0l h7) (uk h5) k4) rfl
theorem zu2 {Γ:Gm}{X:Cx}{ifs:List Expr}{n:Nat}(ic:Sd Κ Φ c)(k:Cok Γ Κ Φ X n)(h:ifsB (isNl c) (fun t=>chkT Γ c t) ifs=true):PTs X ifs (tDT X.K (evT Κ Φ c)):=by
 cases ifs with
 |nil=>
  have:c=.nil:=by cases c<;>first|exact ff rfl h|rfl
  subst this;refine fun pins s σ H Q I q=>zlr pins s σ H Q I ?_;obtain⟨ρ,F,b,so,e,q⟩:=q;cases e;exact q H (Same.refl H)
 |cons t r=>obtain⟨h1,h2⟩:=and2 h;cases z1q h1;exact zk5 (ic.T Γ X n t k h2).1
theorem sC {nt:Nat}{js:List Nat}{N':List Str}{tg:Tg}{it cond elt:C}(ii:Sd Κ Φ it)(ic:Sd Κ Φ cond)(ie:Sd Κ Φ elt){Γ:Gm}{X:Cx}{r:Nat}{e:Expr}(k:Cok Γ Κ Φ X r)(h:chkE Γ (.comp nt js N' tg it cond elt) e=true):
  ∃el t i ifs scope pos,e=.ListComp el [⟨t,i,ifs,0⟩] scope pos/\BlkScope X scope N' nt js/\(∀i∈tgIx tg,i<nt)/\PI X t i (tDW X.K (evW Κ Φ it))/\(∀C fp s H,PG (blk X scope N' C fp s H) t (tDG X.K tg))/\(∀C fp s H,PTs (blk X scope N' C fp s H) ifs (tDT X.K (evT Κ Φ cond)))/\(∀C fp s H,PE (blk X scope N' C fp s H) el (tD X.K (evE Κ Φ elt)))/\(∀x,e9 i X.env x=pure x)/\Γ.cm=true:=by
 obtain⟨⟨el,gs,scope⟩,hv,h9⟩:=z03 h;obtain⟨pos,rfl⟩:=q_LC hv;obtain⟨⟨t,i,ifs,kk⟩,hg,h9⟩:=z03 h9;cases z3z hg;obtain⟨h0,h6,h7,h8,h9⟩:=and5 h9;obtain⟨h1,h2,h3,h4,h5⟩:=and5 h0;obtain⟨hcm,h1⟩:=and2 h1;cases uo h1;have h2:=ax.mp h2;have hB:BlkScope X scope N' nt js:=zp8 k.hN k.hs h3;have kb:=fun C fp s H=>k.blk (N':=N') hB.kind (uk h5) C fp s H;exact⟨el,t,i,ifs,scope,pos,rfl,hB,fun i hi=>uk (h2 i hi),ii.W Γ X r _ t k (and2 h6).2 h7,fun C fp s H=>zf1 (kb C fp s H) (and2 h6).1,fun C fp s H=>zu2 ic (kb C fp s H) h8,fun C fp s H=>ie.E _ _ r _ (kb C fp s H) h9,z5z h4 _,hcm⟩
theorem zqc {nt:Nat}{js:List Nat}{N':List Str}{tg:Tg}{it cond elt:C}(ii:Sd Κ Φ it)(ic:Sd Κ Φ cond)(ie:Sd Κ Φ elt):Sd Κ Φ (.comp nt js N' tg it cond elt):=Sd.x (fun Γ X r e k h=>by obtain⟨el,t,i,ifs,scope,pos,rfl,hB,h2,hi,hg,ht,he,hs,hcm⟩:=sC ii ic ie k h;exact(zht (k.calm hcm) hB h2 hi hg ht he hs).1) rfl
theorem zj0 {Γ:Gm}{i:Nat}{e:Expr}(h:((vMt e).any fun m=>hd1 (visB Γ i) m.1&&(m.2.1==("items":Str))&&m.2.2.1.isEmpty&&m.2.2.2)=true):∃x p ap cp,e=.Call (.Attribute (.Name x p) "items" ap) [] [] cp/\visB Γ i x=true/\(ap.endLine==cp.line)=true:=by obtain⟨⟨x,n,es,b⟩,hv,h9⟩:=z03 h;obtain⟨ap,cp,rfl,hb⟩:=q_Mt hv;obtain⟨h1,h2,h3,h4⟩:=and4 h9;obtain⟨y,p,hy,h1⟩:=z37 h1;cases hy;cases uo h2;cases z1q h3;exact⟨y,p,ap,cp,rfl,h1,hb.symm.trans h4⟩
theorem ztu (ia:Sd Κ Φ a):Sd Κ Φ (.upr a):=Sd.x (fun Γ X r e k h=>by obtain⟨⟨x,n,es,b⟩,hv,h9⟩:=z03 h;obtain⟨ap,cp,rfl,hb⟩:=q_Mt hv;obtain⟨h0,h1,h2⟩:=and3 h9;obtain⟨h3,h4,h5⟩:=and3 h0;cases z1q h1;cases uo h3;exact zv4 (ia.E Γ X r _ k h2) h4 (hb.symm.trans h5)) rfl
theorem zto (ia:Sd Κ Φ a)(ib:Sd Κ Φ b):Sd Κ Φ (.spl a b):=Sd.x (fun Γ X r e k h=>by obtain⟨⟨x,n,es,bb⟩,hv,h9⟩:=z03 h;obtain⟨ap,cp,rfl,hb⟩:=q_Mt hv;obtain⟨h0,h1,h2⟩:=and3 h9;obtain⟨h3,h4,h5⟩:=and3 h0;obtain⟨y,hy,h6⟩:=z03 h2;cases z3z hy;obtain⟨h7,h8⟩:=and2 h6;cases uo h3;exact zu4 (ia.E Γ X r _ k h1) (ib.E Γ X r _ k h8) h4 (z1n h7) (hb.symm.trans h5)) rfl
theorem zju {i:Nat}:Sd Κ Φ (.sortI i):=Sd.x (fun Γ X r e k h=>by obtain⟨⟨x,es⟩,hv,h9⟩:=z03 h;obtain⟨_,_,rfl⟩:=z1w hv;obtain⟨h1,h2,h3⟩:=and3 h9;obtain⟨y,hy,k3⟩:=z03 h3;cases z3z hy;obtain⟨x2,p2,ap,cp,rfl,k4,k5⟩:=zj0 k3;obtain⟨hcm,h1⟩:=and2 h1;cases uo h1;obtain⟨g1,g2,g3,g4⟩:=k.blt h2;obtain⟨v1,v2,v3,v4⟩:=k.vis k4;exact zl2 (k.calm hcm) g2 (by show cv ("sorted":Str)=_;decide+kernel) g1 g4 g3 v1 v2 v3 v4 k5) rfl
theorem zs6 {b:Bool}{x:Str}:Sd Κ Φ (.isE b x):=Sd.x (fun Γ X r e k h=>by obtain⟨⟨f,es⟩,hv,h9⟩:=z03 h;obtain⟨_,_,rfl⟩:=z1w hv;obtain⟨h1,h2,h3⟩:=and3 h9;obtain⟨⟨y1,y2⟩,hy,h4⟩:=z03 h3;cases zki hy;obtain⟨⟨n,c⟩,hz,h5⟩:=z03 h4;obtain⟨h6,h7⟩:=and2 h5;obtain⟨n',p1,hn,h6⟩:=z37 h6;obtain⟨C,p2,hC,h7⟩:=z37 h7;cases hn;cases hC;obtain⟨a1,a2,a3,a4⟩:=and4 h6;obtain⟨b1,b2,b3⟩:=and3 h7;cases uo h1;cases uo a1;cases uo b1;obtain⟨g1,g2,g3,g4⟩:=k.blt h2;obtain⟨g5,g6⟩:=k.gl b2;obtain⟨a,oe,Cc,e1,e2,e3,e4⟩:=k.xc n c hz;obtain⟨A,v,u,m1,xa,xv,sb,rv,ru,mC⟩:=k.xk.sub c x b b3;rw[m1]at e4;cases e4;exact zt8 g2 g1 e1 (by rw[k.hs];exact uo a2) (z1n a3) e2 e3 g5 mC rv ru g6 xa xv sb) rfl
theorem zs5:Sd Κ Φ .nil where
 E:=fun _ _ _ _ _ h=>ff rfl h
 T:=fun _ _ _ _ _ h=>ff rfl h
 Q:=fun _ _ _ _ _ _ _ _ h=>ff rfl h
 A:=fun Γ X r es k h=>by cases z1q h;exact zp1
 O:=fun Γ X r e k h=>by cases d7.mp h;exact z1d
 W:=fun _ _ _ _ _ _ _ h=>ff rfl h
 G:=fun _ _ _ _ _ h=>ff rfl h
theorem zqo (ia:Sd Κ Φ a)(ib:Sd Κ Φ b):Sd Κ Φ (.cons a b) where
 E:=fun _ _ _ _ _ h=>ff rfl h
 T:=fun _ _ _ _ _ h=>ff rfl h
 Q:=fun _ _ _ _ _ _ _ _ h=>ff rfl h
 A:=fun Γ X r es k h=>by
  cases es with
  |nil=>cases h
  |cons e es=>obtain⟨h1,h2,h3⟩:=and3 h;exact zi9 (z1n h1) (ia.E Γ X r _ k h2) (ib.A Γ X r _ k h3)
 O:=fun _ _ _ _ _ h=>ff rfl h
 W:=fun _ _ _ _ _ _ _ h=>ff rfl h
 G:=fun _ _ _ _ _ h=>ff rfl h
theorem zsf (ia:Sd Κ Φ a):Sd Κ Φ (.rng a) where
 E:=fun _ _ _ _ _ h=>ff rfl h
 T:=fun _ _ _ _ _ h=>ff rfl h
 Q:=fun _ _ _ _ _ _ _ _ h=>ff rfl h
 A:=fun _ _ _ _ _ h=>ff rfl h
 O:=fun _ _ _ _ _ h=>ff rfl h
 W:=fun Γ X r e tg k _ h=>by
  obtain⟨⟨x,es⟩,hv,h9⟩:=z03 h;obtain⟨_,_,rfl⟩:=z1w hv;obtain⟨h1,h2,h3,h4⟩:=and4 h9;obtain⟨h4,h5⟩:=and2 h4;cases uo h1;obtain⟨g1,g2,g3,g4⟩:=k.blt h2;have hs:=ax.mp (z0l h3);have hl:=z3o Κ Φ h3;have ha:=ia.A Γ X r _ k h3;rcases es with _|⟨x,_|⟨y,_|⟨z,_|⟨w,es⟩⟩⟩⟩
  ·cases h4
  ·exact zr2 g2 g1 (z1n (hs x (.head _))) ha hl
  ·exact zqk g2 g1 (z1n (hs x (.head _))) (z1n (hs y (.tail _ (.head _)))) ha hl
  ·exact zne g2 g1 (z1n (hs x (.head _))) (z1n (hs y (.tail _ (.head _)))) (z1n (hs z (.tail _ (.tail _ (.head _))))) ha hl
  ·exact absurd (uk h5) (Nat.not_le.mpr (my (my (my (rf _)))))
 G:=fun _ _ _ _ _ h=>ff rfl h
theorem zif {e:Expr}(h:isTup e=true):∃a b c,e=.Tuple a b c:=by cases e<;>first|exact ff rfl h|exact⟨_,_,_,rfl⟩
theorem zie {Γ:Gm}{e:Expr}(h:chkW Γ (.enum a) e=true):∃y q p,e=.Call (.Name "enumerate" q) [y] [] p/\bltB Γ "enumerate"=true/\isStar y=false/\chkE Γ a y=true:=by obtain⟨⟨x,es⟩,hv,h9⟩:=z03 h;obtain⟨q,p,rfl⟩:=z1w hv;obtain⟨h1,h2,h3⟩:=and3 h9;obtain⟨y,hy,h3⟩:=z03 h3;cases z3z hy;cases uo h1;exact⟨y,q,p,rfl,h2,z1n (and2 h3).1,(and2 h3).2⟩
theorem zmj (ia:Sd Κ Φ a):Sd Κ Φ (.enum a) where
 E:=fun _ _ _ _ _ h=>ff rfl h
 T:=fun _ _ _ _ _ h=>ff rfl h
 Q:=fun _ _ _ _ _ _ _ _ h=>ff rfl h
 A:=fun _ _ _ _ _ h=>ff rfl h
 O:=fun _ _ _ _ _ h=>ff rfl h
 W:=fun Γ X r e tg k ht h=>by obtain⟨y,q,p,rfl,h2,h3,h4⟩:=zie h;obtain⟨_,_,_,rfl⟩:=zif ht;obtain⟨g1,g2,g3,g4⟩:=k.blt h2;exact zi8 g2 g1 h3 (ia.E Γ X r _ k h4)
 G:=fun _ _ _ _ _ h=>ff rfl h
theorem all (c:C):Sd Κ Φ c:=by
 induction c with
 |var=>exact zv2
 |non=>exact zrj
 |bl=>exact p_bl
 |int=>exact ztm
 |str=>exact zti
 |glob=>exact zps
 |bin _ _ _ ia ib=>exact zrs ia ib
 |neg _ ia=>exact zts ia
 |cmp _ _ _ ia ib=>exact zsd ia ib
 |chain _ _ _ _ _ ia ib ic=>exact zlo ia ib ic
 |isN _ _ ia=>exact zs1 ia
 |and _ _ ia ib=>exact zvh ia ib
 |or _ _ ia ib=>exact p_or ia ib
 |not _ ia=>exact ztd ia
 |ife _ _ _ ic ia ib=>exact zsu ic ia ib
 |tup _ ia=>exact zre ia
 |lst _ ia=>exact zuo ia
 |dnew=>exact zoo
 |ix _ _ ia ib=>exact p_ix ia ib
 |sl _ _ _ ia ib ic=>exact p_sl ia ib ic
 |call _ _ _ ia=>exact zr5 ia
 |bi _ _ ia=>exact p_bi ia
 |agg _ _ ia=>exact zri ia
 |isT _ _ ia=>exact zuq ia
 |mt _ _ _ ia ib=>exact p_mt ia ib
 |fs _ _ _ ia ib=>exact p_fs ia ib
 |comp _ _ _ _ _ _ _ ia ib ic=>exact zqc ia ib ic
 |sortI=>exact zju
 |upr _ ia=>exact ztu ia
 |spl _ _ ia ib=>exact zto ia ib
 |rng _ ia=>exact zsf ia
 |enum _ ia=>exact zmj ia
 |tv _ ia=>exact p_tv ia
 |isE=>exact zs6
 |nil=>exact zs5
 |cons _ _ ia ib=>exact zqo ia ib
end
section
variable (Κ:List D)(Φ:List Fn)
theorem za3 {el:Expr}{gs:List jf}{s:Scope}{p px:Pos}{t:Str}{n:Nat}{env:Env}:km (.ListComp el gs s p) (some (.Name t px)) n env=pure (env.blockKind==.function&&env.kindOf t==some .local&&px.line==p.line&& !(s.names.any fun(n,k)=>n==t&&(k==.local||k==.cell))):=rfl
theorem zjg {Γ:Gm}{c:C}{el:Expr}{gs:List jf}{s:Scope}{p:Pos}(hn:isCI c=false)(h:chkE Γ c (.ListComp el gs s p)=true):∃nt js N' tg it cond elt,c=.comp nt js N' tg it cond elt:=by cases c<;>first|exact ff rfl h|exact⟨_,_,_,_,_,_,_,rfl⟩|(cases hn;done)
theorem zlj {Γ:Gm}{c:C}{el:Expr}{gs:List jf}{s:Scope}{p:Pos}(h:chkE Γ c (.SetComp el gs s p)=true):False:=by cases c<;>exact ff rfl h
theorem zjj {Γ:Gm}{c:C}{el el2:Expr}{gs:List jf}{s:Scope}{p:Pos}(h:chkE Γ c (.DictComp el el2 gs s p)=true):False:=by cases c<;>exact ff rfl h
theorem sAsg {Γ:Gm}{X:Cx}{r:Nat}(k:Cok Γ Κ Φ X r){i:Nat}{x:Str}{px pos:Pos}{c:C}{v:Expr}(h1:locB Γ i x=true)(hn:isCI c=false)(h2:chkE Γ c v=true):PS X (.Assign [.Name x px] v pos) (tDS X.K fun ρ=>evE Κ Φ c ρ>>=fun x=>.ok (.nx (ρ.set i (some (z1s x))))):=by
 obtain⟨l1,l2,l3⟩:=k.loc h1;have nd:X.N.Nodup:=by rw[k.hN];exact k.nd
 cases hc:z2m v with
 |false=>exact zph nd l1 l2 l3 (z2g hc _ _ _) ((all c).E Γ X r _ k h2)
 |true=>
  cases v<;>first|(cases hc;done)|skip
  ·rename_i el gs s p;cases hb:(X.env.blockKind==.function&&X.env.kindOf x==some .local&&px.line==p.line&& !(s.names.any fun(n,k)=>n==x&&(k==.local||k==.cell)))with
   |false=>exact zph nd l1 l2 l3 (by rw[za3,hb]) ((all c).E Γ X r _ k h2)
   |true=>
    obtain⟨nt,js,N',tg,it,cond,elt,rfl⟩:=zjg hn h2;obtain⟨el',t,i',ifs,scope,pos',e,hB,h0,hi,hg,ht,he,hs,hcm⟩:=sC (all it) (all cond) (all elt) k h2;cases e;have hl:X.env.scope.names.lookup x=some .local:=by simp only[ak,beq_iff_eq]at hb;exact hb.1.1.2
    refine PS.imp (zfw (k.calm hcm) nd l1 hl hB hi hg ht he (by rw[za3,hb]) hs) fun D σ H q=>?_;exact zib (fa:=zc3 nt js tg (evW Κ Φ it) (evT Κ Φ cond) (evE Κ Φ elt)) (fun σ H Q z=>(zht (pos:=p) (k.calm hcm) hB h0 hi hg ht he hs).2 σ H Q z) D σ H q
  ·exact(zlj h2).elim
  ·exact(zjj h2).elim
theorem sFF {Γ:Gm}{X:Cx}{r:Nat}(k:Cok Γ Κ Φ X r){c:C}{ie tg:Expr}(hh:chkF Γ c tg ie=true):PI X tg ie (tDF X.K (evF Κ Φ c))/\zg2 ie=true:=by
 obtain⟨ht,h⟩:=and2 hh;have hw:=(all (Κ:=Κ) (Φ:=Φ) c).W Γ X r ie tg k ht h;cases c with
 |tv a=>
  have hal:=PI.orD (k:=fun ρ=>isAl Κ Φ (.tv a) ρ) (f_al ((all a).E Γ X r _ k (and2 h).2)) (zo4 hw);refine⟨?_,(and2 h).1⟩;cases a with
  |var i=>obtain⟨x,p,rfl,h2⟩:=z37 (and2 h).2;obtain⟨v1,v2,v3,v4⟩:=k.vis h2;exact PI.orD (k:=fun ρ=>ownB ρ i) (zuc v1 v2 v3 v4) hal
  |_=>exact hal
 |enum a=>obtain⟨y,q,p,rfl,h2,h3,h4⟩:=zie h;obtain⟨_,_,_,rfl⟩:=zif ht;obtain⟨g1,g2,g3,g4⟩:=k.blt h2;exact⟨zo8 g2 g1 h3 ((all a).E Γ X r _ k h4),rfl⟩
 |rng a=>refine⟨zo4 hw,?_⟩;obtain⟨v,hv,_⟩:=z03 h;obtain⟨_,_,rfl⟩:=z1w hv;rfl
 |_=>exact ff rfl h
theorem z72 {a:List Expr}{b:Nat}{c:Pos}{v:Expr}{env:Env}(h:isTup v=false):qa [.Tuple a b c] v env=pure none:=by cases v<;>first|rfl|(cases h;done)
theorem q_As {s:Stmt}{v:List Expr×Expr}(h:vAs s=some v):∃p,s=.Assign v.1 v.2 p:=v_of (q:=fun v=>∃p,s=.Assign v.1 v.2 p) h (by cases s<;>first|exact .inl rfl|exact .inr ⟨_,rfl,_,rfl⟩)
theorem q_Ex {s:Stmt}{v:Expr}(h:vEx s=some v):∃p,s=.Expr v p:=v_of (q:=fun v=>∃p,s=.Expr v p) h (by cases s<;>first|exact .inl rfl|exact .inr ⟨_,rfl,_,rfl⟩)
theorem q_Rt {s:Stmt}{v:Option Expr}(h:vRt s=some v):∃p,s=.Return v p:=v_of (q:=fun v=>∃p,s=.Return v p) h (by cases s<;>first|exact .inl rfl|exact .inr ⟨_,rfl,_,rfl⟩)
theorem q_If {s:Stmt}{v:Expr×List Stmt×List Stmt}(h:vIf s=some v):∃p,s=.If v.1 v.2.1 v.2.2 p:=v_of (q:=fun v=>∃p,s=.If v.1 v.2.1 v.2.2 p) h (by cases s<;>first|exact .inl rfl|exact .inr ⟨_,rfl,_,rfl⟩)
theorem q_Fo {s:Stmt}{v:Expr×Expr×List Stmt×List Stmt}(h:vFo s=some v):∃p,s=.For v.1 v.2.1 v.2.2.1 v.2.2.2 p:=v_of (q:=fun v=>∃p,s=.For v.1 v.2.1 v.2.2.1 v.2.2.2 p) h (by cases s<;>first|exact .inl rfl|exact .inr ⟨_,rfl,_,rfl⟩)
structure Ss (s:S):Prop where
 R:∀(Γ:Gm) (X:Cx) (r:Nat) (st:Stmt),Cok Γ Κ Φ X r->gv (model X.prog X.w) X.A X.env X.xe->chk1 Γ s st=true->PS X st (tDS X.K (evS Κ Φ s))
 L:∀(Γ:Gm) (X:Cx) (r:Nat) (st:List Stmt),Cok Γ Κ Φ X r->gv (model X.prog X.w) X.A X.env X.xe->chkL Γ s st=true->PSs X st (tDS X.K (evS Κ Φ s))
def isSq:S->Bool
 |.nil=>false
 |.seq _ _=>false
 |_=>true
variable {Κ:List D}{Φ:List Fn}
theorem Ss.x {s:S}(h:∀(Γ:Gm) (X:Cx) (r:Nat) (st:Stmt),Cok Γ Κ Φ X r->gv (model X.prog X.w) X.A X.env X.xe->chk1 Γ s st=true->PS X st (tDS X.K (evS Κ Φ s)))(hx:isSq s=true):Ss Κ Φ s:=⟨h,by cases s<;>first|(cases hx;done)|exact fun _ _ _ _ _ _ h=>ff rfl h⟩
theorem zsa {t:Tg}{e:C}:Ss Κ Φ (.asg t e):=Ss.x (fun Γ X r st k hp h=>by
 obtain⟨⟨ts,v⟩,hv,h9⟩:=z03 h;obtain⟨p,rfl⟩:=q_As hv;obtain⟨x,hx,h8⟩:=z03 h9;cases z3z hx;obtain⟨h1,h2,h3,h4⟩:=and4 h8;cases t with
 |nm i=>obtain⟨y,q,rfl,h5⟩:=z37 h1;exact sAsg Κ Φ k h5 (z1n h2) h4
 |tp is=>obtain⟨k1,k2⟩:=and2 (show(!z2m v&& !isTup v)=true from h3);obtain⟨es,hes,_⟩:=z03 (and2 h1).2;obtain⟨_,_,rfl⟩:=zl4 hes;exact zpj (zf1 k (t:=.tp is) h1) ((all e).E Γ X r _ k h4) ((show p9 [_] _ _ _=km _ _ _ _ from rfl).trans (z2g (z1n k1) _ _ _)) (z72 (z1n k2)) rfl) rfl
theorem zkx {i:Nat}{a b:C}:Ss Κ Φ (.setIx i a b):=Ss.x (fun Γ X r st k hp h=>by obtain⟨⟨ts,v⟩,hv,h9⟩:=z03 h;obtain⟨p,rfl⟩:=q_As hv;obtain⟨x,hx,h8⟩:=z03 h9;cases z3z hx;obtain⟨⟨y,ie⟩,hy,h7⟩:=z03 h8;obtain⟨_,rfl⟩:=zln hy;obtain⟨h1,h2,h3,h4,h5⟩:=and5 h7;obtain⟨z,q,hz,h6⟩:=z37 h1;cases hz;obtain⟨v1,v2,v3,v4⟩:=k.vis h6;exact zrp k.hu v1 v2 v3 v4 (z1n h3) ((all a).E Γ X r _ k h4) ((all b).E Γ X r _ k h5)) rfl
theorem zst {m:String}{i:Nat}{args:C}:Ss Κ Φ (.mut m i args):=Ss.x (fun Γ X r st k hp h=>by
 obtain⟨c,hv,h9⟩:=z03 h;obtain⟨p,rfl⟩:=q_Ex hv;obtain⟨⟨x,n,es,b⟩,hm,h8⟩:=z03 h9;obtain⟨ap,cp,rfl,hb⟩:=q_Mt hm;obtain⟨h0,h6,h7⟩:=and3 h8;obtain⟨h1,h2,h3,h4,h5⟩:=and5 h0;obtain⟨z,q,hz,k1⟩:=z37 h1;cases hz;obtain⟨y,es,rfl⟩:=z2s h6;cases uo h2;have hm:m∈["append","insert","pop"]:=c7.mp h3;simp only[cr,ao,or_false]at hm;obtain⟨v1,v2,v3,v4⟩:=k.vis k1;rcases hm with rfl|rfl|rfl
 ·exact zf8 v1 v2 v3 v4 ((all args).A Γ X r _ k h7) (z0l h7) (uk h5) (hb.symm.trans h4)
 ·exact zg7 v1 v2 v3 v4 ((all args).A Γ X r _ k h7) (z0l h7) (uk h5) (hb.symm.trans h4)
 ·exact zm9 v1 v2 v3 v4 ((all args).A Γ X r _ k h7) (z0l h7) (uk h5) (hb.symm.trans h4)) rfl
theorem zu9 {e:C}:Ss Κ Φ (.ret e):=Ss.x (fun Γ X r st k hp h=>by
 obtain⟨o,hv,h9⟩:=z03 h;obtain⟨p,rfl⟩:=q_Rt hv;obtain⟨v,rfl,h8⟩:=z03 h9;have g:=(all (Κ:=Κ) (Φ:=Φ) e).E Γ X r _ k h8;cases e with
 |var i=>obtain⟨x,q,rfl,h7⟩:=z37 h8;obtain⟨v1,v2,v3,v4⟩:=k.vis h7;exact zig v1 v2 v3 v4
 |_=>exact zub g) rfl
theorem q_if {c:C}{a b:S}(ia:Ss Κ Φ a)(ib:Ss Κ Φ b):Ss Κ Φ (.ifS c a b):=Ss.x (fun Γ X r st k hp h=>by obtain⟨v,hv,h9⟩:=z03 h;obtain⟨p,rfl⟩:=q_If hv;obtain⟨h1,h2,h3⟩:=and3 h9;exact s_if ((all c).T Γ X r _ k h1).1 (ia.L Γ X r _ k hp h2) (ib.L Γ X r _ k hp h3)) rfl
theorem zpd {t:Tg}{it:C}{b:S}(ib:Ss Κ Φ b):Ss Κ Φ (.for_ t it b):=Ss.x (fun Γ X r st k hp h=>by obtain⟨hcm,h⟩:=and2 h;obtain⟨⟨t,i,B,o⟩,hv,h9⟩:=z03 h;obtain⟨p,rfl⟩:=q_Fo hv;obtain⟨h1,h2,h3,h4⟩:=and4 h9;cases z1q h4;obtain⟨hf,hn⟩:=sFF Κ Φ k h2;exact zrm hp (k.calm hcm) hf (zf1 k h1) (ib.L Γ X r _ k hp h3) (z5z hn _)) rfl
theorem Cok.wish {Γ:Gm}{X:Cx}{r:Nat}(k:Cok Γ Κ Φ X r)(E:Value->aa->Prop):Cok Γ Κ Φ (X.wish E) r:=⟨k.hN,k.hs,k.nd,k.fn,k.kind,k.free,k.fns,k.cst,k.fnx,k.room,k.calm,k.hu,k.fun_,k.fx0,fun n c z=>by obtain⟨a,oe,C,h1,h2,h3,h4⟩:=k.xc n c z;exact⟨a,oe,C,h1,fun p σ H s I=>h2 p σ H s I.unwish,h3,h4⟩,k.xk⟩
theorem Cok.inX {Γ:Gm}{X:Cx}{r i:Nat}{n c:Str}{a C:Addr}{oe:Obj}(k:Cok Γ Κ Φ X r)(nd:(Γ.N.set i "").Nodup)(hc:oe.cls=.ref C)(hm:X.mg c=some (.ref C)):Cok {Γ with N:=Γ.N.set i "",cm:=false,xc:=some (n,c),fns:=[]} Κ Φ (Mi.inX X i n a oe) r where
 hN:=by show X.N.set i ""=Γ.N.set i "";rw[k.hN]
 hs:=k.hs
 nd:=nd
 fn:=k.fn
 kind:=k.kind
 free:=k.free
 fns:=fun j f n e=>by simp at e
 cst:=k.cst
 fnx:=fun j f n e=>by simp at e
 room:=fun z=>by cases z
 calm:=fun z=>by cases z
 hu:=k.hu
 fun_:=k.fun_
 fx0:=fun z=>by cases z
 xc:=fun n' c' z=>by cases z;exact⟨a,oe,C,rfl,fun _ _ _ _ I=>(I.pin (a,oe) (gz _ au)).1,hc,hm⟩
 xk:=⟨k.xk.sub,k.xk.rs,k.xk.hnd⟩
theorem q_Eh {h:ExceptHandler}{v:Str×Str×List Stmt}(e:vEh h=some v):∃np hp,h=.ExceptHandler (some (.Name v.1 np)) (some v.2.1) v.2.2 hp:=by
 unfold vEh at e;split at e
 ·cases e;exact⟨_,_,rfl⟩
 ·cases e
theorem q_Tr {s:Stmt}{v:Str×List Expr×Str×Str×List Stmt}(e:vTr s=some v):∃p cp ep np hp pos,s=.Try [.Expr (.Call (.Name v.1 p) v.2.1 [] cp) ep] [.ExceptHandler (some (.Name v.2.2.1 np)) (some v.2.2.2.1) v.2.2.2.2 hp] [] [] pos:=by
 unfold vTr at e;split at e
 ·obtain⟨u,h1,h2⟩:=iu.mp e;obtain⟨x,h3,rfl⟩:=dh.mp h2;obtain⟨q,p,rfl⟩:=z1w h1;obtain⟨np,hp,rfl⟩:=q_Eh h3;exact⟨_,_,_,_,_,_,rfl⟩
 ·cases e
theorem q_Ra {s:Stmt}{v:Str×List Expr}(e:vRa s=some v):∃np cp pos,s=.Raise (some (.Call (.Name v.1 np) v.2 [] cp)) none pos:=by
 unfold vRa at e;split at e
 ·obtain⟨q,p,rfl⟩:=z1w e;exact⟨_,_,_,rfl⟩
 ·cases e
theorem q_tr {kf:Nat}{f:Str}{args:C}{c:Str}{i:Nat}{b:S}(ib:Ss Κ Φ b):Ss Κ Φ (.tr kf f args c i b):=Ss.x (fun Γ X r st k hp h=>by obtain⟨⟨f',es,B,n,su⟩,hv,h9⟩:=z03 h;obtain⟨p,cp,ep,np,hpp,pos,rfl⟩:=q_Tr hv;obtain⟨h1,h2,h3⟩:=and3 h9;obtain⟨a1,a2,a3,a4,a5⟩:=and5 h1;obtain⟨b1,b2,b3,b4,b5⟩:=and5 h2;obtain⟨c1,c2,c3,c4,c5⟩:=and5 h3;obtain⟨a6,a7⟩:=and2 a2;obtain⟨y,es,rfl⟩:=z2s c3;obtain⟨b0,su,rfl⟩:=z2s c4;cases uo b4;obtain⟨g1,g2⟩:=k.gl b5;obtain⟨g3,g4⟩:=k.gl b2;obtain⟨C,D,m1,m2,x1,x2,sb⟩:=k.xk.hnd c B b3;obtain⟨m,kk,ps,d1,d2,d3⟩:=k.fns kf _ _ (uo c1);obtain⟨m',kk',ps',d1',d2',d3'⟩:=k.fnx kf _ _ (uo c1);rw[d1]at d1';cases d1';obtain⟨s1,s2⟩:=k.fun_ (z1n a7);refine PS.imp (zty (i:=i) (n:=n) (c:=c) (fs:=evA Κ Φ args) (fb:=evS Κ Φ b) d3 d3' (k.room a1) d2 d2' (fun E=>(all args).A Γ _ r _ (k.wish E) c2) (z0l c2) g1 g2 (z3o Κ Φ c2) s1 s2 (k.fx0 (d7.mp a6)) (by rw[k.hN];exact k.nd) (by rw[k.hN];exact uo a3) (by rw[k.hs];exact d7.mp b1) (by rw[k.hs];exact uo a4) m1 m2 x1 x2 sb g3 g4 fun a oe hc=>ib.L _ _ r _ (k.inX (uk a5) hc m1) PassesOwn.never c5) fun D σ H zz=>?_;obtain⟨ρ,F,out,so,e,q⟩:=zz;refine⟨ρ,F,out,so,?_,q⟩;have e:(evA Κ Φ args ρ>>=fun ys=>match Φ[kf]? with|some m=>(match m (ys.map (·.2))with|.ok _=>Res.ok (.nx ρ)|r=>if excOf r=some c then outI i (evS Κ Φ b (ρ.set i none))else .no)|none=>.no)=.ok out:=e;rw[d1]at e;exact e) rfl
theorem zj7 (s:S):Ss Κ Φ s:=by
 induction s with
 |nil=>exact⟨fun _ _ _ _ _ _ h=>ff rfl h,fun Γ X r st k hp h=>by cases z1q h;exact zro⟩
 |seq a b ia ib=>
  refine⟨fun _ _ _ _ _ _ h=>ff rfl h,fun Γ X r st k hp h=>?_⟩;cases st with
  |nil=>cases h
  |cons s st=>exact zvj (ia.R Γ X r _ k hp (and2 h).1) (ib.L Γ X r _ k hp (and2 h).2)
 |asg=>exact zsa
 |rse=>refine Ss.x (fun Γ X r st k hp h=>?_) rfl;intro pins s σ H D I q;obtain⟨ρ,F,out,so,e,_⟩:=q;cases e
 |tr _ _ _ _ _ _ ib=>exact q_tr ib
 |setIx=>exact zkx
 | «mut»=>exact zst
 |ret=>exact zu9
 |ifS _ _ _ ia ib=>exact q_if ia ib
 |for_ _ _ _ ib=>exact zpd ib
theorem sL (Κ:List D)(Φ:List Fn)(s:S):∀(Γ:Gm) (X:Cx) (r:Nat) (st:List Stmt),Cok Γ Κ Φ X r->gv (model X.prog X.w) X.A X.env X.xe->chkL Γ s st=true->PSs X st (tDS X.K (evS Κ Φ s)):=(zj7 s).L
end
section
variable (Κ:List D)(Φ:List Fn)
structure Se (c:C):Prop where
 E:∀(Γ:Gm) (X:Cx) (r:Nat) (e:Expr),Cok Γ Κ Φ X r->chkE Γ c e=true->PE X e (tR X (exE Κ Φ c))
 A:∀(Γ:Gm) (X:Cx) (r:Nat) (es:List Expr),Cok Γ Κ Φ X r->chkA Γ c es=true->PA X es (tRA X (exA Κ Φ c))
 T:∀(Γ:Gm) (X:Cx) (r:Nat) (e:Expr),Cok Γ Κ Φ X r->chkT Γ c e=true->PT X e (tRT X (exT Κ Φ c))
variable {Κ Φ}
theorem no_E {X:Cx}{e:Expr}{c:C}(h:∀ρ,exE Κ Φ c ρ=none):PE X e (tR X (exE Κ Φ c)):=fun pins s σ H Q I z=>(z6k h σ H z).elim
theorem no_A {X:Cx}{e:List Expr}{c:C}(h:∀ρ,exA Κ Φ c ρ=none):PA X e (tRA X (exA Κ Φ c)):=fun pos pins s σ H Q I z=>(z6k h σ H z).elim
theorem no_T {X:Cx}{e:Expr}{c:C}(h:∀ρ,exT Κ Φ c ρ=none):PT X e (tRT X (exT Κ Φ c)):=fun pins s σ H Q I z=>(z6k h σ H z).elim
theorem Se.no {c:C}(h1:∀ρ,exE Κ Φ c ρ=none)(h2:∀ρ,exA Κ Φ c ρ=none)(h3:∀ρ,exT Κ Φ c ρ=none):Se Κ Φ c:=⟨fun _ _ _ _ _ _=>no_E h1,fun _ _ _ _ _ _=>no_A h2,fun _ _ _ _ _ _=>no_T h3⟩
theorem za8 {j:Nat}{f:Str}{args:C}(ia:Se Κ Φ args):Se Κ Φ (.call j f args) where
 E:=fun Γ X r e k h=>by
  obtain⟨⟨x,es⟩,hv,h9⟩:=z03 h;obtain⟨_,_,rfl⟩:=z1w hv;obtain⟨h1,h2,h3,h4,h5⟩:=and5 h9;obtain⟨y,es,rfl⟩:=z2s h5;obtain⟨h0,h1⟩:=and2 h1;cases uo h1;obtain⟨g1,g2⟩:=k.gl h2;obtain⟨m,kk,ps,c1,c2,c3⟩:=k.fnx j _ _ (uo h3);refine PE.imp (zle c3 (k.room h0) c2 ((all args).A Γ X r _ k h4) (ia.A Γ X r _ k h4) (z0l h4) g1 g2 (z3o Κ Φ h4)) fun σ H Q hq=>?_
  have ee:exE Κ Φ (.call j x args)=fun ρ=>match(evA Κ Φ args ρ:Res (List GD))with|.ok ys=>excOf (m (dw (fun(y:GD)=>y.2) ys))|_=>exA Κ Φ args ρ:=by
   funext ρ
   show(match(evA Κ Φ args ρ:Res (List GD))with|.ok ys=>(match Φ[j]? with|some m=>excOf (m (dw (fun(y:GD)=>y.2) ys))|none=>none)|_=>exA Κ Φ args ρ)=_;rw[c1]
  rw[ee]at hq;exact hq
 A:=fun _ _ _ _ _ h=>ff rfl h
 T:=fun _ _ _ _ _ h=>ff rfl h
theorem allE (c:C):Se Κ Φ c:=by
 induction c with
 |call _ _ _ ia=>exact za8 ia
 |cons a r ia ir=>
  refine⟨fun _ _ _ _ _ h=>ff rfl h,fun Γ X n es k h=>?_,fun _ _ _ _ _ h=>ff rfl h⟩;cases es with
  |nil=>cases h
  |cons e es=>obtain⟨h1,h2,h3⟩:=and3 h;exact zir (z1n h1) ((all a).E Γ X n _ k h2) (ia.E Γ X n _ k h2) (ir.A Γ X n _ k h3)
 |not a ia=>refine⟨fun _ _ _ _ _ _=>no_E fun _=>rfl,fun _ _ _ _ _ h=>ff rfl h,fun Γ X r e k h=>?_⟩;obtain⟨⟨o,x⟩,hv,h9⟩:=z03 h;obtain⟨p,rfl⟩:=q_Un hv;obtain⟨h1,h2⟩:=and2 h9;cases uk h1;exact zox (ia.T Γ X r _ k h2)
 |tv a ia=>
  refine⟨fun _ _ _ _ _ h=>ff rfl h,fun _ _ _ _ _ h=>ff rfl h,fun Γ X r e k h=>?_⟩;obtain⟨h1,h2⟩:=and2 h;rcases d8.mp h1 with h1|h1
  ·exact znz (ia.E Γ X r _ k h2) (z5b h1 _)
  ·obtain⟨_,_,_,_,rfl⟩:=zcn h1;cases a<;>first|exact no_T fun _=>rfl|exact ff rfl h2
 |_=>exact Se.no (fun _=>rfl) (fun _=>rfl) fun _=>rfl
variable (Κ Φ)
structure Sq (s:S):Prop where
 R:∀(Γ:Gm) (X:Cx) (r:Nat) (st:Stmt),Cok Γ Κ Φ X r->gv (model X.prog X.w) X.A X.env X.xe->chk1 Γ s st=true->PS X st (tRS X (evX Κ Φ s))
 L:∀(Γ:Gm) (X:Cx) (r:Nat) (st:List Stmt),Cok Γ Κ Φ X r->gv (model X.prog X.w) X.A X.env X.xe->chkL Γ s st=true->PSs X st (tRS X (evX Κ Φ s))
variable {Κ Φ}
theorem Sq.x {s:S}(h:∀(Γ:Gm) (X:Cx) (r:Nat) (st:Stmt),Cok Γ Κ Φ X r->gv (model X.prog X.w) X.A X.env X.xe->chk1 Γ s st=true->PS X st (tRS X (evX Κ Φ s)))(hx:isSq s=true):Sq Κ Φ s:=⟨h,by cases s<;>first|(cases hx;done)|exact fun _ _ _ _ _ _ h=>ff rfl h⟩
theorem Sq.no {s:S}(h:∀ρ,evX Κ Φ s ρ=none)(hx:isSq s=true):Sq Κ Φ s:=Sq.x (fun Γ X r st k hp hc pins sh σ H D I z=>(z6k h σ H z).elim) hx
theorem zqy {e:Expr}(h:zo2 e=true):∃z k p,e=.Constant (.str z) k p:=by obtain⟨c,hc,h⟩:=z03 h;obtain⟨k,p,rfl⟩:=z84 hc;cases c<;>first|(cases h;done)|exact⟨_,_,_,rfl⟩
theorem allX (s:S):Sq Κ Φ s:=by
 induction s with
 |nil=>exact⟨fun _ _ _ _ _ _ h=>ff rfl h,fun Γ X r st k hp h=>by cases z1q h;exact zo3⟩
 |seq a b ia ib=>
  refine⟨fun _ _ _ _ _ _ h=>ff rfl h,fun Γ X r st k hp h=>?_⟩;cases st with
  |nil=>cases h
  |cons s st=>exact zor ((zj7 a).R Γ X r _ k hp (and2 h).1) (ia.R Γ X r _ k hp (and2 h).1) (ib.L Γ X r _ k hp (and2 h).2)
 |ifS c a b ia ib=>refine Sq.x (fun Γ X r st k hp h=>?_) rfl;obtain⟨v,hv,h9⟩:=z03 h;obtain⟨p,rfl⟩:=q_If hv;obtain⟨h1,h2,h3⟩:=and3 h9;exact zrt ((all c).T Γ X r _ k h1).1 ((allE c).T Γ X r _ k h1) (ia.L Γ X r _ k hp h2) (ib.L Γ X r _ k hp h3)
 |for_ t it b ib=>refine Sq.x (fun Γ X r st k hp h=>?_) rfl;obtain⟨hcm,h⟩:=and2 h;obtain⟨⟨t,i,B,o⟩,hv,h9⟩:=z03 h;obtain⟨p,rfl⟩:=q_Fo hv;obtain⟨h1,h2,h3,h4⟩:=and4 h9;cases z1q h4;obtain⟨hf,hn⟩:=sFF Κ Φ k h2;exact zpu hp (k.calm hcm) hf (zf1 k h1) ((zj7 b).L Γ X r _ k hp h3) (ib.L Γ X r _ k hp h3) (z5z hn _)
 |ret e=>refine Sq.x (fun Γ X r st k hp h=>?_) rfl;obtain⟨o,hv,h9⟩:=z03 h;obtain⟨p,rfl⟩:=q_Rt hv;obtain⟨v,rfl,h8⟩:=z03 h9;exact zpw ((allE e).E Γ X r _ k h8)
 |asg t e=>
  cases t with
  |tp is=>exact Sq.no (fun _=>rfl) rfl
  |nm i=>
   cases e with
   |call j f args=>
    refine Sq.x (fun Γ X r st k hp h=>?_) rfl;obtain⟨⟨ts,v⟩,hv,h9⟩:=z03 h;obtain⟨p,rfl⟩:=q_As hv;obtain⟨x,hx,h8⟩:=z03 h9;cases z3z hx;obtain⟨h1,h2,h3,h4⟩:=and4 h8;obtain⟨y,q,rfl,h5⟩:=z37 h1;obtain⟨l1,l2,l3⟩:=k.loc h5;have hc:z2m v=false:=by obtain⟨u,hu,_⟩:=z03 h4;obtain⟨_,_,rfl⟩:=z1w hu;rfl
    exact zpi (by rw[k.hN];exact k.nd) l1 l2 l3 hc ((allE _).E Γ X r _ k h4)
   |_=>exact Sq.no (fun _=>rfl) rfl
 |rse c=>refine Sq.x (fun Γ X r st k hp h=>?_) rfl;obtain⟨⟨x,es⟩,hv,h9⟩:=z03 h;obtain⟨np,cp,pos,rfl⟩:=q_Ra hv;obtain⟨h1,h2,h3,h4,h5⟩:=and5 h9;obtain⟨y,hy,h6⟩:=z03 h5;cases z3z hy;obtain⟨z,kk,p,rfl⟩:=zqy h6;cases uo h1;obtain⟨g1,g2⟩:=k.gl h2;obtain⟨C,m1,xC⟩:=k.xk.rs x h3;exact zis (k.room h4).hd g1 m1 g2 xC
 |_=>exact Sq.no (fun _=>rfl) rfl
end
section
variable {P:bc}{w:World}{K:W.Frag}{mg:Str->Option Value}{base:Heap}
structure Dok (Γ:Gm)(Κ:List D)(Φ:List Fn)(P:bc)(w:World)(K:W.Frag)(mg:Str->Option Value)(base:Heap)(k:Nat):Prop where
 free:∀x,Γ.free.contains x=true->mg x=none
 fns:∀(j:Nat) f n,Γ.fns[j]?=some (f,n)->∃m k' ps,Φ[j]?=some m/\k'<=k/\Cal P w K mg base k' f ps (spD K n m)
 cst:∀(j:Nat) x,Γ.cst[j]?=some x->∃d a,Κ[j]?=some d/\mg x=some (.ref a)/\∀H B,B none->Rep K H B (.ref a) d
 fnx:∀(j:Nat) f n,Γ.fns[j]?=some (f,n)->∃m k' ps,Φ[j]?=some m/\k'<=k/\CalX P w K mg base k' f ps n m
 xk:Xok Γ K mg
theorem z95 {H:Hp}{A:Ad->Prop}{vs:List V}{ds:List D}{n:Nat}(r:Reps K H A vs ds):StOk K ⟨H,fun a=>H a=none\/A (some a),fun _=>none,A none⟩ H (vs.map some++bw (n-vs.length) none) (ds.map (fun d=>some (.od,d))++bw (n-ds.length) none) where
 ext:=Same.refl H
 vis:=fun a e=>.inl e
 own:=fun a i e=>by cases e
 len:=by have:=r.length;simp only[az,am,c6];omega
 sl:=fun i g d e=>by
  rw[ku]at e;split at e
  ·rename_i hi;rw[bo]at e;cases h1:ds[i]? with
   |none=>rw[h1]at e;cases e
   |some d'=>
    rw[h1]at e;cases e;obtain⟨v,h2,h3⟩:=Reps.get r h1;refine⟨v,?_,?_⟩
    ·rw[ku,if_pos (by rw[am,r.length];rw[am]at hi;exact hi),bo,h2];rfl
    ·refine(Rep.there _ h3).weak fun a h=>?_;cases a with
     |none=>exact h.1
     |some a=>exact⟨fun z=>h.2 z,.inr h.1⟩
  ·rw[f9]at e;split at e<;>cases e
theorem zct {Κ:List D}{Φ:List Fn}{s:S}{ρ:Rho}{x:GD}(e:(match evX Κ Φ s ρ with|some c=>Res.exc (.str c)|none=>.no)=Res.ok x):False:=by cases h:evX Κ Φ s ρ<;>rw[h]at e<;>cases e
theorem d_fn {Γ:Gm}{Κ:List D}{Φ:List Fn}{x:Str}{st:Stmt}{ps:List Str}{k:Nat}{s:S}{f:Addr}{fd:fg}(Fu:Fun K x x st f fd)(Sc:FnScope Γ.N ps (z0c st))(hs:Γ.sc=z0c st)(hb:Γ.blk=false)(hxc:Γ.xc=none)(dk:Dok Γ Κ Φ P w K mg base k)(hc:chkL Γ s (z15 st)=true):
  FnOk P w K mg base CX0 (k+1) f fd ps (spD K ps.length (runD Κ Φ Γ.N.length s)):=by
 refine Fu.ok Sc (fun vs H Q E h=>h.choose_spec.choose_spec.choose_spec.1) fun cdv A outer s1 H vs Q E hr hsp=>?_;obtain⟨B,ds,r,hl,rs,e,q⟩:=hsp;refine⟨_,sL Κ Φ s Γ (cxOf CX0 P w K mg base Γ.N x (z0c st) f cdv A outer s1 H E).nox k _ ⟨rfl,hs.symm,Sc.nd,fun _ _=>rfl,by rw[hs];exact Sc.kind,dk.free,dk.fns,dk.cst,dk.fnx,fun _=>hr,fun _=>rfl,hr.units,fun _=>⟨rfl,rfl⟩,fun _=>rfl,fun _ _ z=>(by rw[hxc]at z;cases z),dk.xk⟩ PassesOwn.never hc,?_⟩;unfold runD at e;have so:=z95 (n:=Γ.N.length) rs;have hd:ds.length=vs.length:=(rs.length).symm;generalize ho:evS Κ Φ s (ds.map (fun d=>some (.od,d))++bw (Γ.N.length-ds.length) none)=out at e
 match out,ho,e with
 |.ok (.nx ρ'),ho,e=>cases e;refine⟨_,_,_,so,ho,fun σ' H' F' so' ru fr=>q .non H' (fun a o e=>(fr a o e rfl).1) rfl⟩
 |.ok (.rt g d),ho,e=>
  cases e;refine⟨_,_,_,so,ho,fun v H' hk rv=>q v H' hk (rv.weak fun a h=>?_)⟩;cases g with
  |fr=>cases a<;>exact h
  |nu=>cases a<;>exact h
  |od=>cases a with
   |none=>exact .inr h
   |some a=>exact(show H a=none\/B (some a)from h).elim .inl fun z=>.inr z
  |al=>cases a with
   |none=>exact .inr h
   |some a=>exact(show H a=none\/B (some a)from h).elim .inl fun z=>.inr z
 |.exc _,ho,e=>exact(zct (Κ:=Κ) (Φ:=Φ) e).elim
 |.no,ho,e=>exact(zct (Κ:=Κ) (Φ:=Φ) e).elim
theorem zte {Γ:Gm}{Κ:List D}{Φ:List Fn}{x:Str}{st:Stmt}{ps:List Str}{k:Nat}{s:S}{f:Addr}{fd:fg}(Fu:Fun K x x st f fd)(Sc:FnScope Γ.N ps (z0c st))(hs:Γ.sc=z0c st)(hb:Γ.blk=false)(hxc:Γ.xc=none)(dk:Dok Γ Κ Φ P w K mg base k)(hc:chkL Γ s (z15 st)=true):
  FnOk P w K mg base (CXE P w base) (k+1) f fd ps (spX K mg ps.length (runD Κ Φ Γ.N.length s)):=by
 obtain⟨oc,od,kV,doc,pm,an,cdv,ct,osl,rfl,lk,hcd⟩:=Fu.ex;refine zoh lk hcd Sc (fun vs H Q E h=>h.choose_spec.choose_spec.choose_spec.1) fun A outer s1 H vs Q E hr hsp=>?_;obtain⟨B,ds,c,hl,rs,e,q⟩:=hsp;refine⟨_,(allX s).L Γ (cxOf (CXE P w base) P w K mg base Γ.N x (z0c st) f cdv A outer s1 H E) k _ ⟨rfl,hs.symm,Sc.nd,fun _ _=>rfl,by rw[hs];exact Sc.kind,dk.free,dk.fns,dk.cst,dk.fnx,fun _=>hr,fun _=>rfl,hr.units,fun _=>⟨rfl,rfl⟩,fun _=>rfl,fun _ _ z=>(by rw[hxc]at z;cases z),dk.xk⟩ PassesOwn.leaving hc,?_⟩;have so:=z95 (n:=Γ.N.length) rs;refine⟨_,_,c,so,?_,?_⟩
 ·unfold runD at e;split at e
  ·cases e
  ·cases e
  ·split at e
   ·rename_i h;cases e;exact h
   ·cases e
 ·refine⟨fun pins σ H1 s2 a C args h' I hm hS hx=>?_,fun pins σ H1 s2 a C H' s' I hm hS fl=>?_⟩
  ·exact zau I hx rfl rfl rfl hS fun s3 fl=>⟨a,C,H1,rfl,fl,q C H1 hm hS⟩
  ·exact fl.leave (outer:=[]) I rfl rfl rfl hS fun s3 fl=>⟨a,C,H',rfl,fl,q C H' hm hS⟩
theorem zah {K:W.Frag}{H:Hp}{a:Addr}{ns:List Int}(h:SqL K H a (ns.map V.int)):Reps K H (fun _=>True) [.ref a] [.list (ns.map .int)]:=by
 refine⟨_,_,rfl,⟨a,ns.map V.int,rfl,?_,?_⟩,rfl⟩
 ·rcases h with(h|h)|h
  ·exact .inl ⟨h,trivial⟩
  ·exact .inr ⟨.inl h,trivial⟩
  ·exact .inr ⟨.inr h,trivial⟩
 ·clear h
  induction ns with
  |nil=>rfl
  |cons n ns ih=>exact⟨_,_,rfl,rfl,ih⟩
end
section
variable {X:Cx}{pins:List (Addr×Obj)}{σ:L2.St}{H:Hp}{s:aa}{i:Nat}{n:Str}{a:Addr}{oe:Obj}
end
section
variable {P:bc}{w:World}{K:W.Frag}{mg:Str->Option Value}{base:Heap}
end
section
variable {X:Cx}{pins:List (Addr×Obj)}{σ:L2.St}{H:Hp}{s:aa}{i j:Nat}{n y c:Str}{r:Bool}
end
end Mi
namespace Mi
open PySem
structure Gd where
 kf:Nat
 args:C
 c:Str
 i:Nat
 j:Nat
 g:Str
 r:Bool
end Mi
namespace Mi
open PySem PySem.Spec PyProof.Rows L2
section
variable {X:Cx}{i j:Nat}{n y c:Str}
end
section
variable {P:bc}{w:World}{K:W.Frag}{mg:Str->Option Value}{base:Heap}
end
structure XR where
 c:Str
 cs:List (Str×Bool)
 B:Str
def XR.subs (r:XR):List (Str×Str×Bool):=(r.c,"ValueError",true)::r.cs.map fun y=>(r.c,y.1,y.2)
def zgc (K:W.Frag)(A:Addr):List (Str×Bool)->Prop
 | []=>True
 |y::l=>(∃D dd cd sl,W.nsIn K bv y.1=some (some (.ref D))/\K.lookup D=some ⟨.type "type",dd,.cls cd,sl⟩/\W.subIn K (.ref A) (.ref D)=some y.2)/\zgc K A l
structure Kx (K:W.Frag)(r:XR)(A D:Addr):Prop where
 a:W.nsIn K bv r.c=some (some (.ref A))
 l:∃dd cd sl,K.lookup A=some ⟨.type "type",dd,.cls cd,sl⟩
 e:W.excIn K A [.type "ValueError",.type "Exception",.type "BaseException",.type "object"] "ValueError.__new__"=true
 cl:W.findIn K (.ref A) "__class__"=some (some (.builtin "object.__class__"))
 ga:W.findIn K (.ref A) "__getattribute__"=some (some (.builtin "BaseException.__getattribute__"))
 gt:W.findIn K (.ref A) "__getattr__"=some none
 ob:W.subIn K (.ref A) (.type "object")=some true
 be:W.subIn K (.ref A) (.type "BaseException")=some true
 v:W.subIn K (.ref A) (.type "ValueError")=some true
 b:W.nsIn K bv r.B=some (some (.ref D))
 f:W.excIn K D [.type "ValueError",.type "Exception",.type "BaseException",.type "object"] "ValueError.__new__"=true
 s:W.subIn K (.ref A) (.ref D)=some true
 cs:zgc K A r.cs
def kxs (K:W.Frag):List XR->Prop
 | []=>True
 |r::l=>(∃A D,Kx K r A D)/\kxs K l
theorem z9b {K:W.Frag}:∀{l:List XR} {r:XR},kxs K l->r∈l->∃A D,Kx K r A D
 | [],_,_,z=>nomatch z
 |_::_,_,h,.head _=>h.1
 |_::_,_,h,.tail _ z=>z9b h.2 z
theorem z9z {K:W.Frag}{A:Addr}:∀{l:List (Str×Bool)} {y:Str×Bool},zgc K A l->y∈l->∃D dd cd sl,W.nsIn K bv y.1=some (some (.ref D))/\K.lookup D=some ⟨.type "type",dd,.cls cd,sl⟩/\W.subIn K (.ref A) (.ref D)=some y.2
 | [],_,_,z=>nomatch z
 |_::_,_,h,.head _=>h.1
 |_::_,_,h,.tail _ z=>z9z h.2 z
theorem z9q {K:W.Frag}{D:Addr}{dd:Option Addr}{cd:ClassData}{sl:Array (Option Value)}(l:K.lookup D=some ⟨.type "type",dd,.cls cd,sl⟩):W.typeIn K (.ref D)=some (.type "type")/\(W.clsIn K D).isSome=true:=by
 refine⟨?_,?_⟩
 ·show(K.lookup D).map (·.cls)=_;rw[l];rfl
 ·unfold W.clsIn;rw[l];rfl
theorem zou {Γ:Gm}{K:W.Frag}{h:Heap}{mg:Str->Option Value}{xt:List XR}(X:K.In h)(G:h.Ns bv mg)(hk:kxs K xt)(hz:xt≠[]->mg "ValueError"=none)(h1:Γ.sub=(xt.map XR.subs).flatten)(h2:Γ.rs=xt.map (·.c))(h3:Γ.hnd=xt.map fun r=>(r.c,r.B)):Xok Γ K mg:=by
 refine⟨fun c C b z=>?_,fun c z=>?_,fun c B z=>?_⟩
 ·rw[h1]at z;obtain⟨l,hl,z⟩:=kq.mp (c7.mp z);obtain⟨r,hr,rfl⟩:=bq.mp hl;obtain⟨A,D,k⟩:=z9b hk hr;obtain⟨dd,cd,sl,kl⟩:=k.l;have xa:XA K A:=⟨k.cl,k.ga,k.gt,k.ob,k.be,(z9q kl).1,(z9q kl).2,k.e⟩;rcases ao.mp z with e|z
  ·cases e;exact⟨A,.ty "ValueError",.type "ValueError",W.mg_of X G k.a,xa,XV.val,k.v,rfl,fun w q=>q,.inr ⟨hz (fun q=>by rw[q]at hr;cases hr),by decide+kernel,by decide⟩⟩
  ·obtain⟨y,hy,e⟩:=bq.mp z;cases e;obtain⟨D',dd',cd',sl',e1,e2,e3⟩:=z9z k.cs hy;exact⟨A,.ref D',.ref D',W.mg_of X G k.a,xa,XV.own (z9q e2).1 (z9q e2).2,e3,rfl,fun w q=>q,.inl (W.mg_of X G e1)⟩
 ·rw[h2]at z;obtain⟨r,hr,rfl⟩:=bq.mp (c7.mp z);obtain⟨A,D,k⟩:=z9b hk hr;exact⟨A,W.mg_of X G k.a,k.e⟩
 ·rw[h3]at z;obtain⟨r,hr,e⟩:=bq.mp (c7.mp z);cases e;obtain⟨A,D,k⟩:=z9b hk hr;exact⟨A,D,W.mg_of X G k.a,W.mg_of X G k.b,k.e,k.f,k.s⟩
inductive Kd where
 |n
 |e (c:Str) (r:Bool)
 |g (d:Gd) (je:Nat)
structure DRow where
 nm:Str
 st:Stmt
 N:List Str
 ps:List Str
 free:List Str
 fns:List Nat
 s:S
 F:Fn
 kd:Kd
 kc:List (Str×List Str):=[]
def cD (y:Str×List Str):D:=.tuple (y.2.map .str)
def sig (Rs:List DRow)(j:Nat):Str×Nat:=match Rs[j]? with
 |some c=>(c.nm,c.ps.length)
 |none=>("",0)
def fnAt (Rs:List DRow)(j:Nat):Fn:=match Rs[j]? with
 |some c=>c.F
 |none=>fun _=>.no
def DRow.G (Rs:List DRow)(xt:List XR)(r:DRow):Gm:={N:=r.N,sc:=z0c r.st,free:=r.free,fns:=r.fns.map (sig Rs),cst:=r.kc.map (·.1),sub:=(xt.map XR.subs).flatten,rs:=xt.map (·.c),hnd:=xt.map fun r=>(r.c,r.B)}
def Kd.isE:Kd->Bool
 |.e _ _=>true
 |_=>false
def nE (Rs:List DRow)(j:Nat):Bool:=match Rs[j]? with
 |some c=>!c.kd.isE
 |none=>true
def DRow.part (Rs:List DRow)(xt:List XR)(i:Nat)(r:DRow):Bool:=match r.kd with
 |.n=>chkL (r.G Rs xt) r.s (z15 r.st)
 |.e _ _=>false
 |.g _ _=>false
def DRow.ok (Rs:List DRow)(xt:List XR)(fr:List Str)(i:Nat)(r:DRow):Bool:=
 (decide ((z0c r.st).kind=.function)&& !(z0c r.st).isCoroutine&& !(z0c r.st).isGenerator&&decide r.N.Nodup&&decide (r.N.take r.ps.length=r.ps))&&
 (r.ps.all (fun x=>(z0c r.st).names.lookup x==some .local||(z0c r.st).names.lookup x==some .cell)&&(z0c r.st).names.all (fun y=>!(y.2==.free))&&r.free.all (fun x=>fr.contains x)&&r.fns.all (fun j=>decide (j<i)&&nE Rs j)&&r.part Rs xt i)
def oks (Rs:List DRow)(xt:List XR)(fr:List Str):Nat->List DRow->Bool
 |_,[]=>true
 |i,r::l=>r.ok Rs xt fr i&&oks Rs xt fr (i+1) l
def DRow.fOk (Rs:List DRow)(r:DRow):Prop:=match r.kd with
 |.n=>r.F=runD (r.kc.map cD) (r.fns.map (fnAt Rs)) r.N.length r.s
 |.e _ _=>True
 |.g _ _=>True
def fOks (Rs:List DRow):List DRow->Prop
 | []=>True
 |r::l=>r.fOk Rs/\fOks Rs l
theorem zbt {Rs:List DRow}{xt:List XR}{fr:List Str}:∀{l:List DRow} {k i:Nat} {r:DRow},oks Rs xt fr k l=true->l[i]?=some r->r.ok Rs xt fr (k+i)=true
 | [],_,i,_,_,e=>by simp at e
 |r::l,k,0,_,h,e=>by cases e;exact(and2 h).1
 |r::l,k,i+1,_,h,e=>by
  have:=zbt (k:=k+1) (and2 h).2 (show l[i]?=some _ from e)
  rwa [show k+(i+1)=k+1+i by omega]
theorem z8e {Rs:List DRow}:∀{l:List DRow} {i:Nat} {r:DRow},fOks Rs l->l[i]?=some r->r.fOk Rs
 | [],i,_,_,e=>by simp at e
 |r::l,0,_,h,e=>by cases e;exact h.1
 |r::l,i+1,_,h,e=>z8e h.2 (show l[i]?=some _ from e)
section
variable {P:bc}{w:World}{K:W.Frag}{mg:Str->Option Value}{base:Heap}{Rs:List DRow}{xt:List XR}{fr:List Str}
theorem z5d {r:DRow}{i:Nat}(h:r.ok Rs xt fr i=true):FnScope (r.G Rs xt).N r.ps (z0c r.st)/\(∀x,r.free.contains x=true->fr.contains x=true)/\(∀j∈r.fns,j<i/\nE Rs j=true)/\r.part Rs xt i=true:=by
 obtain⟨h1,h2⟩:=and2 h;obtain⟨a1,a2,a3,a4,a5⟩:=and5 h1;obtain⟨b1,b2,b3,b4,b5⟩:=and5 h2;refine⟨⟨uk a1,z1n a2,z1n a3,uk a4,uk a5,fun x hx=>?_,fun y hy z=>?_⟩,fun x hx=>?_,fun j hj=>⟨uk (and2 (ax.mp b4 j hj)).1,(and2 (ax.mp b4 j hj)).2⟩,b5⟩
 ·rcases d8.mp (ax.mp b1 x hx)with q|q
  ·exact .inl (uo q)
  ·exact .inr (uo q)
 ·have :=z1n (ax.mp b2 y hy);rw[z]at this;cases this
 ·exact ax.mp b3 x (c7.mp hx)
def zan (P:bc)(w:World)(K:W.Frag)(mg:Str->Option Value)(base:Heap)(i:Nat)(r:DRow):Prop:=match r.kd with
 |.e _ _=>True
 |_=>Cal P w K mg base (i+1) r.nm r.ps (spD K r.ps.length r.F)/\CalX P w K mg base (i+1) r.nm r.ps r.ps.length r.F
theorem rowN {j:Nat}{c:DRow}(h:zan P w K mg base j c)(e:Rs[j]?=some c)(n:nE Rs j=true):Cal P w K mg base (j+1) c.nm c.ps (spD K c.ps.length c.F)/\CalX P w K mg base (j+1) c.nm c.ps c.ps.length c.F:=by
 unfold nE at n;rw[e]at n;have n:(!c.kd.isE)=true:=n;unfold zan at h;cases hk:c.kd with
 |n=>rw[hk]at h;exact h
 |g d je=>rw[hk]at h;exact h
 |e x b=>rw[hk]at n;cases n
def zgm (K:W.Frag)(mg:Str->Option Value)(y:Str×List Str):Prop:=∃a,mg y.1=some (.ref a)/\∀H B,B none->Rep K H B (.ref a) (cD y)
theorem zef {r:DRow}{i:Nat}(hr:Rs[i]?=some r)(h:r.ok Rs xt fr i=true)(T:∀x∈fr,mg x=none)(xk:∀Γ:Gm,Γ.sub=(xt.map XR.subs).flatten->Γ.rs=xt.map (·.c)->(Γ.hnd=xt.map fun r=>(r.c,r.B))->Xok Γ K mg)(hC:∀y∈r.kc,zgm K mg y)(ih:∀j c,j<i->Rs[j]?=some c->zan P w K mg base j c):Dok (r.G Rs xt) (r.kc.map cD) (r.fns.map (fnAt Rs)) P w K mg base i where
 free:=fun x hx=>T x (c7.mp ((z5d h).2.1 x hx))
 fns:=fun j f n e=>by
  have e:(r.fns.map (sig Rs))[j]?=some (f,n):=e;rw[bo]at e;obtain⟨jj,ej,e⟩:=dh.mp e;obtain⟨hlt,hne⟩:=(z5d h).2.2.1 jj (cw ej);have hl:i<Rs.length:=(bn.mp hr).1;have hc:Rs[jj]?=some Rs[jj]:=bd (lc hlt hl);unfold sig at e;rw[hc]at e;cases e;refine⟨fnAt Rs jj,jj+1,Rs[jj].ps,by rw[bo,ej];rfl,hlt,?_⟩;have:fnAt Rs jj=Rs[jj].F:=by unfold fnAt;rw[hc]
  rw[this];exact(rowN (ih jj _ hlt hc) hc hne).1
 cst:=fun j x e=>by have e:(r.kc.map (·.1))[j]?=some x:=e;rw[bo]at e;obtain⟨y,ey,rfl⟩:=dh.mp e;obtain⟨a,h1,h2⟩:=hC y (cw ey);exact⟨cD y,a,by rw[bo,ey];rfl,h1,h2⟩
 fnx:=fun j f n e=>by
  have e:(r.fns.map (sig Rs))[j]?=some (f,n):=e;rw[bo]at e;obtain⟨jj,ej,e⟩:=dh.mp e;obtain⟨hlt,hne⟩:=(z5d h).2.2.1 jj (cw ej);have hl:i<Rs.length:=(bn.mp hr).1;have hc:Rs[jj]?=some Rs[jj]:=bd (lc hlt hl);unfold sig at e;rw[hc]at e;cases e;refine⟨fnAt Rs jj,jj+1,Rs[jj].ps,by rw[bo,ej];rfl,hlt,?_⟩;have:fnAt Rs jj=Rs[jj].F:=by unfold fnAt;rw[hc]
  rw[this];exact(rowN (ih jj _ hlt hc) hc hne).2
 xk:=xk _ rfl rfl rfl
theorem zkh (hok:oks Rs xt fr 0 Rs=true)(hF:fOks Rs Rs)(T:∀x∈fr,mg x=none)(xk:∀Γ:Gm,Γ.sub=(xt.map XR.subs).flatten->Γ.rs=xt.map (·.c)->(Γ.hnd=xt.map fun r=>(r.c,r.B))->Xok Γ K mg)(n:Nat)(hC:∀r∈Rs,∀y∈r.kc,zgm K mg y)(O:∀i r,i<n->Rs[i]?=some r->Own K mg r.nm r.st r.ps):∀i r,i<n->Rs[i]?=some r->zan P w K mg base i r:=by
 intro i
 induction i using Nat.strongRecOn with
 |ind i ih=>
  intro r hi hr
  have ho:r.ok Rs xt fr i=true:=by
   have:=zbt hok hr
   rwa [si]at this
  have ih:∀j c,j<i->Rs[j]?=some c->zan P w K mg base j c:=fun j c hj hc=>ih j hj c (lc hj hi) hc;have D:=zef (P:=P) (w:=w) (K:=K) (base:=base) hr ho T xk (hC r (cw hr)) ih;obtain⟨Sc,hfr,_,hp⟩:=z5d ho;have hf:=z8e hF hr;obtain⟨f,fd,Fu,m,kp,b⟩:=O i r hi hr;unfold DRow.fOk at hf;unfold DRow.part at hp;unfold zan;cases hk:r.kd with
  |n=>rw[hk]at hf hp;have hf:r.F=_:=hf;show _/\_;rw[hf];exact⟨⟨f,fd,d_fn (Γ:=r.G Rs xt) Fu Sc rfl rfl rfl D hp,m,kp,b⟩,⟨f,fd,zte (Γ:=r.G Rs xt) Fu Sc rfl rfl rfl D hp,m,kp,b⟩⟩
  |e c bb=>rw[hk]at hp;cases hp
  |g d je=>rw[hk]at hp;cases hp
end
def Kf (K:W.Frag)(r:DRow)(f:Addr)(fd:fg):Prop:=W.nsIn K bv r.nm=some (some (.ref f))/\∃(oc:Value) (od an:Option Addr) (sl:Array (Option Value)) (kV dc pm cd ct:Value),fd=W.fnOf r.nm r.nm (z1o r.st) (z15 r.st) (z0c r.st) .none kV dc pm an cd ct/\K.lookup f=some ⟨oc,od,.func fd,sl⟩/\W.codeIn K cd r.nm=true/\W.keepIn K (.ref f)=true
def zjf (r:DRow):Prop:=∀(kV doc pm:Value) (an:Option Addr) (cdv ct:Value) (us:List Value),us.length=r.ps.length->ua (W.fnOf r.nm r.nm (z1o r.st) (z15 r.st) (z0c r.st) .none kV doc pm an cdv ct) ⟨us,[]⟩=pure (r.ps.zip us)
theorem cut1 {us:List Value}{n:Nat}(h:us.length=n+1):∃a l,us=a::l/\l.length=n:=by
 cases us with
 |nil=>cases h
 |cons a l=>exact⟨a,l,rfl,Nat.succ.inj h⟩
theorem by1 {P:List Value->Prop}(h:∀a,P [a])(us:List Value)(z:us.length=1):P us:=by obtain⟨a,l,rfl,y⟩:=cut1 z;cases List.eq_nil_of_length_eq_zero y;exact h a
theorem by2 {P:List Value->Prop}(h:∀a b,P [a,b])(us:List Value)(z:us.length=2):P us:=by obtain⟨a,l,rfl,y⟩:=cut1 z;exact by1 (P:=fun l=>P (a::l)) (h a) l y
def kOks (K:W.Frag):List DRow->Prop
 | []=>True
 |r::l=>((∃f fd,Kf K r f fd)/\zjf r)/\kOks K l
theorem zcs {K:W.Frag}:∀{l:List DRow} {i:Nat} {r:DRow},kOks K l->l[i]?=some r->(∃f fd,Kf K r f fd)/\zjf r
 | [],i,_,_,e=>by simp at e
 |r::l,0,_,h,e=>by cases e;exact h.1
 |r::l,i+1,_,h,e=>zcs h.2 (show l[i]?=some _ from e)
def strOf:Value->Option Str
 |.str x _=>if PyData.strOk x then some x else none
 |_=>none
def ck1 (K:W.Frag)(y:Str×List Str):Bool:=match W.nsIn K bv y.1 with
 |some (some (.ref a))=>(match K.lookup a with
  |some ⟨.type "tuple",none,.seq its _,_⟩=>decide (its.toList.map strOf=y.2.map some)&&decide (y.2.length<=1000)
  |_=>false)
 |_=>false
theorem z9w:∀{us:List Value} {ws:List Str},us.map strOf=ws.map some->Vals (ws.map V.str) us/\∀w∈ws,PyData.strOk w=true
 | [],[],_=>⟨.nil,fun _ h=>by cases h⟩
 | [],_::_,h=>by cases h
 |_::_,[],h=>by cases h
 |u::us,w::ws,h=>by
  obtain⟨h1,h2⟩:=List.cons.inj h;obtain⟨a,b⟩:=z9w h2;cases u with
  |str x t=>
   have h1:(if PyData.strOk x then some x else none)=some w:=h1;split at h1
   ·rename_i hx;cases h1;exact⟨.cons ⟨t,rfl⟩ a,fun z hz=>(ao.mp hz).elim (fun e=>by rw[e];exact hx) (b z)⟩
   ·cases h1
  |_=>cases h1
theorem z8u {K:W.Frag}{H:Hp}{B:Ad->Prop}:∀{ws:List Str},(∀w∈ws,PyData.strOk w=true)->Reps K H B (ws.map V.str) (ws.map PyData.str)
 | [],_=>rfl
 |w::ws,h=>Reps.cons ⟨rfl,h w (.head _)⟩ (z8u fun z hz=>h z (.tail _ hz))
theorem zrg {K:W.Frag}{h:Heap}{mg:Str->Option Value}{y:Str×List Str}(X:K.In h)(G:h.Ns bv mg)(c:ck1 K y=true):zgm K mg y:=by
 unfold ck1 at c;split at c
 ·rename_i a ha;split at c
  ·rename_i its n sl hl;obtain⟨c1,c2⟩:=and2 c;obtain⟨v,ok⟩:=z9w (uk c1);have hz:its.size<=bf:=by have e:=v.length;rw[am,bp]at e;have:=uk c2;rw[cq];omega
   exact⟨a,W.mg_of X G ha,fun H B _=>⟨a,y.2.map V.str,rfl,.inr ⟨_,its,n,hl,rfl,rfl,rfl,hz,v⟩,z8u ok⟩⟩
  ·cases c
 ·cases c
theorem all_rows {l:W.OpenLaw}{w:World}{K:W.Frag}{h:Heap}{mg:Str->Option Value}{fa:Addr}{Rs:List DRow}{lr:DRow}{xt:List XR}{fr:List Str}{x:Str}(X:K.In h)(G:h.Ns bv mg)(hfa:mg lr.nm=some (.ref fa))(hx:lr.ps=[x])(hkd:lr.kd=.n)(hok:oks (Rs++[lr]) xt fr 0 (Rs++[lr])=true)(hF:fOks (Rs++[lr]) (Rs++[lr]))(hK:kOks K Rs)(kl:∃f fd,Kf K lr f fd)
  (hb:∀(kV dc pm:Value) (an:Option Addr) (cd ct:Value) (s:aa) (v:Value),ph s (W.fnOf lr.nm lr.nm (z1o lr.st) (z15 lr.st) (z0c lr.st) .none kV dc pm an cd ct) ⟨[v],[]⟩ [(x,v)]) (hz:∀n∈fr,W.nsIn K bv n=some none) (hkx:kxs K xt) (hv:xt≠[]->("ValueError":Str)∈fr) (hC:∀r∈Rs++[lr],∀y∈r.kc,ck1 K y=true):
  ∃fd:fg,(∀(s:aa) (v:Value),ph s fd ⟨[v],[]⟩ [(x,v)])/\∀base:Heap,K.In base->base.Ns bv mg->FnOk l.prog w K mg base CX0 (Rs.length+1) fa fd [x] (spD K 1 lr.F):=by
 obtain⟨f,fd,a,oc,od,an,sl,kV,dc,pm,cd,ct,rfl,lk,hc,hk⟩:=kl;have e:=hfa.symm.trans (W.mg_of X G a);cases e;have T:∀n∈fr,mg n=none:=fun n hn=>W.mg_none_of X G (hz n hn);have hr:(Rs++[lr])[Rs.length]?=some lr:=by rw[fj (ah _),Nat.sub_self];rfl
 have ho:lr.ok (Rs++[lr]) xt fr Rs.length=true:=by
  have:=zbt hok hr
  rwa [si]at this
 refine⟨_,fun s v=>hb kV dc pm an cd ct s v,fun base _ _=>?_⟩;have O:∀i r,i<Rs.length->(Rs++[lr])[i]?=some r->Own K mg r.nm r.st r.ps:=fun i r hi e=>by rw[gp hi]at e;obtain⟨⟨f,fd,a,oc,od,an,sl,kV,dc,pm,cd,ct,rfl,lk,hc,hk⟩,hb⟩:=zcs hK e;exact zqq X G a lk hc hk hb
 have xk:∀Γ:Gm,Γ.sub=(xt.map XR.subs).flatten->Γ.rs=xt.map (·.c)->(Γ.hnd=xt.map fun r=>(r.c,r.B))->Xok Γ K mg:=fun Γ h1 h2 h3=>zou X G hkx (fun z=>T _ (hv z)) h1 h2 h3;have hC:∀r∈Rs++[lr],∀y∈r.kc,zgm K mg y:=fun r hr y hy=>zrg X G (hC r hr y hy);have D:=zef (P:=l.prog) (w:=w) (K:=K) (base:=base) hr ho T xk (hC lr (bu _ (.head _))) fun j c hj hc=>zkh hok hF T xk Rs.length hC O j c hj hc;have hp:=(z5d ho).2.2.2;have hf:=z8e hF hr;unfold DRow.part at hp;unfold DRow.fOk at hf;rw[hkd]at hp hf;have:=d_fn (Γ:=lr.G (Rs++[lr]) xt) (zdg (st:=lr.st) lk hc hk) (z5d ho).1 rfl rfl rfl D hp;have e2:runD (lr.kc.map cD) (dw (fnAt (Rs++[lr])) lr.fns) (lr.G (Rs++[lr]) xt).N.length lr.s=lr.F:=hf.symm;rw[e2,hx]at this;exact this
end Mi
namespace Mi
open PySem PySem.Spec PyProof.Rows L2
def kf1 (K:W.Frag)(r:DRow):Option (fg×Bool):=match W.nsIn K bv r.nm with
 |some (some (.ref f))=>(match K.lookup f with
  |some ⟨_,_,.func fd,_⟩=>some (fd,W.codeIn K fd.code r.nm&&W.keepIn K (.ref f))
  |_=>none)
 |_=>none
def kf2 (r:DRow)(x:fg×Bool):fg×Bool:=(W.fnOf r.nm r.nm (z1o r.st) (z15 r.st) (z0c r.st) .none x.1.kwdefaults x.1.doc x.1.pyModule x.1.annotations x.1.code x.1.closureTuple,true)
def isC (K:W.Frag)(A:Addr):Bool:=match K.lookup A with
 |some ⟨.type "type",_,.cls _,_⟩=>true
 |_=>false
def MROX:List Value:=[.type "ValueError",.type "Exception",.type "BaseException",.type "object"]
def kx1 (K:W.Frag)(r:XR):Option (Bool×Bool×Option (Option Value)×Option (Option Value)×Option (Option Value)×Option Bool×Option Bool×Option Bool×Bool×Option Bool×List (Bool×Option Bool)):=match W.nsIn K bv r.c,W.nsIn K bv r.B with
 |some (some (.ref A)),some (some (.ref D))=>some (isC K A,W.excIn K A MROX "ValueError.__new__",W.findIn K (.ref A) "__class__",W.findIn K (.ref A) "__getattribute__",W.findIn K (.ref A) "__getattr__",W.subIn K (.ref A) (.type "object"),W.subIn K (.ref A) (.type "BaseException"),W.subIn K (.ref A) (.type "ValueError"),W.excIn K D MROX "ValueError.__new__",W.subIn K (.ref A) (.ref D),r.cs.map fun y=>match W.nsIn K bv y.1 with
  |some (some (.ref E))=>(isC K E,W.subIn K (.ref A) (.ref E))
  |_=>(false,none))
 |_,_=>none
def kx2 (r:XR):Option (Bool×Bool×Option (Option Value)×Option (Option Value)×Option (Option Value)×Option Bool×Option Bool×Option Bool×Bool×Option Bool×List (Bool×Option Bool)):=some (true,true,some (some (.builtin "object.__class__")),some (some (.builtin "BaseException.__getattribute__")),some none,some true,some true,some true,true,some true,r.cs.map fun y=>(true,some y.2))
theorem zih {K:W.Frag}{A:Addr}(h:isC K A=true):∃dd cd sl,K.lookup A=some ⟨.type "type",dd,.cls cd,sl⟩:=by
 unfold isC at h;split at h
 ·rename_i dd cd sl e;exact⟨dd,cd,sl,e⟩
 ·cases h
theorem ze3 {K:W.Frag}{A:Addr}:∀{l:List (Str×Bool)},(l.map fun y=>match W.nsIn K bv y.1 with
  |some (some (.ref E))=>(isC K E,W.subIn K (.ref A) (.ref E))
  |_=>(false,none))=(l.map fun y=>(true,some y.2))->zgc K A l
 | [],_=>trivial
 |y::l,h=>by
  have h:=List.cons.inj h;refine⟨?_,ze3 h.2⟩;have e:=h.1
  dsimp only at e
  split at e
  ·rename_i E hE;have e:=Prod.mk.inj e;obtain⟨dd,cd,sl,q⟩:=zih e.1;exact⟨E,dd,cd,sl,hE,q,e.2⟩
  ·cases(Prod.mk.inj e).1
theorem zow {K:W.Frag}{r:XR}(h:kx1 K r=kx2 r):∃A D,Kx K r A D:=by
 unfold kx1 kx2 at h;split at h
 ·rename_i A D hA hD;have h:=Prod.mk.inj (Option.some.inj h);have h2:=Prod.mk.inj h.2;have h3:=Prod.mk.inj h2.2;have h4:=Prod.mk.inj h3.2;have h5:=Prod.mk.inj h4.2;have h6:=Prod.mk.inj h5.2;have h7:=Prod.mk.inj h6.2;have h8:=Prod.mk.inj h7.2;have h9:=Prod.mk.inj h8.2;have h10:=Prod.mk.inj h9.2;exact⟨A,D,hA,zih h.1,h2.1,h3.1,h4.1,h5.1,h6.1,h7.1,h8.1,hD,h9.1,h10.1,ze3 h10.2⟩
 ·cases h
theorem zi0 {K:W.Frag}:∀{l:List XR},(∀r∈l,∃A D,Kx K r A D)->kxs K l
 | [],_=>trivial
 |r::_,h=>⟨h r (.head _),zi0 fun r hr=>h r (.tail _ hr)⟩
def KEq (K:gc->W.Frag)(Rs:List DRow)(fr:List Str)(xt:List XR):Prop:=∀P,(Rs.map fun r=>(kf1 (K P) r).isSome,Rs.map fun r=>kf1 (K P) r,fr.map fun n=>W.nsIn (K P) bv n,xt.map fun r=>kx1 (K P) r,Rs.map fun r=>r.kc.map fun y=>ck1 (K P) y)=(Rs.map fun _=>true,Rs.map fun r=>(kf1 (K P) r).map (kf2 r),fr.map fun _=>some none,xt.map kx2,Rs.map fun r=>r.kc.map fun _=>true)
theorem KEq_r:KEq=KEq:=rfl
theorem zr6 {K:W.Frag}{r:DRow}(h:(kf1 K r).isSome=true)(e:kf1 K r=(kf1 K r).map (kf2 r)):∃f fd,Kf K r f fd:=by
 cases z:kf1 K r with
 |none=>rw[z]at h;cases h
 |some x=>
  rw[z]at e;have e:x=kf2 r x:=Option.some.inj e;unfold kf1 at z;split at z
  ·rename_i f hf;split at z
   ·rename_i oc od fd sl hl;have z:=Option.some.inj z;have z1:fd=x.1:=congrArg Prod.fst z;have z2:(W.codeIn K fd.code r.nm&&W.keepIn K (.ref f))=x.2:=congrArg Prod.snd z;have e1:x.1=(kf2 r x).1:=congrArg Prod.fst e;have e2:x.2=true:=congrArg Prod.snd e;rw[e2]at z2;have z3:=ba.mp z2;subst z1;exact⟨f,x.1,hf,oc,od,x.1.annotations,sl,x.1.kwdefaults,x.1.doc,x.1.pyModule,x.1.code,x.1.closureTuple,e1,hl,z3.1,z3.2⟩
   ·cases z
  ·cases z
theorem z7n {K:gc->W.Frag}{Rs:List DRow}{fr:List Str}{xt:List XR}(h:KEq K Rs fr xt)(P:gc):(∀r∈Rs,∃f fd,Kf (K P) r f fd)/\(∀n∈fr,W.nsIn (K P) bv n=some none)/\kxs (K P) xt/\∀r∈Rs,∀y∈r.kc,ck1 (K P) y=true:=by have a:=Prod.mk.inj (h P);have b:=Prod.mk.inj a.2;have c:=Prod.mk.inj b.2;have d:=Prod.mk.inj c.2;exact⟨fun r hr=>zr6 (ig.mp a.1 r hr) (ig.mp b.1 r hr),fun n hn=>ig.mp c.1 n hn,zi0 fun r hr=>zow (ig.mp d.1 r hr),fun r hr=>ig.mp (ig.mp d.2 r hr)⟩
def bOks:List DRow->Prop
 | []=>True
 |r::l=>zjf r/\bOks l
theorem zdr {K:W.Frag}:∀{l:List DRow},(∀r∈l,∃f fd,Kf K r f fd)->bOks l->kOks K l
 | [],_,_=>trivial
 |r::_,h,b=>⟨⟨h r (.head _),b.1⟩,zdr (fun r hr=>h r (.tail _ hr)) b.2⟩
end Mi
name_quick tkeq for Mi.KEq by Mi.KEq_r
namespace Mk
open Mi
section
open PySem
abbrev P:=List (Str×Int)
def pr (p:Str×Int):D:=.tuple [.str p.1,.int p.2]
def pk (l:P):D:=.tuple (l.map pr)
def ep (p:Str×Int):D×D:=(.str p.1,.int p.2)
def en (l:P):Ents:=l.map ep
def fnd:P->Str->Option Int
 | [],_=>none
 |p::l,n=>if p.1=n then some p.2 else fnd l n
def look (l:P)(n:Str):Int:=(fnd l n).getD 0
def ks (l:P):List Str:=l.map (·.1)
def put:P->Str->Int->P
 | [],n,v=>[(n,v)]
 |p::l,n,v=>if p.1=n then(p.1,v)::l else p::put l n v
def sl (a b:Str):Prop:=a.cps.toList<b.cps.toList
theorem zcw (a:Str):¬sl a a:=List.lt_irrefl _
theorem zjq {a b c:Str}(h:sl a b)(k:sl b c):sl a c:=List.lt_trans h k
theorem z9v {a b:Str}(h:a.cps.toList=b.cps.toList):a=b:=by cases a;cases b;simp at h;subst h;rfl
theorem zh9 {a b:Str}(h:a≠b):sl a b\/sl b a:=by
 by_cases h1:sl a b
 ·exact .inl h1
 ·by_cases h2:sl b a
  ·exact .inr h2
  ·exact(h (z9v (List.le_antisymm (List.not_lt.mp h2) (List.not_lt.mp h1)))).elim
theorem ztj {a b:Str}(h:sl a b):a≠b:=fun e=>zcw b (e▸h)
theorem z2w {n:Str}:∀{l:P},n∉ks l->fnd l n=none
 | [],_=>rfl
 |p::l,h=>by simp only[ks,ae,ao,not_or]at h;rw[fnd,if_neg (fun e=>h.1 e.symm)];exact z2w h.2
theorem z26 {n:Str}{v:Int}:∀{l:P},fnd l n=some v->(n,v)∈l
 | [],h=>by cases h
 |p::l,h=>by
  rw[fnd]at h;split at h
  ·rename_i e;cases h;subst e;exact au
  ·exact aw _ (z26 h)
theorem zlp {n:Str}{v:Int}{l:P}(h:fnd l n=some v):n∈ks l:=bq.mpr ⟨_,z26 h,rfl⟩
theorem z6b:∀{l:P} {p:Str×Int},(ks l).Nodup->p∈l->fnd l p.1=some p.2
 |q::l,p,nd,h=>by
  rw[ks,ae,c9]at nd;rw[fnd];rcases(ao.mp h)with rfl|h
  ·rw[if_pos rfl]
  ·rw[if_neg fun e:q.1=p.1=>nd.1 (bq.mpr ⟨p,h,e.symm⟩)];exact z6b nd.2 h
theorem zq3 {l:P}{n:Str}(h:n∈ks l):∃v,fnd l n=some v:=by
 cases e:fnd l n with
 |some v=>exact⟨v,rfl⟩
 |none=>
  exfalso
  induction l with
  |nil=>cases h
  |cons p l ih=>
   rw[fnd]at e;split at e
   ·cases e
   ·rename_i hn;rcases ao.mp h with h|h
    ·exact hn h.symm
    ·exact ih h e
theorem zc1 (n:Str)(v:Int)(m:Str):∀l:P,fnd (put l n v) m=if n=m then some v else fnd l m
 | []=>by simp[put,fnd]
 |p::l=>by
  rw[put];split
  ·rename_i e;subst e;rw[fnd,fnd];split<;>rfl
  ·rename_i e;rw[fnd,fnd,zc1 n v m l];split
   ·rename_i e2;rw[if_neg fun z=>e (e2.trans z.symm)]
   ·rfl
theorem zf9 (n:Str)(v:Int)(m:Str)(l:P):look (put l n v) m=if n=m then v else look l m:=by rw[look,zc1];split<;>rfl
theorem zb0 (n:Str)(v:Int):∀l:P,∀m,m∈ks (put l n v)↔m=n\/m∈ks l
 | [],m=>by simp[put,ks]
 |p::l,m=>by
  rw[put];split
  ·rename_i e;subst e;simp[ks]
  ·have :=zb0 n v l m;simp only[ks,ae,ao]at this ⊢;rw[this];constructor
   ·rintro(h|h|h)<;>simp[h]
   ·rintro(h|h|h)<;>simp[h]
theorem zbf (n:Str)(v:Int):∀l:P,(ks l).Nodup->(ks (put l n v)).Nodup
 | [],_=>by simp[put,ks]
 |p::l,h=>by
  rw[put];split
  ·exact h
  ·rename_i e;rw[ks,ae,c9]at h ⊢;refine⟨fun z=>?_,zbf n v l h.2⟩;rcases(zb0 n v l p.1).mp z with z|z
   ·exact e z
   ·exact h.1 z
theorem ze7 (n:Str)(v:Int):∀l:P,(put l n v).length<=l.length+1
 | []=>ah _
 |p::l=>by
  rw[put];split
  ·simp
  ·have :=ze7 n v l;simp only[ay];omega
theorem zh0:∀{a b:List Str},a.Nodup->(∀x∈a,x∈b)->a.length<=b.length
 | [],b,_,_=>ce _
 |x::a,b,nd,h=>by rw[c9]at nd;have hx:=h x au;have:=zh0 (a:=a) (b:=b.erase x) nd.2 fun y hy=>(List.mem_erase_of_ne fun e:y=x=>nd.1 (e▸hy)).mpr (h y (aw _ hy));rw[List.length_erase_of_mem hx]at this;have:0<b.length:=List.length_pos_of_mem hx;simp only[ay];omega
theorem z61 (a b:Str):eqK (.str a) (.str b)=decide (a=b):=by simp only[eqK]
theorem zl1 (a:Str):isK (.str a)=true:=by simp only[isK]
theorem za2 (n:Str):∀l:P,z28 (en l) (.str n)=(fnd l n).map .int
 | []=>rfl
 |p::l=>by
  have ih:=za2 n l;unfold z28 at ih ⊢;rw[en,ae,gw,fnd];show Option.map _ (match eqK (.str p.1) (.str n)with|true=>_|false=>_)=_;rw[z61];by_cases h:p.1=n
  ·rw[if_pos h];simp[h,ep]
  ·rw[if_neg h];simp only[h,decide_false];exact ih
theorem zdz (n:Str):∀l:P,((en l).any fun e=>eqK e.1 (.str n))=true↔n∈ks l
 | []=>by simp[en,ks]
 |p::l=>by rw[en,ae,ij];show(eqK (.str p.1) (.str n)||_)=true↔_;rw[z61,cj,ks,ae,ao];have:=zdz n l;rw[en,ks]at this;rw[this];simp[eq_comm]
theorem zhv {n:Str}{v:Int}:∀{l:P},(ks l).Nodup->n∈ks l->(en l).map (fun e=>if eqK e.1 (.str n)then(e.1,.int v)else e)=en (put l n v)
 |p::l,nd,h=>by
  rw[ks,ae,c9]at nd;rw[put,en,ae,ae];show(if eqK (.str p.1) (.str n)=true then _ else _)::_=_;rw[z61];by_cases e:p.1=n
  ·have hn:∀q∈l,¬q.1=n:=fun q hq z=>nd.1 (bq.mpr ⟨q,hq,z.trans e.symm⟩);rw[if_pos e,if_pos (by simpa using e)];rw[en,ae]
   congr 1
   rw[di];apply jb;intro q hq;show(if eqK (.str q.1) (.str n)=true then _ else _)=ep q;rw[z61,if_neg (by simpa using hn q hq)]
  ·rw[if_neg e,if_neg (by simpa using e)];rw[en,ae]
   congr 1
   refine zhv (l:=l) nd.2 ?_;rcases ao.mp h with h|h
   ·exact(e h.symm).elim
   ·exact h
theorem zch {n:Str}{v:Int}:∀{l:P},n∉ks l->put l n v=l++[(n,v)]
 | [],_=>rfl
 |p::l,h=>by simp only[ks,ae,ao,not_or]at h;rw[put,if_neg fun e=>h.1 e.symm,zch h.2];rfl
theorem zk1 {n:Str}{v:Int}{l:P}(nd:(ks l).Nodup):dput (en l) (.str n) (.int v)=en (put l n v):=by
 unfold dput;by_cases h:n∈ks l
 ·rw[if_pos ((zdz n l).mpr h)];exact zhv nd h
 ·rw[if_neg fun z=>h ((zdz n l).mp z),zch h];simp[en,ep]
theorem zqs (l:P):(en l).map ent=l.map pr:=by rw[en,di];rfl
theorem zhh (l:P):(en l).length=l.length:=by rw[en,am]
theorem zjk (l:P):immE (en l)=true:=by unfold immE;rw[ax];intro e he;obtain⟨p,_,rfl⟩:=bq.mp he;rfl
theorem zkm (l:P):imms (l.map pr)=true:=z32.mpr fun x hx=>by obtain⟨p,_,rfl⟩:=bq.mp hx;rfl
theorem z0a (l:P):imm (pk l)=true:=zkm l
theorem zk3 (n:Nat)(p:Str×Int):shal (n+1) (pr p)=true:=by cases n<;>rfl
theorem zb1 (n:Nat)(l:P):shal (n+2) (pk l)=true:=by show z1y (n+1) (l.map pr)=true;exact z4j.mpr fun x hx=>by obtain⟨p,_,rfl⟩:=bq.mp hx;exact zk3 n p
theorem zof (p:Str×Int):eqD (pr p) (pr p)=true:=by simp[eqD,pr,PyData.eqv,PyData.eqvAll]
theorem z7q:∀l:P,PyData.eqvAll (l.map pr) (l.map pr)=true
 | []=>by simp[PyData.eqvAll]
 |p::l=>by rw[ae,PyData.eqvAll,z7q l];simpa using zof p
theorem zns (l:P):eqD (pk l) (pk l)=true:=by show PyData.eqv (.tuple _) (.tuple _)=true;rw[PyData.eqv];exact z7q l
theorem zb4 (l:P):z2a (l.map pr)=true:=by
 cases l with
 |nil=>rfl
 |cons p l=>
  unfold z2a;have:((p::l).map pr).all (z2u ([PyData.str p.1,PyData.int p.2].map isI))=true:=by rw[ax];intro x hx;obtain⟨q,_,rfl⟩:=bq.mp hx;rfl
  simp only[ae]at this ⊢;rw[cj];right;exact ba.mpr ⟨rfl,this⟩
def lp (p q:Str×Int):Bool:=ltD (pr p) (pr q)
def insP (x:Str×Int):P->P
 | []=>[x]
 |y::ys=>if lp y x then y::insP x ys else x::y::ys
def srt:P->P
 | []=>[]
 |x::xs=>insP x (srt xs)
theorem zhb (x:Str×Int):∀l:P,insD (pr x) (l.map pr)=(insP x l).map pr
 | []=>rfl
 |y::l=>by
  rw[ae,insD,insP,lp];split
  ·rw[zhb x l];rfl
  ·rfl
theorem zi6:∀l:P,z1h (l.map pr)=(srt l).map pr
 | []=>rfl
 |x::l=>by rw[ae,z1h,zi6 l,zhb,srt]
theorem z5x (x:Str×Int):∀l:P,(insP x l).Perm (x::l)
 | []=>.refl _
 |y::l=>by
  rw[insP];split
  ·exact((z5x x l).cons y).trans (.swap x y l)
  ·exact .refl _
theorem z2v:∀l:P,(srt l).Perm l
 | []=>.refl _
 |x::l=>(z5x x (srt l)).trans ((z2v l).cons x)
theorem zok {p q:Str×Int}(h:p.1≠q.1):lp p q=true↔sl p.1 q.1:=by
 show ltD (.tuple [.str p.1,.int p.2]) (.tuple [.str q.1,.int q.2])=true↔_;simp only[ltD,ltDs];have:eqD (.str p.1) (.str q.1)=false:=by simp[eqD,PyData.eqv,h]
 rw[this];simp[sl]
def Sd (l:P):Prop:=l.Pairwise fun p q=>sl p.1 q.1
theorem zhp {x:Str×Int}:∀{l:P},Sd l->x.1∉ks l->Sd (insP x l)
 | [],_,_=>mx _ _
 |y::l,h,hx=>by
  have h':=cg.1 h;simp only[ks,ae,ao,not_or]at hx;rw[insP];split
  ·rename_i hl;have hy:=(zok (fun e=>hx.1 e.symm)).mp hl;refine cg.mpr ⟨fun z hz=>?_,zhp h'.2 hx.2⟩;rcases ao.mp ((z5x x l).mem_iff.mp hz)with rfl|hz
   ·exact hy
   ·exact h'.1 z hz
  ·rename_i hl
   have hy:sl x.1 y.1:=by
    rcases zh9 (a:=x.1) (b:=y.1) hx.1 with z|z
    ·exact z
    ·exact(hl ((zok (fun e=>hx.1 e.symm)).mpr z)).elim
   refine cg.mpr ⟨fun z hz=>?_,h⟩;rcases(ao.mp hz)with rfl|hz
   ·exact hy
   ·exact zjq hy (h'.1 z hz)
theorem zdm:∀{l:P},(ks l).Nodup->Sd (srt l)
 | [],_=>List.Pairwise.nil
 |x::l,nd=>by rw[ks,ae,c9]at nd;exact zhp (zdm nd.2) fun z=>nd.1 (((z2v l).map (·.1)).mem_iff.mp z)
theorem zqp {l:P}(h:Sd l):(ks l).Nodup:=by unfold ks List.Nodup;rw[rz];exact List.Pairwise.imp (fun z=>ztj z) h
theorem zff {a b:P}(h:a.Perm b)(nd:(ks b).Nodup)(n:Str):fnd a n=fnd b n:=by
 have nda:(ks a).Nodup:=(List.Perm.nodup_iff (h.map (fun p:Str×Int=>p.1))).mpr nd;cases e:fnd b n with
 |some v=>exact z6b nda (h.mem_iff.mpr (z26 e))
 |none=>
  cases e2:fnd a n with
  |none=>rfl
  |some v=>rw[z6b nd (h.mem_iff.mp (z26 e2))]at e;cases e
structure PK (l:P):Prop where
 sd:Sd l
 pos:∀p∈l,0<p.2
theorem PK.nd {l:P}(h:PK l):(ks l).Nodup:=zqp h.sd
theorem PK.nil:PK []:=⟨List.Pairwise.nil,fun _ h=>by cases h⟩
theorem PK.look_nn {l:P}(h:PK l)(n:Str):0<=look l n:=by
 unfold look;cases e:fnd l n with
 |none=>exact tm _
 |some v=>exact Int.le_of_lt (h.pos _ (z26 e))
theorem PK.key {l:P}(h:PK l){n:Str}:n∈ks l↔0<look l n:=by
 constructor
 ·intro z;obtain⟨v,e⟩:=zq3 z;unfold look;rw[e];exact h.pos _ (z26 e)
 ·intro z;unfold look at z;cases e:fnd l n with
  |none=>rw[e]at z;exact absurd z (by decide)
  |some v=>exact zlp e
theorem PK.look_mem {l:P}(h:PK l){p:Str×Int}(hp:p∈l):look l p.1=p.2:=by unfold look;rw[z6b h.nd hp];rfl
theorem PK.ext:∀{a b:P},PK a->PK b->(∀n,look a n=look b n)->a=b
 | [],[],_,_,_=>rfl
 | [],q::b,_,hb,h=>by have:=h q.1;rw[hb.look_mem au]at this;have z:0<q.2:=hb.pos _ au;rw[<-this]at z;exact absurd z (Int.lt_irrefl 0)
 |p::a,[],ha,_,h=>by have:=h p.1;rw[ha.look_mem au]at this;have z:0<p.2:=ha.pos _ au;rw[this]at z;exact absurd z (Int.lt_irrefl 0)
 |p::a,q::b,ha,hb,h=>by
  have no:∀{x y:Str×Int} {l m:P},PK (x::l)->PK (y::m)->(∀n,look (x::l) n=look (y::m) n)->¬sl x.1 y.1:=fun{x y l m} hx hy h z=>by
   have e:=h x.1;rw[hx.look_mem au]at e;have k:x.1∈ks (y::m):=hy.key.mpr (e▸hx.pos _ au);rcases ao.mp k with k|k
   ·exact zcw _ (k▸z)
   ·obtain⟨w,hw,e2⟩:=bq.mp k;have:=(cg.mp hy.sd).1 w hw;rw[e2]at this;exact zcw _ (zjq z this)
  have e1:p.1=q.1:=by
   by_cases e:p.1=q.1
   ·exact e
   ·rcases zh9 e with z|z
    ·exact(no ha hb h z).elim
    ·exact(no hb ha (fun n=>(h n).symm) z).elim
  have e2:p.2=q.2:=by have:=h p.1;rw[ha.look_mem au,e1,hb.look_mem au]at this;exact this
  have ep':p=q:=Prod.ext e1 e2;subst ep'
  congr 1
  have ta:PK a:=⟨(cg.mp ha.sd).2,fun x hx=>ha.pos x (aw _ hx)⟩;have tb:PK b:=⟨(cg.mp hb.sd).2,fun x hx=>hb.pos x (aw _ hx)⟩;refine PK.ext ta tb fun n=>?_;have hn:=h n;unfold look at hn ⊢;rw[fnd,fnd]at hn;by_cases e:p.1=n
  ·have na:n∉ks a:=by have :=ha.nd;rw[ks,ae,c9]at this;exact e▸this.1
   have nb:n∉ks b:=by have:=hb.nd;rw[ks,ae,c9]at this;exact e▸this.1
   rw[z2w na,z2w nb]
  ·rw[if_neg e,if_neg e]at hn;exact hn
end
section
open PySem
section
variable {Κ:List D}{Φ:List Fn}{ρ:Rho}{a b c t:C}{p q:S}{i:Nat}{f:D->Rho->Res Out}{x:D}{xs:List D}
theorem zmx:evS Κ Φ (.seq p q) ρ=outB (evS Κ Φ p ρ) (evS Κ Φ q):=rfl
theorem zd6:evS Κ Φ (.asg (.nm i) t) ρ=(evE Κ Φ t ρ>>=fun x=>.ok (.nx (ρ.set i (some (z1s x))))):=rfl
theorem R_if:evS Κ Φ (.ifS c p q) ρ=(evT Κ Φ c ρ>>=fun k=>if k then evS Κ Φ p ρ else evS Κ Φ q ρ):=rfl
theorem zij:evS Κ Φ (.ret (.var i)) ρ=(match ρ[i]? with|some (some (g,d))=>.ok (.rt (if imm d then .fr else rtG g) d)|_=>.no):=rfl
theorem zul:evS Κ Φ (.setIx i a b) ρ=(evE Κ Φ b ρ>>=fun y=>evE Κ Φ a ρ>>=fun x=>match ρ[i]? with
 |some (some (.fr,.dict es))=>if isK x.2&&okIn y&&decide (es.length<LIM)then .ok (.nx ((ρ.set i (some (.fr,.dict (dput es x.2 y.2)))).map z2l))else .no
 |some (some (.fr,.list xs))=>(match x.2 with
  |.int j=>if okIn y then(match ixN xs.length j with|some n=>.ok (.nx ((ρ.set i (some (.fr,.list (xs.set n y.2)))).map z2l))|none=>.no)else .no
  |_=>.no)
 |_=>.no):=rfl
theorem zs2 {m:String}:evS Κ Φ (.mut m i a) ρ=(evA Κ Φ a ρ>>=fun ys=>match ρ[i]? with
 |some (some (.fr,.list xs))=>mutD m xs ys>>=fun xs'=>.ok (.nx ((ρ.set i (some (.fr,.list xs'))).map z2l))
 |_=>.no):=rfl
theorem zsw {t':Tg}:evS Κ Φ (.for_ t' a p) ρ=(evF Κ Φ a ρ>>=fun w=>forD (fun x ρ1=>z0x t' (gJ x w.1,x) ρ1>>=fun ρ2=>evS Κ Φ p ρ2) w.2.1 w.2.2):=rfl
theorem zoe:forD f (x::xs) ρ=(match f x ρ with
 |.ok (.nx ρ')=>forD f xs ρ'
 |.ok (.rt g d)=>.ok (.rt g d)
 |.exc e=>.exc e
 |.no=>.no):=rfl
theorem zqz:evA Κ Φ .nil ρ=.ok []:=rfl
theorem z8z:evA Κ Φ (.cons a b) ρ=(evE Κ Φ a ρ>>=fun x=>evA Κ Φ b ρ>>=fun xs=>.ok (x::xs)):=rfl
theorem O_tv:evO Κ Φ (.tv a) ρ=(evE Κ Φ a ρ>>=fun x=>intO x.2):=rfl
theorem G_tv:evG Κ Φ (.tv a) ρ=(evE Κ Φ a ρ>>=fun x=>z4z x.2>>=fun p=>.ok (x.1,p)):=rfl
theorem T_tv:evT Κ Φ (.tv a) ρ=(evE Κ Φ a ρ>>=fun x=>z1i x.2):=rfl
theorem zud:evT Κ Φ (.and a b) ρ=(evT Κ Φ a ρ>>=fun c=>if c then evT Κ Φ b ρ else .ok false):=rfl
theorem T_or:evT Κ Φ (.or a b) ρ=(evT Κ Φ a ρ>>=fun c=>if c then .ok true else evT Κ Φ b ρ):=rfl
theorem zu0:evT Κ Φ (.not a) ρ=(evT Κ Φ a ρ>>=fun c=>.ok (!c)):=rfl
theorem W_tv:evW Κ Φ (.tv a) ρ=(evE Κ Φ a ρ>>=fun x=>z40 x.2>>=fun xs=>.ok (x.1,xs)):=rfl
theorem zsh:evW Κ Φ (.rng a) ρ=(evA Κ Φ a ρ>>=fun ys=>rngD (ys.map (·.2))>>=fun xs=>.ok (.fr,xs)):=rfl
theorem zmw:evF Κ Φ (.tv (.var i)) ρ=(if ownB ρ i then zez i ρ else if isAl Κ Φ (.tv (.var i)) ρ then evE Κ Φ (.var i) ρ>>=fun x=>evAl x ρ else evN Κ Φ (.tv (.var i)) ρ):=rfl
theorem R_tv (hv:∀i,a≠.var i):evF Κ Φ (.tv a) ρ=(if isAl Κ Φ (.tv a) ρ then evE Κ Φ a ρ>>=fun x=>evAl x ρ else evN Κ Φ (.tv a) ρ):=by cases a<;>first|exact absurd rfl (hv _)|rfl
end
theorem z0m {Κ:List D}{Φ:List Fn}{a b:S}{ρ ρ':Rho}{r:Res Out}(h:evS Κ Φ a ρ=.ok (.nx ρ'))(k:evS Κ Φ b ρ'=r):evS Κ Φ (.seq a b) ρ=r:=by rw[zmx,h];exact k
theorem z0f {Κ:List D}{Φ:List Fn}{a b:S}{ρ:Rho}{g:G}{d:D}(h:evS Κ Φ a ρ=.ok (.rt g d)):evS Κ Φ (.seq a b) ρ=.ok (.rt g d):=by rw[zmx,h];rfl
theorem z11 {Κ:List D}{Φ:List Fn}{n:Nat}{s:S}{ds:List D}{g:G}{d:D}(h:evS Κ Φ s (ds.map (fun d=>some (.od,d))++bw (n-ds.length) none)=.ok (.rt g d)):runD Κ Φ n s ds=.ok (g,d):=by unfold runD;rw[h]
theorem zbw {α β:Type}{f:D->Rho->Res Out}{m:β->D}(I:α->Rho->Prop)(step:α->β->α):∀(xs:List β) (a:α) (ρ:Rho),(∀a x ρ,x∈xs->I a ρ->∃ρ',f (m x) ρ=.ok (.nx ρ')/\I (step a x) ρ')->I a ρ->∃ρ',forD f (xs.map m) ρ=.ok (.nx ρ')/\I (xs.foldl step a) ρ'
 | [],a,ρ,_,h=>⟨ρ,rfl,h⟩
 |x::xs,a,ρ,hf,h=>by obtain⟨ρ1,e,h1⟩:=hf a x ρ au h;obtain⟨ρ2,e2,h2⟩:=zbw I step xs (step a x) ρ1 (fun a y ρ hy=>hf a y ρ (aw _ hy)) h1;exact⟨ρ2,by rw[ae,zoe,e];exact e2,h2⟩
theorem zay {β:Type}{f:D->Rho->Res Out}{m:β->D}(I:List β->Rho->Prop):∀(xs pre:List β) (ρ:Rho),(∀pr' x post ρ,pre++xs=pr'++x::post->I pr' ρ->∃ρ',f (m x) ρ=.ok (.nx ρ')/\I (pr'++[x]) ρ')->I pre ρ->∃ρ',forD f (xs.map m) ρ=.ok (.nx ρ')/\I (pre++xs) ρ'
 | [],pre,ρ,_,h=>⟨ρ,rfl,by rw[dn];exact h⟩
 |x::xs,pre,ρ,hf,h=>by
  obtain⟨ρ1,e,h1⟩:=hf pre x xs ρ rfl h;have e0:pre++[x]++xs=pre++x::xs:=by rw[g8];rfl
  obtain⟨ρ2,e2,h2⟩:=zay I xs (pre++[x]) ρ1 (fun pr' y post ρ hy=>hf pr' y post ρ (e0▸hy)) h1;exact⟨ρ2,by rw[ae,zoe,e];exact e2,e0▸h2⟩
theorem z8x {β:Type}{f:D->Res (Option GD)}{m:β->D}(g:β->Option D):∀(xs:List β),(∀x∈xs,f (m x)=.ok ((g x).map fun d=>(.fr,d)))->z3j f (xs.map m)=.ok ((xs.filterMap g).map fun d=>(.fr,d))
 | [],_=>rfl
 |x::xs,h=>by
  rw[ae,z3j,h x au,Res.ok_bind,z8x g xs fun y hy=>h y (aw _ hy),Res.ok_bind];cases e:g x with
  |none=>rw[ml e];rfl
  |some d=>rw[mm e];rfl
theorem zpc (xs:List D):gCo (xs.map fun d=>(G.fr,d))=.fr:=by unfold gCo;rw[if_pos];rw[lh];exact ax.mpr fun _ _=>rfl
theorem zld (xs:List D):gAll (xs.map fun d=>(G.fr,d))=.fr:=by unfold gAll;rw[if_pos];rw[ax];intro x hx;obtain⟨d,_,rfl⟩:=bq.mp hx;rfl
theorem zeb (xs:List D):(xs.map fun d=>(G.fr,d)).map (fun x=>x.2)=xs:=by rw[di];exact List.map_id _
theorem z1v (a b:Int):biD "max" [.int a,.int b]=.ok (.int (max a b)):=rfl
theorem z21 (a b:Int):biD "min" [.int a,.int b]=.ok (.int (min a b)):=rfl
theorem zqt (l:P)(n:Str)(v:Int):mtD "get" (.dict (en l)) [.str n,.int v]=.ok (.int ((fnd l n).getD v)):=by have:mtD "get" (.dict (en l)) [.str n,.int v]=.ok ((z28 (en l) (.str n)).getD (.int v)):=rfl;rw[this,za2];cases fnd l n<;>rfl
theorem z0h (l:P)(n:Str):mtD "get" (.dict (en l)) [.str n,.int 0]=.ok (.int (look l n)):=zqt l n 0
theorem zbi (l:Bool)(xs:List D):aggD "tuple" l xs=.ok (.tuple xs):=rfl
theorem zgv (l:Bool)(xs:List D):aggD "list" l xs=.ok (.list xs):=rfl
def chr (z:Str)(i:Int):Str:=⟨#[z.cps.toList.getD i.toNat 0]⟩
theorem z89 (z:Str)(i:Int):(chr z i).length=1:=rfl
theorem z13 (a b:Str):(a++b).length=a.length+b.length:=by show Array.size (a.cps++b.cps)=_;rw[l9];rfl
theorem zc8 {α:Type}(xs:List α)(i:Int)(d:α)(h0:0<=i)(h1:i<xs.length):atI xs i=some (xs.getD i.toNat d):=by
 unfold atI ixN;rw[if_pos h0,if_pos h1];show xs[i.toNat]?=_;have:i.toNat<xs.length:=by omega
 rw[bd this,a9,bd this];rfl
theorem z3u {z:Str}{i:Int}(h0:0<=i)(h1:i<z.length)(hz:z.length<=1000):ixD (.str z) (.int i)=.ok (.str (chr z i)):=by show(if z.length<=LIM then Res.ofO ((atI z.cps.toList i).map fun c=>PyData.str ⟨#[c]⟩)else .no)=_;rw[if_pos (by unfold LIM;omega),zc8 _ i 0 h0 (by rw[bp];exact h1)];rfl
theorem zc9 {ns:List Str}{i:Int}(h0:0<=i)(h1:i<ns.length):ixD (.list (ns.map .str)) (.int i)=.ok (.str (ns.getD i.toNat ⟨#[]⟩)):=by
 show Res.ofO (atI (ns.map PyData.str) i)=_;rw[zc8 _ i (.str ⟨#[]⟩) h0 (by rw[am];exact h1)];show Res.ok _=_
 congr 1
 have:i.toNat<ns.length:=by omega
 rw[a9,a9,bo,bd this];rfl
theorem z8g {ns:List Int}{i:Int}(h0:0<=i)(h1:i<ns.length):ixD (.list (ns.map .int)) (.int i)=.ok (.int (ns.getD i.toNat 0)):=by
 show Res.ofO (atI (ns.map PyData.int) i)=_;rw[zc8 _ i (.int 0) h0 (by rw[am];exact h1)];show Res.ok _=_
 congr 1
 have:i.toNat<ns.length:=by omega
 rw[a9,a9,bo,bd this];rfl
theorem getD_mem {α:Type}{ns:List α}{i:Int}{d:α}(h0:0<=i)(h1:i<ns.length):ns.getD i.toNat d∈ns:=by
 have:i.toNat<ns.length:=by omega
 rw[a9,bd this];exact ez this
theorem add_str {a b:Str}(h:a.length+b.length<=1000):binD .Add (.str a) (.str b)=.ok (.str (a++b)):=by show(if _ then _ else _)=_;rw[if_pos (by unfold LIM;omega)]
theorem add_list {a b:List D}(h:a.length+b.length<=1000):binD .Add (.list a) (.list b)=.ok (.list (a++b)):=by show(if _ then _ else _)=_;rw[if_pos (by unfold LIM;omega)]
theorem zca {a b:Int}(h:-(2 ^ 64)<b/\b<2 ^ 64):binD .Mult (.int a) (.int b)=.ok (.int (a*b)):=by show(if _ then _ else _)=_;rw[if_pos (.inr h)]
theorem znm {a b:Int}(h:-(2 ^ 64)<a/\a<2 ^ 64):binD .Mult (.int a) (.int b)=.ok (.int (a*b)):=by show(if _ then _ else _)=_;rw[if_pos (.inl h)]
theorem z20 {a b:Int}(h:0<b):binD .Mod (.int a) (.int b)=.ok (.int (a%b)):=by show(if _ then _ else _)=_;rw[if_pos h]
theorem zrn:binD .Pow (.int 10) (.int 15)=.ok (.int 1000000000000000):=rfl
theorem zu6:binD .Pow (.int 10) (.int 30)=.ok (.int 1000000000000000000000000000000):=rfl
theorem zv1:binD .Pow (.int 10) (.int 40)=.ok (.int 10000000000000000000000000000000000000000):=rfl
theorem zrc {n:Int}(h0:0<=n)(h1:n<=1000):rngD [.int n]=.ok ((b8 n.toNat).map fun(i:Nat)=>.int i):=by show(if _ then _ else _)=_;rw[if_pos (by unfold LIM;omega)]
theorem z4s {z:Str}{i j:Option Int}(h:z.length<=1000):slD (.str z) i j=.ok (.str (z0k z i j)):=by show(if _ then _ else _)=_;rw[if_pos (by unfold LIM;omega)]
theorem z8v (z:Str)(i j:Option Int):(z0k z i j).length<=z.length:=by show(f8 (cut z.cps.toList i j)).size<=z.cps.size;unfold cut;rw[aq,d6,dq,bp];omega
theorem z19 (ns:List Str):imms (ns.map .str)=true:=z32.mpr fun x hx=>by obtain⟨p,_,rfl⟩:=bq.mp hx;rfl
theorem z4x (ns:List Int):imms (ns.map .int)=true:=z32.mpr fun x hx=>by obtain⟨p,_,rfl⟩:=bq.mp hx;rfl
theorem z2b:∀(ns:List Str),allS (ns.map .str)=some ns
 | []=>rfl
 |n::ns=>by rw[ae,allS,z2b ns];rfl
theorem z7e:∀(ss:List Str),(∀s∈ss,s.length=1)->(z1p "" ss).length=ss.length
 | [],_=>rfl
 |x::r,h=>by
  show(f8 (x.cps.toList++(r.map fun p=>([]:List Nat)++p.cps.toList).flatten)).size=_;have hx:=h x au
  have h2:∀(r:List Str),(∀s∈r,s.length=1)->((r.map fun p=>([]:List Nat)++p.cps.toList).flatten).length=r.length:=by
   intro r
   induction r with
   |nil=>intro _;rfl
   |cons y r ih=>intro h;have hy:=h y au;rw[ae,fm,az,ih fun s hs=>h s (aw _ hs)];have:(([]:List Nat)++y.cps.toList).length=1:=hy;rw[this,ay];omega
  rw[aq,az,h2 r fun s hs=>h s (aw _ hs)];have:x.cps.toList.length=1:=hx;rw[this,ay];omega
theorem zpq {ss:List Str}(h:∀s∈ss,s.length=1)(hl:ss.length<=1000):mtD "join" (.str "") [.list (ss.map .str)]=.ok (.str (z1p "" ss)):=by
 have:mtD "join" (.str "") [.list (ss.map .str)]=(match allS (ss.map .str)with|some ss=>if z4w "" ss<=LIM then .ok (.str (z1p "" ss))else .no|none=>.no):=rfl;rw[this,z2b]
 dsimp only
 rw[if_pos];unfold z4w;have h0:("":Str).length=0:=rfl
 have h1:∀(r:List Str),(∀s∈r,s.length=1)->(r.map (·.length)).sum=r.length:=by
  intro r
  induction r with
  |nil=>intro _;rfl
  |cons y r ih=>intro h;rw[ae,gi,h y au,ih fun s hs=>h s (aw _ hs),ay];omega
 rw[h1 ss h,h0];unfold LIM;omega
theorem zk4 (a b:Int):eqD (.int a) (.int b)=decide (a=b):=by show(a==b)=_;rfl
section
variable {Κ:List D}{Φ:List Fn}{ρ:Rho}
theorem z8c:evE Κ Φ (.var i) ρ=(rdS ρ[i]?):=rfl
theorem zse:evE Κ Φ (.non) ρ=(.ok (.fr,.none)):=rfl
theorem E_bl:evE Κ Φ (.bl b) ρ=(.ok (.fr,.bool b)):=rfl
theorem zs7:evE Κ Φ (.int i) ρ=(.ok (.fr,.int i)):=rfl
theorem ztw:evE Κ Φ (.str x) ρ=(.ok (.fr,.str x)):=rfl
theorem zc7:evE Κ Φ (.bin op a b) ρ=(evE Κ Φ a ρ>>=fun x=>evE Κ Φ b ρ>>=fun y=>binD op x.2 y.2>>=fun d=>.ok (gN d (gAll [x,y]),d)):=rfl
theorem zss:evE Κ Φ (.neg a) ρ=(evE Κ Φ a ρ>>=fun x=>match x.2 with|.int i=>.ok (.fr,.int (-i))|_=>.no):=rfl
theorem zv8:evE Κ Φ (.cmp op a b) ρ=(evE Κ Φ a ρ>>=fun x=>evE Κ Φ b ρ>>=fun y=>cmpD op x.2 y.2>>=fun b=>.ok (.fr,.bool b)):=rfl
theorem zkn:evE Κ Φ (.chain op op' a b c) ρ=(evE Κ Φ a ρ>>=fun x=>evE Κ Φ b ρ>>=fun y=>cmpD op x.2 y.2>>=fun k=>if k then evE Κ Φ c ρ>>=fun z=>cmpD op' y.2 z.2>>=fun k'=>.ok (.fr,.bool k')else .ok (.fr,.bool false)):=rfl
theorem zsx:evE Κ Φ (.isN ng a) ρ=(evE Κ Φ a ρ>>=fun x=>.ok (.fr,.bool (match x.2 with|.none=>!ng|_=>ng))):=rfl
theorem zrr:evE Κ Φ (.and a b) ρ=(evE Κ Φ a ρ>>=fun x=>match x.2 with|.bool c=>if c then evE Κ Φ b ρ else .ok (.fr,.bool false)|_=>.no):=rfl
theorem zv0:evE Κ Φ (.not a) ρ=(evE Κ Φ a ρ>>=fun x=>z1i x.2>>=fun c=>.ok (.fr,.bool (!c))):=rfl
theorem zn2:evE Κ Φ (.ife c a b) ρ=(evT Κ Φ c ρ>>=fun k=>if k then evE Κ Φ a ρ else evE Κ Φ b ρ):=rfl
theorem zsb:evE Κ Φ (.tup xs) ρ=(evA Κ Φ xs ρ>>=fun ys=>.ok (gJ (.tuple (ys.map (·.2))) (gAll ys),.tuple (ys.map (·.2)))):=rfl
theorem zfn:evE Κ Φ (.lst xs) ρ=(evA Κ Φ xs ρ>>=fun ys=>.ok (gAll ys,.list (ys.map (·.2)))):=rfl
theorem zmp:evE Κ Φ (.dnew) ρ=(.ok (.fr,.dict [])):=rfl
theorem E_ix:evE Κ Φ (.ix a b) ρ=(evE Κ Φ a ρ>>=fun x=>evE Κ Φ b ρ>>=fun y=>ixD x.2 y.2>>=fun d=>.ok (gJ d x.1,d)):=rfl
theorem E_sl:evE Κ Φ (.sl a lo hi) ρ=(evE Κ Φ a ρ>>=fun x=>evO Κ Φ lo ρ>>=fun l=>evO Κ Φ hi ρ>>=fun h=>slD x.2 l h>>=fun d=>.ok (gN d (gAll [x]),d)):=rfl
theorem z4c:evE Κ Φ (.call k w1 args) ρ=(evA Κ Φ args ρ>>=fun ys=>match Φ[k]? with|some m=>m (ys.map (·.2))>>=fun r=>.ok (gJ r.2 (rtG r.1),r.2)|none=>.no):=rfl
theorem E_bi:evE Κ Φ (.bi f args) ρ=(evA Κ Φ args ρ>>=fun ys=>biD f (ys.map (·.2))>>=fun d=>.ok (gJ d .al,d)):=rfl
theorem zqu:evE Κ Φ (.agg f a) ρ=(evG Κ Φ a ρ>>=fun w=>aggD f w.2.1 w.2.2>>=fun d=>.ok (gJ d (if imms w.2.2 then .fr else agG w.1),d)):=rfl
theorem zv3:evE Κ Φ (.isT a ts) ρ=(evE Κ Φ a ρ>>=fun x=>.ok (.fr,.bool (ts.any fun T=>isTy (tyOf x.2) T))):=rfl
theorem E_mt:evE Κ Φ (.mt m o args) ρ=(evE Κ Φ o ρ>>=fun x=>evA Κ Φ args ρ>>=fun ys=>mtD m x.2 (ys.map (·.2))>>=fun d=>.ok (gJ d .al,d)):=rfl
theorem E_fs:evE Κ Φ (.fs a x b) ρ=(evE Κ Φ a ρ>>=fun u=>txtD u.2>>=fun p=>evE Κ Φ b ρ>>=fun v=>txtD v.2>>=fun q=>if p.length+x.length+q.length<=LIM then .ok (.fr,.str (p++x++q))else .no):=rfl
theorem ztg:evE Κ Φ (.spl a b) ρ=(evE Κ Φ a ρ>>=fun x=>evE Κ Φ b ρ>>=fun y=>splD x.2 y.2>>=fun d=>.ok (.fr,d)):=rfl
theorem zmg:evE Κ Φ (.sortI i) ρ=(match ρ[i]? with
 |some (some (_,.dict es))=>if immE es&&z2a (es.map ent)&&decide (es.length<64)then .ok (.fr,.list (z1h (es.map ent)))else .no
 |_=>.no):=rfl
theorem znh {cond:C}:evE Κ Φ (.comp nt js w1 tg it cond elt) ρ=(evW Κ Φ it ρ>>=fun w=>z3j (fun x=>z0x tg (gJ x w.1,x) (bw nt none++js.map fun j=>toAl (ρ.getD j none))>>=fun ρ1=>evT Κ Φ cond ρ1>>=fun k=>if k then evE Κ Φ elt ρ1>>=fun y=>.ok (some y)else .ok none) w.2>>=fun ys=>.ok (gCo ys,.list (ys.map (·.2)))):=rfl
end
section
variable {Κ:List D}{Φ:List Fn}{ρ:Rho}{a b c t o args:C}{x y d:D}{ds:List D}{k k':Bool}{g:G}
def Ev (Κ:List D)(Φ:List Fn)(c:C)(ρ:Rho)(d:D):Prop:=∃g,evE Κ Φ c ρ=.ok (g,d)
def Vv (Κ:List D)(Φ:List Fn)(c:C)(ρ:Rho)(d:D):Prop:=evE Κ Φ c ρ=.ok (.fr,d)/\imm d=true
def Aa (Κ:List D)(Φ:List Fn)(c:C)(ρ:Rho)(ds:List D):Prop:=∃ys,evA Κ Φ c ρ=.ok ys/\ys.map (·.2)=ds
def Av (Κ:List D)(Φ:List Fn)(c:C)(ρ:Rho)(ds:List D):Prop:=evA Κ Φ c ρ=.ok (ds.map fun d=>(.fr,d))/\imms ds=true
def Tt (Κ:List D)(Φ:List Fn)(c:C)(ρ:Rho)(k:Bool):Prop:=evT Κ Φ c ρ=.ok k
theorem Vv.e (h:Vv Κ Φ c ρ d):Ev Κ Φ c ρ d:=⟨_,h.1⟩
theorem Ev.of (h:evE Κ Φ c ρ=.ok (g,d)):Ev Κ Φ c ρ d:=⟨_,h⟩
theorem z01 {i:Nat}(h:ρ[i]?=some (some (g,d))):Ev Κ Φ (.var i) ρ d:=⟨_,by rw[z8c];rw[h];rfl⟩
theorem v_var {i:Nat}(h:ρ[i]?=some (some (g,d)))(hi:imm d=true):Vv Κ Φ (.var i) ρ d:=⟨by rw[z8c];rw[h];show Res.ok (if imm d=true then _ else _,d)=_;rw[if_pos hi],hi⟩
theorem z04 {i:Int}:Vv Κ Φ (.int i) ρ (.int i):=⟨by rw[zs7],rfl⟩
theorem z0e {i:Str}:Vv Κ Φ (.str i) ρ (.str i):=⟨by rw[ztw],rfl⟩
theorem v_bl {i:Bool}:Vv Κ Φ (.bl i) ρ (.bool i):=⟨by rw[E_bl],rfl⟩
theorem z1j:Vv Κ Φ .non ρ .none:=⟨by rw[zse],rfl⟩
theorem z4y (hi:imm d=true):gJ d g=.fr:=by unfold gJ;rw[if_pos hi]
theorem zid (hi:imm d=true):gN d g=.fr:=by cases d<;>first|exact z4y hi|cases hi
theorem z09 {op:jc}(ha:Ev Κ Φ a ρ x)(hb:Ev Κ Φ b ρ y)(h:binD op x y=.ok d)(hi:imm d=true):Vv Κ Φ (.bin op a b) ρ d:=by obtain⟨g1,ha⟩:=ha;obtain⟨g2,hb⟩:=hb;refine⟨?_,hi⟩;rw[zc7];rw[ha,Res.ok_bind,hb,Res.ok_bind];dsimp only;rw[h,Res.ok_bind,zid hi]
theorem zfk {op:jc}{xs:List D}(ha:Ev Κ Φ a ρ x)(hb:Ev Κ Φ b ρ y)(h:binD op x y=.ok (.list xs))(hi:imms xs=true):evE Κ Φ (.bin op a b) ρ=.ok (.fr,.list xs):=by obtain⟨g1,ha⟩:=ha;obtain⟨g2,hb⟩:=hb;rw[zc7];rw[ha,Res.ok_bind,hb,Res.ok_bind];dsimp only;rw[h,Res.ok_bind];show Res.ok (if imms xs=true then _ else _,_)=_;rw[if_pos hi]
theorem z0o {op:CmpOp}(ha:Ev Κ Φ a ρ x)(hb:Ev Κ Φ b ρ y)(h:cmpD op x y=.ok k):Vv Κ Φ (.cmp op a b) ρ (.bool k):=by obtain⟨g1,ha⟩:=ha;obtain⟨g2,hb⟩:=hb;refine⟨?_,rfl⟩;rw[zv8];rw[ha,Res.ok_bind,hb,Res.ok_bind];dsimp only;rw[h];rfl
def isNo:D->Bool
 |.none=>true
 |_=>false
theorem zl7 {ng:Bool}(ha:Ev Κ Φ a ρ x):Vv Κ Φ (.isN ng a) ρ (.bool (if isNo x then !ng else ng)):=by obtain⟨g1,ha⟩:=ha;refine⟨?_,rfl⟩;rw[zsx];rw[ha];cases x<;>rfl
theorem v_and (ha:Ev Κ Φ a ρ (.bool k))(hb:k=true->Vv Κ Φ b ρ (.bool k')):Vv Κ Φ (.and a b) ρ (.bool (k&&k')):=by
 obtain⟨g1,ha⟩:=ha;refine⟨?_,rfl⟩;rw[zrr];rw[ha];cases k with
 |true=>exact(hb rfl).1
 |false=>rfl
theorem v_not (ha:Ev Κ Φ a ρ x)(h:z1i x=.ok k):Vv Κ Φ (.not a) ρ (.bool (!k)):=by obtain⟨g1,ha⟩:=ha;refine⟨?_,rfl⟩;rw[zv0];rw[ha,Res.ok_bind];dsimp only;rw[h];rfl
theorem zuy (hc:Tt Κ Φ c ρ k)(h1:k=true->Vv Κ Φ a ρ x)(h2:k=false->Vv Κ Φ b ρ y):Vv Κ Φ (.ife c a b) ρ (if k then x else y):=by
 unfold Tt at hc;cases k with
 |true=>exact⟨by rw[zn2];rw[hc];exact(h1 rfl).1,(h1 rfl).2⟩
 |false=>exact⟨by rw[zn2];rw[hc];exact(h2 rfl).1,(h2 rfl).2⟩
theorem z0j:Av Κ Φ .nil ρ []:=⟨rfl,rfl⟩
theorem z06 (ha:Vv Κ Φ a ρ x)(hb:Av Κ Φ b ρ ds):Av Κ Φ (.cons a b) ρ (x::ds):=⟨by rw[z8z,ha.1,Res.ok_bind,hb.1];rfl,by show(imm x&&imms ds)=true;rw[ha.2,hb.2];rfl⟩
theorem z07:Aa Κ Φ .nil ρ []:=⟨[],rfl,rfl⟩
theorem z00 (ha:Ev Κ Φ a ρ x)(hb:Aa Κ Φ b ρ ds):Aa Κ Φ (.cons a b) ρ (x::ds):=by obtain⟨g1,ha⟩:=ha;obtain⟨ys,hb,e⟩:=hb;exact⟨_,by rw[z8z,ha,Res.ok_bind,hb];rfl,by rw[ae,e]⟩
theorem z1k (h:Av Κ Φ args ρ ds):Vv Κ Φ (.tup args) ρ (.tuple ds):=by refine⟨?_,h.2⟩;rw[zsb];rw[h.1,Res.ok_bind,zeb,z4y (d:=.tuple ds) h.2]
theorem z54 (h:Av Κ Φ args ρ ds):evE Κ Φ (.lst args) ρ=.ok (.fr,.list ds):=by rw[zfn];rw[h.1,Res.ok_bind,zeb,zld]
theorem znx:evE Κ Φ .dnew ρ=.ok (.fr,.dict []):=by rw[zmp]
theorem v_ix (ha:Ev Κ Φ a ρ x)(hb:Ev Κ Φ b ρ y)(h:ixD x y=.ok d)(hi:imm d=true):Vv Κ Φ (.ix a b) ρ d:=by obtain⟨g1,ha⟩:=ha;obtain⟨g2,hb⟩:=hb;refine⟨?_,hi⟩;rw[E_ix];rw[ha,Res.ok_bind,hb,Res.ok_bind];dsimp only;rw[h,Res.ok_bind,z4y hi]
def Oo (Κ:List D)(Φ:List Fn)(c:C)(ρ:Rho)(i:Option Int):Prop:=evO Κ Φ c ρ=.ok i
theorem z1d:Oo Κ Φ .nil ρ none:=rfl
theorem z16 {i:Int}(h:Ev Κ Φ a ρ (.int i)):Oo Κ Φ (.tv a) ρ (some i):=by obtain⟨g1,h⟩:=h;unfold Oo;rw[O_tv,h];rfl
theorem v_sl {i j:Option Int}(ha:Ev Κ Φ a ρ x)(hb:Oo Κ Φ b ρ i)(hc:Oo Κ Φ c ρ j)(h:slD x i j=.ok d)(hi:imm d=true):Vv Κ Φ (.sl a b c) ρ d:=by obtain⟨g1,ha⟩:=ha;unfold Oo at hb hc;refine⟨?_,hi⟩;rw[E_sl];rw[ha,Res.ok_bind,hb,Res.ok_bind,hc,Res.ok_bind];dsimp only;rw[h,Res.ok_bind,zid hi]
theorem z0s {n:Nat}{f:Str}{m:Fn}(ha:Aa Κ Φ args ρ ds)(hf:Φ[n]?=some m)(h:m ds=.ok (g,d))(hi:imm d=true):Vv Κ Φ (.call n f args) ρ d:=by obtain⟨ys,ha,e⟩:=ha;refine⟨?_,hi⟩;rw[z4c];rw[ha,Res.ok_bind,hf];dsimp only;rw[e,h,Res.ok_bind,z4y hi]
theorem za8 {n:Nat}{f:Str}{m:Fn}(ha:Aa Κ Φ args ρ ds)(hf:Φ[n]?=some m)(h:m ds=.ok (g,d)):Ev Κ Φ (.call n f args) ρ d:=by obtain⟨ys,ha,e⟩:=ha;exact⟨_,by rw[z4c];rw[ha,Res.ok_bind,hf];dsimp only;rw[e,h,Res.ok_bind]⟩
theorem zot {n:Nat}{f:Str}{m:Fn}{xs:List D}(ha:Aa Κ Φ args ρ ds)(hf:Φ[n]?=some m)(h:m ds=.ok (.fr,.list xs)):evE Κ Φ (.call n f args) ρ=.ok (.fr,.list xs):=by obtain⟨ys,ha,e⟩:=ha;rw[z4c];rw[ha,Res.ok_bind,hf];dsimp only;rw[e,h,Res.ok_bind];rfl
theorem v_bi {f:String}(ha:Aa Κ Φ args ρ ds)(h:biD f ds=.ok d)(hi:imm d=true):Vv Κ Φ (.bi f args) ρ d:=by obtain⟨ys,ha,e⟩:=ha;refine⟨?_,hi⟩;rw[E_bi];rw[ha,Res.ok_bind,e,h,Res.ok_bind,z4y hi]
theorem zg1 {f:String}{w:Bool×List D}(ha:Ev Κ Φ a ρ x)(hw:z4z x=.ok w)(h:aggD f w.1 w.2=.ok d)(hi:imm d=true):Vv Κ Φ (.agg f (.tv a)) ρ d:=by obtain⟨g1,ha⟩:=ha;refine⟨?_,hi⟩;rw[zqu];rw[G_tv,ha,Res.ok_bind];dsimp only;rw[hw];simp only[Res.ok_bind];rw[h,Res.ok_bind,z4y hi]
theorem zq1 {f:String}{w:Bool×List D}(ha:Ev Κ Φ a ρ x)(hw:z4z x=.ok w)(h:aggD f w.1 w.2=.ok d)(hi:imms w.2=true):evE Κ Φ (.agg f (.tv a)) ρ=.ok (.fr,d):=by obtain⟨g1,ha⟩:=ha;rw[zqu];rw[G_tv,ha,Res.ok_bind];dsimp only;rw[hw];simp only[Res.ok_bind];rw[h,Res.ok_bind,if_pos hi];unfold gJ;split<;>rfl
theorem z1f {ts:List String}(ha:Ev Κ Φ a ρ x):Vv Κ Φ (.isT a ts) ρ (.bool (ts.any fun T=>isTy (tyOf x) T)):=by obtain⟨g1,ha⟩:=ha;refine⟨?_,rfl⟩;rw[zv3];rw[ha];rfl
theorem v_mt {m:String}(ho:Ev Κ Φ o ρ x)(ha:Aa Κ Φ args ρ ds)(h:mtD m x ds=.ok d)(hi:imm d=true):Vv Κ Φ (.mt m o args) ρ d:=by obtain⟨g1,ho⟩:=ho;obtain⟨ys,ha,e⟩:=ha;refine⟨?_,hi⟩;rw[E_mt];rw[ho,Res.ok_bind,ha,Res.ok_bind,e];dsimp only;rw[h,Res.ok_bind,z4y hi]
theorem t_tv (h:Ev Κ Φ a ρ x)(ht:z1i x=.ok k):Tt Κ Φ (.tv a) ρ k:=by obtain⟨g1,h⟩:=h;unfold Tt;rw[T_tv,h];exact ht
theorem z1c:Tt Κ Φ .nil ρ true:=rfl
theorem zlk (ha:Tt Κ Φ a ρ k)(hb:k=true->Tt Κ Φ b ρ k'):Tt Κ Φ (.and a b) ρ (k&&k'):=by
 unfold Tt at *
 rw[zud,ha];cases k with
 |true=>exact hb rfl
 |false=>rfl
theorem t_or (ha:Tt Κ Φ a ρ k)(hb:k=false->Tt Κ Φ b ρ k'):Tt Κ Φ (.or a b) ρ (k||k'):=by
 unfold Tt at *
 rw[T_or,ha];cases k with
 |false=>exact hb rfl
 |true=>rfl
theorem z0w (ha:Tt Κ Φ a ρ k):Tt Κ Φ (.not a) ρ (!k):=by
 unfold Tt at *
 rw[zu0,ha];rfl
theorem z3e {β:Type}{nt:Nat}{js:List Nat}{N':List Str}{tg:Tg}{it cond elt:C}{w:G×List D}{m:β->D}{xs:List β}(p:β->Bool)(f:β->D)(hw:evW Κ Φ it ρ=.ok w)(hx:w.2=xs.map m)(r:β->Rho)
  (hb:∀x∈xs,z0x tg (gJ (m x) w.1,m x) (bw nt none++js.map fun j=>toAl (ρ.getD j none))=.ok (r x)) (hc:∀x∈xs,Tt Κ Φ cond (r x) (p x)) (he:∀x∈xs,p x=true->Vv Κ Φ elt (r x) (f x)):
  evE Κ Φ (.comp nt js N' tg it cond elt) ρ=.ok (.fr,.list ((xs.filter p).map f)):=by
 rw[znh];rw[hw,Res.ok_bind,hx]
 rw[z8x (fun x=>if p x then some (f x)else none) xs fun x hx=>by
  rw[hb x hx,Res.ok_bind];have:=hc x hx;unfold Tt at this;rw[this,Res.ok_bind];cases e:p x with
  |true=>rw[if_pos rfl,(he x hx e).1];rfl
  |false=>rfl]
 rw[Res.ok_bind,zpc,zeb]
 have:(xs.filterMap fun x=>if p x=true then some (f x)else none)=(xs.filter p).map f:=by
  clear hx hb hc he hw
  induction xs with
  |nil=>rfl
  |cons x xs ih=>
   cases e:p x with
   |true=>rw[mm (b:=f x) (by rw[e];rfl),mz e,ae,ih]
   |false=>rw[ml (by rw[e];rfl),m3 (by rw[e];exact bj),ih]
 rw[this]
theorem w_tv {xs:List D}(h:evE Κ Φ a ρ=.ok (g,x))(hw:z40 x=.ok xs):evW Κ Φ (.tv a) ρ=.ok (g,xs):=by rw[W_tv,h,Res.ok_bind];dsimp only;rw[hw];rfl
theorem zr0 {xs:List D}(h:Aa Κ Φ args ρ ds)(hw:rngD ds=.ok xs):evW Κ Φ (.rng args) ρ=.ok (.fr,xs):=by obtain⟨ys,h,e⟩:=h;rw[zsh,h,Res.ok_bind,e,hw];rfl
theorem z0n {i:Nat}(h:Vv Κ Φ t ρ d):evS Κ Φ (.asg (.nm i) t) ρ=.ok (.nx (ρ.set i (some (.al,d)))):=by rw[zd6,h.1,Res.ok_bind];show Res.ok (Out.nx (ρ.set i (some (if imm d then(.al,d)else _))))=_;rw[if_pos h.2]
theorem z2o {i:Nat}{xs:List D}(h:evE Κ Φ t ρ=.ok (.fr,.list xs))(hi:imms xs=true):evS Κ Φ (.asg (.nm i) t) ρ=.ok (.nx (ρ.set i (some (.fr,.list xs)))):=by rw[zd6,h,Res.ok_bind];show Res.ok (Out.nx (ρ.set i (some (if imms xs then .fr else .nu,.list xs))))=_;rw[if_pos hi]
theorem zr8 {i:Nat}{es:Ents}(h:evE Κ Φ t ρ=.ok (.fr,.dict es))(hi:immE es=true):evS Κ Φ (.asg (.nm i) t) ρ=.ok (.nx (ρ.set i (some (.fr,.dict es)))):=by rw[zd6,h,Res.ok_bind];show Res.ok (Out.nx (ρ.set i (some (if immE es then .fr else .nu,.dict es))))=_;rw[if_pos hi]
theorem zhz (hv:∀i,t≠.var i):evS Κ Φ (.ret t) ρ=(evE Κ Φ t ρ>>=fun x=>.ok (.rt (rtG x.1) x.2)):=by cases t<;>first|exact absurd rfl (hv _)|rfl
theorem z0g (h:Vv Κ Φ t ρ d):evS Κ Φ (.ret t) ρ=.ok (.rt .fr d):=by
 by_cases hv:∀i,t≠.var i
 ·rw[zhz hv,h.1];rfl
 obtain⟨i,rfl⟩:∃i,t=.var i:=by cases t<;>first|exact⟨_,rfl⟩|exact(hv fun i z=>by cases z).elim
 have h1:=h.1;rw[z8c]at h1;rw[zij];cases hr:ρ[i]? with
 |none=>rw[hr]at h1;cases h1
 |some o=>
  cases o with
  |none=>rw[hr]at h1;cases h1
  |some gd=>
   obtain⟨g,d'⟩:=gd;rw[hr]at h1;have:d'=d:=by have:=congrArg (fun r:Res GD=>match r with|.ok p=>p.2|_=>.none) h1;exact this
   subst this;show Res.ok (Out.rt (if imm d'=true then _ else _) d')=_;rw[if_pos h.2]
theorem zds {xs:List D}(hv:∀i,t≠.var i)(h:evE Κ Φ t ρ=.ok (.fr,.list xs)):evS Κ Φ (.ret t) ρ=.ok (.rt .fr (.list xs)):=by rw[zhz hv,h];rfl
theorem z41 {p q:S}{r:Res Out}(hc:Tt Κ Φ c ρ k)(h1:k=true->evS Κ Φ p ρ=r)(h2:k=false->evS Κ Φ q ρ=r):evS Κ Φ (.ifS c p q) ρ=r:=by
 unfold Tt at hc;rw[R_if,hc,Res.ok_bind];cases k with
 |true=>exact h1 rfl
 |false=>exact h2 rfl
theorem z10:evS Κ Φ .nil ρ=.ok (.nx ρ):=rfl
theorem z9y {y:GD}(h:imm y.2=true):okIn y=true:=by unfold okIn;rw[h];rfl
theorem zn1 {i:Nat}{es:Ents}{n:Str}(hv:Vv Κ Φ b ρ x)(hk:Ev Κ Φ a ρ (.str n))(hr:ρ[i]?=some (some (.fr,.dict es)))(hl:es.length<LIM):evS Κ Φ (.setIx i a b) ρ=.ok (.nx ((ρ.set i (some (.fr,.dict (dput es (.str n) x)))).map z2l)):=by
 obtain⟨g1,hk⟩:=hk;rw[zul,hv.1,Res.ok_bind,hk,Res.ok_bind,hr]
 dsimp only
 rw[if_pos];rw[zl1,z9y hv.2,mh,mh];exact ul hl
theorem zpe {i:Nat}{l:P}{n:Str}{v:Int}(hv:Vv Κ Φ b ρ (.int v))(hk:Ev Κ Φ a ρ (.str n))(hr:ρ[i]?=some (some (.fr,.dict (en l))))(nd:(ks l).Nodup)(hl:l.length<64):evS Κ Φ (.setIx i a b) ρ=.ok (.nx ((ρ.set i (some (.fr,.dict (en (put l n v))))).map z2l)):=by rw[zn1 hv hk hr (by rw[zhh];unfold LIM;omega),zk1 nd]
theorem zey {i:Nat}{xs:List D}(hv:Vv Κ Φ a ρ x)(hr:ρ[i]?=some (some (.fr,.list xs)))(hl:xs.length<1000):evS Κ Φ (.mut "append" i (.cons a .nil)) ρ=.ok (.nx ((ρ.set i (some (.fr,.list (xs++[x])))).map z2l)):=by
 rw[zs2,z8z,hv.1,Res.ok_bind,zqz,Res.ok_bind,Res.ok_bind,hr]
 dsimp only
 have:mutD "append" xs [(.fr,x)]=.ok (xs++[x]):=by show(if(okIn (G.fr,x)&&decide (xs.length<LIM))=true then _ else _)=_;rw[if_pos];rw[z9y hv.2,mh];refine ul ?_;unfold LIM;omega
 rw[this];rfl
theorem zko {i:Nat}{xs:List D}(h:ρ[i]?=some (some (g,d)))(hg:g≠.fr)(hi:imm d=true)(hw:z40 d=.ok xs):evF Κ Φ (.tv (.var i)) ρ=.ok (.fr,xs,ρ):=by
 have e1:evE Κ Φ (.var i) ρ=.ok (.fr,d):=(v_var h hi).1;have e2:evW Κ Φ (.tv (.var i)) ρ=.ok (.fr,xs):=w_tv e1 hw
 have e3:ownB ρ i=false:=by
  unfold ownB;rw[h];cases g with
  |fr=>exact absurd rfl hg
  |od=>rfl
  |al=>rfl
  |nu=>rfl
 rw[zmw,e3];unfold isAl evN;rw[e2];rfl
theorem f_od {i:Nat}{xs:List D}(h:ρ[i]?=some (some (.od,d)))(hi:imm d=false)(hw:z40 d=.ok xs):evF Κ Φ (.tv (.var i)) ρ=.ok (.od,xs,ρ):=by
 have e1:evE Κ Φ (.var i) ρ=.ok (.od,d):=by rw[z8c];rw[h];show Res.ok (if imm d=true then _ else _,d)=_;rw[hi];rfl
 have e2:evW Κ Φ (.tv (.var i)) ρ=.ok (.od,xs):=w_tv e1 hw;have e3:ownB ρ i=false:=by unfold ownB;rw[h]
 rw[zmw,e3];unfold isAl evN;rw[e2];rfl
theorem zf7 {xs:List D}(h:Aa Κ Φ args ρ ds)(hw:rngD ds=.ok xs):evF Κ Φ (.rng args) ρ=.ok (.fr,xs,ρ):=by show evN Κ Φ (.rng args) ρ=_;unfold evN;rw[zr0 h hw];rfl
theorem zi8 {xs:List D}{x:D}(ha:Ev Κ Φ a ρ x)(hx:seqR x=.ok xs):evW Κ Φ (.enum a) ρ=.ok (.al,z23 0 xs):=by obtain⟨g,ha⟩:=ha;show(evE Κ Φ a ρ>>=fun x=>seqR x.2>>=fun xs=>Res.ok (G.al,z23 0 xs))=_;rw[ha,Res.ok_bind];show(seqR x>>=fun xs=>Res.ok (G.al,z23 0 xs))=_;rw[hx];rfl
theorem zuv {xs:List D}{x:GD}(ha:evE Κ Φ a ρ=.ok x)(ca:zg5 x=true)(hx:seqR x.2=.ok xs):evF Κ Φ (.enum a) ρ=.ok (.al,z23 0 xs,ρ):=by
 have e:evA Κ Φ (.cons a .nil) ρ=.ok [x]:=by rw[z8z,ha,Res.ok_bind,zqz];rfl
 show(evA Κ Φ (.cons a .nil) ρ>>=fun ys=>evEn ys ρ)=_;rw[e,Res.ok_bind];unfold evEn
 dsimp only
 rw[ca,if_pos rfl,hx];rfl
theorem zmn {xs:List D}(hl:xs.length<=1000):seqR (.list xs)=.ok xs:=by show(if decide (xs.length<=LIM)=true then Res.ok xs else .no)=_;rw[ul (show xs.length<=LIM by unfold LIM;omega)];rfl
theorem zhf {β:Type}(m:β->D):∀(k:Nat) (xs:List β),z23 k (xs.map m)=(xs.zipIdx k).map fun p=>.tuple [.int p.2,m p.1]
 |_,[]=>rfl
 |k,x::xs=>by rw[ae,z23,zhf m (k+1) xs];rfl
theorem zvf {e0:C}{x':D}{xs:List D}(hv:∀i,e0≠.var i)(h:evE Κ Φ e0 ρ=.ok (.fr,x'))(hw:z40 x'=.ok xs):evF Κ Φ (.tv e0) ρ=.ok (.fr,xs,ρ):=by
 have e2:evW Κ Φ (.tv e0) ρ=.ok (.fr,xs):=w_tv h hw;have e3:isAl Κ Φ (.tv e0) ρ=false:=by unfold isAl;rw[e2];rfl
 rw[R_tv hv,e3];unfold evN;rw[e2];rfl
theorem z73 {t':Tg}{it:C}{p:S}{w:G×List D×Rho}{r:Res Out}(h:evF Κ Φ it ρ=.ok w)(k:forD (fun x ρ1=>z0x t' (gJ x w.1,x) ρ1>>=fun ρ2=>evS Κ Φ p ρ2) w.2.1 w.2.2=r):evS Κ Φ (.for_ t' it p) ρ=r:=by rw[zsw,h];exact k
theorem zcv {α β:Type}{t':Tg}{it:C}{p rest:S}{r:Res Out}{m:β->D}{xs:List β}{ρ1:Rho}(h:evF Κ Φ it ρ=.ok (g,xs.map m,ρ1))(I:α->Rho->Prop)(step:α->β->α)(a0:α)(h0:I a0 ρ1)
  (hf:∀a x ρ,x∈xs->I a ρ->∃ρ',(z0x t' (gJ (m x) g,m x) ρ>>=fun ρ2=>evS Κ Φ p ρ2)=.ok (.nx ρ')/\I (step a x) ρ') (hk:∀ρ',I (xs.foldl step a0) ρ'->evS Κ Φ rest ρ'=r):evS Κ Φ (.seq (.for_ t' it p) rest) ρ=r:=by
 obtain⟨ρ',e,i⟩:=zbw (f:=fun x ρ1=>z0x t' (gJ x g,x) ρ1>>=fun ρ2=>evS Κ Φ p ρ2) I step xs a0 ρ1 hf h0;exact z0m (z73 h e) (hk ρ' i)
theorem zm8 {β:Type}{t':Tg}{it:C}{p rest:S}{r:Res Out}{m:β->D}{xs:List β}{ρ1:Rho}(h:evF Κ Φ it ρ=.ok (g,xs.map m,ρ1))(I:Rho->Prop)(h0:I ρ1)
  (hf:∀x ρ,x∈xs->I ρ->∃ρ',(z0x t' (gJ (m x) g,m x) ρ>>=fun ρ2=>evS Κ Φ p ρ2)=.ok (.nx ρ')/\I ρ') (hk:∀ρ',I ρ'->evS Κ Φ rest ρ'=r):evS Κ Φ (.seq (.for_ t' it p) rest) ρ=r:=
 zcv h (fun(_:Unit)=>I) (fun _ _=>()) () h0 (fun _ x ρ hx hI=>hf x ρ hx hI) hk
theorem z0y {p q rest:S}(hc:Tt Κ Φ c ρ k)(hk:k=true)(h:evS Κ Φ p ρ=.ok (.rt g d)):evS Κ Φ (.seq (.ifS c p q) rest) ρ=.ok (.rt g d):=z0f (z41 hc (fun _=>h) fun z=>by rw[hk]at z;cases z)
theorem z0v {p rest:S}{r:Res Out}(hc:Tt Κ Φ c ρ k)(hk:k=false)(h:evS Κ Φ rest ρ=r):evS Κ Φ (.seq (.ifS c p .nil) rest) ρ=r:=z0m (z41 hc (fun z=>by rw[hk]at z;cases z) fun _=>z10) h
theorem zig {i:Nat}{xs:List D}(h:ρ[i]?=some (some (.fr,.list xs))):evS Κ Φ (.ret (.var i)) ρ=.ok (.rt .fr (.list xs)):=by rw[zij,h];rfl
theorem q_ok {Q:Res Out->Prop}{p q:S}{ρ':Rho}(h:evS Κ Φ p ρ=.ok (.nx ρ'))(k:Q (evS Κ Φ q ρ')):Q (evS Κ Φ (.seq p q) ρ):=by rw[z0m h rfl];exact k
theorem q_rt {Q:Res Out->Prop}{p q:S}(h:evS Κ Φ p ρ=.ok (.rt g d))(k:Q (.ok (.rt g d))):Q (evS Κ Φ (.seq p q) ρ):=by rw[z0f h];exact k
theorem zfi {Q:Res Out->Prop}{β:Type}{t':Tg}{it:C}{p rest:S}{m:β->D}{xs:List β}{ρ1:Rho}(h:evF Κ Φ it ρ=.ok (g,xs.map m,ρ1))(I:List β->Rho->Prop)(h0:I [] ρ1)
  (hf:∀pre x post ρ,xs=pre++x::post->I pre ρ->∃ρ',(z0x t' (gJ (m x) g,m x) ρ>>=fun ρ2=>evS Κ Φ p ρ2)=.ok (.nx ρ')/\I (pre++[x]) ρ') (hk:∀ρ',I xs ρ'->Q (evS Κ Φ rest ρ')):Q (evS Κ Φ (.seq (.for_ t' it p) rest) ρ):=by
 obtain⟨ρ',e,i⟩:=zay (f:=fun x ρ1=>z0x t' (gJ x g,x) ρ1>>=fun ρ2=>evS Κ Φ p ρ2) I xs [] ρ1 hf h0;rw[z0m (z73 h e) rfl];exact hk ρ' i
theorem zjy {Q:Res Out->Prop}{β:Type}{t':Tg}{it:C}{p rest:S}{m:β->D}{xs:List β}{ρ1:Rho}(h:evF Κ Φ it ρ=.ok (g,xs.map m,ρ1))(I:List β->Rho->Prop)(h0:I [] ρ1)
  (hf:∀pre x post ρ,xs=pre++x::post->I pre ρ->∃ρ2 ρ',z0x t' (gJ (m x) g,m x) ρ=.ok ρ2/\evS Κ Φ p ρ2=.ok (.nx ρ')/\I (pre++[x]) ρ') (hk:∀ρ',I xs ρ'->Q (evS Κ Φ rest ρ')):Q (evS Κ Φ (.seq (.for_ t' it p) rest) ρ):=
 zfi h I h0 (fun pre x post ρ hx hI=>by obtain⟨ρ2,ρ',h1,h2,h3⟩:=hf pre x post ρ hx hI;exact⟨ρ',by rw[h1,Res.ok_bind,h2],h3⟩) hk
theorem z4d {Q:Res Out->Prop}{p rest:S}(hc:Tt Κ Φ c ρ k)(hk:k=false)(h:Q (evS Κ Φ rest ρ)):Q (evS Κ Φ (.seq (.ifS c p .nil) rest) ρ):=by rw[z0v hc hk rfl];exact h
theorem z0u:Vv Κ Φ (.bin .Pow (.int 10) (.int 15)) ρ (.int 1000000000000000):=z09 z04.e z04.e zrn rfl
theorem z0q:Vv Κ Φ (.bin .Pow (.int 10) (.int 30)) ρ (.int 1000000000000000000000000000000):=z09 z04.e z04.e zu6 rfl
theorem z0t:Vv Κ Φ (.bin .Pow (.int 10) (.int 40)) ρ (.int 10000000000000000000000000000000000000000):=z09 z04.e z04.e zv1 rfl
theorem zkt {i:Nat}{u n:Int}(h:ρ[i]?=some (some (g,.int u)))(hN:u%10000000000000000000000000000000000000000=n):Vv Κ Φ (.bin .Mod (.var i) (.bin .Pow (.int 10) (.int 40))) ρ (.int n):=by rw[<-hN];exact z09 (z01 h) z0t.e (z20 (by decide)) rfl
end
end
end Mk
namespace Mk
open PySem Mi
def S_z0:S:=(.seq (.ret (.and (.isT (.var 0) ["str"]) (.and (.chain .LtE .LtE (.int 1) (.bi "len" (.cons (.var 0) .nil)) (.int 12)) (.and (.agg "all" (.tv (.comp 1 [] ["sign"] (.nm 0) (.tv (.var 0)) .nil (.chain .LtE .LtE (.str "a") (.var 0) (.str "z"))))) (.cmp .NotIn (.var 0) (.glob 0 "NO_NAMES")))))) .nil)
def F_z0:Fn:=runD [(.tuple [(.str "and"),(.str "or"),(.str "not"),(.str "if"),(.str "is"),(.str "some"),(.str "all"),(.str "for"),(.str "against")])] [] 1 S_z0
def S_z1:S:=(.seq (.ret (.and (.isT (.var 0) ["int"]) (.and (.not (.isT (.var 0) ["bool"])) (.chain .LtE .LtE (.int 0) (.var 0) (.bin .Pow (.int 10) (.int 30)))))) .nil)
def F_z1:Fn:=runD [] [] 1 S_z1
def S_z2:S:=(.seq (.asg (.nm 1) .dnew)
 (.seq (.for_ (.tp [2,3]) (.tv (.var 0))
 (.seq (.setIx 1 (.var 2) (.bi "max" (.cons (.var 3) (.cons (.mt "get" (.var 1) (.cons (.var 2) (.cons (.int 0) .nil))) .nil))))
 .nil))
 (.seq (.ret (.agg "tuple" (.tv (.comp 1 [] ["pair"] (.nm 0) (.tv (.sortI 1)) (.tv (.cmp .Gt (.ix (.var 0) (.int 1)) (.int 0))) (.var 0)))))
 .nil)))
def F_z2:Fn:=runD [] [] 4 S_z2
def S_z3:S:=(.seq (.for_ (.tp [1,2]) (.tv (.var 0))
 (.seq (.ifS (.not (.tv (.call 2 "is_name" (.cons (.var 1) .nil))))
 (.seq (.rse "NoPack")
 .nil)
 .nil)
 (.seq (.ifS (.not (.tv (.call 1 "is_degree" (.cons (.var 2) .nil))))
 (.seq (.rse "NoPack")
 .nil)
 .nil)
 .nil)))
 (.seq (.ret (.call 0 "greatest" (.cons (.var 0) .nil)))
 .nil))
def F_z3:Fn:=runD [] [F_z2,F_z1,F_z0] 3 S_z3
def S_z4:S:=(.seq (.ifS (.not (.tv (.chain .LtE .LtE (.int 1) (.bi "len" (.cons (.var 0) .nil)) (.int 31))))
 (.seq (.ret .non)
 .nil)
 .nil)
 (.seq (.ifS (.not (.tv (.agg "all" (.tv (.comp 1 [] ["sign"] (.nm 0) (.tv (.var 0)) .nil (.chain .LtE .LtE (.str "0") (.var 0) (.str "9")))))))
 (.seq (.ret .non)
 .nil)
 .nil)
 (.seq (.ifS (.and (.tv (.cmp .Eq (.ix (.var 0) (.int 0)) (.str "0"))) (.tv (.cmp .Gt (.bi "len" (.cons (.var 0) .nil)) (.int 1))))
 (.seq (.ret .non)
 .nil)
 .nil)
 (.seq (.ret (.bi "int" (.cons (.var 0) .nil)))
 .nil))))
def F_z4:Fn:=runD [] [] 1 S_z4
def S_z5:S:=(.seq (.asg (.nm 1) (.mt "partition" (.var 0) (.cons (.str ":") .nil)))
 (.seq (.ifS (.tv (.cmp .Eq (.ix (.var 1) (.int 1)) (.str "")))
 (.seq (.ret (.tup (.cons (.var 0) (.cons (.int 1) .nil))))
 .nil)
 .nil)
 (.seq (.ret (.tup (.cons (.ix (.var 1) (.int 0)) (.cons (.call 0 "number_of" (.cons (.ix (.var 1) (.int 2)) .nil)) .nil))))
 .nil)))
def F_z5:Fn:=runD [] [F_z4] 2 S_z5
def S_z6:S:=(.seq (.ret (.ife (.tv (.cmp .Eq (.var 1) (.int 1))) (.var 0) (.fs (.var 0) ":" (.var 1)))) .nil)
def F_z6:Fn:=runD [] [] 2 S_z6
def S_z7:S:=(.seq (.ifS (.tv (.cmp .Eq (.var 0) (.tup .nil)))
 (.seq (.ret (.str "-"))
 .nil)
 .nil)
 (.seq (.ret (.mt "join" (.str " ") (.cons (.comp 2 [] ["name","amount"] (.tp [0,1]) (.tv (.var 0)) .nil (.call 0 "shown_pair" (.cons (.var 0) (.cons (.var 1) .nil)))) .nil)))
 .nil))
def F_z7:Fn:=runD [] [F_z6] 1 S_z7
def S_z8:S:=(.seq (.ifS (.not (.tv (.isT (.var 0) ["str"])))
 (.seq (.rse "NoPack")
 .nil)
 .nil)
 (.seq (.ifS (.tv (.cmp .Eq (.var 0) (.str "-")))
 (.seq (.ret (.tup .nil))
 .nil)
 .nil)
 (.seq (.asg (.nm 1) (.call 1 "pack" (.cons (.comp 1 [] ["word"] (.nm 0) (.tv (.spl (.var 0) (.str " "))) .nil (.call 2 "read_pair" (.cons (.var 0) .nil))) .nil)))
 (.seq (.ifS (.tv (.cmp .NotEq (.call 0 "shown_pack" (.cons (.var 1) .nil)) (.var 0)))
 (.seq (.rse "NoPack")
 .nil)
 .nil)
 (.seq (.ret (.var 1))
 .nil)))))
def F_z8:Fn:=runD [] [F_z7,F_z3,F_z5] 2 S_z8
def S_z9:S:=(.seq (.ifS (.tv (.cmp .In (.var 0) (.lst (.cons (.str "and") (.cons (.str "or") (.cons (.str "not") (.cons (.str "if") (.cons (.str "is") (.cons (.str "some") (.cons (.str "all") (.cons (.str "for") (.cons (.str "against") .nil))))))))))))
 (.seq (.ret (.bin .Add (.var 0) (.str "x")))
 .nil)
 .nil)
 (.seq (.ret (.var 0))
 .nil))
def F_z9:Fn:=runD [] [] 1 S_z9
def zfa:S:=(.seq (.asg (.nm 1) (.str "abcdefghijklmnopqrstuvwxyz"))
 (.seq (.asg (.nm 2) (.lst .nil))
 (.seq (.for_ (.nm 3) (.rng (.cons (.int 4) .nil))
 (.seq (.asg (.nm 4) (.bin .Add (.int 1) (.bin .Mod (.var 0) (.int 12))))
 (.seq (.asg (.nm 0) (.bin .FloorDiv (.var 0) (.int 12)))
 (.seq (.asg (.nm 5) (.str ""))
 (.seq (.for_ (.nm 6) (.rng (.cons (.var 4) .nil))
 (.seq (.asg (.nm 5) (.bin .Add (.var 5) (.ix (.var 1) (.bin .Mod (.var 0) (.int 26)))))
 (.seq (.asg (.nm 0) (.bin .FloorDiv (.var 0) (.int 26)))
 .nil)))
 (.seq (.mut "append" 2 (.cons (.var 5) .nil))
 .nil))))))
 (.seq (.asg (.nm 2) (.bin .Add (.var 2) (.comp 1 [1,0] ["_law_name","_law_letters","_law_cell"] (.nm 0) (.tv (.var 2)) .nil (.sl (.bin .Add (.var 0) (.ix (.var 1) (.bin .Mod (.var 2) (.int 26)))) .nil (.tv (.int 12))))))
 (.seq (.ret (.comp 1 [] ["_law_name"] (.nm 0) (.tv (.var 2)) .nil (.call 0 "_law_good_name" (.cons (.var 0) .nil))))
 .nil)))))
def z8f:Fn:=runD [] [F_z9] 7 zfa
def zfr:S:=(.seq (.ifS (.tv (.cmp .Eq (.bin .Mod (.var 0) (.int 2)) (.int 1)))
 (.seq (.ret (.call 0 "_law_free_names" (.cons (.bin .FloorDiv (.var 0) (.int 2)) .nil)))
 .nil)
 .nil)
 (.seq (.asg (.nm 1) (.str "bcdefghjklmnpqrstuvwxyz"))
 (.seq (.asg (.nm 2) (.bin .Mod (.bin .Mult (.bin .Add (.bin .Mod (.var 0) (.bin .Pow (.int 10) (.int 15))) (.int 7)) (.int 48271)) (.int 2147483647)))
 (.seq (.asg (.nm 3) (.bin .Mod (.var 2) (.int 11)))
 (.seq (.asg (.nm 4) (.mt "join" (.str "") (.cons (.comp 1 [1,2] ["_law_k","_law_letters","_law_number"] (.nm 0) (.rng (.cons (.var 3) .nil)) .nil (.ix (.var 1) (.bin .Mod (.bin .Add (.bin .FloorDiv (.var 2) (.int 11)) (.bin .Mult (.bin .Mult (.int 5) (.var 0)) (.var 0))) (.int 23)))) .nil)))
 (.seq (.asg (.nm 5) (.bin .Mod (.bin .FloorDiv (.var 2) (.int 276)) (.bin .Add (.var 3) (.int 1))))
 (.seq (.asg (.nm 6) (.lst .nil))
 (.seq (.for_ (.nm 7) (.rng (.cons (.int 4) .nil))
 (.seq (.asg (.nm 8) (.ix (.var 1) (.bin .Mod (.bin .Add (.bin .FloorDiv (.var 2) (.int 7)) (.bin .Mult (.int 3) (.var 7))) (.int 23))))
 (.seq (.mut "append" 6 (.cons (.bin .Add (.bin .Add (.sl (.var 4) .nil (.tv (.var 5))) (.var 8)) (.sl (.var 4) (.tv (.var 5)) .nil)) .nil))
 .nil)))
 (.seq (.asg (.nm 9) (.ix (.var 1) (.bin .Mod (.bin .FloorDiv (.var 2) (.int 13)) (.int 23))))
 (.seq (.ret (.bin .Add (.var 6) (.comp 1 [9] ["_law_name","_law_more"] (.nm 0) (.tv (.var 6)) .nil (.bin .Add (.var 0) (.var 1)))))
 .nil))))))))))
def z51:Fn:=runD [] [z8f] 10 zfr
def zkd:S:=(.seq (.ifS (.or (.not (.tv (.isT (.var 0) ["tuple"]))) (.tv (.cmp .NotEq (.var 0) (.var 1))))
 (.seq (.ret (.bl false))
 .nil)
 .nil)
 (.seq (.for_ (.nm 2) (.tv (.var 0))
 (.seq (.ifS (.or (.not (.tv (.isT (.var 2) ["tuple"]))) (.or (.not (.tv (.isT (.ix (.var 2) (.int 1)) ["int"]))) (.tv (.isT (.ix (.var 2) (.int 1)) ["bool"]))))
 (.seq (.ret (.bl false))
 .nil)
 .nil)
 .nil))
 (.seq (.ret (.bl true))
 .nil)))
def zgd:Fn:=runD [] [] 3 zkd
def zg4:S:=(.seq (.asg (.nm 2) (.bin .Mod (.var 1) (.int 9)))
 (.seq (.asg (.nm 3) (.bin .FloorDiv (.var 1) (.int 9)))
 (.seq (.ifS (.tv (.cmp .Lt (.var 2) (.int 2)))
 (.seq (.ret (.var 0))
 .nil)
 .nil)
 (.seq (.ifS (.tv (.cmp .Eq (.var 2) (.int 2)))
 (.seq (.ret (.bin .Add (.bin .Add (.var 0) (.str ":")) (.bi "str" (.cons (.bin .Mod (.var 3) (.int 4)) .nil))))
 .nil)
 .nil)
 (.seq (.ifS (.tv (.cmp .Eq (.var 2) (.int 3)))
 (.seq (.ret (.bin .Add (.bin .Add (.var 0) (.str ":")) (.bi "str" (.cons (.bin .Sub (.bin .Add (.bin .Pow (.int 10) (.int 30)) (.bin .Mod (.var 3) (.int 5))) (.int 2)) .nil))))
 .nil)
 .nil)
 (.seq (.ifS (.tv (.cmp .Eq (.var 2) (.int 4)))
 (.seq (.ret (.bin .Add (.bin .Add (.var 0) (.str ":0")) (.bi "str" (.cons (.bin .Mod (.var 3) (.int 1000)) .nil))))
 .nil)
 .nil)
 (.seq (.ifS (.and (.tv (.cmp .Eq (.var 2) (.int 5))) (.tv (.cmp .Eq (.bin .Mod (.var 3) (.int 3)) (.int 1))))
 (.seq (.asg (.nm 4) (.lst (.cons (.str "") (.cons (.str ":") (.cons (.str ":2") (.cons (.bin .Add (.var 0) (.str ":")) (.cons (.bin .Add (.var 0) (.str "::2")) (.cons (.bin .Add (.var 0) (.str ":2:3")) (.cons (.bin .Add (.var 0) (.str ":+2")) (.cons (.bin .Add (.var 0) (.str ":2.0")) (.cons (.str "-") (.cons (.str "not") (.cons (.str "not:2") .nil)))))))))))))
 (.seq (.ret (.ix (.bin .Add (.var 4) (.lst (.cons (.bin .Add (.var 0) (.str "A:2")) (.cons (.bin .Add (.var 0) (.str ": 2")) (.cons (.upr (.var 0)) .nil))))) (.bin .Mod (.bin .FloorDiv (.var 3) (.int 3)) (.int 14))))
 .nil))
 .nil)
 (.seq (.ret (.bin .Add (.bin .Add (.var 0) (.str ":")) (.bi "str" (.cons (.bin .Add (.int 2) (.bin .Mod (.bin .Mult (.var 3) (.int 999983)) (.ix (.lst (.cons (.bin .Pow (.int 10) (.int 3)) (.cons (.bin .Pow (.int 10) (.int 18)) (.cons (.bin .Pow (.int 10) (.int 31)) (.cons (.bin .Pow (.int 10) (.int 33)) .nil))))) (.bin .Mod (.var 3) (.int 4))))) .nil))))
 .nil))))))))
def zgr:Fn:=runD [] [] 5 zg4
def zew:S:=(.seq (.asg (.nm 2) (.lst .nil))
 (.seq (.asg (.nm 3) (.agg "list" (.tv (.var 1))))
 (.seq (.ifS (.tv (.cmp .Eq (.bin .Mod (.ix (.var 0) (.int 0)) (.int 2)) (.int 0)))
 (.seq (.asg (.nm 3) (.agg "sorted" (.tv (.var 1))))
 .nil)
 .nil)
 (.seq (.for_ (.tp [4,5]) (.enum (.sl (.var 0) (.tv (.int 1)) (.tv (.int 7))))
 (.seq (.asg (.nm 6) (.bin .Mod (.var 5) (.bin .Pow (.int 10) (.int 40))))
 (.seq (.asg (.nm 7) (.bin .Mod (.var 6) (.int 8)))
 (.seq (.ifS (.tv (.cmp .Eq (.bin .Mod (.ix (.var 0) (.int 0)) (.int 2)) (.int 0)))
 (.seq (.asg (.nm 7) (.bin .Add (.var 4) (.bin .Mult (.bin .Mod (.var 6) (.int 2)) (.bi "int" (.cons (.cmp .Gt (.var 4) (.int 4)) .nil)))))
 .nil)
 .nil)
 (.seq (.mut "append" 2 (.cons (.call 0 "_law_word" (.cons (.ix (.var 3) (.var 7)) (.cons (.bin .Mod (.bin .Mult (.bin .FloorDiv (.var 6) (.int 8)) (.int 48271)) (.bin .Pow (.int 10) (.int 36))) .nil))) .nil))
 .nil)))))
 (.seq (.asg (.nm 8) (.str " "))
 (.seq (.asg (.nm 9) (.mt "join" (.var 8) (.cons (.var 2) .nil)))
 (.seq (.ifS (.tv (.cmp .Eq (.bin .Mod (.bin .FloorDiv (.ix (.var 0) (.int 0)) (.int 2)) (.int 9)) (.int 1)))
 (.seq (.asg (.nm 7) (.bin .Add (.mt "find" (.var 9) (.cons (.str " ") .nil)) (.int 1)))
 (.seq (.asg (.nm 9) (.bin .Add (.bin .Add (.sl (.var 9) .nil (.tv (.var 7))) (.str " ")) (.sl (.var 9) (.tv (.var 7)) .nil)))
 .nil))
 .nil)
 (.seq (.ret (.var 9))
 .nil))))))))
def z55:Fn:=runD [] [zgr] 10 zew
def zm5:S:=(.seq (.ifS (.or (.tv (.cmp .Lt (.bi "len" (.cons (.var 0) .nil)) (.int 1))) (.or (.tv (.cmp .Gt (.bi "len" (.cons (.var 0) .nil)) (.int 31))) (.tv (.cmp .Eq (.ix (.var 0) (.int 0)) (.str "0")))))
 (.seq (.ret (.int 0))
 .nil)
 .nil)
 (.seq (.for_ (.nm 1) (.tv (.var 0))
 (.seq (.ifS (.tv (.cmp .NotIn (.var 1) (.str "0123456789")))
 (.seq (.ret (.int 0))
 .nil)
 .nil)
 .nil))
 (.seq (.ret (.bi "int" (.cons (.var 0) .nil)))
 .nil)))
def zbv:Fn:=runD [] [] 2 zm5
def zly:S:=(.seq (.for_ (.nm 1) (.tv (.var 0))
 (.seq (.ifS (.tv (.cmp .NotIn (.var 1) (.str "abcdefghijklmnopqrstuvwxyz")))
 (.seq (.ret (.bl false))
 .nil)
 .nil)
 .nil))
 (.seq (.ifS (.tv (.cmp .In (.var 0) (.lst (.cons (.str "and") (.cons (.str "or") (.cons (.str "not") (.cons (.str "if") (.cons (.str "is") (.cons (.str "some") (.cons (.str "all") (.cons (.str "for") (.cons (.str "against") .nil))))))))))))
 (.seq (.ret (.bl false))
 .nil)
 .nil)
 (.seq (.ret (.chain .LtE .LtE (.int 1) (.bi "len" (.cons (.var 0) .nil)) (.int 12)))
 .nil)))
def zd0:Fn:=runD [] [] 2 zly
def zlq:S:=(.seq (.ifS (.tv (.cmp .Eq (.var 0) (.str "-")))
 (.seq (.ret (.tup .nil))
 .nil)
 .nil)
 (.seq (.asg (.nm 1) (.lst .nil))
 (.seq (.asg (.nm 2) (.str ""))
 (.seq (.for_ (.nm 3) (.tv (.spl (.var 0) (.str " ")))
 (.seq (.asg (.nm 4) (.spl (.var 3) (.str ":")))
 (.seq (.asg (.nm 5) (.int 1))
 (.seq (.ifS (.tv (.cmp .Gt (.bi "len" (.cons (.var 4) .nil)) (.int 1)))
 (.seq (.asg (.nm 5) (.call 1 "_law_figures" (.cons (.mt "join" (.str ":") (.cons (.sl (.var 4) (.tv (.int 1)) .nil) .nil)) .nil)))
 .nil)
 .nil)
 (.seq (.ifS (.or (.not (.tv (.call 0 "_law_is_name" (.cons (.ix (.var 4) (.int 0)) .nil)))) (.or (.tv (.cmp .LtE (.ix (.var 4) (.int 0)) (.var 2))) (.tv (.cmp .Gt (.var 5) (.bin .Pow (.int 10) (.int 30))))))
 (.seq (.ret .non)
 .nil)
 .nil)
 (.seq (.ifS (.or (.tv (.cmp .Lt (.var 5) (.int 1))) (.and (.tv (.cmp .Eq (.var 5) (.int 1))) (.tv (.cmp .Gt (.bi "len" (.cons (.var 4) .nil)) (.int 1)))))
 (.seq (.ret .non)
 .nil)
 .nil)
 (.seq (.asg (.nm 2) (.ix (.var 4) (.int 0)))
 (.seq (.mut "append" 1 (.cons (.tup (.cons (.var 2) (.cons (.var 5) .nil))) .nil))
 .nil))))))))
 (.seq (.ret (.agg "tuple" (.tv (.var 1))))
 .nil)))))
def ze1:Fn:=runD [] [zd0,zbv] 6 zlq
def zjo:S:=(.seq (.tr 0 "read_pack" (.cons (.var 0) .nil) "NoPack" 1
 (.seq (.asg (.nm 2) (.lst (.cons (.isE false "NoSide") (.cons (.isE false "NoReason") (.cons (.isE false "TooMuch") (.cons (.isE false "NoCourt") .nil))))))
 (.seq (.asg (.nm 2) (.bin .Add (.var 2) (.lst (.cons (.isE false "Late") (.cons (.isE false "NotAllowed") (.cons (.isE false "NoRuling") .nil))))))
 (.seq (.asg (.nm 2) (.bin .Add (.var 2) (.lst (.cons (.isE false "NotYours") (.cons (.isE false "NoRow") (.cons (.isE false "Twice") (.cons (.isE false "Unknown") .nil)))))))
 (.seq (.ret (.and (.isE true "NoPack") (.and (.isE true "ValueError") (.cmp .NotIn (.bl true) (.var 2)))))
 .nil)))))
 (.seq (.ret (.bl false))
 .nil))
def z3g:Fn:=runD [] [F_z8] 3 zjo
def zf3:S:=(.seq (.asg (.nm 1) (.call 3 "_law_due" (.cons (.var 0) .nil)))
 (.seq (.ifS (.tv (.isN false (.var 1)))
 (.seq (.ret (.call 2 "_law_refused" (.cons (.var 0) .nil)))
 .nil)
 .nil)
 (.seq (.ret (.call 0 "_law_is_pack" (.cons (.call 1 "read_pack" (.cons (.var 0) .nil)) (.cons (.var 1) .nil))))
 .nil)))
def z36:Fn:=runD [] [zgd,F_z8,z3g,ze1] 2 zf3
def zm4:S:=(.seq (.for_ (.nm 1) (.rng (.cons (.int 0) (.cons (.bin .Add (.int 1) (.bi "min" (.cons (.bi "len" (.cons (.var 0) .nil)) (.cons (.int 47) .nil)))) (.cons (.int 8) .nil))))
 (.seq (.asg (.nm 2) (.bin .Add (.sl (.var 0) (.tv (.var 1)) (.tv (.bin .Add (.var 1) (.int 8)))) (.lst (.cons (.bi "len" (.cons (.var 0) .nil)) .nil))))
 (.seq (.ifS (.not (.tv (.call 0 "_law_right" (.cons (.call 2 "_law_texts" (.cons (.var 2) (.cons (.call 3 "_law_names" (.cons (.bin .FloorDiv (.ix (.var 2) (.int 0)) (.int 18)) .nil)) .nil))) .nil))))
 (.seq (.ret (.bl false))
 .nil)
 .nil)
 (.seq (.asg (.nm 3) (.ix (.lst (.cons .non (.cons (.bl true) (.cons (.int 0) (.cons (.lst (.cons (.str "b") .nil)) (.cons (.tup (.cons (.str "b") .nil)) (.cons .dnew (.cons (.lst .nil) (.cons (.tup (.cons (.tup (.cons (.str "b") (.cons (.int 1) .nil))) .nil)) (.cons (.bl false) .nil)))))))))) (.bin .Mod (.ix (.var 2) (.neg (.int 1))) (.int 9))))
 (.seq (.ifS (.or (.not (.tv (.call 1 "_law_refused" (.cons (.var 3) .nil)))) (.not (.tv (.call 1 "_law_refused" (.cons (.ix (.lst (.cons (.lst .nil) (.cons .non (.cons (.tup .nil) (.cons (.int 7) .nil))))) (.bin .Mod (.bin .FloorDiv (.var 1) (.int 8)) (.int 4))) .nil)))))
 (.seq (.ret (.bl false))
 .nil)
 .nil)
 .nil)))))
 (.seq (.ret (.and (.call 0 "_law_right" (.cons (.str "-") .nil)) (.and (.call 0 "_law_right" (.cons (.str "") .nil)) (.call 0 "_law_right" (.cons (.str "- -") .nil)))))
 .nil))
def zd9:Fn:=runD [] [z36,z3g,z55,z51] 4 zm4
theorem zk8 {Κ:List D}{Φ:List Fn}{l:P}{ρ:Rho}{i:Nat}{g:G}(h:ρ[i]?=some (some (g,.dict (en l))))(hl:l.length<64):evE Κ Φ (.sortI i) ρ=.ok (.fr,.list ((srt l).map pr)):=by rw[zmg];rw[h];dsimp only;rw[zjk,zqs,zb4,zhh,zi6];simp only[hl,decide_true,qd,if_true]
def z2k (acc:P)(l:P):P:=l.foldl (fun a p=>put a p.1 (max p.2 (look a p.1))) acc
theorem z5w:∀(l:P) (acc:P),(ks acc).Nodup->(ks (z2k acc l)).Nodup
 | [],_,h=>h
 |p::l,acc,h=>z5w l _ (zbf _ _ _ h)
theorem z5h (n:Str):∀(l acc:P),look (z2k acc l) n=l.foldl (fun m p=>if p.1=n then max p.2 m else m) (look acc n)
 | [],_=>rfl
 |p::l,acc=>by
  have h3:z2k acc (p::l)=z2k (put acc p.1 (max p.2 (look acc p.1))) l:=rfl;rw[h3,z5h n l,k9,zf9];split
  ·rename_i e;rw[e]
  ·rfl
theorem z49 (n:Str):∀(l:P) (m:Int),PK l->0<=m->l.foldl (fun m p=>if p.1=n then max p.2 m else m) m=max m (look l n)
 | [],m,_,h=>by show m=max m 0;omega
 |p::l,m,hp,h=>by
  have tl:PK l:=⟨(cg.mp hp.sd).2,fun x hx=>hp.pos x (aw _ hx)⟩;rw[k9];have h0:=hp.pos p au;by_cases e:p.1=n
  ·have nn:n∉ks l:=by have :=hp.nd;rw[ks,ae,c9]at this;exact e▸this.1
   rw[if_pos e,z49 n l _ tl (by omega)];unfold look;rw[z2w nn,fnd,if_pos e];show max (max p.2 m) 0=max m p.2;omega
  ·rw[if_neg e,z49 n l m tl h];unfold look;rw[fnd,if_neg e]
def gr (l:P):P:=(srt (z2k [] l)).filter fun p=>decide (0<p.2)
def up (l:P):P:=(srt l).filter fun p=>decide (0<p.2)
theorem z58 (n:Str):∀(l:P),(ks l).Nodup->fnd (l.filter fun p=>decide (0<p.2)) n=(fnd l n).filter fun v=>decide (0<v)
 | [],_=>rfl
 |p::l,nd=>by
  rw[ks,ae,c9]at nd;have ih:=z58 n l nd.2;by_cases h:0<p.2
  ·rw[mz (by simpa using h),fnd,fnd];by_cases e:p.1=n
   ·rw[if_pos e,if_pos e];show _=if decide (0<p.2)=true then some p.2 else none
    rw[if_pos (ul h)]
   ·rw[if_neg e,if_neg e];exact ih
  ·rw[m3 (by simpa using h),ih,fnd];by_cases e:p.1=n
   ·rw[if_pos e,z2w (e▸nd.1)];show none=if decide (0<p.2)=true then some p.2 else none
    rw[if_neg (by simpa using h)]
   ·rw[if_neg e]
theorem zso {l:P}(nd:(ks l).Nodup):PK (up l):=⟨(zdm nd).filter _,fun p hp=>by simpa using(gu.mp hp).2⟩
theorem zjc {l:P}(nd:(ks l).Nodup)(n:Str):look (up l) n=max (look l n) 0:=by
 unfold look up;rw[z58 n _ (zqp (zdm nd)),zff (z2v l) nd];cases h:fnd l n with
 |none=>rfl
 |some v=>
  show Option.getD (if _ then _ else _) 0=max v 0;by_cases h:0<v
  ·rw[if_pos (by simpa using h)];show v=_;omega
  ·rw[if_neg (by simpa using h)];show 0=_;omega
theorem z7x:∀(l:P) (acc:P),(z2k acc l).length<=acc.length+l.length
 | [],_=>ah _
 |p::l,acc=>by have h1:=z7x l (put acc p.1 (max p.2 (look acc p.1)));have h2:=ze7 p.1 (max p.2 (look acc p.1)) acc;have h3:z2k acc (p::l)=z2k (put acc p.1 (max p.2 (look acc p.1))) l:=rfl;rw[h3,ay];omega
theorem znn (l:P):PK (gr l):=zso (z5w l [] pc)
theorem zhe {l m:P}(nd:(ks l).Nodup)(h:∀k∈ks l,k∈ks m):l.length<=m.length:=by have:=zh0 nd h;simpa[ks]using this
def mt (a b:P):P:=(a.filter fun p=>decide (p.1∈ks b)).map fun p=>(p.1,min p.2 (look b p.1))
theorem eq_nil (xs:List D)(h:z1y 39 xs=true):cmpD .Eq (.list xs) (.list [])=.ok xs.isEmpty:=by show(if(shal 40 (.list xs)&&shal 40 (.list []))=true then Res.ok (eqD (.list xs) (.list []))else .no)=_;rw[if_pos (by show(z1y 39 xs&&true)=true;rw[h];rfl)];cases xs<;>simp[eqD,PyData.eqv,PyData.eqvAll]
def wi (a b:P):Bool:=(a.filter fun p=>decide (look b p.1<p.2)).isEmpty
def sd (b:Bool):Str:=if b then "for"else "against"
def own (b:Bool)(f a:P):P:=if b then f else a
def opp (b:Bool)(f a:P):P:=if b then a else f
def cs2 (f a:P):D:=.tuple [pk f,pk a]
def rl (b:Bool)(f a r:P):D:=.tuple [cs2 f a,.str (sd b),pk r]
def ov (a b:P):List Str:=(a.filter fun p=>decide (look b p.1<p.2)).map (·.1)
def bi (b:Bool)(f a r f' a':P):Bool:=wi r (own b f' a')&&wi (opp b f' a') (opp b f a)
theorem z5g {a b:Int}(h:0<b)(h2:b<2 ^ 200):binD .FloorDiv (.int a) (.int b)=.ok (.int (a/b)):=by show(if _ then _ else _)=_;rw[if_pos ⟨h,h2⟩]
theorem zg9 (cs:List Int):biD "len" [.list (cs.map .int)]=.ok (.int (cs.length:Int)):=by show Res.ok (PyData.int ((cs.map PyData.int).length:Int))=_;rw[am]
theorem e_sl {Κ:List D}{Φ:List Fn}{ρ:Rho}{a b c:C}{x d:D}{i j:Option Int}(ha:Ev Κ Φ a ρ x)(hb:Oo Κ Φ b ρ i)(hc:Oo Κ Φ c ρ j)(h:slD x i j=.ok d):Ev Κ Φ (.sl a b c) ρ d:=by obtain⟨g1,ha⟩:=ha;unfold Oo at hb hc;exact⟨_,by rw[E_sl];rw[ha,Res.ok_bind,hb,Res.ok_bind,hc,Res.ok_bind];dsimp only;rw[h,Res.ok_bind]⟩
theorem zbh {α β:Type}(f:α->β)(xs:List α)(i j:Option Int):cut (xs.map f) i j=(cut xs i j).map f:=by unfold cut;rw[am,List.map_take,List.map_drop]
theorem zcg (xs:List Int)(i j:Option Int):slD (.list (xs.map .int)) i j=.ok (.list ((cut xs i j).map .int)):=by show Res.ok (PyData.list (cut (xs.map PyData.int) i j))=_;rw[zbh]
def Nx (I:Rho->Prop)(z:Res Out):Prop:=∃ρ',z=.ok (.nx ρ')/\I ρ'
theorem zp6 {Κ:List D}{Φ:List Fn}{ρ:Rho}{I:Rho->Prop}(h:I ρ):Nx I (evS Κ Φ .nil ρ):=⟨ρ,z10,h⟩
theorem ztn (xs:List D):biD "len" [.list xs]=.ok (.int (xs.length:Int)):=rfl
theorem zdh {β:Type}{f:D->Rho->Res Out}{m:β->D}{Q:Res Out->Prop}(I:List β->Rho->Prop):∀(xs pre:List β) (ρ:Rho),(∀pr' x post ρ,pre++xs=pr'++x::post->I pr' ρ->(∃ρ',f (m x) ρ=.ok (.nx ρ')/\I (pr'++[x]) ρ')\/∃g d,f (m x) ρ=.ok (.rt g d)/\Q (.ok (.rt g d)))->I pre ρ->(∃ρ',forD f (xs.map m) ρ=.ok (.nx ρ')/\I (pre++xs) ρ')\/∃g d,forD f (xs.map m) ρ=.ok (.rt g d)/\Q (.ok (.rt g d))
 | [],pre,ρ,_,h=>.inl ⟨ρ,rfl,by rw[dn];exact h⟩
 |x::xs,pre,ρ,hf,h=>by
  rcases hf pre x xs ρ rfl h with⟨ρ',e,h'⟩|⟨g,d,e,q⟩
  ·have e2:pre++x::xs=(pre++[x])++xs:=by simp
   rcases zdh I xs (pre++[x]) ρ' (fun a b c r hh=>hf a b c r (e2.trans hh)) h' with⟨ρ2,e3,h3⟩|⟨g,d,e3,q⟩
   ·exact .inl ⟨ρ2,by rw[ae];show(match f (m x) ρ with|.ok (.nx ρ')=>forD f (xs.map m) ρ'|.ok (.rt g d)=>.ok (.rt g d)|.exc e=>.exc e|.no=>.no)=_;rw[e];exact e3,by rw[e2];exact h3⟩
   ·exact .inr ⟨g,d,by rw[ae];show(match f (m x) ρ with|.ok (.nx ρ')=>forD f (xs.map m) ρ'|.ok (.rt g d)=>.ok (.rt g d)|.exc e=>.exc e|.no=>.no)=_;rw[e];exact e3,q⟩
  ·exact .inr ⟨g,d,by rw[ae];show(match f (m x) ρ with|.ok (.nx ρ')=>forD f (xs.map m) ρ'|.ok (.rt g d)=>.ok (.rt g d)|.exc e=>.exc e|.no=>.no)=_;rw[e],q⟩
theorem zlt {Κ:List D}{Φ:List Fn}{ρ:Rho}{g:G}{Q:Res Out->Prop}{β:Type}{t':Tg}{it:C}{p rest:S}{m:β->D}{xs:List β}{ρ1:Rho}(h:evF Κ Φ it ρ=.ok (g,xs.map m,ρ1))(I:List β->Rho->Prop)(h0:I [] ρ1)
  (hf:∀pre x post ρ,xs=pre++x::post->I pre ρ->∃ρ2,z0x t' (gJ (m x) g,m x) ρ=.ok ρ2/\(Nx (I (pre++[x])) (evS Κ Φ p ρ2)\/∃g d,evS Κ Φ p ρ2=.ok (.rt g d)/\Q (.ok (.rt g d)))) (hk:∀ρ',I xs ρ'->Q (evS Κ Φ rest ρ')):Q (evS Κ Φ (.seq (.for_ t' it p) rest) ρ):=by
 rcases zdh (f:=fun x ρ1=>z0x t' (gJ x g,x) ρ1>>=fun ρ2=>evS Κ Φ p ρ2) (m:=m) (Q:=Q) I xs [] ρ1 (fun pre x post ρ hx hI=>by
  obtain⟨ρ2,e,hh⟩:=hf pre x post ρ hx hI;rcases hh with⟨ρ',h1,h2⟩|⟨g',d,h1,h2⟩
  ·exact .inl ⟨ρ',by rw[e,Res.ok_bind,h1],h2⟩
  ·exact .inr ⟨g',d,by rw[e,Res.ok_bind,h1],h2⟩) h0 with⟨ρ',e,i⟩|⟨g',d,e,q⟩
 ·rw[z0m (z73 h e) rfl];exact hk ρ' i
 ·rw[z0f (z73 h e)];exact q
theorem zop {α:Type}{xs:List α}{x:α×Nat}(h:x∈xs.zipIdx):xs[x.2]?=some x.1:=List.mem_zipIdx_iff_getElem?.mp h
theorem zd1 {Φ:List Fn}{ρ:Rho}{t:C}{i j:Int}(h:Ev [] Φ t ρ (.int i)):Tt [] Φ (.tv (.cmp .Eq t (.int j))) ρ (decide (i=j)):=t_tv (z0o (k:=decide (i=j)) h z04.e (by show Res.ok (eqD (.int _) (.int _))=_;rw[zk4])).e rfl
def gnb (w:Str):Bool:=([.str "and",.str "or",.str "not",.str "if",.str "is",.str "some",.str "all",.str "for",.str "against"]:List D).any fun y=>eqD y (.str w)
def gn (w:Str):Str:=if gnb w then w++"x"else w
theorem zr7 {w:Str}(h:w.length<=100):F_z9 [.str w]=.ok (.fr,.str (gn w)):=by
 unfold F_z9;refine z11 ?_;unfold S_z9;have hc:Tt [] [] (.tv (.cmp .In (.var 0) (.lst (.cons (.str "and") (.cons (.str "or") (.cons (.str "not") (.cons (.str "if") (.cons (.str "is") (.cons (.str "some") (.cons (.str "all") (.cons (.str "for") (.cons (.str "against") .nil)))))))))))) [some (.od,.str w)] (gnb w):=t_tv (z0o (z01 rfl) (Ev.of (z54 (by(repeat' first|exact z0u|exact z0q|exact z0t|exact z04|exact z0e|exact v_bl|exact z1j|exact z0j|exact z07|exact z1c|exact z1d|(apply z01;rfl)|(apply v_var;rfl;first|assumption|exact z0a _|rfl)|apply z06|apply z00|apply z09|apply z0o|apply v_ix|apply v_bi|apply v_mt|apply z1f|apply z1k|apply z16|apply t_tv|apply z0w|apply Vv.e|exact z0h _ _|exact z1v _ _|exact z21 _ _|assumption|exact z0a _|rfl)))) rfl).e rfl;unfold gn;cases hk:gnb w with
 |true=>refine z0y hc hk (z0f (z0g (z09 (z01 rfl) z0e.e (add_str (by have:("x":Str).length=1:=rfl;omega)) rfl)))
 |false=>exact z0v hc hk (z0f (z0g (v_var rfl rfl)))
theorem z3l:("abcdefghijklmnopqrstuvwxyz":Str).length=26:=rfl
theorem z27:("bcdefghjklmnpqrstuvwxyz":Str).length=23:=rfl
def p1 (c:Nat):Bool:=decide (97<=c)&&decide (c<=122)
def p2 (c:Nat):Bool:=p1 c&& !(c==97)&& !(c==105)&& !(c==111)
def Ch (p:Nat->Bool)(w:Str):Prop:=∀c∈w.cps.toList,p c=true
theorem Ch.app {p:Nat->Bool}{a b:Str}(ha:Ch p a)(hb:Ch p b):Ch p (a++b):=fun c hc=>by
 have hc':c∈(a.cps++b.cps).toList:=hc;rw[p7]at hc';rcases cx.mp hc' with h|h
 ·exact ha c h
 ·exact hb c h
theorem Ch.sl {p:Nat->Bool}{a:Str}(ha:Ch p a)(i j:Option Int):Ch p (z0k a i j):=fun c hc=>by
 have hc':c∈cut a.cps.toList i j:=by have h0:c∈(cut a.cps.toList i j).toArray.toList:=hc;simpa using h0
 exact ha c (kt (o0 hc'))
theorem Ch.chr {p:Nat->Bool}{z:Str}{i:Int}(h:Ch p z)(h0:0<=i)(h1:i<z.length):Ch p (Mk.chr z i):=fun c hc=>by have hc':c∈[z.cps.toList.getD i.toNat 0]:=hc;rw[cf.mp hc'];refine h _ (getD_mem h0 ?_);rw[bp];exact h1
theorem Ch.weak {p q:Nat->Bool}{z:Str}(h:Ch p z)(hq:∀c,p c=true->q c=true):Ch q z:=fun c hc=>hq c (h c hc)
theorem Ch.nil {p:Nat->Bool}:Ch p "":=fun c hc=>by have hc':c∈([]:List Nat):=hc;cases hc'
theorem p21 (c:Nat)(h:p2 c=true):p1 c=true:=by unfold p2 at h;rw[ba,ba,ba]at h;exact h.1.1.1
theorem Ch.join {p:Nat->Bool}{ss:List Str}(h:∀s∈ss,Ch p s):Ch p (z1p "" ss):=fun c hc=>by
 have hc':c∈(z69 ("":Str).cps.toList ss).toArray.toList:=hc;rw[gg]at hc';cases ss with
 |nil=>cases hc'
 |cons x r=>
  simp only[z69,cx,kq,bq]at hc';rcases hc' with hc'|⟨l,⟨y,hy,rfl⟩,hc'⟩
  ·exact h x au c hc'
  ·rcases cx.mp hc' with hc'|hc'
   ·cases(show c∈([]:List Nat)from hc')
   ·exact h y (aw _ hy) c hc'
theorem zhu:Ch p1 "abcdefghijklmnopqrstuvwxyz":=by
 have h:(("abcdefghijklmnopqrstuvwxyz":Str).cps.toList.all p1)=true:=by decide+kernel
 exact fun c hc=>ax.mp h c hc
theorem zba:Ch p2 "bcdefghjklmnpqrstuvwxyz":=by
 have h:(("bcdefghjklmnpqrstuvwxyz":Str).cps.toList.all p2)=true:=by decide+kernel
 exact fun c hc=>ax.mp h c hc
structure NW (w:Str):Prop where
 l1:1<=w.length
 l2:w.length<=12
 ch:Ch p1 w
 kp:gnb w=false
def kws:List Str:=["and","or","not","if","is","some","all","for","against"]
theorem z8a (w:Str):gnb w=true↔w∈kws:=by
 show(kws.map PyData.str).any (fun y=>eqD y (.str w))=true↔_;rw[List.any_map,List.any_eq_true];constructor
 ·rintro⟨x,hx,h⟩
  have h':(x==w)=true:=h;rw[beq_iff_eq]at h';rw[<-h'];exact hx
 ·intro h;exact⟨w,h,by show(w==w)=true;rw[beq_self_eq_true]⟩
theorem zjt {w:Str}(h1:1<=w.length)(h2:w.length<=12)(h:Ch p1 w):NW (gn w):=by
 unfold gn;cases hk:gnb w with
 |false=>rw[if_neg bj];exact⟨h1,h2,h,hk⟩
 |true=>
  rw[if_pos rfl];have hm:=(z8a w).mp hk;have hx:Ch p1 ("x":Str):=fun c hc=>by have hc':c∈[120]:=hc;rw[cf.mp hc'];rfl
  simp only[kws,ao,cr,or_false]at hm;have hl:∀v∈kws,v.length<=11/\gnb (v++"x")=false:=by decide+kernel
  have hl':=hl w ((z8a w).mp hk);refine⟨by rw[z13];omega,by rw[z13];have:("x":Str).length=1:=rfl;omega,h.app hx,hl'.2⟩
theorem zol {w:Str}(h1:1<=w.length)(h2:w.length<=12)(h:Ch p2 w):NW w:=by
 refine⟨h1,h2,h.weak p21,?_⟩;cases hk:gnb w with
 |false=>rfl
 |true=>
  have hl:∀v∈kws,v.cps.toList.all p2=false:=by decide+kernel
  have:=hl w ((z8a w).mp hk);rw[ax.mpr h]at this;cases this
theorem zb8 (z:Str){i:Int}(h:0<=i):(z0k z none (some i)).length+(z0k z (some i) none).length=z.length:=by
 have hn:z.cps.toList.length=z.length:=by simp[Str.length]
 have e:∀(a b:Option Int),(z0k z a b).length=(cut z.cps.toList a b).length:=fun a b=>by show((cut z.cps.toList a b).toArray).size=_;rw[aq]
 rw[e,e];unfold cut;rw[hn];simp only[Mi.sIx,if_neg (show ¬i<0 by omega),d6,dq,hn];omega
theorem sl12 (z:Str):(z0k z none (some 12)).length=min 12 z.length:=by
 have hn:z.cps.toList.length=z.length:=by simp[Str.length]
 show((cut z.cps.toList none (some 12)).toArray).size=_;rw[aq];unfold cut;rw[hn];simp only[Mi.sIx,if_neg (show ¬(12:Int)<0 by omega),d6,dq,hn];omega
theorem zl8 (c:Int):∃ns:List Str,(ns.length=8/\∀w∈ns,NW w)/\z8f [.int c]=.ok (.fr,.list (ns.map .str)):=by
 suffices h:∃ns:List Str,(ns.length=8/\∀w∈ns,NW w)/\evS [] [F_z9] zfa [some (.od,.int c),none,none,none,none,none,none]=.ok (.rt .fr (.list (ns.map .str))) by obtain⟨ns,h1,h2⟩:=h;exact⟨ns,h1,z11 h2⟩
 let Q:Res Out->Prop:=fun r=>∃ns:List Str,(ns.length=8/\∀w∈ns,NW w)/\r=.ok (.rt .fr (.list (ns.map .str)))
 show Q _;unfold zfa;refine q_ok (z0n z0e) (q_ok (z2o (z54 z0j) rfl) ?_);refine zfi (m:=fun i:Nat=>.int i) (xs:=b8 4) (zf7 (by(repeat' first|exact z0u|exact z0q|exact z0t|exact z04|exact z0e|exact v_bl|exact z1j|exact z0j|exact z07|exact z1c|exact z1d|(apply z01;rfl)|(apply v_var;rfl;first|assumption|exact z0a _|rfl)|apply z06|apply z00|apply z09|apply z0o|apply v_ix|apply v_bi|apply v_mt|apply z1f|apply z1k|apply z16|apply t_tv|apply z0w|apply Vv.e|exact z0h _ _|exact z1v _ _|exact z21 _ _|assumption|exact z0a _|rfl)) rfl) (fun pre ρ=>∃g c ns u3 u4 u5 u6,ρ=[some (g,.int c),some (.al,.str "abcdefghijklmnopqrstuvwxyz"),some (.fr,.list (dw .str ns)),u3,u4,u5,u6]/\ns.length=pre.length/\∀w∈ns,1<=w.length/\w.length<=12/\Ch p1 w) ⟨.od,c,[],none,none,none,none,rfl,rfl,fun _ h=>by cases h⟩ ?_ ?_
 ·rintro pre x post ρ hx ⟨g,c,ns,u3,u4,u5,u6,rfl,hl,hw⟩
  have hp:pre.length<4:=by have:=congrArg jv hx;simp only[fo,az,ay]at this;omega
  let Q:Res Out->Prop:=fun r=>∃ρ',r=.ok (.nx ρ')/\∃g c ns u3 u4 u5 u6,ρ'=[some (g,.int c),some (.al,.str "abcdefghijklmnopqrstuvwxyz"),some (.fr,.list (dw .str ns)),u3,u4,u5,u6]/\ns.length=(pre++[x]).length/\∀w∈ns,1<=w.length/\w.length<=12/\Ch p1 w
  show Q (evS _ _ _ [some (g,.int c),some (.al,.str "abcdefghijklmnopqrstuvwxyz"),some (.fr,.list (dw .str ns)),some (.al,.int x),u4,u5,u6]);refine q_ok (z0n (by(repeat' first|exact z0u|exact z0q|exact z0t|exact z04|exact z0e|exact v_bl|exact z1j|exact z0j|exact z07|exact z1c|exact z1d|(apply z01;rfl)|(apply v_var;rfl;first|assumption|exact z0a _|rfl)|apply z06|apply z00|apply z09|apply z0o|apply v_ix|apply v_bi|apply v_mt|apply z1f|apply z1k|apply z16|apply t_tv|apply z0w|apply Vv.e|exact z0h _ _|exact z1v _ _|exact z21 _ _|assumption|exact z0a _|rfl))) (q_ok (z0n (by(repeat' first|exact z0u|exact z0q|exact z0t|exact z04|exact z0e|exact v_bl|exact z1j|exact z0j|exact z07|exact z1c|exact z1d|(apply z01;rfl)|(apply v_var;rfl;first|assumption|exact z0a _|rfl)|apply z06|apply z00|apply z09|apply z0o|apply v_ix|apply v_bi|apply v_mt|apply z1f|apply z1k|apply z16|apply t_tv|apply z0w|apply Vv.e|exact z0h _ _|exact z1v _ _|exact z21 _ _|assumption|exact z0a _|rfl))) (q_ok (z0n z0e) ?_));have m0:0<=c%12:=by omega
  have m1:c%12<12:=by omega
  refine zfi (m:=fun i:Nat=>.int i) (xs:=b8 (1+c%12).toNat) (zf7 (by(repeat' first|exact z0u|exact z0q|exact z0t|exact z04|exact z0e|exact v_bl|exact z1j|exact z0j|exact z07|exact z1c|exact z1d|(apply z01;rfl)|(apply v_var;rfl;first|assumption|exact z0a _|rfl)|apply z06|apply z00|apply z09|apply z0o|apply v_ix|apply v_bi|apply v_mt|apply z1f|apply z1k|apply z16|apply t_tv|apply z0w|apply Vv.e|exact z0h _ _|exact z1v _ _|exact z21 _ _|assumption|exact z0a _|rfl)) (zrc (by omega) (by omega))) (fun pr' ρ=>∃c' w u,ρ=[some (.al,.int c'),some (.al,.str "abcdefghijklmnopqrstuvwxyz"),some (.fr,.list (dw .str ns)),some (.al,.int x),some (.al,.int (1+c%12)),some (.al,.str w),u]/\w.length=pr'.length/\Ch p1 w) ⟨c/12,"",u6,rfl,rfl,Ch.nil⟩ ?_ ?_
  ·rintro pr' y post' ρ hy ⟨c',w,u,rfl,hwl,hch⟩
   have hp':pr'.length<12:=by have:=congrArg jv hy;simp only[fo,az,ay]at this;omega
   have hix:=z3u (z:="abcdefghijklmnopqrstuvwxyz") (i:=c'%26) (by omega) (by rw[z3l];omega) (by rw[z3l];omega);have hlen:=z13 w (chr "abcdefghijklmnopqrstuvwxyz" (c'%26));rw[z89]at hlen;refine⟨_,z0m (z0n (z09 (z01 rfl) (v_ix (z01 rfl) (by(repeat' first|exact z0u|exact z0q|exact z0t|exact z04|exact z0e|exact v_bl|exact z1j|exact z0j|exact z07|exact z1c|exact z1d|(apply z01;rfl)|(apply v_var;rfl;first|assumption|exact z0a _|rfl)|apply z06|apply z00|apply z09|apply z0o|apply v_ix|apply v_bi|apply v_mt|apply z1f|apply z1k|apply z16|apply t_tv|apply z0w|apply Vv.e|exact z0h _ _|exact z1v _ _|exact z21 _ _|assumption|exact z0a _|rfl)) hix rfl).e (add_str (by rw[z89];omega)) rfl)) (z0m (z0n (by(repeat' first|exact z0u|exact z0q|exact z0t|exact z04|exact z0e|exact v_bl|exact z1j|exact z0j|exact z07|exact z1c|exact z1d|(apply z01;rfl)|(apply v_var;rfl;first|assumption|exact z0a _|rfl)|apply z06|apply z00|apply z09|apply z0o|apply v_ix|apply v_bi|apply v_mt|apply z1f|apply z1k|apply z16|apply t_tv|apply z0w|apply Vv.e|exact z0h _ _|exact z1v _ _|exact z21 _ _|assumption|exact z0a _|rfl))) z10),_,_,_,rfl,?_,hch.app (zhu.chr (by omega) (by rw[z3l];omega))⟩;rw[hlen,az,hwl];rfl
  ·rintro ρ ⟨c',w,u,rfl,hwl,hch⟩
   rw[fo]at hwl;have e:=zey (Κ:=[]) (Φ:=[F_z9]) (ρ:=[some (.al,.int c'),some (.al,.str "abcdefghijklmnopqrstuvwxyz"),some (.fr,.list (dw .str ns)),some (.al,.int x),some (.al,.int (1+c%12)),some (.al,.str w),u]) (i:=2) (a:=.var 5) (x:=.str w) (v_var rfl rfl) rfl (by rw[am];omega);refine q_ok e ?_;rw[z10];refine⟨_,rfl,.al,c',ns++[w],_,_,_,_,by rw[dz];rfl,by rw[az,az,hl];rfl,fun z hz=>?_⟩;rcases cx.mp hz with hz|hz
   ·exact hw z hz
   ·rw[cf.mp hz];exact⟨by omega,by omega,hch⟩
 ·rintro ρ ⟨g,c,ns,u3,u4,u5,u6,rfl,hl,hw⟩
  rw[fo]at hl;have hix:=z3u (z:="abcdefghijklmnopqrstuvwxyz") (i:=c%26) (by omega) (by rw[z3l];omega) (by rw[z3l];omega)
  let A:Str:=chr "abcdefghijklmnopqrstuvwxyz" (c%26)
  have hA:∀w:Str,(w++A).length=w.length+1:=fun w=>by rw[z13];rfl
  let ms:List Str:=ns++ns.map fun w=>z0k (w++A) none (some 12)
  have hms:ms.length=8:=by show(ns++_).length=8;rw[az,am,hl]
  have hmw:∀w∈ms,1<=w.length/\w.length<=12/\Ch p1 w:=fun w h=>by
   rcases(cx.mp h)with h|h
   ·exact hw w h
   ·obtain⟨v,hv,rfl⟩:=bq.mp h;obtain⟨h2,h3,h4⟩:=hw v hv;have h5:=sl12 (v++A);rw[hA]at h5;exact⟨by omega,by omega,Ch.sl (h4.app (zhu.chr (by omega) (by rw[z3l];omega))) _ _⟩
  have ec:=z3e (Κ:=[]) (Φ:=[F_z9]) (ρ:=[some (g,.int c),some (.al,.str "abcdefghijklmnopqrstuvwxyz"),some (.fr,.list (dw .str ns)),u3,u4,u5,u6]) (nt:=1) (js:=[1,0]) (N':=["_law_name","_law_letters","_law_cell"]) (tg:=.nm 0) (it:=.tv (.var 2)) (cond:=.nil) (elt:=.sl (.bin .Add (.var 0) (.ix (.var 1) (.bin .Mod (.var 2) (.int 26)))) .nil (.tv (.int 12))) (m:=PyData.str) (xs:=ns) (w:=(.al,ns.map .str)) (fun _=>true) (fun w=>.str (z0k (w++A) none (some 12))) (w_tv (g:=.al) (x:=.list (ns.map .str)) (by(first|rw[z8c]|rw[zfn]|rw[z4c]|rw[zc7]|rw[E_sl]);rfl) rfl) rfl (fun w=>[some (.al,.str w),some (.al,.str "abcdefghijklmnopqrstuvwxyz"),toAl (some (g,.int c))]) (fun w _=>rfl) (fun w _=>z1c)
   (fun w hx _=>by
    have h2:=(hw w hx).2.1;have hc':∃g',toAl (some (g,PyData.int c))=some (g',.int c):=by cases g<;>exact⟨_,rfl⟩
    obtain⟨g',hg'⟩:=hc';rw[hg'];exact v_sl (z09 (z01 rfl) (v_ix (z01 rfl) (by(repeat' first|exact z0u|exact z0q|exact z0t|exact z04|exact z0e|exact v_bl|exact z1j|exact z0j|exact z07|exact z1c|exact z1d|(apply z01;rfl)|(apply v_var;rfl;first|assumption|exact z0a _|rfl)|apply z06|apply z00|apply z09|apply z0o|apply v_ix|apply v_bi|apply v_mt|apply z1f|apply z1k|apply z16|apply t_tv|apply z0w|apply Vv.e|exact z0h _ _|exact z1v _ _|exact z21 _ _|assumption|exact z0a _|rfl)) hix rfl).e (add_str (by rw[z89];omega)) rfl).e z1d (z16 z04.e) (z4s (by have:=hA w;show(w++A).length<=1000;omega)) rfl)
  have el:(ns.map PyData.str++((ns.filter fun _=>true).map fun w=>PyData.str (z0k (w++A) none (some 12))))=ms.map .str:=by rw[d9.mpr fun _ _=>rfl];show _=(ns++ns.map fun w=>z0k (w++A) none (some 12)).map PyData.str;rw[dz,di];rfl
  refine q_ok (z2o (xs:=ms.map .str) (zfk (z01 rfl) (Ev.of ec) (by rw[add_list (by simp only[am];have:=ke (fun _=>true) ns;omega),el]) (z19 ms)) (z19 ms)) ?_;have eg:=z3e (Κ:=[]) (Φ:=[F_z9]) (ρ:=[some (g,.int c),some (.al,.str "abcdefghijklmnopqrstuvwxyz"),some (.fr,.list (dw .str ms)),u3,u4,u5,u6]) (nt:=1) (js:=[]) (N':=["_law_name"]) (tg:=.nm 0) (it:=.tv (.var 2)) (cond:=.nil) (elt:=.call 0 "_law_good_name" (.cons (.var 0) .nil)) (m:=PyData.str) (xs:=ms) (w:=(.al,ms.map .str)) (fun _=>true) (fun w=>.str (gn w)) (w_tv (g:=.al) (x:=.list (ms.map .str)) (by(first|rw[z8c]|rw[zfn]|rw[z4c]|rw[zc7]|rw[E_sl]);rfl) rfl) rfl (fun w=>[some (.al,.str w)]) (fun w _=>rfl) (fun w _=>z1c) (fun w hx _=>z0s (z00 (z01 rfl) z07) rfl (zr7 (by have:=(hmw w hx).2.1;omega)) rfl);refine q_rt (zds (fun i z=>by cases z) eg) ⟨ms.map gn,⟨by rw[am];exact hms,fun w hw=>?_⟩,?_⟩
  ·obtain⟨v,hv,rfl⟩:=bq.mp hw;obtain⟨h1,h2,h3⟩:=hmw v hv;exact zjt h1 h2 h3
  ·rw[d9.mpr fun _ _=>rfl,di];rfl
theorem zes (c:Int):∃ns:List Str,(ns.length=8/\∀w∈ns,NW w)/\z51 [.int c]=.ok (.fr,.list (ns.map .str)):=by
 suffices h:∃ns:List Str,(ns.length=8/\∀w∈ns,NW w)/\evS [] [z8f] zfr [some (.od,.int c),none,none,none,none,none,none,none,none,none]=.ok (.rt .fr (.list (ns.map .str))) by obtain⟨ns,h1,h2⟩:=h;exact⟨ns,h1,z11 h2⟩
 unfold zfr;have hc:Tt [] [z8f] (.tv (.cmp .Eq (.bin .Mod (.var 0) (.int 2)) (.int 1))) [some (.od,.int c),none,none,none,none,none,none,none,none,none] (decide (c%2=1)):=by(repeat' first|exact z0u|exact z0q|exact z0t|exact z04|exact z0e|exact v_bl|exact z1j|exact z0j|exact z07|exact z1c|exact z1d|(apply z01;rfl)|(apply v_var;rfl;first|assumption|exact z0a _|rfl)|apply z06|apply z00|apply z09|apply z0o|apply v_ix|apply v_bi|apply v_mt|apply z1f|apply z1k|apply z16|apply t_tv|apply z0w|apply Vv.e|exact z0h _ _|exact z1v _ _|exact z21 _ _|assumption|exact z0a _|rfl)
 by_cases hm:c%2=1
 ·obtain⟨ns,h1,h2⟩:=zl8 (c/2);exact⟨ns,h1,z0y hc (ul hm) (z0f (zds (fun i z=>by cases z) (zot (by(repeat' first|exact z0u|exact z0q|exact z0t|exact z04|exact z0e|exact v_bl|exact z1j|exact z0j|exact z07|exact z1c|exact z1d|(apply z01;rfl)|(apply v_var;rfl;first|assumption|exact z0a _|rfl)|apply z06|apply z00|apply z09|apply z0o|apply v_ix|apply v_bi|apply v_mt|apply z1f|apply z1k|apply z16|apply t_tv|apply z0w|apply Vv.e|exact z0h _ _|exact z1v _ _|exact z21 _ _|assumption|exact z0a _|rfl)) rfl h2)))⟩
 let Q:Res Out->Prop:=fun r=>∃ns:List Str,(ns.length=8/\∀w∈ns,NW w)/\r=.ok (.rt .fr (.list (ns.map .str)))
 show Q _;refine z4d hc (um hm) ?_;refine q_ok (z0n z0e) (q_ok (z0n (d:=.int ((c%1000000000000000+7)*48271%2147483647)) (z09 (z09 (by(repeat' first|exact z0u|exact z0q|exact z0t|exact z04|exact z0e|exact v_bl|exact z1j|exact z0j|exact z07|exact z1c|exact z1d|(apply z01;rfl)|(apply v_var;rfl;first|assumption|exact z0a _|rfl)|apply z06|apply z00|apply z09|apply z0o|apply v_ix|apply v_bi|apply v_mt|apply z1f|apply z1k|apply z16|apply t_tv|apply z0w|apply Vv.e|exact z0h _ _|exact z1v _ _|exact z21 _ _|assumption|exact z0a _|rfl)) z04.e (zca (by decide)) rfl).e z04.e (z20 (by decide)) rfl)) (q_ok (z0n (by(repeat' first|exact z0u|exact z0q|exact z0t|exact z04|exact z0e|exact v_bl|exact z1j|exact z0j|exact z07|exact z1c|exact z1d|(apply z01;rfl)|(apply v_var;rfl;first|assumption|exact z0a _|rfl)|apply z06|apply z00|apply z09|apply z0o|apply v_ix|apply v_bi|apply v_mt|apply z1f|apply z1k|apply z16|apply t_tv|apply z0w|apply Vv.e|exact z0h _ _|exact z1v _ _|exact z21 _ _|assumption|exact z0a _|rfl))) ?_));generalize hn:(c%1000000000000000+7)*48271%2147483647=n;have n0:0<=n:=by omega
 have ej:=z3e (Κ:=[]) (Φ:=[z8f]) (ρ:=[some (.od,.int c),some (.al,.str "bcdefghjklmnpqrstuvwxyz"),some (.al,.int n),some (.al,.int (n%11)),none,none,none,none,none,none]) (nt:=1) (js:=[1,2]) (N':=["_law_k","_law_letters","_law_number"]) (tg:=.nm 0) (it:=.rng (.cons (.var 3) .nil)) (cond:=.nil) (elt:=.ix (.var 1) (.bin .Mod (.bin .Add (.bin .FloorDiv (.var 2) (.int 11)) (.bin .Mult (.bin .Mult (.int 5) (.var 0)) (.var 0))) (.int 23))) (m:=fun i:Nat=>PyData.int i) (xs:=b8 (n%11).toNat) (w:=(.fr,_)) (fun _=>true) (fun k=>.str (chr "bcdefghjklmnpqrstuvwxyz" ((n/11+5*(k:Int)*k)%23))) (zr0 (by(repeat' first|exact z0u|exact z0q|exact z0t|exact z04|exact z0e|exact v_bl|exact z1j|exact z0j|exact z07|exact z1c|exact z1d|(apply z01;rfl)|(apply v_var;rfl;first|assumption|exact z0a _|rfl)|apply z06|apply z00|apply z09|apply z0o|apply v_ix|apply v_bi|apply v_mt|apply z1f|apply z1k|apply z16|apply t_tv|apply z0w|apply Vv.e|exact z0h _ _|exact z1v _ _|exact z21 _ _|assumption|exact z0a _|rfl)) (zrc (by omega) (by omega))) rfl (fun k=>[some (.al,.int k),some (.al,.str "bcdefghjklmnpqrstuvwxyz"),some (.al,.int n)]) (fun k _=>rfl) (fun k _=>z1c)
  (fun k hk _=>by
   have hk':k<1000:=by have:=j5.mp hk;omega
   exact v_ix (z01 rfl) (z09 (z09 (by(repeat' first|exact z0u|exact z0q|exact z0t|exact z04|exact z0e|exact v_bl|exact z1j|exact z0j|exact z07|exact z1c|exact z1d|(apply z01;rfl)|(apply v_var;rfl;first|assumption|exact z0a _|rfl)|apply z06|apply z00|apply z09|apply z0o|apply v_ix|apply v_bi|apply v_mt|apply z1f|apply z1k|apply z16|apply t_tv|apply z0w|apply Vv.e|exact z0h _ _|exact z1v _ _|exact z21 _ _|assumption|exact z0a _|rfl)) (z09 (z09 z04.e (z01 rfl) (znm (by decide)) rfl).e (z01 rfl) (zca (by omega)) rfl).e rfl rfl).e z04.e (z20 (by decide)) rfl).e (z3u (by omega) (by rw[z27];omega) (by rw[z27];omega)) rfl)
 let ss:List Str:=(b8 (n%11).toNat).map fun(k:Nat)=>chr "bcdefghjklmnpqrstuvwxyz" ((n/11+5*(k:Int)*k)%23)
 have hss:∀s∈ss,s.length=1:=fun s h=>by obtain⟨k,_,rfl⟩:=bq.mp h;rfl
 have hsl:ss.length<=10:=by show(dw _ _).length<=10;rw[am,fo];omega
 have ejs:(((b8 (n%11).toNat).filter fun _=>true).map fun(k:Nat)=>PyData.str (chr "bcdefghjklmnpqrstuvwxyz" ((n/11+5*(k:Int)*k)%23)))=ss.map .str:=by rw[d9.mpr fun _ _=>rfl];show _=(dw _ _).map PyData.str;rw[di];rfl
 rw[ejs]at ej;refine q_ok (z0n (v_mt z0e.e (z00 (Ev.of ej) z07) (zpq hss (by omega)) rfl)) ?_;generalize hst:z1p "" ss=stem;have hstl:stem.length<=10:=by rw[<-hst,z7e ss hss];exact hsl
 have hsc:Ch p2 stem:=by rw[<-hst];refine Ch.join fun s hs=>?_;obtain⟨k,_,rfl⟩:=bq.mp hs;exact zba.chr (by omega) (by rw[z27];omega)
 refine q_ok (z0n (z09 (by(repeat' first|exact z0u|exact z0q|exact z0t|exact z04|exact z0e|exact v_bl|exact z1j|exact z0j|exact z07|exact z1c|exact z1d|(apply z01;rfl)|(apply v_var;rfl;first|assumption|exact z0a _|rfl)|apply z06|apply z00|apply z09|apply z0o|apply v_ix|apply v_bi|apply v_mt|apply z1f|apply z1k|apply z16|apply t_tv|apply z0w|apply Vv.e|exact z0h _ _|exact z1v _ _|exact z21 _ _|assumption|exact z0a _|rfl)) (by(repeat' first|exact z0u|exact z0q|exact z0t|exact z04|exact z0e|exact v_bl|exact z1j|exact z0j|exact z07|exact z1c|exact z1d|(apply z01;rfl)|(apply v_var;rfl;first|assumption|exact z0a _|rfl)|apply z06|apply z00|apply z09|apply z0o|apply v_ix|apply v_bi|apply v_mt|apply z1f|apply z1k|apply z16|apply t_tv|apply z0w|apply Vv.e|exact z0h _ _|exact z1v _ _|exact z21 _ _|assumption|exact z0a _|rfl)) (z20 (by omega)) rfl)) (q_ok (z2o (z54 z0j) rfl) ?_);generalize hat:n/276%(n%11+1)=at';have hat0:0<=at':=by rw[<-hat];exact la _ (by omega)
 refine zfi (m:=fun i:Nat=>.int i) (xs:=b8 4) (zf7 (by(repeat' first|exact z0u|exact z0q|exact z0t|exact z04|exact z0e|exact v_bl|exact z1j|exact z0j|exact z07|exact z1c|exact z1d|(apply z01;rfl)|(apply v_var;rfl;first|assumption|exact z0a _|rfl)|apply z06|apply z00|apply z09|apply z0o|apply v_ix|apply v_bi|apply v_mt|apply z1f|apply z1k|apply z16|apply t_tv|apply z0w|apply Vv.e|exact z0h _ _|exact z1v _ _|exact z21 _ _|assumption|exact z0a _|rfl)) rfl) (fun pre ρ=>∃ns u7 u8,ρ=[some (.od,.int c),some (.al,.str "bcdefghjklmnpqrstuvwxyz"),some (.al,.int n),some (.al,.int (n%11)),some (.al,.str stem),some (.al,.int at'),some (.fr,.list (dw .str ns)),u7,u8,none]/\ns.length=pre.length/\∀w∈ns,1<=w.length/\w.length<=11/\Ch p2 w) ⟨[],none,none,rfl,rfl,fun _ h=>by cases h⟩ ?_ ?_
 ·rintro pre x post ρ hx ⟨ns,u7,u8,rfl,hl,hw⟩
  have hp:pre.length<4:=by have:=congrArg jv hx;simp only[fo,az,ay]at this;omega
  have hix:=z3u (z:="bcdefghjklmnpqrstuvwxyz") (i:=(n/7+3*(x:Int))%23) (by omega) (by rw[z27];omega) (by rw[z27];omega);generalize hC:chr "bcdefghjklmnpqrstuvwxyz" ((n/7+3*(x:Int))%23)=C1 at hix;have hC1:C1.length=1:=by rw[<-hC];rfl
  have hC2:Ch p2 C1:=by rw[<-hC];exact zba.chr (by omega) (by rw[z27];omega)
  have s3:=zb8 stem hat0;have s1:=z8v stem none (some at');have s2:=z8v stem (some at') none;have l1:=z13 (z0k stem none (some at')) C1;have l2:=z13 (z0k stem none (some at')++C1) (z0k stem (some at') none);refine⟨_,z0m (z0n (v_ix (z01 rfl) (z09 (z09 (by(repeat' first|exact z0u|exact z0q|exact z0t|exact z04|exact z0e|exact v_bl|exact z1j|exact z0j|exact z07|exact z1c|exact z1d|(apply z01;rfl)|(apply v_var;rfl;first|assumption|exact z0a _|rfl)|apply z06|apply z00|apply z09|apply z0o|apply v_ix|apply v_bi|apply v_mt|apply z1f|apply z1k|apply z16|apply t_tv|apply z0w|apply Vv.e|exact z0h _ _|exact z1v _ _|exact z21 _ _|assumption|exact z0a _|rfl)) (z09 z04.e (z01 rfl) (znm (by decide)) rfl).e rfl rfl).e z04.e (z20 (by decide)) rfl).e hix rfl)) (z0m (zey (xs:=ns.map .str) (x:=.str (z0k stem none (some at')++C1++z0k stem (some at') none)) (z09 (z09 (v_sl (z01 rfl) z1d (z16 (z01 rfl)) (z4s (by omega)) rfl).e (z01 rfl) (add_str (by omega)) rfl).e (v_sl (z01 rfl) (z16 (z01 rfl)) z1d (z4s (by omega)) rfl).e (add_str (by omega)) rfl) rfl (by rw[am];omega)) z10),ns++[z0k stem none (some at')++C1++z0k stem (some at') none],_,_,by rw[dz];rfl,by rw[az,az,hl];rfl,fun z hz=>?_⟩;rcases cx.mp hz with hz|hz
  ·exact hw z hz
  ·rw[cf.mp hz];exact⟨by omega,by omega,((hsc.sl _ _).app hC2).app (hsc.sl _ _)⟩
 ·rintro ρ ⟨ns,u7,u8,rfl,hl,hw⟩
  rw[fo]at hl;have hix:=z3u (z:="bcdefghjklmnpqrstuvwxyz") (i:=n/13%23) (by omega) (by rw[z27];omega) (by rw[z27];omega);generalize hC:chr "bcdefghjklmnpqrstuvwxyz" (n/13%23)=C1 at hix;have hC1:C1.length=1:=by rw[<-hC];rfl
  have hC2:Ch p2 C1:=by rw[<-hC];exact zba.chr (by omega) (by rw[z27];omega)
  refine q_ok (z0n (v_ix (z01 rfl) (by(repeat' first|exact z0u|exact z0q|exact z0t|exact z04|exact z0e|exact v_bl|exact z1j|exact z0j|exact z07|exact z1c|exact z1d|(apply z01;rfl)|(apply v_var;rfl;first|assumption|exact z0a _|rfl)|apply z06|apply z00|apply z09|apply z0o|apply v_ix|apply v_bi|apply v_mt|apply z1f|apply z1k|apply z16|apply t_tv|apply z0w|apply Vv.e|exact z0h _ _|exact z1v _ _|exact z21 _ _|assumption|exact z0a _|rfl)) hix rfl)) ?_;have eg:=z3e (Κ:=[]) (Φ:=[z8f]) (ρ:=[some (.od,.int c),some (.al,.str "bcdefghjklmnpqrstuvwxyz"),some (.al,.int n),some (.al,.int (n%11)),some (.al,.str stem),some (.al,.int at'),some (.fr,.list (dw .str ns)),u7,u8,some (.al,.str C1)]) (nt:=1) (js:=[9]) (N':=["_law_name","_law_more"]) (tg:=.nm 0) (it:=.tv (.var 6)) (cond:=.nil) (elt:=.bin .Add (.var 0) (.var 1)) (m:=PyData.str) (xs:=ns) (w:=(.al,ns.map .str)) (fun _=>true) (fun w=>.str (w++C1)) (w_tv (g:=.al) (x:=.list (ns.map .str)) (by(first|rw[z8c]|rw[zfn]|rw[z4c]|rw[zc7]|rw[E_sl]);rfl) rfl) rfl (fun w=>[some (.al,.str w),some (.al,.str C1)]) (fun w _=>rfl) (fun w _=>z1c) (fun w hx _=>z09 (z01 rfl) (z01 rfl) (add_str (by have:=(hw w hx).2.1;omega)) rfl);have el:(ns.map PyData.str++((ns.filter fun _=>true).map fun w=>PyData.str (w++C1)))=(ns++ns.map fun w=>w++C1).map .str:=by rw[d9.mpr fun _ _=>rfl,dz,di];rfl
  refine q_rt (zds (fun i z=>by cases z) (zfk (xs:=(ns++ns.map fun w=>w++C1).map .str) (z01 rfl) (Ev.of eg) (by rw[add_list (by simp only[am];have:=ke (fun _=>true) ns;omega),el]) (z19 _))) ⟨_,⟨?_,fun w hw'=>?_⟩,rfl⟩
  ·rw[az,am,hl]
  ·rcases(cx.mp hw')with z|z
   ·obtain⟨h1,h2,h3⟩:=hw w z;exact zol h1 (by omega) h3
   ·obtain⟨v,hv,rfl⟩:=bq.mp z;obtain⟨h1,h2,h3⟩:=hw v hv;exact zol (by rw[z13];omega) (by rw[z13];omega) (h3.app hC2)
section
variable {Κ:List D}{Φ:List Fn}{ρ:Rho}{p q:S}{c:C}{k:Bool}{g:G}{d:D}{cl cl':Str}{args:C}{ds:List D}{n i:Nat}{f:Str}{m:Fn}
theorem zb9 {s:S}(h0:evS Κ Φ s (ds.map (fun d=>some (.od,d))++bw (n-ds.length) none)=.no)(h:evX Κ Φ s (ds.map (fun d=>some (.od,d))++bw (n-ds.length) none)=some cl):runD Κ Φ n s ds=.exc (.str cl):=by unfold runD;rw[h0,h]
theorem zgj (h:evS Κ Φ p ρ=.no):evS Κ Φ (.seq p q) ρ=.no:=by show outB (evS Κ Φ p ρ) _=_;rw[h];rfl
theorem zec (hc:Tt Κ Φ c ρ k)(hk:k=true)(h:evS Κ Φ p ρ=.no):evS Κ Φ (.ifS c p q) ρ=.no:=by show(evT Κ Φ c ρ>>=fun k=>if k then evS Κ Φ p ρ else evS Κ Φ q ρ)=_;subst hk;rw[hc,Res.ok_bind,if_pos rfl,h]
theorem zgg (h:evS Κ Φ p ρ=.no)(hx:evX Κ Φ p ρ=some cl):evX Κ Φ (.seq p q) ρ=some cl:=by show(match evS Κ Φ p ρ with|.ok (.nx ρ')=>evX Κ Φ q ρ'|.ok _=>none|_=>evX Κ Φ p ρ)=_;rw[h];exact hx
theorem zlz (hc:Tt Κ Φ c ρ k)(hk:k=true)(hx:evX Κ Φ p ρ=some cl):evX Κ Φ (.ifS c p q) ρ=some cl:=by show(match evT Κ Φ c ρ with|.ok k=>if k then evX Κ Φ p ρ else evX Κ Φ q ρ|_=>exT Κ Φ c ρ)=_;subst hk;rw[hc];exact hx
theorem zms (ha:Aa Κ Φ args ρ ds)(hf:Φ[n]?=some m)(hm:m ds=.exc (.str cl))(h:evS Κ Φ p (ρ.set i none)=.ok (.rt g d)):evS Κ Φ (.tr n f args cl i p) ρ=.ok (.rt g d):=by
 obtain⟨ys,e1,e2⟩:=ha;show(evA Κ Φ args ρ>>=fun ys=>match Φ[n]? with|some m=>(match m (ys.map (·.2))with|.ok _=>Res.ok (.nx ρ)|r=>if excOf r=some cl then outI i (evS Κ Φ p (ρ.set i none))else .no)|none=>.no)=_;rw[e1,Res.ok_bind,hf]
 dsimp only
 rw[e2,hm]
 dsimp only
 rw[if_pos (show excOf (.exc (.str cl))=some cl from rfl),h];rfl
end
theorem zux (a:P):cmpD .NotEq (pk a) (pk a)=.ok false:=by show(if(shal 40 (pk a)&&shal 40 (pk a))=true then Res.ok (!eqD (pk a) (pk a))else .no)=_;rw[zb1 38 a,zns];rfl
theorem z7p (a:P):zgd [pk a,pk a]=.ok (.fr,.bool true):=by
 unfold zgd;refine z11 ?_
 let Q:Res Out->Prop:=fun r=>r=.ok (.rt .fr (.bool true))
 show Q _;unfold zkd;refine z4d (k:=(!true)||false) (t_or (z0w (t_tv (z1f (z01 rfl)).e rfl)) fun _=>t_tv (z0o (z01 rfl) (z01 rfl) (zux a)).e rfl) rfl ?_;refine zjy (m:=pr) (xs:=a) (zko rfl (by decide) (z0a a) rfl) (fun _ ρ=>∃u,ρ=[some (.od,pk a),some (.od,pk a),u]) ⟨none,rfl⟩ ?_ ?_
 ·rintro pre p post ρ hx ⟨u,rfl⟩
  exact⟨[some (.od,pk a),some (.od,pk a),some (.al,pr p)],_,rfl,z0v (k:=(!true)||((!true)||false)) (t_or (z0w (t_tv (z1f (z01 rfl)).e rfl)) fun _=>t_or (z0w (t_tv (z1f (v_ix (d:=.int p.2) (z01 rfl) z04.e rfl rfl).e).e rfl)) fun _=>t_tv (z1f (v_ix (d:=.int p.2) (z01 rfl) z04.e rfl rfl).e).e rfl) rfl z10,_,rfl⟩
 ·rintro ρ ⟨u,rfl⟩
  exact q_rt (z0g v_bl) rfl
theorem z3h {Κ:List D}{Φ:List Fn}{ρ:Rho}{op op':CmpOp}{a b c:C}{x y z:D}{k k':Bool}(ha:Ev Κ Φ a ρ x)(hb:Ev Κ Φ b ρ y)(hc:Ev Κ Φ c ρ z)(h1:cmpD op x y=.ok k)(h2:cmpD op' y z=.ok k'):Vv Κ Φ (.chain op op' a b c) ρ (.bool (k&&k')):=by
 obtain⟨g1,ha⟩:=ha;obtain⟨g2,hb⟩:=hb;obtain⟨g3,hc⟩:=hc;refine⟨?_,rfl⟩;rw[zkn,ha,Res.ok_bind,hb,Res.ok_bind]
 dsimp only
 rw[h1,Res.ok_bind];cases k with
 |true=>rw[if_pos rfl,hc,Res.ok_bind,h2];rfl
 |false=>rfl
theorem len_str {w:Str}(h:w.length<=LIM):biD "len" [.str w]=.ok (.int (w.length:Int)):=by show(if w.length<=LIM then _ else _)=_;rw[if_pos h]
theorem zod {Κ:List D}{Φ:List Fn}{ρ:Rho}{k:Nat}{x:Str}{d:D}(h:Κ[k]?=some d)(hi:imm d=true):Vv Κ Φ (.glob k x) ρ d:=by
 refine⟨?_,hi⟩;show(match Κ[k]? with|some d=>if imm d=true then Res.ok (G.fr,d)else .no|none=>.no)=_;rw[h]
 dsimp only
 rw[if_pos hi]
theorem z6h:∀(bs:List Bool),allB (bs.map .bool)=some bs
 | []=>rfl
 |b::bs=>by rw[ae];show(allB (bs.map .bool)).map (b:: ·)=_;rw[z6h bs];rfl
def isn (w:Str):Bool:=(decide ((1:Int)<=w.length)&&decide ((w.length:Int)<=12))&&(w.cps.toList.all p1&& !gnb w)
theorem lex1 (a b:Nat):decide ([a]< [b])=decide (a<b):=by
 rw[decide_eq_decide];constructor
 ·intro h;cases h with
  |rel h=>exact h
  |cons h=>cases h
 ·exact fun h=>.rel h
theorem z9o {w:Str}(hl:w.length<=1000):F_z0 [.str w]=.ok (.fr,.bool (isn w)):=by
 unfold F_z0;refine z11 ?_;unfold S_z0;have hL:w.length<=LIM:=by unfold LIM;omega
 have hw:z40 (.str w)=.ok (w.cps.toList.map fun c=>PyData.str ⟨#[c]⟩):=by show(if w.length<=LIM then _ else _)=_;rw[if_pos hL]
 have ec:=z3e (Κ:=[(.tuple [(.str "and"),(.str "or"),(.str "not"),(.str "if"),(.str "is"),(.str "some"),(.str "all"),(.str "for"),(.str "against")])]) (Φ:=[]) (ρ:=[some (.od,.str w)]) (nt:=1) (js:=[]) (N':=["sign"]) (tg:=.nm 0) (it:=.tv (.var 0)) (cond:=.nil) (elt:=.chain .LtE .LtE (.str "a") (.var 0) (.str "z")) (m:=fun c:Nat=>PyData.str ⟨#[c]⟩) (xs:=w.cps.toList) (fun _=>true) (fun c=>.bool (p1 c)) (w_tv (v_var rfl rfl).1 hw) rfl (fun c=>[some (.al,.str ⟨#[c]⟩)]) (fun c _=>rfl) (fun c _=>z1c)
  (fun c _ _=>by
   refine z3h z0e.e (z01 rfl) z0e.e ?_ ?_
   ·show Res.ok (!decide ([c]< [97]))=_;rw[lex1,<-decide_not]
    congr 1
    rw[decide_eq_decide];omega
   ·show Res.ok (!decide ([122]< [c]))=_;rw[lex1,<-decide_not]
    congr 1
    rw[decide_eq_decide];omega)
 rw[d9.mpr fun _ _=>rfl]at ec;have ea:aggD "all" true (w.cps.toList.map fun c=>PyData.bool (p1 c))=.ok (.bool (w.cps.toList.all p1)):=by have e1:=z6h (w.cps.toList.map p1);rw[di]at e1;show Res.ofO ((allB (w.cps.toList.map fun c=>PyData.bool (p1 c))).map fun bs=>PyData.bool (bs.all id))=_;rw[show(w.cps.toList.map fun c=>PyData.bool (p1 c))=w.cps.toList.map (PyData.bool∘p1)from rfl,e1];show Res.ok (PyData.bool ((w.cps.toList.map p1).all id))=_;rw[lh];rfl
 refine z0f (z0g ?_);have v1:=z1f (Κ:=[(.tuple [(.str "and"),(.str "or"),(.str "not"),(.str "if"),(.str "is"),(.str "some"),(.str "all"),(.str "for"),(.str "against")])]) (Φ:=[]) (ρ:=[some (.od,.str w)]) (a:=.var 0) (ts:=["str"]) (x:=.str w) (z01 rfl);have e2:(["str"].any fun T=>isTy (tyOf (.str w)) T)=true:=rfl;rw[e2]at v1;exact v_and (k:=true) v1.e fun _=>v_and (z3h (op:=.LtE) (op':=.LtE) z04.e (v_bi (f:="len") (z00 (z01 (i:=0) (g:=.od) rfl) z07) (len_str hL) rfl).e z04.e rfl rfl).e fun _=>v_and (zg1 (Ev.of ec) rfl ea rfl).e fun _=>z0o (op:=.NotIn) (x:=.str w) (k:=!gnb w) (z01 (i:=0) (g:=.od) rfl) (zod (k:=0) (x:="NO_NAMES") rfl rfl).e rfl
theorem zi7 {w:Str}(h:NW w):isn w=true:=by unfold isn;have h1:=h.l1;have h2:=h.l2;rw[h.kp,ax.mpr h.ch,ul (show(1:Int)<=w.length by omega),ul (show(w.length:Int)<=12 by omega)];rfl
theorem zcx (i:Int):F_z1 [.int i]=.ok (.fr,.bool (decide (0<=i)&&decide (i<=1000000000000000000000000000000))):=by unfold F_z1;refine z11 ?_;unfold S_z1;refine z0f (z0g ?_);have v1:=z1f (Κ:=[]) (Φ:=[]) (ρ:=[some (.od,.int i)]) (a:=.var 0) (ts:=["int"]) (x:=.int i) (z01 rfl);have e1:(["int"].any fun T=>isTy (tyOf (.int i)) T)=true:=rfl;rw[e1]at v1;have v3:=z1f (Κ:=[]) (Φ:=[]) (ρ:=[some (.od,.int i)]) (a:=.var 0) (ts:=["bool"]) (x:=.int i) (z01 rfl);have e3:(["bool"].any fun T=>isTy (tyOf (.int i)) T)=false:=rfl;rw[e3]at v3;exact v_and (k:=true) v1.e fun _=>v_and (k:=!false) (v_not v3.e rfl).e fun _=>z3h z04.e (z01 rfl) z0q.e rfl rfl
theorem zfb {d:D}(h:∀i,d≠.int i):F_z1 [d]=.ok (.fr,.bool false):=by
 cases d with
 |int i=>exact absurd rfl (h i)
 |_=>rfl
theorem z8q (l:P)(hl:l.length<64):F_z2 [.list (l.map pr)]=.ok (.fr,pk (gr l)):=by
 unfold F_z2;refine z11 ?_;unfold S_z2;refine z0m (zr8 znx rfl) ?_;refine zcv (m:=pr) (xs:=l) (f_od rfl rfl rfl) (fun a ρ=>∃u v,ρ=[some (.od,.list (l.map pr)),some (.fr,.dict (en a)),u,v]/\(ks a).Nodup/\∀k∈ks a,k∈ks l) (fun a p=>put a p.1 (max p.2 (look a p.1))) [] ⟨none,none,rfl,pc,fun _ h=>by cases h⟩ ?_ ?_
 ·rintro a p ρ hp ⟨u,v,rfl,nd,hs⟩
  refine⟨_,z0m (zpe (l:=a) (n:=p.1) (v:=max p.2 (look a p.1)) (v_bi (z00 (z01 rfl) (z00 (v_mt (z01 rfl) (z00 (z01 rfl) (z00 z04.e z07)) (z0h _ _) rfl).e z07)) (z1v _ _) rfl) (z01 rfl) rfl nd (by have:=zhe nd hs;omega)) z10,_,_,rfl,zbf _ _ _ nd,fun k hk=>?_⟩;rcases(zb0 _ _ _ _).mp hk with rfl|hk
  ·exact bq.mpr ⟨p,hp,rfl⟩
  ·exact hs k hk
 ·rintro ρ ⟨u,v,rfl,nd,hs⟩
  refine z0f (z0g (zg1 (Ev.of (z3e (m:=pr) (xs:=srt (z2k [] l)) (fun p=>decide (0<p.2)) pr (w_tv (zk8 (l:=z2k [] l) rfl (by have:=zhe nd hs;exact jt this hl)) rfl) rfl (fun p=>[some (.al,pr p)]) (fun p _=>rfl) (fun p _=>t_tv (z0o (v_ix (z01 rfl) z04.e rfl rfl).e z04.e rfl).e rfl) (fun p _ _=>v_var rfl rfl))) rfl rfl (z0a _)))
def Okp (l:P):Prop:=∀p∈l,NW p.1/\0<=p.2/\p.2<=1000000000000000000000000000000
theorem ziw {p:Str×Int}(h:NW p.1):F_z0 [.str p.1]=.ok (.fr,.bool true):=by have h2:=h.l2;rw[z9o (by omega),zi7 h]
theorem zqb {p:Str×Int}(h:0<=p.2/\p.2<=1000000000000000000000000000000):F_z1 [.int p.2]=.ok (.fr,.bool true):=by rw[zcx,ul h.1,ul h.2];rfl
def Bpk:S:=(.seq (.ifS (.not (.tv (.call 2 "is_name" (.cons (.var 1) .nil)))) (.seq (.rse "NoPack") .nil) .nil) (.seq (.ifS (.not (.tv (.call 1 "is_degree" (.cons (.var 2) .nil)))) (.seq (.rse "NoPack") .nil) .nil) .nil))
def Phk:List Fn:=[F_z2,F_z1,F_z0]
theorem zbz {x:Option GD}{g1 g2:G}{p:Str×Int}(h:NW p.1/\0<=p.2/\p.2<=1000000000000000000000000000000):evS [] Phk Bpk [x,some (g1,.str p.1),some (g2,.int p.2)]=.ok (.nx [x,some (g1,.str p.1),some (g2,.int p.2)]):=z0v (k:=!true) (z0w (t_tv (z0s (z00 (z01 rfl) z07) rfl (ziw h.1) rfl).e rfl)) rfl (z0v (k:=!true) (z0w (t_tv (z0s (z00 (z01 rfl) z07) rfl (zqb h.2) rfl).e rfl)) rfl z10)
theorem zj6 (l:P)(hl:l.length<64)(ok:Okp l):F_z3 [.list (l.map pr)]=.ok (.fr,pk (gr l)):=by
 unfold F_z3;refine z11 ?_;unfold S_z3;refine zm8 (m:=pr) (xs:=l) (f_od rfl rfl rfl) (fun ρ=>∃u v,ρ=[some (.od,.list (l.map pr)),u,v]) ⟨none,none,rfl⟩ ?_ ?_
 ·rintro p ρ hp ⟨u,v,rfl⟩
  exact⟨_,zbz (ok p hp),_,_,rfl⟩
 ·rintro ρ ⟨u,v,rfl⟩
  exact z0f (z0g (z0s (z00 (z01 rfl) z07) rfl (z8q l hl) (z0a _)))
theorem zii {β:Type}{f:D->Rho->Res Out}{g:D->Rho->Option Str}{m:β->D}{y:D}{zs:List D}{cl:Str}(I:Rho->Prop)(hy:∀ρ,I ρ->f y ρ=.no/\g y ρ=some cl):∀(xs:List β) (ρ:Rho),I ρ->(∀x∈xs,∀ρ,I ρ->∃ρ',f (m x) ρ=.ok (.nx ρ')/\I ρ')->forD f (xs.map m++y::zs) ρ=.no/\forX f g (xs.map m++y::zs) ρ=some cl
 | [],ρ,hI,_=>by obtain⟨h1,h2⟩:=hy ρ hI;exact⟨by show forD f (y::zs) ρ=_;rw[forD,h1],by show forX f g (y::zs) ρ=_;rw[forX,h1];exact h2⟩
 |x::xs,ρ,hI,h=>by obtain⟨ρ',e,hI'⟩:=h x au ρ hI;obtain⟨h1,h2⟩:=zii I hy xs ρ' hI' fun z hz=>h z (aw _ hz);rw[ae,iw];exact⟨by rw[forD,e];exact h1,by rw[forX,e];exact h2⟩
def Bad (a b:D):Prop:=F_z0 [a]=.ok (.fr,.bool false)\/(F_z0 [a]=.ok (.fr,.bool true)/\F_z1 [b]=.ok (.fr,.bool false))
theorem slI (g:G)(d:D):∃g',z52 (g,d)=(g',d):=by cases g<;>exact⟨_,rfl⟩
theorem zg8 {x:Option GD}{g1 g2:G}{a b:D}(h:Bad a b):evS [] Phk Bpk [x,some (g1,a),some (g2,b)]=.no/\evX [] Phk Bpk [x,some (g1,a),some (g2,b)]=some "NoPack":=by
 rcases h with h|⟨h,h2⟩
 ·have t:Tt [] Phk (.not (.tv (.call 2 "is_name" (.cons (.var 1) .nil)))) [x,some (g1,a),some (g2,b)] (!false):=z0w (t_tv (z0s (z00 (z01 rfl) z07) rfl h rfl).e rfl);exact⟨zgj (zec t rfl rfl),zgg (zec t rfl rfl) (zlz t rfl rfl)⟩
 ·have t:Tt [] Phk (.not (.tv (.call 2 "is_name" (.cons (.var 1) .nil)))) [x,some (g1,a),some (g2,b)] (!true):=z0w (t_tv (z0s (z00 (z01 rfl) z07) rfl h rfl).e rfl);have t2:Tt [] Phk (.not (.tv (.call 1 "is_degree" (.cons (.var 2) .nil)))) [x,some (g1,a),some (g2,b)] (!false):=z0w (t_tv (z0s (z00 (z01 rfl) z07) rfl h2 rfl).e rfl);have e1:evS [] Phk (.ifS (.not (.tv (.call 2 "is_name" (.cons (.var 1) .nil)))) (.seq (.rse "NoPack") .nil) .nil) [x,some (g1,a),some (g2,b)]=.ok (.nx [x,some (g1,a),some (g2,b)]):=z41 t (fun z=>by cases z) fun _=>z10;refine⟨z0m e1 (zgj (zec t2 rfl rfl)),?_⟩;show(match evS [] Phk (.ifS (.not (.tv (.call 2 "is_name" (.cons (.var 1) .nil)))) (.seq (.rse "NoPack") .nil) .nil) [x,some (g1,a),some (g2,b)]with|.ok (.nx ρ')=>evX [] Phk _ ρ'|.ok _=>none|_=>_)=_;rw[e1];exact zgg (zec t2 rfl rfl) (zlz t2 rfl rfl)
theorem zj9 (l:P)(ok:Okp l){a b:D}(h:Bad a b)(zs:List D):F_z3 [.list (l.map pr++.tuple [a,b]::zs)]=.exc (.str "NoPack"):=by
 unfold F_z3;have ef:evF [] Phk (.tv (.var 0)) [some (.od,.list (l.map pr++.tuple [a,b]::zs)),none,none]=.ok (.od,l.map pr++.tuple [a,b]::zs,[some (.od,.list (l.map pr++.tuple [a,b]::zs)),none,none]):=f_od rfl rfl rfl
 have key:=zii (f:=fun x ρ1=>z0x (.tp [1,2]) (gJ x .od,x) ρ1>>=fun ρ2=>evS [] Phk Bpk ρ2) (g:=fun x ρ1=>match z0x (.tp [1,2]) (gJ x .od,x) ρ1 with|.ok ρ2=>evX [] Phk Bpk ρ2|_=>none) (m:=pr) (y:=.tuple [a,b]) (zs:=zs) (cl:="NoPack") (fun ρ=>∃u v,ρ=[some (.od,.list (l.map pr++.tuple [a,b]::zs)),u,v]) (fun ρ hI=>by
  obtain⟨u,v,rfl⟩:=hI;obtain⟨g1,e1⟩:=slI (gJ a (gJ (.tuple [a,b]) .od)) a;obtain⟨g2,e2⟩:=slI (gJ b (gJ (.tuple [a,b]) .od)) b;have eb:z0x (.tp [1,2]) (gJ (.tuple [a,b]) .od,.tuple [a,b]) [some (.od,.list (l.map pr++.tuple [a,b]::zs)),u,v]=.ok [some (.od,.list (l.map pr++.tuple [a,b]::zs)),some (z52 (gJ a (gJ (.tuple [a,b]) .od),a)),some (z52 (gJ b (gJ (.tuple [a,b]) .od),b))]:=rfl;rw[e1,e2]at eb;have hb:=zg8 (x:=some (.od,.list (l.map pr++.tuple [a,b]::zs))) (g1:=g1) (g2:=g2) h;rw[eb];exact⟨hb.1,hb.2⟩) l [some (.od,.list (l.map pr++.tuple [a,b]::zs)),none,none] ⟨none,none,rfl⟩ (fun p hp ρ hI=>by
  obtain⟨u,v,rfl⟩:=hI;exact⟨_,zbz (ok p hp),_,_,rfl⟩)
 have e0:evS [] Phk (.for_ (.tp [1,2]) (.tv (.var 0)) Bpk) [some (.od,.list (l.map pr++.tuple [a,b]::zs)),none,none]=.no:=z73 ef key.1;have x0:evX [] Phk (.for_ (.tp [1,2]) (.tv (.var 0)) Bpk) [some (.od,.list (l.map pr++.tuple [a,b]::zs)),none,none]=some "NoPack":=by show(match evF [] Phk (.tv (.var 0)) [some (.od,.list (l.map pr++.tuple [a,b]::zs)),none,none]with|.ok w=>forX (fun x ρ1=>z0x (.tp [1,2]) (gJ x w.1,x) ρ1>>=fun ρ2=>evS [] Phk Bpk ρ2) (fun x ρ1=>match z0x (.tp [1,2]) (gJ x w.1,x) ρ1 with|.ok ρ2=>evX [] Phk Bpk ρ2|_=>none) w.2.1 w.2.2|_=>none)=_;rw[ef];exact key.2
 exact zb9 (zgj e0) (zgg e0 x0)
def dec (i:Int):Str:=(toString i:String)
theorem z6e {i:Int}(h0:0<=i)(h:i<10 ^ 40):(dec i).length<=40:=by
 obtain⟨n,hn⟩:=j4 h0;subst hn;have e:(toString (n:Int):String)=n.repr:=rfl;unfold dec;rw[e,Str.ofString_eq_toList];show(f8 (dw gm n.repr.toList)).size<=40;rw[aq,am,li,pd];refine(lu (by decide) (by decide)).mpr ?_;have:(n:Int)<((10 ^ 40:Nat):Int):=by simpa using h
 exact Int.ofNat_lt.mp this
theorem zbe {i:Int}(h0:0<=i)(h:i<10 ^ 40):i.natAbs.log2<1920:=by
 by_cases z:i.natAbs=0
 ·rw[z];decide
 ·have h1:i.natAbs<2 ^ 200:=by omega
  have:=(Nat.log2_lt z).mpr h1;omega
def tx (p:Str×Int):Str:=if p.2=1 then p.1 else p.1++":"++dec p.2
theorem v_fs {Κ:List D}{Φ:List Fn}{ρ:Rho}{a b:C}{u v:D}{x p q:Str}(ha:Ev Κ Φ a ρ u)(hp:txtD u=.ok p)(hb:Ev Κ Φ b ρ v)(hq:txtD v=.ok q)(hl:p.length+x.length+q.length<=1000):Vv Κ Φ (.fs a x b) ρ (.str (p++x++q)):=by obtain⟨g1,ha⟩:=ha;obtain⟨g2,hb⟩:=hb;refine⟨?_,rfl⟩;rw[E_fs];rw[ha,Res.ok_bind];dsimp only;rw[hp,Res.ok_bind,hb,Res.ok_bind];dsimp only;rw[hq,Res.ok_bind,if_pos (by unfold LIM;omega)]
theorem zrh {Κ:List D}{Φ:List Fn}{ρ:Rho}{a:C}{i:Int}(ha:Ev Κ Φ a ρ (.int i)):Vv Κ Φ (.neg a) ρ (.int (-i)):=by obtain⟨g1,ha⟩:=ha;exact⟨by rw[zss];rw[ha];rfl,rfl⟩
theorem e_z6 {p:Str×Int}(h1:p.1.length<=30)(h0:0<=p.2)(h2:p.2<10 ^ 40):F_z6 [.str p.1,.int p.2]=.ok (.fr,.str (tx p)):=by
 unfold F_z6;refine z11 ?_;unfold S_z6;have hd:=z6e h0 h2
 have e:(if decide (p.2=1)=true then PyData.str p.1 else PyData.str (p.1++":"++dec p.2))=.str (tx p):=by
  unfold tx;by_cases h:p.2=1
  ·rw[if_pos (ul h),if_pos h]
  ·rw[if_neg h,if_neg (by simpa using h)]
 rw[<-e];have c1:(":":Str).length=1:=rfl;refine z0f (z0g (zuy (t_tv (z0o (z01 rfl) z04.e rfl).e rfl) (fun _=>v_var rfl rfl) fun _=>v_fs (z01 rfl) (p:=p.1) ?_ (z01 rfl) (q:=dec p.2) ?_ (by omega)))
 ·show(if p.1.length<=LIM then _ else _)=_;rw[if_pos (by unfold LIM;omega)]
 ·show(if p.2.natAbs.log2<1920 then _ else _)=_;rw[if_pos (zbe h0 h2)];rfl
structure Tb (l:P):Prop where
 nm:∀p∈l,p.1.length<=30
 dg:∀p∈l,0<=p.2/\p.2<10 ^ 40
 ln:l.length<=63
theorem znl {l:P}(h:Tb l){p:Str×Int}(hp:p∈l):(tx p).length<=71:=by
 have h1:=h.nm p hp;have h2:=h.dg p hp;have h3:=z6e h2.1 h2.2;have c1:(":":Str).length=1:=rfl;unfold tx;split
 ·omega
 ·rw[z13,z13];omega
def shown (l:P):Str:=if l=[]then "-"else z1p " " (l.map tx)
theorem z92:∀{ss:List Str},(∀s∈ss,s.length<=71)->((ss.map (·.length)).sum)<=71*ss.length
 | [],_=>ah _
 |s::ss,h=>by have h1:=h s au;have h2:=z92 fun t ht=>h t (aw _ ht);rw[ae,gi,ay];omega
theorem zkl {l:P}(h:Tb l):F_z7 [pk l]=.ok (.fr,.str (shown l)):=by
 unfold F_z7;refine z11 ?_;unfold S_z7 shown;cases l with
 |nil=>refine z0y (k:=true) (t_tv (z0o (z01 rfl) (z1k z0j).e rfl).e rfl) rfl (z0f (z0g z0e))
 |cons p0 r=>
  have ne:cmpD .Eq (pk (p0::r)) (.tuple [])=.ok false:=by show(if(shal 40 (pk (p0::r))&&shal 40 (.tuple []))=true then Res.ok (eqD (pk (p0::r)) (.tuple []))else .no)=_;rw[zb1 38];show Res.ok (PyData.eqvAll (pr p0::r.map pr) [])=_;rw[PyData.eqvAll]
  refine z0v (k:=false) (t_tv (z0o (z01 rfl) (z1k z0j).e ne).e rfl) rfl ?_;rw[if_neg (by simp)];generalize hl:p0::r=l at h;have ec:=z3e (Κ:=[]) (Φ:=[F_z6]) (ρ:=[some (.od,pk l)]) (nt:=2) (js:=[]) (N':=["name","amount"]) (tg:=.tp [0,1]) (it:=.tv (.var 0)) (cond:=.nil) (elt:=.call 0 "shown_pair" (.cons (.var 0) (.cons (.var 1) .nil))) (m:=pr) (xs:=l) (fun _=>true) (fun p=>.str (tx p)) (w_tv (v_var rfl (z0a l)).1 rfl) rfl (fun p=>[some (.al,.str p.1),some (.al,.int p.2)]) (fun p _=>rfl) (fun p _=>z1c) (fun p hp _=>z0s (z00 (z01 rfl) (z00 (z01 rfl) z07)) rfl (e_z6 (h.nm p hp) (h.dg p hp).1 (h.dg p hp).2) rfl);have el:((l.filter fun _=>true).map fun p=>PyData.str (tx p))=(l.map tx).map .str:=by rw[d9.mpr fun _ _=>rfl,di];rfl
  rw[el]at ec;refine z0f (z0g (v_mt z0e.e (z00 (Ev.of ec) z07) ?_ rfl));have:mtD "join" (.str " ") [.list ((l.map tx).map .str)]=(match allS ((l.map tx).map .str)with|some ss=>if z4w " " ss<=LIM then .ok (.str (z1p " " ss))else .no|none=>.no):=rfl;rw[this,z2b]
  dsimp only
  rw[if_pos];unfold z4w;have w1:(" ":Str).length=1:=rfl;have w2:=z92 (ss:=l.map tx) fun s hs=>by obtain⟨p,hp,rfl⟩:=bq.mp hs;exact znl h hp
  have w3:=h.ln;rw[am]at w2 ⊢;rw[w1];unfold LIM;omega
def hdC (c:Nat)(l:List Nat):List Nat:=l.takeWhile (· != c)
def tlC (c:Nat)(l:List Nat):List Nat:=(l.dropWhile (· != c)).drop 1
theorem z5k {c:Nat}:∀{l:List Nat},l.contains c=true->splC c l=hdC c l::splC c (tlC c l)
 | [],h=>by cases h
 |a::l,h=>by
  by_cases e:a=c
  ·subst e;rw[splC,if_pos rfl];have e1:hdC a (a::l)=[]:=by unfold hdC;rw[fq,if_neg (by simp)]
   have e2:tlC a (a::l)=l:=by unfold tlC;rw[gf,if_neg (by simp)];rfl
   rw[e1,e2]
  ·have hb:(a != c)=true:=by simpa using e
   have h2:l.contains c=true:=by
    rw[gk,cj]at h;rcases h with h|h
    ·exact absurd (uo h).symm e
    ·exact h
   have e1:hdC c (a::l)=a::hdC c l:=by unfold hdC;rw[fq,if_pos hb]
   have e2:tlC c (a::l)=tlC c l:=by unfold tlC;rw[gf,if_pos hb]
   rw[splC,if_neg e,z5k h2,e1,e2]
theorem z22 {c:Nat}:∀{l:List Nat},l.contains c=false->splC c l=[l]/\hdC c l=l
 | [],_=>⟨rfl,rfl⟩
 |a::l,h=>by
  rw[gk,Bool.or_eq_false_iff]at h;have e:a≠c:=fun z=>by have:=h.1;simp[z]at this
  have hb:(a != c)=true:=by simpa using e
  obtain⟨i1,i2⟩:=z22 h.2;exact⟨by rw[splC,if_neg e,i1],by unfold hdC at i2 ⊢;rw[fq,if_pos hb,i2]⟩
theorem z59 (c:Nat)(l:List Nat):∃h t,splC c l=h::t:=by
 cases e:l.contains c with
 |true=>exact⟨_,_,z5k e⟩
 |false=>exact⟨_,_,(z22 e).1⟩
def glu (c:Nat):List (List Nat)->List Nat
 | []=>[]
 |x::r=>x++(r.map fun p=>[c]++p).flatten
theorem z3s (c:Nat):∀l:List Nat,glu c (splC c l)=l
 | []=>rfl
 |a::l=>by
  obtain⟨h,t,e⟩:=z59 c l;have ih:=z3s c l;rw[e]at ih;rw[splC];by_cases ea:a=c
  ·rw[if_pos ea,e];show[]++((h::t).map fun p=>[c]++p).flatten=_;rw[ae,fm,jm,g8];show[c]++(h++_)=_;rw[show h++(t.map fun p=>[c]++p).flatten=l from ih,ea];rfl
  ·rw[if_neg ea,e];show a::h++(t.map fun p=>[c]++p).flatten=_;rw[iw,show h++(t.map fun p=>[c]++p).flatten=l from ih]
theorem zc2 (c:Nat):∀(p r:List Nat),c∉p->splC c (p++c::r)=p::splC c r
 | [],r,_=>by show splC c (c::r)=_;rw[splC,if_pos rfl]
 |a::p,r,h=>by rw[ao,not_or]at h;show splC c (a::(p++c::r))=_;rw[splC,if_neg (fun e=>h.1 e.symm),zc2 c p r h.2]
theorem zbp (c:Nat):∀ps:List (List Nat),ps≠[]->(∀p∈ps,c∉p)->splC c (glu c ps)=ps
 | [],h,_=>absurd rfl h
 | [p],_,h=>by show splC c (p++[])=_;rw[dn,(z22 (by simpa using h p au)).1]
 |p::q::r,_,h=>by
  have e:glu c (p::q::r)=p++c::glu c (q::r):=by show p++([c]++q++_)=p++c::(q++_);simp
  rw[e,zc2 c p _ (h p au),zbp c (q::r) (fun z=>by cases z) fun x hx=>h x (aw _ hx)]
theorem z4k (l:List Nat):(toS l).cps.toList=l:=by show l.toArray.toList=l;rw[gg]
theorem zgp (x:Str):toS x.cps.toList=x:=by apply z9v;rw[z4k]
theorem z2d (l:List Nat):(toS l).length=l.length:=by show l.toArray.size=_;rw[aq]
theorem za7 (c:Nat)(ps:List (List Nat)):z1p ⟨#[c]⟩ (ps.map toS)=toS (glu c ps):=by
 apply z9v;rw[z4k];show(z69 [c] (ps.map toS)).toArray.toList=_;rw[gg];cases ps with
 |nil=>rfl
 |cons x r=>show(toS x).cps.toList++((r.map toS).map fun p=>[c]++p.cps.toList).flatten=_;rw[z4k,di];rfl
theorem zhs (c:Nat)(l:List Nat):(hdC c l).length<=l.length:=n4 (nr _)
theorem zd5 (c:Nat)(l:List Nat):(tlC c l).length<=l.length:=by unfold tlC;rw[dq];have:=n4 (nv (fun x=>x != c) (l:=l));omega
theorem zdj (c:Nat):∀l:List Nat,(splC c l).length=1+l.count c
 | []=>rfl
 |a::l=>by
  have ih:=zdj c l;obtain⟨h,t,e⟩:=z59 c l;rw[splC,List.count_cons];by_cases ea:a=c
  ·rw[if_pos ea,ay,ih,if_pos (by simpa using ea)];omega
  ·rw[if_neg ea,e,if_neg (by simpa using ea)];rw[e]at ih;exact ih
theorem z2j (c:Nat):∀(l p:List Nat),p∈splC c l->p.length<=l.length
 | [],p,h=>by rw[cf.mp h];exact ah _
 |a::l,p,h=>by
  rw[splC]at h;split at h
  ·rcases ao.mp h with rfl|h
   ·exact ce _
   ·exact ma (z2j c l p h)
  ·obtain⟨q,t,e⟩:=z59 c l;rw[e]at h;rcases ao.mp h with rfl|h
   ·exact Nat.succ_le_succ (z2j c l q (by rw[e];exact au))
   ·exact ma (z2j c l p (by rw[e];exact aw _ h))
def dg1 (c:Nat):Bool:=decide (48<=c)&&decide (c<=57)
theorem z85 (n:Nat):(dec (n:Int)).cps.toList=(dj 10 n).map gm:=by have e:(toString (n:Int):String)=n.repr:=rfl;unfold dec;rw[e,Str.ofString_eq_toList,li,pd]
theorem z62 {d:Nat}(h:d<10):dj 10 d=[qe d]:=Nat.toDigits_of_lt_base h
theorem zdf {q d:Nat}(hq:0<q)(hd:d<10):dj 10 (q*10+d)=dj 10 q++[qe d]:=by have t:dj 10 q++dj 10 d=dj 10 (10*q+d):=Nat.toDigits_append_toDigits (by decide) hq hd;rw[Nat.mul_comm,<-t,z62 hd]
theorem z9d:∀d:Nat,d<10->(qe d).toNat=48+d:=by decide
theorem z7m (l:List Nat)(c:Nat):digV (l++[c])=digV l*10+(c-48):=by unfold digV;rw[List.foldl_append];rfl
theorem z91:∀(n:Nat) (l:List Nat),l.length=n->l≠[]->(∀c∈l,dg1 c=true)->l.head?≠some 48->0<digV l/\(dj 10 (digV l)).map gm=l
 |0,l,hl,hn,_,_=>absurd (gb.mp hl) hn
 |n+1,l,hl,hn,hd,hh=>by
  obtain⟨g,c,rfl⟩:∃g c,l=g++[c]:=⟨l.dropLast,l.getLast hn,(List.dropLast_concat_getLast hn).symm⟩;have hc:=hd c (by simp);unfold dg1 at hc;rw[ak,decide_eq_true_eq,decide_eq_true_eq]at hc;rw[z7m];cases g with
  |nil=>have h48:c≠48:=fun z=>hh (by rw[z];rfl);show 0<0*10+(c-48)/\(dj 10 (0*10+(c-48))).map gm=[c];rw[Nat.zero_mul,si,z62 (by omega)];refine⟨by omega,?_⟩;rw[ae,z9d _ (by omega)];show[48+(c-48)]=[c];rw[show 48+(c-48)=c by omega]
  |cons a g=>have ih:=z91 n (a::g) (by simpa using hl) (by simp) (fun x hx=>hd x (gz _ hx)) (by simpa using hh);refine⟨by omega,?_⟩;rw[zdf ih.1 (by omega),dz,ih.2,ae,z9d _ (by omega)];show a::g++[48+(c-48)]=_;rw[show 48+(c-48)=c by omega]
theorem zen {l:List Nat}(hn:l≠[])(hd:∀c∈l,dg1 c=true)(hh:l.head?≠some 48):0<digV l/\(dec (digV l:Int)).cps.toList=l:=by obtain⟨h1,h2⟩:=z91 l.length l rfl hn hd hh;exact⟨h1,by rw[z85];exact h2⟩
theorem z9k:∀n:Nat,0<n->digV ((dj 10 n).map gm)=n/\(∀c∈(dj 10 n).map gm,dg1 c=true)/\(dj 10 n).map gm≠[]/\((dj 10 n).map gm).head?≠some 48:=by
 intro n
 induction n using Nat.strongRecOn with
 |_ n ih=>
  intro h0;have hm:n%10<10:=Nat.mod_lt n (by decide);have dgc:dg1 (48+n%10)=true:=by unfold dg1;rw[ul (by omega),ul (by omega)];rfl
  by_cases h:n<10
  ·rw[z62 h,ae,z9d n h];refine⟨by show 0*10+(48+n-48)=n;omega,fun c hc=>?_,(by simp),fun z=>?_⟩
   ·rw[cf.mp hc];rw[show n%10=n by omega]at dgc;exact dgc
   ·have z':48+n=48:=Option.some.inj z;omega
  ·have e:n/10*10+n%10=n:=by omega
   have q0:0<n/10:=by omega
   obtain⟨i1,i2,i3,i4⟩:=ih (n/10) (by omega) q0;have e2:(dj 10 n).map gm=(dj 10 (n/10)).map gm++[48+n%10]:=by rw[<-z9d _ hm,<-e,zdf q0 hm,dz,e];rfl
   rw[e2];refine⟨by rw[z7m,i1];omega,fun c hc=>?_,by simp,fun z=>i4 ?_⟩
   ·rcases cx.mp hc with hc|hc
    ·exact i2 c hc
    ·rw[cf.mp hc];exact dgc
   ·cases hl:(dj 10 (n/10)).map gm with
    |nil=>exact absurd hl i3
    |cons a r=>rw[hl]at z;exact z
theorem zjn {n:Nat}(h:n<=1000000000000000000000000000000):((dj 10 n).map gm).length<=31:=by rw[am];exact(lu (by decide) (by decide)).mpr (by omega)
def hasC (l:List Nat):Bool:=l.contains 58
def lfg (l:List Nat):Nat:=if 1<=l.length/\l.length<=31/\l.head?≠some 48/\l.all dg1=true then digV l else 0
def pfg (l:List Nat):D:=if(1<=l.length/\l.length<=31)/\l.all dg1=true/\¬(l.head?=some 48/\1<l.length)then .int (digV l:Int)else .none
theorem zgq {l:List Nat}(h:1<=l.length)(ha:l.all dg1=true):figs l=true:=by
 unfold figs;rw[show(l.all fun c=>decide (48<=c)&&decide (c<=57))=l.all dg1 from rfl,ha];cases l with
 |nil=>exact absurd h (by decide)
 |cons a r=>rfl
theorem z9h {w:Str}(h1:1<=w.length)(h2:w.length<=31)(ha:w.cps.toList.all dg1=true):biD "int" [.str w]=.ok (.int (digV w.cps.toList:Int)):=by show intS w=_;unfold intS;rw[zgq (by rw[bp];exact h1) ha,ul (show w.length<=600 by omega)];rfl
theorem at0 {w:Str}{c:Nat}{r:List Nat}(h:w.cps.toList=c::r)(hl:w.length<=1000):ixD (.str w) (.int 0)=.ok (.str ⟨#[c]⟩):=by
 have h1:0<w.length:=by have:=congrArg jv h;rw[bp]at this;show 0<w.cps.size;rw[this];exact rf _
 rw[z3u (i:=0) (by decide) (by omega) hl];show Res.ok (PyData.str ⟨#[w.cps.toList.getD 0 0]⟩)=_;rw[h];rfl
theorem zhl (c d:Nat):cmpD .Eq (.str ⟨#[c]⟩) (.str ⟨#[d]⟩)=.ok (decide (c=d)):=by
 show Res.ok ((⟨#[c]⟩:Str)==⟨#[d]⟩)=_
 congr 1
 rw[jl,beq_iff_eq,decide_eq_true_iff];constructor
 ·intro h;have:=congrArg (fun s:Str=>s.cps.toList) h;simpa using this
 ·intro h;rw[h]
theorem str_len (w:Str):w.cps.toList.length=w.length:=by rw[bp];rfl
theorem zfv {w:Str}(hl:w.length<=1000):F_z4 [.str w]=.ok (.fr,pfg w.cps.toList):=by
 unfold F_z4;refine z11 ?_;unfold S_z4;have hL:w.length<=LIM:=by unfold LIM;omega
 have wl:=str_len w;have vl:∀{ρ:Rho},ρ[0]?=some (some (.od,.str w))->Vv [] [] (.bi "len" (.cons (.var 0) .nil)) ρ (.int (w.length:Int)):=fun h=>v_bi (z00 (z01 h) z07) (len_str hL) rfl;have t1:Tt [] [] (.not (.tv (.chain .LtE .LtE (.int 1) (.bi "len" (.cons (.var 0) .nil)) (.int 31)))) [some (.od,.str w)] (!(decide ((1:Int)<=w.length)&&decide ((w.length:Int)<=31))):=z0w (t_tv (z3h z04.e (vl rfl).e z04.e rfl rfl).e rfl);unfold pfg;rw[wl];by_cases h1:1<=w.length/\w.length<=31
 ·refine z0v t1 (by rw[ul (show(1:Int)<=w.length by omega),ul (show(w.length:Int)<=31 by omega)];rfl) ?_;have hw:z40 (.str w)=.ok (w.cps.toList.map fun c=>PyData.str ⟨#[c]⟩):=by show(if w.length<=LIM then _ else _)=_;rw[if_pos hL]
  have ec:=z3e (Κ:=[]) (Φ:=[]) (ρ:=[some (.od,.str w)]) (nt:=1) (js:=[]) (N':=["sign"]) (tg:=.nm 0) (it:=.tv (.var 0)) (cond:=.nil) (elt:=.chain .LtE .LtE (.str "0") (.var 0) (.str "9")) (m:=fun c:Nat=>PyData.str ⟨#[c]⟩) (xs:=w.cps.toList) (w:=(.fr,w.cps.toList.map fun c=>PyData.str ⟨#[c]⟩)) (fun _=>true) (fun c=>.bool (dg1 c)) (w_tv (v_var rfl rfl).1 hw) rfl (fun c=>[some (.al,.str ⟨#[c]⟩)]) (fun _ _=>rfl) (fun _ _=>z1c)
   (fun c _ _=>by
    refine z3h z0e.e (z01 rfl) z0e.e ?_ ?_
    ·show Res.ok (!decide ([c]< [48]))=_;rw[lex1,<-decide_not]
     congr 1
     rw[decide_eq_decide];omega
    ·show Res.ok (!decide ([57]< [c]))=_;rw[lex1,<-decide_not]
     congr 1
     rw[decide_eq_decide];omega)
  rw[d9.mpr fun _ _=>rfl]at ec;have ea:aggD "all" true (w.cps.toList.map fun c=>PyData.bool (dg1 c))=.ok (.bool (w.cps.toList.all dg1)):=by have e1:=z6h (w.cps.toList.map dg1);rw[di]at e1;show Res.ofO ((allB (w.cps.toList.map fun c=>PyData.bool (dg1 c))).map fun bs=>PyData.bool (bs.all id))=_;rw[show(w.cps.toList.map fun c=>PyData.bool (dg1 c))=w.cps.toList.map (PyData.bool∘dg1)from rfl,e1];show Res.ok (PyData.bool ((w.cps.toList.map dg1).all id))=_;rw[lh];rfl
  have t2:Tt [] [] (.not (.tv (.agg "all" (.tv (.comp 1 [] ["sign"] (.nm 0) (.tv (.var 0)) .nil (.chain .LtE .LtE (.str "0") (.var 0) (.str "9"))))))) [some (.od,.str w)] (!(w.cps.toList.all dg1)):=z0w (t_tv (zg1 (Ev.of ec) rfl ea rfl).e rfl);by_cases h2:w.cps.toList.all dg1=true
  ·refine z0v t2 (by rw[h2];rfl) ?_
   obtain⟨c,r,hc⟩:∃c r,w.cps.toList=c::r:=by
    cases e:w.cps.toList with
    |nil=>rw[e]at wl;simp at wl;omega
    |cons c r=>exact⟨c,r,rfl⟩
   have t3:Tt [] [] (.and (.tv (.cmp .Eq (.ix (.var 0) (.int 0)) (.str "0"))) (.tv (.cmp .Gt (.bi "len" (.cons (.var 0) .nil)) (.int 1)))) [some (.od,.str w)] (decide (c=48)&&decide ((1:Int)<w.length)):=zlk (t_tv (z0o (v_ix (z01 rfl) z04.e (at0 hc hl) rfl).e z0e.e (zhl c 48)).e rfl) fun _=>t_tv (z0o (vl rfl).e z04.e rfl).e rfl
   have hh:(w.cps.toList.head?=some 48/\1<w.length)↔(decide (c=48)&&decide ((1:Int)<w.length))=true:=by
    rw[hc,List.head?_cons,ak,decide_eq_true_eq,decide_eq_true_eq,l6];constructor
    ·rintro⟨a,b⟩;exact⟨a,by omega⟩
    ·rintro⟨a,b⟩;exact⟨a,by omega⟩
   by_cases h3:w.cps.toList.head?=some 48/\1<w.length
   ·rw[if_neg (fun z=>z.2.2 h3)];exact z0y t3 (hh.mp h3) (z0f (z0g z1j))
   ·rw[if_pos ⟨h1,h2,h3⟩];exact z0v t3 (eq_false_of_ne_true fun z=>h3 (hh.mpr z)) (z0f (z0g (v_bi (z00 (z01 rfl) z07) (z9h h1.1 h1.2 h2) rfl)))
  ·rw[if_neg (fun z=>h2 z.2.1)];exact z0y t2 (by rw[eq_false_of_ne_true h2];rfl) (z0f (z0g z1j))
 ·rw[if_neg (fun z=>h1 z.1)];refine z0y t1 ?_ (z0f (z0g z1j));rw[eh,om,decide_eq_false_iff_not,decide_eq_false_iff_not];omega
def ppr (l:List Nat):D:=.tuple [.str (toS (hdC 58 l)),if hasC l then pfg (tlC 58 l)else .int 1]
theorem zdo (l:List Nat):imm (pfg l)=true:=by unfold pfg;split<;>rfl
theorem zks (l:List Nat):imm (ppr l)=true:=by
 unfold ppr;show(true&&(imm (if hasC l then pfg (tlC 58 l)else .int 1)&&true))=true;split
 ·rw[zdo];rfl
 ·rfl
theorem zv9 {w:Str}(hl:w.length<=1000):mtD "partition" (.str w) [.str ":"]=.ok (.tuple [.str (toS (hdC 58 w.cps.toList)),.str (if hasC w.cps.toList then ":"else ""),.str (toS (tlC 58 w.cps.toList))]):=by show(if decide (w.length<=LIM)=true then _ else _)=_;rw[ul (show w.length<=LIM by unfold LIM;omega),if_pos rfl];rfl
theorem zp5 {w:Str}(hl:w.length<=1000):F_z5 [.str w]=.ok (.fr,ppr w.cps.toList):=by
 unfold F_z5;refine z11 ?_;unfold S_z5;refine z0m (z0n (v_mt (z01 rfl) (z00 z0e.e z07) (zv9 hl) rfl)) ?_;unfold ppr;cases hc:hasC w.cps.toList with
 |false=>
  have hh:toS (hdC 58 w.cps.toList)=w:=by rw[(z22 hc).2,zgp]
  rw[hh];exact z0y (k:=true) (t_tv (z0o (v_ix (d:=.str "") (z01 rfl) z04.e rfl rfl).e z0e.e rfl).e rfl) rfl (z0f (z0g (z1k (z06 (v_var rfl rfl) (z06 z04 z0j)))))
 |true=>have hn:=zfv (w:=toS (tlC 58 w.cps.toList)) (by rw[z2d];have:=zd5 58 w.cps.toList;rw[str_len]at this;omega);rw[z4k]at hn;exact z0v (k:=false) (t_tv (z0o (v_ix (d:=.str ":") (z01 rfl) z04.e rfl rfl).e z0e.e rfl).e rfl) rfl (z0f (z0g (z1k (z06 (v_ix (d:=.str (toS (hdC 58 w.cps.toList))) (z01 rfl) z04.e rfl rfl) (z06 (z0s (z00 (v_ix (d:=.str (toS (tlC 58 w.cps.toList))) (z01 rfl) z04.e rfl rfl).e z07) rfl hn (zdo _)) z0j)))))
theorem zgb (c:Nat):decide (c∈("0123456789":Str).cps.toList)=dg1 c:=by
 have e:("0123456789":Str).cps.toList=List.range' 48 10:=by decide+kernel
 rw[e,jl,decide_eq_true_iff,sk];unfold dg1;rw[ak,decide_eq_true_eq,decide_eq_true_eq];omega
theorem zl0 (c:Nat):decide (c∈("abcdefghijklmnopqrstuvwxyz":Str).cps.toList)=p1 c:=by
 have e:("abcdefghijklmnopqrstuvwxyz":Str).cps.toList=List.range' 97 26:=by decide+kernel
 rw[e,jl,decide_eq_true_iff,sk];unfold p1;rw[ak,decide_eq_true_eq,decide_eq_true_eq];omega
theorem zhk {w:Str}(hl:w.length<=1000):z40 (.str w)=.ok (w.cps.toList.map fun c=>PyData.str ⟨#[c]⟩):=by show(if w.length<=LIM then _ else _)=_;rw[if_pos (by unfold LIM;omega)]
theorem zoj {w:Str}(hl:w.length<=1000):zbv [.str w]=.ok (.fr,.int (lfg w.cps.toList:Int)):=by
 unfold zbv;refine z11 ?_;unfold zm5;have hL:w.length<=LIM:=by unfold LIM;omega
 have wl:=str_len w;have vl:∀{ρ:Rho},ρ[0]?=some (some (.od,.str w))->Vv [] [] (.bi "len" (.cons (.var 0) .nil)) ρ (.int (w.length:Int)):=fun h=>v_bi (z00 (z01 h) z07) (len_str hL) rfl
 let Q:Res Out->Prop:=fun r=>r=.ok (.rt .fr (.int (lfg w.cps.toList:Int)))
 show Q _;cases e:w.cps.toList with
 |nil=>
  rw[e]at wl;have w0:w.length=0:=by simpa using wl.symm
  have t1:Tt [] [] (.or (.tv (.cmp .Lt (.bi "len" (.cons (.var 0) .nil)) (.int 1))) (.or (.tv (.cmp .Gt (.bi "len" (.cons (.var 0) .nil)) (.int 31))) (.tv (.cmp .Eq (.ix (.var 0) (.int 0)) (.str "0"))))) [some (.od,.str w),none] (decide ((w.length:Int)<1)||false):=t_or (t_tv (z0o (vl rfl).e z04.e rfl).e rfl) fun z=>by rw[w0]at z;cases z
  show evS _ _ _ _=Res.ok (Out.rt .fr (.int (lfg w.cps.toList:Int)));rw[e];exact z0y t1 (by rw[w0];rfl) (z0f (z0g z04))
 |cons c r=>
  have w1:1<=w.length:=by rw[e]at wl;simp only[ay]at wl;omega
  have t1:Tt [] [] (.or (.tv (.cmp .Lt (.bi "len" (.cons (.var 0) .nil)) (.int 1))) (.or (.tv (.cmp .Gt (.bi "len" (.cons (.var 0) .nil)) (.int 31))) (.tv (.cmp .Eq (.ix (.var 0) (.int 0)) (.str "0"))))) [some (.od,.str w),none] (decide ((w.length:Int)<1)||(decide ((31:Int)<w.length)||decide (c=48))):=t_or (t_tv (z0o (vl rfl).e z04.e rfl).e rfl) fun _=>t_or (t_tv (z0o (vl rfl).e z04.e rfl).e rfl) fun _=>t_tv (z0o (v_ix (z01 rfl) z04.e (at0 e hl) rfl).e z0e.e (zhl c 48)).e rfl;by_cases hb:w.length<=31/\c≠48
  ·refine z4d t1 (by rw[um (show ¬(w.length:Int)<1 by omega),um (show ¬(31:Int)<w.length by omega),um hb.2];rfl) ?_;refine zlt (m:=fun c:Nat=>PyData.str ⟨#[c]⟩) (xs:=w.cps.toList) (zko rfl (by decide) rfl (zhk hl)) (fun pre ρ=>(∃u,ρ=[some (.od,.str w),u])/\pre.all dg1=true) ⟨⟨none,rfl⟩,rfl⟩ ?_ ?_
   ·rintro pre x post ρ hx ⟨⟨u,rfl⟩,hp⟩
    refine⟨[some (.od,.str w),some (.al,.str ⟨#[x]⟩)],rfl,?_⟩;have t2:Tt [] [] (.tv (.cmp .NotIn (.var 1) (.str "0123456789"))) [some (.od,.str w),some (.al,.str ⟨#[x]⟩)] (!(dg1 x)):=t_tv (z0o (z01 rfl) z0e.e (by show(Res.ok (decide (x∈("0123456789":Str).cps.toList))>>=fun b=>Res.ok (!b))=_;rw[zgb];rfl)).e rfl;cases hd:dg1 x with
    |true=>exact .inl ⟨_,z0v t2 (by rw[hd];rfl) z10,⟨_,rfl⟩,by rw[List.all_append,hp,cn,hd];rfl⟩
    |false=>
     refine .inr ⟨.fr,.int 0,z0y t2 (by rw[hd];rfl) (z0f (z0g z04)),?_⟩;show _=Res.ok (Out.rt .fr (.int (lfg w.cps.toList:Int)));unfold lfg;rw[if_neg];rfl
     rintro⟨_,_,_,ha⟩
     have:=ax.mp ha x (by rw[hx];simp);rw[hd]at this;cases this
   ·rintro ρ ⟨⟨u,rfl⟩,hp⟩
    show evS _ _ _ _=Res.ok (Out.rt .fr (.int (lfg w.cps.toList:Int)));unfold lfg;rw[if_pos ⟨by rw[wl];exact w1,by rw[wl];exact hb.1,by rw[e];exact fun z=>hb.2 (Option.some.inj z),hp⟩];exact z0f (z0g (v_bi (z00 (z01 rfl) z07) (z9h w1 hb.1 hp) rfl))
  ·show evS _ _ _ _=Res.ok (Out.rt .fr (.int (lfg w.cps.toList:Int)));unfold lfg;rw[if_neg (by rintro⟨_,h2,h3,_⟩;rw[wl]at h2;exact hb ⟨h2,fun z=>h3 (by rw[e,z];rfl)⟩)];refine z0y t1 ?_ (z0f (z0g z04));rw[cj,cj,decide_eq_true_eq,decide_eq_true_eq,decide_eq_true_eq];by_cases z:c=48
   ·exact .inr (.inr z)
   ·have :¬w.length<=31:=fun y=>hb ⟨y,z⟩;omega
theorem zlf {w:Str}(hl:w.length<=1000):zd0 [.str w]=.ok (.fr,.bool (isn w)):=by
 unfold zd0;refine z11 ?_;unfold zly;have hL:w.length<=LIM:=by unfold LIM;omega
 let Q:Res Out->Prop:=fun r=>r=.ok (.rt .fr (.bool (isn w)))
 show Q _;refine zlt (m:=fun c:Nat=>PyData.str ⟨#[c]⟩) (xs:=w.cps.toList) (zko rfl (by decide) rfl (zhk hl)) (fun pre ρ=>(∃u,ρ=[some (.od,.str w),u])/\pre.all p1=true) ⟨⟨none,rfl⟩,rfl⟩ ?_ ?_
 ·rintro pre x post ρ hx ⟨⟨u,rfl⟩,hp⟩
  refine⟨[some (.od,.str w),some (.al,.str ⟨#[x]⟩)],rfl,?_⟩;have t2:Tt [] [] (.tv (.cmp .NotIn (.var 1) (.str "abcdefghijklmnopqrstuvwxyz"))) [some (.od,.str w),some (.al,.str ⟨#[x]⟩)] (!(p1 x)):=t_tv (z0o (z01 rfl) z0e.e (by show(Res.ok (decide (x∈("abcdefghijklmnopqrstuvwxyz":Str).cps.toList))>>=fun b=>Res.ok (!b))=_;rw[zl0];rfl)).e rfl;cases hd:p1 x with
  |true=>exact .inl ⟨_,z0v t2 (by rw[hd];rfl) z10,⟨_,rfl⟩,by rw[List.all_append,hp,cn,hd];rfl⟩
  |false=>
   refine .inr ⟨.fr,.bool false,z0y t2 (by rw[hd];rfl) (z0f (z0g v_bl)),?_⟩;show _=Res.ok (Out.rt .fr (.bool (isn w)))
   have:w.cps.toList.all p1=false:=by
    cases ha:w.cps.toList.all p1 with
    |false=>rfl
    |true=>have:=ax.mp ha x (by rw[hx];simp);rw[hd]at this;cases this
   unfold isn;rw[this,ot,pe]
 ·rintro ρ ⟨⟨u,rfl⟩,hp⟩
  show evS _ _ _ _=Res.ok (Out.rt .fr (.bool (isn w)));have t3:Tt [] [] (.tv (.cmp .In (.var 0) (.lst (.cons (.str "and") (.cons (.str "or") (.cons (.str "not") (.cons (.str "if") (.cons (.str "is") (.cons (.str "some") (.cons (.str "all") (.cons (.str "for") (.cons (.str "against") .nil)))))))))))) [some (.od,.str w),u] (gnb w):=t_tv (z0o (z01 rfl) (Ev.of (z54 (z06 z0e (z06 z0e (z06 z0e (z06 z0e (z06 z0e (z06 z0e (z06 z0e (z06 z0e (z06 z0e z0j))))))))))) rfl).e rfl;unfold isn;rw[hp];cases hk:gnb w with
  |true=>rw[show(true&& !true)=false from rfl,pe];exact z0y t3 hk (z0f (z0g v_bl))
  |false=>rw[show(true&& !false)=true from rfl,Bool.and_true];exact z0v t3 hk (z0f (z0g (z3h z04.e (v_bi (f:="len") (z00 (z01 rfl) z07) (len_str hL) rfl).e z04.e rfl rfl)))
def slb (a b:Str):Bool:=decide (a.cps.toList<b.cps.toList)
theorem zmy {a b:Str}(h:sl a b):slb a b=true:=by unfold slb;rw[decide_eq_true_eq];exact h
theorem zuw {a b:Str}(h:¬sl a b):slb a b=false:=by unfold slb;rw[decide_eq_false_iff_not];exact h
theorem zmi {a b:Str}(h:slb a b=true):sl a b:=by unfold slb at h;rw[decide_eq_true_eq]at h;exact h
def lnum (l:List Nat):Int:=if hasC l then(lfg (tlC 58 l):Int)else 1
def rdW (l:List Nat):Option (Str×Int):=if isn (toS (hdC 58 l))=true/\lnum l<=1000000000000000000000000000000/\1<=lnum l/\¬(lnum l=1/\hasC l=true)then some (toS (hdC 58 l),lnum l)else none
def dueL:Str->List (List Nat)->Option P
 |_,[]=>some []
 |z,w::ws=>match rdW w with
  |some p=>if slb z p.1 then(dueL p.1 ws).map (p:: ·)else none
  |none=>none
theorem z6t {z:Str}{w:List Nat}{ws:List (List Nat)}{p:Str×Int}(h:rdW w=some p)(hs:sl z p.1):dueL z (w::ws)=(dueL p.1 ws).map (p:: ·):=by
 rw[dueL,h]
 dsimp only
 rw[if_pos (zmy hs)]
theorem zlm {z:Str}{w:List Nat}{ws:List (List Nat)}(h:∀p,rdW w=some p->¬sl z p.1):dueL z (w::ws)=none:=by
 rw[dueL];cases e:rdW w with
 |none=>rfl
 |some p=>dsimp only;rw[if_neg (fun x=>h p e (zmi x))]
def dueD (t:Str):D:=match dueL "" (splC 32 t.cps.toList)with
 |some l=>pk l
 |none=>.none
theorem zkw {Κ:List D}{Φ:List Fn}{ρ:Rho}{a b:C}{w y:Str}{c:Nat}(ha:Ev Κ Φ a ρ (.str w))(hb:Ev Κ Φ b ρ (.str y))(hc:oneC y=some c)(hl:w.length<=1000):evE Κ Φ (.spl a b) ρ=.ok (.fr,.list ((splC c w.cps.toList).map fun l=>.str (toS l))):=by
 obtain⟨g1,ha⟩:=ha;obtain⟨g2,hb⟩:=hb;rw[ztg,ha,Res.ok_bind,hb,Res.ok_bind];show((match oneC y with|some c=>if decide (w.length<=LIM)=true then Res.ok (PyData.list ((splC c w.cps.toList).map fun l=>PyData.str (toS l)))else .no|none=>.no)>>=fun d=>Res.ok (G.fr,d))=_;rw[hc]
 dsimp only
 rw[if_pos (ul (show w.length<=LIM by unfold LIM;omega))];rfl
theorem ziz (ls:List (List Nat)):imms (ls.map fun l=>PyData.str (toS l))=true:=z32.mpr fun x hx=>by obtain⟨p,_,rfl⟩:=bq.mp hx;rfl
theorem ze9 (ss:List (List Nat)):z4w ⟨#[58]⟩ (ss.map toS)<=(glu 58 ss).length+1:=by
 unfold z4w;cases ss with
 |nil=>exact ce _
 |cons x r=>
  have h:∀r:List (List Nat),((r.map toS).map (·.length)).sum+r.length=((r.map fun p=>[58]++p).flatten).length:=by
   intro r
   induction r with
   |nil=>rfl
   |cons y r ih=>rw[ae,ae,gi,ay,ae,fm,az,<-ih,z2d,az];show y.length+_+_=1+y.length+_;omega
  have:=h r;show(((x::r).map toS).map (·.length)).sum+((x::r).map toS).length*1<=(x++_).length+1;rw[ae,ae,gi,ay,am,az,<-this,z2d];omega
theorem zsj (a z:Str):cmpD .LtE (.str a) (.str z)=.ok (!slb z a):=rfl
def Bdu:S:=(.seq (.asg (.nm 4) (.spl (.var 3) (.str ":")))
 (.seq (.asg (.nm 5) (.int 1))
 (.seq (.ifS (.tv (.cmp .Gt (.bi "len" (.cons (.var 4) .nil)) (.int 1)))
 (.seq (.asg (.nm 5) (.call 1 "_law_figures" (.cons (.mt "join" (.str ":") (.cons (.sl (.var 4) (.tv (.int 1)) .nil) .nil)) .nil)))
 .nil)
 .nil)
 (.seq (.ifS (.or (.not (.tv (.call 0 "_law_is_name" (.cons (.ix (.var 4) (.int 0)) .nil)))) (.or (.tv (.cmp .LtE (.ix (.var 4) (.int 0)) (.var 2))) (.tv (.cmp .Gt (.var 5) (.bin .Pow (.int 10) (.int 30))))))
 (.seq (.ret .non)
 .nil)
 .nil)
 (.seq (.ifS (.or (.tv (.cmp .Lt (.var 5) (.int 1))) (.and (.tv (.cmp .Eq (.var 5) (.int 1))) (.tv (.cmp .Gt (.bi "len" (.cons (.var 4) .nil)) (.int 1)))))
 (.seq (.ret .non)
 .nil)
 .nil)
 (.seq (.asg (.nm 2) (.ix (.var 4) (.int 0)))
 (.seq (.mut "append" 1 (.cons (.tup (.cons (.var 2) (.cons (.var 5) .nil))) .nil))
 .nil)))))))
def Phd:List Fn:=[zd0,zbv]
theorem zfy {t z:Str}{acc:P}{w:List Nat}{u4 u5:Option GD}(hw:w.length<=1000)(ha:acc.length<=500):
  (∃p v4 v5,rdW w=some p/\sl z p.1/\evS [] Phd Bdu [some (.od,.str t),some (.fr,.list (acc.map pr)),some (.al,.str z),some (.al,.str (toS w)),u4,u5]=.ok (.nx [some (.od,.str t),some (.fr,.list ((acc++[p]).map pr)),some (.al,.str p.1),some (.al,.str (toS w)),v4,v5]))\/
  ((∀p,rdW w=some p->¬sl z p.1)/\evS [] Phd Bdu [some (.od,.str t),some (.fr,.list (acc.map pr)),some (.al,.str z),some (.al,.str (toS w)),u4,u5]=.ok (.rt .fr .none)):=by
 let Q:Res Out->Prop:=fun r=>(∃p v4 v5,rdW w=some p/\sl z p.1/\r=.ok (.nx [some (.od,.str t),some (.fr,.list ((acc++[p]).map pr)),some (.al,.str p.1),some (.al,.str (toS w)),v4,v5]))\/((∀p,rdW w=some p->¬sl z p.1)/\r=.ok (.rt .fr .none))
 show Q _;unfold Bdu;have e4:=zkw (Κ:=[]) (Φ:=Phd) (ρ:=[some (.od,.str t),some (.fr,.list (acc.map pr)),some (.al,.str z),some (.al,.str (toS w)),u4,u5]) (a:=.var 3) (b:=.str ":") (c:=58) (z01 rfl) z0e.e rfl (by rw[z2d];exact hw);rw[z4k]at e4;refine q_ok (z2o e4 (ziz _)) (q_ok (z0n z04) ?_);have hlen:∀{ρ:Rho} {g:G},ρ[4]?=some (some (g,.list ((splC 58 w).map fun l=>.str (toS l))))->Vv [] Phd (.bi "len" (.cons (.var 4) .nil)) ρ (.int ((splC 58 w).length:Int)):=fun h=>v_bi (z00 (z01 h) z07) (by rw[ztn,am]) rfl
 have hgt:decide ((1:Int)<(splC 58 w).length)=hasC w:=by
  cases hc:hasC w with
  |true=>obtain⟨h,t',e⟩:=z59 58 (tlC 58 w);rw[z5k hc,e];exact ul (by simp only[ay];omega)
  |false=>rw[(z22 hc).1];rfl
 have t1:∀{ρ:Rho} {g:G},ρ[4]?=some (some (g,.list ((splC 58 w).map fun l=>.str (toS l))))->Tt [] Phd (.tv (.cmp .Gt (.bi "len" (.cons (.var 4) .nil)) (.int 1))) ρ (hasC w):=fun h=>t_tv (z0o (k:=hasC w) (hlen h).e z04.e (by show Res.ok (decide ((1:Int)<(splC 58 w).length))=_;rw[hgt])).e rfl
 have hhd:ixD (.list ((splC 58 w).map fun l=>.str (toS l))) (.int 0)=.ok (.str (toS (hdC 58 w))):=by
  have:∃r,splC 58 w=hdC 58 w::r:=by
   cases hc:hasC w with
   |true=>exact⟨_,z5k hc⟩
   |false=>exact⟨[],by rw[(z22 hc).1,(z22 hc).2]⟩
  obtain⟨r,e⟩:=this;rw[e];show Res.ofO (atI (PyData.str (toS (hdC 58 w))::r.map _) 0)=_;unfold atI ixN;rw[if_pos (by decide),ay,if_pos (by omega)];rfl
 have vhd:∀{ρ:Rho} {g:G},ρ[4]?=some (some (g,.list ((splC 58 w).map fun l=>.str (toS l))))->Vv [] Phd (.ix (.var 4) (.int 0)) ρ (.str (toS (hdC 58 w))):=fun h=>v_ix (z01 h) z04.e hhd rfl;have hl1:(toS (hdC 58 w)).length<=1000:=by rw[z2d];have:=zhs 58 w;omega
 have e5:evS [] Phd (.ifS (.tv (.cmp .Gt (.bi "len" (.cons (.var 4) .nil)) (.int 1))) (.seq (.asg (.nm 5) (.call 1 "_law_figures" (.cons (.mt "join" (.str ":") (.cons (.sl (.var 4) (.tv (.int 1)) .nil) .nil)) .nil))) .nil) .nil) [some (.od,.str t),some (.fr,.list (acc.map pr)),some (.al,.str z),some (.al,.str (toS w)),some (.fr,.list ((splC 58 w).map fun l=>.str (toS l))),some (.al,.int 1)]=.ok (.nx [some (.od,.str t),some (.fr,.list (acc.map pr)),some (.al,.str z),some (.al,.str (toS w)),some (.fr,.list ((splC 58 w).map fun l=>.str (toS l))),some (.al,.int (lnum w))]):=by
  refine z41 (t1 rfl) (fun hc=>?_) fun hc=>by unfold lnum;rw[if_neg (by rw[hc];exact bj)];rfl
  have es:slD (.list ((splC 58 w).map fun l=>.str (toS l))) (some 1) none=.ok (.list ((splC 58 (tlC 58 w)).map fun l=>.str (toS l))):=by
   show Res.ok (PyData.list (cut _ (some 1) none))=_;rw[zbh,z5k hc];have:cut (hdC 58 w::splC 58 (tlC 58 w)) (some 1) none=splC 58 (tlC 58 w):=by unfold cut;simp only[Mi.sIx,ay];rw[if_neg (by decide)];show List.take ((splC 58 (tlC 58 w)).length+1-min 1 _) (List.drop (min 1 _) _)=_;rw[show min 1 ((splC 58 (tlC 58 w)).length+1)=1 by omega];show List.take ((splC 58 (tlC 58 w)).length+1-1) (splC 58 (tlC 58 w))=_;rw[qk,List.take_length]
   rw[this]
  have ej:mtD "join" (.str ":") [.list ((splC 58 (tlC 58 w)).map fun l=>.str (toS l))]=.ok (.str (toS (tlC 58 w))):=by
   have e0:((splC 58 (tlC 58 w)).map fun l=>PyData.str (toS l))=((splC 58 (tlC 58 w)).map toS).map .str:=by rw[di];rfl
   rw[e0];show(match allS (((splC 58 (tlC 58 w)).map toS).map .str)with|some ss=>if z4w ":" ss<=LIM then Res.ok (PyData.str (z1p ":" ss))else .no|none=>.no)=_;rw[z2b]
   dsimp only
   have hw2:=ze9 (splC 58 (tlC 58 w));rw[z3s]at hw2;have ht:=zd5 58 w;rw[if_pos (by show z4w ⟨#[58]⟩ _<=LIM;unfold LIM;omega)];show Res.ok (PyData.str (z1p ⟨#[58]⟩ _))=_;rw[za7,z3s]
  have ef:=zoj (w:=toS (tlC 58 w)) (by rw[z2d];have:=zd5 58 w;omega);rw[z4k]at ef;unfold lnum;rw[if_pos hc];exact z0m (z0n (z0s (z00 (v_mt z0e.e (z00 (e_sl (z01 rfl) (z16 z04.e) z1d es) z07) ej rfl).e z07) rfl ef rfl)) z10
 refine q_ok e5 ?_;have t2:Tt [] Phd (.or (.not (.tv (.call 0 "_law_is_name" (.cons (.ix (.var 4) (.int 0)) .nil)))) (.or (.tv (.cmp .LtE (.ix (.var 4) (.int 0)) (.var 2))) (.tv (.cmp .Gt (.var 5) (.bin .Pow (.int 10) (.int 30)))))) [some (.od,.str t),some (.fr,.list (acc.map pr)),some (.al,.str z),some (.al,.str (toS w)),some (.fr,.list ((splC 58 w).map fun l=>.str (toS l))),some (.al,.int (lnum w))] (!(isn (toS (hdC 58 w)))||(!slb z (toS (hdC 58 w))||decide ((1000000000000000000000000000000:Int)<lnum w))):=t_or (z0w (t_tv (z0s (z00 (vhd rfl).e z07) rfl (zlf hl1) rfl).e rfl)) fun _=>t_or (t_tv (z0o (vhd rfl).e (z01 rfl) (zsj _ _)).e rfl) fun _=>t_tv (z0o (z01 rfl) z0q.e rfl).e rfl;by_cases h1:isn (toS (hdC 58 w))=true/\sl z (toS (hdC 58 w))/\lnum w<=1000000000000000000000000000000
 ·refine z4d t2 (by rw[h1.1,zmy h1.2.1,um (show ¬(1000000000000000000000000000000:Int)<lnum w by omega)];rfl) ?_;have t3:Tt [] Phd (.or (.tv (.cmp .Lt (.var 5) (.int 1))) (.and (.tv (.cmp .Eq (.var 5) (.int 1))) (.tv (.cmp .Gt (.bi "len" (.cons (.var 4) .nil)) (.int 1))))) [some (.od,.str t),some (.fr,.list (acc.map pr)),some (.al,.str z),some (.al,.str (toS w)),some (.fr,.list ((splC 58 w).map fun l=>.str (toS l))),some (.al,.int (lnum w))] (decide (lnum w<1)||(decide (lnum w=1)&&hasC w)):=t_or (t_tv (z0o (z01 rfl) z04.e rfl).e rfl) fun _=>zlk (zd1 (z01 rfl)) fun _=>t1 rfl;by_cases h2:1<=lnum w/\¬(lnum w=1/\hasC w=true)
  ·refine z4d t3 ?_ ?_
   ·rw[um (show ¬lnum w<1 by omega),Bool.false_or,om];by_cases z:lnum w=1
    ·exact .inr (eq_false_of_ne_true fun y=>h2.2 ⟨z,y⟩)
    ·exact .inl (um z)
   ·have er:rdW w=some (toS (hdC 58 w),lnum w):=by unfold rdW;rw[if_pos ⟨h1.1,h1.2.2,h2.1,h2.2⟩]
    refine q_ok (z0n (vhd rfl)) ?_;have ea:=zey (Κ:=[]) (Φ:=Phd) (ρ:=[some (.od,.str t),some (.fr,.list (acc.map pr)),some (.al,.str (toS (hdC 58 w))),some (.al,.str (toS w)),some (.fr,.list ((splC 58 w).map fun l=>.str (toS l))),some (.al,.int (lnum w))]) (i:=1) (a:=.tup (.cons (.var 2) (.cons (.var 5) .nil))) (x:=pr (toS (hdC 58 w),lnum w)) (xs:=acc.map pr) (z1k (z06 (v_var rfl rfl) (z06 (v_var rfl rfl) z0j))) rfl (by rw[am];omega);refine q_ok ea ?_;rw[z10];refine .inl ⟨_,some (.fr,.list ((splC 58 w).map fun l=>.str (toS l))),some (.al,.int (lnum w)),er,h1.2.1,?_⟩;rw[dz];rfl
  ·refine .inr ⟨fun p hp=>?_,z0y t3 ?_ (z0f (z0g z1j))⟩
   ·unfold rdW at hp;rw[if_neg (fun x=>h2 ⟨x.2.2.1,x.2.2.2⟩)]at hp;cases hp
   ·rw[cj,decide_eq_true_eq,ak,decide_eq_true_eq];by_cases y:lnum w<1
    ·exact .inl y
    ·right;by_cases x:lnum w=1/\hasC w=true
     ·exact x
     ·exact absurd ⟨by omega,x⟩ h2
 ·refine .inr ⟨fun p hp hs=>?_,z0y t2 ?_ (z0f (z0g z1j))⟩
  ·unfold rdW at hp;split at hp
   ·rename_i h3;cases hp;exact h1 ⟨h3.1,hs,h3.2.1⟩
   ·cases hp
  ·rw[cj,cj,decide_eq_true_eq,eh,eh];by_cases y:isn (toS (hdC 58 w))=true
   ·by_cases x:sl z (toS (hdC 58 w))
    ·right;right;have:¬lnum w<=1000000000000000000000000000000:=fun v=>h1 ⟨y,x,v⟩;omega
    ·exact .inr (.inl (zuw x))
   ·exact .inl (eq_false_of_ne_true y)
theorem zsv {t:Str}(hl:t.length<=1000)(hn:(splC 32 t.cps.toList).length<=60)(h:t≠"-"):ze1 [.str t]=.ok (.fr,dueD t):=by
 unfold ze1;refine z11 ?_;unfold zlq
 let Q:Res Out->Prop:=fun r=>r=.ok (.rt .fr (dueD t))
 show Q _;refine z4d (k:=false) (t_tv (z0o (z01 rfl) z0e.e (by show Res.ok (t=="-")=_;congr 1;simpa using h)).e rfl) rfl ?_;refine q_ok (z2o (z54 z0j) rfl) (q_ok (z0n z0e) ?_);refine zlt (m:=fun l=>PyData.str (toS l)) (xs:=splC 32 t.cps.toList) (zvf (fun i z=>by cases z) (zkw (w:=t) (y:=" ") (c:=32) (z01 rfl) z0e.e rfl hl) rfl) (fun pre ρ=>∃acc z u3 u4 u5,ρ=[some (.od,.str t),some (.fr,.list (dw pr acc)),some (.al,.str z),u3,u4,u5]/\acc.length=pre.length/\∀post,dueL "" (pre++post)=(dueL z post).map (acc++·)) ⟨[],"",none,none,none,rfl,rfl,fun post=>by show dueL "" post=(dueL "" post).map ([]++·);cases dueL "" post<;>rfl⟩ ?_ ?_
 ·rintro pre w post ρ hx ⟨acc,z,u3,u4,u5,rfl,hal,hd⟩
  have hw:w.length<=1000:=by have:=z2j 32 t.cps.toList w (by rw[hx];simp);rw[str_len]at this;omega
  have hp:pre.length<60:=by rw[hx,az,ay]at hn;omega
  refine⟨[some (.od,.str t),some (.fr,.list (acc.map pr)),some (.al,.str z),some (.al,.str (toS w)),u4,u5],rfl,?_⟩;rcases zfy (t:=t) (z:=z) (acc:=acc) (w:=w) (u4:=u4) (u5:=u5) hw (by omega)with⟨p,v4,v5,e1,e2,e3⟩|⟨e1,e3⟩
  ·refine .inl ⟨_,e3,acc++[p],p.1,_,_,_,rfl,by rw[az,az,hal];rfl,fun post=>?_⟩;rw[g8,hd];show(dueL z (w::post)).map _=_;rw[z6t e1 e2];cases dueL p.1 post with
   |none=>rfl
   |some l=>show some (acc++p::l)=some ((acc++[p])++l);rw[g8];rfl
  ·refine .inr ⟨.fr,.none,e3,?_⟩;show _=Res.ok (Out.rt .fr (dueD t));unfold dueD;rw[hx,hd,zlm e1];rfl
 ·rintro ρ ⟨acc,z,u3,u4,u5,rfl,hal,hd⟩
  show evS _ _ _ _=Res.ok (Out.rt .fr (dueD t));have:=hd [];rw[dn]at this;unfold dueD;rw[this];show _=Res.ok (Out.rt .fr (pk (acc++[])));rw[dn];exact z0f (z0g (zg1 (z01 rfl) rfl (zbi _ _) (z0a acc)))
theorem zhr {w:Str}(h:isn w=true):NW w:=by unfold isn at h;rw[ak,ak,ak,decide_eq_true_eq,decide_eq_true_eq,eh]at h;exact⟨by omega,by omega,fun c hc=>ax.mp h.2.1 c hc,h.2.2⟩
theorem zk7 {w:Str}(h:NW w){c:Nat}(hc:p1 c=false):c∉w.cps.toList:=fun z=>by have:=h.ch c z;rw[hc]at this;cases this
def okW (l:List Nat):Option (Str×Int):=match(if hasC l then pfg (tlC 58 l)else .int 1:D)with
 |.int n=>if isn (toS (hdC 58 l))=true/\0<=n/\n<=1000000000000000000000000000000 then some (toS (hdC 58 l),n)else none
 |_=>none
theorem zit {l:List Nat}{p:Str×Int}(h:okW l=some p):ppr l=pr p/\NW p.1/\0<=p.2/\p.2<=1000000000000000000000000000000:=by
 unfold okW at h;unfold ppr pr;split at h
 ·rename_i n hn;split at h
  ·rename_i hh;cases h;rw[hn];exact⟨rfl,zhr hh.1,hh.2⟩
  ·cases h
 ·cases h
theorem zjl {l:List Nat}(hl:l.length<=1000)(h:okW l=none):∃a b,ppr l=.tuple [a,b]/\Bad a b:=by
 refine⟨_,_,rfl,?_⟩;have e1:F_z0 [.str (toS (hdC 58 l))]=.ok (.fr,.bool (isn (toS (hdC 58 l)))):=z9o (by rw[z2d];have:=zhs 58 l;omega);unfold Bad;rw[e1];cases hi:isn (toS (hdC 58 l))with
 |false=>exact .inl rfl
 |true=>
  refine .inr ⟨rfl,?_⟩;unfold okW at h
  have hd:(if hasC l=true then pfg (tlC 58 l)else PyData.int 1)=.none\/∃n,(if hasC l=true then pfg (tlC 58 l)else PyData.int 1)=.int n:=by
   cases hasC l with
   |false=>exact .inr ⟨1,rfl⟩
   |true=>
    show pfg (tlC 58 l)=.none\/∃n,pfg (tlC 58 l)=.int n;unfold pfg;split
    ·exact .inr ⟨_,rfl⟩
    ·exact .inl rfl
  rcases hd with hd|⟨n,hd⟩
  ·rw[hd];exact zfb fun i z=>by cases z
  ·rw[hd]at h ⊢
   dsimp only at h
   rw[zcx];by_cases h0:0<=n
   ·by_cases h2:n<=1000000000000000000000000000000
    ·rw[if_pos ⟨hi,h0,h2⟩]at h;cases h
    ·rw[um h2,pe]
   ·rw[um h0,ot]
theorem zin (a b:Str):(a++b).cps.toList=a.cps.toList++b.cps.toList:=by show(a.cps++b.cps).toList=_;rw[p7]
theorem tx_l {p:Str×Int}(h:p.2≠1):(tx p).cps.toList=p.1.cps.toList++58::(dec p.2).cps.toList:=by unfold tx;rw[if_neg h,zin,zin,g8];rfl
theorem zia {c:Nat}:∀{a r:List Nat},c∉a->hdC c (a++c::r)=a/\tlC c (a++c::r)=r/\(a++c::r).contains c=true
 | [],r,_=>by
  unfold hdC tlC;refine⟨?_,?_,?_⟩
  ·rw[jm,fq,if_neg (by simp)]
  ·rw[jm,gf,if_neg (by simp)];rfl
  ·simp
 |x::a,r,h=>by
  rw[ao,not_or]at h;obtain⟨i1,i2,i3⟩:=zia (r:=r) h.2;have hb:(x != c)=true:=by have:x≠c:=fun e=>h.1 e.symm;simpa using this
  unfold hdC tlC at *
  exact⟨by rw[iw,fq,if_pos hb,i1],by rw[iw,gf,if_pos hb,i2],by rw[iw,gk,i3,nq]⟩
structure Gp (p:Str×Int):Prop where
 nm:NW p.1
 lo:1<=p.2
 hi:p.2<=1000000000000000000000000000000
theorem z7h {n:Int}(h0:1<=n)(h1:n<=1000000000000000000000000000000):(digV (dec n).cps.toList:Int)=n/\(∀c∈(dec n).cps.toList,dg1 c=true)/\1<=(dec n).cps.toList.length/\(dec n).cps.toList.length<=31/\(dec n).cps.toList.head?≠some 48:=by obtain⟨m,rfl⟩:=j4 (show 0<=n by omega);rw[z85];obtain⟨i1,i2,i3,i4⟩:=z9k m (by omega);refine⟨by rw[i1],i2,?_,zjn (by omega),i4⟩;have:=List.length_pos_iff.mpr i3;omega
theorem zmd {p:Str×Int}(g:Gp p):rdW (tx p).cps.toList=some p:=by
 have h58:58∉p.1.cps.toList:=zk7 g.nm rfl;have hi:isn p.1=true:=zi7 g.nm;have g1:=g.lo;have g2:=g.hi;by_cases h:p.2=1
 ·have e:tx p=p.1:=by unfold tx;rw[if_pos h]
  have hc:hasC p.1.cps.toList=false:=by unfold hasC;simpa using h58
  have hh:toS (hdC 58 p.1.cps.toList)=p.1:=by rw[(z22 hc).2,zgp]
  have hn:lnum p.1.cps.toList=1:=by unfold lnum;rw[if_neg (by rw[hc];exact bj)]
  rw[e];unfold rdW;rw[hh,hn,hc,if_pos ⟨hi,by decide,by decide,fun z=>by cases z.2⟩,<-h]
 ·rw[tx_l h];obtain⟨d1,d2,d3,d4,d5⟩:=z7h g.lo g.hi;obtain⟨a1,a2,a3⟩:=zia (r:=(dec p.2).cps.toList) h58;have hn:lnum (p.1.cps.toList++58::(dec p.2).cps.toList)=p.2:=by unfold lnum;rw[if_pos (show hasC _=true from a3),a2];unfold lfg;rw[if_pos ⟨d3,d4,d5,ax.mpr d2⟩,d1]
  unfold rdW;rw[hn,a1,zgp,if_pos ⟨hi,g2,g1,fun z=>h z.1⟩]
theorem zio {l:List Nat}{p:Str×Int}(h:rdW l=some p):Gp p/\tx p=toS l/\okW l=some p:=by
 unfold rdW at h;split at h
 ·rename_i hh;obtain⟨h1,h2,h3,h4⟩:=hh;cases h;refine⟨⟨zhr h1,h3,h2⟩,?_⟩;cases hc:hasC l with
  |false=>
   have hn:lnum l=1:=by unfold lnum;rw[if_neg (by rw[hc];exact bj)]
   have hh:hdC 58 l=l:=(z22 hc).2;refine⟨?_,?_⟩
   ·unfold tx;rw[if_pos hn,hh]
   ·unfold okW;rw[hc];show(if isn (toS (hdC 58 l))=true/\(0:Int)<=1/\(1:Int)<=1000000000000000000000000000000 then some (toS (hdC 58 l),(1:Int))else none)=_;rw[if_pos ⟨h1,by decide,by decide⟩,hn]
  |true=>
   have hn:lnum l=(lfg (tlC 58 l):Int):=by unfold lnum;rw[if_pos hc]
   have n1:lnum l≠1:=fun z=>h4 ⟨z,hc⟩
   have hf:1<=(tlC 58 l).length/\(tlC 58 l).length<=31/\(tlC 58 l).head?≠some 48/\(tlC 58 l).all dg1=true:=by
    by_cases z:1<=(tlC 58 l).length/\(tlC 58 l).length<=31/\(tlC 58 l).head?≠some 48/\(tlC 58 l).all dg1=true
    ·exact z
    ·exfalso;have:lfg (tlC 58 l)=0:=by unfold lfg;rw[if_neg z]
     rw[hn,this]at h3;exact absurd h3 (by decide)
   have hv:lfg (tlC 58 l)=digV (tlC 58 l):=by unfold lfg;rw[if_pos hf]
   obtain⟨b1,b2⟩:=zen (l:=tlC 58 l) (fun z=>by rw[z]at hf;exact absurd hf.1 (by decide)) (fun c hcc=>ax.mp hf.2.2.2 c hcc) hf.2.2.1;refine⟨?_,?_⟩
   ·apply z9v;rw[tx_l n1,z4k,z4k,hn,hv,b2];have:=z3s 58 l;rw[z5k hc]at this;obtain⟨q,t,e⟩:=z59 58 (tlC 58 l);have e2:=z3s 58 (tlC 58 l);rw[e]at this e2;refine Eq.trans ?_ this;rw[<-e2];show hdC 58 l++58::(q++_)=hdC 58 l++((q::t).map fun p=>[58]++p).flatten;simp
   ·unfold okW;rw[hc,if_pos rfl];have hp:pfg (tlC 58 l)=.int (digV (tlC 58 l):Int):=by unfold pfg;rw[if_pos ⟨⟨hf.1,hf.2.1⟩,hf.2.2.2,fun z=>hf.2.2.1 z.1⟩]
    rw[hp]
    dsimp only
    rw[hn,hv]at h2 h3;rw[if_pos ⟨h1,by omega,h2⟩,hn,hv]
 ·cases h
theorem zdy:∀{ws:List (List Nat)} {z:Str} {ps:P},dueL z ws=some ps->ws=ps.map (fun p=>(tx p).cps.toList)/\(∀p∈ps,Gp p)/\(∀p∈ps,sl z p.1)/\Sd ps
 | [],z,ps,h=>by cases h;exact⟨rfl,fun _ h=>(by cases h),fun _ h=>(by cases h),List.Pairwise.nil⟩
 |w::ws,z,ps,h=>by
  rw[dueL]at h;cases e:rdW w with
  |none=>rw[e]at h;cases h
  |some p=>
   rw[e]at h
   dsimp only at h
   split at h
   ·rename_i hs;have hs:=zmi hs;cases e2:dueL p.1 ws with
    |none=>rw[e2]at h;cases h
    |some qs=>
     rw[e2]at h;cases h;obtain⟨i1,i2,i3,i4⟩:=zdy e2;obtain⟨g,et,_⟩:=zio e;refine⟨?_,fun q hq=>?_,fun q hq=>?_,cg.mpr ⟨i3,i4⟩⟩
     ·rw[ae,et,z4k,<-i1]
     ·rcases ao.mp hq with rfl|hq
      ·exact g
      ·exact i2 q hq
     ·rcases ao.mp hq with rfl|hq
      ·exact hs
      ·exact zjq hs (i3 q hq)
   ·cases h
theorem zh4:∀{ps:P} {z:Str},(∀p∈ps,Gp p)->(∀p∈ps,sl z p.1)->Sd ps->dueL z (ps.map fun p=>(tx p).cps.toList)=some ps
 | [],z,_,_,_=>rfl
 |p::ps,z,hg,hz,hs=>by have hs':=cg.mp hs;rw[ae,z6t (zmd (hg p au)) (hz p au),zh4 (fun q hq=>hg q (aw _ hq)) hs'.1 hs'.2];rfl
theorem zoq {w:Str}(h:1<=w.length):sl "" w:=by
 show([]:List Nat)<w.cps.toList;cases e:w.cps.toList with
 |nil=>have:=str_len w;rw[e]at this;simp at this;omega
 |cons a r=>exact .nil
theorem zlw {l:P}(h:PK l):gr l=l:=by refine PK.ext (znn l) h fun n=>?_;have e:look (gr l) n=max (look (z2k [] l) n) 0:=zjc (z5w l [] pc) n;rw[e,z5h,show look [] n=0 from rfl,z49 n l _ h (tm 0)];have:=h.look_nn n;show max (max 0 (look l n)) 0=_;omega
theorem zcd {C:Str×Int->Prop}{n:Str}{v:Int}(hv:C (n,v)):∀{a:P},(∀p∈a,C p)->∀p∈put a n v,C p
 | [],_,p,hp=>by rw[cf.mp hp];exact hv
 |q::a,h,p,hp=>by
  rw[put]at hp;split at hp
  ·rename_i e;rcases ao.mp hp with rfl|hp
   ·rw[e];exact hv
   ·exact h p (aw _ hp)
  ·rcases ao.mp hp with rfl|hp
   ·exact h _ au
   ·exact zcd hv (fun x hx=>h x (aw _ hx)) p hp
theorem z70:∀(l acc:P),Okp l->Okp acc->Okp (z2k acc l)
 | [],acc,_,h=>h
 |p::l,acc,hl,h=>by
  have e:z2k acc (p::l)=z2k (put acc p.1 (max p.2 (look acc p.1))) l:=rfl;rw[e];have hp:=hl p au;refine z70 l _ (fun q hq=>hl q (aw _ hq)) (zcd (C:=fun p=>NW p.1/\0<=p.2/\p.2<=1000000000000000000000000000000) (n:=p.1) (v:=max p.2 (look acc p.1)) ⟨hp.1,?_⟩ h)
  have:0<=look acc p.1/\look acc p.1<=1000000000000000000000000000000:=by
   unfold look;cases e:fnd acc p.1 with
   |none=>exact⟨by decide,by decide⟩
   |some v=>exact(h _ (z26 e)).2
  have h2:=hp.2;show 0<=max p.2 (look acc p.1)/\max p.2 (look acc p.1)<=_;omega
theorem znu {l:P}(h:Okp l):∀p∈gr l,Gp p:=fun p hp=>by
 have hp':=gu.mp hp;have hm:=(z2v _).mem_iff.mp hp'.1;have:=z70 l [] h (fun _ z=>by cases z) p hm;have h0:0<p.2:=by simpa using hp'.2
 exact⟨this.1,by omega,this.2.2⟩
theorem zr4 (l:P):(gr l).length<=l.length:=by unfold gr;have h1:=ke (fun p:Str×Int=>decide (0<p.2)) (srt (z2k [] l));have h2:=(z2v (z2k [] l)).length_eq;have h3:=z7x l [];simp only[kz]at h3;omega
theorem ztz {p:Str×Int}(g:Gp p):32∉(tx p).cps.toList:=by
 have h1:32∉p.1.cps.toList:=zk7 g.nm rfl;by_cases h:p.2=1
 ·unfold tx;rw[if_pos h];exact h1
 ·rw[tx_l h];intro z;rcases cx.mp z with z|z
  ·exact h1 z
  ·rcases ao.mp z with z|z
   ·cases z
   ·have :=(z7h g.lo g.hi).2.1 32 z;cases this
theorem z6z {l:P}(h:l≠[]):shown l=toS (glu 32 (l.map fun p=>(tx p).cps.toList)):=by unfold shown;rw[if_neg h,<-za7,di];rfl
theorem zeg {t:Str}{ps:P}(h:dueL "" (splC 32 t.cps.toList)=some ps):PK ps/\(∀p∈ps,Gp p)/\shown ps=t/\splC 32 t.cps.toList=ps.map (fun p=>(tx p).cps.toList):=by
 obtain⟨h1,h2,h3,h4⟩:=zdy h;have hne:ps≠[]:=fun z=>by obtain⟨q,r,e⟩:=z59 32 t.cps.toList;rw[z,e]at h1;cases h1
 refine⟨⟨h4,fun p hp=>by have:=(h2 p hp).lo;omega⟩,h2,?_,h1⟩;rw[z6z hne,<-h1,z3s,zgp]
theorem zn7 {t:Str}{l:P}(h:dueL "" (splC 32 t.cps.toList)=none)(ht:t≠"-")(hg:∀p∈l,Gp p)(hs:PK l):shown l≠t:=fun e=>by
 by_cases hne:l=[]
 ·rw[hne]at e;exact ht e.symm
 ·rw[z6z hne]at e;have e2:splC 32 t.cps.toList=l.map fun p=>(tx p).cps.toList:=by rw[<-e,z4k];refine zbp 32 _ (by simpa using hne) fun q hq=>?_;obtain⟨p,hp,rfl⟩:=bq.mp hq;exact ztz (hg p hp)
  rw[e2,zh4 hg (fun p hp=>zoq (hg p hp).nm.l1) hs.sd]at h;cases h
theorem z90 (ls:List (List Nat))(l:P)(h:ls.map okW=l.map some):ls.map ppr=l.map pr/\Okp l:=by
 induction ls generalizing l with
 |nil=>
  cases l with
  |nil=>exact⟨rfl,fun _ z=>by cases z⟩
  |cons p l=>cases h
 |cons a ls ih=>
  cases l with
  |nil=>cases h
  |cons p l=>
   rw[ae,ae,List.cons.injEq]at h;obtain⟨i1,i2⟩:=ih l h.2;obtain⟨o1,o2⟩:=zit h.1;refine⟨by rw[ae,ae,o1,i1],fun q hq=>?_⟩;rcases ao.mp hq with rfl|hq
   ·exact o2
   ·exact i2 q hq
theorem zur (ls:List (List Nat)):(∃l:P,ls.map okW=l.map some)\/∃(pre:List (List Nat)) (w:List Nat) (post:List (List Nat)) (l:P),ls=pre++w::post/\pre.map okW=l.map some/\okW w=none:=by
 induction ls with
 |nil=>exact .inl ⟨[],rfl⟩
 |cons a ls ih=>
  cases e:okW a with
  |none=>exact .inr ⟨[],a,ls,[],rfl,rfl,e⟩
  |some p=>
   rcases ih with⟨l,h⟩|⟨pre,w,post,l,h1,h2,h3⟩
   ·exact .inl ⟨p::l,by rw[ae,e,h];rfl⟩
   ·exact .inr ⟨a::pre,w,post,p::l,by rw[h1];rfl,by rw[ae,e,h2];rfl,h3⟩
def Phr:List Fn:=[F_z7,F_z3,F_z5]
theorem zkf {t:Str}(hl:t.length<=1000):evE [] Phr (.comp 1 [] ["word"] (.nm 0) (.tv (.spl (.var 0) (.str " "))) .nil (.call 2 "read_pair" (.cons (.var 0) .nil))) [some (.od,.str t),none]=.ok (.fr,.list ((splC 32 t.cps.toList).map ppr)):=by have ec:=z3e (Κ:=[]) (Φ:=Phr) (ρ:=[some (.od,.str t),none]) (nt:=1) (js:=[]) (N':=["word"]) (tg:=.nm 0) (it:=.tv (.spl (.var 0) (.str " "))) (cond:=.nil) (elt:=.call 2 "read_pair" (.cons (.var 0) .nil)) (m:=fun l=>PyData.str (toS l)) (xs:=splC 32 t.cps.toList) (w:=(.fr,(splC 32 t.cps.toList).map fun l=>PyData.str (toS l))) (fun _=>true) ppr (w_tv (zkw (w:=t) (y:=" ") (c:=32) (z01 rfl) z0e.e rfl hl) rfl) rfl (fun l=>[some (.al,.str (toS l))]) (fun _ _=>rfl) (fun _ _=>z1c) (fun l hx _=>by have h1:=z2j 32 _ l hx;rw[str_len]at h1;have:=zp5 (w:=toS l) (by rw[z2d];omega);rw[z4k]at this;exact z0s (z00 (z01 rfl) z07) rfl this (zks l));rw[d9.mpr fun _ _=>rfl]at ec;exact ec
theorem zng (a b:Str):cmpD .NotEq (.str a) (.str b)=.ok (!decide (a=b)):=by
 show Res.ok (!(a==b))=_
 congr 2
section
variable {Κ:List D}{Φ:List Fn}{ρ ρ':Rho}{p q:S}{cl:Str}{e:D}
theorem zsc {n:Nat}{s:S}{ds:List D}(h0:evS Κ Φ s (ds.map (fun d=>some (.od,d))++bw (n-ds.length) none)=.exc e)(h:evX Κ Φ s (ds.map (fun d=>some (.od,d))++bw (n-ds.length) none)=some cl):runD Κ Φ n s ds=.exc (.str cl):=by unfold runD;rw[h0,h]
theorem zuu (h:evS Κ Φ p ρ=.exc e):evS Κ Φ (.seq p q) ρ=.exc e:=by show outB (evS Κ Φ p ρ) _=_;rw[h];rfl
theorem znf (h:evS Κ Φ p ρ=.exc e)(hx:evX Κ Φ p ρ=some cl):evX Κ Φ (.seq p q) ρ=some cl:=by show(match evS Κ Φ p ρ with|.ok (.nx ρ')=>evX Κ Φ q ρ'|.ok _=>none|_=>evX Κ Φ p ρ)=_;rw[h];exact hx
theorem z79 {o:Option Str}(h:evS Κ Φ p ρ=.ok (.nx ρ'))(hx:evX Κ Φ q ρ'=o):evX Κ Φ (.seq p q) ρ=o:=by show(match evS Κ Φ p ρ with|.ok (.nx ρ')=>evX Κ Φ q ρ'|.ok _=>none|_=>evX Κ Φ p ρ)=_;rw[h];exact hx
theorem y_call {n:Nat}{f:Str}{args:C}{ds:List D}{m:Fn}(ha:Aa Κ Φ args ρ ds)(hf:Φ[n]?=some m)(hm:m ds=.exc (.str cl)):evE Κ Φ (.call n f args) ρ=.exc (.str cl)/\exE Κ Φ (.call n f args) ρ=some cl:=by
 obtain⟨ys,e1,e2⟩:=ha;refine⟨?_,?_⟩
 ·rw[z4c,e1,Res.ok_bind,hf]
  dsimp only
  rw[e2,hm];rfl
 ·show(match evA Κ Φ args ρ with|.ok ys=>(match Φ[n]? with|some m=>excOf (m (dw (fun y:GD=>y.2) ys))|none=>none)|_=>exA Κ Φ args ρ)=_;rw[e1]
  dsimp only
  rw[hf]
  dsimp only
  rw[e2,hm];rfl
theorem zt5 {i n:Nat}{f:Str}{args:C}{ds:List D}{m:Fn}(ha:Aa Κ Φ args ρ ds)(hf:Φ[n]?=some m)(hm:m ds=.exc (.str cl)):evS Κ Φ (.asg (.nm i) (.call n f args)) ρ=.exc (.str cl)/\evX Κ Φ (.asg (.nm i) (.call n f args)) ρ=some cl:=by obtain⟨h1,h2⟩:=y_call (f:=f) ha hf hm;exact⟨by rw[zd6,h1];rfl,h2⟩
end
theorem zjr {d:D}(h:∀w,d≠.str w):F_z8 [d]=.exc (.str "NoPack"):=by
 cases d with
 |str w=>exact absurd rfl (h w)
 |_=>rfl
theorem Tb.ofG {l:P}(h:∀p∈l,Gp p)(hl:l.length<=63):Tb l:=⟨fun p hp=>by have:=(h p hp).nm.l2;omega,fun p hp=>⟨by have:=(h p hp).lo;omega,by have:=(h p hp).hi;omega⟩,hl⟩
theorem zpx {t:Str}(hl:t.length<=1000)(hn:(splC 32 t.cps.toList).length<=60)(h:t≠"-"):F_z8 [.str t]=(match dueL "" (splC 32 t.cps.toList)with|some l=>.ok (.fr,pk l)|none=>.exc (.str "NoPack")):=by
 have t1:Tt [] Phr (.not (.tv (.isT (.var 0) ["str"]))) [some (.od,.str t),none] (!true):=z0w (t_tv (z1f (z01 rfl)).e rfl);have t2:Tt [] Phr (.tv (.cmp .Eq (.var 0) (.str "-"))) [some (.od,.str t),none] false:=t_tv (z0o (z01 rfl) z0e.e (by show Res.ok (t=="-")=_;congr 1;simpa using h)).e rfl;have s1:evS [] Phr (.ifS (.not (.tv (.isT (.var 0) ["str"]))) (.seq (.rse "NoPack") .nil) .nil) [some (.od,.str t),none]=.ok (.nx [some (.od,.str t),none]):=z41 t1 (fun z=>by cases z) fun _=>z10;have s2:evS [] Phr (.ifS (.tv (.cmp .Eq (.var 0) (.str "-"))) (.seq (.ret (.tup .nil)) .nil) .nil) [some (.od,.str t),none]=.ok (.nx [some (.od,.str t),none]):=z41 t2 (fun z=>by cases z) fun _=>z10;have hp:=zkf hl;rcases zur (splC 32 t.cps.toList)with⟨l,ho⟩|⟨pre,w,post,l,e1,e2,e3⟩
 ·obtain⟨el,ok⟩:=z90 _ _ ho;have hll:l.length=(splC 32 t.cps.toList).length:=by have:=congrArg jv ho;rw[am,am]at this;exact this.symm
  rw[el]at hp;have gl:=zr4 l;have hg:=znu ok;have s3:evS [] Phr (.asg (.nm 1) (.call 1 "pack" (.cons (.comp 1 [] ["word"] (.nm 0) (.tv (.spl (.var 0) (.str " "))) .nil (.call 2 "read_pair" (.cons (.var 0) .nil))) .nil))) [some (.od,.str t),none]=.ok (.nx [some (.od,.str t),some (.al,pk (gr l))]):=z0n (z0s (z00 (Ev.of hp) z07) rfl (zj6 l (by omega) ok) (z0a _));have sh:=zkl (Tb.ofG hg (by omega));have t4:Tt [] Phr (.tv (.cmp .NotEq (.call 0 "shown_pack" (.cons (.var 1) .nil)) (.var 0))) [some (.od,.str t),some (.al,pk (gr l))] (!decide (shown (gr l)=t)):=t_tv (z0o (za8 (z00 (z01 rfl) z07) rfl sh) (z01 rfl) (zng _ _)).e rfl;cases hd:dueL "" (splC 32 t.cps.toList)with
  |none=>have hne:=zn7 hd h hg (znn l);have e4:=zec (Κ:=[]) (Φ:=Phr) (p:=.seq (.rse "NoPack") .nil) (q:=.nil) t4 (by rw[um hne];rfl) rfl;exact zb9 (z0m s1 (z0m s2 (z0m s3 (zgj e4)))) (z79 s1 (z79 s2 (z79 s3 (zgg e4 (zlz t4 (by rw[um hne];rfl) rfl)))))
  |some ps=>
   obtain⟨h1,h2,h3,h4⟩:=zeg hd
   have elp:l=ps:=by
    rw[h4]at ho;have:(ps.map fun p=>(tx p).cps.toList).map okW=ps.map some:=by rw[di];refine jb fun p hp=>?_;exact(zio (zmd (h2 p hp))).2.2
    rw[this]at ho;exact((List.map_inj_right (fun _ _ z=>Option.some.inj z)).mp ho).symm
   subst elp;rw[zlw h1]at s3 t4;exact z11 (z0m s1 (z0m s2 (z0m s3 (z0v t4 (by rw[ul h3];rfl) (z0f (z0g (v_var rfl (z0a _))))))))
 ·have hw:w.length<=1000:=by
   have:=z2j 32 t.cps.toList w (by rw[e1];simp);rw[str_len]at this;omega
  obtain⟨a,b,hb,bad⟩:=zjl hw e3;obtain⟨el,ok⟩:=z90 _ _ e2;have ex:F_z3 [.list ((splC 32 t.cps.toList).map ppr)]=.exc (.str "NoPack"):=by rw[e1,dz,ae,el,hb];exact zj9 l ok bad _
  obtain⟨y1,y2⟩:=zt5 (Κ:=[]) (Φ:=Phr) (i:=1) (n:=1) (f:="pack") (z00 (Ev.of hp) z07) rfl ex
  have hd:dueL "" (splC 32 t.cps.toList)=none:=by
   cases hd:dueL "" (splC 32 t.cps.toList)with
   |none=>rfl
   |some ps=>
    obtain⟨h1,h2,h3,h4⟩:=zeg hd;have hm:w∈splC 32 t.cps.toList:=by rw[e1];simp
    rw[h4]at hm;obtain⟨p,hp,rfl⟩:=bq.mp hm;have:=(zio (zmd (h2 p hp))).2.2;rw[this]at e3;cases e3
  rw[hd];exact zsc (z0m s1 (z0m s2 (zuu y1))) (z79 s1 (z79 s2 (znf y1 y2)))
theorem z5n {d:D}(h:F_z8 [d]=.exc (.str "NoPack")):z3g [d]=.ok (.fr,.bool true):=by unfold z3g;refine z11 ?_;unfold zjo;exact z0f (zms (z00 (z01 rfl) z07) rfl h rfl)
theorem zkg {t:Str}(hl:t.length<=1000)(hn:(splC 32 t.cps.toList).length<=60)(h:t≠"-"):z36 [.str t]=.ok (.fr,.bool true):=by
 unfold z36;refine z11 ?_;unfold zf3;have ed:=zsv hl hn h;have er:=zpx hl hn h;unfold dueD at ed;cases hd:dueL "" (splC 32 t.cps.toList)with
 |none=>rw[hd]at ed er;exact z0m (z0n (z0s (z00 (z01 rfl) z07) rfl ed rfl)) (z0y (k:=true) (t_tv (zl7 (z01 rfl)).e rfl) rfl (z0f (z0g (z0s (z00 (z01 rfl) z07) rfl (z5n er) rfl))))
 |some l=>rw[hd]at ed er;exact z0m (z0n (z0s (z00 (z01 rfl) z07) rfl ed (z0a l))) (z0v (k:=false) (t_tv (zl7 (z01 rfl)).e rfl) rfl (z0f (z0g (z0s (z00 (z0s (z00 (z01 rfl) z07) rfl er (z0a l)).e (z00 (z01 rfl) z07)) rfl (z7p l) rfl))))
theorem zet:z36 [.str "-"]=.ok (.fr,.bool true):=by unfold z36;refine z11 ?_;unfold zf3;have ed:ze1 [.str "-"]=.ok (.fr,pk []):=rfl;have er:F_z8 [.str "-"]=.ok (.fr,pk []):=rfl;exact z0m (z0n (z0s (z00 (z01 rfl) z07) rfl ed (z0a []))) (z0v (k:=false) (t_tv (zl7 (z01 rfl)).e rfl) rfl (z0f (z0g (z0s (z00 (z0s (z00 (z01 rfl) z07) rfl er (z0a [])).e (z00 (z01 rfl) z07)) rfl (z7p []) rfl))))
def upS (z:Str):Str:=⟨(z.cps.toList.map (· -32)).toArray⟩
theorem up_D {w:Str}(h:NW w):upD (.str w)=.ok (.str (upS w)):=by
 show(if(w.cps.toList.all (fun c=>decide (97<=c)&&decide (c<=122))&&decide (w.length<=LIM))=true then _ else _)=_;have h1:w.cps.toList.all (fun c=>decide (97<=c)&&decide (c<=122))=true:=ax.mpr h.ch;have h2:w.length<=LIM:=by have:=h.l2;unfold LIM;omega
 rw[h1,ul h2];rfl
theorem zjz (w:Str):(upS w).length=w.length:=by show((w.cps.toList.map (· -32)).toArray).size=_;rw[aq,am,bp];rfl
def bl (w:Str):Nat:=w.cps.toList.count 32
theorem z6i (a b:Str):bl (a++b)=bl a+bl b:=by unfold bl;rw[zin,j9]
theorem zos (z:Str)(i j:Option Int):bl (z0k z i j)<=bl z:=by
 unfold bl;have e:(z0k z i j).cps.toList=cut z.cps.toList i j:=by show(cut z.cps.toList i j).toArray.toList=_;rw[gg]
 rw[e];unfold cut;exact List.Sublist.count_le 32 ((qw _ _).trans (List.drop_sublist _ _))
theorem z87 {w:Str}(h:32∉w.cps.toList):bl w=0:=List.count_eq_zero.mpr h
theorem zkp {w:Str}(h:NW w):bl w=0:=z87 (zk7 h rfl)
theorem zmm {n:Int}(h:0<=n):bl (dec n)=0:=by
 obtain⟨m,rfl⟩:=j4 h;apply z87;rw[z85];by_cases z:m=0
 ·rw[z];decide+kernel
 ·intro y;have:=(z9k m (by omega)).2.1 32 y;cases this
theorem zsp {w:Str}(h:NW w):bl (upS w)=0:=by
 apply z87;intro z;have z':32∈w.cps.toList.map (· -32):=by have:32∈(w.cps.toList.map (· -32)).toArray.toList:=z;rw[gg]at this;exact this
 obtain⟨c,hc,e⟩:=bq.mp z';have:=h.ch c hc;unfold p1 at this;rw[ak,decide_eq_true_eq,decide_eq_true_eq]at this;omega
theorem zk9 {n:Int}(h0:0<=n)(h1:n<10 ^ 40):biD "str" [.int n]=.ok (.str (dec n)):=by show(if n.natAbs.log2<1920 then _ else _)=_;rw[if_pos (zbe h0 h1)];rfl
def Wd (w:Str):Prop:=w.length<=60/\bl w<=1
theorem zqi {nm x:Str}{n:Int}(h:NW nm)(hx:x.length<=3/\bl x=0)(h0:0<=n)(h1:n<10 ^ 40):Wd (nm++x++dec n):=by have h2:=z6e h0 h1;have h3:=h.l2;refine⟨by rw[z13,z13];omega,?_⟩;rw[z6i,z6i,zkp h,zmm h0,hx.2];exact ce _
theorem wd_x {nm x:Str}(h:NW nm)(hx:x.length<=5/\bl x<=1):Wd (nm++x):=by have h3:=h.l2;refine⟨by rw[z13];omega,?_⟩;rw[z6i,zkp h];omega
def od6 (nm:Str):List Str:=["",":",":2",nm++":",nm++"::2",nm++":2:3",nm++":+2",nm++":2.0","-","not","not:2"]
def od6b (nm:Str):List Str:=[nm++"A:2",nm++": 2",upS nm]
theorem z5j {w:Str}(h:(decide (w.length<=60)&&decide (bl w<=1))=true):Wd w:=by rw[ak,decide_eq_true_eq,decide_eq_true_eq]at h;exact h
theorem zsi {nm:Str}(h:NW nm):∀w∈od6 nm++od6b nm,Wd w:=by
 intro w hw;simp only[od6,od6b,iw,jm,ao,cr,or_false]at hw;have hl:=h.l2;rcases hw with rfl|rfl|rfl|rfl|rfl|rfl|rfl|rfl|rfl|rfl|rfl|rfl|rfl|rfl
 ·exact z5j (by decide+kernel)
 ·exact z5j (by decide+kernel)
 ·exact z5j (by decide+kernel)
 ·exact wd_x h (by decide+kernel)
 ·exact wd_x h (by decide+kernel)
 ·exact wd_x h (by decide+kernel)
 ·exact wd_x h (by decide+kernel)
 ·exact wd_x h (by decide+kernel)
 ·exact z5j (by decide+kernel)
 ·exact z5j (by decide+kernel)
 ·exact z5j (by decide+kernel)
 ·exact wd_x h (by decide+kernel)
 ·exact wd_x h (by decide+kernel)
 ·exact⟨by rw[zjz];omega,by rw[zsp h];exact ce _⟩
theorem ztc {Κ:List D}{Φ:List Fn}{ρ:Rho}{a:C}{w:Str}(ha:Ev Κ Φ a ρ (.str w))(h:NW w):Vv Κ Φ (.upr a) ρ (.str (upS w)):=by obtain⟨g,ha⟩:=ha;refine⟨?_,rfl⟩;show(evE Κ Φ a ρ>>=fun x=>upD x.2>>=fun d=>Res.ok (G.fr,d))=_;rw[ha,Res.ok_bind,up_D h];rfl
theorem zqa {nm:Str}(h:NW nm){n:Int}(h0:0<=n):∃w,Wd w/\zgr [.str nm,.int n]=.ok (.fr,.str w):=by
 suffices hh:∃w,Wd w/\evS [] [] zg4 [some (.od,.str nm),some (.od,.int n),none,none,none]=.ok (.rt .fr (.str w)) by obtain⟨w,h1,h2⟩:=hh;exact⟨w,h1,z11 h2⟩
 let Q:Res Out->Prop:=fun r=>∃w,Wd w/\r=.ok (.rt .fr (.str w))
 show Q _;unfold zg4;have hl:=h.l2;have l1:(":":Str).length=1:=rfl;have l2:(":0":Str).length=2:=rfl;refine q_ok (z0n (d:=.int (n%9)) (z09 (z01 rfl) z04.e (z20 (by decide)) rfl)) (q_ok (z0n (d:=.int (n/9)) (z09 (z01 rfl) z04.e (z5g (by decide) (by decide)) rfl)) ?_);have m0:0<=n/9:=by omega
 generalize hk:n%9=k;generalize hm:n/9=m at m0;have tl:Tt [] [] (.tv (.cmp .Lt (.var 2) (.int 2))) [some (.od,.str nm),some (.od,.int n),some (.al,.int k),some (.al,.int m),none] (decide (k<2)):=t_tv (z0o (z01 rfl) z04.e rfl).e rfl;by_cases k2:k<2
 ·exact⟨nm,⟨by omega,by rw[zkp h];exact ce _⟩,z0y tl (ul k2) (z0f (z0g (v_var rfl rfl)))⟩
 refine z4d tl (um k2) ?_;have te:∀j:Int,Tt [] [] (.tv (.cmp .Eq (.var 2) (.int j))) [some (.od,.str nm),some (.od,.int n),some (.al,.int k),some (.al,.int m),none] (decide (k=j)):=fun j=>zd1 (z01 rfl);have num:∀{x:Str} {c:C} {i:Int},x.length<=3/\bl x=0->Vv [] [] c [some (.od,.str nm),some (.od,.int n),some (.al,.int k),some (.al,.int m),none] (.int i)->0<=i->i<10 ^ 40->Q (evS [] [] (.seq (.ret (.bin .Add (.bin .Add (.var 0) (.str x)) (.bi "str" (.cons c .nil)))) .nil) [some (.od,.str nm),some (.od,.int n),some (.al,.int k),some (.al,.int m),none]):=fun{x c i} hx hv i0 i1=>by have hd:=z6e i0 i1;exact⟨nm++x++dec i,zqi h hx i0 i1,z0f (z0g (z09 (z09 (z01 rfl) z0e.e (add_str (by omega)) rfl).e (v_bi (z00 hv.e z07) (zk9 i0 i1) rfl).e (add_str (by rw[z13];omega)) rfl))⟩
 have ift:∀{c:C} {p rest:S} {kk:Bool},Tt [] [] c [some (.od,.str nm),some (.od,.int n),some (.al,.int k),some (.al,.int m),none] kk->kk=true->Q (evS [] [] p [some (.od,.str nm),some (.od,.int n),some (.al,.int k),some (.al,.int m),none])->Q (evS [] [] (.seq (.ifS c p .nil) rest) [some (.od,.str nm),some (.od,.int n),some (.al,.int k),some (.al,.int m),none]):=fun ht hk' hq=>by obtain⟨w,h1,h2⟩:=hq;exact⟨w,h1,z0y ht hk' h2⟩
 by_cases k3:k=2
 ·exact ift (te 2) (ul k3) (num ⟨by decide,by decide+kernel⟩ (z09 (d:=.int (m%4)) (z01 rfl) z04.e (z20 (by decide)) rfl) (by omega) (by omega))
 refine z4d (te 2) (um k3) ?_;by_cases k4:k=3
 ·exact ift (te 3) (ul k4) (num ⟨by decide,by decide+kernel⟩ (z09 (d:=.int (1000000000000000000000000000000+m%5-2)) (z09 (d:=.int (1000000000000000000000000000000+m%5)) z0q.e (z09 (d:=.int (m%5)) (z01 rfl) z04.e (z20 (by decide)) rfl).e rfl rfl).e z04.e rfl rfl) (by omega) (by omega))
 refine z4d (te 3) (um k4) ?_;by_cases k5:k=4
 ·exact ift (te 4) (ul k5) (num ⟨by decide,by decide+kernel⟩ (z09 (d:=.int (m%1000)) (z01 rfl) z04.e (z20 (by decide)) rfl) (by omega) (by omega))
 refine z4d (te 4) (um k5) ?_;have t5:Tt [] [] (.and (.tv (.cmp .Eq (.var 2) (.int 5))) (.tv (.cmp .Eq (.bin .Mod (.var 3) (.int 3)) (.int 1)))) [some (.od,.str nm),some (.od,.int n),some (.al,.int k),some (.al,.int m),none] (decide (k=5)&&decide (m%3=1)):=zlk (te 5) fun _=>zd1 (z09 (z01 rfl) z04.e (z20 (by decide)) rfl).e;by_cases k6:(decide (k=5)&&decide (m%3=1))=true
 ·refine ift t5 k6 ?_;have av:Av [] [] (.cons (.str "") (.cons (.str ":") (.cons (.str ":2") (.cons (.bin .Add (.var 0) (.str ":")) (.cons (.bin .Add (.var 0) (.str "::2")) (.cons (.bin .Add (.var 0) (.str ":2:3")) (.cons (.bin .Add (.var 0) (.str ":+2")) (.cons (.bin .Add (.var 0) (.str ":2.0")) (.cons (.str "-") (.cons (.str "not") (.cons (.str "not:2") .nil))))))))))) [some (.od,.str nm),some (.od,.int n),some (.al,.int k),some (.al,.int m),none] ((od6 nm).map .str):=by have va:∀{x:Str},x.length<=5->Vv [] [] (.bin .Add (.var 0) (.str x)) [some (.od,.str nm),some (.od,.int n),some (.al,.int k),some (.al,.int m),none] (.str (nm++x)):=fun hx=>z09 (z01 rfl) z0e.e (add_str (by omega)) rfl;exact z06 z0e (z06 z0e (z06 z0e (z06 (va (by decide)) (z06 (va (by decide)) (z06 (va (by decide)) (z06 (va (by decide)) (z06 (va (by decide)) (z06 z0e (z06 z0e (z06 z0e z0j))))))))))
  refine q_ok (z2o (z54 av) (z19 _)) ?_;have av2:Av [] [] (.cons (.bin .Add (.var 0) (.str "A:2")) (.cons (.bin .Add (.var 0) (.str ": 2")) (.cons (.upr (.var 0)) .nil))) [some (.od,.str nm),some (.od,.int n),some (.al,.int k),some (.al,.int m),some (.fr,.list ((od6 nm).map .str))] ((od6b nm).map .str):=by have va:∀{x:Str},x.length<=5->Vv [] [] (.bin .Add (.var 0) (.str x)) [some (.od,.str nm),some (.od,.int n),some (.al,.int k),some (.al,.int m),some (.fr,.list ((od6 nm).map .str))] (.str (nm++x)):=fun hx=>z09 (z01 rfl) z0e.e (add_str (by omega)) rfl;exact z06 (va (by decide)) (z06 (va (by decide)) (z06 (ztc (z01 rfl) h) z0j))
  have el:binD .Add (.list ((od6 nm).map .str)) (.list ((od6b nm).map .str))=.ok (.list ((od6 nm++od6b nm).map .str)):=by rw[add_list (by rw[am,am];show 11+3<=1000;decide),dz]
  have i0:0<=m/3%14:=by omega
  have i1:m/3%14<(od6 nm++od6b nm).length:=by show m/3%14<14;omega
  exact⟨_,zsi h _ (getD_mem (d:=⟨#[]⟩) i0 i1),z0f (z0g (v_ix (Ev.of (zfk (z01 rfl) (Ev.of (z54 av2)) el (z19 _))) (z09 (d:=.int (m/3%14)) (z09 (d:=.int (m/3)) (z01 rfl) z04.e (z5g (by decide) (by decide)) rfl).e z04.e (z20 (by decide)) rfl).e (zc9 i0 i1) rfl))⟩
 refine z4d t5 (eq_false_of_ne_true k6) ?_;have i0:0<=m%4:=by omega
 have i1:m%4<(([1000,1000000000000000000,10000000000000000000000000000000,1000000000000000000000000000000000]:List Int)).length:=by show m%4<4;omega
 have hin:=getD_mem (d:=(0:Int)) i0 i1;have hix:=z8g i0 i1;generalize ([1000,1000000000000000000,10000000000000000000000000000000,1000000000000000000000000000000000]:List Int).getD (m%4).toNat 0=b at hin hix;have hb:0<b/\b<=1000000000000000000000000000000000:=by simp only[ao,cr,or_false]at hin;rcases hin with rfl|rfl|rfl|rfl<;>decide
 have r0:=la (m*999983) (show b≠0 by omega);have r1:=Int.emod_lt_of_pos (m*999983) hb.1;refine num ⟨by decide,by decide+kernel⟩ (z09 (d:=.int (2+m*999983%b)) z04.e (z09 (d:=.int (m*999983%b)) (z09 (z01 rfl) z04.e (zca (by decide)) rfl).e (v_ix (Ev.of (z54 (z06 (z09 (d:=.int 1000) z04.e z04.e rfl rfl) (z06 (z09 (d:=.int 1000000000000000000) z04.e z04.e rfl rfl) (z06 (z09 (d:=.int 10000000000000000000000000000000) z04.e z04.e rfl rfl) (z06 (z09 (d:=.int 1000000000000000000000000000000000) z04.e z04.e rfl rfl) z0j)))))) (z09 (z01 rfl) z04.e (z20 (by decide)) rfl).e hix rfl).e (z20 hb.1) rfl).e rfl rfl) (by omega) (by omega)
theorem z75 (x:D):∀l:List D,(insD x l).Perm (x::l)
 | []=>.refl _
 |y::l=>by
  rw[insD];split
  ·exact((z75 x l).cons y).trans (.swap x y l)
  ·exact .refl _
theorem z5c:∀l:List D,(z1h l).Perm l
 | []=>.refl _
 |x::l=>(z75 x (z1h l)).trans ((z5c l).cons x)
theorem zdv {ns:List Str}:∀xs:List D,(∀x∈xs,x∈ns.map PyData.str)->∃ms:List Str,xs=ms.map .str/\∀w∈ms,w∈ns
 | [],_=>⟨[],rfl,fun _ z=>by cases z⟩
 |x::xs,h=>by
  obtain⟨ms,e,hm⟩:=zdv xs fun y hy=>h y (aw _ hy);obtain⟨w,hw,rfl⟩:=bq.mp (h x au);refine⟨w::ms,by rw[e];rfl,fun v hv=>?_⟩;rcases ao.mp hv with rfl|hv
  ·exact hw
  ·exact hm v hv
theorem sorted_strs {ns:List Str}(hl:ns.length<64):∃ms:List Str,(ms.length=ns.length/\∀w∈ms,w∈ns)/\aggD "sorted" true (ns.map .str)=.ok (.list (ms.map .str)):=by
 have hp:=z5c (ns.map PyData.str);obtain⟨ms,e,hm⟩:=zdv (ns:=ns) (z1h (ns.map PyData.str)) fun x hx=>hp.mem_iff.mp hx;refine⟨ms,⟨?_,hm⟩,?_⟩
 ·have :=hp.length_eq;rw[e,am,am]at this;exact this
 ·show(if((true||imms (ns.map PyData.str))&&z57 (ns.map PyData.str)&&decide ((ns.map PyData.str).length<64))=true then Res.ok (PyData.list (z1h (ns.map PyData.str)))else .no)=_
  have h1:z57 (ns.map PyData.str)=true:=by
   unfold z57 z2a;have:(ns.map PyData.str).all isS=true:=by rw[lh];exact ax.mpr fun _ _=>rfl
   rw[this];simp
  rw[h1,ul (show(ns.map PyData.str).length<64 by rw[am];exact hl),if_pos (by rfl),e]
theorem zgn (ss:List Str):(z1p " " ss).length+0<=(ss.map (·.length)).sum+ss.length/\bl (z1p " " ss)<=(ss.map bl).sum+ss.length:=by
 have h:∀r:List Str,(((r.map fun p=>[32]++p.cps.toList).flatten).length=(r.map (·.length)).sum+r.length)/\((r.map fun p=>[32]++p.cps.toList).flatten).count 32=(r.map bl).sum+r.length:=by
  intro r
  induction r with
  |nil=>exact⟨rfl,rfl⟩
  |cons y r ih=>have y1:=str_len y;rw[ae,fm,az,ih.1,j9,ih.2,ae,gi,ae,gi,ay,az,j9,y1];have:List.count 32 [32]=1:=rfl;rw[this];show 1+y.length+_=_/\1+bl y+_=_;omega
 cases ss with
 |nil=>exact⟨ce _,ce _⟩
 |cons x r=>
  have e:(z1p " " (x::r)).cps.toList=x.cps.toList++(r.map fun p=>[32]++p.cps.toList).flatten:=by show(z69 [32] (x::r)).toArray.toList=_;rw[gg];rfl
  obtain⟨h1,h2⟩:=h r;have x1:=str_len x;have l1:=str_len (z1p " " (x::r));rw[e,az,h1,x1]at l1;unfold bl;rw[e,j9,h2,ae,gi,ae,gi,ay];show(z1p " " (x::r)).length+0<=_/\bl x+_<=bl x+(r.map bl).sum+_;omega
theorem z8d {α:Type}{f:α->Nat}{k:Nat}:∀{xs:List α},(∀x∈xs,f x<=k)->(xs.map f).sum<=k*xs.length
 | [],_=>ah _
 |x::xs,h=>by have h1:=h x au;have h2:=z8d fun y hy=>h y (aw _ hy);rw[ae,gi,ay,Nat.mul_add];omega
theorem ztl {w:Str}:∃i:Int,-1<=i/\mtD "find" (.str w) [.str " "]=.ok (.int i):=by
 refine⟨_,?_,rfl⟩;split
 ·omega
 ·exact tm _
def Pht:List Fn:=[zgr]
theorem zj2 {cs:List Int}{ns:List Str}(hc:0<cs.length)(hcl:cs.length<=20)(hn:ns.length=8)(hw:∀w∈ns,NW w):∃t:Str,(t.length<=1000/\bl t<=50)/\z55 [.list (cs.map .int),.list (ns.map .str)]=.ok (.fr,.str t):=by
 suffices hh:∃t:Str,(t.length<=1000/\bl t<=50)/\evS [] Pht zew [some (.od,.list (cs.map .int)),some (.od,.list (ns.map .str)),none,none,none,none,none,none,none,none]=.ok (.rt .fr (.str t)) by obtain⟨w,h1,h2⟩:=hh;exact⟨w,h1,z11 h2⟩
 let Q:Res Out->Prop:=fun r=>∃t:Str,(t.length<=1000/\bl t<=50)/\r=.ok (.rt .fr (.str t))
 show Q _;unfold zew;refine q_ok (z2o (z54 z0j) rfl) (q_ok (z2o (xs:=ns.map .str) (zq1 (z01 rfl) rfl (zgv _ _) (z19 ns)) (z19 ns)) ?_);have v0:∀{ρ:Rho} {g:G},ρ[0]?=some (some (g,.list (cs.map .int)))->Vv [] Pht (.ix (.var 0) (.int 0)) ρ (.int (cs.getD (0:Int).toNat 0)):=fun h=>v_ix (z01 h) z04.e (z8g (i:=0) (by decide) (by omega)) rfl;generalize hc0:cs.getD (0:Int).toNat 0=c0 at v0;have tp:∀{ρ:Rho} {g:G},ρ[0]?=some (some (g,.list (cs.map .int)))->Tt [] Pht (.tv (.cmp .Eq (.bin .Mod (.ix (.var 0) (.int 0)) (.int 2)) (.int 0))) ρ (decide (c0%2=0)):=fun h=>zd1 (z09 (v0 h).e z04.e (z20 (by decide)) rfl).e;obtain⟨ms0,⟨hm1,hm2⟩,hso⟩:=sorted_strs (ns:=ns) (by omega)
 have e3:∃ms:List Str,(ms.length=8/\∀w∈ms,NW w)/\evS [] Pht (.ifS (.tv (.cmp .Eq (.bin .Mod (.ix (.var 0) (.int 0)) (.int 2)) (.int 0))) (.seq (.asg (.nm 3) (.agg "sorted" (.tv (.var 1)))) .nil) .nil) [some (.od,.list (cs.map .int)),some (.od,.list (ns.map .str)),some (.fr,.list []),some (.fr,.list (ns.map .str)),none,none,none,none,none,none]=.ok (.nx [some (.od,.list (cs.map .int)),some (.od,.list (ns.map .str)),some (.fr,.list []),some (.fr,.list (ms.map .str)),none,none,none,none,none,none]):=by
  by_cases hp:c0%2=0
  ·exact⟨ms0,⟨by omega,fun w h=>hw w (hm2 w h)⟩,z41 (tp rfl) (fun _=>z0m (z2o (zq1 (z01 rfl) rfl hso (z19 ns)) (z19 ms0)) z10) fun z=>by rw[ul hp]at z;cases z⟩
  ·exact⟨ns,⟨hn,hw⟩,z41 (tp rfl) (fun z=>by rw[um hp]at z;cases z) fun _=>z10⟩
 obtain⟨ms,⟨hms,hmw⟩,e3⟩:=e3;refine q_ok e3 ?_;have hsl:(cut cs (some 1) (some 7)).length<=6:=by unfold cut;simp only[Mi.sIx,if_neg (show ¬(7:Int)<0 by omega),if_neg (show ¬(1:Int)<0 by omega),d6,dq];omega
 have es:evE [] Pht (.sl (.var 0) (.tv (.int 1)) (.tv (.int 7))) [some (.od,.list (cs.map .int)),some (.od,.list (ns.map .str)),some (.fr,.list []),some (.fr,.list (ms.map .str)),none,none,none,none,none,none]=.ok (.fr,.list ((cut cs (some 1) (some 7)).map .int)):=by
  obtain⟨g1,e1⟩:=z01 (Κ:=[]) (Φ:=Pht) (i:=0) (ρ:=[some (.od,.list (cs.map .int)),some (.od,.list (ns.map .str)),some (.fr,.list []),some (.fr,.list (ms.map .str)),none,none,none,none,none,none]) (g:=.od) (d:=.list (cs.map .int)) rfl;have o1:evO [] Pht (.tv (.int 1)) [some (.od,.list (cs.map .int)),some (.od,.list (ns.map .str)),some (.fr,.list []),some (.fr,.list (ms.map .str)),none,none,none,none,none,none]=.ok (some 1):=z16 z04.e;have o7:evO [] Pht (.tv (.int 7)) [some (.od,.list (cs.map .int)),some (.od,.list (ns.map .str)),some (.fr,.list []),some (.fr,.list (ms.map .str)),none,none,none,none,none,none]=.ok (some 7):=z16 z04.e;rw[E_sl,e1,Res.ok_bind,o1,Res.ok_bind,o7,Res.ok_bind]
  dsimp only
  rw[zcg,Res.ok_bind];show Res.ok (if imms _=true then G.fr else _,_)=_;rw[if_pos (z4x _)]
 have ef:=zuv (Κ:=[]) (Φ:=Pht) es rfl (zmn (xs:=(cut cs (some 1) (some 7)).map .int) (by rw[am];omega));rw[zhf]at ef;refine zjy (m:=fun p:Int×Nat=>PyData.tuple [.int p.2,.int p.1]) (xs:=(cut cs (some 1) (some 7)).zipIdx 0) ef (fun pre ρ=>∃ws u4 u5 u6 u7,ρ=[some (.od,.list (cs.map .int)),some (.od,.list (ns.map .str)),some (.fr,.list (dw PyData.str ws)),some (.fr,.list (ms.map .str)),u4,u5,u6,u7,none,none]/\ws.length=pre.length/\∀w∈ws,Wd w) ⟨[],none,none,none,none,rfl,rfl,fun _ z=>by cases z⟩ ?_ ?_
 ·rintro pre p post ρ hx ⟨ws,u4,u5,u6,u7,rfl,hwl,hwd⟩
  have hpl:pre.length<6:=by have:=congrArg jv hx;rw[qt,az,ay]at this;omega
  have hpi:p.2<6:=by
   have hm:p∈(cut cs (some 1) (some 7)).zipIdx:=by rw[hx];simp
   have:=zop hm;have:=(bn.mp this).1;omega
  obtain⟨c,k⟩:=p;refine⟨[some (.od,.list (cs.map .int)),some (.od,.list (ns.map .str)),some (.fr,.list (dw PyData.str ws)),some (.fr,.list (ms.map .str)),some (.al,.int k),some (.al,.int c),u6,u7,none,none],?_⟩
  let I:Rho->Prop:=fun ρ'=>∃ws u4 u5 u6 u7,ρ'=[some (.od,.list (cs.map .int)),some (.od,.list (ns.map .str)),some (.fr,.list (dw PyData.str ws)),some (.fr,.list (ms.map .str)),u4,u5,u6,u7,none,none]/\ws.length=(pre++[(c,k)]).length/\∀w∈ws,Wd w
  suffices hh:Nx I (evS [] Pht _ [some (.od,.list (cs.map .int)),some (.od,.list (ns.map .str)),some (.fr,.list (dw PyData.str ws)),some (.fr,.list (ms.map .str)),some (.al,.int k),some (.al,.int c),u6,u7,none,none]) by obtain⟨ρ',h1,h2⟩:=hh;exact⟨ρ',rfl,h1,h2⟩
  refine q_ok (Q:=Nx I) (z0n (zkt (i:=5) rfl rfl)) ?_;have n0:0<=c%10000000000000000000000000000000000000000:=la _ (by decide);generalize c%10000000000000000000000000000000000000000=n at n0;refine q_ok (Q:=Nx I) (z0n (d:=.int (n%8)) (z09 (z01 rfl) z04.e (z20 (by decide)) rfl)) ?_
  have e7:∃a:Int,(0<=a/\a<8)/\evS [] Pht (.ifS (.tv (.cmp .Eq (.bin .Mod (.ix (.var 0) (.int 0)) (.int 2)) (.int 0))) (.seq (.asg (.nm 7) (.bin .Add (.var 4) (.bin .Mult (.bin .Mod (.var 6) (.int 2)) (.bi "int" (.cons (.cmp .Gt (.var 4) (.int 4)) .nil))))) .nil) .nil) [some (.od,.list (cs.map .int)),some (.od,.list (ns.map .str)),some (.fr,.list (dw PyData.str ws)),some (.fr,.list (ms.map .str)),some (.al,.int k),some (.al,.int c),some (.al,.int n),some (.al,.int (n%8)),none,none]=.ok (.nx [some (.od,.list (cs.map .int)),some (.od,.list (ns.map .str)),some (.fr,.list (dw PyData.str ws)),some (.fr,.list (ms.map .str)),some (.al,.int k),some (.al,.int c),some (.al,.int n),some (.al,.int a),none,none]):=by
   by_cases hp:c0%2=0
   ·have hi:0<=n%2*(if decide ((4:Int)<k)=true then 1 else 0)/\n%2*(if decide ((4:Int)<k)=true then 1 else 0)<=1:=by split<;>omega
    have hk:k<6:=hpi;refine⟨k+n%2*(if decide ((4:Int)<k)=true then 1 else 0),⟨by omega,by omega⟩,z41 (tp rfl) (fun _=>z0m (z0n (z09 (z01 rfl) (z09 (z09 (d:=.int (n%2)) (z01 rfl) z04.e (z20 (by decide)) rfl).e (v_bi (d:=.int (if decide ((4:Int)<k)=true then 1 else 0)) (z00 (z0o (k:=decide ((4:Int)<k)) (z01 rfl) z04.e rfl).e z07) rfl rfl).e (zca (by split<;>decide)) rfl).e rfl rfl)) z10) fun z=>by rw[ul hp]at z;cases z⟩
   ·exact⟨n%8,⟨by omega,by omega⟩,z41 (tp rfl) (fun z=>by rw[um hp]at z;cases z) fun _=>z10⟩
  obtain⟨a,⟨a0,a1⟩,e7⟩:=e7;refine q_ok (Q:=Nx I) e7 ?_;have hix:=zc9 (ns:=ms) (i:=a) a0 (by omega);have hmem:=hmw _ (getD_mem (ns:=ms) (d:=⟨#[]⟩) a0 (by omega));generalize ms.getD a.toNat ⟨#[]⟩=nm at hix hmem;have q0:0<=n/8*48271%1000000000000000000000000000000000000:=la _ (by decide);obtain⟨w,hwd',ew⟩:=zqa hmem q0;have ea:=zey (Κ:=[]) (Φ:=Pht) (ρ:=[some (.od,.list (cs.map .int)),some (.od,.list (ns.map .str)),some (.fr,.list (dw PyData.str ws)),some (.fr,.list (ms.map .str)),some (.al,.int k),some (.al,.int c),some (.al,.int n),some (.al,.int a),none,none]) (i:=2) (a:=.call 0 "_law_word" (.cons (.ix (.var 3) (.var 7)) (.cons (.bin .Mod (.bin .Mult (.bin .FloorDiv (.var 6) (.int 8)) (.int 48271)) (.bin .Pow (.int 10) (.int 36))) .nil))) (x:=.str w) (xs:=ws.map .str) (z0s (z00 (v_ix (z01 rfl) (z01 rfl) hix rfl).e (z00 (z09 (z09 (z09 (d:=.int (n/8)) (z01 rfl) z04.e (z5g (by decide) (by decide)) rfl).e z04.e (zca (by decide)) rfl).e (z09 (d:=.int 1000000000000000000000000000000000000) z04.e z04.e rfl rfl).e (z20 (by decide)) rfl).e z07)) rfl ew rfl) rfl (by rw[am];omega);refine q_ok (Q:=Nx I) ea (zp6 ?_);refine⟨ws++[w],some (.al,.int k),some (.al,.int c),some (.al,.int n),some (.al,.int a),by rw[dz];rfl,by rw[az,az,hwl];rfl,fun v hv=>?_⟩;rcases cx.mp hv with hv|hv
  ·exact hwd v hv
  ·rw[cf.mp hv];exact hwd'
 ·rintro ρ ⟨ws,u4,u5,u6,u7,rfl,hwl,hwd⟩
  rw[qt]at hwl;have w1:=z8d (f:=fun s:Str=>s.length) (k:=60) (xs:=ws) fun w h=>(hwd w h).1;have w2:=z8d (f:=bl) (k:=1) (xs:=ws) fun w h=>(hwd w h).2;obtain⟨j1,j2⟩:=zgn ws
  have ej:mtD "join" (.str " ") [.list (ws.map .str)]=.ok (.str (z1p " " ws)):=by
   show(match allS (ws.map .str)with|some ss=>if z4w " " ss<=LIM then Res.ok (PyData.str (z1p " " ss))else .no|none=>.no)=_;rw[z2b]
   dsimp only
   rw[if_pos];unfold z4w;have:(" ":Str).length=1:=rfl;rw[this];unfold LIM;omega
  generalize z1p " " ws=t at j1 j2 ej;refine q_ok (z0n z0e) (q_ok (z0n (v_mt (z01 rfl) (z00 (z01 rfl) z07) ej rfl)) ?_);have tq:Tt [] Pht (.tv (.cmp .Eq (.bin .Mod (.bin .FloorDiv (.ix (.var 0) (.int 0)) (.int 2)) (.int 9)) (.int 1))) [some (.od,.list (cs.map .int)),some (.od,.list (ns.map .str)),some (.fr,.list (dw PyData.str ws)),some (.fr,.list (ms.map .str)),u4,u5,u6,u7,some (.al,.str " "),some (.al,.str t)] (decide (c0/2%9=1)):=zd1 (z09 (z09 (v0 rfl).e z04.e (z5g (by decide) (by decide)) rfl).e z04.e (z20 (by decide)) rfl).e;by_cases hq:c0/2%9=1
  ·obtain⟨i,hi,ei⟩:=ztl (w:=t);have s1:=z8v t none (some (i+1));have s2:=z8v t (some (i+1)) none;have b1:=zos t none (some (i+1));have b2:=zos t (some (i+1)) none;have c1:(" ":Str).length=1:=rfl;have c2:bl " "=1:=by decide+kernel
   have l1:=z13 (z0k t none (some (i+1))) " ";have l2:=z13 (z0k t none (some (i+1))++" ") (z0k t (some (i+1)) none);have k1:=z6i (z0k t none (some (i+1))) " ";have k2:=z6i (z0k t none (some (i+1))++" ") (z0k t (some (i+1)) none);refine q_ok (z41 tq (fun _=>z0m (z0n (d:=.int (i+1)) (z09 (v_mt (z01 rfl) (z00 z0e.e z07) ei rfl).e z04.e rfl rfl)) (z0m (z0n (z09 (z09 (v_sl (z01 rfl) z1d (z16 (z01 rfl)) (z4s (by omega)) rfl).e z0e.e (add_str (by omega)) rfl).e (v_sl (z01 rfl) (z16 (z01 rfl)) z1d (z4s (by omega)) rfl).e (add_str (by omega)) rfl)) z10)) fun z=>by rw[ul hq]at z;cases z) ?_;exact⟨_,⟨by omega,by omega⟩,z0f (z0g (v_var rfl rfl))⟩
  ·refine q_ok (z41 tq (fun z=>by rw[um hq]at z;cases z) fun _=>z10) ?_;exact⟨t,⟨by omega,by omega⟩,z0f (z0g (v_var rfl rfl))⟩
theorem z9t {t:Str}(h:t.length<=1000/\bl t<=50):z36 [.str t]=.ok (.fr,.bool true):=by
 by_cases z:t="-"
 ·rw[z];exact zet
 ·exact zkg h.1 (by rw[zdj];have:=h.2;unfold bl at this;omega) z
theorem zgx {d:D}(h:∀w,d≠.str w):z3g [d]=.ok (.fr,.bool true):=z5n (zjr h)
def th6:List D:=[.none,.bool true,.int 0,.list [.str "b"],.tuple [.str "b"],.dict [],.list [],.tuple [.tuple [.str "b",.int 1]],.bool false]
def th6b:List D:=[.list [],.none,.tuple [],.int 7]
theorem zny {xs:List D}(hx:(xs.all fun d=>!(isS d))=true){d:D}(h:d∈xs):∀w,d≠.str w:=fun w z=>by have:=ax.mp hx d h;rw[z]at this;cases this
theorem ix_D {xs:List D}{i:Int}(h0:0<=i)(h1:i<xs.length):ixD (.list xs) (.int i)=.ok (xs.getD i.toNat .none):=by show Res.ofO (atI xs i)=_;rw[zc8 _ _ .none h0 h1];rfl
theorem zuj {xs:List Int}(hl:xs.length<=63):zd9 [.list (xs.map .int)]=.ok (.fr,.bool true):=by
 unfold zd9;refine z11 ?_
 let Q:Res Out->Prop:=fun r=>r=.ok (.rt .fr (.bool true))
 show Q _;unfold zm4;have hlen:∀{Φ:List Fn} {ρ:Rho},ρ[0]?=some (some (.od,.list (xs.map .int)))->Vv [] Φ (.bi "len" (.cons (.var 0) .nil)) ρ (.int (xs.length:Int)):=fun{Φ ρ} h0=>v_bi (z00 (z01 h0) z07) (zg9 xs) rfl;have hb:rngD [.int 0,.int (1+min (xs.length:Int) 47),.int 8]=.ok ((b8 (if(0:Int)<1+min (xs.length:Int) 47 then((1+min (xs.length:Int) 47-0-1)/8+1).toNat else 0)).map fun(i:Nat)=>.int (0+(i:Int)*8)):=by show(if _ then _ else _)=_;rw[if_pos (by unfold LIM;omega)]
 refine zjy (m:=fun(i:Nat)=>PyData.int (0+(i:Int)*8)) (zf7 (z00 z04.e (z00 (z09 z04.e (v_bi (z00 (hlen rfl).e (z00 z04.e z07)) (z21 _ _) rfl).e rfl rfl).e (z00 z04.e z07))) hb) (fun _ ρ=>∃u1 u2 u3,ρ=[some (.od,.list (xs.map .int)),u1,u2,u3]) ⟨none,none,none,rfl⟩ ?_ ?_
 ·rintro pre i post ρ hx ⟨u1,u2,u3,rfl⟩
  have st0:0<=(0+(i:Int)*8):=by omega
  generalize hs:(0+(i:Int)*8:Int)=st at st0
  let cs:List Int:=cut xs (some st) (some (st+8))++[(xs.length:Int)]
  have hcl:(cut xs (some st) (some (st+8))).length<=8:=by unfold cut;simp only[Mi.sIx,if_neg (show ¬st<0 by omega),if_neg (show ¬st+8<0 by omega),d6,dq];omega
  have hcs:0<cs.length:=by simp[cs]
  have hcs2:cs.length<=20:=by simp only[cs,az,ay,kz];omega
  obtain⟨ns,⟨hn,hw⟩,en⟩:=zes (cs.getD (0:Int).toNat 0/18);obtain⟨t,ht,et⟩:=zj2 hcs hcs2 hn hw;have i0:0<=(xs.length:Int)%9:=by omega
  have i1:(xs.length:Int)%9<th6.length:=by show(xs.length:Int)%9<9;omega
  have hd:=zny (xs:=th6) (by decide+kernel) (getD_mem (d:=.none) i0 i1);have hix:=ix_D i0 i1;generalize th6.getD ((xs.length:Int)%9).toNat .none=dd at hd hix;have j0:0<=st/8%4:=by omega
  have j1:st/8%4<th6b.length:=by show st/8%4<4;omega
  have hd2:=zny (xs:=th6b) (by decide+kernel) (getD_mem (d:=.none) j0 j1);have hix2:=ix_D j0 j1;generalize th6b.getD (st/8%4).toNat .none=dd2 at hd2 hix2
  have elast:ixD (.list (cs.map .int)) (.int (-1))=.ok (.int (xs.length:Int)):=by
   show Res.ofO (atI (cs.map PyData.int) (-1))=_;have ec:cs.map PyData.int=(cut xs (some st) (some (st+8))).map PyData.int++[.int (xs.length:Int)]:=by simp[cs]
   rw[ec];unfold atI ixN;rw[if_neg (by decide),az,if_pos (by simp only[ay,kz];omega)];show Res.ofO ((_++[PyData.int (xs.length:Int)])[((-1:Int)+((_+1:Nat):Int)).toNat]?)=_;rw[show((-1:Int)+((((cut xs (some st) (some (st+8))).map PyData.int).length+1:Nat):Int)).toNat=((cut xs (some st) (some (st+8))).map PyData.int).length by omega,fj (ah _),Nat.sub_self];rfl
  have s2:evS [] [z36,z3g,z55,z51] (.asg (.nm 2) (.bin .Add (.sl (.var 0) (.tv (.var 1)) (.tv (.bin .Add (.var 1) (.int 8)))) (.lst (.cons (.bi "len" (.cons (.var 0) .nil)) .nil)))) [some (.od,.list (xs.map .int)),some (.al,.int st),u2,u3]=.ok (.nx [some (.od,.list (xs.map .int)),some (.al,.int st),some (.fr,.list (cs.map .int)),u3]):=z2o (xs:=cs.map .int) (zfk (e_sl (z01 rfl) (z16 (z01 rfl)) (z16 (z09 (z01 rfl) z04.e rfl rfl).e) (zcg xs _ _)) (Ev.of (z54 (z06 (hlen rfl) z0j))) (by rw[add_list (by rw[am];show _+1<=1000;omega)];show _=Res.ok (PyData.list ((cut xs (some st) (some (st+8))++[(xs.length:Int)]).map .int));rw[dz];rfl) (z4x _)) (z4x _)
  have s3:∃g,evS [] [z36,z3g,z55,z51] (.asg (.nm 3) (.ix (.lst (.cons .non (.cons (.bl true) (.cons (.int 0) (.cons (.lst (.cons (.str "b") .nil)) (.cons (.tup (.cons (.str "b") .nil)) (.cons .dnew (.cons (.lst .nil) (.cons (.tup (.cons (.tup (.cons (.str "b") (.cons (.int 1) .nil))) .nil)) (.cons (.bl false) .nil)))))))))) (.bin .Mod (.ix (.var 2) (.neg (.int 1))) (.int 9)))) [some (.od,.list (xs.map .int)),some (.al,.int st),some (.fr,.list (cs.map .int)),u3]=.ok (.nx [some (.od,.list (xs.map .int)),some (.al,.int st),some (.fr,.list (cs.map .int)),some (g,dd)]):=by
   have vi:Vv [] [z36,z3g,z55,z51] (.bin .Mod (.ix (.var 2) (.neg (.int 1))) (.int 9)) [some (.od,.list (xs.map .int)),some (.al,.int st),some (.fr,.list (cs.map .int)),u3] (.int ((xs.length:Int)%9)):=z09 (v_ix (z01 rfl) (zrh z04.e).e elast rfl).e z04.e (z20 (by decide)) rfl
   have hg:∃g,z1s (gJ dd .fr,dd)=(g,dd):=by
    have:∀d∈th6,∃g,z1s (gJ d .fr,d)=(g,d):=by intro d hd;simp only[th6,ao,cr,or_false]at hd;rcases hd with rfl|rfl|rfl|rfl|rfl|rfl|rfl|rfl|rfl<;>exact⟨_,rfl⟩
    refine this dd ?_;have h1:=zc8 th6 ((xs.length:Int)%9) .none i0 i1;have h2:Res.ofO (atI th6 ((xs.length:Int)%9))=.ok dd:=hix;rw[h1]at h2;have h3:th6.getD ((xs.length:Int)%9).toNat .none=dd:=by have:=h2;injection this
    rw[<-h3];exact getD_mem i0 i1
   obtain⟨g,hg⟩:=hg;refine⟨g,?_⟩;rw[zd6,E_ix];show((Res.ok (G.fr,PyData.list th6)>>=_)>>=_)=_;rw[Res.ok_bind,vi.1,Res.ok_bind]
   dsimp only
   rw[hix,Res.ok_bind,Res.ok_bind,hg];rfl
  obtain⟨g3,s3⟩:=s3;have vt:Vv [] [z36,z3g,z55,z51] (.call 0 "_law_right" (.cons (.call 2 "_law_texts" (.cons (.var 2) (.cons (.call 3 "_law_names" (.cons (.bin .FloorDiv (.ix (.var 2) (.int 0)) (.int 18)) .nil)) .nil))) .nil)) [some (.od,.list (xs.map .int)),some (.al,.int st),some (.fr,.list (cs.map .int)),u3] (.bool true):=z0s (z00 (z0s (z00 (z01 rfl) (z00 (za8 (z00 (z09 (v_ix (z01 rfl) z04.e (z8g (ns:=cs) (i:=0) (by decide) (by omega)) rfl).e z04.e (z5g (by decide) (by decide)) rfl).e z07) rfl en) z07)) rfl et rfl).e z07) rfl (z9t ht) rfl
  have e5:Ev [] [z36,z3g,z55,z51] (.ix (.lst (.cons (.lst .nil) (.cons .non (.cons (.tup .nil) (.cons (.int 7) .nil))))) (.bin .Mod (.bin .FloorDiv (.var 1) (.int 8)) (.int 4))) [some (.od,.list (xs.map .int)),some (.al,.int st),some (.fr,.list (cs.map .int)),some (g3,dd)] dd2:=by
   have vi:Vv [] [z36,z3g,z55,z51] (.bin .Mod (.bin .FloorDiv (.var 1) (.int 8)) (.int 4)) [some (.od,.list (xs.map .int)),some (.al,.int st),some (.fr,.list (cs.map .int)),some (g3,dd)] (.int (st/8%4)):=z09 (z09 (z01 rfl) z04.e (z5g (by decide) (by decide)) rfl).e z04.e (z20 (by decide)) rfl;refine⟨gJ dd2 .fr,?_⟩;rw[E_ix];show(Res.ok (G.fr,PyData.list th6b)>>=_)=_;rw[Res.ok_bind,vi.1,Res.ok_bind]
   dsimp only
   rw[hix2,Res.ok_bind]
  refine⟨[some (.od,.list (xs.map .int)),some (.al,.int st),u2,u3],_,rfl,z0m s2 (z0v (k:=!true) (z0w (t_tv vt.e rfl)) rfl (z0m s3 (z0v (k:=(!true)||(!true)) (t_or (z0w (t_tv (z0s (z00 (z01 rfl) z07) rfl (zgx hd) rfl).e rfl)) fun _=>z0w (t_tv (z0s (z00 e5 z07) rfl (zgx hd2) rfl).e rfl)) rfl z10))),_,_,_,rfl⟩
 ·rintro ρ ⟨u1,u2,u3,rfl⟩
  have c1:∀{w:Str},w.length<=1000/\bl w<=50->Vv [] [z36,z3g,z55,z51] (.call 0 "_law_right" (.cons (.str w) .nil)) [some (.od,.list (xs.map .int)),u1,u2,u3] (.bool true):=fun h=>z0s (z00 z0e.e z07) rfl (z9t h) rfl;exact q_rt (z0g (d:=.bool true) (v_and (k:=true) (k':=true) (c1 (by decide+kernel)).e fun _=>v_and (k:=true) (k':=true) (c1 (by decide+kernel)).e fun _=>c1 (by decide+kernel))) rfl
end Mk
namespace Mk
open PySem PySem.Spec PyProof.Rows L2 Mi
def top (i:Nat):Stmt:=PySem.Challenge.pw_likebook_k06_read.main.body.getD i (.Pass ⟨0,0,0,0⟩)
abbrev FREE:List Str:=["all","len","isinstance","str","bool","int","tuple","sorted","max","range","enumerate","list","ValueError","min"]
abbrev Rz:List DRow:=[
 ⟨"is_name",top 16,["thing"],["thing"],["all","len","isinstance","str"],[],S_z0,F_z0,.n,[("NO_NAMES",["and","or","not","if","is","some","all","for","against"])]⟩,
 ⟨"is_degree",top 17,["thing"],["thing"],["isinstance","bool","int"],[],S_z1,F_z1,.n,[]⟩,
 ⟨"greatest",top 18,["pairs","found","name","amount"],["pairs"],["tuple","sorted","max"],[],S_z2,F_z2,.n,[]⟩,
 ⟨"pack",top 19,["pairs","name","amount"],["pairs"],[],[2,1,0],S_z3,F_z3,.n,[]⟩,
 ⟨"number_of",top 21,["figures"],["figures"],["int","len","all"],[],S_z4,F_z4,.n,[]⟩,
 ⟨"read_pair",top 22,["word","cut"],["word"],[],[4],S_z5,F_z5,.n,[]⟩,
 ⟨"shown_pair",top 24,["name","amount"],["name","amount"],[],[],S_z6,F_z6,.n,[]⟩,
 ⟨"shown_pack",top 25,["one"],["one"],[],[6],S_z7,F_z7,.n,[]⟩,
 ⟨"read_pack",top 23,["text","one"],["text"],["isinstance","str"],[7,3,5],S_z8,F_z8,.n,[]⟩,
 ⟨"_law_good_name",top 27,["_law_word_here"],["_law_word_here"],[],[],S_z9,F_z9,.n,[]⟩,
 ⟨"_law_free_names",top 28,["_law_cell","_law_letters","_law_names_here","_law_k","_law_many","_law_word_here","_law_j"],["_law_cell"],["range"],[9],zfa,z8f,.n,[]⟩,
 ⟨"_law_names",top 29,["_law_cell","_law_letters","_law_number","_law_many","_law_stem","_law_at","_law_names_here","_law_k","_law_sign","_law_more"],["_law_cell"],["range"],[10],zfr,z51,.n,[]⟩,
 ⟨"_law_is_pack",top 30,["_law_found","_law_due_here","_law_pair"],["_law_found","_law_due_here"],["isinstance","bool","int","tuple"],[],zkd,zgd,.n,[]⟩,
 ⟨"_law_word",top 31,["_law_name","_law_number","_law_kind","_law_more","_law_odd"],["_law_name","_law_number"],["str"],[],zg4,zgr,.n,[]⟩,
 ⟨"_law_texts",top 32,["_law_cells","_law_names_here","_law_words","_law_some","_law_k","_law_cell","_law_number","_law_at","_law_gap","_law_text"],["_law_cells","_law_names_here"],["enumerate","int","sorted","list"],[13],zew,z55,.n,[]⟩,
 ⟨"_law_figures",top 33,["_law_figures_here","_law_sign"],["_law_figures_here"],["int","len"],[],zm5,zbv,.n,[]⟩,
 ⟨"_law_is_name",top 34,["_law_text","_law_sign"],["_law_text"],["len"],[],zly,zd0,.n,[]⟩,
 ⟨"_law_due",top 35,["_law_text","_law_pairs","_law_last","_law_word_here","_law_parts","_law_number"],["_law_text"],["tuple","len"],[16,15],zlq,ze1,.n,[]⟩,
 ⟨"_law_refused",top 36,["_law_text","e","_law_some"],["_law_text"],["isinstance","ValueError"],[8],zjo,z3g,.n,[]⟩,
 ⟨"_law_right",top 37,["_law_text","_law_due_here"],["_law_text"],[],[12,8,18,17],zf3,z36,.n,[]⟩]
abbrev Lr:DRow:=⟨"law",top 38,["_law_script","_law_start","_law_cells","_law_thing"],["_law_script"],["range","min","len"],[19,18,14,11],zm4,zd9,.n,[]⟩
abbrev Xt:List XR:=[⟨"NoPack",[("NoPack",true),("Unknown",false),("Twice",false),("NoRow",false),("NotYours",false),("NoRuling",false),("NotAllowed",false),("Late",false),("NoCourt",false),("TooMuch",false),("NoReason",false),("NoSide",false)],"BookError"⟩]
theorem t_ok:oks (Rz++[Lr]) Xt FREE 0 (Rz++[Lr])=true:=by decide+kernel
theorem t_F:fOks (Rz++[Lr]) (Rz++[Lr]):=⟨rfl,rfl,rfl,rfl,rfl,rfl,rfl,rfl,rfl,rfl,rfl,rfl,rfl,rfl,rfl,rfl,rfl,rfl,rfl,rfl,rfl,trivial⟩
def zLd:ui:=⟨"law",z1o (top 38),z15 (top 38),z0c (top 38),⟨199,0,207,67⟩⟩
theorem zH3:KEq zKz (Rz++[Lr]) FREE Xt:=by
 rw[PySem.W.Fast.tkeq_eq];intro P
 kernel_rfl
theorem zT1:Tp.said PySem.Challenge.rw_likebook_k06_read=true:=by
 rw[PySem.W.Fast.tsaid_eq]
 kernel_rfl
theorem zT2:W.opening zRp=W.plainProg zRp.main.scope.names:=by kernel_rfl
theorem zT3:∀s,fenceModules? zRp s=some s:=fun s=>by kernel_rfl
theorem zT4:W.defOf zQv PySem.Challenge.rw_likebook_k06_read.row.name=some (zLd,[]):=by kernel_rfl
theorem zT5:zRp.theDef PySem.Challenge.rw_likebook_k06_read.row.name=some (zLd.params,zLd.body,zLd.scope):=by kernel_rfl
theorem zT6:W.kwWritten? zLd.params.kwonlyargs zLd.params.kw_defaults=some []:=by kernel_rfl
theorem zT7:(!PySem.Challenge.rw_likebook_k06_read.row.writes||PySem.Challenge.rw_likebook_k06_read.row.records.isEmpty)=true:=by kernel_rfl
theorem zT8:(W.chainsOk zQv&&W.opensWell zRp&&(W.frees PySem.Challenge.rw_likebook_k06_read.row.toRowW&&PySem.Challenge.rw_likebook_k06_read.row.within.isEmpty))=true:=by kernel_rfl
theorem walk {l:W.OpenLaw}{q:bc}{loose:List Str}{XP:(Str->Option Value)->Heap->Prop}{YP:World->Heap->Prop}{d:ui}{K:gc->W.Frag}(hn:l.most=some 63)(hdf:d.params.defaults=[])
  (hY:∀(w:World) (h:Heap),YP w h->(K w.params).In h)
  (F:∀(w:World) (mg:Str->Option Value) (fa:Addr) (h:Heap),(K w.params).In h->h.Ns bv mg->mg d.name=some (.ref fa)->∃fd:fg,(∀(s:aa) (u:Value),ph s fd ⟨[u],[]⟩ [("_law_script",u)])/\∀base:Heap,(K w.params).In base->base.Ns bv mg->FnOk l.prog w (K w.params) mg base CX0 21 fa fd ["_law_script"] (spD (K w.params) 1 zd9)):
  W.WalkO q loose XP YP l.row.toRowW d [] (fun f vs=>PySem.call f vs):=
 L2.walk_of (n:=63) (k:=21) (x:="_law_script") (CX:=fun _=>CX0) (sp:=fun w=>spD (K w.params) 1 zd9) hn (by decide) hdf ⟨rfl,by decide,by decide⟩ hY F (fun _ _ a ns hl _ hS=>⟨_,_,_,rfl,zah hS,zuj hl,fun v H' _ r=>r⟩) fun _ _ _ _ _ z=>z
theorem b_ok:bOks Rz:=⟨fun _ _ _ _ _ _=>by1 fun _=>rfl,fun _ _ _ _ _ _=>by1 fun _=>rfl,fun _ _ _ _ _ _=>by1 fun _=>rfl,fun _ _ _ _ _ _=>by1 fun _=>rfl,fun _ _ _ _ _ _=>by1 fun _=>rfl,fun _ _ _ _ _ _=>by1 fun _=>rfl,fun _ _ _ _ _ _=>by2 fun _ _=>rfl,fun _ _ _ _ _ _=>by1 fun _=>rfl,fun _ _ _ _ _ _=>by1 fun _=>rfl,fun _ _ _ _ _ _=>by1 fun _=>rfl,fun _ _ _ _ _ _=>by1 fun _=>rfl,fun _ _ _ _ _ _=>by1 fun _=>rfl,fun _ _ _ _ _ _=>by2 fun _ _=>rfl,fun _ _ _ _ _ _=>by2 fun _ _=>rfl,fun _ _ _ _ _ _=>by2 fun _ _=>rfl,fun _ _ _ _ _ _=>by1 fun _=>rfl,fun _ _ _ _ _ _=>by1 fun _=>rfl,fun _ _ _ _ _ _=>by1 fun _=>rfl,fun _ _ _ _ _ _=>by1 fun _=>rfl,fun _ _ _ _ _ _=>by1 fun _=>rfl,trivial⟩
end Mk
open PySem PySem.W PyProof.Rows Mi
set_option maxRecDepth 100000 in
set_option maxHeartbeats 0 in
theorem PySem.Challenge.cw_likebook_k06_read_holds : PySem.Challenge.rw_likebook_k06_read.Holds := by
 refine Tp.holds (l:=PySem.Challenge.rw_likebook_k06_read) (q:=Mk.zQv) (d:=Mk.zLd) (K:=Mk.zKz) (M:=100000) (N:=200000) Mk.zT1 (Tp.Ko_as _ _ Mk.zAs) Mk.zT2 rfl Mk.zT3 (by decide) Mk.zH1 Mk.zH2 Mk.zT4 Mk.zT5 Mk.zT6 Mk.zT7 Mk.zT8 ⟨rfl,rfl,rfl,rfl,rfl,by decide+kernel⟩ (by w_witness2) ?_;refine Mk.walk (l:=PySem.Challenge.rw_likebook_k06_read) rfl rfl (fun w h Y=>Y) ?_;intro w mg fa h KX G hmg;exact all_rows (Rs:=Mk.Rz) (lr:=Mk.Lr) (xt:=Mk.Xt) (fr:=Mk.FREE) KX G hmg rfl rfl Mk.t_ok Mk.t_F (zdr (fun r hr=>(z7n Mk.zH3 w.params).1 r (gz _ hr)) Mk.b_ok) ((z7n Mk.zH3 w.params).1 Mk.Lr (bu _ (.head _))) (fun _ _ _ _ _ _ s v=>.of_eq rfl) (z7n Mk.zH3 w.params).2.1 (z7n Mk.zH3 w.params).2.2.1 (fun _=>by decide) (z7n Mk.zH3 w.params).2.2.2
