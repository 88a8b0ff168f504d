import PyProof.Rows.All
import Wide.All
import OpenK.AllK
import Wide.FinOn
import Lean
import PyProof.EqAt
import PyProof.EqKinds
import PyProof.TupleCall
import PySem.Syntax
import PyProof.P3Statements
import PyProof.SliceList
import PyProof.AttrMissSeq
import PyProof.AttrMissHeap
import KE.KDictOf
import KE.KSortTup
import PyProof.DictItemsLoops
import KE.KPairComp
import KE.KItemsList
import PyProof.Draws
import PyProof.ZipIter
import PyProof.EnumMake
import PyProof.WalksEnum
import PyProof.Rows.SetFrom
import PyProof.SetRoads
import Open.Pieces
import OpenK.KWalk
import PyProof.Rows.Walk
import PySem.Challenge.RW_likebook_k82_how_far
noncomputable section
open Array renaming length_toList→db,getD_eq_getD_getElem?→fz,toArray_toList→ml,getElem?_eq_getElem→om,Perm→p8,append_assoc→sv,forIn_toList→t7,size_append→um
open Bool renaming and_eq_true→ba,and_eq_true_iff→bp,false_ne_true→b9,or_eq_true→gc,not_eq_true'→jx,or_eq_true_iff→km,beq_eq_decide_eq→lu,true_and→md,or_false→oy,true_or→pv,or_true→qa,and_self→sj,false_eq_true→tz,eq_false_iff→uf
open Int renaming emod_nonneg→fi,emod_lt_of_pos→fm,toNat_natCast→ja,natCast_nonneg→jt,le_refl→oq
open List renaming length_map→ah,mem_cons_self→ak,map_cons→ao,mem_cons_of_mem→aq,mem_cons→au,size_toArray→aw,mem_append_right→ax,length_append→az,getD_eq_getElem?_getD→a9,getElem?_eq_getElem→bc,getElem?_eq_some_iff→bg,replicate→bj,mem_map→bo,length_cons→bq,mem_singleton→br,all_eq_true→bt,getElem?_set_ne→bv,getElem?_map→bx,mem_of_getElem?→b8,pairwise_cons→cf,nodup_cons→ci,range→cj,getElem?_set_self→ck,length_set→cn,map_append→cq,not_mem_nil→cw,length_replicate→cx,contains_iff_mem→cy,mem_filter→cz,filterMap_cons→dg,lookup_cons→dh,replicate_succ→dm,mem_append→du,all_cons→dw,append_nil→d8,getElem_mem→d9,flatten_cons→eu,map_map→fg,getElem?_replicate→fq,getElem?_append_right→f9,length_range→gb,mem_filterMap→gf,length_take→gg,sum_cons→gj,mem_append_left→gk,append_assoc→gz,filter_eq_nil_iff→ij,nodup_nil→im,getElem?_append_left→ip,getElem?_zip_eq_some→iu,of_mem_zip→iz,find?_cons→i0,getElem?_set→i7,toArray→i9,any_cons→jc,filter_eq_self→jh,length_eq_zero_iff→jl,pairwise_singleton→jo,getElem?_cons_succ→jp,Pairwise→ju,pairwise_map→jy,nodup_append→jz,isEmpty_iff→j6,foldl_cons→ky,forIn_cons→kz,length→lb,getElem?_cons_zero→lf,take_of_length_le→ll,map_inj_left→lq,length_singleton→ls,mem_iff_getElem?→lw,length_drop→l8,getElem?_append→mo,eq_nil_of_length_eq_zero→ms,getElem?_range→m8,mem_range→nv,zip_cons_cons→n8,forIn_nil→n9,getElem?_eq_none_iff→og,drop_eq_getElem_cons→oh,foldl_append→ot,filterMap_cons_none→o5,filterMap_cons_some→o6,filter_cons→o9,mem_flatten→pe,filter_cons_of_pos→pi,filter_cons_of_neg→pj,length_zip→qb,countP_mono_left→qe,getElem?_eq_none→qf,filterMap_append→qg,range_eq_range'→qt,map→qu,Perm→rc,map_congr_left→rh,getElem_of_mem→rq,contains_cons→t8,ext_getElem?→uh,set_set→ut,foldl→vm
open Nat renaming le_refl→am,lt_of_lt_of_le→bw,ne_of_lt→bz,le_trans→b6,lt_irrefl→ce,zero_le→fu,le_add_right→jm,lt_of_le_of_lt→la,le_of_lt→lh,lt_succ_of_lt→lm,lt_succ_self→l9,min_eq_left→mz,min_le_left→m7,ne_of_gt→nh,lt_trans→nk,le_of_not_lt→pd,succ_pos→p7,le_succ→qr,sub_le_sub_right→qw,add_sub_cancel'→rf,le_of_eq→ue,zero_add→ur
open Option renaming map_eq_some_iff→dj,isNone_iff_eq_none→iw,bind_eq_some_iff→jq
open Prod renaming ext→ub,fst→v5,snd→v6
open PyProof.Rows renaming seqObj→da,get?_update_seq→k8,kindOf→l7,size_push'→ma,listUpdate_at→mf,AllBare→m9,subscriptTail_builtinR→pz,listItems_at→p9,envOfC→qk,seqEpoch_at→qp,IntsAre→q8,Constant_none→r6,plain_sorted→ui,entry_sorted→uj,args_sorted1→ul,kind_sorted→uz,keyKind'→vw
open PySem renaming wpAny_bind→aa,Shared→ac,wpAny_pure→af,PyData→av,Program→a8,sizeLine→bh,Around→b7,mainGlobals→cg,wpAny_holding→cr,bootBuiltins→cu,compareOp→df,starEach→dn,sizeLine_eq→dr,SetTable→dz,wpAny_field→eh,FuncData→e7,wpAny_setField_rec→fj,NameKind→f8,codeAny_builtin→ge,wpAny_call_entry→gh,behindInMarks→gi,binaryOp→gm,wpAny_seqItems→gn,PassesOwn→gq,foldedSetIterable→gu,wpAny_callSpecial?_slot→gy,assignEach→g7,letOwnedTupleGo→g8,Params→g9,wpAny_Call_Name_kw→ik,wpAny_passesOwn→iy,wpAny_truthy_bool→i6,wpAny_mono→jb,wpAny_getItem_str_slice→jk,wpAny_rule→jr,wpAny_newObj_type→jw,wpAny_loadPart_at→j0,unbindBehindTheSuite→j5,Operator→kq,Comprehension→kr,wpAny_newList→kt,codeAny→ku,importedModules→k9,sliceBounds→lc,treeTable→lg,backTo→li,codeAny_mono→lj,sysModules→lx,wpAny_execs_cons→ly,swapsWith→l6,plainId_quiet→me,wpAny_onRaise→mh,codeAny_call_builtin→mq,wpAny_execs_nil→mw,rawInt→mx,post_val_or_str→my,holding→nc,wpAny_typeOf→nq,scanBound→nu,wpAny_pyIter_tuple→n4,wpAny_newTuple→n6,relayAll→oa,wpAny_pyIter_list→on,OsState→oo,pyNext→ou,pyIter→ox,wpAny_comprehension_free→oz,GenState→o7,noFill_tuple_add→pc,assign→pp,Keyword→pq,concat_meets→pw,wpAny_isTrue_Compare1→qc,builtinLookup_eq_fast→qd,isTrue→qi,wpAny_loadName_local→qj,sliceRange_one→ql,getAttr?→qo,BindsTo→qx,valueAt→qy,callerA→q9,wpAny_isSubtype_exc→rz,swapsWithSole→se,swappedStores→sf,seq_tuple_add→sg,attributeBase→si,Paired→sr,wpAny_Name→tf,wpAny_load→tm,IsPart→tu,call_meets→tw,wpAny_assign_Name→t9,getItem→ua,seqIndex_neg→uc,slot_list_getitem→ud,wpAny_pyIter_enum→uo,wpAny_storeSet_of→uq,Result→uu,typeOf→uw,keywordEach→ux,seqIndex_of→uy,wpAny_letGo→u0,standAt→vc,builtinsNs→ve,truthy→vf,bindArgs→vg,wpAny_call→vh,typeIs_str→vi,typeIs_int→vj,intItems→vp,checkCount→vq,isInstance→vz,DefRec→v7,relabel→wa
open PySem.Builtin.Dict renaming pairItems→ln,updateFrom→ph
open PySem.Builtin.List renaming listTooLong→jf,listExtendWith→nr
open PySem.Builtin.Slice renaming slicePlaces→iq,sliceAdjust→j7,sliceApplied→nz
open PySem.Builtin.SmallTypes renaming nextOf→cv,ownedTupleIsFree→e8,ownedTupleHandOut→kn
open PySem.Builtin.Str renaming occurrences→dq,strSliceIndices→ig,glued→ug
open PySem.Builtin.Tuple renaming tupleExact→jd
open PySem.Calls renaming Name_function_global→j4,call_function_entry→j8,spliced_cons→ny,loadGlobal_global→o8,evalArgs_plain→qm
open PySem.Heap renaming get?_push_of_some→ae,get?_push_size→ay,lt_size→bn,SameBut→bu,get?_update_self→jv,size_push→n5,get?_update_other→p6,get?_none_of_le→qh,get?_update_ne→rm,NewExcOf→sk
open PySem.Heap.SameBut renaming update→jg
set_option Elab.async false
set_option linter.all false
set_option maxRecDepth 100000
theorem wb {p:Prop} [Decidable p] (h:decide p=true):p:=of_decide_eq_true h
theorem wc {p:Prop} [Decidable p] (h:decide p=false):¬p:=of_decide_eq_false h
theorem we {p:Prop} [Decidable p] (h:p):decide p=true:=decide_eq_true h
theorem wf {p:Prop} [Decidable p] (h:¬p):decide p=false:=decide_eq_false h
theorem wg {α} [BEq α] [LawfulBEq α] {a b:α}(h:(a==b)=true):a=b:=beq_iff_eq.mp h
namespace Tp
open PySem PySem.W PyProof.Rows
def q0:Pos:=⟨0,0,0,0⟩
def an:Option Value:=some (.ref 6)
def ev (p:a8):Env:={scope:=p.main.scope,locals:=mainNs,globals:=mainNs,cells:=[],code:=.ref 13,frame:=some 14}
def cd (p:a8):Code:=.body (behindTheImports p) (ev p)
def grow:List Obj->Nat->BT->BT
 | [],_,t=>t
 |o::l,i,t=>grow l (i+1) (t.ins i o)
def lift (s:ac):SharedT:=⟨grow s.heap.objs.toList 0 .nil,s.heap.objs.size,s.heap.life,s.gens,s.drawn,s.toks,s.os⟩
def pre (p:a8)(H:g9->Heap)(d:Drawn)(k:Nat)(w:World)(os:oo):Option (ac×Thread):=topGo lg p w 11 an 12 ⟨H w.params,#[],d,k,os⟩ (topStub p)
def preS (p:a8)(H:g9->Heap)(d:Drawn)(k:Nat)(w:World)(os:oo):SharedT:=lift (((pre p H d k w os).map v5).getD ⟨H w.params,#[],d,k,os⟩)
def run (p:a8)(H:g9->Heap)(d:Drawn)(k N:Nat)(w:World)(os:oo):Option (Flow×SharedT×Code×Pos):=segRunT lg p w 11 an 1 N (preS p H d k w os) (piecesOf (behindTheImports p) (ev p) (cd p) q0 [topFrame q0])
def PreEq (p:a8)(H:g9->Heap)(d:Drawn)(k:Nat):Prop:=∀(w:World) (os:oo),((H w.params).isNs cg&&(#[]:Array o7).size==0,(H w.params).objs.size,(H w.params).nsMap cg "__annotations__",pre p H d k w os,fun s c=>segRun lg p w 11 an 1 1 s (blockOf (behindTheImports p) (ev p) c q0 [topFrame q0]))=(true,11,an,some ((preS p H d k w os).abs,⟨denote lg (cd p),cd p,q0,[topFrame q0]⟩),fun s c=>some (.next,s,c,q0))
def seen (p q:a8)(R:WRecords)(as:List Addr)(H:g9->Heap)(w:World)(s:SharedT):=(staticsOk (k9 p.main.body) (H w.params) s.abs.heap&&namesBound p s.abs.heap&&gensDone s.abs&&laidKept (H w.params) s.abs.heap,openSeen q [] (k9 p.main.body) (fun s=>xlAt q [] s&&recOk R s) true s.abs,as.map s.abs.heap.get?)
def pick {α:Type}(f:SharedT->α):Flow×SharedT×Code×Pos->Option (Code×α)
 |(.next,s,c,_)=>some (c,f s)
 |_=>none
def RunEq (p q:a8)(R:WRecords)(as:List Addr)(K:g9->List (Addr×Obj))(H:g9->Heap)(d:Drawn)(k N:Nat):Prop:=∀(w:World) (os:oo),(run p H d k N w os).bind (pick (seen p q R as H w))=some (cd p,true,openGood q [],(K w.params).map fun x=>some x.2)
theorem fin_ (tb:String->Option Builtin)(p:a8)(w:World)(n:Nat)(a:Option Value)(s:ac)(c:Code)(ps q:Pos):topRun tb p w n a 2 s ⟨doneF .next,c,ps,[topFrame q]⟩=some s:=by obtain⟨h,g,d,k,os⟩:=s;rfl
theorem left {p q:a8}{R:WRecords}{as:List Addr}{K:g9->List (Addr×Obj)}{M N:Nat}(o:∀w,(fencedOpening lg p w N).map (fun s=>(s.heap,s.gens,s.drawn,s.toks))=some (boot_heap w.params,#[],boot_drawn,boot_toks))(le:12+(1+(M+2))<=N)
  (h1:PreEq p boot_heap boot_drawn boot_toks) (h2:RunEq p q R as K boot_heap boot_drawn boot_toks M):LeftO p q [] (fun s=>xlAt q [] s&&recOk R s) (fun s=>as.map s.heap.get?) (fun w=>(K w.params).map fun x=>some x.2) N:=fun w=>by
 obtain⟨⟨h,gs,d,k,os⟩,e,e'⟩:=dj.mp (o w);have e1:=Prod.mk.inj e';have e2:=Prod.mk.inj e1.2;have e3:=Prod.mk.inj e2.2;obtain rfl:h=boot_heap w.params:=e1.1;obtain rfl:gs=#[]:=e2.1;obtain rfl:d=boot_drawn:=e3.1;obtain rfl:k=boot_toks:=e3.2;have a:=Prod.mk.inj (h1 w os);have a2:=Prod.mk.inj a.2;have a3:=Prod.mk.inj a2.2;have a4:=Prod.mk.inj a3.2;obtain⟨⟨f,s,c,ps⟩,r1,r2⟩:=jq.mp (h2 w os);cases f with
 |next=>
  have b:=Prod.mk.inj (Option.some.inj r2);have b1:=Prod.mk.inj b.2;have b2:=Prod.mk.inj b1.2;obtain rfl:c=cd p:=b.1;have t1:topRun lg p w 11 an (M+2) (preS p boot_heap boot_drawn boot_toks w os).abs (restOf (behindTheImports p++[]) (ev p) (cd p) q0 [topFrame q0])=some s.abs:=piece_app (segRun_of r1) (fin_ lg p w 11 an s.abs (cd p) ps q0);rw[d8]at t1;have t2:=piece_block (congrFun (congrFun a4.2 (preS p boot_heap boot_drawn boot_toks w os).abs) (cd p)) t1;have t3:=go_top a4.1 t2;have t4:=topRun_mono (N-(12+(1+(M+2)))) _ _ _ _ t3;rw[rf le]at t4
  have t:topFrom lg p w N ⟨boot_heap w.params,#[],boot_drawn,boot_toks,os⟩=some s.abs:=by
   unfold topFrom
   dsimp only
   rw[a.1,a2.1,a3.1,t4];show(match staticsOk (k9 p.main.body) (boot_heap w.params) s.abs.heap&&namesBound p s.abs.heap&&gensDone s.abs&&laidKept (boot_heap w.params) s.abs.heap with|true=>some s.abs|false=>none)=_;rw[b1.1]
  unfold openEnds;rw[e];show(topFrom lg p w N _).map _=_;rw[t];exact congrArg some (ub b2.1 b2.2)
 |_=>cases r2
theorem pre_r:PreEq=PreEq:=rfl
def zhd (p q:a8)(R:WRecords)(H:g9->Heap)(w:World)(s:SharedT):=(staticsOk (k9 p.main.body) (H w.params) s.abs.heap&&namesBound p s.abs.heap&&gensDone s.abs&&laidKept (H w.params) s.abs.heap,openSeen q [] (k9 p.main.body) (fun s=>xlAt q [] s&&recOk R s) true s.abs)
def RunA (p q:a8)(R:WRecords)(H:g9->Heap)(d:Drawn)(k N:Nat):Prop:=∀(w:World) (os:oo),(run p H d k N w os).bind (pick (zhd p q R H w))=some (cd p,true,openGood q [])
def RunB (p:a8)(as:List Addr)(K:g9->List (Addr×Obj))(H:g9->Heap)(d:Drawn)(k N:Nat):Prop:=∀(w:World) (os:oo),(run p H d k N w os).bind (pick fun s=>as.map s.abs.heap.get?)=some (cd p,(K w.params).map fun x=>some x.2)
theorem zgq {α β:Type}{f:SharedT->α}{g:SharedT->β}{x:Option (Flow×SharedT×Code×Pos)}{c:Code}{a:α}{b:β}(h1:x.bind (pick f)=some (c,a))(h2:x.bind (pick g)=some (c,b)):x.bind (pick fun s=>(f s,g s))=some (c,a,b):=by
 cases x with
 |none=>cases h1
 |some y=>
  obtain⟨fl,s,c',ps⟩:=y;cases fl with
  |next=>have e1:=Prod.mk.inj (Option.some.inj (show some (c',f s)=some (c,a)from h1));have e2:=Prod.mk.inj (Option.some.inj (show some (c',g s)=some (c,b)from h2));show some (c',f s,g s)=_;rw[e1.1,e1.2,e2.2]
  |_=>cases h1
theorem run_ab {p q:a8}{R:WRecords}{as:List Addr}{K:g9->List (Addr×Obj)}{H:g9->Heap}{d:Drawn}{k N:Nat}(h1:RunA p q R H d k N)(h2:RunB p as K H d k N):RunEq p q R as K H d k N:=fun w os=>by
 have h:=zgq (h1 w os) (h2 w os);cases e:run p H d k N w os with
 |none=>rw[e]at h;cases h
 |some y=>
  rw[e]at h;obtain⟨fl,s,c',ps⟩:=y;cases fl with
  |next=>have e1:=Prod.mk.inj (Option.some.inj (show some (c',(zhd p q R H w s,as.map s.abs.heap.get?))=some (cd p,(true,openGood q []),_)from h));have e2:=Prod.mk.inj e1.2;show some (c',(zhd p q R H w s).1,(zhd p q R H w s).2,as.map s.abs.heap.get?)=_;rw[e1.1,e2.2,e2.1]
  |_=>cases h
theorem runA_r:RunA=RunA:=rfl
theorem runB_r:RunB=RunB:=rfl
end Tp
lay_quick Tp.PreEq Tp.RunA Tp.RunB
name_quick tpre for Tp.PreEq by Tp.pre_r
name_quick truna for Tp.RunA by Tp.runA_r
name_quick trunb for Tp.RunB by Tp.runB_r
namespace Tp
open PySem PySem.W PyProof.Rows
theorem rn_r:run=run:=rfl
end Tp
name_quick trn for Tp.run by Tp.rn_r
namespace Tp
open PySem PySem.W PyProof.Rows
def obj (p:a8)(M:Nat)(P:g9)(a:Addr):Obj:=((PySem.W.Fast.trn p boot_heap boot_drawn boot_toks M ⟨fun _ _=>0,P⟩ default).map fun x=>(x.2.1.tree.get a).getD default).getD default
def Ko (p:a8)(M:Nat)(as:List Addr)(P:g9):Frag:=as.map fun a=>(a,obj p M P a)
theorem Ko_as (p:a8)(M:Nat)(as:List Addr)(P:g9):as=(Ko p M as P).map (·.1):=by unfold Ko;rw[fg];exact(List.map_id _).symm
def said (l:OpenLaw):Bool:=l.wellSaid
theorem said_r:said=said:=rfl
theorem holds {l:OpenLaw}{q:a8}{d:v7}{as:List Addr}{K:g9->Frag}{M N:Nat}(ws:said l=true)(ek:∀P,as=(K P).map (·.1))(o1:opening l.row.prog=plainProg l.row.prog.main.scope.names)(o2:Nat.ble 600 N=true)(o3:∀s,fenceModules? l.row.prog s=some s)(le:12+(1+(M+2))<=N)
  (h1:PreEq l.row.prog boot_heap boot_drawn boot_toks) (h2:RunEq l.row.prog q l.row.records as K boot_heap boot_drawn boot_toks M) (a1:defOf q l.row.name=some (d,[])) (a2:l.row.prog.theDef l.row.name=some (d.params,d.body,d.scope)) (a3:kwWritten? d.params.kwonlyargs d.params.kw_defaults=some []) (a4:(!l.row.writes||l.row.records.isEmpty)=true)
  (a5:(chainsOk q&&opensWell l.row.prog&&(frees l.row.toRowW&&l.row.within.isEmpty))=true) (a6:l.row.prog.bare) (a7:l.row.toRowW.promised) (call:WalkO q [] (XL q []) (InK K) l.row.toRowW d [] fun f vs=>PySem.call f vs):l.Holds:=
 holds_law ws fun z=>holds_open (left (boot_open o1 o2 o3) le h1 h2) (InK.of ek) InK.keeps (fun s e=>xl_of s (bp.mp e).1) XL.keeps a1 a2 a3 (fun s e=>recFacts_of (bp.mp e).2) a4 z a5 a6 a7 call
end Tp
lay_quick Tp.said
name_quick tsaid for Tp.said by Tp.said_r
namespace Mk
open PySem PySem.Spec PyProof.Rows
abbrev zRp:a8:=PySem.Challenge.rw_likebook_k82_how_far.row.prog
def zQv:a8:=W.view zRp [1,2,3,4,5,6,7,8,9,10,11,12,13,15,16,17,18,20,21,22,23,25,27,29,30,31,32,33,34,35,36,37,38,39,40,41,42,43,44,45,46,47,48,49,50,51,52,53,54,55,56,57,58,59,60]
def zAs:List Addr:=cj 476
def zKz:g9->W.Frag:=Tp.Ko zRp 100000 zAs
theorem zH1:Tp.PreEq zRp W.boot_heap W.boot_drawn W.boot_toks:=by
 rw[PySem.W.Fast.tpre_eq];intro w os
 kernel_rfl
theorem zH2a:Tp.RunA zRp zQv PySem.Challenge.rw_likebook_k82_how_far.row.records W.boot_heap W.boot_drawn W.boot_toks 100000:=by
 rw[PySem.W.Fast.truna_eq];intro w os
 kernel_rfl
theorem zH2b:Tp.RunB zRp zAs zKz W.boot_heap W.boot_drawn W.boot_toks 100000:=by
 rw[PySem.W.Fast.trunb_eq];intro w os
 kernel_rfl
theorem zH2:Tp.RunEq zRp zQv PySem.Challenge.rw_likebook_k82_how_far.row.records zAs zKz W.boot_heap W.boot_drawn W.boot_toks 100000:=Tp.run_ab zH2a zH2b
end Mk
namespace L2
open PySem PySem.Spec PyProof.Rows
abbrev Key:=Sum Int Str
def z8s:Key->Value->Bool
 |.inl k,v=>Value.isInt k v
 |.inr x,v=>Value.isStrOf x v
def keyH (w:World):Key->Int
 |.inl k=>hashInt k
 |.inr x=>hashStr w x
theorem z0n:∀{k:Key} {v:Value},z8s k v=true->(∃i t,k=Sum.inl i/\v=Value.int i t)\/(∃x t,k=Sum.inr x/\v=Value.str x t)
 |.inl i,v,h=>by obtain⟨t,e⟩:=Value.isInt_shape (k:=i) (v:=v) h;exact .inl ⟨i,t,rfl,e⟩
 |.inr x,v,h=>by obtain⟨t,e⟩:=Value.isStrOf_shape (x:=x) (v:=v) h;exact .inr ⟨x,t,rfl,e⟩
theorem zdw (i:Int)(t:Tok):z8s (.inl i) (.int i t)=true:=by simp[z8s,Value.isInt]
theorem zdt (x:Str)(t:Tok):z8s (.inr x) (.str x t)=true:=by simp[z8s,Value.isStrOf]
theorem zno (a b:Int):decide ((Sum.inl a:Key)=Sum.inl b)=(a==b):=by
 by_cases e:a=b
 ·subst e;simp
 ·have h:¬(Sum.inl a:Key)=Sum.inl b:=fun q=>e (Sum.inl.inj q);rw[wf h];exact(beq_eq_false_iff_ne.mpr e).symm
theorem zq1 (a b:Str):decide ((Sum.inr a:Key)=Sum.inr b)=decide (a=b):=by
 by_cases e:a=b
 ·subst e;simp
 ·have h:¬(Sum.inr a:Key)=Sum.inr b:=fun q=>e (Sum.inr.inj q);rw[wf h,wf e]
theorem zps (a:Int)(b:Str):decide ((Sum.inl a:Key)=Sum.inr b)=false:=wf (fun q=>nomatch q)
theorem zp1 (a:Str)(b:Int):decide ((Sum.inr a:Key)=Sum.inl b)=false:=wf (fun q=>nomatch q)
def z14 (prog:a8)(w:World):PySem.KeyKind prog w Key where
 is:=z8s
 hash:=keyH w
 inj:=fun v a b ha hb=>by
  rcases z0n ha with⟨i,t,rfl,rfl⟩|⟨x,t,rfl,rfl⟩
  ·rcases z0n hb with⟨j,u,rfl,e⟩|⟨y,u,rfl,e⟩
   ·injection e with e1 _;rw[e1]
   ·exact nomatch e
  ·rcases z0n hb with⟨j,u,rfl,e⟩|⟨y,u,rfl,e⟩
   ·exact nomatch e
   ·injection e with e1 _;rw[e1]
 byValue:=fun k v h=>by rcases z0n h with⟨i,t,rfl,rfl⟩|⟨x,t,rfl,rfl⟩<;>rfl
 pyHash:=fun hv h=>by
  rcases z0n hv with⟨i,t,rfl,rfl⟩|⟨x,t,rfl,rfl⟩
  ·exact wpAny_pyHash_int h
  ·exact wpAny_pyHash_str h
 eqBool:=fun hu hv h=>by
  rcases z0n hu with⟨i,t,rfl,rfl⟩|⟨x,t,rfl,rfl⟩
  ·rcases z0n hv with⟨j,u,rfl,rfl⟩|⟨y,u,rfl,rfl⟩
   ·rw[zno]at h;exact wpAny_eqBool_int h
   ·rw[zps]at h;exact SeqAt.EqAt.int_str i t y u _ _ _ _ h
  ·rcases z0n hv with⟨j,u,rfl,rfl⟩|⟨y,u,rfl,rfl⟩
   ·rw[zp1]at h;exact SeqAt.EqAt.str_int x t j u _ _ _ _ h
   ·rw[zq1]at h;exact wpAny_eqBool_str h
 «strs»:=fun k x t v h=>by
  rcases z0n h with⟨i,u,rfl,e⟩|⟨y,u,rfl,e⟩
  ·exact nomatch e
  ·injection e with e1 _;subst e1;cases v<;>rfl
theorem zb7 (prog:a8)(w:World)(k:Key)(v:Value):(z14 prog w).is k v=z8s k v:=rfl
theorem z8d (prog:a8)(w:World)(i:Int)(t:Tok):(z14 prog w).is (.inl i) (.int i t)=true:=zdw i t
theorem z8q (prog:a8)(w:World)(x:Str)(t:Tok):(z14 prog w).is (.inr x) (.str x t)=true:=zdt x t
inductive V where
 |non|bl (b:Bool)|int (i:Int)|str (x:Str)|ref (a:Addr)|ty (n:String)
 deriving DecidableEq
def RelV:V->Value->Prop
 |.non,u=>u=Value.none
 |.bl b,u=>u=Value.bool b
 |.int i,u=>∃t,u=Value.int i t
 |.str x,u=>∃t,u=Value.str x t
 |.ref a,u=>u=Value.ref a
 |.ty n,u=>u=Value.type n
abbrev Vals:List V->List Value->Prop:=sr RelV
theorem Vals.length {xs:List V}{us:List Value}(r:Vals xs us):xs.length=us.length:=Paired.length r
theorem Vals.get:∀{xs:List V} {us:List Value} {i:Nat} {x:V},Vals xs us->xs[i]?=some x->∃u,us[i]?=some u/\RelV x u
 |_,_,_,_,.nil,e=>by simp at e
 |_,_,0,_,.cons r _,e=>by simp at e;subst e;exact⟨_,rfl,r⟩
 |_,_,i+1,x,.cons _ t,e=>by obtain⟨u,h1,h2⟩:=Vals.get (i:=i) (x:=x) t (by simpa using e);exact⟨u,by simpa using h1,h2⟩
theorem Vals.set {x:V}{u:Value}(r:RelV x u):∀{xs:List V} {us:List Value} (i:Nat),Vals xs us->Vals (xs.set i x) (us.set i u)
 |_,_,_,.nil=>.nil
 |_,_,0,.cons _ t=>.cons r t
 |_,_,i+1,.cons q t=>.cons q (Vals.set r i t)
theorem Vals.append:∀{xs ys:List V} {us ws:List Value},Vals xs us->Vals ys ws->Vals (xs++ys) (us++ws)
 |_,_,_,_,.nil,s=>s
 |_,_,_,_,.cons r t,s=>.cons r (Vals.append t s)
theorem Vals.take:∀{xs:List V} {us:List Value} (n:Nat),Vals xs us->Vals (xs.take n) (us.take n)
 |_,_,0,_=>.nil
 |_,_,_+1,.nil=>.nil
 |_,_,n+1,.cons r t=>.cons r (Vals.take n t)
theorem Vals.drop:∀{xs:List V} {us:List Value} (n:Nat),Vals xs us->Vals (xs.drop n) (us.drop n)
 |_,_,0,r=>r
 |_,_,_+1,.nil=>.nil
 |_,_,n+1,.cons _ t=>Vals.drop n t
theorem Vals.none_of:∀{xs:List V} {us:List Value} {i:Nat},Vals xs us->xs[i]?=none->us[i]?=none:=fun{xs us i} r e=>by have h1:=r.length;have h2:xs.length<=i:=og.mp e;exact og.mpr (by omega)
def RelO:Option V->Option Value->Prop
 |some v,some u=>RelV v u
 |none,none=>True
 |_,_=>False
def KV {κ:Type}:List (κ×V)->List (κ×Value)->Prop:=sr fun(p:κ×V) (q:κ×Value)=>p.1=q.1/\RelV p.2 q.2
def kV:Key->V
 |.inl i=>.int i
 |.inr x=>.str x
inductive HO where
 |lst (xs:List V)
 |tup (xs:List V)
 |dK (kvs:List (Key×V))
 |own (x:Addr)
 |frz (o:Obj) (u:HO)
 |tbl (ps:Array Value)
 |ext (φ:Heap->Prop)
abbrev Hp:=Addr->Option HO
def upd (H:Hp)(a:Addr)(o:HO):Hp:=fun b=>if b=a then some o else H b
theorem z0b {H:Hp}{a:Addr}{o:HO}:upd H a o a=some o:=by unfold upd;rw[if_pos rfl]
theorem z06 {H:Hp}{a b:Addr}{o:HO}(h:b≠a):upd H a o b=H b:=by unfold upd;rw[if_neg h]
theorem z08 {H:Hp}{a b:Addr}{o:HO}(h:H a=some o)(h':H b=none):a≠b:=by intro e;subst e;rw[h]at h';cases h'
def TupN (h:Heap)(a:Addr)(l:Array Value):Prop:=∃n,h.get? a=some {cls:=.type "tuple",data:=.seq l n}
theorem TupN.tup {h:Heap}{a:Addr}{l:Array Value}(x:TupN h a l):IsTup h a l:=let⟨n,q⟩:=x;⟨_,q,rfl,n,rfl⟩
theorem TupN.new (h:Heap)(l:Array Value):TupN (h.push {cls:=.type "tuple",data:=.seq l}) h.objs.size l:=⟨_,ay _ rfl⟩
def zr3 (h:Heap)(a:Addr)(l:Array Value):Prop:=∃o n,h.get? a=some o/\o.cls=.type "tuple"/\o.dict=none/\o.data=.seq l n
section
variable (P:a8)(w:World)
def z0s (H:Hp)(h:Heap)(a:Addr):HO->Prop
 |.lst xs=>xs.length<=bh/\∃(its:List Value) (n:Nat),Vals xs its/\h.get? a=some {cls:=.type "list",data:=.seq its.toArray n}
 |.tup xs=>xs.length<=bh/\∃its:List Value,Vals xs its/\TupN h a its.toArray
 |.dK kvs=>kvs.length<=bh/\(a==lx)=false/\∃vs,KV kvs vs/\h.DictOf (z14 P w) a vs
 |.own _=>∃o,h.get? a=some o
 |.frz o u=>h.get? a=some o/\z0s H h a u
 |.tbl ps=>h.get? a=some {cls:=.none,data:=.fields ps}
 |.ext φ=>φ h/\(∃o,h.get? a=some o)/\∀h1 h2:Heap,φ h1->(∀o,h1.get? a=some o->h2.get? a=some o)->φ h2
def HOk (H:Hp)(h:Heap):Prop:=∀a o,H a=some o->z0s P w H h a o
end
section
variable {P:a8}{w:World}{H H':Hp}{h h':Heap}{a:Addr}{o:HO}
theorem z0s.lt (x:z0s P w H h a o):a<h.objs.size:=by
 cases o with
 |lst xs=>obtain⟨_,_,_,_,e⟩:=x;exact bn e
 |tup xs=>obtain⟨_,_,_,_,q⟩:=x;exact bn q
 |dK kvs=>obtain⟨_,_,_,_,o,_,_,e,_⟩:=x;exact bn e
 |own y=>obtain⟨_,e⟩:=x;exact bn e
 |frz ob u=>obtain⟨e,_⟩:=x;exact bn e
 |tbl ps=>exact bn (show h.get? a=some _ from x)
 |ext φ=>obtain⟨_,⟨_,e⟩,_⟩:=x;exact bn e
theorem z0s.stay (x:z0s P w H h a o)(k:∀b u,(b=a\/H b=some (.own a))->h.get? b=some u->h'.get? b=some u)
  (ho:∀b,H b=some (.own a)->H' b=some (.own a)) (ht:∀b xs,H b=some (.tup xs)->H' b=some (.tup xs)):z0s P w H' h' a o:=by
 induction o with
 |lst xs=>obtain⟨z,its,n,r,e⟩:=x;exact⟨z,its,n,r,k _ _ (.inl rfl) e⟩
 |tup xs=>obtain⟨z,l,r,n,q⟩:=x;exact⟨z,l,r,n,k _ _ (.inl rfl) q⟩
 |dK kvs=>obtain⟨z,y,vs,r,ob,es,ep,e,c⟩:=x;exact⟨z,y,vs,r,ob,es,ep,k _ _ (.inl rfl) e,c⟩
 |own y=>obtain⟨ob,e⟩:=x;exact⟨ob,k _ _ (.inl rfl) e⟩
 |frz ob u ih=>obtain⟨e,q⟩:=x;exact⟨k _ _ (.inl rfl) e,ih q⟩
 |tbl ps=>have e:h.get? a=some {cls:=.none,data:=.fields ps}:=x;show h'.get? a=some {cls:=.none,data:=.fields ps};exact k a _ (.inl rfl) e
 |ext φ=>obtain⟨p,⟨o,e⟩,st⟩:=x;exact⟨st _ _ p fun o q=>k _ _ (.inl rfl) q,⟨o,k _ _ (.inl rfl) e⟩,st⟩
theorem HOk.lt (x:HOk P w H h)(e:H a=some o):a<h.objs.size:=(x a o e).lt
theorem HOk.fresh (x:HOk P w H h)(e:h.objs.size<=a):H a=none:=by
 cases q:H a with
 |none=>rfl
 |some u=>exact absurd (bw (x.lt q) e) (ce _)
theorem HOk.kept (x:HOk P w H h)(k:∀b u,h.get? b=some u->h'.get? b=some u):HOk P w H h':=fun a o e=>(x a o e).stay (fun b u _ q=>k b u q) (fun _ q=>q) fun _ _ q=>q
theorem HOk.laid (x:HOk P w H h)(k:∀b u,h.get? b=some u->h'.get? b=some u)(hp:h.objs.size<=a)(new:z0s P w (upd H a o) h' a o):HOk P w (upd H a o) h':=fun b u e=>by
 have hn:=x.fresh hp;by_cases hb:b=a
 ·subst hb;rw[z0b]at e;cases e;exact new
 ·rw[z06 hb]at e;exact(x b u e).stay (fun c v _ q=>k c v q) (fun c q=>by rw[z06 (z08 q hn)];exact q) fun c xs q=>by rw[z06 (z08 q hn)];exact q
end
def Rd (H:Hp)(a:Addr)(u:HO):Prop:=H a=some u\/∃o,H a=some (.frz o u)
theorem Rd.of {H:Hp}{a:Addr}{u:HO}(h:H a=some u):Rd H a u:=.inl h
theorem Rd.ok {P:a8}{w:World}{H:Hp}{h:Heap}{a:Addr}{u:HO}(r:Rd H a u)(x:HOk P w H h):z0s P w H h a u:=by
 rcases r with r|⟨o,r⟩
 ·exact x a u r
 ·obtain⟨_,q⟩:=x a _ r;exact q
def Mut:Option HO->Prop
 |some (.lst _)=>True
 |some (.dK _)=>True
 |some (.ext _)=>True
 |_=>False
section
variable {P:a8}{w:World}{H:Hp}{h h':Heap}{x e:Addr}{o':HO}
theorem HOk.write (ok:HOk P w H h)(mu:Mut (H x))(he:e=x\/H e=some (.own x))(k:∀b u,b≠e->h.get? b=some u->h'.get? b=some u)(heo:∃u,h'.get? e=some u)
  (new:z0s P w (upd H x o') h' x o'):HOk P w (upd H x o') h':=fun b u q=>by
 have nown:∀c y,H c=some (.own y)->c≠x:=fun c y r z=>by subst z;rw[r]at mu;exact mu
 have ntup:∀c xs,H c=some (.tup xs)->c≠x:=fun c xs r z=>by subst z;rw[r]at mu;exact mu
 by_cases hb:b=x
 ·subst hb;rw[z0b]at q;cases q;exact new
 ·rw[z06 hb]at q;by_cases hbe:b=e
  ·have q':H b=some (.own x):=by
    rcases he with z|z
    ·exact absurd (hbe.trans z) hb
    ·rw[hbe];exact z
   rw[q]at q';cases q';obtain⟨v,hv⟩:=heo;exact⟨v,by rw[hbe];exact hv⟩
  ·refine(ok b u q).stay (fun c v hc r=>k c v ?_ r) (fun c r=>by rw[z06 (nown c b r)];exact r) fun c xs r=>by rw[z06 (ntup c xs r)];exact r
   rcases hc with rfl|hc
   ·exact hbe
   ·rintro rfl
    rcases he with z|z
    ·exact nown c b hc z
    ·rw[hc]at z;cases z;exact hb rfl
end
structure Un (fs ex:List Addr)(H H':Hp)(h h':Heap):Prop where
 keep:∀b o,h.get? b=some o->H b=none->b∉fs->b∉ex->h'.get? b=some o
 slot:∀b o,h.get? b=some o->H b=none->b∈fs->b∉ex->∃sl,h'.get? b=some {o with slots:=sl}
 free:∀b o,h.get? b=some o->H b=none->b∉ex->H' b=none
 there:∀b o,h.get? b=some o->b∉ex->∃o',h'.get? b=some o'
 tups:∀b xs,H b=some (.tup xs)->H' b=some (.tup xs)
 frzs:∀b o u,H b=some (.frz o u)->H' b=some (.frz o u)
 tbls:∀b ps,H b=some (.tbl ps)->∃more,H' b=some (.tbl (ps++more))
section
variable {fs fs' ex ex':List Addr}{H H1 H2:Hp}{h h1 h2 h':Heap}{a x e:Addr}{o:HO}
theorem Un.any (u:Un fs ex H H1 h h1){b:Addr}{ob:Obj}(q:h.get? b=some ob)(n:H b=none)(hx:b∉ex):∃sl,h1.get? b=some {ob with slots:=sl}:=by
 by_cases hb:b∈fs
 ·exact u.slot b ob q n hb hx
 ·exact⟨ob.slots,u.keep b ob q n hb hx⟩
theorem Un.trans (a:Un fs ex H H1 h h1)(b:Un fs ex H1 H2 h1 h2):Un fs ex H H2 h h2 where
 keep:=fun c ob q n hc hx=>b.keep c ob (a.keep c ob q n hc hx) (a.free c ob q n hx) hc hx
 slot:=fun c ob q n hc hx=>by obtain⟨sl,e1⟩:=a.slot c ob q n hc hx;obtain⟨sl',e2⟩:=b.slot c _ e1 (a.free c ob q n hx) hc hx;exact⟨sl',e2⟩
 free:=fun c ob q n hx=>by obtain⟨o',e1⟩:=a.there c ob q hx;exact b.free c o' e1 (a.free c ob q n hx) hx
 there:=fun c ob q hx=>by obtain⟨o',e1⟩:=a.there c ob q hx;exact b.there c o' e1 hx
 tups:=fun c xs q=>b.tups c xs (a.tups c xs q)
 frzs:=fun c ob xs q=>b.frzs c ob xs (a.frzs c ob xs q)
 tbls:=fun c ps q=>by obtain⟨m1,e1⟩:=a.tbls c ps q;obtain⟨m2,e2⟩:=b.tbls c _ e1;exact⟨m1++m2,by rw[e2,sv]⟩
theorem Un.kept (k:∀b u,h.get? b=some u->h'.get? b=some u):Un fs ex H H h h':=⟨fun b ob q _ _ _=>k b ob q,fun b ob q _ _ _=>⟨ob.slots,k b ob q⟩,fun _ _ _ n _=>n,fun b ob q _=>⟨ob,k b ob q⟩,fun _ _ q=>q,fun _ _ _ q=>q,fun _ ps q=>⟨#[],by rw[q];simp⟩⟩
theorem Un.refl:Un fs ex H H h h:=Un.kept fun _ _ q=>q
theorem Un.laid (k:∀b u,h.get? b=some u->h'.get? b=some u)(hp:h.objs.size<=a)(hn:H a=none):Un fs ex H (upd H a o) h h' where
 keep:=fun b u q _ _ _=>k b u q
 slot:=fun b u q _ _ _=>⟨u.slots,k b u q⟩
 free:=fun b u q n _=>by rw[z06 (bz (bw (bn q) hp))];exact n
 there:=fun b u q _=>⟨u,k b u q⟩
 tups:=fun b xs q=>by rw[z06 (z08 q hn)];exact q
 frzs:=fun b u xs q=>by rw[z06 (z08 q hn)];exact q
 tbls:=fun b ps q=>⟨#[],by rw[z06 (z08 q hn),q];simp⟩
theorem Un.write (mu:Mut (H x))(he:e=x\/H e=some (.own x))(k:∀b u,b≠e->h.get? b=some u->h'.get? b=some u)(heo:∃u,h'.get? e=some u):Un fs ex H (upd H x o) h h':=by
 have hx:∀b,H b=none->b≠x:=fun b n z=>by subst z;rw[n]at mu;exact mu
 have hb:∀b,H b=none->b≠e:=fun b n z=>by
  subst z;rcases he with r|r
  ·exact hx b n r
  ·rw[n]at r;cases r
 have hm:∀b u,H b=some u->¬Mut (some u)->b≠x:=fun b u q nm z=>by subst z;rw[q]at mu;exact nm mu
 refine⟨fun b u q n _ _=>k b u (hb b n) q,fun b u q n _ _=>⟨u.slots,k b u (hb b n) q⟩,fun b u q n _=>by rw[z06 (hx b n)];exact n,fun b u q _=>?_,fun b xs q=>by rw[z06 (hm b _ q fun z=>z)];exact q,fun b u xs q=>by rw[z06 (hm b _ q fun z=>z)];exact q,fun b ps q=>⟨#[],by rw[z06 (hm b _ q fun z=>z),q];simp⟩⟩;by_cases hbe:b=e
 ·subst hbe;exact heo
 ·exact⟨u,k b u hbe q⟩
end
def trk (h:Heap)(H:Hp):List Addr:=(cj h.objs.size).filter fun a=>(H a).isSome
def hidT (h:Heap)(H:Hp):Heap:=W.hideAll h (trk h H)
theorem zd6 (h:Heap)(H:Hp):(hidT h H).objs.size=h.objs.size:=W.hideAll_size _ _
theorem zfg {h:Heap}{H:Hp}{b:Addr}{o:Obj}(e:h.get? b=some o)(n:H b=none):(hidT h H).get? b=some o:=W.hideAll_get _ e fun hm=>by have q:(H b).isSome=true:=(cz.mp hm).2;rw[n]at q;simp at q
theorem zm6 {h:Heap}{H:Hp}{b:Addr}{o:Obj}(e:(hidT h H).get? b=some o):h.get? b=some o/\H b=none:=by
 have e':h.get? b=some o:=W.of_hideAll (trk h H) e;refine⟨e',?_⟩;cases q:H b with
 |none=>rfl
 |some x=>have hm:b∈trk h H:=cz.mpr ⟨nv.mpr (bn e'),by simp[q]⟩;have z:(hidT h H).get? b=none:=W.hideAll_none (trk h H) hm;rw[z]at e;cases e
def z4z (g h:Heap)(L:Addr):List (Addr×Obj):=(cj h.objs.size).filterMap fun a=>if a=L\/(g.get? a).isSome=true then none else(h.get? a).map fun o=>(a,o)
theorem z2t {g h:Heap}{L a:Addr}{o:Obj}(h1:a≠L)(h2:g.get? a=none)(h3:h.get? a=some o):(a,o)∈z4z g h L:=gf.mpr ⟨a,nv.mpr (bn h3),by simp[h1,h2,h3]⟩
theorem z52 {g h:Heap}{L:Addr}{p:Addr×Obj}(hp:p∈z4z g h L):p.1≠L/\g.get? p.1=none/\h.get? p.1=some p.2:=by
 obtain⟨b,_,e⟩:=gf.mp hp;split at e
 ·cases e
 ·rename_i hn;cases q:h.get? b with
  |none=>rw[q]at e;simp at e
  |some u=>
   rw[q]at e;simp only[Option.map_some,Option.some.injEq]at e;subst e;refine⟨fun z=>hn (.inl z),?_,q⟩;show g.get? b=none;cases r:g.get? b with
   |none=>rfl
   |some v=>exact(hn (.inr (by simp[r]))).elim
def rest (g h:Heap)(L d:Addr):List (Addr×Obj):=(z4z g h L).filter fun p=>decide (p.1≠d)
theorem zbs {g h:Heap}{L d:Addr}:∀p∈rest g h L d,p.1≠d:=fun p hp=>wb (cz.mp hp).2
theorem zf9 {g h:Heap}{L d a:Addr}{o:Obj}(h1:a≠L)(h2:g.get? a=none)(h3:h.get? a=some o)(h4:a≠d):(a,o)∈rest g h L d:=cz.mpr ⟨z2t h1 h2 h3,we h4⟩
theorem zad {g h:Heap}{L:Addr}:News g L h (z4z g h L):=fun p hp=>let⟨a,b,c⟩:=z52 hp;⟨c,a,b⟩
theorem news_at {g h:Heap}{L d:Addr}{o:Obj}(h1:d≠L)(h2:g.get? d=none)(h3:h.get? d=some o):News g L h ((d,o)::rest g h L d):=fun p hp=>by
 rcases au.mp hp with rfl|hp
 ·exact⟨h3,h1,h2⟩
 ·exact zad p (cz.mp hp).1
theorem z6o {g h h':Heap}{L d:Addr}{m:Str->Option Value}(k:∀b o,g.get? b=some o->h.get? b=some o)(F:Fr g L h' m)(N:News g L h' (rest g h L d)):
  ∀b o,b≠L->b≠d->h.get? b=some o->h'.get? b=some o:=fun b o h1 h2 e=>by
 cases q:g.get? b with
 |some u=>have:=k b u q;rw[e]at this;cases this;exact F.keep b _ q
 |none=>exact(N (b,o) (zf9 h1 q e h2)).1
structure Mod (K:W.Frag)(mg:Str->Option Value)(base:Heap):Prop where
 kin:K.In base
 glob:base.Ns cg mg
 blt:∃mb,base.Ns ve mb/\∀x:Str,x≠"__name__"->mb x=cu x
 nolimit:base.NoLimit
structure Cx where
 prog:a8
 w:World
 K:W.Frag
 mg:Str->Option Value
 base:Heap
 A:b7
 N:List Str
 s₀:ac
 H₀:Hp
 env:Env
 outer:List Env
 stack:List Env
 ex:List Addr
 fn:Str->Bool
 calm:Bool
 pn:List (Addr×Obj)
 xe:Value->ac->Prop
 fx:Option (Str×Value):=none
def frs (l:List Env):List Addr:=l.filterMap (·.frame)
abbrev Cx.fs (X:Cx):List Addr:=frs X.outer
def Vis (sc:Scope)(x:Str):Prop:=sc.names.lookup x=some .local\/sc.names.lookup x=some .cell\/sc.names.lookup x=some .free
def Loc (sc:Scope)(x:Str):Prop:=sc.names.lookup x=some .local\/sc.names.lookup x=some .cell
def Look (env:Env)(h:Heap)(m:Str->Option Value)(x:Str)(u:Value):Prop:=(env.kindOf x=some .local/\m x=some u)\/((env.kindOf x=some .cell\/env.kindOf x=some .free)/\∃c,env.cells.lookup x=some c/\h.IsCell c (some u))
structure Cx.Ok (X:Cx):Prop where
 mod:Mod X.K X.mg X.base
 kind:X.env.scope.kind=.function
 glob:X.env.globals=cg
 blt:X.env.builtins=ve
 above:X.s₀.heap.objs.size<=X.env.locals
 inj:∀x y c,X.env.cells.lookup x=some c->X.env.cells.lookup y=some c->x=y
 has:∀x,(X.env.kindOf x=some .cell\/X.env.kindOf x=some .free)->∃c,X.env.cells.lookup x=some c
 cab:∀x c,X.fn x=true->X.env.cells.lookup x=some c->X.s₀.heap.objs.size<=c
 hd:X.calm=true->X.A.handled=none
 frames:X.A.frames=some X.stack
 stk:X.stack=X.outer\/(X.stack=X.env::X.outer/\X.env.frame=some X.env.locals)
 exf:∀b∈X.ex,b≠X.env.locals/\∀x c,X.env.cells.lookup x=some c->c≠b
 bs:∀b o,X.base.get? b=some o->X.s₀.heap.get? b=some o/\X.H₀ b=none
 bsz:X.base.objs.size<=X.s₀.heap.objs.size
 noex:∀b o,X.base.get? b=some o->b∉X.ex
 exfs:∀b∈X.ex,b∉X.fs
 funs:X.s₀.heap.FunFrames X.base X.outer
 frf:∀b∈X.fs,X.H₀ b=none
 fxN:∀x u,X.fx=some (x,u)->x∉X.N/\X.env.scope.names.lookup x=some .local
structure Inv (X:Cx)(pins:List (Addr×Obj))(σ:List (Option V))(H:Hp)(s:ac):Prop where
 ok:X.Ok
 os:s.os=X.s₀.os
 bare:m9 s.gens
 base:Un X.fs X.ex X.H₀ H X.s₀.heap s.heap
 loc:∃m,s.heap.Ns X.env.locals m/\∀(i:Nat) (x:Str) (v:V),X.N[i]?=some x->σ[i]?=some (some v)->Vis X.env.scope x->∃u,RelV v u/\Look X.env s.heap m x u
 cell:∀x c,X.env.cells.lookup x=some c->∃v,s.heap.IsCell c v
 free:H X.env.locals=none
 freeC:∀x c,X.env.cells.lookup x=some c->H c=none
 pin:∀p∈X.pn++pins,s.heap.get? p.1=some p.2/\H p.1=none/\p.1≠X.env.locals/\p.1∉X.fs/\∀v,p.2.data≠.cell v
 hok:HOk X.prog X.w H s.heap
 len:σ.length=X.N.length
 fx:∀x u,X.fx=some (x,u)->∃m,s.heap.Ns X.env.locals m/\m x=some u
section
variable {X:Cx}{pins:List (Addr×Obj)}{σ:List (Option V)}{H H':Hp}{s:ac}{h':Heap}
theorem Cx.Ok.nofr (ok:X.Ok){b:Addr}{o:Obj}(e:X.base.get? b=some o):b∉X.fs:=fun hb=>by have:=(ok.funs.mem hb).1;rw[e]at this;cases this
theorem Inv.bs (I:Inv X pins σ H s):∀b o,X.base.get? b=some o->s.heap.get? b=some o/\H b=none:=fun b o e=>⟨I.base.keep b o (I.ok.bs b o e).1 (I.ok.bs b o e).2 (I.ok.nofr e) (I.ok.noex b o e),I.base.free b o (I.ok.bs b o e).1 (I.ok.bs b o e).2 (I.ok.noex b o e)⟩
theorem Inv.bk (I:Inv X pins σ H s):∀b o,X.base.get? b=some o->s.heap.get? b=some o:=fun b o e=>(I.bs b o e).1
theorem Inv.mod (I:Inv X pins σ H s):Mod X.K X.mg X.base:=I.ok.mod
theorem Inv.kIn (I:Inv X pins σ H s):X.K.In s.heap:=I.ok.mod.kin.keeps I.bk
theorem Inv.fr (I:Inv X pins σ H s):∃m,Fr X.base X.env.locals s.heap m:=
 let⟨m,hn,_⟩:=I.loc
 ⟨m,hn,I.bk,b6 I.ok.bsz I.ok.above⟩
theorem Inv.lt (I:Inv X pins σ H s):X.env.locals<s.heap.objs.size:=let⟨_,hn,_⟩:=I.loc;hn.lt
theorem Inv.sz (I:Inv X pins σ H s):X.s₀.heap.objs.size<=s.heap.objs.size:=b6 I.ok.above (lh I.lt)
theorem Inv.nofs (I:Inv X pins σ H s){a:Addr}(h:s.heap.objs.size<=a):a∉X.fs:=fun hb=>by obtain⟨_,o,ho,_⟩:=I.ok.funs.mem hb;exact absurd (bw (bn ho) (b6 I.sz h)) (ce _)
theorem Inv.cne (I:Inv X pins σ H s):∀x c,X.env.cells.lookup x=some c->c≠X.env.locals:=fun x c e z=>by obtain⟨v,o,ho,hd⟩:=I.cell x c e;obtain⟨m,⟨o',es,ep,ho',hd',_⟩,_⟩:=I.loc;rw[z,ho']at ho;cases ho;rw[hd']at hd;cases hd
theorem Inv.funs (I:Inv X pins σ H s):s.heap.FunFrames X.base X.outer:=by
 have all:∀(l:List Env),(∀b∈frs l,b∈X.fs)->X.s₀.heap.FunFrames X.base l->s.heap.FunFrames X.base l:=by
  intro l
  induction l with
  |nil=>intro _ _;trivial
  |cons env r ih=>intro hs hl;obtain⟨hk,⟨L,o,hf,hn,ho,hd⟩,hr⟩:=hl;have hL:L∈X.fs:=hs L (by unfold frs;rw[dg,hf];exact ak);obtain⟨sl,e⟩:=I.base.slot L o ho (I.ok.frf L hL) hL fun z=>I.ok.exfs L z hL;exact⟨hk,⟨L,_,hf,hn,e,hd⟩,ih (fun b hb=>hs b (by unfold frs;rw[dg,hf];exact aq _ hb)) hr⟩
 exact all X.outer (fun _ hb=>hb) I.ok.funs
theorem Inv.stack (I:Inv X pins σ H s):s.heap.FunFrames X.base X.stack:=by
 rcases I.ok.stk with e|⟨e,hf⟩
 ·rw[e];exact I.funs
 ·rw[e];obtain⟨m,hn,_⟩:=I.loc;refine .cons (by rw[I.ok.kind];decide) hf hn ?_ I.funs;exact qh (b6 I.ok.bsz I.ok.above)
theorem Inv.stkSub (I:Inv X pins σ H s):∀b∈frs X.stack,b∈X.env.locals::X.fs:=fun b hb=>by
 rcases I.ok.stk with e|⟨e,hf⟩
 ·rw[e]at hb;exact aq _ hb
 ·rw[e]at hb;unfold frs at hb;rw[dg,hf]at hb;exact hb
theorem Inv.stkFree (I:Inv X pins σ H s):∀b∈frs X.stack,H b=none:=fun b hb=>by
 rcases au.mp (I.stkSub b hb)with e|hb
 ·rw[e];exact I.free
 ·obtain⟨_,o,ho,_⟩:=I.ok.funs.mem hb;exact I.base.free b o ho (I.ok.frf b hb) fun z=>I.ok.exfs b z hb
theorem Inv.step {g':Array o7}{t':Nat}{d':Drawn}{ch:List Addr}(I:Inv X pins σ H s)
  (hch:∀b∈ch,(b∈X.ex\/X.s₀.heap.objs.size<=b)/\b≠X.env.locals/\(∀x c,X.env.cells.lookup x=some c->c≠b)/\∀p∈X.pn++pins,p.1≠b)
  (keep:∀b o,b≠X.env.locals->b∉X.fs->b∉ch->s.heap.get? b=some o->H b=none->h'.get? b=some o)
  (slot:∀b o,b≠X.env.locals->b∈X.fs->b∉ch->s.heap.get? b=some o->H b=none->∃sl,h'.get? b=some {o with slots:=sl}) (free:∀b o,b∉ch->s.heap.get? b=some o->H b=none->H' b=none)
  (there:∀b o,b∉ch->s.heap.get? b=some o->∃o',h'.get? b=some o')
  (tups:∀b xs,H b=some (.tup xs)->H' b=some (.tup xs)) (frzs:∀b o u,H b=some (.frz o u)->H' b=some (.frz o u)) (tbls:∀b ps,H b=some (.tbl ps)->∃more,H' b=some (.tbl (ps++more)))
  (ns:∀m,s.heap.Ns X.env.locals m->h'.Ns X.env.locals m) (hok:HOk X.prog X.w H' h') (hg:m9 g'):
  Inv X pins σ H' {s with heap:=h',gens:=g',drawn:=d',toks:=t'}:=by
 have neL:∀b o,X.s₀.heap.get? b=some o->b≠X.env.locals:=fun b o e=>bz (bw (bn e) I.ok.above)
 have neC:∀b o,X.s₀.heap.get? b=some o->b∉X.ex->b∉ch:=fun b o e hx hb=>by
  rcases(hch b hb).1 with z|z
  ·exact hx z
  ·exact absurd (bw (bn e) z) (ce _)
 have cellK:∀x c,X.env.cells.lookup x=some c->∀v,s.heap.IsCell c v->h'.IsCell c v:=fun x c e v ⟨o,ho,hd⟩=>by
  have nch:c∉ch:=fun z=>(hch c z).2.2.1 x c e rfl;by_cases hc:c∈X.fs
  ·obtain⟨sl,q⟩:=slot c o (I.cne x c e) hc nch ho (I.freeC x c e);exact⟨_,q,hd⟩
  ·exact⟨o,keep c o (I.cne x c e) hc nch ho (I.freeC x c e),hd⟩
 refine⟨I.ok,I.os,hg,⟨fun b o e n hb hx=>?_,fun b o e n hb hx=>?_,fun b o e n hx=>?_,fun b o e hx=>?_,fun b xs e=>tups b xs (I.base.tups b xs e),fun b o xs e=>frzs b o xs (I.base.frzs b o xs e),fun b ps e=>?_⟩,?_,fun x c e=>?_,?_,fun x c e=>?_,fun p hp=>?_,hok,I.len,fun x u e=>let⟨m,hn,q⟩:=I.fx x u e;⟨m,ns m hn,q⟩⟩
 ·exact keep b o (neL b o e) hb (neC b o e hx) (I.base.keep b o e n hb hx) (I.base.free b o e n hx)
 ·obtain⟨sl,e1⟩:=I.base.slot b o e n hb hx;obtain⟨sl',e2⟩:=slot b _ (neL b o e) hb (neC b o e hx) e1 (I.base.free b o e n hx);exact⟨sl',e2⟩
 ·obtain⟨o',e1⟩:=I.base.there b o e hx;exact free b o' (neC b o e hx) e1 (I.base.free b o e n hx)
 ·obtain⟨o',e1⟩:=I.base.there b o e hx;exact there b o' (neC b o e hx) e1
 ·obtain⟨m1,e1⟩:=I.base.tbls b ps e;obtain⟨m2,e2⟩:=tbls b _ e1;exact⟨m1++m2,by rw[e2,sv]⟩
 ·obtain⟨m,hn,hl⟩:=I.loc;refine⟨m,ns m hn,fun i x v e1 e2 e3=>?_⟩;obtain⟨u,r,l⟩:=hl i x v e1 e2 e3;refine⟨u,r,?_⟩;rcases l with l|⟨k,c,e,z⟩
  ·exact .inl l
  ·exact .inr ⟨k,c,e,cellK x c e _ z⟩
 ·obtain⟨v,z⟩:=I.cell x c e;exact⟨v,cellK x c e v z⟩
 ·obtain⟨m,⟨o,_,_,ho,_⟩,_⟩:=I.loc;exact free _ o (fun z=>(hch _ z).2.1 rfl) ho I.free
 ·obtain⟨v,o,ho,hd⟩:=I.cell x c e;exact free c o (fun z=>(hch c z).2.2.1 x c e rfl) ho (I.freeC x c e)
 ·obtain⟨e,n,ne,nf,d⟩:=I.pin p hp;have nch:p.1∉ch:=fun z=>(hch p.1 z).2.2.2 p hp rfl;exact⟨keep p.1 p.2 ne nf nch e n,free p.1 p.2 nch e n,ne,nf,d⟩
theorem Inv.un {t':Nat}(I:Inv X pins σ H s)(u:Un X.fs [] H H' s.heap h')(hok:HOk X.prog X.w H' h'):Inv X pins σ H' {s with heap:=h',toks:=t'}:=by obtain⟨m,⟨o,es,ep,ho,r⟩,_⟩:=id I.loc;obtain⟨sl,hL⟩:=u.any ho I.free (by simp);exact I.step (g':=s.gens) (d':=s.drawn) (ch:=[]) (fun _ z=>nomatch z) (fun b o _ hb _ e n=>u.keep b o e n hb (by simp)) (fun b o _ hb _ e n=>u.slot b o e n hb (by simp)) (fun b o _ e n=>u.free b o e n (by simp)) (fun b o _ e=>u.there b o e (by simp)) u.tups u.frzs u.tbls (fun m' hm=>by obtain⟨o',es',ep',ho',r'⟩:=hm;rw[ho]at ho';cases ho';exact⟨_,es',ep',hL,r'⟩) hok I.bare
theorem Inv.call {g':Array o7}{t':Nat}{d':Drawn}{ch:List Addr}(I:Inv X pins σ H s)(u:Un (frs X.stack) ch H H' s.heap h')(hok:HOk X.prog X.w H' h')(hg:m9 g')
  (hch:∀b∈ch,(b∈X.ex\/X.s₀.heap.objs.size<=b)/\b≠X.env.locals/\(∀x c,X.env.cells.lookup x=some c->c≠b)/\∀p∈X.pn++pins,p.1≠b):
  Inv X pins σ H' {s with heap:=h',gens:=g',drawn:=d',toks:=t'}:=by
 obtain⟨m,⟨o,es,ep,ho,r⟩,_⟩:=id I.loc;obtain⟨sl,hL⟩:=u.any ho I.free fun z=>(hch _ z).2.1 rfl;exact I.step (ch:=ch) hch (fun b o hL hb hc e n=>u.keep b o e n (fun z=>(au.mp (I.stkSub b z)).elim hL hb) hc) (fun b o _ _ hc e n=>u.any e n hc) (fun b o hc e n=>u.free b o e n hc) (fun b o hc e=>u.there b o e hc) u.tups u.frzs u.tbls (fun m' hm=>by obtain⟨o',es',ep',ho',r'⟩:=hm;rw[ho]at ho';cases ho';exact⟨_,es',ep',hL,r'⟩) hok hg
theorem Inv.turned {t':Nat}{it:Addr}(I:Inv X pins σ H s)(k:∀b o,b≠it->s.heap.get? b=some o->h'.get? b=some o)(hn:H it=none)(hL:it≠X.env.locals)
  (h1:it∈X.ex\/X.s₀.heap.objs.size<=it) (h2:∀x c,X.env.cells.lookup x=some c->c≠it) (h3:∀p∈X.pn++pins,p.1≠it):Inv X pins σ H {s with heap:=h',toks:=t'}:=by
 have nit:∀b u,H b=some u->b≠it:=fun b u e z=>by rw[z,hn]at e;cases e
 refine I.step (g':=s.gens) (d':=s.drawn) (ch:=[it]) (fun b hb=>?_) (fun b o _ _ hc e _=>k b o (fun z=>hc (by simp[z])) e) (fun b o _ _ hc e _=>⟨o.slots,k b o (fun z=>hc (by simp[z])) e⟩) (fun _ _ _ _ n=>n) (fun b o hc e=>⟨o,k b o (fun z=>hc (by simp[z])) e⟩) (fun _ _ e=>e) (fun _ _ _ e=>e) (fun b ps e=>⟨#[],by rw[e];simp⟩) (fun m hm=>?_) (fun b u e=>?_) I.bare
 ·have e:b=it:=by simpa using hb
  subst e;exact⟨h1,hL,h2,h3⟩
 ·obtain⟨o,es,ep,ho,r⟩:=hm;exact⟨o,es,ep,k _ o (Ne.symm hL) ho,r⟩
 ·refine(I.hok b u e).stay (fun c v hc q=>k c v ?_ q) (fun _ q=>q) fun _ _ q=>q;rcases hc with z|z
  ·rw[z];exact nit b u e
  ·exact nit c _ z
theorem Inv.tok (I:Inv X pins σ H s)(t:Nat):Inv X pins σ H {s with toks:=t}:=I.un (h':=s.heap) (t':=t) Un.refl I.hok
theorem Inv.kept {t':Nat}(I:Inv X pins σ H s)(k:∀b u,s.heap.get? b=some u->h'.get? b=some u):Inv X pins σ H {s with heap:=h',toks:=t'}:=I.un (Un.kept k) (I.hok.kept k)
theorem Inv.laid {a:Addr}{o:HO}{t':Nat}(I:Inv X pins σ H s)(k:∀b u,s.heap.get? b=some u->h'.get? b=some u)(hp:s.heap.objs.size<=a)(new:z0s X.prog X.w (upd H a o) h' a o): Inv X pins σ (upd H a o) {s with heap:=h',toks:=t'}:=I.un (Un.laid k hp (I.hok.fresh hp)) (I.hok.laid k hp new)
theorem Inv.write {x e:Addr}{o:HO}{t':Nat}(I:Inv X pins σ H s)(mu:Mut (H x))(he:e=x\/H e=some (.own x))(k:∀b u,b≠e->s.heap.get? b=some u->h'.get? b=some u)(heo:∃u,h'.get? e=some u) (new:z0s X.prog X.w (upd H x o) h' x o):Inv X pins σ (upd H x o) {s with heap:=h',toks:=t'}:=I.un (Un.write mu he k heo) (I.hok.write mu he k heo new)
theorem Inv.weak {σ':List (Option V)}(I:Inv X pins σ H s)(hl:σ'.length=σ.length)(w:∀(i:Nat) v,σ'[i]?=some (some v)->σ[i]?=some (some v)):Inv X pins σ' H s:=⟨I.ok,I.os,I.bare,I.base,let⟨m,hn,hl'⟩:=I.loc;⟨m,hn,fun i x v e1 e2 e3=>hl' i x v e1 (w i v e2) e3⟩,I.cell,I.free,I.freeC,I.pin,I.hok,hl.trans I.len,I.fx⟩
theorem Inv.pins_of {pins':List (Addr×Obj)}(I:Inv X pins σ H s)(h:∀p∈pins',s.heap.get? p.1=some p.2/\H p.1=none/\p.1≠X.env.locals/\p.1∉X.fs/\∀v,p.2.data≠.cell v):Inv X pins' σ H s:=⟨I.ok,I.os,I.bare,I.base,I.loc,I.cell,I.free,I.freeC,fun p hp=>(du.mp hp).elim (fun z=>I.pin p (gk _ z)) (h p),I.hok,I.len,I.fx⟩
theorem zp3 {h:Heap}{a:Addr}{m m':Str->Option Value}(x:h.Ns a m)(y:h.Ns a m')(n:Str):m n=m' n:=by obtain⟨o,es,ep,e,d,_,f⟩:=x;obtain⟨o',es',ep',e',d',_,f'⟩:=y;rw[e]at e';cases e';rw[d]at d';cases d';rw[<-f n,f' n]
theorem z35 {N:List Str}(hN:N.Nodup){i j:Nat}{x:Str}(a:N[i]?=some x)(b:N[j]?=some x):i=j:=by obtain⟨h1,e1⟩:=bg.mp a;obtain⟨h2,e2⟩:=bg.mp b;exact(List.getElem_inj hN).mp (e1.trans e2.symm)
theorem z4e {M:Model}{A:b7}{E:Value->ac->Prop}{i:Nat}{x:Str}{v:V}{u:Value}{Q:Unit->ac->Prop}(I:Inv X pins σ H s)(hN:X.N.Nodup)(hi:X.N[i]?=some x)(hx:Loc X.env.scope x)(r:RelV v u)
  (h:∀s',Inv X pins (σ.set i (some v)) H s'->(∃a,bu a s.heap s'.heap/\(a=X.env.locals\/X.env.cells.lookup x=some a))->Q () s') (hf:X.fn x=true\/X.env.scope.names.lookup x=some .local:=by first|exact .inl rfl|exact .inr rfl|assumption):wpAny M A (storeName X.env x u) Q E s:=by
 obtain⟨m,hn,hl⟩:=id I.loc;have hcls:(X.env.scope.kind==.class||(X.env.scope.kind==.module&&X.env.locals != X.env.globals))=false:=by rw[I.ok.kind];rfl
 have hiσ:i<σ.length:=by rw[I.len];exact(bg.mp hi).1
 have cne:=I.cne
 have tracked:∀{a:Addr} {h':Heap},(∃o,s.heap.get? a=some o/\H a=none)->bu a s.heap h'->HOk X.prog X.w H h':=fun{a h'} ha hs b ob e=>by
  obtain⟨_,_,hfree⟩:=ha;refine(I.hok b ob e).stay (fun c w' hc q=>(hs.2 c ?_).trans q) (fun _ q=>q) fun _ _ q=>q
  rintro rfl
  rcases hc with rfl|hc
  ·rw[hfree]at e;cases e
  ·rw[hfree]at hc;cases hc
 rcases hx with hk|hk
 ·refine wpAny_storeName_local hk hn (fun h' hn' hs=>?_) hcls;obtain⟨oL,_,_,hoL,_⟩:=id hn;refine h _ ⟨I.ok,I.os,I.bare,⟨fun b o e n hb hx=>?_,fun b o e n hb hx=>?_,I.base.free,fun b o e hx=>?_,I.base.tups,I.base.frzs,I.base.tbls⟩,⟨_,hn',fun j y v' e1 e2 e3=>?_⟩,fun y c e=>?_,I.free,I.freeC,fun p hp=>?_,tracked ⟨oL,hoL,I.free⟩ hs,by simpa using I.len,fun y u e=>by obtain⟨m',hn2,q⟩:=I.fx y u e;refine⟨_,hn',?_⟩;have hy:y≠x:=fun z=>(I.ok.fxN y u e).1 (z▸b8 hi);have:=zp3 hn hn2 y;simp[hy,this,q]⟩ ⟨_,hs,.inl rfl⟩
  ·exact(hs.2 b (bz (bw (bn e) I.ok.above))).trans (I.base.keep b o e n hb hx)
  ·obtain⟨sl,e1⟩:=I.base.slot b o e n hb hx;exact⟨sl,(hs.2 b (bz (bw (bn e) I.ok.above))).trans e1⟩
  ·obtain⟨o',e1⟩:=I.base.there b o e hx;exact⟨o',(hs.2 b (bz (bw (bn e) I.ok.above))).trans e1⟩
  ·by_cases hj:j=i
   ·subst hj;rw[hi]at e1;cases e1;rw[ck hiσ]at e2;cases e2;exact⟨u,r,.inl ⟨hk,by simp⟩⟩
   ·rw[bv (Ne.symm hj)]at e2;obtain⟨u',r',q⟩:=hl j y v' e1 e2 e3;refine⟨u',r',?_⟩;rcases q with⟨k,e⟩|⟨k,c,e,z⟩
    ·refine .inl ⟨k,?_⟩;have:y≠x:=fun e=>hj (z35 hN e1 (e▸hi));simp[this,e]
    ·exact .inr ⟨k,c,e,z.sameBut hs (cne y c e)⟩
  ·obtain⟨w',z⟩:=I.cell y c e;exact⟨w',z.sameBut hs (cne y c e)⟩
  ·obtain⟨e,n,ne,nf,d⟩:=I.pin p hp;exact⟨(hs.2 p.1 ne).trans e,n,ne,nf,d⟩
 ·have hfn:X.fn x=true:=by
   rcases hf with z|z
   ·exact z
   ·rw[z]at hk;cases hk
  obtain⟨c,hc⟩:=I.ok.has x (.inl hk);obtain⟨w',z⟩:=I.cell x c hc;refine wpAny_storeName_cell I.ok.kind hk hc z (fun h' hc' hs=>?_);obtain⟨oc,hoc,hocd⟩:=id z;refine h {s with heap:=h'} ⟨I.ok,I.os,I.bare,⟨fun b o e n hb hx=>?_,fun b o e n hb hx=>?_,I.base.free,fun b o e hx=>?_,I.base.tups,I.base.frzs,I.base.tbls⟩,⟨m,hn.sameBut hs (Ne.symm (cne x c hc)),fun j y v' e1 e2 e3=>?_⟩,fun y c' e=>?_,I.free,I.freeC,fun p hp=>?_,tracked ⟨oc,hoc,I.freeC x c hc⟩ hs,by simpa using I.len,fun y u e=>let⟨m',hn2,q⟩:=I.fx y u e;⟨m',hn2.sameBut hs (Ne.symm (cne x c hc)),q⟩⟩ ⟨c,hs,.inr hc⟩
  ·exact(hs.2 b (bz (bw (bn e) (I.ok.cab x c hfn hc)))).trans (I.base.keep b o e n hb hx)
  ·obtain⟨sl,e1⟩:=I.base.slot b o e n hb hx;exact⟨sl,(hs.2 b (bz (bw (bn e) (I.ok.cab x c hfn hc)))).trans e1⟩
  ·obtain⟨o',e1⟩:=I.base.there b o e hx;exact⟨o',(hs.2 b (bz (bw (bn e) (I.ok.cab x c hfn hc)))).trans e1⟩
  ·by_cases hj:j=i
   ·subst hj;rw[hi]at e1;cases e1;rw[ck hiσ]at e2;cases e2;exact⟨u,r,.inr ⟨.inl hk,c,hc,hc'⟩⟩
   ·rw[bv (Ne.symm hj)]at e2;obtain⟨u',r',q⟩:=hl j y v' e1 e2 e3;refine⟨u',r',?_⟩;rcases q with q|⟨k,c',e,z'⟩
    ·exact .inl q
    ·refine .inr ⟨k,c',e,z'.sameBut hs ?_⟩
     rintro rfl
     exact hj (z35 hN e1 (I.ok.inj _ _ _ e hc▸hi))
  ·by_cases hcc:c'=c
   ·subst hcc;exact⟨_,hc'⟩
   ·obtain⟨w2,z2⟩:=I.cell y c' e;exact⟨w2,z2.sameBut hs hcc⟩
  ·obtain⟨e,n,ne,nf,d⟩:=I.pin p hp;refine⟨(hs.2 p.1 ?_).trans e,n,ne,nf,d⟩;intro q;rw[q,hoc]at e;have q':oc=p.2:=Option.some.inj e;exact d w' (by rw[<-q'];exact hocd)
theorem z6h {M:Model}{A:b7}{E:Value->ac->Prop}{i:Nat}{x:Str}{v:V}{u:Value}{Q:Unit->ac->Prop}(I:Inv X pins σ H s)(hN:X.N.Nodup)(hi:X.N[i]?=some x)(hx:Loc X.env.scope x)(r:RelV v u)
  (h:∀s',Inv X pins (σ.set i (some v)) H s'->Q () s') (hf:X.fn x=true\/X.env.scope.names.lookup x=some .local:=by first|exact .inl rfl|exact .inr rfl|assumption):wpAny M A (storeName X.env x u) Q E s:=
 z4e I hN hi hx r (fun s' I' _=>h s' I') hf
theorem Inv.call' {s':ac}{ch:List Addr}(I:Inv X pins σ H s)(ho:s'.os=s.os)(u:Un (frs X.stack) ch H H' s.heap s'.heap)(hok:HOk X.prog X.w H' s'.heap)(hg:m9 s'.gens)
  (hch:∀b∈ch,(b∈X.ex\/X.s₀.heap.objs.size<=b)/\b≠X.env.locals/\(∀x c,X.env.cells.lookup x=some c->c≠b)/\∀p∈X.pn++pins,p.1≠b):Inv X pins σ H' s':=by
 obtain⟨h',g',d',t',o'⟩:=s';have e:o'=s.os:=ho;subst e;exact I.call (g':=g') (t':=t') (d':=d') u hok hg hch
end
abbrev XK:=Value->Option Addr->Hp->Prop
abbrev St:=List (Option V)
abbrev VK:=V->Hp->Prop
abbrev TE:=St->Hp->VK->Prop
abbrev TT:=St->Hp->(Bool->Hp->Prop)->Prop
abbrev TA:=St->Hp->(List V->Hp->Prop)->Prop
structure Ends where
 nx:St->Hp->Prop
 rt:VK
 bk:St->Hp->Prop:=fun _ _=>False
 ct:St->Hp->Prop:=fun _ _=>False
abbrev TS:=Ends->St->Hp->Prop
def EP (X:Cx)(pins:List (Addr×Obj))(σ:St)(Q:VK)(u:Value)(s':ac):Prop:=∃v H',Inv X pins σ H' s'/\RelV v u/\Q v H'
def TP (X:Cx)(pins:List (Addr×Obj))(σ:St)(Q:Bool->Hp->Prop)(b:Bool)(s':ac):Prop:=∃H',Inv X pins σ H' s'/\Q b H'
def AP (X:Cx)(pins:List (Addr×Obj))(σ:St)(Q:List V->Hp->Prop)(us:List Value)(s':ac):Prop:=∃vs H',Inv X pins σ H' s'/\Vals vs us/\Q vs H'
def SP (X:Cx)(pins:List (Addr×Obj))(D:Ends)(f:Flow)(s':ac):Prop:=
 match f with
 |.next=>∃σ' H',Inv X pins σ' H' s'/\D.nx σ' H'
 |.brk=>∃σ' H',Inv X pins σ' H' s'/\D.bk σ' H'
 |.cont=>∃σ' H',Inv X pins σ' H' s'/\D.ct σ' H'
 |.ret u=>∃v σ' H',Inv X pins σ' H' s'/\RelV v u/\D.rt v H'
def PE (X:Cx)(e:Expr)(t:TE):Prop:=∀(pins:List (Addr×Obj)) (s:ac) (σ:St) (H:Hp) (Q:VK),Inv X pins σ H s->t σ H Q->wpAny (model X.prog X.w) X.A (eval e X.env) (EP X pins σ Q) X.xe s
def PT (X:Cx)(e:Expr)(t:TT):Prop:=∀(pins:List (Addr×Obj)) (s:ac) (σ:St) (H:Hp) (Q:Bool->Hp->Prop),Inv X pins σ H s->t σ H Q->wpAny (model X.prog X.w) X.A (qi e X.env (eval e X.env)) (TP X pins σ Q) X.xe s
def PW (X:Cx)(e:Expr)(t:TT):Prop:=∀(whole:Sem Value) (pins:List (Addr×Obj)) (s:ac) (σ:St) (H:Hp) (Q:Bool->Hp->Prop),Inv X pins σ H s->t σ H Q->wpAny (model X.prog X.w) X.A (qi e X.env whole) (TP X pins σ Q) X.xe s
theorem PW.pt {X:Cx}{e:Expr}{t:TT}(h:PW X e t):PT X e t:=h _
def PA (X:Cx)(es:List Expr)(t:TA):Prop:=∀(pos:Pos) (pins:List (Addr×Obj)) (s:ac) (σ:St) (H:Hp) (Q:List V->Hp->Prop),Inv X pins σ H s->t σ H Q->wpAny (model X.prog X.w) X.A (spliced (li pos (dn es X.env))) (AP X pins σ Q) X.xe s
def PS (X:Cx)(st:Stmt)(t:TS):Prop:=∀(pins:List (Addr×Obj)) (s:ac) (σ:St) (H:Hp) (D:Ends),Inv X pins σ H s->t D σ H->wpAny (model X.prog X.w) X.A (exec st X.env) (SP X pins D) X.xe s
def PSs (X:Cx)(st:List Stmt)(t:TS):Prop:=∀(pins:List (Addr×Obj)) (s:ac) (σ:St) (H:Hp) (D:Ends),Inv X pins σ H s->t D σ H->wpAny (model X.prog X.w) X.A (execs st X.env) (SP X pins D) X.xe s
theorem thn {α:Type}{t:Sem α}{Q Q':α->ac->Prop}{M:Model}{A:b7}{E:Value->ac->Prop}{s:ac}(h:wpAny M A t Q E s)(hQ:∀a s,Q a s->Q' a s):wpAny M A t Q' E s:=jb h hQ fun _ _ x=>x
section
variable {X:Cx}
theorem bin {a b:Expr}{ta tb:TE}(ha:PE X a ta)(hb:PE X b tb){pins:List (Addr×Obj)}{s:ac}{σ:St}{H:Hp}{R:V->V->Hp->Prop}(I:Inv X pins σ H s)(h:ta σ H fun x H1=>tb σ H1 fun y H2=>R x y H2)
  {α:Type} {Q:α->ac->Prop} {f:Value->Value->Sem α}
  (hf:∀v u s2 x y H2,Inv X pins σ H2 s2->RelV x v->RelV y u->R x y H2->wpAny (model X.prog X.w) X.A (f v u) Q X.xe s2):
  wpAny (model X.prog X.w) X.A (eval a X.env) (fun v s₁=>wpAny (model X.prog X.w) X.A (eval b X.env) (fun u s₂=>wpAny (model X.prog X.w) X.A (f v u) Q X.xe s₂) X.xe s₁) X.xe s:=by
 refine thn (ha pins s σ H _ I h) fun v s1 ⟨x,H1,I1,r1,q1⟩=>?_;refine thn (hb pins s1 σ H1 _ I1 q1) fun u s2 ⟨y,H2,I2,r2,q2⟩=>?_;exact hf v u s2 x y H2 I2 r1 r2 q2
def tVar (i:Nat):TE:=fun σ H Q=>∃v,σ[i]?=some (some v)/\Q v H
def tC (v:V):TE:=fun _ H Q=>Q v H
theorem z4m {i:Nat}{x:Str}{pos:Pos}(hN:X.N[i]?=some x)(hv:Vis X.env.scope x)(hd:(x==("__debug__":Str))=false:=by decide)(hcd:(x==("__classdict__":Str))=false:=by decide):PE X (.Name x pos) (tVar i):=by
 intro pins s σ H Q I h;obtain⟨v,e,h⟩:=h;obtain⟨m,hn,hl⟩:=I.loc;obtain⟨u,r,l⟩:=hl i x v hN e hv;have fin:EP X pins σ Q u s:=⟨v,H,I,r,h⟩;rcases l with⟨hk,hm⟩|⟨hk,c,hc,hcell⟩
 ·exact tf (qj I.ok.kind hk hn hm fin) hd
 ·rcases hk with hk|hk
  ·exact tf (wpAny_loadName_cell I.ok.kind hk hc hcell fin) hd
  ·exact tf (wpAny_loadName_free I.ok.kind hk hc hcell fin hcd) hd
theorem zo4 {i j pos}:PE X (.Constant (.int i) j pos) (tC (.int i)):=fun _ _ _ H _ I h=>wpAny_Constant_int ⟨.int i,H,I.tok _,⟨_,rfl⟩,h⟩
theorem zv5 {b j pos}:PE X (.Constant (.bool b) j pos) (tC (.bl b)):=fun _ _ _ H _ I h=>Constant_bool ⟨.bl b,H,I,rfl,h⟩
theorem zq3 {j pos}:PE X (.Constant .none j pos) (tC .non):=fun _ _ _ H _ I h=>r6 ⟨.non,H,I,rfl,h⟩
theorem zii {x j pos}:PE X (.Constant (.str x) j pos) (tC (.str x)):=fun _ _ _ H _ I h=>Calls.Constant_str ⟨.str x,H,I.tok _,⟨_,rfl⟩,h⟩
def Gl (X:Cx)(x:Str):Prop:=X.env.kindOf x=some .globalImplicit
theorem z4d {E:Value->ac->Prop}{pins:List (Addr×Obj)}{s:ac}{σ:St}{H:Hp}{x:Str}{u:Value}{pos:Pos}{Q:Value->ac->Prop}(I:Inv X pins σ H s)(hg:Gl X x)(hm:X.mg x=some u)(h:Q u s)
  (hd:(x==("__debug__":Str))=false:=by decide):wpAny (model X.prog X.w) X.A (eval (.Name x pos) X.env) Q E s:=
 j4 I.ok.kind hg (o8 (by rw[I.ok.glob];exact I.mod.glob.keeps I.bk) hm h) hd
theorem z2r {E:Value->ac->Prop}{pins:List (Addr×Obj)}{s:ac}{σ:St}{H:Hp}{x:Str}{u:Value}{pos:Pos}{Q:Value->ac->Prop}(I:Inv X pins σ H s)(hg:Gl X x)(hm:X.mg x=none)(hv:cu x=some u)(h:Q u s)
  (hn:x≠"__name__":=by decide) (hd:(x==("__debug__":Str))=false:=by decide):wpAny (model X.prog X.w) X.A (eval (.Name x pos) X.env) Q E s:=by
 obtain⟨mb,h1,h2⟩:=I.mod.blt;exact j4 I.ok.kind hg (Calls.loadGlobal_builtin (by rw[I.ok.glob];exact I.mod.glob.keeps I.bk) hm (by rw[I.ok.blt];exact h1.keeps I.bk) ((h2 x hn).trans hv) h) hd
theorem zjx {x:Str}{v:V}{u:Value}{pos:Pos}(hg:Gl X x)(hm:X.mg x=none)(hv:cu x=some u)(r:RelV v u)(hn:x≠"__name__":=by decide)(hd:(x==("__debug__":Str))=false:=by decide):PE X (.Name x pos) (tC v):=fun _ _ _ H _ I h=>z2r I hg hm hv ⟨v,H,I,r,h⟩ hn hd
variable {a b:Expr}{ta tb:TE}{pos:Pos}
def PC (X:Cx)(op:CmpOp)(a b:Expr)(t:TE):Prop:=∀(pins:List (Addr×Obj)) (s:ac) (σ:St) (H:Hp) (Q:VK),Inv X pins σ H s->t σ H Q->wpAny (model X.prog X.w) X.A (eval a X.env) (fun v s₁=>wpAny (model X.prog X.w) X.A (eval b X.env) (fun u s₂=>wpAny (model X.prog X.w) X.A (df op v u) (EP X pins σ Q) X.xe s₂) X.xe s₁) X.xe s
theorem za9 (b:Expr){op:CmpOp}(h:op≠.In)(h2:op≠.NotIn):gi op b=false:=by
 have e1:(op==CmpOp.In)=false:=by cases op<;>first|rfl|exact absurd rfl h
 have e2:(op==CmpOp.NotIn)=false:=by cases op<;>first|rfl|exact absurd rfl h2
 cases b<;>simp[gi,e1,e2]
def tIsN (ta:TE):TE:=fun σ H Q=>ta σ H fun x H1=>Q (.bl (decide (x=.non))) H1
def zon (ta:TE):TE:=fun σ H Q=>ta σ H fun x H1=>Q (.bl (!decide (x=.non))) H1
theorem RelV.none_iff {x:V}{v:Value}(r:RelV x v):(v==Value.none)=decide (x=.non):=by
 cases x with
 |non=>cases r;rfl
 |bl _=>cases r;rfl
 |int _=>obtain⟨t,rfl⟩:=r;rfl
 |str _=>obtain⟨t,rfl⟩:=r;rfl
 |ref _=>cases r;rfl
 |ty _=>cases r;rfl
theorem zhz {j pos'}(ha:PE X a ta):PC X .Is a (.Constant .none j pos') (tIsN ta):=by intro pins s σ H Q I h;refine thn (ha pins s σ H _ I h) fun v s1 ⟨x,H1,I1,r1,q1⟩=>?_;exact r6 (is_none_gen ⟨.bl _,H1,I1,by rw[r1.none_iff];rfl,q1⟩)
theorem zcw {j pos'}(ha:PE X a ta):PC X .IsNot a (.Constant .none j pos') (zon ta):=by intro pins s σ H Q I h;refine thn (ha pins s σ H _ I h) fun v s1 ⟨x,H1,I1,r1,q1⟩=>?_;exact r6 (isnot_none_gen ⟨.bl _,H1,I1,by rw[r1.none_iff];rfl,q1⟩)
def tB (t:TE):TT:=fun σ H Q=>t σ H fun x H1=>∃c,x=.bl c/\Q c H1
theorem zij {op:CmpOp}{t:TE}(h:PC X op a b t)(h1:gi op b=false:=by first|exact za9 _ (by decide) (by decide)|rfl):PE X (.Compare a [op] [b] pos) t:=fun pins s σ H Q I hw=>wpAny_Compare1 (h pins s σ H Q I hw) h1
theorem zi6 {op:CmpOp}{t:TE}(h:PC X op a b t)(h1:gi op b=false:=by first|exact za9 _ (by decide) (by decide)|rfl):PT X (.Compare a [op] [b] pos) (tB t):=by intro pins s σ H Q I hw;refine qc (thn (h pins s σ H _ I hw) fun v s1 h1=>thn h1 fun u s2 h2=>thn h2 fun c s3 ⟨x,H1,I1,r1,q1⟩=>?_) h1;obtain⟨d,rfl,q⟩:=q1;cases r1;exact i6 ⟨H1,I1,q⟩
theorem zn5 {e:Expr}{t:TE}(h:PE X e t)(he:∀whole,qi e X.env whole=(do let v <-whole;vc e.pos;nc [v] (vf v)):=by intro _;rfl):PT X e (tB t):=by intro pins s σ H Q I hw;refine isTrue_plain (thn (h pins s σ H _ I hw) fun v s1 ⟨x,H1,I1,r1,q1⟩=>?_) (he _);obtain⟨d,rfl,q⟩:=q1;cases r1;exact i6 ⟨H1,I1,q⟩
variable {tA tB':TT}{rest:List Expr}
def tAnd (t u:TT):TT:=fun σ H Q=>t σ H fun c H1=>if c=true then u σ H1 Q else Q false H1
def tOr (t u:TT):TT:=fun σ H Q=>t σ H fun c H1=>if c=true then Q true H1 else u σ H1 Q
def tNot (t:TT):TT:=fun σ H Q=>t σ H fun c H1=>Q (!c) H1
theorem zkx (ha:PT X a tA):PW X (.BoolOp .And [a] pos) tA:=by
 intro wh pins s σ H Q I h;refine isTrue_and (thn (ha pins s σ H Q I h) fun c s1 e=>?_);cases c with
 |true=>exact isTrue_and_nil e
 |false=>exact e
theorem zpg (ha:PT X a tA):PW X (.BoolOp .Or [a] pos) tA:=by
 intro wh pins s σ H Q I h;refine isTrue_or (thn (ha pins s σ H Q I h) fun c s1 e=>?_);cases c with
 |false=>exact isTrue_or_nil e
 |true=>exact e
theorem zmy (ha:PT X a tA)(hb:PW X (.BoolOp .And (b::rest) pos) tB'):PW X (.BoolOp .And (a::b::rest) pos) (tAnd tA tB'):=by
 intro wh pins s σ H Q I h;refine isTrue_and (thn (ha pins s σ H _ I h) fun c s1 ⟨H1,I1,q1⟩=>?_);cases c with
 |true=>exact hb wh pins s1 σ H1 Q I1 q1
 |false=>exact⟨H1,I1,q1⟩
theorem ztm (ha:PT X a tA)(hb:PW X (.BoolOp .Or (b::rest) pos) tB'):PW X (.BoolOp .Or (a::b::rest) pos) (tOr tA tB'):=by
 intro wh pins s σ H Q I h;refine isTrue_or (thn (ha pins s σ H _ I h) fun c s1 ⟨H1,I1,q1⟩=>?_);cases c with
 |true=>exact⟨H1,I1,q1⟩
 |false=>exact hb wh pins s1 σ H1 Q I1 q1
theorem zik (ha:PT X a tA):PT X (.UnaryOp .Not a pos) (tNot tA):=by intro pins s σ H Q I h;exact isTrue_not (ha pins s σ H (fun c H1=>Q (!c) H1) I h)
def zsw (ta tb:TE):TE:=fun σ H Q=>ta σ H fun x H1=>∃c,x=.bl c/\if c=true then tb σ H1 Q else Q (.bl false) H1
def tOrV (ta tb:TE):TE:=fun σ H Q=>ta σ H fun x H1=>∃c,x=.bl c/\if c=true then Q (.bl true) H1 else tb σ H1 Q
theorem zic {op}{t:TE}(h:PE X a t):PE X (.BoolOp op [a] pos) t:=fun pins s σ H Q I hw=>BoolOp_one (h pins s σ H Q I hw)
theorem znl (ha:PE X a ta)(hb:PE X (.BoolOp .And (b::rest) pos) tb):PE X (.BoolOp .And (a::b::rest) pos) (zsw ta tb):=by
 intro pins s σ H Q I h;refine BoolOp_and (thn (ha pins s σ H _ I h) fun v s1 ⟨x,H1,I1,r1,q1⟩=>?_);obtain⟨c,rfl,q1⟩:=q1;cases r1;refine i6 ?_;cases c with
 |true=>exact hb pins s1 σ H1 Q I1 q1
 |false=>exact⟨.bl false,H1,I1,rfl,q1⟩
theorem ztv (ha:PE X a ta)(hb:PE X (.BoolOp .Or (b::rest) pos) tb):PE X (.BoolOp .Or (a::b::rest) pos) (tOrV ta tb):=by
 intro pins s σ H Q I h;refine BoolOp_or (thn (ha pins s σ H _ I h) fun v s1 ⟨x,H1,I1,r1,q1⟩=>?_);obtain⟨c,rfl,q1⟩:=q1;cases r1;refine i6 ?_;cases c with
 |false=>exact hb pins s1 σ H1 Q I1 q1
 |true=>exact⟨.bl true,H1,I1,rfl,q1⟩
def tIf (t:TT)(ta tb:TE):TE:=fun σ H Q=>t σ H fun c H1=>if c=true then ta σ H1 Q else tb σ H1 Q
theorem zfv {c:Expr}(hc:PT X c tA)(ha:PE X a ta)(hb:PE X b tb):PE X (.IfExp c a b pos) (tIf tA ta tb):=by
 intro pins s σ H Q I h;refine wpAny_IfExp (thn (hc pins s σ H _ I h) fun d s1 ⟨H1,I1,q1⟩=>?_);cases d with
 |true=>exact ha pins s1 σ H1 Q I1 q1
 |false=>exact hb pins s1 σ H1 Q I1 q1
end
def SqL (K:W.Frag)(H:Hp)(a:Addr)(xs:List V):Prop:=Rd H a (.lst xs)\/∃(o:Obj) (its:Array Value) (n:Nat),K.lookup a=some o/\o.cls=.type "list"/\o.dict=none/\o.data=.seq its n/\its.size<=bh/\Vals xs its.toList
def SqT (K:W.Frag)(H:Hp)(a:Addr)(xs:List V):Prop:=Rd H a (.tup xs)\/∃(o:Obj) (its:Array Value) (n:Nat),K.lookup a=some o/\o.cls=.type "tuple"/\o.dict=none/\o.data=.seq its n/\its.size<=bh/\Vals xs its.toList
def absV:Value->Option V
 |.none=>some .non
 |.bool b=>some (.bl b)
 |.int i _=>some (.int i)
 |.str x _=>some (.str x)
 |.ref a=>some (.ref a)
 |.type n=>some (.ty n)
 |_=>none
theorem RelV.abs {x:V}{u:Value}(r:RelV x u):absV u=some x:=by
 cases x with
 |non=>cases r;rfl
 |bl _=>cases r;rfl
 |int _=>obtain⟨t,rfl⟩:=r;rfl
 |str _=>obtain⟨t,rfl⟩:=r;rfl
 |ref _=>cases r;rfl
 |ty _=>cases r;rfl
theorem RelV.inj {x y:V}{u:Value}(r:RelV x u)(q:RelV y u):x=y:=Option.some.inj (r.abs.symm.trans q.abs)
theorem Vals.inj:∀{xs ys:List V} {us:List Value},Vals xs us->Vals ys us->xs=ys
 |_,_,_,.nil,.nil=>rfl
 |_,_,_,.cons r t,.cons r' t'=>by rw[r.inj r',Vals.inj t t']
section
variable {X:Cx}{pins:List (Addr×Obj)}{σ:St}{H:Hp}{s:ac}{a:Addr}{xs ys:List V}
theorem SqL.of {K:W.Frag}(h:H a=some (.lst xs)):SqL K H a xs:=.inl (.inl h)
theorem SqT.of {K:W.Frag}(h:H a=some (.tup xs)):SqT K H a xs:=.inl (.inl h)
theorem Inv.list (I:Inv X pins σ H s)(h:SqL X.K H a xs):∃its:List Value,Vals xs its/\PlainL s.heap a its.toArray/\xs.length<=bh:=by
 rcases h with h|⟨o,its,n,hk,hc,hd,hs,hz,r⟩
 ·obtain⟨z,its,n,r,e⟩:=h.ok I.hok;exact⟨its,r,⟨_,n,e,rfl,rfl,rfl⟩,z⟩
 ·refine⟨its.toList,r,⟨o,n,I.kIn a o hk,hc,hd,by simpa using hs⟩,?_⟩;have e:=r.length;simp only[db]at e;omega
theorem Inv.tuple (I:Inv X pins σ H s)(h:SqT X.K H a xs):∃its:List Value,Vals xs its/\IsTup s.heap a its.toArray/\xs.length<=bh:=by
 rcases h with h|⟨o,its,n,hk,hc,_,hs,hz,r⟩
 ·obtain⟨z,its,r,p⟩:=h.ok I.hok;exact⟨its,r,p.tup,z⟩
 ·refine⟨its.toList,r,⟨o,I.kIn a o hk,hc,n,by simpa using hs⟩,?_⟩;have e:=r.length;simp only[db]at e;omega
theorem Inv.tupleN (I:Inv X pins σ H s)(h:SqT X.K H a xs):∃l:List Value,Vals xs l/\zr3 s.heap a l.toArray/\xs.length<=bh:=by
 rcases h with h|⟨o,l,n,q,hc,hd,hs,hz,r⟩
 ·obtain⟨z,l,r,n,q⟩:=h.ok I.hok;exact⟨l,r,⟨_,n,q,rfl,rfl,rfl⟩,z⟩
 ·exact⟨l.toList,r,⟨o,n,I.kIn a o q,hc,hd,(by simpa using hs)⟩,(by have w:=r.length;simp only[db]at w;omega)⟩
theorem Inv.list_inj (I:Inv X pins σ H s)(h:SqL X.K H a xs)(h':SqL X.K H a ys):xs=ys:=by
 obtain⟨its,r,⟨o,n,e,_,_,d⟩,_⟩:=I.list h;obtain⟨its',r',⟨o',n',e',_,_,d'⟩,_⟩:=I.list h';rw[e]at e';cases e';rw[d]at d';injection d' with d1 _;have:its=its':=by simpa using congrArg Array.toList d1
 subst this;exact r.inj r'
theorem Inv.tuple_inj (I:Inv X pins σ H s)(h:SqT X.K H a xs)(h':SqT X.K H a ys):xs=ys:=by
 obtain⟨its,r,⟨o,e,_,n,d⟩,_⟩:=I.tuple h;obtain⟨its',r',⟨o',e',_,n',d'⟩,_⟩:=I.tuple h';rw[e]at e';cases e';rw[d]at d';injection d' with d1 _;have:its=its':=by simpa using congrArg Array.toList d1
 subst this;exact r.inj r'
end
abbrev Cx.wish (X:Cx)(E:Value->ac->Prop):Cx:={X with xe:=E}
abbrev Cx.nox (X:Cx):Cx:=X.wish fun _ _=>False
theorem Cx.Ok.wish {X:Cx}(ok:X.Ok)(E:Value->ac->Prop):(X.wish E).Ok:=⟨ok.mod,ok.kind,ok.glob,ok.blt,ok.above,ok.inj,ok.has,ok.cab,ok.hd,ok.frames,ok.stk,ok.exf,ok.bs,ok.bsz,ok.noex,ok.exfs,ok.funs,ok.frf,ok.fxN⟩
theorem Cx.Ok.unwish {X:Cx}{E:Value->ac->Prop}(ok:(X.wish E).Ok):X.Ok:=⟨ok.mod,ok.kind,ok.glob,ok.blt,ok.above,ok.inj,ok.has,ok.cab,ok.hd,ok.frames,ok.stk,ok.exf,ok.bs,ok.bsz,ok.noex,ok.exfs,ok.funs,ok.frf,ok.fxN⟩
section
variable {X:Cx}{pins:List (Addr×Obj)}{σ:St}{H:Hp}{s:ac}{E:Value->ac->Prop}
theorem Inv.wish (I:Inv X pins σ H s)(E:Value->ac->Prop):Inv (X.wish E) pins σ H s:=⟨I.ok.wish E,I.os,I.bare,I.base,I.loc,I.cell,I.free,I.freeC,I.pin,I.hok,I.len,I.fx⟩
theorem Inv.unwish (I:Inv (X.wish E) pins σ H s):Inv X pins σ H s:=⟨I.ok.unwish,I.os,I.bare,I.base,I.loc,I.cell,I.free,I.freeC,I.pin,I.hok,I.len,I.fx⟩
theorem SP.unwish {D:Ends}{f:Flow}{s':ac}(h:SP (X.wish E) pins D f s'):SP X pins D f s':=by
 cases f with
 |next=>obtain⟨σ',H',I,q⟩:=h;exact⟨σ',H',I.unwish,q⟩
 |brk=>obtain⟨σ',H',I,q⟩:=h;exact⟨σ',H',I.unwish,q⟩
 |cont=>obtain⟨σ',H',I,q⟩:=h;exact⟨σ',H',I.unwish,q⟩
 |ret u=>obtain⟨v,σ',H',I,r,q⟩:=h;exact⟨v,σ',H',I.unwish,r,q⟩
theorem PSs.nox {st:List Stmt}{t:TS}(h:PSs X.nox st t):PSs X st t:=fun pins s σ H D I hw=>jb (h pins s σ H D (I.wish _) hw) (fun _ _ q=>q.unwish) fun _ _ z=>False.elim z
end
section
variable {X:Cx}{st:Stmt}{rest:List Stmt}{t u:TS}{e:Expr}{te:TE}{pos:Pos}
def zs0:TS:=fun D σ H=>D.nx σ H
def tSeq (t u:TS):TS:=fun D σ H=>t {D with nx:=u D} σ H
theorem zm1:PSs X [] zs0:=fun _ _ σ H _ I h=>mw ⟨σ,H,I,h⟩
theorem z3z (h1:PS X st t)(h2:PSs X rest u):PSs X (st::rest) (tSeq t u):=by
 intro pins s σ H D I h;refine ly (thn (h1 pins s σ H {D with nx:=u D} I h) fun f s1 q=>?_);cases f with
 |next=>obtain⟨σ',H',I',q⟩:=q;exact h2 pins s1 σ' H' D I' q
 |ret v=>exact q
 |brk=>exact q
 |cont=>exact q
theorem zeq (h1:PS X st t):PSs X [st] t:=by
 intro pins s σ H D I h;refine ly (thn (h1 pins s σ H D I h) fun f s1 q=>?_);cases f with
 |next=>exact mw q
 |ret v=>exact q
 |brk=>exact q
 |cont=>exact q
theorem Inv.quiet {pins:List (Addr×Obj)}{σ:St}{H:Hp}{s:ac}(I:Inv X pins σ H s):interactive X.env=false:=by simp[interactive,I.ok.kind]
def zng (te:TE):TS:=fun D σ H=>te σ H fun _ H1=>D.nx σ H1
theorem zj5 (he:PE X e te)(hs:l6 e none pos.line X.env=pure false:=by rfl):PS X (.Expr e pos) (zng te):=by intro pins s σ H D I h;exact wpAny_Expr_any (thn (he pins s σ H _ I h) fun v s1 ⟨x,H1,I1,r1,q1⟩=>⟨σ,H1,I1,q1⟩) I.quiet hs
def tRet (te:TE):TS:=fun D σ H=>te σ H D.rt
theorem z9v (he:PE X e te):PS X (.Return (some e) pos) (tRet te):=by intro pins s σ H D I h;exact wpAny_Return_some (thn (he pins s σ H _ I h) fun v s1 ⟨x,H1,I1,r1,q1⟩=>⟨x,σ,H1,I1,r1,q1⟩)
def tIfS (c:TT)(t u:TS):TS:=fun D σ H=>c σ H fun b H1=>if b=true then t D σ H1 else u D σ H1
theorem zn4 {c:Expr}{a b:List Stmt}{tc:TT}(hc:PT X c tc)(ha:PSs X a t)(hb:PSs X b u):PS X (.If c a b pos) (tIfS tc t u):=by
 intro pins s σ H D I h;refine wpAny_If (thn (hc pins s σ H _ I h) fun d s1 ⟨H1,I1,q1⟩=>?_);cases d with
 |true=>exact ha pins s1 σ H1 D I1 q1
 |false=>exact hb pins s1 σ H1 D I1 q1
end
abbrev TG:=V->St->Hp->(St->Hp->Prop)->Prop
abbrev TGs:=List V->St->Hp->(St->Hp->Prop)->Prop
def PG (X:Cx)(target:Expr)(t:TG):Prop:=∀(pins:List (Addr×Obj)) (s:ac) (σ:St) (H:Hp) (v:V) (u:Value) (Q:St->Hp->Prop),Inv X pins σ H s->RelV v u->t v σ H Q->wpAny (model X.prog X.w) X.A (pp target X.env u) (fun _ s'=>∃σ' H',Inv X pins σ' H' s'/\Q σ' H') X.xe s
def PGs (X:Cx)(ts:List Expr)(t:TGs):Prop:=∀(pins:List (Addr×Obj)) (s:ac) (σ:St) (H:Hp) (vs:List V) (us:List Value) (Q:St->Hp->Prop),Inv X pins σ H s->Vals vs us->t vs σ H Q->wpAny (model X.prog X.w) X.A (assignInOrder ((g7 ts X.env).map (·.2)) us) (fun _ s'=>∃σ' H',Inv X pins σ' H' s'/\Q σ' H') X.xe s
abbrev TSet:=V->V->V->Hp->(Hp->Prop)->Prop
def PSet (X:Cx)(t:TSet):Prop:=∀(pins:List (Addr×Obj)) (s:ac) (σ:St) (H:Hp) (o i v:V) (ov iv u:Value) (Q:Hp->Prop),Inv X pins σ H s->RelV o ov->RelV i iv->RelV v u->t o i v H Q->wpAny (model X.prog X.w) X.A (setItem ov iv u) (fun _ s'=>∃H',Inv X pins σ H' s'/\Q H') X.xe s
section
variable {X:Cx}{pos:Pos}
def zmi (i:Nat):TG:=fun v σ H Q=>Q (σ.set i (some v)) H
theorem ze8 {i:Nat}{x:Str}(hN:X.N.Nodup)(hi:X.N[i]?=some x)(hx:Loc X.env.scope x)(hf:X.fn x=true\/X.env.scope.names.lookup x=some .local:=by first|exact .inl rfl|exact .inr rfl|assumption):PG X (.Name x pos) (zmi i):=by intro pins s σ H v u Q I r h;exact t9 (z6h I hN hi hx r (fun s' I'=>⟨_,H,I',h⟩) hf)
def gNil:TGs:=fun vs σ H Q=>vs=[]/\Q σ H
def zu5 (t:TG)(u:TGs):TGs:=fun vs σ H Q=>∃v r,vs=v::r/\t v σ H fun σ' H'=>u r σ' H' Q
theorem zjt:PGs X [] gNil:=by intro pins s σ H vs us Q I r h;obtain⟨e,h⟩:=h;subst e;cases r;exact assignInOrder_nil ⟨σ,H,I,h⟩
theorem zg1 {e:Expr}{es:List Expr}{t:TG}{u:TGs}(h1:PG X e t)(h2:PGs X es u)
  (hs:(g7 (e::es) X.env).map (·.2)=pp e X.env::(g7 es X.env).map (·.2):=by rfl):PGs X (e::es) (zu5 t u):=by
 intro pins s σ H vs us Q I r h;obtain⟨v,vr,e1,h⟩:=h;subst e1;cases r with
 |cons r rr=>rw[hs];refine assignInOrder_cons (thn (h1 pins s σ H _ _ _ I r h) fun _ s1 ⟨σ1,H1,I1,q1⟩=>?_);exact h2 pins s1 σ1 H1 _ _ Q I1 rr q1
def gTup (K:W.Frag)(n:Nat)(t:TGs):TG:=fun v σ H Q=>∃a xs,v=.ref a/\SqT K H a xs/\xs.length=n/\t xs σ H Q
theorem znm {es:List Expr}{k:Nat}{t:TGs}{n:Nat}(hc:X.calm=true)(h:PGs X es t)
  (hn:(g7 es X.env).length=n:=by rfl) (hst:(g7 es X.env).findIdx? (·.1)=none:=by rfl):PG X (.Tuple es k pos) (gTup X.K n t):=by
 intro pins s σ H v u Q I r hw;obtain⟨a,xs,e1,hq,hl,hw⟩:=hw;subst e1;cases r;obtain⟨its,rv,ht,hz⟩:=I.tuple hq;refine assign_Tuple_tuple (I.ok.hd hc) ht (by simp[hn,<-hl,rv.length]) hst fun h' hx=>?_;have I1:Inv X pins σ H {s with heap:=h'}:=I.kept (t':=s.toks) fun b o e=>hx b o (bz (bn e)) e;exact h pins _ σ H xs _ Q I1 (by simpa using rv) hw
def tAsg (te:TE)(g:TG):TS:=fun D σ H=>te σ H fun x H1=>g x σ H1 D.nx
theorem zrp {tg e:Expr}{te:TE}{g:TG}(he:PE X e te)(hg:PG X tg g)(hs:se [tg] e pos.line X.env=pure false:=by rfl)(hw:sf [tg] e X.env=pure none:=by rfl)
  (h1:(g7 [tg] X.env).map (·.2)=[pp tg X.env]:=by rfl):PS X (.Assign [tg] e pos) (tAsg te g):=by
 intro pins s σ H D I h;refine wpAny_Assign_stores (thn (he pins s σ H _ I h) fun v s1 ⟨x,H1,I1,r1,q1⟩=>?_) hs hw;rw[h1];exact thn (hg pins s1 σ H1 x v _ I1 r1 q1) fun _ s2 q=>q
theorem zhy {i:Nat}{x:Str}{e:Expr}{te:TE}{pos':Pos}(hN:X.N.Nodup)(hi:X.N[i]?=some x)(hx:Loc X.env.scope x)(he:PE X e te)(hs:l6 e (some (.Name x pos')) pos.line X.env=pure false:=by rfl)(hf:X.fn x=true\/X.env.scope.names.lookup x=some .local:=by first|exact .inl rfl|exact .inr rfl|assumption):
  PS X (.Assign [.Name x pos'] e pos) (tAsg te (zmi i)):=by
 intro pins s σ H D I h;refine wpAny_Assign_Name (thn (he pins s σ H _ I h) fun v s1 ⟨y,H1,I1,r1,q1⟩=>?_) hs;exact z6h I1 hN hi hx r1 (fun s2 I2=>⟨_,H1,I2,q1⟩) hf
end
section
variable {X:Cx}{pos:Pos}
def zru (c:TT)(tb:TS):TS:=fun D σ H=>∃W:Nat->St->Hp->Prop,(∃m,W m σ H)/\∀m σ H,W m σ H->c σ H fun b H1=>if b=true then ∃N:St->Hp->Prop,(∀σ' H',N σ' H'->∃m',m'<m/\W m' σ' H')/\tb {D with nx:=N,ct:=N,bk:=D.nx} σ H1 else D.nx σ H1
theorem zh2 {c:Expr}{body:List Stmt}{tc:TT}{tb:TS}(hp:gq (model X.prog X.w) X.A X.env X.xe)(hc:PT X c tc)(hb:PSs X body tb):PS X (.While c body [] pos) (zru tc tb):=by
 intro pins s σ H D I h;obtain⟨W,⟨m0,w0⟩,turn⟩:=h;refine wpAny_While (codeAny_whileLoop (fun n s'=>∃σ' H',Inv X pins σ' H' s'/\W n σ' H') ?_ m0 ⟨σ,H,I,w0⟩)
 rintro n s1 ⟨σ1,H1,I1,w1⟩
 refine iy hp (thn (hc pins s1 σ1 H1 _ I1 (turn n σ1 H1 w1)) fun b s2 ⟨H2,I2,q2⟩=>?_);cases b with
 |true=>
  obtain⟨N,hN,q2⟩:=q2;rw[if_pos rfl];refine iy hp (thn (hb pins s2 σ1 H2 _ I2 q2) fun f s3 q3=>?_);cases f with
  |next=>obtain⟨σ3,H3,I3,n3⟩:=q3;obtain⟨m',hm,w3⟩:=hN σ3 H3 n3;exact⟨m',hm,σ3,H3,I3,w3⟩
  |cont=>obtain⟨σ3,H3,I3,n3⟩:=q3;obtain⟨m',hm,w3⟩:=hN σ3 H3 n3;exact⟨m',hm,σ3,H3,I3,w3⟩
  |brk=>exact q3
  |ret v=>exact q3
 |false=>rw[if_neg b9];exact mw ⟨σ1,H2,I2,q2⟩
end
structure It where
 go:Nat->Hp->Prop
 yld:Nat->Hp->V->Hp->Prop
 stop:Nat->Hp->Prop
def FpOk (X:Cx)(pins:List (Addr×Obj))(H:Hp)(b:Addr):Prop:=H b=none/\b≠X.env.locals/\b∉X.fs/\(b∈X.ex\/X.s₀.heap.objs.size<=b)/\(∀x c,X.env.cells.lookup x=some c->c≠b)/\∀p∈X.pn++pins,p.1≠b
theorem Inv.fpOk {X:Cx}{pins:List (Addr×Obj)}{σ:St}{H H':Hp}{s:ac}{b:Addr}(I:Inv X pins σ H s)(hb:s.heap.objs.size<=b)(hn:H' b=none):FpOk X pins H' b:=by
 refine⟨hn,nh (bw I.lt hb),I.nofs hb,.inr (b6 I.sz hb),fun x c e z=>?_,fun p hp z=>?_⟩
 ·obtain⟨v,q⟩:=I.cell x c e;exact absurd (bw q.lt (by rw[z];exact hb)) (ce _)
 ·exact absurd (bw (bn (I.pin p hp).1) (by rw[z];exact hb)) (ce _)
structure Turn (P:a8)(w:World)(K:W.Frag)(tg:Expr)(J:It)(fp:List Addr)(it:Addr)(tn:Nat->Heap->Prop):Prop where
 mem:it∈fp
 obj:∀i h,tn i h->∀b∈fp,∃o,h.get? b=some o/\∀v,o.data≠.cell v
 keep:∀i h h',tn i h->(∀b∈fp,∀o,h.get? b=some o->h'.get? b=some o)->tn i h'
 item:∀(X:Cx),X.prog=P->X.w=w->X.K=K->X.calm=true->∀(i:Nat) (pins:List (Addr×Obj)) (s:ac) (σ:St) (H:Hp) (E:Value->ac->Prop),Inv X pins σ H s->(∀b∈fp,FpOk X pins H b)->tn i s.heap->J.go i H->wpAny (model P w) X.A (ou (.ref it)) (fun r s1=>∃u,r=some u/\wpAny (model P w) X.A (g8 tg (.ref it) u) (fun _ s2=>∃x H',Inv X pins σ H' s2/\RelV x u/\J.yld i H x H'/\tn (i+1) s2.heap/\∀b∈fp,H' b=none) E s1) E s
 done:∀(X:Cx),X.prog=P->X.w=w->X.K=K->X.calm=true->∀(i:Nat) (pins:List (Addr×Obj)) (s:ac) (σ:St) (H:Hp) (E:Value->ac->Prop),Inv X pins σ H s->(∀b∈fp,FpOk X pins H b)->tn i s.heap->J.stop i H->wpAny (model P w) X.A (ou (.ref it)) (fun r s1=>r=none/\Inv X pins σ H s1) E s
 self:∀(A:b7) (i:Nat) (s:ac) (Q:Value->ac->Prop) (E:Value->ac->Prop),tn i s.heap->Q (.ref it) s->wpAny (model P w) A (ox (.ref it)) Q E s
abbrev TI:=St->Hp->(It->Hp->Prop)->Prop
def PIE (X:Cx)(pins:List (Addr×Obj))(σ:St)(tg:Expr)(R:It->Hp->Prop)(itv:Value)(s2:ac):Prop:=∃(it:Addr) (fp:List Addr) (tn:Nat->Heap->Prop) (J:It) (H':Hp),itv=.ref it/\Inv X pins σ H' s2/\Turn X.prog X.w X.K tg J fp it tn/\tn 0 s2.heap/\(∀b∈fp,FpOk X pins H' b)/\R J H'
def PI (X:Cx)(tg iter:Expr)(wi:TI):Prop:=∀(pins:List (Addr×Obj)) (s:ac) (σ:St) (H:Hp) (R:It->Hp->Prop),Inv X pins σ H s->wi σ H R->wpAny (model X.prog X.w) X.A (eval iter X.env) (fun v s1=>wpAny (model X.prog X.w) X.A (ox v) (PIE X pins σ tg R) X.xe s1) X.xe s
theorem zgv {M:Model}{A:b7}{E:Value->ac->Prop}{s:ac}{tg:Expr}{it:Addr}{u:Value}{o:Obj}{n:String}{vs:Array Value}{Q:Unit->ac->Prop}(ho:s.heap.get? it=some o)(hc:o.cls=.type n)(hd:o.data=.fields vs)
  (hn:["enumerate","zip","dict_itemiterator","dict_reverseitemiterator","odict_iterator","itertools.zip_longest","itertools.pairwise"].contains n=false) (hQ:Q () s):wpAny M A (g8 tg (.ref it) u) Q E s:=by
 unfold g8
 cases tg<;>first
  |exact af hQ
  |(cases u<;>first
   |exact af hQ
   |(refine aa (tm ho ?_)
     rw[hc,hd];show wpAny M A (if(["enumerate","zip","dict_itemiterator","dict_reverseitemiterator","odict_iterator","itertools.zip_longest","itertools.pairwise"].contains n&&vs[0]?==some (mx _))=true then _ else _) Q E s;rw[if_neg (by intro h;rw[hn,Bool.false_and]at h;cases h)];exact af hQ))
def Itl (K:W.Frag)(a:Addr):It:=⟨fun i H=>∃xs x,SqL K H a xs/\xs[i]?=some x,fun i H x H'=>H'=H/\∀xs,SqL K H a xs->xs[i]?=some x,fun i H=>∃xs,SqL K H a xs/\xs.length<=i⟩
def Itt (K:W.Frag)(a:Addr):It:=⟨fun i H=>∃xs x,SqT K H a xs/\xs[i]?=some x,fun i H x H'=>H'=H/\∀xs,SqT K H a xs->xs[i]?=some x,fun i H=>∃xs,SqT K H a xs/\xs.length<=i⟩
def Itr (lo:Int)(n:Nat):It:=⟨fun i _=>i<n,fun i H x H'=>H'=H/\x=.int (lo+i),fun i _=>n<=i⟩
theorem zci {P:a8}{w:World}{K:W.Frag}{tg:Expr}(a it:Addr):Turn P w K tg (Itl K a) [it] it (fun i h=>h.IsListIter it a i) where
 mem:=by simp
 obj:=fun i h st b hb=>by
  have e:b=it:=by simpa using hb
  subst e;obtain⟨o,e,c,d⟩:=st;exact⟨o,e,fun v z=>by rw[d]at z;cases z⟩
 keep:=fun i h h' st k=>st.at fun o e=>k it (by simp) o e
 item:=by intro X hP hw hK hc i pins s σ H E I hf st hg;subst hP hw hK;obtain⟨xs,x,hq,hx⟩:=hg;obtain⟨its,rv,p,hz⟩:=I.list hq;obtain⟨u,hu,ru⟩:=rv.get hx;obtain⟨f0,f1,f2,f3,f4,f5⟩:=hf it (by simp);refine wpAny_pyNext_list_item st p.isList (x:=u) (by simpa using hu) fun h' st' sb=>?_;have I1:Inv X pins σ H {s with heap:=h'}:=I.turned (t':=s.toks) (fun b o hb e=>(sb.2 b hb).trans e) f0 f1 f3 f4 f5;obtain⟨o,e,c,d⟩:=id st';exact⟨u,rfl,zgv (s:={s with heap:=h'}) e c d (by decide) ⟨x,H,I1,ru,⟨rfl,fun ys hy=>by rw[I.list_inj hy hq];exact hx⟩,st',fun b hb=>(hf b hb).1⟩⟩
 done:=by intro X hP hw hK hc i pins s σ H E I hf st hg;subst hP hw hK;obtain⟨xs,hq,hx⟩:=hg;obtain⟨its,rv,p,hz⟩:=I.list hq;obtain⟨f0,f1,f2,f3,f4,f5⟩:=hf it (by simp);have hl:=rv.length;exact wpAny_pyNext_list_end (I.ok.hd hc) st p.isList (by simp;omega) fun h' eb=>⟨rfl,I.turned (t':=s.toks) (fun b o hb e=>eb b o hb e) f0 f1 f3 f4 f5⟩
 self:=fun _ _ _ _ _ st h=>wpAny_pyIter_listiter st h
theorem zb4 {P:a8}{w:World}{K:W.Frag}{tg:Expr}(a it:Addr):Turn P w K tg (Itt K a) [it] it (fun i h=>h.IsTupleIter it a i) where
 mem:=by simp
 obj:=fun i h st b hb=>by
  have e:b=it:=by simpa using hb
  subst e;obtain⟨o,e,c,d⟩:=st;exact⟨o,e,fun v z=>by rw[d]at z;cases z⟩
 keep:=fun i h h' st k=>st.at fun o e=>k it (by simp) o e
 item:=by intro X hP hw hK hc i pins s σ H E I hf st hg;subst hP hw hK;obtain⟨xs,x,hq,hx⟩:=hg;obtain⟨its,rv,p,hz⟩:=I.tuple hq;obtain⟨u,hu,ru⟩:=rv.get hx;obtain⟨f0,f1,f2,f3,f4,f5⟩:=hf it (by simp);refine wpAny_pyNext_tuple_item st (show s.heap.IsTuple a its.toArray from p) (x:=u) (by simpa using hu) fun h' st' sb=>?_;have I1:Inv X pins σ H {s with heap:=h'}:=I.turned (t':=s.toks) (fun b o hb e=>(sb.2 b hb).trans e) f0 f1 f3 f4 f5;obtain⟨o,e,c,d⟩:=id st';exact⟨u,rfl,zgv (s:={s with heap:=h'}) e c d (by decide) ⟨x,H,I1,ru,⟨rfl,fun ys hy=>by rw[I.tuple_inj hy hq];exact hx⟩,st',fun b hb=>(hf b hb).1⟩⟩
 done:=by intro X hP hw hK hc i pins s σ H E I hf st hg;subst hP hw hK;obtain⟨xs,hq,hx⟩:=hg;obtain⟨its,rv,p,hz⟩:=I.tuple hq;obtain⟨f0,f1,f2,f3,f4,f5⟩:=hf it (by simp);have hl:=rv.length;exact wpAny_pyNext_tuple_end (I.ok.hd hc) st (show s.heap.IsTuple a its.toArray from p) (by simp;omega) fun h' eb=>⟨rfl,I.turned (t':=s.toks) (fun b o hb e=>eb b o hb e) f0 f1 f3 f4 f5⟩
 self:=fun _ _ _ _ _ st h=>wpAny_pyIter_tupleiter st h
theorem zam {P:a8}{w:World}{K:W.Frag}{tg:Expr}(it:Addr)(lo:Int)(n:Nat):Turn P w K tg (Itr lo n) [it] it (fun i h=>IsRangeIter h it (lo+(i:Nat)*1) ((n:Int)-(i:Nat)) 1) where
 mem:=by simp
 obj:=fun i h st b hb=>by
  have e:b=it:=by simpa using hb
  subst e;exact⟨_,st,fun v z=>by have z':Data.fields _=Data.cell v:=z;cases z'⟩
 keep:=fun i h h' st k=>k it (by simp) _ st
 item:=by intro X hP hw hK hc i pins s σ H E I hf st hg;subst hP hw hK;obtain⟨f0,f1,f2,f3,f4,f5⟩:=hf it (by simp);have W:=Walks.range (prog:=X.prog) (w:=X.w) (I.ok.hd hc) it lo 1 n;refine W.item i s _ _ hg st fun v h' tk hv st' kk=>?_;obtain⟨t,rfl⟩:=hv;have I1:Inv X pins σ H {s with heap:=h',toks:=tk}:=I.turned (fun b o hb e=>kk b o (by simpa using hb) e) f0 f1 f3 f4 f5;refine⟨_,rfl,zgv (s:={s with heap:=h',toks:=tk}) (n:="range_iterator") st' rfl rfl (by decide) ⟨.int (lo+i),H,I1,⟨t,?_⟩,⟨rfl,rfl⟩,st',fun b hb=>(hf b hb).1⟩⟩;rw[Int.mul_one]
 done:=by intro X hP hw hK hc i pins s σ H E I hf st hg;subst hP hw hK;obtain⟨f0,f1,f2,f3,f4,f5⟩:=hf it (by simp);exact wpAny_pyNext_range_end (I.ok.hd hc) st (by have:n<=i:=hg;omega) fun h' eb=>⟨rfl,I.turned (t':=s.toks) (fun b o hb e=>eb b o hb e) f0 f1 f3 f4 f5⟩
 self:=fun _ _ _ _ _ st h=>wpAny_pyIter_rangeiter st h
section
variable {X:Cx}{tg:Expr}
theorem zhh {pins:List (Addr×Obj)}{σ:St}{H:Hp}{s:ac}{R:It->Hp->Prop}{E:Value->ac->Prop}{lo hi:Int}{t u v:Tok}{tk:Nat}(I:Inv X pins σ H s)(h1:-(2 ^ 62)<=lo)(h2:lo<2 ^ 62)(h3:-(2 ^ 62)<=hi)(h4:hi<2 ^ 62)
  (q:R (Itr lo (hi-lo).toNat) H):wpAny (model X.prog X.w) X.A (ox (.ref s.heap.objs.size)) (PIE X pins σ tg R) E {s with heap:=s.heap.push {cls:=.type "range",data:=.fields #[.int lo t,.int hi u,.int 1 v]},toks:=tk}:=by
 refine wpAny_pyIter_range (IsRange.new ..) (small_one h1 h2 h3 h4) ?_;have I1:Inv X pins σ H {s with heap:=s.heap.push {cls:=.type "range",data:=.fields #[.int lo t,.int hi u,.int 1 v]},toks:=tk}:=I.kept fun b o e=>ae _ e;refine⟨(s.heap.push {cls:=.type "range",data:=.fields #[.int lo t,.int hi u,.int 1 v]}).objs.size,[(s.heap.push {cls:=.type "range",data:=.fields #[.int lo t,.int hi u,.int 1 v]}).objs.size],_,_,H,rfl,I1.kept (t':=tk) fun b o e=>ae _ e,zam _ lo (hi-lo).toNat,?_,fun b hb=>?_,q⟩
 ·have e1:lo+((0:Nat):Int)*1=lo:=by simp
  have e2:(((hi-lo).toNat:Nat):Int)-((0:Nat):Int)=Builtin.Range.rangeSize lo hi 1:=by rw[rangeSize_one];split<;>omega
  show IsRangeIter _ _ (lo+((0:Nat):Int)*1) ((((hi-lo).toNat:Nat):Int)-((0:Nat):Int)) 1;rw[e1,e2];exact ay _ rfl
 ·have e:b=(s.heap.push {cls:=.type "range",data:=.fields #[.int lo t,.int hi u,.int 1 v]}).objs.size:=by simpa using hb
  subst e;exact I1.fpOk (am _) (I1.hok.fresh (am _))
def ztf (ta:TA):TI:=fun σ H R=>ta σ H fun vs H1=>∃j:Int,vs=[.int j]/\-(2 ^ 62)<=j/\j<2 ^ 62/\R (Itr 0 j.toNat) H1
theorem zc2 {a:Expr}{ta:TA}{p pos:Pos}(hg:Gl X "range")(hm:X.mg "range"=none)(ha:PA X [a] ta)(hs:dn [a] X.env=[(false,eval a X.env)]:=by rfl):PI X tg (.Call (.Name "range" p) [a] [] pos) (ztf ta):=by
 intro pins s σ H R I h;refine Call_ (z2r I hg hm boot_range (PyProof.Rows.callWith_type1 (thn (ha pos pins s σ H _ I h) fun us s1 ⟨vs,H1,I1,r1,q1⟩=>?_) hs rfl));obtain⟨j,e,q1,q2,q⟩:=q1;subst e;cases r1 with
 |cons r rr=>cases rr;obtain⟨t,rfl⟩:=r;exact call_range_1 (zhh I1 (by omega) (by omega) q1 q2 (by simpa using q))
def tFor (wi:TI)(g:TG)(tb:TS):TS:=fun D σ H=>wi σ H fun J H1=>∃W:Nat->Nat->St->Hp->Prop,(∃m,W 0 m σ H1)/\∀i m σ H,W i m σ H->(J.stop i H/\D.nx σ H)\/(J.go i H/\∃N:St->Hp->Prop,(∀σ' H',N σ' H'->∃m',m'<m/\W (i+1) m' σ' H')/\∀x H',J.yld i H x H'->g x σ H' fun σ2 H2=>tb {D with nx:=N,ct:=N,bk:=D.nx} σ2 H2)
def z6y (fp:List Addr)(h:Heap):List (Addr×Obj):=fp.filterMap fun b=>(h.get? b).map fun o=>(b,o)
theorem z1f {fp:List Addr}{h:Heap}{b:Addr}{o:Obj}(hb:b∈fp)(e:h.get? b=some o):(b,o)∈z6y fp h:=gf.mpr ⟨b,hb,by rw[e];rfl⟩
theorem zdi {fp:List Addr}{h:Heap}{p:Addr×Obj}(hp:p∈z6y fp h):p.1∈fp/\h.get? p.1=some p.2:=by
 obtain⟨b,hb,e⟩:=gf.mp hp;cases q:h.get? b with
 |none=>rw[q]at e;cases e
 |some o=>rw[q]at e;have e':(b,o)=p:=Option.some.inj e;subst e';exact⟨hb,q⟩
theorem Inv.pinned {pins:List (Addr×Obj)}{σ:St}{H:Hp}{s:ac}{fp:List Addr}(I:Inv X pins σ H s)(hf:∀b∈fp,FpOk X pins H b)(ho:∀b∈fp,∃o,s.heap.get? b=some o/\∀v,o.data≠.cell v):Inv X (pins++z6y fp s.heap) σ H s:=I.pins_of fun p hp=>(du.mp hp).elim (fun z=>I.pin p (ax _ z)) fun z=>by obtain⟨hb,e⟩:=zdi z;obtain⟨f0,f1,f2,_⟩:=hf p.1 hb;obtain⟨o,e',d⟩:=ho p.1 hb;rw[e]at e';cases e';exact⟨e,f0,f1,f2,d⟩
theorem Inv.unpinned {pins pl:List (Addr×Obj)}{σ:St}{H:Hp}{s:ac}(I:Inv X (pins++pl) σ H s):Inv X pins σ H s:=I.pins_of fun p hp=>I.pin p (ax _ (gk _ hp))
theorem zpt {iter:Expr}{body:List Stmt}{wi:TI}{g:TG}{tb:TS}{pos:Pos}(hp:gq (model X.prog X.w) X.A X.env X.xe)(hc:X.calm=true)(hi:PI X tg iter wi)(hg:PG X tg g)(hb:PSs X body tb)
  (hs:∀x,gu iter X.env x=pure x:=by intro _;rfl):PS X (.For tg iter body [] pos) (tFor wi g tb):=by
 intro pins s σ H D I h;refine wpAny_For (thn (hi pins s σ H _ I h) fun v s1 h1=>thn h1 fun itv s2 h2=>?_) hs;obtain⟨it,fp,tn,J,H2,e,I2,T,st2,f2,W,⟨m0,w0⟩,turn⟩:=h2;subst e;have stat:∀{H':Hp},(∀b∈fp,H' b=none)->∀b∈fp,FpOk X pins H' b:=fun hn b hb=>⟨hn b hb,(f2 b hb).2⟩;refine codeAny_forLoop_any (fun n s'=>∃i σ' H',Inv X pins σ' H' s'/\tn i s'.heap/\(∀b∈fp,H' b=none)/\W i n σ' H') ?_ m0 ⟨0,σ,H2,I2,st2,fun b hb=>(f2 b hb).1,w0⟩
 rintro n s3 ⟨i,σ3,H3,I3,st3,fr3,w3⟩
 rcases turn i n σ3 H3 w3 with⟨stop,qn⟩|⟨go,N,hN,step⟩
 ·refine iy hp (thn (T.done X rfl rfl rfl hc i pins s3 σ3 H3 X.xe I3 (stat fr3) st3 stop) fun r s4 ⟨hr,I4⟩=>?_);subst hr;exact mw ⟨σ3,H3,I4,qn⟩
 ·refine iy hp (thn (T.item X rfl rfl rfl hc i pins s3 σ3 H3 X.xe I3 (stat fr3) st3 go) fun r s4 ⟨u,hr,h4⟩=>?_);subst hr;refine iy hp (thn h4 fun _ s5 ⟨x,H5,I5,r5,y5,st5,fr5⟩=>?_);have I5':=I5.pinned (stat fr5) (T.obj _ _ st5);refine iy hp (thn (hg _ s5 σ3 H5 x u _ I5' r5 (step x H5 y5)) fun _ s6 ⟨σ6,H6,I6,q6⟩=>?_);refine iy hp (thn (hb _ s6 σ6 H6 _ I6 q6) fun f s7 q7=>?_);have again:∀{σ7:St} {H7:Hp},Inv X (pins++z6y fp s5.heap) σ7 H7 s7->N σ7 H7->∃m,m<n/\∃i σ' H',Inv X pins σ' H' s7/\tn i s7.heap/\(∀b∈fp,H' b=none)/\W i m σ' H':=fun{σ7 H7} I7 n7=>by obtain⟨m',hm,w7⟩:=hN σ7 H7 n7;refine⟨m',hm,i+1,σ7,H7,I7.unpinned,T.keep _ _ _ st5 fun b hb o e=>(I7.pin (b,o) (ax _ (ax _ (z1f hb e)))).1,fun b hb=>?_,w7⟩;obtain⟨o,e,d⟩:=T.obj _ _ st5 b hb;exact(I7.pin (b,o) (ax _ (ax _ (z1f hb e)))).2.1
  cases f with
  |next=>obtain⟨σ7,H7,I7,n7⟩:=q7;exact again I7 n7
  |cont=>obtain⟨σ7,H7,I7,n7⟩:=q7;exact again I7 n7
  |brk=>obtain⟨σ7,H7,I7,q7⟩:=q7;exact⟨σ7,H7,I7.unpinned,q7⟩
  |ret v=>obtain⟨x7,σ7,H7,I7,r7,q7⟩:=q7;exact⟨x7,σ7,H7,I7.unpinned,r7,q7⟩
end
abbrev R2:=V->V->Hp->VK->Prop
def OpR (X:Cx)(f:Value->Value->Sem Value)(r:R2):Prop:=∀(pins:List (Addr×Obj)) (s:ac) (σ:St) (H:Hp) (x y:V) (v u:Value) (Q:VK),Inv X pins σ H s->RelV x v->RelV y u->r x y H Q->wpAny (model X.prog X.w) X.A (f v u) (EP X pins σ Q) X.xe s
def CallR (X:Cx)(f:Value)(r:List V->Hp->VK->Prop):Prop:=∀(pins:List (Addr×Obj)) (s:ac) (σ:St) (H:Hp) (xs:List V) (us:List Value) (Q:VK),Inv X pins σ H s->Vals xs us->r xs H Q->wpAny (model X.prog X.w) X.A (call f us) (EP X pins σ Q) X.xe s
def TruR (X:Cx)(r:V->Hp->(Bool->Hp->Prop)->Prop):Prop:=∀(pins:List (Addr×Obj)) (s:ac) (σ:St) (H:Hp) (x:V) (v:Value) (Q:Bool->Hp->Prop),Inv X pins σ H s->RelV x v->r x H Q->wpAny (model X.prog X.w) X.A (vf v) (TP X pins σ Q) X.xe s
def tOp (r:R2)(ta tb:TE):TE:=fun σ H Q=>ta σ H fun x H1=>tb σ H1 fun y H2=>r x y H2 Q
def rI (C:Int->Int->Prop)(g:Int->Int->V):R2:=fun x y H Q=>∃i j,x=.int i/\y=.int j/\C i j/\Q (g i j) H
def rI0 (g:Int->Int->V):R2:=fun x y H Q=>∃i j,x=.int i/\y=.int j/\Q (g i j) H
section
variable {X:Cx}{a b c:Expr}{ta tb tc:TE}{pos:Pos}
theorem binT (ha:PE X a ta)(hb:PE X b tb){pins:List (Addr×Obj)}{s:ac}{σ:St}{H:Hp}{R:V->V->Hp->Prop}(I:Inv X pins σ H s)
  (h:ta σ H fun x H1=>tb σ H1 fun y H2=>R x y H2) {Q:Value->ac->Prop} {f:Value->Value->Sem Value}
  (hf:∀v u s2 x y H2,Inv X pins σ H2 s2->RelV x v->RelV y u->R x y H2->wpAny (model X.prog X.w) X.A (f v u) Q X.xe s2):
  wpAny (model X.prog X.w) X.A (eval a X.env) (fun v s₁=>wpAny (model X.prog X.w) X.A (eval b X.env) (fun u s₂=>wpAny (model X.prog X.w) X.A (f v u) Q X.xe s₂) X.xe s₁) X.xe s:=by
 refine thn (ha pins s σ H _ I h) fun v s1 ⟨x,H1,I1,r1,q1⟩=>?_;refine thn (hb pins s1 σ H1 _ I1 q1) fun u s2 ⟨y,H2,I2,r2,q2⟩=>?_;exact hf v u s2 x y H2 I2 r1 r2 q2
theorem znn {op:kq}{r:R2}(ho:OpR X (gm op) r)(ha:PE X a ta)(hb:PE X b tb):PE X (.BinOp a op b pos) (tOp r ta tb):=by intro pins s σ H Q I h;exact wpAny_BinOp (binT ha hb I h fun v u s2 x y H2 I2 rx ry q=>ho pins s2 σ H2 x y v u Q I2 rx ry q)
theorem opI {f:Value->Value->Sem Value}{C:Int->Int->Prop}{g:Int->Int->Int}
  (rule:∀(i j:Int) (t u:Tok) (s:ac) (Q:Value->ac->Prop) (E:Value->ac->Prop),C i j->Q (.int (g i j) s.toks) {s with toks:=s.toks+1}->wpAny (model X.prog X.w) X.A (f (.int i t) (.int j u)) Q E s):
  OpR X f (rI C fun i j=>.int (g i j)):=by
 intro pins s σ H x y v u Q I rx ry h;obtain⟨i,j,rfl,rfl,hc,q⟩:=h;obtain⟨t,rfl⟩:=rx;obtain⟨t',rfl⟩:=ry;exact rule i j t t' s _ _ hc ⟨.int (g i j),H,I.tok _,⟨_,rfl⟩,q⟩
theorem opI0 {f:Value->Value->Sem Value}{g:Int->Int->Int}
  (rule:∀(i j:Int) (t u:Tok) (s:ac) (Q:Value->ac->Prop) (E:Value->ac->Prop),Q (.int (g i j) s.toks) {s with toks:=s.toks+1}->wpAny (model X.prog X.w) X.A (f (.int i t) (.int j u)) Q E s):
  OpR X f (rI0 fun i j=>.int (g i j)):=by
 intro pins s σ H x y v u Q I rx ry h;obtain⟨i,j,rfl,rfl,q⟩:=h;obtain⟨t,rfl⟩:=rx;obtain⟨t',rfl⟩:=ry;exact rule i j t t' s _ _ ⟨.int (g i j),H,I.tok _,⟨_,rfl⟩,q⟩
theorem opB0 {f:Value->Value->Sem Value}{g:Int->Int->Bool}
  (rule:∀(i j:Int) (t u:Tok) (s:ac) (Q:Value->ac->Prop) (E:Value->ac->Prop),Q (.bool (g i j)) s->wpAny (model X.prog X.w) X.A (f (.int i t) (.int j u)) Q E s):
  OpR X f (rI0 fun i j=>.bl (g i j)):=by
 intro pins s σ H x y v u Q I rx ry h;obtain⟨i,j,rfl,rfl,q⟩:=h;obtain⟨t,rfl⟩:=rx;obtain⟨t',rfl⟩:=ry;exact rule i j t t' s _ _ ⟨.bl (g i j),H,I,rfl,q⟩
def CPow (i j:Int):Prop:=0<=j/\j<=1000000/\i.natAbs<2 ^ 64
def CMul (i j:Int):Prop:=(-(2 ^ 64)<i/\i<2 ^ 64)\/(-(2 ^ 64)<j/\j<2 ^ 64)
theorem CMul.ok {i j:Int}(h:CMul i j):IntMulOk i j:=by
 rcases h with⟨h1,h2⟩|⟨h1,h2⟩
 ·exact .of_left (intBits_le_64 h1 h2)
 ·exact .of_right (intBits_le_64 h1 h2)
theorem znh:OpR X (gm .Add) (rI0 fun i j=>.int (i+j)):=opI0 fun _ _ _ _ _ _ _ q=>add_int q
theorem znu:OpR X (gm .Sub) (rI0 fun i j=>.int (i-j)):=opI0 fun _ _ _ _ _ _ _ q=>sub_int q
theorem zp0:OpR X (gm .Mult) (rI CMul fun i j=>.int (i*j)):=opI fun _ _ _ _ _ _ _ hc q=>mul_int q hc.ok
theorem zn7:OpR X (gm .Mod) (rI (fun _ j=>0<j) fun i j=>.int (i%j)):=opI fun i j _ _ _ _ _ hc q=>by have h1:(0:Int)<j:=hc;exact mod_int' (by omega) (by rw[Int.fmod_eq_emod_of_nonneg i (by omega)];exact q)
theorem zn6:OpR X (gm .Pow) (rI CPow fun i j=>.int (i ^ j.toNat)):=opI fun _ _ _ _ _ _ _ hc q=>pow_int_small hc.1 hc.2.1 hc.2.2 q
end
section
variable {X:Cx}{a b c:Expr}{ta tb tc:TE}{pos:Pos}
theorem zhx {pins:List (Addr×Obj)}{σ:St}{H:Hp}{s:ac}{Q:VK}{k k':Bool}(I:Inv X pins σ H s)(q:Q (.bl k) H)(e:k=k'):EP X pins σ Q (.bool k') s:=by subst e;exact⟨.bl k,H,I,rfl,q⟩
theorem zuh:OpR X (df .Lt) (rI0 fun i j=>.bl (decide (i<j))):=opB0 fun _ _ _ _ _ _ _ q=>lt_int q
theorem zt0:OpR X (df .Gt) (rI0 fun i j=>.bl (decide (j<i))):=opB0 fun _ _ _ _ _ _ _ q=>gt_int q
theorem zbi:OpR X (df .Lt) (fun x y H Q=>∃i j,x=.str i/\y=.str j/\Q (.bl (decide (i.cps.toList<j.cps.toList))) H):=by intro pins s σ H x y v u Q I rx ry h;obtain⟨i,j,rfl,rfl,q⟩:=h;obtain⟨t,rfl⟩:=rx;obtain⟨t',rfl⟩:=ry;exact lt_str (zhx I q rfl)
theorem zd4:OpR X (df .In) (fun x y H Q=>∃i j,x=.str i/\y=.str j/\Q (.bl (!(dq j i 0 j.length 1).isEmpty)) H):=by intro pins s σ H x y v u Q I rx ry h;obtain⟨i,j,rfl,rfl,q⟩:=h;obtain⟨t,rfl⟩:=rx;obtain⟨t',rfl⟩:=ry;exact in_str (zhx I q rfl)
theorem OpR.or {f:Value->Value->Sem Value}{r r':R2}(h:OpR X f r)(h':OpR X f r'):OpR X f (fun x y H Q=>r x y H Q\/r' x y H Q):=by
 intro pins s σ H x y v u Q I rx ry q;rcases q with q|q
 ·exact h pins s σ H x y v u Q I rx ry q
 ·exact h' pins s σ H x y v u Q I rx ry q
theorem zlu {op:CmpOp}{r:R2}(ho:OpR X (df op) r)(ha:PE X a ta)(hb:PE X b tb)(hm:gi op b=false):PE X (.Compare a [op] [b] pos) (tOp r ta tb):=by intro pins s σ H Q I h;exact wpAny_Compare1 (binT ha hb I h fun v u s2 x y H2 I2 rx ry q=>ho pins s2 σ H2 x y v u Q I2 rx ry q) hm
def zr2 (t:TE):TT:=fun σ H Q=>t σ H fun x H'=>∃k,x=.bl k/\Q k H'
theorem zj0 {op:CmpOp}{r:R2}(ho:OpR X (df op) r)(ha:PE X a ta)(hb:PE X b tb)(hm:gi op b=false):PT X (.Compare a [op] [b] pos) (zr2 (tOp r ta tb)):=by intro pins s σ H Q I h;refine qc (thn (ha pins s σ H _ I h) fun v s1 ⟨x,H1,I1,r1,q1⟩=>thn (hb pins s1 σ H1 _ I1 q1) fun u s2 ⟨y,H2,I2,r2,q2⟩=>thn (ho pins s2 σ H2 x y v u _ I2 r1 r2 q2) fun c s3 ⟨z,H3,I3,r3,k,e,q3⟩=>?_) hm;subst e;cases r3;exact i6 ⟨H3,I3,q3⟩
def TruV (K:W.Frag)(x:V)(H:Hp)(k:Bool):Prop:=
 match x with
 |.non=>k=false
 |.bl b=>k=b
 |.int i=>k=(i != 0)
 |.str y=>y.length<=bh/\k=((y.length:Int) != 0)
 |.ref p=>(∃xs,SqL K H p xs/\k=!xs.isEmpty)\/(∃xs,SqT K H p xs/\k=!xs.isEmpty)\/∃kvs,H p=some (.dK kvs)/\k=!kvs.isEmpty
 |_=>False
theorem zay {κ:Type}{kvs:List (κ×V)}{vs:List (κ×Value)}(r:KV kvs vs):(!vs.isEmpty)=!kvs.isEmpty:=by cases r<;>rfl
theorem z5h {xs:List V}{its:List Value}(r:Vals xs its):(!its.toArray.isEmpty)=!xs.isEmpty:=by cases r<;>simp
theorem z4o:(bh:Nat)<2 ^ 63:=by rw[dr];decide
theorem zhr:TruR X (fun x H Q=>∃k,TruV X.K x H k/\Q k H):=by
 intro pins s σ H x v Q I rx h;obtain⟨k,e,q⟩:=h;have hl:=z4o;have hs:bh=16777216:=dr;cases x with
 |non=>cases rx;have e':k=false:=e;subst e';exact truthy_none ⟨H,I,q⟩
 |bl b=>cases rx;have e':k=b:=e;subst e';exact i6 ⟨H,I,q⟩
 |int i=>obtain⟨t,rfl⟩:=rx;have e':k=(i != 0):=e;subst e';exact PySem.P.truthy_int ⟨H,I,q⟩
 |str y=>obtain⟨t,rfl⟩:=rx;obtain⟨hy,e'⟩:y.length<=bh/\k=((y.length:Int) != 0):=e;subst e';exact PySem.P.truthy_str (by omega) ⟨H,I.tok _,q⟩
 |ref p=>
  cases rx;have e':(∃xs,SqL X.K H p xs/\k=!xs.isEmpty)\/(∃xs,SqT X.K H p xs/\k=!xs.isEmpty)\/∃kvs,H p=some (.dK kvs)/\k=!kvs.isEmpty:=e;rcases e' with⟨xs,hx,e'⟩|⟨xs,hx,e'⟩|⟨kvs,hx,e'⟩
  ·subst e';obtain⟨its,r,pl,hz⟩:=I.list hx;have hlen:=r.length;exact wpAny_truthy_list pl.isList (by simp only[aw];omega) ⟨H,I.tok _,by rw[z5h r];exact q⟩
  ·subst e';obtain⟨its,r,pl,hz⟩:=I.tuple hx;have hlen:=r.length;exact truthy_tuple pl (by simp only[aw];omega) ⟨H,I.tok _,by rw[z5h r];exact q⟩
  ·subst e';obtain⟨hz,hS,vs,r,m⟩:kvs.length<=bh/\(p==lx)=false/\∃vs,KV kvs vs/\s.heap.DictOf (z14 X.prog X.w) p vs:=I.hok p _ hx;have hlen:kvs.length=vs.length:=Paired.length r;exact wpAny_truthy_dict hS m (by omega) ⟨H,I.tok _,by rw[zay r];exact q⟩
 |_=>exact(show False from e).elim
theorem zfe (ha:PE X a ta)(he:∀whole,qi a X.env whole=(do let v <-whole;vc a.pos;nc [v] (vf v))):
  PT X a (fun σ H Q=>ta σ H fun x H'=>∃k,TruV X.K x H' k/\Q k H'):=by
 intro pins s σ H Q I h;exact isTrue_plain (thn (ha pins s σ H _ I h) fun v s1 ⟨x,H1,I1,r1,q1⟩=>zhr pins s1 σ H1 x v Q I1 r1 q1) (he _)
theorem zb3:OpR X (gm .Add) (fun x y H Q=>∃i j,x=.str i/\y=.str j/\i.length+j.length<=bh/\Q (.str (i++j)) H):=by intro pins s σ H x y v u Q I rx ry h;obtain⟨i,j,rfl,rfl,hz,q⟩:=h;obtain⟨t,rfl⟩:=rx;obtain⟨t',rfl⟩:=ry;exact add_str (fun t' tk=>⟨.str (i++j),H,I.tok _,⟨_,rfl⟩,q⟩) hz
theorem vals1 {x:V}{us:List Value}(r:Vals [x] us):∃u,us=[u]/\RelV x u:=by
 cases r with
 |cons r1 r2=>cases r2;exact⟨_,rfl,r1⟩
theorem vals2 {x y:V}{us:List Value}(r:Vals [x,y] us):∃u w',us=[u,w']/\RelV x u/\RelV y w':=by
 cases r with
 |cons r1 r2=>
  cases r2 with
  |cons r3 r4=>cases r4;exact⟨_,_,rfl,r1,r3⟩
theorem zep (hc:X.calm=true):CallR X (.builtin "max") (fun xs H Q=>∃i j,xs=[.int i,.int j]/\Q (.int (if j>i then j else i)) H):=by
 intro pins s σ H xs us Q I r h;obtain⟨i,j,rfl,q⟩:=h;obtain⟨u,w',rfl,⟨t,rfl⟩,⟨t',rfl⟩⟩:=vals2 r;refine max_two_ints (I.ok.hd hc) fun h' tk k=>⟨_,H,I.kept k,?_,q⟩;by_cases hj:j>i
 ·rw[if_pos hj,if_pos hj];exact⟨_,rfl⟩
 ·rw[if_neg hj,if_neg hj];exact⟨_,rfl⟩
theorem zes (hc:X.calm=true):CallR X (.builtin "min") (fun xs H Q=>∃i j,xs=[.int i,.int j]/\Q (.int (if j<i then j else i)) H):=by
 intro pins s σ H xs us Q I r h;obtain⟨i,j,rfl,q⟩:=h;obtain⟨u,w',rfl,⟨t,rfl⟩,⟨t',rfl⟩⟩:=vals2 r;refine min_two_ints (I.ok.hd hc) fun h' tk k=>⟨_,H,I.kept k,?_,q⟩;by_cases hj:j<i
 ·rw[if_pos hj,if_pos hj];exact⟨_,rfl⟩
 ·rw[if_neg hj,if_neg hj];exact⟨_,rfl⟩
theorem zcv:CallR X (.type "int") (fun xs H Q=>(∃i,xs=[.int i]/\Q (.int i) H)\/∃k,xs=[.bl k]/\Q (.int (if k then 1 else 0)) H):=by
 intro pins s σ H xs us Q I r h;rcases h with⟨i,rfl,q⟩|⟨k,rfl,q⟩
 ·obtain⟨u,rfl,t,rfl⟩:=vals1 r;exact call_int_int ⟨.int i,H,I,⟨_,rfl⟩,q⟩
 ·obtain⟨u,rfl,r1⟩:=vals1 r;cases r1;exact call_int_bool ⟨.int (if k then 1 else 0),H,I.tok _,⟨_,rfl⟩,q⟩
end
structure ObjM (h:Heap)(x dx C:Addr)(mA:Str->Option Value):Prop where
 obj:h.get? x=some (W.instObj C dx)
 ns:h.Ns1 dx mA
 ne:dx≠x
theorem zbf {h:Heap}{dx:Addr}{mA:Str->Option Value}(n:h.Ns1 dx mA):∃od,h.get? dx=some od/\∀name,W.lookIn name od=some (mA name):=by
 obtain⟨o,es,ep,ho,hd,hk,_,hm⟩:=n;refine⟨o,ho,fun name=>?_⟩;have e:=hm name;unfold nsFind findBy at e;rw[<-Array.find?_toList]at e;unfold W.lookIn;rw[hd]
 dsimp only
 split
 ·rename_i y q;rw[q]at e;exact congrArg some e
 ·rename_i q;rw[q]at e;have a:es.toList.any (·.refKey)=false:=by rw[List.any_eq_false];intro y hy;obtain⟨z,t,hkey⟩:=hk y (Array.mem_toList_iff.mp hy);simp[DictEntry.refKey,hkey]
  have a':¬es.toList.any (·.refKey)=true:=by rw[a];exact b9
  rw[if_neg a'];exact congrArg some e
theorem ObjM.look {h:Heap}{x dx C:Addr}{mA:Str->Option Value}(I:ObjM h x dx C mA):∃od,W.InstAt h x (W.instObj C dx) C (some od)/\∀name,W.lookIn name od=some (mA name):=
 let⟨od,ho,hl⟩:=zbf I.ns
 ⟨od,⟨I.obj,rfl,rfl,ho⟩,hl⟩
section
variable {prog:a8}{w:World}{A:b7}{E:Value->ac->Prop}{s:ac}{K:W.Frag}{x dx C f:Addr}{mA:Str->Option Value}{name:Str}{v:Value}
end
theorem RelO.some_of {v:V}{o:Option Value}(r:RelO (some v) o):∃u,o=some u/\RelV v u:=by
 cases o with
 |none=>exact(show False from r).elim
 |some u=>exact⟨u,rfl,r⟩
theorem RelO.none_of {o:Option Value}(r:RelO none o):o=none:=by
 cases o with
 |none=>rfl
 |some u=>exact(show False from r).elim
section
variable {P:a8}{w:World}{H H':Hp}{h h':Heap}{a C dx:Addr}{fs fs':List (Str×V)}
end
structure Cls (K:W.Frag)(C:Addr):Prop where
 pg:W.plainGet K C Str.empty=true
 hd:W.hasDictIn K C=true
 po:W.plainOver K C=true
 sa:W.findIn K (.ref C) "__setattr__"=some (some (.builtin "object.__setattr__"))
theorem Cls.get {K:W.Frag}{C:Addr}(c:Cls K C)(f:Str):W.plainGet K C f=true:=c.pg
section
variable {X:Cx}{pins:List (Addr×Obj)}{σ:St}{H:Hp}{s:ac}{a C dx:Addr}{fs:List (Str×V)}{f:Str}{v:V}{A:b7}{E:Value->ac->Prop}
end
section
variable {X:Cx}{o e value:Expr}{f:Str}{pos pos' tpos:Pos}{ta tv:TE}
end
section
variable {X:Cx}{pins:List (Addr×Obj)}{σ:St}{H:Hp}{s:ac}{A:b7}{E:Value->ac->Prop}{Q:Value->ac->Prop}{c:Value}{b:Bool}
inductive TyOf (K:W.Frag)(H:Hp):V->Value->Prop where
 |non:TyOf K H .non (.type "NoneType")
 |bl (x:Bool):TyOf K H (.bl x) (.type "bool")
 |int (i:Int):TyOf K H (.int i) (.type "int")
 |str (x:Str):TyOf K H (.str x) (.type "str")
 |lst {a:Addr} {xs:List V} (e:H a=some (.lst xs)):TyOf K H (.ref a) (.type "list")
 |frz {a:Addr} {o:Obj} {xs:List V} (e:H a=some (.frz o (.lst xs))):TyOf K H (.ref a) (.type "list")
 |tup {a:Addr} {xs:List V} (e:H a=some (.tup xs)):TyOf K H (.ref a) (.type "tuple")
 |dK {a:Addr} {kvs:List (Key×V)} (e:H a=some (.dK kvs)):TyOf K H (.ref a) (.type "dict")
theorem z2g {x:V}{u t:Value}(I:Inv X pins σ H s)(rx:RelV x u)(ty:TyOf X.K H x t)(e:W.kitOne X.K t c=some b)(h:∀tk,Q (.bool b) {s with toks:=tk}):
  wpAny (model X.prog X.w) A (call (.builtin "isinstance") [u,c]) Q E s:=by
 cases ty with
 |non=>cases(show u=Value.none from rx);exact W.kia_one W.kitx_none I.kIn True.intro e (fun z=>nomatch z) h
 |bl y=>cases(show u=Value.bool y from rx);exact W.kia_one W.kitx_bool I.kIn True.intro e (fun z=>nomatch z) h
 |int i=>obtain⟨t,q⟩:=(show ∃t,u=Value.int i t from rx);cases q;exact W.kia_one W.kitx_int I.kIn True.intro e (fun z=>nomatch z) h
 |str y=>obtain⟨t,q⟩:=(show ∃t,u=Value.str y t from rx);cases q;exact W.kia_one W.kitx_str I.kIn True.intro e (fun z=>nomatch z) h
 | @lst a xs ea=>cases(show u=Value.ref a from rx);obtain⟨_,_,n,_,h1⟩:=(show z0s X.prog X.w H s.heap a (.lst xs)from I.hok a _ ea);exact W.kia_one W.kitx_list I.kIn ⟨_,h1,rfl⟩ e (fun z=>nomatch z) h
 | @frz a ob xs ea=>cases(show u=Value.ref a from rx);obtain⟨_,_,_,n,_,h1⟩:=(show z0s X.prog X.w H s.heap a (.frz ob (.lst xs))from I.hok a _ ea);exact W.kia_one W.kitx_list I.kIn ⟨_,h1,rfl⟩ e (fun z=>nomatch z) h
 | @tup a xs ea=>cases(show u=Value.ref a from rx);obtain⟨_,_,_,p⟩:=(show z0s X.prog X.w H s.heap a (.tup xs)from I.hok a _ ea);obtain⟨o,h1,h2,_⟩:=p.tup;exact W.kia_one W.kitx_tuple I.kIn ⟨o,h1,h2⟩ e (fun z=>nomatch z) h
 | @dK a kvs ea=>cases(show u=Value.ref a from rx);obtain⟨_,_,vs,_,p⟩:=(show z0s X.prog X.w H s.heap a (.dK kvs)from I.hok a _ ea);obtain⟨o,es,ep,h1,h2,_⟩:=p;exact W.kia_one W.kitx_dict I.kIn ⟨o,h1,h2.1⟩ e (fun z=>nomatch z) h
end
structure Room (k:Nat)(A:b7):Prop where
 hd:A.handled=none
 dp:A.depth+3*k+5<recursionLimit
 un:A.units+16*k+200<cLine
theorem Room.mono {j k:Nat}{A:b7}(r:Room k A)(h:j<=k):Room j A:=⟨r.hd,by have:=r.dp;omega,by have:=r.un;omega⟩
theorem Room.deeper {k:Nat}{A:b7}(r:Room (k+1) A)(env:Env):Room k (A.deeper env):=⟨r.hd,by have:=r.dp;show A.depth+1+3*k+5<_;omega,by have:=r.un;show A.units+3+16*k+200<_;omega⟩
theorem Room.in1 {k:Nat}{A:b7}(r:Room (k+1) A):Room k A.in1:=⟨r.hd,by have:=r.dp;show A.depth+3*k+5<_;omega,by have:=r.un;show A.units+1+16*k+200<_;omega⟩
theorem Room.depth {k:Nat}{A:b7}(r:Room k A):A.depth<recursionLimit:=by have:=r.dp;omega
theorem Room.units {k:Nat}{A:b7}(r:Room k A):A.units+64<cLine:=by have:=r.un;omega
def tNil:TA:=fun _ H Q=>Q [] H
def zl5 (ta:TE)(tr:TA):TA:=fun σ H Q=>ta σ H fun x H1=>tr σ H1 fun xs H2=>Q (x::xs) H2
section
variable {X:Cx}{e:Expr}{es:List Expr}{te:TE}{t:TA}{pos:Pos}
theorem z2q:PA X [] tNil:=fun _ _ _ _ H Q I h=>Calls.spliced_nil ⟨[],H,I,.nil,h⟩
theorem z4f (ha:PE X e te)(hr:PA X es t)(hs:dn (e::es) X.env=(false,eval e X.env)::dn es X.env:=by rfl):PA X (e::es) (zl5 te t):=by intro pos pins s σ H Q I h;rw[hs];show wpAny _ _ (spliced ((false,eval e X.env)::li pos (dn es X.env))) _ _ s;refine ny (thn (ha pins s σ H _ I h) fun u s1 ⟨x,H1,I1,r1,q1⟩=>?_);exact thn (hr pos pins s1 σ H1 _ I1 q1) fun us s2 ⟨xs,H2,I2,r2,q2⟩=>⟨x::xs,H2,I2,.cons r1 r2,q2⟩
def tTup (t:TA):TE:=fun σ H Q=>t σ H fun xs H1=>xs.length<=bh/\∀p,H1 p=none->Q (.ref p) (upd H1 p (.tup xs))
def tLst (t:TA):TE:=fun σ H Q=>t σ H fun xs H1=>xs.length<=bh/\∀p,H1 p=none->Q (.ref p) (upd H1 p (.lst xs))
theorem znr {x1}(h:PA X es t):PE X (.Tuple es x1 pos) (tTup t):=by intro pins s σ H Q I hq;refine wpAny_Tuple_spliced (thn (h pos pins s σ H _ I hq) fun us s1 ⟨xs,H1,I1,r,z,q⟩=>⟨by rw[<-r.length];exact z,?_⟩);have hf:H1 s1.heap.objs.size=none:=I1.hok.fresh (am _);refine⟨.ref s1.heap.objs.size,upd H1 s1.heap.objs.size (.tup xs),I1.laid (t':=s1.toks) (fun b u e=>ae _ e) (am _) ?_,rfl,q _ hf⟩;exact⟨z,us,r,⟨_,ay _ rfl⟩⟩
theorem zi5 (h:PA X es t):PE X (.List es pos) (tLst t):=by intro pins s σ H Q I hq;refine wpAny_List_spliced (thn (h pos pins s σ H _ I hq) fun us s1 ⟨xs,H1,I1,r,z,q⟩=>⟨by rw[<-r.length];exact z,?_⟩);have hf:H1 s1.heap.objs.size=none:=I1.hok.fresh (am _);refine⟨.ref s1.heap.objs.size,upd H1 s1.heap.objs.size (.lst xs),I1.laid (t':=s1.toks) (fun b u e=>ae _ e) (am _) ?_,rfl,q _ hf⟩;exact⟨z,us,0,r,ay _ rfl⟩
end
abbrev Sp:=List V->Hp->VK->XK->Prop
abbrev CXT:=List Env->Hp->ac->XK->Value->ac->Prop
structure Env0 (P:a8)(w:World)(K:W.Frag)(mg:Str->Option Value)(base:Heap)(A:b7)(outer:List Env)(s:ac)(H:Hp):Prop where
 frames:A.frames=some outer
 mod:Mod K mg base
 bs:∀b o,base.get? b=some o->s.heap.get? b=some o/\H b=none
 bsz:base.objs.size<=s.heap.objs.size
 funs:s.heap.FunFrames base outer
 frf:∀b∈frs outer,H b=none
 hok:HOk P w H s.heap
 bare:m9 s.gens
def CE (outer:List Env)(P:a8)(w:World)(H:Hp)(s:ac)(Q:VK)(u:Value)(s':ac):Prop:=∃v H',s'.os=s.os/\m9 s'.gens/\Un (frs outer) [] H H' s.heap s'.heap/\HOk P w H' s'.heap/\RelV v u/\Q v H'
def CR (CX:CXT)(outer:List Env)(P:a8)(w:World)(H:Hp)(s:ac)(Q:VK)(E:XK)(r:uu)(s':ac):Prop:=
 match r with
 |.ok (.ret u)=>CE outer P w H s Q u s'
 |.ok _=>False
 |.error e=>CX outer H s E e s'
structure FnOk (P:a8)(w:World)(K:W.Frag)(mg:Str->Option Value)(base:Heap)(CX:CXT)(k:Nat)(f:Addr)(fd:e7)(ps:List Str)(sp:Sp):Prop where
 len:∀vs H Q E,sp vs H Q E->vs.length=ps.length
 run:∀(A:b7) (outer:List Env) (s:ac) (H:Hp) (args:Args) (us:List Value) (vs:List V) (Q:VK) (E:XK),Room k A->Env0 P w K mg base A outer s H->qx s fd args (ps.zip us)->Vals vs us->sp vs H Q E->ku (model P w) A (.call (.ref f) args) (CR CX outer P w H s Q E) s
theorem FnOk.imp {P:a8}{w:World}{K:W.Frag}{mg:Str->Option Value}{base:Heap}{CX:CXT}{k:Nat}{f:Addr}{fd:e7}{ps:List Str}{sp sp':Sp}(F:FnOk P w K mg base CX k f fd ps sp)
  (h:∀vs H Q E,sp' vs H Q E->sp vs H Q E):FnOk P w K mg base CX k f fd ps sp':=
 ⟨fun vs H Q E q=>F.len vs H Q E (h _ _ _ _ q),fun A outer s H args us vs Q E hr he hb hv hs=>F.run A outer s H args us vs Q E hr he hb hv (h _ _ _ _ hs)⟩
theorem Env0.in1 {P:a8}{w:World}{K:W.Frag}{mg:Str->Option Value}{base:Heap}{A:b7}{outer:List Env}{s:ac}{H:Hp}(e:Env0 P w K mg base A outer s H): Env0 P w K mg base A.in1 outer s H:=⟨e.frames,e.mod,e.bs,e.bsz,e.funs,e.frf,e.hok,e.bare⟩
section
variable {X:Cx}{pins:List (Addr×Obj)}{σ:St}{H:Hp}{s s':ac}
theorem Inv.env0 (I:Inv X pins σ H s):Env0 X.prog X.w X.K X.mg X.base X.A X.stack s H:=⟨I.ok.frames,I.ok.mod,I.bs,b6 I.ok.bsz I.sz,I.stack,I.stkFree,I.hok,I.bare⟩
theorem Inv.after {Q:VK}{u:Value}(I:Inv X pins σ H s)(h:CE X.stack X.prog X.w H s Q u s'):EP X pins σ Q u s':=by obtain⟨v,H',os,bare,un,hok,r,q⟩:=h;obtain⟨hh,g,d,t,os'⟩:=s';obtain rfl:os'=s.os:=os;exact⟨v,H',I.call (h':=hh) (g':=g) (d':=d) (t':=t) (ch:=[]) un hok bare (fun b z=>absurd z (by simp)),r,q⟩
end
def zr8 (sp:Sp)(dvs:List V)(E:XK)(t:TA):TE:=fun σ H Q=>t σ H fun vs H1=>sp (vs++dvs) H1 Q E
def Binds (K:W.Frag)(fd:e7)(ps:List Str)(ds:List Value):Prop:=∀(s:ac) (us:List Value),K.In s.heap->(us++ds).length=ps.length->qx s fd ⟨us,[]⟩ (ps.zip (us++ds))
theorem Binds.all {K:W.Frag}{fd:e7}{ps:List Str}(h:∀us:List Value,us.length=ps.length->vg fd ⟨us,[]⟩=pure (ps.zip us)):Binds K fd ps []:=fun s us _ hl=>by rw[d8]at hl ⊢;exact .of_eq (h us hl)
def zeo (CX:CXT)(X:Cx)(E:XK):Prop:=∀(pins:List (Addr×Obj)) (σ:St) (H:Hp) (s:ac) (e:Value) (s':ac),Inv X pins σ H s->CX X.stack H s E e s'->X.xe e s'
section
variable {X:Cx}{CX:CXT}{k:Nat}{f C:Addr}{fd:e7}{ps:List Str}{sp:Sp}{dvs:List V}{ds:List Value}{E:XK}{x m:Str}{p pos apos:Pos}{e o:Expr}{es:List Expr}{ta:TE}{t:TA}
theorem zrf {pins:List (Addr×Obj)}{σ:St}{H:Hp}{s:ac}{Q:VK}{us:List Value}{vs:List V}(F:FnOk X.prog X.w X.K X.mg X.base CX k f fd ps sp)(hr:Room k X.A)(hb:Binds X.K fd ps ds)(hd:Vals dvs ds)(hx:zeo CX X E)
  (I:Inv X pins σ H s) (r:Vals vs us) (h:sp (vs++dvs) H Q E):wpAny (model X.prog X.w) X.A (call (.ref f) us) (EP X pins σ Q) X.xe s:=by
 have r2:Vals (vs++dvs) (us++ds):=r.append hd;have hl:(us++ds).length=ps.length:=by rw[<-r2.length];exact F.len _ _ _ _ h
 refine vh (lj (F.run X.A X.stack s H ⟨us,[]⟩ (us++ds) (vs++dvs) Q E hr I.env0 (hb s us I.kIn hl) r2 h) fun r s' hq=>?_);cases r with
 |error e=>exact hx pins σ H s e s' I hq
 |ok fl=>
  cases fl with
  |ret u=>exact I.after hq
  |next=>exact False.elim hq
  |brk=>exact False.elim hq
  |cont=>exact False.elim hq
theorem zmw (F:FnOk X.prog X.w X.K X.mg X.base CX k f fd ps sp)(hr:Room k X.A)(hg:Gl X x)(hm:X.mg x=some (.ref f))(hk:W.keepIn X.K (.ref f)=true)(hb:Binds X.K fd ps ds)(hd:Vals dvs ds)(hx:zeo CX X E)
  (ha:PA X (e::es) t) (hdb:(x==("__debug__":Str))=false:=by decide) (he:dn (e::es) X.env=(false,eval e X.env)::dn es X.env:=by rfl) (hpl:(li pos (dn es X.env)).any (·.1)=false:=by rfl):
  PE X (.Call (.Name x p) (e::es) [] pos) (zr8 sp dvs E t):=by
 intro pins s σ H Q I h;refine ik (z4d I hg hm ?_ hdb);refine W.callWith_K (h₀:=X.base) I.ok.mod.kin hk (thn (ha pos pins s σ H _ I h) fun us s1 ⟨vs,H1,I1,r,q⟩=>⟨I1.kIn,?_⟩) he hpl;exact zrf F hr hb hd hx I1 r q
structure Mk (K:W.Frag)(C f:Addr):Prop where
 makes:W.makesIn K C=true
 init:W.findIn K (.ref C) "__init__"=some (some (.ref f))
 fn:W.isFn K (.ref f)=true
 kp:W.keepIn K (.ref C)=true
end
def PK (X:Cx)(kws:List pq)(t:TA):Prop:=∀(pos:Pos) (pins:List (Addr×Obj)) (s:ac) (σ:St) (H:Hp) (Q:List V->Hp->Prop),Inv X pins σ H s->t σ H Q->wpAny (model X.prog X.w) X.A (evalAll ((backToKw pos (ux kws X.env)).map (·.2))) (AP X pins σ Q) X.xe s
section
variable {X:Cx}{CX:CXT}{k:Nat}{f C:Addr}{fd:e7}{ps ks:List Str}{sp:Sp}{E:XK}{x m:Str}{p pos apos kpos:Pos}{e o:Expr}{es:List Expr}{kws:List pq}{te ta:TE}{t tk:TA}{nm:Option Str}
variable {g:List Value->List Value->List Value}{gV:List V->List V->List V}
end
structure FnScope (N P:List Str)(sc:Scope):Prop where
 kind:sc.kind=.function
 co:sc.isCoroutine=false
 gen:sc.isGenerator=false
 nd:N.Nodup
 pre:N.take P.length=P
 par:∀x∈P,sc.names.lookup x=some .local\/sc.names.lookup x=some .cell
 nofree:∀y∈sc.names,y.2≠.free
theorem z6t {l7:Str->Option f8}{x:Str}:∀{binds:List (Str×Value)} {m:Str->Option Value},(∀v,(x,v)∉binds)->bindL l7 binds m x=m x
 | [],_,_=>rfl
 |(n,v)::r,m,h=>by
  unfold bindL;rw[z6t fun w hw=>h w (aq _ hw)];split
  ·have :x≠n:=by rintro rfl;exact h v ak
   simp[this]
  ·rfl
theorem z6z {l7:Str->Option f8}{x:Str}:∀{binds:List (Str×Value)} {m:Str->Option Value},(∀v,(x,v)∉binds)->bindC l7 binds m x=m x
 | [],_,_=>rfl
 |(n,v)::r,m,h=>by
  unfold bindC;rw[z6z fun w hw=>h w (aq _ hw)];split
  ·rfl
  ·have :x≠n:=by rintro rfl;exact h v ak
   simp[this]
theorem z79 {l7:Str->Option f8}{x:Str}{v:Value}:∀{P:List Str} {vs:List Value} {i:Nat} {m:Str->Option Value},P.Nodup->P[i]?=some x->vs[i]?=some v->l7 x=some .local->
  bindL l7 (P.zip vs) m x=some v
 | [],_,_,_,_,h,_,_=>by simp at h
 |_::_,[],_,_,_,_,h,_=>by simp at h
 |p::P,w::vs,0,m,nd,h1,h2,hk=>by simp at h1 h2;subst h1;subst h2;show bindL l7 ((p,w)::P.zip vs) m p=_;unfold bindL;rw[z6t fun v hv=>(ci.mp nd).1 (iz hv).1,if_pos hk];simp
 |p::P,w::vs,i+1,m,nd,h1,h2,hk=>by show bindL l7 ((p,w)::P.zip vs) m x=_;unfold bindL;exact z79 (i:=i) (ci.mp nd).2 (by simpa using h1) (by simpa using h2) hk
theorem z6s {l7:Str->Option f8}{x:Str}{v:Value}:∀{P:List Str} {vs:List Value} {i:Nat} {m:Str->Option Value},P.Nodup->P[i]?=some x->vs[i]?=some v->l7 x≠some .local->
  bindC l7 (P.zip vs) m x=some v
 | [],_,_,_,_,h,_,_=>by simp at h
 |_::_,[],_,_,_,_,h,_=>by simp at h
 |p::P,w::vs,0,m,nd,h1,h2,hk=>by simp at h1 h2;subst h1;subst h2;show bindC l7 ((p,w)::P.zip vs) m p=_;unfold bindC;rw[z6z fun v hv=>(ci.mp nd).1 (iz hv).1,if_neg hk];simp
 |p::P,w::vs,i+1,m,nd,h1,h2,hk=>by show bindC l7 ((p,w)::P.zip vs) m x=_;unfold bindC;exact z6s (i:=i) (ci.mp nd).2 (by simpa using h1) (by simpa using h2) hk
def start (N:List Str)(vs:List V):St:=vs.map some++bj (N.length-vs.length) none
def cxOf (CX:CXT)(P:a8)(w:World)(K:W.Frag)(mg:Str->Option Value)(base:Heap)(N:List Str)(qual:Str)(scope:Scope)(f:Addr)(cd:Value)(A:b7)(outer:List Env)(s:ac)(H:Hp)(E:XK):Cx where
 prog:=P
 w:=w
 K:=K
 mg:=mg
 base:=base
 A:=A.deeper (qk qual scope s.heap.objs.size f cd)
 N:=N
 s₀:=s
 H₀:=H
 env:=qk qual scope s.heap.objs.size f cd
 outer:=outer
 stack:=qk qual scope s.heap.objs.size f cd::outer
 ex:=[]
 calm:=true
 fn:=fun _=>true
 pn:=[]
 xe:=fun e s'=>wpAny (model P w) (A.deeper (qk qual scope s.heap.objs.size f cd)) (leaving (qk qual scope s.heap.objs.size f cd) e) (fun _ s''=>CX outer H s E e s'') (fun e' s''=>CX outer H s E e' s'') s'
theorem z93 {sc:Scope}{n:Nat}{x:Str}(h:sc.names.lookup x=some .cell):∃c,(cellsFrom n sc.names []).lookup x=some c:=by have q:=W.cellsFrom_some sc.names n [] (.inl h);exact Option.isSome_iff_exists.mp q
theorem zd1 {CX:CXT}{P:a8}{w:World}{K:W.Frag}{mg:Str->Option Value}{base:Heap}{N ps:List Str}{qual:Str}{scope:Scope}{f:Addr}{cd:Value}{A:b7}{outer:List Env}{s s1:ac}{H:Hp}{E:XK}{us:List Value}{vs:List V}
  (S:FnScope N ps scope) (hd:A.handled=none) (e0:Env0 P w K mg base A outer s H) (hl:vs.length=ps.length) (r:Vals vs us)
  (x:InCallC s s.heap.objs.size (bindL (qk qual scope s.heap.objs.size f cd).kindOf (ps.zip us) fun _=>none) (cellsFrom (s.heap.objs.size+1) scope.names []) (bindC (qk qual scope s.heap.objs.size f cd).kindOf (ps.zip us) fun _=>none) s1):
  Inv (cxOf CX P w K mg base N qual scope f cd A outer s H E) [] (start N vs) H s1:=by
 have hpl:ps.length<=N.length:=by have:=congrArg lb S.pre;rw[gg]at this;omega
 obtain⟨h1,tk,rfl,hk⟩:=x.done;have noA:∀b:Addr,b∉(cxOf CX P w K mg base N qual scope f cd A outer s H E).ex:=fun b z=>absurd (show b∈([]:List Addr)from z) (by simp);refine⟨⟨e0.mod,S.kind,rfl,rfl,am _,fun y z c h1 h2=>?_,fun y hy=>?_,fun y c _ h=>?_,fun _=>hd,Around.frames_deeper e0.frames,.inr ⟨rfl,rfl⟩,fun b z=>absurd z (noA b),e0.bs,e0.bsz,fun b _ _=>noA b,fun b z=>absurd z (noA b),e0.funs,e0.frf,fun _ _ z=>by cases z⟩,rfl,e0.bare,Un.kept hk,⟨_,x.toInCall.ns,fun i y v h1 h2 h3=>?_⟩,fun y c h=>⟨_,x.cell y c h⟩,e0.hok.fresh (am _),fun y c h=>?_,fun p hp=>absurd (show p∈([]:List (Addr×Obj))from hp) (by simp),e0.hok.kept hk,?_,fun _ _ z=>by cases z⟩
 ·exact name_of_addr x.apart (PySem.mem_of_lookup h1) (PySem.mem_of_lookup h2)
 ·have hy:scope.names.lookup y=some .cell\/scope.names.lookup y=some .free:=hy;rcases hy with hy|hy
  ·exact z93 hy
  ·exact absurd rfl (S.nofree _ (PySem.mem_of_lookup hy))
 ·exact lh (x.above y c (PySem.mem_of_lookup h))
 ·have hi:i<vs.length:=by
   unfold start at h2;by_cases hi:i<vs.length
   ·exact hi
   ·rw[f9 (by simpa using hi)]at h2;rw[fq]at h2;split at h2<;>cases h2
  have ha:vs[i]?=some v:=by
   unfold start at h2;rw[ip (by simpa using hi),bx]at h2;cases e:vs[i]? with
   |none=>rw[e]at h2;cases h2
   |some a=>rw[e]at h2;cases h2;rfl
  obtain⟨u,hu,rv⟩:=r.get ha;have hp:ps[i]?=some y:=by rw[<-S.pre,List.getElem?_take_of_lt (by omega)];exact h1
  have ndP:ps.Nodup:=by rw[<-S.pre];exact S.nd.sublist (List.take_sublist _ _)
  refine⟨u,rv,?_⟩;rcases S.par y (b8 hp)with k|k
  ·exact .inl ⟨k,z79 ndP hp hu k⟩
  ·obtain⟨c,e⟩:=z93 (n:=s.heap.objs.size+1) k;refine .inr ⟨.inl k,c,e,?_⟩;have q:=x.cell y c e;rw[z6s ndP hp hu (by show scope.names.lookup y≠_;rw[k];decide)]at q;exact q
 ·exact e0.hok.fresh (lh (x.above y c (PySem.mem_of_lookup h)))
 ·unfold start;show _=N.length;rw[az,ah,cx];omega
theorem zm9 {CX:CXT}{P:a8}{w:World}{K:W.Frag}{mg:Str->Option Value}{base:Heap}{k:Nat}{f:Addr}{name qual:Str}{params:Arguments}{body:List Stmt}{scope:Scope}{dV kV doc pm cdv ct oc:Value}{an od:Option Addr}
  {osl:Array (Option Value)} {N ps:List Str} {sp:Sp} (lk:K.lookup f=some ⟨oc,od,.func (W.fnOf name qual params body scope dV kV doc pm an cdv ct),osl⟩) (hcd:W.codeIn K cdv qual=true) (S:FnScope N ps scope)
  (len:∀vs H Q E,sp vs H Q E->vs.length=ps.length)
  (hbody:∀(A:b7) (outer:List Env) (s:ac) (H:Hp) (vs:List V) (Q:VK) (E:XK),Room k (A.deeper (qk qual scope s.heap.objs.size f cdv))->sp vs H Q E->∃t,PSs (cxOf CX P w K mg base N qual scope f cdv A outer s H E) body t/\t {nx:=fun _ H'=>Q .non H',rt:=Q} (start N vs) H):
  FnOk P w K mg base CX (k+1) f (W.fnOf name qual params body scope dV kV doc pm an cdv ct) ps sp:=by
 refine⟨len,fun A outer s H args us vs Q E hr e0 hb r hsp=>?_⟩;have hl:=len _ _ _ _ hsp;have KX:K.In s.heap:=e0.mod.kin.keeps fun b o e=>(e0.bs b o e).1;have lim:s.heap.NoLimit:=e0.mod.nolimit.keeps fun b o e=>(e0.bs b o e).1
 have hkind:∀y∈ps.zip us,scope.names.lookup y.1=some .local\/(scope.names.lookup y.1=some .cell/\((cellsFrom (s.heap.objs.size+1) scope.names []).lookup y.1).isSome=true):=fun⟨n,v⟩ hy=>by
  rcases S.par n (iz hy).1 with q|q
  ·exact .inl q
  ·exact .inr ⟨q,W.cellsFrom_some _ _ _ (.inl q)⟩
 refine codeAny_call_function hr.depth (KX _ _ lk) rfl S.co S.gen rfl (W.codeRec_of KX hcd) (hb _ _ _ _ ?_);refine wpAny_newFunctionEnv_cells S.kind hkind fun env he s1 x=>?_;subst he;refine⟨lim.keeps x.toInCall.keep,codeAny_func ?_⟩;obtain⟨t,ht,hq⟩:=hbody A outer s H vs Q E (hr.deeper _) hsp;have I:Inv (cxOf CX P w K mg base N qual scope f cdv A outer s H E) [] (start N vs) H s1:=zd1 S hr.hd e0 hl r x;refine jb (ht [] s1 (start N vs) H _ I hq) (fun fl s' hs=>?_) fun e s' hs=>hs;have fin:∀{σ':St} {H':Hp} {v:V} {u:Value},Inv (cxOf CX P w K mg base N qual scope f cdv A outer s H E) [] σ' H' s'->RelV v u->Q v H'->CE outer P w H s Q u s':=fun{σ' H' v u} J rv q=>⟨v,H',J.os,J.bare,J.base,J.hok,rv,q⟩;cases fl with
 |ret u=>obtain⟨v,σ',H',J,rv,q⟩:=hs;exact fin J rv q
 |next=>obtain⟨σ',H',J,q⟩:=hs;exact fin (v:=V.non) (u:=Value.none) J rfl q
 |brk=>obtain⟨_,_,_,q⟩:=hs;exact False.elim q
 |cont=>obtain⟨_,_,_,q⟩:=hs;exact False.elim q
section
variable {X:Cx}{x:Str}{p pos:Pos}{e:Expr}{es:List Expr}{t:TA}{id T:String}{r:List V->Hp->VK->Prop}
def tCB (r:List V->Hp->VK->Prop)(t:TA):TE:=fun σ H Q=>t σ H fun vs H1=>r vs H1 Q
theorem zf6 (hc:CallR X (.builtin id) r)(hg:Gl X x)(hm:X.mg x=none)(hv:cu x=some (.builtin id))(ha:PA X (e::es) t)(hn:x≠"__name__":=by decide)(hdb:(x==("__debug__":Str))=false:=by decide)
  (he:dn (e::es) X.env=(false,eval e X.env)::dn es X.env:=by rfl) (hpl:(li pos (dn es X.env)).any (·.1)=false:=by rfl):PE X (.Call (.Name x p) (e::es) [] pos) (tCB r t):=by
 intro pins s σ H Q I h;refine ik (z2r I hg hm hv ?_ hn hdb);exact PyProof.Rows.callWith_builtin1 (thn (ha pos pins s σ H _ I h) fun us s1 ⟨vs,H1,I1,r1,q1⟩=>hc pins s1 σ H1 vs us Q I1 r1 q1) he hpl
theorem ze7 (hc:CallR X (.type T) r)(hg:Gl X x)(hm:X.mg x=none)(hv:cu x=some (.type T))(ha:PA X (e::es) t)(hn:x≠"__name__":=by decide)(hdb:(x==("__debug__":Str))=false:=by decide)
  (he:dn (e::es) X.env=(false,eval e X.env)::dn es X.env:=by rfl) (hpl:(li pos (dn es X.env)).any (·.1)=false:=by rfl):PE X (.Call (.Name x p) (e::es) [] pos) (tCB r t):=by
 intro pins s σ H Q I h;refine ik (z2r I hg hm hv ?_ hn hdb);exact PyProof.Rows.callWith_type1 (thn (ha pos pins s σ H _ I h) fun us s1 ⟨vs,H1,I1,r1,q1⟩=>hc pins s1 σ H1 vs us Q I1 r1 q1) he hpl
end
section
variable {κ:Type} [DecidableEq κ]
def valV (kvs:List (κ×V))(k:κ):Option V:=(kvs.find? fun kv=>decide (kv.1=k)).map (·.2)
def putK (kvs:List (κ×V))(k:κ)(v:V):List (κ×V):=if(kvs.any fun kv=>decide (kv.1=k))=true then kvs.map (fun kv=>if kv.1=k then(kv.1,v)else kv)else kvs++[(k,v)]
def zr5 (kvs:List (κ×V))(k:κ):List (κ×V):=kvs.filter fun kv=>decide (kv.1≠k)
theorem z3y {p:κ×V}{r:List (κ×V)}{k:κ}(e:p.1=k):valV (p::r) k=some p.2:=by simp[valV,i0,e]
theorem z48 {p:κ×V}{r:List (κ×V)}{k:κ}(e:¬p.1=k):valV (p::r) k=valV r k:=by simp[valV,i0,e]
theorem zae (k:κ):∀kvs:List (κ×V),(kvs.any fun kv=>decide (kv.1=k))=(valV kvs k).isSome
 | []=>rfl
 |p::r=>by
  rw[jc];by_cases e:p.1=k
  ·simp only[z3y e,we e,pv,Option.isSome_some]
  ·rw[z48 e,wf e,Bool.false_or];exact zae k r
theorem z4b (kvs:List (κ×V))(k:κ)(v:V):(putK kvs k v).length<=kvs.length+1:=by
 unfold putK;split
 ·rw[ah];omega
 ·rw[az,bq,List.length_nil];omega
theorem RelO.isSome_eq {o:Option V}{u:Option Value}(r:RelO o u):o.isSome=u.isSome:=by
 cases o with
 |none=>cases u with
  |none=>rfl
  |some _=>exact(show False from r).elim
 |some _=>cases u with
  |none=>exact(show False from r).elim
  |some _=>rfl
theorem RelO.getD {o:Option V}{u:Option Value}{d:V}{d':Value}(r:RelO o u)(rd:RelV d d'):RelV (o.getD d) (u.getD d'):=by
 cases o with
 |none=>cases u with
  |none=>exact rd
  |some _=>exact(show False from r).elim
 |some _=>cases u with
  |none=>exact(show False from r).elim
  |some _=>exact r
theorem KV.val {kvs:List (κ×V)}{vs:List (κ×Value)}(r:KV kvs vs)(k:κ):RelO (valV kvs k) (qy vs k):=by
 unfold KV at r
 induction r with
 |nil=>exact True.intro
 | @cons p q ps qs h t ih=>
  obtain⟨h1,h2⟩:=h;by_cases e:p.1=k
  ·have e':q.1=k:=h1.symm.trans e;have b:qy (q::qs) k=some q.2:=by simp[qy,i0,e']
   rw[z3y e,b];exact h2
  ·have e':¬q.1=k:=fun z=>e (h1.trans z);have b:qy (q::qs) k=qy qs k:=by simp[qy,i0,e']
   rw[z48 e,b];exact ih
theorem KV.any {kvs:List (κ×V)}{vs:List (κ×Value)}(r:KV kvs vs)(k:κ):(kvs.any fun kv=>decide (kv.1=k))=vs.any fun kv=>decide (kv.1=k):=by
 unfold KV at r
 induction r with
 |nil=>rfl
 |cons h t ih=>rw[jc,jc,ih,h.1]
theorem KV.repl {kvs:List (κ×V)}{vs:List (κ×Value)}(r:KV kvs vs)(k:κ){y:V}{u:Value}(ry:RelV y u):
  KV (kvs.map fun kv=>if kv.1=k then(kv.1,y)else kv) (vs.map fun kv=>if kv.1=k then(kv.1,u)else kv):=by
 unfold KV at r ⊢
 induction r with
 |nil=>exact .nil
 | @cons p q ps qs h t ih=>
  rw[ao,ao];refine .cons ?_ ih;obtain⟨h1,h2⟩:=h;by_cases e:p.1=k
  ·rw[if_pos e,if_pos (h1.symm.trans e)];exact⟨h1,ry⟩
  ·rw[if_neg e,if_neg (fun z=>e (h1.trans z))];exact⟨h1,h2⟩
theorem KV.put {kvs:List (κ×V)}{vs:List (κ×Value)}(r:KV kvs vs)(k:κ){y:V}{u:Value}(ry:RelV y u):KV (putK kvs k y) (stored vs k u):=by
 unfold putK stored;rw[r.any k];by_cases e:(vs.any fun kv=>decide (kv.1=k))=true
 ·rw[if_pos e,if_pos e];exact r.repl k ry
 ·rw[if_neg e,if_neg e];exact Paired.snoc r ⟨rfl,ry⟩
theorem KV.drop {kvs:List (κ×V)}{vs:List (κ×Value)}(r:KV kvs vs)(k:κ):KV (zr5 kvs k) (without vs k):=by
 unfold KV at r ⊢;unfold zr5 without
 induction r with
 |nil=>exact .nil
 | @cons p q ps qs h t ih=>
  obtain⟨h1,h2⟩:=h;rw[o9,o9];by_cases e:p.1=k
  ·have a:¬decide (p.1≠k)=true:=by simp[e]
   have b:¬decide (q.1≠k)=true:=by simp[h1.symm.trans e]
   rw[if_neg a,if_neg b];exact ih
  ·have e':¬q.1=k:=fun z=>e (h1.trans z);have a:decide (p.1≠k)=true:=by simp[e]
   have b:decide (q.1≠k)=true:=by simp[e']
   rw[if_pos a,if_pos b];exact .cons ⟨h1,h2⟩ ih
theorem KV.length {kvs:List (κ×V)}{vs:List (κ×Value)}(r:KV kvs vs):kvs.length=vs.length:=Paired.length r
end
theorem zb8 {P:a8}{w:World}{k:Key}{u:Value}(r:RelV (kV k) u):(z14 P w).is k u=true:=by
 cases k with
 |inl i=>obtain⟨t,e⟩:=(show ∃t,u=Value.int i t from r);subst e;exact z8d P w i t
 |inr x=>obtain⟨t,e⟩:=(show ∃t,u=Value.str x t from r);subst e;exact z8q P w x t
abbrev KT (H:Hp):List (List Key×V)->List (List Key×Addr×Value)->Prop:=sr fun p q=>p.1=q.1/\H q.2.1=some (.tup (p.1.map kV))/\RelV p.2 q.2.2
theorem KT.val {H:Hp}{kvs:List (List Key×V)}{xs:List (List Key×Addr×Value)}(r:KT H kvs xs)(k:List Key):RelO (valV kvs k) ((atKey xs k).map (·.2)):=by
 induction r with
 |nil=>exact True.intro
 | @cons p q ps qs h t ih=>
  obtain⟨h1,_,h2⟩:=h;by_cases e:p.1=k
  ·have e':q.1=k:=h1.symm.trans e;have b:atKey (q::qs) k=some q.2:=by simp[atKey,i0,e']
   rw[z3y e,b];exact h2
  ·have e':¬q.1=k:=fun z=>e (h1.trans z);have b:atKey (q::qs) k=atKey qs k:=by simp[atKey,i0,e']
   rw[z48 e,b];exact ih
theorem KT.repl {H:Hp}{kvs:List (List Key×V)}{xs:List (List Key×Addr×Value)}(r:KT H kvs xs)(k:List Key){y:V}{u:Value}(ry:RelV y u):
  KT H (kvs.map fun kv=>if kv.1=k then(kv.1,y)else kv) (xs.map (putAt k u)):=by
 induction r with
 |nil=>exact .nil
 | @cons p q ps qs h t ih=>
  rw[ao,ao];refine .cons ?_ ih;obtain⟨h1,h2,h3⟩:=h;unfold putAt;by_cases e:p.1=k
  ·rw[if_pos e,if_pos (h1.symm.trans e)];exact⟨h1,h2,ry⟩
  ·rw[if_neg e,if_neg (fun z=>e (h1.trans z))];exact⟨h1,h2,h3⟩
theorem KT.put {H:Hp}{kvs:List (List Key×V)}{xs:List (List Key×Addr×Value)}(r:KT H kvs xs)(k:List Key){b:Addr}{y:V}{u:Value}(hb:H b=some (.tup (k.map kV)))(ry:RelV y u):
  KT H (putK kvs k y) (storedH xs k b u):=by
 have e:(kvs.any fun kv=>decide (kv.1=k))=(atKey xs k).isSome:=by rw[zae,(r.val k).isSome_eq,Option.isSome_map]
 unfold putK storedH;rw[e];by_cases q:(atKey xs k).isSome=true
 ·rw[if_pos q,if_pos q];exact r.repl k ry
 ·rw[if_neg q,if_neg q];exact Paired.snoc r ⟨rfl,hb,ry⟩
section
variable {P:a8}{w:World}{H:Hp}{h:Heap}{a:Addr}
theorem zub {u:HO}(ok:HOk P w H h)(e:Rd H a u):z0s P w H h a u:=e.ok ok
theorem z8a {kvs:List (Key×V)}(ok:HOk P w H h)(e:Rd H a (.dK kvs)):kvs.length<=bh/\(a==lx)=false/\∃vs,KV kvs vs/\h.DictOf (z14 P w) a vs:=show z0s P w H h a (.dK kvs)from zub ok e
theorem zgz {kvs:List (Key×V)}(ok:HOk P w H h)(e:H a=some (.dK kvs)):kvs.length<=bh/\(a==lx)=false/\∃vs,KV kvs vs/\h.DictOf (z14 P w) a vs:=z8a ok (.inl e)
end
def DGet (H:Hp)(a:Addr)(y:V)(r:Option V):Prop:=∃kvs k,Rd H a (.dK kvs)/\y=kV k/\r=valV kvs k
def DPut (H:Hp)(a:Addr)(y v:V)(H':Hp):Prop:=∃kvs k,H a=some (.dK kvs)/\y=kV k/\kvs.length<bh/\H'=upd H a (.dK (putK kvs k v))
theorem DGet.k {H:Hp}{a:Addr}{kvs:List (Key×V)}{k:Key}(e:H a=some (.dK kvs)):DGet H a (kV k) (valV kvs k):=⟨kvs,k,.inl e,rfl,rfl⟩
theorem DPut.k {H:Hp}{a:Addr}{kvs:List (Key×V)}{k:Key}{v:V}(e:H a=some (.dK kvs))(hl:kvs.length<bh):DPut H a (kV k) v (upd H a (.dK (putK kvs k v))):=⟨kvs,k,e,rfl,hl,rfl⟩
section
variable {X:Cx}{pins:List (Addr×Obj)}{σ:St}{H:Hp}{s:ac}{a:Addr}{y v:V}{u r:Value}{o:Option V}{A:b7}{E:Value->ac->Prop}
theorem Inv.big (I:Inv X pins σ H s):lx<s.heap.objs.size:=by have h:cg<s.heap.objs.size:=(I.mod.glob.keeps I.bk).lt;exact nk (by decide) h
theorem zed {Q:Value->ac->Prop}(hu:A.units+1<cLine)(I:Inv X pins σ H s)(g:DGet H a y (some v))(ry:RelV y u)(h:∀w' s',Inv X pins σ H s'->RelV v w'->Q w' s'):
  wpAny (model X.prog X.w) A (ua (.ref a) u) Q E s:=by
 obtain⟨kvs,k,e,ey,l⟩:=g
 ·subst ey;obtain⟨z,hd,vs,rel,dd⟩:=z8a I.hok e;obtain⟨w',hw,rw'⟩:=RelO.some_of (v:=v) (o:=qy vs k) (by rw[l];exact rel.val k);exact wpAny_getItem_of (zb8 ry) dd.mapOf hw (h w' _ (I.tok _) rw')
theorem d_in {Q:Value->ac->Prop}(hu:A.units+1<cLine)(I:Inv X pins σ H s)(g:DGet H a y o)(ry:RelV y u)(h:∀s',Inv X pins σ H s'->Q (.bool o.isSome) s'):
  wpAny (model X.prog X.w) A (df .In u (.ref a)) Q E s:=by
 obtain⟨kvs,k,e,ey,l⟩:=g
 ·subst ey;obtain⟨z,hd,vs,rel,dd⟩:=z8a I.hok e;refine wpAny_in_of (zb8 ry) hd dd.mapOf ?_;rw[<-(rel.val k).isSome_eq,<-l];exact h _ (I.tok _)
theorem zln {Q:Value->ac->Prop}(hu:A.units+1<cLine)(I:Inv X pins σ H s)(g:DGet H a y o)(ry:RelV y u)(h:∀s',Inv X pins σ H s'->Q (.bool (!o.isSome)) s'):
  wpAny (model X.prog X.w) A (df .NotIn u (.ref a)) Q E s:=by
 obtain⟨kvs,k,e,ey,l⟩:=g
 ·subst ey;obtain⟨z,hd,vs,rel,dd⟩:=z8a I.hok e;refine wpAny_notIn_of (zb8 ry) hd dd.mapOf ?_;rw[<-(rel.val k).isSome_eq,<-l];exact h _ (I.tok _)
theorem zcu {h':Heap}{t':Nat}{ob:HO}(I:Inv X pins σ H s)(mu:Mut (H a))(hs:bu a s.heap h')(he:∃q,h'.get? a=some q)(new:z0s X.prog X.w (upd H a ob) h' a ob):
  Inv X pins σ (upd H a ob) {s with heap:=h',toks:=t'}:=
 I.write (x:=a) (e:=a) mu (.inl rfl) (fun b q hb z=>(hs.2 b hb).trans z) he new
theorem zhk {P:a8}{w:World}{H':Hp}{h':Heap}{kvs:List (Key×V)}{vs:List (Key×Value)}(z:kvs.length<=bh)(hd:(a==lx)=false)(rel:KV kvs vs)(dd:h'.DictOf (z14 P w) a vs): z0s P w H' h' a (.dK kvs):=⟨z,hd,vs,rel,dd⟩
theorem zdm {H':Hp}{Q:Unit->ac->Prop}(hu:A.units+1<cLine)(I:Inv X pins σ H s)(g:DPut H a y v H')(ry:RelV y u)(rv:RelV v r)(h:∀s',Inv X pins σ H' s'->Q () s'):
  wpAny (model X.prog X.w) A (setItem (.ref a) u r) Q E s:=by
 obtain⟨kvs,k,e,ey,l,eH⟩:=g
 ·subst ey eH;obtain⟨z,hd,vs,rel,dd⟩:=zgz I.hok e;have hz:vs.length<=bh:=by rw[<-rel.length];exact z
  have hl:(putK kvs k v).length<=bh:=by have:=z4b kvs k v;omega
  refine wpAny_setItem_pairs (hsz:=hz) (zb8 ry) dd fun h' dd' hs=>h _ ?_;have he:∃q,h'.get? a=some q:=let⟨q,_,_,hq,_⟩:=dd';⟨q,hq⟩;exact zcu I (by rw[e];exact True.intro) hs he (zhk hl hd (rel.put k rv) dd')
end
section
variable {X:Cx}{pins:List (Addr×Obj)}{σ:St}{H:Hp}{s:ac}{a:Addr}{kvs:List (Key×V)}{k:Key}{u:Value}{A:b7}{E:Value->ac->Prop}
theorem zt9 {Q:Value->ac->Prop}(I:Inv X pins σ H s)(e:Rd H a (.dK kvs))(h:∀t s',Inv X pins σ H s'->Q (.int kvs.length t) s'):wpAny (model X.prog X.w) A (call (.builtin "len") [.ref a]) Q E s:=by obtain⟨z,hd,vs,rel,dd⟩:=z8a I.hok e;refine call_len_dict hd dd (by rw[<-rel.length];rw[dr]at z;omega) ?_;rw[<-rel.length];exact h _ _ (I.tok _)
end
theorem z8h {X:Cx}{pins:List (Addr×Obj)}{σ:St}{H:Hp}{s:ac}{a:Addr}{y:V}{o:Option V}(I:Inv X pins σ H s)(g:DGet H a y o):s.TypeIs (.ref a) "dict":=by
 obtain⟨kvs,k,e,_,_⟩:=g
 ·obtain⟨_,_,vs,_,dd⟩:=z8a I.hok e;exact dd.typeIs
section
variable {X:Cx}{o i e value:Expr}{pos pos' tpos:Pos}{td ty tv:TE}
end
theorem za7 {P:a8}{w:World}{H:Hp}(h:Heap)(hb:lx<h.objs.size):z0s P w H (h.push {cls:=.type "dict",data:=.dict #[]}) h.objs.size (.dK []):=⟨fu _,beq_eq_false_iff_ne.mpr (Ne.symm (bz hb)),[],.nil,Heap.DictOf.new h⟩
def zoe:TE:=fun _ H Q=>∀p,H p=none->Q (.ref p) (upd H p (.dK []))
section
variable {X:Cx}{pos:Pos}
theorem zfr:PE X (.Dict [] [] pos) zoe:=fun pins s σ H Q I h=>wpAny_Dict_empty ⟨.ref s.heap.objs.size,_,I.laid (a:=s.heap.objs.size) (o:=.dK []) (t':=s.toks) (fun _ _ q=>ae _ q) (am _) (za7 s.heap I.big),rfl,h _ (I.hok.fresh (am _))⟩
end
section
variable {X:Cx}{pins:List (Addr×Obj)}{σ:St}{H:Hp}{s:ac}{a:Addr}{y d:V}{u r:Value}{o:Option V}{A:b7}{E:Value->ac->Prop}
theorem zpo {Q:Value->ac->Prop}(hu:A.units+1<cLine)(I:Inv X pins σ H s)(g:DGet H a y o)(ry:RelV y u)(rd:RelV d r)(h:∀w' s',Inv X pins σ H s'->RelV (o.getD d) w'->Q w' s'):
  wpAny (model X.prog X.w) A (call (.builtin "dict.get") [.ref a,u,r]) Q E s:=by
 obtain⟨kvs,k,e,ey,l⟩:=g
 ·subst ey;obtain⟨z,hd,vs,rel,dd⟩:=z8a I.hok e;refine call_meetsIn PySem.F.slot_dict_get dd.typeIs PySem.F.entry_dict_get (PySem.F.args_dict_get_3 _ _ _) (meets_dict_get_default (z14 X.prog X.w) a (zb8 ry) hd r) ⟨_,dd.mapOf,h _ _ (I.tok _) ?_⟩;rw[l];exact(rel.val k).getD rd
end
section
variable {X:Cx}{o e f:Expr}{apos cpos:Pos}{td ty tx:TE}
end
section
variable {X:Cx}{pins:List (Addr×Obj)}{σ:St}{H:Hp}{s:ac}{a:Addr}{kvs:List (Key×V)}{A:b7}{E:Value->ac->Prop}
end
section
variable {X:Cx}{pins:List (Addr×Obj)}{σ:St}{H:Hp}{s:ac}{a:Addr}{y:V}{u:Value}{A:b7}{E:Value->ac->Prop}
end
end L2
namespace HT
open PySem PyProof.Rows
section
open PySem.SeqAt
open PySem.AutoSeq1 (wpAny_loadPart')
open PySem.MeetsSeq PySem.MeetsSeq2 PySem.MeetsSeq3
end
section
variable {prog:a8}{w:World}{A:b7}{E:Value->ac->Prop}{s:ac}
theorem cat_tup {t b:Addr}{vs ws:List Value}{Q:Value->ac->Prop}(ht:IsTup s.heap t vs.toArray)(hb:IsTup s.heap b ws.toArray)(hv:vs≠[])
  (h1:ws=[]->Q (.ref t) s) (h2:ws≠[]->Q (.ref s.heap.objs.size) {s with heap:=s.heap.push {cls:=.type "tuple",data:=.seq (vs++ws).toArray}})
  (hsz:vs.length+ws.length<=bh):wpAny (model prog w) A (gm .Add (.ref t) (.ref b)) Q E s:=by
 obtain⟨⟨cls,dd,data,sl⟩,ho,hc,n,hd⟩:=id ht;obtain⟨⟨cls2,dd2,data2,sl2⟩,ho2,hc2,n2,hd2⟩:=id hb;simp only at hc hd hc2 hd2;subst hc hd hc2 hd2;have e:vs.toArray++ws.toArray=(vs++ws).toArray:=by simp
 by_cases hw:ws=[]
 ·exact pw ⟨_,ho,rfl⟩ ⟨_,ho2,rfl⟩ pc sg PySem.F.slot_tuple_add PySem.F.entry_tuple_add (PySem.F.args_tuple_add_2 _ _) (tuple_addW1 t b vs.toArray ws.toArray n n2 dd dd2 sl sl2 (by simpa using hv) (by simp[hw])) ⟨ho,ho2,h1 hw⟩
 ·refine pw ⟨_,ho,rfl⟩ ⟨_,ho2,rfl⟩ pc sg PySem.F.slot_tuple_add PySem.F.entry_tuple_add (PySem.F.args_tuple_add_2 _ _)
   (tuple_addW2 t b vs.toArray ws.toArray n n2 dd dd2 sl sl2 (by simpa using hv) (by simpa using hw) (by rw[aw,aw];exact hsz)) ⟨ho,ho2,?_⟩
  rw[e];exact h2 hw
def sIx (n d:Nat):Option Int->Nat
 |none=>d
 |some v=>if v<0 then(v+(n:Int)).toNat else min v.toNat n
theorem sIx_le (n d:Nat)(hd:d<=n)(o:Option Int):sIx n d o<=n:=by
 cases o with
 |none=>exact hd
 |some v=>
  show(if v<0 then(v+(n:Int)).toNat else min v.toNat n)<=n;by_cases hv:v<0
  ·rw[if_pos hv];omega
  ·rw[if_neg hv];exact Nat.min_le_right _ _
theorem zcy (v:Int)(n d:Nat):(if v<0 then max (v+(n:Int)) 0 else min v (n:Int))=((sIx n d (some v):Nat):Int):=by
 show(if v<0 then max (v+(n:Int)) 0 else min v (n:Int))=(((if v<0 then(v+(n:Int)).toNat else min v.toNat n):Nat):Int);by_cases hv:v<0
 ·simp only[if_pos hv];omega
 ·simp only[if_neg hv];omega
theorem zaq (lo hi:Option Int)(n:Nat):j7 lo hi 1 (n:Int)=(((sIx n 0 lo:Nat):Int),((sIx n n hi:Nat):Int)):=by
 have h1:¬((1:Int)<0):=by omega
 unfold j7;simp only[h1,if_false];refine ub ?_ ?_
 ·cases lo with
  |none=>rfl
  |some v=>exact zcy v n 0
 ·cases hi with
  |none=>rfl
  |some v=>exact zcy v n n
theorem zbb (i j:Nat):iq (i:Int) (j:Int) 1=j-i:=by
 unfold iq;have h1:(1:Int)>0:=by omega
 simp only[h1,if_true,Int.ediv_one];split<;>omega
theorem z5j {v:Value}{o:Option Int}{Q:Option Int->ac->Prop}(p:tu v o)(h:Q o s):wpAny (model prog w) A (Builtin.Slice.slicePartIndex v) Q E s:=by
 cases p with
 |none=>exact slicePart_none h
 |int i t=>exact slicePart_int h
theorem z3t {sl:Addr}{vl vu:Value}{lo hi:Option Int}{n:Nat}{Q:Int×Int×Nat->ac->Prop}(hs:s.heap.IsSliceOf sl vl vu .none)(pl:tu vl lo)(pu:tu vu hi)
  (h:Q (((sIx n 0 lo:Nat):Int),1,sIx n n hi-sIx n 0 lo) s):wpAny (model prog w) A (nz (.ref sl) (pure (n:Int))) Q E s:=by
 obtain⟨os,hos,hcs,hds⟩:=id hs;unfold nz Builtin.Slice.sliceFields;refine aa (aa (eh hos hds (x:=vl) rfl (aa (eh hos hds (x:=vu) rfl (aa (eh hos hds (x:=.none) rfl (af ?_)))))));refine aa (slicePart_none ?_);show wpAny _ _ (if((1:Int)==0)=true then _ else _) _ _ s;rw[if_neg (by decide)];refine aa (z5j pl (aa (z5j pu (aa (af ?_)))));show wpAny _ _ (match j7 lo hi 1 (n:Int)with|(lo,hi)=>pure (lo,(1:Int),iq lo hi 1)) _ _ s;rw[zaq lo hi n];show wpAny _ _ (pure (((sIx n 0 lo:Nat):Int),(1:Int),iq ((sIx n 0 lo:Nat):Int) ((sIx n n hi:Nat):Int) 1)) _ _ s;rw[zbb];exact af h
theorem zfz (xs:Array Value)(i k:Nat):((cj k).filterMap fun(m:Nat)=>xs[((i:Int)+(m:Int)*1).toNat]?).toArray=((xs.toList.drop i).take k).toArray:=by
 have e:(fun(m:Nat)=>xs[((i:Int)+(m:Int)*1).toNat]?)=fun m=>xs[i+m]?:=by
  funext m
  have:((i:Int)+(m:Int)*1).toNat=i+m:=by omega
  rw[this]
 rw[e];have:=pick_run xs i k;rw[List.filterMap_map]at this;have e2:((fun x=>xs[x]?)∘fun x=>i+x)=fun m=>xs[i+m]?:=rfl;rw[e2]at this;rw[this]
theorem getItem_tuple_cut {t sl:Addr}{items:Array Value}{vl vu:Value}{lo hi:Option Int}{Q:Value->ac->Prop}(ht:IsTup s.heap t items)(hs:s.heap.IsSliceOf sl vl vu .none)(pl:tu vl lo)(pu:tu vu hi)
  (hw:¬(sIx items.size 0 lo=0/\sIx items.size items.size hi=items.size))
  (h:Q (.ref s.heap.objs.size) {s with heap:=s.heap.push {cls:=.type "tuple",data:=.seq ((items.toList.drop (sIx items.size 0 lo)).take (sIx items.size items.size hi-sIx items.size 0 lo)).toArray}})
  (hsz:items.size<=bh):wpAny (model prog w) A (ua (.ref t) (.ref sl)) Q E s:=by
 have htake:sizeOk (.seq ((items.toList.drop (sIx items.size 0 lo)).take (sIx items.size items.size hi-sIx items.size 0 lo)).toArray):=by show((items.toList.drop (sIx items.size 0 lo)).take (sIx items.size items.size hi-sIx items.size 0 lo)).toArray.size<=bh;rw[aw,gg,l8,db];omega
 have hj:sIx items.size items.size hi<=items.size:=sIx_le _ _ (am _) hi;obtain⟨os,hos,hcs,hds⟩:=id hs;have hTs:s.TypeIs (.ref sl) "slice":=⟨os,hos,hcs⟩;unfold ua
 try with_reducible refine cr ?_
 first|refine aa (af ?_)|skip
 refine aa (wpAny_sequenceKey ht.typeIs (by decide) ?_);refine aa (gy (name:=Str.ofString "__getitem__") ht.typeIs PyProof.Rows.slot_tuple_getitem (gh PyProof.Rows.slot_tuple_getitem ht.typeIs entry_tuple_getitem ?_ (args_tuple_getitem _ _)));show wpAny _ _ (Builtin.Tuple.tupleItemsOf (.ref t)>>=_) _ _ s;refine aa (tupleItemsOf_ ht ?_);refine aa (nq hTs ?_);rw[if_pos (by decide)];refine aa (z3t hs pl pu ?_);have hno:¬((((sIx items.size 0 lo:Nat):Int)==0&&(1:Int)==1&&(sIx items.size items.size hi-sIx items.size 0 lo)==items.size)=true):=by intro q;rw[ba,ba]at q;have q1:((sIx items.size 0 lo:Nat):Int)=0:=eq_of_beq q.1.1;have q2:sIx items.size items.size hi-sIx items.size 0 lo=items.size:=eq_of_beq q.2;exact hw ⟨by omega,by omega⟩
 show wpAny _ _ (if(((sIx items.size 0 lo:Nat):Int)==0&&(1:Int)==1&&(sIx items.size items.size hi-sIx items.size 0 lo)==items.size)=true then _ else _) _ _ s;rw[if_neg hno,zfz]
 first
  |exact aa (m:=jd _) (jw (af ⟨_,rfl,af h⟩) htake)
  |exact aa (m:=jd _) (jw (aa (af (af ⟨_,rfl,af h⟩))) htake)
  |exact aa (aa (m:=jd _) (jw (af (af ⟨_,rfl,af h⟩)) htake))
  |exact aa (aa (m:=jd _) (jw (af ⟨_,rfl,af h⟩) htake))
end
end HT
namespace L2
open PySem PySem.Spec PyProof.Rows
abbrev TO:=St->Hp->(Option Int->Hp->Prop)->Prop
def PO (X:Cx)(e:Option Expr)(t:TO):Prop:=∀(pins:List (Addr×Obj)) (s:ac) (σ:St) (H:Hp) (Q:Option Int->Hp->Prop),Inv X pins σ H s->t σ H Q->wpAny (model X.prog X.w) X.A (evalPart e X.env) (fun u s'=>∃o H',Inv X pins σ H' s'/\tu u o/\Q o H') X.xe s
def zjy:TO:=fun _ H Q=>Q none H
def ztq (t:TE):TO:=fun σ H Q=>t σ H fun x H1=>∃i,x=.int i/\Q (some i) H1
theorem intsAre_of {ns:List Int}:∀{us:List Value},Vals (ns.map V.int) us->q8 us ns:=by
 induction ns with
 |nil=>intro us r;rw[List.map_nil]at r;cases r;exact .nil
 |cons n ns ih=>
  intro us r;rw[ao]at r;cases r with
  |cons r1 r2=>obtain⟨t,e⟩:=r1;subst e;exact .cons n t (ih r2)
section
variable {X:Cx}{e:Expr}{te:TE}{lo hi:Option Expr}{tl th:TO}{pos p2:Pos}
theorem zlx:PO X none zjy:=by intro pins s σ H Q I h;rw[evalPart_none];exact af ⟨none,H,I,.none,h⟩
theorem zj4 (h:PE X e te):PO X (some e) (ztq te):=by intro pins s σ H Q I hw;rw[evalPart_some];refine thn (h pins s σ H _ I hw) fun u s1 ⟨x,H1,I1,r1,q1⟩=>?_;obtain⟨i,rfl,q⟩:=q1;obtain⟨t,rfl⟩:=r1;exact⟨some i,H1,I1,.int i t,q⟩
def SlR (X:Cx)(r:V->Option Int->Option Int->Hp->VK->Prop):Prop:=∀(pins:List (Addr×Obj)) (s:ac) (σ:St) (H:Hp) (x:V) (v vl vu:Value) (lo hi:Option Int) (sl:Addr) (Q:VK),Inv X pins σ H s->RelV x v->s.heap.IsSliceOf sl vl vu .none->tu vl lo->tu vu hi->r x lo hi H Q->∃T id,typeLookup (.type T) "__getitem__"=pure (some (.builtin id))/\s.TypeIs v T/\wpAny (model X.prog X.w) X.A (ua v (.ref sl)) (EP X pins σ Q) X.xe s
theorem SlR.or {r r':V->Option Int->Option Int->Hp->VK->Prop}(h:SlR X r)(h':SlR X r'):SlR X (fun x lo hi H Q=>r x lo hi H Q\/r' x lo hi H Q):=by
 intro pins s σ H x v vl vu lo hi sl Q I rx hs pl pu q;rcases q with q|q
 ·exact h pins s σ H x v vl vu lo hi sl Q I rx hs pl pu q
 ·exact h' pins s σ H x v vl vu lo hi sl Q I rx hs pl pu q
def tSl (r:V->Option Int->Option Int->Hp->VK->Prop)(te:TE)(tl th:TO):TE:=fun σ H Q=>te σ H fun x H1=>tl σ H1 fun l H2=>th σ H2 fun u H3=>r x l u H3 Q
theorem zh0 {r:V->Option Int->Option Int->Hp->VK->Prop}(hr:SlR X r)(he:PE X e te)(hl:PO X lo tl)(hu:PO X hi th):PE X (.Subscript e (.Slice lo hi none p2) pos) (tSl r te tl th):=by intro pins s σ H Q I h;refine Subscript_ (thn (he pins s σ H _ I h) fun v s1 ⟨x,H1,I1,r1,q1⟩=>?_);refine wpAny_Slice (thn (hl pins s1 σ H1 _ I1 q1) fun vl s2 ⟨l,H2,I2,pl,q2⟩=>thn (hu pins s2 σ H2 _ I2 q2) fun vu s3 ⟨u,H3,I3,pu,q3⟩=>?_);rw[evalPart_none];refine af ?_;have I4:Inv X pins σ H3 {s3 with heap:=s3.heap.push {cls:=.type "slice",data:=.fields #[vl,vu,.none]}}:=I3.kept (t':=s3.toks) fun b ob q=>ae _ q;obtain⟨T,id,hT,ht,hg⟩:=hr pins {s3 with heap:=s3.heap.push {cls:=.type "slice",data:=.fields #[vl,vu,.none]}} σ H3 x v vl vu l u s3.heap.objs.size Q I4 r1 (Heap.IsSliceOf.new ..) pl pu q3;show wpAny (model X.prog X.w) X.A (subscriptTail e (.Slice lo hi none p2) v (.ref s3.heap.objs.size)) (EP X pins σ Q) X.xe {s3 with heap:=s3.heap.push {cls:=.type "slice",data:=.fields #[vl,vu,.none]}};exact tail_any (ops:=[.ref s3.heap.objs.size,v]) ht hT hg (by with_unfolding_all rfl)
def cutV (xs:List V)(lo hi:Option Int):List V:=(xs.drop (HT.sIx xs.length 0 lo)).take (HT.sIx xs.length xs.length hi-HT.sIx xs.length 0 lo)
theorem z4t (xs:List V)(lo hi:Option Int):(cutV xs lo hi).length<=xs.length:=by unfold cutV;rw[gg,l8];omega
def rSlT (K:W.Frag):V->Option Int->Option Int->Hp->VK->Prop:=fun x lo hi H Q=>∃a xs,x=.ref a/\SqT K H a xs/\¬(HT.sIx xs.length 0 lo=0/\HT.sIx xs.length xs.length hi=xs.length)/\∀p,H p=none->Q (.ref p) (upd H p (.tup (cutV xs lo hi)))
theorem zq2:SlR X (rSlT X.K):=by
 intro pins s σ H x v vl vu lo hi sl Q I rx hs pl pu h;obtain⟨a,xs,rfl,hx,hw,q⟩:=h;cases rx;obtain⟨its,r,ht,hz⟩:=I.tuple hx;have hlen:its.toArray.size=xs.length:=by rw[aw];exact r.length.symm
 refine⟨"tuple",_,PyProof.Rows.slot_tuple_getitem.lookup,ht.typeIs,?_⟩;refine HT.getItem_tuple_cut ht hs pl pu (by rw[hlen];exact hw) ?_ (by rw[hlen];exact hz);rw[hlen];refine⟨.ref s.heap.objs.size,_,I.laid (t':=s.toks) (o:=.tup (cutV xs lo hi)) (fun b ob q=>ae _ q) (am _) ?_,rfl,q _ (I.hok.fresh (am _))⟩;exact⟨b6 (z4t xs lo hi) hz,_,(r.drop (HT.sIx xs.length 0 lo)).take (HT.sIx xs.length xs.length hi-HT.sIx xs.length 0 lo),TupN.new _ _⟩
def zqc (K:W.Frag):R2:=fun x y H Q=>∃a b xs ys,x=.ref a/\y=.ref b/\SqT K H a xs/\SqT K H b ys/\xs≠ []/\xs.length+ys.length<=bh/\(ys=[]->Q (.ref a) H)/\(ys≠[]->∀p,H p=none->Q (.ref p) (upd H p (.tup (xs++ys))))
theorem Vals.nil_iff {xs:List V}{us:List Value}(r:Vals xs us):us=[]↔xs=[]:=by
 cases r with
 |nil=>simp
 |cons _ _=>simp
theorem zlz:OpR X (gm .Add) (zqc X.K):=by intro pins s σ H x y v u Q I rx ry h;obtain⟨a,b,xs,ys,rfl,rfl,ha,hb,hx,hz,q1,q2⟩:=h;cases rx;cases ry;obtain⟨its,r1,p1,_⟩:=I.tuple ha;obtain⟨its2,r2,p2,_⟩:=I.tuple hb;refine HT.cat_tup p1 p2 (fun z=>hx (r1.nil_iff.mp z)) (fun z=>⟨.ref a,H,I,rfl,q1 (r2.nil_iff.mp z)⟩) (fun z=>?_) (by rw[<-r1.length,<-r2.length];exact hz);refine⟨.ref s.heap.objs.size,_,I.laid (t':=s.toks) (o:=.tup (xs++ys)) (fun b ob q=>ae _ q) (am _) ?_,rfl,q2 (fun w=>z (r2.nil_iff.mpr w)) _ (I.hok.fresh (am _))⟩;exact⟨by rw[az];exact hz,_,r1.append r2,TupN.new _ _⟩
end
def ixN (n:Nat)(i:Int):Option Nat:=if 0<=i then(if i<n then some i.toNat else none)else if -(n:Int)<=i then some (i+n).toNat else none
def atI {α:Type}(xs:List α)(i:Int):Option α:=(ixN xs.length i).bind fun j=>xs[j]?
theorem zbw {n:Nat}{i:Int}{j:Nat}(h:ixN n i=some j):seqIndex? i n=some j/\j<n/\-(n:Int)<=i/\i<n:=by
 unfold ixN at h;by_cases h0:0<=i
 ·rw[if_pos h0]at h;by_cases h1:i<n
  ·rw[if_pos h1]at h;have e:i.toNat=j:=Option.some.inj h;exact⟨by rw[uy h0 h1,e],by omega,by omega,h1⟩
  ·rw[if_neg h1]at h;cases h
 ·rw[if_neg h0]at h;by_cases h1:-(n:Int)<=i
  ·rw[if_pos h1]at h;have e:(i+n).toNat=j:=Option.some.inj h;exact⟨by rw[uc (by omega) h1,e],by omega,h1,by omega⟩
  ·rw[if_neg h1]at h;cases h
theorem z8t {α:Type}{xs:List α}{i:Int}{v:α}(h:atI xs i=some v):∃j,seqIndex? i xs.length=some j/\xs[j]?=some v/\j<xs.length/\-(xs.length:Int)<=i/\i<xs.length:=by
 unfold atI at h;cases e:ixN xs.length i with
 |none=>rw[e]at h;cases h
 |some j=>rw[e]at h;obtain⟨h1,h2,h3,h4⟩:=zbw e;exact⟨j,h1,h,h2,h3,h4⟩
def zc7 (b:Expr):Prop:=∀o i,subscripted b false o i=operate [o,i] (ua o i)
def IxR (X:Cx)(r:R2):Prop:=∀(value slice:Expr) (pins:List (Addr×Obj)) (s:ac) (σ:St) (H:Hp) (x y:V) (v u:Value) (Q:VK),Inv X pins σ H s->RelV x v->RelV y u->r x y H Q->subscripted slice false v u=operate [v,u] (ua v u)->wpAny (model X.prog X.w) X.A (subscriptTail value slice v u) (EP X pins σ Q) X.xe s
def MtR (X:Cx)(id:String)(r:V->List V->Hp->VK->Prop):Prop:=∀(pins:List (Addr×Obj)) (s:ac) (σ:St) (H:Hp) (x:V) (xs:List V) (v:Value) (us:List Value) (Q:VK),Inv X pins σ H s->RelV x v->Vals xs us->r x xs H Q->wpAny (model X.prog X.w) X.A (call (.builtin id) (v::us)) (EP X pins σ Q) X.xe s
section
variable {X:Cx}{a b:Expr}{ta tb:TE}{pos:Pos}
theorem IxR.or {r r':R2}(h:IxR X r)(h':IxR X r'):IxR X (fun x y H Q=>r x y H Q\/r' x y H Q):=by
 intro value slice pins s σ H x y v u Q I rx ry q hs;rcases q with q|q
 ·exact h value slice pins s σ H x y v u Q I rx ry q hs
 ·exact h' value slice pins s σ H x y v u Q I rx ry q hs
theorem MtR.or {id:String}{r r':V->List V->Hp->VK->Prop}(h:MtR X id r)(h':MtR X id r'):MtR X id (fun x xs H Q=>r x xs H Q\/r' x xs H Q):=by
 intro pins s σ H x xs v us Q I rx rs q;rcases q with q|q
 ·exact h pins s σ H x xs v us Q I rx rs q
 ·exact h' pins s σ H x xs v us Q I rx rs q
theorem ztg {r:R2}(hr:IxR X r)(ha:PE X a ta)(hb:PE X b tb)(hs:zc7 b):PE X (.Subscript a b pos) (tOp r ta tb):=by intro pins s σ H Q I h;exact Subscript_ (binT ha hb I h fun v u s2 x y H2 I2 rx ry q=>hr a b pins s2 σ H2 x y v u Q I2 rx ry q (hs _ _))
def rIxL (K:W.Frag):R2:=fun x y H Q=>∃p xs i v,x=.ref p/\y=.int i/\SqL K H p xs/\atI xs i=some v/\Q v H
def rIxT (K:W.Frag):R2:=fun x y H Q=>∃p xs i v,x=.ref p/\y=.int i/\SqT K H p xs/\atI xs i=some v/\Q v H
def rIxS:R2:=fun x y H Q=>∃z i c,x=.str z/\y=.int i/\z.length<=bh/\atI z.cps.toList i=some c/\Q (.str ⟨#[c]⟩) H
theorem zjr:IxR X (rIxL X.K):=by
 intro value slice pins s σ H x y v u Q I rx ry h hs;obtain⟨p,xs,i,z,rfl,rfl,hq,he,q⟩:=h;cases rx;obtain⟨t,rfl⟩:=ry;obtain⟨its,r,pl,hz⟩:=I.list hq;obtain⟨j,h1,h2,h3,h4,h5⟩:=z8t he;obtain⟨w,ew,rw'⟩:=r.get h2;have hl:=r.length;have hn:=z4o;have fin:EP X pins σ Q w s:=⟨z,H,I,rw',q⟩;by_cases h0:0<=i
 ·have hj:i.toNat=j:=by
   rw[uy h0 h5]at h1;exact Option.some.inj h1
  exact item_listR pl.isList h0 (by omega) (by rw[hj];simpa using ew) fin hs
 ·have hj:(i+(its.toArray.size:Int)).toNat=j:=by
   rw[uc (by omega) h4]at h1;rw[aw,<-hl];exact Option.some.inj h1
  exact pz (x:=w) pl.isList.typeIs slot_list_getitem.lookup (wpAny_getItem_list_neg (Q:=fun r s'=>r=w/\EP X pins σ Q r s') pl.isList (by omega) (by rw[aw]<;>omega) (by omega) (by rw[hj];simpa using ew) ⟨rfl,fin⟩) hs
theorem zra:IxR X (rIxT X.K):=by intro value slice pins s σ H x y v u Q I rx ry h hs;obtain⟨p,xs,i,z,rfl,rfl,hq,he,q⟩:=h;cases rx;obtain⟨t,rfl⟩:=ry;obtain⟨its,r,pl,hz⟩:=I.tuple hq;obtain⟨j,h1,h2,h3,h4,h5⟩:=z8t he;obtain⟨w,ew,rw'⟩:=r.get h2;have hl:=r.length;have hn:=z4o;have fin:EP X pins σ Q w s:=⟨z,H,I,rw',q⟩;exact pz (x:=w) pl.typeIs slot_tuple_getitem.lookup (getItem_tuple (j:=j) (Q:=fun r s'=>r=w/\EP X pins σ Q r s') pl (by omega) (by omega) (by rw[aw,<-hl];exact h1) (by simpa using ew) ⟨rfl,fin⟩) hs
theorem za2:IxR X rIxS:=by
 intro value slice pins s σ H x y v u Q I rx ry h hs;obtain⟨z,i,c,rfl,rfl,hz,he,q⟩:=h;obtain⟨t,rfl⟩:=rx;obtain⟨t',rfl⟩:=ry;obtain⟨j,h1,h2,h3,h4,h5⟩:=z8t he;have hl:z.cps.toList.length=z.length:=by simp[Str.length]
 rw[hl]at h1 h4 h5;have hn:=z4o;exact tail_any (vi s z t) slot_str_getitem.lookup (getItem_str (c:=c) (by have e1:decide (i< -(2 ^ 63:Int))=false:=wf (by omega);have e2:decide (i ≥ 2 ^ 63)=false:=wf (by omega);rw[e1,e2,oy]) (by rw[h1];simpa using h2) ⟨.str ⟨#[c]⟩,H,I.tok _,⟨_,rfl⟩,q⟩) hs
def rIx (K:W.Frag):R2:=fun x y H Q=>rIxL K x y H Q\/rIxT K x y H Q\/rIxS x y H Q
theorem zr0:IxR X (rIx X.K):=zjr.or (zra.or za2)
theorem zav (its:List Value)(n j:Nat)(u:Value):Obj.mapSeq (·.setIfInBounds j u) {cls:=.type "list",data:=.seq its.toArray n}={cls:=.type "list",data:=.seq (its.set j u).toArray n}:=by simp[Obj.mapSeq]
theorem Inv.lst {pins:List (Addr×Obj)}{σ:St}{H:Hp}{s:ac}{p:Addr}{xs:List V}(I:Inv X pins σ H s)(h:H p=some (.lst xs)):
  ∃(its:List Value) (n:Nat),Vals xs its/\s.heap.get? p=some {cls:=.type "list",data:=.seq its.toArray n}/\xs.length<=bh:=by
 obtain⟨z,its,n,r,e⟩:=I.hok p _ h;exact⟨its,n,r,e,z⟩
theorem Inv.lstUpd {pins:List (Addr×Obj)}{σ:St}{H:Hp}{s:ac}{p:Addr}{xs ys:List V}{its its':List Value}{n n':Nat}{f:Obj->Obj}(I:Inv X pins σ H s)(h:H p=some (.lst xs))
  (ho:s.heap.get? p=some {cls:=.type "list",data:=.seq its.toArray n}) (hf:f {cls:=.type "list",data:=.seq its.toArray n}={cls:=.type "list",data:=.seq its'.toArray n'}) (r:Vals ys its') (hz:ys.length<=bh) (t:Nat):
  Inv X pins σ (upd H p (.lst ys)) {s with heap:=s.heap.update p f,toks:=t}:=by
 have e:(s.heap.update p f).get? p=some {cls:=.type "list",data:=.seq its'.toArray n'}:=by rw[jv f ho (by rw[hf]<;>rfl),hf]
 refine I.write (x:=p) (e:=p) (by rw[h];trivial) (.inl rfl) (fun b u hb q=>(p6 _ _ (Ne.symm hb)).trans q) ⟨_,e⟩ ?_;exact⟨hz,its',n',r,e⟩
def zpz:V->V->V->Hp->(Hp->Prop)->Prop:=fun o i v H Q=>∃p xs k j,o=.ref p/\i=.int k/\H p=some (.lst xs)/\ixN xs.length k=some j/\Q (upd H p (.lst (xs.set j v)))
theorem set_list:PSet X zpz:=by
 intro pins s σ H o i v ov iv u Q I ro ri rv h;obtain⟨p,xs,k,j,rfl,rfl,hp,hj,q⟩:=h;cases ro;obtain⟨t,rfl⟩:=ri;obtain⟨its,n,r,ho,hz⟩:=I.lst hp;obtain⟨h1,h2,h3,h4⟩:=zbw hj;have hl:=r.length;have hn:=z4o;have I':Inv X pins σ (upd H p (.lst (xs.set j v))) {s with heap:=s.heap.update p (Obj.mapSeq (·.setIfInBounds j u))}:=I.lstUpd hp ho (zav its n j u) (r.set rv j) (by rw[cn];exact hz) s.toks;by_cases h0:0<=k
 ·have hk:k.toNat=j:=by
   rw[uy h0 h4]at h1;exact Option.some.inj h1
  exact W.ki_setAt ho h0 (by omega) (by rw[aw,<-hl];exact h4) (by rw[hk];exact⟨_,I',q⟩)
 ·have hk:(k+(its.toArray.size:Int)).toNat=j:=by
   rw[uc (by omega) h3]at h1;rw[aw,<-hl];exact Option.some.inj h1
  exact W.ki_setBack ho (by omega) (by rw[aw,<-hl];exact h3) (by omega) (by rw[hk];exact⟨_,I',q⟩)
theorem z7v (lo hi:Option Int)(n:Nat):(lc lo hi none n).1=((HT.sIx n 0 lo:Nat):Int)/\(lc lo hi none n).2.1=((HT.sIx n n hi:Nat):Int)/\(lc lo hi none n).2.2=1:=by
 refine⟨?_,?_,rfl⟩
 ·cases lo with
  |none=>simp[lc,HT.sIx]
  |some i=>
   simp only[lc,HT.sIx,Option.getD_none,show(1:Int)>0 by decide,if_true];by_cases h:i<0
   ·simp only[h,if_true]<;>omega
   ·simp only[h,if_false]<;>omega
 ·cases hi with
  |none=>simp[lc,HT.sIx]
  |some i=>
   simp only[lc,HT.sIx,Option.getD_none,show(1:Int)>0 by decide,if_true];by_cases h:i<0
   ·simp only[h,if_true]<;>omega
   ·simp only[h,if_false]<;>omega
theorem z5u (its:List Value)(lo hi:Option Int):slicePick its.toArray lo hi none=((its.drop (HT.sIx its.length 0 lo)).take (HT.sIx its.length its.length hi-HT.sIx its.length 0 lo)).toArray:=by obtain⟨h1,h2,h3⟩:=z7v lo hi its.toArray.size;unfold slicePick;rw[h1,h2,h3];simp only[ql,pick_run,aw]<;>rfl
def rSlL (K:W.Frag):V->Option Int->Option Int->Hp->VK->Prop:=fun x lo hi H Q=>∃a xs,x=.ref a/\SqL K H a xs/\∀p,H p=none->Q (.ref p) (upd H p (.lst (cutV xs lo hi)))
theorem zkz:SlR X (rSlL X.K):=by intro pins s σ H x v vl vu lo hi sl Q I rx hs pl pu h;obtain⟨a,xs,rfl,hx,q⟩:=h;cases rx;obtain⟨its,r,ht,hz⟩:=I.list hx;have hlen:=r.length;refine⟨"list",_,slot_list_getitem.lookup,ht.isList.typeIs,?_⟩;refine wpAny_getItem_list_slice ht.isList hs pl pu .none (by simp) ?_ (by rw[aw]<;>omega);rw[z5u,<-hlen];refine⟨.ref s.heap.objs.size,_,I.laid (t':=s.toks) (o:=.lst (cutV xs lo hi)) (fun b ob q=>ae _ q) (am _) ?_,rfl,q _ (I.hok.fresh (am _))⟩;exact⟨b6 (z4t xs lo hi) hz,_,0,(r.drop (HT.sIx xs.length 0 lo)).take (HT.sIx xs.length xs.length hi-HT.sIx xs.length 0 lo),ay _ rfl⟩
def z7s:V->Bool
 |.non=>true
 |.bl _=>true
 |.int _=>true
 |.str _=>true
 |_=>false
def eqV:V->V->Bool
 |.non,.non=>true
 |.bl a,.bl b=>a==b
 |.bl a,.int b=>(if a then 1 else 0)==b
 |.int a,.bl b=>a==(if b then 1 else 0)
 |.int a,.int b=>a==b
 |.str a,.str b=>a==b
 |_,_=>false
theorem zqn {A:b7}{s:ac}{y x:V}{u v:Value}(ry:RelV y u)(rx:RelV x v)(fy:z7s y=true)(fx:z7s x=true):SeqAt.EqAt A s u v (eqV y x):=by
 cases y with
 |non=>
  cases ry;cases x with
  |non=>cases rx;exact SeqAt.EqAt.same _
  |bl b=>cases rx;exact SeqAt.EqAt.none_bool b
  |int b=>obtain⟨t,rfl⟩:=rx;exact SeqAt.EqAt.none_int b t
  |str b=>obtain⟨t,rfl⟩:=rx;exact SeqAt.EqAt.none_str b t
  |_=>exact absurd (show false=true from fx) b9
 |bl a=>
  cases ry;cases x with
  |non=>cases rx;exact SeqAt.EqAt.bool_none a
  |bl b=>cases rx;exact SeqAt.EqAt.bool_bool a b
  |int b=>obtain⟨t,rfl⟩:=rx;exact SeqAt.EqAt.bool_int a b t
  |str b=>obtain⟨t,rfl⟩:=rx;exact SeqAt.EqAt.bool_str a b t
  |_=>exact absurd (show false=true from fx) b9
 |int a=>
  obtain⟨t',rfl⟩:=ry;cases x with
  |non=>cases rx;exact SeqAt.EqAt.int_none a t'
  |bl b=>cases rx;exact SeqAt.EqAt.int_bool a t' b
  |int b=>obtain⟨t,rfl⟩:=rx;exact SeqAt.EqAt.int_int a t' b t
  |str b=>obtain⟨t,rfl⟩:=rx;exact SeqAt.EqAt.int_str a t' b t
  |_=>exact absurd (show false=true from fx) b9
 |str a=>
  obtain⟨t',rfl⟩:=ry;cases x with
  |non=>cases rx;exact SeqAt.EqAt.str_none a t'
  |bl b=>cases rx;exact SeqAt.EqAt.str_bool a t' b
  |int b=>obtain⟨t,rfl⟩:=rx;exact SeqAt.EqAt.str_int a t' b t
  |str b=>obtain⟨t,rfl⟩:=rx;exact SeqAt.EqAt.str_str a t' b t
  |_=>exact absurd (show false=true from fx) b9
 |_=>exact absurd (show false=true from fy) b9
def eqU (x:V)(u:Value):Bool:=match u with
 |.none=>eqV .non x
 |.bool b=>eqV (.bl b) x
 |.int i _=>eqV (.int i) x
 |.str z _=>eqV (.str z) x
 |_=>false
theorem zid {x y:V}{u:Value}(r:RelV y u)(f:z7s y=true):eqU x u=eqV y x:=by
 cases y with
 |non=>cases r;rfl
 |bl b=>cases r;rfl
 |int i=>obtain⟨t,rfl⟩:=r;rfl
 |str z=>obtain⟨t,rfl⟩:=r;rfl
 |_=>exact absurd (show false=true from f) b9
theorem z4l {x:V}:∀{xs:List V} {us:List Value},Vals xs us->xs.all z7s=true->us.any (eqU x)=xs.any fun y=>eqV y x
 |_,_,.nil,_=>rfl
 |y::xs,u::us,.cons r t,f=>by rw[dw,ba]at f;rw[jc,jc,zid r f.1,z4l t f.2]
theorem z39 {A:b7}{s:ac}{x:V}{v:Value}(rx:RelV x v)(fx:z7s x=true):∀{xs:List V} {us:List Value},Vals xs us->xs.all z7s=true->∀u∈us,SeqAt.EqAt A s u v (eqU x u)
 |_,_,.nil,_=>fun u hu=>by cases hu
 |y::xs,u::us,.cons r t,f=>fun u' hu=>by
  rw[dw,ba]at f;rcases au.mp hu with rfl|hu
  ·rw[zid r f.1];exact zqn r rx f.1 fx
  ·exact z39 rx fx t f.2 u' hu
def inV (x:V)(xs:List V):Bool:=xs.any fun y=>eqV y x
def rIn (K:W.Frag)(neg:Bool):R2:=fun x y H Q=>∃p xs,y=.ref p/\(SqL K H p xs\/SqT K H p xs)/\z7s x=true/\xs.all z7s=true/\Q (.bl (if neg then !inV x xs else inV x xs)) H
theorem zc6:OpR X (df .In) (rIn X.K false):=by
 intro pins s σ H x y v u Q I rx ry h;obtain⟨p,xs,rfl,hq,fx,fs,q⟩:=h;cases ry;rcases hq with hq|hq
 ·obtain⟨its,r,pl,hz⟩:=I.list hq;refine SeqAt.in_listAt (eqU x) pl.isList (fun w hw=>z39 rx fx r fs w (by simpa using hw)) ⟨.bl _,H,I,rfl,?_⟩;rw[show its.toArray.any (eqU x)=its.any (eqU x) by simp,z4l r fs];exact q
 ·obtain⟨its,r,pl,hz⟩:=I.tuple hq;refine SeqAt.in_tupleAt (eqU x) pl (fun w hw=>z39 rx fx r fs w (by simpa using hw)) ⟨.bl _,H,I,rfl,?_⟩;rw[show its.toArray.any (eqU x)=its.any (eqU x) by simp,z4l r fs];exact q
theorem z6w:OpR X (df .NotIn) (rIn X.K true):=by
 intro pins s σ H x y v u Q I rx ry h;obtain⟨p,xs,rfl,hq,fx,fs,q⟩:=h;cases ry;rcases hq with hq|hq
 ·obtain⟨its,r,pl,hz⟩:=I.list hq;refine SeqAt.notIn_listAt (eqU x) pl.isList (fun w hw=>z39 rx fx r fs w (by simpa using hw)) ⟨.bl _,H,I,rfl,?_⟩;rw[show its.toArray.any (eqU x)=its.any (eqU x) by simp,z4l r fs];exact q
 ·obtain⟨its,r,pl,hz⟩:=I.tuple hq;refine SeqAt.notIn_tupleAt (eqU x) pl (fun w hw=>z39 rx fx r fs w (by simpa using hw)) ⟨.bl _,H,I,rfl,?_⟩;rw[show its.toArray.any (eqU x)=its.any (eqU x) by simp,z4l r fs];exact q
theorem z7l:OpR X (df .NotIn) (fun x y H Q=>∃i j,x=.str i/\y=.str j/\Q (.bl (!(!(dq j i 0 j.length 1).isEmpty))) H):=by intro pins s σ H x y v u Q I rx ry h;obtain⟨i,j,rfl,rfl,q⟩:=h;obtain⟨t,rfl⟩:=rx;obtain⟨t',rfl⟩:=ry;exact notIn_str ⟨.bl _,H,I,rfl,q⟩
theorem z7q:CallR X (.builtin "len") (fun xs H Q=>∃p ys,xs=[.ref p]/\(SqL X.K H p ys\/SqT X.K H p ys)/\Q (.int ys.length) H):=by
 intro pins s σ H xs us Q I r h;obtain⟨p,ys,rfl,hq,q⟩:=h;obtain⟨u,rfl,rx⟩:=vals1 r;cases rx;have hn:=z4o;rcases hq with hq|hq
 ·obtain⟨its,r',pl,hz⟩:=I.list hq;have hlen:=r'.length;exact Calls.call_len_list pl.isList (by simp only[aw]<;>omega) ⟨.int ys.length,H,I.tok _,⟨s.toks+1,by rw[aw,hlen]⟩,q⟩
 ·obtain⟨its,r',pl,hz⟩:=I.tuple hq;have hlen:=r'.length;exact len_tuple pl (by simp only[aw]<;>omega) ⟨.int ys.length,H,I.tok _,⟨s.toks+1,by rw[aw,hlen]⟩,q⟩
theorem z73:CallR X (.builtin "len") (fun xs H Q=>∃z,xs=[.str z]/\z.length<=bh/\Q (.int z.length) H):=by intro pins s σ H xs us Q I r h;obtain⟨z,rfl,hz,q⟩:=h;obtain⟨u,rfl,t,rfl⟩:=vals1 r;have hn:=z4o;exact len_str (by omega) ⟨.int z.length,H,I.tok _,⟨_,rfl⟩,q⟩
theorem CallR.or {f:Value}{r r':List V->Hp->VK->Prop}(h:CallR X f r)(h':CallR X f r'):CallR X f (fun xs H Q=>r xs H Q\/r' xs H Q):=by
 intro pins s σ H xs us Q I rs q;rcases q with q|q
 ·exact h pins s σ H xs us Q I rs q
 ·exact h' pins s σ H xs us Q I rs q
theorem z72:CallR X (.type "list") (fun xs H Q=>∃p ys,xs=[.ref p]/\(SqL X.K H p ys\/SqT X.K H p ys)/\∀l,H l=none->Q (.ref l) (upd H l (.lst ys))):=by
 intro pins s σ H xs us Q I r h;obtain⟨p,ys,rfl,hq,q⟩:=h;obtain⟨u,rfl,rx⟩:=vals1 r;cases rx
 have fin:∀(its:List Value),Vals ys its->ys.length<=bh->∀(h':Heap) (c':Nat),(∀b o',s.heap.get? b=some o'->h'.get? b=some o')->
   h'.get? s.heap.objs.size=some {cls:=.type "list",dict:=none,data:=.seq its.toArray c',slots:=#[]}->EP X pins σ Q (.ref s.heap.objs.size) {s with heap:=h'}:=fun its r' hz h' c' kp e=>
  ⟨.ref s.heap.objs.size,_,I.laid (t':=s.toks) kp (am _) (show z0s X.prog X.w _ h' _ (.lst ys)from⟨hz,its,c',r',e⟩),rfl,q _ (I.hok.fresh (am _))⟩
 rcases hq with hq|hq
 ·obtain⟨its,r',pl,hz⟩:=I.list hq;have hlen:=r'.length;obtain⟨o,ho,hc,n,hd⟩:=pl.isList;exact call_list_seq p (.inl rfl) ho hc hd (fun h' c' kp e=>fin its r' hz h' c' kp e) (by simp only[aw]<;>omega)
 ·obtain⟨its,r',pl,hz⟩:=I.tuple hq;have hlen:=r'.length;obtain⟨o,ho,hc,n,hd⟩:=pl;exact call_list_seq p (.inr rfl) ho hc hd (fun h' c' kp e=>fin its r' hz h' c' kp e) (by simp only[aw]<;>omega)
theorem z61:CallR X (.type "tuple") (fun xs H Q=>∃p ys,xs=[.ref p]/\((SqL X.K H p ys/\∀l,H l=none->Q (.ref l) (upd H l (.tup ys)))\/(SqT X.K H p ys/\Q (.ref p) H))):=by
 intro pins s σ H xs us Q I r h;obtain⟨p,ys,rfl,h⟩:=h;obtain⟨u,rfl,rx⟩:=vals1 r;cases rx;rcases h with⟨hq,q⟩|⟨hq,q⟩
 ·obtain⟨its,r',pl,hz⟩:=I.list hq;have hlen:=r'.length;refine call_tuple_list pl.isList (fun h' kp=>?_) (by simp only[aw]<;>omega);have I1:Inv X pins σ H {s with heap:=h'}:=I.kept (t':=s.toks) kp;have I2:Inv X pins σ (upd H h'.objs.size (.tup ys)) {s with heap:=h'.push {cls:=.type "tuple",data:=.seq its.toArray}}:=I1.laid (t':=s.toks) (fun b o e=>ae _ e) (am _) (show z0s X.prog X.w _ _ _ (.tup ys)from⟨hz,its,r',TupN.new _ _⟩);exact⟨.ref h'.objs.size,_,I2,rfl,q _ (I1.hok.fresh (am _))⟩
 ·obtain⟨its,r',pl,hz⟩:=I.tuple hq;exact call_tuple_same pl ⟨.ref p,H,I,rfl,q⟩
def tyV (K:W.Frag)(T:String)(x:V)(H:Hp):Prop:=match x with
 |.str _=>T="str"
 |.int _=>T="int"
 |.ref p=>(T="list"/\∃xs,SqL K H p xs)\/(T="tuple"/\∃o,K.lookup p=some o/\o.cls=.type "tuple"/\o.dict=none)\/(T="dict"/\∃kvs,H p=some (.dK kvs))
 |_=>False
theorem znw {pins:List (Addr×Obj)}{σ:St}{H:Hp}{s:ac}{T:String}{x:V}{v:Value}(I:Inv X pins σ H s)(r:RelV x v)(ty:tyV X.K T x H):
  s.TypeIs v T/\∀a,v=.ref a->∃ob,s.heap.get? a=some ob/\ob.dict=none:=by
 cases x with
 |str z=>obtain⟨t,rfl⟩:=r;cases(show T="str"from ty);exact⟨vi s z t,fun _ e=>nomatch e⟩
 |int i=>obtain⟨t,rfl⟩:=r;cases(show T="int"from ty);exact⟨vj s i t,fun _ e=>nomatch e⟩
 |ref p=>
  cases r;rcases ty with⟨rfl,xs,hq⟩|⟨rfl,o,hk,hc,hd⟩|⟨rfl,kvs,hk⟩
  ·obtain⟨its,_,pl,_⟩:=I.list hq;refine⟨pl.isList.typeIs,fun a e=>?_⟩;cases e;obtain⟨o,n,e,c,hd,_⟩:=pl;exact⟨o,e,hd⟩
  ·refine⟨⟨o,I.kIn p o hk,hc⟩,fun a e=>?_⟩;cases e;exact⟨o,I.kIn _ o hk,hd⟩
  ·obtain⟨_,_,_,_,o,_,_,e,ex,_⟩:=I.hok p _ hk;refine⟨⟨o,e,ex.1⟩,fun a e2=>?_⟩;cases e2;exact⟨o,e,ex.2.1⟩
 |_=>exact False.elim ty
def tBM (K:W.Frag)(T:String)(r:V->List V->Hp->VK->Prop)(to:TE)(t:TA):TE:=fun σ H Q=>to σ H fun x H1=>tyV K T x H1/\t σ H1 fun xs H2=>r x xs H2 Q
variable {o e:Expr}{es:List Expr}{to:TE}{t:TA}{name:Str}{apos cpos:Pos}{T id:String}{r:V->List V->Hp->VK->Prop}
theorem zqh (pa:PlainAttrs T)(slot:Slot T name id)(hty:uw (.builtin id)=pure (.type "method_descriptor"))(hm:MtR X id r)(ho:PE X o to)(ha:PA X (e::es) t)
  (hbase:si o name X.env (eval o X.env)=eval o X.env:=by rfl)
  (hfew:((li cpos (dn (e::es) X.env)).all (fun x=> !x.1)&&(backToKw cpos (ux [] X.env)).all (fun x=>x.1.isSome)
   &&decide ((e::es).length+([]:List pq).length+(if([]:List pq).isEmpty then 0 else 1)<30))=true:=by rfl)
  (hline:(apos.endLine==cpos.line)=true:=by rfl) (hs:dn (e::es) X.env=(false,eval e X.env)::dn es X.env:=by rfl) (hplain:(li cpos (dn es X.env)).any (·.1)=false:=by rfl):
  PE X (.Call (.Attribute o name apos) (e::es) [] cpos) (tBM X.K T r to t):=by
 intro pins s σ H Q I h;refine wpAny_Call_method_late hbase hfew hline rfl (thn (ho pins s σ H _ I h) fun v s1 ⟨x,H1,I1,r1,ty,q1⟩=>?_);obtain⟨h1,h2⟩:=znw I1 r1 ty;refine⟨T,id,pa,slot,hty,h1,h2,?_⟩;have hA:=ha cpos pins s1 σ H1 _ I1 q1;rw[hs]at hA ⊢;refine Calls.callWith_builtin (by show(false||(li cpos (dn es X.env)).any (·.1))=false;rw[hplain]<;>rfl) (qm ?_);exact thn hA fun us s2 ⟨vs,H2,I2,r2,q2⟩=>hm pins s2 σ H2 x vs v us Q I2 r1 r2 q2
end
def MtM (X:Cx)(id:String)(r:V->List V->Hp->VK->Prop):Prop:=∀(pins:List (Addr×Obj)) (s:ac) (σ:St) (H:Hp) (x:V) (xs:List V) (v:Value) (us:List Value) (Q:VK),Inv X pins σ H s->RelV x v->Vals xs us->r x xs H Q->wpAny (model X.prog X.w) X.A (call (.builtin id) (v::us)) (EP X pins σ Q) X.xe s
theorem Vals.one {x:V}{us:List Value}(h:Vals [x] us):∃u,us=[u]/\RelV x u:=by
 cases h with
 |cons r h=>cases h;exact⟨_,rfl,r⟩
theorem Vals.two {x y:V}{us:List Value}(h:Vals [x,y] us):∃u v,us=[u,v]/\RelV x u/\RelV y v:=by
 cases h with
 |cons r h=>cases h with
  |cons q h=>cases h;exact⟨_,_,rfl,r,q⟩
theorem Vals.zero:∀{us:List Value},Vals [] us->us=[]
 |_,.nil=>rfl
theorem Vals.rep {xs:List V}{us:List Value}(h:Vals xs us):∀k:Nat,Vals (bj k xs).flatten (bj k us).flatten
 |0=>.nil
 |k+1=>by rw[dm,dm,eu,eu];exact Vals.append h (Vals.rep h k)
theorem foldl_rep (its:List Value):∀(k:Nat) (acc:List Value),
  vm (fun x1 x2=>x1++x2) acc.toArray (bj k its.toArray)=(acc++(bj k its).flatten).toArray
 |0,acc=>by simp
 |k+1,acc=>by
  have e:acc.toArray++its.toArray=(acc++its).toArray:=by simp
  have e2:(acc++its)++(bj k its).flatten=acc++(bj (k+1) its).flatten:=by rw[dm,eu,gz]
  rw[<-e2,<-foldl_rep its k (acc++its),<-e,dm,ky]
section
variable {X:Cx}{pins:List (Addr×Obj)}{σ:St}{H:Hp}{s:ac}{l b:Addr}{xs ys zs:List V}
theorem Inv.lset {its its':List Value}{n:Nat}{f:Array Value->Array Value}{t':Nat}(I:Inv X pins σ H s)(hH:H l=some (.lst xs))
  (e:s.heap.get? l=some {cls:=.type "list",data:=.seq its.toArray n}) (hf:f its.toArray=its'.toArray) (hv:Vals ys its') (hz:ys.length<=bh):
  Inv X pins σ (upd H l (.lst ys)) {s with heap:=s.heap.update l (Obj.mapSeq f),toks:=t'}:=by
 have q:=PySem.IsL.update e f;rw[hf]at q;refine I.write (x:=l) (e:=l) (by rw[hH];exact trivial) (.inl rfl) (fun b' u hb hu=>(p6 s.heap (Obj.mapSeq f) (Ne.symm hb)).trans hu) ⟨_,q⟩ ?_;exact⟨hz,its',_,hv,q⟩
theorem Inv.lnew {its:List Value}{t':Nat}(I:Inv X pins σ H s)(hv:Vals ys its)(hz:ys.length<=bh):
  Inv X pins σ (upd H s.heap.objs.size (.lst ys)) {s with heap:=s.heap.push {cls:=.type "list",data:=.seq its.toArray},toks:=t'}:=
 I.laid (fun _ _ q=>ae _ q) (am _) ⟨hz,its,0,hv,ay _ rfl⟩
theorem Inv.fresh (I:Inv X pins σ H s):H s.heap.objs.size=none:=I.hok.fresh (am _)
theorem Inv.lstM (I:Inv X pins σ H s)(hH:H l=some (.lst xs)):xs.length<=bh/\∃(its:List Value) (n:Nat),Vals xs its/\xs.length=its.length/\s.heap.get? l=some {cls:=.type "list",data:=.seq its.toArray n}:=by obtain⟨z,its,n,r,e⟩:=I.hok l _ hH;exact⟨z,its,n,r,r.length,e⟩
theorem zhi {n:Nat}(h:n<=bh):jf n=false:=by unfold jf;exact wf (by omega)
end
section
variable {X:Cx}
def zlh:V->List V->Hp->VK->Prop:=fun x vs H Q=>∃l xs y,x=.ref l/\vs=[y]/\H l=some (.lst xs)/\xs.length<bh/\Q .non (upd H l (.lst (xs++[y])))
theorem z76:MtM X "list.append" zlh:=by intro pins s σ H x vs v us Q I rx rv h;obtain⟨l,xs,y,rfl,rfl,hH,hz,q⟩:=h;cases rx;obtain⟨u,rfl,ru⟩:=rv.one;obtain⟨z,its,n,r,hl,e⟩:=I.lstM hH;refine tw F.slot_list_append ⟨_,e,rfl⟩ F.entry_list_append (F.args_list_append_2 _ _) (PySem.list_append l its.toArray n u (by rw[aw];omega)) ⟨e,?_⟩;refine⟨.non,_,I.lset (its':=its++[u]) hH e (by simp) (r.append (.cons ru .nil)) ?_,rfl,q⟩;rw[az,ls];omega
def rCat:R2:=fun x y H Q=>∃l b xs zs,x=.ref l/\y=.ref b/\H l=some (.lst xs)/\H b=some (.lst zs)/\xs.length+zs.length<=bh/\∀p,H p=none->Q (.ref p) (upd H p (.lst (xs++zs)))
theorem zri:OpR X (gm .Add) rCat:=by
 intro pins s σ H x y v u Q I rx ry h;obtain⟨l,b,xs,zs,rfl,rfl,hH,hB,hz,q⟩:=h;cases rx;cases ry;obtain⟨z,its,n,r,hl,e⟩:=I.lstM hH;obtain⟨z2,its2,n2,r2,hl2,e2⟩:=I.lstM hB;refine PySem.P.add_list e e2 ?_ (by rw[aw,aw];omega);have ea:its.toArray++its2.toArray=(its++its2).toArray:=by simp
 rw[ea];exact⟨.ref _,_,I.lnew (t':=s.toks) (r.append r2) (by rw[az];omega),rfl,q _ I.fresh⟩
def rRep:R2:=fun x y H Q=>∃l k xs,x=.ref l/\y=.int k/\H l=some (.lst xs)/\ -(2 ^ 63)<=k/\k<2 ^ 63/\xs.length*k.toNat<=bh/\∀p,H p=none->Q (.ref p) (upd H p (.lst (bj k.toNat xs).flatten))
theorem len_rep {α:Type}(xs:List α)(k:Nat):(bj k xs).flatten.length=k*xs.length:=by
 induction k with
 |zero=>simp
 |succ k ih=>rw[dm,eu,az,ih,Nat.succ_mul,Nat.add_comm]
theorem znb:OpR X (gm .Mult) rRep:=by
 intro pins s σ H x y v u Q I rx ry h;obtain⟨l,k,xs,rfl,rfl,hH,h1,h2,hz,q⟩:=h;cases rx;obtain⟨t,rfl⟩:=ry;obtain⟨z,its,n,r,hl,e⟩:=I.lstM hH;have hlen:its.toArray.size*k.toNat<=bh:=by rw[aw,<-hl];exact hz
 have hcap:¬its.toArray.size*k.toNat>(2 ^ 63-1)/8:=by
  have:(bh:Nat)<=(2 ^ 63-1)/8:=by decide
  omega
 have hfit:¬(!Builtin.List.listFitsIndex k)=true:=by rw[fitsIndex_both h1 h2];exact b9
 have hlong:¬jf (its.toArray.size*k.toNat)=true:=by rw[zhi hlen];exact b9
 have hnew:vm (fun x1 x2=>x1++x2) #[] (bj (if its.toArray.isEmpty=true then 0 else k.toNat) its.toArray)=(bj k.toNat its).flatten.toArray:=by
  have f0:∀m:Nat,vm (fun x1 x2=>x1++x2) #[] (bj m its.toArray)=(bj m its).flatten.toArray:=fun m=>by have:=foldl_rep its m [];rw[List.nil_append]at this;exact this
  rw[f0];cases its with
  |nil=>simp
  |cons a r'=>rw[if_neg (by simp)]
 refine wpAny_binaryOp_repeat_ref (T:="list") (U:="int") (by decide) ⟨_,e,rfl⟩ (fun s'=>vj s' k t) noFill_list_mul F.fills_int_mul F.slot_int_rmul repeat_list F.slot_int_index.lookup
  (tw F.slot_int_rmul (vj s k t) F.entry_int_rmul (F.args_int_rmul_2 _ _) (int___rmul___int_list k t l its.toArray n)
   ⟨e,rfl,⟨_,e,rfl⟩,tw F.slot_list_mul ⟨_,e,rfl⟩ F.entry_list_mul (F.args_list_mul_2 _ _) (AutoListH.list___mul___list_int_3 l its.toArray n k t hfit hcap hlong) ⟨e,?_⟩⟩)
 rw[hnew];exact⟨.ref _,_,I.lnew (t':=s.toks) (r.rep k.toNat) (by rw[len_rep,Nat.mul_comm];exact hz),rfl,q _ I.fresh⟩
end
section
variable {prog:a8}{w:World}{A:b7}{E:Value->ac->Prop}{s:ac}
end
section
variable {X:Cx}
end
end L2
namespace Att
open PySem PySem.W PySem.Calls PyProof.Rows
theorem z4a {P:g9}{h:Heap}:∀(ns:List Int) (vs:List Value),WellAll P h vs (ns.map WData.int)->q8 vs ns:=by
 intro ns
 induction ns with
 |nil=>intro vs w;rw[List.map_nil]at w;cases w;exact .nil
 |cons n ns ih=>
  intro vs w;rw[ao]at w;cases w with
  |cons a b=>cases a;exact .cons _ _ (ih _ b)
theorem zcx {l:OpenLaw}{n:Nat}(hn:l.most=some n){P:g9}{h:Heap}{args:List WData}{vals:List Value}
  (hpre:l.row.toRowW.claim.pre args=true) (hwl:WellAll P h vals args):
  ∃a vs ns,vals=[Value.ref a]/\args=[WData.list (ns.map WData.int)]/\h.get? a=some {cls:=.type "list",data:=.seq vs.toArray}/\q8 vs ns/\ns.length<=n:=by
 have hsh:WShape.hasAll [] args [.list .int]=true:=(pre_splitW hpre).1;have hc:l.pre.holds [] {args:=args}=true:=(pre_splitW hpre).2;obtain⟨d,r,rfl,h1,h2⟩:=hasAllW_cons hsh;obtain rfl:=hasAllW_nil h2;obtain⟨xs,rfl,h3⟩:=hasW_list h1;obtain⟨ns,rfl⟩:=items_int h3
 have hlen:ns.length<=n:=by
  unfold OpenLaw.pre at hc;have h4:(WTm.not (.lt (.lit (.int (n:Int))) (.len (.arg 0)))).holds [] {args:=[.list (ns.map .int)]}=true:=by have h4:=(holds_andW hc).1;rw[hn]at h4;exact h4
  have h5:=condW_of h4 (w_not (w_lt w_lit (w_len_list (w_arg rfl))));rw[ah]at h5;refine pd fun q=>?_;have q':(n:Int)<((ns.length:Nat):Int):=by omega
  first
   |(rw[we q']at h5;exact absurd h5 (by decide))
   |(simp at h5;omega)
 cases hwl with
 |cons w1 w2=>
  cases w2;cases w1 with
  |list ho hall=>exact⟨_,_,ns,rfl,rfl,ho,z4a ns _ hall,hlen⟩
theorem zdu (l:OpenLaw)(args:List WData):l.row.toRowW.claim.post args (.bool true) args=true:=
 postW_of (r:=l.row.toRowW) (X:=(true==true))
  (show WShape.has [] (.bool true) .bool=true by first|rfl|decide|simp[WShape.has,WShape.arms,WShape.armsAll])
  (show(WTm.eq .res (.lit (.bool true))).value [] {args:=args,res:=some (.bool true),after:=args}=some (.bool (true==true))from w_eq_bool (w_res rfl) w_lit) rfl
theorem attach_call {l:OpenLaw}{n:Nat}{q:a8}{loose:List Str}{XP:(Str->Option Value)->Heap->Prop}{YP:World->Heap->Prop}{d:v7}
  (hn:l.most=some n) (hdf:d.params.defaults=[])
  (call:∀(w:World) (s₀ s₁:ac) (mg mb:Str->Option Value) (fa:Addr) (o:Obj) (pm cd doc:Value) (a:Addr) (vs:List Value) (ns:List Int),
   Ground q loose [] XP w s₀ mg mb s₁.heap->YP w s₁.heap->
   s₁.heap.get? fa=some o->o.data=.func (docDef d.name d.params d.body d.scope pm cd doc)->s₁.heap.CodeRec cd d.name->mg d.name=some (.ref fa)->
   s₁.heap.get? a=some {cls:=.type "list",data:=.seq vs.toArray}->q8 vs ns->ns.length<=n->s₁.gens=#[]->
   ku (model l.prog w) q9 (.call (.ref fa) ⟨[.ref a],[]⟩) (fun r s'=>r=.ok (.ret (.bool true))/\OldK s₁.heap s'.heap/\s'.os=s₁.os/\m9 s'.gens) s₁):
  WalkO q loose XP YP l.row.toRowW d [] (fun f vs=>PySem.call f vs):=by
 intro w s₀ s₁ mg mb G Y fa o pm cd doc dV kV ho hd hcd hD hmg hg args vals as hpre hlay hrd hwl hlo;obtain rfl:dV=.none:=Dflts.none hD hdf;obtain rfl:kV=.none:=Dflts.noKw hD;obtain⟨a,vs,ns,rfl,rfl,hobj,hints,hlen⟩:=zcx hn hpre hwl;refine enter_call (lj (call w s₀ s₁ mg mb fa o pm cd doc a vs ns G Y ho (fd_plain hd) hcd hmg hobj hints hlen hg) fun r s' hq=>?_);obtain⟨rfl,h2,h3,h4⟩:=hq;exact⟨.inl ⟨.bool true,.bool true,[],rfl,fun _=>rfl,.bool true,zdu l _,fun _=>⟨List.Pairwise.nil,fun _ hm=>(nomatch hm)⟩⟩,h2,h3,h4⟩
section
variable {prog:a8}{w:World}{A:b7}{E:Value->ac->Prop}{s:ac}{K:Frag}
end
end Att
namespace L2
open PySem PySem.Spec PyProof.Rows
theorem z7c:∀{vs:List Value} {ns:List Int},q8 vs ns->Vals (ns.map V.int) vs
 |_,_,.nil=>.nil
 |_,_,.cons n t h=>.cons ⟨t,rfl⟩ (z7c h)
def Only (H:Hp):Prop:=∀b,H b=none\/∃o xs,H b=some (.frz o (.lst xs))
theorem zh4 {P:a8}{w:World}{K:W.Frag}{mg mb:Str->Option Value}{CX:CXT}{k:Nat}{fa a:Addr}{fd:e7}{x:Str}{sp:Sp}{s₁:ac}{vs:List Value}{ns:List Int}
  (KX:K.In s₁.heap) (hns:s₁.heap.Ns cg mg) (hb:s₁.heap.Ns ve mb) (hbb:∀x:Str,x≠"__name__"->mb x=cu x) (hlim:s₁.heap.NoLimit) (hg:s₁.gens=#[])
  (ha:s₁.heap.get? a=some {cls:=.type "list",data:=.seq vs.toArray}) (hi:q8 vs ns) (hl:ns.length<=bh) (hr:Room k q9)
  (F:∀base:Heap,K.In base->base.Ns cg mg->FnOk P w K mg base CX k fa fd [x] sp) (hbind:∀(s:ac) (u:Value),qx s fd ⟨[u],[]⟩ [(x,u)])
  (hsp:∀H:Hp,Only H->SqL K H a (ns.map V.int)->sp [.ref a] H (fun v _=>v=.bl true) fun _ _ _=>False)
  (hCX:∀H e s',CX [] H s₁ (fun _ _ _=>False) e s'->False):
  ku (model P w) q9 (.call (.ref fa) ⟨[.ref a],[]⟩) (fun r s'=>r=.ok (.ret (.bool true))/\OldK s₁.heap s'.heap/\s'.os=s₁.os/\m9 s'.gens) s₁:=by
 have rv:=z7c hi;have lenV:=hi.length
 have core:∀H:Hp,Only H->SqL K H a (ns.map V.int)->HOk P w H s₁.heap->(∀b,H b≠none->b=a)->(H a≠none->K.lookup a=none)->
   ku (model P w) q9 (.call (.ref fa) ⟨[.ref a],[]⟩) (fun r s'=>r=.ok (.ret (.bool true))/\OldK s₁.heap s'.heap/\s'.os=s₁.os/\m9 s'.gens) s₁:=by
  intro H hO hS hok hA hK;have z62:∀{b:Addr} {o:Obj},s₁.heap.get? b=some o->H b=none->(hidT s₁.heap H).get? b=some o:=fun e n=>zfg e n
  have noA:∀{b:Addr} {o:Obj} {es:Array DictEntry} {ep:Nat},s₁.heap.get? b=some o->o.data=.dict es ep->H b=none:=fun{b o es ep} e d=>by
   cases q:H b with
   |none=>rfl
   |some u=>have e':b=a:=hA b (by rw[q];simp);subst e';rw[ha]at e;cases e;have d':Data.seq vs.toArray _=Data.dict es ep:=d;cases d'
  have nsK:∀{b:Addr} {m:Str->Option Value},s₁.heap.Ns b m->(hidT s₁.heap H).Ns b m:=fun{b m} ⟨o,es,ep,e,d,r⟩=>⟨o,es,ep,z62 e (noA e d),d,r⟩
  have hKb:K.In (hidT s₁.heap H):=fun b o e=>z62 (KX b o e) (by
   cases q:H b with
   |none=>rfl
   |some u=>have e':b=a:=hA b (by rw[q];simp);subst e';rw[hK (by rw[q];simp)]at e;cases e)
  have hM:Mod K mg (hidT s₁.heap H):=⟨hKb,nsK hns,⟨mb,nsK hb,hbb⟩,let⟨mc,h1,h2⟩:=hlim;⟨mc,nsK h1,h2⟩⟩;have e0:Env0 P w K mg (hidT s₁.heap H) q9 [] s₁ H:=⟨rfl,hM,fun b o e=>zm6 e,ue (zd6 _ _),trivial,fun b hb=>absurd (show b∈([]:List Addr)from hb) (by simp),hok,.of_eq hg⟩;refine lj ((F _ hKb (nsK hns)).run q9 [] s₁ H ⟨[.ref a],[]⟩ [.ref a] [.ref a] _ _ hr e0 (hbind s₁ (.ref a)) (.cons rfl .nil) (hsp H hO hS)) fun r s' h=>?_;cases r with
  |error e=>exact(hCX H e s' h).elim
  |ok fl=>
   cases fl with
   |next=>exact False.elim h
   |brk=>exact False.elim h
   |cont=>exact False.elim h
   |ret u=>
    obtain⟨v,H',os,bare,un,hok',r',q⟩:=h;have q':v=.bl true:=q;subst q';obtain rfl:u=Value.bool true:=r';refine⟨rfl,OldK.of_keep fun b o e=>?_,os,bare⟩;cases q:H b with
    |none=>exact un.keep b o e q (by intro z;exact absurd (show b∈([]:List Addr)from z) (by simp)) (by simp)
    |some u=>
     rcases hO b with z|⟨ob,xs,z⟩
     ·rw[q]at z;cases z
     ·have z2:=un.frzs b ob _ z;obtain⟨e1,_⟩:=hok b _ z;obtain⟨e2,_⟩:=hok' b _ z2;rw[e]at e1;cases e1;exact e2
 cases hk:K.lookup a with
 |some o=>have e:=KX a o hk;rw[ha]at e;cases e;refine core (fun _=>none) (fun _=>.inl rfl) (.inr ⟨_,vs.toArray,_,hk,rfl,rfl,rfl,by rw[aw,lenV];exact hl,by simpa using rv⟩) (fun b u z=>by have z':(none:Option HO)=some u:=z;cases z') (fun b z=>absurd rfl z) fun z=>absurd rfl z
 |none=>
  refine core (fun b=>if b=a then some (.frz {cls:=.type "list",data:=.seq vs.toArray} (.lst (ns.map V.int)))else none) (fun b=>?_) (.inl (.inr ⟨{cls:=.type "list",data:=.seq vs.toArray},if_pos rfl⟩)) (fun b u z=>?_) (fun b z=>?_) fun _=>hk
  ·by_cases hb:b=a
   ·exact .inr ⟨_,_,if_pos hb⟩
   ·exact .inl (if_neg hb)
  ·by_cases hb:b=a
   ·have z':=(if_pos hb).symm.trans z;cases z';subst hb;exact⟨ha,by rw[ah];exact hl,vs,_,rv,ha⟩
   ·have z':=(if_neg hb).symm.trans z;cases z'
  ·by_cases hb:b=a
   ·exact hb
   ·exact absurd (if_neg hb) z
theorem walk_of {l:W.OpenLaw}{n k:Nat}{q:a8}{loose:List Str}{XP:(Str->Option Value)->Heap->Prop}{YP:World->Heap->Prop}{d:v7}{K:g9->W.Frag}{CX:World->CXT}{sp:World->Sp}{x:Str}
  (hn:l.most=some n) (hn2:n<=bh) (hdf:d.params.defaults=[]) (hr:Room k q9)
  (hY:∀(w:World) (h:Heap),YP w h->(K w.params).In h)
  (F:∀(w:World) (mg:Str->Option Value) (fa:Addr) (h:Heap),(K w.params).In h->h.Ns cg mg->mg d.name=some (.ref fa)->∃fd:e7,(∀(s:ac) (u:Value),qx s fd ⟨[u],[]⟩ [(x,u)])/\∀base:Heap,(K w.params).In base->base.Ns cg mg->FnOk l.prog w (K w.params) mg base (CX w) k fa fd [x] (sp w))
  (hsp:∀(w:World) (H:Hp) (a:Addr) (ns:List Int),ns.length<=n->Only H->SqL (K w.params) H a (ns.map V.int)->sp w [.ref a] H (fun v _=>v=.bl true) fun _ _ _=>False)
  (hCX:∀(w:World) (H:Hp) (s:ac) (e:Value) (s':ac),CX w [] H s (fun _ _ _=>False) e s'->False):
  W.WalkO q loose XP YP l.row.toRowW d [] (fun f vs=>PySem.call f vs):=by
 refine Att.attach_call hn hdf fun w s₀ s₁ mg mb fa o pm cd doc a vs ns G Y ho hd hcd hmg hobj hints hlen hg=>?_;have KX:=hY w _ Y;obtain⟨fd,hb,hF⟩:=F w mg fa _ KX G.T.g hmg;exact zh4 KX G.T.g G.T.b G.T.builtins G.T.nolimit hg hobj hints (b6 hlen hn2) hr hF hb (fun H hO hS=>hsp w H a ns hlen hO hS) fun H e s'=>hCX w H s₁ e s'
def z1j (s:Stmt):Arguments:=match s with
 |.FunctionDef _ a _ _ _ _ _ _ _ _=>a
 |_=>{posonlyargs:=[],args:=[],vararg:=none,kwonlyargs:=[],kw_defaults:=[],kwarg:=none,defaults:=[]}
def z0o (s:Stmt):List Stmt:=match s with
 |.FunctionDef _ _ b _ _ _ _ _ _ _=>b
 |_=>[]
def z0a (s:Stmt):Scope:=match s with
 |.FunctionDef _ _ _ _ _ _ sc _ _ _=>sc
 |_=>{kind:=.function,names:=[],isGenerator:=false,isCoroutine:=false}
abbrev CX0:CXT:=fun _ _ _ _ _ _=>False
abbrev E0:XK:=fun _ _ _=>False
theorem zu4 {X:Cx}:zeo CX0 X E0:=fun _ _ _ _ _ _ _ h=>h.elim
structure Fun (K:W.Frag)(x qual:Str)(st:Stmt)(f:Addr)(fd:e7):Prop where
 ex:∃(oc:Value) (od:Option Addr) (kV doc pm:Value) (an:Option Addr) (cdv ct:Value) (osl:Array (Option Value)),fd=W.fnOf x qual (z1j st) (z0o st) (z0a st) .none kV doc pm an cdv ct/\K.lookup f=some ⟨oc,od,.func fd,osl⟩/\W.codeIn K cdv qual=true
 kp:W.keepIn K (.ref f)=true
section
variable {P:a8}{w:World}{K:W.Frag}{mg:Str->Option Value}{base:Heap}
theorem Fun.ok {x qual:Str}{st:Stmt}{f:Addr}{fd:e7}{N ps:List Str}{k:Nat}{sp:Sp}(F:Fun K x qual st f fd)(S:FnScope N ps (z0a st))(len:∀vs H Q E,sp vs H Q E->vs.length=ps.length)
  (hbody:∀(cdv:Value) (A:b7) (outer:List Env) (s:ac) (H:Hp) (vs:List V) (Q:VK) (E:XK),Room k (A.deeper (qk qual (z0a st) s.heap.objs.size f cdv))->sp vs H Q E->∃t,PSs (cxOf CX0 P w K mg base N qual (z0a st) f cdv A outer s H E).nox (z0o st) t/\t {nx:=fun _ H'=>Q .non H',rt:=Q} (start N vs) H):FnOk P w K mg base CX0 (k+1) f fd ps sp:=by
 obtain⟨oc,od,kV,doc,pm,an,cdv,ct,osl,rfl,lk,hcd⟩:=F.ex;refine zm9 lk hcd S len fun A outer s H vs Q E hr hsp=>?_;obtain⟨t,h,q⟩:=hbody cdv A outer s H vs Q E hr hsp;exact⟨t,h.nox,q⟩
theorem Fun.binds {x qual:Str}{st:Stmt}{f:Addr}{fd:e7}{ps:List Str}(F:Fun K x qual st f fd)
  (h:∀(kV doc pm:Value) (an:Option Addr) (cdv ct:Value) (us:List Value),us.length=ps.length->vg (W.fnOf x qual (z1j st) (z0o st) (z0a st) .none kV doc pm an cdv ct) ⟨us,[]⟩=pure (ps.zip us)):Binds K fd ps []:=by
 obtain⟨oc,od,kV,doc,pm,an,cdv,ct,osl,rfl,lk,hcd⟩:=F.ex;exact .all (h kV doc pm an cdv ct)
theorem ze3 {x qual:Str}{st:Stmt}{f:Addr}{oc:Value}{od an:Option Addr}{osl:Array (Option Value)}{kV doc pm cdv ct:Value}(l:K.lookup f=some ⟨oc,od,.func (W.fnOf x qual (z1j st) (z0o st) (z0a st) .none kV doc pm an cdv ct),osl⟩) (c:W.codeIn K cdv qual=true) (k:W.keepIn K (.ref f)=true):Fun K x qual st f (W.fnOf x qual (z1j st) (z0o st) (z0a st) .none kV doc pm an cdv ct):=⟨⟨oc,od,kV,doc,pm,an,cdv,ct,osl,rfl,l,c⟩,k⟩
end
section
variable {X:Cx}
end
theorem iteF {A B:Prop}(h:B):if false=true then A else B:=by rw[if_neg b9];exact h
theorem iteT {A B:Prop}(h:A):if true=true then A else B:=by rw[if_pos rfl];exact h
def Same (H H':Hp):Prop:=∀b o,H b=some o->H' b=some o
theorem Same.refl (H:Hp):Same H H:=fun _ _ h=>h
theorem Same.trans {H H1 H2:Hp}(a:Same H H1)(b:Same H1 H2):Same H H2:=fun c o h=>b c o (a c o h)
theorem Same.free {H H':Hp}(e:Same H H'){l:Addr}(h:H' l=Option.none):H l=Option.none:=by
 cases q:H l with
 |none=>rfl
 |some o=>rw[e l o q]at h;cases h
theorem Same.seq {K:W.Frag}{H H':Hp}{a:Addr}{xs:List V}(e:Same H H')(h:SqL K H a xs):SqL K H' a xs:=by
 rcases h with(h|⟨o,h⟩)|h
 ·exact .inl (.inl (e _ _ h))
 ·exact .inl (.inr ⟨o,e _ _ h⟩)
 ·exact .inr h
section
variable {X:Cx}
theorem zd3:CallR X (.builtin "len") (fun xs H Q=>∃a kvs,xs=[V.ref a]/\H a=some (.dK kvs)/\Q (.int kvs.length) H):=by intro pins s σ H xs us Q I r h;obtain⟨a,kvs,rfl,ha,q⟩:=h;obtain⟨u,rfl,ru⟩:=vals1 r;cases ru;exact zt9 I (.inl ha) fun t s' I'=>⟨.int kvs.length,H,I',⟨t,rfl⟩,q⟩
end
section
variable {κ:Type} [DecidableEq κ]
end
end L2
set_option maxHeartbeats 5000000
namespace L2
open PySem PySem.Spec PyProof.Rows
def clOf (env:Env):List (Str×f8)->List (Str×Addr)->List (Str×Addr)
 | [],cs=>cs
 |(n,k)::r,cs=>clOf env r (if(k==.free)=true then(n,(env.cells.lookup n).getD 0)::cs else cs)
theorem z9b {env:Env}{x:Str}:∀(l:List (Str×f8)) (cs:List (Str×Addr)),(∃c,cs.lookup x=some c)->∃c,(clOf env l cs).lookup x=some c
 | [],cs,h=>h
 |(n,k)::r,cs,h=>by
  unfold clOf;refine z9b r _ ?_;split
  ·by_cases e:(x==n)=true
   ·exact⟨_,by rw[dh,e]⟩
   ·obtain⟨c,hc⟩:=h;exact⟨c,by rw[dh,uf.mpr e];exact hc⟩
  ·exact h
theorem z4v {env:Env}{x:Str}:∀(l:List (Str×f8)) (cs:List (Str×Addr)),l.lookup x=some .free->∃c,(clOf env l cs).lookup x=some c
 | [],cs,h=>by simp at h
 |(n,k)::r,cs,h=>by
  rw[dh]at h;unfold clOf;cases e:(x==n)with
  |true=>rw[e]at h;have hk:k=.free:=Option.some.inj h;subst hk;exact z9b r _ ⟨_,by rw[if_pos (by rfl),dh,e]⟩
  |false=>rw[e]at h;exact z4v r _ h
theorem zcg {env:Env}:∀(l:List (Str×f8)) (cs:List (Str×Addr)),(∀y∈l,y.2=.free->∃c,env.cells.lookup y.1=some c)->(∀x c,cs.lookup x=some c->env.cells.lookup x=some c)->
  ∀x c,(clOf env l cs).lookup x=some c->env.cells.lookup x=some c
 | [],cs,_,h=>h
 |(n,k)::r,cs,hl,h=>by
  unfold clOf;refine zcg r _ (fun y hy=>hl y (aq _ hy)) fun x c hx=>?_;by_cases hk:(k==NameKind.free)=true
  ·rw[if_pos hk,dh]at hx;cases e:(x==n)with
   |true=>
    rw[e]at hx;have hxn:x=n:=by simpa using e
    obtain⟨d,hd⟩:=hl (n,k) ak (by simpa using hk);have hd':env.cells.lookup n=some d:=hd;rw[hd']at hx;rw[hxn,hd'];exact hx
   |false=>rw[e]at hx;exact h x c hx
  ·rw[if_neg hk]at hx;exact h x c hx
theorem z3a {env:Env}{scope:Scope}(h:∀y∈scope.names,y.2=.free->∃c,env.cells.lookup y.1=some c):closureFor scope env=pure (clOf env scope.names []):=by
 have go:∀(l:List (Str×f8)) (cs:List (Str×Addr)),(∀y∈l,y.2=.free->∃c,env.cells.lookup y.1=some c)->
   (forIn l cs fun(x:Str×f8) (r:List (Str×Addr))=>if(x.2==NameKind.free)=true then(do let a <-cellOf env x.1;pure (ForInStep.yield ((x.1,a)::r)):Sem _)else pure (ForInStep.yield r))=(pure (clOf env l cs):Sem _):=by
  intro l
  induction l with
  |nil=>intro cs _;rfl
  |cons y r ih=>
   intro cs hl;obtain⟨n,k⟩:=y;rw[kz];unfold clOf;by_cases hk:(k==NameKind.free)=true
   ·obtain⟨c,hc⟩:=hl (n,k) ak (by simpa using hk);have hc':env.cells.lookup n=some c:=hc;have e:cellOf env n=pure c:=by unfold cellOf;rw[hc']
    rw[if_pos hk,if_pos hk]
    dsimp only
    rw[e,hc'];exact ih ((n,c)::cs) fun y hy=>hl y (aq _ hy)
   ·rw[if_neg hk,if_neg hk];exact ih cs fun y hy=>hl y (aq _ hy)
 unfold closureFor;have:=go scope.names [] h
 first
  |exact this
  |(show(forIn scope.names [] _>>=fun r=>pure r)=_;rw[show(forIn scope.names ([]:List (Str×Addr)) _:Sem _)=_ from this];rfl)
theorem zbc {scope:Scope}{env:Env}(hc:∀y∈scope.names,y.2≠.cell){x:Str}:
  (wa scope env).names.lookup x=some .cell\/(wa scope env).names.lookup x=some .free->scope.names.lookup x=some .free:=by
 have go:∀(l:List (Str×f8)),(∀y∈l,y.2≠ .cell)->∀k,(k=NameKind.cell\/k=NameKind.free)->
   (l.map fun(n,k)=>if(k==.free&&env.scope.kind==.function&&env.kindOf n==some .cell)then(n,NameKind.cell)else(n,k)).lookup x=some k->l.lookup x=some .free:=by
  intro l
  induction l with
  |nil=>intro _ k _ h;simp at h
  |cons y r ih=>
   intro hl k hk h;obtain⟨n,q⟩:=y;rw[ao]at h;rw[dh];by_cases c:(q==NameKind.free&&env.scope.kind==.function&&env.kindOf n==some .cell)=true
   ·have hq:q=.free:=by
     simp only[ba]at c;simpa using c.1.1
    dsimp only at h
    rw[if_pos c,dh]at h;cases e:(x==n)with
    |true=>rw[hq]
    |false=>rw[e]at h;exact ih (fun y hy=>hl y (aq _ hy)) k hk h
   ·dsimp only at h
    rw[if_neg c,dh]at h;cases e:(x==n)with
    |true=>
     rw[e]at h;have hq:q=k:=Option.some.inj h;rcases hk with hk|hk
     ·exact absurd (hq.trans hk) (hl (n,q) ak)
     ·show some q=some .free;rw[hq,hk]
    |false=>rw[e]at h;exact ih (fun y hy=>hl y (aq _ hy)) k hk h
 rintro(h|h)
 ·exact go scope.names hc .cell (.inl rfl) h
 ·exact go scope.names hc .free (.inr rfl) h
def blk (X:Cx)(scope:Scope)(N':List Str)(C:Addr)(fp:List Addr)(s:ac)(H:Hp):Cx:={X with N:=N',s₀:=s,H₀:=H,env:=compEnvC scope (clOf X.env scope.names []) C X.env,outer:=X.stack,stack:=X.stack,ex:=fp,fn:=fun _=>false,xe:=fun _ _=>False,fx:=none}
structure BlkScope (X:Cx)(scope:Scope)(N':List Str)(nt:Nat)(js:List Nat):Prop where
 kind:scope.kind=.function
 nocell:∀y∈scope.names,y.2≠.cell
 names:∀y∈scope.names,y.2=.local->scope.names.lookup y.1=some .local
 frees:∀y∈scope.names,y.2=.free->X.env.scope.names.lookup y.1=some .cell\/X.env.scope.names.lookup y.1=some .free
 nd:N'.Nodup
 len:N'.length=nt+js.length
 pl:∀(i j:Nat),js[i]?=some j->N'[nt+i]?=X.N[j]?/\∃x,X.N[j]?=some x/\scope.names.lookup x=some .free
def blkB (NX:List Str)(sc0 scope:Scope)(N':List Str)(nt:Nat)(js:List Nat):Bool:=
 (scope.kind==.function)&&scope.names.all (fun y=>!(y.2==.cell))&&scope.names.all (fun y=>!(y.2==.local)||(scope.names.lookup y.1==some .local))&&
 scope.names.all (fun y=>!(y.2==.free)||(sc0.names.lookup y.1==some .cell)||(sc0.names.lookup y.1==some .free))&&decide N'.Nodup&&(N'.length==nt+js.length)&&
 (N'.drop nt==js.map fun j=>NX.getD j "")&&js.all (fun j=>decide (j<NX.length)&&(scope.names.lookup (NX.getD j "")==some .free))
theorem zn2 {X:Cx}{NX:List Str}{sc0 scope:Scope}{N':List Str}{nt:Nat}{js:List Nat}(hN:X.N=NX)(hs:X.env.scope=sc0)(h:blkB NX sc0 scope N' nt js=true):BlkScope X scope N' nt js:=by
 unfold blkB at h;simp only[ba,bt,decide_eq_true_eq,beq_iff_eq,gc,jx,beq_eq_false_iff_ne]at h;obtain⟨⟨⟨⟨⟨⟨⟨h1,h2⟩,h3⟩,h4⟩,h5⟩,h6⟩,h7⟩,h8⟩:=h;refine⟨h1,h2,fun y hy e=>(h3 y hy).resolve_left (fun z=>z e),fun y hy e=>?_,h5,h6,fun i j hj=>?_⟩
 ·rw[hs];rcases h4 y hy with(z|z)|z
  ·exact absurd e z
  ·exact .inl z
  ·exact .inr z
 ·obtain⟨a,b⟩:=h8 j (b8 hj);have e:X.N[j]?=some (NX.getD j ""):=by rw[hN,bc a,a9,bc a];rfl
  refine⟨?_,_,e,b⟩;rw[e,<-List.getElem?_drop,h7,bx,hj];rfl
def emb (nt:Nat)(js:List Nat)(σ:St):St:=bj nt none++js.map fun j=>σ.getD j none
section
variable {X:Cx}{scope:Scope}{N':List Str}{nt:Nat}{js:List Nat}
theorem zl8 {pins:List (Addr×Obj)}{σ:St}{H:Hp}{s:ac}{fp:List Addr}{h1:Heap}{m1:Str->Option Value}{t1:Nat}(B:BlkScope X scope N' nt js)(I:Inv X pins σ H s)
  (hfp:∀b∈fp,FpOk X pins H b) (hob:∀b∈fp,∃o,s.heap.get? b=some o)
  (k:∀b o,s.heap.get? b=some o->h1.get? b=some o) (hn:h1.Ns s.heap.objs.size m1):
  Inv (blk X scope N' s.heap.objs.size fp s H) pins (emb nt js σ) H {s with heap:=h1,toks:=t1}:=by
 have hcs:∀y∈scope.names,y.2=.free->∃c,X.env.cells.lookup y.1=some c:=fun y hy hf=>I.ok.has y.1 (B.frees y hy hf);have hcl:∀x c,(clOf X.env scope.names []).lookup x=some c->X.env.cells.lookup x=some c:=zcg _ _ hcs (fun x c h=>by simp at h);have lt:∀b o,s.heap.get? b=some o->b≠s.heap.objs.size:=fun b o e=>bz (bn e);have hf:H s.heap.objs.size=none:=I.hok.fresh (am _);refine⟨⟨I.ok.mod,B.kind,I.ok.glob,I.ok.blt,am _,fun x y c h1 h2=>I.ok.inj x y c (hcl x c h1) (hcl y c h2),fun x hx=>z4v _ _ (zbc B.nocell hx),fun x c h=>(by cases h),I.ok.hd,I.ok.frames,.inl rfl,fun b hb=>?_,I.bs,b6 I.ok.bsz I.sz,fun b o e hb=>?_,fun b hb hx=>?_,I.stack,I.stkFree,fun _ _ z=>by cases z⟩,rfl,I.bare,Un.kept k,⟨m1,hn,fun i x v e1 e2 e3=>?_⟩,fun x c e=>?_,hf,fun x c e=>I.freeC x c (hcl x c e),fun p hp=>?_,I.hok.kept k,?_,fun _ _ z=>by cases z⟩
 ·obtain⟨o,ho⟩:=hob b hb;exact⟨lt b o ho,fun x c h=>(hfp b hb).2.2.2.2.1 x c (hcl x c h)⟩
 ·rcases(hfp b hb).2.2.2.1 with z|z
  ·exact I.ok.noex b o e z
  ·exact absurd (bw (bn e) (b6 I.ok.bsz z)) (ce _)
 ·rcases au.mp (I.stkSub b hx)with z|z
  ·exact(hfp b hb).2.1 z
  ·exact(hfp b hb).2.2.1 z
 ·--a name with a value:one of the frame's
  have hi:nt<=i:=by refine pd fun h=>?_;unfold emb at e2;rw[ip (by rw[cx];exact h),fq,if_pos h]at e2;cases e2
  unfold emb at e2;rw[f9 (by rw[cx];exact hi),cx,bx]at e2;cases ej:js[i-nt]? with
  |none=>rw[ej]at e2;cases e2
  |some j=>
   rw[ej]at e2;have e2':σ.getD j none=some v:=Option.some.inj e2;obtain⟨h1',y,hy,hfree⟩:=B.pl (i-nt) j ej;rw[rf hi]at h1';have exy:x=y:=by have e1':N'[i]?=some x:=e1;rw[h1',hy]at e1';exact(Option.some.inj e1').symm
   subst exy
   have hσ:σ[j]?=some (some v):=by
    rw[a9]at e2';cases q:σ[j]? with
    |none=>rw[q]at e2';cases e2'
    |some z=>rw[q]at e2';exact congrArg some e2'
   have hfr:=B.frees (x,.free) (PySem.mem_of_lookup hfree) rfl;have hvis:Vis X.env.scope x:=hfr.elim (fun z=>.inr (.inl z)) (fun z=>.inr (.inr z));obtain⟨m,hnm,hl⟩:=I.loc;obtain⟨u,r,l⟩:=hl j x v hy hσ hvis;refine⟨u,r,?_⟩;rcases l with⟨hk,_⟩|⟨hk,c,hc,hcell⟩
   ·rcases hfr with z|z
    ·have hk':X.env.scope.names.lookup x=some .local:=hk;rw[z]at hk';cases hk'
    ·have hk':X.env.scope.names.lookup x=some .local:=hk;rw[z]at hk';cases hk'
   ·obtain⟨d,hd⟩:=z4v (env:=X.env) scope.names [] hfree;have hdc:d=c:=by have:=hcl x d hd;rw[hc]at this;cases this;rfl
    subst hdc;refine .inr ⟨?_,d,hd,?_⟩
    ·rcases e3 with z|z|z
     ·exfalso;have z':(wa scope X.env).names.lookup x=some .local:=z
      have:∀(l:List (Str×f8)),l.lookup x=some .free->(l.map fun(n,k)=>if(k==.free&&X.env.scope.kind==.function&&X.env.kindOf n==some .cell)then(n,NameKind.cell)else(n,k)).lookup x≠some .local:=by
       intro l
       induction l with
       |nil=>intro h;simp at h
       |cons y r ih=>
        intro h;obtain⟨n,q⟩:=y;rw[dh]at h;rw[ao]
        dsimp only
        cases e:(x==n)with
        |true=>
         rw[e]at h;have hq:q=.free:=Option.some.inj h;subst hq;split
         ·rw[dh,e];intro z;cases z
         ·rw[dh,e];intro z;cases z
        |false=>
         rw[e]at h;split
         ·rw[dh,e];exact ih h
         ·rw[dh,e];exact ih h
      exact this _ hfree z'
     ·exact .inl z
     ·exact .inr z
    ·obtain⟨o,ho,hd'⟩:=hcell;exact⟨o,k _ _ ho,hd'⟩
 ·obtain⟨v,o,ho,hd⟩:=I.cell x c (hcl x c e);exact⟨v,o,k _ _ ho,hd⟩
 ·obtain⟨q1,q2,q3,q4,q5⟩:=I.pin p hp;refine⟨k _ _ q1,q2,lt _ _ q1,fun z=>?_,q5⟩;rcases au.mp (I.stkSub p.1 z)with z|z
  ·exact q3 z
  ·exact q4 z
 ·show(emb nt js σ).length=N'.length;unfold emb;rw[az,cx,ah,B.len]
end
section
variable (M:Model)(A:b7)(env:Env)
abbrev calmX:Value->ac->Prop:=fun _ _=>False
def ztx (acc:Value)(Z:ac->Prop)(x:Value):ac->Prop:=wpAny M A (call (.builtin "list.append") [acc,x]) (fun _=>Z) calmX
def cElt (elt:Expr)(acc:Value)(Z:ac->Prop)(ok:Bool)(s:ac):Prop:=if ok=true then wpAny M A (eval elt env) (ztx M A acc Z) calmX s else Z s
def zte (ifs:List Expr)(elt:Expr)(acc:Value)(Z:ac->Prop):ac->Prop:=wpAny M A (forIn ifs true fun c r=>if r=true then(qi c env (eval c env)>>=fun ok=>pure (ForInStep.yield ok))else pure (ForInStep.yield r)) (cElt M A env elt acc Z) calmX
def cPut (tg:Expr)(ifs:List Expr)(elt:Expr)(acc:Value)(Z:ac->Prop)(v:Value):ac->Prop:=wpAny M A (pp tg env v) (fun _=>zte M A env ifs elt acc Z) calmX
def cVal (tg:Expr)(ifs:List Expr)(elt:Expr)(it acc:Value)(End Z:ac->Prop)(r:Option Value)(s:ac):Prop:=match r with
 |some v=>wpAny M A (g8 tg it v) (fun _=>cPut M A env tg ifs elt acc Z v) calmX s
 |none=>End s
end
theorem zk2 {P:a8}{w:World}{A:b7}{R:uu->ac->Prop}{s:ac}{elt tg iter:Expr}{ifs:List Expr}{scope:Scope}{pos:Pos}{it acc:Value}{env:Env}(I:Nat->ac->Prop)
  (one:∀k t,I k t->wpAny (model P w) A (ou it) (cVal (model P w) A env tg ifs elt it acc (R (.ok .next)) fun t'=>∃m,m<k/\I m t') calmX t) (n:Nat) (h:I n s):
  ku (model P w) A (.compLoop (.ListComp elt [⟨tg,iter,ifs,0⟩] scope pos) 0 it acc env) R s:=by
 apply codeAny_loop rfl I _ n h;intro k t hk;apply wpAny_noted;apply wpAny_noRaise;rw[compTurn_list];apply aa;apply wpAny_standAt;apply aa;refine thn (one k t hk) ?_
 rintro(_|v) t1 h1
 ·exact af h1
 apply aa;refine thn (show wpAny _ _ _ _ _ _ from h1) fun _ t2 h2=>?_;apply aa;refine thn (show wpAny _ _ _ _ _ _ from h2) fun _ t3 h3=>?_;apply aa;refine thn (show wpAny _ _ _ _ _ _ from h3) ?_
 rintro(_|_) t4 h4
 ·exact af ⟨rfl,h4⟩
 apply aa;apply aa;refine thn (show wpAny _ _ _ _ _ _ from h4) fun x t5 h5=>?_;apply aa;refine thn (show wpAny _ _ _ _ _ _ from h5) fun _ t6 h6=>?_;exact af (af ⟨rfl,h6⟩)
theorem Un.but {fs ex:List Addr}{H H1:Hp}{h h1 h':Heap}{C:Addr}(u:Un fs ex H H1 h h1)(hC:h.get? C=none)(sb:bu C h1 h'):Un fs ex H H1 h h':=by
 have ne:∀b o,h.get? b=some o->b≠C:=fun b o e z=>by rw[z,hC]at e;cases e
 exact⟨fun b o e n hb hx=>sb.extBut b o (ne b o e) (u.keep b o e n hb hx),fun b o e n hb hx=>let⟨sl,q⟩:=u.slot b o e n hb hx;⟨sl,sb.extBut b _ (ne b o e) q⟩,u.free,fun b o e hx=>let⟨o',q⟩:=u.there b o e hx;⟨o',sb.extBut b _ (ne b o e) q⟩,u.tups,u.frzs,u.tbls⟩
theorem HOk.but {P:a8}{w:World}{H:Hp}{h h':Heap}{C:Addr}(ok:HOk P w H h)(hC:H C=none)(sb:bu C h h'):HOk P w H h':=fun a o e=>by
 refine(ok a o e).stay (fun b u hb q=>sb.extBut b u (fun z=>?_) q) (fun _ q=>q) fun _ _ q=>q;rcases hb with hb|hb
 ·rw[z]at hb;rw[<-hb,hC]at e;cases e
 ·rw[z,hC]at hb;cases hb
def PTs (X:Cx)(ifs:List Expr)(t:TT):Prop:=∀(pins:List (Addr×Obj)) (s:ac) (σ:St) (H:Hp) (Q:Bool->Hp->Prop),Inv X pins σ H s->t σ H Q->wpAny (model X.prog X.w) X.A (forIn ifs true fun c r=>if r=true then do let ok <-qi c X.env (eval c X.env);pure (ForInStep.yield ok)else pure (ForInStep.yield r)) (TP X pins σ Q) X.xe s
def tYes:TT:=fun _ H Q=>Q true H
theorem zmj {X:Cx}:PTs X [] tYes:=fun _ _ _ H _ I h=>wpAny_tests_nil ⟨H,I,h⟩
theorem zki {X:Cx}{c:Expr}{t:TT}(h:PT X c t):PTs X [c] t:=fun pins s σ H Q I q=>wpAny_tests_one (h pins s σ H Q I q)
def Keep (a b:St):Prop:=a.length=b.length/\∀(i:Nat) v,a[i]?=some (some v)->b[i]?=some (some v)
theorem Keep.refl (a:St):Keep a a:=⟨rfl,fun _ _ h=>h⟩
def tLC (wi:TI)(g:TG)(tc:TT)(te:TE)(em:St->St):TE:=fun σ H Q=>wi σ H fun J H1=>∀l,H1 l=none->∃P:Nat->Nat->List V->Hp->Prop,(∃m,P 0 m [] (upd H1 l (.lst [])))/\∀i m acc H2,P i m acc H2->(J.stop i H2/\Q (.ref l) H2)\/(J.go i H2/\acc.length<bh/\∃N:List V->Hp->Prop,(∀acc' H',N acc' H'->∃m',m'<m/\P (i+1) m' acc' H')/\∀x H3,J.yld i H2 x H3->g x (em σ) H3 fun σ4 H4=>Keep (em σ) σ4/\tc σ4 H4 fun b H5=>if b=true then te σ4 H5 fun y H6=>H6 l=some (.lst acc)/\N (acc++[y]) (upd H6 l (.lst (acc++[y])))else N acc H5)
section
variable {X:Cx}{scope:Scope}{N':List Str}{nt:Nat}{js:List Nat}{tg iter elt:Expr}{ifs:List Expr}{wi:TI}{g:TG}{tc:TT}{te:TE}{pos:Pos}
theorem z5e {pins:List (Addr×Obj)}{σ:St}{s2:ac}{Q:VK}{itv:Value}{E:Value->ac->Prop}{RR:Value->Addr->uu->ac->Prop}(hc:X.calm=true)(B:BlkScope X scope N' nt js)
  (hg:∀C fp s H,PG (blk X scope N' C fp s H) tg g) (ht:∀C fp s H,PTs (blk X scope N' C fp s H) ifs tc) (he:∀C fp s H,PE (blk X scope N' C fp s H) elt te)
  (h2:PIE X pins σ tg (fun J H1=>∀l,H1 l=none->∃P:Nat->Nat->List V->Hp->Prop,(∃m,P 0 m [] (upd H1 l (.lst [])))/\∀i m acc H2,P i m acc H2->(J.stop i H2/\Q (.ref l) H2)\/(J.go i H2/\acc.length<bh/\∃N:List V->Hp->Prop,(∀acc' H',N acc' H'->∃m',m'<m/\P (i+1) m' acc' H')/\∀x H3,J.yld i H2 x H3->g x (emb nt js σ) H3 fun σ4 H4=>Keep (emb nt js σ) σ4/\tc σ4 H4 fun b H5=>
  if b=true then te σ4 H5 fun y H6=>H6 l=some (.lst acc)/\N (acc++[y]) (upd H6 l (.lst (acc++[y])))else N acc H5)) itv s2)
  (hRR:∀(l C:Addr) (H':Hp) (s1:ac),(∃m,s1.heap.Ns C m)->H' C=none->C≠X.env.locals->C∉X.fs->(∀x c,X.env.cells.lookup x=some c->c≠C)->X.s₀.heap.objs.size<=C->(∀p∈X.pn++pins,p.1≠C)->(∀h',bu C s1.heap h'->Inv X pins σ H' {s1 with heap:=h'})->Q (.ref l) H'->RR (.ref l) C (.ok .next) s1):
  wpAny (model X.prog X.w) X.A (newList []) (fun acc s₃=>wpAny (model X.prog X.w) X.A (newFunctionEnv scope X.env.globals (clOf X.env scope.names []) [] X.env.qual none .none (some X.env)) (fun cenv s₄=>ku (model X.prog X.w) X.A (.compStart (.ListComp elt [⟨tg,iter,ifs,0⟩] scope pos) 0 itv acc {cenv with scope:=wa scope X.env}) (RR acc cenv.locals) s₄) E s₃) E s2:=by
 obtain⟨it,fp,tn,J,H2,rfl,I2,T,st2,f2,q⟩:=h2;refine jw (wpAny_newFunctionEnv B.nocell (by intro y hy;simp at hy) (fun h₁ hns₁ hsb₁=>?_) B.kind)
 dsimp only at hns₁ hsb₁ ⊢
 have hob2:∀b∈fp,∃o,s2.heap.get? b=some o:=fun b hb=>let⟨o,e,_⟩:=T.obj 0 _ st2 b hb;⟨o,e⟩;have hl:H2 s2.heap.objs.size=none:=I2.hok.fresh (am _);have I3:=I2.lnew (ys:=[]) (its:=[]) (t':=s2.toks) .nil (fu _);obtain⟨P,⟨m0,p0⟩,turn⟩:=q _ hl;generalize hHh:s2.heap.push {cls:=.type "list",dict:=none,data:=.seq ([]:List Value).toArray}=Hh at hns₁ hsb₁ I3 ⊢;generalize hlv:s2.heap.objs.size=l at hl I3 p0 turn ⊢;have old2:∀b o,s2.heap.get? b=some o->Hh.get? b=some o:=fun b o e=>hHh▸ae _ e;have k:∀b o,Hh.get? b=some o->h₁.get? b=some o:=fun b o e=>hsb₁.extBut b o (bz (bn e)) (ae _ e)
 have f3:∀b∈fp,FpOk X pins (upd H2 l (.lst [])) b:=fun b hb=>by
  obtain⟨o,e⟩:=hob2 b hb;have nl:b≠l:=by rw[<-hlv];exact bz (bn e)
  exact⟨by rw[z06 nl];exact(f2 b hb).1,(f2 b hb).2⟩
 have hob3:∀b∈fp,∃o,Hh.get? b=some o:=fun b hb=>let⟨o,e⟩:=hob2 b hb;⟨o,old2 b o e⟩;have J0:=zl8 (s:={s2 with heap:=Hh,toks:=s2.toks}) (t1:=s2.toks+([]:List (Str×Value)).length) B I3 f3 hob3 k hns₁;have stA:∀{H':Hp},(∀b∈fp,H' b=none)->∀b∈fp,FpOk (blk X scope N' Hh.objs.size fp {s2 with heap:=Hh,toks:=s2.toks} (upd H2 l (.lst []))) pins H' b:=fun hn b hb=>⟨hn b hb,(J0.ok.exf b hb).1,J0.ok.exfs b hb,.inl hb,(J0.ok.exf b hb).2,(f2 b hb).2.2.2.2.2⟩;have hCn:Hh.get? Hh.objs.size=none:=qh (am _);have out:∀{H':Hp} {s1:ac},Inv (blk X scope N' Hh.objs.size fp {s2 with heap:=Hh,toks:=s2.toks} (upd H2 l (.lst []))) pins (emb nt js σ) H' s1->∀h',bu Hh.objs.size s1.heap h'->Inv X pins σ H' {s1 with heap:=h'}:=fun{H' s1} Jn h' sb=>by refine I3.call' (s':={s1 with heap:=h'}) (ch:=fp) Jn.os (Un.but Jn.base hCn sb) (Jn.hok.but Jn.free sb) Jn.bare fun b hb=>?_;exact⟨(f3 b hb).2.2.2.1,(f3 b hb).2.1,(f3 b hb).2.2.2.2.1,(f3 b hb).2.2.2.2.2⟩
 have nL:Hh.objs.size≠X.env.locals:=nh (I3.lt);have nF:Hh.objs.size∉X.fs:=I3.nofs (am _);have nC:∀x c,X.env.cells.lookup x=some c->c≠Hh.objs.size:=fun x c e z=>by obtain⟨v,q⟩:=I3.cell x c e;exact absurd q.lt (by rw[z];exact ce _)
 have nS:X.s₀.heap.objs.size<=Hh.objs.size:=I3.sz;have nP:∀p∈X.pn++pins,p.1≠Hh.objs.size:=fun p hp=>bz (bn (I3.pin p hp).1)
 have loop:∀s₃:ac,s₃={s2 with heap:=h₁,toks:=s2.toks+([]:List (Str×Value)).length}->
   ku (model X.prog X.w) X.A (.compLoop (.ListComp elt [⟨tg,iter,ifs,0⟩] scope pos) 0 (.ref it) (.ref l) (compEnvC scope (clOf X.env scope.names []) Hh.objs.size X.env)) (RR (.ref l) Hh.objs.size) s₃:=by
  rintro s₃ rfl
  refine zk2 (fun n s'=>∃i acc H',Inv (blk X scope N' Hh.objs.size fp {s2 with heap:=Hh,toks:=s2.toks} (upd H2 l (.lst []))) pins (emb nt js σ) H' s'/\tn i s'.heap/\(∀b∈fp,H' b=none)/\P i n acc H') ?_ m0 ⟨0,[],_,J0,T.keep _ _ _ st2 fun b _ o e=>k b o (old2 b o e),fun b hb=>(f3 b hb).1,p0⟩
  rintro n s3 ⟨i,acc,H3,Jn,st3,fr3,w3⟩
  rcases turn i n acc H3 w3 with⟨stop,qn⟩|⟨go,hz8,N,hN,step⟩
  ·refine thn (T.done (blk X scope N' Hh.objs.size fp {s2 with heap:=Hh,toks:=s2.toks} (upd H2 l (.lst []))) rfl rfl rfl hc i pins s3 _ H3 (fun _ _=>False) Jn (stA fr3) st3 stop) fun r s4 ⟨hr,I4⟩=>?_;subst hr;obtain⟨m,hn,_⟩:=id I4.loc;exact hRR l Hh.objs.size H3 s4 ⟨m,hn⟩ I4.free nL nF nC nS nP (out I4) qn
  ·refine thn (T.item (blk X scope N' Hh.objs.size fp {s2 with heap:=Hh,toks:=s2.toks} (upd H2 l (.lst []))) rfl rfl rfl hc i pins s3 _ H3 (fun _ _=>False) Jn (stA fr3) st3 go) fun r s4 ⟨u,hr,h4⟩=>?_;subst hr;refine thn h4 fun _ s5 ⟨x,H5,I5,r5,y5,st5,fr5⟩=>?_;have I5':=I5.pinned (stA fr5) (T.obj _ _ st5);refine thn (hg _ _ _ _ _ s5 _ H5 x u _ I5' r5 (step x H5 y5)) fun _ s6 ⟨σ6,H6,I6,kp,q6⟩=>?_;refine thn (ht _ _ _ _ _ s6 σ6 H6 _ I6 q6) fun b s7 ⟨H7,I7,q7⟩=>?_
   have again:∀{s7:ac} {H7:Hp} {acc':List V},Inv (blk X scope N' Hh.objs.size fp {s2 with heap:=Hh,toks:=s2.toks} (upd H2 l (.lst []))) (pins++z6y fp s5.heap) σ6 H7 s7->N acc' H7->
     ∃m,m<n/\∃i acc H',Inv (blk X scope N' Hh.objs.size fp {s2 with heap:=Hh,toks:=s2.toks} (upd H2 l (.lst []))) pins (emb nt js σ) H' s7/\tn i s7.heap/\(∀b∈fp,H' b=none)/\P i m acc H':=fun{s7 H7 acc'} I7 w7=>by
    obtain⟨n',hm,w7⟩:=hN _ _ w7;refine⟨n',hm,i+1,acc',H7,(I7.unpinned).weak kp.1 kp.2,T.keep _ _ _ st5 fun b hb o e=>(I7.pin (b,o) (ax _ (ax _ (z1f hb e)))).1,fun b hb=>?_,w7⟩;obtain⟨o,e,d⟩:=T.obj _ _ st5 b hb;exact(I7.pin (b,o) (ax _ (ax _ (z1f hb e)))).2.1
   cases b with
   |false=>rw[if_neg b9]at q7;unfold cElt;rw[if_neg b9];exact again I7 q7
   |true=>rw[if_pos rfl]at q7;unfold cElt;rw[if_pos rfl];refine thn (he _ _ _ _ _ s7 σ6 H7 _ I7 q7) fun y' s8 ⟨y,H8,I8,r8,hl8,w8⟩=>?_;refine thn (z76 _ s8 σ6 H8 (.ref l) [y] (.ref l) [y'] (fun _ H9=>N (acc++[y]) H9) I8 rfl (.cons r8 .nil) ⟨l,acc,y,rfl,rfl,hl8,hz8,w8⟩) fun _ s9 ⟨v9,H9,I9,r9,w9⟩=>?_;exact again I9 w9
 exact codeAny_compStart_list (loop _ rfl) (T.self _ 0 _ _ _ (T.keep _ _ _ st2 fun b _ o e=>k b o (old2 b o e)) (loop _ rfl))
theorem zgb (hc:X.calm=true)(B:BlkScope X scope N' nt js)(hi:PI X tg iter wi)
  (hg:∀C fp s H,PG (blk X scope N' C fp s H) tg g) (ht:∀C fp s H,PTs (blk X scope N' C fp s H) ifs tc) (he:∀C fp s H,PE (blk X scope N' C fp s H) elt te)
  (hs:∀x,gu iter X.env x=pure x:=by intro _;rfl):PE X (.ListComp elt [⟨tg,iter,ifs,0⟩] scope pos) (tLC wi g tc te (emb nt js)):=by
 intro pins s σ H Q I h;rw[eval_ListComp];refine oz (use:=none) rfl hs (z3a fun y hy hf=>I.ok.has y.1 (B.frees y hy hf)) B.kind B.names (thn (hi pins s σ H _ I h) fun v s1 h1=>thn h1 fun itv s2 h2=>?_);refine z5e (RR:=fun acc C=>compPost (model X.prog X.w) X.A X.xe none (EP X pins σ Q) acc C) hc B hg ht he h2 ?_;intro l C H' s1 ns _ _ _ _ _ _ out q;obtain⟨m,hn⟩:=ns;exact⟨m,hn,fun h' sb=>⟨.ref l,H',out h' sb,rfl,q⟩⟩
def zrn (i:Nat)(t:TE):TS:=fun D σ H=>t σ H fun v H1=>D.nx (σ.set i (some v)) H1
theorem zgc {y:Str}{py spos:Pos}{i:Nat}(hc:X.calm=true)(hN:X.N.Nodup)(hy:X.N[i]?=some y)(hl:X.env.scope.names.lookup y=some .local)(B:BlkScope X scope N' nt js)(hi:PI X tg iter wi)
  (hg:∀C fp s H,PG (blk X scope N' C fp s H) tg g) (ht:∀C fp s H,PTs (blk X scope N' C fp s H) ifs tc) (he:∀C fp s H,PE (blk X scope N' C fp s H) elt te)
  (hsw:l6 (.ListComp elt [⟨tg,iter,ifs,0⟩] scope pos) (some (.Name y py)) spos.line X.env=pure true)
  (hs:∀x,gu iter X.env x=pure x:=by intro _;rfl):PS X (.Assign [.Name y py] (.ListComp elt [⟨tg,iter,ifs,0⟩] scope pos) spos) (zrn i (tLC wi g tc te (emb nt js))):=by
 intro pins s σ H D I h;have ex:=exec_Assign_Name_used _ _ _ _ hsw;rw[ex];apply aa;apply wpAny_standAt;apply aa;show wpAny _ X.A (do let _ <-comprehension (.ListComp elt [⟨tg,iter,ifs,0⟩] scope pos) scope X.env _ (newList []) false (eval iter X.env) (some (pp (.Name y py) X.env))) _ _ s;refine aa (jb (oz (use:=some (pp (.Name y py) X.env)) (Q:=fun _ s'=>SP X pins D .next s') rfl hs (z3a fun z hz hf=>I.ok.has z.1 (B.frees z hz hf)) B.kind B.names (thn (hi pins s σ H _ I h) fun v s1 h1=>thn h1 fun itv s2 h2=>?_)) (fun _ s' hq=>af (af hq)) fun _ _ e=>e);refine z5e (Q:=fun v H1=>D.nx (σ.set i (some v)) H1) (RR:=fun acc C=>compPost (model X.prog X.w) X.A X.xe (some (pp (.Name y py) X.env)) (fun _ s'=>SP X pins D .next s') acc C) hc B hg ht he h2 ?_;intro l C H' s1 ns hH nL nF nC nS nP out q;obtain⟨m,hn⟩:=ns;have I1:Inv X pins σ H' s1:=out s1.heap (.refl ..);obtain⟨oC,es,ep,hoC,hdC,hrC⟩:=id hn
 have I2:Inv X (pins++[(C,oC)]) σ H' s1:=I1.pins_of fun p hp=>(du.mp hp).elim (fun z=>I1.pin p (ax _ z)) fun z=>by
  have e:p=(C,oC):=by simpa using z
  subst e;exact⟨hoC,hH,nL,nF,fun v z=>by have z':oC.data=.cell v:=z;rw[hdC]at z';cases z'⟩
 show wpAny _ X.A (pp (.Name y py) X.env (.ref l)) _ _ s1;refine t9 (z6h I2 hN hy (.inl hl) (v:=.ref l) rfl (fun s'' I''=>?_) (.inr hl));have hC2:=(I''.pin (C,oC) (ax _ (ax _ (br.mpr rfl)))).1;refine⟨m,⟨oC,es,ep,hC2,hdC,hrC⟩,fun h' sb=>⟨_,H',?_,q⟩⟩;exact(I''.unpinned).turned (t':=s''.toks) (fun b o hb e=>sb.extBut b o hb e) hH nL (.inr nS) nC nP
end
def Its (z:Str):It:=⟨fun i _=>i<z.cps.size,fun i H x H'=>H'=H/\∃c,z.cps[i]?=some c/\x=.str ⟨#[c]⟩,fun i _=>z.cps.size<=i⟩
theorem zgl {P:a8}{w:World}{K:W.Frag}{tg:Expr}{ty:String}(hty:ty="str_ascii_iterator"\/ty="str_iterator")(it:Addr)(z:Str)(t:Tok):Turn P w K tg (Its z) [it] it (fun i h=>h.IsStrIter it ty z t i) where
 mem:=by simp
 obj:=fun i h st b hb=>by
  have e:b=it:=by simpa using hb
  subst e;obtain⟨o,e,c,d⟩:=st;exact⟨o,e,fun v z=>by rw[d]at z;cases z⟩
 keep:=fun i h h' st k=>let⟨o,e,r⟩:=st;⟨o,k it (by simp) o e,r⟩
 item:=by
  intro X hP hw hK hc i pins s σ H E I hf st hg;subst hP hw hK;obtain⟨f0,f1,f2,f3,f4,f5⟩:=hf it (by simp);have hi:i<z.cps.size:=hg
  have fin:∀(u:Value) (h':Heap) (tk:Nat),SignAt z i u->h'.IsStrIter it ty z t (i+1)->(∀b o,b∉ [it]->s.heap.get? b=some o->h'.get? b=some o)->
    ∃u',some u=some u'/\wpAny (model X.prog X.w) X.A (g8 tg (.ref it) u') (fun _ s2=>∃x H',Inv X pins σ H' s2/\RelV x u'/\(Its z).yld i H x H'/\s2.heap.IsStrIter it ty z t (i+1)/\∀b∈[it],H' b=none) E {s with heap:=h',toks:=tk}:=by
   rintro u h' tk ⟨c,t',hx,rfl⟩ st' kk
   have I1:Inv X pins σ H {s with heap:=h',toks:=tk}:=I.turned (fun b o hb e=>kk b o (by simpa using hb) e) f0 f1 f3 f4 f5;obtain⟨o,e,cc,d⟩:=id st';exact⟨_,rfl,zgv (s:={s with heap:=h',toks:=tk}) e cc d (by rcases hty with rfl|rfl<;>decide) ⟨.str ⟨#[c]⟩,H,I1,⟨t',rfl⟩,⟨rfl,c,hx,rfl⟩,st',fun b hb=>(hf b hb).1⟩⟩
  rcases hty with rfl|rfl
  ·exact(Walks.strAscii (prog:=X.prog) (w:=X.w) (I.ok.hd hc) it z t).item i s _ _ hi st fun v h' tk hv st' kk=>fin v h' tk hv st' kk
  ·exact(Walks.strWide (prog:=X.prog) (w:=X.w) (I.ok.hd hc) it z t).item i s _ _ hi st fun v h' tk hv st' kk=>fin v h' tk hv st' kk
 done:=by
  intro X hP hw hK hc i pins s σ H E I hf st hg;subst hP hw hK;obtain⟨f0,f1,f2,f3,f4,f5⟩:=hf it (by simp);have hi:z.cps[i]?=none:=by have:z.cps.size<=i:=hg;simpa using this
  rcases hty with rfl|rfl
  ·exact wpAny_pyNext_ascii_end (I.ok.hd hc) st hi fun h' eb=>⟨rfl,I.turned (t':=s.toks) (fun b o hb e=>eb b o hb e) f0 f1 f3 f4 f5⟩
  ·exact wpAny_pyNext_wide_end (I.ok.hd hc) st hi fun h' eb=>⟨rfl,I.turned (t':=s.toks) (fun b o hb e=>eb b o hb e) f0 f1 f3 f4 f5⟩
 self:=fun _ _ _ _ _ st h=>by
  rcases hty with rfl|rfl
  ·exact wpAny_pyIter_striter_ascii st h
  ·exact wpAny_pyIter_striter_wide st h
section
variable {X:Cx}{tg:Expr}
end
theorem zvi {J:It}{n:Nat}{g:TG}{tc:TT}{te:TE}{σ':St}{Q:VK}{H1:Hp}{l:Addr}(P:Nat->List V->Hp->Prop)(hn:n<=bh)(h0:P 0 [] (upd H1 l (.lst [])))
  (hlen:∀i acc H,P i acc H->acc.length<=i)
  (hstop:∀acc H,P n acc H->J.stop n H/\Q (.ref l) H) (hgo:∀i acc H,i<n->P i acc H->J.go i H)
  (turn:∀i acc H x H3,i<n->P i acc H->J.yld i H x H3->g x σ' H3 fun σ4 H4=>Keep σ' σ4/\tc σ4 H4 fun b H5=>if b=true then te σ4 H5 fun y H6=>H6 l=some (.lst acc)/\P (i+1) (acc++[y]) (upd H6 l (.lst (acc++[y])))else P (i+1) acc H5):
  ∃P:Nat->Nat->List V->Hp->Prop,(∃m,P 0 m [] (upd H1 l (.lst [])))/\∀i m acc H2,P i m acc H2->(J.stop i H2/\Q (.ref l) H2)\/(J.go i H2/\acc.length<bh/\∃N:List V->Hp->Prop,(∀acc' H',N acc' H'->∃m',m'<m/\P (i+1) m' acc' H')/\∀x H3,J.yld i H2 x H3->g x σ' H3 fun σ4 H4=>Keep σ' σ4/\tc σ4 H4 fun b H5=>if b=true then te σ4 H5 fun y H6=>H6 l=some (.lst acc)/\N (acc++[y]) (upd H6 l (.lst (acc++[y])))else N acc H5):=by
 refine⟨fun i m acc H=>i<=n/\m=n-i/\P i acc H,⟨n,fu _,rfl,h0⟩,?_⟩
 rintro i m acc H2 ⟨hi,rfl,p⟩
 by_cases hlt:i<n
 ·have hl:=hlen i acc H2 p;exact .inr ⟨hgo i acc H2 hlt p,by omega,P (i+1),fun acc' H' p'=>⟨n-(i+1),by omega,hlt,rfl,p'⟩,fun x H3 y=>turn i acc H2 x H3 hlt p y⟩
 ·have e:i=n:=by omega
  subst e;exact .inl (hstop acc H2 p)
section
variable {X:Cx}
theorem zdc:OpR X (df .Gt) (fun x y H Q=>∃i j,x=.str i/\y=.str j/\Q (.bl (decide (j.cps.toList<i.cps.toList))) H):=by intro pins s σ H x y v u Q I rx ry h;obtain⟨i,j,rfl,rfl,q⟩:=h;obtain⟨t,rfl⟩:=rx;obtain⟨t',rfl⟩:=ry;exact PySem.P.gt_str ⟨.bl _,H,I,rfl,q⟩
def rSlS:V->Option Int->Option Int->Hp->VK->Prop:=fun x lo hi H Q=>∃z,x=.str z/\z.length<=bh/\Q (.str (Txt.slice z lo hi)) H
theorem zqq:SlR X rSlS:=by
 intro pins s σ H x v vl vu lo hi sl Q I rx hs pl pu h;obtain⟨z,rfl,hz,q⟩:=h;obtain⟨t,rfl⟩:=rx;refine⟨"str",_,PySem.F.slot_str_getitem.lookup,vi _ _ _,?_⟩;obtain⟨o,ho,hc,hd⟩:=hs;have fin:∀t' k,EP X pins σ Q (.str (Txt.slice z lo hi) t') {s with toks:=k}:=fun t' k=>⟨.str _,H,I.tok _,⟨_,rfl⟩,q⟩;cases pl with
 |none=>
  cases pu with
  |none=>exact jk (l:=none) (u:=none) (st:=none) ⟨o,ho,hc,hd⟩ rfl (my ⟨b6 (Txt.slice_le z _ _) hz,fin⟩)
  |int j tj=>exact jk (l:=none) (u:=some (j,tj)) (st:=none) ⟨o,ho,hc,hd⟩ rfl (my ⟨b6 (Txt.slice_le z _ _) hz,fin⟩)
 |int i ti=>
  cases pu with
  |none=>exact jk (l:=some (i,ti)) (u:=none) (st:=none) ⟨o,ho,hc,hd⟩ rfl (my ⟨b6 (Txt.slice_le z _ _) hz,fin⟩)
  |int j tj=>exact jk (l:=some (i,ti)) (u:=some (j,tj)) (st:=none) ⟨o,ho,hc,hd⟩ rfl (my ⟨b6 (Txt.slice_le z _ _) hz,fin⟩)
end
def Own (K:W.Frag)(mg:Str->Option Value)(x:Str)(st:Stmt)(ps:List Str):Prop:=∃f fd,Fun K x x st f fd/\mg x=some (.ref f)/\W.keepIn K (.ref f)=true/\Binds K fd ps []
def Cal (P:a8)(w:World)(K:W.Frag)(mg:Str->Option Value)(base:Heap)(k:Nat)(x:Str)(ps:List Str)(sp:Sp):Prop:=∃f fd,FnOk P w K mg base CX0 k f fd ps sp/\mg x=some (.ref f)/\W.keepIn K (.ref f)=true/\Binds K fd ps []
section
variable {P:a8}{w:World}{K:W.Frag}{mg:Str->Option Value}{base:Heap}
theorem znz {h:Heap}{x:Str}{st:Stmt}{f:Addr}{ps:List Str}{oc:Value}{od an:Option Addr}{osl:Array (Option Value)}{kV doc pm cdv ct:Value}(X:K.In h)(G:h.Ns cg mg)
  (a:W.nsIn K cg x=some (some (.ref f))) (l:K.lookup f=some ⟨oc,od,.func (W.fnOf x x (z1j st) (z0o st) (z0a st) .none kV doc pm an cdv ct),osl⟩) (c:W.codeIn K cdv x=true) (k:W.keepIn K (.ref f)=true)
  (b:∀(kV doc pm:Value) (an:Option Addr) (cdv ct:Value) (us:List Value),us.length=ps.length->vg (W.fnOf x x (z1j st) (z0o st) (z0a st) .none kV doc pm an cdv ct) ⟨us,[]⟩=pure (ps.zip us)):Own K mg x st ps:=
 ⟨f,_,ze3 l c k,W.mg_of X G a,k,(ze3 (st:=st) l c k).binds b⟩
theorem Cal.imp {k:Nat}{x:Str}{ps:List Str}{sp sp':Sp}(C:Cal P w K mg base k x ps sp)(h:∀vs H Q E,sp' vs H Q E->sp vs H Q E):Cal P w K mg base k x ps sp':=by obtain⟨f,fd,F,r⟩:=C;exact⟨f,fd,F.imp h,r⟩
end
def isStar:Expr->Bool
 |.Starred ..=>true
 |_=>false
theorem z0j {e:Expr}{es:List Expr}{env:Env}(h:isStar e=false):dn (e::es) env=(false,eval e env)::dn es env:=by cases e<;>first|rfl|cases h
theorem z1q {pos:Pos}{env:Env}:∀{es:List Expr},(es.all fun e=> !isStar e)=true->(li pos (dn es env)).any (·.1)=false
 | [],_=>rfl
 |e::es,h=>by have h':=bp.mp (dw▸h);rw[z0j (by simpa using h'.1)];show(false||(li pos (dn es env)).any (·.1))=false;rw[z1q h'.2];rfl
section
variable {X:Cx}{x:Str}{p pos:Pos}{e:Expr}{es:List Expr}{t:TA}{id T:String}{r:List V->Hp->VK->Prop}
theorem pa_c {te:TE}(ha:PE X e te)(hr:PA X es t)(hs:isStar e=false:=by rfl):PA X (e::es) (zl5 te t):=z4f ha hr (z0j hs)
theorem zd5 (hc:CallR X (.builtin id) r)(hm:X.mg x=none)(hv:cu x=some (.builtin id))(ha:PA X (e::es) t)(hst:((e::es).all fun e=> !isStar e)=true:=by rfl)(hg:Gl X x:=by rfl)(hn:x≠"__name__":=by decide)(hdb:(x==("__debug__":Str))=false:=by decide):PE X (.Call (.Name x p) (e::es) [] pos) (tCB r t):=by rw[dw,ba]at hst;exact zf6 hc hg hm hv ha hn hdb (z0j (by simpa using hst.1)) (z1q hst.2)
theorem zkv (hc:CallR X (.type T) r)(hm:X.mg x=none)(hv:cu x=some (.type T))(ha:PA X (e::es) t)(hst:((e::es).all fun e=> !isStar e)=true:=by rfl)(hg:Gl X x:=by rfl)(hn:x≠"__name__":=by decide)(hdb:(x==("__debug__":Str))=false:=by decide):PE X (.Call (.Name x p) (e::es) [] pos) (tCB r t):=by rw[dw,ba]at hst;exact ze7 hc hg hm hv ha hn hdb (z0j (by simpa using hst.1)) (z1q hst.2)
theorem z9x {k k':Nat}{ps:List Str}{sp:Sp}(C:Cal X.prog X.w X.K X.mg X.base k x ps sp)(hr:Room k' X.A)(ha:PA X (e::es) t)(hst:((e::es).all fun e=> !isStar e)=true:=by rfl)(hk:k<=k':=by decide)(hg:Gl X x:=by rfl)
  (hdb:(x==("__debug__":Str))=false:=by decide):PE X (.Call (.Name x p) (e::es) [] pos) (zr8 sp [] E0 t):=by
 obtain⟨f,fd,F,m,kp,b⟩:=C;rw[dw,ba]at hst;exact zmw F (hr.mono hk) hg m kp b .nil zu4 ha hdb (z0j (by simpa using hst.1)) (z1q hst.2)
end
def z21:Expr->Bool
 |.ListComp ..=>true
 |.SetComp ..=>true
 |.DictComp ..=>true
 |_=>false
theorem z2j {e:Expr}(h:z21 e=false)(tg:Option Expr)(n:Nat)(env:Env):l6 e tg n env=pure false:=by cases e<;>first|rfl|cases h
theorem ps_s {X:Cx}{pos:Pos}{i:Nat}{x:Str}{e:Expr}{te:TE}{pos':Pos}(hN:X.N.Nodup)(hi:X.N[i]?=some x)(hx:Loc X.env.scope x)(he:PE X e te)(hs:z21 e=false:=by rfl)(hf:X.fn x=true\/X.env.scope.names.lookup x=some .local:=by first|exact .inl rfl|exact .inr rfl|assumption): PS X (.Assign [.Name x pos'] e pos) (tAsg te (zmi i)):=zhy hN hi hx he (z2j hs _ _ _) hf
theorem ps_e {X:Cx}{pos:Pos}{e:Expr}{te:TE}(he:PE X e te)(hs:z21 e=false:=by rfl):PS X (.Expr e pos) (zng te):=zj5 he (z2j hs _ _ _)
section
variable {X:Cx}
def zl0 (K:W.Frag):R2:=fun x y H Q=>rI0 (fun i j=>.int (i+j)) x y H Q\/(∃i j,x=.str i/\y=.str j/\i.length+j.length<=bh/\Q (.str (i++j)) H)\/rCat x y H Q\/zqc K x y H Q
def rLtA:R2:=fun x y H Q=>rI0 (fun i j=>.bl (decide (i<j))) x y H Q\/∃i j,x=.str i/\y=.str j/\Q (.bl (decide (i.cps.toList<j.cps.toList))) H
def rGtA:R2:=fun x y H Q=>rI0 (fun i j=>.bl (decide (j<i))) x y H Q\/∃i j,x=.str i/\y=.str j/\Q (.bl (decide (j.cps.toList<i.cps.toList))) H
def rInA (K:W.Frag)(neg:Bool):R2:=fun x y H Q=>rIn K neg x y H Q\/∃i j,x=.str i/\y=.str j/\Q (.bl (if neg then !(!(dq j i 0 j.length 1).isEmpty)else !(dq j i 0 j.length 1).isEmpty)) H
def rSlA (K:W.Frag):V->Option Int->Option Int->Hp->VK->Prop:=fun x lo hi H Q=>rSlL K x lo hi H Q\/rSlS x lo hi H Q
def zs9 (K:W.Frag):List V->Hp->VK->Prop:=fun xs H Q=>(∃z,xs=[.str z]/\z.length<=bh/\Q (.int z.length) H)\/(∃p ys,xs=[.ref p]/\(SqL K H p ys\/SqT K H p ys)/\Q (.int ys.length) H)
theorem zsp:OpR X (gm .Add) (zl0 X.K):=znh.or (zb3.or (zri.or zlz))
theorem opLt:OpR X (df .Lt) rLtA:=zuh.or zbi
theorem opGt:OpR X (df .Gt) rGtA:=zt0.or zdc
theorem opIn:OpR X (df .In) (rInA X.K false):=zc6.or zd4
theorem zmd:OpR X (df .NotIn) (rInA X.K true):=z6w.or z7l
theorem zu1:IxR X (rIx X.K):=zr0
theorem zvq:SlR X (rSlA X.K):=zkz.or zqq
theorem zlw:CallR X (.builtin "len") (zs9 X.K):=z73.or z7q
theorem PI.or {tg iter:Expr}{wi wi':TI}(h:PI X tg iter wi)(h':PI X tg iter wi'):PI X tg iter (fun σ H R=>wi σ H R\/wi' σ H R):=by
 intro pins s σ H R I q;rcases q with q|q
 ·exact h pins s σ H R I q
 ·exact h' pins s σ H R I q
end
def isT (t T:String):Bool:=t==T||(t=="bool"&&T=="int")
def tysA:List String:=["NoneType","bool","int","str","list","tuple","dict"]
def tysB:List String:=["str","int","bool","tuple","list"]
theorem zlj (K:W.Frag):∀t∈tysA,∀T∈tysB,W.kitOne K (.type t) (.type T)=some (isT t T):=by intro t ht T hT;simp only[tysA,au,cw,or_false]at ht;simp only[tysB,au,cw,or_false]at hT;rcases ht with rfl|rfl|rfl|rfl|rfl|rfl|rfl<;>rcases hT with rfl|rfl|rfl|rfl|rfl<;>kernel_rfl
section
variable {D:Ends}{σ:St}{H:Hp}{g:TG}{tb:TS}
end
section
variable {σ:St}{H:Hp}{R:It->Hp->Prop}{K:W.Frag}{te:TE}{ta:TA}
end
section
variable {D:Ends}{σ:St}{H:Hp}{Q:VK}{t u:TS}{te ta tb tc':TE}{r r':R2}{K:W.Frag}
theorem zqw {i j:Int}(h:Q (.int (i+j)) H):zl0 K (.int i) (.int j) H Q:=.inl ⟨i,j,rfl,rfl,h⟩
theorem znx {i j:Str}(c:i.length+j.length<=bh)(h:Q (.str (i++j)) H):zl0 K (.str i) (.str j) H Q:=.inr (.inl ⟨i,j,rfl,rfl,c,h⟩)
theorem zts {i j:Int}(h:Q (.bl (decide (i<j))) H):rLtA (.int i) (.int j) H Q:=.inl ⟨i,j,rfl,rfl,h⟩
theorem zv0 {i j:Int}(h:Q (.bl (decide (j<i))) H):rGtA (.int i) (.int j) H Q:=.inl ⟨i,j,rfl,rfl,h⟩
theorem zsh {i j:Str}(h:Q (.bl (decide (i.cps.toList<j.cps.toList))) H):rLtA (.str i) (.str j) H Q:=.inr ⟨i,j,rfl,rfl,h⟩
theorem zvr {i j:Str}(h:Q (.bl (decide (j.cps.toList<i.cps.toList))) H):rGtA (.str i) (.str j) H Q:=.inr ⟨i,j,rfl,rfl,h⟩
section
variable {q:Bool->Hp->Prop}{s t:TT}
end
section
variable {q:List V->Hp->Prop}{a:TA}
end
end
section
variable {g:TG}{tc:TT}{te:TE}{σ':St}{l:Addr}{Q:VK}{H1:Hp}
end
section
variable {K:W.Frag}{H:Hp}{Q:VK}
theorem zsj {z:Str}{c:Nat}(h:Q (.bl (decide (c∈z.cps.toList))) H):rInA K false (.str ⟨#[c]⟩) (.str z) H Q:=.inr ⟨_,z,rfl,rfl,by have e:(if false=true then !(!(dq z ⟨#[c]⟩ 0 z.length 1).isEmpty)else !(dq z ⟨#[c]⟩ 0 z.length 1).isEmpty)=decide (c∈z.cps.toList):=PySem.StrLaws.found_one z c;rw[e];exact h⟩
theorem zqi {z:Str}{c:Nat}(h:Q (.bl (!decide (c∈z.cps.toList))) H):rInA K true (.str ⟨#[c]⟩) (.str z) H Q:=.inr ⟨_,z,rfl,rfl,by have e:(if true=true then !(!(dq z ⟨#[c]⟩ 0 z.length 1).isEmpty)else !(dq z ⟨#[c]⟩ 0 z.length 1).isEmpty)=!decide (c∈z.cps.toList):=congrArg Bool.not (PySem.StrLaws.found_one z c);rw[e];exact h⟩
end
section
variable {K:W.Frag}{H:Hp}{Q:VK}
theorem Same.upd {H:Hp}{p:Addr}{o:HO}(h:H p=none):Same H (L2.upd H p o):=fun b u e=>by rw[z06 (z08 e h)];exact e
theorem ze2 {n:Nat}(h:n<=1000):n<=bh:=b6 h (by rw[dr];decide)
end
theorem TyOf.same {K:W.Frag}{H H':Hp}{x:V}{t:Value}(s:Same H H')(h:TyOf K H x t):TyOf K H' x t:=by
 cases h with
 |non=>exact .non
 |bl b=>exact .bl b
 |int i=>exact .int i
 |str z=>exact .str z
 |lst e=>exact .lst (s _ _ e)
 |frz e=>exact .frz (s _ _ e)
 |tup e=>exact .tup (s _ _ e)
 |dK e=>exact .dK (s _ _ e)
section
variable {X:Cx}{a b c e o value i f:Expr}{es:List Expr}{ta tb tc te td ty tv tx to:TE}{t:TA}{pos pos' p p2 tpos apos cpos:Pos}
section
variable {tA tB':TT}{rest:List Expr}
end
section
variable {st:Stmt}{sts:List Stmt}{u v:TS}
end
end
section
variable {P:a8}{w:World}{K:W.Frag}{mg:Str->Option Value}{base:Heap}
end
end L2
namespace Mi
open PySem
abbrev D:=av
inductive Res (α:Type) where
 |ok (a:α)|exc (e:D)|no
namespace Res
def bind {α β:Type}(x:Res α)(f:α->Res β):Res β:=match x with
 |.ok a=>f a
 |.exc e=>.exc e
 |.no=>.no
instance:Monad Res where
 pure:=.ok
 bind:=Res.bind
theorem ok_bind {α β:Type}(a:α)(f:α->Res β):(Res.ok a>>=f)=f a:=rfl
def ofO {α:Type}:Option α->Res α
 |some a=>.ok a
 |none=>.no
theorem bind_ok {α β:Type}{x:Res α}{f:α->Res β}{b:β}(h:(x>>=f)=.ok b):∃a,x=.ok a/\f a=.ok b:=by
 cases x with
 |ok a=>exact⟨a,rfl,h⟩
 |exc e=>cases h
 |no=>cases h
end Res
mutual
def imm:av->Bool
 |.tuple xs=>imms xs
 |.list _=>false
 |.dict _=>false
 |.none=>true
 |.bool _=>true
 |.int _=>true
 |.str _=>true
def imms:List av->Bool
 | []=>true
 |x::xs=>imm x&&imms xs
end
theorem z1d:∀{xs:List D},imms xs=true↔∀x∈xs,imm x=true
 | []=>by simp[imms]
 |x::xs=>by rw[imms,ba,z1d];simp
abbrev eqD:D->D->Bool:=PyData.eqv
mutual
def shal:Nat->av->Bool
 |0,.tuple _=>false
 |0,.list _=>false
 |n+1,.tuple xs=>z15 n xs
 |n+1,.list xs=>z15 n xs
 |_,.dict _=>false
 |_,.none=>true
 |_,.bool _=>true
 |_,.int _=>true
 |_,.str _=>true
def z15:Nat->List av->Bool
 |_,[]=>true
 |n,x::xs=>shal n x&&z15 n xs
end
theorem z1i {n:Nat}:∀{xs:List D},z15 n xs=true↔∀x∈xs,shal n x=true
 | []=>by simp[z15]
 |x::xs=>by rw[z15,ba,z1i];simp
def truth:av->Bool
 |.none=>false
 |.bool b=>b
 |.int i=>!decide (i=0)
 |.str x=>!decide (x.length=0)
 |.tuple xs=>!xs.isEmpty
 |.list xs=>!xs.isEmpty
 |.dict es=>!es.isEmpty
def ixN (n:Nat)(i:Int):Option Nat:=if 0<=i then(if i<n then some i.toNat else none)else if -(n:Int)<=i then some (i+n).toNat else none
def atI {α:Type}(xs:List α)(i:Int):Option α:=(ixN xs.length i).bind fun j=>xs[j]?
def sIx (n d:Nat):Option Int->Nat
 |none=>d
 |some v=>if v<0 then(v+(n:Int)).toNat else min v.toNat n
def cut {α:Type}(xs:List α)(lo hi:Option Int):List α:=(xs.drop (sIx xs.length 0 lo)).take (sIx xs.length xs.length hi-sIx xs.length 0 lo)
def eqK:av->av->Bool
 |.int a,y=>match y with|.int b=>a==b|_=>false
 |.str a,y=>match y with|.str b=>decide (a=b)|_=>false
 |_,_=>false
def isK:av->Bool
 |.int _=>true
 |.str _=>true
 |_=>false
abbrev Ents:=List (D×D)
def z25 (es:Ents)(k:D):Option D:=(es.find? fun e=>eqK e.1 k).map (·.2)
def dput (es:Ents)(k v:D):Ents:=if es.any (fun e=>eqK e.1 k)then es.map (fun e=>if eqK e.1 k then(e.1,v)else e)else es++[(k,v)]
def ent (e:D×D):D:=.tuple [e.1,e.2]
def z3p:Ents->List D->Option Ents
 |es,[]=>some es
 |es,p::ps=>match p with
  |.tuple [k,v]=>if isK k then z3p (dput es k v) ps else none
  |_=>none
mutual
def ltD:av->av->Bool
 |.int a,y=>match y with|.int b=>decide (a<b)|_=>false
 |.str a,y=>match y with|.str b=>decide (a.cps.toList<b.cps.toList)|_=>false
 |.tuple xs,y=>match y with|.tuple ys=>ltDs xs ys|_=>false
 |.none,_=>false
 |.bool _,_=>false
 |.list _,_=>false
 |.dict _,_=>false
def ltDs:List av->List av->Bool
 | [],ys=>!ys.isEmpty
 |x::xs,ys=>match ys with|y::ys=>if eqD x y then ltDs xs ys else ltD x y| []=>false
end
def insD (x:D):List D->List D
 | []=>[x]
 |y::ys=>if ltD y x then y::insD x ys else x::y::ys
def z1a:List D->List D
 | []=>[]
 |x::xs=>insD x (z1a xs)
def isI:D->Bool
 |.int _=>true
 |_=>false
def isS:D->Bool
 |.str _=>true
 |_=>false
def ofK (b:Bool)(x:D):Bool:=if b then isI x else isS x
def shps:List Bool->List D->Bool
 | [],xs=>xs.isEmpty
 |b::bs,xs=>match xs with|x::xs=>ofK b x&&shps bs xs| []=>false
def zal (bs:List Bool):D->Bool
 |.tuple xs=>shps bs xs
 |_=>false
def z1c (xs:List D):Bool:=xs.all isI||xs.all isS||(match xs with|.tuple ys::_=>!ys.isEmpty&&xs.all (zal (ys.map isI))|_=>false)
section
inductive G where
 |fr|od|al
 deriving Inhabited,DecidableEq
abbrev Rho:=List (Option (G×D))
abbrev GD:=G×D
inductive Tg where
 |nm (i:Nat)|tp (is:List Nat)
 deriving Inhabited,DecidableEq
inductive C where
 |var (i:Nat)|non|bl (b:Bool)|int (i:Int)|str (x:Str)|glob (k:Nat) (x:Str)|bin (op:kq) (a b:C)|cmp (op:CmpOp) (a b:C)|isN (neg:Bool) (a:C)|and (a b:C)|or (a b:C)|not (a:C)|ife (c a b:C)|tup (xs:C)|lst (xs:C)|rep (xs b:C)|dnew|ix (a b:C)|sl (a lo hi:C)|call (k:Nat) (f:Str) (args:C)|bi (f:String) (args:C)|agg (f:String) (a:C)|isT (a:C) (ts:List String)|mt (m:String) (o args:C)|comp (nt:Nat) (js:List Nat) (N':List Str) (tg:Tg) (it cond elt:C)|sortI (i:Nat)|rng (args:C)|enum (a:C)|zip (a b:C)|tv (a:C)|isE (b:Bool) (x:Str)|lset (a:C)|nil|cons (a r:C)
 deriving Inhabited
inductive S where
 |nil|seq (a b:S)|asg (t:Tg) (e:C)|setIx (i:Nat) (k v:C)|mut (m:String) (i:Nat) (args:C)|drop (e:C)|ret (e:C)|ifS (c:C) (a b:S)|for_ (t:Tg) (it:C) (b:S)|wh (n:Nat) (c:C) (b:S)|rse (c:Str)
 deriving Inhabited
inductive Out where
 |nx (ρ:Rho)|rt (g:G) (d:D)
abbrev Fn:=List D->Res GD
def LIM:Nat:=1000000
def rdG:G->G
 |.fr=>.al
 |.od=>.od
 |.al=>.al
def rdS:Option (Option GD)->Res GD
 |some (some (g,d))=>.ok (if imm d then .fr else rdG g,d)
 |_=>.no
def z23:D->Res Bool
 |.str x=>if x.length<=LIM then .ok (!decide (x.length=0))else .no
 |d=>.ok (truth d)
def rtG:G->G
 |.fr=>.fr
 |.od=>.al
 |.al=>.al
def gJ (d:D)(g:G):G:=if imm d then .fr else g
def gN (d:D)(g:G):G:=match d with
 |.list xs=>if imms xs then .fr else g
 |d=>gJ d g
def gAll (xs:List GD):G:=if xs.all (fun x=>x.1==.fr)then .fr else .al
def immE (es:Ents):Bool:=es.all fun e=>imm e.2
def z1x:GD->GD
 |(g,d)=>if imm d then(.al,d)else match g,d with
  |.fr,.list xs=>(if imms xs then .fr else .al,.list xs)
  |.fr,.dict es=>(if immE es then .fr else .al,.dict es)
  |.od,d=>(.od,d)
  |_,d=>(.al,d)
def z2u:GD->GD
 |(g,d)=>match g with|.od=>(.od,d)|_=>(.al,d)
def toAl:Option GD->Option GD
 |some (.fr,d)=>some (.al,d)
 |s=>s
def z1e:Option GD->Option GD
 |some (.al,d)=>if imm d then some (.al,d)else none
 |s=>s
def z30:Rho->List Nat->List D->G->Option Rho
 |ρ,[],[],_=>some ρ
 |ρ,i::is,d::ds,g=>z30 (ρ.set i (some (z2u (gJ d g,d)))) is ds g
 |_,_,_,_=>none
def z19:Tg->GD->Rho->Res Rho
 |.nm i,x,ρ=>.ok (ρ.set i (some (z2u x)))
 |.tp is,(g,.tuple ds),ρ=>Res.ofO (z30 ρ is ds g)
 |_,_,_=>.no
def lenD:D->Res D
 |.str x=>if x.length<=LIM then .ok (.int x.length)else .no
 |.tuple xs=>.ok (.int xs.length)
 |.list xs=>.ok (.int xs.length)
 |.dict es=>.ok (.int es.length)
 |_=>.no
def z0y {α:Type}(n:Nat)(xs:List α):List α:=(bj n xs).flatten
def binD:kq->D->D->Res D
 |.Add,.int a,.int b=>.ok (.int (a+b))
 |.Add,.str a,.str b=>if a.length+b.length<=LIM then .ok (.str (a++b))else .no
 |.Add,.list a,.list b=>if a.length+b.length<=LIM then .ok (.list (a++b))else .no
 |.Add,.tuple a,.tuple b=>if a.length+b.length<=LIM then .ok (.tuple (a++b))else .no
 |.Sub,.int a,.int b=>.ok (.int (a-b))
 |.Mult,.str a,.int n=>if 0<=n/\n<=LIM/\a.length*n.toNat<=LIM then .ok (.str ⟨(z0y n.toNat a.cps.toList).toArray⟩)else .no
 |.Mult,.int a,.int b=>if(-(2 ^ 64)<a/\a<2 ^ 64)\/(-(2 ^ 64)<b/\b<2 ^ 64)then .ok (.int (a*b))else .no
 |.FloorDiv,.int a,.int b=>if 0<b/\b<2 ^ 200 then .ok (.int (a/b))else .no
 |.Mod,.int a,.int b=>if 0<b then .ok (.int (a%b))else .no
 |.Pow,.int a,.int b=>if 0<=b/\b<=1000/\a.natAbs<2 ^ 64 then .ok (.int (a ^ b.toNat))else .no
 |_,_,_=>.no
def inD (x:D):D->Res Bool
 |.list xs=>if shal 40 x&&z15 40 xs then .ok (xs.any fun y=>eqD y x)else .no
 |.tuple xs=>if shal 40 x&&z15 40 xs then .ok (xs.any fun y=>eqD y x)else .no
 |.dict es=>if isK x then .ok (z25 es x).isSome else .no
 |.str z=>match x with
  |.str w=>(match w.cps.toList with| [c]=>.ok (decide (c∈z.cps.toList))|_=>.no)
  |_=>.no
 |_=>.no
def cmpD:CmpOp->D->D->Res Bool
 |.Eq,x,y=>if shal 40 x&&shal 40 y then .ok (eqD x y)else .no
 |.NotEq,x,y=>if shal 40 x&&shal 40 y then .ok (!eqD x y)else .no
 |.Lt,.int a,.int b=>.ok (decide (a<b))
 |.Gt,.int a,.int b=>.ok (decide (b<a))
 |.Lt,.str a,.str b=>.ok (decide (a.cps.toList<b.cps.toList))
 |.Gt,.str a,.str b=>.ok (decide (b.cps.toList<a.cps.toList))
 |.In,x,y=>inD x y
 |.NotIn,x,y=>inD x y>>=fun b=>.ok (!b)
 |_,_,_=>.no
def ixD:D->D->Res D
 |.list xs,.int i=>Res.ofO (atI xs i)
 |.tuple xs,.int i=>Res.ofO (atI xs i)
 |.str z,.int i=>if z.length<=LIM then Res.ofO ((atI z.cps.toList i).map fun c=>.str ⟨#[c]⟩)else .no
 |.dict es,k=>if isK k then Res.ofO (z25 es k)else .no
 |_,_=>.no
def z4i (z:Str)(lo hi:Option Int):Str:=⟨(cut z.cps.toList lo hi).toArray⟩
def slD:D->Option Int->Option Int->Res D
 |.list xs,lo,hi=>.ok (.list (cut xs lo hi))
 |.tuple xs,lo,hi=>if sIx xs.length 0 lo=0/\sIx xs.length xs.length hi=xs.length then .no else .ok (.tuple (cut xs lo hi))
 |.str z,lo,hi=>if z.length<=LIM then .ok (.str (z4i z lo hi))else .no
 |_,_,_=>.no
def intO:D->Res (Option Int)
 |.int i=>.ok (some i)
 |_=>.no
def z66:D->Res (List D)
 |.list xs=>.ok xs
 |.tuple xs=>.ok xs
 |.str z=>if z.length<=LIM then .ok (z.cps.toList.map fun c=>.str ⟨#[c]⟩)else .no
 |_=>.no
def sumD:List D->Option Int
 | []=>some 0
 |.int i::r=>(sumD r).map (i+ ·)
 |_=>none
def allS:List D->Option (List Str)
 | []=>some []
 |.str b::r=>(allS r).map (b:: ·)
 |_=>none
def z4u:D->Res (Bool×List D)
 |.list xs=>.ok (true,xs)
 |.tuple xs=>.ok (false,xs)
 |_=>.no
def aggD (f:String)(l:Bool)(xs:List D):Res D:=
 if f="list"then .ok (.list xs)
 else if f="tuple"then .ok (.tuple xs)
 else if f="sorted"then(if(l||imms xs)&&z1c xs&&decide (xs.length<64)then .ok (.list (z1a xs))else .no)
 else if f="sum"then(if l then Res.ofO ((sumD xs).map .int)else .no)
 else if f="dict"then Res.ofO ((z3p [] xs).map .dict)
 else .no
def vI:D->Option Int
 |.int i=>some i
 |_=>none
def vT:D->Option (List D)
 |.tuple xs=>some xs
 |_=>none
def min2 (x y:D):Res D:=Res.ofO ((vI x).bind fun a=>(vI y).map fun b=>.int (min a b))
def minD (xs:List D):Res D:=if xs.length=2 then min2 (xs.getD 0 .none) (xs.getD 1 .none)else if xs.length=1 then(match vT (xs.getD 0 .none)with|some ys=>if ys.length=2 then min2 (ys.getD 0 .none) (ys.getD 1 .none)else .no|none=>.no)else .no
def z1h:List Str->List Str->List Str
 |acc,[]=>acc
 |acc,z::ws=>z1h (if z∈acc then acc else acc++[z]) ws
def z91:D->Res D
 |.list xs=>match allS xs with
  |some ws=>if decide (ws.length<4000)then .ok (.int ((z1h [] ws).length:Int))else .no
  |none=>.no
 |_=>.no
def biD (f:String)(xs:List D):Res D:=
 if f="len"then(match xs with| [x]=>lenD x|_=>.no)
 else if f="max"then(match xs with| [.int a,.int b]=>.ok (.int (max a b))|_=>.no)
 else if f="int"then(match xs with| [.int a]=>.ok (.int a)| [.bool b]=>.ok (.int (if b then 1 else 0))|_=>.no)
 else if f="min"then minD xs
 else .no
def tyOf:D->String
 |.none=>"NoneType"|.bool _=>"bool"|.int _=>"int"|.str _=>"str"|.tuple _=>"tuple"|.list _=>"list"|.dict _=>"dict"
def isTy (t T:String):Bool:=t==T||(t=="bool"&&T=="int")
def zdd (sep:List Nat):List Str->List Nat
 | []=>[]
 |x::r=>x.cps.toList++(r.map fun p=>sep++p.cps.toList).flatten
def z69 (sep:Str)(xs:List Str):Str:=⟨(zdd sep.cps.toList xs).toArray⟩
def zmu (sep:Str)(xs:List Str):Nat:=(xs.map (·.length)).sum+xs.length*sep.length
def mtD (m:String)(o:D)(xs:List D):Res D:=
 if m="get"then(match o,xs with|.dict es,[k,d]=>if isK k then .ok ((z25 es k).getD d)else .no|_,_=>.no)
 else if m="join"then(match o,xs with|.str z,[.list ys]=>(match allS ys with|some ss=>if zmu z ss<=LIM then .ok (.str (z69 z ss))else .no|none=>.no)|_,_=>.no)
 else .no
def rngD:List D->Res (List D)
 | [.int n]=>if n<=LIM/\-LIM<=n then .ok ((cj n.toNat).map fun(i:Nat)=>.int i)else .no
 |_=>.no
def z2n:Nat->List D->List D
 |_,[]=>[]
 |i,x::xs=>.tuple [.int i,x]::z2n (i+1) xs
def zipD:List D->List D->List D
 |x::xs,y::ys=>.tuple [x,y]::zipD xs ys
 |_,_=>[]
def seqI:D->Res (List D)
 |.list xs=>if imms xs&&decide (xs.length<=LIM)then .ok xs else .no
 |.tuple xs=>if imms xs&&decide (xs.length<=LIM)then .ok xs else .no
 |_=>.no
def repD (ys:List GD):D->Res GD
 |.int n=>if imms (ys.map (·.2))=true/\0<=n/\n<=LIM/\ys.length*n.toNat<=LIM then .ok (.fr,.list (z0y n.toNat (ys.map (·.2))))else .no
 |_=>.no
def oc:Option GD->List GD->List GD
 |some y,r=>y::r
 |none,r=>r
def z3l (f:D->Res (Option GD)):List D->Res (List GD)
 | []=>.ok []
 |x::xs=>f x>>=fun o=>z3l f xs>>=fun r=>.ok (oc o r)
variable (Κ:List D)(Φ:List Fn)
mutual
def evE:C->Rho->Res GD
 |.var i,ρ=>rdS ρ[i]?
 |.non,_=>.ok (.fr,.none)
 |.bl b,_=>.ok (.fr,.bool b)
 |.int i,_=>.ok (.fr,.int i)
 |.str x,_=>.ok (.fr,.str x)
 |.isE b _,_=>.ok (.fr,.bool b)
 |.lset a,ρ=>evE a ρ>>=fun x=>z91 x.2>>=fun d=>.ok (.fr,d)
 |.glob k _,_=>match Κ[k]? with|some d=>.ok (gJ d .al,d)|none=>.no
 |.bin op a b,ρ=>evE a ρ>>=fun x=>evE b ρ>>=fun y=>binD op x.2 y.2>>=fun d=>.ok (gN d (gAll [x,y]),d)
 |.cmp op a b,ρ=>evE a ρ>>=fun x=>evE b ρ>>=fun y=>cmpD op x.2 y.2>>=fun b=>.ok (.fr,.bool b)
 |.isN ng a,ρ=>evE a ρ>>=fun x=>.ok (.fr,.bool (match x.2 with|.none=>!ng|_=>ng))
 |.and a b,ρ=>evE a ρ>>=fun x=>match x.2 with|.bool c=>if c then evE b ρ else .ok (.fr,.bool false)|_=>.no
 |.or a b,ρ=>evE a ρ>>=fun x=>match x.2 with|.bool c=>if c then .ok (.fr,.bool true)else evE b ρ|_=>.no
 |.not a,ρ=>evE a ρ>>=fun x=>z23 x.2>>=fun c=>.ok (.fr,.bool (!c))
 |.ife c a b,ρ=>evT c ρ>>=fun k=>if k then evE a ρ else evE b ρ
 |.tup xs,ρ=>evA xs ρ>>=fun ys=>.ok (gJ (.tuple (ys.map (·.2))) (gAll ys),.tuple (ys.map (·.2)))
 |.lst xs,ρ=>evA xs ρ>>=fun ys=>.ok (gAll ys,.list (ys.map (·.2)))
 |.rep xs b,ρ=>evA xs ρ>>=fun ys=>evE b ρ>>=fun n=>repD ys n.2
 |.dnew,_=>.ok (.fr,.dict [])
 |.ix a b,ρ=>evE a ρ>>=fun x=>evE b ρ>>=fun y=>ixD x.2 y.2>>=fun d=>.ok (gJ d x.1,d)
 |.sl a lo hi,ρ=>evE a ρ>>=fun x=>evO lo ρ>>=fun l=>evO hi ρ>>=fun h=>slD x.2 l h>>=fun d=>.ok (gJ d (gAll [x]),d)
 |.call k _ args,ρ=>evA args ρ>>=fun ys=>match Φ[k]? with|some m=>m (ys.map (·.2))>>=fun r=>.ok (gJ r.2 (rtG r.1),r.2)|none=>.no
 |.bi f args,ρ=>evA args ρ>>=fun ys=>biD f (ys.map (·.2))>>=fun d=>.ok (gJ d .al,d)
 |.agg f a,ρ=>evG a ρ>>=fun w=>aggD f w.2.1 w.2.2>>=fun d=>.ok (gJ d (if imms w.2.2 then .fr else rtG w.1),d)
 |.isT a ts,ρ=>evE a ρ>>=fun x=>.ok (.fr,.bool (ts.any fun T=>isTy (tyOf x.2) T))
 |.mt m o args,ρ=>evE o ρ>>=fun x=>evA args ρ>>=fun ys=>mtD m x.2 (ys.map (·.2))>>=fun d=>.ok (gJ d .al,d)
 |.sortI i,ρ=>match ρ[i]? with
  |some (some (_,.dict es))=>if immE es&&z1c (es.map ent)&&decide (es.length<64)then .ok (.fr,.list (z1a (es.map ent)))else .no
  |_=>.no
 |.comp nt js _ tg it cond elt,ρ=>evW it ρ>>=fun w=>z3l (fun x=>z19 tg (gJ x w.1,x) (bj nt none++js.map fun j=>toAl (ρ.getD j none))>>=fun ρ1=>evT cond ρ1>>=fun k=>if k then evE elt ρ1>>=fun y=>.ok (some y)else .ok none) w.2>>=fun ys=>.ok (gAll ys,.list (ys.map (·.2)))
 |_,_=>.no
def evT:C->Rho->Res Bool
 |.and a b,ρ=>evT a ρ>>=fun c=>if c then evT b ρ else .ok false
 |.or a b,ρ=>evT a ρ>>=fun c=>if c then .ok true else evT b ρ
 |.not a,ρ=>evT a ρ>>=fun c=>.ok (!c)
 |.nil,_=>.ok true
 |.tv a,ρ=>evE a ρ>>=fun x=>z23 x.2
 |_,_=>.no
def evA:C->Rho->Res (List GD)
 |.nil,_=>.ok []
 |.cons a r,ρ=>evE a ρ>>=fun x=>evA r ρ>>=fun xs=>.ok (x::xs)
 |_,_=>.no
def evO:C->Rho->Res (Option Int)
 |.nil,_=>.ok none
 |.tv a,ρ=>evE a ρ>>=fun x=>intO x.2
 |_,_=>.no
def evG:C->Rho->Res (G×Bool×List D)
 |.tv a,ρ=>evE a ρ>>=fun x=>z4u x.2>>=fun p=>.ok (x.1,p)
 |_,_=>.no
def evW:C->Rho->Res (G×List D)
 |.rng args,ρ=>evA args ρ>>=fun ys=>rngD (ys.map (·.2))>>=fun xs=>.ok (.fr,xs)
 |.tv a,ρ=>evE a ρ>>=fun x=>z66 x.2>>=fun xs=>.ok (x.1,xs)
 |.enum a,ρ=>evE a ρ>>=fun x=>seqI x.2>>=fun xs=>.ok (.al,z2n 0 xs)
 |.zip a b,ρ=>evE a ρ>>=fun x=>evE b ρ>>=fun y=>seqI x.2>>=fun xs=>seqI y.2>>=fun ys=>.ok (.al,zipD xs ys)
 |_,_=>.no
end
def outB:Res Out->(Rho->Res Out)->Res Out
 |.ok (.nx ρ),k=>k ρ
 |r,_=>r
def forD (f:D->Rho->Res Out):List D->Rho->Res Out
 | [],ρ=>.ok (.nx ρ)
 |x::xs,ρ=>match f x ρ with
  |.ok (.nx ρ')=>forD f xs ρ'
  |.ok (.rt g d)=>.ok (.rt g d)
  |.exc e=>.exc e
  |.no=>.no
def whD (c:Rho->Res Bool)(f:Rho->Res Out):Nat->Rho->Res Out
 |0,_=>.no
 |n+1,ρ=>c ρ>>=fun k=>if k then(match f ρ with
  |.ok (.nx ρ')=>whD c f n ρ'
  |.ok (.rt g d)=>.ok (.rt g d)
  |.exc e=>.exc e
  |.no=>.no)else .ok (.nx ρ)
def okIn (x:GD):Bool:=imm x.2
def mutD (m:String)(xs:List D)(ys:List GD):Res (List D):=
 if m="append"then(match ys with| [y]=>if okIn y&&decide (xs.length<LIM)then .ok (xs++[y.2])else .no|_=>.no)
 else .no
def ownB (ρ:Rho)(i:Nat):Bool:=match ρ[i]? with
 |some (some (.fr,_))=>true
 |_=>false
def zfx (i:Nat)(ρ:Rho):Res (G×List D×Rho):=match ρ[i]? with
 |some (some (.fr,d))=>z66 d>>=fun xs=>.ok (.al,xs,ρ.set i (some (.al,d)))
 |_=>.no
def zke:Option GD->Option GD
 |some (.fr,.list xs)=>some (.al,.list xs)
 |s=>s
def evAl (x:GD)(ρ:Rho):Res (G×List D×Rho):=match x.2 with
 |.list xs=>if imms xs then .ok (.al,xs,ρ.map zke)else .no
 |_=>.no
def z51 (x:GD):Bool:=match x.2 with
 |.list _=>!(x.1==.al)
 |_=>true
def evEn (ys:List GD)(ρ:Rho):Res (G×List D×Rho):=match ys with
 | [x]=>if z51 x then seqI x.2>>=fun xs=>.ok (.al,z2n 0 xs,ρ)else .no
 |_=>.no
def evZi (ys:List GD)(ρ:Rho):Res (G×List D×Rho):=match ys with
 | [x,y]=>if z51 x&&z51 y then seqI x.2>>=fun xs=>seqI y.2>>=fun zs=>.ok (.al,zipD xs zs,ρ)else .no
 |_=>.no
def isAl (it:C)(ρ:Rho):Bool:=match evW Κ Φ it ρ with
 |.ok w=>w.1==.al
 |_=>false
def evN (it:C)(ρ:Rho):Res (G×List D×Rho):=evW Κ Φ it ρ>>=fun w=>if w.1==.al then .no else .ok (w.1,w.2,ρ)
def evF (it:C)(ρ:Rho):Res (G×List D×Rho):=match it with
 |.tv (.var i)=>if ownB ρ i then zfx i ρ else if isAl Κ Φ it ρ then evE Κ Φ (.var i) ρ>>=fun x=>evAl x ρ else evN Κ Φ it ρ
 |.tv a=>if isAl Κ Φ it ρ then evE Κ Φ a ρ>>=fun x=>evAl x ρ else evN Κ Φ it ρ
 |.enum a=>evA Κ Φ (.cons a .nil) ρ>>=fun ys=>evEn ys ρ
 |.zip a b=>evA Κ Φ (.cons a (.cons b .nil)) ρ>>=fun ys=>evZi ys ρ
 |it=>evN Κ Φ it ρ
def excOf:Res GD->Option Str
 |.exc (.str c)=>some c
 |_=>none
def evS:S->Rho->Res Out
 |.nil,ρ=>.ok (.nx ρ)
 |.seq a b,ρ=>outB (evS a ρ) (evS b)
 |.asg (.nm i) e,ρ=>evE Κ Φ e ρ>>=fun x=>.ok (.nx (ρ.set i (some (z1x x))))
 |.asg t e,ρ=>evE Κ Φ e ρ>>=fun x=>z19 t x ρ>>=fun ρ'=>.ok (.nx ρ')
 |.setIx i k v,ρ=>evE Κ Φ v ρ>>=fun y=>evE Κ Φ k ρ>>=fun x=>match ρ[i]? with
  |some (some (.fr,.dict es))=>if isK x.2&&okIn y&&decide (es.length<LIM)then .ok (.nx ((ρ.set i (some (.fr,.dict (dput es x.2 y.2)))).map z1e))else .no
  |some (some (.fr,.list xs))=>(match x.2 with
   |.int j=>if okIn y then(match ixN xs.length j with|some n=>.ok (.nx ((ρ.set i (some (.fr,.list (xs.set n y.2)))).map z1e))|none=>.no)else .no
   |_=>.no)
  |_=>.no
 |.mut m i args,ρ=>evA Κ Φ args ρ>>=fun ys=>match ρ[i]? with
  |some (some (.fr,.list xs))=>mutD m xs ys>>=fun xs'=>.ok (.nx ((ρ.set i (some (.fr,.list xs'))).map z1e))
  |_=>.no
 |.drop e,ρ=>evE Κ Φ e ρ>>=fun _=>.ok (.nx ρ)
 |.ret e,ρ=>match e with
  |.var i=>match ρ[i]? with
   |some (some (g,d))=>.ok (.rt (if imm d then .fr else rtG g) d)
   |_=>.no
  |e=>evE Κ Φ e ρ>>=fun x=>.ok (.rt (rtG x.1) x.2)
 |.ifS c a b,ρ=>evT Κ Φ c ρ>>=fun k=>if k then evS a ρ else evS b ρ
 |.for_ t it b,ρ=>evF Κ Φ it ρ>>=fun w=>forD (fun x ρ1=>z19 t (gJ x w.1,x) ρ1>>=fun ρ2=>evS b ρ2) w.2.1 w.2.2
 |.wh n c b,ρ=>whD (evT Κ Φ c) (evS b) n ρ
 |.rse _,_=>.no
mutual
def exE:C->Rho->Option Str
 |.call k _ args,ρ=>match evA Κ Φ args ρ with
  |.ok ys=>(match Φ[k]? with|some m=>excOf (m (ys.map (·.2)))|none=>none)
  |_=>exA args ρ
 |_,_=>none
def exA:C->Rho->Option Str
 |.cons a r,ρ=>match evE Κ Φ a ρ with
  |.ok _=>exA r ρ
  |_=>exE a ρ
 |_,_=>none
end
def exT:C->Rho->Option Str
 |.not a,ρ=>exT a ρ
 |.tv a,ρ=>exE Κ Φ a ρ
 |_,_=>none
def evX:S->Rho->Option Str
 |.rse c,_=>some c
 |.seq a b,ρ=>match evS Κ Φ a ρ with
  |.ok (.nx ρ')=>evX b ρ'
  |.ok _=>none
  |_=>evX a ρ
 |.ifS c a b,ρ=>match evT Κ Φ c ρ with
  |.ok k=>if k then evX a ρ else evX b ρ
  |_=>exT Κ Φ c ρ
 |.drop e,ρ=>exE Κ Φ e ρ
 |.ret e,ρ=>exE Κ Φ e ρ
 |.asg (.nm _) e,ρ=>exE Κ Φ e ρ
 |_,_=>none
def runD (n:Nat)(s:S)(ds:List D):Res GD:=match evS Κ Φ s (ds.map (fun d=>some (.od,d))++bj (n-ds.length) none)with
 |.ok (.nx _)=>.ok (.fr,.none)
 |.ok (.rt g d)=>.ok (g,d)
 |_=>match evX Κ Φ s (ds.map (fun d=>some (.od,d))++bj (n-ds.length) none)with
  |some c=>.exc (.str c)
  |none=>.no
end
end Mi
namespace Mi
open PySem PySem.Spec PyProof.Rows L2
def kD:Key->D
 |.inl i=>.int i
 |.inr x=>.str x
def keyOk:Key->Prop
 |.inl _=>True
 |.inr x=>PyData.strOk x=true
def KL (K:W.Frag)(a:Addr)(xs:List V):Prop:=∃(o:Obj) (its:Array Value) (n:Nat),K.lookup a=some o/\o.cls=.type "list"/\o.dict=none/\o.data=.seq its n/\its.size<=bh/\Vals xs its.toList
abbrev Ad:=Option Addr
def FL (K:W.Frag)(H:Hp)(a:Addr)(xs:List V):Prop:=(∃o,H a=some (.frz o (.lst xs)))\/KL K a xs
def nw (H:Hp):Ad->Prop
 |some a=>H a=none
 |none=>False
section
variable (K:W.Frag)(H:Hp)(B:Ad->Prop)
mutual
def Rep:V->av->Prop
 |v,.none=>v=.non
 |v,.bool b=>v=.bl b
 |v,.int i=>v=.int i
 |v,.str x=>v=.str x/\PyData.strOk x=true
 |v,.tuple ds=>∃a vs,v=.ref a/\SqT K H a vs/\Reps vs ds
 |v,.list ds=>∃a vs,v=.ref a/\((H a=some (.lst vs)/\B (some a))\/(FL K H a vs/\B none))/\Reps vs ds
 |v,.dict es=>∃a kvs,v=.ref a/\H a=some (.dK kvs)/\B (some a)/\REs kvs es
def Reps:List V->List av->Prop
 |vs,[]=>vs=[]
 |vs,d::ds=>∃v r,vs=v::r/\Rep v d/\Reps r ds
def REs:List (Key×V)->List (av×av)->Prop
 |kvs,[]=>kvs=[]
 |kvs,(kd,d)::es=>∃k v r,kvs=(k,v)::r/\kd=kD k/\keyOk k/\Rep v d/\REs r es
end
end
def Fix:HO->Prop
 |.tup _=>True
 |.frz _ (.lst _)=>True
 |.frz _ (.tup _)=>True
 |_=>False
section
variable {K:W.Frag}{H H':Hp}{B B':Ad->Prop}
theorem FL.keep {a:Addr}{vs:List V}(hH:∀a o,H a=some o->(B (some a)\/Fix o)->H' a=some o)(r:FL K H a vs):FL K H' a vs:=by
 rcases r with⟨o,r⟩|r
 ·exact .inl ⟨o,hH a _ r (.inr True.intro)⟩
 ·exact .inr r
theorem _root_.L2.SqT.keep {a:Addr}{vs:List V}(hH:∀a o,H a=some o->(B (some a)\/Fix o)->H' a=some o)(r:SqT K H a vs):SqT K H' a vs:=by
 rcases r with(r|⟨o,r⟩)|r
 ·exact .inl (.inl (hH a _ r (.inr True.intro)))
 ·exact .inl (.inr ⟨o,hH a _ r (.inr True.intro)⟩)
 ·exact .inr r
mutual
theorem Rep.keep (hH:∀a o,H a=some o->(B (some a)\/Fix o)->H' a=some o)(hB:∀a,B a->B' a):∀{v:V} (d:av),Rep K H B v d->Rep K H' B' v d
 |v,.none,r=>r
 |v,.bool b,r=>r
 |v,.int i,r=>r
 |v,.str x,r=>r
 |v,.tuple ds,r=>by obtain⟨a,vs,e,h,q⟩:=r;exact⟨a,vs,e,h.keep hH,Reps.keep hH hB ds q⟩
 |v,.list ds,r=>by
  obtain⟨a,vs,e,h,q⟩:=r;refine⟨a,vs,e,?_,Reps.keep hH hB ds q⟩;rcases h with⟨h,b⟩|h
  ·exact .inl ⟨hH a _ h (.inl b),hB _ b⟩
  ·exact .inr ⟨FL.keep hH h.1,hB _ h.2⟩
 |v,.dict es,r=>by obtain⟨a,kvs,e,h,b,q⟩:=r;exact⟨a,kvs,e,hH a _ h (.inl b),hB _ b,REs.keep hH hB es q⟩
theorem Reps.keep (hH:∀a o,H a=some o->(B (some a)\/Fix o)->H' a=some o)(hB:∀a,B a->B' a):∀{vs:List V} (ds:List av),Reps K H B vs ds->Reps K H' B' vs ds
 |vs,[],r=>r
 |vs,d::ds,r=>by obtain⟨v,t,e,h,q⟩:=r;exact⟨v,t,e,Rep.keep hH hB d h,Reps.keep hH hB ds q⟩
theorem REs.keep (hH:∀a o,H a=some o->(B (some a)\/Fix o)->H' a=some o)(hB:∀a,B a->B' a):∀{kvs:List (Key×V)} (es:List (av×av)),REs K H B kvs es->REs K H' B' kvs es
 |kvs,[],r=>r
 |kvs,(kd,d)::es,r=>by obtain⟨k,v,t,e,e2,ok,h,q⟩:=r;exact⟨k,v,t,e,e2,ok,Rep.keep hH hB d h,REs.keep hH hB es q⟩
end
theorem Rep.same {v:V}{d:D}(s:Same H H')(hB:∀a,B a->B' a)(r:Rep K H B v d):Rep K H' B' v d:=Rep.keep (fun a o e _=>s a o e) hB d r
theorem Reps.same {vs:List V}{ds:List D}(s:Same H H')(hB:∀a,B a->B' a)(r:Reps K H B vs ds):Reps K H' B' vs ds:=Reps.keep (fun a o e _=>s a o e) hB ds r
theorem REs.same {vs:List (Key×V)}{ds:Ents}(s:Same H H')(hB:∀a,B a->B' a)(r:REs K H B vs ds):REs K H' B' vs ds:=REs.keep (fun a o e _=>s a o e) hB ds r
theorem Rep.weak {v:V}{d:D}(hB:∀a,B a->B' a)(r:Rep K H B v d):Rep K H B' v d:=r.same (fun _ _ e=>e) hB
theorem Reps.weak {v:List V}{d:List D}(hB:∀a,B a->B' a)(r:Reps K H B v d):Reps K H B' v d:=r.same (fun _ _ e=>e) hB
mutual
theorem Rep.immB:∀{v:V} (d:av),imm d=true->Rep K H B v d->Rep K H B' v d
 |v,.none,_,r=>r
 |v,.bool b,_,r=>r
 |v,.int i,_,r=>r
 |v,.str x,_,r=>r
 |v,.tuple ds,i,r=>by obtain⟨a,vs,e,h,q⟩:=r;exact⟨a,vs,e,h,Reps.immB ds (i) q⟩
 |v,.list ds,i,r=>by cases(show false=true from i)
 |v,.dict es,i,r=>by cases(show false=true from i)
theorem Reps.immB:∀{vs:List V} (ds:List av),imms ds=true->Reps K H B vs ds->Reps K H B' vs ds
 |vs,[],_,r=>r
 |vs,d::ds,i,r=>by have i:=bp.mp (show(imm d&&imms ds)=true from i);obtain⟨v,t,e,h,q⟩:=r;exact⟨v,t,e,Rep.immB d i.1 h,Reps.immB ds i.2 q⟩
end
mutual
theorem Rep.immK (hH:∀a o,H a=some o->Fix o->H' a=some o):∀{v:V} (d:av),imm d=true->Rep K H B v d->Rep K H' B' v d
 |v,.none,_,r=>r
 |v,.bool b,_,r=>r
 |v,.int i,_,r=>r
 |v,.str x,_,r=>r
 |v,.tuple ds,i,r=>by obtain⟨a,vs,e,h,q⟩:=r;exact⟨a,vs,e,h.keep (B:=fun _=>False) (fun a o e f=>hH a o e (f.resolve_left id)),Reps.immK hH ds (i) q⟩
 |v,.list ds,i,r=>by cases(show false=true from i)
 |v,.dict es,i,r=>by cases(show false=true from i)
theorem Reps.immK (hH:∀a o,H a=some o->Fix o->H' a=some o):∀{vs:List V} (ds:List av),imms ds=true->Reps K H B vs ds->Reps K H' B' vs ds
 |vs,[],_,r=>r
 |vs,d::ds,i,r=>by have i:=bp.mp (show(imm d&&imms ds)=true from i);obtain⟨v,t,e,h,q⟩:=r;exact⟨v,t,e,Rep.immK hH d i.1 h,Reps.immK hH ds i.2 q⟩
end
theorem Reps.length:∀{vs:List V} {ds:List D},Reps K H B vs ds->vs.length=ds.length
 |vs,[],r=>by have e:vs=[]:=r;subst e;rfl
 |vs,d::ds,r=>by obtain⟨v,t,e,h,q⟩:=r;subst e;rw[bq,bq,q.length]
theorem Reps.get:∀{vs:List V} {ds:List D} {i:Nat} {d:D},Reps K H B vs ds->ds[i]?=some d->∃v,vs[i]?=some v/\Rep K H B v d
 |vs,[],i,d,r,e=>by simp at e
 |vs,d0::ds,0,d,r,e=>by
  obtain⟨v,t,e1,h,q⟩:=r;subst e1;have:d0=d:=by simpa using e
  subst this;exact⟨v,rfl,h⟩
 |vs,d0::ds,i+1,d,r,e=>by obtain⟨v,t,e1,h,q⟩:=r;subst e1;obtain⟨u,h1,h2⟩:=q.get (i:=i) (d:=d) (by simpa using e);exact⟨u,by simpa using h1,h2⟩
theorem Reps.getV:∀{vs:List V} {ds:List D} {i:Nat} {v:V},Reps K H B vs ds->vs[i]?=some v->∃d,ds[i]?=some d/\Rep K H B v d
 |vs,[],i,v,r,e=>by have e1:vs=[]:=r;subst e1;simp at e
 |vs,d0::ds,0,v,r,e=>by
  obtain⟨u,t,e1,h,q⟩:=r;subst e1;have:u=v:=by simpa using e
  subst this;exact⟨d0,rfl,h⟩
 |vs,d0::ds,i+1,v,r,e=>by obtain⟨u,t,e1,h,q⟩:=r;subst e1;obtain⟨d,h1,h2⟩:=q.getV (i:=i) (v:=v) (by simpa using e);exact⟨d,by simpa using h1,h2⟩
theorem Reps.cons {v:V}{d:D}{vs:List V}{ds:List D}(h:Rep K H B v d)(r:Reps K H B vs ds):Reps K H B (v::vs) (d::ds):=⟨v,vs,rfl,h,r⟩
theorem Reps.append:∀{vs ws:List V} {ds es:List D},Reps K H B vs ds->Reps K H B ws es->Reps K H B (vs++ws) (ds++es)
 |vs,ws,[],es,r,q=>by have e:vs=[]:=r;subst e;exact q
 |vs,ws,d::ds,es,r,q=>by obtain⟨v,t,e,h,p⟩:=r;subst e;exact⟨v,t++ws,rfl,h,p.append q⟩
theorem Reps.take:∀{vs:List V} {ds:List D} (n:Nat),Reps K H B vs ds->Reps K H B (vs.take n) (ds.take n)
 |vs,ds,0,r=>by rw[List.take_zero,List.take_zero];exact rfl
 |vs,[],n+1,r=>by have e:vs=[]:=r;subst e;exact rfl
 |vs,d::ds,n+1,r=>by obtain⟨v,t,e,h,p⟩:=r;subst e;exact⟨v,t.take n,rfl,h,p.take n⟩
theorem Reps.drop:∀{vs:List V} {ds:List D} (n:Nat),Reps K H B vs ds->Reps K H B (vs.drop n) (ds.drop n)
 |vs,ds,0,r=>r
 |vs,[],n+1,r=>by have e:vs=[]:=r;subst e;exact rfl
 |vs,d::ds,n+1,r=>by obtain⟨v,t,e,h,p⟩:=r;subst e;exact p.drop n
theorem Reps.set {v:V}{d:D}(h:Rep K H B v d):∀{vs:List V} {ds:List D} (n:Nat),Reps K H B vs ds->Reps K H B (vs.set n v) (ds.set n d)
 |vs,[],n,r=>by have e:vs=[]:=r;subst e;exact rfl
 |vs,d::ds,0,r=>by obtain⟨u,t,e,_,p⟩:=r;subst e;exact⟨_,_,rfl,h,p⟩
 |vs,d::ds,n+1,r=>by obtain⟨u,t,e,h0,p⟩:=r;subst e;exact⟨_,_,rfl,h0,p.set h n⟩
mutual
theorem Rep.there:∀{v:V} (d:av),Rep K H B v d->Rep K H (fun a=>B a/\¬nw H a) v d
 |v,.none,r=>r
 |v,.bool b,r=>r
 |v,.int i,r=>r
 |v,.str x,r=>r
 |v,.tuple ds,r=>by obtain⟨a,vs,e,h,q⟩:=r;exact⟨a,vs,e,h,Reps.there ds q⟩
 |v,.list ds,r=>by
  obtain⟨a,vs,e,h,q⟩:=r;refine⟨a,vs,e,?_,Reps.there ds q⟩;rcases h with⟨h,b⟩|h
  ·refine .inl ⟨h,b,fun z=>?_⟩;have z':H a=none:=z;rw[h]at z';cases z'
  ·exact .inr ⟨h.1,h.2,fun z=>z⟩
 |v,.dict es,r=>by obtain⟨a,kvs,e,h,b,q⟩:=r;exact⟨a,kvs,e,h,⟨b,fun z=>by have z':H a=none:=z;rw[h]at z';cases z'⟩,REs.there es q⟩
theorem Reps.there:∀{vs:List V} (ds:List av),Reps K H B vs ds->Reps K H (fun a=>B a/\¬nw H a) vs ds
 |vs,[],r=>r
 |vs,d::ds,r=>by obtain⟨v,t,e,h,q⟩:=r;exact⟨v,t,e,Rep.there d h,Reps.there ds q⟩
theorem REs.there:∀{kvs:List (Key×V)} (es:List (av×av)),REs K H B kvs es->REs K H (fun a=>B a/\¬nw H a) kvs es
 |kvs,[],r=>r
 |kvs,(kd,d)::es,r=>by obtain⟨k,v,t,e,e2,ok,h,q⟩:=r;exact⟨k,v,t,e,e2,ok,Rep.there d h,REs.there es q⟩
end
end
structure Fm where
 H0:Hp
 V:Addr->Prop
 O:Addr->Option Nat
def Bin (F:Fm):Ad->Prop
 |some a=>F.O a=none/\F.H0 a=none/\F.V a
 |none=>False
def visA (F:Fm):Ad->Prop
 |some a=>F.V a
 |none=>True
def oldA (F:Fm):Ad->Prop
 |some a=>F.H0 a≠none/\F.V a
 |none=>True
def Slot (K:W.Frag)(F:Fm)(H:Hp)(i:Nat):G->V->D->Prop
 |.fr,v,d=>∃p,v=.ref p/\F.O p=some i/\((∃vs ds,d=.list ds/\H p=some (.lst vs)/\Reps K H (Bin F) vs ds)\/(∃kvs es,d=.dict es/\H p=some (.dK kvs)/\REs K H (Bin F) kvs es))
 |.od,v,d=>Rep K H (oldA F) v d
 |.al,v,d=>Rep K H (visA F) v d
structure StOk (K:W.Frag)(F:Fm)(H:Hp)(σ:L2.St)(ρ:Rho):Prop where
 ext:Same F.H0 H
 vis:∀a,H a=none->F.V a
 own:∀a i,F.O a=some i->F.H0 a=none/\F.V a/\((∃xs,H a=some (.lst xs))\/∃kvs,H a=some (.dK kvs))
 len:σ.length=ρ.length
 sl:∀i g d,ρ[i]?=some (some (g,d))->∃v,σ[i]?=some (some v)/\Slot K F H i g v d
def BG (F:Fm)(H:Hp):G->Ad->Prop
 |.fr=>nw H
 |.od=>oldA F
 |.al=>visA F
section
variable {K:W.Frag}{F:Fm}{H H':Hp}{σ:L2.St}{ρ:Rho}
theorem Slot.same {i:Nat}{g:G}{v:V}{d:D}(s:Same H H')(h:Slot K F H i g v d):Slot K F H' i g v d:=by
 cases g with
 |fr=>
  obtain⟨p,e,o,h⟩:=h;refine⟨p,e,o,?_⟩;rcases h with⟨vs,ds,e1,e2,r⟩|⟨vs,ds,e1,e2,r⟩
  ·exact .inl ⟨vs,ds,e1,s _ _ e2,r.same s fun _ b=>b⟩
  ·exact .inr ⟨vs,ds,e1,s _ _ e2,r.same s fun _ b=>b⟩
 |od=>exact Rep.same s (fun _ b=>b) h
 |al=>exact Rep.same s (fun _ b=>b) h
theorem _root_.L2.Same.none {a:Addr}(s:Same H H')(h:H' a=none):H a=none:=by
 cases e:H a with
 |none=>rfl
 |some o=>rw[s a o e]at h;cases h
theorem StOk.same (s:Same H H')(h:StOk K F H σ ρ):StOk K F H' σ ρ where
 ext:=fun a o e=>s a o (h.ext a o e)
 vis:=fun a e=>h.vis a (s.none e)
 own:=fun a i e=>by
  obtain⟨h1,h3,h2⟩:=h.own a i e;refine⟨h1,h3,?_⟩;rcases h2 with⟨xs,h2⟩|⟨xs,h2⟩
  ·exact .inl ⟨xs,s _ _ h2⟩
  ·exact .inr ⟨xs,s _ _ h2⟩
 len:=h.len
 sl:=fun i g d e=>by obtain⟨v,h1,h2⟩:=h.sl i g d e;exact⟨v,h1,h2.same s⟩
theorem nw.back {a:Ad}(s:Same H H')(h:nw H' a):nw H a:=by
 cases a with
 |none=>exact h
 |some a=>exact s.none h
theorem nw.vis {a:Ad}(hv:∀a,H a=none->F.V a)(h:nw H a):visA F a:=by
 cases a with
 |none=>exact h.elim
 |some a=>exact hv a h
theorem oldA.vis {a:Ad}(h:oldA F a):visA F a:=by
 cases a with
 |none=>exact h
 |some a=>exact h.2
theorem Bin.vis {a:Ad}(h:Bin F a):visA F a:=by
 cases a with
 |none=>exact h.elim
 |some a=>exact h.2.2
theorem BG.back {g:G}{a:Ad}(s:Same H H')(h:BG F H' g a):BG F H g a:=by
 cases g with
 |fr=>exact nw.back s h
 |od=>exact h
 |al=>exact h
theorem BG.vis {g:G}{a:Ad}(hv:∀a,H a=none->F.V a)(h:BG F H g a):visA F a:=by
 cases g with
 |fr=>exact nw.vis hv h
 |od=>exact oldA.vis h
 |al=>exact h
theorem Slot.rep {i:Nat}{g:G}{v:V}{d:D}(so:∀a i,F.O a=some i->F.V a)(h:Slot K F H i g v d):Rep K H (visA F) v d:=by
 cases g with
 |fr=>
  obtain⟨p,e,o,h⟩:=h;rcases h with⟨vs,ds,rfl,e2,r⟩|⟨vs,ds,rfl,e2,r⟩
  ·exact⟨p,vs,e,.inl ⟨e2,so _ _ o⟩,r.weak fun _ b=>b.vis⟩
  ·exact⟨p,vs,e,e2,so _ _ o,REs.same (fun _ _ e=>e) (fun _ b=>b.vis) r⟩
 |od=>exact Rep.weak (fun _ b=>b.vis) h
 |al=>exact h
theorem StOk.ownV (h:StOk K F H σ ρ):∀a i,F.O a=some i->F.V a:=fun a i e=>(h.own a i e).2.1
theorem StOk.rd (h:StOk K F H σ ρ){i:Nat}{x:GD}(e:rdS ρ[i]?=.ok x):∃v,σ[i]?=some (some v)/\Rep K H (BG F H x.1) v x.2:=by
 cases e1:ρ[i]? with
 |none=>rw[e1]at e;cases e
 |some o=>
  cases o with
  |none=>rw[e1]at e;cases e
  |some gd=>
   obtain⟨g,d⟩:=gd;rw[e1]at e;obtain⟨v,h1,h2⟩:=h.sl i g d e1;have e':x=(if imm d then .fr else rdG g,d):=(Res.ok.inj e).symm;subst e';refine⟨v,h1,?_⟩;by_cases hi:imm d=true
   ·show Rep K H (BG F H (if imm d=true then _ else _)) v d;rw[if_pos hi];exact Rep.immB d hi (h2.rep h.ownV)
   ·show Rep K H (BG F H (if imm d=true then _ else _)) v d;rw[if_neg hi];cases g with
    |fr=>exact h2.rep h.ownV
    |od=>exact h2
    |al=>exact h2
end
structure Gm where
 N:List Str
 sc:Scope
 blk:Bool:=false
 free:List Str
 fns:List (Str×Nat)
 cst:List Str
 cm:Bool:=true
 xc:Option (Str×Str):=none
 sub:List (Str×Str×Bool):=[]
 rs:List Str:=[]
 hnd:List (Str×Str):=[]
section
variable (Γ:Gm)
def visB (i:Nat)(x:Str):Bool:=(Γ.N[i]?==some x)&&(Γ.sc.names.lookup x==some .local||Γ.sc.names.lookup x==some .cell||Γ.sc.names.lookup x==some .free)&& !(x==("__debug__":Str))&& !(x==("__classdict__":Str))
def glB (x:Str):Bool:=(Γ.sc.names.lookup x==some .globalImplicit)&& !(x==("__debug__":Str))
def bltB (x:Str):Bool:=glB Γ x&&Γ.free.contains x&& !(x==("__name__":Str))
def locB (i:Nat)(x:Str):Bool:=(Γ.N[i]?==some x)&&(Γ.sc.names.lookup x==some .local||(!Γ.blk&&Γ.sc.names.lookup x==some .cell))
end
def tgIx:Tg->List Nat
 |.nm i=>[i]
 |.tp is=>is
def zkq (scope sc:Scope):Scope:={scope with names:=scope.names.map fun(n,k)=>if(k==.free&&sc.kind==.function&&sc.names.lookup n==some .cell)then(n,.cell)else(n,k)}
def plainT:Expr->Bool
 |.UnaryOp .Not _ _=>false
 |.BoolOp _ _ _=>false
 |.IfExp _ _ _ _=>false
 |.Compare _ _ _ _=>false
 |_=>true
def zig:Expr->Bool
 |.Compare _ _ _ _=>true
 |_=>false
def z5q:Expr->Bool
 |.Slice _ _ _ _=>false
 |_=>true
def z8y:Expr->Bool
 |.Call (.Name _ _) [] [] _=>false
 |_=>true
def zf5:Expr->Bool
 |.Set _ _ _=>false
 |_=>true
def isTup:Expr->Bool
 |.Tuple _ _ _=>true
 |_=>false
def vNm:Expr->Option Str
 |.Name x _=>some x
 |_=>none
def vCst:Expr->Option Const
 |.Constant v _ _=>some v
 |_=>none
def vBin:Expr->Option (Expr×kq×Expr)
 |.BinOp l o r _=>some (l,o,r)
 |_=>none
def vUn:Expr->Option (UnaryOp×Expr)
 |.UnaryOp o x _=>some (o,x)
 |_=>none
def vCm:Expr->Option (Expr×List CmpOp×List Expr)
 |.Compare l o r _=>some (l,o,r)
 |_=>none
def vBo:Expr->Option (BoolOp×List Expr×Pos)
 |.BoolOp o xs p=>some (o,xs,p)
 |_=>none
def vIfE:Expr->Option (Expr×Expr×Expr)
 |.IfExp t x y _=>some (t,x,y)
 |_=>none
def vTup:Expr->Option (List Expr)
 |.Tuple es _ _=>some es
 |_=>none
def vLst:Expr->Option (List Expr)
 |.List es _=>some es
 |_=>none
def vDi:Expr->Option (List (Option Expr)×List Expr)
 |.Dict k v _=>some (k,v)
 |_=>none
def vSub:Expr->Option (Expr×Expr)
 |.Subscript x i _=>some (x,i)
 |_=>none
def vSli:Expr->Option (Option Expr×Option Expr×Option Expr)
 |.Slice l h s _=>some (l,h,s)
 |_=>none
def vCa:Expr->Option (Expr×List Expr×List pq×Pos)
 |.Call f es k p=>some (f,es,k,p)
 |_=>none
def vAt:Expr->Option (Expr×Str×Pos)
 |.Attribute x n p=>some (x,n,p)
 |_=>none
def vLC:Expr->Option (Expr×List kr×Scope)
 |.ListComp el gs s _=>some (el,gs,s)
 |_=>none
def vOne {α:Type}:List α->Option α
 | [x]=>some x
 |_=>none
def vTwo {α:Type}:List α->Option (α×α)
 | [x,y]=>some (x,y)
 |_=>none
def z2z (e:Expr):Option (Str×List Expr):=(vCa e).bind fun v=>if v.2.2.1.isEmpty then(vNm v.1).map fun x=>(x,v.2.1)else none
def vMt (e:Expr):Option (Expr×Str×List Expr×Bool):=(vCa e).bind fun v=>if v.2.2.1.isEmpty then(vAt v.1).map fun u=>(u.1,u.2.1,v.2.1,u.2.2.endLine==v.2.2.2.line)else none
def zd9 (f g:Expr->Bool)(o:BoolOp)(p:Pos):List Expr->Bool
 |x::y::r=>f x&&(if r.isEmpty then g y else g (.BoolOp o (y::r) p))
 |_=>false
def ifsB (n:Bool)(f:Expr->Bool):List Expr->Bool
 | []=>n
 |t::r=>r.isEmpty&&f t
def isNl:C->Bool
 |.nil=>true
 |_=>false
def hd1 (f:Str->Bool)(e:Expr):Bool:=(vNm e).any f
def zla (Γ:Gm):List Nat->List Expr->Bool
 | [],es=>es.isEmpty
 |i::is,es=>match es with|e::es=>hd1 (locB Γ i) e&&zla Γ is es| []=>false
def zgo (Γ:Gm):Tg->Expr->Bool
 |.nm i,e=>hd1 (locB Γ i) e
 |.tp is,e=>Γ.cm&&(vTup e).any (zla Γ is)
def zmn:kq->Bool
 |.Add|.Sub|.Mult|.FloorDiv|.Mod|.Pow=>true
 |_=>false
def zeg:CmpOp->Bool
 |.Is|.IsNot|.LtE|.GtE=>false
 |_=>true
def okTy (T:String):Bool:=tysB.contains T
def tyB (Γ:Gm)(T:String)(t:Expr):Bool:=hd1 (fun x=>(x==Str.ofString T)&&bltB Γ x&&okTy T) t
def aggs:List String:=["list","tuple","sorted","sum","dict"]
def tgN:Tg->Bool
 |.nm _=>true
 |.tp _=>false
def isNm:Expr->Bool
 |.Name _ _=>true
 |_=>false
def zmc:C->Expr->Bool
 |.enum _,e=>isTup e
 |.zip _ _,e=>isTup e||isNm e
 |_,_=>true
mutual
def chkE (Γ:Gm):C->Expr->Bool
 |.var i,e=>hd1 (visB Γ i) e
 |.non,e=>decide (vCst e=some .none)
 |.bl b,e=>decide (vCst e=some (.bool b))
 |.int i,e=>decide (vCst e=some (.int i))
 |.str x,e=>decide (vCst e=some (.str x))&&PyData.strOk x
 |.glob _ _,_=>false
 |.bin op a b,e=>(vBin e).any fun v=>decide (op=v.2.1)&&zmn op&&chkE Γ a v.1&&chkE Γ b v.2.2
 |.cmp op a b,e=>(vCm e).any fun v=>decide (v.2.1=[op])&&(vOne v.2.2).any fun r=>zeg op&& !(gi op r)&&chkE Γ a v.1&&chkE Γ b r
 |.isN ng a,e=>(vCm e).any fun v=>decide (v.2.1=[if ng then .IsNot else .Is])&&(vOne v.2.2).any fun r=>decide (vCst r=some .none)&&chkE Γ a v.1
 |.and a b,e=>(vBo e).any fun v=>decide (v.1=.And)&&zd9 (fun x=>chkE Γ a x) (fun x=>chkE Γ b x) .And v.2.2 v.2.1
 |.or a b,e=>(vBo e).any fun v=>decide (v.1=.Or)&&zd9 (fun x=>chkE Γ a x) (fun x=>chkE Γ b x) .Or v.2.2 v.2.1
 |.not a,e=>(vUn e).any fun v=>decide (v.1=.Not)&&chkE Γ a v.2
 |.ife c a b,e=>(vIfE e).any fun v=>chkT Γ c v.1&&chkE Γ a v.2.1&&chkE Γ b v.2.2
 |.tup xs,e=>(vTup e).any fun es=>decide (es.length<=1000)&&chkA Γ xs es
 |.lst xs,e=>(vLst e).any fun es=>decide (es.length<=1000)&&chkA Γ xs es
 |.rep xs b,e=>(vBin e).any fun v=>decide (v.2.1=.Mult)&&(vLst v.1).any fun es=>decide (es.length<=1000)&&chkA Γ xs es&&chkE Γ b v.2.2
 |.dnew,e=>(vDi e).any fun v=>v.1.isEmpty&&v.2.isEmpty
 |.ix a b,e=>(vSub e).any fun v=>z5q v.2&&chkE Γ a v.1&&chkE Γ b v.2
 |.sl a lo hi,e=>(vSub e).any fun v=>(vSli v.2).any fun s=>s.2.2.isNone&&chkE Γ a v.1&&chkO Γ lo s.1&&chkO Γ hi s.2.1
 |.call k f args,e=>(z2z e).any fun v=>(Γ.cm&&(v.1==f))&&glB Γ v.1&&(Γ.fns[k]?==some (f,v.2.length))&&chkA Γ args v.2&& !v.2.isEmpty
 |.lset a,e=>(z2z e).any fun v=>(v.1==("len":Str))&&(Γ.cm&&bltB Γ v.1)&&(vOne v.2).any fun y=>!isStar y&&(z2z y).any fun u=>(u.1==("set":Str))&&bltB Γ u.1&&(vOne u.2).any fun z=>!isStar z&&chkE Γ a z
 |.bi f args,e=>(z2z e).any fun v=>(v.1==Str.ofString f)&&bltB Γ v.1&&((["len","max","min","int"].contains f)&&(Γ.cm||f=="int"))&&chkA Γ args v.2&& !v.2.isEmpty
 |.agg f a,e=>(z2z e).any fun v=>(v.1==Str.ofString f)&&bltB Γ v.1&&(aggs.contains f&&Γ.cm)&&(vOne v.2).any fun y=>!isStar y&&chkG Γ a y
 |.isT a ts,e=>(z2z e).any fun v=>(v.1==("isinstance":Str))&&bltB Γ v.1&&(vTwo v.2).any fun y=>!isStar y.1&&chkE Γ a y.1&&(vOne ts).any fun T=>tyB Γ T y.2
 |.mt m o args,e=>(vMt e).any fun v=>((v.2.1==Str.ofString m)&& ["get","join"].contains m&&z8y v.1&&v.2.2.2&&decide (v.2.2.1.length<20))&&chkE Γ o v.1&&chkA Γ args v.2.2.1&& !v.2.2.1.isEmpty
 |.comp nt js N' tg it cond elt,e=>(vLC e).any fun v=>(vOne v.2.1).any fun g=>let Γ':Gm:={Γ with N:=N',sc:=zkq v.2.2 Γ.sc,blk:=true,xc:=none}
  ((Γ.cm&&(g.is_async==0))&&(tgIx tg).all (fun i=>decide (i<nt))&&blkB Γ.N Γ.sc v.2.2 N' nt js&&zf5 g.iter&&decide N'.Nodup)&&(zgo Γ' tg g.target&&zmc it g.target)&&chkW Γ it g.iter&&ifsB (isNl cond) (fun t=>chkT Γ' cond t) g.ifs&&chkE Γ' elt v.1
 |.sortI i,e=>(z2z e).any fun v=>(Γ.cm&&(v.1==("sorted":Str)))&&bltB Γ v.1&&(vOne v.2).any fun y=>(vMt y).any fun m=>hd1 (visB Γ i) m.1&&(m.2.1==("items":Str))&&m.2.2.1.isEmpty&&m.2.2.2
 |.isE b x,e=>(z2z e).any fun v=>(v.1==("isinstance":Str))&&bltB Γ v.1&&(vTwo v.2).any fun y=>Γ.xc.any fun z=>hd1 (fun n=>(n==z.1)&&(Γ.sc.names.lookup n==some .local)&& !(n==("__debug__":Str))&& !(n==("__classdict__":Str))) y.1&&hd1 (fun C=>(C==x)&&glB Γ C&&Γ.sub.contains (z.2,x,b)) y.2
 |.rng _,_=>false
 |.enum _,_=>false
 |.zip _ _,_=>false
 |.tv _,_=>false
 |.nil,_=>false
 |.cons _ _,_=>false
def chkT (Γ:Gm):C->Expr->Bool
 |.and a b,e=>(vBo e).any fun v=>decide (v.1=.And)&&zd9 (fun x=>chkT Γ a x) (fun x=>chkT Γ b x) .And v.2.2 v.2.1
 |.or a b,e=>(vBo e).any fun v=>decide (v.1=.Or)&&zd9 (fun x=>chkT Γ a x) (fun x=>chkT Γ b x) .Or v.2.2 v.2.1
 |.not a,e=>(vUn e).any fun v=>decide (v.1=.Not)&&chkT Γ a v.2
 |.tv a,e=>(plainT e||zig e)&&chkE Γ a e
 |_,_=>false
def chkA (Γ:Gm):C->List Expr->Bool
 |.nil,es=>es.isEmpty
 |.cons a r,es=>match es with|e::es=>!isStar e&&chkE Γ a e&&chkA Γ r es|_=>false
 |_,_=>false
def chkO (Γ:Gm):C->Option Expr->Bool
 |.nil,e=>e.isNone
 |.tv a,e=>e.any fun e=>chkE Γ a e
 |_,_=>false
def chkW (Γ:Gm):C->Expr->Bool
 |.rng args,e=>(z2z e).any fun v=>(v.1==("range":Str))&&bltB Γ v.1&&chkA Γ args v.2&&(!v.2.isEmpty&&decide (v.2.length<=1))
 |.tv a,e=>zf5 e&&chkE Γ a e
 |.enum a,e=>(z2z e).any fun v=>(v.1==("enumerate":Str))&&bltB Γ v.1&&(vOne v.2).any fun y=>!isStar y&&chkE Γ a y
 |.zip a b,e=>(z2z e).any fun v=>(v.1==("zip":Str))&&bltB Γ v.1&&(vTwo v.2).any fun y=>(!isStar y.1&& !isStar y.2)&&chkE Γ a y.1&&chkE Γ b y.2
 |_,_=>false
def chkG (Γ:Gm):C->Expr->Bool
 |.tv a,e=>chkE Γ a e
 |_,_=>false
end
def isCI:C->Bool
 |_=>false
def chkF (Γ:Gm)(it:C)(tg ie:Expr):Bool:=zmc it tg&&chkW Γ it ie
def vAs:Stmt->Option (List Expr×Expr)
 |.Assign t v _=>some (t,v)
 |_=>none
def vEx:Stmt->Option Expr
 |.Expr v _=>some v
 |_=>none
def vRt:Stmt->Option (Option Expr)
 |.Return v _=>some v
 |_=>none
def vIf:Stmt->Option (Expr×List Stmt×List Stmt)
 |.If t A B _=>some (t,A,B)
 |_=>none
def vFo:Stmt->Option (Expr×Expr×List Stmt×List Stmt)
 |.For t i B o _=>some (t,i,B,o)
 |_=>none
def vWh:Stmt->Option (Expr×List Stmt×List Stmt)
 |.While t B o _=>some (t,B,o)
 |_=>none
def vRa:Stmt->Option (Str×List Expr)
 |.Raise (some c) none _=>z2z c
 |_=>none
def zrt (e:Expr):Bool:=(vCst e).any fun k=>match k with|.str x=>PyData.strOk x|_=>false
def vEh:ExceptHandler->Option (Str×Str×List Stmt)
 |.ExceptHandler (some (.Name x _)) (some n) b _=>some (x,n,b)
 |_=>none
def vTr:Stmt->Option (Str×List Expr×Str×Str×List Stmt)
 |.Try [.Expr c _] [h] [] [] _=>(z2z c).bind fun v=>(vEh h).map fun u=>(v.1,v.2,u)
 |_=>none
mutual
def chk1 (Γ:Gm):S->Stmt->Bool
 |.asg t e,s=>(vAs s).any fun u=>(vOne u.1).any fun x=>zgo Γ t x&& !isCI e&&(tgN t||(!z21 u.2&& !isTup u.2))&&chkE Γ e u.2
 |.setIx i k v,s=>(vAs s).any fun u=>(vOne u.1).any fun x=>(vSub x).any fun w=>hd1 (visB Γ i) w.1&&z5q w.2&& !z21 u.2&&chkE Γ k w.2&&chkE Γ v u.2
 |.mut m i args,s=>(vEx s).any fun c=>(vMt c).any fun v=>(hd1 (visB Γ i) v.1&&(v.2.1==Str.ofString m)&& ["append"].contains m&&v.2.2.2&&decide (v.2.2.1.length<20))&& !v.2.2.1.isEmpty&&chkA Γ args v.2.2.1
 |.drop e,s=>(vEx s).any fun v=>!z21 v&&chkE Γ e v
 |.ret e,s=>(vRt s).any fun o=>o.any fun v=>chkE Γ e v
 |.ifS c a b,s=>(vIf s).any fun v=>chkT Γ c v.1&&chkL Γ a v.2.1&&chkL Γ b v.2.2
 |.for_ t it b,s=>Γ.cm&&(vFo s).any fun v=>zgo Γ t v.1&&chkF Γ it v.1 v.2.1&&chkL Γ b v.2.2.1&&v.2.2.2.isEmpty
 |.wh _ c b,s=>(vWh s).any fun v=>chkT Γ c v.1&&chkL Γ b v.2.1&&v.2.2.isEmpty
 |.rse c,s=>(vRa s).any fun v=>(v.1==c)&&glB Γ c&&Γ.rs.contains c&&Γ.cm&&(vOne v.2).any zrt
 |.nil,_=>false
 |.seq _ _,_=>false
def chkL (Γ:Gm):S->List Stmt->Bool
 |.nil,l=>l.isEmpty
 |.seq a b,l=>match l with|s::r=>chk1 Γ a s&&chkL Γ b r|_=>false
 |_,_=>false
end
def tD (K:W.Frag)(f:Rho->Res GD):TE:=fun σ H Q=>∃ρ F x,StOk K F H σ ρ/\f ρ=.ok x/\∀v H',Same H H'->Rep K H' (BG F H x.1) v x.2->Q v H'
def tDT (K:W.Frag)(f:Rho->Res Bool):TT:=fun σ H Q=>∃ρ F b,StOk K F H σ ρ/\f ρ=.ok b/\∀H',Same H H'->Q b H'
def tDO (K:W.Frag)(f:Rho->Res (Option Int)):TO:=fun σ H Q=>∃ρ F b,StOk K F H σ ρ/\f ρ=.ok b/\∀H',Same H H'->Q b H'
def RGs (K:W.Frag)(F:Fm)(H H':Hp):List V->List GD->Prop
 |vs,[]=>vs=[]
 |vs,x::xs=>∃v r,vs=v::r/\Rep K H' (BG F H x.1) v x.2/\RGs K F H H' r xs
def tDA (K:W.Frag)(f:Rho->Res (List GD)):TA:=fun σ H Q=>∃ρ F xs,StOk K F H σ ρ/\f ρ=.ok xs/\∀vs H',Same H H'->RGs K F H H' vs xs->Q vs H'
theorem _root_.L2.PE.imp {X:Cx}{e:Expr}{t t':TE}(h:PE X e t)(i:∀σ H Q,t' σ H Q->t σ H Q):PE X e t':=fun pins s σ H Q I q=>h pins s σ H Q I (i σ H Q q)
theorem _root_.L2.PT.imp {X:Cx}{e:Expr}{t t':TT}(h:PT X e t)(i:∀σ H Q,t' σ H Q->t σ H Q):PT X e t':=fun pins s σ H Q I q=>h pins s σ H Q I (i σ H Q q)
theorem _root_.L2.PW.imp {X:Cx}{e:Expr}{t t':TT}(h:PW X e t)(i:∀σ H Q,t' σ H Q->t σ H Q):PW X e t':=fun wh pins s σ H Q I q=>h wh pins s σ H Q I (i σ H Q q)
theorem _root_.L2.PA.imp {X:Cx}{e:List Expr}{t t':TA}(h:PA X e t)(i:∀σ H Q,t' σ H Q->t σ H Q):PA X e t':=fun pos pins s σ H Q I q=>h pos pins s σ H Q I (i σ H Q q)
theorem _root_.L2.PO.imp {X:Cx}{e:Option Expr}{t t':TO}(h:PO X e t)(i:∀σ H Q,t' σ H Q->t σ H Q):PO X e t':=fun pins s σ H Q I q=>h pins s σ H Q I (i σ H Q q)
theorem _root_.L2.PS.imp {X:Cx}{e:Stmt}{t t':TS}(h:PS X e t)(i:∀D σ H,t' D σ H->t D σ H):PS X e t':=fun pins s σ H D I q=>h pins s σ H D I (i D σ H q)
theorem _root_.L2.PSs.imp {X:Cx}{e:List Stmt}{t t':TS}(h:PSs X e t)(i:∀D σ H,t' D σ H->t D σ H):PSs X e t':=fun pins s σ H D I q=>h pins s σ H D I (i D σ H q)
section
variable {K:W.Frag}{F:Fm}{H H1 H':Hp}
theorem RGs.same:∀{vs:List V} {xs:List GD},Same H1 H'->Same H H1->RGs K F H H1 vs xs->RGs K F H H' vs xs
 |vs,[],_,_,r=>r
 |vs,x::xs,s,s0,r=>by obtain⟨v,t,e,h,q⟩:=r;exact⟨v,t,e,h.same s fun _ b=>b,q.same s s0⟩
theorem RGs.back:∀{vs:List V} {xs:List GD},Same H H1->RGs K F H1 H' vs xs->RGs K F H H' vs xs
 |vs,[],_,r=>r
 |vs,x::xs,s,r=>by obtain⟨v,t,e,h,q⟩:=r;exact⟨v,t,e,h.weak fun _ b=>b.back s,q.back s⟩
theorem RGs.reps {B:Ad->Prop}:∀{vs:List V} {xs:List GD},(∀x∈xs,∀a,BG F H x.1 a->B a)->RGs K F H H' vs xs->Reps K H' B vs (xs.map (·.2))
 |vs,[],_,r=>r
 |vs,x::xs,hB,r=>by obtain⟨v,t,e,h,q⟩:=r;exact⟨v,t,e,h.weak (hB x ak),q.reps fun y hy=>hB y (aq _ hy)⟩
theorem RGs.repsV {vs:List V}{xs:List GD}(hv:∀a,H a=none->F.V a)(r:RGs K F H H' vs xs):Reps K H' (visA F) vs (xs.map (·.2)):=r.reps fun _ _ _ h=>h.vis hv
theorem z54 {xs:List GD}{x:GD}{a:Ad}(hv:∀a,H a=none->F.V a)(hx:x∈xs)(h:BG F H x.1 a):BG F H (gAll xs) a:=by
 unfold gAll;by_cases e:(xs.all fun x=>x.1==.fr)=true
 ·rw[if_pos e];have:=(bt.mp e) x hx;have e1:x.1=.fr:=by simpa using this
  rw[e1]at h;exact h
 ·rw[if_neg e];exact h.vis hv
theorem z45 {xs:List GD}{a:Ad}(hv:∀a,H a=none->F.V a)(s:Same H H1)(h:nw H1 a):BG F H (gAll xs) a:=by
 unfold gAll;by_cases e:(xs.all fun x=>x.1==.fr)=true
 ·rw[if_pos e];exact nw.back s h
 ·rw[if_neg e];exact(nw.back s h).vis hv
theorem z34 {B:Ad->Prop}{v:V}{d:D}{g:G}(r:Rep K H' B v d)(h:∀a,B a->BG F H g a):Rep K H' (BG F H (gJ d g)) v d:=by
 unfold gJ;by_cases e:imm d=true
 ·rw[if_pos e];exact Rep.immB d e r
 ·rw[if_neg e];exact r.weak h
end
def rOp (K:W.Frag)(m:D->D->Res D):R2:=fun x y H Q=>∃Bx By dx dy d,Rep K H Bx x dx/\Rep K H By y dy/\m dx dy=.ok d/\∀w H',Same H H'->Rep K H' (fun a=>nw H a\/Bx a\/By a) w d->Q w H'
def OpD (X:Cx)(f:Value->Value->Sem Value)(m:D->D->Res D):Prop:=OpR X f (rOp X.K m)
def rOpN (K:W.Frag)(m:D->D->Res D):R2:=fun x y H Q=>∃Bx By dx dy d,Rep K H Bx x dx/\Rep K H By y dy/\m dx dy=.ok d/\∀w H',Same H H'->Rep K H' (fun a=>nw H a\/Bx a\/By a) w d->(∀ds,d=.list ds->imms ds=true->Rep K H' (nw H) w d)->Q w H'
def OpN (X:Cx)(f:Value->Value->Sem Value)(m:D->D->Res D):Prop:=OpR X f (rOpN X.K m)
theorem _root_.L2.OpR.imp {X:Cx}{f:Value->Value->Sem Value}{r r':R2}(h:OpR X f r)(i:∀x y H Q,r' x y H Q->r x y H Q):OpR X f r':=fun pins s σ H x y v u Q I rx ry q=>h pins s σ H x y v u Q I rx ry (i x y H Q q)
def zas (K:W.Frag)(m:List D->Res D):List V->Hp->VK->Prop:=fun xs H Q=>∃B ds d,Reps K H B xs ds/\m ds=.ok d/\∀w H',Same H H'->Rep K H' (fun a=>nw H a\/B a) w d->Q w H'
theorem _root_.L2.CallR.imp {X:Cx}{f:Value}{r r':List V->Hp->VK->Prop}(h:CallR X f r)(i:∀x H Q,r' x H Q->r x H Q):CallR X f r':=fun pins s σ H x v Q I rx q=>h pins s σ H x v Q I rx (i x H Q q)
theorem z77 {x y:Str}(hx:PyData.strOk x=true)(hy:PyData.strOk y=true):PyData.strOk (x++y)=true:=by
 unfold PyData.strOk at *
 show(x.cps++y.cps).all _=true;rw[Array.all_append,hx,hy];rfl
theorem z17 {x:Str}:PyData.strOk x=true↔∀c∈x.cps.toList,c<0x110000:=by unfold PyData.strOk;rw[<-Array.all_toList];rw[bt];exact⟨fun h c hc=>by simpa using h c hc,fun h c hc=>by simpa using h c hc⟩
theorem z7u {c:Nat}{x:Str}(hx:PyData.strOk x=true)(hc:c∈x.cps.toList):PyData.strOk ⟨#[c]⟩=true:=
 z17.mpr fun d hd=>by
  have e:d=c:=by simpa using hd
  rw[e];exact z17.mp hx c hc
theorem z0q {n:Nat}(h:n<=LIM):n<=bh:=b6 h (by rw[dr];unfold LIM;decide)
theorem _root_.L2.SqT.rel {K:W.Frag}{H H':Hp}{a:Addr}{xs:List V}(s:Same H H')(h:SqT K H a xs):SqT K H' a xs:=h.keep (B:=fun _=>True) fun a o e _=>s a o e
section
variable {X:Cx}
def zt6 (K:W.Frag):R2:=fun x y H Q=>∃l b xs zs,x=.ref l/\y=.ref b/\SqL K H l xs/\SqL K H b zs/\xs.length+zs.length<=bh/\∀p,H p=none->Q (.ref p) (upd H p (.lst (xs++zs)))
theorem zmr:OpR X (gm .Add) (zt6 X.K):=by
 intro pins s σ H x y v u Q I rx ry h;obtain⟨l,b,xs,zs,rfl,rfl,hH,hB,hz,q⟩:=h;cases rx;cases ry;obtain⟨its,r1,p1,_⟩:=I.list hH;obtain⟨its2,r2,p2,_⟩:=I.list hB;obtain⟨⟨cls,dd,data,sl⟩,n,ho,hc,_,hd⟩:=p1;obtain⟨⟨cls2,dd2,data2,sl2⟩,n2,ho2,hc2,_,hd2⟩:=p2;simp only at hc hd hc2 hd2;subst hc hd hc2 hd2;have hsz:its.toArray.size+its2.toArray.size<=bh:=by rw[aw,aw,<-r1.length,<-r2.length];exact hz
 refine pw ⟨_,ho,rfl⟩ ⟨_,ho2,rfl⟩ noFill_list_add seq_list_add PySem.F.slot_list_add PySem.F.entry_list_add (PySem.F.args_list_add_2 _ _) (list_addW l b its.toArray its2.toArray n n2 dd dd2 sl sl2 hsz) ⟨ho,ho2,?_⟩;have ea:its.toArray++its2.toArray=(its++its2).toArray:=by simp
 rw[ea];exact⟨.ref _,_,I.lnew (t':=s.toks) (r1.append r2) (by rw[az];exact hz),rfl,q _ I.fresh⟩
def zr9 (K:W.Frag):R2:=fun x y H Q=>∃a b ys,x=.ref a/\y=.ref b/\SqT K H a []/\SqT K H b ys/\Q (.ref b) H
theorem zfu:OpR X (gm .Add) (zr9 X.K):=by intro pins s σ H x y v u Q I rx ry h;obtain⟨l,b,zs,rfl,rfl,hH,hB,q⟩:=h;cases rx;cases ry;obtain⟨its,r1,p1,_⟩:=I.tuple hH;obtain⟨its2,r2,p2,_⟩:=I.tuple hB;cases r1;obtain⟨⟨cls,dd,data,sl⟩,ho,hc,n,hd⟩:=p1;obtain⟨⟨cls2,dd2,data2,sl2⟩,ho2,hc2,n2,hd2⟩:=p2;simp only at hc hd hc2 hd2;subst hc hd hc2 hd2;refine pw ⟨_,ho,rfl⟩ ⟨_,ho2,rfl⟩ pc sg PySem.F.slot_tuple_add PySem.F.entry_tuple_add (PySem.F.args_tuple_add_2 _ _) (tuple_addW0 l b _ its2.toArray n n2 dd dd2 sl sl2 (by simp)) ⟨ho,ho2,?_⟩;exact⟨.ref b,H,I,rfl,q⟩
variable {K:W.Frag}{H:Hp}{B:Ad->Prop}{v:V}
theorem z1y {ds:List D}(r:Rep K H B v (.list ds)):∃a vs,v=.ref a/\SqL K H a vs/\Reps K H B vs ds:=by
 obtain⟨a,vs,e,h,q⟩:=r;refine⟨a,vs,e,?_,q⟩;rcases h with⟨h,_⟩|⟨h|h,_⟩
 ·exact .inl (.inl h)
 ·exact .inl (.inr h)
 ·exact .inr h
theorem z1t {p:Addr}{vs:List V}{ds:List D}{B':Ad->Prop}(hp:H p=none)(r:Reps K H B vs ds)(hB:∀a,B a->B' a)(hb:B' (some p)):Rep K (upd H p (.lst vs)) B' (.ref p) (.list ds):=⟨p,vs,rfl,.inl ⟨z0b,hb⟩,r.same (Same.upd hp) hB⟩
theorem z47 {p:Addr}{vs:List V}{ds:List D}{B':Ad->Prop}(hp:H p=none)(r:Reps K H B vs ds)(hB:∀a,B a->B' a):Rep K (upd H p (.tup vs)) B' (.ref p) (.tuple ds):=⟨p,vs,rfl,.inl (.inl z0b),r.same (Same.upd hp) hB⟩
theorem z16 {α:Type}{a:α}(h:(Res.no:Res α)=.ok a):False:=by cases h
theorem zs1:OpN X (gm .Add) (binD .Add):=by
 refine OpR.imp ((zsp.or zmr).or zfu) fun x y H Q h=>?_;obtain⟨Bx,By,dx,dy,d,rx,ry,e,q⟩:=h;cases dx<;>try (exact(z16 e).elim)
 all_goals cases dy<;>try (exact(z16 e).elim)
 case int.int i j=>cases e;have e1:x=.int i:=rx;have e2:y=.int j:=ry;subst e1 e2;exact .inl (.inl (zqw (q _ H (Same.refl H) rfl fun ds z=>by cases z)))
 case str.str i j=>
  have e1:x=.str i:=rx.1;have e2:y=.str j:=ry.1;subst e1 e2;have e:(if i.length+j.length<=LIM then Res.ok (PyData.str (i++j))else Res.no)=Res.ok d:=e;split at e
  ·rename_i hl;cases e;exact .inl (.inl (znx (z0q hl) (q _ H (Same.refl H) ⟨rfl,z77 rx.2 ry.2⟩ fun ds z=>by cases z)))
  ·cases e
 case list.list xs ys=>
  have e:(if xs.length+ys.length<=LIM then Res.ok (PyData.list (xs++ys))else Res.no)=Res.ok d:=e;split at e
  ·rename_i hl;cases e;obtain⟨a,vs,rfl,h1,q1⟩:=z1y rx;obtain⟨b,ws,rfl,h2,q2⟩:=z1y ry;refine .inl (.inr ⟨a,b,vs,ws,rfl,rfl,h1,h2,z0q (by rw[q1.length,q2.length];exact hl),fun p hp=>q _ _ (Same.upd hp) ?_ ?_⟩)
   ·exact z1t hp (Reps.append (q1.weak (B':=fun a=>nw H a\/Bx a\/By a) fun _ z=>.inr (.inl z)) (q2.weak fun _ z=>.inr (.inr z))) (fun _ z=>z) (.inl hp)
   ·intro ds z hi;cases z;exact z1t hp (Reps.immB (B':=nw H) _ hi (Reps.append (q1.weak (B':=fun a=>nw H a\/Bx a\/By a) fun _ z=>.inr (.inl z)) (q2.weak fun _ z=>.inr (.inr z)))) (fun _ z=>z) hp
  ·cases e
 case tuple.tuple xs ys=>
  have e:(if xs.length+ys.length<=LIM then Res.ok (PyData.tuple (xs++ys))else Res.no)=Res.ok d:=e;split at e
  ·rename_i hl;cases e;obtain⟨a,vs,rfl,h1,q1⟩:=rx;obtain⟨b,ws,rfl,h2,q2⟩:=ry;cases vs with
   |nil=>
    have:xs=[]:=by have:=q1.length;exact jl.mp this.symm
    subst this;exact .inr ⟨a,b,ws,rfl,rfl,h1,h2,q _ H (Same.refl H) ⟨b,ws,rfl,h2,q2.weak fun _ z=>.inr (.inr z)⟩ fun ds z=>by cases z⟩
   |cons v0 vr=>
    refine .inl (.inl (.inr (.inr (.inr ⟨a,b,v0::vr,ws,rfl,rfl,h1,h2,by simp,z0q (by rw[q1.length,q2.length];exact hl),fun z=>?_,fun z p hp=>q _ _ (Same.upd hp) ?_ fun ds z=>by cases z⟩))))
    ·subst z;have:ys=[]:=by have:=q2.length;exact jl.mp this.symm
     subst this;rw[d8]at q;exact q _ H (Same.refl H) ⟨a,_,rfl,h1,q1.weak fun _ z=>.inr (.inl z)⟩ fun ds z=>by cases z
    ·exact z47 hp (Reps.append (q1.weak (B':=fun a=>nw H a\/Bx a\/By a) fun _ z=>.inr (.inl z)) (q2.weak fun _ z=>.inr (.inr z))) (fun _ z=>z)
  ·cases e
theorem zh1 {f:Value->Value->Sem Value}{m:D->D->Res D}{Cc:Int->Int->Prop}{g:Int->Int->V}{gd:Int->Int->D}(h:OpR X f (rI Cc g))(hg:∀i j H B,Rep X.K H B (g i j) (gd i j))(hm:∀dx dy d,m dx dy=.ok d->∃i j,dx=.int i/\dy=.int j/\Cc i j/\d=gd i j):OpN X f m:=by refine OpR.imp h fun x y H Q h=>?_;obtain⟨Bx,By,dx,dy,d,rx,ry,e,q⟩:=h;obtain⟨i,j,rfl,rfl,c,rfl⟩:=hm dx dy d e;exact⟨i,j,rx,ry,c,q _ H (Same.refl H) (hg i j _ _) fun _ _ _=>hg i j _ _⟩
theorem zuz {f:Value->Value->Sem Value}{g:Int->Int->V}(h:OpR X f (rI0 g)):OpR X f (rI (fun _ _=>True) g):=OpR.imp h fun x y H Q ⟨i,j,e1,e2,_,q⟩=>⟨i,j,e1,e2,q⟩
theorem zfs:OpR X (gm .FloorDiv) (rI (fun _ j=>0<j/\j<2 ^ 200) fun i j=>.int (i/j)):=opI fun i j _ _ _ _ _ hc q=>by
 refine floordiv_int (by omega) (by rw[Int.fdiv_eq_ediv_of_nonneg i (by omega)];exact q) (.inl (PyProof.noPylong_of_log2 ?_));have h1:j.natAbs≠0:=by omega
 have h2:j.natAbs<2 ^ 200:=by omega
 have h3:=(Nat.log2_lt h1).mpr h2;omega
def zma:R2:=fun x y H Q=>∃a n,x=.str a/\y=.int n/\(0<=n/\n<=LIM/\a.length*n.toNat<=LIM)/\Q (.str ⟨(z0y n.toNat a.cps.toList).toArray⟩) H
theorem ze6 {α:Type}(n:Nat):z0y n ([]:List α)=[]:=by
 unfold z0y
 induction n with
 |zero=>rfl
 |succ n ih=>rw[dm,eu,ih];rfl
theorem z7g (a:Array Nat):∀(k:Nat) (acc:List Nat),(bj k a).foldl (·++·) acc.toArray=(acc++z0y k a.toList).toArray
 |0,acc=>by simp[z0y]
 |k+1,acc=>by
  rw[dm,ky];have e:acc.toArray++a=(acc++a.toList).toArray:=by simp
  rw[e,z7g a k];show(acc++a.toList++z0y k a.toList).toArray=_;rw[gz];rfl
theorem zgt {a:Str}{n:Int}(h:0<=n):Txt.mul a n=⟨(z0y n.toNat a.cps.toList).toArray⟩:=by
 unfold Txt.mul;by_cases h1:n<1
 ·obtain rfl:n=0:=by omega
  rw[if_pos h1];rfl
 ·rw[if_neg h1];split
  ·rename_i h2;rcases km.mp h2 with h2|h2
   ·obtain rfl:n=1:=wg h2;show a=⟨(a.cps.toList++[]).toArray⟩;rw[d8]
   ·have h3:a.cps.size=0:=wg h2;have h4:a.cps.toList=[]:=jl.mp (by rw[db];exact h3);rw[h4,ze6];have h5:a.cps=#[]:=by rw[<-ml (xs:=a.cps),h4]
    cases a;cases h5;rfl
  ·have :=z7g a.cps n.toNat [];rw[List.nil_append]at this;exact congrArg Str.mk this
theorem zga {a:Str}(h:PyData.strOk a=true)(n:Nat):PyData.strOk ⟨(z0y n a.cps.toList).toArray⟩=true:=by unfold PyData.strOk at h ⊢;rw[<-Array.all_toList,bt]at h ⊢;intro c hc;have hc:c∈(bj n a.cps.toList).flatten:=hc;obtain⟨l,hl,hcl⟩:=pe.mp hc;rw[(List.mem_replicate.mp hl).2]at hcl;exact h c hcl
theorem zbd:OpR X (gm .Mult) zma:=by intro pins s σ H x y v u Q I rx ry h;obtain⟨a,n,rfl,rfl,⟨h0,hn,h1⟩,q⟩:=h;obtain⟨t,rfl⟩:=rx;obtain⟨t',rfl⟩:=ry;unfold LIM at hn h1;refine SB.mul (PyProof.Rows.mulOk_of a.length n.toNat (am _) (by omega) (by omega) (by omega) (by omega)) fun t2 k=>?_;rw[zgt h0];exact⟨.str _,H,I.tok _,⟨_,rfl⟩,q⟩
theorem zt3 (op:kq)(h:zmn op=true):OpN X (gm op) (binD op):=by
 cases op<;>try (cases h;done)
 case Add=>exact zs1
 case Sub=>
  refine zh1 (zuz znu) (gd:=fun i j=>.int (i-j)) (fun _ _ _ _=>rfl) fun dx dy d e=>?_;cases dx<;>try (exact(z16 e).elim)
  cases dy<;>try (exact(z16 e).elim)
  cases e;exact⟨_,_,rfl,rfl,trivial,rfl⟩
 case Mult=>
  refine OpR.imp (zp0.or zbd) fun x y H Q h=>?_;obtain⟨Bx,By,dx,dy,d,rx,ry,e,q⟩:=h;cases dx<;>try (exact(z16 e).elim)
  all_goals cases dy<;>try (exact(z16 e).elim)
  case int.int i j=>
   have e:(if(-(2 ^ 64)<i/\i<2 ^ 64)\/(-(2 ^ 64)<j/\j<2 ^ 64)then Res.ok (PyData.int (i*j))else Res.no)=Res.ok d:=e;split at e
   ·rename_i hc;cases e;exact .inl ⟨i,j,rx,ry,hc,q _ H (Same.refl H) rfl fun ds z=>by cases z⟩
   ·cases e
  case str.int a n=>
   have e:(if 0<=n/\n<=LIM/\a.length*n.toNat<=LIM then Res.ok (PyData.str ⟨(z0y n.toNat a.cps.toList).toArray⟩)else Res.no)=Res.ok d:=e;split at e
   ·rename_i hc;cases e;obtain⟨rx1,rx2⟩:=rx;exact .inr ⟨a,n,rx1,ry,hc,q _ H (Same.refl H) ⟨rfl,zga rx2 _⟩ fun ds z=>by cases z⟩
   ·cases e
 case FloorDiv=>
  refine zh1 zfs (gd:=fun i j=>.int (i/j)) (fun _ _ _ _=>rfl) fun dx dy d e=>?_;cases dx<;>try (exact(z16 e).elim)
  cases dy<;>try (exact(z16 e).elim)
  rename_i i j;have e:(if 0<j/\j<2 ^ 200 then Res.ok (PyData.int (i/j))else Res.no)=Res.ok d:=e;split at e
  ·rename_i hc;cases e;exact⟨_,_,rfl,rfl,hc,rfl⟩
  ·cases e
 case Mod=>
  refine zh1 zn7 (gd:=fun i j=>.int (i%j)) (fun _ _ _ _=>rfl) fun dx dy d e=>?_;cases dx<;>try (exact(z16 e).elim)
  cases dy<;>try (exact(z16 e).elim)
  rename_i i j;have e:(if 0<j then Res.ok (PyData.int (i%j))else Res.no)=Res.ok d:=e;split at e
  ·rename_i hc;cases e;exact⟨_,_,rfl,rfl,hc,rfl⟩
  ·cases e
 case Pow=>
  refine zh1 zn6 (gd:=fun i j=>.int (i ^ j.toNat)) (fun _ _ _ _=>rfl) fun dx dy d e=>?_;cases dx<;>try (exact(z16 e).elim)
  cases dy<;>try (exact(z16 e).elim)
  rename_i i j;have e:(if 0<=j/\j<=1000/\i.natAbs<2 ^ 64 then Res.ok (PyData.int (i ^ j.toNat))else Res.no)=Res.ok d:=e;split at e
  ·rename_i hc;cases e;exact⟨_,_,rfl,rfl,⟨hc.1,by omega,hc.2.2⟩,rfl⟩
  ·cases e
end
section
variable {X:Cx}{pins:List (Addr×Obj)}{σ:L2.St}{H:Hp}{s:ac}{B:Ad->Prop}
mutual
theorem Rep.reads (I:Inv X pins σ H s):∀{v:V} {u:Value} (d:av) (n:Nat),shal n d=true->Rep X.K H B v d->RelV v u->(∃as,Reads s.heap u d as)/\d.canLay0=true/\d.depth<=n
 |v,u,.none,n,_,r,q=>by have e:v=.non:=r;subst e;cases q;exact⟨⟨[],.none⟩,by simp only[PyData.canLay0],fu _⟩
 |v,u,.bool b,n,_,r,q=>by have e:v=.bl b:=r;subst e;cases q;exact⟨⟨[],.bool b⟩,by simp only[PyData.canLay0],fu _⟩
 |v,u,.int b,n,_,r,q=>by have e:v=.int b:=r;subst e;obtain⟨t,rfl⟩:=q;exact⟨⟨[],.int b t⟩,by simp only[PyData.canLay0],fu _⟩
 |v,u,.str b,n,_,r,q=>by obtain⟨e,ok⟩:v=.str b/\_:=r;subst e;obtain⟨t,rfl⟩:=q;exact⟨⟨[],.str b t⟩,by simp only[PyData.canLay0];exact ok,fu _⟩
 |v,u,.tuple ds,0,h,r,q=>by cases h
 |v,u,.list ds,0,h,r,q=>by cases h
 |v,u,.tuple ds,n+1,h,r,q=>by obtain⟨a,vs,e,h1,r1⟩:=r;subst e;cases q;obtain⟨its,rv,⟨o,ho,hc,k,hd⟩,_⟩:=I.tuple h1;obtain⟨⟨as,ra⟩,c,dp⟩:=Reps.reads I ds n (h) r1 rv;refine⟨⟨as,.tuple ho hc hd (by simpa using ra)⟩,by simp only[PyData.canLay0];exact c,?_⟩;simp only[PyData.depth];omega
 |v,u,.list ds,n+1,h,r,q=>by obtain⟨a,vs,e,h1,r1⟩:=z1y r;subst e;cases q;obtain⟨its,rv,⟨o,k,ho,hc,_,hd⟩,_⟩:=I.list h1;obtain⟨⟨as,ra⟩,c,dp⟩:=Reps.reads I ds n (h) r1 rv;refine⟨⟨a::as,.list ho hc hd (by simpa using ra)⟩,by simp only[PyData.canLay0];exact c,?_⟩;simp only[PyData.depth];omega
 |v,u,.dict es,n,h,r,q=>by cases n<;>cases h
theorem Reps.reads (I:Inv X pins σ H s):∀{vs:List V} {us:List Value} (ds:List av) (n:Nat),z15 n ds=true->Reps X.K H B vs ds->Vals vs us->(∃as,ReadsAll s.heap us ds as)/\PyData.canLayAll0 ds=true/\PyData.depthAll ds<=n
 |vs,us,[],n,_,r,q=>by have e:vs=[]:=r;subst e;cases q;exact⟨⟨[],.nil⟩,by simp only[PyData.canLayAll0],fu _⟩
 |vs,us,d::ds,n,h,r,q=>by
  obtain⟨v,t,e,h1,r1⟩:=r;subst e;rw[z15,ba]at h;cases q with
  |cons q1 q2=>obtain⟨⟨as,ra⟩,c,dp⟩:=Rep.reads I d n h.1 h1 q1;obtain⟨⟨bs,rb⟩,c2,dp2⟩:=Reps.reads I ds n h.2 r1 q2;refine⟨⟨as++bs,.cons ra rb⟩,by simp only[PyData.canLayAll0,c,c2,sj],?_⟩;simp only[PyData.depthAll];exact Nat.max_le.mpr ⟨dp,dp2⟩
end
end
section
variable {X:Cx}
def mB (m:D->D->Res Bool):D->D->Res D:=fun x y=>m x y>>=fun b=>.ok (.bool b)
theorem zd0 {m:D->D->Res Bool}{x y d:D}(h:mB m x y=.ok d):∃b,m x y=.ok b/\d=.bool b:=by obtain⟨b,h1,h2⟩:=Res.bind_ok h;exact⟨b,h1,(Res.ok.inj h2).symm⟩
theorem c_eq (hu:X.A.units+64<cLine):OpD X (df .Eq) (mB (cmpD .Eq)):=by
 intro pins s σ H x y v u Q I rx ry h;obtain⟨Bx,By,dx,dy,d,r1,r2,e,q⟩:=h;obtain⟨b,e',ed⟩:=zd0 e;subst ed;clear e;have e:=e';clear e';have e:(if(shal 40 dx&&shal 40 dy)=true then Res.ok (eqD dx dy)else Res.no)=Res.ok b:=e;split at e
 ·rename_i hs;cases e;rw[ba]at hs;obtain⟨⟨as,ra⟩,c1,p1⟩:=Rep.reads I dx 40 hs.1 r1 rx;obtain⟨⟨bs,rb⟩,c2,p2⟩:=Rep.reads I dy 40 hs.2 r2 ry;exact SeqAt.compareEq_reads ra rb c1 c2 (by omega) ⟨.bl _,H,I,rfl,q _ H (Same.refl H) rfl⟩
 ·cases e
theorem c_ne (hu:X.A.units+64<cLine):OpD X (df .NotEq) (mB (cmpD .NotEq)):=by
 intro pins s σ H x y v u Q I rx ry h;obtain⟨Bx,By,dx,dy,d,r1,r2,e,q⟩:=h;obtain⟨b,e',ed⟩:=zd0 e;subst ed;clear e;have e:=e';clear e';have e:(if(shal 40 dx&&shal 40 dy)=true then Res.ok (!eqD dx dy)else Res.no)=Res.ok b:=e;split at e
 ·rename_i hs;cases e;rw[ba]at hs;obtain⟨⟨as,ra⟩,c1,p1⟩:=Rep.reads I dx 40 hs.1 r1 rx;obtain⟨⟨bs,rb⟩,c2,p2⟩:=Rep.reads I dy 40 hs.2 r2 ry;exact SeqAt.compareNe_reads ra rb c1 c2 (by omega) ⟨.bl _,H,I,rfl,q _ H (Same.refl H) rfl⟩
 ·cases e
theorem zpq {op:CmpOp}{r:R2}(h:OpR X (df op) r)(hI:∀i j b H Q,cmpD op (.int i) (.int j)=.ok b->Q (.bl b) H->r (.int i) (.int j) H Q)(hS:∀i j b H Q,cmpD op (.str i) (.str j)=.ok b->Q (.bl b) H->r (.str i) (.str j) H Q)
  (hm:∀dx dy b,cmpD op dx dy=.ok b->(∃i j,dx=.int i/\dy=.int j)\/∃i j,dx=.str i/\dy=.str j):OpD X (df op) (mB (cmpD op)):=by
 refine OpR.imp h fun x y H Q h=>?_;obtain⟨Bx,By,dx,dy,d,rx,ry,e,q⟩:=h;obtain⟨b,e',ed⟩:=zd0 e;subst ed;clear e;have e:=e';clear e';rcases hm dx dy b e with⟨i,j,rfl,rfl⟩|⟨i,j,rfl,rfl⟩
 ·have e1:x=.int i:=rx;have e2:y=.int j:=ry;subst e1 e2;exact hI i j b H Q e (q _ H (Same.refl H) rfl)
 ·have e1:x=.str i:=rx.1;have e2:y=.str j:=ry.1;subst e1 e2;exact hS i j b H Q e (q _ H (Same.refl H) rfl)
theorem c_lt:OpD X (df .Lt) (mB (cmpD .Lt)):=zpq opLt (fun i j b H Q e q=>by cases e;exact zts q) (fun i j b H Q e q=>by cases e;exact zsh q) fun dx dy b e=>by cases dx<;>first|exact(z16 e).elim|(cases dy<;>first|exact .inl ⟨_,_,rfl,rfl⟩|exact .inr ⟨_,_,rfl,rfl⟩|exact(z16 e).elim)
theorem c_gt:OpD X (df .Gt) (mB (cmpD .Gt)):=zpq opGt (fun i j b H Q e q=>by cases e;exact zv0 q) (fun i j b H Q e q=>by cases e;exact zvr q) fun dx dy b e=>by cases dx<;>first|exact(z16 e).elim|(cases dy<;>first|exact .inl ⟨_,_,rfl,rfl⟩|exact .inr ⟨_,_,rfl,rfl⟩|exact(z16 e).elim)
theorem REs.val {K:W.Frag}{H:Hp}{B:Ad->Prop}(k:Key):∀{kvs:List (Key×V)} {es:Ents},REs K H B kvs es->match z25 es (kD k)with|some d=>∃v,valV kvs k=some v/\Rep K H B v d|none=>valV kvs k=none
 |kvs,[],r=>by have e:kvs=[]:=r;subst e;exact rfl
 |kvs,(kd,d)::es,r=>by
  obtain⟨k',v,t,e,e2,ok,h,q⟩:=r;subst e e2;have ih:=REs.val k q;by_cases z:k'=k
  ·subst z
   have e1:z25 ((kD k',d)::es) (kD k')=some d:=by
    have:eqK (kD k') (kD k')=true:=by cases k'<;>simp[kD,eqK]
    unfold z25;rw[List.find?_cons_of_pos (by exact this)];rfl
   rw[e1];exact⟨v,z3y (p:=(k',v)) rfl,h⟩
  ·have e0:eqK (kD k') (kD k)=false:=by
    rw[uf];intro w;apply z;cases k'<;>cases k<;>simp[kD,eqK]at w<;>rw[w]
   have e1:z25 ((kD k',d)::es) (kD k)=z25 es (kD k):=by unfold z25;rw[List.find?_cons_of_neg (by rw[e0];exact b9)]
   rw[e1,z48 (p:=(k',v)) z];exact ih
theorem z4y {K:W.Frag}{H:Hp}{B:Ad->Prop}{v:V}{d:D}(h:isK d=true)(r:Rep K H B v d):∃k,d=kD k/\v=kV k/\keyOk k:=by
 cases d<;>try (cases h;done)
 case int i=>exact⟨.inl i,rfl,r,True.intro⟩
 case str x=>exact⟨.inr x,rfl,r.1,r.2⟩
theorem zhm (hu:X.A.units+64<cLine){pins:List (Addr×Obj)}{s:ac}{σ:L2.St}{H:Hp}{x y:V}{v u:Value}{Q:VK}(ng:Bool)(I:Inv X pins σ H s)(rx:RelV x v)(ry:RelV y u)
  {Bx By:Ad->Prop} {dx dy:D} {b:Bool} (r1:Rep X.K H Bx x dx) (r2:Rep X.K H By y dy) (e:inD dx dy=.ok b) (q:Q (.bl (if ng then !b else b)) H):
  wpAny (model X.prog X.w) X.A (df (if ng then .NotIn else .In) v u) (EP X pins σ Q) X.xe s:=by
 cases dy<;>try (cases e;done)
 case list xs=>
  change(if(shal 40 dx&&z15 40 xs)=true then Res.ok (xs.any fun y=>eqD y dx)else .no)=_ at e;split at e
  ·rename_i hs;cases e;rw[ba]at hs;obtain⟨⟨as,ra⟩,c1,p1⟩:=Rep.reads I dx 40 hs.1 r1 rx;obtain⟨⟨bs,rb⟩,c2,p2⟩:=Rep.reads I (.list xs) 41 hs.2 r2 ry;have c2':PyData.canLayAll0 xs=true:=by simpa only[PyData.canLay0]using c2
   cases ng
   ·exact SeqAt.in_list_reads rb ra c2' c1 (by omega) ⟨.bl _,H,I,rfl,q⟩
   ·exact SeqAt.notIn_list_reads rb ra c2' c1 (by omega) ⟨.bl _,H,I,rfl,q⟩
  ·cases e
 case tuple xs=>
  change(if(shal 40 dx&&z15 40 xs)=true then Res.ok (xs.any fun y=>eqD y dx)else .no)=_ at e;split at e
  ·rename_i hs;cases e;rw[ba]at hs;obtain⟨⟨as,ra⟩,c1,p1⟩:=Rep.reads I dx 40 hs.1 r1 rx;obtain⟨⟨bs,rb⟩,c2,p2⟩:=Rep.reads I (.tuple xs) 41 hs.2 r2 ry;have c2':PyData.canLayAll0 xs=true:=by simpa only[PyData.canLay0]using c2
   cases ng
   ·exact SeqAt.in_tuple_reads rb ra c2' c1 (by omega) ⟨.bl _,H,I,rfl,q⟩
   ·exact SeqAt.notIn_tuple_reads rb ra c2' c1 (by omega) ⟨.bl _,H,I,rfl,q⟩
  ·cases e
 case dict es=>
  change(if isK dx=true then Res.ok (z25 es dx).isSome else .no)=_ at e;split at e
  ·rename_i hk;cases e;obtain⟨k,rfl,rfl,_⟩:=z4y hk r1;obtain⟨a,kvs,rfl,h1,_,h2⟩:=r2;cases ry;have hv:=h2.val k;have g:DGet H a (kV k) (valV kvs k):=DGet.k h1
   have hb:(valV kvs k).isSome=(z25 es (kD k)).isSome:=by
    cases e:z25 es (kD k)with
    |none=>rw[e]at hv;rw[show valV kvs k=none from hv];rfl
    |some d=>rw[e]at hv;obtain⟨v,hv,_⟩:=hv;rw[hv];rfl
   cases ng
   ·exact d_in (by omega) I g rx fun s' I'=>⟨.bl _,H,I',rfl,by rw[hb];exact q⟩
   ·exact zln (by omega) I g rx fun s' I'=>⟨.bl _,H,I',rfl,by rw[hb];exact q⟩
  ·cases e
 case str z=>
  cases dx<;>try (cases e;done)
  rename_i w;have e1:x=.str w:=r1.1;have e2:y=.str z:=r2.1;subst e1 e2;change(match w.cps.toList with| [c]=>Res.ok (decide (c∈z.cps.toList))|_=>.no)=_ at e;split at e
  ·rename_i c hw;cases e
   have ew:w=⟨#[c]⟩:=by
    obtain⟨cps⟩:=w;have:cps=#[c]:=by rw[<-ml (xs:=cps)];rw[show cps.toList=[c]from hw]
    rw[this]
   subst ew;cases ng
   ·exact opIn pins s σ H _ _ v u Q I rx ry (zsj q)
   ·exact zmd pins s σ H _ _ v u Q I rx ry (zqi q)
  ·cases e
theorem c_in (hu:X.A.units+64<cLine):OpD X (df .In) (mB (cmpD .In)):=by intro pins s σ H x y v u Q I rx ry h;obtain⟨Bx,By,dx,dy,d,r1,r2,e,q⟩:=h;obtain⟨b,e',ed⟩:=zd0 e;subst ed;clear e;have e:=e';clear e';exact zhm hu false I rx ry r1 r2 e (q _ H (Same.refl H) rfl)
theorem zko (hu:X.A.units+64<cLine):OpD X (df .NotIn) (mB (cmpD .NotIn)):=by intro pins s σ H x y v u Q I rx ry h;obtain⟨Bx,By,dx,dy,d,r1,r2,e,q⟩:=h;obtain⟨b,e',ed⟩:=zd0 e;subst ed;clear e;have e:=e';clear e';have e:(inD dx dy>>=fun b=>Res.ok (!b))=Res.ok b:=e;obtain⟨b',e1,e2⟩:=Res.bind_ok e;cases e2;exact zhm hu true I rx ry r1 r2 e1 (q _ H (Same.refl H) rfl)
theorem zo1 (hu:X.A.units+64<cLine)(op:CmpOp)(h:zeg op=true):OpD X (df op) (mB (cmpD op)):=by
 cases op<;>try (cases h;done)
 ·exact c_eq hu
 ·exact c_ne hu
 ·exact c_lt
 ·exact c_gt
 ·exact c_in hu
 ·exact zko hu
end
section
variable {X:Cx}{a b c e:Expr}{es:List Expr}{fa fb fc:Rho->Res GD}{pos:Pos}
theorem z5v {e:Expr}{v:V}{d:D}(h:PE X e (tC v))(r:∀H B,Rep X.K H B v d):PE X e (tD X.K fun _=>.ok (.fr,d)):=PE.imp h fun σ H Q ⟨ρ,F,x,so,e,q⟩=>by cases e;exact q v H (Same.refl H) (r H _)
theorem zu3 {i:Nat}{x:Str}(hN:X.N[i]?=some x)(hv:Vis X.env.scope x)(hd:(x==("__debug__":Str))=false)(hcd:(x==("__classdict__":Str))=false):PE X (.Name x pos) (tD X.K fun ρ=>rdS ρ[i]?):=PE.imp (z4m hN hv hd hcd) fun σ H Q zz=>by obtain⟨ρ,F,x,so,e,q⟩:=zz;obtain⟨v,h1,h2⟩:=so.rd e;exact⟨v,h1,q v H (Same.refl H) h2⟩
theorem zoh {K:W.Frag}{F:Fm}{H H':Hp}{B:Ad->Prop}{v:V}{d:D}{g:G}(r:Rep K H' B v d)(h:∀a,B a->BG F H g a)(n:∀ds,d=.list ds->imms ds=true->Rep K H' (nw H) v d):Rep K H' (BG F H (gN d g)) v d:=by
 cases d with
 |list ds=>
  show Rep K H' (BG F H (if imms ds=true then .fr else g)) v _;split
  ·rename_i hi;exact n ds rfl hi
  ·exact r.weak h
 |_=>exact z34 r h
theorem ztz {op:kq}(ho:zmn op=true)(ha:PE X a (tD X.K fa))(hb:PE X b (tD X.K fb)):PE X (.BinOp a op b pos) (tD X.K fun ρ=>fa ρ>>=fun x=>fb ρ>>=fun y=>binD op x.2 y.2>>=fun d=>.ok (gN d (gAll [x,y]),d)):=
 PE.imp (znn (zt3 op ho) ha hb) fun σ H Q zz=>by
  obtain⟨ρ,F,z,so,e,q⟩:=zz;obtain⟨x,e1,e⟩:=Res.bind_ok e;obtain⟨y,e2,e⟩:=Res.bind_ok e;obtain⟨d,e3,e⟩:=Res.bind_ok e;cases e;refine⟨ρ,F,x,so,e1,fun v H1 s1 rv=>⟨ρ,F,y,so.same s1,e2,fun u H2 s2 ru=>⟨_,_,x.2,y.2,d,rv.same s2 fun _ z=>z,ru,e3,fun w H3 s3 rw' nn=>q w H3 ((s1.trans s2).trans s3) (zoh rw' (fun a h=>?_) fun ds z hi=>(nn ds z hi).weak fun _ z=>nw.back (s1.trans s2) z)⟩⟩⟩;rcases h with h|h|h
  ·exact z45 so.vis (s1.trans s2) h
  ·exact z54 so.vis (x:=x) (by simp) h
  ·exact z54 so.vis (x:=y) (by simp) (h.back s1)
theorem zim {op:CmpOp}{σ:L2.St}{H:Hp}{Q:VK}(h:tD X.K (fun ρ=>fa ρ>>=fun x=>fb ρ>>=fun y=>cmpD op x.2 y.2>>=fun b=>.ok (.fr,.bool b)) σ H Q):tOp (rOp X.K (mB (cmpD op))) (tD X.K fa) (tD X.K fb) σ H Q:=by obtain⟨ρ,F,z,so,e,q⟩:=h;obtain⟨x,e1,e⟩:=Res.bind_ok e;obtain⟨y,e2,e⟩:=Res.bind_ok e;obtain⟨d,e3,e⟩:=Res.bind_ok e;cases e;exact⟨ρ,F,x,so,e1,fun v H1 s1 rv=>⟨ρ,F,y,so.same s1,e2,fun u H2 s2 ru=>⟨_,_,x.2,y.2,.bool d,rv.same s2 fun _ z=>z,ru,by show(cmpD op x.2 y.2>>=fun b=>Res.ok (PyData.bool b))=_;rw[e3];rfl,fun w H3 s3 rw'=>q w H3 ((s1.trans s2).trans s3) rw'⟩⟩⟩
theorem zvo {op:CmpOp}(hu:X.A.units+64<cLine)(ho:zeg op=true)(hm:gi op b=false)(ha:PE X a (tD X.K fa))(hb:PE X b (tD X.K fb)):
  PE X (.Compare a [op] [b] pos) (tD X.K fun ρ=>fa ρ>>=fun x=>fb ρ>>=fun y=>cmpD op x.2 y.2>>=fun b=>.ok (.fr,.bool b)):=
 PE.imp (zlu (zo1 hu op ho) ha hb hm) fun σ H Q h=>zim h
theorem z86 {f:Rho->Res GD}{t:TE}(ht:∀σ H Q,tD X.K f σ H Q->t σ H Q)(hb:∀ρ x,f ρ=.ok x->∃c,x.2=.bool c)(σ:L2.St)(H:Hp)(Q:Bool->Hp->Prop)(h:tDT X.K (fun ρ=>f ρ>>=fun x=>z23 x.2) σ H Q):zr2 t σ H Q:=by obtain⟨ρ,F,c,so,e,q⟩:=h;obtain⟨x,e1,e⟩:=Res.bind_ok e;obtain⟨k,e2⟩:=hb ρ x e1;rw[e2]at e;cases e;refine ht σ H _ ⟨ρ,F,x,so,e1,fun v H' s r=>?_⟩;rw[e2]at r;exact⟨k,r,q H' s⟩
theorem zgf {op:CmpOp}{ρ:Rho}{x:GD}(e:(fa ρ>>=fun x=>fb ρ>>=fun y=>cmpD op x.2 y.2>>=fun b=>Res.ok ((.fr,.bool b):GD))=.ok x):∃c,x.2=.bool c:=by obtain⟨x,e1,e⟩:=Res.bind_ok e;obtain⟨y,e2,e⟩:=Res.bind_ok e;obtain⟨d,e3,e⟩:=Res.bind_ok e;cases e;exact⟨d,rfl⟩
theorem zs8 {op:CmpOp}(hu:X.A.units+64<cLine)(ho:zeg op=true)(hm:gi op b=false)(ha:PE X a (tD X.K fa))(hb:PE X b (tD X.K fb)):
  PT X (.Compare a [op] [b] pos) (tDT X.K fun ρ=>(fa ρ>>=fun x=>fb ρ>>=fun y=>cmpD op x.2 y.2>>=fun b=>Res.ok ((.fr,.bool b):GD))>>=fun x=>z23 x.2):=
 PT.imp (zj0 (zo1 hu op ho) ha hb hm) (z86 (fun σ H Q h=>zim h) fun ρ x e=>zgf e)
theorem zbo {K:W.Frag}{H:Hp}{B:Ad->Prop}{v:V}{d:D}(r:Rep K H B v d):decide (v=.non)=(match d with|.none=>true|_=>false):=by
 cases d with
 |none=>have e:v=.non:=r;subst e;rfl
 |bool b=>have e:v=.bl b:=r;subst e;rfl
 |int b=>have e:v=.int b:=r;subst e;rfl
 |str b=>have e:v=.str b:=r.1;subst e;rfl
 |tuple ds=>obtain⟨a,vs,e,_⟩:=r;subst e;rfl
 |list ds=>obtain⟨a,vs,e,_⟩:=r;subst e;rfl
 |dict ds=>obtain⟨a,vs,e,_⟩:=r;subst e;rfl
def isNF (ng:Bool)(fa:Rho->Res GD):Rho->Res GD:=fun ρ=>fa ρ>>=fun x=>.ok (.fr,.bool (match x.2 with|.none=>!ng|_=>ng))
theorem z9p {ng:Bool}{σ:L2.St}{H:Hp}{Q:VK}(h:tD X.K (isNF ng fa) σ H Q):(if ng then zon (tD X.K fa)else tIsN (tD X.K fa)) σ H Q:=by
 obtain⟨ρ,F,z,so,e,q⟩:=h;obtain⟨x,e1,e⟩:=Res.bind_ok e;cases e;cases ng with
 |false=>
  refine⟨ρ,F,x,so,e1,fun v H1 s1 rv=>?_⟩
  dsimp only
  rw[zbo rv];refine q _ H1 s1 ?_;obtain⟨g,d⟩:=x;cases d<;>rfl
 |true=>
  refine⟨ρ,F,x,so,e1,fun v H1 s1 rv=>?_⟩
  dsimp only
  rw[zbo rv];refine q _ H1 s1 ?_;obtain⟨g,d⟩:=x;cases d<;>rfl
theorem z97 {ng:Bool}{ρ:Rho}{x:GD}(e:isNF ng fa ρ=.ok x):∃c,x.2=.bool c:=by obtain⟨x,e1,e⟩:=Res.bind_ok e;cases e;exact⟨_,rfl⟩
theorem zuk {ng:Bool}{o:CmpOp}{j p2}(ho:o=if ng then .IsNot else .Is)(ha:PE X a (tD X.K fa)):PE X (.Compare a [o] [.Constant .none j p2] pos) (tD X.K (isNF ng fa)):=by
 subst ho;cases ng with
 |false=>exact PE.imp (zij (zhz ha)) fun σ H Q h=>z9p (ng:=false) h
 |true=>exact PE.imp (zij (zcw ha)) fun σ H Q h=>z9p (ng:=true) h
theorem zvg {ng:Bool}{o:CmpOp}{j p2}(ho:o=if ng then .IsNot else .Is)(ha:PE X a (tD X.K fa)):PT X (.Compare a [o] [.Constant .none j p2] pos) (tDT X.K fun ρ=>isNF ng fa ρ>>=fun x=>z23 x.2):=by
 subst ho;cases ng with
 |false=>exact PT.imp (zi6 (zhz ha)) (z86 (fun σ H Q h=>z9p (ng:=false) h) fun ρ x e=>z97 e)
 |true=>exact PT.imp (zi6 (zcw ha)) (z86 (fun σ H Q h=>z9p (ng:=true) h) fun ρ x e=>z97 e)
def andF (fa fb:Rho->Res GD):Rho->Res GD:=fun ρ=>fa ρ>>=fun x=>match x.2 with|.bool c=>if c then fb ρ else .ok (.fr,.bool false)|_=>.no
def orF (fa fb:Rho->Res GD):Rho->Res GD:=fun ρ=>fa ρ>>=fun x=>match x.2 with|.bool c=>if c then .ok (.fr,.bool true)else fb ρ|_=>.no
theorem z5p {f:Rho->Res GD}{ρ:Rho}{F:Fm}{H H1:Hp}{x:GD}{σ:L2.St}{Q:VK}(s1:Same H H1)(so:StOk X.K F H σ ρ)(e:f ρ=.ok x)(q:∀v H',Same H H'->Rep X.K H' (BG F H x.1) v x.2->Q v H'):tD X.K f σ H1 Q:=⟨ρ,F,x,so.same s1,e,fun v H' s r=>q v H' (s1.trans s) (r.weak fun _ b=>b.back s1)⟩
theorem zrl {rest:List Expr}(ha:PE X a (tD X.K fa))(hb:PE X (.BoolOp .And (b::rest) pos) (tD X.K fb)):PE X (.BoolOp .And (a::b::rest) pos) (tD X.K (andF fa fb)):=
 PE.imp (znl ha hb) fun σ H Q zz=>by
  obtain⟨ρ,F,z,so,e,q⟩:=zz;obtain⟨x,e1,e⟩:=Res.bind_ok e;refine⟨ρ,F,x,so,e1,fun v H1 s1 rv=>?_⟩;obtain⟨g,d⟩:=x;cases d<;>try (cases e;done)
  rename_i c;refine⟨c,rv,?_⟩;cases c with
  |true=>exact iteT (z5p s1 so e q)
  |false=>cases e;exact iteF (q _ H1 s1 rfl)
theorem d_or {rest:List Expr}(ha:PE X a (tD X.K fa))(hb:PE X (.BoolOp .Or (b::rest) pos) (tD X.K fb)):PE X (.BoolOp .Or (a::b::rest) pos) (tD X.K (orF fa fb)):=
 PE.imp (ztv ha hb) fun σ H Q zz=>by
  obtain⟨ρ,F,z,so,e,q⟩:=zz;obtain⟨x,e1,e⟩:=Res.bind_ok e;refine⟨ρ,F,x,so,e1,fun v H1 s1 rv=>?_⟩;obtain⟨g,d⟩:=x;cases d<;>try (cases e;done)
  rename_i c;refine⟨c,rv,?_⟩;cases c with
  |false=>exact iteF (z5p s1 so e q)
  |true=>cases e;exact iteT (q _ H1 s1 rfl)
theorem zcl {K:W.Frag}{H:Hp}{B:Ad->Prop}{v:V}{d:D}{k:Bool}(r:Rep K H B v d)(e:z23 d=.ok k):TruV K v H k:=by
 cases d with
 |none=>cases e;have e1:v=.non:=r;subst e1;exact rfl
 |bool b=>cases e;have e1:v=.bl b:=r;subst e1;exact rfl
 |int b=>cases e;have e1:v=.int b:=r;subst e1;show(!decide (b=0))=(b != 0);rw[bne,lu]
 |str b=>
  have e1:v=.str b:=r.1;subst e1;simp only[z23]at e;split at e
  ·rename_i hl;cases e;refine⟨z0q hl,?_⟩;show(!decide (b.length=0))=((b.length:Int) != 0);rw[bne,lu]
   congr 1
   rw[decide_eq_decide];omega
  ·cases e
 |tuple ds=>cases e;obtain⟨a,vs,e1,h,q⟩:=r;subst e1;refine .inr (.inl ⟨vs,h,?_⟩);show(!ds.isEmpty)=!vs.isEmpty;have:=q.length;cases vs<;>cases ds<;>simp at this ⊢
 |list ds=>cases e;obtain⟨a,vs,e1,h,q⟩:=z1y r;subst e1;refine .inl ⟨vs,h,?_⟩;show(!ds.isEmpty)=!vs.isEmpty;have:=q.length;cases vs<;>cases ds<;>simp at this ⊢
 |dict es=>
  cases e;obtain⟨a,kvs,e1,h,_,q⟩:=r;subst e1;refine .inr (.inr ⟨kvs,h,?_⟩);show(!es.isEmpty)=!kvs.isEmpty;cases es with
  |nil=>have e2:kvs=[]:=q;subst e2;rfl
  |cons e0 er=>obtain⟨k,v,t,e2,_⟩:=q;subst e2;rfl
theorem zt4 (ha:PE X a (tD X.K fa)):PE X (.UnaryOp .Not a pos) (tD X.K fun ρ=>fa ρ>>=fun x=>z23 x.2>>=fun c=>.ok (.fr,.bool (!c))):=by intro pins s σ H Q I h;obtain⟨ρ,F,z,so,e,q⟩:=h;obtain⟨x,e1,e⟩:=Res.bind_ok e;obtain⟨k,e2,e⟩:=Res.bind_ok e;cases e;refine UnaryOp_ (thn (ha pins s σ H (fun v H1=>Same H H1/\Rep X.K H1 (BG F H x.1) v x.2) I ⟨ρ,F,x,so,e1,fun v H1 s1 rv=>⟨s1,rv⟩⟩) fun v s1 zz=>?_);obtain⟨y,H1,I1,r1,s2,rv⟩:=zz;exact not_of (thn (zhr pins s1 σ H1 y v (fun b H2=>b=k/\H2=H1) I1 r1 ⟨k,zcl rv e2,rfl,rfl⟩) fun b s2' zz=>by obtain⟨H2,I2,eb,eH⟩:=zz;subst eb eH;exact⟨.bl _,H2,I2,rfl,q _ H2 s2 rfl⟩)
theorem zs2 (ha:PE X e (tD X.K fa))(he:∀whole,qi e X.env whole=(do let v <-whole;vc e.pos;nc [v] (vf v))):PT X e (tDT X.K fun ρ=>fa ρ>>=fun x=>z23 x.2):=PT.imp (zfe ha he) fun σ H Q zz=>by obtain⟨ρ,F,k,so,e,q⟩:=zz;obtain⟨x,e1,e⟩:=Res.bind_ok e;exact⟨ρ,F,x,so,e1,fun v H1 s1 rv=>⟨k,zcl rv e,q H1 s1⟩⟩
section
variable {ta tb:Rho->Res Bool}{rest:List Expr}
theorem z9c {f:Rho->Res Bool}{ρ:Rho}{F:Fm}{H H1:Hp}{x:Bool}{σ:L2.St}{Q:Bool->Hp->Prop}(s1:Same H H1)(so:StOk X.K F H σ ρ)(e:f ρ=.ok x)(q:∀H',Same H H'->Q x H'):tDT X.K f σ H1 Q:=⟨ρ,F,x,so.same s1,e,fun H' s=>q H' (s1.trans s)⟩
theorem w_and (ha:PT X a (tDT X.K ta))(hb:PW X (.BoolOp .And (b::rest) pos) (tDT X.K tb)):PW X (.BoolOp .And (a::b::rest) pos) (tDT X.K fun ρ=>ta ρ>>=fun c=>if c then tb ρ else .ok false):=
 PW.imp (zmy ha hb) fun σ H Q zz=>by
  obtain⟨ρ,F,k,so,e,q⟩:=zz;obtain⟨x,e1,e⟩:=Res.bind_ok e;refine⟨ρ,F,x,so,e1,fun H1 s1=>?_⟩;cases x with
  |true=>exact iteT (z9c s1 so e q)
  |false=>cases e;exact iteF (q H1 s1)
theorem w_or (ha:PT X a (tDT X.K ta))(hb:PW X (.BoolOp .Or (b::rest) pos) (tDT X.K tb)):PW X (.BoolOp .Or (a::b::rest) pos) (tDT X.K fun ρ=>ta ρ>>=fun c=>if c then .ok true else tb ρ):=
 PW.imp (ztm ha hb) fun σ H Q zz=>by
  obtain⟨ρ,F,k,so,e,q⟩:=zz;obtain⟨x,e1,e⟩:=Res.bind_ok e;refine⟨ρ,F,x,so,e1,fun H1 s1=>?_⟩;cases x with
  |false=>exact iteF (z9c s1 so e q)
  |true=>cases e;exact iteT (q H1 s1)
theorem z33 (ha:PT X a (tDT X.K ta)):PT X (.UnaryOp .Not a pos) (tDT X.K fun ρ=>ta ρ>>=fun c=>.ok (!c)):=PT.imp (zik ha) fun σ H Q zz=>by obtain⟨ρ,F,k,so,e,q⟩:=zz;obtain⟨x,e1,e⟩:=Res.bind_ok e;cases e;exact⟨ρ,F,x,so,e1,fun H1 s1=>q H1 s1⟩
theorem zta (hc:PT X c (tDT X.K ta))(ha:PE X a (tD X.K fa))(hb:PE X b (tD X.K fb)):PE X (.IfExp c a b pos) (tD X.K fun ρ=>ta ρ>>=fun k=>if k then fa ρ else fb ρ):=
 PE.imp (zfv hc ha hb) fun σ H Q zz=>by
  obtain⟨ρ,F,z,so,e,q⟩:=zz;obtain⟨x,e1,e⟩:=Res.bind_ok e;refine⟨ρ,F,x,so,e1,fun H1 s1=>?_⟩;cases x with
  |true=>exact iteT (z5p s1 so e q)
  |false=>exact iteF (z5p s1 so e q)
end
theorem zrs:PA X [] (tDA X.K fun _=>.ok []):=PA.imp z2q fun σ H Q ⟨ρ,F,z,so,e,q⟩=>by cases e;exact q [] H (Same.refl H) rfl
theorem zdo {fs:Rho->Res (List GD)}(hs:isStar e=false)(ha:PE X e (tD X.K fa))(hr:PA X es (tDA X.K fs)):PA X (e::es) (tDA X.K fun ρ=>fa ρ>>=fun x=>fs ρ>>=fun xs=>.ok (x::xs)):=PA.imp (pa_c ha hr hs) fun σ H Q zz=>by obtain⟨ρ,F,z,so,e,q⟩:=zz;obtain⟨x,e1,e⟩:=Res.bind_ok e;obtain⟨xs,e2,e⟩:=Res.bind_ok e;cases e;refine⟨ρ,F,x,so,e1,fun v H1 s1 rv=>⟨ρ,F,xs,so.same s1,e2,fun vs H2 s2 rs=>q _ H2 (s1.trans s2) ?_⟩⟩;exact⟨v,vs,rfl,rv.same s2 fun _ z=>z,rs.back s1⟩
theorem zuy {x1}{fs:Rho->Res (List GD)}(h:PA X es (tDA X.K fs))(hl:∀ρ xs,fs ρ=.ok xs->xs.length<=bh):PE X (.Tuple es x1 pos) (tD X.K fun ρ=>fs ρ>>=fun ys=>.ok (gJ (.tuple (ys.map (·.2))) (gAll ys),.tuple (ys.map (·.2)))):=PE.imp (znr h) fun σ H Q zz=>by obtain⟨ρ,F,z,so,e,q⟩:=zz;obtain⟨ys,e1,e⟩:=Res.bind_ok e;cases e;refine⟨ρ,F,ys,so,e1,fun vs H1 s1 rs=>?_⟩;have r:=rs.reps (B:=BG F H (gAll ys)) fun x hx a h=>z54 so.vis hx h;refine⟨by rw[r.length,ah];exact hl ρ ys e1,fun p hp=>q _ _ (s1.trans (Same.upd hp)) (z34 (z47 hp r fun _ z=>z) fun _ z=>z)⟩
theorem zv4 {fs:Rho->Res (List GD)}(h:PA X es (tDA X.K fs))(hl:∀ρ xs,fs ρ=.ok xs->xs.length<=bh):PE X (.List es pos) (tD X.K fun ρ=>fs ρ>>=fun ys=>.ok (gAll ys,.list (ys.map (·.2)))):=PE.imp (zi5 h) fun σ H Q zz=>by obtain⟨ρ,F,z,so,e,q⟩:=zz;obtain⟨ys,e1,e⟩:=Res.bind_ok e;cases e;refine⟨ρ,F,ys,so,e1,fun vs H1 s1 rs=>?_⟩;have r:=rs.reps (B:=BG F H (gAll ys)) fun x hx a h=>z54 so.vis hx h;refine⟨by rw[r.length,ah];exact hl ρ ys e1,fun p hp=>q _ _ (s1.trans (Same.upd hp)) (z1t hp r (fun _ z=>z) (z45 so.vis s1 hp))⟩
theorem zpr:PE X (.Dict [] [] pos) (tD X.K fun _=>.ok (.fr,.dict [])):=PE.imp zfr fun σ H Q zz=>by obtain⟨ρ,F,z,so,e,q⟩:=zz;cases e;intro p hp;exact q _ _ (Same.upd hp) ⟨p,[],rfl,z0b,hp,rfl⟩
end
theorem zn1 {α:Type}(xs:List α)(i:Int):L2.atI xs i=Mi.atI xs i:=rfl
theorem z6p (n d:Nat)(o:Option Int):HT.sIx n d o=Mi.sIx n d o:=by cases o<;>rfl
theorem zbh (xs:List V)(lo hi:Option Int):L2.cutV xs lo hi=Mi.cut xs lo hi:=by unfold L2.cutV Mi.cut;rw[z6p,z6p]
theorem Reps.cut {K:W.Frag}{H:Hp}{B:Ad->Prop}{vs:List V}{ds:List D}(lo hi:Option Int)(r:Reps K H B vs ds):Reps K H B (Mi.cut vs lo hi) (Mi.cut ds lo hi):=by unfold Mi.cut;rw[r.length];exact(r.drop _).take _
theorem Reps.atI {K:W.Frag}{H:Hp}{B:Ad->Prop}{vs:List V}{ds:List D}{i:Int}{d:D}(r:Reps K H B vs ds)(e:Mi.atI ds i=some d):∃v,L2.atI vs i=some v/\Rep K H B v d:=by
 unfold Mi.atI at e;cases e1:Mi.ixN ds.length i with
 |none=>rw[e1]at e;cases e
 |some j=>rw[e1]at e;obtain⟨v,h1,h2⟩:=r.get (i:=j) (d:=d) e;refine⟨v,?_,h2⟩;rw[zn1];unfold Mi.atI;rw[r.length,e1];exact h1
section
variable {X:Cx}{a b c e:Expr}{es:List Expr}{fa fb fc:Rho->Res GD}{pos:Pos}
theorem zkb (hu:X.A.units+64<cLine):IxR X (fun x y H Q=>∃a v,x=.ref a/\DGet H a y (some v)/\Q v H):=by intro value slice pins s σ H x y v u Q I rx ry h hs;obtain⟨a,z,rfl,g,q⟩:=h;cases rx;exact tail_any (z8h I g) PySem.F.slot_dict_getitem.lookup (zed (by omega) I g ry fun w' s' I' rw'=>⟨z,H,I',rw',q⟩) hs
def rIxD (K:W.Frag):R2:=fun x y H Q=>∃B B' dx dy d,Rep K H B x dx/\Rep K H B' y dy/\ixD dx dy=.ok d/\∀w,Rep K H B w d->Q w H
theorem zrz (hu:X.A.units+64<cLine):IxR X (rIxD X.K):=by
 intro value slice pins s σ H x y v u Q I rx ry h hs;refine(zu1.or (zkb hu)) value slice pins s σ H x y v u Q I rx ry ?_ hs;obtain⟨B,B',dx,dy,d,r1,r2,e,q⟩:=h;cases dx<;>try (cases e;done)
 case list xs=>
  cases dy<;>try (cases e;done)
  rename_i i;have e2:y=.int i:=r2;subst e2;obtain⟨a,vs,rfl,h1,q1⟩:=z1y r1;change Res.ofO (Mi.atI xs i)=_ at e;cases e3:Mi.atI xs i with
  |none=>rw[e3]at e;cases e
  |some d'=>rw[e3]at e;cases e;obtain⟨w,h3,h4⟩:=q1.atI e3;exact .inl (.inl ⟨a,vs,i,w,rfl,rfl,h1,h3,q w h4⟩)
 case tuple xs=>
  cases dy<;>try (cases e;done)
  rename_i i;have e2:y=.int i:=r2;subst e2;obtain⟨a,vs,rfl,h1,q1⟩:=r1;change Res.ofO (Mi.atI xs i)=_ at e;cases e3:Mi.atI xs i with
  |none=>rw[e3]at e;cases e
  |some d'=>rw[e3]at e;cases e;obtain⟨w,h3,h4⟩:=q1.atI e3;exact .inl (.inr (.inl ⟨a,vs,i,w,rfl,rfl,h1,h3,q w h4⟩))
 case str z=>
  cases dy<;>try (cases e;done)
  rename_i i;have e2:y=.int i:=r2;have e1:x=.str z:=r1.1;subst e1 e2;change(if z.length<=LIM then Res.ofO ((Mi.atI z.cps.toList i).map fun c=>PyData.str ⟨#[c]⟩)else .no)=_ at e;split at e
  ·rename_i hl;cases e3:Mi.atI z.cps.toList i with
   |none=>rw[e3]at e;cases e
   |some c=>
    rw[e3]at e;cases e
    have hc:c∈z.cps.toList:=by
     unfold Mi.atI at e3;cases e4:Mi.ixN z.cps.toList.length i with
     |none=>rw[e4]at e3;cases e3
     |some j=>rw[e4]at e3;exact b8 e3
    exact .inl (.inr (.inr ⟨z,i,c,rfl,rfl,z0q hl,e3,q _ ⟨rfl,z7u r1.2 hc⟩⟩))
  ·cases e
 case dict es=>
  change(if isK _=true then Res.ofO (z25 es _)else Res.no)=_ at e;split at e
  ·rename_i hk;obtain⟨k,rfl,rfl,_⟩:=z4y hk r2;obtain⟨a,kvs,rfl,h1,_,h2⟩:=r1;have hv:=h2.val k;cases e3:z25 es (kD k)with
   |none=>rw[e3]at e;cases e
   |some d'=>rw[e3]at e hv;cases e;obtain⟨w,h3,h4⟩:=hv;exact .inr ⟨a,w,rfl,by rw[<-h3];exact DGet.k h1,q w h4⟩
  ·cases e
theorem zh7 {i:Expr}(h:z5q i=true):zc7 i:=fun o v=>by cases i<;>first|rfl|cases h
theorem d_ix {i:Expr}(hu:X.A.units+64<cLine)(hs:z5q i=true)(ha:PE X a (tD X.K fa))(hb:PE X i (tD X.K fb)):
  PE X (.Subscript a i pos) (tD X.K fun ρ=>fa ρ>>=fun x=>fb ρ>>=fun y=>ixD x.2 y.2>>=fun d=>.ok (gJ d x.1,d)):=
 PE.imp (ztg (zrz hu) ha hb (zh7 hs)) fun σ H Q zz=>by obtain⟨ρ,F,z,so,e,q⟩:=zz;obtain⟨x,e1,e⟩:=Res.bind_ok e;obtain⟨y,e2,e⟩:=Res.bind_ok e;obtain⟨d,e3,e⟩:=Res.bind_ok e;cases e;exact⟨ρ,F,x,so,e1,fun v H1 s1 rv=>⟨ρ,F,y,so.same s1,e2,fun u H2 s2 ru=>⟨_,_,x.2,y.2,d,rv.same s2 fun _ z=>z,ru,e3,fun w rw'=>q w H2 (s1.trans s2) (z34 rw' fun _ z=>z)⟩⟩⟩
theorem zdg {z:Str}(h:PyData.strOk z=true)(lo hi:Option Int):PyData.strOk (z4i z lo hi)=true:=
 z17.mpr fun c hc=>z17.mp h c (by
  have:c∈Mi.cut z.cps.toList lo hi:=by simpa[z4i]using hc
  unfold Mi.cut at this;exact List.mem_of_mem_drop (List.mem_of_mem_take this))
theorem zie (lo hi:Option Int)(n:Nat):ig lo hi 1 n=sliceRange ((Mi.sIx n 0 lo:Nat):Int) ((Mi.sIx n n hi:Nat):Int) 1:=by
 delta ig
 have h1:(1:Int)>0:=Int.one_pos;simp only[h1,if_true]
 congr 1
 ·cases lo with
  |none=>rfl
  |some v=>
   simp only[Mi.sIx];by_cases h:v<0
   ·simp only[if_pos h];omega
   ·simp only[if_neg h];omega
 ·cases hi with
  |none=>rfl
  |some v=>
   simp only[Mi.sIx];by_cases h:v<0
   ·simp only[if_pos h];omega
   ·simp only[if_neg h];omega
theorem zc9 (n d:Nat)(hd:d<=n)(o:Option Int):Mi.sIx n d o<=n:=by rw[<-z6p];exact HT.sIx_le n d hd o
theorem zfc (z:Str)(lo hi:Option Int):Txt.slice z lo hi=z4i z lo hi:=by
 have hn:z.cps.toList.length=z.length:=by simp[Str.length]
 have e:(ig lo hi 1 z.length).filterMap (z.cps[·]?)=Mi.cut z.cps.toList lo hi:=by rw[zie,ql,pick_run];unfold Mi.cut;rw[hn]
 have hl:(ig lo hi 1 z.length).length=Mi.sIx z.length z.length hi-Mi.sIx z.length 0 lo:=by rw[zie,ql,ah,gb]
 unfold Txt.slice;split
 ·rename_i hc;simp only[beq_self_eq_true,md,beq_iff_eq]at hc;rw[hl]at hc;have h1:=zc9 z.length 0 (fu _) lo;have h2:=zc9 z.length z.length (am _) hi
  have e2:Mi.cut z.cps.toList lo hi=z.cps.toList:=by
   unfold Mi.cut;rw[hn];by_cases h0:Mi.sIx z.length 0 lo=0
   ·rw[h0,List.drop_zero,ll (by rw[hn];omega)]
   ·have hz:z.length=0:=by omega
    have:z.cps.toList=[]:=jl.mp (by rw[hn];exact hz);rw[this];simp
  unfold z4i;rw[e2]
 ·unfold z4i;rw[<-e]
def rSlD (K:W.Frag):V->Option Int->Option Int->Hp->VK->Prop:=fun x lo hi H Q=>∃B dx d,Rep K H B x dx/\slD dx lo hi=.ok d/\∀w H',Same H H'->Rep K H' (fun a=>nw H a\/B a) w d->Q w H'
theorem zu0:SlR X (rSlD X.K):=by
 intro pins s σ H x v vl vu lo hi sl Q I rx hs pl pu h;refine(zvq.or zq2) pins s σ H x v vl vu lo hi sl Q I rx hs pl pu ?_;obtain⟨B,dx,d,r,e,q⟩:=h;cases dx<;>try (cases e;done)
 case list xs=>cases e;obtain⟨a,vs,rfl,h1,q1⟩:=z1y r;refine .inl (.inl ⟨a,vs,rfl,h1,fun p hp=>?_⟩);rw[zbh];exact q _ _ (Same.upd hp) (z1t hp (q1.cut lo hi) (fun _ z=>.inr z) (.inl hp))
 case tuple xs=>
  change(if sIx xs.length 0 lo=0/\sIx xs.length xs.length hi=xs.length then Res.no else Res.ok (PyData.tuple (cut xs lo hi)))=_ at e;split at e
  ·cases e
  ·rename_i hw;cases e;obtain⟨a,vs,rfl,h1,q1⟩:=r;refine .inr ⟨a,vs,rfl,h1,by rw[z6p,z6p,q1.length];exact hw,fun p hp=>?_⟩;rw[zbh];exact q _ _ (Same.upd hp) (z47 hp (q1.cut lo hi) fun _ z=>.inr z)
 case str z=>
  change(if z.length<=LIM then Res.ok (PyData.str (z4i z lo hi))else .no)=_ at e;split at e
  ·rename_i hl;cases e;have e1:x=.str z:=r.1;subst e1;refine .inl (.inr ⟨z,rfl,z0q hl,?_⟩);rw[zfc];exact q _ H (Same.refl H) ⟨rfl,zdg r.2 lo hi⟩
  ·cases e
theorem z7j:PO X none (tDO X.K fun _=>.ok none):=PO.imp zlx fun σ H Q ⟨ρ,F,z,so,e,q⟩=>by cases e;exact q H (Same.refl H)
theorem zos (ha:PE X a (tD X.K fa)):PO X (some a) (tDO X.K fun ρ=>fa ρ>>=fun x=>intO x.2):=
 PO.imp (zj4 ha) fun σ H Q zz=>by
  obtain⟨ρ,F,z,so,e,q⟩:=zz;obtain⟨x,e1,e⟩:=Res.bind_ok e;refine⟨ρ,F,x,so,e1,fun v H1 s1 rv=>?_⟩;obtain⟨g,d⟩:=x;cases d<;>try (cases e;done)
  cases e;exact⟨_,rv,q H1 s1⟩
theorem d_sl {lo hi:Option Expr}{p2:Pos}{fl fh:Rho->Res (Option Int)}(ha:PE X a (tD X.K fa))(hl:PO X lo (tDO X.K fl))(hh:PO X hi (tDO X.K fh)):
  PE X (.Subscript a (.Slice lo hi none p2) pos) (tD X.K fun ρ=>fa ρ>>=fun x=>fl ρ>>=fun l=>fh ρ>>=fun h=>slD x.2 l h>>=fun d=>.ok (gJ d (gAll [x]),d)):=
 PE.imp (zh0 zu0 ha hl hh) fun σ H Q zz=>by
  obtain⟨ρ,F,z,so,e,q⟩:=zz;obtain⟨x,e1,e⟩:=Res.bind_ok e;obtain⟨l,e2,e⟩:=Res.bind_ok e;obtain⟨h,e3,e⟩:=Res.bind_ok e;obtain⟨d,e4,e⟩:=Res.bind_ok e;cases e;refine⟨ρ,F,x,so,e1,fun v H1 s1 rv=>⟨ρ,F,l,so.same s1,e2,fun H2 s2=>⟨ρ,F,h,so.same (s1.trans s2),e3,fun H3 s3=>⟨_,x.2,d,rv.same (s2.trans s3) fun _ z=>z,e4,fun w H4 s4 rw'=>q w H4 ((s1.trans (s2.trans s3)).trans s4) (z34 rw' fun a h=>?_)⟩⟩⟩⟩;rcases h with h|h
  ·exact z45 so.vis (s1.trans (s2.trans s3)) h
  ·exact z54 so.vis (x:=x) (by simp) h
theorem d_cB {x:Str}{id:String}{m:List D->Res D}{fs:Rho->Res (List GD)}(hc:CallR X (.builtin id) (zas X.K m))(hm:X.mg x=none)(hv:cu x=some (.builtin id))(ha:PA X (e::es) (tDA X.K fs))(hst:((e::es).all fun e=>!isStar e)=true)(hg:Gl X x)(hn:x≠"__name__")(hdb:(x==("__debug__":Str))=false){p:Pos}:
  PE X (.Call (.Name x p) (e::es) [] pos) (tD X.K fun ρ=>fs ρ>>=fun ys=>m (ys.map (·.2))>>=fun d=>.ok (gJ d .al,d)):=
 PE.imp (zd5 hc hm hv ha hst hg hn hdb) fun σ H Q zz=>by obtain⟨ρ,F,z,so,e,q⟩:=zz;obtain⟨ys,e1,e⟩:=Res.bind_ok e;obtain⟨d,e2,e⟩:=Res.bind_ok e;cases e;exact⟨ρ,F,ys,so,e1,fun vs H1 s1 rs=>⟨_,_,d,rs.repsV so.vis,e2,fun w H2 s2 rw'=>q w H2 (s1.trans s2) (z34 rw' fun a h=>h.elim (fun z=>(nw.back s1 z).vis so.vis) fun z=>z)⟩⟩
theorem REs.length {K:W.Frag}{H:Hp}{B:Ad->Prop}:∀{kvs:List (Key×V)} {es:Ents},REs K H B kvs es->kvs.length=es.length
 |kvs,[],r=>by have e:kvs=[]:=r;subst e;rfl
 |kvs,(kd,d)::es,r=>by obtain⟨k,v,t,e,_,_,_,q⟩:=r;subst e;rw[bq,bq,q.length]
theorem zah {K:W.Frag}{H:Hp}{B:Ad->Prop}{xs:List V}{d:D}(r:Reps K H B xs [d]):∃v,xs=[v]/\Rep K H B v d:=by obtain⟨v,t,e,h,q⟩:=r;have e2:t=[]:=q;subst e e2;exact⟨v,rfl,h⟩
theorem zdk {K:W.Frag}{H:Hp}{B:Ad->Prop}{xs:List V}{d d':D}(r:Reps K H B xs [d,d']):∃v v',xs=[v,v']/\Rep K H B v d/\Rep K H B v' d':=by obtain⟨v,t,e,h,q⟩:=r;obtain⟨v',e2,h'⟩:=zah q;subst e e2;exact⟨v,v',rfl,h,h'⟩
theorem zms:CallR X (.builtin "len") (zas X.K (biD "len")):=by
 refine CallR.imp (zlw.or zd3) fun xs H Q h=>?_;obtain⟨B,ds,d,r,e,q⟩:=h;simp only[biD,if_true]at e;split at e
 ·rename_i x;obtain⟨v,rfl,r1⟩:=zah r;clear r;have r:=r1;clear r1;cases x<;>try (cases e;done)
  case str z=>
   change(if z.length<=LIM then Res.ok (PyData.int z.length)else .no)=_ at e;split at e
   ·rename_i hl;cases e;have e1:v=.str z:=r.1;subst e1;exact .inl (.inl ⟨z,rfl,z0q hl,q _ H (Same.refl H) rfl⟩)
   ·cases e
  case tuple ds=>cases e;obtain⟨a,vs,rfl,h1,q1⟩:=r;exact .inl (.inr ⟨a,vs,rfl,.inr h1,q _ H (Same.refl H) (by rw[q1.length];exact rfl)⟩)
  case list ds=>cases e;obtain⟨a,vs,rfl,h1,q1⟩:=z1y r;exact .inl (.inr ⟨a,vs,rfl,.inl h1,q _ H (Same.refl H) (by rw[q1.length];exact rfl)⟩)
  case dict ds=>cases e;obtain⟨a,vs,rfl,h1,_,q1⟩:=r;exact .inr ⟨a,vs,rfl,h1,q _ H (Same.refl H) (by rw[q1.length];exact rfl)⟩
 ·cases e
theorem zph (hc:X.calm=true):CallR X (.builtin "max") (zas X.K (biD "max")):=by
 refine CallR.imp (zep hc) fun xs H Q h=>?_;obtain⟨B,ds,d,r,e,q⟩:=h;simp only[biD,show("max":String)≠"len" by decide,if_true,if_false]at e;split at e
 ·rename_i i j;cases e;obtain⟨v,v',rfl,h1,h2⟩:=zdk r;have e1:v=.int i:=h1;have e2:v'=.int j:=h2;subst e1 e2;refine⟨i,j,rfl,q _ H (Same.refl H) ?_⟩;show V.int _=V.int _
  congr 1
  split<;>omega
 ·cases e
theorem zg3 {prog:a8}{w:World}{A:b7}{E:Value->ac->Prop}{s:ac}{p:Addr}{a b:Int}{t u:Tok}{Q:Value->ac->Prop}(hh:A.handled=none)(hp:s.heap.IsTuple p #[.int a t,.int b u])
  (hQ:∀z h' tk,(∀c o,s.heap.get? c=some o->h'.get? c=some o)->Q (.int (if b<a then b else a) z) {s with heap:=h',toks:=tk}):wpAny (model prog w) A (call (.builtin "min") [.ref p]) Q E s:=by
 have ei:vp #[(a,t),(b,u)]=#[.int a t,.int b u]:=by simp[vp]
 have hp2:s.heap.IsTuple p (vp #[(a,t),(b,u)]):=by rw[ei];exact hp
 have lt:p<s.heap.objs.size:=by obtain⟨o,ho,_⟩:=hp;exact bn ho
 refine call_min_walk ?_;refine n4 hp2 ?_;refine⟨_,[s.heap.objs.size,p],[s.heap.objs.size],_,_,_,_,rfl,Walks.tuple (A:=A.in1) hh _ p (bz lt) _,⟨⟨_,ay _ rfl,rfl,rfl⟩,hp2.push _⟩,fun c hc=>?_,(by rw[ei];exact p7 1),CmpOf.ints_lt (numAt #[(a,t),(b,u)]) (fun _ _=>intItems_at),fun v h' tk hP hk=>?_⟩
 ·rw[n5];simp only[au,cw,or_false]at hc;rcases hc with rfl|rfl
  ·exact l9 _
  ·exact lm lt
 ·have keep:∀c o,s.heap.get? c=some o->h'.get? c=some o:=fun c o e=>hk c o (fun z=>ce _ (br.mp z▸bn e)) (ae _ e);have es:(vp #[(a,t),(b,u)]).size-1=1:=by rw[ei];rfl
  rw[es]at hP;by_cases hba:b<a
  ·have e1:argBest (fun i j=>decide (numAt #[(a,t),(b,u)] i<numAt #[(a,t),(b,u)] j)) 1=1:=by
    show(if decide (b<a)=true then 1 else 0)=1;rw[we hba];rfl
   rw[e1,ei]at hP;cases(Option.some.inj hP);have:=hQ u h' tk keep
   rwa [if_pos hba]at this
  ·have e1:argBest (fun i j=>decide (numAt #[(a,t),(b,u)] i<numAt #[(a,t),(b,u)] j)) 1=0:=by
    show(if decide (b<a)=true then 1 else 0)=0;rw[wf hba];rfl
   rw[e1,ei]at hP;cases(Option.some.inj hP);have:=hQ t h' tk keep
   rwa [if_neg hba]at this
theorem zc5 (hc:X.calm=true):CallR X (.builtin "min") (fun xs H Q=>∃p i j,xs=[.ref p]/\SqT X.K H p [.int i,.int j]/\Q (.int (if j<i then j else i)) H):=by intro pins s σ H xs us Q I r h;obtain⟨p,i,j,rfl,hq,q⟩:=h;obtain⟨u,rfl,r1⟩:=vals1 r;cases r1;obtain⟨its,rv,hp,_⟩:=I.tuple hq;obtain⟨a,b,rfl,⟨t,rfl⟩,⟨t',rfl⟩⟩:=vals2 rv;exact zg3 (I.ok.hd hc) hp fun z h' tk k=>⟨.int (if j<i then j else i),H,I.kept k,⟨z,rfl⟩,q⟩
theorem zn8 (hc:X.calm=true):CallR X (.builtin "min") (zas X.K (biD "min")):=by
 refine CallR.imp ((zes hc).or (zc5 hc)) fun xs H Q h=>?_;obtain⟨B,ds,d,r,e,q⟩:=h;replace e:minD ds=Res.ok d:=e;have mn:∀i j:Int,(if j<i then j else i)=min i j:=fun i j=>by split<;>omega
 have m2:∀{x y:D},min2 x y=.ok d->∃i j,x=.int i/\y=.int j/\d=.int (min i j):=fun{x y} h=>by
  cases x<;>try (exact(z16 h).elim)
  cases y<;>try (exact(z16 h).elim)
  cases h;exact⟨_,_,rfl,rfl,rfl⟩
 rcases ds with _|⟨a,_|⟨b,_|⟨c,ds⟩⟩⟩
 ·exact(z16 e).elim
 ·cases a<;>try (exact(z16 e).elim)
  rename_i ys;rcases ys with _|⟨a,_|⟨b,_|⟨c,ys⟩⟩⟩
  ·exact(z16 e).elim
  ·exact(z16 e).elim
  ·obtain⟨i,j,rfl,rfl,rfl⟩:=m2 e;obtain⟨v,rfl,p,vs,rfl,hq,rs⟩:=zah r;obtain⟨v1,v2,rfl,h1,h2⟩:=zdk rs;have e1:v1=.int i:=h1;have e2:v2=.int j:=h2;subst e1 e2;exact .inr ⟨p,i,j,rfl,hq,q _ H (Same.refl H) (show V.int _=V.int _ by rw[mn])⟩
  ·unfold minD vT at e;exact(z16 e).elim
 ·obtain⟨i,j,rfl,rfl,rfl⟩:=m2 e;obtain⟨v,v',rfl,h1,h2⟩:=zdk r;have e1:v=.int i:=h1;have e2:v'=.int j:=h2;subst e1 e2;exact .inl ⟨i,j,rfl,q _ H (Same.refl H) (show V.int _=V.int _ by rw[mn])⟩
 ·exact(z16 e).elim
theorem zh5 {pins:List (Addr×Obj)}{σ:L2.St}{H:Hp}{s:ac}{A:b7}{E:Value->ac->Prop}{Q:Value->ac->Prop}{B:Ad->Prop}{x:V}{u:Value}{d:D}{T:String}(I:Inv X pins σ H s)(rx:RelV x u)(r:Rep X.K H B x d)(hT:T∈tysB)
  (h:∀tk,Q (.bool (isTy (tyOf d) T)) {s with toks:=tk}):wpAny (model X.prog X.w) A (call (.builtin "isinstance") [u,.type T]) Q E s:=by
 have ht:tyOf d∈tysA:=by cases d<;>simp[tyOf,tysA]
 have e:W.kitOne X.K (.type (tyOf d)) (.type T)=some (isTy (tyOf d) T):=zlj X.K _ ht T hT;cases d with
 |none=>have e1:x=.non:=r;subst e1;exact z2g I rx .non e h
 |bool b=>have e1:x=.bl b:=r;subst e1;exact z2g I rx (.bl b) e h
 |int b=>have e1:x=.int b:=r;subst e1;exact z2g I rx (.int b) e h
 |str b=>have e1:x=.str b:=r.1;subst e1;exact z2g I rx (.str b) e h
 |tuple ds=>obtain⟨a,vs,e1,h1,_⟩:=r;subst e1;cases rx;obtain⟨_,_,⟨o,ho,hc,_⟩,_⟩:=I.tuple h1;exact W.kia_one W.kitx_tuple I.kIn ⟨o,ho,hc⟩ e (fun z=>nomatch z) h
 |list ds=>obtain⟨a,vs,e1,h1,_⟩:=z1y r;subst e1;cases rx;obtain⟨_,_,⟨o,_,ho,hc,_⟩,_⟩:=I.list h1;exact W.kia_one W.kitx_list I.kIn ⟨o,ho,hc⟩ e (fun z=>nomatch z) h
 |dict es=>obtain⟨a,vs,e1,h1,_⟩:=r;subst e1;exact z2g I rx (.dK h1) e h
def rIsD (K:W.Frag):List V->Hp->VK->Prop:=fun xs H Q=>∃B x d T,xs=[x,.ty T]/\Rep K H B x d/\T∈tysB/\Q (.bl (isTy (tyOf d) T)) H
theorem zgy:CallR X (.builtin "isinstance") (rIsD X.K):=by intro pins s σ H xs us Q I r h;obtain⟨B,x,d,T,rfl,rx,hT,q⟩:=h;obtain⟨u,w',rfl,r1,r2⟩:=vals2 r;obtain rfl:w'=Value.type T:=r2;exact zh5 I r1 rx hT fun tk=>⟨.bl _,H,I.tok _,rfl,q⟩
theorem zv1 {y:Expr}{T:String}{x2:Str}{p p2:Pos}(hm:X.mg "isinstance"=none)(hg:Gl X "isinstance")(hm2:X.mg x2=none)(hv2:cu x2=some (.type T))(hg2:Gl X x2)(hn2:x2≠"__name__")(hd2:(x2==("__debug__":Str))=false)(hT:T∈tysB)(hs:isStar y=false)(ha:PE X y (tD X.K fa)):
  PE X (.Call (.Name "isinstance" p) [y,.Name x2 p2] [] pos) (tD X.K fun ρ=>fa ρ>>=fun x=>.ok (.fr,.bool ([T].any fun T=>isTy (tyOf x.2) T))):=
 PE.imp (zd5 zgy hm (by decide+kernel) (pa_c ha (pa_c (zjx (v:=.ty T) hg2 hm2 hv2 rfl hn2 hd2) z2q) hs) (by simp[hs];rfl) hg (by decide) (by decide)) fun σ H Q zz=>by obtain⟨ρ,F,z,so,e,q⟩:=zz;obtain⟨x,e1,e⟩:=Res.bind_ok e;cases e;refine⟨ρ,F,x,so,e1,fun v H1 s1 rv=>?_⟩;refine⟨_,v,x.2,T,rfl,rv,hT,q _ H1 s1 ?_⟩;show V.bl _=V.bl _;simp
end
def Kp (B:Ad->Prop)(H1 H2:Hp):Prop:=∀a o,H1 a=some o->(B (some a)\/Fix o)->H2 a=some o
theorem Kp.of {B:Ad->Prop}{H1 H2:Hp}(s:Same H1 H2):Kp B H1 H2:=fun a o e _=>s a o e
structure Walk (K:W.Frag)(J:It)(B:Ad->Prop)(H1:Hp)(xs:List D):Prop where
 len:xs.length<=bh
 go:∀H2,Kp B H1 H2->∀i,i<xs.length->J.go i H2
 stop:∀H2,Kp B H1 H2->J.stop xs.length H2
 yld:∀H2,Kp B H1 H2->∀i x H3,i<xs.length->J.yld i H2 x H3->Same H2 H3/\∃d,xs[i]?=some d/\Rep K H3 B x d
def tDW (K:W.Frag)(f:Rho->Res (G×List D)):TI:=fun σ H R=>∃ρ F w,StOk K F H σ ρ/\f ρ=.ok w/\∀J B H',Same H H'->(∀a,B a->BG F H w.1 a/\¬nw H' a)->Walk K J B H' w.2->R J H'
theorem _root_.L2.PI.imp {X:Cx}{tg e:Expr}{t t':TI}(h:PI X tg e t)(i:∀σ H Q,t' σ H Q->t σ H Q):PI X tg e t':=fun pins s σ H Q I q=>h pins s σ H Q I (i σ H Q q)
section
variable {K:W.Frag}{H:Hp}{B:Ad->Prop}
theorem zer {a:Addr}{vs:List V}{ds:List D}(h:(H a=some (.lst vs)/\B (some a))\/(FL K H a vs/\B none))(r:Reps K H B vs ds)(hz:ds.length<=bh):Walk K (Itl K a) B H ds:=by
 have sq:∀H2,Kp B H H2->SqL K H2 a vs:=fun H2 k=>by
  rcases h with⟨h,b⟩|⟨⟨o,h⟩|h,_⟩
  ·exact .inl (.inl (k a _ h (.inl b)))
  ·exact .inl (.inr ⟨o,k a _ h (.inr True.intro)⟩)
  ·exact .inr h
 refine⟨hz,fun H2 k i hi=>?_,fun H2 k=>⟨vs,sq H2 k,by rw[r.length];exact am _⟩,fun H2 k i x H3 hi y=>?_⟩
 ·have hv:i<vs.length:=by rw[r.length];exact hi
  exact⟨vs,vs[i],sq H2 k,by simp[hv]⟩
 ·obtain⟨e,y⟩:=y;subst e;have hx:=y vs (sq _ k);obtain⟨d,h1,h2⟩:=r.getV hx;exact⟨Same.refl _,d,h1,Rep.keep k (fun _ z=>z) d h2⟩
theorem zh9 {a:Addr}{vs:List V}{ds:List D}(h:SqT K H a vs)(r:Reps K H B vs ds)(hz:ds.length<=bh):Walk K (Itt K a) B H ds:=by
 have sq:∀H2,Kp B H H2->SqT K H2 a vs:=fun H2 k=>h.keep k;refine⟨hz,fun H2 k i hi=>?_,fun H2 k=>⟨vs,sq H2 k,by rw[r.length];exact am _⟩,fun H2 k i x H3 hi y=>?_⟩
 ·have hv:i<vs.length:=by rw[r.length];exact hi
  exact⟨vs,vs[i],sq H2 k,by simp[hv]⟩
 ·obtain⟨e,y⟩:=y;subst e;have hx:=y vs (sq _ k);obtain⟨d,h1,h2⟩:=r.getV hx;exact⟨Same.refl _,d,h1,Rep.keep k (fun _ z=>z) d h2⟩
theorem zgn {z:Str}(ok:PyData.strOk z=true)(hz:z.length<=bh):Walk K (Its z) B H (z.cps.toList.map fun c=>.str ⟨#[c]⟩):=by
 have hl:(z.cps.toList.map fun c=>(PyData.str ⟨#[c]⟩:D)).length=z.cps.size:=by simp
 refine⟨by rw[hl];exact hz,fun H2 k i hi=>?_,fun H2 k=>?_,fun H2 k i x H3 hi y=>?_⟩
 ·rw[hl]at hi;exact hi
 ·show z.cps.size<=_;rw[hl];exact am _
 ·obtain⟨e,c,hc,rfl⟩:=y;subst e;have hc':z.cps.toList[i]?=some c:=by simpa using hc
  refine⟨Same.refl _,.str ⟨#[c]⟩,by rw[bx,hc'];rfl,rfl,z7u ok (b8 hc')⟩
theorem zez {lo:Int}{n:Nat}(hz:n<=bh):Walk K (Itr lo n) B H ((cj n).map fun(i:Nat)=>.int (lo+i)):=by
 have hl:((cj n).map fun(i:Nat)=>(PyData.int (lo+i):D)).length=n:=by simp
 refine⟨by rw[hl];exact hz,fun H2 k i hi=>?_,fun H2 k=>?_,fun H2 k i x H3 hi y=>?_⟩
 ·rw[hl]at hi;exact hi
 ·show n<=_;rw[hl];exact am _
 ·obtain⟨e,rfl⟩:=y;subst e;rw[hl]at hi;exact⟨Same.refl _,.int (lo+i),by rw[bx,m8 hi];rfl,rfl⟩
end
section
variable {X:Cx}{tg a b c e:Expr}{es:List Expr}{fa fb fc:Rho->Res GD}{pos:Pos}
theorem z41 {pins:List (Addr×Obj)}{σ:L2.St}{H1:Hp}{s1:ac}{v:Value}{y:V}{B:Ad->Prop}{d:D}{xs:List D}{R:It->Hp->Prop}(I1:Inv X pins σ H1 s1)(r1:RelV y v)(rv:Rep X.K H1 B y d)(e:z66 d=.ok xs)
  (q:∀J,Walk X.K J B H1 xs->R J H1):wpAny (model X.prog X.w) X.A (ox v) (PIE X pins σ tg R) X.xe s1:=by
 cases d<;>try (cases e;done)
 case list ds=>
  cases e;obtain⟨a,vs,rfl,h,rs⟩:=rv
  have hq:SqL X.K H1 a vs:=by
   rcases h with⟨h,_⟩|⟨h|h,_⟩
   ·exact .inl (.inl h)
   ·exact .inl (.inr h)
   ·exact .inr h
  cases r1;obtain⟨its,rv',p,hz⟩:=I1.list hq;refine on p.isList ?_;refine⟨s1.heap.objs.size,[s1.heap.objs.size],_,_,H1,rfl,I1.kept (t':=s1.toks) fun b o e=>ae _ e,zci a _,⟨_,ay _ rfl,rfl,rfl⟩,fun b hb=>?_,q _ (zer h rs (by rw[<-rs.length];exact hz))⟩;have e:b=s1.heap.objs.size:=by simpa using hb
  subst e;exact I1.fpOk (am _) (I1.hok.fresh (am _))
 case tuple ds=>
  cases e;obtain⟨a,vs,rfl,hq,rs⟩:=rv;cases r1;obtain⟨its,rv',p,hz⟩:=I1.tuple hq;refine n4 (show s1.heap.IsTuple a its.toArray from p) ?_;refine⟨s1.heap.objs.size,[s1.heap.objs.size],_,_,H1,rfl,I1.kept (t':=s1.toks) fun b o e=>ae _ e,zb4 a _,⟨_,ay _ rfl,rfl,rfl⟩,fun b hb=>?_,q _ (zh9 hq rs (by rw[<-rs.length];exact hz))⟩;have e:b=s1.heap.objs.size:=by simpa using hb
  subst e;exact I1.fpOk (am _) (I1.hok.fresh (am _))
 case str z=>
  change(if z.length<=LIM then Res.ok (z.cps.toList.map fun c=>PyData.str ⟨#[c]⟩)else .no)=_ at e;split at e
  case isFalse=>cases e
  rename_i hs;cases e;have e1:y=.str z:=rv.1;subst e1;obtain⟨t,rfl⟩:=r1;have qz:=q _ (zgn rv.2 (z0q hs))
  have fin:∀(ty:String) (hty:ty="str_ascii_iterator"\/ty="str_iterator"),PIE X pins σ tg R (.ref s1.heap.objs.size) {s1 with heap:=s1.heap.push {cls:=.type ty,data:=.fields #[.str z t,.int 0 0]}}:=fun ty hty=>by
   refine⟨s1.heap.objs.size,[s1.heap.objs.size],_,_,H1,rfl,I1.kept (t':=s1.toks) fun b o e=>ae _ e,zgl hty _ z t,⟨_,ay _ rfl,rfl,rfl⟩,fun b hb=>?_,qz⟩;have e:b=s1.heap.objs.size:=by simpa using hb
   subst e;exact I1.fpOk (am _) (I1.hok.fresh (am _))
  cases ha:z.cps.all (· <128)
  ·exact wpAny_pyIter_wide ha (fin _ (.inr rfl))
  ·exact wpAny_pyIter_ascii ha (fin _ (.inl rfl))
theorem w_tv (ha:PE X a (tD X.K fa)):PI X tg a (tDW X.K fun ρ=>fa ρ>>=fun x=>z66 x.2>>=fun xs=>.ok (x.1,xs)):=by intro pins s σ H R I h;obtain⟨ρ,F,w,so,e,q⟩:=h;obtain⟨x,e1,e⟩:=Res.bind_ok e;obtain⟨xs,e2,e⟩:=Res.bind_ok e;cases e;refine thn (ha pins s σ H (fun v H1=>Same H H1/\Rep X.K H1 (BG F H x.1) v x.2) I ⟨ρ,F,x,so,e1,fun v H1 s1 rv=>⟨s1,rv⟩⟩) fun v s1 zz=>?_;obtain⟨y,H1,I1,r1,s1',rv⟩:=zz;exact z41 I1 r1 (Rep.there _ rv) e2 fun J wk=>q J _ H1 s1' (fun _ z=>z) wk
theorem zot {n:Int}(h1:n<=LIM)(h2:-LIM<=n):-(2 ^ 62)<=n/\n<2 ^ 62:=by unfold LIM at *;omega
theorem RGs.one {K:W.Frag}{F:Fm}{H H':Hp}{vs:List V}{x:GD}(r:RGs K F H H' vs [x]):∃v,vs=[v]/\Rep K H' (BG F H x.1) v x.2:=by obtain⟨v,t,e,h,q⟩:=r;have e2:t=[]:=q;subst e e2;exact⟨v,rfl,h⟩
theorem RGs.two {K:W.Frag}{F:Fm}{H H':Hp}{vs:List V}{x y:GD}(r:RGs K F H H' vs [x,y]):∃v w,vs=[v,w]/\Rep K H' (BG F H x.1) v x.2/\Rep K H' (BG F H y.1) w y.2:=by obtain⟨v,t,e,h,q⟩:=r;obtain⟨w,e2,h2⟩:=q.one;subst e e2;exact⟨v,w,rfl,h,h2⟩
theorem zof {p:Pos}{fs:Rho->Res (List GD)}(hm:X.mg "range"=none)(hg:Gl X "range")(hs:isStar a=false)(ha:PA X [a] (tDA X.K fs))(hl:∀ρ ys,fs ρ=.ok ys->ys.length=1):PI X tg (.Call (.Name "range" p) [a] [] pos) (tDW X.K fun ρ=>fs ρ>>=fun ys=>rngD (ys.map (·.2))>>=fun xs=>.ok (.fr,xs)):=
 PI.imp (zc2 hg hm ha (z0j hs)) fun σ H R zz=>by
  obtain⟨ρ,F,w,so,e,q⟩:=zz;obtain⟨ys,e1,e⟩:=Res.bind_ok e;obtain⟨xs,e2,e⟩:=Res.bind_ok e;cases e;refine⟨ρ,F,ys,so,e1,fun vs H1 s1 rs=>?_⟩;have hy:=hl ρ ys e1
  match ys,hy with
  | [(g,d)],hy1=>
   clear hy1;obtain⟨v,rfl,rv⟩:=rs.one;cases d<;>try (cases e2;done)
   rename_i n;have ev:v=.int n:=rv;subst ev;change(if n<=LIM/\-LIM<=n then Res.ok ((cj n.toNat).map fun(i:Nat)=>PyData.int i)else .no)=_ at e2;split at e2
   case isFalse=>cases e2
   rename_i hn;cases e2;have h62:=zot hn.1 hn.2;refine⟨n,rfl,h62.1,h62.2,q _ (fun _=>False) H1 s1 (fun _ z=>z.elim) ?_⟩;have e0:((cj n.toNat).map fun(i:Nat)=>(PyData.int i:D))=(cj n.toNat).map fun(i:Nat)=>.int (0+i):=by apply rh;intro i _;rw[Int.zero_add]
   show Walk X.K (Itr 0 n.toNat) _ H1 ((cj n.toNat).map fun(i:Nat)=>(PyData.int i:D));rw[e0];exact zez (z0q (by unfold LIM at *;omega))
def Fm.drop (F:Fm)(i:Nat):Fm:={F with O:=fun a=>if F.O a=some i then none else F.O a}
theorem Fm.drop_none {F:Fm}{i:Nat}{a:Addr}(h:F.O a=none):(F.drop i).O a=none:=by show(if F.O a=some i then none else F.O a)=none;rw[h];rfl
theorem Bin.drop {F:Fm}{i:Nat}{a:Ad}(h:Bin F a):Bin (F.drop i) a:=by
 cases a with
 |none=>exact h
 |some a=>exact⟨Fm.drop_none h.1,h.2⟩
theorem Slot.drop {K:W.Frag}{F:Fm}{H:Hp}{i j:Nat}{g:G}{v:V}{d:D}(hij:j≠i)(h:Slot K F H j g v d):Slot K (F.drop i) H j g v d:=by
 cases g with
 |fr=>
  obtain⟨p,e,o,h⟩:=h;refine⟨p,e,?_,?_⟩
  ·show(if F.O p=some i then none else F.O p)=some j;rw[o,if_neg (fun z=>hij (Option.some.inj z))]
  ·rcases h with⟨vs,ds,e1,e2,r⟩|⟨vs,ds,e1,e2,r⟩
   ·exact .inl ⟨vs,ds,e1,e2,r.weak fun _ b=>b.drop⟩
   ·exact .inr ⟨vs,ds,e1,e2,REs.same (fun _ _ e=>e) (fun _ b=>b.drop) r⟩
 |od=>exact h
 |al=>exact h
def BI (F:Fm):G->Ad->Prop
 |.od=>oldA F
 |.fr=>visA F
 |.al=>visA F
theorem BI.of {F:Fm}{H:Hp}{g:G}{a:Ad}(hv:∀a,H a=none->F.V a)(h:BG F H g a):BI F g a:=by
 cases g with
 |fr=>exact nw.vis hv h
 |od=>exact h
 |al=>exact h
theorem StOk.setI {K:W.Frag}{F:Fm}{H:Hp}{σ:L2.St}{ρ:Rho}{x:GD}{v:V}{i:Nat}(so:StOk K F H σ ρ)(r:Rep K H (BI F x.1) v x.2):StOk K (F.drop i) H (σ.set i (some v)) (ρ.set i (some (z2u x))) where
 ext:=so.ext
 vis:=so.vis
 own:=fun a j e=>by
  have e':F.O a=some j:=by
   have:(if F.O a=some i then none else F.O a)=some j:=e;split at this
   ·cases this
   ·exact this
  exact so.own a j e'
 len:=by rw[cn,cn];exact so.len
 sl:=fun j g d e=>by
  by_cases hj:i=j
  ·subst hj;rw[i7]at e;simp only[if_true]at e;split at e
   ·rename_i hl;have e1:z2u x=(g,d):=by simpa using e
    refine⟨v,?_,?_⟩
    ·rw[i7];simp[so.len,hl]
    ·obtain⟨gx,dx⟩:=x;cases gx with
     |fr=>cases e1;exact r
     |od=>cases e1;exact r
     |al=>cases e1;exact r
   ·cases e
  ·rw[bv hj]at e ⊢;obtain⟨u,h1,h2⟩:=so.sl j g d e;exact⟨u,h1,h2.drop fun z=>hj z.symm⟩
structure Keeps (F F':Fm)(is:List Nat)(σ σ':L2.St):Prop where
 h0:F'.H0=F.H0
 v:F'.V=F.V
 o:∀a,F.O a=none->F'.O a=none
 len:σ'.length=σ.length
 rest:∀j,j∉is->σ'[j]?=σ[j]?
theorem Keeps.refl {F:Fm}{is:List Nat}{σ:L2.St}:Keeps F F is σ σ:=⟨rfl,rfl,fun _ h=>h,rfl,fun _ _=>rfl⟩
theorem Keeps.set {F:Fm}{is:List Nat}{i:Nat}{σ:L2.St}{v:Option V}(h:i∈is):Keeps F (F.drop i) is σ (σ.set i v):=⟨rfl,rfl,fun _ h=>Fm.drop_none h,cn,fun j hj=>bv fun z=>hj (by rw[<-z];exact h)⟩
theorem Keeps.trans {F F' F'':Fm}{is:List Nat}{σ σ' σ'':L2.St}(a:Keeps F F' is σ σ')(b:Keeps F' F'' is σ' σ''):Keeps F F'' is σ σ'':=⟨b.h0.trans a.h0,b.v.trans a.v,fun x h=>b.o x (a.o x h),b.len.trans a.len,fun j hj=>(b.rest j hj).trans (a.rest j hj)⟩
def tDG (K:W.Frag)(t:Tg):TG:=fun v σ H Q=>∃ρ F x ρ',StOk K F H σ ρ/\Rep K H (BI F x.1) v x.2/\z19 t x ρ=.ok ρ'/\∀σ' F',StOk K F' H σ' ρ'->Keeps F F' (tgIx t) σ σ'->Q σ' H
theorem _root_.L2.PG.imp {X:Cx}{e:Expr}{t t':TG}(h:PG X e t)(i:∀v σ H Q,t' v σ H Q->t v σ H Q):PG X e t':=fun pins s σ H v u Q I r q=>h pins s σ H v u Q I r (i v σ H Q q)
theorem _root_.L2.PGs.imp {X:Cx}{e:List Expr}{t t':TGs}(h:PGs X e t)(i:∀v σ H Q,t' v σ H Q->t v σ H Q):PGs X e t':=fun pins s σ H v u Q I r q=>h pins s σ H v u Q I r (i v σ H Q q)
theorem zpj {i:Nat}{x:Str}(hN:X.N.Nodup)(hi:X.N[i]?=some x)(hx:Loc X.env.scope x)(hf:X.fn x=true\/X.env.scope.names.lookup x=some .local):PG X (.Name x pos) (tDG X.K (.nm i)):=PG.imp (ze8 hN hi hx hf) fun v σ H Q zz=>by obtain⟨ρ,F,x,ρ',so,r,e,q⟩:=zz;cases e;exact q _ _ (so.setI r) (Keeps.set (by simp[tgIx]))
def tDGs (K:W.Frag)(all is:List Nat):TGs:=fun vs σ H Q=>∃ρ F g ds ρ',(∀i∈is,i∈all)/\StOk K F H σ ρ/\Reps K H (BI F g) vs ds/\z30 ρ is ds g=some ρ'/\∀σ' F',StOk K F' H σ' ρ'->Keeps F F' all σ σ'->Q σ' H
theorem zmz {all:List Nat}:PGs X [] (tDGs X.K all []):=
 PGs.imp zjt fun vs σ H Q zz=>by
  obtain⟨ρ,F,g,ds,ρ',_,so,r,e,q⟩:=zz;cases ds with
  |nil=>cases e;have e2:vs=[]:=r;exact⟨e2,q σ F so Keeps.refl⟩
  |cons d ds=>cases e
theorem zli {all is:List Nat}{i:Nat}{x:Str}{es:List Expr}{p:Pos}(hN:X.N.Nodup)(hi:X.N[i]?=some x)(hx:Loc X.env.scope x)(hf:X.fn x=true\/X.env.scope.names.lookup x=some .local)(h:PGs X es (tDGs X.K all is)):PGs X (.Name x p::es) (tDGs X.K all (i::is)):=
 PGs.imp (zg1 (ze8 hN hi hx hf) h (by rfl)) fun vs σ H Q zz=>by
  obtain⟨ρ,F,g,ds,ρ',hin,so,r,e,q⟩:=zz;cases ds with
  |nil=>cases e
  |cons d ds=>
   obtain⟨v,t,rfl,h1,h2⟩:=r;refine⟨v,t,rfl,ρ.set i (some (z2u (gJ d g,d))),F.drop i,g,ds,ρ',fun j hj=>hin j (aq _ hj),?_,?_,e,fun σ' F' so' k=>q σ' F' so' ((Keeps.set (hin i ak)).trans k)⟩
   ·refine so.setI ?_;show Rep X.K H (BI F (gJ d g)) v d;unfold gJ;by_cases hi:imm d=true
    ·rw[if_pos hi];exact Rep.immB d hi h1
    ·rw[if_neg hi];exact h1
   ·exact h2.weak fun a b=>by cases g<;>exact b
theorem zvm {is:List Nat}{es:List Expr}{k:Nat}{n:Nat}(hc:X.calm=true)(h:PGs X es (tDGs X.K is is))(hn:(g7 es X.env).length=n)(hst:(g7 es X.env).findIdx? (·.1)=none)(hl:is.length=n):PG X (.Tuple es k pos) (tDG X.K (.tp is)):=
 PG.imp (znm hc h hn hst) fun v σ H Q zz=>by
  obtain⟨ρ,F,x,ρ',so,r,e,q⟩:=zz;obtain⟨g,d⟩:=x;cases d<;>try (cases e;done)
  rename_i ds;obtain⟨a,vs,rfl,h1,h2⟩:=r;cases e1:z30 ρ is ds g with
  |none=>change Res.ofO (z30 ρ is ds g)=_ at e;rw[e1]at e;cases e
  |some ρ1=>
   change Res.ofO (z30 ρ is ds g)=_ at e;rw[e1]at e;have e':ρ1=ρ':=Res.ok.inj e;subst e'
   have hlen:∀(is:List Nat) (ds:List D) (ρ ρ1:Rho),z30 ρ is ds g=some ρ1->is.length=ds.length:=by
    intro is
    induction is with
    |nil=>intro ds ρ ρ1 h;cases ds with
     |nil=>rfl
     |cons _ _=>cases h
    |cons i is ih=>intro ds ρ ρ1 h;cases ds with
     |nil=>cases h
     |cons d ds=>rw[bq,bq,ih ds _ _ h]
   exact⟨a,vs,rfl,h1,by rw[h2.length,<-hlen _ _ _ _ e1];exact hl,ρ,F,g,ds,ρ1,fun _ h=>h,so,h2,e1,q⟩
theorem StOk.blk {K:W.Frag}{F:Fm}{H:Hp}{σ:L2.St}{ρ:Rho}(so:StOk K F H σ ρ)(nt:Nat)(js:List Nat)(l:Addr)(xs:List V)(hl:H l=none):
  StOk K {F with V:=fun a=>F.V a/\a≠l,O:=fun _=>none} (upd H l (.lst xs)) (emb nt js σ) (bj nt none++js.map fun j=>toAl (ρ.getD j none)) where
 ext:=fun a o e=>by have:=so.ext a o e;rw[z06 (z08 this hl)];exact this
 vis:=fun a e=>by
  by_cases h:a=l
  ·subst h;rw[z0b]at e;cases e
  ·rw[z06 h]at e;exact⟨so.vis a e,h⟩
 own:=fun a i e=>by cases e
 len:=by unfold emb;simp
 sl:=fun i g d e=>by
  have hB:∀(a:Ad),visA F a/\¬nw H a->visA {F with V:=fun a=>F.V a/\a≠l,O:=fun _=>none} a:=fun a h=>by
   cases a with
   |none=>exact True.intro
   |some a=>exact⟨h.1,fun z=>h.2 (by rw[z];exact hl)⟩
  have hB2:∀(a:Ad),oldA F a/\¬nw H a->oldA {F with V:=fun a=>F.V a/\a≠l,O:=fun _=>none} a:=fun a h=>by
   cases a with
   |none=>exact True.intro
   |some a=>exact⟨h.1.1,h.1.2,fun z=>h.2 (by rw[z];exact hl)⟩
  rw[mo]at e;split at e
  ·rw[fq]at e;split at e<;>cases e
  ·rename_i hi;rw[cx]at hi e;rw[bx]at e;cases ej:js[i-nt]? with
   |none=>rw[ej]at e;cases e
   |some j=>
    rw[ej]at e;have e1:toAl (ρ.getD j none)=some (g,d):=Option.some.inj e;cases er:ρ[j]? with
    |none=>rw[a9,er]at e1;cases e1
    |some o=>
     rw[a9,er]at e1;cases o with
     |none=>cases e1
     |some gd=>
      obtain⟨g0,d0⟩:=gd;obtain⟨v,h1,h2⟩:=so.sl j g0 d0 er;refine⟨v,?_,?_⟩
      ·unfold emb;rw[f9 (by rw[cx];omega),cx,bx,ej];show some (σ.getD j none)=_;rw[a9,h1];rfl
      ·cases g0 with
       |fr=>cases e1;exact Rep.same (Same.upd hl) hB (Rep.there _ (h2.rep so.ownV))
       |od=>cases e1;exact Rep.same (Same.upd hl) hB2 (Rep.there _ h2)
       |al=>cases e1;exact Rep.same (Same.upd hl) hB (Rep.there _ h2)
theorem z4h {f:D->Res (Option GD)}:∀(l m:List D) (r:List GD),z3l f (l++m)=.ok r->∃r1 r2,z3l f l=.ok r1/\z3l f m=.ok r2/\r=r1++r2
 | [],m,r,h=>⟨[],r,rfl,h,rfl⟩
 |x::l,m,r,h=>by
  obtain⟨o,e1,h⟩:=Res.bind_ok h;obtain⟨r',e2,h⟩:=Res.bind_ok h;obtain⟨r1,r2,h1,h2,h3⟩:=z4h l m r' e2;subst h3;cases h;refine⟨oc o r1,r2,?_,h2,?_⟩
  ·show(f x>>=fun o=>z3l f l>>=fun r=>Res.ok (oc o r))=_;rw[e1,Res.ok_bind,h1,Res.ok_bind]
  ·cases o<;>rfl
theorem RGs.snoc {K:W.Frag}{F:Fm}{H H':Hp}:∀{vs:List V} {xs:List GD} {v:V} {x:GD},RGs K F H H' vs xs->Rep K H' (BG F H x.1) v x.2->RGs K F H H' (vs++[v]) (xs++[x])
 |vs,[],v,x,r,h=>by have e:vs=[]:=r;subst e;exact⟨v,[],rfl,h,rfl⟩
 |vs,y::ys,v,x,r,h=>by obtain⟨u,t,e,h1,q⟩:=r;subst e;exact⟨u,t++[v],rfl,h1,q.snoc h⟩
theorem RGs.keep {K:W.Frag}{F:Fm}{H H1 H2:Hp}(hk:∀a o (g:G),H1 a=some o->(BG F H g (some a)\/Fix o)->H2 a=some o):∀{vs:List V} {xs:List GD},RGs K F H H1 vs xs->RGs K F H H2 vs xs
 |vs,[],r=>r
 |vs,y::ys,r=>by obtain⟨u,t,e,h1,q⟩:=r;exact⟨u,t,e,Rep.keep (fun a o e b=>hk a o y.1 e b) (fun _ z=>z) _ h1,q.keep hk⟩
theorem RGs.len {K:W.Frag}{F:Fm}{H H':Hp}:∀{vs:List V} {xs:List GD},RGs K F H H' vs xs->vs.length=xs.length
 |vs,[],r=>by have e:vs=[]:=r;subst e;rfl
 |vs,y::ys,r=>by obtain⟨u,t,e,h1,q⟩:=r;subst e;rw[bq,bq,q.len]
theorem z7z {f:D->Res (Option GD)}:∀(l:List D) (r:List GD),z3l f l=.ok r->r.length<=l.length
 | [],r,h=>by cases h;exact am _
 |x::l,r,h=>by
  obtain⟨o,e1,h⟩:=Res.bind_ok h;obtain⟨r',e2,h⟩:=Res.bind_ok h;have:=z7z l r' e2;cases h;cases o with
  |none=>exact b6 this (by simp)
  |some y=>simp only[oc,bq];omega
def zem (nt:Nat)(js:List Nat)(t:Tg)(fw:Rho->Res (G×List D))(fc:Rho->Res Bool)(fe:Rho->Res GD):Rho->Res GD:=fun ρ=>fw ρ>>=fun w=>z3l (fun x=>z19 t (gJ x w.1,x) (bj nt none++js.map fun j=>toAl (ρ.getD j none))>>=fun ρ1=>fc ρ1>>=fun k=>if k then fe ρ1>>=fun y=>.ok (some y)else .ok none) w.2>>=fun ys=>.ok (gAll ys,.list (ys.map (·.2)))
def lcB (g:TG)(tc:TT)(te:TE)(em:L2.St->L2.St)(σ:L2.St)(Q:VK):It->Hp->Prop:=fun J H1=>∀l,H1 l=none->∃P:Nat->Nat->List V->Hp->Prop,(∃m,P 0 m [] (upd H1 l (.lst [])))/\∀i m acc H2,P i m acc H2->(J.stop i H2/\Q (.ref l) H2)\/(J.go i H2/\acc.length<bh/\∃N:List V->Hp->Prop,(∀acc' H',N acc' H'->∃m',m'<m/\P (i+1) m' acc' H')/\∀x H3,J.yld i H2 x H3->g x (em σ) H3 fun σ4 H4=>Keep (em σ) σ4/\tc σ4 H4 fun b H5=>if b=true then te σ4 H5 fun y H6=>H6 l=some (.lst acc)/\N (acc++[y]) (upd H6 l (.lst (acc++[y])))else N acc H5)
abbrev CI (K:W.Frag)(F:Fm)(f:D->Res (Option GD))(ds:List D)(H1:Hp)(l:Nat)(i:Nat)(acc:List V)(H2:Hp):Prop:=H2 l=some (.lst acc)/\(∀a o,H1 a=some o->H2 a=some o)/\∃ys,z3l f (ds.take i)=.ok ys/\RGs K F (upd H1 l (.lst [])) H2 acc ys
theorem zaw {nt:Nat}{js:List Nat}{t:Tg}{fw:Rho->Res (G×List D)}{fc:Rho->Res Bool}{fe:Rho->Res GD}(ht0:∀i∈tgIx t,i<nt){σ:L2.St}{H:Hp}{Q:VK}{ρ:Rho}{F:Fm}{z:GD}(so:StOk X.K F H σ ρ)(e:zem nt js t fw fc fe ρ=.ok z)(q:∀v H',Same H H'->Rep X.K H' (BG F H z.1) v z.2->Q v H'):
  ∃w,fw ρ=.ok w/\∀J B H',Same H H'->(∀a,B a->BG F H w.1 a/\¬nw H' a)->Walk X.K J B H' w.2->lcB (tDG X.K t) (tDT X.K fc) (tD X.K fe) (emb nt js) σ Q J H':=by
 obtain⟨w,e1,e⟩:=Res.bind_ok e;obtain⟨ysA,e2,e⟩:=Res.bind_ok e;cases e;refine⟨w,e1,fun J B H1 s1 hB wk l hl=>?_⟩;generalize hr:(bj nt none++js.map fun j=>toAl (ρ.getD j none))=ρ0 at e2;generalize hf:(fun x=>z19 t (gJ x w.1,x) ρ0>>=fun ρ1=>fc ρ1>>=fun k=>if k then fe ρ1>>=fun y=>Res.ok (some y)else .ok none)=f at e2;have so1:=so.same s1;have hpre:∀i,∃ys,z3l f (w.2.take i)=.ok ys:=fun i=>by rw[<-List.take_append_drop i w.2]at e2;obtain⟨r1,r2,h1,_,_⟩:=z4h _ _ _ e2;exact⟨r1,h1⟩
 let Fb:Fm:={F with V:=fun a=>F.V a/\a≠l,O:=fun _=>none}
 refine zvi (n:=w.2.length) (CI X.K Fb f w.2 H1 l) wk.len ?_ ?_ ?_ ?_ ?_
 ·exact⟨z0b,fun a o e=>by rw[z06 (z08 e hl)];exact e,[],rfl,rfl⟩
 ·rintro i acc H2 ⟨_,_,ys,hy,rs⟩
  rw[rs.len];have:=z7z _ _ hy;rw[gg]at this;omega
 ·rintro acc H2 ⟨h1,h2,ys,hy,rs⟩
  rw[List.take_length]at hy;rw[e2]at hy;cases hy;have kp:Kp B H1 H2:=fun a o e _=>h2 a o e;refine⟨wk.stop H2 kp,q _ _ (fun a o e=>h2 a o (s1 a o e)) ?_⟩;have hHl:H l=none:=s1.none hl;refine⟨l,acc,rfl,.inl ⟨h1,?_⟩,rs.reps fun x hx a hb=>?_⟩
  ·exact z45 so.vis (Same.refl H) (show nw H (some l)from hHl)
  ·unfold gAll;by_cases ea:(ysA.all fun x=>x.1==.fr)=true
   ·rw[if_pos ea];have hx1:x.1=.fr:=by simpa using bt.mp ea x hx
    rw[hx1]at hb;cases a with
    |none=>exact hb
    |some a=>
     have hb':upd H1 l (.lst []) a=none:=hb
     have:H1 a=none:=by
      by_cases hal:a=l
      ·subst hal;exact hl
      ·rw[z06 hal]at hb';exact hb'
     exact s1.none this
   ·rw[if_neg ea];have:visA Fb a:=BG.vis (F:=Fb) (H:=upd H1 l (.lst [])) (fun a e=>((so1.blk nt js l [] hl).vis a e)) hb;cases a with
    |none=>exact True.intro
    |some a=>exact this.1
 ·rintro i acc H2 hi ⟨_,h2,_⟩
  exact wk.go H2 (fun a o e _=>h2 a o e) i hi
 ·rintro i acc H2 x H3 hi ⟨h1,h2,ys,hy,rs⟩ y
  obtain⟨s3,d,hd,rx⟩:=wk.yld H2 (fun a o e _=>h2 a o e) i x H3 hi y;obtain⟨ys',hy'⟩:=hpre (i+1);have htk:w.2.take (i+1)=w.2.take i++[d]:=by rw[List.take_add_one,hd];rfl
  rw[htk]at hy';obtain⟨r1,r2,g1,g2,g3⟩:=z4h _ _ _ hy';rw[hy]at g1;cases g1;obtain⟨o,g4,g2⟩:=Res.bind_ok g2;obtain⟨r3,g5,g2⟩:=Res.bind_ok g2;cases g5;rw[<-hf]at g4;obtain⟨ρ1,k1,g4⟩:=Res.bind_ok g4;obtain⟨k,k2,g4⟩:=Res.bind_ok g4
  have sb:StOk X.K Fb H3 (emb nt js σ) ρ0:=by
   rw[<-hr];refine(so1.blk nt js l acc hl).same fun a o e=>s3 a o ?_;by_cases hal:a=l
   ·subst hal;rw[z0b]at e;rw[h1];exact e
   ·rw[z06 hal]at e;exact h2 a o e
  have rx':Rep X.K H3 (BI Fb (gJ d w.1)) x d:=by
   unfold gJ;by_cases hi:imm d=true
   ·rw[if_pos hi];exact Rep.immB d hi rx
   ·rw[if_neg hi];refine rx.weak fun a b=>?_;obtain⟨b1,b2⟩:=hB a b;have b3:=BI.of so.vis b1;cases a with
    |none=>cases hw:w.1<;>rw[hw]at b3<;>exact True.intro
    |some a=>
     have hal:a≠l:=fun z=>b2 (by show H1 a=none;rw[z];exact hl);cases hw:w.1<;>rw[hw]at b3
     ·exact⟨b3,hal⟩
     ·exact⟨b3.1,b3.2,hal⟩
     ·exact⟨b3,hal⟩
  refine⟨_,Fb,(gJ d w.1,d),ρ1,sb,rx',k1,fun σ4 F4 so4 kps=>⟨⟨kps.len.symm,fun j v hj=>?_⟩,ρ1,F4,k,so4,k2,fun H5 s5=>?_⟩⟩
  ·by_cases hjt:j∈tgIx t
   ·have :=ht0 j hjt;unfold emb at hj;rw[ip (by rw[cx];exact this),fq,if_pos this]at hj;cases hj
   ·rw[kps.rest j hjt];exact hj
  ·have h5:∀a o,H1 a=some o->H5 a=some o:=fun a o e=>s5 a o (s3 a o (h2 a o e));have h5l:H5 l=some (.lst acc):=s5 _ _ (s3 _ _ h1);have rs5:RGs X.K Fb (upd H1 l (.lst [])) H5 acc ys:=rs.keep fun a o g e _=>s5 a o (s3 a o e);cases k with
   |false=>cases g4;cases g2;refine iteF ⟨h5l,h5,ys,?_,rs5⟩;rw[htk,hy',g3];simp[oc]
   |true=>
    obtain⟨yv,k3,g4⟩:=Res.bind_ok g4;cases g4;cases g2;refine iteT ⟨ρ1,F4,yv,so4.same s5,k3,fun v H6 s6 rv=>⟨s6 _ _ h5l,z0b,fun a o e=>?_,ys++[yv],?_,?_⟩⟩
    ·rw[z06 (z08 e hl)];exact s6 a o (h5 a o e)
    ·rw[htk,hy',g3];rfl
    ·have h6l:=s6 _ _ h5l
     have hk:∀a o (g:G),H6 a=some o->(BG Fb (upd H1 l (.lst [])) g (some a)\/Fix o)->upd H6 l (.lst (acc++[v])) a=some o:=fun a o g e b=>by
      have hal:a≠l:=by
       intro z;subst z;rcases b with b|b
       ·cases g with
        |fr=>have b':upd H1 a (.lst []) a=none:=b;rw[z0b]at b';cases b'
        |od=>exact b.2.2 rfl
        |al=>exact b.2 rfl
       ·rw[h6l]at e;cases e;exact b
      rw[z06 hal];exact e
     have rs6:RGs X.K Fb (upd H1 l (.lst [])) H6 acc ys:=rs5.keep fun a o g e _=>s6 a o e
     have rv':Rep X.K H6 (BG Fb (upd H1 l (.lst [])) yv.1) v yv.2:=by
      refine rv.weak fun a b=>?_;cases hg:yv.1 with
      |fr=>
       rw[hg]at b;cases a with
       |none=>exact b
       |some a=>
        have b':H5 a=none:=b;show upd H1 l (.lst []) a=none;have hal:a≠l:=fun z=>by rw[z,h5l]at b';cases b'
        rw[z06 hal];cases e1:H1 a with
        |none=>rfl
        |some o=>rw[h5 a o e1]at b';cases b'
      |od=>
       rw[hg]at b;cases a with
       |none=>exact True.intro
       |some a=>have b1:F4.H0 a≠none/\F4.V a:=b;rw[kps.h0,kps.v]at b1;exact b1
      |al=>
       rw[hg]at b;cases a with
       |none=>exact True.intro
       |some a=>have b1:F4.V a:=b;rw[kps.v]at b1;exact b1
     exact(rs6.snoc rv').keep hk
theorem zce {nt:Nat}{js:List Nat}{t:Tg}{fw:Rho->Res (G×List D)}{fc:Rho->Res Bool}{fe:Rho->Res GD}(ht0:∀i∈tgIx t,i<nt):∀σ H Q,tD X.K (zem nt js t fw fc fe) σ H Q->tLC (tDW X.K fw) (tDG X.K t) (tDT X.K fc) (tD X.K fe) (emb nt js) σ H Q:=by intro σ H Q h;obtain⟨ρ,F,z,so,e,q⟩:=h;obtain⟨w,e1,h⟩:=zaw (X:=X) (js:=js) (fw:=fw) (fc:=fc) (fe:=fe) ht0 so e q;exact⟨ρ,F,w,so,e1,h⟩
theorem zi8 {scope:Scope}{N':List Str}{nt:Nat}{js:List Nat}{t:Tg}{iter elt:Expr}{ifs:List Expr}{fw:Rho->Res (G×List D)}{fc:Rho->Res Bool}{fe:Rho->Res GD}(hc:X.calm=true)(Bk:BlkScope X scope N' nt js)(ht0:∀i∈tgIx t,i<nt)(hi:PI X tg iter (tDW X.K fw))
  (hg:∀C fp s H,PG (blk X scope N' C fp s H) tg (tDG X.K t)) (ht:∀C fp s H,PTs (blk X scope N' C fp s H) ifs (tDT X.K fc)) (he:∀C fp s H,PE (blk X scope N' C fp s H) elt (tD X.K fe)) (hs:∀x,gu iter X.env x=pure x):
  PE X (.ListComp elt [⟨tg,iter,ifs,0⟩] scope pos) (tD X.K (zem nt js t fw fc fe))/\∀σ H Q,tD X.K (zem nt js t fw fc fe) σ H Q->tLC (tDW X.K fw) (tDG X.K t) (tDT X.K fc) (tD X.K fe) (emb nt js) σ H Q:=by
 have main:=zce (X:=X) (js:=js) (fw:=fw) (fc:=fc) (fe:=fe) ht0;exact⟨PE.imp (zgb hc Bk hi hg ht he hs) main,main⟩
end
def BC (H:Hp)(A:Ad->Prop):G->Ad->Prop
 |.fr=>nw H
 |.od=>fun a=>nw H a\/A a\/a=none
 |.al=>fun a=>nw H a\/A a\/a=none
def spD (K:W.Frag)(n:Nat)(m:Fn):Sp:=fun vs H Q _=>∃A ds x,vs.length=n/\Reps K H A vs ds/\m ds=.ok x/\∀v H',Same H H'->Rep K H' (BC H A x.1) v x.2->Q v H'
section
variable {X:Cx}{tg a b c e o:Expr}{es:List Expr}{fa fb fc:Rho->Res GD}{pos:Pos}
theorem zoq {x:Str}{k k' n:Nat}{ps:List Str}{m:Fn}{fs:Rho->Res (List GD)}{p:Pos}(Cc:Cal X.prog X.w X.K X.mg X.base k x ps (spD X.K n m))(hr:Room k' X.A)(hk:k<=k')(ha:PA X (e::es) (tDA X.K fs))(hst:((e::es).all fun e=> !isStar e)=true)(hg:Gl X x)(hdb:(x==("__debug__":Str))=false)
  (hl:∀ρ ys,fs ρ=.ok ys->ys.length=n):PE X (.Call (.Name x p) (e::es) [] pos) (tD X.K fun ρ=>fs ρ>>=fun ys=>m (ys.map (·.2))>>=fun r=>.ok (gJ r.2 (rtG r.1),r.2)):=
 PE.imp (z9x Cc hr ha hst hk hg hdb) fun σ H Q zz=>by
  obtain⟨ρ,F,z,so,e,q⟩:=zz;obtain⟨ys,e1,e⟩:=Res.bind_ok e;obtain⟨r,e2,e⟩:=Res.bind_ok e;cases e;refine⟨ρ,F,ys,so,e1,fun vs H1 s1 rs=>?_⟩;show spD X.K n m (vs++[]) H1 Q E0;rw[d8];refine⟨_,_,r,by rw[rs.len];exact hl ρ ys e1,rs.repsV so.vis,e2,fun v H2 s2 rv=>q v H2 (s1.trans s2) (z34 rv fun a h=>?_)⟩;have al:(nw H1 a\/visA F a\/a=none)->visA F a:=fun h=>h.elim (fun h=>(nw.back s1 h).vis so.vis) fun h=>h.elim (fun h=>h) fun h=>by subst h;trivial
  cases hg:r.1 with
  |fr=>rw[hg]at h;exact nw.back s1 h
  |od=>rw[hg]at h;exact al h
  |al=>rw[hg]at h;exact al h
def rMt (K:W.Frag)(m:String):V->List V->Hp->VK->Prop:=fun x xs H Q=>∃B B' dx ds d,Rep K H B x dx/\Reps K H B' xs ds/\mtD m dx ds=.ok d/\∀w H',Same H H'->Rep K H' (fun a=>nw H a\/B a\/B' a) w d->Q w H'
theorem z62 {o:Expr}{n:Str}{env:Env}{w:Sem Value}(h:z8y o=true):si o n env w=w:=by
 unfold si;split
 ·rename_i id p pos;cases h
 ·rfl
theorem z9y {pos:Pos}{env:Env}:∀{es:List Expr},(es.all fun e=> !isStar e)=true->(li pos (dn es env)).all (fun x=> !x.1)=true
 | [],_=>rfl
 |e::es,h=>by have h:=bp.mp (dw▸h);rw[z0j (by simpa using h.1)];show(true&&(li pos (dn es env)).all (fun x=>!x.1))=true;rw[z9y h.2];rfl
theorem zia {cpos:Pos}{env:Env}{es:List Expr}(h:(es.all fun e=> !isStar e)=true)(hl:es.length<20):((li cpos (dn es env)).all (fun x=> !x.1)&&(backToKw cpos (ux [] env)).all (fun x=>x.1.isSome)
  &&decide (es.length+([]:List pq).length+(if([]:List pq).isEmpty then 0 else 1)<30))=true:=by
 rw[z9y h];show(true&&true&&decide (es.length+0+0<30))=true;rw[we (by omega)];rfl
theorem d_mt {m T id:String}{n:Str}{apos cpos:Pos}{fs:Rho->Res (List GD)}(pa:PlainAttrs T)(slot:PySem.Slot T n id)(hty:uw (.builtin id)=pure (.type "method_descriptor"))(hm:MtR X id (rMt X.K m))(hT:∀H B x dx ds d,Rep X.K H B x dx->mtD m dx ds=.ok d->tyV X.K T x H)
  (ho:PE X o (tD X.K fa)) (ha:PA X (e::es) (tDA X.K fs)) (hns:z8y o=true) (hst:((e::es).all fun e=>!isStar e)=true) (hl:(e::es).length<20) (hline:(apos.endLine==cpos.line)=true):
  PE X (.Call (.Attribute o n apos) (e::es) [] cpos) (tD X.K fun ρ=>fa ρ>>=fun x=>fs ρ>>=fun ys=>mtD m x.2 (ys.map (·.2))>>=fun d=>.ok (gJ d .al,d)):=by
 have hst':=hst;rw[dw,ba]at hst';refine PE.imp (zqh pa slot hty hm ho ha (z62 hns) (zia hst hl) hline (z0j (by simpa using hst'.1)) (z1q hst'.2)) fun σ H Q zz=>?_;obtain⟨ρ,F,z,so,e,q⟩:=zz;obtain⟨x,e1,e⟩:=Res.bind_ok e;obtain⟨ys,e2,e⟩:=Res.bind_ok e;obtain⟨d,e3,e⟩:=Res.bind_ok e;cases e;refine⟨ρ,F,x,so,e1,fun v H1 s1 rv=>⟨hT H1 _ v x.2 _ d rv e3,ρ,F,ys,so.same s1,e2,fun vs H2 s2 rs=>?_⟩⟩;refine⟨_,_,x.2,_,d,rv.same s2 fun _ z=>z,rs.repsV (so.same s1).vis,e3,fun w H3 s3 rw'=>q w H3 ((s1.trans s2).trans s3) (z34 rw' fun a h=>?_)⟩;rcases h with h|h|h
 ·exact(nw.back (s1.trans s2) h).vis so.vis
 ·exact h.vis so.vis
 ·exact h
theorem zva (hu:X.A.units+64<cLine):MtR X "dict.get" (rMt X.K "get"):=by
 intro pins s σ H x xs v us Q I rx rs h;obtain⟨B,B',dx,ds,d,r1,r2,e,q⟩:=h;simp only[mtD,if_true]at e;split at e
 ·rename_i es k d0;split at e
  case isFalse=>cases e
  rename_i hk;cases e;obtain⟨vk,vd,rfl,h1,h2⟩:=zdk r2;obtain⟨kk,rfl,rfl,_⟩:=z4y hk h1;obtain⟨a,kvs,rfl,g1,_,g2⟩:=r1;cases rx;obtain⟨u1,u2,rfl,q1,q2⟩:=vals2 rs;have hv:=g2.val kk;refine zpo (by omega) I (DGet.k g1) q1 q2 fun w' s' I' rw'=>⟨_,H,I',rw',q _ H (Same.refl H) ?_⟩;cases e3:z25 es (kD kk)with
  |none=>rw[e3]at hv;rw[show valV kvs kk=none from hv];exact h2.weak fun _ z=>.inr (.inr z)
  |some d'=>rw[e3]at hv;obtain⟨w,h3,h4⟩:=hv;rw[h3];exact h4.weak fun _ z=>.inr (.inl z)
 ·cases e
theorem zrw {H:Hp}{B:Ad->Prop}{x:V}{dx d:D}{ds:List D}(r:Rep X.K H B x dx)(e:mtD "get" dx ds=.ok d):tyV X.K "dict" x H:=by
 simp only[mtD,if_true]at e;split at e
 ·obtain⟨a,kvs,rfl,g1,_,_⟩:=r;exact .inr (.inr ⟨rfl,kvs,g1⟩)
 ·cases e
theorem z71 {K:W.Frag}{H:Hp}{B:Ad->Prop}:∀{ds:List D} {ss:List Str} {vs:List V} {us:List Value},allS ds=some ss->Reps K H B vs ds->Vals vs us->StrsAre us ss/\∀s∈ss,PyData.strOk s=true
 | [],ss,vs,us,e,r,q=>by cases e;have e1:vs=[]:=r;subst e1;cases q;exact⟨.nil,fun _ h=>nomatch h⟩
 |d::ds,ss,vs,us,e,r,q=>by
  cases d<;>try (cases e;done)
  rename_i z;change(allS ds).map (z:: ·)=_ at e;cases e1:allS ds with
  |none=>rw[e1]at e;cases e
  |some ss'=>
   rw[e1]at e;cases e;obtain⟨v,t,rfl,h1,h2⟩:=r;have ev:v=.str z:=h1.1;subst ev;cases q with
   |cons q1 q2=>
    obtain⟨tk,rfl⟩:=q1;obtain⟨i1,i2⟩:=z71 e1 h2 q2;refine⟨.cons z tk i1,fun s hs=>?_⟩;rcases(au.mp hs)with rfl|hs
    ·exact h1.2
    ·exact i2 s hs
theorem zhg (z:Str)(ss:List Str):Txt.join z ss=z69 z ss:=by
 have go:∀(r:List Str) (acc:Array Nat),(r.foldl (fun acc p=>acc++z.cps++p.cps) acc).toList=acc.toList++(r.map fun p=>z.cps.toList++p.cps.toList).flatten:=by
  intro r
  induction r with
  |nil=>intro acc;simp
  |cons p r ih=>intro acc;rw[ky,ih];simp
 show ug z ss=_;unfold ug z69 zdd;cases ss with
 |nil=>rfl
 |cons x r=>
  have:=go r x.cps;show(⟨r.foldl (fun acc p=>acc++z.cps++p.cps) x.cps⟩:Str)=⟨(x.cps.toList++(r.map fun p=>z.cps.toList++p.cps.toList).flatten).toArray⟩
  congr 1
  rw[<-this,ml]
theorem zb2 {z:Str}{ss:List Str}(hz:PyData.strOk z=true)(h:∀s∈ss,PyData.strOk s=true):PyData.strOk (z69 z ss)=true:=
 z17.mpr fun c hc=>by
  have hc':c∈zdd z.cps.toList ss:=by simpa[z69]using hc
  cases ss with
  |nil=>simp[zdd]at hc'
  |cons x r=>
   simp only[zdd,du,pe,bo]at hc';rcases hc' with hc'|⟨l,⟨p,hp,rfl⟩,hc'⟩
   ·exact z17.mp (h x ak) c hc'
   ·rcases du.mp hc' with hc'|hc'
    ·exact z17.mp hz c hc'
    ·exact z17.mp (h p (aq _ hp)) c hc'
theorem zny:MtR X "str.join" (rMt X.K "join"):=by
 intro pins s σ H x xs v us Q I rx rs h;obtain⟨B,B',dx,ds,d,r1,r2,e,q⟩:=h;simp only[mtD,show("join":String)≠"get" by decide,if_true,if_false]at e;split at e
 ·rename_i z ys;split at e
  case h_2=>cases e
  rename_i ss hss;split at e
  case isFalse=>cases e
  rename_i hw;cases e;obtain⟨vl,rfl,h1⟩:=zah r2;obtain⟨a,vs,rfl,hq,rl⟩:=z1y h1;obtain⟨u,rfl,ru⟩:=vals1 rs;cases ru;have ex:x=.str z:=r1.1;subst ex;obtain⟨t,rfl⟩:=rx;obtain⟨its,rv,pl,_⟩:=I.list hq;obtain⟨sa,ok⟩:=z71 hss rl rv;refine join_list pl.isList (by simpa using sa) (b6 hw (by unfold LIM;decide)) fun t' k=>?_;rw[zhg];exact⟨.str _,H,I.tok _,⟨_,rfl⟩,q _ H (Same.refl H) ⟨rfl,zb2 r1.2 ok⟩⟩
 ·cases e
theorem zm2 {H:Hp}{B:Ad->Prop}{x:V}{dx d:D}{ds:List D}(r:Rep X.K H B x dx)(e:mtD "join" dx ds=.ok d):tyV X.K "str" x H:=by
 simp only[mtD,show("join":String)≠"get" by decide,if_true,if_false]at e;split at e
 ·have ex:x=.str _:=r.1;subst ex;exact rfl
 ·cases e
end
def Frm (F:Fm)(H:Hp)(F':Fm)(H':Hp):Prop:=∀a o,H a=some o->F.O a=none->H' a=some o/\F'.O a=none
theorem Frm.refl {F:Fm}{H:Hp}:Frm F H F H:=fun _ _ e o=>⟨e,o⟩
theorem Frm.trans {F F' F'':Fm}{H H' H'':Hp}(a:Frm F H F' H')(b:Frm F' H' F'' H''):Frm F H F'' H'':=fun x o e n=>by obtain⟨e1,n1⟩:=a x o e n;exact b x o e1 n1
theorem Frm.same {F:Fm}{H H':Hp}(s:Same H H'):Frm F H F H':=fun a o e n=>⟨s a o e,n⟩
def Run (F F':Fm):Prop:=Same F.H0 F'.H0/\F'.V=F.V
theorem Run.refl {F:Fm}:Run F F:=⟨fun _ _ e=>e,rfl⟩
theorem Run.trans {F F' F'':Fm}(a:Run F F')(b:Run F' F''):Run F F'':=⟨fun x o e=>b.1 x o (a.1 x o e),b.2.trans a.2⟩
theorem Run.of {F F':Fm}(h:F'.H0=F.H0)(v:F'.V=F.V):Run F F':=⟨fun _ _ e=>by rw[h];exact e,v⟩
def BR (F:Fm):G->Ad->Prop
 |.fr=>fun a=>match a with|some a=>F.H0 a=none|none=>False
 |.od=>visA F
 |.al=>visA F
def z8u (K:W.Frag)(F:Fm)(H:Hp)(D:Ends):Out->Prop
 |.nx ρ'=>∀σ' H' F',StOk K F' H' σ' ρ'->Run F F'->Frm F H F' H'->D.nx σ' H'
 |.rt g d=>∀v H',(∀a o,H a=some o->F.O a=none->H' a=some o)->Rep K H' (BR F g) v d->D.rt v H'
def tDS (K:W.Frag)(f:Rho->Res Out):TS:=fun D σ H=>∃ρ F out,StOk K F H σ ρ/\f ρ=.ok out/\z8u K F H D out
theorem none_of {H H':Hp}{a:Addr}(s:Same H H')(h:H' a=none):H a=none:=by
 cases e:H a with
 |none=>rfl
 |some o=>rw[s a o e]at h;cases h
theorem BR.run {F F':Fm}(r:Run F F'){g:G}{a:Ad}(h:BR F' g a):BR F g a:=by obtain⟨r1,r2⟩:=r;cases g<;>cases a<;>first|exact h|(exact none_of r1 h)|(have h':F'.V _:=h;rw[r2]at h';exact h')
theorem z8u.back {K:W.Frag}{F F':Fm}{H H':Hp}{D:Ends}{out:Out}(r:Run F F')(f:Frm F H F' H')(h:z8u K F H D out):z8u K F' H' D out:=by
 cases out with
 |nx ρ'=>exact fun σ'' H'' F'' so r2 f2=>h σ'' H'' F'' so (r.trans r2) (f.trans f2)
 |rt g d=>refine fun v H'' k rv=>h v H'' (fun a o e n=>?_) (rv.weak fun _ b=>b.run r);obtain⟨e1,n1⟩:=f a o e n;exact k a o e1 n1
section
variable {X:Cx}{tg a b c e:Expr}{es:List Expr}{fa fb fc:Rho->Res GD}{pos:Pos}{st:Stmt}{rest A Bs:List Stmt}{fs gs:Rho->Res Out}
theorem zvc:PSs X [] (tDS X.K fun ρ=>.ok (.nx ρ)):=PSs.imp zm1 fun D σ H ⟨ρ,F,out,so,e,q⟩=>by cases e;exact q σ H F so Run.refl Frm.refl
theorem zsy (h1:PS X st (tDS X.K fs))(h2:PSs X rest (tDS X.K gs)):PSs X (st::rest) (tDS X.K fun ρ=>outB (fs ρ) gs):=
 PSs.imp (z3z h1 h2) fun D σ H zz=>by
  obtain⟨ρ,F,out,so,e,q⟩:=zz;have e:outB (fs ρ) gs=.ok out:=e;cases e1:fs ρ with
  |no=>rw[e1]at e;cases e
  |exc x=>rw[e1]at e;cases e
  |ok o1=>
   rw[e1]at e;cases o1 with
   |nx ρ1=>exact⟨ρ,F,.nx ρ1,so,e1,fun σ' H' F' so' r f=>⟨ρ1,F',out,so',e,q.back r f⟩⟩
   |rt g d=>cases e;exact⟨ρ,F,.rt g d,so,e1,q⟩
theorem s_if {ft:Rho->Res Bool}(hc:PT X c (tDT X.K ft))(ha:PSs X A (tDS X.K fs))(hb:PSs X Bs (tDS X.K gs)):PS X (.If c A Bs pos) (tDS X.K fun ρ=>ft ρ>>=fun k=>if k then fs ρ else gs ρ):=
 PS.imp (zn4 hc ha hb) fun D σ H zz=>by
  obtain⟨ρ,F,out,so,e,q⟩:=zz;obtain⟨k,e1,e⟩:=Res.bind_ok e;refine⟨ρ,F,k,so,e1,fun H1 s1=>?_⟩;cases k with
  |true=>exact iteT ⟨ρ,F,out,so.same s1,e,q.back Run.refl (Frm.same s1)⟩
  |false=>exact iteF ⟨ρ,F,out,so.same s1,e,q.back Run.refl (Frm.same s1)⟩
theorem zre {K:W.Frag}{F:Fm}{H H':Hp}{g:G}{v:V}{d:D}(so:∀a o,F.H0 a=some o->H a=some o)(hv:∀a,H a=none->F.V a)(r:Rep K H' (BG F H g) v d):Rep K H' (BR F (rtG g)) v d:=by
 refine r.weak fun a b=>?_;cases g with
 |fr=>
  cases a with
  |none=>exact b
  |some a=>show F.H0 a=none;exact Same.none so b
 |od=>exact oldA.vis b
 |al=>exact b
theorem zsu (ha:PE X e (tD X.K fa)):PS X (.Return (some e) pos) (tDS X.K fun ρ=>fa ρ>>=fun x=>.ok (.rt (rtG x.1) x.2)):=PS.imp (z9v ha) fun D σ H zz=>by obtain⟨ρ,F,out,so,e,q⟩:=zz;obtain⟨x,e1,e⟩:=Res.bind_ok e;cases e;exact⟨ρ,F,x,so,e1,fun v H1 s1 rv=>q v H1 (fun a o e _=>s1 a o e) (zre so.ext so.vis rv)⟩
theorem Slot.ret {K:W.Frag}{F:Fm}{H:Hp}{i:Nat}{g:G}{v:V}{d:D}(so:∀a i,F.O a=some i->F.H0 a=none/\F.V a)(h:Slot K F H i g v d):Rep K H (BR F (if imm d then .fr else rtG g)) v d:=by
 by_cases hi:imm d=true
 ·rw[if_pos hi];exact Rep.immB d hi (h.rep fun a i e=>(so a i e).2)
 ·rw[if_neg hi];cases g with
  |fr=>
   obtain⟨p,e,o,h⟩:=h
   have hb:∀a,Bin F a->BR F .fr a:=fun a b=>by
    cases a with
    |none=>exact b
    |some a=>exact b.2.1
   rcases h with⟨vs,ds,rfl,e2,r⟩|⟨vs,ds,rfl,e2,r⟩
   ·exact⟨p,vs,e,.inl ⟨e2,(so _ _ o).1⟩,r.weak hb⟩
   ·exact⟨p,vs,e,e2,(so _ _ o).1,REs.same (fun _ _ e=>e) hb r⟩
  |od=>exact Rep.weak (fun _ b=>b.vis) h
  |al=>exact h
theorem z7y {i:Nat}{x:Str}{p:Pos}(hN:X.N[i]?=some x)(hv:Vis X.env.scope x)(hd:(x==("__debug__":Str))=false)(hcd:(x==("__classdict__":Str))=false):
  PS X (.Return (some (.Name x p)) pos) (tDS X.K fun ρ=>match ρ[i]? with|some (some (g,d))=>.ok (.rt (if imm d then .fr else rtG g) d)|_=>.no):=
 PS.imp (z9v (z4m hN hv hd hcd)) fun D σ H zz=>by
  obtain⟨ρ,F,out,so,e,q⟩:=zz;have e:(match ρ[i]? with|some (some (g,d))=>Res.ok (Out.rt (if imm d then .fr else rtG g) d)|_=>.no)=.ok out:=e;cases e1:ρ[i]? with
  |none=>rw[e1]at e;cases e
  |some o=>
   rw[e1]at e;cases o with
   |none=>cases e
   |some gd=>obtain⟨g,d⟩:=gd;cases e;obtain⟨v,h1,h2⟩:=so.sl i g d e1;exact⟨v,h1,q v H (fun a o e _=>e) (h2.ret fun a i e=>⟨(so.own a i e).1,(so.own a i e).2.1⟩)⟩
theorem zpu (hs:z21 e=false)(ha:PE X e (tD X.K fa)):PS X (.Expr e pos) (tDS X.K fun ρ=>fa ρ>>=fun _=>.ok (.nx ρ)):=PS.imp (ps_e ha hs) fun D σ H zz=>by obtain⟨ρ,F,out,so,e,q⟩:=zz;obtain⟨x,e1,e⟩:=Res.bind_ok e;cases e;exact⟨ρ,F,x,so,e1,fun v H1 s1 rv=>q σ H1 F (so.same s1) Run.refl (Frm.same s1)⟩
theorem REs.immB {K:W.Frag}{H:Hp}{B B':Ad->Prop}:∀{kvs:List (Key×V)} (es:Ents),immE es=true->REs K H B kvs es->REs K H B' kvs es
 |kvs,[],_,r=>r
 |kvs,(kd,d)::es,i,r=>by unfold immE at i;rw[dw,ba]at i;obtain⟨k,v,t,e,e2,ok,h,q⟩:=r;exact⟨k,v,t,e,e2,ok,Rep.immB d i.1 h,REs.immB es i.2 q⟩
def Fm.take (F:Fm)(i:Nat)(p:Addr):Fm:={F with O:=fun a=>if a=p then some i else if F.O a=some i then none else F.O a}
theorem Frm.drop {F:Fm}{H H':Hp}{i:Nat}(s:Same H H'):Frm F H (F.drop i) H':=fun a o e n=>⟨s a o e,Fm.drop_none n⟩
theorem StOk.setA {K:W.Frag}{F:Fm}{H H1:Hp}{σ:L2.St}{ρ:Rho}{x:GD}{v:V}{i:Nat}(so:StOk K F H σ ρ)(s1:Same H H1)(r:Rep K H1 (BG F H x.1) v x.2):
  ∃F',StOk K F' H1 (σ.set i (some v)) (ρ.set i (some (z1x x)))/\Run F F'/\Frm F H F' H1:=by
 have so1:=so.same s1;obtain⟨g,d⟩:=x
 have plain:z1x (g,d)=z2u (if imm d then .al else rdG g,d)->∃F',StOk K F' H1 (σ.set i (some v)) (ρ.set i (some (z1x (g,d))))/\Run F F'/\Frm F H F' H1:=fun e=>by
  rw[e];refine⟨F.drop i,so1.setI ?_,Run.of rfl rfl,Frm.drop s1⟩;show Rep K H1 (BI F (if imm d then .al else rdG g)) v d;by_cases hi:imm d=true
  ·rw[if_pos hi];exact Rep.immB d hi r
  ·rw[if_neg hi];cases g with
   |fr=>exact r.weak fun _ b=>nw.vis so.vis b
   |od=>exact r
   |al=>exact r
 have own:∀(p:Addr),F.O p=none->H p=none->F.H0 p=none->F.V p->v=.ref p->z1x (g,d)=(.fr,d)->(∀F':Fm,(∀a,Bin F a\/nw H a->a≠some p->Bin F' a)->F'.O p=some i->Slot K F' H1 i .fr v d)->(((∃xs,H1 p=some (.lst xs))\/∃kvs,H1 p=some (.dK kvs)))->
   ∃F',StOk K F' H1 (σ.set i (some v)) (ρ.set i (some (z1x (g,d))))/\Run F F'/\Frm F H F' H1:=fun p hOp hHp hH0 hVp ev es hsl hobj=>by
  have hdr:∀a,a≠p->(F.take i p).O a=(F.drop i).O a:=fun a ha=>by show(if a=p then some i else _)=_;rw[if_neg ha];rfl
  have hnw:∀a,H a=none->F.O a=none:=fun a e=>by
   cases e1:F.O a with
   |none=>rfl
   |some j=>obtain⟨_,_,h⟩:=so.own a j e1;rcases h with⟨xs,h⟩|⟨xs,h⟩<;>rw[e]at h<;>cases h
  have hnw0:∀a,H a=none->F.H0 a=none:=fun a e=>Same.none so.ext e
  have hbin:∀a,Bin F a\/nw H a->a≠some p->Bin (F.take i p) a:=fun a b hne=>by
   cases a with
   |none=>exact b.elim id id
   |some a=>have hap:a≠p:=fun z=>hne (by rw[z]);have hb:F.O a=none/\F.H0 a=none/\F.V a:=b.elim id fun b=>⟨hnw a b,hnw0 a b,so.vis a b⟩;exact⟨by rw[hdr a hap];exact Fm.drop_none hb.1,hb.2⟩
  have hOp':(F.take i p).O p=some i:=by show(if p=p then some i else _)=_;rw[if_pos rfl]
  refine⟨F.take i p,⟨so1.ext,so1.vis,fun a j e=>?_,by rw[cn,cn];exact so.len,fun j g' d' e=>?_⟩,Run.of rfl rfl,fun a o e n=>⟨s1 a o e,?_⟩⟩
  ·by_cases hap:a=p
   ·subst hap;exact⟨hH0,hVp,hobj⟩
   ·rw[hdr a hap]at e
    have e':F.O a=some j:=by
     have:(if F.O a=some i then none else F.O a)=some j:=e;split at this
     ·cases this
     ·exact this
    exact so1.own a j e'
  ·by_cases hj:i=j
   ·subst hj;rw[i7]at e;simp only[if_true]at e;split at e
    ·rename_i hl;have e1:z1x (g,d)=(g',d'):=by simpa using e
     rw[es]at e1;cases e1;exact⟨v,by rw[i7];simp[so.len,hl],hsl _ hbin hOp'⟩
    ·cases e
   ·rw[bv hj]at e ⊢;obtain⟨u,h1,h2⟩:=so.sl j g' d' e;refine⟨u,h1,?_⟩;cases g' with
    |fr=>
     obtain⟨p',e1,o1,h3⟩:=h2;have hpp:p'≠p:=fun z=>by rw[z,hOp]at o1;cases o1
     refine⟨p',e1,?_,?_⟩
     ·rw[hdr p' hpp];show(if F.O p'=some i then none else F.O p')=some j;rw[o1,if_neg (fun z=>hj (Option.some.inj z).symm)]
     ·have hb':∀(a:Ad),Bin F a/\¬nw H a->Bin (F.take i p) a:=fun a b=>hbin a (.inl b.1) fun z=>b.2 (by rw[z];exact hHp);rcases h3 with⟨vs,ds,e3,e2,r3⟩|⟨vs,ds,e3,e2,r3⟩
      ·exact .inl ⟨vs,ds,e3,s1 _ _ e2,Reps.same s1 hb' (Reps.there _ r3)⟩
      ·exact .inr ⟨vs,ds,e3,s1 _ _ e2,REs.same s1 hb' (REs.there _ r3)⟩
    |od=>exact Rep.same s1 (fun _ b=>b) h2
    |al=>exact Rep.same s1 (fun _ b=>b) h2
  ·have hap:a≠p:=fun z=>by rw[z,hHp]at e;cases e
   rw[hdr a hap];exact Fm.drop_none n
 have hOn:∀p,H p=none->F.O p=none:=fun p hHp=>by
  cases e1:F.O p with
  |none=>rfl
  |some j=>obtain⟨_,_,h'⟩:=so.own p j e1;rcases h' with⟨xs,h'⟩|⟨xs,h'⟩<;>rw[hHp]at h'<;>cases h'
 by_cases hi:imm d=true
 ·exact plain (by show(if imm d then _ else _)=_;rw[if_pos hi];show _=z2u (if imm d then _ else _,d);rw[if_pos hi];rfl)
 ·cases g with
  |od=>exact plain (by delta z1x;simp only[if_neg hi];rfl)
  |al=>exact plain (by delta z1x;simp only[if_neg hi];cases d<;>rfl)
  |fr=>
   cases d with
   |none=>exact absurd rfl hi
   |bool b=>exact absurd rfl hi
   |int b=>exact absurd rfl hi
   |str b=>exact absurd rfl hi
   |tuple ds=>exact plain (by delta z1x;simp only[if_neg hi];rfl)
   |list ds=>
    by_cases him:imms ds=true
    ·obtain⟨p,vs,ev,h,rs⟩:=r;rcases h with⟨h,b⟩|⟨_,b⟩
     ·have hHp:H p=none:=b;exact own p (hOn p hHp) hHp (Same.none so.ext hHp) (so.vis p hHp) ev (by delta z1x;simp only[if_neg hi,if_pos him]) (fun F' hb ho=>⟨p,ev,ho,.inl ⟨vs,ds,rfl,h,Reps.immB ds him rs⟩⟩) (.inl ⟨vs,h⟩)
     ·exact b.elim
    ·exact plain (by delta z1x;simp only[if_neg hi,if_neg him];rfl)
   |dict es=>
    by_cases him:immE es=true
    ·obtain⟨p,kvs,ev,h,b,rs⟩:=r;have hHp:H p=none:=b;exact own p (hOn p hHp) hHp (Same.none so.ext hHp) (so.vis p hHp) ev (by delta z1x;simp only[if_neg hi,if_pos him]) (fun F' hb ho=>⟨p,ev,ho,.inr ⟨kvs,es,rfl,h,REs.immB es him rs⟩⟩) (.inr ⟨kvs,h⟩)
    ·exact plain (by delta z1x;simp only[if_neg hi,if_neg him];rfl)
theorem zif {K:W.Frag}{i:Nat}{te:TE}(h:∀σ H Q,tD K fa σ H Q->te σ H Q)(D:Ends)(σ:L2.St)(H:Hp)(q:tDS K (fun ρ=>fa ρ>>=fun x=>.ok (.nx (ρ.set i (some (z1x x))))) D σ H):te σ H fun v H1=>D.nx (σ.set i (some v)) H1:=by obtain⟨ρ,F,out,so,e,q⟩:=q;obtain⟨x,e1,e⟩:=Res.bind_ok e;cases e;refine h σ H _ ⟨ρ,F,x,so,e1,fun v H1 s1 rv=>?_⟩;obtain⟨F',so',r,f⟩:=so.setA (i:=i) s1 rv;exact q _ H1 F' so' r f
theorem zo6 {i:Nat}{x:Str}{px:Pos}(hN:X.N.Nodup)(hi:X.N[i]?=some x)(hx:Loc X.env.scope x)(hf:X.fn x=true\/X.env.scope.names.lookup x=some .local)(hs:l6 e (some (.Name x px)) pos.line X.env=pure false)(ha:PE X e (tD X.K fa)):
  PS X (.Assign [.Name x px] e pos) (tDS X.K fun ρ=>fa ρ>>=fun x=>.ok (.nx (ρ.set i (some (z1x x))))):=
 PS.imp (zhy hN hi hx ha hs hf) fun D σ H q=>zif (fun _ _ _ h=>h) D σ H q
theorem zo5 {is:List Nat}{te:Expr}(hg:PG X te (tDG X.K (.tp is)))(ha:PE X e (tD X.K fa))(hs:se [te] e pos.line X.env=pure false)(hw:sf [te] e X.env=pure none)(h1:(g7 [te] X.env).map (·.2)=[pp te X.env]):
  PS X (.Assign [te] e pos) (tDS X.K fun ρ=>fa ρ>>=fun x=>z19 (.tp is) x ρ>>=fun ρ'=>.ok (.nx ρ')):=
 PS.imp (zrp ha hg hs hw h1) fun D σ H zz=>by obtain⟨ρ,F,out,so,e,q⟩:=zz;obtain⟨x,e1,e⟩:=Res.bind_ok e;obtain⟨ρ',e2,e⟩:=Res.bind_ok e;cases e;refine⟨ρ,F,x,so,e1,fun v H1 s1 rv=>⟨ρ,F,x,ρ',so.same s1,rv.weak fun _ b=>BI.of so.vis b,e2,fun σ' F' so' kps=>?_⟩⟩;exact q σ' H1 F' so' (Run.of kps.h0 kps.v) fun a o e n=>⟨s1 a o e,kps.o a n⟩
theorem StOk.mutate {K:W.Frag}{F:Fm}{H:Hp}{σ:L2.St}{ρ:Rho}{i:Nat}{p:Addr}{d':D}{o':HO}(so:StOk K F H σ ρ)(hO:F.O p=some i)(hσ:σ[i]?=some (some (.ref p)))(ho':(∃xs,o'=.lst xs)\/∃kvs,o'=.dK kvs)
  (hs:Slot K F (upd H p o') i .fr (.ref p) d'):StOk K F (upd H p o') σ ((ρ.set i (some (.fr,d'))).map z1e)/\Frm F H F (upd H p o'):=by
 obtain⟨h0,hV,hobj⟩:=so.own p i hO;have hne:∀a,F.O a=none->a≠p:=fun a e z=>by rw[z,hO]at e;cases e
 have hfix:∀a o,H a=some o->Fix o->a≠p:=fun a o e f z=>by subst z;rcases hobj with⟨xs,h⟩|⟨xs,h⟩<;>rw[e]at h<;>cases h<;>exact f
 have frm:Frm F H F (upd H p o'):=fun a o e n=>⟨by rw[z06 (hne a n)];exact e,n⟩;refine⟨⟨fun a o e=>?_,fun a e=>?_,fun a j e=>?_,by rw[ah,cn];exact so.len,fun j g d e=>?_⟩,frm⟩
 ·have hap:a≠p:=fun z=>by rw[z,h0]at e;cases e
  rw[z06 hap];exact so.ext a o e
 ·by_cases hap:a=p
  ·subst hap;exact hV
  ·rw[z06 hap]at e;exact so.vis a e
 ·obtain⟨x1,x2,x3⟩:=so.own a j e;refine⟨x1,x2,?_⟩;by_cases hap:a=p
  ·subst hap;rw[z0b];rcases ho' with⟨xs,rfl⟩|⟨xs,rfl⟩
   ·exact .inl ⟨xs,rfl⟩
   ·exact .inr ⟨xs,rfl⟩
  ·rw[z06 hap];exact x3
 ·rw[bx]at e;by_cases hj:i=j
  ·subst hj;have hl:i<ρ.length:=by rw[<-so.len];exact(bg.mp hσ).1
   rw[i7]at e;simp only[if_true,hl]at e;have e1:z1e (some (.fr,d'))=some (g,d):=by simpa using e
   cases e1;exact⟨_,hσ,hs⟩
  ·rw[bv hj]at e;cases e2:ρ[j]? with
   |none=>rw[e2]at e;cases e
   |some sl=>
    rw[e2]at e;have e3:z1e sl=some (g,d):=by simpa using e
    cases sl with
    |none=>cases e3
    |some gd=>
     obtain⟨g0,d0⟩:=gd;obtain⟨v,h1,h2⟩:=so.sl j g0 d0 e2;refine⟨v,h1,?_⟩;cases g0 with
     |fr=>
      cases e3;obtain⟨p',e4,o4,h3⟩:=h2;have hpp:p'≠p:=fun z=>by rw[z,hO]at o4;exact hj (Option.some.inj o4)
      have hk:∀a o,H a=some o->(Bin F (some a)\/Fix o)->upd H p o' a=some o:=fun a o e b=>by have:a≠p:=b.elim (fun b=>hne a b.1) fun f=>hfix a o e f;rw[z06 this];exact e
      refine⟨p',e4,o4,?_⟩;rcases h3 with⟨vs,ds,e5,e6,r⟩|⟨vs,ds,e5,e6,r⟩
      ·exact .inl ⟨vs,ds,e5,by rw[z06 hpp];exact e6,Reps.keep hk (fun _ z=>z) ds r⟩
      ·exact .inr ⟨vs,ds,e5,by rw[z06 hpp];exact e6,REs.keep hk (fun _ z=>z) ds r⟩
     |od=>cases e3;exact Rep.keep (fun a o e b=>by have:a≠p:=b.elim (fun b z=>by have b1:F.H0 a≠none/\F.V a:=b;rw[z]at b1;exact b1.1 h0) fun f=>hfix a o e f;rw[z06 this];exact e) (fun _ z=>z) _ h2
     |al=>
      change(if imm d0 then some (G.al,d0)else none)=_ at e3;split at e3
      ·rename_i him;cases e3;exact Rep.immK (fun a o e f=>by rw[z06 (hfix a o e f)];exact e) _ him h2
      ·cases e3
theorem z60 {K:W.Frag}{F:Fm}{H:Hp}{σ:L2.St}{ρ:Rho}{i:Nat}{d:D}(so:StOk K F H σ ρ)(e:ρ[i]?=some (some (.fr,d))):∃p,σ[i]?=some (some (.ref p))/\F.O p=some i/\((∃vs ds,d=.list ds/\H p=some (.lst vs)/\Reps K H (Bin F) vs ds)\/(∃kvs es,d=.dict es/\H p=some (.dK kvs)/\REs K H (Bin F) kvs es)):=by obtain⟨v,h1,p,rfl,o,h⟩:=so.sl i .fr d e;exact⟨p,h1,o,h⟩
def mutF (m:String)(i:Nat)(fs:Rho->Res (List GD)):Rho->Res Out:=fun ρ=>fs ρ>>=fun ys=>match ρ[i]? with
 |some (some (.fr,.list xs))=>mutD m xs ys>>=fun xs'=>.ok (.nx ((ρ.set i (some (.fr,.list xs'))).map z1e))
 |_=>.no
theorem zfn {i:Nat}{x:Str}{p ap cp:Pos}{fs:Rho->Res (List GD)}(hN:X.N[i]?=some x)(hv:Vis X.env.scope x)(hd:(x==("__debug__":Str))=false)(hcd:(x==("__classdict__":Str))=false)(ha:PA X (e::es) (tDA X.K fs))(hst:((e::es).all fun e=>!isStar e)=true)(hl:(e::es).length<20)(hline:(ap.endLine==cp.line)=true):
  PS X (.Expr (.Call (.Attribute (.Name x p) "append" ap) (e::es) [] cp) pos) (tDS X.K (mutF "append" i fs)):=by
 have hst':=hst;rw[dw,ba]at hst';refine PS.imp (ps_e (zqh PySem.F.plainAttrs_list PySem.F.slot_list_append PySem.F.type_list_append z76 (z4m hN hv hd hcd) ha rfl (zia hst hl) hline (z0j (by simpa using hst'.1)) (z1q hst'.2)) rfl) fun D σ H zz=>?_;obtain⟨ρ,F,out,so,e,q⟩:=zz;obtain⟨ys,e1,e⟩:=Res.bind_ok e;split at e
 ·rename_i xs hr;obtain⟨xs',e2,e⟩:=Res.bind_ok e;cases e;obtain⟨pa,h1,hO,h⟩:=z60 so hr;rcases h with⟨vs,ds,e3,e4,r⟩|⟨_,_,e3,_⟩
  ·cases e3;refine⟨_,h1,.inl ⟨rfl,vs,SqL.of e4⟩,ρ,F,ys,so,e1,fun us H1 s1 rs=>?_⟩;simp only[mutD,if_true]at e2;split at e2
   ·rename_i y;split at e2
    case isFalse=>cases e2
    rename_i hc;cases e2;rw[bp,decide_eq_true_iff]at hc;obtain⟨u,rfl,ru⟩:=rs.one;have so1:=so.same s1;have e5:=s1 _ _ e4;refine⟨pa,vs,u,rfl,rfl,e5,z0q (by rw[r.length];omega),?_⟩
    have r':Reps X.K (upd H1 pa (.lst (vs++[u]))) (Bin F) (vs++[u]) (xs++[y.2]):=by
     have r0:Reps X.K H1 (Bin F) (vs++[u]) (xs++[y.2]):=Reps.append (r.same s1 fun _ z=>z) ⟨u,[],rfl,Rep.immB _ hc.1 ru,rfl⟩;refine Reps.keep (fun a o e b=>?_) (fun _ z=>z) _ r0
     have hap:a≠pa:=by
      intro z;subst z;rcases b with b|b
      ·have b1:F.O a=none:=b.1;rw[hO]at b1;cases b1
      ·rw[e5]at e;cases e;exact b
     rw[z06 hap];exact e
    obtain⟨so2,f2⟩:=so1.mutate (o':=.lst (vs++[u])) (d':=.list (xs++[y.2])) hO h1 (.inl ⟨_,rfl⟩) ⟨pa,rfl,hO,.inl ⟨_,_,rfl,z0b,r'⟩⟩;exact q σ _ F so2 Run.refl ((Frm.same s1).trans f2)
   ·cases e2
  ·cases e3
 ·cases e
end
section
variable {X:Cx}{tg a b c e:Expr}{es:List Expr}{fa fb fc:Rho->Res GD}{pos:Pos}{st:Stmt}{rest A Bs:List Stmt}{fs gs:Rho->Res Out}
theorem zbp (k k':Key):eqK (kD k') (kD k)=decide (k'=k):=by
 cases k'<;>cases k
 ·rename_i a b;show(a==b)=_;rw[lu,decide_eq_decide];exact⟨fun h=>by rw[h],fun h=>Sum.inl.inj h⟩
 ·rfl
 ·rfl
 ·rename_i a b;show decide (a=b)=_;rw[decide_eq_decide];exact⟨fun h=>by rw[h],fun h=>Sum.inr.inj h⟩
theorem REs.any {K:W.Frag}{H:Hp}{B:Ad->Prop}(k:Key):∀{kvs:List (Key×V)} {es:Ents},REs K H B kvs es->(es.any fun e=>eqK e.1 (kD k))=kvs.any fun kv=>decide (kv.1=k)
 |kvs,[],r=>by have e:kvs=[]:=r;subst e;rfl
 |kvs,(kd,d)::es,r=>by obtain⟨k',v,t,e,e2,_,_,q⟩:=r;subst e e2;rw[jc,jc,q.any k,zbp]
theorem REs.mapPut {K:W.Frag}{H:Hp}{B:Ad->Prop}(k:Key){v:V}{d:D}(h:Rep K H B v d):∀{kvs:List (Key×V)} {es:Ents},REs K H B kvs es->REs K H B (kvs.map fun kv=>if kv.1=k then(kv.1,v)else kv) (es.map fun e=>if eqK e.1 (kD k)then(e.1,d)else e)
 |kvs,[],r=>by have e:kvs=[]:=r;subst e;exact rfl
 |kvs,(kd,d0)::es,r=>by
  obtain⟨k',v0,t,e,e2,ok,h0,q⟩:=r;subst e e2;rw[ao,ao];have ih:=q.mapPut k h;by_cases z:k'=k
  ·subst z;rw[if_pos rfl,if_pos (by rw[zbp];simp)];exact⟨k',v,_,rfl,rfl,ok,h,ih⟩
  ·rw[if_neg z,if_neg (by rw[zbp];simpa using z)];exact⟨k',v0,_,rfl,rfl,ok,h0,ih⟩
theorem REs.app {K:W.Frag}{H:Hp}{B:Ad->Prop}{k:Key}{v:V}{d:D}(ok:keyOk k)(h:Rep K H B v d):∀{kvs:List (Key×V)} {es:Ents},REs K H B kvs es->REs K H B (kvs++[(k,v)]) (es++[(kD k,d)])
 |kvs,[],r=>by have e:kvs=[]:=r;subst e;exact⟨k,v,[],rfl,rfl,ok,h,rfl⟩
 |kvs,(kd,d0)::es,r=>by obtain⟨k',v0,t,e,e2,ok',h0,q⟩:=r;subst e e2;exact⟨k',v0,_,rfl,rfl,ok',h0,q.app ok h⟩
theorem REs.put {K:W.Frag}{H:Hp}{B:Ad->Prop}{k:Key}{v:V}{d:D}(ok:keyOk k)(h:Rep K H B v d){kvs:List (Key×V)}{es:Ents}(r:REs K H B kvs es):REs K H B (putK kvs k v) (dput es (kD k) d):=by
 unfold putK dput;rw[r.any k];split
 ·exact r.mapPut k h
 ·exact r.app ok h
def sSet (td ty tv:TE):TS:=fun D σ H=>tv σ H fun v H1=>td σ H1 fun x H2=>ty σ H2 fun y H3=>(∃a H4,x=.ref a/\DPut H3 a y v H4/\D.nx σ H4)\/zpz x y v H3 fun H4=>D.nx σ H4
theorem zix {o i value:Expr}{pos':Pos}{td ty tv:TE}(hu:X.A.units+1<cLine)(ho:PE X o td)(hi:PE X i ty)(hv:PE X value tv)(hs:l6 value (some (.Subscript o i pos')) pos.line X.env=pure false):PS X (.Assign [.Subscript o i pos'] value pos) (sSet td ty tv):=by
 intro pins s σ H D I h;refine wpAny_Assign_Subscript (thn (hv pins s σ H _ I h) fun r s1 ⟨v,H1,I1,rv,q1⟩=>thn (ho pins s1 σ H1 _ I1 q1) fun u s2 ⟨x,H2,I2,rx,q2⟩=>thn (hi pins s2 σ H2 _ I2 q2) fun iv s3 ⟨y,H3,I3,ry,q3⟩=>?_) hs;rcases q3 with⟨a,H4,ex,g,q3⟩|q3
 ·subst ex;obtain rfl:u=Value.ref a:=rx;exact zdm hu I3 g ry rv fun s4 I4=>⟨σ,H4,I4,q3⟩
 ·exact thn (set_list pins s3 σ H3 x y v u iv r _ I3 rx ry rv q3) fun _ s4 ⟨H4,I4,q4⟩=>⟨σ,H4,I4,q4⟩
def setF (i:Nat)(fv fk:Rho->Res GD):Rho->Res Out:=fun ρ=>fv ρ>>=fun y=>fk ρ>>=fun x=>match ρ[i]? with
 |some (some (.fr,.dict es))=>if isK x.2&&okIn y&&decide (es.length<LIM)then .ok (.nx ((ρ.set i (some (.fr,.dict (dput es x.2 y.2)))).map z1e))else .no
 |some (some (.fr,.list xs))=>(match x.2 with
  |.int j=>if okIn y then(match ixN xs.length j with|some n=>.ok (.nx ((ρ.set i (some (.fr,.list (xs.set n y.2)))).map z1e))|none=>.no)else .no
  |_=>.no)
 |_=>.no
theorem zs5 {i:Nat}{x:Str}{p pos':Pos}{ie value:Expr}{fv fk:Rho->Res GD}(hu:X.A.units+64<cLine)(hN:X.N[i]?=some x)(hv:Vis X.env.scope x)(hd:(x==("__debug__":Str))=false)(hcd:(x==("__classdict__":Str))=false)(hs:z21 value=false)(hk:PE X ie (tD X.K fk))(hva:PE X value (tD X.K fv)):
  PS X (.Assign [.Subscript (.Name x p) ie pos'] value pos) (tDS X.K (setF i fv fk)):=by
 refine PS.imp (zix (by omega) (z4m hN hv hd hcd) hk hva (z2j hs _ _ _)) fun D σ H zz=>?_;obtain⟨ρ,F,out,so,e,q⟩:=zz;obtain⟨y,e1,e⟩:=Res.bind_ok e;obtain⟨kx,e2,e⟩:=Res.bind_ok e;refine⟨ρ,F,y,so,e1,fun v H1 s1 rv=>?_⟩;have so1:=so.same s1;split at e
 ·rename_i es hr;split at e
  case isFalse=>cases e
  rename_i hc;cases e;rw[ba,ba,decide_eq_true_eq]at hc;obtain⟨pa,h1,hO,h⟩:=z60 so1 hr;rcases h with⟨_,_,e3,_⟩|⟨kvs,es',e3,e4,r⟩
  ·cases e3
  ·cases e3;refine⟨_,h1,ρ,F,kx,so1,e2,fun w H2 s2 rw'=>.inl ?_⟩;obtain⟨k,ek,rfl,ok⟩:=z4y hc.1.1 rw';have e5:=s2 _ _ e4;refine⟨pa,_,rfl,DPut.k e5 (by rw[r.length];exact bw hc.2 (z0q (am _))),?_⟩
   have hk:∀a o,H2 a=some o->(Bin F (some a)\/Fix o)->upd H2 pa (.dK (putK kvs k v)) a=some o:=fun a o e b=>by
    have hap:a≠pa:=by
     intro z;subst z;rcases b with b|b
     ·have b1:F.O a=none:=b.1;rw[hO]at b1;cases b1
     ·rw[e5]at e;cases e;exact b
    rw[z06 hap];exact e
   have r':REs X.K (upd H2 pa (.dK (putK kvs k v))) (Bin F) (putK kvs k v) (dput es kx.2 y.2):=by rw[ek];exact REs.keep hk (fun _ z=>z) _ (REs.put ok (Rep.immB _ hc.1.2 (rv.same s2 fun _ z=>z)) (r.same s2 fun _ z=>z))
   obtain⟨so2,f2⟩:=(so1.same s2).mutate (o':=.dK (putK kvs k v)) (d':=.dict (dput es kx.2 y.2)) hO h1 (.inr ⟨_,rfl⟩) ⟨pa,rfl,hO,.inr ⟨_,_,rfl,z0b,r'⟩⟩;exact q σ _ F so2 Run.refl ((Frm.same (s1.trans s2)).trans f2)
 ·rename_i xs hr;split at e
  case h_2=>cases e
  rename_i j hj;split at e
  case isFalse=>cases e
  rename_i hc;split at e
  case h_2=>cases e
  rename_i n hn;cases e;obtain⟨pa,h1,hO,h⟩:=z60 so1 hr;rcases h with⟨vs,ds,e3,e4,r⟩|⟨_,_,e3,_⟩
  ·cases e3;refine⟨_,h1,ρ,F,kx,so1,e2,fun w H2 s2 rw'=>.inr ?_⟩;rw[hj]at rw';have ew:w=.int j:=rw';subst ew;have e5:=s2 _ _ e4;refine⟨pa,vs,j,n,rfl,rfl,e5,by rw[r.length];exact hn,?_⟩
   have hk:∀a o,H2 a=some o->(Bin F (some a)\/Fix o)->upd H2 pa (.lst (vs.set n v)) a=some o:=fun a o e b=>by
    have hap:a≠pa:=by
     intro z;subst z;rcases b with b|b
     ·have b1:F.O a=none:=b.1;rw[hO]at b1;cases b1
     ·rw[e5]at e;cases e;exact b
    rw[z06 hap];exact e
   have r':Reps X.K (upd H2 pa (.lst (vs.set n v))) (Bin F) (vs.set n v) (xs.set n y.2):=Reps.keep hk (fun _ z=>z) _ (Reps.set (Rep.immB _ hc (rv.same s2 fun _ z=>z)) n (r.same s2 fun _ z=>z));obtain⟨so2,f2⟩:=(so1.same s2).mutate (o':=.lst (vs.set n v)) (d':=.list (xs.set n y.2)) hO h1 (.inl ⟨_,rfl⟩) ⟨pa,rfl,hO,.inl ⟨_,_,rfl,z0b,r'⟩⟩;exact q σ _ F so2 Run.refl ((Frm.same (s1.trans s2)).trans f2)
  ·cases e3
 ·cases e
def tDF (K:W.Frag)(f:Rho->Res (G×List D×Rho)):TI:=fun σ H R=>∃ρ F w,StOk K F H σ ρ/\f ρ=.ok w/\∀J B H' F',Same H H'->Run F F'->Frm F H F' H'->StOk K F' H' σ w.2.2->(∀a,B (some a)->F'.O a=none)->(∀a,B a->BI F' w.1 a)->Walk K J B H' w.2.1->R J H'
theorem z9j {K:W.Frag}{F:Fm}{H:Hp}{σ:L2.St}{ρ:Rho}(so:StOk K F H σ ρ){a:Addr}{g:G}(hg:g≠.al)(h:BG F H g (some a)):F.O a=none:=by
 cases e1:F.O a with
 |none=>rfl
 |some j=>
  obtain⟨h0,_,h'⟩:=so.own a j e1;cases g with
  |fr=>have hb:H a=none:=h;rcases h' with⟨xs,h'⟩|⟨xs,h'⟩<;>rw[hb]at h'<;>cases h'
  |od=>exact absurd h0 h.1
  |al=>exact absurd rfl hg
theorem zrq {fw:Rho->Res (G×List D)}(hw:PI X tg e (tDW X.K fw)):PI X tg e (tDF X.K fun ρ=>fw ρ>>=fun w=>if w.1==.al then .no else .ok (w.1,w.2,ρ)):=
 PI.imp hw fun σ H R zz=>by
  obtain⟨ρ,F,w,so,e,q⟩:=zz;obtain⟨w0,e1,e⟩:=Res.bind_ok e;refine⟨ρ,F,w0,so,e1,fun J B H1 s1 hB wk=>?_⟩;split at e
  ·cases e
  ·rename_i hal;cases e;have hal':w0.1≠.al:=fun z=>hal (by rw[z];rfl);exact q J B H1 F s1 Run.refl (Frm.same s1) (so.same s1) (fun a b=>z9j so hal' (hB _ b).1) (fun a b=>BI.of so.vis (hB a b).1) wk
theorem StOk.giveUp {K:W.Frag}{F:Fm}{H:Hp}{σ:L2.St}{ρ:Rho}{i:Nat}{d:D}(so:StOk K F H σ ρ)(e:ρ[i]?=some (some (.fr,d))):StOk K (F.drop i) H σ (ρ.set i (some (.al,d))):=by
 obtain⟨v,h1,h2⟩:=so.sl i .fr d e;have:=so.setI (i:=i) (x:=(.al,d)) (v:=v) (h2.rep so.ownV)
 have es:σ.set i (some v)=σ:=by
  apply uh;intro j;by_cases hj:i=j
  ·subst hj;rw[i7];have hl:=(bg.mp h1).1;simp only[if_true,hl];exact h1.symm
  ·rw[bv hj]
 rw[es]at this;exact this
theorem zv3 {i:Nat}{x:Str}(hN:X.N[i]?=some x)(hv:Vis X.env.scope x)(hd:(x==("__debug__":Str))=false)(hcd:(x==("__classdict__":Str))=false):PI X tg (.Name x pos) (tDF X.K (zfx i)):=by
 intro pins s σ H R I h;obtain⟨ρ,F,w,so,e,q⟩:=h;unfold zfx at e;split at e
 ·rename_i d hr;obtain⟨xs,e2,e⟩:=Res.bind_ok e;cases e;obtain⟨v,h1,h2⟩:=so.sl i .fr d hr;refine thn (z4m hN hv hd hcd pins s σ H (fun u H1=>u=v/\H1=H) I ⟨v,h1,rfl,rfl⟩) fun u s1 zz=>?_;obtain⟨y,H1,I1,r1,ey,eH⟩:=zz;subst ey eH;have so':=so.giveUp hr
  let B:Ad->Prop:=fun a=>match a with|some a=>(F.drop i).O a=none/\F.V a|none=>False
  have rv:Rep X.K H1 B y d:=by
   obtain⟨p,ey,hO,h3⟩:=h2
   have hb:∀a,Bin F a->B a:=fun a b=>by
    cases a with
    |none=>exact b
    |some a=>exact⟨Fm.drop_none b.1,b.2.2⟩
   have hp:B (some p):=⟨by show(if F.O p=some i then none else F.O p)=none;rw[if_pos hO],so.ownV p i hO⟩;rcases h3 with⟨vs,ds,rfl,e4,r⟩|⟨vs,ds,rfl,e4,r⟩
   ·exact⟨p,vs,ey,.inl ⟨e4,hp⟩,r.weak hb⟩
   ·exact⟨p,vs,ey,e4,hp,REs.same (fun _ _ e=>e) hb r⟩
  refine z41 I1 r1 rv e2 fun J wk=>q J B H1 (F.drop i) (Same.refl _) (Run.of rfl rfl) (Frm.drop (Same.refl _)) so' (fun a b=>b.1) (fun a b=>?_) wk;cases a with
  |none=>exact b.elim
  |some a=>exact b.2
 ·cases e
def Fm.noL (F:Fm)(H:Hp):Fm:={F with O:=fun a=>match H a with|some (.dK _)=>F.O a|_=>none}
theorem Fm.noL_none {F:Fm}{H:Hp}{a:Addr}(h:F.O a=none):(F.noL H).O a=none:=by
 unfold Fm.noL
 dsimp only
 split<;>first|exact h|rfl
theorem StOk.noL {K:W.Frag}{F:Fm}{H:Hp}{σ:L2.St}{ρ:Rho}(so:StOk K F H σ ρ):StOk K (F.noL H) H σ (ρ.map zke) where
 ext:=so.ext
 vis:=so.vis
 own:=fun a i e=>by
  have e':F.O a=some i:=by
   unfold Fm.noL at e
   dsimp only at e
   split at e
   ·exact e
   ·cases e
  exact so.own a i e'
 len:=by rw[ah];exact so.len
 sl:=fun i g d e=>by
  rw[bx]at e;cases h1:ρ[i]? with
  |none=>rw[h1]at e;cases e
  |some o=>
   rw[h1]at e;have e':zke o=some (g,d):=by simpa using e
   cases o with
   |none=>cases e'
   |some gd=>
    obtain⟨g0,d0⟩:=gd;obtain⟨v,h2,h3⟩:=so.sl i g0 d0 h1;refine⟨v,h2,?_⟩
    have hb:∀a,Bin F a->Bin (F.noL H) a:=fun a b=>by
     cases a with
     |none=>exact b
     |some a=>exact⟨Fm.noL_none b.1,b.2.1,b.2.2⟩
    cases g0 with
    |od=>cases e';exact h3
    |al=>cases e';exact h3
    |fr=>
     obtain⟨p,ev,hO,h4⟩:=id h3;rcases h4 with⟨vs,ds,rfl,e4,r⟩|⟨kvs,es,rfl,e4,r⟩
     ·have e2:some (G.al,PyData.list ds)=some (g,d):=e';cases e2;have h5:Rep K H (visA F) v (.list ds):=Slot.rep (F:=F) so.ownV h3;exact h5
     ·have e2:some (G.fr,PyData.dict es)=some (g,d):=e';cases e2;refine⟨p,ev,?_,.inr ⟨kvs,es,rfl,e4,REs.same (fun _ _ z=>z) hb r⟩⟩;unfold Fm.noL
      dsimp only
      rw[e4];exact hO
theorem f_al {fa:Rho->Res GD}(ha:PE X e (tD X.K fa)):PI X tg e (tDF X.K fun ρ=>fa ρ>>=fun x=>evAl x ρ):=by
 intro pins s σ H R I h;obtain⟨ρ,F,w,so,e0,q⟩:=h;obtain⟨x,e1,e0⟩:=Res.bind_ok e0;obtain⟨g,d⟩:=x;unfold evAl at e0
 dsimp only at e0
 split at e0
 ·rename_i xs;split at e0
  ·rename_i hi;cases e0;refine thn (ha pins s σ H (fun v H1=>Same H H1/\Rep X.K H1 (BG F H g) v (.list xs)) I ⟨ρ,F,_,so,e1,fun v H1 s1 rv=>⟨s1,rv⟩⟩) fun v s1 zz=>?_;obtain⟨y,H1,I1,r1,s1',rv⟩:=zz;have so1:=(so.same s1').noL
   let B:Ad->Prop:=fun a=>match a with|some a=>(F.noL H1).O a=none/\F.V a|none=>True
   have rv':Rep X.K H1 B y (.list xs):=by
    obtain⟨p,vs,ey,h,r⟩:=rv;refine⟨p,vs,ey,?_,Reps.immB xs hi r⟩;rcases h with⟨h,b⟩|⟨h,b⟩
    ·refine .inl ⟨h,?_,(BG.vis so.vis b:visA F (some p))⟩;unfold Fm.noL
     dsimp only
     rw[h]
    ·exact .inr ⟨h,trivial⟩
   refine z41 I1 r1 rv' rfl fun J wk=>q J B H1 (F.noL H1) s1' (Run.of rfl rfl) (fun a o e n=>⟨s1' a o e,Fm.noL_none n⟩) so1 (fun a b=>b.1) (fun a b=>?_) wk;cases a with
   |none=>exact True.intro
   |some a=>exact b.2
  ·cases e0
 ·cases e0
theorem PI.orD {f g:Rho->Res (G×List D×Rho)}{k:Rho->Bool}(hf:PI X tg e (tDF X.K f))(hg:PI X tg e (tDF X.K g)):PI X tg e (tDF X.K fun ρ=>if k ρ then f ρ else g ρ):=by
 intro pins s σ H R I h;obtain⟨ρ,F,w,so,e,q⟩:=h
 dsimp only at e
 cases hk:k ρ with
 |true=>exact hf pins s σ H R I ⟨ρ,F,w,so,by rw[if_pos hk]at e;exact e,q⟩
 |false=>exact hg pins s σ H R I ⟨ρ,F,w,so,by rw[if_neg (by rw[hk];exact b9)]at e;exact e,q⟩
theorem zsv {t:Tg}{iter:Expr}{body:List Stmt}{fw:Rho->Res (G×List D×Rho)}(hp:gq (model X.prog X.w) X.A X.env X.xe)(hc:X.calm=true)(hi:PI X tg iter (tDF X.K fw))(hg:PG X tg (tDG X.K t))(hb:PSs X body (tDS X.K fs))(hs:∀x,gu iter X.env x=pure x):
  PS X (.For tg iter body [] pos) (tDS X.K fun ρ=>fw ρ>>=fun w=>forD (fun x ρ1=>z19 t (gJ x w.1,x) ρ1>>=fun ρ2=>fs ρ2) w.2.1 w.2.2):=
 PS.imp (zpt hp hc hi hg hb hs) fun D σ H zz=>by
  obtain⟨ρ,F,out,so,e,q⟩:=zz;obtain⟨w,e1,e⟩:=Res.bind_ok e;refine⟨ρ,F,w,so,e1,fun J B H1 F1 s1 r1 f1 so1 hBo hBi wk=>?_⟩;have q1:z8u X.K F1 H1 D out:=q.back r1 f1;generalize hf:(fun x ρ1=>z19 t (gJ x w.1,x) ρ1>>=fun ρ2=>fs ρ2)=f at e
  have kp:∀{F2:Fm} {H2:Hp},Frm F1 H1 F2 H2->Kp B H1 H2:=fun{F2 H2} fr a o e b=>by
   have hO:F1.O a=none:=by
    rcases b with b|b
    ·exact hBo a b
    ·cases e2:F1.O a with
     |none=>rfl
     |some j=>obtain⟨_,_,h'⟩:=so1.own a j e2;rcases h' with⟨xs,h'⟩|⟨xs,h'⟩<;>rw[e]at h'<;>cases h'<;>exact b.elim
   exact(fr a o e hO).1
  let W:Nat->Nat->L2.St->Hp->Prop:=fun i m σ2 H2=>m=w.2.1.length-i/\i<=w.2.1.length/\∃ρ2 F2,StOk X.K F2 H2 σ2 ρ2/\Run F1 F2/\Frm F1 H1 F2 H2/\forD f (w.2.1.drop i) ρ2=.ok out
  refine⟨W,⟨_,rfl,fu _,w.2.2,F1,so1,Run.refl,Frm.refl,e⟩,?_⟩
  rintro i m σ2 H2 ⟨rfl,hile,ρ2,F2,so2,r2,f2,e2⟩
  by_cases hlt:i<w.2.1.length
  ·refine .inr ⟨wk.go H2 (kp f2) i hlt,W (i+1) (w.2.1.length-(i+1)),fun σ' H' p=>⟨_,by omega,p⟩,fun x H3 y=>?_⟩;obtain⟨s3,d,hd,rx⟩:=wk.yld H2 (kp f2) i x H3 hlt y
   have hdr:w.2.1.drop i=d::w.2.1.drop (i+1):=by
    have dc:=oh hlt;rw[dc];have:w.2.1[i]=d:=by rw[bc hlt]at hd;exact Option.some.inj hd
    rw[this]
   rw[hdr]at e2;simp only[forD]at e2;have so3:=so2.same s3
   have rx':Rep X.K H3 (BI F2 (gJ d w.1)) x d:=by
    have hBI:∀g a,BI F1 g a->BI F2 g a:=fun g a b=>by cases g<;>cases a<;>first|exact b|(have b':F1.V _:=b;rw[<-r2.2]at b';exact b')|(have b':F1.H0 _≠none/\F1.V _:=b;exact⟨fun z=>b'.1 (none_of r2.1 z),by rw[r2.2];exact b'.2⟩)
    unfold gJ;by_cases hi:imm d=true
    ·rw[if_pos hi];exact Rep.immB d hi rx
    ·rw[if_neg hi];exact rx.weak fun a b=>hBI _ _ (hBi a b)
   cases e3:f d ρ2 with
   |no=>rw[e3]at e2;cases e2
   |exc z=>rw[e3]at e2;cases e2
   |ok o1=>
    have e3':(z19 t (gJ d w.1,d) ρ2>>=fun ρ3=>fs ρ3)=.ok o1:=by rw[<-e3,<-hf]
    obtain⟨ρ3,e4,e5⟩:=Res.bind_ok e3';rw[e3]at e2;refine⟨ρ2,F2,(gJ d w.1,d),ρ3,so3,rx',e4,fun σ4 F4 so4 kps=>⟨ρ3,F4,o1,so4,e5,?_⟩⟩;have r4:Run F1 F4:=r2.trans (Run.of kps.h0 kps.v);have f4:Frm F1 H1 F4 H3:=f2.trans fun a o e n=>⟨s3 a o e,kps.o a n⟩;cases o1 with
    |nx ρ5=>exact fun σ' H' F' so' r' f'=>⟨rfl,hlt,ρ5,F',so',r4.trans r',f4.trans f',e2⟩
    |rt g d=>cases e2;exact(q1.back r4 f4:z8u X.K F4 H3 D (.rt g d))
  ·have hie:i=w.2.1.length:=by omega
   subst hie;rw[List.drop_length]at e2;cases e2;exact .inl ⟨wk.stop H2 (kp f2),q1 σ2 H2 F2 so2 r2 f2⟩
theorem zjn {body:List Stmt}{ft:Rho->Res Bool}{n:Nat}(hp:gq (model X.prog X.w) X.A X.env X.xe)(hc:PT X c (tDT X.K ft))(hb:PSs X body (tDS X.K fs)):PS X (.While c body [] pos) (tDS X.K (whD ft fs n)):=
 PS.imp (zh2 hp hc hb) fun D σ H zz=>by
  obtain⟨ρ,F,out,so,e,q⟩:=zz
  let W:Nat->L2.St->Hp->Prop:=fun m σ2 H2=>∃ρ2 F2,StOk X.K F2 H2 σ2 ρ2/\Run F F2/\Frm F H F2 H2/\whD ft fs m ρ2=.ok out
  refine⟨W,⟨n,ρ,F,so,Run.refl,Frm.refl,e⟩,?_⟩
  rintro m σ2 H2 ⟨ρ2,F2,so2,r2,f2,e2⟩
  cases m with
  |zero=>cases e2
  |succ m=>
   obtain⟨k,e3,e2⟩:=Res.bind_ok e2;refine⟨ρ2,F2,k,so2,e3,fun H3 s3=>?_⟩;have f3:Frm F H F2 H3:=f2.trans (Frm.same s3);cases k with
   |false=>cases e2;exact iteF (q σ2 H3 F2 (so2.same s3) r2 f3)
   |true=>
    refine iteT ⟨W m,fun σ' H' p=>⟨m,l9 m,p⟩,?_⟩
    have e2:(match fs ρ2 with
     |.ok (.nx ρ')=>whD ft fs m ρ'
     |.ok (.rt g d)=>.ok (.rt g d)
     |.exc e=>.exc e
     |.no=>.no)=.ok out:=e2
    cases e4:fs ρ2 with
    |no=>rw[e4]at e2;cases e2
    |exc z=>rw[e4]at e2;cases e2
    |ok o1=>
     rw[e4]at e2;refine⟨ρ2,F2,o1,so2.same s3,e4,?_⟩;cases o1 with
     |nx ρ5=>exact fun σ' H' F' so' r' f'=>⟨ρ5,F',so',r2.trans r',f3.trans f',e2⟩
     |rt g d=>cases e2;exact(q.back r2 f3:z8u X.K F2 H3 D (.rt g d))
end
def rAgg (K:W.Frag)(f:String):List V->Hp->VK->Prop:=fun xs H Q=>∃B x dx l ys d,xs=[x]/\Rep K H B x dx/\z4u dx=.ok (l,ys)/\aggD f l ys=.ok d/\∀w H',Same H H'->Rep K H' (fun a=>nw H a\/(imms ys=false/\B a)) w d->Q w H'
theorem z1k {K:W.Frag}{H:Hp}{B:Ad->Prop}{x:V}{dx:D}{l:Bool}{ys:List D}(r:Rep K H B x dx)(e:z4u dx=.ok (l,ys)):∃a vs,x=.ref a/\(if l then SqL K H a vs else SqT K H a vs)/\Reps K H B vs ys:=by
 cases dx<;>try (cases e;done)
 ·cases e;obtain⟨a,vs,rfl,h,q⟩:=z1y r;exact⟨a,vs,rfl,h,q⟩
 ·cases e;obtain⟨a,vs,rfl,h,q⟩:=r;exact⟨a,vs,rfl,h,q⟩
theorem Reps.aggB {K:W.Frag}{H:Hp}{B:Ad->Prop}{vs:List V}{ys:List D}(r:Reps K H B vs ys):Reps K H (fun a=>nw H a\/(imms ys=false/\B a)) vs ys:=by
 cases hi:imms ys with
 |true=>exact Reps.immB ys hi r
 |false=>exact r.weak fun _ z=>.inr ⟨rfl,z⟩
section
variable {X:Cx}{e:Expr}{fa:Rho->Res GD}{pos:Pos}
theorem zib {f:String}{ρ:Rho}{F:Fm}{z:GD}{σ:L2.St}{H:Hp}{Q:VK}(so:StOk X.K F H σ ρ)(e:((fa ρ>>=fun x=>z4u x.2>>=fun p=>Res.ok (x.1,p))>>=fun w=>aggD f w.2.1 w.2.2>>=fun d=>Res.ok ((gJ d (if imms w.2.2 then .fr else rtG w.1),d):GD))=.ok z)(q:∀v H',Same H H'->Rep X.K H' (BG F H z.1) v z.2->Q v H'):
  tCB (rAgg X.K f) (zl5 (tD X.K fa) tNil) σ H Q:=by
 obtain⟨w,e0,e⟩:=Res.bind_ok e;obtain⟨x,e1,e0⟩:=Res.bind_ok e0;obtain⟨p,e2,e0⟩:=Res.bind_ok e0;cases e0;obtain⟨d,e3,e⟩:=Res.bind_ok e;cases e;refine⟨ρ,F,x,so,e1,fun v H1 s1 rv=>⟨_,v,x.2,p.1,p.2,d,rfl,rv,e2,e3,fun w' H2 s2 rw'=>q w' H2 (s1.trans s2) (z34 rw' fun a h=>?_)⟩⟩
 dsimp only
 cases hi:imms p.2 with
 |true=>
  rw[if_pos rfl];rcases h with h|⟨h,_⟩
  ·exact nw.back s1 h
  ·rw[hi]at h;cases h
 |false=>
  rw[if_neg b9]
  have al:visA F a:=by
   rcases h with h|⟨_,h⟩
   ·exact(nw.back s1 h).vis so.vis
   ·exact h.vis so.vis
  cases hg:x.1 with
  |fr=>
   rcases h with h|⟨_,h⟩
   ·exact nw.back s1 h
   ·rw[hg]at h;exact h
  |od=>exact al
  |al=>exact al
theorem znc:CallR X (.type "list") (rAgg X.K "list"):=by
 refine CallR.imp z72 fun xs H Q h=>?_;obtain⟨B,x,dx,l,ys,d,rfl,r,e,e2,q⟩:=h;obtain⟨a,vs,rfl,h,rs⟩:=z1k r e;simp only[aggD,if_true]at e2;cases e2
 have h':SqL X.K H a vs\/SqT X.K H a vs:=by
  cases l with
  |true=>exact .inl h
  |false=>exact .inr h
 refine⟨a,vs,rfl,h',fun p hp=>q _ _ (Same.upd hp) (z1t hp rs.aggB (fun _ z=>z) (.inl hp))⟩
theorem zj1:CallR X (.type "tuple") (rAgg X.K "tuple"):=by
 refine CallR.imp z61 fun xs H Q h=>?_;obtain⟨B,x,dx,l,ys,d,rfl,r,e,e2,q⟩:=h;obtain⟨a,vs,rfl,h,rs⟩:=z1k r e;simp only[aggD,show("tuple":String)≠"list" by decide,if_true,if_false]at e2;cases e2;refine⟨a,vs,rfl,?_⟩;cases l with
 |true=>exact .inl ⟨h,fun p hp=>q _ _ (Same.upd hp) (z47 hp rs.aggB fun _ z=>z)⟩
 |false=>exact .inr ⟨h,q _ H (Same.refl H) ⟨a,vs,rfl,h,rs.aggB⟩⟩
theorem z7n {K:W.Frag}{H:Hp}{B:Ad->Prop}:∀{ds:List D} {n:Int} {vs:List V},sumD ds=some n->Reps K H B vs ds->∃ns:List Int,vs=ns.map V.int/\ns.sum=n
 | [],n,vs,e,r=>by cases e;exact⟨[],r,rfl⟩
 |d::ds,n,vs,e,r=>by
  cases d<;>try (cases e;done)
  rename_i b;change(sumD ds).map (b+ ·)=_ at e;cases e1:sumD ds with
  |none=>rw[e1]at e;cases e
  |some m=>rw[e1]at e;cases e;obtain⟨v,t,rfl,h1,h2⟩:=r;have ev:v=.int b:=h1;obtain⟨ns,h3,h4⟩:=z7n e1 h2;exact⟨b::ns,by rw[ev,h3];rfl,by rw[gj,h4]⟩
theorem zf3 (hc:X.calm=true):CallR X (.builtin "sum") (fun xs H Q=>∃(p:Addr) (ns:List Int),xs=[.ref p]/\SqL X.K H p (ns.map V.int)/\Q (.int ns.sum) H):=by intro pins s σ H xs us Q I r h;obtain⟨p,ns,rfl,hq,q⟩:=h;obtain⟨u,rfl,ru⟩:=vals1 r;cases ru;obtain⟨its,rv,pl,hz⟩:=I.list hq;have hi:q8 its.toArray.toList ns:=intsAre_of rv;have hl:=pl.isList;obtain⟨xs,ex⟩:=hi.allInts.items;have hn:=hi.numsOf;rw[show its.toArray.toList.toArray=its.toArray by simp]at ex;rw[ex]at hl hn;refine sum_intListG (I.ok.hd hc) hl fun h' tk t' hk=>⟨.int ns.sum,H,I.kept hk,⟨t',?_⟩,q⟩;rw[preSum_eq,ll (by simp)];rw[nums_intItems]at hn;rw[hn]
theorem zud (hc:X.calm=true):CallR X (.builtin "sum") (rAgg X.K "sum"):=by
 refine CallR.imp (zf3 hc) fun xs H Q h=>?_;obtain⟨B,x,dx,l,ys,d,rfl,r,e,e2,q⟩:=h;obtain⟨a,vs,rfl,h,rs⟩:=z1k r e;simp only[aggD,show("sum":String)≠"list" by decide,show("sum":String)≠"tuple" by decide,show("sum":String)≠"sorted" by decide,if_true,if_false]at e2;cases l with
 |false=>cases e2
 |true=>
  simp only[if_true]at e2;cases e3:sumD ys with
  |none=>rw[e3]at e2;cases e2
  |some n=>rw[e3]at e2;cases e2;obtain⟨ns,ev,en⟩:=z7n e3 rs;subst ev en;exact⟨a,ns,rfl,h,q _ H (Same.refl H) rfl⟩
theorem zcz {f:String}{x:Str}{p:Pos}{y:Expr}(hc:CallR X (.type f) (rAgg X.K f))(hm:X.mg x=none)(hv:cu x=some (.type f))(hs:isStar y=false)(ha:PE X y (tD X.K fa))(hg:Gl X x)(hn:x≠"__name__")(hdb:(x==("__debug__":Str))=false):
  PE X (.Call (.Name x p) [y] [] pos) (tD X.K fun ρ=>(fa ρ>>=fun x=>z4u x.2>>=fun p=>Res.ok (x.1,p))>>=fun w=>aggD f w.2.1 w.2.2>>=fun d=>.ok (gJ d (if imms w.2.2 then .fr else rtG w.1),d)):=
 PE.imp (zkv hc hm hv (pa_c ha z2q hs) (by simp[hs]) hg hn hdb) fun σ H Q ⟨ρ,F,z,so,e,q⟩=>zib so e q
theorem zio {f:String}{x:Str}{p:Pos}{y:Expr}(hc:CallR X (.builtin f) (rAgg X.K f))(hm:X.mg x=none)(hv:cu x=some (.builtin f))(hs:isStar y=false)(ha:PE X y (tD X.K fa))(hg:Gl X x)(hn:x≠"__name__")(hdb:(x==("__debug__":Str))=false):
  PE X (.Call (.Name x p) [y] [] pos) (tD X.K fun ρ=>(fa ρ>>=fun x=>z4u x.2>>=fun p=>Res.ok (x.1,p))>>=fun w=>aggD f w.2.1 w.2.2>>=fun d=>.ok (gJ d (if imms w.2.2 then .fr else rtG w.1),d)):=
 PE.imp (zd5 hc hm hv (pa_c ha z2q hs) (by simp[hs]) hg hn hdb) fun σ H Q ⟨ρ,F,z,so,e,q⟩=>zib so e q
end
end Mi
namespace Mi
open PySem PySem.Spec
structure NoKeys (T id:String):Prop where
 own:PySem.Slot T "__getattribute__" id
 entry:entryFor table id=some Builtin.«object.__getattribute__»
 two:∀a b:Value,argsOk id {pos:=[a,b]}
 rest:typeLookup (.type T) "__getattr__"=pure none
 miss:∀(a:Addr) (xs:Array Value) (k:Nat) (sl:Array (Option Value)) (u:Tok),Meets (Builtin.«object.__getattribute__» {pos:=[.ref a,.str "keys" u]}) fun A R s=>s.heap.get? a=some {cls:=.type T,data:=.seq xs k,slots:=sl}/\raisesAttr (.ref a) "keys" A R s
theorem z87:NoKeys "list" "list.__getattribute__" where
 own:=F.slot_list_getattribute
 entry:=am_entry_list_getattribute
 two:=F.args_list_getattribute_2
 rest:=am_list_getattr_none
 miss:=fun a xs k sl u=>meets_getattribute_miss_list a xs k sl "keys" u (by rw[typeLookup_type,qd];kernel_rfl) (by decide) (by size_fits)
theorem z6v:NoKeys "tuple" "tuple.__getattribute__" where
 own:=F.slot_tuple_getattribute
 entry:=am_entry_tuple_getattribute
 two:=F.args_tuple_getattribute_2
 rest:=am_tuple_getattr_none
 miss:=fun a xs k sl u=>meets_getattribute_miss_tuple a xs k sl "keys" u (by rw[typeLookup_type,qd];kernel_rfl) (by decide) (by size_fits)
theorem NoKeys.ask {T id:String}(N:NoKeys T id){prog:a8}{w:World}{A:b7}{E:Value->ac->Prop}{s:ac}{a:Addr}{o:Obj}{xs:Array Value}{k:Nat}{Q:Option Value->ac->Prop}
  (hx:s.heap.get? a=some o) (hc:o.cls=.type T) (hdat:o.data=.seq xs k) (hd:o.dict=none) (hA:A.handled=none)
  (h:∀h' tk e,sk s.heap h' e "AttributeError"->Q none {s with heap:=h',toks:=tk}):
  wpAny (model prog w) A (qo (.ref a) "keys") Q E s:=by
 cases o;cases hc;cases hdat;cases hd;cases s;rename_i slots heap gens drawn toks os;have ty:∀t,(⟨heap,gens,drawn,t,os⟩:ac).TypeIs (.ref a) T:=fun t=>⟨_,hx,rfl⟩;have isA:=sub_AttributeError;have n1:=N.own.lookup;have n2:=N.own.bind (.ref a);have n3:=N.rest
 delta qo getAttrBy? getAttrBy
 repeat' (first|assumption|exact ty _|(apply tw N.own (ty _) N.entry (N.two _ _) (N.miss a xs k slots _))|wp_step)
 refine⟨hx,hA,fun hp2 tk2 ex nx=>?_⟩;obtain⟨t2,u2,there⟩:=nx.there;have fin:=fun t=>h _ t _ nx.of
 dsimp only[wants]
 delta getattributeRaised
 repeat' (first|assumption|apply fin|wp_step)
theorem zec {prog:a8}{w:World}{A:b7}{E:Value->ac->Prop}{s:ac}{a:Addr}{o:Obj}{xs:Array Value}{k:Nat}{Q:Option Value->ac->Prop}
 (hx:s.heap.get? a=some o) (hc:o.cls=.type "list") (hdat:o.data=.seq xs k) (hd:o.dict=none) (hA:A.handled=none) (h:∀h' tk e,sk s.heap h' e "AttributeError"->Q none {s with heap:=h',toks:=tk}):
 wpAny (model prog w) A (qo (.ref a) "keys") Q E s:=z87.ask hx hc hdat hd hA h
theorem zai {prog:a8}{w:World}{A:b7}{E:Value->ac->Prop}{s:ac}{a:Addr}{o:Obj}{xs:Array Value}{k:Nat}{Q:Option Value->ac->Prop}
 (hx:s.heap.get? a=some o) (hc:o.cls=.type "tuple") (hdat:o.data=.seq xs k) (hd:o.dict=none) (hA:A.handled=none) (h:∀h' tk e,sk s.heap h' e "AttributeError"->Q none {s with heap:=h',toks:=tk}):
 wpAny (model prog w) A (qo (.ref a) "keys") Q E s:=z6v.ask hx hc hdat hd hA h
end Mi
namespace Mi
open PySem PySem.Spec PyProof.Rows L2
abbrev inA (X:Cx)(A:b7)(E:Value->ac->Prop):Cx:={X with A:=A,xe:=E}
theorem _root_.L2.Inv.inA {X:Cx}{pins:List (Addr×Obj)}{σ:L2.St}{H:Hp}{s:ac}{A:b7}{E:Value->ac->Prop}(I:Inv X pins σ H s)(hd:A.handled=X.A.handled)(hf:A.frames=X.A.frames):Inv (inA X A E) pins σ H s:=⟨⟨I.ok.mod,I.ok.kind,I.ok.glob,I.ok.blt,I.ok.above,I.ok.inj,I.ok.has,I.ok.cab,fun z=>hd.trans (I.ok.hd z),hf.trans I.ok.frames,I.ok.stk,I.ok.exf,I.ok.bs,I.ok.bsz,I.ok.noex,I.ok.exfs,I.ok.funs,I.ok.frf,I.ok.fxN⟩,I.os,I.bare,I.base,I.loc,I.cell,I.free,I.freeC,I.pin,I.hok,I.len,I.fx⟩
theorem _root_.L2.Inv.outA {X:Cx}{pins:List (Addr×Obj)}{σ:L2.St}{H:Hp}{s:ac}{A:b7}{E:Value->ac->Prop}(ok:X.Ok)(I:Inv (inA X A E) pins σ H s):Inv X pins σ H s:=⟨ok,I.os,I.bare,I.base,I.loc,I.cell,I.free,I.freeC,I.pin,I.hok,I.len,I.fx⟩
namespace F
theorem entry_dict_loop:entryFor table "dict.update.loop"=some Builtin.«dict.update.loop»:=entryFor_of_tree (by kernel_rfl)
theorem plain_dict_loop:plainId "dict.update.loop"=true:=by decide+kernel
end F
section
variable {X:Cx}{pins:List (Addr×Obj)}{σ:L2.St}
theorem z5r {prog:a8}{w:World}{A:b7}{E:Value->ac->Prop}{s:ac}{a:Addr}{its:List Value}{Q:List Value->ac->Prop}(p:IsTup s.heap a its.toArray)(h:Q its s):wpAny (model prog w) A (ln (.ref a)) Q E s:=by have hT:=p.typeIs;obtain⟨o,ho,hc,n,hd⟩:=p;unfold ln;apply aa;refine nq hT ?_;rw[if_pos (by decide)];apply aa;refine gn ho hd ?_;apply af;simpa using h
theorem zv7 (hc:X.calm=true){A:b7}(hA:X.A=A.in1){x0:Str}{p0:Pos}{J:It}{fp:List Addr}{it:Addr}{tn:Nat->Heap->Prop}(T:Turn X.prog X.w X.K (.Name x0 p0) J fp it tn){B:Ad->Prop}{H1:Hp}{ds:List D}(Wk:Walk X.K J B H1 ds){d:Addr}(hdB:¬B (some d)){es':Ents}{R:uu->ac->Prop}:
  ∀(n i:Nat) (s:ac) (H:Hp) (kvs:List (Key×V)) (es:Ents) (t:Tok) (iv:Int),ds.length-i=n->i<=ds.length->Inv X pins σ H s->tn i s.heap->(∀b∈fp,FpOk X pins H b)->H d=some (.dK kvs)->kvs.length<=i->REs X.K H B kvs es->z3p es (ds.drop i)=some es'->Kp B H1 H->
   (∀s' H' kvs',Inv X pins σ H' s'->H' d=some (.dK kvs')->REs X.K H' B kvs' es'->(∀a o,a≠d->H a=some o->H' a=some o)->R (.ok (.ret .none)) s')->
   ku (model X.prog X.w) A (.builtin "dict.update.loop" ⟨[.ref d,.ref it,.int iv t,.none],[]⟩) R s:=by
 intro n
 induction n with
 |zero=>
  intro i s H kvs es t iv hn hi I st fo hd hl rs em kp hR;have e:i=ds.length:=by omega
  subst e;refine ge F.entry_dict_loop ?_;rw[Around.under_plainId F.plain_dict_loop _,<-hA];show wpAny _ X.A (ou (.ref it)>>=_) _ _ s;refine aa (thn (T.done X rfl rfl rfl hc _ pins s σ H _ I fo st (Wk.stop H kp)) fun r s1 zz=>?_);obtain⟨hr,I1⟩:=zz;subst hr;show wpAny _ X.A (Builtin.Dict.addKeywords d []>>=_) _ _ _;rw[List.drop_length]at em;cases em;exact aa (af (af (hR s1 H kvs I1 hd rs fun _ _ _ e=>e)))
 |succ n ih=>
  intro i s H kvs es t iv hn hi I st fo hd hl rs em kp hR;have hlt:i<ds.length:=by omega
  refine ge F.entry_dict_loop ?_;rw[Around.under_plainId F.plain_dict_loop _,<-hA];show wpAny _ X.A (ou (.ref it)>>=_) _ _ s;refine aa (thn (T.item X rfl rfl rfl hc i pins s σ H _ I fo st (Wk.go H kp i hlt)) fun r s1 zz=>?_);obtain⟨u,hr,h4⟩:=zz;subst hr;have key:∀(m:Sem PySem.Fin) (Q':PySem.Fin->ac->Prop) (E':Value->ac->Prop),wpAny (model X.prog X.w) X.A (g8 (.Name x0 p0) (.ref it) u>>=fun _=>m) Q' E' s1->wpAny (model X.prog X.w) X.A m Q' E' s1:=fun m Q' E' h=>h;refine key _ _ _ (aa (thn h4 fun _ s5 zz=>?_));obtain⟨x,H5,I5,r5,y5,st5,fr5⟩:=zz;obtain⟨sm,di,hdi,rx⟩:=Wk.yld H kp i x H5 hlt y5;have ed:ds.drop i=di::ds.drop (i+1):=by have dc:=oh hlt;rw[dc];rw[bc hlt]at hdi;cases hdi;rfl
  rw[ed]at em;unfold z3p at em;split at em
  case h_2=>cases em
  rename_i kd vd;split at em
  case isFalse=>cases em
  rename_i hk;obtain⟨a,vs,rfl,sq,rvs⟩:=rx;obtain⟨vk,vv,rfl,rk,rv⟩:=zdk rvs;cases r5;obtain⟨its,rits,pt,_⟩:=I5.tuple sq;obtain⟨uk,uv,rfl,ruk,ruv⟩:=vals2 rits;have stat:∀b∈fp,FpOk X pins H5 b:=fun b hb=>⟨fr5 b hb,(fo b hb).2⟩;have I5':=I5.pinned stat (T.obj _ _ st5);have hd5:H5 d=some (.dK kvs):=sm _ _ hd;obtain⟨k,rfl,rfl,ok⟩:=z4y hk rk;obtain⟨z,hds,vs',rel,dd⟩:=zgz I5'.hok hd5;have hz':vs'.length<=bh:=by rw[<-rel.length];exact z
  have hz:=Wk.len;have hpl:(putK kvs k vv).length<=i+1:=by have:=z4b kvs k vv;omega
  show wpAny _ X.A (nc [Value.ref a] (tryCatch (ln (.ref a)) _>>=_)>>=_) _ _ s5;refine aa (cr (aa (wpAny_tryCatch (z5r pt ?_))));show wpAny _ X.A (nc [uk,uv] (dictSet d uk uv)) _ _ s5;refine cr (wpAny_dictSet_pairs (hsz:=hz') (zb8 ruk) dd fun h' dd' hs=>?_);have he:∃q,h'.get? d=some q:=let⟨q,_,_,hq,_⟩:=dd';⟨q,hq⟩;have I6:=zcu (t':=s5.toks+1) I5' (by rw[hd5];exact True.intro) hs he (zhk (by omega) hds (rel.put k ruv) dd')
  have hk6:Kp B H5 (upd H5 d (.dK (putK kvs k vv))):=fun b o e z=>by
   have:b≠d:=by
    rintro rfl
    rcases z with z|z
    ·exact hdB z
    ·rw[hd5]at e;cases e;exact z
   rw[z06 this];exact e
  refine af ⟨me F.plain_dict_loop _,?_⟩;refine ih (i+1) _ (upd H5 d (.dK (putK kvs k vv))) (putK kvs k vv) (dput es (kD k) vd) _ _ (by omega) hlt I6.unpinned ?_ ?_ z0b hpl ?_ em ?_ ?_
  ·exact T.keep _ _ _ st5 fun b hb o e=>(I6.pin (b,o) (ax _ (ax _ (z1f hb e)))).1
  ·intro b hb;obtain⟨o,e,_⟩:=T.obj _ _ st5 b hb;exact⟨(I6.pin (b,o) (ax _ (ax _ (z1f hb e)))).2.1,(fo b hb).2⟩
  ·exact REs.keep hk6 (fun _ z=>z) _ (REs.put ok rv (rs.same sm fun _ z=>z))
  ·exact fun b o e z=>hk6 b o (sm b o (kp b o e z)) z
  ·intro s' H' kvs' I' hd' rs' ext;refine hR s' H' kvs' I' hd' rs' fun b o hb e=>ext b o hb ?_;rw[z06 hb];exact sm b o e
theorem zgm {K:W.Frag}{H H':Hp}{a:Addr}{xs:List V}(s:Same H H')(h:SqL K H a xs):SqL K H' a xs:=by
 rcases h with(h|⟨o,h⟩)|h
 ·exact .inl (.inl (s _ _ h))
 ·exact .inl (.inr ⟨o,s _ _ h⟩)
 ·exact .inr h
theorem zhf (es:Ents)(k v:D)(h1:immE es=true)(h:imm v=true):immE (es++[(k,v)])=true:=by
 unfold immE at *
 rw[List.all_append,h1];simp[h]
theorem zhc (k v:D)(hv:imm v=true)(es:Ents)(h:immE es=true):immE (es.map fun e=>if eqK e.1 k then(e.1,v)else e)=true:=by
 unfold immE at *
 rw[bt]at *
 intro e he;obtain⟨e',h1,rfl⟩:=bo.mp he;split
 ·exact hv
 ·exact h e' h1
theorem z74:∀(ys:List D) (es es':Ents),imms ys=true->immE es=true->z3p es ys=some es'->immE es'=true
 | [],es,es',_,h,e=>by cases e;exact h
 |y::ys,es,es',h1,h2,e=>by
  simp only[imms,ba]at h1;unfold z3p at e;split at e
  case h_2=>cases e
  rename_i k v;split at e
  case isFalse=>cases e
  have hv:imm v=true:=by have:=h1.1;change(imm k&&(imm v&&true))=true at this;simp only[ba]at this;exact this.2.1
  refine z74 ys _ es' h1.2 ?_ e;unfold dput;split
  ·exact zhc k v hv es h2
  ·exact zhf es k v h2 hv
theorem zmx (hc:X.calm=true):CallR X (.type "dict") (rAgg X.K "dict"):=by
 intro pins s σ H xs us Q I r h;obtain⟨B,x,dx,l,ys,d,rfl,rx,e,e2,q⟩:=h;obtain⟨a,vs,rfl,hsq,rs⟩:=z1k rx e
 have e3:∃es',z3p [] ys=some es'/\d=.dict es':=by
  simp only[aggD,show("dict":String)≠"list" by decide,show("dict":String)≠"tuple" by decide,show("dict":String)≠"sorted" by decide,show("dict":String)≠"sum" by decide,show("dict":String)≠"all" by decide,show("dict":String)≠"any" by decide,if_true,if_false]at e2;cases h:z3p [] ys with
  |none=>rw[h]at e2;cases e2
  |some es=>rw[h]at e2;cases e2;exact⟨es,rfl,rfl⟩
 obtain⟨es',em,rfl⟩:=e3;have ew:z66 dx=.ok ys:=by cases dx<;>first|(cases e;done)|(cases e;rfl)
 obtain⟨u,rfl,ru⟩:=vals1 r;cases ru;have hp:H s.heap.objs.size=none:=I.hok.fresh (am _);have I1:Inv X pins σ (upd H s.heap.objs.size (.dK [])) {s with heap:=s.heap.push {cls:=.type "dict",data:=.dict #[]}}:=I.laid (a:=s.heap.objs.size) (o:=.dK []) (t':=s.toks) (fun _ _ q=>ae _ q) (am _) (za7 s.heap I.big);refine callType_codes (Q₁:=fun obj s₁=>obj=.ref s.heap.objs.size/\s₁={s with heap:=s.heap.push {cls:=.type "dict",data:=.dict #[]}}) PySem.F.kt_called_dict (PySem.F.kt_typeCall_dict_1 _) PySem.F.entry_dict_init (kt_code_dict_new _ ⟨rfl,rfl⟩) ?_
 rintro obj s₁ ⟨rfl,rfl⟩
 have hnew:(⟨s.heap.push {cls:=.type "dict",data:=.dict #[]},s.gens,s.drawn,s.toks,s.os⟩:ac).TypeIs (.ref s.heap.objs.size) "dict":=⟨_,ay _ rfl,rfl⟩;refine⟨hnew,PySem.F.args_dict_init_2 _ _,?_⟩
 delta Builtin.«dict.__init__»
 refine aa ?_
 delta Builtin.Dict.selfAndRest
 refine aa (wpAny_notOrdered_dict hnew ?_);show wpAny _ _ (pure (s.heap.objs.size,[Value.ref a])) _ _ _;refine af ?_;show wpAny _ _ (ph "dict.__init__" s.heap.objs.size (.ref a) [] .none) _ _ _
 delta ph
 have rest:∀(h':Heap) (tk:Nat),(∀b o,(s.heap.push {cls:=.type "dict",data:=.dict #[]}).get? b=some o->h'.get? b=some o)->wpAny (model X.prog X.w) X.A.in1.in1 (ox (.ref a)) (fun itv s2=>ku (model X.prog X.w) X.A.in1 (.builtin "dict.update.loop" ⟨[.ref s.heap.objs.size,itv,mx 0,.none],[]⟩) (wants (fun r s₂=>r=.none/\EP X pins σ Q (.ref s.heap.objs.size) s₂) X.xe) s2) (fun _ _=>False) ⟨h',s.gens,s.drawn,tk,s.os⟩:=by
  intro h' tk kp;have I2:Inv (inA X X.A.in1.in1 (fun _ _=>False)) pins σ (upd H s.heap.objs.size (.dK [])) ⟨h',s.gens,s.drawn,tk,s.os⟩:=(I1.kept (t':=tk) kp).inA rfl rfl;have rx':Rep X.K (upd H s.heap.objs.size (.dK [])) (fun a=>B a/\¬nw H a) (.ref a) dx:=(Rep.there _ rx).same (Same.upd hp) fun _ z=>z;refine thn (z41 (X:=inA X X.A.in1.in1 (fun _ _=>False)) (tg:=.Name "" default) (R:=fun J H'=>Walk X.K J (fun a=>B a/\¬nw H a) H' ys/\H'=upd H s.heap.objs.size (.dK [])) I2 (y:=.ref a) (show RelV (.ref a) (.ref a)from rfl) rx' ew fun J wk=>⟨wk,rfl⟩) fun itv s2 zz=>?_;obtain⟨it,fp,tn,J,H',eit,I3,T,st,fo,wk,eH⟩:=zz;subst eit eH;refine zv7 (X:=inA X X.A.in1.in1 (fun _ _=>False)) hc rfl T wk (fun z=>z.2 hp) ys.length 0 s2 _ [] [] _ _ (by omega) (by omega) I3 st fo z0b (am _) rfl em (fun _ _ e _=>e) ?_;intro s' H' kvs' I' hd' rs' ext;refine⟨rfl,.ref s.heap.objs.size,H',I'.outA I.ok,rfl,q _ H' (fun b o e=>ext b o (z08 e hp) (by rw[z06 (z08 e hp)];exact e)) ⟨_,kvs',rfl,hd',.inl hp,?_⟩⟩;cases hi:imms ys with
  |true=>exact REs.immB es' (z74 ys [] es' hi rfl em) rs'
  |false=>exact rs'.same (Same.refl H') fun _ z=>.inr ⟨rfl,z.1⟩
 have hA:X.A.in1.in1.handled=none:=I.ok.hd hc;cases l with
 |true=>obtain⟨its,_,⟨o,n,ho,hcl,hdi,hda⟩,_⟩:=I1.list (zgm (Same.upd hp) hsq);refine aa (nq (T:="list") ⟨o,ho,hcl⟩ ?_);rw[if_pos (by decide)];refine aa (zec ho hcl hda hdi hA fun h' tk e hx=>?_);show wpAny _ _ (do rule _;let it <-ox (.ref a);again (.builtin "dict.update.loop" ⟨[.ref s.heap.objs.size,it,mx 0,.none],[]⟩)) _ _ _;refine aa (jr (aa (jb (rest h' tk hx.keeps) (fun itv s2 hc2=>?_) fun _ _ z=>z.elim)));exact af ⟨me F.plain_dict_loop _,hc2⟩
 |false=>obtain⟨its,_,⟨o,n,ho,hcl,hdi,hda⟩,_⟩:=I1.tupleN (SqT.rel (Same.upd hp) hsq);refine aa (nq (T:="tuple") ⟨o,ho,hcl⟩ ?_);rw[if_pos (by decide)];refine aa (zai ho hcl hda hdi hA fun h' tk e hx=>?_);show wpAny _ _ (do rule _;let it <-ox (.ref a);again (.builtin "dict.update.loop" ⟨[.ref s.heap.objs.size,it,mx 0,.none],[]⟩)) _ _ _;refine aa (jr (aa (jb (rest h' tk hx.keeps) (fun itv s2 hc2=>?_) fun _ _ z=>z.elim)));exact af ⟨me F.plain_dict_loop _,hc2⟩
end
end Mi
namespace Mi
open PySem PySem.Spec PyProof.Rows PySem.W
def runT {α:Type}(lt:Nat->Nat->Bool):KasT α->α
 |.ret a=>a
 |.ask i j k=>runT lt (k (lt i j))
theorem z24 {α β:Type}(lt:Nat->Nat->Bool)(f:α->KasT β):∀t:KasT α,runT lt (t.bind f)=runT lt (f (runT lt t))
 |.ret _=>rfl
 |.ask i j k=>z24 lt f (k (lt i j))
section
variable (key:Nat->Nat)
abbrev ltk:Nat->Nat->Bool:=fun i j=>decide (key i<key j)
def Kp' (p:Array Nat)(i:Nat):Nat:=key (p.getD i 0)
variable {key}
theorem z38 {p q:Array Nat}{i j:Nat}(h:p[i]?=q[j]?):Kp' key p i=Kp' key q j:=by unfold Kp';rw[fz,fz,h]
theorem ze5 {p:Array Nat}{i j:Nat}(hj:j<=p.size)(k:Nat):Kp' key (kas_rev p i j) k=if i<=k/\k<j then Kp' key p (i+j-1-k)else Kp' key p k:=by
 have h:=getElem?_mirror_all (xs:=p) (i:=i) hj k;split
 ·rename_i hk;refine z38 ?_;unfold kas_rev;rw[h,if_pos hk]
 ·rename_i hk;refine z38 ?_;unfold kas_rev;rw[h,if_neg hk]
theorem zpp {p:Array Nat}{src d:Nat}(hs:src<p.size)(hd:d<=src)(k:Nat):Kp' key (bubble p src d) k=if k=src-d then Kp' key p src else if src-d<k/\k<=src then Kp' key p (k-1)else Kp' key p k:=by
 have h:=getElem?_bubble hs d hd k;split
 ·rename_i hk;exact z38 (by rw[h,if_pos hk])
 ·rename_i hk;split
  ·rename_i hk2;exact z38 (by rw[h,if_neg hk,if_pos hk2])
  ·rename_i hk2;exact z38 (by rw[h,if_neg hk,if_neg hk2])
theorem z3w (p:Array Nat)(i j:Nat):(kas_rev p i j).size=p.size:=mirror_size _ _ _ _
theorem z36 (p:Array Nat)(i j:Nat):(kas_rev p i j).Perm p:=mirror_perm _ _ _ _
theorem z68 (p:Array Nat):∀(f n:Nat),1<=n->n<=runT (ltk key) (kas_asc p f n)/\runT (ltk key) (kas_asc p f n)<=n+f/\(∀i,n<=i->i<runT (ltk key) (kas_asc p f n)->Kp' key p (i-1)<=Kp' key p i)/\
  (runT (ltk key) (kas_asc p f n)<n+f->Kp' key p (runT (ltk key) (kas_asc p f n))<Kp' key p (runT (ltk key) (kas_asc p f n)-1))
 |0,n,h=>⟨am _,am _,fun i h1 h2=>absurd (la h1 h2) (ce _),fun h2=>absurd h2 (ce _)⟩
 |f+1,n,h=>by
  have e:runT (ltk key) (kas_asc p (f+1) n)=runT (ltk key) (if decide (Kp' key p n<Kp' key p (n-1))=true then .ret n else kas_asc p f (n+1)):=rfl;rw[e];by_cases hc:Kp' key p n<Kp' key p (n-1)
  ·rw[if_pos (we hc)];exact⟨am _,jm _ _,fun i h1 h2=>absurd (la h1 h2) (ce _),fun _=>hc⟩
  ·rw[if_neg (show ¬_ from by simpa using hc)];obtain⟨i1,i2,i3,i4⟩:=z68 p f (n+1) (by omega);refine⟨by omega,by omega,fun i h1 h2=>?_,fun h2=>i4 (by omega)⟩;by_cases hi:i=n
   ·subst hi;omega
   ·exact i3 i (by omega) h2
structure DPre (key:Nat->Nat)(p:Array Nat)(n q:Nat):Prop where
 one:1<=n
 qn:q+1<=n
 sz:n<=p.size
 de:∀i,1<=i->i<n->Kp' key p i<=Kp' key p (i-1)
 eq:∀i,n<=i+1+q->i<n->Kp' key p i=Kp' key p (n-1)
theorem DPre.rev {p:Array Nat}{n q:Nat}(h:DPre key p n q)(k:Nat):Kp' key (kas_rev p (n-(q+1)) n) k=Kp' key p k:=by
 have:=h.qn;rw[ze5 h.sz];split
 ·rename_i hk;rw[h.eq k (by omega) hk.2,h.eq _ (by omega) (by omega)]
 ·rfl
theorem z3c:∀(f:Nat) (p:Array Nat) (n q:Nat),DPre key p n q->n+f<=p.size->
  DPre key (runT (ltk key) (kas_desc f p n q)).1 (runT (ltk key) (kas_desc f p n q)).2.1 (runT (ltk key) (kas_desc f p n q)).2.2/\(runT (ltk key) (kas_desc f p n q)).1.Perm p/\(runT (ltk key) (kas_desc f p n q)).2.1<=n+f
 |0,p,n,q,h,hz=>⟨h,Array.Perm.refl _,am _⟩
 |f+1,p,n,q,h,hz=>by
  have hn:=h.one;have e:runT (ltk key) (kas_desc (f+1) p n q)=runT (ltk key) (if decide (Kp' key p n<Kp' key p (n-1))=true then(if q>0 then kas_desc f (kas_rev p (n-(q+1)) n) (n+1) 0 else kas_desc f p (n+1) 0) else .ask (p.getD (n-1) 0) (p.getD n 0) fun d=>if d=true then .ret (p,n,q)else kas_desc f p (n+1) (q+1)):=rfl;rw[e];by_cases hc:Kp' key p n<Kp' key p (n-1)
  ·rw[if_pos (we hc)];by_cases hq:q>0
   ·rw[if_pos hq]
    have h1:DPre key (kas_rev p (n-(q+1)) n) (n+1) 0:=⟨by omega,by omega,by rw[z3w];omega,fun i i1 i2=>by
     rw[h.rev,h.rev];by_cases hi:i=n
     ·subst hi;omega
     ·exact h.de i i1 (by omega),fun i i1 i2=>by
     have:i=n:=by omega
     subst this;rfl⟩
    obtain⟨r1,r2,r3⟩:=z3c f _ (n+1) 0 h1 (by rw[z3w];omega);exact⟨r1,r2.trans (z36 _ _ _),by omega⟩
   ·rw[if_neg hq]
    have h1:DPre key p (n+1) 0:=⟨by omega,by omega,by omega,fun i i1 i2=>by
     by_cases hi:i=n
     ·subst hi;omega
     ·exact h.de i i1 (by omega),fun i i1 i2=>by
     have:i=n:=by omega
     subst this;rfl⟩
    obtain⟨r1,r2,r3⟩:=z3c f _ (n+1) 0 h1 (by omega);exact⟨r1,r2,by omega⟩
  ·rw[if_neg (show ¬_ from by simpa using hc)];have e2:runT (ltk key) (KasT.ask (p.getD (n-1) 0) (p.getD n 0) fun d=>if d=true then .ret (p,n,q)else kas_desc f p (n+1) (q+1))=runT (ltk key) (if decide (Kp' key p (n-1)<Kp' key p n)=true then .ret (p,n,q)else kas_desc f p (n+1) (q+1)):=rfl;rw[e2];by_cases hc2:Kp' key p (n-1)<Kp' key p n
   ·rw[if_pos (we hc2)];exact⟨h,Array.Perm.refl _,by show n<=_;omega⟩
   ·rw[if_neg (by simpa using hc2)]
    have h1:DPre key p (n+1) (q+1):=⟨by omega,by have :=h.qn;omega,by omega,fun i i1 i2=>by
     by_cases hi:i=n
     ·subst hi;omega
     ·exact h.de i i1 (by omega),fun i i1 i2=>by
     by_cases hi:i=n
     ·subst hi;rfl
     ·have :=h.eq i (by omega) (by omega);show _=Kp' key p (n+1-1);rw[Nat.add_sub_cancel];omega⟩
    obtain⟨r1,r2,r3⟩:=z3c f _ (n+1) (q+1) h1 (by omega);exact⟨r1,r2,by omega⟩
def Asc (key:Nat->Nat)(p:Array Nat)(m:Nat):Prop:=∀i,1<=i->i<m->Kp' key p (i-1)<=Kp' key p i
theorem z5b {p:Array Nat}{n nrem:Nat}(h1:1<=n)(hn:n<=nrem)(hz:nrem<=p.size)(de:∀i,1<=i->i<n->Kp' key p i<=Kp' key p (i-1)):
  Asc key (runT (ltk key) (kas_tail3 n nrem p)).2 (runT (ltk key) (kas_tail3 n nrem p)).1/\(runT (ltk key) (kas_tail3 n nrem p)).2.Perm p/\1<=(runT (ltk key) (kas_tail3 n nrem p)).1/\(runT (ltk key) (kas_tail3 n nrem p)).1<=nrem:=by
 unfold kas_tail3;rw[z24];obtain⟨a1,a2,a3,_⟩:=z68 (key:=key) (kas_rev p 0 n) (nrem-n) n h1;refine⟨fun i i1 i2=>?_,z36 _ _ _,by show 1<=runT _ _;omega,by show runT _ _<=_;omega⟩;have i2':i<runT (ltk key) (kas_asc (kas_rev p 0 n) (nrem-n) n):=i2;by_cases hi:i<n
 ·show Kp' key (kas_rev p 0 n) (i-1)<=Kp' key (kas_rev p 0 n) i;rw[ze5 (by omega),ze5 (by omega),if_pos (by omega),if_pos (by omega)];have:=de (0+n-1-(i-1)) (by omega) (by omega);have e:0+n-1-(i-1)-1=0+n-1-i:=by omega
  rw[e]at this;exact this
 ·exact a3 i (by omega) i2'
theorem descPart_spec {p:Array Nat}{n nrem:Nat}(h1:1<=n)(hn:n<nrem)(hz:nrem<=p.size)(eq:∀i,i<n->Kp' key p i=Kp' key p (n-1))(lt:Kp' key p n<Kp' key p (n-1)):
  Asc key (runT (ltk key) (kas_descPart n nrem p)).2 (runT (ltk key) (kas_descPart n nrem p)).1/\(runT (ltk key) (kas_descPart n nrem p)).2.Perm p/\1<=(runT (ltk key) (kas_descPart n nrem p)).1/\(runT (ltk key) (kas_descPart n nrem p)).1<=nrem:=by
 unfold kas_descPart;rw[z24]
 have h:DPre key p (n+1) 0:=⟨by omega,by omega,by omega,fun i i1 i2=>by
  by_cases hi:i=n
  ·subst hi;omega
  ·rw[eq i (by omega),eq (i-1) (by omega)];exact am _,fun i i1 i2=>by
  have:i=n:=by omega
  subst this;rfl⟩
 obtain⟨r1,r2,r3⟩:=z3c (nrem-(n+1)) p (n+1) 0 h (by omega);generalize runT (ltk key) (kas_desc (nrem-(n+1)) p (n+1) 0)=r at r1 r2 r3 ⊢;have hsz:r.1.size=p.size:=r2.size_eq;by_cases hq:r.2.2>0
 ·rw[if_pos hq];obtain⟨t1,t2,t3,t4⟩:=z5b (key:=key) (p:=kas_rev r.1 (r.2.1-(r.2.2+1)) r.2.1) (n:=r.2.1) (nrem:=nrem) r1.one (by omega) (by rw[z3w,hsz];exact hz) fun i i1 i2=>by rw[r1.rev,r1.rev];exact r1.de i i1 i2
  exact⟨t1,t2.trans ((z36 _ _ _).trans r2),t3,t4⟩
 ·rw[if_neg hq];obtain⟨t1,t2,t3,t4⟩:=z5b (key:=key) (p:=r.1) (n:=r.2.1) (nrem:=nrem) r1.one (by omega) (by rw[hsz];exact hz) r1.de;exact⟨t1,t2.trans r2,t3,t4⟩
theorem Asc.le {p:Array Nat}{m:Nat}(h:Asc key p m):∀(d i:Nat),i+d<m->Kp' key p i<=Kp' key p (i+d)
 |0,i,_=>am _
 |d+1,i,hm=>by
  have h1:=Asc.le h d i (by omega);have h2:=h (i+d+1) (by omega) (by omega);have e:i+d+1-1=i+d:=by omega
  rw[e]at h2;exact b6 h1 h2
theorem zan {p:Array Nat}{nrem:Nat}(h1:1<=nrem)(hz:nrem<=p.size):
  Asc key (runT (ltk key) (kas_count nrem p)).2 (runT (ltk key) (kas_count nrem p)).1/\(runT (ltk key) (kas_count nrem p)).2.Perm p/\1<=(runT (ltk key) (kas_count nrem p)).1/\(runT (ltk key) (kas_count nrem p)).1<=nrem:=by
 unfold kas_count;rw[z24];obtain⟨a1,a2,a3,a4⟩:=z68 (key:=key) p (nrem-1) 1 (am _);generalize runT (ltk key) (kas_asc p (nrem-1) 1)=n at a1 a2 a3 a4 ⊢;have ha:Asc key p n:=a3;by_cases hn:n=nrem
 ·rw[if_pos (by simpa using hn)];exact⟨ha,Array.Perm.refl _,a1,by show n<=_;omega⟩
 ·rw[if_neg (by simpa using hn)];have lt:=a4 (by omega);by_cases h2:n>1
  ·rw[if_pos h2];have e:runT (ltk key) (KasT.ask (p.getD 0 0) (p.getD (n-1) 0) fun c=>if c=true then .ret (n,p)else kas_descPart n nrem (kas_rev p 0 n))=runT (ltk key) (if decide (Kp' key p 0<Kp' key p (n-1))=true then .ret (n,p)else kas_descPart n nrem (kas_rev p 0 n)):=rfl;rw[e];by_cases hc:Kp' key p 0<Kp' key p (n-1)
   ·rw[if_pos (we hc)];exact⟨ha,Array.Perm.refl _,a1,by show n<=_;omega⟩
   ·rw[if_neg (show ¬_ from by simpa using hc)]
    have eq:∀i,i<n->Kp' key p i=Kp' key p (n-1):=fun i hi=>by
     have b1:=ha.le i 0 (by omega);have b2:=ha.le (n-1-i) i (by omega);have e1:0+i=i:=by omega
     have e2:i+(n-1-i)=n-1:=by omega
     rw[e1]at b1;rw[e2]at b2;omega
    have eqr:∀i,i<n->Kp' key (kas_rev p 0 n) i=Kp' key p (n-1):=fun i hi=>by rw[ze5 (by omega),if_pos (by omega)];exact eq _ (by omega)
    obtain⟨t1,t2,t3,t4⟩:=descPart_spec (key:=key) (p:=kas_rev p 0 n) (n:=n) (nrem:=nrem) (by omega) (by omega) (by rw[z3w];exact hz) (fun i hi=>by rw[eqr i hi,eqr (n-1) (by omega)]) (by rw[eqr (n-1) (by omega),ze5 (by omega),if_neg (by omega)];exact lt);exact⟨t1,t2.trans (z36 _ _ _),t3,t4⟩
  ·rw[if_neg h2];have h11:n=1:=by omega
   subst h11
   exact descPart_spec (Nat.le_refl _) (by omega) hz (fun i hi=>by have :i=0:=by omega
                                                                   subst this;rfl) lt
theorem place_spec {p:Array Nat}{k:Nat}(ha:Asc key p k):∀(f l r:Nat),r-l<=f->l<=r->r<=k->(∀i,i<l->Kp' key p i<=Kp' key p k)->(∀i,r<=i->i<k->Kp' key p k<Kp' key p i)->
  runT (ltk key) (kas_place p k f l r)<=k/\(∀i,i<runT (ltk key) (kas_place p k f l r)->Kp' key p i<=Kp' key p k)/\(∀i,runT (ltk key) (kas_place p k f l r)<=i->i<k->Kp' key p k<Kp' key p i)
 |0,l,r,hf,hl,hr,h1,h2=>by
  have:l=r:=by omega
  subst this;exact⟨hr,h1,h2⟩
 |f+1,l,r,hf,hl,hr,h1,h2=>by
  unfold kas_place;by_cases hc:l ≥ r
  ·rw[if_pos hc];have:l=r:=by omega
   subst this;exact⟨hr,h1,h2⟩
  ·rw[if_neg hc];have e:runT (ltk key) (KasT.ask (p.getD k 0) (p.getD ((l+r)/2) 0) fun c=>if c=true then kas_place p k f l ((l+r)/2)else kas_place p k f ((l+r)/2+1) r)=runT (ltk key) (if decide (Kp' key p k<Kp' key p ((l+r)/2))=true then kas_place p k f l ((l+r)/2)else kas_place p k f ((l+r)/2+1) r):=rfl;rw[e];have hm1:l<=(l+r)/2:=by omega
   have hm2:(l+r)/2<r:=by omega
   generalize (l+r)/2=m at hm1 hm2 ⊢;by_cases hx:Kp' key p k<Kp' key p m
   ·rw[if_pos (we hx)];refine place_spec ha f l m (by omega) hm1 (by omega) h1 fun i i1 i2=>?_;have:=ha.le (i-m) m (by omega);have e2:m+(i-m)=i:=by omega
    rw[e2]at this;omega
   ·rw[if_neg (by simpa using hx)];refine place_spec ha f (m+1) r (by omega) (by omega) hr (fun i i1=>?_) h2;have:=ha.le (m-i) i (by omega);have e2:i+(m-i)=m:=by omega
    rw[e2]at this;omega
theorem z9m:∀(f:Nat) (p:Array Nat) (k:Nat),Asc key p k->k+f<=p.size->Asc key (runT (ltk key) (kas_bin f p k)) (k+f)/\(runT (ltk key) (kas_bin f p k)).Perm p
 |0,p,k,ha,hz=>⟨ha,Array.Perm.refl _⟩
 |f+1,p,k,ha,hz=>by
  unfold kas_bin;rw[z24];obtain⟨l1,l2,l3⟩:=place_spec (key:=key) ha k 0 k (by omega) (fu _) (am _) (fun i hi=>absurd hi (Nat.not_lt_zero _)) fun i i1 i2=>absurd (la i1 i2) (ce _);generalize runT (ltk key) (kas_place p k k 0 k)=l at l1 l2 l3 ⊢
  have hb:Asc key (bubble p k (k-l)) (k+1):=fun i i1 i2=>by
   have e:k-(k-l)=l:=by omega
   rw[zpp (by omega) (by omega),zpp (by omega) (by omega),e];by_cases c1:i=l
   ·rw[if_neg (by omega),if_neg (by omega),if_pos c1];exact l2 _ (by omega)
   ·rw[if_neg c1];by_cases c2:i-1=l
    ·rw[if_pos c2,if_pos (by omega)];rw[c2];exact lh (l3 l (am _) (by omega))
    ·rw[if_neg c2];by_cases c3:l<i
     ·rw[if_pos (by omega),if_pos (by omega)];exact ha (i-1) (by omega) (by omega)
     ·rw[if_neg (by omega),if_neg (by omega)];exact ha i i1 (by omega)
  obtain⟨b1,b2⟩:=z9m f (bubble p k (k-l)) (k+1) hb (by rw[bubble_size];omega);refine⟨?_,b2.trans (bubble_perm _ _ _)⟩;have e:k+1+f=k+(f+1):=by omega
  rw[e]at b1;exact b1
theorem z4r (n:Nat)(h1:1<=n):Asc key (runT (ltk key) (kas_sort n)) n/\(runT (ltk key) (kas_sort n)).Perm (i9 (cj n)):=by
 unfold kas_sort;rw[z24];have hsz:(i9 (cj n)).size=n:=by simp
 obtain⟨c1,c2,c3,c4⟩:=zan (key:=key) (p:=i9 (cj n)) h1 (by rw[hsz];exact am _);generalize runT (ltk key) (kas_count n (i9 (cj n)))=r at c1 c2 c3 c4 ⊢;have hr:r.2.size=n:=by rw[c2.size_eq,hsz]
 by_cases h:r.1<n
 ·rw[if_pos h];have e:max r.1 1=r.1:=by omega
  rw[e];obtain⟨b1,b2⟩:=z9m (key:=key) (n-r.1) r.2 r.1 c1 (by omega);refine⟨?_,b2.trans c2⟩;have e:r.1+(n-r.1)=n:=by omega
  rw[e]at b1;exact b1
 ·rw[if_neg h];have e:r.1=n:=by omega
  rw[e]at c1;exact⟨c1,c2⟩
end
theorem z2k {h:Heap}{a b:Addr}{f:Obj->Obj}{o:Obj}(hb:b≠a)(e:h.get? b=some o):(h.update a f).get? b=some o:=by rw[rm _ _ _ _ hb];exact e
theorem z6u {prog:a8}{w:World}{A:b7}{E:Value->ac->Prop}{s:ac}{l:Addr}{vs:List Value}{Q:Value->ac->Prop}(hl:s.heap.IsList l vs.toArray)(h2:vs.length<2)
  (h:∀D h' n,s.heap.objs.size<=D->(∀b o,s.heap.get? b=some o->h'.get? b=some o)->h'.get? D=some (da "list" vs.toArray n)->Q (.ref D) {s with heap:=h'}):wpAny (model prog w) A (call (.builtin "sorted") [.ref l]) Q E s:=by
 apply j8 uz ui uj (ul _);unfold Builtin.«sorted»;apply aa (m:=vq "sorted" 1 1 _);apply af;apply aa;refine collect_list hl ?_ (by rw[dr];omega);apply aa;refine kt ?_ (by rw[dr];omega);have k1:∀b o,s.heap.get? b=some o->((s.heap.push (da "list" #[] 0)).update s.heap.objs.size (Obj.mapSeq (· ++vs.toArray))).get? b=some o:=fun b o e=>z2k (bz (bn e)) (ae _ e);have z1:s.heap.objs.size<=((s.heap.push (da "list" #[] 0)).update s.heap.objs.size (Obj.mapSeq (· ++vs.toArray))).objs.size:=by rw[Heap.size_update,ma];omega
 generalize ((s.heap.push (da "list" #[] 0)).update s.heap.objs.size (Obj.mapSeq (·++vs.toArray)))=h1 at k1 z1 ⊢;have hoL:(h1.push (da "list" vs.toArray 0)).get? h1.objs.size=some (da "list" vs.toArray 0):=ay _ rfl;have k2:∀b o,s.heap.get? b=some o->b≠h1.objs.size/\(h1.push (da "list" vs.toArray 0)).get? b=some o:=fun b o e=>⟨bz (bw (bn e) z1),ae _ (k1 b o e)⟩;show wpAny _ _ _ _ _ {s with heap:=h1.push (da "list" vs.toArray 0)};generalize hD:h1.objs.size=D at hoL k2 z1 ⊢;generalize h1.push (da "list" vs.toArray 0)=h2' at hoL k2 ⊢;apply aa;apply cr;refine gh slot_list_sort ⟨_,hoL,rfl⟩ entry_list_sort ?body (args_list_sort _);rw[list_sort_plain];refine aa (p9 (s:={s with heap:=h2'}) hoL rfl ?_);refine aa (mf (s:={s with heap:=h2'}) hoL rfl ?_ (hsz:=by rw[dr];simp;omega));obtain⟨e1,ho1⟩:∃e1,(h2'.update D (Obj.mapSeq fun _=>(#[]:Array Value))).get? D=some (da "list" #[] e1):=⟨_,k8 hoL fun _=>#[]⟩;have k3:∀b o,s.heap.get? b=some o->b≠D/\(h2'.update D (Obj.mapSeq fun _=>(#[]:Array Value))).get? b=some o:=fun b o e=>⟨(k2 b o e).1,z2k (k2 b o e).1 (k2 b o e).2⟩;generalize (h2'.update D (Obj.mapSeq fun _=>(#[]:Array Value)))=h3 at ho1 k3 ⊢;refine aa (qp (s:={s with heap:=h3}) ho1 rfl ?_);refine aa (n6 ?_ (by rw[dr];simp;omega));apply aa;refine kt ?_;refine cr ?_;have ho6:((h3.push (da "tuple" vs.toArray 0)).push (da "list" #[] 0)).get? D=some (da "list" #[] e1):=ae _ (ae _ ho1);have k6:∀b o,s.heap.get? b=some o->b≠D/\((h3.push (da "tuple" vs.toArray 0)).push (da "list" #[] 0)).get? b=some o:=fun b o e=>⟨(k3 b o e).1,ae _ (ae _ (k3 b o e).2)⟩;show wpAny (model prog w) _ _ _ _ {s with heap:=(h3.push (da "tuple" vs.toArray 0)).push (da "list" #[] 0)};generalize ((h3.push (da "tuple" vs.toArray 0)).push (da "list" #[] 0))=h6 at ho6 k6 ⊢
 dsimp only
 have hz:vs.toArray.size<2:=by simpa using h2
 rw[if_pos hz,if_pos hz];refine aa (af ?_);rw[StateT.run_pure];refine aa (af ?_)
 dsimp only
 refine aa (qp (s:={s with heap:=h6}) ho6 rfl ?_);have em:(arrOf (SortSt.mk' general' (vs.toArray.zip vs.toArray) #[] 7 none)).map (·.2)=vs.toArray:=by show(vs.toArray.zip vs.toArray).map (·.2)=vs.toArray;simp;exact List.map_snd_zip (am _)
 rw[em];refine aa (mf (s:={s with heap:=h6}) ho6 rfl ?_ (hsz2:=by rw[dr];simp;omega));simp only[if_false,tz,bne_self_eq_false];refine af ⟨_,rfl,af ⟨_,rfl,h D _ _ z1 (fun b o e=>z2k (k6 b o e).1 (k6 b o e).2) (k8 ho6 fun _=>vs.toArray)⟩⟩
def z0t {α:Type}(n:Nat)(Q:α->Prop):KasT α->Prop
 |.ret a=>Q a
 |.ask i j k=>i<n/\j<n/\∀b,z0t n Q (k b)
theorem z0t.bind {α β:Type}{n:Nat}{Q:α->Prop}{R:β->Prop}{f:α->KasT β}(hf:∀a,Q a->z0t n R (f a)):∀{t:KasT α},z0t n Q t->z0t n R (t.bind f)
 |.ret a,h=>hf a h
 |.ask i j k,h=>⟨h.1,h.2.1,fun b=>z0t.bind hf (h.2.2 b)⟩
theorem z0t.ite {α:Type}{n:Nat}{Q:α->Prop}{c:Prop} [Decidable c] {a b:KasT α}(h1:z0t n Q a)(h2:z0t n Q b):z0t n Q (if c then a else b):=by
 split
 ·exact h1
 ·exact h2
def AllIn (n:Nat)(p:Array Nat):Prop:=0<n/\∀x∈p,x<n
theorem AllIn.get {n:Nat}{p:Array Nat}(h:AllIn n p)(i:Nat):p.getD i 0<n:=by
 rw[fz];cases e:p[i]? with
 |none=>exact h.1
 |some x=>exact h.2 x (Array.mem_of_getElem? e)
theorem AllIn.perm {n:Nat}{p q:Array Nat}(h:AllIn n p)(hp:q.Perm p):AllIn n q:=⟨h.1,fun x hx=>h.2 x (hp.mem_iff.mp hx)⟩
theorem AllIn.rev {n:Nat}{p:Array Nat}(h:AllIn n p)(i j:Nat):AllIn n (kas_rev p i j):=h.perm (z36 _ _ _)
theorem z6j {n:Nat}{p:Array Nat}(h:AllIn n p):∀f m,z0t n (fun _=>True) (kas_asc p f m)
 |0,m=>trivial
 |f+1,m=>⟨h.get _,h.get _,fun b=>z0t.ite trivial (z6j h f (m+1))⟩
theorem z37 {n:Nat}:∀(f:Nat) (p:Array Nat) (m q:Nat),AllIn n p->z0t n (fun r=>AllIn n r.1) (kas_desc f p m q)
 |0,p,m,q,h=>h
 |f+1,p,m,q,h=>⟨h.get _,h.get _,fun b=>z0t.ite (z0t.ite (z37 f _ _ _ (h.rev _ _)) (z37 f _ _ _ h)) ⟨h.get _,h.get _,fun d=>z0t.ite h (z37 f _ _ _ h)⟩⟩
theorem z55 {n m r:Nat}{p:Array Nat}(h:AllIn n p):z0t n (fun r=>AllIn n r.2) (kas_tail3 m r p):=by unfold kas_tail3;refine z0t.bind (Q:=fun _=>True) (fun a _=>?_) (z6j (h.rev _ _) _ _);exact h.rev _ _
theorem z31 {n m r:Nat}{p:Array Nat}(h:AllIn n p):z0t n (fun r=>AllIn n r.2) (kas_descPart m r p):=by unfold kas_descPart;exact z0t.bind (fun a ha=>z0t.ite (z55 (AllIn.rev ha _ _)) (z55 ha)) (z37 _ _ _ _ h)
theorem zao {n r:Nat}{p:Array Nat}(h:AllIn n p):z0t n (fun r=>AllIn n r.2) (kas_count r p):=by
 unfold kas_count;refine z0t.bind (Q:=fun _=>True) (fun m _=>?_) (z6j h _ _);split
 ·exact h
 ·split
  ·refine⟨h.get _,h.get _,fun c=>?_⟩;show z0t n _ (if c=true then _ else _);split
   ·exact h
   ·exact z31 (h.rev _ _)
  ·exact z31 h
theorem z3k {n:Nat}{p:Array Nat}(h:AllIn n p)(k:Nat):∀f l r,z0t n (fun _=>True) (kas_place p k f l r)
 |0,l,r=>trivial
 |f+1,l,r=>by unfold kas_place;exact z0t.ite trivial ⟨h.get _,h.get _,fun c=>z0t.ite (z3k h k f _ _) (z3k h k f _ _)⟩
theorem zaa {n:Nat}:∀(f:Nat) (p:Array Nat) (k:Nat),AllIn n p->z0t n (fun _=>True) (kas_bin f p k)
 |0,p,k,h=>trivial
 |f+1,p,k,h=>z0t.bind (fun l _=>zaa f _ _ (h.perm (bubble_perm _ _ _))) (z3k h k _ _ _)
theorem z6r {n:Nat}(h:0<n):z0t n (fun _=>True) (kas_sort n):=by
 have h0:AllIn n (i9 (cj n)):=⟨h,fun x hx=>by simpa using hx⟩;unfold kas_sort;refine z0t.bind (fun r hr=>?_) (zao h0);split
 ·exact zaa _ _ _ hr
 ·exact trivial
theorem z3d {α:Type}{n:Nat}{cmp:Nat->Nat->(Bool->ac->Prop)->ac->Prop}{lt:Nat->Nat->Bool}{P:ac->Prop}(h:∀i j C s,i<n->j<n->P s->(∀s',P s'->C (lt i j) s')->cmp i j C s){Q:α->ac->Prop}:∀(t:KasT α) (s:ac),z0t n (fun _=>True) t->P s->(∀s',P s'->Q (runT lt t) s')->t.kasWp cmp Q s
 |.ret a,s,_,p,q=>q s p
 |.ask i j k,s,a,p,q=>h i j _ s a.1 a.2.1 p fun s' p'=>z3d h (k (lt i j)) s' (a.2.2 _) p' q
structure OrdOn (p:D->Prop):Prop where
 irr:∀x,p x->ltD x x=false
 tr:∀x y z,p x->p y->p z->ltD x y=true->ltD y z=true->ltD x z=true
 ntr:∀x y z,p x->p y->p z->ltD x z=true->ltD x y=true\/ltD y z=true
 tot:∀x y,p x->p y->ltD x y=false->ltD y x=false->x=y
theorem z2b {x:D}(h:isI x=true):∃i,x=.int i:=by cases x<;>first|(cases h;done)|exact⟨_,rfl⟩
theorem z2a {x:D}(h:isS x=true):∃i,x=.str i:=by cases x<;>first|(cases h;done)|exact⟨_,rfl⟩
theorem z3r (a b:Int):ltD (.int a) (.int b)=decide (a<b):=rfl
theorem z3o (a b:Str):ltD (.str a) (.str b)=decide (a.cps.toList<b.cps.toList):=rfl
theorem ordI:OrdOn (fun x=>isI x=true) where
 irr:=fun x h=>by obtain⟨i,rfl⟩:=z2b h;rw[z3r];simp
 tr:=fun x y z hx hy hz h1 h2=>by obtain⟨i,rfl⟩:=z2b hx;obtain⟨j,rfl⟩:=z2b hy;obtain⟨k,rfl⟩:=z2b hz;rw[z3r,decide_eq_true_eq]at *;omega
 ntr:=fun x y z hx hy hz h=>by
  obtain⟨i,rfl⟩:=z2b hx;obtain⟨j,rfl⟩:=z2b hy;obtain⟨k,rfl⟩:=z2b hz;rw[z3r,decide_eq_true_eq]at *
  rw[z3r,decide_eq_true_eq];omega
 tot:=fun x y hx hy h1 h2=>by
  obtain⟨i,rfl⟩:=z2b hx;obtain⟨j,rfl⟩:=z2b hy;rw[z3r,decide_eq_false_iff_not]at *
  rw[show i=j by omega]
theorem zm0 {a b:Str}(h:a.cps.toList=b.cps.toList):a=b:=by obtain⟨⟨l⟩⟩:=a;obtain⟨⟨m⟩⟩:=b;simp only at h;rw[h]
theorem ordS:OrdOn (fun x=>isS x=true) where
 irr:=fun x h=>by obtain⟨i,rfl⟩:=z2a h;rw[z3o];exact strKind.irrefl _
 tr:=fun x y z hx hy hz h1 h2=>by
  obtain⟨i,rfl⟩:=z2a hx;obtain⟨j,rfl⟩:=z2a hy;obtain⟨k,rfl⟩:=z2a hz;rw[z3o]at *
  exact strKind.trans _ _ _ h1 h2
 ntr:=fun x y z hx hy hz h=>by
  obtain⟨i,rfl⟩:=z2a hx;obtain⟨j,rfl⟩:=z2a hy;obtain⟨k,rfl⟩:=z2a hz;rw[z3o]at *
  rw[z3o];exact strKind.negTrans _ _ _ h
 tot:=fun x y hx hy h1 h2=>by
  obtain⟨i,rfl⟩:=z2a hx;obtain⟨j,rfl⟩:=z2a hy;rw[z3o]at *
  rw[zm0 (strKind.total _ _ h1 h2)]
theorem ordK (b:Bool):OrdOn (fun x=>ofK b x=true):=by
 cases b with
 |true=>exact ordI
 |false=>exact ordS
theorem zhp {b:Bool}{x y:D}(hx:ofK b x=true)(hy:ofK b y=true):eqD x y=true↔x=y:=by
 cases b with
 |true=>obtain⟨i,rfl⟩:=z2b hx;obtain⟨j,rfl⟩:=z2b hy;show(i==j)=true↔_;rw[beq_iff_eq];exact⟨fun h=>by rw[h],fun h=>by cases h;rfl⟩
 |false=>obtain⟨i,rfl⟩:=z2a hx;obtain⟨j,rfl⟩:=z2a hy;show(i==j)=true↔_;rw[beq_iff_eq];exact⟨fun h=>by rw[h],fun h=>by cases h;rfl⟩
theorem z0w {b:Bool}{bs:List Bool}{xs:List D}(h:shps (b::bs) xs=true):∃x r,xs=x::r/\ofK b x=true/\shps bs r=true:=by
 cases xs with
 |nil=>cases h
 |cons x r=>simp only[shps,ba]at h;exact⟨x,r,rfl,h.1,h.2⟩
theorem z1u {xs:List D}(h:shps [] xs=true):xs=[]:=by
 cases xs with
 |nil=>rfl
 |cons x r=>cases h
theorem z50 (x y:D)(xs ys:List D):ltDs (x::xs) (y::ys)=if eqD x y then ltDs xs ys else ltD x y:=by simp only[ltDs]
theorem z29 {b:Bool}{x y:D}{xs ys:List D}(hx:ofK b x=true)(hy:ofK b y=true)(h:x=y):ltDs (x::xs) (y::ys)=ltDs xs ys:=by rw[z50,if_pos ((zhp hx hy).mpr h)]
theorem z11 {b:Bool}{x y:D}{xs ys:List D}(hx:ofK b x=true)(hy:ofK b y=true)(h:x≠y):ltDs (x::xs) (y::ys)=ltD x y:=by rw[z50,if_neg fun z=>h ((zhp hx hy).mp z)]
theorem z46:ltDs [] []=false:=by simp[ltDs]
theorem zht:∀(bs:List Bool) (xs:List D),shps bs xs=true->ltDs xs xs=false
 | [],xs,h=>by rw[z1u h];exact z46
 |b::bs,xs,h=>by obtain⟨x,r,rfl,h1,h2⟩:=z0w h;rw[z29 h1 h1 rfl];exact zht bs r h2
theorem zqj:∀(bs:List Bool) (xs ys zs:List D),shps bs xs=true->shps bs ys=true->shps bs zs=true->ltDs xs ys=true->ltDs ys zs=true->ltDs xs zs=true
 | [],xs,ys,zs,h1,h2,h3,e1,e2=>by rw[z1u h1,z1u h2,z46]at e1;cases e1
 |b::bs,xs,ys,zs,h1,h2,h3,e1,e2=>by
  obtain⟨x,xs,rfl,hx,h1⟩:=z0w h1;obtain⟨y,ys,rfl,hy,h2⟩:=z0w h2;obtain⟨z,zs,rfl,hz,h3⟩:=z0w h3;have O:=ordK b;by_cases xy:x=y
  ·rw[z29 hx hy xy]at e1;by_cases yz:y=z
   ·rw[z29 hy hz yz]at e2;rw[z29 hx hz (xy.trans yz)];exact zqj bs xs ys zs h1 h2 h3 e1 e2
   ·rw[z11 hy hz yz]at e2;rw[z11 hx hz (by rw[xy];exact yz),xy];exact e2
  ·rw[z11 hx hy xy]at e1;by_cases yz:y=z
   ·rw[z11 hx hz (by rw[<-yz];exact xy),<-yz];exact e1
   ·rw[z11 hy hz yz]at e2;have e3:=O.tr x y z hx hy hz e1 e2;rw[z11 hx hz (fun q=>by subst q;rw[O.irr x hx]at e3;cases e3)];exact e3
theorem zi7:∀(bs:List Bool) (xs ys zs:List D),shps bs xs=true->shps bs ys=true->shps bs zs=true->ltDs xs zs=true->ltDs xs ys=true\/ltDs ys zs=true
 | [],xs,ys,zs,h1,h2,h3,e1=>by rw[z1u h1,z1u h3,z46]at e1;cases e1
 |b::bs,xs,ys,zs,h1,h2,h3,e=>by
  obtain⟨x,xs,rfl,hx,h1⟩:=z0w h1;obtain⟨y,ys,rfl,hy,h2⟩:=z0w h2;obtain⟨z,zs,rfl,hz,h3⟩:=z0w h3;have O:=ordK b;by_cases xz:x=z
  ·rw[z29 hx hz xz]at e;by_cases xy:x=y
   ·rw[z29 hx hy xy,z29 hy hz (xy.symm.trans xz)];exact zi7 bs xs ys zs h1 h2 h3 e
   ·rw[z11 hx hy xy,z11 hy hz (fun q=>xy (xz.trans q.symm)),<-xz];cases e1:ltD x y with
    |true=>exact .inl rfl
    |false=>
     cases e2:ltD y x with
     |true=>exact .inr rfl
     |false=>exact(xy (O.tot x y hx hy e1 e2)).elim
  ·rw[z11 hx hz xz]at e;by_cases xy:x=y
   ·rw[z11 hy hz (fun q=>xz (xy.trans q)),<-xy];exact .inr e
   ·rw[z11 hx hy xy];by_cases yz:y=z
    ·rw[yz];exact .inl e
    ·rw[z11 hy hz yz];exact O.ntr x y z hx hy hz e
theorem zit:∀(bs:List Bool) (xs ys:List D),shps bs xs=true->shps bs ys=true->ltDs xs ys=false->ltDs ys xs=false->xs=ys
 | [],xs,ys,h1,h2,e1,e2=>by rw[z1u h1,z1u h2]
 |b::bs,xs,ys,h1,h2,e1,e2=>by
  obtain⟨x,xs,rfl,hx,h1⟩:=z0w h1;obtain⟨y,ys,rfl,hy,h2⟩:=z0w h2;by_cases xy:x=y
  ·rw[z29 hx hy xy]at e1;rw[z29 hy hx xy.symm]at e2;rw[xy,zit bs xs ys h1 h2 e1 e2]
  ·rw[z11 hx hy xy]at e1;rw[z11 hy hx (fun q=>xy q.symm)]at e2;exact(xy ((ordK b).tot x y hx hy e1 e2)).elim
theorem z12 {bs:List Bool}{x:D}(h:zal bs x=true):∃xs,x=.tuple xs/\shps bs xs=true:=by cases x<;>first|(cases h;done)|exact⟨_,rfl,h⟩
theorem z3n (a b:List D):ltD (.tuple a) (.tuple b)=ltDs a b:=rfl
theorem ordT (bs:List Bool):OrdOn (fun x=>zal bs x=true) where
 irr:=fun x h=>by obtain⟨i,rfl,h⟩:=z12 h;rw[z3n];exact zht bs i h
 tr:=fun x y z hx hy hz h1 h2=>by
  obtain⟨i,rfl,hx⟩:=z12 hx;obtain⟨j,rfl,hy⟩:=z12 hy;obtain⟨k,rfl,hz⟩:=z12 hz;rw[z3n]at *
  exact zqj bs _ _ _ hx hy hz h1 h2
 ntr:=fun x y z hx hy hz h=>by
  obtain⟨i,rfl,hx⟩:=z12 hx;obtain⟨j,rfl,hy⟩:=z12 hy;obtain⟨k,rfl,hz⟩:=z12 hz;rw[z3n]at *
  rw[z3n];exact zi7 bs _ _ _ hx hy hz h
 tot:=fun x y hx hy h1 h2=>by
  obtain⟨i,rfl,hx⟩:=z12 hx;obtain⟨j,rfl,hy⟩:=z12 hy;rw[z3n]at *
  rw[zit bs _ _ hx hy h1 h2]
def SrtD (l:List D):Prop:=l.Pairwise fun a b=>ltD b a=false
theorem z4q (x:D):∀l:List D,(insD x l).Perm (x::l)
 | []=>.refl _
 |y::l=>by
  unfold insD;split
  ·exact((z4q x l).cons y).trans (.swap x y l)
  ·exact .refl _
theorem z3f:∀l:List D,(z1a l).Perm l
 | []=>.refl _
 |x::l=>(z4q x (z1a l)).trans ((z3f l).cons x)
section
variable {p:D->Prop}(O:OrdOn p)
include O
theorem OrdOn.asym {x y:D}(hx:p x)(hy:p y)(h:ltD x y=true):ltD y x=false:=by
 cases e:ltD y x with
 |false=>rfl
 |true=>have:=O.tr x y x hx hy hx h e;rw[O.irr x hx]at this;cases this
theorem z9e (x:D)(hx:p x):∀l:List D,(∀y∈l,p y)->SrtD l->SrtD (insD x l)
 | [],_,_=>jo _ _
 |y::l,hp,hs=>by
  have hy:=hp y (by simp);have hl:∀z∈l,p z:=fun z hz=>hp z (by simp[hz]);obtain⟨h1,h2⟩:=cf.mp hs;unfold insD;split
  ·rename_i hc;refine cf.mpr ⟨fun z hz=>?_,z9e x hx l hl h2⟩;rcases au.mp ((z4q x l).mem_iff.mp hz)with rfl|hz
   ·exact O.asym hy hx hc
   ·exact h1 z hz
  ·rename_i hc;refine cf.mpr ⟨fun z hz=>?_,hs⟩;rcases(au.mp hz)with rfl|hz
   ·exact by simpa using hc
   ·cases e:ltD z x with
    |false=>rfl
    |true=>
     rcases O.ntr z y x (hl z hz) hy hx e with q|q
     ·rw[h1 z hz]at q;cases q
     ·exact(hc q).elim
theorem z6x:∀l:List D,(∀y∈l,p y)->SrtD (z1a l)
 | [],_=>List.Pairwise.nil
 |x::l,hp=>z9e O x (hp x (by simp)) _ (fun z hz=>hp z (by simp[(z3f l).mem_iff.mp hz])) (z6x l fun z hz=>hp z (by simp[hz]))
theorem z9z:∀{a b:List D},(∀y∈a,p y)->a.Perm b->SrtD a->SrtD b->a=b
 | [],b,_,hp,_,_=>(hp.symm.eq_nil).symm
 |x::a,[],_,hp,_,_=>by have:=hp.length_eq;simp at this
 |x::a,y::b,hq,hp,ha,hb=>by
  obtain⟨a1,a2⟩:=cf.mp ha;obtain⟨b1,b2⟩:=cf.mp hb;have hx:=hq x (by simp);have hy:p y:=hq y (hp.mem_iff.mpr (by simp))
  have e:x=y:=by
   refine O.tot x y hx hy ?_ ?_
   ·rcases au.mp (hp.mem_iff.mp (show x∈x::a by simp))with q|q
    ·rw[<-q];exact O.irr x hx
    ·exact b1 x q
   ·rcases au.mp (hp.mem_iff.mpr (show y∈y::b by simp))with q|q
    ·rw[<-q];exact O.irr y hy
    ·exact a1 y q
  subst e;rw[z9z (fun z hz=>hq z (by simp[hz])) (List.perm_cons x |>.mp hp) a2 b2]
def rank (ds:List D)(i:Nat):Nat:=ds.countP fun d=>ltD d (ds.getD i .none)
omit O in
theorem z82 {q r:D->Bool}:∀(l:List D),(∀x∈l,q x=true->r x=true)->(∃x∈l,r x=true/\q x=false)->l.countP q<l.countP r
 | [],_,⟨_,h,_⟩=>by simp at h
 |x::l,h,⟨y,hy,h1,h2⟩=>by
  have hl:l.countP q<=l.countP r:=qe fun z hz=>h z (by simp[hz]);rcases(au.mp hy)with rfl|hy
  ·rw[List.countP_cons_of_neg (by rw[h2];simp),List.countP_cons_of_pos h1];omega
  ·have :=z82 l (fun z hz=>h z (by simp[hz])) ⟨y,hy,h1,h2⟩;rw[List.countP_cons,List.countP_cons];have hx:=h x (by simp);cases e:q x with
   |true=>rw[hx e];simp;exact this
   |false=>simp;split<;>omega
theorem z8x {ds:List D}(hp:∀d∈ds,p d){i j:Nat}(hi:i<ds.length)(hj:j<ds.length):decide (rank ds i<rank ds j)=ltD (ds.getD i .none) (ds.getD j .none):=by
 have ei:ds.getD i .none=ds[i]:=by simp[hi]
 have ej:ds.getD j .none=ds[j]:=by simp[hj]
 have mi:ds[i]∈ds:=d9 hi;have mj:ds[j]∈ds:=d9 hj;unfold rank;rw[ei,ej];cases e:ltD ds[i] ds[j]with
 |true=>rw[decide_eq_true_eq];exact z82 ds (fun x hx h=>O.tr x _ _ (hp x hx) (hp _ mi) (hp _ mj) h e) ⟨ds[i],mi,e,O.irr _ (hp _ mi)⟩
 |false=>
  rw[decide_eq_false_iff_not]
  have:ds.countP (fun d=>ltD d ds[j])<=ds.countP fun d=>ltD d ds[i]:=qe fun x hx h=>by
   rcases O.ntr x _ _ (hp x hx) (hp _ mi) (hp _ mj) h with q|q
   ·exact q
   ·rw[e]at q;cases q
  omega
theorem za5 {ds:List D}(hp:∀d∈ds,p d)(hn:1<=ds.length):(runT (ltk (rank ds)) (kas_sort ds.length)).toList.map (fun i=>ds.getD i .none)=z1a ds:=by
 obtain⟨h1,h2⟩:=z4r (key:=rank ds) ds.length hn;generalize runT (ltk (rank ds)) (kas_sort ds.length)=q at h1 h2 ⊢;have hq:q.toList.Perm (cj ds.length):=by simpa using h2.toList
 have hsz:q.size=ds.length:=by rw[h2.size_eq];simp
 have hperm:(q.toList.map fun i=>ds.getD i .none).Perm ds:=by
  refine(hq.map _).trans ?_
  have:(cj ds.length).map (fun i=>ds.getD i .none)=ds:=by
   apply List.ext_getElem
   ·simp
   ·intro i h1 h2;simp;rw[bc (by simpa using h2)];rfl
  rw[this]
 refine z9z O (fun y hy=>hp y (hperm.mem_iff.mp hy)) (hperm.trans (z3f ds).symm) ?_ (z6x O ds hp);unfold SrtD;rw[jy,List.pairwise_iff_getElem];intro i j hi hj hij;have hi':i<ds.length:=by rw[<-hsz];simpa using hi
 have hj':j<ds.length:=by rw[<-hsz];simpa using hj
 have le:=h1.le (j-i) i (by omega);have e:i+(j-i)=j:=by omega
 rw[e]at le;have ki:Kp' (rank ds) q i=rank ds q.toList[i]:=by unfold Kp';rw[fz];simp[hsz,hi']
 have kj:Kp' (rank ds) q j=rank ds q.toList[j]:=by unfold Kp';rw[fz];simp[hsz,hj']
 rw[ki,kj]at le;have m1:q.toList[i]<ds.length:=by simpa using hq.mem_iff.mp (d9 hi)
 have m2:q.toList[j]<ds.length:=by simpa using hq.mem_iff.mp (d9 hj)
 rw[<-z8x O hp m2 m1,decide_eq_false_iff_not];omega
end
end Mi
namespace Mi
open PySem PySem.Spec PyProof.Rows L2 PySem.W
def ScV (b:Bool)(x:D)(u:Value):Prop:=if b then ∃i t,x=.int i/\u=.int i t else ∃z t,x=.str z/\u=.str z t
theorem ziw {K:W.Frag}{H:Hp}{B:Ad->Prop}{b:Bool}{x:D}{v:V}{u:Value}(hx:ofK b x=true)(r:Rep K H B v x)(ru:RelV v u):ScV b x u:=by
 cases b with
 |true=>obtain⟨i,rfl⟩:=z2b hx;have e:v=.int i:=r;subst e;obtain⟨t,rfl⟩:=ru;exact⟨i,t,rfl,rfl⟩
 |false=>obtain⟨z,rfl⟩:=z2a hx;have e:v=.str z:=r.1;subst e;obtain⟨t,rfl⟩:=ru;exact⟨z,t,rfl,rfl⟩
section
variable {prog:a8}{w:World}{A:b7}{E:Value->ac->Prop}{s:ac}{b:Bool}{x y:D}{u v:Value}{Q:Bool->ac->Prop}
theorem zqm (h1:ScV b x u)(h2:ScV b y v)(q:Q (eqD x y) s):wpAny (model prog w) A (eqBool u v) Q E s:=by
 cases b with
 |true=>obtain⟨i,t,rfl,rfl⟩:=h1;obtain⟨j,t',rfl,rfl⟩:=h2;exact wpAny_eqBool_int q
 |false=>
  obtain⟨i,t,rfl,rfl⟩:=h1;obtain⟨j,t',rfl,rfl⟩:=h2;refine wpAny_eqBool_str ?_;have e:eqD (.str i) (.str j)=decide (i=j):=by show(i==j)=decide (i=j);apply Bool.eq_iff_iff.mpr;rw[beq_iff_eq,decide_eq_true_eq]
  rw[<-e];exact q
theorem zpm (c:Bool)(h1:ScV b x u)(h2:ScV b y v)(q:Q (ltD x y) s):wpAny (model prog w) A (oneLt' c u v) Q E s:=by
 cases b with
 |true=>
  obtain⟨i,t,rfl,rfl⟩:=h1;obtain⟨j,t',rfl,rfl⟩:=h2;rw[z3r]at q;cases c with
  |true=>exact oneLt_int q
  |false=>exact kat_one _ _ (PyProof.Rows.lt_int q)
 |false=>
  obtain⟨i,t,rfl,rfl⟩:=h1;obtain⟨j,t',rfl,rfl⟩:=h2;rw[z3o]at q;cases c with
  |true=>exact oneLt_str q
  |false=>exact kat_one _ _ (PyProof.Rows.lt_str q)
end
def ScVs:List Bool->List D->List Value->Prop
 | [],xs,us=>xs=[]/\us=[]
 |b::bs,xs,us=>∃x r u t,xs=x::r/\us=u::t/\ofK b x=true/\ScV b x u/\ScVs bs r t
theorem z8i {K:W.Frag}{H:Hp}{B:Ad->Prop}:∀{bs:List Bool} {xs:List D} {vs:List V} {us:List Value},shps bs xs=true->Reps K H B vs xs->Vals vs us->ScVs bs xs us
 | [],xs,vs,us,h,r,rv=>by have e:=z1u h;subst e;have e2:vs=[]:=r;subst e2;cases rv;exact⟨rfl,rfl⟩
 |b::bs,xs,vs,us,h,r,rv=>by
  obtain⟨x,xs',rfl,h1,h2⟩:=z0w h;obtain⟨v,t,rfl,r1,r2⟩:=r;cases rv with
  |cons a c=>exact⟨x,xs',_,_,rfl,rfl,h1,ziw h1 r1 a,z8i h2 r2 c⟩
theorem zi2 {prog:a8}{w:World}{A:b7}{s:ac}{b:Bool}{Q:Bool->ac->Prop}:∀{bs:List Bool} {xs ys:List D} {us vs:List Value} (i:Nat),ScVs bs xs us->ScVs bs ys vs->Q (ltDs xs ys) s->KatLex prog w A b false Q (us.zip vs) i s
 | [],xs,ys,us,vs,i,h1,h2,q=>by obtain⟨rfl,rfl⟩:=h1;obtain⟨rfl,rfl⟩:=h2;rw[z46]at q;exact q
 |c::bs,xs,ys,us,vs,i,h1,h2,q=>by
  obtain⟨x,xs,u,us,rfl,rfl,hx,sx,h1⟩:=h1;obtain⟨y,ys,v,vs,rfl,rfl,hy,sy,h2⟩:=h2;rw[n8];refine kat_cons (zqm sx sy ?_);rw[z50]at q;cases e:eqD x y with
  |true=>rw[e,if_pos rfl]at q;exact kat_yes (zi2 (i+1) h1 h2 q)
  |false=>rw[e,if_neg b9]at q;exact kat_no (zpm _ sx sy q)
theorem z6a:∀{bs:List Bool} {xs:List D} {us:List Value},ScVs bs xs us->us.length=bs.length
 | [],_,_,h=>by rw[h.2];rfl
 |b::bs,_,_,h=>by obtain⟨x,r,u,t,rfl,rfl,_,_,h⟩:=h;rw[bq,bq,z6a h]
theorem z0s.some {P:a8}{w:World}{H:Hp}{h:Heap}{a:Addr}{o:HO}(x:z0s P w H h a o):∃q,h.get? a=some q:=by
 cases o with
 |lst xs=>obtain⟨_,_,_,_,e⟩:=x;exact⟨_,e⟩
 |tup xs=>obtain⟨_,_,_,_,e⟩:=x;exact⟨_,e⟩
 |dK kvs=>obtain⟨_,_,_,_,o,_,_,e,_⟩:=x;exact⟨_,e⟩
 |own y=>exact x
 |frz ob u=>exact⟨_,x.1⟩
 |tbl ps=>exact⟨_,x⟩
 |ext φ=>obtain⟨p,⟨o,e⟩,st⟩:=x;exact⟨_,e⟩
theorem _root_.L2.Inv.laidF {X:Cx}{pins:List (Addr×Obj)}{σ:L2.St}{H:Hp}{s:ac}{h':Heap}{D:Addr}{o:HO}{t':Nat}{m:Str->Option Value}(I:Inv X pins σ H s)(hm:s.heap.Ns X.env.locals m)(hn':h'.Ns X.env.locals m)
  (kp:∀b u,b≠X.env.locals->s.heap.get? b=some u->h'.get? b=some u) (hD:s.heap.get? D=none) (new:z0s X.prog X.w (upd H D o) h' D o):Inv X pins σ (upd H D o) {s with heap:=h',toks:=t'}:=by
 have hH:H D=none:=by
  cases e:H D with
  |none=>rfl
  |some u=>obtain⟨q,hq⟩:=z0s.some (I.hok D u e);rw[hD]at hq;cases hq
 refine I.step (g':=s.gens) (d':=s.drawn) (ch:=[]) (fun _ z=>nomatch z) (fun b q hL _ _ e _=>kp b q hL e) (fun b q hL _ _ e _=>⟨q.slots,kp b q hL e⟩) (fun b q _ e n=>?_) (fun b q _ e=>?_) (fun b xs q=>by rw[z06 (z08 q hH)];exact q) (fun b u xs q=>by rw[z06 (z08 q hH)];exact q) (fun b ps q=>⟨#[],by rw[z06 (z08 q hH),q];simp⟩) (fun m' hm'=>?_) (fun b u e=>?_) I.bare
 ·rw[z06 (fun z=>by subst z;rw[hD]at e;cases e)];exact n
 ·by_cases hb:b=X.env.locals
  ·subst hb;obtain⟨o',_,_,ho',_⟩:=hn';exact⟨o',ho'⟩
  ·exact⟨q,kp b q hb e⟩
 ·rw[hm'.eq_nsMap,<-hm.eq_nsMap];exact hn'
 ·by_cases hb:b=D
  ·subst hb;rw[z0b]at e;cases e;exact new
  ·rw[z06 hb]at e;have nL:∀c v,H c=some v->c≠X.env.locals:=fun c v ec z=>by subst z;rw[I.free]at ec;cases ec
   refine(I.hok b u e).stay (fun c v hc q=>kp c v ?_ q) (fun c q=>by rw[z06 (z08 q hH)];exact q) fun c xs q=>by rw[z06 (z08 q hH)];exact q
   rcases hc with rfl|hc
   ·exact nL _ _ e
   ·exact nL _ _ hc
theorem z4c {vs:List V}{us:List Value}(r:Vals vs us):∀(is:List Nat),(∀i∈is,i<vs.length)->Vals (is.map fun i=>vs.getD i .non) (is.map fun i=>us.getD i Value.none)
 | [],_=>.nil
 |i::is,h=>by
  have hi:i<vs.length:=h i (by simp);obtain⟨u,hu,ru⟩:=r.get (i:=i) (x:=vs[i]) (by simp[hi]);have e1:vs.getD i .non=vs[i]:=by simp[hi]
  have e2:us.getD i Value.none=u:=by rw[a9,hu];rfl
  rw[ao,ao,e1,e2];exact .cons ru (z4c r is fun j hj=>h j (by simp[hj]))
theorem z4g {K:W.Frag}{H:Hp}{B:Ad->Prop}{vs:List V}{ds:List D}(r:Reps K H B vs ds):∀(is:List Nat),(∀i∈is,i<ds.length)->Reps K H B (is.map fun i=>vs.getD i .non) (is.map fun i=>ds.getD i .none)
 | [],_=>rfl
 |i::is,h=>by
  have hi:i<ds.length:=h i (by simp);obtain⟨v,hv,rv⟩:=r.get (i:=i) (d:=ds[i]) (by simp[hi]);have e1:ds.getD i .none=ds[i]:=by simp[hi]
  have e2:vs.getD i .non=v:=by rw[a9,hv];rfl
  rw[ao,ao,e1,e2];exact Reps.cons rv (z4g r is fun j hj=>h j (by simp[hj]))
section
variable {X:Cx}
theorem z2s {pins:List (Addr×Obj)}{s:ac}{σ:L2.St}{H:Hp}{Q:VK}{p:D->Prop}(O:OrdOn p)(I:Inv X pins σ H s){a:Addr}{vs:List V}{its:List Value}{ys:List D}{B:Ad->Prop}
  (hl:s.heap.IsList a its.toArray) (rv:Vals vs its) (rs:Reps X.K H B vs ys) (h2:2<=ys.length) (h64:ys.length<64) (hp:∀d∈ys,p d)
  (ask:∀h':Heap,(∀b o,b≠X.env.locals->s.heap.get? b=some o->h'.get? b=some o)->wpAny (model X.prog X.w) X.A.in1.in1 (vw its.toArray) (fun κ s'=>s'={s with heap:=h'}/\∀i j (C:Bool->ac->Prop),i<ys.length->j<ys.length->C (ltD (ys.getD i .none) (ys.getD j .none)) {s with heap:=h'}->kas_ask X.prog X.w X.A.in1.in1 κ its i j C {s with heap:=h'}) (fun _ _=>False) {s with heap:=h'})
  (q:∀w H',Same H H'->Rep X.K H' (fun a=>nw H a\/(imms ys=false/\B a)) w (.list (z1a ys))->Q w H'):
  wpAny (model X.prog X.w) X.A (call (.builtin "sorted") [.ref a]) (EP X pins σ Q) X.xe s:=by
 have l1:vs.length=ys.length:=rs.length;have l2:vs.length=its.length:=rv.length;obtain⟨m,hNs,_⟩:=id I.loc;have F:Fr X.base X.env.locals s.heap m:=⟨hNs,I.bk,b6 I.ok.bsz I.ok.above⟩;refine kat_sorted F (zad (h:=s.heap)) hl (by omega) (by omega) fun D e1 h' F' N' lts=>?_
 have kpOf:∀{h'':Heap} {o:Obj},Fr X.base X.env.locals h'' m->News X.base X.env.locals h'' ((D,o)::z4z X.base s.heap X.env.locals)->∀b o,b≠X.env.locals->s.heap.get? b=some o->h''.get? b=some o:=fun F'' N'' b o hb e=>by
  cases qq:X.base.get? b with
  |some u=>have:=I.bk b u qq;rw[e]at this;cases this;exact F''.keep b _ qq
  |none=>exact(N'' (b,o) (aq _ (z2t hb qq e))).1
 have hDn:=N' (D,da "list" #[] e1) ak
 have hD:s.heap.get? D=none:=by
  cases e:s.heap.get? D with
  |none=>rfl
  |some o=>exact absurd (lts (D,o) (z2t hDn.2.1 hDn.2.2 e)) (ce _)
 have hHD:H D=none:=by
  cases e:H D with
  |none=>rfl
  |some u=>obtain⟨q,hq⟩:=z0s.some (I.hok D u e);rw[hD]at hq;cases hq
 refine thn (ask h' (kpOf F' N')) fun κ s' zz=>?_;obtain⟨es,hask⟩:=zz;subst es;have el:its.length=ys.length:=by omega
 rw[el];refine z3d (n:=ys.length) (lt:=ltk (rank ys)) (P:=fun s'=>s'={s with heap:=h'}) (fun i j C s' hi hj e hC=>?_) (kas_sort ys.length) _ (z6r (by omega)) rfl fun s' e=>?_
 ·subst e;refine hask i j C hi hj ?_;rw[<-z8x O hp hi hj];exact hC _ rfl
 ·subst e;refine⟨_,_,F',N',.head (fun p hp=>bz (lts p hp)),fun h'' c F'' N''=>?_⟩;have hD2:=(N'' _ ak).1;have out:=za5 O hp (by omega);obtain⟨_,hperm⟩:=z4r (key:=rank ys) ys.length (by omega);generalize runT (ltk (rank ys)) (kas_sort ys.length)=pm at out hperm hD2 ⊢;have hin:∀i∈pm.toList,i<ys.length:=fun i hi=>by have:=(hperm.toList.mem_iff (a:=i)).mp hi;simpa using this
  have lnn:(pm.toList.map fun i=>vs.getD i .non).length=ys.length:=by rw[ah];have:=hperm.toList.length_eq;simpa using this
  have new:z0s X.prog X.w (upd H D (.lst (pm.toList.map fun i=>vs.getD i .non))) h'' D (.lst (pm.toList.map fun i=>vs.getD i .non)):=⟨by rw[lnn,dr];omega,_,c,z4c rv pm.toList (fun i hi=>by rw[l1];exact hin i hi),hD2⟩;have I2:=I.laidF (t':=s.toks) hNs F''.ns (kpOf F'' N'') hD new;refine⟨.ref D,_,I2,rfl,q _ _ (Same.upd hHD) ?_⟩;rw[<-out];exact z1t hHD (z4g (Reps.aggB rs) pm.toList hin) (fun _ z=>z) (.inl hHD)
end
section
variable {X:Cx}
theorem zbn {K:W.Frag}{H:Hp}{B:Ad->Prop}{vs:List V}{ys:List D}{its:List Value}(rs:Reps K H B vs ys)(rv:Vals vs its){i:Nat}(hi:i<ys.length):∃v,Rep K H B v (ys.getD i .none)/\RelV v (its.getD i Value.none)/\its[i]?=some (its.getD i Value.none):=by
 obtain⟨v,h1,h2⟩:=rs.get (i:=i) (d:=ys[i]) (by simp[hi]);obtain⟨u,h3,h4⟩:=rv.get h1;have e1:ys.getD i .none=ys[i]:=by simp[hi]
 have e2:its.getD i Value.none=u:=by rw[a9,h3];rfl
 rw[e1,e2];exact⟨v,h2,h4,h3⟩
theorem zoi {its:List Value}{u:Value}(h:u∈its):∃i,i<its.length/\its.getD i Value.none=u:=by obtain⟨i,hi,e⟩:=rq h;exact⟨i,hi,by rw[<-e];simp[hi]⟩
theorem z5g {H:Hp}{B:Ad->Prop}{s:ac}{vs:List V}{ys:List D}{its:List Value}(b:Bool)(hy:∀d∈ys,ofK b d=true)(rs:Reps X.K H B vs ys)(rv:Vals vs its)(h2:2<=ys.length)(h':Heap){A:b7}:
  wpAny (model X.prog X.w) A (vw its.toArray) (fun κ s'=>s'={s with heap:=h'}/\∀i j (C:Bool->ac->Prop),i<ys.length->j<ys.length->C (ltD (ys.getD i .none) (ys.getD j .none)) {s with heap:=h'}->kas_ask X.prog X.w A κ its i j C {s with heap:=h'}) (fun _ _=>False) {s with heap:=h'}:=by
 have hl:its.length=ys.length:=by rw[<-rv.length,rs.length]
 have sc:∀i,i<ys.length->ScV b (ys.getD i .none) (its.getD i Value.none):=fun i hi=>by obtain⟨v,h1,h2,_⟩:=zbn rs rv hi;exact ziw (hy _ (by rw[a9,bc hi];exact d9 hi)) h1 h2
 have ty:∀u∈its,Looks (model X.prog X.w) h' (uw u) (.type (if b then "int"else "str")):=fun u hu=>by
  obtain⟨i,hi,rfl⟩:=zoi hu;have:=sc i (by omega);cases b with
  |true=>obtain⟨k,t,_,e⟩:=this;rw[e];exact Looks.of_pure rfl
  |false=>obtain⟨k,t,_,e⟩:=this;rw[e];exact Looks.of_pure rfl
 refine kas_kind (T:=.type (if b then "int"else "str")) (by omega) ty (by cases b<;>decide) (by cases b<;>decide) ⟨rfl,fun i j C hi hj hC=>?_⟩;show wpAny _ _ (keyLt' oneType' _ _) C _ _;rw[keyLt'_oneType];exact zpm true (sc i hi) (sc j hj) hC
theorem zoo {pins:List (Addr×Obj)}{σ:L2.St}{H:Hp}{B:Ad->Prop}{s:ac}(I:Inv X pins σ H s){h':Heap}(kp:∀b o,s.heap.get? b=some o->o.cls=.type "tuple"->b≠X.env.locals->h'.get? b=some o)(b:Bool)(bs:List Bool):
  ∀{ys:List D} {vs:List V} {its:List Value},(∀d∈ys,zal (b::bs) d=true)->Reps X.K H B vs ys->Vals vs its->∃fs,KatTups h' its fs/\fs.length=its.length/\∀f∈fs,∃x,ScV b x f
 | [],vs,its,_,r,rv=>by have e:vs=[]:=r;subst e;cases rv;exact⟨[],trivial,rfl,fun _ z=>nomatch z⟩
 |y::ys,vs,its,hy,r,rv=>by
  obtain⟨v,t,rfl,r1,r2⟩:=r;cases rv with
  |cons a c=>
   obtain⟨fs,k1,k2,k3⟩:=zoo I kp b bs (fun d hd=>hy d (by simp[hd])) r2 c;obtain⟨xs,rfl,hs⟩:=z12 (hy y (by simp));obtain⟨ad,ws,rfl,sq,rw'⟩:=r1;cases a;obtain⟨jts,rj,pt,_⟩:=I.tuple sq;obtain⟨o,ho,hc,n,hd⟩:=pt;have hne:ad≠X.env.locals:=by intro z;subst z;obtain⟨_,⟨o',es,ep,ho',hd',_⟩,_⟩:=id I.loc;rw[ho]at ho';cases ho';rw[hd]at hd';cases hd'
   have sc:=z8i hs rw' rj;obtain⟨x,r,u,t',rfl,rfl,_,sx,_⟩:=sc;exact⟨u::fs,KatTups.cons (kp _ _ ho hc hne) hc hd (by simp) k1,by simp[k2],fun f hf=>(au.mp hf).elim (fun z=>⟨x,by rw[z];exact sx⟩) (k3 f)⟩
theorem zd2 {pins:List (Addr×Obj)}{σ:L2.St}{H:Hp}{B:Ad->Prop}{s:ac}(I:Inv X pins σ H s){vs:List V}{ys:List D}{its:List Value}(b:Bool)(bs:List Bool)(hy:∀d∈ys,zal (b::bs) d=true)(rs:Reps X.K H B vs ys)(rv:Vals vs its)(h2:2<=ys.length){h':Heap}(kp:∀b o,s.heap.get? b=some o->o.cls=.type "tuple"->b≠X.env.locals->h'.get? b=some o){A:b7}:
  wpAny (model X.prog X.w) A (vw its.toArray) (fun κ s'=>s'={s with heap:=h'}/\∀i j (C:Bool->ac->Prop),i<ys.length->j<ys.length->C (ltD (ys.getD i .none) (ys.getD j .none)) {s with heap:=h'}->kas_ask X.prog X.w A κ its i j C {s with heap:=h'}) (fun _ _=>False) {s with heap:=h'}:=by
 have hl:its.length=ys.length:=by rw[<-rv.length,rs.length]
 obtain⟨fs,k1,k2,k3⟩:=zoo I kp b bs hy rs rv
 have ty:∀u∈fs,Looks (model X.prog X.w) h' (uw u) (.type (if b then "int"else "str")):=fun u hu=>by
  obtain⟨x,this⟩:=k3 u hu;cases b with
  |true=>obtain⟨k,t,_,e⟩:=this;rw[e];exact Looks.of_pure rfl
  |false=>obtain⟨k,t,_,e⟩:=this;rw[e];exact Looks.of_pure rfl
 have part:∀i,i<ys.length->∃ad xs o jts n,its.getD i Value.none=.ref ad/\ys.getD i .none=.tuple xs/\h'.get? ad=some o/\o.data=.seq (i9 jts) n/\ScVs (b::bs) xs jts:=fun i hi=>by
  obtain⟨v,r1,r2,_⟩:=zbn rs rv hi;obtain⟨xs,ex,hs⟩:=z12 (hy (ys.getD i .none) (by rw[a9,bc hi];exact d9 hi));rw[ex]at r1;obtain⟨ad,ws,rfl,sq,rw'⟩:=r1;obtain⟨jts,rj,⟨o,ho,hc,n,hd⟩,_⟩:=I.tuple sq;have hne:ad≠X.env.locals:=by intro z;subst z;obtain⟨_,⟨o',es,ep,ho',hd',_⟩,_⟩:=id I.loc;rw[ho]at ho';cases ho';rw[hd]at hd';cases hd'
  exact⟨ad,xs,o,jts,n,r2,ex,kp _ _ ho hc hne,hd,z8i hs rw' rj⟩
 refine kat_kind (T:=.type (if b then "int"else "str")) k1 (by omega) ty (by cases b<;>decide) ⟨rfl,fun i j C hi hj hC=>?_⟩;obtain⟨ai,xi,oi,ji,ni,e1,e2,e3,e4,e5⟩:=part i hi;obtain⟨aj,xj,oj,jj,nj,f1,f2,f3,f4,f5⟩:=part j hj;show wpAny _ _ (keyLt' _ (its.getD i Value.none) (its.getD j Value.none)) C _ _;rw[e1,f1];refine kat_lt e3 e4 f3 f4 ?_;have ef:decide ((i9 ji).size<(i9 jj).size)=false:=by rw[aw,aw,z6a e5,z6a f5];simp
 rw[ef];rw[e2,f2,z3n]at hC;exact zi2 0 e5 f5 hC
theorem zct {pins:List (Addr×Obj)}{s:ac}{σ:L2.St}{H:Hp}{xs:List V}{us:List Value}{Q:VK}{B:Ad->Prop}{x:V}{dx:D}{ys:List D}{d:D}(I:Inv X pins σ H s)(r:Vals xs us)(hx:xs=[x])(rx:Rep X.K H B x dx)(e:z4u dx=.ok (true,ys))(e2:aggD "sorted" true ys=.ok d)
  (q:∀w H',Same H H'->Rep X.K H' (fun a=>nw H a\/(imms ys=false/\B a)) w d->Q w H'):wpAny (model X.prog X.w) X.A (call (.builtin "sorted") us) (EP X pins σ Q) X.xe s:=by
 subst hx;obtain⟨a,vs,rfl,hsq,rs⟩:=z1k rx e;simp only[aggD,show("sorted":String)≠"list" by decide,show("sorted":String)≠"tuple" by decide,if_true,if_false]at e2;split at e2
 case isFalse=>cases e2
 rename_i hc;cases e2;simp only[decide_eq_true_eq,ba,pv,true_and]at hc;obtain⟨hs,h64⟩:=hc;obtain⟨u,rfl,ru⟩:=vals1 r;cases ru;obtain⟨its,rv,pl,hz⟩:=I.list hsq;have hll:its.length=ys.length:=by rw[<-rv.length,rs.length]
 by_cases h2:ys.length<2
 ·refine z6u pl.isList (by omega) fun D h' n hD kp ho=>?_;have hH:H D=none:=I.hok.fresh hD;have I2:=I.laid (a:=D) (o:=.lst vs) (t':=s.toks) kp hD ⟨hz,its,n,rv,ho⟩;refine⟨.ref D,_,I2,rfl,q _ _ (Same.upd hH) ?_⟩
  have es:z1a ys=ys:=by
   match ys,h2 with
   | [],_=>rfl
   | [y],_=>rfl
   |_::_::_,h2=>simp at h2;omega
  rw[es];exact z1t hH (Reps.aggB rs) (fun _ z=>z) (.inl hH)
 ·have h2':2<=ys.length:=by omega
  unfold z1c at hs;simp only[gc,bt]at hs;rcases hs with(hs|hs)|hs
  ·exact z2s ordI I pl.isList rv rs h2' h64 hs (fun h' kp=>z5g true hs rs rv h2' h') q
  ·exact z2s ordS I pl.isList rv rs h2' h64 hs (fun h' kp=>z5g false hs rs rv h2' h') q
  ·split at hs
   case h_2=>cases hs
   rename_i y0 _;simp only[ba,bt,jx]at hs;obtain⟨hne,hs⟩:=hs;cases y0 with
   |nil=>cases hne
   |cons y1 yr=>exact z2s (ordT _) I pl.isList rv rs h2' h64 hs (fun h' kp=>zd2 I _ _ hs rs rv h2' fun b o e _ hL=>kp b o hL e) q
end
end Mi
namespace Mi
open PySem PySem.Spec PyProof.Rows L2
section
variable {X:Cx}
end
section
variable {X:Cx}{pins pins0:List (Addr×Obj)}{σ σ0:L2.St}{H H0:Hp}{s s0:ac}{d:Addr}{o:Obj}{kvs kvs0:List (Key×V)}
end
section
variable {X:Cx}{pins:List (Addr×Obj)}{σ:L2.St}{H:Hp}{s:ac}
end
theorem zup {kvs:List (Key×V)}{vs:List (Key×Value)}(r:KV kvs vs){i:Nat}{k:Key}{v:V}(h:kvs[i]?=some (k,v)):∃u,vs[i]?=some (k,u)/\RelV v u:=by
 induction r generalizing i with
 |nil=>simp at h
 |cons a b ih=>
  cases i with
  |zero=>rw[lf]at h ⊢;cases h;rename_i bb _ _;obtain⟨b1,b2⟩:=bb;obtain⟨a1,a2⟩:=a;have a1':k=b1:=a1;subst a1';exact⟨b2,rfl,a2⟩
  |succ i=>rw[jp]at h ⊢;exact ih h
theorem zaj {P:a8}{w:World}{k:Key}{u:Value}(h:(z14 P w).is k u=true):RelV (kV k) u:=by
 rw[zb7]at h;rcases z0n h with⟨i,t,rfl,rfl⟩|⟨x,t,rfl,rfl⟩
 ·exact⟨t,rfl⟩
 ·exact⟨t,rfl⟩
theorem REs.at {K:W.Frag}{H:Hp}{B:Ad->Prop}:∀{kvs:List (Key×V)} {es:Ents} {i:Nat} {k:Key} {v:V},REs K H B kvs es->kvs[i]?=some (k,v)->∃d,es[i]?=some (kD k,d)/\keyOk k/\Rep K H B v d
 |kvs,[],i,k,v,r,e=>by have:kvs=[]:=r;subst this;simp at e
 |kvs,(kd,d)::es,i,k,v,r,e=>by
  obtain⟨k',v',t,rfl,rfl,ok,h1,h2⟩:=r;cases i with
  |zero=>rw[lf]at e ⊢;cases e;exact⟨d,rfl,ok,h1⟩
  |succ i=>rw[jp]at e ⊢;exact REs.at h2 e
theorem zo7 {K:W.Frag}{H:Hp}{B:Ad->Prop}{k:Key}(ok:keyOk k):Rep K H B (kV k) (kD k):=by
 cases k with
 |inl i=>exact rfl
 |inr x=>exact⟨rfl,ok⟩
section
variable {X:Cx}
end
section
variable {X:Cx}
theorem zeu {K:W.Frag}{F:Fm}{H:Hp}{σ:L2.St}{ρ:Rho}{i:Nat}{g:G}{es:Ents}(so:StOk K F H σ ρ)(e:ρ[i]?=some (some (g,.dict es))):∃d kvs B,σ[i]?=some (some (.ref d))/\H d=some (.dK kvs)/\F.V d/\REs K H B kvs es:=by
 obtain⟨v,h1,h2⟩:=so.sl i g _ e;cases g with
 |fr=>
  obtain⟨p,rfl,ho,h⟩:=h2;rcases h with⟨_,_,z,_⟩|⟨kvs,es',z,h3,r⟩
  ·cases z
  ·cases z;exact⟨p,kvs,_,h1,h3,(so.own p i ho).2.1,r⟩
 |od=>obtain⟨p,kvs,rfl,h3,b,r⟩:=h2;exact⟨p,kvs,_,h1,h3,b.2,r⟩
 |al=>obtain⟨p,kvs,rfl,h3,b,r⟩:=h2;exact⟨p,kvs,_,h1,h3,b,r⟩
end
section
variable {X:Cx}{pins:List (Addr×Obj)}{σ:L2.St}{H:Hp}{s:ac}
theorem _root_.L2.Inv.track {a:Addr}{u:HO}(I:Inv X pins σ H s)(f:FpOk X pins H a)(new:z0s X.prog X.w (upd H a u) s.heap a u):Inv X pins σ (upd H a u) s:=by
 obtain⟨f0,f1,f2,f3,f4,f5⟩:=f
 exact I.step (g':=s.gens) (d':=s.drawn) (t':=s.toks) (h':=s.heap) (ch:=[a]) (fun b hb=>by
   have e:b=a:=by simpa using hb
   subst e;exact⟨f3,f1,f4,f5⟩) (fun b q _ _ _ e _=>e) (fun b q _ _ _ e _=>⟨q.slots,e⟩) (fun b q hc _ n=>by rw[z06 (fun z=>hc (by simp[z]))];exact n) (fun b q _ e=>⟨q,e⟩)
  (fun b xs q=>by rw[z06 (z08 q f0)];exact q) (fun b v xs q=>by rw[z06 (z08 q f0)];exact q) (fun b ps q=>⟨#[],by rw[z06 (z08 q f0),q];simp⟩) (fun m h=>h) (fun b v e=>by
   by_cases hb:b=a
   ·subst hb;rw[z0b]at e;cases e;exact new
   ·rw[z06 hb]at e;exact(I.hok b v e).stay (fun c w _ q=>q) (fun c q=>by rw[z06 (z08 q f0)];exact q) fun c xs q=>by rw[z06 (z08 q f0)];exact q) I.bare
theorem z7a:∀(l:List (Addr×List V)) {H:Hp},Inv X pins σ H s->(l.map (·.1)).Nodup->(∀q∈l,FpOk X pins H q.1)->(∀q∈l,q.2.length<=bh/\∃its:List Value,Vals q.2 its/\TupN s.heap q.1 its.toArray)->
  ∃H1,Inv X pins σ H1 s/\Same H H1/\(∀q∈l,H1 q.1=some (.tup q.2))/\∀a,a∉l.map (·.1)->H1 a=H a
 | [],H,I,_,_,_=>⟨H,I,Same.refl H,(fun q hq=>absurd hq (by simp)),fun _ _=>rfl⟩
 |(a,xs)::l,H,I,nd,hf,ht=>by
  rw[ao,ci]at nd;have fa:=hf (a,xs) (by simp);have I1:=I.track (u:=.tup xs) fa (ht (a,xs) (by simp));have hne:∀q∈l,q.1≠a:=fun q hq z=>nd.1 (bo.mpr ⟨q,hq,z⟩);obtain⟨H1,J1,sm,h1,h2⟩:=z7a l I1 nd.2 (fun q hq=>by obtain⟨f0,r⟩:=hf q (by simp[hq]);exact⟨by rw[z06 (hne q hq)];exact f0,r⟩) fun q hq=>ht q (by simp[hq]);refine⟨H1,J1,(Same.upd fa.1).trans sm,fun q hq=>?_,fun b hb=>?_⟩
  ·rcases au.mp hq with e0|hq;subst e0
   ·rw[h2 a nd.1];exact z0b
   ·exact h1 q hq
  ·rw[ao,au,not_or]at hb;rw[h2 b hb.2,z06 hb.1]
theorem _root_.L2.Inv.writeF {h':Heap}{D:Addr}{xs ys:List V}{t':Nat}{m:Str->Option Value}(I:Inv X pins σ H s)(hH:H D=some (.lst xs))(hm:s.heap.Ns X.env.locals m)(hn':h'.Ns X.env.locals m)
  (kp:∀b u,b≠X.env.locals->b≠D->s.heap.get? b=some u->h'.get? b=some u) (new:z0s X.prog X.w (upd H D (.lst ys)) h' D (.lst ys)):Inv X pins σ (upd H D (.lst ys)) {s with heap:=h',toks:=t'}:=by
 have nd:∀b v,H b=some v->v≠.lst xs->upd H D (.lst ys) b=some v:=fun b v q hv=>by rw[z06 (fun z=>by subst z;rw[hH]at q;cases q;exact hv rfl)];exact q
 have ne:∀b,H b=none->b≠D:=fun b n z=>by subst z;rw[hH]at n;cases n
 have nL:∀c v,H c=some v->c≠X.env.locals:=fun c v ec z=>by subst z;rw[I.free]at ec;cases ec
 refine I.step (g':=s.gens) (d':=s.drawn) (ch:=[]) (fun _ z=>nomatch z) (fun b q hL _ _ e n=>kp b q hL (ne b n) e) (fun b q hL _ _ e n=>⟨q.slots,kp b q hL (ne b n) e⟩) (fun b q _ e n=>by rw[z06 (ne b n)];exact n) (fun b q _ e=>?_) (fun b xs q=>nd b _ q (fun z=>nomatch z)) (fun b u xs q=>nd b _ q (fun z=>nomatch z)) (fun b ps q=>⟨#[],by rw[nd b _ q (fun z=>nomatch z)];simp⟩) (fun m' hm'=>?_) (fun b u e=>?_) I.bare
 ·by_cases hb:b=X.env.locals
  ·subst hb;obtain⟨o',_,_,ho',_⟩:=hn';exact⟨o',ho'⟩
  ·by_cases hd:b=D
   ·subst hd;obtain⟨_,_,_,_,e'⟩:=new;exact⟨_,e'⟩
   ·exact⟨q,kp b q hb hd e⟩
 ·rw[hm'.eq_nsMap,<-hm.eq_nsMap];exact hn'
 ·by_cases hb:b=D
  ·subst hb;rw[z0b]at e;cases e;exact new
  ·rw[z06 hb]at e;refine(I.hok b u e).stay (fun c v hc q=>?_) (fun c q=>nd c _ q (fun z=>nomatch z)) fun c xs q=>nd c _ q (fun z=>nomatch z);rcases hc with rfl|hc
   ·exact kp _ v (nL _ _ e) hb q
   ·exact kp c v (nL _ _ hc) (fun z=>by subst z;rw[hH]at hc;cases hc) q
def zp2 (i:Nat):TE:=fun σ H Q=>∃d kvs,σ[i]?=some (some (.ref d))/\H d=some (.dK kvs)/\∀p,H p=none->Q (.ref p) (upd H p (.ext fun h=>h.IsItemsView p d))
theorem zfa {i:Nat}{x:Str}{p ap cp:Pos}(hN:X.N[i]?=some x)(hv:Vis X.env.scope x)(hdb:(x==("__debug__":Str))=false)(hcd:(x==("__classdict__":Str))=false)(hline:(ap.endLine==cp.line)=true):
  PE X (.Call (.Attribute (.Name x p) "items" ap) [] [] cp) (zp2 i):=by
 intro pins s σ H Q I h;obtain⟨d,kvs,hσ,hd,q⟩:=h;refine wpAny_Call_method (T:="dict") (id:="dict.items") rfl rfl hline PySem.F.plainAttrs_dict PySem.F.slot_dict_items PySem.F.type_dict_items (thn (z4m hN hv hdb hcd pins s σ H (fun v H1=>v=.ref d/\H1=H) I ⟨_,hσ,rfl,rfl⟩) fun ov s1 zz=>?_);obtain⟨y,H1,I1,r1,ey,eH⟩:=zz;subst ey eH;cases r1;obtain⟨_,hsys,vs,rel,hdo⟩:=zgz I1.hok hd;refine⟨hdo.typeIs,hdo.mapOf.noDict,?_⟩;show wpAny _ _ (callWith cp (.builtin "dict.items") [.ref d] [] []) _ _ s1;refine method_meetsIn PySem.F.slot_dict_items PySem.F.entry_dict_items rfl (PySem.evalArgs_none ⟨rfl,hdo.typeIs,PySem.F.args_dict_items_1 _,_,meets_dict_items (z14 X.prog X.w) d hsys,⟨vs,hdo⟩,?_⟩);have hp:H1 s1.heap.objs.size=none:=I1.hok.fresh (am _);refine⟨.ref s1.heap.objs.size,_,I1.laid (a:=s1.heap.objs.size) (o:=.ext fun h=>h.IsItemsView s1.heap.objs.size d) (t':=s1.toks) (fun _ _ q=>ae _ q) (am _) ⟨⟨_,ay _ rfl,rfl,rfl⟩,⟨_,ay _ rfl⟩,fun h1 h2 ⟨o,ho,r⟩ k=>⟨o,k o ho,r⟩⟩,rfl,q _ hp⟩
end
end Mi
namespace Mi
open PySem PySem.Spec PyProof.Rows L2 PySem.W
section
variable {X:Cx}{pins:List (Addr×Obj)}{σ:L2.St}{H:Hp}{s:ac}
theorem z1g {p:D->Prop}(O:OrdOn p)(I:Inv X pins σ H s){l:Addr}{vs:List V}{its:List Value}{n:Nat}{ys:List D}{B:Ad->Prop}{A:b7}{E:Value->ac->Prop}{Q:Value->ac->Prop}
  (hH:H l=some (.lst vs)) (ho:s.heap.get? l=some (listOf its.toArray n)) (rv:Vals vs its) (rs:Reps X.K H B vs ys) (h2:2<=ys.length) (h64:ys.length<64) (hp:∀d∈ys,p d)
  (ask:∀h':Heap,(∀b o,b≠X.env.locals->b≠l->s.heap.get? b=some o->h'.get? b=some o)->wpAny (model X.prog X.w) A.in1 (vw its.toArray) (fun κ s'=>s'={s with heap:=h'}/\∀i j (C:Bool->ac->Prop),i<ys.length->j<ys.length->C (ltD (ys.getD i .none) (ys.getD j .none)) {s with heap:=h'}->kas_ask X.prog X.w A.in1 κ its i j C {s with heap:=h'}) (fun _ _=>False) {s with heap:=h'})
  (q:∀s' vs',Inv X pins σ (upd H l (.lst vs')) s'->Reps X.K H B vs' (z1a ys)->Q .none s'):wpAny (model X.prog X.w) A (call (.builtin "list.sort") [.ref l]) Q E s:=by
 have l1:vs.length=ys.length:=rs.length;have l2:vs.length=its.length:=rv.length;obtain⟨m,hNs,_⟩:=id I.loc;have F:Fr X.base X.env.locals s.heap m:=⟨hNs,I.bk,b6 I.ok.bsz I.ok.above⟩;have hL:l≠X.env.locals:=fun z=>by subst z;rw[I.free]at hH;cases hH
 have hb:X.base.get? l=none:=by
  cases e:X.base.get? l with
  |none=>rfl
  |some u=>have:=(I.bs l u e).2;rw[hH]at this;cases this
 refine kat_lsort (vs:=its) F (news_at hL hb ho) (.head zbs) (by simp) (by omega) (by omega) fun e1 h' F' N'=>?_;have kpOf:∀{h'':Heap} {o:Obj},Fr X.base X.env.locals h'' m->News X.base X.env.locals h'' ((l,o)::rest X.base s.heap X.env.locals l)->∀b o,b≠X.env.locals->b≠l->s.heap.get? b=some o->h''.get? b=some o:=fun F'' N'' b o h1 h2 e=>z6o I.bk F'' (fun q hq=>N'' q (aq _ hq)) b o h1 h2 e;refine thn (ask h' (kpOf F' N')) fun κ s' zz=>?_;obtain⟨es,hask⟩:=zz;subst es;have el:its.length=ys.length:=by omega
 rw[el];refine z3d (n:=ys.length) (lt:=ltk (rank ys)) (P:=fun s'=>s'={s with heap:=h'}) (fun i j C s' hi hj e hC=>?_) (kas_sort ys.length) _ (z6r (by omega)) rfl fun s' e=>?_
 ·subst e;refine hask i j C hi hj ?_;rw[<-z8x O hp hi hj];exact hC _ rfl
 ·subst e;refine⟨_,_,F',N',.head zbs,fun h'' c F'' N''=>?_⟩;have hD2:=(N'' _ ak).1;have out:=za5 O hp (by omega);obtain⟨_,hperm⟩:=z4r (key:=rank ys) ys.length (by omega);generalize runT (ltk (rank ys)) (kas_sort ys.length)=pm at out hperm hD2 ⊢;have hin:∀i∈pm.toList,i<ys.length:=fun i hi=>by have:=(hperm.toList.mem_iff (a:=i)).mp hi;simpa using this
  have lnn:(pm.toList.map fun i=>vs.getD i .non).length=ys.length:=by rw[ah];have:=hperm.toList.length_eq;simpa using this
  refine q _ (pm.toList.map fun i=>vs.getD i .non) (I.writeF (t':=s.toks) hH hNs F''.ns (kpOf F'' N'') ⟨by rw[lnn,dr];omega,_,c,z4c rv pm.toList (fun i hi=>by rw[l1];exact hin i hi),hD2⟩) ?_;rw[<-out];exact z4g rs pm.toList hin
end
theorem z4s {prog:a8}{w:World}{A:b7}{E:Value->ac->Prop}{s:ac}{l:Addr}{vs:List Value}{n:Nat}{Q:Value->ac->Prop}(hoL:s.heap.get? l=some (da "list" vs.toArray n))(h2:vs.length<2)
  (h:∀h' n',(∀b o,b≠l->s.heap.get? b=some o->h'.get? b=some o)->h'.get? l=some (da "list" vs.toArray n')->Q .none {s with heap:=h'}):
  wpAny (model prog w) A (call (.builtin "list.sort") [.ref l]) Q E s:=by
 refine gh slot_list_sort ⟨_,hoL,rfl⟩ entry_list_sort ?body (args_list_sort _);rw[list_sort_plain];refine aa (p9 hoL rfl ?_);refine aa (mf hoL rfl ?_ (hsz:=by rw[dr];simp;omega));obtain⟨e1,ho1⟩:∃e1,(s.heap.update l (Obj.mapSeq fun _=>(#[]:Array Value))).get? l=some (da "list" #[] e1):=⟨_,k8 hoL fun _=>#[]⟩;have k3:∀b o,b≠l->s.heap.get? b=some o->(s.heap.update l (Obj.mapSeq fun _=>(#[]:Array Value))).get? b=some o:=fun b o hb e=>z2k hb e;generalize (s.heap.update l (Obj.mapSeq fun _=>(#[]:Array Value)))=h3 at ho1 k3 ⊢;refine aa (qp (s:={s with heap:=h3}) ho1 rfl ?_);refine aa (n6 ?_ (by rw[dr];simp;omega));apply aa;refine kt ?_;refine cr ?_;have ho6:((h3.push (da "tuple" vs.toArray 0)).push (da "list" #[] 0)).get? l=some (da "list" #[] e1):=ae _ (ae _ ho1);have k6:∀b o,b≠l->s.heap.get? b=some o->((h3.push (da "tuple" vs.toArray 0)).push (da "list" #[] 0)).get? b=some o:=fun b o hb e=>ae _ (ae _ (k3 b o hb e));show wpAny (model prog w) _ _ _ _ {s with heap:=(h3.push (da "tuple" vs.toArray 0)).push (da "list" #[] 0)};generalize ((h3.push (da "tuple" vs.toArray 0)).push (da "list" #[] 0))=h6 at ho6 k6 ⊢
 dsimp only
 have hz:vs.toArray.size<2:=by simpa using h2
 rw[if_pos hz,if_pos hz];refine aa (af ?_);rw[StateT.run_pure];refine aa (af ?_)
 dsimp only
 refine aa (qp (s:={s with heap:=h6}) ho6 rfl ?_);have em:(arrOf (SortSt.mk' general' (vs.toArray.zip vs.toArray) #[] 7 none)).map (·.2)=vs.toArray:=by show(vs.toArray.zip vs.toArray).map (·.2)=vs.toArray;simp;exact List.map_snd_zip (am _)
 rw[em];refine aa (mf (s:={s with heap:=h6}) ho6 rfl ?_ (hsz2:=by rw[dr];simp;omega));simp only[if_false,tz,bne_self_eq_false];exact af ⟨_,rfl,h _ _ (fun b o hb e=>z2k hb (k6 b o hb e)) (k8 ho6 fun _=>vs.toArray)⟩
theorem zd8 {K:W.Frag}{H:Hp}{B:Ad->Prop}:∀{vs:List V} {ds:List D},vs.length=ds.length->(∀(i:Nat) v d,vs[i]?=some v->ds[i]?=some d->Rep K H B v d)->Reps K H B vs ds
 | [],[],_,_=>rfl
 |v::vs,d::ds,hl,h=>Reps.cons (h 0 v d rfl rfl) (zd8 (by simpa using hl) fun i v d h1 h2=>h (i+1) v d (by simpa using h1) (by simpa using h2))
 | [],_::_,hl,_=>by cases hl
 |_::_,[],hl,_=>by cases hl
theorem z13:∀as:List Addr,Vals (as.map V.ref) (as.map Value.ref)
 | []=>.nil
 |a::as=>.cons rfl (z13 as)
section
variable {X:Cx}
def rSV (K:W.Frag):List V->Hp->VK->Prop:=fun xs H Q=>∃p d kvs es B,xs=[.ref p]/\H p=some (.ext fun h=>h.IsItemsView p d)/\H d=some (.dK kvs)/\REs K H B kvs es/\immE es=true/\z1c (es.map ent)=true/\es.length<64/\∀w H',Same H H'->Rep K H' (nw H) w (.list (z1a (es.map ent)))->Q w H'
theorem zde (hc:X.calm=true):CallR X (.builtin "sorted") (rSV X.K):=by
 intro pins s σ H xs us Q I r h;obtain⟨p,d,kvs,es,B,rfl,hp,hd,rs,him,hok,h64,q⟩:=h;obtain⟨u,rfl,ru⟩:=vals1 r;cases ru;obtain⟨hview,_,_⟩:=I.hok p _ hp;obtain⟨hz,hsys,vs,rel,o,es',ep,ho,hcx,hdat,r3⟩:=zgz I.hok hd;have hat:s.heap.DictAt (z14 X.prog X.w) d vs ep:=⟨o,es',ho,hcx,hdat,r3⟩;have lk:kvs.length=vs.length:=rel.length;have le:kvs.length=es.length:=rs.length;apply j8 uz ui uj (ul _);unfold Builtin.«sorted»;apply aa (m:=vq "sorted" 1 1 _);apply af;refine aa (kdx_collect (A:=X.A.in1) (knd:=z14 X.prog X.w) (kvs:=vs) (ep:=ep) (I.ok.hd hc) hview hat (by omega) fun h' tk as hk hl hG=>?_);have I1:Inv X pins σ H {s with heap:=h',toks:=tk}:=I.kept (t':=tk) hk;have lz:as.length=kvs.length:=by omega
 have e1:((as.zip (kvs.map fun kv=>[kV kv.1,kv.2])).map (·.1))=as:=List.map_fst_zip (by rw[ah];omega)
 have memZ:∀z∈as.zip (kvs.map fun kv=>[kV kv.1,kv.2]),∃j k v,as[j]?=some z.1/\kvs[j]?=some (k,v)/\z.2=[kV k,v]:=fun z hz1=>by
  obtain⟨j,hj,ej⟩:=rq hz1;have hj':j<as.length/\j<kvs.length:=by rw[qb,ah]at hj;omega
  refine⟨j,(kvs[j]'hj'.2).1,(kvs[j]'hj'.2).2,?_,bc hj'.2,?_⟩
  ·rw[<-ej,List.getElem_zip];exact bc hj'.1
  ·rw[<-ej,List.getElem_zip];simp
 obtain⟨H1,I2,sm,ht,_⟩:=z7a (as.zip (kvs.map fun kv=>[kV kv.1,kv.2])) I1 (by rw[e1];exact hG.rise.imp fun h=>bz h)
  (fun z hz=>by obtain⟨j,k,v,h1,_,_⟩:=memZ z hz;have ha:=hG.above z.1 (b8 h1);exact I.fpOk (lh ha) (I.hok.fresh (lh ha)))
  (fun z hz=>by obtain⟨j,k,v,h1,h2,h3⟩:=memZ z hz;obtain⟨key,k',x,g1,g2,g3⟩:=hG.pairs j z.1 h1;obtain⟨u,g4,ru⟩:=zup rel h2;rw[g4]at g1;cases g1;rw[h3];exact⟨by rw[dr];simp,[key,_],.cons (zaj g2) (.cons ru .nil),0,g3⟩)
 refine aa (kt ?_ (by rw[ah];omega));have hD:H1 h'.objs.size=none:=I2.hok.fresh (am _);have I3:Inv X pins σ (upd H1 h'.objs.size (.lst (as.map V.ref))) {s with heap:=h'.push (da "list" (as.map Value.ref).toArray 0),toks:=tk}:=I2.laid (a:=h'.objs.size) (o:=.lst (as.map V.ref)) (t':=tk) (fun _ _ q=>ae _ q) (am _) ⟨by rw[ah];omega,_,0,z13 as,ay _ rfl⟩
 have rp:Reps X.K (upd H1 h'.objs.size (.lst (as.map V.ref))) (fun _=>False) (as.map V.ref) (es.map ent):=by
  refine zd8 (by rw[ah,ah];omega) fun i v dd h1 h2=>?_;rw[bx]at h1 h2;obtain⟨a,ha,rfl⟩:=dj.mp h1;obtain⟨ev,hev,rfl⟩:=dj.mp h2;have hi:i<kvs.length:=by rw[<-lz];exact(bg.mp ha).1
  have hkv:kvs[i]?=some (kvs[i].1,kvs[i].2):=by simp[hi]
  obtain⟨dv,h4,ok,rv⟩:=REs.at rs hkv;rw[h4]at hev;cases hev;have hta:H1 a=some (.tup [kV kvs[i].1,kvs[i].2]):=ht (a,[kV kvs[i].1,kvs[i].2]) (by refine lw.mpr ⟨i,?_⟩;rw[iu];exact⟨ha,by rw[bx,hkv];rfl⟩);have hdv:imm dv=true:=bt.mp him _ (b8 h4);refine⟨a,_,rfl,SqT.of (by rw[z06 (z08 hta hD)];exact hta),Reps.cons (zo7 ok) (Reps.cons ?_ rfl)⟩;exact Rep.immK (fun b u e f=>by have:=sm b u e;rw[z06 (z08 this hD)];exact this) dv hdv rv
 have hHD:H h'.objs.size=none:=by
  cases e:H h'.objs.size with
  |none=>rfl
  |some u=>have:=sm _ _ e;rw[hD]at this;cases this
 have fin:∀s' vs',Inv X pins σ (upd (upd H1 h'.objs.size (.lst (as.map V.ref))) h'.objs.size (.lst vs')) s'->Reps X.K (upd H1 h'.objs.size (.lst (as.map V.ref))) (fun _=>False) vs' (z1a (es.map ent))->EP X pins σ Q (.ref h'.objs.size) s':=fun s' vs' I4 r4=>by
  refine⟨.ref h'.objs.size,_,I4,rfl,q _ _ (fun b u e=>?_) ⟨_,vs',rfl,.inl ⟨z0b,hHD⟩,?_⟩⟩
  ·have hb:=z08 e hHD;rw[z06 hb,z06 hb];exact sm b u e
  ·exact Reps.keep (fun b u e f=>by
    rcases f with f|f
    ·exact f.elim
    ·have hb:b≠h'.objs.size:=fun z=>by subst z;rw[z0b]at e;cases e;exact f
     rw[z06 hb];exact e) (fun _ z=>z.elim) _ r4
 show wpAny _ _ (nc [Value.ref h'.objs.size] (call (.builtin "list.sort") [.ref h'.objs.size])>>=_) _ _ {s with heap:=h'.push (da "list" (as.map Value.ref).toArray 0),toks:=tk};have hoD:(h'.push (da "list" (as.map Value.ref).toArray 0)).get? h'.objs.size=some (da "list" (as.map Value.ref).toArray 0):=ay _ rfl;obtain⟨m,hNs,_⟩:=id I3.loc;have hLD:X.env.locals≠h'.objs.size:=fun z=>by have:=I2.lt;rw[z]at this;exact ce _ this
 by_cases h2:es.length<2
 ·refine aa (cr (z4s (s:={s with heap:=h'.push (da "list" (as.map Value.ref).toArray 0),toks:=tk}) hoD (by rw[ah];omega) fun h'' n' kp hD2=>af ⟨_,rfl,fin _ _ (I3.writeF (t':=tk) z0b hNs (hNs.at fun o e=>kp _ o hLD e) (fun b u _ hb e=>kp b u hb e) ⟨by rw[ah];omega,_,n',z13 as,hD2⟩) ?_⟩))
  have es2:z1a (es.map ent)=es.map ent:=by
   match es,h2 with
   | [],_=>rfl
   | [y],_=>rfl
   |_::_::_,h2=>simp at h2;omega
  rw[es2];exact rp
 ·have h2':2<=(es.map ent).length:=by rw[ah];omega
  have h64':(es.map ent).length<64:=by rw[ah];exact h64
  have post:∀s' vs',Inv X pins σ (upd (upd H1 h'.objs.size (.lst (as.map V.ref))) h'.objs.size (.lst vs')) s'->Reps X.K (upd H1 h'.objs.size (.lst (as.map V.ref))) (fun _=>False) vs' (z1a (es.map ent))->EP X pins σ Q (.ref h'.objs.size) s':=fin;unfold z1c at hok;simp only[gc,bt]at hok;have ktp:∀h'':Heap,(∀b o,b≠X.env.locals->b≠h'.objs.size->(h'.push (da "list" (as.map Value.ref).toArray 0)).get? b=some o->h''.get? b=some o)->∀b o,(h'.push (da "list" (as.map Value.ref).toArray 0)).get? b=some o->o.cls=.type "tuple"->b≠X.env.locals->h''.get? b=some o:=fun h'' kp b o e hcl hL=>kp b o hL (fun z=>by subst z;rw[hoD]at e;cases e;exact absurd hcl (by simp)) e;rcases hok with(hs|hs)|hs
  ·exact aa (cr (z1g (A:=X.A.in1) ordI I3 z0b hoD (z13 as) rp h2' h64' hs (fun h'' kp=>z5g true hs rp (z13 as) h2' h'') fun s' vs' I4 r4=>af ⟨_,rfl,fin s' vs' I4 r4⟩))
  ·exact aa (cr (z1g (A:=X.A.in1) ordS I3 z0b hoD (z13 as) rp h2' h64' hs (fun h'' kp=>z5g false hs rp (z13 as) h2' h'') fun s' vs' I4 r4=>af ⟨_,rfl,fin s' vs' I4 r4⟩))
  ·split at hs
   case h_2=>cases hs
   rename_i y0 _ _;simp only[ba,bt,jx]at hs;obtain⟨hne,hs⟩:=hs;cases y0 with
   |nil=>cases hne
   |cons y1 yr=>exact aa (cr (z1g (A:=X.A.in1) (ordT _) I3 z0b hoD (z13 as) rp h2' h64' hs (fun h'' kp=>zd2 I3 _ _ hs rp (z13 as) h2' (ktp h'' kp)) fun s' vs' I4 r4=>af ⟨_,rfl,fin s' vs' I4 r4⟩))
end
end Mi
namespace Mi
open PySem PySem.Spec PyProof.Rows L2
section
variable {X:Cx}
theorem zji {i:Nat}{f x:Str}{p p2 ap cp pos:Pos}(hc:X.calm=true)(hm:X.mg f=none)(hb:cu f=some (.builtin "sorted"))(hg:Gl X f)(hn:f≠"__name__")(hfd:(f==("__debug__":Str))=false)
  (hN:X.N[i]?=some x) (hv:Vis X.env.scope x) (hdb:(x==("__debug__":Str))=false) (hcd:(x==("__classdict__":Str))=false) (hline:(ap.endLine==cp.line)=true):
  PE X (.Call (.Name f p) [.Call (.Attribute (.Name x p2) "items" ap) [] [] cp] [] pos) (tD X.K fun ρ=>match ρ[i]? with
   |some (some (_,.dict es))=>if immE es&&z1c (es.map ent)&&decide (es.length<64)then .ok (.fr,.list (z1a (es.map ent)))else .no
   |_=>.no):=
 PE.imp (zd5 (zde hc) hm hb (pa_c (zfa hN hv hdb hcd hline) z2q rfl) rfl hg hn hfd) fun σ H Q zz=>by
  obtain⟨ρ,F,z,so,e,q⟩:=zz
  dsimp only at e
  split at e
  case h_2=>cases e
  rename_i g es hr;split at e
  case isFalse=>cases e
  rename_i hcond;cases e;simp only[ba,decide_eq_true_eq]at hcond;obtain⟨⟨h1,h2⟩,h3⟩:=hcond;obtain⟨d,kvs,B,hσ,hH,hV,rs⟩:=zeu so hr;refine⟨d,kvs,hσ,hH,fun v hp=>⟨v,d,kvs,es,B,rfl,z0b,by rw[z06 (z08 hH hp)];exact hH,rs.same (Same.upd hp) fun _ z=>z,h1,h2,h3,fun w H' sm rw'=>q w H' ((Same.upd hp).trans sm) (rw'.weak fun a ha=>?_)⟩⟩;cases a with
  |none=>exact ha
  |some a=>
   have ha':upd H v (.ext fun h=>h.IsItemsView v d) a=none:=ha;show H a=none;by_cases hav:a=v
   ·subst hav;exact hp
   ·rw[z06 hav]at ha';exact ha'
end
end Mi
namespace Mi
open PySem PySem.Spec PyProof.Rows L2 PySem.W
theorem z88 {prog:a8}{w:World}{A:b7}{E:Value->ac->Prop}{s:ac}{t:Addr}{o:Obj}{n:Nat}{its:List Value}{Q:List Value->ac->Prop}(ho:s.heap.get? t=some o)(hc:o.cls=.type "tuple")(hd:o.data=.seq its.toArray n)(hsz:its.length<=bh)
  (h:∀h',(∀b u,s.heap.get? b=some u->h'.get? b=some u)->s.heap.objs.size<=h'.objs.size->Q its {s with heap:=h'}):wpAny (model prog w) A (collect (.ref t)) Q E s:=by
 have h1:(s.heap.push (da "list" #[] 0)).get? t=some o:=ae _ ho;have h2:(s.heap.push (da "list" #[] 0)).get? s.heap.objs.size=some (da "list" #[] 0):=ay _ rfl;have fit:((#[]:Array Value)++its.toArray).size<=bh+1:=by rw[um,aw];exact Nat.le_succ_of_le (by simpa using hsz)
 unfold collect;apply aa;apply wpAny_runValue;refine ge entry_proto_collect' ?_;show wpAny (model prog w) _ (newList []>>=fun v=>again (.builtin "list.__iadd__" ⟨[v,.ref t],[]⟩)) _ E s;apply aa;refine kt (af ⟨Code.quiet_builtin _ (by decide+kernel),ge entry_list_iadd' ?_⟩);show wpAny (model prog w) _ (nr (.ref s.heap.objs.size) (.ref t) (.ref s.heap.objs.size)) _ E ⟨s.heap.push (da "list" #[] 0),s.gens,s.drawn,s.toks,s.os⟩;unfold nr;apply aa;refine nq (T:="tuple") ⟨o,h1,hc⟩ ?_;have tt:(Value.type "tuple"==Value.type "tuple")=true:=by rfl
 rw[tt,qa,if_pos rfl];apply aa;refine p9 h1 hd ?_;apply aa;refine p9 h2 rfl ?_;rw[show((!(#[]:Array Value).isEmpty)&&jf ((#[]:Array Value).size+its.toArray.size))=false from rfl,if_neg (by decide)];apply aa;refine mf h2 rfl ?_ (fu _) fit;apply af;have hq:=h ((s.heap.push (da "list" #[] 0)).update s.heap.objs.size (Obj.mapSeq (·++its.toArray))) (fun b u e=>z2k (bz (bn e)) (ae _ e)) (by rw[Heap.size_update,ma];exact qr _);have h3:=k8 h2 (·++its.toArray);show wpAny (model prog w) A (load s.heap.objs.size>>=_) Q E ⟨(s.heap.push (da "list" #[] 0)).update s.heap.objs.size (Obj.mapSeq (·++its.toArray)),s.gens,s.drawn,s.toks,s.os⟩;apply aa;refine tm h3 ?_;show wpAny (model prog w) A (pure ((#[]:Array Value)++its.toArray).toList) Q E _;have el:((#[]:Array Value)++its.toArray).toList=its:=by simp
 rw[el];exact af hq
section
variable {X:Cx}
theorem zfp:CallR X (.builtin "sorted") (rAgg X.K "sorted"):=by
 intro pins s σ H xs us Q I r h;obtain⟨B,x,dx,l,ys,d,hx,rx,e,e2,q⟩:=h;cases l with
 |true=>exact zct I r hx rx e e2 q
 |false=>
  subst hx;obtain⟨a,vs,rfl,hsq,rs⟩:=z1k rx e;have e3:(if((false||imms ys)&&z1c ys&&decide (ys.length<64))=true then Res.ok (PyData.list (z1a ys))else .no)=.ok d:=e2;cases hc:(false||imms ys)&&z1c ys&&decide (ys.length<64)with
  |false=>rw[hc]at e3;cases e3
  |true=>
   rw[hc]at e3;cases e3;obtain⟨hc,h64⟩:=bp.mp hc;obtain⟨him,hok⟩:=bp.mp hc;have h64:=wb h64;obtain⟨u,rfl,ru⟩:=vals1 r;cases ru;obtain⟨its,rv,⟨o,n,ho,hcl,hdi,hda⟩,hz⟩:=I.tupleN hsq;have hll:its.length=ys.length:=by rw[<-rv.length,rs.length]
   have sz:its.length<=bh:=by rw[<-rv.length];exact hz
   apply j8 uz ui uj (ul _);unfold Builtin.«sorted»;apply aa (m:=vq "sorted" 1 1 _);apply af;refine aa (z88 ho hcl hda sz fun h' hk hsz=>?_);have I1:Inv X pins σ H {s with heap:=h'}:=I.kept (t':=s.toks) hk;refine aa (kt ?_ sz);have hHD:H h'.objs.size=none:=I1.hok.fresh (am _);have hoD:(h'.push (da "list" its.toArray 0)).get? h'.objs.size=some (da "list" its.toArray 0):=ay _ rfl;have I3:Inv X pins σ (upd H h'.objs.size (.lst vs)) {s with heap:=h'.push (da "list" its.toArray 0)}:=I1.laid (a:=h'.objs.size) (o:=.lst vs) (t':=s.toks) (fun _ _ z=>ae _ z) (am _) ⟨hz,its,0,rv,hoD⟩;have rp:Reps X.K (upd H h'.objs.size (.lst vs)) (fun _=>False) vs ys:=(Reps.immB (B':=fun _=>False) ys him rs).same (Same.upd hHD) fun _ z=>z
   have fin:∀s' vs',Inv X pins σ (upd (upd H h'.objs.size (.lst vs)) h'.objs.size (.lst vs')) s'->Reps X.K (upd H h'.objs.size (.lst vs)) (fun _=>False) vs' (z1a ys)->EP X pins σ Q (.ref h'.objs.size) s':=fun s' vs' I4 r4=>by
    refine⟨.ref h'.objs.size,_,I4,rfl,q _ _ (fun b u z=>?_) ⟨_,vs',rfl,.inl ⟨z0b,.inl hHD⟩,?_⟩⟩
    ·have hb:=z08 z hHD;rw[z06 hb,z06 hb];exact z
    ·refine Reps.keep (fun b u z f=>?_) (fun _ z=>z.elim) _ r4;rcases f with f|f
     ·exact f.elim
     ·have hb:b≠h'.objs.size:=fun z'=>by subst z';rw[z0b]at z;cases z;exact f
      rw[z06 hb];exact z
   show wpAny _ _ (nc [Value.ref h'.objs.size] (call (.builtin "list.sort") [.ref h'.objs.size])>>=_) _ _ {s with heap:=h'.push (da "list" its.toArray 0)};obtain⟨m,hNs,_⟩:=id I3.loc;have hLD:X.env.locals≠h'.objs.size:=fun z=>by have:=I1.lt;rw[z]at this;exact ce _ this
   by_cases h2:ys.length<2
   ·have es:z1a ys=ys:=by
     match ys,h2 with
     | [],_=>rfl
     | [y],_=>rfl
     |_::_::_,h2=>simp at h2;omega
    refine aa (cr (z4s (s:={s with heap:=h'.push (da "list" its.toArray 0)}) hoD (by omega) fun h'' n' kp hD2=>af ⟨_,rfl,fin _ vs (I3.writeF (t':=s.toks) z0b hNs (hNs.at fun o e=>kp _ o hLD e) (fun b u _ hb e=>kp b u hb e) ⟨hz,its,n',rv,hD2⟩) (by rw[es];exact rp)⟩))
   ·have h2':2<=ys.length:=pd h2;unfold z1c at hok;simp only[gc,bt]at hok;rcases hok with(hs|hs)|hs
    ·exact aa (cr (z1g (A:=X.A.in1) ordI I3 z0b hoD rv rp h2' h64 hs (fun h'' kp=>z5g true hs rp rv h2' h'') fun s' vs' I4 r4=>af ⟨_,rfl,fin s' vs' I4 r4⟩))
    ·exact aa (cr (z1g (A:=X.A.in1) ordS I3 z0b hoD rv rp h2' h64 hs (fun h'' kp=>z5g false hs rp rv h2' h'') fun s' vs' I4 r4=>af ⟨_,rfl,fin s' vs' I4 r4⟩))
    ·split at hs
     case h_2=>cases hs
     rename_i y0 _ _ _;simp only[ba,bt,jx]at hs;obtain⟨hne,hs⟩:=hs;have ktp:∀h'':Heap,(∀b o,b≠X.env.locals->b≠h'.objs.size->(h'.push (da "list" its.toArray 0)).get? b=some o->h''.get? b=some o)->∀b o,(h'.push (da "list" its.toArray 0)).get? b=some o->o.cls=.type "tuple"->b≠X.env.locals->h''.get? b=some o:=fun h'' kp b o e hcl hL=>kp b o hL (fun z=>by subst z;rw[hoD]at e;cases e;exact absurd hcl (by simp)) e;cases y0 with
     |nil=>cases hne
     |cons y1 yr=>exact aa (cr (z1g (A:=X.A.in1) (ordT _) I3 z0b hoD rv rp h2' h64 hs (fun h'' kp=>zd2 I3 _ _ hs rp rv h2' (ktp h'' kp)) fun s' vs' I4 r4=>af ⟨_,rfl,fin s' vs' I4 r4⟩))
end
end Mi
namespace Mi
open PySem PySem.Spec PyProof.Rows L2
section
variable {X:Cx}{tg a b c e:Expr}{es:List Expr}{fa fb:Rho->Res GD}{pos:Pos}
theorem ztl {x:Str}{T:String}{m:List D->Res D}{fs:Rho->Res (List GD)}{p:Pos}(hc:CallR X (.type T) (zas X.K m))(hm:X.mg x=none)(hv:cu x=some (.type T))(ha:PA X (e::es) (tDA X.K fs))(hst:((e::es).all fun e=>!isStar e)=true)(hg:Gl X x)(hn:x≠"__name__")(hdb:(x==("__debug__":Str))=false):
  PE X (.Call (.Name x p) (e::es) [] pos) (tD X.K fun ρ=>fs ρ>>=fun ys=>m (ys.map (·.2))>>=fun d=>.ok (gJ d .al,d)):=by
 refine PE.imp (zkv hc hm hv ha hst hg hn hdb) fun σ H Q hq=>?_;obtain⟨ρ,F,z,so,e0,q⟩:=hq;obtain⟨ys,e1,e0⟩:=Res.bind_ok e0;obtain⟨d,e2,e0⟩:=Res.bind_ok e0;cases e0;exact⟨ρ,F,ys,so,e1,fun vs H1 s1 rs=>⟨_,_,d,rs.repsV so.vis,e2,fun w H2 s2 rw'=>q w H2 (s1.trans s2) (z34 rw' fun a h=>h.elim (fun z=>(nw.back s1 z).vis so.vis) fun z=>z)⟩⟩
theorem zlp:CallR X (.type "int") (zas X.K (biD "int")):=by
 refine CallR.imp zcv fun xs H Q h=>?_;obtain⟨B,ds,d,r,e0,q⟩:=h;simp only[biD,show("int":String)≠"len" by decide,show("int":String)≠"max" by decide,if_true,if_false]at e0;split at e0
 ·rename_i i;cases e0;obtain⟨v,rfl,h1⟩:=zah r;obtain rfl:v=.int i:=h1;exact .inl ⟨i,rfl,q _ H (Same.refl H) rfl⟩
 ·rename_i k;cases e0;obtain⟨v,rfl,h1⟩:=zah r;obtain rfl:v=.bl k:=h1;exact .inr ⟨k,rfl,q _ H (Same.refl H) rfl⟩
 ·cases e0
end
end Mi
namespace Mi
open PySem
abbrev ZRec (TI TO:Addr)(f0:Value)(f1:Bool):Obj:={cls:=.type "zip",dict:=none,data:=.fields #[f0,.bool f1,.bool false,.ref TI,.ref TO],slots:=#[]}
def ZF (f0:Value):Prop:=f0=Value.none\/∃T:Nat,f0=mx T
section
variable {prog:a8}{w:World}{A:b7}{E:Value->ac->Prop}{s:ac}{z TI TO:Addr}{f0:Value}{f1:Bool}
theorem zdz {a:Addr}{Q:Option Obj->ac->Prop}(h:Q (s.heap.get? a) s):wpAny (model prog w) A (loadIfAlive a) Q E s:=fun _ _ _=>h
theorem z92 {Q:Bool->ac->Prop}(hf:ZF f0)(hz:s.heap.get? z=some (ZRec TI TO f0 f1))(hQ:∀b h' f1',h'.get? z=some (ZRec TI TO f0 f1')->bu z s.heap h'->Q b {s with heap:=h'}):wpAny (model prog w) A (e8 (.ref z)) Q E s:=by
 delta e8
 apply aa;refine eh hz rfl (x:=f0) rfl ?_;rcases hf with rfl|⟨T,rfl⟩
 ·exact af (hQ true s.heap f1 hz (Heap.SameBut.refl ..))
 ·show wpAny _ _ (loadIfAlive ((T:Int).toNat)>>=_) _ _ _;apply aa;refine zdz ?_;cases s.heap.get? ((T:Int).toNat)with
  |none=>exact af (hQ true s.heap f1 hz (Heap.SameBut.refl ..))
  |some o=>
   dsimp only[Option.isNone]
   rw[if_neg (by decide)];show wpAny _ _ (field (.ref z) 1>>=_) _ _ _;apply aa;refine eh hz rfl (x:=.bool f1) rfl ?_;cases f1 with
   |true=>rw[if_neg (by decide)];exact af (hQ false s.heap true hz (Heap.SameBut.refl ..))
   |false=>rw[if_pos (by decide)];apply aa;exact fj hz (by simp) fun h' hz' sb=>af (hQ false h' true hz' sb)
structure ZApart (z TI TO i1 i2:Addr)(p1 p2:List Addr):Prop where
 TIz:TI≠z
 TOz:TO≠z
 i1z:i1≠z
 i2z:i2≠z
 TITO:TI≠TO
 TIi1:TI≠i1
 TIi2:TI≠i2
 TOi1:TO≠i1
 TOi2:TO≠i2
 i12:i1≠i2
 f1z:z∉p1
 f1T:TO∉p1
 f1i:i2∉p1
 f2z:z∉p2
 f2T:TO∉p2
 f2i:i1∉p2
variable {i1 i2:Addr}{p1 p2:List Addr}{n1 n2 i:Nat}{P1 P2:Nat->Value->Prop}{S1 S2:Nat->Heap->Prop}{a b:Value}
abbrev PairAt (h:Heap)(T:Addr)(a b:Value):Prop:=h.get? T=some {cls:=.type "tuple",data:=.seq #[a,b]}
def Zk (z TO i1 i2:Addr)(h h':Heap):Prop:=∀c o,c≠z->c≠TO->c≠i1->c≠i2->h.get? c=some o->h'.get? c=some o
theorem z8g {T:Addr}{x:Value}{k:Nat}{Q:Unit->ac->Prop}(hT:PairAt s.heap T a b)(h:∀h',h'.get? T=some {cls:=.type "tuple",data:=.seq ((#[a,b]:Array Value).setIfInBounds k x)}->bu T s.heap h'->Q () {s with heap:=h'}):wpAny (model prog w) A (updateSeq T (·.setIfInBounds k x)) Q E s:=by exact wpAny_updateSeq hT rfl (h _ (by rw[jv _ hT rfl];simp[Obj.mapSeq]) (jg ..))
theorem zh3 {Q:Value->ac->Prop}(D:ZApart z TI TO i1 i2 p1 p2)(D1:Draws prog w A i1 p1 n1 P1 S1)(D2:Draws prog w A i2 p2 n2 P2 S2)(hf:ZF f0)(hz:s.heap.get? z=some (ZRec TI TO f0 f1))(hTI:PairAt s.heap TI (.ref i1) (.ref i2))(hTO:PairAt s.heap TO a b)(h1:S1 i s.heap)(h2:S2 i s.heap)(l1:i<n1)(l2:i<n2)
  (hQ:∀x y h' tk f0' f1' a' b',P1 i x->P2 i y->ZF f0'->h'.get? z=some (ZRec TI TO f0' f1')->PairAt h' TO a' b'->S1 (i+1) h'->S2 (i+1) h'->PairAt h' s.heap.objs.size x y->Zk z TO i1 i2 s.heap h'->Q (.ref s.heap.objs.size) {s with heap:=h',toks:=tk}):
  wpAny (model prog w) A (Builtin.«zip.__next__» {pos:=[.ref z],kw:=[]}) (fun fin s'=>∃v,fin=.done (.ret v)/\Q v s') E s:=by
 show wpAny (model prog w) A (field (.ref z) 2>>=_) _ E s;apply aa;refine eh hz rfl (x:=.bool false) rfl ?_;show wpAny (model prog w) A (field (.ref z) 3>>=_) _ E s;apply aa;refine eh hz rfl (x:=.ref TI) rfl ?_;apply aa;refine gn hTI rfl ?_;show wpAny (model prog w) A (e8 (.ref z)>>=_) _ E s;apply aa;refine z92 hf hz fun bf h₀ f1' hz₀ sb₀=>?_;have k0:∀c o,c≠z->s.heap.get? c=some o->h₀.get? c=some o:=fun c o hc e=>sb₀.extBut c o hc e;have e1:S1 i h₀:=D1.frame _ _ _ h1 fun b hb o e=>k0 b o (fun q=>D.f1z (q▸hb)) e;have e2:S2 i h₀:=D2.frame _ _ _ h2 fun b hb o e=>k0 b o (fun q=>D.f2z (q▸hb)) e;have t0:PairAt h₀ TO a b:=k0 _ _ D.TOz hTO;have sz0:h₀.objs.size=s.heap.objs.size:=sb₀.1;cases bf with
 |true=>
  rw[if_pos rfl];apply aa;refine jr ?_;apply aa;refine eh hz₀ rfl (x:=.ref TO) rfl ?_;apply aa;refine fj hz₀ (by simp) fun ha za ka=>?_;replace za:ha.get? z=some (ZRec TI TO .ellipsis f1'):=za;have e1a:S1 i ha:=D1.frame _ _ _ e1 fun b hb o e=>ka.extBut b o (fun q=>D.f1z (q▸hb)) e;have e2a:S2 i ha:=D2.frame _ _ _ e2 fun b hb o e=>ka.extBut b o (fun q=>D.f2z (q▸hb)) e;have ta:PairAt ha TO a b:=ka.extBut _ _ D.TOz t0;apply aa;simp only[kz,n9,List.zipIdx_cons,List.zipIdx_nil];apply aa;apply aa;apply mh;show wpAny (model prog w) A (cv (.ref i1)>>=_) _ _ _;apply aa;refine D1.item i _ _ _ l1 e1a fun x hb tk hPx s1b kb=>af ?_;replace kb:bu i1 ha hb:=kb;have tb:PairAt hb TO a b:=kb.extBut _ _ D.TOi1 ta;have zb:hb.get? z=some (ZRec TI TO .ellipsis f1'):=kb.extBut _ _ D.i1z.symm za;have e2b:S2 i hb:=D2.frame _ _ _ e2a fun b hb' o e=>kb.extBut b o (fun q=>D.f2i (q▸hb')) e;apply aa;refine gn tb rfl ?_;apply aa;refine z8g tb fun hc tc kc=>?_;replace tc:PairAt hc TO x b:=tc;replace kc:bu TO hb hc:=kc;apply aa;refine u0 (af ?_);have zc:hc.get? z=some (ZRec TI TO .ellipsis f1'):=kc.extBut _ _ D.TOz.symm zb;have e1c:S1 (i+1) hc:=D1.frame _ _ _ s1b fun b hb' o e=>kc.extBut b o (fun q=>D.f1T (q▸hb')) e;have e2c:S2 i hc:=D2.frame _ _ _ e2b fun b hb' o e=>kc.extBut b o (fun q=>D.f2T (q▸hb')) e;apply aa;apply aa;apply mh;show wpAny (model prog w) A (cv (.ref i2)>>=_) _ _ _;apply aa;refine D2.item i _ _ _ l2 e2c fun y hd tk2 hPy s2d kd=>af ?_;replace kd:bu i2 hc hd:=kd;have td:PairAt hd TO x b:=kd.extBut _ _ D.TOi2 tc;have zd:hd.get? z=some (ZRec TI TO .ellipsis f1'):=kd.extBut _ _ D.i2z.symm zc;have e1d:S1 (i+1) hd:=D1.frame _ _ _ e1c fun b hb' o e=>kd.extBut b o (fun q=>D.f1i (q▸hb')) e;apply aa;refine gn td rfl ?_;apply aa;refine z8g td fun he te ke=>?_;replace te:PairAt he TO x y:=te;replace ke:bu TO hd he:=ke;apply aa;refine u0 (af (af ?_));apply aa;refine gn te rfl ?_;apply aa;refine n6 ?_;have sz:he.objs.size=s.heap.objs.size:=by rw[ke.1,kd.1,kc.1,kb.1,ka.1,sz0]
  have ze:he.get? z=some (ZRec TI TO .ellipsis f1'):=ke.extBut _ _ D.TOz.symm zd;have zlt:z<he.objs.size:=bn ze;have e1e:S1 (i+1) he:=D1.frame _ _ _ e1d fun b hb' o e=>ke.extBut b o (fun q=>D.f1T (q▸hb')) e;have e2e:S2 (i+1) he:=D2.frame _ _ _ s2d fun b hb' o e=>ke.extBut b o (fun q=>D.f2T (q▸hb')) e;show wpAny _ _ (kn (.ref z) (.ref he.objs.size)>>=_) _ _ _;apply aa
  delta kn
  have zf:(he.push {cls:=.type "tuple",data:=.seq #[x,y]}).get? z=some (ZRec TI TO .ellipsis f1'):=ae _ ze;apply aa;refine fj zf (by simp) fun hg zg kg=>?_;replace zg:hg.get? z=some (ZRec TI TO (mx he.objs.size) f1'):=zg;refine fj zg (by simp) fun hh zh kh=>?_;replace zh:hh.get? z=some (ZRec TI TO (mx he.objs.size) false):=zh;have up:∀c o,c≠z->he.get? c=some o->hh.get? c=some o:=fun c o hc e=>kh.extBut _ _ hc (kg.extBut _ _ hc (ae _ e));have new:PairAt hh he.objs.size x y:=kh.extBut _ _ (nh zlt) (kg.extBut _ _ (nh zlt) (ay _ rfl));refine af ⟨.ref he.objs.size,rfl,?_⟩;rw[sz]at new ⊢;refine hQ x y hh tk2 _ _ x y hPx hPy (.inr ⟨_,rfl⟩) zh (up _ _ D.TOz te) (D1.frame _ _ _ e1e fun b hb' o e=>up b o (fun q=>D.f1z (q▸hb')) e) (D2.frame _ _ _ e2e fun b hb' o e=>up b o (fun q=>D.f2z (q▸hb')) e) new fun c o c1 c2 c3 c4 e=>?_;exact up c o c1 (ke.extBut _ _ c2 (kd.extBut _ _ c4 (kc.extBut _ _ c2 (kb.extBut _ _ c3 (ka.extBut _ _ c1 (k0 c o c1 e))))))
 |false=>
  rw[if_neg (by decide)]
  dsimp only
  apply aa;rw[<-t7];simp only[n9,kz];apply aa;apply aa;apply cr;show wpAny (model prog w) A (cv (.ref i1)>>=_) _ _ _;apply aa;refine D1.item i _ _ _ l1 e1 fun x hb tk hPx s1b kb=>af (af ?_);replace kb:bu i1 h₀ hb:=kb;have e2b:S2 i hb:=D2.frame _ _ _ e2 fun b hb' o e=>kb.extBut b o (fun q=>D.f2i (q▸hb')) e;apply aa;apply aa;apply cr;show wpAny (model prog w) A (cv (.ref i2)>>=_) _ _ _;apply aa;refine D2.item i _ _ _ l2 e2b fun y hd tk2 hPy s2d kd=>af (af (af ?_));replace kd:bu i2 hb hd:=kd;have e1d:S1 (i+1) hd:=D1.frame _ _ _ s1b fun b hb' o e=>kd.extBut b o (fun q=>D.f1i (q▸hb')) e;have sz:hd.objs.size=s.heap.objs.size:=by rw[kd.1,kb.1,sz0]
  apply aa;refine n6 (af ⟨_,rfl,?_⟩) (by show 2<=bh;decide);have up:∀c o,hd.get? c=some o->(hd.push {cls:=.type "tuple",data:=.seq #[x,y]}).get? c=some o:=fun c o e=>ae _ e;have zd:hd.get? z=some (ZRec TI TO f0 f1'):=kd.extBut _ _ D.i2z.symm (kb.extBut _ _ D.i1z.symm hz₀);have td:PairAt hd TO a b:=kd.extBut _ _ D.TOi2 (kb.extBut _ _ D.TOi1 t0);have new:PairAt (hd.push {cls:=.type "tuple",data:=.seq #[x,y]}) hd.objs.size x y:=ay _ rfl;show Q (.ref hd.objs.size) _;rw[sz]at new ⊢;refine hQ x y _ tk2 f0 f1' a b hPx hPy hf (up _ _ zd) (up _ _ td) (D1.frame _ _ _ e1d fun b hb' o e=>up b o e) (D2.frame _ _ _ s2d fun b hb' o e=>up b o e) new fun c o c1 c2 c3 c4 e=>?_;exact up c o (kd.extBut _ _ c4 (kb.extBut _ _ c3 (k0 c o c1 e)))
theorem zkf {Q:Fin->ac->Prop}(D:ZApart z TI TO i1 i2 p1 p2)(D1:Draws prog w A i1 p1 n1 P1 S1)(D2:Draws prog w A i2 p2 n2 P2 S2)(hf:ZF f0)(hz:s.heap.get? z=some (ZRec TI TO f0 f1))(hTI:PairAt s.heap TI (.ref i1) (.ref i2))(hTO:PairAt s.heap TO a b)(h1:S1 i s.heap)(h2:S2 i s.heap)(hl:i=min n1 n2)
  (hE:∀h' tk e,Zk z TO i1 i2 s.heap h'->(∃o,h'.get? e=some o/\o.cls=.type "StopIteration")->E (.ref e) {s with heap:=h',toks:=tk}):
  wpAny (model prog w) A (Builtin.«zip.__next__» {pos:=[.ref z],kw:=[]}) Q E s:=by
 show wpAny (model prog w) A (field (.ref z) 2>>=_) _ E s;apply aa;refine eh hz rfl (x:=.bool false) rfl ?_;show wpAny (model prog w) A (field (.ref z) 3>>=_) _ E s;apply aa;refine eh hz rfl (x:=.ref TI) rfl ?_;apply aa;refine gn hTI rfl ?_;show wpAny (model prog w) A (e8 (.ref z)>>=_) _ E s;apply aa;refine z92 hf hz fun bf h₀ f1' hz₀ sb₀=>?_;have k0:∀c o,c≠z->s.heap.get? c=some o->h₀.get? c=some o:=fun c o hc e=>sb₀.extBut c o hc e;have e1:S1 i h₀:=D1.frame _ _ _ h1 fun b hb o e=>k0 b o (fun q=>D.f1z (q▸hb)) e;have e2:S2 i h₀:=D2.frame _ _ _ h2 fun b hb o e=>k0 b o (fun q=>D.f2z (q▸hb)) e;have t0:PairAt h₀ TO a b:=k0 _ _ D.TOz hTO;cases bf with
 |true=>
  rw[if_pos rfl];apply aa;refine jr ?_;apply aa;refine eh hz₀ rfl (x:=.ref TO) rfl ?_;apply aa;refine fj hz₀ (by simp) fun ha za ka=>?_;replace za:ha.get? z=some (ZRec TI TO .ellipsis f1'):=za;have e1a:S1 i ha:=D1.frame _ _ _ e1 fun b hb o e=>ka.extBut b o (fun q=>D.f1z (q▸hb)) e;have e2a:S2 i ha:=D2.frame _ _ _ e2 fun b hb o e=>ka.extBut b o (fun q=>D.f2z (q▸hb)) e;have ta:PairAt ha TO a b:=ka.extBut _ _ D.TOz t0;apply aa;simp only[kz,n9,List.zipIdx_cons,List.zipIdx_nil];apply aa;apply aa;apply mh;show wpAny (model prog w) A (cv (.ref i1)>>=_) _ _ _;apply aa;by_cases hi:i<n1
  ·refine D1.item i _ _ _ hi e1a fun x hb tk hPx s1b kb=>af ?_;replace kb:bu i1 ha hb:=kb;have tb:PairAt hb TO a b:=kb.extBut _ _ D.TOi1 ta;have zb:hb.get? z=some (ZRec TI TO .ellipsis f1'):=kb.extBut _ _ D.i1z.symm za;have e2b:S2 i hb:=D2.frame _ _ _ e2a fun b hb' o e=>kb.extBut b o (fun q=>D.f2i (q▸hb')) e;apply aa;refine gn tb rfl ?_;apply aa;refine z8g tb fun hc tc kc=>?_;replace kc:bu TO hb hc:=kc;apply aa;refine u0 (af ?_);have zc:hc.get? z=some (ZRec TI TO .ellipsis f1'):=kc.extBut _ _ D.TOz.symm zb;have e2c:S2 n2 hc:=by rw[show n2=i by omega];exact D2.frame _ _ _ e2b fun b hb' o e=>kc.extBut b o (fun q=>D.f2T (q▸hb')) e
   apply aa;apply aa;apply mh;show wpAny (model prog w) A (cv (.ref i2)>>=_) _ _ _;apply aa;refine D2.done _ _ _ e2c fun hd e kd he=>?_;obtain⟨oe,hoe,hce⟩:=he;have zd:hd.get? z=some (ZRec TI TO .ellipsis f1'):=kd _ _ D.i2z.symm zc;have hez:e≠z:=fun q=>by subst q;rw[zd]at hoe;cases hoe;simp at hce
   refine fj zd (by simp) fun he' _ ke=>hE he' tk e (fun c o c1 c2 c3 c4 q=>?_) ⟨oe,ke.extBut _ _ hez hoe,hce⟩;exact ke.extBut _ _ c1 (kd _ _ c4 (kc.extBut _ _ c2 (kb.extBut _ _ c3 (ka.extBut _ _ c1 (k0 c o c1 q)))))
  ·have e1n:S1 n1 ha:=by rw[show n1=i by omega];exact e1a
   refine D1.done _ _ _ e1n fun hd e kd he=>?_;obtain⟨oe,hoe,hce⟩:=he;have zd:hd.get? z=some (ZRec TI TO .ellipsis f1'):=kd _ _ D.i1z.symm za;have hez:e≠z:=fun q=>by subst q;rw[zd]at hoe;cases hoe;simp at hce
   refine fj zd (by simp) fun he' _ ke=>hE he' s.toks e (fun c o c1 c2 c3 c4 q=>?_) ⟨oe,ke.extBut _ _ hez hoe,hce⟩;exact ke.extBut _ _ c1 (kd _ _ c3 (ka.extBut _ _ c1 (k0 c o c1 q)))
 |false=>
  rw[if_neg (by decide)]
  dsimp only
  apply aa;rw[<-t7];simp only[n9,kz];apply aa;apply aa;apply cr;show wpAny (model prog w) A (cv (.ref i1)>>=_) _ _ _;apply aa;by_cases hi:i<n1
  ·refine D1.item i _ _ _ hi e1 fun x hb tk hPx s1b kb=>af (af ?_);replace kb:bu i1 h₀ hb:=kb;have e2b:S2 n2 hb:=by rw[show n2=i by omega];exact D2.frame _ _ _ e2 fun b hb' o e=>kb.extBut b o (fun q=>D.f2i (q▸hb')) e
   apply aa;apply aa;apply cr;show wpAny (model prog w) A (cv (.ref i2)>>=_) _ _ _;apply aa;exact D2.done _ _ _ e2b fun hd e kd he=>hE hd tk e (fun c o c1 c2 c3 c4 q=>kd _ _ c4 (kb.extBut _ _ c3 (k0 c o c1 q))) he
  ·have e1n:S1 n1 h₀:=by rw[show n1=i by omega];exact e1
   exact D1.done _ _ _ e1n fun hd e kd he=>hE hd s.toks e (fun c o c1 c2 c3 c4 q=>kd _ _ c3 (k0 c o c1 q)) he
end
end Mi
namespace Mi
open PySem PySem.Spec PyProof.Rows L2
section
variable {prog:a8}{w:World}{A:b7}{E:Value->ac->Prop}{s:ac}
theorem zb6 {it t:Addr}{i:Nat}{items:Array Value}{x:Value}{Q:Value->ac->Prop}(hit:s.heap.IsTupleIter it t i)(ht:s.heap.IsTuple t items)(hx:items[i]?=some x)
  (hQ:∀h',h'.IsTupleIter it t (i+1)->bu it s.heap h'->Q x {s with heap:=h'}):wpAny (model prog w) A (cv (.ref it)) Q E s:=by
 have ty:=hit.typeIs;obtain⟨⟨ocls,odict,odata,oslots⟩,ho,hc,hd⟩:=hit;obtain⟨⟨tcls,tdict,tdata,tslots⟩,to,tc,n,td⟩:=ht;cases hc;cases hd;cases tc;cases td;apply aa;refine gy ty F.slot_tuple_iterator_next (gh F.slot_tuple_iterator_next ty F.entry_tuple_iterator_next ?_ (F.args_tuple_iterator_next_1 _));show wpAny _ _ (field (.ref it) 0>>=_) _ _ _;apply aa;refine eh ho rfl (x:=.ref t) rfl ?_;show wpAny _ _ (field (.ref it) 1>>=_) _ _ _;apply aa;refine eh ho rfl (x:=.int i 0) rfl ?_;apply aa;refine gn to rfl ?_;have ei:((i:Int)).toNat=i:=ja i
 dsimp only
 rw[ei,hx];apply aa;refine wpAny_setField ho rfl (by simp) ?_;refine af ⟨x,rfl,af (hQ _ ⟨_,jv _ ho rfl,rfl,?_⟩ (jg _ _ _))⟩;rfl
theorem z6k {it t:Addr}{i:Nat}{items:Array Value}{Q:Value->ac->Prop}(hh:A.handled=none)(hit:s.heap.IsTupleIter it t i)(ht:s.heap.IsTuple t items)(hx:items[i]?=none)
  (hE:∀h' e,Heap.ExtBut it s.heap h'->(∃o,h'.get? e=some o/\o.cls=.type "StopIteration")->E (.ref e) {s with heap:=h'}):wpAny (model prog w) A (cv (.ref it)) Q E s:=by
 have ty:=hit.typeIs;obtain⟨⟨ocls,odict,odata,oslots⟩,ho,hc,hd⟩:=hit;obtain⟨⟨tcls,tdict,tdata,tslots⟩,to,tc,n,td⟩:=ht;cases hc;cases hd;cases tc;cases td;apply aa;refine gy ty F.slot_tuple_iterator_next (gh F.slot_tuple_iterator_next ty F.entry_tuple_iterator_next ?_ (F.args_tuple_iterator_next_1 _));show wpAny _ _ (field (.ref it) 0>>=_) _ _ _;apply aa;refine eh ho rfl (x:=.ref t) rfl ?_;show wpAny _ _ (field (.ref it) 1>>=_) _ _ _;apply aa;refine eh ho rfl (x:=.int i 0) rfl ?_;apply aa;refine gn to rfl ?_;have ei:((i:Int)).toNat=i:=ja i
 dsimp only
 rw[ei,hx];apply aa;refine jr ?_;apply aa;refine wpAny_setField ho rfl (by simp) ?_
 delta Builtin.SmallTypes.stopIteration
 repeat (any_goals (first|assumption|wp_step))
 refine wpAny_raiseNew_none (show A.in1.handled=none from hh) ?_;refine hE _ _ (fun b o hb e=>?_) ⟨_,ay _ rfl,rfl⟩;refine ae _ (ae _ ?_);rw[rm _ _ _ _ hb];exact e
theorem zr4 (hh:A.handled=none)(it t:Addr)(hne:t≠it)(items:Array Value):Draws prog w A it [it,t] items.size (fun i v=>items[i]?=some v) (fun i h=>h.IsTupleIter it t i/\h.IsTuple t items) where
 live:=fun i h st=>let⟨⟨o,ho,_⟩,_⟩:=st;⟨o,ho⟩
 frame:=fun i h h' st k=>by obtain⟨⟨o,ho,r⟩,⟨o2,ho2,r2⟩⟩:=st;exact⟨⟨o,k it (by simp) o ho,r⟩,⟨o2,k t (by simp) o2 ho2,r2⟩⟩
 item:=fun i s1 Q1 E1 hi st hQ=>by refine zb6 st.1 st.2 (om hi) fun h' h1 sb=>?_;obtain⟨o2,ho2,r2⟩:=st.2;exact hQ _ h' s1.toks (om hi) ⟨h1,⟨o2,sb.extBut t o2 hne ho2,r2⟩⟩ sb
 done:=fun s Q E st hE=>z6k hh st.1 st.2 (Array.getElem?_eq_none (am _)) hE
end
def IsB (h:Heap)(l:Bool)(a:Addr)(xs:Array Value):Prop:=match l with
 |true=>h.IsList a xs
 |false=>h.IsTuple a xs
def ItB (h:Heap)(l:Bool)(it a:Addr)(i:Nat):Prop:=match l with
 |true=>h.IsListIter it a i
 |false=>h.IsTupleIter it a i
def SqB (K:W.Frag)(H:Hp)(l:Bool)(a:Addr)(vs:List V):Prop:=match l with
 |true=>SqL K H a vs
 |false=>SqT K H a vs
def SrB (K:W.Frag)(H:Hp)(B:Ad->Prop)(l:Bool)(a:Addr)(vs:List V):Prop:=match l with
 |true=>(H a=some (.lst vs)/\B (some a))\/(FL K H a vs/\B none)
 |false=>SqT K H a vs
abbrev itObj (l:Bool)(a:Addr):Obj:={cls:=.type (if l then "list_iterator"else "tuple_iterator"),data:=.fields #[.ref a,.int 0 0]}
theorem SrB.keep {K:W.Frag}{H H2:Hp}{B:Ad->Prop}{l:Bool}{a:Addr}{vs:List V}(h:SrB K H B l a vs)(k:Kp B H H2):SqB K H2 l a vs:=by
 cases l with
 |true=>
  rcases h with⟨h,b⟩|⟨⟨o,h⟩|h,_⟩
  ·exact .inl (.inl (k a _ h (.inl b)))
  ·exact .inl (.inr ⟨o,k a _ h (.inr True.intro)⟩)
  ·exact .inr h
 |false=>exact SqT.keep k h
theorem SrB.of {K:W.Frag}{H:Hp}{B:Ad->Prop}{v:V}{d:D}{xs:List D}(r:Rep K H B v d)(e:seqI d=.ok xs):∃l a vs,v=.ref a/\SrB K H B l a vs/\Reps K H B vs xs/\imms xs=true/\xs.length<=LIM:=by
 cases d<;>try (exact(z16 e).elim)
 case list ds=>
  have e:(if(imms ds&&decide (ds.length<=LIM))=true then Res.ok ds else Res.no)=Res.ok xs:=e;split at e
  ·rename_i hc;cases e;obtain⟨a,vs,rfl,h,rs⟩:=r;exact⟨true,a,vs,rfl,h,rs,(bp.mp hc).1,wb (bp.mp hc).2⟩
  ·cases e
 case tuple ds=>
  have e:(if(imms ds&&decide (ds.length<=LIM))=true then Res.ok ds else Res.no)=Res.ok xs:=e;split at e
  ·rename_i hc;cases e;obtain⟨a,vs,rfl,h,rs⟩:=r;exact⟨false,a,vs,rfl,h,rs,(bp.mp hc).1,wb (bp.mp hc).2⟩
  ·cases e
section
variable {X:Cx}{pins:List (Addr×Obj)}{σ:L2.St}{H:Hp}{s:ac}
theorem SqB.items {l:Bool}{a:Addr}{vs:List V}(I:Inv X pins σ H s)(h:SqB X.K H l a vs):∃its:List Value,Vals vs its/\IsB s.heap l a its.toArray/\vs.length=its.length:=by
 cases l with
 |true=>obtain⟨its,rv,p,_⟩:=I.list h;exact⟨its,rv,p.isList,rv.length⟩
 |false=>obtain⟨its,rv,p,_⟩:=I.tuple h;exact⟨its,rv,p,rv.length⟩
end
theorem z5k {prog:a8}{w:World}{A:b7}(hh:A.handled=none)(l:Bool)(it a:Addr)(hne:a≠it)(items:Array Value):Draws prog w A it [it,a] items.size (fun i v=>items[i]?=some v) (fun i h=>ItB h l it a i/\IsB h l a items):=by
 cases l with
 |true=>exact Draws.list hh it a hne items
 |false=>exact zr4 hh it a hne items
theorem ItB.live {h:Heap}{l:Bool}{it a:Addr}{i:Nat}(x:ItB h l it a i):∃o,h.get? it=some o/\∀v,o.data≠.cell v:=by cases l<;>(obtain⟨o,ho,_,hd⟩:=x;exact⟨o,ho,fun v z=>by rw[hd]at z;cases z⟩)
theorem ItB.keep {h h':Heap}{l:Bool}{it a:Addr}{i:Nat}(x:ItB h l it a i)(k:∀o,h.get? it=some o->h'.get? it=some o):ItB h' l it a i:=by cases l<;>(obtain⟨o,ho,r⟩:=x;exact⟨o,k o ho,r⟩)
theorem ItB.new {h:Heap}{l:Bool}{it a:Addr}(x:h.get? it=some (itObj l a)):ItB h l it a 0:=by cases l<;>exact⟨_,x,rfl,rfl⟩
theorem IsB.lt {h:Heap}{l:Bool}{a:Addr}{xs:Array Value}(x:IsB h l a xs):a<h.objs.size:=by cases l<;>(obtain⟨o,ho,_⟩:=x;exact bn ho)
theorem IsB.push {h:Heap}{l:Bool}{a:Addr}{xs:Array Value}(x:IsB h l a xs)(o:Obj):IsB (h.push o) l a xs:=by cases l<;>(obtain⟨q,hq,r⟩:=x;exact⟨q,ae _ hq,r⟩)
theorem z9o {prog:a8}{w:World}{A:b7}{E:Value->ac->Prop}{s:ac}{l:Bool}{a:Addr}{xs:Array Value}{Q:Value->ac->Prop}(h:IsB s.heap l a xs)(hQ:Q (.ref s.heap.objs.size) {s with heap:=s.heap.push (itObj l a)}):wpAny (model prog w) A (ox (.ref a)) Q E s:=by
 cases l with
 |true=>exact on h hQ
 |false=>exact n4 h hQ
section
variable {X:Cx}{pins:List (Addr×Obj)}{σ:L2.St}{H:Hp}{s:ac}
theorem _root_.L2.Inv.turnedTL {fp:List Addr}{p:Addr}{h':Heap}{t':Nat}{xs:List V}(I:Inv X pins σ H s)(f:∀b∈fp,FpOk X pins H b)(keep:∀b q,b∉fp->s.heap.get? b=some q->h'.get? b=some q)(hp:s.heap.objs.size<=p)
  (new:z0s X.prog X.w (upd H p (.tup xs)) h' p (.tup xs)):Inv X pins σ (upd H p (.tup xs)) {s with heap:=h',toks:=t'}:=by
 have hn:H p=none:=I.hok.fresh hp;have away:∀b u,H b=some u->b∉fp:=fun b u e1 z=>by rw[(f b z).1]at e1;cases e1
 have loc:X.env.locals∉fp:=fun z=>(f _ z).2.1 rfl;refine I.step (g':=s.gens) (d':=s.drawn) (ch:=fp) (fun b hb=>?_) (fun b q _ _ hc e _=>keep b q hc e) (fun b q _ _ hc e _=>⟨q.slots,keep b q hc e⟩) (fun b q _ e n=>by rw[z06 (bz (bw (bn e) hp))];exact n) (fun b q hc e=>⟨q,keep b q hc e⟩) (fun b xs q=>by rw[z06 (z08 q hn)];exact q) (fun b u xs q=>by rw[z06 (z08 q hn)];exact q) (fun b ps q=>⟨#[],by rw[z06 (z08 q hn),q];simp⟩) (fun m hm=>?_) (fun b u e=>?_) I.bare
 ·obtain⟨f0,f1,f2,f3,f4,f5⟩:=f b hb;exact⟨f3,f1,f4,f5⟩
 ·exact hm.at fun q e=>keep _ q loc e
 ·by_cases hb:b=p
  ·subst hb;rw[z0b]at e;cases e;exact new
  ·rw[z06 hb]at e;refine(I.hok b u e).stay (fun c v hc q=>keep c v ?_ q) (fun c q=>by rw[z06 (z08 q hn)];exact q) fun c xs q=>by rw[z06 (z08 q hn)];exact q
   rcases hc with rfl|hc
   ·exact away _ _ e
   ·exact away _ _ hc
theorem _root_.L2.Inv.turnedL {fp:List Addr}{h':Heap}{t':Nat}(I:Inv X pins σ H s)(f:∀b∈fp,FpOk X pins H b)(keep:∀b q,b∉fp->s.heap.get? b=some q->h'.get? b=some q):Inv X pins σ H {s with heap:=h',toks:=t'}:=by
 have away:∀b u,H b=some u->b∉fp:=fun b u e1 z=>by rw[(f b z).1]at e1;cases e1
 have loc:X.env.locals∉fp:=fun z=>(f _ z).2.1 rfl;refine I.step (g':=s.gens) (d':=s.drawn) (ch:=fp) (fun b hb=>?_) (fun b q _ _ hc e _=>keep b q hc e) (fun b q _ _ hc e _=>⟨q.slots,keep b q hc e⟩) (fun b q _ e n=>n) (fun b q hc e=>⟨q,keep b q hc e⟩) (fun b xs q=>q) (fun b u xs q=>q) (fun b ps q=>⟨#[],by rw[q];simp⟩) (fun m hm=>?_) (fun b u e=>?_) I.bare
 ·obtain⟨f0,f1,f2,f3,f4,f5⟩:=f b hb;exact⟨f3,f1,f4,f5⟩
 ·exact hm.at fun q e=>keep _ q loc e
 ·refine(I.hok b u e).stay (fun c v hc q=>keep c v ?_ q) (fun c q=>q) fun c xs q=>q;rcases hc with rfl|hc
  ·exact away _ _ e
  ·exact away _ _ hc
end
theorem z8z {vs:List V}{its:List Value}{i:Nat}{x:Value}(rv:Vals vs its)(hi:i<vs.length)(hx:its.toArray[i]?=some x):∃v,vs[i]?=some v/\RelV v x:=by
 refine⟨vs[i],bc hi,?_⟩;obtain⟨u,e1,e2⟩:=rv.get (bc hi);have hx':its[i]?=some x:=by simpa using hx
 rw[hx']at e1;cases e1;exact e2
def ItE (K:W.Frag)(l:Bool)(t:Addr)(vs:List V):It:=⟨fun i H=>SqB K H l t vs/\i<vs.length,fun i H x H'=>∃p v,vs[i]?=some v/\H p=none/\x=.ref p/\H'=upd H p (.tup [.int i,v]),fun i H=>SqB K H l t vs/\i=vs.length⟩
theorem zeh {P:a8}{w:World}{K:W.Frag}{elts:List Expr}{x1:Nat}{pos:Pos}{l:Bool}{t e it:Addr}{vs:List V}(h1:t≠it)(h2:t≠e)(h3:e≠it):
  Turn P w K (.Tuple elts x1 pos) (ItE K l t vs) [e,it] e (fun i h=>(∃old,IsEnum h e it i old)/\ItB h l it t i) where
 mem:=by simp
 obj:=fun i h st b hb=>by
  obtain⟨⟨old,he⟩,hit⟩:=st;rcases(au.mp hb)with rfl|hb
  ·exact⟨_,he,fun v z=>by cases z⟩
  ·obtain rfl:b=it:=by simpa using hb
   exact hit.live
 keep:=fun i h h' st k=>by obtain⟨⟨old,he⟩,hit⟩:=st;exact⟨⟨old,k e (by simp) _ he⟩,hit.keep fun o=>k it (by simp) o⟩
 item:=by
  intro X hP hw hK hc i pins s σ H E I hf st hg;subst hP hw hK;obtain⟨hq,hi⟩:=hg;obtain⟨⟨old,he⟩,hit⟩:=st;obtain⟨its,rv,p,hl⟩:=SqB.items I hq;have hA:X.A.in1.handled=none:=I.ok.hd hc;have D:=z5k (prog:=X.prog) (w:=X.w) (A:=X.A.in1) hA l it t h1 its.toArray;have W:=WalksT.enumerateD D e h3 (by simp[h3,Ne.symm h2]) (by simp);obtain⟨oi,hoi,_⟩:=hit.live;refine wpAny_pyNext_enum_itemD D he ⟨hit,p⟩ (by simp;omega) h3 (by simp[h3,Ne.symm h2]) fun x h' tk hx hout hst htup hsz kp=>⟨_,rfl,?_⟩;have hT:s.heap.objs.size≠e/\s.heap.objs.size≠it:=⟨fun z=>ce _ (z▸bn he),fun z=>ce _ (z▸bn hoi)⟩;refine W.go elts x1 pos i s.heap.objs.size {s with heap:=h',toks:=tk+1} _ _ ⟨⟨x,hout⟩,hst,hT.1,hT.2⟩ fun h'' st'' kp2=>?_;have nw':s.heap.objs.size∉ [e,it]:=by simp[hT.1,hT.2]
  have htup':=kp2 s.heap.objs.size _ nw' htup;have hHp:H s.heap.objs.size=none:=I.hok.fresh (am _);obtain⟨v,hv,rx⟩:=z8z rv hi hx;have I1:=I.turnedTL (fp:=[e,it]) (t':=tk+1) (xs:=[.int i,v]) (h':=h'') hf (fun b q hb z=>kp2 b q hb (kp b q (fun z=>hb (by simp[z])) (fun z=>hb (by simp[z])) z)) (am _) ⟨by rw[dr];simp,[.int i tk,x],.cons ⟨tk,rfl⟩ (.cons rx .nil),0,htup'⟩;refine⟨.ref s.heap.objs.size,_,I1,rfl,⟨_,v,hv,hHp,rfl,rfl⟩,⟨st''.1,st''.2.1⟩,fun b hb=>?_⟩;rw[z06 fun z:b=s.heap.objs.size=>nw' (by rw[<-z];exact hb)];exact(hf b hb).1
 done:=by intro X hP hw hK hc i pins s σ H E I hf st hg;subst hP hw hK;obtain⟨hq,hi⟩:=hg;obtain⟨⟨old,he⟩,hit⟩:=st;obtain⟨its,rv,p,hl⟩:=SqB.items I hq;have hA:X.A.in1.handled=none:=I.ok.hd hc;have D:=z5k (prog:=X.prog) (w:=X.w) (A:=X.A.in1) hA l it t h1 its.toArray;have St:ItB s.heap l it t its.toArray.size/\IsB s.heap l t its.toArray:=⟨by rw[aw,<-hl,<-hi];exact hit,p⟩;exact wpAny_pyNext_enum_endD D he St fun h' eb=>⟨rfl,I.turnedL (t':=s.toks) hf fun b o hb z=>eb b o (fun q=>hb (by simp[q])) z⟩
 self:=fun _ _ _ _ _ st h=>by obtain⟨⟨old,he⟩,_⟩:=st;exact uo he h
theorem z7w:∀(xs:List D) (k i:Nat),(z2n k xs)[i]?=(xs[i]?).map fun x=>.tuple [.int ((k+i:Nat):Int),x]
 | [],k,i=>by simp[z2n]
 |x::xs,k,0=>by simp[z2n]
 |x::xs,k,i+1=>by
  rw[z2n,jp,jp,z7w xs (k+1) i];have:k+1+i=k+(i+1):=by omega
  rw[this]
theorem z2x:∀(xs:List D) (k:Nat),(z2n k xs).length=xs.length
 | [],_=>rfl
 |x::xs,k=>by rw[z2n,bq,bq,z2x xs]
theorem zdb {K:W.Frag}{H:Hp}{B:Ad->Prop}{l:Bool}{t:Addr}{vs:List V}{xs:List D}(hq:SrB K H B l t vs)(rs:Reps K H B vs xs)(hi:imms xs=true)(hz:xs.length<=bh):Walk K (ItE K l t vs) B H (z2n 0 xs):=by
 have hl:=rs.length;constructor
 ·rw[z2x];exact hz
 ·intro H2 kp i h;rw[z2x]at h;exact⟨hq.keep kp,by omega⟩
 ·intro H2 kp;exact⟨hq.keep kp,by rw[z2x];exact hl.symm⟩
 ·intro H2 kp i x H3 h y;obtain⟨p,v,hv,hp,rfl,rfl⟩:=y;obtain⟨d,hd,rv⟩:=Reps.getV rs hv;have him:imm d=true:=z1d.mp hi d (b8 hd);refine⟨Same.upd hp,.tuple [.int i,d],by rw[z7w,hd];simp,p,[.int i,v],rfl,SqT.of z0b,?_⟩;refine Reps.cons rfl (Reps.cons ?_ rfl);exact Rep.immK (H':=upd H2 p (.tup [.int i,v])) (fun a q e f=>by have h2:=kp a q e (.inr f);rw[z06 (z08 h2 hp)];exact h2) d him rv
theorem zba (l:Bool)(t:Addr)(items:Array Value):Meets (Builtin.«enumerate.__new__» {pos:=[.type "enumerate",.ref t]}) fun _ R s=>
  IsB s.heap l t items/\R (.ok (.ret (.ref (s.heap.push (itObj l t)).objs.size))) {s with heap:=(s.heap.push (itObj l t)).push {cls:=.type "enumerate",data:=.fields #[.none,.bool false,.ref s.heap.objs.size,mx 0,.none,.none]}}:=by
 rintro prog w A R s ⟨ht,hR⟩
 have sub:=sub_enumerate
 delta Builtin.«enumerate.__new__»
 repeat (any_goals (first|assumption|(apply z9o ht)|wp_step))
 refine wpAny_stack fun st _ _ _=>?_;refine jb (Q:=fun _ s'=>s'=s) (af rfl) (fun b s' hs=>?_) fun _ _ x=>x;subst hs;cases b
 all_goals repeat (any_goals (first|assumption|(apply z9o ht)|wp_step))
 all_goals exact hR
theorem zf1 {prog:a8}{w:World}{A:b7}{E:Value->ac->Prop}{s:ac}{l:Bool}{t:Addr}{items:Array Value}{Q:Value->ac->Prop}(ht:IsB s.heap l t items)
  (hQ:Q (.ref (s.heap.push (itObj l t)).objs.size) {s with heap:=(s.heap.push (itObj l t)).push {cls:=.type "enumerate",data:=.fields #[.none,.bool false,.ref s.heap.objs.size,mx 0,.none,.none]}}):wpAny (model prog w) A (call (.type "enumerate") [.ref t]) Q E s:=by
 refine callType_new F.called_enumerate (by decide) (F.typeCall_enumerate_1 _) (F.newCall_enumerate_1 _) (fun obj=>?_) F.entry_enumerate_new (zba l t items) ⟨ht,⟨_,ay _ rfl,rfl⟩,hQ⟩;exact F.args_object_init_2 _ _
section
variable {X:Cx}{pins:List (Addr×Obj)}{σ:L2.St}
theorem z7e {H1:Hp}{s1:ac}{B:Ad->Prop}{y:V}{v:Value}{d:D}{xs:List D}{R:It->Hp->Prop}{elts:List Expr}{x1:Nat}{tp:Pos}(I1:Inv X pins σ H1 s1)(r1:RelV y v)(rv:Rep X.K H1 B y d)(e:seqI d=.ok xs)(q:∀J,Walk X.K J B H1 (z2n 0 xs)->R J H1):
  wpAny (model X.prog X.w) X.A (call (.type "enumerate") [v]) (fun v' s2=>wpAny (model X.prog X.w) X.A (ox v') (PIE X pins σ (.Tuple elts x1 tp) R) X.xe s2) X.xe s1:=by
 obtain⟨l,t,ts,rfl,hq,rps,hi,hz⟩:=SrB.of rv e;cases r1;obtain⟨its,rvs,pt,_⟩:=SqB.items I1 (hq.keep (Kp.of (Same.refl H1)));refine zf1 pt ?_;generalize hR:s1.heap.push (itObj l t)=hp;have szp:hp.objs.size=s1.heap.objs.size+1:=by rw[<-hR];exact ma _ _
 have I2:Inv X pins σ H1 {s1 with heap:=hp}:=I1.kept (t':=s1.toks) fun b o e=>hR▸ae _ e;generalize hR2:hp.push {cls:=.type "enumerate",data:=.fields #[.none,.bool false,.ref s1.heap.objs.size,mx 0,.none,.none]}=hp2;have I3:Inv X pins σ H1 {s1 with heap:=hp2}:=I2.kept (t':=s1.toks) fun b o e=>hR2▸ae _ e;have g1:hp2.get? hp.objs.size=some {cls:=.type "enumerate",data:=.fields #[.none,.bool false,.ref s1.heap.objs.size,mx 0,.none,.none]}:=by rw[<-hR2];exact ay _ rfl
 have g2:hp2.get? s1.heap.objs.size=some (itObj l t):=by rw[<-hR2];refine ae _ ?_;rw[<-hR];exact ay _ rfl
 have ht:t<s1.heap.objs.size:=pt.lt;refine uo (e:=hp.objs.size) (it:=s1.heap.objs.size) (i:=0) (old:=.none) g1 ?_;refine⟨hp.objs.size,[hp.objs.size,s1.heap.objs.size],_,ItE X.K l t ts,H1,rfl,I3,zeh (bz ht) (bz (nk ht (by rw[szp];exact l9 _))) (by rw[szp];exact Nat.succ_ne_self _),⟨⟨.none,g1⟩,ItB.new g2⟩,fun b hb=>?_,q _ (zdb hq rps hi (z0q hz))⟩;rcases(au.mp hb)with rfl|hb
 ·exact I2.fpOk (am _) (I2.hok.fresh (am _))
 ·obtain rfl:b=s1.heap.objs.size:=by simpa using hb
  exact I1.fpOk (am _) (I1.hok.fresh (am _))
end
def ItZ (K:W.Frag)(l1:Bool)(a1:Addr)(vs:List V)(l2:Bool)(a2:Addr)(ws:List V):It:=⟨fun i H=>SqB K H l1 a1 vs/\SqB K H l2 a2 ws/\i<min vs.length ws.length,fun i H x H'=>∃p v w,vs[i]?=some v/\ws[i]?=some w/\H p=none/\x=.ref p/\H'=upd H p (.tup [v,w]),fun i H=>SqB K H l1 a1 vs/\SqB K H l2 a2 ws/\i=min vs.length ws.length⟩
def ZSt (z TI TO i1 i2:Addr)(l1:Bool)(a1:Addr)(l2:Bool)(a2:Addr)(i:Nat)(h:Heap):Prop:=(∃f0 f1,ZF f0/\h.get? z=some (ZRec TI TO f0 f1))/\PairAt h TI (.ref i1) (.ref i2)/\(∃a b,PairAt h TO a b)/\ItB h l1 i1 a1 i/\ItB h l2 i2 a2 i
theorem zrb {prog:a8}{w:World}{A:b7}{E:Value->ac->Prop}{s:ac}{tg:Expr}{z TI TO T:Addr}{f0:Value}{f1:Bool}{Q:Unit->ac->Prop}(ht:(isTup tg||isNm tg)=true)(hf:ZF f0)(hz:s.heap.get? z=some (ZRec TI TO f0 f1))
  (hQ:∀h' f0',ZF f0'->h'.get? z=some (ZRec TI TO f0' f1)->bu z s.heap h'->Q () {s with heap:=h'}):wpAny (model prog w) A (g8 tg (.ref z) (.ref T)) Q E s:=by
 cases tg<;>first|(cases ht;done)|exact af (hQ s.heap f0 hf hz (Heap.SameBut.refl ..))|skip
 delta g8
 apply aa;refine tm hz ?_;show wpAny _ _ (if(_&&(f0::_:List Value).toArray[0]?==some (mx T))=true then _ else _) Q E s;by_cases hc:(some f0==some (mx T))=true
 ·rw[if_pos (by simpa using hc)];apply aa;refine jr ?_;show wpAny (model prog w) A (setField (.ref z) 0 .none) Q E s;exact fj hz (by simp) fun h' hz' sb=>hQ h' .none (.inl rfl) hz' sb
 ·rw[if_neg (by simpa using hc)];exact af (hQ s.heap f0 hf hz (Heap.SameBut.refl ..))
theorem zf2 {prog:a8}{w:World}{A:b7}{E:Value->ac->Prop}{s:ac}{z TI TO i1 i2:Addr}{p1 p2:List Addr}{n1 n2 i:Nat}{P1 P2:Nat->Value->Prop}{S1 S2:Nat->Heap->Prop}{a b:Value}{f0:Value}{f1:Bool}{Q:Option Value->ac->Prop}(D:ZApart z TI TO i1 i2 p1 p2)(D1:Draws prog w A.in1 i1 p1 n1 P1 S1)(D2:Draws prog w A.in1 i2 p2 n2 P2 S2)(hf:ZF f0)(hz:s.heap.get? z=some (ZRec TI TO f0 f1))(hTI:PairAt s.heap TI (.ref i1) (.ref i2))(hTO:PairAt s.heap TO a b)(h1:S1 i s.heap)(h2:S2 i s.heap)(l1:i<n1)(l2:i<n2)
  (hQ:∀x y h' tk f0' f1' a' b',P1 i x->P2 i y->ZF f0'->h'.get? z=some (ZRec TI TO f0' f1')->PairAt h' TO a' b'->S1 (i+1) h'->S2 (i+1) h'->PairAt h' s.heap.objs.size x y->Zk z TO i1 i2 s.heap h'->Q (some (.ref s.heap.objs.size)) {s with heap:=h',toks:=tk}):wpAny (model prog w) A (ou (.ref z)) Q E s:=by
 have ty:s.TypeIs (.ref z) "zip":=⟨_,hz,rfl⟩
 delta ou
 apply aa;apply wpAny_attempt;refine gy (name:=Str.ofString "__next__") ty F.slot_zip_next (gh F.slot_zip_next ty F.entry_zip_next ?_ (F.args_zip_next_1 _));exact zh3 D D1 D2 hf hz hTI hTO h1 h2 l1 l2 fun x y h' tk f0' f1' a' b' c1 c2 c3 c4 c5 c6 c7 c8 c9=>af (hQ x y h' tk f0' f1' a' b' c1 c2 c3 c4 c5 c6 c7 c8 c9)
theorem zff {prog:a8}{w:World}{A:b7}{E:Value->ac->Prop}{s:ac}{z TI TO i1 i2:Addr}{p1 p2:List Addr}{n1 n2 i:Nat}{P1 P2:Nat->Value->Prop}{S1 S2:Nat->Heap->Prop}{a b:Value}{f0:Value}{f1:Bool}{Q:Option Value->ac->Prop}(D:ZApart z TI TO i1 i2 p1 p2)(D1:Draws prog w A.in1 i1 p1 n1 P1 S1)(D2:Draws prog w A.in1 i2 p2 n2 P2 S2)(hf:ZF f0)(hz:s.heap.get? z=some (ZRec TI TO f0 f1))(hTI:PairAt s.heap TI (.ref i1) (.ref i2))(hTO:PairAt s.heap TO a b)(h1:S1 i s.heap)(h2:S2 i s.heap)(hl:i=min n1 n2)
  (hQ:∀h' tk,Zk z TO i1 i2 s.heap h'->Q none {s with heap:=h',toks:=tk}):wpAny (model prog w) A (ou (.ref z)) Q E s:=by
 have ty:s.TypeIs (.ref z) "zip":=⟨_,hz,rfl⟩
 delta ou
 apply aa;apply wpAny_attempt;refine gy (name:=Str.ofString "__next__") ty F.slot_zip_next (gh F.slot_zip_next ty F.entry_zip_next ?_ (F.args_zip_next_1 _));refine zkf D D1 D2 hf hz hTI hTO h1 h2 hl fun h' tk e kp he=>?_;obtain⟨o,ho,hc⟩:=he;apply aa;refine wpAny_isInstance (T:="StopIteration") (b:=true) ⟨o,ho,hc⟩ isSubtype_stop ?_;exact af (hQ _ _ kp)
theorem zfi {P:a8}{w:World}{K:W.Frag}{tg:Expr}{z TI TO i1 i2 a1 a2:Addr}{l1 l2:Bool}{vs ws:List V}(ht:(isTup tg||isNm tg)=true)(D:ZApart z TI TO i1 i2 [i1,a1] [i2,a2])(n1:a1≠i1)(n2:a2≠i2):
  Turn P w K tg (ItZ K l1 a1 vs l2 a2 ws) [z,TI,TO,i1,i2] z (ZSt z TI TO i1 i2 l1 a1 l2 a2) where
 mem:=by simp
 obj:=fun i h st b hb=>by
  obtain⟨⟨f0,f1,_,hz⟩,hTI,⟨a,c,hTO⟩,h1,h2⟩:=st;simp only[cw,au,or_false]at hb;rcases hb with rfl|rfl|rfl|rfl|rfl
  ·exact⟨_,hz,fun v q=>by cases q⟩
  ·exact⟨_,hTI,fun v q=>by cases q⟩
  ·exact⟨_,hTO,fun v q=>by cases q⟩
  ·exact h1.live
  ·exact h2.live
 keep:=fun i h h' st k=>by obtain⟨⟨f0,f1,hf,hz⟩,hTI,⟨a,c,hTO⟩,h1,h2⟩:=st;exact⟨⟨f0,f1,hf,k z (by simp) _ hz⟩,k TI (by simp) _ hTI,⟨a,c,k TO (by simp) _ hTO⟩,h1.keep fun o=>k i1 (by simp) o,h2.keep fun o=>k i2 (by simp) o⟩
 item:=by
  intro X hP hw hK hc i pins s σ H E I hf st hg;subst hP hw hK;obtain⟨hq1,hq2,hi⟩:=hg;obtain⟨⟨f0,f1,zf,hz⟩,hTI,⟨a,c,hTO⟩,h1,h2⟩:=st;obtain⟨its1,rv1,b1,e1⟩:=SqB.items I hq1;obtain⟨its2,rv2,b2,e2⟩:=SqB.items I hq2;have hA:X.A.in1.handled=none:=I.ok.hd hc;have D1:=z5k (prog:=X.prog) (w:=X.w) (A:=X.A.in1) hA l1 i1 a1 n1 its1.toArray;have D2:=z5k (prog:=X.prog) (w:=X.w) (A:=X.A.in1) hA l2 i2 a2 n2 its2.toArray;refine zf2 D D1 D2 zf hz hTI hTO ⟨h1,b1⟩ ⟨h2,b2⟩ (by rw[aw];omega) (by rw[aw];omega) fun x y h' tk f0' f1' a' b' hx hy zf' hz' hTO' st1 st2 new kp=>⟨_,rfl,?_⟩;refine zrb ht zf' hz' fun h'' f0'' zf'' hz'' sb=>?_;have lt:∀{c o},s.heap.get? c=some o->s.heap.objs.size≠c:=fun e q=>ce _ (q▸bn e);obtain⟨o1,ho1,_⟩:=h1.live;obtain⟨o2,ho2,_⟩:=h2.live;have nw':s.heap.objs.size∉ [z,TI,TO,i1,i2]:=by simp[lt hz,lt hTI,lt hTO,lt ho1,lt ho2]
  have up:∀c o,c≠z->h'.get? c=some o->h''.get? c=some o:=fun c o hc e=>sb.extBut c o hc e;have new':PairAt h'' s.heap.objs.size x y:=up _ _ (lt hz) new;obtain⟨v,hv,rx⟩:=z8z rv1 (by omega) hx;obtain⟨u,hu,ry⟩:=z8z rv2 (by omega) hy;have hHp:H s.heap.objs.size=none:=I.hok.fresh (am _);have I1:=I.turnedTL (fp:=[z,TI,TO,i1,i2]) (t':=tk) (xs:=[v,u]) (h':=h'') hf (fun b q hb e=>up b q (fun q=>hb (by simp[q])) (kp b q (fun q=>hb (by simp[q])) (fun q=>hb (by simp[q])) (fun q=>hb (by simp[q])) (fun q=>hb (by simp[q])) e)) (am _) ⟨by rw[dr];simp,[x,y],.cons rx (.cons ry .nil),0,new'⟩;refine⟨.ref s.heap.objs.size,_,I1,rfl,⟨_,v,u,hv,hu,hHp,rfl,rfl⟩,⟨⟨f0'',f1',zf'',hz''⟩,up _ _ D.TIz (kp _ _ D.TIz D.TITO D.TIi1 D.TIi2 hTI),⟨a',b',up _ _ D.TOz hTO'⟩,st1.1.keep fun o=>up _ o D.i1z,st2.1.keep fun o=>up _ o D.i2z⟩,fun b hb=>?_⟩;rw[z06 fun q:b=s.heap.objs.size=>nw' (by rw[<-q];exact hb)];exact(hf b hb).1
 done:=by intro X hP hw hK hc i pins s σ H E I hf st hg;subst hP hw hK;obtain⟨hq1,hq2,hi⟩:=hg;obtain⟨⟨f0,f1,zf,hz⟩,hTI,⟨a,c,hTO⟩,h1,h2⟩:=st;obtain⟨its1,rv1,b1,e1⟩:=SqB.items I hq1;obtain⟨its2,rv2,b2,e2⟩:=SqB.items I hq2;have hA:X.A.in1.handled=none:=I.ok.hd hc;have D1:=z5k (prog:=X.prog) (w:=X.w) (A:=X.A.in1) hA l1 i1 a1 n1 its1.toArray;have D2:=z5k (prog:=X.prog) (w:=X.w) (A:=X.A.in1) hA l2 i2 a2 n2 its2.toArray;refine zff D D1 D2 zf hz hTI hTO ⟨h1,b1⟩ ⟨h2,b2⟩ (by rw[aw,aw];omega) fun h' tk kp=>⟨rfl,I.turnedL hf fun b q hb e=>?_⟩;exact kp b q (fun q=>hb (by simp[q])) (fun q=>hb (by simp[q])) (fun q=>hb (by simp[q])) (fun q=>hb (by simp[q])) e
 self:=fun _ _ _ _ _ st h=>by obtain⟨⟨f0,f1,_,hz⟩,_⟩:=st;have ty:Shared.TypeIs _ (.ref z) "zip":=⟨_,hz,rfl⟩;refine wpAny_pyIter_slot ty F.slot_zip_iter (gh F.slot_zip_iter ty F.entry_zip_iter ?_ (F.args_zip_iter_1 _));show wpAny _ _ (ret (.ref z)) _ _ _;exact af ⟨_,rfl,"zip",_,ty,F.slot_zip_next.lookup,h⟩
theorem z9f:∀(xs ys:List D) (i:Nat) {x y:D},xs[i]?=some x->ys[i]?=some y->(zipD xs ys)[i]?=some (.tuple [x,y])
 |x::xs,y::ys,0,_,_,h1,h2=>by cases h1;cases h2;rfl
 |x::xs,y::ys,i+1,_,_,h1,h2=>z9f xs ys i h1 h2
 | [],_,i,_,_,h1,_=>by simp at h1
 |_::_,[],i,_,_,_,h2=>by simp at h2
theorem z3x:∀(xs ys:List D),(zipD xs ys).length=min xs.length ys.length
 | [],_=>by simp[zipD]
 |_::_,[]=>by simp[zipD]
 |x::xs,y::ys=>by show(zipD xs ys).length+1=min (xs.length+1) (ys.length+1);rw[z3x xs ys];omega
theorem zg4 {K:W.Frag}{H:Hp}{B:Ad->Prop}{l1 l2:Bool}{a1 a2:Addr}{vs ws:List V}{xs ys:List D}(h1:SrB K H B l1 a1 vs)(h2:SrB K H B l2 a2 ws)(r1:Reps K H B vs xs)(r2:Reps K H B ws ys)(i1:imms xs=true)(i2:imms ys=true)(hz:xs.length<=bh):Walk K (ItZ K l1 a1 vs l2 a2 ws) B H (zipD xs ys):=by
 have e1:=r1.length;have e2:=r2.length;constructor
 ·rw[z3x];omega
 ·intro H2 kp i h;rw[z3x]at h;exact⟨h1.keep kp,h2.keep kp,by omega⟩
 ·intro H2 kp;exact⟨h1.keep kp,h2.keep kp,by rw[z3x];omega⟩
 ·intro H2 kp i x H3 h y;obtain⟨p,v,u,hv,hu,hp,rfl,rfl⟩:=y;obtain⟨d,hd,rv⟩:=Reps.getV r1 hv;obtain⟨d',hd',rv'⟩:=Reps.getV r2 hu;have him:imm d=true:=z1d.mp i1 d (b8 hd);have him':imm d'=true:=z1d.mp i2 d' (b8 hd');have kk:∀a q,H a=some q->Fix q->upd H2 p (.tup [v,u]) a=some q:=fun a q e f=>by have h2:=kp a q e (.inr f);rw[z06 (z08 h2 hp)];exact h2
  exact⟨Same.upd hp,.tuple [d,d'],z9f xs ys i hd hd',p,[v,u],rfl,SqT.of z0b,Reps.cons (Rep.immK kk d him rv) (Reps.cons (Rep.immK kk d' him' rv') rfl)⟩
theorem zcd (l1 l2:Bool)(a1 a2:Addr)(xs ys:Array Value):Meets (Builtin.«zip.__new__» ⟨[.type "zip",.ref a1,.ref a2],[]⟩) fun _ R s=>IsB s.heap l1 a1 xs/\IsB s.heap l2 a2 ys/\
  ∀h1 h2 h3 h4 h5,h1=s.heap.push (itObj l1 a1)->h2=h1.push (itObj l2 a2)->h3=h2.push {cls:=.type "tuple",data:=.seq #[.ref s.heap.objs.size,.ref h1.objs.size]}->h4=h3.push {cls:=.type "tuple",data:=.seq #[.none,.none]}->h5=h4.push {cls:=.type "zip",data:=.fields #[.none,.bool false,.bool false,.ref h2.objs.size,.ref h3.objs.size]}->R (.ok (.ret (.ref h4.objs.size))) {s with heap:=h5}:=by
 rintro prog w A R s ⟨b1,b2,hR⟩
 have sub:=sub_zip;obtain⟨hp,gs,dp,tk,os⟩:=s;have c1:IsB (Shared.heap ⟨hp,gs,dp,tk,os⟩) l1 a1 xs:=b1;have c2:IsB (Shared.heap ⟨hp.push (itObj l1 a1),gs,dp,tk,os⟩) l2 a2 ys:=b2.push _
 wp_walk using z9o c1,z9o c2
 exact hR _ _ _ _ _ rfl rfl rfl rfl rfl
section
variable {X:Cx}{pins:List (Addr×Obj)}{σ:L2.St}
theorem z9l {H1:Hp}{s1:ac}{B:Ad->Prop}{y1 y2:V}{u1 u2:Value}{d1 d2:D}{xs ys:List D}{R:It->Hp->Prop}{tg:Expr}(ht:(isTup tg||isNm tg)=true)(I1:Inv X pins σ H1 s1)(r1:RelV y1 u1)(r2:RelV y2 u2)(rv1:Rep X.K H1 B y1 d1)(rv2:Rep X.K H1 B y2 d2)(e1:seqI d1=.ok xs)(e2:seqI d2=.ok ys)(q:∀J,Walk X.K J B H1 (zipD xs ys)->R J H1):
  wpAny (model X.prog X.w) X.A (call (.type "zip") [u1,u2]) (fun v' s2=>wpAny (model X.prog X.w) X.A (ox v') (PIE X pins σ tg R) X.xe s2) X.xe s1:=by
 obtain⟨l1,a1,vs,rfl,q1,w1,m1,z1⟩:=SrB.of rv1 e1;obtain⟨l2,a2,ws,rfl,q2,w2,m2,z2⟩:=SrB.of rv2 e2;cases r1;cases r2;obtain⟨its1,_,b1,_⟩:=SqB.items I1 (q1.keep (Kp.of (Same.refl H1)));obtain⟨its2,_,b2,_⟩:=SqB.items I1 (q2.keep (Kp.of (Same.refl H1)));refine callType_new F.called_zip (by decide) (F.typeCall_zip_2 _ _) (F.newCall_zip_2 _ _) (fun obj=>F.args_object_init_3 obj _ _) F.entry_zip_new (zcd l1 l2 a1 a2 its1.toArray its2.toArray) ⟨b1,b2,?_⟩;intro h1 h2 h3 h4 h5 k1 k2 k3 k4 k5;have s1z:h1.objs.size=s1.heap.objs.size+1:=by rw[k1];exact ma _ _
 have s2z:h2.objs.size=s1.heap.objs.size+2:=by rw[k2,ma,s1z]
 have s3z:h3.objs.size=s1.heap.objs.size+3:=by rw[k3,ma,s2z]
 have s4z:h4.objs.size=s1.heap.objs.size+4:=by rw[k4,ma,s3z]
 have p1:∀b o,s1.heap.get? b=some o->h1.get? b=some o:=fun b o e=>by rw[k1];exact ae _ e
 have p2:∀b o,h1.get? b=some o->h2.get? b=some o:=fun b o e=>by rw[k2];exact ae _ e
 have p3:∀b o,h2.get? b=some o->h3.get? b=some o:=fun b o e=>by rw[k3];exact ae _ e
 have p4:∀b o,h3.get? b=some o->h4.get? b=some o:=fun b o e=>by rw[k4];exact ae _ e
 have p5:∀b o,h4.get? b=some o->h5.get? b=some o:=fun b o e=>by rw[k5];exact ae _ e
 have I5:Inv X pins σ H1 {s1 with heap:=h5}:=I1.kept (t':=s1.toks) fun b o e=>p5 b o (p4 b o (p3 b o (p2 b o (p1 b o e))));have g1:h5.get? s1.heap.objs.size=some (itObj l1 a1):=p5 _ _ (p4 _ _ (p3 _ _ (p2 _ _ (by rw[k1];exact ay _ rfl))));have g2:h5.get? h1.objs.size=some (itObj l2 a2):=p5 _ _ (p4 _ _ (p3 _ _ (by rw[k2];exact ay _ rfl)));have g3:PairAt h5 h2.objs.size (.ref s1.heap.objs.size) (.ref h1.objs.size):=p5 _ _ (p4 _ _ (by rw[k3];exact ay _ rfl));have g4:PairAt h5 h3.objs.size .none .none:=p5 _ _ (by rw[k4];exact ay _ rfl);have g5:h5.get? h4.objs.size=some (ZRec h2.objs.size h3.objs.size .none false):=by rw[k5];exact ay _ rfl
 have t1:a1<s1.heap.objs.size:=b1.lt;have t2:a2<s1.heap.objs.size:=b2.lt;have Da:ZApart h4.objs.size h2.objs.size h3.objs.size s1.heap.objs.size h1.objs.size [s1.heap.objs.size,a1] [h1.objs.size,a2]:=by have nn:∀{i j:Nat},i≠j->s1.heap.objs.size+i≠s1.heap.objs.size+j:=fun h z=>h (Nat.add_left_cancel z);have n0:∀{j:Nat},0≠j->s1.heap.objs.size≠s1.heap.objs.size+j:=fun h=>nn (i:=0) h;have no:∀{x y z:Addr},x≠y->x≠z->x∉ [y,z]:=fun h1 h2 h=>(au.mp h).elim h1 fun q=>h2 (br.mp q);have na:∀{a:Addr} {j:Nat},a<s1.heap.objs.size->s1.heap.objs.size+j≠a:=fun h z=>ce _ (bw h (z▸jm _ _));rw[s1z,s2z,s3z,s4z];exact⟨nn (by decide),nn (by decide),n0 (by decide),nn (by decide),nn (by decide),(n0 (by decide)).symm,nn (by decide),(n0 (by decide)).symm,nn (by decide),n0 (by decide),no (n0 (by decide)).symm (na t1),no (n0 (by decide)).symm (na t1),no (n0 (by decide)).symm (na t1),no (nn (by decide)) (na t2),no (nn (by decide)) (na t2),no (n0 (by decide)) (na (j:=0) t2)⟩
 have T:=zfi (P:=X.prog) (w:=X.w) (K:=X.K) (tg:=tg) (l1:=l1) (l2:=l2) (vs:=vs) (ws:=ws) ht Da (bz t1) (by rw[s1z];exact bz (lm t2));have St:ZSt h4.objs.size h2.objs.size h3.objs.size s1.heap.objs.size h1.objs.size l1 a1 l2 a2 0 h5:=⟨⟨.none,false,.inl rfl,g5⟩,g3,⟨_,_,g4⟩,ItB.new g1,ItB.new g2⟩;refine⟨⟨_,g5,rfl⟩,T.self _ 0 _ _ _ St ⟨h4.objs.size,_,_,_,H1,rfl,I5,T,St,fun b hb=>?_,q _ (zg4 q1 q2 w1 w2 m1 m2 (z0q z1))⟩⟩
 have hb2:s1.heap.objs.size<=b:=by
  rw[s1z,s2z,s3z,s4z]at hb;simp only[cw,au,or_false]at hb;rcases hb with rfl|rfl|rfl|rfl|rfl
  ·exact jm _ _
  ·exact jm _ _
  ·exact jm _ _
  ·exact am _
  ·exact jm _ _
 exact I1.fpOk hb2 (I1.hok.fresh hb2)
end
section
variable {X:Cx}{a b:Expr}{fa fb:Rho->Res GD}{p pos:Pos}
theorem zda:cu "enumerate"=some (.type "enumerate"):=by decide+kernel
theorem zho:cu "zip"=some (.type "zip"):=by decide+kernel
theorem zlm (hs:isStar a=false)(ha:PE X a (tD X.K fa)):PA X [a] (tDA X.K fun ρ=>fa ρ>>=fun x=>.ok [x]):=by refine PA.imp (zdo hs ha zrs) fun σ H Q ⟨ρ,F,z,so,e,q⟩=>⟨ρ,F,z,so,?_,q⟩;obtain⟨x,e1,e⟩:=Res.bind_ok e;show(fa ρ>>=fun x=>Res.ok []>>=fun xs=>Res.ok (x::xs))=_;rw[e1];exact e
theorem zpc (hs:isStar a=false)(hs2:isStar b=false)(ha:PE X a (tD X.K fa))(hb:PE X b (tD X.K fb)):PA X [a,b] (tDA X.K fun ρ=>fa ρ>>=fun x=>fb ρ>>=fun y=>.ok [x,y]):=by refine PA.imp (zdo hs ha (zlm hs2 hb)) fun σ H Q ⟨ρ,F,z,so,e,q⟩=>⟨ρ,F,z,so,?_,q⟩;obtain⟨x,e1,e⟩:=Res.bind_ok e;obtain⟨y,e2,e⟩:=Res.bind_ok e;show(fa ρ>>=fun x=>(fb ρ>>=fun y=>Res.ok [y])>>=fun xs=>Res.ok (x::xs))=_;rw[e1,Res.ok_bind,e2];exact e
theorem zod {fs:Rho->Res GD}{ρ:Rho}{ys:List GD}(h:(fs ρ>>=fun x=>Res.ok [x])=.ok ys):∃x,fs ρ=.ok x/\ys=[x]:=by obtain⟨x,e,h⟩:=Res.bind_ok h;cases h;exact⟨x,e,rfl⟩
theorem z6d {K:W.Frag}{F:Fm}{H H1:Hp}{σ:L2.St}{ρ:Rho}{x:GD}{xs:List D}{v:V}(so:StOk K F H σ ρ)(hc:z51 x=true)(e:seqI x.2=.ok xs)(rv:Rep K H1 (BG F H x.1) v x.2):∃B,Rep K H1 B v x.2/\(∀a,B (some a)->F.O a=none)/\∀a,B a->BI F .al a:=by
 obtain⟨g,d⟩:=x;cases d<;>try (exact(z16 e).elim)
 case list ds=>
  have hg:g≠.al:=fun z=>by subst z;cases hc
  exact⟨_,rv,fun a h=>z9j so hg h,fun a h=>BI.of so.vis (g:=.al) (BG.vis so.vis h)⟩
 case tuple ds=>
  have hi:imm (.tuple ds)=true:=by
   have e:(if(imms ds&&decide (ds.length<=LIM))=true then Res.ok ds else Res.no)=Res.ok xs:=e;split at e
   ·rename_i h;exact(bp.mp h).1
   ·cases e
  exact⟨fun _=>False,Rep.immB _ hi rv,fun _ h=>h.elim,fun _ h=>h.elim⟩
theorem zpf {ρ:Rho}{ys:List GD}(h:(fa ρ>>=fun x=>fb ρ>>=fun y=>Res.ok [x,y])=.ok ys):∃x y,fa ρ=.ok x/\fb ρ=.ok y/\ys=[x,y]:=by obtain⟨x,e,h⟩:=Res.bind_ok h;obtain⟨y,e2,h⟩:=Res.bind_ok h;cases h;exact⟨x,y,e,e2,rfl⟩
theorem zg2 {tg:Expr}(ht:(isTup tg||isNm tg)=true)(hm:X.mg "zip"=none)(hg:Gl X "zip")(hs:isStar a=false)(hs2:isStar b=false)(ha:PE X a (tD X.K fa))(hb:PE X b (tD X.K fb)):PI X tg (.Call (.Name "zip" p) [a,b] [] pos) (tDW X.K fun ρ=>fa ρ>>=fun x=>fb ρ>>=fun y=>seqI x.2>>=fun xs=>seqI y.2>>=fun ys=>.ok (.al,zipD xs ys)):=by intro pins s σ H R I h;obtain⟨ρ,F,w,so,e,q⟩:=h;obtain⟨x,e1,e⟩:=Res.bind_ok e;obtain⟨y,e2,e⟩:=Res.bind_ok e;obtain⟨xs,e3,e⟩:=Res.bind_ok e;obtain⟨ys,e4,e⟩:=Res.bind_ok e;cases e;refine Call_ (z2r I hg hm zho (PyProof.Rows.callWith_type1 (thn (zpc hs hs2 ha hb pos pins s σ H (fun vs H1=>Same H H1/\RGs X.K F H H1 vs [x,y]) I ⟨ρ,F,[x,y],so,by show(fa ρ>>=fun x=>fb ρ>>=fun y=>Res.ok [x,y])=_;rw[e1,Res.ok_bind,e2];rfl,fun vs H1 s1 rs=>⟨s1,rs⟩⟩) fun us s1 ⟨vs,H1,I1,r1,sm,rs⟩=>?_) (z0j hs) (by rw[z0j hs2];rfl)));obtain⟨v1,v2,rfl,rv1,rv2⟩:=rs.two;obtain⟨u1,u2,rfl,ru1,ru2⟩:=vals2 r1;have q1:=(Rep.there _ rv1).weak (B':=fun c=>visA F c/\¬nw H1 c) fun c z=>⟨BG.vis so.vis z.1,z.2⟩;have q2:=(Rep.there _ rv2).weak (B':=fun c=>visA F c/\¬nw H1 c) fun c z=>⟨BG.vis so.vis z.1,z.2⟩;exact z9l ht I1 ru1 ru2 q1 q2 e3 e4 fun J wk=>q J _ H1 sm (fun c z=>z) wk
theorem zj2 {tg:Expr}(ht:(isTup tg||isNm tg)=true)(hm:X.mg "zip"=none)(hg:Gl X "zip")(hs:isStar a=false)(hs2:isStar b=false)(ha:PE X a (tD X.K fa))(hb:PE X b (tD X.K fb)):PI X tg (.Call (.Name "zip" p) [a,b] [] pos) (tDF X.K fun ρ=>(fa ρ>>=fun x=>fb ρ>>=fun y=>.ok [x,y])>>=fun ys=>evZi ys ρ):=by
 intro pins s σ H R I h;obtain⟨ρ,F,w,so,e,q⟩:=h;obtain⟨zs,e0,e⟩:=Res.bind_ok e;obtain⟨x,y,e1,e2,rfl⟩:=zpf e0;have e:(if(z51 x&&z51 y)=true then(seqI x.2>>=fun xs=>seqI y.2>>=fun zs=>Res.ok (G.al,zipD xs zs,ρ))else Res.no)=Res.ok w:=e;split at e
 case isFalse=>cases e
 rename_i hc;obtain⟨c1,c2⟩:=bp.mp hc;obtain⟨xs,e3,e⟩:=Res.bind_ok e;obtain⟨ys,e4,e⟩:=Res.bind_ok e;cases e;refine Call_ (z2r I hg hm zho (PyProof.Rows.callWith_type1 (thn (zpc hs hs2 ha hb pos pins s σ H (fun vs H1=>Same H H1/\RGs X.K F H H1 vs [x,y]) I ⟨ρ,F,[x,y],so,by show(fa ρ>>=fun x=>fb ρ>>=fun y=>Res.ok [x,y])=_;rw[e1,Res.ok_bind,e2];rfl,fun vs H1 s1 rs=>⟨s1,rs⟩⟩) fun us s1 ⟨vs,H1,I1,r1,sm,rs⟩=>?_) (z0j hs) (by rw[z0j hs2];rfl)));obtain⟨v1,v2,rfl,rv1,rv2⟩:=rs.two;obtain⟨u1,u2,rfl,ru1,ru2⟩:=vals2 r1;obtain⟨B1,k1,k2,k3⟩:=z6d so c1 e3 rv1;obtain⟨B2,m1,m2,m3⟩:=z6d so c2 e4 rv2;have q1:=k1.weak (B':=fun c=>B1 c\/B2 c) fun c z=>.inl z;have q2:=m1.weak (B':=fun c=>B1 c\/B2 c) fun c z=>.inr z;exact z9l ht I1 ru1 ru2 q1 q2 e3 e4 fun J wk=>q J _ H1 F sm Run.refl (Frm.same sm) (so.same sm) (fun c z=>z.elim (k2 c) (m2 c)) (fun c z=>z.elim (k3 c) (m3 c)) wk
theorem zqg {elts:List Expr}{x1:Nat}{tp:Pos}(hm:X.mg "enumerate"=none)(hg:Gl X "enumerate")(hs:isStar a=false)(ha:PE X a (tD X.K fa)):PI X (.Tuple elts x1 tp) (.Call (.Name "enumerate" p) [a] [] pos) (tDW X.K fun ρ=>fa ρ>>=fun x=>seqI x.2>>=fun xs=>.ok (.al,z2n 0 xs)):=by intro pins s σ H R I h;obtain⟨ρ,F,w,so,e,q⟩:=h;obtain⟨x,e1,e⟩:=Res.bind_ok e;obtain⟨xs,e2,e⟩:=Res.bind_ok e;cases e;refine Call_ (z2r I hg hm zda (PyProof.Rows.callWith_type1 (thn (zlm hs ha pos pins s σ H (fun vs H1=>Same H H1/\RGs X.K F H H1 vs [x]) I ⟨ρ,F,[x],so,by show(fa ρ>>=fun x=>Res.ok [x])=_;rw[e1];rfl,fun vs H1 s1 rs=>⟨s1,rs⟩⟩) fun us s1 ⟨vs,H1,I1,r1,sm,rs⟩=>?_) (z0j hs) rfl));obtain⟨v,rfl,rv⟩:=rs.one;obtain⟨u,rfl,ru⟩:=vals1 r1;exact z7e I1 ru (Rep.there _ rv) e2 fun J wk=>q J _ H1 sm (fun c z=>⟨BG.vis so.vis z.1,z.2⟩) wk
theorem znd {elts:List Expr}{x1:Nat}{tp:Pos}(hm:X.mg "enumerate"=none)(hg:Gl X "enumerate")(hs:isStar a=false)(ha:PE X a (tD X.K fa)):PI X (.Tuple elts x1 tp) (.Call (.Name "enumerate" p) [a] [] pos) (tDF X.K fun ρ=>(fa ρ>>=fun x=>.ok [x])>>=fun ys=>evEn ys ρ):=by
 intro pins s σ H R I h;obtain⟨ρ,F,w,so,e,q⟩:=h;obtain⟨ys,e0,e⟩:=Res.bind_ok e;obtain⟨x,e1,rfl⟩:=zod e0;have e:(if z51 x=true then(seqI x.2>>=fun xs=>Res.ok (G.al,z2n 0 xs,ρ))else Res.no)=Res.ok w:=e;split at e
 case isFalse=>cases e
 rename_i hc;obtain⟨xs,e2,e⟩:=Res.bind_ok e;cases e;refine Call_ (z2r I hg hm zda (PyProof.Rows.callWith_type1 (thn (zlm hs ha pos pins s σ H (fun vs H1=>Same H H1/\RGs X.K F H H1 vs [x]) I ⟨ρ,F,[x],so,by show(fa ρ>>=fun x=>Res.ok [x])=_;rw[e1];rfl,fun vs H1 s1 rs=>⟨s1,rs⟩⟩) fun us s1 ⟨vs,H1,I1,r1,sm,rs⟩=>?_) (z0j hs) rfl));obtain⟨v,rfl,rv⟩:=rs.one;obtain⟨u,rfl,ru⟩:=vals1 r1;obtain⟨B,rB,hB,hV⟩:=z6d so hc e2 rv;exact z7e I1 ru rB e2 fun J wk=>q J B H1 F sm Run.refl (Frm.same sm) (so.same sm) hB hV wk
theorem zug {es:List Expr}{fs:Rho->Res (List GD)}{lp:Pos}(h:PA X es (tDA X.K fs))(hb:PE X b (tD X.K fb))(hl:∀ρ xs,fs ρ=.ok xs->xs.length<=bh):PE X (.BinOp (.List es lp) .Mult b pos) (tD X.K fun ρ=>fs ρ>>=fun ys=>fb ρ>>=fun n=>repD ys n.2):=by
 refine PE.imp (znn znb (zi5 h) hb) fun σ H Q zz=>?_;obtain⟨ρ,F,z,so,e,q⟩:=zz;obtain⟨ys,e1,e⟩:=Res.bind_ok e;obtain⟨n,e2,e⟩:=Res.bind_ok e;refine⟨ρ,F,ys,so,e1,fun vs H1 s1 rs=>?_⟩;have r:=rs.reps (B:=BG F H (gAll ys)) fun x hx a h=>z54 so.vis hx h;refine⟨by rw[r.length,ah];exact hl ρ ys e1,fun p hp=>?_⟩;have sm:=s1.trans (Same.upd (o:=.lst vs) hp);refine⟨ρ,F,n,so.same sm,e2,fun v H2 s2 rv=>?_⟩;obtain⟨g,d⟩:=n;cases d<;>try (exact(z16 e).elim)
 rename_i k;have e:(if imms (ys.map (·.2))=true/\0<=k/\k<=LIM/\ys.length*k.toNat<=LIM then Res.ok (G.fr,PyData.list (z0y k.toNat (ys.map (·.2))))else Res.no)=Res.ok z:=e;split at e
 case isFalse=>cases e
 rename_i hc;obtain⟨hi,h0,h1,h2⟩:=hc;cases e;obtain rfl:v=.int k:=rv;have hvl:vs.length=ys.length:=by rw[r.length,ah]
 refine⟨p,k,vs,rfl,rfl,s2 _ _ z0b,by unfold LIM at h1;omega,by unfold LIM at h1;omega,z0q (by rw[hvl];exact h2),fun p2 hp2=>?_⟩;refine q _ _ ((sm.trans s2).trans (Same.upd hp2)) ?_
 have r2:Reps X.K H2 (BG F H .fr) (z0y k.toNat vs) (z0y k.toNat (ys.map (·.2))):=by
  have r0:Reps X.K H2 (BG F H .fr) vs (ys.map (·.2)):=Reps.immB _ hi (r.same ((Same.upd hp).trans s2) fun _ z=>z);unfold z0y;generalize k.toNat=m
  induction m with
  |zero=>exact rfl
  |succ m ih=>rw[dm,dm,eu,eu];exact Reps.append r0 ih
 have hnw:H p2=none:=by
  cases hh:H p2 with
  |none=>rfl
  |some o=>have:=(sm.trans s2) _ _ hh;rw[hp2]at this;cases this
 exact z1t hp2 r2 (fun _ z=>z) hnw
end
end Mi
namespace Mi
open PySem PySem.Spec PyProof.Rows
structure TSet (prog:a8)(w:World)(h:Heap)(S:Addr)(f:Str->Bool)(c:Nat)(es:Array (Int×Value))(ep:Nat)(t:dz)(o:Obj):Prop where
 at_:h.get? S=some o
 ex:o.ExactSet
 dt:o.data=.set es ep t
 el:ElemsOf (strKind prog w) es.toList
 mem:∀k,f k=true↔∃e∈es.toList,(strKind prog w).is k e.2=true
 few:es.size<nu
 fit:t.fits es.size=true
 cnt:es.size=c
 pl:0<es.size->t.plain=false
 ld:t.led=!w.params.followText "set-order"
def IsTS (prog:a8)(w:World)(h:Heap)(S:Addr)(f:Str->Bool)(c:Nat):Prop:=∃es ep t o,TSet prog w h S f c es ep t o
def addS (p:(Str->Bool)×Nat)(z:Str):(Str->Bool)×Nat:=(fun k=>p.1 k||decide (k=z),if p.1 z then p.2 else p.2+1)
theorem zkc (p:(Str->Bool)×Nat)(z:Str):(addS p z).2<=p.2+1:=by
 unfold addS
 dsimp only
 split
 ·exact qr _
 ·exact am _
theorem zds (t:dz)(es:Array (Int×Value))(n:Nat)(h:t.plain=false):(oa t es n).2.1.plain=false:=by
 unfold oa;split
 ·rename_i t' order e
  dsimp only
  split
  ·unfold SetTable.relaid SetTable.laid at e;cases e2:SetTable.layClean (SetTable.sizeAbove n-1) (es.map (·.1))with
   |none=>rw[e2]at e;cases e
   |some ow=>rw[e2]at e;have e:=Option.some.inj e;rw[<-(Prod.mk.inj e).1];exact h
  ·rfl
 ·rfl
theorem zjb (t:dz)(es:Array (Int×Value))(n:Nat):(oa t es n).2.1.led=t.led:=by
 unfold oa;split
 ·rename_i t' order e
  dsimp only
  split
  ·unfold SetTable.relaid SetTable.laid at e;cases e2:SetTable.layClean (SetTable.sizeAbove n-1) (es.map (·.1))with
   |none=>rw[e2]at e;cases e
   |some ow=>rw[e2]at e;have e:=Option.some.inj e;rw[<-(Prod.mk.inj e).1]
  ·rfl
 ·rfl
theorem zm3 (t:dz)(es:Array (Int×Value))(h:Int)(x:Value):(layNew t es h x).2.1.led=t.led:=by
 unfold layNew;split
 ·unfold SetTable.orStandIn
  dsimp only
  split<;>rfl
 ·rfl
section
variable {prog:a8}{w:World}{A:b7}{E:Value->ac->Prop}{s:ac}
theorem IsTS.keep {h h':Heap}{S:Addr}{f:Str->Bool}{c:Nat}(x:IsTS prog w h S f c)(k:∀o,h.get? S=some o->h'.get? S=some o):IsTS prog w h' S f c:=by obtain⟨es,ep,t,o,x⟩:=x;exact⟨es,ep,t,o,{x with at_:=k o x.at_}⟩
theorem zbr {S:Addr}{o:Obj}{es:Array (Int×Value)}{ep:Nat}{t:dz}{h:Heap}(ho:h.get? S=some o)(hd:o.data=.set es ep t)(es':Array (Int×Value))(t':dz):(h.update S (Obj.putSet es' t')).get? S=some {o with data:=.set es' (ep+1) t'}:=by have q:=jv (Obj.putSet es' t') ho (by rw[putSet_of es' t' hd];rfl);rw[putSet_of es' t' hd]at q;exact q
theorem zg6 {S:Addr}{p:(Str->Bool)×Nat}{z:Str}{u:Tok}{Q:Bool->ac->Prop}(x:IsTS prog w s.heap S p.1 p.2)(room:p.2+1<nu)(fin:∀r h',bu S s.heap h'->IsTS prog w h' S (addS p z).1 (addS p z).2->Q r {s with heap:=h'}):
  wpAny (model prog w) A (setAddHashed S (.str z u) ((strKind prog w).hash z)) Q E s:=by
 obtain⟨es,ep,t,o,x⟩:=x;have key:=strKind_is prog w z u;have hc:=x.cnt
 delta setAddHashed setAddHashedIn
 apply cr;apply aa;refine wpAny_setState_of x.at_ x.dt x.fit ?_
 dsimp only
 rw[byScan_of (knd:=strKind prog w) rfl x.few x.el];rw[if_pos rfl]
 delta setAddByScan
 apply aa;apply aa;apply jr;apply aa;refine wpAny_setScan_of key x.at_ x.dt x.fit x.el ?_;cases hr:es.toList.findIdx? (fun e=>(strKind prog w).is z e.2)with
 |some j=>
  obtain⟨hlt,hat,_⟩:=List.findIdx?_eq_some_iff_getElem.mp hr;have inn:p.1 z=true:=(x.mem z).mpr ⟨_,d9 hlt,hat⟩;apply af;apply af;refine fin false s.heap (Heap.SameBut.refl S s.heap) ⟨es,ep,t,o,?_⟩;have e2:(addS p z).2=p.2:=by show(if p.1 z then p.2 else p.2+1)=p.2;rw[if_pos inn]
  refine{x with mem:=fun k=>?_,cnt:=by rw[e2];exact hc};show(p.1 k||decide (k=z))=true↔_;rw[gc,decide_eq_true_iff,<-x.mem k];exact⟨fun h=>h.elim id fun e=>e▸inn,Or.inl⟩
 |none=>
  have out:p.1 z=false:=by
   cases hk:p.1 z with
   |false=>rfl
   |true=>obtain⟨e,he,hp⟩:=(x.mem z).mp hk;have this:=List.findIdx?_eq_none_iff.mp hr e he;rw[hp]at this;cases this
  have e2:(addS p z).2=p.2+1:=by show(if p.1 z then p.2 else p.2+1)=p.2+1;rw[if_neg (by rw[out];decide)]
  have say:∀(b:Bool) {s1:ac} {Q':Unit->ac->Prop},Q' () s1->wpAny (model prog w) A (match b with|true=>rule "set.scan.the-table-gave-way"|false=>pure ()) Q' E s1:=fun b s1 Q' q=>by
   cases b
   ·exact af q
   ·exact jr q
  have pm:=layNew_perm t es ((strKind prog w).hash z) (.str z u);have ft:=layNew_fits t es ((strKind prog w).hash z) (.str z u);have nl:=(zm3 t es ((strKind prog w).hash z) (.str z u)).trans x.ld
  dsimp only
  generalize layNew t es ((strKind prog w).hash z) (.str z u)=L at pm ft nl ⊢;obtain⟨es1,t1,was,gave⟩:=L
  dsimp only at pm ft nl ⊢
  rw[Array.toList_push]at pm;have sz:es1.size=p.2+1:=by rw[<-db,pm.length_eq,az,db,hc];rfl
  have el1:ElemsOf (strKind prog w) es1.toList:=(x.el.push key rfl).perm pm;have mem1:∀k,(addS p z).1 k=true↔∃e∈es1.toList,(strKind prog w).is k e.2=true:=mem_push_iff key x.mem pm
  have store:∀{R:Option Bool->ac->Prop},(∀h',bu S s.heap h'->IsTS prog w h' S (addS p z).1 (addS p z).2->R (some true) {s with heap:=h'})->∀(t2:dz),t2.fits es1.size=true->t2.plain=false->t2.led=(!w.params.followText "set-order")->wpAny (model prog w) A (do
    storeSet S es1 t2
    if(!was&&t2.tooFull)=true then do
       (match(oa t2 es1 (SetTable.grown es1.size)).2.2 with|true=>rule "set.scan.the-table-gave-way"|false=>pure ())
       storeSet S (oa t2 es1 (SetTable.grown es1.size)).1 (oa t2 es1 (SetTable.grown es1.size)).2.1
       pure (some true)
     else pure (some true)) R E s:=fun{R} hR t2 f2 p2 l2=>by
   have fits1:es1.size<=bh:=fits_of_scanBound (by omega);apply aa;refine uq x.at_ x.dt ?_ fits1;have g1:=zbr x.at_ x.dt es1 t2;split
   ·have pm2:=relayAll_perm t2 es1 (SetTable.grown es1.size);have ft2:=relayAll_fits t2 es1 (SetTable.grown es1.size);have pl2:=zds t2 es1 (SetTable.grown es1.size) p2;have ld2:=(zjb t2 es1 (SetTable.grown es1.size)).trans l2;generalize oa t2 es1 (SetTable.grown es1.size)=Rl at pm2 ft2 pl2 ld2 ⊢;obtain⟨es2,t3,gv⟩:=Rl
    dsimp only at pm2 ft2 pl2 ld2 ⊢
    have sz2:es2.size=es1.size:=by rw[<-db,pm2.length_eq,db]
    apply aa;refine say gv ?_;apply aa;refine uq g1 rfl ?_ (by rw[sz2];exact fits1);refine af (hR _ ((jg s.heap S _).trans (jg _ S _)) ⟨es2,ep+1+1,t3,{o with data:=.set es2 (ep+1+1) t3},?_⟩);exact{at_:=zbr g1 rfl es2 t3,ex:=x.ex,dt:=rfl,el:=el1.perm pm2,mem:=fun k=>(mem1 k).trans ⟨fun⟨e,he,q⟩=>⟨e,pm2.mem_iff.mpr he,q⟩,fun⟨e,he,q⟩=>⟨e,pm2.mem_iff.mp he,q⟩⟩,few:=by rw[sz2,sz];exact room,fit:=ft2,cnt:=by rw[sz2,sz,e2],pl:=fun _=>pl2,ld:=ld2}
   ·refine af (hR _ (jg s.heap S _) ⟨es1,ep+1,t2,{o with data:=.set es1 (ep+1) t2},?_⟩);exact{at_:=g1,ex:=x.ex,dt:=rfl,el:=el1,mem:=mem1,few:=by rw[sz];exact room,fit:=f2,cnt:=by rw[sz,e2],pl:=fun _=>p2,ld:=l2}
  apply aa;refine say gave ?_;split
  ·apply aa;rw[hashByValue_scannable 8 (x:=.str z u) rfl];refine af ?_;refine store (fun h' sb ts=>?_) {t1 with plain:=false} (SetTable.fits_plain_off ft) rfl nl;exact af (fin true h' sb ts)
  ·rename_i np
   have np:t1.plain=false:=by
    cases h:t1.plain with
    |false=>rfl
    |true=>exact absurd h np
   apply aa;refine af ?_;refine store (fun h' sb ts=>?_) t1 ft np nl;exact af (fin true h' sb ts)
end
section
variable {prog:a8}{w:World}{A:b7}{R:uu->ac->Prop}{I:Addr}{fp wr:List Addr}{Gn:Array o7->Array o7->Prop}{n:Nat}{P:Nat->Value->Prop}{St:Nat->ac->Prop}
theorem zg9 (W:WalksS prog w A.in1 I fp wr Gn n P St){S:Addr}(no:S∉fp)(val:Nat->Str)(tx:∀i v,P i v->∃t,v=.str (val i) t)(room:n+1<nu):
  ∀(k i:Nat) (s:ac) (p:(Str->Bool)×Nat),i+k=n->p.2<=i->St i s->IsTS prog w s.heap S p.1 p.2->
   (∀s' q,Moved (S::wr) Gn s s'->q=((List.range' i k).map val).foldl addS p->IsTS prog w s'.heap S q.1 q.2->R (.ok (.ret .none)) s')->
   ku (model prog w) A (Code.builtin "set.update.loop" ⟨[Value.ref S,Value.ref I],[]⟩) R s:=by
 have now:S∉wr:=fun z=>no (W.sub S z);intro k
 induction k with
 |zero=>intro i s p e hp st set fin;cases e;refine ge PyProof.Rows.F.entry_set_update_loop ?_;rw[Around.under_plainId PyProof.Rows.F.plain_set_update_loop _];change wpAny _ A.in1 (ou (.ref I)>>=_) _ _ s;apply aa;refine W.done s _ _ st fun s1 mv=>?_;exact af (fin s1 p (mv.mono fun b z=>aq S z) rfl (set.keep fun o=>mv.heap S o now))
 |succ k ih=>
  intro i s p e hp st set fin;refine ge PyProof.Rows.F.entry_set_update_loop ?_;rw[Around.under_plainId PyProof.Rows.F.plain_set_update_loop _];change wpAny _ A.in1 (ou (.ref I)>>=_) _ _ s;apply aa;refine W.item i s _ _ (by omega) st fun v s1 hv st1 mv=>?_;obtain⟨t,rfl⟩:=tx i v hv;have set1:IsTS prog w s1.heap S p.1 p.2:=set.keep fun o=>mv.heap S o now;change wpAny _ A.in1 (nc [Value.str (val i) t] (setAdd S (.str (val i) t))>>=_) _ _ s1;apply aa;apply cr
  delta setAdd
  apply cr;apply aa;refine(strKind prog w).pyHash (k:=val i) (strKind_is prog w (val i) t) ?_;refine zg6 (s:={s1 with toks:=s1.toks+1}) set1 (by omega) fun r h2 same set2=>?_;have le:=zkc p (val i);refine af ⟨me PyProof.Rows.F.plain_set_update_loop _,ih (i+1) _ (addS p (val i)) (by omega) (by omega) (W.frame _ s1 _ _ st1 (qr _) fun b hb o z=>?_) set2 fun s3 q mv3 eq set3=>?_⟩
  ·have hne:b≠S:=fun z=>no (z▸hb);exact(same.2 b hne).trans z
  ·refine fin s3 q (Moved.trans W.gtrans ((mv.mono fun b z=>aq S z).then_heap (qr _) fun b o hb z=>?_) mv3) eq set3;have hne:b≠S:=fun z=>hb (z▸ak);exact(same.2 b hne).trans z
end
section
variable {prog:a8}{w:World}{A:b7}{E:Value->ac->Prop}{s:ac}
abbrev nilS (led:Bool):Obj:={cls:=.type "set",dict:=none,data:=.set #[] 0 (.fresh 0 0 led)}
def zck (prog:a8)(w:World)(s:ac)(us:List Str)(s':ac):Prop:=∃h' tk,s'={s with heap:=h',toks:=tk}/\IsTS prog w h' s.heap.objs.size (us.foldl addS (fun _=>false,0)).1 (us.foldl addS (fun _=>false,0)).2/\∀b o,b<s.heap.objs.size->s.heap.get? b=some o->h'.get? b=some o
theorem zmb (a:Value){Q1:Value->ac->Prop}(h:Q1 (.ref s.heap.objs.size) {s with heap:=s.heap.push (nilS (!w.params.followText "set-order"))}):ku (model prog w) A (.call (.builtin "set.__new__") ⟨[.type "set",a],[]⟩) (wants Q1 E) s:=by
 apply codeAny_of_tree;change wpAny _ A.in1 (checkBuiltinCall "set.__new__" ⟨[.type "set",a],[]⟩>>=fun _=>again (.builtin "set.__new__" ⟨[.type "set",a],[]⟩)) _ _ s;apply aa;refine wpAny_of_eq (PySem.F.newCall_set_1 a) (af ⟨me PySem.F.plain_set_new _,ge PySem.F.entry_set_new ?_⟩);rw[Around.under_plainId PySem.F.plain_set_new _]
 delta Builtin.«set.__new__» Builtin.Frozenset.newClass
 have f1:=sub_set_self;obtain⟨h0,g0,d0,t0,o0⟩:=s
 dsimp only
 wp_walk;refine wpAny_askSetting (af ?_)
 dsimp only
 simp only[newObj];apply aa;refine wpAny_alloc (af ?_);exact af h
theorem zfm {l:Addr}{items:Array Value}{val:Nat->Str}(led:Bool)(hled:led=!w.params.followText "set-order")(hh:A.handled=none)(hl:s.heap.IsList l items)(tx:∀(i:Nat) (v:Value),items[i]?=some v->∃t,v=Value.str (val i) t)(hb:items.size+1<nu):
  wpAny (model prog w) A.in1.in1 (Builtin.«set.__init__» ⟨[.ref s.heap.objs.size,.ref l],[]⟩) (fun fin s'=>fin=.done (.ret .none)/\zck prog w s ((cj items.size).map val) s') E {s with heap:=s.heap.push (nilS led)}:=by
 obtain⟨ol,hol,hcl,nl,hdl⟩:=hl;obtain⟨c0,d0,dt0,sl0⟩:=ol;simp only at hcl hdl;subst hcl hdl;have low:l<s.heap.objs.size:=bn hol;have hS:(s.heap.push (nilS led)).get? s.heap.objs.size=some (nilS led):=ay _ rfl;have hT:Shared.TypeIs {s with heap:=s.heap.push (nilS led)} (.ref s.heap.objs.size) "set":=⟨_,hS,rfl⟩;have f0:(s.heap.push (nilS led)).get? l=some {cls:=.type "list",dict:=d0,data:=.seq items nl,slots:=sl0}:=ae _ hol;have f1:=PySem.F.sub_list_set;have f2:=PySem.F.sub_list_frozenset;have f3:(Value.type "list"==Value.type "dict")=false:=by decide
 have lst:(s.heap.push (nilS led)).IsList l items:=⟨_,f0,rfl,nl,rfl⟩
 delta Builtin.«set.__init__» noKeywords Builtin.Frozenset.updateFrom
 generalize gp:ox=PI
 wp_walk
 subst gp;refine on lst ?_;apply aa;apply wpAny_runValue;have hA:A.in1.in1.in1.handled=none:=by simp only[Around.in1];exact hh
 have nI:l≠(s.heap.push (nilS led)).objs.size:=by rw[n5];exact bz (lm low)
 have nS:s.heap.objs.size∉ [(s.heap.push (nilS led)).objs.size,l]:=by
  rw[n5];intro z;rcases au.mp z with z|z
  ·exact bz (l9 _) z
  ·exact nh low (br.mp z)
 refine zg9 (Walks.list hA _ l nI items).toS nS val tx hb items.size 0 _ (fun _=>false,0) (ur _) (am 0) ⟨⟨_,ay _ rfl,rfl,rfl⟩,lst.push _⟩ ?_ ?_
 ·exact⟨#[],0,.fresh 0 0 led,nilS led,{at_:=ae _ hS,ex:=⟨rfl,rfl,rfl⟩,dt:=rfl,el:=fun e he=>by simp at he,mem:=fun k=>by simp,few:=by decide,fit:=rfl,cnt:=rfl,pl:=fun z=>absurd z (ce 0),ld:=hled}⟩
 ·intro s2 q mv eq set2;obtain⟨h2,g2,d2,t2,o2⟩:=s2;have e1:g2=s.gens:=mv.gens;have e2:d2=s.drawn:=mv.drawn;have e3:o2=s.os:=mv.os;subst e1 e2 e3 eq;show wpAny _ _ _ _ _ _;refine af (af ⟨rfl,h2,t2,rfl,by rw[qt];exact set2,fun b o lt z=>?_⟩);refine mv.heap b o (fun z=>?_) (ae _ (ae _ z));rcases au.mp z with z|z
  ·exact bz lt z
  ·have z:=br.mp z;rw[n5]at z;exact bz (lm lt) z
theorem zcn {l:Addr}{items:Array Value}{val:Nat->Str}{Q:Value->ac->Prop}(hh:A.handled=none)(hl:s.heap.IsList l items)(tx:∀(i:Nat) (v:Value),items[i]?=some v->∃t,v=Value.str (val i) t)(hb:items.size+1<nu)
  (h:∀s',zck prog w s ((cj items.size).map val) s'->Q (.ref s.heap.objs.size) s'):wpAny (model prog w) A (call (.type "set") [.ref l]) Q E s:=by
 have ft:=PySem.F.called_set;obtain⟨c,tl,m1⟩:=ft.mro;have m2:=ft.made;have m3:=ft.sub;have m4:=ft.notType;have m5:=ft.canCreate;have m6:=PySem.F.typeCall_set_1 (.ref l);apply vh;apply codeAny_of_tree;change wpAny _ _ (callAny (.type "set") _) _ _ _;refine af ⟨Code.quiet_builtin _ (by decide+kernel),ge PySem.F.entry_type_call ?_⟩;rw[Around.under_plain (weight_type_call_type "set" [Value.ref l] []) rfl]
 repeat (any_goals first|assumption|wp_step)
 refine lj (zmb (.ref l) (E:=E) (Q1:=fun obj s1=>∃led:Bool,(led=!w.params.followText "set-order")/\obj=.ref s.heap.objs.size/\s1={s with heap:=s.heap.push (nilS led)}) ⟨_,rfl,rfl,rfl⟩) fun r s1 hr=>?_;cases r with
 |error e=>exact hr
 |ok fl=>
  cases fl with
  |ret obj=>
   obtain⟨led,hled,rfl,rfl⟩:=hr;have hT:Shared.TypeIs {s with heap:=s.heap.push (nilS led)} (.ref s.heap.objs.size) "set":=⟨_,ay _ rfl,rfl⟩;have i1:=ft.init.lookup;have i2:=ft.init.bind (.ref s.heap.objs.size)
   repeat (any_goals first|assumption|wp_step)
   refine lj (mq (R:=wants (fun r s2=>r=.none/\zck prog w s ((cj items.size).map val) s2) E) ft.init.plain PySem.F.entry_set_init (check_set_init_1 hT ?_)) fun r2 s2 hr2=>?_
   ·refine jb (zfm (s:=s) (E:=E) led hled hh hl tx hb) (fun fin s3 z=>?_) (fun e s3 z=>?_)
    ·obtain⟨rfl,z⟩:=z;exact⟨rfl,z⟩
    ·exact z
   ·cases r2 with
    |error e=>exact hr2
    |ok fl2=>
     cases fl2 with
     |ret v=>
      obtain⟨rfl,z⟩:=hr2
      repeat (any_goals first|assumption|wp_step)
      exact h _ z
     |_=>exact hr2.elim
  |_=>exact hr.elim
end
end Mi
namespace Mi
open PySem PySem.Spec PyProof.Rows L2
theorem z6c:∀(ws acc:List Str),acc.Nodup->(z1h acc ws).Nodup/\(∀k,k∈z1h acc ws↔k∈acc\/k∈ws)/\ws.foldl addS (fun k=>decide (k∈acc),acc.length)=(fun k=>decide (k∈z1h acc ws),(z1h acc ws).length)
 | [],acc,nd=>⟨nd,fun k=>⟨.inl,fun z=>z.elim id fun z=>by cases z⟩,rfl⟩
 |z::ws,acc,nd=>by
  by_cases h:z∈acc
  ·obtain⟨h1,h2,h3⟩:=z6c ws acc nd;have e:z1h acc (z::ws)=z1h acc ws:=by show z1h (if z∈acc then acc else acc++[z]) ws=_;rw[if_pos h]
   rw[e];refine⟨h1,fun k=>(h2 k).trans ⟨fun y=>y.elim .inl fun y=>.inr (aq _ y),fun y=>y.elim .inl fun y=>?_⟩,?_⟩
   ·rcases au.mp y with rfl|y
    ·exact .inl h
    ·exact .inr y
   ·rw[<-h3];show ws.foldl addS (addS (fun k=>decide (k∈acc),acc.length) z)=_
    congr 1
    show((fun k=>decide (k∈acc)||decide (k=z)),if decide (z∈acc)=true then acc.length else acc.length+1)=_;rw[if_pos (we h)]
    congr 1
    funext k
    by_cases hk:k=z
    ·rw[hk,we h];rfl
    ·rw[wf hk,oy]
  ·have nd':(acc++[z]).Nodup:=by
    rw[jz];exact⟨nd,ci.mpr ⟨(fun y=>by cases y),im⟩,fun a ha b hb e=>by rw[br.mp hb]at e;exact h (e▸ha)⟩
   obtain⟨h1,h2,h3⟩:=z6c ws (acc++[z]) nd';have e:z1h acc (z::ws)=z1h (acc++[z]) ws:=by show z1h (if z∈acc then acc else acc++[z]) ws=_;rw[if_neg h]
   rw[e];refine⟨h1,fun k=>(h2 k).trans ?_,?_⟩
   ·rw[du,br,au,or_assoc]
   ·rw[<-h3];show ws.foldl addS (addS (fun k=>decide (k∈acc),acc.length) z)=_
    congr 1
    show((fun k=>decide (k∈acc)||decide (k=z)),if decide (z∈acc)=true then acc.length else acc.length+1)=_;rw[if_neg (by rw[wf h];decide),az]
    congr 1
    funext k
    by_cases hk:k=z
    ·rw[hk,we (ax _ (br.mpr rfl)),we rfl,qa]
    ·rw[wf hk,oy];exact decide_eq_decide.mpr ⟨gk _,fun y=>(du.mp y).elim id fun y=>absurd (br.mp y) hk⟩
def SO (P:a8)(w:World)(p:Addr)(ws:List Str):HO:=.ext fun h=>IsTS P w h p (fun k=>decide (k∈z1h [] ws)) (z1h [] ws).length
theorem z94 {K:W.Frag}{H:Hp}{B:Ad->Prop}:∀{ws:List Str} {vs:List V} {its:List Value},Vals vs its->Reps K H B vs (ws.map .str)->(∀(i:Nat) (v:Value),its[i]?=some v->∃t,v=Value.str (ws.getD i ⟨#[]⟩) t)/\(∀w∈ws,PyData.strOk w=true)/\its.length=ws.length
 | [],vs,its,r,q=>by have q:vs=[]:=q;subst q;cases r;exact⟨(fun i v h=>by cases h),(fun _ h=>by cases h),rfl⟩
 |w::ws,vs,its,r,q=>by
  obtain⟨v,tl,rfl,q1,q2⟩:=q;cases r with
  |cons r1 r2=>
   obtain⟨rfl,ok⟩:=q1;obtain⟨h1,h2,h3⟩:=z94 r2 q2;obtain⟨t,rfl⟩:=r1;refine⟨fun i v h=>?_,fun z hz=>?_,congrArg (· +1) h3⟩
   ·cases i with
    |zero=>cases h;exact⟨t,rfl⟩
    |succ i=>exact h1 i v h
   ·rcases au.mp hz with rfl|hz
    ·exact ok
    ·exact h2 z hz
section
variable {X:Cx}
def rSet (X:Cx):List V->Hp->VK->Prop:=fun xs H Q=>∃B x ws,xs=[x]/\Rep X.K H B x (.list (ws.map .str))/\ws.length<4000/\((∀w∈ws,PyData.strOk w=true)->∀p,H p=none->Q (.ref p) (upd H p (SO X.prog X.w p ws)))
theorem ztw (hc:X.calm=true):CallR X (.type "set") (rSet X):=by
 intro pins s σ H xs us Q I r h;obtain⟨B,x,ws,rfl,rx,hl,q⟩:=h;obtain⟨a,vs,rfl,hsq,rs⟩:=z1k rx (show z4u (.list (ws.map .str))=.ok (true,ws.map .str)from rfl);obtain⟨u,rfl,ru⟩:=vals1 r;cases ru;obtain⟨its,rv,pl,hz⟩:=I.list hsq;obtain⟨tx,ok,len⟩:=z94 rv rs;refine zcn (val:=fun i=>ws.getD i ⟨#[]⟩) (I.ok.hd hc) pl.isList (fun i v e=>tx i v (by rw[List.getElem?_toArray]at e;exact e)) (by rw[aw,len];unfold nu;omega) fun s' out=>?_;obtain⟨h',tk,rfl,ts,kp⟩:=out;have kp':∀b u,s.heap.get? b=some u->h'.get? b=some u:=fun b u e=>kp b u (bn e) e;have hH:H s.heap.objs.size=none:=I.hok.fresh (am _)
 have ev:(cj its.toArray.size).map (fun i=>ws.getD i ⟨#[]⟩)=ws:=by
  rw[aw,len];refine uh fun i=>?_;rw[bx];by_cases hi:i<ws.length
  ·rw[m8 hi,bc hi];show some (ws.getD i ⟨#[]⟩)=_;rw[a9,bc hi];rfl
  ·rw[qf (by rw[gb];omega),qf (by omega)];rfl
 rw[ev]at ts;have h0:=(z6c ws [] im).2.2;have e0:(fun k=>decide (k∈([]:List Str)),([]:List Str).length)=((fun _=>false,0):(Str->Bool)×Nat):=by congr 1
 rw[e0]at h0;rw[h0]at ts;have o1:∃o,h'.get? s.heap.objs.size=some o:=by obtain⟨es,ep,t,o,x⟩:=ts;exact⟨o,x.at_⟩
 have I2:=I.laid (a:=s.heap.objs.size) (o:=SO X.prog X.w s.heap.objs.size ws) (t':=tk) kp' (am _) ⟨ts,o1,fun h1 h2 x k=>x.keep k⟩;exact⟨.ref s.heap.objs.size,_,I2,rfl,q ok _ hH⟩
theorem znp:CallR X (.builtin "len") (fun xs H Q=>∃p ws,xs=[.ref p]/\H p=some (SO X.prog X.w p ws)/\Q (.int (z1h [] ws).length) H):=by
 intro pins s σ H xs us Q I r h;obtain⟨p,ws,rfl,hH,q⟩:=h;obtain⟨u,rfl,rx⟩:=vals1 r;cases rx;obtain⟨⟨es,ep,t,o,x⟩,_⟩:=I.hok p _ hH;have hc:=x.cnt;have hf:(es.size:Int)<2 ^ 63:=by have:=x.few;unfold nu at this;omega
 exact call_len_set x.at_ x.ex x.dt x.fit hf ⟨.int (z1h [] ws).length,H,I.tok _,⟨s.toks+1,by rw[hc]⟩,q⟩
theorem z9h:∀{xs:List D} {ws:List Str},allS xs=some ws->xs=ws.map .str
 | [],ws,e=>by cases e;rfl
 |x::xs,ws,e=>by
  cases x with
  |str z=>
   change(allS xs).map (z:: ·)=_ at e;cases e1:allS xs with
   |none=>rw[e1]at e;cases e
   |some us=>rw[e1]at e;cases e;rw[z9h e1];rfl
  |_=>cases e
theorem zjp {x d:D}(e:z91 x=.ok d):∃ws,x=.list (ws.map .str)/\ws.length<4000/\d=.int (z1h [] ws).length:=by
 cases x with
 |list xs=>
  change(match allS xs with|some ws=>if decide (ws.length<4000)=true then Res.ok (PyData.int ((z1h [] ws).length:Int))else .no|none=>.no)=_ at e;cases e1:allS xs with
  |none=>rw[e1]at e;cases e
  |some ws=>
   rw[e1]at e
   dsimp only at e
   cases hc:decide (ws.length<4000)with
   |false=>rw[hc]at e;cases e
   |true=>rw[hc]at e;cases e;exact⟨ws,by rw[z9h e1],wb hc,rfl⟩
 |_=>cases e
theorem znk {x y:Str}{p p' pos pos':Pos}{e:Expr}{fa:Rho->Res GD}(hc:X.calm=true)(hm:X.mg x=none)(hv:cu x=some (.builtin "len"))(hg:Gl X x)(hn:x≠"__name__")(hdb:(x==("__debug__":Str))=false)
  (hm':X.mg y=none) (hv':cu y=some (.type "set")) (hg':Gl X y) (hn':y≠"__name__") (hdb':(y==("__debug__":Str))=false) (hs:isStar e=false) (ha:PE X e (tD X.K fa)):
  PE X (.Call (.Name x p) [.Call (.Name y p') [e] [] pos'] [] pos) (tD X.K fun ρ=>fa ρ>>=fun v=>z91 v.2>>=fun d=>.ok (.fr,d)):=
 PE.imp (zd5 znp hm hv (pa_c (zkv (ztw hc) hm' hv' (pa_c ha z2q hs) (by simp[hs]) hg' hn' hdb') z2q rfl) rfl hg hn hdb) fun σ H Q zz=>by obtain⟨ρ,F,z,so,e,q⟩:=zz;obtain⟨v,e1,e⟩:=Res.bind_ok e;obtain⟨d,e2,e⟩:=Res.bind_ok e;cases e;obtain⟨ws,ev,nl,rfl⟩:=zjp e2;refine⟨ρ,F,v,so,e1,fun u H1 s1 ru=>?_⟩;rw[ev]at ru;exact⟨_,u,ws,rfl,ru,nl,fun ok p hp=>⟨p,ws,rfl,z0b,q _ _ (s1.trans (Same.upd hp)) rfl⟩⟩
end
abbrev bmV:List Value:=[.type "ValueError",.type "Exception",.type "BaseException",.type "object"]
abbrev exV (K:W.Frag)(C:Addr):Bool:=W.excIn K C bmV "ValueError.__new__"
def XC (C:Addr)(h:Heap)(bm:List Value):Prop:=∃N nm q bs hdct sn sub ab col dd k0 k1 k2 k3 k5 mN,h.get? C=some (excClassObj nm q C N bs bm hdct sn sub ab col dd k0 k1 k2 k3 k5 "ValueError.__new__")/\h.Ns N mN/\mN "__init__"=none/\OwnTail h bmV bm
theorem z70 {K:W.Frag}{C:Addr}(q:exV K C=true):∃dd cd bm k0 k1 k2 k3 k5,K.lookup C=some ⟨.type "type",dd,.cls cd,#[k0,k1,k2,k3,some (.builtin "ValueError.__new__"),k5]⟩/\cd.mro=.ref C::bm/\cd.hasDel=false/\W.tailIn K bmV bm=true/\W.nsOkIn K cd.ns=true/\W.nsIn K cd.ns "__init__"=some none:=by
 have two:∀{a b:Bool},(a&&b)=true->a=true/\b=true:=bp.mp;unfold exV W.excIn at q;split at q
 ·rename_i dd cd sl ho;split at q
  ·rename_i A bm y0 y1 y2 y3 n y5 hm hs;obtain⟨q,q6⟩:=two q;obtain⟨q,q5⟩:=two q;obtain⟨q,q4⟩:=two q;obtain⟨q,q3⟩:=two q;obtain⟨q1,q2⟩:=two q;have e1:A=C:=wg q1;have e2:n="ValueError.__new__":=wg q2;have e3:sl=#[y0,y1,y2,y3,some (.builtin n),y5]:=Array.toList_inj.mp (by rw[hs]);refine⟨dd,cd,bm,y0,y1,y2,y3,y5,?_,?_,?_,q4,q5,wg q6⟩
   ·rw[ho,e3,e2]
   ·rw[hm,e1]
   ·cases hd:cd.hasDel with
    |false=>rfl
    |true=>rw[hd]at q3;cases q3
  ·cases q
 ·cases q
theorem za0 {K:W.Frag}{C:Addr}{dd:Option Addr}{cd:ClassData}{sl:Array (Option Value)}{bm:List Value}{v:Value}{b:Bool}(ho:K.lookup C=some ⟨.type "type",dd,.cls cd,sl⟩)(hm:cd.mro=.ref C::bm)(e:W.subIn K (.ref C) v=some b):(Value.ref C::bm).contains v=b:=by
 have e:W.mroIn K C v=some b:=e;unfold W.mroIn W.clsIn at e;rw[ho]at e
 dsimp only[Option.bind_some]at e
 rw[hm]at e;exact Option.some.inj e
theorem XC.mk {K:W.Frag}{C:Addr}{h:Heap}(X:K.In h)(q:exV K C=true):∃bm,XC C h bm/\∀v b,W.subIn K (.ref C) v=some b->(Value.ref C::bm).contains v=b:=by
 obtain⟨dd,cd,bm,k0,k1,k2,k3,k5,ho,hm,hd,ht,hk,hi⟩:=z70 q;refine⟨bm,⟨cd.ns,cd.name,cd.qualname,cd.bases,cd.hasDict,cd.slotNames,cd.subclasses,cd.abstract,cd.collection,dd,k0,k1,k2,k3,k5,h.nsMap cd.ns,?_,.of_isNs (W.isNs_of_in X hk),W.nsMap_none_of_in X hk hi,W.tail_of_in X ht⟩,fun v b e=>za0 ho hm e⟩;have h2:=X _ _ ho;cases cd
 dsimp only at hm hd
 rw[hm,hd]at h2;exact h2
section
variable {M:Model}{A:b7}{E:Value->ac->Prop}{h:Heap}{g:Array o7}{d:Drawn}{t:Nat}{os:oo}{C B e:Addr}{bm bm':List Value}{oe:Obj}{Q:Bool->ac->Prop}
theorem zcp {l:List Value}(T:OwnTail h bmV l):l.contains (.type "BaseException")=true:=T.hasType rfl
theorem zhj (hC:XC C h bm)(hB:XC B h bm')(he:h.get? e=some oe)(hc:oe.cls=.ref C)(hin:(Value.ref C::bm).contains (.ref B)=true)(hq:Q true ⟨h,g,d,t,os⟩):wpAny M A (excMatches (.ref e) (.ref B)) Q E ⟨h,g,d,t,os⟩:=by
 obtain⟨_,_,_,_,_,_,_,_,_,_,_,_,_,_,_,_,oC,_,_,_⟩:=hC;obtain⟨_,_,_,_,_,_,_,_,_,_,_,_,_,_,_,_,oB,_,_,tB⟩:=hB;have hcB:(Value.ref B::bm').contains (.type "BaseException")=true:=by rw[t8,zcp tB,qa]
 have f:=tc_notTuple;unfold excMatches
 repeat (first|(with_reducible refine j0 he ?_;rw[hc])|with_reducible refine j0 oB ?_|(with_reducible refine rz oB ?_;rw[hcB])|(with_reducible refine rz oC ?_;rw[hin])|wp_step)
 exact hq
end
section
variable {prog:a8}{w:World}{A:b7}{E:Value->ac->Prop}{K:W.Frag}{h:Heap}{g:Array o7}{d:Drawn}{t:Nat}{os:oo}{C e:Addr}{oe:Obj}
structure XA (K:W.Frag)(C:Addr):Prop where
 cl:W.findIn K (.ref C) "__class__"=some (some (.builtin "object.__class__"))
 ga:W.findIn K (.ref C) "__getattribute__"=some (some (.builtin "BaseException.__getattribute__"))
 gt:W.findIn K (.ref C) "__getattr__"=some none
 ob:W.subIn K (.ref C) (.type "object")=some true
 be:W.subIn K (.ref C) (.type "BaseException")=some true
 ty:W.typeIn K (.ref C)=some (.type "type")
 is:(W.clsIn K C).isSome=true
 ex:exV K C=true
theorem z83 {M:Model}(he:h.get? e=some oe)(hc:oe.cls=.ref C):W.Looks M h (uw (.ref e)) (.ref C):=by intro A Q E s k q;unfold uw;refine aa (wpAny_loadPart (k _ _ he) ?_);rw[hc];exact af q
theorem zvd {R:uu->ac->Prop}{tp:Value}(X:K.In h)(a:XA K C)(he:h.get? e=some oe)(hc:oe.cls=.ref C)(hq:R (.ok (.ret (.ref C))) ⟨h,g,d,t,os⟩):
  ku (model prog w) A (.call (.builtin "getset_descriptor.__get__") ⟨[.builtin "object.__class__",.ref e,tp],[]⟩) R ⟨h,g,d,t,os⟩:=by
 have l0:=z83 (M:=model prog w) he hc;have l1:=W.looks_subIn (M:=model prog w) X a.ob;refine mq W.KF.slot_gs.plain W.KF.entry_gs ?_;refine W.KF.slot_gs.check _ _ _ _ _ _ _ _ W.KF.type_class (W.KF.args_gs _ _ _) ?_;unfold Builtin.«getset_descriptor.__get__» Builtin.Getset_descriptor.descrGet;rw[W.dga_obj];refine aa (af ?_);unfold Builtin.Getset_descriptor.descrGetter Builtin.Getset_descriptor.descrCheckInstance Builtin.Getset_descriptor.descrNameAndClass vz;simp only[W.KF.owner_class]
 repeat lk
 refine⟨Code.quiet_builtin _ (by decide+kernel),?_⟩;refine ge W.KF.entry_class ?_;unfold Builtin.«object.__class__»;unfold shownTypeOf;repeat lk
 exact hq
theorem zly {tk:Tok}{Q:Fin->ac->Prop}(X:K.In h)(a:XA K C)(he:h.get? e=some oe)(hc:oe.cls=.ref C)(hq:Q (.done (.ret (.ref C))) ⟨h,g,d,t,os⟩):
  wpAny (model prog w) A (Builtin.«object.__getattribute__» ⟨[.ref e,.str "__class__" tk],[]⟩) Q E ⟨h,g,d,t,os⟩:=by
 have hT:(⟨h,g,d,t,os⟩:ac).TypeIs (.builtin "object.__class__") "getset_descriptor":=F.typeOf_object_class;have⟨f5,f6,f7⟩:=And.intro F.typeOf_object_class (And.intro F.slot_gs_get.lookup F.slot_gs_set.lookup);have l0:=W.looks_findIn (M:=model prog w) X a.cl
 repeat (any_goals (first|assumption|(with_reducible refine j0 he ?_;rw[hc])|with_reducible refine l0.at ?_|wp_step))
 refine zvd X a he hc ?_
 repeat' first|assumption|wp_step
theorem x_call {tk:Tok}{R:uu->ac->Prop}(X:K.In h)(a:XA K C)(he:h.get? e=some oe)(hc:oe.cls=.ref C)(hq:R (.ok (.ret (.ref C))) ⟨h,g,d,t,os⟩):
  ku (model prog w) A (.call (.builtin "BaseException.__getattribute__") ⟨[.ref e,.str "__class__" tk],[]⟩) R ⟨h,g,d,t,os⟩:=by
 refine mq F.excAttr_ValueError.ga.plain F.entry_bexc_ga ?_;have l1:=W.looks_subIn (M:=model prog w) X a.be;have ar:=F.args_bexc_ga (.ref e) (.str "__class__" tk);have z1:builtinKind "BaseException.__getattribute__"=some .slot:=by decide+kernel
 have z2:splitId "BaseException.__getattribute__"=some ("BaseException","__getattribute__"):=by decide+kernel
 simp only[checkBuiltinCall,z1,z2];refine aa ?_;unfold vz
 repeat (first|(with_reducible refine zly X a he hc ?_;exact hq)|(with_reducible refine j0 he ?_;rw[hc])|with_reducible refine l1.at ?_|wp_step)
theorem x_by {tk:Tok}{Q:Value->ac->Prop}(X:K.In h)(a:XA K C)(he:h.get? e=some oe)(hc:oe.cls=.ref C)(hq:Q (.ref C) ⟨h,g,d,t,os⟩):
  wpAny (model prog w) A (getAttrBy (.ref e) (.str "__class__" tk) false) Q E ⟨h,g,d,t,os⟩:=by
 have f3:=F.excAttr_ValueError.ga.bind (.ref e);have x2:(Value.builtin "BaseException.__getattribute__"==Value.builtin "object.__getattribute__")=false:=by decide+kernel
 have x1:(onTheHeap (Value.ref C)&&Value.builtin "BaseException.__getattribute__"==Value.builtin "object.__getattribute__")=false:=by rw[x2];rfl
 have l1:=W.looks_findIn (M:=model prog w) X a.ga;have l2:=W.looks_findIn (M:=model prog w) X a.gt
 repeat (any_goals (first|assumption|(with_reducible refine j0 he ?_;rw[hc])|with_reducible refine l1.at ?_|with_reducible refine l2.at ?_|wp_step))
 refine x_call X a he hc ?_
 repeat' first|assumption|wp_step
theorem zne {Q:Option Value->ac->Prop}(X:K.In h)(a:XA K C)(he:h.get? e=some oe)(hc:oe.cls=.ref C)(hq:Q (some (.ref C)) ⟨h,g,d,t+1,os⟩):wpAny (model prog w) A (qo (.ref e) "__class__") Q E ⟨h,g,d,t,os⟩:=by
 unfold qo getAttrBy?
 repeat (any_goals (first|assumption|with_reducible apply x_by X a he hc|wp_step))
theorem zo8 {b:Bool}(q:exV K C=true)(e:W.subIn K (.ref C) (.ref C)=some b):b=true:=by obtain⟨dd,cd,bm,k0,k1,k2,k3,k5,ho,hm,_⟩:=z70 q;rw[<-za0 ho hm e,t8,beq_self_eq_true,pv]
structure XV (K:W.Frag)(v:Value):Prop where
 ty:∀(M:Model) (h:Heap),K.In h->W.Looks M h (uw v) (.type "type")
 is:∀(M:Model) (h:Heap),K.In h->W.Looks M h (isType v) true
theorem z96 {M:Model}{D:Addr}(X:K.In h)(q:(W.clsIn K D).isSome=true):W.Looks M h (isType (.ref D)) true:=by
 unfold W.clsIn at q;split at q
 ·rename_i ho;intro A Q E s k z;unfold isType;refine aa (tm (k _ _ (X _ _ ho)) ?_);exact af z
 ·cases q
theorem XV.own {D:Addr}(t:W.typeIn K (.ref D)=some (.type "type"))(q:(W.clsIn K D).isSome=true):XV K (.ref D):=⟨fun M h X=>W.looks_typeIn X t,fun M h X=>z96 X q⟩
theorem XV.val:XV K (.type "ValueError"):=⟨fun M h X=>W.Looks.of_pure (by kernel_rfl),fun M h X=>W.Looks.of_pure rfl⟩
theorem zvh {v:Value}{b:Bool}{dep:Int}{tk:Tok}{Q:Fin->ac->Prop}(X:K.In h)(a:XA K C)(he:h.get? e=some oe)(hc:oe.cls=.ref C)(hv:XV K v)(hs:W.subIn K (.ref C) v=some b)(h1:Q (.done (.ret (.bool b))) ⟨h,g,d,t,os⟩)(h2:Q (.done (.ret (.bool b))) ⟨h,g,d,t+1,os⟩):
  wpAny (model prog w) A (Builtin.«isinstance.nested» ⟨[.ref e,v,.int dep tk],[]⟩) Q E ⟨h,g,d,t,os⟩:=by
 have l0:=z83 (M:=model prog w) he hc;have l1:=hv.ty (model prog w) h X;have l2:=hv.is (model prog w) h X;have l4:=W.looks_subIn (M:=model prog w) X hs;have l3:W.Looks (model prog w) h (vz (.ref e) v) b:=l0.andThen l4;have l5:=z96 (M:=model prog w) X a.is;unfold Builtin.«isinstance.nested»;refine aa (l0.at ?_);by_cases q:(Value.ref C==v)=true
 ·rw[if_pos q];have hb:b=true:=by cases wg q;exact zo8 a.ex hs
  subst hb;exact aa (jr (aa (af (af h1))))
 ·rw[if_neg q];refine aa (l1.at ?_);rw[if_pos (beq_self_eq_true _)]
  k_delta "plainIsInstance"
  refine aa (aa (l2.at ?_));rw[if_neg (by decide)];refine aa (l3.at ?_);cases b with
  |true=>rw[if_pos rfl];exact af (af h1)
  |false=>rw[if_neg (by decide)];refine aa (zne X a he hc ?_);refine aa (l5.at ?_);rw[if_neg (by decide)];refine aa (jr ?_);exact l4.at (af h2)
theorem zsd {v:Value}{b:Bool}{Q:Value->ac->Prop}{s:ac}(X:K.In s.heap)(a:XA K C)(he:s.heap.get? e=some oe)(hc:oe.cls=.ref C)(hv:XV K v)(hs:W.subIn K (.ref C) v=some b)(hq:∀t',Q (.bool b) {s with toks:=t'}):
  wpAny (model prog w) A (call (.builtin "isinstance") [.ref e,v]) Q E s:=
 call_isinstance (S:=fun _ R s=>(K.In s.heap/\s.heap.get? e=some oe)/\∀t',R (.ok (.ret (.bool b))) {s with toks:=t'}) (fun _ _ _ _ s hs'=>isinstance_outer (by obtain⟨h,g,d,t,os⟩:=s;exact zvh hs'.1.1 a hs'.1.2 hc hv hs (hs'.2 t) (hs'.2 (t+1))) nofun) ⟨⟨X,he⟩,hq⟩
end
structure Fly (P:a8)(w:World)(base:Heap)(outer:List Env)(H:Hp)(s:ac)(C a:Addr)(H':Hp)(s':ac):Prop where
 os:s'.os=s.os
 bare:m9 s'.gens
 same:Same H H'
 free:∀b o,s.heap.get? b=some o->H b=none->H' b=none
 hh:∃B t,base.StaysIn B/\HOk P w H' B/\(∀b o,s.heap.get? b=some o->H b=none->b∉frs outer->B.get? b=some o)/\Heap.FlyingW B outer a (.ref C) (.ref t) s'.heap
 slot:∀b o,s.heap.get? b=some o->H b=none->b∈frs outer->∃sl,s'.heap.get? b=some {o with slots:=sl}
def CXE (P:a8)(w:World)(base:Heap):CXT:=fun outer H s E e s'=>∃a C H',e=.ref a/\Fly P w base outer H s C a H' s'/\E (.ref C) none H'
theorem z6q {P:a8}{w:World}{H:Hp}{h:Heap}{a:Addr}{o:HO}(x:z0s P w H h a o):∃ob,h.get? a=some ob:=by
 cases o with
 |lst xs=>obtain⟨_,_,_,_,e⟩:=x;exact⟨_,e⟩
 |tup xs=>obtain⟨_,_,_,_,e⟩:=x;exact⟨_,e⟩
 |dK kvs=>obtain⟨_,_,_,_,o,_,_,e,_⟩:=x;exact⟨_,e⟩
 |own y=>exact x
 |frz ob u=>exact⟨_,x.1⟩
 |tbl ps=>exact⟨_,x⟩
 |ext φ=>exact x.2.1
section
variable {P:a8}{w:World}{base:Heap}{outer:List Env}{H H':Hp}{s s':ac}{C a:Addr}
theorem Fly.hok (f:Fly P w base outer H s C a H' s'):HOk P w H' s'.heap:=by obtain⟨B,t,_,hB,_,fl⟩:=f.hh;exact hB.kept fl.1
theorem Fly.un (f:Fly P w base outer H s C a H' s'):Un (frs outer) [] H H' s.heap s'.heap:=by
 obtain⟨B,t,_,hB,cov,fl⟩:=f.hh;refine⟨fun b o e n hb _=>fl.1 b o (cov b o e n hb),fun b o e n hb _=>f.slot b o e n hb,fun b o e n _=>f.free b o e n,fun b o e _=>?_,fun b xs e=>f.same b _ e,fun b o u e=>f.same b _ e,fun b ps e=>⟨#[],by rw[f.same b _ e,Array.append_empty]⟩⟩;cases hn:H b with
 |some u=>exact z6q (f.hok b u (f.same b u hn))
 |none=>
  by_cases hb:b∈frs outer
  ·obtain⟨sl,q⟩:=f.slot b o e hn hb;exact⟨_,q⟩
  ·exact⟨o,fl.1 b o (cov b o e hn hb)⟩
end
section
variable {X:Cx}{pins:List (Addr×Obj)}{σ:L2.St}{H H':Hp}{s s':ac}{C a:Addr}
theorem Fly.inv (f:Fly X.prog X.w X.base X.stack H s C a H' s')(I:Inv X pins σ H s):Inv X pins σ H' s':=by obtain⟨h',g,d,t,o⟩:=s';obtain rfl:o=s.os:=f.os;exact I.call (h':=h') (g':=g) (d':=d) (t':=t) (ch:=[]) f.un f.hok f.bare fun b z=>nomatch z
theorem Fly.leave {M:Model}{outer:List Env}{Q:Unit->ac->Prop}{E:Value->ac->Prop}(f:Fly X.prog X.w X.base X.stack H s C a H' s')(I:Inv X pins σ H s)(hs:X.stack=X.env::X.outer)(hf:X.env.frame=some X.env.locals)(hx:X.ex=[])(hS:Same X.H₀ H')
  (hQ:∀s'',Fly X.prog X.w X.base X.outer X.H₀ X.s₀ C a H' s''->Q () s''):wpAny M X.A (leaving X.env (.ref a)) Q E s':=by
 obtain⟨B,t,hb,hB,cov,fl⟩:=f.hh;rw[hs]at fl;have hfr:X.A.frames=some (X.env::X.outer):=by rw[<-hs];exact I.ok.frames
 refine wpAny_leaves_onW hfr hf fl fun h' fl' up=>hQ _ ⟨f.os.trans I.os,f.bare,hS,fun b o e n=>?_,⟨B,t,hb,hB,fun b o e n hn=>?_,fl'⟩,fun b o e n hn=>?_⟩
 ·have nx:b∉X.ex:=by rw[hx];simp
  obtain⟨o',e'⟩:=I.base.there b o e nx;exact f.free b o' e' (I.base.free b o e n nx)
 ·have nx:b∉X.ex:=by rw[hx];simp
  refine cov b o (I.base.keep b o e n hn nx) (I.base.free b o e n nx) ?_;rw[hs];intro z;unfold frs at z hn;rw[dg,hf]at z;rcases au.mp z with z|z
  ·exact absurd (bn e) (by rw[z];exact Nat.not_lt.mpr I.ok.above)
  ·exact hn z
 ·have nx:b∉X.ex:=by rw[hx];simp
  obtain⟨sl,e1⟩:=I.base.slot b o e n hn nx;have hst:b∈frs X.stack:=by rw[hs];unfold frs;rw[dg,hf];exact aq _ hn
  obtain⟨sl2,e2⟩:=f.slot b _ e1 (I.base.free b o e n nx) hst;obtain⟨_,o3,e3,nd⟩:=I.ok.funs.mem hn;rw[e]at e3;cases e3;obtain⟨sl3,e4⟩:=up b _ e2 nd;exact⟨sl3,e4⟩
theorem zgj {P:a8}{w:World}{H:Hp}{h:Heap}{l:List Addr}(x:HOk P w H h)(n:∀b∈l,H b=none):HOk P w H (W.hideAll h l):=fun b o e=>by
 refine(x b o e).stay (fun c u hc q=>W.hideAll_get _ q fun z=>?_) (fun _ q=>q) fun _ _ q=>q;rcases hc with rfl|hc
 ·rw[n c z]at e;cases e
 ·rw[n c z]at hc;cases hc
theorem zat {M:Model}{Q:Unit->ac->Prop}{E:Value->ac->Prop}{args:List Value}{h1:Heap}(I:Inv X pins σ H s)(hm:Heap.MadeExcOf s.heap h1 a (.ref C) args)(hs:X.stack=X.env::X.outer)(hf:X.env.frame=some X.env.locals)(hx:X.ex=[])(hS:Same X.H₀ H)
  (hQ:∀s'',Fly X.prog X.w X.base X.outer X.H₀ X.s₀ C a H s''->Q () s''):wpAny M X.A (leaving X.env (.ref a)) Q E {s with heap:=h1}:=by
 have hfr:X.A.frames=some (X.env::X.outer):=by rw[<-hs];exact I.ok.frames
 have nx:∀b,b∉X.ex:=fun b=>by rw[hx];simp
 have hst:=I.stack;rw[hs]at hst;have hfree:∀b∈frs (X.env::X.outer),H b=none:=fun b hb=>I.stkFree b (by rw[hs];exact hb);have hin:∀env∈X.env::X.outer,∀b,env.frame=some b->b∈frs (X.env::X.outer):=fun env he b hb=>gf.mpr ⟨env,he,hb⟩
 have notF:∀b o,X.s₀.heap.get? b=some o->b∉frs X.outer->b∉frs (X.env::X.outer):=fun b o e hn z=>by
  unfold frs at z hn;rw[dg,hf]at z;rcases au.mp z with z|z
  ·exact absurd (bn e) (by rw[z];exact Nat.not_lt.mpr I.ok.above)
  ·exact hn z
 have hbase:X.base.StaysIn (W.hideAll s.heap (frs (X.env::X.outer))):=fun b o e=>W.hideAll_get _ (I.bk b o e) (notF b o (I.ok.bs b o e).1 (I.ok.nofr e));refine wpAny_leaves_madeW (base:=W.hideAll s.heap (frs (X.env::X.outer))) (h:=s.heap) hfr hf (fun b o q=>W.of_hideAll _ q) (W.funFrames_hide hst hin) hm fun h' t fl _ _ up=>hQ _ ⟨I.os,I.bare,hS,fun b o e n=>I.base.free b o e n (nx b),⟨_,t,hbase,zgj I.hok hfree,fun b o e n hn=>W.hideAll_get _ (I.base.keep b o e n hn (nx b)) (notF b o e hn),fl⟩,fun b o e n hn=>?_⟩;obtain⟨sl,e1⟩:=I.base.slot b o e n hn (nx b);obtain⟨_,o3,e3,nd⟩:=I.ok.funs.mem hn;rw[e]at e3;cases e3;obtain⟨sl3,e4⟩:=up b _ (hm.keeps _ _ e1) nd;exact⟨sl3,e4⟩
end
structure Lv (X:Cx)(H0:Hp)(c:Str):Prop where
 made:∀pins σ H s a C args h',Inv X pins σ H s->X.mg c=some (.ref C)->Same H0 H->Heap.MadeExcOf s.heap h' a (.ref C) args->X.xe (.ref a) {s with heap:=h'}
 fly:∀pins σ H s a C H' s',Inv X pins σ H s->X.mg c=some (.ref C)->Same H0 H'->Fly X.prog X.w X.base X.stack H s C a H' s'->X.xe (.ref a) s'
theorem Lv.mono {X:Cx}{H0 H1:Hp}{c:Str}(l:Lv X H0 c)(h:Same H0 H1):Lv X H1 c:=⟨fun pins σ H s a C args h' I m z=>l.made pins σ H s a C args h' I m (h.trans z),fun pins σ H s a C H' s' I m z=>l.fly pins σ H s a C H' s' I m (h.trans z)⟩
def Rz (X:Cx)(f:Rho->Option Str)(σ:L2.St)(H:Hp):Prop:=∃ρ F c,StOk X.K F H σ ρ/\f ρ=some c/\Lv X F.H0 c
def tR (X:Cx)(f:Rho->Option Str):TE:=fun σ H _=>Rz X f σ H
def tRT (X:Cx)(f:Rho->Option Str):TT:=fun σ H _=>Rz X f σ H
def tRA (X:Cx)(f:Rho->Option Str):TA:=fun σ H _=>Rz X f σ H
def tRS (X:Cx)(f:Rho->Option Str):TS:=fun _ σ H=>Rz X f σ H
def spX (K:W.Frag)(mg:Str->Option Value)(n:Nat)(m:Fn):Sp:=fun vs H _ E=>∃A ds c,vs.length=n/\Reps K H A vs ds/\excOf (m ds)=some c/\∀C H',mg c=some (.ref C)->Same H H'->E (.ref C) none H'
def CalX (P:a8)(w:World)(K:W.Frag)(mg:Str->Option Value)(base:Heap)(k:Nat)(x:Str)(ps:List Str)(n:Nat)(m:Fn):Prop:=∃f fd,FnOk P w K mg base (CXE P w base) k f fd ps (spX K mg n m)/\mg x=some (.ref f)/\W.keepIn K (.ref f)=true/\Binds K fd ps []
section
variable {X:Cx}{e:Expr}{es:List Expr}{pos:Pos}
theorem z7i {f:Rho->Option Str}(h:∀ρ,f ρ=none)(σ:L2.St)(H:Hp):¬Rz X f σ H:=fun⟨ρ,F,c,_,e,_⟩=>by rw[h ρ]at e;cases e
theorem z58 {x c:Str}{k k' n:Nat}{ps:List Str}{m:Fn}{fs:Rho->Res (List GD)}{p:Pos}{pins:List (Addr×Obj)}{s:ac}{σ:L2.St}{H:Hp}{ρ:Rho}{F:Fm}{ys:List GD}(Cc:CalX X.prog X.w X.K X.mg X.base k x ps n m)(hr:Room k' X.A)(hk:k<=k')(ha:PA X (e::es) (tDA X.K fs))(hst:((e::es).all fun e=> !isStar e)=true)(hg:Gl X x)(hdb:(x==("__debug__":Str))=false)
  (hl:∀ρ ys,fs ρ=.ok ys->ys.length=n) (I:Inv X pins σ H s) (so:StOk X.K F H σ ρ) (e2:fs ρ=.ok ys) (e3:excOf (m (ys.map (·.2)))=some c)
  (hE:∀H1 s1 C a H' s',Inv X pins σ H1 s1->Same H H1->X.mg c=some (.ref C)->Fly X.prog X.w X.base X.stack H1 s1 C a H' s'->X.xe (.ref a) s'):wpAny (model X.prog X.w) X.A (eval (.Call (.Name x p) (e::es) [] pos) X.env) (fun _ _=>False) X.xe s:=by
 obtain⟨f,fd,Fo,hm,kp,b⟩:=Cc;rw[dw,ba]at hst;refine ik (z4d I hg hm ?_ hdb);refine W.callWith_K (h₀:=X.base) I.ok.mod.kin kp (thn (ha pos pins s σ H (fun vs H1=>Same H H1/\RGs X.K F H H1 vs ys) I ⟨ρ,F,ys,so,e2,fun vs H1 s1 rg=>⟨s1,rg⟩⟩) fun us s1 zz=>?_) (z0j (by simpa using hst.1)) (z1q hst.2);obtain⟨vs,H1,I1,r,z1,rg⟩:=zz;refine⟨I1.kIn,?_⟩;have hsp:spX X.K X.mg n m vs H1 (fun _ _=>False) (fun v _ H'=>X.mg c=some v):=⟨_,_,c,by rw[rg.len];exact hl ρ ys e2,rg.repsV so.vis,e3,fun C H' hC _=>hC⟩;have hlen:us.length=ps.length:=by rw[<-r.length];exact Fo.len _ _ _ _ hsp
 have hb:=b s1 us I1.kIn (by rw[d8];exact hlen);rw[d8]at hb;refine vh (lj (Fo.run X.A X.stack s1 H1 ⟨us,[]⟩ us vs _ _ (hr.mono hk) I1.env0 hb r hsp) fun rr s' hq=>?_);cases rr with
 |error e'=>obtain⟨a,C,H',rfl,fl,q1⟩:=hq;exact hE H1 s1 C a H' s' I1 z1 q1 fl
 |ok fl=>
  cases fl with
  |ret u=>obtain⟨_,_,_,_,_,_,_,z⟩:=hq;exact z.elim
  |next=>exact hq.elim
  |brk=>exact hq.elim
  |cont=>exact hq.elim
theorem zkj {x:Str}{k k' n:Nat}{ps:List Str}{m:Fn}{fs:Rho->Res (List GD)}{fx:Rho->Option Str}{p:Pos}(Cc:CalX X.prog X.w X.K X.mg X.base k x ps n m)(hr:Room k' X.A)(hk:k<=k')(ha:PA X (e::es) (tDA X.K fs))(hx:PA X (e::es) (tRA X fx))(hst:((e::es).all fun e=> !isStar e)=true)(hg:Gl X x)(hdb:(x==("__debug__":Str))=false)
  (hl:∀ρ ys,fs ρ=.ok ys->ys.length=n):PE X (.Call (.Name x p) (e::es) [] pos) (tR X fun ρ=>match fs ρ with|.ok ys=>excOf (m (ys.map (·.2)))|_=>fx ρ):=by
 intro pins s σ H Q I hq;obtain⟨ρ,F,c,so,e1,lv⟩:=hq;have e1:(match fs ρ with|.ok ys=>excOf (m (ys.map (·.2)))|_=>fx ρ)=some c:=e1
 have raw:(∃ys,fs ρ=.ok ys/\excOf (m (ys.map (·.2)))=some c)\/fx ρ=some c:=by
  cases e2:fs ρ with
  |ok ys=>rw[e2]at e1;exact .inl ⟨ys,rfl,e1⟩
  |exc z=>rw[e2]at e1;exact .inr e1
  |no=>rw[e2]at e1;exact .inr e1
 rcases raw with⟨ys,e2,e3⟩|e2
 ·exact thn (z58 Cc hr hk ha hst hg hdb hl I so e2 e3 fun H1 s1 C a H' s' I1 z1 q1 fl=>lv.fly pins σ H1 s1 a C H' s' I1 q1 (Same.trans so.ext (z1.trans fl.same)) fl) fun _ _ z=>z.elim
 ·obtain⟨f,fd,Fo,hm,kp,b⟩:=Cc;rw[dw,ba]at hst;refine ik (z4d I hg hm ?_ hdb);refine W.callWith_K (h₀:=X.base) I.ok.mod.kin kp (thn (hx pos pins s σ H (fun _ _=>False) I ⟨ρ,F,c,so,e2,lv⟩) fun us s1 q=>?_) (z0j (by simpa using hst.1)) (z1q hst.2);obtain⟨vs,H1,I1,r,q⟩:=q;exact q.elim
theorem zjc {fa:Rho->Res GD}{fx fr:Rho->Option Str}(hs:isStar e=false)(ha:PE X e (tD X.K fa))(hx:PE X e (tR X fx))(hr:PA X es (tRA X fr)):PA X (e::es) (tRA X fun ρ=>match fa ρ with|.ok _=>fr ρ|_=>fx ρ):=by
 intro pos pins s σ H Q I hq;obtain⟨ρ,F,c,so,e1,lv⟩:=hq;have e1:(match fa ρ with|.ok _=>fr ρ|_=>fx ρ)=some c:=e1
 have raw:(∃y,fa ρ=.ok y/\fr ρ=some c)\/fx ρ=some c:=by
  cases e2:fa ρ with
  |ok ys=>rw[e2]at e1;exact .inl ⟨ys,rfl,e1⟩
  |exc z=>rw[e2]at e1;exact .inr e1
  |no=>rw[e2]at e1;exact .inr e1
 rw[z0j hs];show wpAny _ _ (spliced ((false,eval e X.env)::li pos (dn es X.env))) _ _ s;rcases raw with⟨y,e2,e3⟩|e2
 ·refine ny (thn (ha pins s σ H (fun v H1=>Same H H1) I ⟨ρ,F,y,so,e2,fun v H1 s1 _=>s1⟩) fun u s1 zz=>?_);obtain⟨v,H1,I1,r1,q1⟩:=zz;exact thn (hr pos pins s1 σ H1 (fun _ _=>False) I1 ⟨ρ,F,c,so.same q1,e3,lv⟩) fun us s2 zz=>by obtain⟨_,_,_,_,z⟩:=zz;exact z.elim
 ·exact ny (thn (hx pins s σ H (fun _ _=>False) I ⟨ρ,F,c,so,e2,lv⟩) fun u s1 zz=>by obtain⟨_,_,_,_,z⟩:=zz;exact z.elim)
theorem zr7 {a:Expr}{f:Rho->Option Str}(ha:PT X a (tRT X f)):PT X (.UnaryOp .Not a pos) (tRT X f):=PT.imp (zik ha) fun σ H Q z=>z
theorem zow {f:Rho->Option Str}(ha:PE X e (tR X f))(he:∀whole,qi e X.env whole=(do let v <-whole;vc e.pos;nc [v] (vf v))):PT X e (tRT X f):=PT.imp (zn5 ha he) fun σ H Q z=>z
theorem zkm {f:Rho->Option Str}(hs:z21 e=false)(ha:PE X e (tR X f)):PS X (.Expr e pos) (tRS X f):=PS.imp (ps_e ha hs) fun D σ H z=>z
theorem znf {f:Rho->Option Str}{i:Nat}{x:Str}{px:Pos}(hN:X.N.Nodup)(hi:X.N[i]?=some x)(hx:Loc X.env.scope x)(hf:X.fn x=true\/X.env.scope.names.lookup x=some .local)(hs:z21 e=false)(ha:PE X e (tR X f)):PS X (.Assign [.Name x px] e pos) (tRS X f):=PS.imp (ps_s hN hi hx ha hs hf) fun D σ H z=>z
theorem zok {f:Rho->Option Str}(ha:PE X e (tR X f)):PS X (.Return (some e) pos) (tRS X f):=PS.imp (z9v ha) fun D σ H z=>z
theorem zth {c:Expr}{A B:List Stmt}{ft:Rho->Res Bool}{fx fa fb:Rho->Option Str}(hc:PT X c (tDT X.K ft))(hx:PT X c (tRT X fx))(ha:PSs X A (tRS X fa))(hb:PSs X B (tRS X fb)):PS X (.If c A B pos) (tRS X fun ρ=>match ft ρ with|.ok k=>if k then fa ρ else fb ρ|_=>fx ρ):=by
 intro pins s σ H D I hq;obtain⟨ρ,F,cl,so,e1,lv⟩:=hq;have e1:(match ft ρ with|.ok k=>if k then fa ρ else fb ρ|_=>fx ρ)=some cl:=e1
 have raw:(∃k,ft ρ=.ok k/\(if k then fa ρ else fb ρ)=some cl)\/fx ρ=some cl:=by
  cases e2:ft ρ with
  |ok ys=>rw[e2]at e1;exact .inl ⟨ys,rfl,e1⟩
  |exc z=>rw[e2]at e1;exact .inr e1
  |no=>rw[e2]at e1;exact .inr e1
 rcases raw with⟨k,e2,e3⟩|e2
 ·refine zn4 hc ha hb pins s σ H D I ⟨ρ,F,k,so,e2,fun H1 s1=>?_⟩;cases k with
  |true=>exact iteT ⟨ρ,F,cl,so.same s1,e3,lv⟩
  |false=>exact iteF ⟨ρ,F,cl,so.same s1,e3,lv⟩
 ·exact wpAny_If (thn (hx pins s σ H (fun _ _=>False) I ⟨ρ,F,cl,so,e2,lv⟩) fun d s1 zz=>by obtain⟨_,_,z⟩:=zz;exact z.elim)
theorem zo2 {st:Stmt}{rest:List Stmt}{fs:Rho->Res Out}{fx gx:Rho->Option Str}(h1:PS X st (tDS X.K fs))(hx:PS X st (tRS X fx))(h2:PSs X rest (tRS X gx)):PSs X (st::rest) (tRS X fun ρ=>match fs ρ with|.ok (.nx ρ')=>gx ρ'|.ok _=>none|_=>fx ρ):=by
 intro pins s σ H D I hq;obtain⟨ρ,F,cl,so,e1,lv⟩:=hq;have e1:(match fs ρ with|.ok (.nx ρ')=>gx ρ'|.ok _=>none|_=>fx ρ)=some cl:=e1
 have raw:(∃ρ',fs ρ=.ok (.nx ρ')/\gx ρ'=some cl)\/fx ρ=some cl:=by
  cases e2:fs ρ with
  |ok o=>
   rw[e2]at e1;cases o with
   |nx ρ'=>exact .inl ⟨ρ',rfl,e1⟩
   |rt=>cases e1
  |exc z=>rw[e2]at e1;exact .inr e1
  |no=>rw[e2]at e1;exact .inr e1
 rcases raw with⟨ρ',e2,e3⟩|e2
 ·exact z3z h1 h2 pins s σ H D I ⟨ρ,F,_,so,e2,fun σ' H' F' so' r f=>⟨ρ',F',cl,so',e3,lv.mono r.1⟩⟩
 ·refine ly (thn (hx pins s σ H ⟨fun _ _=>False,fun _ _=>False,fun _ _=>False,fun _ _=>False⟩ I ⟨ρ,F,cl,so,e2,lv⟩) fun f s1 q=>?_);cases f with
  |next=>obtain⟨_,_,_,z⟩:=q;exact z.elim
  |brk=>obtain⟨_,_,_,z⟩:=q;exact z.elim
  |cont=>obtain⟨_,_,_,z⟩:=q;exact z.elim
  |ret u=>obtain⟨_,_,_,_,_,z⟩:=q;exact z.elim
theorem zn3:PSs X [] (tRS X fun _=>none):=fun pins s σ H D I hq=>(z7i (fun _=>rfl) σ H hq).elim
theorem zk0 {x z:Str}{np cp kp:Pos}{kk:Nat}{C:Addr}(hh:X.A.handled=none)(hg:Gl X x)(hm:X.mg x=some (.ref C))(hdb:(x==("__debug__":Str))=false)(hC:exV X.K C=true):PS X (.Raise (some (.Call (.Name x np) [.Constant (.str z) kk kp] [] cp)) none pos) (tRS X fun _=>some x):=by
 intro pins s σ H D I hq;obtain⟨ρ,F,c,so,e1,lv⟩:=hq;cases e1;obtain⟨bm,⟨N,nm,q,bs,hdct,sn,sub,ab,col,dd,k0,k1,k2,k3,k5,mN,oC,hN,hni,T⟩,_⟩:=XC.mk I.mod.kin hC;have hb:=T.hasType (X:="BaseException") (b:=true) rfl;have hpl:(li cp (dn [.Constant (.str z) kk kp] X.env)).any (·.1)=false:=rfl;have hA:=z4f (X:=X) (zii (x:=z) (j:=kk) (pos:=kp)) z2q;refine wpAny_Raise_call_subT (nm:=nm) (q:=q) (C:=C) (N:=N) (bs:=bs) (bm:=bm) (hdct:=hdct) (sn:=sn) (sub:=sub) (ab:=ab) (col:=col) (dd:=dd) (k0:=k0) (k1:=k1) (k2:=k2) (k3:=k3) (k5:=k5) (mN:=mN) PySem.F.excBase_ValueError hb hh hpl hni (z4d I hg hm ⟨rfl,?_⟩ hdb);have hA2:=hA cp pins s σ H (fun vs H1=>vs.length=1/\H1=H) I ⟨rfl,rfl⟩;refine qm (thn hA2 fun us s1 zz=>?_);obtain⟨vs,H1,I1,r,hv,rfl⟩:=zz;have hl:us.length=1:=by rw[<-r.length];exact hv
 exact⟨rfl,by rw[hl];decide,I1.bk _ _ oC,hN.keeps I1.bk,T.keeps I1.bk,fun h' a hx=>lv.made pins σ H1 s1 a C us h' I1 hm so.ext hx⟩
end
def inX (X:Cx)(i:Nat)(n:Str)(a:Addr)(oe:Obj):Cx:={X with A:=X.A.mark (some (.ref a)),N:=X.N.set i "",calm:=false,pn:=(a,oe)::X.pn,xe:=fun _ _=>False,fx:=some (n,.ref a)}
section
variable {X:Cx}{pins:List (Addr×Obj)}{σ:L2.St}{H:Hp}{s:ac}{i:Nat}{n:Str}{a:Addr}{oe:Obj}
theorem znt (ok:X.Ok)(nd:X.N.Nodup)(hi:X.N[i]?=some n)(hv:X.env.scope.names.lookup ("":Str)=none)(hl:X.env.scope.names.lookup n=some .local):(inX X i n a oe).Ok:=by
 refine⟨ok.mod,ok.kind,ok.glob,ok.blt,ok.above,ok.inj,ok.has,ok.cab,fun z=>(by cases z),ok.frames,ok.stk,ok.exf,ok.bs,ok.bsz,ok.noex,ok.exfs,ok.funs,ok.frf,fun x u z=>?_⟩;cases z;refine⟨fun hm=>?_,hl⟩;obtain⟨j,hj⟩:=lw.mp hm;have hj:(X.N.set i "")[j]?=some n:=hj;by_cases e:i=j
 ·subst e;rw[ck (bg.mp hi).1]at hj;cases hj;rw[hv]at hl;cases hl
 ·rw[bv e]at hj;exact e (z35 nd hi hj)
theorem zn9 (I:Inv X pins σ H s)(nd:X.N.Nodup)(hi:X.N[i]?=some n)(hv:X.env.scope.names.lookup ("":Str)=none)(hl:X.env.scope.names.lookup n=some .local)(hσ:σ[i]?=some (some (.ref a)))
  (ho:s.heap.get? a=some oe) (hH:H a=none) (h1:a≠X.env.locals) (h2:a∉X.fs) (h3:∀v,oe.data≠.cell v):Inv (inX X i n a oe) pins (σ.set i none) H s:=by
 obtain⟨m,hn,hlk⟩:=I.loc;refine⟨znt I.ok nd hi hv hl,I.os,I.bare,I.base,⟨m,hn,fun j x v e1 e2 e3=>?_⟩,I.cell,I.free,I.freeC,fun p hp=>?_,I.hok,?_,fun x u z=>?_⟩
 ·have e1:(X.N.set i "")[j]?=some x:=e1;by_cases e:i=j
  ·subst e;rw[ck (by rw[I.len];exact(bg.mp hi).1)]at e2;cases e2
  ·rw[bv e]at e1 e2;exact hlk j x v e1 e2 e3
 ·rcases au.mp (show p∈(a,oe)::(X.pn++pins)from hp)with rfl|hp
  ·exact⟨ho,hH,h1,h2,h3⟩
  ·exact I.pin p hp
 ·show(σ.set i none).length=(X.N.set i "").length;rw[cn,cn];exact I.len
 ·cases z;obtain⟨u,r,q⟩:=hlk i n (.ref a) hi hσ (.inl hl);cases r;rcases q with⟨_,q⟩|⟨k,_⟩
  ·exact⟨m,hn,q⟩
  ·have k:X.env.scope.names.lookup n=some .cell\/X.env.scope.names.lookup n=some .free:=k;rcases k with k|k<;>(rw[hl]at k;cases k)
theorem zmh (ok:X.Ok)(hx:X.fx=none)(hi:X.N[i]?=some n)(I:Inv (inX X i n a oe) pins σ H s):Inv X pins (σ.set i none) H s:=by
 obtain⟨m,hn,hlk⟩:=I.loc;have hlen:σ.length=(X.N.set i "").length:=I.len;rw[cn]at hlen;refine⟨ok,I.os,I.bare,I.base,⟨m,hn,fun j x v e1 e2 e3=>?_⟩,I.cell,I.free,I.freeC,fun p hp=>I.pin p (aq _ hp),I.hok,by rw[cn];exact hlen,fun x u z=>by rw[hx]at z;cases z⟩;by_cases e:i=j
 ·subst e;rw[ck (by rw[hlen];exact(bg.mp hi).1)]at e2;cases e2
 ·rw[bv e]at e2;exact hlk j x v (show(X.N.set i "")[j]?=some x by rw[bv e];exact e1) e2 e3
theorem zrv {M:Model}{A:b7}{E:Value->ac->Prop}{Q:Unit->ac->Prop}{v:V}{pos:Pos}(I:Inv X pins σ H s)(hx:X.fx=none)(nd:X.N.Nodup)(hi:X.N[i]?=some n)(hl:X.env.scope.names.lookup n=some .local)(hσ:σ[i]?=some (some v))
  (h:∀s',Inv X pins (σ.set i none) H s'->Q () s'):wpAny M A (j5 X.env n pos) Q E s:=by
 obtain⟨m,hn,hlk⟩:=id I.loc;have cne:=I.cne;obtain⟨u,r,q⟩:=hlk i n v hi hσ (.inl hl)
 have hv:m n=some u:=by
  rcases q with⟨_,q⟩|⟨k,_⟩
  ·exact q
  ·have k:X.env.scope.names.lookup n=some .cell\/X.env.scope.names.lookup n=some .free:=k;rcases k with k|k<;>(rw[hl]at k;cases k)
 have hcls:(X.env.scope.kind==.class||(X.env.scope.kind==.module&&X.env.locals != X.env.globals))=false:=by rw[I.ok.kind];rfl
 unfold j5;refine mh (wpAny_unbindName_local hl hn hv hcls fun h' u' hn' hs=>h _ ?_);obtain⟨oL,_,_,hoL,_⟩:=id hn;have old:∀b o,X.s₀.heap.get? b=some o->b≠X.env.locals:=fun b o e=>bz (bw (bn e) I.ok.above);refine⟨I.ok,I.os,I.bare,⟨fun b o e z hb hx=>(hs.2 b (old b o e)).trans (I.base.keep b o e z hb hx),fun b o e z hb hx=>?_,I.base.free,fun b o e hx=>?_,I.base.tups,I.base.frzs,I.base.tbls⟩,⟨_,hn',fun j y w e1 e2 e3=>?_⟩,fun y c e=>?_,I.free,I.freeC,fun p hp=>?_,fun b ob e=>?_,by rw[cn];exact I.len,fun x u z=>by rw[hx]at z;cases z⟩
 ·obtain⟨sl,e1⟩:=I.base.slot b o e z hb hx;exact⟨sl,(hs.2 b (old b o e)).trans e1⟩
 ·obtain⟨o',e1⟩:=I.base.there b o e hx;exact⟨o',(hs.2 b (old b o e)).trans e1⟩
 ·by_cases hj:i=j
  ·subst hj;rw[ck (by rw[I.len];exact(bg.mp hi).1)]at e2;cases e2
  ·rw[bv hj]at e2;obtain⟨u2,r2,q2⟩:=hlk j y w e1 e2 e3;refine⟨u2,r2,?_⟩;have hy:y≠n:=fun z=>hj (z35 nd hi (z▸e1));rcases q2 with⟨k,q2⟩|⟨k,c,e,z⟩
   ·exact .inl ⟨k,by simp only[if_neg hy];exact q2⟩
   ·exact .inr ⟨k,c,e,z.sameBut hs (cne y c e)⟩
 ·obtain⟨w,z⟩:=I.cell y c e;exact⟨w,z.sameBut hs (cne y c e)⟩
 ·obtain⟨e,nn,ne,nf,dd⟩:=I.pin p hp;exact⟨(hs.2 p.1 ne).trans e,nn,ne,nf,dd⟩
 ·have nl:∀c w,H c=some w->c≠X.env.locals:=fun c w q z=>by rw[z,I.free]at q;cases q
  exact(I.hok b ob e).stay (fun c w hc q=>(hs.2 c (hc.elim (fun z=>by rw[z];exact nl b _ e) fun z=>nl c _ z)).trans q) (fun _ q=>q) fun _ _ q=>q
theorem zd7 {M:Model}{Dn:Ends}{pos:Pos}{D2:Ends}{E:Value->ac->Prop}{f:Flow}{s:ac}(ok:X.Ok)(hx:X.fx=none)(nd:X.N.Nodup)(hi:X.N[i]?=some n)(hl:X.env.scope.names.lookup n=some .local)(hnx:∀σ' H',D2.nx σ' H'->Dn.nx (σ'.set i none) H')(hrt:∀v H',D2.rt v H'->Dn.rt v H')(hbk:∀σ' H',¬D2.bk σ' H')(hct:∀σ' H',¬D2.ct σ' H')
  (h:SP (inX X i n a oe) pins D2 f s):wpAny M X.A (do bindName X.env n .none;j5 X.env n pos) (fun _ s5=>SP X pins Dn f s5) E s:=by
 have key:∀{σ':L2.St} {H':Hp} {Q:Unit->ac->Prop},Inv (inX X i n a oe) pins σ' H' s->(∀s5,Inv X pins (σ'.set i none) H' s5->Q () s5)->wpAny M X.A (do bindName X.env n .none;j5 X.env n pos) Q E s:=fun{σ' H' Q} I k=>by
  have I1:=zmh ok hx hi I;refine aa (wpAny_bindName (z4e I1 nd hi (.inl hl) (v:=.non) rfl (fun s4 I4 _=>?_) (.inr hl)));have hlt:i<(σ'.set i none).length:=by rw[I1.len];exact(bg.mp hi).1
  refine zrv I4 hx nd hi hl (v:=.non) (ck hlt) fun s5 I5=>k s5 ?_;rw[ut,ut]at I5;exact I5
 cases f with
 |next=>obtain⟨σ',H',I,q⟩:=h;exact key I fun s5 I5=>⟨_,H',I5,hnx σ' H' q⟩
 |ret u=>obtain⟨v,σ',H',I,r,q⟩:=h;exact key I fun s5 I5=>⟨v,_,H',I5,r,hrt v H' q⟩
 |brk=>obtain⟨σ',H',_,q⟩:=h;exact(hbk σ' H' q).elim
 |cont=>obtain⟨σ',H',_,q⟩:=h;exact(hct σ' H' q).elim
theorem zg7 {P:a8}{w:World}{base:Heap}{outer:List Env}{H H':Hp}{s s':ac}{C a:Addr}(f:Fly P w base outer H s C a H' s'):H' a=none:=by
 obtain⟨B,t,_,hB,_,fl⟩:=f.hh;cases e:H' a with
 |none=>rfl
 |some u=>obtain⟨o,q⟩:=z6q (hB a u e);rw[fl.2.1]at q;cases q
end
section
variable {X:Cx}{n x:Str}{p p1 p2 pos:Pos}{a C:Addr}{oe:Obj}{v:V}{u:Value}{b:Bool}
theorem zpk (hx:X.fx=some (n,.ref a))(hl:X.env.scope.names.lookup n=some .local)(hd:(n==("__debug__":Str))=false):PE X (.Name n p) (fun _ H Q=>Q (.ref a) H):=by intro pins s σ H Q I h;obtain⟨m,hn,hm⟩:=I.fx n _ hx;exact tf (qj I.ok.kind hl hn hm ⟨.ref a,H,I,rfl,h⟩) hd
theorem zur (hg:Gl X x)(hm:X.mg x=some u\/(X.mg x=none/\cu x=some u/\x≠"__name__"))(r:RelV v u)(hd:(x==("__debug__":Str))=false):PE X (.Name x p) (fun _ H Q=>Q v H):=by
 intro pins s σ H Q I h;rcases hm with hm|⟨h1,h2,h3⟩
 ·exact z4d I hg hm ⟨v,H,I,r,h⟩ hd
 ·exact z2r I hg h1 h2 ⟨v,H,I,r,h⟩ h3 hd
def Xh (X:Cx)(a:Addr)(oe:Obj):Prop:=∀pins σ H s,Inv X pins σ H s->s.heap.get? a=some oe
theorem ztk (hm:X.mg "isinstance"=none)(hg:Gl X "isinstance")(hx:X.fx=some (n,.ref a))(hl:X.env.scope.names.lookup n=some .local)(hd:(n==("__debug__":Str))=false)(hp:Xh X a oe)(hc:oe.cls=.ref C)
  (hgx:Gl X x) (hmx:X.mg x=some u\/(X.mg x=none/\cu x=some u/\x≠"__name__")) (r:RelV v u) (ru:∀w,RelV v w->w=u) (hdx:(x==("__debug__":Str))=false) (xa:XA X.K C) (xv:XV X.K u) (hs:W.subIn X.K (.ref C) u=some b):
  PE X (.Call (.Name "isinstance" p) [.Name n p1,.Name x p2] [] pos) (tD X.K fun _=>.ok (.fr,.bool b)):=by
 intro pins s σ H Q I hq;obtain⟨ρ,F,z,so,e,q⟩:=hq;cases e;refine ik (z2r (u:=.builtin "isinstance") I hg hm (by decide+kernel) ?_ (by decide) (by decide));have hA:=z4f (X:=X) (zpk (p:=p1) hx hl hd) (z4f (zur (p:=p2) hgx hmx r hdx) z2q);refine PyProof.Rows.callWith_builtin1 (thn (hA pos pins s σ H (fun vs H1=>vs=[.ref a,v]/\H1=H) I ⟨rfl,rfl⟩) fun us s1 zz=>?_) rfl rfl;obtain⟨vs,H1,I1,r1,rfl,rfl⟩:=zz;cases r1 with
 |cons ra rt=>
  cases rt with
  |cons rb rn=>cases rn;rename_i w1 w2;obtain rfl:w1=Value.ref a:=ra;have e2:w2=u:=ru w2 rb;subst e2;refine zsd I1.kIn xa (hp _ _ _ _ I1) hc xv hs fun t'=>?_;exact⟨.bl b,H1,I1.tok _,rfl,q _ H1 (Same.refl H1) rfl⟩
end
section
theorem and2 {a b:Bool}(h:(a&&b)=true):a=true/\b=true:=bp.mp h
theorem and3 {a b c:Bool}(h:(a&&b&&c)=true):a=true/\b=true/\c=true:=⟨(and2 (and2 h).1).1,(and2 (and2 h).1).2,(and2 h).2⟩
theorem and4 {a b c d:Bool}(h:(a&&b&&c&&d)=true):a=true/\b=true/\c=true/\d=true:=⟨(and3 (and2 h).1).1,(and3 (and2 h).1).2.1,(and3 (and2 h).1).2.2,(and2 h).2⟩
theorem and5 {a b c d e:Bool}(h:(a&&b&&c&&d&&e)=true):a=true/\b=true/\c=true/\d=true/\e=true:=⟨(and4 (and2 h).1).1,(and4 (and2 h).1).2.1,(and4 (and2 h).1).2.2.1,(and4 (and2 h).1).2.2.2,(and2 h).2⟩
theorem z1l {b:Bool}(h:(!b)=true):b=false:=by cases b<;>first|rfl|cases h
theorem ff {b:Bool}{p:Prop}(h:b=false)(z:b=true):p:=by rw[h]at z;cases z
theorem z1s {α:Type}{l:List α}(h:l.isEmpty=true):l=[]:=by cases l<;>first|rfl|cases h
theorem z3m {α:Type}{l:List α}(h:(!l.isEmpty)=true):∃x r,l=x::r:=by cases l<;>first|exact⟨_,_,rfl⟩|cases h
theorem z09 {α:Type}{o:Option α}{f:α->Bool}(h:o.any f=true):∃v,o=some v/\f v=true:=by
 cases o with
 |none=>cases h
 |some v=>exact⟨v,rfl,h⟩
theorem v_of {α:Type}{o:Option α}{v:α}{q:α->Prop}(h:o=some v)(d:o=none\/∃u,o=some u/\q u):q v:=by
 rcases d with d|⟨u,d,z⟩
 ·rw[d]at h;cases h
 ·rw[d]at h;cases h;exact z
theorem q_Nm {e:Expr}{v:Str}(h:vNm e=some v):∃p,e=.Name v p:=v_of (q:=fun v=>∃p,e=.Name v p) h (by cases e<;>first|exact .inl rfl|exact .inr ⟨_,rfl,_,rfl⟩)
theorem zb9 {e:Expr}{v:Const}(h:vCst e=some v):∃k p,e=.Constant v k p:=v_of (q:=fun v=>∃k p,e=.Constant v k p) h (by cases e<;>first|exact .inl rfl|exact .inr ⟨_,rfl,_,_,rfl⟩)
theorem zrr {e:Expr}{v:Expr×kq×Expr}(h:vBin e=some v):∃p,e=.BinOp v.1 v.2.1 v.2.2 p:=v_of (q:=fun v=>∃p,e=.BinOp v.1 v.2.1 v.2.2 p) h (by cases e<;>first|exact .inl rfl|exact .inr ⟨_,rfl,_,rfl⟩)
theorem q_Un {e:Expr}{v:UnaryOp×Expr}(h:vUn e=some v):∃p,e=.UnaryOp v.1 v.2 p:=v_of (q:=fun v=>∃p,e=.UnaryOp v.1 v.2 p) h (by cases e<;>first|exact .inl rfl|exact .inr ⟨_,rfl,_,rfl⟩)
theorem q_Cm {e:Expr}{v:Expr×List CmpOp×List Expr}(h:vCm e=some v):∃p,e=.Compare v.1 v.2.1 v.2.2 p:=v_of (q:=fun v=>∃p,e=.Compare v.1 v.2.1 v.2.2 p) h (by cases e<;>first|exact .inl rfl|exact .inr ⟨_,rfl,_,rfl⟩)
theorem q_Bo {e:Expr}{v:BoolOp×List Expr×Pos}(h:vBo e=some v):e=.BoolOp v.1 v.2.1 v.2.2:=v_of (q:=fun v=>e=.BoolOp v.1 v.2.1 v.2.2) h (by cases e<;>first|exact .inl rfl|exact .inr ⟨_,rfl,rfl⟩)
theorem zto {e:Expr}{v:Expr×Expr×Expr}(h:vIfE e=some v):∃p,e=.IfExp v.1 v.2.1 v.2.2 p:=v_of (q:=fun v=>∃p,e=.IfExp v.1 v.2.1 v.2.2 p) h (by cases e<;>first|exact .inl rfl|exact .inr ⟨_,rfl,_,rfl⟩)
theorem zju {e:Expr}{v:List Expr}(h:vTup e=some v):∃k p,e=.Tuple v k p:=v_of (q:=fun v=>∃k p,e=.Tuple v k p) h (by cases e<;>first|exact .inl rfl|exact .inr ⟨_,rfl,_,_,rfl⟩)
theorem zpd {e:Expr}{v:List Expr}(h:vLst e=some v):∃p,e=.List v p:=v_of (q:=fun v=>∃p,e=.List v p) h (by cases e<;>first|exact .inl rfl|exact .inr ⟨_,rfl,_,rfl⟩)
theorem q_Di {e:Expr}{v:List (Option Expr)×List Expr}(h:vDi e=some v):∃p,e=.Dict v.1 v.2 p:=v_of (q:=fun v=>∃p,e=.Dict v.1 v.2 p) h (by cases e<;>first|exact .inl rfl|exact .inr ⟨_,rfl,_,rfl⟩)
theorem zjm {e:Expr}{v:Expr×Expr}(h:vSub e=some v):∃p,e=.Subscript v.1 v.2 p:=v_of (q:=fun v=>∃p,e=.Subscript v.1 v.2 p) h (by cases e<;>first|exact .inl rfl|exact .inr ⟨_,rfl,_,rfl⟩)
theorem zui {e:Expr}{v:Option Expr×Option Expr×Option Expr}(h:vSli e=some v):∃p,e=.Slice v.1 v.2.1 v.2.2 p:=v_of (q:=fun v=>∃p,e=.Slice v.1 v.2.1 v.2.2 p) h (by cases e<;>first|exact .inl rfl|exact .inr ⟨_,rfl,_,rfl⟩)
theorem q_Ca {e:Expr}{v:Expr×List Expr×List pq×Pos}(h:vCa e=some v):e=.Call v.1 v.2.1 v.2.2.1 v.2.2.2:=v_of (q:=fun v=>e=.Call v.1 v.2.1 v.2.2.1 v.2.2.2) h (by cases e<;>first|exact .inl rfl|exact .inr ⟨_,rfl,rfl⟩)
theorem q_At {e:Expr}{v:Expr×Str×Pos}(h:vAt e=some v):e=.Attribute v.1 v.2.1 v.2.2:=v_of (q:=fun v=>e=.Attribute v.1 v.2.1 v.2.2) h (by cases e<;>first|exact .inl rfl|exact .inr ⟨_,rfl,rfl⟩)
theorem q_LC {e:Expr}{v:Expr×List kr×Scope}(h:vLC e=some v):∃p,e=.ListComp v.1 v.2.1 v.2.2 p:=v_of (q:=fun v=>∃p,e=.ListComp v.1 v.2.1 v.2.2 p) h (by cases e<;>first|exact .inl rfl|exact .inr ⟨_,rfl,_,rfl⟩)
theorem z3j {α:Type}{l:List α}{v:α}(h:vOne l=some v):l=[v]:=by rcases l with _|⟨x,_|⟨y,l⟩⟩<;>cases h;rfl
theorem zj7 {α:Type}{l:List α}{v:α×α}(h:vTwo l=some v):l=[v.1,v.2]:=by rcases l with _|⟨x,_|⟨y,_|⟨z,l⟩⟩⟩<;>cases h;rfl
theorem z1b {e:Expr}{v:Str×List Expr}(h:z2z e=some v):∃q p,e=.Call (.Name v.1 q) v.2 [] p:=by
 obtain⟨u,hu,h⟩:=jq.mp h;cases hk:u.2.2.1.isEmpty with
 |false=>rw[hk]at h;exact absurd h nofun
 |true=>rw[hk]at h;obtain⟨x,hx,rfl⟩:=dj.mp h;obtain⟨q,hq⟩:=q_Nm hx;exact⟨q,_,by rw[q_Ca hu,hq,z1s hk]⟩
theorem q_Mt {e:Expr}{v:Expr×Str×List Expr×Bool}(h:vMt e=some v):∃ap cp,e=.Call (.Attribute v.1 v.2.1 ap) v.2.2.1 [] cp/\v.2.2.2=(ap.endLine==cp.line):=by
 obtain⟨u,hu,h⟩:=jq.mp h;cases hk:u.2.2.1.isEmpty with
 |false=>rw[hk]at h;exact absurd h nofun
 |true=>rw[hk]at h;obtain⟨x,hx,rfl⟩:=dj.mp h;exact⟨_,_,by rw[q_Ca hu,q_At hx,z1s hk],rfl⟩
theorem z3e {f:Str->Bool}{e:Expr}(h:hd1 f e=true):∃x p,e=.Name x p/\f x=true:=by obtain⟨x,hx,h⟩:=z09 h;obtain⟨p,hp⟩:=q_Nm hx;exact⟨x,p,hp,h⟩
def zua (K:W.Frag)(mg:Str->Option Value)(c C:Str)(b:Bool):Prop:=∃A v u,mg c=some (.ref A)/\XA K A/\XV K u/\W.subIn K (.ref A) u=some b/\RelV v u/\(∀w,RelV v w->w=u)/\(mg C=some u\/(mg C=none/\cu C=some u/\C≠"__name__"))
def RsOk (K:W.Frag)(mg:Str->Option Value)(c:Str):Prop:=∃C,mg c=some (.ref C)/\exV K C=true
def zt1 (K:W.Frag)(mg:Str->Option Value)(c B:Str):Prop:=∃C D,mg c=some (.ref C)/\mg B=some (.ref D)/\exV K C=true/\exV K D=true/\W.subIn K (.ref C) (.ref D)=some true
structure Xok (Γ:Gm)(K:W.Frag)(mg:Str->Option Value):Prop where
 sub:∀c C b,Γ.sub.contains (c,C,b)=true->zua K mg c C b
 rs:∀c,Γ.rs.contains c=true->RsOk K mg c
 hnd:∀c B,Γ.hnd.contains (c,B)=true->zt1 K mg c B
structure Cok (Γ:Gm)(Κ:List D)(Φ:List Fn)(X:Cx)(r:Nat):Prop where
 hN:X.N=Γ.N
 hs:X.env.scope=Γ.sc
 nd:Γ.N.Nodup
 fn:Γ.blk=false->∀x,X.fn x=true
 kind:Γ.sc.kind=.function
 free:∀x,Γ.free.contains x=true->X.mg x=none
 fns:∀(j:Nat) f n,Γ.fns[j]?=some (f,n)->∃m k ps,Φ[j]?=some m/\k<=r/\Cal X.prog X.w X.K X.mg X.base k f ps (spD X.K n m)
 cst:∀(j:Nat) x,Γ.cst[j]?=some x->∃d a,Κ[j]?=some d/\X.mg x=some (.ref a)/\∀H B,B none->Rep X.K H B (.ref a) d
 fnx:∀(j:Nat) f n,Γ.fns[j]?=some (f,n)->∃m k ps,Φ[j]?=some m/\k<=r/\CalX X.prog X.w X.K X.mg X.base k f ps n m
 room:Γ.cm=true->Room r X.A
 calm:Γ.cm=true->X.calm=true
 hu:X.A.units+64<cLine
 fun_:Γ.blk=false->X.stack=X.env::X.outer/\X.env.frame=some X.env.locals
 fx0:Γ.xc=none->X.fx=none
 xc:∀n c,Γ.xc=some (n,c)->∃a oe C,X.fx=some (n,.ref a)/\Xh X a oe/\oe.cls=.ref C/\X.mg c=some (.ref C)
 xk:Xok Γ X.K X.mg
section
variable {Γ:Gm}{Κ:List D}{Φ:List Fn}{X:Cx}{r:Nat}
theorem Cok.gl (k:Cok Γ Κ Φ X r){x:Str}(h:glB Γ x=true):Gl X x/\(x==("__debug__":Str))=false:=by unfold glB at h;rw[ba]at h;refine⟨?_,by simpa using h.2⟩;show X.env.scope.names.lookup x=_;rw[k.hs];simpa using h.1
theorem Cok.vis (k:Cok Γ Κ Φ X r){i:Nat}{x:Str}(h:visB Γ i x=true):X.N[i]?=some x/\Vis X.env.scope x/\(x==("__debug__":Str))=false/\(x==("__classdict__":Str))=false:=by
 unfold visB at h;simp only[ba,gc,beq_iff_eq]at h;have⟨⟨⟨h1,h2⟩,h3⟩,h4⟩:=h;refine⟨by rw[k.hN];exact h1,?_,by simpa using h3,by simpa using h4⟩;unfold Vis;rw[k.hs];rcases h2 with(h2|h2)|h2
 ·exact .inl h2
 ·exact .inr (.inl h2)
 ·exact .inr (.inr h2)
theorem Cok.loc (k:Cok Γ Κ Φ X r){i:Nat}{x:Str}(h:locB Γ i x=true):X.N[i]?=some x/\Loc X.env.scope x/\(X.fn x=true\/X.env.scope.names.lookup x=some .local):=by
 unfold locB at h;simp only[ba,gc,beq_iff_eq,jx]at h;obtain⟨h1,h2⟩:=h;refine⟨by rw[k.hN];exact h1,?_,?_⟩
 ·unfold L2.Loc;rw[k.hs];rcases h2 with h2|⟨_,h2⟩
  ·exact .inl h2
  ·exact .inr h2
 ·rcases h2 with h2|⟨h2,_⟩
  ·exact .inr (by rw[k.hs];exact h2)
  ·exact .inl (k.fn h2 x)
theorem Cok.blt (k:Cok Γ Κ Φ X r){x:Str}(h:bltB Γ x=true):Gl X x/\X.mg x=none/\(x==("__debug__":Str))=false/\x≠"__name__":=by unfold bltB at h;simp only[bp]at h;obtain⟨⟨h1,h2⟩,h3⟩:=h;obtain⟨g1,g2⟩:=k.gl h1;exact⟨g1,k.free x h2,g2,by simpa using h3⟩
theorem zjo {X:Cx}{scope:Scope}{N':List Str}{C:Addr}{fp:List Addr}{s:ac}{H:Hp}:(blk X scope N' C fp s H).env.scope=zkq scope X.env.scope:=rfl
theorem Cok.blk (k:Cok Γ Κ Φ X r){scope:Scope}{N':List Str}(hk:scope.kind=.function)(nd:N'.Nodup)(C:Addr)(fp:List Addr)(s:ac)(H:Hp):Cok {Γ with N:=N',sc:=zkq scope Γ.sc,blk:=true,xc:=none} Κ Φ (blk X scope N' C fp s H) r where
 hN:=rfl
 hs:=by rw[zjo,k.hs]
 nd:=nd
 fn:=fun z=>by cases z
 kind:=hk
 free:=k.free
 fns:=k.fns
 cst:=k.cst
 fnx:=k.fnx
 room:=k.room
 calm:=k.calm
 hu:=k.hu
 fun_:=fun z=>by cases z
 fx0:=fun _=>rfl
 xc:=fun _ _ z=>by cases z
 xk:=⟨k.xk.sub,k.xk.rs,k.xk.hnd⟩
theorem zs3 (k:Cok Γ Κ Φ X r)(all:List Nat){is:List Nat}:∀{es:List Expr},zla Γ is es=true->PGs X es (tDGs X.K all is)/\(g7 es X.env).length=is.length/\(g7 es X.env).findIdx? (·.1)=none:=by
 induction is with
 |nil=>intro es h;cases z1s h;exact⟨zmz,rfl,rfl⟩
 |cons i is ih=>
  intro es h;cases es with
  |nil=>cases h
  |cons e es=>
   obtain⟨h0,h9⟩:=and2 h;obtain⟨x,p,rfl,h0⟩:=z3e h0;obtain⟨h1,h2,h3⟩:=k.loc h0;obtain⟨a1,a2,a3⟩:=ih h9;refine⟨zli (by rw[k.hN];exact k.nd) h1 h2 h3 a1,?_,?_⟩
   ·show(g7 es X.env).length+1=_;rw[a2];rfl
   ·show((false,pp (.Name x p) X.env)::g7 es X.env).findIdx? (·.1)=none;rw[List.findIdx?_cons,a3];rfl
theorem zl4 (k:Cok Γ Κ Φ X r){t:Tg}{e:Expr}(h:zgo Γ t e=true):PG X e (tDG X.K t):=by
 cases t with
 |nm i=>obtain⟨x,p,rfl,h9⟩:=z3e h;obtain⟨h1,h2,h3⟩:=k.loc h9;exact zpj (by rw[k.hN];exact k.nd) h1 h2 h3
 |tp is=>obtain⟨h0,h⟩:=and2 h;obtain⟨v,hv,h9⟩:=z09 h;obtain⟨_,_,rfl⟩:=zju hv;obtain⟨a1,a2,a3⟩:=zs3 k is h9;exact zvm (k.calm h0) a1 rfl a3 a2.symm
theorem z53 {e:Expr}(h:plainT e=true)(env:Env):∀whole,qi e env whole=(do let v <-whole;vc e.pos;nc [v] (vf v)):=by
 intro whole;cases e<;>first|(cases h;done)|rfl|skip
 rename_i op x p;cases op<;>first|(cases h;done)|rfl
theorem z9k {e:Expr}(h:zf5 e=true)(env:Env):∀x,gu e env x=pure x:=by intro x;cases e<;>first|(cases h;done)|rfl
end
variable (Κ:List D)(Φ:List Fn)
theorem zk6 (c:C):∀(Γ:Gm) (es:List Expr) (ρ:Rho) (ys:List GD),chkA Γ c es=true->evA Κ Φ c ρ=.ok ys->ys.length=es.length/\(es.all fun e=>!isStar e)=true:=by
 induction c with
 |nil=>intro Γ es ρ ys h e;cases z1s h;cases e;exact⟨rfl,rfl⟩
 |cons a r _ ih=>
  intro Γ es ρ ys h e;cases es with
  |nil=>cases h
  |cons x es=>obtain⟨h1,_,h3⟩:=and3 h;obtain⟨y,_,e⟩:=Res.bind_ok e;obtain⟨ys',e2,e⟩:=Res.bind_ok e;cases e;obtain⟨i1,i2⟩:=ih Γ es ρ ys' h3 e2;exact⟨by rw[bq,bq,i1],by rw[dw,i2,h1];rfl⟩
 |_=>exact fun _ _ _ _ h=>ff rfl h
end
section
theorem zml {Γ:Gm}{T:String}{t:Expr}(h:tyB Γ T t=true):∃x p,t=.Name x p/\x=Str.ofString T/\bltB Γ x=true/\T∈tysB:=by obtain⟨x,p,e,h⟩:=z3e h;obtain⟨h1,h2,h3⟩:=and3 h;exact⟨x,p,e,wg h1,h2,cy.mp h3⟩
theorem or_l {a b:Bool}(h:(a||b)=true)(n:b=false):a=true:=by rw[n,oy]at h;exact h
theorem zhe {T:String}(h:T∈tysB):cu (Str.ofString T)=some (.type T):=by simp only[tysB,au,cw,or_false]at h;rcases h with rfl|rfl|rfl|rfl|rfl<;>decide+kernel
variable (Κ:List D)(Φ:List Fn)
theorem z0r {Γ:Gm}:∀{c:C} {es:List Expr},chkA Γ c es=true->(es.all fun e=>!isStar e)=true:=by
 intro c
 induction c with
 |nil=>intro es h;cases z1s h;rfl
 |cons a r _ ih=>
  intro es h;cases es with
  |nil=>rfl
  |cons e es=>obtain⟨h1,_,h3⟩:=and3 h;rw[dw,ih h3,h1];rfl
 |_=>exact fun h=>ff rfl h
theorem z2v {Γ:Gm}{c:C}{es:List Expr}(h:chkA Γ c es=true):∀ρ ys,evA Κ Φ c ρ=.ok ys->ys.length=es.length:=fun ρ ys e=>(zk6 Κ Φ c Γ es ρ ys h e).1
structure Sd (c:C):Prop where
 E:∀(Γ:Gm) (X:Cx) (r:Nat) (e:Expr),Cok Γ Κ Φ X r->chkE Γ c e=true->PE X e (tD X.K (evE Κ Φ c))
 T:∀(Γ:Gm) (X:Cx) (r:Nat) (e:Expr),Cok Γ Κ Φ X r->chkT Γ c e=true->PT X e (tDT X.K (evT Κ Φ c))/\((∃o l p,e=.BoolOp o l p)->PW X e (tDT X.K (evT Κ Φ c)))
 Q:∀(Γ:Gm) (X:Cx) (r:Nat) (l:Expr) (ops:List CmpOp) (rs:List Expr) (pos:Pos),Cok Γ Κ Φ X r->chkE Γ c (.Compare l ops rs pos)=true->PT X (.Compare l ops rs pos) (tDT X.K fun ρ=>evE Κ Φ c ρ>>=fun x=>z23 x.2)
 A:∀(Γ:Gm) (X:Cx) (r:Nat) (es:List Expr),Cok Γ Κ Φ X r->chkA Γ c es=true->PA X es (tDA X.K (evA Κ Φ c))
 O:∀(Γ:Gm) (X:Cx) (r:Nat) (e:Option Expr),Cok Γ Κ Φ X r->chkO Γ c e=true->PO X e (tDO X.K (evO Κ Φ c))
 W:∀(Γ:Gm) (X:Cx) (r:Nat) (e tg:Expr),Cok Γ Κ Φ X r->zmc c tg=true->chkW Γ c e=true->PI X tg e (tDW X.K (evW Κ Φ c))
 G:∀(Γ:Gm) (X:Cx) (r:Nat) (e:Expr),Cok Γ Κ Φ X r->chkG Γ c e=true->∃a,c=.tv a/\PE X e (tD X.K (evE Κ Φ a))
def isX:C->Nat
 |.and _ _|.or _ _|.not _|.tv _|.nil|.cons _ _|.rng _|.enum _|.zip _ _=>2
 |.cmp _ _ _|.isN _ _=>1
 |_=>0
variable {Κ:List D}{Φ:List Fn}{a b c:C}
section
variable {Γ:Gm}{e tg:Expr}{es:List Expr}{o:Option Expr}
theorem x_T (h:isX c<2):chkT Γ c e=false:=by cases c<;>first|rfl|exact absurd h (ce 2)
theorem x_A (h:isX c<2):chkA Γ c es=false:=by cases c<;>first|rfl|exact absurd h (ce 2)
theorem x_O (h:isX c<2):chkO Γ c o=false:=by cases c<;>first|rfl|exact absurd h (ce 2)
theorem x_W (h:isX c<2):chkW Γ c e=false:=by cases c<;>first|rfl|exact absurd h (ce 2)
theorem x_G (h:isX c<2):chkG Γ c e=false:=by cases c<;>first|rfl|exact absurd h (ce 2)
end
theorem Sd.q (hE:∀(Γ:Gm) (X:Cx) (r:Nat) (e:Expr),Cok Γ Κ Φ X r->chkE Γ c e=true->PE X e (tD X.K (evE Κ Φ c)))(hQ:∀(Γ:Gm) (X:Cx) (r:Nat) (l:Expr) (ops:List CmpOp) (rs:List Expr) (pos:Pos),Cok Γ Κ Φ X r->chkE Γ c (.Compare l ops rs pos)=true->PT X (.Compare l ops rs pos) (tDT X.K fun ρ=>evE Κ Φ c ρ>>=fun x=>z23 x.2))(hx:isX c<2):Sd Κ Φ c:=⟨hE,fun _ _ _ _ _ h=>ff (x_T hx) h,hQ,fun _ _ _ _ _ h=>ff (x_A hx) h,fun _ _ _ _ _ h=>ff (x_O hx) h,fun _ _ _ _ _ _ _ h=>ff (x_W hx) h,fun _ _ _ _ _ h=>ff (x_G hx) h⟩
theorem x_Q {Γ:Gm}{l:Expr}{ops:List CmpOp}{rs:List Expr}{pos:Pos}(h:isX c=0):chkE Γ c (.Compare l ops rs pos)=false:=by cases c<;>first|rfl|(cases h;done)
theorem Sd.x (hE:∀(Γ:Gm) (X:Cx) (r:Nat) (e:Expr),Cok Γ Κ Φ X r->chkE Γ c e=true->PE X e (tD X.K (evE Κ Φ c)))(hx:isX c=0):Sd Κ Φ c:=Sd.q hE (fun _ _ _ _ _ _ _ _ h=>ff (x_Q hx) h) (by rw[hx];exact Nat.zero_lt_two)
theorem zt5 {i:Nat}:Sd Κ Φ (.var i):=Sd.x (fun Γ X r e k h=>by obtain⟨x,p,rfl,h⟩:=z3e h;obtain⟨h1,h2,h3,h4⟩:=k.vis h;exact zu3 h1 h2 h3 h4) rfl
theorem zvf:Sd Κ Φ .non:=Sd.x (fun Γ X r e k h=>by obtain⟨_,_,rfl⟩:=zb9 (wb h);exact z5v zq3 fun _ _=>rfl) rfl
theorem p_bl {b:Bool}:Sd Κ Φ (.bl b):=Sd.x (fun Γ X r e k h=>by obtain⟨_,_,rfl⟩:=zb9 (wb h);exact z5v zv5 fun _ _=>rfl) rfl
theorem ztr {b:Int}:Sd Κ Φ (.int b):=Sd.x (fun Γ X r e k h=>by obtain⟨_,_,rfl⟩:=zb9 (wb h);exact z5v zo4 fun _ _=>rfl) rfl
theorem zs4 {b:Str}:Sd Κ Φ (.str b):=Sd.x (fun Γ X r e k h=>by obtain⟨h1,h2⟩:=and2 h;obtain⟨_,_,rfl⟩:=zb9 (wb h1);exact z5v zii fun _ _=>⟨rfl,h2⟩) rfl
theorem zun {op:kq}(ia:Sd Κ Φ a)(ib:Sd Κ Φ b):Sd Κ Φ (.bin op a b):=Sd.x (fun Γ X r e k h=>by obtain⟨v,hv,h9⟩:=z09 h;obtain⟨p,rfl⟩:=zrr hv;obtain⟨h1,h2,h3,h4⟩:=and4 h9;cases wb h1;exact ztz h2 (ia.E Γ X r _ k h3) (ib.E Γ X r _ k h4)) rfl
theorem zrc {Γ:Gm}{op:CmpOp}{e:Expr}(h:chkE Γ (.cmp op a b) e=true):∃l r p,e=.Compare l [op] [r] p/\zeg op=true/\gi op r=false/\chkE Γ a l=true/\chkE Γ b r=true:=by obtain⟨⟨l,o,rs⟩,hv,h9⟩:=z09 h;obtain⟨p,rfl⟩:=q_Cm hv;obtain⟨h1,h2⟩:=and2 h9;obtain⟨r,hr,h3⟩:=z09 h2;cases wb h1;cases z3j hr;obtain⟨h2,h3,h4,h5⟩:=and4 h3;exact⟨l,r,p,rfl,h2,z1l h3,h4,h5⟩
theorem ztp {op:CmpOp}(ia:Sd Κ Φ a)(ib:Sd Κ Φ b):Sd Κ Φ (.cmp op a b):=Sd.q (fun Γ X r e k h=>by
 obtain⟨_,_,_,rfl,h2,h3,h4,h5⟩:=zrc h;exact zvo k.hu h2 h3 (ia.E Γ X r _ k h4) (ib.E Γ X r _ k h5)) (fun Γ X r l ops rs p k h=>by
 obtain⟨_,_,_,he,h2,h3,h4,h5⟩:=zrc h;cases he;exact zs8 k.hu h2 h3 (ia.E Γ X r _ k h4) (ib.E Γ X r _ k h5)) Nat.one_lt_two
theorem zpa {Γ:Gm}{o:CmpOp}{w:Const}{e:Expr}(h:((vCm e).any fun v=>decide (v.2.1=[o])&&(vOne v.2.2).any fun r=>decide (vCst r=some w)&&chkE Γ a v.1)=true):∃l k q p,e=.Compare l [o] [.Constant w k q] p/\chkE Γ a l=true:=by obtain⟨⟨l,o,rs⟩,hv,h9⟩:=z09 h;obtain⟨p,rfl⟩:=q_Cm hv;obtain⟨h1,h2⟩:=and2 h9;obtain⟨r,hr,h3⟩:=z09 h2;obtain⟨h4,h5⟩:=and2 h3;cases wb h1;cases z3j hr;obtain⟨_,_,rfl⟩:=zb9 (wb h4);exact⟨_,_,_,_,rfl,h5⟩
theorem zv6 {ng:Bool}(ia:Sd Κ Φ a):Sd Κ Φ (.isN ng a):=Sd.q (fun Γ X r e k h=>by
 obtain⟨_,_,_,_,rfl,h2⟩:=zpa h;exact zuk rfl (ia.E Γ X r _ k h2)) (fun Γ X r l ops rs p k h=>by
 obtain⟨_,_,_,_,he,h2⟩:=zpa h;cases he;exact zvg rfl (ia.E Γ X r _ k h2)) Nat.one_lt_two
theorem z63 {f g:Expr->Bool}{o:BoolOp}{p:Pos}{xs:List Expr}(h:zd9 f g o p xs=true):(∃x y,xs=[x,y]/\f x=true/\g y=true)\/∃x y z r,xs=x::y::z::r/\f x=true/\g (.BoolOp o (y::z::r) p)=true:=by
 rcases xs with _|⟨x,_|⟨y,_|⟨z,xs⟩⟩⟩
 ·cases h
 ·cases h
 ·exact .inl ⟨x,y,rfl,(and2 h).1,(and2 h).2⟩
 ·exact .inr ⟨x,y,z,xs,rfl,(and2 h).1,(and2 h).2⟩
theorem zvj (ia:Sd Κ Φ a)(ib:Sd Κ Φ b):Sd Κ Φ (.and a b) where
 E:=fun Γ X r e k h=>by
  obtain⟨⟨o,xs,p⟩,hv,h9⟩:=z09 h;cases q_Bo hv;obtain⟨h1,h2⟩:=and2 h9;cases wb h1;rcases z63 h2 with⟨x,y,rfl,h3,h4⟩|⟨x,y,z,t,rfl,h3,h4⟩
  ·exact zrl (ia.E Γ X r _ k h3) (zic (ib.E Γ X r _ k h4))
  ·exact zrl (ia.E Γ X r _ k h3) (ib.E Γ X r _ k h4)
 T:=fun Γ X r e k h=>by
  obtain⟨⟨o,xs,p⟩,hv,h9⟩:=z09 h;cases q_Bo hv;obtain⟨h1,h2⟩:=and2 h9;cases wb h1;rcases z63 h2 with⟨x,y,rfl,h3,h4⟩|⟨x,y,z,t,rfl,h3,h4⟩
  ·have w:=w_and (pos:=p) (ia.T Γ X r _ k h3).1 (zkx (ib.T Γ X r _ k h4).1);exact⟨w.pt,fun _=>w⟩
  ·have w:=w_and (pos:=p) (ia.T Γ X r _ k h3).1 ((ib.T Γ X r _ k h4).2 ⟨_,_,_,rfl⟩);exact⟨w.pt,fun _=>w⟩
 Q:=fun _ _ _ _ _ _ _ _ h=>ff rfl h
 A:=fun _ _ _ _ _ h=>ff rfl h
 O:=fun _ _ _ _ _ h=>ff rfl h
 W:=fun _ _ _ _ _ _ _ h=>ff rfl h
 G:=fun _ _ _ _ _ h=>ff rfl h
theorem p_or (ia:Sd Κ Φ a)(ib:Sd Κ Φ b):Sd Κ Φ (.or a b) where
 E:=fun Γ X r e k h=>by
  obtain⟨⟨o,xs,p⟩,hv,h9⟩:=z09 h;cases q_Bo hv;obtain⟨h1,h2⟩:=and2 h9;cases wb h1;rcases z63 h2 with⟨x,y,rfl,h3,h4⟩|⟨x,y,z,t,rfl,h3,h4⟩
  ·exact d_or (ia.E Γ X r _ k h3) (zic (ib.E Γ X r _ k h4))
  ·exact d_or (ia.E Γ X r _ k h3) (ib.E Γ X r _ k h4)
 T:=fun Γ X r e k h=>by
  obtain⟨⟨o,xs,p⟩,hv,h9⟩:=z09 h;cases q_Bo hv;obtain⟨h1,h2⟩:=and2 h9;cases wb h1;rcases z63 h2 with⟨x,y,rfl,h3,h4⟩|⟨x,y,z,t,rfl,h3,h4⟩
  ·have w:=w_or (pos:=p) (ia.T Γ X r _ k h3).1 (zpg (ib.T Γ X r _ k h4).1);exact⟨w.pt,fun _=>w⟩
  ·have w:=w_or (pos:=p) (ia.T Γ X r _ k h3).1 ((ib.T Γ X r _ k h4).2 ⟨_,_,_,rfl⟩);exact⟨w.pt,fun _=>w⟩
 Q:=fun _ _ _ _ _ _ _ _ h=>ff rfl h
 A:=fun _ _ _ _ _ h=>ff rfl h
 O:=fun _ _ _ _ _ h=>ff rfl h
 W:=fun _ _ _ _ _ _ _ h=>ff rfl h
 G:=fun _ _ _ _ _ h=>ff rfl h
theorem zvb (ia:Sd Κ Φ a):Sd Κ Φ (.not a) where
 E:=fun Γ X r e k h=>by obtain⟨⟨o,x⟩,hv,h9⟩:=z09 h;obtain⟨p,rfl⟩:=q_Un hv;obtain⟨h1,h2⟩:=and2 h9;cases wb h1;exact zt4 (ia.E Γ X r _ k h2)
 T:=fun Γ X r e k h=>by obtain⟨⟨o,x⟩,hv,h9⟩:=z09 h;obtain⟨p,rfl⟩:=q_Un hv;obtain⟨h1,h2⟩:=and2 h9;cases wb h1;exact⟨z33 (ia.T Γ X r _ k h2).1,fun⟨_,_,_,z⟩=>by cases z⟩
 Q:=fun _ _ _ _ _ _ _ _ h=>ff rfl h
 A:=fun _ _ _ _ _ h=>ff rfl h
 O:=fun _ _ _ _ _ h=>ff rfl h
 W:=fun _ _ _ _ _ _ _ h=>ff rfl h
 G:=fun _ _ _ _ _ h=>ff rfl h
theorem zdn {e:Expr}(h:zig e=true):∃l o r p,e=.Compare l o r p:=by cases e<;>first|exact ff rfl h|exact⟨_,_,_,_,rfl⟩
theorem p_tv (ia:Sd Κ Φ a):Sd Κ Φ (.tv a) where
 E:=fun _ _ _ _ _ h=>ff rfl h
 T:=fun Γ X r e k h=>by
  obtain⟨h1,h2⟩:=and2 h;rcases km.mp h1 with h1|h1
  ·exact⟨zs2 (ia.E Γ X r _ k h2) (z53 h1 _),fun⟨_,_,_,z⟩=>by subst z;cases h1⟩
  ·obtain⟨_,_,_,_,rfl⟩:=zdn h1;exact⟨ia.Q Γ X r _ _ _ _ k h2,fun⟨_,_,_,z⟩=>by cases z⟩
 Q:=fun _ _ _ _ _ _ _ _ h=>ff rfl h
 A:=fun _ _ _ _ _ h=>ff rfl h
 O:=fun Γ X r e k h=>by obtain⟨v,rfl,h⟩:=z09 h;exact zos (ia.E Γ X r _ k h)
 W:=fun Γ X r e tg k _ h=>w_tv (ia.E Γ X r _ k (and2 h).2)
 G:=fun Γ X r e k h=>⟨a,rfl,ia.E Γ X r _ k h⟩
theorem zsr (ic:Sd Κ Φ c)(ia:Sd Κ Φ a)(ib:Sd Κ Φ b):Sd Κ Φ (.ife c a b):=Sd.x (fun Γ X r e k h=>by obtain⟨v,hv,h9⟩:=z09 h;obtain⟨p,rfl⟩:=zto hv;obtain⟨h1,h2,h3⟩:=and3 h9;exact zta (ic.T Γ X r _ k h1).1 (ia.E Γ X r _ k h2) (ib.E Γ X r _ k h3)) rfl
theorem zse (ia:Sd Κ Φ a):Sd Κ Φ (.tup a):=Sd.x (fun Γ X r e k h=>by obtain⟨v,hv,h9⟩:=z09 h;obtain⟨_,_,rfl⟩:=zju hv;obtain⟨h1,h2⟩:=and2 h9;exact zuy (ia.A Γ X r _ k h2) fun ρ ys e=>by rw[z2v Κ Φ h2 ρ ys e];exact ze2 (wb h1)) rfl
theorem zst (ia:Sd Κ Φ a):Sd Κ Φ (.lst a):=Sd.x (fun Γ X r e k h=>by obtain⟨v,hv,h9⟩:=z09 h;obtain⟨_,rfl⟩:=zpd hv;obtain⟨h1,h2⟩:=and2 h9;exact zv4 (ia.A Γ X r _ k h2) fun ρ ys e=>by rw[z2v Κ Φ h2 ρ ys e];exact ze2 (wb h1)) rfl
theorem zsl (ia:Sd Κ Φ a)(ib:Sd Κ Φ b):Sd Κ Φ (.rep a b):=Sd.x (fun Γ X r e k h=>by obtain⟨⟨x,o,y⟩,hv,h9⟩:=z09 h;obtain⟨p,rfl⟩:=zrr hv;obtain⟨h1,h2⟩:=and2 h9;obtain⟨es,he,h3⟩:=z09 h2;obtain⟨lp,rfl⟩:=zpd he;cases wb h1;obtain⟨h4,h5,h6⟩:=and3 h3;exact zug (ia.A Γ X r _ k h5) (ib.E Γ X r _ k h6) fun ρ ys e=>by rw[z2v Κ Φ h5 ρ ys e];exact ze2 (wb h4)) rfl
theorem zo0:Sd Κ Φ .dnew:=Sd.x (fun Γ X r e k h=>by obtain⟨⟨a,b⟩,hv,h9⟩:=z09 h;obtain⟨_,rfl⟩:=q_Di hv;obtain⟨h1,h2⟩:=and2 h9;cases z1s h1;cases z1s h2;exact zpr) rfl
theorem p_ix (ia:Sd Κ Φ a)(ib:Sd Κ Φ b):Sd Κ Φ (.ix a b):=Sd.x (fun Γ X r e k h=>by obtain⟨v,hv,h9⟩:=z09 h;obtain⟨_,rfl⟩:=zjm hv;obtain⟨h1,h2,h3⟩:=and3 h9;exact d_ix k.hu h1 (ia.E Γ X r _ k h2) (ib.E Γ X r _ k h3)) rfl
theorem p_sl {lo hi:C}(ia:Sd Κ Φ a)(il:Sd Κ Φ lo)(ih:Sd Κ Φ hi):Sd Κ Φ (.sl a lo hi):=Sd.x (fun Γ X r e k h=>by obtain⟨⟨x,i⟩,hv,h9⟩:=z09 h;obtain⟨_,rfl⟩:=zjm hv;obtain⟨⟨l,u,s⟩,hs,h8⟩:=z09 h9;obtain⟨_,rfl⟩:=zui hs;obtain⟨h1,h2,h3,h4⟩:=and4 h8;cases iw.mp h1;exact d_sl (ia.E Γ X r _ k h2) (il.O Γ X r _ k h3) (ih.O Γ X r _ k h4)) rfl
theorem zoc {j:Nat}{f:Str}{args:C}(ia:Sd Κ Φ args):Sd Κ Φ (.call j f args):=Sd.x (fun Γ X r e k h=>by
 obtain⟨⟨x,es⟩,hv,h9⟩:=z09 h;obtain⟨_,_,rfl⟩:=z1b hv;obtain⟨h1,h2,h3,h4,h5⟩:=and5 h9;obtain⟨y,es,rfl⟩:=z3m h5;obtain⟨h0,h1⟩:=and2 h1;cases wg h1;obtain⟨g1,g2⟩:=k.gl h2;obtain⟨m,kk,ps,c1,c2,c3⟩:=k.fns j _ _ (wg h3);refine PE.imp (zoq c3 (k.room h0) c2 (ia.A Γ X r _ k h4) (z0r h4) g1 g2 (z2v Κ Φ h4)) fun σ H Q hq=>?_
 have ee:evE Κ Φ (.call j x args)=fun ρ=>evA Κ Φ args ρ>>=fun ys=>m (ys.map (·.2))>>=fun r=>.ok (gJ r.2 (rtG r.1),r.2):=by
  funext ρ
  show(evA Κ Φ args ρ>>=fun ys=>match Φ[j]? with|some m=>m (ys.map (·.2))>>=fun r=>.ok (gJ r.2 (rtG r.1),r.2)|none=>.no)=_;rw[c1]
 rw[ee]at hq;exact hq) rfl
theorem p_bi {f:String}{args:C}(ia:Sd Κ Φ args):Sd Κ Φ (.bi f args):=Sd.x (fun Γ X r e k h=>by
 obtain⟨⟨x,es⟩,hv,h9⟩:=z09 h;obtain⟨_,_,rfl⟩:=z1b hv;obtain⟨h1,h2,h3,h4,h5⟩:=and5 h9;obtain⟨y,es,rfl⟩:=z3m h5;have h1:=wg h1;obtain⟨g1,g2,g3,g4⟩:=k.blt h2;obtain⟨h3,hcm⟩:=and2 h3;have hf:f∈["len","max","min","int"]:=cy.mp h3;have ha:=ia.A Γ X r _ k h4;simp only[au,cw,or_false]at hf;rcases hf with rfl|rfl|rfl|rfl
 ·exact d_cB zms g2 (by rw[h1];decide+kernel) ha (z0r h4) g1 g4 g3
 ·exact d_cB (zph (k.calm (or_l hcm rfl))) g2 (by rw[h1];decide+kernel) ha (z0r h4) g1 g4 g3
 ·exact d_cB (zn8 (k.calm (or_l hcm rfl))) g2 (by rw[h1];decide+kernel) ha (z0r h4) g1 g4 g3
 ·exact ztl zlp g2 (by rw[h1];decide+kernel) ha (z0r h4) g1 g4 g3) rfl
theorem zvk {f:String}(ia:Sd Κ Φ a):Sd Κ Φ (.agg f a):=Sd.x (fun Γ X r e k h=>by
 obtain⟨⟨x,es⟩,hv,h9⟩:=z09 h;obtain⟨_,_,rfl⟩:=z1b hv;obtain⟨h1,h2,h3,h4⟩:=and4 h9;obtain⟨y,hy,k5⟩:=z09 h4;obtain⟨k4,k6⟩:=and2 k5;cases z3j hy;have k1:=wg h1;obtain⟨g1,g2,g3,g4⟩:=k.blt h2;obtain⟨a,rfl,ha⟩:=ia.G Γ X r _ k k6;have k7:=z1l k4;obtain⟨h3,hcm⟩:=and2 h3;have hf:f∈aggs:=cy.mp h3;simp only[aggs,au,cw,or_false]at hf;rcases hf with rfl|rfl|rfl|rfl|rfl
 ·exact zcz znc g2 (by rw[k1];decide+kernel) k7 ha g1 g4 g3
 ·exact zcz zj1 g2 (by rw[k1];decide+kernel) k7 ha g1 g4 g3
 ·exact zio zfp g2 (by rw[k1];decide+kernel) k7 ha g1 g4 g3
 ·exact zio (zud (k.calm hcm)) g2 (by rw[k1];decide+kernel) k7 ha g1 g4 g3
 ·exact zcz (zmx (k.calm hcm)) g2 (by rw[k1];decide+kernel) k7 ha g1 g4 g3) rfl
theorem zpb (ia:Sd Κ Φ a):Sd Κ Φ (.lset a):=Sd.x (fun Γ X r e k h=>by obtain⟨⟨x,es⟩,hv,h9⟩:=z09 h;obtain⟨_,_,rfl⟩:=z1b hv;obtain⟨h1,h2,h3⟩:=and3 h9;obtain⟨y,hy,k3⟩:=z09 h3;obtain⟨k4,k5⟩:=and2 k3;cases z3j hy;obtain⟨⟨x2,es2⟩,hv2,j9⟩:=z09 k5;obtain⟨_,_,rfl⟩:=z1b hv2;obtain⟨j1,j2,j3⟩:=and3 j9;obtain⟨y2,hy2,i3⟩:=z09 j3;obtain⟨i4,i5⟩:=and2 i3;cases z3j hy2;have k1:=wg h1;have l1:=wg j1;obtain⟨hcm,h2⟩:=and2 h2;obtain⟨g1,g2,g3,g4⟩:=k.blt h2;obtain⟨f1,f2,f3,f4⟩:=k.blt j2;exact znk (k.calm hcm) g2 (by rw[k1];decide+kernel) g1 g4 g3 f2 (by rw[l1];decide+kernel) f1 f4 f3 (z1l i4) (ia.E Γ X r _ k i5)) rfl
theorem zu9 {ts:List String}(ia:Sd Κ Φ a):Sd Κ Φ (.isT a ts):=Sd.x (fun Γ X r e k h=>by obtain⟨⟨x,es⟩,hv,h9⟩:=z09 h;obtain⟨_,_,rfl⟩:=z1b hv;obtain⟨h1,h2,h3⟩:=and3 h9;obtain⟨⟨y,t⟩,hy,k3⟩:=z09 h3;obtain⟨k4,h4,k5⟩:=and3 k3;obtain⟨T,hT,k6⟩:=z09 k5;cases zj7 hy;cases z3j hT;cases wg h1;obtain⟨g1,g2,g3,g4⟩:=k.blt h2;obtain⟨x2,p2,rfl,rfl,hb,kT⟩:=zml k6;obtain⟨b1,b2,b3,b4⟩:=k.blt hb;exact zv1 g2 g1 b2 (zhe kT) b1 b4 b3 kT (z1l k4) (ia.E Γ X r _ k h4)) rfl
theorem p_mt {m:String}{args:C}(io:Sd Κ Φ a)(ia:Sd Κ Φ args):Sd Κ Φ (.mt m a args):=Sd.x (fun Γ X r e k h=>by
 obtain⟨⟨x,n,es,b⟩,hv,h9⟩:=z09 h;obtain⟨ap,cp,rfl,hb⟩:=q_Mt hv;obtain⟨h0,h6,h7,h8⟩:=and4 h9;obtain⟨h1,h2,h3,h4,h5⟩:=and5 h0;obtain⟨y,es,rfl⟩:=z3m h8;cases wg h1;have k4:(ap.endLine==cp.line)=true:=hb.symm.trans h4;have ho:=io.E Γ X r _ k h6;have ha:=ia.A Γ X r _ k h7;have hm:m∈["get","join"]:=cy.mp h2;simp only[cw,au,or_false]at hm;rcases hm with rfl|rfl
 ·exact d_mt PySem.F.plainAttrs_dict PySem.F.slot_dict_get PySem.F.type_dict_get (zva k.hu) (fun _ _ _ _ _ _ r e=>zrw r e) ho ha h3 (z0r h7) (wb h5) k4
 ·exact d_mt PySem.F.plainAttrs_str PySem.F.slot_str_join PySem.F.type_str_join zny (fun _ _ _ _ _ _ r e=>zm2 r e) ho ha h3 (z0r h7) (wb h5) k4) rfl
theorem ztd {Γ:Gm}{X:Cx}{ifs:List Expr}{n:Nat}(ic:Sd Κ Φ c)(k:Cok Γ Κ Φ X n)(h:ifsB (isNl c) (fun t=>chkT Γ c t) ifs=true):PTs X ifs (tDT X.K (evT Κ Φ c)):=by
 cases ifs with
 |nil=>
  have:c=.nil:=by cases c<;>first|exact ff rfl h|rfl
  subst this;refine fun pins s σ H Q I q=>zmj pins s σ H Q I ?_;obtain⟨ρ,F,b,so,e,q⟩:=q;cases e;exact q H (Same.refl H)
 |cons t r=>obtain⟨h1,h2⟩:=and2 h;cases z1s h1;exact zki (ic.T Γ X n t k h2).1
theorem sC {nt:Nat}{js:List Nat}{N':List Str}{tg:Tg}{it cond elt:C}(ii:Sd Κ Φ it)(ic:Sd Κ Φ cond)(ie:Sd Κ Φ elt){Γ:Gm}{X:Cx}{r:Nat}{e:Expr}(k:Cok Γ Κ Φ X r)(h:chkE Γ (.comp nt js N' tg it cond elt) e=true):
  ∃el t i ifs scope pos,e=.ListComp el [⟨t,i,ifs,0⟩] scope pos/\BlkScope X scope N' nt js/\(∀i∈tgIx tg,i<nt)/\PI X t i (tDW X.K (evW Κ Φ it))/\(∀C fp s H,PG (blk X scope N' C fp s H) t (tDG X.K tg))/\(∀C fp s H,PTs (blk X scope N' C fp s H) ifs (tDT X.K (evT Κ Φ cond)))/\(∀C fp s H,PE (blk X scope N' C fp s H) el (tD X.K (evE Κ Φ elt)))/\(∀x,gu i X.env x=pure x)/\Γ.cm=true:=by
 obtain⟨⟨el,gs,scope⟩,hv,h9⟩:=z09 h;obtain⟨pos,rfl⟩:=q_LC hv;obtain⟨⟨t,i,ifs,kk⟩,hg,h9⟩:=z09 h9;cases z3j hg;obtain⟨h0,h6,h7,h8,h9⟩:=and5 h9;obtain⟨h1,h2,h3,h4,h5⟩:=and5 h0;obtain⟨hcm,h1⟩:=and2 h1;cases wg h1;have h2:=bt.mp h2;have hB:BlkScope X scope N' nt js:=zn2 k.hN k.hs h3;have kb:=fun C fp s H=>k.blk (N':=N') hB.kind (wb h5) C fp s H;exact⟨el,t,i,ifs,scope,pos,rfl,hB,fun i hi=>wb (h2 i hi),ii.W Γ X r _ t k (and2 h6).2 h7,fun C fp s H=>zl4 (kb C fp s H) (and2 h6).1,fun C fp s H=>ztd ic (kb C fp s H) h8,fun C fp s H=>ie.E _ _ r _ (kb C fp s H) h9,z9k h4 _,hcm⟩
theorem zp9 {nt:Nat}{js:List Nat}{N':List Str}{tg:Tg}{it cond elt:C}(ii:Sd Κ Φ it)(ic:Sd Κ Φ cond)(ie:Sd Κ Φ elt):Sd Κ Φ (.comp nt js N' tg it cond elt):=Sd.x (fun Γ X r e k h=>by obtain⟨el,t,i,ifs,scope,pos,rfl,hB,h2,hi,hg,ht,he,hs,hcm⟩:=sC ii ic ie k h;exact(zi8 (k.calm hcm) hB h2 hi hg ht he hs).1) rfl
theorem zjh {Γ:Gm}{i:Nat}{e:Expr}(h:((vMt e).any fun m=>hd1 (visB Γ i) m.1&&(m.2.1==("items":Str))&&m.2.2.1.isEmpty&&m.2.2.2)=true):∃x p ap cp,e=.Call (.Attribute (.Name x p) "items" ap) [] [] cp/\visB Γ i x=true/\(ap.endLine==cp.line)=true:=by obtain⟨⟨x,n,es,b⟩,hv,h9⟩:=z09 h;obtain⟨ap,cp,rfl,hb⟩:=q_Mt hv;obtain⟨h1,h2,h3,h4⟩:=and4 h9;obtain⟨y,p,hy,h1⟩:=z3e h1;cases hy;cases wg h2;cases z1s h3;exact⟨y,p,ap,cp,rfl,h1,hb.symm.trans h4⟩
theorem zmf {i:Nat}:Sd Κ Φ (.sortI i):=Sd.x (fun Γ X r e k h=>by obtain⟨⟨x,es⟩,hv,h9⟩:=z09 h;obtain⟨_,_,rfl⟩:=z1b hv;obtain⟨h1,h2,h3⟩:=and3 h9;obtain⟨y,hy,k3⟩:=z09 h3;cases z3j hy;obtain⟨x2,p2,ap,cp,rfl,k4,k5⟩:=zjh k3;obtain⟨hcm,h1⟩:=and2 h1;cases wg h1;obtain⟨g1,g2,g3,g4⟩:=k.blt h2;obtain⟨v1,v2,v3,v4⟩:=k.vis k4;exact zji (k.calm hcm) g2 (by show cu ("sorted":Str)=_;decide+kernel) g1 g4 g3 v1 v2 v3 v4 k5) rfl
theorem zt8 {b:Bool}{x:Str}:Sd Κ Φ (.isE b x):=Sd.x (fun Γ X r e k h=>by obtain⟨⟨f,es⟩,hv,h9⟩:=z09 h;obtain⟨_,_,rfl⟩:=z1b hv;obtain⟨h1,h2,h3⟩:=and3 h9;obtain⟨⟨y1,y2⟩,hy,h4⟩:=z09 h3;cases zj7 hy;obtain⟨⟨n,c⟩,hz,h5⟩:=z09 h4;obtain⟨h6,h7⟩:=and2 h5;obtain⟨n',p1,hn,h6⟩:=z3e h6;obtain⟨C,p2,hC,h7⟩:=z3e h7;cases hn;cases hC;obtain⟨a1,a2,a3,a4⟩:=and4 h6;obtain⟨b1,b2,b3⟩:=and3 h7;cases wg h1;cases wg a1;cases wg b1;obtain⟨g1,g2,g3,g4⟩:=k.blt h2;obtain⟨g5,g6⟩:=k.gl b2;obtain⟨a,oe,Cc,e1,e2,e3,e4⟩:=k.xc n c hz;obtain⟨A,v,u,m1,xa,xv,sb,rv,ru,mC⟩:=k.xk.sub c x b b3;rw[m1]at e4;cases e4;exact ztk g2 g1 e1 (by rw[k.hs];exact wg a2) (z1l a3) e2 e3 g5 mC rv ru g6 xa xv sb) rfl
theorem zsn:Sd Κ Φ .nil where
 E:=fun _ _ _ _ _ h=>ff rfl h
 T:=fun _ _ _ _ _ h=>ff rfl h
 Q:=fun _ _ _ _ _ _ _ _ h=>ff rfl h
 A:=fun Γ X r es k h=>by cases z1s h;exact zrs
 O:=fun Γ X r e k h=>by cases iw.mp h;exact z7j
 W:=fun _ _ _ _ _ _ _ h=>ff rfl h
 G:=fun _ _ _ _ _ h=>ff rfl h
theorem zom (ia:Sd Κ Φ a)(ib:Sd Κ Φ b):Sd Κ Φ (.cons a b) where
 E:=fun _ _ _ _ _ h=>ff rfl h
 T:=fun _ _ _ _ _ h=>ff rfl h
 Q:=fun _ _ _ _ _ _ _ _ h=>ff rfl h
 A:=fun Γ X r es k h=>by
  cases es with
  |nil=>cases h
  |cons e es=>obtain⟨h1,h2,h3⟩:=and3 h;exact zdo (z1l h1) (ia.E Γ X r _ k h2) (ib.A Γ X r _ k h3)
 O:=fun _ _ _ _ _ h=>ff rfl h
 W:=fun _ _ _ _ _ _ _ h=>ff rfl h
 G:=fun _ _ _ _ _ h=>ff rfl h
theorem zsm (ia:Sd Κ Φ a):Sd Κ Φ (.rng a) where
 E:=fun _ _ _ _ _ h=>ff rfl h
 T:=fun _ _ _ _ _ h=>ff rfl h
 Q:=fun _ _ _ _ _ _ _ _ h=>ff rfl h
 A:=fun _ _ _ _ _ h=>ff rfl h
 O:=fun _ _ _ _ _ h=>ff rfl h
 W:=fun Γ X r e tg k _ h=>by
  obtain⟨⟨x,es⟩,hv,h9⟩:=z09 h;obtain⟨_,_,rfl⟩:=z1b hv;obtain⟨h1,h2,h3,h4⟩:=and4 h9;obtain⟨h4,h5⟩:=and2 h4;cases wg h1;obtain⟨g1,g2,g3,g4⟩:=k.blt h2;have hs:=bt.mp (z0r h3);have hl:=z2v Κ Φ h3;have ha:=ia.A Γ X r _ k h3;rcases es with _|⟨x,_|⟨y,es⟩⟩
  ·cases h4
  ·exact zof g2 g1 (z1l (hs x (.head _))) ha hl
  ·exact absurd (wb h5) (Nat.not_le.mpr (Nat.succ_lt_succ (p7 _)))
 G:=fun _ _ _ _ _ h=>ff rfl h
theorem zi1 {e:Expr}(h:isTup e=true):∃a b c,e=.Tuple a b c:=by cases e<;>first|exact ff rfl h|exact⟨_,_,_,rfl⟩
theorem zir {Γ:Gm}{e:Expr}(h:chkW Γ (.enum a) e=true):∃y q p,e=.Call (.Name "enumerate" q) [y] [] p/\bltB Γ "enumerate"=true/\isStar y=false/\chkE Γ a y=true:=by obtain⟨⟨x,es⟩,hv,h9⟩:=z09 h;obtain⟨q,p,rfl⟩:=z1b hv;obtain⟨h1,h2,h3⟩:=and3 h9;obtain⟨y,hy,h3⟩:=z09 h3;cases z3j hy;cases wg h1;exact⟨y,q,p,rfl,h2,z1l (and2 h3).1,(and2 h3).2⟩
theorem znq {Γ:Gm}{e:Expr}(h:chkW Γ (.zip a b) e=true):∃y z q p,e=.Call (.Name "zip" q) [y,z] [] p/\bltB Γ "zip"=true/\isStar y=false/\isStar z=false/\chkE Γ a y=true/\chkE Γ b z=true:=by obtain⟨⟨x,es⟩,hv,h9⟩:=z09 h;obtain⟨q,p,rfl⟩:=z1b hv;obtain⟨h1,h2,h3⟩:=and3 h9;obtain⟨⟨y,z⟩,hy,h3⟩:=z09 h3;cases zj7 hy;cases wg h1;obtain⟨h4,h5,h6⟩:=and3 h3;exact⟨y,z,q,p,rfl,h2,z1l (and2 h4).1,z1l (and2 h4).2,h5,h6⟩
theorem zor (ia:Sd Κ Φ a):Sd Κ Φ (.enum a) where
 E:=fun _ _ _ _ _ h=>ff rfl h
 T:=fun _ _ _ _ _ h=>ff rfl h
 Q:=fun _ _ _ _ _ _ _ _ h=>ff rfl h
 A:=fun _ _ _ _ _ h=>ff rfl h
 O:=fun _ _ _ _ _ h=>ff rfl h
 W:=fun Γ X r e tg k ht h=>by obtain⟨y,q,p,rfl,h2,h3,h4⟩:=zir h;obtain⟨_,_,_,rfl⟩:=zi1 ht;obtain⟨g1,g2,g3,g4⟩:=k.blt h2;exact zqg g2 g1 h3 (ia.E Γ X r _ k h4)
 G:=fun _ _ _ _ _ h=>ff rfl h
theorem zry (ia:Sd Κ Φ a)(ib:Sd Κ Φ b):Sd Κ Φ (.zip a b) where
 E:=fun _ _ _ _ _ h=>ff rfl h
 T:=fun _ _ _ _ _ h=>ff rfl h
 Q:=fun _ _ _ _ _ _ _ _ h=>ff rfl h
 A:=fun _ _ _ _ _ h=>ff rfl h
 O:=fun _ _ _ _ _ h=>ff rfl h
 W:=fun Γ X r e tg k ht h=>by obtain⟨y,z,q,p,rfl,h2,h3,h4,h5,h6⟩:=znq h;obtain⟨g1,g2,g3,g4⟩:=k.blt h2;exact zg2 ht g2 g1 h3 h4 (ia.E Γ X r _ k h5) (ib.E Γ X r _ k h6)
 G:=fun _ _ _ _ _ h=>ff rfl h
theorem zql (hx:isX c=0)(hn:∀Γ e,chkE Γ c e=false):Sd Κ Φ c:=Sd.x (fun Γ X r e k h=>ff (hn Γ e) h) hx
theorem all (c:C):Sd Κ Φ c:=by
 induction c with
 |var=>exact zt5
 |non=>exact zvf
 |bl=>exact p_bl
 |int=>exact ztr
 |str=>exact zs4
 |bin _ _ _ ia ib=>exact zun ia ib
 |cmp _ _ _ ia ib=>exact ztp ia ib
 |isN _ _ ia=>exact zv6 ia
 |and _ _ ia ib=>exact zvj ia ib
 |or _ _ ia ib=>exact p_or ia ib
 |not _ ia=>exact zvb ia
 |ife _ _ _ ic ia ib=>exact zsr ic ia ib
 |tup _ ia=>exact zse ia
 |lst _ ia=>exact zst ia
 |dnew=>exact zo0
 |ix _ _ ia ib=>exact p_ix ia ib
 |sl _ _ _ ia ib ic=>exact p_sl ia ib ic
 |call _ _ _ ia=>exact zoc ia
 |bi _ _ ia=>exact p_bi ia
 |agg _ _ ia=>exact zvk ia
 |isT _ _ ia=>exact zu9 ia
 |mt _ _ _ ia ib=>exact p_mt ia ib
 |comp _ _ _ _ _ _ _ ia ib ic=>exact zp9 ia ib ic
 |sortI=>exact zmf
 |rng _ ia=>exact zsm ia
 |rep _ _ ia ib=>exact zsl ia ib
 |enum _ ia=>exact zor ia
 |zip _ _ ia ib=>exact zry ia ib
 |tv _ ia=>exact p_tv ia
 |isE=>exact zt8
 |lset _ ia=>exact zpb ia
 |nil=>exact zsn
 |cons _ _ ia ib=>exact zom ia ib
 |_=>exact zql rfl fun _ _=>rfl
end
section
variable (Κ:List D)(Φ:List Fn)
theorem z99 {el:Expr}{gs:List kr}{s:Scope}{p px:Pos}{t:Str}{n:Nat}{env:Env}:l6 (.ListComp el gs s p) (some (.Name t px)) n env=pure (env.blockKind==.function&&env.kindOf t==some .local&&px.line==p.line&& !(s.names.any fun(n,k)=>n==t&&(k==.local||k==.cell))):=rfl
theorem zk8 {Γ:Gm}{c:C}{el:Expr}{gs:List kr}{s:Scope}{p:Pos}(hn:isCI c=false)(h:chkE Γ c (.ListComp el gs s p)=true):∃nt js N' tg it cond elt,c=.comp nt js N' tg it cond elt:=by cases c<;>first|exact ff rfl h|exact⟨_,_,_,_,_,_,_,rfl⟩|(cases hn;done)
theorem zk4 {Γ:Gm}{c:C}{el:Expr}{gs:List kr}{s:Scope}{p:Pos}(h:chkE Γ c (.SetComp el gs s p)=true):False:=by cases c<;>exact ff rfl h
theorem zlb {Γ:Gm}{c:C}{el el2:Expr}{gs:List kr}{s:Scope}{p:Pos}(h:chkE Γ c (.DictComp el el2 gs s p)=true):False:=by cases c<;>exact ff rfl h
theorem sAsg {Γ:Gm}{X:Cx}{r:Nat}(k:Cok Γ Κ Φ X r){i:Nat}{x:Str}{px pos:Pos}{c:C}{v:Expr}(h1:locB Γ i x=true)(hn:isCI c=false)(h2:chkE Γ c v=true):PS X (.Assign [.Name x px] v pos) (tDS X.K fun ρ=>evE Κ Φ c ρ>>=fun x=>.ok (.nx (ρ.set i (some (z1x x))))):=by
 obtain⟨l1,l2,l3⟩:=k.loc h1;have nd:X.N.Nodup:=by rw[k.hN];exact k.nd
 cases hc:z21 v with
 |false=>exact zo6 nd l1 l2 l3 (z2j hc _ _ _) ((all c).E Γ X r _ k h2)
 |true=>
  cases v<;>first|(cases hc;done)|skip
  ·rename_i el gs s p;cases hb:(X.env.blockKind==.function&&X.env.kindOf x==some .local&&px.line==p.line&& !(s.names.any fun(n,k)=>n==x&&(k==.local||k==.cell)))with
   |false=>exact zo6 nd l1 l2 l3 (by rw[z99,hb]) ((all c).E Γ X r _ k h2)
   |true=>
    obtain⟨nt,js,N',tg,it,cond,elt,rfl⟩:=zk8 hn h2;obtain⟨el',t,i',ifs,scope,pos',e,hB,h0,hi,hg,ht,he,hs,hcm⟩:=sC (all it) (all cond) (all elt) k h2;cases e;have hl:X.env.scope.names.lookup x=some .local:=by simp only[ba,beq_iff_eq]at hb;exact hb.1.1.2
    refine PS.imp (zgc (k.calm hcm) nd l1 hl hB hi hg ht he (by rw[z99,hb]) hs) fun D σ H q=>?_;exact zif (fa:=zem nt js tg (evW Κ Φ it) (evT Κ Φ cond) (evE Κ Φ elt)) (fun σ H Q z=>(zi8 (pos:=p) (k.calm hcm) hB h0 hi hg ht he hs).2 σ H Q z) D σ H q
  ·exact(zk4 h2).elim
  ·exact(zlb h2).elim
theorem sFF {Γ:Gm}{X:Cx}{r:Nat}(k:Cok Γ Κ Φ X r){c:C}{ie tg:Expr}(hh:chkF Γ c tg ie=true):PI X tg ie (tDF X.K (evF Κ Φ c))/\zf5 ie=true:=by
 obtain⟨ht,h⟩:=and2 hh;have hw:=(all (Κ:=Κ) (Φ:=Φ) c).W Γ X r ie tg k ht h;cases c with
 |tv a=>
  have hal:=PI.orD (k:=fun ρ=>isAl Κ Φ (.tv a) ρ) (f_al ((all a).E Γ X r _ k (and2 h).2)) (zrq hw);refine⟨?_,(and2 h).1⟩;cases a with
  |var i=>obtain⟨x,p,rfl,h2⟩:=z3e (and2 h).2;obtain⟨v1,v2,v3,v4⟩:=k.vis h2;exact PI.orD (k:=fun ρ=>ownB ρ i) (zv3 v1 v2 v3 v4) hal
  |_=>exact hal
 |enum a=>obtain⟨y,q,p,rfl,h2,h3,h4⟩:=zir h;obtain⟨_,_,_,rfl⟩:=zi1 ht;obtain⟨g1,g2,g3,g4⟩:=k.blt h2;exact⟨znd g2 g1 h3 ((all a).E Γ X r _ k h4),rfl⟩
 |zip a b=>
  obtain⟨y,z,q,p,rfl,h2,h3,h4,h5,h6⟩:=znq h;obtain⟨g1,g2,g3,g4⟩:=k.blt h2
  have ez:evF Κ Φ (.zip a b)=fun ρ=>(evE Κ Φ a ρ>>=fun x=>evE Κ Φ b ρ>>=fun y=>Res.ok [x,y])>>=fun ys=>evZi ys ρ:=by
   funext ρ
   show((evE Κ Φ a ρ>>=fun x=>(evE Κ Φ b ρ>>=fun y=>Res.ok [y])>>=fun xs=>Res.ok (x::xs))>>=fun ys=>evZi ys ρ)=_;cases evE Κ Φ a ρ with
   |ok x=>cases evE Κ Φ b ρ<;>rfl
   |exc=>rfl
   |no=>rfl
  rw[ez];exact⟨zj2 ht g2 g1 h3 h4 ((all a).E Γ X r _ k h5) ((all b).E Γ X r _ k h6),rfl⟩
 |rng a=>refine⟨zrq hw,?_⟩;obtain⟨v,hv,_⟩:=z09 h;obtain⟨_,_,rfl⟩:=z1b hv;rfl
 |_=>exact ff rfl h
theorem z7r {a:List Expr}{b:Nat}{c:Pos}{v:Expr}{env:Env}(h:isTup v=false):sf [.Tuple a b c] v env=pure none:=by cases v<;>first|rfl|(cases h;done)
theorem q_As {s:Stmt}{v:List Expr×Expr}(h:vAs s=some v):∃p,s=.Assign v.1 v.2 p:=v_of (q:=fun v=>∃p,s=.Assign v.1 v.2 p) h (by cases s<;>first|exact .inl rfl|exact .inr ⟨_,rfl,_,rfl⟩)
theorem q_Ex {s:Stmt}{v:Expr}(h:vEx s=some v):∃p,s=.Expr v p:=v_of (q:=fun v=>∃p,s=.Expr v p) h (by cases s<;>first|exact .inl rfl|exact .inr ⟨_,rfl,_,rfl⟩)
theorem q_Rt {s:Stmt}{v:Option Expr}(h:vRt s=some v):∃p,s=.Return v p:=v_of (q:=fun v=>∃p,s=.Return v p) h (by cases s<;>first|exact .inl rfl|exact .inr ⟨_,rfl,_,rfl⟩)
theorem q_If {s:Stmt}{v:Expr×List Stmt×List Stmt}(h:vIf s=some v):∃p,s=.If v.1 v.2.1 v.2.2 p:=v_of (q:=fun v=>∃p,s=.If v.1 v.2.1 v.2.2 p) h (by cases s<;>first|exact .inl rfl|exact .inr ⟨_,rfl,_,rfl⟩)
theorem q_Fo {s:Stmt}{v:Expr×Expr×List Stmt×List Stmt}(h:vFo s=some v):∃p,s=.For v.1 v.2.1 v.2.2.1 v.2.2.2 p:=v_of (q:=fun v=>∃p,s=.For v.1 v.2.1 v.2.2.1 v.2.2.2 p) h (by cases s<;>first|exact .inl rfl|exact .inr ⟨_,rfl,_,rfl⟩)
theorem q_Wh {s:Stmt}{v:Expr×List Stmt×List Stmt}(h:vWh s=some v):∃p,s=.While v.1 v.2.1 v.2.2 p:=v_of (q:=fun v=>∃p,s=.While v.1 v.2.1 v.2.2 p) h (by cases s<;>first|exact .inl rfl|exact .inr ⟨_,rfl,_,rfl⟩)
structure Ss (s:S):Prop where
 R:∀(Γ:Gm) (X:Cx) (r:Nat) (st:Stmt),Cok Γ Κ Φ X r->gq (model X.prog X.w) X.A X.env X.xe->chk1 Γ s st=true->PS X st (tDS X.K (evS Κ Φ s))
 L:∀(Γ:Gm) (X:Cx) (r:Nat) (st:List Stmt),Cok Γ Κ Φ X r->gq (model X.prog X.w) X.A X.env X.xe->chkL Γ s st=true->PSs X st (tDS X.K (evS Κ Φ s))
def isSq:S->Bool
 |.nil=>false
 |.seq _ _=>false
 |_=>true
variable {Κ:List D}{Φ:List Fn}
theorem Ss.x {s:S}(h:∀(Γ:Gm) (X:Cx) (r:Nat) (st:Stmt),Cok Γ Κ Φ X r->gq (model X.prog X.w) X.A X.env X.xe->chk1 Γ s st=true->PS X st (tDS X.K (evS Κ Φ s)))(hx:isSq s=true):Ss Κ Φ s:=⟨h,by cases s<;>first|(cases hx;done)|exact fun _ _ _ _ _ _ h=>ff rfl h⟩
theorem zuf {t:Tg}{e:C}:Ss Κ Φ (.asg t e):=Ss.x (fun Γ X r st k hp h=>by
 obtain⟨⟨ts,v⟩,hv,h9⟩:=z09 h;obtain⟨p,rfl⟩:=q_As hv;obtain⟨x,hx,h8⟩:=z09 h9;cases z3j hx;obtain⟨h1,h2,h3,h4⟩:=and4 h8;cases t with
 |nm i=>obtain⟨y,q,rfl,h5⟩:=z3e h1;exact sAsg Κ Φ k h5 (z1l h2) h4
 |tp is=>obtain⟨k1,k2⟩:=and2 (show(!z21 v&& !isTup v)=true from h3);obtain⟨es,hes,_⟩:=z09 (and2 h1).2;obtain⟨_,_,rfl⟩:=zju hes;exact zo5 (zl4 k (t:=.tp is) h1) ((all e).E Γ X r _ k h4) ((show se [_] _ _ _=l6 _ _ _ _ from rfl).trans (z2j (z1l k1) _ _ _)) (z7r (z1l k2)) rfl) rfl
theorem zm7 {i:Nat}{a b:C}:Ss Κ Φ (.setIx i a b):=Ss.x (fun Γ X r st k hp h=>by obtain⟨⟨ts,v⟩,hv,h9⟩:=z09 h;obtain⟨p,rfl⟩:=q_As hv;obtain⟨x,hx,h8⟩:=z09 h9;cases z3j hx;obtain⟨⟨y,ie⟩,hy,h7⟩:=z09 h8;obtain⟨_,rfl⟩:=zjm hy;obtain⟨h1,h2,h3,h4,h5⟩:=and5 h7;obtain⟨z,q,hz,h6⟩:=z3e h1;cases hz;obtain⟨v1,v2,v3,v4⟩:=k.vis h6;exact zs5 k.hu v1 v2 v3 v4 (z1l h3) ((all a).E Γ X r _ k h4) ((all b).E Γ X r _ k h5)) rfl
theorem zuu {m:String}{i:Nat}{args:C}:Ss Κ Φ (.mut m i args):=Ss.x (fun Γ X r st k hp h=>by obtain⟨c,hv,h9⟩:=z09 h;obtain⟨p,rfl⟩:=q_Ex hv;obtain⟨⟨x,n,es,b⟩,hm,h8⟩:=z09 h9;obtain⟨ap,cp,rfl,hb⟩:=q_Mt hm;obtain⟨h0,h6,h7⟩:=and3 h8;obtain⟨h1,h2,h3,h4,h5⟩:=and5 h0;obtain⟨z,q,hz,k1⟩:=z3e h1;cases hz;obtain⟨y,es,rfl⟩:=z3m h6;cases wg h2;cases br.mp (cy.mp h3);obtain⟨v1,v2,v3,v4⟩:=k.vis k1;exact zfn v1 v2 v3 v4 ((all args).A Γ X r _ k h7) (z0r h7) (wb h5) (hb.symm.trans h4)) rfl
theorem zrj {e:C}:Ss Κ Φ (.drop e):=Ss.x (fun Γ X r st k hp h=>by obtain⟨v,hv,h9⟩:=z09 h;obtain⟨p,rfl⟩:=q_Ex hv;obtain⟨h1,h2⟩:=and2 h9;exact zpu (z1l h1) ((all e).E Γ X r _ k h2)) rfl
theorem ztu {e:C}:Ss Κ Φ (.ret e):=Ss.x (fun Γ X r st k hp h=>by
 obtain⟨o,hv,h9⟩:=z09 h;obtain⟨p,rfl⟩:=q_Rt hv;obtain⟨v,rfl,h8⟩:=z09 h9;have g:=(all (Κ:=Κ) (Φ:=Φ) e).E Γ X r _ k h8;cases e with
 |var i=>obtain⟨x,q,rfl,h7⟩:=z3e h8;obtain⟨v1,v2,v3,v4⟩:=k.vis h7;exact z7y v1 v2 v3 v4
 |_=>exact zsu g) rfl
theorem q_if {c:C}{a b:S}(ia:Ss Κ Φ a)(ib:Ss Κ Φ b):Ss Κ Φ (.ifS c a b):=Ss.x (fun Γ X r st k hp h=>by obtain⟨v,hv,h9⟩:=z09 h;obtain⟨p,rfl⟩:=q_If hv;obtain⟨h1,h2,h3⟩:=and3 h9;exact s_if ((all c).T Γ X r _ k h1).1 (ia.L Γ X r _ k hp h2) (ib.L Γ X r _ k hp h3)) rfl
theorem zn0 {t:Tg}{it:C}{b:S}(ib:Ss Κ Φ b):Ss Κ Φ (.for_ t it b):=Ss.x (fun Γ X r st k hp h=>by obtain⟨hcm,h⟩:=and2 h;obtain⟨⟨t,i,B,o⟩,hv,h9⟩:=z09 h;obtain⟨p,rfl⟩:=q_Fo hv;obtain⟨h1,h2,h3,h4⟩:=and4 h9;cases z1s h4;obtain⟨hf,hn⟩:=sFF Κ Φ k h2;exact zsv hp (k.calm hcm) hf (zl4 k h1) (ib.L Γ X r _ k hp h3) (z9k hn _)) rfl
theorem q_wh {n:Nat}{c:C}{b:S}(ib:Ss Κ Φ b):Ss Κ Φ (.wh n c b):=Ss.x (fun Γ X r st k hp h=>by obtain⟨⟨t,B,o⟩,hv,h9⟩:=z09 h;obtain⟨p,rfl⟩:=q_Wh hv;obtain⟨h1,h2,h3⟩:=and3 h9;cases z1s h3;exact zjn hp ((all c).T Γ X r _ k h1).1 (ib.L Γ X r _ k hp h2)) rfl
theorem Cok.wish {Γ:Gm}{X:Cx}{r:Nat}(k:Cok Γ Κ Φ X r)(E:Value->ac->Prop):Cok Γ Κ Φ (X.wish E) r:=⟨k.hN,k.hs,k.nd,k.fn,k.kind,k.free,k.fns,k.cst,k.fnx,k.room,k.calm,k.hu,k.fun_,k.fx0,fun n c z=>by obtain⟨a,oe,C,h1,h2,h3,h4⟩:=k.xc n c z;exact⟨a,oe,C,h1,fun p σ H s I=>h2 p σ H s I.unwish,h3,h4⟩,k.xk⟩
theorem q_Eh {h:ExceptHandler}{v:Str×Str×List Stmt}(e:vEh h=some v):∃np hp,h=.ExceptHandler (some (.Name v.1 np)) (some v.2.1) v.2.2 hp:=by
 unfold vEh at e;split at e
 ·cases e;exact⟨_,_,rfl⟩
 ·cases e
theorem q_Tr {s:Stmt}{v:Str×List Expr×Str×Str×List Stmt}(e:vTr s=some v):∃p cp ep np hp pos,s=.Try [.Expr (.Call (.Name v.1 p) v.2.1 [] cp) ep] [.ExceptHandler (some (.Name v.2.2.1 np)) (some v.2.2.2.1) v.2.2.2.2 hp] [] [] pos:=by
 unfold vTr at e;split at e
 ·obtain⟨u,h1,h2⟩:=jq.mp e;obtain⟨x,h3,rfl⟩:=dj.mp h2;obtain⟨q,p,rfl⟩:=z1b h1;obtain⟨np,hp,rfl⟩:=q_Eh h3;exact⟨_,_,_,_,_,_,rfl⟩
 ·cases e
theorem q_Ra {s:Stmt}{v:Str×List Expr}(e:vRa s=some v):∃np cp pos,s=.Raise (some (.Call (.Name v.1 np) v.2 [] cp)) none pos:=by
 unfold vRa at e;split at e
 ·obtain⟨q,p,rfl⟩:=z1b e;exact⟨_,_,_,rfl⟩
 ·cases e
theorem zk3 (s:S):Ss Κ Φ s:=by
 induction s with
 |nil=>exact⟨fun _ _ _ _ _ _ h=>ff rfl h,fun Γ X r st k hp h=>by cases z1s h;exact zvc⟩
 |seq a b ia ib=>
  refine⟨fun _ _ _ _ _ _ h=>ff rfl h,fun Γ X r st k hp h=>?_⟩;cases st with
  |nil=>cases h
  |cons s st=>exact zsy (ia.R Γ X r _ k hp (and2 h).1) (ib.L Γ X r _ k hp (and2 h).2)
 |asg=>exact zuf
 |rse=>refine Ss.x (fun Γ X r st k hp h=>?_) rfl;intro pins s σ H D I q;obtain⟨ρ,F,out,so,e,_⟩:=q;cases e
 |setIx=>exact zm7
 | «mut»=>exact zuu
 |drop=>exact zrj
 |ret=>exact ztu
 |ifS _ _ _ ia ib=>exact q_if ia ib
 |for_ _ _ _ ib=>exact zn0 ib
 |wh _ _ _ ib=>exact q_wh ib
theorem sL (Κ:List D)(Φ:List Fn)(s:S):∀(Γ:Gm) (X:Cx) (r:Nat) (st:List Stmt),Cok Γ Κ Φ X r->gq (model X.prog X.w) X.A X.env X.xe->chkL Γ s st=true->PSs X st (tDS X.K (evS Κ Φ s)):=(zk3 s).L
end
section
variable (Κ:List D)(Φ:List Fn)
structure Se (c:C):Prop where
 E:∀(Γ:Gm) (X:Cx) (r:Nat) (e:Expr),Cok Γ Κ Φ X r->chkE Γ c e=true->PE X e (tR X (exE Κ Φ c))
 A:∀(Γ:Gm) (X:Cx) (r:Nat) (es:List Expr),Cok Γ Κ Φ X r->chkA Γ c es=true->PA X es (tRA X (exA Κ Φ c))
 T:∀(Γ:Gm) (X:Cx) (r:Nat) (e:Expr),Cok Γ Κ Φ X r->chkT Γ c e=true->PT X e (tRT X (exT Κ Φ c))
variable {Κ Φ}
theorem no_E {X:Cx}{e:Expr}{c:C}(h:∀ρ,exE Κ Φ c ρ=none):PE X e (tR X (exE Κ Φ c)):=fun pins s σ H Q I z=>(z7i h σ H z).elim
theorem no_A {X:Cx}{e:List Expr}{c:C}(h:∀ρ,exA Κ Φ c ρ=none):PA X e (tRA X (exA Κ Φ c)):=fun pos pins s σ H Q I z=>(z7i h σ H z).elim
theorem no_T {X:Cx}{e:Expr}{c:C}(h:∀ρ,exT Κ Φ c ρ=none):PT X e (tRT X (exT Κ Φ c)):=fun pins s σ H Q I z=>(z7i h σ H z).elim
theorem Se.no {c:C}(h1:∀ρ,exE Κ Φ c ρ=none)(h2:∀ρ,exA Κ Φ c ρ=none)(h3:∀ρ,exT Κ Φ c ρ=none):Se Κ Φ c:=⟨fun _ _ _ _ _ _=>no_E h1,fun _ _ _ _ _ _=>no_A h2,fun _ _ _ _ _ _=>no_T h3⟩
theorem z7o {j:Nat}{f:Str}{args:C}(ia:Se Κ Φ args):Se Κ Φ (.call j f args) where
 E:=fun Γ X r e k h=>by
  obtain⟨⟨x,es⟩,hv,h9⟩:=z09 h;obtain⟨_,_,rfl⟩:=z1b hv;obtain⟨h1,h2,h3,h4,h5⟩:=and5 h9;obtain⟨y,es,rfl⟩:=z3m h5;obtain⟨h0,h1⟩:=and2 h1;cases wg h1;obtain⟨g1,g2⟩:=k.gl h2;obtain⟨m,kk,ps,c1,c2,c3⟩:=k.fnx j _ _ (wg h3);refine PE.imp (zkj c3 (k.room h0) c2 ((all args).A Γ X r _ k h4) (ia.A Γ X r _ k h4) (z0r h4) g1 g2 (z2v Κ Φ h4)) fun σ H Q hq=>?_
  have ee:exE Κ Φ (.call j x args)=fun ρ=>match(evA Κ Φ args ρ:Res (List GD))with|.ok ys=>excOf (m (qu (fun(y:GD)=>y.2) ys))|_=>exA Κ Φ args ρ:=by
   funext ρ
   show(match(evA Κ Φ args ρ:Res (List GD))with|.ok ys=>(match Φ[j]? with|some m=>excOf (m (qu (fun(y:GD)=>y.2) ys))|none=>none)|_=>exA Κ Φ args ρ)=_;rw[c1]
  rw[ee]at hq;exact hq
 A:=fun _ _ _ _ _ h=>ff rfl h
 T:=fun _ _ _ _ _ h=>ff rfl h
theorem allE (c:C):Se Κ Φ c:=by
 induction c with
 |call _ _ _ ia=>exact z7o ia
 |cons a r ia ir=>
  refine⟨fun _ _ _ _ _ h=>ff rfl h,fun Γ X n es k h=>?_,fun _ _ _ _ _ h=>ff rfl h⟩;cases es with
  |nil=>cases h
  |cons e es=>obtain⟨h1,h2,h3⟩:=and3 h;exact zjc (z1l h1) ((all a).E Γ X n _ k h2) (ia.E Γ X n _ k h2) (ir.A Γ X n _ k h3)
 |not a ia=>refine⟨fun _ _ _ _ _ _=>no_E fun _=>rfl,fun _ _ _ _ _ h=>ff rfl h,fun Γ X r e k h=>?_⟩;obtain⟨⟨o,x⟩,hv,h9⟩:=z09 h;obtain⟨p,rfl⟩:=q_Un hv;obtain⟨h1,h2⟩:=and2 h9;cases wb h1;exact zr7 (ia.T Γ X r _ k h2)
 |tv a ia=>
  refine⟨fun _ _ _ _ _ h=>ff rfl h,fun _ _ _ _ _ h=>ff rfl h,fun Γ X r e k h=>?_⟩;obtain⟨h1,h2⟩:=and2 h;rcases km.mp h1 with h1|h1
  ·exact zow (ia.E Γ X r _ k h2) (z53 h1 _)
  ·obtain⟨_,_,_,_,rfl⟩:=zdn h1;cases a<;>first|exact no_T fun _=>rfl|exact ff rfl h2
 |_=>exact Se.no (fun _=>rfl) (fun _=>rfl) fun _=>rfl
variable (Κ Φ)
structure Sq (s:S):Prop where
 R:∀(Γ:Gm) (X:Cx) (r:Nat) (st:Stmt),Cok Γ Κ Φ X r->gq (model X.prog X.w) X.A X.env X.xe->chk1 Γ s st=true->PS X st (tRS X (evX Κ Φ s))
 L:∀(Γ:Gm) (X:Cx) (r:Nat) (st:List Stmt),Cok Γ Κ Φ X r->gq (model X.prog X.w) X.A X.env X.xe->chkL Γ s st=true->PSs X st (tRS X (evX Κ Φ s))
variable {Κ Φ}
theorem Sq.x {s:S}(h:∀(Γ:Gm) (X:Cx) (r:Nat) (st:Stmt),Cok Γ Κ Φ X r->gq (model X.prog X.w) X.A X.env X.xe->chk1 Γ s st=true->PS X st (tRS X (evX Κ Φ s)))(hx:isSq s=true):Sq Κ Φ s:=⟨h,by cases s<;>first|(cases hx;done)|exact fun _ _ _ _ _ _ h=>ff rfl h⟩
theorem Sq.no {s:S}(h:∀ρ,evX Κ Φ s ρ=none)(hx:isSq s=true):Sq Κ Φ s:=Sq.x (fun Γ X r st k hp hc pins sh σ H D I z=>(z7i h σ H z).elim) hx
theorem zol {e:Expr}(h:zrt e=true):∃z k p,e=.Constant (.str z) k p:=by obtain⟨c,hc,h⟩:=z09 h;obtain⟨k,p,rfl⟩:=zb9 hc;cases c<;>first|(cases h;done)|exact⟨_,_,_,rfl⟩
theorem allX (s:S):Sq Κ Φ s:=by
 induction s with
 |nil=>exact⟨fun _ _ _ _ _ _ h=>ff rfl h,fun Γ X r st k hp h=>by cases z1s h;exact zn3⟩
 |seq a b ia ib=>
  refine⟨fun _ _ _ _ _ _ h=>ff rfl h,fun Γ X r st k hp h=>?_⟩;cases st with
  |nil=>cases h
  |cons s st=>exact zo2 ((zk3 a).R Γ X r _ k hp (and2 h).1) (ia.R Γ X r _ k hp (and2 h).1) (ib.L Γ X r _ k hp (and2 h).2)
 |ifS c a b ia ib=>refine Sq.x (fun Γ X r st k hp h=>?_) rfl;obtain⟨v,hv,h9⟩:=z09 h;obtain⟨p,rfl⟩:=q_If hv;obtain⟨h1,h2,h3⟩:=and3 h9;exact zth ((all c).T Γ X r _ k h1).1 ((allE c).T Γ X r _ k h1) (ia.L Γ X r _ k hp h2) (ib.L Γ X r _ k hp h3)
 |drop e=>refine Sq.x (fun Γ X r st k hp h=>?_) rfl;obtain⟨v,hv,h9⟩:=z09 h;obtain⟨p,rfl⟩:=q_Ex hv;obtain⟨h1,h2⟩:=and2 h9;exact zkm (z1l h1) ((allE e).E Γ X r _ k h2)
 |ret e=>refine Sq.x (fun Γ X r st k hp h=>?_) rfl;obtain⟨o,hv,h9⟩:=z09 h;obtain⟨p,rfl⟩:=q_Rt hv;obtain⟨v,rfl,h8⟩:=z09 h9;exact zok ((allE e).E Γ X r _ k h8)
 |asg t e=>
  cases t with
  |tp is=>exact Sq.no (fun _=>rfl) rfl
  |nm i=>
   cases e with
   |call j f args=>
    refine Sq.x (fun Γ X r st k hp h=>?_) rfl;obtain⟨⟨ts,v⟩,hv,h9⟩:=z09 h;obtain⟨p,rfl⟩:=q_As hv;obtain⟨x,hx,h8⟩:=z09 h9;cases z3j hx;obtain⟨h1,h2,h3,h4⟩:=and4 h8;obtain⟨y,q,rfl,h5⟩:=z3e h1;obtain⟨l1,l2,l3⟩:=k.loc h5;have hc:z21 v=false:=by obtain⟨u,hu,_⟩:=z09 h4;obtain⟨_,_,rfl⟩:=z1b hu;rfl
    exact znf (by rw[k.hN];exact k.nd) l1 l2 l3 hc ((allE _).E Γ X r _ k h4)
   |_=>exact Sq.no (fun _=>rfl) rfl
 |rse c=>refine Sq.x (fun Γ X r st k hp h=>?_) rfl;obtain⟨⟨x,es⟩,hv,h9⟩:=z09 h;obtain⟨np,cp,pos,rfl⟩:=q_Ra hv;obtain⟨h1,h2,h3,h4,h5⟩:=and5 h9;obtain⟨y,hy,h6⟩:=z09 h5;cases z3j hy;obtain⟨z,kk,p,rfl⟩:=zol h6;cases wg h1;obtain⟨g1,g2⟩:=k.gl h2;obtain⟨C,m1,xC⟩:=k.xk.rs x h3;exact zk0 (k.room h4).hd g1 m1 g2 xC
 |_=>exact Sq.no (fun _=>rfl) rfl
end
section
variable {P:a8}{w:World}{K:W.Frag}{mg:Str->Option Value}{base:Heap}
structure Dok (Γ:Gm)(Κ:List D)(Φ:List Fn)(P:a8)(w:World)(K:W.Frag)(mg:Str->Option Value)(base:Heap)(k:Nat):Prop where
 free:∀x,Γ.free.contains x=true->mg x=none
 fns:∀(j:Nat) f n,Γ.fns[j]?=some (f,n)->∃m k' ps,Φ[j]?=some m/\k'<=k/\Cal P w K mg base k' f ps (spD K n m)
 cst:∀(j:Nat) x,Γ.cst[j]?=some x->∃d a,Κ[j]?=some d/\mg x=some (.ref a)/\∀H B,B none->Rep K H B (.ref a) d
 fnx:∀(j:Nat) f n,Γ.fns[j]?=some (f,n)->∃m k' ps,Φ[j]?=some m/\k'<=k/\CalX P w K mg base k' f ps n m
 xk:Xok Γ K mg
theorem z5t {H:Hp}{A:Ad->Prop}{vs:List V}{ds:List D}{n:Nat}(r:Reps K H A vs ds):StOk K ⟨H,fun a=>H a=none\/A (some a),fun _=>none⟩ H (vs.map some++bj (n-vs.length) none) (ds.map (fun d=>some (.od,d))++bj (n-ds.length) none) where
 ext:=Same.refl H
 vis:=fun a e=>.inl e
 own:=fun a i e=>by cases e
 len:=by have:=r.length;simp only[az,ah,cx];omega
 sl:=fun i g d e=>by
  rw[mo]at e;split at e
  ·rename_i hi;rw[bx]at e;cases h1:ds[i]? with
   |none=>rw[h1]at e;cases e
   |some d'=>
    rw[h1]at e;cases e;obtain⟨v,h2,h3⟩:=Reps.get r h1;refine⟨v,?_,?_⟩
    ·rw[mo,if_pos (by rw[ah,r.length];rw[ah]at hi;exact hi),bx,h2];rfl
    ·refine(Rep.there _ h3).weak fun a h=>?_;cases a with
     |none=>trivial
     |some a=>exact⟨fun z=>h.2 z,.inr h.1⟩
  ·rw[fq]at e;split at e<;>cases e
theorem zdj {Κ:List D}{Φ:List Fn}{s:S}{ρ:Rho}{x:GD}(e:(match evX Κ Φ s ρ with|some c=>Res.exc (.str c)|none=>.no)=Res.ok x):False:=by cases h:evX Κ Φ s ρ<;>rw[h]at e<;>cases e
theorem d_fn {Γ:Gm}{Κ:List D}{Φ:List Fn}{x:Str}{st:Stmt}{ps:List Str}{k:Nat}{s:S}{f:Addr}{fd:e7}(Fu:Fun K x x st f fd)(Sc:FnScope Γ.N ps (z0a st))(hs:Γ.sc=z0a st)(hb:Γ.blk=false)(hxc:Γ.xc=none)(dk:Dok Γ Κ Φ P w K mg base k)(hc:chkL Γ s (z0o st)=true):
  FnOk P w K mg base CX0 (k+1) f fd ps (spD K ps.length (runD Κ Φ Γ.N.length s)):=by
 refine Fu.ok Sc (fun vs H Q E h=>h.choose_spec.choose_spec.choose_spec.1) fun cdv A outer s1 H vs Q E hr hsp=>?_;obtain⟨B,ds,r,hl,rs,e,q⟩:=hsp;refine⟨_,sL Κ Φ s Γ (cxOf CX0 P w K mg base Γ.N x (z0a st) f cdv A outer s1 H E).nox k _ ⟨rfl,hs.symm,Sc.nd,fun _ _=>rfl,by rw[hs];exact Sc.kind,dk.free,dk.fns,dk.cst,dk.fnx,fun _=>hr,fun _=>rfl,hr.units,fun _=>⟨rfl,rfl⟩,fun _=>rfl,fun _ _ z=>(by rw[hxc]at z;cases z),dk.xk⟩ PassesOwn.never hc,?_⟩;unfold runD at e;have so:=z5t (n:=Γ.N.length) rs;have hd:ds.length=vs.length:=(rs.length).symm;generalize ho:evS Κ Φ s (ds.map (fun d=>some (.od,d))++bj (Γ.N.length-ds.length) none)=out at e
 match out,ho,e with
 |.ok (.nx ρ'),ho,e=>cases e;refine⟨_,_,_,so,ho,fun σ' H' F' so' ru fr=>q .non H' (fun a o e=>(fr a o e rfl).1) rfl⟩
 |.ok (.rt g d),ho,e=>
  cases e;refine⟨_,_,_,so,ho,fun v H' hk rv=>q v H' (fun a o e=>hk a o e rfl) (rv.weak fun a h=>?_)⟩;cases g with
  |fr=>cases a<;>exact h
  |od=>cases a with
   |none=>exact .inr (.inr rfl)
   |some a=>exact(show H a=none\/B (some a)from h).elim .inl fun z=>.inr (.inl z)
  |al=>cases a with
   |none=>exact .inr (.inr rfl)
   |some a=>exact(show H a=none\/B (some a)from h).elim .inl fun z=>.inr (.inl z)
 |.exc _,ho,e=>exact(zdj (Κ:=Κ) (Φ:=Φ) e).elim
 |.no,ho,e=>exact(zdj (Κ:=Κ) (Φ:=Φ) e).elim
theorem zuc {Γ:Gm}{Κ:List D}{Φ:List Fn}{x:Str}{st:Stmt}{ps:List Str}{k:Nat}{s:S}{f:Addr}{fd:e7}(Fu:Fun K x x st f fd)(Sc:FnScope Γ.N ps (z0a st))(hs:Γ.sc=z0a st)(hb:Γ.blk=false)(hxc:Γ.xc=none)(dk:Dok Γ Κ Φ P w K mg base k)(hc:chkL Γ s (z0o st)=true):
  FnOk P w K mg base (CXE P w base) (k+1) f fd ps (spX K mg ps.length (runD Κ Φ Γ.N.length s)):=by
 obtain⟨oc,od,kV,doc,pm,an,cdv,ct,osl,rfl,lk,hcd⟩:=Fu.ex;refine zm9 lk hcd Sc (fun vs H Q E h=>h.choose_spec.choose_spec.choose_spec.1) fun A outer s1 H vs Q E hr hsp=>?_;obtain⟨B,ds,c,hl,rs,e,q⟩:=hsp;refine⟨_,(allX s).L Γ (cxOf (CXE P w base) P w K mg base Γ.N x (z0a st) f cdv A outer s1 H E) k _ ⟨rfl,hs.symm,Sc.nd,fun _ _=>rfl,by rw[hs];exact Sc.kind,dk.free,dk.fns,dk.cst,dk.fnx,fun _=>hr,fun _=>rfl,hr.units,fun _=>⟨rfl,rfl⟩,fun _=>rfl,fun _ _ z=>(by rw[hxc]at z;cases z),dk.xk⟩ PassesOwn.leaving hc,?_⟩;have so:=z5t (n:=Γ.N.length) rs;refine⟨_,_,c,so,?_,?_⟩
 ·unfold runD at e;split at e
  ·cases e
  ·cases e
  ·split at e
   ·rename_i h;cases e;exact h
   ·cases e
 ·refine⟨fun pins σ H1 s2 a C args h' I hm hS hx=>?_,fun pins σ H1 s2 a C H' s' I hm hS fl=>?_⟩
  ·exact zat I hx rfl rfl rfl hS fun s3 fl=>⟨a,C,H1,rfl,fl,q C H1 hm hS⟩
  ·exact fl.leave (outer:=[]) I rfl rfl rfl hS fun s3 fl=>⟨a,C,H',rfl,fl,q C H' hm hS⟩
theorem zap {K:W.Frag}{H:Hp}{a:Addr}{ns:List Int}(h:SqL K H a (ns.map V.int)):Reps K H (fun _=>True) [.ref a] [.list (ns.map .int)]:=by
 refine⟨_,_,rfl,⟨a,ns.map V.int,rfl,?_,?_⟩,rfl⟩
 ·rcases h with(h|h)|h
  ·exact .inl ⟨h,trivial⟩
  ·exact .inr ⟨.inl h,trivial⟩
  ·exact .inr ⟨.inr h,trivial⟩
 ·clear h
  induction ns with
  |nil=>rfl
  |cons n ns ih=>exact⟨_,_,rfl,rfl,ih⟩
end
section
variable {X:Cx}{pins:List (Addr×Obj)}{σ:L2.St}{H:Hp}{s:ac}{i:Nat}{n:Str}{a:Addr}{oe:Obj}
abbrev hld (o:Obj):HO:=.frz o (.own 0)
theorem zjl (I:Inv X pins σ H s)(hn:H a=none)(ho:s.heap.get? a=some oe)(h0:X.s₀.heap.get? a=none)(h1:a≠X.env.locals)(h2:∀v,oe.data≠.cell v)(h3:∀p∈X.pn++pins,p.1≠a):Inv X pins σ (upd H a (hld oe)) s:=by
 have ne:∀b v,H b=some v->upd H a (hld oe) b=some v:=fun b v q=>by rw[z06 (fun z=>by subst z;rw[hn]at q;cases q)];exact q
 refine⟨I.ok,I.os,I.bare,⟨I.base.keep,I.base.slot,fun b q e1 e2 e3=>?_,I.base.there,fun b xs q=>ne b _ (I.base.tups b xs q),fun b u v q=>ne b _ (I.base.frzs b u v q),fun b ps q=>?_⟩,I.loc,I.cell,?_,fun x c h=>?_,fun p hp=>?_,fun b u q=>?_,I.len,I.fx⟩
 ·rw[z06 (fun z=>by subst z;rw[h0]at e1;cases e1)];exact I.base.free b q e1 e2 e3
 ·obtain⟨more,e⟩:=I.base.tbls b ps q;exact⟨more,ne b _ e⟩
 ·rw[z06 (fun z=>h1 z.symm)];exact I.free
 ·rw[z06 (fun z=>?_)]
  ·exact I.freeC x c h
  ·obtain⟨v,o,e,d⟩:=I.cell x c h;rw[z,ho]at e;cases e;exact h2 v d
 ·obtain⟨a1,a2,a3⟩:=I.pin p hp;exact⟨a1,by rw[z06 (fun z=>h3 p hp z)];exact a2,a3⟩
 ·by_cases hb:b=a
  ·subst hb;rw[z0b]at q;cases q;exact⟨ho,_,ho⟩
  ·rw[z06 hb]at q;exact(I.hok b u q).stay (fun c v _ q=>q) (fun c q=>ne c _ q) fun c xs q=>ne c _ q
def inF (X:Cx)(i:Nat)(n:Str)(a:Addr):Cx:={X with N:=X.N.set i "",fx:=some (n,.ref a)}
theorem zp6 (ok:X.Ok)(nd:X.N.Nodup)(hi:X.N[i]?=some n)(hv:X.env.scope.names.lookup ("":Str)=none)(hl:X.env.scope.names.lookup n=some .local):(inF X i n a).Ok:=by
 refine⟨ok.mod,ok.kind,ok.glob,ok.blt,ok.above,ok.inj,ok.has,ok.cab,ok.hd,ok.frames,ok.stk,ok.exf,ok.bs,ok.bsz,ok.noex,ok.exfs,ok.funs,ok.frf,fun x u z=>?_⟩;cases z;refine⟨fun hm=>?_,hl⟩;obtain⟨j,hj⟩:=lw.mp hm;have hj:(X.N.set i "")[j]?=some n:=hj;by_cases e:i=j
 ·subst e;rw[ck (bg.mp hi).1]at hj;cases hj;rw[hv]at hl;cases hl
 ·rw[bv e]at hj;exact e (z35 nd hi hj)
theorem zni (I:Inv X pins σ H s)(nd:X.N.Nodup)(hi:X.N[i]?=some n)(hv:X.env.scope.names.lookup ("":Str)=none)(hl:X.env.scope.names.lookup n=some .local)(hσ:σ[i]?=some (some (.ref a))):Inv (inF X i n a) pins (σ.set i none) H s:=by
 obtain⟨m,hn,hlk⟩:=I.loc;refine⟨zp6 I.ok nd hi hv hl,I.os,I.bare,I.base,⟨m,hn,fun j x v e1 e2 e3=>?_⟩,I.cell,I.free,I.freeC,I.pin,I.hok,?_,fun x u z=>?_⟩
 ·have e1:(X.N.set i "")[j]?=some x:=e1;by_cases e:i=j
  ·subst e;rw[ck (by rw[I.len];exact(bg.mp hi).1)]at e2;cases e2
  ·rw[bv e]at e1 e2;exact hlk j x v e1 e2 e3
 ·show(σ.set i none).length=(X.N.set i "").length;rw[cn,cn];exact I.len
 ·cases z;obtain⟨u,r,q⟩:=hlk i n (.ref a) hi hσ (.inl hl);cases r;rcases q with⟨_,q⟩|⟨k,_⟩
  ·exact⟨m,hn,q⟩
  ·have k:X.env.scope.names.lookup n=some .cell\/X.env.scope.names.lookup n=some .free:=k;rcases k with k|k<;>(rw[hl]at k;cases k)
theorem zkd (ok:X.Ok)(hx:X.fx=none)(hi:X.N[i]?=some n)(I:Inv (inF X i n a) pins σ H s):Inv X pins (σ.set i none) H s:=by
 obtain⟨m,hn,hlk⟩:=I.loc;have hlen:σ.length=(X.N.set i "").length:=I.len;rw[cn]at hlen;refine⟨ok,I.os,I.bare,I.base,⟨m,hn,fun j x v e1 e2 e3=>?_⟩,I.cell,I.free,I.freeC,I.pin,I.hok,by rw[cn];exact hlen,fun x u z=>by rw[hx]at z;cases z⟩;by_cases e:i=j
 ·subst e;rw[ck (by rw[hlen];exact(bg.mp hi).1)]at e2;cases e2
 ·rw[bv e]at e2;exact hlk j x v (show(X.N.set i "")[j]?=some x by rw[bv e];exact e1) e2 e3
theorem zkh (h:X.H₀ a=some (hld oe)):Xh X a oe:=fun _ _ _ _ I=>(I.hok a _ (I.base.frzs a oe _ h)).1
end
section
variable {P:a8}{w:World}{K:W.Frag}{mg:Str->Option Value}{base:Heap}
def spE (mg:Str->Option Value)(c:Str)(r:Bool):Sp:=fun vs H Q _=>∃a oe C,vs=[.ref a]/\H a=some (hld oe)/\oe.cls=.ref C/\mg c=some (.ref C)/\∀H',Same H H'->Q (.bl r) H'
theorem zhb {H:Hp}{N:Nat}{σ:L2.St}(hl:σ.length=N):StOk K ⟨H,fun a=>H a=none\/True,fun _=>none⟩ H σ (bj N none) where
 ext:=Same.refl H
 vis:=fun a e=>.inl e
 own:=fun a i e=>by cases e
 len:=by rw[cx];exact hl
 sl:=fun i g d e=>by rw[fq]at e;split at e<;>cases e
theorem zt2 {Γ:Gm}{N:List Str}{x p c:Str}{st:Stmt}{k:Nat}{s:S}{g:G}{r:Bool}{f:Addr}{fd:e7}(Fu:Fun K x x st f fd)(Sc:FnScope N [p] (z0a st))(h0:N[0]?=some p)(hN:Γ.N=N.set 0 "")(nd:(N.set 0 "").Nodup)(hs:Γ.sc=z0a st)(hb:Γ.blk=false)(hf:Γ.fns=[])(hcs:Γ.cst=[])(hxc:Γ.xc=some (p,c))
  (hv:(z0a st).names.lookup ("":Str)=none) (hl:(z0a st).names.lookup p=some .local) (free:∀y,Γ.free.contains y=true->mg y=none) (xk:Xok Γ K mg) (hc:chkL Γ s (z0o st)=true) (he:evS [] [] s (bj N.length none)=.ok (.rt g (.bool r))):FnOk P w K mg base CX0 (k+1) f fd [p] (spE mg c r):=by
 refine Fu.ok Sc (fun vs H Q E h=>by obtain⟨_,_,_,rfl,_⟩:=h;rfl) fun cdv A outer s1 H vs Q E hr hsp=>?_;obtain⟨a,oe,C,rfl,hH,hcl,hm,q⟩:=hsp;refine⟨fun D σ H1=>σ=start N [.ref a]/\H1=H/\∀H',Same H H'->D.rt (.bl r) H',?_,rfl,rfl,q⟩;intro pins s2 σ H1 D I hq;obtain⟨rfl,rfl,hq⟩:=hq;have hsl:(start N [V.ref a])[0]?=some (some (.ref a)):=rfl;have I2:=zni (i:=0) (n:=p) (a:=a) I Sc.nd h0 hv hl hsl;have len:((start N [V.ref a]).set 0 none).length=N.length:=by rw[cn];exact I.len
 have so:StOk K ⟨H1,fun a=>H1 a=none\/True,fun _=>none⟩ H1 ((start N [V.ref a]).set 0 none) (bj N.length none):=zhb len;have h:=sL [] [] s Γ (inF (cxOf CX0 P w K mg base N x (z0a st) f cdv A outer s1 H1 E).nox 0 p a) k _ ⟨hN.symm,hs.symm,by rw[hN];exact nd,fun _ _=>rfl,by rw[hs];exact Sc.kind,free,fun j _ _ z=>(by rw[hf]at z;simp at z),fun j _ z=>(by rw[hcs]at z;simp at z),fun j _ _ z=>(by rw[hf]at z;simp at z),fun _=>hr,fun _=>rfl,hr.units,fun _=>⟨rfl,rfl⟩,fun z=>(by rw[hxc]at z;cases z),fun n' c' z=>(by rw[hxc]at z;cases z;exact⟨a,oe,C,rfl,zkh hH,hcl,hm⟩),xk⟩ PassesOwn.never hc;refine jb (h pins s2 _ H1 ⟨fun _ _=>False,D.rt,fun _ _=>False,fun _ _=>False⟩ I2 ⟨_,_,_,so,he,fun v H' hk rv=>?_⟩) (fun fl s9 h9=>?_) fun e s' z=>z
 ·have ev:v=.bl r:=rv;subst ev;exact hq H' fun b o e=>hk b o e rfl
 ·cases fl with
  |ret u=>obtain⟨v,σ',H',J,rv,qv⟩:=h9;exact⟨v,_,H',zkd I.ok rfl h0 J,rv,qv⟩
  |next=>obtain⟨_,_,_,z⟩:=h9;exact z.elim
  |brk=>obtain⟨_,_,_,z⟩:=h9;exact z.elim
  |cont=>obtain⟨_,_,_,z⟩:=h9;exact z.elim
end
section
variable {X:Cx}{pins:List (Addr×Obj)}{σ:L2.St}{H:Hp}{s:ac}{i j:Nat}{n y c:Str}{r:Bool}
def Hs (mg:Str->Option Value)(c:Str)(j:Nat)(σ:L2.St)(H:Hp):Prop:=∃a oe C,σ[j]?=some (some (.ref a))/\H a=some (hld oe)/\oe.cls=.ref C/\mg c=some (.ref C)
theorem zm8 {g pr:Str}{gp yp cp pos:Pos}{k k':Nat}(Co:Cal X.prog X.w X.K X.mg X.base k g [pr] (spE X.mg c r))(hr:Room k' X.A)(hk:k<=k')(hg:Gl X g)(hdb:(g==("__debug__":Str))=false)(hN:X.N[j]?=some y)(hv:Vis X.env.scope y)(hd:(y==("__debug__":Str))=false)(hcd:(y==("__classdict__":Str))=false):
  PS X (.Return (some (.Call (.Name g gp) [.Name y yp] [] cp)) pos) (fun D σ H=>Hs X.mg c j σ H/\∀H',Same H H'->D.rt (.bl r) H'):=
 PS.imp (z9v (z9x Co hr (z4f (z4m hN hv hd hcd) z2q) rfl hk hg hdb)) fun D σ H zz=>by obtain⟨⟨a,oe,C,h1,h2,h3,h4⟩,q⟩:=zz;exact⟨.ref a,h1,a,oe,C,rfl,h2,h3,h4,q⟩
theorem zj6 {Dn:Ends}{B:Str}{C D a:Addr}{H1 H':Hp}{s1 s':ac}{np hp yp ep ap:Pos}(I:Inv X pins σ H1 s1)(fl:Fly X.prog X.w X.base X.stack H1 s1 C a H' s')(hs:X.stack=X.env::X.outer)(hf:X.env.frame=some X.env.locals)(hex:X.ex=[])(hx:X.fx=none)(nd:X.N.Nodup)(hi:X.N[i]?=some n)(hv:X.env.scope.names.lookup ("":Str)=none)(hl:X.env.scope.names.lookup n=some .local)(hdn:(n==("__debug__":Str))=false)
  (nd2:(X.N.set i "").Nodup) (hij:i≠j) (hj:X.N[j]?=some y) (hly:X.env.scope.names.lookup y=some .local) (hc:X.mg c=some (.ref C))
  (hB:X.mg B=some (.ref D)) (xC:exV X.K C=true) (xD:exV X.K D=true) (sb:W.subIn X.K (.ref C) (.ref D)=some true) (hgB:Gl X B) (hdB:(B==("__debug__":Str))=false)
  (q:∀σ' H'',Same H1 H''->Hs X.mg c j σ' H''->Dn.nx σ' H''):
  wpAny (model X.prog X.w) X.A (noteFrame (.ref a) X.env) (fun _ s2=>wpAny (model X.prog X.w) X.A (setFlight (.ref a) none) (fun _ s3=>wpAny (model X.prog X.w) X.A (handleBy (.ref a) X.env [.ExceptHandler (some (.Name B np)) (some n) [.Assign [.Name y yp] (.Name n ep) ap] hp]) (SP X pins Dn) X.xe s3) X.xe s2) X.xe s':=by
 have hfr:X.A.frames=some (X.env::X.outer):=by rw[<-hs];exact I.ok.frames
 obtain⟨B0,t,hb0,hB0,cov,w0⟩:=fl.hh;have w0':=w0;rw[hs]at w0';have mk:∀h6,Heap.FlyingW B0 (X.env::X.outer) a (.ref C) (.ref t) h6->s'.heap.UpToSlots h6->Fly X.prog X.w X.base X.stack H1 s1 C a H' {s' with heap:=h6}:=fun h6 w6 up=>by refine⟨fl.os,fl.bare,fl.same,fl.free,⟨B0,t,hb0,hB0,cov,by rw[hs];exact w6⟩,fun b o e z hb=>?_⟩;obtain⟨sl,e1⟩:=fl.slot b o e z hb;obtain⟨_,o3,e3,nd3⟩:=I.stack.mem hb;rw[e]at e3;cases e3;obtain⟨sl3,e4⟩:=up b _ e1 nd3;exact⟨sl3,e4⟩
 refine wpAny_looks_onW hfr hf w0' fun h4 held up4=>?_;refine wpAny_landsW held fun h5 w5 up5=>?_;have f5:=mk h5 w5 (up4.trans up5);have I5:=f5.inv I;refine wpAny_handleBy_cons (codeAny_handlers_test ?_) (by intro z;cases z);refine j4 I5.ok.kind hgB (o8 (by rw[I5.ok.glob];exact I5.mod.glob.keeps I5.bk) hB ?_) hdB;obtain⟨bmC,oC,cC⟩:=XC.mk I5.kIn xC;obtain⟨bmD,oD,_⟩:=XC.mk I5.kIn xD;obtain⟨ob,hob,hobc⟩:=w5.there;refine zhj oC oD hob hobc (cC _ _ sb) ?_;refine codeAny_handlers_suite_as (lands_againW w5 fun h6 w6 up6=>?_);have f6:=mk h6 w6 ((up4.trans up5).trans up6);have I6:=f6.inv I;obtain⟨oe,vs,hoe,hoec,hoed,_⟩:=w6.first;refine z4e I6 nd hi (.inl hl) (v:=.ref a) rfl (fun s7 I7 ch=>?_) (.inr hl);obtain⟨ad,sbt,had⟩:=ch;have nL:a≠X.env.locals:=fun z=>by obtain⟨_,o3,e3,nd3⟩:=I6.stack.mem (b:=X.env.locals) (by rw[hs,dg,hf];exact ak);rw[<-z]at e3;have e3:h6.get? a=some o3:=e3;rw[hoe]at e3;cases e3;exact nd3 vs hoed
 have nF:a∉X.fs:=fun z=>by obtain⟨_,o3,e3,nd3⟩:=I6.funs.mem (b:=a) z;have e3:h6.get? a=some o3:=e3;rw[hoe]at e3;cases e3;exact nd3 vs hoed
 have nA:a≠ad:=fun z=>by
  rcases had with h|h
  ·exact nL (z.trans h)
  ·obtain⟨v,oc,hoc,hocd⟩:=I6.cell n ad h;rw[<-z]at hoc;have hoc:h6.get? a=some oc:=hoc;rw[hoe]at hoc;cases hoc;rw[hoed]at hocd;cases hocd
 have ho7:s7.heap.get? a=some oe:=(sbt.2 a nA).trans hoe;have hlt:i<σ.length:=by rw[I.len];exact(bg.mp hi).1
 have hH':H' a=none:=zg7 f6;have ncell:∀v,oe.data≠.cell v:=fun v z=>by rw[hoed]at z;cases z
 have new1:s1.heap.get? a=none:=by
  cases e:s1.heap.get? a with
  |none=>rfl
  |some o=>
   cases hn:H1 a with
   |some u=>rw[fl.same a u hn]at hH';cases hH'
   |none=>
    have nst:a∉frs X.stack:=fun z=>by
     rw[hs]at z;unfold frs at z;rw[dg,hf]at z;rcases au.mp z with z|z
     ·exact nL z
     ·exact nF z
    have:=cov a o e hn nst;rw[w0.2.1]at this;cases this
 have new0:X.s₀.heap.get? a=none:=by
  cases e:X.s₀.heap.get? a with
  |none=>rfl
  |some o=>obtain⟨o',e'⟩:=I.base.there a o e (by rw[hex];simp);rw[new1]at e';cases e'
 have nP:∀p∈X.pn++pins,p.1≠a:=fun p hp z=>by have:=(I.pin p hp).1;rw[z,new1]at this;cases this
 have I8:=zn9 I7 nd hi hv hl (ck hlt) ho7 hH' nL nF ncell;rw[ut]at I8
 have I9:Inv (inX X i n a oe) ((a,oe)::pins) (σ.set i none) H' s7:=I8.pins_of fun p hp=>by
  rcases au.mp hp with rfl|hp
  ·exact I8.pin _ (gk _ ak)
  ·exact I8.pin p (ax _ hp)
 have hjN:(inX X i n a oe).N[j]?=some y:=by show(X.N.set i "")[j]?=some y;rw[bv hij];exact hj
 have st:=ps_s (X:=inX X i n a oe) (pos:=ap) (pos':=yp) nd2 hjN (.inl hly) (zpk (p:=ep) rfl hl hdn) rfl (.inr hly);have run:=zeq st ((a,oe)::pins) s7 (σ.set i none) H' ⟨fun σ' H''=>σ'=(σ.set i none).set j (some (.ref a))/\H''=H',fun _ _=>False,fun _ _=>False,fun _ _=>False⟩ I9 ⟨rfl,rfl⟩;refine jb run (fun fl2 s9 h9=>?_) fun _ _ z=>z.elim;have en:=zd7 (M:=model X.prog X.w) (D2:=⟨fun σ' H''=>σ'=(σ.set i none).set j (some (.ref a))/\H''=H',fun _ _=>False,fun _ _=>False,fun _ _=>False⟩) (Dn:=⟨fun σ' H''=>σ'=((σ.set i none).set j (some (.ref a))).set i none/\H''=H',fun _ _=>False,fun _ _=>False,fun _ _=>False⟩) (pos:=hp) (E:=X.xe) I.ok hx nd hi hl (fun σ' H'' z=>⟨by rw[z.1],z.2⟩) (fun _ _ z=>z) (fun _ _ z=>z) (fun _ _ z=>z) h9;refine jb en (fun _ s10 h10=>?_) fun _ _ z=>z;cases fl2 with
 |next=>
  obtain⟨σ',H'',I10,rfl,rfl⟩:=h10;have pa:=I10.pin (a,oe) (ax _ ak);have I11:Inv X pins _ H'' s10:=I10.pins_of fun p hp=>I10.pin p (ax _ (aq _ hp));have I12:=zjl I11 pa.2.1 pa.1 new0 nL ncell nP;refine⟨_,_,I12,q _ _ (fun b o e=>?_) ⟨a,oe,C,?_,z0b,hoec,hc⟩⟩
  ·rw[z06 (fun z=>by subst z;rw[fl.same b o e]at hH';cases hH')];exact fl.same b o e
  ·rw[bv hij,ck (by rw[cn,I.len];exact(bg.mp hj).1)]
 |ret u=>obtain⟨_,_,_,_,_,z⟩:=h10;exact z.elim
 |brk=>obtain⟨_,_,_,z⟩:=h10;exact z.elim
 |cont=>obtain⟨_,_,_,z⟩:=h10;exact z.elim
end
end Mi
namespace Mi
open PySem
structure Gd where
 kf:Nat
 args:C
 c:Str
 i:Nat
 j:Nat
 g:Str
 r:Bool
def runG (Φ:List Fn)(n:Nat)(pre:S)(d:Gd)(ds:List D):Res GD:=match evS [] Φ pre (ds.map (fun d=>some (.od,d))++bj (n-ds.length) none)with
 |.ok (.nx ρ)=>(match evA [] Φ d.args ρ with
  |.ok ys=>(match Φ[d.kf]? with
   |some m=>if excOf (m (ys.map (·.2)))=some d.c then .ok (.fr,.bool d.r)else .no
   |none=>.no)
  |_=>.no)
 |_=>.no
end Mi
namespace Mi
open PySem PySem.Spec PyProof.Rows L2
section
variable {X:Cx}{i j:Nat}{n y c:Str}
theorem zqf {e:Expr}{es:List Expr}{f B:Str}{k2 k' nn:Nat}{ps2:List Str}{m:Fn}{fs:Rho->Res (List GD)}{p cp ep np hp pos yp np2 ap:Pos}{C D:Addr}
  (Cx:CalX X.prog X.w X.K X.mg X.base k2 f ps2 nn m) (hr:Room k' X.A) (hk2:k2<=k') (ha:∀E,PA (X.wish E) (e::es) (tDA X.K fs)) (hst:((e::es).all fun e=>!isStar e)=true) (hg:Gl X f) (hdb:(f==("__debug__":Str))=false) (hlen:∀ρ ys,fs ρ=.ok ys->ys.length=nn)
  (hs:X.stack=X.env::X.outer) (hf:X.env.frame=some X.env.locals) (hex:X.ex=[]) (hx:X.fx=none) (nd:X.N.Nodup) (hi:X.N[i]?=some n) (hv:X.env.scope.names.lookup ("":Str)=none) (hl:X.env.scope.names.lookup n=some .local) (hdn:(n==("__debug__":Str))=false)
  (nd2:(X.N.set i "").Nodup) (hij:i≠j) (hj:X.N[j]?=some y) (hly:X.env.scope.names.lookup y=some .local)
  (hc:X.mg c=some (.ref C)) (hB:X.mg B=some (.ref D)) (xC:exV X.K C=true) (xD:exV X.K D=true) (sb:W.subIn X.K (.ref C) (.ref D)=some true) (hgB:Gl X B) (hdB:(B==("__debug__":Str))=false):
  PS X (.Try [.Expr (.Call (.Name f p) (e::es) [] cp) ep] [.ExceptHandler (some (.Name B np)) (some n) [.Assign [.Name y yp] (.Name n np2) ap] hp] [] [] pos) (fun Dn σ H=>∃ρ F ys,StOk X.K F H σ ρ/\fs ρ=.ok ys/\excOf (m (ys.map (·.2)))=some c/\∀σ' H',Same H H'->Hs X.mg c j σ' H'->Dn.nx σ' H'):=by
 intro pins s σ H Dn I hq;obtain⟨ρ,F,ys,so,e2,e3,q⟩:=hq;refine wpAny_Try_except ?_;generalize hE:(fun(e:Value) (s₁:ac)=>wpAny (model X.prog X.w) X.A (noteFrame e X.env) (fun _ s₂=>wpAny (model X.prog X.w) X.A (setFlight e none) (fun _ s₃=>wpAny (model X.prog X.w) X.A (handleBy e X.env [.ExceptHandler (some (.Name B np)) (some n) [.Assign [.Name y yp] (.Name n np2) ap] hp]) (SP X pins Dn) X.xe s₃) X.xe s₂) X.xe s₁)=E;have h1:=z58 (X:=X.wish E) (p:=p) (pos:=cp) Cx hr hk2 (ha E) hst hg hdb hlen (I.wish E) so e2 e3 fun H1 s1 C' a H' s' I1 z1 q1 fl=>by have e6:X.mg c=some (.ref C'):=q1;rw[hc]at e6;cases e6;show E (.ref a) s';rw[<-hE];exact zj6 I1.unwish fl hs hf hex hx nd hi hv hl hdn nd2 hij hj hly hc hB xC xD sb hgB hdB fun σ' H'' z hh=>q σ' H'' (fun b o e=>z b o (z1 b o e)) hh
 exact ly (wpAny_Expr_any (thn h1 fun _ _ z=>z.elim) I.quiet (z2j rfl _ _ _))
end
def vSv:List Stmt->Option (Str×Str)
 | [.Assign [.Name y _] (.Name n _) _]=>some (y,n)
 |_=>none
def vRg:Stmt->Option (Str×Str)
 |.Return (some (.Call (.Name g _) [.Name y _] [] _)) _=>some (g,y)
 |_=>none
theorem zqp {l:List Stmt}{v:Str×Str}(h:vSv l=some v):∃yp np ap,l=[.Assign [.Name v.1 yp] (.Name v.2 np) ap]:=by
 unfold vSv at h;split at h
 ·cases h;exact⟨_,_,_,rfl⟩
 ·cases h
theorem zpx {s:Stmt}{v:Str×Str}(h:vRg s=some v):∃gp yp cp pos,s=.Return (some (.Call (.Name v.1 gp) [.Name v.2 yp] [] cp)) pos:=by
 unfold vRg at h;split at h
 ·cases h;exact⟨_,_,_,_,rfl⟩
 ·cases h
def zku (Γ:Gm)(pre:S)(d:Gd):List Stmt->Bool
 | [s0,t,rt]=>chk1 Γ pre s0&&(vTr t).any fun v=>(vSv v.2.2.2.2).any fun u=>(vRg rt).any fun w=>
   (Γ.cm&&(Γ.xc.isNone&& !Γ.blk)&&(Γ.N[d.i]?==some v.2.2.2.1)&&(Γ.sc.names.lookup v.2.2.2.1==some .local)&&decide (Γ.N.set d.i "").Nodup)&&
   ((Γ.sc.names.lookup ("":Str)).isNone&&glB Γ v.2.2.1&&Γ.hnd.contains (d.c,v.2.2.1)&&glB Γ v.1&&glB Γ d.g)&&
   ((Γ.fns[d.kf]?==some (v.1,v.2.1.length))&&chkA Γ d.args v.2.1&& !v.2.1.isEmpty&&(u==(w.2,v.2.2.2.1))&&(w.1==d.g))&&
   (decide (d.i≠d.j)&&(Γ.N[d.j]?==some w.2)&&(Γ.sc.names.lookup w.2==some .local)&& !(v.2.2.2.1==("__debug__":Str))&&(!(w.2==("__debug__":Str))&& !(w.2==("__classdict__":Str))))
 |_=>false
theorem zm4 {Φ:List Fn}{n:Nat}{pre:S}{d:Gd}{ds:List D}{x:GD}(h:runG Φ n pre d ds=.ok x):∃ρ ys m,evS [] Φ pre (ds.map (fun d=>some (.od,d))++bj (n-ds.length) none)=.ok (.nx ρ)/\evA [] Φ d.args ρ=.ok ys/\Φ[d.kf]?=some m/\excOf (m (ys.map (·.2)))=some d.c/\x=(.fr,.bool d.r):=by
 unfold runG at h;split at h
 ·rename_i ρ e;split at h
  ·rename_i ys e2;split at h
   ·rename_i m e3;split at h
    ·rename_i hz;cases h;exact⟨ρ,ys,m,e,e2,e3,hz,rfl⟩
    ·cases h
   ·cases h
  ·cases h
 ·cases h
theorem zfw {Φ:List Fn}{n:Nat}{pre:S}{d:Gd}{ds:List D}:excOf (runG Φ n pre d ds)=none:=by
 unfold runG;split
 ·split
  ·split
   ·split<;>rfl
   ·rfl
  ·rfl
 ·rfl
section
variable {P:a8}{w:World}{K:W.Frag}{mg:Str->Option Value}{base:Heap}
theorem zti {Γ:Gm}{Φ:List Fn}{x:Str}{st:Stmt}{ps:List Str}{k kg:Nat}{pre:S}{d:Gd}{pr:Str}{f:Addr}{fd:e7}(Fu:Fun K x x st f fd)(Sc:FnScope Γ.N ps (z0a st))(hs:Γ.sc=z0a st)(hb:Γ.blk=false)(hxc:Γ.xc=none)(dk:Dok Γ [] Φ P w K mg base k)(hc:zku Γ pre d (z0o st)=true)(Cg:Cal P w K mg base kg d.g [pr] (spE mg d.c d.r))(hkg:kg<=k):
  FnOk P w K mg base CX0 (k+1) f fd ps (spD K ps.length (runG Φ Γ.N.length pre d)):=by
 refine Fu.ok Sc (fun vs H Q E h=>h.choose_spec.choose_spec.choose_spec.1) fun cdv A outer s1 H vs Q E hr hsp=>?_;obtain⟨B,ds,xx,hl,rs,e,q⟩:=hsp;obtain⟨ρ1,ys,m,e1,e2,e3,e4,rfl⟩:=zm4 e;generalize hbd:z0o st=bd at hc;unfold zku at hc;split at hc
 ·rename_i s0 t rt;obtain⟨h0,k1⟩:=and2 hc;obtain⟨⟨f',es,Bn,n,su⟩,hv,k2⟩:=z09 k1;obtain⟨⟨u1,u2⟩,hu,k3⟩:=z09 k2;obtain⟨⟨g',y⟩,hw,k4⟩:=z09 k3;clear hc k1 k2 k3;obtain⟨p,cp,ep,np,hpp,pos,rfl⟩:=q_Tr hv;obtain⟨gp,yp,cp2,pos2,rfl⟩:=zpx hw;obtain⟨k5,h4⟩:=and2 k4;obtain⟨h1,h2,h3⟩:=and3 k5;obtain⟨a1,a2,a3,a4,a5⟩:=and5 h1;obtain⟨b1,b2,b3,b4,b5⟩:=and5 h2;obtain⟨c1,c2,c3,c4,c5⟩:=and5 h3;obtain⟨d1,d2,d3,d4,d5⟩:=and5 h4;obtain⟨d6,d7⟩:=and2 d5;obtain⟨yp2,np2,ap,rfl⟩:=zqp hu;have ce4:(u1,u2)=(y,n):=wg c4;have ce5:d.g=g':=(wg c5).symm;have u1e:y=u1:=(congrArg v5 ce4).symm;have u2e:n=u2:=(congrArg v6 ce4).symm;clear c4 c5 ce4 hu hw hv k4 k5;subst u1e;subst u2e;subst ce5;obtain⟨e0,es,rfl⟩:=z3m c3;have kk:Cok Γ [] Φ (cxOf CX0 P w K mg base Γ.N x (z0a st) f cdv A outer s1 H E).nox k:=⟨rfl,hs.symm,Sc.nd,fun _ _=>rfl,by rw[hs];exact Sc.kind,dk.free,dk.fns,dk.cst,dk.fnx,fun _=>hr,fun _=>rfl,hr.units,fun _=>⟨rfl,rfl⟩,fun _=>rfl,fun _ _ z=>(by rw[hxc]at z;cases z),dk.xk⟩;obtain⟨g1,g2⟩:=kk.gl b4;obtain⟨g3,g4⟩:=kk.gl b2;obtain⟨g5,g6⟩:=kk.gl b5;obtain⟨C,D,m1,m2,x1,x2,sb⟩:=kk.xk.hnd d.c Bn b3;obtain⟨m',kk',ps',n1,n2,n3⟩:=kk.fnx d.kf _ _ (wg c1);rw[e3]at n1;cases n1;have hly:(z0a st).names.lookup y=some .local:=by rw[<-hs];exact wg d3
  have st1:=(zk3 (Κ:=[]) (Φ:=Φ) pre).R Γ _ k s0 kk PassesOwn.never h0;have st2:=zqf (j:=d.j) (y:=y) (i:=d.i) (n:=n) (c:=d.c) (p:=p) (cp:=cp) (ep:=ep) (np:=np) (hp:=hpp) (pos:=pos) (yp:=yp2) (np2:=np2) (ap:=ap) (fs:=evA [] Φ d.args) n3 hr n2 (fun E=>(all d.args).A Γ _ k _ (kk.wish E) c2) (z0r c2) g1 g2 (z2v [] Φ c2) rfl rfl rfl rfl Sc.nd (wg a3) (by have:=iw.mp b1;rw[hs]at this;exact this) (by have:=wg a4;rw[hs]at this;exact this) (z1l d4) (wb a5) (wb d1) (wg d2) hly m1 m2 x1 x2 sb g3 g4;have st3:=zm8 (X:=(cxOf CX0 P w K mg base Γ.N x (z0a st) f cdv A outer s1 H E).nox) (j:=d.j) (y:=y) (gp:=gp) (yp:=yp) (cp:=cp2) (pos:=pos2) Cg hr hkg g5 g6 (wg d2) (.inl hly) (z1l d6) (z1l d7);refine⟨_,z3z st1 (z3z st2 (zeq st3)),?_⟩;have so:=z5t (n:=Γ.N.length) rs;refine⟨_,_,_,so,e1,fun σ' H' F' so' ru fr=>⟨_,_,ys,so',e2,e4,fun σ2 H2 z hh=>⟨hh,fun H3 z3=>q (.bl d.r) H3 (fun a o e=>z3 a o (z a o (fr a o e rfl).1)) rfl⟩⟩⟩
 ·cases hc
theorem zq0 {Γ:Gm}{Φ:List Fn}{x:Str}{st:Stmt}{ps:List Str}{k:Nat}{pre:S}{d:Gd}{f:Addr}{fd:e7}(Fu:Fun K x x st f fd)(Sc:FnScope Γ.N ps (z0a st)):
  FnOk P w K mg base (CXE P w base) (k+1) f fd ps (spX K mg ps.length (runG Φ Γ.N.length pre d)):=by
 obtain⟨oc,od,kV,doc,pm,an,cdv,ct,osl,rfl,lk,hcd⟩:=Fu.ex;refine zm9 lk hcd Sc (fun vs H Q E h=>h.choose_spec.choose_spec.choose_spec.1) fun A outer s1 H vs Q E hr hsp=>?_;obtain⟨B,ds,c,hl,rs,e,q⟩:=hsp;rw[zfw]at e;cases e
end
structure XR where
 c:Str
 cs:List (Str×Bool)
 B:Str
def XR.subs (r:XR):List (Str×Str×Bool):=(r.c,"ValueError",true)::r.cs.map fun y=>(r.c,y.1,y.2)
def zgu (K:W.Frag)(A:Addr):List (Str×Bool)->Prop
 | []=>True
 |y::l=>(∃D dd cd sl,W.nsIn K cg y.1=some (some (.ref D))/\K.lookup D=some ⟨.type "type",dd,.cls cd,sl⟩/\W.subIn K (.ref A) (.ref D)=some y.2)/\zgu K A l
structure Kx (K:W.Frag)(r:XR)(A D:Addr):Prop where
 a:W.nsIn K cg r.c=some (some (.ref A))
 l:∃dd cd sl,K.lookup A=some ⟨.type "type",dd,.cls cd,sl⟩
 e:W.excIn K A [.type "ValueError",.type "Exception",.type "BaseException",.type "object"] "ValueError.__new__"=true
 cl:W.findIn K (.ref A) "__class__"=some (some (.builtin "object.__class__"))
 ga:W.findIn K (.ref A) "__getattribute__"=some (some (.builtin "BaseException.__getattribute__"))
 gt:W.findIn K (.ref A) "__getattr__"=some none
 ob:W.subIn K (.ref A) (.type "object")=some true
 be:W.subIn K (.ref A) (.type "BaseException")=some true
 v:W.subIn K (.ref A) (.type "ValueError")=some true
 b:W.nsIn K cg r.B=some (some (.ref D))
 f:W.excIn K D [.type "ValueError",.type "Exception",.type "BaseException",.type "object"] "ValueError.__new__"=true
 s:W.subIn K (.ref A) (.ref D)=some true
 cs:zgu K A r.cs
def kxs (K:W.Frag):List XR->Prop
 | []=>True
 |r::l=>(∃A D,Kx K r A D)/\kxs K l
theorem z9s {K:W.Frag}:∀{l:List XR} {r:XR},kxs K l->r∈l->∃A D,Kx K r A D
 | [],_,_,z=>nomatch z
 |_::_,_,h,.head _=>h.1
 |_::_,_,h,.tail _ z=>z9s h.2 z
theorem za3 {K:W.Frag}{A:Addr}:∀{l:List (Str×Bool)} {y:Str×Bool},zgu K A l->y∈l->∃D dd cd sl,W.nsIn K cg y.1=some (some (.ref D))/\K.lookup D=some ⟨.type "type",dd,.cls cd,sl⟩/\W.subIn K (.ref A) (.ref D)=some y.2
 | [],_,_,z=>nomatch z
 |_::_,_,h,.head _=>h.1
 |_::_,_,h,.tail _ z=>za3 h.2 z
theorem za4 {K:W.Frag}{D:Addr}{dd:Option Addr}{cd:ClassData}{sl:Array (Option Value)}(l:K.lookup D=some ⟨.type "type",dd,.cls cd,sl⟩):W.typeIn K (.ref D)=some (.type "type")/\(W.clsIn K D).isSome=true:=by
 refine⟨?_,?_⟩
 ·show(K.lookup D).map (·.cls)=_;rw[l];rfl
 ·unfold W.clsIn;rw[l];rfl
theorem zqk {Γ:Gm}{K:W.Frag}{h:Heap}{mg:Str->Option Value}{xt:List XR}(X:K.In h)(G:h.Ns cg mg)(hk:kxs K xt)(hz:xt≠[]->mg "ValueError"=none)(h1:Γ.sub=(xt.map XR.subs).flatten)(h2:Γ.rs=xt.map (·.c))(h3:Γ.hnd=xt.map fun r=>(r.c,r.B)):Xok Γ K mg:=by
 refine⟨fun c C b z=>?_,fun c z=>?_,fun c B z=>?_⟩
 ·rw[h1]at z;obtain⟨l,hl,z⟩:=pe.mp (cy.mp z);obtain⟨r,hr,rfl⟩:=bo.mp hl;obtain⟨A,D,k⟩:=z9s hk hr;obtain⟨dd,cd,sl,kl⟩:=k.l;have xa:XA K A:=⟨k.cl,k.ga,k.gt,k.ob,k.be,(za4 kl).1,(za4 kl).2,k.e⟩;rcases au.mp z with e|z
  ·cases e;exact⟨A,.ty "ValueError",.type "ValueError",W.mg_of X G k.a,xa,XV.val,k.v,rfl,fun w q=>q,.inr ⟨hz (fun q=>by rw[q]at hr;cases hr),by decide+kernel,by decide⟩⟩
  ·obtain⟨y,hy,e⟩:=bo.mp z;cases e;obtain⟨D',dd',cd',sl',e1,e2,e3⟩:=za3 k.cs hy;exact⟨A,.ref D',.ref D',W.mg_of X G k.a,xa,XV.own (za4 e2).1 (za4 e2).2,e3,rfl,fun w q=>q,.inl (W.mg_of X G e1)⟩
 ·rw[h2]at z;obtain⟨r,hr,rfl⟩:=bo.mp (cy.mp z);obtain⟨A,D,k⟩:=z9s hk hr;exact⟨A,W.mg_of X G k.a,k.e⟩
 ·rw[h3]at z;obtain⟨r,hr,e⟩:=bo.mp (cy.mp z);cases e;obtain⟨A,D,k⟩:=z9s hk hr;exact⟨A,D,W.mg_of X G k.a,W.mg_of X G k.b,k.e,k.f,k.s⟩
inductive Kd where
 |n
 |e (c:Str) (r:Bool)
 |g (d:Gd) (je:Nat)
structure DRow where
 nm:Str
 st:Stmt
 N:List Str
 ps:List Str
 free:List Str
 fns:List Nat
 s:S
 F:Fn
 kd:Kd
def sig (Rs:List DRow)(j:Nat):Str×Nat:=match Rs[j]? with
 |some c=>(c.nm,c.ps.length)
 |none=>("",0)
def fnAt (Rs:List DRow)(j:Nat):Fn:=match Rs[j]? with
 |some c=>c.F
 |none=>fun _=>.no
def DRow.G (Rs:List DRow)(xt:List XR)(r:DRow):Gm:={N:=r.N,sc:=z0a r.st,free:=r.free,fns:=r.fns.map (sig Rs),cst:=[],sub:=(xt.map XR.subs).flatten,rs:=xt.map (·.c),hnd:=xt.map fun r=>(r.c,r.B)}
def DRow.GE (xt:List XR)(r:DRow)(c:Str):Gm:={N:=r.N.set 0 "",sc:=z0a r.st,free:=r.free,fns:=[],cst:=[],xc:=some (r.ps.headD "",c),sub:=(xt.map XR.subs).flatten,rs:=xt.map (·.c),hnd:=xt.map fun r=>(r.c,r.B)}
def zdr (s:S)(n:Nat)(b:Bool):Bool:=match evS [] [] s (bj n none)with
 |.ok (.rt _ (.bool b'))=>b'==b
 |_=>false
def Kd.isE:Kd->Bool
 |.e _ _=>true
 |_=>false
def nE (Rs:List DRow)(j:Nat):Bool:=match Rs[j]? with
 |some c=>!c.kd.isE
 |none=>true
def gE (Rs:List DRow)(d:Gd)(j:Nat):Bool:=match Rs[j]? with
 |some z=>(z.nm==d.g)&&decide (z.ps.length=1)&&(match z.kd with|.e c b=>(c==d.c)&&(b==d.r)|_=>false)
 |none=>false
def DRow.part (Rs:List DRow)(xt:List XR)(i:Nat)(r:DRow):Bool:=match r.kd with
 |.n=>chkL (r.G Rs xt) r.s (z0o r.st)
 |.e c b=>(decide (r.ps=[r.ps.headD ""])&&(r.N[0]?==some (r.ps.headD ""))&&decide (r.N.set 0 "").Nodup&&((z0a r.st).names.lookup ("":Str)).isNone&&((z0a r.st).names.lookup (r.ps.headD "")==some .local))&&chkL (r.GE xt c) r.s (z0o r.st)&&zdr r.s r.N.length b
 |.g d je=>zku (r.G Rs xt) r.s d (z0o r.st)&&decide (je<i)&&gE Rs d je
def DRow.ok (Rs:List DRow)(xt:List XR)(fr:List Str)(i:Nat)(r:DRow):Bool:=
 (decide ((z0a r.st).kind=.function)&& !(z0a r.st).isCoroutine&& !(z0a r.st).isGenerator&&decide r.N.Nodup&&decide (r.N.take r.ps.length=r.ps))&&
 (r.ps.all (fun x=>(z0a r.st).names.lookup x==some .local||(z0a r.st).names.lookup x==some .cell)&&(z0a r.st).names.all (fun y=>!(y.2==.free))&&r.free.all (fun x=>fr.contains x)&&r.fns.all (fun j=>decide (j<i)&&nE Rs j)&&r.part Rs xt i)
def oks (Rs:List DRow)(xt:List XR)(fr:List Str):Nat->List DRow->Bool
 |_,[]=>true
 |i,r::l=>r.ok Rs xt fr i&&oks Rs xt fr (i+1) l
def DRow.fOk (Rs:List DRow)(r:DRow):Prop:=match r.kd with
 |.n=>r.F=runD [] (r.fns.map (fnAt Rs)) r.N.length r.s
 |.e _ _=>True
 |.g d _=>r.F=runG (r.fns.map (fnAt Rs)) r.N.length r.s d
def fOks (Rs:List DRow):List DRow->Prop
 | []=>True
 |r::l=>r.fOk Rs/\fOks Rs l
theorem zbm {Rs:List DRow}{xt:List XR}{fr:List Str}:∀{l:List DRow} {k i:Nat} {r:DRow},oks Rs xt fr k l=true->l[i]?=some r->r.ok Rs xt fr (k+i)=true
 | [],_,i,_,_,e=>by simp at e
 |r::l,k,0,_,h,e=>by cases e;exact(and2 h).1
 |r::l,k,i+1,_,h,e=>by
  have:=zbm (k:=k+1) (and2 h).2 (show l[i]?=some _ from e)
  rwa [show k+(i+1)=k+1+i by omega]
theorem z89 {Rs:List DRow}:∀{l:List DRow} {i:Nat} {r:DRow},fOks Rs l->l[i]?=some r->r.fOk Rs
 | [],i,_,_,e=>by simp at e
 |r::l,0,_,h,e=>by cases e;exact h.1
 |r::l,i+1,_,h,e=>z89 h.2 (show l[i]?=some _ from e)
section
variable {P:a8}{w:World}{K:W.Frag}{mg:Str->Option Value}{base:Heap}{Rs:List DRow}{xt:List XR}{fr:List Str}
theorem z56 {r:DRow}{i:Nat}(h:r.ok Rs xt fr i=true):FnScope (r.G Rs xt).N r.ps (z0a r.st)/\(∀x,r.free.contains x=true->fr.contains x=true)/\(∀j∈r.fns,j<i/\nE Rs j=true)/\r.part Rs xt i=true:=by
 obtain⟨h1,h2⟩:=and2 h;obtain⟨a1,a2,a3,a4,a5⟩:=and5 h1;obtain⟨b1,b2,b3,b4,b5⟩:=and5 h2;refine⟨⟨wb a1,z1l a2,z1l a3,wb a4,wb a5,fun x hx=>?_,fun y hy z=>?_⟩,fun x hx=>?_,fun j hj=>⟨wb (and2 (bt.mp b4 j hj)).1,(and2 (bt.mp b4 j hj)).2⟩,b5⟩
 ·rcases km.mp (bt.mp b1 x hx)with q|q
  ·exact .inl (wg q)
  ·exact .inr (wg q)
 ·have :=z1l (bt.mp b2 y hy);rw[z]at this;cases this
 ·exact bt.mp b3 x (cy.mp hx)
def z7f (P:a8)(w:World)(K:W.Frag)(mg:Str->Option Value)(base:Heap)(i:Nat)(r:DRow):Prop:=match r.kd with
 |.e c b=>Cal P w K mg base (i+1) r.nm r.ps (spE mg c b)
 |_=>Cal P w K mg base (i+1) r.nm r.ps (spD K r.ps.length r.F)/\CalX P w K mg base (i+1) r.nm r.ps r.ps.length r.F
theorem rowN {j:Nat}{c:DRow}(h:z7f P w K mg base j c)(e:Rs[j]?=some c)(n:nE Rs j=true):Cal P w K mg base (j+1) c.nm c.ps (spD K c.ps.length c.F)/\CalX P w K mg base (j+1) c.nm c.ps c.ps.length c.F:=by
 unfold nE at n;rw[e]at n;have n:(!c.kd.isE)=true:=n;unfold z7f at h;cases hk:c.kd with
 |n=>rw[hk]at h;exact h
 |g d je=>rw[hk]at h;exact h
 |e x b=>rw[hk]at n;cases n
theorem rowE {j:Nat}{d:Gd}(h:∀c,Rs[j]?=some c->z7f P w K mg base j c)(n:gE Rs d j=true):∃p,Cal P w K mg base (j+1) d.g [p] (spE mg d.c d.r):=by
 unfold gE at n;cases e:Rs[j]? with
 |none=>rw[e]at n;cases n
 |some z=>
  rw[e]at n;have n:((z.nm==d.g)&&decide (z.ps.length=1)&&(match z.kd with|.e c b=>(c==d.c)&&(b==d.r)|_=>false))=true:=n;obtain⟨n1,n2,n3⟩:=and3 n;have h:=h z e;unfold z7f at h;cases hk:z.kd with
  |n=>rw[hk]at n3;cases n3
  |g d je=>rw[hk]at n3;cases n3
  |e x b=>
   rw[hk]at n3 h;obtain⟨m1,m2⟩:=and2 n3;have h:Cal P w K mg base (j+1) z.nm z.ps (spE mg x b):=h;rw[wg n1,wg m1,wg m2]at h;cases hp:z.ps with
   |nil=>rw[hp]at n2;cases wb n2
   |cons p l=>rw[hp]at n2 h;have n2:l.length+1=1:=wb n2;cases ms (Nat.succ.inj n2);exact⟨p,h⟩
theorem tells_of {s:S}{n:Nat}{b:Bool}(h:zdr s n b=true):∃g,evS [] [] s (bj n none)=.ok (.rt g (.bool b)):=by
 unfold zdr at h;split at h
 ·rename_i g b' e;cases wg h;exact⟨g,e⟩
 ·cases h
theorem zcm {r:DRow}{i:Nat}(hr:Rs[i]?=some r)(h:r.ok Rs xt fr i=true)(T:∀x∈fr,mg x=none)(xk:∀Γ:Gm,Γ.sub=(xt.map XR.subs).flatten->Γ.rs=xt.map (·.c)->(Γ.hnd=xt.map fun r=>(r.c,r.B))->Xok Γ K mg)(ih:∀j c,j<i->Rs[j]?=some c->z7f P w K mg base j c):Dok (r.G Rs xt) [] (r.fns.map (fnAt Rs)) P w K mg base i where
 free:=fun x hx=>T x (cy.mp ((z56 h).2.1 x hx))
 fns:=fun j f n e=>by
  have e:(r.fns.map (sig Rs))[j]?=some (f,n):=e;rw[bx]at e;obtain⟨jj,ej,e⟩:=dj.mp e;obtain⟨hlt,hne⟩:=(z56 h).2.2.1 jj (b8 ej);have hl:i<Rs.length:=(bg.mp hr).1;have hc:Rs[jj]?=some Rs[jj]:=bc (nk hlt hl);unfold sig at e;rw[hc]at e;cases e;refine⟨fnAt Rs jj,jj+1,Rs[jj].ps,by rw[bx,ej];rfl,hlt,?_⟩;have:fnAt Rs jj=Rs[jj].F:=by unfold fnAt;rw[hc]
  rw[this];exact(rowN (ih jj _ hlt hc) hc hne).1
 cst:=fun j x e=>by cases e
 fnx:=fun j f n e=>by
  have e:(r.fns.map (sig Rs))[j]?=some (f,n):=e;rw[bx]at e;obtain⟨jj,ej,e⟩:=dj.mp e;obtain⟨hlt,hne⟩:=(z56 h).2.2.1 jj (b8 ej);have hl:i<Rs.length:=(bg.mp hr).1;have hc:Rs[jj]?=some Rs[jj]:=bc (nk hlt hl);unfold sig at e;rw[hc]at e;cases e;refine⟨fnAt Rs jj,jj+1,Rs[jj].ps,by rw[bx,ej];rfl,hlt,?_⟩;have:fnAt Rs jj=Rs[jj].F:=by unfold fnAt;rw[hc]
  rw[this];exact(rowN (ih jj _ hlt hc) hc hne).2
 xk:=xk _ rfl rfl rfl
theorem zkk (hok:oks Rs xt fr 0 Rs=true)(hF:fOks Rs Rs)(T:∀x∈fr,mg x=none)(xk:∀Γ:Gm,Γ.sub=(xt.map XR.subs).flatten->Γ.rs=xt.map (·.c)->(Γ.hnd=xt.map fun r=>(r.c,r.B))->Xok Γ K mg)(n:Nat)(O:∀i r,i<n->Rs[i]?=some r->Own K mg r.nm r.st r.ps):∀i r,i<n->Rs[i]?=some r->z7f P w K mg base i r:=by
 intro i
 induction i using Nat.strongRecOn with
 |ind i ih=>
  intro r hi hr
  have ho:r.ok Rs xt fr i=true:=by
   have:=zbm hok hr
   rwa [ur]at this
  have ih:∀j c,j<i->Rs[j]?=some c->z7f P w K mg base j c:=fun j c hj hc=>ih j hj c (nk hj hi) hc;have D:=zcm (P:=P) (w:=w) (K:=K) (base:=base) hr ho T xk ih;obtain⟨Sc,hfr,_,hp⟩:=z56 ho;have hf:=z89 hF hr;obtain⟨f,fd,Fu,m,kp,b⟩:=O i r hi hr;unfold DRow.fOk at hf;unfold DRow.part at hp;unfold z7f;cases hk:r.kd with
  |n=>rw[hk]at hf hp;have hf:r.F=_:=hf;show _/\_;rw[hf];exact⟨⟨f,fd,d_fn (Γ:=r.G Rs xt) Fu Sc rfl rfl rfl D hp,m,kp,b⟩,⟨f,fd,zuc (Γ:=r.G Rs xt) Fu Sc rfl rfl rfl D hp,m,kp,b⟩⟩
  |e c bb=>rw[hk]at hp;obtain⟨p1,p2,p3⟩:=and3 hp;obtain⟨q1,q2,q3,q4,q5⟩:=and5 p1;obtain⟨g,eg⟩:=tells_of p3;have hps:r.ps=[r.ps.headD ""]:=wb q1;have Fo:FnOk P w K mg base CX0 (i+1) f fd [r.ps.headD ""] (spE mg c bb):=zt2 (Γ:=r.GE xt c) (N:=r.N) (p:=r.ps.headD "") (c:=c) Fu (by rw[<-hps];exact Sc) (wg q2) rfl (wb q3) rfl rfl rfl rfl rfl (iw.mp q4) (wg q5) (fun x hx=>T x (cy.mp (hfr x hx))) (xk _ rfl rfl rfl) p2 eg;show Cal P w K mg base (i+1) r.nm r.ps (spE mg c bb);rw[<-hps]at Fo;exact⟨f,fd,Fo,m,kp,b⟩
  |g d je=>rw[hk]at hf hp;obtain⟨p1,p2,p3⟩:=and3 hp;have hf:r.F=_:=hf;have hje:=wb p2;obtain⟨pr,Cg⟩:=rowE (P:=P) (w:=w) (K:=K) (mg:=mg) (base:=base) (fun c hc=>ih je c hje hc) p3;show _/\_;rw[hf];exact⟨⟨f,fd,zti (Γ:=r.G Rs xt) Fu Sc rfl rfl rfl D p1 Cg hje,m,kp,b⟩,⟨f,fd,zq0 (Γ:=r.G Rs xt) Fu Sc,m,kp,b⟩⟩
end
def Kf (K:W.Frag)(r:DRow)(f:Addr)(fd:e7):Prop:=W.nsIn K cg r.nm=some (some (.ref f))/\∃(oc:Value) (od an:Option Addr) (sl:Array (Option Value)) (kV dc pm cd ct:Value),fd=W.fnOf r.nm r.nm (z1j r.st) (z0o r.st) (z0a r.st) .none kV dc pm an cd ct/\K.lookup f=some ⟨oc,od,.func fd,sl⟩/\W.codeIn K cd r.nm=true/\W.keepIn K (.ref f)=true
def zkr (r:DRow):Prop:=∀(kV doc pm:Value) (an:Option Addr) (cdv ct:Value) (us:List Value),us.length=r.ps.length->vg (W.fnOf r.nm r.nm (z1j r.st) (z0o r.st) (z0a r.st) .none kV doc pm an cdv ct) ⟨us,[]⟩=pure (r.ps.zip us)
theorem cut1 {us:List Value}{n:Nat}(h:us.length=n+1):∃a l,us=a::l/\l.length=n:=by
 cases us with
 |nil=>cases h
 |cons a l=>exact⟨a,l,rfl,Nat.succ.inj h⟩
theorem by1 {P:List Value->Prop}(h:∀a,P [a])(us:List Value)(z:us.length=1):P us:=by obtain⟨a,l,rfl,y⟩:=cut1 z;cases ms y;exact h a
theorem by2 {P:List Value->Prop}(h:∀a b,P [a,b])(us:List Value)(z:us.length=2):P us:=by obtain⟨a,l,rfl,y⟩:=cut1 z;exact by1 (P:=fun l=>P (a::l)) (h a) l y
theorem by3 {P:List Value->Prop}(h:∀a b c,P [a,b,c])(us:List Value)(z:us.length=3):P us:=by obtain⟨a,l,rfl,y⟩:=cut1 z;exact by2 (P:=fun l=>P (a::l)) (h a) l y
theorem by4 {P:List Value->Prop}(h:∀a b c d,P [a,b,c,d])(us:List Value)(z:us.length=4):P us:=by obtain⟨a,l,rfl,y⟩:=cut1 z;exact by3 (P:=fun l=>P (a::l)) (h a) l y
def kOks (K:W.Frag):List DRow->Prop
 | []=>True
 |r::l=>((∃f fd,Kf K r f fd)/\zkr r)/\kOks K l
theorem zew {K:W.Frag}:∀{l:List DRow} {i:Nat} {r:DRow},kOks K l->l[i]?=some r->(∃f fd,Kf K r f fd)/\zkr r
 | [],i,_,_,e=>by simp at e
 |r::l,0,_,h,e=>by cases e;exact h.1
 |r::l,i+1,_,h,e=>zew h.2 (show l[i]?=some _ from e)
theorem all_rows {l:W.OpenLaw}{w:World}{K:W.Frag}{h:Heap}{mg:Str->Option Value}{fa:Addr}{Rs:List DRow}{lr:DRow}{xt:List XR}{fr:List Str}{x:Str}(X:K.In h)(G:h.Ns cg mg)(hfa:mg lr.nm=some (.ref fa))(hx:lr.ps=[x])(hkd:lr.kd=.n)(hok:oks (Rs++[lr]) xt fr 0 (Rs++[lr])=true)(hF:fOks (Rs++[lr]) (Rs++[lr]))(hK:kOks K Rs)(kl:∃f fd,Kf K lr f fd)
  (hb:∀(kV dc pm:Value) (an:Option Addr) (cd ct:Value) (s:ac) (v:Value),qx s (W.fnOf lr.nm lr.nm (z1j lr.st) (z0o lr.st) (z0a lr.st) .none kV dc pm an cd ct) ⟨[v],[]⟩ [(x,v)]) (hz:∀n∈fr,W.nsIn K cg n=some none) (hkx:kxs K xt) (hv:xt≠[]->("ValueError":Str)∈fr):
  ∃fd:e7,(∀(s:ac) (v:Value),qx s fd ⟨[v],[]⟩ [(x,v)])/\∀base:Heap,K.In base->base.Ns cg mg->FnOk l.prog w K mg base CX0 (Rs.length+1) fa fd [x] (spD K 1 lr.F):=by
 obtain⟨f,fd,a,oc,od,an,sl,kV,dc,pm,cd,ct,rfl,lk,hc,hk⟩:=kl;have e:=hfa.symm.trans (W.mg_of X G a);cases e;have T:∀n∈fr,mg n=none:=fun n hn=>W.mg_none_of X G (hz n hn);have hr:(Rs++[lr])[Rs.length]?=some lr:=by rw[f9 (am _),Nat.sub_self];rfl
 have ho:lr.ok (Rs++[lr]) xt fr Rs.length=true:=by
  have:=zbm hok hr
  rwa [ur]at this
 refine⟨_,fun s v=>hb kV dc pm an cd ct s v,fun base _ _=>?_⟩;have O:∀i r,i<Rs.length->(Rs++[lr])[i]?=some r->Own K mg r.nm r.st r.ps:=fun i r hi e=>by rw[ip hi]at e;obtain⟨⟨f,fd,a,oc,od,an,sl,kV,dc,pm,cd,ct,rfl,lk,hc,hk⟩,hb⟩:=zew hK e;exact znz X G a lk hc hk hb
 have xk:∀Γ:Gm,Γ.sub=(xt.map XR.subs).flatten->Γ.rs=xt.map (·.c)->(Γ.hnd=xt.map fun r=>(r.c,r.B))->Xok Γ K mg:=fun Γ h1 h2 h3=>zqk X G hkx (fun z=>T _ (hv z)) h1 h2 h3;have D:=zcm (P:=l.prog) (w:=w) (K:=K) (base:=base) hr ho T xk fun j c hj hc=>zkk hok hF T xk Rs.length O j c hj hc;have hp:=(z56 ho).2.2.2;have hf:=z89 hF hr;unfold DRow.part at hp;unfold DRow.fOk at hf;rw[hkd]at hp hf;have:=d_fn (Γ:=lr.G (Rs++[lr]) xt) (ze3 (st:=lr.st) lk hc hk) (z56 ho).1 rfl rfl rfl D hp;have e2:runD [] (qu (fnAt (Rs++[lr])) lr.fns) (lr.G (Rs++[lr]) xt).N.length lr.s=lr.F:=hf.symm;rw[e2,hx]at this;exact this
end Mi
namespace Mi
open PySem PySem.Spec PyProof.Rows L2
def kf1 (K:W.Frag)(r:DRow):Option (e7×Bool):=match W.nsIn K cg r.nm with
 |some (some (.ref f))=>(match K.lookup f with
  |some ⟨_,_,.func fd,_⟩=>some (fd,W.codeIn K fd.code r.nm&&W.keepIn K (.ref f))
  |_=>none)
 |_=>none
def kf2 (r:DRow)(x:e7×Bool):e7×Bool:=(W.fnOf r.nm r.nm (z1j r.st) (z0o r.st) (z0a r.st) .none x.1.kwdefaults x.1.doc x.1.pyModule x.1.annotations x.1.code x.1.closureTuple,true)
def isC (K:W.Frag)(A:Addr):Bool:=match K.lookup A with
 |some ⟨.type "type",_,.cls _,_⟩=>true
 |_=>false
def MROX:List Value:=[.type "ValueError",.type "Exception",.type "BaseException",.type "object"]
def kx1 (K:W.Frag)(r:XR):Option (Bool×Bool×Option (Option Value)×Option (Option Value)×Option (Option Value)×Option Bool×Option Bool×Option Bool×Bool×Option Bool×List (Bool×Option Bool)):=match W.nsIn K cg r.c,W.nsIn K cg r.B with
 |some (some (.ref A)),some (some (.ref D))=>some (isC K A,W.excIn K A MROX "ValueError.__new__",W.findIn K (.ref A) "__class__",W.findIn K (.ref A) "__getattribute__",W.findIn K (.ref A) "__getattr__",W.subIn K (.ref A) (.type "object"),W.subIn K (.ref A) (.type "BaseException"),W.subIn K (.ref A) (.type "ValueError"),W.excIn K D MROX "ValueError.__new__",W.subIn K (.ref A) (.ref D),r.cs.map fun y=>match W.nsIn K cg y.1 with
  |some (some (.ref E))=>(isC K E,W.subIn K (.ref A) (.ref E))
  |_=>(false,none))
 |_,_=>none
def kx2 (r:XR):Option (Bool×Bool×Option (Option Value)×Option (Option Value)×Option (Option Value)×Option Bool×Option Bool×Option Bool×Bool×Option Bool×List (Bool×Option Bool)):=some (true,true,some (some (.builtin "object.__class__")),some (some (.builtin "BaseException.__getattribute__")),some none,some true,some true,some true,true,some true,r.cs.map fun y=>(true,some y.2))
theorem zi0 {K:W.Frag}{A:Addr}(h:isC K A=true):∃dd cd sl,K.lookup A=some ⟨.type "type",dd,.cls cd,sl⟩:=by
 unfold isC at h;split at h
 ·rename_i dd cd sl e;exact⟨dd,cd,sl,e⟩
 ·cases h
theorem zc8 {K:W.Frag}{A:Addr}:∀{l:List (Str×Bool)},(l.map fun y=>match W.nsIn K cg y.1 with
  |some (some (.ref E))=>(isC K E,W.subIn K (.ref A) (.ref E))
  |_=>(false,none))=(l.map fun y=>(true,some y.2))->zgu K A l
 | [],_=>trivial
 |y::l,h=>by
  have h:=List.cons.inj h;refine⟨?_,zc8 h.2⟩;have e:=h.1
  dsimp only at e
  split at e
  ·rename_i E hE;have e:=Prod.mk.inj e;obtain⟨dd,cd,sl,q⟩:=zi0 e.1;exact⟨E,dd,cd,sl,hE,q,e.2⟩
  ·cases(Prod.mk.inj e).1
theorem zqu {K:W.Frag}{r:XR}(h:kx1 K r=kx2 r):∃A D,Kx K r A D:=by
 unfold kx1 kx2 at h;split at h
 ·rename_i A D hA hD;have h:=Prod.mk.inj (Option.some.inj h);have h2:=Prod.mk.inj h.2;have h3:=Prod.mk.inj h2.2;have h4:=Prod.mk.inj h3.2;have h5:=Prod.mk.inj h4.2;have h6:=Prod.mk.inj h5.2;have h7:=Prod.mk.inj h6.2;have h8:=Prod.mk.inj h7.2;have h9:=Prod.mk.inj h8.2;have h10:=Prod.mk.inj h9.2;exact⟨A,D,hA,zi0 h.1,h2.1,h3.1,h4.1,h5.1,h6.1,h7.1,h8.1,hD,h9.1,h10.1,zc8 h10.2⟩
 ·cases h
theorem zin {K:W.Frag}:∀{l:List XR},(∀r∈l,∃A D,Kx K r A D)->kxs K l
 | [],_=>trivial
 |r::_,h=>⟨h r (.head _),zin fun r hr=>h r (.tail _ hr)⟩
def KEq (K:g9->W.Frag)(Rs:List DRow)(fr:List Str)(xt:List XR):Prop:=∀P,(Rs.map fun r=>(kf1 (K P) r).isSome,Rs.map fun r=>kf1 (K P) r,fr.map fun n=>W.nsIn (K P) cg n,xt.map fun r=>kx1 (K P) r)=(Rs.map fun _=>true,Rs.map fun r=>(kf1 (K P) r).map (kf2 r),fr.map fun _=>some none,xt.map kx2)
theorem KEq_r:KEq=KEq:=rfl
theorem znv {K:W.Frag}{r:DRow}(h:(kf1 K r).isSome=true)(e:kf1 K r=(kf1 K r).map (kf2 r)):∃f fd,Kf K r f fd:=by
 cases z:kf1 K r with
 |none=>rw[z]at h;cases h
 |some x=>
  rw[z]at e;have e:x=kf2 r x:=Option.some.inj e;unfold kf1 at z;split at z
  ·rename_i f hf;split at z
   ·rename_i oc od fd sl hl;have z:=Option.some.inj z;have z1:fd=x.1:=congrArg v5 z;have z2:(W.codeIn K fd.code r.nm&&W.keepIn K (.ref f))=x.2:=congrArg v6 z;have e1:x.1=(kf2 r x).1:=congrArg v5 e;have e2:x.2=true:=congrArg v6 e;rw[e2]at z2;have z3:=bp.mp z2;subst z1;exact⟨f,x.1,hf,oc,od,x.1.annotations,sl,x.1.kwdefaults,x.1.doc,x.1.pyModule,x.1.code,x.1.closureTuple,e1,hl,z3.1,z3.2⟩
   ·cases z
  ·cases z
theorem z9a {K:g9->W.Frag}{Rs:List DRow}{fr:List Str}{xt:List XR}(h:KEq K Rs fr xt)(P:g9):(∀r∈Rs,∃f fd,Kf (K P) r f fd)/\(∀n∈fr,W.nsIn (K P) cg n=some none)/\kxs (K P) xt:=by have a:=Prod.mk.inj (h P);have b:=Prod.mk.inj a.2;have c:=Prod.mk.inj b.2;exact⟨fun r hr=>znv (lq.mp a.1 r hr) (lq.mp b.1 r hr),fun n hn=>lq.mp c.1 n hn,zin fun r hr=>zqu (lq.mp c.2 r hr)⟩
def bOks:List DRow->Prop
 | []=>True
 |r::l=>zkr r/\bOks l
theorem zei {K:W.Frag}:∀{l:List DRow},(∀r∈l,∃f fd,Kf K r f fd)->bOks l->kOks K l
 | [],_,_=>trivial
 |r::_,h,b=>⟨⟨h r (.head _),b.1⟩,zei (fun r hr=>h r (.tail _ hr)) b.2⟩
end Mi
name_quick tkeq for Mi.KEq by Mi.KEq_r
namespace Mk
open Mi
section
open PySem
abbrev P:=List (Str×Int)
def pr (p:Str×Int):D:=.tuple [.str p.1,.int p.2]
def pk (l:P):D:=.tuple (l.map pr)
def ep (p:Str×Int):D×D:=(.str p.1,.int p.2)
def en (l:P):Ents:=l.map ep
def fnd:P->Str->Option Int
 | [],_=>none
 |p::l,n=>if p.1=n then some p.2 else fnd l n
def look (l:P)(n:Str):Int:=(fnd l n).getD 0
def ks (l:P):List Str:=l.map (·.1)
def put:P->Str->Int->P
 | [],n,v=>[(n,v)]
 |p::l,n,v=>if p.1=n then(p.1,v)::l else p::put l n v
def sl (a b:Str):Prop:=a.cps.toList<b.cps.toList
theorem zea (a:Str):¬sl a a:=List.lt_irrefl _
theorem zlq {a b c:Str}(h:sl a b)(k:sl b c):sl a c:=List.lt_trans h k
theorem zch {a b:Str}(h:a.cps.toList=b.cps.toList):a=b:=by cases a;cases b;simp at h;subst h;rfl
theorem ze1 {a b:Str}(h:a≠b):sl a b\/sl b a:=by
 by_cases h1:sl a b
 ·exact .inl h1
 ·by_cases h2:sl b a
  ·exact .inr h2
  ·exact(h (zch (List.le_antisymm (List.not_lt.mp h2) (List.not_lt.mp h1)))).elim
theorem ztc {a b:Str}(h:sl a b):a≠b:=fun e=>zea b (e▸h)
theorem z0x {n:Str}:∀{l:P},n∉ks l->fnd l n=none
 | [],_=>rfl
 |p::l,h=>by simp only[ks,ao,au,not_or]at h;rw[fnd,if_neg (fun e=>h.1 e.symm)];exact z0x h.2
theorem z1r {n:Str}{v:Int}:∀{l:P},fnd l n=some v->(n,v)∈l
 | [],h=>by cases h
 |p::l,h=>by
  rw[fnd]at h;split at h
  ·rename_i e;cases h;subst e;exact ak
  ·exact aq _ (z1r h)
theorem zjs {n:Str}{v:Int}{l:P}(h:fnd l n=some v):n∈ks l:=bo.mpr ⟨_,z1r h,rfl⟩
theorem z64:∀{l:P} {p:Str×Int},(ks l).Nodup->p∈l->fnd l p.1=some p.2
 |q::l,p,nd,h=>by
  rw[ks,ao,ci]at nd;rw[fnd];rcases(au.mp h)with rfl|h
  ·rw[if_pos rfl]
  ·rw[if_neg fun e:q.1=p.1=>nd.1 (bo.mpr ⟨p,h,e.symm⟩)];exact z64 nd.2 h
theorem z7k {l:P}{n:Str}(h:n∈ks l):∃v,fnd l n=some v:=by
 cases e:fnd l n with
 |some v=>exact⟨v,rfl⟩
 |none=>
  exfalso
  induction l with
  |nil=>cases h
  |cons p l ih=>
   rw[fnd]at e;split at e
   ·cases e
   ·rename_i hn;rcases au.mp h with h|h
    ·exact hn h.symm
    ·exact ih h e
theorem zdh (n:Str)(v:Int)(m:Str):∀l:P,fnd (put l n v) m=if n=m then some v else fnd l m
 | []=>by simp[put,fnd]
 |p::l=>by
  rw[put];split
  ·rename_i e;subst e;rw[fnd,fnd];split<;>rfl
  ·rename_i e;rw[fnd,fnd,zdh n v m l];split
   ·rename_i e2;rw[if_neg fun z=>e (e2.trans z.symm)]
   ·rfl
theorem zgx (n:Str)(v:Int)(m:Str)(l:P):look (put l n v) m=if n=m then v else look l m:=by rw[look,zdh];split<;>rfl
theorem zbk (n:Str)(v:Int):∀l:P,∀m,m∈ks (put l n v)↔m=n\/m∈ks l
 | [],m=>by simp[put,ks]
 |p::l,m=>by
  rw[put];split
  ·rename_i e;subst e;simp[ks]
  ·have :=zbk n v l m;simp only[ks,ao,au]at this ⊢;rw[this];constructor
   ·rintro(h|h|h)<;>simp[h]
   ·rintro(h|h|h)<;>simp[h]
theorem zbz (n:Str)(v:Int):∀l:P,(ks l).Nodup->(ks (put l n v)).Nodup
 | [],_=>by simp[put,ks]
 |p::l,h=>by
  rw[put];split
  ·exact h
  ·rename_i e;rw[ks,ao,ci]at h ⊢;refine⟨fun z=>?_,zbz n v l h.2⟩;rcases(zbk n v l p.1).mp z with z|z
   ·exact e z
   ·exact h.1 z
theorem z9d:∀{a b:List Str},a.Nodup->(∀x∈a,x∈b)->a.length<=b.length
 | [],b,_,_=>fu _
 |x::a,b,nd,h=>by rw[ci]at nd;have hx:=h x ak;have:=z9d (a:=a) (b:=b.erase x) nd.2 fun y hy=>(List.mem_erase_of_ne fun e:y=x=>nd.1 (e▸hy)).mpr (h y (aq _ hy));rw[List.length_erase_of_mem hx]at this;have:0<b.length:=List.length_pos_of_mem hx;simp only[bq];omega
theorem z6e (a b:Str):eqK (.str a) (.str b)=decide (a=b):=by simp only[eqK]
theorem z6f (a:Str):isK (.str a)=true:=by simp only[isK]
theorem z40 (n:Str):∀l:P,z25 (en l) (.str n)=(fnd l n).map .int
 | []=>rfl
 |p::l=>by
  have ih:=z40 n l;unfold z25 at ih ⊢;rw[en,ao,i0,fnd];show Option.map _ (match eqK (.str p.1) (.str n)with|true=>_|false=>_)=_;rw[z6e];by_cases h:p.1=n
  ·rw[if_pos h];simp[h,ep]
  ·rw[if_neg h];simp only[h,decide_false];exact ih
theorem zbt (n:Str):∀l:P,((en l).any fun e=>eqK e.1 (.str n))=true↔n∈ks l
 | []=>by simp[en,ks]
 |p::l=>by rw[en,ao,jc];show(eqK (.str p.1) (.str n)||_)=true↔_;rw[z6e,gc,ks,ao,au];have:=zbt n l;rw[en,ks]at this;rw[this];simp[eq_comm]
theorem ziu {n:Str}{v:Int}:∀{l:P},(ks l).Nodup->n∈ks l->(en l).map (fun e=>if eqK e.1 (.str n)then(e.1,.int v)else e)=en (put l n v)
 |p::l,nd,h=>by
  rw[ks,ao,ci]at nd;rw[put,en,ao,ao];show(if eqK (.str p.1) (.str n)=true then _ else _)::_=_;rw[z6e];by_cases e:p.1=n
  ·have hn:∀q∈l,¬q.1=n:=fun q hq z=>nd.1 (bo.mpr ⟨q,hq,z.trans e.symm⟩);rw[if_pos e,if_pos (by simpa using e)];rw[en,ao]
   congr 1
   rw[fg];apply rh;intro q hq;show(if eqK (.str q.1) (.str n)=true then _ else _)=ep q;rw[z6e,if_neg (by simpa using hn q hq)]
  ·rw[if_neg e,if_neg (by simpa using e)];rw[en,ao]
   congr 1
   refine ziu (l:=l) nd.2 ?_;rcases au.mp h with h|h
   ·exact(e h.symm).elim
   ·exact h
theorem z8w {n:Str}{v:Int}:∀{l:P},n∉ks l->put l n v=l++[(n,v)]
 | [],_=>rfl
 |p::l,h=>by simp only[ks,ao,au,not_or]at h;rw[put,if_neg fun e=>h.1 e.symm,z8w h.2];rfl
theorem zet {n:Str}{v:Int}{l:P}(nd:(ks l).Nodup):dput (en l) (.str n) (.int v)=en (put l n v):=by
 unfold dput;by_cases h:n∈ks l
 ·rw[if_pos ((zbt n l).mpr h)];exact ziu nd h
 ·rw[if_neg fun z=>h ((zbt n l).mp z),z8w h];simp[en,ep]
theorem z9t:∀(l acc:P),(ks (acc++l)).Nodup->z3p (en acc) (l.map pr)=some (en (acc++l))
 | [],acc,_=>by simp[z3p]
 |p::l,acc,nd=>by
  have nd':=nd;rw[ks,cq,ao]at nd;have h1:p.1∉ks acc:=fun z=>by rw[jz]at nd;exact nd.2.2 _ z _ ak rfl
  have h2:(ks acc).Nodup:=by rw[jz]at nd;exact nd.1
  rw[ao];show(if isK (.str p.1)then z3p (dput (en acc) (.str p.1) (.int p.2)) (l.map pr)else none)=_;rw[if_pos (z6f _),zet h2,z8w h1,z9t l (acc++[(p.1,p.2)]) (by rw[gz];exact nd'),gz];rfl
theorem zfy {l:P}(nd:(ks l).Nodup):z3p [] (l.map pr)=some (en l):=by have:=z9t l [] (by simpa using nd);simpa[en]using this
theorem zpv (l:P):(en l).map ent=l.map pr:=by rw[en,fg];rfl
theorem zi3 (l:P):(en l).length=l.length:=by rw[en,ah]
theorem z8o (l:P):immE (en l)=true:=by unfold immE;rw[bt];intro e he;obtain⟨p,_,rfl⟩:=bo.mp he;rfl
theorem z5l (p:Str×Int):imm (pr p)=true:=rfl
theorem z5z (l:P):imms (l.map pr)=true:=z1d.mpr fun x hx=>by obtain⟨p,_,rfl⟩:=bo.mp hx;rfl
theorem z05 (l:P):imm (pk l)=true:=z5z l
theorem zlf (n:Nat)(p:Str×Int):shal (n+1) (pr p)=true:=by cases n<;>rfl
theorem z5n (n:Nat)(l:P):shal (n+2) (pk l)=true:=by show z15 (n+1) (l.map pr)=true;exact z1i.mpr fun x hx=>by obtain⟨p,_,rfl⟩:=bo.mp hx;exact zlf n p
theorem zqe (p:Str×Int):eqD (pr p) (pr p)=true:=by simp[eqD,pr,PyData.eqv,PyData.eqvAll]
theorem z7p:∀l:P,PyData.eqvAll (l.map pr) (l.map pr)=true
 | []=>by simp[PyData.eqvAll]
 |p::l=>by rw[ao,PyData.eqvAll,z7p l];simpa using zqe p
theorem z9w (l:P):eqD (pk l) (pk l)=true:=by show PyData.eqv (.tuple _) (.tuple _)=true;rw[PyData.eqv];exact z7p l
theorem z6m (l:P):z1c (l.map pr)=true:=by
 cases l with
 |nil=>rfl
 |cons p l=>
  unfold z1c;have:((p::l).map pr).all (zal ([PyData.str p.1,PyData.int p.2].map isI))=true:=by rw[bt];intro x hx;obtain⟨q,_,rfl⟩:=bo.mp hx;rfl
  simp only[ao]at this ⊢;rw[gc];right;exact bp.mpr ⟨rfl,this⟩
def lp (p q:Str×Int):Bool:=ltD (pr p) (pr q)
def insP (x:Str×Int):P->P
 | []=>[x]
 |y::ys=>if lp y x then y::insP x ys else x::y::ys
def srt:P->P
 | []=>[]
 |x::xs=>insP x (srt xs)
theorem zih (x:Str×Int):∀l:P,insD (pr x) (l.map pr)=(insP x l).map pr
 | []=>rfl
 |y::l=>by
  rw[ao,insD,insP,lp];split
  ·rw[zih x l];rfl
  ·rfl
theorem zeb:∀l:P,z1a (l.map pr)=(srt l).map pr
 | []=>rfl
 |x::l=>by rw[ao,z1a,zeb l,zih,srt]
theorem z5s (x:Str×Int):∀l:P,(insP x l).Perm (x::l)
 | []=>.refl _
 |y::l=>by
  rw[insP];split
  ·exact((z5s x l).cons y).trans (.swap x y l)
  ·exact .refl _
theorem z49:∀l:P,(srt l).Perm l
 | []=>.refl _
 |x::l=>(z5s x (srt l)).trans ((z49 l).cons x)
theorem zns {p q:Str×Int}(h:p.1≠q.1):lp p q=true↔sl p.1 q.1:=by
 show ltD (.tuple [.str p.1,.int p.2]) (.tuple [.str q.1,.int q.2])=true↔_;simp only[ltD,ltDs];have:eqD (.str p.1) (.str q.1)=false:=by simp[eqD,PyData.eqv,h]
 rw[this];simp[sl]
def Sd (l:P):Prop:=l.Pairwise fun p q=>sl p.1 q.1
theorem zil {x:Str×Int}:∀{l:P},Sd l->x.1∉ks l->Sd (insP x l)
 | [],_,_=>jo _ _
 |y::l,h,hx=>by
  have h':=cf.1 h;simp only[ks,ao,au,not_or]at hx;rw[insP];split
  ·rename_i hl;have hy:=(zns (fun e=>hx.1 e.symm)).mp hl;refine cf.mpr ⟨fun z hz=>?_,zil h'.2 hx.2⟩;rcases au.mp ((z5s x l).mem_iff.mp hz)with rfl|hz
   ·exact hy
   ·exact h'.1 z hz
  ·rename_i hl
   have hy:sl x.1 y.1:=by
    rcases ze1 (a:=x.1) (b:=y.1) hx.1 with z|z
    ·exact z
    ·exact(hl ((zns (fun e=>hx.1 e.symm)).mpr z)).elim
   refine cf.mpr ⟨fun z hz=>?_,h⟩;rcases(au.mp hz)with rfl|hz
   ·exact hy
   ·exact zlq hy (h'.1 z hz)
theorem z9q:∀{l:P},(ks l).Nodup->Sd (srt l)
 | [],_=>List.Pairwise.nil
 |x::l,nd=>by rw[ks,ao,ci]at nd;exact zil (z9q nd.2) fun z=>nd.1 (((z49 l).map (·.1)).mem_iff.mp z)
theorem zr6 {l:P}(h:Sd l):(ks l).Nodup:=by unfold ks List.Nodup;rw[jy];exact List.Pairwise.imp (fun z=>ztc z) h
theorem zfd {a b:P}(h:a.Perm b)(nd:(ks b).Nodup)(n:Str):fnd a n=fnd b n:=by
 have nda:(ks a).Nodup:=(List.Perm.nodup_iff (h.map (fun p:Str×Int=>p.1))).mpr nd;cases e:fnd b n with
 |some v=>exact z64 nda (h.mem_iff.mpr (z1r e))
 |none=>
  cases e2:fnd a n with
  |none=>rfl
  |some v=>rw[z64 nd (h.mem_iff.mp (z1r e2))]at e;cases e
structure PK (l:P):Prop where
 sd:Sd l
 pos:∀p∈l,0<p.2
theorem PK.nd {l:P}(h:PK l):(ks l).Nodup:=zr6 h.sd
theorem PK.nil:PK []:=⟨List.Pairwise.nil,fun _ h=>by cases h⟩
theorem PK.look_nn {l:P}(h:PK l)(n:Str):0<=look l n:=by
 unfold look;cases e:fnd l n with
 |none=>exact oq _
 |some v=>exact Int.le_of_lt (h.pos _ (z1r e))
theorem PK.key {l:P}(h:PK l){n:Str}:n∈ks l↔0<look l n:=by
 constructor
 ·intro z;obtain⟨v,e⟩:=z7k z;unfold look;rw[e];exact h.pos _ (z1r e)
 ·intro z;unfold look at z;cases e:fnd l n with
  |none=>rw[e]at z;exact absurd z (by decide)
  |some v=>exact zjs e
theorem PK.look_mem {l:P}(h:PK l){p:Str×Int}(hp:p∈l):look l p.1=p.2:=by unfold look;rw[z64 h.nd hp];rfl
theorem PK.ext:∀{a b:P},PK a->PK b->(∀n,look a n=look b n)->a=b
 | [],[],_,_,_=>rfl
 | [],q::b,_,hb,h=>by have:=h q.1;rw[hb.look_mem ak]at this;have z:0<q.2:=hb.pos _ ak;rw[<-this]at z;exact absurd z (Int.lt_irrefl 0)
 |p::a,[],ha,_,h=>by have:=h p.1;rw[ha.look_mem ak]at this;have z:0<p.2:=ha.pos _ ak;rw[this]at z;exact absurd z (Int.lt_irrefl 0)
 |p::a,q::b,ha,hb,h=>by
  have no:∀{x y:Str×Int} {l m:P},PK (x::l)->PK (y::m)->(∀n,look (x::l) n=look (y::m) n)->¬sl x.1 y.1:=fun{x y l m} hx hy h z=>by
   have e:=h x.1;rw[hx.look_mem ak]at e;have k:x.1∈ks (y::m):=hy.key.mpr (e▸hx.pos _ ak);rcases au.mp k with k|k
   ·exact zea _ (k▸z)
   ·obtain⟨w,hw,e2⟩:=bo.mp k;have:=(cf.mp hy.sd).1 w hw;rw[e2]at this;exact zea _ (zlq z this)
  have e1:p.1=q.1:=by
   by_cases e:p.1=q.1
   ·exact e
   ·rcases ze1 e with z|z
    ·exact(no ha hb h z).elim
    ·exact(no hb ha (fun n=>(h n).symm) z).elim
  have e2:p.2=q.2:=by have:=h p.1;rw[ha.look_mem ak,e1,hb.look_mem ak]at this;exact this
  have ep':p=q:=ub e1 e2;subst ep'
  congr 1
  have ta:PK a:=⟨(cf.mp ha.sd).2,fun x hx=>ha.pos x (aq _ hx)⟩;have tb:PK b:=⟨(cf.mp hb.sd).2,fun x hx=>hb.pos x (aq _ hx)⟩;refine PK.ext ta tb fun n=>?_;have hn:=h n;unfold look at hn ⊢;rw[fnd,fnd]at hn;by_cases e:p.1=n
  ·have na:n∉ks a:=by have :=ha.nd;rw[ks,ao,ci]at this;exact e▸this.1
   have nb:n∉ks b:=by have:=hb.nd;rw[ks,ao,ci]at this;exact e▸this.1
   rw[z0x na,z0x nb]
  ·rw[if_neg e,if_neg e]at hn;exact hn
end
section
open PySem
section
variable {Κ:List D}{Φ:List Fn}{ρ:Rho}{a b c t:C}{p q:S}{i:Nat}{f:D->Rho->Res Out}{x:D}{xs:List D}
theorem zqv:evS Κ Φ (.seq p q) ρ=outB (evS Κ Φ p ρ) (evS Κ Φ q):=rfl
theorem zjg:evS Κ Φ (.asg (.nm i) t) ρ=(evE Κ Φ t ρ>>=fun x=>.ok (.nx (ρ.set i (some (z1x x))))):=rfl
theorem R_if:evS Κ Φ (.ifS c p q) ρ=(evT Κ Φ c ρ>>=fun k=>if k then evS Κ Φ p ρ else evS Κ Φ q ρ):=rfl
theorem zhn:evS Κ Φ (.ret (.var i)) ρ=(match ρ[i]? with|some (some (g,d))=>.ok (.rt (if imm d then .fr else rtG g) d)|_=>.no):=rfl
theorem zrk:evS Κ Φ (.setIx i a b) ρ=(evE Κ Φ b ρ>>=fun y=>evE Κ Φ a ρ>>=fun x=>match ρ[i]? with
 |some (some (.fr,.dict es))=>if isK x.2&&okIn y&&decide (es.length<LIM)then .ok (.nx ((ρ.set i (some (.fr,.dict (dput es x.2 y.2)))).map z1e))else .no
 |some (some (.fr,.list xs))=>(match x.2 with
  |.int j=>if okIn y then(match ixN xs.length j with|some n=>.ok (.nx ((ρ.set i (some (.fr,.list (xs.set n y.2)))).map z1e))|none=>.no)else .no
  |_=>.no)
 |_=>.no):=rfl
theorem zve {m:String}:evS Κ Φ (.mut m i a) ρ=(evA Κ Φ a ρ>>=fun ys=>match ρ[i]? with
 |some (some (.fr,.list xs))=>mutD m xs ys>>=fun xs'=>.ok (.nx ((ρ.set i (some (.fr,.list xs'))).map z1e))
 |_=>.no):=rfl
theorem zuq {t':Tg}:evS Κ Φ (.for_ t' a p) ρ=(evF Κ Φ a ρ>>=fun w=>forD (fun x ρ1=>z19 t' (gJ x w.1,x) ρ1>>=fun ρ2=>evS Κ Φ p ρ2) w.2.1 w.2.2):=rfl
theorem zoa:forD f (x::xs) ρ=(match f x ρ with
 |.ok (.nx ρ')=>forD f xs ρ'
 |.ok (.rt g d)=>.ok (.rt g d)
 |.exc e=>.exc e
 |.no=>.no):=rfl
theorem zld:evA Κ Φ .nil ρ=.ok []:=rfl
theorem z59:evA Κ Φ (.cons a b) ρ=(evE Κ Φ a ρ>>=fun x=>evA Κ Φ b ρ>>=fun xs=>.ok (x::xs)):=rfl
theorem O_tv:evO Κ Φ (.tv a) ρ=(evE Κ Φ a ρ>>=fun x=>intO x.2):=rfl
theorem G_tv:evG Κ Φ (.tv a) ρ=(evE Κ Φ a ρ>>=fun x=>z4u x.2>>=fun p=>.ok (x.1,p)):=rfl
theorem T_tv:evT Κ Φ (.tv a) ρ=(evE Κ Φ a ρ>>=fun x=>z23 x.2):=rfl
theorem ztj:evT Κ Φ (.and a b) ρ=(evT Κ Φ a ρ>>=fun c=>if c then evT Κ Φ b ρ else .ok false):=rfl
theorem T_or:evT Κ Φ (.or a b) ρ=(evT Κ Φ a ρ>>=fun c=>if c then .ok true else evT Κ Φ b ρ):=rfl
theorem zsa:evT Κ Φ (.not a) ρ=(evT Κ Φ a ρ>>=fun c=>.ok (!c)):=rfl
theorem W_tv:evW Κ Φ (.tv a) ρ=(evE Κ Φ a ρ>>=fun x=>z66 x.2>>=fun xs=>.ok (x.1,xs)):=rfl
theorem zv9:evW Κ Φ (.rng a) ρ=(evA Κ Φ a ρ>>=fun ys=>rngD (ys.map (·.2))>>=fun xs=>.ok (.fr,xs)):=rfl
theorem zqa:evF Κ Φ (.tv (.var i)) ρ=(if ownB ρ i then zfx i ρ else if isAl Κ Φ (.tv (.var i)) ρ then evE Κ Φ (.var i) ρ>>=fun x=>evAl x ρ else evN Κ Φ (.tv (.var i)) ρ):=rfl
end
theorem z0d {Κ:List D}{Φ:List Fn}{a b:S}{ρ ρ':Rho}{r:Res Out}(h:evS Κ Φ a ρ=.ok (.nx ρ'))(k:evS Κ Φ b ρ'=r):evS Κ Φ (.seq a b) ρ=r:=by rw[zqv,h];exact k
theorem z0h {Κ:List D}{Φ:List Fn}{a b:S}{ρ:Rho}{g:G}{d:D}(h:evS Κ Φ a ρ=.ok (.rt g d)):evS Κ Φ (.seq a b) ρ=.ok (.rt g d):=by rw[zqv,h];rfl
theorem z0k {Κ:List D}{Φ:List Fn}{n:Nat}{s:S}{ds:List D}{g:G}{d:D}(h:evS Κ Φ s (ds.map (fun d=>some (.od,d))++bj (n-ds.length) none)=.ok (.rt g d)):runD Κ Φ n s ds=.ok (g,d):=by unfold runD;rw[h]
theorem zbg {α β:Type}{f:D->Rho->Res Out}{m:β->D}(I:α->Rho->Prop)(step:α->β->α):∀(xs:List β) (a:α) (ρ:Rho),(∀a x ρ,x∈xs->I a ρ->∃ρ',f (m x) ρ=.ok (.nx ρ')/\I (step a x) ρ')->I a ρ->∃ρ',forD f (xs.map m) ρ=.ok (.nx ρ')/\I (xs.foldl step a) ρ'
 | [],a,ρ,_,h=>⟨ρ,rfl,h⟩
 |x::xs,a,ρ,hf,h=>by obtain⟨ρ1,e,h1⟩:=hf a x ρ ak h;obtain⟨ρ2,e2,h2⟩:=zbg I step xs (step a x) ρ1 (fun a y ρ hy=>hf a y ρ (aq _ hy)) h1;exact⟨ρ2,by rw[ao,zoa,e];exact e2,h2⟩
theorem ze9 {β:Type}{f:D->Rho->Res Out}{m:β->D}(I:List β->Rho->Prop):∀(xs pre:List β) (ρ:Rho),(∀pr' x post ρ,pre++xs=pr'++x::post->I pr' ρ->∃ρ',f (m x) ρ=.ok (.nx ρ')/\I (pr'++[x]) ρ')->I pre ρ->∃ρ',forD f (xs.map m) ρ=.ok (.nx ρ')/\I (pre++xs) ρ'
 | [],pre,ρ,_,h=>⟨ρ,rfl,by rw[d8];exact h⟩
 |x::xs,pre,ρ,hf,h=>by
  obtain⟨ρ1,e,h1⟩:=hf pre x xs ρ rfl h;have e0:pre++[x]++xs=pre++x::xs:=by rw[gz];rfl
  obtain⟨ρ2,e2,h2⟩:=ze9 I xs (pre++[x]) ρ1 (fun pr' y post ρ hy=>hf pr' y post ρ (e0▸hy)) h1;exact⟨ρ2,by rw[ao,zoa,e];exact e2,e0▸h2⟩
theorem zaf {β:Type}{f:D->Res (Option GD)}{m:β->D}(g:β->Option D):∀(xs:List β),(∀x∈xs,f (m x)=.ok ((g x).map fun d=>(.fr,d)))->z3l f (xs.map m)=.ok ((xs.filterMap g).map fun d=>(.fr,d))
 | [],_=>rfl
 |x::xs,h=>by
  rw[ao,z3l,h x ak,Res.ok_bind,zaf g xs fun y hy=>h y (aq _ hy),Res.ok_bind];cases e:g x with
  |none=>rw[o5 e];rfl
  |some d=>rw[o6 e];rfl
theorem zca (xs:List D):gAll (xs.map fun d=>(G.fr,d))=.fr:=by unfold gAll;rw[if_pos];rw[bt];intro x hx;obtain⟨d,_,rfl⟩:=bo.mp hx;rfl
theorem zbv (xs:List D):(xs.map fun d=>(G.fr,d)).map (fun x=>x.2)=xs:=by rw[fg];exact List.map_id _
theorem zp5 (a b:Int):biD "max" [.int a,.int b]=.ok (.int (max a b)):=rfl
theorem zu7 (a b:Int):biD "min" [.int a,.int b]=.ok (.int (min a b)):=rfl
theorem zqz (l:P)(n:Str)(v:Int):mtD "get" (.dict (en l)) [.str n,.int v]=.ok (.int ((fnd l n).getD v)):=by have:mtD "get" (.dict (en l)) [.str n,.int v]=.ok ((z25 (en l) (.str n)).getD (.int v)):=rfl;rw[this,z40];cases fnd l n<;>rfl
theorem zac (l:P)(n:Str):mtD "get" (.dict (en l)) [.str n,.int 0]=.ok (.int (look l n)):=zqz l n 0
theorem zdq (l:Bool)(xs:List D):aggD "tuple" l xs=.ok (.tuple xs):=rfl
theorem zfl (l:Bool)(xs:List D):aggD "list" l xs=.ok (.list xs):=rfl
theorem za6 {l:P}(b:Bool)(nd:(ks l).Nodup):aggD "dict" b (l.map pr)=.ok (.dict (en l)):=by show Res.ofO ((z3p [] (l.map pr)).map PyData.dict)=_;rw[zfy nd];rfl
def chr (z:Str)(i:Int):Str:=⟨#[z.cps.toList.getD i.toNat 0]⟩
theorem zkw (a b:Str):(a++b).length=a.length+b.length:=by show Array.size (a.cps++b.cps)=_;rw[um];rfl
theorem zfb {α:Type}(xs:List α)(i:Int)(d:α)(h0:0<=i)(h1:i<xs.length):atI xs i=some (xs.getD i.toNat d):=by
 unfold atI ixN;rw[if_pos h0,if_pos h1];show xs[i.toNat]?=_;have:i.toNat<xs.length:=by omega
 rw[bc this,a9,bc this];rfl
theorem za2 {z:Str}{i:Int}(h0:0<=i)(h1:i<z.length)(hz:z.length<=1000):ixD (.str z) (.int i)=.ok (.str (chr z i)):=by show(if z.length<=LIM then Res.ofO ((atI z.cps.toList i).map fun c=>PyData.str ⟨#[c]⟩)else .no)=_;rw[if_pos (by unfold LIM;omega),zfb _ i 0 h0 (by rw[db];exact h1)];rfl
theorem z4x {ns:List Int}{i:Int}(h0:0<=i)(h1:i<ns.length):ixD (.list (ns.map .int)) (.int i)=.ok (.int (ns.getD i.toNat 0)):=by
 show Res.ofO (atI (ns.map PyData.int) i)=_;rw[zfb _ i (.int 0) h0 (by rw[ah];exact h1)];show Res.ok _=_
 congr 1
 have:i.toNat<ns.length:=by omega
 rw[a9,a9,bx,bc this];rfl
theorem getD_mem {α:Type}{ns:List α}{i:Int}{d:α}(h0:0<=i)(h1:i<ns.length):ns.getD i.toNat d∈ns:=by
 have:i.toNat<ns.length:=by omega
 rw[a9,bc this];exact d9 this
theorem add_str {a b:Str}(h:a.length+b.length<=1000):binD .Add (.str a) (.str b)=.ok (.str (a++b)):=by show(if _ then _ else _)=_;rw[if_pos (by unfold LIM;omega)]
theorem add_list {a b:List D}(h:a.length+b.length<=1000):binD .Add (.list a) (.list b)=.ok (.list (a++b)):=by show(if _ then _ else _)=_;rw[if_pos (by unfold LIM;omega)]
theorem zjf {a b:Int}(h:-(2 ^ 64)<b/\b<2 ^ 64):binD .Mult (.int a) (.int b)=.ok (.int (a*b)):=by show(if _ then _ else _)=_;rw[if_pos (.inr h)]
theorem z4j {a b:Int}(h:-(2 ^ 64)<a/\a<2 ^ 64):binD .Mult (.int a) (.int b)=.ok (.int (a*b)):=by show(if _ then _ else _)=_;rw[if_pos (.inl h)]
theorem z10 {a b:Int}(h:0<b):binD .Mod (.int a) (.int b)=.ok (.int (a%b)):=by show(if _ then _ else _)=_;rw[if_pos h]
theorem zsf:binD .Pow (.int 10) (.int 15)=.ok (.int 1000000000000000):=rfl
theorem zv2:binD .Pow (.int 10) (.int 30)=.ok (.int 1000000000000000000000000000000):=rfl
theorem zbj {n:Int}(h0:0<=n)(h1:n<=1000):rngD [.int n]=.ok ((cj n.toNat).map fun(i:Nat)=>.int i):=by show(if _ then _ else _)=_;rw[if_pos (by unfold LIM;omega)]
theorem z2e (ns:List Str):imms (ns.map .str)=true:=z1d.mpr fun x hx=>by obtain⟨p,_,rfl⟩:=bo.mp hx;rfl
theorem z0m (ns:List Int):imms (ns.map .int)=true:=z1d.mpr fun x hx=>by obtain⟨p,_,rfl⟩:=bo.mp hx;rfl
theorem z7d:∀(ns:List Str),allS (ns.map .str)=some ns
 | []=>rfl
 |n::ns=>by rw[ao,allS,z7d ns];rfl
theorem z75:∀(ss:List Str),(∀s∈ss,s.length=1)->(z69 "" ss).length=ss.length
 | [],_=>rfl
 |x::r,h=>by
  show(i9 (x.cps.toList++(r.map fun p=>([]:List Nat)++p.cps.toList).flatten)).size=_;have hx:=h x ak
  have h2:∀(r:List Str),(∀s∈r,s.length=1)->((r.map fun p=>([]:List Nat)++p.cps.toList).flatten).length=r.length:=by
   intro r
   induction r with
   |nil=>intro _;rfl
   |cons y r ih=>intro h;have hy:=h y ak;rw[ao,eu,az,ih fun s hs=>h s (aq _ hs)];have:(([]:List Nat)++y.cps.toList).length=1:=hy;rw[this,bq];omega
  rw[aw,az,h2 r fun s hs=>h s (aq _ hs)];have:x.cps.toList.length=1:=hx;rw[this,bq];omega
theorem zqd {ss:List Str}(h:∀s∈ss,s.length=1)(hl:ss.length<=1000):mtD "join" (.str "") [.list (ss.map .str)]=.ok (.str (z69 "" ss)):=by
 have:mtD "join" (.str "") [.list (ss.map .str)]=(match allS (ss.map .str)with|some ss=>if zmu "" ss<=LIM then .ok (.str (z69 "" ss))else .no|none=>.no):=rfl;rw[this,z7d]
 dsimp only
 rw[if_pos];unfold zmu;have h0:("":Str).length=0:=rfl
 have h1:∀(r:List Str),(∀s∈r,s.length=1)->(r.map (·.length)).sum=r.length:=by
  intro r
  induction r with
  |nil=>intro _;rfl
  |cons y r ih=>intro h;rw[ao,gj,h y ak,ih fun s hs=>h s (aq _ hs),bq];omega
 rw[h1 ss h,h0];unfold LIM;omega
theorem z1v (a b:Int):eqD (.int a) (.int b)=decide (a=b):=by show(a==b)=_;rfl
section
variable {Κ:List D}{Φ:List Fn}{ρ:Rho}
theorem zb5:evE Κ Φ (.var i) ρ=(rdS ρ[i]?):=rfl
theorem zul:evE Κ Φ (.non) ρ=(.ok (.fr,.none)):=rfl
theorem E_bl:evE Κ Φ (.bl b) ρ=(.ok (.fr,.bool b)):=rfl
theorem zsk:evE Κ Φ (.int i) ρ=(.ok (.fr,.int i)):=rfl
theorem zvp:evE Κ Φ (.str x) ρ=(.ok (.fr,.str x)):=rfl
theorem zoz:evE Κ Φ (.bin op a b) ρ=(evE Κ Φ a ρ>>=fun x=>evE Κ Φ b ρ>>=fun y=>binD op x.2 y.2>>=fun d=>.ok (gN d (gAll [x,y]),d)):=rfl
theorem zuo:evE Κ Φ (.cmp op a b) ρ=(evE Κ Φ a ρ>>=fun x=>evE Κ Φ b ρ>>=fun y=>cmpD op x.2 y.2>>=fun b=>.ok (.fr,.bool b)):=rfl
theorem zs7:evE Κ Φ (.isN ng a) ρ=(evE Κ Φ a ρ>>=fun x=>.ok (.fr,.bool (match x.2 with|.none=>!ng|_=>ng))):=rfl
theorem zsq:evE Κ Φ (.and a b) ρ=(evE Κ Φ a ρ>>=fun x=>match x.2 with|.bool c=>if c then evE Κ Φ b ρ else .ok (.fr,.bool false)|_=>.no):=rfl
theorem zq5:evE Κ Φ (.ife c a b) ρ=(evT Κ Φ c ρ>>=fun k=>if k then evE Κ Φ a ρ else evE Κ Φ b ρ):=rfl
theorem zop:evE Κ Φ (.tup xs) ρ=(evA Κ Φ xs ρ>>=fun ys=>.ok (gJ (.tuple (ys.map (·.2))) (gAll ys),.tuple (ys.map (·.2)))):=rfl
theorem zvs:evE Κ Φ (.lst xs) ρ=(evA Κ Φ xs ρ>>=fun ys=>.ok (gAll ys,.list (ys.map (·.2)))):=rfl
theorem zu6:evE Κ Φ (.rep xs b) ρ=(evA Κ Φ xs ρ>>=fun ys=>evE Κ Φ b ρ>>=fun n=>repD ys n.2):=rfl
theorem zoj:evE Κ Φ (.dnew) ρ=(.ok (.fr,.dict [])):=rfl
theorem E_ix:evE Κ Φ (.ix a b) ρ=(evE Κ Φ a ρ>>=fun x=>evE Κ Φ b ρ>>=fun y=>ixD x.2 y.2>>=fun d=>.ok (gJ d x.1,d)):=rfl
theorem E_sl:evE Κ Φ (.sl a lo hi) ρ=(evE Κ Φ a ρ>>=fun x=>evO Κ Φ lo ρ>>=fun l=>evO Κ Φ hi ρ>>=fun h=>slD x.2 l h>>=fun d=>.ok (gJ d (gAll [x]),d)):=rfl
theorem z98:evE Κ Φ (.call k w1 args) ρ=(evA Κ Φ args ρ>>=fun ys=>match Φ[k]? with|some m=>m (ys.map (·.2))>>=fun r=>.ok (gJ r.2 (rtG r.1),r.2)|none=>.no):=rfl
theorem E_bi:evE Κ Φ (.bi f args) ρ=(evA Κ Φ args ρ>>=fun ys=>biD f (ys.map (·.2))>>=fun d=>.ok (gJ d .al,d)):=rfl
theorem zpw:evE Κ Φ (.agg f a) ρ=(evG Κ Φ a ρ>>=fun w=>aggD f w.2.1 w.2.2>>=fun d=>.ok (gJ d (if imms w.2.2 then .fr else rtG w.1),d)):=rfl
theorem zsz:evE Κ Φ (.isT a ts) ρ=(evE Κ Φ a ρ>>=fun x=>.ok (.fr,.bool (ts.any fun T=>isTy (tyOf x.2) T))):=rfl
theorem E_mt:evE Κ Φ (.mt m o args) ρ=(evE Κ Φ o ρ>>=fun x=>evA Κ Φ args ρ>>=fun ys=>mtD m x.2 (ys.map (·.2))>>=fun d=>.ok (gJ d .al,d)):=rfl
theorem zlv:evE Κ Φ (.sortI i) ρ=(match ρ[i]? with
 |some (some (_,.dict es))=>if immE es&&z1c (es.map ent)&&decide (es.length<64)then .ok (.fr,.list (z1a (es.map ent)))else .no
 |_=>.no):=rfl
theorem znj {cond:C}:evE Κ Φ (.comp nt js w1 tg it cond elt) ρ=(evW Κ Φ it ρ>>=fun w=>z3l (fun x=>z19 tg (gJ x w.1,x) (bj nt none++js.map fun j=>toAl (ρ.getD j none))>>=fun ρ1=>evT Κ Φ cond ρ1>>=fun k=>if k then evE Κ Φ elt ρ1>>=fun y=>.ok (some y)else .ok none) w.2>>=fun ys=>.ok (gAll ys,.list (ys.map (·.2)))):=rfl
end
section
variable {Κ:List D}{Φ:List Fn}{ρ:Rho}{a b c t o args:C}{x y d:D}{ds:List D}{k k':Bool}{g:G}
def Ev (Κ:List D)(Φ:List Fn)(c:C)(ρ:Rho)(d:D):Prop:=∃g,evE Κ Φ c ρ=.ok (g,d)
def Vv (Κ:List D)(Φ:List Fn)(c:C)(ρ:Rho)(d:D):Prop:=evE Κ Φ c ρ=.ok (.fr,d)/\imm d=true
def Aa (Κ:List D)(Φ:List Fn)(c:C)(ρ:Rho)(ds:List D):Prop:=∃ys,evA Κ Φ c ρ=.ok ys/\ys.map (·.2)=ds
def Av (Κ:List D)(Φ:List Fn)(c:C)(ρ:Rho)(ds:List D):Prop:=evA Κ Φ c ρ=.ok (ds.map fun d=>(.fr,d))/\imms ds=true
def Tt (Κ:List D)(Φ:List Fn)(c:C)(ρ:Rho)(k:Bool):Prop:=evT Κ Φ c ρ=.ok k
theorem Vv.e (h:Vv Κ Φ c ρ d):Ev Κ Φ c ρ d:=⟨_,h.1⟩
theorem Ev.of (h:evE Κ Φ c ρ=.ok (g,d)):Ev Κ Φ c ρ d:=⟨_,h⟩
theorem z01 {i:Nat}(h:ρ[i]?=some (some (g,d))):Ev Κ Φ (.var i) ρ d:=⟨_,by rw[zb5];rw[h];rfl⟩
theorem v_var {i:Nat}(h:ρ[i]?=some (some (g,d)))(hi:imm d=true):Vv Κ Φ (.var i) ρ d:=⟨by rw[zb5];rw[h];show Res.ok (if imm d=true then _ else _,d)=_;rw[if_pos hi],hi⟩
theorem z04 {i:Int}:Vv Κ Φ (.int i) ρ (.int i):=⟨by rw[zsk],rfl⟩
theorem z20 {i:Str}:Vv Κ Φ (.str i) ρ (.str i):=⟨by rw[zvp],rfl⟩
theorem v_bl {i:Bool}:Vv Κ Φ (.bl i) ρ (.bool i):=⟨by rw[E_bl],rfl⟩
theorem zpn:Vv Κ Φ .non ρ .none:=⟨by rw[zul],rfl⟩
theorem z2c (hi:imm d=true):gJ d g=.fr:=by unfold gJ;rw[if_pos hi]
theorem zrg (hi:imm d=true):gN d g=.fr:=by cases d<;>first|exact z2c hi|cases hi
theorem z0c {op:kq}(ha:Ev Κ Φ a ρ x)(hb:Ev Κ Φ b ρ y)(h:binD op x y=.ok d)(hi:imm d=true):Vv Κ Φ (.bin op a b) ρ d:=by obtain⟨g1,ha⟩:=ha;obtain⟨g2,hb⟩:=hb;refine⟨?_,hi⟩;rw[zoz];rw[ha,Res.ok_bind,hb,Res.ok_bind];dsimp only;rw[h,Res.ok_bind,zrg hi]
theorem zgh {op:kq}{xs:List D}(ha:Ev Κ Φ a ρ x)(hb:Ev Κ Φ b ρ y)(h:binD op x y=.ok (.list xs))(hi:imms xs=true):evE Κ Φ (.bin op a b) ρ=.ok (.fr,.list xs):=by obtain⟨g1,ha⟩:=ha;obtain⟨g2,hb⟩:=hb;rw[zoz];rw[ha,Res.ok_bind,hb,Res.ok_bind];dsimp only;rw[h,Res.ok_bind];show Res.ok (if imms xs=true then _ else _,_)=_;rw[if_pos hi]
theorem z0p {op:CmpOp}(ha:Ev Κ Φ a ρ x)(hb:Ev Κ Φ b ρ y)(h:cmpD op x y=.ok k):Vv Κ Φ (.cmp op a b) ρ (.bool k):=by obtain⟨g1,ha⟩:=ha;obtain⟨g2,hb⟩:=hb;refine⟨?_,rfl⟩;rw[zuo];rw[ha,Res.ok_bind,hb,Res.ok_bind];dsimp only;rw[h];rfl
def isNo:D->Bool
 |.none=>true
 |_=>false
theorem z6n {ng:Bool}(ha:Ev Κ Φ a ρ x):Vv Κ Φ (.isN ng a) ρ (.bool (if isNo x then !ng else ng)):=by obtain⟨g1,ha⟩:=ha;refine⟨?_,rfl⟩;rw[zs7];rw[ha];cases x<;>rfl
theorem v_and (ha:Ev Κ Φ a ρ (.bool k))(hb:k=true->Vv Κ Φ b ρ (.bool k')):Vv Κ Φ (.and a b) ρ (.bool (k&&k')):=by
 obtain⟨g1,ha⟩:=ha;refine⟨?_,rfl⟩;rw[zsq];rw[ha];cases k with
 |true=>exact(hb rfl).1
 |false=>rfl
theorem zlo (hc:Tt Κ Φ c ρ k)(h1:k=true->Vv Κ Φ a ρ x)(h2:k=false->Vv Κ Φ b ρ y):Vv Κ Φ (.ife c a b) ρ (if k then x else y):=by
 unfold Tt at hc;cases k with
 |true=>exact⟨by rw[zq5];rw[hc];exact(h1 rfl).1,(h1 rfl).2⟩
 |false=>exact⟨by rw[zq5];rw[hc];exact(h2 rfl).1,(h2 rfl).2⟩
theorem z0f:Av Κ Φ .nil ρ []:=⟨rfl,rfl⟩
theorem z02 (ha:Vv Κ Φ a ρ x)(hb:Av Κ Φ b ρ ds):Av Κ Φ (.cons a b) ρ (x::ds):=⟨by rw[z59,ha.1,Res.ok_bind,hb.1];rfl,by show(imm x&&imms ds)=true;rw[ha.2,hb.2];rfl⟩
theorem z03:Aa Κ Φ .nil ρ []:=⟨[],rfl,rfl⟩
theorem z00 (ha:Ev Κ Φ a ρ x)(hb:Aa Κ Φ b ρ ds):Aa Κ Φ (.cons a b) ρ (x::ds):=by obtain⟨g1,ha⟩:=ha;obtain⟨ys,hb,e⟩:=hb;exact⟨_,by rw[z59,ha,Res.ok_bind,hb];rfl,by rw[ao,e]⟩
theorem z0v (h:Av Κ Φ args ρ ds):Vv Κ Φ (.tup args) ρ (.tuple ds):=by refine⟨?_,h.2⟩;rw[zop];rw[h.1,Res.ok_bind,zbv,z2c (d:=.tuple ds) h.2]
theorem zpl (h:Aa Κ Φ args ρ ds):Ev Κ Φ (.tup args) ρ (.tuple ds):=by obtain⟨ys,h,e⟩:=h;exact⟨_,by rw[zop];rw[h,Res.ok_bind,e]⟩
theorem z22 (h:Av Κ Φ args ρ ds):evE Κ Φ (.lst args) ρ=.ok (.fr,.list ds):=by rw[zvs];rw[h.1,Res.ok_bind,zbv,zca]
theorem zuw (h:Av Κ Φ args ρ ds)(hb:Ev Κ Φ b ρ x)(hr:repD (ds.map fun d=>(.fr,d)) x=.ok (g,d)):evE Κ Φ (.rep args b) ρ=.ok (g,d):=by obtain⟨g',hb⟩:=hb;rw[zu6,h.1,Res.ok_bind,hb,Res.ok_bind];exact hr
theorem zqy:evE Κ Φ .dnew ρ=.ok (.fr,.dict []):=by rw[zoj]
theorem v_ix (ha:Ev Κ Φ a ρ x)(hb:Ev Κ Φ b ρ y)(h:ixD x y=.ok d)(hi:imm d=true):Vv Κ Φ (.ix a b) ρ d:=by obtain⟨g1,ha⟩:=ha;obtain⟨g2,hb⟩:=hb;refine⟨?_,hi⟩;rw[E_ix];rw[ha,Res.ok_bind,hb,Res.ok_bind];dsimp only;rw[h,Res.ok_bind,z2c hi]
def Oo (Κ:List D)(Φ:List Fn)(c:C)(ρ:Rho)(i:Option Int):Prop:=evO Κ Φ c ρ=.ok i
theorem z7j:Oo Κ Φ .nil ρ none:=rfl
theorem z3v {i:Int}(h:Ev Κ Φ a ρ (.int i)):Oo Κ Φ (.tv a) ρ (some i):=by obtain⟨g1,h⟩:=h;unfold Oo;rw[O_tv,h];rfl
theorem v_sl {i j:Option Int}(ha:Ev Κ Φ a ρ x)(hb:Oo Κ Φ b ρ i)(hc:Oo Κ Φ c ρ j)(h:slD x i j=.ok d)(hi:imm d=true):Vv Κ Φ (.sl a b c) ρ d:=by obtain⟨g1,ha⟩:=ha;unfold Oo at hb hc;refine⟨?_,hi⟩;rw[E_sl];rw[ha,Res.ok_bind,hb,Res.ok_bind,hc,Res.ok_bind];dsimp only;rw[h,Res.ok_bind,z2c hi]
theorem z07 {n:Nat}{f:Str}{m:Fn}(ha:Aa Κ Φ args ρ ds)(hf:Φ[n]?=some m)(h:m ds=.ok (g,d))(hi:imm d=true):Vv Κ Φ (.call n f args) ρ d:=by obtain⟨ys,ha,e⟩:=ha;refine⟨?_,hi⟩;rw[z98];rw[ha,Res.ok_bind,hf];dsimp only;rw[e,h,Res.ok_bind,z2c hi]
theorem z7o {n:Nat}{f:Str}{m:Fn}(ha:Aa Κ Φ args ρ ds)(hf:Φ[n]?=some m)(h:m ds=.ok (g,d)):Ev Κ Φ (.call n f args) ρ d:=by obtain⟨ys,ha,e⟩:=ha;exact⟨_,by rw[z98];rw[ha,Res.ok_bind,hf];dsimp only;rw[e,h,Res.ok_bind]⟩
theorem z2o {n:Nat}{f:Str}{m:Fn}{xs:List D}(ha:Aa Κ Φ args ρ ds)(hf:Φ[n]?=some m)(h:m ds=.ok (.fr,.list xs)):evE Κ Φ (.call n f args) ρ=.ok (.fr,.list xs):=by obtain⟨ys,ha,e⟩:=ha;rw[z98];rw[ha,Res.ok_bind,hf];dsimp only;rw[e,h,Res.ok_bind];rfl
theorem v_bi {f:String}(ha:Aa Κ Φ args ρ ds)(h:biD f ds=.ok d)(hi:imm d=true):Vv Κ Φ (.bi f args) ρ d:=by obtain⟨ys,ha,e⟩:=ha;refine⟨?_,hi⟩;rw[E_bi];rw[ha,Res.ok_bind,e,h,Res.ok_bind,z2c hi]
theorem z8p {f:String}{w:Bool×List D}(ha:Ev Κ Φ a ρ x)(hw:z4u x=.ok w)(h:aggD f w.1 w.2=.ok d)(hi:imm d=true):Vv Κ Φ (.agg f (.tv a)) ρ d:=by obtain⟨g1,ha⟩:=ha;refine⟨?_,hi⟩;rw[zpw];rw[G_tv,ha,Res.ok_bind];dsimp only;rw[hw];simp only[Res.ok_bind];rw[h,Res.ok_bind,z2c hi]
theorem zaz {f:String}{w:Bool×List D}(ha:Ev Κ Φ a ρ x)(hw:z4u x=.ok w)(h:aggD f w.1 w.2=.ok d)(hi:imms w.2=true):evE Κ Φ (.agg f (.tv a)) ρ=.ok (.fr,d):=by obtain⟨g1,ha⟩:=ha;rw[zpw];rw[G_tv,ha,Res.ok_bind];dsimp only;rw[hw];simp only[Res.ok_bind];rw[h,Res.ok_bind,if_pos hi];unfold gJ;split<;>rfl
theorem zgi {ts:List String}(ha:Ev Κ Φ a ρ x):Vv Κ Φ (.isT a ts) ρ (.bool (ts.any fun T=>isTy (tyOf x) T)):=by obtain⟨g1,ha⟩:=ha;refine⟨?_,rfl⟩;rw[zsz];rw[ha];rfl
theorem v_mt {m:String}(ho:Ev Κ Φ o ρ x)(ha:Aa Κ Φ args ρ ds)(h:mtD m x ds=.ok d)(hi:imm d=true):Vv Κ Φ (.mt m o args) ρ d:=by obtain⟨g1,ho⟩:=ho;obtain⟨ys,ha,e⟩:=ha;refine⟨?_,hi⟩;rw[E_mt];rw[ho,Res.ok_bind,ha,Res.ok_bind,e];dsimp only;rw[h,Res.ok_bind,z2c hi]
theorem t_tv (h:Ev Κ Φ a ρ x)(ht:z23 x=.ok k):Tt Κ Φ (.tv a) ρ k:=by obtain⟨g1,h⟩:=h;unfold Tt;rw[T_tv,h];exact ht
theorem zdf:Tt Κ Φ .nil ρ true:=rfl
theorem zjd (ha:Tt Κ Φ a ρ k)(hb:k=true->Tt Κ Φ b ρ k'):Tt Κ Φ (.and a b) ρ (k&&k'):=by
 unfold Tt at *
 rw[ztj,ha];cases k with
 |true=>exact hb rfl
 |false=>rfl
theorem t_or (ha:Tt Κ Φ a ρ k)(hb:k=false->Tt Κ Φ b ρ k'):Tt Κ Φ (.or a b) ρ (k||k'):=by
 unfold Tt at *
 rw[T_or,ha];cases k with
 |false=>exact hb rfl
 |true=>rfl
theorem z33 (ha:Tt Κ Φ a ρ k):Tt Κ Φ (.not a) ρ (!k):=by
 unfold Tt at *
 rw[zsa,ha];rfl
theorem z32 {β:Type}{nt:Nat}{js:List Nat}{N':List Str}{tg:Tg}{it cond elt:C}{w:G×List D}{m:β->D}{xs:List β}(p:β->Bool)(f:β->D)(hw:evW Κ Φ it ρ=.ok w)(hx:w.2=xs.map m)(r:β->Rho)
  (hb:∀x∈xs,z19 tg (gJ (m x) w.1,m x) (bj nt none++js.map fun j=>toAl (ρ.getD j none))=.ok (r x)) (hc:∀x∈xs,Tt Κ Φ cond (r x) (p x)) (he:∀x∈xs,p x=true->Vv Κ Φ elt (r x) (f x)):
  evE Κ Φ (.comp nt js N' tg it cond elt) ρ=.ok (.fr,.list ((xs.filter p).map f)):=by
 rw[znj];rw[hw,Res.ok_bind,hx]
 rw[zaf (fun x=>if p x then some (f x)else none) xs fun x hx=>by
  rw[hb x hx,Res.ok_bind];have:=hc x hx;unfold Tt at this;rw[this,Res.ok_bind];cases e:p x with
  |true=>rw[if_pos rfl,(he x hx e).1];rfl
  |false=>rfl]
 rw[Res.ok_bind,zca,zbv]
 have:(xs.filterMap fun x=>if p x=true then some (f x)else none)=(xs.filter p).map f:=by
  clear hx hb hc he hw
  induction xs with
  |nil=>rfl
  |cons x xs ih=>
   cases e:p x with
   |true=>rw[o6 (b:=f x) (by rw[e];rfl),pi e,ao,ih]
   |false=>rw[o5 (by rw[e];rfl),pj (by rw[e];exact b9),ih]
 rw[this]
theorem w_tv {xs:List D}(h:evE Κ Φ a ρ=.ok (g,x))(hw:z66 x=.ok xs):evW Κ Φ (.tv a) ρ=.ok (g,xs):=by rw[W_tv,h,Res.ok_bind];dsimp only;rw[hw];rfl
theorem zus {xs:List D}(h:Aa Κ Φ args ρ ds)(hw:rngD ds=.ok xs):evW Κ Φ (.rng args) ρ=.ok (.fr,xs):=by obtain⟨ys,h,e⟩:=h;rw[zv9,h,Res.ok_bind,e,hw];rfl
theorem z0e {i:Nat}(h:Vv Κ Φ t ρ d):evS Κ Φ (.asg (.nm i) t) ρ=.ok (.nx (ρ.set i (some (.al,d)))):=by rw[zjg,h.1,Res.ok_bind];show Res.ok (Out.nx (ρ.set i (some (if imm d then(.al,d)else _))))=_;rw[if_pos h.2]
theorem z18 {i:Nat}{xs:List D}(h:evE Κ Φ t ρ=.ok (.fr,.list xs))(hi:imms xs=true):evS Κ Φ (.asg (.nm i) t) ρ=.ok (.nx (ρ.set i (some (.fr,.list xs)))):=by rw[zjg,h,Res.ok_bind];show Res.ok (Out.nx (ρ.set i (some (if imms xs then .fr else .al,.list xs))))=_;rw[if_pos hi]
theorem zdl {i:Nat}{es:Ents}(h:evE Κ Φ t ρ=.ok (.fr,.dict es))(hi:immE es=true):evS Κ Φ (.asg (.nm i) t) ρ=.ok (.nx (ρ.set i (some (.fr,.dict es)))):=by rw[zjg,h,Res.ok_bind];show Res.ok (Out.nx (ρ.set i (some (if immE es then .fr else .al,.dict es))))=_;rw[if_pos hi]
theorem zc0 (hv:∀i,t≠.var i):evS Κ Φ (.ret t) ρ=(evE Κ Φ t ρ>>=fun x=>.ok (.rt (rtG x.1) x.2)):=by cases t<;>first|exact absurd rfl (hv _)|rfl
theorem z0g (h:Vv Κ Φ t ρ d):evS Κ Φ (.ret t) ρ=.ok (.rt .fr d):=by
 by_cases hv:∀i,t≠.var i
 ·rw[zc0 hv,h.1];rfl
 obtain⟨i,rfl⟩:∃i,t=.var i:=by cases t<;>first|exact⟨_,rfl⟩|exact(hv fun i z=>by cases z).elim
 have h1:=h.1;rw[zb5]at h1;rw[zhn];cases hr:ρ[i]? with
 |none=>rw[hr]at h1;cases h1
 |some o=>
  cases o with
  |none=>rw[hr]at h1;cases h1
  |some gd=>
   obtain⟨g,d'⟩:=gd;rw[hr]at h1;have:d'=d:=by have:=congrArg (fun r:Res GD=>match r with|.ok p=>p.2|_=>.none) h1;exact this
   subst this;show Res.ok (Out.rt (if imm d'=true then _ else _) d')=_;rw[if_pos h.2]
theorem zcb {xs:List D}(hv:∀i,t≠.var i)(h:evE Κ Φ t ρ=.ok (.fr,.list xs)):evS Κ Φ (.ret t) ρ=.ok (.rt .fr (.list xs)):=by rw[zc0 hv,h];rfl
theorem z0l {p q:S}{r:Res Out}(hc:Tt Κ Φ c ρ k)(h1:k=true->evS Κ Φ p ρ=r)(h2:k=false->evS Κ Φ q ρ=r):evS Κ Φ (.ifS c p q) ρ=r:=by
 unfold Tt at hc;rw[R_if,hc,Res.ok_bind];cases k with
 |true=>exact h1 rfl
 |false=>exact h2 rfl
theorem z0i:evS Κ Φ .nil ρ=.ok (.nx ρ):=rfl
theorem zqs {i:Nat}{es:Ents}{n:Str}(hv:Vv Κ Φ b ρ x)(hk:Ev Κ Φ a ρ (.str n))(hr:ρ[i]?=some (some (.fr,.dict es)))(hl:es.length<LIM):evS Κ Φ (.setIx i a b) ρ=.ok (.nx ((ρ.set i (some (.fr,.dict (dput es (.str n) x)))).map z1e)):=by
 obtain⟨g1,hk⟩:=hk;rw[zrk,hv.1,Res.ok_bind,hk,Res.ok_bind,hr]
 dsimp only
 rw[if_pos];unfold okIn;rw[z6f,hv.2,md,md];exact we hl
theorem zob {i:Nat}{l:P}{n:Str}{v:Int}(hv:Vv Κ Φ b ρ (.int v))(hk:Ev Κ Φ a ρ (.str n))(hr:ρ[i]?=some (some (.fr,.dict (en l))))(nd:(ks l).Nodup)(hl:l.length<64):evS Κ Φ (.setIx i a b) ρ=.ok (.nx ((ρ.set i (some (.fr,.dict (en (put l n v))))).map z1e)):=by rw[zqs hv hk hr (by rw[zi3];unfold LIM;omega),zet nd]
theorem zdx {i:Nat}{xs:List D}(hv:Vv Κ Φ a ρ x)(hr:ρ[i]?=some (some (.fr,.list xs)))(hl:xs.length<1000):evS Κ Φ (.mut "append" i (.cons a .nil)) ρ=.ok (.nx ((ρ.set i (some (.fr,.list (xs++[x])))).map z1e)):=by
 rw[zve,z59,hv.1,Res.ok_bind,zld,Res.ok_bind,Res.ok_bind,hr]
 dsimp only
 have:mutD "append" xs [(.fr,x)]=.ok (xs++[x]):=by show(if(okIn (G.fr,x)&&decide (xs.length<LIM))=true then _ else _)=_;rw[if_pos];unfold okIn;rw[hv.2,md];refine we ?_;unfold LIM;omega
 rw[this];rfl
theorem zc1 {i:Nat}{xs:List D}(h:ρ[i]?=some (some (g,d)))(hg:g≠.fr)(hi:imm d=true)(hw:z66 d=.ok xs):evF Κ Φ (.tv (.var i)) ρ=.ok (.fr,xs,ρ):=by
 have e1:evE Κ Φ (.var i) ρ=.ok (.fr,d):=(v_var h hi).1;have e2:evW Κ Φ (.tv (.var i)) ρ=.ok (.fr,xs):=w_tv e1 hw
 have e3:ownB ρ i=false:=by
  unfold ownB;rw[h];cases g with
  |fr=>exact absurd rfl hg
  |od=>rfl
  |al=>rfl
 rw[zqa,e3];unfold isAl evN;rw[e2];rfl
theorem f_od {i:Nat}{xs:List D}(h:ρ[i]?=some (some (.od,d)))(hi:imm d=false)(hw:z66 d=.ok xs):evF Κ Φ (.tv (.var i)) ρ=.ok (.od,xs,ρ):=by
 have e1:evE Κ Φ (.var i) ρ=.ok (.od,d):=by rw[zb5];rw[h];show Res.ok (if imm d=true then _ else _,d)=_;rw[hi];rfl
 have e2:evW Κ Φ (.tv (.var i)) ρ=.ok (.od,xs):=w_tv e1 hw;have e3:ownB ρ i=false:=by unfold ownB;rw[h]
 rw[zqa,e3];unfold isAl evN;rw[e2];rfl
theorem zc3 {xs:List D}(h:Aa Κ Φ args ρ ds)(hw:rngD ds=.ok xs):evF Κ Φ (.rng args) ρ=.ok (.fr,xs,ρ):=by show evN Κ Φ (.rng args) ρ=_;unfold evN;rw[zus h hw];rfl
theorem zg2 {xs ys:List D}{x y:D}(ha:Ev Κ Φ a ρ x)(hb:Ev Κ Φ b ρ y)(hx:seqI x=.ok xs)(hy:seqI y=.ok ys):evW Κ Φ (.zip a b) ρ=.ok (.al,zipD xs ys):=by obtain⟨g,ha⟩:=ha;obtain⟨g',hb⟩:=hb;show(evE Κ Φ a ρ>>=fun x=>evE Κ Φ b ρ>>=fun y=>seqI x.2>>=fun xs=>seqI y.2>>=fun ys=>Res.ok (G.al,zipD xs ys))=_;rw[ha,Res.ok_bind,hb,Res.ok_bind];show(seqI x>>=fun xs=>seqI y>>=fun ys=>Res.ok (G.al,zipD xs ys))=_;rw[hx,Res.ok_bind,hy];rfl
theorem zj2 {xs ys:List D}{x y:GD}(ha:evE Κ Φ a ρ=.ok x)(hb:evE Κ Φ b ρ=.ok y)(ca:z51 x=true)(cb:z51 y=true)(hx:seqI x.2=.ok xs)(hy:seqI y.2=.ok ys):evF Κ Φ (.zip a b) ρ=.ok (.al,zipD xs ys,ρ):=by
 have e:evA Κ Φ (.cons a (.cons b .nil)) ρ=.ok [x,y]:=by rw[z59,ha,Res.ok_bind,z59,hb,Res.ok_bind,zld];rfl
 show(evA Κ Φ (.cons a (.cons b .nil)) ρ>>=fun ys=>evZi ys ρ)=_;rw[e,Res.ok_bind];unfold evZi
 dsimp only
 rw[ca,cb];show(seqI x.2>>=fun xs=>seqI y.2>>=fun zs=>Res.ok (G.al,zipD xs zs,ρ))=_;rw[hx,Res.ok_bind,hy];rfl
theorem zvn {xs:List D}{x:GD}(ha:evE Κ Φ a ρ=.ok x)(ca:z51 x=true)(hx:seqI x.2=.ok xs):evF Κ Φ (.enum a) ρ=.ok (.al,z2n 0 xs,ρ):=by
 have e:evA Κ Φ (.cons a .nil) ρ=.ok [x]:=by rw[z59,ha,Res.ok_bind,zld];rfl
 show(evA Κ Φ (.cons a .nil) ρ>>=fun ys=>evEn ys ρ)=_;rw[e,Res.ok_bind];unfold evEn
 dsimp only
 rw[ca,if_pos rfl,hx];rfl
theorem z5f {xs:List D}(h:imms xs=true)(hl:xs.length<=1000):seqI (.list xs)=.ok xs:=by show(if(imms xs&&decide (xs.length<=LIM))=true then Res.ok xs else .no)=_;rw[h,we (show xs.length<=LIM by unfold LIM;omega)];rfl
theorem zna {xs:List D}(h:imms xs=true)(hl:xs.length<=1000):seqI (.tuple xs)=.ok xs:=by show(if(imms xs&&decide (xs.length<=LIM))=true then Res.ok xs else .no)=_;rw[h,we (show xs.length<=LIM by unfold LIM;omega)];rfl
theorem zfk {β γ:Type}(m:β->D)(n:γ->D):∀(xs:List β) (ys:List γ),zipD (xs.map m) (ys.map n)=(xs.zip ys).map fun p=>.tuple [m p.1,n p.2]
 | [],_=>by simp[zipD]
 |_::_,[]=>by simp[zipD]
 |x::xs,y::ys=>by rw[ao,ao,zipD,zfk m n xs ys];rfl
theorem zis {β:Type}(m:β->D):∀(k:Nat) (xs:List β),z2n k (xs.map m)=(xs.zipIdx k).map fun p=>.tuple [.int p.2,m p.1]
 |_,[]=>rfl
 |k,x::xs=>by rw[ao,z2n,zis m (k+1) xs];rfl
theorem z44 {i j:Nat}{x y:D}{g:G}(hx:imm x=true)(hy:imm y=true):z19 (.tp [i,j]) (gJ (.tuple [x,y]) g,.tuple [x,y]) ρ=.ok ((ρ.set i (some (.al,x))).set j (some (.al,y))):=by show Res.ofO (some ((ρ.set i (some (z2u (gJ x _,x)))).set j (some (z2u (gJ y _,y)))))=_;rw[z2c hx,z2c hy];rfl
theorem z95 {t':Tg}{it:C}{p:S}{w:G×List D×Rho}{r:Res Out}(h:evF Κ Φ it ρ=.ok w)(k:forD (fun x ρ1=>z19 t' (gJ x w.1,x) ρ1>>=fun ρ2=>evS Κ Φ p ρ2) w.2.1 w.2.2=r):evS Κ Φ (.for_ t' it p) ρ=r:=by rw[zuq,h];exact k
theorem zlr {α β:Type}{t':Tg}{it:C}{p rest:S}{r:Res Out}{m:β->D}{xs:List β}{ρ1:Rho}(h:evF Κ Φ it ρ=.ok (g,xs.map m,ρ1))(I:α->Rho->Prop)(step:α->β->α)(a0:α)(h0:I a0 ρ1)
  (hf:∀a x ρ,x∈xs->I a ρ->∃ρ',(z19 t' (gJ (m x) g,m x) ρ>>=fun ρ2=>evS Κ Φ p ρ2)=.ok (.nx ρ')/\I (step a x) ρ') (hk:∀ρ',I (xs.foldl step a0) ρ'->evS Κ Φ rest ρ'=r):evS Κ Φ (.seq (.for_ t' it p) rest) ρ=r:=by
 obtain⟨ρ',e,i⟩:=zbg (f:=fun x ρ1=>z19 t' (gJ x g,x) ρ1>>=fun ρ2=>evS Κ Φ p ρ2) I step xs a0 ρ1 hf h0;exact z0d (z95 h e) (hk ρ' i)
theorem z8f {p q rest:S}(hc:Tt Κ Φ c ρ k)(hk:k=true)(h:evS Κ Φ p ρ=.ok (.rt g d)):evS Κ Φ (.seq (.ifS c p q) rest) ρ=.ok (.rt g d):=z0h (z0l hc (fun _=>h) fun z=>by rw[hk]at z;cases z)
theorem z2i {p rest:S}{r:Res Out}(hc:Tt Κ Φ c ρ k)(hk:k=false)(h:evS Κ Φ rest ρ=r):evS Κ Φ (.seq (.ifS c p .nil) rest) ρ=r:=z0d (z0l hc (fun z=>by rw[hk]at z;cases z) fun _=>z0i) h
theorem z7y {i:Nat}{xs:List D}(h:ρ[i]?=some (some (.fr,.list xs))):evS Κ Φ (.ret (.var i)) ρ=.ok (.rt .fr (.list xs)):=by rw[zhn,h];rfl
theorem q_ok {Q:Res Out->Prop}{p q:S}{ρ':Rho}(h:evS Κ Φ p ρ=.ok (.nx ρ'))(k:Q (evS Κ Φ q ρ')):Q (evS Κ Φ (.seq p q) ρ):=by rw[z0d h rfl];exact k
theorem q_rt {Q:Res Out->Prop}{p q:S}(h:evS Κ Φ p ρ=.ok (.rt g d))(k:Q (.ok (.rt g d))):Q (evS Κ Φ (.seq p q) ρ):=by rw[z0h h];exact k
theorem ztn {Q:Res Out->Prop}{β:Type}{t':Tg}{it:C}{p rest:S}{m:β->D}{xs:List β}{ρ1:Rho}(h:evF Κ Φ it ρ=.ok (g,xs.map m,ρ1))(I:List β->Rho->Prop)(h0:I [] ρ1)
  (hf:∀pre x post ρ,xs=pre++x::post->I pre ρ->∃ρ',(z19 t' (gJ (m x) g,m x) ρ>>=fun ρ2=>evS Κ Φ p ρ2)=.ok (.nx ρ')/\I (pre++[x]) ρ') (hk:∀ρ',I xs ρ'->Q (evS Κ Φ rest ρ')):Q (evS Κ Φ (.seq (.for_ t' it p) rest) ρ):=by
 obtain⟨ρ',e,i⟩:=ze9 (f:=fun x ρ1=>z19 t' (gJ x g,x) ρ1>>=fun ρ2=>evS Κ Φ p ρ2) I xs [] ρ1 hf h0;rw[z0d (z95 h e) rfl];exact hk ρ' i
theorem zj3 {Q:Res Out->Prop}{β:Type}{t':Tg}{it:C}{p rest:S}{m:β->D}{xs:List β}{ρ1:Rho}(h:evF Κ Φ it ρ=.ok (g,xs.map m,ρ1))(I:List β->Rho->Prop)(h0:I [] ρ1)
  (hf:∀pre x post ρ,xs=pre++x::post->I pre ρ->∃ρ2 ρ',z19 t' (gJ (m x) g,m x) ρ=.ok ρ2/\evS Κ Φ p ρ2=.ok (.nx ρ')/\I (pre++[x]) ρ') (hk:∀ρ',I xs ρ'->Q (evS Κ Φ rest ρ')):Q (evS Κ Φ (.seq (.for_ t' it p) rest) ρ):=
 ztn h I h0 (fun pre x post ρ hx hI=>by obtain⟨ρ2,ρ',h1,h2,h3⟩:=hf pre x post ρ hx hI;exact⟨ρ',by rw[h1,Res.ok_bind,h2],h3⟩) hk
theorem z2d {Q:Res Out->Prop}{p rest:S}(hc:Tt Κ Φ c ρ k)(hk:k=false)(h:Q (evS Κ Φ rest ρ)):Q (evS Κ Φ (.seq (.ifS c p .nil) rest) ρ):=by rw[z2i hc hk rfl];exact h
theorem zls:Vv Κ Φ (.bin .Pow (.int 10) (.int 15)) ρ (.int 1000000000000000):=z0c z04.e z04.e zsf rfl
theorem z84:Vv Κ Φ (.bin .Pow (.int 10) (.int 30)) ρ (.int 1000000000000000000000000000000):=z0c z04.e z04.e zv2 rfl
end
end
end Mk
namespace Mk
open PySem Mi
def S_z0:S:=(.seq (.ifS (.not (.and (.tv (.isT (.var 0) ["str"])) (.tv (.cmp .In (.var 0) (.tup (.cons (.str "for") (.cons (.str "against") .nil)))))))
 (.seq (.rse "NoSide")
 .nil)
 .nil)
 .nil)
def F_z0:Fn:=runD [] [] 1 S_z0
def S_z1:S:=(.seq (.drop (.call 0 "check_side" (.cons (.var 0) .nil)))
 (.seq (.ret (.ife (.tv (.cmp .Eq (.var 0) (.str "for"))) (.str "against") (.str "for")))
 .nil))
def F_z1:Fn:=runD [] [F_z0] 1 S_z1
def S_z2:S:=(.seq (.drop (.call 0 "check_side" (.cons (.var 1) .nil)))
 (.seq (.ret (.ife (.tv (.cmp .Eq (.var 1) (.str "for"))) (.ix (.var 0) (.int 0)) (.ix (.var 0) (.int 1))))
 .nil))
def F_z2:Fn:=runD [] [F_z0] 2 S_z2
def S_z3:S:=(.seq (.ret (.ife (.tv (.cmp .Eq (.var 0) (.str "for"))) (.tup (.cons (.var 1) (.cons (.var 2) .nil))) (.tup (.cons (.var 2) (.cons (.var 1) .nil))))) .nil)
def F_z3:Fn:=runD [] [] 3 S_z3
def S_z4:S:=(.seq (.asg (.nm 1) .dnew)
 (.seq (.for_ (.tp [2,3]) (.tv (.var 0))
 (.seq (.setIx 1 (.var 2) (.bi "max" (.cons (.var 3) (.cons (.mt "get" (.var 1) (.cons (.var 2) (.cons (.int 0) .nil))) .nil))))
 .nil))
 (.seq (.ret (.agg "tuple" (.tv (.comp 1 [] ["pair"] (.nm 0) (.tv (.sortI 1)) (.tv (.cmp .Gt (.ix (.var 0) (.int 1)) (.int 0))) (.var 0)))))
 .nil)))
def F_z4:Fn:=runD [] [] 4 S_z4
def S_z5:S:=(.seq (.asg (.nm 2) (.agg "dict" (.tv (.var 1))))
 (.seq (.ret (.agg "tuple" (.tv (.comp 2 [2] ["name","amount","held"] (.tp [0,1]) (.tv (.var 0)) (.tv (.cmp .In (.var 0) (.var 2))) (.tup (.cons (.var 0) (.cons (.bi "min" (.cons (.var 1) (.cons (.ix (.var 2) (.var 0)) .nil))) .nil)))))))
 .nil))
def F_z5:Fn:=runD [] [] 3 S_z5
def S_z6:S:=(.seq (.ret (.call 0 "greatest" (.cons (.bin .Add (.var 0) (.var 1)) .nil))) .nil)
def F_z6:Fn:=runD [] [F_z4] 2 S_z6
def S_z7:S:=(.seq (.asg (.nm 2) (.agg "dict" (.tv (.var 1))))
 (.seq (.ret (.agg "sum" (.tv (.comp 2 [2] ["name","amount","held"] (.tp [0,1]) (.tv (.var 0)) .nil (.bi "max" (.cons (.bin .Sub (.var 1) (.mt "get" (.var 2) (.cons (.var 0) (.cons (.int 0) .nil)))) (.cons (.int 0) .nil)))))))
 .nil))
def F_z7:Fn:=runD [] [] 3 S_z7
def S_z8:S:=(.seq (.ret (.call 0 "side_of" (.cons (.ix (.var 0) (.int 0)) (.cons (.call 1 "other_side" (.cons (.ix (.var 0) (.int 1)) .nil)) .nil)))) .nil)
def F_z8:Fn:=runD [] [F_z2,F_z1] 1 S_z8
def S_z9:S:=(.seq (.asg (.nm 3) (.call 5 "side_of" (.cons (.var 1) (.cons (.var 2) .nil))))
 (.seq (.asg (.nm 4) (.call 5 "side_of" (.cons (.var 1) (.cons (.call 6 "other_side" (.cons (.var 2) .nil)) .nil))))
 (.seq (.asg (.nm 5) .non)
 (.seq (.for_ (.tp [6,7]) (.enum (.var 0))
 (.seq (.ifS (.tv (.cmp .Eq (.ix (.var 7) (.int 1)) (.var 2)))
 (.seq (.asg (.nm 8) (.bin .Add (.call 4 "excess" (.cons (.ix (.var 7) (.int 2)) (.cons (.var 3) .nil))) (.call 4 "excess" (.cons (.var 4) (.cons (.call 2 "opposed_of" (.cons (.var 7) .nil)) .nil)))))
 (.seq (.ifS (.or (.tv (.isN false (.var 5))) (.tv (.cmp .Lt (.var 8) (.ix (.var 5) (.int 0)))))
 (.seq (.asg (.nm 5) (.tup (.cons (.var 8) (.cons (.var 6) (.cons (.call 0 "case_with" (.cons (.var 2) (.cons (.call 3 "join" (.cons (.var 3) (.cons (.ix (.var 7) (.int 2)) .nil))) (.cons (.call 1 "meet" (.cons (.var 4) (.cons (.call 2 "opposed_of" (.cons (.var 7) .nil)) .nil))) .nil)))) .nil)))))
 .nil)
 .nil)
 .nil))
 .nil)
 .nil))
 (.seq (.ret (.var 5))
 .nil)))))
def F_z9:Fn:=runD [] [F_z3,F_z5,F_z8,F_z6,F_z7,F_z2,F_z1] 9 S_z9
def zk7:S:=(.seq (.asg (.nm 2) (.bin .Add (.bin .Add (.bin .Mod (.var 0) (.int 1000000007)) (.bin .Mult (.bin .Mult (.int 31) (.var 1)) (.var 1))) (.int 1)))
 (.seq (.ret (.bin .Mod (.bin .Mult (.bin .Mod (.bin .Mult (.var 2) (.var 2)) (.int 2147483629)) (.bin .Add (.var 1) (.int 7))) (.int 2147483647)))
 .nil))
def z1n:Fn:=runD [] [] 3 zk7
def zkl:S:=(.seq (.asg (.nm 2) (.str "bcdfghjklmnpqrstvwxyz"))
 (.seq (.asg (.nm 3) (.bin .Add (.int 1) (.bin .Mod (.var 0) (.int 12))))
 (.seq (.asg (.nm 4) (.bin .Mod (.bin .FloorDiv (.var 0) (.int 12)) (.var 3)))
 (.seq (.asg (.nm 5) (.lst .nil))
 (.seq (.for_ (.nm 6) (.rng (.cons (.var 1) .nil))
 (.seq (.asg (.nm 7) (.str ""))
 (.seq (.for_ (.nm 8) (.rng (.cons (.var 3) .nil))
 (.seq (.asg (.nm 9) (.bin .Add (.bin .Mult (.var 8) (.var 8)) (.bin .Mult (.bin .Mult (.int 4) (.var 6)) (.bi "int" (.cons (.cmp .Eq (.var 8) (.var 4)) .nil)))))
 (.seq (.asg (.nm 7) (.bin .Add (.var 7) (.ix (.var 2) (.bin .Mod (.bin .Add (.bin .FloorDiv (.var 0) (.int 144)) (.var 9)) (.int 21)))))
 .nil)))
 (.seq (.mut "append" 5 (.cons (.var 7) .nil))
 .nil))))
 (.seq (.ret (.agg "sorted" (.tv (.var 5))))
 .nil))))))
def z8m:Fn:=runD [] [] 10 zkl
def zf0:S:=(.seq (.asg (.nm 1) (.bin .Add (.int 1) (.bin .Mod (.bin .FloorDiv (.var 0) (.int 4)) (.ix (.lst (.cons (.int 1) (.cons (.int 7) (.cons (.bin .Pow (.int 10) (.int 15)) (.cons (.bin .Sub (.bin .Pow (.int 10) (.int 30)) (.int 9)) .nil))))) (.bin .Mod (.var 0) (.int 4))))))
 (.seq (.ifS (.tv (.cmp .Eq (.bin .Mod (.var 0) (.int 5)) (.int 1)))
 (.seq (.ret (.lst (.cons (.int 0) (.cons (.var 1) (.cons (.bin .Add (.var 1) (.int 1)) (.cons (.bin .Pow (.int 10) (.int 30)) .nil))))))
 .nil)
 .nil)
 (.seq (.ret (.lst (.cons (.int 0) (.cons (.var 1) (.cons (.bin .Add (.var 1) (.int 1)) (.cons (.bin .Add (.bin .Add (.var 1) (.int 2)) (.bin .Mod (.bin .FloorDiv (.var 0) (.int 20)) (.int 3))) .nil))))))
 .nil)))
def z85:Fn:=runD [] [] 2 zf0
def zgk:S:=(.seq (.asg (.nm 3) (.lst .nil))
 (.seq (.for_ (.nm 4) (.rng (.cons (.var 1) .nil))
 (.seq (.mut "append" 3 (.cons (.bin .Mod (.var 0) (.var 2)) .nil))
 (.seq (.asg (.nm 0) (.bin .FloorDiv (.var 0) (.var 2)))
 .nil)))
 (.seq (.ret (.var 3))
 .nil)))
def z1m:Fn:=runD [] [] 5 zgk
def zj9:S:=(.seq (.ret (.agg "tuple" (.tv (.comp 2 [] ["_law_word","_law_amount_here"] (.tp [0,1]) (.zip (.var 0) (.var 1)) (.tv (.cmp .Gt (.var 1) (.int 0))) (.tup (.cons (.var 0) (.cons (.var 1) .nil))))))) .nil)
def z3u:Fn:=runD [] [] 2 zj9
def zgd:S:=(.seq (.asg (.nm 1) (.lst (.cons (.str "and") (.cons (.str "or") (.cons (.str "not") (.cons (.str "if") (.cons (.str "is") (.cons (.str "some") (.cons (.str "all") (.cons (.str "for") (.cons (.str "against") .nil)))))))))))
 (.seq (.asg (.nm 2) (.lst .nil))
 (.seq (.for_ (.nm 3) (.tv (.var 0))
 (.seq (.asg (.nm 4) (.call 0 "_law_digits" (.cons (.bin .FloorDiv (.var 3) (.int 12)) (.cons (.bin .Add (.int 1) (.bin .Mod (.var 3) (.int 12))) (.cons (.int 26) .nil)))))
 (.seq (.asg (.nm 5) (.mt "join" (.str "") (.cons (.comp 1 [] ["_law_digit"] (.nm 0) (.tv (.var 4)) .nil (.ix (.str "abcdefghijklmnopqrstuvwxyz") (.var 0))) .nil)))
 (.seq (.asg (.nm 6) (.int 1))
 (.seq (.wh 100000 (.tv (.cmp .In (.var 5) (.bin .Add (.var 2) (.var 1))))
 (.seq (.asg (.nm 5) (.bin .Mult (.str "q") (.var 6)))
 (.seq (.asg (.nm 6) (.bin .Add (.var 6) (.int 1)))
 .nil)))
 (.seq (.mut "append" 2 (.cons (.var 5) .nil))
 .nil))))))
 (.seq (.ret (.var 2))
 .nil))))
def z8r:Fn:=runD [] [z1m] 7 zgd
def zfq:S:=(.seq (.asg (.nm 3) (.call 3 "_law_mix" (.cons (.agg "sum" (.tv (.sl (.var 0) .nil (.tv (.int 63))))) (.cons (.int 5) .nil))))
 (.seq (.asg (.nm 4) (.ix (.bin .Add (.var 0) (.lst (.cons (.int 0) .nil))) (.int 0)))
 (.seq (.ifS (.tv (.cmp .Eq (.bin .Mod (.var 4) (.int 2)) (.int 0)))
 (.seq (.asg (.nm 5) (.call 2 "_law_rungs" (.cons (.bin .Add (.bin .Mult (.call 3 "_law_mix" (.cons (.agg "sum" (.tv (.sl (.var 0) .nil (.tv (.int 63))))) (.cons (.int 6) .nil))) (.bin .Pow (.int 10) (.int 21))) (.var 3)) .nil)))
 (.seq (.ret (.tup (.cons (.var 3) (.cons (.call 1 "_law_names" (.cons (.var 3) (.cons (.int 3) .nil))) (.cons (.var 5) (.cons (.sl (.var 0) .nil (.tv (.var 1))) (.cons (.var 0) .nil)))))))
 .nil))
 .nil)
 (.seq (.asg (.nm 6) (.agg "sorted" (.tv (.call 0 "_law_free_names" (.cons (.sl (.bin .Add (.var 0) (.rep (.cons (.int 0) .nil) (.int 9))) (.tv (.int 1)) (.tv (.bin .Add (.int 2) (.bin .Mod (.bin .FloorDiv (.var 4) (.int 2)) (.var 2))))) .nil)))))
 (.seq (.asg (.nm 7) (.ix (.lst (.cons (.int 1) (.cons (.int 2) (.cons (.int 4) (.cons (.int 30) (.cons (.bin .Pow (.int 10) (.int 30)) .nil)))))) (.bin .Mod (.bin .FloorDiv (.var 4) (.bin .Mult (.int 2) (.var 2))) (.int 5))))
 (.seq (.ret (.tup (.cons (.var 3) (.cons (.var 6) (.cons (.lst (.cons (.var 7) .nil)) (.cons (.sl (.var 0) (.tv (.int 8)) (.tv (.bin .Add (.int 8) (.var 1)))) (.cons (.sl (.var 0) (.tv (.bin .Add (.int 8) (.var 1))) (.tv (.int 63))) .nil)))))))
 .nil))))))
def zau:Fn:=runD [] [z8r,z8m,z85,z1n] 8 zfq
def zge:S:=(.seq (.ifS (.tv (.cmp .Eq (.bi "len" (.cons (.var 2) .nil)) (.int 1)))
 (.seq (.ret (.call 0 "_law_packed" (.cons (.var 1) (.cons (.call 1 "_law_digits" (.cons (.var 0) (.cons (.bi "len" (.cons (.var 1) .nil)) (.cons (.bin .Add (.ix (.var 2) (.int 0)) (.int 1)) .nil)))) .nil))))
 .nil)
 .nil)
 (.seq (.ret (.call 0 "_law_packed" (.cons (.var 1) (.cons (.comp 1 [2] ["_law_digit","_law_rungs_here"] (.nm 0) (.tv (.call 1 "_law_digits" (.cons (.var 0) (.cons (.bi "len" (.cons (.var 1) .nil)) (.cons (.int 4) .nil))))) .nil (.ix (.var 1) (.var 0))) .nil))))
 .nil))
def z5x:Fn:=runD [] [z3u,z1m] 3 zge
def zgg:S:=(.seq (.ifS (.tv (.cmp .Eq (.bi "len" (.cons (.var 2) .nil)) (.int 1)))
 (.seq (.asg (.nm 3) (.call 3 "_law_digits" (.cons (.var 0) (.cons (.bin .Mult (.int 2) (.bi "len" (.cons (.var 1) .nil))) (.cons (.bin .Add (.ix (.var 2) (.int 0)) (.int 1)) .nil)))))
 (.seq (.ret (.tup (.cons (.call 2 "_law_packed" (.cons (.var 1) (.cons (.var 3) .nil))) (.cons (.call 2 "_law_packed" (.cons (.var 1) (.cons (.sl (.var 3) (.tv (.bi "len" (.cons (.var 1) .nil))) .nil) .nil))) .nil))))
 .nil))
 .nil)
 (.seq (.ret (.tup (.cons (.call 0 "_law_pack_by" (.cons (.call 1 "_law_mix" (.cons (.var 0) (.cons (.int 1) .nil))) (.cons (.var 1) (.cons (.var 2) .nil)))) (.cons (.call 0 "_law_pack_by" (.cons (.call 1 "_law_mix" (.cons (.var 0) (.cons (.int 2) .nil))) (.cons (.var 1) (.cons (.var 2) .nil)))) .nil))))
 .nil))
def z7h:Fn:=runD [] [z5x,z1n,z3u,z1m] 4 zgg
def zfh:S:=(.seq (.asg (.nm 3) (.int 4))
 (.seq (.ifS (.tv (.cmp .Eq (.bi "len" (.cons (.var 2) .nil)) (.int 1)))
 (.seq (.asg (.nm 3) (.bin .Add (.ix (.var 2) (.int 0)) (.int 1)))
 .nil)
 .nil)
 (.seq (.asg (.nm 4) (.lst .nil))
 (.seq (.for_ (.tp [5,6]) (.zip (.var 0) (.call 0 "_law_digits" (.cons (.var 1) (.cons (.bi "len" (.cons (.var 0) .nil)) (.cons (.var 3) .nil)))))
 (.seq (.asg (.nm 7) (.var 6))
 (.seq (.ifS (.tv (.cmp .Gt (.bi "len" (.cons (.var 2) .nil)) (.int 1)))
 (.seq (.asg (.nm 7) (.ix (.var 2) (.var 6)))
 .nil)
 .nil)
 (.seq (.ifS (.tv (.cmp .Gt (.bi "min" (.cons (.ix (.var 5) (.int 1)) (.cons (.var 7) .nil))) (.int 0)))
 (.seq (.mut "append" 4 (.cons (.tup (.cons (.ix (.var 5) (.int 0)) (.cons (.bi "min" (.cons (.ix (.var 5) (.int 1)) (.cons (.var 7) .nil))) .nil))) .nil))
 .nil)
 .nil)
 .nil))))
 (.seq (.ret (.agg "tuple" (.tv (.var 4))))
 .nil)))))
def z65:Fn:=runD [] [z1m] 8 zfh
def zk9:S:=(.seq (.asg (.nm 3) (.bi "len" (.cons (.var 1) .nil)))
 (.seq (.asg (.nm 4) (.call 1 "_law_digits" (.cons (.bin .FloorDiv (.var 0) (.int 2)) (.cons (.bin .Mult (.int 3) (.var 3)) (.cons (.var 2) .nil)))))
 (.seq (.asg (.nm 5) (.sl (.var 4) (.tv (.bin .Mult (.bin .Mod (.var 0) (.int 2)) (.var 3))) .nil))
 (.seq (.asg (.nm 6) (.comp 1 [] ["_law_pair"] (.nm 0) (.zip (.var 5) (.sl (.var 4) (.tv (.bin .Mult (.int 2) (.var 3))) .nil)) .nil (.bi "min" (.cons (.var 0) .nil))))
 (.seq (.asg (.nm 7) (.tup (.cons (.call 0 "_law_packed" (.cons (.var 1) (.cons (.var 4) .nil))) (.cons (.call 0 "_law_packed" (.cons (.var 1) (.cons (.sl (.var 4) (.tv (.var 3)) .nil) .nil))) .nil))))
 (.seq (.ret (.tup (.cons (.var 7) (.cons (.ix (.lst (.cons (.str "for") (.cons (.str "against") .nil))) (.bin .Mod (.var 0) (.int 2))) (.cons (.call 0 "_law_packed" (.cons (.var 1) (.cons (.var 6) .nil))) .nil)))))
 .nil))))))
def zak:Fn:=runD [] [z3u,z1m] 8 zk9
def zfo:S:=(.seq (.ifS (.tv (.cmp .Eq (.bi "len" (.cons (.var 2) .nil)) (.int 1)))
 (.seq (.ret (.call 3 "_law_free_ruling" (.cons (.var 0) (.cons (.var 1) (.cons (.bin .Add (.ix (.var 2) (.int 0)) (.int 1)) .nil)))))
 .nil)
 .nil)
 (.seq (.asg (.nm 3) (.call 2 "_law_case_by" (.cons (.var 0) (.cons (.var 1) (.cons (.var 2) .nil)))))
 (.seq (.asg (.nm 4) (.call 1 "_law_mix" (.cons (.var 0) (.cons (.int 3) .nil))))
 (.seq (.asg (.nm 5) (.ix (.var 3) (.bin .Mod (.var 4) (.int 2))))
 (.seq (.ifS (.tv (.cmp .Gt (.bin .Mod (.bin .FloorDiv (.var 4) (.int 2)) (.int 4)) (.int 0)))
 (.seq (.asg (.nm 5) (.call 0 "_law_less" (.cons (.var 5) (.cons (.call 1 "_law_mix" (.cons (.var 0) (.cons (.int 4) .nil))) (.cons (.var 2) .nil)))))
 .nil)
 .nil)
 (.seq (.ret (.tup (.cons (.var 3) (.cons (.ix (.lst (.cons (.str "for") (.cons (.str "against") .nil))) (.bin .Mod (.var 4) (.int 2))) (.cons (.var 5) .nil)))))
 .nil))))))
def zft:Fn:=runD [] [z65,z1n,z7h,zak] 6 zfo
def zlg:S:=(.seq (.for_ (.tp [2,3]) (.tv (.var 0))
 (.seq (.ifS (.tv (.cmp .Eq (.var 2) (.var 1)))
 (.seq (.ret (.var 3))
 .nil)
 .nil)
 .nil))
 (.seq (.ret (.int 0))
 .nil))
def zax:Fn:=runD [] [] 4 zlg
def zj8:S:=(.seq (.for_ (.tp [2,3]) (.tv (.var 0))
 (.seq (.ifS (.tv (.cmp .Gt (.var 3) (.call 0 "_law_amount" (.cons (.var 1) (.cons (.var 2) .nil)))))
 (.seq (.ret (.bl false))
 .nil)
 .nil)
 .nil))
 (.seq (.ret (.bl true))
 .nil))
def z90:Fn:=runD [] [zax] 4 zj8
def zqt:S:=(.seq (.ret (.bi "int" (.cons (.cmp .Eq (.var 0) (.str "against")) .nil))) .nil)
def z3q:Fn:=runD [] [] 1 zqt
def zja:S:=(.seq (.ifS (.tv (.cmp .Eq (.ix (.var 0) (.int 1)) (.ix (.var 1) (.int 1))))
 (.seq (.ret (.bl false))
 .nil)
 .nil)
 (.seq (.ret (.and (.call 0 "_law_fits" (.cons (.ix (.var 0) (.int 2)) (.cons (.ix (.ix (.var 1) (.int 0)) (.call 1 "_law_at" (.cons (.ix (.var 0) (.int 1)) .nil))) .nil))) (.call 0 "_law_fits" (.cons (.ix (.var 1) (.int 2)) (.cons (.ix (.ix (.var 0) (.int 0)) (.call 1 "_law_at" (.cons (.ix (.var 1) (.int 1)) .nil))) .nil)))))
 .nil))
def zex:Fn:=runD [] [z90,z3q] 2 zja
def zkg:S:=(.seq (.asg (.nm 2) (.call 1 "_law_at" (.cons (.ix (.var 0) (.int 1)) .nil)))
 (.seq (.ret (.and (.call 0 "_law_fits" (.cons (.ix (.var 0) (.int 2)) (.cons (.ix (.var 1) (.var 2)) .nil))) (.call 0 "_law_fits" (.cons (.ix (.var 1) (.bin .Sub (.int 1) (.var 2))) (.cons (.ix (.ix (.var 0) (.int 0)) (.bin .Sub (.int 1) (.var 2))) .nil)))))
 .nil))
def zcs:Fn:=runD [] [z90,z3q] 3 zkg
def zqb:S:=(.seq (.ret (.ix (.ix (.var 0) (.int 0)) (.bin .Sub (.int 1) (.call 0 "_law_at" (.cons (.ix (.var 0) (.int 1)) .nil))))) .nil)
def zo9:Fn:=runD [] [z3q] 1 zqb
def zq6:S:=(.seq (.ifS (.tv (.cmp .NotEq (.ix (.var 0) (.int 1)) (.ix (.var 1) (.int 1))))
 (.seq (.ret (.bl false))
 .nil)
 .nil)
 (.seq (.ret (.and (.call 0 "_law_fits" (.cons (.ix (.var 0) (.int 2)) (.cons (.ix (.var 1) (.int 2)) .nil))) (.call 0 "_law_fits" (.cons (.call 1 "_law_facing" (.cons (.var 1) .nil)) (.cons (.call 1 "_law_facing" (.cons (.var 0) .nil)) .nil)))))
 .nil))
def zu8:Fn:=runD [] [z90,zo9] 2 zq6
def zh6:S:=(.seq (.asg (.nm 4) (.bin .Mod (.call 1 "_law_mix" (.cons (.var 1) (.cons (.int 11) .nil))) (.int 6)))
 (.seq (.asg (.nm 5) (.call 3 "_law_at" (.cons (.ix (.var 0) (.int 1)) .nil)))
 (.seq (.asg (.nm 6) (.lst (.cons (.ix (.ix (.var 0) (.int 0)) (.int 0)) (.cons (.ix (.ix (.var 0) (.int 0)) (.int 1)) .nil))))
 (.seq (.ifS (.tv (.cmp .Eq (.var 4) (.int 0)))
 (.seq (.ret (.var 0))
 .nil)
 .nil)
 (.seq (.ifS (.tv (.cmp .Eq (.var 4) (.int 1)))
 (.seq (.setIx 6 (.var 5) (.call 2 "_law_pack_by" (.cons (.call 1 "_law_mix" (.cons (.var 1) (.cons (.int 12) .nil))) (.cons (.var 2) (.cons (.var 3) .nil)))))
 (.seq (.asg (.nm 7) (.call 0 "_law_less" (.cons (.ix (.var 6) (.var 5)) (.cons (.call 1 "_law_mix" (.cons (.var 1) (.cons (.int 13) .nil))) (.cons (.var 3) .nil)))))
 (.seq (.ret (.tup (.cons (.tup (.cons (.ix (.var 6) (.int 0)) (.cons (.ix (.var 6) (.int 1)) .nil))) (.cons (.ix (.var 0) (.int 1)) (.cons (.var 7) .nil)))))
 .nil)))
 .nil)
 (.seq (.ifS (.tv (.cmp .Eq (.var 4) (.int 2)))
 (.seq (.setIx 6 (.bin .Sub (.int 1) (.var 5)) (.call 0 "_law_less" (.cons (.ix (.var 6) (.bin .Sub (.int 1) (.var 5))) (.cons (.call 1 "_law_mix" (.cons (.var 1) (.cons (.int 12) .nil))) (.cons (.var 3) .nil)))))
 (.seq (.ret (.tup (.cons (.tup (.cons (.ix (.var 6) (.int 0)) (.cons (.ix (.var 6) (.int 1)) .nil))) (.cons (.ix (.var 0) (.int 1)) (.cons (.ix (.var 0) (.int 2)) .nil)))))
 .nil))
 .nil)
 (.seq (.ifS (.tv (.cmp .Eq (.var 4) (.int 3)))
 (.seq (.ret (.tup (.cons (.ix (.var 0) (.int 0)) (.cons (.ix (.var 0) (.int 1)) (.cons (.call 0 "_law_less" (.cons (.ix (.var 0) (.int 2)) (.cons (.call 1 "_law_mix" (.cons (.var 1) (.cons (.int 12) .nil))) (.cons (.var 3) .nil)))) .nil)))))
 .nil)
 .nil)
 (.seq (.ifS (.tv (.cmp .Eq (.var 4) (.int 4)))
 (.seq (.ret (.tup (.cons (.ix (.var 0) (.int 0)) (.cons (.ix (.var 0) (.int 1)) (.cons (.ix (.var 6) (.var 5)) .nil)))))
 .nil)
 .nil)
 (.seq (.setIx 6 (.var 5) (.ix (.var 0) (.int 2)))
 (.seq (.ret (.tup (.cons (.tup (.cons (.ix (.var 6) (.int 0)) (.cons (.ix (.var 6) (.int 1)) .nil))) (.cons (.ix (.var 0) (.int 1)) (.cons (.ix (.var 0) (.int 2)) .nil)))))
 .nil))))))))))
def zf4:Fn:=runD [] [z65,z1n,z5x,z3q] 8 zh6
def zfj:S:=(.seq (.asg (.nm 3) (.lst .nil))
 (.seq (.for_ (.nm 4) (.tv (.var 0))
 (.seq (.asg (.nm 5) (.call 3 "_law_ruling_by" (.cons (.var 4) (.cons (.var 1) (.cons (.var 2) .nil)))))
 (.seq (.ifS (.and (.tv (.cmp .NotEq (.var 3) (.lst .nil))) (.and (.tv (.cmp .Gt (.bi "len" (.cons (.var 2) .nil)) (.int 1))) (.tv (.cmp .Gt (.bin .Mod (.call 1 "_law_mix" (.cons (.var 4) (.cons (.int 14) .nil))) (.int 3)) (.int 0)))))
 (.seq (.asg (.nm 5) (.call 2 "_law_twin" (.cons (.ix (.var 3) (.bin .Mod (.call 1 "_law_mix" (.cons (.var 4) (.cons (.int 15) .nil))) (.bi "len" (.cons (.var 3) .nil)))) (.cons (.var 4) (.cons (.var 1) (.cons (.var 2) .nil))))))
 .nil)
 .nil)
 (.seq (.ifS (.tv (.cmp .Eq (.comp 1 [5] ["_law_two","_law_one"] (.nm 0) (.tv (.var 3)) (.tv (.call 0 "_law_clash" (.cons (.var 1) (.cons (.var 0) .nil)))) (.var 0)) (.lst .nil)))
 (.seq (.mut "append" 3 (.cons (.var 5) .nil))
 .nil)
 .nil)
 .nil))))
 (.seq (.ret (.var 3))
 .nil)))
def zf7:Fn:=runD [] [zex,z1n,zf4,zft] 6 zfj
def zox:S:=(.seq (.ret (.and (.isT (.var 0) ["int"]) (.not (.isT (.var 0) ["bool"])))) .nil)
def z8c:Fn:=runD [] [] 1 zox
def zha:S:=(.seq (.ifS (.and (.tv (.cmp .Eq (.bi "len" (.cons (.var 3) .nil)) (.int 1))) (.or (.tv (.cmp .Eq (.var 1) (.lst .nil))) (.tv (.cmp .Eq (.bin .Mod (.var 0) (.int 2)) (.int 0)))))
 (.seq (.ret (.call 3 "_law_case_by" (.cons (.bin .FloorDiv (.var 0) (.int 2)) (.cons (.var 2) (.cons (.var 3) .nil)))))
 .nil)
 .nil)
 (.seq (.asg (.nm 4) (.call 1 "_law_mix" (.cons (.var 0) (.cons (.int 8) .nil))))
 (.seq (.ifS (.or (.tv (.cmp .Eq (.var 1) (.lst .nil))) (.tv (.cmp .Eq (.bin .Mod (.var 4) (.int 3)) (.int 0))))
 (.seq (.ret (.call 3 "_law_case_by" (.cons (.var 0) (.cons (.var 2) (.cons (.var 3) .nil)))))
 .nil)
 .nil)
 (.seq (.asg (.nm 5) (.ix (.var 1) (.bin .Mod (.bin .FloorDiv (.var 4) (.int 3)) (.bi "len" (.cons (.var 1) .nil)))))
 (.seq (.asg (.nm 6) (.call 2 "_law_at" (.cons (.ix (.var 5) (.int 1)) .nil)))
 (.seq (.asg (.nm 7) (.lst (.cons (.ix (.ix (.var 5) (.int 0)) (.int 0)) (.cons (.ix (.ix (.var 5) (.int 0)) (.int 1)) .nil))))
 (.seq (.setIx 7 (.var 6) (.ix (.var 5) (.int 2)))
 (.seq (.ifS (.tv (.cmp .Eq (.bin .Mod (.bin .FloorDiv (.var 4) (.int 100)) (.int 3)) (.int 1)))
 (.seq (.setIx 7 (.var 6) (.call 0 "_law_pack_by" (.cons (.call 1 "_law_mix" (.cons (.var 0) (.cons (.int 16) .nil))) (.cons (.var 2) (.cons (.var 3) .nil)))))
 .nil)
 .nil)
 (.seq (.ifS (.tv (.cmp .Eq (.bin .Mod (.bin .FloorDiv (.var 4) (.int 100)) (.int 3)) (.int 2)))
 (.seq (.setIx 7 (.bin .Sub (.int 1) (.var 6)) (.call 0 "_law_pack_by" (.cons (.call 1 "_law_mix" (.cons (.var 0) (.cons (.int 16) .nil))) (.cons (.var 2) (.cons (.var 3) .nil)))))
 .nil)
 .nil)
 (.seq (.ret (.tup (.cons (.ix (.var 7) (.int 0)) (.cons (.ix (.var 7) (.int 1)) .nil))))
 .nil))))))))))
def zf8:Fn:=runD [] [z5x,z1n,z3q,z7h] 8 zha
def zu2:S:=(.seq (.ifS (.or (.not (.tv (.isE true "NoSide"))) (.not (.tv (.isE true "ValueError"))))
 (.seq (.ret (.bl false))
 .nil)
 .nil)
 (.seq (.asg (.nm 1) (.lst (.cons (.isE false "NoPack") (.cons (.isE false "TooMuch") (.cons (.isE false "NoReason") .nil)))))
 (.seq (.asg (.nm 1) (.bin .Add (.var 1) (.lst (.cons (.isE false "NoCourt") (.cons (.isE false "Late") (.cons (.isE false "NotAllowed") .nil))))))
 (.seq (.asg (.nm 1) (.bin .Add (.var 1) (.lst (.cons (.isE false "NoRuling") (.cons (.isE false "NotYours") (.cons (.isE false "NoRow") .nil))))))
 (.seq (.asg (.nm 1) (.bin .Add (.var 1) (.lst (.cons (.isE false "Twice") (.cons (.isE false "Unknown") .nil)))))
 (.seq (.ret (.cmp .NotIn (.bl true) (.var 1)))
 .nil))))))
def zjk:S:=(.seq (.asg (.nm 1) (.lst (.cons (.str "") (.cons (.str "For") (.cons (.str "none") (.cons (.str "fors") (.cons .non (.cons (.int 1) (.cons (.bl true) (.cons (.int 0) (.cons (.lst (.cons (.str "for") .nil)) (.cons (.tup (.cons (.str "for") .nil)) (.cons (.tup (.cons (.str "for") (.cons (.str "against") .nil))) (.cons (.str "agianst") .nil))))))))))))))
 (.seq (.ret (.ix (.var 1) (.bin .Mod (.var 0) (.int 12))))
 .nil))
def zco:Fn:=runD [] [] 2 zjk
def zkn:S:=(.seq (.asg (.nm 2) (.int 0))
 (.seq (.for_ (.tp [3,4]) (.tv (.var 0))
 (.seq (.asg (.nm 2) (.bin .Add (.var 2) (.bi "max" (.cons (.int 0) (.cons (.bin .Sub (.var 4) (.call 0 "_law_amount" (.cons (.var 1) (.cons (.var 3) .nil)))) .nil)))))
 .nil))
 (.seq (.ret (.var 2))
 .nil)))
def z78:Fn:=runD [] [zax] 5 zkn
def zjw:S:=(.seq (.asg (.nm 2) (.int 0))
 (.seq (.for_ (.nm 3) (.rng (.cons (.int 2) .nil))
 (.seq (.asg (.nm 2) (.bin .Add (.bin .Add (.var 2) (.call 0 "_law_above" (.cons (.ix (.var 0) (.var 3)) (.cons (.ix (.var 1) (.var 3)) .nil)))) (.call 0 "_law_above" (.cons (.ix (.var 1) (.var 3)) (.cons (.ix (.var 0) (.var 3)) .nil)))))
 .nil))
 (.seq (.ret (.var 2))
 .nil)))
def zbu:Fn:=runD [] [z78] 4 zjw
def zme:S:=(.seq (.asg (.nm 3) .non)
 (.seq (.for_ (.nm 4) (.rng (.cons (.bi "len" (.cons (.var 0) .nil)) .nil))
 (.seq (.ifS (.tv (.cmp .Eq (.call 0 "_law_at" (.cons (.ix (.ix (.var 0) (.var 4)) (.int 1)) .nil)) (.var 2)))
 (.seq (.asg (.nm 5) (.bin .Add (.call 1 "_law_above" (.cons (.ix (.ix (.var 0) (.var 4)) (.int 2)) (.cons (.ix (.var 1) (.var 2)) .nil))) (.call 1 "_law_above" (.cons (.ix (.var 1) (.bin .Sub (.int 1) (.var 2))) (.cons (.ix (.ix (.ix (.var 0) (.var 4)) (.int 0)) (.bin .Sub (.int 1) (.var 2))) .nil)))))
 (.seq (.ifS (.or (.tv (.isN false (.var 3))) (.tv (.cmp .Lt (.var 5) (.ix (.var 3) (.int 0)))))
 (.seq (.asg (.nm 3) (.tup (.cons (.var 5) (.cons (.var 4) .nil))))
 .nil)
 .nil)
 .nil))
 .nil)
 .nil))
 (.seq (.ret (.var 3))
 .nil)))
def ze0:Fn:=runD [] [z3q,z78] 6 zme
def zjj:S:=(.seq (.ifS (.or (.not (.tv (.isT (.var 0) ["tuple"]))) (.tv (.cmp .NotEq (.var 0) (.agg "tuple" (.tv (.agg "sorted" (.tv (.var 0))))))))
 (.seq (.ret (.bl false))
 .nil)
 .nil)
 (.seq (.for_ (.nm 1) (.tv (.var 0))
 (.seq (.ifS (.or (.not (.tv (.isT (.var 1) ["tuple"]))) (.or (.tv (.cmp .NotEq (.bi "len" (.cons (.var 1) .nil)) (.int 2))) (.or (.not (.tv (.call 0 "_law_number" (.cons (.ix (.var 1) (.int 1)) .nil)))) (.tv (.cmp .Lt (.ix (.var 1) (.int 1)) (.int 1))))))
 (.seq (.ret (.bl false))
 .nil)
 .nil)
 .nil))
 (.seq (.ret (.cmp .Eq (.bi "len" (.cons (.var 0) .nil)) (.lset (.comp 1 [] ["_law_row"] (.nm 0) (.tv (.var 0)) .nil (.ix (.var 0) (.int 0))))))
 .nil)))
def zbq:Fn:=runD [] [z8c] 2 zjj
def zmt:S:=(.seq (.ifS (.tv (.isN false (.var 3)))
 (.seq (.ret (.isN false (.var 0)))
 .nil)
 .nil)
 (.seq (.ifS (.or (.not (.tv (.isT (.var 0) ["tuple"]))) (.or (.tv (.cmp .NotEq (.bi "len" (.cons (.var 0) .nil)) (.int 3))) (.or (.not (.tv (.call 3 "_law_number" (.cons (.ix (.var 0) (.int 0)) .nil)))) (.not (.tv (.call 3 "_law_number" (.cons (.ix (.var 0) (.int 1)) .nil)))))))
 (.seq (.ret (.bl false))
 .nil)
 .nil)
 (.seq (.asg (.nm 4) (.ix (.var 0) (.int 2)))
 (.seq (.ifS (.or (.tv (.cmp .NotEq (.sl (.var 0) .nil (.tv (.int 2))) (.var 3))) (.or (.not (.tv (.isT (.var 4) ["tuple"]))) (.tv (.cmp .NotEq (.bi "len" (.cons (.var 4) .nil)) (.int 2)))))
 (.seq (.ret (.bl false))
 .nil)
 .nil)
 (.seq (.ifS (.or (.not (.tv (.call 2 "_law_is_pack" (.cons (.ix (.var 4) (.int 0)) .nil)))) (.or (.not (.tv (.call 2 "_law_is_pack" (.cons (.ix (.var 4) (.int 1)) .nil)))) (.not (.tv (.call 1 "_law_binds_by" (.cons (.ix (.var 1) (.ix (.var 3) (.int 1))) (.cons (.var 4) .nil)))))))
 (.seq (.ret (.bl false))
 .nil)
 .nil)
 (.seq (.ret (.and (.cmp .Eq (.call 0 "_law_apart_by" (.cons (.var 2) (.cons (.var 4) .nil))) (.ix (.var 3) (.int 0))) (.cmp .Eq (.cmp .Eq (.ix (.var 3) (.int 0)) (.int 0)) (.cmp .Eq (.var 4) (.var 2)))))
 .nil))))))
def zcf:Fn:=runD [] [zbu,zcs,zbq,z8c] 5 zmt
def zqo:S:=(.asg (.nm 3) .non)
def z2p:Gd:=⟨0,(.cons (.var 0) (.cons (.var 1) (.cons (.var 2) .nil))),"NoSide",4,3,"_law_no_side",true⟩
def zh8:Fn:=runG [F_z9] 5 zqo z2p
def zmv:S:=(.seq (.asg (.tp [1,2,3,4,5]) (.call 8 "_law_begun" (.cons (.var 0) (.cons (.int 15) (.cons (.int 6) .nil)))))
 (.seq (.asg (.nm 6) (.call 7 "_law_book_by" (.cons (.var 4) (.cons (.var 2) (.cons (.var 3) .nil)))))
 (.seq (.asg (.nm 7) (.agg "list" (.tv (.var 6))))
 (.seq (.asg (.nm 8) (.bin .Add (.sl (.var 5) .nil (.tv (.int 16))) (.lst (.cons (.int 7) .nil))))
 (.seq (.for_ (.nm 9) (.rng (.cons (.bi "len" (.cons (.var 8) .nil)) .nil))
 (.seq (.asg (.nm 10) (.bin .Add (.ix (.var 8) (.var 9)) (.bin .Mult (.int 31) (.var 9))))
 (.seq (.asg (.nm 11) (.call 6 "_law_near" (.cons (.var 10) (.cons (.var 6) (.cons (.var 2) (.cons (.var 3) .nil))))))
 (.seq (.asg (.nm 12) (.bin .Mod (.call 1 "_law_mix" (.cons (.var 10) (.cons (.int 22) .nil))) (.int 2)))
 (.seq (.asg (.nm 13) (.call 0 "far" (.cons (.var 7) (.cons (.var 11) (.cons (.ix (.lst (.cons (.str "for") (.cons (.str "against") .nil))) (.var 12)) .nil)))))
 (.seq (.ifS (.not (.tv (.call 4 "_law_told_well" (.cons (.var 13) (.cons (.var 6) (.cons (.var 11) (.cons (.call 5 "_law_due" (.cons (.var 6) (.cons (.var 11) (.cons (.var 12) .nil)))) .nil)))))))
 (.seq (.ret (.bl false))
 .nil)
 .nil)
 (.seq (.ifS (.tv (.cmp .Eq (.bin .Mod (.call 1 "_law_mix" (.cons (.var 10) (.cons (.int 23) .nil))) (.int 5)) (.int 0)))
 (.seq (.ifS (.not (.tv (.call 2 "_law_refused" (.cons (.var 7) (.cons (.var 11) (.cons (.call 3 "_law_odd" (.cons (.call 1 "_law_mix" (.cons (.var 10) (.cons (.int 24) .nil))) .nil)) .nil))))))
 (.seq (.ret (.bl false))
 .nil)
 .nil)
 .nil)
 .nil)
 .nil)))))))
 (.seq (.ret (.and (.cmp .Eq (.var 7) (.var 6)) (.isN false (.call 0 "far" (.cons (.lst .nil) (.cons (.tup (.cons (.tup .nil) (.cons (.tup .nil) .nil))) (.cons (.str "for") .nil)))))))
 .nil))))))
def zek:Fn:=runD [] [F_z9,z1n,zh8,zco,zcf,ze0,zf8,zf7,zau] 14 zmv
theorem zlk {Κ:List D}{Φ:List Fn}{l:P}{ρ:Rho}{i:Nat}{g:G}(h:ρ[i]?=some (some (g,.dict (en l))))(hl:l.length<64):evE Κ Φ (.sortI i) ρ=.ok (.fr,.list ((srt l).map pr)):=by rw[zlv];rw[h];dsimp only;rw[z8o,zpv,z6m,zi3,zeb];simp only[hl,decide_true,sj,if_true]
def z80 (acc:P)(l:P):P:=l.foldl (fun a p=>put a p.1 (max p.2 (look a p.1))) acc
theorem z5m:∀(l:P) (acc:P),(ks acc).Nodup->(ks (z80 acc l)).Nodup
 | [],_,h=>h
 |p::l,acc,h=>z5m l _ (zbz _ _ _ h)
theorem z5c (n:Str):∀(l acc:P),look (z80 acc l) n=l.foldl (fun m p=>if p.1=n then max p.2 m else m) (look acc n)
 | [],_=>rfl
 |p::l,acc=>by
  have h3:z80 acc (p::l)=z80 (put acc p.1 (max p.2 (look acc p.1))) l:=rfl;rw[h3,z5c n l,ky,zgx];split
  ·rename_i e;rw[e]
  ·rfl
theorem z3b (n:Str):∀(l:P) (m:Int),PK l->0<=m->l.foldl (fun m p=>if p.1=n then max p.2 m else m) m=max m (look l n)
 | [],m,_,h=>by show m=max m 0;omega
 |p::l,m,hp,h=>by
  have tl:PK l:=⟨(cf.mp hp.sd).2,fun x hx=>hp.pos x (aq _ hx)⟩;rw[ky];have h0:=hp.pos p ak;by_cases e:p.1=n
  ·have nn:n∉ks l:=by have :=hp.nd;rw[ks,ao,ci]at this;exact e▸this.1
   rw[if_pos e,z3b n l _ tl (by omega)];unfold look;rw[z0x nn,fnd,if_pos e];show max (max p.2 m) 0=max m p.2;omega
  ·rw[if_neg e,z3b n l m tl h];unfold look;rw[fnd,if_neg e]
def gr (l:P):P:=(srt (z80 [] l)).filter fun p=>decide (0<p.2)
def up (l:P):P:=(srt l).filter fun p=>decide (0<p.2)
theorem z57 (n:Str):∀(l:P),(ks l).Nodup->fnd (l.filter fun p=>decide (0<p.2)) n=(fnd l n).filter fun v=>decide (0<v)
 | [],_=>rfl
 |p::l,nd=>by
  rw[ks,ao,ci]at nd;have ih:=z57 n l nd.2;by_cases h:0<p.2
  ·rw[pi (by simpa using h),fnd,fnd];by_cases e:p.1=n
   ·rw[if_pos e,if_pos e];show _=if decide (0<p.2)=true then some p.2 else none
    rw[if_pos (we h)]
   ·rw[if_neg e,if_neg e];exact ih
  ·rw[pj (by simpa using h),ih,fnd];by_cases e:p.1=n
   ·rw[if_pos e,z0x (e▸nd.1)];show none=if decide (0<p.2)=true then some p.2 else none
    rw[if_neg (by simpa using h)]
   ·rw[if_neg e]
theorem zss {l:P}(nd:(ks l).Nodup):PK (up l):=⟨(z9q nd).filter _,fun p hp=>by simpa using(cz.mp hp).2⟩
theorem zl1 {l:P}(nd:(ks l).Nodup)(n:Str):look (up l) n=max (look l n) 0:=by
 unfold look up;rw[z57 n _ (zr6 (z9q nd)),zfd (z49 l) nd];cases h:fnd l n with
 |none=>rfl
 |some v=>
  show Option.getD (if _ then _ else _) 0=max v 0;by_cases h:0<v
  ·rw[if_pos (by simpa using h)];show v=_;omega
  ·rw[if_neg (by simpa using h)];show 0=_;omega
theorem zsg (l:P):PK (gr l):=zss (z5m l [] im)
theorem zhu {l m:P}(nd:(ks l).Nodup)(h:∀k∈ks l,k∈ks m):l.length<=m.length:=by have:=z9d nd h;simpa[ks]using this
theorem e_z4 (l:P)(hl:l.length<64):F_z4 [pk l]=.ok (.fr,pk (gr l)):=by
 unfold F_z4;refine z0k ?_;unfold S_z4;refine z0d (zdl zqy rfl) ?_;refine zlr (m:=pr) (xs:=l) (zc1 rfl (by decide) (z05 l) rfl) (fun a ρ=>∃u v,ρ=[some (.od,pk l),some (.fr,.dict (en a)),u,v]/\(ks a).Nodup/\∀k∈ks a,k∈ks l) (fun a p=>put a p.1 (max p.2 (look a p.1))) [] ⟨none,none,rfl,im,fun _ h=>by cases h⟩ ?_ ?_
 ·rintro a p ρ hp ⟨u,v,rfl,nd,hs⟩
  refine⟨_,z0d (zob (l:=a) (n:=p.1) (v:=max p.2 (look a p.1)) (v_bi (z00 (z01 rfl) (z00 (v_mt (z01 rfl) (z00 (z01 rfl) (z00 z04.e z03)) (zac _ _) rfl).e z03)) (zp5 _ _) rfl) (z01 rfl) rfl nd (by have:=zhu nd hs;omega)) z0i,_,_,rfl,zbz _ _ _ nd,fun k hk=>?_⟩;rcases(zbk _ _ _ _).mp hk with rfl|hk
  ·exact bo.mpr ⟨p,hp,rfl⟩
  ·exact hs k hk
 ·rintro ρ ⟨u,v,rfl,nd,hs⟩
  refine z0h (z0g (z8p (Ev.of (z32 (m:=pr) (xs:=srt (z80 [] l)) (fun p=>decide (0<p.2)) pr (w_tv (zlk (l:=z80 [] l) rfl (by have:=zhu nd hs;exact la this hl)) rfl) rfl (fun p=>[some (.al,pr p)]) (fun p _=>rfl) (fun p _=>t_tv (z0p (v_ix (z01 rfl) z04.e rfl rfl).e z04.e rfl).e rfl) (fun p _ _=>v_var rfl rfl))) rfl rfl (z05 _)))
theorem e_z5 {a b:P}(hb:PK b):F_z5 [pk a,pk b]=.ok (.fr,pk ((a.filter fun p=>decide (p.1∈ks b)).map fun p=>(p.1,min p.2 (look b p.1)))):=by
 unfold F_z5;refine z0k ?_;unfold S_z5;refine z0d (zdl (zaz (z01 rfl) rfl (za6 _ hb.nd) (z5z b)) (z8o b)) ?_
 have e:=z32 (Κ:=[]) (Φ:=[]) (ρ:=[some (.od,pk a),some (.od,pk b),some (.fr,.dict (en b))]) (nt:=2) (js:=[2]) (N':=["name","amount","held"]) (tg:=.tp [0,1]) (it:=.tv (.var 0)) (cond:=.tv (.cmp .In (.var 0) (.var 2))) (elt:=.tup (.cons (.var 0) (.cons (.bi "min" (.cons (.var 1) (.cons (.ix (.var 2) (.var 0)) .nil))) .nil))) (m:=pr) (xs:=a) (fun p=>decide (p.1∈ks b)) (fun p=>pr (p.1,min p.2 (look b p.1))) (w_tv (v_var rfl (z05 a)).1 rfl) rfl (fun p=>[some (.al,.str p.1),some (.al,.int p.2),some (.al,.dict (en b))]) (fun p _=>rfl)
  (fun p _=>t_tv (z0p (z01 rfl) (z01 rfl) (k:=decide (p.1∈ks b)) (by
   show(if isK (.str p.1)=true then Res.ok (z25 (en b) (.str p.1)).isSome else .no)=_;rw[if_pos (z6f _),z40];by_cases h:p.1∈ks b
   ·obtain⟨v,e⟩:=z7k h;rw[e];simp[h]
   ·rw[z0x h];simp[h])).e rfl)
  (fun p _ h=>by refine z0v (z02 (v_var rfl rfl) (z02 (v_bi (z00 (z01 rfl) (z00 (v_ix (z01 rfl) (z01 rfl) (d:=.int (look b p.1)) ?_ rfl).e z03)) rfl rfl) z0f));show(if isK (.str p.1)=true then Res.ofO (z25 (en b) (.str p.1))else .no)=_;rw[if_pos (z6f _),z40];obtain⟨v,e⟩:=z7k (wb h);unfold look;rw[e];rfl)
 have e2:=z8p (f:="tuple") (Ev.of e) rfl (zdq _ _) (by refine z1d.mpr fun x hx=>?_;obtain⟨p,_,rfl⟩:=bo.mp hx;rfl);refine z0h ?_;have:pk ((a.filter fun p=>decide (p.1∈ks b)).map fun p=>(p.1,min p.2 (look b p.1)))=.tuple ((a.filter fun p=>decide (p.1∈ks b)).map fun p=>pr (p.1,min p.2 (look b p.1))):=by unfold pk;rw[fg];rfl
 rw[this];exact z0g e2
def mt (a b:P):P:=(a.filter fun p=>decide (p.1∈ks b)).map fun p=>(p.1,min p.2 (look b p.1))
theorem e_z6 {a b:P}(h:a.length+b.length<64):F_z6 [pk a,pk b]=.ok (.fr,pk (gr (a++b))):=by unfold F_z6;refine z0k ?_;unfold S_z6;refine z0h (z0g (z07 (z00 (z0c (d:=pk (a++b)) (z01 rfl) (z01 rfl) ?_ (z05 _)).e z03) rfl (e_z4 (a++b) (by rw[az];exact h)) (z05 _)));show(if(a.map pr).length+(b.map pr).length<=LIM then _ else _)=_;rw[if_pos (by rw[ah,ah];unfold LIM;omega)];unfold pk;rw[cq]
theorem eq_nil (xs:List D)(h:z15 39 xs=true):cmpD .Eq (.list xs) (.list [])=.ok xs.isEmpty:=by show(if(shal 40 (.list xs)&&shal 40 (.list []))=true then Res.ok (eqD (.list xs) (.list []))else .no)=_;rw[if_pos (by show(z15 39 xs&&true)=true;rw[h];rfl)];cases xs<;>simp[eqD,PyData.eqv,PyData.eqvAll]
def wi (a b:P):Bool:=(a.filter fun p=>decide (look b p.1<p.2)).isEmpty
def exs (a b:P):Int:=(a.map fun p=>max (p.2-look b p.1) 0).sum
theorem z4k:∀(xs:List Int),sumD (xs.map .int)=some xs.sum
 | []=>rfl
 |x::xs=>by rw[ao,sumD,z4k xs,gj];rfl
theorem e_z7 {a b:P}(hb:PK b):F_z7 [pk a,pk b]=.ok (.fr,.int (exs a b)):=by
 unfold F_z7;refine z0k ?_;unfold S_z7;refine z0d (zdl (zaz (z01 rfl) rfl (za6 _ hb.nd) (z5z b)) (z8o b)) ?_;refine z0h (z0g (z8p (Ev.of (z32 (m:=pr) (xs:=a) (fun p=>true) (fun p=>.int (max (p.2-look b p.1) 0)) (w_tv (v_var rfl (z05 a)).1 rfl) rfl (fun p=>[some (.al,.str p.1),some (.al,.int p.2),some (.al,.dict (en b))]) (fun p _=>rfl) (fun p _=>zdf) (fun p _ _=>v_bi (z00 (z0c (z01 rfl) (v_mt (z01 rfl) (z00 (z01 rfl) (z00 z04.e z03)) (zac _ _) rfl).e rfl rfl).e (z00 z04.e z03)) (zp5 _ _) rfl))) rfl ?_ rfl));show Res.ofO ((sumD _).map PyData.int)=_;rw[jh.mpr fun _ _=>rfl];have:(a.map fun p=>PyData.int (max (p.2-look b p.1) 0))=(a.map fun p=>max (p.2-look b p.1) 0).map .int:=by rw[fg];rfl
 rw[this,z4k];rfl
theorem z2h {a b:P}(ha:PK a)(hb:PK b):wi a b=true↔∀n,look a n<=look b n:=by
 unfold wi;rw[j6,ij];constructor
 ·intro h n;by_cases hn:n∈ks a
  ·obtain⟨v,e⟩:=z7k hn;have:=h _ (z1r e);have e2:look a n=v:=by unfold look;rw[e];rfl
   simp only[decide_eq_true_eq]at this;rw[e2];omega
  ·have :look a n=0:=by unfold look;rw[z0x hn];rfl
   rw[this];exact hb.look_nn n
 ·intro h p hp;have:=h p.1;rw[ha.look_mem hp]at this;simp only[decide_eq_true_eq];omega
theorem zby (a b:P):ks (mt a b)=(ks a).filter fun n=>decide (n∈ks b):=by unfold ks mt;rw[fg,List.filter_map];rfl
theorem z8l {a b:P}(ha:PK a)(hb:PK b):PK (mt a b):=by
 constructor
 ·unfold Sd mt;rw[jy];exact(ha.sd.filter _).imp fun z=>z
 ·intro p hp;obtain⟨q,hq,rfl⟩:=bo.mp hp;obtain⟨h1,h2⟩:=cz.mp hq;have:=ha.pos q h1;have h3:0<look b q.1:=hb.key.mp (wb h2);show 0<min q.2 (look b q.1);omega
theorem z3i {a b:P}(ha:PK a)(hb:PK b)(n:Str):look (mt a b) n=min (look a n) (look b n):=by
 have hm:=z8l ha hb;have na:=ha.look_nn n;have nb:=hb.look_nn n;by_cases h1:n∈ks a
 ·by_cases h2:n∈ks b
  ·obtain⟨v,e⟩:=z7k h1;have e2:look a n=v:=by unfold look;rw[e];rfl
   have:(n,min v (look b n))∈mt a b:=bo.mpr ⟨(n,v),cz.mpr ⟨z1r e,we h2⟩,rfl⟩;rw[hm.look_mem this,e2]
  ·have z:n∉ks (mt a b):=fun z=>by
    rw[zby]at z;exact h2 (wb (cz.mp z).2)
   have z1:look (mt a b) n=0:=by unfold look;rw[z0x z];rfl
   have z2:look b n=0:=by unfold look;rw[z0x h2];rfl
   rw[z1,z2];omega
 ·have z:n∉ks (mt a b):=fun z=>by
   rw[zby]at z;exact h1 (cz.mp z).1
  have z1:look (mt a b) n=0:=by unfold look;rw[z0x z];rfl
  have z2:look a n=0:=by unfold look;rw[z0x h1];rfl
  rw[z1,z2];omega
def jn (a b:P):P:=gr (a++b)
theorem z5o (a b:P):PK (jn a b):=zsg _
theorem z2w {a b:P}(ha:PK a)(hb:PK b)(n:Str):look (jn a b) n=max (look a n) (look b n):=by have na:=ha.look_nn n;have nb:=hb.look_nn n;show look (up (z80 [] (a++b))) n=_;rw[zl1 (z5m _ [] im),z5c,ot];have z:look [] n=0:=rfl;rw[z,z3b n a 0 ha (oq _),z3b n b _ hb (by omega)];omega
def sd (b:Bool):Str:=if b then "for"else "against"
def own (b:Bool)(f a:P):P:=if b then f else a
def opp (b:Bool)(f a:P):P:=if b then a else f
def cs2 (f a:P):D:=.tuple [pk f,pk a]
def rl (b:Bool)(f a r:P):D:=.tuple [cs2 f a,.str (sd b),pk r]
theorem z1w (f a:P):imm (cs2 f a)=true:=by show imms [pk f,pk a]=true;rw[imms,imms,imms,z05,z05];rfl
theorem zoy (b:Bool)(f a r:P):imm (rl b f a r)=true:=by show imms [cs2 f a,.str (sd b),pk r]=true;rw[imms,imms,imms,imms,z1w,z05];rfl
theorem zjz (b:Bool):F_z0 [.str (sd b)]=.ok (.fr,.none):=by cases b<;>rfl
theorem zej (b:Bool):F_z1 [.str (sd b)]=.ok (.fr,.str (sd (!b))):=by cases b<;>rfl
theorem zmk {Κ:List D}{Φ:List Fn}{ρ:Rho}{t:C}{d:D}(h:Ev Κ Φ t ρ d):evS Κ Φ (.drop t) ρ=.ok (.nx ρ):=by obtain⟨g,h⟩:=h;show(evE Κ Φ t ρ>>=fun _=>Res.ok (Out.nx ρ))=_;rw[h];rfl
theorem zdy (b:Bool)(f a:P):F_z2 [cs2 f a,.str (sd b)]=.ok (.fr,pk (own b f a)):=by
 unfold F_z2;refine z0k ?_;unfold S_z2;refine z0d (zmk (z7o (z00 (z01 rfl) z03) rfl (zjz b))) ?_;cases b with
 |true=>exact z0h (z0g (d:=pk f) (zlo (k:=true) (t_tv (z0p (z01 rfl) z20.e rfl).e rfl) (fun _=>v_ix (z01 rfl) z04.e rfl (z05 f)) (y:=pk f) fun z=>by cases z))
 |false=>exact z0h (z0g (d:=pk a) (zlo (k:=false) (t_tv (z0p (z01 rfl) z20.e rfl).e rfl) (x:=pk a) (fun z=>by cases z) fun _=>v_ix (z01 rfl) z04.e rfl (z05 a)))
theorem z3g (b:Bool)(f a:P):own (!b) f a=opp b f a:=by cases b<;>rfl
theorem zdv (b:Bool)(f a r:P):F_z8 [rl b f a r]=.ok (.fr,pk (opp b f a)):=by unfold F_z8;refine z0k ?_;unfold S_z8;rw[<-z3g];exact z0h (z0g (z07 (z00 (v_ix (d:=cs2 f a) (z01 rfl) z04.e rfl (z1w f a)).e (z00 (z7o (z00 (v_ix (d:=.str (sd b)) (z01 rfl) z04.e rfl rfl).e z03) rfl (zej b)) z03)) rfl (zdy (!b) f a) (z05 _)))
def bi (b:Bool)(f a r f' a':P):Bool:=wi r (own b f' a')&&wi (opp b f' a') (opp b f a)
theorem z26 {a b:Int}(h:0<b)(h2:b<2 ^ 200):binD .FloorDiv (.int a) (.int b)=.ok (.int (a/b)):=by show(if _ then _ else _)=_;rw[if_pos ⟨h,h2⟩]
theorem z42 (cs:List Int):biD "len" [.list (cs.map .int)]=.ok (.int (cs.length:Int)):=by show Res.ok (PyData.int ((cs.map PyData.int).length:Int))=_;rw[ah]
theorem e_sl {Κ:List D}{Φ:List Fn}{ρ:Rho}{a b c:C}{x d:D}{i j:Option Int}(ha:Ev Κ Φ a ρ x)(hb:Oo Κ Φ b ρ i)(hc:Oo Κ Φ c ρ j)(h:slD x i j=.ok d):Ev Κ Φ (.sl a b c) ρ d:=by obtain⟨g1,ha⟩:=ha;unfold Oo at hb hc;exact⟨_,by rw[E_sl];rw[ha,Res.ok_bind,hb,Res.ok_bind,hc,Res.ok_bind];dsimp only;rw[h,Res.ok_bind]⟩
theorem zl9 {α β:Type}(f:α->β)(xs:List α)(i j:Option Int):cut (xs.map f) i j=(cut xs i j).map f:=by unfold cut;rw[ah,List.map_take,List.map_drop]
theorem z2f (xs:List Int)(i j:Option Int):slD (.list (xs.map .int)) i j=.ok (.list ((cut xs i j).map .int)):=by show Res.ok (PyData.list (cut (xs.map PyData.int) i j))=_;rw[zl9]
def ag (b:Bool)(f a r:P)(b':Bool)(f' a' r':P):Bool:=(!(b==b'))&&(wi r (own b f' a')&&wi r' (own b' f a))
theorem zvl (b b':Bool):(sd b==sd b')=(b==b'):=by cases b<;>cases b'<;>rfl
theorem z0u {b:Bool}{f a:P}(hf:PK f)(ha:PK a):PK (own b f a):=by cases b<;>assumption
def Nx (I:Rho->Prop)(z:Res Out):Prop:=∃ρ',z=.ok (.nx ρ')/\I ρ'
theorem z5a {Κ:List D}{Φ:List Fn}{ρ:Rho}{I:Rho->Prop}(h:I ρ):Nx I (evS Κ Φ .nil ρ):=⟨ρ,z0i,h⟩
theorem z67 {j:Nat}{d:D}{g:G}{ρ:Rho}(hi:imm d=true):z19 (.nm j) (gJ d g,d) ρ=.ok (ρ.set j (some (.al,d))):=by rw[z2c hi];rfl
theorem q_nm {Κ:List D}{Φ:List Fn}{ρ:Rho}{g:G}{Q:Res Out->Prop}{β:Type}{j:Nat}{it:C}{p rest:S}{m:β->D}{xs:List β}{ρ1:Rho}(h:evF Κ Φ it ρ=.ok (g,xs.map m,ρ1))(hm:∀x,imm (m x)=true)(I:List β->Rho->Prop)(h0:I [] ρ1)
  (hf:∀pre x post ρ,xs=pre++x::post->I pre ρ->Nx (I (pre++[x])) (evS Κ Φ p (ρ.set j (some (.al,m x))))) (hk:∀ρ',I xs ρ'->Q (evS Κ Φ rest ρ')):Q (evS Κ Φ (.seq (.for_ (.nm j) it p) rest) ρ):=
 zj3 h I h0 (fun pre x post ρ hx hI=>by obtain⟨ρ',h1,h2⟩:=hf pre x post ρ hx hI;exact⟨_,ρ',z67 (hm x),h1,h2⟩) hk
theorem ix_m {β:Type}(m:β->D){xs:List β}{i:Int}(d:β)(h0:0<=i)(h1:i<xs.length):ixD (.list (xs.map m)) (.int i)=.ok (m (xs.getD i.toNat d)):=by
 show Res.ofO (atI (xs.map m) i)=_;rw[zfb _ i (m d) h0 (by rw[ah];exact h1)];show Res.ok _=_
 congr 1
 have:i.toNat<xs.length:=by omega
 rw[a9,a9,bx,bc this];rfl
theorem z81 {β:Type}{m:β->D}(h:∀x,imm (m x)=true)(xs:List β):imms (xs.map m)=true:=z1d.mpr fun x hx=>by obtain⟨p,_,rfl⟩:=bo.mp hx;exact h p
theorem z3s {Κ:List D}{Φ:List Fn}{ρ:Rho}{a b:C}{i j n:Nat}{x:D}{xs:List D}(hv:Vv Κ Φ b ρ x)(hk:Ev Κ Φ a ρ (.int j))(hr:ρ[i]?=some (some (.fr,.list xs)))(hj:ixN xs.length (j:Int)=some n):evS Κ Φ (.setIx i a b) ρ=.ok (.nx ((ρ.set i (some (.fr,.list (xs.set n x)))).map z1e)):=by
 obtain⟨g1,hk⟩:=hk;rw[zrk,hv.1,Res.ok_bind,hk,Res.ok_bind,hr]
 dsimp only
 unfold okIn
 dsimp only
 rw[if_pos hv.2,hj]
theorem zgs {d:D}(h:imm d=true):z1e (some (.al,d))=some (.al,d):=by show(if imm d=true then some (G.al,d)else none)=_;rw[if_pos h]
theorem zbe {β:Type}{f:D->Rho->Res Out}{m:β->D}{Q:Res Out->Prop}(I:List β->Rho->Prop):∀(xs pre:List β) (ρ:Rho),(∀pr' x post ρ,pre++xs=pr'++x::post->I pr' ρ->(∃ρ',f (m x) ρ=.ok (.nx ρ')/\I (pr'++[x]) ρ')\/∃g d,f (m x) ρ=.ok (.rt g d)/\Q (.ok (.rt g d)))->I pre ρ->(∃ρ',forD f (xs.map m) ρ=.ok (.nx ρ')/\I (pre++xs) ρ')\/∃g d,forD f (xs.map m) ρ=.ok (.rt g d)/\Q (.ok (.rt g d))
 | [],pre,ρ,_,h=>.inl ⟨ρ,rfl,by rw[d8];exact h⟩
 |x::xs,pre,ρ,hf,h=>by
  rcases hf pre x xs ρ rfl h with⟨ρ',e,h'⟩|⟨g,d,e,q⟩
  ·have e2:pre++x::xs=(pre++[x])++xs:=by simp
   rcases zbe I xs (pre++[x]) ρ' (fun a b c r hh=>hf a b c r (e2.trans hh)) h' with⟨ρ2,e3,h3⟩|⟨g,d,e3,q⟩
   ·exact .inl ⟨ρ2,by rw[ao];show(match f (m x) ρ with|.ok (.nx ρ')=>forD f (xs.map m) ρ'|.ok (.rt g d)=>.ok (.rt g d)|.exc e=>.exc e|.no=>.no)=_;rw[e];exact e3,by rw[e2];exact h3⟩
   ·exact .inr ⟨g,d,by rw[ao];show(match f (m x) ρ with|.ok (.nx ρ')=>forD f (xs.map m) ρ'|.ok (.rt g d)=>.ok (.rt g d)|.exc e=>.exc e|.no=>.no)=_;rw[e];exact e3,q⟩
  ·exact .inr ⟨g,d,by rw[ao];show(match f (m x) ρ with|.ok (.nx ρ')=>forD f (xs.map m) ρ'|.ok (.rt g d)=>.ok (.rt g d)|.exc e=>.exc e|.no=>.no)=_;rw[e],q⟩
theorem zcq {Κ:List D}{Φ:List Fn}{ρ:Rho}{g:G}{Q:Res Out->Prop}{β:Type}{t':Tg}{it:C}{p rest:S}{m:β->D}{xs:List β}{ρ1:Rho}(h:evF Κ Φ it ρ=.ok (g,xs.map m,ρ1))(I:List β->Rho->Prop)(h0:I [] ρ1)
  (hf:∀pre x post ρ,xs=pre++x::post->I pre ρ->∃ρ2,z19 t' (gJ (m x) g,m x) ρ=.ok ρ2/\(Nx (I (pre++[x])) (evS Κ Φ p ρ2)\/∃g d,evS Κ Φ p ρ2=.ok (.rt g d)/\Q (.ok (.rt g d)))) (hk:∀ρ',I xs ρ'->Q (evS Κ Φ rest ρ')):Q (evS Κ Φ (.seq (.for_ t' it p) rest) ρ):=by
 rcases zbe (f:=fun x ρ1=>z19 t' (gJ x g,x) ρ1>>=fun ρ2=>evS Κ Φ p ρ2) (m:=m) (Q:=Q) I xs [] ρ1 (fun pre x post ρ hx hI=>by
  obtain⟨ρ2,e,hh⟩:=hf pre x post ρ hx hI;rcases hh with⟨ρ',h1,h2⟩|⟨g',d,h1,h2⟩
  ·exact .inl ⟨ρ',by rw[e,Res.ok_bind,h1],h2⟩
  ·exact .inr ⟨g',d,by rw[e,Res.ok_bind,h1],h2⟩) h0 with⟨ρ',e,i⟩|⟨g',d,e,q⟩
 ·rw[z0d (z95 h e) rfl];exact hk ρ' i
 ·rw[z0h (z95 h e)];exact q
theorem za8 {α:Type}{xs:List α}{x:α×Nat}(h:x∈xs.zipIdx):xs[x.2]?=some x.1:=List.mem_zipIdx_iff_getElem?.mp h
theorem z1o {Φ:List Fn}{ρ:Rho}{t:C}{i j:Int}(h:Ev [] Φ t ρ (.int i)):Tt [] Φ (.tv (.cmp .Eq t (.int j))) ρ (decide (i=j)):=t_tv (z0p (k:=decide (i=j)) h z04.e (by show Res.ok (eqD (.int _) (.int _))=_;rw[z1v])).e rfl
theorem z2m (c:Int){k:Int}(h0:0<=k)(h1:k<=100):∃m,(0<=m/\m<2147483647)/\z1n [.int c,.int k]=.ok (.fr,.int m):=by
 have hk:0<=k*k/\k*k<=10000:=⟨Int.mul_nonneg h0 h0,by have:=Int.mul_le_mul h1 h1 h0 (by decide);omega⟩;have e:31*k*k=31*(k*k):=Int.mul_assoc ..;have hc:=fi c (show(1000000007:Int)≠0 by decide);have hd:=fm c (show(0:Int)<1000000007 by decide);generalize ha:c%1000000007+31*k*k+1=a;have h2:0<a/\a<2 ^ 60:=by rw[e]at ha;omega
 refine⟨(a*a%2147483629*(k+7))%2147483647,⟨fi _ (by decide),fm _ (by decide)⟩,z0k ?_⟩;unfold zk7;refine z0d (z0e (d:=.int a) (by rw[<-ha];exact z0c (z0c (z0c (z01 rfl) z04.e (z10 (by decide)) rfl).e (z0c (z0c z04.e (z01 rfl) (z4j (by decide)) rfl).e (z01 rfl) (zjf ⟨by omega,by omega⟩) rfl).e rfl rfl).e z04.e rfl rfl)) ?_;exact z0h (z0g (z0c (z0c (z0c (z0c (z01 rfl) (z01 rfl) (z4j ⟨by omega,by omega⟩) rfl).e z04.e (z10 (by decide)) rfl).e (z0c (z01 rfl) z04.e rfl rfl).e (zjf ⟨by omega,by omega⟩) rfl).e z04.e (z10 (by decide)) rfl))
def DG (b:Int)(n:Nat)(ds:List Int):Prop:=ds.length=n/\∀d∈ds,0<=d/\d<b
theorem z2l (c:Int){n b:Int}(h0:0<=n)(h1:n<=100)(hb:0<b)(hb2:b<2 ^ 200):∃ds,DG b n.toNat ds/\z1m [.int c,.int n,.int b]=.ok (.fr,.list (ds.map .int)):=by
 suffices h:∃ds,DG b n.toNat ds/\evS [] [] zgk [some (.od,.int c),some (.od,.int n),some (.od,.int b),none,none]=.ok (.rt .fr (.list (ds.map .int))) by obtain⟨ns,h1,h2⟩:=h;exact⟨ns,h1,z0k h2⟩
 let Q:Res Out->Prop:=fun r=>∃ds,DG b n.toNat ds/\r=.ok (.rt .fr (.list (ds.map .int)))
 show Q _;unfold zgk;refine q_ok (z18 (z22 z0f) rfl) ?_;refine q_nm (m:=fun(i:Nat)=>PyData.int i) (xs:=cj n.toNat) (zc3 (z00 (z01 rfl) z03) (zbj h0 (by omega))) (fun _=>rfl) (fun pre ρ=>∃g c' ds u,ρ=[some (g,.int c'),some (.od,.int n),some (.od,.int b),some (.fr,.list (ds.map .int)),u]/\DG b pre.length ds) ⟨_,c,[],none,rfl,rfl,fun _ h=>by cases h⟩ ?_ ?_
 ·rintro pre x post ρ hx ⟨g,c',ds,u,rfl,hl,hd⟩
  have hp:pre.length<n.toNat:=by have:=congrArg lb hx;rw[gb,az,bq]at this;omega
  refine q_ok (zdx (xs:=ds.map .int) (z0c (z01 rfl) (z01 rfl) (z10 hb) rfl) rfl (by rw[ah];omega)) ?_;refine q_ok (z0e (d:=.int (c'/b)) (z0c (z01 (g:=g) (d:=.int c') (by cases g<;>rfl)) (z01 rfl) (z26 hb hb2) rfl)) ?_;refine z5a ⟨.al,c'/b,ds++[c'%b],some (.al,.int x),?_,?_,?_⟩
  ·rw[cq];rfl
  ·rw[az,az,hl];rfl
  ·intro d hd';rcases du.mp hd' with h|h
   ·exact hd d h
   ·cases br.mp h;exact⟨fi _ (by omega),fm _ hb⟩
 ·rintro ρ ⟨g,c',ds,u,rfl,hl,hd⟩
  rw[gb]at hl;exact q_rt (z7y rfl) ⟨ds,⟨hl,hd⟩,rfl⟩
def zp (ws:List Str)(ds:List Int):P:=(ws.zip ds).filter fun p=>decide (0<p.2)
def Sw (ws:List Str):Prop:=ws.Pairwise sl
theorem zhq:∀{ws:List Str} {ds:List Int},Sw ws->(ws.zip ds).Pairwise fun p q=>sl p.1 q.1
 | [],_,_=>by simp
 |_::_,[],_=>by simp
 |w::ws,d::ds,h=>by obtain⟨h1,h2⟩:=cf.1 h;rw[n8];refine cf.mpr ⟨fun p hp=>h1 _ ?_,zhq h2⟩;exact(iz hp).1
theorem zq7 {ws:List Str}{ds:List Int}(h:Sw ws):PK (zp ws ds):=⟨(zhq h).filter _,fun p hp=>by simpa using(cz.mp hp).2⟩
theorem z28 {ws:List Str}{ds:List Int}(hw:ws.length<=60)(hd:ds.length<=600):z3u [.list (ws.map .str),.list (ds.map .int)]=.ok (.fr,pk (zp ws ds)):=by unfold z3u;refine z0k ?_;unfold zj9;have hz:=zg2 (Κ:=[]) (Φ:=[]) (ρ:=[some (.od,.list (ws.map .str)),some (.od,.list (ds.map .int))]) (z01 (i:=0) rfl) (z01 (i:=1) rfl) (z5f (z2e ws) (by rw[ah];omega)) (z5f (z0m ds) (by rw[ah];omega));rw[zfk]at hz;refine z0h (z0g (z8p (w:=(true,(zp ws ds).map pr)) (x:=.list ((zp ws ds).map pr)) ⟨.fr,?_⟩ rfl rfl (z05 _)));exact z32 (m:=fun p:Str×Int=>PyData.tuple [.str p.1,.int p.2]) (xs:=ws.zip ds) (fun p=>decide (0<p.2)) pr hz rfl (fun p=>[some (.al,.str p.1),some (.al,.int p.2)]) (fun p _=>rfl) (fun p _=>t_tv (z0p (z01 rfl) z04.e rfl).e rfl) fun p _ _=>z0v (z02 (v_var rfl rfl) (z02 (v_var rfl rfl) z0f))
theorem zkt {z:Str}(hz:z.cps.toList.Nodup){i j:Int}(hi:0<=i/\i<z.length)(hj:0<=j/\j<z.length)(h:chr z i=chr z j):i=j:=by
 have e:z.length=z.cps.toList.length:=by rw[db];rfl
 unfold chr at h;have h1:z.cps.toList.getD i.toNat 0=z.cps.toList.getD j.toNat 0:=by have:=congrArg (fun s:Str=>s.cps.toList) h;simpa using this
 have a1:i.toNat<z.cps.toList.length:=by omega
 have a2:j.toNat<z.cps.toList.length:=by omega
 rw[a9,a9,bc a1,bc a2]at h1;have:=(List.getElem_inj hz).mp h1;omega
def wd (f:Nat->Str):Nat->Str
 |0=>""
 |n+1=>wd f n++f n
theorem z7b {f:Nat->Str}(hf:∀j,(f j).length=1):∀n,(wd f n).length=n
 |0=>rfl
 |n+1=>by rw[wd,zkw,z7b hf n,hf]
theorem app_list (a b:Str):(a++b).cps.toList=a.cps.toList++b.cps.toList:=by show(a.cps++b.cps).toList=_;rw[Array.toList_append]
theorem len_list (a:Str):a.cps.toList.length=a.length:=by rw[db];rfl
theorem ziv {f g:Nat->Str}(hf:∀j,(f j).length=1)(hg:∀j,(g j).length=1):∀n,wd f n=wd g n->∀j,j<n->f j=g j
 |0,_,_,h=>by omega
 |n+1,e,j,h=>by
  have e2:(wd f n).cps.toList++(f n).cps.toList=(wd g n).cps.toList++(g n).cps.toList:=by rw[<-app_list,<-app_list];exact congrArg (fun s:Str=>s.cps.toList) e
  have hl:(wd f n).cps.toList.length=(wd g n).cps.toList.length:=by rw[len_list,len_list,z7b hf,z7b hg]
  obtain⟨e3,e4⟩:=List.append_inj e2 hl;by_cases hj:j=n
  ·rw[hj];exact zch e4
  ·exact ziv hf hg n (zch e3) j (by omega)
def LTR:Str:="bcdfghjklmnpqrstvwxyz"
theorem z5y:LTR.length=21:=rfl
theorem zp8:LTR.cps.toList.Nodup:=by decide+kernel
def lt (c:Int)(at_ k:Nat)(j:Nat):Str:=chr LTR ((c/144+((j:Int)*j+4*k*(if j=at_ then 1 else 0)))%21)
theorem z7m (c:Int)(at_ k j:Nat):(lt c at_ k j).length=1:=rfl
theorem zt7 {c:Int}{at_ k k' n:Nat}(ha:at_<n)(hk:k<3)(hk':k'<3)(h:wd (lt c at_ k) n=wd (lt c at_ k') n):k=k':=by have:=ziv (z7m c at_ k) (z7m c at_ k') n h at_ ha;unfold lt at this;have:=zkt zp8 (by rw[z5y];omega) (by rw[z5y];omega) this;rw[if_pos rfl]at this;generalize (at_:Int)*at_=z at this;omega
def insW (x:Str):List Str->List Str
 | []=>[x]
 |y::ys=>if decide (y.cps.toList<x.cps.toList)then y::insW x ys else x::y::ys
def srtW:List Str->List Str
 | []=>[]
 |x::xs=>insW x (srtW xs)
theorem zp7 (x:Str):∀l:List Str,insD (.str x) (l.map .str)=(insW x l).map .str
 | []=>rfl
 |y::ys=>by
  show(if ltD (.str y) (.str x)then _ else _)=qu _ (if _ then _ else _);have e:ltD (.str y) (.str x)=decide (y.cps.toList<x.cps.toList):=rfl;rw[e];cases decide (y.cps.toList<x.cps.toList)with
  |true=>show _::insD (.str x) (ys.map .str)=_;rw[zp7 x ys];rfl
  |false=>rfl
theorem zr1:∀l:List Str,z1a (l.map .str)=(srtW l).map .str
 | []=>rfl
 |x::xs=>by show insD (.str x) (z1a (xs.map .str))=_;rw[zr1 xs,zp7];rfl
theorem z4w (x:Str):∀l,(insW x l).Perm (x::l)
 | []=>List.Perm.refl _
 |y::ys=>by
  unfold insW;split
  ·exact((z4w x ys).cons y).trans (List.Perm.swap x y ys)
  ·exact List.Perm.refl _
theorem z1z:∀l,(srtW l).Perm l
 | []=>List.Perm.refl _
 |x::xs=>(z4w x _).trans ((z1z xs).cons x)
theorem zcj {x:Str}:∀{l:List Str},Sw l->x∉l->Sw (insW x l)
 | [],_,_=>jo _ _
 |y::ys,h,hn=>by
  obtain⟨h1,h2⟩:=cf.1 h;unfold insW;split
  ·rename_i hd;refine cf.mpr ⟨fun z hz=>?_,zcj h2 fun z=>hn (aq _ z)⟩;rcases au.mp ((z4w x ys).mem_iff.mp hz)with rfl|hz
   ·show y.cps.toList<_;exact wb hd
   ·exact h1 z hz
  ·rename_i hd;have hxy:sl x y:=(ze1 (a:=x) (b:=y) (fun e=>hn (by rw[e];exact ak))).elim id fun z=>(hd (we z)).elim;refine cf.mpr ⟨fun z hz=>?_,h⟩;rcases au.1 hz with rfl|hz
   ·exact hxy
   ·exact zlq hxy (h1 z hz)
theorem z8j:∀{l:List Str},l.Nodup->Sw (srtW l)
 | [],_=>List.Pairwise.nil
 |x::xs,h=>by obtain⟨h1,h2⟩:=ci.mp h;exact zcj (z8j h2) fun z=>h1 ((z1z xs).mem_iff.mp z)
theorem zgp (l:List Str):z1c (l.map .str)=true:=by
 unfold z1c;have:(l.map PyData.str).all isS=true:=bt.mpr fun x hx=>by obtain⟨w,_,rfl⟩:=bo.mp hx;rfl
 rw[this,qa,pv]
theorem z5d {l:List Str}(h:l.length<64):aggD "sorted" true (l.map .str)=.ok (.list ((srtW l).map .str)):=by show(if(true&&z1c (l.map .str)&&decide ((l.map PyData.str).length<64))=true then Res.ok (PyData.list (z1a (l.map .str)))else .no)=_;rw[zgp,zr1,ah,we h];rfl
structure GW (ws:List Str):Prop where
 sw:Sw ws
 pos:0<ws.length
 len:ws.length<=6
 wl:∀w∈ws,w.length<=30
theorem zgw {c:Int}(hc:0<=c):∃ws,(GW ws/\ws.length=3)/\z8m [.int c,.int 3]=.ok (.fr,.list (ws.map .str)):=by
 generalize hn:1+c%12=n;generalize ha:c/12%n=a;have n0:0<n/\n<=12:=by omega
 have a0:0<=a/\a<n:=by rw[<-ha];exact⟨fi _ (by omega),fm _ n0.1⟩
 let w:=fun k=>wd (lt c a.toNat k) n.toNat
 have wl:∀k,(w k).length=n.toNat:=fun k=>z7b (z7m c a.toNat k) _
 have nd:[w 0,w 1,w 2].Nodup:=by
  have h:∀i j,i<3->j<3->i≠j->w i≠w j:=fun i j hi hj hij e=>hij (zt7 (by omega) hi hj e);refine ci.mpr ⟨fun z=>?_,ci.mpr ⟨fun z=>?_,ci.mpr ⟨(fun z=>by cases z),im⟩⟩⟩
  ·rcases au.mp z with z|z
   ·exact h 0 1 (by decide) (by decide) (by decide) z
   ·exact h 0 2 (by decide) (by decide) (by decide) (br.mp z)
  ·exact h 1 2 (by decide) (by decide) (by decide) (br.mp z)
 have hl3:(srtW [w 0,w 1,w 2]).length=3:=(z1z _).length_eq;refine⟨srtW [w 0,w 1,w 2],⟨⟨z8j nd,by omega,by omega,fun x hx=>?_⟩,hl3⟩,?_⟩
 ·have hx:=(z1z _).mem_iff.mp hx
  have:x.length=n.toNat:=by
   rcases au.1 hx with rfl|hx
   ·exact wl 0
   ·rcases au.1 hx with rfl|hx
    ·exact wl 1
    ·rw[br.mp hx];exact wl 2
  omega
 refine z0k ?_
 let Q:Res Out->Prop:=fun r=>r=.ok (.rt .fr (.list ((srtW [w 0,w 1,w 2]).map .str)))
 show Q _;unfold zkl;refine q_ok (z0e (d:=.str LTR) z20) ?_;refine q_ok (z0e (d:=.int n) (by rw[<-hn];exact z0c z04.e (z0c (z01 rfl) z04.e (z10 (by decide)) rfl).e rfl rfl)) ?_;refine q_ok (z0e (d:=.int a) (by rw[<-ha];exact z0c (z0c (z01 rfl) z04.e (z26 (by decide) (by decide)) rfl).e (z01 rfl) (z10 n0.1) rfl)) ?_;refine q_ok (z18 (z22 z0f) rfl) ?_;refine q_nm (m:=fun(i:Nat)=>PyData.int i) (xs:=cj (3:Int).toNat) (zc3 (z00 (z01 rfl) z03) (zbj (by decide) (by decide))) (fun _=>rfl) (fun pre ρ=>∃u6 u7 u8 u9,ρ=[some (.od,.int c),some (.od,.int 3),some (.al,.str LTR),some (.al,.int n),some (.al,.int a),some (.fr,.list ((pre.map w).map .str)),u6,u7,u8,u9]) ⟨none,none,none,none,rfl⟩ ?_ ?_
 ·rintro pre x post ρ hx ⟨u6,u7,u8,u9,rfl⟩
  have hp:pre.length<3/\x<3:=by
   have h1:=congrArg lb hx;rw[gb,az,bq]at h1;have h2:x∈cj (3:Int).toNat:=by rw[hx];exact ax _ ak
   have:=nv.mp h2;have e3:(3:Int).toNat=3:=rfl;omega
  refine q_ok (z0e (d:=.str "") z20) ?_;refine q_nm (m:=fun(i:Nat)=>PyData.int i) (xs:=cj n.toNat) (zc3 (z00 (z01 rfl) z03) (zbj (by omega) (by omega))) (fun _=>rfl) (fun pr2 ρ=>pr2=cj pr2.length/\∃u8 u9,ρ=[some (.od,.int c),some (.od,.int 3),some (.al,.str LTR),some (.al,.int n),some (.al,.int a),some (.fr,.list ((pre.map w).map .str)),some (.al,.int x),some (.al,.str (wd (lt c a.toNat x) pr2.length)),u8,u9]) ⟨rfl,u8,u9,rfl⟩ ?_ ?_
  ·rintro pr2 j po2 ρ hj ⟨hr,u8,u9,rfl⟩
   have h1:=congrArg lb hj;rw[gb,az,bq]at h1;have hjj:j=pr2.length:=by have:=congrArg (fun l:List Nat=>l[pr2.length]?) hj;simp only[f9 (am _),Nat.sub_self,lf]at this;rw[m8 (by omega)]at this;exact(Option.some.inj this)▸rfl
   have ej:decide ((j:Int)=a)=decide (j=a.toNat):=by apply decide_eq_decide.mpr;omega
   generalize hst:((j:Int)*j+4*x*(if j=a.toNat then 1 else 0))=st;refine q_ok (z0e (d:=.int st) ?_) ?_
   ·rw[<-hst];refine z0c (z0c (z01 rfl) (z01 rfl) (z4j ⟨by omega,by omega⟩) rfl).e (z0c (z0c z04.e (z01 rfl) (z4j (by decide)) rfl).e (v_bi (z00 (z0p (k:=decide (j=a.toNat)) (z01 rfl) (z01 rfl) ?_).e z03) (d:=.int (if j=a.toNat then 1 else 0)) ?_ rfl).e (z4j ⟨by omega,by omega⟩) rfl).e rfl rfl
    ·show Res.ok (eqD (.int j) (.int a))=_;rw[z1v,ej]
    ·show Res.ok (PyData.int (if decide (j=a.toNat)=true then 1 else 0))=_;by_cases hh:j=a.toNat
     ·rw[we hh,if_pos rfl,if_pos hh]
     ·rw[wf hh,if_neg (by decide),if_neg hh]
   have hi:ixD (.str LTR) (.int ((c/144+st)%21))=.ok (.str (lt c a.toNat x j)):=by rw[za2 (by omega) (by rw[z5y];omega) (by rw[z5y];decide)];unfold lt;rw[hst]
   refine q_ok (z0e (d:=.str (wd (lt c a.toNat x) pr2.length++lt c a.toNat x j)) (z0c (z01 rfl) (v_ix (z01 rfl) (z0c (z0c (z0c (z01 rfl) z04.e (z26 (by decide) (by decide)) rfl).e (z01 rfl) rfl rfl).e z04.e (z10 (by decide)) rfl).e hi rfl).e (add_str (by rw[z7b (z7m _ _ _),z7m];omega)) rfl)) ?_;refine z5a ⟨?_,some (.al,.int j),some (.al,.int st),?_⟩
   ·rw[az,ls,List.range_succ,<-hr,hjj]
   ·rw[az,ls,hjj];rfl
  ·rintro ρ ⟨_,u8,u9,rfl⟩
   rw[gb];refine q_ok (zdx (xs:=(pre.map w).map .str) (x:=.str (w x)) (v_var rfl rfl) rfl (by rw[ah,ah];omega)) ?_;have i8:∃v8 v9,(qu z1e [u8,u9])=[v8,v9]:=⟨_,_,rfl⟩;obtain⟨v8,v9,e89⟩:=i8;refine z5a ⟨some (.al,.int x),some (.al,.str (w x)),z1e u8,z1e u9,?_⟩;rw[cq,cq];rfl
 ·rintro ρ ⟨u6,u7,u8,u9,rfl⟩
  refine q_rt (zcb (fun i z=>by cases z) (zaz (w:=(true,[w 0,w 1,w 2].map .str)) (z01 rfl) rfl (z5d (by show 3<64;decide)) (z2e _))) rfl
structure RG (rs:List Int):Prop where
 nn:∀r∈rs,0<=r
 cs:rs.length=4\/∃t,rs=[t]/\0<t/\t<=10 ^ 30
theorem zk5 {c:Int}(hc:0<=c):∃rs,RG rs/\z85 [.int c]=.ok (.fr,.list (rs.map .int)):=by
 suffices h:∃rs,RG rs/\evS [] [] zf0 [some (.od,.int c),none]=.ok (.rt .fr (.list (rs.map .int))) by obtain⟨ns,h1,h2⟩:=h;exact⟨ns,h1,z0k h2⟩
 let Q:Res Out->Prop:=fun r=>∃rs,RG rs/\r=.ok (.rt .fr (.list (rs.map .int)))
 show Q _;unfold zf0;have hix:=z4x (ns:=[1,7,1000000000000000,999999999999999999999999999991]) (i:=c%4) (by omega) (by show _<(4:Int);omega);generalize hm:([1,7,1000000000000000,999999999999999999999999999991]:List Int).getD (c%4).toNat 0=m at hix
 have m0:0<m/\m<2 ^ 200:=by
  have h:m∈([1,7,1000000000000000,999999999999999999999999999991]:List Int):=by rw[<-hm];exact getD_mem (by omega) (by show _<(4:Int);omega)
  have hall:∀x∈([1,7,1000000000000000,999999999999999999999999999991]:List Int),0<x/\x<2 ^ 200:=by decide
  exact hall m h
 generalize hl:1+c/4%m=l;have l0:0<l:=by have:=fi (c/4) (show m≠0 by omega);omega
 have e30:binD .Sub (.int 1000000000000000000000000000000) (.int 9)=.ok (.int 999999999999999999999999999991):=rfl;refine q_ok (z0e (d:=.int l) ?_) ?_
 ·rw[<-hl];exact z0c z04.e (z0c (z0c (z01 rfl) z04.e (z26 (by decide) (by decide)) rfl).e (v_ix (Ev.of (z22 (z02 z04 (z02 z04 (z02 zls (z02 (z0c z84.e z04.e e30 rfl) z0f)))))) (z0c (z01 rfl) z04.e (z10 (by decide)) rfl).e hix rfl).e (z10 m0.1) rfl).e rfl rfl
 have ht:Tt [] [] (.tv (.cmp .Eq (.bin .Mod (.var 0) (.int 5)) (.int 1))) [some (.od,.int c),some (.al,.int l)] (decide (c%5=1)):=t_tv (z0p (k:=decide (c%5=1)) (z0c (z01 rfl) z04.e (z10 (by decide)) rfl).e z04.e (by show Res.ok (eqD (.int _) (.int _))=_;rw[z1v])).e rfl;by_cases h5:c%5=1
 ·refine q_rt (g:=.fr) (z0l ht (fun _=>z0h (zcb (fun i z=>by cases z) (z22 (z02 z04 (z02 (v_var rfl rfl) (z02 (z0c (z01 rfl) z04.e rfl rfl) (z02 z84 z0f))))))) fun z=>absurd h5 (wc z)) ⟨[0,l,l+1,1000000000000000000000000000000],⟨?_,.inl rfl⟩,rfl⟩;intro r hr;simp only[au,cw,or_false]at hr;omega
 ·refine z2d ht (wf h5) ?_;have h3:=fi (c/20) (show(3:Int)≠0 by decide);refine q_rt (zcb (fun i z=>by cases z) (z22 (z02 z04 (z02 (v_var rfl rfl) (z02 (z0c (z01 rfl) z04.e rfl rfl) (z02 (z0c (z0c (z01 rfl) z04.e rfl rfl).e (z0c (z0c (z01 rfl) z04.e (z26 (by decide) (by decide)) rfl).e z04.e (z10 (by decide)) rfl).e rfl rfl) z0f)))))) ⟨[0,l,l+1,l+2+c/20%3],⟨?_,.inl rfl⟩,rfl⟩;intro r hr;simp only[au,cw,or_false]at hr;omega
theorem zp4 {c:Rho->Res Bool}{f:Rho->Res Out}{P:Rho->Prop}(I:Nat->Rho->Prop)(hs:∀k ρ,I k ρ->(c ρ=.ok false/\P ρ)\/∃k' ρ',k=k'+1/\c ρ=.ok true/\f ρ=.ok (.nx ρ')/\I k' ρ'):∀(k n:Nat) (ρ:Rho),k<n->I k ρ->∃ρ',whD c f n ρ=.ok (.nx ρ')/\P ρ'
 |k,0,_,h,_=>by omega
 |k,n+1,ρ,h,hI=>by
  rcases hs k ρ hI with⟨h1,h2⟩|⟨k',ρ',rfl,h1,h2,h3⟩
  ·exact⟨ρ,by show(c ρ>>=_)=_;rw[h1];rfl,h2⟩
  ·obtain⟨ρ2,e,p⟩:=zp4 I hs k' n ρ' (by omega) h3;refine⟨ρ2,?_,p⟩;show(c ρ>>=_)=_;rw[h1,Res.ok_bind,if_pos rfl,h2];exact e
theorem q_wh {Κ:List D}{Φ:List Fn}{ρ:Rho}{Q:Res Out->Prop}{c:C}{b rest:S}{n:Nat}{P:Rho->Prop}(I:Nat->Rho->Prop)(k:Nat)(hn:k<n)(h0:I k ρ)(hs:∀k ρ,I k ρ->(Tt Κ Φ c ρ false/\P ρ)\/∃k' ρ',k=k'+1/\Tt Κ Φ c ρ true/\evS Κ Φ b ρ=.ok (.nx ρ')/\I k' ρ')(hk:∀ρ',P ρ'->Q (evS Κ Φ rest ρ')):Q (evS Κ Φ (.seq (.wh n c b) rest) ρ):=by obtain⟨ρ',e,p⟩:=zp4 (c:=evT Κ Φ c) (f:=evS Κ Φ b) I hs k n ρ hn h0;have e2:evS Κ Φ (.wh n c b) ρ=.ok (.nx ρ'):=e;exact q_ok e2 (hk ρ' p)
theorem z3h (a b:Str):eqD (.str a) (.str b)=decide (a=b):=by
 show(a==b)=_;by_cases h:a=b
 ·rw[we h,h];exact beq_self_eq_true b
 ·rw[wf h];exact beq_false_of_ne h
theorem zb0 (n:Nat)(ws:List Str):z15 n (ws.map .str)=true:=z1i.mpr fun x hx=>by obtain⟨w,_,rfl⟩:=bo.mp hx;cases n<;>rfl
theorem zm5 (w:Str)(ws:List Str):cmpD .In (.str w) (.list (ws.map .str))=.ok (decide (w∈ws)):=by
 show(if(shal 40 (.str w)&&z15 40 (ws.map .str))=true then Res.ok ((ws.map PyData.str).any fun y=>eqD y (.str w))else .no)=_;rw[zb0,show shal 40 (.str w)=true from rfl,List.any_map];show Res.ok _=_
 congr 1
 apply Bool.eq_iff_iff.mpr;rw[List.any_eq_true,decide_eq_true_iff];refine⟨fun⟨x,h1,h2⟩=>?_,fun h=>⟨w,h,?_⟩⟩
 ·have h2:eqD (.str x) (.str w)=true:=h2;rw[z3h]at h2;exact wb h2▸h1
 ·show eqD (.str w) (.str w)=true;rw[z3h];exact we rfl
def qs (n:Nat):Str:=⟨(z0y n ("q":Str).cps.toList).toArray⟩
theorem zcc {α:Type}(x:α)(n:Nat):(z0y n [x]).length=n:=by
 unfold z0y
 induction n with
 |zero=>rfl
 |succ n ih=>rw[dm,eu,az,ih];simp;omega
theorem ze4 (n:Nat):(qs n).length=n:=by show(z0y n ("q":Str).cps.toList).toArray.size=n;rw[aw];exact zcc _ n
theorem zut {n:Nat}(h:n<=1000):binD .Mult (.str "q") (.int n)=.ok (.str (qs n)):=by show(if(0<=(n:Int)/\(n:Int)<=LIM/\("q":Str).length*(n:Int).toNat<=LIM)then Res.ok (PyData.str ⟨(z0y (n:Int).toNat ("q":Str).cps.toList).toArray⟩)else .no)=_;rw[if_pos ⟨by omega,by unfold LIM;omega,by rw[show("q":Str).length=1 from rfl];unfold LIM;omega⟩];rfl
theorem zg8 {bad:List Str}{z:Nat}(h:∀i,1<=i->i<z->qs i∈bad):z-1<=bad.length:=by
 have:=z9d (a:=((cj (z-1)).map fun i=>qs (i+1))) (b:=bad) ?_ ?_
 ·rwa [ah,gb]at this
 ·refine jy.mpr (List.nodup_range.imp fun{a b} hab e=>hab ?_);have:=congrArg Str.length e;rw[ze4,ze4]at this;omega
 ·intro x hx;obtain⟨i,hi,rfl⟩:=bo.mp hx;have:=nv.mp hi;exact h _ (by omega) (by omega)
theorem z9g:("abcdefghijklmnopqrstuvwxyz":Str).length=26:=rfl
def KEPT:List Str:=["and","or","not","if","is","some","all","for","against"]
theorem zka {cs:List Int}(h0:0<cs.length)(h6:cs.length<=6):∃ws:List Str,(ws.Nodup/\ws.length=cs.length/\∀w∈ws,w.length<=30)/\z8r [.list (cs.map .int)]=.ok (.fr,.list (ws.map .str)):=by
 suffices h:∃ws:List Str,(ws.Nodup/\ws.length=cs.length/\∀w∈ws,w.length<=30)/\evS [] [z1m] zgd [some (.od,.list (cs.map .int)),none,none,none,none,none,none]=.ok (.rt .fr (.list (ws.map .str))) by obtain⟨ns,h1,h2⟩:=h;exact⟨ns,h1,z0k h2⟩
 let Q:Res Out->Prop:=fun r=>∃ws:List Str,(ws.Nodup/\ws.length=cs.length/\∀w∈ws,w.length<=30)/\r=.ok (.rt .fr (.list (ws.map .str)))
 show Q _;unfold zgd;refine q_ok (z18 (xs:=KEPT.map .str) (z22 (z02 z20 (z02 z20 (z02 z20 (z02 z20 (z02 z20 (z02 z20 (z02 z20 (z02 z20 (z02 z20 z0f)))))))))) rfl) ?_;refine q_ok (z18 (z22 z0f) rfl) ?_;refine q_nm (m:=PyData.int) (xs:=cs) (f_od rfl rfl rfl) (fun _=>rfl) (fun pre ρ=>∃(ws:List Str) (u3 u4 u5 u6:Option GD),ρ=[some (.od,.list (cs.map .int)),some (.fr,.list (KEPT.map .str)),some (.fr,.list (ws.map .str)),u3,u4,u5,u6]/\ws.Nodup/\ws.length=pre.length/\∀w∈ws,w.length<=30) ⟨[],none,none,none,none,rfl,im,rfl,fun _ h=>by cases h⟩ ?_ ?_
 ·rintro pre x post ρ hx ⟨ws,u3,u4,u5,u6,rfl,nd,hl,hw⟩
  have hp:pre.length<6:=by have:=congrArg lb hx;rw[az,bq]at this;omega
  obtain⟨ds,⟨d1,d2⟩,hd⟩:=z2l (x/12) (n:=1+x%12) (b:=26) (by omega) (by omega) (by decide) (by decide);refine q_ok (z18 (z2o (z00 (z0c (z01 rfl) z04.e (z26 (by decide) (by decide)) rfl).e (z00 (z0c z04.e (z0c (z01 rfl) z04.e (z10 (by decide)) rfl).e rfl rfl).e (z00 z04.e z03))) rfl hd) (z0m _)) ?_
  have hs:∃s0:Str,s0.length<=30/\∀{ρ:Rho},ρ[4]?=some (some (.fr,.list (ds.map .int)))->Vv [] [z1m] (.mt "join" (.str "") (.cons (.comp 1 [] ["_law_digit"] (.nm 0) (.tv (.var 4)) .nil (.ix (.str "abcdefghijklmnopqrstuvwxyz") (.var 0))) .nil)) ρ (.str s0):=by
   refine⟨z69 "" (ds.map fun d=>chr "abcdefghijklmnopqrstuvwxyz" d),?_,fun{ρ} h4=>?_⟩
   ·rw[z75 _ (fun s hs=>by obtain⟨d,_,rfl⟩:=bo.mp hs;rfl),ah];omega
   ·have e4:evE [] [z1m] (.var 4) ρ=.ok (.al,.list (ds.map .int)):=by rw[zb5];rw[h4];rfl
    refine v_mt z20.e (z00 (Ev.of (z32 (m:=PyData.int) (xs:=ds) (fun _=>true) (fun d=>.str (chr "abcdefghijklmnopqrstuvwxyz" d)) (w_tv e4 rfl) rfl (fun d=>[some (.al,.int d)]) (fun d _=>rfl) (fun d _=>zdf) fun d hd' _=>v_ix z20.e (z01 rfl) (za2 (d2 d hd').1 (by rw[z9g];exact(d2 d hd').2) (by rw[z9g];decide)) rfl)) z03) ?_ rfl;rw[jh.mpr (fun _ _=>rfl),show(ds.map fun d=>PyData.str (chr "abcdefghijklmnopqrstuvwxyz" d))=(ds.map fun d=>chr "abcdefghijklmnopqrstuvwxyz" d).map .str by rw[fg];rfl];exact zqd (fun s hs=>by obtain⟨d,_,rfl⟩:=bo.mp hs;rfl) (by rw[ah];omega)
  obtain⟨s0,s1,s2⟩:=hs;refine q_ok (z0e (d:=.str s0) (s2 rfl)) ?_;refine q_ok (z0e (d:=.int 1) z04) ?_
  let R:Str->Int->Rho:=fun s z=>[some (.od,.list (cs.map .int)),some (.fr,.list (KEPT.map .str)),some (.fr,.list (ws.map .str)),some (.al,.int x),some (.fr,.list (ds.map .int)),some (.al,.str s),some (.al,.int z)]
  have ht:∀s z,Tt [] [z1m] (.tv (.cmp .In (.var 5) (.bin .Add (.var 2) (.var 1)))) (R s z) (decide (s∈ws++KEPT)):=fun s z=>by
   have e2:evE [] [z1m] (.bin .Add (.var 2) (.var 1)) (R s z)=.ok (.fr,.list ((ws++KEPT).map .str)):=by rw[cq];exact zgh (z01 rfl) (z01 rfl) (add_list (by rw[ah,ah];show ws.length+9<=1000;omega)) (by rw[<-cq];exact z2e _)
   exact t_tv (z0p (z01 rfl) (Ev.of e2) (zm5 s _)).e rfl
  refine q_wh (P:=fun ρ=>∃s z,ρ=R s z/\s∉ws++KEPT/\s.length<=30) (fun k ρ=>∃s z,ρ=R s (z:Nat)/\k+z=40/\1<=z/\s.length<=30/\(2<=z->s=qs (z-1))/\∀i,1<=i->i<z-1->qs i∈ws++KEPT) 39 (by decide) ⟨s0,1,rfl,rfl,by decide,s1,fun h=>by omega,fun i h1 h2=>by omega⟩ ?_ ?_
  ·rintro k ρ ⟨s,z,rfl,hkz,z1,sl,sq,hq⟩
   by_cases hin:s∈ws++KEPT
   ·have hall:∀i,1<=i->i<z->qs i∈ws++KEPT:=fun i h1 h2=>by
     by_cases hi:i=z-1
     ·rw[hi,<-sq (by omega)];exact hin
     ·exact hq i h1 (by omega)
    have hz:=zg8 hall;rw[az,show KEPT.length=9 from rfl]at hz;refine .inr ⟨k-1,R (qs z) ((z+1:Nat):Int),by omega,?_,?_,qs z,z+1,rfl,by omega,by omega,by rw[ze4];omega,fun _=>rfl,hall⟩
    ·have :=ht s z;rw[we hin]at this;exact this
    ·exact z0d (z0e (z0c z20.e (z01 rfl) (zut (by omega)) rfl)) (z0d (z0e (d:=.int ((z+1:Nat):Int)) (z0c (z01 rfl) z04.e rfl rfl)) z0i)
   ·refine .inl ⟨?_,s,z,rfl,hin,sl⟩;have:=ht s z;rw[wf hin]at this;exact this
  ·rintro ρ ⟨s,z,rfl,hin,hl2⟩
   refine q_ok (zdx (xs:=ws.map .str) (x:=.str s) (v_var rfl rfl) rfl (by rw[ah];omega)) ?_;refine z5a ⟨ws++[s],some (.al,.int x),some (.fr,.list (ds.map .int)),some (.al,.str s),some (.al,.int z),?_,?_,?_,?_⟩
   ·rw[cq];rfl
   ·refine jz.mpr ⟨nd,ci.mpr ⟨(fun z=>by cases z),im⟩,fun a ha b hb e=>?_⟩;rw[br.mp hb]at e;exact hin (gk _ (e▸ha))
   ·rw[az,az,hl];rfl
   ·intro w hw';rcases du.mp hw' with h|h
    ·exact hw w h
    ·rw[br.mp h];exact hl2
 ·rintro ρ ⟨ws,u3,u4,u5,u6,rfl,nd,hl,hw⟩
  exact q_rt (z7y rfl) ⟨ws,⟨nd,hl,hw⟩,rfl⟩
theorem ziq {Κ:List D}{Φ:List Fn}{ρ:Rho}{t:C}{d:D}(hv:∀i,t≠.var i)(h:Ev Κ Φ t ρ d):∃g,evS Κ Φ (.ret t) ρ=.ok (.rt g d)/\g≠.od:=by obtain⟨g,h⟩:=h;refine⟨rtG g,by rw[zc0 hv,h];rfl,?_⟩;cases g<;>decide
theorem zje (xs:List Int):aggD "sum" true (xs.map .int)=.ok (.int xs.sum):=by show Res.ofO ((sumD (xs.map .int)).map PyData.int)=_;rw[z4k];rfl
theorem z0z {α:Type}(xs:List α)(i j:Option Int):(cut xs i j).length<=xs.length:=by unfold cut;rw[gg,l8];omega
theorem z5i {n d:Nat}{v:Int}(h:0<=v):sIx n d (some v)=min v.toNat n:=by show(if v<0 then(v+(n:Int)).toNat else min v.toNat n)=_;rw[if_neg (Int.not_lt.mpr h)]
theorem zll {α:Type}(xs:List α){i j:Nat}(h1:i<=j)(h2:j<=xs.length):(cut xs (some (i:Int)) (some (j:Int))).length=j-i:=by unfold cut;rw[gg,l8,z5i (jt _),z5i (jt _),ja,ja,mz h2,mz (b6 h1 h2)];exact mz (qw h2 _)
structure BG (xs:List Int)(m:Nat)(w:Int)(ws:List Str)(rs cs re:List Int):Prop where
 w0:0<=w
 w1:w<2147483647
 gw:GW ws
 rg:RG rs
 cl:cs.length<=xs.length
 cm:cs.length<=m
 rl:re.length<=xs.length
def bgD (w:Int)(ws:List Str)(rs cs re:List Int):D:=.tuple [.int w,.list (ws.map .str),.list (rs.map .int),.list (cs.map .int),.list (re.map .int)]
theorem ztt:binD .Pow (.int 10) (.int 21)=.ok (.int 1000000000000000000000):=rfl
theorem zq4 {α:Type}(xs:List α)(m:Nat):(cut xs none (some (m:Int))).length<=m:=by unfold cut;rw[gg,z5i (jt _)];exact b6 (m7 _ _) (b6 (Nat.sub_le _ _) (m7 _ _))
theorem zov {α:Type}(xs:List α)(k m:Nat):(cut xs (some (k:Int)) (some ((k+m:Nat):Int))).length<=m:=by
 unfold cut;rw[gg,z5i (jt _),z5i (jt _),ja,ja];refine b6 (m7 _ _) ?_;by_cases h:k<=xs.length
 ·rw[mz h];exact b6 (qw (m7 _ _) _) (ue (Nat.add_sub_cancel_left ..))
 ·rw[Nat.min_eq_right (Nat.le_of_not_le h)];exact b6 (ue (Nat.sub_eq_zero_of_le (Nat.min_le_right _ _))) (fu _)
theorem zjv {xs:List Int}(hl:xs.length<=63){m o:Nat}(hm:m<=60)(o0:0<o)(o1:o<=6):∃w ws rs cs re,BG xs m w ws rs cs re/\∃g,zau [.list (xs.map .int),.int m,.int o]=.ok (g,bgD w ws rs cs re)/\g≠.od:=by
 suffices h:∃w ws rs cs re,BG xs m w ws rs cs re/\∃g,evS [] [z8r,z8m,z85,z1n] zfq [some (.od,.list (xs.map .int)),some (.od,.int m),some (.od,.int o),none,none,none,none,none]=.ok (.rt g (bgD w ws rs cs re))/\g≠.od by obtain⟨w,ws,rs,cs,re,h1,g,h2,h3⟩:=h;exact⟨w,ws,rs,cs,re,h1,g,z0k h2,h3⟩
 let Q:Res Out->Prop:=fun r=>∃w ws rs cs re,BG xs m w ws rs cs re/\∃g,r=.ok (.rt g (bgD w ws rs cs re))/\g≠.od
 show Q _;unfold zfq;obtain⟨w,⟨w0,w1⟩,hw⟩:=z2m (cut xs none (some 63)).sum (k:=5) (by decide) (by decide);obtain⟨v,⟨v0,v1⟩,hv⟩:=z2m (cut xs none (some 63)).sum (k:=6) (by decide) (by decide);have es:∀{Φ:List Fn} {ρ:Rho},ρ[0]?=some (some (.od,.list (xs.map .int)))->Vv [] Φ (.agg "sum" (.tv (.sl (.var 0) .nil (.tv (.int 63))))) ρ (.int (cut xs none (some 63)).sum):=fun h=>z8p (e_sl (z01 h) z7j (z3v z04.e) (z2f _ _ _)) rfl (zje _) rfl;refine q_ok (z0e (d:=.int w) (z07 (z00 (es rfl).e (z00 z04.e z03)) rfl hw rfl)) ?_;have hix:=z4x (ns:=xs++[0]) (i:=0) (by decide) (by rw[az];show(0:Int)<((xs.length+1:Nat):Int);omega);generalize (xs++[0]).getD (0:Int).toNat 0=h at hix;rw[cq]at hix;refine q_ok (z0e (d:=.int h) (v_ix (Ev.of (zgh (z01 rfl) (Ev.of (z22 (z02 z04 z0f))) (add_list (by rw[ah];show xs.length+1<=1000;omega)) (by rw[show[PyData.int 0]=[(0:Int)].map .int from rfl,<-cq];exact z0m _))) z04.e hix rfl)) ?_;have ht:Tt [] [z8r,z8m,z85,z1n] (.tv (.cmp .Eq (.bin .Mod (.var 4) (.int 2)) (.int 0))) [some (.od,.list (xs.map .int)),some (.od,.int m),some (.od,.int o),some (.al,.int w),some (.al,.int h),none,none,none] (decide (h%2=0)):=t_tv (z0p (k:=decide (h%2=0)) (z0c (z01 rfl) z04.e (z10 (by decide)) rfl).e z04.e (by show Res.ok (eqD (.int _) (.int _))=_;rw[z1v])).e rfl;by_cases h2:h%2=0
 ·obtain⟨rs,rg,hr⟩:=zk5 (c:=v*1000000000000000000000+w) (by have :=Int.mul_nonneg v0 (show(0:Int)<=1000000000000000000000 by decide);omega);obtain⟨ws,⟨gw,_⟩,hn⟩:=zgw w0;obtain⟨g,hg,g0⟩:=ziq (Κ:=[]) (Φ:=[z8r,z8m,z85,z1n]) (ρ:=[some (.od,.list (xs.map .int)),some (.od,.int m),some (.od,.int o),some (.al,.int w),some (.al,.int h),some (.fr,.list (rs.map .int)),none,none]) (t:=.tup (.cons (.var 3) (.cons (.call 1 "_law_names" (.cons (.var 3) (.cons (.int 3) .nil))) (.cons (.var 5) (.cons (.sl (.var 0) .nil (.tv (.var 1))) (.cons (.var 0) .nil)))))) (d:=bgD w ws rs (cut xs none (some (m:Int))) xs) (fun i z=>by cases z) (zpl (z00 (z01 rfl) (z00 (Ev.of (z2o (z00 (z01 rfl) (z00 z04.e z03)) rfl hn)) (z00 (z01 rfl) (z00 (e_sl (z01 rfl) z7j (z3v (z01 rfl)) (z2f _ _ _)) (z00 (z01 rfl) z03))))));refine q_rt (g:=g) (z0l ht (fun _=>z0d (z18 (z2o (z00 (z0c (z0c (z07 (z00 (es rfl).e (z00 z04.e z03)) rfl hv rfl).e (z0c z04.e z04.e ztt rfl).e (z4j ⟨by omega,by omega⟩) rfl).e (z01 rfl) rfl rfl).e z03) rfl hr) (z0m _)) (z0h hg)) fun z=>absurd h2 (wc z)) ⟨w,ws,rs,_,xs,⟨w0,w1,gw,rg,z0z _ _ _,zq4 _ _,am _⟩,g,rfl,g0⟩
 ·refine z2d ht (wf h2) ?_;generalize hq:h/2%(o:Int)=r;have r0:0<=r/\r<o:=by rw[<-hq];exact⟨fi _ (by omega),fm _ (by omega)⟩
  obtain⟨rn,rfl⟩:∃rn:Nat,r=rn:=⟨r.toNat,by omega⟩;have cl:(cut (xs++[0,0,0,0,0,0,0,0,0]) (some 1) (some (2+(rn:Int)))).length=2+rn-1:=zll _ (i:=1) (j:=2+rn) (by omega) (by rw[az];show 2+rn<=xs.length+9;omega);obtain⟨ws,⟨nd,wl,ww⟩,hf⟩:=zka (cs:=cut (xs++[0,0,0,0,0,0,0,0,0]) (some 1) (some (2+(rn:Int)))) (by omega) (by omega);have e9:repD [(.fr,.int 0)] (.int 9)=.ok (.fr,.list (([0,0,0,0,0,0,0,0,0]:List Int).map .int)):=rfl;have hsl:=(z1z ws).length_eq;refine q_ok (z18 (xs:=(srtW ws).map .str) (zaz (x:=.list (ws.map .str)) (w:=(true,ws.map .str)) (Ev.of (z2o (z00 (e_sl (Ev.of (zgh (z01 rfl) (Ev.of (zuw (z02 z04 z0f) z04.e e9)) (add_list (by rw[ah];show xs.length+9<=1000;omega)) (by rw[<-cq];exact z0m _))) (z3v z04.e) (z3v (z0c z04.e (z0c (z0c (z01 rfl) z04.e (z26 (by decide) (by decide)) rfl).e (z01 rfl) (z10 (by omega)) rfl).e rfl rfl).e) (by rw[<-cq,z2f,hq])) z03) rfl hf)) rfl (z5d (by omega)) (z2e _)) (z2e _)) ?_;have hi2:=z4x (ns:=[1,2,4,30,1000000000000000000000000000000]) (i:=h/(2*o)%5) (by omega) (by show _<(5:Int);omega);generalize ht5:([1,2,4,30,1000000000000000000000000000000]:List Int).getD (h/(2*o)%5).toNat 0=t at hi2
  have t0:0<t/\t<=10 ^ 30:=by
   have hh:t∈([1,2,4,30,1000000000000000000000000000000]:List Int):=by rw[<-ht5];exact getD_mem (by omega) (by show _<(5:Int);omega)
   have hall:∀x∈([1,2,4,30,1000000000000000000000000000000]:List Int),0<x/\x<=10 ^ 30:=by decide
   exact hall t hh
  refine q_ok (z0e (d:=.int t) (v_ix (Ev.of (z22 (z02 z04 (z02 z04 (z02 z04 (z02 z04 (z02 z84 z0f))))))) (z0c (z0c (z01 rfl) (z0c z04.e (z01 rfl) (z4j (by decide)) rfl).e (z26 (by omega) (by omega)) rfl).e z04.e (z10 (by decide)) rfl).e hi2 rfl)) ?_;obtain⟨g,hg,g0⟩:=ziq (Κ:=[]) (Φ:=[z8r,z8m,z85,z1n]) (ρ:=[some (.od,.list (xs.map .int)),some (.od,.int m),some (.od,.int o),some (.al,.int w),some (.al,.int h),none,some (.fr,.list ((srtW ws).map .str)),some (.al,.int t)]) (t:=.tup (.cons (.var 3) (.cons (.var 6) (.cons (.lst (.cons (.var 7) .nil)) (.cons (.sl (.var 0) (.tv (.int 8)) (.tv (.bin .Add (.int 8) (.var 1)))) (.cons (.sl (.var 0) (.tv (.bin .Add (.int 8) (.var 1))) (.tv (.int 63))) .nil)))))) (d:=bgD w (srtW ws) [t] (cut xs (some 8) (some ((8+m:Nat):Int))) (cut xs (some ((8+m:Nat):Int)) (some 63))) (fun i z=>by cases z) (zpl (z00 (z01 rfl) (z00 (z01 rfl) (z00 (Ev.of (z22 (z02 (v_var rfl rfl) z0f))) (z00 (e_sl (z01 rfl) (z3v z04.e) (z3v (z0c z04.e (z01 rfl) rfl rfl).e) (z2f _ _ _)) (z00 (e_sl (z01 rfl) (z3v (z0c z04.e (z01 rfl) rfl rfl).e) (z3v z04.e) (z2f _ _ _)) z03))))));refine q_rt hg ⟨w,srtW ws,[t],_,_,⟨w0,w1,⟨z8j nd,by omega,by omega,fun x hx=>ww x ((z1z _).mem_iff.mp hx)⟩,⟨?_,.inr ⟨t,rfl,t0⟩⟩,z0z _ _ _,zov xs 8 m,z0z _ _ _⟩,g,rfl,g0⟩;intro r hr;rw[br.mp hr];omega
structure PW (ws:List Str)(l:P):Prop where
 pk:PK l
 ks:∀k∈ks l,k∈ws
theorem PW.len {ws:List Str}{l:P}(h:PW ws l):l.length<=ws.length:=by
 have:=z9d h.pk.nd h.ks;unfold Mk.ks at this
 rwa [ah]at this
theorem z8n {ws:List Str}(h:Sw ws)(ds:List Int):PW ws (zp ws ds):=⟨zq7 h,fun k hk=>by obtain⟨p,hp,rfl⟩:=bo.mp hk;exact(iz (cz.mp hp).1).1⟩
theorem z27 {Φ:List Fn}{ρ:Rho}{i:Nat}{g:G}{rs:List Int}(h:ρ[i]?=some (some (g,.list (rs.map .int)))):Tt [] Φ (.tv (.cmp .Eq (.bi "len" (.cons (.var i) .nil)) (.int 1))) ρ (decide (rs.length=1)):=by
 refine t_tv (z0p (k:=decide (rs.length=1)) (v_bi (z00 (z01 h) z03) (z42 rs) rfl).e z04.e ?_).e rfl;show Res.ok (eqD (.int _) (.int _))=_;rw[z1v]
 congr 1
 apply decide_eq_decide.mpr;omega
theorem len_strs (ws:List Str):biD "len" [.list (ws.map .str)]=.ok (.int (ws.length:Int)):=by show Res.ok (PyData.int ((ws.map PyData.str).length:Int))=_;rw[ah]
theorem z9u {Φ:List Fn}{ρ:Rho}{i:Nat}{g:G}{t:Int}(h:ρ[i]?=some (some (g,.list ([t].map .int)))):Vv [] Φ (.bin .Add (.ix (.var i) (.int 0)) (.int 1)) ρ (.int (t+1)):=z0c (v_ix (d:=.int t) (z01 h) z04.e rfl rfl).e z04.e rfl rfl
theorem RG.not1 {rs:List Int}(h:rs.length=4):decide (rs.length=1)=false:=wf (by omega)
theorem z2y (c:Int){ws:List Str}{rs:List Int}(gw:GW ws)(rg:RG rs):∃l,PW ws l/\z5x [.int c,.list (ws.map .str),.list (rs.map .int)]=.ok (.fr,pk l):=by
 suffices h:∃l,PW ws l/\evS [] [z3u,z1m] zge [some (.od,.int c),some (.od,.list (ws.map .str)),some (.od,.list (rs.map .int))]=.ok (.rt .fr (pk l)) by obtain⟨ns,h1,h2⟩:=h;exact⟨ns,h1,z0k h2⟩
 have w6:=gw.len;unfold zge;rcases rg.cs with h4|⟨t,rfl,t0,t1⟩
 ·obtain⟨ds,⟨d1,d2⟩,hd⟩:=z2l c (n:=(ws.length:Int)) (b:=4) (by omega) (by omega) (by decide) (by decide);refine⟨zp ws (ds.map fun d=>rs.getD d.toNat 0),z8n gw.sw _,?_⟩;refine z2i (z27 rfl) (RG.not1 h4) ?_;have hc:=z32 (Κ:=[]) (Φ:=[z3u,z1m]) (ρ:=[some (.od,.int c),some (.od,.list (ws.map .str)),some (.od,.list (rs.map .int))]) (nt:=1) (js:=[2]) (N':=["_law_digit","_law_rungs_here"]) (tg:=.nm 0) (cond:=.nil) (elt:=.ix (.var 1) (.var 0)) (m:=PyData.int) (xs:=ds) (fun _=>true) (fun d=>.int (rs.getD d.toNat 0)) (w_tv (z2o (n:=1) (f:="_law_digits") (z00 (z01 (i:=0) rfl) (z00 (v_bi (f:="len") (z00 (z01 (i:=1) rfl) z03) (len_strs ws) rfl).e (z00 (z04 (i:=4)).e z03))) rfl hd) rfl) rfl (fun d=>[some (.al,.int d),some (.od,.list (rs.map .int))]) (fun d _=>rfl) (fun d _=>zdf) fun d hd' _=>v_ix (z01 rfl) (z01 rfl) (z4x (d2 d hd').1 (by have:=(d2 d hd').2;omega)) rfl;rw[jh.mpr (fun _ _=>rfl),show(ds.map fun d=>PyData.int (rs.getD d.toNat 0))=(ds.map fun d=>rs.getD d.toNat 0).map .int by rw[fg];rfl]at hc;exact z0h (z0g (z07 (z00 (z01 rfl) (z00 (Ev.of hc) z03)) rfl (z28 (by omega) (by rw[ah];omega)) (z05 _)))
 ·obtain⟨ds,⟨d1,d2⟩,hd⟩:=z2l c (n:=(ws.length:Int)) (b:=t+1) (by omega) (by omega) (by omega) (by omega);refine⟨zp ws ds,z8n gw.sw _,?_⟩;exact z8f (z27 rfl) rfl (z0h (z0g (z07 (z00 (z01 rfl) (z00 (Ev.of (z2o (z00 (z01 rfl) (z00 (v_bi (z00 (z01 rfl) z03) (len_strs ws) rfl).e (z00 (z9u rfl).e z03))) rfl hd)) z03)) rfl (z28 (by omega) (by omega)) (z05 _))))
theorem z4n (c:Int){ws:List Str}{rs:List Int}(gw:GW ws)(rg:RG rs):∃f a,(PW ws f/\PW ws a)/\z7h [.int c,.list (ws.map .str),.list (rs.map .int)]=.ok (.fr,cs2 f a):=by
 suffices h:∃f a,(PW ws f/\PW ws a)/\evS [] [z5x,z1n,z3u,z1m] zgg [some (.od,.int c),some (.od,.list (ws.map .str)),some (.od,.list (rs.map .int)),none]=.ok (.rt .fr (cs2 f a)) by obtain⟨f,a,h1,h2⟩:=h;exact⟨f,a,h1,z0k h2⟩
 have w6:=gw.len;unfold zgg;rcases rg.cs with h4|⟨t,rfl,t0,t1⟩
 ·obtain⟨m1,_,e1⟩:=z2m c (k:=1) (by decide) (by decide);obtain⟨m2,_,e2⟩:=z2m c (k:=2) (by decide) (by decide);obtain⟨f,pf,ef⟩:=z2y m1 gw rg;obtain⟨a,pa,ea⟩:=z2y m2 gw rg;refine⟨f,a,⟨pf,pa⟩,?_⟩;refine z2i (z27 rfl) (RG.not1 h4) ?_;exact z0h (z0g (z0v (z02 (z07 (z00 (z07 (z00 (z01 rfl) (z00 z04.e z03)) rfl e1 rfl).e (z00 (z01 rfl) (z00 (z01 rfl) z03))) rfl ef (z05 _)) (z02 (z07 (z00 (z07 (z00 (z01 rfl) (z00 z04.e z03)) rfl e2 rfl).e (z00 (z01 rfl) (z00 (z01 rfl) z03))) rfl ea (z05 _)) z0f))))
 ·obtain⟨ds,⟨d1,d2⟩,hd⟩:=z2l c (n:=2*(ws.length:Int)) (b:=t+1) (by omega) (by omega) (by omega) (by omega);refine⟨zp ws ds,zp ws (cut ds (some (ws.length:Int)) none),⟨z8n gw.sw _,z8n gw.sw _⟩,?_⟩;have hcl:=z0z ds (some (ws.length:Int)) none;exact z8f (z27 rfl) rfl (z0d (z18 (z2o (z00 (z01 rfl) (z00 (z0c z04.e (v_bi (z00 (z01 rfl) z03) (len_strs ws) rfl).e (z4j (by decide)) rfl).e (z00 (z9u rfl).e z03))) rfl hd) (z0m _)) (z0h (z0g (z0v (z02 (z07 (z00 (z01 rfl) (z00 (z01 rfl) z03)) rfl (z28 (by omega) (by omega)) (z05 _)) (z02 (z07 (z00 (z01 rfl) (z00 (e_sl (z01 rfl) (z3v (v_bi (z00 (z01 rfl) z03) (len_strs ws) rfl).e) z7j (z2f _ _ _)) z03)) rfl (z28 (by omega) (by omega)) (z05 _)) z0f))))))
def lsF (mi:Int->Int)(p:(Str×Int)×Int):Option (Str×Int):=if 0<min p.1.2 (mi p.2)then some (p.1.1,min p.1.2 (mi p.2))else none
theorem zee (mi:Int->Int):∀(a:P) (ds:List Int),(ks ((a.zip ds).filterMap (lsF mi))).Sublist (ks a)
 | [],_=>by simp[ks]
 |_::_,[]=>by simp[ks]
 |p::a,d::ds=>by
  rw[n8,dg];have ih:=zee mi a ds;unfold lsF at ih ⊢
  dsimp only
  split
  ·exact ih.cons _
  ·rename_i x hx;split at hx
   ·cases hx;exact ih.cons₂ _
   ·cases hx
theorem zpi {l:P}:Sd l↔(ks l).Pairwise sl:=by unfold Sd ks;rw[jy]
theorem zuv {ws:List Str}{a:P}(h:PW ws a)(mi:Int->Int)(ds:List Int):PW ws ((a.zip ds).filterMap (lsF mi)):=by
 refine⟨⟨zpi.mpr ((zpi.mp h.pk.sd).sublist (zee mi a ds)),fun p hp=>?_⟩,fun k hk=>h.ks k ((zee mi a ds).subset hk)⟩;obtain⟨q,_,hq⟩:=gf.mp hp;unfold lsF at hq;split at hq
 ·cases hq;assumption
 ·cases hq
theorem zso {ws:List Str}{a:P}(h:PW ws a)(mi:Int->Int)(ds:List Int):wi ((a.zip ds).filterMap (lsF mi)) a=true:=by
 unfold wi;rw[j6,ij];intro p hp z;obtain⟨x,hx,e⟩:=gf.mp hp;have hm:x.1∈a:=(iz (a:=x.1) (b:=x.2) hx).1;unfold lsF at e;split at e
 ·cases e;have:=wb z;rw[h.pk.look_mem hm]at this;exact Int.not_le.mpr this (Int.min_le_left _ _)
 ·cases e
theorem z7t {ws:List Str}{a:P}(ha:PW ws a)(gw:GW ws)(c:Int){rs:List Int}(rg:RG rs):∃r,(PW ws r/\wi r a=true)/\z65 [pk a,.int c,.list (rs.map .int)]=.ok (.fr,pk r):=by
 suffices h:∃r,(PW ws r/\wi r a=true)/\evS [] [z1m] zfh [some (.od,pk a),some (.od,.int c),some (.od,.list (rs.map .int)),none,none,none,none,none]=.ok (.rt .fr (pk r)) by obtain⟨ns,h1,h2⟩:=h;exact⟨ns,h1,z0k h2⟩
 let Q:Res Out->Prop:=fun z=>∃r,(PW ws r/\wi r a=true)/\z=.ok (.rt .fr (pk r))
 show Q _;have w6:=gw.len;have al:=ha.len;unfold zfh;refine q_ok (z0e (d:=.int 4) z04) ?_
 obtain⟨b,b0,b1,hb⟩:∃b:Int,0<b/\b<2 ^ 200/\(rs.length=4/\b=4\/∃t,rs=[t]/\b=t+1):=by
  rcases rg.cs with h4|⟨t,h,t0,t1⟩
  ·exact⟨4,by decide,by decide,.inl ⟨h4,rfl⟩⟩
  ·exact⟨t+1,by omega,by omega,.inr ⟨t,h,rfl⟩⟩
 refine q_ok (ρ':=[some (.od,pk a),some (.od,.int c),some (.od,.list (rs.map .int)),some (.al,.int b),none,none,none,none]) ?_ ?_
 ·rcases hb with⟨h4,rfl⟩|⟨t,rfl,rfl⟩
  ·exact z0l (z27 rfl) (fun z=>by rw[RG.not1 h4]at z;cases z) fun _=>z0i
  ·exact z0l (z27 rfl) (fun _=>z0d (z0e (z9u rfl)) z0i) fun z=>by cases z
 refine q_ok (z18 (z22 z0f) rfl) ?_;have hla:biD "len" [pk a]=.ok (.int (a.length:Int)):=by show Res.ok (PyData.int ((a.map pr).length:Int))=_;rw[ah]
 obtain⟨ds,⟨d1,d2⟩,hd⟩:=z2l c (n:=(a.length:Int)) (b:=b) (by omega) (by omega) b0 b1;have hz:=zj2 (Κ:=[]) (Φ:=[z1m]) (ρ:=[some (.od,pk a),some (.od,.int c),some (.od,.list (rs.map .int)),some (.al,.int b),some (.fr,.list []),none,none,none]) (v_var (i:=0) rfl (z05 a)).1 (z2o (n:=0) (f:="_law_digits") (z00 (z01 (i:=1) rfl) (z00 (v_bi (f:="len") (z00 (z01 (i:=0) rfl) z03) hla rfl).e (z00 (z01 (i:=3) rfl) z03))) rfl hd) rfl rfl (zna (z5z a) (by rw[ah];omega)) (z5f (z0m ds) (by rw[ah];omega));rw[zfk]at hz
 let mi:Int->Int:=fun d=>if rs.length=1 then d else rs.getD d.toNat 0
 refine zj3 hz (fun pre ρ=>∃u5 u6 u7,ρ=[some (.od,pk a),some (.od,.int c),some (.od,.list (rs.map .int)),some (.al,.int b),some (.fr,.list ((pre.filterMap (lsF mi)).map pr)),u5,u6,u7]) ⟨none,none,none,rfl⟩ ?_ ?_
 ·rintro pre x post ρ hx ⟨u5,u6,u7,rfl⟩
  have hp:pre.length<6:=by have:=congrArg lb hx;rw[qb,az,bq]at this;omega
  have hxd:x.2∈ds:=(iz (a:=x.1) (b:=x.2) (l₁:=a) (l₂:=ds) (by rw[hx];exact ax _ ak)).2;have hfl:=List.length_filterMap_le (lsF mi) pre
  have hmine:∀{u7:Option GD},evS [] [z1m] (.ifS (.tv (.cmp .Gt (.bi "len" (.cons (.var 2) .nil)) (.int 1))) (.seq (.asg (.nm 7) (.ix (.var 2) (.var 6))) .nil) .nil) [some (.od,pk a),some (.od,.int c),some (.od,.list (rs.map .int)),some (.al,.int b),some (.fr,.list ((pre.filterMap (lsF mi)).map pr)),some (.al,pr x.1),some (.al,.int x.2),some (.al,.int x.2)]=.ok (.nx [some (.od,pk a),some (.od,.int c),some (.od,.list (rs.map .int)),some (.al,.int b),some (.fr,.list ((pre.filterMap (lsF mi)).map pr)),some (.al,pr x.1),some (.al,.int x.2),some (.al,.int (mi x.2))]):=by
   intro _;have ht:Tt [] [z1m] (.tv (.cmp .Gt (.bi "len" (.cons (.var 2) .nil)) (.int 1))) [some (.od,pk a),some (.od,.int c),some (.od,.list (rs.map .int)),some (.al,.int b),some (.fr,.list ((pre.filterMap (lsF mi)).map pr)),some (.al,pr x.1),some (.al,.int x.2),some (.al,.int x.2)] (decide ((1:Int)<rs.length)):=t_tv (z0p (v_bi (z00 (z01 rfl) z03) (z42 rs) rfl).e z04.e rfl).e rfl;rcases hb with⟨h4,rfl⟩|⟨t,rfl,rfl⟩
   ·have hm:mi x.2=rs.getD x.2.toNat 0:=if_neg (by omega);rw[hm];refine z0l ht (fun _=>z0d (z0e (d:=.int (rs.getD x.2.toNat 0)) (v_ix (z01 rfl) (z01 rfl) (z4x (d2 _ hxd).1 (by have:=(d2 _ hxd).2;omega)) rfl)) z0i) fun z=>?_;have:=wc z;omega
   ·have hm:mi x.2=x.2:=if_pos rfl;rw[hm];exact z0l ht (fun z=>by have:=wb z;simp at this) fun _=>z0i
  have hmin:∀{ρ:Rho},ρ[5]?=some (some (.al,pr x.1))->ρ[7]?=some (some (.al,.int (mi x.2)))->Vv [] [z1m] (.bi "min" (.cons (.ix (.var 5) (.int 1)) (.cons (.var 7) .nil))) ρ (.int (min x.1.2 (mi x.2))):=fun h5 h7=>v_bi (z00 (v_ix (d:=.int x.1.2) (z01 h5) z04.e rfl rfl).e (z00 (z01 h7) z03)) (zu7 _ _) rfl;by_cases hpos:0<min x.1.2 (mi x.2)
  ·refine⟨_,_,z44 (z5l x.1) rfl,z0d (z0e (d:=.int x.2) (v_var rfl rfl)) (z0d (hmine (u7:=none)) (z0d (z0l (t_tv (z0p (k:=decide (0<min x.1.2 (mi x.2))) (hmin rfl rfl).e z04.e rfl).e rfl) (fun _=>z0d (zdx (xs:=(pre.filterMap (lsF mi)).map pr) (x:=pr (x.1.1,min x.1.2 (mi x.2))) (z0v (z02 (v_ix (d:=.str x.1.1) (z01 rfl) z04.e rfl rfl) (z02 (hmin rfl rfl) z0f))) rfl (by rw[ah];omega)) z0i) fun z=>absurd hpos (wc z)) z0i)),some (.al,pr x.1),some (.al,.int x.2),some (.al,.int (mi x.2)),?_⟩;have e:lsF mi x=some (x.1.1,min x.1.2 (mi x.2)):=if_pos hpos;rw[qg,dg,e,cq];rfl
  ·refine⟨_,_,z44 (z5l x.1) rfl,z0d (z0e (d:=.int x.2) (v_var rfl rfl)) (z0d (hmine (u7:=none)) (z0d (z0l (t_tv (z0p (k:=decide (0<min x.1.2 (mi x.2))) (hmin rfl rfl).e z04.e rfl).e rfl) (fun z=>absurd (wb z) hpos) fun _=>z0i) z0i)),some (.al,pr x.1),some (.al,.int x.2),some (.al,.int (mi x.2)),?_⟩;have e:lsF mi x=none:=if_neg hpos;rw[qg,dg,e,List.filterMap_nil,d8]
 ·rintro ρ ⟨u5,u6,u7,rfl⟩
  exact q_rt (z0g (z8p (w:=(true,((a.zip ds).filterMap (lsF mi)).map pr)) (z01 rfl) rfl rfl (z05 _))) ⟨_,⟨zuv ha mi ds,zso ha mi ds⟩,rfl⟩
theorem zog {a b c:P}(ha:PK a)(hb:PK b)(hc:PK c)(h:wi a b=true)(k:wi b c=true):wi a c=true:=(z2h ha hc).mpr fun n=>Int.le_trans ((z2h ha hb).mp h n) ((z2h hb hc).mp k n)
theorem z7x {a:P}(ha:PK a):wi a a=true:=(z2h ha ha).mpr fun _=>oq _
structure RW (ws:List Str)(p:Bool×P×P×P):Prop where
 f:PW ws p.2.1
 a:PW ws p.2.2.1
 r:PW ws p.2.2.2
 w:wi p.2.2.2 (own p.1 p.2.1 p.2.2.1)=true
def mr (p:Bool×P×P×P):D:=rl p.1 p.2.1 p.2.2.1 p.2.2.2
theorem z1p (p:Bool×P×P×P):imm (mr p)=true:=zoy _ _ _ _
theorem zmq {Φ:List Fn}{ρ:Rho}{t:C}{w:Int}(h:Ev [] Φ t ρ (.int (w%2))):Vv [] Φ (.ix (.lst (.cons (.str "for") (.cons (.str "against") .nil))) t) ρ (.str (sd (decide (w%2=0)))):=by
 refine v_ix (Ev.of (z22 (z02 z20 (z02 z20 z0f)))) h ?_ rfl;rcases(show w%2=0\/w%2=1 by omega)with e|e
 ·rw[e];rfl
 ·rw[e];rfl
theorem zi9 {ws:List Str}(h:Sw ws)(ow th:List Int):wi (zp ws ((ow.zip th).map fun p=>min p.1 p.2)) (zp ws ow)=true:=by
 unfold wi;rw[j6,ij];intro p hp z;obtain⟨h1,h2⟩:=cz.mp hp;have h0:=wb h2;obtain⟨i,hi⟩:=List.getElem?_of_mem h1;obtain⟨a1,a2⟩:=iu.mp hi;rw[bx,dj]at a2;obtain⟨x,hx,ex⟩:=a2;obtain⟨b1,b2⟩:=iu.mp hx;have hle:p.2<=x.1:=by rw[<-ex];exact Int.min_le_left _ _
 have hm:(p.1,x.1)∈zp ws ow:=cz.mpr ⟨b8 (iu.mpr ⟨a1,b1⟩),we (Int.lt_of_lt_of_le h0 hle)⟩;have:=wb z;rw[(zq7 h).look_mem hm]at this;exact Int.not_le.mpr this hle
theorem zux {α:Type}(xs:List α):cut xs (some 0) none=xs:=by unfold cut;rw[z5i (oq 0)];simp only[Int.toNat_zero,Nat.zero_min,List.drop_zero,Nat.sub_zero];exact ll (am _)
theorem z6b (c:Int){ws:List Str}(gw:GW ws){b:Int}(b0:0<b)(b1:b<2 ^ 200):∃p,RW ws p/\zak [.int c,.list (ws.map .str),.int b]=.ok (.fr,mr p):=by
 have w6:=gw.len;obtain⟨ds,⟨d1,d2⟩,hd⟩:=z2l (c/2) (n:=3*(ws.length:Int)) (b:=b) (by omega) (by omega) b0 b1
 let ow:=cut ds (some (c%2*(ws.length:Int))) none
 let th:=cut ds (some (2*(ws.length:Int))) none
 have l1:ow.length<=ds.length:=z0z _ _ _;have l2:th.length<=ds.length:=z0z _ _ _;have l3:=z0z ds (some (ws.length:Int)) none;refine⟨(decide (c%2=0),zp ws ds,zp ws (cut ds (some (ws.length:Int)) none),zp ws ((ow.zip th).map fun p=>min p.1 p.2)),⟨z8n gw.sw _,z8n gw.sw _,z8n gw.sw _,?_⟩,z0k ?_⟩
 ·show wi (zp ws ((ow.zip th).map fun p=>min p.1 p.2)) (own (decide (c%2=0)) (zp ws ds) (zp ws (cut ds (some (ws.length:Int)) none)))=true;rcases(show c%2=0\/c%2=1 by omega)with e|e
  ·rw[we e];have eo:ow=ds:=by show cut ds (some (c%2*(ws.length:Int))) none=ds;rw[e,Int.zero_mul];exact zux ds
   rw[eo];exact zi9 gw.sw _ _
  ·rw[wf (by omega)];have eo:ow=cut ds (some (ws.length:Int)) none:=by show cut ds (some (c%2*(ws.length:Int))) none=_;rw[e,Int.one_mul]
   rw[eo];exact zi9 gw.sw _ _
 unfold zk9;refine z0d (z0e (d:=.int ws.length) (v_bi (z00 (z01 rfl) z03) (len_strs ws) rfl)) ?_;refine z0d (z18 (z2o (z00 (z0c (z01 rfl) z04.e (z26 (by decide) (by decide)) rfl).e (z00 (z0c z04.e (z01 rfl) (z4j (by decide)) rfl).e (z00 (z01 rfl) z03))) rfl hd) (z0m _)) ?_;have sL:∀{Φ:List Fn} {ρ:Rho} {i:Nat} {g:G} {xs:List Int} {t:C} {k:Int},ρ[i]?=some (some (g,.list (xs.map .int)))->Ev [] Φ t ρ (.int k)->Ev [] Φ (.sl (.var i) (.tv t) .nil) ρ (.list ((cut xs (some k) none).map .int)):=fun h k=>e_sl (z01 h) (z3v k) z7j (z2f _ _ _);obtain⟨g5,e5⟩:=sL (Φ:=[z3u,z1m]) (ρ:=[some (.od,.int c),some (.od,.list (ws.map .str)),some (.od,.int b),some (.al,.int ws.length),some (.fr,.list (ds.map .int)),none,none,none]) (i:=4) (t:=.bin .Mult (.bin .Mod (.var 0) (.int 2)) (.var 3)) (k:=c%2*(ws.length:Int)) rfl (z0c (z0c (z01 rfl) z04.e (z10 (by decide)) rfl).e (z01 rfl) (zjf ⟨by omega,by omega⟩) rfl).e
 obtain⟨g6,e6⟩:∃g6,evS [] [z3u,z1m] (.asg (.nm 5) (.sl (.var 4) (.tv (.bin .Mult (.bin .Mod (.var 0) (.int 2)) (.var 3))) .nil)) [some (.od,.int c),some (.od,.list (ws.map .str)),some (.od,.int b),some (.al,.int ws.length),some (.fr,.list (ds.map .int)),none,none,none]=.ok (.nx [some (.od,.int c),some (.od,.list (ws.map .str)),some (.od,.int b),some (.al,.int ws.length),some (.fr,.list (ds.map .int)),some (g6,.list (ow.map .int)),none,none]):=by
  have:∀g:G,∃g',z1x (g,.list (ow.map .int))=(g',.list (ow.map .int)):=fun g=>by
   cases g
   ·exact⟨_,show(if imms (ow.map .int)=true then G.fr else .al,PyData.list (ow.map .int))=(G.fr,_) by rw[z0m];rfl⟩
   ·exact⟨.od,rfl⟩
   ·exact⟨.al,rfl⟩
  obtain⟨g',hg'⟩:=this g5;refine⟨g',?_⟩;show(evE _ _ _ _>>=fun x=>Res.ok (Out.nx (List.set _ 5 (some (z1x x)))))=_;rw[e5,Res.ok_bind];show Res.ok (Out.nx (List.set _ 5 (some (z1x (g5,.list (ow.map .int))))))=_;rw[hg'];rfl
 refine z0d e6 ?_;have hz:=zg2 (Κ:=[]) (Φ:=[z3u,z1m]) (ρ:=[some (.od,.int c),some (.od,.list (ws.map .str)),some (.od,.int b),some (.al,.int ws.length),some (.fr,.list (ds.map .int)),some (g6,.list (ow.map .int)),none,none]) (z01 (i:=5) rfl) (sL (i:=4) (t:=.bin .Mult (.int 2) (.var 3)) (k:=2*(ws.length:Int)) rfl (z0c z04.e (z01 rfl) (z4j (by decide)) rfl).e) (z5f (z0m ow) (by rw[ah];exact b6 l1 (by omega))) (z5f (z0m th) (by rw[ah];exact b6 l2 (by omega)));rw[zfk]at hz;have hc:=z32 (nt:=1) (js:=[]) (N':=["_law_pair"]) (tg:=.nm 0) (cond:=.nil) (elt:=.bi "min" (.cons (.var 0) .nil)) (m:=fun p:Int×Int=>PyData.tuple [.int p.1,.int p.2]) (xs:=ow.zip th) (fun _=>true) (fun p=>.int (min p.1 p.2)) hz rfl (fun p=>[some (.al,.tuple [.int p.1,.int p.2])]) (fun p _=>rfl) (fun p _=>zdf) fun p _ _=>v_bi (z00 (z01 rfl) z03) rfl rfl;rw[jh.mpr (fun _ _=>rfl),show((ow.zip th).map fun p=>PyData.int (min p.1 p.2))=((ow.zip th).map fun p=>min p.1 p.2).map .int by rw[fg];rfl]at hc;refine z0d (z18 hc (z0m _)) ?_;refine z0d (z0e (d:=cs2 (zp ws ds) (zp ws (cut ds (some (ws.length:Int)) none))) (z0v (z02 (z07 (z00 (z01 rfl) (z00 (z01 rfl) z03)) rfl (z28 (by omega) (by omega)) (z05 _)) (z02 (z07 (z00 (z01 rfl) (z00 (sL rfl (z01 rfl)) z03)) rfl (z28 (by omega) (by omega)) (z05 _)) z0f)))) ?_;exact z0h (z0g (z0v (z02 (v_var rfl (z1w _ _)) (z02 (zmq (z0c (z01 rfl) z04.e (z10 (by decide)) rfl).e) (z02 (z07 (z00 (z01 rfl) (z00 (z01 rfl) z03)) rfl (z28 (by omega) (by rw[ah,qb];omega)) (z05 _)) z0f)))))
theorem z8k (c:Int){ws:List Str}{rs:List Int}(gw:GW ws)(rg:RG rs):∃p,RW ws p/\zft [.int c,.list (ws.map .str),.list (rs.map .int)]=.ok (.fr,mr p):=by
 suffices h:∃p,RW ws p/\evS [] [z65,z1n,z7h,zak] zfo [some (.od,.int c),some (.od,.list (ws.map .str)),some (.od,.list (rs.map .int)),none,none,none]=.ok (.rt .fr (mr p)) by obtain⟨ns,h1,h2⟩:=h;exact⟨ns,h1,z0k h2⟩
 let Q:Res Out->Prop:=fun z=>∃p,RW ws p/\z=.ok (.rt .fr (mr p))
 show Q _;unfold zfo;rcases rg.cs with h4|⟨t,rfl,t0,t1⟩
 ·refine z2d (z27 rfl) (RG.not1 h4) ?_;obtain⟨f,a,⟨pf,pa⟩,ec⟩:=z4n c gw rg;obtain⟨w,_,ew⟩:=z2m c (k:=3) (by decide) (by decide);obtain⟨v,_,ev⟩:=z2m c (k:=4) (by decide) (by decide);refine q_ok (z0e (d:=cs2 f a) (z07 (z00 (z01 rfl) (z00 (z01 rfl) (z00 (z01 rfl) z03))) rfl ec (z1w _ _))) ?_;refine q_ok (z0e (d:=.int w) (z07 (z00 (z01 rfl) (z00 z04.e z03)) rfl ew rfl)) ?_
  let b:=decide (w%2=0)
  have po:PW ws (own b f a):=by cases hb:b<;>assumption
  have eo:ixD (cs2 f a) (.int (w%2))=.ok (pk (own b f a)):=by
   rcases(show w%2=0\/w%2=1 by omega)with e|e
   ·have :b=true:=we e;rw[e,this];rfl
   ·have :b=false:=wf (by omega);rw[e,this];rfl
  refine q_ok (z0e (d:=pk (own b f a)) (v_ix (z01 rfl) (z0c (z01 rfl) z04.e (z10 (by decide)) rfl).e eo (z05 _))) ?_;obtain⟨r0,pr0,er0⟩:=z7t po gw v rg
  obtain⟨r,pr1,e5⟩:∃r,(PW ws r/\wi r (own b f a)=true)/\evS [] [z65,z1n,z7h,zak] (.ifS (.tv (.cmp .Gt (.bin .Mod (.bin .FloorDiv (.var 4) (.int 2)) (.int 4)) (.int 0))) (.seq (.asg (.nm 5) (.call 0 "_law_less" (.cons (.var 5) (.cons (.call 1 "_law_mix" (.cons (.var 0) (.cons (.int 4) .nil))) (.cons (.var 2) .nil))))) .nil) .nil) [some (.od,.int c),some (.od,.list (ws.map .str)),some (.od,.list (rs.map .int)),some (.al,cs2 f a),some (.al,.int w),some (.al,pk (own b f a))]=.ok (.nx [some (.od,.int c),some (.od,.list (ws.map .str)),some (.od,.list (rs.map .int)),some (.al,cs2 f a),some (.al,.int w),some (.al,pk r)]):=by
   have ht:Tt [] [z65,z1n,z7h,zak] (.tv (.cmp .Gt (.bin .Mod (.bin .FloorDiv (.var 4) (.int 2)) (.int 4)) (.int 0))) [some (.od,.int c),some (.od,.list (ws.map .str)),some (.od,.list (rs.map .int)),some (.al,cs2 f a),some (.al,.int w),some (.al,pk (own b f a))] (decide (0<w/2%4)):=t_tv (z0p (z0c (z0c (z01 rfl) z04.e (z26 (by decide) (by decide)) rfl).e z04.e (z10 (by decide)) rfl).e z04.e rfl).e rfl;by_cases hh:0<w/2%4
   ·exact⟨r0,pr0,z0l ht (fun _=>z0d (z0e (d:=pk r0) (z07 (z00 (z01 rfl) (z00 (z07 (z00 (z01 rfl) (z00 z04.e z03)) rfl ev rfl).e (z00 (z01 rfl) z03))) rfl er0 (z05 _))) z0i) fun z=>absurd hh (wc z)⟩
   ·exact⟨own b f a,⟨po,z7x po.pk⟩,z0l ht (fun z=>absurd (wb z) hh) fun _=>z0i⟩
  refine q_ok e5 ?_;exact q_rt (z0g (z0v (z02 (v_var rfl (z1w _ _)) (z02 (zmq (z0c (z01 rfl) z04.e (z10 (by decide)) rfl).e) (z02 (v_var rfl (z05 _)) z0f))))) ⟨(b,f,a,r),⟨pf,pa,pr1.1,pr1.2⟩,rfl⟩
 ·obtain⟨p,hp,ep⟩:=z6b c gw (b:=t+1) (by omega) (by omega);exact q_rt (g:=.fr) (z0l (z27 rfl) (fun _=>z0h (z0g (z07 (z00 (z01 rfl) (z00 (z01 rfl) (z00 (z9u rfl).e z03))) rfl ep (z1p p)))) fun z=>by cases z) ⟨p,hp,rfl⟩
theorem z6l {ρ:Rho}{g:G}{i j:Nat}(p:Str×Int):z19 (.tp [i,j]) (gJ (pr p) g,pr p) ρ=.ok ((ρ.set i (some (.al,.str p.1))).set j (some (.al,.int p.2))):=z44 rfl rfl
theorem z9r {l:P}(h:PK l)(w:Str):zax [pk l,.str w]=.ok (.fr,.int (look l w)):=by
 unfold zax;refine z0k ?_
 let Q:Res Out->Prop:=fun z=>z=.ok (.rt .fr (.int (look l w)))
 show Q _;unfold zlg;refine zcq (m:=pr) (xs:=l) (zc1 (g:=.od) rfl (by decide) (z05 l) rfl) (fun pre ρ=>(∀p∈pre,p.1≠w)/\∃u2 u3,ρ=[some (.od,pk l),some (.od,.str w),u2,u3]) ⟨(fun _ h=>by cases h),none,none,rfl⟩ ?_ ?_
 ·rintro pre p post ρ hx ⟨hn,u2,u3,rfl⟩
  refine⟨_,z6l p,?_⟩;have ht:Tt [] [] (.tv (.cmp .Eq (.var 2) (.var 1))) [some (.od,pk l),some (.od,.str w),some (.al,.str p.1),some (.al,.int p.2)] (decide (p.1=w)):=t_tv (z0p (k:=decide (p.1=w)) (z01 rfl) (z01 rfl) (by show Res.ok (eqD (.str _) (.str _))=_;rw[z3h])).e rfl;by_cases hw:p.1=w
  ·refine .inr ⟨.fr,.int p.2,z0h (z0l ht (fun _=>z0h (z0g (v_var rfl rfl))) fun z=>absurd hw (wc z)),?_⟩;show _=_;rw[<-hw,h.look_mem (by rw[hx];exact ax _ ak)]
  ·refine .inl ⟨_,z0d (z0l ht (fun z=>absurd (wb z) hw) fun _=>z0i) z0i,fun q hq=>?_,_,_,rfl⟩;rcases du.mp hq with z|z
   ·exact hn q z
   ·rw[br.mp z];exact hw
 ·rintro ρ ⟨hn,u2,u3,rfl⟩
  have e:look l w=0:=by unfold look;rw[z0x];rfl;intro hk;obtain⟨p,hp,e⟩:=bo.mp hk;exact hn p hp e
  show evS _ _ _ _=_;rw[e];exact z0h (z0g z04)
theorem z9i {a b:P}(hb:PK b):z90 [pk a,pk b]=.ok (.fr,.bool (wi a b)):=by
 unfold z90;refine z0k ?_
 let Q:Res Out->Prop:=fun z=>z=.ok (.rt .fr (.bool (wi a b)))
 show Q _;unfold zj8;refine zcq (m:=pr) (xs:=a) (zc1 (g:=.od) rfl (by decide) (z05 a) rfl) (fun pre ρ=>(∀p∈pre,¬look b p.1<p.2)/\∃u2 u3,ρ=[some (.od,pk a),some (.od,pk b),u2,u3]) ⟨(fun _ h=>by cases h),none,none,rfl⟩ ?_ ?_
 ·rintro pre p post ρ hx ⟨hn,u2,u3,rfl⟩
  refine⟨_,z6l p,?_⟩;have ht:Tt [] [zax] (.tv (.cmp .Gt (.var 3) (.call 0 "_law_amount" (.cons (.var 1) (.cons (.var 2) .nil))))) [some (.od,pk a),some (.od,pk b),some (.al,.str p.1),some (.al,.int p.2)] (decide (look b p.1<p.2)):=t_tv (z0p (z01 rfl) (z07 (z00 (z01 rfl) (z00 (z01 rfl) z03)) rfl (z9r hb p.1) rfl).e rfl).e rfl;by_cases hw:look b p.1<p.2
  ·refine .inr ⟨.fr,.bool false,z0h (z0l ht (fun _=>z0h (z0g v_bl)) fun z=>absurd hw (wc z)),?_⟩;show _=_;have:wi a b=false:=by unfold wi;rw[List.isEmpty_eq_false_iff];exact List.ne_nil_of_mem (a:=p) (cz.mpr ⟨by rw[hx];exact ax _ ak,we hw⟩)
   rw[this]
  ·refine .inl ⟨_,z0d (z0l ht (fun z=>absurd (wb z) hw) fun _=>z0i) z0i,fun q hq=>?_,_,_,rfl⟩;rcases du.mp hq with z|z
   ·exact hn q z
   ·rw[br.mp z];exact hw
 ·rintro ρ ⟨hn,u2,u3,rfl⟩
  have e:wi a b=true:=by unfold wi;rw[j6,ij];intro p hp z;exact hn p hp (wb z)
  show evS _ _ _ _=_;rw[e];exact z0h (z0g v_bl)
theorem zb1 (b:Bool):z3q [.str (sd b)]=.ok (.fr,.int (if b then 0 else 1)):=by cases b<;>rfl
def agp (p q:Bool×P×P×P):Bool:=ag p.1 p.2.1 p.2.2.1 p.2.2.2 q.1 q.2.1 q.2.2.1 q.2.2.2
structure GR (p:Bool×P×P×P):Prop where
 f:PK p.2.1
 a:PK p.2.2.1
 r:PK p.2.2.2
theorem RW.gr {ws:List Str}{p:Bool×P×P×P}(h:RW ws p):GR p:=⟨h.f.pk,h.a.pk,h.r.pk⟩
theorem mr_1 {Φ:List Fn}{ρ:Rho}{i:Nat}{g:G}{p:Bool×P×P×P}(h:ρ[i]?=some (some (g,mr p))):Vv [] Φ (.ix (.var i) (.int 1)) ρ (.str (sd p.1)):=v_ix (z01 h) z04.e rfl rfl
theorem mr_2 {Φ:List Fn}{ρ:Rho}{i:Nat}{g:G}{p:Bool×P×P×P}(h:ρ[i]?=some (some (g,mr p))):Vv [] Φ (.ix (.var i) (.int 2)) ρ (pk p.2.2.2):=v_ix (z01 h) z04.e rfl (z05 _)
theorem mr_0 {Φ:List Fn}{ρ:Rho}{i:Nat}{g:G}{p:Bool×P×P×P}(h:ρ[i]?=some (some (g,mr p))):Vv [] Φ (.ix (.var i) (.int 0)) ρ (cs2 p.2.1 p.2.2.1):=v_ix (z01 h) z04.e rfl (z1w _ _)
theorem zl2 (b:Bool)(f a:P):ixD (cs2 f a) (.int (if b then 0 else 1))=.ok (pk (own b f a)):=by cases b<;>rfl
theorem zjq {p q:Bool×P×P×P}(hp:GR p)(hq:GR q):zex [mr p,mr q]=.ok (.fr,.bool (agp p q)):=by
 unfold zex;refine z0k ?_;unfold zja;have ht:Tt [] [z90,z3q] (.tv (.cmp .Eq (.ix (.var 0) (.int 1)) (.ix (.var 1) (.int 1)))) [some (.od,mr p),some (.od,mr q)] (p.1==q.1):=t_tv (z0p (k:=p.1==q.1) (mr_1 rfl).e (mr_1 rfl).e (by show Res.ok (sd p.1==sd q.1)=_;rw[zvl])).e rfl;cases hb:p.1==q.1 with
 |true=>
  have e:agp p q=false:=by unfold agp ag;rw[hb];rfl
  rw[e];exact z8f ht hb (z0h (z0g v_bl))
 |false=>
  refine z2i ht hb ?_;have e:agp p q=(wi p.2.2.2 (own p.1 q.2.1 q.2.2.1)&&wi q.2.2.2 (own q.1 p.2.1 p.2.2.1)):=by unfold agp ag;rw[hb];rfl
  rw[e];exact z0h (z0g (v_and (z07 (z00 (mr_2 rfl).e (z00 (v_ix (mr_0 rfl).e (z07 (z00 (mr_1 rfl).e z03) rfl (zb1 p.1) rfl).e (zl2 p.1 _ _) (z05 _)).e z03)) rfl (z9i (z0u hq.f hq.a)) rfl).e fun _=>z07 (z00 (mr_2 rfl).e (z00 (v_ix (mr_0 rfl).e (z07 (z00 (mr_1 rfl).e z03) rfl (zb1 q.1) rfl).e (zl2 q.1 _ _) (z05 _)).e z03)) rfl (z9i (z0u hp.f hp.a)) rfl))
theorem zhl {α:Type}(xs:List α):xs.zipIdx.map (fun x=>PyData.int x.2)=(cj xs.length).map fun(i:Nat)=>.int i:=by rw[show(fun x:α×Nat=>PyData.int x.2)=(fun(i:Nat)=>PyData.int i)∘v6 from rfl,<-fg,List.zipIdx_map_snd,qt]
theorem z6g (ps:List (Bool×P×P×P)):imms (ps.map mr)=true:=z81 z1p ps
theorem zue {Κ:List D}{Φ:List Fn}{ρ:Rho}{i:Nat}{ps:List (Bool×P×P×P)}(h:ρ[i]?=some (some (.od,.list (ps.map mr))))(hl:ps.length<=100):evF Κ Φ (.enum (.var i)) ρ=.ok (.al,ps.zipIdx.map fun x=>.tuple [.int x.2,mr x.1],ρ):=by
 have e:evE Κ Φ (.var i) ρ=.ok (.od,.list (ps.map mr)):=by rw[zb5];rw[h];rfl
 rw[zvn e rfl (z5f (z6g ps) (by rw[ah];omega)),zis]
theorem zef (ps:List (Bool×P×P×P)):biD "len" [.list (ps.map mr)]=.ok (.int (ps.length:Int)):=by show Res.ok (PyData.int ((ps.map mr).length:Int))=_;rw[ah]
theorem zrx {Φ:List Fn}{ρ:Rho}{i:Nat}{ps:List (Bool×P×P×P)}{g:G}(h:ρ[i]?=some (some (g,.list (ps.map mr))))(hl:ps.length<=100):evF [] Φ (.rng (.cons (.bi "len" (.cons (.var i) .nil)) .nil)) ρ=.ok (.fr,ps.zipIdx.map fun x=>.int x.2,ρ):=by rw[zhl];exact zc3 (z00 (v_bi (z00 (z01 h) z03) (zef ps) rfl).e z03) (zbj (n:=(ps.length:Int)) (by omega) (by omega))
theorem ix_B {ps:List (Bool×P×P×P)}{x:(Bool×P×P×P)×Nat}(h:ps[x.2]?=some x.1):ixD (.list (ps.map mr)) (.int x.2)=.ok (mr x.1):=by have hlt:x.2<ps.length:=(bg.mp h).1;rw[ix_m mr x.1 (by omega) (by omega)];rw[a9,show(x.2:Int).toNat=x.2 from rfl,h];rfl
theorem zqx {Κ:List D}{Φ:List Fn}{ρ:Rho}{t:C}{is:List Nat}{ds:List D}{g:G}(h:evE Κ Φ t ρ=.ok (g,.tuple ds)){ρ':Rho}(hs:z30 ρ is ds g=some ρ'):evS Κ Φ (.asg (.tp is) t) ρ=.ok (.nx ρ'):=by show(evE Κ Φ t ρ>>=fun x=>z19 (.tp is) x ρ>>=fun ρ'=>Res.ok (Out.nx ρ'))=_;rw[h,Res.ok_bind];show(Res.ofO (z30 ρ is ds g)>>=fun ρ'=>Res.ok (Out.nx ρ'))=_;rw[hs];rfl
def bgR (xs:List Int)(w:Int)(ws:List Str)(rs cs re:List Int)(tl:Rho):Rho:=some (.od,.list (xs.map .int))::some (.al,.int w)::some (.al,.list (ws.map .str))::some (.al,.list (rs.map .int))::some (.al,.list (cs.map .int))::some (.al,.list (re.map .int))::tl
theorem zmm {xs:List Int}(hl:xs.length<=63){m o k:Nat}(hm:m<=60)(o0:0<o)(o1:o<=6){Φ:List Fn}(hk:Φ[k]?=some zau)(tl:Rho):∃w ws rs cs re,BG xs m w ws rs cs re/\evS [] Φ (.asg (.tp [1,2,3,4,5]) (.call k "_law_begun" (.cons (.var 0) (.cons (.int m) (.cons (.int o) .nil))))) (some (.od,.list (xs.map .int))::none::none::none::none::none::tl)=.ok (.nx (bgR xs w ws rs cs re tl)):=by
 obtain⟨w,ws,rs,cs,re,hb,g,eb,g0⟩:=zjv hl hm o0 o1;refine⟨w,ws,rs,cs,re,hb,?_⟩
 have hgg:∃g',g'≠.od/\evE [] Φ (.call k "_law_begun" (.cons (.var 0) (.cons (.int m) (.cons (.int o) .nil)))) (some (.od,.list (xs.map .int))::none::none::none::none::none::tl)=.ok (g',bgD w ws rs cs re):=by
  refine⟨gJ (bgD w ws rs cs re) (rtG g),?_,?_⟩
  ·show(if imm (bgD w ws rs cs re)=true then G.fr else rtG g)≠ .od;cases g<;>first|(exact(g0 rfl).elim)|(cases imm (bgD w ws rs cs re)<;>decide)
  ·obtain⟨ys,ha,hy⟩:=(z00 (Κ:=[]) (Φ:=Φ) (ρ:=some (.od,.list (xs.map .int))::none::none::none::none::none::tl) (z01 (i:=0) rfl) (z00 (z04 (i:=m)).e (z00 (z04 (i:=o)).e z03)));rw[z98,ha,Res.ok_bind,hk];show(zau (ys.map (·.2))>>=_)=_;rw[hy,eb];rfl
 obtain⟨g',g1,eg⟩:=hgg;have sl:∀d,z2u (gJ d g',d)=(.al,d):=fun d=>by unfold gJ;cases g'<;>first|(exact(g1 rfl).elim)|(cases hd:imm d<;>rfl)
 refine zqx eg ?_;show some ((((((some (.od,.list (xs.map .int))::none::none::none::none::none::tl:Rho).set 1 (some (z2u (gJ (.int w) g',.int w)))).set 2 (some (z2u (gJ (.list (ws.map .str)) g',.list (ws.map .str))))).set 3 (some (z2u (gJ (.list (rs.map .int)) g',.list (rs.map .int))))).set 4 (some (z2u (gJ (.list (cs.map .int)) g',.list (cs.map .int))))).set 5 (some (z2u (gJ (.list (re.map .int)) g',.list (re.map .int)))))=_;rw[sl,sl,sl,sl,sl];rfl
theorem zro (p:Bool×P×P×P):eqD (mr p) (mr p)=true:=by
 have h1:=z9w p.2.1;have h2:=z9w p.2.2.1;have h3:=z9w p.2.2.2;have h4:eqD (cs2 p.2.1 p.2.2.1) (cs2 p.2.1 p.2.2.1)=true:=by show(eqD (pk p.2.1) (pk p.2.1)&&(eqD (pk p.2.2.1) (pk p.2.2.1)&&true))=true;rw[h1,h2];rfl
 have h5:eqD (.str (sd p.1)) (.str (sd p.1))=true:=by rw[z3h];exact we rfl
 show(eqD (cs2 p.2.1 p.2.2.1) (cs2 p.2.1 p.2.2.1)&&(eqD (.str (sd p.1)) (.str (sd p.1))&&(eqD (pk p.2.2.2) (pk p.2.2.2)&&true)))=true;rw[h3,h4,h5];rfl
theorem zen:∀ps:List (Bool×P×P×P),PyData.eqvAll (ps.map mr) (ps.map mr)=true
 | []=>rfl
 |p::ps=>by show(eqD (mr p) (mr p)&&PyData.eqvAll (ps.map mr) (ps.map mr))=true;rw[zro,zen ps];rfl
theorem z43 (l:List (Bool×P×P×P)):z15 39 (l.map mr)=true:=z1i.mpr fun z hz=>by
 obtain⟨p,_,rfl⟩:=bo.mp hz;show z15 38 [cs2 p.2.1 p.2.2.1,.str (sd p.1),pk p.2.2.2]=true;refine z1i.mpr fun w hw=>?_;simp only[au,cw,or_false]at hw;rcases hw with rfl|rfl|rfl
 ·show z15 37 [pk p.2.1,pk p.2.2.1]=true;refine z1i.mpr fun w hw=>?_;simp only[au,cw,or_false]at hw;rcases hw with rfl|rfl<;>exact z5n 35 _
 ·rfl
 ·exact z5n 36 _
theorem eq_B (ps:List (Bool×P×P×P)):cmpD .Eq (.list (ps.map mr)) (.list (ps.map mr))=.ok true:=by show(if(z15 39 (ps.map mr)&&z15 39 (ps.map mr))=true then Res.ok (PyData.eqvAll (ps.map mr) (ps.map mr))else .no)=_;rw[z43,zen];rfl
theorem z5w (i:Int):z8c [.int i]=.ok (.fr,.bool true):=rfl
def bip (p:Bool×P×P×P)(f a:P):Bool:=bi p.1 p.2.1 p.2.2.1 p.2.2.2 f a
theorem zab (b:Bool):binD .Sub (.int 1) (.int (if b then 0 else 1))=.ok (.int (if !b then 0 else 1)):=by cases b<;>rfl
theorem zag {Φ:List Fn}{ρ:Rho}{t u:C}{b:Bool}{f a:P}(h:Ev [] Φ t ρ (cs2 f a))(h2:Ev [] Φ u ρ (.int (if b then 0 else 1))):Vv [] Φ (.ix t u) ρ (pk (own b f a)):=v_ix h h2 (zl2 b f a) (z05 _)
theorem zar {p:Bool×P×P×P}(hp:GR p){f a:P}(hf:PK f)(ha:PK a):zcs [mr p,cs2 f a]=.ok (.fr,.bool (bip p f a)):=by
 unfold zcs;refine z0k ?_;unfold zkg;refine z0d (z0e (z07 (z00 (mr_1 rfl).e z03) rfl (zb1 p.1) rfl)) ?_;have e:bip p f a=(wi p.2.2.2 (own p.1 f a)&&wi (own (!p.1) f a) (own (!p.1) p.2.1 p.2.2.1)):=by unfold bip bi;rw[z3g,z3g]
 rw[e];exact z0h (z0g (v_and (z07 (z00 (mr_2 rfl).e (z00 (zag (z01 rfl) (z01 rfl)).e z03)) rfl (z9i (z0u hf ha)) rfl).e fun _=>z07 (z00 (zag (b:=!p.1) (z01 rfl) (z0c z04.e (z01 rfl) (zab p.1) rfl).e).e (z00 (zag (b:=!p.1) (mr_0 rfl).e (z0c z04.e (z01 rfl) (zab p.1) rfl).e).e z03)) rfl (z9i (z0u hp.f hp.a)) rfl))
theorem zmo (ps:List (Bool×P×P×P)):cmpD .Eq (.list (ps.map mr)) (.list [])=.ok ps.isEmpty:=by rw[eq_nil _ (z43 ps),List.isEmpty_map]
theorem zi4 {Φ:List Fn}{ρ:Rho}{i:Nat}{g:G}{ps:List (Bool×P×P×P)}(h:ρ[i]?=some (some (g,.list (ps.map mr)))):Tt [] Φ (.tv (.cmp .Eq (.var i) (.lst .nil))) ρ ps.isEmpty:=t_tv (z0p (z01 h) (Ev.of (z22 z0f)) (zmo ps)).e rfl
theorem zv8 {Φ:List Fn}{ρ:Rho}{i:Nat}{tn:List Int}{g:G}(h:ρ[i]?=some (some (g,.list (tn.map .int))))(hl:tn.length<=100):evF [] Φ (.rng (.cons (.bi "len" (.cons (.var i) .nil)) .nil)) ρ=.ok (.fr,tn.zipIdx.map fun x=>.int x.2,ρ):=by rw[zhl];exact zc3 (z00 (v_bi (z00 (z01 h) z03) (z42 tn) rfl).e z03) (zbj (n:=(tn.length:Int)) (by omega) (by omega))
theorem ix_I {tn:List Int}{x:Int×Nat}(h:tn[x.2]?=some x.1):ixD (.list (tn.map .int)) (.int x.2)=.ok (.int x.1):=by have hlt:x.2<tn.length:=(bg.mp h).1;rw[ix_m PyData.int x.1 (by omega) (by omega),a9,show(x.2:Int).toNat=x.2 from rfl,h];rfl
theorem zle (ps:List (Bool×P×P×P)):cmpD .NotEq (.list (ps.map mr)) (.list [])=.ok (!ps.isEmpty):=by show(if(z15 39 (ps.map mr)&&z15 39 [])=true then Res.ok (!(PyData.eqvAll (ps.map mr) []))else .no)=_;rw[z43];cases ps<;>rfl
theorem zpe {ws:List Str}{rs:List Int}(gw:GW ws)(rg:RG rs)(c:Int):∀{p:Bool×P×P×P},RW ws p->∃q,RW ws q/\zf4 [mr p,.int c,.list (ws.map .str),.list (rs.map .int)]=.ok (.fr,mr q):=by
 rintro⟨b,f,a,r⟩ hp
 suffices h:∃q,RW ws q/\evS [] [z65,z1n,z5x,z3q] zh6 [some (.od,mr (b,f,a,r)),some (.od,.int c),some (.od,.list (ws.map .str)),some (.od,.list (rs.map .int)),none,none,none,none]=.ok (.rt .fr (mr q)) by obtain⟨q,h1,h2⟩:=h;exact⟨q,h1,z0k h2⟩
 let Q:Res Out->Prop:=fun z=>∃q,RW ws q/\z=.ok (.rt .fr (mr q))
 show Q _;unfold zh6;have hf:PW ws f:=hp.f;have ha:PW ws a:=hp.a;have hr:PW ws r:=hp.r;obtain⟨w,_,ew⟩:=z2m c (k:=11) (by decide) (by decide);obtain⟨w2,_,ew2⟩:=z2m c (k:=12) (by decide) (by decide);obtain⟨w3,_,ew3⟩:=z2m c (k:=13) (by decide) (by decide);obtain⟨z,hz,ez⟩:=z2y w2 gw rg;obtain⟨zr,hzr,ezr⟩:=z7t hz gw w3 rg;obtain⟨fl,hfl,efl⟩:=z7t hf gw w2 rg;obtain⟨al,hal,eal⟩:=z7t ha gw w2 rg;obtain⟨r2,hr2,er2⟩:=z7t hr gw w2 rg;refine q_ok (z0e (d:=.int (w%6)) (z0c (z07 (z00 (z01 rfl) (z00 z04.e z03)) rfl ew rfl).e z04.e (z10 (by decide)) rfl)) ?_;refine q_ok (z0e (z07 (z00 (mr_1 rfl).e z03) rfl (zb1 b) rfl)) ?_;refine q_ok (z18 (xs:=[pk f,pk a]) (z22 (z02 (v_ix (d:=pk f) (mr_0 rfl).e z04.e rfl (z05 f)) (z02 (v_ix (d:=pk a) (mr_0 rfl).e z04.e rfl (z05 a)) z0f))) (z81 z05 [f,a])) ?_;generalize w%6=k;have m2:∀{ρ:Rho},ρ[1]?=some (some (.od,.int c))->Ev [] [z65,z1n,z5x,z3q] (.call 1 "_law_mix" (.cons (.var 1) (.cons (.int 12) .nil))) ρ (.int w2):=fun h=>(z07 (z00 (z01 h) (z00 z04.e z03)) rfl ew2 rfl).e;by_cases h0:k=0
 ·exact q_rt (g:=.fr) (z0l (z1o (z01 rfl)) (fun _=>z0h (z0g (v_var rfl (z1p _)))) fun z=>absurd h0 (wc z)) ⟨_,hp,rfl⟩
 refine z2d (z1o (z01 rfl)) (wf h0) ?_;cases b with
 |true=>
  by_cases h1:k=1
  ·exact q_rt (g:=.fr) (z0l (z1o (z01 rfl)) (fun _=>z0d (z3s (j:=0) (n:=0) (z07 (z00 (m2 rfl) (z00 (z01 rfl) (z00 (z01 rfl) z03))) rfl ez (z05 z)) (z01 rfl) rfl rfl) (z0d (z0e (z07 (z00 (v_ix (d:=pk z) (z01 rfl) (z01 rfl) rfl (z05 z)).e (z00 (z07 (z00 (z01 rfl) (z00 z04.e z03)) rfl ew3 rfl).e (z00 (z01 rfl) z03))) rfl ezr (z05 zr))) (z0h (z0g (z0v (z02 (z0v (z02 (v_ix (d:=pk z) (z01 rfl) z04.e rfl (z05 z)) (z02 (v_ix (d:=pk a) (z01 rfl) z04.e rfl (z05 a)) z0f))) (z02 (mr_1 (p:=(true,f,a,r)) rfl) (z02 (v_var rfl (z05 zr)) z0f)))))))) fun z=>absurd h1 (wc z)) ⟨(true,z,a,zr),⟨hz,ha,hzr.1,hzr.2⟩,rfl⟩
  refine z2d (z1o (z01 rfl)) (wf h1) ?_;by_cases h2:k=2
  ·exact q_rt (g:=.fr) (z0l (z1o (z01 rfl)) (fun _=>z0d (z3s (j:=1) (n:=1) (z07 (z00 (v_ix (d:=pk a) (z01 rfl) (z0c (d:=.int 1) z04.e (z01 rfl) rfl rfl).e rfl (z05 a)).e (z00 (m2 rfl) (z00 (z01 rfl) z03))) rfl eal (z05 al)) (z0c (d:=.int 1) z04.e (z01 rfl) rfl rfl).e rfl rfl) (z0h (z0g (z0v (z02 (z0v (z02 (v_ix (d:=pk f) (z01 rfl) z04.e rfl (z05 f)) (z02 (v_ix (d:=pk al) (z01 rfl) z04.e rfl (z05 al)) z0f))) (z02 (mr_1 (p:=(true,f,a,r)) rfl) (z02 (mr_2 (p:=(true,f,a,r)) rfl) z0f))))))) fun z=>absurd h2 (wc z)) ⟨(true,f,al,r),⟨hf,hal.1,hr,hp.w⟩,rfl⟩
  refine z2d (z1o (z01 rfl)) (wf h2) ?_;by_cases h3:k=3
  ·exact q_rt (g:=.fr) (z0l (z1o (z01 rfl)) (fun _=>z0h (z0g (z0v (z02 (mr_0 (p:=(true,f,a,r)) rfl) (z02 (mr_1 (p:=(true,f,a,r)) rfl) (z02 (z07 (z00 (mr_2 (p:=(true,f,a,r)) rfl).e (z00 (m2 rfl) (z00 (z01 rfl) z03))) rfl er2 (z05 r2)) z0f)))))) fun z=>absurd h3 (wc z)) ⟨(true,f,a,r2),⟨hf,ha,hr2.1,zog hr2.1.pk hr.pk (z0u hf.pk ha.pk) hr2.2 hp.w⟩,rfl⟩
  refine z2d (z1o (z01 rfl)) (wf h3) ?_;by_cases h4:k=4
  ·exact q_rt (g:=.fr) (z0l (z1o (z01 rfl)) (fun _=>z0h (z0g (z0v (z02 (mr_0 (p:=(true,f,a,r)) rfl) (z02 (mr_1 (p:=(true,f,a,r)) rfl) (z02 (v_ix (d:=pk f) (z01 rfl) (z01 rfl) rfl (z05 f)) z0f)))))) fun z=>absurd h4 (wc z)) ⟨(true,f,a,f),⟨hf,ha,hf,z7x hf.pk⟩,rfl⟩
  refine z2d (z1o (z01 rfl)) (wf h4) ?_;refine q_ok (z3s (j:=0) (n:=0) (mr_2 (p:=(true,f,a,r)) rfl) (z01 rfl) rfl rfl) ?_;exact q_rt (g:=.fr) (z0g (z0v (z02 (z0v (z02 (v_ix (d:=pk r) (z01 rfl) z04.e rfl (z05 r)) (z02 (v_ix (d:=pk a) (z01 rfl) z04.e rfl (z05 a)) z0f))) (z02 (mr_1 (p:=(true,f,a,r)) rfl) (z02 (mr_2 (p:=(true,f,a,r)) rfl) z0f))))) ⟨(true,r,a,r),⟨hr,ha,hr,z7x hr.pk⟩,rfl⟩
 |false=>
  by_cases h1:k=1
  ·exact q_rt (g:=.fr) (z0l (z1o (z01 rfl)) (fun _=>z0d (z3s (j:=1) (n:=1) (z07 (z00 (m2 rfl) (z00 (z01 rfl) (z00 (z01 rfl) z03))) rfl ez (z05 z)) (z01 rfl) rfl rfl) (z0d (z0e (z07 (z00 (v_ix (d:=pk z) (z01 rfl) (z01 rfl) rfl (z05 z)).e (z00 (z07 (z00 (z01 rfl) (z00 z04.e z03)) rfl ew3 rfl).e (z00 (z01 rfl) z03))) rfl ezr (z05 zr))) (z0h (z0g (z0v (z02 (z0v (z02 (v_ix (d:=pk f) (z01 rfl) z04.e rfl (z05 f)) (z02 (v_ix (d:=pk z) (z01 rfl) z04.e rfl (z05 z)) z0f))) (z02 (mr_1 (p:=(false,f,a,r)) rfl) (z02 (v_var rfl (z05 zr)) z0f)))))))) fun z=>absurd h1 (wc z)) ⟨(false,f,z,zr),⟨hf,hz,hzr.1,hzr.2⟩,rfl⟩
  refine z2d (z1o (z01 rfl)) (wf h1) ?_;by_cases h2:k=2
  ·exact q_rt (g:=.fr) (z0l (z1o (z01 rfl)) (fun _=>z0d (z3s (j:=0) (n:=0) (z07 (z00 (v_ix (d:=pk f) (z01 rfl) (z0c (d:=.int 0) z04.e (z01 rfl) rfl rfl).e rfl (z05 f)).e (z00 (m2 rfl) (z00 (z01 rfl) z03))) rfl efl (z05 fl)) (z0c (d:=.int 0) z04.e (z01 rfl) rfl rfl).e rfl rfl) (z0h (z0g (z0v (z02 (z0v (z02 (v_ix (d:=pk fl) (z01 rfl) z04.e rfl (z05 fl)) (z02 (v_ix (d:=pk a) (z01 rfl) z04.e rfl (z05 a)) z0f))) (z02 (mr_1 (p:=(false,f,a,r)) rfl) (z02 (mr_2 (p:=(false,f,a,r)) rfl) z0f))))))) fun z=>absurd h2 (wc z)) ⟨(false,fl,a,r),⟨hfl.1,ha,hr,hp.w⟩,rfl⟩
  refine z2d (z1o (z01 rfl)) (wf h2) ?_;by_cases h3:k=3
  ·exact q_rt (g:=.fr) (z0l (z1o (z01 rfl)) (fun _=>z0h (z0g (z0v (z02 (mr_0 (p:=(false,f,a,r)) rfl) (z02 (mr_1 (p:=(false,f,a,r)) rfl) (z02 (z07 (z00 (mr_2 (p:=(false,f,a,r)) rfl).e (z00 (m2 rfl) (z00 (z01 rfl) z03))) rfl er2 (z05 r2)) z0f)))))) fun z=>absurd h3 (wc z)) ⟨(false,f,a,r2),⟨hf,ha,hr2.1,zog hr2.1.pk hr.pk (z0u hf.pk ha.pk) hr2.2 hp.w⟩,rfl⟩
  refine z2d (z1o (z01 rfl)) (wf h3) ?_;by_cases h4:k=4
  ·exact q_rt (g:=.fr) (z0l (z1o (z01 rfl)) (fun _=>z0h (z0g (z0v (z02 (mr_0 (p:=(false,f,a,r)) rfl) (z02 (mr_1 (p:=(false,f,a,r)) rfl) (z02 (v_ix (d:=pk a) (z01 rfl) (z01 rfl) rfl (z05 a)) z0f)))))) fun z=>absurd h4 (wc z)) ⟨(false,f,a,a),⟨hf,ha,ha,z7x ha.pk⟩,rfl⟩
  refine z2d (z1o (z01 rfl)) (wf h4) ?_;refine q_ok (z3s (j:=1) (n:=1) (mr_2 (p:=(false,f,a,r)) rfl) (z01 rfl) rfl rfl) ?_;exact q_rt (g:=.fr) (z0g (z0v (z02 (z0v (z02 (v_ix (d:=pk f) (z01 rfl) z04.e rfl (z05 f)) (z02 (v_ix (d:=pk r) (z01 rfl) z04.e rfl (z05 r)) z0f))) (z02 (mr_1 (p:=(false,f,a,r)) rfl) (z02 (mr_2 (p:=(false,f,a,r)) rfl) z0f))))) ⟨(false,f,r,r),⟨hf,hr,hr,z7x hr.pk⟩,rfl⟩
theorem zel {ws:List Str}{rs:List Int}(gw:GW ws)(rg:RG rs)(cs:List Int)(hl:cs.length<=100):∃qs:List (Bool×P×P×P),((∀q∈qs,RW ws q)/\qs.length<=cs.length/\qs.Pairwise fun p q=>agp q p=false)/\zf7 [.list (cs.map .int),.list (ws.map .str),.list (rs.map .int)]=.ok (.fr,.list (qs.map mr)):=by
 let Φ:List Fn:=[zex,z1n,zf4,zft]
 suffices h:∃qs:List (Bool×P×P×P),((∀q∈qs,RW ws q)/\qs.length<=cs.length/\qs.Pairwise fun p q=>agp q p=false)/\evS [] Φ zfj [some (.od,.list (cs.map .int)),some (.od,.list (ws.map .str)),some (.od,.list (rs.map .int)),none,none,none]=.ok (.rt .fr (.list (qs.map mr))) by obtain⟨ns,h1,h2⟩:=h;exact⟨ns,h1,z0k h2⟩
 let Q:Res Out->Prop:=fun z=>∃qs:List (Bool×P×P×P),((∀q∈qs,RW ws q)/\qs.length<=cs.length/\qs.Pairwise fun p q=>agp q p=false)/\z=.ok (.rt .fr (.list (qs.map mr)))
 show Q _;unfold zfj;refine q_ok (z18 (z22 z0f) rfl) ?_
 let R:List (Bool×P×P×P)->Option GD->Option GD->Rho:=fun qs u4 u5=>[some (.od,.list (cs.map .int)),some (.od,.list (ws.map .str)),some (.od,.list (rs.map .int)),some (.fr,.list (qs.map mr)),u4,u5]
 refine q_nm (m:=PyData.int) (xs:=cs) (f_od rfl rfl rfl) (fun _=>rfl) (fun pre ρ=>∃(qs:List (Bool×P×P×P)) (u4 u5:Option GD),ρ=R qs u4 u5/\(∀q∈qs,RW ws q)/\qs.length<=pre.length/\qs.Pairwise fun p q=>agp q p=false) ⟨[],none,none,rfl,(fun _ h=>by cases h),am _,List.Pairwise.nil⟩ ?_ ?_
 ·rintro pre c post ρ hx ⟨qs,u4,u5,rfl,h1,h2,h3⟩
  have hpl:pre.length<100:=by have:=congrArg lb hx;rw[az,bq]at this;omega
  obtain⟨p0,hp0,e0⟩:=z8k c gw rg;refine q_ok (z0e (d:=mr p0) (z07 (z00 (z01 rfl) (z00 (z01 rfl) (z00 (z01 rfl) z03))) rfl e0 (z1p p0))) ?_;obtain⟨m4,_,em4⟩:=z2m c (k:=14) (by decide) (by decide);obtain⟨m5,_,em5⟩:=z2m c (k:=15) (by decide) (by decide);have ht:Tt [] Φ _ _ (!qs.isEmpty&&(decide ((1:Int)<rs.length)&&decide ((0:Int)<m4%3))):=zjd (Κ:=[]) (Φ:=Φ) (ρ:=R qs (some (.al,.int c)) (some (.al,mr p0))) (t_tv (z0p (z01 (i:=3) rfl) (Ev.of (z22 z0f)) (zle qs)).e rfl) fun _=>zjd (t_tv (z0p (op:=.Gt) (k:=decide ((1:Int)<rs.length)) (v_bi (z00 (z01 (i:=2) rfl) z03) (z42 rs) rfl).e (z04 (i:=1)).e rfl).e rfl) fun _=>t_tv (z0p (op:=.Gt) (k:=decide ((0:Int)<m4%3)) (z0c (d:=.int (m4%3)) (z07 (n:=1) (f:="_law_mix") (z00 (z01 (i:=4) rfl) (z00 (z04 (i:=14)).e z03)) rfl em4 rfl).e (z04 (i:=3)).e (z10 (by decide)) rfl).e (z04 (i:=0)).e rfl).e rfl
  obtain⟨p,hp,ep⟩:∃p,RW ws p/\evS [] Φ (.ifS (.and (.tv (.cmp .NotEq (.var 3) (.lst .nil))) (.and (.tv (.cmp .Gt (.bi "len" (.cons (.var 2) .nil)) (.int 1))) (.tv (.cmp .Gt (.bin .Mod (.call 1 "_law_mix" (.cons (.var 4) (.cons (.int 14) .nil))) (.int 3)) (.int 0))))) (.seq (.asg (.nm 5) (.call 2 "_law_twin" (.cons (.ix (.var 3) (.bin .Mod (.call 1 "_law_mix" (.cons (.var 4) (.cons (.int 15) .nil))) (.bi "len" (.cons (.var 3) .nil)))) (.cons (.var 4) (.cons (.var 1) (.cons (.var 2) .nil)))))) .nil) .nil) (R qs (some (.al,.int c)) (some (.al,mr p0)))=.ok (.nx (R qs (some (.al,.int c)) (some (.al,mr p)))):=by
   cases hk:(!qs.isEmpty&&(decide ((1:Int)<rs.length)&&decide ((0:Int)<m4%3)))with
   |false=>rw[hk]at ht;exact⟨p0,hp0,z0l ht (fun z=>by cases z) fun _=>z0i⟩
   |true=>
    rw[hk]at ht
    have hne:0<qs.length:=by
     have:=(bp.mp hk).1;cases qs with
     |nil=>cases this
     |cons _ _=>exact p7 _
    have hi0:=fi m5 (show(qs.length:Int)≠0 by omega);have hi1:=fm m5 (show 0<(qs.length:Int) by omega);obtain⟨q0,hq0⟩:∃q0,q0∈qs:=⟨qs[0],d9 _⟩;have hix:=ix_m mr (xs:=qs) q0 hi0 hi1;have hm:qs.getD (m5%(qs.length:Int)).toNat q0∈qs:=getD_mem hi0 hi1;generalize qs.getD (m5%(qs.length:Int)).toNat q0=q at hix hm;obtain⟨p,hp,ep⟩:=zpe gw rg c (h1 q hm);exact⟨p,hp,z0l ht (fun _=>z0d (z0e (d:=mr p) (z07 (z00 (v_ix (d:=mr q) (z01 rfl) (z0c (z07 (z00 (z01 rfl) (z00 z04.e z03)) rfl em5 rfl).e (v_bi (z00 (z01 rfl) z03) (zef qs) rfl).e (z10 (by omega)) rfl).e hix (z1p q)).e (z00 (z01 rfl) (z00 (z01 rfl) (z00 (z01 rfl) z03)))) rfl ep (z1p p))) z0i) fun z=>by cases z⟩
  refine q_ok ep ?_;have e1:evE [] Φ (.var 3) (R qs (some (.al,.int c)) (some (.al,mr p)))=.ok (.al,.list (qs.map mr)):=rfl;have hc:=z32 (Κ:=[]) (Φ:=Φ) (ρ:=R qs (some (.al,.int c)) (some (.al,mr p))) (nt:=1) (js:=[5]) (N':=["_law_two","_law_one"]) (tg:=.nm 0) (cond:=.tv (.call 0 "_law_clash" (.cons (.var 1) (.cons (.var 0) .nil)))) (elt:=.var 0) (m:=mr) (xs:=qs) (fun y=>agp p y) mr (w_tv e1 rfl) rfl (fun y=>[some (.al,mr y),some (.al,mr p)]) (fun y _=>z67 (z1p y)) (fun y hy=>t_tv (z07 (z00 (z01 rfl) (z00 (z01 rfl) z03)) rfl (zjq hp.gr (h1 y hy).gr) rfl).e rfl) fun y _ _=>v_var rfl (z1p y);have ht2:Tt [] Φ (.tv (.cmp .Eq (.comp 1 [5] ["_law_two","_law_one"] (.nm 0) (.tv (.var 3)) (.tv (.call 0 "_law_clash" (.cons (.var 1) (.cons (.var 0) .nil)))) (.var 0)) (.lst .nil))) (R qs (some (.al,.int c)) (some (.al,mr p))) ((qs.filter fun y=>agp p y).map mr).isEmpty:=t_tv (z0p (Ev.of hc) (Ev.of (z22 z0f)) (eq_nil _ (z43 _))).e rfl;cases he:((qs.filter fun y=>agp p y).map mr).isEmpty with
  |false=>refine⟨_,z0d (z0l ht2 (fun z=>by rw[he]at z;cases z) fun _=>z0i) z0i,qs,_,_,rfl,h1,?_,h3⟩;rw[az];omega
  |true=>
   refine⟨_,z0d (z0l ht2 (fun _=>z0d (zdx (xs:=qs.map mr) (x:=mr p) (v_var rfl (z1p p)) rfl (by rw[ah];omega)) z0i) fun z=>by rw[he]at z;cases z) z0i,qs++[p],some (.al,.int c),z1e (some (.al,mr p)),?_,?_,?_,?_⟩
   ·show _=[_,_,_,some (G.fr,PyData.list ((qs++[p]).map mr)),_,_];rw[cq];rfl
   ·intro q hq;rcases du.mp hq with z|z
    ·exact h1 q z
    ·rw[br.mp z];exact hp
   ·rw[az,az];show qs.length+1<=pre.length+1;omega
   ·rw[List.isEmpty_map,j6,ij]at he;refine List.pairwise_append.mpr ⟨h3,jo _ _,fun x hx q hq=>?_⟩;rw[br.mp hq];have:=he x hx;simpa using this
 ·rintro ρ ⟨qs,u4,u5,rfl,h1,h2,h3⟩
  exact q_rt (z7y rfl) ⟨qs,⟨h1,h2,h3⟩,rfl⟩
theorem zg0 (c:Int){ws:List Str}{rs:List Int}(gw:GW ws)(rg:RG rs){ps:List (Bool×P×P×P)}(hp:∀p∈ps,RW ws p)(hl:ps.length<=100):∃f a,(PW ws f/\PW ws a)/\zf8 [.int c,.list (ps.map mr),.list (ws.map .str),.list (rs.map .int)]=.ok (.fr,cs2 f a):=by
 let Φ:List Fn:=[z5x,z1n,z3q,z7h]
 suffices h:∃f a,(PW ws f/\PW ws a)/\evS [] Φ zha [some (.od,.int c),some (.od,.list (ps.map mr)),some (.od,.list (ws.map .str)),some (.od,.list (rs.map .int)),none,none,none,none]=.ok (.rt .fr (cs2 f a)) by obtain⟨f,a,h1,h2⟩:=h;exact⟨f,a,h1,z0k h2⟩
 let Q:Res Out->Prop:=fun z=>∃f a,(PW ws f/\PW ws a)/\z=.ok (.rt .fr (cs2 f a))
 show Q _;unfold zha;obtain⟨f0,a0,h00,e00⟩:=z4n (c/2) gw rg;obtain⟨f,a,hfa,ec⟩:=z4n c gw rg;obtain⟨w,⟨w0,_⟩,ew⟩:=z2m c (k:=8) (by decide) (by decide);obtain⟨v,_,ev⟩:=z2m c (k:=16) (by decide) (by decide);obtain⟨b,pb,eb⟩:=z2y v gw rg;have ht:=zjd (z27 (Φ:=Φ) (ρ:=[some (.od,.int c),some (.od,.list (ps.map mr)),some (.od,.list (ws.map .str)),some (.od,.list (rs.map .int)),none,none,none,none]) (i:=3) rfl) fun _=>t_or (zi4 (i:=1) rfl) fun _=>z1o (t:=.bin .Mod (.var 0) (.int 2)) (j:=0) (z0c (z01 rfl) z04.e (z10 (by decide)) rfl).e;cases hk:(decide (rs.length=1)&&(ps.isEmpty||decide (c%2=0)))with
 |true=>rw[hk]at ht;exact q_rt (g:=.fr) (z0l ht (fun _=>z0h (z0g (z07 (z00 (z0c (z01 rfl) z04.e (z26 (by decide) (by decide)) rfl).e (z00 (z01 rfl) (z00 (z01 rfl) z03))) rfl e00 (z1w _ _)))) fun z=>by cases z) ⟨f0,a0,h00,rfl⟩
 |false=>
  rw[hk]at ht;refine z2d ht rfl ?_;refine q_ok (z0e (d:=.int w) (z07 (z00 (z01 rfl) (z00 z04.e z03)) rfl ew rfl)) ?_;have ht2:=t_or (zi4 (Φ:=Φ) (ρ:=[some (.od,.int c),some (.od,.list (ps.map mr)),some (.od,.list (ws.map .str)),some (.od,.list (rs.map .int)),some (.al,.int w),none,none,none]) (i:=1) rfl) fun _=>z1o (t:=.bin .Mod (.var 4) (.int 3)) (j:=0) (z0c (z01 rfl) z04.e (z10 (by decide)) rfl).e;cases hk2:(ps.isEmpty||decide (w%3=0))with
  |true=>rw[hk2]at ht2;exact q_rt (g:=.fr) (z0l ht2 (fun _=>z0h (z0g (z07 (z00 (z01 rfl) (z00 (z01 rfl) (z00 (z01 rfl) z03))) rfl ec (z1w _ _)))) fun z=>by cases z) ⟨f,a,hfa,rfl⟩
  |false=>
   rw[hk2]at ht2;refine z2d ht2 rfl ?_
   have hne:0<ps.length:=by
    have:=(Bool.or_eq_false_iff.mp hk2).1;cases ps with
    |nil=>cases this
    |cons _ _=>exact p7 _
   have hi0:=fi (w/3) (show(ps.length:Int)≠0 by omega);have hi1:=fm (w/3) (show 0<(ps.length:Int) by omega);obtain⟨p0,hp0⟩:∃p0,p0∈ps:=⟨ps[0],d9 _⟩;have hix:=ix_m mr (xs:=ps) p0 hi0 hi1;have hm:ps.getD (w/3%(ps.length:Int)).toNat p0∈ps:=getD_mem hi0 hi1;generalize ps.getD (w/3%(ps.length:Int)).toNat p0=p at hix hm;refine q_ok (z0e (d:=mr p) (v_ix (z01 rfl) (z0c (z0c (z01 rfl) z04.e (z26 (by decide) (by decide)) rfl).e (v_bi (z00 (z01 rfl) z03) (zef ps) rfl).e (z10 (by omega)) rfl).e hix (z1p _))) ?_;refine q_ok (z0e (z07 (z00 (mr_1 rfl).e z03) rfl (zb1 p.1) rfl)) ?_;have hr:=hp p hm;obtain⟨b1,f1,a1,r1⟩:=p;refine q_ok (z18 (xs:=[pk f1,pk a1]) (z22 (z02 (v_ix (d:=pk f1) (mr_0 (p:=(b1,f1,a1,r1)) rfl).e z04.e rfl (z05 f1)) (z02 (v_ix (d:=pk a1) (mr_0 (p:=(b1,f1,a1,r1)) rfl).e z04.e rfl (z05 a1)) z0f))) (z81 z05 [f1,a1])) ?_
   let R:P->P->Rho:=fun x y=>[some (.od,.int c),some (.od,.list (ps.map mr)),some (.od,.list (ws.map .str)),some (.od,.list (rs.map .int)),some (.al,.int w),some (.al,mr (b1,f1,a1,r1)),some (.al,.int (if b1 then 0 else 1)),some (.fr,.list [pk x,pk y])]
   have inv:∀x y,(R x y).map z1e=R x y:=fun x y=>by show[_,_,_,_,_,z1e (some (.al,mr (b1,f1,a1,r1))),_,_]=_;have i2:z1e (some (.al,mr (b1,f1,a1,r1)))=some (.al,mr (b1,f1,a1,r1)):=zgs (z1p _);rw[i2];rfl
   have put:∀{x y z:P} {t u:C} (b:Bool),Vv [] Φ u (R x y) (pk z)->Ev [] Φ t (R x y) (.int (if b then 0 else 1))->evS [] Φ (.setIx 7 t u) (R x y)=.ok (.nx (if b then R z y else R x z)):=fun{x y z t u} b hu hk=>by
    cases b
    ·rw[z3s (j:=1) (n:=1) hu hk rfl rfl];exact congrArg (fun r=>Res.ok (Out.nx r)) (inv x z)
    ·rw[z3s (j:=0) (n:=0) hu hk rfl rfl];exact congrArg (fun r=>Res.ok (Out.nx r)) (inv z y)
   have nat1:∀{x y:P},Ev [] Φ (.bin .Sub (.int 1) (.var 6)) (R x y) (.int (if !b1 then 0 else 1)):=(z0c z04.e (z01 rfl) (zab _) rfl).e;have vb:∀{x y:P},Vv [] Φ (.call 0 "_law_pack_by" (.cons (.call 1 "_law_mix" (.cons (.var 0) (.cons (.int 16) .nil))) (.cons (.var 2) (.cons (.var 3) .nil)))) (R x y) (pk b):=z07 (z00 (z07 (z00 (z01 rfl) (z00 z04.e z03)) rfl ev rfl).e (z00 (z01 rfl) (z00 (z01 rfl) z03))) rfl eb (z05 _)
   have s1:∃x y,(PW ws x/\PW ws y)/\evS [] Φ (.setIx 7 (.var 6) (.ix (.var 5) (.int 2))) (R f1 a1)=.ok (.nx (R x y)):=by
    refine⟨if b1 then r1 else f1,if b1 then a1 else r1,?_,?_⟩
    ·cases b1
     ·exact⟨hr.f,hr.r⟩
     ·exact⟨hr.r,hr.a⟩
    ·rw[put b1 (mr_2 (p:=(b1,f1,a1,r1)) rfl) (z01 rfl)];cases b1<;>rfl
   obtain⟨x1,y1,⟨px1,py1⟩,e1⟩:=s1;have tq:∀{x y:P} (j:Int),Tt [] Φ (.tv (.cmp .Eq (.bin .Mod (.bin .FloorDiv (.var 4) (.int 100)) (.int 3)) (.int j))) (R x y) (decide (w/100%3=j)):=fun j=>z1o (z0c (z0c (z01 rfl) z04.e (z26 (by decide) (by decide)) rfl).e z04.e (z10 (by decide)) rfl).e
   have s2:∀{t:C} (j:Int) (b':Bool),(∀{x y:P},Ev [] Φ t (R x y) (.int (if b' then 0 else 1)))->∀x y,PW ws x->PW ws y->∃x' y',(PW ws x'/\PW ws y')/\evS [] Φ (.ifS (.tv (.cmp .Eq (.bin .Mod (.bin .FloorDiv (.var 4) (.int 100)) (.int 3)) (.int j))) (.seq (.setIx 7 t (.call 0 "_law_pack_by" (.cons (.call 1 "_law_mix" (.cons (.var 0) (.cons (.int 16) .nil))) (.cons (.var 2) (.cons (.var 3) .nil))))) .nil) .nil) (R x y)=.ok (.nx (R x' y')):=fun{t} j b' hk x y hx hy=>by
    by_cases hh:w/100%3=j
    ·refine⟨if b' then b else x,if b' then y else b,?_,z0l (tq j) (fun _=>z0d (put b' vb hk) ?_) fun z=>absurd hh (wc z)⟩
     ·cases b'
      ·exact⟨hx,pb⟩
      ·exact⟨pb,hy⟩
     ·rw[z0i];cases b'<;>rfl
    ·exact⟨x,y,⟨hx,hy⟩,z0l (tq j) (fun z=>absurd (wb z) hh) fun _=>z0i⟩
   obtain⟨x2,y2,⟨px2,py2⟩,e2⟩:=s2 1 b1 (z01 (i:=6) rfl) x1 y1 px1 py1;obtain⟨x3,y3,⟨px3,py3⟩,e3⟩:=s2 2 (!b1) nat1 x2 y2 px2 py2;refine q_ok e1 ?_;refine q_ok e2 ?_;refine q_ok e3 ?_;exact q_rt (z0g (z0v (z02 (v_ix (d:=pk x3) (z01 rfl) z04.e rfl (z05 _)) (z02 (v_ix (d:=pk y3) (z01 rfl) z04.e rfl (z05 _)) z0f)))) ⟨x3,y3,⟨px3,py3⟩,rfl⟩
theorem zum {ws:List Str}{a b:P}(ha:PW ws a)(hb:PK b):PW ws (mt a b):=⟨z8l ha.pk hb,fun k hk=>ha.ks k (by obtain⟨p,hp,rfl⟩:=bo.mp hk;obtain⟨q,hq,rfl⟩:=bo.mp hp;exact bo.mpr ⟨q,(cz.mp hq).1,rfl⟩)⟩
def cmS (b:P)(acc:P)(p:Str×Int):P:=if 0<min p.2 (look b p.1)then acc++[(p.1,min p.2 (look b p.1))]else acc
def cm (a b:P):P:=a.foldl (cmS b) []
def cc (x:P×P):D:=cs2 x.1 x.2
theorem za1 (x:P×P):imm (cc x)=true:=z1w _ _
def z4p:List D:=[.str "",.str "For",.str "none",.str "fors",.none,.int 1,.bool true,.int 0,.list [.str "for"],.tuple [.str "for"],.tuple [.str "for",.str "against"],.str "agianst"]
theorem zg5 (c:Int):∃t∈z4p,ixD (.list z4p) (.int (c%12))=.ok t:=by have h0:0<=c%12:=fi c (by decide);have h1:c%12<12:=fm c (by decide);refine⟨z4p.getD (c%12).toNat .none,getD_mem h0 h1,?_⟩;show Res.ofO (atI z4p (c%12))=_;rw[zfb z4p (c%12) .none h0 h1];rfl
theorem zsi {Φ:List Fn}{ρ:Rho}{a b:C}{x y d:D}(ha:Ev [] Φ a ρ x)(hb:Ev [] Φ b ρ y)(h:ixD x y=.ok d):Ev [] Φ (.ix a b) ρ d:=by obtain⟨g1,ha⟩:=ha;obtain⟨g2,hb⟩:=hb;exact⟨gJ d g1,by rw[E_ix];rw[ha,Res.ok_bind,hb,Res.ok_bind];dsimp only;rw[h,Res.ok_bind]⟩
theorem zuj (c:Int):∃t∈z4p,∃g,zco [.int c]=.ok (g,t):=by obtain⟨t,ht,et⟩:=zg5 c;obtain⟨g,eg⟩:=zsi (Φ:=[]) (ρ:=[some (.od,.int c),some (.al,.list z4p)]) (a:=.var 1) (b:=.bin .Mod (.var 0) (.int 12)) (z01 rfl) (z0c (d:=.int (c%12)) (z01 rfl) z04.e (z10 (by decide)) rfl).e et;refine⟨t,ht,rtG g,?_⟩;unfold zco;refine z0k ?_;unfold zjk;refine z0d (ρ':=[some (.od,.int c),some (.al,.list z4p)]) rfl (z0h ?_);show(evE [] [] (.ix (.var 1) (.bin .Mod (.var 0) (.int 12))) [some (.od,.int c),some (.al,.list z4p)]>>=fun x=>Res.ok (Out.rt (rtG x.1) x.2))=_;rw[eg];rfl
theorem sum0 {α:Type}{f:α->Int}:∀{l:List α},(∀p∈l,f p=0)->(l.map f).sum=0
 | [],_=>rfl
 |p::l,h=>by rw[ao,gj,h p ak,sum0 fun q hq=>h q (aq _ hq)];rfl
theorem zbl {α:Type}{f:α->Int}:∀{l:List α},(∀p∈l,0<=f p)->0<=(l.map f).sum
 | [],_=>oq _
 |p::l,h=>by rw[ao,gj];have:=h p ak;have:=zbl fun q hq=>h q (aq p hq);omega
theorem zpy {α:Type}{f:α->Int}:∀{l:List α},(∀p∈l,0<=f p)->(l.map f).sum=0->∀p∈l,f p=0
 | [],_,_=>fun _ h=>by cases h
 |q::l,h,e=>fun p hp=>by
  rw[ao,gj]at e;have h1:=h q ak;have h2:=zbl fun r hr=>h r (aq q hr);rcases au.mp hp with rfl|hp
  ·omega
  ·exact zpy (fun r hr=>h r (aq q hr)) (by omega) p hp
theorem zhv {α:Type}{f g:α->Int}:∀{l:List α},(∀p∈l,f p=g p)->(l.map f).sum=(l.map g).sum
 | [],_=>rfl
 |p::l,h=>by rw[ao,ao,gj,gj,h p ak,zhv fun q hq=>h q (aq _ hq)]
theorem zey {α:Type}{f g:α->Int}{c:α->Bool}:∀{l:List α},(∀p∈l,f p=if c p then g p else 0)->(l.map f).sum=((l.filter c).map g).sum
 | [],_=>rfl
 |p::l,h=>by
  have h1:=h p ak;have h2:=zey fun q hq=>h q (aq p hq);rw[ao,gj,o9,h2,h1];cases c p with
  |true=>rw[if_pos rfl,if_pos rfl,ao,gj]
  |false=>rw[if_neg (by decide),if_neg (by decide),Int.zero_add]
theorem zhs (a b:P):0<=exs a b:=zbl fun p _=>by omega
theorem zgr {a b:P}(ha:PK a)(hb:PK b):exs a b=0↔wi a b=true:=by
 rw[z2h ha hb];constructor
 ·intro h n;by_cases hn:n∈ks a
  ·obtain⟨p,hp,rfl⟩:=bo.mp hn;have:=zpy (fun p _=>by omega) h p hp;rw[ha.look_mem hp];omega
  ·have :¬0<look a n:=fun z=>hn (ha.key.mpr z);have:=hb.look_nn n;omega
 ·intro h;refine sum0 fun p hp=>?_;have:=h p.1;rw[ha.look_mem hp]at this;omega
theorem zkp {o r:P}(ho:PK o)(hr:PK r):exs o (jn o r)=0:=(zgr ho (z5o o r)).mpr ((z2h ho (z5o o r)).mpr fun n=>by rw[z2w ho hr];omega)
theorem zl3 {o r:P}(ho:PK o)(hr:PK r):exs (jn o r) o=exs r o:=by
 have e:mt (jn o r) r=r:=PK.ext (z8l (z5o o r) hr) hr fun n=>by rw[z3i (z5o o r) hr,z2w ho hr];omega
 have e2:exs r o=exs (mt (jn o r) r) o:=by rw[e]
 rw[e2];unfold exs mt;rw[fg];refine zey fun p hp=>?_;have h1:=(z5o o r).look_mem hp;rw[z2w ho hr]at h1;have h2:=ho.look_nn p.1;show max (p.2-look o p.1) 0=if decide (p.1∈ks r)then max (min p.2 (look r p.1)-look o p.1) 0 else 0
 by_cases hm:p.1∈ks r
 ·rw[we hm,if_pos rfl];omega
 ·have :¬0<look r p.1:=fun z=>hm (hr.key.mpr z);have:=hr.look_nn p.1;rw[wf hm,if_neg (by decide)];omega
theorem zlc {c x:P}(hc:PK c)(hx:PK x):exs c (mt c x)=exs c x:=zhv fun p hp=>by have h1:=hc.look_mem hp;rw[z3i hc hx,h1];omega
theorem zl7 {c x:P}(hc:PK c)(hx:PK x):exs (mt c x) c=0:=(zgr (z8l hc hx) hc).mpr ((z2h (z8l hc hx) hc).mpr fun n=>by rw[z3i hc hx];omega)
theorem ztb {o r:P}(ho:PK o)(hr:PK r):jn o r=o↔wi r o=true:=by
 rw[z2h hr ho];constructor
 ·intro h n;have:=z2w ho hr n;rw[h]at this;omega
 ·intro h;exact PK.ext (z5o o r) ho fun n=>by have:=h n;rw[z2w ho hr];omega
theorem zsc {c x:P}(hc:PK c)(hx:PK x):mt c x=c↔wi c x=true:=by
 rw[z2h hc hx];constructor
 ·intro h n;have:=z3i hc hx n;rw[h]at this;omega
 ·intro h;exact PK.ext (z8l hc hx) hc fun n=>by have:=h n;rw[z3i hc hx];omega
theorem zqr {Κ:List D}{Φ:List Fn}{ρ:Rho}{a:C}{x d:D}(ha:Ev Κ Φ a ρ x)(h:z91 x=.ok d)(hi:imm d=true):Vv Κ Φ (.lset a) ρ d:=by obtain⟨g1,ha⟩:=ha;refine⟨?_,hi⟩;show(evE Κ Φ a ρ>>=fun x=>z91 x.2>>=fun d=>Res.ok (G.fr,d))=_;rw[ha];show(z91 x>>=fun d=>Res.ok (G.fr,d))=_;rw[h];rfl
def ampt (b:Bool)(t:P×P)(p:Bool×P×P×P):Int:=exs p.2.2.2 (own b t.1 t.2)+exs (own (!b) t.1 t.2) (own (!b) p.2.1 p.2.2.1)
def sdP (b:Bool)(o c:P):P×P:=if b then(o,c)else(c,o)
def nrP (b:Bool)(t:P×P)(p:Bool×P×P×P):P×P:=sdP b (jn (own b t.1 t.2) p.2.2.2) (mt (own (!b) t.1 t.2) (own (!b) p.2.1 p.2.2.1))
abbrev Bs:=Option (Int×(Bool×P×P×P)×Nat)
def pkB (a:Int)(x:(Bool×P×P×P)×Nat):Bs->Bs
 |none=>some (a,x)
 |some y=>if a<y.1 then some (a,x)else some y
def lwB (a:Int):Bs->Bool
 |none=>true
 |some y=>decide (a<y.1)
def stp (b:Bool)(t:P×P)(acc:Bs)(x:(Bool×P×P×P)×Nat):Bs:=if x.1.1=b then pkB (ampt b t x.1) x acc else acc
theorem zks {a:Int}{x:(Bool×P×P×P)×Nat}:∀{acc:Bs},lwB a acc=true->pkB a x acc=some (a,x)
 |none,_=>rfl
 |some y,h=>if_pos (wb h)
theorem zk1 {a:Int}{x:(Bool×P×P×P)×Nat}:∀{acc:Bs},lwB a acc=false->pkB a x acc=acc
 |none,h=>by cases h
 |some y,h=>if_neg (wc h)
def bst (b:Bool)(t:P×P)(l:List ((Bool×P×P×P)×Nat)):Bs:=l.foldl (stp b t) none
def dFar (b:Bool)(t:P×P):Bs->D
 |none=>.none
 |some y=>.tuple [.int y.1,.int y.2.2,cc (nrP b t y.2.1)]
def dDue:Bs->D
 |none=>.none
 |some y=>.tuple [.int y.1,.int y.2.2]
theorem zbx (b:Bool)(t:P×P)(o:Bs):imm (dFar b t o)=true:=by
 cases o with
 |none=>rfl
 |some y=>show(true&&(true&&(imm (cc (nrP b t y.2.1))&&true)))=true;rw[za1];rfl
theorem z8v (o:Bs):imm (dDue o)=true:=by cases o<;>rfl
theorem z9n {b:Bool}{t:P×P}{L:List ((Bool×P×P×P)×Nat)}:∀{l:List ((Bool×P×P×P)×Nat)} {acc:Bs},(∀x∈l,x∈L)->(∀y,acc=some y->y.2∈L/\y.2.1.1=b/\y.1=ampt b t y.2.1)->∀y,l.foldl (stp b t) acc=some y->y.2∈L/\y.2.1.1=b/\y.1=ampt b t y.2.1
 | [],acc,_,h,y,e=>h y e
 |x::l,acc,hL,h,y,e=>by
  refine z9n (fun z hz=>hL z (aq _ hz)) (fun z hz=>?_) y e;have hx:=hL x ak;unfold stp at hz;split at hz
  ·rename_i hb;cases hk:lwB (ampt b t x.1) acc with
   |true=>rw[zks hk]at hz;cases hz;exact⟨hx,hb,rfl⟩
   |false=>rw[zk1 hk]at hz;exact h z hz
  ·exact h z hz
theorem zrh (b:Bool)(o c:P):F_z3 [.str (sd b),pk o,pk c]=.ok (.fr,cc (sdP b o c)):=by
 unfold F_z3;refine z0k ?_;unfold S_z3;have:=zlo (Κ:=[]) (Φ:=[]) (ρ:=[some (.od,.str (sd b)),some (.od,pk o),some (.od,pk c)]) (c:=.tv (.cmp .Eq (.var 0) (.str "for"))) (a:=.tup (.cons (.var 1) (.cons (.var 2) .nil))) (b:=.tup (.cons (.var 2) (.cons (.var 1) .nil))) (k:=b) (x:=cc (o,c)) (y:=cc (c,o)) (t_tv (z0p (k:=b) (z01 rfl) z20.e (by cases b<;>rfl)).e rfl) (fun _=>z0v (z02 (v_var rfl (z05 _)) (z02 (v_var rfl (z05 _)) z0f))) (fun _=>z0v (z02 (v_var rfl (z05 _)) (z02 (v_var rfl (z05 _)) z0f)));have e:(if b then cc (o,c)else cc (c,o))=cc (sdP b o c):=by cases b<;>rfl
 rw[e]at this;exact z0h (z0g this)
theorem e_z9 {ws:List Str}(gw:GW ws){ps:List (Bool×P×P×P)}(hp:∀p∈ps,RW ws p)(hl:ps.length<=100){t:P×P}(ht:PW ws t.1/\PW ws t.2)(b:Bool):F_z9 [.list (ps.map mr),cc t,.str (sd b)]=.ok (.fr,dFar b t (bst b t ps.zipIdx)):=by
 have w6:=gw.len
 have pt:∀c,PW ws (own c t.1 t.2):=fun c=>by
  cases c
  ·exact ht.2
  ·exact ht.1
 let Φ:List Fn:=[F_z3,F_z5,F_z8,F_z6,F_z7,F_z2,F_z1]
 unfold F_z9;refine z0k ?_
 let Q:Res Out->Prop:=fun z=>z=.ok (.rt .fr (dFar b t (bst b t ps.zipIdx)))
 show Q _;unfold S_z9;refine q_ok (z0e (d:=pk (own b t.1 t.2)) (z07 (z00 (z01 rfl) (z00 (z01 rfl) z03)) rfl (zdy b t.1 t.2) (z05 _))) ?_;refine q_ok (z0e (d:=pk (own (!b) t.1 t.2)) (z07 (z00 (z01 rfl) (z00 (z07 (z00 (z01 rfl) z03) rfl (zej b) rfl).e z03)) rfl (zdy (!b) t.1 t.2) (z05 _))) ?_;refine q_ok (z0e (d:=.none) zpn) ?_
 let R:D->Option GD->Option GD->Option GD->Rho:=fun d u6 u7 u8=>[some (.od,.list (ps.map mr)),some (.od,cc t),some (.od,.str (sd b)),some (.al,pk (own b t.1 t.2)),some (.al,pk (own (!b) t.1 t.2)),some (.al,d),u6,u7,u8]
 refine zcq (m:=fun x:(Bool×P×P×P)×Nat=>.tuple [.int x.2,mr x.1]) (xs:=ps.zipIdx) (zue rfl hl) (fun pre ρ=>∃u6 u7 u8,ρ=R (dFar b t (bst b t pre)) u6 u7 u8) ⟨none,none,none,rfl⟩ ?_ ?_
 ·rintro pre x post ρ hx ⟨u6,u7,u8,rfl⟩
  have hxz:x∈ps.zipIdx:=by rw[hx];exact ax _ ak
  have hm:x.1∈ps:=b8 (za8 hxz);have hr:=hp _ hm;refine⟨_,z44 rfl (z1p x.1),.inl ?_⟩;have es:bst b t (pre++[x])=stp b t (bst b t pre) x:=by unfold bst;rw[ot];rfl
  rw[es];generalize bst b t pre=acc;have tq:Tt [] Φ (.tv (.cmp .Eq (.ix (.var 7) (.int 1)) (.var 2))) (R (dFar b t acc) (some (.al,.int x.2)) (some (.al,mr x.1)) u8) (decide (x.1.1=b)):=t_tv (z0p (k:=decide (x.1.1=b)) (mr_1 (p:=x.1) rfl).e (z01 rfl) (by show Res.ok (eqD (.str _) (.str _))=_;rw[z3h];cases x.1.1<;>cases b<;>rfl)).e rfl;by_cases hb:x.1.1=b
  ·have ef:own (!b) x.1.2.1 x.1.2.2.1=opp x.1.1 x.1.2.1 x.1.2.2.1:=by rw[<-z3g,hb]
   have fk:PK (own (!b) x.1.2.1 x.1.2.2.1):=z0u hr.f.pk hr.a.pk;have vo:∀{d:D} {u8:Option GD},Vv [] Φ (.call 2 "opposed_of" (.cons (.var 7) .nil)) (R d (some (.al,.int x.2)) (some (.al,mr x.1)) u8) (pk (own (!b) x.1.2.1 x.1.2.2.1)):=fun{d u8}=>by rw[ef];exact z07 (z00 (z01 rfl) z03) rfl (zdv x.1.1 x.1.2.1 x.1.2.2.1 x.1.2.2.2) (z05 _)
   have va:Vv [] Φ (.bin .Add (.call 4 "excess" (.cons (.ix (.var 7) (.int 2)) (.cons (.var 3) .nil))) (.call 4 "excess" (.cons (.var 4) (.cons (.call 2 "opposed_of" (.cons (.var 7) .nil)) .nil)))) (R (dFar b t acc) (some (.al,.int x.2)) (some (.al,mr x.1)) u8) (.int (ampt b t x.1)):=z0c (z07 (z00 (mr_2 (p:=x.1) rfl).e (z00 (z01 rfl) z03)) rfl (e_z7 (pt b).pk) rfl).e (z07 (z00 (z01 rfl) (z00 vo.e z03)) rfl (e_z7 fk) rfl).e rfl rfl
   let R8:D->Rho:=fun d=>R d (some (.al,.int x.2)) (some (.al,mr x.1)) (some (.al,.int (ampt b t x.1)))
   have vt:∀{d:D},Vv [] Φ (.tup (.cons (.var 8) (.cons (.var 6) (.cons (.call 0 "case_with" (.cons (.var 2) (.cons (.call 3 "join" (.cons (.var 3) (.cons (.ix (.var 7) (.int 2)) .nil))) (.cons (.call 1 "meet" (.cons (.var 4) (.cons (.call 2 "opposed_of" (.cons (.var 7) .nil)) .nil))) .nil)))) .nil)))) (R8 d) (dFar b t (some (ampt b t x.1,x))):=fun{d}=>z0v (z02 (v_var rfl rfl) (z02 (v_var rfl rfl) (z02 (z07 (z00 (z01 rfl) (z00 (z07 (z00 (z01 rfl) (z00 (mr_2 (p:=x.1) rfl).e z03)) rfl (e_z6 (by have:=(pt b).len;have:=hr.r.len;omega)) (z05 _)).e (z00 (z07 (z00 (z01 rfl) (z00 vo.e z03)) rfl (e_z5 fk) (z05 _)).e z03))) rfl (zrh b _ _) (za1 _)) z0f)))
   have tn:Tt [] Φ (.or (.tv (.isN false (.var 5))) (.tv (.cmp .Lt (.var 8) (.ix (.var 5) (.int 0))))) (R8 (dFar b t acc)) (lwB (ampt b t x.1) acc):=by
    cases acc with
    |none=>exact t_or (k':=false) (t_tv (z6n (ng:=false) (x:=PyData.none) (z01 rfl)).e rfl) fun z=>by cases z
    |some y=>exact t_or (t_tv (z6n (ng:=false) (x:=dFar b t (some y)) (z01 rfl)).e rfl) fun _=>t_tv (z0p (z01 rfl) (v_ix (d:=.int y.1) (x:=dFar b t (some y)) (z01 rfl) z04.e rfl rfl).e rfl).e rfl
   have est:stp b t acc x=pkB (ampt b t x.1) x acc:=if_pos hb
   have body:evS [] Φ (.seq (.ifS (.or (.tv (.isN false (.var 5))) (.tv (.cmp .Lt (.var 8) (.ix (.var 5) (.int 0))))) (.seq (.asg (.nm 5) (.tup (.cons (.var 8) (.cons (.var 6) (.cons (.call 0 "case_with" (.cons (.var 2) (.cons (.call 3 "join" (.cons (.var 3) (.cons (.ix (.var 7) (.int 2)) .nil))) (.cons (.call 1 "meet" (.cons (.var 4) (.cons (.call 2 "opposed_of" (.cons (.var 7) .nil)) .nil))) .nil)))) .nil))))) .nil) .nil) .nil) (R8 (dFar b t acc))=.ok (.nx (R8 (dFar b t (stp b t acc x)))):=by
    rw[est];cases hk:lwB (ampt b t x.1) acc with
    |true=>rw[zks hk];exact z0d (z0l tn (fun _=>z0d (z0e vt) z0i) fun z=>by rw[hk]at z;cases z) z0i
    |false=>rw[zk1 hk];exact z0d (z0l tn (fun z=>by rw[hk]at z;cases z) fun _=>z0i) z0i
   exact⟨_,z0d (z0l tq (fun _=>z0d (z0e va) body) fun z=>absurd hb (wc z)) z0i,_,_,_,rfl⟩
  ·have est:stp b t acc x=acc:=if_neg hb;rw[est];exact⟨_,z0d (z0l tq (fun z=>absurd (wb z) hb) fun _=>z0i) z0i,_,_,_,rfl⟩
 ·rintro ρ ⟨u6,u7,u8,rfl⟩
  exact q_rt (z0g (v_var rfl (zbx _ _ _))) rfl
theorem z6i {a b:P}(hb:PK b):z78 [pk a,pk b]=.ok (.fr,.int (exs a b)):=by
 unfold z78;refine z0k ?_
 let Q:Res Out->Prop:=fun z=>z=.ok (.rt .fr (.int (exs a b)))
 show Q _;unfold zkn
 let f:Str×Int->Int:=fun p=>max (p.2-look b p.1) 0
 refine q_ok (z0e (d:=.int 0) z04) ?_;refine zj3 (m:=pr) (xs:=a) (zc1 (g:=.od) rfl (by decide) (z05 a) rfl) (fun pre ρ=>∃u3 u4,ρ=[some (.od,pk a),some (.od,pk b),some (.al,.int (pre.map f).sum),u3,u4]) ⟨none,none,rfl⟩ ?_ ?_
 ·rintro pre x post ρ hx ⟨u3,u4,rfl⟩
  have e:((pre++[x]).map f).sum=(pre.map f).sum+max 0 (x.2-look b x.1):=by rw[cq,List.sum_append];show _+(f x+0)=_;show _+(max (x.2-look b x.1) 0+0)=_;omega
  rw[e];exact⟨_,_,z6l x,z0d (z0e (z0c (z01 rfl) (v_bi (d:=.int (max 0 (x.2-look b x.1))) (z00 z04.e (z00 (z0c (d:=.int (x.2-look b x.1)) (z01 rfl) (z07 (z00 (z01 rfl) (z00 (z01 rfl) z03)) rfl (z9r hb x.1) rfl).e rfl rfl).e z03)) rfl rfl).e rfl rfl)) z0i,_,_,rfl⟩
 ·rintro ρ ⟨u3,u4,rfl⟩
  exact q_rt (z0g (v_var rfl rfl)) rfl
def apI (t n:P×P)(i:Int):Int:=exs (own (decide (i=0)) t.1 t.2) (own (decide (i=0)) n.1 n.2)+exs (own (decide (i=0)) n.1 n.2) (own (decide (i=0)) t.1 t.2)
theorem zsb {x:Int}(h:x∈[(0:Int),1]):x=0\/x=1:=by
 rcases au.1 h with rfl|h
 ·exact .inl rfl
 ·exact .inr (br.mp h)
theorem cc_i (t:P×P){x:Int}(h:x=0\/x=1):ixD (cc t) (.int x)=.ok (pk (own (decide (x=0)) t.1 t.2)):=by rcases h with rfl|rfl<;>rfl
theorem zcr {t n:P×P}(ht:PK t.1/\PK t.2)(hn:PK n.1/\PK n.2):zbu [cc t,cc n]=.ok (.fr,.int (apI t n 0+apI t n 1)):=by
 unfold zbu;refine z0k ?_
 let Q:Res Out->Prop:=fun z=>z=.ok (.rt .fr (.int (apI t n 0+apI t n 1)))
 show Q _;unfold zjw;refine q_ok (z0e (d:=.int 0) z04) ?_;refine q_nm (m:=PyData.int) (xs:=[0,1]) rfl (fun _=>rfl) (fun pre ρ=>∃u3,ρ=[some (.od,cc t),some (.od,cc n),some (.al,.int (pre.map (apI t n)).sum),u3]) ⟨none,rfl⟩ ?_ ?_
 ·rintro pre x post ρ hx ⟨u3,rfl⟩
  have hm:=zsb (x:=x) (by rw[hx];exact ax _ ak);have e:((pre++[x]).map (apI t n)).sum=(pre.map (apI t n)).sum+exs (own (decide (x=0)) t.1 t.2) (own (decide (x=0)) n.1 n.2)+exs (own (decide (x=0)) n.1 n.2) (own (decide (x=0)) t.1 t.2):=by rw[cq,List.sum_append];show _+(apI t n x+0)=_;unfold apI;omega
  rw[e];have vt:∀{ρ:Rho},ρ[0]?=some (some (.od,cc t))->ρ[3]?=some (some (.al,.int x))->Vv [] [z78] (.ix (.var 0) (.var 3)) ρ (pk (own (decide (x=0)) t.1 t.2)):=fun h1 h2=>v_ix (z01 h1) (z01 h2) (cc_i t hm) (z05 _);have vn:∀{ρ:Rho},ρ[1]?=some (some (.od,cc n))->ρ[3]?=some (some (.al,.int x))->Vv [] [z78] (.ix (.var 1) (.var 3)) ρ (pk (own (decide (x=0)) n.1 n.2)):=fun h1 h2=>v_ix (z01 h1) (z01 h2) (cc_i n hm) (z05 _);exact⟨_,z0d (z0e (z0c (z0c (z01 rfl) (z07 (z00 (vt rfl rfl).e (z00 (vn rfl rfl).e z03)) rfl (z6i (z0u hn.1 hn.2)) rfl).e rfl rfl).e (z07 (z00 (vn rfl rfl).e (z00 (vt rfl rfl).e z03)) rfl (z6i (z0u ht.1 ht.2)) rfl).e rfl rfl)) z0i,_,rfl⟩
 ·rintro ρ ⟨u3,rfl⟩
  refine q_rt (z0g (v_var rfl rfl)) ?_;show Res.ok (Out.rt G.fr (PyData.int (apI t n 0+(apI t n 1+0))))=_;rw[Int.add_zero]
theorem zl6 {ps:List (Bool×P×P×P)}(hg:∀p∈ps,GR p)(hl:ps.length<=100){t:P×P}(ht:PK t.1/\PK t.2)(b:Bool):ze0 [.list (ps.map mr),cc t,.int (if b then 0 else 1)]=.ok (.fr,dDue (bst b t ps.zipIdx)):=by
 let Φ:List Fn:=[z3q,z78]
 unfold ze0;refine z0k ?_
 let Q:Res Out->Prop:=fun z=>z=.ok (.rt .fr (dDue (bst b t ps.zipIdx)))
 show Q _;unfold zme;refine q_ok (z0e (d:=.none) zpn) ?_
 let R:D->Option GD->Option GD->Rho:=fun d u4 u5=>[some (.od,.list (ps.map mr)),some (.od,cc t),some (.od,.int (if b then 0 else 1)),some (.al,d),u4,u5]
 refine zcq (m:=fun x:(Bool×P×P×P)×Nat=>.int x.2) (xs:=ps.zipIdx) (zrx rfl hl) (fun pre ρ=>∃u4 u5,ρ=R (dDue (bst b t pre)) u4 u5) ⟨none,none,rfl⟩ ?_ ?_
 ·rintro pre x post ρ hx ⟨u4,u5,rfl⟩
  have hz:=za8 (xs:=ps) (x:=x) (by rw[hx];exact ax _ ak);have hr:=hg _ (b8 hz);refine⟨_,rfl,.inl ?_⟩;have es:bst b t (pre++[x])=stp b t (bst b t pre) x:=by unfold bst;rw[ot];rfl
  rw[es];generalize bst b t pre=acc;have vy:∀{d:D} {u5:Option GD},Vv [] Φ (.ix (.var 0) (.var 4)) (R d (some (.al,.int x.2)) u5) (mr x.1):=v_ix (z01 rfl) (z01 rfl) (ix_B hz) (z1p _);have tq:Tt [] Φ (.tv (.cmp .Eq (.call 0 "_law_at" (.cons (.ix (.ix (.var 0) (.var 4)) (.int 1)) .nil)) (.var 2))) (R (dDue acc) (some (.al,.int x.2)) u5) (decide (x.1.1=b)):=t_tv (z0p (k:=decide (x.1.1=b)) (z07 (z00 (v_ix (d:=.str (sd x.1.1)) vy.e z04.e rfl rfl).e z03) rfl (zb1 x.1.1) rfl).e (z01 rfl) (by cases x.1.1<;>cases b<;>rfl)).e rfl;by_cases hb:x.1.1=b
  ·have nat1:∀{d:D} {u5:Option GD},Ev [] Φ (.bin .Sub (.int 1) (.var 2)) (R d (some (.al,.int x.2)) u5) (.int (if !b then 0 else 1)):=(z0c z04.e (z01 rfl) (zab _) rfl).e;have va:Vv [] Φ (.bin .Add (.call 1 "_law_above" (.cons (.ix (.ix (.var 0) (.var 4)) (.int 2)) (.cons (.ix (.var 1) (.var 2)) .nil))) (.call 1 "_law_above" (.cons (.ix (.var 1) (.bin .Sub (.int 1) (.var 2))) (.cons (.ix (.ix (.ix (.var 0) (.var 4)) (.int 0)) (.bin .Sub (.int 1) (.var 2))) .nil)))) (R (dDue acc) (some (.al,.int x.2)) u5) (.int (ampt b t x.1)):=z0c (z07 (z00 (v_ix (d:=pk x.1.2.2.2) vy.e z04.e rfl (z05 _)).e (z00 (zag (b:=b) (f:=t.1) (a:=t.2) (z01 rfl) (z01 rfl)).e z03)) rfl (z6i (z0u ht.1 ht.2)) rfl).e (z07 (z00 (zag (b:=!b) (f:=t.1) (a:=t.2) (z01 rfl) nat1).e (z00 (zag (b:=!b) (f:=x.1.2.1) (a:=x.1.2.2.1) (v_ix (d:=cs2 x.1.2.1 x.1.2.2.1) vy.e z04.e rfl (z1w _ _)).e nat1).e z03)) rfl (z6i (z0u hr.f hr.a)) rfl).e rfl rfl
   let R8:D->Rho:=fun d=>R d (some (.al,.int x.2)) (some (.al,.int (ampt b t x.1)))
   have tn:Tt [] Φ (.or (.tv (.isN false (.var 3))) (.tv (.cmp .Lt (.var 5) (.ix (.var 3) (.int 0))))) (R8 (dDue acc)) (lwB (ampt b t x.1) acc):=by
    cases acc with
    |none=>exact t_or (k':=false) (t_tv (z6n (ng:=false) (x:=PyData.none) (z01 rfl)).e rfl) fun z=>by cases z
    |some y=>exact t_or (t_tv (z6n (ng:=false) (x:=dDue (some y)) (z01 rfl)).e rfl) fun _=>t_tv (z0p (z01 rfl) (v_ix (d:=.int y.1) (x:=dDue (some y)) (z01 rfl) z04.e rfl rfl).e rfl).e rfl
   have vt:∀{d:D},Vv [] Φ (.tup (.cons (.var 5) (.cons (.var 4) .nil))) (R8 d) (dDue (some (ampt b t x.1,x))):=z0v (z02 (v_var rfl rfl) (z02 (v_var rfl rfl) z0f));have est:stp b t acc x=pkB (ampt b t x.1) x acc:=if_pos hb
   have body:evS [] Φ (.seq (.ifS (.or (.tv (.isN false (.var 3))) (.tv (.cmp .Lt (.var 5) (.ix (.var 3) (.int 0))))) (.seq (.asg (.nm 3) (.tup (.cons (.var 5) (.cons (.var 4) .nil)))) .nil) .nil) .nil) (R8 (dDue acc))=.ok (.nx (R8 (dDue (stp b t acc x)))):=by
    rw[est];cases hk:lwB (ampt b t x.1) acc with
    |true=>rw[zks hk];exact z0d (z0l tn (fun _=>z0d (z0e vt) z0i) fun z=>by rw[hk]at z;cases z) z0i
    |false=>rw[zk1 hk];exact z0d (z0l tn (fun z=>by rw[hk]at z;cases z) fun _=>z0i) z0i
   exact⟨_,z0d (z0l tq (fun _=>z0d (z0e va) body) fun z=>absurd hb (wc z)) z0i,_,_,rfl⟩
  ·have est:stp b t acc x=acc:=if_neg hb;rw[est];exact⟨_,z0d (z0l tq (fun z=>absurd (wb z) hb) fun _=>z0i) z0i,_,_,rfl⟩
 ·rintro ρ ⟨u4,u5,rfl⟩
  exact q_rt (z0g (v_var rfl (z8v _))) rfl
theorem zq9 {a:P}(ha:PK a):srt a=a:=by
 have mm:∀p,p∈srt a↔p∈a:=fun p=>(z49 a).mem_iff;have hs:PK (srt a):=⟨z9q ha.nd,fun p hp=>ha.pos p ((mm p).mp hp)⟩;refine PK.ext hs ha fun n=>?_;by_cases h:n∈ks a
 ·obtain⟨p,hp,rfl⟩:=bo.mp h;rw[ha.look_mem hp,hs.look_mem ((mm p).mpr hp)]
 ·have h2:n∉ks (srt a):=fun z=>by
   obtain⟨p,hp,e⟩:=bo.mp z;exact h (bo.mpr ⟨p,(mm p).mp hp,e⟩)
  have:=ha.look_nn n;have:=hs.look_nn n;have:¬0<look a n:=fun z=>h (ha.key.mpr z);have:¬0<look (srt a) n:=fun z=>h2 (hs.key.mpr z);omega
theorem zc4:∀{ws acc:List Str},(acc++ws).Nodup->z1h acc ws=acc++ws
 | [],acc,_=>(d8 acc).symm
 |z::ws,acc,h=>by
  have hz:z∉acc:=fun y=>by have:=jz.mp h;exact this.2.2 z y z ak rfl
  show z1h (if z∈acc then acc else acc++[z]) ws=_;rw[if_neg hz,zc4 (by rw[gz];exact h),gz];rfl
theorem zdp:∀ws:List Str,allS (ws.map .str)=some ws
 | []=>rfl
 |z::ws=>by show(allS (ws.map .str)).map (z:: ·)=_;rw[zdp ws];rfl
theorem ziy {a:P}(ha:PK a)(hl:a.length<64):z91 (.list (a.map fun p=>.str p.1))=.ok (.int (a.length:Int)):=by
 have e:(a.map fun p=>PyData.str p.1)=(ks a).map .str:=by unfold ks;rw[fg];rfl
 have el:(ks a).length=a.length:=ah ..;rw[e];show(match allS ((ks a).map .str)with|some ws=>if decide (ws.length<4000)=true then Res.ok (PyData.int ((z1h [] ws).length:Int))else .no|none=>.no)=_;rw[zdp];show(if decide ((ks a).length<4000)=true then Res.ok (PyData.int ((z1h [] (ks a)).length:Int))else .no)=_;have eo:z1h [] (ks a)=ks a:=zc4 (acc:=[]) (show([]++ks a).Nodup from ha.nd);rw[if_pos (we (by omega)),eo,el]
theorem zky (l:P):cmpD .NotEq (pk l) (pk l)=.ok false:=by show(if shal 40 (pk l)&&shal 40 (pk l)then Res.ok (!eqD (pk l) (pk l))else .no)=_;rw[z5n 38,z9w];rfl
theorem zhw {a:P}(ha:PK a)(hl:a.length<64):zbq [pk a]=.ok (.fr,.bool true):=by
 unfold zbq;refine z0k ?_
 let Q:Res Out->Prop:=fun z=>z=.ok (.rt .fr (.bool true))
 show Q _;unfold zjj;have so:aggD "sorted" false (a.map pr)=.ok (.list (a.map pr)):=by show(if((false||imms (a.map pr))&&z1c (a.map pr)&&decide ((a.map pr).length<64))=true then Res.ok (PyData.list (z1a (a.map pr)))else .no)=_;rw[z81 z5l a,z6m,zeb,zq9 ha,ah,we hl];rfl
 refine z2d (t_or (z33 (t_tv (zgi (x:=pk a) (z01 rfl)).e rfl)) fun _=>t_tv (z0p (z01 rfl) (z8p (w:=(true,a.map pr)) (Ev.of (zaz (w:=(false,a.map pr)) (v_var rfl (z05 a)).e rfl so (z81 z5l _))) rfl (show aggD "tuple" true (a.map pr)=.ok (pk a)from rfl) (z05 _)).e (zky a)).e rfl) rfl ?_;refine zcq (t':=.nm 1) (m:=pr) (xs:=a) (zc1 (g:=.od) rfl (by decide) (z05 a) rfl) (fun _ ρ=>∃u1,ρ=[some (.od,pk a),u1]) ⟨none,rfl⟩ ?_ ?_
 ·rintro pre x post ρ hx ⟨u1,rfl⟩
  have hp:=ha.pos x (by rw[hx];exact ax _ ak);refine⟨_,z67 (z5l x),.inl ?_⟩;have vx:Vv [] [z8c] (.ix (.var 1) (.int 1)) [some (.od,pk a),some (.al,pr x)] (.int x.2):=v_ix (z01 rfl) z04.e rfl rfl;refine z2d (Q:=Nx _) (k:=false||(false||(false||decide (x.2<1)))) (t_or (z33 (t_tv (zgi (x:=pr x) (z01 rfl)).e rfl)) fun _=>t_or (t_tv (z0p (k:=false) (v_bi (d:=.int 2) (z00 (z01 rfl) z03) rfl rfl).e z04.e rfl).e rfl) fun _=>t_or (z33 (t_tv (z07 (z00 vx.e z03) rfl (z5w x.2) rfl).e rfl)) fun _=>t_tv (z0p vx.e z04.e rfl).e rfl) (by rw[wf (by omega)];rfl) ?_;exact z5a ⟨_,rfl⟩
 ·rintro ρ ⟨u1,rfl⟩
  have hc:=z32 (Κ:=[]) (Φ:=[z8c]) (ρ:=[some (.od,pk a),u1]) (nt:=1) (js:=[]) (N':=["_law_row"]) (tg:=.nm 0) (it:=.tv (.var 0)) (cond:=.nil) (elt:=.ix (.var 0) (.int 0)) (m:=pr) (xs:=a) (fun _=>true) (fun p=>.str p.1) (w_tv (v_var rfl (z05 a)).1 rfl) rfl (fun p=>[some (.al,pr p)]) (fun p _=>z67 (z5l p)) (fun p _=>zdf) fun p _ _=>v_ix (z01 rfl) z04.e rfl rfl;rw[jh.mpr fun _ _=>rfl]at hc;have hla:biD "len" [pk a]=.ok (.int (a.length:Int)):=by show Res.ok (PyData.int ((a.map pr).length:Int))=_;rw[ah]
  exact q_rt (z0g (d:=.bool true) (z0p (v_bi (z00 (z01 rfl) z03) hla rfl).e (zqr (Ev.of hc) (ziy ha hl) rfl).e (by show Res.ok (eqD (.int _) (.int _))=_;rw[z1v,we rfl]))) rfl
theorem z8e:∀a b:P,PyData.eqvAll (a.map pr) (b.map pr)=decide (a=b)
 | [],[]=>rfl
 | [],_::_=>rfl
 |_::_,[]=>rfl
 |p::a,q::b=>by
  show((eqD (.str p.1) (.str q.1)&&(eqD (.int p.2) (.int q.2)&&true))&&PyData.eqvAll (a.map pr) (b.map pr))=_;rw[z8e a b,z3h,z1v,Bool.and_true];by_cases h:p=q
  ·subst h;rw[we rfl,we rfl,sj,md];exact decide_eq_decide.mpr ⟨fun h=>by rw[h],fun h=>(List.cons.inj h).2⟩
  ·rw[wf (p:=p::a=q::b) fun z=>h (List.cons.inj z).1];by_cases h1:p.1=q.1
   ·rw[wf (p:=p.2=q.2) fun h2=>h (ub h1 h2),Bool.and_false,Bool.false_and]
   ·rw[wf h1];rfl
theorem zq8 (n t:P×P):cmpD .Eq (cc n) (cc t)=.ok (decide (n=t)):=by
 have sh:∀x:P×P,z15 39 [pk x.1,pk x.2]=true:=fun x=>by refine z1i.mpr fun w hw=>?_;simp only[au,cw,or_false]at hw;rcases hw with rfl|rfl<;>exact z5n 37 _
 show(if(z15 39 [pk n.1,pk n.2]&&z15 39 [pk t.1,pk t.2])=true then Res.ok (PyData.eqvAll (n.1.map pr) (t.1.map pr)&&(PyData.eqvAll (n.2.map pr) (t.2.map pr)&&true))else .no)=_;rw[sh,sh,z8e,z8e];show Res.ok (decide (n.1=t.1)&&(decide (n.2=t.2)&&true))=_;rw[Bool.and_true];by_cases h1:n.1=t.1
 ·by_cases h2:n.2=t.2
  ·rw[we h1,we h2,we (ub h1 h2)];rfl
  ·rw[wf h2,Bool.and_false,wf (p:=n=t) fun z=>h2 (by rw[z])]
 ·rw[wf h1,wf (p:=n=t) fun z=>h1 (by rw[z])];rfl
theorem zmp (b:Bool)(o c:P):own b (sdP b o c).1 (sdP b o c).2=o/\own (!b) (sdP b o c).1 (sdP b o c).2=c:=by cases b<;>exact⟨rfl,rfl⟩
theorem zs6 (b:Bool)(t:P×P):sdP b (own b t.1 t.2) (own (!b) t.1 t.2)=t:=by cases b<;>rfl
theorem ziz {b:Bool}{o c o' c':P}:sdP b o c=sdP b o' c'↔o=o'/\c=c':=by
 constructor
 ·intro h;have h1:=zmp b o c;rw[h]at h1;have h2:=zmp b o' c';exact⟨h1.1.symm.trans h2.1,h1.2.symm.trans h2.2⟩
 ·rintro⟨rfl,rfl⟩;rfl
theorem zsx {ws:List Str}{o r:P}(ho:PW ws o)(hr:PW ws r):PW ws (jn o r):=⟨z5o o r,fun k hk=>by
 have h:=(z5o o r).key.mp hk;rw[z2w ho.pk hr.pk]at h;by_cases h1:0<look o k
 ·exact ho.ks k (ho.pk.key.mpr h1)
 ·exact hr.ks k (hr.pk.key.mpr (by omega))⟩
theorem zmg {b:Bool}{t:P×P}(ht:PK t.1/\PK t.2){p:Bool×P×P×P}(hp:GR p):apI t (nrP b t p) 0+apI t (nrP b t p) 1=ampt b t p:=by
 have ko:PK (own b t.1 t.2):=z0u ht.1 ht.2;have kc:PK (own (!b) t.1 t.2):=z0u ht.1 ht.2;have kx:PK (own (!b) p.2.1 p.2.2.1):=z0u hp.f hp.a;have h1:=zkp ko hp.r;have h2:=zl3 ko hp.r;have h3:=zlc kc kx;have h4:=zl7 kc kx;unfold apI nrP ampt;cases b
 ·show exs t.1 (mt t.1 p.2.1)+exs (mt t.1 p.2.1) t.1+(exs t.2 (jn t.2 p.2.2.2)+exs (jn t.2 p.2.2.2) t.2)=exs p.2.2.2 t.2+exs t.1 p.2.1;have h1:exs t.2 (jn t.2 p.2.2.2)=0:=h1;have h2:exs (jn t.2 p.2.2.2) t.2=exs p.2.2.2 t.2:=h2;have h3:exs t.1 (mt t.1 p.2.1)=exs t.1 p.2.1:=h3;have h4:exs (mt t.1 p.2.1) t.1=0:=h4;omega
 ·show exs t.1 (jn t.1 p.2.2.2)+exs (jn t.1 p.2.2.2) t.1+(exs t.2 (mt t.2 p.2.2.1)+exs (mt t.2 p.2.2.1) t.2)=exs p.2.2.2 t.1+exs t.2 p.2.2.1;have h1:exs t.1 (jn t.1 p.2.2.2)=0:=h1;have h2:exs (jn t.1 p.2.2.2) t.1=exs p.2.2.2 t.1:=h2;have h3:exs t.2 (mt t.2 p.2.2.1)=exs t.2 p.2.2.1:=h3;have h4:exs (mt t.2 p.2.2.1) t.2=0:=h4;omega
theorem zo3 {b:Bool}{t:P×P}(ht:PK t.1/\PK t.2){p:Bool×P×P×P}(hp:GR p):ampt b t p=0↔nrP b t p=t:=by
 have ko:PK (own b t.1 t.2):=z0u ht.1 ht.2;have kc:PK (own (!b) t.1 t.2):=z0u ht.1 ht.2;have kx:PK (own (!b) p.2.1 p.2.2.1):=z0u hp.f hp.a;have n1:=zhs p.2.2.2 (own b t.1 t.2);have n2:=zhs (own (!b) t.1 t.2) (own (!b) p.2.1 p.2.2.1);have e:nrP b t p=t↔jn (own b t.1 t.2) p.2.2.2=own b t.1 t.2/\mt (own (!b) t.1 t.2) (own (!b) p.2.1 p.2.2.1)=own (!b) t.1 t.2:=by have:=ziz (b:=b) (o:=jn (own b t.1 t.2) p.2.2.2) (c:=mt (own (!b) t.1 t.2) (own (!b) p.2.1 p.2.2.1)) (o':=own b t.1 t.2) (c':=own (!b) t.1 t.2);rw[zs6]at this;exact this
 rw[e,ztb ko hp.r,zsc kc kx,<-zgr hp.r ko,<-zgr kc kx];unfold ampt;omega
theorem zou {b:Bool}{t:P×P}(ht:PK t.1/\PK t.2){p:Bool×P×P×P}(hp:GR p)(hb:p.1=b):bip p (nrP b t p).1 (nrP b t p).2=true:=by
 have ko:PK (own b t.1 t.2):=z0u ht.1 ht.2;have kc:PK (own (!b) t.1 t.2):=z0u ht.1 ht.2;have kx:PK (own (!b) p.2.1 p.2.2.1):=z0u hp.f hp.a;have h1:wi p.2.2.2 (jn (own b t.1 t.2) p.2.2.2)=true:=(z2h hp.r (z5o _ _)).mpr fun n=>by rw[z2w ko hp.r];omega
 have h2:wi (mt (own (!b) t.1 t.2) (own (!b) p.2.1 p.2.2.1)) (own (!b) p.2.1 p.2.2.1)=true:=(z2h (z8l kc kx) kx).mpr fun n=>by rw[z3i kc kx];omega
 have s:=zmp b (jn (own b t.1 t.2) p.2.2.2) (mt (own (!b) t.1 t.2) (own (!b) p.2.1 p.2.2.1));unfold bip bi;rw[<-z3g,<-z3g,hb];show(wi p.2.2.2 (own b (nrP b t p).1 (nrP b t p).2)&&wi (own (!b) (nrP b t p).1 (nrP b t p).2) (own (!b) p.2.1 p.2.2.1))=true;have s1:own b (nrP b t p).1 (nrP b t p).2=jn (own b t.1 t.2) p.2.2.2:=s.1;have s2:own (!b) (nrP b t p).1 (nrP b t p).2=mt (own (!b) t.1 t.2) (own (!b) p.2.1 p.2.2.1):=s.2;rw[s1,s2,h1,h2];rfl
theorem eqB (a b:Bool):cmpD .Eq (.bool a) (.bool b)=.ok (a==b):=by cases a<;>cases b<;>rfl
theorem eqI (a b:Int):cmpD .Eq (.int a) (.int b)=.ok (decide (a=b)):=by show Res.ok (eqD (.int a) (.int b))=_;rw[z1v]
theorem zrm (y:Int×(Bool×P×P×P)×Nat):cmpD .NotEq (dDue (some y)) (dDue (some y))=.ok false:=by show(if(true&&true)=true then Res.ok (!(eqD (.int y.1) (.int y.1)&&(eqD (.int y.2.2) (.int y.2.2)&&true)))else .no)=_;rw[z1v,z1v,we rfl,we rfl];rfl
theorem zrd {ws:List Str}(gw:GW ws){ps:List (Bool×P×P×P)}(hp:∀p∈ps,RW ws p){t:P×P}(ht:PW ws t.1/\PW ws t.2)(b:Bool):zcf [dFar b t (bst b t ps.zipIdx),.list (ps.map mr),cc t,dDue (bst b t ps.zipIdx)]=.ok (.fr,.bool true):=by
 have sp:=z9n (b:=b) (t:=t) (L:=ps.zipIdx) (l:=ps.zipIdx) (acc:=none) (fun _ h=>h) (fun _ h=>by cases h);have tk:PK t.1/\PK t.2:=⟨ht.1.pk,ht.2.pk⟩;have w6:=gw.len
 let Φ:List Fn:=[zbu,zcs,zbq,z8c]
 unfold zcf;refine z0k ?_;unfold zmt;cases ho:bst b t ps.zipIdx with
 |none=>exact z0h (z0l (t_tv (z6n (ng:=false) (x:=PyData.none) (z01 rfl)).e rfl) (fun _=>z0h (z0g (z6n (ng:=false) (x:=PyData.none) (z01 rfl)))) fun z=>by cases z)
 |some y=>
  obtain⟨hm,hb,hy⟩:=sp y ho;have hz:=za8 hm;have hr:=hp _ (b8 hz);have hg:=hr.gr;obtain⟨a,p,k⟩:=y;have hb:p.1=b:=hb;have hy:a=ampt b t p:=hy;have hz:ps[k]?=some p:=hz
  let n:=nrP b t p
  have po:∀c,PW ws (own c t.1 t.2):=fun c=>by
   cases c
   ·exact ht.2
   ·exact ht.1
  have pn:PW ws n.1/\PW ws n.2:=by
   have j:=zsx (po b) hr.r;have m:=zum (po (!b)) (z0u (b:=!b) hg.f hg.a);show PW ws (sdP b _ _).1/\PW ws (sdP b _ _).2;cases b
   ·exact⟨m,j⟩
   ·exact⟨j,m⟩
  let R:Option GD->Rho:=fun u4=>[some (.od,dFar b t (some (a,p,k))),some (.od,.list (ps.map mr)),some (.od,cc t),some (.od,dDue (some (a,p,k))),u4]
  have v0:∀{u4},Vv [] Φ (.ix (.var 0) (.int 0)) (R u4) (.int a):=v_ix (x:=dFar b t (some (a,p,k))) (z01 rfl) z04.e rfl rfl;have v1:∀{u4},Vv [] Φ (.ix (.var 0) (.int 1)) (R u4) (.int k):=v_ix (x:=dFar b t (some (a,p,k))) (z01 rfl) z04.e rfl rfl;have d0:∀{u4},Vv [] Φ (.ix (.var 3) (.int 0)) (R u4) (.int a):=v_ix (x:=dDue (some (a,p,k))) (z01 rfl) z04.e rfl rfl;have d1:∀{u4},Vv [] Φ (.ix (.var 3) (.int 1)) (R u4) (.int k):=v_ix (x:=dDue (some (a,p,k))) (z01 rfl) z04.e rfl rfl;refine z2i (t_tv (z6n (ng:=false) (x:=dDue (some (a,p,k))) (z01 rfl)).e rfl) rfl ?_;refine z2i (k:=false||(false||(false||false))) (t_or (z33 (t_tv (zgi (x:=dFar b t (some (a,p,k))) (z01 rfl)).e rfl)) fun _=>t_or (t_tv (z0p (k:=false) (v_bi (d:=.int 3) (z00 (z01 rfl) z03) rfl rfl).e z04.e rfl).e rfl) fun _=>t_or (z33 (t_tv (z07 (z00 v0.e z03) rfl (z5w a) rfl).e rfl)) fun _=>z33 (t_tv (z07 (z00 v1.e z03) rfl (z5w k) rfl).e rfl)) rfl ?_;refine z0d (ρ':=R (some (.al,cc n))) (z0e (v_ix (x:=dFar b t (some (a,p,k))) (z01 rfl) z04.e rfl (za1 n))) ?_;refine z2i (k:=false||(false||false)) (t_or (t_tv (z0p (v_sl (d:=dDue (some (a,p,k))) (x:=dFar b t (some (a,p,k))) (z01 rfl) z7j (z3v (i:=2) z04.e) rfl (z8v _)).e (z01 rfl) (zrm (a,p,k))).e rfl) fun _=>t_or (z33 (t_tv (zgi (x:=cc n) (z01 rfl)).e rfl)) fun _=>t_tv (z0p (k:=false) (v_bi (d:=.int 2) (z00 (z01 rfl) z03) rfl rfl).e z04.e rfl).e rfl) rfl ?_;have vb:Vv [] Φ (.ix (.var 1) (.ix (.var 3) (.int 1))) (R (some (.al,cc n))) (mr p):=v_ix (z01 rfl) d1.e (ix_B (x:=(p,k)) hz) (z1p _);refine z2i (k:=false||(false|| !(bip p n.1 n.2))) (t_or (z33 (t_tv (z07 (z00 (v_ix (d:=pk n.1) (z01 rfl) z04.e rfl (z05 _)).e z03) rfl (zhw pn.1.pk (by have:=pn.1.len;omega)) rfl).e rfl)) fun _=>t_or (z33 (t_tv (z07 (z00 (v_ix (d:=pk n.2) (z01 rfl) z04.e rfl (z05 _)).e z03) rfl (zhw pn.2.pk (by have:=pn.2.len;omega)) rfl).e rfl)) fun _=>z33 (t_tv (z07 (z00 vb.e (z00 (z01 rfl) z03)) rfl (zar hg pn.1.pk pn.2.pk) rfl).e rfl)) (by rw[zou tk hg hb];rfl) ?_;have ea:=zcr tk (n:=n) ⟨pn.1.pk,pn.2.pk⟩;rw[show apI t n 0+apI t n 1=a from(zmg tk hg).trans hy.symm]at ea;have hk:(decide (a=0)==decide (n=t))=true:=by have:decide (a=0)=decide (n=t):=decide_eq_decide.mpr (by rw[hy];exact zo3 tk hg);rw[this];exact beq_self_eq_true _
  have fin:=v_and (Κ:=[]) (Φ:=Φ) (ρ:=R (some (.al,cc n))) (k:=true) (k':=decide (a=0)==decide (n=t)) (z0p (k:=true) (z07 (n:=0) (f:="_law_apart_by") (z00 (z01 (i:=2) rfl) (z00 (z01 (i:=4) rfl) z03)) rfl ea rfl).e d0.e (by rw[eqI,we rfl])).e fun _=>z0p (z0p d0.e z04.e (eqI a 0)).e (z0p (z01 (i:=4) rfl) (z01 (i:=2) rfl) (zq8 n t)).e (eqB _ _);rw[hk]at fin;exact z0h (z0g fin)
theorem z8b (x y:D):∀t∈z4p,zh8 [x,y,t]=.ok (.fr,.bool true):=fun t ht=>by simp only[z4p,au,cw,or_false]at ht;rcases ht with rfl|rfl|rfl|rfl|rfl|rfl|rfl|rfl|rfl|rfl|rfl|rfl<;>exact rfl
theorem zty {xs:List Int}(hl:xs.length<=63):zek [.list (xs.map .int)]=.ok (.fr,.bool true):=by
 unfold zek;refine z0k ?_
 let Q:Res Out->Prop:=fun z=>z=.ok (.rt .fr (.bool true))
 show Q _;unfold zmv
 let Φ:List Fn:=[F_z9,z1n,zh8,zco,zcf,ze0,zf8,zf7,zau]
 obtain⟨w,ws,rs,cs,re,hb,eb⟩:=zmm hl (m:=15) (o:=6) (k:=8) (Φ:=Φ) (by decide) (by decide) (by decide) rfl [none,none,none,none,none,none,none,none];refine q_ok eb ?_;have hcm:=hb.cm;have hrl:=hb.rl;have gw:=hb.gw;obtain⟨ps,⟨hr,q2,q3⟩,eq⟩:=zel hb.gw hb.rg cs (by omega);have hg:∀p∈ps,GR p:=fun p h=>(hr p h).gr;have hpl:ps.length<=15:=by omega
 let B:GD:=(.fr,.list (ps.map mr))
 refine q_ok (z18 (z2o (z00 (z01 rfl) (z00 (z01 rfl) (z00 (z01 rfl) z03))) rfl eq) (z6g _)) ?_;refine q_ok (z18 (zaz (w:=(true,ps.map mr)) (z01 rfl) rfl (zfl _ _) (z6g ps)) (z6g ps)) ?_
 let tn:List Int:=cut re none (some 16)++[7]
 have hcl:=z0z re none (some 16);have htl:tn.length=(cut re none (some 16)).length+1:=az ..;have hz:evE [] Φ (.bin .Add (.sl (.var 5) .nil (.tv (.int 16))) (.lst (.cons (.int 7) .nil))) (bgR xs w ws rs cs re [some B,some B,none,none,none,none,none,none])=.ok (.fr,.list (tn.map .int)):=by show _=Res.ok (G.fr,PyData.list (qu PyData.int (cut re none (some 16)++[7])));rw[cq];exact zgh (e_sl (z01 rfl) z7j (z3v z04.e) (z2f _ _ _)) (Ev.of (z22 (z02 z04 z0f))) (add_list (by rw[ah];show(cut re none (some 16)).length+1<=1000;omega)) (by rw[<-cq];exact z0m _)
 refine q_ok (z18 hz (z0m _)) ?_
 let T:GD:=(.fr,.list (tn.map .int))
 let R:Option GD->Option GD->Option GD->Option GD->Option GD->Rho:=fun u9 u10 u11 u12 u13=>bgR xs w ws rs cs re [some B,some B,some T,u9,u10,u11,u12,u13]
 refine q_nm (m:=fun x:Int×Nat=>.int x.2) (xs:=tn.zipIdx) (zv8 rfl (by omega)) (fun _=>rfl) (fun _ ρ=>∃u9 u10 u11 u12 u13,ρ=R u9 u10 u11 u12 u13) ⟨none,none,none,none,none,rfl⟩ ?_ ?_
 ·rintro pre x post ρ hx ⟨u9,u10,u11,u12,u13,rfl⟩
  have hj:=za8 (xs:=tn) (x:=x) (by rw[hx];exact ax _ ak);generalize hcv:x.1+31*(x.2:Int)=c;refine q_ok (z0e (d:=.int c) (z0c (v_ix (d:=.int x.1) (z01 rfl) (z01 rfl) (ix_I hj) rfl).e (z0c (d:=.int (31*(x.2:Int))) z04.e (z01 rfl) (z4j (by decide)) rfl).e (by rw[<-hcv];rfl) rfl)) ?_;obtain⟨f,a,hfa,en⟩:=zg0 c gw hb.rg hr (by omega)
  let t:P×P:=(f,a)
  have ht:PW ws t.1/\PW ws t.2:=hfa;refine q_ok (z0e (d:=cc t) (z07 (z00 (z01 rfl) (z00 (z01 rfl) (z00 (z01 rfl) (z00 (z01 rfl) z03)))) rfl en (za1 t))) ?_;obtain⟨m2,_,em2⟩:=z2m c (k:=22) (by decide) (by decide)
  obtain⟨b,hb2,hb3⟩:∃b:Bool,m2%2=(if b then 0 else 1)/\b=decide (m2%2=0):=by
   rcases(show m2%2=0\/m2%2=1 by omega)with e|e
   ·exact⟨true,e,(we e).symm⟩
   ·exact⟨false,e,(wf (by omega)).symm⟩
  refine q_ok (z0e (d:=.int (m2%2)) (z0c (z07 (z00 (z01 rfl) (z00 z04.e z03)) rfl em2 rfl).e z04.e (z10 (by decide)) rfl)) ?_
  let R4:Option GD->Rho:=fun u13=>R (some (.al,.int x.2)) (some (.al,.int c)) (some (.al,cc t)) (some (.al,.int (m2%2))) u13
  have vs:Vv [] Φ (.ix (.lst (.cons (.str "for") (.cons (.str "against") .nil))) (.var 12)) (R4 u13) (.str (sd b)):=by rw[hb3];exact zmq (w:=m2) (z01 rfl)
  have ef:=e_z9 gw hr (by omega) ht b;refine q_ok (ρ':=R4 (some (.al,dFar b t (bst b t ps.zipIdx)))) (z0e (z07 (z00 (z01 rfl) (z00 (z01 rfl) (z00 vs.e z03))) rfl ef (zbx _ _ _))) ?_;have ed:=zl6 hg (by omega) (t:=t) ⟨ht.1.pk,ht.2.pk⟩ b;rw[<-hb2]at ed;refine z2d (k:=false) (z33 (t_tv (z07 (z00 (z01 rfl) (z00 (z01 rfl) (z00 (z01 rfl) (z00 (z07 (z00 (z01 rfl) (z00 (z01 rfl) (z00 (z01 rfl) z03))) rfl ed (z8v _)).e z03)))) rfl (zrd gw hr ht b) rfl).e rfl)) rfl ?_;obtain⟨m3,_,em3⟩:=z2m c (k:=23) (by decide) (by decide);obtain⟨m4,_,em4⟩:=z2m c (k:=24) (by decide) (by decide);obtain⟨o,ho,go,eo⟩:=zuj m4;have body:evS [] Φ (.ifS (.not (.tv (.call 2 "_law_refused" (.cons (.var 7) (.cons (.var 11) (.cons (.call 3 "_law_odd" (.cons (.call 1 "_law_mix" (.cons (.var 10) (.cons (.int 24) .nil))) .nil)) .nil)))))) (.seq (.ret (.bl false)) .nil) .nil) (R4 (some (.al,dFar b t (bst b t ps.zipIdx))))=.ok (.nx (R4 (some (.al,dFar b t (bst b t ps.zipIdx))))):=z0l (k:=false) (z33 (t_tv (z07 (z00 (z01 rfl) (z00 (z01 rfl) (z00 (z7o (z00 (z07 (z00 (z01 rfl) (z00 z04.e z03)) rfl em4 rfl).e z03) rfl eo) z03))) rfl (z8b _ _ o ho) rfl).e rfl)) (fun z=>by cases z) fun _=>z0i;refine q_ok (z0l (k:=decide (m3%5=0)) (z1o (z0c (z07 (z00 (z01 rfl) (z00 z04.e z03)) rfl em3 rfl).e z04.e (z10 (by decide)) rfl).e) (fun _=>z0d body z0i) fun _=>z0i) ?_;exact z5a ⟨_,_,_,_,_,rfl⟩
 ·rintro ρ ⟨u9,u10,u11,u12,u13,rfl⟩
  exact q_rt (z0g (d:=.bool (true&&true)) (v_and (z0p (z01 rfl) (z01 rfl) (eq_B ps)).e fun _=>z6n (ng:=false) (x:=PyData.none) (z07 (z00 (Ev.of (z22 z0f)) (z00 (z0v (z02 (z0v z0f) (z02 (z0v z0f) z0f))).e (z00 z20.e z03))) rfl (show F_z9 [.list [],.tuple [.tuple [],.tuple []],.str "for"]=.ok (.fr,.none)from rfl) rfl).e)) rfl
end Mk
namespace Mk
open PySem PySem.Spec PyProof.Rows L2 Mi
def top (i:Nat):Stmt:=PySem.Challenge.pw_likebook_k82_how_far.main.body.getD i (.Pass ⟨0,0,0,0⟩)
abbrev FREE:List Str:=["isinstance","str","tuple","sorted","max","min","dict","sum","enumerate","range","int","zip","len","bool","ValueError","set","list"]
abbrev Rz:List DRow:=[
 ⟨"check_side",top 15,["side"],["side"],["isinstance","str"],[],S_z0,F_z0,.n⟩,
 ⟨"other_side",top 16,["side"],["side"],[],[0],S_z1,F_z1,.n⟩,
 ⟨"side_of",top 17,["case","side"],["case","side"],[],[0],S_z2,F_z2,.n⟩,
 ⟨"case_with",top 18,["side","own","opposed"],["side","own","opposed"],[],[],S_z3,F_z3,.n⟩,
 ⟨"greatest",top 20,["pairs","found","name","amount"],["pairs"],["tuple","sorted","max"],[],S_z4,F_z4,.n⟩,
 ⟨"meet",top 21,["one","other","held"],["one","other"],["tuple","min","dict"],[],S_z5,F_z5,.n⟩,
 ⟨"join",top 22,["one","other"],["one","other"],[],[4],S_z6,F_z6,.n⟩,
 ⟨"excess",top 23,["one","other","held"],["one","other"],["sum","max","dict"],[],S_z7,F_z7,.n⟩,
 ⟨"opposed_of",top 25,["one"],["one"],[],[2,1],S_z8,F_z8,.n⟩,
 ⟨"far",top 27,["book","case","side","own","opposed","best","k","one","amount"],["book","case","side"],["enumerate"],[3,5,8,6,7,2,1],S_z9,F_z9,.n⟩,
 ⟨"_law_mix",top 29,["_law_cell","_law_k","_law_some"],["_law_cell","_law_k"],[],[],zk7,z1n,.n⟩,
 ⟨"_law_names",top 30,["_law_cell","_law_many","_law_letters","_law_size","_law_at_here","_law_words","_law_k","_law_spelt","_law_j","_law_step"],["_law_cell","_law_many"],["sorted","range","int"],[],zkl,z8m,.n⟩,
 ⟨"_law_rungs",top 31,["_law_cell","_law_low"],["_law_cell"],[],[],zf0,z85,.n⟩,
 ⟨"_law_digits",top 32,["_law_cell","_law_many","_law_base","_law_found","_law_k"],["_law_cell","_law_many","_law_base"],["range"],[],zgk,z1m,.n⟩,
 ⟨"_law_packed",top 33,["_law_words","_law_amounts"],["_law_words","_law_amounts"],["tuple","zip"],[],zj9,z3u,.n⟩,
 ⟨"_law_free_names",top 34,["_law_cells","_law_kept_words","_law_found","_law_cell","_law_digits_here","_law_spelt","_law_size"],["_law_cells"],[],[13],zgd,z8r,.n⟩,
 ⟨"_law_begun",top 35,["_law_script","_law_many","_law_most","_law_whole","_law_head","_law_rungs_here","_law_words","_law_top"],["_law_script","_law_many","_law_most"],["sorted","sum"],[15,11,12,10],zfq,zau,.n⟩,
 ⟨"_law_pack_by",top 36,["_law_cell","_law_words","_law_rungs_here"],["_law_cell","_law_words","_law_rungs_here"],["len"],[14,13],zge,z5x,.n⟩,
 ⟨"_law_case_by",top 37,["_law_cell","_law_words","_law_rungs_here","_law_digits_here"],["_law_cell","_law_words","_law_rungs_here"],["len"],[17,10,14,13],zgg,z7h,.n⟩,
 ⟨"_law_less",top 38,["_law_one","_law_cell","_law_rungs_here","_law_base","_law_rows","_law_pair","_law_digit","_law_mine"],["_law_one","_law_cell","_law_rungs_here"],["tuple","zip","len","min"],[13],zfh,z65,.n⟩,
 ⟨"_law_free_ruling",top 39,["_law_cell","_law_words","_law_base","_law_many","_law_digits_here","_law_own","_law_reason","_law_case"],["_law_cell","_law_words","_law_base"],["zip","min","len"],[14,13],zk9,zak,.n⟩,
 ⟨"_law_ruling_by",top 40,["_law_cell","_law_words","_law_rungs_here","_law_case","_law_way","_law_reason"],["_law_cell","_law_words","_law_rungs_here"],["len"],[19,10,18,20],zfo,zft,.n⟩,
 ⟨"_law_amount",top 41,["_law_one","_law_word","_law_told","_law_amount_here"],["_law_one","_law_word"],[],[],zlg,zax,.n⟩,
 ⟨"_law_fits",top 42,["_law_one","_law_two","_law_word","_law_amount_here"],["_law_one","_law_two"],[],[22],zj8,z90,.n⟩,
 ⟨"_law_at",top 43,["_law_side"],["_law_side"],["int"],[],zqt,z3q,.n⟩,
 ⟨"_law_clash",top 44,["_law_one","_law_two"],["_law_one","_law_two"],[],[23,24],zja,zex,.n⟩,
 ⟨"_law_binds_by",top 45,["_law_one","_law_case","_law_at_here"],["_law_one","_law_case"],[],[23,24],zkg,zcs,.n⟩,
 ⟨"_law_facing",top 46,["_law_one"],["_law_one"],[],[24],zqb,zo9,.n⟩,
 ⟨"_law_covers_by",top 47,["_law_one","_law_two"],["_law_one","_law_two"],[],[23,27],zq6,zu8,.n⟩,
 ⟨"_law_twin",top 48,["_law_one","_law_cell","_law_words","_law_rungs_here","_law_way","_law_at_here","_law_case","_law_reason"],["_law_one","_law_cell","_law_words","_law_rungs_here"],[],[19,10,17,24],zh6,zf4,.n⟩,
 ⟨"_law_book_by",top 49,["_law_cells","_law_words","_law_rungs_here","_law_found","_law_cell","_law_one"],["_law_cells","_law_words","_law_rungs_here"],["len"],[25,10,29,21],zfj,zf7,.n⟩,
 ⟨"_law_number",top 50,["_law_found"],["_law_found"],["isinstance","bool","int"],[],zox,z8c,.n⟩,
 ⟨"_law_near",top 51,["_law_cell","_law_book","_law_words","_law_rungs_here","_law_way","_law_one","_law_at_here","_law_mine"],["_law_cell","_law_book","_law_words","_law_rungs_here"],["len"],[17,10,24,18],zha,zf8,.n⟩,
 ⟨"_law_no_side",top 52,["_law_error","_law_some"],["_law_error"],["isinstance","ValueError"],[],zu2,fun _=>.no,.e "NoSide" true⟩,
 ⟨"_law_odd",top 53,["_law_cell","_law_some"],["_law_cell"],[],[],zjk,zco,.n⟩,
 ⟨"_law_above",top 54,["_law_one","_law_two","_law_found","_law_word","_law_amount_here"],["_law_one","_law_two"],["max"],[22],zkn,z78,.n⟩,
 ⟨"_law_apart_by",top 55,["_law_case","_law_other","_law_found","_law_at_here"],["_law_case","_law_other"],["range"],[35],zjw,zbu,.n⟩,
 ⟨"_law_due",top 56,["_law_book","_law_case","_law_at_here","_law_due_here","_law_k","_law_amount_here"],["_law_book","_law_case","_law_at_here"],["range","len"],[24,35],zme,ze0,.n⟩,
 ⟨"_law_is_pack",top 57,["_law_found","_law_row"],["_law_found"],["len","set","isinstance","tuple","sorted"],[31],zjj,zbq,.n⟩,
 ⟨"_law_told_well",top 58,["_law_found","_law_book","_law_case","_law_due_here","_law_near_here"],["_law_found","_law_book","_law_case","_law_due_here"],["len","isinstance","tuple"],[36,26,38,31],zmt,zcf,.n⟩,
 ⟨"_law_refused",top 59,["_law_book","_law_case","_law_side","_law_error","e"],["_law_book","_law_case","_law_side"],[],[9],zqo,zh8,.g z2p 33⟩]
abbrev Lr:DRow:=⟨"law",top 60,["_law_script","_law_whole","_law_words","_law_rungs_here","_law_cells","_law_rest","_law_book","_law_handed","_law_turns","_law_k","_law_cell","_law_case","_law_at_here","_law_found"],["_law_script"],["range","len","list"],[9,10,40,34,39,37,32,30,16],zmv,zek,.n⟩
abbrev Xt:List XR:=[⟨"NoSide",[("Unknown",false),("Twice",false),("NoRow",false),("NotYours",false),("NoRuling",false),("NotAllowed",false),("Late",false),("NoCourt",false),("NoReason",false),("TooMuch",false),("NoPack",false),("NoSide",true)],"BookError"⟩]
theorem t_ok:oks (Rz++[Lr]) Xt FREE 0 (Rz++[Lr])=true:=by decide+kernel
theorem t_F:fOks (Rz++[Lr]) (Rz++[Lr]):=⟨rfl,rfl,rfl,rfl,rfl,rfl,rfl,rfl,rfl,rfl,rfl,rfl,rfl,rfl,rfl,rfl,rfl,rfl,rfl,rfl,rfl,rfl,rfl,rfl,rfl,rfl,rfl,rfl,rfl,rfl,rfl,rfl,rfl,trivial,rfl,rfl,rfl,rfl,rfl,rfl,rfl,rfl,trivial⟩
def zLd:v7:=⟨"law",z1j (top 60),z0o (top 60),z0a (top 60),⟨287,0,302,72⟩⟩
theorem zH3:KEq zKz (Rz++[Lr]) FREE Xt:=by
 rw[PySem.W.Fast.tkeq_eq];intro P
 kernel_rfl
theorem zT1:Tp.said PySem.Challenge.rw_likebook_k82_how_far=true:=by
 rw[PySem.W.Fast.tsaid_eq]
 kernel_rfl
theorem zT2:W.opening zRp=W.plainProg zRp.main.scope.names:=by kernel_rfl
theorem zT3:∀s,fenceModules? zRp s=some s:=fun s=>by kernel_rfl
theorem zT4:W.defOf zQv PySem.Challenge.rw_likebook_k82_how_far.row.name=some (zLd,[]):=by kernel_rfl
theorem zT5:zRp.theDef PySem.Challenge.rw_likebook_k82_how_far.row.name=some (zLd.params,zLd.body,zLd.scope):=by kernel_rfl
theorem zT6:W.kwWritten? zLd.params.kwonlyargs zLd.params.kw_defaults=some []:=by kernel_rfl
theorem zT7:(!PySem.Challenge.rw_likebook_k82_how_far.row.writes||PySem.Challenge.rw_likebook_k82_how_far.row.records.isEmpty)=true:=by kernel_rfl
theorem zT8:(W.chainsOk zQv&&W.opensWell zRp&&(W.frees PySem.Challenge.rw_likebook_k82_how_far.row.toRowW&&PySem.Challenge.rw_likebook_k82_how_far.row.within.isEmpty))=true:=by kernel_rfl
theorem walk {l:W.OpenLaw}{q:a8}{loose:List Str}{XP:(Str->Option Value)->Heap->Prop}{YP:World->Heap->Prop}{d:v7}{K:g9->W.Frag}(hn:l.most=some 63)(hdf:d.params.defaults=[])
  (hY:∀(w:World) (h:Heap),YP w h->(K w.params).In h)
  (F:∀(w:World) (mg:Str->Option Value) (fa:Addr) (h:Heap),(K w.params).In h->h.Ns cg mg->mg d.name=some (.ref fa)->∃fd:e7,(∀(s:ac) (u:Value),qx s fd ⟨[u],[]⟩ [("_law_script",u)])/\∀base:Heap,(K w.params).In base->base.Ns cg mg->FnOk l.prog w (K w.params) mg base CX0 42 fa fd ["_law_script"] (spD (K w.params) 1 zek)):
  W.WalkO q loose XP YP l.row.toRowW d [] (fun f vs=>PySem.call f vs):=
 L2.walk_of (n:=63) (k:=42) (x:="_law_script") (CX:=fun _=>CX0) (sp:=fun w=>spD (K w.params) 1 zek) hn (by decide) hdf ⟨rfl,by decide,by decide⟩ hY F (fun _ _ a ns hl _ hS=>⟨_,_,_,rfl,zap hS,zty hl,fun v H' _ r=>r⟩) fun _ _ _ _ _ z=>z
theorem b_ok:bOks Rz:=⟨fun _ _ _ _ _ _=>by1 fun _=>rfl,fun _ _ _ _ _ _=>by1 fun _=>rfl,fun _ _ _ _ _ _=>by2 fun _ _=>rfl,fun _ _ _ _ _ _=>by3 fun _ _ _=>rfl,fun _ _ _ _ _ _=>by1 fun _=>rfl,fun _ _ _ _ _ _=>by2 fun _ _=>rfl,fun _ _ _ _ _ _=>by2 fun _ _=>rfl,fun _ _ _ _ _ _=>by2 fun _ _=>rfl,fun _ _ _ _ _ _=>by1 fun _=>rfl,fun _ _ _ _ _ _=>by3 fun _ _ _=>rfl,fun _ _ _ _ _ _=>by2 fun _ _=>rfl,fun _ _ _ _ _ _=>by2 fun _ _=>rfl,fun _ _ _ _ _ _=>by1 fun _=>rfl,fun _ _ _ _ _ _=>by3 fun _ _ _=>rfl,fun _ _ _ _ _ _=>by2 fun _ _=>rfl,fun _ _ _ _ _ _=>by1 fun _=>rfl,fun _ _ _ _ _ _=>by3 fun _ _ _=>rfl,fun _ _ _ _ _ _=>by3 fun _ _ _=>rfl,fun _ _ _ _ _ _=>by3 fun _ _ _=>rfl,fun _ _ _ _ _ _=>by3 fun _ _ _=>rfl,fun _ _ _ _ _ _=>by3 fun _ _ _=>rfl,fun _ _ _ _ _ _=>by3 fun _ _ _=>rfl,fun _ _ _ _ _ _=>by2 fun _ _=>rfl,fun _ _ _ _ _ _=>by2 fun _ _=>rfl,fun _ _ _ _ _ _=>by1 fun _=>rfl,fun _ _ _ _ _ _=>by2 fun _ _=>rfl,fun _ _ _ _ _ _=>by2 fun _ _=>rfl,fun _ _ _ _ _ _=>by1 fun _=>rfl,fun _ _ _ _ _ _=>by2 fun _ _=>rfl,fun _ _ _ _ _ _=>by4 fun _ _ _ _=>rfl,fun _ _ _ _ _ _=>by3 fun _ _ _=>rfl,fun _ _ _ _ _ _=>by1 fun _=>rfl,fun _ _ _ _ _ _=>by4 fun _ _ _ _=>rfl,fun _ _ _ _ _ _=>by1 fun _=>rfl,fun _ _ _ _ _ _=>by1 fun _=>rfl,fun _ _ _ _ _ _=>by2 fun _ _=>rfl,fun _ _ _ _ _ _=>by2 fun _ _=>rfl,fun _ _ _ _ _ _=>by3 fun _ _ _=>rfl,fun _ _ _ _ _ _=>by1 fun _=>rfl,fun _ _ _ _ _ _=>by4 fun _ _ _ _=>rfl,fun _ _ _ _ _ _=>by3 fun _ _ _=>rfl,trivial⟩
end Mk
open PySem PySem.W PyProof.Rows Mi
set_option maxRecDepth 100000 in
set_option maxHeartbeats 0 in
theorem PySem.Challenge.cw_likebook_k82_how_far_holds : PySem.Challenge.rw_likebook_k82_how_far.Holds := by
 refine Tp.holds (l:=PySem.Challenge.rw_likebook_k82_how_far) (q:=Mk.zQv) (d:=Mk.zLd) (K:=Mk.zKz) (M:=100000) (N:=200000) Mk.zT1 (Tp.Ko_as _ _ Mk.zAs) Mk.zT2 rfl Mk.zT3 (by decide) Mk.zH1 Mk.zH2 Mk.zT4 Mk.zT5 Mk.zT6 Mk.zT7 Mk.zT8 ⟨rfl,rfl,rfl,rfl,rfl,by decide+kernel⟩ (by w_witness2) ?_;refine Mk.walk (l:=PySem.Challenge.rw_likebook_k82_how_far) rfl rfl (fun w h Y=>Y) ?_;intro w mg fa h KX G hmg;exact all_rows (Rs:=Mk.Rz) (lr:=Mk.Lr) (xt:=Mk.Xt) (fr:=Mk.FREE) KX G hmg rfl rfl Mk.t_ok Mk.t_F (zei (fun r hr=>(z9a Mk.zH3 w.params).1 r (gk _ hr)) Mk.b_ok) ((z9a Mk.zH3 w.params).1 Mk.Lr (ax _ (.head _))) (fun _ _ _ _ _ _ s v=>.of_eq rfl) (z9a Mk.zH3 w.params).2.1 (z9a Mk.zH3 w.params).2.2 (fun _=>by decide)
