import PyProof.Rows.All
import Wide.All
import OpenK.AllK
import PySem.Challenge.RW_likebook_k52_opens
open Lean.Parser.Command in
local macro_rules|`(def $a:declId $b:optDeclSig $c:declVal)=>`(noncomputable def $a:declId $b:optDeclSig $c:declVal)
noncomputable section
open Array renaming length_toList→cq,getElem?_eq_some_iff→jh,toArray_toList→kz,all_toList→m8,getElem?_eq_getElem→o7,toList_append→sf,append_assoc→tf,find?_toList→tz
open Bool renaming and_eq_true_iff→bg,and_eq_true→bh,false_ne_true→dz,or_eq_true_iff→gr,or_false→pe,or_true→qi,eq_iff_iff→qp,beq_eq_decide_eq→qv,eq_false_iff→uo,not_eq_true'→uq
open Int renaming emod_nonneg→jo,emod_lt_of_pos→ly,toNat_natCast→mo
open List renaming mem_cons_of_mem→ah,mem_cons_self→ak,getD_eq_getElem?_getD→am,mem_cons→ao,length_map→aq,mem_singleton→av,length_append→ax,length_cons→ay,size_toArray→az,getElem?_eq_getElem→bn,mem_append→bo,all_eq_true→bp,replicate→bq,getElem?_map→br,getElem?_eq_some_iff→bv,mem_append_right→bw,map_cons→bx,append_nil→ci,range→cj,getElem?_set_ne→cr,contains_iff_mem→cu,all_cons→cx,mem_append_left→cy,getElem?_replicate→cz,length_replicate→df,find?_cons→dg,mem_map→dh,getElem?_set_self→di,lookup_cons→dr,map_inj_left→du,length_set→dw,length_range→d8,mem_of_getElem?→d9,map_append→ef,filterMap_cons→eh,getElem?_set→et,length_take→fm,not_mem_nil→fo,length_drop→gh,mem_range→gj,append_assoc→gm,map_map→gq,getElem?_append_left→gw,getElem?_eq_none→ij,nodup_append→iw,nodup_cons→i6,getElem?_append_right→jf,getElem_mem→jz,length_eq_zero_iff→j4,getElem?_cons_succ→j5,take_of_length_le→ki,length_nil→km,nodup_nil→k9,drop_eq_getElem_cons→li,getElem?_range→lj,filter_eq_self→lm,any_cons→lp,lookup→l6,length→l7,ext_getElem?→ml,drop_length→m9,mem_of_mem_drop→nk,mem_of_mem_take→nq,getElem?_append→nr,length_pos_iff→n9,mem_filterMap→ou,contains_cons→o0,mem_of_find?_eq_some→o8,flatten_cons→pc,filterMap_cons_none→ph,filterMap_cons_some→pi,append_cancel_right→pj,mem_flatten→p7,any_eq_true→qa,mem_filter→qm,of_mem_zip→qo,nil_append→qr,length_singleton→qu,drop_drop→rg,replicate_succ→rj,map_congr_left→rq,Pairwise→sy,getElem?_drop→t8,length_zipIdx→ua,take_sublist→uf,set_set→uw,all_map→uy,pairwise_map→uz,map_id→vf
open List.Pairwise renaming imp_of_mem→pp
open Nat renaming le_refl→ag,ne_of_lt→bz,le_trans→b8,lt_of_lt_of_le→b9,lt_irrefl→cw,zero_le→dv,le_succ→ip,min_eq_left→jn,succ_le_succ→j6,lt_succ_self→lg,le_add_right→lh,lt_succ_of_lt→mj,ne_of_gt→oh,lt_trans→oj,zero_add→on,lt_of_le_of_lt→o5,min_le_right→p6,le_of_lt→qb,lt_or_ge→qk,le_of_succ_le_succ→ql,one_lt_two→rc,add_sub_cancel'→rh,add_le_add_left→se,le_of_eq→uc,succ_pos→ur
open Option renaming map_eq_some_iff→dj,isNone_iff_eq_none→gz,bind_eq_some_iff→ma,isSome_map→mh
open Prod renaming fst→ux,snd→vo
open PyProof.Rows renaming kindOf→mz,AllBare→og,size_push'→oy,subscriptTail_builtinR→qf,envOfC→qx,Constant_none→si,IntsAre→vh
open PySem renaming wpAny_bind→aa,PyData→ae,wpAny_pure→aj,Shared→aw,sizeLine→ba,mainGlobals→bj,wpAny_loadPart_at→ce,Program→cf,sizeLine_eq→cg,compareOp→cv,bootBuiltins→db,starEach→de,wpAny_field→dq,wpAny_callSpecial?_slot→e7,rawInt→fg,SetTable→fi,behindInMarks→fj,wpAny_holding→fk,wpAny_truthy_bool→fq,assignEach→fv,wpAny_setField_rec→gb,Params→gu,wpAny_Call_Name_kw→ik,foldedSetIterable→iu,Around→iz,binaryOp→i7,FuncData→i8,PassesOwn→ja,wpAny_call_entry→jb,wpAny_mono→jc,NameKind→jd,wpAny_seqItems→jg,wpAny_passesOwn→jm,codeAny_mono→jq,wpAny_newObj_type→jr,codeAny_call_builtin→jt,wpAny_isSubtype_exc→jv,wpAny_getItem_str_slice→jy,sysModules→j7,tupleKind_room_in1→j8,letOwnedTupleGo→kj,attributeBase→ko,wpAny_standAt→kq,noteFrame→kr,backTo→ku,wpAny_rule→k8,swapsWith→lc,codeAny→lf,codeAny_builtin→lr,importedModules→ls,Paired→lu,wpAny_pyIter_tuple→lw,IsRangeIter→lz,sliceBounds→l8,setFlight→l9,treeTable→md,wpAny_pyIter_list→mf,wpAny_setField→mr,wpAny_pyIter_enum→mx,plainObj_wpAny_Assign_Attribute→my,call_meets→m7,checkBuiltinCall→nc,wpAny_onRaise→nh,OsState→ni,unbindBehindTheSuite→nv,wpAny_execs_nil→ny,post_val_or_str→nz,wpAny_raiseNew_none→n6,scanBound→oo,wpAny_pyIter_range→oq,relayAll→oz,keywordEach→pb,wpAny_comprehension_free→pf,tupleKind→pr,lastMarks→pw,noFill_tuple_add→pz,wpAny_pyNext_enum_itemD→p8,GenState→p9,wpAny_call→qc,Keyword→qd,concat_meets→qe,typeIs_str→qg,wpAny_pyNext_enum_endD→qh,isInstance→qj,codeAny_of_tree→qq,wpAny_isTrue_Compare1→qt,wpAny_loadName_local→qw,sliceRange_one→qy,Operator→qz,excClassObj→q8,handleBy→q9,swapsWithSole→sr,swappedStores→sw,seq_tuple_add→sx,wpAny_Name→tm,assign→tq,pyIter→tu,IsPart→t7,excMatches→t9,wpAny_assign_Name→ub,BindsTo→ue,valueAt→ug,getItem→uh,backToKw→ui,call_meetsIn→uj,seqIndex_neg→uk,slot_list_getitem→ul,callerA→um,callType_new→ut,wpAny_storeSet_of→uu,OwnTail→uv,isTrue→u4,pyNext→u5,seqIndex_of→u6,wpAny_letGo→vd,builtinKind→ve,leaving→vg,builtinsNs→vi,wpAny_load→vj,bindArgs→vk,PlainAttrs→vm,intItems→vn,IsRange→vp,getAttr→vq,Result→vt,typeOf→vx
open PySem.Builtin.Range renaming rangeSize→eu,small→ll,rangeFitsLong→om
open PySem.Builtin.Slice renaming slicePlaces→ji,sliceAdjust→o6
open PySem.Builtin.SmallTypes renaming nextOf→jk,ownedTupleIsFree→lq,stopIteration→mw
open PySem.Builtin.Str renaming occurrences→gc,strSliceIndices→i9,strKind→r0
open PySem.Calls renaming Name_function_global→ky,callWith_builtin→mi,evalArgs_plain→nj,spliced_cons→ox,spliced_nil→o9,loadGlobal_global→pv
open PySem.Heap renaming get?_push_of_some→af,get?_push_size→au,lt_size→bc,SameBut→bu,get?_update_self→d7,get?_update_other→gk,get?_none_of_le→jp,size_push→jx,get?_update_ne→n8,get?_push_at→pd,MadeExcOf→re
open PySem.Heap.Ns1 renaming of_empty→ud
open PySem.Heap.SameBut renaming update→ju
set_option Elab.async false
set_option genInjectivity false
set_option genSizeOf false
set_option linter.all false
set_option maxRecDepth 100000
theorem vy {c:Prop}{d:Decidable c}(h:c){α:Sort _}{a b:α}:@ite α c d a b=a:=if_pos h
theorem vz {c:Prop}{d:Decidable c}(h:¬c){α:Sort _}{a b:α}:@ite α c d a b=b:=if_neg h
theorem v5 {α}{a b:α}(h:some a=some b):a=b:=Option.some.inj h
theorem wa {α β}{a c:α}{b d:β}(h:(a,b)=(c,d)):a=c∧b=d:=Prod.mk.inj h
theorem wb {a:Prop}(h:¬¬a):a:=Classical.not_not.mp h
theorem wc {p:Prop} [Decidable p] (h:decide p=true):p:=of_decide_eq_true h
theorem we {p:Prop} [Decidable p] (h:p):decide p=true:=decide_eq_true h
theorem wg {p:Prop} [Decidable p] (h:¬p):decide p=false:=decide_eq_false h
theorem wj {α} [BEq α] [LawfulBEq α] {a b:α}(h:(a==b)=true):a=b:=beq_iff_eq.mp h
abbrev Z9 (x:PySem.Str):Prop:=(x==("__debug__":PySem.Str))=false
namespace Tp
open PySem PySem.W PyProof.Rows
def q0:Pos:=⟨0,0,0,0⟩
def an:Option Value:=some (.ref 6)
def ev (p:cf):Env:={scope:=p.main.scope,locals:=mainNs,globals:=mainNs,cells:=[],code:=.ref 13,frame:=some 14}
def cd (p:cf):Code:=.body (behindTheImports p) (ev p)
def grow:List Obj->Nat->BT->BT
 | [],_,t=>t
 |o::l,i,t=>grow l (i+1) (t.ins i o)
def lift (s:aw):SharedT:=⟨grow s.heap.objs.toList 0 .nil,s.heap.objs.size,s.heap.life,s.gens,s.drawn,s.toks,s.os⟩
def pre (p:cf)(H:gu->Heap)(d:Drawn)(k:Nat)(w:World)(os:ni):Option (aw×Thread):=topGo md p w 11 an 12 ⟨H w.params,#[],d,k,os⟩ (topStub p)
def qD (p:cf)(H:gu->Heap)(d:Drawn)(k:Nat)(w:World)(os:ni):SharedT:=lift (((pre p H d k w os).map ux).getD ⟨H w.params,#[],d,k,os⟩)
def run (p:cf)(H:gu->Heap)(d:Drawn)(k N:Nat)(w:World)(os:ni):Option (Flow×SharedT×Code×Pos):=segRunT md p w 11 an 1 N (qD p H d k w os) (piecesOf (behindTheImports p) (ev p) (cd p) q0 [topFrame q0])
def PreEq (p:cf)(H:gu->Heap)(d:Drawn)(k:Nat):Prop:=∀(w:World) (os:ni),((H w.params).isNs bj&&(#[]:Array p9).size==0,(H w.params).objs.size,(H w.params).nsMap bj "__annotations__",pre p H d k w os,λs c=>segRun md p w 11 an 1 1 s (blockOf (behindTheImports p) (ev p) c q0 [topFrame q0]))=(true,11,an,some ((qD p H d k w os).abs,⟨denote md (cd p),cd p,q0,[topFrame q0]⟩),λs c=>some (.next,s,c,q0))
def seen (p q:cf)(R:WRecords)(as:List Addr)(H:gu->Heap)(w:World)(s:SharedT):=(staticsOk (ls p.main.body) (H w.params) s.abs.heap&&namesBound p s.abs.heap&&gensDone s.abs&&laidKept (H w.params) s.abs.heap,openSeen q [] (ls p.main.body) (λs=>xlAt q [] s&&recOk R s) true s.abs,as.map s.abs.heap.get?)
def pick {α:Type}(f:SharedT->α):Flow×SharedT×Code×Pos->Option (Code×α)
 |(.next,s,c,_)=>some (c,f s)
 |_=>none
def kB (p q:cf)(R:WRecords)(as:List Addr)(K:gu->List (Addr×Obj))(H:gu->Heap)(d:Drawn)(k N:Nat):Prop:=∀(w:World) (os:ni),(run p H d k N w os).bind (pick (seen p q R as H w))=some (cd p,true,openGood q [],(K w.params).map λx=>some x.2)
theorem DU (tb:String->Option Builtin)(p:cf)(w:World)(n:Nat)(a:Option Value)(s:aw)(c:Code)(ps q:Pos):topRun tb p w n a 2 s ⟨doneF .next,c,ps,[topFrame q]⟩=some s:=by rfl
theorem left {K:gu->List (Addr×Obj)}(o:∀w,(fencedOpening md p w N).map (fun s=>(s.heap,s.gens,s.drawn,s.toks))=some (boot_heap w.params,#[],boot_drawn,boot_toks))(le:12+(1+(M+2))<=N)
  (h1:PreEq p boot_heap boot_drawn boot_toks) (h2:kB p q R as K boot_heap boot_drawn boot_toks M):LeftO p q [] (λs=>xlAt q [] s&&recOk R s) (λs=>as.map s.heap.get?) (λw=>(K w.params).map λx=>some x.2) N:=λw=>by
 obtain⟨⟨h,gs,d,k,os⟩,e,e'⟩:=dj.mp (o w);have e1:=wa e';have e2:=wa e1.2;have e3:=wa e2.2;obtain rfl:h=boot_heap w.params:=e1.1;obtain rfl:gs=#[]:=e2.1;obtain rfl:d=boot_drawn:=e3.1;obtain rfl:k=boot_toks:=e3.2;have a:=wa (h1 w os);have a2:=wa a.2;have a3:=wa a2.2;have a4:=wa a3.2;obtain⟨⟨f,s,c,ps⟩,r1,r2⟩:=ma.mp (h2 w os);cases f with
 |next=>
  have b:=wa (v5 r2);have b1:=wa b.2;have b2:=wa b1.2;obtain rfl:c=cd p:=b.1;have t1:topRun md p w 11 an (M+2) (qD p boot_heap boot_drawn boot_toks w os).abs (restOf (behindTheImports p++[]) (ev p) (cd p) q0 [topFrame q0])=some s.abs:=piece_app (segRun_of r1) (DU md p w 11 an s.abs (cd p) ps q0);rw[ci]at t1;have t4:=topRun_mono (N-(12+(1+(M+2)))) _ _ _ _ (go_top a4.1 (piece_block (congrFun (congrFun a4.2 (qD p boot_heap boot_drawn boot_toks w os).abs) (cd p)) t1));rw[rh le]at t4;have t:topFrom md p w N ⟨boot_heap w.params,#[],boot_drawn,boot_toks,os⟩=some s.abs:=by unfold topFrom;rw[a.1,a2.1,a3.1,t4];show(match staticsOk (ls p.main.body) (boot_heap w.params) s.abs.heap&&namesBound p s.abs.heap&&gensDone s.abs&&laidKept (boot_heap w.params) s.abs.heap with|true=>some s.abs|false=>none)=_;rw[b1.1]
  unfold openEnds;rw[e];show(topFrom md p w N _).map _=_;rw[t];exact congrArg some (Prod.ext b2.1 b2.2)
 |_=>cases r2
theorem pre_r:PreEq=PreEq:=rfl
def DV (p q:cf)(R:WRecords)(H:gu->Heap)(w:World)(s:SharedT):=(staticsOk (ls p.main.body) (H w.params) s.abs.heap&&namesBound p s.abs.heap&&gensDone s.abs&&laidKept (H w.params) s.abs.heap,openSeen q [] (ls p.main.body) (λs=>xlAt q [] s&&recOk R s) true s.abs)
def RunA (p q:cf)(R:WRecords)(H:gu->Heap)(d:Drawn)(k N:Nat):Prop:=∀(w:World) (os:ni),(run p H d k N w os).bind (pick (DV p q R H w))=some (cd p,true,openGood q [])
def RunB (p:cf)(as:List Addr)(K:gu->List (Addr×Obj))(H:gu->Heap)(d:Drawn)(k N:Nat):Prop:=∀(w:World) (os:ni),(run p H d k N w os).bind (pick λs=>as.map s.abs.heap.get?)=some (cd p,(K w.params).map λx=>some x.2)
theorem Pb {α β:Type}{f:SharedT->α}{g:SharedT->β}{x:Option (Flow×SharedT×Code×Pos)}{a:α}{b:β}(h1:x.bind (pick f)=some (c,a))(h2:x.bind (pick g)=some (c,b)):x.bind (pick λs=>(f s,g s))=some (c,a,b):=by
 cases x with
 |none=>cases h1
 |some y=>
  obtain⟨fl,s,c',ps⟩:=y;cases fl with
  |next=>have e1:=wa (v5 h1);show some (c',f s,g s)=_;rw[e1.1,e1.2,(wa (v5 h2)).2]
  |_=>cases h1
theorem uL {K:gu->List (Addr×Obj)}(h1:RunA p q R H d k N)(h2:RunB p as K H d k N):kB p q R as K H d k N:=λw os=>by
 have h:=Pb (h1 w os) (h2 w os);cases e:run p H d k N w os with
 |none=>rw[e]at h;cases h
 |some y=>
  rw[e]at h;obtain⟨fl,s,c',ps⟩:=y;cases fl with
  |next=>have e1:=wa (v5 h);have e2:=wa e1.2;show some (c',(DV p q R H w s).1,(DV p q R H w s).2,as.map s.abs.heap.get?)=_;rw[e1.1,e2.2,e2.1]
  |_=>cases h
theorem runA_r:RunA=RunA:=rfl
theorem runB_r:RunB=RunB:=rfl
end Tp
lay_quick Tp.PreEq Tp.RunA Tp.RunB
name_quick tpre for Tp.PreEq by Tp.pre_r
name_quick truna for Tp.RunA by Tp.runA_r
name_quick trunb for Tp.RunB by Tp.runB_r
namespace Tp
open PySem PySem.W PyProof.Rows
theorem rn_r:run=run:=rfl
end Tp
name_quick trn for Tp.run by Tp.rn_r
namespace Tp
open PySem PySem.W PyProof.Rows
def obj (p:cf)(M:Nat)(P:gu)(a:Addr):Obj:=((PySem.W.Fast.trn p boot_heap boot_drawn boot_toks M ⟨λ_ _=>0,P⟩ default).map λx=>(x.2.1.tree.get a).getD default).getD default
def Ko (p:cf)(M:Nat)(as:List Addr)(P:gu):Frag:=as.map λa=>(a,obj p M P a)
theorem yt (p:cf)(M:Nat)(as:List Addr)(P:gu):as=(Ko p M as P).map (·.1):=by unfold Ko;rw[gq];exact(vf _).symm
def said (l:OpenLaw):Bool:=l.wellSaid
theorem said_r:said=said:=rfl
theorem holds {K:gu->Frag}(ws:said l=true)(ek:∀P,as=(K P).map (·.1))(o1:opening l.row.prog=plainProg l.row.prog.main.scope.names)(o2:Nat.ble 600 N=true)(o3:∀s,fenceModules? l.row.prog s=some s)(le:12+(1+(M+2))<=N)
  (h1:PreEq l.row.prog boot_heap boot_drawn boot_toks) (h2:kB l.row.prog q l.row.records as K boot_heap boot_drawn boot_toks M) (a1:defOf q l.row.name=some (d,[])) (a2:l.row.prog.theDef l.row.name=some (d.params,d.body,d.scope)) (a3:kwWritten? d.params.kwonlyargs d.params.kw_defaults=some []) (a4:(!l.row.writes||l.row.records.isEmpty)=true)
  (a5:(chainsOk q&&opensWell l.row.prog&&(frees l.row.toRowW&&l.row.within.isEmpty))=true) (a6:l.row.prog.bare) (a7:l.row.toRowW.promised) (call:WalkO q [] (XL q []) (InK K) l.row.toRowW d [] λf vs=>PySem.call f vs):l.Holds:=
 holds_law ws λz=>holds_open (left (boot_open o1 o2 o3) le h1 h2) (InK.of ek) InK.keeps (λs e=>xl_of s (bg.mp e).1) XL.keeps a1 a2 a3 (λs e=>recFacts_of (bg.mp e).2) a4 z a5 a6 a7 call
end Tp
lay_quick Tp.said
name_quick tsaid for Tp.said by Tp.said_r
namespace Mk
open PySem PySem.Spec PyProof.Rows
abbrev mZ:cf:=PySem.Challenge.rw_likebook_k52_opens.row.prog
def yu:cf:=W.view mZ [1,2,3,4,5,6,7,8,9,10,11,12,13,15,16,18,20,21,22,23,24,25,26,27,28,29,30,31,32,33,34,36,37,38,39,40,41,42,43,44,45]
def BP:List Addr:=cj 402
def xx:gu->W.Frag:=Tp.Ko mZ 100000 BP
theorem Pc:Tp.PreEq mZ W.boot_heap W.boot_drawn W.boot_toks:=by
 intro w os
 kernel_rfl
theorem DW:Tp.RunA mZ yu PySem.Challenge.rw_likebook_k52_opens.row.records W.boot_heap W.boot_drawn W.boot_toks 100000:=by
 rw[PySem.W.Fast.truna_eq];intro w os
 kernel_rfl
theorem DX:Tp.RunB mZ BP xx W.boot_heap W.boot_drawn W.boot_toks 100000:=by
 rw[PySem.W.Fast.trunb_eq];intro w os
 kernel_rfl
theorem Pd:Tp.kB mZ yu PySem.Challenge.rw_likebook_k52_opens.row.records BP xx W.boot_heap W.boot_drawn W.boot_toks 100000:=Tp.uL DW DX
end Mk
namespace L2
open PySem PySem.Spec PyProof.Rows
abbrev Key:=Sum Int Str
def xy:Key->Value->Bool
 |.inl k,v=>Value.isInt k v
 |.inr x,v=>Value.isStrOf x v
def DY (w:World):Key->Int
 |.inl k=>hashInt k
 |.inr x=>hashStr w x
theorem qE:∀{k:Key} {v:Value},xy k v=true->(∃i t,k=Sum.inl i/\v=Value.int i t)\/(∃x t,k=Sum.inr x/\v=Value.str x t)
 |.inl i,v,h=>by obtain⟨t,e⟩:=Value.isInt_shape h;exact .inl ⟨i,t,rfl,e⟩
 |.inr x,v,h=>by obtain⟨t,e⟩:=Value.isStrOf_shape h;exact .inr ⟨x,t,rfl,e⟩
theorem Pe (i:Int)(t:Tok):xy (.inl i) (.int i t)=true:=by simp[xy,Value.isInt]
theorem Pf (x:Str)(t:Tok):xy (.inr x) (.str x t)=true:=by simp[xy,Value.isStrOf]
theorem Pg (a b:Int):decide ((Sum.inl a:Key)=Sum.inl b)=(a==b):=by grind
theorem Ph (a b:Str):decide ((Sum.inr a:Key)=Sum.inr b)=decide (a=b):=by grind
theorem Pj (a:Int)(b:Str):decide ((Sum.inl a:Key)=Sum.inr b)=false:=wg (λq=>nomatch q)
theorem Pk (a:Str)(b:Int):decide ((Sum.inr a:Key)=Sum.inl b)=false:=wg (λq=>nomatch q)
def iS (prog:cf)(w:World):PySem.KeyKind prog w Key where
 is:=xy
 hash:=DY w
 inj:=λv a b ha hb=>by
  rcases qE ha with⟨i,t,rfl,rfl⟩|⟨x,t,rfl,rfl⟩
  ·rcases qE hb with⟨j,u,rfl,e⟩|⟨y,u,rfl,e⟩
   ·injection e with e1 _;rw[e1]
   ·exact nomatch e
  ·rcases qE hb with⟨j,u,rfl,e⟩|⟨y,u,rfl,e⟩
   ·exact nomatch e
   ·injection e with e1 _;rw[e1]
 byValue:=λk v h=>by rcases qE h with⟨i,t,rfl,rfl⟩|⟨x,t,rfl,rfl⟩<;>rfl
 pyHash:=λhv h=>by
  rcases qE hv with⟨i,t,rfl,rfl⟩|⟨x,t,rfl,rfl⟩
  ·exact wpAny_pyHash_int h
  ·exact wpAny_pyHash_str h
 eqBool:=λhu hv h=>by
  rcases qE hu with⟨i,t,rfl,rfl⟩|⟨x,t,rfl,rfl⟩
  ·rcases qE hv with⟨j,u,rfl,rfl⟩|⟨y,u,rfl,rfl⟩
   ·rw[Pg]at h;exact wpAny_eqBool_int h
   ·rw[Pj]at h;exact SeqAt.EqAt.int_str i t y u _ _ _ _ h
  ·rcases qE hv with⟨j,u,rfl,rfl⟩|⟨y,u,rfl,rfl⟩
   ·rw[Pk]at h;exact SeqAt.EqAt.str_int x t j u _ _ _ _ h
   ·rw[Ph]at h;exact wpAny_eqBool_str h
 «strs»:=λk x t v h=>by
  rcases qE h with⟨i,u,rfl,e⟩|⟨y,u,rfl,e⟩
  ·exact nomatch e
  ·injection e with e1 _;subst e1;cases v<;>rfl
theorem Pl (prog:cf)(w:World)(i:Int)(t:Tok):(iS prog w).is (.inl i) (.int i t)=true:=Pe i t
theorem Pm (prog:cf)(w:World)(x:Str)(t:Tok):(iS prog w).is (.inr x) (.str x t)=true:=Pf x t
inductive V where
 |non|bl (b:Bool)|int (i:Int)|str (x:Str)|ref (a:Addr)|ty (n:String)
 deriving DecidableEq
def RelV:V->Value->Prop
 |.non,u=>u=Value.none
 |.bl b,u=>u=Value.bool b
 |.int i,u=>∃t,u=Value.int i t
 |.str x,u=>∃t,u=Value.str x t
 |.ref a,u=>u=Value.ref a
 |.ty n,u=>u=Value.type n
abbrev Vals:List V->List Value->Prop:=lu RelV
theorem Vals.length (r:Vals xs us):xs.length=us.length:=Paired.length r
theorem Vals.get:∀{xs:List V} {us:List Value} {i:Nat} {x:V},Vals xs us->xs[i]?=some x->∃u,us[i]?=some u/\RelV x u
 |_,_,_,_,.nil,e=>by simp at e
 |_,_,0,_,.cons r _,e=>by simp at e;subst e;exact⟨_,rfl,r⟩
 |_,_,i+1,x,.cons _ t,e=>by obtain⟨u,h1,h2⟩:=Vals.get t (by simpa using e);exact⟨u,by simpa using h1,h2⟩
theorem Vals.set (r:RelV x u):∀{xs:List V} {us:List Value} i,Vals xs us->Vals (xs.set i x) (us.set i u)
 |_,_,_,.nil=>.nil
 |_,_,0,.cons _ t=>.cons r t
 |_,_,i+1,.cons q t=>.cons q (Vals.set r i t)
theorem Vals.append:∀{xs ys:List V} {us ws:List Value},Vals xs us->Vals ys ws->Vals (xs++ys) (us++ws)
 |_,_,_,_,.nil,s=>s
 |_,_,_,_,.cons r t,s=>.cons r (Vals.append t s)
theorem Vals.take:∀{xs:List V} {us:List Value} n,Vals xs us->Vals (xs.take n) (us.take n)
 |_,_,0,_=>.nil
 |_,_,_+1,.nil=>.nil
 |_,_,n+1,.cons r t=>.cons r (Vals.take n t)
theorem Vals.drop:∀{xs:List V} {us:List Value} n,Vals xs us->Vals (xs.drop n) (us.drop n)
 |_,_,0,r=>r
 |_,_,_+1,.nil=>.nil
 |_,_,n+1,.cons _ t=>Vals.drop n t
def cG:Option V->Option Value->Prop
 |some v,some u=>RelV v u
 |none,none=>True
 |_,_=>False
def KV {κ:Type}:List (κ×V)->List (κ×Value)->Prop:=lu λ(p:κ×V) (q:κ×Value)=>p.1=q.1/\RelV p.2 q.2
def kV:Key->V
 |.inl i=>.int i
 |.inr x=>.str x
inductive HO where
 |lst (xs:List V)
 |tup (xs:List V)
 |dK (kvs:List (Key×V))|dT (kvs:List (List Key×V))
 |set (S:Int->Bool) (n:Nat)
 |ins (C dx:Addr) (fs:List (Str×V))
 |own (x:Addr)
 |xd (fs:List (Str×V))
 |gH (o:Obj) (u:HO)
 |pL (ps:Array Value)
 |ext (φ:Heap->Prop)
abbrev Hp:=Addr->Option HO
def upd (H:Hp)(a:Addr)(o:HO):Hp:=λb=>if b=a then some o else H b
theorem bC:upd H a o a=some o:=by unfold upd;rw[vy rfl]
theorem aK (h:b≠a):upd H a o b=H b:=by unfold upd;rw[vz h]
theorem Pn {H:Hp}(h:H a=some o)(h':H b=some u)(d:o≠u):a≠b:=by grind
theorem iU {H:Hp}(h:H a=some o)(h':H b=none):a≠b:=by intro e;subst e;rw[h]at h';cases h'
def iA (h:Heap)(a:Addr)(l:Array Value):Prop:=∃n,h.get? a=some {cls:=.type "tuple",data:=.seq l n}
theorem iA.tup {h:Heap}{a:Addr}{l:Array Value}(x:iA h a l):IsTup h a l:=let⟨n,q⟩:=x;⟨_,q,rfl,n,rfl⟩
theorem iA.new (h:Heap)(l:Array Value):iA (h.push {cls:=.type "tuple",data:=.seq l}) h.objs.size l:=⟨_,au _ rfl⟩
section
variable (P:cf)(w:World)
def z1j (H:Hp)(h:Heap)(a:Addr):HO->Prop
 |.lst xs=>xs.length<=ba/\∃(its:List Value) (n:Nat),Vals xs its/\h.get? a=some {cls:=.type "list",data:=.seq its.toArray n}
 |.tup xs=>xs.length<=ba/\∃its:List Value,Vals xs its/\iA h a its.toArray
 |.dK kvs=>kvs.length<=ba/\(a==j7)=false/\∃vs,KV kvs vs/\h.DictOf (iS P w) a vs
 |.dT kvs=>kvs.length<=ba/\(a==j7)=false/\∃xs:List (List Key×Addr×Value),
  lu (λ(p:List Key×V) (q:List Key×Addr×Value)=>p.1=q.1/\H q.2.1=some (.tup (p.1.map kV))/\RelV p.2 q.2.2) kvs xs/\
  ∃o es ep,h.get? a=some o/\o.ExactDict/\o.data=.dict es ep/\es.toList=xs.map (entryOfKey (pr (iS P w)))/\(xs.map (·.1)).Nodup
 |.set S n=>h.SetOf (intKind P w) a S n
 |.ins C dx fs=>H dx=some (.own a)/\fs.length<=1000/\dx≠a/\h.get? a=some (W.instObj C dx)/\∃mA,h.Ns1 dx mA/\(∀f,cG (fs.lookup f) (mA f))/\PySem.Within mA (fs.map (·.1))
 |.own _=>∃o,h.get? a=some o
 |.xd fs=>∃mA,h.Ns1 a mA/\∀f,cG (fs.lookup f) (mA f)
 |.gH o u=>h.get? a=some o/\z1j H h a u
 |.pL ps=>h.get? a=some {cls:=.none,data:=.fields ps}
 |.ext φ=>φ h/\(∃o,h.get? a=some o)/\∀h1 h2:Heap,φ h1->(∀o,h1.get? a=some o->h2.get? a=some o)->φ h2
def HOk (H:Hp)(h:Heap):Prop:=∀a o,H a=some o->z1j P w H h a o
end
theorem z1j.lt (x:z1j P w H h a o):a<h.objs.size:=by
 cases o with
 |lst xs=>obtain⟨_,_,_,_,e⟩:=x;exact bc e
 |tup xs=>obtain⟨_,_,_,_,q⟩:=x;exact bc q
 |dK kvs=>obtain⟨_,_,_,_,o,_,_,e,_⟩:=x;exact bc e
 |dT kvs=>obtain⟨_,_,_,_,o,_,_,e,_⟩:=x;exact bc e
 |set S n=>obtain⟨o,_,_,_,e,_⟩:=x;exact bc e
 |ins C dx fs=>obtain⟨_,_,_,e,_⟩:=x;exact bc e
 |own y=>obtain⟨_,e⟩:=x;exact bc e
 |xd fs=>obtain⟨_,⟨_,_,_,e,_⟩,_⟩:=x;exact bc e
 |gH ob u=>obtain⟨e,_⟩:=x;exact bc e
 |pL ps=>exact bc x
 |ext φ=>obtain⟨_,⟨_,e⟩,_⟩:=x;exact bc e
theorem Paired.uM {α β:Type}{F G:α->β->Prop}:∀{yw:List α} {yx:List β},lu F yw yx->(∀a b,F a b->G a b)->lu G yw yx
 |_,_,.nil,_=>.nil
 |_,_,.cons r t,f=>.cons (f _ _ r) (Paired.uM t f)
theorem z1j.stay (x:z1j P w H h a o)(k:∀b u,(b=a\/H b=some (.own a))->h.get? b=some u->h'.get? b=some u)
  (ho:∀b,H b=some (.own a)->H' b=some (.own a)) (ht:∀b xs,H b=some (.tup xs)->H' b=some (.tup xs)):z1j P w H' h' a o:=by
 induction o with
 |lst xs=>obtain⟨z,its,n,r,e⟩:=x;exact⟨z,its,n,r,k _ _ (.inl rfl) e⟩
 |tup xs=>obtain⟨z,l,r,n,q⟩:=x;exact⟨z,l,r,n,k _ _ (.inl rfl) q⟩
 |dK kvs=>obtain⟨z,y,vs,r,ob,es,ep,e,c⟩:=x;exact⟨z,y,vs,r,ob,es,ep,k _ _ (.inl rfl) e,c⟩
 |dT kvs=>obtain⟨z,y,xs,r,ob,es,ep,e,c⟩:=x;exact⟨z,y,xs,Paired.uM r λp q z=>⟨z.1,ht _ _ z.2.1,z.2.2⟩,ob,es,ep,k _ _ (.inl rfl) e,c⟩
 |set S n=>obtain⟨ob,es,ep,t,e,c⟩:=x;exact⟨ob,es,ep,t,k _ _ (.inl rfl) e,c⟩
 |ins C dx fs=>obtain⟨d,z,ne,e,mA,⟨od,es,ep,e2,c⟩,r⟩:=x;exact⟨ho _ d,z,ne,k _ _ (.inl rfl) e,mA,⟨od,es,ep,k _ _ (.inr d) e2,c⟩,r⟩
 |own y=>obtain⟨ob,e⟩:=x;exact⟨ob,k _ _ (.inl rfl) e⟩
 |xd fs=>obtain⟨mA,⟨od,es,ep,e,c⟩,r⟩:=x;exact⟨mA,⟨od,es,ep,k _ _ (.inl rfl) e,c⟩,r⟩
 |gH ob u ih=>obtain⟨e,q⟩:=x;exact⟨k _ _ (.inl rfl) e,ih q⟩
 |pL ps=>have e:h.get? a=some {cls:=.none,data:=.fields ps}:=x;exact k a _ (.inl rfl) e
 |ext φ=>obtain⟨p,⟨o,e⟩,st⟩:=x;exact⟨st _ _ p λo q=>k _ _ (.inl rfl) q,⟨o,k _ _ (.inl rfl) e⟩,st⟩
theorem HOk.lt (x:HOk P w H h)(e:H a=some o):a<h.objs.size:=(x a o e).lt
theorem HOk.fresh (x:HOk P w H h)(e:h.objs.size<=a):H a=none:=by
 cases q:H a with
 |none=>rfl
 |some u=>exact absurd (b9 (x.lt q) e) (cw _)
theorem HOk.kept (x:HOk P w H h)(k:∀b u,h.get? b=some u->h'.get? b=some u):HOk P w H h':=λa o e=>(x a o e).stay (λb u _ q=>k b u q) (λ_ q=>q) λ_ _ q=>q
theorem HOk.laid (x:HOk P w H h)(k:∀b u,h.get? b=some u->h'.get? b=some u)(hp:h.objs.size<=a)(new:z1j P w (upd H a o) h' a o):HOk P w (upd H a o) h':=λb u e=>by
 have hn:=x.fresh hp;by_cases hb:b=a
 ·subst hb;rw[bC]at e;cases e;exact new
 ·rw[aK hb]at e;exact(x b u e).stay (λc v _ q=>k c v q) (λc q=>by rw[aK (iU q hn)];exact q) λc xs q=>by rw[aK (iU q hn)];exact q
def Rd (H:Hp)(a:Addr)(u:HO):Prop:=H a=some u\/∃o,H a=some (.gH o u)
theorem Rd.ok (r:Rd H a u)(x:HOk P w H h):z1j P w H h a u:=by
 rcases r with r|⟨o,r⟩
 ·exact x a u r
 ·obtain⟨_,q⟩:=x a _ r;exact q
def Mut:Option HO->Prop
 |some (.lst _)=>True
 |some (.dK _)=>True
 |some (.dT _)=>True
 |some (.set _ _)=>True
 |some (.ins _ _ _)=>True
 |some (.ext _)=>True
 |_=>False
theorem HOk.write (ok:HOk P w H h)(mu:Mut (H x))(he:e=x\/H e=some (.own x))(k:∀b u,b≠e->h.get? b=some u->h'.get? b=some u)(heo:∃u,h'.get? e=some u)
  (new:z1j P w (upd H x o') h' x o'):HOk P w (upd H x o') h':=λb u q=>by
 have yy:∀c y,H c=some (.own y)->c≠x:=λc y r z=>by subst z;rw[r]at mu;exact mu
 by_cases hb:b=x
 ·subst hb;rw[bC]at q;cases q;exact new
 ·rw[aK hb]at q;by_cases uN:b=e
  ·have q':H b=some (.own x):=by
    rcases he with z|z
    ·exact absurd (uN.trans z) hb
    ·rw[uN];exact z
   rw[q]at q';cases q';obtain⟨v,hv⟩:=heo;exact⟨v,by rw[uN];exact hv⟩
  ·refine(ok b u q).stay (λc v hc r=>k c v ?_ r) (λc r=>by rw[aK (yy c b r)];exact r) λc xs r=>by rw[aK ((λc xs r z=>by subst z;rw[r]at mu;exact mu) c xs r)];exact r
   rcases hc with rfl|hc
   ·exact uN
   ·rintro rfl
    rcases he with z|z
    ·exact yy c b hc z
    ·rw[hc]at z;cases z;exact hb rfl
structure Un (fs ex:List Addr)(H H':Hp)(h h':Heap):Prop where
 keep:∀b o,h.get? b=some o->H b=none->b∉fs->b∉ex->h'.get? b=some o
 slot:∀b o,h.get? b=some o->H b=none->b∈fs->b∉ex->∃sl,h'.get? b=some {o with slots:=sl}
 free:∀b o,h.get? b=some o->H b=none->b∉ex->H' b=none
 there:∀b o,h.get? b=some o->b∉ex->∃o',h'.get? b=some o'
 cU:∀b xs,H b=some (.tup xs)->H' b=some (.tup xs)
 cK:∀b o u,H b=some (.gH o u)->H' b=some (.gH o u)
 cV:∀b ps,H b=some (.pL ps)->∃more,H' b=some (.pL (ps++more))
theorem Un.any (u:Un fs ex H H1 h h1)(q:h.get? b=some ob)(n:H b=none)(hx:b∉ex):∃sl,h1.get? b=some {ob with slots:=sl}:=by
 by_cases hb:b∈fs
 ·exact u.slot b ob q n hb hx
 ·exact⟨ob.slots,u.keep b ob q n hb hx⟩
theorem Un.kept (k:∀b u,h.get? b=some u->h'.get? b=some u):Un fs ex H H h h':=⟨λb ob q _ _ _=>k b ob q,λb ob q _ _ _=>⟨ob.slots,k b ob q⟩,λ_ _ _ n _=>n,λb ob q _=>⟨ob,k b ob q⟩,λ_ _ q=>q,λ_ _ _ q=>q,λ_ ps q=>⟨#[],by rw[q];simp⟩⟩
theorem Un.refl:Un fs ex H H h h:=Un.kept λ_ _ q=>q
theorem Un.laid (k:∀b u,h.get? b=some u->h'.get? b=some u)(hp:h.objs.size<=a)(hn:H a=none):Un fs ex H (upd H a o) h h' where
 keep:=λb u q _ _ _=>k b u q
 slot:=λb u q _ _ _=>⟨u.slots,k b u q⟩
 free:=λb u q n _=>by rw[aK (bz (b9 (bc q) hp))];exact n
 there:=λb u q _=>⟨u,k b u q⟩
 cU:=λb xs q=>by rw[aK (iU q hn)];exact q
 cK:=λb u xs q=>by rw[aK (iU q hn)];exact q
 cV:=λb ps q=>⟨#[],by rw[aK (iU q hn),q];simp⟩
theorem Un.write (mu:Mut (H x))(he:e=x\/H e=some (.own x))(k:∀b u,b≠e->h.get? b=some u->h'.get? b=some u)(heo:∃u,h'.get? e=some u):Un fs ex H (upd H x o) h h':=by
 have hx:∀b,H b=none->b≠x:=λb n z=>by subst z;rw[n]at mu;exact mu
 have hb:∀b,H b=none->b≠e:=λb n z=>by
  subst z;rcases he with r|r
  ·exact hx b n r
  ·rw[n]at r;cases r
 have hm:∀b u,H b=some u->¬Mut (some u)->b≠x:=λb u q nm z=>by subst z;rw[q]at mu;exact nm mu
 refine⟨λb u q n _ _=>k b u (hb b n) q,λb u q n _ _=>⟨u.slots,k b u (hb b n) q⟩,λb u q n _=>by rw[aK (hx b n)];exact n,λb u q _=>?_,λb xs q=>by rw[aK (hm b _ q λz=>z)];exact q,λb u xs q=>by rw[aK (hm b _ q λz=>z)];exact q,λb ps q=>⟨#[],by rw[aK (hm b _ q λz=>z),q];simp⟩⟩;by_cases uN:b=e
 ·subst uN;exact heo
 ·exact⟨u,k b u uN q⟩
def DZ (h:Heap)(H:Hp):List Addr:=(cj h.objs.size).filter λa=>(H a).isSome
def kU (h:Heap)(H:Hp):Heap:=W.hideAll h (DZ h H)
theorem Po (h:Heap)(H:Hp):(kU h H).objs.size=h.objs.size:=W.hideAll_size _ _
theorem Pp (e:h.get? b=some o)(n:H b=none):(kU h H).get? b=some o:=W.hideAll_get _ e λhm=>by have q:=(qm.mp hm).2;rw[n]at q;simp at q
theorem Pq (e:(kU h H).get? b=some o):h.get? b=some o/\H b=none:=by
 have e':=W.of_hideAll (DZ h H) e;refine⟨e',?_⟩;cases q:H b with
 |none=>rfl
 |some x=>have z:(kU h H).get? b=none:=W.hideAll_none (DZ h H) (qm.mpr ⟨gj.mpr (bc e'),by simp[q]⟩);rw[z]at e;cases e
structure Mod (K:W.Frag)(mg:Str->Option Value)(base:Heap):Prop where
 xE:K.In base
 glob:base.Ns bj mg
 blt:∃mb,base.Ns vi mb/\∀x:Str,x≠"__name__"->mb x=db x
 nolimit:base.NoLimit
structure Cx where
 prog:cf
 w:World
 K:W.Frag
 mg:Str->Option Value
 base:Heap
 A:iz
 N:List Str
 s₀:aw
 iB:Hp
 env:Env
 outer:List Env
 stack:List Env
 ex:List Addr
 fn:Str->Bool
 calm:Bool
 pn:List (Addr×Obj)
 xe:Value->aw->Prop
 fx:Option (Str×Value):=none
def frs (l:List Env):List Addr:=l.filterMap (·.frame)
abbrev Cx.fs (X:Cx):List Addr:=frs X.outer
def Vis (sc:Scope)(x:Str):Prop:=sc.names.lookup x=some .local\/sc.names.lookup x=some .cell\/sc.names.lookup x=some .free
def Loc (sc:Scope)(x:Str):Prop:=sc.names.lookup x=some .local\/sc.names.lookup x=some .cell
def Look (env:Env)(h:Heap)(m:Str->Option Value)(x:Str)(u:Value):Prop:=(env.kindOf x=some .local/\m x=some u)\/((env.kindOf x=some .cell\/env.kindOf x=some .free)/\∃c,env.cells.lookup x=some c/\h.IsCell c (some u))
structure Cx.Ok (X:Cx):Prop where
 mod:Mod X.K X.mg X.base
 kind:X.env.scope.kind=.function
 glob:X.env.globals=bj
 blt:X.env.builtins=vi
 above:X.s₀.heap.objs.size<=X.env.locals
 inj:∀x y c,X.env.cells.lookup x=some c->X.env.cells.lookup y=some c->x=y
 has:∀x,(X.env.kindOf x=some .cell\/X.env.kindOf x=some .free)->∃c,X.env.cells.lookup x=some c
 uO:∀x c,X.fn x=true->X.env.cells.lookup x=some c->X.s₀.heap.objs.size<=c
 hd:X.calm=true->X.A.handled=none
 frames:X.A.frames=some X.stack
 xF:X.stack=X.outer\/(X.stack=X.env::X.outer/\X.env.frame=some X.env.locals)
 fD:∀b∈X.ex,b≠X.env.locals/\∀x c,X.env.cells.lookup x=some c->c≠b
 bs:∀b o,X.base.get? b=some o->X.s₀.heap.get? b=some o/\X.iB b=none
 nB:X.base.objs.size<=X.s₀.heap.objs.size
 jD:∀b o,X.base.get? b=some o->b∉X.ex
 jE:∀b∈X.ex,b∉X.fs
 cW:X.s₀.heap.FunFrames X.base X.outer
 qF:∀b∈X.fs,X.iB b=none
 BQ:∀x u,X.fx=some (x,u)->x∉X.N/\X.env.scope.names.lookup x=some .local
structure Inv (X:Cx)(pins:List (Addr×Obj))(U:List (Option V))(H:Hp)(s:aw):Prop where
 ok:X.Ok
 os:s.os=X.s₀.os
 bare:og s.gens
 base:Un X.fs X.ex X.iB H X.s₀.heap s.heap
 loc:∃m,s.heap.Ns X.env.locals m/\∀(i:Nat) (x:Str) (v:V),X.N[i]?=some x->U[i]?=some (some v)->Vis X.env.scope x->∃u,RelV v u/\Look X.env s.heap m x u
 cell:∀x c,X.env.cells.lookup x=some c->∃v,s.heap.IsCell c v
 free:H X.env.locals=none
 bF:∀x c,X.env.cells.lookup x=some c->H c=none
 pin:∀p∈X.pn++pins,s.heap.get? p.1=some p.2/\H p.1=none/\p.1≠X.env.locals/\p.1∉X.fs/\∀v,p.2.data≠.cell v
 hok:HOk X.prog X.w H s.heap
 len:U.length=X.N.length
 fx:∀x u,X.fx=some (x,u)->∃m,s.heap.Ns X.env.locals m/\m x=some u
section
variable {X:Cx}
theorem Cx.Ok.yz (ok:X.Ok)(e:X.base.get? b=some o):b∉X.fs:=λhb=>by have:=(ok.cW.mem hb).1;rw[e]at this;cases this
theorem Inv.bs (I:Inv X pins U H s):∀b o,X.base.get? b=some o->s.heap.get? b=some o/\H b=none:=λb o e=>⟨I.base.keep b o (I.ok.bs b o e).1 (I.ok.bs b o e).2 (I.ok.yz e) (I.ok.jD b o e),I.base.free b o (I.ok.bs b o e).1 (I.ok.bs b o e).2 (I.ok.jD b o e)⟩
theorem Inv.bk (I:Inv X pins U H s):∀b o,X.base.get? b=some o->s.heap.get? b=some o:=λb o e=>(I.bs b o e).1
theorem Inv.mod (I:Inv X pins U H s):Mod X.K X.mg X.base:=I.ok.mod
theorem Inv.dB (I:Inv X pins U H s):X.K.In s.heap:=I.ok.mod.xE.keeps I.bk
theorem Inv.lt (I:Inv X pins U H s):X.env.locals<s.heap.objs.size:=let⟨_,hn,_⟩:=I.loc;hn.lt
theorem Inv.sz (I:Inv X pins U H s):X.s₀.heap.objs.size<=s.heap.objs.size:=b8 I.ok.above (qb I.lt)
theorem Inv.yA (I:Inv X pins U H s)(h:s.heap.objs.size<=a):a∉X.fs:=λhb=>by obtain⟨_,o,ho,_⟩:=I.ok.cW.mem hb;exact absurd (b9 (bc ho) (b8 I.sz h)) (cw _)
theorem Inv.mG (I:Inv X pins U H s):∀x c,X.env.cells.lookup x=some c->c≠X.env.locals:=λx c e z=>by obtain⟨v,o,ho,hd⟩:=I.cell x c e;obtain⟨m,⟨o',es,ep,ho',mH,_⟩,_⟩:=I.loc;rw[z,ho']at ho;cases ho;rw[mH]at hd;cases hd
theorem Inv.cW (I:Inv X pins U H s):s.heap.FunFrames X.base X.outer:=by
 have all:∀l,(∀b∈frs l,b∈X.fs)->X.s₀.heap.FunFrames X.base l->s.heap.FunFrames X.base l:=by
  intro l
  induction l with
  |nil=>intro _ _;trivial
  |cons env r ih=>
   rintro hs ⟨hk,⟨L,o,hf,hn,ho,hd⟩,hr⟩
   have hL:=hs L (by unfold frs;rw[eh,hf];exact ak);obtain⟨sl,e⟩:=I.base.slot L o ho (I.ok.qF L hL) hL λz=>I.ok.jE L z hL;exact⟨hk,⟨L,_,hf,hn,e,hd⟩,ih (λb hb=>hs b (by unfold frs;rw[eh,hf];exact ah _ hb)) hr⟩
 exact all X.outer (λ_ hb=>hb) I.ok.cW
theorem Inv.stack (I:Inv X pins U H s):s.heap.FunFrames X.base X.stack:=by
 rcases I.ok.xF with e|⟨e,hf⟩
 ·rw[e];exact I.cW
 ·rw[e];obtain⟨m,hn,_⟩:=I.loc;refine .cons (by rw[I.ok.kind];decide) hf hn ?_ I.cW;exact jp (b8 I.ok.nB I.ok.above)
theorem Inv.gI (I:Inv X pins U H s):∀b∈frs X.stack,b∈X.env.locals::X.fs:=λb hb=>by
 rcases I.ok.xF with e|⟨e,hf⟩
 ·rw[e]at hb;exact ah _ hb
 ·rw[e]at hb;unfold frs at hb;rw[eh,hf]at hb;exact hb
theorem Inv.gK (I:Inv X pins U H s):∀b∈frs X.stack,H b=none:=λb hb=>by
 rcases ao.mp (I.gI b hb)with e|hb
 ·rw[e];exact I.free
 ·obtain⟨_,o,ho,_⟩:=I.ok.cW.mem hb;exact I.base.free b o ho (I.ok.qF b hb) λz=>I.ok.jE b z hb
theorem Inv.step {ch:List Addr}(I:Inv X pins U H s)
  (iC:∀b∈ch,(b∈X.ex\/X.s₀.heap.objs.size<=b)/\b≠X.env.locals/\(∀x c,X.env.cells.lookup x=some c->c≠b)/\∀p∈X.pn++pins,p.1≠b)
  (keep:∀b o,b≠X.env.locals->b∉X.fs->b∉ch->s.heap.get? b=some o->H b=none->h'.get? b=some o)
  (slot:∀b o,b≠X.env.locals->b∈X.fs->b∉ch->s.heap.get? b=some o->H b=none->∃sl,h'.get? b=some {o with slots:=sl}) (free:∀b o,b∉ch->s.heap.get? b=some o->H b=none->H' b=none)
  (there:∀b o,b∉ch->s.heap.get? b=some o->∃o',h'.get? b=some o')
  (cU:∀b xs,H b=some (.tup xs)->H' b=some (.tup xs)) (cK:∀b o u,H b=some (.gH o u)->H' b=some (.gH o u)) (cV:∀b ps,H b=some (.pL ps)->∃more,H' b=some (.pL (ps++more)))
  (ns:∀m,s.heap.Ns X.env.locals m->h'.Ns X.env.locals m) (hok:HOk X.prog X.w H' h') (hg:og g'):
  Inv X pins U H' {s with heap:=h',gens:=g',drawn:=d',toks:=t'}:=by
 have JA:∀b o,X.s₀.heap.get? b=some o->b≠X.env.locals:=λb o e=>bz (b9 (bc e) I.ok.above)
 have BS:∀b o,X.s₀.heap.get? b=some o->b∉X.ex->b∉ch:=λb o e hx hb=>by
  rcases(iC b hb).1 with z|z
  ·exact hx z
  ·exact absurd (b9 (bc e) z) (cw _)
 have cellK:∀x c,X.env.cells.lookup x=some c->∀v,s.heap.IsCell c v->h'.IsCell c v:=λx c e v ⟨o,ho,hd⟩=>by
  have yB:=λz=>(iC c z).2.2.1 x c e rfl;by_cases hc:c∈X.fs
  ·obtain⟨sl,q⟩:=slot c o (I.mG x c e) hc yB ho (I.bF x c e);exact⟨_,q,hd⟩
  ·exact⟨o,keep c o (I.mG x c e) hc yB ho (I.bF x c e),hd⟩
 refine⟨I.ok,I.os,hg,⟨λb o e n hb hx=>?_,λb o e n hb hx=>?_,λb o e n hx=>?_,λb o e hx=>?_,λb xs e=>cU b xs (I.base.cU b xs e),λb o xs e=>cK b o xs (I.base.cK b o xs e),λb ps e=>?_⟩,?_,λx c e=>?_,?_,λx c e=>?_,λp hp=>?_,hok,I.len,λx u e=>let⟨m,hn,q⟩:=I.fx x u e;⟨m,ns m hn,q⟩⟩
 ·exact keep b o (JA b o e) hb (BS b o e hx) (I.base.keep b o e n hb hx) (I.base.free b o e n hx)
 ·obtain⟨sl,e1⟩:=I.base.slot b o e n hb hx;obtain⟨D3,e2⟩:=slot b _ (JA b o e) hb (BS b o e hx) e1 (I.base.free b o e n hx);exact⟨D3,e2⟩
 ·obtain⟨o',e1⟩:=I.base.there b o e hx;exact free b o' (BS b o e hx) e1 (I.base.free b o e n hx)
 ·obtain⟨o',e1⟩:=I.base.there b o e hx;exact there b o' (BS b o e hx) e1
 ·obtain⟨m1,e1⟩:=I.base.cV b ps e;obtain⟨m2,e2⟩:=cV b _ e1;exact⟨m1++m2,by rw[e2,tf]⟩
 ·obtain⟨m,hn,hl⟩:=I.loc;refine⟨m,ns m hn,λi x v e1 e2 e3=>?_⟩;obtain⟨u,r,l⟩:=hl i x v e1 e2 e3;refine⟨u,r,?_⟩;rcases l with l|⟨k,c,e,z⟩
  ·exact .inl l
  ·exact .inr ⟨k,c,e,cellK x c e _ z⟩
 ·obtain⟨v,z⟩:=I.cell x c e;exact⟨v,cellK x c e v z⟩
 ·obtain⟨m,⟨o,_,_,ho,_⟩,_⟩:=I.loc;exact free _ o (λz=>(iC _ z).2.1 rfl) ho I.free
 ·obtain⟨v,o,ho,hd⟩:=I.cell x c e;exact free c o (λz=>(iC c z).2.2.1 x c e rfl) ho (I.bF x c e)
 ·obtain⟨e,n,ne,nf,d⟩:=I.pin p hp;have yB:=λz=>(iC p.1 z).2.2.2 p hp rfl;exact⟨keep p.1 p.2 ne nf yB e n,free p.1 p.2 yB e n,ne,nf,d⟩
theorem Inv.un (I:Inv X pins U H s)(u:Un X.fs [] H H' s.heap h')(hok:HOk X.prog X.w H' h'):Inv X pins U H' {s with heap:=h',toks:=t'}:=by obtain⟨m,⟨o,es,ep,ho,r⟩,_⟩:=id I.loc;obtain⟨sl,hL⟩:=u.any ho I.free (by simp);exact I.step (ch:=[]) (λ_ z=>nomatch z) (λb o _ hb _ e n=>u.keep b o e n hb (by simp)) (λb o _ hb _ e n=>u.slot b o e n hb (by simp)) (λb o _ e n=>u.free b o e n (by simp)) (λb o _ e=>u.there b o e (by simp)) u.cU u.cK u.cV (λm' ⟨o',kC,BU,ho',r'⟩=>by rw[ho]at ho';cases ho';exact⟨_,kC,BU,hL,r'⟩) hok I.bare
theorem Inv.call (I:Inv X pins U H s)(u:Un (frs X.stack) ch H H' s.heap h')(hok:HOk X.prog X.w H' h')(hg:og g')
  (iC:∀b∈ch,(b∈X.ex\/X.s₀.heap.objs.size<=b)/\b≠X.env.locals/\(∀x c,X.env.cells.lookup x=some c->c≠b)/\∀p∈X.pn++pins,p.1≠b):
  Inv X pins U H' {s with heap:=h',gens:=g',drawn:=d',toks:=t'}:=by
 obtain⟨m,⟨o,es,ep,ho,r⟩,_⟩:=id I.loc;obtain⟨sl,hL⟩:=u.any ho I.free λz=>(iC _ z).2.1 rfl;exact I.step iC (λb o hL hb hc e n=>u.keep b o e n (λz=>(ao.mp (I.gI b z)).elim hL hb) hc) (λb o _ _ hc e n=>u.any e n hc) (λb o hc e n=>u.free b o e n hc) (λb o hc e=>u.there b o e hc) u.cU u.cK u.cV (λm' ⟨o',kC,BU,ho',r'⟩=>by rw[ho]at ho';cases ho';exact⟨_,kC,BU,hL,r'⟩) hok hg
theorem Inv.turned (I:Inv X pins U H s)(k:∀b o,b≠it->s.heap.get? b=some o->h'.get? b=some o)(hn:H it=none)(hL:it≠X.env.locals)
  (h1:it∈X.ex\/X.s₀.heap.objs.size<=it) (h2:∀x c,X.env.cells.lookup x=some c->c≠it) (h3:∀p∈X.pn++pins,p.1≠it):Inv X pins U H {s with heap:=h',toks:=t'}:=by
 have JB:∀b u,H b=some u->b≠it:=λb u e z=>by rw[z,hn]at e;cases e
 refine I.step (ch:=[it]) (λb hb=>?_) (λb o _ _ hc e _=>k b o (λz=>hc (by simp[z])) e) (λb o _ _ hc e _=>⟨o.slots,k b o (λz=>hc (by simp[z])) e⟩) (λ_ _ _ _ n=>n) (λb o hc e=>⟨o,k b o (λz=>hc (by simp[z])) e⟩) (λ_ _ e=>e) (λ_ _ _ e=>e) (λb ps e=>⟨#[],by rw[e];simp⟩) (λm hm=>?_) (λb u e=>?_) I.bare
 ·have e:b=it:=by simpa using hb
  subst e;exact⟨h1,hL,h2,h3⟩
 ·obtain⟨o,es,ep,ho,r⟩:=hm;exact⟨o,es,ep,k _ o (Ne.symm hL) ho,r⟩
 ·refine(I.hok b u e).stay (λc v hc q=>k c v ?_ q) (λ_ q=>q) λ_ _ q=>q;rcases hc with z|z
  ·rw[z];exact JB b u e
  ·exact JB c _ z
theorem Inv.tok (I:Inv X pins U H s)(t:Nat):Inv X pins U H {s with toks:=t}:=I.un (h':=s.heap) (t':=t) Un.refl I.hok
theorem Inv.kept (I:Inv X pins U H s)(k:∀b u,s.heap.get? b=some u->h'.get? b=some u):Inv X pins U H {s with heap:=h',toks:=t'}:=I.un (Un.kept k) (I.hok.kept k)
theorem Inv.laid (I:Inv X pins U H s)(k:∀b u,s.heap.get? b=some u->h'.get? b=some u)(hp:s.heap.objs.size<=a)(new:z1j X.prog X.w (upd H a o) h' a o): Inv X pins U (upd H a o) {s with heap:=h',toks:=t'}:=I.un (Un.laid k hp (I.hok.fresh hp)) (I.hok.laid k hp new)
theorem Inv.write (I:Inv X pins U H s)(mu:Mut (H x))(he:e=x\/H e=some (.own x))(k:∀b u,b≠e->s.heap.get? b=some u->h'.get? b=some u)(heo:∃u,h'.get? e=some u) (new:z1j X.prog X.w (upd H x o) h' x o):Inv X pins U (upd H x o) {s with heap:=h',toks:=t'}:=I.un (Un.write mu he k heo) (I.hok.write mu he k heo new)
theorem Inv.weak (I:Inv X pins U H s)(hl:σ'.length=U.length)(w:∀(i:Nat) v,σ'[i]?=some (some v)->U[i]?=some (some v)):Inv X pins σ' H s:=⟨I.ok,I.os,I.bare,I.base,let⟨m,hn,D4⟩:=I.loc;⟨m,hn,λi x v e1 e2 e3=>D4 i x v e1 (w i v e2) e3⟩,I.cell,I.free,I.bF,I.pin,I.hok,hl.trans I.len,I.fx⟩
theorem Inv.gL (I:Inv X pins U H s)(h:∀p∈nD,s.heap.get? p.1=some p.2/\H p.1=none/\p.1≠X.env.locals/\p.1∉X.fs/\∀v,p.2.data≠.cell v):Inv X nD U H s:=⟨I.ok,I.os,I.bare,I.base,I.loc,I.cell,I.free,I.bF,λp hp=>(bo.mp hp).elim (λz=>I.pin p (cy _ z)) (h p),I.hok,I.len,I.fx⟩
theorem Pr {h:Heap}(x:h.Ns a m)(y:h.Ns a m')(n:Str):m n=m' n:=by obtain⟨o,es,ep,e,d,_,f⟩:=x;obtain⟨o',kC,BU,e',d',_,f'⟩:=y;rw[e]at e';cases e';rw[d]at d';cases d';rw[<-f n,f' n]
theorem BV {N:List Str}(hN:N.Nodup){j:Nat}(a:N[i]?=some x)(b:N[j]?=some x):i=j:=by obtain⟨h1,e1⟩:=bv.mp a;obtain⟨h2,e2⟩:=bv.mp b;exact(List.getElem_inj hN).mp (e1.trans e2.symm)
theorem z45 (I:Inv X pins U H s)(hN:X.N.Nodup)(hi:X.N[i]?=some x)(hx:Loc X.env.scope x)(r:RelV v u)
  (h:∀s',Inv X pins (U.set i (some v)) H s'->(∃a,bu a s.heap s'.heap/\(a=X.env.locals\/X.env.cells.lookup x=some a))->Q () s') (hf:X.fn x=true\/X.env.scope.names.lookup x=some .local:=by first|exact .inl rfl|exact .inr rfl|assumption):wpAny M A (storeName X.env x u) Q E s:=by
 obtain⟨m,hn,hl⟩:=id I.loc;have yC:i<U.length:=by rw[I.len];exact(bv.mp hi).1
 have mG:=I.mG
 have tracked:∀{a:Addr} {h':Heap},(∃o,s.heap.get? a=some o/\H a=none)->bu a s.heap h'->HOk X.prog X.w H h':=λ{a h'} ha hs b ob e=>by
  obtain⟨_,_,eA⟩:=ha;refine(I.hok b ob e).stay (λc w' hc q=>(hs.2 c ?_).trans q) (λ_ q=>q) λ_ _ q=>q
  rintro rfl
  rcases hc with rfl|hc
  ·rw[eA]at e;cases e
  ·rw[eA]at hc;cases hc
 rcases hx with hk|hk
 ·refine wpAny_storeName_local hk hn (λh' xG hs=>?_) (by rw[I.ok.kind];rfl);obtain⟨oL,_,_,Pt,_⟩:=id hn;refine h _ ⟨I.ok,I.os,I.bare,⟨λb o e n hb hx=>?_,λb o e n hb hx=>?_,I.base.free,λb o e hx=>?_,I.base.cU,I.base.cK,I.base.cV⟩,⟨_,xG,λj y v' e1 e2 e3=>?_⟩,λy c e=>?_,I.free,I.bF,λp hp=>?_,tracked ⟨oL,Pt,I.free⟩ hs,by simpa using I.len,λy u e=>by obtain⟨m',hn2,q⟩:=I.fx y u e;refine⟨_,xG,?_⟩;have hy:y≠x:=λz=>(I.ok.BQ y u e).1 (z▸d9 hi);have:=Pr hn hn2 y;simp[hy,this,q]⟩ ⟨_,hs,.inl rfl⟩
  ·exact(hs.2 b (bz (b9 (bc e) I.ok.above))).trans (I.base.keep b o e n hb hx)
  ·obtain⟨sl,e1⟩:=I.base.slot b o e n hb hx;exact⟨sl,(hs.2 b (bz (b9 (bc e) I.ok.above))).trans e1⟩
  ·obtain⟨o',e1⟩:=I.base.there b o e hx;exact⟨o',(hs.2 b (bz (b9 (bc e) I.ok.above))).trans e1⟩
  ·by_cases hj:j=i
   ·subst hj;rw[hi]at e1;cases e1;rw[di yC]at e2;cases e2;exact⟨u,r,.inl ⟨hk,by simp⟩⟩
   ·rw[cr (Ne.symm hj)]at e2;obtain⟨u',r',q⟩:=hl j y v' e1 e2 e3;refine⟨u',r',?_⟩;rcases q with⟨k,e⟩|⟨k,c,e,z⟩
    ·refine .inl ⟨k,?_⟩;have:y≠x:=λe=>hj (BV hN e1 (e▸hi));simp[this,e]
    ·exact .inr ⟨k,c,e,z.sameBut hs (mG y c e)⟩
  ·obtain⟨w',z⟩:=I.cell y c e;exact⟨w',z.sameBut hs (mG y c e)⟩
  ·obtain⟨e,n,ne,nf,d⟩:=I.pin p hp;exact⟨(hs.2 p.1 ne).trans e,n,ne,nf,d⟩
 ·have hfn:X.fn x=true:=by
   rcases hf with z|z
   ·exact z
   ·rw[z]at hk;cases hk
  obtain⟨c,hc⟩:=I.ok.has x (.inl hk);obtain⟨w',z⟩:=I.cell x c hc;refine wpAny_storeName_cell I.ok.kind hk hc z (λh' hc' hs=>?_);obtain⟨oc,xH,qG⟩:=id z;refine h {s with heap:=h'} ⟨I.ok,I.os,I.bare,⟨λb o e n hb hx=>?_,λb o e n hb hx=>?_,I.base.free,λb o e hx=>?_,I.base.cU,I.base.cK,I.base.cV⟩,⟨m,hn.sameBut hs (Ne.symm (mG x c hc)),λj y v' e1 e2 e3=>?_⟩,λy c' e=>?_,I.free,I.bF,λp hp=>?_,tracked ⟨oc,xH,I.bF x c hc⟩ hs,by simpa using I.len,λy u e=>let⟨m',hn2,q⟩:=I.fx y u e;⟨m',hn2.sameBut hs (Ne.symm (mG x c hc)),q⟩⟩ ⟨c,hs,.inr hc⟩
  ·exact(hs.2 b (bz (b9 (bc e) (I.ok.uO x c hfn hc)))).trans (I.base.keep b o e n hb hx)
  ·obtain⟨sl,e1⟩:=I.base.slot b o e n hb hx;exact⟨sl,(hs.2 b (bz (b9 (bc e) (I.ok.uO x c hfn hc)))).trans e1⟩
  ·obtain⟨o',e1⟩:=I.base.there b o e hx;exact⟨o',(hs.2 b (bz (b9 (bc e) (I.ok.uO x c hfn hc)))).trans e1⟩
  ·by_cases hj:j=i
   ·subst hj;rw[hi]at e1;cases e1;rw[di yC]at e2;cases e2;exact⟨u,r,.inr ⟨.inl hk,c,hc,hc'⟩⟩
   ·rw[cr (Ne.symm hj)]at e2;obtain⟨u',r',q⟩:=hl j y v' e1 e2 e3;refine⟨u',r',?_⟩;rcases q with q|⟨k,c',e,z'⟩
    ·exact .inl q
    ·refine .inr ⟨k,c',e,z'.sameBut hs ?_⟩
     rintro rfl
     exact hj (BV hN e1 (I.ok.inj _ _ _ e hc▸hi))
  ·by_cases JC:c'=c
   ·subst JC;exact⟨_,hc'⟩
   ·obtain⟨w2,z2⟩:=I.cell y c' e;exact⟨w2,z2.sameBut hs JC⟩
  ·obtain⟨e,n,ne,nf,d⟩:=I.pin p hp;refine⟨(hs.2 p.1 ?_).trans e,n,ne,nf,d⟩;intro q;rw[q,xH]at e;exact d w' (by rw[<-v5 e];exact qG)
theorem z5j (I:Inv X pins U H s)(hN:X.N.Nodup)(hi:X.N[i]?=some x)(hx:Loc X.env.scope x)(r:RelV v u)
  (h:∀s',Inv X pins (U.set i (some v)) H s'->Q () s') (hf:X.fn x=true\/X.env.scope.names.lookup x=some .local:=by first|exact .inl rfl|exact .inr rfl|assumption):wpAny M A (storeName X.env x u) Q E s:=
 z45 I hN hi hx r (λs' I' _=>h s' I') hf
theorem Inv.call' (I:Inv X pins U H s)(ho:s'.os=s.os)(u:Un (frs X.stack) ch H H' s.heap s'.heap)(hok:HOk X.prog X.w H' s'.heap)(hg:og s'.gens)
  (iC:∀b∈ch,(b∈X.ex\/X.s₀.heap.objs.size<=b)/\b≠X.env.locals/\(∀x c,X.env.cells.lookup x=some c->c≠b)/\∀p∈X.pn++pins,p.1≠b):Inv X pins U H' s':=by
 obtain⟨h',g',d',t',o'⟩:=s';subst ho;exact I.call u hok hg iC
end
abbrev XK:=Value->Option Addr->Hp->Prop
abbrev St:=List (Option V)
abbrev VK:=V->Hp->Prop
abbrev TE:=St->Hp->VK->Prop
abbrev TT:=St->Hp->(Bool->Hp->Prop)->Prop
abbrev TA:=St->Hp->(List V->Hp->Prop)->Prop
structure Ends where
 nx:St->Hp->Prop
 rt:VK
 bk:St->Hp->Prop:=λ_ _=>False
 ct:St->Hp->Prop:=λ_ _=>False
abbrev TS:=Ends->St->Hp->Prop
def EP (X:Cx)(pins:List (Addr×Obj))(U:St)(Q:VK)(u:Value)(s':aw):Prop:=∃v H',Inv X pins U H' s'/\RelV v u/\Q v H'
def TP (X:Cx)(pins:List (Addr×Obj))(U:St)(Q:Bool->Hp->Prop)(b:Bool)(s':aw):Prop:=∃H',Inv X pins U H' s'/\Q b H'
def AP (X:Cx)(pins:List (Addr×Obj))(U:St)(Q:List V->Hp->Prop)(us:List Value)(s':aw):Prop:=∃vs H',Inv X pins U H' s'/\Vals vs us/\Q vs H'
def SP (X:Cx)(pins:List (Addr×Obj))(D:Ends)(f:Flow)(s':aw):Prop:=
 match f with
 |.next=>∃σ' H',Inv X pins σ' H' s'/\D.nx σ' H'
 |.brk=>∃σ' H',Inv X pins σ' H' s'/\D.bk σ' H'
 |.cont=>∃σ' H',Inv X pins σ' H' s'/\D.ct σ' H'
 |.ret u=>∃v σ' H',Inv X pins σ' H' s'/\RelV v u/\D.rt v H'
def PE (X:Cx)(e:Expr)(t:TE):Prop:=∀(pins:List (Addr×Obj)) (s:aw) (U:St) (H:Hp) (Q:VK),Inv X pins U H s->t U H Q->wpAny (model X.prog X.w) X.A (eval e X.env) (EP X pins U Q) X.xe s
def PT (X:Cx)(e:Expr)(t:TT):Prop:=∀(pins:List (Addr×Obj)) (s:aw) (U:St) (H:Hp) (Q:Bool->Hp->Prop),Inv X pins U H s->t U H Q->wpAny (model X.prog X.w) X.A (u4 e X.env (eval e X.env)) (TP X pins U Q) X.xe s
def PW (X:Cx)(e:Expr)(t:TT):Prop:=∀(whole:Sem Value) (pins:List (Addr×Obj)) (s:aw) (U:St) (H:Hp) (Q:Bool->Hp->Prop),Inv X pins U H s->t U H Q->wpAny (model X.prog X.w) X.A (u4 e X.env whole) (TP X pins U Q) X.xe s
theorem PW.pt (h:PW X e t):PT X e t:=h _
def PA (X:Cx)(es:List Expr)(t:TA):Prop:=∀(pos:Pos) (pins:List (Addr×Obj)) (s:aw) (U:St) (H:Hp) (Q:List V->Hp->Prop),Inv X pins U H s->t U H Q->wpAny (model X.prog X.w) X.A (spliced (ku pos (de es X.env))) (AP X pins U Q) X.xe s
def PS (X:Cx)(st:Stmt)(t:TS):Prop:=∀(pins:List (Addr×Obj)) (s:aw) (U:St) (H:Hp) (D:Ends),Inv X pins U H s->t D U H->wpAny (model X.prog X.w) X.A (exec st X.env) (SP X pins D) X.xe s
def PSs (X:Cx)(st:List Stmt)(t:TS):Prop:=∀(pins:List (Addr×Obj)) (s:aw) (U:St) (H:Hp) (D:Ends),Inv X pins U H s->t D U H->wpAny (model X.prog X.w) X.A (execs st X.env) (SP X pins D) X.xe s
theorem aL (h:wpAny M A t Q E s)(hQ:∀a s,Q a s->Q' a s):wpAny M A t Q' E s:=jc h hQ λ_ _ x=>x
def yD (i:Nat):TE:=λU H Q=>∃v,U[i]?=some (some v)/\Q v H
def tC (v:V):TE:=λ_ H Q=>Q v H
theorem xI (hN:X.N[i]?=some x)(hv:Vis X.env.scope x)(hd:Z9 x:=by decide)(hcd:(x==("__classdict__":Str))=false:=by decide):PE X (.Name x pos) (yD i):=by
 rintro pins s U H Q I ⟨v,e,h⟩
 obtain⟨m,hn,hl⟩:=I.loc;obtain⟨u,r,l⟩:=hl i x v hN e hv;have fin:EP X pins U Q u s:=⟨v,H,I,r,h⟩;rcases l with⟨hk,hm⟩|⟨hk,c,hc,kE⟩
 ·exact tm (qw I.ok.kind hk hn hm fin) hd
 ·rcases hk with hk|hk
  ·exact tm (wpAny_loadName_cell I.ok.kind hk hc kE fin) hd
  ·exact tm (wpAny_loadName_free I.ok.kind hk hc kE fin hcd) hd
theorem Pu {i j pos}:PE X (.Constant (.int i) j pos) (tC (.int i)):=λ_ _ _ H _ I h=>wpAny_Constant_int ⟨.int i,H,I.tok _,⟨_,rfl⟩,h⟩
theorem Pw {b j pos}:PE X (.Constant (.bool b) j pos) (tC (.bl b)):=λ_ _ _ H _ I h=>Constant_bool ⟨.bl b,H,I,rfl,h⟩
theorem Px {j pos}:PE X (.Constant .none j pos) (tC .non):=λ_ _ _ H _ I h=>si ⟨.non,H,I,rfl,h⟩
theorem Py {x j pos}:PE X (.Constant (.str x) j pos) (tC (.str x)):=λ_ _ _ H _ I h=>Calls.Constant_str ⟨.str x,H,I.tok _,⟨_,rfl⟩,h⟩
def Gl (X:Cx)(x:Str):Prop:=X.env.kindOf x=some .globalImplicit
theorem z2h (I:Inv X pins U H s)(hg:Gl X x)(hm:X.mg x=some u)(h:Q u s)
  (hd:Z9 x:=by decide):wpAny (model X.prog X.w) X.A (eval (.Name x pos) X.env) Q E s:=
 ky I.ok.kind hg (pv (by rw[I.ok.glob];exact I.mod.glob.keeps I.bk) hm h) hd
theorem z1w (I:Inv X pins U H s)(hg:Gl X x)(hm:X.mg x=none)(hv:db x=some u)(h:Q u s)
  (hn:x≠"__name__":=by decide) (hd:Z9 x:=by decide):wpAny (model X.prog X.w) X.A (eval (.Name x pos) X.env) Q E s:=by
 obtain⟨mb,h1,h2⟩:=I.mod.blt;exact ky I.ok.kind hg (Calls.loadGlobal_builtin (by rw[I.ok.glob];exact I.mod.glob.keeps I.bk) hm (by rw[I.ok.blt];exact h1.keeps I.bk) ((h2 x hn).trans hv) h) hd
theorem Pz (hg:Gl X x)(hm:X.mg x=some u)(r:RelV v u)(hd:Z9 x:=by decide):PE X (.Name x pos) (tC v):=λ_ _ _ H _ I h=>z2h I hg hm ⟨v,H,I,r,h⟩ hd
theorem PB (hg:Gl X x)(hm:X.mg x=none)(hv:db x=some u)(r:RelV v u)(hn:x≠"__name__":=by decide)(hd:Z9 x:=by decide):PE X (.Name x pos) (tC v):=λ_ _ _ H _ I h=>z1w I hg hm hv ⟨v,H,I,r,h⟩ hn hd
def PC (X:Cx)(op:CmpOp)(a b:Expr)(t:TE):Prop:=∀(pins:List (Addr×Obj)) (s:aw) (U:St) (H:Hp) (Q:VK),Inv X pins U H s->t U H Q->wpAny (model X.prog X.w) X.A (eval a X.env) (λv s₁=>wpAny (model X.prog X.w) X.A (eval b X.env) (λu nG=>wpAny (model X.prog X.w) X.A (cv op v u) (EP X pins U Q) X.xe nG) X.xe s₁) X.xe s
theorem JD (b:Expr)(h:op≠.In)(h2:op≠.NotIn):fj op b=false:=by
 have e1:(op==CmpOp.In)=false:=by cases op<;>first|rfl|exact absurd rfl h
 have e2:(op==CmpOp.NotIn)=false:=by cases op<;>first|rfl|exact absurd rfl h2
 cases b<;>simp[fj,e1,e2]
def yE (ta:TE):TE:=λU H Q=>ta U H λx H1=>Q (.bl (decide (x=.non))) H1
def JE (ta:TE):TE:=λU H Q=>ta U H λx H1=>Q (.bl (!decide (x=.non))) H1
theorem RelV.iD (r:RelV x v):(v==Value.none)=decide (x=.non):=by
 cases x with
 |non=>cases r;rfl
 |bl _=>cases r;rfl
 |int _=>obtain⟨t,rfl⟩:=r;rfl
 |str _=>obtain⟨t,rfl⟩:=r;rfl
 |ref _=>cases r;rfl
 |ty _=>cases r;rfl
theorem JF {j pos'}(ha:PE X a ta):PC X .Is a (.Constant .none j pos') (yE ta):=by intro pins s U H Q I h;exact aL (ha pins s U H _ I h) λv s1 ⟨x,H1,I1,r1,q1⟩=>si (is_none_gen ⟨.bl _,H1,I1,by rw[r1.iD];rfl,q1⟩)
theorem JG {j pos'}(ha:PE X a ta):PC X .IsNot a (.Constant .none j pos') (JE ta):=by intro pins s U H Q I h;exact aL (ha pins s U H _ I h) λv s1 ⟨x,H1,I1,r1,q1⟩=>si (isnot_none_gen ⟨.bl _,H1,I1,by rw[r1.iD];rfl,q1⟩)
def tB (t:TE):TT:=λU H Q=>t U H λx H1=>∃c,x=.bl c/\Q c H1
theorem JH (h:PC X op a b t)(h1:fj op b=false:=by first|exact JD _ (by decide) (by decide)|rfl):PE X (.Compare a [op] [b] pos) t:=λpins s U H Q I hw=>wpAny_Compare1 (h pins s U H Q I hw) h1
theorem JI (h:PC X op a b t)(h1:fj op b=false:=by first|exact JD _ (by decide) (by decide)|rfl):PT X (.Compare a [op] [b] pos) (tB t):=by intro pins s U H Q I hw;refine qt (aL (h pins s U H _ I hw) λv s1 h1=>aL h1 λu s2 h2=>aL h2 λc s3 ⟨x,H1,I1,r1,q1⟩=>?_) h1;obtain⟨d,rfl,q⟩:=q1;cases r1;exact fq ⟨H1,I1,q⟩
def D5 (t u:TT):TT:=λU H Q=>t U H λc H1=>if c=true then u U H1 Q else Q false H1
def JJ (t u:TT):TT:=λU H Q=>t U H λc H1=>if c=true then Q true H1 else u U H1 Q
def yF (t:TT):TT:=λU H Q=>t U H λc H1=>Q (!c) H1
theorem PD (ha:PT X a tA):PW X (.BoolOp .And [a] pos) tA:=by
 intro wh pins s U H Q I h;refine isTrue_and (aL (ha pins s U H Q I h) λc s1 e=>?_);cases c with
 |true=>exact isTrue_and_nil e
 |false=>exact e
theorem JK (ha:PT X a tA):PW X (.BoolOp .Or [a] pos) tA:=by
 intro wh pins s U H Q I h;refine isTrue_or (aL (ha pins s U H Q I h) λc s1 e=>?_);cases c with
 |false=>exact isTrue_or_nil e
 |true=>exact e
theorem PF (ha:PT X a tA)(hb:PW X (.BoolOp .And (b::rest) pos) D6):PW X (.BoolOp .And (a::b::rest) pos) (D5 tA D6):=by
 intro wh pins s U H Q I h;refine isTrue_and (aL (ha pins s U H _ I h) λc s1 ⟨H1,I1,q1⟩=>?_);cases c with
 |true=>exact hb wh pins s1 U H1 Q I1 q1
 |false=>exact⟨H1,I1,q1⟩
theorem D7 (ha:PT X a tA)(hb:PW X (.BoolOp .Or (b::rest) pos) D6):PW X (.BoolOp .Or (a::b::rest) pos) (JJ tA D6):=by
 intro wh pins s U H Q I h;refine isTrue_or (aL (ha pins s U H _ I h) λc s1 ⟨H1,I1,q1⟩=>?_);cases c with
 |true=>exact⟨H1,I1,q1⟩
 |false=>exact hb wh pins s1 U H1 Q I1 q1
theorem JL (ha:PT X a tA):PT X (.UnaryOp .Not a pos) (yF tA):=by intro pins s U H Q I h;exact isTrue_not (ha pins s U H (λc H1=>Q (!c) H1) I h)
def PH (ta tb:TE):TE:=λU H Q=>ta U H λx H1=>∃c,x=.bl c/\if c=true then tb U H1 Q else Q (.bl false) H1
def D8 (ta tb:TE):TE:=λU H Q=>ta U H λx H1=>∃c,x=.bl c/\if c=true then Q (.bl true) H1 else tb U H1 Q
theorem JM {op}(h:PE X a t):PE X (.BoolOp op [a] pos) t:=λpins s U H Q I hw=>BoolOp_one (h pins s U H Q I hw)
theorem PJ (ha:PE X a ta)(hb:PE X (.BoolOp .And (b::rest) pos) tb):PE X (.BoolOp .And (a::b::rest) pos) (PH ta tb):=by
 intro pins s U H Q I h;refine BoolOp_and (aL (ha pins s U H _ I h) λv s1 ⟨x,H1,I1,r1,q1⟩=>?_);obtain⟨c,rfl,q1⟩:=q1;cases r1;refine fq ?_;cases c with
 |true=>exact hb pins s1 U H1 Q I1 q1
 |false=>exact⟨.bl false,H1,I1,rfl,q1⟩
theorem PK (ha:PE X a ta)(hb:PE X (.BoolOp .Or (b::rest) pos) tb):PE X (.BoolOp .Or (a::b::rest) pos) (D8 ta tb):=by
 intro pins s U H Q I h;refine BoolOp_or (aL (ha pins s U H _ I h) λv s1 ⟨x,H1,I1,r1,q1⟩=>?_);obtain⟨c,rfl,q1⟩:=q1;cases r1;refine fq ?_;cases c with
 |false=>exact hb pins s1 U H1 Q I1 q1
 |true=>exact⟨.bl true,H1,I1,rfl,q1⟩
def JN (t:TT)(ta tb:TE):TE:=λU H Q=>t U H λc H1=>if c=true then ta U H1 Q else tb U H1 Q
theorem PM (hc:PT X c tA)(ha:PE X a ta)(hb:PE X b tb):PE X (.IfExp c a b pos) (JN tA ta tb):=by
 intro pins s U H Q I h;refine wpAny_IfExp (aL (hc pins s U H _ I h) λd s1 ⟨H1,I1,q1⟩=>?_);cases d with
 |true=>exact ha pins s1 U H1 Q I1 q1
 |false=>exact hb pins s1 U H1 Q I1 q1
def SqL (K:W.Frag)(H:Hp)(a:Addr)(xs:List V):Prop:=Rd H a (.lst xs)\/∃(o:Obj) (its:Array Value) (n:Nat),K.lookup a=some o/\o.cls=.type "list"/\o.dict=none/\o.data=.seq its n/\its.size<=ba/\Vals xs its.toList
def cS (K:W.Frag)(H:Hp)(a:Addr)(xs:List V):Prop:=Rd H a (.tup xs)\/∃(o:Obj) (its:Array Value) (n:Nat),K.lookup a=some o/\o.cls=.type "tuple"/\o.dict=none/\o.data=.seq its n/\its.size<=ba/\Vals xs its.toList
def D9:Value->Option V
 |.none=>some .non
 |.bool b=>some (.bl b)
 |.int i _=>some (.int i)
 |.str x _=>some (.str x)
 |.ref a=>some (.ref a)
 |.type n=>some (.ty n)
 |_=>none
theorem RelV.abs (r:RelV x u):D9 u=some x:=by
 cases x with
 |non=>cases r;rfl
 |bl _=>cases r;rfl
 |int _=>obtain⟨t,rfl⟩:=r;rfl
 |str _=>obtain⟨t,rfl⟩:=r;rfl
 |ref _=>cases r;rfl
 |ty _=>cases r;rfl
theorem RelV.inj (r:RelV x u)(q:RelV y u):x=y:=v5 (r.abs.symm.trans q.abs)
theorem Vals.inj:∀{xs ys:List V} {us:List Value},Vals xs us->Vals ys us->xs=ys
 |_,_,_,.nil,.nil=>rfl
 |_,_,_,.cons r t,.cons r' t'=>by rw[r.inj r',Vals.inj t t']
theorem SqL.of {K:W.Frag}(h:H a=some (.lst xs)):SqL K H a xs:=.inl (.inl h)
theorem cS.of {K:W.Frag}(h:H a=some (.tup xs)):cS K H a xs:=.inl (.inl h)
theorem Inv.list (I:Inv X pins U H s)(h:SqL X.K H a xs):∃its,Vals xs its/\PlainL s.heap a its.toArray/\xs.length<=ba:=by
 rcases h with h|⟨o,its,n,hk,hc,hd,hs,hz,r⟩
 ·obtain⟨z,its,n,r,e⟩:=h.ok I.hok;exact⟨its,r,⟨_,n,e,rfl,rfl,rfl⟩,z⟩
 ·refine⟨its.toList,r,⟨o,n,I.dB a o hk,hc,hd,by simpa using hs⟩,?_⟩;have e:=r.length;simp at e;omega
theorem Inv.tuple (I:Inv X pins U H s)(h:cS X.K H a xs):∃its,Vals xs its/\IsTup s.heap a its.toArray/\xs.length<=ba:=by
 rcases h with h|⟨o,its,n,hk,hc,_,hs,hz,r⟩
 ·obtain⟨z,its,r,p⟩:=h.ok I.hok;exact⟨its,r,p.tup,z⟩
 ·refine⟨its.toList,r,⟨o,I.dB a o hk,hc,n,by simpa using hs⟩,?_⟩;have e:=r.length;simp at e;omega
theorem Inv.nH (I:Inv X pins U H s)(h:SqL X.K H a xs)(h':SqL X.K H a ys):xs=ys:=by
 obtain⟨its,r,⟨o,n,e,_,_,d⟩,_⟩:=I.list h;obtain⟨fJ,r',⟨o',n',e',_,_,d'⟩,_⟩:=I.list h';rw[e]at e';cases e';rw[d]at d';injection d' with d1 _;have:its=fJ:=by simpa using congrArg Array.toList d1
 subst this;exact r.inj r'
theorem Inv.kW (I:Inv X pins U H s)(h:cS X.K H a xs)(h':cS X.K H a ys):xs=ys:=by
 obtain⟨its,r,⟨o,e,_,n,d⟩,_⟩:=I.tuple h;obtain⟨fJ,r',⟨o',e',_,n',d'⟩,_⟩:=I.tuple h';rw[e]at e';cases e';rw[d]at d';injection d' with d1 _;have:its=fJ:=by simpa using congrArg Array.toList d1
 subst this;exact r.inj r'
abbrev Cx.fK (X:Cx)(E:Value->aw->Prop):Cx:={X with xe:=E}
abbrev Cx.yG (X:Cx):Cx:=X.fK λ_ _=>False
theorem Cx.Ok.fK {X:Cx}(ok:X.Ok)(E:Value->aw->Prop):(X.fK E).Ok:=⟨ok.mod,ok.kind,ok.glob,ok.blt,ok.above,ok.inj,ok.has,ok.uO,ok.hd,ok.frames,ok.xF,ok.fD,ok.bs,ok.nB,ok.jD,ok.jE,ok.cW,ok.qF,ok.BQ⟩
theorem Cx.Ok.cX {X:Cx}(ok:(X.fK E).Ok):X.Ok:=⟨ok.mod,ok.kind,ok.glob,ok.blt,ok.above,ok.inj,ok.has,ok.uO,ok.hd,ok.frames,ok.xF,ok.fD,ok.bs,ok.nB,ok.jD,ok.jE,ok.cW,ok.qF,ok.BQ⟩
theorem Inv.fK (I:Inv X pins U H s)(E:Value->aw->Prop):Inv (X.fK E) pins U H s:=⟨I.ok.fK E,I.os,I.bare,I.base,I.loc,I.cell,I.free,I.bF,I.pin,I.hok,I.len,I.fx⟩
theorem Inv.cX (I:Inv (X.fK E) pins U H s):Inv X pins U H s:=⟨I.ok.cX,I.os,I.bare,I.base,I.loc,I.cell,I.free,I.bF,I.pin,I.hok,I.len,I.fx⟩
theorem SP.cX (h:SP (X.fK E) pins D f s'):SP X pins D f s':=by
 cases f with
 |next=>obtain⟨σ',H',I,q⟩:=h;exact⟨σ',H',I.cX,q⟩
 |brk=>obtain⟨σ',H',I,q⟩:=h;exact⟨σ',H',I.cX,q⟩
 |cont=>obtain⟨σ',H',I,q⟩:=h;exact⟨σ',H',I.cX,q⟩
 |ret u=>obtain⟨v,σ',H',I,r,q⟩:=h;exact⟨v,σ',H',I.cX,r,q⟩
theorem PSs.yG {st:List Stmt}(h:PSs X.yG st t):PSs X st t:=λpins s U H D I hw=>jc (h pins s U H D (I.fK _) hw) (λ_ _ q=>q.cX) λ_ _ z=>False.elim z
section
variable {X:Cx}{st:Stmt}{rest:List Stmt}{t u:TS}
def JO:TS:=λD U H=>D.nx U H
def yH (t u:TS):TS:=λD U H=>t {D with nx:=u D} U H
theorem JP:PSs X [] JO:=λ_ _ U H _ I h=>ny ⟨U,H,I,h⟩
theorem JQ (h1:PS X st t)(h2:PSs X rest u):PSs X (st::rest) (yH t u):=by
 intro pins s U H D I h;refine wpAny_execs_cons (aL (h1 pins s U H {D with nx:=u D} I h) λf s1 q=>?_);cases f with
 |next=>obtain⟨σ',H',I',q⟩:=q;exact h2 pins s1 σ' H' D I' q
 |ret v=>exact q
 |brk=>exact q
 |cont=>exact q
def PN:TS:=λD U H=>D.ct U H
theorem PQ:PS X (.Continue pos) PN:=λ_ _ U H _ I h=>wpAny_Continue ⟨U,H,I,h⟩
theorem Inv.quiet (I:Inv X pins U H s):interactive X.env=false:=by simp[interactive,I.ok.kind]
def yI (te:TE):TS:=λD U H=>te U H λ_ H1=>D.nx U H1
theorem PR (he:PE X e te)(hs:lc e none pos.line X.env=pure false:=by rfl):PS X (.Expr e pos) (yI te):=by intro pins s U H D I h;exact wpAny_Expr_any (aL (he pins s U H _ I h) λv s1 ⟨x,H1,I1,r1,q1⟩=>⟨U,H1,I1,q1⟩) I.quiet hs
def yJ (te:TE):TS:=λD U H=>te U H D.rt
theorem Ea (he:PE X e te):PS X (.Return (some e) pos) (yJ te):=by intro pins s U H D I h;exact wpAny_Return_some (aL (he pins s U H _ I h) λv s1 ⟨x,H1,I1,r1,q1⟩=>⟨x,U,H1,I1,r1,q1⟩)
def yK (c:TT)(t u:TS):TS:=λD U H=>c U H λb H1=>if b=true then t D U H1 else u D U H1
theorem JR (hc:PT X c tc)(ha:PSs X a t)(hb:PSs X b u):PS X (.If c a b pos) (yK tc t u):=by
 intro pins s U H D I h;refine wpAny_If (aL (hc pins s U H _ I h) λd s1 ⟨H1,I1,q1⟩=>?_);cases d with
 |true=>exact ha pins s1 U H1 D I1 q1
 |false=>exact hb pins s1 U H1 D I1 q1
end
abbrev TG:=V->St->Hp->(St->Hp->Prop)->Prop
abbrev uP:=List V->St->Hp->(St->Hp->Prop)->Prop
def PG (X:Cx)(target:Expr)(t:TG):Prop:=∀(pins:List (Addr×Obj)) (s:aw) (U:St) (H:Hp) (v:V) (u:Value) (Q:St->Hp->Prop),Inv X pins U H s->RelV v u->t v U H Q->wpAny (model X.prog X.w) X.A (tq target X.env u) (λ_ s'=>∃σ' H',Inv X pins σ' H' s'/\Q σ' H') X.xe s
def PGs (X:Cx)(ts:List Expr)(t:uP):Prop:=∀(pins:List (Addr×Obj)) (s:aw) (U:St) (H:Hp) (vs:List V) (us:List Value) (Q:St->Hp->Prop),Inv X pins U H s->Vals vs us->t vs U H Q->wpAny (model X.prog X.w) X.A (assignInOrder ((fv ts X.env).map (·.2)) us) (λ_ s'=>∃σ' H',Inv X pins σ' H' s'/\Q σ' H') X.xe s
abbrev uQ:=V->V->V->Hp->(Hp->Prop)->Prop
def Eb (X:Cx)(t:uQ):Prop:=∀(pins:List (Addr×Obj)) (s:aw) (U:St) (H:Hp) (o i v:V) (ov iv u:Value) (Q:Hp->Prop),Inv X pins U H s->RelV o ov->RelV i iv->RelV v u->t o i v H Q->wpAny (model X.prog X.w) X.A (setItem ov iv u) (λ_ s'=>∃H',Inv X pins U H' s'/\Q H') X.xe s
def BW (i:Nat):TG:=λv U H Q=>Q (U.set i (some v)) H
theorem JS (hN:X.N.Nodup)(hi:X.N[i]?=some x)(hx:Loc X.env.scope x)(hf:X.fn x=true\/X.env.scope.names.lookup x=some .local:=by first|exact .inl rfl|exact .inr rfl|assumption):PG X (.Name x pos) (BW i):=by intro pins s U H v u Q I r h;exact ub (z5j I hN hi hx r (λs' I'=>⟨_,H,I',h⟩) hf)
def Ec:uP:=λvs U H Q=>vs=[]/\Q U H
def PU (t:TG)(u:uP):uP:=λvs U H Q=>∃v r,vs=v::r/\t v U H λσ' H'=>u r σ' H' Q
theorem PV:PGs X [] Ec:=by
 rintro pins s U H vs us Q I r ⟨rfl,h⟩
 cases r;exact assignInOrder_nil ⟨U,H,I,h⟩
theorem zez (h1:PG X e t)(h2:PGs X es u)
  (hs:(fv (e::es) X.env).map (·.2)=tq e X.env::(fv es X.env).map (·.2):=by rfl):PGs X (e::es) (PU t u):=by
 rintro pins s U H vs us Q I r ⟨v,vr,rfl,h⟩
 cases r with
 |cons r rr=>rw[hs];refine assignInOrder_cons (aL (h1 pins s U H _ _ _ I r h) λ_ s1 ⟨xJ,H1,I1,q1⟩=>?_);exact h2 pins s1 xJ H1 _ _ Q I1 rr q1
def Ed (K:W.Frag)(n:Nat)(t:uP):TG:=λv U H Q=>∃a xs,v=.ref a/\cS K H a xs/\xs.length=n/\t xs U H Q
theorem znk (hc:X.calm=true)(h:PGs X es t)
  (hn:(fv es X.env).length=n:=by rfl) (hst:(fv es X.env).findIdx? (·.1)=none:=by rfl):PG X (.Tuple es k pos) (Ed X.K n t):=by
 rintro pins s U H v u Q I r ⟨a,xs,rfl,hq,hl,hw⟩
 cases r;obtain⟨its,rv,ht,hz⟩:=I.tuple hq;refine assign_Tuple_tuple (I.ok.hd hc) ht (by simp[hn,<-hl,rv.length]) hst λh' hx=>?_;have I1:Inv X pins U H {s with heap:=h'}:=I.kept λb o e=>hx b o (bz (bc e)) e;exact h pins _ U H xs _ Q I1 (by simpa using rv) hw
def qH (te:TE)(g:TG):TS:=λD U H=>te U H λx H1=>g x U H1 D.nx
theorem zpd (he:PE X e te)(hg:PG X tg g)(hs:sr [tg] e pos.line X.env=pure false:=by rfl)(hw:sw [tg] e X.env=pure none:=by rfl)
  (h1:(fv [tg] X.env).map (·.2)=[tq tg X.env]:=by rfl):PS X (.Assign [tg] e pos) (qH te g):=by
 intro pins s U H D I h;refine wpAny_Assign_stores (aL (he pins s U H _ I h) λv s1 ⟨x,H1,I1,r1,q1⟩=>?_) hs hw;rw[h1];exact aL (hg pins s1 U H1 x v _ I1 r1 q1) λ_ s2 q=>q
theorem zi8 (hN:X.N.Nodup)(hi:X.N[i]?=some x)(hx:Loc X.env.scope x)(he:PE X e te)(hs:lc e (some (.Name x pos')) pos.line X.env=pure false:=by rfl)(hf:X.fn x=true\/X.env.scope.names.lookup x=some .local:=by first|exact .inl rfl|exact .inr rfl|assumption):
  PS X (.Assign [.Name x pos'] e pos) (qH te (BW i)):=by
 intro pins s U H D I h;refine wpAny_Assign_Name (aL (he pins s U H _ I h) λv s1 ⟨y,H1,I1,r1,q1⟩=>?_) hs;exact z5j I1 hN hi hx r1 (λs2 I2=>⟨_,H1,I2,q1⟩) hf
def JT (c:TT)(tb:TS):TS:=λD U H=>∃W:Nat->St->Hp->Prop,(∃m,W m U H)/\∀m U H,W m U H->c U H λb H1=>if b=true then ∃N:St->Hp->Prop,(∀σ' H',N σ' H'->∃m',m'<m/\W m' σ' H')/\tb {D with nx:=N,ct:=N,bk:=D.nx} U H1 else D.nx U H1
theorem PX (hp:ja (model X.prog X.w) X.A X.env X.xe)(hc:PT X c tc)(hb:PSs X body tb):PS X (.While c body [] pos) (JT tc tb):=by
 rintro pins s U H D I ⟨W,⟨m0,w0⟩,turn⟩
 refine wpAny_While (codeAny_whileLoop (λn s'=>∃σ' H',Inv X pins σ' H' s'/\W n σ' H') ?_ m0 ⟨U,H,I,w0⟩)
 rintro n s1 ⟨xJ,H1,I1,w1⟩
 refine jm hp (aL (hc pins s1 xJ H1 _ I1 (turn n xJ H1 w1)) λb s2 ⟨H2,I2,q2⟩=>?_);cases b with
 |true=>
  obtain⟨N,hN,q2⟩:=q2;refine jm hp (aL (hb pins s2 xJ H2 _ I2 q2) λf s3 q3=>?_);cases f with
  |next=>obtain⟨kY,H3,I3,n3⟩:=q3;obtain⟨m',hm,w3⟩:=hN kY H3 n3;exact⟨m',hm,kY,H3,I3,w3⟩
  |cont=>obtain⟨kY,H3,I3,n3⟩:=q3;obtain⟨m',hm,w3⟩:=hN kY H3 n3;exact⟨m',hm,kY,H3,I3,w3⟩
  |brk=>exact q3
  |ret v=>exact q3
 |false=>exact ny ⟨xJ,H2,I2,q2⟩
structure It where
 go:Nat->Hp->Prop
 kZ:Nat->Hp->V->Hp->Prop
 stop:Nat->Hp->Prop
def FpOk (X:Cx)(pins:List (Addr×Obj))(H:Hp)(b:Addr):Prop:=H b=none/\b≠X.env.locals/\b∉X.fs/\(b∈X.ex\/X.s₀.heap.objs.size<=b)/\(∀x c,X.env.cells.lookup x=some c->c≠b)/\∀p∈X.pn++pins,p.1≠b
theorem Inv.fL (I:Inv X pins U H s)(hb:s.heap.objs.size<=b)(hn:H' b=none):FpOk X pins H' b:=by
 refine⟨hn,oh (b9 I.lt hb),I.yA hb,.inr (b8 I.sz hb),λx c e z=>?_,λp hp z=>?_⟩
 ·obtain⟨v,q⟩:=I.cell x c e;exact absurd (b9 q.lt (by rw[z];exact hb)) (cw _)
 ·exact absurd (b9 (bc (I.pin p hp).1) (by rw[z];exact hb)) (cw _)
structure Turn (P:cf)(w:World)(K:W.Frag)(tg:Expr)(J:It)(fp:List Addr)(it:Addr)(tn:Nat->Heap->Prop):Prop where
 mem:it∈fp
 obj:∀i h,tn i h->∀b∈fp,∃o,h.get? b=some o/\∀v,o.data≠.cell v
 keep:∀i h h',tn i h->(∀b∈fp,∀o,h.get? b=some o->h'.get? b=some o)->tn i h'
 item:∀(X:Cx),X.prog=P->X.w=w->X.K=K->X.calm=true->∀(i:Nat) (pins:List (Addr×Obj)) (s:aw) (U:St) (H:Hp) (E:Value->aw->Prop),Inv X pins U H s->(∀b∈fp,FpOk X pins H b)->tn i s.heap->J.go i H->wpAny (model P w) X.A (u5 (.ref it)) (λr s1=>∃u,r=some u/\wpAny (model P w) X.A (kj tg (.ref it) u) (λ_ s2=>∃x H',Inv X pins U H' s2/\RelV x u/\J.kZ i H x H'/\tn (i+1) s2.heap/\∀b∈fp,H' b=none) E s1) E s
 done:∀(X:Cx),X.prog=P->X.w=w->X.K=K->X.calm=true->∀(i:Nat) (pins:List (Addr×Obj)) (s:aw) (U:St) (H:Hp) (E:Value->aw->Prop),Inv X pins U H s->(∀b∈fp,FpOk X pins H b)->tn i s.heap->J.stop i H->wpAny (model P w) X.A (u5 (.ref it)) (λr s1=>r=none/\Inv X pins U H s1) E s
 self:∀(A:iz) (i:Nat) (s:aw) (Q:Value->aw->Prop) (E:Value->aw->Prop),tn i s.heap->Q (.ref it) s->wpAny (model P w) A (tu (.ref it)) Q E s
abbrev TI:=St->Hp->(It->Hp->Prop)->Prop
def uR (X:Cx)(pins:List (Addr×Obj))(U:St)(tg:Expr)(R:It->Hp->Prop)(xK:Value)(s2:aw):Prop:=∃(it:Addr) (fp:List Addr) (tn:Nat->Heap->Prop) (J:It) (H':Hp),xK=.ref it/\Inv X pins U H' s2/\Turn X.prog X.w X.K tg J fp it tn/\tn 0 s2.heap/\(∀b∈fp,FpOk X pins H' b)/\R J H'
def PI (X:Cx)(tg iter:Expr)(wi:TI):Prop:=∀(pins:List (Addr×Obj)) (s:aw) (U:St) (H:Hp) (R:It->Hp->Prop),Inv X pins U H s->wi U H R->wpAny (model X.prog X.w) X.A (eval iter X.env) (λv s1=>wpAny (model X.prog X.w) X.A (tu v) (uR X pins U tg R) X.xe s1) X.xe s
theorem z71 (ho:s.heap.get? it=some o)(hc:o.cls=.type n)(hd:o.data=.fields vs)
  (hn:["enumerate","zip","dict_itemiterator","dict_reverseitemiterator","odict_iterator","itertools.zip_longest","itertools.pairwise"].contains n=false) (hQ:Q () s):wpAny M A (kj tg (.ref it) u) Q E s:=by
 cases tg<;>first
  |exact aj hQ
  |(cases u<;>first
   |exact aj hQ
   |(refine aa (vj ho ?_)
     rw[hc,hd];show wpAny M A (if(["enumerate","zip","dict_itemiterator","dict_reverseitemiterator","odict_iterator","itertools.zip_longest","itertools.pairwise"].contains n&&vs[0]?==some (fg _))=true then _ else _) Q E s;rw[vz (by intro h;rw[hn]at h;cases h)];exact aj hQ))
def Ee (K:W.Frag)(a:Addr):It:=⟨λi H=>∃xs x,SqL K H a xs/\xs[i]?=some x,λi H x H'=>H'=H/\∀xs,SqL K H a xs->xs[i]?=some x,λi H=>∃xs,SqL K H a xs/\xs.length<=i⟩
def JU (K:W.Frag)(a:Addr):It:=⟨λi H=>∃xs x,cS K H a xs/\xs[i]?=some x,λi H x H'=>H'=H/\∀xs,cS K H a xs->xs[i]?=some x,λi H=>∃xs,cS K H a xs/\xs.length<=i⟩
def BX (lo:Int)(n:Nat):It:=⟨λi _=>i<n,λi H x H'=>H'=H/\x=.int (lo+i),λi _=>n<=i⟩
theorem JV {K:W.Frag}(a it:Addr):Turn P w K tg (Ee K a) [it] it (λi h=>h.IsListIter it a i) where
 mem:=by simp
 obj:=λi h st b hb=>by
  have e:b=it:=by simpa using hb
  subst e;obtain⟨o,e,c,d⟩:=st;exact⟨o,e,λv z=>by rw[d]at z;cases z⟩
 keep:=λi h h' st k=>st.at λo e=>k it (by simp) o e
 item:=by intro X hP hw hK hc i pins s U H E I hf st hg;subst hP hw hK;obtain⟨xs,x,hq,hx⟩:=hg;obtain⟨its,rv,p,hz⟩:=I.list hq;obtain⟨u,hu,ru⟩:=rv.get hx;obtain⟨f0,f1,f2,f3,f4,f5⟩:=hf it (by simp);refine wpAny_pyNext_list_item st p.isList (by simpa using hu) λh' jF sb=>?_;have I1:Inv X pins U H {s with heap:=h'}:=I.turned (λb o hb e=>(sb.2 b hb).trans e) f0 f1 f3 f4 f5;obtain⟨o,e,c,d⟩:=id jF;exact⟨u,rfl,z71 e c d (by decide) ⟨x,H,I1,ru,⟨rfl,λys hy=>by rw[I.nH hy hq];exact hx⟩,jF,λb hb=>(hf b hb).1⟩⟩
 done:=by intro X hP hw hK hc i pins s U H E I hf st hg;subst hP hw hK;obtain⟨xs,hq,hx⟩:=hg;obtain⟨its,rv,p,hz⟩:=I.list hq;obtain⟨f0,f1,f2,f3,f4,f5⟩:=hf it (by simp);have hl:=rv.length;exact wpAny_pyNext_list_end (I.ok.hd hc) st p.isList (by simp;omega) λh' eb=>⟨rfl,I.turned (λb o hb e=>eb b o hb e) f0 f1 f3 f4 f5⟩
 self:=λ_ _ _ _ _ st h=>wpAny_pyIter_listiter st h
theorem PY {K:W.Frag}(a it:Addr):Turn P w K tg (JU K a) [it] it (λi h=>h.IsTupleIter it a i) where
 mem:=by simp
 obj:=λi h st b hb=>by
  have e:b=it:=by simpa using hb
  subst e;obtain⟨o,e,c,d⟩:=st;exact⟨o,e,λv z=>by rw[d]at z;cases z⟩
 keep:=λi h h' st k=>st.at λo e=>k it (by simp) o e
 item:=by intro X hP hw hK hc i pins s U H E I hf st hg;subst hP hw hK;obtain⟨xs,x,hq,hx⟩:=hg;obtain⟨its,rv,p,hz⟩:=I.tuple hq;obtain⟨u,hu,ru⟩:=rv.get hx;obtain⟨f0,f1,f2,f3,f4,f5⟩:=hf it (by simp);refine wpAny_pyNext_tuple_item st p (by simpa using hu) λh' jF sb=>?_;have I1:Inv X pins U H {s with heap:=h'}:=I.turned (λb o hb e=>(sb.2 b hb).trans e) f0 f1 f3 f4 f5;obtain⟨o,e,c,d⟩:=id jF;exact⟨u,rfl,z71 e c d (by decide) ⟨x,H,I1,ru,⟨rfl,λys hy=>by rw[I.kW hy hq];exact hx⟩,jF,λb hb=>(hf b hb).1⟩⟩
 done:=by intro X hP hw hK hc i pins s U H E I hf st hg;subst hP hw hK;obtain⟨xs,hq,hx⟩:=hg;obtain⟨its,rv,p,hz⟩:=I.tuple hq;obtain⟨f0,f1,f2,f3,f4,f5⟩:=hf it (by simp);have hl:=rv.length;exact wpAny_pyNext_tuple_end (I.ok.hd hc) st p (by simp;omega) λh' eb=>⟨rfl,I.turned (λb o hb e=>eb b o hb e) f0 f1 f3 f4 f5⟩
 self:=λ_ _ _ _ _ st h=>wpAny_pyIter_tupleiter st h
theorem PZ {K:W.Frag}(it:Addr)(lo:Int)(n:Nat):Turn P w K tg (BX lo n) [it] it (λi h=>lz h it (lo+(i:Nat)*1) ((n:Int)-(i:Nat)) 1) where
 mem:=by simp
 obj:=λi h st b hb=>by
  have e:b=it:=by simpa using hb
  subst e;exact⟨_,st,λv z=>by cases z⟩
 keep:=λi h h' st k=>k it (by simp) _ st
 item:=by intro X hP hw hK hc i pins s U H E I hf st hg;subst hP hw hK;obtain⟨f0,f1,f2,f3,f4,f5⟩:=hf it (by simp);refine(Walks.range (prog:=X.prog) (w:=X.w) (I.ok.hd hc) it lo 1 n).item i s _ _ hg st λv h' tk hv jF kk=>?_;obtain⟨t,rfl⟩:=hv;have I1:Inv X pins U H {s with heap:=h',toks:=tk}:=I.turned (λb o hb e=>kk b o (by simpa using hb) e) f0 f1 f3 f4 f5;refine⟨_,rfl,z71 jF rfl rfl (by decide) ⟨.int (lo+i),H,I1,⟨t,?_⟩,⟨rfl,rfl⟩,jF,λb hb=>(hf b hb).1⟩⟩;rw[Int.mul_one]
 done:=by intro X hP hw hK hc i pins s U H E I hf st hg;obtain⟨f0,f1,f2,f3,f4,f5⟩:=hf it (by simp);exact wpAny_pyNext_range_end (I.ok.hd hc) st (by have:n<=i:=hg;omega) λh' eb=>⟨rfl,I.turned (λb o hb e=>eb b o hb e) f0 f1 f3 f4 f5⟩
 self:=λ_ _ _ _ _ st h=>wpAny_pyIter_rangeiter st h
def yL (K:W.Frag)(tl:TE):TI:=λU H R=>tl U H λx H1=>∃a,x=.ref a/\(∃xs,SqL K H1 a xs)/\R (Ee K a) H1
theorem P0 (hl:PE X l tl):PI X tg l (yL X.K tl):=by
 intro pins s U H R I h;refine aL (hl pins s U H _ I h) λv s1 ⟨x,H1,I1,r1,q1⟩=>?_;obtain⟨a,rfl,⟨xs,hq⟩,q⟩:=q1;cases r1;obtain⟨its,rv,p,hz⟩:=I1.list hq;refine mf p.isList (⟨s1.heap.objs.size,[s1.heap.objs.size],_,_,H1,rfl,I1.kept λb o e=>af _ e,JV a _,⟨_,au _ rfl,rfl,rfl⟩,λb hb=>?_,q⟩);have e:b=s1.heap.objs.size:=by simpa using hb
 subst e;exact I1.fL (ag _) (I1.hok.fresh (ag _))
theorem zff {lo:Int}(I:Inv X pins U H s)(h1:-(2 ^ 62)<=lo)(h2:lo<2 ^ 62)(h3:-(2 ^ 62)<=hi)(h4:hi<2 ^ 62)
  (q:R (BX lo (hi-lo).toNat) H):wpAny (model X.prog X.w) X.A (tu (.ref s.heap.objs.size)) (uR X pins U tg R) E {s with heap:=s.heap.push {cls:=.type "range",data:=.fields #[.int lo t,.int hi u,.int 1 v]},toks:=tk}:=by
 refine oq (IsRange.new ..) (small_one h1 h2 h3 h4) ?_;have I1:Inv X pins U H {s with heap:=s.heap.push {cls:=.type "range",data:=.fields #[.int lo t,.int hi u,.int 1 v]},toks:=tk}:=I.kept λb o e=>af _ e;refine⟨(s.heap.push {cls:=.type "range",data:=.fields #[.int lo t,.int hi u,.int 1 v]}).objs.size,[(s.heap.push {cls:=.type "range",data:=.fields #[.int lo t,.int hi u,.int 1 v]}).objs.size],_,_,H,rfl,I1.kept λb o e=>af _ e,PZ _ lo (hi-lo).toNat,?_,λb hb=>?_,q⟩
 ·have e1:lo+((0:Nat):Int)*1=lo:=by simp
  have e2:(((hi-lo).toNat:Nat):Int)-((0:Nat):Int)=eu lo hi 1:=by rw[rangeSize_one];split<;>omega
  rw[e1,e2];exact au _ rfl
 ·have e:b=(s.heap.push {cls:=.type "range",data:=.fields #[.int lo t,.int hi u,.int 1 v]}).objs.size:=by simpa using hb
  subst e;exact I1.fL (ag _) (I1.hok.fresh (ag _))
def P4 (ta:TA):TI:=λU H R=>ta U H λvs H1=>∃j:Int,vs=[.int j]/\-(2 ^ 62)<=j/\j<2 ^ 62/\R (BX 0 j.toNat) H1
theorem P5 (hg:Gl X "range")(hm:X.mg "range"=none)(ha:PA X [a] ta)(hs:de [a] X.env=[(false,eval a X.env)]:=by rfl):PI X tg (.Call (.Name "range" p) [a] [] pos) (P4 ta):=by
 intro pins s U H R I h;refine Call_ (z1w I hg hm boot_range (PyProof.Rows.callWith_type1 (aL (ha pos pins s U H _ I h) λus s1 ⟨vs,H1,I1,r1,q1⟩=>?_) hs rfl));obtain⟨j,rfl,q1,q2,q⟩:=q1;cases r1 with
 |cons r rr=>cases rr;obtain⟨t,rfl⟩:=r;exact call_range_1 (zff I1 (by omega) (by omega) q1 q2 (by simpa using q))
def jG (wi:TI)(g:TG)(tb:TS):TS:=λD U H=>wi U H λJ H1=>∃W:Nat->Nat->St->Hp->Prop,(∃m,W 0 m U H1)/\∀i m U H,W i m U H->(J.stop i H/\D.nx U H)\/(J.go i H/\∃N:St->Hp->Prop,(∀σ' H',N σ' H'->∃m',m'<m/\W (i+1) m' σ' H')/\∀x H',J.kZ i H x H'->g x U H' λeP H2=>tb {D with nx:=N,ct:=N,bk:=D.nx} eP H2)
def z5u (fp:List Addr)(h:Heap):List (Addr×Obj):=fp.filterMap λb=>(h.get? b).map λo=>(b,o)
theorem BY (hb:b∈fp)(e:h.get? b=some o):(b,o)∈z5u fp h:=ou.mpr ⟨b,hb,by rw[e];rfl⟩
theorem P6 (hp:p∈z5u fp h):p.1∈fp/\h.get? p.1=some p.2:=by
 obtain⟨b,hb,e⟩:=ou.mp hp;cases q:h.get? b with
 |none=>rw[q]at e;cases e
 |some o=>rw[q]at e;have e':=v5 e;subst e';exact⟨hb,q⟩
theorem Inv.pinned (I:Inv X pins U H s)(hf:∀b∈fp,FpOk X pins H b)(ho:∀b∈fp,∃o,s.heap.get? b=some o/\∀v,o.data≠.cell v):Inv X (pins++z5u fp s.heap) U H s:=I.gL λp hp=>(bo.mp hp).elim (λz=>I.pin p (bw _ z)) λz=>by obtain⟨hb,e⟩:=P6 z;obtain⟨f0,f1,f2,_⟩:=hf p.1 hb;obtain⟨o,e',d⟩:=ho p.1 hb;rw[e]at e';cases e';exact⟨e,f0,f1,f2,d⟩
theorem Inv.cY (I:Inv X (pins++pl) U H s):Inv X pins U H s:=I.gL λp hp=>I.pin p (bw _ (cy _ hp))
theorem zb2 (hp:ja (model X.prog X.w) X.A X.env X.xe)(hc:X.calm=true)(hi:PI X tg iter wi)(hg:PG X tg g)(hb:PSs X body tb)
  (hs:∀x,iu iter X.env x=pure x:=by intro _;rfl):PS X (.For tg iter body [] pos) (jG wi g tb):=by
 intro pins s U H D I h;refine wpAny_For (aL (hi pins s U H _ I h) λv s1 h1=>aL h1 λxK s2 h2=>?_) hs;obtain⟨it,fp,tn,J,H2,rfl,I2,T,qI,f2,W,⟨m0,w0⟩,turn⟩:=h2;have uS:∀{H':Hp},(∀b∈fp,H' b=none)->∀b∈fp,FpOk X pins H' b:=λhn b hb=>⟨hn b hb,(f2 b hb).2⟩;refine codeAny_forLoop_any (λn s'=>∃i σ' H',Inv X pins σ' H' s'/\tn i s'.heap/\(∀b∈fp,H' b=none)/\W i n σ' H') ?_ m0 ⟨0,U,H2,I2,qI,λb hb=>(f2 b hb).1,w0⟩
 rintro n s3 ⟨i,kY,H3,I3,yM,nJ,w3⟩
 rcases turn i n kY H3 w3 with⟨stop,qn⟩|⟨go,N,hN,step⟩
 ·refine jm hp (aL (T.done X rfl rfl rfl hc i pins s3 kY H3 X.xe I3 (uS nJ) yM stop) λr s4 ⟨hr,I4⟩=>?_);subst hr;exact ny ⟨kY,H3,I4,qn⟩
 ·refine jm hp (aL (T.item X rfl rfl rfl hc i pins s3 kY H3 X.xe I3 (uS nJ) yM go) λr s4 ⟨u,hr,h4⟩=>?_);subst hr;refine jm hp (aL h4 λ_ s5 ⟨x,H5,I5,r5,y5,uT,xM⟩=>?_);refine jm hp (aL (hg _ s5 kY H5 x u _ (I5.pinned (uS xM) (T.obj _ _ uT)) r5 (step x H5 y5)) λ_ s6 ⟨σ6,H6,I6,q6⟩=>?_);refine jm hp (aL (hb _ s6 σ6 H6 _ I6 q6) λf s7 q7=>?_);have again:∀{nK:St} {H7:Hp},Inv X (pins++z5u fp s5.heap) nK H7 s7->N nK H7->∃m,m<n/\∃i σ' H',Inv X pins σ' H' s7/\tn i s7.heap/\(∀b∈fp,H' b=none)/\W i m σ' H':=λ{nK H7} I7 n7=>by obtain⟨m',hm,w7⟩:=hN nK H7 n7;refine⟨m',hm,i+1,nK,H7,I7.cY,T.keep _ _ _ uT λb hb o e=>(I7.pin (b,o) (bw _ (bw _ (BY hb e)))).1,λb hb=>?_,w7⟩;obtain⟨o,e,d⟩:=T.obj _ _ uT b hb;exact(I7.pin (b,o) (bw _ (bw _ (BY hb e)))).2.1
  cases f with
  |next=>obtain⟨nK,H7,I7,n7⟩:=q7;exact again I7 n7
  |cont=>obtain⟨nK,H7,I7,n7⟩:=q7;exact again I7 n7
  |brk=>obtain⟨nK,H7,I7,q7⟩:=q7;exact⟨nK,H7,I7.cY,q7⟩
  |ret v=>obtain⟨x7,nK,H7,I7,r7,q7⟩:=q7;exact⟨x7,nK,H7,I7.cY,r7,q7⟩
abbrev R2:=V->V->Hp->VK->Prop
def OpR (X:Cx)(f:Value->Value->Sem Value)(r:R2):Prop:=∀(pins:List (Addr×Obj)) (s:aw) (U:St) (H:Hp) (x y:V) (v u:Value) (Q:VK),Inv X pins U H s->RelV x v->RelV y u->r x y H Q->wpAny (model X.prog X.w) X.A (f v u) (EP X pins U Q) X.xe s
def CallR (X:Cx)(f:Value)(r:List V->Hp->VK->Prop):Prop:=∀(pins:List (Addr×Obj)) (s:aw) (U:St) (H:Hp) (xs:List V) (us:List Value) (Q:VK),Inv X pins U H s->Vals xs us->r xs H Q->wpAny (model X.prog X.w) X.A (call f us) (EP X pins U Q) X.xe s
def Ef (X:Cx)(r:V->Hp->(Bool->Hp->Prop)->Prop):Prop:=∀(pins:List (Addr×Obj)) (s:aw) (U:St) (H:Hp) (x:V) (v:Value) (Q:Bool->Hp->Prop),Inv X pins U H s->RelV x v->r x H Q->wpAny (model X.prog X.w) X.A (truthy v) (TP X pins U Q) X.xe s
def mI (r:R2)(ta tb:TE):TE:=λU H Q=>ta U H λx H1=>tb U H1 λy H2=>r x y H2 Q
def rI (C:Int->Int->Prop)(g:Int->Int->V):R2:=λx y H Q=>∃i j,x=.int i/\y=.int j/\C i j/\Q (g i j) H
def mJ (g:Int->Int->V):R2:=λx y H Q=>∃i j,x=.int i/\y=.int j/\Q (g i j) H
theorem binT (ha:PE X a ta)(hb:PE X b tb){R:V->V->Hp->Prop}(I:Inv X pins U H s)
  (h:ta U H λx H1=>tb U H1 λy H2=>R x y H2) {f:Value->Value->Sem Value}
  (hf:∀v u s2 x y H2,Inv X pins U H2 s2->RelV x v->RelV y u->R x y H2->wpAny (model X.prog X.w) X.A (f v u) Q X.xe s2):
  wpAny (model X.prog X.w) X.A (eval a X.env) (λv s₁=>wpAny (model X.prog X.w) X.A (eval b X.env) (λu nG=>wpAny (model X.prog X.w) X.A (f v u) Q X.xe nG) X.xe s₁) X.xe s:=by
 exact aL (ha pins s U H _ I h) λv s1 ⟨x,H1,I1,r1,q1⟩=>aL (hb pins s1 U H1 _ I1 q1) λu s2 ⟨y,H2,I2,r2,q2⟩=>hf v u s2 x y H2 I2 r1 r2 q2
theorem JW (ho:OpR X (i7 op) r)(ha:PE X a ta)(hb:PE X b tb):PE X (.BinOp a op b pos) (mI r ta tb):=by intro pins s U H Q I h;exact wpAny_BinOp (binT ha hb I h λv u s2 x y H2 I2 rx ry q=>ho pins s2 U H2 x y v u Q I2 rx ry q)
theorem opI {g:Int->Int->Int}
  (rule:∀i j t u s Q E,C i j->Q (.int (g i j) s.toks) {s with toks:=s.toks+1}->wpAny (model X.prog X.w) X.A (f (.int i t) (.int j u)) Q E s):
  OpR X f (rI C λi j=>.int (g i j)):=by
 rintro pins s U H x y v u Q I rx ry ⟨i,j,rfl,rfl,hc,q⟩
 obtain⟨t,rfl⟩:=rx;obtain⟨t',rfl⟩:=ry;exact rule i j t t' s _ _ hc ⟨.int (g i j),H,I.tok _,⟨_,rfl⟩,q⟩
theorem opI0 {g:Int->Int->Int}
  (rule:∀i j t u s Q E,Q (.int (g i j) s.toks) {s with toks:=s.toks+1}->wpAny (model X.prog X.w) X.A (f (.int i t) (.int j u)) Q E s):
  OpR X f (mJ λi j=>.int (g i j)):=by
 rintro pins s U H x y v u Q I rx ry ⟨i,j,rfl,rfl,q⟩
 obtain⟨t,rfl⟩:=rx;obtain⟨t',rfl⟩:=ry;exact rule i j t t' s _ _ ⟨.int (g i j),H,I.tok _,⟨_,rfl⟩,q⟩
theorem opB0 {g:Int->Int->Bool}
  (rule:∀i j t u s Q E,Q (.bool (g i j)) s->wpAny (model X.prog X.w) X.A (f (.int i t) (.int j u)) Q E s):
  OpR X f (mJ λi j=>.bl (g i j)):=by
 rintro pins s U H x y v u Q I rx ry ⟨i,j,rfl,rfl,q⟩
 obtain⟨t,rfl⟩:=rx;obtain⟨t',rfl⟩:=ry;exact rule i j t t' s _ _ ⟨.bl (g i j),H,I,rfl,q⟩
def Eg (i j:Int):Prop:=0<=j/\j<=1000000/\i.natAbs<2 ^ 64
def uU (i j:Int):Prop:=(-(2 ^ 64)<i/\i<2 ^ 64)\/(-(2 ^ 64)<j/\j<2 ^ 64)
theorem uU.ok (h:uU i j):IntMulOk i j:=by
 rcases h with⟨h1,h2⟩|⟨h1,h2⟩
 ·exact .of_left (intBits_le_64 h1 h2)
 ·exact .of_right (intBits_le_64 h1 h2)
theorem P7:OpR X (i7 .Add) (mJ λi j=>.int (i+j)):=opI0 λ_ _ _ _ _ _ _ q=>add_int q
theorem P8:OpR X (i7 .Sub) (mJ λi j=>.int (i-j)):=opI0 λ_ _ _ _ _ _ _ q=>sub_int q
theorem P9:OpR X (i7 .Mult) (rI uU λi j=>.int (i*j)):=opI λ_ _ _ _ _ _ _ hc q=>mul_int q hc.ok
theorem P':OpR X (i7 .Mod) (rI (λ_ j=>0<j) λi j=>.int (i%j)):=opI λi j _ _ _ _ _ hc q=>by exact mod_int' (by omega) (by rw[Int.fmod_eq_emod_of_nonneg i (by omega)];exact q)
theorem Qa:OpR X (i7 .Pow) (rI Eg λi j=>.int (i ^ j.toNat)):=opI λ_ _ _ _ _ _ _ hc q=>pow_int_small hc.1 hc.2.1 hc.2.2 q
theorem JX (I:Inv X pins U H s)(q:Q (.bl k) H)(e:k=k'):EP X pins U Q (.bool k') s:=by subst e;exact⟨.bl k,H,I,rfl,q⟩
theorem Qb:OpR X (cv .Lt) (mJ λi j=>.bl (decide (i<j))):=opB0 λ_ _ _ _ _ _ _ q=>lt_int q
theorem Qc:OpR X (cv .LtE) (mJ λi j=>.bl (decide (i<=j))):=opB0 λ_ _ _ _ _ _ _ q=>le_int q
theorem Qd:OpR X (cv .Gt) (mJ λi j=>.bl (decide (j<i))):=opB0 λ_ _ _ _ _ _ _ q=>gt_int q
theorem Qe:OpR X (cv .Lt) (λx y H Q=>∃i j,x=.str i/\y=.str j/\Q (.bl (decide (i.cps.toList<j.cps.toList))) H):=by
 rintro pins s U H x y v u Q I rx ry ⟨i,j,rfl,rfl,q⟩
 obtain⟨t,rfl⟩:=rx;obtain⟨t',rfl⟩:=ry;exact lt_str (JX I q rfl)
theorem Qf:OpR X (cv .In) (λx y H Q=>∃i j,x=.str i/\y=.str j/\Q (.bl (!(gc j i 0 j.length 1).isEmpty)) H):=by
 rintro pins s U H x y v u Q I rx ry ⟨i,j,rfl,rfl,q⟩
 obtain⟨t,rfl⟩:=rx;obtain⟨t',rfl⟩:=ry;exact in_str (JX I q rfl)
theorem OpR.or (h:OpR X f r)(h':OpR X f r'):OpR X f (λx y H Q=>r x y H Q\/r' x y H Q):=by
 intro pins s U H x y v u Q I rx ry q;rcases q with q|q
 ·exact h pins s U H x y v u Q I rx ry q
 ·exact h' pins s U H x y v u Q I rx ry q
theorem Qg (ho:OpR X (cv op) r)(ha:PE X a ta)(hb:PE X b tb)(hm:fj op b=false):PE X (.Compare a [op] [b] pos) (mI r ta tb):=by intro pins s U H Q I h;exact wpAny_Compare1 (binT ha hb I h λv u s2 x y H2 I2 rx ry q=>ho pins s2 U H2 x y v u Q I2 rx ry q) hm
def yN (t:TE):TT:=λU H Q=>t U H λx H'=>∃k,x=.bl k/\Q k H'
theorem JY (ho:OpR X (cv op) r)(ha:PE X a ta)(hb:PE X b tb)(hm:fj op b=false):PT X (.Compare a [op] [b] pos) (yN (mI r ta tb)):=by intro pins s U H Q I h;refine qt (aL (ha pins s U H _ I h) λv s1 ⟨x,H1,I1,r1,q1⟩=>aL (hb pins s1 U H1 _ I1 q1) λu s2 ⟨y,H2,I2,r2,q2⟩=>aL (ho pins s2 U H2 x y v u _ I2 r1 r2 q2) λc s3 ⟨z,H3,I3,r3,k,e,q3⟩=>?_) hm;subst e;cases r3;exact fq ⟨H3,I3,q3⟩
def Eh (r r':R2)(ta tb tc:TE):TE:=λU H Q=>ta U H λx H1=>tb U H1 λy H2=>r x y H2 λz H3=>∃k,z=.bl k/\(if k=true then tc U H3 λw' H4=>r' y w' H4 Q else Q (.bl false) H3)
theorem zfx (ho:OpR X (cv op) r)(ho':OpR X (cv op') r')(ha:PE X a ta)(hb:PE X b tb)(hc:PE X c tc)
  (hm:pw [op,op'] [b,c]=false:=by with_unfolding_all rfl):PE X (.Compare a [op,op'] [b,c] pos) (Eh r r' ta tb tc):=by
 intro pins s U H Q I h;refine Compare_chain (aL (ha pins s U H _ I h) λv s1 ⟨x,H1,I1,r1,q1⟩=>chain_link (aL (hb pins s1 U H1 _ I1 q1) λu s2 ⟨y,H2,I2,r2,q2⟩=>aL (ho pins s2 U H2 x y v u _ I2 r1 r2 q2) λd s3 ⟨z,H3,I3,r3,k,e,q3⟩=>?_)) hm;subst e;cases r3;refine fq ?_;cases k with
 |false=>exact ite_ff ⟨.bl false,H3,I3,rfl,q3⟩
 |true=>exact ite_tt (chain_last (aL (hc pins s3 U H3 _ I3 q3) λw' s4 ⟨z',H4,I4,r4,q4⟩=>ho' pins s4 U H4 y z' u w' Q I4 r2 r4 q4))
theorem zef (ho:OpR X (cv op) r)(ho':OpR X (cv op') r')(ha:PE X a ta)(hb:PE X b tb)(hc:PE X c tc)
  (hm:pw [op,op'] [b,c]=false:=by with_unfolding_all rfl):PT X (.Compare a [op,op'] [b,c] pos) (yN (Eh r r' ta tb tc)):=by
 intro pins s U H Q I h;refine isTrue_chain (aL (ha pins s U H _ I h) λv s1 ⟨x,H1,I1,r1,q1⟩=>test_link (aL (hb pins s1 U H1 _ I1 q1) λu s2 ⟨y,H2,I2,r2,q2⟩=>aL (ho pins s2 U H2 x y v u _ I2 r1 r2 q2) λd s3 ⟨z,H3,I3,r3,k,e,q3⟩=>?_)) hm;subst e;cases r3;refine fq ?_;cases k with
 |false=>obtain⟨k',e',q'⟩:=q3;cases e';exact ite_ff ⟨H3,I3,q'⟩
 |true=>refine ite_tt (test_last (aL (hc pins s3 U H3 _ I3 q3) λw' s4 ⟨z',H4,I4,r4,q4⟩=>aL (ho' pins s4 U H4 y z' u w' _ I4 r2 r4 q4) λd' s5 ⟨z2,H5,I5,r5,k2,e2,q5⟩=>?_));subst e2;cases r5;exact fq ⟨H5,I5,q5⟩
def qJ (K:W.Frag)(x:V)(H:Hp)(k:Bool):Prop:=
 match x with
 |.non=>k=false
 |.bl b=>k=b
 |.int i=>k=(i != 0)
 |.str y=>y.length<=ba/\k=((y.length:Int) != 0)
 |.ref p=>(∃xs,SqL K H p xs/\k=!xs.isEmpty)\/(∃xs,cS K H p xs/\k=!xs.isEmpty)\/∃kvs,H p=some (.dK kvs)/\k=!kvs.isEmpty
 |_=>False
theorem Qh (r:KV kvs vs):(!vs.isEmpty)=!kvs.isEmpty:=by cases r<;>rfl
theorem JZ (r:Vals xs its):(!its.toArray.isEmpty)=!xs.isEmpty:=by cases r<;>simp
theorem uV:(ba:Nat)<2 ^ 63:=by rw[cg];decide
theorem J1:Ef X (λx H Q=>∃k,qJ X.K x H k/\Q k H):=by
 rintro pins s U H x v Q I rx ⟨k,e,q⟩
 have hl:=uV;cases x with
 |non=>cases rx;have e':=e;subst e';exact truthy_none ⟨H,I,q⟩
 |bl b=>cases rx;have e':=e;subst e';exact fq ⟨H,I,q⟩
 |int i=>obtain⟨t,rfl⟩:=rx;have e':=e;subst e';exact PySem.P.truthy_int ⟨H,I,q⟩
 |str y=>obtain⟨t,rfl⟩:=rx;obtain⟨hy,rfl⟩:=e;exact PySem.P.truthy_str (by omega) ⟨H,I.tok _,q⟩
 |ref p=>
  cases rx;have e':=e;rcases e' with⟨xs,hx,e'⟩|⟨xs,hx,e'⟩|⟨kvs,hx,e'⟩
  ·subst e';obtain⟨its,r,pl,hz⟩:=I.list hx;have hlen:=r.length;exact wpAny_truthy_list pl.isList (by simp only[az];omega) ⟨H,I.tok _,by rw[JZ r];exact q⟩
  ·subst e';obtain⟨its,r,pl,hz⟩:=I.tuple hx;have hlen:=r.length;exact truthy_tuple pl (by simp only[az];omega) ⟨H,I.tok _,by rw[JZ r];exact q⟩
  ·subst e';obtain⟨hz,hS,vs,r,m⟩:=I.hok p _ hx;have hlen:=Paired.length r;exact wpAny_truthy_dict hS m (by omega) ⟨H,I.tok _,by rw[Qh r];exact q⟩
 |_=>exact e.elim
theorem z8o (ha:PE X a ta)(he:∀whole,u4 a X.env whole=(do let v <-whole;standAt a.pos;holding [v] (truthy v))):
  PT X a (λU H Q=>ta U H λx H'=>∃k,qJ X.K x H' k/\Q k H'):=by
 intro pins s U H Q I h;exact isTrue_plain (aL (ha pins s U H _ I h) λv s1 ⟨x,H1,I1,r1,q1⟩=>J1 pins s1 U H1 x v Q I1 r1 q1) (he _)
theorem Qi:OpR X (i7 .Add) (λx y H Q=>∃i j,x=.str i/\y=.str j/\i.length+j.length<=ba/\Q (.str (i++j)) H):=by
 rintro pins s U H x y v u Q I rx ry ⟨i,j,rfl,rfl,hz,q⟩
 obtain⟨t,rfl⟩:=rx;obtain⟨t',rfl⟩:=ry;exact add_str (λt' tk=>⟨.str (i++j),H,I.tok _,⟨_,rfl⟩,q⟩) hz
theorem vals1 (r:Vals [x] us):∃u,us=[u]/\RelV x u:=by
 cases r with
 |cons r1 r2=>cases r2;exact⟨_,rfl,r1⟩
theorem vals2 (r:Vals [x,y] us):∃u w',us=[u,w']/\RelV x u/\RelV y w':=by
 cases r with
 |cons r1 r2=>
  cases r2 with
  |cons r3 r4=>cases r4;exact⟨_,_,rfl,r1,r3⟩
theorem Qj (hc:X.calm=true):CallR X (.builtin "min") (λxs H Q=>∃i j,xs=[.int i,.int j]/\Q (.int (if j<i then j else i)) H):=by
 rintro pins s U H xs us Q I r ⟨i,j,rfl,q⟩
 obtain⟨u,w',rfl,⟨t,rfl⟩,t',rfl⟩:=vals2 r;refine min_two_ints (I.ok.hd hc) λh' tk k=>⟨_,H,I.kept k,?_,q⟩;by_cases hj:j<i
 ·rw[vy hj,vy hj];exact⟨_,rfl⟩
 ·rw[vz hj,vz hj];exact⟨_,rfl⟩
theorem Qk:CallR X (.type "int") (λxs H Q=>(∃i,xs=[.int i]/\Q (.int i) H)\/∃k,xs=[.bl k]/\Q (.int (if k then 1 else 0)) H):=by
 intro pins s U H xs us Q I r h;rcases h with⟨i,rfl,q⟩|⟨k,rfl,q⟩
 ·obtain⟨u,rfl,t,rfl⟩:=vals1 r;exact call_int_int ⟨.int i,H,I,⟨_,rfl⟩,q⟩
 ·obtain⟨u,rfl,rfl⟩:=vals1 r;exact call_int_bool ⟨.int (if k then 1 else 0),H,I.tok _,⟨_,rfl⟩,q⟩
structure ObjM (h:Heap)(x dx C:Addr)(mA:Str->Option Value):Prop where
 obj:h.get? x=some (W.instObj C dx)
 ns:h.Ns1 dx mA
 ne:dx≠x
theorem Ql {h:Heap}(n:h.Ns1 dx mA):∃od,h.get? dx=some od/\∀name,W.lookIn name od=some (mA name):=by
 obtain⟨o,es,ep,ho,hd,hk,_,hm⟩:=n;refine⟨o,ho,λname=>?_⟩;have e:=hm name;unfold nsFind findBy at e;rw[<-tz]at e;unfold W.lookIn;rw[hd]
 dsimp only
 split
 ·rename_i y q;rw[q]at e;exact congrArg some e
 ·rename_i q;rw[q]at e;have a:es.toList.any (·.refKey)=false:=by rw[List.any_eq_false];intro y hy;obtain⟨z,t,Ei⟩:=hk y (Array.mem_toList_iff.mp hy);simp[DictEntry.refKey,Ei]
  rw[vz (by rw[a];exact dz)];exact congrArg some e
theorem ObjM.look (I:ObjM h x dx C mA):∃od,W.InstAt h x (W.instObj C dx) C (some od)/\∀name,W.lookIn name od=some (mA name):=
 let⟨od,ho,hl⟩:=Ql I.ns
 ⟨od,⟨I.obj,rfl,rfl,ho⟩,hl⟩
section
variable {prog:cf}{w:World}{A:iz}{E:Value->aw->Prop}{s:aw}{K:W.Frag}{x dx C f:Addr}{mA:Str->Option Value}{name:Str}{v:Value}
theorem zj6 (X:K.In s.heap)(I:ObjM s.heap x dx C mA)(hg:W.plainGet K C name=true)(hh:W.hasDictIn K C=true)
  (ha:W.findIn K (.ref C) name=some none) (hv:mA name=some v) (Ej:W.handedIn v=true) (h:Q v {s with toks:=s.toks+1}):
  wpAny (model prog w) A (vq (.ref x) name expr) Q E s:=by
 obtain⟨od,J,hl⟩:=I.look;exact W.get_value X J (W.plainGet_of hg).1 (W.findObj_own hh ha rfl (by rw[hl,hv])) Ej h
theorem zg6 (X:K.In s.heap)(I:ObjM s.heap x dx C mA)(hg:W.plainGet K C name=true)
  (hf:W.findIn K (.ref C) name=some (some (.ref f))) (ht:W.isFn K (.ref f)=true) (hv:mA name=none) (h:Q (.ref f,[.ref x]) s):
  wpAny (model prog w) A (getMethod (.ref x) name pl) Q E s:=by
 obtain⟨od,J,hl⟩:=I.look;exact W.method_fn X J (W.plainGet_of hg).1 (W.plainGet_of hg).2 hf (wj ht) (by show(W.lookIn name od).map (·.isSome)=some false;rw[hl,hv];rfl) h
theorem zls (X:K.In s.heap)(I:ObjM s.heap x dx C mA)
  (hs:W.findIn K (.ref C) "__setattr__"=some (some (.builtin "object.__setattr__"))) (hp:W.plainOver K C=true) (ht:W.takerIn K C name=some none) (hh:W.hasDictIn K C=true)
  (hw:PySem.Within mA ns) (uW:ns.length<=ba)
  (h:∀h',ObjM h' x dx C (λy=>if y=name then some v else mA y)->bu dx s.heap h'->Q () {s with heap:=h',toks:=s.toks+2}):
  wpAny (model prog w) A (setAttr (.ref x) name v) Q E s:=by
 obtain⟨od,J,hl⟩:=I.look;refine W.set_plain X J hs (W.osa_open X J hp ht λb=>?_);obtain⟨cd,hc,mH⟩:=W.any_some hh;refine aa (aj (aa (aa (wpAny_loadPart I.obj (aa (W.Looks.here (W.looks_clsIn X hc) ?_))))));rw[mH];refine aj (aa (aj (aa ?_)));refine wpAny_nsSet1 I.ns λh' hn2 hs2=>?_;obtain⟨oD,Qm,Qn,Ek,El,Em⟩:=hn2.count (PySem.Within.cons name v hw);refine aa (wpAny_lookBehind Ek (by rw[El];exact pastItsLine_dict (b8 Em (by rw[ay];omega))) ?_);exact aj (h _ ⟨(hs2.2 _ (Ne.symm I.ne)).trans I.obj,hn2,I.ne⟩ hs2)
theorem zep (X:K.In s.heap)(hm:W.makesIn K C=true)
  (hi:W.findIn K (.ref C) "__init__"=some (some (.ref f))) (hf:W.typeIn K (.ref f)=some (.type "function"))
  (h:lf (model prog w) (A.under (.builtin "type.__call__" ⟨.ref C::vs,kw⟩)) (.call (.ref f) ⟨.ref (s.heap.objs.size+1)::vs,kw⟩) (W.InitBack (s.heap.objs.size+1) R)
   {s with heap:=(s.heap.push W.emptyDict).push (W.instObj C s.heap.objs.size)}):
  lf (model prog w) A (.call (.ref C) ⟨vs,kw⟩) R s:=by
 exact W.make_core (W.makes_of X hm) (W.looks_findIn X hi) (λself=>W.bind_fn X self hf) (.inl rfl) h
end
def dE (f:Str)(v:V):List (Str×V)->List (Str×V)
 | []=>[(f,v)]
 |(g,x)::r=>if g=f then(g,v)::r else(g,x)::dE f v r
theorem J2 (f g:Str)(v:V):∀fs,(dE f v fs).lookup g=if g=f then some v else fs.lookup g
 | []=>by
  show l6 g [(f,v)]=_;by_cases h:g=f
  ·have hb:(g==f)=true:=beq_iff_eq.mpr h;simp only[l6,hb,vy h]
  ·have hb:(g==f)=false:=beq_eq_false_iff_ne.mpr h;simp only[l6,hb,vz h]
 |(k,x)::r=>by
  rw[show dE f v ((k,x)::r)=(if k=f then(k,v)::r else(k,x)::dE f v r)from rfl];by_cases hk:k=f
  ·rw[vy hk];by_cases h:g=k
   ·have hb:(g==k)=true:=beq_iff_eq.mpr h;simp only[l6,hb,vy (h.trans hk)]
   ·have hb:(g==k)=false:=beq_eq_false_iff_ne.mpr h;simp only[l6,hb,vz (λe:g=f=>h (e.trans hk.symm))]
  ·rw[vz hk];by_cases h:g=k
   ·have hb:(g==k)=true:=beq_iff_eq.mpr h;simp only[l6,hb,vz (λe:g=f=>hk (h.symm.trans e))]
   ·have hb:(g==k)=false:=beq_eq_false_iff_ne.mpr h;simp only[l6,hb];exact J2 f g v r
theorem En (f:Str)(v:V):∀fs,f∈(dE f v fs).map (·.1)/\∀g,g∈fs.map (·.1)->g∈(dE f v fs).map (·.1)
 | []=>⟨by simp[dE],λg h=>by simp at h⟩
 |(k,x)::r=>by
  obtain⟨i1,i2⟩:=En f v r;rw[show dE f v ((k,x)::r)=(if k=f then(k,v)::r else(k,x)::dE f v r)from rfl];by_cases hk:k=f
  ·rw[vy hk];subst hk;exact⟨by simp,λg h=>by simpa using h⟩
  ·rw[vz hk];refine⟨?_,λg h=>?_⟩
   ·rw[bx];exact ah _ i1
   ·rw[bx]at h ⊢;rcases ao.mp h with e|e
    ·exact ao.mpr (.inl e)
    ·exact ah _ (i2 g e)
theorem J4 (f:Str)(v:V):∀fs,(dE f v fs).length<=fs.length+1
 | []=>by simp[dE]
 |(k,x)::r=>by
  have ih:=J4 f v r;rw[show dE f v ((k,x)::r)=(if k=f then(k,v)::r else(k,x)::dE f v r)from rfl];by_cases hk:k=f
  ·rw[vy hk,ay,ay];omega
  ·rw[vz hk,ay,ay];omega
theorem cG.some_of (r:cG (some v) o):∃u,o=some u/\RelV v u:=by
 cases o with
 |none=>exact r.elim
 |some u=>exact⟨u,rfl,r⟩
theorem cG.none_of (r:cG none o):o=none:=by
 cases o with
 |none=>rfl
 |some u=>exact r.elim
theorem J5 (r:RelV v u):W.handedIn u=true:=by
 cases v with
 |non=>cases r;rfl
 |bl b=>cases r;rfl
 |int i=>obtain⟨t,e⟩:=r;cases e;rfl
 |str x=>obtain⟨t,e⟩:=r;cases e;rfl
 |ref a=>cases r;rfl
 |ty n=>cases r;rfl
theorem BZ (hok:HOk P w H h)(e:H a=some (.ins C dx fs)):∃mA,ObjM h a dx C mA/\(∀f,cG (fs.lookup f) (mA f))/\PySem.Within mA (fs.map (·.1))/\fs.length<=1000/\H dx=some (.own a):=by obtain⟨d,z,ne,ob,mA,n,r,q⟩:=(hok a _ e);exact⟨mA,⟨ob,n,ne⟩,r,q,z,d⟩
structure Cls (K:W.Frag)(C:Addr):Prop where
 pg:W.plainGet K C Str.empty=true
 hd:W.hasDictIn K C=true
 po:W.plainOver K C=true
 sa:W.findIn K (.ref C) "__setattr__"=some (some (.builtin "object.__setattr__"))
theorem Cls.get {K:W.Frag}(c:Cls K C)(f:Str):W.plainGet K C f=true:=c.pg
def z34 (K:W.Frag)(C:Addr)(f:Str):Prop:=W.findIn K (.ref C) f=some none
theorem z34.yO {K:W.Frag}(n:z34 K C f):W.takerIn K C f=some none:=by unfold W.takerIn;rw[show W.findIn K (.ref C) f=some none from n];rfl
structure Meth (K:W.Frag)(C:Addr)(m:Str)(f:Addr):Prop where
 at_:W.findIn K (.ref C) m=some (some (.ref f))
 fn:W.isFn K (.ref f)=true
 kp:W.keepIn K (.ref f)=true
theorem z9t (I:Inv X pins U H s)(e:H a=some (.ins C dx fs))(c:Cls X.K C)(n:z34 X.K C f)(l:fs.lookup f=some v)
  (h:∀u s',Inv X pins U H s'->RelV v u->Q u s'):wpAny (model X.prog X.w) A (vq (.ref a) f b) Q E s:=by
 obtain⟨mA,O,r,_,_,_⟩:=BZ I.hok e;obtain⟨u,hu,ru⟩:=cG.some_of (by rw[<-l];exact r f);exact zj6 I.dB O (c.get f) c.hd n hu (J5 ru) (h u _ (I.tok _) ru)
theorem za2 (I:Inv X pins U H s)(e:H a=some (.ins C dx fs))(c:Cls X.K C)(k:Meth X.K C m g)(l:fs.lookup m=none)
  (h:Q (.ref g,[.ref a]) s):wpAny (model X.prog X.w) A (getMethod (.ref a) m pl) Q E s:=by
 obtain⟨mA,O,r,_,_,_⟩:=BZ I.hok e;exact zg6 I.dB O (c.get m) k.at_ k.fn (cG.none_of (by rw[<-l];exact r m)) h
theorem z9r (I:Inv X pins U H s)(e:H a=some (.ins C dx fs))(c:Cls X.K C)(n:z34 X.K C f)(hl:fs.length<1000)(ry:RelV y u)
  (h:∀s',Inv X pins U (upd H a (.ins C dx (dE f y fs))) s'->Q () s'):wpAny (model X.prog X.w) A (setAttr (.ref a) f u) Q E s:=by
 obtain⟨mA,O,r,wi,_,ho⟩:=BZ I.hok e;refine zls I.dB O c.sa c.po n.yO c.hd wi (by rw[aq,cg];omega) λh' O' sb=>h _ (I.write (by rw[e];exact True.intro) (.inr ho) (λb q hb z=>(sb.2 b hb).trans z) (let⟨o,_,_,e',_⟩:=O'.ns;⟨o,e'⟩) ⟨by rw[aK O.ne];exact ho,?_,O.ne,O'.obj,_,O'.ns,λg=>?_,λg hg=>?_⟩)
 ·have:=J4 f y fs;omega
 ·show cG ((dE f y fs).lookup g) (if g=f then some u else mA g);rw[J2];by_cases q:g=f
  ·rw[vy q,vy q];exact ry
  ·rw[vz q,vz q];exact r g
 ·by_cases q:g=f
  ·rw[q];exact(En f y fs).1
  ·refine(En f y fs).2 g (wi g λz=>hg ?_);show(if g=f then some u else mA g)=none;rw[vz q];exact z
theorem Inv.made (I:Inv X pins U H s):Inv X pins U (upd (upd H s.heap.objs.size (.own (s.heap.objs.size+1))) (s.heap.objs.size+1) (.ins C s.heap.objs.size []))
  {s with heap:=(s.heap.push W.emptyDict).push (W.instObj C s.heap.objs.size)}:=by
 have e1:(s.heap.push W.emptyDict).get? s.heap.objs.size=some W.emptyDict:=au s.heap rfl
 have e2:((s.heap.push W.emptyDict).push (W.instObj C s.heap.objs.size)).get? (s.heap.objs.size+1)=some (W.instObj C s.heap.objs.size):=by
  have:=au (s.heap.push W.emptyDict) (o:=W.instObj C s.heap.objs.size) rfl
  rwa [jx]at this
 refine(I.laid (o:=.own (s.heap.objs.size+1)) (t':=s.toks) (λb u q=>af _ q) (ag _) ⟨_,e1⟩).laid (λb u q=>af _ q) (uc (jx _ _)) ?_;have ne:s.heap.objs.size≠s.heap.objs.size+1:=bz (lg _);refine⟨by rw[aK ne,bC],dv _,ne,e2,λ_=>none,(ud ⟨W.emptyDict,#[],_,e1,rfl,(λe he=>absurd he (by simp)),λ_=>rfl⟩).at λo q=>af _ q,λ_=>True.intro,λy hy=>absurd rfl hy⟩
theorem zbf (hb:ko e f env (eval e env)=eval e env)
  (h:wpAny (model prog w) A (eval e env) (λo s₁=>wpAny (model prog w) A (vq o f true) Q E s₁) E s):wpAny (model prog w) A (eval (.Attribute e f pos) env) Q E s:=
 Attribute_any_ h (by rw[arm_eval_Attribute,hb])
def uX (K:W.Frag)(ta:TE)(f:Str):TE:=λU H Q=>ta U H λx H1=>∃a C dx fs v,x=.ref a/\H1 a=some (.ins C dx fs)/\Cls K C/\z34 K C f/\fs.lookup f=some v/\Q v H1
def uY (K:W.Frag)(ta tv:TE)(f:Str):TS:=λD U H=>tv U H λy H1=>ta U H1 λx H2=>∃a C dx fs,x=.ref a/\H2 a=some (.ins C dx fs)/\Cls K C/\z34 K C f/\fs.length<1000/\D.nx U (upd H2 a (.ins C dx (dE f y fs)))
theorem Qo (he:PE X e ta)(hb:ko e f X.env (eval e X.env)=eval e X.env):PE X (.Attribute e f pos) (uX X.K ta f):=by intro pins s U H Q I h;refine zbf hb (aL (he pins s U H _ I h) λu s1 ⟨x,H1,I1,rx,a,C,dx,fs,v,ex,ea,c,n,l,q⟩=>?_);subst ex;obtain rfl:u=Value.ref a:=rx;exact z9t I1 ea c n l λu' s2 I2 ru=>⟨v,H1,I2,ru,q⟩
theorem Qp (ha:PE X o ta)(hv:PE X value tv)(hs:lc value (some (.Attribute o f pos')) pos.line X.env=pure false):PS X (.Assign [.Attribute o f pos'] value pos) (uY X.K ta tv f):=by intro pins s U H D I h;refine my (aL (hv pins s U H _ I h) λu s1 ⟨y,H1,I1,ry,q⟩=>aL (ha pins s1 U H1 _ I1 q) λov s2 ⟨x,H2,I2,rx,a,C,dx,fs,ex,ea,c,n,l,q2⟩=>?_) hs;subst ex;obtain rfl:ov=Value.ref a:=rx;exact z9r I2 ea c n l ry λs3 I3=>⟨U,_,I3,q2⟩
section
variable {H:Hp}
inductive TyOf (K:W.Frag)(H:Hp):V->Value->Prop where
 |non:TyOf K H .non (.type "NoneType")
 |bl (x:Bool):TyOf K H (.bl x) (.type "bool")
 |int (i:Int):TyOf K H (.int i) (.type "int")
 |str (x:Str):TyOf K H (.str x) (.type "str")
 |lst {a:Addr} {xs:List V} (e:H a=some (.lst xs)):TyOf K H (.ref a) (.type "list")
 |gH {a:Addr} {o:Obj} {xs:List V} (e:H a=some (.gH o (.lst xs))):TyOf K H (.ref a) (.type "list")
 |tup {a:Addr} {xs:List V} (e:H a=some (.tup xs)):TyOf K H (.ref a) (.type "tuple")
 |dK {a:Addr} {kvs:List (Key×V)} (e:H a=some (.dK kvs)):TyOf K H (.ref a) (.type "dict")
 |dT {a:Addr} {kvs:List (List Key×V)} (e:H a=some (.dT kvs)):TyOf K H (.ref a) (.type "dict")
 |ins {a C dx:Addr} {fs:List (Str×V)} (e:H a=some (.ins C dx fs)) (cl:Cls K C) (ha:W.findIn K (.ref C) "__class__"=some (some (.builtin "object.__class__")))
  (hn:W.specialIn K (.builtin "object.__class__") "__get__"=some (some (.builtin "getset_descriptor.__get__"))) (xN:W.takesIn K (.builtin "object.__class__")=some true)
  (hm:W.mroIn K C (.type "object")=some true):TyOf K H (.ref a) (.ref C)
theorem z21 (I:Inv X pins U H s)(rx:RelV x u)(ty:TyOf X.K H x t)(e:W.kitOne X.K t c=some b)(h:∀tk,Q (.bool b) {s with toks:=tk}):
  wpAny (model X.prog X.w) A (call (.builtin "isinstance") [u,c]) Q E s:=by
 cases ty with
 |non=>cases rx;exact W.kia_one W.kitx_none I.dB True.intro e (λz=>nomatch z) h
 |bl y=>cases rx;exact W.kia_one W.kitx_bool I.dB True.intro e (λz=>nomatch z) h
 |int i=>obtain⟨t,q⟩:=rx;cases q;exact W.kia_one W.kitx_int I.dB True.intro e (λz=>nomatch z) h
 |str y=>obtain⟨t,q⟩:=rx;cases q;exact W.kia_one W.kitx_str I.dB True.intro e (λz=>nomatch z) h
 | @lst a xs ea=>cases rx;obtain⟨_,_,n,_,h1⟩:=(I.hok a _ ea);exact W.kia_one W.kitx_list I.dB ⟨_,h1,rfl⟩ e (λz=>nomatch z) h
 | @gH a ob xs ea=>cases rx;obtain⟨_,_,_,n,_,h1⟩:=(I.hok a _ ea);exact W.kia_one W.kitx_list I.dB ⟨_,h1,rfl⟩ e (λz=>nomatch z) h
 | @tup a xs ea=>cases rx;obtain⟨_,_,_,p⟩:=(I.hok a _ ea);obtain⟨o,h1,h2,_⟩:=p.tup;exact W.kia_one W.kitx_tuple I.dB ⟨o,h1,h2⟩ e (λz=>nomatch z) h
 | @dK a kvs ea=>cases rx;obtain⟨_,_,vs,_,⟨o,es,ep,h1,h2,_⟩⟩:=(I.hok a _ ea);exact W.kia_one W.kitx_dict I.dB ⟨o,h1,h2.1⟩ e (λz=>nomatch z) h
 | @dT a kvs ea=>cases rx;obtain⟨_,_,xs,_,o,es,ep,h1,h2,_⟩:=(I.hok a _ ea);exact W.kia_one W.kitx_dict I.dB ⟨o,h1,h2.1⟩ e (λz=>nomatch z) h
 | @ins a C dx fs ea cl ha hn xN hm=>cases rx;obtain⟨mA,O,_⟩:=BZ I.hok ea;obtain⟨od,J,_⟩:=O.look;exact W.kia_one (W.kitx_own (cl.get _) cl.hd ha hn xN hm) I.dB J e (λz=>nomatch z) h
end
structure Room (k:Nat)(A:iz):Prop where
 hd:A.handled=none
 dp:A.depth+3*k+5<recursionLimit
 un:A.units+16*k+200<cLine
theorem Room.mono (r:Room k A)(h:j<=k):Room j A:=⟨r.hd,by have:=r.dp;omega,by have:=r.un;omega⟩
theorem Room.deeper (r:Room (k+1) A)(env:Env):Room k (A.deeper env):=⟨r.hd,by have:=r.dp;show A.depth+1+3*k+5<_;omega,by have:=r.un;show A.units+3+16*k+200<_;omega⟩
theorem Qq {A:iz}:(A.under (.builtin "type.__call__" ⟨.ref C::us,kw⟩)).depth=A.depth+1:=by first|rfl|simp[Around.under,Code.weight,Code.isCreation,Code.isGuard,Code.isCaller,Code.frames,Code.isFrame,guardIds]
theorem Qr {A:iz}:(A.under (.builtin "type.__call__" ⟨.ref C::us,kw⟩)).units=A.units+1:=by first|rfl|simp[Around.under,Code.cUnits,Code.frames,Code.isFrame]
theorem Room.make (r:Room (k+1) A)(C:Addr)(us:List Value)(kw:List (Str×Value)):Room k (A.under (.builtin "type.__call__" ⟨.ref C::us,kw⟩)):=⟨r.hd,by have:=r.dp;rw[Qq];omega,by have:=r.un;rw[Qr];omega⟩
theorem Room.depth (r:Room k A):A.depth<recursionLimit:=by have:=r.dp;omega
theorem Room.units (r:Room k A):A.units+64<cLine:=by have:=r.un;omega
def eI:TA:=λ_ H Q=>Q [] H
def nM (ta:TE)(tr:TA):TA:=λU H Q=>ta U H λx H1=>tr U H1 λxs H2=>Q (x::xs) H2
theorem kF:PA X [] eI:=λ_ _ _ _ H Q I h=>o9 ⟨[],H,I,.nil,h⟩
theorem B3 (ha:PE X e te)(hr:PA X es t)(hs:de (e::es) X.env=(false,eval e X.env)::de es X.env:=by rfl):PA X (e::es) (nM te t):=by intro pos pins s U H Q I h;rw[hs];refine ox (aL (ha pins s U H _ I h) λu s1 ⟨x,H1,I1,r1,q1⟩=>?_);exact aL (hr pos pins s1 U H1 _ I1 q1) λus s2 ⟨xs,H2,I2,r2,q2⟩=>⟨x::xs,H2,I2,.cons r1 r2,q2⟩
def yP (t:TA):TE:=λU H Q=>t U H λxs H1=>xs.length<=ba/\∀p,H1 p=none->Q (.ref p) (upd H1 p (.tup xs))
def yQ (t:TA):TE:=λU H Q=>t U H λxs H1=>xs.length<=ba/\∀p,H1 p=none->Q (.ref p) (upd H1 p (.lst xs))
theorem J6 {x1}(h:PA X es t):PE X (.Tuple es x1 pos) (yP t):=by intro pins s U H Q I hq;refine wpAny_Tuple_spliced (aL (h pos pins s U H _ I hq) λus s1 ⟨xs,H1,I1,r,z,q⟩=>⟨by rw[<-r.length];exact z,?_⟩);refine⟨.ref s1.heap.objs.size,upd H1 s1.heap.objs.size (.tup xs),I1.laid (λb u e=>af _ e) (ag _) ?_,rfl,q _ (I1.hok.fresh (ag _))⟩;exact⟨z,us,r,⟨_,au _ rfl⟩⟩
theorem J7 (h:PA X es t):PE X (.List es pos) (yQ t):=by intro pins s U H Q I hq;refine wpAny_List_spliced (aL (h pos pins s U H _ I hq) λus s1 ⟨xs,H1,I1,r,z,q⟩=>⟨by rw[<-r.length];exact z,?_⟩);refine⟨.ref s1.heap.objs.size,upd H1 s1.heap.objs.size (.lst xs),I1.laid (λb u e=>af _ e) (ag _) ?_,rfl,q _ (I1.hok.fresh (ag _))⟩;exact⟨z,us,0,r,au _ rfl⟩
abbrev Sp:=List V->Hp->VK->XK->Prop
abbrev CXT:=List Env->Hp->aw->XK->Value->aw->Prop
structure lA (P:cf)(w:World)(K:W.Frag)(mg:Str->Option Value)(base:Heap)(A:iz)(outer:List Env)(s:aw)(H:Hp):Prop where
 frames:A.frames=some outer
 mod:Mod K mg base
 bs:∀b o,base.get? b=some o->s.heap.get? b=some o/\H b=none
 nB:base.objs.size<=s.heap.objs.size
 cW:s.heap.FunFrames base outer
 qF:∀b∈frs outer,H b=none
 hok:HOk P w H s.heap
 bare:og s.gens
def CE (outer:List Env)(P:cf)(w:World)(H:Hp)(s:aw)(Q:VK)(u:Value)(s':aw):Prop:=∃v H',s'.os=s.os/\og s'.gens/\Un (frs outer) [] H H' s.heap s'.heap/\HOk P w H' s'.heap/\RelV v u/\Q v H'
def CR (CX:CXT)(outer:List Env)(P:cf)(w:World)(H:Hp)(s:aw)(Q:VK)(E:XK)(r:vt)(s':aw):Prop:=
 match r with
 |.ok (.ret u)=>CE outer P w H s Q u s'
 |.ok _=>False
 |.error e=>CX outer H s E e s'
structure FnOk (P:cf)(w:World)(K:W.Frag)(mg:Str->Option Value)(base:Heap)(CX:CXT)(k:Nat)(f:Addr)(fd:i8)(ps:List Str)(sp:Sp):Prop where
 len:∀vs H Q E,sp vs H Q E->vs.length=ps.length
 run:∀(A:iz) (outer:List Env) (s:aw) (H:Hp) (args:Args) (us:List Value) (vs:List V) (Q:VK) (E:XK),Room k A->lA P w K mg base A outer s H->ue s fd args (ps.zip us)->Vals vs us->sp vs H Q E->lf (model P w) A (.call (.ref f) args) (CR CX outer P w H s Q E) s
theorem lA.make {K:W.Frag}(e:lA P w K mg base A outer s H)(C:Addr)(us:List Value)(kw:List (Str×Value)): lA P w K mg base (A.under (.builtin "type.__call__" ⟨.ref C::us,kw⟩)) outer s H:=⟨by first|exact e.frames|(simpa[Around.under,Code.envs,Code.isFrame,pushEnvs]using e.frames),e.mod,e.bs,e.nB,e.cW,e.qF,e.hok,e.bare⟩
theorem Inv.uZ (I:Inv X pins U H s):lA X.prog X.w X.K X.mg X.base X.A X.stack s H:=⟨I.ok.frames,I.ok.mod,I.bs,b8 I.ok.nB I.sz,I.stack,I.gK,I.hok,I.bare⟩
theorem Inv.after (I:Inv X pins U H s)(h:CE X.stack X.prog X.w H s Q u s'):EP X pins U Q u s':=by obtain⟨v,H',os,bare,un,hok,r,q⟩:=h;obtain⟨hh,g,d,t,Qs⟩:=s';obtain rfl:Qs=s.os:=os;exact⟨v,H',I.call un hok bare (λb z=>absurd z (by simp)),r,q⟩
def kG (sp:Sp)(dvs:List V)(E:XK)(t:TA):TE:=λU H Q=>t U H λvs H1=>sp (vs++dvs) H1 Q E
def sY (C:Addr)(m:Str)(sp:Sp)(dvs:List V)(E:XK)(ta:TE)(t:TA):TE:=λU H Q=>ta U H λx H1=>∃a dx fs,x=.ref a/\H1 a=some (.ins C dx fs)/\fs.lookup m=none/\t U H1 λvs H2=>sp (x::(vs++dvs)) H2 Q E
def xO (C:Addr)(sp:Sp)(dvs:List V)(E:XK)(t:TA):TE:=λU H Q=>t U H λvs H1=>∀x dx,H1 x=none->H1 dx=none->dx≠x->sp (.ref x::(vs++dvs)) (upd (upd H1 dx (.own x)) x (.ins C dx [])) (λv H2=>v=.non/\Q (.ref x) H2) E
def Binds (K:W.Frag)(fd:i8)(ps:List Str)(ds:List Value):Prop:=∀(s:aw) (us:List Value),K.In s.heap->(us++ds).length=ps.length->ue s fd ⟨us,[]⟩ (ps.zip (us++ds))
theorem Binds.all {K:W.Frag}(h:∀us,us.length=ps.length->vk fd ⟨us,[]⟩=pure (ps.zip us)):Binds K fd ps []:=λs us _ hl=>by rw[ci]at hl ⊢;exact .of_eq (h us hl)
def z2d (CX:CXT)(X:Cx)(E:XK):Prop:=∀(pins:List (Addr×Obj)) (U:St) (H:Hp) (s:aw) (e:Value) (s':aw),Inv X pins U H s->CX X.stack H s E e s'->X.xe e s'
section
variable {f C:Addr}
theorem z7y (F:FnOk X.prog X.w X.K X.mg X.base CX k f fd ps sp)(hr:Room k X.A)(hb:Binds X.K fd ps ds)(hd:Vals dvs ds)(hx:z2d CX X E)
  (I:Inv X pins U H s) (r:Vals vs us) (h:sp (vs++dvs) H Q E):wpAny (model X.prog X.w) X.A (call (.ref f) us) (EP X pins U Q) X.xe s:=by
 have r2:=r.append hd;refine qc (jq (F.run X.A X.stack s H ⟨us,[]⟩ (us++ds) (vs++dvs) Q E hr I.uZ (hb s us I.dB (by rw[<-r2.length];exact F.len _ _ _ _ h)) r2 h) λr s' hq=>?_);cases r with
 |error e=>exact hx pins U H s e s' I hq
 |ok fl=>
  cases fl with
  |ret u=>exact I.after hq
  |next=>exact False.elim hq
  |brk=>exact False.elim hq
  |cont=>exact False.elim hq
theorem zag (F:FnOk X.prog X.w X.K X.mg X.base CX k f fd ps sp)(hr:Room k X.A)(hg:Gl X x)(hm:X.mg x=some (.ref f))(hk:W.keepIn X.K (.ref f)=true)(hb:Binds X.K fd ps ds)(hd:Vals dvs ds)(hx:z2d CX X E)
  (ha:PA X (e::es) t) (hdb:Z9 x:=by decide) (he:de (e::es) X.env=(false,eval e X.env)::de es X.env:=by rfl) (iE:(ku pos (de es X.env)).any (·.1)=false:=by rfl):
  PE X (.Call (.Name x p) (e::es) [] pos) (kG sp dvs E t):=by
 intro pins s U H Q I h;refine ik (z2h I hg hm ?_ hdb);refine W.callWith_K I.ok.mod.xE hk (aL (ha pos pins s U H _ I h) λus s1 ⟨vs,H1,I1,r,q⟩=>⟨I1.dB,?_⟩) he iE;exact z7y F hr hb hd hx I1 r q
structure Mk (K:W.Frag)(C f:Addr):Prop where
 makes:W.makesIn K C=true
 init:W.findIn K (.ref C) "__init__"=some (some (.ref f))
 fn:W.isFn K (.ref f)=true
 kp:W.keepIn K (.ref C)=true
theorem zg0 (M:Mk X.K C f)(F:FnOk X.prog X.w X.K X.mg X.base CX k f fd ps sp)(hr:Room (k+1) X.A)(hb:Binds X.K fd ps ds)(hd:Vals dvs ds)
  (hx:z2d CX X E) (I:Inv X pins U H s) (r:Vals vs us)
  (h:∀x dx,H x=none->H dx=none->dx≠x->sp (.ref x::(vs++dvs)) (upd (upd H dx (.own x)) x (.ins C dx [])) (λv H2=>v=.non/\Q (.ref x) H2) E):
  wpAny (model X.prog X.w) X.A (call (.ref C) us) (EP X pins U Q) X.xe s:=by
 have hq:=h (s.heap.objs.size+1) s.heap.objs.size (I.hok.fresh (ip _)) (I.hok.fresh (ag _)) (bz (lg _));have I2:=Inv.made (C:=C) I;have r2:Vals (V.ref (s.heap.objs.size+1)::(vs++dvs)) (Value.ref (s.heap.objs.size+1)::(us++ds)):=.cons rfl (r.append hd);have hl:(Value.ref (s.heap.objs.size+1)::us++ds).length=ps.length:=by have e:=r2.length;rw[F.len _ _ _ _ hq]at e;exact e.symm
 refine qc (zep I.dB M.makes M.init (wj M.fn) (jq (F.run _ X.stack _ _ ⟨Value.ref (s.heap.objs.size+1)::us,[]⟩ (Value.ref (s.heap.objs.size+1)::(us++ds)) _ _ E (hr.make C us []) (I2.uZ.make C us []) (hb _ (Value.ref (s.heap.objs.size+1)::us) I2.dB hl) r2 hq) λr s' nN=>?_));cases r with
 |error e=>exact hx pins U _ _ e s' I2 nN
 |ok fl=>
  cases fl with
  |ret u=>obtain⟨v,H',I3,rv,rfl,q3⟩:=I2.after nN;exact⟨rv,V.ref (s.heap.objs.size+1),H',I3,rfl,q3⟩
  |next=>exact False.elim nN
  |brk=>exact False.elim nN
  |cont=>exact False.elim nN
theorem zk8 (M:Mk X.K C f)(F:FnOk X.prog X.w X.K X.mg X.base CX k f fd ps sp)(hr:Room (k+1) X.A)(hg:Gl X x)(hm:X.mg x=some (.ref C))(hb:Binds X.K fd ps ds)(hd:Vals dvs ds)(hx:z2d CX X E)
  (ha:PA X (e::es) t) (hdb:Z9 x:=by decide) (he:de (e::es) X.env=(false,eval e X.env)::de es X.env:=by rfl) (iE:(ku pos (de es X.env)).any (·.1)=false:=by rfl):
  PE X (.Call (.Name x p) (e::es) [] pos) (xO C sp dvs E t):=by
 intro pins s U H Q I h;refine ik (z2h I hg hm ?_ hdb);refine W.callWith_K I.ok.mod.xE M.kp (aL (ha pos pins s U H _ I h) λus s1 ⟨vs,H1,I1,r,q⟩=>⟨I1.dB,?_⟩) he iE;exact zg0 M F hr hb hd hx I1 r q
end
structure FnScope (N P:List Str)(sc:Scope):Prop where
 kind:sc.kind=.function
 co:sc.isCoroutine=false
 gen:sc.isGenerator=false
 nd:N.Nodup
 pre:N.take P.length=P
 par:∀x∈P,sc.names.lookup x=some .local\/sc.names.lookup x=some .cell
 vA:∀y∈sc.names,y.2≠.free
theorem J8 {mz:Str->Option jd}:∀{binds:List (Str×Value)} {m:Str->Option Value},(∀v,(x,v)∉binds)->bindL mz binds m x=m x
 | [],_,_=>rfl
 |(n,v)::r,m,h=>by
  unfold bindL;rw[J8 λw hw=>h w (ah _ hw)];split
  ·have :x≠n:=by rintro rfl;exact h v ak
   simp[this]
  ·rfl
theorem J9 {mz:Str->Option jd}:∀{binds:List (Str×Value)} {m:Str->Option Value},(∀v,(x,v)∉binds)->bindC mz binds m x=m x
 | [],_,_=>rfl
 |(n,v)::r,m,h=>by
  unfold bindC;rw[J9 λw hw=>h w (ah _ hw)];split
  ·rfl
  ·have :x≠n:=by rintro rfl;exact h v ak
   simp[this]
theorem z6u {mz:Str->Option jd}:∀{P:List Str} {vs:List Value} {i:Nat} {m:Str->Option Value},P.Nodup->P[i]?=some x->vs[i]?=some v->mz x=some .local->
  bindL mz (P.zip vs) m x=some v
 | [],_,_,_,_,h,_,_=>by simp at h
 |_::_,[],_,_,_,_,h,_=>by simp at h
 |p::P,w::vs,0,m,nd,h1,h2,hk=>by simp at h1 h2;subst h1;subst h2;show bindL mz ((p,w)::P.zip vs) m p=_;unfold bindL;rw[J8 λv hv=>(i6.mp nd).1 (qo hv).1,vy hk];simp
 |p::P,w::vs,i+1,m,nd,h1,h2,hk=>by show bindL mz ((p,w)::P.zip vs) m x=_;exact z6u (i6.mp nd).2 (by simpa using h1) (by simpa using h2) hk
theorem z6w {mz:Str->Option jd}:∀{P:List Str} {vs:List Value} {i:Nat} {m:Str->Option Value},P.Nodup->P[i]?=some x->vs[i]?=some v->mz x≠some .local->
  bindC mz (P.zip vs) m x=some v
 | [],_,_,_,_,h,_,_=>by simp at h
 |_::_,[],_,_,_,_,h,_=>by simp at h
 |p::P,w::vs,0,m,nd,h1,h2,hk=>by simp at h1 h2;subst h1;subst h2;show bindC mz ((p,w)::P.zip vs) m p=_;unfold bindC;rw[J9 λv hv=>(i6.mp nd).1 (qo hv).1,vz hk];simp
 |p::P,w::vs,i+1,m,nd,h1,h2,hk=>by show bindC mz ((p,w)::P.zip vs) m x=_;exact z6w (i6.mp nd).2 (by simpa using h1) (by simpa using h2) hk
def start (N:List Str)(vs:List V):St:=vs.map some++bq (N.length-vs.length) none
def iF (CX:CXT)(P:cf)(w:World)(K:W.Frag)(mg:Str->Option Value)(base:Heap)(N:List Str)(qual:Str)(scope:Scope)(f:Addr)(cd:Value)(A:iz)(outer:List Env)(s:aw)(H:Hp)(E:XK):Cx where
 prog:=P
 w:=w
 K:=K
 mg:=mg
 base:=base
 A:=A.deeper (qx qual scope s.heap.objs.size f cd)
 N:=N
 s₀:=s
 iB:=H
 env:=qx qual scope s.heap.objs.size f cd
 outer:=outer
 stack:=qx qual scope s.heap.objs.size f cd::outer
 ex:=[]
 calm:=true
 fn:=λ_=>true
 pn:=[]
 xe:=λe s'=>wpAny (model P w) (A.deeper (qx qual scope s.heap.objs.size f cd)) (vg (qx qual scope s.heap.objs.size f cd) e) (λ_ pM=>CX outer H s E e pM) (λe' pM=>CX outer H s E e' pM) s'
theorem J' {sc:Scope}(h:sc.names.lookup x=some .cell):∃c,(cellsFrom n sc.names []).lookup x=some c:=by exact Option.isSome_iff_exists.mp (W.cellsFrom_some sc.names n [] (.inl h))
theorem zbt {K:W.Frag}
  (S:FnScope N ps scope) (hd:A.handled=none) (e0:lA P w K mg base A outer s H) (hl:vs.length=ps.length) (r:Vals vs us)
  (x:InCallC s s.heap.objs.size (bindL (qx qual scope s.heap.objs.size f cd).kindOf (ps.zip us) λ_=>none) (cellsFrom (s.heap.objs.size+1) scope.names []) (bindC (qx qual scope s.heap.objs.size f cd).kindOf (ps.zip us) λ_=>none) s1):
  Inv (iF CX P w K mg base N qual scope f cd A outer s H E) [] (start N vs) H s1:=by
 have iE:=by have:=congrArg l7 S.pre;rw[fm]at this;omega
 obtain⟨h1,tk,rfl,hk⟩:=x.done;have yR:∀b,b∉(iF CX P w K mg base N qual scope f cd A outer s H E).ex:=λb z=>absurd (show b∈([]:List Addr)from z) (by simp);refine⟨⟨e0.mod,S.kind,rfl,rfl,ag _,λy z c h1 h2=>?_,λy hy=>?_,λy c _ h=>?_,λ_=>hd,Around.frames_deeper e0.frames,.inr ⟨rfl,rfl⟩,λb z=>absurd z (yR b),e0.bs,e0.nB,λb _ _=>yR b,λb z=>absurd z (yR b),e0.cW,e0.qF,λ_ _ z=>by cases z⟩,rfl,e0.bare,Un.kept hk,⟨_,x.toInCall.ns,λi y v h1 h2 h3=>?_⟩,λy c h=>⟨_,x.cell y c h⟩,e0.hok.fresh (ag _),λy c h=>?_,λp hp=>absurd (show p∈([]:List (Addr×Obj))from hp) (by simp),e0.hok.kept hk,?_,λ_ _ z=>by cases z⟩
 ·exact name_of_addr x.apart (PySem.mem_of_lookup h1) (PySem.mem_of_lookup h2)
 ·have hy:scope.names.lookup y=some .cell\/scope.names.lookup y=some .free:=hy;rcases hy with hy|hy
  ·exact J' hy
  ·exact absurd rfl (S.vA _ (PySem.mem_of_lookup hy))
 ·exact qb (x.above y c (PySem.mem_of_lookup h))
 ·have hi:i<vs.length:=by
   unfold start at h2;by_cases hi:i<vs.length
   ·exact hi
   ·rw[jf (by simpa using hi)]at h2;rw[cz]at h2;split at h2<;>cases h2
  have ha:vs[i]?=some v:=by
   unfold start at h2;rw[gw (by simpa using hi),br]at h2;cases e:vs[i]? with
   |none=>rw[e]at h2;cases h2
   |some a=>rw[e]at h2;cases h2;rfl
  obtain⟨u,hu,rv⟩:=r.get ha;have hp:ps[i]?=some y:=by rw[<-S.pre,List.getElem?_take_of_lt (by omega)];exact h1
  have Ka:ps.Nodup:=by rw[<-S.pre];exact S.nd.sublist (uf _ _)
  refine⟨u,rv,?_⟩;rcases S.par y (d9 hp)with k|k
  ·exact .inl ⟨k,z6u Ka hp hu k⟩
  ·obtain⟨c,e⟩:=J' k;refine .inr ⟨.inl k,c,e,?_⟩;have q:=x.cell y c e;rw[z6w Ka hp hu (by show scope.names.lookup y≠_;rw[k];decide)]at q;exact q
 ·exact e0.hok.fresh (qb (x.above y c (PySem.mem_of_lookup h)))
 ·unfold start;show _=N.length;rw[ax,aq,df];omega
theorem zkn {K:W.Frag}{kV:Value}
  (lk:K.lookup f=some ⟨oc,od,.func (W.fnOf name qual params body scope dV kV doc pm an dF ct),pN⟩) (hcd:W.codeIn K dF qual=true) (S:FnScope N ps scope)
  (len:∀vs H Q E,sp vs H Q E->vs.length=ps.length)
  (nO:∀A outer s H vs Q E,Room k (A.deeper (qx qual scope s.heap.objs.size f dF))->sp vs H Q E->∃t,PSs (iF CX P w K mg base N qual scope f dF A outer s H E) body t/\t {nx:=λ_ H'=>Q .non H',rt:=Q} (start N vs) H):
  FnOk P w K mg base CX (k+1) f (W.fnOf name qual params body scope dV kV doc pm an dF ct) ps sp:=by
 refine⟨len,λA outer s H args us vs Q E hr e0 hb r eU=>?_⟩;have KX:=e0.mod.xE.keeps λb o e=>(e0.bs b o e).1
 have yS:∀y∈ps.zip us,scope.names.lookup y.1=some .local\/(scope.names.lookup y.1=some .cell/\((cellsFrom (s.heap.objs.size+1) scope.names []).lookup y.1).isSome=true):=λ⟨n,v⟩ hy=>by
  rcases S.par n (qo hy).1 with q|q
  ·exact .inl q
  ·exact .inr ⟨q,W.cellsFrom_some _ _ _ (.inl q)⟩
 refine codeAny_call_function hr.depth (KX _ _ lk) rfl S.co S.gen rfl (W.codeRec_of KX hcd) (hb _ _ _ _ ?_);refine wpAny_newFunctionEnv_cells S.kind yS λenv he s1 x=>?_;subst he;refine⟨(e0.mod.nolimit.keeps λb o e=>(e0.bs b o e).1).keeps x.toInCall.keep,codeAny_func ?_⟩;obtain⟨t,ht,hq⟩:=nO A outer s H vs Q E (hr.deeper _) eU;refine jc (ht [] s1 (start N vs) H _ (zbt S hr.hd e0 (len _ _ _ _ eU) r x) hq) (λfl s' hs=>?_) λe s' hs=>hs;have fin:∀{σ':St} {H':Hp} {v:V} {u:Value},Inv (iF CX P w K mg base N qual scope f dF A outer s H E) [] σ' H' s'->RelV v u->Q v H'->CE outer P w H s Q u s':=λ{σ' H' v u} J rv q=>⟨v,H',J.os,J.bare,J.base,J.hok,rv,q⟩;cases fl with
 |ret u=>obtain⟨v,σ',H',J,rv,q⟩:=hs;exact fin J rv q
 |next=>obtain⟨σ',H',J,q⟩:=hs;exact fin (v:=V.non) J rfl q
 |brk=>obtain⟨_,_,_,q⟩:=hs;exact False.elim q
 |cont=>obtain⟨_,_,_,q⟩:=hs;exact False.elim q
section
variable {X:Cx}{x:Str}{p pos:Pos}{e:Expr}{es:List Expr}{t:TA}{id:String}{r:List V->Hp->VK->Prop}
def qK (r:List V->Hp->VK->Prop)(t:TA):TE:=λU H Q=>t U H λvs H1=>r vs H1 Q
theorem zg9 (hc:CallR X (.builtin id) r)(hg:Gl X x)(hm:X.mg x=none)(hv:db x=some (.builtin id))(ha:PA X (e::es) t)(hn:x≠"__name__":=by decide)(hdb:Z9 x:=by decide)
  (he:de (e::es) X.env=(false,eval e X.env)::de es X.env:=by rfl) (iE:(ku pos (de es X.env)).any (·.1)=false:=by rfl):PE X (.Call (.Name x p) (e::es) [] pos) (qK r t):=by
 intro pins s U H Q I h;refine ik (z1w I hg hm hv ?_ hn hdb);exact PyProof.Rows.callWith_builtin1 (aL (ha pos pins s U H _ I h) λus s1 ⟨vs,H1,I1,r1,q1⟩=>hc pins s1 U H1 vs us Q I1 r1 q1) he iE
theorem zcq (hc:CallR X (.type T) r)(hg:Gl X x)(hm:X.mg x=none)(hv:db x=some (.type T))(ha:PA X (e::es) t)(hn:x≠"__name__":=by decide)(hdb:Z9 x:=by decide)
  (he:de (e::es) X.env=(false,eval e X.env)::de es X.env:=by rfl) (iE:(ku pos (de es X.env)).any (·.1)=false:=by rfl):PE X (.Call (.Name x p) (e::es) [] pos) (qK r t):=by
 intro pins s U H Q I h;refine ik (z1w I hg hm hv ?_ hn hdb);exact PyProof.Rows.callWith_type1 (aL (ha pos pins s U H _ I h) λus s1 ⟨vs,H1,I1,r1,q1⟩=>hc pins s1 U H1 vs us Q I1 r1 q1) he iE
end
section
variable {κ:Type} [DecidableEq κ]
def cL (kvs:List (κ×V))(k:κ):Option V:=(kvs.find? λkv=>decide (kv.1=k)).map (·.2)
def putK (kvs:List (κ×V))(k:κ)(v:V):List (κ×V):=if(kvs.any λkv=>decide (kv.1=k))=true then kvs.map (λkv=>if kv.1=k then(kv.1,v)else kv)else kvs++[(k,v)]
theorem B4 {p:κ×V}(e:p.1=k):cL (p::r) k=some p.2:=by simp[cL,dg,e]
theorem B5 {p:κ×V}(e:¬p.1=k):cL (p::r) k=cL r k:=by simp[cL,dg,e]
theorem Kb (k:κ):∀kvs,(kvs.any λkv=>decide (kv.1=k))=(cL kvs k).isSome
 | []=>rfl
 |p::r=>by
  rw[lp];by_cases e:p.1=k
  ·simp only[B4 e,we e,Bool.true_or,Option.isSome_some]
  ·rw[B5 e,wg e];exact Kb k r
theorem Kc (kvs:List (κ×V))(k:κ)(v:V):(putK kvs k v).length<=kvs.length+1:=by
 unfold putK;split
 ·rw[aq];omega
 ·rw[ax,ay,km];omega
theorem cG.bX (r:cG o u):o.isSome=u.isSome:=by
 cases o with
 |none=>cases u with
  |none=>rfl
  |some _=>exact r.elim
 |some _=>cases u with
  |none=>exact r.elim
  |some _=>rfl
theorem cG.getD (r:cG o u)(rd:RelV d d'):RelV (o.getD d) (u.getD d'):=by
 cases o with
 |none=>cases u with
  |none=>exact rd
  |some _=>exact r.elim
 |some _=>cases u with
  |none=>exact r.elim
  |some _=>exact r
theorem KV.val (r:KV kvs vs)(k:κ):cG (cL kvs k) (ug vs k):=by
 induction r with
 |nil=>exact True.intro
 | @cons p q ps qs h t ih=>
  obtain⟨h1,h2⟩:=h;by_cases e:p.1=k
  ·have e':q.1=k:=h1.symm.trans e;have b:ug (q::qs) k=some q.2:=by simp[ug,dg,e']
   rw[B4 e,b];exact h2
  ·have e':¬q.1=k:=λz=>e (h1.trans z);have b:ug (q::qs) k=ug qs k:=by simp[ug,dg,e']
   rw[B5 e,b];exact ih
theorem KV.any (r:KV kvs vs)(k:κ):(kvs.any λkv=>decide (kv.1=k))=vs.any λkv=>decide (kv.1=k):=by
 induction r with
 |nil=>rfl
 |cons h t ih=>rw[lp,lp,ih,h.1]
theorem KV.repl (r:KV kvs vs)(k:κ)(ry:RelV y u):
  KV (kvs.map λkv=>if kv.1=k then(kv.1,y)else kv) (vs.map λkv=>if kv.1=k then(kv.1,u)else kv):=by
 induction r with
 |nil=>exact .nil
 | @cons p q ps qs h t ih=>
  rw[bx,bx];refine .cons ?_ ih;obtain⟨h1,h2⟩:=h;by_cases e:p.1=k
  ·rw[vy e,vy (h1.symm.trans e)];exact⟨h1,ry⟩
  ·rw[vz e,vz (λz=>e (h1.trans z))];exact⟨h1,h2⟩
theorem KV.put (r:KV kvs vs)(k:κ)(ry:RelV y u):KV (putK kvs k y) (stored vs k u):=by
 unfold putK stored;rw[r.any k];by_cases e:(vs.any λkv=>decide (kv.1=k))=true
 ·rw[vy e,vy e];exact r.repl k ry
 ·rw[vz e,vz e];exact Paired.snoc r ⟨rfl,ry⟩
theorem KV.length (r:KV kvs vs):kvs.length=vs.length:=Paired.length r
end
theorem xP (r:RelV (kV k) u):(iS P w).is k u=true:=by
 cases k with
 |inl i=>obtain⟨t,e⟩:=r;subst e;exact Pl P w i t
 |inr x=>obtain⟨t,e⟩:=r;subst e;exact Pm P w x t
theorem Ke:∀{ks:List Key} {us:List Value},Vals (ks.map kV) us->ItemsAre (iS P w) ks us
 | [],_,r=>by rw[List.map_nil]at r;cases r;exact .nil
 |k::ks,_,r=>by
  cases r with
  |cons h t=>exact .cons (xP h) (Ke t)
abbrev KT (H:Hp):List (List Key×V)->List (List Key×Addr×Value)->Prop:=lu λp q=>p.1=q.1/\H q.2.1=some (.tup (p.1.map kV))/\RelV p.2 q.2.2
theorem KT.val (r:KT H kvs xs)(k:List Key):cG (cL kvs k) ((atKey xs k).map (·.2)):=by
 induction r with
 |nil=>exact True.intro
 | @cons p q ps qs h t ih=>
  obtain⟨h1,_,h2⟩:=h;by_cases e:p.1=k
  ·have e':q.1=k:=h1.symm.trans e;have b:atKey (q::qs) k=some q.2:=by simp[atKey,dg,e']
   rw[B4 e,b];exact h2
  ·have e':¬q.1=k:=λz=>e (h1.trans z);have b:atKey (q::qs) k=atKey qs k:=by simp[atKey,dg,e']
   rw[B5 e,b];exact ih
theorem KT.repl (r:KT H kvs xs)(k:List Key)(ry:RelV y u):
  KT H (kvs.map λkv=>if kv.1=k then(kv.1,y)else kv) (xs.map (putAt k u)):=by
 induction r with
 |nil=>exact .nil
 | @cons p q ps qs h t ih=>
  rw[bx];refine .cons ?_ ih;obtain⟨h1,h2,h3⟩:=h;unfold putAt;by_cases e:p.1=k
  ·rw[vy e,vy (h1.symm.trans e)];exact⟨h1,h2,ry⟩
  ·rw[vz e,vz (λz=>e (h1.trans z))];exact⟨h1,h2,h3⟩
theorem KT.put (r:KT H kvs xs)(k:List Key)(hb:H b=some (.tup (k.map kV)))(ry:RelV y u):
  KT H (putK kvs k y) (storedH xs k b u):=by
 have e:(kvs.any λkv=>decide (kv.1=k))=(atKey xs k).isSome:=by rw[Kb,(r.val k).bX,mh]
 unfold putK storedH;rw[e];by_cases q:(atKey xs k).isSome=true
 ·rw[vy q,vy q];exact r.repl k ry
 ·rw[vz q,vz q];exact Paired.snoc r ⟨rfl,hb,ry⟩
theorem KT.keeps (r:KT H kvs xs)(ht:∀b ys,H b=some (.tup ys)->H' b=some (.tup ys)):KT H' kvs xs:=Paired.uM r λ_ _ z=>⟨z.1,ht _ _ z.2.1,z.2.2⟩
theorem Kg (ok:HOk P w H h)(e:Rd H a u):z1j P w H h a u:=e.ok ok
theorem sZ (ok:HOk P w H h)(e:Rd H a (.dK kvs)):kvs.length<=ba/\(a==j7)=false/\∃vs,KV kvs vs/\h.DictOf (iS P w) a vs:=show z1j P w H h a (.dK kvs)from Kg ok e
theorem Eo (ok:HOk P w H h)(e:H a=some (.dK kvs)):kvs.length<=ba/\(a==j7)=false/\∃vs,KV kvs vs/\h.DictOf (iS P w) a vs:=sZ ok (.inl e)
theorem xQ (ok:HOk P w H h)(e:H a=some (.tup (ks.map kV))):(pr (iS P w)).is h ks a:=by obtain⟨_,its,r,n,h1⟩:=(ok a _ e);exact⟨_,its.toArray,n,h1,rfl,rfl,by simpa using Ke r⟩
theorem z70 (ok:HOk P w H h)(e:Rd H a (.dT kvs)):kvs.length<=ba/\(a==j7)=false/\
  ∃xs,KT H kvs xs/\h.DictOfH (pr (iS P w)) a xs:=by
 obtain⟨z,y,xs,r,o,es,ep,h1,h2,h3,h4,h5⟩:=(Kg ok e);refine⟨z,y,xs,r,o,es,ep,h1,h2,h3,h4,λx hx=>?_,h5⟩
 have all:∀{l:List (List Key×V)} {m:List (List Key×Addr×Value)},KT H l m->∀x∈m,(pr (iS P w)).is h x.1 x.2.1:=by
  intro l m q
  induction q with
  |nil=>intro x hx;exact nomatch hx
  | @cons p q ps qs hq t ih=>
   intro x hx;rcases ao.mp hx with e|hx
   ·subst e;exact xQ ok (by rw[<-hq.1];exact hq.2.1)
   ·exact ih x hx
 exact all r x hx
theorem Qt (ok:HOk P w H h)(e:H a=some (.dT kvs)):kvs.length<=ba/\(a==j7)=false/\∃xs,KT H kvs xs/\h.DictOfH (pr (iS P w)) a xs:=z70 ok (.inl e)
def DGet (H:Hp)(a:Addr)(y:V)(r:Option V):Prop:=(∃kvs k,Rd H a (.dK kvs)/\y=kV k/\r=cL kvs k)\/∃kvs k b,Rd H a (.dT kvs)/\y=.ref b/\H b=some (.tup (k.map kV))/\r=cL kvs k
def DPut (H:Hp)(a:Addr)(y v:V)(H':Hp):Prop:=
 (∃kvs k,H a=some (.dK kvs)/\y=kV k/\kvs.length<ba/\H'=upd H a (.dK (putK kvs k v)))\/
 ∃kvs k b,H a=some (.dT kvs)/\y=.ref b/\H b=some (.tup (k.map kV))/\kvs.length<ba/\H'=upd H a (.dT (putK kvs k v))
theorem DGet.k {k:Key}(e:H a=some (.dK kvs)):DGet H a (kV k) (cL kvs k):=.inl ⟨kvs,k,.inl e,rfl,rfl⟩
theorem Inv.big (I:Inv X pins U H s):j7<s.heap.objs.size:=by exact oj (by decide) ((I.mod.glob.keeps I.bk).lt)
theorem zdf (hu:A.units+1<cLine)(I:Inv X pins U H s)(g:DGet H a y (some v))(ry:RelV y u)(h:∀w' s',Inv X pins U H s'->RelV v w'->Q w' s'):
  wpAny (model X.prog X.w) A (uh (.ref a) u) Q E s:=by
 rcases g with⟨kvs,k,e,ey,l⟩|⟨kvs,k,b,e,ey,eb,l⟩
 ·subst ey;obtain⟨z,hd,vs,rel,dd⟩:=sZ I.hok e;obtain⟨w',hw,dJ⟩:=cG.some_of (by rw[l];exact rel.val k);exact wpAny_getItem_of (xP ry) dd.mapOf hw (h w' _ (I.tok _) dJ)
 ·subst ey;cases ry;obtain⟨z,hd,xs,rel,dd⟩:=z70 I.hok e;obtain⟨w',hw,dJ⟩:=cG.some_of (by rw[l];exact rel.val k);obtain⟨p,hp,jH⟩:=dj.mp hw;refine wpAny_getItem_heap (j8 hu) (xQ I.hok eb) dd hp ?_;rw[jH];exact h w' _ (I.tok _) dJ
theorem d_in (hu:A.units+1<cLine)(I:Inv X pins U H s)(g:DGet H a y o)(ry:RelV y u)(h:∀s',Inv X pins U H s'->Q (.bool o.isSome) s'):
  wpAny (model X.prog X.w) A (cv .In u (.ref a)) Q E s:=by
 rcases g with⟨kvs,k,e,ey,l⟩|⟨kvs,k,b,e,ey,eb,l⟩
 ·subst ey;obtain⟨z,hd,vs,rel,dd⟩:=sZ I.hok e;refine wpAny_in_of (xP ry) hd dd.mapOf ?_;rw[<-(rel.val k).bX,<-l];exact h _ (I.tok _)
 ·subst ey;cases ry;obtain⟨z,hd,xs,rel,dd⟩:=z70 I.hok e;refine wpAny_in_heap (j8 hu) (xQ I.hok eb) hd dd ?_;have q:=(rel.val k).bX;rw[mh]at q;rw[<-q,<-l];exact h _ (I.tok _)
theorem ziw (hu:A.units+1<cLine)(I:Inv X pins U H s)(g:DGet H a y o)(ry:RelV y u)(h:∀s',Inv X pins U H s'->Q (.bool (!o.isSome)) s'):
  wpAny (model X.prog X.w) A (cv .NotIn u (.ref a)) Q E s:=by
 rcases g with⟨kvs,k,e,ey,l⟩|⟨kvs,k,b,e,ey,eb,l⟩
 ·subst ey;obtain⟨z,hd,vs,rel,dd⟩:=sZ I.hok e;refine wpAny_notIn_of (xP ry) hd dd.mapOf ?_;rw[<-(rel.val k).bX,<-l];exact h _ (I.tok _)
 ·subst ey;cases ry;obtain⟨z,hd,xs,rel,dd⟩:=z70 I.hok e;refine wpAny_notIn_heap (j8 hu) (xQ I.hok eb) hd dd ?_;have q:=(rel.val k).bX;rw[mh]at q;rw[<-q,<-l];exact h _ (I.tok _)
theorem zb8 (I:Inv X pins U H s)(mu:Mut (H a))(hs:bu a s.heap h')(he:∃q,h'.get? a=some q)(new:z1j X.prog X.w (upd H a ob) h' a ob):
  Inv X pins U (upd H a ob) {s with heap:=h',toks:=t'}:=
 I.write mu (.inl rfl) (λb q hb z=>(hs.2 b hb).trans z) he new
theorem Qu (z:kvs.length<=ba)(hd:(a==j7)=false)(rel:KV kvs vs)(dd:h'.DictOf (iS P w) a vs): z1j P w H' h' a (.dK kvs):=⟨z,hd,vs,rel,dd⟩
theorem zdv (hu:A.units+1<cLine)(I:Inv X pins U H s)(g:DPut H a y v H')(ry:RelV y u)(rv:RelV v r)(h:∀s',Inv X pins U H' s'->Q () s'):
  wpAny (model X.prog X.w) A (setItem (.ref a) u r) Q E s:=by
 rcases g with⟨kvs,k,e,ey,l,eH⟩|⟨kvs,k,b,e,ey,eb,l,eH⟩
 ·subst ey eH;obtain⟨z,hd,vs,rel,dd⟩:=Eo I.hok e;have hz:vs.length<=ba:=by rw[<-rel.length];exact z
  exact wpAny_setItem_pairs (xP ry) dd λh' tE hs=>h _ (zb8 I (by rw[e];exact True.intro) hs (let⟨q,_,_,hq,_⟩:=tE;⟨q,hq⟩) (Qu (by have:=Kc kvs k v;omega) hd (rel.put k rv) tE))
 ·subst ey eH;cases ry;obtain⟨z,hd,xs,rel,dd⟩:=Qt I.hok e;have hz:xs.length<=ba:=by rw[<-Paired.length rel];exact z
  refine wpAny_setItem_heap (j8 hu) (xQ I.hok eb) dd λh' tE hs=>h _ ?_;obtain⟨q,es,ep,hq,h2,h3,h4,_,h5⟩:=tE;refine zb8 I (by rw[e];exact True.intro) hs ⟨q,hq⟩ ⟨(by have:=Kc kvs k v;omega),hd,_,(rel.put k eb rv).keeps λc ys ec=>?_,q,es,ep,hq,h2,h3,h4,h5⟩;rw[aK (Pn ec e (λz=>nomatch z))];exact ec
theorem Qv (I:Inv X pins U H s)(e:Rd H a (.dK kvs))(h:∀t s',Inv X pins U H s'->Q (.int kvs.length t) s'):wpAny (model X.prog X.w) A (call (.builtin "len") [.ref a]) Q E s:=by obtain⟨z,hd,vs,rel,dd⟩:=sZ I.hok e;refine call_len_dict hd dd (by rw[<-rel.length];rw[cg]at z;omega) ?_;rw[<-rel.length];exact h _ _ (I.tok _)
theorem Qw (I:Inv X pins U H s)(g:DGet H a y o):s.TypeIs (.ref a) "dict":=by
 rcases g with⟨kvs,k,e,_,_⟩|⟨kvs,k,b,e,_,_,_⟩
 ·obtain⟨_,_,vs,_,dd⟩:=sZ I.hok e;exact dd.typeIs
 ·obtain⟨_,_,xs,_,dd⟩:=z70 I.hok e;exact dd.typeIs
theorem Qx (h:Heap)(hb:j7<h.objs.size):z1j P w H (h.push {cls:=.type "dict",data:=.dict #[]}) h.objs.size (.dK []):=⟨dv _,beq_eq_false_iff_ne.mpr (Ne.symm (bz hb)),[],.nil,Heap.DictOf.new h⟩
def Kh:TE:=λ_ H Q=>∀p,H p=none->Q (.ref p) (upd H p (.dK []))
theorem Ki:PE X (.Dict [] [] pos) Kh:=λpins s U H Q I h=>wpAny_Dict_empty ⟨.ref s.heap.objs.size,_,I.laid (λ_ _ q=>af _ q) (ag _) (Qx s.heap I.big),rfl,h _ (I.hok.fresh (ag _))⟩
structure M1 (X:Cx)(o:Expr)(m:Str)(apos:Pos)(e:Expr)(cpos:Pos):Prop where
 base:ko o m X.env (eval o X.env)=eval o X.env
 qL:((ku cpos (de [e] X.env)).all (λx=> !x.1)&&(ui cpos (pb [] X.env)).all (λx=>x.1.isSome) &&decide (([e]:List Expr).length+([]:List qd).length+(if([]:List qd).isEmpty then 0 else 1)<30))=true
 line:(apos.endLine==cpos.line)=true
 trees:ku cpos (de [e] X.env)=[(false,eval e X.env)]
def IsD (H:Hp)(a:Addr):Prop:=(∃kvs,Rd H a (.dK kvs))\/∃kvs,Rd H a (.dT kvs)
theorem zlx (I:Inv X pins U H s)(d:IsD H a):
  s.TypeIs (.ref a) "dict"/\(∀b,Value.ref a=.ref b->∃ob,s.heap.get? b=some ob/\ob.dict=none)/\(a==j7)=false:=by
 rcases d with⟨kvs,e⟩|⟨kvs,e⟩
 ·obtain⟨_,hd,vs,_,dd⟩:=sZ I.hok e;refine⟨dd.typeIs,λb q=>?_,hd⟩;cases q;obtain⟨ob,_,_,h1,h2,_⟩:=dd;exact⟨ob,h1,h2.2.1⟩
 ·obtain⟨_,hd,xs,_,dd⟩:=z70 I.hok e;refine⟨dd.typeIs,λb q=>?_,hd⟩;cases q;obtain⟨ob,_,_,h1,h2,_⟩:=dd;exact⟨ob,h1,h2.2.1⟩
theorem zqh (hu:A.units+1<cLine)(I:Inv X pins U H s)(g:DGet H a y o)(ry:RelV y u)(h:∀w' s',Inv X pins U H s'->RelV (o.getD .non) w'->Q w' s'):
  wpAny (model X.prog X.w) A (call (.builtin "dict.get") [.ref a,u]) Q E s:=by
 rcases g with⟨kvs,k,e,ey,l⟩|⟨kvs,k,b,e,ey,eb,l⟩
 ·subst ey;obtain⟨z,hd,vs,rel,dd⟩:=sZ I.hok e;refine uj PySem.F.slot_dict_get dd.typeIs PySem.F.entry_dict_get (PySem.F.args_dict_get_2 _ _) (meets_dict_get (iS X.prog X.w) a (xP ry) hd) ⟨_,dd.mapOf,h _ _ (I.tok _) ?_⟩;rw[l];exact(rel.val k).getD rfl
 ·subst ey;cases ry;obtain⟨z,hd,xs,rel,dd⟩:=z70 I.hok e;refine uj PySem.F.slot_dict_get dd.typeIs PySem.F.entry_dict_get (PySem.F.args_dict_get_2 _ _) (meetsH_dict_get (pr (iS X.prog X.w)) a b hd) ⟨j8 hu,k,xs,xQ I.hok eb,dd,h _ _ (I.tok _) ?_⟩;rw[l];exact(rel.val k).getD rfl
def Kj (td ty:TE):TE:=λU H Q=>td U H λx H1=>∃a,x=.ref a/\IsD H1 a/\ty U H1 λy H2=>∃o,DGet H2 a y o/\Q (o.getD .non) H2
theorem Qy (hu:X.A.units+1<cLine)(ho:PE X o td)(he:PE X e ty)(m:M1 X o "get" apos e cpos):PE X (.Call (.Attribute o "get" apos) [e] [] cpos) (Kj td ty):=by intro pins s U H Q I h;refine wpAny_Call_method m.base m.qL m.line PySem.F.plainAttrs_dict PySem.F.slot_dict_get PySem.F.type_dict_get (aL (ho pins s U H _ I h) λu s1 ⟨x,H1,I1,rx,a,ex,d,q1⟩=>?_);subst ex;obtain rfl:u=Value.ref a:=rx;obtain⟨t1,t2,_⟩:=zlx I1 d;refine⟨t1,t2,?_⟩;rw[m.trees];refine mi rfl (nj (ox (aL (he pins s1 U H1 _ I1 q1) λiv s2 ⟨y,H2,I2,ry,ov,g,q2⟩=>o9 ?_)));exact zqh hu I2 g ry λw' s3 I3 dJ=>⟨_,H2,I3,dJ,q2⟩
end L2
namespace HT
open PySem PyProof.Rows
theorem cat_tup (ht:IsTup s.heap t vs.toArray)(hb:IsTup s.heap b ws.toArray)(hv:vs≠[])
  (h1:ws=[]->Q (.ref t) s) (h2:ws≠[]->Q (.ref s.heap.objs.size) {s with heap:=s.heap.push {cls:=.type "tuple",data:=.seq (vs++ws).toArray}})
  (uW:vs.length+ws.length<=ba):wpAny (model prog w) A (i7 .Add (.ref t) (.ref b)) Q E s:=by
 obtain⟨⟨cls,dd,data,sl⟩,ho,hc,n,hd⟩:=id ht;obtain⟨⟨yT,xR,data2,nQ⟩,ho2,yU,n2,hd2⟩:=id hb;subst hc hd yU hd2;have e:vs.toArray++ws.toArray=(vs++ws).toArray:=by simp
 by_cases hw:ws=[]
 ·exact qe ⟨_,ho,rfl⟩ ⟨_,ho2,rfl⟩ pz sx PySem.F.slot_tuple_add PySem.F.entry_tuple_add (PySem.F.args_tuple_add_2 _ _) (tuple_addW1 t b vs.toArray ws.toArray n n2 dd xR sl nQ (by simpa using hv) (by simp[hw])) ⟨ho,ho2,h1 hw⟩
 ·refine qe ⟨_,ho,rfl⟩ ⟨_,ho2,rfl⟩ pz sx PySem.F.slot_tuple_add PySem.F.entry_tuple_add (PySem.F.args_tuple_add_2 _ _)
   (tuple_addW2 t b vs.toArray ws.toArray n n2 dd xR sl nQ (by simpa using hv) (by simpa using hw) (by rw[az];exact uW)) ⟨ho,ho2,?_⟩
  rw[e];exact h2 hw
def aU (n d:Nat):Option Int->Nat
 |none=>d
 |some v=>if v<0 then(v+(n:Int)).toNat else min v.toNat n
theorem vB (n d:Nat)(hd:d<=n)(o:Option Int):aU n d o<=n:=by
 cases o with
 |none=>exact hd
 |some v=>
  show(if v<0 then(v+n).toNat else min v.toNat n)<=n;by_cases hv:v<0
  ·rw[vy hv];omega
  ·rw[vz hv];exact p6 _ _
theorem Kk (v:Int)(n d:Nat):(if v<0 then max (v+(n:Int)) 0 else min v (n:Int))=((aU n d (some v):Nat):Int):=by
 show(if v<0 then max (v+n) 0 else min v n)=(((if v<0 then(v+n).toNat else min v.toNat n):Nat):Int);by_cases hv:v<0
 ·simp only[vy hv];omega
 ·simp only[vz hv];omega
theorem Qz (lo hi:Option Int)(n:Nat):o6 lo hi 1 (n:Int)=(((aU n 0 lo:Nat):Int),((aU n n hi:Nat):Int)):=by
 refine Prod.ext ?_ ?_
 ·cases lo with
  |none=>rfl
  |some v=>exact Kk v n 0
 ·cases hi with
  |none=>rfl
  |some v=>exact Kk v n n
theorem QA (i j:Nat):ji (i:Int) (j:Int) 1=j-i:=by unfold ji;split<;>omega
theorem Kl (p:t7 v o)(h:Q o s):wpAny (model prog w) A (Builtin.Slice.slicePartIndex v) Q E s:=by
 cases p with
 |none=>exact slicePart_none h
 |int i t=>exact slicePart_int h
theorem z36 {lo:Option Int}{n:Nat}(hs:s.heap.IsSliceOf sl vl vu .none)(pl:t7 vl lo)(pu:t7 vu hi)
  (h:Q (((aU n 0 lo:Nat):Int),1,aU n n hi-aU n 0 lo) s):wpAny (model prog w) A (Builtin.Slice.sliceApplied (.ref sl) (pure n)) Q E s:=by
 obtain⟨os,yV,B6,B7⟩:=id hs;refine aa (aa (dq yV B7 rfl (aa (dq yV B7 rfl (aa (dq yV B7 rfl (aj ?_)))))));refine aa (slicePart_none ?_);refine aa (Kl pl (aa (Kl pu (aa (aj ?_)))));show wpAny _ _ (match o6 lo hi 1 n with|(lo,hi)=>pure (lo,(1:Int),ji lo hi 1)) _ _ s;rw[Qz lo hi n];show wpAny _ _ (pure (((aU n 0 lo:Nat):Int),1,ji ((aU n 0 lo:Nat):Int) ((aU n n hi:Nat):Int) 1)) _ _ s;rw[QA];exact aj h
theorem QB (xs:Array Value)(i k:Nat):((cj k).filterMap λ(m:Nat)=>xs[((i:Int)+(m:Int)*1).toNat]?).toArray=((xs.toList.drop i).take k).toArray:=by
 have e:(λ(m:Nat)=>xs[((i:Int)+m*1).toNat]?)=λm=>xs[i+m]?:=by
  funext m
  have:((i:Int)+m*1).toNat=i+m:=by omega
  rw[this]
 rw[e];have:=pick_run xs i k;rw[List.filterMap_map]at this;have e2:((λx=>xs[x]?)∘λx=>i+x)=λm=>xs[i+m]?:=rfl;rw[e2]at this;rw[this]
theorem getItem_tuple_cut {lo:Option Int}(ht:IsTup s.heap t items)(hs:s.heap.IsSliceOf sl vl vu .none)(pl:t7 vl lo)(pu:t7 vu hi)
  (hw:¬(aU items.size 0 lo=0/\aU items.size items.size hi=items.size))
  (h:Q (.ref s.heap.objs.size) {s with heap:=s.heap.push {cls:=.type "tuple",data:=.seq ((items.toList.drop (aU items.size 0 lo)).take (aU items.size items.size hi-aU items.size 0 lo)).toArray}})
  (uW:items.size<=ba):wpAny (model prog w) A (uh (.ref t) (.ref sl)) Q E s:=by
 have kH:sizeOk (.seq ((items.toList.drop (aU items.size 0 lo)).take (aU items.size items.size hi-aU items.size 0 lo)).toArray):=by show((items.toList.drop (aU items.size 0 lo)).take (aU items.size items.size hi-aU items.size 0 lo)).toArray.size<=ba;rw[az,fm,gh,cq];omega
 obtain⟨os,yV,B6,B7⟩:=id hs;unfold uh
 try with_reducible refine fk ?_
 first|refine aa (aj ?_)|skip
 refine aa (wpAny_sequenceKey ht.typeIs (by decide) ?_);refine aa (e7 ht.typeIs PyProof.Rows.slot_tuple_getitem (jb PyProof.Rows.slot_tuple_getitem ht.typeIs entry_tuple_getitem ?_ (args_tuple_getitem _ _)));show wpAny _ _ (Builtin.Tuple.tupleItemsOf (.ref t)>>=_) _ _ s;refine aa (tupleItemsOf_ ht ?_);refine aa (wpAny_typeOf ⟨os,yV,B6⟩ ?_);refine aa (z36 hs pl pu ?_);have Ep:¬((((aU items.size 0 lo:Nat):Int)==0&&(1:Int)==1&&(aU items.size items.size hi-aU items.size 0 lo)==items.size)=true):=by intro q;rw[bh,bh]at q;have q1:=eq_of_beq q.1.1;have q2:=eq_of_beq q.2;exact hw ⟨by omega,by omega⟩
 show wpAny _ _ (if(((aU items.size 0 lo:Nat):Int)==0&&1==1&&(aU items.size items.size hi-aU items.size 0 lo)==items.size)=true then _ else _) _ _ s;rw[vz Ep,QB]
 first
  |exact aa (jr (aj ⟨_,rfl,aj h⟩) kH)
  |exact aa (jr (aa (aj (aj ⟨_,rfl,aj h⟩))) kH)
  |exact aa (aa (jr (aj (aj ⟨_,rfl,aj h⟩)) kH))
  |exact aa (aa (jr (aj ⟨_,rfl,aj h⟩) kH))
end HT
namespace L2
open PySem PySem.Spec PyProof.Rows
abbrev TO:=St->Hp->(Option Int->Hp->Prop)->Prop
def PO (X:Cx)(e:Option Expr)(t:TO):Prop:=∀(pins:List (Addr×Obj)) (s:aw) (U:St) (H:Hp) (Q:Option Int->Hp->Prop),Inv X pins U H s->t U H Q->wpAny (model X.prog X.w) X.A (evalPart e X.env) (λu s'=>∃o H',Inv X pins U H' s'/\t7 u o/\Q o H') X.xe s
def QC:TO:=λ_ H Q=>Q none H
def QD (t:TE):TO:=λU H Q=>t U H λx H1=>∃i,x=.int i/\Q (some i) H1
section
variable {X:Cx}{e:Expr}{te:TE}{lo hi:Option Expr}{tl th:TO}{pos p2:Pos}
theorem QE:PO X none QC:=by intro pins s U H Q I h;exact aj ⟨none,H,I,.none,h⟩
theorem QF (h:PE X e te):PO X (some e) (QD te):=by intro pins s U H Q I hw;refine aL (h pins s U H _ I hw) λu s1 ⟨x,H1,I1,r1,q1⟩=>?_;obtain⟨i,rfl,q⟩:=q1;obtain⟨t,rfl⟩:=r1;exact⟨some i,H1,I1,.int i t,q⟩
def pO (X:Cx)(r:V->Option Int->Option Int->Hp->VK->Prop):Prop:=∀(pins:List (Addr×Obj)) (s:aw) (U:St) (H:Hp) (x:V) (v vl vu:Value) (lo hi:Option Int) (sl:Addr) (Q:VK),Inv X pins U H s->RelV x v->s.heap.IsSliceOf sl vl vu .none->t7 vl lo->t7 vu hi->r x lo hi H Q->∃T id,typeLookup (.type T) "__getitem__"=pure (some (.builtin id))/\s.TypeIs v T/\wpAny (model X.prog X.w) X.A (uh v (.ref sl)) (EP X pins U Q) X.xe s
theorem pO.or (h:pO X r)(h':pO X r'):pO X (λx lo hi H Q=>r x lo hi H Q\/r' x lo hi H Q):=by
 intro pins s U H x v vl vu lo hi sl Q I rx hs pl pu q;rcases q with q|q
 ·exact h pins s U H x v vl vu lo hi sl Q I rx hs pl pu q
 ·exact h' pins s U H x v vl vu lo hi sl Q I rx hs pl pu q
def QG (r:V->Option Int->Option Int->Hp->VK->Prop)(te:TE)(tl th:TO):TE:=λU H Q=>te U H λx H1=>tl U H1 λl H2=>th U H2 λu H3=>r x l u H3 Q
theorem QH (hr:pO X r)(he:PE X e te)(hl:PO X lo tl)(hu:PO X hi th):PE X (.Subscript e (.Slice lo hi none p2) pos) (QG r te tl th):=by intro pins s U H Q I h;refine Subscript_ (aL (he pins s U H _ I h) λv s1 ⟨x,H1,I1,r1,q1⟩=>?_);refine wpAny_Slice (aL (hl pins s1 U H1 _ I1 q1) λvl s2 ⟨l,H2,I2,pl,q2⟩=>aL (hu pins s2 U H2 _ I2 q2) λvu s3 ⟨u,H3,I3,pu,q3⟩=>?_);refine aj ?_;have I4:Inv X pins U H3 {s3 with heap:=s3.heap.push {cls:=.type "slice",data:=.fields #[vl,vu,.none]}}:=I3.kept λb ob q=>af _ q;obtain⟨T,id,hT,ht,hg⟩:=hr pins {s3 with heap:=s3.heap.push {cls:=.type "slice",data:=.fields #[vl,vu,.none]}} U H3 x v vl vu l u s3.heap.objs.size Q I4 r1 (Heap.IsSliceOf.new ..) pl pu q3;exact tail_any ht hT hg (by with_unfolding_all rfl)
def qM (xs:List V)(lo hi:Option Int):List V:=(xs.drop (HT.aU xs.length 0 lo)).take (HT.aU xs.length xs.length hi-HT.aU xs.length 0 lo)
theorem Km (xs:List V)(lo hi:Option Int):(qM xs lo hi).length<=xs.length:=by unfold qM;rw[fm,gh];omega
def Er (K:W.Frag):V->Option Int->Option Int->Hp->VK->Prop:=λx lo hi H Q=>∃a xs,x=.ref a/\cS K H a xs/\¬(HT.aU xs.length 0 lo=0/\HT.aU xs.length xs.length hi=xs.length)/\∀p,H p=none->Q (.ref p) (upd H p (.tup (qM xs lo hi)))
theorem QI:pO X (Er X.K):=by
 rintro pins s U H x v vl vu lo hi sl Q I rx hs pl pu ⟨a,xs,rfl,hx,hw,q⟩
 cases rx;obtain⟨its,r,ht,hz⟩:=I.tuple hx;have hlen:its.toArray.size=xs.length:=by rw[az];exact r.length.symm
 refine⟨"tuple",_,PyProof.Rows.slot_tuple_getitem.lookup,ht.typeIs,?_⟩;refine HT.getItem_tuple_cut ht hs pl pu (by rw[hlen];exact hw) ?_ (by rw[hlen];exact hz);rw[hlen];refine⟨.ref s.heap.objs.size,_,I.laid (λb ob q=>af _ q) (ag _) ?_,rfl,q _ (I.hok.fresh (ag _))⟩;exact⟨b8 (Km xs lo hi) hz,_,(r.drop (HT.aU xs.length 0 lo)).take (HT.aU xs.length xs.length hi-HT.aU xs.length 0 lo),iA.new _ _⟩
def Kq (K:W.Frag):R2:=λx y H Q=>∃a b xs ys,x=.ref a/\y=.ref b/\cS K H a xs/\cS K H b ys/\xs≠ []/\xs.length+ys.length<=ba/\(ys=[]->Q (.ref a) H)/\(ys≠[]->∀p,H p=none->Q (.ref p) (upd H p (.tup (xs++ys))))
theorem Vals.gM (r:Vals xs us):us=[]↔xs=[]:=by
 cases r with
 |nil=>simp
 |cons _ _=>simp
theorem QJ:OpR X (i7 .Add) (Kq X.K):=by
 rintro pins s U H x y v u Q I rx ry ⟨a,b,xs,ys,rfl,rfl,ha,hb,hx,hz,q1,q2⟩
 cases rx;cases ry;obtain⟨its,r1,p1,_⟩:=I.tuple ha;obtain⟨dG,r2,p2,_⟩:=I.tuple hb;refine HT.cat_tup p1 p2 (λz=>hx (r1.gM.mp z)) (λz=>⟨.ref a,H,I,rfl,q1 (r2.gM.mp z)⟩) (λz=>?_) (by rw[<-r1.length,<-r2.length];exact hz);refine⟨.ref s.heap.objs.size,_,I.laid (λb ob q=>af _ q) (ag _) ?_,rfl,q2 (λw=>z (r2.gM.mpr w)) _ (I.hok.fresh (ag _))⟩;exact⟨by rw[ax];exact hz,_,r1.append r2,iA.new _ _⟩
end
def lB (n:Nat)(i:Int):Option Nat:=if 0<=i then(if i<n then some i.toNat else none)else if -(n:Int)<=i then some (i+n).toNat else none
def cF {α:Type}(xs:List α)(i:Int):Option α:=(lB xs.length i).bind λj=>xs[j]?
theorem Kr (h:lB n i=some j):seqIndex? i n=some j/\j<n/\-(n:Int)<=i/\i<n:=by
 unfold lB at h;by_cases h0:0<=i
 ·rw[vy h0]at h;by_cases h1:i<n
  ·rw[vy h1]at h;have e:=v5 h;exact⟨by rw[u6 h0 h1,e],by omega,by omega,h1⟩
  ·rw[vz h1]at h;cases h
 ·rw[vz h0]at h;by_cases h1:-n<=i
  ·rw[vy h1]at h;have e:=v5 h;exact⟨by rw[uk (by omega) h1,e],by omega,h1,by omega⟩
  ·rw[vz h1]at h;cases h
theorem Es (h:cF xs i=some v):∃j,seqIndex? i xs.length=some j/\xs[j]?=some v/\j<xs.length/\-(xs.length:Int)<=i/\i<xs.length:=by
 unfold cF at h;cases e:lB xs.length i with
 |none=>rw[e]at h;cases h
 |some j=>rw[e]at h;obtain⟨h1,h2,h3,h4⟩:=Kr e;exact⟨j,h1,h,h2,h3,h4⟩
def Ks (b:Expr):Prop:=∀o i,subscripted b false o i=operate [o,i] (uh o i)
def mK (X:Cx)(r:R2):Prop:=∀(value slice:Expr) (pins:List (Addr×Obj)) (s:aw) (U:St) (H:Hp) (x y:V) (v u:Value) (Q:VK),Inv X pins U H s->RelV x v->RelV y u->r x y H Q->subscripted slice false v u=operate [v,u] (uh v u)->wpAny (model X.prog X.w) X.A (subscriptTail value slice v u) (EP X pins U Q) X.xe s
def MtR (X:Cx)(id:String)(r:V->List V->Hp->VK->Prop):Prop:=∀(pins:List (Addr×Obj)) (s:aw) (U:St) (H:Hp) (x:V) (xs:List V) (v:Value) (us:List Value) (Q:VK),Inv X pins U H s->RelV x v->Vals xs us->r x xs H Q->wpAny (model X.prog X.w) X.A (call (.builtin id) (v::us)) (EP X pins U Q) X.xe s
section
variable {X:Cx}
theorem mK.or (h:mK X r)(h':mK X r'):mK X (λx y H Q=>r x y H Q\/r' x y H Q):=by
 intro value slice pins s U H x y v u Q I rx ry q hs;rcases q with q|q
 ·exact h value slice pins s U H x y v u Q I rx ry q hs
 ·exact h' value slice pins s U H x y v u Q I rx ry q hs
theorem Kt (hr:mK X r)(ha:PE X a ta)(hb:PE X b tb)(hs:Ks b):PE X (.Subscript a b pos) (mI r ta tb):=by intro pins s U H Q I h;exact Subscript_ (binT ha hb I h λv u s2 x y H2 I2 rx ry q=>hr a b pins s2 U H2 x y v u Q I2 rx ry q (hs _ _))
def yW (K:W.Frag):R2:=λx y H Q=>∃p xs i v,x=.ref p/\y=.int i/\SqL K H p xs/\cF xs i=some v/\Q v H
def yX (K:W.Frag):R2:=λx y H Q=>∃p xs i v,x=.ref p/\y=.int i/\cS K H p xs/\cF xs i=some v/\Q v H
def yY:R2:=λx y H Q=>∃z i c,x=.str z/\y=.int i/\z.length<=ba/\cF z.cps.toList i=some c/\Q (.str ⟨#[c]⟩) H
theorem QK:mK X (yW X.K):=by
 intro value slice pins s U H x y v u Q I rx ry h hs;obtain⟨p,xs,i,z,rfl,rfl,hq,he,q⟩:=h;cases rx;obtain⟨t,rfl⟩:=ry;obtain⟨its,r,pl,hz⟩:=I.list hq;obtain⟨j,h1,h2,h3,h4,h5⟩:=Es he;obtain⟨w,ew,dJ⟩:=r.get h2;have hl:=r.length;have hn:=uV;have fin:EP X pins U Q w s:=⟨z,H,I,dJ,q⟩;by_cases h0:0<=i
 ·have hj:i.toNat=j:=by
   rw[u6 h0 h5]at h1;exact v5 h1
  exact item_listR pl.isList h0 (by omega) (by rw[hj];simpa using ew) fin hs
 ·have hj:(i+its.toArray.size).toNat=j:=by
   rw[uk (by omega) h4]at h1;rw[az,<-hl];exact v5 h1
  exact qf pl.isList.typeIs slot_list_getitem.lookup (wpAny_getItem_list_neg pl.isList (by omega) (by rw[az]<;>omega) (by omega) (by rw[hj];simpa using ew) ⟨rfl,fin⟩) hs
theorem QL:mK X (yX X.K):=by intro value slice pins s U H x y v u Q I rx ry h hs;obtain⟨p,xs,i,z,rfl,rfl,hq,he,q⟩:=h;cases rx;obtain⟨t,rfl⟩:=ry;obtain⟨its,r,pl,hz⟩:=I.tuple hq;obtain⟨j,h1,h2,h3,h4,h5⟩:=Es he;obtain⟨w,ew,dJ⟩:=r.get h2;have hn:=uV;exact qf pl.typeIs slot_tuple_getitem.lookup (getItem_tuple pl (by omega) (by omega) (by rw[az,<-r.length];exact h1) (by simpa using ew) ⟨rfl,⟨z,H,I,dJ,q⟩⟩) hs
theorem xS:mK X yY:=by
 intro value slice pins s U H x y v u Q I rx ry h hs;obtain⟨z,i,c,rfl,rfl,hz,he,q⟩:=h;obtain⟨t,rfl⟩:=rx;obtain⟨t',rfl⟩:=ry;obtain⟨j,h1,h2,h3,h4,h5⟩:=Es he;have hl:z.cps.toList.length=z.length:=by simp[Str.length]
 rw[hl]at h1 h4 h5;have hn:=uV;exact tail_any (qg s z t) slot_str_getitem.lookup (getItem_str (by rw[wg (by omega),wg (by omega),pe]) (by rw[h1];simpa using h2) ⟨.str ⟨#[c]⟩,H,I.tok _,⟨_,rfl⟩,q⟩) hs
def Ku (K:W.Frag):R2:=λx y H Q=>yW K x y H Q\/yX K x y H Q\/yY x y H Q
theorem QM:mK X (Ku X.K):=QK.or (QL.or xS)
theorem QN (its:List Value)(n j:Nat)(u:Value):Obj.mapSeq (·.setIfInBounds j u) {cls:=.type "list",data:=.seq its.toArray n}={cls:=.type "list",data:=.seq (its.set j u).toArray n}:=by simp[Obj.mapSeq]
theorem Inv.lst {pins:List (Addr×Obj)}{U:St}{H:Hp}{s:aw}{p:Addr}{xs:List V}(I:Inv X pins U H s)(h:H p=some (.lst xs)):
  ∃its n,Vals xs its/\s.heap.get? p=some {cls:=.type "list",data:=.seq its.toArray n}/\xs.length<=ba:=by
 obtain⟨z,its,n,r,e⟩:=I.hok p _ h;exact⟨its,n,r,e,z⟩
theorem Inv.lstUpd {its:List Value}(I:Inv X pins U H s)(h:H p=some (.lst xs))
  (ho:s.heap.get? p=some {cls:=.type "list",data:=.seq its.toArray n}) (hf:f {cls:=.type "list",data:=.seq its.toArray n}={cls:=.type "list",data:=.seq fJ.toArray n'}) (r:Vals ys fJ) (hz:ys.length<=ba) t:
  Inv X pins U (upd H p (.lst ys)) {s with heap:=s.heap.update p f,toks:=t}:=by
 have e:(s.heap.update p f).get? p=some {cls:=.type "list",data:=.seq fJ.toArray n'}:=by rw[d7 f ho (by rw[hf]<;>rfl),hf]
 refine I.write (by rw[h];trivial) (.inl rfl) (λb u hb q=>(gk _ _ (Ne.symm hb)).trans q) ⟨_,e⟩ ?_;exact⟨hz,fJ,n',r,e⟩
def Kv:V->V->V->Hp->(Hp->Prop)->Prop:=λo i v H Q=>∃p xs k j,o=.ref p/\i=.int k/\H p=some (.lst xs)/\lB xs.length k=some j/\Q (upd H p (.lst (xs.set j v)))
theorem set_list:Eb X Kv:=by
 rintro pins s U H o i v ov iv u Q I ro ri rv ⟨p,xs,k,j,rfl,rfl,hp,hj,q⟩
 cases ro;obtain⟨t,rfl⟩:=ri;obtain⟨its,n,r,ho,hz⟩:=I.lst hp;obtain⟨h1,h2,h3,h4⟩:=Kr hj;have hl:=r.length;have hn:=uV;have I':Inv X pins U (upd H p (.lst (xs.set j v))) {s with heap:=s.heap.update p (Obj.mapSeq (·.setIfInBounds j u))}:=I.lstUpd hp ho (QN its n j u) (r.set rv j) (by rw[dw];exact hz) s.toks;by_cases h0:0<=k
 ·have hk:k.toNat=j:=by
   rw[u6 h0 h4]at h1;exact v5 h1
  exact W.ki_setAt ho h0 (by omega) (by rw[az,<-hl];exact h4) (by rw[hk];exact⟨_,I',q⟩)
 ·have hk:(k+its.toArray.size).toNat=j:=by
   rw[uk (by omega) h3]at h1;rw[az,<-hl];exact v5 h1
  exact W.ki_setBack ho (by omega) (by rw[az,<-hl];exact h3) (by omega) (by rw[hk];exact⟨_,I',q⟩)
theorem QO (lo hi:Option Int)(n:Nat):(l8 lo hi none n).1=((HT.aU n 0 lo:Nat):Int)/\(l8 lo hi none n).2.1=((HT.aU n n hi:Nat):Int)/\(l8 lo hi none n).2.2=1:=by
 refine⟨?_,?_,rfl⟩
 ·cases lo with
  |none=>simp[l8,HT.aU]
  |some i=>
   simp only[l8,HT.aU,Option.getD_none,show 1>0 by decide,if_true];by_cases h:i<0
   ·simp only[h,if_true]<;>omega
   ·simp only[h,if_false]<;>omega
 ·cases hi with
  |none=>simp[l8,HT.aU]
  |some i=>
   simp only[l8,HT.aU,Option.getD_none,show 1>0 by decide,if_true];by_cases h:i<0
   ·simp only[h,if_true]<;>omega
   ·simp only[h,if_false]<;>omega
theorem QP (its:List Value)(lo hi:Option Int):slicePick its.toArray lo hi none=((its.drop (HT.aU its.length 0 lo)).take (HT.aU its.length its.length hi-HT.aU its.length 0 lo)).toArray:=by obtain⟨h1,h2,h3⟩:=QO lo hi its.toArray.size;unfold slicePick;rw[h1,h2,h3];simp only[qy,pick_run,az]<;>rfl
def yZ (K:W.Frag):V->Option Int->Option Int->Hp->VK->Prop:=λx lo hi H Q=>∃a xs,x=.ref a/\SqL K H a xs/\∀p,H p=none->Q (.ref p) (upd H p (.lst (qM xs lo hi)))
theorem QQ:pO X (yZ X.K):=by
 rintro pins s U H x v vl vu lo hi sl Q I rx hs pl pu ⟨a,xs,rfl,hx,q⟩
 cases rx;obtain⟨its,r,ht,hz⟩:=I.list hx;have hlen:=r.length;refine⟨"list",_,slot_list_getitem.lookup,ht.isList.typeIs,?_⟩;refine wpAny_getItem_list_slice ht.isList hs pl pu .none (by simp) ?_ (by rw[az]<;>omega);rw[QP,<-hlen];refine⟨.ref s.heap.objs.size,_,I.laid (λb ob q=>af _ q) (ag _) ?_,rfl,q _ (I.hok.fresh (ag _))⟩;exact⟨b8 (Km xs lo hi) hz,_,0,(r.drop (HT.aU xs.length 0 lo)).take (HT.aU xs.length xs.length hi-HT.aU xs.length 0 lo),au _ rfl⟩
def tF:V->Bool
 |.non=>true
 |.bl _=>true
 |.int _=>true
 |.str _=>true
 |_=>false
def tG:V->V->Bool
 |.non,.non=>true
 |.bl a,.bl b=>a==b
 |.bl a,.int b=>(if a then 1 else 0)==b
 |.int a,.bl b=>a==(if b then 1 else 0)
 |.int a,.int b=>a==b
 |.str a,.str b=>a==b
 |_,_=>false
theorem QR (ry:RelV y u)(rx:RelV x v)(fy:tF y=true)(fx:tF x=true):SeqAt.EqAt A s u v (tG y x):=by
 cases y with
 |non=>
  cases ry;cases x with
  |non=>cases rx;exact SeqAt.EqAt.same _
  |bl b=>cases rx;exact SeqAt.EqAt.none_bool b
  |int b=>obtain⟨t,rfl⟩:=rx;exact SeqAt.EqAt.none_int b t
  |str b=>obtain⟨t,rfl⟩:=rx;exact SeqAt.EqAt.none_str b t
  |_=>exact absurd fx dz
 |bl a=>
  cases ry;cases x with
  |non=>cases rx;exact SeqAt.EqAt.bool_none a
  |bl b=>cases rx;exact SeqAt.EqAt.bool_bool a b
  |int b=>obtain⟨t,rfl⟩:=rx;exact SeqAt.EqAt.bool_int a b t
  |str b=>obtain⟨t,rfl⟩:=rx;exact SeqAt.EqAt.bool_str a b t
  |_=>exact absurd fx dz
 |int a=>
  obtain⟨t',rfl⟩:=ry;cases x with
  |non=>cases rx;exact SeqAt.EqAt.int_none a t'
  |bl b=>cases rx;exact SeqAt.EqAt.int_bool a t' b
  |int b=>obtain⟨t,rfl⟩:=rx;exact SeqAt.EqAt.int_int a t' b t
  |str b=>obtain⟨t,rfl⟩:=rx;exact SeqAt.EqAt.int_str a t' b t
  |_=>exact absurd fx dz
 |str a=>
  obtain⟨t',rfl⟩:=ry;cases x with
  |non=>cases rx;exact SeqAt.EqAt.str_none a t'
  |bl b=>cases rx;exact SeqAt.EqAt.str_bool a t' b
  |int b=>obtain⟨t,rfl⟩:=rx;exact SeqAt.EqAt.str_int a t' b t
  |str b=>obtain⟨t,rfl⟩:=rx;exact SeqAt.EqAt.str_str a t' b t
  |_=>exact absurd fx dz
 |_=>exact absurd fy dz
def jI (x:V)(u:Value):Bool:=match u with
 |.none=>tG .non x
 |.bool b=>tG (.bl b) x
 |.int i _=>tG (.int i) x
 |.str z _=>tG (.str z) x
 |_=>false
theorem Kw (r:RelV y u)(f:tF y=true):jI x u=tG y x:=by
 cases y with
 |non=>cases r;rfl
 |bl b=>cases r;rfl
 |int i=>obtain⟨t,rfl⟩:=r;rfl
 |str z=>obtain⟨t,rfl⟩:=r;rfl
 |_=>exact absurd f dz
theorem y4:∀{xs:List V} {us:List Value},Vals xs us->xs.all tF=true->us.any (jI x)=xs.any λy=>tG y x
 |_,_,.nil,_=>rfl
 |y::xs,u::us,.cons r t,f=>by rw[cx,bh]at f;rw[lp,lp,Kw r f.1,y4 t f.2]
theorem y6 (rx:RelV x v)(fx:tF x=true):∀{xs:List V} {us:List Value},Vals xs us->xs.all tF=true->∀u∈us,SeqAt.EqAt A s u v (jI x u)
 |_,_,.nil,_=>λu hu=>by cases hu
 |y::xs,u::us,.cons r t,f=>λu' hu=>by
  rw[cx,bh]at f;rcases ao.mp hu with rfl|hu
  ·rw[Kw r f.1];exact QR r rx f.1 fx
  ·exact y6 rx fx t f.2 u' hu
def Ky (x:V)(xs:List V):Bool:=xs.any λy=>tG y x
def Et (K:W.Frag)(neg:Bool):R2:=λx y H Q=>∃p xs,y=.ref p/\(SqL K H p xs\/cS K H p xs)/\tF x=true/\xs.all tF=true/\Q (.bl (if neg then !Ky x xs else Ky x xs)) H
theorem QS:OpR X (cv .In) (Et X.K false):=by
 rintro pins s U H x y v u Q I rx ry ⟨p,xs,rfl,hq,fx,fs,q⟩
 cases ry;rcases hq with hq|hq
 ·obtain⟨its,r,pl,hz⟩:=I.list hq;refine SeqAt.in_listAt (jI x) pl.isList (λw hw=>y6 rx fx r fs w (by simpa using hw)) ⟨.bl _,H,I,rfl,?_⟩;rw[show its.toArray.any (jI x)=its.any (jI x) by simp,y4 r fs];exact q
 ·obtain⟨its,r,pl,hz⟩:=I.tuple hq;refine SeqAt.in_tupleAt (jI x) pl (λw hw=>y6 rx fx r fs w (by simpa using hw)) ⟨.bl _,H,I,rfl,?_⟩;rw[show its.toArray.any (jI x)=its.any (jI x) by simp,y4 r fs];exact q
theorem QT:OpR X (cv .NotIn) (Et X.K true):=by
 rintro pins s U H x y v u Q I rx ry ⟨p,xs,rfl,hq,fx,fs,q⟩
 cases ry;rcases hq with hq|hq
 ·obtain⟨its,r,pl,hz⟩:=I.list hq;refine SeqAt.notIn_listAt (jI x) pl.isList (λw hw=>y6 rx fx r fs w (by simpa using hw)) ⟨.bl _,H,I,rfl,?_⟩;rw[show its.toArray.any (jI x)=its.any (jI x) by simp,y4 r fs];exact q
 ·obtain⟨its,r,pl,hz⟩:=I.tuple hq;refine SeqAt.notIn_tupleAt (jI x) pl (λw hw=>y6 rx fx r fs w (by simpa using hw)) ⟨.bl _,H,I,rfl,?_⟩;rw[show its.toArray.any (jI x)=its.any (jI x) by simp,y4 r fs];exact q
theorem QU:OpR X (cv .NotIn) (λx y H Q=>∃i j,x=.str i/\y=.str j/\Q (.bl (!(!(gc j i 0 j.length 1).isEmpty))) H):=by
 rintro pins s U H x y v u Q I rx ry ⟨i,j,rfl,rfl,q⟩
 obtain⟨t,rfl⟩:=rx;obtain⟨t',rfl⟩:=ry;exact notIn_str ⟨.bl _,H,I,rfl,q⟩
theorem QV:CallR X (.builtin "len") (λxs H Q=>∃p ys,xs=[.ref p]/\(SqL X.K H p ys\/cS X.K H p ys)/\Q (.int ys.length) H):=by
 rintro pins s U H xs us Q I r ⟨p,ys,rfl,hq,q⟩
 obtain⟨u,rfl,rfl⟩:=vals1 r;have hn:=uV;rcases hq with hq|hq
 ·obtain⟨its,r',pl,hz⟩:=I.list hq;have hlen:=r'.length;exact Calls.call_len_list pl.isList (by simp<;>omega) ⟨.int ys.length,H,I.tok _,⟨s.toks+1,by rw[az,hlen]⟩,q⟩
 ·obtain⟨its,r',pl,hz⟩:=I.tuple hq;have hlen:=r'.length;exact len_tuple pl (by simp<;>omega) ⟨.int ys.length,H,I.tok _,⟨s.toks+1,by rw[az,hlen]⟩,q⟩
theorem QW:CallR X (.builtin "len") (λxs H Q=>∃z,xs=[.str z]/\z.length<=ba/\Q (.int z.length) H):=by
 rintro pins s U H xs us Q I r ⟨z,rfl,hz,q⟩
 obtain⟨u,rfl,t,rfl⟩:=vals1 r;have hn:=uV;exact len_str (by omega) ⟨.int z.length,H,I.tok _,⟨_,rfl⟩,q⟩
theorem CallR.or (h:CallR X f r)(h':CallR X f r'):CallR X f (λxs H Q=>r xs H Q\/r' xs H Q):=by
 intro pins s U H xs us Q I rs q;rcases q with q|q
 ·exact h pins s U H xs us Q I rs q
 ·exact h' pins s U H xs us Q I rs q
theorem QX:CallR X (.type "list") (λxs H Q=>∃p ys,xs=[.ref p]/\(SqL X.K H p ys\/cS X.K H p ys)/\∀l,H l=none->Q (.ref l) (upd H l (.lst ys))):=by
 rintro pins s U H xs us Q I r ⟨p,ys,rfl,hq,q⟩
 obtain⟨u,rfl,rfl⟩:=vals1 r
 have fin:∀its,Vals ys its->ys.length<=ba->∀h' c',(∀b o',s.heap.get? b=some o'->h'.get? b=some o')->
   h'.get? s.heap.objs.size=some {cls:=.type "list",dict:=none,data:=.seq its.toArray c',slots:=#[]}->EP X pins U Q (.ref s.heap.objs.size) {s with heap:=h'}:=λits r' hz h' c' kp e=>
  ⟨.ref s.heap.objs.size,_,I.laid kp (ag _) (show z1j X.prog X.w _ h' _ (.lst ys)from⟨hz,its,c',r',e⟩),rfl,q _ (I.hok.fresh (ag _))⟩
 rcases hq with hq|hq
 ·obtain⟨its,r',pl,hz⟩:=I.list hq;have hlen:=r'.length;obtain⟨o,ho,hc,n,hd⟩:=pl.isList;exact call_list_seq p (.inl rfl) ho hc hd (λh' c' kp e=>fin its r' hz h' c' kp e) (by simp<;>omega)
 ·obtain⟨its,r',pl,hz⟩:=I.tuple hq;have hlen:=r'.length;obtain⟨o,ho,hc,n,hd⟩:=pl;exact call_list_seq p (.inr rfl) ho hc hd (λh' c' kp e=>fin its r' hz h' c' kp e) (by simp<;>omega)
theorem QY:CallR X (.type "tuple") (λxs H Q=>∃p ys,xs=[.ref p]/\((SqL X.K H p ys/\∀l,H l=none->Q (.ref l) (upd H l (.tup ys)))\/(cS X.K H p ys/\Q (.ref p) H))):=by
 rintro pins s U H xs us Q I r ⟨p,ys,rfl,h⟩
 obtain⟨u,rfl,rfl⟩:=vals1 r;rcases h with⟨hq,q⟩|⟨hq,q⟩
 ·obtain⟨its,r',pl,hz⟩:=I.list hq;have hlen:=r'.length;refine call_tuple_list pl.isList (λh' kp=>?_) (by simp<;>omega);have I1:Inv X pins U H {s with heap:=h'}:=I.kept kp;have I2:Inv X pins U (upd H h'.objs.size (.tup ys)) {s with heap:=h'.push {cls:=.type "tuple",data:=.seq its.toArray}}:=I1.laid (λb o e=>af _ e) (ag _) (⟨hz,its,r',iA.new _ _⟩);exact⟨.ref h'.objs.size,_,I2,rfl,q _ (I1.hok.fresh (ag _))⟩
 ·obtain⟨its,r',pl,hz⟩:=I.tuple hq;exact call_tuple_same pl ⟨.ref p,H,I,rfl,q⟩
def tyV (K:W.Frag)(T:String)(x:V)(H:Hp):Prop:=match x with
 |.str _=>T="str"
 |.int _=>T="int"
 |.ref p=>(T="list"/\∃xs,SqL K H p xs)\/(T="tuple"/\∃o,K.lookup p=some o/\o.cls=.type "tuple"/\o.dict=none)\/(T="dict"/\((∃kvs,H p=some (.dK kvs))\/∃kvs,H p=some (.dT kvs)))\/(T="set"/\∃S n,H p=some (.set S n))
 |_=>False
theorem zgw (I:Inv X pins U H s)(r:RelV x v)(ty:tyV X.K T x H):
  s.TypeIs v T/\∀a,v=.ref a->∃ob,s.heap.get? a=some ob/\ob.dict=none:=by
 cases x with
 |str z=>obtain⟨t,rfl⟩:=r;cases ty;exact⟨qg s z t,λ_ e=>nomatch e⟩
 |int i=>obtain⟨t,rfl⟩:=r;cases ty;exact⟨typeIs_int s i t,λ_ e=>nomatch e⟩
 |ref p=>
  cases r;rcases ty with⟨rfl,xs,hq⟩|⟨rfl,o,hk,hc,hd⟩|⟨rfl,hk⟩|⟨rfl,S,n,hk⟩
  ·obtain⟨its,_,pl,_⟩:=I.list hq;refine⟨pl.isList.typeIs,λa e=>?_⟩;cases e;obtain⟨o,n,e,c,hd,_⟩:=pl;exact⟨o,e,hd⟩
  ·refine⟨⟨o,I.dB p o hk,hc⟩,λa e=>?_⟩;cases e;exact⟨o,I.dB _ o hk,hd⟩
  ·have z:∃o,s.heap.get? p=some o/\o.ExactDict:=by
    rcases hk with⟨kvs,hk⟩|⟨kvs,hk⟩
    ·obtain⟨_,_,_,_,o,_,_,e,ex,_⟩:=I.hok p _ hk;exact⟨o,e,ex⟩
    ·obtain⟨_,_,_,_,o,_,_,e,ex,_⟩:=I.hok p _ hk;exact⟨o,e,ex⟩
   obtain⟨o,e,ex⟩:=z;refine⟨⟨o,e,ex.1⟩,λa e2=>?_⟩;cases e2;exact⟨o,e,ex.2.1⟩
  ·obtain⟨o,_,_,_,e,ex,_⟩:=I.hok p _ hk;refine⟨⟨o,e,ex.1⟩,λa e2=>?_⟩;cases e2;exact⟨o,e,ex.2.1⟩
 |_=>exact False.elim ty
def vC (K:W.Frag)(T:String)(r:V->List V->Hp->VK->Prop)(to:TE):TE:=λU H Q=>to U H λx H1=>tyV K T x H1/\r x [] H1 Q
def y7 (K:W.Frag)(T:String)(r:V->List V->Hp->VK->Prop)(to:TE)(t:TA):TE:=λU H Q=>to U H λx H1=>tyV K T x H1/\t U H1 λxs H2=>r x xs H2 Q
variable {o e:Expr}{es:List Expr}{to:TE}{t:TA}{name:Str}{apos cpos:Pos}{T id:String}{r:V->List V->Hp->VK->Prop}
theorem zhl (pa:vm T)(slot:Slot T name id)(hty:vx (.builtin id)=pure (.type "method_descriptor"))(hm:MtR X id r)(ho:PE X o to)
  (nR:ko o name X.env (eval o X.env)=eval o X.env:=by rfl) (hline:(apos.endLine==cpos.line)=true:=by rfl):PE X (.Call (.Attribute o name apos) [] [] cpos) (vC X.K T r to):=by
 intro pins s U H Q I h;refine wpAny_Call_method0_late nR hline (aL (ho pins s U H _ I h) λv s1 ⟨x,H1,I1,r1,ty,q1⟩=>?_);obtain⟨h1,h2⟩:=zgw I1 r1 ty;exact⟨T,id,pa,slot,hty,h1,h2,mi rfl (PySem.evalArgs_none (hm pins s1 U H1 x [] v [] Q I1 r1 .nil q1))⟩
theorem zdp (pa:vm T)(slot:Slot T name id)(hty:vx (.builtin id)=pure (.type "method_descriptor"))(hm:MtR X id r)(ho:PE X o to)(ha:PA X (e::es) t)
  (nR:ko o name X.env (eval o X.env)=eval o X.env:=by rfl)
  (Eu:((ku cpos (de (e::es) X.env)).all (λx=> !x.1)&&(ui cpos (pb [] X.env)).all (λx=>x.1.isSome)
   &&decide ((e::es).length+([]:List qd).length+(if([]:List qd).isEmpty then 0 else 1)<30))=true:=by rfl)
  (hline:(apos.endLine==cpos.line)=true:=by rfl) (hs:de (e::es) X.env=(false,eval e X.env)::de es X.env:=by rfl) (vD:(ku cpos (de es X.env)).any (·.1)=false:=by rfl):
  PE X (.Call (.Attribute o name apos) (e::es) [] cpos) (y7 X.K T r to t):=by
 intro pins s U H Q I h;refine wpAny_Call_method_late nR Eu hline rfl (aL (ho pins s U H _ I h) λv s1 ⟨x,H1,I1,r1,ty,q1⟩=>?_);obtain⟨h1,h2⟩:=zgw I1 r1 ty;refine⟨T,id,pa,slot,hty,h1,h2,?_⟩;have hA:=ha cpos pins s1 U H1 _ I1 q1;rw[hs]at hA ⊢;refine mi (by show(false||(ku cpos (de es X.env)).any (·.1))=false;rw[vD]<;>rfl) (nj ?_);exact aL hA λus s2 ⟨vs,H2,I2,r2,q2⟩=>hm pins s2 U H2 x vs v us Q I2 r1 r2 q2
end
def QZ (X:Cx)(id:String)(r:V->List V->Hp->VK->Prop):Prop:=∀(pins:List (Addr×Obj)) (s:aw) (U:St) (H:Hp) (x:V) (xs:List V) (v:Value) (us:List Value) (Q:VK),Inv X pins U H s->RelV x v->Vals xs us->r x xs H Q->wpAny (model X.prog X.w) X.A (call (.builtin id) (v::us)) (EP X pins U Q) X.xe s
theorem Vals.one (h:Vals [x] us):∃u,us=[u]/\RelV x u:=by
 cases h with
 |cons r h=>cases h;exact⟨_,rfl,r⟩
theorem Inv.lset {its:List Value}(I:Inv X pins U H s)(hH:H l=some (.lst xs))
  (e:s.heap.get? l=some {cls:=.type "list",data:=.seq its.toArray n}) (hf:f its.toArray=fJ.toArray) (hv:Vals ys fJ) (hz:ys.length<=ba):
  Inv X pins U (upd H l (.lst ys)) {s with heap:=s.heap.update l (Obj.mapSeq f),toks:=t'}:=by
 have q:=PySem.IsL.update e f;rw[hf]at q;refine I.write (by rw[hH];exact trivial) (.inl rfl) (λb' u hb hu=>(gk s.heap (Obj.mapSeq f) (Ne.symm hb)).trans hu) ⟨_,q⟩ ?_;exact⟨hz,fJ,_,hv,q⟩
theorem Inv.lnew (I:Inv X pins U H s)(hv:Vals ys its)(hz:ys.length<=ba):
  Inv X pins U (upd H s.heap.objs.size (.lst ys)) {s with heap:=s.heap.push {cls:=.type "list",data:=.seq its.toArray},toks:=t'}:=
 I.laid (λ_ _ q=>af _ q) (ag _) ⟨hz,its,0,hv,au _ rfl⟩
theorem Inv.fresh (I:Inv X pins U H s):H s.heap.objs.size=none:=I.hok.fresh (ag _)
theorem Inv.nT (I:Inv X pins U H s)(hH:H l=some (.lst xs)):xs.length<=ba/\∃its n,Vals xs its/\xs.length=its.length/\s.heap.get? l=some {cls:=.type "list",data:=.seq its.toArray n}:=by obtain⟨z,its,n,r,e⟩:=I.hok l _ hH;exact⟨z,its,n,r,r.length,e⟩
def B8:V->List V->Hp->VK->Prop:=λx vs H Q=>∃l xs y,x=.ref l/\vs=[y]/\H l=some (.lst xs)/\xs.length<ba/\Q .non (upd H l (.lst (xs++[y])))
theorem Ew:QZ X "list.append" B8:=by
 rintro pins s U H x vs v us Q I rx rv ⟨l,xs,y,rfl,rfl,hH,hz,q⟩
 cases rx;obtain⟨u,rfl,ru⟩:=rv.one;obtain⟨z,its,n,r,hl,e⟩:=I.nT hH;refine m7 F.slot_list_append ⟨_,e,rfl⟩ F.entry_list_append (F.args_list_append_2 _ _) (PySem.list_append l its.toArray n u (by rw[az];omega)) ⟨e,?_⟩;refine⟨.non,_,I.lset hH e (by simp) (r.append (.cons ru .nil)) ?_,rfl,q⟩;rw[ax,qu];omega
def y8:R2:=λx y H Q=>∃l b xs zs,x=.ref l/\y=.ref b/\H l=some (.lst xs)/\H b=some (.lst zs)/\xs.length+zs.length<=ba/\∀p,H p=none->Q (.ref p) (upd H p (.lst (xs++zs)))
theorem Q0:OpR X (i7 .Add) y8:=by
 rintro pins s U H x y v u Q I rx ry ⟨l,b,xs,zs,rfl,rfl,hH,hB,hz,q⟩
 cases rx;cases ry;obtain⟨z,its,n,r,hl,e⟩:=I.nT hH;obtain⟨z2,dG,n2,r2,mL,e2⟩:=I.nT hB;refine PySem.P.add_list e e2 ?_ (by rw[az,az];omega);have ea:its.toArray++dG.toArray=(its++dG).toArray:=by simp
 rw[ea];exact⟨.ref _,_,I.lnew (r.append r2) (by rw[ax];omega),rfl,q _ I.fresh⟩
end L2
namespace Att
open PySem PySem.W PySem.Calls PyProof.Rows
theorem Q3:∀ns vs,WellAll P h vs (ns.map WData.int)->vh vs ns:=by
 intro ns
 induction ns with
 |nil=>intro vs w;cases w;exact .nil
 |cons n ns ih=>
  intro vs w;cases w with
  |cons a b=>cases a;exact .cons _ _ (ih _ b)
theorem zay {l:OpenLaw}(hn:l.most=some n)
  (lC:l.row.toRowW.claim.pre args=true) (tH:WellAll P h vals args):
  ∃a vs ns,vals=[Value.ref a]/\args=[WData.list (ns.map WData.int)]/\h.get? a=some {cls:=.type "list",data:=.seq vs.toArray}/\vh vs ns/\ns.length<=n:=by
 have hc:l.pre.holds [] {args:=args}=true:=(pre_splitW lC).2;obtain⟨d,r,rfl,h1,h2⟩:=hasAllW_cons ((pre_splitW lC).1);obtain rfl:=hasAllW_nil h2;obtain⟨xs,rfl,h3⟩:=hasW_list h1;obtain⟨ns,rfl⟩:=items_int h3
 have hlen:ns.length<=n:=by
  have h4:(WTm.not (.lt (.lit (.int n)) (.len (.arg 0)))).holds [] {args:=[.list (ns.map .int)]}=true:=by have h4:=(holds_andW hc).1;rw[hn]at h4;exact h4
  have h5:=condW_of h4 (w_not (w_lt w_lit (w_len_list (w_arg rfl))));refine Nat.le_of_not_lt λq=>?_
  first
   |(rw[we q']at h5;exact absurd h5 (by decide))
   |(simp at h5;omega)
 cases tH with
 |cons w1 w2=>
  cases w2;cases w1 with
  |list ho fM=>exact⟨_,_,ns,rfl,rfl,ho,Q3 ns _ fM,hlen⟩
theorem Q4 (l:OpenLaw)(args:List WData):l.row.toRowW.claim.post args (.bool true) args=true:=
 postW_of
  (show WShape.has [] (.bool true) .bool=true by first|rfl|decide|simp[WShape.has,WShape.arms,WShape.armsAll])
  (show(WTm.eq .res (.lit (.bool true))).value [] {args:=args,res:=some (.bool true),after:=args}=some (.bool (true==true))from w_eq_bool (w_res rfl) w_lit) rfl
theorem attach_call {l:OpenLaw}
  (hn:l.most=some n) (hdf:d.params.defaults=[])
  (call:∀w s₀ s₁ mg mb fa o pm cd doc a vs ns,
   Ground q loose [] XP w s₀ mg mb s₁.heap->YP w s₁.heap->
   s₁.heap.get? fa=some o->o.data=.func (docDef d.name d.params d.body d.scope pm cd doc)->s₁.heap.CodeRec cd d.name->mg d.name=some (.ref fa)->
   s₁.heap.get? a=some {cls:=.type "list",data:=.seq vs.toArray}->vh vs ns->ns.length<=n->s₁.gens=#[]->
   lf (model l.prog w) um (.call (.ref fa) ⟨[.ref a],[]⟩) (λr s'=>r=.ok (.ret (.bool true))/\OldK s₁.heap s'.heap/\s'.os=s₁.os/\og s'.gens) s₁):
  WalkO q loose XP YP l.row.toRowW d [] (λf vs=>PySem.call f vs):=by
 intro w s₀ s₁ mg mb G aB fa o pm cd doc dV kV ho hd hcd hD y9 hg args vals as lC Q5 eB tH ZO;obtain rfl:dV=.none:=Dflts.none hD hdf;obtain rfl:kV=.none:=Dflts.noKw hD;obtain⟨a,vs,ns,rfl,rfl,jJ,hints,hlen⟩:=zay hn lC tH;refine enter_call (jq (call w s₀ s₁ mg mb fa o pm cd doc a vs ns G aB ho (fd_plain hd) hcd y9 jJ hints hlen hg) λr s' hq=>?_);obtain⟨rfl,h2,h3,h4⟩:=hq;exact⟨.inl ⟨.bool true,.bool true,[],rfl,λ_=>rfl,.bool true,Q4 l _,λ_=>⟨List.Pairwise.nil,λ_ hm=>(nomatch hm)⟩⟩,h2,h3,h4⟩
end Att
namespace L2
open PySem PySem.Spec PyProof.Rows
theorem Kz:∀{vs:List Value} {ns:List Int},vh vs ns->Vals (ns.map V.int) vs
 |_,_,.nil=>.nil
 |_,_,.cons n t h=>.cons ⟨t,rfl⟩ (Kz h)
def Only (H:Hp):Prop:=∀b,H b=none\/∃o xs,H b=some (.gH o (.lst xs))
theorem zgd {K:W.Frag}
  (KX:K.In s₁.heap) (hns:s₁.heap.Ns bj mg) (hb:s₁.heap.Ns vi mb) (Q6:∀x:Str,x≠"__name__"->mb x=db x) (Ex:s₁.heap.NoLimit) (hg:s₁.gens=#[])
  (ha:s₁.heap.get? a=some {cls:=.type "list",data:=.seq vs.toArray}) (hi:vh vs ns) (hl:ns.length<=ba) (hr:Room k um)
  (F:∀base,K.In base->base.Ns bj mg->FnOk P w K mg base CX k fa fd [x] sp) (zb:∀s u,ue s fd ⟨[u],[]⟩ [(x,u)])
  (eU:∀H,Only H->SqL K H a (ns.map V.int)->sp [.ref a] H (λv _=>v=.bl true) λ_ _ _=>False)
  (Ey:∀H e s',CX [] H s₁ (λ_ _ _=>False) e s'->False):
  lf (model P w) um (.call (.ref fa) ⟨[.ref a],[]⟩) (λr s'=>r=.ok (.ret (.bool true))/\OldK s₁.heap s'.heap/\s'.os=s₁.os/\og s'.gens) s₁:=by
 have rv:=Kz hi
 have core:∀H,Only H->SqL K H a (ns.map V.int)->HOk P w H s₁.heap->(∀b,H b≠none->b=a)->(H a≠none->K.lookup a=none)->
   lf (model P w) um (.call (.ref fa) ⟨[.ref a],[]⟩) (λr s'=>r=.ok (.ret (.bool true))/\OldK s₁.heap s'.heap/\s'.os=s₁.os/\og s'.gens) s₁:=by
  intro H hO hS hok hA hK;have lD:∀{b:Addr} {o:Obj},s₁.heap.get? b=some o->H b=none->(kU s₁.heap H).get? b=some o:=λe n=>Pp e n
  have yR:∀{b:Addr} {o:Obj} {es:Array DictEntry} {ep:Nat},s₁.heap.get? b=some o->o.data=.dict es ep->H b=none:=λ{b o es ep} e d=>by
   cases q:H b with
   |none=>rfl
   |some u=>have e':=hA b (by rw[q];simp);subst e';rw[ha]at e;cases e;cases d
  have B9:∀{b:Addr} {m:Str->Option Value},s₁.heap.Ns b m->(kU s₁.heap H).Ns b m:=λ{b m} ⟨o,es,ep,e,d,r⟩=>⟨o,es,ep,lD e (yR e d),d,r⟩
  have KA:=λb o e=>lD (KX b o e) (by
   cases q:H b with
   |none=>rfl
   |some u=>have e':=hA b (by rw[q];simp);subst e';rw[hK (by rw[q];simp)]at e;cases e)
  refine jq ((F _ KA (B9 hns)).run um [] s₁ H ⟨[.ref a],[]⟩ [.ref a] [.ref a] _ _ hr ⟨rfl,⟨KA,B9 hns,⟨mb,B9 hb,Q6⟩,let⟨mc,h1,h2⟩:=Ex;⟨mc,B9 h1,h2⟩⟩,λb o e=>Pq e,uc (Po _ _),trivial,λb hb=>absurd (show b∈([]:List Addr)from hb) (by simp),hok,.of_eq hg⟩ (zb s₁ (.ref a)) (.cons rfl .nil) (eU H hO hS)) λr s' h=>?_;cases r with
  |error e=>exact(Ey H e s' h).elim
  |ok fl=>
   cases fl with
   |next=>exact False.elim h
   |brk=>exact False.elim h
   |cont=>exact False.elim h
   |ret u=>
    obtain⟨v,H',os,bare,un,Ez,r',rfl⟩:=h;obtain rfl:u=Value.bool true:=r';refine⟨rfl,OldK.of_keep λb o e=>?_,os,bare⟩;cases q:H b with
    |none=>exact un.keep b o e q (by intro z;exact absurd (show b∈([]:List Addr)from z) (by simp)) (by simp)
    |some u=>
     rcases hO b with z|⟨ob,xs,z⟩
     ·rw[q]at z;cases z
     ·have z2:=un.cK b ob _ z;obtain⟨e1,_⟩:=hok b _ z;obtain⟨e2,_⟩:=Ez b _ z2;rw[e]at e1;cases e1;exact e2
 cases hk:K.lookup a with
 |some o=>have e:=KX a o hk;rw[ha]at e;cases e;refine core (λ_=>none) (λ_=>.inl rfl) (.inr ⟨_,vs.toArray,_,hk,rfl,rfl,rfl,by rw[az,hi.length];exact hl,by simpa using rv⟩) (λb u z=>by have z':none=some u:=z;cases z') (λb z=>absurd rfl z) λz=>absurd rfl z
 |none=>
  refine core (λb=>if b=a then some (.gH {cls:=.type "list",data:=.seq vs.toArray} (.lst (ns.map V.int)))else none) (λb=>?_) (.inl (.inr ⟨{cls:=.type "list",data:=.seq vs.toArray},vy rfl⟩)) (λb u z=>?_) (λb z=>?_) λ_=>hk
  ·by_cases hb:b=a
   ·exact .inr ⟨_,_,vy hb⟩
   ·exact .inl (vz hb)
  ·by_cases hb:b=a
   ·have z':=(vy hb).symm.trans z;cases z';subst hb;exact⟨ha,by rw[aq];exact hl,vs,_,rv,ha⟩
   ·have z':=(vz hb).symm.trans z;cases z'
  ·by_cases hb:b=a
   ·exact hb
   ·exact absurd (vz hb) z
theorem walk_of {l:W.OpenLaw}{K:gu->W.Frag}{CX:World->CXT}{sp:World->Sp}
  (hn:l.most=some n) (hn2:n<=ba) (hdf:d.params.defaults=[]) (hr:Room k um)
  (hY:∀w h,YP w h->(K w.params).In h)
  (F:∀w mg fa h,(K w.params).In h->h.Ns bj mg->mg d.name=some (.ref fa)->∃fd,(∀s u,ue s fd ⟨[u],[]⟩ [(x,u)])/\∀base,(K w.params).In base->base.Ns bj mg->FnOk l.prog w (K w.params) mg base (CX w) k fa fd [x] (sp w))
  (eU:∀w H a (ns:List Int),ns.length<=n->Only H->SqL (K w.params) H a (ns.map V.int)->sp w [.ref a] H (λv _=>v=.bl true) λ_ _ _=>False)
  (Ey:∀w H s e s',CX w [] H s (λ_ _ _=>False) e s'->False):
  W.WalkO q loose XP YP l.row.toRowW d [] (λf vs=>PySem.call f vs):=by
 refine Att.attach_call hn hdf λw s₀ s₁ mg mb fa o pm cd doc a vs ns G aB ho hd hcd y9 jJ hints hlen hg=>?_;have KX:=hY w _ aB;obtain⟨fd,hb,hF⟩:=F w mg fa _ KX G.T.g y9;exact zgd KX G.T.g G.T.b G.T.builtins G.T.nolimit hg jJ hints (b8 hlen hn2) hr hF hb (λH hO hS=>eU w H a ns hlen hO hS) λH e s'=>Ey w H s₁ e s'
def lE (s:Stmt):Arguments:=match s with
 |.FunctionDef _ a _ _ _ _ _ _ _ _=>a
 |_=>{posonlyargs:=[],args:=[],vararg:=none,kwonlyargs:=[],kw_defaults:=[],kwarg:=none,defaults:=[]}
def z0g (s:Stmt):List Stmt:=match s with
 |.FunctionDef _ _ b _ _ _ _ _ _ _=>b
 |_=>[]
def z07 (s:Stmt):Scope:=match s with
 |.FunctionDef _ _ _ _ _ _ sc _ _ _=>sc
 |_=>{kind:=.function,names:=[],isGenerator:=false,isCoroutine:=false}
abbrev pP:CXT:=λ_ _ _ _ _ _=>False
abbrev E0:XK:=λ_ _ _=>False
theorem Q7:z2d pP X E0:=λ_ _ _ _ _ _ _ h=>h.elim
structure Fun (K:W.Frag)(x qual:Str)(st:Stmt)(f:Addr)(fd:i8):Prop where
 ex:∃(oc:Value) (od:Option Addr) (kV doc pm:Value) (an:Option Addr) (dF ct:Value) (pN:Array (Option Value)),fd=W.fnOf x qual (lE st) (z0g st) (z07 st) .none kV doc pm an dF ct/\K.lookup f=some ⟨oc,od,.func fd,pN⟩/\W.codeIn K dF qual=true
 kp:W.keepIn K (.ref f)=true
section
variable {P:cf}{w:World}{K:W.Frag}{mg:Str->Option Value}{base:Heap}
theorem Fun.ok {st:Stmt}(F:Fun K x qual st f fd)(S:FnScope N ps (z07 st))(len:∀vs H Q E,sp vs H Q E->vs.length=ps.length)
  (nO:∀dF A outer s H vs Q E,Room k (A.deeper (qx qual (z07 st) s.heap.objs.size f dF))->sp vs H Q E->∃t,PSs (iF pP P w K mg base N qual (z07 st) f dF A outer s H E).yG (z0g st) t/\t {nx:=λ_ H'=>Q .non H',rt:=Q} (start N vs) H):FnOk P w K mg base pP (k+1) f fd ps sp:=by
 obtain⟨oc,od,kV,doc,pm,an,dF,ct,pN,rfl,lk,hcd⟩:=F.ex;refine zkn lk hcd S len λA outer s H vs Q E hr eU=>?_;obtain⟨t,h,q⟩:=nO dF A outer s H vs Q E hr eU;exact⟨t,h.yG,q⟩
theorem Fun.binds {st:Stmt}(F:Fun K x qual st f fd)
  (h:∀kV doc pm an dF ct us,us.length=ps.length->vk (W.fnOf x qual (lE st) (z0g st) (z07 st) .none kV doc pm an dF ct) ⟨us,[]⟩=pure (ps.zip us)):Binds K fd ps []:=by
 obtain⟨oc,od,kV,doc,pm,an,dF,ct,pN,rfl,lk,hcd⟩:=F.ex;exact .all (h kV doc pm an dF ct)
theorem EA {st:Stmt}{kV:Value}(l:K.lookup f=some ⟨oc,od,.func (W.fnOf x qual (lE st) (z0g st) (z07 st) .none kV doc pm an dF ct),pN⟩) (c:W.codeIn K dF qual=true) (k:W.keepIn K (.ref f)=true):Fun K x qual st f (W.fnOf x qual (lE st) (z0g st) (z07 st) .none kV doc pm an dF ct):=⟨⟨oc,od,kV,doc,pm,an,dF,ct,pN,rfl,l,c⟩,k⟩
end
theorem aV {B:Prop}(h:B):if false=true then A else B:=h
theorem aX {B:Prop}(h:A):if true=true then A else B:=h
def Same (H H':Hp):Prop:=∀b o,H b=some o->H' b=some o
theorem Same.refl (H:Hp):Same H H:=λ_ _ h=>h
theorem Same.trans (a:Same H H1)(b:Same H1 H2):Same H H2:=λc o h=>b c o (a c o h)
theorem Q8:CallR X (.builtin "len") (λxs H Q=>∃a kvs,xs=[V.ref a]/\H a=some (.dK kvs)/\Q (.int kvs.length) H):=by
 rintro pins s U H xs us Q I r ⟨a,kvs,rfl,ha,q⟩
 obtain⟨u,rfl,rfl⟩:=vals1 r;exact Qv I (.inl ha) λt s' I'=>⟨.int kvs.length,H,I',⟨t,rfl⟩,q⟩
end L2
set_option maxHeartbeats 5000000
namespace L2
open PySem PySem.Spec PyProof.Rows
def eV (env:Env):List (Str×jd)->List (Str×Addr)->List (Str×Addr)
 | [],cs=>cs
 |(n,k)::r,cs=>eV env r (if(k==.free)=true then(n,(env.cells.lookup n).getD 0)::cs else cs)
theorem KC:∀l (cs:List (Str×Addr)),(∃c,cs.lookup x=some c)->∃c,(eV env l cs).lookup x=some c
 | [],cs,h=>h
 |(n,k)::r,cs,h=>by
  refine KC r _ ?_;split
  ·by_cases e:(x==n)=true
   ·exact⟨_,by rw[dr,e]⟩
   ·obtain⟨c,hc⟩:=h;exact⟨c,by rw[dr,uo.mpr e];exact hc⟩
  ·exact h
theorem EB:∀(l:List (Str×jd)) cs,l.lookup x=some .free->∃c,(eV env l cs).lookup x=some c
 | [],cs,h=>by simp at h
 |(n,k)::r,cs,h=>by
  rw[dr]at h;cases e:(x==n)with
  |true=>rw[e]at h;have hk:=v5 h;subst hk;exact KC r _ ⟨_,by rw[vy (by rfl),dr,e]⟩
  |false=>rw[e]at h;exact EB r _ h
theorem zdx:∀l cs,(∀y∈l,y.2=.free->∃c,env.cells.lookup y.1=some c)->(∀x c,cs.lookup x=some c->env.cells.lookup x=some c)->
  ∀x c,(eV env l cs).lookup x=some c->env.cells.lookup x=some c
 | [],cs,_,h=>h
 |(n,k)::r,cs,hl,h=>by
  refine zdx r _ (λy hy=>hl y (ah _ hy)) λx c hx=>?_;by_cases hk:(k==NameKind.free)=true
  ·rw[vy hk,dr]at hx;cases e:(x==n)with
   |true=>
    rw[e]at hx;have Q9:x=n:=by simpa using e
    obtain⟨d,hd⟩:=hl (n,k) ak (by simpa using hk);have mH:=hd;rw[mH]at hx;rw[Q9,mH];exact hx
   |false=>rw[e]at hx;exact h x c hx
  ·rw[vz hk]at hx;exact h x c hx
theorem KG (h:∀y∈scope.names,y.2=.free->∃c,env.cells.lookup y.1=some c):closureFor scope env=pure (eV env scope.names []):=by
 have go:∀l cs,(∀y∈l,y.2=.free->∃c,env.cells.lookup y.1=some c)->
   (forIn l cs λx r=>if(x.2==NameKind.free)=true then(do let a <-cellOf env x.1;pure (ForInStep.yield ((x.1,a)::r)):Sem _)else pure (ForInStep.yield r))=(pure (eV env l cs):Sem _):=by
  intro l
  induction l with
  |nil=>intro cs _;rfl
  |cons y r ih=>
   intro cs hl;obtain⟨n,k⟩:=y;rw[List.forIn_cons];unfold eV;by_cases hk:(k==NameKind.free)=true
   ·obtain⟨c,hc⟩:=hl (n,k) ak (by simpa using hk);have hc':=hc;have e:cellOf env n=pure c:=by unfold cellOf;rw[hc']
    rw[vy hk,vy hk];rw[e,hc'];exact ih ((n,c)::cs) λy hy=>hl y (ah _ hy)
   ·rw[vz hk,vz hk];exact ih cs λy hy=>hl y (ah _ hy)
 have:=go scope.names [] h
 first
  |exact this
  |(show(forIn scope.names [] _>>=λr=>pure r)=_;rw[show(forIn scope.names ([]:List (Str×Addr)) _:Sem _)=_ from this];rfl)
theorem za6 (hc:∀y∈scope.names,y.2≠.cell):
  (relabel scope env).names.lookup x=some .cell\/(relabel scope env).names.lookup x=some .free->scope.names.lookup x=some .free:=by
 have go:∀(l:List (Str×jd)),(∀y∈l,y.2≠ .cell)->∀k,(k=NameKind.cell\/k=NameKind.free)->
   (l.map λ(n,k)=>if(k==.free&&env.scope.kind==.function&&env.kindOf n==some .cell)then(n,NameKind.cell)else(n,k)).lookup x=some k->l.lookup x=some .free:=by
  intro l
  induction l with
  |nil=>intro _ k _ h;simp at h
  |cons y r ih=>
   intro hl k hk h;obtain⟨n,q⟩:=y;rw[bx]at h;rw[dr];by_cases c:(q==NameKind.free&&env.scope.kind==.function&&env.kindOf n==some .cell)=true
   ·have hq:q=.free:=by
     simp at c;simpa using c.1.1
    dsimp only at h
    rw[vy c,dr]at h;cases e:(x==n)with
    |true=>rw[hq]
    |false=>rw[e]at h;exact ih (λy hy=>hl y (ah _ hy)) k hk h
   ·dsimp only at h
    rw[vz c,dr]at h;cases e:(x==n)with
    |true=>
     rw[e]at h;have hq:=v5 h;rcases hk with hk|hk
     ·exact absurd (hq.trans hk) (hl (n,q) ak)
     ·show some q=some .free;rw[hq,hk]
    |false=>rw[e]at h;exact ih (λy hy=>hl y (ah _ hy)) k hk h
 rintro(h|h)
 ·exact go scope.names hc .cell (.inl rfl) h
 ·exact go scope.names hc .free (.inr rfl) h
def blk (X:Cx)(scope:Scope)(N':List Str)(C:Addr)(fp:List Addr)(s:aw)(H:Hp):Cx:={X with N:=N',s₀:=s,iB:=H,env:=compEnvC scope (eV X.env scope.names []) C X.env,outer:=X.stack,stack:=X.stack,ex:=fp,fn:=λ_=>false,xe:=λ_ _=>False,fx:=none}
structure BlkScope (X:Cx)(scope:Scope)(N':List Str)(nt:Nat)(js:List Nat):Prop where
 kind:scope.kind=.function
 nU:∀y∈scope.names,y.2≠.cell
 names:∀y∈scope.names,y.2=.local->scope.names.lookup y.1=some .local
 frees:∀y∈scope.names,y.2=.free->X.env.scope.names.lookup y.1=some .cell\/X.env.scope.names.lookup y.1=some .free
 nd:N'.Nodup
 len:N'.length=nt+js.length
 pl:∀(i j:Nat),js[i]?=some j->N'[nt+i]?=X.N[j]?/\∃x,X.N[j]?=some x/\scope.names.lookup x=some .free
def vE (NX:List Str)(Ca scope:Scope)(N':List Str)(nt:Nat)(js:List Nat):Bool:=
 (scope.kind==.function)&&scope.names.all (λy=>!(y.2==.cell))&&scope.names.all (λy=>!(y.2==.local)||(scope.names.lookup y.1==some .local))&&
 scope.names.all (λy=>!(y.2==.free)||(Ca.names.lookup y.1==some .cell)||(Ca.names.lookup y.1==some .free))&&decide N'.Nodup&&(N'.length==nt+js.length)&&
 (N'.drop nt==js.map λj=>NX.getD j "")&&js.all (λj=>decide (j<NX.length)&&(scope.names.lookup (NX.getD j "")==some .free))
theorem Ra (hN:X.N=NX)(hs:X.env.scope=Ca)(h:vE NX Ca scope N' nt js=true):BlkScope X scope N' nt js:=by
 unfold vE at h;simp only[bh,bp,decide_eq_true_eq,beq_iff_eq,Bool.or_eq_true,uq,beq_eq_false_iff_ne]at h;obtain⟨⟨⟨⟨⟨⟨⟨h1,h2⟩,h3⟩,h4⟩,h5⟩,h6⟩,h7⟩,h8⟩:=h;refine⟨h1,h2,λy hy e=>(h3 y hy).resolve_left (λz=>z e),λy hy e=>?_,h5,h6,λi j hj=>?_⟩
 ·rw[hs];rcases h4 y hy with(z|z)|z
  ·exact absurd e z
  ·exact .inl z
  ·exact .inr z
 ·obtain⟨a,b⟩:=h8 j (d9 hj);have e:X.N[j]?=some (NX.getD j ""):=by rw[hN,am,bn a];rfl
  refine⟨?_,_,e,b⟩;rw[e,<-t8,h7,br,hj];rfl
def fU (nt:Nat)(js:List Nat)(U:St):St:=bq nt none++js.map λj=>U.getD j none
theorem zjj (B:BlkScope X scope N' nt js)(I:Inv X pins U H s)
  (Cb:∀b∈fp,FpOk X pins H b) (nV:∀b∈fp,∃o,s.heap.get? b=some o)
  (k:∀b o,s.heap.get? b=some o->h1.get? b=some o) (hn:h1.Ns s.heap.objs.size m1):
  Inv (blk X scope N' s.heap.objs.size fp s H) pins (fU nt js U) H {s with heap:=h1,toks:=t1}:=by
 have iV:∀x c,(eV X.env scope.names []).lookup x=some c->X.env.cells.lookup x=some c:=zdx _ _ (λy hy hf=>I.ok.has y.1 (B.frees y hy hf)) (λx c h=>by simp at h);have lt:∀b o,s.heap.get? b=some o->b≠s.heap.objs.size:=λb o e=>bz (bc e);refine⟨⟨I.ok.mod,B.kind,I.ok.glob,I.ok.blt,ag _,λx y c h1 h2=>I.ok.inj x y c (iV x c h1) (iV y c h2),λx hx=>EB _ _ (za6 B.nU hx),λx c h=>(by cases h),I.ok.hd,I.ok.frames,.inl rfl,λb hb=>?_,I.bs,b8 I.ok.nB I.sz,λb o e hb=>?_,λb hb hx=>?_,I.stack,I.gK,λ_ _ z=>by cases z⟩,rfl,I.bare,Un.kept k,⟨m1,hn,λi x v e1 e2 e3=>?_⟩,λx c e=>?_,I.hok.fresh (ag _),λx c e=>I.bF x c (iV x c e),λp hp=>?_,I.hok.kept k,?_,λ_ _ z=>by cases z⟩
 ·obtain⟨o,ho⟩:=nV b hb;exact⟨lt b o ho,λx c h=>(Cb b hb).2.2.2.2.1 x c (iV x c h)⟩
 ·rcases(Cb b hb).2.2.2.1 with z|z
  ·exact I.ok.jD b o e z
  ·exact absurd (b9 (bc e) (b8 I.ok.nB z)) (cw _)
 ·rcases ao.mp (I.gI b hx)with z|z
  ·exact(Cb b hb).2.1 z
  ·exact(Cb b hb).2.2.1 z
 ·--a name with a value:one of ZP Cd
  have hi:nt<=i:=by refine Nat.le_of_not_lt λh=>?_;unfold fU at e2;rw[gw (by rw[df];exact h),cz,vy h]at e2;cases e2
  unfold fU at e2;rw[jf (by rw[df];exact hi),df,br]at e2;cases ej:js[i-nt]? with
  |none=>rw[ej]at e2;cases e2
  |some j=>
   rw[ej]at e2;have zc:U.getD j none=some v:=v5 e2;obtain⟨zi,y,hy,eA⟩:=B.pl (i-nt) j ej;rw[rh hi]at zi;have Rb:x=y:=by have KH:N'[i]?=some x:=e1;rw[zi,hy]at KH;exact(v5 KH).symm
   subst Rb
   have hσ:U[j]?=some (some v):=by
    rw[am]at zc;cases q:U[j]? with
    |none=>rw[q]at zc;cases zc
    |some z=>rw[q]at zc;exact congrArg some zc
   have zj:=B.frees (x,.free) (PySem.mem_of_lookup eA) rfl;obtain⟨m,ZQ,hl⟩:=I.loc;obtain⟨u,r,l⟩:=hl j x v hy hσ (zj.elim (λz=>.inr (.inl z)) (λz=>.inr (.inr z)));refine⟨u,r,?_⟩;rcases l with⟨hk,_⟩|⟨hk,c,hc,kE⟩
   ·rcases zj with z|z
    ·have qN:X.env.scope.names.lookup x=some .local:=hk;rw[z]at qN;cases qN
    ·have qN:X.env.scope.names.lookup x=some .local:=hk;rw[z]at qN;cases qN
   ·obtain⟨d,hd⟩:=EB scope.names [] eA;have Rc:d=c:=by have:=iV x d hd;rw[hc]at this;cases this;rfl
    subst Rc;refine .inr ⟨?_,d,hd,?_⟩
    ·rcases e3 with z|z|z
     ·exfalso
      have:∀(l:List (Str×jd)),l.lookup x=some .free->(l.map λ(n,k)=>if(k==.free&&X.env.scope.kind==.function&&X.env.kindOf n==some .cell)then(n,NameKind.cell)else(n,k)).lookup x≠some .local:=by
       intro l
       induction l with
       |nil=>intro h;simp at h
       |cons y r ih=>
        intro h;obtain⟨n,q⟩:=y;rw[dr]at h;rw[bx]
        dsimp only
        cases e:(x==n)with
        |true=>
         rw[e]at h;have hq:=v5 h;subst hq;split
         ·rw[dr,e];intro z;cases z
         ·rw[dr,e];intro z;cases z
        |false=>
         rw[e]at h;split
         ·rw[dr,e];exact ih h
         ·rw[dr,e];exact ih h
      exact this _ eA z
     ·exact .inl z
     ·exact .inr z
    ·obtain⟨o,ho,mH⟩:=kE;exact⟨o,k _ _ ho,mH⟩
 ·obtain⟨v,o,ho,hd⟩:=I.cell x c (iV x c e);exact⟨v,o,k _ _ ho,hd⟩
 ·obtain⟨q1,q2,q3,q4,q5⟩:=I.pin p hp;refine⟨k _ _ q1,q2,lt _ _ q1,λz=>?_,q5⟩;rcases ao.mp (I.gI p.1 z)with z|z
  ·exact q3 z
  ·exact q4 z
 ·show(fU nt js U).length=N'.length;unfold fU;rw[ax,df,aq,B.len]
section
variable (M:Model)(A:iz)(env:Env)
abbrev fV:Value->aw->Prop:=λ_ _=>False
def Rf (acc:Value)(Z:aw->Prop)(x:Value):aw->Prop:=wpAny M A (call (.builtin "list.append") [acc,x]) (λ_=>Z) fV
def EC (elt:Expr)(acc:Value)(Z:aw->Prop)(ok:Bool)(s:aw):Prop:=if ok=true then wpAny M A (eval elt env) (Rf M A acc Z) fV s else Z s
def Rh (ifs:List Expr)(elt:Expr)(acc:Value)(Z:aw->Prop):aw->Prop:=wpAny M A (forIn ifs true λc r=>if r=true then(u4 c env (eval c env)>>=λok=>pure (ForInStep.yield ok))else pure (ForInStep.yield r)) (EC M A env elt acc Z) fV
def ED (tg:Expr)(ifs:List Expr)(elt:Expr)(acc:Value)(Z:aw->Prop)(v:Value):aw->Prop:=wpAny M A (tq tg env v) (λ_=>Rh M A env ifs elt acc Z) fV
def EE (tg:Expr)(ifs:List Expr)(elt:Expr)(it acc:Value)(End Z:aw->Prop)(r:Option Value)(s:aw):Prop:=match r with
 |some v=>wpAny M A (kj tg it v) (λ_=>ED M A env tg ifs elt acc Z v) fV s
 |none=>End s
end
theorem zlh (I:Nat->aw->Prop)
  (one:∀k t,I k t->wpAny (model P w) A (u5 it) (EE (model P w) A env tg ifs elt it acc (R (.ok .next)) λt'=>∃m,m<k/\I m t') fV t) (n:Nat) (h:I n s):
  lf (model P w) A (.compLoop (.ListComp elt [⟨tg,iter,ifs,0⟩] scope pos) 0 it acc env) R s:=by
 apply codeAny_loop rfl I _ n h;intro k t hk;apply wpAny_noted;apply wpAny_noRaise;apply aa;apply kq;apply aa;refine aL (one k t hk) ?_
 rintro(_|v) t1 h1
 ·exact aj h1
 apply aa;refine aL h1 λ_ t2 h2=>?_;apply aa;refine aL h2 λ_ t3 h3=>?_;apply aa;refine aL h3 ?_
 rintro(_|_) t4 h4
 ·exact aj ⟨rfl,h4⟩
 apply aa;apply aa;refine aL h4 λx t5 h5=>?_;apply aa;exact aL h5 λ_ t6 h6=>aj (aj ⟨rfl,h6⟩)
theorem Un.but (u:Un fs ex H H1 h h1)(hC:h.get? C=none)(sb:bu C h1 h'):Un fs ex H H1 h h':=by
 have ne:∀b o,h.get? b=some o->b≠C:=λb o e z=>by rw[z,hC]at e;cases e
 exact⟨λb o e n hb hx=>sb.extBut b o (ne b o e) (u.keep b o e n hb hx),λb o e n hb hx=>let⟨sl,q⟩:=u.slot b o e n hb hx;⟨sl,sb.extBut b _ (ne b o e) q⟩,u.free,λb o e hx=>let⟨o',q⟩:=u.there b o e hx;⟨o',sb.extBut b _ (ne b o e) q⟩,u.cU,u.cK,u.cV⟩
theorem HOk.but (ok:HOk P w H h)(hC:H C=none)(sb:bu C h h'):HOk P w H h':=λa o e=>by
 refine(ok a o e).stay (λb u hb q=>sb.extBut b u (λz=>?_) q) (λ_ q=>q) λ_ _ q=>q;rcases hb with hb|hb
 ·rw[z]at hb;rw[<-hb,hC]at e;cases e
 ·rw[z,hC]at hb;cases hb
def tI (X:Cx)(ifs:List Expr)(t:TT):Prop:=∀(pins:List (Addr×Obj)) (s:aw) (U:St) (H:Hp) (Q:Bool->Hp->Prop),Inv X pins U H s->t U H Q->wpAny (model X.prog X.w) X.A (forIn ifs true λc r=>if r=true then do let ok <-u4 c X.env (eval c X.env);pure (ForInStep.yield ok)else pure (ForInStep.yield r)) (TP X pins U Q) X.xe s
def EF:TT:=λ_ H Q=>Q true H
theorem Ri:tI X [] EF:=λ_ _ _ H _ I h=>wpAny_tests_nil ⟨H,I,h⟩
theorem Rj (h:PT X c t):tI X [c] t:=λpins s U H Q I q=>wpAny_tests_one (h pins s U H Q I q)
def nW (a b:St):Prop:=a.length=b.length/\∀(i:Nat) v,a[i]?=some (some v)->b[i]?=some (some v)
def Ce (wi:TI)(g:TG)(tc:TT)(te:TE)(em:St->St):TE:=λU H Q=>wi U H λJ H1=>∀l,H1 l=none->∃P:Nat->Nat->List V->Hp->Prop,(∃m,P 0 m [] (upd H1 l (.lst [])))/\∀i m acc H2,P i m acc H2->(J.stop i H2/\Q (.ref l) H2)\/(J.go i H2/\acc.length<ba/\∃N:List V->Hp->Prop,(∀acc' H',N acc' H'->∃m',m'<m/\P (i+1) m' acc' H')/\∀x H3,J.kZ i H2 x H3->g x (em U) H3 λfN H4=>nW (em U) fN/\tc fN H4 λb H5=>if b=true then te fN H5 λy H6=>H6 l=some (.lst acc)/\N (acc++[y]) (upd H6 l (.lst (acc++[y])))else N acc H5)
theorem z4j {Q:VK}{RR:Value->Addr->vt->aw->Prop}(hc:X.calm=true)(B:BlkScope X scope N' nt js)
  (hg:∀C fp s H,PG (blk X scope N' C fp s H) tg g) (ht:∀C fp s H,tI (blk X scope N' C fp s H) ifs tc) (he:∀C fp s H,PE (blk X scope N' C fp s H) elt te)
  (h2:uR X pins U tg (λJ H1=>∀l,H1 l=none->∃P:Nat->Nat->List V->Hp->Prop,(∃m,P 0 m [] (upd H1 l (.lst [])))/\∀i m acc H2,P i m acc H2->(J.stop i H2/\Q (.ref l) H2)\/(J.go i H2/\acc.length<ba/\∃N:List V->Hp->Prop,(∀acc' H',N acc' H'->∃m',m'<m/\P (i+1) m' acc' H')/\∀x H3,J.kZ i H2 x H3->g x (fU nt js U) H3 λfN H4=>nW (fU nt js U) fN/\tc fN H4 λb H5=>
  if b=true then te fN H5 λy H6=>H6 l=some (.lst acc)/\N (acc++[y]) (upd H6 l (.lst (acc++[y])))else N acc H5)) xK s2)
  (Rk:∀(l C:Addr) (H':Hp) (s1:aw),(∃m,s1.heap.Ns C m)->H' C=none->C≠X.env.locals->C∉X.fs->(∀x c,X.env.cells.lookup x=some c->c≠C)->X.s₀.heap.objs.size<=C->(∀p∈X.pn++pins,p.1≠C)->(∀h',bu C s1.heap h'->Inv X pins U H' {s1 with heap:=h'})->Q (.ref l) H'->RR (.ref l) C (.ok .next) s1):
  wpAny (model X.prog X.w) X.A (newList []) (λacc s₃=>wpAny (model X.prog X.w) X.A (newFunctionEnv scope X.env.globals (eV X.env scope.names []) [] X.env.qual none .none (some X.env)) (λzl EG=>lf (model X.prog X.w) X.A (.compStart (.ListComp elt [⟨tg,iter,ifs,0⟩] scope pos) 0 xK acc {zl with scope:=relabel scope X.env}) (RR acc zl.locals) EG) E s₃) E s2:=by
 obtain⟨it,fp,tn,J,H2,rfl,I2,T,qI,f2,q⟩:=h2;refine jr (wpAny_newFunctionEnv B.nU (by intro y hy;simp at hy) (λh₁ nX nY=>?_) B.kind);have zm:∀b∈fp,∃o,s2.heap.get? b=some o:=λb hb=>let⟨o,e,_⟩:=T.obj 0 _ qI b hb;⟨o,e⟩;have hl:=I2.hok.fresh (ag _);have I3:=I2.lnew (t':=s2.toks) .nil (dv _);obtain⟨P,⟨m0,p0⟩,turn⟩:=q _ hl;generalize Rm:s2.heap.push {cls:=.type "list",dict:=none,data:=.seq ([]:List Value).toArray}=Hh at nX nY I3 ⊢;generalize Rn:s2.heap.objs.size=l at hl I3 p0 turn ⊢;have vF:∀b o,s2.heap.get? b=some o->Hh.get? b=some o:=λb o e=>Rm▸af _ e;have k:=λb o e=>nY.extBut b o (bz (bc e)) (af _ e);have f3:∀b∈fp,FpOk X pins (upd H2 l (.lst [])) b:=λb hb=>by obtain⟨o,e⟩:=zm b hb;exact⟨by rw[aK (by rw[<-Rn];exact bz (bc e))];exact(f2 b hb).1,(f2 b hb).2⟩
 have J0:=zjj (t1:=s2.toks+([]:List (Str×Value)).length) B I3 f3 (λb hb=>let⟨o,e⟩:=zm b hb;⟨o,vF b o e⟩) k nX;have EH:∀{H':Hp},(∀b∈fp,H' b=none)->∀b∈fp,FpOk (blk X scope N' Hh.objs.size fp {s2 with heap:=Hh,toks:=s2.toks} (upd H2 l (.lst []))) pins H' b:=λhn b hb=>⟨hn b hb,(J0.ok.fD b hb).1,J0.ok.jE b hb,.inl hb,(J0.ok.fD b hb).2,(f2 b hb).2.2.2.2.2⟩;have out:∀{H':Hp} {s1:aw},Inv (blk X scope N' Hh.objs.size fp {s2 with heap:=Hh,toks:=s2.toks} (upd H2 l (.lst []))) pins (fU nt js U) H' s1->∀h',bu Hh.objs.size s1.heap h'->Inv X pins U H' {s1 with heap:=h'}:=λ{H' s1} Jn h' sb=>by exact I3.call' Jn.os (Un.but Jn.base (jp (ag _)) sb) (Jn.hok.but Jn.free sb) Jn.bare λb hb=>⟨(f3 b hb).2.2.2.1,(f3 b hb).2.1,(f3 b hb).2.2.2.2.1,(f3 b hb).2.2.2.2.2⟩
 have nC:∀x c,X.env.cells.lookup x=some c->c≠Hh.objs.size:=λx c e z=>by obtain⟨v,q⟩:=I3.cell x c e;exact absurd q.lt (by rw[z];exact cw _)
 have loop:∀s₃:aw,s₃={s2 with heap:=h₁,toks:=s2.toks+([]:List (Str×Value)).length}->
   lf (model X.prog X.w) X.A (.compLoop (.ListComp elt [⟨tg,iter,ifs,0⟩] scope pos) 0 (.ref it) (.ref l) (compEnvC scope (eV X.env scope.names []) Hh.objs.size X.env)) (RR (.ref l) Hh.objs.size) s₃:=by
  rintro s₃ rfl
  refine zlh (λn s'=>∃i acc H',Inv (blk X scope N' Hh.objs.size fp {s2 with heap:=Hh,toks:=s2.toks} (upd H2 l (.lst []))) pins (fU nt js U) H' s'/\tn i s'.heap/\(∀b∈fp,H' b=none)/\P i n acc H') ?_ m0 ⟨0,[],_,J0,T.keep _ _ _ qI λb _ o e=>k b o (vF b o e),λb hb=>(f3 b hb).1,p0⟩
  rintro n s3 ⟨i,acc,H3,Jn,yM,nJ,w3⟩
  rcases turn i n acc H3 w3 with⟨stop,qn⟩|⟨go,Rq,N,hN,step⟩
  ·refine aL (T.done (blk X scope N' Hh.objs.size fp {s2 with heap:=Hh,toks:=s2.toks} (upd H2 l (.lst []))) rfl rfl rfl hc i pins s3 _ H3 (λ_ _=>False) Jn (EH nJ) yM stop) λr s4 ⟨hr,I4⟩=>?_;subst hr;obtain⟨m,hn,_⟩:=id I4.loc;exact Rk l Hh.objs.size H3 s4 ⟨m,hn⟩ I4.free (oh (I3.lt)) (I3.yA (ag _)) nC I3.sz (λp hp=>bz (bc (I3.pin p hp).1)) (out I4) qn
  ·refine aL (T.item (blk X scope N' Hh.objs.size fp {s2 with heap:=Hh,toks:=s2.toks} (upd H2 l (.lst []))) rfl rfl rfl hc i pins s3 _ H3 (λ_ _=>False) Jn (EH nJ) yM go) λr s4 ⟨u,hr,h4⟩=>?_;subst hr;refine aL h4 λ_ s5 ⟨x,H5,I5,r5,y5,uT,xM⟩=>aL (hg _ _ _ _ _ s5 _ H5 x u _ (I5.pinned (EH xM) (T.obj _ _ uT)) r5 (step x H5 y5)) λ_ s6 ⟨σ6,H6,I6,kp,q6⟩=>aL (ht _ _ _ _ _ s6 σ6 H6 _ I6 q6) λb s7 ⟨H7,I7,q7⟩=>?_
   have again:∀{s7:aw} {H7:Hp} {acc':List V},Inv (blk X scope N' Hh.objs.size fp {s2 with heap:=Hh,toks:=s2.toks} (upd H2 l (.lst []))) (pins++z5u fp s5.heap) σ6 H7 s7->N acc' H7->
     ∃m,m<n/\∃i acc H',Inv (blk X scope N' Hh.objs.size fp {s2 with heap:=Hh,toks:=s2.toks} (upd H2 l (.lst []))) pins (fU nt js U) H' s7/\tn i s7.heap/\(∀b∈fp,H' b=none)/\P i m acc H':=λ{s7 H7 acc'} I7 w7=>by
    obtain⟨n',hm,w7⟩:=hN _ _ w7;refine⟨n',hm,i+1,acc',H7,(I7.cY).weak kp.1 kp.2,T.keep _ _ _ uT λb hb o e=>(I7.pin (b,o) (bw _ (bw _ (BY hb e)))).1,λb hb=>?_,w7⟩;obtain⟨o,e,d⟩:=T.obj _ _ uT b hb;exact(I7.pin (b,o) (bw _ (bw _ (BY hb e)))).2.1
   cases b with
   |false=>exact again I7 q7
   |true=>exact aL (he _ _ _ _ _ s7 σ6 H7 _ I7 q7) λy' s8 ⟨y,H8,I8,r8,zo,w8⟩=>aL (Ew _ s8 σ6 H8 (.ref l) [y] (.ref l) [y'] (λ_ H9=>N (acc++[y]) H9) I8 rfl (.cons r8 .nil) ⟨l,acc,y,rfl,rfl,zo,Rq,w8⟩) λ_ s9 ⟨v9,H9,I9,r9,w9⟩=>again I9 w9
 exact codeAny_compStart_list (loop _ rfl) (T.self _ 0 _ _ _ (T.keep _ _ _ qI λb _ o e=>k b o (vF b o e)) (loop _ rfl))
theorem zgn (hc:X.calm=true)(B:BlkScope X scope N' nt js)(hi:PI X tg iter wi)
  (hg:∀C fp s H,PG (blk X scope N' C fp s H) tg g) (ht:∀C fp s H,tI (blk X scope N' C fp s H) ifs tc) (he:∀C fp s H,PE (blk X scope N' C fp s H) elt te)
  (hs:∀x,iu iter X.env x=pure x:=by intro _;rfl):PE X (.ListComp elt [⟨tg,iter,ifs,0⟩] scope pos) (Ce wi g tc te (fU nt js)):=by
 intro pins s U H Q I h;refine pf rfl hs (KG λy hy hf=>I.ok.has y.1 (B.frees y hy hf)) B.kind B.names (aL (hi pins s U H _ I h) λv s1 h1=>aL h1 λxK s2 h2=>?_);refine z4j hc B hg ht he h2 ?_;intro l C H' s1 ns _ _ _ _ _ _ out q;obtain⟨m,hn⟩:=ns;exact⟨m,hn,λh' sb=>⟨.ref l,H',out h' sb,rfl,q⟩⟩
def Rr (i:Nat)(t:TE):TS:=λD U H=>t U H λv H1=>D.nx (U.set i (some v)) H1
theorem zeh (hc:X.calm=true)(hN:X.N.Nodup)(hy:X.N[i]?=some y)(hl:X.env.scope.names.lookup y=some .local)(B:BlkScope X scope N' nt js)(hi:PI X tg iter wi)
  (hg:∀C fp s H,PG (blk X scope N' C fp s H) tg g) (ht:∀C fp s H,tI (blk X scope N' C fp s H) ifs tc) (he:∀C fp s H,PE (blk X scope N' C fp s H) elt te)
  (Rt:lc (.ListComp elt [⟨tg,iter,ifs,0⟩] scope pos) (some (.Name y py)) EI.line X.env=pure true)
  (hs:∀x,iu iter X.env x=pure x:=by intro _;rfl):PS X (.Assign [.Name y py] (.ListComp elt [⟨tg,iter,ifs,0⟩] scope pos) EI) (Rr i (Ce wi g tc te (fU nt js))):=by
 intro pins s U H D I h;rw[exec_Assign_Name_used _ _ _ _ Rt];apply aa;apply kq;apply aa;refine aa (jc (pf (use:=some (tq (.Name y py) X.env)) rfl hs (KG λz hz hf=>I.ok.has z.1 (B.frees z hz hf)) B.kind B.names (aL (hi pins s U H _ I h) λv s1 h1=>aL h1 λxK s2 h2=>?_)) (λ_ s' hq=>aj (aj hq)) λ_ _ e=>e);refine z4j (Q:=λv H1=>D.nx (U.set i (some v)) H1) (RR:=λacc C=>compPost (model X.prog X.w) X.A X.xe (some (tq (.Name y py) X.env)) (λ_ s'=>SP X pins D .next s') acc C) hc B hg ht he h2 ?_;intro l C H' s1 ns hH nL nF nC nS nP out q;obtain⟨m,hn⟩:=ns;have I1:=out s1.heap (.refl ..);obtain⟨oC,es,ep,Ru,KI,Rv⟩:=id hn
 have I2:Inv X (pins++[(C,oC)]) U H' s1:=I1.gL λp hp=>(bo.mp hp).elim (λz=>I1.pin p (bw _ z)) λz=>by
  have e:p=(C,oC):=by simpa using z
  subst e;exact⟨Ru,hH,nL,nF,λv z=>by have z':=z;rw[KI]at z';cases z'⟩
 refine ub (z5j I2 hN hy (.inl hl) (v:=.ref l) rfl (λpM KJ=>?_) (.inr hl));refine⟨m,⟨oC,es,ep,(KJ.pin (C,oC) (bw _ (bw _ (av.mpr rfl)))).1,KI,Rv⟩,λh' sb=>⟨_,H',?_,q⟩⟩;exact(KJ.cY).turned (λb o hb e=>sb.extBut b o hb e) hH nL (.inr nS) nC nP
def EJ (z:Str):It:=⟨λi _=>i<z.cps.size,λi H x H'=>H'=H/\∃c,z.cps[i]?=some c/\x=.str ⟨#[c]⟩,λi _=>z.cps.size<=i⟩
theorem Ry {K:W.Frag}(hty:ty="str_ascii_iterator"\/ty="str_iterator")(it:Addr)(z:Str)(t:Tok):Turn P w K tg (EJ z) [it] it (λi h=>h.IsStrIter it ty z t i) where
 mem:=by simp
 obj:=λi h st b hb=>by
  have e:b=it:=by simpa using hb
  subst e;obtain⟨o,e,c,d⟩:=st;exact⟨o,e,λv z=>by rw[d]at z;cases z⟩
 keep:=λi h h' st k=>let⟨o,e,r⟩:=st;⟨o,k it (by simp) o e,r⟩
 item:=by
  intro X hP hw hK hc i pins s U H E I hf st hg;subst hP hw hK;obtain⟨f0,f1,f2,f3,f4,f5⟩:=hf it (by simp);have hi:=hg
  have fin:∀u h' tk,SignAt z i u->h'.IsStrIter it ty z t (i+1)->(∀b o,b∉ [it]->s.heap.get? b=some o->h'.get? b=some o)->
    ∃u',some u=some u'/\wpAny (model X.prog X.w) X.A (kj tg (.ref it) u') (λ_ s2=>∃x H',Inv X pins U H' s2/\RelV x u'/\(EJ z).kZ i H x H'/\s2.heap.IsStrIter it ty z t (i+1)/\∀b∈[it],H' b=none) E {s with heap:=h',toks:=tk}:=by
   rintro u h' tk ⟨c,t',hx,rfl⟩ jF kk
   have I1:Inv X pins U H {s with heap:=h',toks:=tk}:=I.turned (λb o hb e=>kk b o (by simpa using hb) e) f0 f1 f3 f4 f5;obtain⟨o,e,cc,d⟩:=id jF;exact⟨_,rfl,z71 e cc d (by rcases hty with rfl|rfl<;>decide) ⟨.str ⟨#[c]⟩,H,I1,⟨t',rfl⟩,⟨rfl,c,hx,rfl⟩,jF,λb hb=>(hf b hb).1⟩⟩
  rcases hty with rfl|rfl
  ·exact(Walks.strAscii (I.ok.hd hc) it z t).item i s _ _ hi st λv h' tk hv jF kk=>fin v h' tk hv jF kk
  ·exact(Walks.strWide (I.ok.hd hc) it z t).item i s _ _ hi st λv h' tk hv jF kk=>fin v h' tk hv jF kk
 done:=by
  intro X hP hw hK hc i pins s U H E I hf st hg;obtain⟨f0,f1,f2,f3,f4,f5⟩:=hf it (by simp);have hi:z.cps[i]?=none:=by have:z.cps.size<=i:=hg;simpa using this
  rcases hty with rfl|rfl
  ·exact wpAny_pyNext_ascii_end (I.ok.hd hc) st hi λh' eb=>⟨rfl,I.turned (λb o hb e=>eb b o hb e) f0 f1 f3 f4 f5⟩
  ·exact wpAny_pyNext_wide_end (I.ok.hd hc) st hi λh' eb=>⟨rfl,I.turned (λb o hb e=>eb b o hb e) f0 f1 f3 f4 f5⟩
 self:=λ_ _ _ _ _ st h=>by
  rcases hty with rfl|rfl
  ·exact wpAny_pyIter_striter_ascii st h
  ·exact wpAny_pyIter_striter_wide st h
theorem zug {J:It}{g:TG}{tc:TT}{te:TE}{Q:VK}(P:Nat->List V->Hp->Prop)(hn:n<=ba)(h0:P 0 [] (upd H1 l (.lst [])))
  (hlen:∀i acc H,P i acc H->acc.length<=i)
  (zp:∀acc H,P n acc H->J.stop n H/\Q (.ref l) H) (RA:∀i acc H,i<n->P i acc H->J.go i H)
  (turn:∀i acc H x H3,i<n->P i acc H->J.kZ i H x H3->g x σ' H3 λfN H4=>nW σ' fN/\tc fN H4 λb H5=>if b=true then te fN H5 λy H6=>H6 l=some (.lst acc)/\P (i+1) (acc++[y]) (upd H6 l (.lst (acc++[y])))else P (i+1) acc H5):
  ∃P:Nat->Nat->List V->Hp->Prop,(∃m,P 0 m [] (upd H1 l (.lst [])))/\∀i m acc H2,P i m acc H2->(J.stop i H2/\Q (.ref l) H2)\/(J.go i H2/\acc.length<ba/\∃N:List V->Hp->Prop,(∀acc' H',N acc' H'->∃m',m'<m/\P (i+1) m' acc' H')/\∀x H3,J.kZ i H2 x H3->g x σ' H3 λfN H4=>nW σ' fN/\tc fN H4 λb H5=>if b=true then te fN H5 λy H6=>H6 l=some (.lst acc)/\N (acc++[y]) (upd H6 l (.lst (acc++[y])))else N acc H5):=by
 refine⟨λi m acc H=>i<=n/\m=n-i/\P i acc H,⟨n,dv _,rfl,h0⟩,?_⟩
 rintro i m acc H2 ⟨hi,rfl,p⟩
 by_cases cM:i<n
 ·have hl:=hlen i acc H2 p;exact .inr ⟨RA i acc H2 cM p,by omega,P (i+1),λacc' H' p'=>⟨n-(i+1),by omega,cM,rfl,p'⟩,λx H3 y=>turn i acc H2 x H3 cM p y⟩
 ·have e:i=n:=by omega
  subst e;exact .inl (zp acc H2 p)
theorem RB:OpR X (cv .LtE) (λx y H Q=>∃i j,x=.str i/\y=.str j/\Q (.bl (!decide (j.cps.toList<i.cps.toList))) H):=by
 rintro pins s U H x y v u Q I rx ry ⟨i,j,rfl,rfl,q⟩
 obtain⟨t,rfl⟩:=rx;obtain⟨t',rfl⟩:=ry;exact PySem.P.le_str ⟨.bl _,H,I,rfl,q⟩
theorem RC:OpR X (cv .Gt) (λx y H Q=>∃i j,x=.str i/\y=.str j/\Q (.bl (decide (j.cps.toList<i.cps.toList))) H):=by
 rintro pins s U H x y v u Q I rx ry ⟨i,j,rfl,rfl,q⟩
 obtain⟨t,rfl⟩:=rx;obtain⟨t',rfl⟩:=ry;exact PySem.P.gt_str ⟨.bl _,H,I,rfl,q⟩
def zq:V->Option Int->Option Int->Hp->VK->Prop:=λx lo hi H Q=>∃z,x=.str z/\z.length<=ba/\Q (.str (Txt.slice z lo hi)) H
theorem Cf:pO X zq:=by
 rintro pins s U H x v vl vu lo hi sl Q I rx hs pl pu ⟨z,rfl,hz,q⟩
 obtain⟨t,rfl⟩:=rx;refine⟨"str",_,PySem.F.slot_str_getitem.lookup,qg _ _ _,?_⟩;obtain⟨o,ho,hc,hd⟩:=hs;have fin:∀t' k,EP X pins U Q (.str (Txt.slice z lo hi) t') {s with toks:=k}:=λt' k=>⟨.str _,H,I.tok _,⟨_,rfl⟩,q⟩;cases pl with
 |none=>
  cases pu with
  |none=>exact jy (l:=none) (u:=none) (st:=none) ⟨o,ho,hc,hd⟩ rfl (nz ⟨b8 (Txt.slice_le z _ _) hz,fin⟩)
  |int j tj=>exact jy (l:=none) (u:=some (j,tj)) (st:=none) ⟨o,ho,hc,hd⟩ rfl (nz ⟨b8 (Txt.slice_le z _ _) hz,fin⟩)
 |int i ti=>
  cases pu with
  |none=>exact jy (l:=some (i,ti)) (u:=none) (st:=none) ⟨o,ho,hc,hd⟩ rfl (nz ⟨b8 (Txt.slice_le z _ _) hz,fin⟩)
  |int j tj=>exact jy (l:=some (i,ti)) (u:=some (j,tj)) (st:=none) ⟨o,ho,hc,hd⟩ rfl (nz ⟨b8 (Txt.slice_le z _ _) hz,fin⟩)
theorem RD (hc:X.calm=true):CallR X (.builtin "all") (λxs H Q=>∃(p:Addr) (bs:List Bool),xs=[.ref p]/\SqL X.K H p (bs.map V.bl)/\Q (.bl (bs.all id)) H):=by
 rintro pins s U H xs us Q I r ⟨p,bs,rfl,hq,q⟩
 obtain⟨u,rfl,rfl⟩:=vals1 r;obtain⟨its,rv,pl,hz⟩:=I.list hq;refine call_all_walk (mf pl.isList ?_);have ne:p≠s.heap.objs.size:=by obtain⟨o,ho,_⟩:=pl.isList;exact bz (bc ho)
 have hlen:=by have:=rv.length;rw[aq]at this;exact this
 refine⟨s.heap.objs.size,_,_,_,_,_,λi=>bs.getD i true,rfl,Walks.list (A:=X.A.in1) (I.ok.hd hc) s.heap.objs.size p ne its.toArray,⟨⟨_,au _ rfl,rfl,rfl⟩,pl.isList.at λo e=>af _ e⟩,?_,?_⟩
 ·intro i v s' Q' E' hP hQ;have hi:its[i]?=some v:=by simpa using hP
  have hb:i<bs.length:=by rw[hlen];exact(bv.mp hi).1
  obtain⟨u',hu,ru⟩:=rv.get (by rw[br,bn hb];rfl);rw[hi]at hu;cases hu;cases ru;refine fq ?_;have e:bs.getD i true=bs[i]:=by simp[am,hb]
  have KN:Q' (bs.getD i true) s':=hQ;rw[e]at KN;exact KN
 ·intro h' tk k;refine⟨.bl (bs.all id),H,I.kept λb o e=>?_,?_,q⟩
  ·refine k b o (λz=>?_) (af _ e);have z':b=s.heap.objs.size:=by simpa using z
   exact absurd (bc e) (by rw[z'];exact cw _)
  ·have e:(cj its.toArray.size).all (fun i=>bs.getD i true)=bs.all id:=by
    rw[az,<-hlen];apply qp.mpr;simp only[bp];constructor
    ·intro a b hb;obtain⟨i,hi,rfl⟩:=List.mem_iff_getElem.mp hb;have:=a i (gj.mpr hi);simpa[am,hi]using this
    ·intro a i hi;rw[gj]at hi;have Cg:=hi;have:=a bs[i] (jz Cg);simpa[am,Cg]using this
   rw[e];rfl
def Own (K:W.Frag)(mg:Str->Option Value)(x:Str)(st:Stmt)(ps:List Str):Prop:=∃f fd,Fun K x x st f fd/\mg x=some (.ref f)/\W.keepIn K (.ref f)=true/\Binds K fd ps []
def Cal (P:cf)(w:World)(K:W.Frag)(mg:Str->Option Value)(base:Heap)(k:Nat)(x:Str)(ps:List Str)(sp:Sp):Prop:=∃f fd,FnOk P w K mg base pP k f fd ps sp/\mg x=some (.ref f)/\W.keepIn K (.ref f)=true/\Binds K fd ps []
section
variable {K:W.Frag}{mg:Str->Option Value}
theorem zqc {st:Stmt}{kV:Value}(X:K.In h)(G:h.Ns bj mg)
  (a:W.nsIn K bj x=some (some (.ref f))) (l:K.lookup f=some ⟨oc,od,.func (W.fnOf x x (lE st) (z0g st) (z07 st) .none kV doc pm an dF ct),pN⟩) (c:W.codeIn K dF x=true) (k:W.keepIn K (.ref f)=true)
  (b:∀kV doc pm an dF ct us,us.length=ps.length->vk (W.fnOf x x (lE st) (z0g st) (z07 st) .none kV doc pm an dF ct) ⟨us,[]⟩=pure (ps.zip us)):Own K mg x st ps:=
 ⟨f,_,EA l c k,W.mg_of X G a,k,(EA l c k).binds b⟩
end
def isStar:Expr->Bool
 |.Starred ..=>true
 |_=>false
theorem dN (h:isStar e=false):de (e::es) env=(false,eval e env)::de es env:=by cases e<;>first|rfl|cases h
theorem mM:∀{es:List Expr},(es.all λe=> !isStar e)=true->(ku pos (de es env)).any (·.1)=false
 | [],_=>rfl
 |e::es,h=>by have h':=bg.mp (cx▸h);rw[dN (by simpa using h'.1)];show(false||(ku pos (de es env)).any (·.1))=false;rw[mM h'.2];rfl
section
variable {X:Cx}{x:Str}{p pos:Pos}{e:Expr}{es:List Expr}{t:TA}{id:String}{r:List V->Hp->VK->Prop}
theorem dS (ha:PE X e te)(hr:PA X es t)(hs:isStar e=false:=by rfl):PA X (e::es) (nM te t):=B3 ha hr (dN hs)
theorem zr (hc:CallR X (.builtin id) r)(hm:X.mg x=none)(hv:db x=some (.builtin id))(ha:PA X (e::es) t)(hst:((e::es).all λe=> !isStar e)=true:=by rfl)(hg:Gl X x:=by rfl)(hn:x≠"__name__":=by decide)(hdb:Z9 x:=by decide):PE X (.Call (.Name x p) (e::es) [] pos) (qK r t):=by rw[cx,bh]at hst;exact zg9 hc hg hm hv ha hn hdb (dN (by simpa using hst.1)) (mM hst.2)
theorem Ci (hc:CallR X (.type T) r)(hm:X.mg x=none)(hv:db x=some (.type T))(ha:PA X (e::es) t)(hst:((e::es).all λe=> !isStar e)=true:=by rfl)(hg:Gl X x:=by rfl)(hn:x≠"__name__":=by decide)(hdb:Z9 x:=by decide):PE X (.Call (.Name x p) (e::es) [] pos) (qK r t):=by rw[cx,bh]at hst;exact zcq hc hg hm hv ha hn hdb (dN (by simpa using hst.1)) (mM hst.2)
theorem zeo (C:Cal X.prog X.w X.K X.mg X.base k x ps sp)(hr:Room k' X.A)(ha:PA X (e::es) t)(hst:((e::es).all fun e=> !isStar e)=true:=by rfl)(hk:k<=k':=by decide)(hg:Gl X x:=by rfl)
  (hdb:Z9 x:=by decide):PE X (.Call (.Name x p) (e::es) [] pos) (kG sp [] E0 t):=by
 obtain⟨f,fd,F,m,kp,b⟩:=C;rw[cx,bh]at hst;exact zag F (hr.mono hk) hg m kp b .nil Q7 ha hdb (dN (by simpa using hst.1)) (mM hst.2)
end
def pQ:Expr->Bool
 |.ListComp ..=>true
 |.SetComp ..=>true
 |.DictComp ..=>true
 |_=>false
theorem vG (h:pQ e=false)(tg:Option Expr)(n:Nat)(env:Env):lc e tg n env=pure false:=by cases e<;>first|rfl|cases h
theorem EK (hN:X.N.Nodup)(hi:X.N[i]?=some x)(hx:Loc X.env.scope x)(he:PE X e te)(hs:pQ e=false:=by rfl)(hf:X.fn x=true\/X.env.scope.names.lookup x=some .local:=by first|exact .inl rfl|exact .inr rfl|assumption): PS X (.Assign [.Name x pos'] e pos) (qH te (BW i)):=zi8 hN hi hx he (vG hs _ _ _) hf
theorem vH (he:PE X e te)(hs:pQ e=false:=by rfl):PS X (.Expr e pos) (yI te):=PR he (vG hs _ _ _)
def EL (K:W.Frag):R2:=λx y H Q=>mJ (λi j=>.int (i+j)) x y H Q\/(∃i j,x=.str i/\y=.str j/\i.length+j.length<=ba/\Q (.str (i++j)) H)\/y8 x y H Q\/Kq K x y H Q
def vJ:R2:=λx y H Q=>mJ (λi j=>.bl (decide (i<j))) x y H Q\/∃i j,x=.str i/\y=.str j/\Q (.bl (decide (i.cps.toList<j.cps.toList))) H
def vK:R2:=λx y H Q=>mJ (λi j=>.bl (decide (i<=j))) x y H Q\/∃i j,x=.str i/\y=.str j/\Q (.bl (!decide (j.cps.toList<i.cps.toList))) H
def vL:R2:=λx y H Q=>mJ (λi j=>.bl (decide (j<i))) x y H Q\/∃i j,x=.str i/\y=.str j/\Q (.bl (decide (j.cps.toList<i.cps.toList))) H
def qO (K:W.Frag)(neg:Bool):R2:=λx y H Q=>Et K neg x y H Q\/∃i j,x=.str i/\y=.str j/\Q (.bl (if neg then !(!(gc j i 0 j.length 1).isEmpty)else !(gc j i 0 j.length 1).isEmpty)) H
def EM (K:W.Frag):V->Option Int->Option Int->Hp->VK->Prop:=λx lo hi H Q=>yZ K x lo hi H Q\/zq x lo hi H Q
def RE (K:W.Frag):List V->Hp->VK->Prop:=λxs H Q=>(∃z,xs=[.str z]/\z.length<=ba/\Q (.int z.length) H)\/(∃p ys,xs=[.ref p]/\(SqL K H p ys\/cS K H p ys)/\Q (.int ys.length) H)
theorem RF:OpR X (i7 .Add) (EL X.K):=P7.or (Qi.or (Q0.or QJ))
theorem EN:OpR X (cv .Lt) vJ:=Qb.or Qe
theorem EO:OpR X (cv .LtE) vK:=Qc.or RB
theorem ER:OpR X (cv .Gt) vL:=Qd.or RC
theorem ES:OpR X (cv .In) (qO X.K false):=QS.or Qf
theorem RG:OpR X (cv .NotIn) (qO X.K true):=QT.or QU
theorem RH:mK X (Ku X.K):=QM
theorem RI:pO X (EM X.K):=QQ.or Cf
theorem RJ:CallR X (.builtin "len") (RE X.K):=QW.or QV
def eC (t T:String):Bool:=t==T||(t=="bool"&&T=="int")
def qP:List String:=["NoneType","bool","int","str","list","tuple","dict"]
def tysB:List String:=["str","int","bool","tuple","list"]
theorem RK (K:W.Frag):∀t∈qP,∀T∈tysB,W.kitOne K (.type t) (.type T)=some (eC t T):=by intro t ht T hT;simp only[qP,ao,fo,or_false]at ht;simp only[tysB,ao,fo,or_false]at hT;rcases ht with rfl|rfl|rfl|rfl|rfl|rfl|rfl<;>rcases hT with rfl|rfl|rfl|rfl|rfl<;>kernel_rfl
section
variable {H:Hp}{Q:VK}{K:W.Frag}
theorem RL (h:Q (.int (i+j)) H):EL K (.int i) (.int j) H Q:=.inl ⟨i,j,rfl,rfl,h⟩
theorem RO (c:i.length+j.length<=ba)(h:Q (.str (i++j)) H):EL K (.str i) (.str j) H Q:=.inr (.inl ⟨i,j,rfl,rfl,c,h⟩)
theorem RP (h:Q (.bl (decide (i<j))) H):vJ (.int i) (.int j) H Q:=.inl ⟨i,j,rfl,rfl,h⟩
theorem RQ (h:Q (.bl (decide (i<=j))) H):vK (.int i) (.int j) H Q:=.inl ⟨i,j,rfl,rfl,h⟩
theorem RS (h:Q (.bl (decide (j<i))) H):vL (.int i) (.int j) H Q:=.inl ⟨i,j,rfl,rfl,h⟩
theorem RT (h:Q (.bl (decide (i.cps.toList<j.cps.toList))) H):vJ (.str i) (.str j) H Q:=.inr ⟨i,j,rfl,rfl,h⟩
theorem RU (h:Q (.bl (!decide (j.cps.toList<i.cps.toList))) H):vK (.str i) (.str j) H Q:=.inr ⟨i,j,rfl,rfl,h⟩
theorem RV (h:Q (.bl (decide (j.cps.toList<i.cps.toList))) H):vL (.str i) (.str j) H Q:=.inr ⟨i,j,rfl,rfl,h⟩
end
section
variable {K:W.Frag}{H:Hp}{Q:VK}
theorem RW (h:Q (.bl (decide (c∈z.cps.toList))) H):qO K false (.str ⟨#[c]⟩) (.str z) H Q:=.inr ⟨_,z,rfl,rfl,by rw[PySem.StrLaws.found_one z c];exact h⟩
theorem RX (h:Q (.bl (!decide (c∈z.cps.toList))) H):qO K true (.str ⟨#[c]⟩) (.str z) H Q:=.inr ⟨_,z,rfl,rfl,by rw[congrArg Bool.not (PySem.StrLaws.found_one z c)];exact h⟩
end
theorem Same.upd (h:H p=none):Same H (L2.upd H p o):=λb u e=>by rw[aK (iU e h)];exact e
theorem KO (h:n<=1000):n<=ba:=b8 h (by rw[cg];decide)
end L2
namespace Mi
open PySem
abbrev D:=ae
set_option genInjectivity true in
inductive Res (α:Type) where
 |ok (a:α)|exc (e:D)|no
namespace Res
def bind {α β:Type}(x:Res α)(f:α->Res β):Res β:=match x with
 |.ok a=>f a
 |.exc e=>.exc e
 |.no=>.no
instance:Monad Res where
 pure:=.ok
 bind:=Res.bind
theorem aC {α β:Type}(a:α)(f:α->Res β):(Res.ok a>>=f)=f a:=rfl
def eQ {α:Type}:Option α->Res α
 |some a=>.ok a
 |none=>.no
theorem aA {α β:Type}{x:Res α}{f:α->Res β}{b:β}(h:(x>>=f)=.ok b):∃a,x=.ok a/\f a=.ok b:=by
 cases x with
 |ok a=>exact⟨a,rfl,h⟩
 |exc e=>cases h
 |no=>cases h
end Res
mutual
def imm:ae->Bool
 |.tuple xs=>imms xs
 |.list _=>false
 |.dict _=>false
 |.none=>true
 |.bool _=>true
 |.int _=>true
 |.str _=>true
def imms:List ae->Bool
 | []=>true
 |x::xs=>imm x&&imms xs
end
theorem xT:∀{xs:List D},imms xs=true↔∀x∈xs,imm x=true
 | []=>by simp[imms]
 |x::xs=>by rw[imms,bh,xT];simp
abbrev eqD:D->D->Bool:=PyData.eqv
mutual
def bY:Nat->ae->Bool
 |0,.tuple _=>false
 |0,.list _=>false
 |n+1,.tuple xs=>iX n xs
 |n+1,.list xs=>iX n xs
 |_,.dict _=>false
 |_,.none=>true
 |_,.bool _=>true
 |_,.int _=>true
 |_,.str _=>true
def iX:Nat->List ae->Bool
 |_,[]=>true
 |n,x::xs=>bY n x&&iX n xs
end
def truth:ae->Bool
 |.none=>false
 |.bool b=>b
 |.int i=>!decide (i=0)
 |.str x=>!decide (x.length=0)
 |.tuple xs=>!xs.isEmpty
 |.list xs=>!xs.isEmpty
 |.dict es=>!es.isEmpty
def lB (n:Nat)(i:Int):Option Nat:=if 0<=i then(if i<n then some i.toNat else none)else if -(n:Int)<=i then some (i+n).toNat else none
def cF {α:Type}(xs:List α)(i:Int):Option α:=(lB xs.length i).bind λj=>xs[j]?
def aU (n d:Nat):Option Int->Nat
 |none=>d
 |some v=>if v<0 then(v+(n:Int)).toNat else min v.toNat n
def cut {α:Type}(xs:List α)(lo hi:Option Int):List α:=(xs.drop (aU xs.length 0 lo)).take (aU xs.length xs.length hi-aU xs.length 0 lo)
def eqK:ae->ae->Bool
 |.int a,y=>match y with|.int b=>a==b|_=>false
 |.str a,y=>match y with|.str b=>decide (a=b)|_=>false
 |_,_=>false
def tJ:ae->Bool
 |.int _=>true
 |.str _=>true
 |_=>false
abbrev lF:=List (D×D)
def gO (es:lF)(k:D):Option D:=(es.find? λe=>eqK e.1 k).map (·.2)
section
inductive G where
 |fr|od|al|nu
 deriving Inhabited,DecidableEq
abbrev Rho:=List (Option (G×D))
abbrev GD:=G×D
inductive Tg where
 |nm (i:Nat)|tp (is:List Nat)
 deriving Inhabited,DecidableEq
inductive C where
 |var (i:Nat)|non|bl (b:Bool)|int (i:Int)|str (x:Str)|glob (k:Nat) (x:Str)|bin (op:qz) (a b:C)|cmp (op:CmpOp) (a b:C)|chain (op op':CmpOp) (a b c:C)|jK (neg:Bool) (a:C)|and (a b:C)|or (a b:C)|not (a:C)|tup (xs:C)|lst (xs:C)|gP|ix (a b:C)|sl (a lo hi:C)|call (k:Nat) (f:Str) (args:C)|bi (f:String) (args:C)|lG (f:String) (a:C)|eC (a:C) (ts:List String)|mt (m:String) (o args:C)|comp (nt:Nat) (js:List Nat) (N':List Str) (tg:Tg) (it cond elt:C)|xU (a:C)|tK (a b:C)|gQ (args:C)|enum (a:C)|zip (a b:C)|mO (a:C)|tv (a:C)|fW (b:Bool) (x:Str)|lset (a:C)|nil|cons (a r:C)
 deriving Inhabited
inductive S where
 |nil|seq (a b:S)|bad|asg (t:Tg) (e:C)|mut (m:String) (i:Nat) (args:C)|ret (e:C)|bA (c:C) (a b:S)|bP (t:Tg) (it:C) (b:S)|cnt
 deriving Inhabited
inductive Out where
 |nx (Y:Rho)|rt (g:G) (d:D)|bk (Y:Rho)|ct (Y:Rho)
abbrev Fn:=List D->Res GD
def LIM:Nat:=1000000
def KP:G->G
 |.fr=>.al
 |.od=>.od
 |.al=>.al
 |.nu=>.nu
def vM:Option (Option GD)->Res GD
 |some (some (g,d))=>.ok (if imm d then .fr else KP g,d)
 |_=>.no
def fX:D->Res Bool
 |.str x=>if x.length<=LIM then .ok (!decide (x.length=0))else .no
 |d=>.ok (truth d)
def iY:G->G
 |.fr=>.fr
 |.od=>.al
 |.al=>.al
 |.nu=>.fr
def agG:G->G
 |.fr=>.fr
 |.od=>.al
 |.al=>.al
 |.nu=>.nu
def gJ (d:D)(g:G):G:=if imm d then .fr else g
def gN (d:D)(g:G):G:=match d with
 |.list xs=>if imms xs then .fr else g
 |d=>gJ d g
def bZ (xs:List GD):G:=if xs.all (λx=>x.1==.fr)then .fr else if xs.all (λx=>x.1==.fr||x.1==.nu)then .nu else .al
def tL (xs:List GD):G:=if xs.all (λx=>x.1==.fr)then .fr else .al
def okIn (x:GD):Bool:=imm x.2||(x.1==.fr||x.1==.nu)
def qQ (es:lF):Bool:=es.all λe=>imm e.2
def z10:GD->GD
 |(g,d)=>if imm d then(.al,d)else match g,d with
  |.fr,.list xs=>(if imms xs then .fr else .nu,.list xs)
  |.fr,.dict es=>(if qQ es then .fr else .nu,.dict es)
  |.fr,d=>(.nu,d)
  |.nu,d=>(.nu,d)
  |.od,d=>(.od,d)
  |.al,d=>(.al,d)
def jL:GD->GD
 |(g,d)=>match g with|.od=>(.od,d)|_=>(.al,d)
def fO:Option GD->Option GD
 |some (.fr,d)=>some (.al,d)
 |some (.nu,d)=>some (.al,d)
 |s=>s
def pR:Option GD->Option GD
 |some (.al,d)=>if imm d then some (.al,d)else none
 |s=>s
def tM:Rho->List Nat->List D->G->Option Rho
 |Y,[],[],_=>some Y
 |Y,i::is,d::ds,g=>tM (Y.set i (some (jL (gJ d g,d)))) is ds g
 |_,_,_,_=>none
def fE:Tg->GD->Rho->Res Rho
 |.nm i,x,Y=>.ok (Y.set i (some (jL x)))
 |.tp is,(g,.tuple ds),Y=>Res.eQ (tM Y is ds g)
 |.tp is,(g,.list ds),Y=>Res.eQ (tM Y is ds g)
 |_,_,_=>.no
def ET:D->Res D
 |.str x=>if x.length<=LIM then .ok (.int x.length)else .no
 |.tuple xs=>.ok (.int xs.length)
 |.list xs=>.ok (.int xs.length)
 |.dict es=>.ok (.int es.length)
 |_=>.no
def qR {α:Type}(n:Nat)(xs:List α):List α:=(bq n xs).flatten
def cH:qz->D->D->Res D
 |.Add,.int a,.int b=>.ok (.int (a+b))
 |.Add,.str a,.str b=>if a.length+b.length<=LIM then .ok (.str (a++b))else .no
 |.Add,.list a,.list b=>if a.length+b.length<=LIM then .ok (.list (a++b))else .no
 |.Add,.tuple a,.tuple b=>if a.length+b.length<=LIM then .ok (.tuple (a++b))else .no
 |.Sub,.int a,.int b=>.ok (.int (a-b))
 |.Mult,.str a,.int n=>if 0<=n/\n<=LIM/\a.length*n.toNat<=LIM then .ok (.str ⟨(qR n.toNat a.cps.toList).toArray⟩)else .no
 |.Mult,.int a,.int b=>if(-(2 ^ 64)<a/\a<2 ^ 64)\/(-(2 ^ 64)<b/\b<2 ^ 64)then .ok (.int (a*b))else .no
 |.FloorDiv,.int a,.int b=>if 0<b/\b<2 ^ 200 then .ok (.int (a/b))else .no
 |.Mod,.int a,.int b=>if 0<b then .ok (.int (a%b))else .no
 |.Pow,.int a,.int b=>if 0<=b/\b<=1000/\a.natAbs<2 ^ 64 then .ok (.int (a ^ b.toNat))else .no
 |_,_,_=>.no
def inD (x:D):D->Res Bool
 |.list xs=>if bY 40 x&&iX 40 xs then .ok (xs.any λy=>eqD y x)else .no
 |.tuple xs=>if bY 40 x&&iX 40 xs then .ok (xs.any λy=>eqD y x)else .no
 |.dict es=>if tJ x then .ok (gO es x).isSome else .no
 |.str z=>match x with
  |.str w=>(match w.cps.toList with| [c]=>.ok (decide (c∈z.cps.toList))|_=>.no)
  |_=>.no
 |_=>.no
def cmpD:CmpOp->D->D->Res Bool
 |.Eq,x,y=>if bY 40 x&&bY 40 y then .ok (eqD x y)else .no
 |.NotEq,x,y=>if bY 40 x&&bY 40 y then .ok (!eqD x y)else .no
 |.Lt,.int a,.int b=>.ok (decide (a<b))
 |.LtE,.int a,.int b=>.ok (decide (a<=b))
 |.Gt,.int a,.int b=>.ok (decide (b<a))
 |.Lt,.str a,.str b=>.ok (decide (a.cps.toList<b.cps.toList))
 |.LtE,.str a,.str b=>.ok (!decide (b.cps.toList<a.cps.toList))
 |.Gt,.str a,.str b=>.ok (decide (b.cps.toList<a.cps.toList))
 |.In,x,y=>inD x y
 |.NotIn,x,y=>inD x y>>=λb=>.ok (!b)
 |_,_,_=>.no
def iG:D->D->Res D
 |.list xs,.int i=>Res.eQ (cF xs i)
 |.tuple xs,.int i=>Res.eQ (cF xs i)
 |.str z,.int i=>if z.length<=LIM then Res.eQ ((cF z.cps.toList i).map λc=>.str ⟨#[c]⟩)else .no
 |.dict es,k=>if tJ k then Res.eQ (gO es k)else .no
 |_,_=>.no
def fY (z:Str)(lo hi:Option Int):Str:=⟨(cut z.cps.toList lo hi).toArray⟩
def tO:D->Option Int->Option Int->Res D
 |.list xs,lo,hi=>.ok (.list (cut xs lo hi))
 |.tuple xs,lo,hi=>if aU xs.length 0 lo=0/\aU xs.length xs.length hi=xs.length then .no else .ok (.tuple (cut xs lo hi))
 |.str z,lo,hi=>if z.length<=LIM then .ok (.str (fY z lo hi))else .no
 |_,_,_=>.no
def vN:D->Res (Option Int)
 |.int i=>.ok (some i)
 |_=>.no
def z56:D->Res (List D)
 |.list xs=>.ok xs
 |.tuple xs=>.ok xs
 |.str z=>if z.length<=LIM then .ok (z.cps.toList.map λc=>.str ⟨#[c]⟩)else .no
 |_=>.no
def allB:List D->Option (List Bool)
 | []=>some []
 |.bool b::r=>(allB r).map (b:: ·)
 |_=>none
def cN:List D->Option (List Str)
 | []=>some []
 |.str b::r=>(cN r).map (b:: ·)
 |_=>none
def z4c:D->Res (Bool×List D)
 |.list xs=>.ok (true,xs)
 |.tuple xs=>.ok (false,xs)
 |_=>.no
def aggD (f:String)(l:Bool)(xs:List D):Res D:=
 if f="list"then .ok (.list xs)
 else if f="tuple"then .ok (.tuple xs)
 else if f="all"then(if l then Res.eQ ((allB xs).map λbs=>.bool (bs.all id))else .no)
 else .no
def vI:D->Option Int
 |.int i=>some i
 |_=>none
def vT:D->Option (List D)
 |.tuple xs=>some xs
 |_=>none
def min2 (x y:D):Res D:=Res.eQ ((vI x).bind λa=>(vI y).map λb=>.int (min a b))
def minD (xs:List D):Res D:=if xs.length=2 then min2 (xs.getD 0 .none) (xs.getD 1 .none)else if xs.length=1 then(match vT (xs.getD 0 .none)with|some ys=>if ys.length=2 then min2 (ys.getD 0 .none) (ys.getD 1 .none)else .no|none=>.no)else .no
def dI:List Str->List Str->List Str
 |acc,[]=>acc
 |acc,z::ws=>dI (if z∈acc then acc else acc++[z]) ws
def KQ (xs:List D):Res D:=match cN xs with
 |some ws=>if decide (ws.length<4000)then .ok (.int ((dI [] ws).length:Int))else .no
 |none=>.no
def vO:D->Res D
 |.tuple xs=>KQ xs
 |_=>.no
def nZ (l:List Nat):Bool:=!l.isEmpty&&l.all λc=>decide (48<=c)&&decide (c<=57)
def qS (l:List Nat):Nat:=l.foldl (λn c=>n*10+(c-48)) 0
def qT (x:Str):Res D:=if nZ x.cps.toList&&decide (x.length<=600)then .ok (.int (qS x.cps.toList:Int))else .no
def lH (y:Str):Option Nat:=match y.cps.toList with
 | [c]=>some c
 |_=>none
def toS (l:List Nat):Str:=⟨l.toArray⟩
def aT (c:Nat):List Nat->List (List Nat)
 | []=>[[]]
 |a::r=>if a=c then[]::aT c r else(match aT c r with|h::t=>(a::h)::t| []=>[[a]])
def gR:D->D->Res D
 |.str x,.str y=>match lH y with
  |some c=>if decide (x.length<=LIM)then .ok (.list ((aT c x.cps.toList).map λl=>.str (toS l)))else .no
  |none=>.no
 |_,_=>.no
def EU (x y:Str):Res D:=match lH y with
 |some c=>if decide (x.length<=LIM)then .ok (.tuple [.str (toS (x.cps.toList.takeWhile (· != c))),.str (if x.cps.toList.contains c then y else ""),.str (toS ((x.cps.toList.dropWhile (· != c)).drop 1))])else .no
 |none=>.no
def EV (x y:Str):Res D:=match lH y with
 |some c=>.ok (.int (match x.cps.toList.findIdx? (· ==c)with|some i=>(i:Int)|none=>-1))
 |none=>.no
def gS (f:String)(xs:List D):Res D:=
 if f="len"then(match xs with| [x]=>ET x|_=>.no)
 else if f="int"then(match xs with| [.int a]=>.ok (.int a)| [.bool b]=>.ok (.int (if b then 1 else 0))| [.str x]=>qT x|_=>.no)
 else if f="min"then minD xs
 else .no
def gU:D->String
 |.none=>"NoneType"|.bool _=>"bool"|.int _=>"int"|.str _=>"str"|.tuple _=>"tuple"|.list _=>"list"|.dict _=>"dict"
def jM (t T:String):Bool:=t==T||(t=="bool"&&T=="int")
def lI (sep:List Nat):List Str->List Nat
 | []=>[]
 |x::r=>x.cps.toList++(r.map λp=>sep++p.cps.toList).flatten
def z0e (sep:Str)(xs:List Str):Str:=⟨(lI sep.cps.toList xs).toArray⟩
def qU (sep:Str)(xs:List Str):Nat:=(xs.map (·.length)).sum+xs.length*sep.length
def mtD (m:String)(o:D)(xs:List D):Res D:=
 if m="get"then(match o,xs with|.dict es,[k,d]=>if tJ k then .ok ((gO es k).getD d)else .no|_,_=>.no)
 else if m="join"then(match o,xs with|.str z,[.list ys]=>(match cN ys with|some ss=>if qU z ss<=LIM then .ok (.str (z0e z ss))else .no|none=>.no)|_,_=>.no)
 else if m="partition"then(match o,xs with|.str x,[.str y]=>EU x y|_,_=>.no)
 else if m="find"then(match o,xs with|.str x,[.str y]=>EV x y|_,_=>.no)
 else .no
def Cj:D->Res D
 |.str z=>if z.cps.toList.all (λc=>decide (97<=c)&&decide (c<=122))&&decide (z.length<=LIM)then .ok (.str ⟨(z.cps.toList.map (· -32)).toArray⟩)else .no
 |_=>.no
def eJ:List D->Res (List D)
 | [.int n]=>if n<=LIM/\-LIM<=n then .ok ((cj n.toNat).map λ(i:Nat)=>.int i)else .no
 | [.int a,.int b]=>if -LIM<=a/\b<=LIM/\a<=LIM/\-LIM<=b then .ok ((cj (b-a).toNat).map λ(i:Nat)=>.int (a+i))else .no
 | [.int a,.int b,.int c]=>if -LIM<=a/\b<=LIM/\a<=LIM/\-LIM<=b/\0<c/\c<=LIM then .ok ((cj (if a<b then((b-a-1)/c+1).toNat else 0)).map λ(i:Nat)=>.int (a+i*c))else .no
 |_=>.no
def z0o:Nat->List D->List D
 |_,[]=>[]
 |i,x::xs=>.tuple [.int i,x]::z0o (i+1) xs
def zipD:List D->List D->List D
 |x::xs,y::ys=>.tuple [x,y]::zipD xs ys
 |_,_=>[]
def seqR:D->Res (List D)
 |.list xs=>if decide (xs.length<=LIM)then .ok xs else .no
 |.tuple xs=>if decide (xs.length<=LIM)then .ok xs else .no
 |_=>.no
def oc:Option GD->List GD->List GD
 |some y,r=>y::r
 |none,r=>r
def lJ (f:D->Res (Option GD)):List D->Res (List GD)
 | []=>.ok []
 |x::xs=>f x>>=λo=>lJ f xs>>=λr=>.ok (oc o r)
variable (Κ:List D)(Φ:List Fn)
mutual
def aG:C->Rho->Res GD
 |.var i,Y=>vM Y[i]?
 |.non,_=>.ok (.fr,.none)
 |.bl b,_=>.ok (.fr,.bool b)
 |.int i,_=>.ok (.fr,.int i)
 |.str x,_=>.ok (.fr,.str x)
 |.fW b _,_=>.ok (.fr,.bool b)
 |.lset a,Y=>aG a Y>>=λx=>vO x.2>>=λd=>.ok (.fr,d)
 |.glob k _,_=>match Κ[k]? with|some d=>if imm d then .ok (.fr,d)else .no|none=>.no
 |.bin op a b,Y=>aG a Y>>=λx=>aG b Y>>=λy=>cH op x.2 y.2>>=λd=>.ok (gN d (bZ [x,y]),d)
 |.cmp op a b,Y=>aG a Y>>=λx=>aG b Y>>=λy=>cmpD op x.2 y.2>>=λb=>.ok (.fr,.bool b)
 |.chain op op' a b c,Y=>aG a Y>>=λx=>aG b Y>>=λy=>cmpD op x.2 y.2>>=λk=>if k then aG c Y>>=λz=>cmpD op' y.2 z.2>>=λk'=>.ok (.fr,.bool k')else .ok (.fr,.bool false)
 |.jK ng a,Y=>aG a Y>>=λx=>.ok (.fr,.bool (match x.2 with|.none=>!ng|_=>ng))
 |.and a b,Y=>aG a Y>>=λx=>match x.2 with|.bool c=>if c then aG b Y else .ok (.fr,.bool false)|_=>.no
 |.or a b,Y=>aG a Y>>=λx=>match x.2 with|.bool c=>if c then .ok (.fr,.bool true)else aG b Y|_=>.no
 |.not a,Y=>aG a Y>>=λx=>fX x.2>>=λc=>.ok (.fr,.bool (!c))
 |.tup xs,Y=>dM xs Y>>=λys=>.ok (gJ (.tuple (ys.map (·.2))) (bZ ys),.tuple (ys.map (·.2)))
 |.lst xs,Y=>dM xs Y>>=λys=>.ok (bZ ys,.list (ys.map (·.2)))
 |.gP,_=>.ok (.fr,.dict [])
 |.ix a b,Y=>aG a Y>>=λx=>aG b Y>>=λy=>iG x.2 y.2>>=λd=>.ok (gJ d x.1,d)
 |.sl a lo hi,Y=>aG a Y>>=λx=>vP lo Y>>=λl=>vP hi Y>>=λh=>tO x.2 l h>>=λd=>.ok (gN d (bZ [x]),d)
 |.call k _ args,Y=>dM args Y>>=λys=>match Φ[k]? with|some m=>m (ys.map (·.2))>>=λr=>.ok (gJ r.2 (iY r.1),r.2)|none=>.no
 |.bi f args,Y=>dM args Y>>=λys=>gS f (ys.map (·.2))>>=λd=>.ok (gJ d .al,d)
 |.lG f a,Y=>EW a Y>>=λw=>aggD f w.2.1 w.2.2>>=λd=>.ok (gJ d (if imms w.2.2 then .fr else agG w.1),d)
 |.eC a ts,Y=>aG a Y>>=λx=>.ok (.fr,.bool (ts.any λT=>jM (gU x.2) T))
 |.mt m o args,Y=>aG o Y>>=λx=>dM args Y>>=λys=>mtD m x.2 (ys.map (·.2))>>=λd=>.ok (gJ d .al,d)
 |.tK a b,Y=>aG a Y>>=λx=>aG b Y>>=λy=>gR x.2 y.2>>=λd=>.ok (.fr,d)
 |.xU a,Y=>aG a Y>>=λx=>Cj x.2>>=λd=>.ok (.fr,d)
 |.comp nt js _ tg it cond elt,Y=>evW it Y>>=λw=>lJ (λx=>fE tg (gJ x w.1,x) (bq nt none++js.map λj=>fO (Y.getD j none))>>=λρ1=>dU cond ρ1>>=λk=>if k then aG elt ρ1>>=λy=>.ok (some y)else .ok none) w.2>>=λys=>.ok (tL ys,.list (ys.map (·.2)))
 |_,_=>.no
def dU:C->Rho->Res Bool
 |.and a b,Y=>dU a Y>>=λc=>if c then dU b Y else .ok false
 |.or a b,Y=>dU a Y>>=λc=>if c then .ok true else dU b Y
 |.not a,Y=>dU a Y>>=λc=>.ok (!c)
 |.nil,_=>.ok true
 |.tv a,Y=>aG a Y>>=λx=>fX x.2
 |_,_=>.no
def dM:C->Rho->Res (List GD)
 |.nil,_=>.ok []
 |.cons a r,Y=>aG a Y>>=λx=>dM r Y>>=λxs=>.ok (x::xs)
 |_,_=>.no
def vP:C->Rho->Res (Option Int)
 |.nil,_=>.ok none
 |.tv a,Y=>aG a Y>>=λx=>vN x.2
 |_,_=>.no
def EW:C->Rho->Res (G×Bool×List D)
 |.tv a,Y=>aG a Y>>=λx=>z4c x.2>>=λp=>.ok (x.1,p)
 |_,_=>.no
def evW:C->Rho->Res (G×List D)
 |.gQ args,Y=>dM args Y>>=λys=>eJ (ys.map (·.2))>>=λxs=>.ok (.fr,xs)
 |.tv a,Y=>aG a Y>>=λx=>z56 x.2>>=λxs=>.ok (x.1,xs)
 |.enum a,Y=>aG a Y>>=λx=>seqR x.2>>=λxs=>.ok (.al,z0o 0 xs)
 |.mO a,Y=>dM a Y>>=λys=>eJ (ys.map (·.2))>>=λxs=>.ok (.fr,z0o 0 xs)
 |.zip a b,Y=>aG a Y>>=λx=>aG b Y>>=λy=>seqR x.2>>=λxs=>seqR y.2>>=λys=>.ok (.al,zipD xs ys)
 |_,_=>.no
end
def qV:Res Out->(Rho->Res Out)->Res Out
 |.ok (.nx Y),k=>k Y
 |r,_=>r
def cA (f:D->Rho->Res Out):List D->Rho->Res Out
 | [],Y=>.ok (.nx Y)
 |x::xs,Y=>match f x Y with
  |.ok (.nx aH)=>cA f xs aH
  |.ok (.ct aH)=>cA f xs aH
  |.ok (.bk aH)=>.ok (.nx aH)
  |.ok (.rt g d)=>.ok (.rt g d)
  |.exc e=>.exc e
  |.no=>.no
def oA (m:String)(xs:List D)(ys:List GD):Res (List D):=
 if m="append"then(match ys with| [y]=>if okIn y&&decide (xs.length<LIM)then .ok (xs++[y.2])else .no|_=>.no)
 else .no
def EX (Y:Rho)(i:Nat):Bool:=match Y[i]? with
 |some (some (.fr,_))=>true
 |_=>false
def EY (i:Nat)(Y:Rho):Res (G×List D×Rho):=match Y[i]? with
 |some (some (.fr,d))=>z56 d>>=λxs=>.ok (.al,xs,Y.set i (some (.al,d)))
 |_=>.no
def EZ:Option GD->Option GD
 |some (.fr,.list xs)=>some (.al,.list xs)
 |s=>s
def oE (x:GD)(Y:Rho):Res (G×List D×Rho):=match x.2 with
 |.list xs=>if imms xs then .ok (.al,xs,Y.map EZ)else .no
 |_=>.no
def pS (x:GD):Bool:=match x.2 with
 |.list _=>!(x.1==.al)
 |d=>!(x.1==.al)||imm d
def zt (ys:List GD)(Y:Rho):Res (G×List D×Rho):=match ys with
 | [x]=>if pS x then seqR x.2>>=λxs=>.ok (.al,z0o 0 xs,Y)else .no
 |_=>.no
def lK (ys:List GD)(Y:Rho):Res (G×List D×Rho):=match ys with
 | [x,y]=>if pS x&&pS y then seqR x.2>>=λxs=>seqR y.2>>=λzs=>.ok (.al,zipD xs zs,Y)else .no
 |_=>.no
def lL (it:C)(Y:Rho):Bool:=match evW Κ Φ it Y with
 |.ok w=>w.1==.al
 |_=>false
def qW (it:C)(Y:Rho):Res (G×List D×Rho):=evW Κ Φ it Y>>=λw=>if w.1==.al then .no else .ok (w.1,w.2,Y)
def evF (it:C)(Y:Rho):Res (G×List D×Rho):=match it with
 |.tv (.var i)=>if EX Y i then EY i Y else if lL Κ Φ it Y then aG Κ Φ (.var i) Y>>=λx=>oE x Y else qW Κ Φ it Y
 |.tv a=>if lL Κ Φ it Y then aG Κ Φ a Y>>=λx=>oE x Y else qW Κ Φ it Y
 |.enum a=>dM Κ Φ (.cons a .nil) Y>>=λys=>zt ys Y
 |.zip a b=>dM Κ Φ (.cons a (.cons b .nil)) Y>>=λys=>lK ys Y
 |it=>qW Κ Φ it Y
def excOf:Res GD->Option Str
 |.exc (.str c)=>some c
 |_=>none
def aM:S->Rho->Res Out
 |.nil,Y=>.ok (.nx Y)
 |.seq a b,Y=>qV (aM a Y) (aM b)
 |.bad,_=>.no
 |.asg (.nm i) e,Y=>aG Κ Φ e Y>>=λx=>.ok (.nx (Y.set i (some (z10 x))))
 |.asg t e,Y=>aG Κ Φ e Y>>=λx=>fE t x Y>>=λaH=>.ok (.nx aH)
 |.mut m i args,Y=>dM Κ Φ args Y>>=λys=>match Y[i]? with
  |some (some (.fr,.list xs))=>oA m xs ys>>=λxV=>.ok (.nx ((Y.set i (some (.fr,.list xV))).map pR))
  |_=>.no
 |.ret e,Y=>match e with
  |.var i=>match Y[i]? with
   |some (some (g,d))=>.ok (.rt (if imm d then .fr else iY g) d)
   |_=>.no
  |e=>aG Κ Φ e Y>>=λx=>.ok (.rt (iY x.1) x.2)
 |.bA c a b,Y=>dU Κ Φ c Y>>=λk=>if k then aM a Y else aM b Y
 |.bP t it b,Y=>evF Κ Φ it Y>>=λw=>cA (λx ρ1=>fE t (gJ x w.1,x) ρ1>>=λdC=>aM b dC) w.2.1 w.2.2
 |.cnt,Y=>.ok (.ct Y)
def RY (Κ:List D)(Φ:List Fn)(_:S)(_:Rho):Option Str:=none
def bU (n:Nat)(s:S)(ds:List D):Res GD:=match aM Κ Φ s (ds.map (λd=>some (.od,d))++bq (n-ds.length) none)with
 |.ok (.nx _)=>.ok (.fr,.none)
 |.ok (.rt g d)=>.ok (g,d)
 |.ok _=>.no
 |_=>match RY Κ Φ s (ds.map (λd=>some (.od,d))++bq (n-ds.length) none)with
  |some c=>.exc (.str c)
  |none=>.no
end
open PySem.Spec PyProof.Rows L2
def kD:Key->D
 |.inl i=>.int i
 |.inr x=>.str x
def keyOk:Key->Prop
 |.inl _=>True
 |.inr x=>PyData.strOk x=true
def KL (K:W.Frag)(a:Addr)(xs:List V):Prop:=∃(o:Obj) (its:Array Value) (n:Nat),K.lookup a=some o/\o.cls=.type "list"/\o.dict=none/\o.data=.seq its n/\its.size<=ba/\Vals xs its.toList
abbrev Ad:=Option Addr
def FL (K:W.Frag)(H:Hp)(a:Addr)(xs:List V):Prop:=(∃o,H a=some (.gH o (.lst xs)))\/KL K a xs
def nw (H:Hp):Ad->Prop
 |some a=>H a=none
 |none=>False
section
variable (K:W.Frag)(H:Hp)(B:Ad->Prop)
mutual
def Rep:V->ae->Prop
 |v,.none=>v=.non
 |v,.bool b=>v=.bl b
 |v,.int i=>v=.int i
 |v,.str x=>v=.str x/\PyData.strOk x=true
 |v,.tuple ds=>∃a vs,v=.ref a/\cS K H a vs/\aD vs ds
 |v,.list ds=>∃a vs,v=.ref a/\((H a=some (.lst vs)/\B (some a))\/(FL K H a vs/\B none))/\aD vs ds
 |v,.dict es=>∃a kvs,v=.ref a/\H a=some (.dK kvs)/\B (some a)/\cO kvs es
def aD:List V->List ae->Prop
 |vs,[]=>vs=[]
 |vs,d::ds=>∃v r,vs=v::r/\Rep v d/\aD r ds
def cO:List (Key×V)->List (ae×ae)->Prop
 |kvs,[]=>kvs=[]
 |kvs,(kd,d)::es=>∃k v r,kvs=(k,v)::r/\kd=kD k/\keyOk k/\Rep v d/\cO r es
end
end
def Fix:HO->Prop
 |.tup _=>True
 |.gH _ (.lst _)=>True
 |.gH _ (.tup _)=>True
 |_=>False
section
variable {K:W.Frag}{H H':Hp}{B B':Ad->Prop}
theorem FL.keep (hH:∀a o,H a=some o->(B (some a)\/Fix o)->H' a=some o)(r:FL K H a vs):FL K H' a vs:=by
 rcases r with⟨o,r⟩|r
 ·exact .inl ⟨o,hH a _ r (.inr True.intro)⟩
 ·exact .inr r
theorem _root_.L2.cS.keep (hH:∀a o,H a=some o->(B (some a)\/Fix o)->H' a=some o)(r:cS K H a vs):cS K H' a vs:=by
 rcases r with(r|⟨o,r⟩)|r
 ·exact .inl (.inl (hH a _ r (.inr True.intro)))
 ·exact .inl (.inr ⟨o,hH a _ r (.inr True.intro)⟩)
 ·exact .inr r
mutual
theorem Rep.keep (hH:∀a o,H a=some o->(B (some a)\/Fix o)->H' a=some o)(hB:∀a,B a->B' a):∀{v:V} (d:ae),Rep K H B v d->Rep K H' B' v d
 |v,.none,r=>r
 |v,.bool b,r=>r
 |v,.int i,r=>r
 |v,.str x,r=>r
 |v,.tuple ds,r=>by obtain⟨a,vs,e,h,q⟩:=r;exact⟨a,vs,e,h.keep hH,aD.keep hH hB ds q⟩
 |v,.list ds,r=>by
  obtain⟨a,vs,e,h,q⟩:=r;refine⟨a,vs,e,?_,aD.keep hH hB ds q⟩;rcases h with⟨h,b⟩|h
  ·exact .inl ⟨hH a _ h (.inl b),hB _ b⟩
  ·exact .inr ⟨FL.keep hH h.1,hB _ h.2⟩
 |v,.dict es,r=>by obtain⟨a,kvs,e,h,b,q⟩:=r;exact⟨a,kvs,e,hH a _ h (.inl b),hB _ b,cO.keep hH hB es q⟩
theorem aD.keep (hH:∀a o,H a=some o->(B (some a)\/Fix o)->H' a=some o)(hB:∀a,B a->B' a):∀{vs:List V} (ds:List ae),aD K H B vs ds->aD K H' B' vs ds
 |vs,[],r=>r
 |vs,d::ds,r=>by obtain⟨v,t,e,h,q⟩:=r;exact⟨v,t,e,Rep.keep hH hB d h,aD.keep hH hB ds q⟩
theorem cO.keep (hH:∀a o,H a=some o->(B (some a)\/Fix o)->H' a=some o)(hB:∀a,B a->B' a):∀{kvs:List (Key×V)} (es:List (ae×ae)),cO K H B kvs es->cO K H' B' kvs es
 |kvs,[],r=>r
 |kvs,(kd,d)::es,r=>by obtain⟨k,v,t,e,e2,ok,h,q⟩:=r;exact⟨k,v,t,e,e2,ok,Rep.keep hH hB d h,cO.keep hH hB es q⟩
end
theorem Rep.same (s:Same H H')(hB:∀a,B a->B' a)(r:Rep K H B v d):Rep K H' B' v d:=Rep.keep (λa o e _=>s a o e) hB d r
theorem aD.same (s:Same H H')(hB:∀a,B a->B' a)(r:aD K H B vs ds):aD K H' B' vs ds:=aD.keep (λa o e _=>s a o e) hB ds r
theorem cO.same (s:Same H H')(hB:∀a,B a->B' a)(r:cO K H B vs ds):cO K H' B' vs ds:=cO.keep (λa o e _=>s a o e) hB ds r
theorem Rep.weak (hB:∀a,B a->B' a)(r:Rep K H B v d):Rep K H B' v d:=r.same (λ_ _ e=>e) hB
theorem aD.weak (hB:∀a,B a->B' a)(r:aD K H B v d):aD K H B' v d:=r.same (λ_ _ e=>e) hB
mutual
theorem Rep.bL:∀{v:V} (d:ae),imm d=true->Rep K H B v d->Rep K H B' v d
 |v,.none,_,r=>r
 |v,.bool b,_,r=>r
 |v,.int i,_,r=>r
 |v,.str x,_,r=>r
 |v,.tuple ds,i,r=>by obtain⟨a,vs,e,h,q⟩:=r;exact⟨a,vs,e,h,aD.bL ds (i) q⟩
 |v,.list ds,i,r=>by cases(show false=true from i)
 |v,.dict es,i,r=>by cases(show false=true from i)
theorem aD.bL:∀{vs:List V} (ds:List ae),imms ds=true->aD K H B vs ds->aD K H B' vs ds
 |vs,[],_,r=>r
 |vs,d::ds,i,r=>by have i:=bg.mp (show(imm d&&imms ds)=true from i);obtain⟨v,t,e,h,q⟩:=r;exact⟨v,t,e,Rep.bL d i.1 h,aD.bL ds i.2 q⟩
end
mutual
theorem Rep.cP (hH:∀a o,H a=some o->Fix o->H' a=some o):∀{v:V} (d:ae),imm d=true->Rep K H B v d->Rep K H' B' v d
 |v,.none,_,r=>r
 |v,.bool b,_,r=>r
 |v,.int i,_,r=>r
 |v,.str x,_,r=>r
 |v,.tuple ds,i,r=>by obtain⟨a,vs,e,h,q⟩:=r;exact⟨a,vs,e,h.keep (B:=λ_=>False) (λa o e f=>hH a o e (f.resolve_left id)),aD.cP hH ds (i) q⟩
 |v,.list ds,i,r=>by cases(show false=true from i)
 |v,.dict es,i,r=>by cases(show false=true from i)
theorem aD.cP (hH:∀a o,H a=some o->Fix o->H' a=some o):∀{vs:List V} (ds:List ae),imms ds=true->aD K H B vs ds->aD K H' B' vs ds
 |vs,[],_,r=>r
 |vs,d::ds,i,r=>by have i:=bg.mp (show(imm d&&imms ds)=true from i);obtain⟨v,t,e,h,q⟩:=r;exact⟨v,t,e,Rep.cP hH d i.1 h,aD.cP hH ds i.2 q⟩
end
theorem aD.length:∀{vs:List V} {ds:List D},aD K H B vs ds->vs.length=ds.length
 |vs,[],r=>by have e:vs=[]:=r;subst e;rfl
 |vs,d::ds,r=>by obtain⟨v,t,rfl,h,q⟩:=r;rw[ay,ay,q.length]
theorem aD.get:∀{vs:List V} {ds:List D} {i:Nat} {d:D},aD K H B vs ds->ds[i]?=some d->∃v,vs[i]?=some v/\Rep K H B v d
 |vs,[],i,d,r,e=>by simp at e
 |vs,d0::ds,0,d,r,e=>by
  obtain⟨v,t,rfl,h,q⟩:=r;have:d0=d:=by simpa using e
  subst this;exact⟨v,rfl,h⟩
 |vs,d0::ds,i+1,d,r,e=>by obtain⟨v,t,rfl,h,q⟩:=r;obtain⟨u,h1,h2⟩:=q.get (by simpa using e);exact⟨u,by simpa using h1,h2⟩
theorem aD.lM:∀{vs:List V} {ds:List D} {i:Nat} {v:V},aD K H B vs ds->vs[i]?=some v->∃d,ds[i]?=some d/\Rep K H B v d
 |vs,[],i,v,r,e=>by have e1:vs=[]:=r;subst e1;simp at e
 |vs,d0::ds,0,v,r,e=>by
  obtain⟨u,t,rfl,h,q⟩:=r;have:u=v:=by simpa using e
  subst this;exact⟨d0,rfl,h⟩
 |vs,d0::ds,i+1,v,r,e=>by obtain⟨u,t,rfl,h,q⟩:=r;obtain⟨d,h1,h2⟩:=q.lM (by simpa using e);exact⟨d,by simpa using h1,h2⟩
theorem aD.cons {v:V}{d:D}{vs:List V}{ds:List D}(h:Rep K H B v d)(r:aD K H B vs ds):aD K H B (v::vs) (d::ds):=⟨v,vs,rfl,h,r⟩
theorem aD.append:∀{vs ws:List V} {ds es:List D},aD K H B vs ds->aD K H B ws es->aD K H B (vs++ws) (ds++es)
 |vs,ws,[],es,r,q=>by have e:vs=[]:=r;subst e;exact q
 |vs,ws,d::ds,es,r,q=>by obtain⟨v,t,rfl,h,p⟩:=r;exact⟨v,t++ws,rfl,h,p.append q⟩
theorem aD.take:∀{vs:List V} {ds:List D} n,aD K H B vs ds->aD K H B (vs.take n) (ds.take n)
 |vs,ds,0,r=>by rw[List.take_zero];exact rfl
 |vs,[],n+1,r=>by have e:vs=[]:=r;subst e;exact rfl
 |vs,d::ds,n+1,r=>by obtain⟨v,t,rfl,h,p⟩:=r;exact⟨v,t.take n,rfl,h,p.take n⟩
theorem aD.drop:∀{vs:List V} {ds:List D} n,aD K H B vs ds->aD K H B (vs.drop n) (ds.drop n)
 |vs,ds,0,r=>r
 |vs,[],n+1,r=>by have e:vs=[]:=r;subst e;exact rfl
 |vs,d::ds,n+1,r=>by obtain⟨v,t,rfl,h,p⟩:=r;exact p.drop n
mutual
theorem Rep.there:∀{v:V} (d:ae),Rep K H B v d->Rep K H (λa=>B a/\¬nw H a) v d
 |v,.none,r=>r
 |v,.bool b,r=>r
 |v,.int i,r=>r
 |v,.str x,r=>r
 |v,.tuple ds,r=>by obtain⟨a,vs,e,h,q⟩:=r;exact⟨a,vs,e,h,aD.there ds q⟩
 |v,.list ds,r=>by
  obtain⟨a,vs,e,h,q⟩:=r;refine⟨a,vs,e,?_,aD.there ds q⟩;rcases h with⟨h,b⟩|h
  ·refine .inl ⟨h,b,λz=>?_⟩;have z':H a=none:=z;rw[h]at z';cases z'
  ·exact .inr ⟨h.1,h.2,λz=>z⟩
 |v,.dict es,r=>by obtain⟨a,kvs,e,h,b,q⟩:=r;exact⟨a,kvs,e,h,⟨b,λz=>by have z':H a=none:=z;rw[h]at z';cases z'⟩,cO.there es q⟩
theorem aD.there:∀{vs:List V} (ds:List ae),aD K H B vs ds->aD K H (λa=>B a/\¬nw H a) vs ds
 |vs,[],r=>r
 |vs,d::ds,r=>by obtain⟨v,t,e,h,q⟩:=r;exact⟨v,t,e,Rep.there d h,aD.there ds q⟩
theorem cO.there:∀{kvs:List (Key×V)} (es:List (ae×ae)),cO K H B kvs es->cO K H (λa=>B a/\¬nw H a) kvs es
 |kvs,[],r=>r
 |kvs,(kd,d)::es,r=>by obtain⟨k,v,t,e,e2,ok,h,q⟩:=r;exact⟨k,v,t,e,e2,ok,Rep.there d h,cO.there es q⟩
end
end
structure Fm where
 H0:Hp
 V:Addr->Prop
 O:Addr->Option Nat
 z:Prop
def Bin (F:Fm):Ad->Prop
 |some a=>F.O a=none/\F.H0 a=none/\F.V a
 |none=>False
def bM (F:Fm):Ad->Prop
 |some a=>F.V a
 |none=>F.z
def fP (F:Fm):Ad->Prop
 |some a=>F.H0 a≠none/\F.V a
 |none=>F.z
def Slot (K:W.Frag)(F:Fm)(H:Hp)(i:Nat):G->V->D->Prop
 |.fr,v,d=>∃p,v=.ref p/\F.O p=some i/\((∃vs ds,d=.list ds/\H p=some (.lst vs)/\aD K H (Bin F) vs ds)\/(∃kvs es,d=.dict es/\H p=some (.dK kvs)/\cO K H (Bin F) kvs es))
 |.od,v,d=>Rep K H (fP F) v d
 |.al,v,d=>Rep K H (bM F) v d
 |.nu,v,d=>Rep K H (Bin F) v d
structure StOk (K:W.Frag)(F:Fm)(H:Hp)(U:L2.St)(Y:Rho):Prop where
 ext:Same F.H0 H
 aN:∀a,H a=none->F.V a
 own:∀a i,F.O a=some i->F.H0 a=none/\F.V a/\((∃xs,H a=some (.lst xs))\/∃kvs,H a=some (.dK kvs))
 len:U.length=Y.length
 sl:∀i g d,Y[i]?=some (some (g,d))->∃v,U[i]?=some (some v)/\Slot K F H i g v d
def BG (F:Fm)(H:Hp):G->Ad->Prop
 |.fr=>nw H
 |.od=>fP F
 |.al=>bM F
 |.nu=>λa=>nw H a\/Bin F a
section
variable {K:W.Frag}{F:Fm}{H H':Hp}{U:L2.St}{Y:Rho}
theorem Slot.same (s:Same H H')(h:Slot K F H i g v d):Slot K F H' i g v d:=by
 cases g with
 |fr=>
  obtain⟨p,e,o,h⟩:=h;refine⟨p,e,o,?_⟩;rcases h with⟨vs,ds,e1,e2,r⟩|⟨vs,ds,e1,e2,r⟩
  ·exact .inl ⟨vs,ds,e1,s _ _ e2,r.same s λ_ b=>b⟩
  ·exact .inr ⟨vs,ds,e1,s _ _ e2,r.same s λ_ b=>b⟩
 |od=>exact Rep.same s (λ_ b=>b) h
 |al=>exact Rep.same s (λ_ b=>b) h
 |nu=>exact Rep.same s (λ_ b=>b) h
theorem _root_.L2.Same.none (s:Same H H')(h:H' a=none):H a=none:=by
 cases e:H a with
 |none=>rfl
 |some o=>rw[s a o e]at h;cases h
theorem StOk.same (s:Same H H')(h:StOk K F H U Y):StOk K F H' U Y where
 ext:=λa o e=>s a o (h.ext a o e)
 aN:=λa e=>h.aN a (s.none e)
 own:=λa i e=>by
  obtain⟨h1,h3,h2⟩:=h.own a i e;refine⟨h1,h3,?_⟩;rcases h2 with⟨xs,h2⟩|⟨xs,h2⟩
  ·exact .inl ⟨xs,s _ _ h2⟩
  ·exact .inr ⟨xs,s _ _ h2⟩
 len:=h.len
 sl:=λi g d e=>by obtain⟨v,h1,h2⟩:=h.sl i g d e;exact⟨v,h1,h2.same s⟩
theorem nw.back (s:Same H H')(h:nw H' a):nw H a:=by
 cases a with
 |none=>exact h
 |some a=>exact s.none h
theorem nw.aN (hv:∀a,H a=none->F.V a)(h:nw H a):bM F a:=by
 cases a with
 |none=>exact h.elim
 |some a=>exact hv a h
theorem fP.aN (h:fP F a):bM F a:=by
 cases a with
 |none=>exact h
 |some a=>exact h.2
theorem Bin.aN (h:Bin F a):bM F a:=by
 cases a with
 |none=>exact h.elim
 |some a=>exact h.2.2
theorem BG.back (s:Same H H')(h:BG F H' g a):BG F H g a:=by
 cases g with
 |fr=>exact nw.back s h
 |od=>exact h
 |al=>exact h
 |nu=>exact h.elim (λh=>.inl (nw.back s h)) .inr
theorem BG.aN (hv:∀a,H a=none->F.V a)(h:BG F H g a):bM F a:=by
 cases g with
 |fr=>exact nw.aN hv h
 |od=>exact fP.aN h
 |al=>exact h
 |nu=>exact h.elim (nw.aN hv) Bin.aN
theorem Slot.rep (so:∀a i,F.O a=some i->F.V a)(h:Slot K F H i g v d):Rep K H (bM F) v d:=by
 cases g with
 |fr=>
  obtain⟨p,e,o,h⟩:=h;rcases h with⟨vs,ds,rfl,e2,r⟩|⟨vs,ds,rfl,e2,r⟩
  ·exact⟨p,vs,e,.inl ⟨e2,so _ _ o⟩,r.weak λ_ b=>b.aN⟩
  ·exact⟨p,vs,e,e2,so _ _ o,cO.same (λ_ _ e=>e) (λ_ b=>b.aN) r⟩
 |od=>exact Rep.weak (λ_ b=>b.aN) h
 |al=>exact h
 |nu=>exact Rep.weak (λ_ b=>Bin.aN b) h
theorem StOk.jN (h:StOk K F H U Y):∀a i,F.O a=some i->F.V a:=λa i e=>(h.own a i e).2.1
theorem StOk.rd (h:StOk K F H U Y){i:Nat}(e:vM Y[i]?=.ok x):∃v,U[i]?=some (some v)/\Rep K H (BG F H x.1) v x.2:=by
 cases e1:Y[i]? with
 |none=>rw[e1]at e;cases e
 |some o=>
  cases o with
  |none=>rw[e1]at e;cases e
  |some gd=>
   obtain⟨g,d⟩:=gd;rw[e1]at e;obtain⟨v,h1,h2⟩:=h.sl i g d e1;have e':=(Res.ok.inj e).symm;subst e';refine⟨v,h1,?_⟩;by_cases hi:imm d=true
   ·show Rep K H (BG F H (if imm d=true then _ else _)) v d;exact Rep.bL d hi (h2.rep h.jN)
   ·show Rep K H (BG F H (if imm d=true then _ else _)) v d;rw[vz hi];cases g with
    |fr=>exact h2.rep h.jN
    |od=>exact h2
    |al=>exact h2
    |nu=>exact Rep.weak (λ_ b=>.inr b) h2
end
structure Gm where
 N:List Str
 sc:Scope
 blk:Bool:=false
 free:List Str
 fns:List (Str×Nat)
 cst:List Str
 cm:Bool:=true
 xc:Option (Str×Str):=none
 sub:List (Str×Str×Bool):=[]
 rs:List Str:=[]
 fF:List (Str×Str):=[]
section
variable (Γ:Gm)
def lN (i:Nat)(x:Str):Bool:=(Γ.N[i]?==some x)&&(Γ.sc.names.lookup x==some .local||Γ.sc.names.lookup x==some .cell||Γ.sc.names.lookup x==some .free)&& !(x==("__debug__":Str))&& !(x==("__classdict__":Str))
def mP (x:Str):Bool:=(Γ.sc.names.lookup x==some .globalImplicit)&& !(x==("__debug__":Str))
def cI (x:Str):Bool:=mP Γ x&&Γ.free.contains x&& !(x==("__name__":Str))
def oF (i:Nat)(x:Str):Bool:=(Γ.N[i]?==some x)&&(Γ.sc.names.lookup x==some .local||(!Γ.blk&&Γ.sc.names.lookup x==some .cell))
end
def tgIx:Tg->List Nat
 |.nm i=>[i]
 |.tp is=>is
def E2 (scope sc:Scope):Scope:={scope with names:=scope.names.map λ(n,k)=>if(k==.free&&sc.kind==.function&&sc.names.lookup n==some .cell)then(n,.cell)else(n,k)}
def plainT:Expr->Bool
 |.UnaryOp .Not _ _=>false
 |.BoolOp _ _ _=>false
 |.IfExp _ _ _ _=>false
 |.Compare _ _ _ _=>false
 |_=>true
def KR:Expr->Bool
 |.Compare _ _ _ _=>true
 |_=>false
def z4v:Expr->Bool
 |.Slice _ _ _ _=>false
 |_=>true
def z0f:Expr->Bool
 |.Call (.Name _ _) [] [] _=>false
 |_=>true
def xW:Expr->Bool
 |.Set _ _ _=>false
 |_=>true
def isTup:Expr->Bool
 |.Tuple _ _ _=>true
 |_=>false
def E3:Expr->Option Str
 |.Name x _=>some x
 |_=>none
def jO:Expr->Option Const
 |.Constant v _ _=>some v
 |_=>none
def vQ:Expr->Option (Expr×qz×Expr)
 |.BinOp l o r _=>some (l,o,r)
 |_=>none
def Ck:Expr->Option (UnaryOp×Expr)
 |.UnaryOp o x _=>some (o,x)
 |_=>none
def vR:Expr->Option (Expr×List CmpOp×List Expr)
 |.Compare l o r _=>some (l,o,r)
 |_=>none
def xX:Expr->Option (BoolOp×List Expr×Pos)
 |.BoolOp o xs p=>some (o,xs,p)
 |_=>none
def zu:Expr->Option (Expr×Expr×Expr)
 |.IfExp t x y _=>some (t,x,y)
 |_=>none
def qX:Expr->Option (List Expr)
 |.Tuple es _ _=>some es
 |_=>none
def vS:Expr->Option (List Expr)
 |.List es _=>some es
 |_=>none
def E4:Expr->Option (List (Option Expr)×List Expr)
 |.Dict k v _=>some (k,v)
 |_=>none
def oG:Expr->Option (Expr×Expr)
 |.Subscript x i _=>some (x,i)
 |_=>none
def zv:Expr->Option (Option Expr×Option Expr×Option Expr)
 |.Slice l h s _=>some (l,h,s)
 |_=>none
def E5:Expr->Option (Expr×List Expr×List qd×Pos)
 |.Call f es k p=>some (f,es,k,p)
 |_=>none
def xY:Expr->Option (Expr×Str×Pos)
 |.Attribute x n p=>some (x,n,p)
 |_=>none
def KS:Expr->Option (Expr×List Comprehension×Scope)
 |.ListComp el gs s _=>some (el,gs,s)
 |_=>none
def bI {α:Type}:List α->Option α
 | [x]=>some x
 |_=>none
def oH {α:Type}:List α->Option (α×α)
 | [x,y]=>some (x,y)
 |_=>none
def gV (e:Expr):Option (Str×List Expr):=(E5 e).bind λv=>if v.2.2.1.isEmpty then(E3 v.1).map λx=>(x,v.2.1)else none
def pT (e:Expr):Option (Expr×Str×List Expr×Bool):=(E5 e).bind λv=>if v.2.2.1.isEmpty then(xY v.1).map λu=>(u.1,u.2.1,v.2.1,u.2.2.endLine==v.2.2.2.line)else none
def xZ (f g:Expr->Bool)(o:BoolOp)(p:Pos):List Expr->Bool
 |x::y::r=>f x&&(if r.isEmpty then g y else g (.BoolOp o (y::r) p))
 |_=>false
def zw (n:Bool)(f:Expr->Bool):List Expr->Bool
 | []=>n
 |t::r=>r.isEmpty&&f t
def zy:C->Bool
 |.nil=>true
 |_=>false
def lO (f:Str->Bool)(e:Expr):Bool:=(E3 e).any f
def E6 (Γ:Gm):List Nat->List Expr->Bool
 | [],es=>es.isEmpty
 |i::is,es=>match es with|e::es=>lO (oF Γ i) e&&E6 Γ is es| []=>false
def vU (Γ:Gm):Tg->Expr->Bool
 |.nm i,e=>lO (oF Γ i) e
 |.tp is,e=>Γ.cm&&(qX e).any (E6 Γ is)
def Cm:qz->Bool
 |.Add|.Sub|.Mult|.FloorDiv|.Mod|.Pow=>true
 |_=>false
def z28:CmpOp->Bool
 |.Is|.IsNot|.GtE=>false
 |_=>true
def E7 (T:String):Bool:=tysB.contains T
def tyB (Γ:Gm)(T:String)(t:Expr):Bool:=lO (λx=>(x==Str.ofString T)&&cI Γ x&&E7 T) t
def zA:List String:=["list","tuple","all"]
def RZ:Tg->Bool
 |.nm _=>true
 |.tp _=>false
def isNm:Expr->Bool
 |.Name _ _=>true
 |_=>false
def Cn:C->Expr->Bool
 |.enum _,e=>isTup e
 |.mO _,e=>isTup e
 |.zip _ _,e=>isTup e||isNm e
 |_,_=>true
mutual
def chkE (Γ:Gm):C->Expr->Bool
 |.var i,e=>lO (lN Γ i) e
 |.non,e=>decide (jO e=some .none)
 |.bl b,e=>decide (jO e=some (.bool b))
 |.int i,e=>decide (jO e=some (.int i))
 |.str x,e=>decide (jO e=some (.str x))&&PyData.strOk x
 |.glob k x,e=>lO (λy=>(x==y)&&mP Γ x&&(Γ.cst[k]?==some x)) e
 |.bin op a b,e=>(vQ e).any λv=>decide (op=v.2.1)&&Cm op&&chkE Γ a v.1&&chkE Γ b v.2.2
 |.cmp op a b,e=>(vR e).any λv=>decide (v.2.1=[op])&&(bI v.2.2).any λr=>z28 op&& !(fj op r)&&chkE Γ a v.1&&chkE Γ b r
 |.chain op op' a b c,e=>(vR e).any λv=>decide (v.2.1=[op,op'])&&(oH v.2.2).any λr=>z28 op&&z28 op'&& !(pw [op,op'] [r.1,r.2])&&chkE Γ a v.1&&(chkE Γ b r.1&&chkE Γ c r.2)
 |.jK ng a,e=>(vR e).any λv=>decide (v.2.1=[if ng then .IsNot else .Is])&&(bI v.2.2).any λr=>decide (jO r=some .none)&&chkE Γ a v.1
 |.and a b,e=>(xX e).any λv=>decide (v.1=.And)&&xZ (λx=>chkE Γ a x) (λx=>chkE Γ b x) .And v.2.2 v.2.1
 |.or a b,e=>(xX e).any λv=>decide (v.1=.Or)&&xZ (λx=>chkE Γ a x) (λx=>chkE Γ b x) .Or v.2.2 v.2.1
 |.not a,e=>(Ck e).any λv=>decide (v.1=.Not)&&chkE Γ a v.2
 |.tup xs,e=>(qX e).any λes=>decide (es.length<=1000)&&dO Γ xs es
 |.lst xs,e=>(vS e).any λes=>decide (es.length<=1000)&&dO Γ xs es
 |.gP,e=>(E4 e).any λv=>v.1.isEmpty&&v.2.isEmpty
 |.ix a b,e=>(oG e).any λv=>z4v v.2&&chkE Γ a v.1&&chkE Γ b v.2
 |.sl a lo hi,e=>(oG e).any λv=>(zv v.2).any λs=>s.2.2.isNone&&chkE Γ a v.1&&qY Γ lo s.1&&qY Γ hi s.2.1
 |.call k f args,e=>(gV e).any λv=>(Γ.cm&&(v.1==f))&&mP Γ v.1&&(Γ.fns[k]?==some (f,v.2.length))&&dO Γ args v.2&& !v.2.isEmpty
 |.lset a,e=>(gV e).any λv=>(v.1==("len":Str))&&(Γ.cm&&cI Γ v.1)&&(bI v.2).any λy=>!isStar y&&(gV y).any λu=>(u.1==("set":Str))&&cI Γ u.1&&(bI u.2).any λz=>!isStar z&&chkE Γ a z
 |.bi f args,e=>(gV e).any λv=>(v.1==Str.ofString f)&&cI Γ v.1&&((["len","min","int"].contains f)&&(Γ.cm||f=="int"))&&dO Γ args v.2&& !v.2.isEmpty
 |.lG f a,e=>(gV e).any λv=>(v.1==Str.ofString f)&&cI Γ v.1&&(zA.contains f&&Γ.cm)&&(bI v.2).any λy=>!isStar y&&vV Γ a y
 |.eC a ts,e=>(gV e).any λv=>(v.1==("isinstance":Str))&&cI Γ v.1&&(oH v.2).any λy=>!isStar y.1&&chkE Γ a y.1&&(bI ts).any λT=>tyB Γ T y.2
 |.mt m o args,e=>(pT e).any λv=>((v.2.1==Str.ofString m)&& ["join"].contains m&&z0f v.1&&v.2.2.2&&decide (v.2.2.1.length<20))&&chkE Γ o v.1&&dO Γ args v.2.2.1&& !v.2.2.1.isEmpty
 |.comp nt js N' tg it cond elt,e=>(KS e).any λv=>(bI v.2.1).any λg=>let E8:Gm:={Γ with N:=N',sc:=E2 v.2.2 Γ.sc,blk:=true,xc:=none}
  ((Γ.cm&&(g.is_async==0))&&(tgIx tg).all (λi=>decide (i<nt))&&vE Γ.N Γ.sc v.2.2 N' nt js&&xW g.iter&&decide N'.Nodup)&&(vU E8 tg g.target&&Cn it g.target)&&jP Γ it g.iter&&zw (zy cond) (λt=>eX E8 cond t) g.ifs&&chkE E8 elt v.1
 |.tK a b,e=>(pT e).any λv=>((v.2.1==("split":Str))&&z0f v.1&&v.2.2.2)&&chkE Γ a v.1&&(bI v.2.2.1).any λy=>!isStar y&&chkE Γ b y
 |.xU a,e=>(pT e).any λv=>((v.2.1==("upper":Str))&&z0f v.1&&v.2.2.2)&&v.2.2.1.isEmpty&&chkE Γ a v.1
 |.fW b x,e=>(gV e).any λv=>(v.1==("isinstance":Str))&&cI Γ v.1&&(oH v.2).any λy=>Γ.xc.any λz=>lO (λn=>(n==z.1)&&(Γ.sc.names.lookup n==some .local)&& !(n==("__debug__":Str))&& !(n==("__classdict__":Str))) y.1&&lO (λC=>(C==x)&&mP Γ C&&Γ.sub.contains (z.2,x,b)) y.2
 |.gQ _,_=>false
 |.enum _,_=>false
 |.mO _,_=>false
 |.zip _ _,_=>false
 |.tv _,_=>false
 |.nil,_=>false
 |.cons _ _,_=>false
def eX (Γ:Gm):C->Expr->Bool
 |.and a b,e=>(xX e).any λv=>decide (v.1=.And)&&xZ (λx=>eX Γ a x) (λx=>eX Γ b x) .And v.2.2 v.2.1
 |.or a b,e=>(xX e).any λv=>decide (v.1=.Or)&&xZ (λx=>eX Γ a x) (λx=>eX Γ b x) .Or v.2.2 v.2.1
 |.not a,e=>(Ck e).any λv=>decide (v.1=.Not)&&eX Γ a v.2
 |.tv a,e=>(plainT e||KR e)&&chkE Γ a e
 |_,_=>false
def dO (Γ:Gm):C->List Expr->Bool
 |.nil,es=>es.isEmpty
 |.cons a r,es=>match es with|e::es=>!isStar e&&chkE Γ a e&&dO Γ r es|_=>false
 |_,_=>false
def qY (Γ:Gm):C->Option Expr->Bool
 |.nil,e=>e.isNone
 |.tv a,e=>e.any λe=>chkE Γ a e
 |_,_=>false
def jP (Γ:Gm):C->Expr->Bool
 |.gQ args,e=>(gV e).any λv=>(v.1==("range":Str))&&cI Γ v.1&&dO Γ args v.2&&(!v.2.isEmpty&&decide (v.2.length<=1))
 |.tv a,e=>xW e&&chkE Γ a e
 |.enum a,e=>(gV e).any λv=>(v.1==("enumerate":Str))&&cI Γ v.1&&(bI v.2).any λy=>!isStar y&&chkE Γ a y
 |.mO a,e=>(gV e).any λv=>(v.1==("enumerate":Str))&&cI Γ v.1&&(bI v.2).any λy=>(gV y).any λu=>(u.1==("range":Str))&&cI Γ u.1&&dO Γ a u.2&&decide (u.2.length=3)
 |.zip a b,e=>(gV e).any λv=>(v.1==("zip":Str))&&cI Γ v.1&&(oH v.2).any λy=>(!isStar y.1&& !isStar y.2)&&chkE Γ a y.1&&chkE Γ b y.2
 |_,_=>false
def vV (Γ:Gm):C->Expr->Bool
 |.tv a,e=>chkE Γ a e
 |_,_=>false
end
def vW:C->Bool
 |_=>false
def zB (Γ:Gm)(it:C)(tg ie:Expr):Bool:=Cn it tg&&jP Γ it ie
def x4:Stmt->Option (List Expr×Expr)
 |.Assign t v _=>some (t,v)
 |_=>none
def Co:Stmt->Option Expr
 |.Expr v _=>some v
 |_=>none
def E9:Stmt->Option (Option Expr)
 |.Return v _=>some v
 |_=>none
def Fc:Stmt->Option (Expr×List Stmt×List Stmt)
 |.If t A B _=>some (t,A,B)
 |_=>none
def Cp:Stmt->Option (Expr×Expr×List Stmt×List Stmt)
 |.For t i B o _=>some (t,i,B,o)
 |_=>none
def KU:Stmt->Option (Expr×List Stmt×List Stmt)
 |.While t B o _=>some (t,B,o)
 |_=>none
def KW:Stmt->Option Nat
 |.Pass _=>some 0
 |.Break _=>some 1
 |.Continue _=>some 2
 |_=>none
def Fd:Stmt->Option (Str×List Expr)
 |.Raise (some c) none _=>gV c
 |_=>none
def Fe:ExceptHandler->Option (Str×Str×List Stmt)
 |.ExceptHandler (some (.Name x _)) (some n) b _=>some (x,n,b)
 |_=>none
mutual
def qZ (Γ:Gm):S->Stmt->Bool
 |.bad,_=>true
 |.asg t e,s=>(x4 s).any λu=>(bI u.1).any λx=>vU Γ t x&& !vW e&&(RZ t||(!pQ u.2&& !isTup u.2))&&chkE Γ e u.2
 |.mut m i args,s=>(Co s).any λc=>(pT c).any λv=>(lO (lN Γ i) v.1&&(v.2.1==Str.ofString m)&& ["append"].contains m&&v.2.2.2&&decide (v.2.2.1.length<20))&& !v.2.2.1.isEmpty&&dO Γ args v.2.2.1
 |.ret e,s=>(E9 s).any λo=>o.any λv=>chkE Γ e v
 |.bA c a b,s=>(Fc s).any λv=>eX Γ c v.1&&chkL Γ a v.2.1&&chkL Γ b v.2.2
 |.bP t it b,s=>Γ.cm&&(Cp s).any λv=>vU Γ t v.1&&zB Γ it v.1 v.2.1&&chkL Γ b v.2.2.1&&v.2.2.2.isEmpty
 |.cnt,s=>decide (KW s=some 2)
 |.nil,_=>false
 |.seq _ _,_=>false
def chkL (Γ:Gm):S->List Stmt->Bool
 |.nil,l=>l.isEmpty
 |.seq a b,l=>match l with|s::r=>qZ Γ a s&&chkL Γ b r|_=>false
 |_,_=>false
end
def tD (K:W.Frag)(f:Rho->Res GD):TE:=λU H Q=>∃Y F x,StOk K F H U Y/\f Y=.ok x/\∀v H',Same H H'->Rep K H' (BG F H x.1) v x.2->Q v H'
def dQ (K:W.Frag)(f:Rho->Res Bool):TT:=λU H Q=>∃Y F b,StOk K F H U Y/\f Y=.ok b/\∀H',Same H H'->Q b H'
def tDO (K:W.Frag)(f:Rho->Res (Option Int)):TO:=λU H Q=>∃Y F b,StOk K F H U Y/\f Y=.ok b/\∀H',Same H H'->Q b H'
def dW (K:W.Frag)(F:Fm)(H H':Hp):List V->List GD->Prop
 |vs,[]=>vs=[]
 |vs,x::xs=>∃v r,vs=v::r/\Rep K H' (BG F H x.1) v x.2/\dW K F H H' r xs
def tDA (K:W.Frag)(f:Rho->Res (List GD)):TA:=λU H Q=>∃Y F xs,StOk K F H U Y/\f Y=.ok xs/\∀vs H',Same H H'->dW K F H H' vs xs->Q vs H'
theorem _root_.L2.PE.imp (h:PE X e t)(i:∀U H Q,t' U H Q->t U H Q):PE X e t':=λpins s U H Q I q=>h pins s U H Q I (i U H Q q)
theorem _root_.L2.PT.imp (h:PT X e t)(i:∀U H Q,t' U H Q->t U H Q):PT X e t':=λpins s U H Q I q=>h pins s U H Q I (i U H Q q)
theorem _root_.L2.PW.imp (h:PW X e t)(i:∀U H Q,t' U H Q->t U H Q):PW X e t':=λwh pins s U H Q I q=>h wh pins s U H Q I (i U H Q q)
theorem _root_.L2.PA.imp (h:PA X e t)(i:∀U H Q,t' U H Q->t U H Q):PA X e t':=λpos pins s U H Q I q=>h pos pins s U H Q I (i U H Q q)
theorem _root_.L2.PO.imp (h:PO X e t)(i:∀U H Q,t' U H Q->t U H Q):PO X e t':=λpins s U H Q I q=>h pins s U H Q I (i U H Q q)
theorem _root_.L2.PS.imp (h:PS X e t)(i:∀D U H,t' D U H->t D U H):PS X e t':=λpins s U H D I q=>h pins s U H D I (i D U H q)
theorem _root_.L2.PSs.imp (h:PSs X e t)(i:∀D U H,t' D U H->t D U H):PSs X e t':=λpins s U H D I q=>h pins s U H D I (i D U H q)
section
variable {K:W.Frag}{F:Fm}{H H1 H':Hp}
theorem dW.back:∀{vs:List V} {xs:List GD},Same H H1->dW K F H1 H' vs xs->dW K F H H' vs xs
 |vs,[],_,r=>r
 |vs,x::xs,s,r=>by obtain⟨v,t,e,h,q⟩:=r;exact⟨v,t,e,h.weak λ_ b=>b.back s,q.back s⟩
theorem dW.oI:∀{vs:List V} {xs:List GD},(∀x∈xs,∀a,BG F H x.1 a->B a)->dW K F H H' vs xs->aD K H' B vs (xs.map (·.2))
 |vs,[],_,r=>r
 |vs,x::xs,hB,r=>by obtain⟨v,t,e,h,q⟩:=r;exact⟨v,t,e,h.weak (hB x ak),q.oI λy hy=>hB y (ah _ hy)⟩
theorem dW.kI (hv:∀a,H a=none->F.V a)(r:dW K F H H' vs xs):aD K H' (bM F) vs (xs.map (·.2)):=r.oI λ_ _ _ h=>h.aN hv
theorem zC (hv:∀a,H a=none->F.V a)(hx:x∈xs)(h:BG F H x.1 a):BG F H (bZ xs) a:=by
 unfold bZ;by_cases e:(xs.all λx=>x.1==.fr)=true
 ·rw[vy e];have:=(bp.mp e) x hx;have e1:x.1=.fr:=by simpa using this
  rw[e1]at h;exact h
 ·rw[vz e];split
  ·rename_i e2;have:=(bp.mp e2) x hx;rcases gr.mp this with e1|e1
   ·rw[eq_of_beq e1]at h;exact .inl h
   ·rw[eq_of_beq e1]at h;exact h
  ·exact h.aN hv
theorem Fg (hv:∀a,H a=none->F.V a)(s:Same H H1)(h:nw H1 a):BG F H (bZ xs) a:=by
 unfold bZ;by_cases e:(xs.all λx=>x.1==.fr)=true
 ·rw[vy e];exact nw.back s h
 ·rw[vz e];split
  ·exact .inl (nw.back s h)
  ·exact(nw.back s h).aN hv
theorem tP (r:Rep K H' B v d)(h:∀a,B a->BG F H g a):Rep K H' (BG F H (gJ d g)) v d:=by
 unfold gJ;by_cases e:imm d=true
 ·rw[vy e];exact Rep.bL d e r
 ·rw[vz e];exact r.weak h
end
def mQ (K:W.Frag)(m:D->D->Res D):R2:=λx y H Q=>∃Bx By dx dy d,Rep K H Bx x dx/\Rep K H By y dy/\m dx dy=.ok d/\∀w H',Same H H'->Rep K H' (λa=>nw H a\/Bx a\/By a) w d->Q w H'
def rA (X:Cx)(f:Value->Value->Sem Value)(m:D->D->Res D):Prop:=OpR X f (mQ X.K m)
def rC (K:W.Frag)(m:D->D->Res D):R2:=λx y H Q=>∃Bx By dx dy d,Rep K H Bx x dx/\Rep K H By y dy/\m dx dy=.ok d/\∀w H',Same H H'->Rep K H' (λa=>nw H a\/Bx a\/By a) w d->(∀ds,d=.list ds->imms ds=true->Rep K H' (nw H) w d)->Q w H'
def Fh (X:Cx)(f:Value->Value->Sem Value)(m:D->D->Res D):Prop:=OpR X f (rC X.K m)
theorem _root_.L2.OpR.imp (h:OpR X f r)(i:∀x y H Q,r' x y H Q->r x y H Q):OpR X f r':=λpins s U H x y v u Q I rx ry q=>h pins s U H x y v u Q I rx ry (i x y H Q q)
def z6z (K:W.Frag)(m:List D->Res D):List V->Hp->VK->Prop:=λxs H Q=>∃B ds d,aD K H B xs ds/\m ds=.ok d/\∀w H',Same H H'->Rep K H' (λa=>nw H a\/B a) w d->Q w H'
theorem _root_.L2.CallR.imp (h:CallR X f r)(i:∀x H Q,r' x H Q->r x H Q):CallR X f r':=λpins s U H x v Q I rx q=>h pins s U H x v Q I rx (i x H Q q)
theorem R0 (hx:PyData.strOk x=true)(hy:PyData.strOk y=true):PyData.strOk (x++y)=true:=by
 unfold PyData.strOk at *
 show(x.cps++y.cps).all _=true;rw[Array.all_append,hx,hy];rfl
theorem strOk_iff:PyData.strOk x=true↔∀c∈x.cps.toList,c<0x110000:=by unfold PyData.strOk;rw[<-m8];rw[bp];exact⟨λh c hc=>by simpa using h c hc,λh c hc=>by simpa using h c hc⟩
theorem KY (hx:PyData.strOk x=true)(hc:c∈x.cps.toList):PyData.strOk ⟨#[c]⟩=true:=
 strOk_iff.mpr λd hd=>by
  have e:d=c:=by simpa using hd
  rw[e];exact strOk_iff.mp hx c hc
theorem mR (h:n<=LIM):n<=ba:=b8 h (by rw[cg];unfold LIM;decide)
section
def R1 (K:W.Frag):R2:=λx y H Q=>∃l b xs zs,x=.ref l/\y=.ref b/\SqL K H l xs/\SqL K H b zs/\xs.length+zs.length<=ba/\∀p,H p=none->Q (.ref p) (upd H p (.lst (xs++zs)))
theorem R3:OpR X (i7 .Add) (R1 X.K):=by
 rintro pins s U H x y v u Q I rx ry ⟨l,b,xs,zs,rfl,rfl,hH,hB,hz,q⟩
 cases rx;cases ry;obtain⟨its,r1,p1,_⟩:=I.list hH;obtain⟨dG,r2,p2,_⟩:=I.list hB;obtain⟨⟨cls,dd,data,sl⟩,n,ho,hc,_,hd⟩:=p1;obtain⟨⟨yT,xR,data2,nQ⟩,n2,ho2,yU,_,hd2⟩:=p2;subst hc hd yU hd2;have uW:its.toArray.size+dG.toArray.size<=ba:=by rw[az,az,<-r1.length,<-r2.length];exact hz
 refine qe ⟨_,ho,rfl⟩ ⟨_,ho2,rfl⟩ noFill_list_add seq_list_add PySem.F.slot_list_add PySem.F.entry_list_add (PySem.F.args_list_add_2 _ _) (list_addW l b its.toArray dG.toArray n n2 dd xR sl nQ uW) ⟨ho,ho2,?_⟩;have ea:its.toArray++dG.toArray=(its++dG).toArray:=by simp
 rw[ea];exact⟨.ref _,_,I.lnew (r1.append r2) (by rw[ax];exact hz),rfl,q _ I.fresh⟩
def R4 (K:W.Frag):R2:=λx y H Q=>∃a b ys,x=.ref a/\y=.ref b/\cS K H a []/\cS K H b ys/\Q (.ref b) H
theorem R5:OpR X (i7 .Add) (R4 X.K):=by
 rintro pins s U H x y v u Q I rx ry ⟨l,b,zs,rfl,rfl,hH,hB,q⟩
 cases rx;cases ry;obtain⟨its,r1,p1,_⟩:=I.tuple hH;obtain⟨dG,r2,p2,_⟩:=I.tuple hB;cases r1;obtain⟨⟨cls,dd,data,sl⟩,ho,hc,n,hd⟩:=p1;obtain⟨⟨yT,xR,data2,nQ⟩,ho2,yU,n2,hd2⟩:=p2;subst hc hd yU hd2;refine qe ⟨_,ho,rfl⟩ ⟨_,ho2,rfl⟩ pz sx PySem.F.slot_tuple_add PySem.F.entry_tuple_add (PySem.F.args_tuple_add_2 _ _) (tuple_addW0 l b _ dG.toArray n n2 dd xR sl nQ (by simp)) ⟨ho,ho2,?_⟩;exact⟨.ref b,H,I,rfl,q⟩
variable {K:W.Frag}{H:Hp}{B:Ad->Prop}{v:V}
theorem pU (r:Rep K H B v (.list ds)):∃a vs,v=.ref a/\SqL K H a vs/\aD K H B vs ds:=by
 obtain⟨a,vs,e,h,q⟩:=r;refine⟨a,vs,e,?_,q⟩;rcases h with⟨h,_⟩|⟨h|h,_⟩
 ·exact .inl (.inl h)
 ·exact .inl (.inr h)
 ·exact .inr h
theorem vX (hp:H p=none)(r:aD K H B vs ds)(hB:∀a,B a->B' a)(hb:B' (some p)):Rep K (upd H p (.lst vs)) B' (.ref p) (.list ds):=⟨p,vs,rfl,.inl ⟨bC,hb⟩,r.same (Same.upd hp) hB⟩
theorem Cq (hp:H p=none)(r:aD K H B vs ds)(hB:∀a,B a->B' a):Rep K (upd H p (.tup vs)) B' (.ref p) (.tuple ds):=⟨p,vs,rfl,.inl (.inl bC),r.same (Same.upd hp) hB⟩
theorem dR {α:Type}{a:α}(h:(Res.no:Res α)=.ok a):False:=by cases h
theorem R6:Fh X (i7 .Add) (cH .Add):=by
 refine OpR.imp ((RF.or R3).or R5) λx y H Q h=>?_;obtain⟨Bx,By,dx,dy,d,rx,ry,e,q⟩:=h;cases dx<;>try (exact(dR e).elim)
 all_goals cases dy<;>try (exact(dR e).elim)
 case int.int i j=>cases e;have e1:=rx;have e2:=ry;subst e1 e2;exact .inl (.inl (RL (q _ H (Same.refl H) rfl λds z=>by cases z)))
 case str.str i j=>
  have e1:=rx.1;have e2:=ry.1;subst e1 e2;have e:(if i.length+j.length<=LIM then Res.ok (PyData.str (i++j))else Res.no)=Res.ok d:=e;split at e
  ·rename_i hl;cases e;exact .inl (.inl (RO (mR hl) (q _ H (Same.refl H) ⟨rfl,R0 rx.2 ry.2⟩ λds z=>by cases z)))
  ·cases e
 case list.list xs ys=>
  have e:(if xs.length+ys.length<=LIM then Res.ok (PyData.list (xs++ys))else Res.no)=Res.ok d:=e;split at e
  ·rename_i hl;cases e;obtain⟨a,vs,rfl,h1,q1⟩:=pU rx;obtain⟨b,ws,rfl,h2,q2⟩:=pU ry;refine .inl (.inr ⟨a,b,vs,ws,rfl,rfl,h1,h2,mR (by rw[q1.length,q2.length];exact hl),λp hp=>q _ _ (Same.upd hp) ?_ ?_⟩)
   ·exact vX hp (aD.append (q1.weak λ_ z=>.inr (.inl z)) (q2.weak λ_ z=>.inr (.inr z))) (λ_ z=>z) (.inl hp)
   ·intro ds z hi;cases z;exact vX hp (aD.bL _ hi (aD.append (q1.weak (B':=λa=>nw H a\/Bx a\/By a) λ_ z=>.inr (.inl z)) (q2.weak λ_ z=>.inr (.inr z)))) (λ_ z=>z) hp
  ·cases e
 case tuple.tuple xs ys=>
  have e:(if xs.length+ys.length<=LIM then Res.ok (PyData.tuple (xs++ys))else Res.no)=Res.ok d:=e;split at e
  ·rename_i hl;cases e;obtain⟨a,vs,rfl,h1,q1⟩:=rx;obtain⟨b,ws,rfl,h2,q2⟩:=ry;cases vs with
   |nil=>
    have:xs=[]:=by have:=q1.length;exact j4.mp this.symm
    subst this;exact .inr ⟨a,b,ws,rfl,rfl,h1,h2,q _ H (Same.refl H) ⟨b,ws,rfl,h2,q2.weak λ_ z=>.inr (.inr z)⟩ λds z=>by cases z⟩
   |cons v0 vr=>
    refine .inl (.inl (.inr (.inr (.inr ⟨a,b,v0::vr,ws,rfl,rfl,h1,h2,by simp,mR (by rw[q1.length,q2.length];exact hl),λz=>?_,λz p hp=>q _ _ (Same.upd hp) ?_ λds z=>by cases z⟩))))
    ·subst z;have:ys=[]:=by have:=q2.length;exact j4.mp this.symm
     subst this;rw[ci]at q;exact q _ H (Same.refl H) ⟨a,_,rfl,h1,q1.weak λ_ z=>.inr (.inl z)⟩ λds z=>by cases z
    ·exact Cq hp (aD.append (q1.weak λ_ z=>.inr (.inl z)) (q2.weak λ_ z=>.inr (.inr z))) (λ_ z=>z)
  ·cases e
theorem Cr {gd:Int->Int->D}(h:OpR X f (rI Cc g))(hg:∀i j H B,Rep X.K H B (g i j) (gd i j))(hm:∀dx dy d,m dx dy=.ok d->∃i j,dx=.int i/\dy=.int j/\Cc i j/\d=gd i j):Fh X f m:=by refine OpR.imp h λx y H Q h=>?_;obtain⟨Bx,By,dx,dy,d,rx,ry,e,q⟩:=h;obtain⟨i,j,rfl,rfl,c,rfl⟩:=hm dx dy d e;exact⟨i,j,rx,ry,c,q _ H (Same.refl H) (hg i j _ _) λ_ _ _=>hg i j _ _⟩
theorem R7 (h:OpR X f (mJ g)):OpR X f (rI (λ_ _=>True) g):=OpR.imp h λx y H Q ⟨i,j,e1,e2,_,q⟩=>⟨i,j,e1,e2,q⟩
theorem R8:OpR X (i7 .FloorDiv) (rI (λ_ j=>0<j/\j<2 ^ 200) λi j=>.int (i/j)):=opI λi j _ _ _ _ _ hc q=>by
 refine floordiv_int (by omega) (by rw[Int.fdiv_eq_ediv_of_nonneg i (by omega)];exact q) (.inl (PyProof.noPylong_of_log2 ?_));have h2:j.natAbs<2 ^ 200:=by omega
 have h3:=(Nat.log2_lt (by omega)).mpr h2;omega
def R9:R2:=λx y H Q=>∃a n,x=.str a/\y=.int n/\(0<=n/\n<=LIM/\a.length*n.toNat<=LIM)/\Q (.str ⟨(qR n.toNat a.cps.toList).toArray⟩) H
theorem R' {α:Type}(n:Nat):qR n ([]:List α)=[]:=by
 unfold qR
 induction n with
 |zero=>rfl
 |succ n ih=>rw[rj,pc,ih];rfl
theorem KZ (a:Array Nat):∀k acc,(bq k a).foldl (·++·) acc.toArray=(acc++qR k a.toList).toArray
 |0,acc=>by simp[qR]
 |k+1,acc=>by
  rw[rj,List.foldl_cons];have e:acc.toArray++a=(acc++a.toList).toArray:=by simp
  rw[e,KZ a k];rw[gm];rfl
theorem Sa (h:0<=n):Txt.mul a n=⟨(qR n.toNat a.cps.toList).toArray⟩:=by
 unfold Txt.mul;by_cases h1:n<1
 ·obtain rfl:n=0:=by omega
  rw[vy h1];rfl
 ·rw[vz h1];split
  ·rename_i h2;rcases gr.mp h2 with h2|h2
   ·obtain rfl:n=1:=wj h2;show a=⟨(a.cps.toList++[]).toArray⟩;rw[ci]
   ·have h3:a.cps.size=0:=wj h2;have h4:=j4.mp (by rw[cq];exact h3);rw[h4,R'];have h5:a.cps=#[]:=by rw[<-kz (xs:=a.cps),h4]
    cases a;cases h5;rfl
  ·have :=KZ a.cps n.toNat [];exact congrArg Str.mk this
theorem Se (h:PyData.strOk a=true)(n:Nat):PyData.strOk ⟨(qR n a.cps.toList).toArray⟩=true:=by unfold PyData.strOk at h ⊢;rw[<-m8,bp]at h ⊢;intro c hc;obtain⟨l,hl,iV⟩:=p7.mp hc;rw[(List.mem_replicate.mp hl).2]at iV;exact h c iV
theorem Sf:OpR X (i7 .Mult) R9:=by
 rintro pins s U H x y v u Q I rx ry ⟨a,n,rfl,rfl,⟨h0,hn,h1⟩,q⟩
 obtain⟨t,rfl⟩:=rx;obtain⟨t',rfl⟩:=ry;unfold LIM at hn h1;refine SB.mul (PyProof.Rows.mulOk_of a.length n.toNat (ag _) (by omega) (by omega) (by omega) (by omega)) λt2 k=>?_;rw[Sa h0];exact⟨.str _,H,I.tok _,⟨_,rfl⟩,q⟩
theorem K0 (op:qz)(h:Cm op=true):Fh X (i7 op) (cH op):=by
 cases op<;>try (cases h;done)
 case Add=>exact R6
 case Sub=>
  refine Cr (R7 P8) (gd:=λi j=>.int (i-j)) (λ_ _ _ _=>rfl) λdx dy d e=>?_;cases dx<;>try (exact(dR e).elim)
  cases dy<;>try (exact(dR e).elim)
  cases e;exact⟨_,_,rfl,rfl,trivial,rfl⟩
 case Mult=>
  refine OpR.imp (P9.or Sf) λx y H Q h=>?_;obtain⟨Bx,By,dx,dy,d,rx,ry,e,q⟩:=h;cases dx<;>try (exact(dR e).elim)
  all_goals cases dy<;>try (exact(dR e).elim)
  case int.int i j=>
   have e:(if(-(2 ^ 64)<i/\i<2 ^ 64)\/(-(2 ^ 64)<j/\j<2 ^ 64)then Res.ok (PyData.int (i*j))else Res.no)=Res.ok d:=e;split at e
   ·rename_i hc;cases e;exact .inl ⟨i,j,rx,ry,hc,q _ H (Same.refl H) rfl λds z=>by cases z⟩
   ·cases e
  case str.int a n=>
   have e:(if 0<=n/\n<=LIM/\a.length*n.toNat<=LIM then Res.ok (PyData.str ⟨(qR n.toNat a.cps.toList).toArray⟩)else Res.no)=Res.ok d:=e;split at e
   ·rename_i hc;cases e;obtain⟨Sg,Sh⟩:=rx;exact .inr ⟨a,n,Sg,ry,hc,q _ H (Same.refl H) ⟨rfl,Se Sh _⟩ λds z=>by cases z⟩
   ·cases e
 case FloorDiv=>
  refine Cr R8 (gd:=λi j=>.int (i/j)) (λ_ _ _ _=>rfl) λdx dy d e=>?_;cases dx<;>try (exact(dR e).elim)
  cases dy<;>try (exact(dR e).elim)
  rename_i i j;have e:(if 0<j/\j<2 ^ 200 then Res.ok (PyData.int (i/j))else Res.no)=Res.ok d:=e;split at e
  ·rename_i hc;cases e;exact⟨_,_,rfl,rfl,hc,rfl⟩
  ·cases e
 case Mod=>
  refine Cr P' (gd:=λi j=>.int (i%j)) (λ_ _ _ _=>rfl) λdx dy d e=>?_;cases dx<;>try (exact(dR e).elim)
  cases dy<;>try (exact(dR e).elim)
  rename_i i j;have e:(if 0<j then Res.ok (PyData.int (i%j))else Res.no)=Res.ok d:=e;split at e
  ·rename_i hc;cases e;exact⟨_,_,rfl,rfl,hc,rfl⟩
  ·cases e
 case Pow=>
  refine Cr Qa (gd:=λi j=>.int (i ^ j.toNat)) (λ_ _ _ _=>rfl) λdx dy d e=>?_;cases dx<;>try (exact(dR e).elim)
  cases dy<;>try (exact(dR e).elim)
  rename_i i j;have e:(if 0<=j/\j<=1000/\i.natAbs<2 ^ 64 then Res.ok (PyData.int (i ^ j.toNat))else Res.no)=Res.ok d:=e;split at e
  ·rename_i hc;cases e;exact⟨_,_,rfl,rfl,⟨hc.1,by omega,hc.2.2⟩,rfl⟩
  ·cases e
end
section
variable {X:Cx}{pins:List (Addr×Obj)}{U:L2.St}{H:Hp}{s:aw}{B:Ad->Prop}
mutual
theorem Rep.reads (I:Inv X pins U H s):∀{v:V} {u:Value} (d:ae) (n:Nat),bY n d=true->Rep X.K H B v d->RelV v u->(∃as,Reads s.heap u d as)/\d.canLay0=true/\d.depth<=n
 |v,u,.none,n,_,r,q=>by have e:v=.non:=r;subst e;cases q;exact⟨⟨[],.none⟩,by simp only[PyData.canLay0],dv _⟩
 |v,u,.bool b,n,_,r,q=>by have e:v=.bl b:=r;subst e;cases q;exact⟨⟨[],.bool b⟩,by simp only[PyData.canLay0],dv _⟩
 |v,u,.int b,n,_,r,q=>by have e:v=.int b:=r;subst e;obtain⟨t,rfl⟩:=q;exact⟨⟨[],.int b t⟩,by simp only[PyData.canLay0],dv _⟩
 |v,u,.str b,n,_,r,q=>by obtain⟨e,ok⟩:v=.str b/\_:=r;subst e;obtain⟨t,rfl⟩:=q;exact⟨⟨[],.str b t⟩,by simp only[PyData.canLay0];exact ok,dv _⟩
 |v,u,.tuple ds,0,h,r,q=>by cases h
 |v,u,.list ds,0,h,r,q=>by cases h
 |v,u,.tuple ds,n+1,h,r,q=>by obtain⟨a,vs,e,h1,r1⟩:=r;subst e;cases q;obtain⟨its,rv,⟨o,ho,hc,k,hd⟩,_⟩:=I.tuple h1;obtain⟨⟨as,ra⟩,c,dp⟩:=aD.reads I ds n (h) r1 rv;refine⟨⟨as,.tuple ho hc hd (by simpa using ra)⟩,by simp only[PyData.canLay0];exact c,?_⟩;simp only[PyData.depth];omega
 |v,u,.list ds,n+1,h,r,q=>by obtain⟨a,vs,e,h1,r1⟩:=pU r;subst e;cases q;obtain⟨its,rv,⟨o,k,ho,hc,_,hd⟩,_⟩:=I.list h1;obtain⟨⟨as,ra⟩,c,dp⟩:=aD.reads I ds n (h) r1 rv;refine⟨⟨a::as,.list ho hc hd (by simpa using ra)⟩,by simp only[PyData.canLay0];exact c,?_⟩;simp only[PyData.depth];omega
 |v,u,.dict es,n,h,r,q=>by cases n<;>cases h
theorem aD.reads (I:Inv X pins U H s):∀{vs:List V} {us:List Value} (ds:List ae) (n:Nat),iX n ds=true->aD X.K H B vs ds->Vals vs us->(∃as,ReadsAll s.heap us ds as)/\PyData.canLayAll0 ds=true/\PyData.depthAll ds<=n
 |vs,us,[],n,_,r,q=>by have e:vs=[]:=r;subst e;cases q;exact⟨⟨[],.nil⟩,by simp only[PyData.canLayAll0],dv _⟩
 |vs,us,d::ds,n,h,r,q=>by
  obtain⟨v,t,e,h1,r1⟩:=r;subst e;rw[iX,bh]at h;cases q with
  |cons q1 q2=>obtain⟨⟨as,ra⟩,c,dp⟩:=Rep.reads I d n h.1 h1 q1;obtain⟨⟨bs,rb⟩,c2,Si⟩:=aD.reads I ds n h.2 r1 q2;refine⟨⟨as++bs,.cons ra rb⟩,by simp only[PyData.canLayAll0,c,c2,Bool.and_self],?_⟩;simp only[PyData.depthAll];exact Nat.max_le.mpr ⟨dp,Si⟩
end
end
def mB (m:D->D->Res Bool):D->D->Res D:=λx y=>m x y>>=λb=>.ok (.bool b)
theorem zD (h:mB m x y=.ok d):∃b,m x y=.ok b/\d=.bool b:=by obtain⟨b,h1,h2⟩:=Res.aA h;exact⟨b,h1,(Res.ok.inj h2).symm⟩
theorem Fi (hu:X.A.units+64<cLine):rA X (cv .Eq) (mB (cmpD .Eq)):=by
 rintro pins s U H x y v u Q I rx ry ⟨Bx,By,dx,dy,d,r1,r2,e,q⟩
 obtain⟨b,e',rfl⟩:=zD e;have e:=e';have e:(if(bY 40 dx&&bY 40 dy)=true then Res.ok (eqD dx dy)else Res.no)=Res.ok b:=e;split at e
 ·rename_i hs;cases e;rw[bh]at hs;obtain⟨⟨as,ra⟩,c1,p1⟩:=Rep.reads I dx 40 hs.1 r1 rx;obtain⟨⟨bs,rb⟩,c2,p2⟩:=Rep.reads I dy 40 hs.2 r2 ry;exact SeqAt.compareEq_reads ra rb c1 c2 (by omega) ⟨.bl _,H,I,rfl,q _ H (Same.refl H) rfl⟩
 ·cases e
theorem Fj (hu:X.A.units+64<cLine):rA X (cv .NotEq) (mB (cmpD .NotEq)):=by
 rintro pins s U H x y v u Q I rx ry ⟨Bx,By,dx,dy,d,r1,r2,e,q⟩
 obtain⟨b,e',rfl⟩:=zD e;have e:=e';have e:(if(bY 40 dx&&bY 40 dy)=true then Res.ok (!eqD dx dy)else Res.no)=Res.ok b:=e;split at e
 ·rename_i hs;cases e;rw[bh]at hs;obtain⟨⟨as,ra⟩,c1,p1⟩:=Rep.reads I dx 40 hs.1 r1 rx;obtain⟨⟨bs,rb⟩,c2,p2⟩:=Rep.reads I dy 40 hs.2 r2 ry;exact SeqAt.compareNe_reads ra rb c1 c2 (by omega) ⟨.bl _,H,I,rfl,q _ H (Same.refl H) rfl⟩
 ·cases e
theorem zjf (h:OpR X (cv op) r)(hI:∀i j b H Q,cmpD op (.int i) (.int j)=.ok b->Q (.bl b) H->r (.int i) (.int j) H Q)(hS:∀i j b H Q,cmpD op (.str i) (.str j)=.ok b->Q (.bl b) H->r (.str i) (.str j) H Q)
  (hm:∀dx dy b,cmpD op dx dy=.ok b->(∃i j,dx=.int i/\dy=.int j)\/∃i j,dx=.str i/\dy=.str j):rA X (cv op) (mB (cmpD op)):=by
 refine OpR.imp h λx y H Q h=>?_;obtain⟨Bx,By,dx,dy,d,rx,ry,e,q⟩:=h;obtain⟨b,e',rfl⟩:=zD e;have e:=e';rcases hm dx dy b e with⟨i,j,rfl,rfl⟩|⟨i,j,rfl,rfl⟩
 ·have e1:x=.int i:=rx;have e2:=ry;subst e1 e2;exact hI i j b H Q e (q _ H (Same.refl H) rfl)
 ·have e1:x=.str i:=rx.1;have e2:=ry.1;subst e1 e2;exact hS i j b H Q e (q _ H (Same.refl H) rfl)
theorem Fl:rA X (cv .Lt) (mB (cmpD .Lt)):=zjf EN (λi j b H Q e q=>by cases e;exact RP q) (λi j b H Q e q=>by cases e;exact RT q) λdx dy b e=>by cases dx<;>first|exact(dR e).elim|(cases dy<;>first|exact .inl ⟨_,_,rfl,rfl⟩|exact .inr ⟨_,_,rfl,rfl⟩|exact(dR e).elim)
theorem Fo:rA X (cv .LtE) (mB (cmpD .LtE)):=zjf EO (λi j b H Q e q=>by cases e;exact RQ q) (λi j b H Q e q=>by cases e;exact RU q) λdx dy b e=>by cases dx<;>first|exact(dR e).elim|(cases dy<;>first|exact .inl ⟨_,_,rfl,rfl⟩|exact .inr ⟨_,_,rfl,rfl⟩|exact(dR e).elim)
theorem Fp:rA X (cv .Gt) (mB (cmpD .Gt)):=zjf ER (λi j b H Q e q=>by cases e;exact RS q) (λi j b H Q e q=>by cases e;exact RV q) λdx dy b e=>by cases dx<;>first|exact(dR e).elim|(cases dy<;>first|exact .inl ⟨_,_,rfl,rfl⟩|exact .inr ⟨_,_,rfl,rfl⟩|exact(dR e).elim)
theorem cO.val {K:W.Frag}(k:Key):∀{kvs:List (Key×V)} {es:lF},cO K H B kvs es->match gO es (kD k)with|some d=>∃v,cL kvs k=some v/\Rep K H B v d|none=>cL kvs k=none
 |kvs,[],r=>by have e:=r;subst e;exact rfl
 |kvs,(kd,d)::es,r=>by
  obtain⟨k',v,t,e,e2,ok,h,q⟩:=r;subst e e2;by_cases z:k'=k
  ·subst z
   have e1:gO ((kD k',d)::es) (kD k')=some d:=by
    have:eqK (kD k') (kD k')=true:=by cases k'<;>simp[kD,eqK]
    unfold gO;rw[List.find?_cons_of_pos (by exact this)];rfl
   rw[e1];exact⟨v,B4 rfl,h⟩
  ·have e0:eqK (kD k') (kD k)=false:=by
    rw[uo];intro w;apply z;cases k'<;>cases k<;>simp[kD,eqK]at w<;>rw[w]
   have e1:gO ((kD k',d)::es) (kD k)=gO es (kD k):=by unfold gO;rw[List.find?_cons_of_neg (by rw[e0];exact dz)]
   rw[e1,B5 z];exact cO.val k q
theorem K1 {K:W.Frag}(h:tJ d=true)(r:Rep K H B v d):∃k,d=kD k/\v=kV k/\keyOk k:=by
 cases d<;>try (cases h;done)
 case int i=>exact⟨.inl i,rfl,r,True.intro⟩
 case str x=>exact⟨.inr x,rfl,r.1,r.2⟩
theorem zhj (hu:X.A.units+64<cLine)(ng:Bool)(I:Inv X pins U H s)(rx:RelV x v)(ry:RelV y u)
  (r1:Rep X.K H Bx x dx) (r2:Rep X.K H By y dy) (e:inD dx dy=.ok b) (q:Q (.bl (if ng then !b else b)) H):
  wpAny (model X.prog X.w) X.A (cv (if ng then .NotIn else .In) v u) (EP X pins U Q) X.xe s:=by
 cases dy<;>try (cases e;done)
 case list xs=>
  change(if(bY 40 dx&&iX 40 xs)=true then Res.ok (xs.any λy=>eqD y dx)else .no)=_ at e;split at e
  ·rename_i hs;cases e;rw[bh]at hs;obtain⟨⟨as,ra⟩,c1,p1⟩:=Rep.reads I dx 40 hs.1 r1 rx;obtain⟨⟨bs,rb⟩,c2,p2⟩:=Rep.reads I (.list xs) 41 hs.2 r2 ry;have zE:PyData.canLayAll0 xs=true:=by simpa only[PyData.canLay0]using c2
   cases ng
   ·exact SeqAt.in_list_reads rb ra zE c1 (by omega) ⟨.bl _,H,I,rfl,q⟩
   ·exact SeqAt.notIn_list_reads rb ra zE c1 (by omega) ⟨.bl _,H,I,rfl,q⟩
  ·cases e
 case tuple xs=>
  change(if(bY 40 dx&&iX 40 xs)=true then Res.ok (xs.any λy=>eqD y dx)else .no)=_ at e;split at e
  ·rename_i hs;cases e;rw[bh]at hs;obtain⟨⟨as,ra⟩,c1,p1⟩:=Rep.reads I dx 40 hs.1 r1 rx;obtain⟨⟨bs,rb⟩,c2,p2⟩:=Rep.reads I (.tuple xs) 41 hs.2 r2 ry;have zE:PyData.canLayAll0 xs=true:=by simpa only[PyData.canLay0]using c2
   cases ng
   ·exact SeqAt.in_tuple_reads rb ra zE c1 (by omega) ⟨.bl _,H,I,rfl,q⟩
   ·exact SeqAt.notIn_tuple_reads rb ra zE c1 (by omega) ⟨.bl _,H,I,rfl,q⟩
  ·cases e
 case dict es=>
  change(if tJ dx=true then Res.ok (gO es dx).isSome else .no)=_ at e;split at e
  ·rename_i hk;cases e;obtain⟨k,rfl,rfl,_⟩:=K1 hk r1;obtain⟨a,kvs,rfl,h1,_,h2⟩:=r2;cases ry;have hv:=h2.val k;have g:DGet H a (kV k) (cL kvs k):=DGet.k h1
   have hb:(cL kvs k).isSome=(gO es (kD k)).isSome:=by
    cases e:gO es (kD k)with
    |none=>rw[e]at hv;rw[show cL kvs k=none from hv];rfl
    |some d=>rw[e]at hv;obtain⟨v,hv,_⟩:=hv;rw[hv];rfl
   cases ng
   ·exact d_in (by omega) I g rx λs' I'=>⟨.bl _,H,I',rfl,by rw[hb];exact q⟩
   ·exact ziw (by omega) I g rx λs' I'=>⟨.bl _,H,I',rfl,by rw[hb];exact q⟩
  ·cases e
 case str z=>
  cases dx<;>try (cases e;done)
  rename_i w;have e1:=r1.1;have e2:=r2.1;subst e1 e2;change(match w.cps.toList with| [c]=>Res.ok (decide (c∈z.cps.toList))|_=>.no)=_ at e;split at e
  ·rename_i c hw;cases e
   have ew:w=⟨#[c]⟩:=by
    obtain⟨cps⟩:=w;have:cps=#[c]:=by rw[<-kz (xs:=cps)];rw[show cps.toList=[c]from hw]
    rw[this]
   subst ew;cases ng
   ·exact ES pins s U H _ _ v u Q I rx ry (RW q)
   ·exact RG pins s U H _ _ v u Q I rx ry (RX q)
  ·cases e
theorem Fq (hu:X.A.units+64<cLine):rA X (cv .In) (mB (cmpD .In)):=by
 rintro pins s U H x y v u Q I rx ry ⟨Bx,By,dx,dy,d,r1,r2,e,q⟩
 obtain⟨b,e',rfl⟩:=zD e;exact zhj hu false I rx ry r1 r2 e' (q _ H (Same.refl H) rfl)
theorem Sj (hu:X.A.units+64<cLine):rA X (cv .NotIn) (mB (cmpD .NotIn)):=by
 rintro pins s U H x y v u Q I rx ry ⟨Bx,By,dx,dy,d,r1,r2,e,q⟩
 obtain⟨b,e',rfl⟩:=zD e;obtain⟨b',e1,e2⟩:=Res.aA e';cases e2;exact zhj hu true I rx ry r1 r2 e1 (q _ H (Same.refl H) rfl)
theorem vY (hu:X.A.units+64<cLine)(op:CmpOp)(h:z28 op=true):rA X (cv op) (mB (cmpD op)):=by
 cases op<;>try (cases h;done)
 ·exact Fi hu
 ·exact Fj hu
 ·exact Fl
 ·exact Fo
 ·exact Fp
 ·exact Fq hu
 ·exact Sj hu
section
variable {X:Cx}{b c e:Expr}{fa fb fc:Rho->Res GD}
theorem Cs (h:PE X e (tC v))(r:∀H B,Rep X.K H B v d):PE X e (tD X.K λ_=>.ok (.fr,d)):=PE.imp h λU H Q ⟨Y,F,x,so,e,q⟩=>by cases e;exact q v H (Same.refl H) (r H _)
theorem Sk {i:Nat}(hN:X.N[i]?=some x)(hv:Vis X.env.scope x)(hd:Z9 x)(hcd:(x==("__classdict__":Str))=false):PE X (.Name x pos) (tD X.K λY=>vM Y[i]?):=PE.imp (xI hN hv hd hcd) λU H Q ⟨Y,F,x,so,e,q⟩=>by obtain⟨v,h1,h2⟩:=so.rd e;exact⟨v,h1,q v H (Same.refl H) h2⟩
theorem Sl (hg:Gl X x)(hm:X.mg x=some (.ref g))(hd:Z9 x)(hi:imm d=true)(r:∀H B,B none->Rep X.K H B (.ref g) d):PE X (.Name x pos) (tD X.K λ_=>.ok (.fr,d)):=PE.imp (Pz (v:=.ref g) hg hm rfl hd) λU H Q ⟨Y,F,x,so,e,q⟩=>by cases e;exact q _ H (Same.refl H) (Rep.bL d hi (r H (λ_=>True) True.intro))
theorem K2 {K:W.Frag}(r:Rep K H' B v d)(h:∀a,B a->BG F H g a)(n:∀ds,d=.list ds->imms ds=true->Rep K H' (nw H) v d):Rep K H' (BG F H (gN d g)) v d:=by
 cases d with
 |list ds=>
  show Rep K H' (BG F H (if imms ds=true then .fr else g)) v _;split
  ·rename_i hi;exact n ds rfl hi
  ·exact r.weak h
 |_=>exact tP r h
theorem Sm (ho:Cm op=true)(ha:PE X a (tD X.K fa))(hb:PE X b (tD X.K fb)):PE X (.BinOp a op b pos) (tD X.K λY=>fa Y>>=λx=>fb Y>>=λy=>cH op x.2 y.2>>=λd=>.ok (gN d (bZ [x,y]),d)):=
 PE.imp (JW (K0 op ho) ha hb) λU H Q ⟨Y,F,z,so,e,q⟩=>by
  obtain⟨x,e1,e⟩:=Res.aA e;obtain⟨y,e2,e⟩:=Res.aA e;obtain⟨d,e3,e⟩:=Res.aA e;cases e;refine⟨Y,F,x,so,e1,λv H1 s1 rv=>⟨Y,F,y,so.same s1,e2,λu H2 s2 ru=>⟨_,_,x.2,y.2,d,rv.same s2 λ_ z=>z,ru,e3,λw H3 s3 dJ nn=>q w H3 ((s1.trans s2).trans s3) (K2 dJ (λa h=>?_) λds z hi=>(nn ds z hi).weak λ_ z=>nw.back (s1.trans s2) z)⟩⟩⟩;rcases h with h|h|h
  ·exact Fg so.aN (s1.trans s2) h
  ·exact zC so.aN (by simp) h
  ·exact zC so.aN (by simp) (h.back s1)
theorem K3 (h:tD X.K (λY=>fa Y>>=λx=>fb Y>>=λy=>cmpD op x.2 y.2>>=λb=>.ok (.fr,.bool b)) U H Q):mI (mQ X.K (mB (cmpD op))) (tD X.K fa) (tD X.K fb) U H Q:=by obtain⟨Y,F,z,so,e,q⟩:=h;obtain⟨x,e1,e⟩:=Res.aA e;obtain⟨y,e2,e⟩:=Res.aA e;obtain⟨d,e3,e⟩:=Res.aA e;cases e;exact⟨Y,F,x,so,e1,λv H1 s1 rv=>⟨Y,F,y,so.same s1,e2,λu H2 s2 ru=>⟨_,_,x.2,y.2,.bool d,rv.same s2 λ_ z=>z,ru,by show(cmpD op x.2 y.2>>=λb=>Res.ok (PyData.bool b))=_;rw[e3];rfl,λw H3 s3 dJ=>q w H3 ((s1.trans s2).trans s3) dJ⟩⟩⟩
theorem zsz (hu:X.A.units+64<cLine)(ho:z28 op=true)(hm:fj op b=false)(ha:PE X a (tD X.K fa))(hb:PE X b (tD X.K fb)):
  PE X (.Compare a [op] [b] pos) (tD X.K λY=>fa Y>>=λx=>fb Y>>=λy=>cmpD op x.2 y.2>>=λb=>.ok (.fr,.bool b)):=
 PE.imp (Qg (vY hu op ho) ha hb hm) λU H Q h=>K3 h
theorem Ct (ht:∀U H Q,tD X.K f U H Q->t U H Q)(hb:∀Y x,f Y=.ok x->∃c,x.2=.bool c)(U:L2.St)(H:Hp)(Q:Bool->Hp->Prop)(h:dQ X.K (λY=>f Y>>=λx=>fX x.2) U H Q):yN t U H Q:=by obtain⟨Y,F,c,so,e,q⟩:=h;obtain⟨x,e1,e⟩:=Res.aA e;obtain⟨k,e2⟩:=hb Y x e1;rw[e2]at e;cases e;refine ht U H _ ⟨Y,F,x,so,e1,λv H' s r=>?_⟩;rw[e2]at r;exact⟨k,r,q H' s⟩
theorem Sn (e:(fa Y>>=λx=>fb Y>>=λy=>cmpD op x.2 y.2>>=λb=>Res.ok ((.fr,.bool b):GD))=.ok x):∃c,x.2=.bool c:=by obtain⟨x,e1,e⟩:=Res.aA e;obtain⟨y,e2,e⟩:=Res.aA e;obtain⟨d,e3,e⟩:=Res.aA e;cases e;exact⟨d,rfl⟩
theorem zra (hu:X.A.units+64<cLine)(ho:z28 op=true)(hm:fj op b=false)(ha:PE X a (tD X.K fa))(hb:PE X b (tD X.K fb)):
  PT X (.Compare a [op] [b] pos) (dQ X.K λY=>(fa Y>>=λx=>fb Y>>=λy=>cmpD op x.2 y.2>>=λb=>Res.ok ((.fr,.bool b):GD))>>=λx=>fX x.2):=
 PT.imp (JY (vY hu op ho) ha hb hm) (Ct (λU H Q h=>K3 h) λY x e=>Sn e)
def Cu (op op':CmpOp)(fa fb fc:Rho->Res GD):Rho->Res GD:=λY=>fa Y>>=λx=>fb Y>>=λy=>cmpD op x.2 y.2>>=λk=>if k then fc Y>>=λz=>cmpD op' y.2 z.2>>=λk'=>.ok (.fr,.bool k')else .ok (.fr,.bool false)
theorem K4 (h:tD X.K (Cu op op' fa fb fc) U H Q):Eh (mQ X.K (mB (cmpD op))) (mQ X.K (mB (cmpD op'))) (tD X.K fa) (tD X.K fb) (tD X.K fc) U H Q:=by
 obtain⟨Y,F,z,so,e,q⟩:=h;obtain⟨x,e1,e⟩:=Res.aA e;obtain⟨y,e2,e⟩:=Res.aA e;obtain⟨k,e3,e⟩:=Res.aA e;refine⟨Y,F,x,so,e1,λv H1 s1 rv=>⟨Y,F,y,so.same s1,e2,λu H2 s2 ru=>⟨_,_,x.2,y.2,.bool k,rv.same s2 λ_ z=>z,ru,by show(cmpD op x.2 y.2>>=λb=>Res.ok (PyData.bool b))=_;rw[e3];rfl,λw H3 s3 dJ=>⟨k,dJ,?_⟩⟩⟩⟩;cases k with
 |false=>cases e;exact aV (q _ H3 ((s1.trans s2).trans s3) rfl)
 |true=>obtain⟨z',e4,e⟩:=Res.aA e;obtain⟨k',e5,e⟩:=Res.aA e;cases e;refine aX ⟨Y,F,z',so.same ((s1.trans s2).trans s3),e4,λt H4 s4 rt=>⟨_,_,y.2,z'.2,.bool k',ru.same (s3.trans s4) λ_ z=>z,rt,by show(cmpD op' y.2 z'.2>>=λb=>Res.ok (PyData.bool b))=_;rw[e5];rfl,λw5 H5 s5 r5=>q _ H5 (((s1.trans s2).trans s3).trans (s4.trans s5)) r5⟩⟩
theorem zlc (hu:X.A.units+64<cLine)(ho:z28 op=true)(ho':z28 op'=true)(hm:pw [op,op'] [b,c]=false)(ha:PE X a (tD X.K fa))(hb:PE X b (tD X.K fb))(hc:PE X c (tD X.K fc)):
  PE X (.Compare a [op,op'] [b,c] pos) (tD X.K (Cu op op' fa fb fc)):=
 PE.imp (zfx (vY hu op ho) (vY hu op' ho') ha hb hc hm) λU H Q h=>K4 h
theorem So (e:Cu op op' fa fb fc Y=.ok x):∃c,x.2=.bool c:=by
 obtain⟨x,e1,e⟩:=Res.aA e;obtain⟨y,e2,e⟩:=Res.aA e;obtain⟨k,e3,e⟩:=Res.aA e;cases k with
 |false=>cases e;exact⟨_,rfl⟩
 |true=>obtain⟨z',e4,e⟩:=Res.aA e;obtain⟨k',e5,e⟩:=Res.aA e;cases e;exact⟨_,rfl⟩
theorem zlg (hu:X.A.units+64<cLine)(ho:z28 op=true)(ho':z28 op'=true)(hm:pw [op,op'] [b,c]=false)(ha:PE X a (tD X.K fa))(hb:PE X b (tD X.K fb))(hc:PE X c (tD X.K fc)):
  PT X (.Compare a [op,op'] [b,c] pos) (dQ X.K λY=>Cu op op' fa fb fc Y>>=λx=>fX x.2):=
 PT.imp (zef (vY hu op ho) (vY hu op' ho') ha hb hc hm) (Ct (λU H Q h=>K4 h) λY x e=>So e)
theorem K5 {K:W.Frag}(r:Rep K H B v d):decide (v=.non)=(match d with|.none=>true|_=>false):=by
 cases d with
 |none=>have e:v=.non:=r;subst e;rfl
 |bool b=>have e:v=.bl b:=r;subst e;rfl
 |int b=>have e:v=.int b:=r;subst e;rfl
 |str b=>have e:v=.str b:=r.1;subst e;rfl
 |tuple ds=>obtain⟨a,vs,e,_⟩:=r;subst e;rfl
 |list ds=>obtain⟨a,vs,e,_⟩:=r;subst e;rfl
 |dict ds=>obtain⟨a,vs,e,_⟩:=r;subst e;rfl
def rD (ng:Bool)(fa:Rho->Res GD):Rho->Res GD:=λY=>fa Y>>=λx=>.ok (.fr,.bool (match x.2 with|.none=>!ng|_=>ng))
theorem Cv (h:tD X.K (rD ng fa) U H Q):(if ng then JE (tD X.K fa)else yE (tD X.K fa)) U H Q:=by
 obtain⟨Y,F,z,so,e,q⟩:=h;obtain⟨x,e1,e⟩:=Res.aA e;cases e;cases ng with
 |false=>
  refine⟨Y,F,x,so,e1,λv H1 s1 rv=>?_⟩
  dsimp only
  rw[K5 rv];refine q _ H1 s1 ?_;obtain⟨g,d⟩:=x;cases d<;>rfl
 |true=>
  refine⟨Y,F,x,so,e1,λv H1 s1 rv=>?_⟩
  dsimp only
  rw[K5 rv];refine q _ H1 s1 ?_;obtain⟨g,d⟩:=x;cases d<;>rfl
theorem K6 (e:rD ng fa Y=.ok x):∃c,x.2=.bool c:=by obtain⟨x,e1,e⟩:=Res.aA e;cases e;exact⟨_,rfl⟩
theorem Sq {j p2}(ho:o=if ng then .IsNot else .Is)(ha:PE X a (tD X.K fa)):PE X (.Compare a [o] [.Constant .none j p2] pos) (tD X.K (rD ng fa)):=by
 subst ho;cases ng with
 |false=>exact PE.imp (JH (JF ha)) λU H Q h=>Cv h
 |true=>exact PE.imp (JH (JG ha)) λU H Q h=>Cv h
theorem vZ {j p2}(ho:o=if ng then .IsNot else .Is)(ha:PE X a (tD X.K fa)):PT X (.Compare a [o] [.Constant .none j p2] pos) (dQ X.K λY=>rD ng fa Y>>=λx=>fX x.2):=by
 subst ho;cases ng with
 |false=>exact PT.imp (JI (JF ha)) (Ct (λU H Q h=>Cv h) λY x e=>K6 e)
 |true=>exact PT.imp (JI (JG ha)) (Ct (λU H Q h=>Cv h) λY x e=>K6 e)
def Fs (fa fb:Rho->Res GD):Rho->Res GD:=λY=>fa Y>>=λx=>match x.2 with|.bool c=>if c then fb Y else .ok (.fr,.bool false)|_=>.no
def Sr (fa fb:Rho->Res GD):Rho->Res GD:=λY=>fa Y>>=λx=>match x.2 with|.bool c=>if c then .ok (.fr,.bool true)else fb Y|_=>.no
theorem K7 (s1:Same H H1)(so:StOk X.K F H U Y)(e:f Y=.ok x)(q:∀v H',Same H H'->Rep X.K H' (BG F H x.1) v x.2->Q v H'):tD X.K f U H1 Q:=⟨Y,F,x,so.same s1,e,λv H' s r=>q v H' (s1.trans s) (r.weak λ_ b=>b.back s1)⟩
theorem K8 {rest:List Expr}(ha:PE X a (tD X.K fa))(hb:PE X (.BoolOp .And (b::rest) pos) (tD X.K fb)):PE X (.BoolOp .And (a::b::rest) pos) (tD X.K (Fs fa fb)):=
 PE.imp (PJ ha hb) λU H Q ⟨Y,F,z,so,e,q⟩=>by
  obtain⟨x,e1,e⟩:=Res.aA e;refine⟨Y,F,x,so,e1,λv H1 s1 rv=>?_⟩;obtain⟨g,d⟩:=x;cases d<;>try (cases e;done)
  rename_i c;refine⟨c,rv,?_⟩;cases c with
  |true=>exact aX (K7 s1 so e q)
  |false=>cases e;exact aV (q _ H1 s1 rfl)
theorem zF {rest:List Expr}(ha:PE X a (tD X.K fa))(hb:PE X (.BoolOp .Or (b::rest) pos) (tD X.K fb)):PE X (.BoolOp .Or (a::b::rest) pos) (tD X.K (Sr fa fb)):=
 PE.imp (PK ha hb) λU H Q ⟨Y,F,z,so,e,q⟩=>by
  obtain⟨x,e1,e⟩:=Res.aA e;refine⟨Y,F,x,so,e1,λv H1 s1 rv=>?_⟩;obtain⟨g,d⟩:=x;cases d<;>try (cases e;done)
  rename_i c;refine⟨c,rv,?_⟩;cases c with
  |false=>exact aV (K7 s1 so e q)
  |true=>cases e;exact aX (q _ H1 s1 rfl)
theorem K9 {K:W.Frag}(r:Rep K H B v d)(e:fX d=.ok k):qJ K v H k:=by
 cases d with
 |none=>cases e;have e1:v=.non:=r;subst e1;exact rfl
 |bool b=>cases e;have e1:v=.bl b:=r;subst e1;exact rfl
 |int b=>cases e;have e1:v=.int b:=r;subst e1;show(!decide (b=0))=(b != 0);rw[bne,qv]
 |str b=>
  have e1:=r.1;subst e1;simp only[fX]at e;split at e
  ·rename_i hl;cases e;refine⟨mR hl,?_⟩;rw[bne,qv]
   congr 1
   rw[decide_eq_decide];omega
  ·cases e
 |tuple ds=>cases e;obtain⟨a,vs,e1,h,q⟩:=r;subst e1;refine .inr (.inl ⟨vs,h,?_⟩);show(!ds.isEmpty)=!vs.isEmpty;have:=q.length;cases vs<;>cases ds<;>simp at this ⊢
 |list ds=>cases e;obtain⟨a,vs,e1,h,q⟩:=pU r;subst e1;refine .inl ⟨vs,h,?_⟩;show(!ds.isEmpty)=!vs.isEmpty;have:=q.length;cases vs<;>cases ds<;>simp at this ⊢
 |dict es=>
  cases e;obtain⟨a,kvs,e1,h,_,q⟩:=r;subst e1;refine .inr (.inr ⟨kvs,h,?_⟩);cases es with
  |nil=>have e2:kvs=[]:=q;subst e2;rfl
  |cons e0 er=>obtain⟨k,v,t,e2,_⟩:=q;subst e2;rfl
theorem Su (ha:PE X a (tD X.K fa)):PE X (.UnaryOp .Not a pos) (tD X.K λY=>fa Y>>=λx=>fX x.2>>=λc=>.ok (.fr,.bool (!c))):=by
 rintro pins s U H Q I ⟨Y,F,z,so,e,q⟩
 obtain⟨x,e1,e⟩:=Res.aA e;obtain⟨k,e2,e⟩:=Res.aA e;cases e;refine UnaryOp_ (aL (ha pins s U H (λv H1=>Same H H1/\Rep X.K H1 (BG F H x.1) v x.2) I ⟨Y,F,x,so,e1,λv H1 s1 rv=>⟨s1,rv⟩⟩) λv s1 zz=>?_);obtain⟨y,H1,I1,r1,s2,rv⟩:=zz;exact not_of (aL (J1 pins s1 U H1 y v (λb H2=>b=k/\H2=H1) I1 r1 ⟨k,K9 rv e2,rfl,rfl⟩) λb ZR ⟨H2,I2,eb,eH⟩=>by subst eb eH;exact⟨.bl _,H2,I2,rfl,q _ H2 s2 rfl⟩)
theorem Sv (ha:PE X e (tD X.K fa))(he:∀whole,u4 e X.env whole=(do let v <-whole;standAt e.pos;holding [v] (truthy v))):PT X e (dQ X.K λY=>fa Y>>=λx=>fX x.2):=PT.imp (z8o ha he) λU H Q ⟨Y,F,k,so,e,q⟩=>by obtain⟨x,e1,e⟩:=Res.aA e;exact⟨Y,F,x,so,e1,λv H1 s1 rv=>⟨k,K9 rv e,q H1 s1⟩⟩
theorem K' (s1:Same H H1)(so:StOk X.K F H U Y)(e:f Y=.ok x)(q:∀H',Same H H'->Q x H'):dQ X.K f U H1 Q:=⟨Y,F,x,so.same s1,e,λH' s=>q H' (s1.trans s)⟩
theorem w_and (ha:PT X a (dQ X.K ta))(hb:PW X (.BoolOp .And (b::rest) pos) (dQ X.K tb)):PW X (.BoolOp .And (a::b::rest) pos) (dQ X.K λY=>ta Y>>=λc=>if c then tb Y else .ok false):=
 PW.imp (PF ha hb) λU H Q ⟨Y,F,k,so,e,q⟩=>by
  obtain⟨x,e1,e⟩:=Res.aA e;refine⟨Y,F,x,so,e1,λH1 s1=>?_⟩;cases x with
  |true=>exact aX (K' s1 so e q)
  |false=>cases e;exact aV (q H1 s1)
theorem w_or (ha:PT X a (dQ X.K ta))(hb:PW X (.BoolOp .Or (b::rest) pos) (dQ X.K tb)):PW X (.BoolOp .Or (a::b::rest) pos) (dQ X.K λY=>ta Y>>=λc=>if c then .ok true else tb Y):=
 PW.imp (D7 ha hb) λU H Q ⟨Y,F,k,so,e,q⟩=>by
  obtain⟨x,e1,e⟩:=Res.aA e;refine⟨Y,F,x,so,e1,λH1 s1=>?_⟩;cases x with
  |false=>exact aV (K' s1 so e q)
  |true=>cases e;exact aX (q H1 s1)
theorem zG (ha:PT X a (dQ X.K ta)):PT X (.UnaryOp .Not a pos) (dQ X.K λY=>ta Y>>=λc=>.ok (!c)):=PT.imp (JL ha) λU H Q ⟨Y,F,k,so,e,q⟩=>by obtain⟨x,e1,e⟩:=Res.aA e;cases e;exact⟨Y,F,x,so,e1,λH1 s1=>q H1 s1⟩
theorem La:PA X [] (tDA X.K λ_=>.ok []):=PA.imp kF λU H Q ⟨Y,F,z,so,e,q⟩=>by cases e;exact q [] H (Same.refl H) rfl
theorem Fv (hs:isStar e=false)(ha:PE X e (tD X.K fa))(hr:PA X es (tDA X.K fs)):PA X (e::es) (tDA X.K λY=>fa Y>>=λx=>fs Y>>=λxs=>.ok (x::xs)):=PA.imp (dS ha hr hs) λU H Q ⟨Y,F,z,so,e,q⟩=>by obtain⟨x,e1,e⟩:=Res.aA e;obtain⟨xs,e2,e⟩:=Res.aA e;cases e;refine⟨Y,F,x,so,e1,λv H1 s1 rv=>⟨Y,F,xs,so.same s1,e2,λvs H2 s2 rs=>q _ H2 (s1.trans s2) ?_⟩⟩;exact⟨v,vs,rfl,rv.same s2 λ_ z=>z,rs.back s1⟩
theorem Sw {x1}(h:PA X es (tDA X.K fs))(hl:∀Y xs,fs Y=.ok xs->xs.length<=ba):PE X (.Tuple es x1 pos) (tD X.K λY=>fs Y>>=λys=>.ok (gJ (.tuple (ys.map (·.2))) (bZ ys),.tuple (ys.map (·.2)))):=PE.imp (J6 h) λU H Q ⟨Y,F,z,so,e,q⟩=>by obtain⟨ys,e1,e⟩:=Res.aA e;cases e;refine⟨Y,F,ys,so,e1,λvs H1 s1 rs=>?_⟩;have r:=rs.oI λx hx a h=>zC so.aN hx h;refine⟨by rw[r.length,aq];exact hl Y ys e1,λp hp=>q _ _ (s1.trans (Same.upd hp)) (tP (Cq hp r λ_ z=>z) λ_ z=>z)⟩
theorem Sx (h:PA X es (tDA X.K fs))(hl:∀Y xs,fs Y=.ok xs->xs.length<=ba):PE X (.List es pos) (tD X.K λY=>fs Y>>=λys=>.ok (bZ ys,.list (ys.map (·.2)))):=PE.imp (J7 h) λU H Q ⟨Y,F,z,so,e,q⟩=>by obtain⟨ys,e1,e⟩:=Res.aA e;cases e;refine⟨Y,F,ys,so,e1,λvs H1 s1 rs=>?_⟩;have r:=rs.oI λx hx a h=>zC so.aN hx h;refine⟨by rw[r.length,aq];exact hl Y ys e1,λp hp=>q _ _ (s1.trans (Same.upd hp)) (vX hp r (λ_ z=>z) (Fg so.aN s1 hp))⟩
theorem Sz:PE X (.Dict [] [] pos) (tD X.K λ_=>.ok (.fr,.dict [])):=PE.imp Ki λU H Q ⟨Y,F,z,so,e,q⟩=>by cases e;intro p hp;exact q _ _ (Same.upd hp) ⟨p,[],rfl,bC,hp,rfl⟩
end
theorem SA {α:Type}(xs:List α)(i:Int):L2.cF xs i=Mi.cF xs i:=rfl
theorem SE (n d:Nat)(o:Option Int):HT.aU n d o=Mi.aU n d o:=by cases o<;>rfl
theorem aD.cut {K:W.Frag}(lo hi:Option Int)(r:aD K H B vs ds):aD K H B (Mi.cut vs lo hi) (Mi.cut ds lo hi):=by unfold Mi.cut;rw[r.length];exact(r.drop _).take _
theorem aD.cF {K:W.Frag}(r:aD K H B vs ds)(e:Mi.cF ds i=some d):∃v,L2.cF vs i=some v/\Rep K H B v d:=by
 unfold Mi.cF at e;cases e1:Mi.lB ds.length i with
 |none=>rw[e1]at e;cases e
 |some j=>rw[e1]at e;obtain⟨v,h1,h2⟩:=r.get e;refine⟨v,?_,h2⟩;rw[SA];unfold Mi.cF;rw[r.length,e1];exact h1
theorem SF (hu:X.A.units+64<cLine):mK X (λx y H Q=>∃a v,x=.ref a/\DGet H a y (some v)/\Q v H):=by intro value slice pins s U H x y v u Q I rx ry h hs;obtain⟨a,z,rfl,g,q⟩:=h;cases rx;exact tail_any (Qw I g) PySem.F.slot_dict_getitem.lookup (zdf (by omega) I g ry λw' s' I' dJ=>⟨z,H,I',dJ,q⟩) hs
def wm (K:W.Frag):R2:=λx y H Q=>∃B B' dx dy d,Rep K H B x dx/\Rep K H B' y dy/\iG dx dy=.ok d/\∀w,Rep K H B w d->Q w H
theorem Lb (hu:X.A.units+64<cLine):mK X (wm X.K):=by
 intro value slice pins s U H x y v u Q I rx ry h hs;refine(RH.or (SF hu)) value slice pins s U H x y v u Q I rx ry ?_ hs;obtain⟨B,B',dx,dy,d,r1,r2,e,q⟩:=h;cases dx<;>try (cases e;done)
 case list xs=>
  cases dy<;>try (cases e;done)
  rename_i i;subst r2;obtain⟨a,vs,rfl,h1,q1⟩:=pU r1;change Res.eQ (Mi.cF xs i)=_ at e;cases e3:Mi.cF xs i with
  |none=>rw[e3]at e;cases e
  |some d'=>rw[e3]at e;cases e;obtain⟨w,h3,h4⟩:=q1.cF e3;exact .inl (.inl ⟨a,vs,i,w,rfl,rfl,h1,h3,q w h4⟩)
 case tuple xs=>
  cases dy<;>try (cases e;done)
  rename_i i;subst r2;obtain⟨a,vs,rfl,h1,q1⟩:=r1;change Res.eQ (Mi.cF xs i)=_ at e;cases e3:Mi.cF xs i with
  |none=>rw[e3]at e;cases e
  |some d'=>rw[e3]at e;cases e;obtain⟨w,h3,h4⟩:=q1.cF e3;exact .inl (.inr (.inl ⟨a,vs,i,w,rfl,rfl,h1,h3,q w h4⟩))
 case str z=>
  cases dy<;>try (cases e;done)
  rename_i i;have e1:=r1.1;subst e1 r2;change(if z.length<=LIM then Res.eQ ((Mi.cF z.cps.toList i).map λc=>PyData.str ⟨#[c]⟩)else .no)=_ at e;split at e
  ·rename_i hl;cases e3:Mi.cF z.cps.toList i with
   |none=>rw[e3]at e;cases e
   |some c=>
    rw[e3]at e;cases e
    have hc:c∈z.cps.toList:=by
     unfold Mi.cF at e3;cases e4:Mi.lB z.cps.toList.length i with
     |none=>rw[e4]at e3;cases e3
     |some j=>rw[e4]at e3;exact d9 e3
    exact .inl (.inr (.inr ⟨z,i,c,rfl,rfl,mR hl,e3,q _ ⟨rfl,KY r1.2 hc⟩⟩))
  ·cases e
 case dict es=>
  change(if tJ _=true then Res.eQ (gO es _)else Res.no)=_ at e;split at e
  ·rename_i hk;obtain⟨k,rfl,rfl,_⟩:=K1 hk r2;obtain⟨a,kvs,rfl,h1,_,h2⟩:=r1;have hv:=h2.val k;cases e3:gO es (kD k)with
   |none=>rw[e3]at e;cases e
   |some d'=>rw[e3]at e hv;cases e;obtain⟨w,h3,h4⟩:=hv;exact .inr ⟨a,w,rfl,by rw[<-h3];exact DGet.k h1,q w h4⟩
  ·cases e
theorem Lc (h:z4v i=true):Ks i:=λo v=>by cases i<;>first|rfl|cases h
theorem d_ix (hu:X.A.units+64<cLine)(hs:z4v i=true)(ha:PE X a (tD X.K fa))(hb:PE X i (tD X.K fb)):
  PE X (.Subscript a i pos) (tD X.K λY=>fa Y>>=λx=>fb Y>>=λy=>iG x.2 y.2>>=λd=>.ok (gJ d x.1,d)):=
 PE.imp (Kt (Lb hu) ha hb (Lc hs)) λU H Q ⟨Y,F,z,so,e,q⟩=>by obtain⟨x,e1,e⟩:=Res.aA e;obtain⟨y,e2,e⟩:=Res.aA e;obtain⟨d,e3,e⟩:=Res.aA e;cases e;exact⟨Y,F,x,so,e1,λv H1 s1 rv=>⟨Y,F,y,so.same s1,e2,λu H2 s2 ru=>⟨_,_,x.2,y.2,d,rv.same s2 λ_ z=>z,ru,e3,λw dJ=>q w H2 (s1.trans s2) (tP dJ λ_ z=>z)⟩⟩⟩
theorem SG (h:PyData.strOk z=true)(lo hi:Option Int):PyData.strOk (fY z lo hi)=true:=
 strOk_iff.mpr λc hc=>strOk_iff.mp h c (by
  have:c∈Mi.cut z.cps.toList lo hi:=by simpa[fY]using hc
  exact nk (nq this))
theorem Ld (lo hi:Option Int)(n:Nat):i9 lo hi 1 n=sliceRange ((Mi.aU n 0 lo:Nat):Int) ((Mi.aU n n hi:Nat):Int) 1:=by
 delta i9
 simp only[Int.one_pos,if_true]
 congr 1
 ·cases lo with
  |none=>rfl
  |some v=>
   simp only[Mi.aU];by_cases h:v<0
   ·simp only[vy h];omega
   ·simp only[vz h];omega
 ·cases hi with
  |none=>rfl
  |some v=>
   simp only[Mi.aU];by_cases h:v<0
   ·simp only[vy h];omega
   ·simp only[vz h];omega
theorem SH (n d:Nat)(hd:d<=n)(o:Option Int):Mi.aU n d o<=n:=by rw[<-SE];exact HT.vB n d hd o
theorem SI (z:Str)(lo hi:Option Int):Txt.slice z lo hi=fY z lo hi:=by
 have hn:z.cps.toList.length=z.length:=by simp[Str.length]
 have e:(i9 lo hi 1 z.length).filterMap (z.cps[·]?)=Mi.cut z.cps.toList lo hi:=by rw[Ld,qy,pick_run];unfold Mi.cut;rw[hn]
 have hl:(i9 lo hi 1 z.length).length=Mi.aU z.length z.length hi-Mi.aU z.length 0 lo:=by rw[Ld,qy,aq,d8]
 unfold Txt.slice;split
 ·rename_i hc;simp at hc;have h2:=SH z.length z.length (ag _) hi
  have e2:Mi.cut z.cps.toList lo hi=z.cps.toList:=by
   unfold Mi.cut;rw[hn];by_cases h0:Mi.aU z.length 0 lo=0
   ·rw[h0,List.drop_zero,ki (by rw[hn];omega)]
   ·have hz:z.length=0:=by omega
    have:z.cps.toList=[]:=j4.mp (by rw[hn];exact hz);rw[this];simp
  unfold fY;rw[e2]
 ·unfold fY;rw[<-e]
def Fw (K:W.Frag):V->Option Int->Option Int->Hp->VK->Prop:=λx lo hi H Q=>∃B dx d,Rep K H B x dx/\tO dx lo hi=.ok d/\∀w H',Same H H'->Rep K H' (λa=>nw H a\/B a) w d->(∀ds,d=.list ds->imms ds=true->Rep K H' (nw H) w d)->Q w H'
theorem SJ:pO X (Fw X.K):=by
 intro pins s U H x v vl vu lo hi sl Q I rx hs pl pu h;refine(RI.or QI) pins s U H x v vl vu lo hi sl Q I rx hs pl pu ?_;obtain⟨B,dx,d,r,e,q⟩:=h;cases dx<;>try (cases e;done)
 case list xs=>cases e;obtain⟨a,vs,rfl,h1,q1⟩:=pU r;refine .inl (.inl ⟨a,vs,rfl,h1,λp hp=>?_⟩);exact q _ _ (Same.upd hp) (vX hp (q1.cut lo hi) (λ_ z=>.inr z) (.inl hp)) λds z Cg=>by cases z;exact vX hp (aD.bL _ Cg (q1.cut lo hi)) (λ_ z=>z) hp
 case tuple xs=>
  change(if aU xs.length 0 lo=0/\aU xs.length xs.length hi=xs.length then Res.no else Res.ok (PyData.tuple (cut xs lo hi)))=_ at e;split at e
  ·cases e
  ·rename_i hw;cases e;obtain⟨a,vs,rfl,h1,q1⟩:=r;refine .inr ⟨a,vs,rfl,h1,by rw[q1.length];exact hw,λp hp=>?_⟩;exact q _ _ (Same.upd hp) (Cq hp (q1.cut lo hi) λ_ z=>.inr z) λds z=>by cases z
 case str z=>
  change(if z.length<=LIM then Res.ok (PyData.str (fY z lo hi))else .no)=_ at e;split at e
  ·rename_i hl;cases e;have e1:=r.1;subst e1;refine .inl (.inr ⟨z,rfl,mR hl,?_⟩);rw[SI];exact q _ H (Same.refl H) ⟨rfl,SG r.2 lo hi⟩ λds z=>by cases z
  ·cases e
theorem oJ:PO X none (tDO X.K λ_=>.ok none):=PO.imp QE λU H Q ⟨Y,F,z,so,e,q⟩=>by cases e;exact q H (Same.refl H)
theorem SK (ha:PE X a (tD X.K fa)):PO X (some a) (tDO X.K λY=>fa Y>>=λx=>vN x.2):=
 PO.imp (QF ha) λU H Q ⟨Y,F,z,so,e,q⟩=>by
  obtain⟨x,e1,e⟩:=Res.aA e;refine⟨Y,F,x,so,e1,λv H1 s1 rv=>?_⟩;obtain⟨g,d⟩:=x;cases d<;>try (cases e;done)
  cases e;exact⟨_,rv,q H1 s1⟩
theorem d_sl {lo:Option Expr}(ha:PE X a (tD X.K fa))(hl:PO X lo (tDO X.K fl))(hh:PO X hi (tDO X.K fh)):
  PE X (.Subscript a (.Slice lo hi none p2) pos) (tD X.K λY=>fa Y>>=λx=>fl Y>>=λl=>fh Y>>=λh=>tO x.2 l h>>=λd=>.ok (gN d (bZ [x]),d)):=
 PE.imp (QH SJ ha hl hh) λU H Q ⟨Y,F,z,so,e,q⟩=>by
  obtain⟨x,e1,e⟩:=Res.aA e;obtain⟨l,e2,e⟩:=Res.aA e;obtain⟨h,e3,e⟩:=Res.aA e;obtain⟨d,e4,e⟩:=Res.aA e;cases e;refine⟨Y,F,x,so,e1,λv H1 s1 rv=>⟨Y,F,l,so.same s1,e2,λH2 s2=>⟨Y,F,h,so.same (s1.trans s2),e3,λH3 s3=>⟨_,x.2,d,rv.same (s2.trans s3) λ_ z=>z,e4,λw H4 s4 dJ nn=>q w H4 ((s1.trans (s2.trans s3)).trans s4) (K2 dJ (λa h=>?_) λds z hi=>(nn ds z hi).weak λ_ z=>nw.back (s1.trans (s2.trans s3)) z)⟩⟩⟩⟩;rcases h with h|h
  ·exact Fg so.aN (s1.trans (s2.trans s3)) h
  ·exact zC so.aN (by simp) h
theorem d_cB {id:String}(hc:CallR X (.builtin id) (z6z X.K m))(hm:X.mg x=none)(hv:db x=some (.builtin id))(ha:PA X (e::es) (tDA X.K fs))(hst:((e::es).all fun e=>!isStar e)=true)(hg:Gl X x)(hn:x≠"__name__")(hdb:Z9 x):
  PE X (.Call (.Name x p) (e::es) [] pos) (tD X.K λY=>fs Y>>=λys=>m (ys.map (·.2))>>=λd=>.ok (gJ d .al,d)):=
 PE.imp (zr hc hm hv ha hst hg hn hdb) λU H Q ⟨Y,F,z,so,e,q⟩=>by obtain⟨ys,e1,e⟩:=Res.aA e;obtain⟨d,e2,e⟩:=Res.aA e;cases e;exact⟨Y,F,ys,so,e1,λvs H1 s1 rs=>⟨_,_,d,rs.kI so.aN,e2,λw H2 s2 dJ=>q w H2 (s1.trans s2) (tP dJ λa h=>h.elim (λz=>(nw.back s1 z).aN so.aN) λz=>z)⟩⟩
theorem cO.length {K:W.Frag}:∀{kvs:List (Key×V)} {es:lF},cO K H B kvs es->kvs.length=es.length
 |kvs,[],r=>by have e:kvs=[]:=r;subst e;rfl
 |kvs,(kd,d)::es,r=>by obtain⟨k,v,t,rfl,_,_,_,q⟩:=r;rw[ay,ay,q.length]
theorem wo {K:W.Frag}(r:aD K H B xs [d]):∃v,xs=[v]/\Rep K H B v d:=by obtain⟨v,t,e,h,q⟩:=r;subst e q;exact⟨v,rfl,h⟩
theorem Le {K:W.Frag}(r:aD K H B xs [d,d']):∃v v',xs=[v,v']/\Rep K H B v d/\Rep K H B v' d':=by obtain⟨v,t,e,h,q⟩:=r;obtain⟨v',e2,h'⟩:=wo q;subst e e2;exact⟨v,v',rfl,h,h'⟩
theorem Lf:CallR X (.builtin "len") (z6z X.K (gS "len")):=by
 refine CallR.imp (RJ.or Q8) λxs H Q h=>?_;obtain⟨B,ds,d,r,e,q⟩:=h;simp only[gS,if_true]at e;split at e
 ·rename_i x;obtain⟨v,rfl,r1⟩:=wo r;clear r;have r:=r1;cases x<;>try (cases e;done)
  case str z=>
   change(if z.length<=LIM then Res.ok (PyData.int z.length)else .no)=_ at e;split at e
   ·rename_i hl;cases e;have e1:=r.1;subst e1;exact .inl (.inl ⟨z,rfl,mR hl,q _ H (Same.refl H) rfl⟩)
   ·cases e
  case tuple ds=>cases e;obtain⟨a,vs,rfl,h1,q1⟩:=r;exact .inl (.inr ⟨a,vs,rfl,.inr h1,q _ H (Same.refl H) (by rw[q1.length];exact rfl)⟩)
  case list ds=>cases e;obtain⟨a,vs,rfl,h1,q1⟩:=pU r;exact .inl (.inr ⟨a,vs,rfl,.inl h1,q _ H (Same.refl H) (by rw[q1.length];exact rfl)⟩)
  case dict ds=>cases e;obtain⟨a,vs,rfl,h1,_,q1⟩:=r;exact .inr ⟨a,vs,rfl,h1,q _ H (Same.refl H) (by rw[q1.length];exact rfl)⟩
 ·cases e
theorem zg4 {a b:Int}(hh:A.handled=none)(hp:s.heap.IsTuple p #[.int a t,.int b u])
  (hQ:∀z h' tk,(∀c o,s.heap.get? c=some o->h'.get? c=some o)->Q (.int (if b<a then b else a) z) {s with heap:=h',toks:=tk}):wpAny (model prog w) A (call (.builtin "min") [.ref p]) Q E s:=by
 have ei:vn #[(a,t),(b,u)]=#[.int a t,.int b u]:=by simp[vn]
 have jH:s.heap.IsTuple p (vn #[(a,t),(b,u)]):=by rw[ei];exact hp
 have lt:p<s.heap.objs.size:=by obtain⟨o,ho,_⟩:=hp;exact bc ho
 refine call_min_walk (lw jH (⟨_,[s.heap.objs.size,p],[s.heap.objs.size],_,_,_,_,rfl,Walks.tuple (A:=A.in1) hh _ p (bz lt) _,⟨⟨_,au _ rfl,rfl,rfl⟩,jH.push _⟩,λc hc=>?_,(by rw[ei];exact ur 1),CmpOf.ints_lt (numAt #[(a,t),(b,u)]) (λ_ _=>intItems_at),λv h' tk hP hk=>?_⟩))
 ·rw[jx];simp at hc;rcases hc with rfl|rfl
  ·exact lg _
  ·exact mj lt
 ·have keep:∀c o,s.heap.get? c=some o->h'.get? c=some o:=λc o e=>hk c o (λz=>cw _ (av.mp z▸bc e)) (af _ e);have es:(vn #[(a,t),(b,u)]).size-1=1:=by rw[ei];rfl
  rw[es]at hP;by_cases Cw:b<a
  ·have e1:argBest (fun i j=>decide (numAt #[(a,t),(b,u)] i<numAt #[(a,t),(b,u)] j)) 1=1:=by
    show(if decide (b<a)=true then 1 else 0)=1;rw[we Cw];rfl
   rw[e1,ei]at hP;cases(v5 hP);have:=hQ u h' tk keep
   rwa [vy Cw]at this
  ·have e1:argBest (fun i j=>decide (numAt #[(a,t),(b,u)] i<numAt #[(a,t),(b,u)] j)) 1=0:=by
    show(if decide (b<a)=true then 1 else 0)=0;rw[wg Cw];rfl
   rw[e1,ei]at hP;cases(v5 hP);have:=hQ t h' tk keep
   rwa [vz Cw]at this
theorem SM (hc:X.calm=true):CallR X (.builtin "min") (λxs H Q=>∃p i j,xs=[.ref p]/\cS X.K H p [.int i,.int j]/\Q (.int (if j<i then j else i)) H):=by
 rintro pins s U H xs us Q I r ⟨p,i,j,rfl,hq,q⟩
 obtain⟨u,rfl,rfl⟩:=vals1 r;obtain⟨its,rv,hp,_⟩:=I.tuple hq;obtain⟨a,b,rfl,⟨t,rfl⟩,t',rfl⟩:=vals2 rv;exact zg4 (I.ok.hd hc) hp λz h' tk k=>⟨.int (if j<i then j else i),H,I.kept k,⟨z,rfl⟩,q⟩
theorem SN (hc:X.calm=true):CallR X (.builtin "min") (z6z X.K (gS "min")):=by
 refine CallR.imp ((Qj hc).or (SM hc)) λxs H Q h=>?_;obtain⟨B,ds,d,r,e,q⟩:=h;replace e:minD ds=Res.ok d:=e;have mn:∀i j:Int,(if j<i then j else i)=min i j:=λi j=>by split<;>omega
 have m2:∀{x y:D},min2 x y=.ok d->∃i j,x=.int i/\y=.int j/\d=.int (min i j):=λ{x y} h=>by
  cases x<;>try (exact(dR h).elim)
  cases y<;>try (exact(dR h).elim)
  cases h;exact⟨_,_,rfl,rfl,rfl⟩
 rcases ds with _|⟨a,_|⟨b,_|⟨c,ds⟩⟩⟩
 ·exact(dR e).elim
 ·cases a<;>try (exact(dR e).elim)
  rename_i ys;rcases ys with _|⟨a,_|⟨b,_|⟨c,ys⟩⟩⟩
  ·exact(dR e).elim
  ·exact(dR e).elim
  ·obtain⟨i,j,rfl,rfl,rfl⟩:=m2 e;obtain⟨v,rfl,p,vs,rfl,hq,rs⟩:=wo r;obtain⟨v1,v2,rfl,h1,h2⟩:=Le rs;subst h1 h2;exact .inr ⟨p,i,j,rfl,hq,q _ H (Same.refl H) (show V.int _=V.int _ by rw[mn])⟩
  ·unfold minD vT at e;exact(dR e).elim
 ·obtain⟨i,j,rfl,rfl,rfl⟩:=m2 e;obtain⟨v,v',rfl,h1,h2⟩:=Le r;subst h1 h2;exact .inl ⟨i,j,rfl,q _ H (Same.refl H) (show V.int _=V.int _ by rw[mn])⟩
 ·exact(dR e).elim
theorem zen (I:Inv X pins U H s)(rx:RelV x u)(r:Rep X.K H B x d)(hT:T∈tysB)
  (h:∀tk,Q (.bool (jM (gU d) T)) {s with toks:=tk}):wpAny (model X.prog X.w) A (call (.builtin "isinstance") [u,.type T]) Q E s:=by
 have ht:gU d∈qP:=by cases d<;>simp[gU,qP]
 have e:=RK X.K _ ht T hT;cases d with
 |none=>have e1:x=.non:=r;subst e1;exact z21 I rx .non e h
 |bool b=>have e1:x=.bl b:=r;subst e1;exact z21 I rx (.bl b) e h
 |int b=>have e1:x=.int b:=r;subst e1;exact z21 I rx (.int b) e h
 |str b=>have e1:x=.str b:=r.1;subst e1;exact z21 I rx (.str b) e h
 |tuple ds=>obtain⟨a,vs,rfl,h1,_⟩:=r;cases rx;obtain⟨_,_,⟨o,ho,hc,_⟩,_⟩:=I.tuple h1;exact W.kia_one W.kitx_tuple I.dB ⟨o,ho,hc⟩ e (λz=>nomatch z) h
 |list ds=>obtain⟨a,vs,rfl,h1,_⟩:=pU r;cases rx;obtain⟨_,_,⟨o,_,ho,hc,_⟩,_⟩:=I.list h1;exact W.kia_one W.kitx_list I.dB ⟨o,ho,hc⟩ e (λz=>nomatch z) h
 |dict es=>obtain⟨a,vs,rfl,h1,_⟩:=r;exact z21 I rx (.dK h1) e h
def Fx (K:W.Frag):List V->Hp->VK->Prop:=λxs H Q=>∃B x d T,xs=[x,.ty T]/\Rep K H B x d/\T∈tysB/\Q (.bl (jM (gU d) T)) H
theorem SQ:CallR X (.builtin "isinstance") (Fx X.K):=by
 rintro pins s U H xs us Q I r ⟨B,x,d,T,rfl,rx,hT,q⟩
 obtain⟨u,w',rfl,r1,r2⟩:=vals2 r;obtain rfl:w'=Value.type T:=r2;exact zen I r1 rx hT λtk=>⟨.bl _,H,I.tok _,rfl,q⟩
theorem zrn (hm:X.mg "isinstance"=none)(hg:Gl X "isinstance")(hm2:X.mg x2=none)(hv2:db x2=some (.type T))(hg2:Gl X x2)(hn2:x2≠"__name__")(hd2:Z9 x2)(hT:T∈tysB)(hs:isStar y=false)(ha:PE X y (tD X.K fa)):
  PE X (.Call (.Name "isinstance" p) [y,.Name x2 p2] [] pos) (tD X.K λY=>fa Y>>=λx=>.ok (.fr,.bool ([T].any λT=>jM (gU x.2) T))):=
 PE.imp (zr SQ hm (by decide+kernel) (dS ha (dS (PB (v:=.ty T) hg2 hm2 hv2 rfl hn2 hd2) kF) hs) (by simp[hs];rfl) hg (by decide) (by decide)) λU H Q ⟨Y,F,z,so,e,q⟩=>by obtain⟨x,e1,e⟩:=Res.aA e;cases e;refine⟨Y,F,x,so,e1,λv H1 s1 rv=>?_⟩;refine⟨_,v,x.2,T,rfl,rv,hT,q _ H1 s1 ?_⟩;show V.bl _=V.bl _;simp
def Fy (K:W.Frag)(n:Nat)(t:uP):TG:=λv U H Q=>∃a xs,v=.ref a/\SqL K H a xs/\xs.length=n/\t xs U H Q
theorem SR (hc:X.calm=true)(h:PGs X es t)(hn:(fv es X.env).length=n)(hst:(fv es X.env).findIdx? (·.1)=none):PG X (.Tuple es k pos) (Fy X.K n t):=by
 rintro pins s U H v u Q I r ⟨a,xs,rfl,hq,hl,hw⟩
 cases r;obtain⟨its,rv,pl,hz⟩:=I.list hq;apply aa;refine kq ?_
 delta unpack
 rw[hst,show(fv es X.env).length=its.toArray.size by rw[hn,<-hl,rv.length,az]];apply aa;refine fk (W.kun_itemsOf (I.ok.hd hc) pl.isList λh' hx=>?_);have I1:Inv X pins U H {s with heap:=h'}:=I.kept λb o e=>hx b o (bz (bc e)) e;exact h pins _ U H xs _ Q I1 (by simpa using rv) hw
def Kp (B:Ad->Prop)(H1 H2:Hp):Prop:=∀a o,H1 a=some o->(B (some a)\/Fix o)->H2 a=some o
theorem Kp.of (s:Same H1 H2):Kp B H1 H2:=λa o e _=>s a o e
structure Walk (K:W.Frag)(J:It)(B:Ad->Prop)(H1:Hp)(xs:List D):Prop where
 len:xs.length<=ba
 go:∀H2,Kp B H1 H2->∀i,i<xs.length->J.go i H2
 stop:∀H2,Kp B H1 H2->J.stop xs.length H2
 kZ:∀H2,Kp B H1 H2->∀i x H3,i<xs.length->J.kZ i H2 x H3->Same H2 H3/\∃d,xs[i]?=some d/\Rep K H3 B x d
def tDW (K:W.Frag)(f:Rho->Res (G×List D)):TI:=λU H R=>∃Y F w,StOk K F H U Y/\f Y=.ok w/\∀J B H',Same H H'->(∀a,B a->BG F H w.1 a/\¬nw H' a)->Walk K J B H' w.2->R J H'
theorem _root_.L2.PI.imp (h:PI X tg e t)(i:∀U H Q,t' U H Q->t U H Q):PI X tg e t':=λpins s U H Q I q=>h pins s U H Q I (i U H Q q)
section
variable {K:W.Frag}{H:Hp}{B:Ad->Prop}
theorem SS (h:(H a=some (.lst vs)/\B (some a))\/(FL K H a vs/\B none))(r:aD K H B vs ds)(hz:ds.length<=ba):Walk K (Ee K a) B H ds:=by
 have sq:∀H2,Kp B H H2->SqL K H2 a vs:=λH2 k=>by
  rcases h with⟨h,b⟩|⟨⟨o,h⟩|h,_⟩
  ·exact .inl (.inl (k a _ h (.inl b)))
  ·exact .inl (.inr ⟨o,k a _ h (.inr True.intro)⟩)
  ·exact .inr h
 refine⟨hz,λH2 k i hi=>?_,λH2 k=>⟨vs,sq H2 k,by rw[r.length];exact ag _⟩,λH2 k i x H3 hi y=>?_⟩
 ·have hv:i<vs.length:=by rw[r.length];exact hi
  exact⟨vs,vs[i],sq H2 k,by simp[hv]⟩
 ·obtain⟨rfl,y⟩:=y;obtain⟨d,h1,h2⟩:=r.lM (y vs (sq _ k));exact⟨Same.refl _,d,h1,Rep.keep k (λ_ z=>z) d h2⟩
theorem SU (h:cS K H a vs)(r:aD K H B vs ds)(hz:ds.length<=ba):Walk K (JU K a) B H ds:=by
 have sq:∀H2,Kp B H H2->cS K H2 a vs:=λH2 k=>h.keep k;refine⟨hz,λH2 k i hi=>?_,λH2 k=>⟨vs,sq H2 k,by rw[r.length];exact ag _⟩,λH2 k i x H3 hi y=>?_⟩
 ·have hv:i<vs.length:=by rw[r.length];exact hi
  exact⟨vs,vs[i],sq H2 k,by simp[hv]⟩
 ·obtain⟨rfl,y⟩:=y;obtain⟨d,h1,h2⟩:=r.lM (y vs (sq _ k));exact⟨Same.refl _,d,h1,Rep.keep k (λ_ z=>z) d h2⟩
theorem SV (ok:PyData.strOk z=true)(hz:z.length<=ba):Walk K (EJ z) B H (z.cps.toList.map λc=>.str ⟨#[c]⟩):=by
 have hl:(z.cps.toList.map λc=>(PyData.str ⟨#[c]⟩:D)).length=z.cps.size:=by simp
 refine⟨by rw[hl];exact hz,λH2 k i hi=>?_,λH2 k=>?_,λH2 k i x H3 hi y=>?_⟩
 ·rw[hl]at hi;exact hi
 ·show z.cps.size<=_;rw[hl];exact ag _
 ·obtain⟨rfl,c,hc,rfl⟩:=y;have hc':z.cps.toList[i]?=some c:=by simpa using hc
  refine⟨Same.refl _,.str ⟨#[c]⟩,by rw[br,hc'];rfl,rfl,KY ok (d9 hc')⟩
theorem SW {lo:Int}(hz:n<=ba):Walk K (BX lo n) B H ((cj n).map λ(i:Nat)=>.int (lo+i)):=by
 have hl:((cj n).map λ(i:Nat)=>(PyData.int (lo+i):D)).length=n:=by simp
 refine⟨by rw[hl];exact hz,λH2 k i hi=>?_,λH2 k=>?_,λH2 k i x H3 hi y=>?_⟩
 ·rw[hl]at hi;exact hi
 ·show n<=_;rw[hl];exact ag _
 ·obtain⟨rfl,rfl⟩:=y;rw[hl]at hi;exact⟨Same.refl _,.int (lo+i),by rw[br,lj hi];rfl,rfl⟩
end
section
variable {X:Cx}{a b e:Expr}{fc:Rho->Res GD}
theorem z5b (I1:Inv X pins U H1 s1)(r1:RelV y v)(rv:Rep X.K H1 B y d)(e:z56 d=.ok xs)
  (q:∀J,Walk X.K J B H1 xs->R J H1):wpAny (model X.prog X.w) X.A (tu v) (uR X pins U tg R) X.xe s1:=by
 cases d<;>try (cases e;done)
 case list ds=>
  cases e;obtain⟨a,vs,rfl,h,rs⟩:=rv
  have hq:SqL X.K H1 a vs:=by
   rcases h with⟨h,_⟩|⟨h|h,_⟩
   ·exact .inl (.inl h)
   ·exact .inl (.inr h)
   ·exact .inr h
  cases r1;obtain⟨its,oK,p,hz⟩:=I1.list hq;refine mf p.isList (⟨s1.heap.objs.size,[s1.heap.objs.size],_,_,H1,rfl,I1.kept λb o e=>af _ e,JV a _,⟨_,au _ rfl,rfl,rfl⟩,λb hb=>?_,q _ (SS h rs (by rw[<-rs.length];exact hz))⟩);have e:b=s1.heap.objs.size:=by simpa using hb
  subst e;exact I1.fL (ag _) (I1.hok.fresh (ag _))
 case tuple ds=>
  cases e;obtain⟨a,vs,rfl,hq,rs⟩:=rv;cases r1;obtain⟨its,oK,p,hz⟩:=I1.tuple hq;refine lw p (⟨s1.heap.objs.size,[s1.heap.objs.size],_,_,H1,rfl,I1.kept λb o e=>af _ e,PY a _,⟨_,au _ rfl,rfl,rfl⟩,λb hb=>?_,q _ (SU hq rs (by rw[<-rs.length];exact hz))⟩);have e:b=s1.heap.objs.size:=by simpa using hb
  subst e;exact I1.fL (ag _) (I1.hok.fresh (ag _))
 case str z=>
  change(if z.length<=LIM then Res.ok (z.cps.toList.map λc=>PyData.str ⟨#[c]⟩)else .no)=_ at e;split at e
  case isFalse=>cases e
  rename_i hs;cases e;have e1:=rv.1;subst e1;obtain⟨t,rfl⟩:=r1
  have fin:∀ty hty,uR X pins U tg R (.ref s1.heap.objs.size) {s1 with heap:=s1.heap.push {cls:=.type ty,data:=.fields #[.str z t,.int 0 0]}}:=λty hty=>by
   refine⟨s1.heap.objs.size,[s1.heap.objs.size],_,_,H1,rfl,I1.kept λb o e=>af _ e,Ry hty _ z t,⟨_,au _ rfl,rfl,rfl⟩,λb hb=>?_,(q _ (SV rv.2 (mR hs)))⟩;have e:b=s1.heap.objs.size:=by simpa using hb
   subst e;exact I1.fL (ag _) (I1.hok.fresh (ag _))
  cases ha:z.cps.all (· <128)
  ·exact wpAny_pyIter_wide ha (fin _ (.inr rfl))
  ·exact wpAny_pyIter_ascii ha (fin _ (.inl rfl))
theorem gW (ha:PE X a (tD X.K fa)):PI X tg a (tDW X.K λY=>fa Y>>=λx=>z56 x.2>>=λxs=>.ok (x.1,xs)):=by
 rintro pins s U H R I ⟨Y,F,w,so,e,q⟩
 obtain⟨x,e1,e⟩:=Res.aA e;obtain⟨xs,e2,e⟩:=Res.aA e;cases e;refine aL (ha pins s U H (λv H1=>Same H H1/\Rep X.K H1 (BG F H x.1) v x.2) I ⟨Y,F,x,so,e1,λv H1 s1 rv=>⟨s1,rv⟩⟩) λv s1 zz=>?_;obtain⟨y,H1,I1,r1,wq,rv⟩:=zz;exact z5b I1 r1 (Rep.there _ rv) e2 λJ wk=>q J _ H1 wq (λ_ z=>z) wk
theorem SX {n:Int}(h1:n<=LIM)(h2:-LIM<=n):-(2 ^ 62)<=n/\n<2 ^ 62:=by unfold LIM at *;omega
theorem dW.one {K:W.Frag}(r:dW K F H H' vs [x]):∃v,vs=[v]/\Rep K H' (BG F H x.1) v x.2:=by obtain⟨v,t,e,h,q⟩:=r;subst e q;exact⟨v,rfl,h⟩
theorem dW.two {K:W.Frag}(r:dW K F H H' vs [x,y]):∃v w,vs=[v,w]/\Rep K H' (BG F H x.1) v x.2/\Rep K H' (BG F H y.1) w y.2:=by obtain⟨v,t,e,h,q⟩:=r;obtain⟨w,e2,h2⟩:=q.one;subst e e2;exact⟨v,w,rfl,h,h2⟩
theorem SY (hm:X.mg "range"=none)(hg:Gl X "range")(hs:isStar a=false)(ha:PA X [a] (tDA X.K fs))(hl:∀Y ys,fs Y=.ok ys->ys.length=1):PI X tg (.Call (.Name "range" p) [a] [] pos) (tDW X.K λY=>fs Y>>=λys=>eJ (ys.map (·.2))>>=λxs=>.ok (.fr,xs)):=
 PI.imp (P5 hg hm ha (dN hs)) λU H R ⟨Y,F,w,so,e,q⟩=>by
  obtain⟨ys,e1,e⟩:=Res.aA e;obtain⟨xs,e2,e⟩:=Res.aA e;cases e;refine⟨Y,F,ys,so,e1,λvs H1 s1 rs=>?_⟩
  match ys,(hl Y ys e1)with
  | [(g,d)],S0=>
   obtain⟨v,rfl,rv⟩:=rs.one;cases d<;>try (cases e2;done)
   rename_i n;subst rv;change(if n<=LIM/\-LIM<=n then Res.ok ((cj n.toNat).map λ(i:Nat)=>PyData.int i)else .no)=_ at e2;split at e2
   case isFalse=>cases e2
   rename_i hn;cases e2;have Lg:=SX hn.1 hn.2;refine⟨n,rfl,Lg.1,Lg.2,q _ (λ_=>False) H1 s1 (λ_ z=>z.elim) ?_⟩;have e0:((cj n.toNat).map λ(i:Nat)=>(PyData.int i:D))=(cj n.toNat).map λi=>.int (0+i):=by apply rq;intro i _;rw[Int.zero_add]
   rw[e0];exact SW (mR (by unfold LIM at *;omega))
def Fm.drop (F:Fm)(i:Nat):Fm:={F with O:=λa=>if F.O a=some i then none else F.O a}
theorem Fm.bK {F:Fm}{a:Addr}(h:F.O a=none):(F.drop i).O a=none:=by show(if F.O a=some i then none else F.O a)=none;rw[h];rfl
theorem Bin.drop {a:Ad}(h:Bin F a):Bin (F.drop i) a:=by
 cases a with
 |none=>exact h
 |some a=>exact⟨Fm.bK h.1,h.2⟩
theorem Slot.drop {K:W.Frag}(S3:j≠i)(h:Slot K F H j g v d):Slot K (F.drop i) H j g v d:=by
 cases g with
 |fr=>
  obtain⟨p,e,o,h⟩:=h;refine⟨p,e,?_,?_⟩
  ·show(if F.O p=some i then none else F.O p)=some j;rw[o,vz (λz=>S3 (v5 z))]
  ·rcases h with⟨vs,ds,e1,e2,r⟩|⟨vs,ds,e1,e2,r⟩
   ·exact .inl ⟨vs,ds,e1,e2,r.weak λ_ b=>b.drop⟩
   ·exact .inr ⟨vs,ds,e1,e2,cO.same (λ_ _ e=>e) (λ_ b=>b.drop) r⟩
 |od=>exact h
 |al=>exact h
 |nu=>exact Rep.weak (λ_ b=>b.drop) h
def BI (F:Fm):G->Ad->Prop
 |.od=>fP F
 |.fr=>bM F
 |.al=>bM F
 |.nu=>bM F
theorem BI.of {a:Ad}(hv:∀a,H a=none->F.V a)(h:BG F H g a):BI F g a:=by
 cases g with
 |fr=>exact nw.aN hv h
 |od=>exact h
 |al=>exact h
 |nu=>exact h.elim (nw.aN hv) Bin.aN
theorem StOk.oM {K:W.Frag}(so:StOk K F H U Y)(r:Rep K H (BI F x.1) v x.2):StOk K (F.drop i) H (U.set i (some v)) (Y.set i (some (jL x))) where
 ext:=so.ext
 aN:=so.aN
 own:=λa j e=>by
  have e':F.O a=some j:=by
   have:(if F.O a=some i then none else F.O a)=some j:=e;split at this
   ·cases this
   ·exact this
  exact so.own a j e'
 len:=by rw[dw,dw];exact so.len
 sl:=λj g d e=>by
  by_cases hj:i=j
  ·subst hj;rw[et]at e;simp only[if_true]at e;split at e
   ·rename_i hl;have e1:jL x=(g,d):=by simpa using e
    refine⟨v,?_,?_⟩
    ·rw[et];simp[so.len,hl]
    ·obtain⟨gx,dx⟩:=x;cases gx with
     |fr=>cases e1;exact r
     |od=>cases e1;exact r
     |al=>cases e1;exact r
     |nu=>cases e1;exact r
   ·cases e
  ·rw[cr hj]at e ⊢;obtain⟨u,h1,h2⟩:=so.sl j g d e;exact⟨u,h1,h2.drop λz=>hj z.symm⟩
structure Keeps (F F':Fm)(is:List Nat)(U σ':L2.St):Prop where
 h0:F'.H0=F.H0
 v:F'.V=F.V
 z:F'.z=F.z
 o:∀a,F.O a=none->F'.O a=none
 len:σ'.length=U.length
 rest:∀j,j∉is->σ'[j]?=U[j]?
theorem Keeps.refl:Keeps F F is U U:=⟨rfl,rfl,rfl,λ_ h=>h,rfl,λ_ _=>rfl⟩
theorem Keeps.set {v:Option V}(h:i∈is):Keeps F (F.drop i) is U (U.set i v):=⟨rfl,rfl,rfl,λ_ h=>Fm.bK h,dw,λj hj=>cr λz=>hj (by rw[<-z];exact h)⟩
theorem Keeps.trans (a:Keeps F F' is U σ')(b:Keeps F' oN is σ' jQ):Keeps F oN is U jQ:=⟨b.h0.trans a.h0,b.v.trans a.v,b.z.trans a.z,λx h=>b.o x (a.o x h),b.len.trans a.len,λj hj=>(b.rest j hj).trans (a.rest j hj)⟩
def tDG (K:W.Frag)(t:Tg):TG:=λv U H Q=>∃Y F x aH,StOk K F H U Y/\Rep K H (BI F x.1) v x.2/\fE t x Y=.ok aH/\∀σ' F',StOk K F' H σ' aH->Keeps F F' (tgIx t) U σ'->Q σ' H
theorem _root_.L2.PG.imp (h:PG X e t)(i:∀v U H Q,t' v U H Q->t v U H Q):PG X e t':=λpins s U H v u Q I r q=>h pins s U H v u Q I r (i v U H Q q)
theorem _root_.L2.PGs.imp {e:List Expr}(h:PGs X e t)(i:∀v U H Q,t' v U H Q->t v U H Q):PGs X e t':=λpins s U H v u Q I r q=>h pins s U H v u Q I r (i v U H Q q)
theorem S4 (hN:X.N.Nodup)(hi:X.N[i]?=some x)(hx:Loc X.env.scope x)(hf:X.fn x=true\/X.env.scope.names.lookup x=some .local):PG X (.Name x pos) (tDG X.K (.nm i)):=PG.imp (JS hN hi hx hf) λv U H Q ⟨Y,F,x,aH,so,r,e,q⟩=>by cases e;exact q _ _ (so.oM r) (Keeps.set (by simp[tgIx]))
def oO (K:W.Frag)(all is:List Nat):uP:=λvs U H Q=>∃Y F g ds aH,(∀i∈is,i∈all)/\StOk K F H U Y/\aD K H (BI F g) vs ds/\tM Y is ds g=some aH/\∀σ' F',StOk K F' H σ' aH->Keeps F F' all U σ'->Q σ' H
theorem S5:PGs X [] (oO X.K all []):=
 PGs.imp PV λvs U H Q ⟨Y,F,g,ds,aH,_,so,r,e,q⟩=>by
  cases ds with
  |nil=>cases e;exact⟨r,q U F so Keeps.refl⟩
  |cons d ds=>cases e
theorem S6 (hN:X.N.Nodup)(hi:X.N[i]?=some x)(hx:Loc X.env.scope x)(hf:X.fn x=true\/X.env.scope.names.lookup x=some .local)(h:PGs X es (oO X.K all is)):PGs X (.Name x p::es) (oO X.K all (i::is)):=
 PGs.imp (zez (JS hN hi hx hf) h (by rfl)) λvs U H Q ⟨Y,F,g,ds,aH,rE,so,r,e,q⟩=>by
  cases ds with
  |nil=>cases e
  |cons d ds=>
   obtain⟨v,t,rfl,h1,h2⟩:=r;refine⟨v,t,rfl,Y.set i (some (jL (gJ d g,d))),F.drop i,g,ds,aH,λj hj=>rE j (ah _ hj),?_,?_,e,λσ' F' kJ k=>q σ' F' kJ ((Keeps.set (rE i ak)).trans k)⟩
   ·refine so.oM ?_;unfold gJ;by_cases hi:imm d=true
    ·rw[vy hi];exact Rep.bL d hi h1
    ·rw[vz hi];exact h1
   ·exact h2.weak λa b=>by cases g<;>exact b
theorem S7 (hc:X.calm=true)(h:PGs X es (oO X.K is is))(hn:(fv es X.env).length=n)(hst:(fv es X.env).findIdx? (·.1)=none)(hl:is.length=n):PG X (.Tuple es k pos) (tDG X.K (.tp is)):=
 λpins s U H v u Q I ru ⟨Y,F,⟨g,d⟩,aH,so,r,e,q⟩=>by
  have hlen:∀is ds Y ρ1,tM Y is ds g=some ρ1->is.length=ds.length:=by
   intro is
   induction is with
   |nil=>intro ds Y ρ1 h;cases ds with
    |nil=>rfl
    |cons _ _=>cases h
   |cons i is ih=>intro ds Y ρ1 h;cases ds with
    |nil=>cases h
    |cons d ds=>rw[ay,ay,ih ds _ _ h]
  have got:∀ds,Res.eQ (tM Y is ds g)=.ok aH->tM Y is ds g=some aH:=λds e=>by
   cases e1:tM Y is ds g with
   |none=>rw[e1]at e;cases e
   |some ρ1=>rw[e1]at e;rw[Res.ok.inj e]
  cases d<;>try (cases e;done)
  case tuple ds=>have e1:=got ds e;obtain⟨a,vs,rfl,h1,h2⟩:=r;exact znk hc h hn hst pins s U H _ u Q I ru ⟨a,vs,rfl,h1,by rw[h2.length,<-hlen _ _ _ _ e1];exact hl,Y,F,g,ds,aH,λ_ h=>h,so,h2,e1,q⟩
  case list ds=>
   have e1:=got ds e;obtain⟨a,vs,rfl,h1,h2⟩:=r
   have h3:SqL X.K H a vs:=by
    rcases h1 with⟨h1,_⟩|⟨h1|h1,_⟩
    ·exact .inl (.inl h1)
    ·exact .inl (.inr h1)
    ·exact .inr h1
   exact SR hc h hn hst pins s U H _ u Q I ru ⟨a,vs,rfl,h3,by rw[h2.length,<-hlen _ _ _ _ e1];exact hl,Y,F,g,ds,aH,λ_ h=>h,so,h2,e1,q⟩
theorem StOk.blk {K:W.Frag}(so:StOk K F H U Y)(nt:Nat)(js:List Nat)(l:Addr)(xs:List V)(hl:H l=none):
  StOk K {F with V:=λa=>F.V a/\a≠l,O:=λ_=>none} (upd H l (.lst xs)) (fU nt js U) (bq nt none++js.map λj=>fO (Y.getD j none)) where
 ext:=λa o e=>by have:=so.ext a o e;rw[aK (iU this hl)];exact this
 aN:=λa e=>by
  by_cases h:a=l
  ·subst h;rw[bC]at e;cases e
  ·rw[aK h]at e;exact⟨so.aN a e,h⟩
 own:=λa i e=>by cases e
 len:=by unfold fU;simp
 sl:=λi g d e=>by
  have hB:∀a,bM F a/\¬nw H a->bM {F with V:=λa=>F.V a/\a≠l,O:=λ_=>none} a:=λa h=>by
   cases a with
   |none=>exact h.1
   |some a=>exact⟨h.1,λz=>h.2 (by rw[z];exact hl)⟩
  have S8:∀a,fP F a/\¬nw H a->fP {F with V:=λa=>F.V a/\a≠l,O:=λ_=>none} a:=λa h=>by
   cases a with
   |none=>exact h.1
   |some a=>exact⟨h.1.1,h.1.2,λz=>h.2 (by rw[z];exact hl)⟩
  rw[nr]at e;split at e
  ·rw[cz]at e;split at e<;>cases e
  ·rename_i hi;rw[df]at hi e;rw[br]at e;cases ej:js[i-nt]? with
   |none=>rw[ej]at e;cases e
   |some j=>
    rw[ej]at e;have e1:fO (Y.getD j none)=some (g,d):=v5 e;cases er:Y[j]? with
    |none=>rw[am,er]at e1;cases e1
    |some o=>
     rw[am,er]at e1;cases o with
     |none=>cases e1
     |some gd=>
      obtain⟨g0,d0⟩:=gd;obtain⟨v,h1,h2⟩:=so.sl j g0 d0 er;refine⟨v,?_,?_⟩
      ·unfold fU;rw[jf (by rw[df];omega),df,br,ej];show some (U.getD j none)=_;rw[am,h1];rfl
      ·cases g0 with
       |fr=>cases e1;exact Rep.same (Same.upd hl) hB (Rep.there _ (h2.rep so.jN))
       |od=>cases e1;exact Rep.same (Same.upd hl) S8 (Rep.there _ h2)
       |al=>cases e1;exact Rep.same (Same.upd hl) hB (Rep.there _ h2)
       |nu=>cases e1;exact Rep.same (Same.upd hl) hB (Rep.there _ (h2.rep so.jN))
theorem Fz:∀l m r,lJ f (l++m)=.ok r->∃r1 r2,lJ f l=.ok r1/\lJ f m=.ok r2/\r=r1++r2
 | [],m,r,h=>⟨[],r,rfl,h,rfl⟩
 |x::l,m,r,h=>by
  obtain⟨o,e1,h⟩:=Res.aA h;obtain⟨r',e2,h⟩:=Res.aA h;obtain⟨r1,r2,h1,h2,rfl⟩:=Fz l m r' e2;cases h;refine⟨oc o r1,r2,?_,h2,?_⟩
  ·show(f x>>=λo=>lJ f l>>=λr=>Res.ok (oc o r))=_;rw[e1,Res.aC,h1,Res.aC]
  ·cases o<;>rfl
theorem dW.snoc {K:W.Frag}:∀{vs:List V} {xs:List GD} {v:V} {x:GD},dW K F H H' vs xs->Rep K H' (BG F H x.1) v x.2->dW K F H H' (vs++[v]) (xs++[x])
 |vs,[],v,x,r,h=>by have e:vs=[]:=r;subst e;exact⟨v,[],rfl,h,rfl⟩
 |vs,y::ys,v,x,r,h=>by obtain⟨u,t,rfl,h1,q⟩:=r;exact⟨u,t++[v],rfl,h1,q.snoc h⟩
theorem dW.keep {K:W.Frag}(hk:∀a o g,H1 a=some o->(BG F H g (some a)\/Fix o)->H2 a=some o):∀{vs:List V} {xs:List GD},dW K F H H1 vs xs->dW K F H H2 vs xs
 |vs,[],r=>r
 |vs,y::ys,r=>by obtain⟨u,t,e,h1,q⟩:=r;exact⟨u,t,e,Rep.keep (λa o e b=>hk a o y.1 e b) (λ_ z=>z) _ h1,q.keep hk⟩
theorem dW.len {K:W.Frag}:∀{vs:List V} {xs:List GD},dW K F H H' vs xs->vs.length=xs.length
 |vs,[],r=>by have e:vs=[]:=r;subst e;rfl
 |vs,y::ys,r=>by obtain⟨u,t,rfl,h1,q⟩:=r;rw[ay,ay,q.len]
theorem Lh:∀l r,lJ f l=.ok r->r.length<=l.length
 | [],r,h=>by cases h;exact ag _
 |x::l,r,h=>by
  obtain⟨o,e1,h⟩:=Res.aA h;obtain⟨r',e2,h⟩:=Res.aA h;have:=Lh l r' e2;cases h;cases o with
  |none=>exact b8 this (by simp)
  |some y=>simp only[oc,ay];omega
def zfg (nt:Nat)(js:List Nat)(t:Tg)(fw:Rho->Res (G×List D))(fc:Rho->Res Bool)(fe:Rho->Res GD):Rho->Res GD:=λY=>fw Y>>=λw=>lJ (λx=>fE t (gJ x w.1,x) (bq nt none++js.map λj=>fO (Y.getD j none))>>=λρ1=>fc ρ1>>=λk=>if k then fe ρ1>>=λy=>.ok (some y)else .ok none) w.2>>=λys=>.ok (tL ys,.list (ys.map (·.2)))
def S9 (g:TG)(tc:TT)(te:TE)(em:L2.St->L2.St)(U:L2.St)(Q:VK):It->Hp->Prop:=λJ H1=>∀l,H1 l=none->∃P:Nat->Nat->List V->Hp->Prop,(∃m,P 0 m [] (upd H1 l (.lst [])))/\∀i m acc H2,P i m acc H2->(J.stop i H2/\Q (.ref l) H2)\/(J.go i H2/\acc.length<ba/\∃N:List V->Hp->Prop,(∀acc' H',N acc' H'->∃m',m'<m/\P (i+1) m' acc' H')/\∀x H3,J.kZ i H2 x H3->g x (em U) H3 λfN H4=>nW (em U) fN/\tc fN H4 λb H5=>if b=true then te fN H5 λy H6=>H6 l=some (.lst acc)/\N (acc++[y]) (upd H6 l (.lst (acc++[y])))else N acc H5)
abbrev CI (K:W.Frag)(F:Fm)(f:D->Res (Option GD))(ds:List D)(H1:Hp)(l:Nat)(i:Nat)(acc:List V)(H2:Hp):Prop:=H2 l=some (.lst acc)/\(∀a o,H1 a=some o->H2 a=some o)/\∃ys,lJ f (ds.take i)=.ok ys/\dW K F (upd H1 l (.lst [])) H2 acc ys
theorem za5 {fc:Rho->Res Bool}(ht0:∀i∈tgIx t,i<nt)(so:StOk X.K F H U Y)(e:zfg nt js t fw fc fe Y=.ok z)(q:∀v H',Same H H'->Rep X.K H' (BG F H z.1) v z.2->Q v H'):
  ∃w,fw Y=.ok w/\∀J B H',Same H H'->(∀a,B a->BG F H w.1 a/\¬nw H' a)->Walk X.K J B H' w.2->S9 (tDG X.K t) (dQ X.K fc) (tD X.K fe) (fU nt js) U Q J H':=by
 obtain⟨w,e1,e⟩:=Res.aA e;obtain⟨Li,e2,e⟩:=Res.aA e;cases e;refine⟨w,e1,λJ B H1 s1 hB wk l hl=>?_⟩;generalize hr:(bq nt none++js.map λj=>fO (Y.getD j none))=Lj at e2;generalize hf:(λx=>fE t (gJ x w.1,x) Lj>>=λρ1=>fc ρ1>>=λk=>if k then fe ρ1>>=λy=>Res.ok (some y)else .ok none)=f at e2;have lP:=so.same s1;have lC:∀i,∃ys,lJ f (w.2.take i)=.ok ys:=λi=>by rw[<-List.take_append_drop i w.2]at e2;obtain⟨r1,r2,h1,_,_⟩:=Fz _ _ _ e2;exact⟨r1,h1⟩
 let Fb:Fm:={F with V:=λa=>F.V a/\a≠l,O:=λ_=>none}
 refine zug (CI X.K Fb f w.2 H1 l) wk.len ?_ ?_ ?_ ?_ ?_
 ·exact⟨bC,λa o e=>by rw[aK (iU e hl)];exact e,[],rfl,rfl⟩
 ·rintro i acc H2 ⟨_,_,ys,hy,rs⟩
  rw[rs.len];have:=Lh _ _ hy;rw[fm]at this;omega
 ·rintro acc H2 ⟨h1,h2,ys,hy,rs⟩
  rw[List.take_length]at hy;rw[e2]at hy;cases hy;refine⟨wk.stop H2 (λa o e _=>h2 a o e),q _ _ (λa o e=>h2 a o (s1 a o e)) ?_⟩;have Lk:=s1.none hl;refine⟨l,acc,rfl,.inl ⟨h1,?_⟩,rs.oI λx hx a hb=>?_⟩
  ·show BG F H (tL Li) (some l);unfold tL;split
   ·exact Lk
   ·exact so.aN l Lk
  ·unfold tL;by_cases ea:(Li.all λx=>x.1==.fr)=true
   ·rw[vy ea];have S':x.1=.fr:=by simpa using bp.mp ea x hx
    rw[S']at hb;cases a with
    |none=>exact hb
    |some a=>
     have cT:upd H1 l (.lst []) a=none:=hb
     have:H1 a=none:=by
      by_cases iH:a=l
      ·subst iH;exact hl
      ·rw[aK iH]at cT;exact cT
     exact s1.none this
   ·rw[vz ea];have:bM Fb a:=BG.aN (λa e=>((lP.blk nt js l [] hl).aN a e)) hb;cases a with
    |none=>exact this
    |some a=>exact this.1
 ·rintro i acc H2 hi ⟨_,h2,_⟩
  exact wk.go H2 (λa o e _=>h2 a o e) i hi
 ·rintro i acc H2 x H3 hi ⟨h1,h2,ys,hy,rs⟩ y
  obtain⟨s3,d,hd,rx⟩:=wk.kZ H2 (λa o e _=>h2 a o e) i x H3 hi y;obtain⟨Ll,Cy⟩:=lC (i+1);have xN:w.2.take (i+1)=w.2.take i++[d]:=by rw[List.take_add_one,hd];rfl
  rw[xN]at Cy;obtain⟨r1,r2,g1,g2,g3⟩:=Fz _ _ _ Cy;rw[hy]at g1;cases g1;obtain⟨o,g4,g2⟩:=Res.aA g2;obtain⟨r3,g5,g2⟩:=Res.aA g2;cases g5;rw[<-hf]at g4;obtain⟨ρ1,k1,g4⟩:=Res.aA g4;obtain⟨k,k2,g4⟩:=Res.aA g4
  have sb:StOk X.K Fb H3 (fU nt js U) Lj:=by
   rw[<-hr];refine(lP.blk nt js l acc hl).same λa o e=>s3 a o ?_;by_cases iH:a=l
   ·subst iH;rw[bC]at e;rw[h1];exact e
   ·rw[aK iH]at e;exact h2 a o e
  have FA:Rep X.K H3 (BI Fb (gJ d w.1)) x d:=by
   unfold gJ;by_cases hi:imm d=true
   ·rw[vy hi];exact Rep.bL d hi rx
   ·rw[vz hi];refine rx.weak λa b=>?_;obtain⟨b1,b2⟩:=hB a b;have b3:=BI.of so.aN b1;cases a with
    |none=>cases hw:w.1<;>rw[hw]at b3<;>exact b3
    |some a=>
     have iH:a≠l:=λz=>b2 (by show H1 a=none;rw[z];exact hl);cases hw:w.1<;>rw[hw]at b3
     ·exact⟨b3,iH⟩
     ·exact⟨b3.1,b3.2,iH⟩
     ·exact⟨b3,iH⟩
     ·exact⟨b3,iH⟩
  refine⟨_,Fb,(gJ d w.1,d),ρ1,sb,FA,k1,λfN F4 Cz eD=>⟨⟨eD.len.symm,λj v hj=>?_⟩,ρ1,F4,k,Cz,k2,λH5 s5=>?_⟩⟩
  ·by_cases Lm:j∈tgIx t
   ·have :=ht0 j Lm;unfold fU at hj;rw[gw (by rw[df];exact this),cz,vy this]at hj;cases hj
   ·rw[eD.rest j Lm];exact hj
  ·have h5:∀a o,H1 a=some o->H5 a=some o:=λa o e=>s5 a o (s3 a o (h2 a o e));have zH:=s5 _ _ (s3 _ _ h1);have Ln:=rs.keep λa o g e _=>s5 a o (s3 a o e);cases k with
   |false=>cases g4;cases g2;refine aV ⟨zH,h5,ys,?_,Ln⟩;rw[xN,Cy,g3];simp[oc]
   |true=>
    obtain⟨yv,k3,g4⟩:=Res.aA g4;cases g4;cases g2;refine aX ⟨ρ1,F4,yv,Cz.same s5,k3,λv H6 s6 rv=>⟨s6 _ _ zH,bC,λa o e=>?_,ys++[yv],?_,?_⟩⟩
    ·rw[aK (iU e hl)];exact s6 a o (h5 a o e)
    ·rw[xN,Cy,g3];rfl
    ·have Ta:=s6 _ _ zH
     have hk:∀a o g,H6 a=some o->(BG Fb (upd H1 l (.lst [])) g (some a)\/Fix o)->upd H6 l (.lst (acc++[v])) a=some o:=λa o g e b=>by
      have iH:a≠l:=by
       intro z;subst z;rcases b with b|b
       ·cases g with
        |fr=>have b':upd H1 a (.lst []) a=none:=b;rw[bC]at b';cases b'
        |od=>exact b.2.2 rfl
        |al=>exact b.2 rfl
        |nu=>
         rcases b with b|b
         ·have b':upd H1 a (.lst []) a=none:=b;rw[bC]at b';cases b'
         ·exact b.2.2.2 rfl
       ·rw[Ta]at e;cases e;exact b
      rw[aK iH];exact e
     have oK:Rep X.K H6 (BG Fb (upd H1 l (.lst [])) yv.1) v yv.2:=by
      refine rv.weak λa b=>?_;cases hg:yv.1 with
      |fr=>
       rw[hg]at b;cases a with
       |none=>exact b
       |some a=>
        have b':H5 a=none:=b;show upd H1 l (.lst []) a=none;rw[aK (λz=>by rw[z,zH]at b';cases b')];cases e1:H1 a with
        |none=>rfl
        |some o=>rw[h5 a o e1]at b';cases b'
      |nu=>
       rw[hg]at b;cases a with
       |none=>exact b
       |some a=>
        rcases b with b|b
        ·have b':H5 a=none:=b;refine .inl ?_;show upd H1 l (.lst []) a=none;rw[aK (λz=>by rw[z,zH]at b';cases b')];cases e1:H1 a with
         |none=>rfl
         |some o=>rw[h5 a o e1]at b';cases b'
        ·refine .inr ⟨rfl,?_,?_⟩
         ·have:=b.2.1;rw[eD.h0]at this;exact this
         ·have:=b.2.2;rw[eD.v]at this;exact this
      |od=>
       rw[hg]at b;cases a with
       |none=>have b1:F4.z:=b;rw[eD.z]at b1;exact b1
       |some a=>have b1:F4.H0 a≠none/\F4.V a:=b;rw[eD.h0,eD.v]at b1;exact b1
      |al=>
       rw[hg]at b;cases a with
       |none=>have b1:F4.z:=b;rw[eD.z]at b1;exact b1
       |some a=>have b1:F4.V a:=b;rw[eD.v]at b1;exact b1
     exact((Ln.keep λa o g e _=>s6 a o e).snoc oK).keep hk
theorem Tb {fc:Rho->Res Bool}(ht0:∀i∈tgIx t,i<nt):∀U H Q,tD X.K (zfg nt js t fw fc fe) U H Q->Ce (tDW X.K fw) (tDG X.K t) (dQ X.K fc) (tD X.K fe) (fU nt js) U H Q:=by
 rintro U H Q ⟨Y,F,z,so,e,q⟩
 obtain⟨w,e1,h⟩:=za5 ht0 so e q;exact⟨Y,F,w,so,e1,h⟩
theorem zhk {fc:Rho->Res Bool}(hc:X.calm=true)(Bk:BlkScope X scope N' nt js)(ht0:∀i∈tgIx t,i<nt)(hi:PI X tg iter (tDW X.K fw))
  (hg:∀C fp s H,PG (blk X scope N' C fp s H) tg (tDG X.K t)) (ht:∀C fp s H,tI (blk X scope N' C fp s H) ifs (dQ X.K fc)) (he:∀C fp s H,PE (blk X scope N' C fp s H) elt (tD X.K fe)) (hs:∀x,iu iter X.env x=pure x):
  PE X (.ListComp elt [⟨tg,iter,ifs,0⟩] scope pos) (tD X.K (zfg nt js t fw fc fe))/\∀U H Q,tD X.K (zfg nt js t fw fc fe) U H Q->Ce (tDW X.K fw) (tDG X.K t) (dQ X.K fc) (tD X.K fe) (fU nt js) U H Q:=by
 have main:=Tb (X:=X) (js:=js) (fw:=fw) (fc:=fc) (fe:=fe) ht0;exact⟨PE.imp (zgn hc Bk hi hg ht he hs) main,main⟩
end
def BC (H:Hp)(A:Ad->Prop):G->Ad->Prop
 |.fr=>nw H
 |.od=>λa=>nw H a\/A a
 |.al=>λa=>nw H a\/A a
 |.nu=>nw H
def spD (K:W.Frag)(n:Nat)(m:Fn):Sp:=λvs H Q _=>∃A ds x,vs.length=n/\aD K H A vs ds/\m ds=.ok x/\∀v H',Same H H'->Rep K H' (BC H A x.1) v x.2->Q v H'
section
variable {X:Cx}{e:Expr}
theorem zmi (Cc:Cal X.prog X.w X.K X.mg X.base k x ps (spD X.K n m))(hr:Room k' X.A)(hk:k<=k')(ha:PA X (e::es) (tDA X.K fs))(hst:((e::es).all fun e=> !isStar e)=true)(hg:Gl X x)(hdb:Z9 x)
  (hl:∀Y ys,fs Y=.ok ys->ys.length=n):PE X (.Call (.Name x p) (e::es) [] pos) (tD X.K λY=>fs Y>>=λys=>m (ys.map (·.2))>>=λr=>.ok (gJ r.2 (iY r.1),r.2)):=
 PE.imp (zeo Cc hr ha hst hk hg hdb) λU H Q ⟨Y,F,z,so,e,q⟩=>by
  obtain⟨ys,e1,e⟩:=Res.aA e;obtain⟨r,e2,e⟩:=Res.aA e;cases e;refine⟨Y,F,ys,so,e1,λvs H1 s1 rs=>?_⟩;show spD X.K n m (vs++[]) H1 Q E0;rw[ci];refine⟨_,_,r,by rw[rs.len];exact hl Y ys e1,rs.kI so.aN,e2,λv H2 s2 rv=>q v H2 (s1.trans s2) (tP rv λa h=>?_)⟩;have al:(nw H1 a\/bM F a)->bM F a:=λh=>h.elim (λh=>(nw.back s1 h).aN so.aN) λh=>h;cases hg:r.1 with
  |fr=>rw[hg]at h;exact nw.back s1 h
  |od=>rw[hg]at h;exact al h
  |al=>rw[hg]at h;exact al h
  |nu=>rw[hg]at h;exact nw.back s1 h
def rMt (K:W.Frag)(m:String):V->List V->Hp->VK->Prop:=λx xs H Q=>∃B B' dx ds d,Rep K H B x dx/\aD K H B' xs ds/\mtD m dx ds=.ok d/\∀w H',Same H H'->Rep K H' (λa=>nw H a\/B a\/B' a) w d->Q w H'
theorem lD (h:z0f o=true):ko o n env w=w:=by
 unfold ko;split
 ·rename_i id p pos;cases h
 ·rfl
theorem Lo:∀{es:List Expr},(es.all λe=> !isStar e)=true->(ku pos (de es env)).all (λx=> !x.1)=true
 | [],_=>rfl
 |e::es,h=>by have h:=bg.mp (cx▸h);rw[dN (by simpa using h.1)];show(true&&(ku pos (de es env)).all (λx=>!x.1))=true;rw[Lo h.2];rfl
theorem z49 (h:(es.all fun e=> !isStar e)=true)(hl:es.length<20):((ku cpos (de es env)).all (fun x=> !x.1)&&(ui cpos (pb [] env)).all (fun x=>x.1.isSome)
  &&decide (es.length+([]:List qd).length+(if([]:List qd).isEmpty then 0 else 1)<30))=true:=by
 rw[Lo h];show(true&&true&&decide (es.length+0+0<30))=true;rw[we (by omega)];rfl
theorem d_mt {id:String}(pa:vm T)(slot:PySem.Slot T n id)(hty:vx (.builtin id)=pure (.type "method_descriptor"))(hm:MtR X id (rMt X.K m))(hT:∀H B x dx ds d,Rep X.K H B x dx->mtD m dx ds=.ok d->tyV X.K T x H)
  (ho:PE X o (tD X.K fa)) (ha:PA X (e::es) (tDA X.K fs)) (hns:z0f o=true) (hst:((e::es).all λe=>!isStar e)=true) (hl:(e::es).length<20) (hline:(apos.endLine==cpos.line)=true):
  PE X (.Call (.Attribute o n apos) (e::es) [] cpos) (tD X.K λY=>fa Y>>=λx=>fs Y>>=λys=>mtD m x.2 (ys.map (·.2))>>=λd=>.ok (gJ d .al,d)):=by
 have jR:=hst;rw[cx,bh]at jR;refine PE.imp (zdp pa slot hty hm ho ha (lD hns) (z49 hst hl) hline (dN (by simpa using jR.1)) (mM jR.2)) λU H Q zz=>?_;obtain⟨Y,F,z,so,e,q⟩:=zz;obtain⟨x,e1,e⟩:=Res.aA e;obtain⟨ys,e2,e⟩:=Res.aA e;obtain⟨d,e3,e⟩:=Res.aA e;cases e;refine⟨Y,F,x,so,e1,λv H1 s1 rv=>⟨hT H1 _ v x.2 _ d rv e3,Y,F,ys,so.same s1,e2,λvs H2 s2 rs=>?_⟩⟩;refine⟨_,_,x.2,_,d,rv.same s2 λ_ z=>z,rs.kI (so.same s1).aN,e3,λw H3 s3 dJ=>q w H3 ((s1.trans s2).trans s3) (tP dJ λa h=>?_)⟩;rcases h with h|h|h
 ·exact(nw.back (s1.trans s2) h).aN so.aN
 ·exact h.aN so.aN
 ·exact h
theorem Lp {K:W.Frag}:∀{ds:List D} {ss:List Str} {vs:List V} {us:List Value},cN ds=some ss->aD K H B vs ds->Vals vs us->StrsAre us ss/\∀s∈ss,PyData.strOk s=true
 | [],ss,vs,us,e,r,q=>by cases e;have e1:=r;subst e1;cases q;exact⟨.nil,λ_ h=>nomatch h⟩
 |d::ds,ss,vs,us,e,r,q=>by
  cases d<;>try (cases e;done)
  rename_i z;change(cN ds).map (z:: ·)=_ at e;cases e1:cN ds with
  |none=>rw[e1]at e;cases e
  |some ZS=>
   rw[e1]at e;cases e;obtain⟨v,t,rfl,h1,h2⟩:=r;have ev:=h1.1;subst ev;cases q with
   |cons q1 q2=>
    obtain⟨tk,rfl⟩:=q1;obtain⟨i1,i2⟩:=Lp e1 h2 q2;refine⟨.cons z tk i1,λs hs=>?_⟩;rcases(ao.mp hs)with rfl|hs
    ·exact h1.2
    ·exact i2 s hs
theorem Tc (z:Str)(ss:List Str):Txt.join z ss=z0e z ss:=by
 have go:∀(r:List Str) acc,(r.foldl (λacc p=>acc++z.cps++p.cps) acc).toList=acc.toList++(r.map λp=>z.cps.toList++p.cps.toList).flatten:=by
  intro r
  induction r with
  |nil=>intro acc;simp
  |cons p r ih=>intro acc;rw[List.foldl_cons,ih];simp
 cases ss with
 |nil=>rfl
 |cons x r=>
  have:=go r x.cps;show(⟨r.foldl (λacc p=>acc++z.cps++p.cps) x.cps⟩:Str)=⟨(x.cps.toList++(r.map λp=>z.cps.toList++p.cps.toList).flatten).toArray⟩
  congr 1
  rw[<-this]
theorem Td (hz:PyData.strOk z=true)(h:∀s∈ss,PyData.strOk s=true):PyData.strOk (z0e z ss)=true:=
 strOk_iff.mpr λc hc=>by
  have hc':c∈lI z.cps.toList ss:=by simpa[z0e]using hc
  cases ss with
  |nil=>simp[lI]at hc'
  |cons x r=>
   simp only[lI,bo,p7,dh]at hc';rcases hc' with hc'|⟨l,⟨p,hp,rfl⟩,hc'⟩
   ·exact strOk_iff.mp (h x ak) c hc'
   ·rcases bo.mp hc' with hc'|hc'
    ·exact strOk_iff.mp hz c hc'
    ·exact strOk_iff.mp (h p (ah _ hp)) c hc'
theorem Tf:MtR X "str.join" (rMt X.K "join"):=by
 rintro pins s U H x xs v us Q I rx rs ⟨B,B',dx,ds,d,r1,r2,e,q⟩
 simp only[mtD,show("join":String)≠"get" by decide,if_true,if_false]at e;split at e
 ·rename_i z ys;split at e
  case h_2=>cases e
  rename_i ss Th;split at e
  case isFalse=>cases e
  rename_i hw;cases e;obtain⟨vl,rfl,h1⟩:=wo r2;obtain⟨a,vs,rfl,hq,rl⟩:=pU h1;obtain⟨u,rfl,rfl⟩:=vals1 rs;have ex:=r1.1;subst ex;obtain⟨t,rfl⟩:=rx;obtain⟨its,rv,pl,_⟩:=I.list hq;obtain⟨sa,ok⟩:=Lp Th rl rv;refine join_list pl.isList (by simpa using sa) (b8 hw (by unfold LIM;decide)) λt' k=>?_;rw[Tc];exact⟨.str _,H,I.tok _,⟨_,rfl⟩,q _ H (Same.refl H) ⟨rfl,Td r1.2 ok⟩⟩
 ·cases e
theorem Ti (r:Rep X.K H B x dx)(e:mtD "join" dx ds=.ok d):tyV X.K "str" x H:=by
 simp only[mtD,show("join":String)≠"get" by decide,if_true,if_false]at e;split at e
 ·have ex:x=.str _:=r.1;subst ex;exact rfl
 ·cases e
end
def Tj:V->List V->Hp->VK->Prop:=λx xs H Q=>∃z,x=.str z/\xs=[]/\(z.cps.toList.all λc=>decide (97<=c)&&decide (c<=122))=true/\z.length<=LIM/\Q (.str ⟨(z.cps.toList.map (· -32)).toArray⟩) H
theorem Tn:∀c:Fin 26,Unicode.upperOf (97+c.val)=[97+c.val-32]:=by decide+kernel
theorem To (h0:97<=c)(h1:c<=122):Unicode.upperOf c=[c-32]:=by
 have h:=Tn ⟨c-97,by omega⟩;have e:97+(c-97)=c:=by omega
 rw[e]at h;exact h
theorem Lq:∀{l:List Nat},(l.all λc=>decide (97<=c)&&decide (c<=122))=true->(l.map λc=>Unicode.upperOf c).flatten=l.map (· -32)
 | [],_=>rfl
 |c::l,h=>by rw[cx,bg,bg,decide_eq_true_iff,decide_eq_true_iff]at h;rw[bx,pc,Lq h.2,To h.1.1 h.1.2];rfl
theorem Ls {α β:Type}(g:α->β):∀l:List α,l.mapIdx (λ_ c=>g c)=l.map g
 | []=>rfl
 |a::l=>by rw[List.mapIdx_cons,Ls g l,bx]
theorem Lu (h:(z.cps.toList.all λc=>decide (97<=c)&&decide (c<=122))=true):placed z (λ_ c=>Unicode.upperOf c)=(z.cps.toList.map (· -32)).toArray:=by apply Array.ext';rw[<-Lq h];unfold placed;rw[Array.toList_flatten,Array.toList_mapIdx,Ls];simp[Function.comp_def]
theorem FC:MtR X "str.upper" Tj:=by
 rintro pins s U H x xs v us Q I rx rs ⟨z,rfl,rfl,hz,hl,q⟩
 obtain⟨t,rfl⟩:=rx;cases rs;have hlen:(z.cps.toList.map (· -32)).toArray.size=z.length:=by rw[az,aq];rfl
 have hL:LIM=1000000:=rfl;have hs:=cg;have g:=gives_str_upper z t (by rw[Lu hz,hlen];exact wg (show ¬z.length>ba by omega));rw[Lu hz]at g;refine call_gives F.slot_str_upper (qg _ _ _) F.entry_str_upper (F.args_str_upper_1 _) g ⟨?_,?_⟩
 ·show(z.cps.toList.map (· -32)).toArray.size<=ba;rw[hlen];omega
 ·exact⟨.str _,H,I.tok _,⟨_,rfl⟩,q⟩
theorem zrm (ho:PE X o (tD X.K fa))(hns:z0f o=true)(hline:(apos.endLine==cpos.line)=true):
  PE X (.Call (.Attribute o "upper" apos) [] [] cpos) (tD X.K λY=>fa Y>>=λx=>Cj x.2>>=λd=>.ok (.fr,d)):=by
 refine PE.imp (zhl PySem.F.plainAttrs_str PySem.F.slot_str_upper PySem.F.type_str_upper FC ho (lD hns) hline) λU H Q zz=>?_;obtain⟨Y,F,z,so,e,q⟩:=zz;obtain⟨x,e1,e⟩:=Res.aA e;obtain⟨d,e3,e⟩:=Res.aA e;cases e;refine⟨Y,F,x,so,e1,λv H1 s1 rv=>?_⟩;obtain⟨g,dx⟩:=x;cases dx with
 |str w=>
  have e3:(if _ then _ else _)=_:=e3;split at e3
  ·rename_i hc;cases e3;rw[bg,decide_eq_true_iff]at hc;have ev:=rv.1;subst ev;refine⟨rfl,w,rfl,rfl,hc.1,hc.2,q _ H1 s1 ⟨rfl,strOk_iff.mpr λc cQ=>?_⟩⟩;obtain⟨b,hb,rfl⟩:=dh.mp cQ;have cT:=bp.mp hc.1 b hb;rw[bg,decide_eq_true_iff,decide_eq_true_iff]at cT;omega
  ·cases e3
 |_=>cases e3
theorem Tq (h:lH y=some c):y=⟨#[c]⟩:=by
 obtain⟨⟨l⟩⟩:=y
 match l,h with
 | [d],h=>cases h;rfl
theorem Lv (c:Nat):∀p r,c∉p->aT c (p++c::r)=p::aT c r
 | [],r,_=>by show aT c (c::r)=_;rw[aT,vy rfl]
 |a::p,r,h=>by rw[ao,not_or]at h;show aT c (a::(p++c::r))=_;rw[aT,vz (λe=>h.1 e.symm),Lv c p r h.2]
theorem Lw (c:Nat):∀p,c∉p->aT c p=[p]
 | [],_=>rfl
 |a::p,h=>by rw[ao,not_or]at h;rw[aT,vz (λe=>h.1 e.symm),Lw c p h.2]
theorem Lx (c:Nat):∀ps,ps≠ []->(∀p∈ps,c∉p.cps.toList)->aT c (Str.join ⟨#[c]⟩ ps).cps.toList=ps.map λp=>p.cps.toList
 | [],h,_=>absurd rfl h
 | [p],_,h=>Lw c _ (h p (.head _))
 |p::q::r,_,h=>by
  have e:(Str.join ⟨#[c]⟩ (p::q::r)).cps.toList=p.cps.toList++c::(Str.join ⟨#[c]⟩ (q::r)).cps.toList:=by show((p.cps++#[c])++(Str.join ⟨#[c]⟩ (q::r)).cps).toList=_;simp
  rw[e,Lv c _ _ (h p (.head _)),Lx c (q::r) (λz=>nomatch z) λz hz=>h z (.tail _ hz)];rfl
theorem Ly (x:Str)(c:Nat):(Txt.split x ⟨#[c]⟩).map (λp=>p.cps.toList)=aT c x.cps.toList:=by have h:=Lx c (Txt.split x ⟨#[c]⟩) (λz=>by have:=split_pos x ⟨#[c]⟩;rw[z]at this;exact absurd this (by decide)) (StrLaws.split_free x c);rw[StrLaws.join_split]at h;exact h.symm
theorem Tr (x:Str):toS x.cps.toList=x:=by obtain⟨a⟩:=x;show(⟨a.toList.toArray⟩:Str)=_;rw[kz]
theorem Ts (x:Str)(c:Nat):(aT c x.cps.toList).map (λl=>PyData.str (toS l))=(Txt.split x ⟨#[c]⟩).map .str:=by rw[<-Ly,gq];exact rq λp _=>by show PyData.str (toS p.cps.toList)=_;rw[Tr]
theorem Tu {l:List Nat}(h:∀c∈m,c∈l)(ok:PyData.strOk ⟨l.toArray⟩=true):PyData.strOk (toS m)=true:=
 strOk_iff.mpr fun c hc=>strOk_iff.mp ok c (by have hc':c∈m:=by simpa[toS]using hc
                                               simpa using h c hc')
theorem Tv (ok:PyData.strOk x=true):PyData.strOk ⟨x.cps.toList.toArray⟩=true:=by rw[kz];exact ok
theorem CB (c:Nat):∀l p,p∈aT c l->∀d∈p,d∈l
 | [],p,h,d,hd=>by rw[av.mp h]at hd;exact hd
 |a::l,p,h,d,hd=>by
  rw[aT]at h;split at h
  ·rcases ao.mp h with rfl|h
   ·cases hd
   ·exact .tail _ (CB c l p h d hd)
  ·cases e:aT c l with
   |nil=>rw[e]at h;rw[av.mp h]at hd;rw[av.mp hd];exact .head _
   |cons q t=>
    rw[e]at h;rcases ao.mp h with rfl|h
    ·rcases ao.mp hd with rfl|hd
     ·exact .head _
     ·exact .tail _ (CB c l q (by rw[e];exact .head _) d hd)
    ·exact .tail _ (CB c l p (by rw[e];exact .tail _ h) d hd)
def Tw (K:W.Frag):V->List V->Hp->VK->Prop:=λx xs H Q=>∃z c,x=.str z/\xs=[.str ⟨#[c]⟩]/\PyData.strOk z=true/\z.length<=LIM/\∀w H',Same H H'->Rep K H' (nw H) w (.list ((aT c z.cps.toList).map λl=>.str (toS l)))->Q w H'
theorem LA:∀l,Vals ((l.map (·.1)).map V.str) (strValues l)
 | []=>.nil
 |p::l=>.cons ⟨_,rfl⟩ (LA l)
theorem LB {K:W.Frag}:∀(l:List Str),(∀p∈l,PyData.strOk p=true)->aD K H B (l.map V.str) (l.map PyData.str)
 | [],_=>rfl
 |p::l,h=>⟨_,_,rfl,⟨rfl,h p (.head _)⟩,LB l λq hq=>h q (.tail _ hq)⟩
theorem Tx:MtR X "str.split" (Tw X.K):=by
 rintro pins s U H x xs v us Q I rx rs ⟨z,c,rfl,rfl,ok,hl,q⟩
 obtain⟨t,rfl⟩:=rx;obtain⟨u,rfl,t2,rfl⟩:=vals1 rs;have hL:LIM=1000000:=rfl;have hs:=cg;have hok:∀p∈Txt.split z ⟨#[c]⟩,PyData.strOk p=true:=λp hp=>by have:=Tu (CB c _ _ (by rw[<-Ly];exact dh.mpr ⟨p,hp,rfl⟩)) (Tv ok);exact this
 have hN:=split_le z ⟨#[c]⟩;have hp:=I.hok.fresh (ag _)
 have fin:∀l tk,l.map (·.1)=Txt.split z ⟨#[c]⟩->EP X pins U Q (.ref s.heap.objs.size) {s with toks:=tk,heap:=s.heap.push {cls:=.type "list",data:=.seq (strValues l).toArray}}:=λl tk el=>by
  have r1:=LA l;rw[el]at r1;refine⟨.ref _,_,I.laid (o:=.lst ((Txt.split z ⟨#[c]⟩).map V.str)) (λb ob q=>af _ q) (ag _) ⟨?_,_,0,r1,au _ rfl⟩,rfl,q _ _ (Same.upd hp) ?_⟩
  ·rw[aq];omega
  ·rw[Ts];exact vX hp (LB _ hok) (λ_ z=>z) hp
 have hy:((⟨#[c]⟩:Str).length==0)=false:=rfl;have hT:=qg s z t;by_cases h1:(decide (z.length<(⟨#[c]⟩:Str).length)||decide (r0 z<r0 ⟨#[c]⟩))=true
 ·exact m7 F.slot_str_split hT F.entry_str_split (F.args_str_split_2 _ _) (meets_str_split_cannot_occur z _ t t2 h1) (fin [(z,t)] s.toks (by show[z]=_;unfold Txt.split;rw[vy h1]))
 have zi:=eq_false_of_ne_true h1;by_cases hf:(gc z ⟨#[c]⟩ 0 z.length (z.length+1)).isEmpty=true
 ·exact m7 F.slot_str_split hT F.entry_str_split (F.args_str_split_2 _ _) (meets_str_split_not_found z _ t t2 zi hy hf) (fin [(z,t)] s.toks (by show[z]=_;unfold Txt.split;rw[vz h1,vy hf]))
 have es:Txt.split z ⟨#[c]⟩=Builtin.Str.partsBetween z (gc z ⟨#[c]⟩ 0 z.length (z.length+1)) (⟨#[c]⟩:Str).length:=by unfold Txt.split;rw[vz h1,vz hf]
 refine m7 F.slot_str_split hT F.entry_str_split (F.args_str_split_2 _ _) (meets_str_split_sep z _ t t2 zi hy (eq_false_of_ne_true hf) (by omega) (by rw[<-es];omega)) ?_;have:=fin (numbered s.toks (Txt.split z ⟨#[c]⟩)) (s.toks+(Txt.split z ⟨#[c]⟩).length) (numbered_texts _ _);rw[<-strsFrom_eq,es]at this;exact this
theorem Tz (h:gR a b=.ok d):∃x c,a=.str x/\b=.str ⟨#[c]⟩/\x.length<=LIM/\d=.list ((aT c x.cps.toList).map λl=>.str (toS l)):=by
 cases a<;>cases b<;>try (cases h;done)
 rename_i x y;change(match lH y with|some c=>if decide (x.length<=LIM)=true then Res.ok (PyData.list ((aT c x.cps.toList).map λl=>.str (toS l)))else .no|none=>.no)=_ at h;cases hc:lH y with
 |none=>rw[hc]at h;cases h
 |some c=>
  rw[hc]at h
  dsimp only at h
  split at h
  ·rename_i hl;cases h;exact⟨x,c,rfl,by rw[Tq hc],wc hl,rfl⟩
  ·cases h
theorem zub (ho:PE X o (tD X.K fa))(he:PE X e (tD X.K fb))(hns:z0f o=true)(hst:isStar e=false)(hline:(apos.endLine==cpos.line)=true):
  PE X (.Call (.Attribute o "split" apos) [e] [] cpos) (tD X.K λY=>fa Y>>=λx=>fb Y>>=λy=>gR x.2 y.2>>=λd=>.ok (.fr,d)):=by
 refine PE.imp (zdp PySem.F.plainAttrs_str PySem.F.slot_str_split PySem.F.type_str_split Tx ho (B3 he kF (dN hst)) (lD hns) (z49 (by simp[hst]) (by show 1<20;omega)) hline (dN hst) rfl) λU H Q zz=>?_;obtain⟨Y,F,z,so,e,q⟩:=zz;obtain⟨x,e1,e⟩:=Res.aA e;obtain⟨y,e2,e⟩:=Res.aA e;obtain⟨d,e3,e⟩:=Res.aA e;cases e;obtain⟨gx,dx⟩:=x;obtain⟨gy,dy⟩:=y;obtain⟨zx,c,rfl,rfl,hl,rfl⟩:=Tz e3;refine⟨Y,F,(gx,.str zx),so,e1,λv H1 s1 rv=>?_⟩;have ev:=rv.1;subst ev;refine⟨rfl,Y,F,(gy,.str ⟨#[c]⟩),so.same s1,e2,λw H2 s2 dJ=>?_⟩;have ew:=dJ.1;subst ew;exact⟨zx,c,rfl,rfl,rv.2,hl,λw H3 s3 r3=>q w H3 ((s1.trans s2).trans s3) (r3.weak λa ha=>nw.back (s1.trans s2) ha)⟩
theorem TB:CallR X (.type "int") (λxs H Q=>∃x,xs=[.str x]/\nZ x.cps.toList=true/\x.length<=600/\Q (.int (qS x.cps.toList:Int)) H):=by
 rintro pins s U H xs us Q I r ⟨x,rfl,hf,hl,q⟩
 obtain⟨u,rfl,t,rfl⟩:=vals1 r;unfold nZ at hf;rw[bg]at hf;have hd:=λc hc=>by have:=bp.mp hf.2 c hc;rw[bg,decide_eq_true_iff,decide_eq_true_iff]at this;exact this
 exact W.KIN.call_text (intText_digits hd (λz=>by rw[z]at hf;cases hf.1) (by omega)) (by omega) ⟨.int _,H,I.tok _,⟨_,rfl⟩,q⟩
def dD (F:Fm)(H:Hp)(F':Fm)(H':Hp):Prop:=∀a o,H a=some o->F.O a=none->H' a=some o/\F'.O a=none
theorem dD.refl:dD F H F H:=λ_ _ e o=>⟨e,o⟩
theorem dD.trans (a:dD F H F' H')(b:dD F' H' oN eY):dD F H oN eY:=λx o e n=>by obtain⟨e1,n1⟩:=a x o e n;exact b x o e1 n1
theorem dD.same (s:Same H H'):dD F H F H':=λa o e n=>⟨s a o e,n⟩
def Run (F F':Fm):Prop:=Same F.H0 F'.H0/\F'.V=F.V/\F'.z=F.z
theorem Run.refl:Run F F:=⟨λ_ _ e=>e,rfl,rfl⟩
theorem Run.trans (a:Run F F')(b:Run F' oN):Run F oN:=⟨λx o e=>b.1 x o (a.1 x o e),b.2.1.trans a.2.1,b.2.2.trans a.2.2⟩
theorem Run.of (h:F'.H0=F.H0)(v:F'.V=F.V)(z:F'.z=F.z):Run F F':=⟨λ_ _ e=>by rw[h];exact e,v,z⟩
def BR (F:Fm):G->Ad->Prop
 |.fr=>λa=>match a with|some a=>F.H0 a=none|none=>False
 |.od=>bM F
 |.al=>bM F
 |.nu=>λa=>match a with|some a=>F.H0 a=none|none=>False
def zI (K:W.Frag)(F:Fm)(H:Hp)(D:Ends):Out->Prop
 |.nx aH=>∀σ' H' F',StOk K F' H' σ' aH->Run F F'->dD F H F' H'->D.nx σ' H'
 |.bk aH=>∀σ' H' F',StOk K F' H' σ' aH->Run F F'->dD F H F' H'->D.bk σ' H'
 |.ct aH=>∀σ' H' F',StOk K F' H' σ' aH->Run F F'->dD F H F' H'->D.ct σ' H'
 |.rt g d=>∀v H',(∀a o,F.H0 a=some o->H' a=some o)->Rep K H' (BR F g) v d->D.rt v H'
def tDS (K:W.Frag)(f:Rho->Res Out):TS:=λD U H=>∃Y F out,StOk K F H U Y/\f Y=.ok out/\zI K F H D out
theorem none_of (s:Same H H')(h:H' a=none):H a=none:=by
 cases e:H a with
 |none=>rfl
 |some o=>rw[s a o e]at h;cases h
theorem BR.run (r:Run F F')(h:BR F' g a):BR F g a:=by obtain⟨r1,r2,r3⟩:=r;cases g<;>cases a<;>first|exact h|(exact none_of r1 h)|(have h':F'.V _:=h;rw[r2]at h';exact h')|(have h':F'.z:=h;rw[r3]at h';exact h')
theorem zI.back {K:W.Frag}{D:Ends}(r:Run F F')(f:dD F H F' H')(h:zI K F H D out):zI K F' H' D out:=by
 cases out with
 |nx aH=>exact λjQ eY oN so r2 f2=>h jQ eY oN so (r.trans r2) (f.trans f2)
 |bk aH=>exact λjQ eY oN so r2 f2=>h jQ eY oN so (r.trans r2) (f.trans f2)
 |ct aH=>exact λjQ eY oN so r2 f2=>h jQ eY oN so (r.trans r2) (f.trans f2)
 |rt g d=>exact λv eY k rv=>h v eY (λa o e=>k a o (r.1 a o e)) (rv.weak λ_ b=>b.run r)
section
variable {X:Cx}{e:Expr}{st:Stmt}{rest:List Stmt}{fs gs:Rho->Res Out}
theorem TC:PSs X [] (tDS X.K λY=>.ok (.nx Y)):=PSs.imp JP λD U H ⟨Y,F,out,so,e,q⟩=>by cases e;exact q U H F so Run.refl dD.refl
theorem TF (h1:PS X st (tDS X.K fs))(h2:PSs X rest (tDS X.K gs)):PSs X (st::rest) (tDS X.K λY=>qV (fs Y) gs):=
 PSs.imp (JQ h1 h2) λD U H ⟨Y,F,out,so,e,q⟩=>by
  have e:qV (fs Y) gs=.ok out:=e;cases e1:fs Y with
  |no=>rw[e1]at e;cases e
  |exc x=>rw[e1]at e;cases e
  |ok o1=>
   rw[e1]at e;cases o1 with
   |nx ρ1=>exact⟨Y,F,.nx ρ1,so,e1,λσ' H' F' kJ r f=>⟨ρ1,F',out,kJ,e,q.back r f⟩⟩
   |bk ρ1=>cases e;exact⟨Y,F,.bk ρ1,so,e1,q⟩
   |ct ρ1=>cases e;exact⟨Y,F,.ct ρ1,so,e1,q⟩
   |rt g d=>cases e;exact⟨Y,F,.rt g d,so,e1,q⟩
theorem TH:PS X (.Continue pos) (tDS X.K λY=>.ok (.ct Y)):=PS.imp PQ λD U H ⟨Y,F,out,so,e,q⟩=>by cases e;exact q U H F so Run.refl dD.refl
theorem FD (hc:PT X c (dQ X.K ft))(ha:PSs X A (tDS X.K fs))(hb:PSs X Bs (tDS X.K gs)):PS X (.If c A Bs pos) (tDS X.K λY=>ft Y>>=λk=>if k then fs Y else gs Y):=
 PS.imp (JR hc ha hb) λD U H ⟨Y,F,out,so,e,q⟩=>by
  obtain⟨k,e1,e⟩:=Res.aA e;refine⟨Y,F,k,so,e1,λH1 s1=>?_⟩;cases k with
  |true=>exact aX ⟨Y,F,out,so.same s1,e,q.back Run.refl (dD.same s1)⟩
  |false=>exact aV ⟨Y,F,out,so.same s1,e,q.back Run.refl (dD.same s1)⟩
theorem TJ {K:W.Frag}(so:∀a o,F.H0 a=some o->H a=some o)(hv:∀a,H a=none->F.V a)(r:Rep K H' (BG F H g) v d):Rep K H' (BR F (iY g)) v d:=by
 refine r.weak λa b=>?_;cases g with
 |fr=>
  cases a with
  |none=>exact b
  |some a=>exact Same.none so b
 |od=>exact fP.aN b
 |al=>exact b
 |nu=>
  cases a with
  |none=>exact b.elim id id
  |some a=>exact b.elim (λb=>Same.none so b) λb=>b.2.1
theorem TL (ha:PE X e (tD X.K fa)):PS X (.Return (some e) pos) (tDS X.K λY=>fa Y>>=λx=>.ok (.rt (iY x.1) x.2)):=PS.imp (Ea ha) λD U H ⟨Y,F,out,so,e,q⟩=>by obtain⟨x,e1,e⟩:=Res.aA e;cases e;exact⟨Y,F,x,so,e1,λv H1 s1 rv=>q v H1 (λa o e=>s1 a o (so.ext a o e)) (TJ so.ext so.aN rv)⟩
theorem Slot.ret {K:W.Frag}(so:∀a i,F.O a=some i->F.H0 a=none/\F.V a)(h:Slot K F H i g v d):Rep K H (BR F (if imm d then .fr else iY g)) v d:=by
 by_cases hi:imm d=true
 ·rw[vy hi];exact Rep.bL d hi (h.rep λa i e=>(so a i e).2)
 ·rw[vz hi];cases g with
  |fr=>
   obtain⟨p,e,o,h⟩:=h
   have hb:∀a,Bin F a->BR F .fr a:=λa b=>by
    cases a with
    |none=>exact b
    |some a=>exact b.2.1
   rcases h with⟨vs,ds,rfl,e2,r⟩|⟨vs,ds,rfl,e2,r⟩
   ·exact⟨p,vs,e,.inl ⟨e2,(so _ _ o).1⟩,r.weak hb⟩
   ·exact⟨p,vs,e,e2,(so _ _ o).1,cO.same (λ_ _ e=>e) hb r⟩
  |od=>exact Rep.weak (λ_ b=>b.aN) h
  |al=>exact h
  |nu=>
   refine Rep.weak (λa b=>?_) h;cases a with
   |none=>exact b
   |some a=>exact b.2.1
theorem z85 {i:Nat}(hN:X.N[i]?=some x)(hv:Vis X.env.scope x)(hd:Z9 x)(hcd:(x==("__classdict__":Str))=false):
  PS X (.Return (some (.Name x p)) pos) (tDS X.K λY=>match Y[i]? with|some (some (g,d))=>.ok (.rt (if imm d then .fr else iY g) d)|_=>.no):=
 PS.imp (Ea (xI hN hv hd hcd)) λD U H ⟨Y,F,out,so,e,q⟩=>by
  have e:(match Y[i]? with|some (some (g,d))=>Res.ok (Out.rt (if imm d then .fr else iY g) d)|_=>.no)=.ok out:=e;cases e1:Y[i]? with
  |none=>rw[e1]at e;cases e
  |some o=>
   rw[e1]at e;cases o with
   |none=>cases e
   |some gd=>obtain⟨g,d⟩:=gd;cases e;obtain⟨v,h1,h2⟩:=so.sl i g d e1;exact⟨v,h1,q v H so.ext (h2.ret λa i e=>⟨(so.own a i e).1,(so.own a i e).2.1⟩)⟩
theorem cO.bL {K:W.Frag}:∀{kvs:List (Key×V)} es,qQ es=true->cO K H B kvs es->cO K H B' kvs es
 |kvs,[],_,r=>r
 |kvs,(kd,d)::es,i,r=>by unfold qQ at i;rw[cx,bh]at i;obtain⟨k,v,t,e,e2,ok,h,q⟩:=r;exact⟨k,v,t,e,e2,ok,Rep.bL d i.1 h,cO.bL es i.2 q⟩
theorem StOk.fZ {K:W.Frag}(so:StOk K F H U Y){a:Ad}(h:nw H a):Bin F a:=by
 cases a with
 |none=>exact h
 |some a=>
  refine⟨?_,Same.none so.ext h,so.aN a h⟩;cases e1:F.O a with
  |none=>rfl
  |some j=>obtain⟨_,_,z⟩:=so.own a j e1;rcases z with⟨xs,z⟩|⟨xs,z⟩<;>rw[h]at z<;>cases z
theorem StOk.FE {K:W.Frag}(so:StOk K F H U Y)(r:Rep K H (Bin F) v d):StOk K (F.drop i) H (U.set i (some v)) (Y.set i (some (.nu,d))):=by
 have z:=so.oM (i:=i) (x:=(.al,d)) (Rep.weak (λ_ b=>Bin.aN b) r);refine⟨z.ext,z.aN,z.own,by rw[dw,dw];exact so.len,λj g d' e=>?_⟩;by_cases hj:i=j
 ·subst hj;rw[et]at e;simp only[if_true]at e;split at e
  ·rename_i hl;cases e;exact⟨v,by rw[et];simp[so.len,hl],Rep.weak (λ_ b=>b.drop) r⟩
  ·cases e
 ·refine z.sl j g d' ?_;rw[cr hj]at e ⊢;exact e
def Fm.take (F:Fm)(i:Nat)(p:Addr):Fm:={F with O:=λa=>if a=p then some i else if F.O a=some i then none else F.O a}
theorem dD.drop (s:Same H H'):dD F H (F.drop i) H':=λa o e n=>⟨s a o e,Fm.bK n⟩
theorem StOk.setA {K:W.Frag}(so:StOk K F H U Y)(s1:Same H H1)(r:Rep K H1 (BG F H x.1) v x.2):
  ∃F',StOk K F' H1 (U.set i (some v)) (Y.set i (some (z10 x)))/\Run F F'/\dD F H F' H1:=by
 have lP:=so.same s1;obtain⟨g,d⟩:=x
 have plain:z10 (g,d)=jL (if imm d then .al else KP g,d)->∃F',StOk K F' H1 (U.set i (some v)) (Y.set i (some (z10 (g,d))))/\Run F F'/\dD F H F' H1:=λe=>by
  rw[e];refine⟨F.drop i,lP.oM ?_,Run.of rfl rfl rfl,dD.drop s1⟩;by_cases hi:imm d=true
  ·rw[vy hi];exact Rep.bL d hi r
  ·rw[vz hi];cases g with
   |fr=>exact r.weak λ_ b=>nw.aN so.aN b
   |od=>exact r
   |al=>exact r
   |nu=>exact r.weak λ_ b=>b.elim (nw.aN so.aN) Bin.aN
 have CC:z10 (g,d)=(.nu,d)->(∀a,BG F H g a->Bin F a)->∃F',StOk K F' H1 (U.set i (some v)) (Y.set i (some (z10 (g,d))))/\Run F F'/\dD F H F' H1:=λe hb=>by rw[e];exact⟨F.drop i,lP.FE (Rep.weak hb r),Run.of rfl rfl rfl,dD.drop s1⟩
 have own:∀p,F.O p=none->H p=none->F.H0 p=none->F.V p->v=.ref p->z10 (g,d)=(.fr,d)->(∀F',(∀a,Bin F a\/nw H a->a≠some p->Bin F' a)->F'.O p=some i->Slot K F' H1 i .fr v d)->(((∃xs,H1 p=some (.lst xs))\/∃kvs,H1 p=some (.dK kvs)))->
   ∃F',StOk K F' H1 (U.set i (some v)) (Y.set i (some (z10 (g,d))))/\Run F F'/\dD F H F' H1:=λp TM jS TQ TR ev es lQ jJ=>by
  have rF:∀a,a≠p->(F.take i p).O a=(F.drop i).O a:=λa ha=>by show(if a=p then some i else _)=_;rw[vz ha];rfl
  have TU:∀a,H a=none->F.O a=none:=λa e=>by
   cases e1:F.O a with
   |none=>rfl
   |some j=>obtain⟨_,_,h⟩:=so.own a j e1;rcases h with⟨xs,h⟩|⟨xs,h⟩<;>rw[e]at h<;>cases h
  have wt:∀a,Bin F a\/nw H a->a≠some p->Bin (F.take i p) a:=λa b fG=>by
   cases a with
   |none=>exact b.elim id id
   |some a=>have gX:a≠p:=λz=>fG (by rw[z]);have hb:=b.elim id λb=>⟨TU a b,(λa e=>Same.none so.ext e) a b,so.aN a b⟩;exact⟨by rw[rF a gX];exact Fm.bK hb.1,hb.2⟩
  have FF:(F.take i p).O p=some i:=by show(if p=p then some i else _)=_;rw[vy rfl]
  refine⟨F.take i p,⟨lP.ext,lP.aN,λa j e=>?_,by rw[dw,dw];exact so.len,λj g' d' e=>?_⟩,Run.of rfl rfl rfl,λa o e n=>⟨s1 a o e,?_⟩⟩
  ·by_cases gX:a=p
   ·subst gX;exact⟨TQ,TR,jJ⟩
   ·rw[rF a gX]at e
    have e':F.O a=some j:=by
     have:(if F.O a=some i then none else F.O a)=some j:=e;split at this
     ·cases this
     ·exact this
    exact lP.own a j e'
  ·by_cases hj:i=j
   ·subst hj;rw[et]at e;simp only[if_true]at e;split at e
    ·rename_i hl;have e1:z10 (g,d)=(g',d'):=by simpa using e
     rw[es]at e1;cases e1;exact⟨v,by rw[et];simp[so.len,hl],lQ _ wt FF⟩
    ·cases e
   ·rw[cr hj]at e ⊢;obtain⟨u,h1,h2⟩:=so.sl j g' d' e;refine⟨u,h1,?_⟩;cases g' with
    |fr=>
     obtain⟨p',e1,o1,h3⟩:=h2;refine⟨p',e1,?_,?_⟩
     ·rw[rF p' (λz=>by rw[z,TM]at o1;cases o1)];show(if F.O p'=some i then none else F.O p')=some j;rw[o1,vz (λz=>hj (v5 z).symm)]
     ·have cT:∀a,Bin F a/\¬nw H a->Bin (F.take i p) a:=λa b=>wt a (.inl b.1) λz=>b.2 (by rw[z];exact jS);rcases h3 with⟨vs,ds,e3,e2,r3⟩|⟨vs,ds,e3,e2,r3⟩
      ·exact .inl ⟨vs,ds,e3,s1 _ _ e2,aD.same s1 cT (aD.there _ r3)⟩
      ·exact .inr ⟨vs,ds,e3,s1 _ _ e2,cO.same s1 cT (cO.there _ r3)⟩
    |od=>exact Rep.same s1 (λ_ b=>b) h2
    |al=>exact Rep.same s1 (λ_ b=>b) h2
    |nu=>exact Rep.same s1 (λa b=>wt a (.inl b.1) λz=>b.2 (by rw[z];exact jS)) (Rep.there _ h2)
  ·have gX:a≠p:=λz=>by rw[z,jS]at e;cases e
   rw[rF a gX];exact Fm.bK n
 have LC:∀p,H p=none->F.O p=none:=λp jS=>by
  cases e1:F.O p with
  |none=>rfl
  |some j=>obtain⟨_,_,h'⟩:=so.own p j e1;rcases h' with⟨xs,h'⟩|⟨xs,h'⟩<;>rw[jS]at h'<;>cases h'
 by_cases hi:imm d=true
 ·exact plain (by show(if imm d then _ else _)=_;rw[vy hi];show _=jL (if imm d then _ else _,d);rw[vy hi];rfl)
 ·cases g with
  |od=>exact plain (by delta z10;simp only[vz hi];rfl)
  |al=>exact plain (by delta z10;simp only[vz hi];cases d<;>rfl)
  |nu=>exact CC (by delta z10;simp only[vz hi]) λa b=>b.elim so.fZ id
  |fr=>
   cases d with
   |none=>exact absurd rfl hi
   |bool b=>exact absurd rfl hi
   |int b=>exact absurd rfl hi
   |str b=>exact absurd rfl hi
   |tuple ds=>exact CC (by delta z10;simp only[vz hi]) λa b=>so.fZ b
   |list ds=>
    by_cases him:imms ds=true
    ·obtain⟨p,vs,ev,h,rs⟩:=r;rcases h with⟨h,b⟩|⟨_,b⟩
     ·have jS:H p=none:=b;exact own p (LC p jS) jS (Same.none so.ext jS) (so.aN p jS) ev (by delta z10;simp only[vz hi,vy him]) (λF' hb ho=>⟨p,ev,ho,.inl ⟨vs,ds,rfl,h,aD.bL ds him rs⟩⟩) (.inl ⟨vs,h⟩)
     ·exact b.elim
    ·exact CC (by delta z10;simp only[vz hi,vz him]) λa b=>so.fZ b
   |dict es=>
    by_cases him:qQ es=true
    ·obtain⟨p,kvs,ev,h,b,rs⟩:=r;have jS:=b;exact own p (LC p jS) jS (Same.none so.ext jS) (so.aN p jS) ev (by delta z10;simp only[vz hi,vy him]) (λF' hb ho=>⟨p,ev,ho,.inr ⟨kvs,es,rfl,h,cO.bL es him rs⟩⟩) (.inr ⟨kvs,h⟩)
    ·exact CC (by delta z10;simp only[vz hi,vz him]) λa b=>so.fZ b
theorem LD {K:W.Frag}{te:TE}(h:∀U H Q,tD K fa U H Q->te U H Q)(D:Ends)(U:L2.St)(H:Hp)(q:tDS K (λY=>fa Y>>=λx=>.ok (.nx (Y.set i (some (z10 x))))) D U H):te U H λv H1=>D.nx (U.set i (some v)) H1:=by obtain⟨Y,F,out,so,e,q⟩:=q;obtain⟨x,e1,e⟩:=Res.aA e;cases e;refine h U H _ ⟨Y,F,x,so,e1,λv H1 s1 rv=>?_⟩;obtain⟨F',kJ,r,f⟩:=so.setA s1 rv;exact q _ H1 F' kJ r f
theorem zna (hN:X.N.Nodup)(hi:X.N[i]?=some x)(hx:Loc X.env.scope x)(hf:X.fn x=true\/X.env.scope.names.lookup x=some .local)(hs:lc e (some (.Name x px)) pos.line X.env=pure false)(ha:PE X e (tD X.K fa)):
  PS X (.Assign [.Name x px] e pos) (tDS X.K λY=>fa Y>>=λx=>.ok (.nx (Y.set i (some (z10 x))))):=
 PS.imp (zi8 hN hi hx ha hs hf) λD U H q=>LD (λ_ _ _ h=>h) D U H q
theorem zpy (hg:PG X te (tDG X.K (.tp is)))(ha:PE X e (tD X.K fa))(hs:sr [te] e pos.line X.env=pure false)(hw:sw [te] e X.env=pure none)(h1:(fv [te] X.env).map (·.2)=[tq te X.env]):
  PS X (.Assign [te] e pos) (tDS X.K λY=>fa Y>>=λx=>fE (.tp is) x Y>>=λaH=>.ok (.nx aH)):=
 PS.imp (zpd ha hg hs hw h1) λD U H ⟨Y,F,out,so,e,q⟩=>by obtain⟨x,e1,e⟩:=Res.aA e;obtain⟨aH,e2,e⟩:=Res.aA e;cases e;refine⟨Y,F,x,so,e1,λv H1 s1 rv=>⟨Y,F,x,aH,so.same s1,rv.weak λ_ b=>BI.of so.aN b,e2,λσ' F' kJ eD=>?_⟩⟩;exact q σ' H1 F' kJ (Run.of eD.h0 eD.v eD.z) λa o e n=>⟨s1 a o e,eD.o a n⟩
theorem TV {K:W.Frag}(so:StOk K F H U Y)(h:okIn y=true)(r:Rep K H1 (BG F H y.1) u y.2):Rep K H1 (Bin F) u y.2:=by
 obtain⟨g,d⟩:=y;rcases gr.mp h with hi|hg
 ·exact Rep.bL d hi r
 rcases gr.mp hg with h|h
 ·cases eq_of_beq h;exact Rep.weak (λa b=>so.fZ b) r
 ·cases eq_of_beq h;exact Rep.weak (λa b=>b.elim so.fZ id) r
theorem StOk.mutate {K:W.Frag}(so:StOk K F H U Y)(hO:F.O p=some i)(hσ:U[i]?=some (some (.ref p)))(ho':(∃xs,o'=.lst xs)\/∃kvs,o'=.dK kvs)
  (hs:Slot K F (upd H p o') i .fr (.ref p) d'):StOk K F (upd H p o') U ((Y.set i (some (.fr,d'))).map pR)/\dD F H F (upd H p o'):=by
 obtain⟨h0,hV,jJ⟩:=so.own p i hO;have fG:∀a,F.O a=none->a≠p:=λa e z=>by rw[z,hO]at e;cases e
 have rG:∀a o,H a=some o->Fix o->a≠p:=λa o e f z=>by subst z;rcases jJ with⟨xs,h⟩|⟨xs,h⟩<;>rw[e]at h<;>cases h<;>exact f
 refine⟨⟨λa o e=>?_,λa e=>?_,λa j e=>?_,by rw[aq,dw];exact so.len,λj g d e=>?_⟩,(λa o e n=>⟨by rw[aK (fG a n)];exact e,n⟩)⟩
 ·have gX:a≠p:=λz=>by rw[z,h0]at e;cases e
  rw[aK gX];exact so.ext a o e
 ·by_cases gX:a=p
  ·subst gX;exact hV
  ·rw[aK gX]at e;exact so.aN a e
 ·obtain⟨x1,x2,x3⟩:=so.own a j e;refine⟨x1,x2,?_⟩;by_cases gX:a=p
  ·subst gX;rw[bC];rcases ho' with⟨xs,rfl⟩|⟨xs,rfl⟩
   ·exact .inl ⟨xs,rfl⟩
   ·exact .inr ⟨xs,rfl⟩
  ·rw[aK gX];exact x3
 ·rw[br]at e;by_cases hj:i=j
  ·subst hj;have hl:i<Y.length:=by rw[<-so.len];exact(bv.mp hσ).1
   rw[et]at e;simp only[if_true,hl]at e;cases(by simpa using e);exact⟨_,hσ,hs⟩
  ·rw[cr hj]at e;cases e2:Y[j]? with
   |none=>rw[e2]at e;cases e
   |some sl=>
    rw[e2]at e;have e3:pR sl=some (g,d):=by simpa using e
    cases sl with
    |none=>cases e3
    |some gd=>
     obtain⟨g0,d0⟩:=gd;obtain⟨v,h1,h2⟩:=so.sl j g0 d0 e2;refine⟨v,h1,?_⟩;cases g0 with
     |fr=>
      cases e3;obtain⟨p',e4,o4,h3⟩:=h2;have zJ:p'≠p:=λz=>by rw[z,hO]at o4;exact hj (v5 o4)
      have hk:∀a o,H a=some o->(Bin F (some a)\/Fix o)->upd H p o' a=some o:=λa o e b=>by have:a≠p:=b.elim (λb=>fG a b.1) λf=>rG a o e f;rw[aK this];exact e
      refine⟨p',e4,o4,?_⟩;rcases h3 with⟨vs,ds,e5,e6,r⟩|⟨vs,ds,e5,e6,r⟩
      ·exact .inl ⟨vs,ds,e5,by rw[aK zJ];exact e6,aD.keep hk (λ_ z=>z) ds r⟩
      ·exact .inr ⟨vs,ds,e5,by rw[aK zJ];exact e6,cO.keep hk (λ_ z=>z) ds r⟩
     |od=>cases e3;exact Rep.keep (λa o e b=>by have:a≠p:=b.elim (λb z=>by have b1:F.H0 a≠none/\F.V a:=b;rw[z]at b1;exact b1.1 h0) λf=>rG a o e f;rw[aK this];exact e) (λ_ z=>z) _ h2
     |nu=>cases e3;exact Rep.keep (λa o e b=>by have:a≠p:=b.elim (λb=>fG a b.1) λf=>rG a o e f;rw[aK this];exact e) (λ_ z=>z) _ h2
     |al=>
      change(if imm d0 then some (G.al,d0)else none)=_ at e3;split at e3
      ·rename_i him;cases e3;exact Rep.cP (λa o e f=>by rw[aK (rG a o e f)];exact e) _ him h2
      ·cases e3
theorem TX {K:W.Frag}(so:StOk K F H U Y)(e:Y[i]?=some (some (.fr,d))):∃p,U[i]?=some (some (.ref p))/\F.O p=some i/\((∃vs ds,d=.list ds/\H p=some (.lst vs)/\aD K H (Bin F) vs ds)\/(∃kvs es,d=.dict es/\H p=some (.dK kvs)/\cO K H (Bin F) kvs es)):=by obtain⟨v,h1,p,rfl,o,h⟩:=so.sl i .fr d e;exact⟨p,h1,o,h⟩
def FG (m:String)(i:Nat)(fs:Rho->Res (List GD)):Rho->Res Out:=λY=>fs Y>>=λys=>match Y[i]? with
 |some (some (.fr,.list xs))=>oA m xs ys>>=λxV=>.ok (.nx ((Y.set i (some (.fr,.list xV))).map pR))
 |_=>.no
theorem zeu {fs:Rho->Res (List GD)}(hN:X.N[i]?=some x)(hv:Vis X.env.scope x)(hd:Z9 x)(hcd:(x==("__classdict__":Str))=false)(ha:PA X (e::es) (tDA X.K fs))(hst:((e::es).all fun e=>!isStar e)=true)(hl:(e::es).length<20)(hline:(ap.endLine==cp.line)=true):
  PS X (.Expr (.Call (.Attribute (.Name x p) "append" ap) (e::es) [] cp) pos) (tDS X.K (FG "append" i fs)):=by
 have jR:=hst;rw[cx,bh]at jR;refine PS.imp (vH (zdp PySem.F.plainAttrs_list PySem.F.slot_list_append PySem.F.type_list_append Ew (xI hN hv hd hcd) ha rfl (z49 hst hl) hline (dN (by simpa using jR.1)) (mM jR.2)) rfl) λD U H zz=>?_;obtain⟨Y,F,out,so,e,q⟩:=zz;obtain⟨ys,e1,e⟩:=Res.aA e;split at e
 ·rename_i xs hr;obtain⟨xV,e2,e⟩:=Res.aA e;cases e;obtain⟨pa,h1,hO,h⟩:=TX so hr;rcases h with⟨vs,ds,e3,e4,r⟩|⟨_,_,e3,_⟩
  ·cases e3;refine⟨_,h1,.inl ⟨rfl,vs,SqL.of e4⟩,Y,F,ys,so,e1,λus H1 s1 rs=>?_⟩;simp only[oA,if_true]at e2;split at e2
   ·rename_i y;split at e2
    case isFalse=>cases e2
    rename_i hc;cases e2;rw[bg,decide_eq_true_iff]at hc;obtain⟨u,rfl,ru⟩:=rs.one;have e5:=s1 _ _ e4;refine⟨pa,vs,u,rfl,rfl,e5,mR (by rw[r.length];omega),?_⟩
    have r':aD X.K (upd H1 pa (.lst (vs++[u]))) (Bin F) (vs++[u]) (xs++[y.2]):=by
     refine aD.keep (λa o e b=>?_) (λ_ z=>z) _ (aD.append (r.same s1 λ_ z=>z) ⟨u,[],rfl,TV so hc.1 ru,rfl⟩)
     have gX:a≠pa:=by
      intro z;subst z;rcases b with b|b
      ·have b1:F.O a=none:=b.1;rw[hO]at b1;cases b1
      ·rw[e5]at e;cases e;exact b
     rw[aK gX];exact e
    obtain⟨CD,f2⟩:=(so.same s1).mutate hO h1 (.inl ⟨_,rfl⟩) ⟨pa,rfl,hO,.inl ⟨_,_,rfl,bC,r'⟩⟩;exact q U _ F CD Run.refl ((dD.same s1).trans f2)
   ·cases e2
  ·cases e3
 ·cases e
end
def zK (td ty tv:TE):TS:=λD U H=>tv U H λv H1=>td U H1 λx H2=>ty U H2 λy H3=>(∃a H4,x=.ref a/\DPut H3 a y v H4/\D.nx U H4)\/Kv x y v H3 λH4=>D.nx U H4
theorem TY (hu:X.A.units+1<cLine)(ho:PE X o td)(hi:PE X i ty)(hv:PE X value tv)(hs:lc value (some (.Subscript o i pos')) pos.line X.env=pure false):PS X (.Assign [.Subscript o i pos'] value pos) (zK td ty tv):=by
 intro pins s U H D I h;refine wpAny_Assign_Subscript (aL (hv pins s U H _ I h) λr s1 ⟨v,H1,I1,rv,q1⟩=>aL (ho pins s1 U H1 _ I1 q1) λu s2 ⟨x,H2,I2,rx,q2⟩=>aL (hi pins s2 U H2 _ I2 q2) λiv s3 ⟨y,H3,I3,ry,q3⟩=>?_) hs;rcases q3 with⟨a,H4,ex,g,q3⟩|q3
 ·subst ex;obtain rfl:u=Value.ref a:=rx;exact zdv hu I3 g ry rv λs4 I4=>⟨U,H4,I4,q3⟩
 ·exact aL (set_list pins s3 U H3 x y v u iv r _ I3 rx ry rv q3) λ_ s4 ⟨H4,I4,q4⟩=>⟨U,H4,I4,q4⟩
def tDF (K:W.Frag)(f:Rho->Res (G×List D×Rho)):TI:=λU H R=>∃Y F w,StOk K F H U Y/\f Y=.ok w/\∀J B H' F',Same H H'->Run F F'->dD F H F' H'->StOk K F' H' U w.2.2->(∀a,B (some a)->F'.O a=none)->(∀a,B a->BI F' w.1 a)->Walk K J B H' w.2.1->R J H'
theorem FH {K:W.Frag}(so:StOk K F H U Y){a:Addr}(hg:g≠.al)(h:BG F H g (some a)):F.O a=none:=by
 cases e1:F.O a with
 |none=>rfl
 |some j=>
  obtain⟨h0,_,h'⟩:=so.own a j e1;cases g with
  |fr=>have hb:=h;rcases h' with⟨xs,h'⟩|⟨xs,h'⟩<;>rw[hb]at h'<;>cases h'
  |od=>exact absurd h0 h.1
  |al=>exact absurd rfl hg
  |nu=>
   rcases h with h|h
   ·have hb:H a=none:=h;rcases h' with⟨xs,h'⟩|⟨xs,h'⟩<;>rw[hb]at h'<;>cases h'
   ·have hb:F.O a=none:=h.1;rw[hb]at e1;cases e1
theorem FI (hw:PI X tg e (tDW X.K fw)):PI X tg e (tDF X.K λY=>fw Y>>=λw=>if w.1==.al then .no else .ok (w.1,w.2,Y)):=
 PI.imp hw λU H R ⟨Y,F,w,so,e,q⟩=>by
  obtain⟨w0,e1,e⟩:=Res.aA e;refine⟨Y,F,w0,so,e1,λJ B H1 s1 hB wk=>?_⟩;split at e
  ·cases e
  ·rename_i iH;cases e;exact q J B H1 F s1 Run.refl (dD.same s1) (so.same s1) (λa b=>FH so (λz=>iH (by rw[z];rfl)) (hB _ b).1) (λa b=>BI.of so.aN (hB a b).1) wk
theorem StOk.giveUp {K:W.Frag}(so:StOk K F H U Y)(e:Y[i]?=some (some (.fr,d))):StOk K (F.drop i) H U (Y.set i (some (.al,d))):=by
 obtain⟨v,h1,h2⟩:=so.sl i .fr d e;have:=so.oM (i:=i) (x:=(.al,d)) (h2.rep so.jN)
 have es:U.set i (some v)=U:=by
  apply ml;intro j;by_cases hj:i=j
  ·subst hj;rw[et];simp only[if_true,(bv.mp h1).1];exact h1.symm
  ·rw[cr hj]
 rw[es]at this;exact this
theorem TZ (hN:X.N[i]?=some x)(hv:Vis X.env.scope x)(hd:Z9 x)(hcd:(x==("__classdict__":Str))=false):PI X tg (.Name x pos) (tDF X.K (EY i)):=by
 rintro pins s U H R I ⟨Y,F,w,so,e,q⟩
 unfold EY at e;split at e
 ·rename_i d hr;obtain⟨xs,e2,e⟩:=Res.aA e;cases e;obtain⟨v,h1,h2⟩:=so.sl i .fr d hr;refine aL (xI hN hv hd hcd pins s U H (λu H1=>u=v/\H1=H) I ⟨v,h1,rfl,rfl⟩) λu s1 zz=>?_;obtain⟨y,H1,I1,r1,ey,eH⟩:=zz;subst ey eH
  let B:Ad->Prop:=λa=>match a with|some a=>(F.drop i).O a=none/\F.V a|none=>False
  have rv:Rep X.K H1 B y d:=by
   obtain⟨p,ey,hO,h3⟩:=h2
   have hb:∀a,Bin F a->B a:=λa b=>by
    cases a with
    |none=>exact b
    |some a=>exact⟨Fm.bK b.1,b.2.2⟩
   have hp:B (some p):=⟨by show(if F.O p=some i then none else F.O p)=none;rw[vy hO],so.jN p i hO⟩;rcases h3 with⟨vs,ds,rfl,e4,r⟩|⟨vs,ds,rfl,e4,r⟩
   ·exact⟨p,vs,ey,.inl ⟨e4,hp⟩,r.weak hb⟩
   ·exact⟨p,vs,ey,e4,hp,cO.same (λ_ _ e=>e) hb r⟩
  refine z5b I1 r1 rv e2 λJ wk=>q J B H1 (F.drop i) (Same.refl _) (Run.of rfl rfl rfl) (dD.drop (Same.refl _)) (so.giveUp hr) (λa b=>b.1) (λa b=>?_) wk;cases a with
  |none=>exact b.elim
  |some a=>exact b.2
 ·cases e
def Fm.oP (F:Fm)(H:Hp):Fm:={F with O:=λa=>match H a with|some (.dK _)=>F.O a|_=>none}
theorem Fm.iI {F:Fm}{a:Addr}(h:F.O a=none):(F.oP H).O a=none:=by
 unfold Fm.oP
 dsimp only
 split<;>first|exact h|rfl
theorem StOk.oP {K:W.Frag}(so:StOk K F H U Y):StOk K (F.oP H) H U (Y.map EZ) where
 ext:=so.ext
 aN:=so.aN
 own:=λa i e=>by
  have e':F.O a=some i:=by
   unfold Fm.oP at e
   dsimp only at e
   split at e
   ·exact e
   ·cases e
  exact so.own a i e'
 len:=by rw[aq];exact so.len
 sl:=λi g d e=>by
  rw[br]at e;cases h1:Y[i]? with
  |none=>rw[h1]at e;cases e
  |some o=>
   rw[h1]at e;have e':EZ o=some (g,d):=by simpa using e
   cases o with
   |none=>cases e'
   |some gd=>
    obtain⟨g0,d0⟩:=gd;obtain⟨v,h2,h3⟩:=so.sl i g0 d0 h1;refine⟨v,h2,?_⟩
    have hb:∀a,Bin F a->Bin (F.oP H) a:=λa b=>by
     cases a with
     |none=>exact b
     |some a=>exact⟨Fm.iI b.1,b.2.1,b.2.2⟩
    cases g0 with
    |od=>cases e';exact h3
    |al=>cases e';exact h3
    |nu=>cases e';exact Rep.weak hb h3
    |fr=>
     obtain⟨p,ev,hO,h4⟩:=id h3;rcases h4 with⟨vs,ds,rfl,e4,r⟩|⟨kvs,es,rfl,e4,r⟩
     ·have e2:some (G.al,PyData.list ds)=some (g,d):=e';cases e2;have h5:=Slot.rep so.jN h3;exact h5
     ·have e2:some (G.fr,PyData.dict es)=some (g,d):=e';cases e2;refine⟨p,ev,?_,.inr ⟨kvs,es,rfl,e4,cO.same (λ_ _ z=>z) hb r⟩⟩;unfold Fm.oP
      dsimp only
      rw[e4];exact hO
theorem FJ (ha:PE X e (tD X.K fa)):PI X tg e (tDF X.K λY=>fa Y>>=λx=>oE x Y):=by
 rintro pins s U H R I ⟨Y,F,w,so,e0,q⟩
 obtain⟨⟨g,d⟩,e1,e0⟩:=Res.aA e0;unfold oE at e0
 dsimp only at e0
 split at e0
 ·rename_i xs;split at e0
  ·rename_i hi;cases e0;refine aL (ha pins s U H (λv H1=>Same H H1/\Rep X.K H1 (BG F H g) v (.list xs)) I ⟨Y,F,_,so,e1,λv H1 s1 rv=>⟨s1,rv⟩⟩) λv s1 zz=>?_;obtain⟨y,H1,I1,r1,wq,rv⟩:=zz
   let B:Ad->Prop:=λa=>match a with|some a=>(F.oP H1).O a=none/\F.V a|none=>F.z
   have oK:Rep X.K H1 B y (.list xs):=by
    obtain⟨p,vs,ey,h,r⟩:=rv;refine⟨p,vs,ey,?_,aD.bL xs hi r⟩;rcases h with⟨h,b⟩|⟨h,b⟩
    ·refine .inl ⟨h,?_,(BG.aN so.aN b:bM F (some p))⟩;unfold Fm.oP
     dsimp only
     rw[h]
    ·exact .inr ⟨h,(BG.aN so.aN b:bM F none)⟩
   refine z5b I1 r1 oK rfl λJ wk=>q J B H1 (F.oP H1) wq (Run.of rfl rfl rfl) (λa o e n=>⟨wq a o e,Fm.iI n⟩) ((so.same wq).oP) (λa b=>b.1) (λa b=>?_) wk;cases a with
   |none=>exact b
   |some a=>exact b.2
  ·cases e0
 ·cases e0
theorem PI.LF {k:Rho->Bool}(hf:PI X tg e (tDF X.K f))(hg:PI X tg e (tDF X.K g)):PI X tg e (tDF X.K λY=>if k Y then f Y else g Y):=by
 rintro pins s U H R I ⟨Y,F,w,so,e,q⟩
 dsimp only at e
 cases hk:k Y with
 |true=>exact hf pins s U H R I ⟨Y,F,w,so,by rw[vy hk]at e;exact e,q⟩
 |false=>exact hg pins s U H R I ⟨Y,F,w,so,by rw[vz (by rw[hk];exact dz)]at e;exact e,q⟩
theorem zsd (hp:ja (model X.prog X.w) X.A X.env X.xe)(hc:X.calm=true)(hi:PI X tg iter (tDF X.K fw))(hg:PG X tg (tDG X.K t))(hb:PSs X body (tDS X.K fs))(hs:∀x,iu iter X.env x=pure x):
  PS X (.For tg iter body [] pos) (tDS X.K λY=>fw Y>>=λw=>cA (λx ρ1=>fE t (gJ x w.1,x) ρ1>>=λdC=>fs dC) w.2.1 w.2.2):=
 PS.imp (zb2 hp hc hi hg hb hs) λD U H ⟨Y,F,out,so,e,q⟩=>by
  obtain⟨w,e1,e⟩:=Res.aA e;refine⟨Y,F,w,so,e1,λJ B H1 F1 s1 r1 f1 lP T1 T2 wk=>?_⟩;have q1:=q.back r1 f1;generalize hf:(λx ρ1=>fE t (gJ x w.1,x) ρ1>>=λdC=>fs dC)=f at e
  have kp:∀{F2:Fm} {H2:Hp},dD F1 H1 F2 H2->Kp B H1 H2:=λ{F2 H2} fr a o e b=>by
   have hO:F1.O a=none:=by
    rcases b with b|b
    ·exact T1 a b
    ·cases e2:F1.O a with
     |none=>rfl
     |some j=>obtain⟨_,_,h'⟩:=lP.own a j e2;rcases h' with⟨xs,h'⟩|⟨xs,h'⟩<;>rw[e]at h'<;>cases h'<;>exact b.elim
   exact(fr a o e hO).1
  let W:Nat->Nat->L2.St->Hp->Prop:=λi m eP H2=>m=w.2.1.length-i/\i<=w.2.1.length/\∃dC F2,StOk X.K F2 H2 eP dC/\Run F1 F2/\dD F1 H1 F2 H2/\cA f (w.2.1.drop i) dC=.ok out
  refine⟨W,⟨_,rfl,dv _,w.2.2,F1,lP,Run.refl,dD.refl,e⟩,?_⟩
  rintro i m eP H2 ⟨rfl,FK,dC,F2,CD,r2,f2,e2⟩
  by_cases cM:i<w.2.1.length
  ·refine .inr ⟨wk.go H2 (kp f2) i cM,W (i+1) (w.2.1.length-(i+1)),λσ' H' p=>⟨_,by omega,p⟩,λx H3 y=>?_⟩;obtain⟨s3,d,hd,rx⟩:=wk.kZ H2 (kp f2) i x H3 cM y
   have rF:w.2.1.drop i=d::w.2.1.drop (i+1):=by
    rw[li cM];have:w.2.1[i]=d:=by rw[bn cM]at hd;exact v5 hd
    rw[this]
   rw[rF]at e2;simp only[cA]at e2
   have FA:Rep X.K H3 (BI F2 (gJ d w.1)) x d:=by
    have T4:∀g a,BI F1 g a->BI F2 g a:=λg a b=>by cases g<;>cases a<;>first|exact b|(have b':F1.V _:=b;rw[<-r2.2.1]at b';exact b')|(have b':F1.z:=b;rw[<-r2.2.2]at b';exact b')|(have b':F1.H0 _≠none/\F1.V _:=b;exact⟨λz=>b'.1 (none_of r2.1 z),by rw[r2.2.1];exact b'.2⟩)
    unfold gJ;by_cases hi:imm d=true
    ·rw[vy hi];exact Rep.bL d hi rx
    ·rw[vz hi];exact rx.weak λa b=>T4 _ _ (T2 a b)
   cases e3:f d dC with
   |no=>rw[e3]at e2;cases e2
   |exc z=>rw[e3]at e2;cases e2
   |ok o1=>
    obtain⟨LG,e4,e5⟩:=Res.aA (by rw[<-e3,<-hf]);rw[e3]at e2;refine⟨dC,F2,(gJ d w.1,d),LG,CD.same s3,FA,e4,λfN F4 Cz eD=>⟨LG,F4,o1,Cz,e5,?_⟩⟩;have r4:=r2.trans (Run.of eD.h0 eD.v eD.z);have f4:=f2.trans λa o e n=>⟨s3 a o e,eD.o a n⟩;cases o1 with
    |nx CF=>exact λσ' H' F' kJ r' f'=>⟨rfl,cM,CF,F',kJ,r4.trans r',f4.trans f',e2⟩
    |ct CF=>exact λσ' H' F' kJ r' f'=>⟨rfl,cM,CF,F',kJ,r4.trans r',f4.trans f',e2⟩
    |bk CF=>cases e2;exact λσ' H' F' kJ r' f'=>q1 σ' H' F' kJ (r4.trans r') (f4.trans f')
    |rt g d=>cases e2;exact(q1.back r4 f4:zI X.K F4 H3 D (.rt g d))
  ·have zL:i=w.2.1.length:=by omega
   subst zL;rw[m9]at e2;cases e2;exact .inl ⟨wk.stop H2 (kp f2),q1 eP H2 F2 CD r2 f2⟩
def rAgg (K:W.Frag)(f:String):List V->Hp->VK->Prop:=λxs H Q=>∃B x dx l ys d,xs=[x]/\Rep K H B x dx/\z4c dx=.ok (l,ys)/\aggD f l ys=.ok d/\∀w H',Same H H'->Rep K H' (λa=>nw H a\/(imms ys=false/\B a)) w d->Q w H'
theorem CG {K:W.Frag}(r:Rep K H B x dx)(e:z4c dx=.ok (l,ys)):∃a vs,x=.ref a/\(if l then SqL K H a vs else cS K H a vs)/\aD K H B vs ys:=by
 cases dx<;>try (cases e;done)
 ·cases e;obtain⟨a,vs,rfl,h,q⟩:=pU r;exact⟨a,vs,rfl,h,q⟩
 ·cases e;obtain⟨a,vs,rfl,h,q⟩:=r;exact⟨a,vs,rfl,h,q⟩
theorem aD.wu {K:W.Frag}(r:aD K H B vs ys):aD K H (λa=>nw H a\/(imms ys=false/\B a)) vs ys:=by
 cases hi:imms ys with
 |true=>exact aD.bL ys hi r
 |false=>exact r.weak λ_ z=>.inr ⟨rfl,z⟩
section
variable {X:Cx}{e:Expr}{fa:Rho->Res GD}
theorem zhb (so:StOk X.K F H U Y)(e:((fa Y>>=fun x=>z4c x.2>>=fun p=>Res.ok (x.1,p))>>=fun w=>aggD f w.2.1 w.2.2>>=fun d=>Res.ok ((gJ d (if imms w.2.2 then .fr else agG w.1),d):GD))=.ok z)(q:∀v H',Same H H'->Rep X.K H' (BG F H z.1) v z.2->Q v H'):
  qK (rAgg X.K f) (nM (tD X.K fa) eI) U H Q:=by
 obtain⟨w,e0,e⟩:=Res.aA e;obtain⟨x,e1,e0⟩:=Res.aA e0;obtain⟨p,e2,e0⟩:=Res.aA e0;cases e0;obtain⟨d,e3,e⟩:=Res.aA e;cases e;refine⟨Y,F,x,so,e1,λv H1 s1 rv=>⟨_,v,x.2,p.1,p.2,d,rfl,rv,e2,e3,λw' H2 s2 dJ=>q w' H2 (s1.trans s2) (tP dJ λa h=>?_)⟩⟩;cases hi:imms p.2 with
 |true=>
  rcases h with h|⟨h,_⟩
  ·exact nw.back s1 h
  ·rw[hi]at h;cases h
 |false=>
  have al:bM F a:=by
   rcases h with h|⟨_,h⟩
   ·exact(nw.back s1 h).aN so.aN
   ·exact h.aN so.aN
  cases hg:x.1 with
  |fr=>
   rcases h with h|⟨_,h⟩
   ·exact nw.back s1 h
   ·rw[hg]at h;exact h
  |od=>exact al
  |al=>exact al
  |nu=>
   rcases h with h|⟨_,h⟩
   ·exact .inl (nw.back s1 h)
   ·rw[hg]at h;exact h
theorem T5:CallR X (.type "list") (rAgg X.K "list"):=by
 refine CallR.imp QX λxs H Q h=>?_;obtain⟨B,x,dx,l,ys,d,rfl,r,e,e2,q⟩:=h;obtain⟨a,vs,rfl,h,rs⟩:=CG r e;cases e2
 have h':SqL X.K H a vs\/cS X.K H a vs:=by
  cases l with
  |true=>exact .inl h
  |false=>exact .inr h
 refine⟨a,vs,rfl,h',λp hp=>q _ _ (Same.upd hp) (vX hp rs.wu (λ_ z=>z) (.inl hp))⟩
theorem T6:CallR X (.type "tuple") (rAgg X.K "tuple"):=by
 refine CallR.imp QY λxs H Q h=>?_;obtain⟨B,x,dx,l,ys,d,rfl,r,e,e2,q⟩:=h;obtain⟨a,vs,rfl,h,rs⟩:=CG r e;cases e2;refine⟨a,vs,rfl,?_⟩;cases l with
 |true=>exact .inl ⟨h,λp hp=>q _ _ (Same.upd hp) (Cq hp rs.wu λ_ z=>z)⟩
 |false=>exact .inr ⟨h,q _ H (Same.refl H) ⟨a,vs,rfl,h,rs.wu⟩⟩
theorem LH {K:W.Frag}:∀{ds:List D} {bs:List Bool} {vs:List V},allB ds=some bs->aD K H B vs ds->vs=bs.map V.bl
 | [],bs,vs,e,r=>by cases e;exact r
 |d::ds,bs,vs,e,r=>by
  cases d<;>try (cases e;done)
  simp only[allB]at e;cases e1:allB ds with
  |none=>rw[e1]at e;cases e
  |some ZT=>rw[e1]at e;cases e;obtain⟨v,t,rfl,h1,h2⟩:=r;rw[h1,LH e1 h2];rfl
theorem T7 (hc:X.calm=true):CallR X (.builtin "all") (rAgg X.K "all"):=by
 refine CallR.imp (RD hc) λxs H Q h=>?_;obtain⟨B,x,dx,l,ys,d,rfl,r,e,e2,q⟩:=h;obtain⟨a,vs,rfl,h,rs⟩:=CG r e;simp only[aggD,show("all":String)≠"list" by decide,show("all":String)≠"tuple" by decide,show("all":String)≠"sorted" by decide,show("all":String)≠"sum" by decide,if_true,if_false]at e2;cases l with
 |false=>cases e2
 |true=>
  cases e3:allB ys with
  |none=>rw[e3]at e2;cases e2
  |some bs=>rw[e3]at e2;cases e2;have ev:=LH e3 rs;subst ev;exact⟨a,bs,rfl,h,q _ H (Same.refl H) rfl⟩
theorem zgz (hc:CallR X (.type f) (rAgg X.K f))(hm:X.mg x=none)(hv:db x=some (.type f))(hs:isStar y=false)(ha:PE X y (tD X.K fa))(hg:Gl X x)(hn:x≠"__name__")(hdb:Z9 x):
  PE X (.Call (.Name x p) [y] [] pos) (tD X.K λY=>(fa Y>>=λx=>z4c x.2>>=λp=>Res.ok (x.1,p))>>=λw=>aggD f w.2.1 w.2.2>>=λd=>.ok (gJ d (if imms w.2.2 then .fr else agG w.1),d)):=
 PE.imp (Ci hc hm hv (dS ha kF hs) (by simp[hs]) hg hn hdb) λU H Q ⟨Y,F,z,so,e,q⟩=>zhb so e q
theorem zlu (hc:CallR X (.builtin f) (rAgg X.K f))(hm:X.mg x=none)(hv:db x=some (.builtin f))(hs:isStar y=false)(ha:PE X y (tD X.K fa))(hg:Gl X x)(hn:x≠"__name__")(hdb:Z9 x):
  PE X (.Call (.Name x p) [y] [] pos) (tD X.K λY=>(fa Y>>=λx=>z4c x.2>>=λp=>Res.ok (x.1,p))>>=λw=>aggD f w.2.1 w.2.2>>=λd=>.ok (gJ d (if imms w.2.2 then .fr else agG w.1),d)):=
 PE.imp (zr hc hm hv (dS ha kF hs) (by simp[hs]) hg hn hdb) λU H Q ⟨Y,F,z,so,e,q⟩=>zhb so e q
end
namespace F
end F
open PySem.W
def pV (a b c:Int):Nat:=if a<b then((b-a-1)/c+1).toNat else 0
theorem rangeSize_pos {a b c:Int}(hc:0<c):eu a b c=(pV a b c:Int):=by
 unfold eu pV;rw[vy hc];split
 ·have :0<=(b-a-1)/c:=Int.ediv_nonneg (by omega) (by omega);omega
 ·rfl
theorem LI {a b c:Int}(hc:0<c)(ha:-LIM<=a)(hb:b<=LIM):pV a b c<=3*LIM:=by
 unfold pV;split
 ·have h1:(b-a-1)/c<=b-a-1:=Int.ediv_le_self _ (by omega);omega
 ·exact dv _
theorem T8 {a b c:Int}(hc:0<c)(ha:-LIM<=a)(ha':a<=LIM)(hb:b<=LIM)(cT:-LIM<=b)(hc':c<=LIM):ll a b c=true:=by
 have hn:=LI hc ha hb;unfold ll;rw[rangeSize_pos hc,vy hc];have fit:∀x,-4000000<=x->x<=4000000->om x=true:=λx h1 h2=>by unfold om;simp;omega
 unfold LIM at *
 rw[fit a (by omega) (by omega),fit b (by omega) (by omega),fit c (by omega) (by omega),fit _ (by omega) (by omega),fit (b+(c-1)) (by omega) (by omega)];simp
theorem zrg (hc:CallR X (.type T) (z6z X.K m))(hm:X.mg x=none)(hv:db x=some (.type T))(ha:PA X (e::es) (tDA X.K fs))(hst:((e::es).all fun e=>!isStar e)=true)(hg:Gl X x)(hn:x≠"__name__")(hdb:Z9 x):
  PE X (.Call (.Name x p) (e::es) [] pos) (tD X.K λY=>fs Y>>=λys=>m (ys.map (·.2))>>=λd=>.ok (gJ d .al,d)):=by
 refine PE.imp (Ci hc hm hv ha hst hg hn hdb) λU H Q hq=>?_;obtain⟨Y,F,z,so,e0,q⟩:=hq;obtain⟨ys,e1,e0⟩:=Res.aA e0;obtain⟨d,e2,e0⟩:=Res.aA e0;cases e0;exact⟨Y,F,ys,so,e1,λvs H1 s1 rs=>⟨_,_,d,rs.kI so.aN,e2,λw H2 s2 dJ=>q w H2 (s1.trans s2) (tP dJ λa h=>h.elim (λz=>(nw.back s1 z).aN so.aN) λz=>z)⟩⟩
theorem T9:CallR X (.type "int") (z6z X.K (gS "int")):=by
 refine CallR.imp (CallR.or Qk TB) λxs H Q h=>?_;obtain⟨B,ds,d,r,e0,q⟩:=h;simp only[gS,show("int":String)≠"len" by decide,show("int":String)≠"max" by decide,if_true,if_false]at e0;split at e0
 ·rename_i i;cases e0;obtain⟨v,rfl,h1⟩:=wo r;obtain rfl:v=.int i:=h1;exact .inl (.inl ⟨i,rfl,q _ H (Same.refl H) rfl⟩)
 ·rename_i k;cases e0;obtain⟨v,rfl,h1⟩:=wo r;obtain rfl:v=.bl k:=h1;exact .inl (.inr ⟨k,rfl,q _ H (Same.refl H) rfl⟩)
 ·rename_i x;unfold qT at e0;split at e0
  ·rename_i hc;cases e0;rw[bg]at hc;obtain⟨v,rfl,h1⟩:=wo r;obtain rfl:v=.str x:=h1.1;exact .inr ⟨x,rfl,hc.1,wc hc.2,q _ H (Same.refl H) rfl⟩
  ·cases e0
 ·cases e0
abbrev ZRec (TI TO:Addr)(f0:Value)(f1:Bool):Obj:={cls:=.type "zip",dict:=none,data:=.fields #[f0,.bool f1,.bool false,.ref TI,.ref TO],slots:=#[]}
def ZF (f0:Value):Prop:=f0=Value.none\/∃T:Nat,f0=fg T
section
variable {z TI TO:Addr}
theorem T' (h:Q (s.heap.get? a) s):wpAny (model prog w) A (loadIfAlive a) Q E s:=λ_ _ _=>h
theorem LJ (hf:ZF f0)(hz:s.heap.get? z=some (ZRec TI TO f0 f1))(hQ:∀b h' iZ,h'.get? z=some (ZRec TI TO f0 iZ)->bu z s.heap h'->Q b {s with heap:=h'}):wpAny (model prog w) A (lq (.ref z)) Q E s:=by
 delta lq
 apply aa;refine dq hz rfl rfl ?_;rcases hf with rfl|⟨T,rfl⟩
 ·exact aj (hQ true s.heap f1 hz (Heap.SameBut.refl ..))
 ·show wpAny _ _ (loadIfAlive ((T:Int).toNat)>>=_) _ _ _;apply aa;refine T' ?_;cases s.heap.get? ((T:Int).toNat)with
  |none=>exact aj (hQ true s.heap f1 hz (Heap.SameBut.refl ..))
  |some o=>
   apply aa;refine dq hz rfl rfl ?_;cases f1 with
   |true=>exact aj (hQ false s.heap true hz (Heap.SameBut.refl ..))
   |false=>apply aa;exact gb hz (by simp) λh' zM sb=>aj (hQ false h' true zM sb)
structure ZApart (z TI TO i1 i2:Addr)(p1 p2:List Addr):Prop where
 TIz:TI≠z
 TOz:TO≠z
 i1z:i1≠z
 i2z:i2≠z
 TITO:TI≠TO
 TIi1:TI≠i1
 TIi2:TI≠i2
 TOi1:TO≠i1
 TOi2:TO≠i2
 i12:i1≠i2
 zN:z∉p1
 LK:TO∉p1
 LL:i2∉p1
 zO:z∉p2
 FN:TO∉p2
 CH:i1∉p2
abbrev PairAt (h:Heap)(T:Addr)(a b:Value):Prop:=h.get? T=some {cls:=.type "tuple",data:=.seq #[a,b]}
def Zk (z TO i1 i2:Addr)(h h':Heap):Prop:=∀c o,c≠z->c≠TO->c≠i1->c≠i2->h.get? c=some o->h'.get? c=some o
theorem FO (hT:PairAt s.heap T a b)(h:∀h',h'.get? T=some {cls:=.type "tuple",data:=.seq ((#[a,b]:Array Value).setIfInBounds k x)}->bu T s.heap h'->Q () {s with heap:=h'}):wpAny (model prog w) A (updateSeq T (·.setIfInBounds k x)) Q E s:=wpAny_updateSeq hT rfl (h _ (by rw[d7 _ hT rfl];simp[Obj.mapSeq]) (ju ..))
theorem zg8 {Q:Value->aw->Prop}(D:ZApart z TI TO i1 i2 p1 p2)(D1:Draws prog w A i1 p1 n1 P1 S1)(D2:Draws prog w A i2 p2 n2 P2 S2)(hf:ZF f0)(hz:s.heap.get? z=some (ZRec TI TO f0 f1))(hTI:PairAt s.heap TI (.ref i1) (.ref i2))(hTO:PairAt s.heap TO a b)(h1:S1 i s.heap)(h2:S2 i s.heap)(l1:i<n1)(l2:i<n2)
  (hQ:∀x y h' tk oQ iZ a' b',P1 i x->P2 i y->ZF oQ->h'.get? z=some (ZRec TI TO oQ iZ)->PairAt h' TO a' b'->S1 (i+1) h'->S2 (i+1) h'->PairAt h' s.heap.objs.size x y->Zk z TO i1 i2 s.heap h'->Q (.ref s.heap.objs.size) {s with heap:=h',toks:=tk}):
  wpAny (model prog w) A (Builtin.«zip.__next__» {pos:=[.ref z],kw:=[]}) (λfin s'=>∃v,fin=.done (.ret v)/\Q v s') E s:=by
 show wpAny (model prog w) A (field (.ref z) 2>>=_) _ E s;apply aa;refine dq hz rfl rfl ?_;apply aa;refine dq hz rfl rfl ?_;apply aa;refine jg hTI rfl ?_;apply aa;refine LJ hf hz λbf h₀ iZ gA kK=>?_;have k0:=λc o hc e=>kK.extBut c o hc e;have e1:=D1.frame _ _ _ h1 λb hb o e=>k0 b o (λq=>D.zN (q▸hb)) e;have e2:=D2.frame _ _ _ h2 λb hb o e=>k0 b o (λq=>D.zO (q▸hb)) e;have t0:=k0 _ _ D.TOz hTO;have LM:=kK.1;cases bf with
 |true=>
  apply aa;refine k8 ?_;apply aa;refine dq gA rfl rfl ?_;apply aa;refine gb gA (by simp) λha za ka=>?_;replace za:ha.get? z=some (ZRec TI TO .ellipsis iZ):=za;apply aa;apply aa;apply aa;apply nh;apply aa;refine D1.item i _ _ _ l1 (D1.frame _ _ _ e1 λb hb o e=>ka.extBut b o (λq=>D.zN (q▸hb)) e) λx hb tk zP zQ kb=>aj ?_;replace kb:bu i1 ha hb:=kb;have tb:=kb.extBut _ _ D.TOi1 (ka.extBut _ _ D.TOz t0);apply aa;refine jg tb rfl ?_;apply aa;refine FO tb λhc tc kc=>?_;replace tc:PairAt hc TO x b:=tc;replace kc:bu TO hb hc:=kc;apply aa;refine vd (aj ?_);apply aa;apply aa;apply nh;apply aa;refine D2.item i _ _ _ l2 (D2.frame _ _ _ (D2.frame _ _ _ (D2.frame _ _ _ e2 λb hb o e=>ka.extBut b o (λq=>D.zO (q▸hb)) e) λb cT o e=>kb.extBut b o (λq=>D.CH (q▸cT)) e) λb cT o e=>kc.extBut b o (λq=>D.FN (q▸cT)) e) λy hd FP FQ FR kd=>aj ?_;replace kd:bu i2 hc hd:=kd;have td:=kd.extBut _ _ D.TOi2 tc;apply aa;refine jg td rfl ?_;apply aa;refine FO td λhe te ke=>?_;replace te:PairAt he TO x y:=te;replace ke:bu TO hd he:=ke;apply aa;refine vd (aj (aj ?_));apply aa;refine jg te rfl ?_;apply aa;refine wpAny_newTuple ?_;have sz:he.objs.size=s.heap.objs.size:=by rw[ke.1,kd.1,kc.1,kb.1,ka.1,LM]
  have ze:=ke.extBut _ _ D.TOz.symm (kd.extBut _ _ D.i2z.symm (kc.extBut _ _ D.TOz.symm (kb.extBut _ _ D.i1z.symm za)));have LN:=bc ze;apply aa
  delta Builtin.SmallTypes.ownedTupleHandOut
  have zf:(he.push {cls:=.type "tuple",data:=.seq #[x,y]}).get? z=some (ZRec TI TO .ellipsis iZ):=af _ ze;apply aa;refine gb zf (by simp) λhg zg kg=>?_;replace zg:hg.get? z=some (ZRec TI TO (fg he.objs.size) iZ):=zg;refine gb zg (by simp) λhh zh kh=>?_;replace zh:hh.get? z=some (ZRec TI TO (fg he.objs.size) false):=zh;have up:∀c o,c≠z->he.get? c=some o->hh.get? c=some o:=λc o hc e=>kh.extBut _ _ hc (kg.extBut _ _ hc (af _ e));have new:=kh.extBut _ _ (oh LN) (kg.extBut _ _ (oh LN) (au _ rfl));refine aj ⟨.ref he.objs.size,rfl,?_⟩;rw[sz]at new ⊢;exact hQ x y hh FP _ _ x y zP FQ (.inr ⟨_,rfl⟩) zh (up _ _ D.TOz te) (D1.frame _ _ _ (D1.frame _ _ _ (D1.frame _ _ _ (D1.frame _ _ _ zQ λb cT o e=>kc.extBut b o (λq=>D.LK (q▸cT)) e) λb cT o e=>kd.extBut b o (λq=>D.LL (q▸cT)) e) λb cT o e=>ke.extBut b o (λq=>D.LK (q▸cT)) e) λb cT o e=>up b o (λq=>D.zN (q▸cT)) e) (D2.frame _ _ _ (D2.frame _ _ _ FR λb cT o e=>ke.extBut b o (λq=>D.FN (q▸cT)) e) λb cT o e=>up b o (λq=>D.zO (q▸cT)) e) new λc o c1 c2 c3 c4 e=>up c o c1 (ke.extBut _ _ c2 (kd.extBut _ _ c4 (kc.extBut _ _ c2 (kb.extBut _ _ c3 (ka.extBut _ _ c1 (k0 c o c1 e))))))
 |false=>
  apply aa;apply aa;apply aa;apply fk;apply aa;refine D1.item i _ _ _ l1 e1 λx hb tk zP zQ kb=>aj (aj ?_);replace kb:bu i1 h₀ hb:=kb;apply aa;apply aa;apply fk;apply aa;refine D2.item i _ _ _ l2 (D2.frame _ _ _ e2 λb cT o e=>kb.extBut b o (λq=>D.CH (q▸cT)) e) λy hd FP FQ FR kd=>aj (aj (aj ?_));replace kd:bu i2 hb hd:=kd;have sz:hd.objs.size=s.heap.objs.size:=by rw[kd.1,kb.1,LM]
  apply aa;refine wpAny_newTuple (aj ⟨_,rfl,?_⟩) (by show 2<=ba;decide);have up:∀c o,hd.get? c=some o->(hd.push {cls:=.type "tuple",data:=.seq #[x,y]}).get? c=some o:=λc o e=>af _ e;have new:PairAt (hd.push {cls:=.type "tuple",data:=.seq #[x,y]}) hd.objs.size x y:=au _ rfl;rw[sz]at new ⊢;exact hQ x y _ FP f0 iZ a b zP FQ hf (up _ _ (kd.extBut _ _ D.i2z.symm (kb.extBut _ _ D.i1z.symm gA))) (up _ _ (kd.extBut _ _ D.TOi2 (kb.extBut _ _ D.TOi1 t0))) (D1.frame _ _ _ (D1.frame _ _ _ zQ λb cT o e=>kd.extBut b o (λq=>D.LL (q▸cT)) e) λb cT o e=>up b o e) (D2.frame _ _ _ FR λb cT o e=>up b o e) new λc o c1 c2 c3 c4 e=>up c o (kd.extBut _ _ c4 (kb.extBut _ _ c3 (k0 c o c1 e)))
theorem zii (D:ZApart z TI TO i1 i2 p1 p2)(D1:Draws prog w A i1 p1 n1 P1 S1)(D2:Draws prog w A i2 p2 n2 P2 S2)(hf:ZF f0)(hz:s.heap.get? z=some (ZRec TI TO f0 f1))(hTI:PairAt s.heap TI (.ref i1) (.ref i2))(hTO:PairAt s.heap TO a b)(h1:S1 i s.heap)(h2:S2 i s.heap)(hl:i=min n1 n2)
  (hE:∀h' tk e,Zk z TO i1 i2 s.heap h'->(∃o,h'.get? e=some o/\o.cls=.type "StopIteration")->E (.ref e) {s with heap:=h',toks:=tk}):
  wpAny (model prog w) A (Builtin.«zip.__next__» {pos:=[.ref z],kw:=[]}) Q E s:=by
 show wpAny (model prog w) A (field (.ref z) 2>>=_) _ E s;apply aa;refine dq hz rfl rfl ?_;apply aa;refine dq hz rfl rfl ?_;apply aa;refine jg hTI rfl ?_;apply aa;refine LJ hf hz λbf h₀ iZ gA kK=>?_;have k0:=λc o hc e=>kK.extBut c o hc e;have e1:=D1.frame _ _ _ h1 λb hb o e=>k0 b o (λq=>D.zN (q▸hb)) e;have e2:=D2.frame _ _ _ h2 λb hb o e=>k0 b o (λq=>D.zO (q▸hb)) e;cases bf with
 |true=>
  apply aa;refine k8 ?_;apply aa;refine dq gA rfl rfl ?_;apply aa;refine gb gA (by simp) λha za ka=>?_;replace za:ha.get? z=some (ZRec TI TO .ellipsis iZ):=za;have LO:=D1.frame _ _ _ e1 λb hb o e=>ka.extBut b o (λq=>D.zN (q▸hb)) e;apply aa;apply aa;apply aa;apply nh;apply aa;by_cases hi:i<n1
  ·refine D1.item i _ _ _ hi LO λx hb tk zP zQ kb=>aj ?_;replace kb:bu i1 ha hb:=kb;have tb:=kb.extBut _ _ D.TOi1 (ka.extBut _ _ D.TOz (k0 _ _ D.TOz hTO));have FT:=D2.frame _ _ _ (D2.frame _ _ _ e2 λb hb o e=>ka.extBut b o (λq=>D.zO (q▸hb)) e) λb cT o e=>kb.extBut b o (λq=>D.CH (q▸cT)) e;apply aa;refine jg tb rfl ?_;apply aa;refine FO tb λhc tc kc=>?_;replace kc:bu TO hb hc:=kc;apply aa;refine vd (aj ?_);have Ua:S2 n2 hc:=by rw[show n2=i by omega];exact D2.frame _ _ _ FT λb cT o e=>kc.extBut b o (λq=>D.FN (q▸cT)) e
   apply aa;apply aa;apply nh;apply aa;refine D2.done _ _ _ Ua λhd e kd he=>?_;obtain⟨oe,mS,zR⟩:=he;have zd:=kd _ _ D.i2z.symm (kc.extBut _ _ D.TOz.symm (kb.extBut _ _ D.i1z.symm za));refine gb zd (by simp) λFU _ ke=>hE FU tk e (λc o c1 c2 c3 c4 q=>?_) ⟨oe,ke.extBut _ _ (λq=>by subst q;rw[zd]at mS;cases mS;simp at zR) mS,zR⟩;exact ke.extBut _ _ c1 (kd _ _ c4 (kc.extBut _ _ c2 (kb.extBut _ _ c3 (ka.extBut _ _ c1 (k0 c o c1 q)))))
  ·have FV:S1 n1 ha:=by rw[show n1=i by omega];exact LO
   refine D1.done _ _ _ FV λhd e kd he=>?_;obtain⟨oe,mS,zR⟩:=he;have zd:=kd _ _ D.i1z.symm za;refine gb zd (by simp) λFU _ ke=>hE FU s.toks e (λc o c1 c2 c3 c4 q=>?_) ⟨oe,ke.extBut _ _ (λq=>by subst q;rw[zd]at mS;cases mS;simp at zR) mS,zR⟩;exact ke.extBut _ _ c1 (kd _ _ c3 (ka.extBut _ _ c1 (k0 c o c1 q)))
 |false=>
  apply aa;apply aa;apply aa;apply fk;apply aa;by_cases hi:i<n1
  ·refine D1.item i _ _ _ hi e1 λx hb tk zP zQ kb=>aj (aj ?_);replace kb:bu i1 h₀ hb:=kb;have FT:S2 n2 hb:=by rw[show n2=i by omega];exact D2.frame _ _ _ e2 λb cT o e=>kb.extBut b o (λq=>D.CH (q▸cT)) e
   apply aa;apply aa;apply fk;apply aa;exact D2.done _ _ _ FT λhd e kd he=>hE hd tk e (λc o c1 c2 c3 c4 q=>kd _ _ c4 (kb.extBut _ _ c3 (k0 c o c1 q))) he
  ·have FV:S1 n1 h₀:=by rw[show n1=i by omega];exact e1
   exact D1.done _ _ _ FV λhd e kd he=>hE hd s.toks e (λc o c1 c2 c3 c4 q=>kd _ _ c3 (k0 c o c1 q)) he
end
theorem za0 (hit:s.heap.IsTupleIter it t i)(ht:s.heap.IsTuple t items)(hx:items[i]?=some x)
  (hQ:∀h',h'.IsTupleIter it t (i+1)->bu it s.heap h'->Q x {s with heap:=h'}):wpAny (model prog w) A (jk (.ref it)) Q E s:=by
 have ty:=hit.typeIs;obtain⟨⟨FW,zS,zT,wx⟩,ho,hc,hd⟩:=hit;obtain⟨⟨FX,zU,zV,wy⟩,to,tc,n,td⟩:=ht;cases hc;cases hd;cases tc;cases td;apply aa;refine e7 ty F.slot_tuple_iterator_next (jb F.slot_tuple_iterator_next ty F.entry_tuple_iterator_next ?_ (F.args_tuple_iterator_next_1 _));show wpAny _ _ (field (.ref it) 0>>=_) _ _ _;apply aa;refine dq ho rfl rfl ?_;apply aa;refine dq ho rfl rfl ?_;apply aa;refine jg to rfl ?_
 dsimp only
 rw[mo i,hx];apply aa;refine mr ho rfl (by simp) (aj ⟨x,rfl,aj (hQ _ ⟨_,d7 _ ho rfl,rfl,?_⟩ (ju _ _ _))⟩);rfl
theorem z4z {it t:Addr}{i:Nat}{items:Array Value}{Q:Value->aw->Prop}(hh:A.handled=none)(hit:s.heap.IsTupleIter it t i)(ht:s.heap.IsTuple t items)(hx:items[i]?=none)
  (hE:∀h' e,Heap.ExtBut it s.heap h'->(∃o,h'.get? e=some o/\o.cls=.type "StopIteration")->E (.ref e) {s with heap:=h'}):wpAny (model prog w) A (jk (.ref it)) Q E s:=by
 have ty:=hit.typeIs;obtain⟨⟨FW,zS,zT,wx⟩,ho,hc,hd⟩:=hit;obtain⟨⟨FX,zU,zV,wy⟩,to,tc,n,td⟩:=ht;cases hc;cases hd;cases tc;cases td;apply aa;refine e7 ty F.slot_tuple_iterator_next (jb F.slot_tuple_iterator_next ty F.entry_tuple_iterator_next ?_ (F.args_tuple_iterator_next_1 _));show wpAny _ _ (field (.ref it) 0>>=_) _ _ _;apply aa;refine dq ho rfl (x:=.ref t) rfl ?_;show wpAny _ _ (field (.ref it) 1>>=_) _ _ _;apply aa;refine dq ho rfl (x:=.int i 0) rfl ?_;apply aa;refine jg to rfl ?_;have ei:((i:Int)).toNat=i:=mo i
 dsimp only
 rw[ei,hx];apply aa;refine k8 ?_;apply aa;refine mr ho rfl (by simp) ?_
 delta mw
 repeat (any_goals (first|assumption|wp_step))
 refine n6 (show A.in1.handled=none from hh) ?_;refine hE _ _ (λb o hb e=>?_) ⟨_,au _ rfl,rfl⟩;refine af _ (af _ ?_);rw[n8 _ _ _ _ hb];exact e
theorem Ub (hh:A.handled=none)(it t:Addr)(fG:t≠it)(items:Array Value):Draws prog w A it [it,t] items.size (λi v=>items[i]?=some v) (λi h=>h.IsTupleIter it t i/\h.IsTuple t items) where
 live:=λi h st=>let⟨⟨o,ho,_⟩,_⟩:=st;⟨o,ho⟩
 frame:=λi h h' st k=>by obtain⟨⟨o,ho,r⟩,o2,ho2,r2⟩:=st;exact⟨⟨o,k it (by simp) o ho,r⟩,o2,k t (by simp) o2 ho2,r2⟩
 item:=λi s1 Q1 E1 hi st hQ=>by refine za0 st.1 st.2 (o7 hi) λh' h1 sb=>?_;obtain⟨o2,ho2,r2⟩:=st.2;exact hQ _ h' s1.toks (o7 hi) ⟨h1,o2,sb.extBut t o2 fG ho2,r2⟩ sb
 done:=λs Q E st hE=>z4z hh st.1 st.2 (Array.getElem?_eq_none (ag _)) hE
def IsB (h:Heap)(l:Bool)(a:Addr)(xs:Array Value):Prop:=match l with
 |true=>h.IsList a xs
 |false=>h.IsTuple a xs
def kL (h:Heap)(l:Bool)(it a:Addr)(i:Nat):Prop:=match l with
 |true=>h.IsListIter it a i
 |false=>h.IsTupleIter it a i
def hW (K:W.Frag)(H:Hp)(l:Bool)(a:Addr)(vs:List V):Prop:=match l with
 |true=>SqL K H a vs
 |false=>cS K H a vs
def pW (K:W.Frag)(H:Hp)(B:Ad->Prop)(l:Bool)(a:Addr)(vs:List V):Prop:=match l with
 |true=>(H a=some (.lst vs)/\B (some a))\/(FL K H a vs/\B none)
 |false=>cS K H a vs
abbrev cZ (l:Bool)(a:Addr):Obj:={cls:=.type (if l then "list_iterator"else "tuple_iterator"),data:=.fields #[.ref a,.int 0 0]}
theorem pW.keep {K:W.Frag}(h:pW K H B l a vs)(k:Kp B H H2):hW K H2 l a vs:=by
 cases l with
 |true=>
  rcases h with⟨h,b⟩|⟨⟨o,h⟩|h,_⟩
  ·exact .inl (.inl (k a _ h (.inl b)))
  ·exact .inl (.inr ⟨o,k a _ h (.inr True.intro)⟩)
  ·exact .inr h
 |false=>exact cS.keep k h
theorem pW.of {K:W.Frag}(r:Rep K H B v d)(e:seqR d=.ok xs):∃l a vs,v=.ref a/\pW K H B l a vs/\aD K H B vs xs/\xs.length<=LIM:=by
 cases d<;>try (exact(dR e).elim)
 case list ds=>
  have e:(if decide (ds.length<=LIM)=true then Res.ok ds else Res.no)=Res.ok xs:=e;split at e
  ·rename_i hc;cases e;obtain⟨a,vs,rfl,h,rs⟩:=r;exact⟨true,a,vs,rfl,h,rs,wc hc⟩
  ·cases e
 case tuple ds=>
  have e:(if decide (ds.length<=LIM)=true then Res.ok ds else Res.no)=Res.ok xs:=e;split at e
  ·rename_i hc;cases e;obtain⟨a,vs,rfl,h,rs⟩:=r;exact⟨false,a,vs,rfl,h,rs,wc hc⟩
  ·cases e
theorem hW.items (I:Inv X pins U H s)(h:hW X.K H l a vs):∃its,Vals vs its/\IsB s.heap l a its.toArray/\vs.length=its.length:=by
 cases l with
 |true=>obtain⟨its,rv,p,_⟩:=I.list h;exact⟨its,rv,p.isList,rv.length⟩
 |false=>obtain⟨its,rv,p,_⟩:=I.tuple h;exact⟨its,rv,p,rv.length⟩
theorem x5 (hh:A.handled=none)(l:Bool)(it a:Addr)(fG:a≠it)(items:Array Value):Draws prog w A it [it,a] items.size (λi v=>items[i]?=some v) (λi h=>kL h l it a i/\IsB h l a items):=by
 cases l with
 |true=>exact Draws.list hh it a fG items
 |false=>exact Ub hh it a fG items
theorem kL.live (x:kL h l it a i):∃o,h.get? it=some o/\∀v,o.data≠.cell v:=by cases l<;>(obtain⟨o,ho,_,hd⟩:=x;exact⟨o,ho,λv z=>by rw[hd]at z;cases z⟩)
theorem kL.keep (x:kL h l it a i)(k:∀o,h.get? it=some o->h'.get? it=some o):kL h' l it a i:=by cases l<;>(obtain⟨o,ho,r⟩:=x;exact⟨o,k o ho,r⟩)
theorem kL.new (x:h.get? it=some (cZ l a)):kL h l it a 0:=by cases l<;>exact⟨_,x,rfl,rfl⟩
theorem IsB.lt (x:IsB h l a xs):a<h.objs.size:=by cases l<;>(obtain⟨o,ho,_⟩:=x;exact bc ho)
theorem IsB.push (x:IsB h l a xs)(o:Obj):IsB (h.push o) l a xs:=by cases l<;>(obtain⟨q,hq,r⟩:=x;exact⟨q,af _ hq,r⟩)
theorem CJ (h:IsB s.heap l a xs)(hQ:Q (.ref s.heap.objs.size) {s with heap:=s.heap.push (cZ l a)}):wpAny (model prog w) A (tu (.ref a)) Q E s:=by
 cases l with
 |true=>exact mf h hQ
 |false=>exact lw h hQ
theorem _root_.L2.Inv.turnedTL {fp:List Addr}(I:Inv X pins U H s)(f:∀b∈fp,FpOk X pins H b)(keep:∀b q,b∉fp->s.heap.get? b=some q->h'.get? b=some q)(hp:s.heap.objs.size<=p)
  (new:z1j X.prog X.w (upd H p (.tup xs)) h' p (.tup xs)):Inv X pins U (upd H p (.tup xs)) {s with heap:=h',toks:=t'}:=by
 have hn:=I.hok.fresh hp;have away:∀b u,H b=some u->b∉fp:=λb u e1 z=>by rw[(f b z).1]at e1;cases e1
 refine I.step (λb hb=>?_) (λb q _ _ hc e _=>keep b q hc e) (λb q _ _ hc e _=>⟨q.slots,keep b q hc e⟩) (λb q _ e n=>by rw[aK (bz (b9 (bc e) hp))];exact n) (λb q hc e=>⟨q,keep b q hc e⟩) (λb xs q=>by rw[aK (iU q hn)];exact q) (λb u xs q=>by rw[aK (iU q hn)];exact q) (λb ps q=>⟨#[],by rw[aK (iU q hn),q];simp⟩) (λm hm=>?_) (λb u e=>?_) I.bare
 ·obtain⟨f0,f1,f2,f3,f4,f5⟩:=f b hb;exact⟨f3,f1,f4,f5⟩
 ·exact hm.at λq e=>keep _ q (λz=>(f _ z).2.1 rfl) e
 ·by_cases hb:b=p
  ·subst hb;rw[bC]at e;cases e;exact new
  ·rw[aK hb]at e;refine(I.hok b u e).stay (λc v hc q=>keep c v ?_ q) (λc q=>by rw[aK (iU q hn)];exact q) λc xs q=>by rw[aK (iU q hn)];exact q
   rcases hc with rfl|hc
   ·exact away _ _ e
   ·exact away _ _ hc
theorem _root_.L2.Inv.gY {fp:List Addr}(I:Inv X pins U H s)(f:∀b∈fp,FpOk X pins H b)(keep:∀b q,b∉fp->s.heap.get? b=some q->h'.get? b=some q):Inv X pins U H {s with heap:=h',toks:=t'}:=by
 have away:∀b u,H b=some u->b∉fp:=λb u e1 z=>by rw[(f b z).1]at e1;cases e1
 refine I.step (λb hb=>?_) (λb q _ _ hc e _=>keep b q hc e) (λb q _ _ hc e _=>⟨q.slots,keep b q hc e⟩) (λb q _ e n=>n) (λb q hc e=>⟨q,keep b q hc e⟩) (λb xs q=>q) (λb u xs q=>q) (λb ps q=>⟨#[],by rw[q];simp⟩) (λm hm=>?_) (λb u e=>?_) I.bare
 ·obtain⟨f0,f1,f2,f3,f4,f5⟩:=f b hb;exact⟨f3,f1,f4,f5⟩
 ·exact hm.at λq e=>keep _ q (λz=>(f _ z).2.1 rfl) e
 ·refine(I.hok b u e).stay (λc v hc q=>keep c v ?_ q) (λc q=>q) λc xs q=>q;rcases hc with rfl|hc
  ·exact away _ _ e
  ·exact away _ _ hc
theorem FY (rv:Vals vs its)(hi:i<vs.length)(hx:its.toArray[i]?=some x):∃v,vs[i]?=some v/\RelV v x:=by
 refine⟨vs[i],bn hi,?_⟩;obtain⟨u,e1,e2⟩:=rv.get (bn hi);have FZ:its[i]?=some x:=by simpa using hx
 rw[FZ]at e1;cases e1;exact e2
def F6 (K:W.Frag)(l:Bool)(t:Addr)(vs:List V):It:=⟨λi H=>hW K H l t vs/\i<vs.length,λi H x H'=>∃p v,vs[i]?=some v/\H p=none/\x=.ref p/\H'=upd H p (.tup [.int i,v]),λi H=>hW K H l t vs/\i=vs.length⟩
theorem zds {K:W.Frag}(h1:t≠it)(h2:t≠e)(h3:e≠it):
  Turn P w K (.Tuple elts x1 pos) (F6 K l t vs) [e,it] e (λi h=>(∃old,IsEnum h e it i old)/\kL h l it t i) where
 mem:=by simp
 obj:=λi h st b hb=>by
  obtain⟨⟨old,he⟩,hit⟩:=st;rcases(ao.mp hb)with rfl|hb
  ·exact⟨_,he,λv z=>by cases z⟩
  ·obtain rfl:b=it:=by simpa using hb
   exact hit.live
 keep:=λi h h' st k=>by obtain⟨⟨old,he⟩,hit⟩:=st;exact⟨⟨old,k e (by simp) _ he⟩,hit.keep λo=>k it (by simp) o⟩
 item:=by
  intro X hP hw hK hc i pins s U H E I hf st hg;subst hP hw hK;obtain⟨hq,hi⟩:=hg;obtain⟨⟨old,he⟩,hit⟩:=st;obtain⟨its,rv,p,hl⟩:=hW.items I hq;have hA:X.A.in1.handled=none:=I.ok.hd hc;have D:=x5 (prog:=X.prog) (w:=X.w) hA l it t h1 its.toArray;obtain⟨oi,Uc,_⟩:=hit.live;refine p8 D he ⟨hit,p⟩ (by simp;omega) h3 (by simp[h3,Ne.symm h2]) λx h' tk hx wz hst wB uW kp=>⟨_,rfl,?_⟩;have hT:s.heap.objs.size≠e/\s.heap.objs.size≠it:=⟨λz=>cw _ (z▸bc he),λz=>cw _ (z▸bc Uc)⟩;refine(WalksT.enumerateD D e h3 (by simp[h3,Ne.symm h2]) (by simp)).go elts x1 pos i s.heap.objs.size {s with heap:=h',toks:=tk+1} _ _ ⟨⟨x,wz⟩,hst,hT.1,hT.2⟩ λLP oR zW=>?_;have wC:s.heap.objs.size∉ [e,it]:=by simp[hT.1,hT.2]
  obtain⟨v,hv,rx⟩:=FY rv hi hx;have I1:=I.turnedTL (t':=tk+1) (xs:=[.int i,v]) hf (λb q hb z=>zW b q hb (kp b q (λz=>hb (by simp[z])) (λz=>hb (by simp[z])) z)) (ag _) ⟨by rw[cg];simp,[.int i tk,x],.cons ⟨tk,rfl⟩ (.cons rx .nil),0,(zW s.heap.objs.size _ wC wB)⟩;refine⟨.ref s.heap.objs.size,_,I1,rfl,⟨_,v,hv,I.hok.fresh (ag _),rfl,rfl⟩,⟨oR.1,oR.2.1⟩,λb hb=>?_⟩;rw[aK λz:b=s.heap.objs.size=>wC (by rw[<-z];exact hb)];exact(hf b hb).1
 done:=by intro X hP hw hK hc i pins s U H E I hf st hg;subst hP hw hK;obtain⟨hq,hi⟩:=hg;obtain⟨⟨old,he⟩,hit⟩:=st;obtain⟨its,rv,p,hl⟩:=hW.items I hq;have hA:X.A.in1.handled=none:=I.ok.hd hc;exact qh (x5 (prog:=X.prog) (w:=X.w) hA l it t h1 its.toArray) he ⟨by rw[az,<-hl,<-hi];exact hit,p⟩ λh' eb=>⟨rfl,I.gY hf λb o hb z=>eb b o (λq=>hb (by simp[q])) z⟩
 self:=λ_ _ _ _ _ st h=>by obtain⟨⟨old,he⟩,_⟩:=st;exact mx he h
theorem F7:∀xs (k i:Nat),(z0o k xs)[i]?=(xs[i]?).map λx=>.tuple [.int ((k+i:Nat):Int),x]
 | [],k,i=>by simp[z0o]
 |x::xs,k,0=>by simp[z0o]
 |x::xs,k,i+1=>by
  rw[z0o,j5,j5,F7 xs (k+1) i];have:k+1+i=k+(i+1):=by omega
  rw[this]
theorem tQ:∀xs k,(z0o k xs).length=xs.length
 | [],_=>rfl
 |x::xs,k=>by rw[z0o,ay,ay,tQ xs]
theorem Ud {K:W.Frag}(hq:pW K H B l t vs)(rs:aD K H B vs xs)(hz:xs.length<=ba):Walk K (F6 K l t vs) B H (z0o 0 xs):=by
 have hl:=rs.length;constructor
 ·rw[tQ];exact hz
 ·intro H2 kp i h;rw[tQ]at h;exact⟨hq.keep kp,by omega⟩
 ·intro H2 kp;exact⟨hq.keep kp,by rw[tQ];exact hl.symm⟩
 ·rintro H2 kp i x H3 h ⟨p,v,hv,hp,rfl,rfl⟩
  obtain⟨d,hd,rv⟩:=aD.lM rs hv;refine⟨Same.upd hp,.tuple [.int i,d],by rw[F7,hd];simp,p,[.int i,v],rfl,cS.of bC,?_⟩;refine aD.cons rfl (aD.cons ?_ rfl);exact Rep.keep (λa q e f=>by have h2:=kp a q e f;rw[aK (iU h2 hp)];exact h2) (λ_ z=>z) d rv
theorem z9h (l:Bool)(t:Addr)(items:Array Value):Meets (Builtin.«enumerate.__new__» {pos:=[.type "enumerate",.ref t]}) fun _ R s=>
  IsB s.heap l t items/\R (.ok (.ret (.ref (s.heap.push (cZ l t)).objs.size))) {s with heap:=(s.heap.push (cZ l t)).push {cls:=.type "enumerate",data:=.fields #[.none,.bool false,.ref s.heap.objs.size,fg 0,.none,.none]}}:=by
 rintro prog w A R s ⟨ht,hR⟩
 have sub:=sub_enumerate
 delta Builtin.«enumerate.__new__»
 repeat (any_goals (first|assumption|(apply CJ ht)|wp_step))
 refine wpAny_stack λst _ _ _=>?_;refine jc (Q:=λ_ s'=>s'=s) (aj rfl) (λb s' hs=>?_) λ_ _ x=>x;subst hs;cases b
 all_goals repeat (any_goals (first|assumption|(apply CJ ht)|wp_step))
 all_goals exact hR
theorem zf0 (ht:IsB s.heap l t items)
  (hQ:Q (.ref (s.heap.push (cZ l t)).objs.size) {s with heap:=(s.heap.push (cZ l t)).push {cls:=.type "enumerate",data:=.fields #[.none,.bool false,.ref s.heap.objs.size,fg 0,.none,.none]}}):wpAny (model prog w) A (call (.type "enumerate") [.ref t]) Q E s:=by
 refine ut F.called_enumerate (by decide) (F.typeCall_enumerate_1 _) (F.newCall_enumerate_1 _) (λobj=>?_) F.entry_enumerate_new (z9h l t items) ⟨ht,⟨_,au _ rfl,rfl⟩,hQ⟩;exact F.args_object_init_2 _ _
theorem z5z (I1:Inv X pins U H1 s1)(r1:RelV y v)(rv:Rep X.K H1 B y d)(e:seqR d=.ok xs)(q:∀J,Walk X.K J B H1 (z0o 0 xs)->R J H1):
  wpAny (model X.prog X.w) X.A (call (.type "enumerate") [v]) (λv' s2=>wpAny (model X.prog X.w) X.A (tu v') (uR X pins U (.Tuple elts x1 tp) R) X.xe s2) X.xe s1:=by
 obtain⟨l,t,ts,rfl,hq,Ue,hz⟩:=pW.of rv e;cases r1;obtain⟨its,ZU,pt,_⟩:=hW.items I1 (hq.keep (Kp.of (Same.refl H1)));refine zf0 pt ?_;generalize hR:s1.heap.push (cZ l t)=hp;have LQ:hp.objs.size=s1.heap.objs.size+1:=by rw[<-hR];exact oy _ _
 have I2:Inv X pins U H1 {s1 with heap:=hp}:=I1.kept λb o e=>hR▸af _ e;generalize wD:hp.push {cls:=.type "enumerate",data:=.fields #[.none,.bool false,.ref s1.heap.objs.size,fg 0,.none,.none]}=jH;have I3:Inv X pins U H1 {s1 with heap:=jH}:=I2.kept λb o e=>wD▸af _ e;have g1:jH.get? hp.objs.size=some {cls:=.type "enumerate",data:=.fields #[.none,.bool false,.ref s1.heap.objs.size,fg 0,.none,.none]}:=by rw[<-wD];exact au _ rfl
 have g2:jH.get? s1.heap.objs.size=some (cZ l t):=by rw[<-wD];refine af _ ?_;rw[<-hR];exact au _ rfl
 have ht:=pt.lt;refine mx g1 (⟨hp.objs.size,[hp.objs.size,s1.heap.objs.size],_,F6 X.K l t ts,H1,rfl,I3,zds (bz ht) (bz (oj ht (by rw[LQ];exact lg _))) (by rw[LQ];exact Nat.succ_ne_self _),⟨⟨.none,g1⟩,kL.new g2⟩,λb hb=>?_,q _ (Ud hq Ue (mR hz))⟩);rcases(ao.mp hb)with rfl|hb
 ·exact I2.fL (ag _) (I2.hok.fresh (ag _))
 ·obtain rfl:b=s1.heap.objs.size:=by simpa using hb
  exact I1.fL (ag _) (I1.hok.fresh (ag _))
def LR (K:W.Frag)(l1:Bool)(a1:Addr)(vs:List V)(l2:Bool)(a2:Addr)(ws:List V):It:=⟨λi H=>hW K H l1 a1 vs/\hW K H l2 a2 ws/\i<min vs.length ws.length,λi H x H'=>∃p v w,vs[i]?=some v/\ws[i]?=some w/\H p=none/\x=.ref p/\H'=upd H p (.tup [v,w]),λi H=>hW K H l1 a1 vs/\hW K H l2 a2 ws/\i=min vs.length ws.length⟩
def LS (z TI TO i1 i2:Addr)(l1:Bool)(a1:Addr)(l2:Bool)(a2:Addr)(i:Nat)(h:Heap):Prop:=(∃f0 f1,ZF f0/\h.get? z=some (ZRec TI TO f0 f1))/\PairAt h TI (.ref i1) (.ref i2)/\(∃a b,PairAt h TO a b)/\kL h l1 i1 a1 i/\kL h l2 i2 a2 i
theorem zq8 {TI TO:Addr}(ht:(isTup tg||isNm tg)=true)(hf:ZF f0)(hz:s.heap.get? z=some (ZRec TI TO f0 f1))
  (hQ:∀h' oQ,ZF oQ->h'.get? z=some (ZRec TI TO oQ f1)->bu z s.heap h'->Q () {s with heap:=h'}):wpAny (model prog w) A (kj tg (.ref z) (.ref T)) Q E s:=by
 cases tg<;>first|(cases ht;done)|exact aj (hQ s.heap f0 hf hz (Heap.SameBut.refl ..))|skip
 delta kj
 apply aa;refine vj hz ?_;show wpAny _ _ (if(_&&(f0::_:List Value).toArray[0]?==some (fg T))=true then _ else _) Q E s;by_cases hc:(some f0==some (fg T))=true
 ·rw[vy (by simpa using hc)];apply aa;exact k8 (gb hz (by simp) λh' zM sb=>hQ h' .none (.inl rfl) zM sb)
 ·rw[vz (by simpa using hc)];exact aj (hQ s.heap f0 hf hz (Heap.SameBut.refl ..))
theorem zfp {TI TO:Addr}(D:ZApart z TI TO i1 i2 p1 p2)(D1:Draws prog w A.in1 i1 p1 n1 P1 S1)(D2:Draws prog w A.in1 i2 p2 n2 P2 S2)(hf:ZF f0)(hz:s.heap.get? z=some (ZRec TI TO f0 f1))(hTI:PairAt s.heap TI (.ref i1) (.ref i2))(hTO:PairAt s.heap TO a b)(h1:S1 i s.heap)(h2:S2 i s.heap)(l1:i<n1)(l2:i<n2)
  (hQ:∀x y h' tk oQ iZ a' b',P1 i x->P2 i y->ZF oQ->h'.get? z=some (ZRec TI TO oQ iZ)->PairAt h' TO a' b'->S1 (i+1) h'->S2 (i+1) h'->PairAt h' s.heap.objs.size x y->Zk z TO i1 i2 s.heap h'->Q (some (.ref s.heap.objs.size)) {s with heap:=h',toks:=tk}):wpAny (model prog w) A (u5 (.ref z)) Q E s:=by
 have ty:s.TypeIs (.ref z) "zip":=⟨_,hz,rfl⟩
 delta u5
 apply aa;apply wpAny_attempt;refine e7 ty F.slot_zip_next (jb F.slot_zip_next ty F.entry_zip_next ?_ (F.args_zip_next_1 _));exact zg8 D D1 D2 hf hz hTI hTO h1 h2 l1 l2 λx y h' tk oQ iZ a' b' c1 c2 c3 c4 c5 c6 c7 c8 c9=>aj (hQ x y h' tk oQ iZ a' b' c1 c2 c3 c4 c5 c6 c7 c8 c9)
theorem zex {TI TO:Addr}(D:ZApart z TI TO i1 i2 p1 p2)(D1:Draws prog w A.in1 i1 p1 n1 P1 S1)(D2:Draws prog w A.in1 i2 p2 n2 P2 S2)(hf:ZF f0)(hz:s.heap.get? z=some (ZRec TI TO f0 f1))(hTI:PairAt s.heap TI (.ref i1) (.ref i2))(hTO:PairAt s.heap TO a b)(h1:S1 i s.heap)(h2:S2 i s.heap)(hl:i=min n1 n2)
  (hQ:∀h' tk,Zk z TO i1 i2 s.heap h'->Q none {s with heap:=h',toks:=tk}):wpAny (model prog w) A (u5 (.ref z)) Q E s:=by
 have ty:s.TypeIs (.ref z) "zip":=⟨_,hz,rfl⟩
 delta u5
 apply aa;apply wpAny_attempt;refine e7 ty F.slot_zip_next (jb F.slot_zip_next ty F.entry_zip_next ?_ (F.args_zip_next_1 _));refine zii D D1 D2 hf hz hTI hTO h1 h2 hl λh' tk e kp he=>?_;obtain⟨o,ho,hc⟩:=he;apply aa;exact wpAny_isInstance ⟨o,ho,hc⟩ isSubtype_stop (aj (hQ _ _ kp))
theorem zfm {K:W.Frag}{TI TO:Addr}(ht:(isTup tg||isNm tg)=true)(D:ZApart z TI TO i1 i2 [i1,a1] [i2,a2])(n1:a1≠i1)(n2:a2≠i2):
  Turn P w K tg (LR K l1 a1 vs l2 a2 ws) [z,TI,TO,i1,i2] z (LS z TI TO i1 i2 l1 a1 l2 a2) where
 mem:=by simp
 obj:=λi h st b hb=>by
  obtain⟨⟨f0,f1,_,hz⟩,hTI,⟨a,c,hTO⟩,h1,h2⟩:=st;simp at hb;rcases hb with rfl|rfl|rfl|rfl|rfl
  ·exact⟨_,hz,λv q=>by cases q⟩
  ·exact⟨_,hTI,λv q=>by cases q⟩
  ·exact⟨_,hTO,λv q=>by cases q⟩
  ·exact h1.live
  ·exact h2.live
 keep:=λi h h' st k=>by obtain⟨⟨f0,f1,hf,hz⟩,hTI,⟨a,c,hTO⟩,h1,h2⟩:=st;exact⟨⟨f0,f1,hf,k z (by simp) _ hz⟩,k TI (by simp) _ hTI,⟨a,c,k TO (by simp) _ hTO⟩,h1.keep λo=>k i1 (by simp) o,h2.keep λo=>k i2 (by simp) o⟩
 item:=by
  intro X hP hw hK hc i pins s U H E I hf st hg;subst hP hw hK;obtain⟨F8,F9,hi⟩:=hg;obtain⟨⟨f0,f1,zf,hz⟩,hTI,⟨a,c,hTO⟩,h1,h2⟩:=st;obtain⟨oS,rv1,b1,e1⟩:=hW.items I F8;obtain⟨dG,rv2,b2,e2⟩:=hW.items I F9;have hA:X.A.in1.handled=none:=I.ok.hd hc;refine zfp D (x5 (prog:=X.prog) (w:=X.w) hA l1 i1 a1 n1 oS.toArray) (x5 (prog:=X.prog) (w:=X.w) hA l2 i2 a2 n2 dG.toArray) zf hz hTI hTO ⟨h1,b1⟩ ⟨h2,b2⟩ (by rw[az];omega) (by rw[az];omega) λx y h' tk oQ iZ a' b' hx hy Ug zM Ga tR qI new kp=>⟨_,rfl,?_⟩;refine zq8 ht Ug zM λLP Gb Ge Gf sb=>?_;have lt:∀{c o},s.heap.get? c=some o->s.heap.objs.size≠c:=λe q=>cw _ (q▸bc e);obtain⟨o1,Uh,_⟩:=h1.live;obtain⟨o2,ho2,_⟩:=h2.live;have wC:s.heap.objs.size∉ [z,TI,TO,i1,i2]:=by simp[lt hz,lt hTI,lt hTO,lt Uh,lt ho2]
  have up:=λc o hc e=>sb.extBut c o hc e;obtain⟨v,hv,rx⟩:=FY rv1 (by omega) hx;obtain⟨u,hu,ry⟩:=FY rv2 (by omega) hy;have I1:=I.turnedTL (t':=tk) hf (λb q hb e=>up b q (λq=>hb (by simp[q])) (kp b q (λq=>hb (by simp[q])) (λq=>hb (by simp[q])) (λq=>hb (by simp[q])) (λq=>hb (by simp[q])) e)) (ag _) ⟨by rw[cg];simp,[x,y],.cons rx (.cons ry .nil),0,(up _ _ (lt hz) new)⟩;refine⟨.ref s.heap.objs.size,_,I1,rfl,⟨_,v,u,hv,hu,I.hok.fresh (ag _),rfl,rfl⟩,⟨⟨Gb,iZ,Ge,Gf⟩,up _ _ D.TIz (kp _ _ D.TIz D.TITO D.TIi1 D.TIi2 hTI),⟨a',b',up _ _ D.TOz Ga⟩,tR.1.keep λo=>up _ o D.i1z,qI.1.keep λo=>up _ o D.i2z⟩,λb hb=>?_⟩;rw[aK λq:b=s.heap.objs.size=>wC (by rw[<-q];exact hb)];exact(hf b hb).1
 done:=by intro X hP hw hK hc i pins s U H E I hf st hg;subst hP hw hK;obtain⟨F8,F9,hi⟩:=hg;obtain⟨⟨f0,f1,zf,hz⟩,hTI,⟨a,c,hTO⟩,h1,h2⟩:=st;obtain⟨oS,rv1,b1,e1⟩:=hW.items I F8;obtain⟨dG,rv2,b2,e2⟩:=hW.items I F9;have hA:X.A.in1.handled=none:=I.ok.hd hc;refine zex D (x5 (prog:=X.prog) (w:=X.w) hA l1 i1 a1 n1 oS.toArray) (x5 (prog:=X.prog) (w:=X.w) hA l2 i2 a2 n2 dG.toArray) zf hz hTI hTO ⟨h1,b1⟩ ⟨h2,b2⟩ (by rw[az,az];omega) λh' tk kp=>⟨rfl,I.gY hf λb q hb e=>?_⟩;exact kp b q (λq=>hb (by simp[q])) (λq=>hb (by simp[q])) (λq=>hb (by simp[q])) (λq=>hb (by simp[q])) e
 self:=λ_ _ _ _ _ st h=>by obtain⟨⟨f0,f1,_,hz⟩,_⟩:=st;have ty:Shared.TypeIs _ (.ref z) "zip":=⟨_,hz,rfl⟩;refine wpAny_pyIter_slot ty F.slot_zip_iter (jb F.slot_zip_iter ty F.entry_zip_iter ?_ (F.args_zip_iter_1 _));exact aj ⟨_,rfl,"zip",_,ty,F.slot_zip_next.lookup,h⟩
theorem LU:∀xs ys (i:Nat) {x y:D},xs[i]?=some x->ys[i]?=some y->(zipD xs ys)[i]?=some (.tuple [x,y])
 |x::xs,y::ys,0,_,_,h1,h2=>by cases h1;cases h2;rfl
 |x::xs,y::ys,i+1,_,_,h1,h2=>LU xs ys i h1 h2
 | [],_,i,_,_,h1,_=>by simp at h1
 |_::_,[],i,_,_,_,h2=>by simp at h2
theorem CK:∀xs ys,(zipD xs ys).length=min xs.length ys.length
 | [],_=>by simp[zipD]
 |_::_,[]=>by simp[zipD]
 |x::xs,y::ys=>by show(zipD xs ys).length+1=min (xs.length+1) (ys.length+1);rw[CK xs ys];omega
theorem Ui {K:W.Frag}(h1:pW K H B l1 a1 vs)(h2:pW K H B l2 a2 ws)(r1:aD K H B vs xs)(r2:aD K H B ws ys)(hz:xs.length<=ba):Walk K (LR K l1 a1 vs l2 a2 ws) B H (zipD xs ys):=by
 have e1:=r1.length;have e2:=r2.length;constructor
 ·rw[CK];omega
 ·intro H2 kp i h;rw[CK]at h;exact⟨h1.keep kp,h2.keep kp,by omega⟩
 ·intro H2 kp;exact⟨h1.keep kp,h2.keep kp,by rw[CK];omega⟩
 ·rintro H2 kp i x H3 h ⟨p,v,u,hv,hu,hp,rfl,rfl⟩
  obtain⟨d,hd,rv⟩:=aD.lM r1 hv;obtain⟨d',mH,oK⟩:=aD.lM r2 hu;have kk:∀a q,H a=some q->(B (some a)\/Fix q)->upd H2 p (.tup [v,u]) a=some q:=λa q e f=>by have h2:=kp a q e f;rw[aK (iU h2 hp)];exact h2
  exact⟨Same.upd hp,.tuple [d,d'],LU xs ys i hd mH,p,[v,u],rfl,cS.of bC,aD.cons (Rep.keep kk (λ_ z=>z) d rv) (aD.cons (Rep.keep kk (λ_ z=>z) d' oK) rfl)⟩
theorem zal (l1 l2:Bool)(a1 a2:Addr)(xs ys:Array Value):Meets (Builtin.«zip.__new__» ⟨[.type "zip",.ref a1,.ref a2],[]⟩) fun _ R s=>IsB s.heap l1 a1 xs/\IsB s.heap l2 a2 ys/\
  ∀h1 h2 h3 h4 h5,h1=s.heap.push (cZ l1 a1)->h2=h1.push (cZ l2 a2)->h3=h2.push {cls:=.type "tuple",data:=.seq #[.ref s.heap.objs.size,.ref h1.objs.size]}->h4=h3.push {cls:=.type "tuple",data:=.seq #[.none,.none]}->h5=h4.push {cls:=.type "zip",data:=.fields #[.none,.bool false,.bool false,.ref h2.objs.size,.ref h3.objs.size]}->R (.ok (.ret (.ref h4.objs.size))) {s with heap:=h5}:=by
 rintro prog w A R s ⟨b1,b2,hR⟩
 have sub:=sub_zip;obtain⟨hp,gs,dp,tk,os⟩:=s;have c1:IsB (Shared.heap ⟨hp,gs,dp,tk,os⟩) l1 a1 xs:=b1;have c2:IsB (Shared.heap ⟨hp.push (cZ l1 a1),gs,dp,tk,os⟩) l2 a2 ys:=b2.push _
 wp_walk using CJ c1,CJ c2
 exact hR _ _ _ _ _ rfl rfl rfl rfl rfl
theorem z86 (ht:(isTup tg||isNm tg)=true)(I1:Inv X pins U H1 s1)(r1:RelV y1 u1)(r2:RelV y2 u2)(rv1:Rep X.K H1 B y1 d1)(rv2:Rep X.K H1 B y2 d2)(e1:seqR d1=.ok xs)(e2:seqR d2=.ok ys)(q:∀J,Walk X.K J B H1 (zipD xs ys)->R J H1):
  wpAny (model X.prog X.w) X.A (call (.type "zip") [u1,u2]) (λv' s2=>wpAny (model X.prog X.w) X.A (tu v') (uR X pins U tg R) X.xe s2) X.xe s1:=by
 obtain⟨l1,a1,vs,rfl,q1,w1,z1⟩:=pW.of rv1 e1;obtain⟨l2,a2,ws,rfl,q2,w2,z2⟩:=pW.of rv2 e2;cases r1;cases r2;obtain⟨oS,_,b1,_⟩:=hW.items I1 (q1.keep (Kp.of (Same.refl H1)));obtain⟨dG,_,b2,_⟩:=hW.items I1 (q2.keep (Kp.of (Same.refl H1)));refine ut F.called_zip (by decide) (F.typeCall_zip_2 _ _) (F.newCall_zip_2 _ _) (λobj=>F.args_object_init_3 obj _ _) F.entry_zip_new (zal l1 l2 a1 a2 oS.toArray dG.toArray) ⟨b1,b2,?_⟩;intro h1 h2 h3 h4 h5 k1 k2 k3 k4 k5;have CL:h1.objs.size=s1.heap.objs.size+1:=by rw[k1];exact oy _ _
 have Gh:h2.objs.size=s1.heap.objs.size+2:=by rw[k2,oy,CL]
 have Gi:h3.objs.size=s1.heap.objs.size+3:=by rw[k3,oy,Gh]
 have LV:h4.objs.size=s1.heap.objs.size+4:=by rw[k4,oy,Gi]
 have p2:∀b o,h1.get? b=some o->h2.get? b=some o:=λb o e=>by rw[k2];exact af _ e
 have p3:∀b o,h2.get? b=some o->h3.get? b=some o:=λb o e=>by rw[k3];exact af _ e
 have p4:∀b o,h3.get? b=some o->h4.get? b=some o:=λb o e=>by rw[k4];exact af _ e
 have p5:∀b o,h4.get? b=some o->h5.get? b=some o:=λb o e=>by rw[k5];exact af _ e
 have I5:Inv X pins U H1 {s1 with heap:=h5}:=I1.kept λb o e=>p5 b o (p4 b o (p3 b o (p2 b o ((λb o e=>by rw[k1];exact af _ e) b o e))));have g5:h5.get? h4.objs.size=some (ZRec h2.objs.size h3.objs.size .none false):=by rw[k5];exact au _ rfl
 have t1:=b1.lt;have t2:=b2.lt;have Da:ZApart h4.objs.size h2.objs.size h3.objs.size s1.heap.objs.size h1.objs.size [s1.heap.objs.size,a1] [h1.objs.size,a2]:=by have nn:∀{i j:Nat},i≠j->s1.heap.objs.size+i≠s1.heap.objs.size+j:=λh z=>h (Nat.add_left_cancel z);have n0:∀{j:Nat},0≠j->s1.heap.objs.size≠s1.heap.objs.size+j:=λh=>nn h;have no:∀{x y z:Addr},x≠y->x≠z->x∉ [y,z]:=λh1 h2 h=>(ao.mp h).elim h1 λq=>h2 (av.mp q);have na:∀{a:Addr} {j:Nat},a<s1.heap.objs.size->s1.heap.objs.size+j≠a:=λh z=>cw _ (b9 h (z▸lh _ _));rw[CL,Gh,Gi,LV];exact⟨nn (by decide),nn (by decide),n0 (by decide),nn (by decide),nn (by decide),(n0 (by decide)).symm,nn (by decide),(n0 (by decide)).symm,nn (by decide),n0 (by decide),no (n0 (by decide)).symm (na t1),no (n0 (by decide)).symm (na t1),no (n0 (by decide)).symm (na t1),no (nn (by decide)) (na t2),no (nn (by decide)) (na t2),no (n0 (by decide)) (na (j:=0) t2)⟩
 have T:=zfm (P:=X.prog) (w:=X.w) (K:=X.K) (l1:=l1) (l2:=l2) (vs:=vs) (ws:=ws) ht Da (bz t1) (by rw[CL];exact bz (mj t2));have St:LS h4.objs.size h2.objs.size h3.objs.size s1.heap.objs.size h1.objs.size l1 a1 l2 a2 0 h5:=⟨⟨.none,false,.inl rfl,g5⟩,p5 _ _ (p4 _ _ (by rw[k3];exact au _ rfl)),⟨_,_,(p5 _ _ (by rw[k4];exact au _ rfl))⟩,kL.new (p5 _ _ (p4 _ _ (p3 _ _ (p2 _ _ (by rw[k1];exact au _ rfl))))),kL.new (p5 _ _ (p4 _ _ (p3 _ _ (by rw[k2];exact au _ rfl))))⟩;refine⟨⟨_,g5,rfl⟩,T.self _ 0 _ _ _ St ⟨h4.objs.size,_,_,_,H1,rfl,I5,T,St,λb hb=>?_,q _ (Ui q1 q2 w1 w2 (mR z1))⟩⟩
 have LW:s1.heap.objs.size<=b:=by
  rw[CL,Gh,Gi,LV]at hb;simp at hb;rcases hb with rfl|rfl|rfl|rfl|rfl
  ·exact lh _ _
  ·exact lh _ _
  ·exact lh _ _
  ·exact ag _
  ·exact lh _ _
 exact I1.fL LW (I1.hok.fresh LW)
section
variable {fa fb:Rho->Res GD}
theorem Gj:db "enumerate"=some (.type "enumerate"):=by decide+kernel
theorem LX:db "zip"=some (.type "zip"):=by decide+kernel
theorem Gk (hs:isStar a=false)(ha:PE X a (tD X.K fa)):PA X [a] (tDA X.K λY=>fa Y>>=λx=>.ok [x]):=by refine PA.imp (Fv hs ha La) λU H Q ⟨Y,F,z,so,e,q⟩=>⟨Y,F,z,so,?_,q⟩;obtain⟨x,e1,e⟩:=Res.aA e;show(fa Y>>=λx=>Res.ok []>>=λxs=>Res.ok (x::xs))=_;rw[e1];exact e
theorem LY (hs:isStar a=false)(hs2:isStar b=false)(ha:PE X a (tD X.K fa))(hb:PE X b (tD X.K fb)):PA X [a,b] (tDA X.K λY=>fa Y>>=λx=>fb Y>>=λy=>.ok [x,y]):=by refine PA.imp (Fv hs ha (Gk hs2 hb)) λU H Q ⟨Y,F,z,so,e,q⟩=>⟨Y,F,z,so,?_,q⟩;obtain⟨x,e1,e⟩:=Res.aA e;obtain⟨y,e2,e⟩:=Res.aA e;show(fa Y>>=λx=>(fb Y>>=λy=>Res.ok [y])>>=λxs=>Res.ok (x::xs))=_;rw[e1,e2];exact e
theorem Uj {fs:Rho->Res GD}(h:(fs Y>>=λx=>Res.ok [x])=.ok ys):∃x,fs Y=.ok x/\ys=[x]:=by obtain⟨x,e,h⟩:=Res.aA h;cases h;exact⟨x,e,rfl⟩
theorem Gp {K:W.Frag}(so:StOk K F H U Y)(hc:pS x=true)(e:seqR x.2=.ok xs)(rv:Rep K H1 (BG F H x.1) v x.2):∃B,Rep K H1 B v x.2/\(∀a,B (some a)->F.O a=none)/\∀a,B a->BI F .al a:=by
 obtain⟨g,d⟩:=x;cases d<;>try (exact(dR e).elim)
 case list ds=>
  have hg:g≠.al:=λz=>by subst z;cases hc
  exact⟨_,rv,λa h=>FH so hg h,λa h=>BI.of so.aN (BG.aN so.aN h)⟩
 case tuple ds=>
  rcases gr.mp hc with hg|hi
  ·have hg:g≠ .al:=λz=>by subst z;cases hg
   exact⟨_,rv,λa h=>FH so hg h,λa h=>BI.of so.aN (BG.aN so.aN h)⟩
  ·exact⟨λ_=>False,Rep.bL _ hi rv,λ_ h=>h.elim,λ_ h=>h.elim⟩
theorem Uk (h:(fa Y>>=λx=>fb Y>>=λy=>Res.ok [x,y])=.ok ys):∃x y,fa Y=.ok x/\fb Y=.ok y/\ys=[x,y]:=by obtain⟨x,e,h⟩:=Res.aA h;obtain⟨y,e2,h⟩:=Res.aA h;cases h;exact⟨x,y,e,e2,rfl⟩
theorem Ul (ht:(isTup tg||isNm tg)=true)(hm:X.mg "zip"=none)(hg:Gl X "zip")(hs:isStar a=false)(hs2:isStar b=false)(ha:PE X a (tD X.K fa))(hb:PE X b (tD X.K fb)):PI X tg (.Call (.Name "zip" p) [a,b] [] pos) (tDW X.K λY=>fa Y>>=λx=>fb Y>>=λy=>seqR x.2>>=λxs=>seqR y.2>>=λys=>.ok (.al,zipD xs ys)):=by
 rintro pins s U H R I ⟨Y,F,w,so,e,q⟩
 obtain⟨x,e1,e⟩:=Res.aA e;obtain⟨y,e2,e⟩:=Res.aA e;obtain⟨xs,e3,e⟩:=Res.aA e;obtain⟨ys,e4,e⟩:=Res.aA e;cases e;refine Call_ (z1w I hg hm LX (PyProof.Rows.callWith_type1 (aL (LY hs hs2 ha hb pos pins s U H (λvs H1=>Same H H1/\dW X.K F H H1 vs [x,y]) I ⟨Y,F,[x,y],so,by show(fa Y>>=λx=>fb Y>>=λy=>Res.ok [x,y])=_;rw[e1,Res.aC,e2];rfl,λvs H1 s1 rs=>⟨s1,rs⟩⟩) λus s1 ⟨vs,H1,I1,r1,sm,rs⟩=>?_) (dN hs) (by rw[dN hs2];rfl)));obtain⟨v1,v2,rfl,rv1,rv2⟩:=rs.two;obtain⟨u1,u2,rfl,Gq,Gr⟩:=vals2 r1;exact z86 ht I1 Gq Gr ((Rep.there _ rv1).weak (B':=λc=>bM F c/\¬nw H1 c) λc z=>⟨BG.aN so.aN z.1,z.2⟩) ((Rep.there _ rv2).weak (B':=λc=>bM F c/\¬nw H1 c) λc z=>⟨BG.aN so.aN z.1,z.2⟩) e3 e4 λJ wk=>q J _ H1 sm (λc z=>z) wk
theorem Gs (ht:(isTup tg||isNm tg)=true)(hm:X.mg "zip"=none)(hg:Gl X "zip")(hs:isStar a=false)(hs2:isStar b=false)(ha:PE X a (tD X.K fa))(hb:PE X b (tD X.K fb)):PI X tg (.Call (.Name "zip" p) [a,b] [] pos) (tDF X.K λY=>(fa Y>>=λx=>fb Y>>=λy=>.ok [x,y])>>=λys=>lK ys Y):=by
 rintro pins s U H R I ⟨Y,F,w,so,e,q⟩
 obtain⟨zs,e0,e⟩:=Res.aA e;obtain⟨x,y,e1,e2,rfl⟩:=Uk e0;have e:(if(pS x&&pS y)=true then(seqR x.2>>=λxs=>seqR y.2>>=λzs=>Res.ok (G.al,zipD xs zs,Y))else Res.no)=Res.ok w:=e;split at e
 case isFalse=>cases e
 rename_i hc;obtain⟨c1,c2⟩:=bg.mp hc;obtain⟨xs,e3,e⟩:=Res.aA e;obtain⟨ys,e4,e⟩:=Res.aA e;cases e;refine Call_ (z1w I hg hm LX (PyProof.Rows.callWith_type1 (aL (LY hs hs2 ha hb pos pins s U H (λvs H1=>Same H H1/\dW X.K F H H1 vs [x,y]) I ⟨Y,F,[x,y],so,by show(fa Y>>=λx=>fb Y>>=λy=>Res.ok [x,y])=_;rw[e1,Res.aC,e2];rfl,λvs H1 s1 rs=>⟨s1,rs⟩⟩) λus s1 ⟨vs,H1,I1,r1,sm,rs⟩=>?_) (dN hs) (by rw[dN hs2];rfl)));obtain⟨v1,v2,rfl,rv1,rv2⟩:=rs.two;obtain⟨u1,u2,rfl,Gq,Gr⟩:=vals2 r1;obtain⟨B1,k1,k2,k3⟩:=Gp so c1 e3 rv1;obtain⟨B2,m1,m2,m3⟩:=Gp so c2 e4 rv2;exact z86 ht I1 Gq Gr (k1.weak (B':=λc=>B1 c\/B2 c) λc z=>.inl z) (m1.weak (B':=λc=>B1 c\/B2 c) λc z=>.inr z) e3 e4 λJ wk=>q J _ H1 F sm Run.refl (dD.same sm) (so.same sm) (λc z=>z.elim (k2 c) (m2 c)) (λc z=>z.elim (k3 c) (m3 c)) wk
theorem Um (hm:X.mg "enumerate"=none)(hg:Gl X "enumerate")(hs:isStar a=false)(ha:PE X a (tD X.K fa)):PI X (.Tuple elts x1 tp) (.Call (.Name "enumerate" p) [a] [] pos) (tDW X.K λY=>fa Y>>=λx=>seqR x.2>>=λxs=>.ok (.al,z0o 0 xs)):=by
 rintro pins s U H R I ⟨Y,F,w,so,e,q⟩
 obtain⟨x,e1,e⟩:=Res.aA e;obtain⟨xs,e2,e⟩:=Res.aA e;cases e;refine Call_ (z1w I hg hm Gj (PyProof.Rows.callWith_type1 (aL (Gk hs ha pos pins s U H (λvs H1=>Same H H1/\dW X.K F H H1 vs [x]) I ⟨Y,F,[x],so,by show(fa Y>>=λx=>Res.ok [x])=_;rw[e1];rfl,λvs H1 s1 rs=>⟨s1,rs⟩⟩) λus s1 ⟨vs,H1,I1,r1,sm,rs⟩=>?_) (dN hs) rfl));obtain⟨v,rfl,rv⟩:=rs.one;obtain⟨u,rfl,ru⟩:=vals1 r1;exact z5z I1 ru (Rep.there _ rv) e2 λJ wk=>q J _ H1 sm (λc z=>⟨BG.aN so.aN z.1,z.2⟩) wk
theorem Uo (hm:X.mg "enumerate"=none)(hg:Gl X "enumerate")(hs:isStar a=false)(ha:PE X a (tD X.K fa)):PI X (.Tuple elts x1 tp) (.Call (.Name "enumerate" p) [a] [] pos) (tDF X.K λY=>(fa Y>>=λx=>.ok [x])>>=λys=>zt ys Y):=by
 rintro pins s U H R I ⟨Y,F,w,so,e,q⟩
 obtain⟨ys,e0,e⟩:=Res.aA e;obtain⟨x,e1,rfl⟩:=Uj e0;have e:(if pS x=true then(seqR x.2>>=λxs=>Res.ok (G.al,z0o 0 xs,Y))else Res.no)=Res.ok w:=e;split at e
 case isFalse=>cases e
 rename_i hc;obtain⟨xs,e2,e⟩:=Res.aA e;cases e;refine Call_ (z1w I hg hm Gj (PyProof.Rows.callWith_type1 (aL (Gk hs ha pos pins s U H (λvs H1=>Same H H1/\dW X.K F H H1 vs [x]) I ⟨Y,F,[x],so,by show(fa Y>>=λx=>Res.ok [x])=_;rw[e1];rfl,λvs H1 s1 rs=>⟨s1,rs⟩⟩) λus s1 ⟨vs,H1,I1,r1,sm,rs⟩=>?_) (dN hs) rfl));obtain⟨v,rfl,rv⟩:=rs.one;obtain⟨u,rfl,ru⟩:=vals1 r1;obtain⟨B,rB,hB,hV⟩:=Gp so hc e2 rv;exact z5z I1 ru rB e2 λJ wk=>q J B H1 F sm Run.refl (dD.same sm) (so.same sm) hB hV wk
end
theorem z9s {step:Int}(hit:lz s.heap it x left step)(hl:0<left)
  (hQ:∀h',lz h' it (x+step) (left-1) step->bu it s.heap h'->Q (.int x s.toks) {s with heap:=h',toks:=s.toks+1}):wpAny (model prog w) A (jk (.ref it)) Q E s:=by
 have ty:s.TypeIs (.ref it) "range_iterator":=⟨_,hit,rfl⟩;apply aa;refine e7 ty F.slot_range_iterator_next (m7 F.slot_range_iterator_next ty F.entry_range_iterator_next (F.args_range_iterator_next_1 _) (AutoRange.range_iterator___next___range_iterator_1 it x left step (by omega)) ⟨hit,?_⟩);refine aj (hQ _ ?_ (.trans (.update ..) (.update ..)));exact d7 _ (d7 _ hit rfl) rfl
theorem z5d {step:Int}(hh:A.handled=none)(hit:lz s.heap it x left step)(hl:left<=0)
  (hE:∀h' e,Heap.ExtBut it s.heap h'->(∃o,h'.get? e=some o/\o.cls=.type "StopIteration")->E (.ref e) {s with heap:=h'}):wpAny (model prog w) A (jk (.ref it)) Q E s:=by
 have ty:s.TypeIs (.ref it) "range_iterator":=⟨_,hit,rfl⟩;apply aa;refine e7 ty F.slot_range_iterator_next (jb F.slot_range_iterator_next ty F.entry_range_iterator_next ?_ (F.args_range_iterator_next_1 _));show wpAny _ _ (field (.ref it) 0>>=_) _ _ _;apply aa;refine dq hit rfl rfl ?_;apply aa;refine dq hit rfl rfl ?_;apply aa;refine dq hit rfl rfl ?_;show wpAny _ _ (if left<=0 then _ else _) _ _ _;rw[vy hl];apply aa;refine k8 ?_;apply aa
 delta mw
 repeat (any_goals (first|assumption|wp_step))
 refine n6 hh ?_;refine hE _ _ (λb o hb e=>?_) ⟨_,au _ rfl,rfl⟩;exact af _ (af _ e)
abbrev Gu (lo st:Int)(n:Nat)(it:Addr)(i:Nat)(h:Heap):Prop:=lz h it (lo+i*st) ((n:Int)-i) st
theorem LZ (hh:A.handled=none)(it:Addr)(lo st:Int)(n:Nat):Draws prog w A it [it] n (λi v=>∃t,v=.int (lo+i*st) t) (Gu lo st n it) where
 live:=λi h z=>⟨_,z⟩
 frame:=λi h h' z k=>k it (by simp) _ z
 item:=λi s1 Q1 E1 hi z hQ=>z9s z (by omega) λh' h1 sb=>hQ _ h' _ ⟨_,rfl⟩ (by
  have e1:lo+i*st+st=lo+((i+1:Nat):Int)*st:=by rw[Int.natCast_add,Int.add_mul];omega
  have e2:n-i-1=n-((i+1:Nat):Int):=by omega
  show lz _ _ _ _ _;rw[<-e1,<-e2];exact h1) sb
 done:=λs Q E z hE=>z5d hh z (by omega) hE
def wF (lo st:Int)(n:Nat):It:=⟨λi _=>i<n,λi H x H'=>∃p,H p=none/\x=.ref p/\H'=upd H p (.tup [.int i,.int (lo+i*st)]),λi _=>i=n⟩
theorem za8 {K:W.Frag}{lo st:Int}(h3:e≠it):
  Turn P w K (.Tuple elts x1 pos) (wF lo st n) [e,it] e (λi h=>(∃old,IsEnum h e it i old)/\Gu lo st n it i h) where
 mem:=by simp
 obj:=λi h z b hb=>by
  obtain⟨⟨old,he⟩,hit⟩:=z;rcases(ao.mp hb)with rfl|hb
  ·exact⟨_,he,λv z=>by cases z⟩
  ·obtain rfl:b=it:=by simpa using hb
   refine⟨_,hit,λv z=>?_⟩;cases z
 keep:=λi h h' z k=>by obtain⟨⟨old,he⟩,hit⟩:=z;exact⟨⟨old,k e (by simp) _ he⟩,k it (by simp) _ hit⟩
 item:=by
  intro X hP hw hK hc i pins s U H E I hf z hg;subst hP hw hK;obtain⟨⟨old,he⟩,hit⟩:=z;have hA:X.A.in1.handled=none:=I.ok.hd hc;have D:=LZ (prog:=X.prog) (w:=X.w) hA it lo st n;refine p8 D he hit hg h3 (by simp[h3]) λx h' tk hx wz hst wB uW kp=>⟨_,rfl,?_⟩;have hT:s.heap.objs.size≠e/\s.heap.objs.size≠it:=⟨λz=>cw _ (z▸bc he),λz=>cw _ (z▸bc hit)⟩;refine(WalksT.enumerateD D e h3 (by simp[h3]) (by simp)).go elts x1 pos i s.heap.objs.size {s with heap:=h',toks:=tk+1} _ _ ⟨⟨x,wz⟩,hst,hT.1,hT.2⟩ λLP oR zW=>?_;have wC:s.heap.objs.size∉ [e,it]:=by simp[hT.1,hT.2]
  obtain⟨tx,rfl⟩:=hx;have I1:=I.turnedTL (t':=tk+1) (xs:=[.int i,.int (lo+i*st)]) hf (λb q hb z=>zW b q hb (kp b q (λz=>hb (by simp[z])) (λz=>hb (by simp[z])) z)) (ag _) ⟨by rw[cg];simp,[.int i tk,.int (lo+i*st) tx],.cons ⟨tk,rfl⟩ (.cons ⟨tx,rfl⟩ .nil),0,(zW s.heap.objs.size _ wC wB)⟩;refine⟨.ref s.heap.objs.size,_,I1,rfl,⟨_,I.hok.fresh (ag _),rfl,rfl⟩,⟨oR.1,oR.2⟩,λb hb=>?_⟩;rw[aK λz:b=s.heap.objs.size=>wC (by rw[<-z];exact hb)];exact(hf b hb).1
 done:=by intro X hP hw hK hc i pins s U H E I hf z hg;subst hP hw hK;obtain⟨⟨old,he⟩,hit⟩:=z;subst hg;have hA:X.A.in1.handled=none:=I.ok.hd hc;exact qh (LZ (prog:=X.prog) (w:=X.w) hA it lo st i) he hit λh' eb=>⟨rfl,I.gY hf λb o hb z=>eb b o (λq=>hb (by simp[q])) z⟩
 self:=λ_ _ _ _ _ z h=>by obtain⟨⟨old,he⟩,_⟩:=z;exact mx he h
theorem Up {K:W.Frag}{lo st:Int}(hz:n<=ba):Walk K (wF lo st n) B H (z0o 0 ((cj n).map λ(i:Nat)=>.int (lo+i*st))):=by
 have hl:((cj n).map λ(i:Nat)=>(PyData.int (lo+i*st):D)).length=n:=by simp
 constructor
 ·rw[tQ,hl];exact hz
 ·intro H2 k i hi;rw[tQ,hl]at hi;exact hi
 ·intro H2 k;show _=n;rw[tQ,hl]
 ·rintro H2 k i x H3 hi ⟨p,hp,rfl,rfl⟩
  rw[tQ,hl]at hi;refine⟨Same.upd hp,.tuple [.int i,.int (lo+i*st)],?_,p,[.int i,.int (lo+i*st)],rfl,cS.of bC,aD.cons rfl (aD.cons rfl rfl)⟩;rw[F7,br,lj hi];simp
theorem z7a (r:Addr)(a b c:Int)(t u v:Tok)(hs:ll a b c=true):Meets (Builtin.«enumerate.__new__» {pos:=[.type "enumerate",.ref r]}) fun _ R s=>
  vp s.heap r a b c t u v/\R (.ok (.ret (.ref (s.heap.push {cls:=.type "range_iterator",data:=.fields #[fg a,fg (eu a b c),fg c]}).objs.size))) {s with heap:=(s.heap.push {cls:=.type "range_iterator",data:=.fields #[fg a,fg (eu a b c),fg c]}).push {cls:=.type "enumerate",data:=.fields #[.none,.bool false,.ref s.heap.objs.size,fg 0,.none,.none]}}:=by
 rintro prog w A R s ⟨ht,hR⟩
 have sub:=sub_enumerate
 delta Builtin.«enumerate.__new__»
 repeat (any_goals (first|assumption|(apply oq ht hs)|wp_step))
 refine wpAny_stack λst _ _ _=>?_;refine jc (Q:=λ_ s'=>s'=s) (aj rfl) (λb s' hs=>?_) λ_ _ x=>x;subst hs;cases b
 all_goals repeat (any_goals (first|assumption|(apply oq ht hs)|wp_step))
 all_goals exact hR
theorem zbg (ht:vp s.heap r a b c t u v)(hs:ll a b c=true)
  (hQ:Q (.ref (s.heap.push {cls:=.type "range_iterator",data:=.fields #[fg a,fg (eu a b c),fg c]}).objs.size) {s with heap:=(s.heap.push {cls:=.type "range_iterator",data:=.fields #[fg a,fg (eu a b c),fg c]}).push {cls:=.type "enumerate",data:=.fields #[.none,.bool false,.ref s.heap.objs.size,fg 0,.none,.none]}}):wpAny (model prog w) A (call (.type "enumerate") [.ref r]) Q E s:=by
 refine ut F.called_enumerate (by decide) (F.typeCall_enumerate_1 _) (F.newCall_enumerate_1 _) (λobj=>?_) F.entry_enumerate_new (z7a r a b c t u v hs) ⟨ht,⟨_,au _ rfl,rfl⟩,hQ⟩;exact F.args_object_init_2 _ _
theorem zte (hm:X.mg "enumerate"=none)(hg:Gl X "enumerate")(hm2:X.mg "range"=none)(hg2:Gl X "range")(hs:isStar a=false)(hs2:isStar b=false)(hs3:isStar c=false)(ha:PA X [a,b,c] (tDA X.K fs))(hl:∀Y ys,fs Y=.ok ys->ys.length=3):
  PI X (.Tuple elts x1 tp) (.Call (.Name "enumerate" p) [.Call (.Name "range" p2) [a,b,c] [] Gv] [] pos) (tDW X.K λY=>fs Y>>=λys=>eJ (ys.map (·.2))>>=λxs=>.ok (.fr,z0o 0 xs)):=by
 rintro pins s U H R I ⟨Y,F,w,so,e,q⟩
 obtain⟨ys,e1,e⟩:=Res.aA e;obtain⟨xs,e2,e⟩:=Res.aA e;cases e;have tR:de [c] X.env=[(false,eval c X.env)]:=dN hs3;have qI:de [b,c] X.env=(false,eval b X.env)::[(false,eval c X.env)]:=by rw[dN hs2,tR]
 refine Call_ (z1w I hg hm Gj (PyProof.Rows.callWith_type1 ?_ (dN rfl) rfl));refine ox (ik (z1w I hg2 hm2 boot_range (PyProof.Rows.callWith_type1 (aL (ha Gv pins s U H (λvs H1=>Same H H1/\dW X.K F H H1 vs ys) I ⟨Y,F,ys,so,e1,λvs H1 s1 rs=>⟨s1,rs⟩⟩) λus s1 ⟨vs,H1,I1,r1,sm,rs⟩=>?_) (dN hs) (by rw[qI];rfl))))
 match ys,(hl Y ys e1)with
 | [(g,d),(g',d'),(g2,d2)],S0=>
  obtain⟨v,t1,ev,h1,q1⟩:=rs;obtain⟨v',v2,Uq,h2,h3⟩:=q1.two;subst ev Uq;obtain⟨lo,rfl⟩:∃i,d=.int i:=by cases d<;>first|exact⟨_,rfl⟩|cases e2
  obtain⟨hi,rfl⟩:∃i,d'=.int i:=by cases d'<;>first|exact⟨_,rfl⟩|cases e2
  obtain⟨st,rfl⟩:∃i,d2=.int i:=by cases d2<;>first|exact⟨_,rfl⟩|cases e2
  obtain rfl:v=.int lo:=h1;obtain rfl:v'=.int hi:=h2;obtain rfl:v2=.int st:=h3;simp only[bx,List.map_nil,eJ]at e2;split at e2
  case isFalse=>cases e2
  rename_i hn;cases e2;cases r1 with
  |cons r rr=>
  cases rr with
  |cons r' rr=>
  cases rr with
  |cons r2 rr=>
  cases rr;obtain⟨t,rfl⟩:=r;obtain⟨t',rfl⟩:=r';obtain⟨t2,rfl⟩:=r2;have hc:=hn.2.2.2.2.1;refine call_range_3 (by omega) ?_ (.inl (PyProof.noPylong_small (by unfold LIM at hn;omega)));refine o9 (zbg (IsRange.new ..) (T8 hc hn.1 hn.2.2.1 hn.2.1 hn.2.2.2.1 hn.2.2.2.2.2) ?_);rw[rangeSize_pos hc];generalize hR:s1.heap.push {cls:=.type "range",data:=.fields #[.int lo t,.int hi t',.int st t2]}=hp;have I2:Inv X pins U H1 {s1 with heap:=hp}:=I1.kept λb o e=>hR▸af _ e;generalize wD:hp.push {cls:=.type "range_iterator",data:=.fields #[fg lo,fg (pV lo hi st:Int),fg st]}=jH;have I3:Inv X pins U H1 {s1 with heap:=jH}:=I2.kept λb o e=>wD▸af _ e;have zX:jH.objs.size=hp.objs.size+1:=by rw[<-wD];exact oy _ _
  generalize Gy:jH.push {cls:=.type "enumerate",data:=.fields #[.none,.bool false,.ref hp.objs.size,fg 0,.none,.none]}=Gz;have I4:Inv X pins U H1 {s1 with heap:=Gz}:=I3.kept λb o e=>Gy▸af _ e;have g1:Gz.get? jH.objs.size=some {cls:=.type "enumerate",data:=.fields #[.none,.bool false,.ref hp.objs.size,fg 0,.none,.none]}:=by rw[<-Gy];exact au _ rfl
  have g2:Gu lo st (pV lo hi st) hp.objs.size 0 Gz:=by
   show lz _ _ (lo+((0:Nat):Int)*st) ((pV lo hi st:Int)-((0:Nat):Int)) st;have e1:lo+((0:Nat):Int)*st=lo:=by simp
   have e2:(pV lo hi st:Int)-((0:Nat):Int)=pV lo hi st:=by simp
   rw[e1,e2,<-Gy];refine af _ ?_;rw[<-wD];exact au _ rfl
  refine mx g1 (⟨jH.objs.size,[jH.objs.size,hp.objs.size],_,wF lo st (pV lo hi st),H1,rfl,I4,za8 (by rw[zX];exact Nat.succ_ne_self _),⟨⟨.none,g1⟩,g2⟩,λb hb=>?_,q _ (λ_=>False) H1 sm (λ_ z=>z.elim) (Up ?_)⟩)
  ·rcases(ao.mp hb)with rfl|hb
   ·exact I3.fL (ag _) (I3.hok.fresh (ag _))
   ·obtain rfl:b=hp.objs.size:=by simpa using hb
    exact I2.fL (ag _) (I2.hok.fresh (ag _))
  ·have :=LI hc hn.1 hn.2.1;rw[cg];unfold LIM at this;omega
structure uQ (prog:cf)(w:World)(h:Heap)(S:Addr)(f:Str->Bool)(c:Nat)(es:Array (Int×Value))(ep:Nat)(t:fi)(o:Obj):Prop where
 at_:h.get? S=some o
 ex:o.ExactSet
 dt:o.data=.set es ep t
 el:ElemsOf (strKind prog w) es.toList
 mem:∀k,f k=true↔∃e∈es.toList,(strKind prog w).is k e.2=true
 qL:es.size<oo
 fit:t.fits es.size=true
 cnt:es.size=c
 pl:0<es.size->t.plain=false
 ld:t.led=!w.params.followText "set-order"
def IsTS (prog:cf)(w:World)(h:Heap)(S:Addr)(f:Str->Bool)(c:Nat):Prop:=∃es ep t o,uQ prog w h S f c es ep t o
def addS (p:(Str->Bool)×Nat)(z:Str):(Str->Bool)×Nat:=(λk=>p.1 k||decide (k=z),if p.1 z then p.2 else p.2+1)
theorem Ur (p:(Str->Bool)×Nat)(z:Str):(addS p z).2<=p.2+1:=by
 unfold addS;split
 ·exact ip _
 ·exact ag _
theorem Us (t:fi)(es:Array (Int×Value))(n:Nat)(h:t.plain=false):(oz t es n).2.1.plain=false:=by
 unfold oz;split
 ·rename_i t' order e
  dsimp only
  split
  ·unfold SetTable.relaid SetTable.laid at e;cases e2:SetTable.layClean (SetTable.sizeAbove n-1) (es.map (·.1))with
   |none=>rw[e2]at e;cases e
   |some ow=>rw[e2]at e;rw[<-(wa (v5 e)).1];exact h
  ·rfl
 ·rfl
theorem Ut (t:fi)(es:Array (Int×Value))(n:Nat):(oz t es n).2.1.led=t.led:=by
 unfold oz;split
 ·rename_i t' order e
  dsimp only
  split
  ·unfold SetTable.relaid SetTable.laid at e;cases e2:SetTable.layClean (SetTable.sizeAbove n-1) (es.map (·.1))with
   |none=>rw[e2]at e;cases e
   |some ow=>rw[e2]at e;rw[<-(wa (v5 e)).1]
  ·rfl
 ·rfl
theorem Uu (t:fi)(es:Array (Int×Value))(h:Int)(x:Value):(layNew t es h x).2.1.led=t.led:=by
 unfold layNew;split
 ·unfold SetTable.orStandIn
  dsimp only
  split<;>rfl
 ·rfl
theorem IsTS.keep {S:Addr}(x:IsTS prog w h S f c)(k:∀o,h.get? S=some o->h'.get? S=some o):IsTS prog w h' S f c:=by obtain⟨es,ep,t,o,x⟩:=x;exact⟨es,ep,t,o,{x with at_:=k o x.at_}⟩
theorem L0 {S:Addr}{h:Heap}(ho:h.get? S=some o)(hd:o.data=.set es ep t)(kC:Array (Int×Value))(t':fi):(h.update S (Obj.putSet kC t')).get? S=some {o with data:=.set kC (ep+1) t'}:=by have q:=d7 (Obj.putSet kC t') ho (by rw[putSet_of kC t' hd];rfl);rw[putSet_of kC t' hd]at q;exact q
theorem zgt {S:Addr}{p:(Str->Bool)×Nat}{z:Str}{u:Tok}{Q:Bool->aw->Prop}(x:IsTS prog w s.heap S p.1 p.2)(room:p.2+1<oo)(fin:∀r h',bu S s.heap h'->IsTS prog w h' S (addS p z).1 (addS p z).2->Q r {s with heap:=h'}):
  wpAny (model prog w) A (setAddHashed S (.str z u) ((strKind prog w).hash z)) Q E s:=by
 obtain⟨es,ep,t,o,x⟩:=x;have key:=strKind_is prog w z u;have hc:=x.cnt
 delta setAddHashed setAddHashedIn
 apply fk;apply aa;refine wpAny_setState_of x.at_ x.dt x.fit ?_
 dsimp only
 rw[byScan_of (knd:=strKind prog w) rfl x.qL x.el];rw[vy rfl]
 delta setAddByScan
 apply aa;apply aa;apply k8;apply aa;refine wpAny_setScan_of key x.at_ x.dt x.fit x.el ?_;cases hr:es.toList.findIdx? (λe=>(strKind prog w).is z e.2)with
 |some j=>
  obtain⟨cM,CM,_⟩:=List.findIdx?_eq_some_iff_getElem.mp hr;have L1:p.1 z=true:=(x.mem z).mpr ⟨_,jz cM,CM⟩;apply aj;apply aj;refine fin false s.heap (Heap.SameBut.refl S s.heap) ⟨es,ep,t,o,?_⟩;have e2:(addS p z).2=p.2:=by show(if p.1 z then p.2 else p.2+1)=p.2;rw[vy L1]
  refine{x with mem:=λk=>?_,cnt:=by rw[e2];exact hc};show(p.1 k||decide (k=z))=true↔_;rw[Bool.or_eq_true,decide_eq_true_iff,<-x.mem k];exact⟨λh=>h.elim id λe=>e▸L1,Or.inl⟩
 |none=>
  have out:p.1 z=false:=by
   cases hk:p.1 z with
   |false=>rfl
   |true=>obtain⟨e,he,hp⟩:=(x.mem z).mp hk;have this:=List.findIdx?_eq_none_iff.mp hr e he;rw[hp]at this;cases this
  have e2:(addS p z).2=p.2+1:=by show(if p.1 z then p.2 else p.2+1)=p.2+1;rw[vz (by rw[out];decide)]
  have say:∀(b:Bool) {s1:aw} {Q':Unit->aw->Prop},Q' () s1->wpAny (model prog w) A (match b with|true=>rule "set.scan.the-table-gave-way"|false=>pure ()) Q' E s1:=λb s1 Q' q=>by
   cases b
   ·exact aj q
   ·exact k8 q
  have pm:=layNew_perm t es ((strKind prog w).hash z) (.str z u);have ft:=layNew_fits t es ((strKind prog w).hash z) (.str z u);have nl:=(Uu t es ((strKind prog w).hash z) (.str z u)).trans x.ld
  dsimp only
  generalize layNew t es ((strKind prog w).hash z) (.str z u)=L at pm ft nl ⊢;obtain⟨es1,t1,was,GA⟩:=L
  dsimp only at pm ft nl ⊢
  rw[Array.toList_push]at pm;have sz:es1.size=p.2+1:=by rw[<-cq,pm.length_eq,ax,cq,hc];rfl
  have L3:ElemsOf (strKind prog w) es1.toList:=(x.el.push key rfl).perm pm;have zY:∀k,(addS p z).1 k=true↔∃e∈es1.toList,(strKind prog w).is k e.2=true:=mem_push_iff key x.mem pm
  have store:∀{R:Option Bool->aw->Prop},(∀h',bu S s.heap h'->IsTS prog w h' S (addS p z).1 (addS p z).2->R (some true) {s with heap:=h'})->∀(t2:fi),t2.fits es1.size=true->t2.plain=false->t2.led=(!w.params.followText "set-order")->wpAny (model prog w) A (do
    storeSet S es1 t2
    if(!was&&t2.tooFull)=true then do
       (match(oz t2 es1 (SetTable.grown es1.size)).2.2 with|true=>rule "set.scan.the-table-gave-way"|false=>pure ())
       storeSet S (oz t2 es1 (SetTable.grown es1.size)).1 (oz t2 es1 (SetTable.grown es1.size)).2.1
       pure (some true)
     else pure (some true)) R E s:=λ{R} hR t2 f2 p2 l2=>by
   have tS:es1.size<=ba:=fits_of_scanBound (by omega);apply aa;refine uu x.at_ x.dt ?_ tS;have g1:=L0 x.at_ x.dt es1 t2;split
   ·have x6:=relayAll_perm t2 es1 (SetTable.grown es1.size);have GB:=relayAll_fits t2 es1 (SetTable.grown es1.size);have GC:=Us t2 es1 (SetTable.grown es1.size) p2;have GF:=(Ut t2 es1 (SetTable.grown es1.size)).trans l2;generalize oz t2 es1 (SetTable.grown es1.size)=Rl at x6 GB GC GF ⊢;obtain⟨wG,t3,gv⟩:=Rl
    dsimp only at x6 GB GC GF ⊢
    have zX:wG.size=es1.size:=by rw[<-cq,x6.length_eq,cq]
    apply aa;refine say gv ?_;apply aa;refine uu g1 rfl ?_ (by rw[zX];exact tS);refine aj (hR _ ((ju s.heap S _).trans (ju _ S _)) ⟨wG,ep+1+1,t3,{o with data:=.set wG (ep+1+1) t3},?_⟩);exact{at_:=L0 g1 rfl wG t3,ex:=x.ex,dt:=rfl,el:=L3.perm x6,mem:=λk=>(zY k).trans ⟨λ⟨e,he,q⟩=>⟨e,x6.mem_iff.mpr he,q⟩,λ⟨e,he,q⟩=>⟨e,x6.mem_iff.mp he,q⟩⟩,qL:=by rw[zX,sz];exact room,fit:=GB,cnt:=by rw[zX,sz,e2],pl:=λ_=>GC,ld:=GF}
   ·refine aj (hR _ (ju s.heap S _) ⟨es1,ep+1,t2,{o with data:=.set es1 (ep+1) t2},?_⟩);exact{at_:=g1,ex:=x.ex,dt:=rfl,el:=L3,mem:=zY,qL:=by rw[sz];exact room,fit:=f2,cnt:=by rw[sz,e2],pl:=λ_=>p2,ld:=l2}
  apply aa;refine say GA ?_;split
  ·apply aa;rw[hashByValue_scannable 8 (x:=.str z u) rfl];refine aj ?_;refine store (λh' sb ts=>?_) {t1 with plain:=false} (SetTable.fits_plain_off ft) rfl nl;exact aj (fin true h' sb ts)
  ·rename_i np
   have np:t1.plain=false:=by
    cases h:t1.plain with
    |false=>rfl
    |true=>exact absurd h np
   apply aa;refine aj ?_;refine store (λh' sb ts=>?_) t1 ft np nl;exact aj (fin true h' sb ts)
section
variable {prog:cf}{w:World}{A:iz}{R:vt->aw->Prop}{I:Addr}{fp wr:List Addr}{Gn:Array p9->Array p9->Prop}{n:Nat}{P:Nat->Value->Prop}{St:Nat->aw->Prop}
theorem zfh (W:WalksS prog w A.in1 I fp wr Gn n P St){S:Addr}(no:S∉fp)(val:Nat->Str)(tx:∀i v,P i v->∃t,v=.str (val i) t)(room:n+1<oo):
  ∀k i s p,i+k=n->p.2<=i->St i s->IsTS prog w s.heap S p.1 p.2->
   (∀s' q,Moved (S::wr) Gn s s'->q=((List.range' i k).map val).foldl addS p->IsTS prog w s'.heap S q.1 q.2->R (.ok (.ret .none)) s')->
   lf (model prog w) A (Code.builtin "set.update.loop" ⟨[Value.ref S,Value.ref I],[]⟩) R s:=by
 have now:S∉wr:=λz=>no (W.sub S z);intro k
 induction k with
 |zero=>intro i s p e hp st set fin;cases e;refine lr PyProof.Rows.F.entry_set_update_loop ?_;apply aa;exact W.done s _ _ st λs1 mv=>aj (fin s1 p (mv.mono λb z=>ah S z) rfl (set.keep λo=>mv.heap S o now))
 |succ k ih=>
  intro i s p e hp st set fin;refine lr PyProof.Rows.F.entry_set_update_loop ?_;apply aa;refine W.item i s _ _ (by omega) st λv s1 hv tR mv=>?_;obtain⟨t,rfl⟩:=tx i v hv;apply aa;apply fk
  delta setAdd
  apply fk;apply aa;refine(strKind prog w).pyHash (strKind_is prog w (val i) t) (zgt (set.keep λo=>mv.heap S o now) (by omega) λr h2 same wH=>?_);have le:=Ur p (val i);refine aj ⟨plainId_quiet PyProof.Rows.F.plain_set_update_loop _,ih (i+1) _ (addS p (val i)) (by omega) (by omega) (W.frame _ s1 _ _ tR (ip _) λb hb o z=>?_) wH λs3 q Uv eq GH=>?_⟩
  ·have fG:b≠S:=λz=>no (z▸hb);exact(same.2 b fG).trans z
  ·refine fin s3 q (Moved.trans W.gtrans ((mv.mono λb z=>ah S z).then_heap (ip _) λb o hb z=>?_) Uv) eq GH;exact(same.2 b (λz=>hb (z▸ak))).trans z
end
section
variable {prog:cf}{w:World}{A:iz}{E:Value->aw->Prop}{s:aw}
abbrev nilS (led:Bool):Obj:={cls:=.type "set",dict:=none,data:=.set #[] 0 (.fresh 0 0 led)}
def z9d (prog:cf)(w:World)(s:aw)(us:List Str)(s':aw):Prop:=∃h' tk,s'={s with heap:=h',toks:=tk}/\IsTS prog w h' s.heap.objs.size (us.foldl addS (λ_=>false,0)).1 (us.foldl addS (λ_=>false,0)).2/\∀b o,b<s.heap.objs.size->s.heap.get? b=some o->h'.get? b=some o
theorem Uw (a:Value)(h:Q1 (.ref s.heap.objs.size) {s with heap:=s.heap.push (nilS (!w.params.followText "set-order"))}):lf (model prog w) A (.call (.builtin "set.__new__") ⟨[.type "set",a],[]⟩) (wants Q1 E) s:=by
 apply qq;apply aa;refine wpAny_of_eq (PySem.F.newCall_set_1 a) (aj ⟨plainId_quiet PySem.F.plain_set_new _,lr PySem.F.entry_set_new ?_⟩)
 delta Builtin.«set.__new__» Builtin.Frozenset.newClass
 have f1:=sub_set_self
 wp_walk;refine wpAny_askSetting (aj ?_)
 apply aa;refine wpAny_alloc (aj ?_);exact aj h
end
section
variable {prog:cf}{w:World}{A:iz}{E:Value->aw->Prop}{s:aw}
theorem zbm {l:Addr}{items:Array Value}{val:Nat->Str}(led:Bool)(hled:led=!w.params.followText "set-order")(hh:A.handled=none)(hl:s.heap.IsTuple l items)(tx:∀(i:Nat) (v:Value),items[i]?=some v->∃t,v=Value.str (val i) t)(hb:items.size+1<oo):
  wpAny (model prog w) A.in1.in1 (Builtin.«set.__init__» ⟨[.ref s.heap.objs.size,.ref l],[]⟩) (λfin s'=>fin=.done (.ret .none)/\z9d prog w s ((cj items.size).map val) s') E {s with heap:=s.heap.push (nilS led)}:=by
 obtain⟨ol,L4,iV,nl,L5⟩:=hl;obtain⟨c0,d0,ZV,Ux⟩:=ol;simp only at iV L5;subst iV L5;have low:l<s.heap.objs.size:=bc L4;have hS:(s.heap.push (nilS led)).get? s.heap.objs.size=some (nilS led):=au _ rfl;have hT:Shared.TypeIs {s with heap:=s.heap.push (nilS led)} (.ref s.heap.objs.size) "set":=⟨_,hS,rfl⟩;have f0:(s.heap.push (nilS led)).get? l=some {cls:=.type "tuple",dict:=d0,data:=.seq items nl,slots:=Ux}:=af _ L4;have f1:=PySem.F.sub_tuple_set;have f2:=PySem.F.sub_tuple_frozenset;have f3:(Value.type "tuple"==Value.type "dict")=false:=by decide
 have lst:(s.heap.push (nilS led)).IsTuple l items:=⟨_,f0,rfl,nl,rfl⟩
 delta Builtin.«set.__init__» noKeywords Builtin.Frozenset.updateFrom
 generalize gp:tu=PI
 wp_walk
 subst gp;refine lw lst ?_;apply aa;apply wpAny_runValue;have hA:A.in1.in1.in1.handled=none:=by simp only[Around.in1];exact hh
 have nI:l≠(s.heap.push (nilS led)).objs.size:=by rw[jx];exact bz (mj low)
 have nS:s.heap.objs.size∉ [(s.heap.push (nilS led)).objs.size,l]:=by
  rw[jx];intro z;rcases ao.mp z with z|z
  ·exact bz (lg _) z
  ·exact oh low (av.mp z)
 refine zfh (Walks.tuple hA _ l nI items).toS nS val tx hb items.size 0 _ (λ_=>false,0) (on _) (ag 0) ⟨⟨_,au _ rfl,rfl,rfl⟩,IsB.push (l:=false) lst _⟩ ?_ ?_
 ·exact⟨#[],0,.fresh 0 0 led,nilS led,{at_:=af _ hS,ex:=⟨rfl,rfl,rfl⟩,dt:=rfl,el:=λe he=>by simp at he,mem:=λk=>by simp,qL:=by decide,fit:=rfl,cnt:=rfl,pl:=λz=>absurd z (cw 0),ld:=hled}⟩
 ·intro s2 q mv eq wH;obtain⟨h2,g2,d2,t2,o2⟩:=s2;have e1:g2=s.gens:=mv.gens;have e2:d2=s.drawn:=mv.drawn;have e3:o2=s.os:=mv.os;subst e1 e2 e3 eq;show wpAny _ _ _ _ _ _;refine aj (aj ⟨rfl,h2,t2,rfl,by rw[List.range_eq_range'];exact wH,λb o lt z=>?_⟩);refine mv.heap b o (λz=>?_) (af _ (af _ z));rcases ao.mp z with z|z
  ·exact bz lt z
  ·have z:=av.mp z;rw[jx]at z;exact bz (mj lt) z
theorem zd7 {l:Addr}{items:Array Value}{val:Nat->Str}{Q:Value->aw->Prop}(hh:A.handled=none)(hl:s.heap.IsTuple l items)(tx:∀(i:Nat) (v:Value),items[i]?=some v->∃t,v=Value.str (val i) t)(hb:items.size+1<oo)
  (h:∀s',z9d prog w s ((cj items.size).map val) s'->Q (.ref s.heap.objs.size) s'):wpAny (model prog w) A (call (.type "set") [.ref l]) Q E s:=by
 have ft:=PySem.F.called_set;obtain⟨c,tl,m1⟩:=ft.mro;have m2:=ft.made;have m3:=ft.sub;have m4:=ft.notType;have m5:=ft.canCreate;have m6:=PySem.F.typeCall_set_1 (.ref l);apply qc;apply qq;change wpAny _ _ (callAny (.type "set") _) _ _ _;refine aj ⟨Code.quiet_builtin _ (by decide+kernel),lr PySem.F.entry_type_call ?_⟩;rw[Around.under_plain (weight_type_call_type "set" [Value.ref l] []) rfl]
 repeat (any_goals first|assumption|wp_step)
 refine jq (Uw (.ref l) (E:=E) (Q1:=λobj s1=>∃led:Bool,(led=!w.params.followText "set-order")/\obj=.ref s.heap.objs.size/\s1={s with heap:=s.heap.push (nilS led)}) ⟨_,rfl,rfl,rfl⟩) λr s1 hr=>?_;cases r with
 |error e=>exact hr
 |ok fl=>
  cases fl with
  |ret obj=>
   obtain⟨led,hled,rfl,rfl⟩:=hr;have hT:Shared.TypeIs {s with heap:=s.heap.push (nilS led)} (.ref s.heap.objs.size) "set":=⟨_,au _ rfl,rfl⟩;have i1:=ft.init.lookup;have i2:=ft.init.bind (.ref s.heap.objs.size)
   repeat (any_goals first|assumption|wp_step)
   refine jq (jt (R:=wants (λr s2=>r=.none/\z9d prog w s ((cj items.size).map val) s2) E) ft.init.plain PySem.F.entry_set_init (check_set_init_1 hT ?_)) λr2 s2 GI=>?_
   ·refine jc (zbm (s:=s) (E:=E) led hled hh hl tx hb) (λfin s3 z=>?_) (λe s3 z=>?_)
    ·obtain⟨rfl,z⟩:=z;exact⟨rfl,z⟩
    ·exact z
   ·cases r2 with
    |error e=>exact GI
    |ok CN=>
     cases CN with
     |ret v=>
      obtain⟨rfl,z⟩:=GI
      repeat (any_goals first|assumption|wp_step)
      exact h _ z
     |_=>exact GI.elim
  |_=>exact hr.elim
end
theorem GJ:∀ws acc,acc.Nodup->(dI acc ws).Nodup/\(∀k,k∈dI acc ws↔k∈acc\/k∈ws)/\ws.foldl addS (λk=>decide (k∈acc),acc.length)=(λk=>decide (k∈dI acc ws),(dI acc ws).length)
 | [],acc,nd=>⟨nd,λk=>⟨.inl,λz=>z.elim id λz=>by cases z⟩,rfl⟩
 |z::ws,acc,nd=>by
  by_cases h:z∈acc
  ·obtain⟨h1,h2,h3⟩:=GJ ws acc nd;have e:dI acc (z::ws)=dI acc ws:=by show dI (if z∈acc then acc else acc++[z]) ws=_;rw[vy h]
   rw[e];refine⟨h1,λk=>(h2 k).trans ⟨λy=>y.elim .inl λy=>.inr (ah _ y),λy=>y.elim .inl λy=>?_⟩,?_⟩
   ·rcases ao.mp y with rfl|y
    ·exact .inl h
    ·exact .inr y
   ·rw[<-h3];show ws.foldl addS (addS (λk=>decide (k∈acc),acc.length) z)=_
    congr 1
    show((λk=>decide (k∈acc)||decide (k=z)),if decide (z∈acc)=true then acc.length else acc.length+1)=_;rw[vy (we h)]
    congr 1
    funext k
    by_cases hk:k=z
    ·rw[hk,we h];rfl
    ·rw[wg hk,pe]
  ·have nd':(acc++[z]).Nodup:=by
    rw[iw];exact⟨nd,i6.mpr ⟨nofun,k9⟩,λa ha b hb e=>by rw[av.mp hb]at e;exact h (e▸ha)⟩
   obtain⟨h1,h2,h3⟩:=GJ ws (acc++[z]) nd';have e:dI acc (z::ws)=dI (acc++[z]) ws:=by show dI (if z∈acc then acc else acc++[z]) ws=_;rw[vz h]
   rw[e];refine⟨h1,λk=>(h2 k).trans ?_,?_⟩
   ·rw[bo,av,ao,or_assoc]
   ·rw[<-h3];show ws.foldl addS (addS (λk=>decide (k∈acc),acc.length) z)=_
    congr 1
    show((λk=>decide (k∈acc)||decide (k=z)),if decide (z∈acc)=true then acc.length else acc.length+1)=_;rw[vz (by rw[wg h];decide),ax]
    congr 1
    funext k
    by_cases hk:k=z
    ·rw[hk,we (bw _ (av.mpr rfl)),we rfl,qi]
    ·rw[wg hk,pe];exact decide_eq_decide.mpr ⟨cy _,λy=>(bo.mp y).elim id λy=>absurd (av.mp y) hk⟩
def SO (P:cf)(w:World)(p:Addr)(ws:List Str):HO:=.ext λh=>IsTS P w h p (λk=>decide (k∈dI [] ws)) (dI [] ws).length
theorem L6 {K:W.Frag}:∀{ws:List Str} {vs:List V} {its:List Value},Vals vs its->aD K H B vs (ws.map .str)->(∀i v,its[i]?=some v->∃t,v=Value.str (ws.getD i ⟨#[]⟩) t)/\(∀w∈ws,PyData.strOk w=true)/\its.length=ws.length
 | [],vs,its,r,q=>by subst q;cases r;exact⟨nofun,nofun,rfl⟩
 |w::ws,vs,its,r,q=>by
  obtain⟨v,tl,rfl,q1,q2⟩:=q;cases r with
  |cons r1 r2=>
   obtain⟨rfl,ok⟩:=q1;obtain⟨h1,h2,h3⟩:=L6 r2 q2;obtain⟨t,rfl⟩:=r1;refine⟨λi v h=>?_,λz hz=>?_,congrArg (· +1) h3⟩
   ·cases i with
    |zero=>cases h;exact⟨t,rfl⟩
    |succ i=>exact h1 i v h
   ·rcases ao.mp hz with rfl|hz
    ·exact ok
    ·exact h2 z hz
section
variable {X:Cx}
def GK (X:Cx):List V->Hp->VK->Prop:=λxs H Q=>∃B x ws,xs=[x]/\Rep X.K H B x (.tuple (ws.map .str))/\ws.length<4000/\((∀w∈ws,PyData.strOk w=true)->∀p,H p=none->Q (.ref p) (upd H p (SO X.prog X.w p ws)))
theorem Uy (hc:X.calm=true):CallR X (.type "set") (GK X):=by
 intro pins s U H xs us Q I r h;obtain⟨B,x,ws,rfl,rx,hl,q⟩:=h;obtain⟨a,vs,rfl,Uz,rs⟩:=CG rx (show z4c (.tuple (ws.map .str))=.ok (false,ws.map .str)from rfl);obtain⟨u,rfl,ru⟩:=vals1 r;cases ru
 have fin:∀(its:List Value),its.length=ws.length->(∀w∈ws,PyData.strOk w=true)->∀s',z9d X.prog X.w s ((cj its.toArray.size).map λi=>ws.getD i ⟨#[]⟩) s'->EP X pins U Q (.ref s.heap.objs.size) s':=by
  intro its len ok s' out;obtain⟨h',tk,rfl,ts,kp⟩:=out;have UA:∀b u,s.heap.get? b=some u->h'.get? b=some u:=λb u e=>kp b u (bc e) e;have hH:H s.heap.objs.size=none:=I.hok.fresh (ag _)
  have ev:(cj its.toArray.size).map (λi=>ws.getD i ⟨#[]⟩)=ws:=by
   rw[az,len];refine ml λi=>?_;rw[br];by_cases hi:i<ws.length
   ·rw[lj hi];show some (ws.getD i ⟨#[]⟩)=_;rw[am,bn hi];rfl
   ·rw[ij (by rw[d8];omega),ij (by omega)];rfl
  rw[ev]at ts;have h0:=(GJ ws [] k9).2.2;have e0:(λk=>decide (k∈([]:List Str)),([]:List Str).length)=((λ_=>false,0):(Str->Bool)×Nat):=by congr 1
  rw[e0]at h0;rw[h0]at ts;have o1:∃o,h'.get? s.heap.objs.size=some o:=by obtain⟨es,ep,t,o,x⟩:=ts;exact⟨o,x.at_⟩
  have I2:=I.laid (a:=s.heap.objs.size) (o:=SO X.prog X.w s.heap.objs.size ws) (t':=tk) UA (ag _) ⟨ts,o1,λh1 h2 x k=>x.keep k⟩;exact⟨.ref s.heap.objs.size,_,I2,rfl,q ok _ hH⟩
 obtain⟨its,rv,pl,hz⟩:=I.tuple Uz;obtain⟨tx,ok,len⟩:=L6 rv rs;exact zd7 (val:=λi=>ws.getD i ⟨#[]⟩) (I.ok.hd hc) pl (λi v e=>tx i v (by rw[List.getElem?_toArray]at e;exact e)) (by rw[az];unfold oo;omega) (fin its len ok)
theorem UB:CallR X (.builtin "len") (λxs H Q=>∃p ws,xs=[.ref p]/\H p=some (SO X.prog X.w p ws)/\Q (.int (dI [] ws).length) H):=by
 rintro pins s U H xs us Q I r ⟨p,ws,rfl,hH,q⟩
 obtain⟨u,rfl,rfl⟩:=vals1 r;obtain⟨⟨es,ep,t,o,x⟩,_⟩:=I.hok p _ hH;have hf:(es.size:Int)<2 ^ 63:=by have:=x.qL;unfold oo at this;omega
 exact call_len_set x.at_ x.ex x.dt x.fit hf ⟨.int (dI [] ws).length,H,I.tok _,⟨s.toks+1,by rw[x.cnt]⟩,q⟩
theorem zZ:∀{xs:List D} {ws:List Str},cN xs=some ws->xs=ws.map .str
 | [],ws,e=>by cases e;rfl
 |x::xs,ws,e=>by
  cases x with
  |str z=>
   change(cN xs).map (z:: ·)=_ at e;cases e1:cN xs with
   |none=>rw[e1]at e;cases e
   |some us=>rw[e1]at e;cases e;rw[zZ e1];rfl
  |_=>cases e
theorem UC (e:KQ xs=.ok d):∃ws,xs=ws.map .str/\ws.length<4000/\d=.int (dI [] ws).length:=by
 change(match cN xs with|some ws=>if decide (ws.length<4000)=true then Res.ok (PyData.int ((dI [] ws).length:Int))else .no|none=>.no)=_ at e;cases e1:cN xs with
 |none=>rw[e1]at e;cases e
 |some ws=>
  rw[e1]at e
  dsimp only at e
  cases hc:decide (ws.length<4000)with
  |false=>rw[hc]at e;cases e
  |true=>rw[hc]at e;cases e;exact⟨ws,zZ e1,wc hc,rfl⟩
theorem UD {x d:D}(e:vO x=.ok d):∃ws,x=.tuple (ws.map .str)/\ws.length<4000/\d=.int (dI [] ws).length:=by
 cases x with
 |tuple xs=>obtain⟨ws,rfl,h⟩:=UC e;exact⟨ws,rfl,h⟩
 |_=>cases e
theorem zma {x y:Str}{p p' pos pos':Pos}{e:Expr}{fa:Rho->Res GD}(hc:X.calm=true)(hm:X.mg x=none)(hv:db x=some (.builtin "len"))(hg:Gl X x)(hn:x≠"__name__")(hdb:Z9 x)
  (GL:X.mg y=none) (Ej:db y=some (.type "set")) (UE:Gl X y) (xG:y≠"__name__") (GN:Z9 y) (hs:isStar e=false) (ha:PE X e (tD X.K fa)):
  PE X (.Call (.Name x p) [.Call (.Name y p') [e] [] pos'] [] pos) (tD X.K λY=>fa Y>>=λv=>vO v.2>>=λd=>.ok (.fr,d)):=
 PE.imp (zr UB hm hv (dS (Ci (Uy hc) GL Ej (dS ha kF hs) (by simp[hs]) UE xG GN) kF rfl) rfl hg hn hdb) λU H Q zz=>by obtain⟨Y,F,z,so,e,q⟩:=zz;obtain⟨v,e1,e⟩:=Res.aA e;obtain⟨d,e2,e⟩:=Res.aA e;cases e;obtain⟨ws,ev,nl,rfl⟩:=UD e2;refine⟨Y,F,v,so,e1,λu H1 s1 ru=>?_⟩;rw[ev]at ru;exact⟨_,u,ws,rfl,ru,nl,λok p hp=>⟨p,ws,rfl,bC,q _ _ (s1.trans (Same.upd hp)) rfl⟩⟩
end
abbrev tT:List Value:=[.type "ValueError",.type "Exception",.type "BaseException",.type "object"]
abbrev UG (K:W.Frag)(C:Addr):Bool:=W.excIn K C tT "ValueError.__new__"
def gB (K:W.Frag)(C:Addr):Bool:=match K.lookup C with
 |some ⟨.type "type",_,.cls cd,sl⟩=>(match cd.mro,sl.toList with
  |.ref D::bm,[_,_,_,_,some (.builtin n),_]=>(D==C)&&(n=="ValueError.__new__")&& !cd.hasDel&&W.tailIn K tT bm&&W.nsOkIn K cd.ns
  |_,_=>false)
 |_=>false
def XC (C:Addr)(h:Heap)(bm:List Value):Prop:=∃N nm q bs hdct sn sub ab col dd k0 k1 k2 k3 k5 mN,h.get? C=some (q8 nm q C N bs bm hdct sn sub ab col dd k0 k1 k2 k3 k5 "ValueError.__new__")/\h.Ns N mN/\uv h tT bm
theorem CP:(a&&b)=true->a=true/\b=true:=bg.mp
theorem z6 {K:W.Frag}{C:Addr}(q:gB K C=true):∃dd cd bm k0 k1 k2 k3 k5,K.lookup C=some ⟨.type "type",dd,.cls cd,#[k0,k1,k2,k3,some (.builtin "ValueError.__new__"),k5]⟩/\cd.mro=.ref C::bm/\cd.hasDel=false/\W.tailIn K tT bm=true/\W.nsOkIn K cd.ns=true:=by
 unfold gB at q;split at q
 ·rename_i dd cd sl ho;split at q
  ·rename_i A bm y0 y1 y2 y3 n y5 hm hs;obtain⟨q,q5⟩:=CP q;obtain⟨q,q4⟩:=CP q;obtain⟨q,q3⟩:=CP q;obtain⟨q1,q2⟩:=CP q;have e3:sl=#[y0,y1,y2,y3,some (.builtin n),y5]:=Array.toList_inj.mp (by rw[hs]);refine⟨dd,cd,bm,y0,y1,y2,y3,y5,?_,?_,?_,q4,q5⟩
   ·rw[ho,e3,wj q2]
   ·rw[hm,wj q1]
   ·cases hd:cd.hasDel with
    |false=>rfl
    |true=>rw[hd]at q3;cases q3
  ·cases q
 ·cases q
theorem L7 {K:W.Frag}{C:Addr}(ho:K.lookup C=some ⟨.type "type",dd,.cls cd,sl⟩)(hm:cd.mro=.ref C::bm)(e:W.subIn K (.ref C) v=some b):(Value.ref C::bm).contains v=b:=by
 have e:W.mroIn K C v=some b:=e;unfold W.mroIn W.clsIn at e;rw[ho]at e
 dsimp at e
 rw[hm]at e;exact v5 e
theorem XC.mk {K:W.Frag}{C:Addr}(X:K.In h)(q:gB K C=true):∃bm,XC C h bm/\∀v b,W.subIn K (.ref C) v=some b->(Value.ref C::bm).contains v=b:=by
 obtain⟨dd,cd,bm,k0,k1,k2,k3,k5,ho,hm,hd,ht,hk⟩:=z6 q;refine⟨bm,⟨cd.ns,cd.name,cd.qualname,cd.bases,cd.hasDict,cd.slotNames,cd.subclasses,cd.abstract,cd.collection,dd,k0,k1,k2,k3,k5,h.nsMap cd.ns,?_,.of_isNs (W.isNs_of_in X hk),W.tail_of_in X ht⟩,λv b e=>L7 ho hm e⟩;have h2:=X _ _ ho;cases cd
 dsimp only at hm hd
 rw[hm,hd]at h2;exact h2
section
variable {M:Model}{A:iz}{E:Value->aw->Prop}{h:Heap}{g:Array p9}{d:Drawn}{t:Nat}{os:ni}{C B e:Addr}{bm x8:List Value}{oe:Obj}{Q:Bool->aw->Prop}
theorem L8 (T:uv h tT l):l.contains (.type "BaseException")=true:=T.hasType rfl
theorem UH (hC:XC C h bm)(hB:XC B h x8)(he:h.get? e=some oe)(hc:oe.cls=.ref C)(rE:(Value.ref C::bm).contains (.ref B)=true)(hq:Q true ⟨h,g,d,t,os⟩):wpAny M A (t9 (.ref e) (.ref B)) Q E ⟨h,g,d,t,os⟩:=by
 obtain⟨_,_,_,_,_,_,_,_,_,_,_,_,_,_,_,_,oC,_,_⟩:=hC;obtain⟨_,_,_,_,_,_,_,_,_,_,_,_,_,_,_,_,oB,_,tB⟩:=hB;have CQ:(Value.ref B::x8).contains (.type "BaseException")=true:=by rw[o0,L8 tB,qi]
 have f:=tc_notTuple;unfold t9
 repeat (first|(with_reducible refine ce he ?_;rw[hc])|with_reducible refine ce oB ?_|(with_reducible refine jv oB ?_;rw[CQ])|(with_reducible refine jv oC ?_;rw[rE])|wp_step)
 exact hq
end
section
variable {prog:cf}{w:World}{A:iz}{E:Value->aw->Prop}{K:W.Frag}{h:Heap}{g:Array p9}{d:Drawn}{t:Nat}{os:ni}{C e:Addr}{oe:Obj}
structure XA (K:W.Frag)(C:Addr):Prop where
 cl:W.findIn K (.ref C) "__class__"=some (some (.builtin "object.__class__"))
 ga:W.findIn K (.ref C) "__getattribute__"=some (some (.builtin "BaseException.__getattribute__"))
 gt:W.findIn K (.ref C) "__getattr__"=some none
 ob:W.subIn K (.ref C) (.type "object")=some true
 be:W.subIn K (.ref C) (.type "BaseException")=some true
 ty:W.typeIn K (.ref C)=some (.type "type")
 is:(W.clsIn K C).isSome=true
 ex:gB K C=true
theorem z5s (he:h.get? e=some oe)(hc:oe.cls=.ref C):W.Looks M h (vx (.ref e)) (.ref C):=by intro A Q E s k q;refine aa (wpAny_loadPart (k _ _ he) ?_);rw[hc];exact aj q
theorem zr2 (X:K.In h)(a:XA K C)(he:h.get? e=some oe)(hc:oe.cls=.ref C)(hq:R (.ok (.ret (.ref C))) ⟨h,g,d,t,os⟩):
  lf (model prog w) A (.call (.builtin "getset_descriptor.__get__") ⟨[.builtin "object.__class__",.ref e,tp],[]⟩) R ⟨h,g,d,t,os⟩:=by
 have l0:=z5s (M:=model prog w) he hc;have l1:=W.looks_subIn (M:=model prog w) X a.ob;refine jt W.KF.slot_gs.plain W.KF.entry_gs (W.KF.slot_gs.check _ _ _ _ _ _ _ _ W.KF.type_class (W.KF.args_gs _ _ _) (aa (aj ?_)));unfold Builtin.Getset_descriptor.descrGetter Builtin.Getset_descriptor.descrCheckInstance Builtin.Getset_descriptor.descrNameAndClass qj;simp only[W.KF.owner_class]
 repeat lk
 refine⟨Code.quiet_builtin _ (by decide+kernel),?_⟩;refine lr W.KF.entry_class ?_;unfold Builtin.«object.__class__»;unfold shownTypeOf;repeat lk
 exact hq
theorem zkj {tk:Tok}{Q:Fin->aw->Prop}(X:K.In h)(a:XA K C)(he:h.get? e=some oe)(hc:oe.cls=.ref C)(hq:Q (.done (.ret (.ref C))) ⟨h,g,d,t,os⟩):
  wpAny (model prog w) A (Builtin.«object.__getattribute__» ⟨[.ref e,.str "__class__" tk],[]⟩) Q E ⟨h,g,d,t,os⟩:=by
 have hT:(⟨h,g,d,t,os⟩:aw).TypeIs (.builtin "object.__class__") "getset_descriptor":=F.typeOf_object_class;have⟨f5,f6,f7⟩:=And.intro F.typeOf_object_class (And.intro F.slot_gs_get.lookup F.slot_gs_set.lookup);have l0:=W.looks_findIn (M:=model prog w) X a.cl
 repeat (any_goals (first|assumption|(with_reducible refine ce he ?_;rw[hc])|with_reducible refine l0.at ?_|wp_step))
 refine zr2 X a he hc ?_
 repeat' first|assumption|wp_step
theorem x_call {tk:Tok}{R:vt->aw->Prop}(X:K.In h)(a:XA K C)(he:h.get? e=some oe)(hc:oe.cls=.ref C)(hq:R (.ok (.ret (.ref C))) ⟨h,g,d,t,os⟩):
  lf (model prog w) A (.call (.builtin "BaseException.__getattribute__") ⟨[.ref e,.str "__class__" tk],[]⟩) R ⟨h,g,d,t,os⟩:=by
 refine jt F.excAttr_ValueError.ga.plain F.entry_bexc_ga ?_;have l1:=W.looks_subIn (M:=model prog w) X a.be;have ar:=F.args_bexc_ga (.ref e) (.str "__class__" tk);have z1:ve "BaseException.__getattribute__"=some .slot:=by decide+kernel
 have z2:splitId "BaseException.__getattribute__"=some ("BaseException","__getattribute__"):=by decide+kernel
 simp only[nc,z1,z2];refine aa ?_;unfold qj
 repeat (first|(with_reducible refine zkj X a he hc ?_;exact hq)|(with_reducible refine ce he ?_;rw[hc])|with_reducible refine l1.at ?_|wp_step)
theorem x_by {tk:Tok}{Q:Value->aw->Prop}(X:K.In h)(a:XA K C)(he:h.get? e=some oe)(hc:oe.cls=.ref C)(hq:Q (.ref C) ⟨h,g,d,t,os⟩):
  wpAny (model prog w) A (getAttrBy (.ref e) (.str "__class__" tk) false) Q E ⟨h,g,d,t,os⟩:=by
 have f3:=F.excAttr_ValueError.ga.bind (.ref e);have x2:(Value.builtin "BaseException.__getattribute__"==Value.builtin "object.__getattribute__")=false:=by decide+kernel
 have x1:(onTheHeap (Value.ref C)&&Value.builtin "BaseException.__getattribute__"==Value.builtin "object.__getattribute__")=false:=by rw[x2];rfl
 have l1:=W.looks_findIn (M:=model prog w) X a.ga;have l2:=W.looks_findIn (M:=model prog w) X a.gt
 repeat (any_goals (first|assumption|(with_reducible refine ce he ?_;rw[hc])|with_reducible refine l1.at ?_|with_reducible refine l2.at ?_|wp_step))
 refine x_call X a he hc ?_
 repeat' first|assumption|wp_step
theorem UI (X:K.In h)(a:XA K C)(he:h.get? e=some oe)(hc:oe.cls=.ref C)(hq:Q (some (.ref C)) ⟨h,g,d,t+1,os⟩):wpAny (model prog w) A (getAttr? (.ref e) "__class__") Q E ⟨h,g,d,t,os⟩:=by repeat (any_goals (first|assumption|with_reducible apply x_by X a he hc|wp_step))
theorem UJ (q:gB K C=true)(e:W.subIn K (.ref C) (.ref C)=some b):b=true:=by obtain⟨dd,cd,bm,k0,k1,k2,k3,k5,ho,hm,_⟩:=z6 q;rw[<-L7 ho hm e,o0,beq_self_eq_true,Bool.true_or]
structure XV (K:W.Frag)(v:Value):Prop where
 ty:∀(M:Model) (h:Heap),K.In h->W.Looks M h (vx v) (.type "type")
 is:∀(M:Model) (h:Heap),K.In h->W.Looks M h (isType v) true
theorem L9 {D:Addr}(X:K.In h)(q:(W.clsIn K D).isSome=true):W.Looks M h (isType (.ref D)) true:=by
 unfold W.clsIn at q;split at q
 ·rename_i ho;intro A Q E s k z;refine aa (vj (k _ _ (X _ _ ho)) ?_);exact aj z
 ·cases q
theorem XV.own {D:Addr}(t:W.typeIn K (.ref D)=some (.type "type"))(q:(W.clsIn K D).isSome=true):XV K (.ref D):=⟨λM h X=>W.looks_typeIn X t,λM h X=>L9 X q⟩
theorem XV.val:XV K (.type "ValueError"):=⟨λM h X=>W.Looks.of_pure (by kernel_rfl),λM h X=>W.Looks.of_pure rfl⟩
theorem zu2 (X:K.In h)(a:XA K C)(he:h.get? e=some oe)(hc:oe.cls=.ref C)(hv:XV K v)(hs:W.subIn K (.ref C) v=some b)(h1:Q (.done (.ret (.bool b))) ⟨h,g,d,t,os⟩)(h2:Q (.done (.ret (.bool b))) ⟨h,g,d,t+1,os⟩):
  wpAny (model prog w) A (Builtin.«isinstance.nested» ⟨[.ref e,v,.int dep tk],[]⟩) Q E ⟨h,g,d,t,os⟩:=by
 have l0:=z5s (M:=model prog w) he hc;have l4:=W.looks_subIn (M:=model prog w) X hs;unfold Builtin.«isinstance.nested»;refine aa (l0.at ?_);by_cases q:(Value.ref C==v)=true
 ·rw[vy q];have hb:b=true:=by cases wj q;exact UJ a.ex hs
  subst hb;exact aa (k8 (aa (aj (aj h1))))
 ·rw[vz q];refine aa ((hv.ty (model prog w) h X).at ?_)
  k_delta "plainIsInstance"
  refine aa (aa ((hv.is (model prog w) h X).at ?_));refine aa ((l0.andThen l4).at ?_);cases b with
  |true=>exact aj (aj h1)
  |false=>refine aa (UI X a he hc ?_);refine aa ((L9 (M:=model prog w) X a.is).at ?_);refine aa (k8 ?_);exact l4.at (aj h2)
theorem ztv (X:K.In s.heap)(a:XA K C)(he:s.heap.get? e=some oe)(hc:oe.cls=.ref C)(hv:XV K v)(hs:W.subIn K (.ref C) v=some b)(hq:∀t',Q (.bool b) {s with toks:=t'}):
  wpAny (model prog w) A (call (.builtin "isinstance") [.ref e,v]) Q E s:=
 call_isinstance (S:=λ_ R s=>(K.In s.heap/\s.heap.get? e=some oe)/\∀t',R (.ok (.ret (.bool b))) {s with toks:=t'}) (λ_ _ _ _ s rH=>isinstance_outer (by obtain⟨h,g,d,t,os⟩:=s;exact zu2 rH.1.1 a rH.1.2 hc hv hs (rH.2 t) (rH.2 (t+1))) nofun) ⟨⟨X,he⟩,hq⟩
end
theorem UK (f:Array Value->Array Value)(o:Obj):(Obj.mapFields f o).dict=o.dict:=by unfold Obj.mapFields;split<;>rfl
def TrD (h base:Heap)(e:Addr)(cls:Value)(dd:Option Addr)(fl:Value):Prop:=∃ob vs T tr ts,h.get? e=some ob/\ob.cls=cls/\ob.dict=dd/\ob.data=.fields vs/\vs[1]?=some (.ref T)/\base.get? T=none/\T≠e/\h.get? T=some tr/\tr.data=.fields ts/\ts[3]?=some fl
def FlD (base:Heap)(l:List Env)(e:Addr)(cls:Value)(dd:Option Addr)(h:Heap):Prop:=base.StaysIn h/\base.get? e=none/\h.FunFrames base l/\TrD h base e cls dd .none
def Ma (base:Heap)(l:List Env)(e:Addr)(cls:Value)(dd:Option Addr)(L:Addr)(h:Heap):Prop:=base.StaysIn h/\base.get? e=none/\h.FunFrames base l/\TrD h base e cls dd (fg L)
theorem FlD.first (x:FlD base l e cls dd h):∃ob vs,h.get? e=some ob/\ob.cls=cls/\ob.dict=dd/\ob.data=.fields vs:=by obtain⟨_,_,_,ob,vs,_,_,_,h1,h2,h3,h4,_⟩:=x;exact⟨ob,vs,h1,h2,h3,h4⟩
section
variable {M:Model}{A:iz}{E:Value->aw->Prop}{s:aw}{base:Heap}{env:Env}{outer:List Env}{L e:Addr}{Q:Unit->aw->Prop}{cls:Value}{dd:Option Addr}
theorem z8p (fr:A.frames=some (env::outer))(ff:s.heap.FunFrames base (env::outer))(el:env.frame=some L)(ge:s.heap.get? e=some ob)(st:base.StaysIn s.heap)(be:base.get? e=none)(da:ob.data=.fields vs)(sz:1<vs.size)
  (go:∀h',base.StaysIn h'->h'.FunFrames base (env::outer)->TrD h' base e ob.cls ob.dict (fg L)->s.heap.UpToSlots h'->Q () {s with heap:=h'}):
  wpAny M A (do
   let a <-frameOf env
   let pl <-entryPlaceOf L hn
   let b <-EntryCells.newEntry head a .none (fg L) .none pl
   setField (.ref e) 1 b) Q E s:=by
 have UL:e∉(env::outer).filterMap (·.frame):=λz=>by obtain⟨_,o,q,n⟩:=ff.mem z;rw[ge]at q;cases q;exact n vs da
 refine aa (wpAny_frameOf_fun fr ff el λh1 k1=>aa (wpAny_entryPlaceOf λpl hp=>?_));refine aa (jr ?_ (hp.sizeOk5 _ _ _ _ _));have ge1:h1.get? e=some ob:=by rw[k1.2.1 e UL];exact ge
 have tR:base.StaysIn h1:=λb o q=>by rw[k1.2.1 b λz=>by rw[(ff.mem z).1]at q;cases q];exact st b o q
 generalize ht:({cls:=.type "traceback",dict:=none,data:=.fields ([head,.ref L,.none,fg L,.none]++(if pl.isEmpty then bq 6 Value.none else pl)).toArray}:Obj)=tr;have Mb:=af tr ge1;have Te:h1.objs.size≠e:=λz=>absurd (bc ge1) (by rw[z];exact cw _);refine mr Mb da sz (go _ ?_ ?_ ?_ ?_)
 all_goals generalize hg:(λv:Array Value=>v.setIfInBounds 1 (Value.ref h1.objs.size))=g
 all_goals
  have dm:=Obj.data_mapFields da g;have T3:((h1.push tr).update e (Obj.mapFields g)).get? h1.objs.size=some tr:=by rw[gk _ _ (Ne.symm Te)];exact au h1 (by rw[<-ht];rfl)
  have keep:∀b o,b≠e->h1.get? b=some o->((h1.push tr).update e (Obj.mapFields g)).get? b=some o:=λb o n q=>by rw[gk _ _ (Ne.symm n)];exact af _ q
  have eE:∀b o,s.heap.get? b=some o->(∀vs,o.data≠.fields vs)->b≠e:=λb o q n z=>by rw[z,ge]at q;cases q;exact n vs da
 ·exact λb o q=>keep b o (λz=>by rw[z,be]at q;cases q) (tR b o q)
 ·refine ff.of_keeps λb o q n=>?_;obtain⟨sl,z⟩:=k1.2.2 b o q;exact⟨_,keep b _ (eE b o q n) z,rfl⟩
 ·refine⟨_,_,h1.objs.size,tr,_,d7 (Obj.mapFields g) Mb (Obj.isFreed_of_fields dm),Obj.cls_mapFields _ _,UK _ _,dm,?_,tR.fresh,Te,T3,by rw[<-ht],?_⟩
  ·rw[<-hg];simp[sz]
  ·first|(simp;done)|(rcases hp with rfl|⟨_,_,_,_,_,_,_,rfl⟩<;>simp)
 ·exact λb o q n=>by obtain⟨sl,z⟩:=k1.2.2 b o q;exact⟨sl,keep b _ (eE b o q n) z⟩
theorem zgh (fr:A.frames=some (env::outer))(ff:s.heap.FunFrames base (env::outer))(el:env.frame=some L)(ge:s.heap.get? e=some ob)(st:base.StaysIn s.heap)(be:base.get? e=none)(da:ob.data=.fields vs)(v1:vs[1]?=some .none)
  (go:∀h',base.StaysIn h'->h'.FunFrames base (env::outer)->TrD h' base e ob.cls ob.dict (fg L)->s.heap.UpToSlots h'->Q () {s with heap:=h'}):wpAny M A (kr (.ref e) env) Q E s:=by
 unfold kr;simp only[el];refine aa (dq ge da v1 ?_);exact z8p fr ff el ge st be da (jh.mp v1).1 go
theorem zjg (fr:A.frames=some (env::outer))(ff:s.heap.FunFrames base (env::outer))(el:env.frame=some L)(tr:TrD s.heap base e cls dd .none)(st:base.StaysIn s.heap)(be:base.get? e=none)
  (go:∀h',base.StaysIn h'->h'.FunFrames base (env::outer)->TrD h' base e cls dd (fg L)->s.heap.UpToSlots h'->Q () {s with heap:=h'}):wpAny M A (kr (.ref e) env) Q E s:=by
 obtain⟨ob,vs,T,oT,ts,ge,rfl,rfl,da,v1,bT,Te,gT,dT,t3⟩:=tr;unfold kr;simp only[el];refine aa (dq ge da v1 ?_);refine aa (dq gT dT t3 ?_);refine aa (mr gT dT (jh.mp t3).1 ?_);generalize hg:(λv:Array Value=>v.setIfInBounds 3 Value.none)=g;have rJ:∀b,b≠T->(s.heap.update T (Obj.mapFields g)).get? b=s.heap.get? b:=λb n=>gk _ _ (Ne.symm n);have eE:∀b o,s.heap.get? b=some o->(∀vs,o.data≠.fields vs)->b≠T:=λb o q n z=>by rw[z,gT]at q;cases q;exact n ts dT
 refine z8p fr (ff.of_keeps λb o q n=>⟨o,by rw[<-q];exact rJ b (eE b o q n),rfl⟩) el ((rJ e (Ne.symm Te)).trans ge) (λb o q=>(rJ b λz=>by rw[z,bT]at q;cases q).trans (st b o q)) be da (jh.mp v1).1 λh' k1 k2 k3 k4=>go h' k1 k2 k3 λb o q n=>k4 b o ((rJ b (eE b o q n)).trans q) n
theorem zbn (st:base.StaysIn s.heap)(ff:s.heap.FunFrames base l)(tr:TrD s.heap base e cls dd fl)
  (go:∀h',base.StaysIn h'->h'.FunFrames base l->TrD h' base e cls dd .none->s.heap.UpToSlots h'->Q () {s with heap:=h'}):wpAny M A (l9 (.ref e) none) Q E s:=by
 obtain⟨ob,vs,T,oT,ts,ge,hc,hd,da,v1,bT,Te,gT,dT,t3⟩:=tr;have sz:=(jh.mp t3).1;refine aa (dq ge da v1 ?_);refine mr gT dT sz ?_;generalize hg:(λv:Array Value=>v.setIfInBounds 3 ((none:Option Addr).elim Value.none λf=>fg f))=g;have rJ:∀b,b≠T->(s.heap.update T (Obj.mapFields g)).get? b=s.heap.get? b:=λb n=>gk _ _ (Ne.symm n);have eE:∀b o,s.heap.get? b=some o->(∀vs,o.data≠.fields vs)->b≠T:=λb o q n z=>by rw[z,gT]at q;cases q;exact n ts dT
 refine go _ (λb o q=>(rJ b λz=>by rw[z,bT]at q;cases q).trans (st b o q)) (ff.of_keeps λb o q n=>⟨o,(rJ b (eE b o q n)).trans q,rfl⟩) ⟨ob,vs,T,_,_,(rJ e (Ne.symm Te)).trans ge,hc,hd,da,v1,bT,Te,d7 _ gT (Obj.isFreed_of_fields (Obj.data_mapFields dT _)),Obj.data_mapFields dT _,by rw[<-hg];simp[sz]⟩ λb o q n=>⟨o.slots,(rJ b (eE b o q n)).trans q⟩
theorem z8r (fr:A.frames=some (env::outer))(el:env.frame=some L)(fl:FlD base (env::outer) e cls dd s.heap)
  (go:∀h',Ma base (env::outer) e cls dd L h'->s.heap.UpToSlots h'->Q () {s with heap:=h'}):wpAny M A (kr (.ref e) env) Q E s:=by
 obtain⟨f1,f2,f3,f4⟩:=fl;exact zjg fr f3 el f4 f1 f2 λh' k1 k2 k3 k4=>go h' ⟨k1,f2,k2,k3⟩ k4
theorem Mc (x:Ma base l e cls dd L s.heap)(go:∀h',FlD base l e cls dd h'->s.heap.UpToSlots h'->Q () {s with heap:=h'}):wpAny M A (l9 (.ref e) none) Q E s:=by obtain⟨f1,f2,f3,f4⟩:=x;exact zbn f1 f3 f4 λh' k1 k2 k3 k4=>go h' ⟨k1,f2,k2,k3⟩ k4
theorem UM (x:FlD base l e cls dd s.heap)(go:∀h',FlD base l e cls dd h'->s.heap.UpToSlots h'->Q () {s with heap:=h'}):wpAny M A (l9 (.ref e) none) Q E s:=by obtain⟨f1,f2,f3,f4⟩:=x;exact zbn f1 f3 f4 λh' k1 k2 k3 k4=>go h' ⟨k1,f2,k2,k3⟩ k4
theorem zer (fr:A.frames=some (env::outer))(el:env.frame=some L)(fl:FlD base (env::outer) e cls dd s.heap)
  (go:∀h',FlD base outer e cls dd h'->s.heap.UpToSlots h'->Q () {s with heap:=h'}):wpAny M A (vg env (.ref e)) Q E s:=by
 refine aa (z8r fr el fl λh1 k1 u1=>Mc k1 λh2 k2 u2=>?_);obtain⟨f1,f2,⟨_,_,f3⟩,f4⟩:=k2;exact go h2 ⟨f1,f2,f3,f4⟩ (u1.trans u2)
theorem zd0 (fr:A.frames=some (env::outer))(ff:s.heap.FunFrames base (env::outer))(el:env.frame=some L)(ge:s.heap.get? e=some ob)(st:base.StaysIn s.heap)(be:base.get? e=none)(da:ob.data=.fields vs)(v1:vs[1]?=some .none)
  (go:∀h',FlD base outer e ob.cls ob.dict h'->s.heap.UpToSlots h'->Q () {s with heap:=h'}):wpAny M A (vg env (.ref e)) Q E s:=by
 refine aa (zgh fr ff el ge st be da v1 λh1 k1 k2 k3 u1=>zbn k1 k2 k3 λh2 j1 j2 j3 u2=>?_);obtain⟨_,_,f3⟩:=j2;exact go h2 ⟨j1,be,f3,j3⟩ (u1.trans u2)
end
structure Fly (P:cf)(w:World)(base:Heap)(outer:List Env)(H:Hp)(s:aw)(C a:Addr)(H':Hp)(s':aw)(dd:Option Addr):Prop where
 os:s'.os=s.os
 bare:og s'.gens
 cU:∀b xs,H b=some (.tup xs)->H' b=some (.tup xs)
 cK:∀b o u,H b=some (.gH o u)->H' b=some (.gH o u)
 cV:∀b ps,H b=some (.pL ps)->∃more,H' b=some (.pL (ps++more))
 free:∀b o,s.heap.get? b=some o->H b=none->H' b=none
 hh:∃B,base.StaysIn B/\HOk P w H' B/\(∀b o,s.heap.get? b=some o->b∉frs outer->∃o',B.get? b=some o'/\(H b=none->o'=o))/\FlD B outer a (.ref C) dd s'.heap
 slot:∀b o,s.heap.get? b=some o->H b=none->b∈frs outer->∃sl,s'.heap.get? b=some {o with slots:=sl}
def CXE (P:cf)(w:World)(base:Heap):CXT:=λouter H s E e s'=>∃a C dd H',e=.ref a/\Fly P w base outer H s C a H' s' dd/\E (.ref C) dd H'
theorem UN (x:z1j P w H h a o):∃ob,h.get? a=some ob:=by
 cases o with
 |lst xs=>obtain⟨_,_,_,_,e⟩:=x;exact⟨_,e⟩
 |tup xs=>obtain⟨_,_,_,_,e⟩:=x;exact⟨_,e⟩
 |dK kvs=>obtain⟨_,_,_,_,o,_,_,e,_⟩:=x;exact⟨_,e⟩
 |dT kvs=>obtain⟨_,_,_,_,o,_,_,e,_⟩:=x;exact⟨_,e⟩
 |set S n=>obtain⟨o,_,_,_,e,_⟩:=x;exact⟨_,e⟩
 |ins C dx fs=>obtain⟨_,_,_,e,_⟩:=x;exact⟨_,e⟩
 |own y=>exact x
 |xd fs=>obtain⟨_,⟨_,_,_,e,_⟩,_⟩:=x;exact⟨_,e⟩
 |gH ob u=>exact⟨_,x.1⟩
 |pL ps=>exact⟨_,x⟩
 |ext φ=>exact x.2.1
section
variable {P:cf}{w:World}{base:Heap}{outer:List Env}{H H':Hp}{s s':aw}{C a:Addr}{dd:Option Addr}
theorem Fly.hok (f:Fly P w base outer H s C a H' s' dd):HOk P w H' s'.heap:=by obtain⟨B,_,hB,_,fl⟩:=f.hh;exact hB.kept fl.1
theorem Fly.un (f:Fly P w base outer H s C a H' s' dd):Un (frs outer) [] H H' s.heap s'.heap:=by
 obtain⟨B,_,hB,pX,fl⟩:=f.hh;refine⟨λb o e n hb _=>?_,λb o e n hb _=>f.slot b o e n hb,λb o e n _=>f.free b o e n,λb o e _=>?_,f.cU,f.cK,f.cV⟩
 ·obtain⟨o',e1,e2⟩:=pX b o e hb;rw[e2 n]at e1;exact fl.1 b o e1
 ·by_cases hb:b∈frs outer
  ·obtain⟨_,o3,e3,_⟩:=fl.2.2.1.mem hb;exact⟨o3,e3⟩
  ·obtain⟨o',e1,_⟩:=pX b o e hb;exact⟨o',fl.1 b o' e1⟩
end
section
variable {X:Cx}{pins:List (Addr×Obj)}{U:L2.St}{H H':Hp}{s s':aw}{C a:Addr}{dd:Option Addr}
theorem Fly.inv (f:Fly X.prog X.w X.base X.stack H s C a H' s' dd)(I:Inv X pins U H s):Inv X pins U H' s':=by obtain⟨h',g,d,t,o⟩:=s';obtain rfl:o=s.os:=f.os;exact I.call f.un f.hok f.bare λb z=>nomatch z
theorem Fly.leave {M:Model}{outer:List Env}{Q:Unit->aw->Prop}{E:Value->aw->Prop}(f:Fly X.prog X.w X.base X.stack H s C a H' s' dd)(I:Inv X pins U H s)(hs:X.stack=X.env::X.outer)(hf:X.env.frame=some X.env.locals)(hx:X.ex=[])
  (hQ:∀pM,Fly X.prog X.w X.base X.outer X.iB X.s₀ C a H' pM dd->Q () pM):wpAny M X.A (vg X.env (.ref a)) Q E s':=by
 obtain⟨B,hb,hB,pX,fl⟩:=f.hh;rw[hs]at fl;have zj:X.A.frames=some (X.env::X.outer):=by rw[<-hs];exact I.ok.frames
 have u0:=I.base
 have rK:∀b o,X.s₀.heap.get? b=some o->b∉frs X.outer->b∉frs X.stack:=λb o e hn z=>by
  rw[hs]at z;unfold frs at z hn;rw[eh,hf]at z;rcases ao.mp z with z|z
  ·exact absurd (bc e) (by rw[z];exact Nat.not_lt.mpr I.ok.above)
  ·exact hn z
 have slot:∀h',s'.heap.UpToSlots h'->∀b o,X.s₀.heap.get? b=some o->X.iB b=none->b∈frs X.outer->∃sl,h'.get? b=some {o with slots:=sl}:=λh' up b o e n hn=>by
  have nx:b∉X.ex:=by rw[hx];simp
  obtain⟨sl,e1⟩:=I.base.slot b o e n hn nx;have hst:b∈frs X.stack:=by rw[hs];unfold frs;rw[eh,hf];exact ah _ hn
  obtain⟨nQ,e2⟩:=f.slot b _ e1 (I.base.free b o e n nx) hst;obtain⟨_,o3,e3,nd⟩:=I.ok.cW.mem hn;rw[e]at e3;cases e3;obtain⟨z7,e4⟩:=up b _ e2 nd;exact⟨z7,e4⟩
 refine zer zj hf fl λh' GO up=>hQ _ ⟨f.os.trans I.os,f.bare,λb xs e=>f.cU b xs (u0.cU b xs e),λb o u e=>f.cK b o u (u0.cK b o u e),λb ps e=>?_,λb o e n=>?_,⟨B,hb,hB,λb o e hn=>?_,GO⟩,slot h' up⟩
 ·obtain⟨m1,e1⟩:=u0.cV b ps e;obtain⟨m2,e2⟩:=f.cV b _ e1;exact⟨m1++m2,by rw[e2,tf]⟩
 ·have nx:b∉X.ex:=by rw[hx];simp
  obtain⟨o',e'⟩:=I.base.there b o e nx;exact f.free b o' e' (I.base.free b o e n nx)
 ·have nx:b∉X.ex:=by rw[hx];simp
  obtain⟨o1,e1⟩:=I.base.there b o e nx;obtain⟨o2,e2,e3⟩:=pX b o1 e1 (rK b o e hn);refine⟨o2,e2,λn=>?_⟩;rw[e3 (I.base.free b o e n nx)];have:=I.base.keep b o e n hn nx;rw[this]at e1;cases e1;rfl
theorem UO (x:HOk P w H h)(n:∀b∈l,H b=none):HOk P w H (W.hideAll h l):=λb o e=>by
 refine(x b o e).stay (λc u hc q=>W.hideAll_get _ q λz=>?_) (λ_ q=>q) λ_ _ q=>q;rcases hc with rfl|hc
 ·rw[n c z]at e;cases e
 ·rw[n c z]at hc;cases hc
theorem zdc (I:Inv X pins U H s)(h0:X.s₀.heap.get? a=none)(hH:H a=none)(ge:s.heap.get? a=some ob)(hc:ob.cls=.ref C)(da:ob.data=.fields vs)(v1:vs[1]?=some .none)(hs:X.stack=X.env::X.outer)(hf:X.env.frame=some X.env.locals)(hx:X.ex=[])
  (hQ:∀pM,Fly X.prog X.w X.base X.outer X.iB X.s₀ C a H pM ob.dict->Q () pM):wpAny M X.A (vg X.env (.ref a)) Q E s:=by
 have nx:∀b,b∉X.ex:=λb=>by rw[hx];simp
 have hst:=I.stack;rw[hs]at hst
 have eA:∀b∈a::frs (X.env::X.outer),H b=none:=λb hb=>by
  rcases ao.mp hb with rfl|hb
  ·exact hH
  ·exact I.gK b (by rw[hs];exact hb)
 have rK:∀b o,X.s₀.heap.get? b=some o->b∉frs X.outer->b∉a::frs (X.env::X.outer):=λb o e hn z=>by
  rcases ao.mp z with rfl|z
  ·rw[h0]at e;cases e
  unfold frs at z hn;rw[eh,hf]at z;rcases ao.mp z with z|z
  ·exact absurd (bc e) (by rw[z];exact Nat.not_lt.mpr I.ok.above)
  ·exact hn z
 refine zd0 (base:=W.hideAll s.heap (a::frs (X.env::X.outer))) (by rw[<-hs];exact I.ok.frames) (W.funFrames_hide hst (λenv he b hb=>ah _ (ou.mpr ⟨env,he,hb⟩))) hf ge (λb o q=>W.of_hideAll _ q) (W.hideAll_none _ ak) da v1 λh' fl up=>hQ _ ⟨I.os,I.bare,I.base.cU,I.base.cK,I.base.cV,λb o e n=>I.base.free b o e n (nx b),⟨_,λb o e=>W.hideAll_get _ (I.bk b o e) (rK b o (I.ok.bs b o e).1 (I.ok.yz e)),UO I.hok eA,λb o e hn=>?_,by rw[hc]at fl;exact fl⟩,λb o e n hn=>?_⟩
 ·obtain⟨o1,e1⟩:=I.base.there b o e (nx b);refine⟨o1,W.hideAll_get _ e1 (rK b o e hn),λn=>?_⟩;rw[I.base.keep b o e n hn (nx b)]at e1;cases e1;rfl
 obtain⟨sl,e1⟩:=I.base.slot b o e n hn (nx b);obtain⟨_,o3,e3,nd⟩:=I.ok.cW.mem hn;rw[e]at e3;cases e3;obtain⟨z7,e4⟩:=up b _ e1 nd;exact⟨z7,e4⟩
end
def Md (K:W.Frag)(mg:Str->Option Value)(n:Nat)(m:Fn):Sp:=λvs H _ E=>∃A ds c,vs.length=n/\aD K H A vs ds/\excOf (m ds)=some c/\∀C H',mg c=some (.ref C)->Same H H'->E (.ref C) none H'
def oU (P:cf)(w:World)(K:W.Frag)(mg:Str->Option Value)(base:Heap)(k:Nat)(x:Str)(ps:List Str)(n:Nat)(m:Fn):Prop:=∃f fd,FnOk P w K mg base (CXE P w base) k f fd ps (Md K mg n m)/\mg x=some (.ref f)/\W.keepIn K (.ref f)=true/\Binds K fd ps []
def jT (X:Cx)(i:Nat)(n:Str)(a:Addr)(oe:Obj):Cx:={X with A:=X.A.mark (some (.ref a)),N:=X.N.set i "",calm:=false,pn:=(a,oe)::X.pn,xe:=λ_ _=>False,fx:=some (n,.ref a)}
section
variable {X:Cx}{a:Addr}{oe:Obj}
theorem UP (ok:X.Ok)(nd:X.N.Nodup)(hi:X.N[i]?=some n)(hv:X.env.scope.names.lookup ("":Str)=none)(hl:X.env.scope.names.lookup n=some .local):(jT X i n a oe).Ok:=by
 refine⟨ok.mod,ok.kind,ok.glob,ok.blt,ok.above,ok.inj,ok.has,ok.uO,λz=>(by cases z),ok.frames,ok.xF,ok.fD,ok.bs,ok.nB,ok.jD,ok.jE,ok.cW,ok.qF,λx u z=>?_⟩;cases z;refine⟨λhm=>?_,hl⟩;obtain⟨j,hj⟩:=List.mem_iff_getElem?.mp hm;have hj:(X.N.set i "")[j]?=some n:=hj;by_cases e:i=j
 ·subst e;rw[di (bv.mp hi).1]at hj;cases hj;rw[hv]at hl;cases hl
 ·rw[cr e]at hj;exact e (BV nd hi hj)
theorem zp6 (I:Inv X pins U H s)(nd:X.N.Nodup)(hi:X.N[i]?=some n)(hv:X.env.scope.names.lookup ("":Str)=none)(hl:X.env.scope.names.lookup n=some .local)(hσ:U[i]?=some (some (.ref a)))
  (ho:s.heap.get? a=some oe) (hH:H a=none) (h1:a≠X.env.locals) (h2:a∉X.fs) (h3:∀v,oe.data≠.cell v):Inv (jT X i n a oe) pins (U.set i none) H s:=by
 obtain⟨m,hn,wI⟩:=I.loc;refine⟨UP I.ok nd hi hv hl,I.os,I.bare,I.base,⟨m,hn,λj x v e1 e2 e3=>?_⟩,I.cell,I.free,I.bF,λp hp=>?_,I.hok,?_,λx u z=>?_⟩
 ·have e1:(X.N.set i "")[j]?=some x:=e1;by_cases e:i=j
  ·subst e;rw[di (by rw[I.len];exact(bv.mp hi).1)]at e2;cases e2
  ·rw[cr e]at e1 e2;exact wI j x v e1 e2 e3
 ·rcases ao.mp hp with rfl|hp
  ·exact⟨ho,hH,h1,h2,h3⟩
  ·exact I.pin p hp
 ·show(U.set i none).length=(X.N.set i "").length;rw[dw,dw];exact I.len
 ·cases z;obtain⟨u,rfl,q⟩:=wI i n (.ref a) hi hσ (.inl hl);rcases q with⟨_,q⟩|⟨k,_⟩
  ·exact⟨m,hn,q⟩
  ·have k:X.env.scope.names.lookup n=some .cell\/X.env.scope.names.lookup n=some .free:=k;rcases k with k|k<;>(rw[hl]at k;cases k)
theorem UQ (ok:X.Ok)(hx:X.fx=none)(hi:X.N[i]?=some n)(I:Inv (jT X i n a oe) pins U H s):Inv X pins (U.set i none) H s:=by
 obtain⟨m,hn,wI⟩:=I.loc;have hlen:U.length=(X.N.set i "").length:=I.len;rw[dw]at hlen;refine⟨ok,I.os,I.bare,I.base,⟨m,hn,λj x v e1 e2 e3=>?_⟩,I.cell,I.free,I.bF,λp hp=>I.pin p (ah _ hp),I.hok,by rw[dw];exact hlen,λx u z=>by rw[hx]at z;cases z⟩;by_cases e:i=j
 ·subst e;rw[di (by rw[hlen];exact(bv.mp hi).1)]at e2;cases e2
 ·rw[cr e]at e2;exact wI j x v (show(X.N.set i "")[j]?=some x by rw[cr e];exact e1) e2 e3
theorem zpi (I:Inv X pins U H s)(hx:X.fx=none)(nd:X.N.Nodup)(hi:X.N[i]?=some n)(hl:X.env.scope.names.lookup n=some .local)(hσ:U[i]?=some (some v))
  (h:∀s',Inv X pins (U.set i none) H s'->Q () s'):wpAny M A (nv X.env n pos) Q E s:=by
 obtain⟨m,hn,wI⟩:=id I.loc;have mG:=I.mG;obtain⟨u,r,q⟩:=wI i n v hi hσ (.inl hl)
 have hv:m n=some u:=by
  rcases q with⟨_,q⟩|⟨k,_⟩
  ·exact q
  ·have k:X.env.scope.names.lookup n=some .cell\/X.env.scope.names.lookup n=some .free:=k;rcases k with k|k<;>(rw[hl]at k;cases k)
 refine nh (wpAny_unbindName_local hl hn hv (by rw[I.ok.kind];rfl) λh' u' xG hs=>h _ ?_);have old:∀b o,X.s₀.heap.get? b=some o->b≠X.env.locals:=λb o e=>bz (b9 (bc e) I.ok.above);refine⟨I.ok,I.os,I.bare,⟨λb o e z hb hx=>(hs.2 b (old b o e)).trans (I.base.keep b o e z hb hx),λb o e z hb hx=>?_,I.base.free,λb o e hx=>?_,I.base.cU,I.base.cK,I.base.cV⟩,⟨_,xG,λj y w e1 e2 e3=>?_⟩,λy c e=>?_,I.free,I.bF,λp hp=>?_,λb ob e=>?_,by rw[dw];exact I.len,λx u z=>by rw[hx]at z;cases z⟩
 ·obtain⟨sl,e1⟩:=I.base.slot b o e z hb hx;exact⟨sl,(hs.2 b (old b o e)).trans e1⟩
 ·obtain⟨o',e1⟩:=I.base.there b o e hx;exact⟨o',(hs.2 b (old b o e)).trans e1⟩
 ·by_cases hj:i=j
  ·subst hj;rw[di (by rw[I.len];exact(bv.mp hi).1)]at e2;cases e2
  ·rw[cr hj]at e2;obtain⟨u2,r2,q2⟩:=wI j y w e1 e2 e3;refine⟨u2,r2,?_⟩;have hy:y≠n:=λz=>hj (BV nd hi (z▸e1));rcases q2 with⟨k,q2⟩|⟨k,c,e,z⟩
   ·exact .inl ⟨k,by simp only[vz hy];exact q2⟩
   ·exact .inr ⟨k,c,e,z.sameBut hs (mG y c e)⟩
 ·obtain⟨w,z⟩:=I.cell y c e;exact⟨w,z.sameBut hs (mG y c e)⟩
 ·obtain⟨e,nn,ne,nf,dd⟩:=I.pin p hp;exact⟨(hs.2 p.1 ne).trans e,nn,ne,nf,dd⟩
 ·have nl:∀c w,H c=some w->c≠X.env.locals:=λc w q z=>by rw[z,I.free]at q;cases q
  exact(I.hok b ob e).stay (λc w hc q=>(hs.2 c (hc.elim (λz=>by rw[z];exact nl b _ e) λz=>nl c _ z)).trans q) (λ_ q=>q) λ_ _ q=>q
theorem zct (ok:X.Ok)(hx:X.fx=none)(nd:X.N.Nodup)(hi:X.N[i]?=some n)(hl:X.env.scope.names.lookup n=some .local)(hnx:∀σ' H',D2.nx σ' H'->Dn.nx (σ'.set i none) H')(hrt:∀v H',D2.rt v H'->Dn.rt v H')(hbk:∀σ' H',¬D2.bk σ' H')(hct:∀σ' H',¬D2.ct σ' H')
  (h:SP (jT X i n a oe) pins D2 f s):wpAny M X.A (do bindName X.env n .none;nv X.env n pos) (λ_ s5=>SP X pins Dn f s5) E s:=by
 have key:∀{σ':L2.St} {H':Hp} {Q:Unit->aw->Prop},Inv (jT X i n a oe) pins σ' H' s->(∀s5,Inv X pins (σ'.set i none) H' s5->Q () s5)->wpAny M X.A (do bindName X.env n .none;nv X.env n pos) Q E s:=λ{σ' H' Q} I k=>by have I1:=UQ ok hx hi I;refine aa (wpAny_bindName (z45 I1 nd hi (.inl hl) (v:=.non) rfl (λs4 I4 _=>?_) (.inr hl)));refine zpi I4 hx nd hi hl (di (by rw[I1.len];exact(bv.mp hi).1)) λs5 I5=>k s5 ?_;rw[uw,uw]at I5;exact I5
 cases f with
 |next=>obtain⟨σ',H',I,q⟩:=h;exact key I λs5 I5=>⟨_,H',I5,hnx σ' H' q⟩
 |ret u=>obtain⟨v,σ',H',I,r,q⟩:=h;exact key I λs5 I5=>⟨v,_,H',I5,r,hrt v H' q⟩
 |brk=>obtain⟨σ',H',_,q⟩:=h;exact(hbk σ' H' q).elim
 |cont=>obtain⟨σ',H',_,q⟩:=h;exact(hct σ' H' q).elim
theorem Me {C:Addr}(f:Fly P w base outer H s C a H' s' dd):H' a=none:=by
 obtain⟨B,_,hB,_,fl⟩:=f.hh;cases e:H' a with
 |none=>rfl
 |some u=>obtain⟨o,q⟩:=UN (hB a u e);rw[fl.2.1]at q;cases q
theorem zdy {C D:Addr}(inv:∀h6,FlD B0 (X.env::X.outer) a (.ref C) dd h6->s'.heap.UpToSlots h6->Inv X pins U H' {s' with heap:=h6})(w0:FlD B0 (X.env::X.outer) a (.ref C) dd s'.heap)(hHa:H' a=none)(hs:X.stack=X.env::X.outer)(hf:X.env.frame=some X.env.locals)(hx:X.fx=none)(nd:X.N.Nodup)(hi:X.N[i]?=some n)(hv:X.env.scope.names.lookup ("":Str)=none)(hl:X.env.scope.names.lookup n=some .local)
  (hB:X.mg B=some (.ref D)) (hm:∀A E Q s6 oe,X.K.In s6.heap->s6.heap.get? a=some oe->oe.cls=.ref C->Q true s6->wpAny (model X.prog X.w) A (t9 (.ref a) (.ref D)) Q E s6) (rL:Gl X B) (rM:Z9 B)
  (hQ:∀f s,SP X pins Dn f s->Q f s) (z8:∀oe ws,oe.cls=.ref C->oe.dict=dd->oe.data=.fields ws->PSs (jT X i n a oe) (b0::iJ) T) (q:T ⟨λσ' eY=>Dn.nx (σ'.set i none) eY,Dn.rt,λ_ _=>False,λ_ _=>False⟩ (U.set i none) H'):
  wpAny (model X.prog X.w) X.A (kr (.ref a) X.env) (λ_ s2=>wpAny (model X.prog X.w) X.A (l9 (.ref a) none) (λ_ s3=>wpAny (model X.prog X.w) X.A (q9 (.ref a) X.env [.ExceptHandler (some (.Name B np)) (some n) (b0::iJ) hp]) Q X.xe s3) X.xe s2) X.xe s':=by
 have ok:=(inv _ w0 (Heap.UpToSlots.refl _)).ok;refine z8r (by rw[<-hs];exact ok.frames) hf w0 λh4 held Mf=>Mc held λh5 w5 Mh=>?_;have I5:=inv h5 w5 (Mf.trans Mh);refine wpAny_handleBy_cons (codeAny_handlers_test ?_) (by intro z;cases z);refine ky I5.ok.kind rL (pv (by rw[I5.ok.glob];exact I5.mod.glob.keeps I5.bk) hB ?_) rM;obtain⟨ob,_,nV,GP,_⟩:=w5.first;refine hm _ _ _ _ ob I5.dB nV GP (codeAny_handlers_suite_as (UM w5 λh6 w6 UR=>?_));have I6:=inv h6 w6 ((Mf.trans Mh).trans UR);obtain⟨oe,ws,mS,GQ,GR,oV⟩:=w6.first;refine z45 I6 nd hi (.inl hl) (v:=.ref a) rfl (λs7 I7 ch=>?_) (.inr hl);obtain⟨ad,US,UT⟩:=ch;have nL:a≠X.env.locals:=λz=>by obtain⟨_,o3,e3,z9⟩:=I6.stack.mem (by rw[hs,eh,hf];exact ak);rw[<-z]at e3;rw[mS]at e3;cases e3;exact z9 ws oV
 have nF:a∉X.fs:=λz=>by obtain⟨_,o3,e3,z9⟩:=I6.cW.mem z;rw[mS]at e3;cases e3;exact z9 ws oV
 have nA:a≠ad:=λz=>by
  rcases UT with h|h
  ·exact nL (z.trans h)
  ·obtain⟨v,oc,xH,qG⟩:=I6.cell n ad h;rw[<-z]at xH;rw[mS]at xH;cases xH;rw[oV]at qG;cases qG
 have I8:=zp6 I7 nd hi hv hl (di (by rw[I6.len];exact(bv.mp hi).1)) ((US.2 a nA).trans mS) hHa nL nF (λv z=>by rw[oV]at z;cases z);rw[uw]at I8;refine jc (z8 oe ws GQ GR oV pins s7 _ H' ⟨λσ' eY=>Dn.nx (σ'.set i none) eY,Dn.rt,λ_ _=>False,λ_ _=>False⟩ I8 q) (λCN s9 h9=>?_) λ_ _ z=>z.elim;refine jc (zct (D2:=⟨λσ' eY=>Dn.nx (σ'.set i none) eY,Dn.rt,λ_ _=>False,λ_ _=>False⟩) ok hx nd hi hl (λ_ _ z=>z) (λ_ _ z=>z) (λ_ _ z=>z) (λ_ _ z=>z) h9) (λ_ s5 h5=>hQ _ s5 h5) λ_ _ z=>z
theorem Fly.land {C:Addr}(I:Inv X pins U H1 s1)(fl:Fly X.prog X.w X.base X.stack H1 s1 C a H' s' dd)(Ab:X.base.StaysIn B0)(x9:HOk X.prog X.w H' B0)(pX:∀b o,s1.heap.get? b=some o->b∉frs X.stack->∃o',B0.get? b=some o'/\(H1 b=none->o'=o))(w6:FlD B0 X.stack a (.ref C) dd h6)(up:s'.heap.UpToSlots h6):Inv X pins U H' {s' with heap:=h6}:=by refine Fly.inv ⟨fl.os,fl.bare,fl.cU,fl.cK,fl.cV,fl.free,⟨B0,Ab,x9,pX,w6⟩,λb o e z hb=>?_⟩ I;obtain⟨sl,e1⟩:=fl.slot b o e z hb;obtain⟨_,o3,e3,z9⟩:=I.stack.mem hb;rw[e]at e3;cases e3;obtain⟨z7,e4⟩:=up b _ e1 z9;exact⟨z7,e4⟩
theorem Ac {C D:Addr}(xC:gB X.K C=true)(xD:gB X.K D=true)(sb:W.subIn X.K (.ref C) (.ref D)=some true)(A:iz)(E:Value->aw->Prop)(Q:Bool->aw->Prop)(s6:aw)(oe:Obj)(k:X.K.In s6.heap)(e:s6.heap.get? a=some oe)(c:oe.cls=.ref C)(q:Q true s6):wpAny (model X.prog X.w) A (t9 (.ref a) (.ref D)) Q E s6:=by obtain⟨ZW,oC,cC⟩:=XC.mk k xC;obtain⟨ZX,oD,_⟩:=XC.mk k xD;exact UH oC oD e c (cC _ _ sb) q
end
section
variable {X:Cx}{n x:Str}{p p1 p2 pos:Pos}{a C:Addr}{oe:Obj}{v:V}{u:Value}{b:Bool}
theorem Mj (hx:X.fx=some (n,.ref a))(hl:X.env.scope.names.lookup n=some .local)(hd:Z9 n):PE X (.Name n p) (λ_ H Q=>Q (.ref a) H):=by intro pins s U H Q I h;obtain⟨m,hn,hm⟩:=I.fx n _ hx;exact tm (qw I.ok.kind hl hn hm ⟨.ref a,H,I,rfl,h⟩) hd
theorem UU (hg:Gl X x)(hm:X.mg x=some u\/(X.mg x=none/\db x=some u/\x≠"__name__"))(r:RelV v u)(hd:Z9 x):PE X (.Name x p) (λ_ H Q=>Q v H):=by
 intro pins s U H Q I h;rcases hm with hm|⟨h1,h2,h3⟩
 ·exact z2h I hg hm ⟨v,H,I,r,h⟩ hd
 ·exact z1w I hg h1 h2 ⟨v,H,I,r,h⟩ h3 hd
def Xh (X:Cx)(a:Addr)(oe:Obj):Prop:=∀pins U H s,Inv X pins U H s->s.heap.get? a=some oe
theorem zu7 (hm:X.mg "isinstance"=none)(hg:Gl X "isinstance")(hx:X.fx=some (n,.ref a))(hl:X.env.scope.names.lookup n=some .local)(hd:Z9 n)(hp:Xh X a oe)(hc:oe.cls=.ref C)
  (UW:Gl X x) (UX:X.mg x=some u\/(X.mg x=none/\db x=some u/\x≠"__name__")) (r:RelV v u) (ru:∀w,RelV v w->w=u) (CS:Z9 x) (xa:XA X.K C) (xv:XV X.K u) (hs:W.subIn X.K (.ref C) u=some b):
  PE X (.Call (.Name "isinstance" p) [.Name n p1,.Name x p2] [] pos) (tD X.K λ_=>.ok (.fr,.bool b)):=by
 rintro pins s U H Q I ⟨Y,F,z,so,e,q⟩
 cases e;refine ik (z1w (u:=.builtin "isinstance") I hg hm (by decide+kernel) ?_ (by decide) (by decide));refine PyProof.Rows.callWith_builtin1 (aL ((B3 (Mj (p:=p1) hx hl hd) (B3 (UU (p:=p2) UW UX r CS) kF)) pos pins s U H (λvs H1=>vs=[.ref a,v]/\H1=H) I ⟨rfl,rfl⟩) λus s1 zz=>?_) rfl rfl;obtain⟨vs,H1,I1,r1,rfl,rfl⟩:=zz;cases r1 with
 |cons ra rt=>
  cases rt with
  |cons rb rn=>cases rn;rename_i w1 w2;obtain rfl:w1=Value.ref a:=ra;have e2:=ru w2 rb;subst e2;exact ztv I1.dB xa (hp _ _ _ _ I1) hc xv hs λt'=>⟨.bl b,H1,I1.tok _,rfl,q _ H1 (Same.refl H1) rfl⟩
end
section
theorem aE (h:(a&&b)=true):a=true/\b=true:=bg.mp h
theorem aP (h:(a&&b&&c)=true):a=true/\b=true/\c=true:=⟨(aE (aE h).1).1,(aE (aE h).1).2,(aE h).2⟩
theorem bG (h:(a&&b&&c&&d)=true):a=true/\b=true/\c=true/\d=true:=⟨(aP (aE h).1).1,(aP (aE h).1).2.1,(aP (aE h).1).2.2,(aE h).2⟩
theorem eK (h:(a&&b&&c&&d&&e)=true):a=true/\b=true/\c=true/\d=true/\e=true:=⟨(bG (aE h).1).1,(bG (aE h).1).2.1,(bG (aE h).1).2.2.1,(bG (aE h).1).2.2.2,(aE h).2⟩
theorem cB (h:(!b)=true):b=false:=by cases b<;>first|rfl|cases h
theorem ff {p:Prop}(h:b=false)(z:b=true):p:=by rw[h]at z;cases z
theorem fQ (h:l.isEmpty=true):l=[]:=by cases l<;>first|rfl|cases h
theorem tU (h:(!l.isEmpty)=true):∃x r,l=x::r:=by cases l<;>first|exact⟨_,_,rfl⟩|cases h
theorem aI (h:o.any f=true):∃v,o=some v/\f v=true:=by
 cases o with
 |none=>cases h
 |some v=>exact⟨v,rfl,h⟩
theorem bQ {α:Type}{o:Option α}{v:α}{q:α->Prop}(h:o=some v)(d:o=none\/∃u,o=some u/\q u):q v:=by grind
theorem Ae (h:E3 e=some v):∃p,e=.Name v p:=bQ (q:=λv=>∃p,e=.Name v p) h (by cases e<;>first|exact .inl rfl|exact .inr ⟨_,rfl,_,rfl⟩)
theorem Af (h:jO e=some v):∃k p,e=.Constant v k p:=bQ (q:=λv=>∃k p,e=.Constant v k p) h (by cases e<;>first|exact .inl rfl|exact .inr ⟨_,rfl,_,_,rfl⟩)
theorem Ml (h:vQ e=some v):∃p,e=.BinOp v.1 v.2.1 v.2.2 p:=bQ (q:=λv=>∃p,e=.BinOp v.1 v.2.1 v.2.2 p) h (by cases e<;>first|exact .inl rfl|exact .inr ⟨_,rfl,_,rfl⟩)
theorem wJ (h:Ck e=some v):∃p,e=.UnaryOp v.1 v.2 p:=bQ (q:=λv=>∃p,e=.UnaryOp v.1 v.2 p) h (by cases e<;>first|exact .inl rfl|exact .inr ⟨_,rfl,_,rfl⟩)
theorem rN (h:vR e=some v):∃p,e=.Compare v.1 v.2.1 v.2.2 p:=bQ (q:=λv=>∃p,e=.Compare v.1 v.2.1 v.2.2 p) h (by cases e<;>first|exact .inl rfl|exact .inr ⟨_,rfl,_,rfl⟩)
theorem oW (h:xX e=some v):e=.BoolOp v.1 v.2.1 v.2.2:=bQ (q:=λv=>e=.BoolOp v.1 v.2.1 v.2.2) h (by cases e<;>first|exact .inl rfl|exact .inr ⟨_,rfl,rfl⟩)
theorem UY (h:zu e=some v):∃p,e=.IfExp v.1 v.2.1 v.2.2 p:=bQ (q:=λv=>∃p,e=.IfExp v.1 v.2.1 v.2.2 p) h (by cases e<;>first|exact .inl rfl|exact .inr ⟨_,rfl,_,rfl⟩)
theorem CT (h:qX e=some v):∃k p,e=.Tuple v k p:=bQ (q:=λv=>∃k p,e=.Tuple v k p) h (by cases e<;>first|exact .inl rfl|exact .inr ⟨_,rfl,_,_,rfl⟩)
theorem Mm (h:vS e=some v):∃p,e=.List v p:=bQ (q:=λv=>∃p,e=.List v p) h (by cases e<;>first|exact .inl rfl|exact .inr ⟨_,rfl,_,rfl⟩)
theorem Ag (h:E4 e=some v):∃p,e=.Dict v.1 v.2 p:=bQ (q:=λv=>∃p,e=.Dict v.1 v.2 p) h (by cases e<;>first|exact .inl rfl|exact .inr ⟨_,rfl,_,rfl⟩)
theorem CU (h:oG e=some v):∃p,e=.Subscript v.1 v.2 p:=bQ (q:=λv=>∃p,e=.Subscript v.1 v.2 p) h (by cases e<;>first|exact .inl rfl|exact .inr ⟨_,rfl,_,rfl⟩)
theorem UZ (h:zv e=some v):∃p,e=.Slice v.1 v.2.1 v.2.2 p:=bQ (q:=λv=>∃p,e=.Slice v.1 v.2.1 v.2.2 p) h (by cases e<;>first|exact .inl rfl|exact .inr ⟨_,rfl,_,rfl⟩)
theorem Ah (h:E5 e=some v):e=.Call v.1 v.2.1 v.2.2.1 v.2.2.2:=bQ (q:=λv=>e=.Call v.1 v.2.1 v.2.2.1 v.2.2.2) h (by cases e<;>first|exact .inl rfl|exact .inr ⟨_,rfl,rfl⟩)
theorem oX (h:xY e=some v):e=.Attribute v.1 v.2.1 v.2.2:=bQ (q:=λv=>e=.Attribute v.1 v.2.1 v.2.2) h (by cases e<;>first|exact .inl rfl|exact .inr ⟨_,rfl,rfl⟩)
theorem GS (h:KS e=some v):∃p,e=.ListComp v.1 v.2.1 v.2.2 p:=bQ (q:=λv=>∃p,e=.ListComp v.1 v.2.1 v.2.2 p) h (by cases e<;>first|exact .inl rfl|exact .inr ⟨_,rfl,_,rfl⟩)
theorem fH (h:bI l=some v):l=[v]:=by rcases l with _|⟨x,_|⟨y,l⟩⟩<;>cases h;rfl
theorem CV (h:oH l=some v):l=[v.1,v.2]:=by rcases l with _|⟨x,_|⟨y,_|⟨z,l⟩⟩⟩<;>cases h;rfl
theorem gC (h:gV e=some v):∃q p,e=.Call (.Name v.1 q) v.2 [] p:=by
 obtain⟨u,hu,h⟩:=ma.mp h;cases hk:u.2.2.1.isEmpty with
 |false=>rw[hk]at h;exact absurd h nofun
 |true=>rw[hk]at h;obtain⟨x,hx,rfl⟩:=dj.mp h;obtain⟨q,hq⟩:=Ae hx;exact⟨q,_,by rw[Ah hu,hq,fQ hk]⟩
theorem gZ (h:pT e=some v):∃ap cp,e=.Call (.Attribute v.1 v.2.1 ap) v.2.2.1 [] cp/\v.2.2.2=(ap.endLine==cp.line):=by
 obtain⟨u,hu,h⟩:=ma.mp h;cases hk:u.2.2.1.isEmpty with
 |false=>rw[hk]at h;exact absurd h nofun
 |true=>rw[hk]at h;obtain⟨x,hx,rfl⟩:=dj.mp h;exact⟨_,_,by rw[Ah hu,oX hx,fQ hk],rfl⟩
theorem jA (h:lO f e=true):∃x p,e=.Name x p/\f x=true:=by obtain⟨x,hx,h⟩:=aI h;obtain⟨p,hp⟩:=Ae hx;exact⟨x,p,hp,h⟩
def Mn (K:W.Frag)(mg:Str->Option Value)(c C:Str)(b:Bool):Prop:=∃A v u,mg c=some (.ref A)/\XA K A/\XV K u/\W.subIn K (.ref A) u=some b/\RelV v u/\(∀w,RelV v w->w=u)/\(mg C=some u\/(mg C=none/\db C=some u/\C≠"__name__"))
def GU (K:W.Frag)(mg:Str->Option Value)(c:Str):Prop:=∃C,mg c=some (.ref C)/\UG K C=true
def U0 (K:W.Frag)(mg:Str->Option Value)(c B:Str):Prop:=∃C D,mg c=some (.ref C)/\mg B=some (.ref D)/\gB K C=true/\gB K D=true/\W.subIn K (.ref C) (.ref D)=some true
structure ya (Γ:Gm)(K:W.Frag)(mg:Str->Option Value):Prop where
 sub:∀c C b,Γ.sub.contains (c,C,b)=true->Mn K mg c C b
 rs:∀c,Γ.rs.contains c=true->GU K mg c
 fF:∀c B,Γ.fF.contains (c,B)=true->U0 K mg c B
structure Cok (Γ:Gm)(Κ:List D)(Φ:List Fn)(X:Cx)(r:Nat):Prop where
 hN:X.N=Γ.N
 hs:X.env.scope=Γ.sc
 nd:Γ.N.Nodup
 fn:Γ.blk=false->∀x,X.fn x=true
 kind:Γ.sc.kind=.function
 free:∀x,Γ.free.contains x=true->X.mg x=none
 fns:∀(j:Nat) f n,Γ.fns[j]?=some (f,n)->∃m k ps,Φ[j]?=some m/\k<=r/\Cal X.prog X.w X.K X.mg X.base k f ps (spD X.K n m)
 cst:∀(j:Nat) x,Γ.cst[j]?=some x->∃d a,Κ[j]?=some d/\X.mg x=some (.ref a)/\∀H B,B none->Rep X.K H B (.ref a) d
 jB:∀(j:Nat) f n,Γ.fns[j]?=some (f,n)->∃m k ps,Φ[j]?=some m/\k<=r/\oU X.prog X.w X.K X.mg X.base k f ps n m
 room:Γ.cm=true->Room r X.A
 calm:Γ.cm=true->X.calm=true
 hu:X.A.units+64<cLine
 oY:Γ.blk=false->X.stack=X.env::X.outer/\X.env.frame=some X.env.locals
 CW:Γ.xc=none->X.fx=none
 xc:∀n c,Γ.xc=some (n,c)->∃a oe C,X.fx=some (n,.ref a)/\Xh X a oe/\oe.cls=.ref C/\X.mg c=some (.ref C)
 xk:ya Γ X.K X.mg
theorem Cok.gl (k:Cok Γ Κ Φ X r)(h:mP Γ x=true):Gl X x/\Z9 x:=by unfold mP at h;rw[bh]at h;refine⟨?_,by simpa using h.2⟩;show X.env.scope.names.lookup x=_;rw[k.hs];simpa using h.1
theorem Cok.aN (k:Cok Γ Κ Φ X r)(h:lN Γ i x=true):X.N[i]?=some x/\Vis X.env.scope x/\Z9 x/\(x==("__classdict__":Str))=false:=by
 unfold lN at h;simp at h;have⟨⟨⟨h1,h2⟩,h3⟩,h4⟩:=h;refine⟨by rw[k.hN];exact h1,?_,by simpa using h3,by simpa using h4⟩;rw[k.hs];rcases h2 with(h2|h2)|h2
 ·exact .inl h2
 ·exact .inr (.inl h2)
 ·exact .inr (.inr h2)
theorem Cok.loc (k:Cok Γ Κ Φ X r)(h:oF Γ i x=true):X.N[i]?=some x/\Loc X.env.scope x/\(X.fn x=true\/X.env.scope.names.lookup x=some .local):=by
 unfold oF at h;simp at h;obtain⟨h1,h2⟩:=h;refine⟨by rw[k.hN];exact h1,?_,?_⟩
 ·unfold L2.Loc;rw[k.hs];rcases h2 with h2|⟨_,h2⟩
  ·exact .inl h2
  ·exact .inr h2
 ·rcases h2 with h2|⟨h2,_⟩
  ·exact .inr (by rw[k.hs];exact h2)
  ·exact .inl (k.fn h2 x)
theorem Cok.blt (k:Cok Γ Κ Φ X r)(h:cI Γ x=true):Gl X x/\X.mg x=none/\Z9 x/\x≠"__name__":=by unfold cI at h;simp only[bg]at h;obtain⟨⟨h1,h2⟩,h3⟩:=h;obtain⟨g1,g2⟩:=k.gl h1;exact⟨g1,k.free x h2,g2,by simpa using h3⟩
theorem U1 {C:Addr}:(blk X scope N' C fp s H).env.scope=E2 scope X.env.scope:=rfl
theorem Cok.blk (k:Cok Γ Κ Φ X r)(hk:scope.kind=.function)(nd:N'.Nodup)(C:Addr)(fp:List Addr)(s:aw)(H:Hp):Cok {Γ with N:=N',sc:=E2 scope Γ.sc,blk:=true,xc:=none} Κ Φ (blk X scope N' C fp s H) r where
 hN:=rfl
 hs:=by rw[U1,k.hs]
 nd:=nd
 fn:=λz=>by cases z
 kind:=hk
 free:=k.free
 fns:=k.fns
 cst:=k.cst
 jB:=k.jB
 room:=k.room
 calm:=k.calm
 hu:=k.hu
 oY:=λz=>by cases z
 CW:=λ_=>rfl
 xc:=λ_ _ z=>by cases z
 xk:=⟨k.xk.sub,k.xk.rs,k.xk.fF⟩
theorem U2 (k:Cok Γ Κ Φ X r)(all:List Nat):∀{es:List Expr},E6 Γ is es=true->PGs X es (oO X.K all is)/\(fv es X.env).length=is.length/\(fv es X.env).findIdx? (·.1)=none:=by
 induction is with
 |nil=>intro es h;cases fQ h;exact⟨S5,rfl,rfl⟩
 |cons i is ih=>
  intro es h;cases es with
  |nil=>cases h
  |cons e es=>
   obtain⟨h0,h9⟩:=aE h;obtain⟨x,p,rfl,h0⟩:=jA h0;obtain⟨h1,h2,h3⟩:=k.loc h0;obtain⟨a1,a2,a3⟩:=ih h9;refine⟨S6 (by rw[k.hN];exact k.nd) h1 h2 h3 a1,?_,?_⟩
   ·show(fv es X.env).length+1=_;rw[a2];rfl
   ·show((false,tq (.Name x p) X.env)::fv es X.env).findIdx? (·.1)=none;rw[List.findIdx?_cons,a3];rfl
theorem Ai (k:Cok Γ Κ Φ X r)(h:vU Γ t e=true):PG X e (tDG X.K t):=by
 cases t with
 |nm i=>obtain⟨x,p,rfl,h9⟩:=jA h;obtain⟨h1,h2,h3⟩:=k.loc h9;exact S4 (by rw[k.hN];exact k.nd) h1 h2 h3
 |tp is=>obtain⟨h0,h⟩:=aE h;obtain⟨v,hv,h9⟩:=aI h;obtain⟨_,_,rfl⟩:=CT hv;obtain⟨a1,a2,a3⟩:=U2 k is h9;exact S7 (k.calm h0) a1 rfl a3 a2.symm
theorem Mo (h:plainT e=true)(env:Env):∀whole,u4 e env whole=(do let v <-whole;standAt e.pos;holding [v] (truthy v)):=by
 intro whole;cases e<;>first|(cases h;done)|rfl|skip
 rename_i op x p;cases op<;>first|(cases h;done)|rfl
theorem CY (h:xW e=true)(env:Env):∀x,iu e env x=pure x:=by intro x;cases e<;>first|(cases h;done)|rfl
variable (Κ:List D)(Φ:List Fn)
theorem U3 (c:C):∀(Γ:Gm) (es:List Expr) (Y:Rho) (ys:List GD),dO Γ c es=true->dM Κ Φ c Y=.ok ys->ys.length=es.length/\(es.all λe=>!isStar e)=true:=by
 induction c with
 |nil=>intro Γ es Y ys h e;cases fQ h;cases e;exact⟨rfl,rfl⟩
 |cons a r _ ih=>
  intro Γ es Y ys h e;cases es with
  |nil=>cases h
  |cons x es=>obtain⟨h1,_,h3⟩:=aP h;obtain⟨y,_,e⟩:=Res.aA e;obtain⟨Ll,e2,e⟩:=Res.aA e;cases e;obtain⟨i1,i2⟩:=ih Γ es Y Ll h3 e2;exact⟨by rw[ay,ay,i1],by rw[cx,i2,h1];rfl⟩
 |_=>exact λ_ _ _ _ h=>ff rfl h
end
section
theorem U4 (h:tyB Γ T t=true):∃x p,t=.Name x p/\x=Str.ofString T/\cI Γ x=true/\T∈tysB:=by obtain⟨x,p,e,h⟩:=jA h;obtain⟨h1,h2,h3⟩:=aP h;exact⟨x,p,e,wj h1,h2,cu.mp h3⟩
theorem GV (h:(a||b)=true)(n:b=false):a=true:=by rw[n,pe]at h;exact h
theorem U5 {T:String}(h:T∈tysB):db (Str.ofString T)=some (.type T):=by simp only[tysB,ao,fo,or_false]at h;rcases h with rfl|rfl|rfl|rfl|rfl<;>decide+kernel
variable (Κ:List D)(Φ:List Fn)
theorem tV:∀{c:C} {es:List Expr},dO Γ c es=true->(es.all λe=>!isStar e)=true:=by
 intro c
 induction c with
 |nil=>intro es h;cases fQ h;rfl
 |cons a r _ ih=>
  intro es h;cases es with
  |nil=>rfl
  |cons e es=>obtain⟨h1,_,h3⟩:=aP h;rw[cx,ih h3,h1];rfl
 |_=>exact λh=>ff rfl h
theorem Aj (h:dO Γ c es=true):∀Y ys,dM Κ Φ c Y=.ok ys->ys.length=es.length:=λY ys e=>(U3 Κ Φ c Γ es Y ys h e).1
structure Sd (c:C):Prop where
 E:∀(Γ:Gm) (X:Cx) (r:Nat) (e:Expr),Cok Γ Κ Φ X r->chkE Γ c e=true->PE X e (tD X.K (aG Κ Φ c))
 T:∀(Γ:Gm) (X:Cx) (r:Nat) (e:Expr),Cok Γ Κ Φ X r->eX Γ c e=true->PT X e (dQ X.K (dU Κ Φ c))/\((∃o l p,e=.BoolOp o l p)->PW X e (dQ X.K (dU Κ Φ c)))
 Q:∀(Γ:Gm) (X:Cx) (r:Nat) (l:Expr) (ops:List CmpOp) (rs:List Expr) (pos:Pos),Cok Γ Κ Φ X r->chkE Γ c (.Compare l ops rs pos)=true->PT X (.Compare l ops rs pos) (dQ X.K λY=>aG Κ Φ c Y>>=λx=>fX x.2)
 A:∀(Γ:Gm) (X:Cx) (r:Nat) (es:List Expr),Cok Γ Κ Φ X r->dO Γ c es=true->PA X es (tDA X.K (dM Κ Φ c))
 O:∀(Γ:Gm) (X:Cx) (r:Nat) (e:Option Expr),Cok Γ Κ Φ X r->qY Γ c e=true->PO X e (tDO X.K (vP Κ Φ c))
 W:∀(Γ:Gm) (X:Cx) (r:Nat) (e tg:Expr),Cok Γ Κ Φ X r->Cn c tg=true->jP Γ c e=true->PI X tg e (tDW X.K (evW Κ Φ c))
 G:∀(Γ:Gm) (X:Cx) (r:Nat) (e:Expr),Cok Γ Κ Φ X r->vV Γ c e=true->∃a,c=.tv a/\PE X e (tD X.K (aG Κ Φ a))
def tW:C->Nat
 |.and _ _|.or _ _|.not _|.tv _|.nil|.cons _ _|.gQ _|.enum _|.zip _ _|.mO _=>2
 |.cmp _ _ _|.chain _ _ _ _ _|.jK _ _=>1
 |_=>0
variable {Κ:List D}{Φ:List Fn}{a b c:C}
theorem U6 (h:tW c<2):eX Γ c e=false:=by cases c<;>first|rfl|exact absurd h (cw 2)
theorem U7 (h:tW c<2):dO Γ c es=false:=by cases c<;>first|rfl|exact absurd h (cw 2)
theorem U8 (h:tW c<2):qY Γ c o=false:=by cases c<;>first|rfl|exact absurd h (cw 2)
theorem U9 (h:tW c<2):jP Γ c e=false:=by cases c<;>first|rfl|exact absurd h (cw 2)
theorem U' (h:tW c<2):vV Γ c e=false:=by cases c<;>first|rfl|exact absurd h (cw 2)
theorem Sd.q (hE:∀Γ X r e,Cok Γ Κ Φ X r->chkE Γ c e=true->PE X e (tD X.K (aG Κ Φ c)))(hQ:∀Γ X r l ops rs pos,Cok Γ Κ Φ X r->chkE Γ c (.Compare l ops rs pos)=true->PT X (.Compare l ops rs pos) (dQ X.K λY=>aG Κ Φ c Y>>=λx=>fX x.2))(hx:tW c<2):Sd Κ Φ c:=⟨hE,λ_ _ _ _ _ h=>ff (U6 hx) h,hQ,λ_ _ _ _ _ h=>ff (U7 hx) h,λ_ _ _ _ _ h=>ff (U8 hx) h,λ_ _ _ _ _ _ _ h=>ff (U9 hx) h,λ_ _ _ _ _ h=>ff (U' hx) h⟩
theorem Va (h:tW c=0):chkE Γ c (.Compare l ops rs pos)=false:=by cases c<;>first|rfl|(cases h;done)
theorem Sd.x (hE:∀Γ X r e,Cok Γ Κ Φ X r->chkE Γ c e=true->PE X e (tD X.K (aG Κ Φ c)))(hx:tW c=0):Sd Κ Φ c:=Sd.q hE (λ_ _ _ _ _ _ _ _ h=>ff (Va hx) h) (by rw[hx];exact Nat.zero_lt_two)
theorem Vb:Sd Κ Φ (.var i):=Sd.x (λΓ X r e k h=>by obtain⟨x,p,rfl,h⟩:=jA h;obtain⟨h1,h2,h3,h4⟩:=k.aN h;exact Sk h1 h2 h3 h4) rfl
theorem Vc:Sd Κ Φ .non:=Sd.x (λΓ X r e k h=>by obtain⟨_,_,rfl⟩:=Af (wc h);exact Cs Px λ_ _=>rfl) rfl
theorem GW {b:Bool}:Sd Κ Φ (.bl b):=Sd.x (λΓ X r e k h=>by obtain⟨_,_,rfl⟩:=Af (wc h);exact Cs Pw λ_ _=>rfl) rfl
theorem Vd {b:Int}:Sd Κ Φ (.int b):=Sd.x (λΓ X r e k h=>by obtain⟨_,_,rfl⟩:=Af (wc h);exact Cs Pu λ_ _=>rfl) rfl
theorem Ve {b:Str}:Sd Κ Φ (.str b):=Sd.x (λΓ X r e k h=>by obtain⟨h1,h2⟩:=aE h;obtain⟨_,_,rfl⟩:=Af (wc h1);exact Cs Py λ_ _=>⟨rfl,h2⟩) rfl
theorem Vf:Sd Κ Φ (.glob j x):=Sd.x (λΓ X r e k h=>by
 obtain⟨y,p,rfl,h9⟩:=jA h;obtain⟨h1,h2,h3⟩:=aP h9;cases wj h1;obtain⟨g1,g2⟩:=k.gl h2;obtain⟨d,a,c1,c2,c3⟩:=k.cst j _ (wj h3);cases hi:imm d with
 |true=>
  refine PE.imp (Sl g1 c2 g2 hi c3) λU H Q hq=>?_
  have ee:aG Κ Φ (.glob j x)=λ_=>.ok (.fr,d):=by
   funext Y
   show(match Κ[j]? with|some d=>if imm d=true then Res.ok (G.fr,d)else .no|none=>.no)=_;rw[c1];show(if imm d=true then Res.ok (G.fr,d)else .no)=_;rw[hi];rfl
  rw[ee]at hq;exact hq
 |false=>intro pins s U H Q I zz;obtain⟨Y,F,z,so,e,q⟩:=zz;have e:(match Κ[j]? with|some d=>if imm d=true then Res.ok (G.fr,d)else .no|none=>.no)=.ok z:=e;rw[c1]at e;have e:(if imm d=true then Res.ok (G.fr,d)else .no)=.ok z:=e;rw[hi]at e;cases e) rfl
theorem Vg (ia:Sd Κ Φ a)(ib:Sd Κ Φ b):Sd Κ Φ (.bin op a b):=Sd.x (λΓ X r e k h=>by obtain⟨v,hv,h9⟩:=aI h;obtain⟨p,rfl⟩:=Ml hv;obtain⟨h1,h2,h3,h4⟩:=bG h9;cases wc h1;exact Sm h2 (ia.E Γ X r _ k h3) (ib.E Γ X r _ k h4)) rfl
theorem Mp (h:chkE Γ (.cmp op a b) e=true):∃l r p,e=.Compare l [op] [r] p/\z28 op=true/\fj op r=false/\chkE Γ a l=true/\chkE Γ b r=true:=by obtain⟨⟨l,o,rs⟩,hv,h9⟩:=aI h;obtain⟨p,rfl⟩:=rN hv;obtain⟨h1,h2⟩:=aE h9;obtain⟨r,hr,h3⟩:=aI h2;cases wc h1;cases fH hr;obtain⟨h2,h3,h4,h5⟩:=bG h3;exact⟨l,r,p,rfl,h2,cB h3,h4,h5⟩
theorem Vh (ia:Sd Κ Φ a)(ib:Sd Κ Φ b):Sd Κ Φ (.cmp op a b):=Sd.q (λΓ X r e k h=>by
 obtain⟨_,_,_,rfl,h2,h3,h4,h5⟩:=Mp h;exact zsz k.hu h2 h3 (ia.E Γ X r _ k h4) (ib.E Γ X r _ k h5)) (λΓ X r l ops rs p k h=>by
 obtain⟨_,_,_,he,h2,h3,h4,h5⟩:=Mp h;cases he;exact zra k.hu h2 h3 (ia.E Γ X r _ k h4) (ib.E Γ X r _ k h5)) rc
theorem Mq (h:chkE Γ (.chain op op' a b c) e=true):∃l m r p,e=.Compare l [op,op'] [m,r] p/\z28 op=true/\z28 op'=true/\pw [op,op'] [m,r]=false/\chkE Γ a l=true/\chkE Γ b m=true/\chkE Γ c r=true:=by obtain⟨⟨l,o,rs⟩,hv,h9⟩:=aI h;obtain⟨p,rfl⟩:=rN hv;obtain⟨h1,h2⟩:=aE h9;obtain⟨r,hr,h3⟩:=aI h2;cases wc h1;cases CV hr;obtain⟨h2,h3,h4,h5,h6⟩:=eK h3;obtain⟨h6,h7⟩:=aE h6;exact⟨l,r.1,r.2,p,rfl,h2,h3,cB h4,h5,h6,h7⟩
theorem Vi (ia:Sd Κ Φ a)(ib:Sd Κ Φ b)(ic:Sd Κ Φ c):Sd Κ Φ (.chain op op' a b c):=Sd.q (λΓ X r e k h=>by
 obtain⟨_,_,_,_,rfl,h3,h4,h5,h6,h7,h8⟩:=Mq h;exact zlc k.hu h3 h4 h5 (ia.E Γ X r _ k h6) (ib.E Γ X r _ k h7) (ic.E Γ X r _ k h8)) (λΓ X r l ops rs p k h=>by
 obtain⟨_,_,_,_,he,h3,h4,h5,h6,h7,h8⟩:=Mq h;cases he;exact zlg k.hu h3 h4 h5 (ia.E Γ X r _ k h6) (ib.E Γ X r _ k h7) (ic.E Γ X r _ k h8)) rc
theorem Mr (h:((vR e).any λv=>decide (v.2.1=[o])&&(bI v.2.2).any λr=>decide (jO r=some w)&&chkE Γ a v.1)=true):∃l k q p,e=.Compare l [o] [.Constant w k q] p/\chkE Γ a l=true:=by obtain⟨⟨l,o,rs⟩,hv,h9⟩:=aI h;obtain⟨p,rfl⟩:=rN hv;obtain⟨h1,h2⟩:=aE h9;obtain⟨r,hr,h3⟩:=aI h2;obtain⟨h4,h5⟩:=aE h3;cases wc h1;cases fH hr;obtain⟨_,_,rfl⟩:=Af (wc h4);exact⟨_,_,_,_,rfl,h5⟩
theorem Vj (ia:Sd Κ Φ a):Sd Κ Φ (.jK ng a):=Sd.q (λΓ X r e k h=>by
 obtain⟨_,_,_,_,rfl,h2⟩:=Mr h;exact Sq rfl (ia.E Γ X r _ k h2)) (λΓ X r l ops rs p k h=>by
 obtain⟨_,_,_,_,he,h2⟩:=Mr h;cases he;exact vZ rfl (ia.E Γ X r _ k h2)) rc
theorem Al (h:xZ f g o p xs=true):(∃x y,xs=[x,y]/\f x=true/\g y=true)\/∃x y z r,xs=x::y::z::r/\f x=true/\g (.BoolOp o (y::z::r) p)=true:=by
 rcases xs with _|⟨x,_|⟨y,_|⟨z,xs⟩⟩⟩
 ·cases h
 ·cases h
 ·exact .inl ⟨x,y,rfl,(aE h).1,(aE h).2⟩
 ·exact .inr ⟨x,y,z,xs,rfl,(aE h).1,(aE h).2⟩
theorem Vk (ia:Sd Κ Φ a)(ib:Sd Κ Φ b):Sd Κ Φ (.and a b) where
 E:=λΓ X r e k h=>by
  obtain⟨⟨o,xs,p⟩,hv,h9⟩:=aI h;cases oW hv;obtain⟨h1,h2⟩:=aE h9;cases wc h1;rcases Al h2 with⟨x,y,rfl,h3,h4⟩|⟨x,y,z,t,rfl,h3,h4⟩
  ·exact K8 (ia.E Γ X r _ k h3) (JM (ib.E Γ X r _ k h4))
  ·exact K8 (ia.E Γ X r _ k h3) (ib.E Γ X r _ k h4)
 T:=λΓ X r e k h=>by
  obtain⟨⟨o,xs,p⟩,hv,h9⟩:=aI h;cases oW hv;obtain⟨h1,h2⟩:=aE h9;cases wc h1;rcases Al h2 with⟨x,y,rfl,h3,h4⟩|⟨x,y,z,t,rfl,h3,h4⟩
  ·have w:=w_and (pos:=p) (ia.T Γ X r _ k h3).1 (PD (ib.T Γ X r _ k h4).1);exact⟨w.pt,λ_=>w⟩
  ·have w:=w_and (ia.T Γ X r _ k h3).1 ((ib.T Γ X r _ k h4).2 ⟨_,_,_,rfl⟩);exact⟨w.pt,λ_=>w⟩
 Q:=λ_ _ _ _ _ _ _ _ h=>ff rfl h
 A:=λ_ _ _ _ _ h=>ff rfl h
 O:=λ_ _ _ _ _ h=>ff rfl h
 W:=λ_ _ _ _ _ _ _ h=>ff rfl h
 G:=λ_ _ _ _ _ h=>ff rfl h
theorem GX (ia:Sd Κ Φ a)(ib:Sd Κ Φ b):Sd Κ Φ (.or a b) where
 E:=λΓ X r e k h=>by
  obtain⟨⟨o,xs,p⟩,hv,h9⟩:=aI h;cases oW hv;obtain⟨h1,h2⟩:=aE h9;cases wc h1;rcases Al h2 with⟨x,y,rfl,h3,h4⟩|⟨x,y,z,t,rfl,h3,h4⟩
  ·exact zF (ia.E Γ X r _ k h3) (JM (ib.E Γ X r _ k h4))
  ·exact zF (ia.E Γ X r _ k h3) (ib.E Γ X r _ k h4)
 T:=λΓ X r e k h=>by
  obtain⟨⟨o,xs,p⟩,hv,h9⟩:=aI h;cases oW hv;obtain⟨h1,h2⟩:=aE h9;cases wc h1;rcases Al h2 with⟨x,y,rfl,h3,h4⟩|⟨x,y,z,t,rfl,h3,h4⟩
  ·have w:=w_or (pos:=p) (ia.T Γ X r _ k h3).1 (JK (ib.T Γ X r _ k h4).1);exact⟨w.pt,λ_=>w⟩
  ·have w:=w_or (ia.T Γ X r _ k h3).1 ((ib.T Γ X r _ k h4).2 ⟨_,_,_,rfl⟩);exact⟨w.pt,λ_=>w⟩
 Q:=λ_ _ _ _ _ _ _ _ h=>ff rfl h
 A:=λ_ _ _ _ _ h=>ff rfl h
 O:=λ_ _ _ _ _ h=>ff rfl h
 W:=λ_ _ _ _ _ _ _ h=>ff rfl h
 G:=λ_ _ _ _ _ h=>ff rfl h
theorem Vl (ia:Sd Κ Φ a):Sd Κ Φ (.not a) where
 E:=λΓ X r e k h=>by obtain⟨⟨o,x⟩,hv,h9⟩:=aI h;obtain⟨p,rfl⟩:=wJ hv;obtain⟨h1,h2⟩:=aE h9;cases wc h1;exact Su (ia.E Γ X r _ k h2)
 T:=λΓ X r e k h=>by obtain⟨⟨o,x⟩,hv,h9⟩:=aI h;obtain⟨p,rfl⟩:=wJ hv;obtain⟨h1,h2⟩:=aE h9;cases wc h1;exact⟨zG (ia.T Γ X r _ k h2).1,λ⟨_,_,_,z⟩=>by cases z⟩
 Q:=λ_ _ _ _ _ _ _ _ h=>ff rfl h
 A:=λ_ _ _ _ _ h=>ff rfl h
 O:=λ_ _ _ _ _ h=>ff rfl h
 W:=λ_ _ _ _ _ _ _ h=>ff rfl h
 G:=λ_ _ _ _ _ h=>ff rfl h
theorem Vm (h:KR e=true):∃l o r p,e=.Compare l o r p:=by cases e<;>first|exact ff rfl h|exact⟨_,_,_,_,rfl⟩
theorem GY (ia:Sd Κ Φ a):Sd Κ Φ (.tv a) where
 E:=λ_ _ _ _ _ h=>ff rfl h
 T:=λΓ X r e k h=>by
  obtain⟨h1,h2⟩:=aE h;rcases gr.mp h1 with h1|h1
  ·exact⟨Sv (ia.E Γ X r _ k h2) (Mo h1 _),λ⟨_,_,_,z⟩=>by subst z;cases h1⟩
  ·obtain⟨_,_,_,_,rfl⟩:=Vm h1;exact⟨ia.Q Γ X r _ _ _ _ k h2,λ⟨_,_,_,z⟩=>by cases z⟩
 Q:=λ_ _ _ _ _ _ _ _ h=>ff rfl h
 A:=λ_ _ _ _ _ h=>ff rfl h
 O:=λΓ X r e k h=>by obtain⟨v,rfl,h⟩:=aI h;exact SK (ia.E Γ X r _ k h)
 W:=λΓ X r e tg k _ h=>gW (ia.E Γ X r _ k (aE h).2)
 G:=λΓ X r e k h=>⟨a,rfl,ia.E Γ X r _ k h⟩
theorem Vn (ia:Sd Κ Φ a):Sd Κ Φ (.tup a):=Sd.x (λΓ X r e k h=>by obtain⟨v,hv,h9⟩:=aI h;obtain⟨_,_,rfl⟩:=CT hv;obtain⟨h1,h2⟩:=aE h9;exact Sw (ia.A Γ X r _ k h2) λY ys e=>by rw[Aj Κ Φ h2 Y ys e];exact KO (wc h1)) rfl
theorem Vo (ia:Sd Κ Φ a):Sd Κ Φ (.lst a):=Sd.x (λΓ X r e k h=>by obtain⟨v,hv,h9⟩:=aI h;obtain⟨_,rfl⟩:=Mm hv;obtain⟨h1,h2⟩:=aE h9;exact Sx (ia.A Γ X r _ k h2) λY ys e=>by rw[Aj Κ Φ h2 Y ys e];exact KO (wc h1)) rfl
theorem Vp:Sd Κ Φ .gP:=Sd.x (λΓ X r e k h=>by obtain⟨⟨a,b⟩,hv,h9⟩:=aI h;obtain⟨_,rfl⟩:=Ag hv;obtain⟨h1,h2⟩:=aE h9;cases fQ h1;cases fQ h2;exact Sz) rfl
theorem GZ (ia:Sd Κ Φ a)(ib:Sd Κ Φ b):Sd Κ Φ (.ix a b):=Sd.x (λΓ X r e k h=>by obtain⟨v,hv,h9⟩:=aI h;obtain⟨_,rfl⟩:=CU hv;obtain⟨h1,h2,h3⟩:=aP h9;exact d_ix k.hu h1 (ia.E Γ X r _ k h2) (ib.E Γ X r _ k h3)) rfl
theorem G0 {lo:C}(ia:Sd Κ Φ a)(il:Sd Κ Φ lo)(ih:Sd Κ Φ hi):Sd Κ Φ (.sl a lo hi):=Sd.x (λΓ X r e k h=>by obtain⟨⟨x,i⟩,hv,h9⟩:=aI h;obtain⟨_,rfl⟩:=CU hv;obtain⟨⟨l,u,s⟩,hs,h8⟩:=aI h9;obtain⟨_,rfl⟩:=UZ hs;obtain⟨h1,h2,h3,h4⟩:=bG h8;cases gz.mp h1;exact d_sl (ia.E Γ X r _ k h2) (il.O Γ X r _ k h3) (ih.O Γ X r _ k h4)) rfl
theorem Vq (ia:Sd Κ Φ args):Sd Κ Φ (.call j f args):=Sd.x (λΓ X r e k h=>by
 obtain⟨⟨x,es⟩,hv,h9⟩:=aI h;obtain⟨_,_,rfl⟩:=gC hv;obtain⟨h1,h2,h3,h4,h5⟩:=eK h9;obtain⟨y,es,rfl⟩:=tU h5;obtain⟨h0,h1⟩:=aE h1;cases wj h1;obtain⟨g1,g2⟩:=k.gl h2;obtain⟨m,kk,ps,c1,c2,c3⟩:=k.fns j _ _ (wj h3);refine PE.imp (zmi c3 (k.room h0) c2 (ia.A Γ X r _ k h4) (tV h4) g1 g2 (Aj Κ Φ h4)) λU H Q hq=>?_
 have ee:aG Κ Φ (.call j x args)=λY=>dM Κ Φ args Y>>=λys=>m (ys.map (·.2))>>=λr=>.ok (gJ r.2 (iY r.1),r.2):=by
  funext Y
  show(dM Κ Φ args Y>>=λys=>match Φ[j]? with|some m=>m (ys.map (·.2))>>=λr=>.ok (gJ r.2 (iY r.1),r.2)|none=>.no)=_;rw[c1]
 rw[ee]at hq;exact hq) rfl
theorem G1 (ia:Sd Κ Φ args):Sd Κ Φ (.bi f args):=Sd.x (λΓ X r e k h=>by
 obtain⟨⟨x,es⟩,hv,h9⟩:=aI h;obtain⟨_,_,rfl⟩:=gC hv;obtain⟨h1,h2,h3,h4,h5⟩:=eK h9;obtain⟨y,es,rfl⟩:=tU h5;have h1:=wj h1;obtain⟨g1,g2,g3,g4⟩:=k.blt h2;obtain⟨h3,cQ⟩:=aE h3;have hf:=cu.mp h3;have ha:=ia.A Γ X r _ k h4;simp at hf;rcases hf with rfl|rfl|rfl
 ·exact d_cB Lf g2 (by rw[h1];decide+kernel) ha (tV h4) g1 g4 g3
 ·exact d_cB (SN (k.calm (GV cQ rfl))) g2 (by rw[h1];decide+kernel) ha (tV h4) g1 g4 g3
 ·exact zrg T9 g2 (by rw[h1];decide+kernel) ha (tV h4) g1 g4 g3) rfl
theorem Vr (ia:Sd Κ Φ a):Sd Κ Φ (.lG f a):=Sd.x (λΓ X r e k h=>by
 obtain⟨⟨x,es⟩,hv,h9⟩:=aI h;obtain⟨_,_,rfl⟩:=gC hv;obtain⟨h1,h2,h3,h4⟩:=bG h9;obtain⟨y,hy,k5⟩:=aI h4;obtain⟨k4,k6⟩:=aE k5;cases fH hy;have k1:=wj h1;obtain⟨g1,g2,g3,g4⟩:=k.blt h2;obtain⟨a,rfl,ha⟩:=ia.G Γ X r _ k k6;have k7:=cB k4;obtain⟨h3,cQ⟩:=aE h3;have hf:=cu.mp h3;simp only[zA,ao,fo,or_false]at hf;rcases hf with rfl|rfl|rfl
 ·exact zgz T5 g2 (by rw[k1];decide+kernel) k7 ha g1 g4 g3
 ·exact zgz T6 g2 (by rw[k1];decide+kernel) k7 ha g1 g4 g3
 ·exact zlu (T7 (k.calm cQ)) g2 (by rw[k1];decide+kernel) k7 ha g1 g4 g3) rfl
theorem Vs (ia:Sd Κ Φ a):Sd Κ Φ (.lset a):=Sd.x (λΓ X r e k h=>by obtain⟨⟨x,es⟩,hv,h9⟩:=aI h;obtain⟨_,_,rfl⟩:=gC hv;obtain⟨h1,h2,h3⟩:=aP h9;obtain⟨y,hy,k3⟩:=aI h3;obtain⟨k4,k5⟩:=aE k3;cases fH hy;obtain⟨⟨x2,wG⟩,hv2,j9⟩:=aI k5;obtain⟨_,_,rfl⟩:=gC hv2;obtain⟨j1,j2,j3⟩:=aP j9;obtain⟨y2,G2,i3⟩:=aI j3;obtain⟨i4,i5⟩:=aE i3;cases fH G2;have k1:=wj h1;have l1:=wj j1;obtain⟨cQ,h2⟩:=aE h2;obtain⟨g1,g2,g3,g4⟩:=k.blt h2;obtain⟨f1,f2,f3,f4⟩:=k.blt j2;exact zma (k.calm cQ) g2 (by rw[k1];decide+kernel) g1 g4 g3 f2 (by rw[l1];decide+kernel) f1 f4 f3 (cB i4) (ia.E Γ X r _ k i5)) rfl
theorem Vt (ia:Sd Κ Φ a):Sd Κ Φ (.eC a ts):=Sd.x (λΓ X r e k h=>by obtain⟨⟨x,es⟩,hv,h9⟩:=aI h;obtain⟨_,_,rfl⟩:=gC hv;obtain⟨h1,h2,h3⟩:=aP h9;obtain⟨⟨y,t⟩,hy,k3⟩:=aI h3;obtain⟨k4,h4,k5⟩:=aP k3;obtain⟨T,hT,k6⟩:=aI k5;cases CV hy;cases fH hT;cases wj h1;obtain⟨g1,g2,g3,g4⟩:=k.blt h2;obtain⟨x2,p2,rfl,rfl,hb,kT⟩:=U4 k6;obtain⟨b1,b2,b3,b4⟩:=k.blt hb;exact zrn g2 g1 b2 (U5 kT) b1 b4 b3 kT (cB k4) (ia.E Γ X r _ k h4)) rfl
theorem G3 (io:Sd Κ Φ a)(ia:Sd Κ Φ args):Sd Κ Φ (.mt m a args):=Sd.x (λΓ X r e k h=>by
 obtain⟨⟨x,n,es,b⟩,hv,h9⟩:=aI h;obtain⟨ap,cp,rfl,hb⟩:=gZ hv;obtain⟨h0,h6,h7,h8⟩:=bG h9;obtain⟨h1,h2,h3,h4,h5⟩:=eK h0;obtain⟨y,es,rfl⟩:=tU h8;cases wj h1;have k4:=hb.symm.trans h4;have ho:=io.E Γ X r _ k h6;have ha:=ia.A Γ X r _ k h7;have hm:=cu.mp h2;simp at hm;rcases hm with rfl
 ·exact d_mt PySem.F.plainAttrs_str PySem.F.slot_str_join PySem.F.type_str_join Tf (λ_ _ _ _ _ _ r e=>Ti r e) ho ha h3 (tV h7) (wc h5) k4) rfl
theorem Vu (ic:Sd Κ Φ c)(k:Cok Γ Κ Φ X n)(h:zw (zy c) (λt=>eX Γ c t) ifs=true):tI X ifs (dQ X.K (dU Κ Φ c)):=by
 cases ifs with
 |nil=>
  have:c=.nil:=by cases c<;>first|exact ff rfl h|rfl
  subst this;refine λpins s U H Q I q=>Ri pins s U H Q I ?_;obtain⟨Y,F,b,so,e,q⟩:=q;cases e;exact q H (Same.refl H)
 |cons t r=>obtain⟨h1,h2⟩:=aE h;cases fQ h1;exact Rj (ic.T Γ X n t k h2).1
theorem sC {cond:C}(ii:Sd Κ Φ it)(ic:Sd Κ Φ cond)(ie:Sd Κ Φ elt)(k:Cok Γ Κ Φ X r)(h:chkE Γ (.comp nt js N' tg it cond elt) e=true):
  ∃el t i ifs scope pos,e=.ListComp el [⟨t,i,ifs,0⟩] scope pos/\BlkScope X scope N' nt js/\(∀i∈tgIx tg,i<nt)/\PI X t i (tDW X.K (evW Κ Φ it))/\(∀C fp s H,PG (blk X scope N' C fp s H) t (tDG X.K tg))/\(∀C fp s H,tI (blk X scope N' C fp s H) ifs (dQ X.K (dU Κ Φ cond)))/\(∀C fp s H,PE (blk X scope N' C fp s H) el (tD X.K (aG Κ Φ elt)))/\(∀x,iu i X.env x=pure x)/\Γ.cm=true:=by
 obtain⟨⟨el,gs,scope⟩,hv,h9⟩:=aI h;obtain⟨pos,rfl⟩:=GS hv;obtain⟨⟨t,i,ifs,kk⟩,hg,h9⟩:=aI h9;cases fH hg;obtain⟨h0,h6,h7,h8,h9⟩:=eK h9;obtain⟨h1,h2,h3,h4,h5⟩:=eK h0;obtain⟨cQ,h1⟩:=aE h1;cases wj h1;have h2:=bp.mp h2;have hB:=Ra k.hN k.hs h3;have kb:=λC fp s H=>k.blk hB.kind (wc h5) C fp s H;exact⟨el,t,i,ifs,scope,pos,rfl,hB,λi hi=>wc (h2 i hi),ii.W Γ X r _ t k (aE h6).2 h7,λC fp s H=>Ai (kb C fp s H) (aE h6).1,λC fp s H=>Vu ic (kb C fp s H) h8,λC fp s H=>ie.E _ _ r _ (kb C fp s H) h9,CY h4 _,cQ⟩
theorem Vw {cond:C}(ii:Sd Κ Φ it)(ic:Sd Κ Φ cond)(ie:Sd Κ Φ elt):Sd Κ Φ (.comp nt js N' tg it cond elt):=Sd.x (λΓ X r e k h=>by obtain⟨el,t,i,ifs,scope,pos,rfl,hB,h2,hi,hg,ht,he,hs,cQ⟩:=sC ii ic ie k h;exact(zhk (k.calm cQ) hB h2 hi hg ht he hs).1) rfl
theorem Vx (ia:Sd Κ Φ a):Sd Κ Φ (.xU a):=Sd.x (λΓ X r e k h=>by obtain⟨⟨x,n,es,b⟩,hv,h9⟩:=aI h;obtain⟨ap,cp,rfl,hb⟩:=gZ hv;obtain⟨h0,h1,h2⟩:=aP h9;obtain⟨h3,h4,h5⟩:=aP h0;cases fQ h1;cases wj h3;exact zrm (ia.E Γ X r _ k h2) h4 (hb.symm.trans h5)) rfl
theorem Vy (ia:Sd Κ Φ a)(ib:Sd Κ Φ b):Sd Κ Φ (.tK a b):=Sd.x (λΓ X r e k h=>by obtain⟨⟨x,n,es,bb⟩,hv,h9⟩:=aI h;obtain⟨ap,cp,rfl,hb⟩:=gZ hv;obtain⟨h0,h1,h2⟩:=aP h9;obtain⟨h3,h4,h5⟩:=aP h0;obtain⟨y,hy,h6⟩:=aI h2;cases fH hy;obtain⟨h7,h8⟩:=aE h6;cases wj h3;exact zub (ia.E Γ X r _ k h1) (ib.E Γ X r _ k h8) h4 (cB h7) (hb.symm.trans h5)) rfl
theorem Vz {b:Bool}:Sd Κ Φ (.fW b x):=Sd.x (λΓ X r e k h=>by obtain⟨⟨f,es⟩,hv,h9⟩:=aI h;obtain⟨_,_,rfl⟩:=gC hv;obtain⟨h1,h2,h3⟩:=aP h9;obtain⟨⟨y1,y2⟩,hy,h4⟩:=aI h3;cases CV hy;obtain⟨⟨n,c⟩,hz,h5⟩:=aI h4;obtain⟨h6,h7⟩:=aE h5;obtain⟨n',p1,hn,h6⟩:=jA h6;obtain⟨C,p2,hC,h7⟩:=jA h7;cases hn;cases hC;obtain⟨a1,a2,a3,a4⟩:=bG h6;obtain⟨b1,b2,b3⟩:=aP h7;cases wj h1;cases wj a1;cases wj b1;obtain⟨g1,g2,g3,g4⟩:=k.blt h2;obtain⟨g5,g6⟩:=k.gl b2;obtain⟨a,oe,Cc,e1,e2,e3,e4⟩:=k.xc n c hz;obtain⟨A,v,u,m1,xa,xv,sb,rv,ru,mC⟩:=k.xk.sub c x b b3;rw[m1]at e4;cases e4;exact zu7 g2 g1 e1 (by rw[k.hs];exact wj a2) (cB a3) e2 e3 g5 mC rv ru g6 xa xv sb) rfl
theorem VA:Sd Κ Φ .nil where
 E:=λ_ _ _ _ _ h=>ff rfl h
 T:=λ_ _ _ _ _ h=>ff rfl h
 Q:=λ_ _ _ _ _ _ _ _ h=>ff rfl h
 A:=λΓ X r es k h=>by cases fQ h;exact La
 O:=λΓ X r e k h=>by cases gz.mp h;exact oJ
 W:=λ_ _ _ _ _ _ _ h=>ff rfl h
 G:=λ_ _ _ _ _ h=>ff rfl h
theorem VB (ia:Sd Κ Φ a)(ib:Sd Κ Φ b):Sd Κ Φ (.cons a b) where
 E:=λ_ _ _ _ _ h=>ff rfl h
 T:=λ_ _ _ _ _ h=>ff rfl h
 Q:=λ_ _ _ _ _ _ _ _ h=>ff rfl h
 A:=λΓ X r es k h=>by
  cases es with
  |nil=>cases h
  |cons e es=>obtain⟨h1,h2,h3⟩:=aP h;exact Fv (cB h1) (ia.E Γ X r _ k h2) (ib.A Γ X r _ k h3)
 O:=λ_ _ _ _ _ h=>ff rfl h
 W:=λ_ _ _ _ _ _ _ h=>ff rfl h
 G:=λ_ _ _ _ _ h=>ff rfl h
theorem VC (ia:Sd Κ Φ a):Sd Κ Φ (.gQ a) where
 E:=λ_ _ _ _ _ h=>ff rfl h
 T:=λ_ _ _ _ _ h=>ff rfl h
 Q:=λ_ _ _ _ _ _ _ _ h=>ff rfl h
 A:=λ_ _ _ _ _ h=>ff rfl h
 O:=λ_ _ _ _ _ h=>ff rfl h
 W:=λΓ X r e tg k _ h=>by
  obtain⟨⟨x,es⟩,hv,h9⟩:=aI h;obtain⟨_,_,rfl⟩:=gC hv;obtain⟨h1,h2,h3,h4⟩:=bG h9;obtain⟨h4,h5⟩:=aE h4;cases wj h1;obtain⟨g1,g2,g3,g4⟩:=k.blt h2;rcases es with _|⟨x,_|⟨y,es⟩⟩
  ·cases h4
  ·exact SY g2 g1 (cB ((bp.mp (tV h3)) x (.head _))) (ia.A Γ X r _ k h3) (Aj Κ Φ h3)
  ·exact absurd (wc h5) (Nat.not_le.mpr (Nat.succ_lt_succ (ur _)))
 G:=λ_ _ _ _ _ h=>ff rfl h
theorem G4 (h:isTup e=true):∃a b c,e=.Tuple a b c:=by cases e<;>first|exact ff rfl h|exact⟨_,_,_,rfl⟩
theorem Ms (h:jP Γ (.enum a) e=true):∃y q p,e=.Call (.Name "enumerate" q) [y] [] p/\cI Γ "enumerate"=true/\isStar y=false/\chkE Γ a y=true:=by obtain⟨⟨x,es⟩,hv,h9⟩:=aI h;obtain⟨q,p,rfl⟩:=gC hv;obtain⟨h1,h2,h3⟩:=aP h9;obtain⟨y,hy,h3⟩:=aI h3;cases fH hy;cases wj h1;exact⟨y,q,p,rfl,h2,cB (aE h3).1,(aE h3).2⟩
theorem Mt (h:jP Γ (.zip a b) e=true):∃y z q p,e=.Call (.Name "zip" q) [y,z] [] p/\cI Γ "zip"=true/\isStar y=false/\isStar z=false/\chkE Γ a y=true/\chkE Γ b z=true:=by obtain⟨⟨x,es⟩,hv,h9⟩:=aI h;obtain⟨q,p,rfl⟩:=gC hv;obtain⟨h1,h2,h3⟩:=aP h9;obtain⟨⟨y,z⟩,hy,h3⟩:=aI h3;cases CV hy;cases wj h1;obtain⟨h4,h5,h6⟩:=aP h3;exact⟨y,z,q,p,rfl,h2,cB (aE h4).1,cB (aE h4).2,h5,h6⟩
theorem VD (ia:Sd Κ Φ a):Sd Κ Φ (.mO a) where
 E:=λ_ _ _ _ _ h=>ff rfl h
 T:=λ_ _ _ _ _ h=>ff rfl h
 Q:=λ_ _ _ _ _ _ _ _ h=>ff rfl h
 A:=λ_ _ _ _ _ h=>ff rfl h
 O:=λ_ _ _ _ _ h=>ff rfl h
 W:=λΓ X r e tg k ht h=>by
  obtain⟨⟨x,es⟩,hv,h9⟩:=aI h;obtain⟨_,_,rfl⟩:=gC hv;obtain⟨h1,h2,h3⟩:=aP h9;cases wj h1;obtain⟨y,hy,h4⟩:=aI h3;cases fH hy;obtain⟨⟨x2,wG⟩,hv2,h5⟩:=aI h4;obtain⟨_,_,rfl⟩:=gC hv2;obtain⟨h6,h7,h8,yb⟩:=bG h5;cases wj h6;obtain⟨g1,g2,g3,g4⟩:=k.blt h2;obtain⟨f1,f2,f3,f4⟩:=k.blt h7;obtain⟨_,_,_,rfl⟩:=G4 ht;have hs:=bp.mp (tV h8);have hlen:=wc yb;rcases wG with _|⟨x,_|⟨y,_|⟨z,_|⟨w,es⟩⟩⟩⟩
  ·cases hlen
  ·cases hlen
  ·cases hlen
  ·exact zte g2 g1 f2 f1 (cB (hs x (.head _))) (cB (hs y (.tail _ (.head _)))) (cB (hs z (.tail _ (.tail _ (.head _))))) (ia.A Γ X r _ k h8) (Aj Κ Φ h8)
  ·cases hlen
 G:=λ_ _ _ _ _ h=>ff rfl h
theorem VE (ia:Sd Κ Φ a):Sd Κ Φ (.enum a) where
 E:=λ_ _ _ _ _ h=>ff rfl h
 T:=λ_ _ _ _ _ h=>ff rfl h
 Q:=λ_ _ _ _ _ _ _ _ h=>ff rfl h
 A:=λ_ _ _ _ _ h=>ff rfl h
 O:=λ_ _ _ _ _ h=>ff rfl h
 W:=λΓ X r e tg k ht h=>by obtain⟨y,q,p,rfl,h2,h3,h4⟩:=Ms h;obtain⟨_,_,_,rfl⟩:=G4 ht;obtain⟨g1,g2,g3,g4⟩:=k.blt h2;exact Um g2 g1 h3 (ia.E Γ X r _ k h4)
 G:=λ_ _ _ _ _ h=>ff rfl h
theorem VF (ia:Sd Κ Φ a)(ib:Sd Κ Φ b):Sd Κ Φ (.zip a b) where
 E:=λ_ _ _ _ _ h=>ff rfl h
 T:=λ_ _ _ _ _ h=>ff rfl h
 Q:=λ_ _ _ _ _ _ _ _ h=>ff rfl h
 A:=λ_ _ _ _ _ h=>ff rfl h
 O:=λ_ _ _ _ _ h=>ff rfl h
 W:=λΓ X r e tg k ht h=>by obtain⟨y,z,q,p,rfl,h2,h3,h4,h5,h6⟩:=Mt h;obtain⟨g1,g2,g3,g4⟩:=k.blt h2;exact Ul ht g2 g1 h3 h4 (ia.E Γ X r _ k h5) (ib.E Γ X r _ k h6)
 G:=λ_ _ _ _ _ h=>ff rfl h
theorem all (c:C):Sd Κ Φ c:=by
 induction c with
 |var=>exact Vb
 |non=>exact Vc
 |bl=>exact GW
 |int=>exact Vd
 |str=>exact Ve
 |glob=>exact Vf
 |bin _ _ _ ia ib=>exact Vg ia ib
 |cmp _ _ _ ia ib=>exact Vh ia ib
 |chain _ _ _ _ _ ia ib ic=>exact Vi ia ib ic
 |jK _ _ ia=>exact Vj ia
 |and _ _ ia ib=>exact Vk ia ib
 |or _ _ ia ib=>exact GX ia ib
 |not _ ia=>exact Vl ia
 |tup _ ia=>exact Vn ia
 |lst _ ia=>exact Vo ia
 |gP=>exact Vp
 |ix _ _ ia ib=>exact GZ ia ib
 |sl _ _ _ ia ib ic=>exact G0 ia ib ic
 |call _ _ _ ia=>exact Vq ia
 |bi _ _ ia=>exact G1 ia
 |lG _ _ ia=>exact Vr ia
 |eC _ _ ia=>exact Vt ia
 |mt _ _ _ ia ib=>exact G3 ia ib
 |comp _ _ _ _ _ _ _ ia ib ic=>exact Vw ia ib ic
 |xU _ ia=>exact Vx ia
 |tK _ _ ia ib=>exact Vy ia ib
 |gQ _ ia=>exact VC ia
 |enum _ ia=>exact VE ia
 |mO _ ia=>exact VD ia
 |zip _ _ ia ib=>exact VF ia ib
 |tv _ ia=>exact GY ia
 |fW=>exact Vz
 |lset _ ia=>exact Vs ia
 |nil=>exact VA
 |cons _ _ ia ib=>exact VB ia ib
end
section
variable (Κ:List D)(Φ:List Fn)
theorem Mu:lc (.ListComp el gs s p) (some (.Name t px)) n env=pure (env.blockKind==.function&&env.kindOf t==some .local&&px.line==p.line&& !(s.names.any λ(n,k)=>n==t&&(k==.local||k==.cell))):=rfl
theorem VG (hn:vW c=false)(h:chkE Γ c (.ListComp el gs s p)=true):∃nt js N' tg it cond elt,c=.comp nt js N' tg it cond elt:=by cases c<;>first|exact ff rfl h|exact⟨_,_,_,_,_,_,_,rfl⟩|(cases hn;done)
theorem VH (h:chkE Γ c (.SetComp el gs s p)=true):False:=by cases c<;>exact ff rfl h
theorem VI (h:chkE Γ c (.DictComp el ZY gs s p)=true):False:=by cases c<;>exact ff rfl h
theorem G5 (k:Cok Γ Κ Φ X r)(h1:oF Γ i x=true)(hn:vW c=false)(h2:chkE Γ c v=true):PS X (.Assign [.Name x px] v pos) (tDS X.K λY=>aG Κ Φ c Y>>=λx=>.ok (.nx (Y.set i (some (z10 x))))):=by
 obtain⟨l1,l2,l3⟩:=k.loc h1;have nd:X.N.Nodup:=by rw[k.hN];exact k.nd
 cases hc:pQ v with
 |false=>exact zna nd l1 l2 l3 (vG hc _ _ _) ((all c).E Γ X r _ k h2)
 |true=>
  cases v<;>first|(cases hc;done)|skip
  ·rename_i el gs s p;cases hb:(X.env.blockKind==.function&&X.env.kindOf x==some .local&&px.line==p.line&& !(s.names.any λ(n,k)=>n==x&&(k==.local||k==.cell)))with
   |false=>exact zna nd l1 l2 l3 (by rw[Mu,hb]) ((all c).E Γ X r _ k h2)
   |true=>
    obtain⟨nt,js,N',tg,it,cond,elt,rfl⟩:=VG hn h2;obtain⟨ZZ,t,i',ifs,scope,pos',e,hB,h0,hi,hg,ht,he,hs,cQ⟩:=sC (all it) (all cond) (all elt) k h2;cases e;have hl:X.env.scope.names.lookup x=some .local:=by simp at hb;exact hb.1.1.2
    refine PS.imp (zeh (k.calm cQ) nd l1 hl hB hi hg ht he (by rw[Mu,hb]) hs) λD U H q=>?_;exact LD (λU H Q z=>(zhk (pos:=p) (k.calm cQ) hB h0 hi hg ht he hs).2 U H Q z) D U H q
  ·exact(VH h2).elim
  ·exact(VI h2).elim
theorem VJ (k:Cok Γ Κ Φ X r)(hh:zB Γ c tg ie=true):PI X tg ie (tDF X.K (evF Κ Φ c))/\xW ie=true:=by
 obtain⟨ht,h⟩:=aE hh;have hw:=(all c).W Γ X r ie tg k ht h;cases c with
 |tv a=>
  have iH:=PI.LF (k:=λY=>lL Κ Φ (.tv a) Y) (FJ ((all a).E Γ X r _ k (aE h).2)) (FI hw);refine⟨?_,(aE h).1⟩;cases a with
  |var i=>obtain⟨x,p,rfl,h2⟩:=jA (aE h).2;obtain⟨v1,v2,v3,v4⟩:=k.aN h2;exact PI.LF (TZ v1 v2 v3 v4) iH
  |_=>exact iH
 |enum a=>obtain⟨y,q,p,rfl,h2,h3,h4⟩:=Ms h;obtain⟨_,_,_,rfl⟩:=G4 ht;obtain⟨g1,g2,g3,g4⟩:=k.blt h2;exact⟨Uo g2 g1 h3 ((all a).E Γ X r _ k h4),rfl⟩
 |zip a b=>
  obtain⟨y,z,q,p,rfl,h2,h3,h4,h5,h6⟩:=Mt h;obtain⟨g1,g2,g3,g4⟩:=k.blt h2
  have ez:evF Κ Φ (.zip a b)=λY=>(aG Κ Φ a Y>>=λx=>aG Κ Φ b Y>>=λy=>Res.ok [x,y])>>=λys=>lK ys Y:=by
   funext Y
   show((aG Κ Φ a Y>>=λx=>(aG Κ Φ b Y>>=λy=>Res.ok [y])>>=λxs=>Res.ok (x::xs))>>=λys=>lK ys Y)=_;cases aG Κ Φ a Y with
   |ok x=>cases aG Κ Φ b Y<;>rfl
   |exc=>rfl
   |no=>rfl
  rw[ez];exact⟨Gs ht g2 g1 h3 h4 ((all a).E Γ X r _ k h5) ((all b).E Γ X r _ k h6),rfl⟩
 |mO a=>refine⟨FI hw,?_⟩;obtain⟨v,hv,_⟩:=aI h;obtain⟨_,_,rfl⟩:=gC hv;rfl
 |gQ a=>refine⟨FI hw,?_⟩;obtain⟨v,hv,_⟩:=aI h;obtain⟨_,_,rfl⟩:=gC hv;rfl
 |_=>exact ff rfl h
theorem VL (h:isTup v=false):sw [.Tuple a b c] v env=pure none:=by cases v<;>first|rfl|(cases h;done)
theorem oZ (h:x4 s=some v):∃p,s=.Assign v.1 v.2 p:=bQ (q:=λv=>∃p,s=.Assign v.1 v.2 p) h (by cases s<;>first|exact .inl rfl|exact .inr ⟨_,rfl,_,rfl⟩)
theorem wK (h:Co s=some v):∃p,s=.Expr v p:=bQ (q:=λv=>∃p,s=.Expr v p) h (by cases s<;>first|exact .inl rfl|exact .inr ⟨_,rfl,_,rfl⟩)
theorem Am (h:E9 s=some v):∃p,s=.Return v p:=bQ (q:=λv=>∃p,s=.Return v p) h (by cases s<;>first|exact .inl rfl|exact .inr ⟨_,rfl,_,rfl⟩)
theorem An (h:Fc s=some v):∃p,s=.If v.1 v.2.1 v.2.2 p:=bQ (q:=λv=>∃p,s=.If v.1 v.2.1 v.2.2 p) h (by cases s<;>first|exact .inl rfl|exact .inr ⟨_,rfl,_,rfl⟩)
theorem wL (h:Cp s=some v):∃p,s=.For v.1 v.2.1 v.2.2.1 v.2.2.2 p:=bQ (q:=λv=>∃p,s=.For v.1 v.2.1 v.2.2.1 v.2.2.2 p) h (by cases s<;>first|exact .inl rfl|exact .inr ⟨_,rfl,_,rfl⟩)
theorem G6 (h:KU s=some v):∃p,s=.While v.1 v.2.1 v.2.2 p:=bQ (q:=λv=>∃p,s=.While v.1 v.2.1 v.2.2 p) h (by cases s<;>first|exact .inl rfl|exact .inr ⟨_,rfl,_,rfl⟩)
theorem G7 (h:KW s=some v):(v=0/\∃p,s=.Pass p)\/(v=1/\∃p,s=.Break p)\/(v=2/\∃p,s=.Continue p):=bQ (q:=λv=>(v=0/\∃p,s=.Pass p)\/(v=1/\∃p,s=.Break p)\/(v=2/\∃p,s=.Continue p)) h (by cases s<;>first|exact .inl rfl|exact .inr ⟨_,rfl,.inl ⟨rfl,_,rfl⟩⟩|exact .inr ⟨_,rfl,.inr (.inl ⟨rfl,_,rfl⟩)⟩|exact .inr ⟨_,rfl,.inr (.inr ⟨rfl,_,rfl⟩)⟩)
structure Ss (s:S):Prop where
 R:∀(Γ:Gm) (X:Cx) (r:Nat) (st:Stmt),Cok Γ Κ Φ X r->ja (model X.prog X.w) X.A X.env X.xe->qZ Γ s st=true->PS X st (tDS X.K (aM Κ Φ s))
 L:∀(Γ:Gm) (X:Cx) (r:Nat) (st:List Stmt),Cok Γ Κ Φ X r->ja (model X.prog X.w) X.A X.env X.xe->chkL Γ s st=true->PSs X st (tDS X.K (aM Κ Φ s))
def G8:S->Bool
 |.nil=>false
 |.seq _ _=>false
 |_=>true
variable {Κ:List D}{Φ:List Fn}
theorem Ss.x (h:∀Γ X r st,Cok Γ Κ Φ X r->ja (model X.prog X.w) X.A X.env X.xe->qZ Γ s st=true->PS X st (tDS X.K (aM Κ Φ s)))(hx:G8 s=true):Ss Κ Φ s:=⟨h,by cases s<;>first|(cases hx;done)|exact λ_ _ _ _ _ _ h=>ff rfl h⟩
theorem VM:Ss Κ Φ (.asg t e):=Ss.x (λΓ X r st k hp h=>by
 obtain⟨⟨ts,v⟩,hv,h9⟩:=aI h;obtain⟨p,rfl⟩:=oZ hv;obtain⟨x,hx,h8⟩:=aI h9;cases fH hx;obtain⟨h1,h2,h3,h4⟩:=bG h8;cases t with
 |nm i=>obtain⟨y,q,rfl,h5⟩:=jA h1;exact G5 Κ Φ k h5 (cB h2) h4
 |tp is=>obtain⟨k1,k2⟩:=aE h3;obtain⟨es,VN,_⟩:=aI (aE h1).2;obtain⟨_,_,rfl⟩:=CT VN;exact zpy (Ai k h1) ((all e).E Γ X r _ k h4) ((show sr [_] _ _ _=lc _ _ _ _ from rfl).trans (vG (cB k1) _ _ _)) (VL (cB k2)) rfl) rfl
theorem zu5 {m:String}{i:Nat}{args:C}:Ss Κ Φ (.mut m i args):=Ss.x (λΓ X r st k hp h=>by obtain⟨c,hv,h9⟩:=aI h;obtain⟨p,rfl⟩:=wK hv;obtain⟨⟨x,n,es,b⟩,hm,h8⟩:=aI h9;obtain⟨ap,cp,rfl,hb⟩:=gZ hm;obtain⟨h0,h6,h7⟩:=aP h8;obtain⟨h1,h2,h3,h4,h5⟩:=eK h0;obtain⟨z,q,hz,k1⟩:=jA h1;cases hz;obtain⟨y,es,rfl⟩:=tU h6;cases wj h2;have hm:m∈["append"]:=cu.mp h3;simp only[fo,ao,or_false]at hm;obtain⟨v1,v2,v3,v4⟩:=k.aN k1;subst hm;exact zeu v1 v2 v3 v4 ((all args).A Γ X r _ k h7) (tV h7) (wc h5) (hb.symm.trans h4)) rfl
theorem VO:Ss Κ Φ (.ret e):=Ss.x (λΓ X r st k hp h=>by
 obtain⟨o,hv,h9⟩:=aI h;obtain⟨p,rfl⟩:=Am hv;obtain⟨v,rfl,h8⟩:=aI h9;have g:=(all e).E Γ X r _ k h8;cases e with
 |var i=>obtain⟨x,q,rfl,h7⟩:=jA h8;obtain⟨v1,v2,v3,v4⟩:=k.aN h7;exact z85 v1 v2 v3 v4
 |_=>exact TL g) rfl
theorem G9 (ia:Ss Κ Φ a)(ib:Ss Κ Φ b):Ss Κ Φ (.bA c a b):=Ss.x (λΓ X r st k hp h=>by obtain⟨v,hv,h9⟩:=aI h;obtain⟨p,rfl⟩:=An hv;obtain⟨h1,h2,h3⟩:=aP h9;exact FD ((all c).T Γ X r _ k h1).1 (ia.L Γ X r _ k hp h2) (ib.L Γ X r _ k hp h3)) rfl
theorem VP (ib:Ss Κ Φ b):Ss Κ Φ (.bP t it b):=Ss.x (λΓ X r st k hp h=>by obtain⟨cQ,h⟩:=aE h;obtain⟨⟨t,i,B,o⟩,hv,h9⟩:=aI h;obtain⟨p,rfl⟩:=wL hv;obtain⟨h1,h2,h3,h4⟩:=bG h9;cases fQ h4;obtain⟨hf,hn⟩:=VJ Κ Φ k h2;exact zsd hp (k.calm cQ) hf (Ai k h1) (ib.L Γ X r _ k hp h3) (CY hn _)) rfl
theorem Cok.jT {C:Addr}(k:Cok Γ Κ Φ X r)(nd:(Γ.N.set i "").Nodup)(hc:oe.cls=.ref C)(hm:X.mg c=some (.ref C)):Cok {Γ with N:=Γ.N.set i "",cm:=false,xc:=some (n,c),fns:=[]} Κ Φ (Mi.jT X i n a oe) r where
 hN:=by show X.N.set i ""=Γ.N.set i "";rw[k.hN]
 hs:=k.hs
 nd:=nd
 fn:=k.fn
 kind:=k.kind
 free:=k.free
 fns:=λj f n e=>by simp at e
 cst:=k.cst
 jB:=λj f n e=>by simp at e
 room:=λz=>by cases z
 calm:=λz=>by cases z
 hu:=k.hu
 oY:=k.oY
 CW:=λz=>by cases z
 xc:=λn' c' z=>by cases z;exact⟨a,oe,C,rfl,λ_ _ _ _ I=>(I.pin (a,oe) (cy _ ak)).1,hc,hm⟩
 xk:=⟨k.xk.sub,k.xk.rs,k.xk.fF⟩
theorem G' (e:Fe h=some v):∃np hp,h=.ExceptHandler (some (.Name v.1 np)) (some v.2.1) v.2.2 hp:=by
 unfold Fe at e;split at e
 ·cases e;exact⟨_,_,rfl⟩
 ·cases e
theorem Ha (e:Fd s=some v):∃np cp pos,s=.Raise (some (.Call (.Name v.1 np) v.2 [] cp)) none pos:=by
 unfold Fd at e;split at e
 ·obtain⟨q,p,rfl⟩:=gC e;exact⟨_,_,_,rfl⟩
 ·cases e
theorem Mv (s:S):Ss Κ Φ s:=by
 induction s with
 |nil=>exact⟨λ_ _ _ _ _ _ h=>ff rfl h,λΓ X r st k hp h=>by cases fQ h;exact TC⟩
 |seq a b ia ib=>
  refine⟨λ_ _ _ _ _ _ h=>ff rfl h,λΓ X r st k hp h=>?_⟩;cases st with
  |nil=>cases h
  |cons s st=>exact TF (ia.R Γ X r _ k hp (aE h).1) (ib.L Γ X r _ k hp (aE h).2)
 |bad=>refine Ss.x (λΓ X r st k hp h=>?_) rfl;intro pins s U H D I q;obtain⟨Y,F,out,so,e,_⟩:=q;cases e
 |cnt=>
  refine Ss.x (λΓ X r st k hp h=>?_) rfl;rcases G7 (wc h)with⟨z,_⟩|⟨z,_⟩|⟨_,p,rfl⟩
  ·cases z
  ·cases z
  ·exact TH
 |asg=>exact VM
 | «mut»=>exact zu5
 |ret=>exact VO
 |bA _ _ _ ia ib=>exact G9 ia ib
 |bP _ _ _ ib=>exact VP ib
theorem sL (Κ:List D)(Φ:List Fn)(s:S):∀Γ X r st,Cok Γ Κ Φ X r->ja (model X.prog X.w) X.A X.env X.xe->chkL Γ s st=true->PSs X st (tDS X.K (aM Κ Φ s)):=(Mv s).L
end
section
variable (Κ:List D)(Φ:List Fn)
variable {Κ Φ}
end
section
variable {P:cf}{w:World}{K:W.Frag}{mg:Str->Option Value}{base:Heap}
structure Dok (Γ:Gm)(Κ:List D)(Φ:List Fn)(P:cf)(w:World)(K:W.Frag)(mg:Str->Option Value)(base:Heap)(k:Nat):Prop where
 free:∀x,Γ.free.contains x=true->mg x=none
 fns:∀(j:Nat) f n,Γ.fns[j]?=some (f,n)->∃m k' ps,Φ[j]?=some m/\k'<=k/\Cal P w K mg base k' f ps (spD K n m)
 cst:∀(j:Nat) x,Γ.cst[j]?=some x->∃d a,Κ[j]?=some d/\mg x=some (.ref a)/\∀H B,B none->Rep K H B (.ref a) d
 jB:∀(j:Nat) f n,Γ.fns[j]?=some (f,n)->∃m k' ps,Φ[j]?=some m/\k'<=k/\oU P w K mg base k' f ps n m
 xk:ya Γ K mg
theorem VQ (r:aD K H A vs ds):StOk K ⟨H,λa=>H a=none\/A (some a),λ_=>none,A none⟩ H (vs.map some++bq (n-vs.length) none) (ds.map (λd=>some (.od,d))++bq (n-ds.length) none) where
 ext:=Same.refl H
 aN:=λa e=>.inl e
 own:=λa i e=>by cases e
 len:=by have:=r.length;simp;omega
 sl:=λi g d e=>by
  rw[nr]at e;split at e
  ·rename_i hi;rw[br]at e;cases h1:ds[i]? with
   |none=>rw[h1]at e;cases e
   |some d'=>
    rw[h1]at e;cases e;obtain⟨v,h2,h3⟩:=aD.get r h1;refine⟨v,?_,?_⟩
    ·rw[nr,vy (by rw[aq,r.length];rw[aq]at hi;exact hi),br,h2];rfl
    ·refine(Rep.there _ h3).weak λa h=>?_;cases a with
     |none=>exact h.1
     |some a=>exact⟨λz=>h.2 z,.inr h.1⟩
  ·rw[cz]at e;split at e<;>cases e
theorem d_fn {st:Stmt}(Fu:Fun K x x st f fd)(Sc:FnScope Γ.N ps (z07 st))(hs:Γ.sc=z07 st)(hb:Γ.blk=false)(hxc:Γ.xc=none)(dk:Dok Γ Κ Φ P w K mg base k)(hc:chkL Γ s (z0g st)=true):
  FnOk P w K mg base pP (k+1) f fd ps (spD K ps.length (bU Κ Φ Γ.N.length s)):=by
 refine Fu.ok Sc (λvs H Q E h=>h.choose_spec.choose_spec.choose_spec.1) λdF A outer s1 H vs Q E hr eU=>?_;obtain⟨B,ds,r,hl,rs,e,q⟩:=eU;refine⟨_,sL Κ Φ s Γ (iF pP P w K mg base Γ.N x (z07 st) f dF A outer s1 H E).yG k _ ⟨rfl,hs.symm,Sc.nd,λ_ _=>rfl,by rw[hs];exact Sc.kind,dk.free,dk.fns,dk.cst,dk.jB,λ_=>hr,λ_=>rfl,hr.units,λ_=>⟨rfl,rfl⟩,λ_=>rfl,λ_ _ z=>(by rw[hxc]at z;cases z),dk.xk⟩ PassesOwn.never hc,?_⟩;unfold bU at e;have so:=VQ (n:=Γ.N.length) rs;generalize ho:aM Κ Φ s (ds.map (λd=>some (.od,d))++bq (Γ.N.length-ds.length) none)=out at e
 match out,ho,e with
 |.ok (.nx aH),ho,e=>cases e;refine⟨_,_,_,so,ho,λσ' H' F' kJ ru fr=>q .non H' (λa o e=>(fr a o e rfl).1) rfl⟩
 |.ok (.rt g d),ho,e=>
  cases e;refine⟨_,_,_,so,ho,λv H' hk rv=>q v H' hk (rv.weak λa h=>?_)⟩;cases g with
  |fr=>cases a<;>exact h
  |nu=>cases a<;>exact h
  |od=>cases a with
   |none=>exact .inr h
   |some a=>exact h.elim .inl λz=>.inr z
  |al=>cases a with
   |none=>exact .inr h
   |some a=>exact h.elim .inl λz=>.inr z
 |.exc _,ho,e=>cases e
 |.no,ho,e=>cases e
theorem zs8 {st:Stmt}(Fu:Fun K x x st f fd)(Sc:FnScope Γ.N ps (z07 st))(hs:Γ.sc=z07 st)(hb:Γ.blk=false)(hxc:Γ.xc=none)(dk:Dok Γ Κ Φ P w K mg base k)(hc:chkL Γ s (z0g st)=true):
  FnOk P w K mg base (CXE P w base) (k+1) f fd ps (Md K mg ps.length (bU Κ Φ Γ.N.length s)):=by
 obtain⟨oc,od,kV,doc,pm,an,dF,ct,pN,rfl,lk,hcd⟩:=Fu.ex;refine zkn lk hcd Sc (λvs H Q E h=>h.choose_spec.choose_spec.choose_spec.1) λA outer s1 H vs Q E hr eU=>?_;obtain⟨B,ds,c,hl,rs,e,q⟩:=eU;unfold bU at e;split at e<;>cases e
theorem VR {ns:List Int}(h:SqL K H a (ns.map V.int)):aD K H (λ_=>True) [.ref a] [.list (ns.map .int)]:=by
 refine⟨_,_,rfl,⟨a,ns.map V.int,rfl,?_,?_⟩,rfl⟩
 ·rcases h with(h|h)|h
  ·exact .inl ⟨h,trivial⟩
  ·exact .inr ⟨.inl h,trivial⟩
  ·exact .inr ⟨.inr h,trivial⟩
 ·clear h
  induction ns with
  |nil=>rfl
  |cons n ns ih=>exact⟨_,_,rfl,rfl,ih⟩
end
structure Gd where
 kf:Nat
 args:C
 c:Str
 i:Nat
 j:Nat
 g:Str
 r:Bool
structure XR where
 c:Str
 cs:List (Str×Bool)
 B:Str
def XR.subs (r:XR):List (Str×Str×Bool):=(r.c,"ValueError",true)::r.cs.map λy=>(r.c,y.1,y.2)
def Hb (K:W.Frag)(A:Addr):List (Str×Bool)->Prop
 | []=>True
 |y::l=>(∃D dd cd sl,W.nsIn K bj y.1=some (some (.ref D))/\K.lookup D=some ⟨.type "type",dd,.cls cd,sl⟩/\W.subIn K (.ref A) (.ref D)=some y.2)/\Hb K A l
structure Kx (K:W.Frag)(r:XR)(A D:Addr):Prop where
 a:W.nsIn K bj r.c=some (some (.ref A))
 l:∃dd cd sl,K.lookup A=some ⟨.type "type",dd,.cls cd,sl⟩
 e:W.excIn K A [.type "ValueError",.type "Exception",.type "BaseException",.type "object"] "ValueError.__new__"=true
 cl:W.findIn K (.ref A) "__class__"=some (some (.builtin "object.__class__"))
 ga:W.findIn K (.ref A) "__getattribute__"=some (some (.builtin "BaseException.__getattribute__"))
 gt:W.findIn K (.ref A) "__getattr__"=some none
 ob:W.subIn K (.ref A) (.type "object")=some true
 be:W.subIn K (.ref A) (.type "BaseException")=some true
 v:W.subIn K (.ref A) (.type "ValueError")=some true
 b:W.nsIn K bj r.B=some (some (.ref D))
 f:W.excIn K D [.type "ValueError",.type "Exception",.type "BaseException",.type "object"] "ValueError.__new__"=true
 s:W.subIn K (.ref A) (.ref D)=some true
 cs:Hb K A r.cs
def Hc (K:W.Frag):List XR->Prop
 | []=>True
 |r::l=>(∃A D,Kx K r A D)/\Hc K l
inductive Kd where
 |n
 |e (c:Str) (r:Bool)
 |g (d:Gd) (je:Nat)
structure aO where
 nm:Str
 st:Stmt
 N:List Str
 ps:List Str
 free:List Str
 fns:List Nat
 s:S
 F:Fn
 kd:Kd
 kc:List (Str×List Str):=[]
def cD (y:Str×List Str):D:=.tuple (y.2.map .str)
def sig (Rs:List aO)(j:Nat):Str×Nat:=match Rs[j]? with
 |some c=>(c.nm,c.ps.length)
 |none=>("",0)
def fnAt (Rs:List aO)(j:Nat):Fn:=match Rs[j]? with
 |some c=>c.F
 |none=>λ_=>.no
def aO.G (Rs:List aO)(xt:List XR)(r:aO):Gm:={N:=r.N,sc:=z07 r.st,free:=r.free,fns:=r.fns.map (sig Rs),cst:=r.kc.map (·.1),sub:=(xt.map XR.subs).flatten,rs:=xt.map (·.c),fF:=xt.map λr=>(r.c,r.B)}
def Kd.fW:Kd->Bool
 |.e _ _=>true
 |_=>false
def nE (Rs:List aO)(j:Nat):Bool:=match Rs[j]? with
 |some c=>!c.kd.fW
 |none=>true
def aO.part (Rs:List aO)(xt:List XR)(i:Nat)(r:aO):Bool:=match r.kd with
 |.n=>chkL (r.G Rs xt) r.s (z0g r.st)
 |.e _ _=>false
 |.g _ _=>false
def aO.ok (Rs:List aO)(xt:List XR)(fr:List Str)(i:Nat)(r:aO):Bool:=
 (decide ((z07 r.st).kind=.function)&& !(z07 r.st).isCoroutine&& !(z07 r.st).isGenerator&&decide r.N.Nodup&&decide (r.N.take r.ps.length=r.ps))&&
 (r.ps.all (λx=>(z07 r.st).names.lookup x==some .local||(z07 r.st).names.lookup x==some .cell)&&(z07 r.st).names.all (λy=>!(y.2==.free))&&r.free.all (λx=>fr.contains x)&&r.fns.all (λj=>decide (j<i)&&nE Rs j)&&r.part Rs xt i)
def oks (Rs:List aO)(xt:List XR)(fr:List Str):Nat->List aO->Bool
 |_,[]=>true
 |i,r::l=>r.ok Rs xt fr i&&oks Rs xt fr (i+1) l
def aO.Hd (Rs:List aO)(r:aO):Prop:=match r.kd with
 |.n=>r.F=bU (r.kc.map cD) (r.fns.map (fnAt Rs)) r.N.length r.s
 |.e _ _=>True
 |.g _ _=>True
def rO (Rs:List aO):List aO->Prop
 | []=>True
 |r::l=>r.Hd Rs/\rO Rs l
theorem CZ:∀{l:List aO} {k i:Nat} {r:aO},oks Rs xt fr k l=true->l[i]?=some r->r.ok Rs xt fr (k+i)=true
 | [],_,i,_,_,e=>by simp at e
 |r::l,k,0,_,h,e=>by cases e;exact(aE h).1
 |r::l,k,i+1,_,h,e=>by
  have:=CZ (aE h).2 e
  rwa [show k+(i+1)=k+1+i by omega]
theorem Mw:∀{l:List aO} {i:Nat} {r:aO},rO Rs l->l[i]?=some r->r.Hd Rs
 | [],i,_,_,e=>by simp at e
 |r::l,0,_,h,e=>by cases e;exact h.1
 |r::l,i+1,_,h,e=>Mw h.2 e
section
variable {P:cf}{w:World}{K:W.Frag}{mg:Str->Option Value}{base:Heap}{Rs:List aO}{xt:List XR}{fr:List Str}
theorem Ao {r:aO}(h:r.ok Rs xt fr i=true):FnScope (r.G Rs xt).N r.ps (z07 r.st)/\(∀x,r.free.contains x=true->fr.contains x=true)/\(∀j∈r.fns,j<i/\nE Rs j=true)/\r.part Rs xt i=true:=by
 obtain⟨h1,h2⟩:=aE h;obtain⟨a1,a2,a3,a4,a5⟩:=eK h1;obtain⟨b1,b2,b3,b4,b5⟩:=eK h2;refine⟨⟨wc a1,cB a2,cB a3,wc a4,wc a5,λx hx=>?_,λy hy z=>?_⟩,λx hx=>?_,λj hj=>⟨wc (aE (bp.mp b4 j hj)).1,(aE (bp.mp b4 j hj)).2⟩,b5⟩
 ·rcases gr.mp (bp.mp b1 x hx)with q|q
  ·exact .inl (wj q)
  ·exact .inr (wj q)
 ·have :=cB (bp.mp b2 y hy);rw[z]at this;cases this
 ·exact bp.mp b3 x (cu.mp hx)
def yc (P:cf)(w:World)(K:W.Frag)(mg:Str->Option Value)(base:Heap)(i:Nat)(r:aO):Prop:=match r.kd with
 |.e _ _=>True
 |_=>Cal P w K mg base (i+1) r.nm r.ps (spD K r.ps.length r.F)/\oU P w K mg base (i+1) r.nm r.ps r.ps.length r.F
theorem rP (h:yc P w K mg base j c)(e:Rs[j]?=some c)(n:nE Rs j=true):Cal P w K mg base (j+1) c.nm c.ps (spD K c.ps.length c.F)/\oU P w K mg base (j+1) c.nm c.ps c.ps.length c.F:=by
 unfold nE at n;rw[e]at n;have n:(!c.kd.fW)=true:=n;unfold yc at h;cases hk:c.kd with
 |n=>rw[hk]at h;exact h
 |g d je=>rw[hk]at h;exact h
 |e x b=>rw[hk]at n;cases n
def z9k (K:W.Frag)(mg:Str->Option Value)(y:Str×List Str):Prop:=∃a,mg y.1=some (.ref a)/\∀H B,B none->Rep K H B (.ref a) (cD y)
theorem Mx (hr:Rs[i]?=some r)(h:r.ok Rs xt fr i=true)(T:∀x∈fr,mg x=none)(xk:∀Γ,Γ.sub=(xt.map XR.subs).flatten->Γ.rs=xt.map (·.c)->(Γ.fF=xt.map λr=>(r.c,r.B))->ya Γ K mg)(hC:∀y∈r.kc,z9k K mg y)(ih:∀j c,j<i->Rs[j]?=some c->yc P w K mg base j c):Dok (r.G Rs xt) (r.kc.map cD) (r.fns.map (fnAt Rs)) P w K mg base i where
 free:=λx hx=>T x (cu.mp ((Ao h).2.1 x hx))
 fns:=λj f n e=>by
  have e:(r.fns.map (sig Rs))[j]?=some (f,n):=e;rw[br]at e;obtain⟨jj,ej,e⟩:=dj.mp e;obtain⟨cM,fG⟩:=(Ao h).2.2.1 jj (d9 ej);have hl:=(bv.mp hr).1;have hc:=bn (oj cM hl);unfold sig at e;rw[hc]at e;cases e;refine⟨fnAt Rs jj,jj+1,Rs[jj].ps,by rw[br,ej];rfl,cM,?_⟩;have:fnAt Rs jj=Rs[jj].F:=by unfold fnAt;rw[hc]
  rw[this];exact(rP (ih jj _ cM hc) hc fG).1
 cst:=λj x e=>by have e:(r.kc.map (·.1))[j]?=some x:=e;rw[br]at e;obtain⟨y,ey,rfl⟩:=dj.mp e;obtain⟨a,h1,h2⟩:=hC y (d9 ey);exact⟨cD y,a,by rw[br,ey];rfl,h1,h2⟩
 jB:=λj f n e=>by
  have e:(r.fns.map (sig Rs))[j]?=some (f,n):=e;rw[br]at e;obtain⟨jj,ej,e⟩:=dj.mp e;obtain⟨cM,fG⟩:=(Ao h).2.2.1 jj (d9 ej);have hl:=(bv.mp hr).1;have hc:=bn (oj cM hl);unfold sig at e;rw[hc]at e;cases e;refine⟨fnAt Rs jj,jj+1,Rs[jj].ps,by rw[br,ej];rfl,cM,?_⟩;have:fnAt Rs jj=Rs[jj].F:=by unfold fnAt;rw[hc]
  rw[this];exact(rP (ih jj _ cM hc) hc fG).2
 xk:=xk _ rfl rfl rfl
theorem VS (hok:oks Rs xt fr 0 Rs=true)(hF:rO Rs Rs)(T:∀x∈fr,mg x=none)(xk:∀Γ,Γ.sub=(xt.map XR.subs).flatten->Γ.rs=xt.map (·.c)->(Γ.fF=xt.map λr=>(r.c,r.B))->ya Γ K mg)(n:Nat)(hC:∀r∈Rs,∀y∈r.kc,z9k K mg y)(O:∀i r,i<n->Rs[i]?=some r->Own K mg r.nm r.st r.ps):∀i r,i<n->Rs[i]?=some r->yc P w K mg base i r:=by
 intro i
 induction i using Nat.strongRecOn with
 |ind i ih=>
  intro r hi hr
  have ho:r.ok Rs xt fr i=true:=by
   have:=CZ hok hr
   rwa [on]at this
  have D:=Mx hr ho T xk (hC r (d9 hr)) (λj c hj hc=>ih j hj c (oj hj hi) hc);obtain⟨Sc,zj,_,hp⟩:=Ao ho;have hf:=Mw hF hr;obtain⟨f,fd,Fu,m,kp,b⟩:=O i r hi hr;unfold aO.Hd at hf;unfold aO.part at hp;unfold yc;cases hk:r.kd with
  |n=>rw[hk]at hf hp;rw[hf];exact⟨⟨f,fd,d_fn (Γ:=r.G Rs xt) Fu Sc rfl rfl rfl D hp,m,kp,b⟩,f,fd,zs8 Fu Sc rfl rfl rfl D hp,m,kp,b⟩
  |e c bb=>rw[hk]at hp;cases hp
  |g d je=>rw[hk]at hp;cases hp
end
def Kf (K:W.Frag)(r:aO)(f:Addr)(fd:i8):Prop:=W.nsIn K bj r.nm=some (some (.ref f))/\∃(oc:Value) (od an:Option Addr) (sl:Array (Option Value)) (kV dc pm cd ct:Value),fd=W.fnOf r.nm r.nm (lE r.st) (z0g r.st) (z07 r.st) .none kV dc pm an cd ct/\K.lookup f=some ⟨oc,od,.func fd,sl⟩/\W.codeIn K cd r.nm=true/\W.keepIn K (.ref f)=true
def He (r:aO):Prop:=∀(kV doc pm:Value) (an:Option Addr) (dF ct:Value) (us:List Value),us.length=r.ps.length->vk (W.fnOf r.nm r.nm (lE r.st) (z0g r.st) (z07 r.st) .none kV doc pm an dF ct) ⟨us,[]⟩=pure (r.ps.zip us)
theorem pA (h:us.length=n+1):∃a l,us=a::l/\l.length=n:=by
 cases us with
 |nil=>cases h
 |cons a l=>exact⟨a,l,rfl,Nat.succ.inj h⟩
theorem yd {P:List Value->Prop}(h:∀a,P [a])(us:List Value)(z:us.length=1):P us:=by obtain⟨a,l,rfl,y⟩:=pA z;cases List.eq_nil_of_length_eq_zero y;exact h a
theorem ye {P:List Value->Prop}(h:∀a b,P [a,b])(us:List Value)(z:us.length=2):P us:=by obtain⟨a,l,rfl,y⟩:=pA z;exact yd (P:=λl=>P (a::l)) (h a) l y
theorem My {P:List Value->Prop}(h:∀a b c,P [a,b,c])(us:List Value)(z:us.length=3):P us:=by obtain⟨a,l,rfl,y⟩:=pA z;exact ye (P:=λl=>P (a::l)) (h a) l y
theorem by4 {P:List Value->Prop}(h:∀a b c d,P [a,b,c,d])(us:List Value)(z:us.length=4):P us:=by obtain⟨a,l,rfl,y⟩:=pA z;exact My (P:=λl=>P (a::l)) (h a) l y
theorem VT {P:List Value->Prop}(h:∀a b c d e,P [a,b,c,d,e])(us:List Value)(z:us.length=5):P us:=by obtain⟨a,l,rfl,y⟩:=pA z;exact by4 (P:=λl=>P (a::l)) (h a) l y
def kOks (K:W.Frag):List aO->Prop
 | []=>True
 |r::l=>((∃f fd,Kf K r f fd)/\He r)/\kOks K l
theorem Mz {K:W.Frag}:∀{l:List aO} {i:Nat} {r:aO},kOks K l->l[i]?=some r->(∃f fd,Kf K r f fd)/\He r
 | [],i,_,_,e=>by simp at e
 |r::l,0,_,h,e=>by cases e;exact h.1
 |r::l,i+1,_,h,e=>Mz h.2 e
def strOf:Value->Option Str
 |.str x _=>if PyData.strOk x then some x else none
 |_=>none
def ck1 (K:W.Frag)(y:Str×List Str):Bool:=match W.nsIn K bj y.1 with
 |some (some (.ref a))=>(match K.lookup a with
  |some ⟨.type "tuple",none,.seq its _,_⟩=>decide (its.toList.map strOf=y.2.map some)&&decide (y.2.length<=1000)
  |_=>false)
 |_=>false
theorem MA:∀{us:List Value} {ws:List Str},us.map strOf=ws.map some->Vals (ws.map V.str) us/\∀w∈ws,PyData.strOk w=true
 | [],[],_=>⟨.nil,λ_ h=>by cases h⟩
 | [],_::_,h=>by cases h
 |_::_,[],h=>by cases h
 |u::us,w::ws,h=>by
  obtain⟨h1,h2⟩:=List.cons.inj h;obtain⟨a,b⟩:=MA h2;cases u with
  |str x t=>
   have h1:(if PyData.strOk x then some x else none)=some w:=h1;split at h1
   ·rename_i hx;cases h1;exact⟨.cons ⟨t,rfl⟩ a,λz hz=>(ao.mp hz).elim (λe=>by rw[e];exact hx) (b z)⟩
   ·cases h1
  |_=>cases h1
theorem MB {K:W.Frag}:∀{ws:List Str},(∀w∈ws,PyData.strOk w=true)->aD K H B (ws.map V.str) (ws.map PyData.str)
 | [],_=>rfl
 |w::ws,h=>aD.cons ⟨rfl,h w (.head _)⟩ (MB λz hz=>h z (.tail _ hz))
theorem VU {K:W.Frag}(X:K.In h)(G:h.Ns bj mg)(c:ck1 K y=true):z9k K mg y:=by
 unfold ck1 at c;split at c
 ·rename_i a ha;split at c
  ·rename_i its n sl hl;obtain⟨c1,c2⟩:=aE c;obtain⟨v,ok⟩:=MA (wc c1);have hz:its.size<=ba:=by have e:=v.length;rw[aq,cq]at e;have:=wc c2;rw[cg];omega
   exact⟨a,W.mg_of X G ha,λH B _=>⟨a,y.2.map V.str,rfl,.inr ⟨_,its,n,hl,rfl,rfl,rfl,hz,v⟩,MB ok⟩⟩
  ·cases c
 ·cases c
def tX (K:W.Frag)(r:aO):Option (i8×Bool):=match W.nsIn K bj r.nm with
 |some (some (.ref f))=>(match K.lookup f with
  |some ⟨_,_,.func fd,_⟩=>some (fd,W.codeIn K fd.code r.nm&&W.keepIn K (.ref f))
  |_=>none)
 |_=>none
def MC (r:aO)(x:i8×Bool):i8×Bool:=(W.fnOf r.nm r.nm (lE r.st) (z0g r.st) (z07 r.st) .none x.1.kwdefaults x.1.doc x.1.pyModule x.1.annotations x.1.code x.1.closureTuple,true)
def Ap (K:W.Frag)(A:Addr):Bool:=match K.lookup A with
 |some ⟨.type "type",_,.cls _,_⟩=>true
 |_=>false
def Aq:List Value:=[.type "ValueError",.type "Exception",.type "BaseException",.type "object"]
def Hf (K:W.Frag)(r:XR):Option (Bool×Bool×Option (Option Value)×Option (Option Value)×Option (Option Value)×Option Bool×Option Bool×Option Bool×Bool×Option Bool×List (Bool×Option Bool)):=match W.nsIn K bj r.c,W.nsIn K bj r.B with
 |some (some (.ref A)),some (some (.ref D))=>some (Ap K A,W.excIn K A Aq "ValueError.__new__",W.findIn K (.ref A) "__class__",W.findIn K (.ref A) "__getattribute__",W.findIn K (.ref A) "__getattr__",W.subIn K (.ref A) (.type "object"),W.subIn K (.ref A) (.type "BaseException"),W.subIn K (.ref A) (.type "ValueError"),W.excIn K D Aq "ValueError.__new__",W.subIn K (.ref A) (.ref D),r.cs.map λy=>match W.nsIn K bj y.1 with
  |some (some (.ref E))=>(Ap K E,W.subIn K (.ref A) (.ref E))
  |_=>(false,none))
 |_,_=>none
def Hg (r:XR):Option (Bool×Bool×Option (Option Value)×Option (Option Value)×Option (Option Value)×Option Bool×Option Bool×Option Bool×Bool×Option Bool×List (Bool×Option Bool)):=some (true,true,some (some (.builtin "object.__class__")),some (some (.builtin "BaseException.__getattribute__")),some none,some true,some true,some true,true,some true,r.cs.map λy=>(true,some y.2))
theorem MD {K:W.Frag}(h:Ap K A=true):∃dd cd sl,K.lookup A=some ⟨.type "type",dd,.cls cd,sl⟩:=by
 unfold Ap at h;split at h
 ·rename_i dd cd sl e;exact⟨dd,cd,sl,e⟩
 ·cases h
theorem zdt {K:W.Frag}:∀{l:List (Str×Bool)},(l.map fun y=>match W.nsIn K bj y.1 with
  |some (some (.ref E))=>(Ap K E,W.subIn K (.ref A) (.ref E))
  |_=>(false,none))=(l.map λy=>(true,some y.2))->Hb K A l
 | [],_=>trivial
 |y::l,h=>by
  have h:=List.cons.inj h;refine⟨?_,zdt h.2⟩;have e:=h.1
  dsimp only at e
  split at e
  ·rename_i E hE;have e:=wa e;obtain⟨dd,cd,sl,q⟩:=MD e.1;exact⟨E,dd,cd,sl,hE,q,e.2⟩
  ·cases(wa e).1
theorem VV {K:W.Frag}(h:Hf K r=Hg r):∃A D,Kx K r A D:=by
 unfold Hf Hg at h;split at h
 ·rename_i A D hA hD;have h:=wa (v5 h);have h2:=wa h.2;have h3:=wa h2.2;have h4:=wa h3.2;have h5:=wa h4.2;have h6:=wa h5.2;have h7:=wa h6.2;have h8:=wa h7.2;have h9:=wa h8.2;have yb:=wa h9.2;exact⟨A,D,hA,MD h.1,h2.1,h3.1,h4.1,h5.1,h6.1,h7.1,h8.1,hD,h9.1,yb.1,zdt yb.2⟩
 ·cases h
theorem MF {K:W.Frag}:∀{l:List XR},(∀r∈l,∃A D,Kx K r A D)->Hc K l
 | [],_=>trivial
 |r::_,h=>⟨h r (.head _),MF λr hr=>h r (.tail _ hr)⟩
def KEq (K:gu->W.Frag)(Rs:List aO)(fr:List Str)(xt:List XR):Prop:=∀P,(Rs.map λr=>(tX (K P) r).isSome,Rs.map λr=>tX (K P) r,fr.map λn=>W.nsIn (K P) bj n,xt.map λr=>Hf (K P) r,Rs.map λr=>r.kc.map λy=>ck1 (K P) y)=(Rs.map λ_=>true,Rs.map λr=>(tX (K P) r).map (MC r),fr.map λ_=>some none,xt.map Hg,Rs.map λr=>r.kc.map λ_=>true)
theorem KEq_r:KEq=KEq:=rfl
theorem VW {K:W.Frag}(h:(tX K r).isSome=true)(e:tX K r=(tX K r).map (MC r)):∃f fd,Kf K r f fd:=by
 cases z:tX K r with
 |none=>rw[z]at h;cases h
 |some x=>
  rw[z]at e;have e:=v5 e;unfold tX at z;split at z
  ·rename_i f hf;split at z
   ·rename_i oc od fd sl hl;have z:=v5 z;have z1:=congrArg ux z;have z2:=congrArg vo z;rw[congrArg vo e]at z2;have z3:=bg.mp z2;subst z1;exact⟨f,x.1,hf,oc,od,x.1.annotations,sl,x.1.kwdefaults,x.1.doc,x.1.pyModule,x.1.code,x.1.closureTuple,congrArg ux e,hl,z3.1,z3.2⟩
   ·cases z
  ·cases z
theorem C3 {K:gu->W.Frag}(h:KEq K Rs fr xt)(P:gu):(∀r∈Rs,∃f fd,Kf (K P) r f fd)/\(∀n∈fr,W.nsIn (K P) bj n=some none)/\Hc (K P) xt/\∀r∈Rs,∀y∈r.kc,ck1 (K P) y=true:=by have a:=wa (h P);have b:=wa a.2;have c:=wa b.2;have d:=wa c.2;exact⟨λr hr=>VW (du.mp a.1 r hr) (du.mp b.1 r hr),λn hn=>du.mp c.1 n hn,MF λr hr=>VV (du.mp d.1 r hr),λr hr=>du.mp (du.mp d.2 r hr)⟩
def wM:List aO->Prop
 | []=>True
 |r::l=>He r/\wM l
theorem MG {K:W.Frag}:∀{l:List aO},(∀r∈l,∃f fd,Kf K r f fd)->wM l->kOks K l
 | [],_,_=>trivial
 |r::_,h,b=>⟨⟨h r (.head _),b.1⟩,MG (λr hr=>h r (.tail _ hr)) b.2⟩
end Mi
name_quick tkeq for Mi.KEq by Mi.KEq_r
namespace Mk
open Mi
section
open PySem
end
section
open PySem
theorem MH:aM Κ Φ (.seq p q) Y=qV (aM Κ Φ p Y) (aM Κ Φ q):=rfl
theorem MI:aM Κ Φ (.asg (.nm i) t) Y=(aG Κ Φ t Y>>=λx=>.ok (.nx (Y.set i (some (z10 x))))):=rfl
theorem Hi:aM Κ Φ (.bA c p q) Y=(dU Κ Φ c Y>>=λk=>if k then aM Κ Φ p Y else aM Κ Φ q Y):=rfl
theorem MJ:aM Κ Φ (.ret (.var i)) Y=(match Y[i]? with|some (some (g,d))=>.ok (.rt (if imm d then .fr else iY g) d)|_=>.no):=rfl
theorem VX:aM Κ Φ (.mut m i a) Y=(dM Κ Φ a Y>>=λys=>match Y[i]? with
 |some (some (.fr,.list xs))=>oA m xs ys>>=λxV=>.ok (.nx ((Y.set i (some (.fr,.list xV))).map pR))
 |_=>.no):=rfl
theorem VY:aM Κ Φ (.bP t' a p) Y=(evF Κ Φ a Y>>=λw=>cA (λx ρ1=>fE t' (gJ x w.1,x) ρ1>>=λdC=>aM Κ Φ p dC) w.2.1 w.2.2):=rfl
theorem VZ:cA f (x::xs) Y=(match f x Y with
 |.ok (.nx aH)=>cA f xs aH
 |.ok (.ct aH)=>cA f xs aH
 |.ok (.bk aH)=>.ok (.nx aH)
 |.ok (.rt g d)=>.ok (.rt g d)
 |.exc e=>.exc e
 |.no=>.no):=rfl
theorem V0:dM Κ Φ .nil Y=.ok []:=rfl
theorem Ar:dM Κ Φ (.cons a b) Y=(aG Κ Φ a Y>>=λx=>dM Κ Φ b Y>>=λxs=>.ok (x::xs)):=rfl
theorem Hj:vP Κ Φ (.tv a) Y=(aG Κ Φ a Y>>=λx=>vN x.2):=rfl
theorem As:EW Κ Φ (.tv a) Y=(aG Κ Φ a Y>>=λx=>z4c x.2>>=λp=>.ok (x.1,p)):=rfl
theorem Hk:dU Κ Φ (.tv a) Y=(aG Κ Φ a Y>>=λx=>fX x.2):=rfl
theorem V1:dU Κ Φ (.and a b) Y=(dU Κ Φ a Y>>=λc=>if c then dU Κ Φ b Y else .ok false):=rfl
theorem Hl:dU Κ Φ (.or a b) Y=(dU Κ Φ a Y>>=λc=>if c then .ok true else dU Κ Φ b Y):=rfl
theorem V2:dU Κ Φ (.not a) Y=(dU Κ Φ a Y>>=λc=>.ok (!c)):=rfl
theorem Hm:evW Κ Φ (.tv a) Y=(aG Κ Φ a Y>>=λx=>z56 x.2>>=λxs=>.ok (x.1,xs)):=rfl
theorem V3:evW Κ Φ (.gQ a) Y=(dM Κ Φ a Y>>=λys=>eJ (ys.map (·.2))>>=λxs=>.ok (.fr,xs)):=rfl
theorem Hn (hv:∀i,a≠.var i):evF Κ Φ (.tv a) Y=(if lL Κ Φ (.tv a) Y then aG Κ Φ a Y>>=λx=>oE x Y else qW Κ Φ (.tv a) Y):=by cases a<;>first|exact absurd rfl (hv _)|rfl
theorem wN (h:aM Κ Φ a Y=.ok (.nx aH))(k:aM Κ Φ b aH=r):aM Κ Φ (.seq a b) Y=r:=by rw[MH,h];exact k
theorem eL (h:aM Κ Φ a Y=.ok (.rt g d)):aM Κ Φ (.seq a b) Y=.ok (.rt g d):=by rw[MH,h];rfl
theorem kM (h:aM Κ Φ s (ds.map (λd=>some (.od,d))++bq (n-ds.length) none)=.ok (.rt g d)):bU Κ Φ n s ds=.ok (g,d):=by unfold bU;rw[h]
theorem MK {β:Type}{m:β->D}(I:List β->Rho->Prop):∀xs pre Y,(∀rQ x post Y,pre++xs=rQ++x::post->I rQ Y->∃aH,f (m x) Y=.ok (.nx aH)/\I (rQ++[x]) aH)->I pre Y->∃aH,cA f (xs.map m) Y=.ok (.nx aH)/\I (pre++xs) aH
 | [],pre,Y,_,h=>⟨Y,rfl,by rw[ci];exact h⟩
 |x::xs,pre,Y,hf,h=>by
  obtain⟨ρ1,e,h1⟩:=hf pre x xs Y rfl h;have e0:pre++[x]++xs=pre++x::xs:=by rw[gm];rfl
  obtain⟨dC,e2,h2⟩:=MK I xs (pre++[x]) ρ1 (λrQ y post Y hy=>hf rQ y post Y (e0▸hy)) h1;exact⟨dC,by rw[bx,VZ,e];exact e2,e0▸h2⟩
theorem ML {β:Type}{m:β->D}(g:β->Option D):∀(xs:List β),(∀x∈xs,f (m x)=.ok ((g x).map λd=>(.fr,d)))->lJ f (xs.map m)=.ok ((xs.filterMap g).map λd=>(.fr,d))
 | [],_=>rfl
 |x::xs,h=>by
  rw[bx,lJ,h x ak,ML g xs λy hy=>h y (ah _ hy)];cases e:g x with
  |none=>rw[ph e];rfl
  |some d=>rw[pi e];rfl
theorem V4 (xs:List D):tL (xs.map λd=>(G.fr,d))=.fr:=by unfold tL;rw[vy];rw[uy];exact bp.mpr λ_ _=>rfl
theorem V5 (xs:List D):bZ (xs.map λd=>(G.fr,d))=.fr:=by unfold bZ;rw[vy];rw[bp];intro x hx;obtain⟨d,_,rfl⟩:=dh.mp hx;rfl
theorem Ho (xs:List D):(xs.map λd=>(G.fr,d)).map (λx=>x.2)=xs:=by rw[gq];exact vf _
theorem V6 (a b:Int):gS "min" [.int a,.int b]=.ok (.int (min a b)):=rfl
theorem MM (l:Bool)(xs:List D):aggD "tuple" l xs=.ok (.tuple xs):=rfl
theorem V7 (l:Bool)(xs:List D):aggD "list" l xs=.ok (.list xs):=rfl
def chr (z:Str)(i:Int):Str:=⟨#[z.cps.toList.getD i.toNat 0]⟩
theorem MN (z:Str)(i:Int):(chr z i).length=1:=rfl
theorem hX (a b:Str):(a++b).length=a.length+b.length:=by show Array.size (a.cps++b.cps)=_;rw[Array.size_append];rfl
theorem C4 {α:Type}(xs:List α)(i:Int)(d:α)(h0:0<=i)(h1:i<xs.length):cF xs i=some (xs.getD i.toNat d):=by
 unfold cF lB;rw[vy h0,vy h1];show xs[i.toNat]?=_;have:i.toNat<xs.length:=by omega
 rw[am,bn this];rfl
theorem xS (h0:0<=i)(h1:i<z.length)(hz:z.length<=1000):iG (.str z) (.int i)=.ok (.str (chr z i)):=by show(if z.length<=LIM then Res.eQ ((cF z.cps.toList i).map λc=>PyData.str ⟨#[c]⟩)else .no)=_;rw[vy (by unfold LIM;omega),C4 _ i 0 h0 (by rw[cq];exact h1)];rfl
theorem tY {ns:List Str}{i:Int}(h0:0<=i)(h1:i<ns.length):iG (.list (ns.map .str)) (.int i)=.ok (.str (ns.getD i.toNat ⟨#[]⟩)):=by
 show Res.eQ (cF (ns.map PyData.str) i)=_;rw[C4 _ i (.str ⟨#[]⟩) h0 (by rw[aq];exact h1)]
 congr 1
 have:i.toNat<ns.length:=by omega
 rw[am,am,br,bn this];rfl
theorem Au {ns:List Int}{i:Int}(h0:0<=i)(h1:i<ns.length):iG (.list (ns.map .int)) (.int i)=.ok (.int (ns.getD i.toNat 0)):=by
 show Res.eQ (cF (ns.map PyData.int) i)=_;rw[C4 _ i (.int 0) h0 (by rw[aq];exact h1)]
 congr 1
 have:i.toNat<ns.length:=by omega
 rw[am,am,br,bn this];rfl
theorem getD_mem {α:Type}{ns:List α}{i:Int}{d:α}(h0:0<=i)(h1:i<ns.length):ns.getD i.toNat d∈ns:=by grind
theorem add_str (h:a.length+b.length<=1000):cH .Add (.str a) (.str b)=.ok (.str (a++b)):=by show(if _ then _ else _)=_;rw[vy (by unfold LIM;omega)]
theorem add_list (h:a.length+b.length<=1000):cH .Add (.list a) (.list b)=.ok (.list (a++b)):=by show(if _ then _ else _)=_;rw[vy (by unfold LIM;omega)]
theorem Hq (h:-(2 ^ 64)<b/\b<2 ^ 64):cH .Mult (.int a) (.int b)=.ok (.int (a*b)):=by show(if _ then _ else _)=_;rw[vy (.inr h)]
theorem Hr (h:-(2 ^ 64)<a/\a<2 ^ 64):cH .Mult (.int a) (.int b)=.ok (.int (a*b)):=by show(if _ then _ else _)=_;rw[vy (.inl h)]
theorem gD (h:0<b):cH .Mod (.int a) (.int b)=.ok (.int (a%b)):=by show(if _ then _ else _)=_;rw[vy h]
theorem Aw (h0:0<=n)(h1:n<=1000):eJ [.int n]=.ok ((cj n.toNat).map λ(i:Nat)=>.int i):=by show(if _ then _ else _)=_;rw[vy (by unfold LIM;omega)]
theorem Cf (h:z.length<=1000):tO (.str z) i j=.ok (.str (fY z i j)):=by show(if _ then _ else _)=_;rw[vy (by unfold LIM;omega)]
theorem iK (ns:List Str):imms (ns.map .str)=true:=xT.mpr λx hx=>by obtain⟨p,_,rfl⟩:=dh.mp hx;rfl
theorem MO (ns:List Int):imms (ns.map .int)=true:=xT.mpr λx hx=>by obtain⟨p,_,rfl⟩:=dh.mp hx;rfl
theorem Hs:∀ns,cN (ns.map .str)=some ns
 | []=>rfl
 |n::ns=>by rw[bx,cN,Hs ns];rfl
theorem V8:∀ss,(∀s∈ss,s.length=1)->(z0e "" ss).length=ss.length
 | [],_=>rfl
 |x::r,h=>by
  show(List.toArray (x.cps.toList++(r.map λp=>([]:List Nat)++p.cps.toList).flatten)).size=_
  have h2:∀(r:List Str),(∀s∈r,s.length=1)->((r.map λp=>([]:List Nat)++p.cps.toList).flatten).length=r.length:=by
   intro r
   induction r with
   |nil=>intro _;rfl
   |cons y r ih=>intro h;rw[bx,pc,ax,ih λs hs=>h s (ah _ hs)];have:(([]:List Nat)++y.cps.toList).length=1:=h y ak;rw[ay];omega
  rw[az,ax,h2 r λs hs=>h s (ah _ hs)];have:x.cps.toList.length=1:=h x ak;rw[ay];omega
theorem V9 (h:∀s∈ss,s.length=1)(hl:ss.length<=1000):mtD "join" (.str "") [.list (ss.map .str)]=.ok (.str (z0e "" ss)):=by
 have:mtD "join" (.str "") [.list (ss.map .str)]=(match cN (ss.map .str)with|some ss=>if qU "" ss<=LIM then .ok (.str (z0e "" ss))else .no|none=>.no):=rfl;rw[this,Hs]
 dsimp only
 rw[vy];unfold qU;have h0:("":Str).length=0:=rfl
 have h1:∀(r:List Str),(∀s∈r,s.length=1)->(r.map (·.length)).sum=r.length:=by
  intro r
  induction r with
  |nil=>intro _;rfl
  |cons y r ih=>intro h;rw[bx,List.sum_cons,h y ak,ih λs hs=>h s (ah _ hs),ay];omega
 rw[h1 ss h,h0];unfold LIM;omega
theorem V' (a b:Int):eqD (.int a) (.int b)=decide (a=b):=by rfl
theorem Ht:aG Κ Φ (.var i) Y=(vM Y[i]?):=rfl
theorem Wa:aG Κ Φ (.non) Y=(.ok (.fr,.none)):=rfl
theorem Hu:aG Κ Φ (.bl b) Y=(.ok (.fr,.bool b)):=rfl
theorem Wb:aG Κ Φ (.int i) Y=(.ok (.fr,.int i)):=rfl
theorem Wf:aG Κ Φ (.str x) Y=(.ok (.fr,.str x)):=rfl
theorem Hv:aG Κ Φ (.bin op a b) Y=(aG Κ Φ a Y>>=λx=>aG Κ Φ b Y>>=λy=>cH op x.2 y.2>>=λd=>.ok (gN d (bZ [x,y]),d)):=rfl
theorem Wg:aG Κ Φ (.cmp op a b) Y=(aG Κ Φ a Y>>=λx=>aG Κ Φ b Y>>=λy=>cmpD op x.2 y.2>>=λb=>.ok (.fr,.bool b)):=rfl
theorem Wh:aG Κ Φ (.chain op op' a b c) Y=(aG Κ Φ a Y>>=λx=>aG Κ Φ b Y>>=λy=>cmpD op x.2 y.2>>=λk=>if k then aG Κ Φ c Y>>=λz=>cmpD op' y.2 z.2>>=λk'=>.ok (.fr,.bool k')else .ok (.fr,.bool false)):=rfl
theorem Wi:aG Κ Φ (.jK ng a) Y=(aG Κ Φ a Y>>=λx=>.ok (.fr,.bool (match x.2 with|.none=>!ng|_=>ng))):=rfl
theorem Wj:aG Κ Φ (.and a b) Y=(aG Κ Φ a Y>>=λx=>match x.2 with|.bool c=>if c then aG Κ Φ b Y else .ok (.fr,.bool false)|_=>.no):=rfl
theorem Wk:aG Κ Φ (.not a) Y=(aG Κ Φ a Y>>=λx=>fX x.2>>=λc=>.ok (.fr,.bool (!c))):=rfl
theorem Wl:aG Κ Φ (.tup xs) Y=(dM Κ Φ xs Y>>=λys=>.ok (gJ (.tuple (ys.map (·.2))) (bZ ys),.tuple (ys.map (·.2)))):=rfl
theorem MP:aG Κ Φ (.lst xs) Y=(dM Κ Φ xs Y>>=λys=>.ok (bZ ys,.list (ys.map (·.2)))):=rfl
theorem Ax:aG Κ Φ (.ix a b) Y=(aG Κ Φ a Y>>=λx=>aG Κ Φ b Y>>=λy=>iG x.2 y.2>>=λd=>.ok (gJ d x.1,d)):=rfl
theorem wO:aG Κ Φ (.sl a lo hi) Y=(aG Κ Φ a Y>>=λx=>vP Κ Φ lo Y>>=λl=>vP Κ Φ hi Y>>=λh=>tO x.2 l h>>=λd=>.ok (gN d (bZ [x]),d)):=rfl
theorem Hw:aG Κ Φ (.call k w1 args) Y=(dM Κ Φ args Y>>=λys=>match Φ[k]? with|some m=>m (ys.map (·.2))>>=λr=>.ok (gJ r.2 (iY r.1),r.2)|none=>.no):=rfl
theorem Hx:aG Κ Φ (.bi f args) Y=(dM Κ Φ args Y>>=λys=>gS f (ys.map (·.2))>>=λd=>.ok (gJ d .al,d)):=rfl
theorem MQ:aG Κ Φ (.lG f a) Y=(EW Κ Φ a Y>>=λw=>aggD f w.2.1 w.2.2>>=λd=>.ok (gJ d (if imms w.2.2 then .fr else agG w.1),d)):=rfl
theorem Wm:aG Κ Φ (.eC a ts) Y=(aG Κ Φ a Y>>=λx=>.ok (.fr,.bool (ts.any λT=>jM (gU x.2) T))):=rfl
theorem Hy:aG Κ Φ (.mt m o args) Y=(aG Κ Φ o Y>>=λx=>dM Κ Φ args Y>>=λys=>mtD m x.2 (ys.map (·.2))>>=λd=>.ok (gJ d .al,d)):=rfl
theorem Wn {cond:C}:aG Κ Φ (.comp nt js w1 tg it cond elt) Y=(evW Κ Φ it Y>>=λw=>lJ (λx=>fE tg (gJ x w.1,x) (bq nt none++js.map λj=>fO (Y.getD j none))>>=λρ1=>dU Κ Φ cond ρ1>>=λk=>if k then aG Κ Φ elt ρ1>>=λy=>.ok (some y)else .ok none) w.2>>=λys=>.ok (tL ys,.list (ys.map (·.2)))):=rfl
def Ev (Κ:List D)(Φ:List Fn)(c:C)(Y:Rho)(d:D):Prop:=∃g,aG Κ Φ c Y=.ok (g,d)
def Vv (Κ:List D)(Φ:List Fn)(c:C)(Y:Rho)(d:D):Prop:=aG Κ Φ c Y=.ok (.fr,d)/\imm d=true
def Aa (Κ:List D)(Φ:List Fn)(c:C)(Y:Rho)(ds:List D):Prop:=∃ys,dM Κ Φ c Y=.ok ys/\ys.map (·.2)=ds
def Av (Κ:List D)(Φ:List Fn)(c:C)(Y:Rho)(ds:List D):Prop:=dM Κ Φ c Y=.ok (ds.map λd=>(.fr,d))/\imms ds=true
def Tt (Κ:List D)(Φ:List Fn)(c:C)(Y:Rho)(k:Bool):Prop:=dU Κ Φ c Y=.ok k
theorem Vv.e (h:Vv Κ Φ c Y d):Ev Κ Φ c Y d:=⟨_,h.1⟩
theorem Ev.of (h:aG Κ Φ c Y=.ok (g,d)):Ev Κ Φ c Y d:=⟨_,h⟩
theorem aF (h:Y[i]?=some (some (g,d))):Ev Κ Φ (.var i) Y d:=⟨_,by rw[Ht];rw[h];rfl⟩
theorem v_var (h:Y[i]?=some (some (g,d)))(hi:imm d=true):Vv Κ Φ (.var i) Y d:=⟨by rw[Ht];rw[h];show Res.ok (if imm d=true then _ else _,d)=_;rw[vy hi],hi⟩
theorem aR:Vv Κ Φ (.int i) Y (.int i):=⟨by rw[Wb],rfl⟩
theorem bR:Vv Κ Φ (.str i) Y (.str i):=⟨by rw[Wf],rfl⟩
theorem Hz:Vv Κ Φ (.bl i) Y (.bool i):=⟨by rw[Hu],rfl⟩
theorem yf:Vv Κ Φ .non Y .none:=⟨by rw[Wa],rfl⟩
theorem kN (hi:imm d=true):gJ d g=.fr:=by unfold gJ;rw[vy hi]
theorem MR (hi:imm d=true):gN d g=.fr:=by cases d<;>first|exact kN hi|cases hi
theorem bH (ha:Ev Κ Φ a Y x)(hb:Ev Κ Φ b Y y)(h:cH op x y=.ok d)(hi:imm d=true):Vv Κ Φ (.bin op a b) Y d:=by obtain⟨g1,ha⟩:=ha;obtain⟨g2,hb⟩:=hb;refine⟨?_,hi⟩;rw[Hv];rw[ha,Res.aC,hb,Res.aC];dsimp only;rw[h,Res.aC,MR hi]
theorem C5 (ha:Ev Κ Φ a Y x)(hb:Ev Κ Φ b Y y)(h:cH op x y=.ok (.list xs))(hi:imms xs=true):aG Κ Φ (.bin op a b) Y=.ok (.fr,.list xs):=by obtain⟨g1,ha⟩:=ha;obtain⟨g2,hb⟩:=hb;rw[Hv];rw[ha,Res.aC,hb,Res.aC];dsimp only;rw[h];show Res.ok (if imms xs=true then _ else _,_)=_;rw[vy hi]
theorem iL (ha:Ev Κ Φ a Y x)(hb:Ev Κ Φ b Y y)(h:cmpD op x y=.ok k):Vv Κ Φ (.cmp op a b) Y (.bool k):=by obtain⟨g1,ha⟩:=ha;obtain⟨g2,hb⟩:=hb;refine⟨?_,rfl⟩;rw[Wg];rw[ha,Res.aC,hb,Res.aC];dsimp only;rw[h];rfl
def lR:D->Bool
 |.none=>true
 |_=>false
theorem Wo (ha:Ev Κ Φ a Y x):Vv Κ Φ (.jK ng a) Y (.bool (if lR x then !ng else ng)):=by obtain⟨g1,ha⟩:=ha;refine⟨?_,rfl⟩;rw[Wi];rw[ha];cases x<;>rfl
theorem v_and (ha:Ev Κ Φ a Y (.bool k))(hb:k=true->Vv Κ Φ b Y (.bool k')):Vv Κ Φ (.and a b) Y (.bool (k&&k')):=by
 obtain⟨g1,ha⟩:=ha;refine⟨?_,rfl⟩;rw[Wj];rw[ha];cases k with
 |true=>exact(hb rfl).1
 |false=>rfl
theorem v_not (ha:Ev Κ Φ a Y x)(h:fX x=.ok k):Vv Κ Φ (.not a) Y (.bool (!k)):=by obtain⟨g1,ha⟩:=ha;refine⟨?_,rfl⟩;rw[Wk];rw[ha,Res.aC];dsimp only;rw[h];rfl
theorem eF:Av Κ Φ .nil Y []:=⟨rfl,rfl⟩
theorem bD (ha:Vv Κ Φ a Y x)(hb:Av Κ Φ b Y ds):Av Κ Φ (.cons a b) Y (x::ds):=⟨by rw[Ar,ha.1,Res.aC,hb.1];rfl,by show(imm x&&imms ds)=true;rw[ha.2,hb.2];rfl⟩
theorem cJ:Aa Κ Φ .nil Y []:=⟨[],rfl,rfl⟩
theorem aZ (ha:Ev Κ Φ a Y x)(hb:Aa Κ Φ b Y ds):Aa Κ Φ (.cons a b) Y (x::ds):=by obtain⟨g1,ha⟩:=ha;obtain⟨ys,hb,e⟩:=hb;exact⟨_,by rw[Ar,ha,hb];rfl,by rw[bx,e]⟩
theorem mT (h:Av Κ Φ args Y ds):Vv Κ Φ (.tup args) Y (.tuple ds):=by refine⟨?_,h.2⟩;rw[Wl];rw[h.1,Res.aC,Ho,kN (d:=.tuple ds) h.2]
theorem kO (h:Av Κ Φ args Y ds):aG Κ Φ (.lst args) Y=.ok (.fr,.list ds):=by rw[MP];rw[h.1,Res.aC,Ho,V5]
theorem bN (ha:Ev Κ Φ a Y x)(hb:Ev Κ Φ b Y y)(h:iG x y=.ok d)(hi:imm d=true):Vv Κ Φ (.ix a b) Y d:=by obtain⟨g1,ha⟩:=ha;obtain⟨g2,hb⟩:=hb;refine⟨?_,hi⟩;rw[Ax];rw[ha,Res.aC,hb,Res.aC];dsimp only;rw[h,Res.aC,kN hi]
def Oo (Κ:List D)(Φ:List Fn)(c:C)(Y:Rho)(i:Option Int):Prop:=vP Κ Φ c Y=.ok i
theorem oJ:Oo Κ Φ .nil Y none:=rfl
theorem lS (h:Ev Κ Φ a Y (.int i)):Oo Κ Φ (.tv a) Y (some i):=by obtain⟨g1,h⟩:=h;unfold Oo;rw[Hj,h];rfl
theorem Ay (ha:Ev Κ Φ a Y x)(hb:Oo Κ Φ b Y i)(hc:Oo Κ Φ c Y j)(h:tO x i j=.ok d)(hi:imm d=true):Vv Κ Φ (.sl a b c) Y d:=by obtain⟨g1,ha⟩:=ha;unfold Oo at hb hc;refine⟨?_,hi⟩;rw[wO];rw[ha,Res.aC,hb,Res.aC,hc,Res.aC];dsimp only;rw[h,Res.aC,MR hi]
theorem pB (ha:Aa Κ Φ args Y ds)(hf:Φ[n]?=some m)(h:m ds=.ok (g,d))(hi:imm d=true):Vv Κ Φ (.call n f args) Y d:=by obtain⟨ys,ha,e⟩:=ha;refine⟨?_,hi⟩;rw[Hw];rw[ha,Res.aC,hf];dsimp only;rw[e,h,Res.aC,kN hi]
theorem Wq (ha:Aa Κ Φ args Y ds)(hf:Φ[n]?=some m)(h:m ds=.ok (g,d)):Ev Κ Φ (.call n f args) Y d:=by obtain⟨ys,ha,e⟩:=ha;exact⟨_,by rw[Hw];rw[ha,Res.aC,hf];dsimp only;rw[e,h,Res.aC]⟩
theorem HA (ha:Aa Κ Φ args Y ds)(hf:Φ[n]?=some m)(h:m ds=.ok (.fr,.list xs)):aG Κ Φ (.call n f args) Y=.ok (.fr,.list xs):=by obtain⟨ys,ha,e⟩:=ha;rw[Hw];rw[ha,Res.aC,hf];dsimp only;rw[e,h];rfl
theorem eN (ha:Aa Κ Φ args Y ds)(h:gS f ds=.ok d)(hi:imm d=true):Vv Κ Φ (.bi f args) Y d:=by obtain⟨ys,ha,e⟩:=ha;refine⟨?_,hi⟩;rw[Hx];rw[ha,Res.aC,e,h,Res.aC,kN hi]
theorem C6 (ha:Ev Κ Φ a Y x)(hw:z4c x=.ok w)(h:aggD f w.1 w.2=.ok d)(hi:imm d=true):Vv Κ Φ (.lG f (.tv a)) Y d:=by obtain⟨g1,ha⟩:=ha;refine⟨?_,hi⟩;rw[MQ];rw[As,ha,Res.aC];dsimp only;rw[hw];simp only[Res.aC];rw[h,Res.aC,kN hi]
theorem Wr (ha:Ev Κ Φ a Y x)(hw:z4c x=.ok w)(h:aggD f w.1 w.2=.ok d)(hi:imms w.2=true):aG Κ Φ (.lG f (.tv a)) Y=.ok (.fr,d):=by obtain⟨g1,ha⟩:=ha;rw[MQ];rw[As,ha,Res.aC];dsimp only;rw[hw];simp only[Res.aC];rw[h,Res.aC];unfold gJ;split<;>rfl
theorem lT (ha:Ev Κ Φ a Y x):Vv Κ Φ (.eC a ts) Y (.bool (ts.any λT=>jM (gU x) T)):=by obtain⟨g1,ha⟩:=ha;refine⟨?_,rfl⟩;rw[Wm];rw[ha];rfl
theorem rR (ho:Ev Κ Φ o Y x)(ha:Aa Κ Φ args Y ds)(h:mtD m x ds=.ok d)(hi:imm d=true):Vv Κ Φ (.mt m o args) Y d:=by obtain⟨g1,ho⟩:=ho;obtain⟨ys,ha,e⟩:=ha;refine⟨?_,hi⟩;rw[Hy];rw[ho,Res.aC,ha,Res.aC,e];dsimp only;rw[h,Res.aC,kN hi]
theorem bO (h:Ev Κ Φ a Y x)(ht:fX x=.ok k):Tt Κ Φ (.tv a) Y k:=by obtain⟨g1,h⟩:=h;unfold Tt;rw[Hk,h];exact ht
theorem C7:Tt Κ Φ .nil Y true:=rfl
theorem Ws (ha:Tt Κ Φ a Y k)(hb:k=true->Tt Κ Φ b Y k'):Tt Κ Φ (.and a b) Y (k&&k'):=by
 unfold Tt at *
 rw[V1,ha];cases k with
 |true=>exact hb rfl
 |false=>rfl
theorem rS (ha:Tt Κ Φ a Y k)(hb:k=false->Tt Κ Φ b Y k'):Tt Κ Φ (.or a b) Y (k||k'):=by
 unfold Tt at *
 rw[Hl,ha];cases k with
 |false=>exact hb rfl
 |true=>rfl
theorem zG (ha:Tt Κ Φ a Y k):Tt Κ Φ (.not a) Y (!k):=by
 unfold Tt at *
 rw[V2,ha];rfl
theorem z6y {β:Type}{cond:C}{m:β->D}{xs:List β}(p:β->Bool)(f:β->D)(hw:evW Κ Φ it Y=.ok w)(hx:w.2=xs.map m)(r:β->Rho)
  (hb:∀x∈xs,fE tg (gJ (m x) w.1,m x) (bq nt none++js.map λj=>fO (Y.getD j none))=.ok (r x)) (hc:∀x∈xs,Tt Κ Φ cond (r x) (p x)) (he:∀x∈xs,p x=true->Vv Κ Φ elt (r x) (f x)):
  aG Κ Φ (.comp nt js N' tg it cond elt) Y=.ok (.fr,.list ((xs.filter p).map f)):=by
 rw[Wn];rw[hw,Res.aC,hx]
 rw[ML (λx=>if p x then some (f x)else none) xs λx hx=>by
  rw[hb x hx,Res.aC];have:=hc x hx;rw[this];cases e:p x with
  |true=>rw[(he x hx e).1];rfl
  |false=>rfl]
 rw[Res.aC,V4,Ho]
 have:(xs.filterMap λx=>if p x=true then some (f x)else none)=(xs.filter p).map f:=by
  clear hx hb hc he hw
  induction xs with
  |nil=>rfl
  |cons x xs ih=>
   cases e:p x with
   |true=>rw[pi (by rw[e];rfl),List.filter_cons_of_pos e,bx,ih]
   |false=>rw[ph (by rw[e];rfl),List.filter_cons_of_neg (by rw[e];exact dz),ih]
 rw[this]
theorem gW (h:aG Κ Φ a Y=.ok (g,x))(hw:z56 x=.ok xs):evW Κ Φ (.tv a) Y=.ok (g,xs):=by rw[Hm,h,Res.aC];dsimp only;rw[hw];rfl
theorem C8 (h:Aa Κ Φ args Y ds)(hw:eJ ds=.ok xs):evW Κ Φ (.gQ args) Y=.ok (.fr,xs):=by obtain⟨ys,h,e⟩:=h;rw[V3,h,Res.aC,e,hw];rfl
theorem fI (h:Vv Κ Φ t Y d):aM Κ Φ (.asg (.nm i) t) Y=.ok (.nx (Y.set i (some (.al,d)))):=by rw[MI,h.1];show Res.ok (Out.nx (Y.set i (some (if imm d then(.al,d)else _))))=_;rw[vy h.2]
theorem mU (h:aG Κ Φ t Y=.ok (.fr,.list xs))(hi:imms xs=true):aM Κ Φ (.asg (.nm i) t) Y=.ok (.nx (Y.set i (some (.fr,.list xs)))):=by rw[MI,h];show Res.ok (Out.nx (Y.set i (some (if imms xs then .fr else .nu,.list xs))))=_;rw[vy hi]
theorem MS (hv:∀i,t≠.var i):aM Κ Φ (.ret t) Y=(aG Κ Φ t Y>>=λx=>.ok (.rt (iY x.1) x.2)):=by cases t<;>first|exact absurd rfl (hv _)|rfl
theorem gE (h:Vv Κ Φ t Y d):aM Κ Φ (.ret t) Y=.ok (.rt .fr d):=by
 by_cases hv:∀i,t≠.var i
 ·rw[MS hv,h.1];rfl
 obtain⟨i,rfl⟩:∃i,t=.var i:=by cases t<;>first|exact⟨_,rfl⟩|exact(hv λi z=>by cases z).elim
 have h1:=h.1;rw[Ht]at h1;rw[MJ];cases hr:Y[i]? with
 |none=>rw[hr]at h1;cases h1
 |some o=>
  cases o with
  |none=>rw[hr]at h1;cases h1
  |some gd=>
   obtain⟨g,d'⟩:=gd;rw[hr]at h1;have:d'=d:=by have:=congrArg (λr:Res GD=>match r with|.ok p=>p.2|_=>.none) h1;exact this
   subst this;show Res.ok (Out.rt (if imm d'=true then _ else _) d')=_;rw[vy h.2]
theorem Wt (hv:∀i,t≠.var i)(h:aG Κ Φ t Y=.ok (.fr,.list xs)):aM Κ Φ (.ret t) Y=.ok (.rt .fr (.list xs)):=by rw[MS hv,h];rfl
theorem Az (hc:Tt Κ Φ c Y k)(h1:k=true->aM Κ Φ p Y=r)(h2:k=false->aM Κ Φ q Y=r):aM Κ Φ (.bA c p q) Y=r:=by
 rw[Hi,hc];cases k with
 |true=>exact h1 rfl
 |false=>exact h2 rfl
theorem tZ:aM Κ Φ .nil Y=.ok (.nx Y):=rfl
theorem Wu {y:GD}(h:imm y.2=true):okIn y=true:=by unfold okIn;rw[h];rfl
theorem AA (hv:Vv Κ Φ a Y x)(hr:Y[i]?=some (some (.fr,.list xs)))(hl:xs.length<1000):aM Κ Φ (.mut "append" i (.cons a .nil)) Y=.ok (.nx ((Y.set i (some (.fr,.list (xs++[x])))).map pR)):=by
 rw[VX,Ar,hv.1,Res.aC,V0,Res.aC,Res.aC,hr]
 dsimp only
 have:oA "append" xs [(.fr,x)]=.ok (xs++[x]):=by show(if(okIn (G.fr,x)&&decide (xs.length<LIM))=true then _ else _)=_;rw[vy];rw[Wu hv.2];refine we ?_;unfold LIM;omega
 rw[this];rfl
theorem MT (h:Aa Κ Φ args Y ds)(hw:eJ ds=.ok xs):evF Κ Φ (.gQ args) Y=.ok (.fr,xs,Y):=by show qW Κ Φ (.gQ args) Y=_;unfold qW;rw[C8 h hw];rfl
theorem Gs {x y:GD}(ha:aG Κ Φ a Y=.ok x)(hb:aG Κ Φ b Y=.ok y)(ca:pS x=true)(cb:pS y=true)(hx:seqR x.2=.ok xs)(hy:seqR y.2=.ok ys):evF Κ Φ (.zip a b) Y=.ok (.al,zipD xs ys,Y):=by
 have e:dM Κ Φ (.cons a (.cons b .nil)) Y=.ok [x,y]:=by rw[Ar,ha,Ar,hb];rfl
 show(dM Κ Φ (.cons a (.cons b .nil)) Y>>=λys=>lK ys Y)=_;rw[e,Res.aC];unfold lK
 dsimp only
 rw[ca,cb];rw[hx,hy];rfl
theorem MU {β:Type}(m:β->D):∀k (xs:List β),z0o k (xs.map m)=(xs.zipIdx k).map λp=>.tuple [.int p.2,m p.1]
 |_,[]=>rfl
 |k,x::xs=>by rw[bx,z0o,MU m (k+1) xs];rfl
theorem Wv (hx:imm x=true)(hy:imm y=true):fE (.tp [i,j]) (gJ (.tuple [x,y]) g,.tuple [x,y]) Y=.ok ((Y.set i (some (.al,x))).set j (some (.al,y))):=by show Res.eQ (some ((Y.set i (some (jL (gJ x _,x)))).set j (some (jL (gJ y _,y)))))=_;rw[kN hx,kN hy];rfl
theorem MV (hv:∀i,e0≠.var i)(h:aG Κ Φ e0 Y=.ok (.fr,x'))(hw:z56 x'=.ok xs):evF Κ Φ (.tv e0) Y=.ok (.fr,xs,Y):=by
 have e2:=gW h hw;have e3:lL Κ Φ (.tv e0) Y=false:=by unfold lL;rw[e2];rfl
 rw[Hn hv,e3];unfold qW;rw[e2];rfl
theorem HB (h:evF Κ Φ it Y=.ok w)(k:cA (λx ρ1=>fE t' (gJ x w.1,x) ρ1>>=λdC=>aM Κ Φ p dC) w.2.1 w.2.2=r):aM Κ Φ (.bP t' it p) Y=r:=by rw[VY,h];exact k
theorem pY (hc:Tt Κ Φ c Y k)(hk:k=true)(h:aM Κ Φ p Y=.ok (.rt g d)):aM Κ Φ (.seq (.bA c p q) rest) Y=.ok (.rt g d):=eL (Az hc (λ_=>h) λz=>by rw[hk]at z;cases z)
theorem rT (hc:Tt Κ Φ c Y k)(hk:k=false)(h:aM Κ Φ rest Y=r):aM Κ Φ (.seq (.bA c p .nil) rest) Y=r:=wN (Az hc (λz=>by rw[hk]at z;cases z) λ_=>tZ) h
theorem Ww (hc:Tt Κ Φ c Y k)(hk:k=true)(h:aM Κ Φ p Y=.ok (.nx aH))(h2:aM Κ Φ rest aH=r):aM Κ Φ (.seq (.bA c p .nil) rest) Y=r:=wN (Az hc (λ_=>h) λz=>by rw[hk]at z;cases z) h2
theorem z85 (h:Y[i]?=some (some (.fr,.list xs))):aM Κ Φ (.ret (.var i)) Y=.ok (.rt .fr (.list xs)):=by rw[MJ,h];rfl
theorem aQ {Q:Res Out->Prop}(h:aM Κ Φ p Y=.ok (.nx aH))(k:Q (aM Κ Φ q aH)):Q (aM Κ Φ (.seq p q) Y):=by rw[wN h rfl];exact k
theorem HC {Q:Res Out->Prop}(h:aM Κ Φ p Y=.ok (.rt g d))(k:Q (.ok (.rt g d))):Q (aM Κ Φ (.seq p q) Y):=by rw[eL h];exact k
theorem ztc {Q:Res Out->Prop}{β:Type}{m:β->D}{xs:List β}(h:evF Κ Φ it Y=.ok (g,xs.map m,ρ1))(I:List β->Rho->Prop)(h0:I [] ρ1)
  (hf:∀pre x post Y,xs=pre++x::post->I pre Y->∃aH,(fE t' (gJ (m x) g,m x) Y>>=λdC=>aM Κ Φ p dC)=.ok (.nx aH)/\I (pre++[x]) aH) (hk:∀aH,I xs aH->Q (aM Κ Φ rest aH)):Q (aM Κ Φ (.seq (.bP t' it p) rest) Y):=by
 obtain⟨aH,e,i⟩:=MK (f:=λx ρ1=>fE t' (gJ x g,x) ρ1>>=λdC=>aM Κ Φ p dC) I xs [] ρ1 hf h0;rw[wN (HB h e) rfl];exact hk aH i
theorem zqu {Q:Res Out->Prop}{β:Type}{m:β->D}{xs:List β}(h:evF Κ Φ it Y=.ok (g,xs.map m,ρ1))(I:List β->Rho->Prop)(h0:I [] ρ1)
  (hf:∀pre x post Y,xs=pre++x::post->I pre Y->∃dC aH,fE t' (gJ (m x) g,m x) Y=.ok dC/\aM Κ Φ p dC=.ok (.nx aH)/\I (pre++[x]) aH) (hk:∀aH,I xs aH->Q (aM Κ Φ rest aH)):Q (aM Κ Φ (.seq (.bP t' it p) rest) Y):=
 ztc h I h0 (λpre x post Y hx hI=>by obtain⟨dC,aH,h1,h2,h3⟩:=hf pre x post Y hx hI;exact⟨aH,by rw[h1,Res.aC,h2],h3⟩) hk
theorem pZ {Q:Res Out->Prop}(hc:Tt Κ Φ c Y k)(hk:k=false)(h:Q (aM Κ Φ rest Y)):Q (aM Κ Φ (.seq (.bA c p .nil) rest) Y):=by rw[rT hc hk rfl];exact h
end
end Mk
namespace Mi
open PySem PySem.Spec PyProof.Rows L2
section
open PySem.SeqAt
theorem MW:∀{ss:List Str} {its:List Value},Vals (ss.map V.str) its->∀y∈its,∃b t,y=Value.str b t
 | [],_,r,y,hy=>by cases r;cases hy
 |s::ss,_,r,y,hy=>by
  cases r with
  |cons r1 r2=>
   rcases ao.mp hy with rfl|G2
   ·obtain⟨t,rfl⟩:=r1;exact⟨_,_,rfl⟩
   ·exact MW r2 y G2
end
open PySem.W
section
open PySem.SeqAt
def HD (d:Addr):Obj:={cls:=.type "dict_values",data:=.fields #[.ref d]}
def vw (v d:Addr):HO:=.ext λh=>h.get? v=some (HD d)
theorem MX {κ:Type}:∀{kvs:List (κ×V)} {vs:List (κ×Value)},KV kvs vs->Vals (kvs.map (·.2)) (vs.map (·.2))
 |_,_,.nil=>.nil
 |_,_,.cons r t=>.cons r.2 (MX t)
def C9:V->List V->Hp->VK->Prop:=λx xs H Q=>∃d kvs,x=.ref d/\xs=[]/\H d=some (.dK kvs)/\∀v,H v=none->Q (.ref v) (upd H v (vw v d))
theorem Wx:MtR X "dict.values" C9:=by
 rintro pins s U H x xs v us Q I rx rv ⟨d,kvs,rfl,rfl,hd,q⟩
 cases rx;cases rv;obtain⟨hz,AB,vs,rel,o,kC,ep,ho,Dc,pC,r3⟩:=Eo I.hok hd;refine uj PySem.F.slot_dict_values ⟨_,ho,Dc.1⟩ PySem.F.entry_dict_values (PySem.F.args_dict_values_1 _) (meets_dict_values (iS X.prog X.w) d AB) ⟨⟨vs,o,kC,ep,ho,Dc,pC,r3⟩,?_⟩;have e1:(s.heap.push (HD d)).get? s.heap.objs.size=some (HD d):=au _ rfl;exact⟨.ref s.heap.objs.size,_,I.laid (o:=vw s.heap.objs.size d) (λb u z=>af _ z) (ag _) ⟨e1,⟨_,e1⟩,λh1 h2 p k=>k _ p⟩,rfl,q _ (I.hok.fresh (ag _))⟩
def Dd:List V->Hp->VK->Prop:=λxs H Q=>∃v d kvs,xs=[.ref v]/\H v=some (vw v d)/\H d=some (.dK kvs)/\∀p,H p=none->Q (.ref p) (upd H p (.lst (kvs.map (·.2))))
theorem Wy (hc:X.calm=true):CallR X (.type "list") Dd:=by
 rintro pins s U H xs us Q I r ⟨v,d,kvs,rfl,hv,hd,q⟩
 obtain⟨u,rfl,rfl⟩:=vals1 r;obtain⟨hz,AB,vs,rel,o,kC,ep,ho,Dc,pC,r3⟩:=Eo I.hok hd;have lk:=rel.length;refine kdl_call (kdl_values) (I.ok.hd hc) ⟨⟨_,(I.hok v _ hv).1,rfl,rfl⟩,⟨o,kC,ho,Dc,pC,r3⟩⟩ (by omega) λh' tk acc c hk hS AD=>?_;have rv:Vals (kvs.map (·.2)) acc.toList:=by rw[kdl_vals_eq acc.toList (by rw[cq];exact AD.1) λj u e=>AD.2 j u (by rw[<-Array.getElem?_toList];exact e)];exact MX rel
 exact⟨.ref s.heap.objs.size,_,I.laid (o:=.lst (kvs.map (·.2))) (t':=tk) hk (ag _) ⟨by rw[aq];omega,acc.toList,c,rv,by simpa using hS⟩,rfl,q _ (I.hok.fresh (ag _))⟩
theorem MY:∀{bs:List Bool} {its:List Value},Vals (bs.map V.bl) its->its=bs.map Value.bool
 | [],_,r=>by cases r;rfl
 |b::bs,_,r=>by
  cases r with
  |cons r1 r2=>cases r1;rw[MY r2];rfl
theorem MZ (he:∀b t,e (.str b t)=(b==s)):∀{ss:List Str} {its:List Value},Vals (ss.map V.str) its->its.countP e=ss.countP (· ==s)
 | [],_,r=>by cases r;rfl
 |b::bs,_,r=>by
  cases r with
  |cons r1 r2=>obtain⟨t,rfl⟩:=r1;rw[List.countP_cons,List.countP_cons,MZ he r2,he]
def rU:V->List V->Hp->VK->Prop:=λx vs H Q=>∃l,x=.ref l/\((∃(ss:List Str) (s:Str),vs=[.str s]/\H l=some (.lst (ss.map V.str))/\Q (.int (ss.countP (· ==s):Nat)) H)\/∃(bs:List Bool) (b:Bool),vs=[.bl b]/\H l=some (.lst (bs.map V.bl))/\Q (.int (bs.countP (· ==b):Nat)) H)
theorem WA:MtR X "list.count" rU:=by
 rintro pins s U H x vs v us Q I rx rv ⟨l,rfl,h⟩
 cases rx;rcases h with⟨ss,z,rfl,hl,q⟩|⟨bs,b,rfl,hl,q⟩
 ·obtain⟨u,rfl,⟨tk,rfl⟩⟩:=rv.one;obtain⟨_,its,n,r,_,e⟩:=I.nT hl
  let f:Value->Bool:=λy=>match y with|.str b _=>b==z|_=>false
  refine m7 PySem.F.slot_list_count ⟨_,e,rfl⟩ PySem.F.entry_list_count (PySem.F.args_list_count_2 _ _) (list_countAt l its.toArray n none _ (.str z tk) f) ⟨e,λy hy=>?_,?_⟩
  ·obtain⟨b,t,rfl⟩:=MW r y (by simpa using hy);exact EqAt.str_str b t z tk
  ·have ec:=MZ (e:=f) (λ_ _=>rfl) r;refine⟨.int (ss.countP (· ==z):Nat),H,I.tok _,⟨_,by rw[<-ec]⟩,q⟩
 ·obtain⟨u,rfl,rfl⟩:=rv.one;obtain⟨_,its,n,r,_,e⟩:=I.nT hl;have ei:=MY r;subst ei
  let f:Value->Bool:=λy=>match y with|.bool c=>c==b|_=>false
  refine m7 PySem.F.slot_list_count ⟨_,e,rfl⟩ PySem.F.entry_list_count (PySem.F.args_list_count_2 _ _) (list_countAt l _ n none _ (.bool b) f) ⟨e,λy hy=>?_,?_⟩
  ·obtain⟨c,_,rfl⟩:=dh.mp (show y∈bs.map Value.bool by simpa using hy);exact EqAt.bool_bool c b
  ·have ec:(bs.map Value.bool).countP f=bs.countP (· ==b):=by rw[List.countP_map];rfl
   exact⟨.int (bs.countP (· ==b):Nat),H,I.tok _,⟨_,by rw[<-ec]⟩,q⟩
end
inductive W where
 |aW (c:C)|raw (i:Nat)|bin (op:qz) (a b:W)|AE (c a b:W)|tup (xs:W)|lst (xs:W)|gP|ix (a b:W)|len (a:W)|get (o k:W)|rV (o:W) (f:Str)|bW (j:Nat) (as:W)|eR (o:W) (j:Nat) (as:W)|mk (j:Nat) (as:W)|tp (c:C)|tc (op:CmpOp) (a b:W)|AF (a:W)|not (a:W)|De (a b:W)|fD (f:Str)|gi (j:Nat)|lv (o:W)|cnt (o k:W)|gf (j:Nat)|uA (i j:Nat) (as:W)|nil|cons (a r:W)
 deriving Inhabited
structure Wc where
 K:W.Frag
 mg:Str->Option Value
 Κ:List D
 Φ:List Fn
 E:XK
 fn:List Sp
 me:List (Addr×Str×Sp)
 cl:List (Addr×Sp)
 xf:Option V:=none
 gi:List Int:=[]
 hf:List (Addr×Sp):=[]
structure Gw where
 g:Gm
 fn:List (Str×Nat)
 me:List (Str×Nat)
 cl:List (Str×Nat)
 xf:Option Str:=none
 gi:List Str:=[]
 fld:List (Str×Str):=[]
 hf:List (Str×Nat):=[]
def eG:TE:=λ_ _ _=>False
def M0 (K:W.Frag)(t:TE):TT:=λU H Q=>t U H λx H'=>∃k,qJ K x H' k/\Q k H'
section
variable (Z:Wc)
mutual
def wE:W->TE
 |.aW c=>tD Z.K (aG Z.Κ Z.Φ c)
 |.raw i=>yD i
 |.bin op a b=>mI (rC Z.K (cH op)) (wE a) (wE b)
 |.AE c a b=>JN (wT c) (wE a) (wE b)
 |.tup xs=>yP (wA xs)
 |.lst xs=>yQ (wA xs)
 |.gP=>Kh
 |.ix a b=>mI (wm Z.K) (wE a) (wE b)
 |.len a=>qK (z6z Z.K (gS "len")) (nM (wE a) eI)
 |.get o k=>Kj (wE o) (wE k)
 |.rV o f=>uX Z.K (wE o) f
 |.bW j as=>match Z.fn[j]? with|some sp=>kG sp [] Z.E (wA as)|none=>eG
 |.eR o j as=>match Z.me[j]? with|some r=>sY r.1 r.2.1 r.2.2 [] Z.E (wE o) (wA as)|none=>eG
 |.mk j as=>match Z.cl[j]? with|some r=>xO r.1 r.2 [] Z.E (wA as)|none=>eG
 |.fD _=>match Z.xf with|some v=>λ_ H Q=>Q v H|none=>eG
 |.lv o=>qK Dd (nM (vC Z.K "dict" C9 (wE o)) eI)
 |.cnt o k=>y7 Z.K "list" rU (wE o) (nM (wE k) eI)
 |.gi j=>match Z.gi[j]? with|some n=>λ_ H Q=>Q (.int n) H|none=>eG
 |.gf j=>match Z.hf[j]? with|some r=>λ_ H Q=>Q (.ref r.1) H|none=>eG
 |.uA i j as=>match Z.hf[j]? with|some r=>λU H Q=>U[i]?=some (some (.ref r.1))/\kG r.2 [] Z.E (wA as) U H Q|none=>eG
 |_=>eG
def wA:W->TA
 |.nil=>eI
 |.cons a r=>nM (wE a) (wA r)
 |_=>λ_ _ _=>False
def wT:W->TT
 |.tp c=>dQ Z.K (dU Z.Κ Z.Φ c)
 |.tc op a b=>yN (mI (mQ Z.K (mB (cmpD op))) (wE a) (wE b))
 |.AF a=>M0 Z.K (wE a)
 |.not a=>yF (wT a)
 |.De a b=>JJ (wT a) (wT b)
 |_=>λ_ _ _=>False
end
end
mutual
def cE (Γ:Gw):W->Expr->Bool
 |.aW c,e=>chkE Γ.g c e
 |.raw i,e=>lO (lN Γ.g i) e
 |.bin op a b,e=>(vQ e).any λv=>decide (v.2.1=op)&&Cm op&&cE Γ a v.1&&cE Γ b v.2.2
 |.AE c a b,e=>(zu e).any λv=>rW Γ c v.1&&cE Γ a v.2.1&&cE Γ b v.2.2
 |.tup xs,e=>(qX e).any λes=>mV Γ xs es
 |.lst xs,e=>(vS e).any λes=>mV Γ xs es
 |.gP,e=>(E4 e).any λv=>v.1.isEmpty&&v.2.isEmpty
 |.ix a b,e=>(oG e).any λv=>z4v v.2&&cE Γ a v.1&&cE Γ b v.2
 |.len a,e=>(gV e).any λv=>(v.1==("len":Str))&&cI Γ.g v.1&&(bI v.2).any λy=>!isStar y&&cE Γ a y
 |.get o k,e=>(pT e).any λv=>((v.2.1==("get":Str))&&z0f v.1&&v.2.2.2)&&cE Γ o v.1&&(bI v.2.2.1).any λy=>!isStar y&&cE Γ k y
 |.rV o f,e=>(xY e).any λv=>(v.2.1==f)&&z0f v.1&&cE Γ o v.1
 |.bW j as,e=>(gV e).any λv=>mP Γ.g v.1&&(Γ.fn[j]?==some (v.1,v.2.length))&&mV Γ as v.2&&(Γ.g.cm&& !v.2.isEmpty)
 |.eR o j as,e=>Γ.g.cm&&(pT e).any λv=>(z0f v.1&&v.2.2.2&&decide (v.2.2.1.length<20))&&(Γ.me[j]?==some (v.2.1,v.2.2.1.length))&&cE Γ o v.1&&mV Γ as v.2.2.1
 |.mk j as,e=>(gV e).any λv=>mP Γ.g v.1&&(Γ.cl[j]?==some (v.1,v.2.length))&&mV Γ as v.2&&(Γ.g.cm&& !v.2.isEmpty)
 |.fD f,e=>(xY e).any λv=>(v.2.1==f)&&z0f v.1&&(lO (λx=>Γ.g.xc.any λu=>u.1==x) v.1)&&(Γ.xf==some f)
 |.lv o,e=>Γ.g.cm&&(gV e).any λv=>(v.1==("list":Str))&&cI Γ.g v.1&&(bI v.2).any λy=>(pT y).any λm=>((m.2.1==("values":Str))&&z0f m.1&&m.2.2.2)&&cE Γ o m.1&&m.2.2.1.isEmpty
 |.cnt o k,e=>(pT e).any λv=>((v.2.1==("count":Str))&&z0f v.1&&v.2.2.2)&&cE Γ o v.1&&(bI v.2.2.1).any λy=>!isStar y&&cE Γ k y
 |.gi j,e=>lO (λx=>mP Γ.g x&&(Γ.gi[j]?==some x)) e
 |.gf j,e=>lO (λx=>mP Γ.g x&&(Γ.hf[j]?.any λu=>u.1==x)) e
 |.uA i j as,e=>(gV e).any λv=>lN Γ.g i v.1&&(Γ.hf[j]?.any λu=>u.2==v.2.length)&&mV Γ as v.2&&(Γ.g.cm&& !v.2.isEmpty)
 |_,_=>false
def mV (Γ:Gw):W->List Expr->Bool
 |.nil,es=>es.isEmpty
 |.cons a r,es=>match es with|e::es=>!isStar e&&cE Γ a e&&mV Γ r es|_=>false
 |_,_=>false
def rW (Γ:Gw):W->Expr->Bool
 |.tp c,e=>eX Γ.g c e
 |.tc op a b,e=>(vR e).any λv=>decide (v.2.1=[op])&&(bI v.2.2).any λr=>z28 op&& !(fj op r)&&cE Γ a v.1&&cE Γ b r
 |.AF a,e=>plainT e&&cE Γ a e
 |.not a,e=>(Ck e).any λv=>decide (v.1=.Not)&&rW Γ a v.2
 |.De a b,e=>(xX e).any λv=>decide (v.1=.Or)&&xZ (λx=>rW Γ a x) (λx=>rW Γ b x) .Or v.2.2 v.2.1
 |_,_=>false
end
structure Zok (Γ:Gw)(Z:Wc)(CX:CXT)(P:cf)(w:World)(K:W.Frag)(mg:Str->Option Value)(base:Heap)(r:Nat):Prop where
 kk:Z.K=K
 mm:Z.mg=mg
 fn:∀(j:Nat) x n,Γ.fn[j]?=some (x,n)->∃sp f fd ps k,Z.fn[j]?=some sp/\k<=r/\FnOk P w K mg base CX k f fd ps sp/\mg x=some (.ref f)/\W.keepIn K (.ref f)=true/\Binds K fd ps []
 me:∀(j:Nat) m n,Γ.me[j]?=some (m,n)->∃C sp f fd ps k,Z.me[j]?=some (C,m,sp)/\k<=r/\FnOk P w K mg base CX k f fd ps sp/\Cls K C/\Meth K C m f/\Binds K fd ps []
 cl:∀(j:Nat) x n,Γ.cl[j]?=some (x,n)->∃C sp f fd ps k,Z.cl[j]?=some (C,sp)/\k+1<=r/\FnOk P w K mg base CX k f fd ps sp/\Mk K C f/\mg x=some (.ref C)/\Binds K fd ps []
 gi:∀(j:Nat) x,Γ.gi[j]?=some x->∃n t,Z.gi[j]?=some n/\mg x=some (.int n t)
 hf:∀(j:Nat) x n,Γ.hf[j]?=some (x,n)->∃sp f fd ps k,Z.hf[j]?=some (f,sp)/\k<=r/\FnOk P w K mg base CX k f fd ps sp/\mg x=some (.ref f)/\W.keepIn K (.ref f)=true/\Binds K fd ps []
structure Wok (Γ:Gw)(Z:Wc)(CX:CXT)(X:Cx)(r:Nat):Prop extends Zok Γ Z CX X.prog X.w X.K X.mg X.base r where
 ck:Cok Γ.g Z.Κ Z.Φ X r
 room:Γ.g.cm=true->Room r X.A
 px:z2d CX X Z.E
 xf:∀f,Γ.xf=some f->∃v,Z.xf=some v/\∀n c,Γ.g.xc=some (n,c)->∀p q,z0f (.Name n p)=true->PE X (.Attribute (.Name n p) f q) (λ_ H Q=>Q v H)
section
variable {X:Cx}
theorem z92 {C:Addr}(he:PE X o ta)(c:Cls X.K C)(hm:Meth X.K C m f)
  (hns:z0f o=true) (hst:(es.all λe=>!isStar e)=true) (hl:es.length<20) (hline:(apos.endLine==cpos.line)=true)
  (go:∀pins s U H (Q:VK) a,Inv X pins U H s->(t U H λvs H2=>sp (.ref a::(vs++[])) H2 Q E)->wpAny (model X.prog X.w) X.A (callWith cpos (.ref f) [.ref a] (ku cpos (de es X.env)) (ui cpos (pb [] X.env))) (EP X pins U Q) X.xe s):
  PE X (.Call (.Attribute o m apos) es [] cpos) (sY C m sp [] E ta t):=by
 intro pins s U H Q I h;rw[arm_eval_Call,lD hns];refine aa (aL (he pins s U H _ I h) λu s1 ⟨x,H1,I1,rx,a,dx,fs,ex,ea,l,q⟩=>?_);subst ex;obtain rfl:u=Value.ref a:=rx;refine aa (kq ?_);have AG:methodCallForm (es.length+([]:List qd).length) (ku cpos (de es X.env)) (ui cpos (pb [] X.env))=true:=z49 hst hl;unfold methodCall;rw[AG];refine aa (fk (za2 I1 ea c hm l ?_));exact aa (wpAny_of_eq (by unfold methodCallPos;simp[hline]) (go pins s1 U H1 Q a I1 q))
variable {CX:CXT}{k:Nat}{f C:Addr}{fd:i8}{ps:List Str}{sp:Sp}{E:XK}{m:Str}{apos cpos:Pos}{o e:Expr}{es:List Expr}{ta:TE}{t:TA}
theorem zfj (he:PE X o ta)(c:Cls X.K C)(hm:Meth X.K C m f)(F:FnOk X.prog X.w X.K X.mg X.base CX k f fd ps sp)(hr:Room k X.A)(hb:Binds X.K fd ps [])(hx:z2d CX X E)(ha:PA X (e::es) t)
  (hns:z0f o=true) (hst:((e::es).all λe=>!isStar e)=true) (hl:(e::es).length<20) (hline:(apos.endLine==cpos.line)=true):
  PE X (.Call (.Attribute o m apos) (e::es) [] cpos) (sY C m sp [] E ta t):=
 z92 he c hm hns hst hl hline λpins s U H Q a I q=>by rw[cx,bh]at hst;refine W.callWith_K I.ok.mod.xE hm.kp (aL (ha cpos pins s U H _ I q) λus s2 ⟨vs,H2,I2,r,q2⟩=>⟨I2.dB,?_⟩) (dN (by simpa using hst.1)) (mM hst.2);exact z7y (vs:=.ref a::vs) F hr hb .nil hx I2 (.cons rfl r) q2
theorem zb3 (he:PE X o ta)(c:Cls X.K C)(hm:Meth X.K C m f)(F:FnOk X.prog X.w X.K X.mg X.base CX k f fd ps sp)(hr:Room k X.A)(hb:Binds X.K fd ps [])(hx:z2d CX X E)
  (hns:z0f o=true) (hline:(apos.endLine==cpos.line)=true):
  PE X (.Call (.Attribute o m apos) [] [] cpos) (sY C m sp [] E ta eI):=
 z92 he c hm hns rfl (by decide) hline λpins s U H Q a I q=>W.callWith_K0 I.dB hm.kp (z7y (vs:=[.ref a]) F hr hb .nil hx I (.cons rfl .nil) q)
end
section
variable {Γ:Gw}{Z:Wc}{CX:CXT}{X:Cx}{r:Nat}
structure We (w:W):Prop where
 E:∀(Γ:Gw) (Z:Wc) (CX:CXT) (X:Cx) (r:Nat) (e:Expr),Wok Γ Z CX X r->cE Γ w e=true->PE X e (wE Z w)
 A:∀(Γ:Gw) (Z:Wc) (CX:CXT) (X:Cx) (r:Nat) (es:List Expr),Wok Γ Z CX X r->mV Γ w es=true->PA X es (wA Z w)
 T:∀(Γ:Gw) (Z:Wc) (CX:CXT) (X:Cx) (r:Nat) (e:Expr),Wok Γ Z CX X r->rW Γ w e=true->PT X e (wT Z w)/\((∃o l p,e=.BoolOp o l p)->PW X e (wT Z w))
theorem We.x (h:∀Γ Z CX X r e,Wok Γ Z CX X r->cE Γ w e=true->PE X e (wE Z w))(ha:∀Γ es,mV Γ w es=false)(ht:∀Γ e,rW Γ w e=false):We w where
 E:=h
 A:=λΓ Z CX X r es k z=>ff (ha Γ es) z
 T:=λΓ Z CX X r e k z=>ff (ht Γ e) z
theorem We.t (h:∀Γ Z CX X r e,Wok Γ Z CX X r->rW Γ w e=true->PT X e (wT Z w)/\((∃o l p,e=.BoolOp o l p)->PW X e (wT Z w)))(he:∀Γ e,cE Γ w e=false)(ha:∀Γ es,mV Γ w es=false):We w where
 E:=λΓ Z CX X r e k z=>ff (he Γ e) z
 A:=λΓ Z CX X r es k z=>ff (ha Γ es) z
 T:=h
theorem zfl {i:Nat}{ds dvs}(hN:X.N[i]?=some x)(hv:Vis X.env.scope x)(hd:Z9 x)(hcd:(x==("__classdict__":Str))=false)(F:FnOk X.prog X.w X.K X.mg X.base CX k f fd ps sp)(hr:Room k X.A)(hk:W.keepIn X.K (.ref f)=true)(hb:Binds X.K fd ps ds)(hdv:Vals dvs ds)(hx:z2d CX X E)
  (ha:PA X (e::es) t) (he:de (e::es) X.env=(false,eval e X.env)::de es X.env) (iE:(ku pos (de es X.env)).any (·.1)=false):
  PE X (.Call (.Name x p) (e::es) [] pos) (λU H Q=>U[i]?=some (some (.ref f))/\kG sp dvs E t U H Q):=by
 intro pins s U H Q I h;refine ik (aL (xI hN hv hd hcd pins s U H (λv H'=>v=.ref f/\kG sp dvs E t U H' Q) I ⟨_,h.1,rfl,h.2⟩) λu s1 ⟨v,H1,I1,r,e1,h⟩=>?_);subst e1;obtain rfl:u=Value.ref f:=r;refine W.callWith_K I1.ok.mod.xE hk (aL (ha pos pins s1 U H1 _ I1 h) λus s2 ⟨vs,H2,I2,r,q⟩=>⟨I2.dB,?_⟩) he iE;exact z7y F hr hb hdv hx I2 r q
theorem AH:∀{w:W} {es:List Expr},mV Γ w es=true->(es.all λe=> !isStar e)=true
 |.nil,es,h=>by cases fQ h;rfl
 |.cons a r,[],h=>by cases h
 |.cons a r,e::es,h=>by obtain⟨h1,_,h3⟩:=aP h;rw[cx,h1,AH h3];rfl
theorem Wok.rm (k:Wok Γ Z CX X r)(hc:Γ.g.cm=true)(h:j<=r):Room j X.A:=(k.room hc).mono h
theorem eqB {α:Type} [BEq α] [LawfulBEq α] {a b:α}(h:(a==b)=true):a=b:=eq_of_beq h
theorem WB (h:((vR e).any λv=>decide (v.2.1=[op])&&(bI v.2.2).any λr=>z28 op&& !(fj op r)&&cE Γ a v.1&&cE Γ b r)=true):∃l r p,e=.Compare l [op] [r] p/\z28 op=true/\fj op r=false/\cE Γ a l=true/\cE Γ b r=true:=by obtain⟨⟨l,o,rs⟩,hv,h9⟩:=aI h;obtain⟨p,rfl⟩:=rN hv;obtain⟨h1,h2⟩:=aE h9;obtain⟨r,hr,h3⟩:=aI h2;cases wc h1;cases fH hr;obtain⟨h2,h3,h4,h5⟩:=bG h3;exact⟨l,r,p,rfl,h2,cB h3,h4,h5⟩
theorem HE (h:cE Γ (.eR o j as) e=true):Γ.g.cm=true/\∃b m ap es cp,e=.Call (.Attribute b m ap) es [] cp/\(ap.endLine==cp.line)=true/\z0f b=true/\es.length<20/\Γ.me[j]?=some (m,es.length)/\cE Γ o b=true/\mV Γ as es=true:=by obtain⟨cQ,h⟩:=aE h;obtain⟨⟨x,n,es,b⟩,hv,h9⟩:=aI h;obtain⟨ap,cp,rfl,hb⟩:=gZ hv;obtain⟨h0,h6,h7,h8⟩:=bG h9;obtain⟨h1,h2,h3⟩:=aP h0;exact⟨cQ,x,n,ap,es,cp,rfl,hb.symm.trans h2,h1,wc h3,eqB h6,h7,h8⟩
theorem WC (h1:z0f o=true)(h2:(!isStar e)=true)(h3:(ap.endLine==cp.line)=true):M1 X o m ap e cp:=⟨lD h1,z49 (by rw[cx,h2];rfl) (show 1<20 by decide),h3,by rw[dN (cB h2)];rfl⟩
theorem dH (w:W):We w:=by
 induction w with
 |aW c=>exact We.x (λΓ Z CX X r e k h=>by show PE X e (tD Z.K (aG Z.Κ Z.Φ c));rw[k.kk];exact(all c).E Γ.g X r e k.ck h) (λ_ _=>rfl) λ_ _=>rfl
 |raw i=>exact We.x (λΓ Z CX X r e k h=>by obtain⟨x,p,rfl,h⟩:=jA h;obtain⟨h1,h2,h3,h4⟩:=k.ck.aN h;exact xI h1 h2 h3 h4) (λ_ _=>rfl) λ_ _=>rfl
 |bin op a b ia ib=>exact We.x (λΓ Z CX X r e k h=>by obtain⟨v,hv,h9⟩:=aI h;obtain⟨p,rfl⟩:=Ml hv;obtain⟨h1,h2,h3,h4⟩:=bG h9;cases wc h1;show PE X _ (mI (rC Z.K (cH _)) _ _);rw[k.kk];exact JW (K0 _ h2) (ia.E Γ Z CX X r _ k h3) (ib.E Γ Z CX X r _ k h4)) (λ_ _=>rfl) λ_ _=>rfl
 |AE c a b ic ia ib=>exact We.x (λΓ Z CX X r e k h=>by obtain⟨v,hv,h9⟩:=aI h;obtain⟨p,rfl⟩:=UY hv;obtain⟨h1,h2,h3⟩:=aP h9;exact PM (ic.T Γ Z CX X r _ k h1).1 (ia.E Γ Z CX X r _ k h2) (ib.E Γ Z CX X r _ k h3)) (λ_ _=>rfl) λ_ _=>rfl
 |tup xs ia=>exact We.x (λΓ Z CX X r e k h=>by obtain⟨v,hv,h9⟩:=aI h;obtain⟨_,_,rfl⟩:=CT hv;exact J6 (ia.A Γ Z CX X r _ k h9)) (λ_ _=>rfl) λ_ _=>rfl
 |lst xs ia=>exact We.x (λΓ Z CX X r e k h=>by obtain⟨v,hv,h9⟩:=aI h;obtain⟨_,rfl⟩:=Mm hv;exact J7 (ia.A Γ Z CX X r _ k h9)) (λ_ _=>rfl) λ_ _=>rfl
 |gP=>exact We.x (λΓ Z CX X r e k h=>by obtain⟨⟨a,b⟩,hv,h9⟩:=aI h;obtain⟨_,rfl⟩:=Ag hv;obtain⟨h1,h2⟩:=aE h9;cases fQ h1;cases fQ h2;exact Ki) (λ_ _=>rfl) λ_ _=>rfl
 |ix a b ia ib=>exact We.x (λΓ Z CX X r e k h=>by obtain⟨v,hv,h9⟩:=aI h;obtain⟨_,rfl⟩:=CU hv;obtain⟨h1,h2,h3⟩:=aP h9;show PE X _ (mI (wm Z.K) _ _);rw[k.kk];exact Kt (Lb k.ck.hu) (ia.E Γ Z CX X r _ k h2) (ib.E Γ Z CX X r _ k h3) (Lc h1)) (λ_ _=>rfl) λ_ _=>rfl
 |len a ia=>exact We.x (λΓ Z CX X r e k h=>by obtain⟨⟨x,es⟩,hv,h9⟩:=aI h;obtain⟨_,_,rfl⟩:=gC hv;obtain⟨h1,h2,h3⟩:=aP h9;obtain⟨y,hy,h4⟩:=aI h3;cases fH hy;obtain⟨h4,h5⟩:=aE h4;have h1:=eqB h1;subst h1;obtain⟨g1,g2,g3,g4⟩:=k.ck.blt h2;show PE X _ (qK (z6z Z.K (gS "len")) _);rw[k.kk];exact zr Lf g2 (show db "len"=_ by decide+kernel) (dS (ia.E Γ Z CX X r _ k h5) kF (cB h4)) (by rw[cx,h4];rfl) g1 g4 g3) (λ_ _=>rfl) λ_ _=>rfl
 |get o y io iy=>exact We.x (λΓ Z CX X r e k h=>by obtain⟨⟨x,n,es,b⟩,hv,h9⟩:=aI h;obtain⟨ap,cp,rfl,hb⟩:=gZ hv;obtain⟨h0,h6,h7⟩:=aP h9;obtain⟨h1,h2,h3⟩:=aP h0;obtain⟨y,hy,h4⟩:=aI h7;cases fH hy;obtain⟨h4,h5⟩:=aE h4;have h1:=eqB h1;subst h1;exact Qy (o5 (se (by decide) _) k.ck.hu) (io.E Γ Z CX X r _ k h6) (iy.E Γ Z CX X r _ k h5) (WC h2 h4 (hb.symm.trans h3))) (λ_ _=>rfl) λ_ _=>rfl
 |rV o f io=>exact We.x (λΓ Z CX X r e k h=>by obtain⟨⟨x,n,p⟩,hv,h9⟩:=aI h;cases oX hv;obtain⟨h1,h2,h3⟩:=aP h9;have h1:=eqB h1;subst h1;show PE X _ (uX Z.K _ _);rw[k.kk];exact Qo (io.E Γ Z CX X r _ k h3) (lD h2)) (λ_ _=>rfl) λ_ _=>rfl
 |bW j as ia=>exact We.x (λΓ Z CX X r e k h=>by
  obtain⟨⟨x,es⟩,hv,h9⟩:=aI h;obtain⟨_,_,rfl⟩:=gC hv;obtain⟨h1,h2,h3,h4⟩:=bG h9;obtain⟨cQ,h4⟩:=aE h4;obtain⟨y,es,rfl⟩:=tU h4;obtain⟨g1,g2⟩:=k.ck.gl h1;obtain⟨sp,f,fd,ps,n,c1,c2,c3,c4,c5,c6⟩:=k.fn j _ _ (eqB h2);obtain⟨s1,s2⟩:=cx.symm.trans (AH h3) |> bg.mp;have ee:wE Z (.bW j as)=kG sp [] Z.E (wA Z as):=by show(match Z.fn[j]? with|some sp=>kG sp [] Z.E (wA Z as)|none=>eG)=_;rw[c1]
  rw[ee];exact zag c3 (k.rm cQ c2) g1 c4 c5 c6 .nil k.px (ia.A Γ Z CX X r _ k h3) g2 (dN (cB s1)) (mM s2)) (λ_ _=>rfl) λ_ _=>rfl
 |eR o j as io ia=>exact We.x (λΓ Z CX X r e k h=>by
  obtain⟨cQ,b,m,ap,es,cp,rfl,h1,h2,h3,h4,h5,h6⟩:=HE h;obtain⟨C,sp,f,fd,ps,n,c1,c2,c3,c4,c5,c6⟩:=k.me j _ _ h4;have ee:wE Z (.eR o j as)=sY C m sp [] Z.E (wE Z o) (wA Z as):=by show(match Z.me[j]? with|some r=>sY r.1 r.2.1 r.2.2 [] Z.E (wE Z o) (wA Z as)|none=>eG)=_;rw[c1]
  rw[ee];have ho:=io.E Γ Z CX X r _ k h5;have ha:=ia.A Γ Z CX X r _ k h6;have hs:=AH h6;cases es with
  |nil=>
   refine PE.imp (zb3 ho c4 c5 c3 (k.rm cQ c2) c6 k.px h2 h1) λU H Q q=>?_;have:wA Z as=eI:=by cases as<;>first|rfl|(cases h6;done)
   rw[this]at q;exact q
  |cons y es=>exact zfj ho c4 c5 c3 (k.rm cQ c2) c6 k.px ha h2 hs h3 h1) (λ_ _=>rfl) λ_ _=>rfl
 |mk j as ia=>exact We.x (λΓ Z CX X r e k h=>by
  obtain⟨⟨x,es⟩,hv,h9⟩:=aI h;obtain⟨_,_,rfl⟩:=gC hv;obtain⟨h1,h2,h3,h4⟩:=bG h9;obtain⟨cQ,h4⟩:=aE h4;obtain⟨y,es,rfl⟩:=tU h4;obtain⟨g1,g2⟩:=k.ck.gl h1;obtain⟨C,sp,f,fd,ps,n,c1,c2,c3,c4,c5,c6⟩:=k.cl j _ _ (eqB h2);obtain⟨s1,s2⟩:=cx.symm.trans (AH h3) |> bg.mp;have ee:wE Z (.mk j as)=xO C sp [] Z.E (wA Z as):=by show(match Z.cl[j]? with|some r=>xO r.1 r.2 [] Z.E (wA Z as)|none=>eG)=_;rw[c1]
  rw[ee];exact zk8 c4 c3 ((k.room cQ).mono c2) g1 c5 c6 .nil k.px (ia.A Γ Z CX X r _ k h3) g2 (dN (cB s1)) (mM s2)) (λ_ _=>rfl) λ_ _=>rfl
 |tp c=>exact We.t (λΓ Z CX X r e k h=>by show PT X e (dQ Z.K (dU Z.Κ Z.Φ c))/\(_->PW X e (dQ Z.K (dU Z.Κ Z.Φ c)));rw[k.kk];exact(all c).T Γ.g X r e k.ck h) (λ_ _=>rfl) λ_ _=>rfl
 |tc op a b ia ib=>exact We.t (λΓ Z CX X r e k h=>by obtain⟨_,_,_,rfl,h2,h3,h4,h5⟩:=WB h;refine⟨?_,λ⟨_,_,_,z⟩=>by cases z⟩;show PT X _ (yN (mI (mQ Z.K (mB (cmpD _))) _ _));rw[k.kk];exact JY (vY k.ck.hu _ h2) (ia.E Γ Z CX X r _ k h4) (ib.E Γ Z CX X r _ k h5) h3) (λ_ _=>rfl) λ_ _=>rfl
 |AF a ia=>exact We.t (λΓ Z CX X r e k h=>by obtain⟨h1,h2⟩:=aE h;refine⟨?_,λ⟨_,_,_,z⟩=>by subst z;cases h1⟩;show PT X _ (M0 Z.K _);rw[k.kk];exact z8o (ia.E Γ Z CX X r _ k h2) (Mo h1 _)) (λ_ _=>rfl) λ_ _=>rfl
 |not a ia=>exact We.t (λΓ Z CX X r e k h=>by obtain⟨⟨o,x⟩,hv,h9⟩:=aI h;obtain⟨p,rfl⟩:=wJ hv;obtain⟨h1,h2⟩:=aE h9;cases wc h1;exact⟨JL (ia.T Γ Z CX X r _ k h2).1,λ⟨_,_,_,z⟩=>by cases z⟩) (λ_ _=>rfl) λ_ _=>rfl
 |De a b ia ib=>exact We.t (λΓ Z CX X r e k h=>by
  obtain⟨⟨o,xs,p⟩,hv,h9⟩:=aI h;cases oW hv;obtain⟨h1,h2⟩:=aE h9;cases wc h1;rcases Al h2 with⟨x,y,rfl,h3,h4⟩|⟨x,y,z,t,rfl,h3,h4⟩
  ·have w:=D7 (pos:=p) (ia.T Γ Z CX X r _ k h3).1 (JK (ib.T Γ Z CX X r _ k h4).1);exact⟨w.pt,λ_=>w⟩
  ·have w:=D7 (ia.T Γ Z CX X r _ k h3).1 ((ib.T Γ Z CX X r _ k h4).2 ⟨_,_,_,rfl⟩);exact⟨w.pt,λ_=>w⟩) (λ_ _=>rfl) λ_ _=>rfl
 |fD f=>exact We.x (λΓ Z CX X r e k h=>by
  obtain⟨⟨x,n,p⟩,hv,h9⟩:=aI h;cases oX hv;obtain⟨h1,h0,h2,h3⟩:=bG h9;have h1:=eqB h1;subst h1;obtain⟨y,q,rfl,h4⟩:=jA h2;obtain⟨⟨m,c⟩,h5,h6⟩:=aI h4;have h6:=eqB h6;subst h6;obtain⟨v,e1,e2⟩:=k.xf n (eqB h3);have ee:wE Z (.fD n)=λ_ H Q=>Q v H:=by show(match Z.xf with|some v=>(λ_ H Q=>Q v H:TE)|none=>eG)=_;rw[e1]
  rw[ee];exact e2 m c h5 _ _ h0) (λ_ _=>rfl) λ_ _=>rfl
 |lv o io=>exact We.x (λΓ Z CX X r e k h=>by obtain⟨cQ,h⟩:=aE h;obtain⟨⟨x,es⟩,hv,h9⟩:=aI h;obtain⟨_,_,rfl⟩:=gC hv;obtain⟨h1,h2,h3⟩:=aP h9;obtain⟨y,hy,h4⟩:=aI h3;cases fH hy;obtain⟨⟨b,n,es,l⟩,hm,h8⟩:=aI h4;obtain⟨ap,cp,rfl,hb⟩:=gZ hm;obtain⟨h0,h6,h7⟩:=aP h8;obtain⟨h5,yb,WE⟩:=aP h0;cases fQ h7;have h5:=eqB h5;subst h5;have h1:=eqB h1;subst h1;obtain⟨g1,g2,g3,g4⟩:=k.ck.blt h2;show PE X _ (qK Dd (nM (vC Z.K "dict" C9 _) eI));rw[k.kk];exact Ci (Wy (k.ck.calm cQ)) g2 (show db "list"=_ by decide+kernel) (dS (zhl PySem.F.plainAttrs_dict PySem.F.slot_dict_values PySem.F.type_dict_values Wx (io.E Γ Z CX X r _ k h6) (lD yb) (hb.symm.trans WE)) kF rfl) rfl g1 g4 g3) (λ_ _=>rfl) λ_ _=>rfl
 |cnt o y io iy=>exact We.x (λΓ Z CX X r e k h=>by obtain⟨⟨x,n,es,b⟩,hv,h9⟩:=aI h;obtain⟨ap,cp,rfl,hb⟩:=gZ hv;obtain⟨h0,h6,h7⟩:=aP h9;obtain⟨h1,h2,h3⟩:=aP h0;obtain⟨y,hy,h4⟩:=aI h7;cases fH hy;obtain⟨h4,h5⟩:=aE h4;have h1:=eqB h1;subst h1;show PE X _ (y7 Z.K "list" rU _ _);rw[k.kk];exact zdp PySem.F.plainAttrs_list PySem.F.slot_list_count PySem.F.type_list_count WA (io.E Γ Z CX X r _ k h6) (dS (iy.E Γ Z CX X r _ k h5) kF (cB h4)) (lD h2) (z49 (by rw[cx,h4];rfl) (show 1<20 by decide)) (hb.symm.trans h3) (dN (cB h4)) (mM rfl)) (λ_ _=>rfl) λ_ _=>rfl
 |gi j=>exact We.x (λΓ Z CX X r e k h=>by
  obtain⟨x,p,rfl,h1⟩:=jA h;obtain⟨h2,h3⟩:=aE h1;obtain⟨g1,g2⟩:=k.ck.gl h2;obtain⟨n,t,e1,e2⟩:=k.gi j x (eqB h3);have ee:wE Z (.gi j)=λ_ H Q=>Q (.int n) H:=by show(match Z.gi[j]? with|some n=>(λ_ H Q=>Q (.int n) H:TE)|none=>eG)=_;rw[e1]
  rw[ee];exact λpins s U H Q I h=>z2h I g1 e2 ⟨.int n,H,I,⟨t,rfl⟩,h⟩ g2) (λ_ _=>rfl) λ_ _=>rfl
 |gf j=>exact We.x (λΓ Z CX X r e k h=>by
  obtain⟨x,p,rfl,h1⟩:=jA h;obtain⟨h2,h3⟩:=aE h1;obtain⟨g1,g2⟩:=k.ck.gl h2;obtain⟨u,hu,h4⟩:=aI h3;obtain⟨sp,f,fd,ps,n,c1,c2,c3,c4,c5⟩:=k.hf j u.1 u.2 hu;cases wj h4;have ee:wE Z (.gf j)=λ_ H Q=>Q (V.ref f) H:=by show(match Z.hf[j]? with|some r=>(λ_ H Q=>Q (.ref r.1) H:TE)|none=>eG)=_;rw[c1]
  rw[ee];exact λpins s U H Q I h=>z2h I g1 c4 ⟨.ref f,H,I,rfl,h⟩ g2) (λ_ _=>rfl) λ_ _=>rfl
 |uA i j as ia=>exact We.x (λΓ Z CX X r e k h=>by
  obtain⟨⟨x,es⟩,hv,h9⟩:=aI h;obtain⟨_,_,rfl⟩:=gC hv;obtain⟨h1,h2,h3,h4⟩:=bG h9;obtain⟨cQ,h4⟩:=aE h4;obtain⟨y,es,rfl⟩:=tU h4;obtain⟨v1,v2,v3,v4⟩:=k.ck.aN h1;obtain⟨u,hu,h5⟩:=aI h2;obtain⟨sp,f,fd,ps,n,c1,c2,c3,c4,c5,c6⟩:=k.hf j u.1 u.2 hu;obtain⟨s1,s2⟩:=cx.symm.trans (AH h3) |> bg.mp;have ee:wE Z (.uA i j as)=λU H Q=>U[i]?=some (some (V.ref f))/\kG sp [] Z.E (wA Z as) U H Q:=by show(match Z.hf[j]? with|some r=>(λU H Q=>U[i]?=some (some (V.ref r.1))/\kG r.2 [] Z.E (wA Z as) U H Q:TE)|none=>eG)=_;rw[c1]
  rw[ee];exact zfl v1 v2 v3 v4 c3 (k.rm cQ c2) c5 c6 .nil k.px (ia.A Γ Z CX X r _ k h3) (dN (cB s1)) (mM s2)) (λ_ _=>rfl) λ_ _=>rfl
 |nil=>exact⟨λ_ _ _ _ _ _ _ h=>ff rfl h,λΓ Z CX X r es k h=>by cases fQ h;exact kF,λ_ _ _ _ _ _ _ h=>ff rfl h⟩
 |cons a q ia iq=>exact⟨λ_ _ _ _ _ _ _ h=>ff rfl h,λΓ Z CX X r es k h=>by
  cases es with
  |nil=>cases h
  |cons e es=>obtain⟨h1,h2,h3⟩:=aP h;exact dS (ia.E Γ Z CX X r _ k h2) (iq.A Γ Z CX X r _ k h3) (cB h1),λ_ _ _ _ _ _ _ h=>ff rfl h⟩
end
def kP (X:Cx)(pn:List (Addr×Obj))(E:Value->aw->Prop):Cx:={X with pn:=pn,xe:=E}
theorem M4 (ok:X.Ok):(kP X pn E).Ok:=⟨ok.mod,ok.kind,ok.glob,ok.blt,ok.above,ok.inj,ok.has,ok.uO,ok.hd,ok.frames,ok.xF,ok.fD,ok.bs,ok.nB,ok.jD,ok.jE,ok.cW,ok.qF,ok.BQ⟩
theorem WG (I:Inv X pins U H s)(E:Value->aw->Prop):Inv (kP X (X.pn++pins) E) [] U H s:=⟨M4 I.ok,I.os,I.bare,I.base,I.loc,I.cell,I.free,I.bF,λp hp=>I.pin p (by simpa[Mi.kP]using hp),I.hok,I.len,I.fx⟩
theorem HF (ok:X.Ok)(I:Inv (kP X (X.pn++pins) E) nD U H s):Inv X pins U H s:=⟨ok,I.os,I.bare,I.base,I.loc,I.cell,I.free,I.bF,λp hp=>I.pin p (cy _ hp),I.hok,I.len,I.fx⟩
theorem M5 (k:Cok Γ Κ Φ X r)(hx:Γ.xc=none)(pn:List (Addr×Obj))(E:Value->aw->Prop):Cok Γ Κ Φ (kP X pn E) r:=⟨k.hN,k.hs,k.nd,k.fn,k.kind,k.free,k.fns,k.cst,k.jB,k.room,k.calm,k.hu,k.oY,k.CW,λn c z=>(by rw[hx]at z;cases z),k.xk⟩
section
variable {P:cf}{w:World}{A:iz}{E:Value->aw->Prop}{h:Heap}{g:Array p9}{d:Drawn}{t:Nat}{os:ni}
variable {nm q:Str}{C N:Addr}{bs bm bB:List Value}{hdct:Bool}{sn:List Str}{sub:List Value}{ab:Bool}{col:Option Bool}{dd:Option Addr}{k0 k1 k2 k3 k5:Option Value}{B newId initId:String}{mN:Str->Option Value}{us:List Value}{f:Addr}{o:Obj}
theorem zp1 (F:ExcBaseFacts B newId initId bB)(T:uv h bB bm){Q:Fin->aw->Prop}(hC:h.get? C=some (q8 nm q C N bs bm hdct sn sub ab col dd k0 k1 k2 k3 k5 newId))(hN:h.Ns N mN)(hi:mN "__init__"=some (.ref f))(hf:h.get? f=some o)(hc:o.cls=.type "function")
  (go:∀h' e,h.objs.size<=e->re h h' e (.ref C) us->wpAny (model P w) A (call (.ref f) (.ref e::us)) (λr s'=>r=.none/\Q (.done (.ret (.ref e))) s') E ⟨h',g,d,t,os⟩) (hl:us.length<=ba):
  wpAny (model P w) A (Builtin.«type.__call__» ⟨.ref C::us,[]⟩) Q E ⟨h,g,d,t,os⟩:=by
 repeat (first|(with_reducible refine wpAny_madeBy_exc hC ?_)|(with_reducible refine ce hC ?_)|wp_step)
 refine codeAny_call_builtin_code (Code.quiet_builtin _ F.quiet) (wpAny_check_new_subT F T hC (codeAny_exc_new_subT F T hC ?_ hl));generalize ha:({cls:=.type "tuple",data:=.seq us.toArray}:Obj)=oa;generalize he:({cls:=.ref C,data:=.fields #[.ref h.objs.size,.none,.none,.none,.bool false,.none]}:Obj)=oe;have keep:∀b u,h.get? b=some u->((h.push oa).push oe).get? b=some u:=λb u z=>af _ (af _ z);have M6:((h.push oa).push oe).get? (h.objs.size+1)=some oe:=pd (by rw[jx]) (by rw[<-he];rfl);have HG:((h.push oa).push oe).get? h.objs.size=some oa:=af _ (pd rfl (by rw[<-ha];rfl));have HH:oe.cls=.ref C:=by rw[<-he]
 have self:(Value.ref C::bm).contains (.ref C)=true:=by simp
 show wpAny _ _ _ _ _ _;unfold qj
 repeat (first|(with_reducible refine ce M6 ?_;rw[HH])|(with_reducible refine jv (keep _ _ hC) ?_;rw[self])|wp_step)
 refine wpAny_typeLookup_tail (keep _ _ hC) (hN.keeps keep) (T.keeps keep) F.mroIs F.init.lookup ?_;rw[hi];apply fk;apply aa;unfold bindSpecial;refine aa (wpAny_typeOf (T:="function") ⟨o,keep _ _ hf,hc⟩ ?_);rw[vy (show(_:Bool)=true from by decide)];have made:re h ((h.push oa).push oe) (h.objs.size+1) (.ref C) us:=⟨keep,jp (ip _),h.objs.size,by rw[M6,<-he],jp (ag _),by rw[HG,<-ha]⟩;refine aj (aa (jc (go _ _ (ip _) made) (λr s' z=>?_) λ_ _ z=>z));obtain⟨rfl,z⟩:=z
 wp_walk
 exact z
theorem zrb (F:ExcBaseFacts B newId initId bB)(T:uv h bB bm){Q:Value->aw->Prop}(hC:h.get? C=some (q8 nm q C N bs bm hdct sn sub ab col dd k0 k1 k2 k3 k5 newId))(hN:h.Ns N mN)(hi:mN "__init__"=some (.ref f))(hf:h.get? f=some o)(hc:o.cls=.type "function")
  (go:∀h' e,h.objs.size<=e->re h h' e (.ref C) us->wpAny (model P w) (A.under (.builtin "type.__call__" ⟨.ref C::us,[]⟩)) (call (.ref f) (.ref e::us)) (λr s'=>r=.none/\Q (.ref e) s') E ⟨h',g,d,t,os⟩) (hl:us.length<=ba):
  wpAny (model P w) A (call (.ref C) us) Q E ⟨h,g,d,t,os⟩:=by
 have eC:(⟨h,g,d,t,os⟩:aw).TypeIs (.ref C) "type":=⟨_,hC,rfl⟩;have l1:=tc_lookup;have l2:=tc_bind (.ref C);apply qc;apply qq;change wpAny _ _ (callAny (.ref C) _) _ _ _
 repeat (any_goals (first|(with_reducible refine ce hC ?_)|assumption|wp_step))
 exact⟨rfl,codeAny_call_builtin_at (Code.quiet_builtin _ (by decide+kernel)) entry_typeCall (wpAny_check_type_call_sub hC (zp1 F T hC hN hi hf hc go hl))⟩
end
section
open Builtin
open Builtin.ObjectAttr
structure XF (K:W.Frag)(C:Addr)(f:Str):Prop where
 ex:gB K C=true
 hd:∀dd cd sl,K.lookup C=some ⟨.type "type",dd,.cls cd,sl⟩->cd.hasDict=true
 sa:W.findIn K (.ref C) "__setattr__"=some (some (.builtin "object.__setattr__"))
 nf:W.findIn K (.ref C) f=some none
 ga:W.findIn K (.ref C) "__getattribute__"=some (some (.builtin "BaseException.__getattribute__"))
 gt:W.findIn K (.ref C) "__getattr__"=some none
 ob:W.subIn K (.ref C) (.type "object")=some true
 be:W.subIn K (.ref C) (.type "BaseException")=some true
theorem z41:∀{l:List Value},uv h tT l->refuseLoop self what tT=pure ()->refuseLoop self what l=pure ()
 |_,.base,e=>e
 |_,.own _ _ _ T,e=>by rw[refuseLoop_ref];exact z41 T e
section
variable {prog:cf}{w:World}{A:iz}{E:Value->aw->Prop}{K:W.Frag}{h:Heap}{g:Array p9}{d:Drawn}{t:Nat}{os:ni}{C a:Addr}{ob:Obj}{vs:Array Value}{f:Str}{u:Value}
def M7 (h:Heap)(a:Addr)(ob:Obj)(f:Str)(u:Value)(h':Heap):Prop:=∃dp,h.get? dp=none/\dp≠a/\h.objs.size<=dp/\h'.get? a=some {ob with dict:=some dp}/\h'.Ns1 dp (λy=>if y=f then some u else none)/\∀b o,b≠a->h.get? b=some o->h'.get? b=some o
theorem zes {tk:Tok}{Q:Fin->aw->Prop}(X:K.In h)(x:XF K C f)(ge:h.get? a=some ob)(hc:ob.cls=.ref C)(hd:ob.dict=none)(da:ob.data=.fields vs)
  (go:∀h' yg,M7 h a ob f u h'->Q (.done (.ret .none)) ⟨h',g,d,yg,os⟩):
  wpAny (model prog w) A (Builtin.«object.__setattr__» ⟨[.ref a,.str f tk,u],[]⟩) Q E ⟨h,g,d,t,os⟩:=by
 obtain⟨bm,⟨N,nm,q,bs,hdct,sn,sub,ab,col,dd,k0,k1,k2,k3,k5,mN,oC,hN,T⟩,_⟩:=XC.mk X x.ex;have hdt:hdct=true:=by obtain⟨tE,cd,x8,y0,y1,y2,y3,y5,ho,_⟩:=z6 x.ex;have e1:=x.hd _ _ _ ho;have e2:=X _ _ ho;rw[oC]at e2;cases e2;exact e1
 subst hdt;have hpass:=z41 (self:=.ref a) (what:="__setattr__") T (by kernel_rfl);have l0:=W.looks_findIn (M:=model prog w) X x.nf;unfold Builtin.«object.__setattr__»
 repeat (first|rw[refuse_eq]|(rw[refuseLoop_ref,hpass])|(with_reducible refine ce ge ?_;rw[hc])|with_reducible refine wpAny_mroOf_exc oC ?_|with_reducible refine l0.at ?_|wp_step)
 rw[hd,vz (by simp[typeHasDict]),da];have g1:(h.push {cls:=.type "dict",data:=.dict #[]}).get? a=some ob:=af _ ge;have na:a≠h.objs.size:=bz (bc ge);refine aa (wpAny_alloc' (aa (wpAny_update' g1 (aj ?_))));generalize hh:((h.push {cls:=.type "dict",data:=.dict #[]}).update a λo=>{cls:=o.cls,dict:=some h.objs.size,data:=o.data,slots:=o.slots})=h2;have gd:h2.get? h.objs.size=some {cls:=.type "dict",data:=.dict #[]}:=by rw[<-hh];exact(n8 _ _ _ _ (Ne.symm na)).trans (pd rfl rfl)
 have ga:h2.get? a=some {ob with dict:=some h.objs.size}:=by rw[<-hh];refine d7 _ g1 ?_;have fr:=(Heap.get?_some_iff.mp ge).2;obtain⟨oc,od,WH,pN⟩:=ob;cases WH<;>first|rfl|exact fr
 have keep:∀b o,b≠a->h.get? b=some o->h2.get? b=some o:=λb o n e=>by rw[<-hh];exact(n8 _ _ _ _ n).trans (af _ e)
 have nd:h2.Ns h.objs.size (λ_=>none):=⟨_,#[],_,gd,rfl,λe z=>absurd z (by simp),λ_=>rfl⟩;show wpAny _ _ (storeInDict h.objs.size (.str f tk) f u) _ _ _
 delta storeInDict newKeyGuard
 refine aa (aj (aa (wpAny_nsSet1 (ud nd) λh' n1 sb=>?_)));obtain⟨oD,Qm,Qn,Ek,El,Em⟩:=n1.count (Within.cons f u Within.nil);have short:[f].length<=ba+1:=by rw[cg];exact(by decide:1<=16777216+1)
 have qL:=b8 Em short;refine aa (wpAny_lookBehind Ek (El▸pastItsLine_dict qL) ?_)
 wp_walk
 refine go h' _ ⟨h.objs.size,jp (ag _),Ne.symm na,ag _,(sb.2 a na).trans ga,n1,λb o n e=>(sb.2 b (bz (bc e))).trans (keep b o n e)⟩
theorem zgk {M:Model}{nameV:Value}{Q:Unit->aw->Prop}(X:K.In h)(x:XF K C f)(ge:h.get? a=some ob)(hc:ob.cls=.ref C)(hq:Q () ⟨h,g,d,t,os⟩):
  wpAny M A (nc "object.__setattr__" ⟨[.ref a,nameV,u],[]⟩) Q E ⟨h,g,d,t,os⟩:=by
 have z1:ve "object.__setattr__"=some .slot:=by decide+kernel
 have z2:splitId "object.__setattr__"=some ("object","__setattr__"):=by decide+kernel
 have l1:=W.looks_subIn (M:=M) X x.ob;have ar:=PySem.F.args_object_setattr_3 (.ref a) nameV u;simp only[nc,z1,z2];refine aa ?_;unfold qj
 repeat (first|(with_reducible refine ce ge ?_;rw[hc])|with_reducible refine l1.at ?_|wp_step)
 exact hq
theorem znn (X:K.In h)(x:XF K C f)(ge:h.get? a=some ob)(hc:ob.cls=.ref C)(hd:ob.dict=none)(da:ob.data=.fields vs)
  (go:∀h' yg,M7 h a ob f u h'->Q () ⟨h',g,d,yg,os⟩):wpAny (model prog w) A (setAttr (.ref a) f u) Q E ⟨h,g,d,t,os⟩:=by
 have f3:=PySem.F.slot_list_setattr.bind (.ref a)
 repeat (any_goals (first|assumption|(with_reducible refine ce ge ?_;rw[hc])|with_reducible refine(W.looks_findIn (M:=model prog w) X x.sa).at ?_|wp_step))
 refine jt PySem.F.slot_list_setattr.plain PySem.F.entry_object_setattr (zgk X x ge hc (zes X x ge hc hd da λh' yg p=>?_))
 repeat (any_goals (first|assumption|wp_step))
 exact go h' yg p
theorem zjd {tk:Tok}{dp:Addr}{mA:Str->Option Value}{Q:Fin->aw->Prop}(X:K.In h)(x:XF K C f)(ge:h.get? a=some ob)(hc:ob.cls=.ref C)(da:ob.data=.fields vs)(hd:ob.dict=some dp)(hn:h.Ns dp mA)(hv:mA f=some u)
  (hq:Q (.done (.ret u)) ⟨h,g,d,t,os⟩):wpAny (model prog w) A (Builtin.«object.__getattribute__» ⟨[.ref a,.str f tk],[]⟩) Q E ⟨h,g,d,t,os⟩:=by
 obtain⟨bm,⟨N,nm,q,bs,hdct,sn,sub,ab,col,dd,k0,k1,k2,k3,k5,mN,oC,hN,T⟩,_⟩:=XC.mk X x.ex;have hdt:hdct=true:=by obtain⟨tE,cd,x8,y0,y1,y2,y3,y5,ho,_⟩:=z6 x.ex;have e1:=x.hd _ _ _ ho;have e2:=X _ _ ho;rw[oC]at e2;cases e2;exact e1
 subst hdt;have l0:=W.looks_findIn (M:=model prog w) X x.nf;unfold Builtin.«object.__getattribute__»
 repeat (first|(with_reducible refine ce ge ?_;rw[hc])|with_reducible refine l0.at ?_|wp_step)
 rw[da];unfold instanceDict
 repeat (first|(with_reducible refine ce ge ?_;rw[hc])|with_reducible refine ce oC ?_|wp_step)
 rw[hd]
 repeat (first|(with_reducible refine wpAny_nsGet hn ?_;rw[hv])|wp_step)
 exact hq
theorem zig {tk:Tok}{dp:Addr}{mA:Str->Option Value}{R:vt->aw->Prop}(X:K.In h)(x:XF K C f)(ge:h.get? a=some ob)(hc:ob.cls=.ref C)(da:ob.data=.fields vs)(hd:ob.dict=some dp)(hn:h.Ns dp mA)(hv:mA f=some u)
  (hq:R (.ok (.ret u)) ⟨h,g,d,t,os⟩):lf (model prog w) A (.call (.builtin "BaseException.__getattribute__") ⟨[.ref a,.str f tk],[]⟩) R ⟨h,g,d,t,os⟩:=by
 refine jt F.excAttr_ValueError.ga.plain F.entry_bexc_ga ?_;have l1:=W.looks_subIn (M:=model prog w) X x.be;have ar:=F.args_bexc_ga (.ref a) (.str f tk);have z1:ve "BaseException.__getattribute__"=some .slot:=by decide+kernel
 have z2:splitId "BaseException.__getattribute__"=some ("BaseException","__getattribute__"):=by decide+kernel
 simp only[nc,z1,z2];refine aa ?_;unfold qj
 repeat (first|(with_reducible refine zjd X x ge hc da hd hn hv ?_;exact hq)|(with_reducible refine ce ge ?_;rw[hc])|with_reducible refine l1.at ?_|wp_step)
theorem zrk {tk:Tok}{ex:Bool}{dp:Addr}{mA:Str->Option Value}{Q:Value->aw->Prop}(X:K.In h)(x:XF K C f)(ge:h.get? a=some ob)(hc:ob.cls=.ref C)(da:ob.data=.fields vs)(hd:ob.dict=some dp)(hn:h.Ns dp mA)(hv:mA f=some u)(hh:handedOut u=pure u)
  (hq:Q u ⟨h,g,d,t,os⟩):wpAny (model prog w) A (getAttrBy (.ref a) (.str f tk) true ex) Q E ⟨h,g,d,t,os⟩:=by
 have f3:=F.excAttr_ValueError.ga.bind (.ref a);have x2:(Value.builtin "BaseException.__getattribute__"==Value.builtin "object.__getattribute__")=false:=by decide+kernel
 have x1:(onTheHeap (Value.ref C)&&Value.builtin "BaseException.__getattribute__"==Value.builtin "object.__getattribute__")=false:=by rw[x2];rfl
 have x0:(ex&&onTheHeap (Value.builtin "BaseException.__getattribute__"))=false:=by cases ex<;>rfl
 have l1:=W.looks_findIn (M:=model prog w) X x.ga;have l2:=W.looks_findIn (M:=model prog w) X x.gt
 repeat (any_goals (first|assumption|(with_reducible refine ce ge ?_;rw[hc])|with_reducible refine l1.at ?_|with_reducible refine l2.at ?_|wp_step))
 refine zig X x ge hc da hd hn hv ?_
 repeat' first|assumption|wp_step
theorem zq9 (X:K.In h)(x:XF K C f)(ge:h.get? a=some ob)(hc:ob.cls=.ref C)(da:ob.data=.fields vs)(hd:ob.dict=some dp)(hn:h.Ns dp mA)(hv:mA f=some u)(hh:handedOut u=pure u)
  (hq:Q u ⟨h,g,d,t+1,os⟩):wpAny (model prog w) A (vq (.ref a) f ex) Q E ⟨h,g,d,t,os⟩:=by
 repeat (any_goals (first|assumption|with_reducible apply zrk X x ge hc da hd hn hv hh|wp_step))
end
end
def exO (a:Addr)(ob:Obj):HO:=.ext λh=>h.get? a=some ob
def AI:HO->Prop
 |.ext _=>True
 |.xd _=>True
 |_=>False
def jU (H:Hp)(a:Addr):Hp:=λb=>if b=a then none else H b
theorem Df:jU H a a=none:=by unfold jU;rw[vy rfl]
theorem rX (h:b≠a):jU H a b=H b:=by unfold jU;rw[vz h]
section
variable {X:Cx}{pins:List (Addr×Obj)}{U:L2.St}{H:Hp}{s:aw}{a C:Addr}{ob:Obj}{f:Str}
theorem M8 (I:Inv X pins U H s)(h:H a=some (exO a ob)):s.heap.get? a=some ob:=(I.hok a _ h).1
theorem M9 (e:h.get? a=some ob):z1j P w H h a (exO a ob):=⟨e,⟨_,e⟩,λh1 h2 p k=>k _ p⟩
theorem Inv.jU (I:Inv X pins U H s)(hO:H a=some o)(hl:AI o):Inv X pins U (jU H a) s:=by
 have ne:∀{b u},H b=some u->(AI u->False)->b≠a:=λ{b u} e n z=>by subst z;rw[hO]at e;cases e;exact n hl
 have nn:∀{b},H b=none->Mi.jU H a b=none:=λ{b} e=>by
  unfold Mi.jU;split
  ·rfl
  ·exact e
 refine⟨I.ok,I.os,I.bare,⟨I.base.keep,I.base.slot,λb o e n hx=>nn (I.base.free b o e n hx),I.base.there,λb xs e=>?_,λb o u e=>?_,λb ps e=>?_⟩,I.loc,I.cell,nn I.free,λx c e=>nn (I.bF x c e),λp hp=>?_,λb o e=>?_,I.len,I.fx⟩
 ·have e:=I.base.cU b xs e;rw[rX (ne e id)];exact e
 ·have e:=I.base.cK b o u e;rw[rX (ne e id)];exact e
 ·obtain⟨m,e⟩:=I.base.cV b ps e;exact⟨m,by rw[rX (ne e id)];exact e⟩
 ·obtain⟨h1,h2,h3⟩:=I.pin p hp;exact⟨h1,nn h2,h3⟩
 ·have hb:b≠a:=by rintro rfl;rw[Df]at e;cases e
  rw[rX hb]at e;refine(I.hok b o e).stay (λ_ _ _ q=>q) (λc q=>?_) λc xs q=>?_
  ·rw[rX (ne q id)];exact q
  ·rw[rX (ne q id)];exact q
theorem zk5 (I:Inv X pins U H s)(hO:H a=some (exO a ob))(ry:RelV y u)(h0:s.heap.get? dp=none)(hz:s.heap.objs.size<=dp)(na:dp≠a)(ga:h'.get? a=some {ob with dict:=some dp})(ns:h'.Ns1 dp (fun g=>if g=f then some u else none))(k:∀b o,b≠a->s.heap.get? b=some o->h'.get? b=some o):
  H dp=none/\Inv X pins U (upd (upd H dp (.xd [(f,y)])) a (exO a {ob with dict:=some dp})) {s with heap:=h',toks:=tk}:=by
 have M':=I.hok.fresh hz;have ne:∀{b u},H b=some u->(u=exO a ob->False)->b≠a:=λ{b u} e n z=>by subst z;rw[hO]at e;cases e;exact n rfl
 have nd:∀{b u},H b=some u->b≠dp:=λ{b u} e z=>by subst z;rw[M']at e;cases e
 have up:∀{b u},H b=some u->(u=exO a ob->False)->upd (upd H dp (.xd [(f,y)])) a (exO a {ob with dict:=some dp}) b=some u:=λ{b u} e n=>by rw[aK (ne e n),aK (nd e)];exact e
 have nn:∀{b o},s.heap.get? b=some o->H b=none->b≠a/\b≠dp:=λ{b o} e n=>⟨(by rintro rfl;rw[hO]at n;cases n),(by rintro rfl;rw[h0]at e;cases e)⟩;refine⟨M',I.un ⟨λb o e n _ _=>k b o (nn e n).1 e,λb o e n _ _=>⟨o.slots,k b o (nn e n).1 e⟩,λb o e n _=>?_,λb o e _=>?_,λb xs e=>up e nofun,λb o u e=>up e nofun,λb ps e=>⟨#[],by rw[Array.append_empty];exact up e nofun⟩⟩ λb o e=>?_⟩
 ·rw[aK (nn e n).1,aK (nn e n).2];exact n
 ·by_cases hb:b=a
  ·subst hb;exact⟨_,ga⟩
  ·exact⟨o,k b o hb e⟩
 ·by_cases hb:b=a
  ·subst hb;rw[bC]at e;cases e;exact M9 ga
  ·rw[aK hb]at e;by_cases hd:b=dp
   ·subst hd;rw[bC]at e;cases e;refine⟨_,ns,λg=>?_⟩;by_cases hg:g=f
    ·subst hg;simp;exact ry
    ·have :(g==f)=false:=by simpa using hg
     simp only[dr,this,List.lookup_nil,vz hg];exact True.intro
   ·rw[aK hd]at e;refine(I.hok b o e).stay (λc v hc q=>k c v ?_ q) (λc q=>up q nofun) λc xs q=>up q nofun;rcases hc with rfl|hc
    ·exact hb
    ·exact ne hc nofun
def HI (K:W.Frag)(ta tv:TE)(f:Str):TS:=λD U H=>tv U H λy H1=>ta U H1 λx H2=>∃a C ob vs,x=.ref a/\H2 a=some (exO a ob)/\ob.cls=.ref C/\ob.dict=none/\ob.data=.fields vs/\XF K C f/\∀dp,H2 dp=none->dp≠a->D.nx U (upd (upd H2 dp (.xd [(f,y)])) a (exO a {ob with dict:=some dp}))
theorem WI (ha:PE X o ta)(hv:PE X value tv)(hs:lc value (some (.Attribute o f pos')) pos.line X.env=pure false):PS X (.Assign [.Attribute o f pos'] value pos) (HI X.K ta tv f):=by intro pins s U H D I h;refine my (aL (hv pins s U H _ I h) λu s1 ⟨y,H1,I1,ry,q⟩=>aL (ha pins s1 U H1 _ I1 q) λov s2 ⟨x,H2,I2,rx,a,C,ob,vs,ex,ea,hc,hd,da,xf,q2⟩=>?_) hs;subst ex;obtain rfl:ov=Value.ref a:=rx;refine znn I2.dB xf (M8 I2 ea) hc hd da λh' yg ⟨dp,h0,na,hz,ga,ns,k⟩=>?_;obtain⟨e1,I3⟩:=zk5 I2 ea ry h0 hz na ga ns k;exact⟨U,_,I3,q2 dp e1 na⟩
end
def lU (K:W.Frag)(f:Str):Sp:=λvs H Q _=>∃a C ob ws y,vs=[.ref a,y]/\H a=some (exO a ob)/\ob.cls=.ref C/\ob.dict=none/\ob.data=.fields ws/\XF K C f/\∀dp,H dp=none->dp≠a->Q .non (upd (upd H dp (.xd [(f,y)])) a (exO a {ob with dict:=some dp}))
structure XI (K:W.Frag)(C f:Addr):Prop where
 WJ:∀dd cd sl,K.lookup C=some ⟨.type "type",dd,.cls cd,sl⟩->W.nsIn K cd.ns "__init__"=some (some (.ref f))
 fn:W.isFn K (.ref f)=true
theorem WK {K:W.Frag}(X:K.In h)(G:h.Ns N m)(e:W.nsIn K N n=some (some v)):m n=some v:=by
 obtain⟨o,es,ep,ho,hd,_,hf⟩:=G;unfold W.nsIn at e;split at e
 ·rename_i q;have z:=X _ _ q;rw[ho]at z;cases z;cases hd;split at e
  ·rename_i he;cases e;rw[<-hf];unfold nsFind findBy;rw[<-tz,he];rfl
  ·split at e<;>cases e
 ·cases e
theorem XI.at {K:W.Frag}{C:Addr}(X:K.In h)(q:gB K C=true)(x:XI K C f):∃bm N nm qn bs hdct sn sub ab col dd k0 k1 k2 k3 k5 mN o,h.get? C=some (q8 nm qn C N bs bm hdct sn sub ab col dd k0 k1 k2 k3 k5 "ValueError.__new__")/\h.Ns N mN/\mN "__init__"=some (.ref f)/\uv h tT bm/\h.get? f=some o/\o.cls=.type "function":=by
 obtain⟨dd,cd,bm,k0,k1,k2,k3,k5,ho,hm,hd,ht,hk⟩:=z6 q;have hN:h.Ns cd.ns (h.nsMap cd.ns):=.of_isNs (W.isNs_of_in X hk);obtain⟨o,e1,e2⟩:=dj.mp (wj x.fn);refine⟨bm,cd.ns,cd.name,cd.qualname,cd.bases,cd.hasDict,cd.slotNames,cd.subclasses,cd.abstract,cd.collection,dd,k0,k1,k2,k3,k5,h.nsMap cd.ns,o,?_,hN,WK X hN (x.WJ _ _ _ ho),W.tail_of_in X ht,X _ _ e1,e2⟩;have h2:=X _ _ ho;cases cd
 dsimp only at hm hd
 rw[hm,hd]at h2;exact h2
def Dg (X:Cx)(E:XK):Prop:=∀pins U H s a C ob vs,Inv X pins U H s->H a=none->(∃H1 s1,Inv X pins U H1 s1/\s1.heap.get? a=none)->s.heap.get? a=some ob->ob.cls=.ref C->ob.data=.fields vs->vs[1]?=some .none->E (.ref C) ob.dict H->X.xe (.ref a) s
theorem zee {M:Model}{A:iz}{E:Value->aw->Prop}{env:Env}{s:aw}{x:Sem Value}{Q:Flow->aw->Prop}{C:Addr}(hh:A.handled=none)
  (h:wpAny M A x (λv s1=>∃e ob t bm,v=.ref e/\XC C s1.heap bm/\s1.heap.get? e=some ob/\ob.cls=.ref C/\ob.data=.fields #[.ref t,.none,.none,.none,.bool false,.none]/\E (.ref e) s1) E s):wpAny M A (raiseStmt env (some x) none) Q E s:=by
 unfold raiseStmt;refine aa (jc h (λv s1 h1=>?_) λ_ _ x=>x);obtain⟨e,ob,t,bm,rfl,⟨N,nm,q,bs,hdct,sn,sub,ab,col,dd,k0,k1,k2,k3,k5,mN,oC,hN,T⟩,he,hc,da,hE⟩:=h1;have CQ:(Value.ref C::bm).contains (.type "BaseException")=true:=by rw[o0,L8 T,qi]
 obtain⟨hp,g,d,tk,os⟩:=s1
 repeat (first|(with_reducible refine ce he ?_;first|rw[hc]|rw[da])|with_reducible refine ce oC ?_|(with_reducible refine jv oC ?_;rw[CQ])|wp_step)
 rw[da]
 repeat (first|(with_reducible refine ce he ?_;first|rw[hc]|rw[da])|with_reducible refine ce oC ?_|(with_reducible refine jv oC ?_;rw[CQ])|wp_step)
 exact n6 hh hE
theorem zbc {C:Addr}(hr:Room (k+1) X.A)(hg:Gl X x)(hm:X.mg x=some (.ref C))(hdb:Z9 x)(xf:XF X.K C fl)(xi:XI X.K C f)
  (F:FnOk X.prog X.w X.K X.mg X.base (CXE X.prog X.w X.base) k f fd ps (lU X.K fl)) (hb:Binds X.K fd ps []) (he:PE X e te) (hst:isStar e=false) (rs:Dg X E):
  PS X (.Raise (some (.Call (.Name x np) [e] [] cp)) none pos) (λ_ U H=>te U H λy H1=>∀dp,H1 dp=none->E (.ref C) (some dp) (upd H1 dp (.xd [(fl,y)]))):=by
 intro pins s U H D I hq;have iE:(ku cp (de [e] X.env)).any (·.1)=false:=by rw[dN hst];rfl
 refine aa (kq (zee (C:=C) hr.hd (aa (jc (wpAny_Call_ofName (z2h I hg hm ?_ hdb)) (λv s3 h3=>aa (kq (aj h3))) λ_ _ z=>z))));have Na:=(dS he kF hst) cp pins s U H (λvs H1=>match vs with| [y]=>∀dp,H1 dp=none->E (.ref C) (some dp) (upd H1 dp (.xd [(fl,y)]))|_=>False) I hq;rw[dN hst]at Na iE ⊢;refine aa (fk (nj (aL Na λus s1 zz=>aa (kq ?_))));obtain⟨vs,H1,I1,r,hv⟩:=zz
 obtain⟨y,rfl⟩:∃y,vs=[y]:=by
  rcases vs with _|⟨y,_|⟨z,l⟩⟩
  ·exact hv.elim
  ·exact⟨y,rfl⟩
  ·exact hv.elim
 cases r with
 |cons ry rn=>
  cases rn;rename_i u;obtain⟨hp,g,d,t,os⟩:=s1;obtain⟨bm,N,nm,qn,bs,hdct,sn,sub,ab,col,dd,k0,k1,k2,k3,k5,mN,o,oC,hN,hi,T,hf,hc⟩:=xi.at I1.dB xf.ex;refine aa (wpAny_keeperOf_exc oC ?_);refine aa (zrb PySem.F.excBase_ValueError T oC hN hi hf hc (λh' a hz made=>?_) (show 1<=ba by rw[cg];decide));obtain⟨tp,ga,_,_⟩:=made.there;generalize nV:({cls:=.ref C,data:=.fields #[.ref tp,.none,.none,.none,.bool false,.none]}:Obj)=ob at ga;have I2:=I1.laid (t':=t) made.keeps hz (M9 ga);have Nb:=I1.hok.fresh hz
  let Q2:VK:=λv H3=>v=.non/\∃dp,H1 dp=none/\dp≠a/\H3=upd (upd (upd H1 a (exO a ob)) dp (.xd [(fl,y)])) a (exO a {ob with dict:=some dp})
  have eU:lU X.K fl [.ref a,y] (upd H1 a (exO a ob)) Q2 (λ_ _ _=>False):=⟨a,C,ob,#[.ref tp,.none,.none,.none,.bool false,.none],y,rfl,bC,by rw[<-nV],by rw[<-nV],by rw[<-nV],xf,λdp e1 e2=>⟨rfl,dp,by rw[aK e2]at e1;exact e1,e2,rfl⟩⟩;have r2:Vals [V.ref a,y] [Value.ref a,u]:=.cons rfl (.cons ry .nil);refine qc (jq (F.run _ X.stack _ _ ⟨[Value.ref a,u],[]⟩ [Value.ref a,u] [V.ref a,y] Q2 (λ_ _ _=>False) (hr.make C [u] []) (I2.uZ.make C [u] []) (hb ⟨h',g,d,t,os⟩ [Value.ref a,u] I2.dB (by rw[ci];exact(by rw[<-r2.length];exact F.len _ _ _ _ eU))) r2 eU) λrr s' nN=>?_);cases rr with
  |error e'=>obtain⟨_,_,_,_,_,_,z⟩:=nN;exact z.elim
  |ok GO=>
   cases GO with
   |next=>exact nN.elim
   |brk=>exact nN.elim
   |cont=>exact nN.elim
   |ret w=>
    obtain⟨v,H3,I3,rv,rfl,dp,e1,e2,rfl⟩:=I2.after nN;refine⟨rv,aa (fk (wpAny_point (aj ?_)))⟩;have Nc:=M8 I3 bC;have I4:=Mi.Inv.jU I3 bC True.intro
    have eH:Mi.jU (upd (upd (upd H1 a (exO a ob)) dp (.xd [(fl,y)])) a (exO a {ob with dict:=some dp})) a=upd H1 dp (.xd [(fl,y)]):=by
     funext b
     by_cases hb:b=a
     ·subst hb;rw[Df,aK (Ne.symm e2),Nb]
     ·rw[rX hb,aK hb];by_cases hd:b=dp
      ·subst hd;rw[bC,bC]
      ·rw[aK hd,aK hd,aK hb]
    rw[eH]at I4;obtain⟨x8,xc,_⟩:=XC.mk I3.dB xf.ex;refine⟨a,_,tp,x8,rfl,xc,Nc,by rw[<-nV],by rw[<-nV],rs pins U _ s' a C _ _ I4 ?_ ⟨H1,_,I1,made.new⟩ Nc (by rw[<-nV]) (by rw[<-nV]) rfl (hv dp e1)⟩;rw[aK (Ne.symm e2)];exact Nb
theorem zlz {C:Addr}(hx:X.fx=some (n,.ref a))(hl:X.env.scope.names.lookup n=some .local)(hd:Z9 n)(hns:z0f (.Name n p)=true)(ha:Xh X a oe)(hc:oe.cls=.ref C)(da:oe.data=.fields ws)(hdd:oe.dict=some dp)(hp:Xh X dp od)(hm:∀h:Heap,h.get? dp=some od->h.Ns dp mA)(hv:mA f=some u)(rv:RelV v u)(xf:XF X.K C f):
  PE X (.Attribute (.Name n p) f q) (λ_ H Q=>Q v H):=by
 intro pins s U H Q I h;refine zbf (lD hns) (aL (Mj hx hl hd pins s U H (λw H1=>w=.ref a/\H1=H) I ⟨rfl,rfl⟩) λw s1 zz=>?_);obtain⟨w1,H1,I1,r1,rfl,rfl⟩:=zz;obtain rfl:w=Value.ref a:=r1;obtain⟨hh,g,d,t,os⟩:=s1;exact zq9 I1.dB xf (ha _ _ _ _ I1) hc da hdd (hm _ (hp _ _ _ _ I1)) hv (W.handedOut_of (J5 rv)) ⟨v,H1,I1.tok (t+1),rv,h⟩
theorem zj7 {C D:Addr}(I:Inv X pins U H1 s1)(fy:Fly X.prog X.w X.base X.stack H1 s1 C a H' s' (some dp))(hy:H' dp=some (.xd [(fl,y)]))(hs:X.stack=X.env::X.outer)(hf:X.env.frame=some X.env.locals)(hx:X.fx=none)(nd:X.N.Nodup)(hi:X.N[i]?=some n)(hv:X.env.scope.names.lookup ("":Str)=none)(hl:X.env.scope.names.lookup n=some .local)
  (hB:X.mg B=some (.ref D)) (xC:gB X.K C=true) (xD:gB X.K D=true) (sb:W.subIn X.K (.ref C) (.ref D)=some true) (rL:Gl X B) (rM:Z9 B)
  (z8:∀od mA u oe ws,(∀h:Heap,h.get? dp=some od->h.Ns dp mA)->mA fl=some u->RelV y u->oe.cls=.ref C->oe.dict=some dp->oe.data=.fields ws->PSs (jT (kP X ((dp,od)::X.pn) X.xe) i n a oe) (b0::iJ) T) (q:T ⟨λσ' eY=>Dn.nx (σ'.set i none) eY,Dn.rt,λ_ _=>False,λ_ _=>False⟩ (bq U.length none) (jU H' dp)):
  wpAny (model X.prog X.w) X.A (kr (.ref a) X.env) (λ_ s2=>wpAny (model X.prog X.w) X.A (l9 (.ref a) none) (λ_ s3=>wpAny (model X.prog X.w) X.A (q9 (.ref a) X.env [.ExceptHandler (some (.Name B np)) (some n) (b0::iJ) hp]) (SP X pins Dn) X.xe s3) X.xe s2) X.xe s':=by
 obtain⟨B0,Ab,x9,pX,w0⟩:=fy.hh;have yh:=w0;rw[hs]at yh;obtain⟨mA,Nd,rel⟩:=x9 dp _ hy;obtain⟨od,es,ep,HJ,pC,Nf⟩:=id Nd;have rf:=rel fl;simp at rf;obtain⟨u,hu,ru⟩:=cG.some_of rf
 have e0:(bq U.length (none:Option V)).set i none=bq U.length none:=by
  apply ml;intro j;rw[et];split
  ·rename_i h;subst h;split<;>simp_all
  ·rfl
 have back:∀{p2:List (Addr×Obj)} {eP:L2.St} {H2:Hp} {s2:aw},Inv (kP X ((dp,od)::X.pn) X.xe) pins eP H2 s2->Inv X pins eP H2 s2:=λ{p2 eP H2 s2} J=>⟨I.ok,J.os,J.bare,J.base,J.loc,J.cell,J.free,J.bF,λp hp=>J.pin p (by show p∈(dp,od)::(X.pn++pins);exact ah _ hp),J.hok,J.len,J.fx⟩;refine zdy (pins:=pins) (X:=kP X ((dp,od)::X.pn) X.xe) (λh6 w6 up=>?_) yh ?_ hs hf hx nd hi hv hl hB (λA=>Ac (X:=kP X ((dp,od)::X.pn) X.xe) xC xD sb A) rL rM (λf s h=>?_) (λoe ws h1 h2 h3=>z8 od mA u oe ws (λh e=>(Nd.at (h':=h) λo z=>by rw[HJ]at z;cases z;exact e).ns) hu ru h1 h2 h3) (by rw[e0];exact q)
 ·have J:=Fly.land I fy Ab x9 pX (by rw[hs];exact w6) up;have J3:Inv X pins (bq U.length none) (jU H' dp) {s' with heap:=h6}:=(Mi.Inv.jU J hy True.intro).weak (by rw[df]) λj v e=>by rw[cz]at e;split at e<;>cases e
  refine⟨M4 J3.ok,J3.os,J3.bare,J3.base,J3.loc,J3.cell,J3.free,J3.bF,λp hp=>?_,J3.hok,J3.len,J3.fx⟩;rcases ao.mp hp with rfl|hp
  ·have nfr:∀b∈(X.env::X.outer).filterMap (·.frame),dp≠b:=fun b hb z=>by
    have:=(yh.2.2.1.mem hb).1;rw[<-z,HJ]at this;cases this
   refine⟨(w6.1 _ _ HJ),Df,nfr _ ?_,λz=>nfr dp ?_ rfl,λv z=>?_⟩
   ·rw[eh,hf];exact ak
   ·rw[eh,hf];exact ah _ z
   ·have z:od.data=.cell v:=z;rw[pC]at z;cases z
  ·exact J3.pin p hp
 ·have :=Me fy;by_cases e:a=dp
  ·rw[e];exact Df
  ·rw[rX e];exact this
 ·cases f with
  |next=>obtain⟨eP,H2,J,z⟩:=h;exact⟨eP,H2,back (p2:=pins) J,z⟩
  |brk=>obtain⟨eP,H2,J,z⟩:=h;exact⟨eP,H2,back (p2:=pins) J,z⟩
  |cont=>obtain⟨eP,H2,J,z⟩:=h;exact⟨eP,H2,back (p2:=pins) J,z⟩
  |ret u=>obtain⟨v,eP,H2,J,r,z⟩:=h;exact⟨v,eP,H2,back (p2:=pins) J,r,z⟩
inductive WS where
 |nil|seq (a b:WS)|asg (i:Nat) (e:W)|fld (o:W) (f:Str) (e:W)|put (o k v:W)|exp (e:W)|app (o v:W)|ret (e:W)|bA (c:W) (a b:WS)|AJ (c:W) (b:WS)|bP (t:Tg) (it:C) (b:WS)|wQ (s:S)|Dh (o:W) (f:Str) (e:W)|rY (c fl:Str) (e:W)|pD (t:Tg) (it:W) (b:WS)|yi (b hs:WS) (i n:Nat)|hn (c:Str) (f:Option Str) (h rest:WS)
 deriving Inhabited
def rz:WS->Bool
 |.seq a b=>rz a||rz b
 |.rY _ _ _=>true
 |.bA _ a b=>rz a||rz b
 |.AJ _ _=>true
 |.bP _ _ _=>true
 |.pD _ _ _=>true
 |.wQ _=>true
 |_=>false
mutual
def wS:Wc->WS->TS
 |_,.nil=>JO
 |Z,.seq a b=>yH (wS Z a) (wS Z b)
 |Z,.asg i e=>qH (wE Z e) (BW i)
 |Z,.fld o f e=>uY Z.K (wE Z o) (wE Z e) f
 |Z,.put o k v=>zK (wE Z o) (wE Z k) (wE Z v)
 |Z,.exp e=>yI (wE Z e)
 |Z,.app o v=>yI (y7 Z.K "list" B8 (wE Z o) (nM (wE Z v) eI))
 |Z,.ret e=>yJ (wE Z e)
 |Z,.bA c a b=>yK (wT Z c) (wS Z a) (wS Z b)
 |Z,.AJ c b=>JT (wT Z c) (wS Z b)
 |Z,.bP t it b=>jG (tDW Z.K (evW Z.Κ Z.Φ it)) (tDG Z.K t) (wS Z b)
 |Z,.wQ s=>tDS Z.K (aM Z.Κ Z.Φ s)
 |Z,.Dh o f e=>HI Z.K (wE Z o) (wE Z e) f
 |Z,.rY c fl e=>λ_ U H=>∀C,Z.mg c=some (.ref C)->wE Z e U H λy H1=>∀dp,H1 dp=none->Z.E (.ref C) (some dp) (upd H1 dp (.xd [(fl,y)]))
 |Z,.pD t it b=>jG (yL Z.K (wE Z it)) (tDG Z.K t) (wS Z b)
 |Z,.yi b hs i n=>λD U H=>wS {Z with E:=wX Z hs D i n} b ⟨D.nx,D.rt,λ_ _=>False,λ_ _=>False⟩ U H
 |_,.hn _ _ _ _=>λ_ _ _=>False
def wX:Wc->WS->Ends->Nat->Nat->XK
 |Z,.hn c f h rest,D,i,n=>fun v dd H'=>(∃C,Z.mg c=some (.ref C)/\v=.ref C/\match f with
   |none=>wS {Z with E:=λ_ _ _=>False,xf:=none} h ⟨λσ' eY=>D.nx (σ'.set i none) eY,D.rt,λ_ _=>False,λ_ _=>False⟩ (bq n none) H'
   |some fl=>∃dp y,dd=some dp/\H' dp=some (.xd [(fl,y)])/\wS {Z with E:=λ_ _ _=>False,xf:=some y} h ⟨λσ' eY=>D.nx (σ'.set i none) eY,D.rt,λ_ _=>False,λ_ _=>False⟩ (bq n none) (jU H' dp))
  \/wX Z rest D i n v dd H'
 |_,_,_,_,_=>λ_ _ _=>False
end
def HK:Stmt->Option (List Stmt×Str×Str×List Stmt)
 |.Try b [h] [] [] _=>(Fe h).map λu=>(b,u)
 |_=>none
theorem HL (e:HK s=some v):∃np hp pos,s=.Try v.1 [.ExceptHandler (some (.Name v.2.1 np)) (some v.2.2.1) v.2.2.2 hp] [] [] pos:=by
 unfold HK at e;split at e
 ·obtain⟨x,h3,rfl⟩:=dj.mp e;obtain⟨np,hp,rfl⟩:=G' h3;exact⟨_,_,_,rfl⟩
 ·cases e
def HM (Γ:Gw)(i:Nat)(nm c:Str)(f:Option Str):Gw:={Γ with g:={Γ.g with N:=Γ.g.N.set i "",cm:=false,xc:=some (nm,c),fns:=[]},xf:=f}
mutual
def Di:Gw->WS->Stmt->Bool
 |Γ,.asg i e,s=>(x4 s).any λu=>(bI u.1).any λx=>vU Γ.g (.nm i) x&& !pQ u.2&&cE Γ e u.2
 |Γ,.fld o f e,s=>(x4 s).any λu=>(bI u.1).any λx=>(xY x).any λv=>(v.2.1==f)&& !pQ u.2&&cE Γ o v.1&&cE Γ e u.2
 |Γ,.put o k v,s=>(x4 s).any λu=>(bI u.1).any λx=>(oG x).any λw=>!pQ u.2&&cE Γ o w.1&&cE Γ k w.2&&cE Γ v u.2
 |Γ,.exp e,s=>(Co s).any λv=>!pQ v&&cE Γ e v
 |Γ,.app o e,s=>(Co s).any λc=>(pT c).any λv=>((v.2.1==("append":Str))&&z0f v.1&&v.2.2.2)&&cE Γ o v.1&&(bI v.2.2.1).any λy=>!isStar y&&cE Γ e y
 |Γ,.ret e,s=>(E9 s).any λo=>o.any λv=>cE Γ e v
 |Γ,.bA c a b,s=>(Fc s).any λv=>rW Γ c v.1&&wkL Γ a v.2.1&&wkL Γ b v.2.2
 |Γ,.AJ c b,s=>(KU s).any λv=>rW Γ c v.1&&wkL Γ b v.2.1&&v.2.2.isEmpty
 |Γ,.bP t it b,s=>Γ.g.cm&&(Cp s).any λv=>(vU Γ.g t v.1&&Cn it v.1&&xW v.2.1)&&jP Γ.g it v.2.1&&wkL Γ b v.2.2.1&&v.2.2.2.isEmpty
 |Γ,.wQ x,s=>qZ Γ.g x s
 |Γ,.Dh o f e,s=>(x4 s).any λu=>(bI u.1).any λx=>(xY x).any λv=>(v.2.1==f)&& !pQ u.2&&cE Γ o v.1&&cE Γ e u.2
 |Γ,.rY c fl e,s=>(Fd s).any λv=>(v.1==c)&&mP Γ.g c&&Γ.fld.contains (c,fl)&&Γ.g.cm&&(bI v.2).any λy=>!isStar y&&cE Γ e y
 |Γ,.pD t it b,s=>Γ.g.cm&&(Cp s).any λv=>(vU Γ.g t v.1&&xW v.2.1)&&cE Γ it v.2.1&&wkL Γ b v.2.2.1&&v.2.2.2.isEmpty
 |Γ,.yi b hs i n,s=>decide (Γ.g.N.length=n)&&(HK s).any λv=>(Γ.g.cm&&(Γ.g.xc.isNone&& !Γ.g.blk)&&(Γ.g.N[i]?==some v.2.2.1)&&(Γ.g.sc.names.lookup v.2.2.1==some .local)&&decide (Γ.g.N.set i "").Nodup)&&((Γ.g.sc.names.lookup ("":Str)).isNone&&mP Γ.g v.2.1&& !rz b&&wkL Γ b v.1&&Γ.xf.isNone)&&(!v.2.2.2.isEmpty&& !(v.2.2.1==("__debug__":Str))&&wkH Γ hs i v.2.2.1 v.2.1 v.2.2.2)
 |_,_,_=>false
def wkH:Gw->WS->Nat->Str->Str->List Stmt->Bool
 |_,.nil,_,_,_,_=>true
 |Γ,.hn c f h rest,i,nm,B,su=>Γ.g.fF.contains (c,B)&&(match f with|none=>true|some fl=>Γ.fld.contains (c,fl))&&wkL (HM Γ i nm c f) h su&&wkH Γ rest i nm B su
 |_,_,_,_,_,_=>false
def wkL:Gw->WS->List Stmt->Bool
 |_,.nil,l=>l.isEmpty
 |Γ,.seq a b,l=>match l with|s::l=>Di Γ a s&&wkL Γ b l|_=>false
 |_,_,_=>false
end
def Wfk (Γ:Gw)(X:Cx)(r:Nat):Prop:=∀c fl,Γ.fld.contains (c,fl)=true->∃C f fd ps k,X.mg c=some (.ref C)/\XF X.K C fl/\XI X.K C f/\k+1<=r/\FnOk X.prog X.w X.K X.mg X.base (CXE X.prog X.w X.base) k f fd ps (lU X.K fl)/\Binds X.K fd ps []
structure Wz (s:WS):Prop where
 R:∀(Γ:Gw) (Z:Wc) (X:Cx) (r:Nat) (st:Stmt),Wok Γ Z (CXE X.prog X.w X.base) X r->Wfk Γ X r->(rz s=true->ja (model X.prog X.w) X.A X.env X.xe)->(rz s=true->Dg X Z.E)->Di Γ s st=true->PS X st (wS Z s)
 L:∀(Γ:Gw) (Z:Wc) (X:Cx) (r:Nat) (st:List Stmt),Wok Γ Z (CXE X.prog X.w X.base) X r->Wfk Γ X r->(rz s=true->ja (model X.prog X.w) X.A X.env X.xe)->(rz s=true->Dg X Z.E)->wkL Γ s st=true->PSs X st (wS Z s)
 H:∀(Γ:Gw) (Z:Wc) (X:Cx) (r i:Nat) (nm B:Str) (b0:Stmt) (su:List Stmt) (np hp:Pos) (pins:List (Addr×Obj)) (Dn:Ends),Wok Γ Z (CXE X.prog X.w X.base) X r->Wfk Γ X r->Γ.g.xc=none->X.stack=X.env::X.outer->X.env.frame=some X.env.locals->X.N[i]?=some nm->X.env.scope.names.lookup ("":Str)=none->X.env.scope.names.lookup nm=some .local->Z9 nm->(Γ.g.N.set i "").Nodup->Gl X B->Z9 B->wkH Γ s i nm B (b0::su)=true->∀U H1 s1 C a H' s' dd,Inv X pins U H1 s1->Fly X.prog X.w X.base X.stack H1 s1 C a H' s' dd->wX Z s Dn i U.length (.ref C) dd H'->wpAny (model X.prog X.w) X.A (kr (.ref a) X.env) (λ_ s2=>wpAny (model X.prog X.w) X.A (l9 (.ref a) none) (λ_ s3=>wpAny (model X.prog X.w) X.A (q9 (.ref a) X.env [.ExceptHandler (some (.Name B np)) (some nm) (b0::su) hp]) (SP X pins Dn) X.xe s3) X.xe s2) X.xe s'
theorem Wz.x (h:∀Γ Z X r st,Wok Γ Z (CXE X.prog X.w X.base) X r->Wfk Γ X r->(rz s=true->ja (model X.prog X.w) X.A X.env X.xe)->(rz s=true->Dg X Z.E)->Di Γ s st=true->PS X st (wS Z s))(hl:∀Γ st,wkL Γ s st=false)(hx:∀Z D i n v dd H',¬wX Z s D i n v dd H'):Wz s:=⟨h,λΓ Z X r st k kx hp hr z=>ff (hl Γ st) z,λΓ Z X r i nm B b0 su np hp pins Dn k kx a1 a2 a3 a4 a5 a6 a7 a8 a9 Ng Nh U H1 s1 C a H' s' dd I fl z=>(hx _ _ _ _ _ _ _ z).elim⟩
theorem rZ (h:a=true):(a||b)=true:=by rw[h];rfl
theorem sA (h:b=true):(a||b)=true:=by rw[h,qi]
theorem zl7 {C D:Addr}(I:Inv X pins U H1 s1)(fy:Fly X.prog X.w X.base X.stack H1 s1 C a H' s' dd)(hs:X.stack=X.env::X.outer)(hf:X.env.frame=some X.env.locals)(hx:X.fx=none)(nd:X.N.Nodup)(hi:X.N[i]?=some n)(hv:X.env.scope.names.lookup ("":Str)=none)(hl:X.env.scope.names.lookup n=some .local)
  (hB:X.mg B=some (.ref D)) (xC:gB X.K C=true) (xD:gB X.K D=true) (sb:W.subIn X.K (.ref C) (.ref D)=some true) (rL:Gl X B) (rM:Z9 B)
  (z8:∀oe,oe.cls=.ref C->PSs (jT X i n a oe) (b0::iJ) T) (q:T ⟨λσ' eY=>Dn.nx (σ'.set i none) eY,Dn.rt,λ_ _=>False,λ_ _=>False⟩ (bq U.length none) H'):
  wpAny (model X.prog X.w) X.A (kr (.ref a) X.env) (λ_ s2=>wpAny (model X.prog X.w) X.A (l9 (.ref a) none) (λ_ s3=>wpAny (model X.prog X.w) X.A (q9 (.ref a) X.env [.ExceptHandler (some (.Name B np)) (some n) (b0::iJ) hp]) (SP X pins Dn) X.xe s3) X.xe s2) X.xe s':=by
 obtain⟨B0,Ab,x9,pX,w0⟩:=fy.hh;have yh:=w0;rw[hs]at yh
 have e0:(bq U.length (none:Option V)).set i none=bq U.length none:=by
  apply ml;intro j;rw[et];split
  ·rename_i h;subst h;split<;>simp_all
  ·rfl
 refine zdy (λh6 w6 up=>?_) yh (Me fy) hs hf hx nd hi hv hl hB (Ac xC xD sb) rL rM (λ_ _ z=>z) (λoe ws h1 h2 h3=>z8 oe h1) (by rw[e0];exact q);exact(Fly.land I fy Ab x9 pX (by rw[hs];exact w6) up).weak (by rw[df]) λj v e=>by rw[cz]at e;split at e<;>cases e
theorem w_hn {rest:WS}(ih:Wz h)(ir:Wz rest):∀Γ Z X r i nm B b0 su np hp pins Dn,Wok Γ Z (CXE X.prog X.w X.base) X r->Wfk Γ X r->Γ.g.xc=none->X.stack=X.env::X.outer->X.env.frame=some X.env.locals->X.N[i]?=some nm->X.env.scope.names.lookup ("":Str)=none->X.env.scope.names.lookup nm=some .local->Z9 nm->(Γ.g.N.set i "").Nodup->Gl X B->Z9 B->wkH Γ (.hn c f h rest) i nm B (b0::su)=true->
  ∀U H1 s1 C a H' s' dd,Inv X pins U H1 s1->Fly X.prog X.w X.base X.stack H1 s1 C a H' s' dd->wX Z (.hn c f h rest) Dn i U.length (.ref C) dd H'->wpAny (model X.prog X.w) X.A (kr (.ref a) X.env) (λ_ s2=>wpAny (model X.prog X.w) X.A (l9 (.ref a) none) (λ_ s3=>wpAny (model X.prog X.w) X.A (q9 (.ref a) X.env [.ExceptHandler (some (.Name B np)) (some nm) (b0::su) hp]) (SP X pins Dn) X.xe s3) X.xe s2) X.xe s':=by
 intro Γ Z X r i nm B b0 su np hp pins Dn k kx hxc hs hf hi hv hl Ni fF rL rM WL U H1 s1 C a H' s' dd I fy z;obtain⟨c1,c2,c3,c4⟩:=bG WL;rcases z with⟨C0,m0,e0,z⟩|z
 ·cases e0;obtain⟨C',D,m1,m2,x1,x2,sb⟩:=k.ck.xk.fF c B c1;rw[k.mm,m1]at m0;cases m0;have Nj:X.N.Nodup:=by rw[k.ck.hN];exact k.ck.nd
  have hx:=k.ck.CW hxc;cases f with
  |none=>refine zl7 I fy hs hf hx Nj hi hv hl m2 x1 x2 sb rL rM (λoe hc=>?_) z;exact ih.L (HM Γ i nm c none) _ (jT X i nm a oe) r _ ⟨⟨k.kk,k.mm,k.fn,k.me,k.cl,k.gi,k.hf⟩,k.ck.jT fF hc m1,nofun,(λ_ _ _ _ _ _ _ z=>by obtain⟨_,_,_,_,_,_,z⟩:=z;exact z),λf z=>by cases z⟩ kx (λ_=>PassesOwn.never) (λ_ _ _ _ _ _ _ _ _ _ _ _ _ _ _ _ z=>z.elim) c3
  |some fl=>obtain⟨dp,y,rfl,hy,z⟩:=z;obtain⟨C2,f2,fd2,Z0,k2,n1,xf,_⟩:=kx c fl c2;rw[m1]at n1;cases n1;refine zj7 I fy hy hs hf hx Nj hi hv hl m2 x1 x2 sb rL rM (λod mA u oe ws q1 q2 q3 q4 q5 q6=>?_) z;refine ih.L (HM Γ i nm c (some fl)) _ (jT (kP X ((dp,od)::X.pn) X.xe) i nm a oe) r _ ⟨⟨k.kk,k.mm,k.fn,k.me,k.cl,k.gi,k.hf⟩,(M5 k.ck hxc ((dp,od)::X.pn) X.xe).jT fF q4 m1,nofun,(λ_ _ _ _ _ _ _ z=>by obtain⟨_,_,_,_,_,_,z⟩:=z;exact z),λf z=>?_⟩ kx (λ_=>PassesOwn.never) (λ_ _ _ _ _ _ _ _ _ _ _ _ _ _ _ _ z=>z.elim) c3;cases z;refine⟨y,rfl,λn' c' e p q hns=>?_⟩;cases e;exact zlz (X:=jT (kP X ((dp,od)::X.pn) X.xe) i nm a oe) rfl hl Ni hns (λ_ _ _ _ J=>(J.pin (a,oe) (cy _ ak)).1) q4 q6 q5 (λ_ _ _ _ J=>(J.pin (dp,od) (cy _ (ah _ ak))).1) q1 q2 q3 xf
 ·exact ir.H Γ Z X r i nm B b0 su np hp pins Dn k kx hxc hs hf hi hv hl Ni fF rL rM c4 U H1 s1 C a H' s' dd I fy z
theorem WM {st:Stmt}(ib:Wz b)(ih:Wz hs)(k:Wok Γ Z (CXE X.prog X.w X.base) X r)(kx:Wfk Γ X r)(h:Di Γ (.yi b hs i n) st=true):PS X st (wS Z (.yi b hs i n)):=by
 obtain⟨hn,h⟩:=aE h;obtain⟨⟨bd,B,nm,su⟩,hv,h9⟩:=aI h;obtain⟨np,zJ,pos,rfl⟩:=HL hv;obtain⟨h1,h2,h3⟩:=aP h9;obtain⟨a1,a2,a3,a4,a5⟩:=eK h1;obtain⟨b1,b2,b3,b4,b5⟩:=eK h2;obtain⟨c1,c2,c3⟩:=aP h3;obtain⟨a6,a7⟩:=aE a2;obtain⟨b0,su,rfl⟩:=tU c1;obtain⟨g3,g4⟩:=k.ck.gl b2;obtain⟨s1,s2⟩:=k.ck.oY (cB a7);have hxc:=gz.mp a6;have Nk:=cB b3;intro pins s U H Dn I hq;refine wpAny_Try_except ?_;generalize hE:(λ(e:Value) (s₁:aw)=>wpAny (model X.prog X.w) X.A (kr e X.env) (λ_ nG=>wpAny (model X.prog X.w) X.A (l9 e none) (λ_ s₃=>wpAny (model X.prog X.w) X.A (q9 e X.env [.ExceptHandler (some (.Name B np)) (some nm) (b0::su) zJ]) (SP X pins Dn) X.xe s₃) X.xe nG) X.xe s₁)=E
 have px:z2d (CXE X.prog X.w X.base) (kP X (X.pn++pins) E) (wX Z hs Dn i n):=λnD σ' H1 wq e s' I1 zz=>by
  obtain⟨a,C',dd,H',rfl,fl,q⟩:=zz;rw[<-hE];have I2:=HF I.ok I1;have mL:n=σ'.length:=by rw[I2.len,k.ck.hN];exact(wc hn).symm
  rw[mL]at q;exact ih.H Γ Z X r i nm B b0 su np zJ pins Dn k kx hxc s1 s2 (by rw[k.ck.hN];exact wj a3) (by rw[k.ck.hs];exact gz.mp b1) (by rw[k.ck.hs];exact wj a4) (cB c2) (wc a5) g3 g4 c3 σ' H1 wq C' a H' s' dd I2 fl q
 have wk:Wok Γ {Z with E:=wX Z hs Dn i n} (CXE X.prog X.w X.base) (kP X (X.pn++pins) E) r:=⟨⟨k.kk,k.mm,k.fn,k.me,k.cl,k.gi,k.hf⟩,M5 k.ck hxc _ E,k.room,px,λf z=>by rw[gz.mp b5]at z;cases z⟩;refine aL ((ib.L Γ _ (kP X (X.pn++pins) E) r bd wk kx (λz=>by rw[Nk]at z;cases z) (λz=>by rw[Nk]at z;cases z) b4) [] s U H ⟨Dn.nx,Dn.rt,λ_ _=>False,λ_ _=>False⟩ (WG I E) hq) λCN s2 h2=>?_;cases CN with
 |next=>obtain⟨σ',H',I2,z⟩:=h2;exact ny ⟨σ',H',HF I.ok I2,z⟩
 |brk=>obtain⟨_,_,_,z⟩:=h2;exact z.elim
 |cont=>obtain⟨_,_,_,z⟩:=h2;exact z.elim
 |ret u=>obtain⟨v,σ',H',I2,rv,z⟩:=h2;exact⟨v,σ',H',HF I.ok I2,rv,z⟩
theorem WN (s:WS):Wz s:=by
 induction s with
 |nil=>exact⟨λ_ _ _ _ _ _ _ _ _ h=>ff rfl h,λΓ Z X r st k kx hp hr h=>by cases fQ h;exact JP,λΓ Z X r i nm B b0 su np hp pins Dn k kx a1 a2 a3 a4 a5 a6 a7 a8 a9 Ng Nh U H1 s1 C a H' s' dd I fl z=>z.elim⟩
 |seq a b ia ib=>exact⟨λ_ _ _ _ _ _ _ _ _ h=>ff rfl h,λΓ Z X r st k kx hp hr h=>by
  cases st with
  |nil=>cases h
  |cons s st=>obtain⟨h1,h2⟩:=aE h;exact JQ (ia.R Γ Z X r _ k kx (λz=>hp (rZ z)) (λz=>hr (rZ z)) h1) (ib.L Γ Z X r _ k kx (λz=>hp (sA z)) (λz=>hr (sA z)) h2),λΓ Z X r i nm B b0 su np hp pins Dn k kx a1 a2 a3 a4 a5 a6 a7 a8 a9 Ng Nh U H1 s1 C a H' s' dd I fl z=>z.elim⟩
 |asg i e=>exact Wz.x (λΓ Z X r st k kx hp hr h=>by obtain⟨⟨ts,v⟩,hv,h9⟩:=aI h;obtain⟨p,rfl⟩:=oZ hv;obtain⟨x,hx,h8⟩:=aI h9;cases fH hx;obtain⟨h1,h2,h3⟩:=aP h8;obtain⟨y,q,rfl,h5⟩:=jA h1;obtain⟨l1,l2,l3⟩:=k.ck.loc h5;exact EK (by rw[k.ck.hN];exact k.ck.nd) l1 l2 ((dH e).E Γ Z _ X r _ k h3) (cB h2) l3) (λ_ _=>rfl) λ_ _ _ _ _ _ _ z=>z
 |fld o f e=>exact Wz.x (λΓ Z X r st k kx hp hr h=>by obtain⟨⟨ts,v⟩,hv,h9⟩:=aI h;obtain⟨p,rfl⟩:=oZ hv;obtain⟨x,hx,h8⟩:=aI h9;cases fH hx;obtain⟨⟨o',f',p'⟩,ho,h7⟩:=aI h8;cases oX ho;obtain⟨h1,h2,h3,h4⟩:=bG h7;have h1:=eqB h1;subst h1;show PS X _ (uY Z.K _ _ _);rw[k.kk];exact Qp ((dH o).E Γ Z _ X r _ k h3) ((dH e).E Γ Z _ X r _ k h4) (vG (cB h2) _ _ _)) (λ_ _=>rfl) λ_ _ _ _ _ _ _ z=>z
 |put o y v=>exact Wz.x (λΓ Z X r st k kx hp hr h=>by obtain⟨⟨ts,v⟩,hv,h9⟩:=aI h;obtain⟨p,rfl⟩:=oZ hv;obtain⟨x,hx,h8⟩:=aI h9;cases fH hx;obtain⟨w,ho,h7⟩:=aI h8;obtain⟨_,rfl⟩:=CU ho;obtain⟨h1,h2,h3,h4⟩:=bG h7;exact TY (o5 (se (by decide) _) k.ck.hu) ((dH o).E Γ Z _ X r _ k h2) ((dH y).E Γ Z _ X r _ k h3) ((dH _).E Γ Z _ X r _ k h4) (vG (cB h1) _ _ _)) (λ_ _=>rfl) λ_ _ _ _ _ _ _ z=>z
 |exp e=>exact Wz.x (λΓ Z X r st k kx hp hr h=>by obtain⟨v,hv,h9⟩:=aI h;obtain⟨p,rfl⟩:=wK hv;obtain⟨h1,h2⟩:=aE h9;exact vH ((dH e).E Γ Z _ X r _ k h2) (cB h1)) (λ_ _=>rfl) λ_ _ _ _ _ _ _ z=>z
 |app o e=>exact Wz.x (λΓ Z X r st k kx hp hr h=>by obtain⟨c,hv,h9⟩:=aI h;obtain⟨p,rfl⟩:=wK hv;obtain⟨⟨x,n,es,b⟩,hm,h8⟩:=aI h9;obtain⟨ap,cp,rfl,hb⟩:=gZ hm;obtain⟨h0,h6,h7⟩:=aP h8;obtain⟨h1,h2,h3⟩:=aP h0;obtain⟨y,hy,h4⟩:=aI h7;cases fH hy;obtain⟨h4,h5⟩:=aE h4;have h1:=eqB h1;subst h1;show PS X _ (yI (y7 Z.K "list" B8 _ _));rw[k.kk];exact vH (zdp PySem.F.plainAttrs_list PySem.F.slot_list_append PySem.F.type_list_append Ew ((dH o).E Γ Z _ X r _ k h6) (dS ((dH e).E Γ Z _ X r _ k h5) kF (cB h4)) (lD h2) (z49 (by rw[cx,h4];rfl) (show 1<20 by decide)) (hb.symm.trans h3) (dN (cB h4)) (mM rfl)) rfl) (λ_ _=>rfl) λ_ _ _ _ _ _ _ z=>z
 |ret e=>exact Wz.x (λΓ Z X r st k kx hp hr h=>by obtain⟨o,hv,h9⟩:=aI h;obtain⟨p,rfl⟩:=Am hv;obtain⟨v,rfl,h8⟩:=aI h9;exact Ea ((dH e).E Γ Z _ X r _ k h8)) (λ_ _=>rfl) λ_ _ _ _ _ _ _ z=>z
 |bA c a b ia ib=>exact Wz.x (λΓ Z X r st k kx hp hr h=>by obtain⟨v,hv,h9⟩:=aI h;obtain⟨p,rfl⟩:=An hv;obtain⟨h1,h2,h3⟩:=aP h9;exact JR ((dH c).T Γ Z _ X r _ k h1).1 (ia.L Γ Z X r _ k kx (λz=>hp (rZ z)) (λz=>hr (rZ z)) h2) (ib.L Γ Z X r _ k kx (λz=>hp (sA z)) (λz=>hr (sA z)) h3)) (λ_ _=>rfl) λ_ _ _ _ _ _ _ z=>z
 |AJ c b ib=>exact Wz.x (λΓ Z X r st k kx hp hr h=>by obtain⟨⟨t,B,o⟩,hv,h9⟩:=aI h;obtain⟨p,rfl⟩:=G6 hv;obtain⟨h1,h2,h3⟩:=aP h9;cases fQ h3;exact PX (hp rfl) ((dH c).T Γ Z _ X r _ k h1).1 (ib.L Γ Z X r _ k kx (λ_=>hp rfl) (λ_=>hr rfl) h2)) (λ_ _=>rfl) λ_ _ _ _ _ _ _ z=>z
 |bP t it b ib=>exact Wz.x (λΓ Z X r st k kx hp hr h=>by obtain⟨cQ,h⟩:=aE h;obtain⟨⟨t',i,B,o⟩,hv,h9⟩:=aI h;obtain⟨p,rfl⟩:=wL hv;obtain⟨h1,h2,h3,h4⟩:=bG h9;obtain⟨h5,h6,h7⟩:=aP h1;cases fQ h4;show PS X _ (jG (tDW Z.K _) (tDG Z.K _) _);rw[k.kk];exact zb2 (hp rfl) (k.ck.calm cQ) ((all it).W Γ.g X r _ _ k.ck h6 h2) (Ai k.ck h5) (ib.L Γ Z X r _ k kx (λ_=>hp rfl) (λ_=>hr rfl) h3) (CY h7 _)) (λ_ _=>rfl) λ_ _ _ _ _ _ _ z=>z
 |wQ s=>exact Wz.x (λΓ Z X r st k kx hp hr h=>by show PS X _ (tDS Z.K _);rw[k.kk];exact(Mv s).R Γ.g X r st k.ck (hp rfl) h) (λ_ _=>rfl) λ_ _ _ _ _ _ _ z=>z
 |Dh o f e=>exact Wz.x (λΓ Z X r st k kx hp hr h=>by obtain⟨⟨ts,v⟩,hv,h9⟩:=aI h;obtain⟨p,rfl⟩:=oZ hv;obtain⟨x,hx,h8⟩:=aI h9;cases fH hx;obtain⟨⟨o',f',p'⟩,ho,h7⟩:=aI h8;cases oX ho;obtain⟨h1,h2,h3,h4⟩:=bG h7;have h1:=eqB h1;subst h1;show PS X _ (HI Z.K _ _ _);rw[k.kk];exact WI ((dH o).E Γ Z _ X r _ k h3) ((dH e).E Γ Z _ X r _ k h4) (vG (cB h2) _ _ _)) (λ_ _=>rfl) λ_ _ _ _ _ _ _ z=>z
 |rY c fl e=>exact Wz.x (λΓ Z X r st k kx hp hr h=>by obtain⟨⟨x,es⟩,hv,h9⟩:=aI h;obtain⟨np,cp,pos,rfl⟩:=Ha hv;obtain⟨h1,h2,h3,h4,h5⟩:=eK h9;obtain⟨y,hy,h6⟩:=aI h5;cases fH hy;obtain⟨h6,h7⟩:=aE h6;cases wj h1;obtain⟨g1,g2⟩:=k.ck.gl h2;obtain⟨C,f,fd,ps,n,m1,xf,xi,hn,F,hb⟩:=kx _ _ h3;exact PS.imp (zbc ((k.room h4).mono hn) g1 m1 g2 xf xi F hb ((dH e).E Γ Z _ X r _ k h7) (cB h6) (hr rfl)) λD U H q=>q C (by rw[k.mm];exact m1)) (λ_ _=>rfl) λ_ _ _ _ _ _ _ z=>z
 |pD t it b ib=>exact Wz.x (λΓ Z X r st k kx hp hr h=>by obtain⟨cQ,h⟩:=aE h;obtain⟨⟨t',i,B,o⟩,hv,h9⟩:=aI h;obtain⟨p,rfl⟩:=wL hv;obtain⟨h1,h2,h3,h4⟩:=bG h9;obtain⟨h5,h7⟩:=aE h1;cases fQ h4;show PS X _ (jG (yL Z.K _) (tDG Z.K _) _);rw[k.kk];exact zb2 (hp rfl) (k.ck.calm cQ) (P0 ((dH it).E Γ Z _ X r _ k h2)) (Ai k.ck h5) (ib.L Γ Z X r _ k kx (λ_=>hp rfl) (λ_=>hr rfl) h3) (CY h7 _)) (λ_ _=>rfl) λ_ _ _ _ _ _ _ z=>z
 |yi b hs i n ib ih=>exact Wz.x (λΓ Z X r st k kx hp hr h=>WM ib ih k kx h) (λ_ _=>rfl) λ_ _ _ _ _ _ _ z=>z
 |hn c f h rest ih ir=>exact⟨λ_ _ _ _ _ _ _ _ _ h=>ff rfl h,λ_ _ _ _ _ _ _ _ _ h=>ff rfl h,w_hn ih ir⟩
section
variable {P:cf}{w:World}{K:W.Frag}{mg:Str->Option Value}{base:Heap}
theorem w_fn {Z:Wc}{st:Stmt}(Fu:Fun K x qual st f fd)(Sc:FnScope Γ.g.N ps (z07 st))(hs:Γ.g.sc=z07 st)(hxc:Γ.g.xc=none)(dk:Dok Γ.g Z.Κ Z.Φ P w K mg base k)(zk:∀E,Zok Γ {Z with E:=E} (CXE P w base) P w K mg base k)(hxf:Γ.xf=none)(kf:Γ.fld=[]\/∀X,X.prog=P->X.w=w->X.K=K->X.mg=mg->X.base=base->Wfk Γ X k)(hc:wkL Γ s (z0g st)=true)
  (len:∀vs H Q E,sp vs H Q E->vs.length=ps.length) (run:∀vs H Q E,sp vs H Q E->wS {Z with E:=E} s {nx:=λ_ H'=>Q .non H',rt:=Q} (start Γ.g.N vs) H):
  FnOk P w K mg base (CXE P w base) (k+1) f fd ps sp:=by
 obtain⟨oc,od,kV,doc,pm,an,dF,ct,pN,rfl,lk,hcd⟩:=Fu.ex;refine zkn lk hcd Sc len λA outer s1 H vs Q E hr eU=>⟨_,(WN s).L Γ {Z with E:=E} (iF (CXE P w base) P w K mg base Γ.g.N qual (z07 st) f dF A outer s1 H E) k _ ⟨zk E,⟨rfl,hs.symm,Sc.nd,λ_ _=>rfl,by rw[hs];exact Sc.kind,dk.free,dk.fns,dk.cst,dk.jB,λ_=>hr,λ_=>rfl,hr.units,λ_=>⟨rfl,rfl⟩,λ_=>rfl,λ_ _ z=>(by rw[hxc]at z;cases z),dk.xk⟩,λ_=>hr,λpins U H1 s2 e s' I zz=>?_,λf z=>by rw[hxf]at z;cases z⟩ (kf.elim (λe c fl z=>by rw[e]at z;cases z) λg=>g _ rfl rfl rfl rfl rfl) (λ_=>PassesOwn.leaving) (λ_ pins U H1 s2 a C ob vs I q1 q2 q3 q4 q5 q6 q7=>?_) hc,run vs H Q E eU⟩
 ·obtain⟨a,C,dd,H',rfl,fl,q⟩:=zz;exact fl.leave (outer:=[]) I rfl rfl rfl λs3 fl=>⟨a,C,dd,H',rfl,fl,q⟩
 ·obtain⟨H2,s4,I2,n2⟩:=q2;refine zdc I ?_ q1 q3 q4 q5 q6 rfl rfl rfl λs3 fl=>⟨a,C,ob.dict,H1,rfl,fl,q7⟩;cases e:(iF (CXE P w base) P w K mg base Γ.g.N qual (z07 st) f dF A outer s1 H E).s₀.heap.get? a with
  |none=>rfl
  |some o=>obtain⟨o',e'⟩:=I2.base.there a o e (by show a∉ [];simp);rw[n2]at e';cases e'
end
abbrev aJ:Ad->Prop:=λ_=>True
abbrev F0 (H:Hp):Fm:=⟨H,λ_=>True,λ_=>none,True⟩
section
variable {K:W.Frag}{H:Hp}
theorem Rep.old (r:Rep K H B v d):Rep K H (fP (F0 H)) v d:=(Rep.there _ r).weak λa h=>by
 cases a with
 |none=>exact trivial
 |some a=>exact⟨λz=>h.2 z,trivial⟩
theorem kQ (hl:U.length=Y.length)(h:∀(i:Nat) g (d:D),Y[i]?=some (some (g,d))->g=G.od/\∃v B,U[i]?=some (some v)/\Rep K H B v d):StOk K (F0 H) H U Y where
 ext:=Same.refl H
 aN:=λ_ _=>trivial
 own:=λa i e=>by cases e
 len:=hl
 sl:=λi g d e=>by obtain⟨rfl,v,B,e1,r⟩:=h i g d e;exact⟨v,e1,r.old⟩
def Dj:D->Bool
 |.str _=>true
 |_=>false
end
section
variable {Z:Wc}{H:Hp}{x dx:Addr}{es:lF}
theorem WO {x:V}{dx:D}(rx:Rep Z.K H B x dx)(ry:Rep Z.K H B' y (.dict es))(hk:tJ dx=true)(q:∀H',Same H H'->Q (.bl (gO es dx).isSome) H'):mQ Z.K (mB (cmpD .In)) x y H Q:=⟨B,B',dx,.dict es,.bool (gO es dx).isSome,rx,ry,by show((if tJ dx=true then Res.ok (gO es dx).isSome else Res.no)>>=λb=>Res.ok (PyData.bool b))=_;rw[vy hk];rfl,λw H' s r=>by cases r;exact q H' s⟩
theorem WQ (h:Y[i]?=some (some (.od,c))):aG Κ Φ (.eC (.var i) ["str"]) Y=.ok (.fr,.bool (Dj c)):=by show(vM Y[i]?>>=λx=>Res.ok (G.fr,PyData.bool (["str"].any λT=>jM (gU x.2) T)))=_;rw[h];cases c<;>rfl
theorem yj {C:Addr}(h:Z.me[j]?=some (C,m,sp)):wE Z (.eR o j as)=sY C m sp [] Z.E (wE Z o) (wA Z as):=by show(match Z.me[j]? with|some r=>sY r.1 r.2.1 r.2.2 [] Z.E (wE Z o) (wA Z as)|none=>eG)=_;rw[h]
end
namespace Rd
abbrev PL:W:=.rV (.raw 0) "place"
abbrev WD:W:=.rV (.raw 0) "words"
abbrev NB:W:=.rV (.raw 0) "number"
abbrev KD:W:=.rV (.raw 0) "kinds"
abbrev SD:W:=.rV (.raw 0) "said"
abbrev RN:WS:=.seq (.rY "NoRow" "row" NB) .nil
def init:WS:=.seq (.fld (.raw 0) "number" (.raw 1)) (.seq (.fld (.raw 0) "words" (.aW (.tK (.var 2) (.str " ")))) (.seq (.fld (.raw 0) "place" (.aW (.int 0))) (.seq (.fld (.raw 0) "kinds" (.raw 3)) (.seq (.fld (.raw 0) "said" (.lst .nil)) .nil))))
def peek:WS:=.seq (.ret (.AE (.tc .Lt PL (.len WD)) (.ix WD PL) (.aW (.str "")))) .nil
def take:WS:=.seq (.asg 1 (.eR (.raw 0) 0 .nil)) (.seq (.fld (.raw 0) "place" (.bin .Add PL (.aW (.int 1)))) (.seq (.ret (.raw 1)) .nil))
def takeWord:WS:=.seq (.bA (.tc .NotEq (.eR (.raw 0) 1 .nil) (.raw 1)) RN .nil) .nil
def iM:WS:=.seq (.asg 1 (.eR (.raw 0) 1 .nil)) (.seq (.bA (.not (.tp (.tv (.call 0 "is_name" (.cons (.var 1) .nil))))) RN .nil) (.seq (.ret (.raw 1)) .nil))
def takeEnd:WS:=.seq (.bA (.tc .Lt PL (.len WD)) RN .nil) .nil
end Rd
def eO (n:Int)(wl:Addr)(p:Nat)(kd sl:Addr):List (Str×V):=[("number",.int n),("words",.ref wl),("place",.int p),("kinds",.ref kd),("said",.ref sl)]
def okS (s:Str):Prop:=PyData.strOk s=true/\s.length<=LIM
structure Rw (K:W.Frag)(CR:Addr)(H:Hp)(x dx wl kd sl:Addr)(n:Int)(ws:List Str)(p:Nat):Prop where
 ins:H x=some (.ins CR dx (eO n wl p kd sl))
 wR:H wl=some (.lst (ws.map V.str))
 dX:∀s∈ws,okS s
structure RowK (K:W.Frag)(CR:Addr):Prop where
 cls:Cls K CR
 na:∀f∈(["number","words","place","kinds","said"]:List Str),z34 K CR f
section
variable {K:W.Frag}{H H':Hp}{CR x dx wl kd sl:Addr}{n:Int}{ws:List Str}{p:Nat}
theorem Rw.same (r:Rw K CR H x dx wl kd sl n ws p)(s:Same H H'):Rw K CR H' x dx wl kd sl n ws p:=⟨s _ _ r.ins,s _ _ r.wR,r.dX⟩
theorem Dk:∀{xs:List Str},(∀s∈xs,PyData.strOk s=true)->aD K H B (xs.map V.str) (xs.map PyData.str)
 | [],_=>rfl
 |s::xs,h=>⟨_,_,rfl,⟨rfl,h s ak⟩,Dk λt ht=>h t (ah _ ht)⟩
theorem Rw.AK (r:Rw K CR H x dx wl kd sl n ws p):Rep K H aJ (.ref wl) (.list (ws.map PyData.str)):=⟨wl,_,rfl,.inl ⟨r.wR,trivial⟩,Dk λs h=>(r.dX s h).1⟩
theorem Rw.move (r:Rw K CR H x dx wl kd sl n ws p)(k:∀b o,b≠x->H b=some o->H' b=some o)(e:H' x=some (.ins CR dx (eO n wl p' kd sl))):Rw K CR H' x dx wl kd sl n ws p':=⟨e,k _ _ (λz=>by have:=r.ins;rw[<-z,r.wR]at this;cases this) r.wR,r.dX⟩
end
section
variable {Z:Wc}{H:Hp}{U:L2.St}{CR x dx wl kd sl:Addr}{n:Int}{ws:List Str}{p:Nat}
theorem mW (rk:RowK Z.K CR)(r:Rw Z.K CR H x dx wl kd sl n ws p)(h0:U[0]?=some (some (.ref x)))(hf:f∈(["number","words","place","kinds","said"]:List Str))(hl:(eO n wl p kd sl).lookup f=some v)(q:Q v H):wE Z (.rV (.raw 0) f) U H Q:=⟨.ref x,h0,x,CR,dx,_,v,rfl,r.ins,rk.cls,rk.na f hf,hl,q⟩
theorem Nl (rk:RowK Z.K CR)(r:Rw Z.K CR H x dx wl kd sl n ws p)(h0:U[0]?=some (some (.ref x)))(q:∀H',Same H H'->Q (decide (p<ws.length)) H'):wT Z (.tc .Lt Rd.PL (.len Rd.WD)) U H Q:=by
 refine mW (Q:=λa H1=>(wE Z (.len Rd.WD)) U H1 λb H2=>mQ Z.K (mB (cmpD .Lt)) a b H2 _) rk r h0 (by decide) rfl (mW (Q:=λa H1=>z6z Z.K (gS "len") [a] H1 λb H2=>mQ Z.K (mB (cmpD .Lt)) (.int p) b H2 λx H'=>∃k,x=V.bl k/\Q k H') rk r h0 (by decide) rfl (⟨aJ,[.list (ws.map PyData.str)],.int ws.length,⟨_,_,rfl,r.AK,rfl⟩,by show Res.ok (PyData.int _)=_;simp,λw H1 s1 r1=>?_⟩));cases r1;refine⟨aJ,aJ,.int p,.int ws.length,.bool (decide (p<ws.length)),rfl,rfl,?_,λw H2 s2 r2=>?_⟩
 ·show Res.ok (PyData.bool _)=_;simp
 ·cases r2;exact⟨_,rfl,q H2 (s1.trans s2)⟩
theorem WR {xs:List Str}(h:p<xs.length):iG (.list (xs.map PyData.str)) (.int p)=.ok (.str (xs.getD p "")):=by
 show Res.eQ (cF (xs.map PyData.str) p)=_;have:cF (xs.map PyData.str) p=some (.str (xs.getD p "")):=by unfold cF lB;simp[h]
 rw[this];rfl
theorem fR {K:W.Frag}:StOk K (F0 H) H U (bq U.length none):=kQ (by rw[df]) λi g d' e=>by rw[cz]at e;split at e<;>cases e
def pk (ws:List Str)(p:Nat):Str:=ws.getD p ""
theorem dP (h:∀s∈ws,okS s):okS (pk ws p):=by
 unfold pk;by_cases e:p<ws.length
 ·rw[am,bn e];exact h _ (jz e)
 ·rw[am,ij (by omega)];exact⟨by decide+kernel,by decide+kernel⟩
def z15 (K:W.Frag)(CR:Addr):Sp:=λvs H Q _=>∃x dx wl kd sl n ws p,vs=[.ref x]/\Rw K CR H x dx wl kd sl n ws p/\∀H',Same H H'->Q (.str (pk ws p)) H'
theorem WT (rk:RowK Z.K CR)(r:Rw Z.K CR H x dx wl kd sl n ws p)(q:∀H',Same H H'->D0.rt (.str (pk ws p)) H'):wS Z Rd.peek D0 [some (.ref x)] H:=by
 refine Nl rk r rfl λH1 s1=>?_;by_cases e:p<ws.length
 ·rw[we e];refine aX ?_;show mI _ _ _ _ _ _;refine mW rk (r.same s1) rfl (by decide) rfl (mW rk (r.same s1) rfl (by decide) rfl ⟨aJ,aJ,_,.int p,.str (pk ws p),(r.same s1).AK,rfl,WR e,λw rw=>?_⟩);obtain⟨rfl,_⟩:=rw;exact q H1 s1
 ·rw[wg e];refine aV ⟨_,F0 H1,_,fR,rfl,λv H2 s2 r2=>?_⟩;have e2:pk ws p="":=by unfold pk;rw[am,ij (by omega)];rfl
  rw[e2]at q;obtain⟨rfl,_⟩:=r2;exact q H2 (s1.trans s2)
def z11 (K:W.Frag)(CR:Addr):Sp:=λvs H Q _=>∃x dx wl kd sl n ws p,vs=[.ref x]/\Rw K CR H x dx wl kd sl n ws p/\∀H',(∀b o,b≠x->H b=some o->H' b=some o)->H' x=some (.ins CR dx (eO n wl (p+1) kd sl))->Q (.str (pk ws p)) H'
theorem WU (rk:RowK Z.K CR)(hm:Z.me[0]?=some (CR,("peek":Str),z15 Z.K CR))(r:Rw Z.K CR H x dx wl kd sl n ws p)(q:∀H',(∀b o,b≠x->H b=some o->H' b=some o)->H' x=some (.ins CR dx (eO n wl (p+1) kd sl))->D0.rt (.str (pk ws p)) H'):wS Z Rd.take D0 [some (.ref x),none] H:=by show wE Z (.eR _ 0 _) _ _ _;rw[yj hm];refine⟨.ref x,rfl,x,dx,_,rfl,r.ins,rfl,x,dx,wl,kd,sl,n,ws,p,rfl,r,λH1 s1=>?_⟩;have r1:=r.same s1;refine mW (Q:=λa H2=>(wE Z (.aW (.int 1))) _ H2 λb H3=>rC Z.K (cH .Add) a b H3 _) rk r1 rfl (by decide) rfl ⟨_,F0 H1,_,fR,rfl,λv H2 s2 e2=>?_⟩;cases e2;refine⟨aJ,aJ,.int p,.int 1,.int (p+1),rfl,rfl,rfl,λw H3 s3 e3 _=>?_⟩;cases e3;refine⟨.ref x,rfl,x,CR,dx,_,rfl,((r1.same s2).same s3).ins,rk.cls,rk.na _ (by decide),(show 5<1000 by decide),?_⟩;refine⟨.str (pk ws p),rfl,q _ (λb o hb e=>by rw[aK hb];exact s3 b o (s2 b o (s1 b o e))) ?_⟩;rw[bC];rfl
def sD (mg:Str->Option Value)(c fl:Str)(y:V)(x:Addr)(H:Hp)(E:XK):Prop:=∀C H' dp,mg c=some (.ref C)->H dp=none->H' dp=some (.xd [(fl,y)])->(∀b o,b≠x->H b=some o->H' b=some o)->E (.ref C) (some dp) H'
theorem Dl (rk:RowK Z.K CR)(r:Rw Z.K CR H1 x dx wl kd sl n ws p)(h0:U[0]?=some (some (.ref x)))(k:∀b o,b≠x->H b=some o->H1 b=some o)(ex:sD Z.mg "NoRow" "row" (.int n) x H Z.E):wS Z Rd.RN D0 U H1:=by
 intro C hC;refine mW rk r h0 (by decide) rfl λdp hd=>?_
 have h0:H dp=none:=by
  cases e:H dp with
  |none=>rfl
  |some o=>rw[k dp o (by rintro rfl;rw[r.ins]at hd;cases hd) e]at hd;cases hd
 exact ex C _ dp hC h0 bC λb o hb e=>by rw[aK (by rintro rfl;rw[h0]at e;cases e)];exact k b o hb e
theorem HN (hm:Z.me[1]?=some (CR,("take":Str),z11 Z.K CR))(r:Rw Z.K CR H x dx wl kd sl n ws p)(h0:U[0]?=some (some (.ref x)))(q:∀H',(∀b o,b≠x->H b=some o->H' b=some o)->H' x=some (.ins CR dx (eO n wl (p+1) kd sl))->Q (.str (pk ws p)) H'):wE Z (.eR (.raw 0) 1 .nil) U H Q:=by rw[yj hm];exact⟨.ref x,h0,x,dx,_,rfl,r.ins,rfl,x,dx,wl,kd,sl,n,ws,p,rfl,r,q⟩
theorem pE (a b:Str):eqD (.str a) (.str b)=decide (a=b):=by
 show(a==b)=_;by_cases h:a=b
 ·subst h;simp
 ·rw[wg h];simpa using h
def spTW (K:W.Frag)(CR:Addr)(mg:Str->Option Value):Sp:=λvs H Q E=>∃x dx wl kd sl n ws p w,vs=[.ref x,.str w]/\Rw K CR H x dx wl kd sl n ws p/\PyData.strOk w=true/\if pk ws p=w then ∀H',(∀b o,b≠x->H b=some o->H' b=some o)->H' x=some (.ins CR dx (eO n wl (p+1) kd sl))->Q .non H' else sD mg "NoRow" "row" (.int n) x H E
theorem zp9 (rk:RowK Z.K CR)(hm:Z.me[1]?=some (CR,("take":Str),z11 Z.K CR))(r:Rw Z.K CR H x dx wl kd sl n ws p)(hw:PyData.strOk w=true)
  (q:if pk ws p=w then ∀H',(∀b o,b≠x->H b=some o->H' b=some o)->H' x=some (.ins CR dx (eO n wl (p+1) kd sl))->D0.nx [some (.ref x),some (.str w)] H' else sD Z.mg "NoRow" "row" (.int n) x H Z.E):wS Z Rd.takeWord D0 [some (.ref x),some (.str w)] H:=by
 refine HN hm r rfl λH1 k1 e1=>⟨.str w,rfl,aJ,aJ,.str (pk ws p),.str w,.bool (!decide (pk ws p=w)),⟨rfl,(dP r.dX).1⟩,⟨rfl,hw⟩,?_,λv H2 s2 r2=>?_⟩
 ·show(Res.ok (!eqD (.str (pk ws p)) (.str w))>>=λb=>Res.ok (PyData.bool b))=_;rw[pE];rfl
 cases r2;refine⟨_,rfl,?_⟩;have r2:=(r.move k1 e1).same s2;by_cases e:pk ws p=w
 ·rw[vy e]at q;rw[we e];exact aV (q H2 (λb o hb z=>s2 b o (k1 b o hb z)) r2.ins)
 ·rw[vz e]at q;rw[wg e];refine aX (Dl rk r2 rfl (λb o hb z=>s2 b o (k1 b o hb z)) q)
def NmOk (Z:Wc)(j:Nat)(nb:Str->Bool):Prop:=∃m,Z.Φ[j]?=some m/\∀s,okS s->m [.str s]=.ok (.fr,.bool (nb s))
def spTN (K:W.Frag)(CR:Addr)(mg:Str->Option Value)(nb:Str->Bool):Sp:=λvs H Q E=>∃x dx wl kd sl n ws p,vs=[.ref x]/\Rw K CR H x dx wl kd sl n ws p/\if nb (pk ws p)=true then ∀H',(∀b o,b≠x->H b=some o->H' b=some o)->H' x=some (.ins CR dx (eO n wl (p+1) kd sl))->Q (.str (pk ws p)) H' else sD mg "NoRow" "row" (.int n) x H E
theorem zmj (rk:RowK Z.K CR)(hm:Z.me[1]?=some (CR,("take":Str),z11 Z.K CR))(hn:NmOk Z 0 nb)(r:Rw Z.K CR H x dx wl kd sl n ws p)
  (q:if nb (pk ws p)=true then ∀H',(∀b o,b≠x->H b=some o->H' b=some o)->H' x=some (.ins CR dx (eO n wl (p+1) kd sl))->D0.rt (.str (pk ws p)) H' else sD Z.mg "NoRow" "row" (.int n) x H Z.E):wS Z Rd.iM D0 [some (.ref x),none] H:=by
 refine HN hm r rfl λH1 k1 e1=>?_;have ok:=dP (p:=p) r.dX;obtain⟨m,hm2,hn⟩:=hn;refine⟨[none,some (.od,.str (pk ws p))],F0 H1,nb (pk ws p),kQ rfl λi g d' e=>?_,?_,λH2 s2=>?_⟩
 ·rcases i with _|_|i<;>cases e;exact⟨rfl,_,aJ,rfl,rfl,ok.1⟩
 ·show(((match Z.Φ[0]? with|some m=>m [.str (pk ws p)]>>=λr=>Res.ok (gJ r.2 (iY r.1),r.2)|none=>.no):Res GD)>>=λx=>fX x.2)=_;rw[hm2];show((m [.str (pk ws p)]>>=λr=>Res.ok (gJ r.2 (iY r.1),r.2))>>=λx=>fX x.2)=_;rw[hn _ ok];rfl
 have r2:=(r.move k1 e1).same s2;cases hb:nb (pk ws p)with
 |true=>rw[vy hb]at q;exact aV ⟨.str (pk ws p),rfl,q H2 (λb o hb z=>s2 b o (k1 b o hb z)) r2.ins⟩
 |false=>rw[vz (by rw[hb];decide)]at q;exact aX (Dl rk r2 rfl (λb o hb z=>s2 b o (k1 b o hb z)) q)
def AL (K:W.Frag)(CR:Addr)(mg:Str->Option Value):Sp:=λvs H Q E=>∃x dx wl kd sl n ws p,vs=[.ref x]/\Rw K CR H x dx wl kd sl n ws p/\if p<ws.length then sD mg "NoRow" "row" (.int n) x H E else ∀H',Same H H'->Q .non H'
theorem WV (rk:RowK Z.K CR)(r:Rw Z.K CR H x dx wl kd sl n ws p)(q:if p<ws.length then sD Z.mg "NoRow" "row" (.int n) x H Z.E else ∀H',Same H H'->D0.nx [some (.ref x)] H'):wS Z Rd.takeEnd D0 [some (.ref x)] H:=by
 refine Nl rk r rfl λH1 s1=>?_;by_cases e:p<ws.length
 ·rw[vy e]at q;rw[we e];exact aX (Dl rk (r.same s1) rfl (λb o _ z=>s1 b o z) q)
 ·rw[vz e]at q;rw[wg e];exact aV (q H1 s1)
theorem Nm:∀xs,∀l∈aT c xs,l.length<=xs.length
 | [],l,h=>by rw[av.mp h];exact ag _
 |a::r,l,h=>by
  have ih:=Nm (c:=c) r;unfold aT at h;by_cases e:a=c
  ·rw[vy e]at h;rcases ao.mp h with rfl|h
   ·exact dv _
   ·exact b8 (ih l h) (ip _)
  ·rw[vz e]at h;cases hs:aT c r with
   |nil=>rw[hs]at h;rw[av.mp h];exact j6 (dv _)
   |cons q t=>
    rw[hs]at h ih;rcases ao.mp h with rfl|h
    ·exact j6 (ih q ak)
    ·exact b8 (ih l (ah _ h)) (ip _)
def spW (c:Nat)(t:Str):List Str:=(aT c t.cps.toList).map toS
theorem HP:∀s∈spW c t,s.length<=t.length:=λs h=>by obtain⟨l,hl,rfl⟩:=dh.mp h;exact Nm _ l hl
theorem Nn {K:W.Frag}:∀{xs:List Str} {vs:List V},aD K H B vs (xs.map PyData.str)->vs=xs.map V.str/\∀s∈xs,PyData.strOk s=true
 | [],vs,r=>⟨r,λ_ h=>nomatch h⟩
 |s::xs,vs,r=>by obtain⟨v,t,rfl,⟨rfl,ok⟩,r⟩:=r;obtain⟨rfl,h⟩:=Nn r;exact⟨rfl,λu hu=>(ao.mp hu).elim (λe=>e▸ok) (h u)⟩
theorem WW (hc:c=⟨#[a]⟩)(hi:U[i]?=some (some (.str t)))(ok:okS t)(q:∀H' l,Same H H'->H l=none->H' l=some (.lst ((spW a t).map V.str))->(∀s∈spW a t,okS s)->Q (.ref l) H'):wE Z (.aW (.tK (.var i) (.str c))) U H Q:=by
 subst hc;have cM:=(bv.mp hi).1;refine⟨(bq U.length none).set i (some (.od,.str t)),F0 H,(.fr,.list ((spW a t).map PyData.str)),kQ (by simp) λj g d e=>?_,?_,λv H1 s1 r1=>?_⟩
 ·by_cases h:i=j
  ·subst h;rw[di (by simpa using cM)]at e;cases e;exact⟨rfl,_,aJ,hi,rfl,ok.1⟩
  ·rw[cr h,cz]at e;split at e<;>cases e
 ·show((vM _>>=λx=>Res.ok (G.fr,PyData.str ⟨#[a]⟩)>>=λy=>gR x.2 y.2>>=λd=>Res.ok (G.fr,d)):Res GD)=_;rw[di (by simpa using cM)];show(gR (.str t) (.str ⟨#[a]⟩)>>=λd=>Res.ok (G.fr,d))=_;have:gR (.str t) (.str ⟨#[a]⟩)=.ok (.list ((spW a t).map PyData.str)):=by show(if decide (t.length<=LIM)=true then Res.ok (PyData.list ((aT a t.cps.toList).map λl=>PyData.str (toS l)))else .no)=_;rw[vy (we ok.2)];unfold spW;rw[gq];rfl
  rw[this];rfl
 ·obtain⟨l,vs,rfl,hl,rs⟩:=r1;obtain⟨rfl,oks⟩:=Nn rs;rcases hl with⟨hl,hn⟩|⟨_,hn⟩
  ·exact q H1 l s1 hn hl λs h=>⟨oks s h,b8 (HP s h) ok.2⟩
  ·exact hn.elim
def spRI (K:W.Frag)(CR:Addr):Sp:=λvs H Q _=>∃x dx kd n t,vs=[.ref x,.int n,.str t,.ref kd]/\H x=some (.ins CR dx [])/\okS t/\∀H' wl sl,(∀b o,b≠x->H b=some o->H' b=some o)->Rw K CR H' x dx wl kd sl n (spW 32 t) 0->H' sl=some (.lst [])->H sl=none->wl≠sl->Q .non H'
theorem znb (rk:RowK Z.K CR)(hx:H x=some (.ins CR dx []))(ok:okS t)(q:∀H' wl sl,(∀b o,b≠x->H b=some o->H' b=some o)->Rw Z.K CR H' x dx wl kd sl n (spW 32 t) 0->H' sl=some (.lst [])->H sl=none->wl≠sl->D0.nx [some (.ref x),some (.int n),some (.str t),some (.ref kd)] H'):
  wS Z Rd.init D0 [some (.ref x),some (.int n),some (.str t),some (.ref kd)] H:=by
 refine⟨.int n,rfl,.ref x,rfl,x,CR,dx,_,rfl,hx,rk.cls,rk.na _ (by decide),by decide,?_⟩;refine WW (a:=32) (by decide+kernel) rfl ok λH2 wl s2 hn2 hw dX=>?_;have wU:wl≠x:=by rintro rfl;rw[bC]at hn2;cases hn2
 refine⟨.ref x,rfl,x,CR,dx,_,rfl,s2 _ _ bC,rk.cls,rk.na _ (by decide),(show 1<1000 by decide),?_⟩;refine⟨_,F0 _,_,fR,rfl,λv H4 s4 r4=>?_⟩;cases r4;refine⟨.ref x,rfl,x,CR,dx,_,rfl,s4 _ _ bC,rk.cls,rk.na _ (by decide),(show 2<1000 by decide),?_⟩;refine⟨.ref kd,rfl,.ref x,rfl,x,CR,dx,_,rfl,bC,rk.cls,rk.na _ (by decide),(show 3<1000 by decide),?_⟩;refine⟨dv _,λsl lQ=>?_⟩;have yk:sl≠x:=by rintro rfl;rw[bC]at lQ;cases lQ
 refine⟨.ref x,rfl,x,CR,dx,[("number",.int n),("words",.ref wl),("place",.int 0),("kinds",.ref kd)],rfl,(aK (Ne.symm yk)).trans bC,rk.cls,rk.na _ (by decide),(show 4<1000 by decide),?_⟩
 have Dm:wl≠sl:=by
  rintro rfl
  rw[aK wU,aK wU]at lQ;rw[s4 _ _ (by rw[aK wU];exact hw)]at lQ;cases lQ
 have Dp:H sl=none:=by
  cases e:H sl with
  |none=>rfl
  |some o=>have e4:=s4 sl o (by rw[aK yk];exact s2 sl o (by rw[aK yk];exact e));rw[aK yk,aK yk,e4]at lQ;cases lQ
 refine q _ wl sl (λb o hb e=>?_) ⟨?_,?_,dX⟩ ?_ Dp Dm
 ·have e4:H4 b=some o:=s4 b o (by rw[aK hb];exact s2 b o (by rw[aK hb];exact e))
  have nb:b≠sl:=by
   rintro rfl
   rw[aK hb,aK hb,e4]at lQ;cases lQ
  rw[aK hb,aK nb,aK hb,aK hb];exact e4
 ·rw[bC];rfl
 ·rw[aK wU,aK Dm,aK wU,aK wU];exact s4 _ _ (by rw[aK wU];exact hw)
 ·rw[aK yk,bC]
end
namespace Rd
abbrev TK:W:=.eR (.raw 0) 1 .nil
abbrev TN:W:=.eR (.raw 0) 3 .nil
def eZ:WS:=.seq (.bA (.tc .In (.raw 1) KD) (.seq (.rY "Twice" "name" (.raw 1)) .nil) .nil) (.seq (.pD (.tp [2,3]) SD (.seq (.bA (.tc .NotIn (.get KD (.raw 2)) (.raw 3)) (.seq (.rY "Unknown" "name" (.raw 2)) .nil) .nil) .nil)) .nil)
def readRow:WS:=.seq (.asg 1 TK)
 (.seq (.bA (.tc .Eq (.raw 1) (.aW (.str "fact"))) (.seq (.asg 2 (.tup (.cons (.aW (.str "fact")) (.cons TN .nil)))) .nil)
  (.seq (.bA (.tc .Eq (.raw 1) (.aW (.str "open"))) (.seq (.asg 2 (.bW 0 (.cons (.raw 0) .nil))) .nil)
   (.seq (.bA (.tc .Eq (.raw 1) (.aW (.str "word"))) (.seq (.asg 2 (.tup (.cons (.aW (.str "word")) (.cons (.bW 1 (.cons (.raw 0) .nil)) (.cons (.bW 2 (.cons (.raw 0) (.cons (.gi 2) .nil))) .nil))))) .nil)
    (.seq (.bA (.tc .Eq (.raw 1) (.aW (.str "claim"))) (.seq (.asg 2 (.tup (.cons (.aW (.str "claim")) (.cons (.bW 1 (.cons (.raw 0) .nil)) (.cons (.bW 3 (.cons (.raw 0) (.cons (.gi 2) .nil))) .nil))))) .nil) RN) .nil)) .nil)) .nil))
 (.seq (.exp (.eR (.raw 0) 4 .nil)) (.seq (.ret (.raw 2)) .nil)))
def iN:WS:=.seq (.asg 1 TN) (.seq (.exp (.eR (.raw 0) 2 (.cons (.aW (.str "if")) .nil))) (.seq (.ret (.raw 1)) .nil))
def readOpen:WS:=.seq (.bA (.tc .Eq (.cnt (.lv KD) (.aW (.str "open"))) (.gi 1)) RN .nil)
 (.seq (.asg 1 TN) (.seq (.exp (.eR (.raw 0) 2 (.cons (.aW (.str "for")) .nil))) (.seq (.asg 2 (.bW 0 (.cons (.raw 0) .nil))) (.seq (.exp (.eR (.raw 0) 2 (.cons (.aW (.str "against")) .nil)))
 (.seq (.ret (.tup (.cons (.aW (.str "open")) (.cons (.raw 1) (.cons (.raw 2) (.cons (.bW 0 (.cons (.raw 0) .nil)) .nil)))))) .nil)))))
def readBody:WS:=.seq (.bA (.tc .Eq (.raw 3) (.gi 0)) (.seq (.rY "NoRow" "row" (.raw 3)) .nil) .nil)
 (.seq (.asg 5 (.mk 0 (.cons (.raw 3) (.cons (.raw 4) (.cons (.raw 2) .nil)))))
 (.seq (.asg 6 (.bW 0 (.cons (.raw 5) .nil)))
 (.seq (.exp (.bW 1 (.cons (.raw 5) (.cons (.ix (.raw 6) (.aW (.int 1))) .nil))))
 (.seq (.put (.raw 2) (.ix (.raw 6) (.aW (.int 1))) (.ix (.raw 6) (.aW (.int 0))))
 (.seq (.app (.raw 1) (.raw 6)) .nil)))))
def readAct:WS:=.seq (.bA (.not (.tp (.tv (.eC (.var 0) ["str"])))) (.seq (.rY "NoRow" "row" (.aW (.int 0))) .nil) .nil) (.seq (.asg 1 (.lst .nil)) (.seq (.asg 2 .gP) (.seq (.bP (.tp [3,4]) (.enum (.tK (.var 0) (.str "\n"))) readBody) (.seq (.ret (.raw 1)) .nil))))
end Rd
theorem WX (a b:Str):eqK (.str a) (.str b)=decide (a=b):=by
 show(a==b)=_;by_cases h:a=b
 ·subst h;simp
 ·rw[wg h];simpa using h
section
variable {Z:Wc}{H:Hp}{U:L2.St}{CR x dx wl kd sl:Addr}{n:Int}{ws:List Str}{p:Nat}{nb:Str->Bool}
theorem zol (hm:Z.me[3]?=some (CR,("take_name":Str),spTN Z.K CR Z.mg nb))(r:Rw Z.K CR H x dx wl kd sl n ws p)(h0:U[0]?=some (some (.ref x)))
  (q:if nb (pk ws p)=true then ∀H',(∀b o,b≠x->H b=some o->H' b=some o)->H' x=some (.ins CR dx (eO n wl (p+1) kd sl))->Q (.str (pk ws p)) H' else sD Z.mg "NoRow" "row" (.int n) x H Z.E):wE Z Rd.TN U H Q:=by
 rw[yj hm];exact⟨.ref x,h0,x,dx,_,rfl,r.ins,rfl,x,dx,wl,kd,sl,n,ws,p,rfl,r,q⟩
theorem lV (h:Z.fn[j]?=some sp):wE Z (.bW j as)=kG sp [] Z.E (wA Z as):=by show(match Z.fn[j]? with|some sp=>kG sp [] Z.E (wA Z as)|none=>eG)=_;rw[h]
theorem AM (hi:U[i]?=some (some (.str a)))(HQ:PyData.strOk a=true)(q:∀H',Same H H'->Q (decide (a=b)) H'):wT Z (.tc .Eq (.raw i) (.aW (.str b))) U H Q:=by
 refine⟨.str a,hi,_,F0 H,_,fR,rfl,λv H1 s1 r1=>?_⟩;refine⟨aJ,_,.str a,.str b,.bool (decide (a=b)),⟨rfl,HQ⟩,r1,?_,λw H2 s2 r2=>?_⟩
 ·show(Res.ok (eqD (.str a) (.str b))>>=λb=>Res.ok (PyData.bool b))=_;rw[pE];rfl
 ·cases r2;exact⟨_,rfl,q H2 (s1.trans s2)⟩
end
def lW (mg:Str->Option Value)(c fl:Str)(y:V)(H:Hp)(E:XK):Prop:=∀C H' dp,mg c=some (.ref C)->H dp=none->H' dp=some (.xd [(fl,y)])->Same H H'->E (.ref C) (some dp) H'
theorem Nq:∀xs (k i:Nat),(z0o k xs)[i]?=(xs[i]?).map λx=>.tuple [.int ((k+i:Nat):Int),x]
 | [],_,i=>by simp[z0o]
 |x::xs,k,0=>by simp[z0o]
 |x::xs,k,i+1=>by
  unfold z0o;rw[j5,Nq xs (k+1) i,j5]
  congr 2
  funext y
  have:k+1+i=k+(i+1):=by omega
  rw[this]
theorem Nr:∀xs k,(z0o k xs).length=xs.length
 | [],_=>rfl
 |_::xs,k=>by unfold z0o;rw[ay,ay,Nr xs]
section
variable {Z:Wc}{H:Hp}
theorem WY {C:Addr}(h:Z.cl[j]?=some (C,sp)):wE Z (.mk j as)=xO C sp [] Z.E (wA Z as):=by show(match Z.cl[j]? with|some r=>xO r.1 r.2 [] Z.E (wA Z as)|none=>eG)=_;rw[h]
theorem Dq (a b:Int):eqD (.int a) (.int b)=decide (a=b):=by
 show(a==b)=_;by_cases h:a=b
 ·subst h;simp
 ·rw[wg h];simpa using h
theorem Nt {C:Addr}(ex:lW Z.mg c fl y H Z.E)(s:Same H H1)(hC:Z.mg c=some (.ref C))(hd:H1 dp=none):Z.E (.ref C) (some dp) (upd H1 dp (.xd [(fl,y)])):=ex C _ dp hC (s.none hd) bC (s.trans (Same.upd hd))
theorem WZ (h:l.length=7):∃a b c d e f g,l=[a,b,c,d,e,f,g]:=by rcases l with _|⟨a,_|⟨b,_|⟨c,_|⟨d,_|⟨e,_|⟨f,_|⟨g,_|⟨i,l⟩⟩⟩⟩⟩⟩⟩⟩<;>first|exact⟨_,_,_,_,_,_,_,rfl⟩|(simp at h;done)|(simp at h;omega)
theorem W0 (ok:okS t)(hl:(spW 10 t).length<=1000)(h0:Y[0]?=some (some (.od,.str t))):evW Z.Κ Z.Φ (.enum (.tK (.var 0) (.str "\n"))) Y=.ok (.al,z0o 0 ((spW 10 t).map PyData.str)):=by
 show(((vM Y[0]?>>=λx=>Res.ok (G.fr,PyData.str "\n")>>=λy=>gR x.2 y.2>>=λd=>Res.ok (G.fr,d)):Res GD)>>=λx=>seqR x.2>>=λxs=>Res.ok (G.al,z0o 0 xs))=_;rw[h0];show((gR (.str t) (.str "\n")>>=λd=>Res.ok (G.fr,d))>>=λx=>seqR x.2>>=λxs=>Res.ok (G.al,z0o 0 xs))=_;have:gR (.str t) (.str "\n")=.ok (.list ((spW 10 t).map PyData.str)):=by show(if decide (t.length<=LIM)=true then Res.ok (PyData.list ((aT 10 t.cps.toList).map λl=>PyData.str (toS l)))else .no)=_;rw[vy (we ok.2)];unfold spW;rw[gq];rfl
 rw[this];show(seqR (.list ((spW 10 t).map PyData.str))>>=λxs=>Res.ok (G.al,z0o 0 xs))=_;have:seqR (.list ((spW 10 t).map PyData.str))=.ok ((spW 10 t).map PyData.str):=by show(if decide (((spW 10 t).map PyData.str).length<=LIM)=true then _ else _)=_;rw[vy (we (by rw[aq];unfold LIM;omega))]
 rw[this];rfl
end
namespace Rd
abbrev PE:W:=.eR (.raw 0) 0 .nil
abbrev OF:W:=.aW (.glob 0 "OF_A_THING")
abbrev RM:W:=.bin .Sub (.raw 1) (.aW (.int 1))
def W2:WS:=.seq (.asg 2 TK) (.seq (.bA (.tc .In (.raw 2) (.raw 1)) RN .nil) (.seq (.app (.raw 1) (.raw 2)) (.seq (.app SD (.tup (.cons (.raw 2) (.cons OF .nil)))) .nil)))
def readNames:WS:=.seq (.asg 1 (.lst .nil)) (.seq (.AJ (.AF (.bW 0 (.cons PE .nil))) W2) (.seq (.ret (.aW (.lG "tuple" (.tv (.var 1))))) .nil))
def kR:WS:=.seq (.asg 2 TN)
 (.seq (.bA (.tc .Eq PE (.aW (.str ">="))) (.seq (.ret (.tup (.cons (.aW (.str "at")) (.cons (.raw 2) (.cons (.bW 2 (.cons (.raw 0) (.cons (.raw 2) .nil))) .nil))))) .nil) .nil)
 (.seq (.app SD (.tup (.cons (.raw 2) (.cons OF .nil))))
 (.seq (.ret (.AE (.tc .Eq (.get KD (.raw 2)) (.aW (.str "fact"))) (.tup (.cons (.aW (.str "at")) (.cons (.raw 2) (.cons (.aW (.int 1)) .nil)))) (.tup (.cons (.aW (.str "is")) (.cons (.raw 2) .nil))))) .nil)))
def fA:WS:=.seq (.bA (.tc .Lt (.raw 1) (.aW (.int 1))) RN .nil)
 (.seq (.bA (.tc .Eq PE (.aW (.str "not"))) (.seq (.exp TK) (.seq (.ret (.tup (.cons (.aW (.str "not")) (.cons (.bW 0 (.cons (.raw 0) (.cons RM .nil))) .nil)))) .nil)) .nil)
 (.seq (.bA (.tc .Eq PE (.aW (.str "("))) (.seq (.ret (.bW 1 (.cons (.raw 0) (.cons (.gf 0) (.cons RM .nil))))) .nil) .nil) kR))
def fB:WS:=.seq (.bA (.tc .Lt (.raw 1) (.aW (.int 1))) RN .nil)
 (.seq (.bA (.tc .Eq PE (.aW (.str "("))) (.seq (.ret (.bW 1 (.cons (.raw 0) (.cons (.gf 0) (.cons RM .nil))))) .nil) .nil)
 (.seq (.asg 2 TK)
 (.seq (.bA (.tc .Eq (.raw 2) (.aW (.str "not"))) (.seq (.ret (.tup (.cons (.aW (.str "not")) (.cons (.bW 0 (.cons (.raw 0) (.cons RM .nil))) .nil)))) .nil) .nil)
 (.seq (.bA (.tc .NotIn (.raw 2) (.aW (.tup (.cons (.str "some") (.cons (.str "all") .nil))))) RN .nil)
 (.seq (.ret (.tup (.cons (.raw 2) (.cons (.bW 2 (.cons (.raw 0) (.cons RM .nil))) .nil)))) .nil)))))
def fC:WS:=.seq (.exp (.eR (.raw 0) 2 (.cons (.aW (.str "(")) .nil)))
 (.seq (.asg 3 (.uA 1 0 (.cons (.raw 0) (.cons (.raw 2) .nil))))
 (.seq (.asg 4 TK)
 (.seq (.bA (.tc .NotIn (.raw 4) (.aW (.tup (.cons (.str "and") (.cons (.str "or") .nil))))) RN .nil)
 (.seq (.asg 5 (.uA 1 0 (.cons (.raw 0) (.cons (.raw 2) .nil))))
 (.seq (.exp (.eR (.raw 0) 2 (.cons (.aW (.str ")")) .nil)))
 (.seq (.ret (.tup (.cons (.raw 4) (.cons (.raw 3) (.cons (.raw 5) .nil))))) .nil))))))
def readBound:WS:=.seq (.exp (.eR (.raw 0) 2 (.cons (.aW (.str ">=")) .nil)))
 (.seq (.asg 2 (.bW 0 (.cons TK .nil)))
 (.seq (.bA (.tp (.or (.tv (.jK false (.var 2))) (.not (.tv (.chain .LtE .LtE (.int 1) (.var 2) (.bin .Pow (.int 10) (.int 30))))))) RN .nil)
 (.seq (.app SD (.tup (.cons (.raw 1) (.cons (.aW (.tup (.cons (.str "fact") .nil))) .nil))))
 (.seq (.ret (.raw 2)) .nil))))
end Rd
def hG (ks:List (Str×Str)):List (Key×V):=ks.map λy=>(.inr y.1,V.str y.2)
def Dr (ks:List (Str×Str)):lF:=ks.map λy=>(PyData.str y.1,PyData.str y.2)
theorem Nu {K:W.Frag}:∀{ks:List (Str×Str)},(∀y∈ks,PyData.strOk y.1=true/\PyData.strOk y.2=true)->cO K H B (hG ks) (Dr ks)
 | [],_=>rfl
 |y::ks,h=>⟨.inr y.1,.str y.2,hG ks,rfl,rfl,(h y ak).1,⟨rfl,(h y ak).2⟩,Nu λt ht=>h t (ah _ ht)⟩
def Fr (x sl:Addr)(H H':Hp):Prop:=∀b o,b≠x->b≠sl->H b=some o->H' b=some o
theorem Fr.of_same (s:Same H H'):Fr x sl H H':=λb o _ _ e=>s b o e
theorem Fr.trans (f:Fr x sl H H1)(g:Fr x sl H1 H2):Fr x sl H H2:=λb o h1 h2 e=>g b o h1 h2 (f b o h1 h2 e)
theorem Fr.fS (k:∀b o,b≠x->H b=some o->H' b=some o):Fr x sl H H':=λb o h _ e=>k b o h e
def AN (d:D):Prop:=∃(nm:Str) (ts:List Str),d=.tuple [.str nm,.tuple (ts.map PyData.str)]
structure Rg (K:W.Frag)(CR:Addr)(H:Hp)(x dx wl kd sl:Addr)(n:Int)(ws:List Str)(ks:List (Str×Str))(p:Nat)(sd:List D):Prop where
 rw:Rw K CR H x dx wl kd sl n ws p
 kk:H kd=some (.dK (hG ks))
 mX:∀y∈ks,PyData.strOk y.1=true/\PyData.strOk y.2=true
 sq:∃vs,H sl=some (.lst vs)/\aD K H aJ vs sd
 im:imms sd=true
 wf:∀d∈sd,AN d
 ne:wl≠sl
 len:sd.length<=p
 lX:ws.length<=LIM
section
variable {K:W.Frag}{H H':Hp}{CR x dx wl kd sl:Addr}{n:Int}{ws:List Str}{ks:List (Str×Str)}{p:Nat}{sd:List D}
theorem Rg.same (r:Rg K CR H x dx wl kd sl n ws ks p sd)(s:Same H H'):Rg K CR H' x dx wl kd sl n ws ks p sd:=by obtain⟨vs,h1,h2⟩:=r.sq;exact⟨r.rw.same s,s _ _ r.kk,r.mX,⟨vs,s _ _ h1,h2.same s λ_ h=>h⟩,r.im,r.wf,r.ne,r.len,r.lX⟩
theorem Rg.nx (r:Rg K CR H x dx wl kd sl n ws ks p sd):kd≠x/\sl≠x/\kd≠sl:=by
 obtain⟨vs,h1,_⟩:=r.sq;refine⟨?_,?_,?_⟩
 ·rintro rfl;have:=r.rw.ins;rw[r.kk]at this;cases this
 ·rintro rfl;have:=r.rw.ins;rw[h1]at this;cases this
 ·rintro rfl;have:=r.kk;rw[h1]at this;cases this
theorem Rg.move (r:Rg K CR H x dx wl kd sl n ws ks p sd)(k:∀b o,b≠x->H b=some o->H' b=some o)(e:H' x=some (.ins CR dx (eO n wl p' kd sl)))(hp:p<=p'):Rg K CR H' x dx wl kd sl n ws ks p' sd:=by obtain⟨vs,h1,h2⟩:=r.sq;obtain⟨n1,n2,_⟩:=r.nx;exact⟨r.rw.move k e,k _ _ n1 r.kk,r.mX,⟨vs,k _ _ n2 h1,aD.cP (λa o e2 fx=>k a o (by rintro rfl;rw[r.rw.ins]at e2;cases e2;exact fx.elim) e2) _ r.im h2⟩,r.im,r.wf,r.ne,b8 r.len hp,r.lX⟩
theorem Rg.say (r:Rg K CR H x dx wl kd sl n ws ks p sd)(h1:H sl=some (.lst vs))(h2:aD K H aJ vs sd)(hv:Rep K H aJ v d)(him:imm d=true)(hw:AN d)(hl:sd.length<p):Rg K CR (upd H sl (.lst (vs++[v]))) x dx wl kd sl n ws ks p (sd++[d]):=by
 obtain⟨n1,n2,n3⟩:=r.nx;have fx:∀a o,H a=some o->Fix o->upd H sl (.lst (vs++[v])) a=some o:=λa o e fx=>by rw[aK (by rintro rfl;rw[h1]at e;cases e;exact fx.elim)];exact e
 have AO:∀a b,imms a=true->imms b=true->imms (a++b)=true:=λa b ha hb=>by
  induction a with
  |nil=>exact hb
  |cons y a ih=>obtain⟨e1,e2⟩:=aE ha;show(imm y&&imms (a++b))=true;rw[e1,ih e2];rfl
 refine⟨⟨?_,?_,r.rw.dX⟩,?_,r.mX,⟨vs++[v],bC,?_⟩,AO sd [d] r.im (by show(imm d&&true)=true;rw[him];rfl),(λe he=>(bo.mp he).elim (r.wf e) λh=>av.mp h▸hw),r.ne,by rw[ax];exact hl,r.lX⟩
 ·rw[aK (Ne.symm n2)];exact r.rw.ins
 ·rw[aK r.ne];exact r.rw.wR
 ·rw[aK n3];exact r.kk
 ·exact(aD.cP fx _ r.im h2).append ⟨v,[],rfl,Rep.cP fx _ him hv,rfl⟩
theorem Rg.fx (r:Rg K CR H x dx wl kd sl n ws ks p sd)(f:Fr x sl H H'):∀a o,H a=some o->Fix o->H' a=some o:=λa o e fx=>by obtain⟨vs,h1,_⟩:=r.sq;exact f a o (by rintro rfl;rw[r.rw.ins]at e;cases e;exact fx.elim) (by rintro rfl;rw[h1]at e;cases e;exact fx.elim) e
theorem iK:∀(ns:List Str),imms (ns.map PyData.str)=true
 | []=>rfl
 |s::ns=>by show(imm (.str s)&&imms (ns.map PyData.str))=true;rw[iK ns];rfl
theorem HR (ns:List Str):imm (.tuple (ns.map PyData.str):D)=true:=iK ns
def iO (mg:Str->Option Value)(c fl:Str)(y:V)(x sl:Addr)(H:Hp)(E:XK):Prop:=∀C H' dp,mg c=some (.ref C)->H dp=none->H' dp=some (.xd [(fl,y)])->Fr x sl H H'->E (.ref C) (some dp) H'
theorem W3 (ex:iO mg c fl y x sl H E)(k:Fr x sl H H1)(hx:H1 x≠none)(hs:H1 sl≠none):iO mg c fl y x sl H1 E:=λC H' dp hC h1 hd k2=>by
 refine ex C H' dp hC ?_ hd (k.trans k2);cases e:H dp with
 |none=>rfl
 |some o=>
  by_cases z:dp=x
  ·subst z;exact absurd h1 hx
  ·by_cases z2:dp=sl
   ·subst z2;exact absurd h1 hs
   ·rw[k dp o z z2 e]at h1;cases h1
theorem AQ (ex:iO mg c fl y x sl H E):sD mg c fl y x H E:=λC H' dp hC h1 hd k=>ex C H' dp hC h1 hd (Fr.fS k)
theorem Rg.gF (r:Rg K CR H x dx wl kd sl n ws ks p sd)(ex:iO mg c fl y x sl H0 E)(k:Fr x sl H0 H):iO mg c fl y x sl H E:=by obtain⟨vs,h1,_⟩:=r.sq;exact W3 ex k (by rw[r.rw.ins];nofun) (by rw[h1];nofun)
end
section
variable {Z:Wc}{H H0:Hp}{U:L2.St}{CR x dx wl kd sl:Addr}{n:Int}{ws:List Str}{ks:List (Str×Str)}{p:Nat}{sd:List D}
theorem Nv (m0:Z.me[0]?=some (CR,("peek":Str),z15 Z.K CR))(r:Rg Z.K CR H x dx wl kd sl n ws ks p sd)(h0:U[0]?=some (some (.ref x)))(q:∀H',Same H H'->Q (.str (pk ws p)) H'):wE Z Rd.PE U H Q:=by rw[yj m0];exact⟨.ref x,h0,x,dx,_,rfl,r.rw.ins,rfl,x,dx,wl,kd,sl,n,ws,p,rfl,r.rw,q⟩
theorem Ds (m0:Z.me[0]?=some (CR,("peek":Str),z15 Z.K CR))(r:Rg Z.K CR H x dx wl kd sl n ws ks p sd)(h0:U[0]?=some (some (.ref x)))(q:∀H',Same H H'->Q (decide (pk ws p=b)) H'):wT Z (.tc .Eq Rd.PE (.aW (.str b))) U H Q:=by
 refine Nv (Q:=λa H1=>(wE Z (.aW (.str b))) U H1 λb' H2=>mQ Z.K (mB (cmpD .Eq)) a b' H2 λx H'=>∃k,x=V.bl k/\Q k H') m0 r h0 λH0 s0=>⟨_,F0 H0,_,fR,rfl,λv H1 s1 r1=>?_⟩;refine⟨aJ,_,.str (pk ws p),.str b,.bool (decide (pk ws p=b)),⟨rfl,(dP r.rw.dX).1⟩,r1,?_,λw H2 s2 r2=>?_⟩
 ·show(Res.ok (eqD (.str (pk ws p)) (.str b))>>=λb=>Res.ok (PyData.bool b))=_;rw[pE];rfl
 ·cases r2;exact⟨_,rfl,q H2 ((s0.trans s1).trans s2)⟩
theorem yl (m1:Z.me[1]?=some (CR,("take":Str),z11 Z.K CR))(r:Rg Z.K CR H x dx wl kd sl n ws ks p sd)(h0:U[0]?=some (some (.ref x)))(q:∀H',(∀b o,b≠x->H b=some o->H' b=some o)->Rg Z.K CR H' x dx wl kd sl n ws ks (p+1) sd->Q (.str (pk ws p)) H'):wE Z Rd.TK U H Q:=HN m1 r.rw h0 λH' k e=>q H' k (r.move k e (ip p))
theorem sE (rk:RowK Z.K CR)(r:Rg Z.K CR H x dx wl kd sl n ws ks p sd)(h0:U[0]?=some (some (.ref x)))(k:Fr x sl H0 H)(ex:iO Z.mg "NoRow" "row" (.int n) x sl H0 Z.E):wS Z Rd.RN D0 U H:=Dl rk r.rw h0 (λ_ _ _ e=>e) (AQ (r.gF ex k))
theorem zaf (rk:RowK Z.K CR)(r:Rg Z.K CR H x dx wl kd sl n ws ks p sd)(h0:U[0]?=some (some (.ref x)))(hi:U[i]?=some (some (.str nm)))(okn:PyData.strOk nm=true)(hl:sd.length<p)(hp:p<=LIM)(him:imm d=true)(hd:∃ts:List Str,d=.tuple (ts.map PyData.str))
  (he:∀H Q,(∀v H',Same H H'->Rep Z.K H' aJ v d->Q v H')->wE Z e U H Q)
  (q:∀H',Fr x sl H H'->Rg Z.K CR H' x dx wl kd sl n ws ks p (sd++[.tuple [.str nm,d]])->Dn.nx U H'):wS Z (.app Rd.SD (.tup (.cons (.raw i) (.cons e .nil)))) Dn U H:=by
 obtain⟨vs,h1,h2⟩:=r.sq;have go:∀Q,Q (.ref sl) H->wE Z Rd.SD U H Q:=λQ q=>mW rk r.rw h0 (by decide) rfl q;show wE Z Rd.SD U H λl H1=>tyV Z.K "list" l H1/\(nM (wE Z (.tup (.cons (.raw i) (.cons e .nil)))) eI) U H1 λxs H2=>B8 l xs H2 λ_ H'=>Dn.nx U H';refine go _ ⟨.inl ⟨rfl,_,.inl (.inl h1)⟩,?_⟩;refine⟨.str nm,hi,he H _ λv H1 s1 rv=>⟨(show 2<=ba by rw[cg];decide),λt ht=>?_⟩⟩;have s2:=s1.trans (Same.upd (o:=.tup [.str nm,v]) ht);refine⟨sl,vs,.ref t,rfl,rfl,s2 _ _ h1,?_,?_⟩
 ·have:=h2.length;rw[cg];unfold LIM at hp;omega
 ·exact q _ (λb o Z1 W4 e=>by rw[aK W4];exact s2 b o e) ((r.same s2).say (s2 _ _ h1) (h2.same s2 λ_ h=>h) (⟨t,_,rfl,.inl (.inl bC),_,_,rfl,⟨rfl,okn⟩,_,_,rfl,rv.same (Same.upd ht) (λ_ h=>h),rfl⟩) (by show(true&&(imm d&&true))=true;rw[him];rfl) (by obtain⟨ts,rfl⟩:=hd;exact⟨nm,ts,rfl⟩) hl)
end
def OFT:D:=.tuple [.str "fact",.str "open",.str "word"]
def dA (nm:Str)(t:D):D:=.tuple [.str nm,t]
def wV (nb:Str->Bool)(ws:List Str):Nat->Nat->List Str->List D->Option (List Str×Nat×List D)
 |0,p,ns,sd=>some (ns,p,sd)
 |k+1,p,ns,sd=>if nb (pk ws p)=true then(if pk ws p∈ns then none else wV nb ws k (p+1) (ns++[pk ws p]) (sd++[dA (pk ws p) OFT]))else some (ns,p,sd)
def z1a (nb:Str->Bool)(ws:List Str)(p:Nat)(sd:List D):Option (List Str×Nat×List D):=wV nb ws (ws.length-p) p [] sd
theorem HS (h:ws.length<=p):pk ws p="":=by unfold pk;rw[am,ij h];rfl
def OfK (Z:Wc):Prop:=Z.Κ[0]?=some OFT
def AR (K:W.Frag)(CR:Addr)(mg:Str->Option Value)(x dx wl kd sl:Addr)(n:Int)(ws:List Str)(ks:List (Str×Str))(H:Hp)(Q:VK)(E:XK):Option (List Str×Nat×List D)->Prop
 |some (ns,p',hZ)=>∀H' v,Fr x sl H H'->Rg K CR H' x dx wl kd sl n ws ks p' hZ->Rep K H' aJ v (.tuple (ns.map .str))->Q v H'
 |none=>iO mg "NoRow" "row" (.int n) x sl H E
def spNs (K:W.Frag)(CR:Addr)(mg:Str->Option Value)(nb:Str->Bool):Sp:=λvs H Q E=>∃x dx wl kd sl n ws ks p sd,vs=[.ref x]/\Rg K CR H x dx wl kd sl n ws ks p sd/\nb ""=false/\AR K CR mg x dx wl kd sl n ws ks H Q E (z1a nb ws p sd)
def NmSp (Z:Wc)(j:Nat)(nb:Str->Bool):Prop:=∃m,Z.fn[j]?=some (spD Z.K 1 m)/\∀s,okS s->m [.str s]=.ok (.fr,.bool (nb s))
section
variable {Z:Wc}{H:Hp}{U:L2.St}{CR x dx wl kd sl:Addr}{n:Int}{ws:List Str}{ks:List (Str×Str)}{p:Nat}{sd:List D}{nb:Str->Bool}
theorem W5 (m0:Z.me[0]?=some (CR,("peek":Str),z15 Z.K CR))(hn:NmSp Z 0 nb)(r:Rg Z.K CR H x dx wl kd sl n ws ks p sd)(h0:U[0]?=some (some (.ref x)))(q:∀H',Same H H'->Q (nb (pk ws p)) H'):wT Z (.AF (.bW 0 (.cons Rd.PE .nil))) U H Q:=by obtain⟨m,hm,hn⟩:=hn;show wE Z (.bW 0 (.cons Rd.PE .nil)) U H _;rw[lV hm];refine Nv m0 r h0 λH1 s1=>?_;have ok:=dP (p:=p) r.rw.dX;refine⟨aJ,[.str (pk ws p)],(.fr,.bool (nb (pk ws p))),rfl,⟨_,_,rfl,⟨rfl,ok.1⟩,rfl⟩,hn _ ok,λv H2 s2 r2=>?_⟩;cases r2;exact⟨_,rfl,q H2 (s1.trans s2)⟩
theorem HU:∀(ns:List Str),iX 40 (ns.map PyData.str)=true
 | []=>rfl
 |s::ns=>by show(bY 40 (.str s)&&iX 40 (ns.map PyData.str))=true;rw[HU ns];rfl
theorem Nw (s:Str):∀(ns:List Str),((ns.map PyData.str).any λy=>eqD y (.str s))=decide (s∈ns)
 | []=>by simp
 |t::ns=>by
  rw[bx,lp,Nw s ns,pE];by_cases h:t=s
  ·subst h;simp
  ·rw[wg h];have:s≠t:=λz=>h z.symm;simp[this]
theorem W6 (s:Str)(ns:List Str):inD (.str s) (.list (ns.map PyData.str))=.ok (decide (s∈ns)):=by show(if(bY 40 (.str s)&&iX 40 (ns.map PyData.str))=true then Res.ok ((ns.map PyData.str).any λy=>eqD y (.str s))else .no)=_;rw[HU,Nw];rfl
theorem z71 (hk:OfK Z)(H:Hp)(Q:VK)(q:∀v H',Same H H'->Rep Z.K H' aJ v OFT->Q v H'):wE Z Rd.OF U H Q:=by refine⟨_,F0 H,(.fr,OFT),fR,?_,λv H1 s1 r1=>q v H1 s1 (Rep.weak (λ_ _=>trivial) r1)⟩;show((match Z.Κ[0]? with|some d=>if imm d=true then Res.ok (G.fr,d)else .no|none=>.no):Res GD)=_;rw[hk];rfl
theorem znf (rk:RowK Z.K CR)(m0:Z.me[0]?=some (CR,("peek":Str),z15 Z.K CR))(m1:Z.me[1]?=some (CR,("take":Str),z11 Z.K CR))(hn:NmSp Z 0 nb)(hk:OfK Z)(n0:nb ""=false)(r:Rg Z.K CR H x dx wl kd sl n ws ks p sd)
  (q:AR Z.K CR Z.mg x dx wl kd sl n ws ks H D0.rt Z.E (z1a nb ws p sd)):wS Z Rd.readNames D0 [some (.ref x),none,none] H:=by
 refine⟨dv _,λnl uB=>?_⟩;obtain⟨Z2,lQ,_⟩:=r.sq;have Ny:nl≠sl:=by rintro rfl;rw[lQ]at uB;cases uB
 have HV:nl≠x:=by rintro rfl;rw[r.rw.ins]at uB;cases uB
 have s0:Same H (upd H nl (.lst [])):=Same.upd uB;refine⟨λm σ' H'=>∃p' ns hZ b2,m=ws.length-p'/\σ'=[some (.ref x),some (.ref nl),b2]/\Rg Z.K CR H' x dx wl kd sl n ws ks p' hZ/\H' nl=some (.lst (ns.map V.str))/\(∀s∈ns,PyData.strOk s=true)/\ns.length<=p'/\Fr x sl H H'/\wV nb ws (ws.length-p') p' ns hZ=z1a nb ws p sd,⟨_,p,[],sd,none,rfl,rfl,r.same s0,bC,nofun,dv _,Fr.of_same s0,rfl⟩,?_⟩
 rintro m σ' H' ⟨p',ns,hZ,b2,rfl,rfl,r',hl,oks,hlen,fr,AS⟩
 refine W5 m0 hn r' rfl λH1 s1=>?_;have r1:=r'.same s1;have Dt:=fr.trans (Fr.of_same s1);cases hb:nb (pk ws p')with
 |false=>
  refine aV ?_
  have e:z1a nb ws p sd=some (ns,p',hZ):=by
   rw[<-AS];cases hk:ws.length-p' with
   |zero=>rfl
   |succ k=>show(if nb (pk ws p')=true then _ else _)=_;rw[vz (by rw[hb];decide)]
  rw[e]at q;refine⟨[none,some (.od,.list (ns.map PyData.str)),none],F0 H1,(gJ (.tuple (ns.map PyData.str)) (if imms (ns.map PyData.str)then .fr else agG .od),.tuple (ns.map PyData.str)),kQ rfl λi g d' e=>?_,rfl,λv H2 s2 r2=>q H2 v (Dt.trans (Fr.of_same s2)) (r1.same s2) (Rep.weak (λ_ _=>trivial) r2)⟩;rcases i with _|_|_|i<;>cases e;exact⟨rfl,_,aJ,rfl,nl,_,rfl,.inl ⟨s1 _ _ hl,trivial⟩,Dk oks⟩
 |true=>
  refine aX ?_
  have iE:p'<ws.length:=by
   cases qk p' ws.length with
   |inl h=>exact h
   |inr h=>rw[HS h,n0]at hb;cases hb
  have e:z1a nb ws p sd=if pk ws p'∈ns then none else wV nb ws (ws.length-(p'+1)) (p'+1) (ns++[pk ws p']) (hZ++[dA (pk ws p') OFT]):=by
   rw[<-AS];have:ws.length-p'=(ws.length-(p'+1))+1:=by omega
   rw[this];show(if nb (pk ws p')=true then _ else _)=_;rw[vy hb]
  have wW:=(dP (p:=p') r.rw.dX).1;refine⟨λeP H2=>∃b2,∃AU,eP=[some (.ref x),some (.ref nl),b2]/\Rg Z.K CR H2 x dx wl kd sl n ws ks (p'+1) AU/\H2 nl=some (.lst ((ns++[pk ws p']).map V.str))/\Fr x sl H H2/\wV nb ws (ws.length-(p'+1)) (p'+1) (ns++[pk ws p']) AU=z1a nb ws p sd,?_,?_⟩
  ·rintro eP H2 ⟨b3,AU,rfl,r2,mL,Du,e2⟩
   refine⟨ws.length-(p'+1),by omega,p'+1,_,AU,b3,rfl,rfl,r2,mL,λs hs=>?_,by rw[ax];exact j6 hlen,Du,e2⟩;rcases bo.mp hs with h|h
   ·exact oks s h
   ·cases av.mp h;exact wW
  ·show wE Z Rd.TK [some (.ref x),some (.ref nl),b2] H1 _;refine yl m1 r1 rfl λH2 k2 r2=>?_;have mL:=k2 _ _ HV (s1 _ _ hl);refine⟨.str (pk ws p'),rfl,.ref nl,rfl,aJ,aJ,.str (pk ws p'),.list (ns.map PyData.str),.bool (decide (pk ws p'∈ns)),⟨rfl,wW⟩,⟨nl,_,rfl,.inl ⟨mL,trivial⟩,Dk oks⟩,?_,λw H3 s3 r3=>?_⟩
   ·show(inD (.str (pk ws p')) (.list (ns.map PyData.str))>>=λb=>Res.ok (PyData.bool b))=_;rw[W6];rfl
   cases r3;refine⟨_,rfl,?_⟩;have r3:=r2.same s3;have nJ:=(Dt.trans (Fr.fS k2)).trans (Fr.of_same s3);by_cases rE:pk ws p'∈ns
   ·rw[vy rE]at e;rw[e]at q;rw[we rE];exact aX (sE rk r3 rfl nJ q)
   ·rw[vz rE]at e;rw[wg rE];refine aV ?_;have ym:=s3 _ _ mL;refine⟨.ref nl,rfl,.inl ⟨rfl,_,.inl (.inl ym)⟩,.str (pk ws p'),rfl,nl,_,.str (pk ws p'),rfl,rfl,ym,?_,?_⟩
    ·rw[aq,cg];have:=r.lX;unfold LIM at this;omega
    have r4:Rg Z.K CR (upd H3 nl (.lst (ns.map V.str++[.str (pk ws p')]))) x dx wl kd sl n ws ks (p'+1) hZ:=by obtain⟨vs,h1,h2⟩:=r3.sq;exact⟨⟨by rw[aK (Ne.symm HV)];exact r3.rw.ins,by rw[aK (Ne.symm (by rintro rfl;rw[r.rw.wR]at uB;cases uB))];exact r3.rw.wR,r3.rw.dX⟩,by rw[aK (by rintro rfl;have:=r3.kk;rw[ym]at this;cases this)];exact r3.kk,r3.mX,⟨vs,by rw[aK (Ne.symm Ny)];exact h1,aD.cP (λa o e2 fx=>by rw[aK (by rintro rfl;rw[ym]at e2;cases e2;exact fx.elim)];exact e2) _ r3.im h2⟩,r3.im,r3.wf,r3.ne,r3.len,r3.lX⟩
    refine zaf rk r4 rfl rfl wW ?_ ?_ rfl ⟨["fact","open","word"],rfl⟩ (z71 hk) λH5 xM r5=>?_
    ·have:=r1.len;omega
    ·have:=r.lX;omega
    refine⟨some (.str (pk ws p')),_,rfl,r5,?_,?_,e.symm⟩
    ·rw[xM nl (.lst (ns.map V.str++[.str (pk ws p')])) HV Ny bC,ef];rfl
    ·refine Fr.trans (λb o h1 h2 e=>?_) xM;rw[aK (by rintro rfl;rw[uB]at e;cases e)];exact nJ b o h1 h2 e
end
abbrev Ro:=Option (D×Nat×List D)
def lkG (ks:List (Str×Str))(nm:Str):Option Str:=(ks.find? λy=>decide (y.1=nm)).map (·.2)
def pF (nf:Str->Option Int)(ws:List Str)(nm:Str)(p:Nat)(sd:List D):Ro:=
 if pk ws p=">="then match nf (pk ws (p+1))with
  |some k=>if 1<=k/\k<=10 ^ 30 then some (.int k,p+2,sd++[dA nm (.tuple [.str "fact"])])else none
  |none=>none
 else none
def qA (ws:List Str)(f:Nat->List D->Ro)(p:Nat)(sd:List D):Ro:=
 if pk ws p="("then match f (p+1) sd with
  |none=>none
  |some (d1,p1,s1)=>if pk ws p1="and"\/pk ws p1="or"then match f (p1+1) s1 with
    |none=>none
    |some (d2,p2,s2)=>if pk ws p2=")"then some (.tuple [.str (pk ws p1),d1,d2],p2+1,s2)else none
   else none
 else none
def fT (s:Str):Ro->Ro
 |some (d,p,sd)=>some (.tuple [.str s,d],p,sd)
 |none=>none
def jV (s t:Str):Ro->Ro
 |some (d,p,sd)=>some (.tuple [.str s,.str t,d],p,sd)
 |none=>none
def lY (nb:Str->Bool)(nf:Str->Option Int)(ws:List Str)(ks:List (Str×Str))(p:Nat)(sd:List D):Ro:=
 if nb (pk ws p)=true then(if pk ws (p+1)=">="then jV "at" (pk ws p) (pF nf ws (pk ws p) (p+1) sd) else some (if lkG ks (pk ws p)=some ("fact":Str)then .tuple [.str "at",.str (pk ws p),.int 1]else .tuple [.str "is",.str (pk ws p)],p+1,sd++[dA (pk ws p) OFT]))
 else none
def z1c (nb:Str->Bool)(nf:Str->Option Int)(ws:List Str)(ks:List (Str×Str)):Nat->Nat->List D->Ro
 |0,_,_=>none
 |r+1,p,sd=>if pk ws p="not"then fT "not" (z1c nb nf ws ks r (p+1) sd)
  else if pk ws p="("then qA ws (z1c nb nf ws ks r) p sd
  else lY nb nf ws ks p sd
def z2a (nb:Str->Bool)(nf:Str->Option Int)(ws:List Str)(ks:List (Str×Str)):Nat->Nat->List D->Ro
 |0,_,_=>none
 |r+1,p,sd=>if pk ws p="("then qA ws (z2a nb nf ws ks r) p sd
  else if pk ws p="not"then fT "not" (z2a nb nf ws ks r (p+1) sd)
  else if pk ws p="some"\/pk ws p="all"then fT (pk ws p) (z1c nb nf ws ks r (p+1) sd)
  else none
def RdOk (K:W.Frag)(CR:Addr)(mg:Str->Option Value)(x dx wl kd sl:Addr)(n:Int)(ws:List Str)(ks:List (Str×Str))(H:Hp)(Q:VK)(E:XK):Ro->Prop
 |some (d,p',hZ)=>∀H' v,Fr x sl H H'->Rg K CR H' x dx wl kd sl n ws ks p' hZ->Rep K H' aJ v d->imm d=true->Q v H'
 |none=>iO mg "NoRow" "row" (.int n) x sl H E
def spR (K:W.Frag)(CR:Addr)(mg:Str->Option Value)(r:Nat)(f:List Str->List (Str×Str)->Nat->List D->Ro):Sp:=λvs H Q E=>∃x dx wl kd sl n ws ks p sd,vs=[.ref x,.int r]/\Rg K CR H x dx wl kd sl n ws ks p sd/\RdOk K CR mg x dx wl kd sl n ws ks H Q E (f ws ks p sd)
def jW (K:W.Frag)(CR:Addr)(mg:Str->Option Value)(fa:Addr)(r:Nat)(f:List Str->List (Str×Str)->Nat->List D->Ro):Sp:=λvs H Q E=>∃x dx wl kd sl n ws ks p sd,vs=[.ref x,.ref fa,.int r]/\Rg K CR H x dx wl kd sl n ws ks p sd/\RdOk K CR mg x dx wl kd sl n ws ks H Q E (qA ws (f ws ks) p sd)
def spBd (K:W.Frag)(CR:Addr)(mg:Str->Option Value)(nf:Str->Option Int):Sp:=λvs H Q E=>∃x dx wl kd sl n ws ks p sd nm,vs=[.ref x,.str nm]/\Rg K CR H x dx wl kd sl n ws ks p sd/\PyData.strOk nm=true/\RdOk K CR mg x dx wl kd sl n ws ks H Q E (pF nf ws nm p sd)
section
variable {Z:Wc}{H:Hp}{U:L2.St}{CR x dx wl kd sl:Addr}{n:Int}{ws:List Str}{ks:List (Str×Str)}{p:Nat}{sd:List D}
theorem RdOk.up {K:W.Frag}(q:RdOk K CR mg x dx wl kd sl n ws ks H Q E o)(fr:Fr x sl H H1)(r:Rg K CR H1 x dx wl kd sl n ws ks p' hZ):RdOk K CR mg x dx wl kd sl n ws ks H1 Q E o:=by
 cases o with
 |none=>exact r.gF q fr
 |some z=>exact λH' v f2 r2 rv im=>q H' v (fr.trans f2) r2 rv im
theorem z4q (m2:Z.me[2]?=some (CR,("take_word":Str),spTW Z.K CR Z.mg))(r:Rg Z.K CR H x dx wl kd sl n ws ks p sd)(h0:U[0]?=some (some (.ref x)))(hw:PyData.strOk w=true)
  (q:if pk ws p=w then ∀H',Fr x sl H H'->Rg Z.K CR H' x dx wl kd sl n ws ks (p+1) sd->Q .non H' else iO Z.mg "NoRow" "row" (.int n) x sl H Z.E):wE Z (.eR (.raw 0) 2 (.cons (.aW (.str w)) .nil)) U H Q:=by
 rw[yj m2];refine⟨.ref x,h0,x,dx,_,rfl,r.rw.ins,rfl,_,F0 H,_,fR,rfl,λv H1 s1 r1=>?_⟩;obtain⟨rfl,_⟩:=r1;have r1:=r.same s1;refine⟨x,dx,wl,kd,sl,n,ws,p,w,rfl,r1.rw,hw,?_⟩;by_cases h:pk ws p=w
 ·rw[vy h]at q ⊢;exact λH' k e=>q H' ((Fr.of_same s1).trans (Fr.fS k)) (r1.move k e (ip p))
 ·rw[vz h]at q ⊢;exact AQ (r1.gF q (Fr.of_same s1))
theorem Nz (hi:U[i]?=some (some (.str a)))(HQ:PyData.strOk a=true)(q:∀H',Same H H'->Q (!decide (a=b1\/a=b2)) H'):wT Z (.tc .NotIn (.raw i) (.aW (.tup (.cons (.str b1) (.cons (.str b2) .nil))))) U H Q:=by
 refine⟨.str a,hi,_,F0 H,_,fR,rfl,λv H1 s1 r1=>?_⟩;refine⟨aJ,_,.str a,.tuple [.str b1,.str b2],.bool (!decide (a=b1\/a=b2)),⟨rfl,HQ⟩,r1,?_,λw H2 s2 r2=>?_⟩
 ·show((Res.ok (eqD (.str b1) (.str a)||(eqD (.str b2) (.str a)||false))>>=λb=>Res.ok (!b))>>=λb=>Res.ok (PyData.bool b))=_;rw[pE,pE]
  have:(decide (b1=a)||(decide (b2=a)||false))=decide (a=b1\/a=b2):=by
   by_cases h1:a=b1
   ·subst h1;simp
   ·by_cases h2:a=b2
    ·subst h2;simp
    ·have n1:b1≠a:=λz=>h1 z.symm;have n2:b2≠a:=λz=>h2 z.symm;simp[h1,h2,n1,n2]
  rw[this];rfl
 ·cases r2;exact⟨_,rfl,q H2 (s1.trans s2)⟩
theorem zch (hf:Z.hf[0]?=some (fa,spR Z.K CR Z.mg r f))(g:Rg Z.K CR H x dx wl kd sl n ws ks p sd)(h0:U[0]?=some (some (.ref x)))(h1:U[1]?=some (some (.ref fa)))(h2:U[2]?=some (some (.int r)))
  (q:RdOk Z.K CR Z.mg x dx wl kd sl n ws ks H Q Z.E (f ws ks p sd)):wE Z (.uA 1 0 (.cons (.raw 0) (.cons (.raw 2) .nil))) U H Q:=by
 have e:wE Z (.uA 1 0 (.cons (.raw 0) (.cons (.raw 2) .nil)))=λU H Q=>U[1]?=some (some (V.ref fa))/\kG (spR Z.K CR Z.mg r f) [] Z.E (wA Z (.cons (.raw 0) (.cons (.raw 2) .nil))) U H Q:=by show(match Z.hf[0]? with|some r=>(λU H Q=>U[1]?=some (some (V.ref r.1))/\kG r.2 [] Z.E (wA Z (.cons (.raw 0) (.cons (.raw 2) .nil))) U H Q:TE)|none=>eG)=_;rw[hf]
 rw[e];exact⟨h1,.ref x,h0,.int r,h2,x,dx,wl,kd,sl,n,ws,ks,p,sd,rfl,g,q⟩
theorem zfw (rk:RowK Z.K CR)(m1:Z.me[1]?=some (CR,("take":Str),z11 Z.K CR))(m2:Z.me[2]?=some (CR,("take_word":Str),spTW Z.K CR Z.mg))(hf:Z.hf[0]?=some (fa,spR Z.K CR Z.mg r f))(g:Rg Z.K CR H x dx wl kd sl n ws ks p sd)
  (q:RdOk Z.K CR Z.mg x dx wl kd sl n ws ks H D0.rt Z.E (qA ws (f ws ks) p sd)):wS Z Rd.fC D0 [some (.ref x),some (.ref fa),some (.int r),none,none,none] H:=by
 refine z4q m2 g rfl (by decide+kernel) ?_;by_cases h:¬(pk ws p="(")
 ·unfold qA at q;rw[vz h]at q ⊢;exact q
 have h:=wb h;unfold qA at q;rw[vy h]at q ⊢;intro H1 f1 g1;refine zch hf g1 rfl rfl rfl ?_;cases e1:f ws ks (p+1) sd with
 |none=>rw[e1]at q;exact g1.gF q f1
 |some z=>
 obtain⟨d1,p1,s1⟩:=z;rw[e1]at q;intro H2 v1 f2 g2 rv1 qB;refine yl m1 g2 rfl λH3 k3 g3=>?_;have W7:Rep Z.K H3 aJ v1 d1:=Rep.cP (λa o e fx=>k3 a o (by rintro rfl;rw[g2.rw.ins]at e;cases e;exact fx.elim) e) _ qB rv1;have sF:=(dP (p:=p1) g.rw.dX).1;refine Nz rfl sF λH4 s4=>?_;have g4:=g3.same s4;have f4:=((f1.trans f2).trans (Fr.fS k3)).trans (Fr.of_same s4);by_cases ho:¬(pk ws p1="and"\/pk ws p1="or")
 ·rw[wg ho];have q:RdOk Z.K CR Z.mg x dx wl kd sl n ws ks H D0.rt Z.E none:=by simpa only[vz ho]using q
  exact aX (sE rk g4 rfl f4 q)
 have ho:=wb ho;rw[we ho];refine aV (zch hf g4 rfl rfl rfl ?_)
 have q:RdOk Z.K CR Z.mg x dx wl kd sl n ws ks H D0.rt Z.E (match f ws ks (p1+1) s1 with
  |none=>none
  |some (d2,p2,s2)=>if pk ws p2=")"then some (.tuple [.str (pk ws p1),d1,d2],p2+1,s2)else none):=by simpa only[vy ho]using q
 cases e2:f ws ks (p1+1) s1 with
 |none=>rw[e2]at q;exact g4.gF q f4
 |some z=>
 obtain⟨d2,p2,s2⟩:=z;rw[e2]at q;have q:RdOk Z.K CR Z.mg x dx wl kd sl n ws ks H D0.rt Z.E (if pk ws p2=")"then some (.tuple [.str (pk ws p1),d1,d2],p2+1,s2)else none):=q;intro H5 v2 f5 g5 rv2 NA
 have W8:∀a o,H4 a=some o->Fix o->H5 a=some o:=λa o e fx=>f5 a o (by rintro rfl;rw[g4.rw.ins]at e;cases e;exact fx.elim) (by
  obtain⟨vs,hs,_⟩:=g4.sq
  rintro rfl;rw[hs]at e;cases e;exact fx.elim) e
 have HW:Rep Z.K H5 aJ v1 d1:=Rep.cP W8 _ qB (W7.same s4 λ_ h=>h);refine z4q m2 g5 rfl (by decide+kernel) ?_;by_cases hc:¬(pk ws p2=")")
 ·rw[vz hc]at q ⊢;exact g5.gF q (f4.trans f5)
 rw[vy (wb hc)]at q ⊢;intro H6 f6 g6
 have NC:∀a o,H5 a=some o->Fix o->H6 a=some o:=λa o e fx=>f6 a o (by rintro rfl;rw[g5.rw.ins]at e;cases e;exact fx.elim) (by
  obtain⟨vs,hs,_⟩:=g5.sq
  rintro rfl;rw[hs]at e;cases e;exact fx.elim) e
 refine⟨.str (pk ws p1),rfl,v1,rfl,v2,rfl,(show 3<=ba by rw[cg];decide),λt ht=>?_⟩;have s7:Same H6 (upd H6 t (.tup [.str (pk ws p1),v1,v2])):=Same.upd ht;refine q _ _ (((f4.trans f5).trans f6).trans (Fr.of_same s7)) (g6.same s7) ⟨t,_,rfl,.inl (.inl bC),_,_,rfl,⟨rfl,sF⟩,_,_,rfl,(Rep.cP NC _ qB HW).same s7 (λ_ h=>h),_,_,rfl,(Rep.cP NC _ NA rv2).same s7 (λ_ h=>h),rfl⟩ ?_;show(true&&(imm d1&&(imm d2&&true)))=true;rw[qB,NA];rfl
end
def optD:Option Int->D
 |some k=>.int k
 |none=>.none
def NfSp (Z:Wc)(j:Nat)(nf:Str->Option Int):Prop:=∃m,Z.fn[j]?=some (spD Z.K 1 m)/\∀s,okS s->m [.str s]=.ok (.fr,optD (nf s))
section
variable {Z:Wc}{H:Hp}{U:L2.St}{CR x dx wl kd sl:Addr}{n:Int}{ws:List Str}{ks:List (Str×Str)}{p:Nat}{sd:List D}{nf:Str->Option Int}
theorem W9 (k:Int):dU Κ Φ (.or (.tv (.jK false (.var 2))) (.not (.tv (.chain .LtE .LtE (.int 1) (.var 2) (.bin .Pow (.int 10) (.int 30)))))) [none,none,some (.od,.int k)]=.ok (!(decide (1<=k)&&decide (k<=10 ^ 30))):=by
 show(((Res.ok (decide (1<=k))>>=λc=>if c=true then aG Κ Φ (.bin .Pow (.int 10) (.int 30)) [none,none,some (.od,.int k)]>>=λz=>cmpD .LtE (.int k) z.2>>=λk'=>Res.ok (G.fr,PyData.bool k')else Res.ok (G.fr,PyData.bool false))>>=λx=>fX x.2)>>=λc=>Res.ok (!c))=_;by_cases h:1<=k
 ·rw[we h];rfl
 ·rw[wg h];rfl
theorem zpo (rk:RowK Z.K CR)(m1:Z.me[1]?=some (CR,("take":Str),z11 Z.K CR))(m2:Z.me[2]?=some (CR,("take_word":Str),spTW Z.K CR Z.mg))(hn:NfSp Z 0 nf)(n0:nf ""=none)(g:Rg Z.K CR H x dx wl kd sl n ws ks p sd)(okn:PyData.strOk nm=true)
  (q:RdOk Z.K CR Z.mg x dx wl kd sl n ws ks H D0.rt Z.E (pF nf ws nm p sd)):wS Z Rd.readBound D0 [some (.ref x),some (.str nm),none] H:=by
 refine z4q m2 g rfl (by decide+kernel) ?_;unfold pF at q;by_cases h:¬(pk ws p=">=")
 ·rw[vz h]at q ⊢;exact q
 have h:=wb h;rw[vy h]at q ⊢;intro H1 f1 g1;obtain⟨m,hm,hn⟩:=hn;show wE Z (.bW 0 (.cons Rd.TK .nil)) [some (.ref x),some (.str nm),none] H1 _;rw[lV hm];refine yl m1 g1 rfl λH2 k2 g2=>?_;have ok:=dP (p:=p+1) g.rw.dX;refine⟨aJ,[.str (pk ws (p+1))],(.fr,optD (nf (pk ws (p+1)))),rfl,⟨_,_,rfl,⟨rfl,ok.1⟩,rfl⟩,hn _ ok,λv H3 s3 r3=>?_⟩;have g3:=g2.same s3;have f3:=(f1.trans (Fr.fS k2)).trans (Fr.of_same s3);cases hf:nf (pk ws (p+1))with
 |none=>
  rw[hf]at q r3;subst r3;refine⟨[none,none,some (.od,.none)],F0 H3,true,kQ rfl λi g d' e=>?_,rfl,λH4 s4=>?_⟩
  ·rcases i with _|_|_|i<;>cases e;exact⟨rfl,_,aJ,rfl,rfl⟩
  exact aX (sE rk (g3.same s4) rfl (f3.trans (Fr.of_same s4)) q)
 |some k=>
  rw[hf]at q r3;subst r3;have q:RdOk Z.K CR Z.mg x dx wl kd sl n ws ks H D0.rt Z.E (if 1<=k/\k<=10 ^ 30 then some (.int k,p+2,sd++[dA nm (.tuple [.str "fact"])])else none):=q;refine⟨[none,none,some (.od,.int k)],F0 H3,!(decide (1<=k)&&decide (k<=10 ^ 30)),kQ rfl λi g d' e=>?_,?_,λH4 s4=>?_⟩
  ·rcases i with _|_|_|i<;>cases e;exact⟨rfl,_,aJ,rfl,rfl⟩
  ·exact W9 k
  have g4:=g3.same s4;have f4:=f3.trans (Fr.of_same s4);by_cases hk:¬(1<=k/\k<=10 ^ 30)
  ·rw[vz hk]at q;have:(!(decide (1<=k)&&decide (k<=10 ^ 30)))=true:=by rw[<-Bool.decide_and,wg hk];rfl
   rw[this];exact aX (sE rk g4 rfl f4 q)
  have hk:=wb hk;rw[vy hk]at q;have:(!(decide (1<=k)&&decide (k<=10 ^ 30)))=false:=by rw[<-Bool.decide_and,we hk];rfl
  rw[this];refine aV ?_
  have hp:p+1<ws.length:=by
   cases qk (p+1) ws.length with
   |inl h=>exact h
   |inr h=>rw[HS h,n0]at hf;cases hf
  refine zaf (e:=.aW (.tup (.cons (.str "fact") .nil))) rk g4 rfl rfl okn ?_ ?_ rfl ⟨["fact"],rfl⟩ (λH Q q=>⟨_,F0 H,_,fR,rfl,λv H1 s1 r1=>q v H1 s1 (Rep.weak (λ_ _=>trivial) r1)⟩) λH5 f5 g5=>?_
  ·have:=g.len;omega
  ·have:=g.lX;omega
  exact⟨.int k,rfl,q H5 _ (f4.trans f5) g5 rfl rfl⟩
theorem ND {r:Nat}(h1:U[1]?=some (some (.int r)))(q:∀H',Same H H'->Q (decide (r<1)) H'):wT Z (.tc .Lt (.raw 1) (.aW (.int 1))) U H Q:=by
 refine⟨.int r,h1,_,F0 H,_,fR,rfl,λv H1 s1 r1=>?_⟩;cases r1;refine⟨aJ,aJ,.int r,.int 1,.bool (decide (r<1)),rfl,rfl,?_,λw H2 s2 r2=>?_⟩
 ·show Res.ok (PyData.bool (decide ((r:Int)<1)))=_
  have:decide ((r:Int)<1)=decide (r<1):=by
   by_cases h:r<1
   ·rw[we h,we (by omega)]
   ·rw[wg h,wg (by omega)]
  rw[this]
 ·cases r2;exact⟨_,rfl,q H2 (s1.trans s2)⟩
theorem NF {r:Nat}(h1:U[1]?=some (some (.int (r+1:Nat))))(q:∀H',Same H H'->Q (.int r) H'):wE Z Rd.RM U H Q:=by
 refine⟨_,h1,_,F0 H,_,fR,rfl,λv H1 s1 r1=>?_⟩;cases r1;refine⟨aJ,aJ,.int (r+1:Nat),.int 1,.int r,rfl,rfl,?_,λw H2 s2 r2 _=>?_⟩
 ·show Res.ok (PyData.int (((r+1:Nat):Int)-1))=_;have:((r+1:Nat):Int)-1=r:=by omega
  rw[this]
 ·cases r2;exact q H2 (s1.trans s2)
theorem NG:cL (hG ks) (.inr nm)=(lkG ks nm).map V.str:=by
 unfold cL lkG hG
 induction ks with
 |nil=>rfl
 |cons y ks ih=>
  rw[bx,dg,dg];by_cases h:y.1=nm
  ·have :(Sum.inr y.1:Key)=.inr nm:=by rw[h]
   rw[we h,we this];rfl
  ·have :¬(Sum.inr y.1:Key)=.inr nm:=λz=>h (Sum.inr.inj z);rw[wg h,wg this];exact ih
theorem NH (h:∀y∈ks,PyData.strOk y.1=true/\PyData.strOk y.2=true)(e:lkG ks nm=some s):PyData.strOk s=true:=by obtain⟨y,hy,rfl⟩:=dj.mp e;exact(h y (o8 hy)).2
theorem W' (rk:RowK Z.K CR)(r:Rg Z.K CR H x dx wl kd sl n ws ks p sd)(h0:U[0]?=some (some (.ref x)))(hi:U[i]?=some (some (.str nm)))(q:∀H',Same H H'->Q (decide (lkG ks nm=some s)) H'):wT Z (.tc .Eq (.get Rd.KD (.raw i)) (.aW (.str s))) U H Q:=by
 show wE Z Rd.KD U H λx H1=>∃a,x=.ref a/\IsD H1 a/\(wE Z (.raw i)) U H1 λy H2=>∃o,DGet H2 a y o/\(wE Z (.aW (.str s))) U H2 λb' H3=>mQ Z.K (mB (cmpD .Eq)) (o.getD .non) b' H3 λx H'=>∃k,x=V.bl k/\Q k H';refine mW rk r.rw h0 (by decide) rfl ⟨kd,rfl,.inl ⟨_,.inl r.kk⟩,.str nm,hi,_,.inl ⟨_,.inr nm,.inl r.kk,rfl,rfl⟩,?_⟩;rw[NG];refine⟨_,F0 H,_,fR,rfl,λv H1 s1 r1=>?_⟩;cases e:lkG ks nm with
 |none=>rw[e]at q;refine⟨aJ,_,.none,.str s,.bool false,rfl,r1,rfl,λw H2 s2 r2=>?_⟩;cases r2;exact⟨_,rfl,q H2 (s1.trans s2)⟩
 |some t=>
  rw[e]at q;refine⟨aJ,_,.str t,.str s,.bool (decide (t=s)),⟨rfl,NH r.mX e⟩,r1,?_,λw H2 s2 r2=>?_⟩
  ·show(Res.ok (eqD (.str t) (.str s))>>=λb=>Res.ok (PyData.bool b))=_;rw[pE];rfl
  cases r2
  have:decide (some t=some s)=decide (t=s):=by
   by_cases h:t=s
   ·subst h;simp
   ·rw[wg h,wg (λz=>h (v5 z))]
  rw[this]at q;exact⟨_,rfl,q H2 (s1.trans s2)⟩
theorem zj9 (oks:PyData.strOk s=true)(hs:∀H Q,(∀H',Same H H'->Q (.str s) H')->wE Z es U H Q)(r:Rg Z.K CR H x dx wl kd sl n ws ks p sd)
  (he:∀H' Q,Same H H'->RdOk Z.K CR Z.mg x dx wl kd sl n ws ks H' Q Z.E f->wE Z e U H' Q)
  (q:RdOk Z.K CR Z.mg x dx wl kd sl n ws ks H Dn.rt Z.E (fT s f)):wS Z (.seq (.ret (.tup (.cons es (.cons e .nil)))) .nil) Dn U H:=by
 refine hs H _ λH1 s1=>he H1 _ s1 ?_;cases f with
 |none=>exact(r.same s1).gF q (Fr.of_same s1)
 |some z=>obtain⟨d,p',hZ⟩:=z;intro H2 v f2 r2 rv im;refine⟨(show 2<=ba by rw[cg];decide),λt ht=>?_⟩;have s3:Same H2 (upd H2 t (.tup [.str s,v])):=Same.upd ht;refine q _ _ (((Fr.of_same s1).trans f2).trans (Fr.of_same s3)) (r2.same s3) ⟨t,_,rfl,.inl (.inl bC),_,_,rfl,⟨rfl,oks⟩,_,_,rfl,rv.same s3 (λ_ h=>h),rfl⟩ ?_;show(true&&(imm d&&true))=true;rw[im];rfl
theorem uC (H:Hp)(Q:VK)(q:∀H',Same H H'->Q (.str s) H'):wE Z (.aW (.str s)) U H Q:=⟨_,F0 H,_,fR,rfl,λv H1 s1 r1=>by obtain⟨rfl,_⟩:=r1;exact q H1 s1⟩
theorem HX (hj:Z.fn[j]?=some (spR Z.K CR Z.mg r f))(g:Rg Z.K CR H x dx wl kd sl n ws ks p sd)(h0:U[0]?=some (some (.ref x)))(h1:U[1]?=some (some (.int (r+1:Nat))))(q:RdOk Z.K CR Z.mg x dx wl kd sl n ws ks H Q Z.E (f ws ks p sd)):wE Z (.bW j (.cons (.raw 0) (.cons Rd.RM .nil))) U H Q:=by rw[lV hj];exact⟨.ref x,h0,NF h1 λH1 s1=>⟨x,dx,wl,kd,sl,n,ws,ks,p,sd,rfl,g.same s1,q.up (Fr.of_same s1) (g.same s1)⟩⟩
theorem NI (hj:Z.fn[1]?=some (jW Z.K CR Z.mg fa r f))(hf:Z.hf[0]?=some (fa,sp))(g:Rg Z.K CR H x dx wl kd sl n ws ks p sd)(h0:U[0]?=some (some (.ref x)))(h1:U[1]?=some (some (.int (r+1:Nat))))(q:RdOk Z.K CR Z.mg x dx wl kd sl n ws ks H Q Z.E (qA ws (f ws ks) p sd)):wE Z (.bW 1 (.cons (.raw 0) (.cons (.gf 0) (.cons Rd.RM .nil)))) U H Q:=by
 rw[lV hj];refine⟨.ref x,h0,?_⟩;have eg:wE Z (.gf 0)=λ_ H Q=>Q (V.ref fa) H:=by show(match Z.hf[0]? with|some r=>(λ_ H Q=>Q (V.ref r.1) H:TE)|none=>eG)=_;rw[hf]
 show wE Z (.gf 0) U H λy H1=>wE Z Rd.RM U H1 λz H2=>jW Z.K CR Z.mg fa r f [.ref x,y,z] H2 Q Z.E;rw[eg];exact NF h1 λH1 s1=>⟨x,dx,wl,kd,sl,n,ws,ks,p,sd,rfl,g.same s1,q.up (Fr.of_same s1) (g.same s1)⟩
end
section
variable {Z:Wc}{H:Hp}{CR x dx wl kd sl:Addr}{n:Int}{ws:List Str}{ks:List (Str×Str)}{p:Nat}{sd:List D}{nb:Str->Bool}{nf:Str->Option Int}
theorem zqe (rk:RowK Z.K CR)(m0:Z.me[0]?=some (CR,("peek":Str),z15 Z.K CR))(m3:Z.me[3]?=some (CR,("take_name":Str),spTN Z.K CR Z.mg nb))(f2:Z.fn[2]?=some (spBd Z.K CR Z.mg nf))(hk:OfK Z)(n0:nb ""=false)(g:Rg Z.K CR H x dx wl kd sl n ws ks p sd)
  (q:RdOk Z.K CR Z.mg x dx wl kd sl n ws ks H D0.rt Z.E (lY nb nf ws ks p sd)):wS Z Rd.kR D0 [some (.ref x),a1,a2] H:=by
 refine zol m3 g.rw rfl ?_;unfold lY at q;by_cases hb:¬(nb (pk ws p)=true)
 ·rw[vz hb]at q ⊢;exact AQ q
 have hb:=wb hb;rw[vy hb]at q ⊢;intro H1 k1 e1;have g1:=g.move k1 e1 (ip p);have Dt:Fr x sl H H1:=Fr.fS k1;have okn:=(dP (p:=p) g.rw.dX).1
 have iE:p<ws.length:=by
  cases qk p ws.length with
  |inl h=>exact h
  |inr h=>rw[HS h,n0]at hb;cases hb
 refine Ds m0 g1 rfl λH2 s2=>?_;have g2:=g1.same s2;have Du:=Dt.trans (Fr.of_same s2);by_cases hg:pk ws (p+1)=">="
 ·rw[vy hg]at q;rw[we hg];refine aX (uC H2 _ λH3 s3=>⟨.str (pk ws p),rfl,?_⟩);show wE Z (.bW 2 (.cons (.raw 0) (.cons (.raw 2) .nil))) [some (.ref x),a1,some (.str (pk ws p))] H3 _;rw[lV f2];have g3:=g2.same s3;have nJ:=Du.trans (Fr.of_same s3);refine⟨.ref x,rfl,.str (pk ws p),rfl,x,dx,wl,kd,sl,n,ws,ks,p+1,sd,pk ws p,rfl,g3,okn,?_⟩;cases hz:pF nf ws (pk ws p) (p+1) sd with
  |none=>rw[hz]at q;exact g3.gF q nJ
  |some z=>obtain⟨d,p',hZ⟩:=z;rw[hz]at q;intro H4 v f4 g4 rv im;refine⟨(show 3<=ba by rw[cg];decide),λt ht=>?_⟩;have s5:Same H4 (upd H4 t (.tup [.str "at",.str (pk ws p),v])):=Same.upd ht;refine q _ _ ((nJ.trans f4).trans (Fr.of_same s5)) (g4.same s5) ⟨t,_,rfl,.inl (.inl bC),_,_,rfl,⟨rfl,by decide+kernel⟩,_,_,rfl,⟨rfl,okn⟩,_,_,rfl,rv.same s5 (λ_ h=>h),rfl⟩ ?_;show(true&&(true&&(imm d&&true)))=true;rw[im];rfl
 ·rw[vz hg]at q;rw[wg hg];refine aV (zaf rk g2 rfl rfl okn (Nat.lt_succ_of_le g.len) (b8 iE g.lX) rfl ⟨["fact","open","word"],rfl⟩ (z71 hk) λH3 f3 g3=>W' rk g3 rfl rfl λH4 s4=>?_);have g4:=g3.same s4;have NJ:=(Du.trans f3).trans (Fr.of_same s4);by_cases hf:lkG ks (pk ws p)=some ("fact":Str)
  ·rw[vy hf]at q;rw[we hf];refine aX (uC H4 _ λH5 s5=>⟨.str (pk ws p),rfl,_,F0 H5,_,fR,rfl,λv H6 s6 r6=>?_⟩);cases r6;refine⟨(show 3<=ba by rw[cg];decide),λt ht=>?_⟩;have s7:=(s5.trans s6).trans (Same.upd (o:=.tup [.str "at",.str (pk ws p),.int 1]) ht);exact q _ _ (NJ.trans (Fr.of_same s7)) (g4.same s7) ⟨t,_,rfl,.inl (.inl bC),_,_,rfl,⟨rfl,by decide+kernel⟩,_,_,rfl,⟨rfl,okn⟩,_,_,rfl,rfl,rfl⟩ rfl
  ·rw[vz hf]at q;rw[wg hf];refine aV (uC H4 _ λH5 s5=>⟨.str (pk ws p),rfl,?_⟩);refine⟨(show 2<=ba by rw[cg];decide),λt ht=>?_⟩;have s7:=s5.trans (Same.upd (o:=.tup [.str "is",.str (pk ws p)]) ht);exact q _ _ (NJ.trans (Fr.of_same s7)) (g4.same s7) ⟨t,_,rfl,.inl (.inl bC),_,_,rfl,⟨rfl,by decide+kernel⟩,_,_,rfl,⟨rfl,okn⟩,rfl⟩ rfl
structure SayZ (Z:Wc)(CR:Addr)(nb:Str->Bool)(nf:Str->Option Int)(r:Nat):Prop where
 m0:Z.me[0]?=some (CR,("peek":Str),z15 Z.K CR)
 m1:Z.me[1]?=some (CR,("take":Str),z11 Z.K CR)
 m3:Z.me[3]?=some (CR,("take_name":Str),spTN Z.K CR Z.mg nb)
 f2:Z.fn[2]?=some (spBd Z.K CR Z.mg nf)
 hk:OfK Z
 dn:∀r',r=r'+1->Z.fn[0]?=some (spR Z.K CR Z.mg r' λws ks=>z1c nb nf ws ks r')/\∃fa sp,Z.hf[0]?=some (fa,sp)/\Z.fn[1]?=some (jW Z.K CR Z.mg fa r' λws ks=>z1c nb nf ws ks r')
theorem zkq (rk:RowK Z.K CR)(z:SayZ Z CR nb nf r)(n0:nb ""=false)(g:Rg Z.K CR H x dx wl kd sl n ws ks p sd)
  (q:RdOk Z.K CR Z.mg x dx wl kd sl n ws ks H D0.rt Z.E (z1c nb nf ws ks r p sd)):wS Z Rd.fA D0 [some (.ref x),some (.int r),none] H:=by
 refine ND rfl λH1 s1=>?_;have g1:=g.same s1;have f1:Fr x sl H H1:=Fr.of_same s1;cases r with
 |zero=>exact aX (sE rk g1 rfl f1 q)
 |succ r=>
  refine aV ?_;obtain⟨z0,fa,sp,zf,z1⟩:=z.dn r rfl;have q:RdOk Z.K CR Z.mg x dx wl kd sl n ws ks H D0.rt Z.E (if pk ws p="not"then fT "not" (z1c nb nf ws ks r (p+1) sd)else if pk ws p="("then qA ws (z1c nb nf ws ks r) p sd else lY nb nf ws ks p sd):=q;refine Ds z.m0 g1 rfl λH2 s2=>?_;have g2:=g1.same s2;have f2:=f1.trans (Fr.of_same s2);by_cases h:pk ws p="not"
  ·rw[vy h]at q;rw[we h];refine aX (yl z.m1 g2 rfl λH3 k3 g3=>?_);have f3:=f2.trans (Fr.fS k3);exact zj9 (by decide+kernel) uC g3 (λH' Q s q=>HX z0 (g3.same s) rfl rfl q) (q.up f3 g3)
  rw[vz h]at q;rw[wg h];refine aV (Ds z.m0 g2 rfl λH3 s3=>?_);have g3:=g2.same s3;have f3:=f2.trans (Fr.of_same s3);by_cases h:pk ws p="("
  ·rw[vy h]at q;rw[we h];exact aX (NI z1 zf g3 rfl rfl (q.up f3 g3))
  rw[vz h]at q;rw[wg h];exact aV (zqe rk z.m0 z.m3 z.f2 z.hk n0 g3 (q.up f3 g3))
structure AskZ (Z:Wc)(CR:Addr)(nb:Str->Bool)(nf:Str->Option Int)(r:Nat):Prop where
 m0:Z.me[0]?=some (CR,("peek":Str),z15 Z.K CR)
 m1:Z.me[1]?=some (CR,("take":Str),z11 Z.K CR)
 dn:∀r',r=r'+1->Z.fn[0]?=some (spR Z.K CR Z.mg r' λws ks=>z2a nb nf ws ks r')/\(∃fa sp,Z.hf[0]?=some (fa,sp)/\Z.fn[1]?=some (jW Z.K CR Z.mg fa r' λws ks=>z2a nb nf ws ks r'))/\Z.fn[2]?=some (spR Z.K CR Z.mg r' λws ks=>z1c nb nf ws ks r')
theorem zjm (rk:RowK Z.K CR)(z:AskZ Z CR nb nf r)(g:Rg Z.K CR H x dx wl kd sl n ws ks p sd)
  (q:RdOk Z.K CR Z.mg x dx wl kd sl n ws ks H D0.rt Z.E (z2a nb nf ws ks r p sd)):wS Z Rd.fB D0 [some (.ref x),some (.int r),none] H:=by
 refine ND rfl λH1 s1=>?_;have g1:=g.same s1;have f1:Fr x sl H H1:=Fr.of_same s1;cases r with
 |zero=>exact aX (sE rk g1 rfl f1 q)
 |succ r=>
  refine aV ?_;obtain⟨z0,⟨fa,sp,zf,z1⟩,z2⟩:=z.dn r rfl;have q:RdOk Z.K CR Z.mg x dx wl kd sl n ws ks H D0.rt Z.E (if pk ws p="("then qA ws (z2a nb nf ws ks r) p sd else if pk ws p="not"then fT "not" (z2a nb nf ws ks r (p+1) sd)else if pk ws p="some"\/pk ws p="all"then fT (pk ws p) (z1c nb nf ws ks r (p+1) sd)else none):=q;refine Ds z.m0 g1 rfl λH2 s2=>?_;have g2:=g1.same s2;have f2:=f1.trans (Fr.of_same s2);by_cases h:pk ws p="("
  ·rw[vy h]at q;rw[we h];exact aX (NI z1 zf g2 rfl rfl (q.up f2 g2))
  rw[vz h]at q;rw[wg h];refine aV (yl z.m1 g2 rfl λH3 k3 g3=>?_);have wW:=(dP (p:=p) g.rw.dX).1;refine AM rfl wW λH4 s4=>?_;have g4:=g3.same s4;have f4:=(f2.trans (Fr.fS k3)).trans (Fr.of_same s4);by_cases h:pk ws p="not"
  ·rw[vy h]at q;rw[we h];exact aX (zj9 (by decide+kernel) uC g4 (λH' Q s q=>HX z0 (g4.same s) rfl rfl q) (q.up f4 g4))
  rw[vz h]at q;rw[wg h];refine aV (Nz rfl wW λH5 s5=>?_);have g5:=g4.same s5;have f5:=f4.trans (Fr.of_same s5);by_cases h:¬(pk ws p="some"\/pk ws p="all")
  ·rw[vz h]at q;rw[wg h];exact aX (sE rk g5 rfl f5 q)
  have h:=wb h;rw[vy h]at q;rw[we h];exact aV (zj9 wW (λH Q q=>⟨_,rfl,q H (Same.refl H)⟩) g5 (λH' Q s q=>HX z2 (g5.same s) rfl rfl q) (q.up f5 g5))
end
def dY (nb:Str->Bool)(ws:List Str)(p:Nat):Bool:=nb (pk ws p)&&decide (pk ws (p+1)="if")
def cntO (ks:List (Str×Str)):Nat:=(ks.map (·.2)).countP (· ==("open":Str))
def dZ (nb:Str->Bool)(ws:List Str)(ks:List (Str×Str))(p:Nat)(sd:List D):Ro:=
 if cntO ks=4 then none
 else if nb (pk ws p)=true then
  (if pk ws (p+1)="for"then match z1a nb ws (p+2) sd with
   |none=>none
   |some (n1,p1,s1)=>if pk ws p1="against"then match z1a nb ws (p1+1) s1 with
     |none=>none
     |some (n2,p2,s2)=>some (.tuple [.str "open",.str (pk ws p),.tuple (n1.map .str),.tuple (n2.map .str)],p2,s2)
    else none
  else none)
 else none
def bV (nb:Str->Bool)(nf:Str->Option Int)(ws:List Str)(ks:List (Str×Str))(sd:List D):Ro:=
 if pk ws 0="fact"then(if nb (pk ws 1)=true then some (.tuple [.str "fact",.str (pk ws 1)],2,sd)else none)
 else if pk ws 0="open"then dZ nb ws ks 1 sd
 else if pk ws 0="word"then(if dY nb ws 1=true then jV "word" (pk ws 1) (z1c nb nf ws ks 8 3 sd)else none)
 else if pk ws 0="claim"then(if dY nb ws 1=true then jV "claim" (pk ws 1) (z2a nb nf ws ks 8 3 sd)else none)
 else none
def aY (nb:Str->Bool)(nf:Str->Option Int)(ws:List Str)(ks:List (Str×Str))(sd:List D):Ro:=
 match bV nb nf ws ks sd with
 |none=>none
 |some (d,p,s)=>if p<ws.length then none else some (d,p,s)
def spHg (K:W.Frag)(CR:Addr)(mg:Str->Option Value)(nb:Str->Bool):Sp:=λvs H Q E=>∃x dx wl kd sl n ws ks p sd,vs=[.ref x]/\Rg K CR H x dx wl kd sl n ws ks p sd/\if dY nb ws p=true then ∀H',Fr x sl H H'->Rg K CR H' x dx wl kd sl n ws ks (p+2) sd->Q (.str (pk ws p)) H' else iO mg "NoRow" "row" (.int n) x sl H E
def spOg (K:W.Frag)(CR:Addr)(mg:Str->Option Value)(nb:Str->Bool):Sp:=λvs H Q E=>∃x dx wl kd sl n ws ks p sd,vs=[.ref x]/\Rg K CR H x dx wl kd sl n ws ks p sd/\nb ""=false/\RdOk K CR mg x dx wl kd sl n ws ks H Q E (dZ nb ws ks p sd)
def spRg (K:W.Frag)(CR:Addr)(mg:Str->Option Value)(nb:Str->Bool)(nf:Str->Option Int):Sp:=λvs H Q E=>∃x dx wl kd sl n ws ks sd,vs=[.ref x]/\Rg K CR H x dx wl kd sl n ws ks 0 sd/\nb ""=false/\RdOk K CR mg x dx wl kd sl n ws ks H Q E (aY nb nf ws ks sd)
section
variable {Z:Wc}{H:Hp}{U:L2.St}{CR x dx wl kd sl:Addr}{n:Int}{ws:List Str}{ks:List (Str×Str)}{p:Nat}{sd:List D}{nb:Str->Bool}
theorem zcn (m3:Z.me[3]?=some (CR,("take_name":Str),spTN Z.K CR Z.mg nb))(g:Rg Z.K CR H x dx wl kd sl n ws ks p sd)(h0:U[0]?=some (some (.ref x)))
  (q:if nb (pk ws p)=true then ∀H',Fr x sl H H'->Rg Z.K CR H' x dx wl kd sl n ws ks (p+1) sd->Q (.str (pk ws p)) H' else iO Z.mg "NoRow" "row" (.int n) x sl H Z.E):wE Z Rd.TN U H Q:=by
 refine zol m3 g.rw h0 ?_;by_cases h:nb (pk ws p)=true
 ·rw[vy h]at q ⊢;exact λH' k e=>q H' (Fr.fS k) (g.move k e (ip p))
 ·rw[vz h]at q ⊢;exact AQ q
theorem zmp (m2:Z.me[2]?=some (CR,("take_word":Str),spTW Z.K CR Z.mg))(m3:Z.me[3]?=some (CR,("take_name":Str),spTN Z.K CR Z.mg nb))(g:Rg Z.K CR H x dx wl kd sl n ws ks p sd)
  (q:if dY nb ws p=true then ∀H',Fr x sl H H'->Rg Z.K CR H' x dx wl kd sl n ws ks (p+2) sd->D0.rt (.str (pk ws p)) H' else iO Z.mg "NoRow" "row" (.int n) x sl H Z.E):wS Z Rd.iN D0 [some (.ref x),none] H:=by
 refine zcn m3 g rfl ?_;unfold dY at q;by_cases h:¬(nb (pk ws p)=true)
 ·rw[vz h];have:nb (pk ws p)=false:=by cases e:nb (pk ws p)<;>first|rfl|exact absurd e h
  rw[this]at q;exact q
 have h:=wb h;rw[vy h];intro H1 f1 g1;rw[h]at q;refine z4q m2 g1 rfl (by decide+kernel) ?_;by_cases h2:pk ws (p+1)="if"
 ·rw[vy h2];rw[we h2]at q;exact λH2 f2 g2=>⟨_,rfl,q H2 (f1.trans f2) g2⟩
 ·rw[vz h2];rw[wg h2]at q;exact g1.gF q f1
theorem Xa (rk:RowK Z.K CR)(g:Rg Z.K CR H x dx wl kd sl n ws ks p sd)(h0:U[0]?=some (some (.ref x)))(q:∀H',Same H H'->Q (.int (cntO ks)) H'):wE Z (.cnt (.lv Rd.KD) (.aW (.str "open"))) U H Q:=by
 show wE Z Rd.KD U H λx H1=>tyV Z.K "dict" x H1/\C9 x [] H1 λv H2=>Dd [v] H2 λl H3=>tyV Z.K "list" l H3/\(nM (wE Z (.aW (.str "open"))) eI) U H3 λxs H4=>rU l xs H4 Q;refine mW rk g.rw h0 (by decide) rfl ⟨.inr (.inr (.inl ⟨rfl,.inl ⟨_,g.kk⟩⟩)),kd,_,rfl,rfl,g.kk,λv hv=>?_⟩;refine⟨v,kd,_,rfl,bC,by rw[aK (by rintro rfl;rw[g.kk]at hv;cases hv)];exact g.kk,λl hl=>?_⟩;refine⟨.inl ⟨rfl,_,.inl (.inl bC)⟩,_,F0 _,_,fR,rfl,λw H2 s2 r2=>?_⟩;obtain⟨rfl,_⟩:=r2;have mL:=s2 _ _ bC;have e:(hG ks).map (·.2)=(ks.map (·.2)).map V.str:=by unfold hG;rw[gq,gq];rfl
 rw[e]at mL;exact⟨l,rfl,.inl ⟨_,"open",rfl,mL,q H2 (((Same.upd hv).trans (Same.upd hl)).trans s2)⟩⟩
theorem zm8 (rk:RowK Z.K CR)(hg:Z.gi[1]?=some 4)(m2:Z.me[2]?=some (CR,("take_word":Str),spTW Z.K CR Z.mg))(m3:Z.me[3]?=some (CR,("take_name":Str),spTN Z.K CR Z.mg nb))(f0:Z.fn[0]?=some (spNs Z.K CR Z.mg nb))(n0:nb ""=false)(g:Rg Z.K CR H x dx wl kd sl n ws ks p sd)
  (q:RdOk Z.K CR Z.mg x dx wl kd sl n ws ks H D0.rt Z.E (dZ nb ws ks p sd)):wS Z Rd.readOpen D0 [some (.ref x),none,none] H:=by
 refine Xa rk g rfl λH2 s2=>?_;have eg:wE Z (.gi 1)=λ_ H Q=>Q (.int 4) H:=by show(match Z.gi[1]? with|some n=>(λ_ H Q=>Q (.int n) H:TE)|none=>eG)=_;rw[hg]
 rw[eg];refine⟨aJ,aJ,.int (cntO ks),.int 4,.bool (decide (cntO ks=4)),rfl,rfl,?_,λw H3 s3 r3=>?_⟩
 ·show(Res.ok (eqD (.int (cntO ks)) (.int 4))>>=λb=>Res.ok (PyData.bool b))=_;rw[Dq]
  have:decide ((cntO ks:Int)=4)=decide (cntO ks=4):=by
   by_cases h:cntO ks=4
   ·rw[we h,we (by omega)]
   ·rw[wg h,wg (by omega)]
  rw[this];rfl
 cases r3;refine⟨_,rfl,?_⟩;have NK:=s2.trans s3;have g3:=g.same NK;have f3:Fr x sl H H3:=Fr.of_same NK;unfold dZ at q;by_cases h:cntO ks=4
 ·rw[vy h]at q;rw[we h];exact aX (sE rk g3 rfl f3 q)
 rw[vz h]at q;rw[wg h];refine aV (zcn m3 g3 rfl ?_);by_cases hb:¬(nb (pk ws p)=true)
 ·rw[vz hb]at q ⊢;exact g3.gF q f3
 rw[vy (wb hb)]at q ⊢;intro H4 f4 g4;have f4:=f3.trans f4;refine z4q m2 g4 rfl (by decide+kernel) ?_;by_cases hf:¬(pk ws (p+1)="for")
 ·rw[vz hf]at q ⊢;exact g4.gF q f4
 rw[vy (wb hf)]at q ⊢;intro H5 f5 g5;have f5:=f4.trans f5;show wE Z (.bW 0 (.cons (.raw 0) .nil)) [some (.ref x),some (.str (pk ws p)),none] H5 _;rw[lV f0];refine⟨.ref x,rfl,x,dx,wl,kd,sl,n,ws,ks,p+2,sd,rfl,g5,n0,?_⟩;cases e1:z1a nb ws (p+2) sd with
 |none=>rw[e1]at q;exact g5.gF q f5
 |some z=>
 obtain⟨n1,p1,s1⟩:=z;rw[e1]at q;intro H6 v1 f6 g6 rv1;have f6:=f5.trans f6;have qB:=HR n1;refine z4q m2 g6 rfl (by decide+kernel) ?_
 have q:RdOk Z.K CR Z.mg x dx wl kd sl n ws ks H D0.rt Z.E (if pk ws p1="against"then match z1a nb ws (p1+1) s1 with
   |none=>none
   |some (n2,p2,s2)=>some (.tuple [.str "open",.str (pk ws p),.tuple (n1.map .str),.tuple (n2.map .str)],p2,s2)
  else none):=q
 by_cases ha:¬(pk ws p1="against")
 ·rw[vz ha]at q ⊢;exact g6.gF q f6
 rw[vy (wb ha)]at q ⊢;intro H7 NL g7;have HY:Rep Z.K H7 aJ v1 (.tuple (n1.map PyData.str)):=Rep.cP (g6.fx NL) _ qB rv1;refine uC H7 _ λH8 s8=>⟨_,rfl,v1,rfl,?_⟩;have g8:=g7.same s8;have f8:=(f6.trans NL).trans (Fr.of_same s8);show wE Z (.bW 0 (.cons (.raw 0) .nil)) [some (.ref x),some (.str (pk ws p)),some v1] H8 _;rw[lV f0];refine⟨.ref x,rfl,x,dx,wl,kd,sl,n,ws,ks,p1+1,s1,rfl,g8,n0,?_⟩;cases e2:z1a nb ws (p1+1) s1 with
 |none=>rw[e2]at q;exact g8.gF q f8
 |some z=>
 obtain⟨n2,p2,s2⟩:=z;rw[e2]at q;intro H9 v2 f9 g9 rv2;refine⟨(show 4<=ba by rw[cg];decide),λt ht=>?_⟩;have sX:Same H9 (upd H9 t (.tup [.str "open",.str (pk ws p),v1,v2])):=Same.upd ht;refine q _ _ ((f8.trans f9).trans (Fr.of_same sX)) (g9.same sX) ⟨t,_,rfl,.inl (.inl bC),_,_,rfl,⟨rfl,by decide+kernel⟩,_,_,rfl,⟨rfl,((dP (p:=p) g.rw.dX).1)⟩,_,_,rfl,(Rep.cP (g8.fx f9) _ qB (HY.same s8 λ_ h=>h)).same sX (λ_ h=>h),_,_,rfl,rv2.same sX (λ_ h=>h),rfl⟩ ?_;show(true&&(true&&(imm (.tuple (n1.map PyData.str))&&(imm (.tuple (n2.map PyData.str))&&true))))=true;rw[qB,HR n2];rfl
end
def bJ (ks:List (Str×Str)):List D->Option Str
 | []=>none
 |.tuple [.str nm,.tuple ts]::r=>if(ts.any λy=>eqD y (match lkG ks nm with|some s=>.str s|none=>.none))=true then bJ ks r else some nm
 |_::r=>bJ ks r
def bS (ks:List (Str×Str))(nm:Str):Bool:=(lkG ks nm).isSome
section
variable {Z:Wc}{H:Hp}{U:L2.St}{CR x dx wl kd sl:Addr}{n:Int}{ws:List Str}{ks:List (Str×Str)}{p:Nat}{sd:List D}{nb:Str->Bool}{nf:Str->Option Int}
theorem zpp {e:W}{s t:Str}{f:Ro}{Q:VK}{j:Nat}(oks:PyData.strOk s=true)(okt:PyData.strOk t=true)(f1:Z.fn[1]?=some (spHg Z.K CR Z.mg nb))(r:Rg Z.K CR H x dx wl kd sl n ws ks p sd)(h0:U[0]?=some (some (.ref x)))(ht:t=pk ws p)
  (he:∀(H':Hp) (Q:VK),Rg Z.K CR H' x dx wl kd sl n ws ks (p+2) sd->RdOk Z.K CR Z.mg x dx wl kd sl n ws ks H' Q Z.E f->wE Z e U H' Q)
  (q:RdOk Z.K CR Z.mg x dx wl kd sl n ws ks H Q Z.E (if dY nb ws p=true then jV s t f else none)):wE Z (.tup (.cons (.aW (.str s)) (.cons (.bW 1 (.cons (.raw 0) .nil)) (.cons e .nil)))) U H Q:=by
 show wE Z (.aW (.str s)) U H _;refine uC H _ λH1 s1=>?_;have r1:=r.same s1;show wE Z (.bW 1 (.cons (.raw 0) .nil)) U H1 _;rw[lV f1];refine⟨.ref x,h0,x,dx,wl,kd,sl,n,ws,ks,p,sd,rfl,r1,?_⟩;by_cases h:¬(dY nb ws p=true)
 ·rw[vz h]at q ⊢;exact r1.gF q (Fr.of_same s1)
 have h:=wb h;rw[vy h]at q ⊢;intro H2 f2 r2;have f2:Fr x sl H H2:=(Fr.of_same s1).trans f2;show wE Z e U H2 _;refine he H2 _ r2 ?_;cases f with
 |none=>exact r2.gF q f2
 |some z=>obtain⟨d,p',hZ⟩:=z;intro H3 v f3 r3 rv im;refine⟨(show 3<=ba by rw[cg];decide),λtt hh=>?_⟩;have s4:Same H3 (upd H3 tt (.tup [.str s,.str (pk ws p),v])):=Same.upd hh;subst ht;refine q _ _ ((f2.trans f3).trans (Fr.of_same s4)) (r3.same s4) ⟨tt,_,rfl,.inl (.inl bC),⟨_,_,rfl,⟨rfl,oks⟩,_,_,rfl,⟨rfl,okt⟩,_,_,rfl,rv.same s4 (λ_ h=>h),rfl⟩⟩ ?_;show(true&&(true&&(imm d&&true)))=true;rw[im];rfl
structure RowZ (Z:Wc)(CR:Addr)(nb:Str->Bool)(nf:Str->Option Int):Prop where
 g2:Z.gi[2]?=some 8
 m1:Z.me[1]?=some (CR,("take":Str),z11 Z.K CR)
 m3:Z.me[3]?=some (CR,("take_name":Str),spTN Z.K CR Z.mg nb)
 m4:Z.me[4]?=some (CR,("take_end":Str),AL Z.K CR Z.mg)
 f0:Z.fn[0]?=some (spOg Z.K CR Z.mg nb)
 f1:Z.fn[1]?=some (spHg Z.K CR Z.mg nb)
 f2:Z.fn[2]?=some (spR Z.K CR Z.mg 8 λws ks=>z1c nb nf ws ks 8)
 f3:Z.fn[3]?=some (spR Z.K CR Z.mg 8 λws ks=>z2a nb nf ws ks 8)
theorem NM (g2:Z.gi[2]?=some 8)(hj:Z.fn[j]?=some (spR Z.K CR Z.mg 8 f))(g:Rg Z.K CR H x dx wl kd sl n ws ks p sd)(h0:U[0]?=some (some (.ref x)))(q:RdOk Z.K CR Z.mg x dx wl kd sl n ws ks H Q Z.E (f ws ks p sd)):wE Z (.bW j (.cons (.raw 0) (.cons (.gi 2) .nil))) U H Q:=by
 rw[lV hj];refine⟨.ref x,h0,?_⟩;have eg:wE Z (.gi 2)=λ_ H Q=>Q (.int 8) H:=by show(match Z.gi[2]? with|some n=>(λ_ H Q=>Q (.int n) H:TE)|none=>eG)=_;rw[g2]
 show wE Z (.gi 2) U H λy H1=>spR Z.K CR Z.mg 8 f [.ref x,y] H1 Q Z.E;rw[eg];exact⟨x,dx,wl,kd,sl,n,ws,ks,p,sd,rfl,g,q⟩
theorem znt {D0:Ends}(rk:RowK Z.K CR)(z:RowZ Z CR nb nf)(n0:nb ""=false)(g:Rg Z.K CR H x dx wl kd sl n ws ks 0 sd)
  (q:RdOk Z.K CR Z.mg x dx wl kd sl n ws ks H D0.rt Z.E (aY nb nf ws ks sd)):wS Z Rd.readRow D0 [some (.ref x),none,none] H:=by
 refine yl z.m1 g rfl λH1 k1 g1=>?_;have yn:=(dP (p:=0) g.rw.dX).1;have sF:=(dP (p:=1) g.rw.dX).1
 have fin:∀{o:Ro} {H2:Hp} {a2:Option V},bV nb nf ws ks sd=o->Fr x sl H H2->(∃p' hZ,Rg Z.K CR H2 x dx wl kd sl n ws ks p' hZ)->RdOk Z.K CR Z.mg x dx wl kd sl n ws ks H2 (λv H3=>wS Z (.seq (.exp (.eR (.raw 0) 4 .nil)) (.seq (.ret (.raw 2)) .nil)) D0 [some (.ref x),some (.str (pk ws 0)),some v] H3) Z.E o:=by
  intro o H2 a2 e f2 ⟨p2,AU,g2⟩;unfold aY at q;rw[e]at q;cases o with
  |none=>exact g2.gF q f2
  |some y=>
   obtain⟨d,p',hZ⟩:=y;intro H3 v f3 g3 rv im;show wE Z (.eR (.raw 0) 4 .nil) [some (.ref x),some (.str (pk ws 0)),some v] H3 _;rw[yj z.m4];refine⟨.ref x,rfl,x,dx,_,rfl,g3.rw.ins,rfl,x,dx,wl,kd,sl,n,ws,_,rfl,g3.rw,?_⟩;have q:RdOk Z.K CR Z.mg x dx wl kd sl n ws ks H D0.rt Z.E (if p'<ws.length then none else some (d,p',hZ)):=q;by_cases h:p'<ws.length
   ·rw[vy h]at q ⊢;exact AQ (g3.gF q (f2.trans f3))
   ·rw[vz h]at q ⊢;exact λH4 s4=>⟨v,rfl,q H4 v ((f2.trans f3).trans (Fr.of_same s4)) (g3.same s4) (rv.same s4 λ_ h=>h) im⟩
 have ex:bV nb nf ws ks sd=none->iO Z.mg "NoRow" "row" (.int n) x sl H Z.E:=λe=>by unfold aY at q;rw[e]at q;exact q
 show wS Z (.seq _ _) D0 [some (.ref x),some (.str (pk ws 0)),none] H1;refine AM (i:=1) (a:=pk ws 0) (b:="fact") rfl yn λH2 s2=>?_;have g2:=g1.same s2;have f2:=(Fr.fS k1).trans (Fr.of_same (x:=x) (sl:=sl) s2);by_cases h:pk ws 0="fact"
 ·have e:bV nb nf ws ks sd=if nb (pk ws 1)=true then some (.tuple [.str "fact",.str (pk ws 1)],2,sd)else none:=by unfold bV;rw[vy h]
  rw[we h];refine aX ?_;show wE Z (.aW (.str "fact")) [some (.ref x),some (.str (pk ws 0)),none] H2 _;refine uC H2 _ λH3 s3=>?_;have g3:=g2.same s3;have f3:=f2.trans (Fr.of_same (x:=x) (sl:=sl) s3);show wE Z Rd.TN [some (.ref x),some (.str (pk ws 0)),none] H3 _;refine zcn z.m3 g3 rfl ?_;by_cases hb:nb (pk ws 1)=true
  ·rw[vy hb]at e ⊢;intro H4 f4 g4;refine⟨(show 2<=ba by rw[cg];decide),λt ht=>?_⟩;have s5:Same H4 (upd H4 t (.tup [.str "fact",.str (pk ws 1)])):=Same.upd ht;exact fin (a2:=none) e (f3.trans f4) ⟨_,_,g4⟩ _ (.ref t) (Fr.of_same s5) (g4.same s5) ⟨t,_,rfl,.inl (.inl bC),⟨_,_,rfl,⟨rfl,by decide+kernel⟩,_,_,rfl,⟨rfl,sF⟩,rfl⟩⟩ rfl
  ·rw[vz hb]at e ⊢;exact g3.gF (ex e) f3
 rw[wg h];refine aV (AM (i:=1) (a:=pk ws 0) (b:="open") rfl yn λH3 s3=>?_);have g3:=g2.same s3;have f3:=f2.trans (Fr.of_same (x:=x) (sl:=sl) s3);by_cases ho:pk ws 0="open"
 ·have e:bV nb nf ws ks sd=dZ nb ws ks 1 sd:=by unfold bV;rw[vz h,vy ho]
  rw[we ho];refine aX ?_;show wE Z (.bW 0 (.cons (.raw 0) .nil)) [some (.ref x),some (.str (pk ws 0)),none] H3 _;rw[lV z.f0];exact⟨.ref x,rfl,x,dx,wl,kd,sl,n,ws,ks,1,sd,rfl,g3,n0,fin (a2:=none) e f3 ⟨_,_,g3⟩⟩
 rw[wg ho];refine aV (AM (i:=1) (a:=pk ws 0) (b:="word") rfl yn λH4 s4=>?_);have g4:=g3.same s4;have f4:=f3.trans (Fr.of_same (x:=x) (sl:=sl) s4);by_cases hw:pk ws 0="word"
 ·have e:bV nb nf ws ks sd=if dY nb ws 1=true then jV "word" (pk ws 1) (z1c nb nf ws ks 8 3 sd)else none:=by unfold bV;rw[vz h,vz ho,vy hw]
  rw[we hw];exact aX (zpp (U:=[some (.ref x),some (.str (pk ws 0)),none]) (j:=0) (by decide+kernel) sF z.f1 g4 rfl rfl (λH' Q g' q=>NM z.g2 z.f2 g' rfl q) (fin (a2:=none) e f4 ⟨_,_,g4⟩))
 rw[wg hw];refine aV (AM (i:=1) (a:=pk ws 0) (b:="claim") rfl yn λH5 s5=>?_);have g5:=g4.same s5;have f5:=f4.trans (Fr.of_same (x:=x) (sl:=sl) s5);by_cases hc:pk ws 0="claim"
 ·have e:bV nb nf ws ks sd=if dY nb ws 1=true then jV "claim" (pk ws 1) (z2a nb nf ws ks 8 3 sd)else none:=by unfold bV;rw[vz h,vz ho,vz hw,vy hc]
  rw[we hc];exact aX (zpp (U:=[some (.ref x),some (.str (pk ws 0)),none]) (j:=0) (by decide+kernel) sF z.f1 g5 rfl rfl (λH' Q g' q=>NM z.g2 z.f3 g' rfl q) (fin (a2:=none) e f5 ⟨_,_,g5⟩))
 rw[wg hc];exact aV (sE rk g5 rfl f5 (ex (by unfold bV;rw[vz h,vz ho,vz hw,vz hc])))
end
def mY (ks:List (Str×Str))(nm:Str):D:=match lkG ks nm with|some s=>.str s|none=>.none
theorem NO:∀{ks:List (Str×Str)},(gO (Dr ks) (.str nm)).isSome=bS ks nm
 | []=>rfl
 |y::ks=>by
  have ih:=NO (nm:=nm) (ks:=ks);unfold gO Dr at ih ⊢;unfold bS lkG at ih ⊢;rw[bx,dg,dg];rw[WX];by_cases h:y.1=nm
  ·rw[we h];rfl
  ·rw[wg h];exact ih
theorem Xb {ts:List Str}:bJ ks (.tuple [.str nm,.tuple (ts.map .str)]::r)=if((ts.map PyData.str).any λy=>eqD y (mY ks nm))=true then bJ ks r else some nm:=by rw[bJ];rfl
theorem four (h:l.length=4):∃a b c d,l=[a,b,c,d]:=by rcases l with _|⟨a,_|⟨b,_|⟨c,_|⟨d,_|⟨e,l⟩⟩⟩⟩⟩<;>first|exact⟨_,_,_,_,rfl⟩|(simp at h;done)|(simp at h;omega)
def pG (mg:Str->Option Value)(x sl:Addr)(ks:List (Str×Str))(nm:Str)(sd:List D)(H:Hp)(Q:Hp->Prop)(E:XK):Prop:=
 if bS ks nm=true then iO mg "Twice" "name" (.str nm) x sl H E else match bJ ks sd with
  |some u=>iO mg "Unknown" "name" (.str u) x sl H E
  |none=>∀H',Same H H'->Q H'
def spCg (K:W.Frag)(CR:Addr)(mg:Str->Option Value):Sp:=λvs H Q E=>∃x dx wl kd sl n ws ks p sd nm,vs=[.ref x,.str nm]/\Rg K CR H x dx wl kd sl n ws ks p sd/\PyData.strOk nm=true/\pG mg x sl ks nm sd H (λH'=>Q .non H') E
section
variable {Z:Wc}{H:Hp}{CR x dx wl kd sl:Addr}{n:Int}{ws:List Str}{ks:List (Str×Str)}{p:Nat}{sd:List D}
theorem NP {C:Addr}(g:Rg Z.K CR H1 x dx wl kd sl n ws ks p sd)(ex:iO Z.mg c fl y x sl H Z.E)(k:Fr x sl H H1)(hC:Z.mg c=some (.ref C))(hd:H1 dp=none):Z.E (.ref C) (some dp) (upd H1 dp (.xd [(fl,y)])):=(g.gF ex k) C _ dp hC hd bC (Fr.of_same (Same.upd hd))
theorem Xc (rk:RowK Z.K CR)(g:Rg Z.K CR H x dx wl kd sl n ws ks p sd)(okn:PyData.strOk nm=true)(q:pG Z.mg x sl ks nm sd H (λH'=>∀σ',D0.nx σ' H') Z.E):wS Z Rd.eZ D0 [some (.ref x),some (.str nm),none,none] H:=by
 have rd:Rep Z.K H aJ (.ref kd) (.dict (Dr ks)):=⟨kd,_,rfl,g.kk,trivial,Nu g.mX⟩;refine⟨.str nm,rfl,mW rk g.rw rfl (by decide) rfl (WO (B:=aJ) (dx:=.str nm) ⟨rfl,okn⟩ rd rfl λH1 s1=>⟨_,rfl,?_⟩)⟩;rw[NO];have g1:=g.same s1;have f1:Fr x sl H H1:=Fr.of_same s1;unfold pG at q;cases hh:bS ks nm with
 |true=>rw[vy hh]at q;exact aX λC hC=>⟨.str nm,rfl,λdp hd=>NP g1 q f1 hC hd⟩
 |false=>
  rw[vz (by rw[hh];decide)]at q;refine aV ?_;have go:∀Q:VK,Q (.ref sl) H1->wE Z Rd.SD [some (.ref x),some (.str nm),none,none] H1 Q:=λQ q=>mW rk g1.rw rfl (by decide) rfl q;show jG (yL Z.K (wE Z Rd.SD)) _ _ _ _ H1;unfold jG yL;refine go _ ?_;obtain⟨vs,h1,h2⟩:=g1.sq;refine⟨sl,rfl,⟨vs,.inl (.inl h1)⟩,λi m σ' H'=>m=sd.length-i/\i<=sd.length/\(∃a1 a2 a3,σ'=[some (.ref x),a1,a2,a3])/\Same H1 H'/\bJ ks (sd.drop i)=bJ ks sd,⟨_,rfl,dv _,⟨_,_,_,rfl⟩,Same.refl _,rfl⟩,?_⟩
  rintro i m σ' H' ⟨rfl,hi,⟨a1,a2,a3,rfl⟩,s2,hu⟩
  have g2:=g1.same s2;have HZ:SqL Z.K H' sl vs:=.inl (.inl (s2 _ _ h1));by_cases cM:¬(i<sd.length)
  ·have zL:i=sd.length:=by omega
   subst zL;rw[m9]at hu;rw[<-hu]at q;exact .inl ⟨⟨vs,HZ,uc h2.length⟩,q H' (s1.trans s2) _⟩
  have cM:=wb cM;have rF:=li cM;obtain⟨un,ts,Xd⟩:=g.wf _ (jz cM);obtain⟨v,hv,rv⟩:=aD.get (h2.same s2 (λ_ h=>h)) (bn cM);rw[Xd]at rv rF;rw[rF,Xb]at hu;refine .inr ⟨⟨vs,v,HZ,hv⟩,λeP H2=>(∃a1 a2 a3,eP=[some (.ref x),a1,a2,a3])/\Same H1 H2/\bJ ks (sd.drop (i+1))=bJ ks sd,λeP H2 ⟨w1,w2,w3⟩=>⟨sd.length-(i+1),by omega,rfl,cM,w1,w2,w3⟩,λy H2 hy=>?_⟩;obtain⟨rfl,hy⟩:=hy;cases hv.symm.trans (hy vs HZ);refine⟨bq 4 none,F0 H2,(.od,.tuple [.str un,.tuple (ts.map PyData.str)]),[none,none,some (.al,.str un),some (.al,.tuple (ts.map PyData.str))],kQ rfl (λj g d' e=>?_),rv.old,?_,λkY F3 AV eD=>?_⟩
  ·rw[cz]at e;split at e<;>cases e
  ·have e:gJ (.tuple (ts.map PyData.str)) .od=.fr:=vy (HR ts);show Res.ok [none,none,some (jL (G.fr,.str un)),some (jL (gJ (.tuple (ts.map PyData.str)) G.od,.tuple (ts.map PyData.str)))]=_;rw[e];rfl
  obtain⟨v2,hv2,r2⟩:=AV.sl 2 .al (.str un) rfl;obtain⟨v3,Ia,r3⟩:=AV.sl 3 .al (.tuple (ts.map PyData.str)) rfl;obtain⟨rfl,Z3⟩:=r2;obtain⟨b0,b1,b2,b3,rfl⟩:=four eD.len;cases(eD.rest 0 (by decide));cases hv2;cases Ia;show wE Z Rd.KD [some (.ref x),b1,some (.str un),some v3] H2 λx' H1=>∃a,x'=.ref a/\IsD H1 a/\(wE Z (.raw 2)) [some (.ref x),b1,some (.str un),some v3] H1 λy H2=>∃o,DGet H2 a y o/\(wE Z (.raw 3)) [some (.ref x),b1,some (.str un),some v3] H2 λb' H3=>mQ Z.K (mB (cmpD .NotIn)) (o.getD .non) b' H3 _;refine mW rk g2.rw rfl (by decide) rfl ⟨kd,rfl,.inl ⟨_,.inl g2.kk⟩,.str un,rfl,_,.inl ⟨_,.inr un,.inl g2.kk,rfl,rfl⟩,v3,rfl,?_⟩;rw[NG]
  have rl:Rep Z.K H2 aJ (((lkG ks un).map V.str).getD .non) (mY ks un):=by
   unfold mY;cases e:lkG ks un with
   |none=>exact rfl
   |some t=>exact⟨rfl,NH g.mX e⟩
  have sh:bY 40 (mY ks un)=true:=by unfold mY;cases lkG ks un<;>rfl
  refine⟨aJ,_,mY ks un,.tuple (ts.map PyData.str),.bool (!((ts.map PyData.str).any λy=>eqD y (mY ks un))),rl,r3,?_,λw H3 s3 Xe=>?_⟩
  ·show((inD (mY ks un) (.tuple (ts.map PyData.str))>>=λb=>Res.ok (!b))>>=λb=>Res.ok (PyData.bool b))=_;have:inD (mY ks un) (.tuple (ts.map PyData.str))=.ok ((ts.map PyData.str).any λy=>eqD y (mY ks un)):=by show(if(bY 40 (mY ks un)&&iX 40 (ts.map PyData.str))=true then _ else _)=_;rw[sh,HU];rfl
   rw[this];rfl
  cases Xe;refine⟨_,rfl,?_⟩;cases AW:(ts.map PyData.str).any λy=>eqD y (mY ks un)with
  |true=>rw[vy AW]at hu;exact aV ⟨⟨_,_,_,rfl⟩,s2.trans s3,hu⟩
  |false=>rw[vz (by rw[AW];decide)]at hu;rw[<-hu]at q;exact aX λC hC=>⟨.str un,rfl,λdp hd=>NP (g2.same s3) q ((f1.trans (Fr.of_same s2)).trans (Fr.of_same s3)) hC hd⟩
end
inductive Rx where
 |ok (act:List D)|row (k:Nat)|tw (s:Str)|un (s:Str)
def eS (nb:Str->Bool)(nf:Str->Option Int):Nat->List D->List (Str×Str)->List Str->Rx
 |_,act,_,[]=>.ok act
 |k,act,ks,r::rs=>if k=24 then .row k else match aY nb nf (spW 32 r) ks []with
  |none=>.row k
  |some (d,_,sd)=>if bS ks (pk (spW 32 r) 1)=true then .tw (pk (spW 32 r) 1)else match bJ ks sd with
   |some u=>.un u
   |none=>eS nb nf (k+1) (act++[d]) (ks++[(pk (spW 32 r) 1,pk (spW 32 r) 0)]) rs
def jX (nb:Str->Bool)(nf:Str->Option Int):D->Rx
 |.str t=>eS nb nf 0 [] [] (spW 10 t)
 |_=>.row 0
def wY (K:W.Frag)(mg:Str->Option Value)(H:Hp)(Q:VK)(E:XK):Rx->Prop
 |.ok act=>∀H' l,Same H H'->Rep K H' (nw H) (.ref l) (.list act)->Q (.ref l) H'
 |.row k=>lW mg "NoRow" "row" (.int k) H E
 |.tw s=>lW mg "Twice" "name" (.str s) H E
 |.un s=>lW mg "Unknown" "name" (.str s) H E
theorem NQ:∀xs,(aT c xs).length<=xs.length+1
 | []=>ag _
 |a::r=>by
  have ih:=NQ (c:=c) r;unfold aT;split
  ·exact j6 ih
  ·cases e:aT c r with
   |nil=>exact j6 (dv _)
   |cons h t=>rw[e]at ih;exact Nat.le_succ_of_le ih
theorem Xf:(spW c t).length<=t.length+1:=by
 unfold spW;rw[aq];have:=NQ (c:=c) t.cps.toList;have e:t.cps.toList.length=t.length:=by rw[cq];rfl
 omega
theorem Xi (h:aY nb nf ws ks sd=some (d,p,s)):∃r,d=.tuple (.str (pk ws 0)::.str (pk ws 1)::r):=by
 have t3:∀{a b:Str} {o:Ro} {d:D} {p:Nat} {s:List D},jV a b o=some (d,p,s)->∃r,d=.tuple (.str a::.str b::r):=by
  intro a b o d p s h;cases o with
  |none=>cases h
  |some z=>obtain⟨d',p',s'⟩:=z;cases h;exact⟨_,rfl⟩
 have key:∀{d:D} {p:Nat} {s:List D},bV nb nf ws ks sd=some (d,p,s)->∃r,d=.tuple (.str (pk ws 0)::.str (pk ws 1)::r):=by
  intro d p s h;unfold bV at h;split at h
  ·rename_i e;split at h
   ·cases h;rw[e];exact⟨_,rfl⟩
   ·cases h
  split at h
  ·rename_i e;rw[e];unfold dZ at h;split at h
   ·cases h
   split at h
   ·split at h
    ·split at h
     ·cases h
     ·split at h
      ·split at h
       ·cases h
       ·cases h;exact⟨_,rfl⟩
      ·cases h
    ·cases h
   ·cases h
  split at h
  ·rename_i e;rw[e];split at h
   ·exact t3 h
   ·cases h
  split at h
  ·rename_i e;rw[e];split at h
   ·exact t3 h
   ·cases h
  ·cases h
 unfold aY at h;split at h
 ·cases h
 ·rename_i e;split at h
  ·cases h
  ·cases h;exact key e
theorem Xj (h:bS ks nm=false):putK (hG ks) (.inr nm) (V.str kd)=hG (ks++[(nm,kd)]):=by
 unfold putK;rw[vz]
 ·unfold hG;rw[ef];rfl
 ·intro z;obtain⟨kv,Xk,e⟩:=qa.mp z;obtain⟨y,hy,rfl⟩:=dh.mp Xk;unfold bS lkG at h;rw[mh]at h;have:(ks.find? λy=>decide (y.1=nm)).isSome=true:=List.find?_isSome.mpr ⟨y,hy,we (Sum.inr.inj (wc e))⟩;rw[this]at h;cases h
def spAg (K:W.Frag)(mg:Str->Option Value)(nb:Str->Bool)(nf:Str->Option Int):Sp:=λvs H Q E=>∃v d B,vs=[v]/\Rep K H B v d/\nb ""=false/\(∀t,d=.str t->okS t/\t.length<LIM/\(spW 10 t).length<=1000)/\wY K mg H Q E (jX nb nf d)
section
variable {Z:Wc}{H:Hp}{CR:Addr}{nb:Str->Bool}{nf:Str->Option Int}
theorem Ib (ex:lW Z.mg c fl y H Z.E)(s:Same H H1)(hx:H x=none)(hs:H sl=none):iO Z.mg c fl y x sl H1 Z.E:=λC H' dp hC h1 hd k=>ex C H' dp hC (s.none h1) hd λb o e=>k b o (by rintro rfl;rw[hx]at e;cases e) (by rintro rfl;rw[hs]at e;cases e) (s b o e)
theorem Ic (hi:U[6]?=some (some v))(rv:Rep Z.K H aJ v (.tuple (.str a::.str b::r)))(hj:iG (.tuple (.str a::.str b::r)) (.int j)=.ok (.str c))(q:∀H',Same H H'->Q (.str c) H'):wE Z (.ix (.raw 6) (.aW (.int j))) U H Q:=by refine⟨v,hi,_,F0 H,_,fR,rfl,λw H1 s1 r1=>?_⟩;cases r1;refine⟨aJ,aJ,.tuple (.str a::.str b::r),.int j,.str c,rv.same s1 (λ_ h=>h),rfl,hj,λw rw=>?_⟩;obtain⟨rfl,_⟩:=rw;exact q H1 s1
theorem Ie:iG (.tuple (.str a::.str b::r)) (.int (0:Nat))=.ok (.str a):=by
 show Res.eQ (cF (.str a::.str b::r) 0)=_;have:cF (.str a::.str b::r:List D) 0=some (.str a):=by unfold cF lB;rw[vy (by decide),vy (by rw[ay];omega)];rfl
 rw[this];rfl
theorem AX:iG (.tuple (.str a::.str b::r)) (.int (1:Nat))=.ok (.str b):=by
 show Res.eQ (cF (.str a::.str b::r) 1)=_;have:cF (.str a::.str b::r:List D) 1=some (.str b):=by unfold cF lB;rw[vy (by decide),vy (by rw[ay,ay];omega)];rfl
 rw[this];rfl
theorem zp5 {D1:Ends}{ap kd:Addr}{k:Nat}{r:Str}{a0 a5 a6:Option V}{vs:List V}{ks:List (Str×Str)}(g0:Z.gi[0]?=some 24)(c0:Z.cl[0]?=some (CR,spRI Z.K CR))(f0:Z.fn[0]?=some (spRg Z.K CR Z.mg nb nf))(f1:Z.fn[1]?=some (spCg Z.K CR Z.mg))
  (ha:H ap=some (.lst vs)) (hk:H kd=some (.dK (hG ks))) (mX:∀y∈ks,PyData.strOk y.1=true/\PyData.strOk y.2=true) (Xl:okS r) (Xm:r.length<LIM) (n0:nb ""=false) (hv:vs.length<1000) (Z4:ks.length<1000)
  (q:if k=24 then lW Z.mg "NoRow" "row" (.int k) H Z.E else match aY nb nf (spW 32 r) ks []with
   |none=>lW Z.mg "NoRow" "row" (.int k) H Z.E
   |some (d,_,sd)=>if bS ks (pk (spW 32 r) 1)=true then lW Z.mg "Twice" "name" (.str (pk (spW 32 r) 1)) H Z.E else match bJ ks sd with
    |some u=>lW Z.mg "Unknown" "name" (.str u) H Z.E
    |none=>∀b5 b6 H' v,(∀b o,b≠ap->b≠kd->H b=some o->H' b=some o)->H' ap=some (.lst (vs++[v]))->H' kd=some (.dK (hG (ks++[(pk (spW 32 r) 1,pk (spW 32 r) 0)])))->Rep Z.K H' aJ v d->imm d=true->(PyData.strOk (pk (spW 32 r) 1)=true/\PyData.strOk (pk (spW 32 r) 0)=true)->D1.nx [a0,some (.ref ap),some (.ref kd),some (.int k),some (.str r),b5,b6] H'):
  wS Z Rd.readBody D1 [a0,some (.ref ap),some (.ref kd),some (.int k),some (.str r),a5,a6] H:=by
 refine⟨.int k,rfl,?_⟩;have eg:wE Z (.gi 0)=λ_ H Q=>Q (.int 24) H:=by show(match Z.gi[0]? with|some n=>(λ_ H Q=>Q (.int n) H:TE)|none=>eG)=_;rw[g0]
 rw[eg];refine⟨aJ,aJ,.int k,.int 24,.bool (decide ((k:Int)=24)),rfl,rfl,?_,λw H1 s1 r1=>?_⟩
 ·show(Res.ok (eqD (.int k) (.int 24))>>=λb=>Res.ok (PyData.bool b))=_;rw[Dq];rfl
 cases r1;refine⟨_,rfl,?_⟩;by_cases AY:k=24
 ·rw[vy AY]at q;rw[we (by omega)];refine aX λC hC=>⟨.int k,rfl,λdp hd=>Nt q s1 hC hd⟩
 rw[vz AY]at q;rw[wg (by omega)];refine aV ?_;show wE Z (.mk 0 _) _ _ _;rw[WY c0];refine⟨.int k,rfl,.str r,rfl,.ref kd,rfl,λx dx hx CS ne=>⟨x,dx,kd,k,r,rfl,bC,Xl,λH2 wl sl k2 Ig nQ Dp Dm=>⟨rfl,?_⟩⟩⟩;have Dv:H x=none:=s1.none hx
 have s2:Same H H2:=λb o e=>by
  have e1:=s1 b o e;have nx:b≠x:=by rintro rfl;rw[hx]at e1;cases e1
  have nd:b≠dx:=by rintro rfl;rw[CS]at e1;cases e1
  exact k2 b o nx (by rw[aK nx,aK nd];exact e1)
 have sG:H sl=none:=by
  cases e:H sl with
  |none=>rfl
  |some o=>
   have e1:=s1 sl o e;have nx:sl≠x:=by rintro rfl;rw[hx]at e1;cases e1
   have nd:sl≠dx:=by rintro rfl;rw[CS]at e1;cases e1
   rw[aK nx,aK nd,e1]at Dp;cases Dp
 have g2:Rg Z.K CR H2 x dx wl kd sl k (spW 32 r) ks 0 []:=⟨Ig,s2 _ _ hk,mX,⟨[],nQ,rfl⟩,rfl,(λ_ h=>by cases h),Dm,ag _,b8 Xf Xm⟩;show wE Z (.bW 0 (.cons (.raw 5) .nil)) [a0,some (.ref ap),some (.ref kd),some (.int k),some (.str r),some (.ref x),a6] H2 _;rw[lV f0];refine⟨.ref x,rfl,x,dx,wl,kd,sl,k,_,ks,[],rfl,g2,n0,?_⟩;cases hr:aY nb nf (spW 32 r) ks []with
 |none=>rw[hr]at q;exact Ib q s2 Dv sG
 |some z=>
  obtain⟨d,p',sd⟩:=z;rw[hr]at q;obtain⟨rest,hd⟩:=Xi hr;have sF:=(dP (p:=1) Ig.dX).1;have yn:=(dP (p:=0) Ig.dX).1;intro H3 v f3 g3 rv im;have s3:Same H H3:=λb o e=>f3 b o (by rintro rfl;rw[Dv]at e;cases e) (by rintro rfl;rw[sG]at e;cases e) (s2 b o e);have oK:Rep Z.K H3 aJ v (.tuple (.str (pk (spW 32 r) 0)::.str (pk (spW 32 r) 1)::rest)):=by rw[<-hd];exact rv
  show wE Z (.bW 1 (.cons (.raw 5) (.cons (.ix (.raw 6) (.aW (.int (1:Nat)))) .nil))) [a0,some (.ref ap),some (.ref kd),some (.int k),some (.str r),some (.ref x),some v] H3 _;rw[lV f1];refine⟨.ref x,rfl,Ic rfl oK AX λH4 s4=>?_⟩;have g4:=g3.same s4;refine⟨x,dx,wl,kd,sl,k,_,ks,p',sd,_,rfl,g4,sF,?_⟩;unfold pG
  have q:if bS ks (pk (spW 32 r) 1)=true then lW Z.mg "Twice" "name" (.str (pk (spW 32 r) 1)) H Z.E else match bJ ks sd with
   |some u=>lW Z.mg "Unknown" "name" (.str u) H Z.E
   |none=>∀b5 b6 H' v,(∀b o,b≠ap->b≠kd->H b=some o->H' b=some o)->H' ap=some (.lst (vs++[v]))->H' kd=some (.dK (hG (ks++[(pk (spW 32 r) 1,pk (spW 32 r) 0)])))->Rep Z.K H' aJ v d->imm d=true->(PyData.strOk (pk (spW 32 r) 1)=true/\PyData.strOk (pk (spW 32 r) 0)=true)->D1.nx [a0,some (.ref ap),some (.ref kd),some (.int k),some (.str r),b5,b6] H':=q
  by_cases hm:bS ks (pk (spW 32 r) 1)=true
  ·rw[vy hm]at q ⊢;exact Ib q (s3.trans s4) Dv sG
  rw[vz hm]at q ⊢;have GL:bS ks (pk (spW 32 r) 1)=false:=by cases e:bS ks (pk (spW 32 r) 1)<;>first|rfl|exact absurd e hm
  cases hu:bJ ks sd with
  |some u=>rw[hu]at q;exact Ib q (s3.trans s4) Dv sG
  |none=>
   rw[hu]at q;intro H5 s5;have Dw:=s4.trans s5;refine Ic rfl (oK.same Dw λ_ h=>h) Ie λH6 s6=>⟨.ref kd,rfl,Ic rfl (oK.same (Dw.trans s6) λ_ h=>h) AX λH7 s7=>.inl ⟨kd,_,rfl,.inl ⟨hG ks,.inr (pk (spW 32 r) 1),?_,rfl,?_,rfl⟩,?_⟩⟩
   ·exact(s3.trans (Dw.trans (s6.trans s7))) _ _ hk
   ·have :(hG ks).length=ks.length:=by unfold hG;rw[aq]
    rw[this,cg];omega
   ·have NR:Same H3 H7:=Dw.trans (s6.trans s7);have Dx:Same H H7:=s3.trans NR;have NS:ap≠kd:=by rintro rfl;rw[ha]at hk;cases hk
    have HY:=rv.same NR λ_ h=>h;have NT:upd H7 kd (.dK (putK (hG ks) (.inr (pk (spW 32 r) 1)) (.str (pk (spW 32 r) 0)))) ap=some (.lst vs):=by rw[aK NS];exact Dx _ _ ha
    refine⟨.ref ap,rfl,.inl ⟨rfl,_,.inl (.inl NT)⟩,v,rfl,ap,vs,v,rfl,rfl,NT,by rw[cg];omega,?_⟩;refine q _ _ _ v (λb o h1 h2 e=>?_) bC ?_ ?_ im ⟨sF,yn⟩
    ·rw[aK h1,aK h2];exact Dx b o e
    ·rw[aK (Ne.symm NS),bC,Xj GL]
    ·refine Rep.cP (λa o e fx=>?_) _ im HY;rw[aK (by rintro rfl;rw[Dx _ _ ha]at e;cases e;exact fx.elim),aK (by rintro rfl;rw[Dx _ _ hk]at e;cases e;exact fx.elim)];exact e
end
section
variable {Z:Wc}{H:Hp}{CR:Addr}{nb:Str->Bool}{nf:Str->Option Int}
theorem AZ:∀{a b:List D},imms a=true->imms b=true->imms (a++b)=true
 | [],_,_,hb=>hb
 |y::a,b,ha,hb=>by obtain⟨e1,e2⟩:=aE ha;show(imm y&&imms (a++b))=true;rw[e1,AZ e2 hb];rfl
theorem Xn (h:Dj d=false):jX nb nf d=.row 0:=by cases d<;>first|(cases h;done)|rfl
theorem zm1 (g0:Z.gi[0]?=some 24)(c0:Z.cl[0]?=some (CR,spRI Z.K CR))(f0:Z.fn[0]?=some (spRg Z.K CR Z.mg nb nf))(f1:Z.fn[1]?=some (spCg Z.K CR Z.mg))
  (rv:Rep Z.K H B v d) (n0:nb ""=false) (hd:∀t,d=.str t->okS t/\t.length<LIM/\(spW 10 t).length<=1000) (q:wY Z.K Z.mg H D0.rt Z.E (jX nb nf d)):wS Z Rd.readAct D0 [some v,none,none,none,none,none,none] H:=by
 refine⟨[some (.od,d),none,none,none,none,none,none],F0 H,Dj d,kQ rfl λi g d' e=>?_,?_,λH1 s1=>?_⟩
 ·rcases i with _|_|_|_|_|_|_|i<;>cases e;exact⟨rfl,v,B,rfl,rv⟩
 ·show(aG Z.Κ Z.Φ (.eC (.var 0) ["str"]) _>>=λx=>fX x.2)=_;rw[WQ rfl];rfl
 cases hs:Dj d with
 |false=>rw[Xn hs]at q;refine aX λC hC=>⟨_,F0 H1,_,fR,rfl,λw H2 s2 r2 dp hd=>?_⟩;cases r2;exact Nt q (s1.trans s2) hC hd
 |true=>
  refine aV ?_;obtain⟨t,rfl⟩:∃t,d=.str t:=by cases d<;>first|(cases hs;done)|exact⟨_,rfl⟩
  obtain⟨okt,Ih,hlen⟩:=hd t rfl;obtain⟨rfl,_⟩:=rv;have q:wY Z.K Z.mg H D0.rt Z.E (eS nb nf 0 [] [] (spW 10 t)):=q;refine⟨dv _,λap gX=>?_⟩;intro kd A3;have NU:kd≠ap:=by rintro rfl;rw[bC]at A3;cases A3
  generalize Ii:upd (upd H1 ap (.lst [])) kd (.dK [])=H2;have s2:Same H1 H2:=by rw[<-Ii];exact(Same.upd gX).trans (Same.upd A3)
  have Ij:H2 ap=some (.lst []):=by rw[<-Ii,aK (Ne.symm NU),bC]
  have Ik:H2 kd=some (.dK (hG [])):=by rw[<-Ii,bC];rfl
  have A4:=s1.none gX
  let F1:Fm:=⟨λ_=>none,λa=>a≠ap/\a≠kd,λ_=>none,True⟩
  have lP:StOk Z.K F1 H2 [some (.str t),some (.ref ap),some (.ref kd),none,none,none,none] [some (.od,.str t),none,none,none,none,none,none]:=by refine⟨(λa o e=>by cases e),(λa e=>⟨(by rintro rfl;rw[Ij]at e;cases e),(by rintro rfl;rw[Ik]at e;cases e)⟩),(λa i e=>by cases e),rfl,λi g d' e=>?_⟩;rcases i with _|_|_|_|_|_|_|i<;>cases e;exact⟨_,rfl,rfl,okt.1⟩
  refine⟨_,F1,_,lP,W0 okt hlen rfl,λJ B' H3 s3 hB wk=>?_⟩
  have kp:∀{H4:Hp},(∀b o,b≠ap->b≠kd->H3 b=some o->H4 b=some o)->Kp B' H3 H4:=λ{H4} k b o e z=>k b o (by
   rintro rfl
   rcases z with z|z
   ·exact((hB _ z).1).1 rfl
   ·rw[s3 _ _ Ij]at e;cases e;exact z) (by
   rintro rfl
   rcases z with z|z
   ·exact((hB _ z).1).2 rfl
   ·rw[s3 _ _ Ik]at e;cases e;exact z) e
  let rows:=spW 10 t
  have NV:(z0o 0 (rows.map PyData.str)).length=rows.length:=by rw[Nr,aq]
  let W:Nat->Nat->L2.St->Hp->Prop:=λi m σ' H'=>m=rows.length-i/\i<=rows.length/\(∃a0 a3 a4 a5 a6,σ'=[a0,some (.ref ap),some (.ref kd),a3,a4,a5,a6])/\(∀b o,b≠ap->b≠kd->H3 b=some o->H' b=some o)/\∃vs act ks,H' ap=some (.lst vs)/\H' kd=some (.dK (hG ks))/\aD Z.K H' aJ vs act/\imms act=true/\(∀y∈ks,PyData.strOk y.1=true/\PyData.strOk y.2=true)/\act.length=i/\ks.length=i/\eS nb nf i act ks (rows.drop i)=eS nb nf 0 [] [] rows
  refine⟨W,⟨_,rfl,dv _,⟨_,_,_,_,_,rfl⟩,λ_ _ _ _ e=>e,[],[],[],s3 _ _ Ij,s3 _ _ Ik,rfl,rfl,(λ_ h=>by cases h),rfl,rfl,rfl⟩,?_⟩
  rintro i m σ' H' ⟨rfl,FK,⟨a0,a3,a4,a5,a6,rfl⟩,hk,vs,act,ks,ha',qN,rep,AO,mX,Xo,Xp,eB⟩
  have sH:Same H H':=λb o e=>hk b o (by rintro rfl;rw[A4]at e;cases e) (by rintro rfl;rw[s1.none (by rw[aK NU]at A3;exact A3)]at e;cases e) (s3 b o (s2 b o (s1 b o e)));have Z5:=aD.length rep;by_cases cM:i<rows.length
  ·have A5:i<(z0o 0 (rows.map PyData.str)).length:=by rw[NV];exact cM
   refine .inr ⟨wk.go H' (kp hk) i A5,W (i+1) (rows.length-(i+1)),λeP H4 w=>⟨_,by omega,w⟩,λy H4 hy=>?_⟩;obtain⟨s4,e,he,ry⟩:=wk.kZ H' (kp hk) i y H4 A5 hy;rw[Nq,br,bn cM]at he;cases he;rw[li cM]at eB
   have ry:Rep Z.K H4 B' y (.tuple [.int i,.str rows[i]]):=by
    have e0:((0+i:Nat):Int)=(i:Int):=by rw[on]
    rw[e0]at ry;exact ry
   refine⟨bq 7 none,F0 H4,(.od,.tuple [.int i,.str rows[i]]),[none,none,none,some (.al,.int i),some (.al,.str rows[i]),none,none],kQ rfl (λj g d' e=>?_),ry.old,rfl,λkY F3 AV eD=>?_⟩
   ·rw[cz]at e;split at e<;>cases e
   obtain⟨v3,Ia,r3⟩:=AV.sl 3 .al (.int i) rfl;obtain⟨v4,Xq,r4⟩:=AV.sl 4 .al (.str rows[i]) rfl;cases r3;obtain⟨rfl,Xr⟩:=r4;obtain⟨b0,b1,b2,b3,b4,b5,b6,rfl⟩:=WZ eD.len;cases(eD.rest 1 (by decide));cases(eD.rest 2 (by decide));cases Ia;cases Xq;have A6:=jz cM;have Z6:=b9 cM hlen;have NY:=sH.trans s4;refine zp5 g0 c0 f0 f1 (s4 _ _ ha') (s4 _ _ qN) mX ⟨Xr,b8 (HP _ A6) okt.2⟩ (o5 (HP _ A6) Ih) n0 (by omega) (by omega) ?_
   have eB:(if i=24 then Rx.row i else match aY nb nf (spW 32 rows[i]) ks []with
    |none=>.row i
    |some (d,_,sd)=>if bS ks (pk (spW 32 rows[i]) 1)=true then .tw (pk (spW 32 rows[i]) 1)else match bJ ks sd with
     |some u=>.un u
     |none=>eS nb nf (i+1) (act++[d]) (ks++[(pk (spW 32 rows[i]) 1,pk (spW 32 rows[i]) 0)]) (rows.drop (i+1)))=eS nb nf 0 [] [] rows:=eB
   have up:∀{c fl:Str} {y:V},lW Z.mg c fl y H Z.E->lW Z.mg c fl y H4 Z.E:=λ{c fl y} ex C H' dp hC h1 hd s=>ex C H' dp hC (NY.none h1) hd (NY.trans s);by_cases AY:i=24
   ·rw[vy AY]at eB ⊢;rw[<-eB]at q;exact up q
   rw[vz AY]at eB ⊢;cases hr:aY nb nf (spW 32 rows[i]) ks []with
   |none=>rw[hr]at eB;rw[<-eB]at q;exact up q
   |some z=>
    obtain⟨d,p',sd⟩:=z;rw[hr]at eB
    have eB:(if bS ks (pk (spW 32 rows[i]) 1)=true then Rx.tw (pk (spW 32 rows[i]) 1)else match bJ ks sd with
     |some u=>.un u
     |none=>eS nb nf (i+1) (act++[d]) (ks++[(pk (spW 32 rows[i]) 1,pk (spW 32 rows[i]) 0)]) (rows.drop (i+1)))=eS nb nf 0 [] [] rows:=eB
    show if bS ks (pk (spW 32 rows[i]) 1)=true then _ else _
    by_cases hm:bS ks (pk (spW 32 rows[i]) 1)=true
    ·rw[vy hm]at eB ⊢;rw[<-eB]at q;exact up q
    rw[vz hm]at eB ⊢;cases hu:bJ ks sd with
    |some u=>rw[hu]at eB;rw[<-eB]at q;exact up q
    |none=>
     rw[hu]at eB;intro c5 c6 H5 vv k5 Xs Xu HW im okn;refine⟨rfl,cM,⟨_,_,_,_,_,rfl⟩,λb o h1 h2 e=>k5 b o h1 h2 (s4 b o (hk b o h1 h2 e)),vs++[vv],act++[d],ks++[(pk (spW 32 rows[i]) 1,pk (spW 32 rows[i]) 0)],Xs,Xu,?_,AZ AO (by show(imm d&&true)=true;rw[im];rfl),?_,by rw[ax,Xo];rfl,by rw[ax,Xp];rfl,eB⟩
     ·refine aD.append (aD.cP (λa o e f=>?_) _ AO rep) ⟨_,_,rfl,HW,rfl⟩;exact k5 a o (by rintro rfl;rw[ha']at e;cases e;exact f) (by rintro rfl;rw[qN]at e;cases e;exact f) (s4 a o e)
     ·intro y hy;rcases bo.mp hy with hy|hy
      ·exact mX y hy
      ·rw[av.mp hy];exact okn
  ·have zL:i=rows.length:=by omega
   subst zL;refine .inl ⟨?_,?_⟩
   ·have :=wk.stop H' (kp hk);rw[NV]at this;exact this
   ·rw[m9]at eB;rw[<-eB]at q;exact⟨.ref ap,rfl,q H' ap sH ⟨ap,vs,rfl,.inl ⟨ha',A4⟩,aD.cP (λ_ _ e _=>e) _ AO rep⟩⟩
end
theorem NZ {K:W.Frag}:∀{bs:List Bool} {vs:List V},aD K H B vs (bs.map PyData.bool)->vs=bs.map V.bl
 | [],vs,r=>r
 |b::bs,vs,r=>by obtain⟨v,t,rfl,rfl,r⟩:=r;rw[NZ r];rfl
theorem Il (s:Same H H')(h:H dp=none):Same H (jU H' dp):=λb o e=>by rw[rX (by rintro rfl;rw[h]at e;cases e)];exact s b o e
namespace Rd
def jY (b1 b2 b3:Bool)(tl:WS):WS:=.seq (.asg 2 (.aW (.lst (.cons (.fW false "NoPack") (.cons (.fW false "NoSide") (.cons (.fW false "NoReason") (.cons (.fW false "TooMuch") .nil)))))))
 (.seq (.asg 2 (.aW (.bin .Add (.var 2) (.lst (.cons (.fW false "NoCourt") (.cons (.fW false "Late") (.cons (.fW false "NotAllowed") .nil)))))))
 (.seq (.asg 2 (.aW (.bin .Add (.var 2) (.lst (.cons (.fW false "NoRuling") (.cons (.fW false "NotYours") (.cons (.not (.fW true "ValueError")) .nil)))))))
 (.seq (.asg 3 (.aW (.lst (.cons (.fW b1 "NoRow") (.cons (.fW b2 "Twice") (.cons (.fW b3 "Unknown") .nil))))))
 (.seq (.bA (.De (.tp (.tv (.cmp .In (.bl true) (.var 2)))) (.tc .NotEq (.cnt (.raw 3) (.aW (.bl true))) (.aW (.int 1)))) (.seq (.wQ .bad) .nil) .nil) tl))))
def pH:WS:=jY true false false (.seq (.bA (.tp (.tv (.ix (.var 3) (.int 0)))) (.seq (.ret (.tup (.cons (.aW (.str "row")) (.cons (.fD "row") .nil)))) .nil) .nil) (.seq (.wQ .bad) .nil))
def hJ (b2 b3:Bool):WS:=jY false b2 b3 (.seq (.bA (.tp (.tv (.ix (.var 3) (.int 0)))) (.seq (.wQ .bad) .nil) .nil) (.seq (.ret (.tup (.cons (.aW (.ix (.lst (.cons (.str "twice") (.cons (.str "unknown") .nil))) (.bi "int" (.cons (.ix (.var 3) (.int 2)) .nil)))) (.cons (.fD "name") .nil)))) .nil))
def toldg:WS:=.seq (.yi (.seq (.ret (.bW 0 (.cons (.raw 0) .nil))) .nil) (.hn "NoRow" (some "row") pH (.hn "Twice" (some "name") (hJ true false) (.hn "Unknown" (some "name") (hJ false true) .nil))) 1 4) .nil
end Rd
def lZ:Rx->D
 |.ok act=>.list act
 |.row k=>.tuple [.str "row",.int k]
 |.tw s=>.tuple [.str "twice",.str s]
 |.un s=>.tuple [.str "unknown",.str s]
def wZ (nb:Str->Bool)(d:D):Prop:=nb ""=false/\∀t,d=.str t->okS t/\t.length<LIM/\(spW 10 t).length<=1000
def spTg (K:W.Frag)(nb:Str->Bool)(nf:Str->Option Int):Sp:=λvs H Q _=>∃v d B,vs=[v]/\Rep K H B v d/\wZ nb d/\(∀s,jX nb nf d=.tw s\/jX nb nf d=.un s->PyData.strOk s=true)/\∀H' w,Same H H'->Rep K H' (nw H) w (lZ (jX nb nf d))->Q w H'
theorem z7i (hb:[b1,b2,b3].countP (· ==true)=1)
  (q:∀H' v2 v3 l2 l3,Same H H'->v2=.ref l2->v3=.ref l3->Rep Z.K H' aJ v3 (.list [.bool b1,.bool b2,.bool b3])->wS Z tl D1 [none,none,some v2,some v3] H'):
  wS Z (Rd.jY b1 b2 b3 tl) D1 [none,none,none,none] H:=by
 refine⟨[none,none,none,none],F0 H,(.fr,.list [.bool false,.bool false,.bool false,.bool false]),fR,rfl,λv1 H1 s1 r1=>?_⟩;have st:∀{H:Hp} {v:V} {d:D} {B:Ad->Prop},Rep Z.K H B v d->StOk Z.K (F0 H) H [none,none,some v,none] [none,none,some (.od,d),none]:=λ{H v d B} r=>kQ rfl λi g d' e=>by rcases i with _|_|_|_|i<;>cases e;exact⟨rfl,v,B,rfl,r⟩
 refine⟨_,F0 H1,(.fr,.list [.bool false,.bool false,.bool false,.bool false,.bool false,.bool false,.bool false]),st r1,rfl,λv2 H2 s2 r2=>?_⟩;refine⟨_,F0 H2,(.fr,.list [.bool false,.bool false,.bool false,.bool false,.bool false,.bool false,.bool false,.bool false,.bool false,.bool false]),st r2,rfl,λv3 H3 s3 r3=>?_⟩;refine⟨_,F0 H3,(.fr,.list [.bool b1,.bool b2,.bool b3]),st r3,rfl,λv4 H4 s4 r4=>?_⟩;obtain⟨l2,Z7,rfl,_,_⟩:=id r3;obtain⟨l3,Xv,rfl,ym,Im⟩:=id r4;have Im:aD Z.K H4 (nw H3) Xv ([b1,b2,b3].map PyData.bool):=Im;obtain rfl:=NZ Im
 have hl:H4 l3=some (.lst ([b1,b2,b3].map V.bl)):=by
  rcases ym with⟨hl,_⟩|⟨_,z⟩
  ·exact hl
  ·exact z.elim
 refine⟨[none,none,some (.od,.list [.bool false,.bool false,.bool false,.bool false,.bool false,.bool false,.bool false,.bool false,.bool false,.bool false]),none],F0 H4,false,kQ rfl (λi g d' e=>?_),rfl,λH5 s5=>?_⟩
 ·rcases i with _|_|_|_|i<;>cases e;exact⟨rfl,_,_,rfl,(r3.same s4 λ_ z=>z)⟩
 refine aV (⟨.ref l3,rfl,.inl ⟨rfl,_,.inl (.inl (s5 _ _ hl))⟩,_,F0 H5,_,fR,rfl,λv6 H6 s6 r6=>?_⟩);cases r6;refine⟨l3,rfl,.inr ⟨_,true,rfl,s6 _ _ (s5 _ _ hl),?_⟩⟩;rw[hb];refine⟨_,F0 H6,_,fR,rfl,λv7 H7 s7 r7=>?_⟩;cases r7;refine⟨aJ,aJ,.int 1,.int 1,.bool false,rfl,rfl,rfl,λv8 H8 s8 r8=>?_⟩;cases r8;refine⟨_,rfl,aV ?_⟩;have N5:=((s5.trans s6).trans s7).trans s8;exact q H8 _ _ l2 l3 ((((s1.trans s2).trans s3).trans s4).trans N5) rfl rfl ((r4.same N5 λ_ z=>z).weak λ_ _=>trivial)
theorem Xw (hx:Z.xf=some y)(rp:∀H B,Rep Z.K H B y d)(q:∀H' w,Same H H'->(∀B,Rep Z.K H' B w (.tuple [.str "row",d]))->D1.rt w H'):wS Z Rd.pH D1 [none,none,none,none] H:=by
 refine z7i (by decide) λH1 v2 v3 l2 l3 s1 e2 e3 r3=>⟨[none,none,none,some (.od,.list [.bool true,.bool false,.bool false])],F0 H1,true,kQ rfl (λi g d' e=>?_),rfl,λH2 s2=>?_⟩
 ·rcases i with _|_|_|_|i<;>cases e;exact⟨rfl,_,_,rfl,r3⟩
 refine aX ⟨_,F0 H2,_,fR,rfl,λw H3 s3 r3=>?_⟩;obtain⟨rfl,dX⟩:=r3;have ex:wE Z (.fD "row")=λ_ H Q=>Q y H:=by show(match Z.xf with|some v=>(λ_ H Q=>Q v H:TE)|none=>eG)=_;rw[hx]
 have go:∀(U:L2.St) (H:Hp) (Q:List V->Hp->Prop),Q [y] H->wA Z (.cons (.fD "row") .nil) U H Q:=λU H Q z=>by show wE Z (.fD "row") U H λx H1=>Q [x] H1;rw[ex];exact z
 refine go _ _ _ ⟨(show 2<=ba by rw[cg];decide),λt ht=>?_⟩;refine q _ (.ref t) (((s1.trans s2).trans s3).trans (Same.upd ht)) λB=>⟨t,_,rfl,.inl (.inl bC),⟨_,_,rfl,⟨rfl,dX⟩,_,_,rfl,rp _ _,rfl⟩⟩
theorem Xx (hx:Z.xf=some y)(rp:∀H B,Rep Z.K H B y d)(q:∀H' w,Same H H'->(∀B,Rep Z.K H' B w (.tuple [.str "twice",d]))->D1.rt w H'):wS Z (Rd.hJ true false) D1 [none,none,none,none] H:=by
 refine z7i (by decide) λH1 v2 v3 l2 l3 s1 e2 e3 r3=>?_;have so:∀{H':Hp},Same H1 H'->StOk Z.K (F0 H') H' [none,none,some v2,some v3] [none,none,none,some (.od,.list [.bool false,.bool true,.bool false])]:=λ{H'} s=>kQ rfl λi g d' e=>by rcases i with _|_|_|_|i<;>cases e;exact⟨rfl,_,_,rfl,r3.same s λ_ z=>z⟩
 refine⟨_,F0 H1,false,so (Same.refl _),rfl,λH2 s2=>?_⟩;refine aV ⟨_,F0 H2,(.fr,.str "twice"),so s2,rfl,λw H3 s3 r3=>?_⟩;obtain⟨rfl,dX⟩:=r3;have ex:wE Z (.fD "name")=λ_ H Q=>Q y H:=by show(match Z.xf with|some v=>(λ_ H Q=>Q v H:TE)|none=>eG)=_;rw[hx]
 have go:∀(U:L2.St) (H:Hp) (Q:List V->Hp->Prop),Q [y] H->wA Z (.cons (.fD "name") .nil) U H Q:=λU H Q z=>by show wE Z (.fD "name") U H λx H1=>Q [x] H1;rw[ex];exact z
 refine go _ _ _ ⟨(show 2<=ba by rw[cg];decide),λt ht=>?_⟩;refine q _ (.ref t) (((s1.trans s2).trans s3).trans (Same.upd ht)) λB=>⟨t,_,rfl,.inl (.inl bC),⟨_,_,rfl,⟨rfl,dX⟩,_,_,rfl,rp _ _,rfl⟩⟩
theorem Xy (hx:Z.xf=some y)(rp:∀H B,Rep Z.K H B y d)(q:∀H' w,Same H H'->(∀B,Rep Z.K H' B w (.tuple [.str "unknown",d]))->D1.rt w H'):wS Z (Rd.hJ false true) D1 [none,none,none,none] H:=by
 refine z7i (by decide) λH1 v2 v3 l2 l3 s1 e2 e3 r3=>?_;have so:∀{H':Hp},Same H1 H'->StOk Z.K (F0 H') H' [none,none,some v2,some v3] [none,none,none,some (.od,.list [.bool false,.bool false,.bool true])]:=λ{H'} s=>kQ rfl λi g d' e=>by rcases i with _|_|_|_|i<;>cases e;exact⟨rfl,_,_,rfl,r3.same s λ_ z=>z⟩
 refine⟨_,F0 H1,false,so (Same.refl _),rfl,λH2 s2=>?_⟩;refine aV ⟨_,F0 H2,(.fr,.str "unknown"),so s2,rfl,λw H3 s3 r3=>?_⟩;obtain⟨rfl,dX⟩:=r3;have ex:wE Z (.fD "name")=λ_ H Q=>Q y H:=by show(match Z.xf with|some v=>(λ_ H Q=>Q v H:TE)|none=>eG)=_;rw[hx]
 have go:∀(U:L2.St) (H:Hp) (Q:List V->Hp->Prop),Q [y] H->wA Z (.cons (.fD "name") .nil) U H Q:=λU H Q z=>by show wE Z (.fD "name") U H λx H1=>Q [x] H1;rw[ex];exact z
 refine go _ _ _ ⟨(show 2<=ba by rw[cg];decide),λt ht=>?_⟩;refine q _ (.ref t) (((s1.trans s2).trans s3).trans (Same.upd ht)) λB=>⟨t,_,rfl,.inl (.inl bC),⟨_,_,rfl,⟨rfl,dX⟩,_,_,rfl,rp _ _,rfl⟩⟩
theorem Xz (f0:Z.fn[0]?=some (spAg Z.K Z.mg nb nf))(rv:Rep Z.K H B v d)(ra:wZ nb d)(ot:∀s,jX nb nf d=.tw s\/jX nb nf d=.un s->PyData.strOk s=true)(q:∀H' w,Same H H'->Rep Z.K H' (nw H) w (lZ (jX nb nf d))->D0.rt w H'):wS Z Rd.toldg D0 [some v,none,none,none] H:=by
 show wE _ (.bW 0 _) _ _ _;rw[lV (by exact f0)];refine⟨v,rfl,v,d,B,rfl,rv,ra.1,ra.2,?_⟩;cases hr:jX nb nf d with
 |ok ns=>rw[hr]at q;exact λH' l s r=>q H' _ s r
 |row k=>rw[hr]at q;intro C H' dp hC h0 hd s;refine .inl ⟨C,hC,rfl,dp,.int k,rfl,hd,?_⟩;exact Xw (d:=.int k) rfl (λ_ _=>rfl) λH2 w s2 r2=>q H2 w ((Il s h0).trans s2) (r2 _)
 |tw z=>rw[hr]at q;intro C H' dp hC h0 hd s;refine .inr (.inl ⟨C,hC,rfl,dp,.str z,rfl,hd,?_⟩);exact Xx (d:=.str z) rfl (λ_ _=>⟨rfl,ot z (.inl hr)⟩) λH2 w s2 r2=>q H2 w ((Il s h0).trans s2) (r2 _)
 |un z=>rw[hr]at q;intro C H' dp hC h0 hd s;refine .inr (.inr (.inl ⟨C,hC,rfl,dp,.str z,rfl,hd,?_⟩));exact Xy (d:=.str z) rfl (λ_ _=>⟨rfl,ot z (.inr hr)⟩) λH2 w s2 r2=>q H2 w ((Il s h0).trans s2) (r2 _)
structure pI where
 c:Str
 f:List Str
 ms:List (Str×Stmt)
def uD (K:W.Frag)(C:Addr)(c:Str)(m:Str×Stmt):Option (i8×Bool):=match W.findIn K (.ref C) m.1 with
 |some (some (.ref p))=>(match K.lookup p with
  |some ⟨_,_,.func fd,_⟩=>some (fd,W.codeIn K fd.code (c++"."++m.1)&&W.keepIn K (.ref p)&&W.isFn K (.ref p))
  |_=>none)
 |_=>none
def N6 (c:Str)(m:Str×Stmt)(x:i8×Bool):i8×Bool:=(W.fnOf m.1 (c++"."++m.1) (lE m.2) (z0g m.2) (z07 m.2) .none x.1.kwdefaults x.1.doc x.1.pyModule x.1.annotations x.1.code x.1.closureTuple,true)
def Dy (K:W.Frag)(r:pI):Option (List Bool×Option (Option Value)×List (Option (Option Value))×List Bool×List (Option (i8×Bool))):=match W.nsIn K bj r.c with
 |some (some (.ref C))=>some ([W.plainGet K C Str.empty,W.hasDictIn K C,W.plainOver K C,W.makesIn K C,W.keepIn K (.ref C)],W.findIn K (.ref C) "__setattr__",r.f.map (λf=>W.findIn K (.ref C) f),r.ms.map (λm=>(uD K C r.c m).isSome),r.ms.map λm=>uD K C r.c m)
 |_=>none
def N8 (K:W.Frag)(r:pI):Option (List Bool×Option (Option Value)×List (Option (Option Value))×List Bool×List (Option (i8×Bool))):=match W.nsIn K bj r.c with
 |some (some (.ref C))=>some ([true,true,true,true,true],some (some (.builtin "object.__setattr__")),r.f.map (λ_=>some none),r.ms.map (λ_=>true),r.ms.map λm=>(uD K C r.c m).map (N6 r.c m))
 |_=>none
def KCq (K:gu->W.Frag)(r:pI):Prop:=∀P,((Dy (K P) r).isSome,Dy (K P) r)=(true,N8 (K P) r)
theorem KCq_r:KCq=KCq:=rfl
structure ClsAt (K:W.Frag)(r:pI)(C:Addr):Prop where
 ns:W.nsIn K bj r.c=some (some (.ref C))
 cls:Cls K C
 na:∀f∈r.f,z34 K C f
 XB:W.makesIn K C=true
 kp:W.keepIn K (.ref C)=true
 ms:∀m∈r.ms,∃f fd,Fun K m.1 (r.c++"."++m.1) m.2 f fd/\Meth K C m.1 f
theorem XE {K:W.Frag}{C:Addr}(h:(uD K C c m).isSome=true)(e:uD K C c m=(uD K C c m).map (N6 c m)):∃f fd,Fun K m.1 (c++"."++m.1) m.2 f fd/\Meth K C m.1 f:=by
 cases z:uD K C c m with
 |none=>rw[z]at h;cases h
 |some x=>
  rw[z]at e;have e:=v5 e;unfold uD at z;split at z
  ·rename_i f hf;split at z
   ·rename_i oc od fd sl hl;have z:=v5 z;have z1:=congrArg ux z;have z2:=congrArg vo z;rw[congrArg vo e]at z2;obtain⟨z3,z4⟩:=bg.mp z2;obtain⟨z3,z5⟩:=bg.mp z3;subst z1;exact⟨f,x.1,⟨⟨oc,od,x.1.kwdefaults,x.1.doc,x.1.pyModule,x.1.annotations,x.1.code,x.1.closureTuple,sl,congrArg ux e,hl,z3⟩,z5⟩,hf,z4,z5⟩
   ·cases z
  ·cases z
theorem XG {K:gu->W.Frag}(h:KCq K r)(P:gu):∃C,ClsAt (K P) r C:=by
 obtain⟨h1,h2⟩:=wa (h P);unfold Dy N8 at h2;unfold Dy at h1;split at h2
 ·rename_i C hC;obtain⟨a1,a2⟩:=wa (v5 h2);obtain⟨a2,a3⟩:=wa a2;obtain⟨a3,a4⟩:=wa a3;obtain⟨a4,a5⟩:=wa a4;obtain⟨b1,a1⟩:=List.cons.inj a1;obtain⟨b2,a1⟩:=List.cons.inj a1;obtain⟨b3,a1⟩:=List.cons.inj a1;obtain⟨b4,a1⟩:=List.cons.inj a1;obtain⟨b5,_⟩:=List.cons.inj a1;exact⟨C,hC,⟨b1,b2,b3,a2⟩,λf hf=>du.mp a3 f hf,b4,b5,λm hm=>XE (du.mp a4 m hm) (du.mp a5 m hm)⟩
 ·rename_i hn;split at h1
  ·rename_i C hC;exact(hn C hC).elim
  ·cases h1
end Mi
name_quick tkcq for Mi.KCq by Mi.KCq_r
namespace Mi
open PySem PySem.Spec PyProof.Rows L2
structure XRow where
 c:Str
 fl:Str
 B:Str
 cs:List (Str×Bool)
 st:Stmt
abbrev XD:=List Bool×List (Option (Option Value))×List (Option Bool)×List (Option (Bool×Option Value×Option Bool))×i8
def N9 (K:W.Frag)(A:Addr)(y:Str×Bool):Option (Bool×Option Value×Option Bool):=match W.nsIn K bj y.1 with
 |some (some (.ref E))=>some ((W.clsIn K E).isSome,W.typeIn K (.ref E),W.subIn K (.ref A) (.ref E))
 |_=>none
def uE (K:W.Frag)(r:XRow):Option XD:=match W.nsIn K bj r.c,W.nsIn K bj r.B with
 |some (some (.ref A)),some (some (.ref D))=>(match K.lookup A with
  |some ⟨.type "type",_,.cls cd,_⟩=>(match W.nsIn K cd.ns "__init__"with
   |some (some (.ref f))=>(match K.lookup f with
    |some ⟨_,_,.func fd,_⟩=>some ([gB K A,cd.hasDict,W.isFn K (.ref f),W.codeIn K fd.code (r.c++"."++"__init__"),gB K D,(W.clsIn K A).isSome,W.keepIn K (.ref f)],
     [W.findIn K (.ref A) "__setattr__",W.findIn K (.ref A) r.fl,W.findIn K (.ref A) "__getattribute__",W.findIn K (.ref A) "__getattr__",W.findIn K (.ref A) "__class__"],
     [W.subIn K (.ref A) (.type "object"),W.subIn K (.ref A) (.type "BaseException"),W.subIn K (.ref A) (.type "ValueError"),W.subIn K (.ref A) (.ref D)],r.cs.map (N9 K A),fd)
    |_=>none)
   |_=>none)
  |_=>none)
 |_,_=>none
def Oa (r:XRow)(x:XD):XD:=([true,true,true,true,true,true,true],[some (some (.builtin "object.__setattr__")),some none,some (some (.builtin "BaseException.__getattribute__")),some none,some (some (.builtin "object.__class__"))],[some true,some true,some true,some true],r.cs.map (λy=>some (true,some (.type "type"),some y.2)),W.fnOf "__init__" (r.c++"."++"__init__") (lE r.st) (z0g r.st) (z07 r.st) .none x.2.2.2.2.kwdefaults x.2.2.2.2.doc x.2.2.2.2.pyModule x.2.2.2.2.annotations x.2.2.2.2.code x.2.2.2.2.closureTuple)
def Ob (K:W.Frag)(g:Str×Int):Option Int:=match W.nsIn K bj g.1 with
 |some (some (.int n _))=>some n
 |_=>none
def KXq (K:gu->W.Frag)(rs:List XRow)(gs:List (Str×Int)):Prop:=∀P,(rs.map (λr=>(uE (K P) r).isSome),rs.map (λr=>uE (K P) r),gs.map (Ob (K P)))=(rs.map (λ_=>true),rs.map (λr=>(uE (K P) r).map (Oa r)),gs.map λg=>some g.2)
theorem KXq_r:KXq=KXq:=rfl
structure XAt (K:W.Frag)(r:XRow)(A D f:Addr)(fd:i8):Prop where
 ns:W.nsIn K bj r.c=some (some (.ref A))
 nb:W.nsIn K bj r.B=some (some (.ref D))
 xf:XF K A r.fl
 xa:XA K A
 xi:XI K A f
 fu:Fun K "__init__" (r.c++"."++"__init__") r.st f fd
 ed:gB K D=true
 sd:W.subIn K (.ref A) (.ref D)=some true
 sv:W.subIn K (.ref A) (.type "ValueError")=some true
 cs:∀y∈r.cs,∃E,W.nsIn K bj y.1=some (some (.ref E))/\(W.clsIn K E).isSome=true/\W.typeIn K (.ref E)=some (.type "type")/\W.subIn K (.ref A) (.ref E)=some y.2
theorem XH {K:W.Frag}(h:(uE K r).isSome=true)(e:uE K r=(uE K r).map (Oa r)):∃A D f fd,XAt K r A D f fd:=by
 cases z:uE K r with
 |none=>rw[z]at h;cases h
 |some x=>
  rw[z]at e;have e:=v5 e;unfold uE at z;split at z
  ·rename_i A D hA hD;split at z
   ·rename_i dd cd sl hl;split at z
    ·rename_i f hf;split at z
     ·rename_i oc od fd nQ mL;have z:=v5 z;rw[<-z]at e;obtain⟨e1,e⟩:=wa e;obtain⟨e2,e⟩:=wa e;obtain⟨e3,e⟩:=wa e;obtain⟨e4,e5⟩:=wa e;obtain⟨b1,e1⟩:=List.cons.inj e1;obtain⟨b2,e1⟩:=List.cons.inj e1;obtain⟨b3,e1⟩:=List.cons.inj e1;obtain⟨b4,e1⟩:=List.cons.inj e1;obtain⟨b5,e1⟩:=List.cons.inj e1;obtain⟨b6,e1⟩:=List.cons.inj e1;obtain⟨b7,_⟩:=List.cons.inj e1;obtain⟨c1,e2⟩:=List.cons.inj e2;obtain⟨c2,e2⟩:=List.cons.inj e2;obtain⟨c3,e2⟩:=List.cons.inj e2;obtain⟨c4,e2⟩:=List.cons.inj e2;obtain⟨c5,_⟩:=List.cons.inj e2;obtain⟨d1,e3⟩:=List.cons.inj e3;obtain⟨d2,e3⟩:=List.cons.inj e3;obtain⟨d3,e3⟩:=List.cons.inj e3;obtain⟨d4,_⟩:=List.cons.inj e3;refine⟨A,D,f,fd,hA,hD,⟨b1,λtE XJ D3 q=>by rw[hl]at q;cases q;exact b2,c1,c2,c3,c4,d1,d2⟩,⟨c5,c3,c4,d1,d2,?_,b6,b1⟩,⟨λtE XJ D3 q=>by rw[hl]at q;cases q;exact hf,b3⟩,⟨⟨oc,od,fd.kwdefaults,fd.doc,fd.pyModule,fd.annotations,fd.code,fd.closureTuple,nQ,e5,mL,b4⟩,b7⟩,b5,d4,d3,λy hy=>?_⟩
      ·show(K.lookup A).map (·.cls)=_;rw[hl];rfl
      ·have q:=du.mp e4 y hy;unfold N9 at q;split at q
       ·rename_i E hE;obtain⟨q1,q⟩:=wa (v5 q);obtain⟨q2,q3⟩:=wa q;exact⟨E,hE,q1,q2,q3⟩
       ·cases q
     ·cases z
    ·cases z
   ·cases z
  ·cases z
theorem Oc {K:gu->W.Frag}(h:KXq K rs gs)(P:gu):(∀r∈rs,∃A D f fd,XAt (K P) r A D f fd)/\∀g∈gs,∃t,W.nsIn (K P) bj g.1=some (some (.int g.2 t)):=by
 obtain⟨h1,h2⟩:=wa (h P);obtain⟨h2,h3⟩:=wa h2;refine⟨λr hr=>XH (du.mp h1 r hr) (du.mp h2 r hr),λg hg=>?_⟩;have q:=du.mp h3 g hg;unfold Ob at q;split at q
 ·rename_i n t e;cases q;exact⟨t,e⟩
 ·cases q
end Mi
name_quick tkxq for Mi.KXq by Mi.KXq_r
namespace Mk
open PySem Mi
def A7:S:=(.seq (.ret (.and (.eC (.var 0) ["str"]) (.and (.chain .LtE .LtE (.int 1) (.bi "len" (.cons (.var 0) .nil)) (.int 12)) (.and (.lG "all" (.tv (.comp 1 [] ["sign"] (.nm 0) (.tv (.var 0)) .nil (.chain .LtE .LtE (.str "a") (.var 0) (.str "z"))))) (.cmp .NotIn (.var 0) (.glob 0 "NO_NAMES")))))) .nil)
def F_z0:Fn:=bU [(.tuple [(.str "and"),(.str "or"),(.str "not"),(.str "if"),(.str "is"),(.str "some"),(.str "all"),(.str "for"),(.str "against")])] [] 1 A7
def A8:S:=(.seq (.bA (.not (.tv (.chain .LtE .LtE (.int 1) (.bi "len" (.cons (.var 0) .nil)) (.int 31))))
 (.seq (.ret .non)
 .nil)
 .nil)
 (.seq (.bA (.not (.tv (.lG "all" (.tv (.comp 1 [] ["sign"] (.nm 0) (.tv (.var 0)) .nil (.chain .LtE .LtE (.str "0") (.var 0) (.str "9")))))))
 (.seq (.ret .non)
 .nil)
 .nil)
 (.seq (.bA (.and (.tv (.cmp .Eq (.ix (.var 0) (.int 0)) (.str "0"))) (.tv (.cmp .Gt (.bi "len" (.cons (.var 0) .nil)) (.int 1))))
 (.seq (.ret .non)
 .nil)
 .nil)
 (.seq (.ret (.bi "int" (.cons (.var 0) .nil)))
 .nil))))
def xb:Fn:=bU [] [] 1 A8
def A9:S:=(.seq (.ret (.bin .Mod (.bin .Mult (.bin .Add (.bin .Add (.bin .Mod (.var 0) (.bin .Pow (.int 10) (.int 15))) (.bin .Mult (.bin .Mult (.int 104729) (.var 1)) (.var 1))) (.int 11)) (.int 48271)) (.int 2147483647))) .nil)
def hM:Fn:=bU [] [] 2 A9
def A':S:=(.seq (.bA (.tv (.cmp .In (.var 0) (.lst (.cons (.str "and") (.cons (.str "or") (.cons (.str "not") (.cons (.str "if") (.cons (.str "is") (.cons (.str "some") (.cons (.str "all") (.cons (.str "for") (.cons (.str "against") .nil))))))))))))
 (.seq (.ret (.bin .Add (.var 0) (.str "x")))
 .nil)
 .nil)
 (.seq (.ret (.var 0))
 .nil))
def sI:Fn:=bU [] [] 1 A'
def sJ:S:=(.seq (.asg (.nm 1) (.str "bcdefghjklmnpqrstuvwxyz"))
 (.seq (.asg (.nm 2) (.call 1 "_law_mixed" (.cons (.var 0) (.cons (.int 0) .nil))))
 (.seq (.asg (.nm 3) (.bin .Mod (.var 2) (.int 11)))
 (.seq (.asg (.nm 4) (.mt "join" (.str "") (.cons (.comp 1 [1,2] ["_law_k","_law_letters","_law_number"] (.nm 0) (.gQ (.cons (.var 3) .nil)) .nil (.ix (.var 1) (.bin .Mod (.bin .Add (.bin .FloorDiv (.var 2) (.int 11)) (.bin .Mult (.bin .Mult (.int 5) (.var 0)) (.var 0))) (.int 23)))) .nil)))
 (.seq (.asg (.nm 5) (.bin .Mod (.bin .FloorDiv (.var 2) (.int 253)) (.bin .Add (.var 3) (.int 1))))
 (.seq (.asg (.nm 6) (.comp 1 [1,2] ["_law_k","_law_letters","_law_number"] (.nm 0) (.gQ (.cons (.int 23) .nil)) .nil (.ix (.var 1) (.bin .Mod (.bin .Add (.bin .FloorDiv (.var 2) (.int 7)) (.bin .Mult (.int 3) (.var 0))) (.int 23)))))
 (.seq (.bA (.tv (.cmp .Eq (.bin .Mod (.var 0) (.int 2)) (.int 1)))
 (.seq (.asg (.nm 1) (.str "abcdefghijklmnopqrstuvwxyz"))
 (.seq (.asg (.nm 2) (.bin .FloorDiv (.var 0) (.int 2)))
 (.seq (.asg (.nm 3) (.bin .Mod (.var 2) (.int 11)))
 (.seq (.asg (.nm 5) (.bin .Mod (.bin .FloorDiv (.var 2) (.int 11)) (.bin .Add (.var 3) (.int 1))))
 (.seq (.asg (.nm 6) (.comp 1 [1,2] ["_law_k","_law_letters","_law_number"] (.nm 0) (.gQ (.cons (.int 23) .nil)) .nil (.ix (.var 1) (.bin .Mod (.bin .Add (.bin .FloorDiv (.var 2) (.int 132)) (.bin .Mult (.int 3) (.var 0))) (.int 26)))))
 (.seq (.asg (.nm 2) (.bin .FloorDiv (.var 2) (.int 3432)))
 (.seq (.asg (.nm 4) (.str ""))
 (.seq (.bP (.nm 7) (.gQ (.cons (.var 3) .nil))
 (.seq (.asg (.nm 4) (.bin .Add (.var 4) (.ix (.var 1) (.bin .Mod (.var 2) (.int 26)))))
 (.seq (.asg (.nm 2) (.bin .FloorDiv (.var 2) (.int 26)))
 .nil)))
 .nil))))))))
 .nil)
 (.seq (.asg (.nm 8) (.comp 1 [4,5] ["_law_sign","_law_stem","_law_at"] (.nm 0) (.tv (.var 6)) .nil (.call 0 "_law_good_name" (.cons (.bin .Add (.bin .Add (.sl (.var 1) .nil (.tv (.var 2))) (.var 0)) (.sl (.var 1) (.tv (.var 2)) .nil)) .nil))))
 (.seq (.ret (.bin .Add (.var 8) (.comp 1 [] ["_law_name"] (.nm 0) (.tv (.sl (.var 8) .nil (.tv (.int 4)))) .nil (.bin .Add (.var 0) (.str "x")))))
 .nil)))))))))
def l':Fn:=bU [] [sI,hM] 9 sJ
def jZ:S:=(.seq (.bA (.tv (.eC (.var 1) ["str"]))
 (.seq (.ret (.and (.eC (.var 0) ["str"]) (.cmp .Eq (.var 0) (.var 1))))
 .nil)
 .nil)
 (.seq (.bA (.tv (.eC (.var 1) ["int"]))
 (.seq (.ret (.and (.eC (.var 0) ["int"]) (.and (.not (.eC (.var 0) ["bool"])) (.cmp .Eq (.var 0) (.var 1)))))
 .nil)
 .nil)
 (.seq (.bA (.or (.tv (.cmp .NotEq (.eC (.var 1) ["tuple"]) (.eC (.var 0) ["tuple"]))) (.tv (.cmp .NotEq (.eC (.var 1) ["list"]) (.eC (.var 0) ["list"]))))
 (.seq (.ret (.bl false))
 .nil)
 .nil)
 (.seq (.bA (.tv (.cmp .NotEq (.bi "len" (.cons (.var 0) .nil)) (.bi "len" (.cons (.var 1) .nil))))
 (.seq (.ret (.bl false))
 .nil)
 .nil)
 (.seq (.bP (.tp [2,3]) (.zip (.var 0) (.var 1))
 (.seq (.bA (.not (.tv (.call 0 "_law_alike" (.cons (.var 2) (.cons (.var 3) .nil)))))
 (.seq (.ret (.bl false))
 .nil)
 .nil)
 .nil))
 (.seq (.ret (.bl true))
 .nil))))))
def Ba:S:=(.seq .bad (.seq .bad (.seq .bad (.seq .bad (.seq .bad (.seq .bad .nil))))))
def bE:Nat->Fn
 |0=>bU [] [] 4 Ba
 |k+1=>bU [] [bE k] 4 jZ
def sM:S:=(.seq (.asg (.nm 4) (.lst .nil))
 (.seq (.bP (.nm 5) (.gQ (.cons (.bin .Mod (.call 0 "_law_mixed" (.cons (.ix (.var 0) (.int 0)) (.cons (.int 3) .nil))) (.int 5)) .nil))
 (.seq (.asg (.nm 6) (.call 0 "_law_mixed" (.cons (.ix (.var 0) (.bin .Mod (.var 5) (.bi "len" (.cons (.var 0) .nil)))) (.cons (.bin .Add (.var 5) (.int 5)) .nil))))
 (.seq (.bA (.tv (.cmp .Eq (.bin .Mod (.var 6) (.int 12)) (.int 1)))
 (.seq (.mut "append" 4 (.cons (.ix (.lst (.cons (.ix (.var 1) (.int 20)) (.cons (.ix (.var 1) (.int 5)) (.cons (.var 3) .nil)))) (.bin .Mod (.bin .FloorDiv (.var 6) (.int 12)) (.int 3))) .nil))
 .nil)
 (.seq (.mut "append" 4 (.cons (.ix (.var 2) (.bin .Mod (.bin .FloorDiv (.var 6) (.int 12)) (.bi "len" (.cons (.var 2) .nil)))) .nil))
 .nil))
 .nil)))
 (.seq (.bA (.tv (.cmp .Gt (.bin .Mod (.call 0 "_law_mixed" (.cons (.ix (.var 0) (.int 0)) (.cons (.int 4) .nil))) (.int 4)) (.int 0)))
 (.seq (.asg (.nm 4) (.comp 1 [4] ["_law_k","_law_found"] (.nm 0) (.gQ (.cons (.bi "len" (.cons (.var 4) .nil)) .nil)) (.tv (.cmp .NotIn (.ix (.var 1) (.var 0)) (.sl (.var 1) .nil (.tv (.var 0))))) (.ix (.var 1) (.var 0))))
 .nil)
 .nil)
 (.seq (.ret (.var 4))
 .nil))))
def sN:Fn:=bU [] [hM] 7 sM
def sO:S:=(.seq (.asg (.nm 4) (.bin .Add (.bin .Add (.bin .Add (.lst (.cons (.str "for") .nil)) (.var 1)) (.lst (.cons (.str "against") .nil))) (.var 2)))
 (.seq (.asg (.nm 5) (.lst (.cons (.bin .Add (.bin .Add (.lst (.cons (.str "open") (.cons (.var 0) .nil))) (.var 4)) (.lst (.cons (.str "") .nil))) (.cons (.bin .Add (.lst (.cons (.str "open") (.cons (.var 0) (.cons (.str "fors") .nil)))) (.sl (.var 4) (.tv (.int 1)) .nil)) (.cons (.bin .Add (.bin .Add (.lst (.cons (.str "open") (.cons (.var 0) (.cons (.str "for") .nil)))) (.var 1)) (.var 2)) .nil)))))
 (.seq (.asg (.nm 5) (.bin .Add (.var 5) (.lst (.cons (.lst (.cons (.str "open") .nil)) (.cons (.lst (.cons (.str "open") (.cons (.var 0) .nil))) (.cons (.bin .Add (.lst (.cons (.str "open") (.cons (.var 0) (.cons (.str "") .nil)))) (.var 4)) (.cons (.bin .Add (.bin .Add (.lst (.cons (.str "open") (.cons (.var 0) .nil))) (.var 4)) (.lst (.cons (.str "not") .nil))) .nil)))))))
 (.seq (.asg (.nm 5) (.bin .Add (.var 5) (.lst (.cons (.bin .Add (.bin .Add (.lst (.cons (.str "open") (.cons (.var 0) .nil))) (.var 4)) (.lst (.cons (.xU (.var 0)) .nil))) (.cons (.bin .Add (.lst (.cons (.str "opens") (.cons (.var 0) .nil))) (.var 4)) .nil)))))
 (.seq (.ret (.mt "join" (.str " ") (.cons (.ix (.var 5) (.bin .Mod (.var 3) (.int 9))) .nil)))
 .nil)))))
def sP:Fn:=bU [] [] 6 sO
def sQ:S:=(.seq (.asg (.nm 4) (.call 2 "_law_mixed" (.cons (.ix (.var 0) (.int 0)) (.cons (.bin .Add (.var 1) (.int 1)) .nil))))
 (.seq (.asg (.nm 5) (.ix (.var 2) (.bin .Add (.int 6) (.var 1))))
 (.seq (.bA (.tv (.cmp .Eq (.bin .Mod (.var 4) (.int 7)) (.int 1)))
 (.seq (.asg (.nm 5) (.ix (.var 3) (.bin .Mod (.bin .FloorDiv (.var 4) (.int 7)) (.bi "len" (.cons (.var 3) .nil)))))
 .nil)
 .nil)
 (.seq (.asg (.nm 6) (.call 1 "_law_list" (.cons (.sl (.var 0) (.tv (.int 1)) (.tv (.int 5))) (.cons (.var 2) (.cons (.var 3) (.cons (.var 5) .nil))))))
 (.seq (.asg (.nm 7) (.call 1 "_law_list" (.cons (.sl (.var 0) (.tv (.int 5)) .nil) (.cons (.var 2) (.cons (.var 3) (.cons (.var 5) .nil))))))
 (.seq (.asg (.nm 8) (.bin .Add (.str "open ") (.mt "join" (.str " ") (.cons (.bin .Add (.bin .Add (.bin .Add (.lst (.cons (.var 5) (.cons (.str "for") .nil))) (.var 6)) (.lst (.cons (.str "against") .nil))) (.var 7)) .nil))))
 (.seq (.asg (.nm 9) (.tup (.cons (.str "open") (.cons (.var 5) (.cons (.lG "tuple" (.tv (.var 6))) (.cons (.lG "tuple" (.tv (.var 7))) .nil))))))
 (.seq (.bA (.tv (.cmp .Eq (.bin .Mod (.bin .FloorDiv (.var 4) (.int 7)) (.int 6)) (.int 1)))
 (.seq (.ret (.tup (.cons (.call 0 "_law_spoiled" (.cons (.var 5) (.cons (.var 6) (.cons (.var 7) (.cons (.bin .FloorDiv (.var 4) (.int 42)) .nil))))) (.cons .non .nil))))
 .nil)
 .nil)
 (.seq (.ret (.tup (.cons (.var 8) (.cons (.var 9) .nil))))
 .nil)))))))))
def mD:Fn:=bU [] [sP,sN,hM] 10 sQ
def Io:S:=(.seq (.bA (.or (.tv (.jK false (.var 0))) (.tv (.cmp .Gt (.var 4) (.int 4))))
 (.seq (.ret (.tup (.cons (.str "row") (.cons (.var 1) .nil))))
 .nil)
 .nil)
 (.seq (.bP (.nm 5) (.tv (.lst (.cons (.ix (.var 0) (.int 2)) (.cons (.ix (.var 0) (.int 3)) .nil))))
 (.seq (.bA (.tv (.cmp .Lt (.lset (.var 5)) (.bi "len" (.cons (.var 5) .nil))))
 (.seq (.ret (.tup (.cons (.str "row") (.cons (.var 1) .nil))))
 .nil)
 .nil)
 .nil))
 (.seq (.bA (.or (.tv (.cmp .In (.ix (.var 0) (.int 1)) (.var 2))) (.tv (.cmp .Eq (.ix (.var 0) (.int 1)) (.ix (.var 3) (.int 5)))))
 (.seq (.ret (.tup (.cons (.str "twice") (.cons (.ix (.var 0) (.int 1)) .nil))))
 .nil)
 .nil)
 (.seq (.bP (.nm 6) (.tv (.bin .Add (.ix (.var 0) (.int 2)) (.ix (.var 0) (.int 3))))
 (.seq (.bA (.tv (.cmp .NotIn (.var 6) (.var 2)))
 (.seq (.ret (.tup (.cons (.str "unknown") (.cons (.var 6) .nil))))
 .nil)
 .nil)
 .nil))
 (.seq (.ret .non)
 .nil)))))
def uF:Fn:=bU [] [] 7 Io
theorem xg {b:Str}(h:a.cps.toList=b.cps.toList):a=b:=by
 cases a with
 |mk x=>
  cases b with
  |mk y=>rw[show x=y from Array.ext' h]
theorem kS (a b:Str):(a++b).cps.toList=a.cps.toList++b.cps.toList:=by show(a.cps++b.cps).toList=_;rw[sf]
theorem uG (z:Str)(ss:List Str):(z0e z ss).cps.toList=lI z.cps.toList ss:=by show(lI z.cps.toList ss).toArray.toList=_;rw[List.toList_toArray]
theorem yo (z:Str):z.length=z.cps.toList.length:=by rw[cq];rfl
theorem XM (h:a.length+b.length<=100000):cH .Add (.str a) (.str b)=.ok (.str (a++b)):=by show(if a.length+b.length<=LIM then _ else _)=_;rw[vy (by unfold LIM;omega)]
theorem v_add (ha:Ev Κ Φ s Y (.str a))(hb:Ev Κ Φ t Y (.str b))(h:a.length+b.length<=100000):Vv Κ Φ (.bin .Add s t) Y (.str (a++b)):=bH ha hb (XM h) rfl
theorem zZ:∀ss,cN (ss.map .str)=some ss
 | []=>rfl
 |b::bs=>by rw[bx];show(cN (bs.map .str)).map (b:: ·)=_;rw[zZ bs];rfl
theorem Ip (h:qU z ss<=LIM):mtD "join" (.str z) [.list (ss.map .str)]=.ok (.str (z0e z ss)):=by
 show(match cN (ss.map .str)with|some ss=>if qU z ss<=LIM then Res.ok (PyData.str (z0e z ss))else .no|none=>.no)=_;rw[zZ]
 dsimp only
 rw[vy h]
theorem Dz (h:Ev Κ Φ t Y (.int i)):Tt Κ Φ (.tv (.cmp .Eq t (.int j))) Y (decide (i=j)):=bO (iL (k:=decide (i=j)) h aR.e (by show Res.ok (eqD (.int _) (.int _))=_;rw[V'])).e rfl
theorem yp (h:0<b)(h2:b<2 ^ 200):cH .FloorDiv (.int a) (.int b)=.ok (.int (a/b)):=by show(if _ then _ else _)=_;rw[vy ⟨h,h2⟩]
theorem Od (cs:List Int):gS "len" [.list (cs.map .int)]=.ok (.int (cs.length:Int)):=by show Res.ok (PyData.int ((cs.map PyData.int).length:Int))=_;rw[aq]
theorem Iq (ha:Ev Κ Φ a Y x)(hb:Oo Κ Φ b Y i)(hc:Oo Κ Φ c Y j)(h:tO x i j=.ok d):Ev Κ Φ (.sl a b c) Y d:=by obtain⟨g1,ha⟩:=ha;unfold Oo at hb hc;exact⟨_,by rw[wO];rw[ha,Res.aC,hb,Res.aC,hc,Res.aC];dsimp only;rw[h,Res.aC]⟩
theorem Oe {α β:Type}(f:α->β)(xs:List α)(i j:Option Int):cut (xs.map f) i j=(cut xs i j).map f:=by unfold cut;rw[aq,List.map_take,List.map_drop]
def Nx (I:Rho->Prop)(z:Res Out):Prop:=∃aH,z=.ok (.nx aH)/\I aH
theorem mE (h:I Y):Nx I (aM Κ Φ .nil Y):=⟨Y,tZ,h⟩
theorem Ir (hi:imm d=true):fE (.nm j) (gJ d g,d) Y=.ok (Y.set j (some (.al,d))):=by rw[kN hi];rfl
theorem q_nm {Q:Res Out->Prop}{β:Type}{m:β->D}{xs:List β}(h:evF Κ Φ it Y=.ok (g,xs.map m,ρ1))(hm:∀x,imm (m x)=true)(I:List β->Rho->Prop)(h0:I [] ρ1)
  (hf:∀pre x post Y,xs=pre++x::post->I pre Y->Nx (I (pre++[x])) (aM Κ Φ p (Y.set j (some (.al,m x))))) (hk:∀aH,I xs aH->Q (aM Κ Φ rest aH)):Q (aM Κ Φ (.seq (.bP (.nm j) it p) rest) Y):=
 zqu h I h0 (λpre x post Y hx hI=>by obtain⟨aH,h1,h2⟩:=hf pre x post Y hx hI;exact⟨_,aH,Ir (hm x),h1,h2⟩) hk
theorem Iu {β:Type}(m:β->D){xs:List β}{i:Int}(d:β)(h0:0<=i)(h1:i<xs.length):iG (.list (xs.map m)) (.int i)=.ok (m (xs.getD i.toNat d)):=by
 show Res.eQ (cF (xs.map m) i)=_;rw[C4 _ i (m d) h0 (by rw[aq];exact h1)]
 congr 1
 have:i.toNat<xs.length:=by omega
 rw[am,am,br,bn this];rfl
theorem XN {β:Type}{m:β->D}(h:∀x,imm (m x)=true)(xs:List β):imms (xs.map m)=true:=xT.mpr λx hx=>by obtain⟨p,_,rfl⟩:=dh.mp hx;exact h p
theorem Of (h:imm d=true):pR (some (.al,d))=some (.al,d):=by show(if imm d=true then some (G.al,d)else none)=_;rw[vy h]
theorem Og {β:Type}{m:β->D}{Q:Res Out->Prop}(I:List β->Rho->Prop):∀xs pre Y,(∀rQ x post Y,pre++xs=rQ++x::post->I rQ Y->(∃aH,f (m x) Y=.ok (.nx aH)/\I (rQ++[x]) aH)\/∃g d,f (m x) Y=.ok (.rt g d)/\Q (.ok (.rt g d)))->I pre Y->(∃aH,cA f (xs.map m) Y=.ok (.nx aH)/\I (pre++xs) aH)\/∃g d,cA f (xs.map m) Y=.ok (.rt g d)/\Q (.ok (.rt g d))
 | [],pre,Y,_,h=>.inl ⟨Y,rfl,by rw[ci];exact h⟩
 |x::xs,pre,Y,hf,h=>by
  rcases hf pre x xs Y rfl h with⟨aH,e,h'⟩|⟨g,d,e,q⟩
  ·have e2:pre++x::xs=(pre++[x])++xs:=by simp
   rcases Og I xs (pre++[x]) aH (λa b c r hh=>hf a b c r (e2.trans hh)) h' with⟨dC,e3,h3⟩|⟨g,d,e3,q⟩
   ·exact .inl ⟨dC,by rw[bx];show(match f (m x) Y with|.ok (.nx aH)=>cA f (xs.map m) aH|.ok (.ct aH)=>cA f (xs.map m) aH|.ok (.bk aH)=>.ok (.nx aH)|.ok (.rt g d)=>.ok (.rt g d)|.exc e=>.exc e|.no=>.no)=_;rw[e];exact e3,by rw[e2];exact h3⟩
   ·exact .inr ⟨g,d,by rw[bx];show(match f (m x) Y with|.ok (.nx aH)=>cA f (xs.map m) aH|.ok (.ct aH)=>cA f (xs.map m) aH|.ok (.bk aH)=>.ok (.nx aH)|.ok (.rt g d)=>.ok (.rt g d)|.exc e=>.exc e|.no=>.no)=_;rw[e];exact e3,q⟩
  ·exact .inr ⟨g,d,by rw[bx];show(match f (m x) Y with|.ok (.nx aH)=>cA f (xs.map m) aH|.ok (.ct aH)=>cA f (xs.map m) aH|.ok (.bk aH)=>.ok (.nx aH)|.ok (.rt g d)=>.ok (.rt g d)|.exc e=>.exc e|.no=>.no)=_;rw[e],q⟩
theorem zgc {Q:Res Out->Prop}{β:Type}{m:β->D}{xs:List β}(h:evF Κ Φ it Y=.ok (g,xs.map m,ρ1))(I:List β->Rho->Prop)(h0:I [] ρ1)
  (hf:∀pre x post Y,xs=pre++x::post->I pre Y->∃dC,fE t' (gJ (m x) g,m x) Y=.ok dC/\(Nx (I (pre++[x])) (aM Κ Φ p dC)\/∃g d,aM Κ Φ p dC=.ok (.rt g d)/\Q (.ok (.rt g d)))) (hk:∀aH,I xs aH->Q (aM Κ Φ rest aH)):Q (aM Κ Φ (.seq (.bP t' it p) rest) Y):=by
 rcases Og (f:=λx ρ1=>fE t' (gJ x g,x) ρ1>>=λdC=>aM Κ Φ p dC) I xs [] ρ1 (λpre x post Y hx hI=>by
  obtain⟨dC,e,hh⟩:=hf pre x post Y hx hI;rcases hh with⟨aH,h1,h2⟩|⟨g',d,h1,h2⟩
  ·exact .inl ⟨aH,by rw[e,Res.aC,h1],h2⟩
  ·exact .inr ⟨g',d,by rw[e,Res.aC,h1],h2⟩) h0 with⟨aH,e,i⟩|⟨g',d,e,q⟩
 ·rw[wN (HB h e) rfl];exact hk aH i
 ·rw[eL (HB h e)];exact q
def sR (w:Str):Bool:=([.str "and",.str "or",.str "not",.str "if",.str "is",.str "some",.str "all",.str "for",.str "against"]:List D).any λy=>eqD y (.str w)
def gn (w:Str):Str:=if sR w then w++"x"else w
theorem XO (h:w.length<=100):sI [.str w]=.ok (.fr,.str (gn w)):=by
 refine kM ?_;have hc:Tt [] [] (.tv (.cmp .In (.var 0) (.lst (.cons (.str "and") (.cons (.str "or") (.cons (.str "not") (.cons (.str "if") (.cons (.str "is") (.cons (.str "some") (.cons (.str "all") (.cons (.str "for") (.cons (.str "against") .nil)))))))))))) [some (.od,.str w)] (sR w):=bO (iL (aF rfl) (Ev.of (kO (bD bR (bD bR (bD bR (bD bR (bD bR (bD bR (bD bR (bD bR (bD bR (eF)))))))))))) rfl).e rfl;unfold gn;cases hk:sR w with
 |true=>refine pY hc hk (eL (gE (bH (aF rfl) bR.e (add_str (by have:("x":Str).length=1:=rfl;omega)) rfl)))
 |false=>exact rT hc hk (eL (gE (v_var rfl rfl)))
theorem Iv:("abcdefghijklmnopqrstuvwxyz":Str).length=26:=rfl
theorem Iw:("bcdefghjklmnpqrstuvwxyz":Str).length=23:=rfl
def p1 (c:Nat):Bool:=decide (97<=c)&&decide (c<=122)
def p2 (c:Nat):Bool:=p1 c&& !(c==97)&& !(c==105)&& !(c==111)
def Ch (p:Nat->Bool)(w:Str):Prop:=∀c∈w.cps.toList,p c=true
theorem Ch.app (ha:Ch p a)(hb:Ch p b):Ch p (a++b):=λc hc=>by
 have hc':c∈(a.cps++b.cps).toList:=hc;rw[sf]at hc';rcases bo.mp hc' with h|h
 ·exact ha c h
 ·exact hb c h
theorem Ch.sl (ha:Ch p a)(i j:Option Int):Ch p (fY a i j):=λc hc=>by
 have hc':c∈cut a.cps.toList i j:=by have h0:c∈(cut a.cps.toList i j).toArray.toList:=hc;simpa using h0
 exact ha c (nk (nq hc'))
theorem Ch.chr {i:Int}(h:Ch p z)(h0:0<=i)(h1:i<z.length):Ch p (Mk.chr z i):=λc hc=>by rw[av.mp hc];refine h _ (getD_mem h0 ?_);exact h1
theorem Ch.weak (h:Ch p z)(hq:∀c,p c=true->q c=true):Ch q z:=λc hc=>hq c (h c hc)
theorem Ch.nil:Ch p "":=λc hc=>by cases hc
theorem XQ (c:Nat)(h:p2 c=true):p1 c=true:=by unfold p2 at h;rw[bg,bg,bg]at h;exact h.1.1.1
theorem Ch.join (h:∀s∈ss,Ch p s):Ch p (z0e "" ss):=λc hc=>by
 have hc':c∈(lI ("":Str).cps.toList ss).toArray.toList:=hc;cases ss with
 |nil=>cases hc'
 |cons x r=>
  simp only[lI,bo,p7,dh]at hc';rcases hc' with hc'|⟨l,⟨y,hy,rfl⟩,hc'⟩
  ·exact h x ak c hc'
  ·rcases bo.mp hc' with hc'|hc'
   ·cases hc'
   ·exact h y (ah _ hy) c hc'
theorem Oh:Ch p1 "abcdefghijklmnopqrstuvwxyz":=by exact λc hc=>bp.mp (by decide+kernel) c hc
theorem XS:Ch p2 "bcdefghjklmnpqrstuvwxyz":=by exact λc hc=>bp.mp (by decide+kernel) c hc
structure NW (w:Str):Prop where
 l1:1<=w.length
 l2:w.length<=12
 ch:Ch p1 w
 kp:sR w=false
def yq:List Str:=["and","or","not","if","is","some","all","for","against"]
theorem DA (w:Str):sR w=true↔w∈yq:=by
 show(yq.map PyData.str).any (λy=>eqD y (.str w))=true↔_;rw[List.any_map,qa];constructor
 ·rintro⟨x,hx,h⟩
  have h':(x==w)=true:=h;rw[beq_iff_eq]at h';rw[<-h'];exact hx
 ·intro h;exact⟨w,h,by show(w==w)=true;rw[beq_self_eq_true]⟩
theorem XT (h1:1<=w.length)(h2:w.length<=12)(h:Ch p1 w):NW (gn w):=by
 unfold gn;cases hk:sR w with
 |false=>rw[vz dz];exact⟨h1,h2,h,hk⟩
 |true=>
  rw[vy rfl];have hx:Ch p1 ("x":Str):=λc hc=>by rw[av.mp hc];rfl
  have hl:∀v∈yq,v.length<=11/\sR (v++"x")=false:=by decide+kernel
  have D4:=hl w ((DA w).mp hk);refine⟨by rw[hX];omega,by rw[hX];have:("x":Str).length=1:=rfl;omega,h.app hx,D4.2⟩
theorem XU (z:Str){i:Int}(h:0<=i):(fY z none (some i)).length+(fY z (some i) none).length=z.length:=by
 have e:∀(a b:Option Int),(fY z a b).length=(cut z.cps.toList a b).length:=λa b=>by show((cut z.cps.toList a b).toArray).size=_;rw[az]
 rw[e,e,yo];generalize z.cps.toList=l;unfold cut;have s:Mi.aU l.length 0 (some i)=min i.toNat l.length:=vz (by omega);have s2:Mi.aU l.length l.length (some i)=min i.toNat l.length:=vz (by omega);rw[s,s2,fm,fm,gh,gh];show min (min i.toNat l.length-0) l.length+min (l.length-min i.toNat l.length) (l.length-min i.toNat l.length)=_;have:=p6 i.toNat l.length;generalize min i.toNat l.length=k at this;rw[Nat.min_self,Nat.sub_zero,jn this];omega
theorem uH (hm:∀x,imm (m x)=true)(ha:Ev Κ Φ a Y (.list (xs.map m)))(hb:Oo Κ Φ b Y i)(hc:Oo Κ Φ c Y j):aG Κ Φ (.sl a b c) Y=.ok (.fr,.list ((cut xs i j).map m)):=by obtain⟨g1,ha⟩:=ha;rw[wO,ha,Res.aC,hb,Res.aC,hc,Res.aC];rw[show tO (.list (xs.map m)) i j=.ok (.list (cut (xs.map m) i j))from rfl,Res.aC,Oe];show Res.ok (if imms ((cut xs i j).map m)=true then G.fr else _,_)=_;rw[vy (XN hm _)]
theorem Iy:Ch p1 ("x":Str):=λc hc=>by rw[av.mp hc];rfl
theorem Oi:Ch p1 "bcdefghjklmnpqrstuvwxyz":=XS.weak XQ
theorem Bb (c:Int)(h0:0<=k)(h1:k<=100):∃n,0<=n/\hM [.int c,.int k]=.ok (.fr,.int n):=by refine⟨(c%1000000000000000+104729*k*k+11)*48271%2147483647,jo _ (by decide),?_⟩;exact kM (eL (gE (bH (bH (bH (bH (bH (aF rfl) (bH aR.e aR.e rfl rfl).e (gD (by decide)) rfl).e (bH (bH aR.e (aF rfl) (Hr (by decide)) rfl).e (aF rfl) (Hq ⟨by omega,by omega⟩) rfl).e rfl rfl).e aR.e rfl rfl).e aR.e (Hq (by decide)) rfl).e aR.e (gD (by decide)) rfl)))
section
variable {Κ:List D}{Φ:List Fn}{Y:Rho}{c:C}{k:Bool}{p q rest:S}{Q:Res Out->Prop}
theorem Oj (hc:Tt Κ Φ c Y k)(h1:k=true->Nx (λaH=>Q (aM Κ Φ rest aH)) (aM Κ Φ p Y))(h2:k=false->Nx (λaH=>Q (aM Κ Φ rest aH)) (aM Κ Φ q Y)):Q (aM Κ Φ (.seq (.bA c p q) rest) Y):=by
 cases k with
 |true=>obtain⟨aH,e,z⟩:=h1 rfl;exact aQ (Az hc (λ_=>e) nofun) z
 |false=>obtain⟨aH,e,z⟩:=h2 rfl;exact aQ (Az hc nofun λ_=>e) z
theorem DB (hc:Tt Κ Φ c Y k)(h1:k=true->Nx (λaH=>Q (aM Κ Φ rest aH)) (aM Κ Φ p Y))(h2:k=false->Q (aM Κ Φ rest Y)):Q (aM Κ Φ (.seq (.bA c p .nil) rest) Y):=Oj hc h1 λh=>⟨_,tZ,h2 h⟩
theorem Iz (hc:Tt Κ Φ c Y k)(h1:k=true->∃g d,aM Κ Φ p Y=.ok (.rt g d)/\Q (.ok (.rt g d)))(h2:k=false->Q (aM Κ Φ rest Y)):Q (aM Κ Φ (.seq (.bA c p .nil) rest) Y):=by
 cases k with
 |true=>obtain⟨g,d,e,z⟩:=h1 rfl;rw[pY hc rfl e];exact z
 |false=>exact pZ hc rfl (h2 rfl)
end
def Np (ns:List Str):Prop:=ns.length=27/\(∀w∈ns,NW w)/\(ns.take 6).Nodup
theorem XW (fF:z.cps.toList.Nodup)(i0:0<=i)(i1:i<z.length)(j0:0<=j)(j1:j<z.length)(e:chr z i=chr z j):i=j:=by have e:=congrArg (λs:Str=>s.cps.toList) e;have e:=List.head_eq_of_cons_eq e;have hl:=yo z;rw[am,am,bn (by omega),bn (by omega)]at e;have:=(List.getElem_inj fF).mp e;omega
theorem XY (h:w.length<=11):(gn w).length<=11:=by
 unfold gn;split
 ·rename_i hk;have hl:∀v∈yq,v.length<=7:=by decide+kernel
  have:=hl w ((DA w).mp hk);rw[hX];have:("x":Str).length=1:=rfl;omega
 ·exact h
theorem XZ (h:a++("x":Str)=b++"x"):a=b:=by have e:=congrArg (λs:Str=>s.cps.toList) h;rw[kS,kS]at e;exact xg (pj e)
theorem X0 (hl:a.length=b.length)(h:gn a=gn b):a=b:=by
 have lx:("x":Str).length=1:=rfl;unfold gn at h;split at h<;>split at h
 ·exact XZ h
 ·have :=congrArg Str.length h;rw[hX]at this;omega
 ·have :=congrArg Str.length h;rw[hX]at this;omega
 ·exact h
theorem IA (h:v.length<=11)(n:NW v):NW (v++"x"):=by
 have lx:("x":Str).length=1:=rfl;refine⟨by rw[hX];omega,by rw[hX];omega,n.ch.app Iy,?_⟩;cases hk:sR (v++"x")with
 |false=>rfl
 |true=>
  have hl:∀k∈yq,k.cps.toList.getLast?≠some 120:=by decide+kernel
  refine absurd ?_ (hl _ ((DA _).mp hk));rw[kS,show("x":Str).cps.toList=[120]from by decide+kernel,List.getLast?_append];rfl
theorem zcc {β:Type}{m:β->D}{xs:List β}(f:β->Str)(hw:evW Κ Φ it Y=.ok w)(hx:w.2=xs.map m)(r:β->Rho)
  (hb:∀x∈xs,fE tg (gJ (m x) w.1,m x) (bq nt none++js.map λj=>fO (Y.getD j none))=.ok (r x)) (he:∀x∈xs,Vv Κ Φ elt (r x) (.str (f x))):
  aG Κ Φ (.comp nt js N' tg it .nil elt) Y=.ok (.fr,.list ((xs.map f).map .str)):=by
 have e:=z6y (N':=N') (λ_=>true) (λx=>.str (f x)) hw hx r hb (λ_ _=>C7) λx h _=>he x h;rw[lm.mpr λ_ _=>rfl]at e;rw[e,gq];rfl
theorem sgn {Φ:List Fn}{Y:Rho}{z:Str}{n:Int}{b:Int}{m:Int}(hz:z.length=b.toNat)(X1:Ch p1 z)(fF:z.cps.toList.Nodup)(X2:b=23\/b=26)(h1:Y[1]?=some (some (.al,.str z)))(h2:Y[2]?=some (some (.al,.int n)))(hm:0<m/\m<2 ^ 200):∃ss:List Str,(ss.length=23/\(∀s∈ss,s.length=1/\Ch p1 s)/\ss.Nodup)/\aG [] Φ (.comp 1 [1,2] ["_law_k","_law_letters","_law_number"] (.nm 0) (.gQ (.cons (.int 23) .nil)) .nil (.ix (.var 1) (.bin .Mod (.bin .Add (.bin .FloorDiv (.var 2) (.int m)) (.bin .Mult (.int 3) (.var 0))) (.int b)))) Y=.ok (.fr,.list (ss.map .str)):=by
 have hb:0<b:=by omega
 have p:∀k:Nat,0<=(n/m+3*(k:Int))%b/\(n/m+3*(k:Int))%b<z.length:=λk=>⟨jo _ (by omega),by have:=ly (n/m+3*(k:Int)) hb;rw[hz];omega⟩;refine⟨(cj 23).map λ(k:Nat)=>chr z ((n/m+3*(k:Int))%b),⟨by rw[aq,d8],λs hs=>?_,?_⟩,zcc (m:=λi:Nat=>PyData.int i) _ (C8 (aZ aR.e cJ) (Aw (by omega) (by omega))) rfl (λk=>[some (.al,.int k),some (.al,.str z),some (.al,.int n)]) (λk _=>by show fE (.nm 0) _ ([none]++[fO (Y.getD 1 none),fO (Y.getD 2 none)])=_;rw[am,am,h1,h2];rfl) λk _=>bN (aF rfl) (bH (bH (bH (aF rfl) aR.e (yp hm.1 hm.2) rfl).e (bH aR.e (aF rfl) (Hr (by decide)) rfl).e rfl rfl).e aR.e (gD hb) rfl).e (xS (p k).1 (p k).2 (by omega)) rfl⟩
 ·obtain⟨k,_,rfl⟩:=dh.mp hs;exact⟨rfl,X1.chr (p k).1 (p k).2⟩
 ·refine uz.mpr (pp (λ{i j} hi hj fG e=>fG ?_) List.nodup_range);have hi:=gj.mp hi;have hj:=gj.mp hj;have:=XW fF (p i).1 (p i).2 (p j).1 (p j).2 e;generalize n/m=a at this;rcases X2 with rfl|rfl<;>omega
theorem DC {Q:Res Out->Prop}(hc:Tt Κ Φ c Y k)(hk:k=true)(h:aM Κ Φ p Y=.ok (.nx aH))(h2:Q (aM Κ Φ rest aH)):Q (aM Κ Φ (.seq (.bA c p .nil) rest) Y):=by rw[Ww hc hk h rfl];exact h2
abbrev DD:List Fn:=[sI,hM]
theorem X3 (c:Int):∃ns,Np ns/\l' [.int c]=.ok (.fr,.list (ns.map .str)):=by
 let Q:Res Out->Prop:=λr=>∃ns,Np ns/\r=.ok (.rt .fr (.list (ns.map .str)))
 suffices h:Q (aM [] DD sJ [some (.od,.int c),none,none,none,none,none,none,none,none]) by obtain⟨ns,h1,h2⟩:=h;exact⟨ns,h1,kM h2⟩
 unfold sJ;obtain⟨n,n0,en⟩:=Bb c (k:=0) (by decide) (by decide);have bs:∀k:Nat,∀s,s=chr "bcdefghjklmnpqrstuvwxyz" ((n/11+5*(k:Int)*k)%23)->s.length=1/\Ch p1 s:=λk s h=>by rw[h];exact⟨rfl,Oi.chr (by omega) (by rw[Iw];omega)⟩
 have Ol:∀s∈(cj (n%11).toNat).map λ(k:Nat)=>chr "bcdefghjklmnpqrstuvwxyz" ((n/11+5*(k:Int)*k)%23),s.length=1/\Ch p1 s:=λs h=>by obtain⟨k,_,e⟩:=dh.mp h;exact bs k s e.symm
 have hj:=λs h=>(Ol s h).1;have X4:((cj (n%11).toNat).map λ(k:Nat)=>chr "bcdefghjklmnpqrstuvwxyz" ((n/11+5*(k:Int)*k)%23)).length<=10:=by rw[aq,d8];omega
 refine aQ (fI bR) (aQ (fI (pB (aZ (aF rfl) (aZ aR.e cJ)) rfl en rfl)) (aQ (fI (bH (aF rfl) aR.e (gD (by decide)) rfl)) (aQ (fI (rR bR.e (aZ (Ev.of (zcc (m:=λi:Nat=>PyData.int i) (xs:=cj (n%11).toNat) (λk=>chr "bcdefghjklmnpqrstuvwxyz" ((n/11+5*(k:Int)*k)%23)) (C8 (aZ (aF rfl) cJ) (Aw (by omega) (by omega))) rfl (λk=>[some (.al,.int k),some (.al,.str "bcdefghjklmnpqrstuvwxyz"),some (.al,.int n)]) (λk _=>rfl) (λk hk=>by
  have qN:k<1000:=by have:=gj.mp hk;omega
  exact bN (aF rfl) (bH (bH (bH (d:=.int (n/11)) (aF rfl) aR.e rfl rfl).e (bH (bH aR.e (aF rfl) (Hr (by decide)) rfl).e (aF rfl) (Hq (by omega)) rfl).e rfl rfl).e aR.e (gD (by decide)) rfl).e (xS (by omega) (by rw[Iw];omega) (by rw[Iw];omega)) rfl))) cJ) (V9 hj (by omega)) rfl)) (aQ (fI (bH (bH (d:=.int (n/253)) (aF rfl) aR.e rfl rfl).e (bH (aF rfl) aR.e rfl rfl).e (gD (by omega)) rfl)) ?_))))
 have IB:=V8 _ hj;have Bc:=Ch.join λs h=>(Ol s h).2;generalize z0e "" _=cR at IB Bc;have a0:0<=n/253%(n%11+1):=jo _ (by omega);generalize n/253%(n%11+1)=at' at a0;obtain⟨sg,X5,X6⟩:=sgn (Φ:=DD) (Y:=[some (.od,.int c),some (.al,.str "bcdefghjklmnpqrstuvwxyz"),some (.al,.int n),some (.al,.int (n%11)),some (.al,.str cR),some (.al,.int at'),none,none,none]) (b:=23) (m:=7) rfl Oi (by decide+kernel) (.inl rfl) rfl rfl (by decide);refine aQ (mU X6 (iK _)) ?_
 suffices fin:∀{u1 u2 u3 u7:Option GD} {cR:Str} {at':Int} {ss:List Str},cR.length<=10->Ch p1 cR->0<=at'->(ss.length=23/\(∀s∈ss,s.length=1/\Ch p1 s)/\ss.Nodup)->Q (aM [] DD _ [some (.od,.int c),u1,u2,u3,some (.al,.str cR),some (.al,.int at'),some (.fr,.list (ss.map .str)),u7,none]) by
  refine DB (Dz (bH (aF rfl) aR.e (gD (by decide)) rfl).e) (λ_=>?_) λ_=>fin (by omega) Bc a0 X5;have a2:0<=c/2/11%(c/2%11+1):=jo _ (by omega);obtain⟨sh,X7,X8⟩:=sgn (Φ:=DD) (Y:=[some (.od,.int c),some (.al,.str "abcdefghijklmnopqrstuvwxyz"),some (.al,.int (c/2)),some (.al,.int (c/2%11)),some (.al,.str cR),some (.al,.int (c/2/11%(c/2%11+1))),some (.fr,.list (sg.map .str)),none,none]) (b:=26) (m:=132) rfl Oh (by decide+kernel) (.inr rfl) rfl rfl (by decide);refine aQ (fI bR) (aQ (fI (d:=.int (c/2)) (bH (aF rfl) aR.e rfl rfl)) (aQ (fI (bH (aF rfl) aR.e (gD (by decide)) rfl)) (aQ (fI (bH (bH (d:=.int (c/2/11)) (aF rfl) aR.e rfl rfl).e (bH (aF rfl) aR.e rfl rfl).e (gD (by omega)) rfl)) (aQ (mU X8 (iK _)) (aQ (fI (d:=.int (c/2/3432)) (bH (aF rfl) aR.e rfl rfl)) (aQ (fI bR) ?_))))));refine q_nm (m:=λi:Nat=>.int i) (xs:=cj (c/2%11).toNat) (MT (aZ (aF rfl) cJ) (Aw (by omega) (by omega))) (λ_=>rfl) (λpre Y=>∃q st u7,Y=[some (.od,.int c),some (.al,.str "abcdefghijklmnopqrstuvwxyz"),some (.al,.int q),some (.al,.int (c/2%11)),some (.al,.str st),some (.al,.int (c/2/11%(c/2%11+1))),some (.fr,.list (sh.map .str)),u7,none]/\st.length=pre.length/\Ch p1 st) ⟨c/2/3432,"",none,rfl,rfl,Ch.nil⟩ ?_ ?_
  ·rintro pre x post Y hx ⟨q,st,u7,rfl,hl,iC⟩
   have hp:=congrArg l7 hx;simp only[d8,ax,ay]at hp;refine aQ (fI (v_add (aF rfl) (bN (aF rfl) (bH (aF rfl) aR.e (gD (by decide)) rfl).e (xS (z:="abcdefghijklmnopqrstuvwxyz") (i:=q%26) (by omega) (by rw[Iv];omega) (by rw[Iv];omega)) rfl).e (by rw[MN];omega))) (aQ (fI (d:=.int (q/26)) (bH (aF rfl) aR.e rfl rfl)) (mE ⟨q/26,_,some (.al,.int x),rfl,by rw[hX,MN,ax,hl];rfl,iC.app (Oh.chr (by omega) (by rw[Iv];omega))⟩))
  ·rintro Y ⟨q,st,u7,rfl,hl,iC⟩
   rw[d8]at hl;exact mE (fin (by omega) iC a2 X7)
 intro u1 u2 u3 u7 cR at' ss hs iC h0 ⟨hl,h1,fF⟩;have hc:=XU cR h0
 let w:Str->Str:=λs=>fY cR none (some at')++s++fY cR (some at') none
 have tH:∀s∈ss,(w s).length=cR.length+1:=λs rH=>by show(fY cR none (some at')++s++fY cR (some at') none).length=_;rw[hX,hX,(h1 s rH).1];omega
 refine aQ (mU (zcc (m:=PyData.str) (xs:=ss) (w:=(.al,ss.map .str)) (λs=>gn (w s)) (gW (g:=.al) (x:=.list (ss.map .str)) rfl rfl) rfl (λs=>[some (.al,.str s),some (.al,.str cR),some (.al,.int at')]) (λs _=>rfl) (λs hx=>pB (aZ (v_add (v_add (Ay (aF rfl) oJ (lS (aF rfl)) (Cf (by omega)) rfl).e (aF rfl) (by have:=(h1 s hx).1;omega)).e (Ay (aF rfl) (lS (aF rfl)) oJ (Cf (by omega)) rfl).e (by rw[hX];have:=(h1 s hx).1;omega)).e cJ) rfl (XO (by have:=tH s hx;show(w s).length<=_;omega)) rfl)) (iK _)) ?_;have Bd:∀v∈ss.map (λs=>gn (w s)),v.length<=11/\NW v:=λv hv=>by obtain⟨s,rH,rfl⟩:=dh.mp hv;have:=tH s rH;exact⟨XY (by omega),XT (by omega) (by omega) (((iC.sl _ _).app (h1 s rH).2).app (iC.sl _ _))⟩
 have Om:(ss.map λs=>gn (w s)).Nodup:=by refine uz.mpr (pp (λ{a b} ha hb fG e=>fG ?_) fF);have e:=congrArg (λs:Str=>s.cps.toList) (show fY cR none (some at')++a++fY cR (some at') none=fY cR none (some at')++b++fY cR (some at') none from X0 ((tH a ha).trans (tH b hb).symm) e);rw[kS,kS,kS,kS]at e;exact xg (List.append_cancel_left (pj e))
 have zo:(ss.map λs=>gn (w s)).length=23:=by rw[aq];exact hl
 generalize (ss.map λs=>gn (w s))=ns at Bd zo Om;have iV:(cut ns none (some 4)).length=4:=by unfold cut;simp only[Mi.aU,vz (show ¬(4:Int)<0 by omega),fm,gh,zo];omega
 have cQ:∀v∈cut ns none (some 4),v∈ns:=λv hv=>nk (nq hv);refine⟨ns++(cut ns none (some 4)).map λ(v:Str)=>v++"x",⟨by rw[ax,aq,zo,iV],λv hv=>?_,by rw[List.take_append_of_le_length (by omega)];exact Om.sublist (uf _ _)⟩,eL (Wt nofun (C5 (aF rfl) (Ev.of (zcc (m:=PyData.str) (xs:=cut ns none (some 4)) (λv=>v++"x") (gW (uH (m:=PyData.str) (xs:=ns) (λ_=>rfl) (aF rfl) oJ (lS aR.e)) rfl) rfl (λv=>[some (.al,.str v)]) (λv _=>rfl) (λv hx=>v_add (aF rfl) bR.e (by have:=Bd v (cQ v hx);have:("x":Str).length=1:=rfl;omega)))) (by rw[add_list (by simp only[aq];omega),<-ef]) (iK _)))⟩;rcases bo.mp hv with h|h
 ·exact(Bd v h).2
 ·obtain⟨z,hz,rfl⟩:=dh.mp h;exact IA (Bd z (cQ z hz)).1 (Bd z (cQ z hz)).2
theorem DE (ha:Ev Κ Φ a Y x)(hb:Ev Κ Φ b Y y)(hc:Ev Κ Φ c Y z)(h1:cmpD op x y=.ok k)(h2:cmpD op' y z=.ok k'):Vv Κ Φ (.chain op op' a b c) Y (.bool (k&&k')):=by
 obtain⟨g1,ha⟩:=ha;obtain⟨g2,hb⟩:=hb;obtain⟨g3,hc⟩:=hc;refine⟨?_,rfl⟩;rw[Wh,ha,Res.aC,hb,Res.aC];rw[h1,Res.aC];cases k with
 |true=>rw[hc,Res.aC,h2];rfl
 |false=>rfl
theorem len_str (h:w.length<=LIM):gS "len" [.str w]=.ok (.int (w.length:Int)):=by show(if w.length<=LIM then _ else _)=_;rw[vy h]
theorem X9 (h:Κ[k]?=some d)(hi:imm d=true):Vv Κ Φ (.glob k x) Y d:=by
 refine⟨?_,hi⟩;show(match Κ[k]? with|some d=>if imm d=true then Res.ok (G.fr,d)else .no|none=>.no)=_;rw[h]
 dsimp only
 rw[vy hi]
theorem IC:∀(bs:List Bool),allB (bs.map .bool)=some bs
 | []=>rfl
 |b::bs=>by rw[bx];show(allB (bs.map .bool)).map (b:: ·)=_;rw[IC bs];rfl
def isn (w:Str):Bool:=(decide ((1:Int)<=w.length)&&decide ((w.length:Int)<=12))&&(w.cps.toList.all p1&& !sR w)
theorem sS (a b:Nat):decide ([a]< [b])=decide (a<b):=by
 rw[decide_eq_decide];constructor
 ·intro h;cases h with
  |rel h=>exact h
  |cons h=>cases h
 ·exact λh=>.rel h
theorem Oq (hL:w.length<=LIM):F_z0 [.str w]=.ok (.fr,.bool (isn w)):=by
 refine kM ?_;have hw:z56 (.str w)=.ok (w.cps.toList.map λc=>PyData.str ⟨#[c]⟩):=by show(if w.length<=LIM then _ else _)=_;rw[vy hL]
 have ec:=z6y (Κ:=[(.tuple [(.str "and"),(.str "or"),(.str "not"),(.str "if"),(.str "is"),(.str "some"),(.str "all"),(.str "for"),(.str "against")])]) (Φ:=[]) (Y:=[some (.od,.str w)]) (nt:=1) (js:=[]) (N':=["sign"]) (tg:=.nm 0) (it:=.tv (.var 0)) (elt:=.chain .LtE .LtE (.str "a") (.var 0) (.str "z")) (λ_=>true) (λc=>.bool (p1 c)) (gW (v_var rfl rfl).1 hw) rfl (λc=>[some (.al,.str ⟨#[c]⟩)]) (λc _=>rfl) (λc _=>C7)
  (λc _ _=>by
   refine DE bR.e (aF rfl) bR.e ?_ ?_
   ·show Res.ok (!decide ([c]< [97]))=_;rw[sS,<-decide_not]
    congr 1
    rw[decide_eq_decide];omega
   ·show Res.ok (!decide ([122]< [c]))=_;rw[sS,<-decide_not]
    congr 1
    rw[decide_eq_decide];omega)
 rw[lm.mpr λ_ _=>rfl]at ec;have ea:aggD "all" true (w.cps.toList.map λc=>PyData.bool (p1 c))=.ok (.bool (w.cps.toList.all p1)):=by have e1:=IC (w.cps.toList.map p1);rw[gq]at e1;show Res.eQ ((allB (w.cps.toList.map λc=>PyData.bool (p1 c))).map λbs=>PyData.bool (bs.all id))=_;rw[show(w.cps.toList.map λc=>PyData.bool (p1 c))=w.cps.toList.map (PyData.bool∘p1)from rfl,e1];show Res.ok (PyData.bool ((w.cps.toList.map p1).all id))=_;rw[uy];rfl
 refine eL (gE ?_);exact v_and (k:=true) (lT (Κ:=[(.tuple [(.str "and"),(.str "or"),(.str "not"),(.str "if"),(.str "is"),(.str "some"),(.str "all"),(.str "for"),(.str "against")])]) (Φ:=[]) (Y:=[some (.od,.str w)]) (a:=.var 0) (ts:=["str"]) (aF rfl)).e λ_=>v_and (DE aR.e (eN (aZ (aF rfl) cJ) (len_str hL) rfl).e aR.e rfl rfl).e λ_=>v_and (C6 (Ev.of ec) rfl ea rfl).e λ_=>iL (aF rfl) (X9 rfl rfl).e rfl
def ac (c:Nat):Bool:=decide (c<128)&& !(c==10)
def uI (w:Str):Prop:=Ch ac w
theorem Be (h:Ch p1 w):uI w:=h.weak λc z=>by unfold p1 at z;unfold ac;rw[bh,decide_eq_true_eq,decide_eq_true_eq]at z;rw[bh,decide_eq_true_eq];exact⟨by omega,by simp;omega⟩
theorem Ot (h:w.cps.toList.all ac=true):uI w:=λc hc=>bp.mp h c hc
theorem X' (h:uI w):PyData.strOk w=true:=by unfold PyData.strOk;rw[<-m8,bp];intro c hc;have:=h c hc;unfold ac at this;rw[bh,decide_eq_true_eq]at this;simp;omega
theorem Ya (h:uI w):10∉w.cps.toList:=λz=>by have:=h 10 z;revert this;decide
theorem ID (h:Ch p1 w):32∉w.cps.toList:=λz=>by have:=h 32 z;revert this;decide
def upS (z:Str):Str:=⟨(z.cps.toList.map (· -32)).toArray⟩
theorem IE (h:Ch p1 w)(hl:w.length<=100):Cj (.str w)=.ok (.str (upS w)):=by show(if(w.cps.toList.all (λc=>decide (97<=c)&&decide (c<=122))&&decide (w.length<=LIM))=true then _ else _)=_;have h1:w.cps.toList.all (λc=>decide (97<=c)&&decide (c<=122))=true:=bp.mpr h;rw[h1,we (by unfold LIM;omega)];rfl
theorem Yb (w:Str):(upS w).length=w.length:=by show((w.cps.toList.map (· -32)).toArray).size=_;rw[az,aq,cq];rfl
theorem Yc (h:Ch p1 w):uI (upS w):=λc hc=>by obtain⟨d,hd,rfl⟩:=dh.mp hc;have:=h d hd;unfold p1 at this;unfold ac;rw[bh,decide_eq_true_eq,decide_eq_true_eq]at this;rw[bh,decide_eq_true_eq];exact⟨by omega,by simp;omega⟩
theorem Yd (ha:Ev Κ Φ a Y (.str w))(h:Ch p1 w)(hl:w.length<=100):Vv Κ Φ (.xU a) Y (.str (upS w)):=by obtain⟨g,ha⟩:=ha;refine⟨?_,rfl⟩;show(aG Κ Φ a Y>>=λx=>Cj x.2>>=λd=>Res.ok (G.fr,d))=_;rw[ha,Res.aC,IE h hl];rfl
theorem IF (ws:List Str):gS "len" [.list (ws.map .str)]=.ok (.int (ws.length:Int)):=by show Res.ok (PyData.int ((ws.map PyData.str).length:Nat))=_;rw[aq]
theorem Ou:∀n (ss:List Str),iX (n+1) (ss.map .str)=true
 |_,[]=>rfl
 |n,s::ss=>by show(bY (n+1) (.str s)&&iX (n+1) (ss.map .str))=true;rw[Ou n ss];rfl
theorem IG (w:Str)(ss:List Str):inD (.str w) (.list (ss.map .str))=.ok (decide (w∈ss)):=by
 show(if(bY 40 (.str w)&&iX 40 (ss.map .str))=true then Res.ok _ else .no)=_;rw[Ou 39 ss];show Res.ok _=_
 congr 1
 rw[List.any_map,qp,qa,decide_eq_true_iff];constructor
 ·rintro⟨x,hx,e⟩
  have e:eqD (.str x) (.str w)=true:=e;rw[pE,decide_eq_true_eq]at e;rw[<-e];exact hx
 ·exact λh=>⟨w,h,by show eqD (.str w) (.str w)=true;rw[pE];simp⟩
theorem Bf:isn ""=false:=by decide+kernel
theorem Ov:∀(xs:List D),zipD xs xs=xs.map λe=>.tuple [e,e]
 | []=>rfl
 |x::xs=>by show PyData.tuple [x,x]::zipD xs xs=_;rw[Ov xs];rfl
theorem Ye (h:imms xs=true)(he:e∈xs):imm e=true:=by
 induction xs with
 |nil=>cases he
 |cons x xs ih=>
  have h:(imm x&&imms xs)=true:=h;rw[bh]at h;rcases ao.mp he with rfl|he
  ·exact h.1
  ·exact ih h.2 he
theorem iP (k:Nat)(s:Str):bE (k+1) [.str s,.str s]=.ok (.fr,.bool true):=by refine kM (pY (bO (lT (aF rfl)).e rfl) rfl (eL (gE (v_and (lT (x:=.str s) (aF rfl)).e λ_=>iL (aF rfl) (aF rfl) ?_))));show Res.ok (eqD (.str s) (.str s))=_;rw[pE];simp
theorem Ow (k:Nat)(i:Int):bE (k+1) [.int i,.int i]=.ok (.fr,.bool true):=by refine kM (rT (bO (lT (aF rfl)).e rfl) rfl (pY (bO (lT (aF rfl)).e rfl) rfl (eL (gE (v_and (lT (x:=.int i) (aF rfl)).e λ_=>v_and (v_not (lT (x:=.int i) (aF rfl)).e rfl).e λ_=>iL (aF rfl) (aF rfl) ?_)))));show Res.ok (eqD (.int i) (.int i))=_;rw[Dq];simp
theorem IH (hx:x=.tuple xs\/x=.list xs)(hi:imms xs=true)(hl:xs.length<=100)(he:∀e∈xs,bE k [e,e]=.ok (.fr,.bool true)):bE (k+1) [x,x]=.ok (.fr,.bool true):=by
 refine kM ?_
 let Q:Res Out->Prop:=λr=>r=.ok (.rt .fr (.bool true))
 show Q _
 have sq:seqR x=.ok xs:=by
  rcases hx with rfl|rfl
  ·show(if decide (xs.length<=LIM)=true then _ else _)=_;rw[vy (we (by unfold LIM;omega))]
  ·show(if decide (xs.length<=LIM)=true then _ else _)=_;rw[vy (we (by unfold LIM;omega))]
 have ln:gS "len" [x]=.ok (.int xs.length):=by rcases hx with rfl|rfl<;>rfl
 have t3:Tt [] [bE k] (.or (.tv (.cmp .NotEq (.eC (.var 1) ["tuple"]) (.eC (.var 0) ["tuple"]))) (.tv (.cmp .NotEq (.eC (.var 1) ["list"]) (.eC (.var 0) ["list"])))) [some (.od,x),some (.od,x),none,none] (false||false):=by rcases hx with rfl|rfl<;>exact rS (bO (iL (lT (aF rfl)).e (lT (aF rfl)).e rfl).e rfl) λ_=>bO (iL (lT (aF rfl)).e (lT (aF rfl)).e rfl).e rfl
 refine pZ (by rcases hx with rfl|rfl<;>exact bO (lT (aF rfl)).e rfl) rfl (pZ (by rcases hx with rfl|rfl<;>exact bO (lT (aF rfl)).e rfl) rfl (pZ t3 rfl (pZ (bO (iL (eN (aZ (aF rfl) cJ) ln rfl).e (eN (aZ (aF rfl) cJ) ln rfl).e (by show Res.ok (!eqD (.int _) (.int _))=_;rw[Dq];simp)).e rfl) rfl ?_)))
 have ev:∀i,i<2->∃g,aG [] [bE k] (.var i) [some (.od,x),some (.od,x),none,none]=.ok (g,x)/\pS (g,x)=true:=λi h=>by
  rcases hx with rfl|rfl
  ·rcases i with _|_|i
   ·exact⟨.fr,(v_var (d:=.tuple xs) rfl hi).1,rfl⟩
   ·exact⟨.fr,(v_var (d:=.tuple xs) rfl hi).1,rfl⟩
   ·omega
  ·rcases i with _|_|i
   ·exact⟨_,rfl,rfl⟩
   ·exact⟨_,rfl,rfl⟩
   ·omega
 obtain⟨g0,e0,c0⟩:=ev 0 (by decide);obtain⟨g1,e1,c1⟩:=ev 1 (by decide);have fz:=Gs e0 e1 c0 c1 sq sq;rw[Ov]at fz;refine zgc fz (λpre Y=>∃u2 u3,Y=[some (.od,x),some (.od,x),u2,u3]) ⟨none,none,rfl⟩ ?_ ?_
 ·rintro pre e post Y FZ ⟨u2,u3,rfl⟩
  have hm:e∈xs:=by rw[FZ];simp
  have ie:=Ye hi hm;refine⟨[some (.od,x),some (.od,x),some (.al,e),some (.al,e)],?_,.inl ?_⟩
  ·have ig:gJ (.tuple [e,e]) .al=.fr:=kN (by show(imm e&&(imm e&&true))=true;rw[ie];rfl);rw[ig];show Res.ok [some (.od,x),some (.od,x),some (jL (gJ e .fr,e)),some (jL (gJ e .fr,e))]=_;rw[kN ie];rfl
  ·exact⟨_,rT (zG (bO (pB (aZ (v_var rfl ie).e (aZ (v_var rfl ie).e cJ)) rfl (he e hm) rfl).e rfl)) rfl tZ,_,_,rfl⟩
 ·rintro Y ⟨u2,u3,rfl⟩
  exact eL (gE Hz)
theorem Bg (ha:bE k [a,a]=.ok (.fr,.bool true))(hb:bE k [b,b]=.ok (.fr,.bool true))(hi:imms [a,b]=true):bE (k+1) [.tuple [a,b],.tuple [a,b]]=.ok (.fr,.bool true):=IH (.inl rfl) hi (show 2<=100 by decide) λe he=>by
 rcases ao.mp he with rfl|he
 ·exact ha
 ·rw[av.mp he];exact hb
theorem Yf (s:Str):toS s.cps.toList=s:=xg (by show s.cps.toList.toArray.toList=_;simp)
theorem Ox:∀{a:List Nat},x∉a->aT x a=[a]
 | [],_=>rfl
 |c::a,h=>by unfold aT;rw[vz (λz=>h (by rw[z];exact ak)),Ox λz=>h (ah _ z)]
theorem Oy:∀{a b:List Nat},x∉a->aT x (a++x::b)=a::aT x b
 | [],b,_=>by show(if x=x then[]::aT x b else _)=_;rw[vy rfl]
 |c::a,b,h=>by show(if c=x then[]::aT x (a++x::b)else match aT x (a++x::b)with|h::t=>(c::h)::t| []=>[[c]])=_;rw[vz (λz=>h (by rw[z];exact ak)),Oy λz=>h (ah _ z)]
theorem uJ (c:Nat)(x y:Str)(r:List Str):lI [c] (x::y::r)=x.cps.toList++c::lI [c] (y::r):=by show x.cps.toList++(List.map (λp:Str=>[c]++p.cps.toList) (y::r)).flatten=_;rw[bx];rfl
theorem Oz:∀r x,(∀s∈x::r,c∉s.cps.toList)->aT c (lI [c] (x::r))=(x::r).map λs=>s.cps.toList
 | [],x,h=>by show aT c (x.cps.toList++[])=_;rw[ci,Ox (h x ak)];rfl
 |y::r,x,h=>by rw[uJ,Oy (h x ak),Oz r y λs hs=>h s (ah _ hs)];rfl
theorem II (hz:z.cps.toList=[c])(hr:∀r∈rs,c∉r.cps.toList)(hn:rs≠[]):spW c (z0e z rs)=rs:=by
 cases rs with
 |nil=>exact absurd rfl hn
 |cons x r=>unfold spW;rw[uG,hz,Oz r x hr,gq];have:(toS∘λs:Str=>s.cps.toList)=id:=funext Yf;rw[this,vf]
theorem Yg:("\n":Str).cps.toList=[10]:=by decide+kernel
theorem xh:(" ":Str).cps.toList=[32]:=by decide+kernel
theorem IJ:∀{rs:List Str} {c:Nat},c∈lI [x] rs->c=x\/∃r∈rs,c∈r.cps.toList
 | [],c,h=>by cases h
 | [y],c,h=>by have h:c∈y.cps.toList++[]:=h;rw[ci]at h;exact .inr ⟨y,ak,h⟩
 |y::z::r,c,h=>by
  rw[uJ]at h;rcases bo.mp h with h|h
  ·exact .inr ⟨y,ak,h⟩
  ·rcases ao.mp h with h|h
   ·exact .inl h
   ·rcases IJ h with h|⟨q,hq,h⟩
    ·exact .inl h
    ·exact .inr ⟨q,ah _ hq,h⟩
theorem IK:∀{rs:List Str},(∀r∈rs,r.length<=n)->(lI [x] rs).length<=(n+1)*rs.length
 | [],_=>ag _
 | [y],h=>by show(y.cps.toList++[]).length<=_;rw[ci,<-yo];have:=h y ak;simp;omega
 |y::z::r,h=>by rw[uJ,ax,ay,<-yo,ay,Nat.mul_succ];have:=h y ak;have:=IK (x:=x) λs hs=>h s (ah _ hs);omega
theorem OA:∀{rs:List Str},(∀r∈rs,r.length<=n)->(rs.map (·.length)).sum<=n*rs.length
 | [],_=>ag _
 |x::r,h=>by rw[bx,List.sum_cons,ay,Nat.mul_succ];have:=h x ak;have:=OA λs hs=>h s (ah _ hs);omega
structure iQ (r:Str):Prop where
 asc:uI r
 len:r.length<=200
theorem OB (h:∀w∈ws,uI w/\w.length<=13)(hl:ws.length<=14):iQ (z0e " " ws):=by
 refine⟨λc hc=>?_,?_⟩
 ·rw[uG,xh]at hc;rcases IJ hc with rfl|⟨w,hw,hc⟩
  ·decide
  ·exact(h w hw).1 c hc
 ·rw[yo,uG,xh];have:=IK (x:=32) λr hr=>(h r hr).2;omega
theorem Yh (h:∀c∈w.cps.toList,c<128):PyData.strOk w=true:=by unfold PyData.strOk;rw[<-m8,bp];intro c hc;have:=h c hc;simp;omega
theorem Yi (h:ac c=true):c<128:=by unfold ac at h;rw[bh,decide_eq_true_eq]at h;exact h.1
theorem Yj (hr:∀r∈rs,iQ r):PyData.strOk (z0e "\n" rs)=true:=Yh λc hc=>by
 rcases IJ hc with rfl|⟨r,h,hc⟩
 ·decide
 ·exact Yi ((hr r h).asc c hc)
theorem IL (hz:z.length=1)(h:∀r∈rs,r.length<=n)(hn:n<=300)(hl:rs.length<=100):qU z rs<=LIM:=by unfold qU;have a:=OA h;have b:=Nat.mul_le_mul hn hl;rw[hz];unfold LIM;omega
theorem uK (h:NW w):isn w=true:=by unfold isn;rw[we (show(1:Int)<=w.length by have:=h.l1;omega),we (show(w.length:Int)<=12 by have:=h.l2;omega),bp.mpr h.ch,h.kp];rfl
theorem Yk (h:isn w=true):Ch p1 w:=by unfold isn at h;rw[bh]at h;have h:=h.2;rw[bh,bp]at h;exact h.1
theorem Bh (w:Str)(ws:List Str):Mi.pk (w::ws) 0=w:=rfl
theorem Yl (p:Nat):Mi.pk [] p="":=rfl
theorem IM (h:ws.drop p=x::r):Mi.pk ws p=x/\ws.drop (p+1)=r:=by
 refine⟨?_,?_⟩
 ·unfold Mi.pk;have e:=congrArg (λl=>l[0]?) h;rw[t8]at e;rw[am,show p=p+0 from rfl,e];rfl
 ·rw[<-rg,h];rfl
theorem OC (h:ws.drop p=[]):Mi.pk ws p="":=by unfold Mi.pk;rw[am,ij (List.drop_eq_nil_iff.mp h)];rfl
theorem zaq:∀ns k p acc sd rest,ws.drop p=ns++rest->(∀w∈ns,nb w=true)->nb (Mi.pk rest 0)=false->ns.length<=k->acc.Nodup->
  wV nb ws k p acc sd=if(acc++ns).Nodup then some (acc++ns,p+ns.length,sd++ns.map λw=>dA w OFT)else none
 | [],k,p,acc,sd,rest,hd,_,hr,_,ha=>by
  rw[ci,vy ha];cases k with
  |zero=>show some (acc,p,sd)=some (acc,p+0,sd++[]);rw[ci];rfl
  |succ k=>
   have e:Mi.pk ws p=Mi.pk rest 0:=by
    cases rest with
    |nil=>rw[OC (by simpa using hd)];rfl
    |cons x r=>exact(IM (x:=x) (by simpa using hd)).1
   show(if nb (Mi.pk ws p)=true then _ else some (acc,p,sd))=some (acc,p+0,sd++[]);rw[e,hr,ci];rfl
 |w::ns,k,p,acc,sd,rest,hd,hn,hr,hk,ha=>by
  cases k with
  |zero=>cases hk
  |succ k=>
   obtain⟨e,mH⟩:=IM hd;show(if nb (Mi.pk ws p)=true then(if Mi.pk ws p∈acc then none else wV nb ws k (p+1) (acc++[Mi.pk ws p]) (sd++[dA (Mi.pk ws p) OFT]))else some (acc,p,sd))=_;rw[e,vy (hn w ak)];by_cases hm:w∈acc
   ·rw[vy hm,vz];intro nd;rw[iw]at nd;exact nd.2.2 w hm w ak rfl
   ·have ha':(acc++[w]).Nodup:=by
     rw[iw];exact⟨ha,i6.mpr ⟨nofun,k9⟩,λa ha b hb e=>by rw[av.mp hb]at e;exact hm (e▸ha)⟩
    rw[vz hm,zaq ns k (p+1) (acc++[w]) _ rest mH (λz hz=>hn z (ah _ hz)) hr (ql hk) ha'];have e2:acc++[w]++ns=acc++w::ns:=by simp
    rw[e2,show p+1+ns.length=p+(ns.length+1) by omega,gm];rfl
theorem z2g (hd:ws.drop p=ns++rest)(hn:∀w∈ns,nb w=true)(hr:nb (Mi.pk rest 0)=false):
  z1a nb ws p sd=if ns.Nodup then some (ns,p+ns.length,sd++ns.map λw=>dA w OFT)else none:=by
 have hl:=congrArg l7 hd;rw[gh,ax]at hl;have:=zaq ns (ws.length-p) p [] sd rest hd hn hr (by omega) k9;exact this
def z1z (w:Str)(a b:List Str):D:=.tuple [.str "open",.str w,.tuple (a.map .str),.tuple (b.map .str)]
def opW (w:Str)(a b:List Str):List Str:=("open":Str)::w::("for":Str)::(a++("against":Str)::b)
theorem IP (h:w∈yq):isn w=false:=by unfold isn;rw[(DA w).mpr h];simp
theorem Bi:bV isn nf (("open":Str)::w::t) ks []=dZ isn (("open":Str)::w::t) ks 1 []:=by unfold bV;rw[Bh,vz (by decide),vy rfl]
theorem z93 (hw:isn w=true)(ha:∀x∈a,isn x=true)(hb:∀x∈b,isn x=true)(hr:isn (Mi.pk rest 0)=false)(hc:cntO ks≠4):
  dZ isn (("open":Str)::w::("for":Str)::(a++("against":Str)::(b++rest))) ks 1 []=if a.Nodup/\b.Nodup then some (z1z w a b,4+a.length+b.length,(a++b).map λw=>dA w OFT)else none:=by
 unfold dZ;rw[vz hc,show Mi.pk (("open":Str)::w::("for":Str)::(a++("against":Str)::(b++rest))) 1=w from rfl,vy hw,show Mi.pk (("open":Str)::w::("for":Str)::(a++("against":Str)::(b++rest))) (1+1)=("for":Str)from rfl,vy rfl];rw[z2g (rest:=("against":Str)::(b++rest)) rfl ha (IP (w:="against") (by decide))];by_cases h1:a.Nodup
 ·rw[vy h1];have hd:(("open":Str)::w::("for":Str)::(a++("against":Str)::(b++rest))).drop (1+2+a.length)=("against":Str)::(b++rest):=by rw[<-rg];show(a++("against":Str)::(b++rest)).drop a.length=_;rw[List.drop_left]
  obtain⟨e1,e2⟩:=IM hd
  dsimp only
  rw[e1,vy rfl,z2g e2 hb hr];by_cases h2:b.Nodup
  ·rw[vy h2,vy ⟨h1,h2⟩];rw[show 1+2+a.length+1+b.length=4+a.length+b.length by omega,qr,<-ef];rfl
  ·rw[vz h2,vz λz=>h2 z.2]
 ·rw[vz h1,vz λz=>h1 z.1]
theorem Ym:(opW w a b).length=4+a.length+b.length:=by unfold opW;simp;omega
theorem zam (hw:isn w=true)(ha:∀x∈a,isn x=true)(hb:∀x∈b,isn x=true)(hc:cntO ks≠4):
  aY isn nf (opW w a b) ks []=if a.Nodup/\b.Nodup then some (z1z w a b,4+a.length+b.length,(a++b).map λw=>dA w OFT)else none:=by
 unfold aY;have:=z93 (rest:=[]) hw ha hb Bf hc;rw[ci]at this;rw[show opW w a b=("open":Str)::w::(("for":Str)::(a++("against":Str)::b))from rfl,Bi,this];by_cases h:a.Nodup/\b.Nodup
 ·rw[vy h]
  dsimp only
  rw[vz];have:=Ym (w:=w) (a:=a) (b:=b);unfold opW at this;omega
 ·rw[vz h]
theorem OD (hw:ws=("open":Str)::k::ws.drop 2)(hc:cntO ks=4):aY isn nf ws ks []=none:=by unfold aY;rw[hw,Bi];unfold dZ;rw[vy hc]
def spW9 (w:Str)(a b:List Str):List (List Str):=[
 opW w a b++[("":Str)],("open":Str)::w::("fors":Str)::(a++("against":Str)::b),("open":Str)::w::("for":Str)::(a++b),[("open":Str)],[("open":Str),w],("open":Str)::w::("":Str)::("for":Str)::(a++("against":Str)::b),
 opW w a b++[("not":Str)],opW w a b++[upS w],("opens":Str)::w::("for":Str)::(a++("against":Str)::b)]
theorem Yn (h:NW w):isn (upS w)=false:=by
 cases e:isn (upS w)with
 |false=>rfl
 |true=>
  have l1:=h.l1;rw[yo]at l1;cases hl:w.cps.toList with
  |nil=>rw[hl]at l1;cases l1
  |cons c r=>
   have hm:c-32∈(upS w).cps.toList:=by show c-32∈(w.cps.toList.map (· -32)).toArray.toList;rw[hl];simp
   have h1:=(Yk e) _ hm;have h2:=h.ch c (by rw[hl];exact ak);unfold p1 at h1 h2;rw[bh,decide_eq_true_eq,decide_eq_true_eq]at h1 h2;omega
theorem IQ (hw:isn w=true)(ha:∀x∈a,isn x=true)(hb:∀x∈b,isn x=true)(hx:isn x=false):aY isn nf (opW w a b++[x]) ks []=none:=by
 by_cases hc:cntO ks=4
 ·exact OD rfl hc
 unfold aY;have e:opW w a b++[x]=("open":Str)::w::(("for":Str)::(a++("against":Str)::(b++[x]))):=by unfold opW;simp
 rw[e,Bi,z93 (rest:=[x]) hw ha hb hx hc];split
 ·rfl
 ·rename_i d p s h;split at h
  ·cases h;rw[vy];simp only[ay,ax,km];omega
  ·cases h
theorem Yo (hw:NW w)(ha:∀x∈a,isn x=true)(hb:∀x∈b,isn x=true):∀ws∈spW9 w a b,aY isn nf ws ks []=none:=by
 have hi:=uK hw;intro ws h
 have pJ:∀t,Mi.pk t 0≠("for":Str)->aY isn nf (("open":Str)::w::t) ks []=none:=λt ht=>by
  unfold aY;rw[Bi];unfold dZ;by_cases hc:cntO ks=4
  ·rw[vy hc]
  ·rw[vz hc,show Mi.pk (("open":Str)::w::t) 1=w from rfl,vy hi,vz (show ¬Mi.pk (("open":Str)::w::t) (1+1)=("for":Str)from ht)]
 unfold spW9 at h;simp at h;rcases h with rfl|rfl|rfl|rfl|rfl|rfl|rfl|rfl|rfl
 ·exact IQ hi ha hb Bf
 ·exact pJ _ (by rw[Bh];decide)
 ·unfold aY;rw[Bi];unfold dZ;by_cases hc:cntO ks=4
  ·rw[vy hc]
  ·rw[vz hc,show Mi.pk (("open":Str)::w::("for":Str)::(a++b)) 1=w from rfl,vy hi,show Mi.pk (("open":Str)::w::("for":Str)::(a++b)) (1+1)=("for":Str)from rfl,vy rfl,z2g (rest:=[]) (by rw[ci];rfl) (λx hx=>(bo.mp hx).elim (ha x) (hb x)) Bf];by_cases hd:(a++b).Nodup
   ·rw[vy hd]
    dsimp only
    rw[vz];rw[OC]
    ·decide
    ·rw[<-rg];show(a++b).drop (a++b).length=[];rw[m9]
   ·rw[vz hd]
 ·unfold aY bV;rw[Bh,vz (by decide),vy rfl];unfold dZ;by_cases hc:cntO ks=4
  ·rw[vy hc]
  ·rw[vz hc];rfl
 ·exact pJ [] (by rw[Yl];decide)
 ·exact pJ _ (by rw[Bh];decide)
 ·exact IQ hi ha hb (IP (by decide))
 ·exact IQ hi ha hb (Yn hw)
 ·unfold aY bV;rw[Bh,vz (by decide),vz (by decide),vz (by decide),vz (by decide)]
theorem IS {L:List Str}{k:Nat}(h:k<L.length):iG (.list (L.map .str)) (.int (k:Int))=.ok (.str (L.getD k ⟨#[]⟩)):=by rw[tY (by omega) (by omega),mo]
theorem zhc {cs:List Int}{ns kn:List Str}{own:Str}(hc:cs≠[])(hn:ns.length=27)(hk:kn≠[])(hl:cs.length<=100/\kn.length<=100):
  ∃L:List Str,(∀w∈L,w∈ns\/w∈kn\/w=own)/\L.length<=4/\sN [.list (cs.map .int),.list (ns.map .str),.list (kn.map .str),.str own]=.ok (.fr,.list (L.map .str)):=by
 let E (L:List Str) (u v:Option GD):Rho:=[some (.od,.list (cs.map .int)),some (.od,.list (ns.map .str)),some (.od,.list (kn.map .str)),some (.od,.str own),some (.fr,.list (L.map .str)),u,v]
 let Q:Res Out->Prop:=λr=>∃L:List Str,(∀w∈L,w∈ns\/w∈kn\/w=own)/\L.length<=4/\r=.ok (.rt .fr (.list (L.map .str)))
 suffices h:Q (aM [] [hM] sM ((E [] none none).set 4 none)) by obtain⟨L,h1,h2,h3⟩:=h;exact⟨L,h1,h2,kM h3⟩
 unfold sM;have c0:=n9.mpr hc;have k0:=n9.mpr hk;obtain⟨n3,p3,e3⟩:=Bb (cs.getD 0 0) (k:=3) (by decide) (by decide);obtain⟨n4,p4,e4⟩:=Bb (cs.getD 0 0) (k:=4) (by decide) (by decide);refine aQ (mU (kO eF) rfl) (q_nm (m:=λi:Nat=>.int i) (xs:=cj (n3%5).toNat) (MT (aZ (bH (pB (aZ (bN (aF rfl) aR.e (Au (i:=0) (by decide) (by omega)) rfl).e (aZ aR.e cJ)) rfl e3 rfl).e aR.e (gD (by decide)) rfl).e cJ) (Aw (by omega) (by omega))) (λ_=>rfl) (λpre Y=>∃L u v,Y=E L u v/\(∀w∈L,w∈ns\/w∈kn\/w=own)/\L.length=pre.length) ⟨[],none,none,rfl,nofun,rfl⟩ ?_ ?_)
 ·rintro pre x post Y hx ⟨L,u,v,rfl,hL,hlen⟩
  have hp:=congrArg l7 hx;simp only[d8,ax,ay]at hp;have IT:x∈cj (n3%5).toNat:=by rw[hx];simp
  rw[gj]at IT;obtain⟨n,p0,en⟩:=Bb (cs.getD ((x:Int)%(cs.length:Int)).toNat 0) (k:=(x:Int)+5) (by omega) (by omega);have Bj:(L.map PyData.str).length<1000:=by rw[aq];omega
  have fin:∀w,(w∈ns\/w∈kn\/w=own)->∃L' u v,(E L (some (.al,.int x)) (some (.al,.int n))).set 4 (some (.fr,.list (L.map .str++[.str w])))=E L' u v/\(∀w∈L',w∈ns\/w∈kn\/w=own)/\L'.length=(pre++[x]).length:=λw hw=>⟨L++[w],_,_,by show _=E (L++[w]) (some (.al,.int x)) (some (.al,.int n));simp only[E,ef];rfl,λz hz=>(bo.mp hz).elim (hL z) λh=>by rw[av.mp h];exact hw,by rw[ax,ax,hlen];rfl⟩;refine aQ (fI (pB (aZ (bN (aF rfl) (bH (aF rfl) (eN (aZ (aF rfl) cJ) (Od cs) rfl).e (gD (by omega)) rfl).e (Au (jo _ (by omega)) (ly _ (by omega))) rfl).e (aZ (bH (aF rfl) aR.e rfl rfl).e cJ)) rfl en rfl)) (Oj (Dz (j:=1) (bH (aF rfl) aR.e (gD (by decide)) rfl).e) (λh=>?_) λh=>?_)
  ·have i0:(0:Int)<=n/12%3:=by omega
   have i1:n/12%3<(([ns.getD 20 ⟨#[]⟩,ns.getD 5 ⟨#[]⟩,own]:List Str).length:Int):=by show _<(3:Int);omega
   refine aQ (AA (bN (Ev.of (kO (bD (bN (aF rfl) aR.e (tY (i:=20) (by decide) (by omega)) rfl) (bD (bN (aF rfl) aR.e (tY (i:=5) (by decide) (by omega)) rfl) (bD (v_var rfl rfl) eF))))) (bH (bH (d:=.int (n/12)) (aF rfl) aR.e (yp (by decide) (by decide)) rfl).e aR.e (gD (by decide)) rfl).e (tY (ns:=[ns.getD 20 ⟨#[]⟩,ns.getD 5 ⟨#[]⟩,own]) i0 i1) rfl) rfl Bj) (mE (mE (fin _ ?_)));have hm:=getD_mem (d:=(⟨#[]⟩:Str)) i0 i1;simp only[ao,fo,or_false]at hm;rcases hm with e|e|e
   ·rw[e];exact .inl (getD_mem (i:=20) (by decide) (by omega))
   ·rw[e];exact .inl (getD_mem (i:=5) (by decide) (by omega))
   ·exact .inr (.inr e)
  ·have i0:(0:Int)<=n/12%(kn.length:Int):=jo _ (by omega);have i1:n/12%(kn.length:Int)<kn.length:=ly _ (by omega);exact aQ (AA (bN (aF rfl) (bH (bH (d:=.int (n/12)) (aF rfl) aR.e (yp (by decide) (by decide)) rfl).e (eN (aZ (aF rfl) cJ) (IF kn) rfl).e (gD (by omega)) rfl).e (tY i0 i1) rfl) rfl Bj) (mE (mE (fin _ (.inr (.inl (getD_mem i0 i1))))))
 ·rintro Y ⟨L,u,v,rfl,hL,hlen⟩
  rw[d8]at hlen;have Bj:L.length<=4:=by omega
  refine DB (bO (iL (k:=decide (0<n4%4)) (bH (pB (aZ (bN (aF rfl) aR.e (Au (i:=0) (by decide) (by omega)) rfl).e (aZ aR.e cJ)) rfl e4 rfl).e aR.e (gD (by decide)) rfl).e aR.e rfl).e rfl) (λ_=>?_) λ_=>⟨L,hL,Bj,eL (z85 rfl)⟩;have ec:=z6y (Κ:=[]) (Φ:=[hM]) (Y:=E L u v) (nt:=1) (js:=[4]) (N':=["_law_k","_law_found"]) (tg:=.nm 0) (it:=.gQ (.cons (.bi "len" (.cons (.var 4) .nil)) .nil)) (cond:=.tv (.cmp .NotIn (.ix (.var 1) (.var 0)) (.sl (.var 1) .nil (.tv (.var 0))))) (elt:=.ix (.var 1) (.var 0)) (m:=λi:Nat=>PyData.int i) (xs:=cj L.length) (w:=(.fr,_)) (λk=> !decide (L.getD k ⟨#[]⟩∈cut L none (some (k:Int)))) (λk=>.str (L.getD k ⟨#[]⟩)) (C8 (aZ (eN (aZ (aF rfl) cJ) (IF L) rfl).e cJ) (Aw (by omega) (by omega))) rfl (λk=>[some (.al,.int k),some (.al,.list (L.map .str))]) (λk _=>rfl) (λk hk=>bO (iL (bN (aF rfl) (aF rfl) (IS (gj.mp hk)) rfl).e (Ev.of (uH (m:=PyData.str) (λ_=>rfl) (aF rfl) oJ (lS (aF rfl)))) (by show(inD (.str _) (.list _)>>=λb=>Res.ok (!b))=_;rw[IG];rfl)).e rfl) (λk hk _=>bN (aF rfl) (aF rfl) (IS (gj.mp hk)) rfl);generalize hF:(cj L.length).filter (λ(k:Nat)=>!decide (L.getD k ⟨#[]⟩∈cut L none (some (k:Int))))=ks at ec;have e9:(ks.map λk=>PyData.str (L.getD k ⟨#[]⟩))=(ks.map λk=>L.getD k ⟨#[]⟩).map .str:=by rw[gq];rfl
  rw[e9]at ec;refine aQ (mU ec (iK _)) (mE ⟨ks.map λk=>L.getD k ⟨#[]⟩,λw hw=>?_,?_,eL (z85 rfl)⟩)
  ·obtain⟨k,hk,rfl⟩:=dh.mp hw;rw[<-hF]at hk;have:=gj.mp (qm.mp hk).1;rw[am,bn this];exact hL _ (jz this)
  ·rw[aq,<-hF];exact b8 (List.length_filter_le _ _) (by rw[d8];exact Bj)
theorem Yp (ha:Ev [] Φ a Y x)(hb:Ev [] Φ b Y y)(h:iG x y=.ok d):Ev [] Φ (.ix a b) Y d:=by obtain⟨g,ha⟩:=ha;obtain⟨g',hb⟩:=hb;exact⟨gJ d g,by rw[Ax,ha,Res.aC,hb,Res.aC];dsimp only;rw[h];rfl⟩
theorem DF (ha:Ev [] Φ a Y x)(hb:Ev [] Φ b Y y)(h:cH op x y=.ok d):Ev [] Φ (.bin op a b) Y d:=by obtain⟨g,ha⟩:=ha;obtain⟨g',hb⟩:=hb;exact⟨gN d (bZ [(g,x),(g',y)]),by rw[Hv,ha,Res.aC,hb,Res.aC];dsimp only;rw[h];rfl⟩
theorem IU (h:Aa [] Φ a Y ds):Ev [] Φ (.lst a) Y (.list ds):=by obtain⟨ys,h1,h2⟩:=h;exact⟨bZ ys,by rw[MP,h1,Res.aC,h2]⟩
theorem Yq (x:GD):(z10 x).2=x.2:=by
 obtain⟨g,d⟩:=x;unfold z10
 dsimp only
 by_cases h:imm d=true
 ·rw[vy h]
 ·rw[vz h];cases g<;>cases d<;>rfl
theorem Yr (h:Ev [] Φ t Y d):∃g,aM [] Φ (.asg (.nm i) t) Y=.ok (.nx (Y.set i (some (g,d)))):=by obtain⟨g,h⟩:=h;refine⟨(z10 (g,d)).1,?_⟩;show(aG [] Φ t Y>>=λx=>Res.ok (Out.nx (Y.set i (some (z10 x)))))=_;rw[h];show Res.ok (Out.nx (Y.set i (some (z10 (g,d)))))=_;have e:z10 (g,d)=((z10 (g,d)).1,d):=Prod.ext rfl (Yq (g,d));rw[e]
theorem OE (a:List Str):(a.map PyData.str:List D).length=a.length:=aq _
theorem iR {b:List Str}(ha:Ev [] Φ t Y (.list (a.map .str)))(hb:Ev [] Φ u Y (.list (b.map .str)))(hl:a.length+b.length<=1000):Ev [] Φ (.bin .Add t u) Y (.list ((a++b).map .str)):=DF ha hb (by rw[add_list (by rw[OE,OE];exact hl),<-ef])
theorem Ys {L:List (List Str)}{i:Int}(h0:0<=i)(h1:i<L.length):iG (.list (L.map λa=>.list (a.map .str))) (.int i)=.ok (.list ((L.getD i.toNat []).map .str)):=Iu (λa:List Str=>PyData.list (a.map .str)) [] h0 h1
theorem DG {Q:Res Out->Prop}(h:Ev [] Φ t Y d)(q:∀g,Q (aM [] Φ rest (Y.set i (some (g,d))))):Q (aM [] Φ (.seq (.asg (.nm i) t) rest) Y):=by obtain⟨g,e⟩:=Yr h;exact aQ e (q g)
theorem zb6 {w:Str}{a b:List Str}(n:Int)(hw:w.length<=12/\Ch p1 w)(ha:a.length<=4)(hb:b.length<=4)(hs:∀ws∈spW9 w a b,ws.length<=14/\∀x∈ws,x.length<=13):
  ∃ws∈spW9 w a b,sP [.str w,.list (a.map .str),.list (b.map .str),.int n]=.ok (.fr,.str (z0e " " ws)):=by
 have i0:(0:Int)<=n%9:=by omega
 have i1:n%9<((spW9 w a b).length:Int):=by show n%9<(9:Int);omega
 refine⟨(spW9 w a b).getD (n%9).toNat [],getD_mem i0 i1,kM ?_⟩
 let E (u v:Option GD):Rho:=[some (.od,.str w),some (.od,.list (a.map .str)),some (.od,.list (b.map .str)),some (.od,.int n),u,v]
 let Q:Res Out->Prop:=λr=>r=.ok (.rt .fr (.str (z0e " " ((spW9 w a b).getD (n%9).toNat []))))
 show Q (aM [] [] sO (E none none));unfold sO;have o1:∀{u v x},Ev [] [] (.lst (.cons (.str x) .nil)) (E u v) (.list (([x]:List Str).map .str)):=Ev.of (kO (bD bR eF));have o2:∀{u v x},Ev [] [] (.lst (.cons (.str x) (.cons (.var 0) .nil))) (E u v) (.list (([x,w]:List Str).map .str)):=Ev.of (kO (bD bR (bD (v_var rfl rfl) eF)));have o3:∀{u v x y},Ev [] [] (.lst (.cons (.str x) (.cons (.var 0) (.cons (.str y) .nil)))) (E u v) (.list (([x,w,y]:List Str).map .str)):=Ev.of (kO (bD bR (bD (v_var rfl rfl) (bD bR eF))));have va:∀{u v},Ev [] [] (.var 1) (E u v) (.list (a.map .str)):=aF rfl;have vb:∀{u v},Ev [] [] (.var 2) (E u v) (.list (b.map .str)):=aF rfl
 let l3:List Str:=a++[("against":Str)]++b
 let l4:List Str:=("for":Str)::l3
 have h4:l4.length<=10:=by simp only[l4,l3,ay,ax,km];omega
 refine DG (d:=.list (l4.map .str)) (iR (iR (iR o1 va (by grind)) o1 (by grind)) vb (by grind)) λg=>?_;have v4:∀{v},Ev [] [] (.var 4) (E (some (g,.list (l4.map .str))) v) (.list (l4.map .str)):=aF rfl
 have s4:∀{v},Ev [] [] (.sl (.var 4) (.tv (.int 1)) .nil) (E (some (g,.list (l4.map .str))) v) (.list (l3.map .str)):=Iq v4 (lS aR.e) oJ (by
  show Res.ok (PyData.list (cut (l4.map PyData.str) (some 1) none))=_;rw[Oe]
  congr 3
  unfold cut;show List.take (l4.length-min 1 l4.length) (List.drop (min 1 l4.length) l4)=_;rw[show min 1 l4.length=1 from jn (j6 (dv _))];exact ki (ag _))
 have hl:l3.length<=9:=ql h4
 let M1:List (List Str):=[[("open":Str),w]++l4++[("":Str)],[("open":Str),w,"fors"]++l3,[("open":Str),w,"for"]++a++b]
 let M2:List (List Str):=[[("open":Str)],[("open":Str),w],[("open":Str),w,""]++l4,[("open":Str),w]++l4++[("not":Str)]]
 let M3:List (List Str):=[[("open":Str),w]++l4++[upS w],[("opens":Str),w]++l4]
 refine DG (d:=.list (M1.map λz=>.list (z.map .str))) (IU (aZ (iR (iR o2 v4 (by grind)) o1 (by grind)) (aZ (iR o3 s4 (by grind)) (aZ (iR (iR o3 va (by grind)) vb (by grind)) cJ)))) λg=>?_;refine DG (d:=.list ((M1++M2).map λz=>.list (z.map .str))) (DF (aF rfl) (IU (aZ o1 (aZ o2 (aZ (iR o3 v4 (by grind)) (aZ (iR (iR o2 v4 (by grind)) o1 (by grind)) cJ))))) (add_list (by show 7<=1000;decide))) λg=>?_;refine DG (d:=.list ((M1++M2++M3).map λz=>.list (z.map .str))) (DF (aF rfl) (IU (aZ (iR (b:=[upS w]) (iR o2 v4 (by grind)) (Ev.of (kO (bD (Yd (aF rfl) hw.2 (by omega)) eF))) (by grind)) (aZ (iR o2 v4 (by grind)) cJ))) (add_list (by show 9<=1000;decide))) λg=>?_;have eM:M1++M2++M3=spW9 w a b:=by show([_,_,_,_,_,_,_,_,_]:List (List Str))=_;unfold spW9 opW;simp only[l4,l3,gm,List.cons_append,qr]
 rw[eM];obtain⟨a1,a2⟩:=hs _ (getD_mem (d:=([]:List Str)) i0 i1);exact HC (gE (rR bR.e (aZ (Yp (aF rfl) (bH (aF rfl) aR.e (gD (by decide)) rfl).e (Ys i0 i1)) cJ) (Ip (IL rfl a2 (by decide) (by omega))) rfl)) rfl
structure Wd (x:Str):Prop where
 asc:uI x
 no:32∉x.cps.toList
 len:x.length<=13
theorem NW.wd (h:NW x):Wd x:=⟨Be h.ch,ID h.ch,by have:=h.l2;omega⟩
theorem Yt:∀x∈(["for","fors","against","open","opens","","not"]:List Str),Wd x:=by
 have h:∀x∈(["for","fors","against","open","opens","","not"]:List Str),x.cps.toList.all ac=true/\32∉x.cps.toList/\x.length<=13:=by decide+kernel
 exact λx hx=>⟨Ot (h x hx).1,(h x hx).2.1,(h x hx).2.2⟩
theorem Yu (h:NW w):Wd (upS w):=⟨Yc h.ch,λz=>by obtain⟨d,hd,e⟩:=dh.mp z;have:=h.ch d hd;unfold p1 at this;rw[bh,decide_eq_true_eq,decide_eq_true_eq]at this;omega,by rw[Yb];have:=h.l2;omega⟩
theorem Yv (hw:NW w)(ha:∀x∈a++b,NW x)(hl:a.length<=4/\b.length<=4):∀ws∈opW w a b::spW9 w a b,ws≠[]/\ws.length<=14/\∀x∈ws,Wd x:=by
 intro ws h;refine⟨?_,?_,λx hx=>?_⟩
 ·unfold spW9 opW at h;simp at h;rcases h with rfl|rfl|rfl|rfl|rfl|rfl|rfl|rfl|rfl|rfl<;>simp
 ·unfold spW9 opW at h;simp at h;rcases h with rfl|rfl|rfl|rfl|rfl|rfl|rfl|rfl|rfl|rfl<;>simp<;>omega
 ·have:x=w\/x=upS w\/x∈a++b\/x∈(["for","fors","against","open","opens","","not"]:List Str):=by
   unfold spW9 opW at h;simp at h;rcases h with rfl|rfl|rfl|rfl|rfl|rfl|rfl|rfl|rfl|rfl<;>simp at hx ⊢<;>grind
  rcases this with rfl|rfl|h|h
  ·exact hw.wd
  ·exact Yu hw
  ·exact(ha x h).wd
  ·exact Yt x h
theorem OG (o x:Str)(r:List Str)(ob:Str)(h:ob.cps.toList=o.cps.toList++[32]):ob++z0e " " (x::r)=z0e " " (o::x::r):=xg (by rw[kS,uG,uG,xh,uJ,h];simp)
def OpR (r:Str)(row:D):Prop:=iQ r/\((row=.none/\∀nf ks,aY isn nf (spW 32 r) ks []=none)\/∃w a b,NW w/\(∀x∈a++b,NW x)/\a.length<=4/\b.length<=4/\row=z1z w a b/\spW 32 r=opW w a b)
theorem Bl (a:List Str):imm (.tuple (a.map .str))=true:=iK a
theorem Yw {cs:List Int}(h:7<=cs.length):cut cs (some 1) (some 5)≠[]/\cut cs (some 5) none≠[]:=by
 constructor<;>refine λz=>absurd (congrArg l7 z) ?_<;>unfold cut<;>simp only[Mi.aU,fm,gh,km]
 ·show ¬min (min 5 cs.length-min 1 cs.length) (cs.length-min 1 cs.length)=0;rw[jn (show 5<=cs.length by omega),jn (show 1<=cs.length by omega)];omega
 ·show ¬min (cs.length-min 5 cs.length) (cs.length-min 5 cs.length)=0;rw[jn (show 5<=cs.length by omega),Nat.min_self];omega
abbrev Bm:List Fn:=[sP,sN,hM]
theorem zpr {cs:List Int}{k:Nat}{ns kn:List Str}(hc:7<=cs.length/\cs.length<=100)(hk:k<=20)(hn:ns.length=27/\∀w∈ns,NW w)(hkn:kn≠[]/\kn.length<=100/\∀w∈kn,NW w):
  ∃r row,OpR r row/\imm row=true/\mD [.list (cs.map .int),.int k,.list (ns.map .str),.list (kn.map .str)]=.ok (.fr,.tuple [.str r,row]):=by
 let Q:Res Out->Prop:=λz=>∃r row,OpR r row/\imm row=true/\z=.ok (.rt .fr (.tuple [.str r,row]))
 suffices h:Q (aM [] Bm sQ [some (.od,.list (cs.map .int)),some (.od,.int k),some (.od,.list (ns.map .str)),some (.od,.list (kn.map .str)),none,none,none,none,none,none]) by obtain⟨r,row,h1,h2,h3⟩:=h;exact⟨r,row,h1,h2,kM h3⟩
 unfold sQ;have k0:=n9.mpr hkn.1;obtain⟨n,n0,en⟩:=Bb (cs.getD 0 0) (k:=(k:Int)+1) (by omega) (by omega);refine aQ (fI (pB (aZ (bN (aF rfl) aR.e (Au (i:=0) (by decide) (by omega)) rfl).e (aZ (bH (aF rfl) aR.e rfl rfl).e cJ)) rfl en rfl)) (aQ (fI (bN (aF rfl) (bH (d:=.int (6+k)) aR.e (aF rfl) rfl rfl).e (tY (by omega) (by omega)) rfl)) ?_);have i0:(0:Int)<=n/7%(kn.length:Int):=jo _ (by omega);have i1:n/7%(kn.length:Int)<kn.length:=ly _ (by omega)
 suffices go:∀w,NW w->Q (aM [] Bm _ [some (.od,.list (cs.map .int)),some (.od,.int k),some (.od,.list (ns.map .str)),some (.od,.list (kn.map .str)),some (.al,.int n),some (.al,.str w),none,none,none,none])from DB (Dz (bH (aF rfl) aR.e (gD (by decide)) rfl).e) (λ_=>aQ (fI (bN (aF rfl) (bH (bH (d:=.int (n/7)) (aF rfl) aR.e (yp (by decide) (by decide)) rfl).e (eN (aZ (aF rfl) cJ) (IF kn) rfl).e (gD (by omega)) rfl).e (tY i0 i1) rfl)) (mE (go _ (hkn.2.2 _ (getD_mem i0 i1))))) λ_=>go _ (hn.2 _ (getD_mem (i:=6+(k:Int)) (by omega) (by omega)))
 intro w hw;have Bn:∀{i j:Option Int},(cut cs i j).length<=100:=λ{i j}=>by unfold cut;rw[fm,gh];omega
 have OH:=Yw hc.1;obtain⟨a,ha,la,ea⟩:=zhc (own:=w) OH.1 hn.1 hkn.1 ⟨Bn,hkn.2.1⟩;obtain⟨b,hb,lb,eb⟩:=zhc (own:=w) OH.2 hn.1 hkn.1 ⟨Bn,hkn.2.1⟩
 have nw:∀x∈a++b,NW x:=λx hx=>by
  rcases(bo.mp hx).elim (ha x) (hb x)with h|h|h
  ·exact hn.2 x h
  ·exact hkn.2.2 x h
  ·rw[h];exact hw
 have args:∀{Y:Rho},Y[2]?=some (some (.od,.list (ns.map .str)))->Y[3]?=some (some (.od,.list (kn.map .str)))->Y[5]?=some (some (.al,.str w))->Aa [] Bm (.cons (.var 2) (.cons (.var 3) (.cons (.var 5) .nil))) Y [.list (ns.map .str),.list (kn.map .str),.str w]:=λh2 h3 h5=>aZ (aF h2) (aZ (aF h3) (aZ (aF h5) cJ));refine aQ (mU (HA (aZ (Ev.of (uH (m:=PyData.int) (λ_=>rfl) (aF rfl) (lS aR.e) (lS aR.e))) (args rfl rfl rfl)) rfl ea) (iK _)) (aQ (mU (HA (aZ (Ev.of (uH (m:=PyData.int) (λ_=>rfl) (aF rfl) (lS aR.e) oJ)) (args rfl rfl rfl)) rfl eb) (iK _)) ?_);have fM:=Yv hw nw ⟨la,lb⟩;have eU:∀ws∈opW w a b::spW9 w a b,spW 32 (z0e " " ws)=ws/\iQ (z0e " " ws):=λws h=>⟨II xh (λr hr=>((fM ws h).2.2 r hr).no) (fM ws h).1,OB (λx hx=>⟨((fM ws h).2.2 x hx).asc,((fM ws h).2.2 x hx).len⟩) (fM ws h).2.1⟩;have op:=fM _ ak;have ro:=(eU _ ak).2;have ej:=OG "open" w (("for":Str)::(a++("against":Str)::b)) "open " (by decide+kernel);have jw:qU " " (w::("for":Str)::(a++("against":Str)::b))<=LIM:=IL rfl (λx hx=>(op.2.2 x (ah _ hx)).len) (by decide) (by grind);have jl:=ro.len;unfold opW at jl;rw[<-ej,hX]at jl;have e8:∀{Y:Rho},Y[5]?=some (some (.al,.str w))->Y[6]?=some (some (.fr,.list (a.map .str)))->Y[7]?=some (some (.fr,.list (b.map .str)))->Vv [] Bm (.bin .Add (.str "open ") (.mt "join" (.str " ") (.cons (.bin .Add (.bin .Add (.bin .Add (.lst (.cons (.var 5) (.cons (.str "for") .nil))) (.var 6)) (.lst (.cons (.str "against") .nil))) (.var 7)) .nil))) Y (.str (z0e " " (opW w a b))):=λh5 h6 h7=>by have e:=iR (Φ:=Bm) (iR (iR (a:=[w,"for"]) (b:=a) (Ev.of (kO (bD (v_var h5 rfl) (bD bR eF)))) (aF h6) (by grind)) (b:=["against"]) (Ev.of (kO (bD bR eF))) (by grind)) (b:=b) (aF h7) (by grind);rw[show([w,"for"]++a++[("against":Str)]++b:List Str)=w::("for":Str)::(a++("against":Str)::b) by simp]at e;have h:=v_add (bR (i:="open ")).e (rR (bR (i:=" ")).e (aZ e cJ) (Ip jw) rfl).e (by omega);rw[ej]at h;exact h
 have io:imm (z1z w a b)=true:=by show(true&&(true&&(imm (.tuple (a.map .str))&&(imm (.tuple (b.map .str))&&true))))=true;rw[Bl,Bl];rfl
 refine aQ (fI (e8 rfl rfl rfl)) (aQ (fI (d:=z1z w a b) (mT (bD bR (bD (v_var rfl rfl) (bD (C6 (aF rfl) rfl (MM _ _) (Bl a)) (bD (C6 (aF rfl) rfl (MM _ _) (Bl b)) eF)))))) (Iz (Dz (bH (bH (d:=.int (n/7)) (aF rfl) aR.e (yp (by decide) (by decide)) rfl).e aR.e (gD (by decide)) rfl).e) (λ_=>?_) λ_=>⟨_,z1z w a b,⟨ro,.inr ⟨w,a,b,hw,nw,la,lb,rfl,(eU _ ak).1⟩⟩,io,eL (gE (mT (bD (v_var rfl rfl) (bD (v_var rfl io) eF))))⟩));obtain⟨ws,lX,es⟩:=zb6 (w:=w) (a:=a) (b:=b) (n/42) ⟨hw.l2,hw.ch⟩ la lb λws h=>⟨(fM ws (ah _ h)).2.1,λx hx=>((fM ws (ah _ h)).2.2 x hx).len⟩;have hs:=eU ws (ah _ lX);refine⟨_,_,eL (gE (mT (bD (pB (aZ (aF rfl) (aZ (aF rfl) (aZ (aF rfl) (aZ (bH (d:=.int (n/42)) (aF rfl) aR.e (yp (by decide) (by decide)) rfl).e cJ)))) rfl es rfl) (bD yf eF)))),_,.none,⟨hs.2,.inl ⟨rfl,λnf ks=>?_⟩⟩,rfl,rfl⟩;rw[hs.1];exact Yo hw (λx hx=>uK (nw x (cy _ hx))) (λx hx=>uK (nw x (bw _ hx))) ws lX
theorem OI [Decidable p] [Decidable q]:decide (p\/q)=(decide p||decide q):=by by_cases p<;>by_cases q<;>simp[*]
theorem IV:∀ws acc,acc.Nodup->(dI acc ws).length<=acc.length+ws.length/\((dI acc ws).length=acc.length+ws.length↔(acc++ws).Nodup)
 | [],acc,nd=>⟨ag _,by rw[ci];exact⟨λ_=>nd,λ_=>rfl⟩⟩
 |z::ws,acc,nd=>by
  by_cases h:z∈acc
  ·have e:dI acc (z::ws)=dI acc ws:=by show dI (if z∈acc then acc else acc++[z]) ws=_;rw[vy h]
   have ih:=(IV ws acc nd).1;rw[e,ay];refine⟨by omega,λz=>by omega,λnd=>?_⟩;rw[iw]at nd;exact absurd rfl (nd.2.2 z h z ak)
  ·have nd':(acc++[z]).Nodup:=by
    rw[iw];exact⟨nd,i6.mpr ⟨nofun,k9⟩,λa ha b hb e=>by rw[av.mp hb]at e;exact h (e▸ha)⟩
   have e:dI acc (z::ws)=dI (acc++[z]) ws:=by show dI (if z∈acc then acc else acc++[z]) ws=_;rw[vz h]
   have ih:=IV ws (acc++[z]) nd';rw[ax,ay,km,show acc++[z]++ws=acc++z::ws by simp]at ih;rw[e,ay];exact⟨by omega,by rw[<-ih.2];omega⟩
theorem Yx (ws:List Str):decide (((dI [] ws).length:Int)<ws.length)=!decide ws.Nodup:=by
 have h:=IV ws [] k9;rw[km,on]at h;by_cases hd:ws.Nodup
 ·rw[we hd,wg (by have:=h.2.mpr hd;omega)];rfl
 ·rw[wg hd,we]
  ·rfl
  ·have :(dI [] ws).length≠ws.length:=λz=>hd (h.2.mp z);omega
theorem Yy (ha:Ev Κ Φ a Y x)(h:vO x=.ok d)(hi:imm d=true):Vv Κ Φ (.lset a) Y d:=by obtain⟨g1,ha⟩:=ha;refine⟨?_,hi⟩;show(aG Κ Φ a Y>>=λx=>vO x.2>>=λd=>Res.ok (G.fr,d))=_;rw[ha];show(vO x>>=λd=>Res.ok (G.fr,d))=_;rw[h];rfl
theorem Yz (h:ws.length<=100):vO (.tuple (ws.map .str))=.ok (.int ((dI [] ws).length:Int)):=by
 show(match cN (ws.map PyData.str)with|some ws=>if decide (ws.length<4000)=true then Res.ok (PyData.int ((dI [] ws).length:Int))else .no|none=>.no)=_;rw[Hs]
 dsimp only
 rw[vy (we (by omega))]
theorem YA (ws:List Str):gS "len" [.tuple (ws.map .str)]=.ok (.int (ws.length:Int)):=by show Res.ok (PyData.int ((ws.map PyData.str).length:Int))=_;rw[aq]
def hU (at':Int)(kn:List Str)(n5:Str)(opens:Int)(w:Str)(a b:List Str):D:=
 if 4<opens\/¬a.Nodup\/¬b.Nodup then .tuple [.str "row",.int at']
 else if w∈kn\/w=n5 then .tuple [.str "twice",.str w]
 else match(a++b).find? (λx=>!decide (x∈kn))with
  |some x=>.tuple [.str "unknown",.str x]
  |none=>.none
theorem vZ (ha:Ev Κ Φ a Y x)(hk:(if lR x then !ng else ng)=k):Tt Κ Φ (.tv (.jK ng a)) Y k:=by rw[<-hk];exact bO (Wo ha).e rfl
theorem YB {at' o:Int}{kn ns:List Str}:uF [.none,.int at',.list (kn.map .str),.list (ns.map .str),.int o]=.ok (.fr,.tuple [.str "row",.int at']):=by refine kM (pY (rS (k:=true) (k':=false) (vZ (x:=.none) (aF rfl) rfl) nofun) rfl (eL (gE (mT (bD bR (bD (v_var rfl rfl) eF))))))
theorem OJ {α:Type}{p:α->Bool}:∀{pre:List α} {x:α} {post:List α},(∀y∈pre,p y=false)->p x=true->(pre++x::post).find? p=some x
 | [],x,post,_,h=>by rw[qr,dg,h]
 |y::pre,x,post,hp,h=>by rw[List.cons_append,dg,hp y ak];exact OJ (λz hz=>hp z (ah _ hz)) h
theorem zio {ns:List Str}(hn:ns.length=27)(hk:kn.length<=100)(ha:a.length<=4)(hb:b.length<=4):
  uF [z1z w a b,.int at',.list (kn.map .str),.list (ns.map .str),.int o]=.ok (.fr,hU at' kn (ns.getD 5 ⟨#[]⟩) o w a b):=by
 refine kM ?_
 let Q:Res Out->Prop:=λr=>r=.ok (.rt .fr (hU at' kn (ns.getD 5 ⟨#[]⟩) o w a b))
 let E (u v:Option GD):Rho:=[some (.od,z1z w a b),some (.od,.int at'),some (.od,.list (kn.map .str)),some (.od,.list (ns.map .str)),some (.od,.int o),u,v]
 show Q (aM [] [] Io (E none none));have io:=λ{c}=>Bl c;have Bp:∀{u v},(4<o\/¬a.Nodup\/¬b.Nodup)->∃g d,aM [] [] (.seq (.ret (.tup (.cons (.str "row") (.cons (.var 1) .nil)))) .nil) (E u v)=.ok (.rt g d)/\Q (.ok (.rt g d)):=λh=>⟨_,_,eL (gE (mT (bD bR (bD (v_var rfl rfl) eF)))),by show _=_;unfold hU;rw[vy h]⟩;have x2:∀{u v},Vv [] [] (.ix (.var 0) (.int 2)) (E u v) (.tuple (a.map .str)):=bN (aF rfl) aR.e rfl io;have x3:∀{u v},Vv [] [] (.ix (.var 0) (.int 3)) (E u v) (.tuple (b.map .str)):=bN (aF rfl) aR.e rfl io;have x1:∀{u v},Vv [] [] (.ix (.var 0) (.int 1)) (E u v) (.str w):=bN (aF rfl) aR.e rfl rfl;refine Iz (rS (vZ (aF rfl) rfl) λ_=>bO (iL (aF rfl) aR.e rfl).e rfl) (λh=>Bp (.inl (wc h))) λh4=>?_;have h4:=of_decide_eq_false h4;refine zgc (m:=λc:List Str=>PyData.tuple (c.map .str)) (xs:=[a,b]) (MV (λi z=>by cases z) (kO (bD x2 (bD x3 eF))) rfl) (λpre Y=>∃u,Y=E u none/\∀c∈pre,c.Nodup) ⟨none,rfl,nofun⟩ ?_ ?_
 ·rintro pre x post Y hx ⟨u,rfl,hp⟩
  have hm:x∈[a,b]:=by rw[hx];simp
  have IT:x.length<=4/\(¬x.Nodup->¬a.Nodup\/¬b.Nodup):=by
   rcases ao.mp hm with rfl|h
   ·exact⟨ha,.inl⟩
   ·rw[av.mp h];exact⟨hb,.inr⟩
  refine⟨_,Ir io,?_⟩;have tc:Tt [] [] (.tv (.cmp .Lt (.lset (.var 5)) (.bi "len" (.cons (.var 5) .nil)))) (E (some (.al,.tuple (x.map .str))) none) (decide (((dI [] x).length:Int)<x.length)):=bO (iL (Yy (aF rfl) (Yz (by omega)) rfl).e (eN (aZ (aF rfl) cJ) (YA x) rfl).e rfl).e rfl;rw[Yx]at tc;by_cases hd:x.Nodup
  ·exact .inl ⟨_,rT tc (by rw[we hd];rfl) tZ,_,rfl,λc hc=>(bo.mp hc).elim (hp c) λh=>by rw[av.mp h];exact hd⟩
  ·obtain⟨g,d,e,q⟩:=Bp (u:=some (.al,.tuple (x.map .str))) (.inr (IT.2 hd));exact .inr ⟨g,d,pY tc (by rw[wg hd];rfl) e,q⟩
 ·rintro Y ⟨u,rfl,hp⟩
  have w0:¬(4<o\/¬a.Nodup\/¬b.Nodup):=λz=>z.elim h4 λz=>z.elim (· (hp a (.head _))) (· (hp b (.tail _ (.head _))));refine Iz (k:=decide (w∈kn)||decide (w=ns.getD 5 ⟨#[]⟩)) (rS (bO (iL (op:=.In) (y:=.list (kn.map .str)) x1.e (aF rfl) (IG w kn)).e rfl) λ_=>bO (iL x1.e (bN (aF rfl) aR.e (tY (by decide) (by omega)) rfl).e (by show Res.ok (eqD (.str _) (.str _))=_;rw[pE];rfl)).e rfl) (λh=>⟨_,_,eL (gE (mT (bD bR (bD x1 eF)))),?_⟩) λh=>?_
  ·rw[<-OI,decide_eq_true_eq]at h;show _=_;unfold hU;rw[vz w0,vy h]
  rw[<-OI,decide_eq_false_iff_not]at h
  refine zgc (MV (λi z=>by cases z) (bH (d:=.tuple ((a++b).map .str)) x2.e x3.e (by
   show(if _ then _ else _)=_;rw[vy (by rw[aq,aq];unfold LIM;omega),<-ef]) io).1 rfl)
   (λpre Y=>∃v,Y=E u v/\∀c∈pre,c∈kn) ⟨none,rfl,nofun⟩ ?_ ?_
  ·rintro pre x post Y hx ⟨v,rfl,hp⟩
   refine⟨_,Ir rfl,?_⟩;have tc:Tt [] [] (.tv (.cmp .NotIn (.var 6) (.var 2))) (E u (some (.al,.str x))) (!decide (x∈kn)):=bO (iL (aF rfl) (aF rfl) (by show(inD (.str _) (.list _)>>=λb=>Res.ok (!b))=_;rw[IG];rfl)).e rfl;by_cases hm:x∈kn
   ·exact .inl ⟨_,rT tc (by rw[we hm];rfl) tZ,_,rfl,λc hc=>(bo.mp hc).elim (hp c) λh=>by rw[av.mp h];exact hm⟩
   ·refine .inr ⟨_,_,pY tc (by rw[wg hm];rfl) (eL (gE (mT (bD bR (bD (v_var rfl rfl) eF))))),?_⟩;show _=_;unfold hU;rw[vz w0,vz h,hx,OJ (λy hy=>by rw[we (hp y hy)];rfl) (by rw[wg hm];rfl)]
  ·rintro Y ⟨v,rfl,hp⟩
   have:hU at' kn (ns.getD 5 ⟨#[]⟩) o w a b=.none:=by unfold hU;rw[vz w0,vz h,List.find?_eq_none.mpr λy hy=>by rw[we (hp y hy)];decide]
   show _=_;rw[this];exact eL (gE yf)
def mF (c:Nat):Bool:=decide (48<=c)&&decide (c<=57)
def gG (w:Str):Option Int:=if(1<=w.cps.toList.length/\w.cps.toList.length<=31)/\w.cps.toList.all mF=true/\¬(w.cps.toList.head?=some 48/\1<w.cps.toList.length)then some (qS w.cps.toList:Int)else none
theorem YC (h:1<=l.length)(ha:l.all mF=true):nZ l=true:=by
 unfold nZ;rw[show(l.all λc=>decide (48<=c)&&decide (c<=57))=l.all mF from rfl,ha];cases l with
 |nil=>exact absurd h (by decide)
 |cons a r=>rfl
theorem YD (h1:1<=w.length)(h2:w.length<=31)(ha:w.cps.toList.all mF=true):gS "int" [.str w]=.ok (.int (qS w.cps.toList:Int)):=by show qT w=_;unfold qT;rw[YC (by rw[cq];exact h1) ha,we (show w.length<=600 by omega)];rfl
theorem HG (h:w.cps.toList=c::r)(hl:w.length<=1000):iG (.str w) (.int 0)=.ok (.str ⟨#[c]⟩):=by
 have h1:0<w.length:=by have:=congrArg l7 h;rw[cq]at this;show 0<w.cps.size;rw[this];exact ur _
 rw[xS (by decide) (by omega) hl];show Res.ok (PyData.str ⟨#[w.cps.toList.getD 0 0]⟩)=_;rw[h];rfl
theorem YE (c d:Nat):cmpD .Eq (.str ⟨#[c]⟩) (.str ⟨#[d]⟩)=.ok (decide (c=d)):=by
 show Res.ok ((⟨#[c]⟩:Str)==⟨#[d]⟩)=_
 congr 1
 rw[qp,beq_iff_eq,decide_eq_true_iff];constructor
 ·intro h;have:=congrArg (λs:Str=>s.cps.toList) h;simpa using this
 ·intro h;rw[h]
theorem str_len (w:Str):w.cps.toList.length=w.length:=by rw[cq];rfl
theorem YF (hL:w.length<=LIM):xb [.str w]=.ok (.fr,optD (gG w)):=by
 refine kM ?_;have wl:=str_len w;have vl:∀{Y:Rho},Y[0]?=some (some (.od,.str w))->Vv [] [] (.bi "len" (.cons (.var 0) .nil)) Y (.int w.length):=λh=>eN (aZ (aF h) cJ) (len_str hL) rfl;have t1:Tt [] [] (.not (.tv (.chain .LtE .LtE (.int 1) (.bi "len" (.cons (.var 0) .nil)) (.int 31)))) [some (.od,.str w)] (!(decide ((1:Int)<=w.length)&&decide ((w.length:Int)<=31))):=zG (bO (DE aR.e (vl rfl).e aR.e rfl rfl).e rfl);unfold gG;by_cases h1:1<=w.length/\w.length<=31
 ·refine rT t1 (by rw[we (show(1:Int)<=w.length by omega),we (show(w.length:Int)<=31 by omega)];rfl) ?_;have hw:z56 (.str w)=.ok (w.cps.toList.map λc=>PyData.str ⟨#[c]⟩):=by show(if w.length<=LIM then _ else _)=_;rw[vy hL]
  have ec:=z6y (Κ:=[]) (Φ:=[]) (Y:=[some (.od,.str w)]) (nt:=1) (js:=[]) (N':=["sign"]) (tg:=.nm 0) (it:=.tv (.var 0)) (elt:=.chain .LtE .LtE (.str "0") (.var 0) (.str "9")) (λ_=>true) (λc=>.bool (mF c)) (gW (v_var rfl rfl).1 hw) rfl (λc=>[some (.al,.str ⟨#[c]⟩)]) (λ_ _=>rfl) (λ_ _=>C7)
   (λc _ _=>by
    refine DE bR.e (aF rfl) bR.e ?_ ?_
    ·show Res.ok (!decide ([c]< [48]))=_;rw[sS,<-decide_not]
     congr 1
     rw[decide_eq_decide];omega
    ·show Res.ok (!decide ([57]< [c]))=_;rw[sS,<-decide_not]
     congr 1
     rw[decide_eq_decide];omega)
  rw[lm.mpr λ_ _=>rfl]at ec;have ea:aggD "all" true (w.cps.toList.map λc=>PyData.bool (mF c))=.ok (.bool (w.cps.toList.all mF)):=by have e1:=IC (w.cps.toList.map mF);rw[gq]at e1;show Res.eQ ((allB (w.cps.toList.map λc=>PyData.bool (mF c))).map λbs=>PyData.bool (bs.all id))=_;rw[show(w.cps.toList.map λc=>PyData.bool (mF c))=w.cps.toList.map (PyData.bool∘mF)from rfl,e1];show Res.ok (PyData.bool ((w.cps.toList.map mF).all id))=_;rw[uy];rfl
  have t2:=zG (bO (C6 (Ev.of ec) rfl ea rfl).e rfl);by_cases h2:w.cps.toList.all mF=true
  ·refine rT t2 (by rw[h2];rfl) ?_
   obtain⟨c,r,hc⟩:∃c r,w.cps.toList=c::r:=by
    cases e:w.cps.toList with
    |nil=>rw[e]at wl;simp at wl;omega
    |cons c r=>exact⟨c,r,rfl⟩
   have t3:Tt [] [] (.and (.tv (.cmp .Eq (.ix (.var 0) (.int 0)) (.str "0"))) (.tv (.cmp .Gt (.bi "len" (.cons (.var 0) .nil)) (.int 1)))) [some (.od,.str w)] (decide (c=48)&&decide ((1:Int)<w.length)):=Ws (bO (iL (bN (aF rfl) aR.e (HG hc (by omega)) rfl).e bR.e (YE c 48)).e rfl) λ_=>bO (iL (vl rfl).e aR.e rfl).e rfl
   have hh:(w.cps.toList.head?=some 48/\1<w.length)↔(decide (c=48)&&decide ((1:Int)<w.length))=true:=by
    rw[hc,List.head?_cons,bh,decide_eq_true_eq,decide_eq_true_eq,Option.some.injEq];constructor
    ·rintro⟨a,b⟩;exact⟨a,by omega⟩
    ·rintro⟨a,b⟩;exact⟨a,by omega⟩
   by_cases h3:w.cps.toList.head?=some 48/\1<w.length
   ·rw[vz (λz=>z.2.2 h3)];exact pY t3 (hh.mp h3) (eL (gE yf))
   ·rw[vy ⟨h1,h2,h3⟩];exact rT t3 (eq_false_of_ne_true λz=>h3 (hh.mpr z)) (eL (gE (eN (aZ (aF rfl) cJ) (YD h1.1 h1.2 h2) rfl)))
  ·rw[vz (λz=>h2 z.2.1)];exact pY t2 (by rw[eq_false_of_ne_true h2];rfl) (eL (gE yf))
 ·rw[vz (λz=>h1 z.1)];refine pY t1 ?_ (eL (gE yf));rw[uq,Bool.and_eq_false_iff,decide_eq_false_iff_not,decide_eq_false_iff_not];omega
theorem YG:gG ""=none:=by decide+kernel
theorem IW (ks:List (Str×Str))(w k nm:Str):lkG (ks++[(w,k)]) nm=(lkG ks nm).or (if w=nm then some k else none):=by
 unfold lkG;rw[List.find?_append];cases h:ks.find? λy=>decide (y.1=nm)with
 |some y=>rfl
 |none=>
  rw[dg];by_cases e:w=nm
  ·rw[we e,vy e];rfl
  ·rw[wg e,vz e];rfl
theorem IX:∀{ks:List (Str×Str)} {nm:Str},nm∉ks.map (·.1)->lkG ks nm=none
 | [],nm,_=>rfl
 |y::ks,nm,h=>by rw[bx,ao,not_or]at h;have ih:=IX h.2;unfold lkG at ih ⊢;rw[dg,wg (λz=>h.1 z.symm)];exact ih
theorem IY:∀{ks:List (Str×Str)} {nm k:Str},(ks.map (·.1)).Nodup->(nm,k)∈ks->lkG ks nm=some k
 |y::ks,nm,k,hd,h=>by
  rw[bx,i6]at hd;unfold lkG;rw[dg];rcases ao.mp h with rfl|h
  ·rw[we rfl];rfl
  ·rw[wg (λz=>hd.1 (by rw[z];exact dh.mpr ⟨_,h,rfl⟩))];exact IY hd.2 h
structure Kn (ks:List (Str×Str))(kn:List Str)(n5:Str)(j:Nat):Prop where
 lk:∀nm,nm∈kn->∃s∈(["fact","open","word"]:List Str),lkG ks nm=some s
 no:∀nm,nm∉kn->nm≠n5->lkG ks nm=none
 l5:lkG ks n5=some ("claim":Str)
 n5:n5∉kn
 cn:cntO ks=j
section
variable {ks:List (Str×Str)}{kn:List Str}{n5:Str}{j:Nat}{nf:Str->Option Int}
theorem Kn.has (h:Kn ks kn n5 j)(nm:Str):bS ks nm=decide (nm∈kn\/nm=n5):=by
 unfold bS;by_cases h1:nm∈kn
 ·obtain⟨s,_,e⟩:=h.lk nm h1;rw[e,we (.inl h1)];rfl
 ·by_cases h2:nm=n5
  ·rw[h2,h.l5,we (.inr rfl)];rfl
  ·rw[h.no nm h1 h2,wg (λz=>z.elim h1 h2)];rfl
theorem Kn.IZ (h:Kn ks kn n5 j):∀(L:List Str),bJ ks (L.map λw=>dA w OFT)=L.find? λx=> !decide (x∈kn)
 | []=>rfl
 |w::L=>by
  rw[bx,dg];show(if(([.str "fact",.str "open",.str "word"]:List D).any λy=>eqD y (match lkG ks w with|some s=>.str s|none=>.none))=true then bJ ks (L.map λw=>dA w OFT)else some w)=_;by_cases h1:w∈kn
  ·obtain⟨s,hs,e⟩:=h.lk w h1;rw[e,vy,we h1,h.IZ L]
   ·rfl
   ·simp only[ao,fo,or_false]at hs;rcases hs with rfl|rfl|rfl<;>decide+kernel
  ·have hf:(([.str "fact",.str "open",.str "word"]:List D).any fun y=>eqD y (match lkG ks w with|some s=>.str s|none=>.none))=false:=by
    by_cases h2:w=n5
    ·rw[h2,h.l5];decide+kernel
    ·rw[h.no w h1 h2];decide+kernel
   rw[hf,vz (by decide),wg h1];rfl
theorem Kn.add (h:Kn ks kn n5 j)(h1:w∉kn)(h2:w≠n5):Kn (ks++[(w,("open":Str))]) (kn++[w]) n5 (j+1) where
 lk:=λnm hn=>by
  rw[IW];rcases bo.mp hn with hn|hn
  ·obtain⟨s,hs,e⟩:=h.lk nm hn;exact⟨s,hs,by rw[e];rfl⟩
  ·rw[av.mp hn,h.no w h1 h2,vy rfl];exact⟨"open",by decide,rfl⟩
 no:=λnm hn h5=>by rw[bo,not_or]at hn;rw[IW,h.no nm hn.1 h5,vz λz=>hn.2 (by rw[z];exact av.mpr rfl)];rfl
 l5:=by rw[IW,h.l5];rfl
 n5:=λz=>(bo.mp z).elim h.n5 λz=>h2 (av.mp z).symm
 cn:=by have:=h.cn;unfold cntO at this ⊢;rw[ef,List.countP_append,this];rfl
theorem Bq {k:Nat}{act:List D}{r:Str}{rs:List Str}:eS isn nf k act ks (r::rs)=(if k=24 then Rx.row k else match aY isn nf (spW 32 r) ks []with
 |none=>.row k
 |some (d,_,sd)=>if bS ks (Mi.pk (spW 32 r) 1)=true then .tw (Mi.pk (spW 32 r) 1)else match bJ ks sd with
  |some u=>.un u
  |none=>eS isn nf (k+1) (act++[d]) (ks++[(Mi.pk (spW 32 r) 1,Mi.pk (spW 32 r) 0)]) rs):=rfl
theorem xj (hk:k≠24)(hr:spW 32 r=ws)(h:aY isn nf ws ks []=some (d,p,sd))(hh:bS ks (Mi.pk ws 1)=false)(hu:bJ ks sd=none):eS isn nf k act ks (r::rs)=eS isn nf (k+1) (act++[d]) (ks++[(Mi.pk ws 1,Mi.pk ws 0)]) rs:=by
 rw[Bq,vz hk,hr,h]
 dsimp only
 rw[hh,hu];rfl
theorem OK (ha:isn a=true)(hb:isn b=false):a≠b:=λz=>by rw[z,hb]at ha;cases ha
theorem DH (h:isn n=true):aY isn nf ["fact",n] ks []=some (.tuple [.str "fact",.str n],2,[]):=by unfold aY bV;rw[show Mi.pk ["fact",n] 0="fact"from rfl,vy rfl,show Mi.pk ["fact",n] 1=n from rfl,vy h];rfl
def sT (n:Str):D:=.tuple [.str "at",.str n,.int 1]
theorem OL (hn:isn n=true)(h1:Mi.pk ws p=n)(h2:Mi.pk ws (p+1)="")(hl:lkG ks n=some ("fact":Str)):z1c isn nf ws ks (r+1) p sd=some (sT n,p+1,sd++[dA n OFT]):=by show(if Mi.pk ws p="not"then fT "not" (z1c isn nf ws ks r (p+1) sd)else if Mi.pk ws p="("then qA ws (z1c isn nf ws ks r) p sd else lY isn nf ws ks p sd)=_;rw[h1,vz (OK hn (IP (by decide))),vz (OK hn (by decide+kernel))];unfold lY;rw[h1,vy hn,h2,hl];rfl
theorem YH {n w:Str}(hw:isn w=true)(hn:isn n=true)(hl:lkG ks n=some ("fact":Str)):aY isn nf ["word",w,"if",n] ks []=some (.tuple [.str "word",.str w,sT n],4,[dA n OFT]):=by
 unfold aY bV;rw[show Mi.pk ["word",w,"if",n] 0="word"from rfl,vz (by decide),vz (by decide),vy rfl];have hd:dY isn ["word",w,"if",n] 1=true:=by unfold dY;rw[show Mi.pk ["word",w,"if",n] 1=w from rfl,hw];rfl
 rw[vy hd,OL (r:=7) (p:=3) hn rfl rfl hl];rfl
theorem YI (hw:isn w=true)(hn:isn n=true)(hl:lkG ks n=some ("fact":Str)):aY isn nf ["claim",w,"if","some",n] ks []=some (.tuple [.str "claim",.str w,.tuple [.str "some",sT n]],5,[dA n OFT]):=by
 unfold aY bV;rw[show Mi.pk ["claim",w,"if","some",n] 0="claim"from rfl,vz (by decide),vz (by decide),vz (by decide),vy rfl];have hd:dY isn ["claim",w,"if","some",n] 1=true:=by unfold dY;rw[show Mi.pk ["claim",w,"if","some",n] 1=w from rfl,hw];rfl
 rw[vy hd];have ha:z2a isn nf ["claim",w,"if","some",n] ks 8 3 []=fT "some" (z1c isn nf ["claim",w,"if","some",n] ks 7 4 []):=by show(if Mi.pk ["claim",w,"if","some",n] 3="("then _ else if Mi.pk ["claim",w,"if","some",n] 3="not"then _ else if Mi.pk ["claim",w,"if","some",n] 3="some"\/Mi.pk ["claim",w,"if","some",n] 3="all"then fT (Mi.pk ["claim",w,"if","some",n] 3) (z1c isn nf ["claim",w,"if","some",n] ks 7 (3+1) [])else none)=_;rw[show Mi.pk ["claim",w,"if","some",n] 3="some"from rfl,vz (by decide),vz (by decide),vy (.inl rfl)]
 rw[ha,OL hn rfl rfl hl];rfl
end
def w6 (n0 n1 n2 n3 n4 n5:Str):List (List Str):=[["fact",n0],["fact",n1],["fact",n2],["fact",n3],["word",n4,"if",n0],["claim",n5,"if","some",n0]]
def d6 (n0 n1 n2 n3 n4 n5:Str):List D:=[.tuple [.str "fact",.str n0],.tuple [.str "fact",.str n1],.tuple [.str "fact",.str n2],.tuple [.str "fact",.str n3],.tuple [.str "word",.str n4,sT n0],.tuple [.str "claim",.str n5,.tuple [.str "some",sT n0]]]
def k6 (n0 n1 n2 n3 n4 n5:Str):List (Str×Str):=[(n0,"fact"),(n1,"fact"),(n2,"fact"),(n3,"fact"),(n4,"word"),(n5,"claim")]
theorem YJ {n0 n1 n2 n3 n4 n5:Str}(hd:([n0,n1,n2,n3,n4,n5]:List Str).Nodup):Kn (k6 n0 n1 n2 n3 n4 n5) [n0,n1,n2,n3,n4] n5 0 where
 lk:=λnm h=>by
  have hm:∃s∈(["fact","open","word"]:List Str),(nm,s)∈k6 n0 n1 n2 n3 n4 n5:=by
   simp at h;rcases h with rfl|rfl|rfl|rfl|rfl
   ·exact⟨"fact",by decide,.head _⟩
   ·exact⟨"fact",by decide,.tail _ (.head _)⟩
   ·exact⟨"fact",by decide,.tail _ (.tail _ (.head _))⟩
   ·exact⟨"fact",by decide,.tail _ (.tail _ (.tail _ (.head _)))⟩
   ·exact⟨"word",by decide,.tail _ (.tail _ (.tail _ (.tail _ (.head _))))⟩
  obtain⟨s,hs,hm⟩:=hm;exact⟨s,hs,IY hd hm⟩
 no:=λnm h h5=>IX λz=>by exact(bo.mp z).elim h λz=>h5 (av.mp z)
 l5:=IY hd (.tail _ (.tail _ (.tail _ (.tail _ (.tail _ (.head _))))))
 n5:=by have hd:([n0,n1,n2,n3,n4]++[n5]:List Str).Nodup:=hd;rw[iw]at hd;exact λz=>hd.2.2 n5 z n5 (.head _) rfl
 cn:=rfl
theorem Br (h:nm∉ks.map (·.1)):bS ks nm=false:=by unfold bS;rw[IX h];rfl
theorem OM {ks:List (Str×Str)}(h:lkG ks n=some ("fact":Str)):bJ ks [dA n OFT]=none:=by show(if(([.str "fact",.str "open",.str "word"]:List D).any λy=>eqD y (match lkG ks n with|some s=>.str s|none=>.none))=true then bJ ks []else some n)=_;rw[h];rfl
theorem rd6 (hd:([n0,n1,n2,n3,n4,n5]:List Str).Nodup)(hn:∀x∈([n0,n1,n2,n3,n4,n5]:List Str),NW x)(hs:∀ws∈w6 n0 n1 n2 n3 n4 n5,spW 32 (z0e " " ws)=ws)(rest:List Str):
  eS isn nf 0 [] [] ((w6 n0 n1 n2 n3 n4 n5).map (z0e " ")++rest)=eS isn nf 6 (d6 n0 n1 n2 n3 n4 n5) (k6 n0 n1 n2 n3 n4 n5) rest:=by
 have i:=λx hx=>uK (hn x hx);have sub:∀(a b:List Str) (x:Str),a++x::b=[n0,n1,n2,n3,n4,n5]->x∉a:=λa b x e z=>by rw[<-e,iw]at hd;exact hd.2.2 x z x (.head _) rfl
 have l0:∀t:List (Str×Str),lkG ((n0,("fact":Str))::t) n0=some ("fact":Str):=λt=>by unfold lkG;rw[dg,we rfl];rfl
 refine(xj (by decide) (hs _ (.head _)) (DH (i n0 (.head _))) rfl rfl).trans ((xj (ks:=[(n0,"fact")]) (by decide) (hs _ (.tail _ (.head _))) (DH (i n1 (.tail _ (.head _)))) (Br (sub [n0] [n2,n3,n4,n5] n1 rfl)) rfl).trans ((xj (ks:=[(n0,"fact"),(n1,"fact")]) (by decide) (hs _ (.tail _ (.tail _ (.head _)))) (DH (i n2 (.tail _ (.tail _ (.head _))))) (Br (sub [n0,n1] [n3,n4,n5] n2 rfl)) rfl).trans ((xj (ks:=[(n0,"fact"),(n1,"fact"),(n2,"fact")]) (by decide) (hs _ (.tail _ (.tail _ (.tail _ (.head _))))) (DH (i n3 (.tail _ (.tail _ (.tail _ (.head _)))))) (Br (sub [n0,n1,n2] [n4,n5] n3 rfl)) rfl).trans ((xj (ks:=[(n0,"fact"),(n1,"fact"),(n2,"fact"),(n3,"fact")]) (by decide) (hs _ (.tail _ (.tail _ (.tail _ (.tail _ (.head _)))))) (YH (i n4 (.tail _ (.tail _ (.tail _ (.tail _ (.head _)))))) (i n0 (.head _)) (l0 _)) (Br (sub [n0,n1,n2,n3] [n5] n4 rfl)) (OM (l0 _))).trans ((xj (ks:=[(n0,"fact"),(n1,"fact"),(n2,"fact"),(n3,"fact"),(n4,"word")]) (by decide) (hs _ (.tail _ (.tail _ (.tail _ (.tail _ (.tail _ (.head _))))))) (YI (i n5 (.tail _ (.tail _ (.tail _ (.tail _ (.tail _ (.head _))))))) (i n0 (.head _)) (l0 _)) (Br (sub [n0,n1,n2,n3,n4] [] n5 rfl)) (OM (l0 _))).trans ?_)))));rfl
def Ja (d:D):Prop:=wZ isn d/\∀s,jX isn gG d=.tw s\/jX isn gG d=.un s->PyData.strOk s=true
open Classical in
def qC:Fn:=λds=>match ds with
 | [d]=>if Ja d then .ok (.fr,lZ (jX isn gG d))else .no
 |_=>.no
def xm:S:=(.seq (.asg (.nm 1) (.bin .Add (.var 0) (.lst (.cons (.int 0) .nil))))
 (.seq (.asg (.nm 2) (.call 4 "_law_pool" (.cons (.ix (.var 1) (.int 0)) .nil)))
 (.seq (.asg (.nm 3) (.bin .Add (.comp 1 [] ["_law_name"] (.nm 0) (.tv (.sl (.var 2) .nil (.tv (.int 4)))) .nil (.bin .Add (.str "fact ") (.var 0))) (.lst (.cons (.bin .Add (.bin .Add (.bin .Add (.str "word ") (.ix (.var 2) (.int 4))) (.str " if ")) (.ix (.var 2) (.int 0))) .nil))))
 (.seq (.mut "append" 3 (.cons (.bin .Add (.bin .Add (.bin .Add (.str "claim ") (.ix (.var 2) (.int 5))) (.str " if some ")) (.ix (.var 2) (.int 0))) .nil))
 (.seq (.asg (.nm 4) (.bin .Add (.comp 1 [] ["_law_name"] (.nm 0) (.tv (.sl (.var 2) .nil (.tv (.int 4)))) .nil (.tup (.cons (.str "fact") (.cons (.var 0) .nil)))) (.lst (.cons (.tup (.cons (.str "word") (.cons (.ix (.var 2) (.int 4)) (.cons (.tup (.cons (.str "at") (.cons (.ix (.var 2) (.int 0)) (.cons (.int 1) .nil)))) .nil)))) .nil))))
 (.seq (.mut "append" 4 (.cons (.tup (.cons (.str "claim") (.cons (.ix (.var 2) (.int 5)) (.cons (.tup (.cons (.str "some") (.cons (.tup (.cons (.str "at") (.cons (.ix (.var 2) (.int 0)) (.cons (.int 1) .nil)))) .nil))) .nil)))) .nil))
 (.seq (.asg (.nm 5) (.lG "list" (.tv (.sl (.var 2) .nil (.tv (.int 5))))))
 (.seq (.asg (.nm 6) .non)
 (.seq (.bP (.tp [7,8]) (.mO (.cons (.int 1) (.cons (.bi "min" (.cons (.bi "len" (.cons (.var 0) .nil)) (.cons (.int 64) .nil))) (.cons (.int 9) .nil))))
 (.seq (.asg (.tp [9,10]) (.call 3 "_law_open" (.cons (.bin .Add (.sl (.var 0) (.tv (.var 8)) (.tv (.bin .Add (.var 8) (.int 9)))) (.lst (.cons (.int 0) (.cons (.int 1) (.cons (.int 2) (.cons (.int 3) (.cons (.int 4) (.cons (.int 5) .nil)))))))) (.cons (.var 7) (.cons (.var 2) (.cons (.var 5) .nil))))))
 (.seq (.mut "append" 3 (.cons (.var 9) .nil))
 (.seq (.bA (.tv (.jK false (.var 6)))
 (.seq (.asg (.nm 6) (.call 2 "_law_wrong" (.cons (.var 10) (.cons (.bin .Add (.int 6) (.var 7)) (.cons (.var 5) (.cons (.var 2) (.cons (.bin .Add (.var 7) (.int 1)) .nil)))))))
 .nil)
 .nil)
 (.seq (.bA (.tv (.jK false (.var 6)))
 (.seq (.mut "append" 5 (.cons (.ix (.var 10) (.int 1)) .nil))
 (.seq (.mut "append" 4 (.cons (.var 10) .nil))
 .nil))
 .nil)
 .nil)))))
 (.seq (.bA (.tv (.jK true (.var 6)))
 (.seq (.asg (.nm 4) (.var 6))
 .nil)
 .nil)
 (.seq (.ret (.call 0 "_law_alike" (.cons (.call 1 "_law_told" (.cons (.mt "join" (.str "\n") (.cons (.var 3) .nil)) .nil)) (.cons (.var 4) .nil))))
 .nil)))))))))))
def DI:Fn:=bU [] [(bE 6),qC,uF,mD,l'] 11 xm
def DJ (W:Rx):Prop:=match W with|.tw s=>NW s|.un s=>NW s|_=>True
theorem NW.sk (h:NW s):PyData.strOk s=true:=X' (Be h.ch)
theorem YK {W:Rx}(hr:∀r∈rs,iQ r)(hl:rs.length<=20)(hn:rs≠[])(h:eS isn gG 0 [] [] rs=W)(hw:DJ W):qC [.str (z0e "\n" rs)]=.ok (.fr,lZ W):=by
 have sj:=II Yg (λr YL=>Ya (hr r YL).asc) hn;have ra:jX isn gG (.str (z0e "\n" rs))=W:=by show eS isn gG 0 [] [] (spW 10 (z0e "\n" rs))=_;rw[sj,h]
 have X4:(z0e "\n" rs).length<=201*20:=by exact b8 (IK λr h=>(hr r h).len) (Nat.mul_le_mul (ag _) hl)
 have ok:Ja (.str (z0e "\n" rs)):=⟨⟨Bf,λt e=>by
  cases e;exact⟨⟨Yj hr,by unfold LIM;omega⟩,by unfold LIM;omega,by rw[sj];omega⟩⟩,λs z=>by
  rw[ra]at z;rcases z with z|z<;>rw[z]at hw<;>exact NW.sk hw⟩
 rw[<-ra];exact vy ok
theorem Bt (hi:imms xs=true)(hl:xs.length<=100)(he:∀e∈xs,bE k [e,e]=.ok (.fr,.bool true)):bE (k+1) [.tuple xs,.tuple xs]=.ok (.fr,.bool true):=IH (.inl rfl) hi hl he
theorem ON {k:Nat}{a:List Str}(hl:a.length<=4):bE (k+2) [.tuple (a.map .str),.tuple (a.map .str)]=.ok (.fr,.bool true):=Bt (iK a) (by rw[aq];omega) λe he=>by obtain⟨s,_,rfl⟩:=dh.mp he;exact iP k s
theorem YM (ha:a.length<=4)(hb:b.length<=4)(io:imm (z1z w a b)=true):bE (k+3) [z1z w a b,z1z w a b]=.ok (.fr,.bool true):=Bt io (by show 4<=100;decide) λe he=>by
 simp at he;rcases he with rfl|rfl|rfl|rfl
 ·exact iP _ _
 ·exact iP _ _
 ·exact ON ha
 ·exact ON hb
theorem OO (n:Str):bE (k+2) [sT n,sT n]=.ok (.fr,.bool true):=Bt rfl (show 3<=100 by decide) λe he=>by
 simp at he;rcases he with rfl|rfl|rfl
 ·exact iP _ _
 ·exact iP _ _
 ·exact Ow _ _
theorem YN:∀e∈d6 n0 n1 n2 n3 n4 n5,bE 5 [e,e]=.ok (.fr,.bool true):=by
 have hf:∀n:Str,bE 5 [.tuple [.str "fact",.str n],.tuple [.str "fact",.str n]]=.ok (.fr,.bool true):=λn=>Bg (iP 3 _) (iP 3 _) rfl;intro e he;unfold d6 at he;simp only[ao,fo,or_false]at he;rcases he with rfl|rfl|rfl|rfl|rfl|rfl
 ·exact hf _
 ·exact hf _
 ·exact hf _
 ·exact hf _
 ·refine Bt rfl (show 3<=100 by decide) λe he=>?_;simp only[ao,fo,or_false]at he;rcases he with rfl|rfl|rfl
  ·exact iP _ _
  ·exact iP _ _
  ·exact OO _
 ·refine Bt rfl (show 3<=100 by decide) λe he=>?_;simp only[ao,fo,or_false]at he;rcases he with rfl|rfl|rfl
  ·exact iP _ _
  ·exact iP _ _
  ·exact Bg (iP 2 _) (OO _) rfl
def StR (rs:List Str)(act:List D)(kn:List Str)(n5:Str)(wr:D)(j:Nat):Prop:=
 (wr=.none/\j<=4/\imms act=true/\act.length<=6+j/\(∀e∈act,bE 5 [e,e]=.ok (.fr,.bool true))/\∃ks,Kn ks kn n5 j/\∀rest,eS isn gG 0 [] [] (rs++rest)=eS isn gG (6+j) act ks rest)\/
 ∃W,(∀a,W≠.ok a)/\DJ W/\wr=lZ W/\∀rest,eS isn gG 0 [] [] (rs++rest)=W
theorem AZ (h:imms xs=true)(hx:imm x=true):imms (xs++[x])=true:=xT.mpr λe he=>(bo.mp he).elim (xT.mp h e) λz=>by rw[av.mp z];exact hx
theorem Bu {W:Rx}(h:∀a,W≠.ok a):imm (lZ W)=true/\lR (lZ W)=false:=by
 cases W with
 |ok a=>exact absurd rfl (h a)
 |row k=>exact⟨rfl,rfl⟩
 |tw s=>exact⟨rfl,rfl⟩
 |un s=>exact⟨rfl,rfl⟩
theorem YO (h:StR rs act kn n5 wr j)(hw:wr≠.none)(r:Str)(j':Nat):StR (rs++[r]) act kn n5 wr j':=by
 rcases h with⟨rfl,_⟩|⟨W,h1,h2,h3,h4⟩
 ·exact absurd rfl hw
 ·exact .inr ⟨W,h1,h2,h3,λrest=>by rw[gm];exact h4 _⟩
theorem YQ (h:StR rs act kn n5 .none j)(hr:∀nf ks,aY isn nf (spW 32 r) ks []=none):StR (rs++[r]) act kn n5 (.tuple [.str "row",.int (6+(j:Int))]) (j+1):=by
 rcases h with⟨_,hj,_,_,_,ks,_,h⟩|⟨W,h1,_,h3,_⟩
 ·refine .inr ⟨.row (6+j:Nat),nofun,trivial,?_,λrest=>?_⟩
  ·show _=PyData.tuple [.str "row",.int ((6+j:Nat):Int)];rw[show((6+j:Nat):Int)=6+j by omega]
  ·rw[gm,h,List.singleton_append,Bq,vz (by omega),hr]
 ·have :=(Bu h1).2;rw[<-h3]at this;cases this
theorem zoy (h:StR rs act kn n5 .none j)(hr:spW 32 r=opW w a b)(hw:NW w)(hab:∀x∈a++b,NW x)(la:a.length<=4)(lb:b.length<=4)(io:imm (z1z w a b)=true):
  (hU (6+(j:Int)) kn n5 ((j:Int)+1) w a b≠.none/\imm (hU (6+(j:Int)) kn n5 ((j:Int)+1) w a b)=true/\StR (rs++[r]) act kn n5 (hU (6+(j:Int)) kn n5 ((j:Int)+1) w a b) (j+1))\/(hU (6+(j:Int)) kn n5 ((j:Int)+1) w a b=.none/\StR (rs++[r]) (act++[z1z w a b]) (kn++[w]) n5 .none (j+1)):=by
 have ai:=λx hx=>uK (hab x (cy _ hx));have bi:=λx hx=>uK (hab x (bw _ hx));rcases Or.symm h with⟨W,h1,_,h3,_⟩|⟨_,hj,hi,hl,ha,ks,hk,h⟩
 ·have :=(Bu h1).2;rw[<-h3]at this;cases this
 have step:∀rest,eS isn gG 0 [] [] (rs++[r]++rest)=eS isn gG (6+j) act ks (r::rest):=λrest=>by rw[gm,h];rfl
 have p1:Mi.pk (opW w a b) 1=w:=rfl;have bad:∀(W:Rx),(∀a,W≠.ok a)->DJ W->hU (6+(j:Int)) kn n5 ((j:Int)+1) w a b=lZ W->(∀rest,eS isn gG (6+j) act ks (r::rest)=W)->hU (6+(j:Int)) kn n5 ((j:Int)+1) w a b≠.none/\imm (hU (6+(j:Int)) kn n5 ((j:Int)+1) w a b)=true/\StR (rs++[r]) act kn n5 (hU (6+(j:Int)) kn n5 ((j:Int)+1) w a b) (j+1):=λW w1 w2 w3 w4=>by rw[w3];refine⟨λz=>?_,(Bu w1).1,.inr ⟨W,w1,w2,rfl,λrest=>(step rest).trans (w4 rest)⟩⟩;have:=(Bu w1).2;rw[z]at this;cases this
 have e6:((6+j:Nat):Int)=6+(j:Int):=by omega
 by_cases c0:4<(j:Int)+1\/¬a.Nodup\/¬b.Nodup
 ·refine .inl (bad (.row (6+j:Nat)) nofun trivial (by unfold hU;rw[vy c0,<-e6];rfl) λrest=>?_);rw[Bq,vz (by omega),hr]
  have:aY isn gG (opW w a b) ks []=none:=by
   by_cases c4:cntO ks=4
   ·exact OD rfl c4
   ·rw[zam (uK hw) ai bi c4,vz];have:=hk.cn;exact λz=>c0.elim (λy=>by omega) λy=>y.elim (· z.1) (· z.2)
  rw[this]
 have Jb:aY isn gG (opW w a b) ks []=some (z1z w a b,4+a.length+b.length,(a++b).map λw=>dA w OFT):=by rw[zam (uK hw) ai bi (by have:=hk.cn;omega),vy ⟨wb λz=>c0 (.inr (.inl z)),wb λz=>c0 (.inr (.inr z))⟩]
 by_cases c1:w∈kn\/w=n5
 ·refine .inl (bad (.tw w) nofun hw (by unfold hU;rw[vz c0,vy c1];rfl) λrest=>?_);rw[Bq,vz (by omega),hr,Jb]
  dsimp only
  rw[p1,hk.has,vy (we c1)]
 cases hf:(a++b).find? (λx=>!decide (x∈kn))with
 |some x=>
  refine .inl (bad (.un x) nofun (hab x (o8 hf)) (by unfold hU;rw[vz c0,vz c1,hf];rfl) λrest=>?_);rw[Bq,vz (by omega),hr,Jb]
  dsimp only
  rw[p1,hk.has,vz (by rw[wg c1];decide),hk.IZ,hf]
 |none=>have OP:=not_or.mp c1;refine .inr ⟨by unfold hU;rw[vz c0,vz c1,hf],.inl ⟨rfl,by omega,AZ hi io,by rw[ax,qu];omega,λe he=>(bo.mp he).elim (ha e) λz=>by rw[av.mp z];exact YM la lb io,_,hk.add OP.1 OP.2,λrest=>?_⟩⟩;rw[step,xj (by omega) hr Jb (by rw[p1,hk.has];exact wg c1) (by rw[hk.IZ,hf])];rfl
theorem YR (h:Aa Κ Φ args Y ds)(hw:eJ ds=.ok xs):evF Κ Φ (.mO args) Y=.ok (.fr,z0o 0 xs,Y):=by
 obtain⟨ys,h1,h2⟩:=h;have e:evW Κ Φ (.mO args) Y=.ok (.fr,z0o 0 xs):=by show(dM Κ Φ args Y>>=λys=>eJ (ys.map (·.2))>>=λxs=>Res.ok (G.fr,z0o 0 xs))=_;rw[h1,Res.aC,h2,hw];rfl
 show qW Κ Φ (.mO args) Y=_;unfold qW;rw[e];rfl
theorem YS (h:Vv Κ Φ t Y (.tuple [x,y]))(hx:imm x=true)(hy:imm y=true):aM Κ Φ (.asg (.tp [i,j]) t) Y=.ok (.nx ((Y.set i (some (.al,x))).set j (some (.al,y)))):=by
 rw[aM,h.1]
 ·show(Res.eQ (some ((Y.set i (some (jL (gJ x _,x)))).set j (some (jL (gJ y _,y)))))>>=λaH=>Res.ok (Out.nx aH))=_;rw[kN hx,kN hy];rfl
 ·intro i z;cases z
theorem OQ {α:Type}(xs:List α)(n:Nat):cut xs none (some (n:Int))=xs.take n:=by
 unfold cut;simp only[Mi.aU,vz (show ¬(n:Int)<0 by omega),List.drop_zero,Nat.sub_zero,mo];by_cases h:n<=xs.length
 ·rw[jn h]
 ·rw[Nat.min_eq_right (by omega),ki (ag _),ki (by omega)]
theorem YT (h:ns.length=27):∃n0 n1 n2 n3 n4 n5 tl,ns=n0::n1::n2::n3::n4::n5::tl:=by
 rcases ns with _|⟨n0,_|⟨n1,_|⟨n2,_|⟨n3,_|⟨n4,_|⟨n5,tl⟩⟩⟩⟩⟩⟩
 ·simp at h
 ·simp at h
 ·simp at h
 ·simp at h
 ·simp at h
 ·simp at h
 ·exact⟨_,_,_,_,_,_,_,rfl⟩
theorem YU (n:Str):z0e " " [n]=n:=xg (by rw[uG];show n.cps.toList++[]=_;rw[ci])
theorem YV (n:Str):("fact ":Str)++n=z0e " " ["fact",n]:=by have:=OG "fact" n [] "fact " (by decide+kernel);rw[YU]at this;exact this
theorem YW (a b:Str):("word ":Str)++a++" if "++b=z0e " " ["word",a,"if",b]:=xg (by rw[kS,kS,kS,uG,xh];show _=_++32::(_++32::(_++32::(b.cps.toList++[])));rw[show("word ":Str).cps.toList=("word":Str).cps.toList++[32]from by decide+kernel,show(" if ":Str).cps.toList=32::(("if":Str).cps.toList++[32])from by decide+kernel];simp)
theorem YX (a b:Str):("claim ":Str)++a++" if some "++b=z0e " " ["claim",a,"if","some",b]:=xg (by rw[kS,kS,kS,uG,xh,uJ,uJ,uJ,uJ];show _=_++32::(_++32::(_++32::(_++32::(b.cps.toList++[]))));rw[show("claim ":Str).cps.toList=("claim":Str).cps.toList++[32]from by decide+kernel,show(" if some ":Str).cps.toList=32::(("if":Str).cps.toList++32::(("some":Str).cps.toList++[32]))from by decide+kernel];simp)
theorem YY {n0 n1 n2 n3 n4 n5:Str}(hn:∀x∈([n0,n1,n2,n3,n4,n5]:List Str),NW x):∀ws∈w6 n0 n1 n2 n3 n4 n5,spW 32 (z0e " " ws)=ws/\iQ (z0e " " ws):=by
 have kw:∀x∈(["fact","word","if","claim","some"]:List Str),Wd x:=by
  have h:∀x∈(["fact","word","if","claim","some"]:List Str),x.cps.toList.all ac=true/\32∉x.cps.toList/\x.length<=13:=by decide+kernel
  exact λx hx=>⟨Ot (h x hx).1,(h x hx).2.1,(h x hx).2.2⟩
 intro ws h
 have hw:ws≠[]/\ws.length<=14/\∀x∈ws,Wd x:=by
  refine⟨?_,?_,λx hx=>?_⟩
  ·unfold w6 at h;simp at h;rcases h with rfl|rfl|rfl|rfl|rfl|rfl<;>simp
  ·unfold w6 at h;simp at h;rcases h with rfl|rfl|rfl|rfl|rfl|rfl<;>simp<;>omega
  ·have:x∈([n0,n1,n2,n3,n4,n5]:List Str)\/x∈(["fact","word","if","claim","some"]:List Str):=by
    unfold w6 at h;simp at h;rcases h with rfl|rfl|rfl|rfl|rfl|rfl<;>simp at hx ⊢<;>grind
   exact this.elim (λh=>(hn x h).wd) (kw x)
 exact⟨II xh (λr hr=>(hw.2.2 r hr).no) hw.1,OB (λx hx=>⟨(hw.2.2 x hx).asc,(hw.2.2 x hx).len⟩) hw.2.1⟩
theorem OR {n d:Nat}{v:Int}(h:0<=v):Mi.aU n d (some v)=min v.toNat n:=vz (by omega)
theorem YZ {xs:List Int}{j:Nat}(h:1+j*9<xs.length)(hl:xs.length<=63):1<=(cut xs (some (1+(j:Int)*9)) (some (1+(j:Int)*9+9))).length/\(cut xs (some (1+(j:Int)*9)) (some (1+(j:Int)*9+9))).length<=63:=by
 unfold cut;rw[fm,gh];have a:Mi.aU xs.length 0 (some (1+(j:Int)*9))=min (1+(j:Int)*9).toNat xs.length:=OR (by omega);have b:Mi.aU xs.length xs.length (some (1+(j:Int)*9+9))=min (1+(j:Int)*9+9).toNat xs.length:=OR (by omega);rw[show(1+(j:Int)*9).toNat=1+j*9 by omega,jn (qb h)]at a;have b:1+j*9<Mi.aU xs.length xs.length (some (1+(j:Int)*9+9)):=by rw[b,show(1+(j:Int)*9+9).toNat=1+j*9+9 by omega];exact Nat.lt_min.mpr ⟨by omega,h⟩
 rw[a];generalize Mi.aU xs.length xs.length (some (1+(j:Int)*9+9))=e at b;exact⟨Nat.le_min.mpr ⟨by omega,by omega⟩,b8 (p6 _ _) (by omega)⟩
abbrev kA:List Fn:=[bE 6,qC,uF,mD,l']
abbrev jC (xs cell:List Int)(ns rs:List Str)(act:List D)(kn:List Str)(wr:D)(t:Rho):Rho:=some (.od,.list (xs.map .int))::some (.fr,.list (cell.map .int))::some (.fr,.list (ns.map .str))::some (.fr,.list (rs.map .str))::some (.fr,.list act)::some (.fr,.list (kn.map .str))::some (.al,wr)::t
def Jc (xs cell:List Int)(ns:List Str)(n5:Str)(j:Nat)(Y:Rho):Prop:=∃rs kn act wr u7 u8 u9 Bv,Y=jC xs cell ns rs act kn wr [u7,u8,u9,Bv]/\(∀r∈rs,iQ r)/\rs.length=6+j/\(kn≠[]/\kn.length<=5+j/\∀w∈kn,NW w)/\(act.length<=6+j/\imms act=true)/\StR rs act kn n5 wr j/\imm wr=true
theorem Y0 {xs:List Int}(hl:xs.length<=63):DI [.list (xs.map .int)]=.ok (.fr,.bool true):=by
 unfold DI;refine kM ?_
 let Q:Res Out->Prop:=λr=>r=.ok (.rt .fr (.bool true))
 show Q (aM [] kA xm [some (.od,.list (xs.map .int)),none,none,none,none,none,none,none,none,none,none]);unfold xm;refine aQ (mU (xs:=(xs++[0]).map .int) (C5 (aF rfl) (Ev.of (kO (bD aR eF))) (by rw[add_list (by rw[aq];show _+1<=1000;omega),ef];rfl) (MO _)) (MO _)) ?_;have iV:(xs++[0]).length=xs.length+1:=ax;generalize xs++[0]=cell at iV;obtain⟨ns,⟨Jd,hn2,OS⟩,en⟩:=X3 (cell.getD 0 0);refine aQ (mU (xs:=ns.map .str) (HA (aZ (bN (aF rfl) aR.e (Au (i:=0) (by decide) (by omega)) rfl).e cJ) rfl en) (iK _)) ?_;obtain⟨n0,n1,n2,n3,n4,n5,tl,e6⟩:=YT Jd;have c4:cut ns none (some 4)=[n0,n1,n2,n3]:=by rw[show(some (4:Int))=some ((4:Nat):Int)from rfl,OQ,e6];rfl
 have c5:cut ns none (some 5)=[n0,n1,n2,n3,n4]:=by rw[show(some (5:Int))=some ((5:Nat):Int)from rfl,OQ,e6];rfl
 have g0:ns.getD 0 ⟨#[]⟩=n0:=by rw[e6];rfl
 have g4:ns.getD 4 ⟨#[]⟩=n4:=by rw[e6];rfl
 have g5:ns.getD 5 ⟨#[]⟩=n5:=by rw[e6];rfl
 have nd:([n0,n1,n2,n3,n4,n5]:List Str).Nodup:=by rw[e6]at OS;exact OS
 have nw:∀x∈([n0,n1,n2,n3,n4,n5]:List Str),NW x:=λx hx=>hn2 x (by rw[e6];show x∈[n0,n1,n2,n3,n4,n5]++tl;exact cy _ hx);have Y1:∀x∈([n0,n1,n2,n3]:List Str),NW x:=λx hx=>nw x (cy [n4,n5] hx);have Y2:∀x∈([n0,n1,n2,n3,n4]:List Str),NW x:=λx hx=>nw x (cy [n5] hx);clear e6;have xi:∀{Y:Rho} (i:Nat) {x:Str},ns.getD i ⟨#[]⟩=x->i<27->Y[2]?=some (some (.fr,.list (ns.map .str)))->Vv [] kA (.ix (.var 2) (.int i)) Y (.str x):=λi x e hi h=>by rw[<-e];exact bN (aF h) aR.e (IS (by omega)) rfl
 have l0:=(nw n0 (.head _)).l2;have l4:=(nw n4 (.tail _ (.tail _ (.tail _ (.tail _ (.head _)))))).l2;have l5:=(nw n5 (.tail _ (.tail _ (.tail _ (.tail _ (.tail _ (.head _))))))).l2;have vw:Vv [] kA (.bin .Add (.bin .Add (.bin .Add (.str "word ") (.ix (.var 2) (.int 4))) (.str " if ")) (.ix (.var 2) (.int 0))) [some (.od,.list (xs.map .int)),some (.fr,.list (cell.map .int)),some (.fr,.list (ns.map .str)),none,none,none,none,none,none,none,none] (.str (z0e " " ["word",n4,"if",n0])):=by have a1:("word ":Str).length=5:=rfl;have a2:(" if ":Str).length=4:=rfl;rw[<-YW];exact v_add (v_add (v_add bR.e (xi 4 g4 (by decide) rfl).e (by omega)).e bR.e (by rw[hX];omega)).e (xi 0 g0 (by decide) rfl).e (by rw[hX,hX];omega)
 let r5:List Str:=[z0e " " ["fact",n0],z0e " " ["fact",n1],z0e " " ["fact",n2],z0e " " ["fact",n3],z0e " " ["word",n4,"if",n0]]
 refine aQ (mU (xs:=r5.map .str) (C5 (Ev.of (zcc (m:=PyData.str) (xs:=[n0,n1,n2,n3]) (λv=>z0e " " ["fact",v]) (gW (x:=.list ([n0,n1,n2,n3].map .str)) (by rw[<-c4];exact uH (m:=PyData.str) (xs:=ns) (λ_=>rfl) (aF rfl) oJ (lS aR.e)) rfl) rfl (λv=>[some (.al,.str v)]) (λv _=>rfl) λv hx=>by rw[<-YV];exact v_add bR.e (aF rfl) (by have:=(Y1 v hx).l2;have:("fact ":Str).length=5:=rfl;omega))) (Ev.of (kO (bD vw eF))) (add_list (by show 4+1<=1000;decide)) (iK r5)) (iK r5)) ?_;have vc:Vv [] kA (.bin .Add (.bin .Add (.bin .Add (.str "claim ") (.ix (.var 2) (.int 5))) (.str " if some ")) (.ix (.var 2) (.int 0))) [some (.od,.list (xs.map .int)),some (.fr,.list (cell.map .int)),some (.fr,.list (ns.map .str)),some (.fr,.list (r5.map .str)),none,none,none,none,none,none,none] (.str (z0e " " ["claim",n5,"if","some",n0])):=by have a1:("claim ":Str).length=6:=rfl;have a2:(" if some ":Str).length=9:=rfl;rw[<-YX];exact v_add (v_add (v_add bR.e (xi 5 g5 (by decide) rfl).e (by omega)).e bR.e (by rw[hX];omega)).e (xi 0 g0 (by decide) rfl).e (by rw[hX,hX];omega)
 refine aQ (AA (xs:=r5.map .str) vc rfl (by show 5<1000;decide)) ?_
 let r6:List Str:=(w6 n0 n1 n2 n3 n4 n5).map (z0e " ")
 show Q (aM [] kA _ [some (.od,.list (xs.map .int)),some (.fr,.list (cell.map .int)),some (.fr,.list (ns.map .str)),some (.fr,.list (r6.map .str)),none,none,none,none,none,none,none]);have ed:=z6y (Κ:=[]) (Φ:=kA) (Y:=[some (.od,.list (xs.map .int)),some (.fr,.list (cell.map .int)),some (.fr,.list (ns.map .str)),some (.fr,.list (r6.map .str)),none,none,none,none,none,none,none]) (nt:=1) (js:=[]) (N':=["_law_name"]) (tg:=.nm 0) (it:=.tv (.sl (.var 2) .nil (.tv (.int 4)))) (cond:=.nil) (elt:=.tup (.cons (.str "fact") (.cons (.var 0) .nil))) (m:=PyData.str) (xs:=[n0,n1,n2,n3]) (λ_=>true) (λv=>.tuple [.str "fact",.str v]) (gW (x:=.list ([n0,n1,n2,n3].map .str)) (by rw[<-c4];exact uH (m:=PyData.str) (xs:=ns) (λ_=>rfl) (aF rfl) oJ (lS aR.e)) rfl) rfl (λv=>[some (.al,.str v)]) (λv _=>rfl) (λv _=>C7) (λv hx _=>mT (bD bR (bD (v_var rfl rfl) eF)));rw[lm.mpr λ_ _=>rfl]at ed;have va:∀{Y:Rho},Y[2]?=some (some (.fr,.list (ns.map .str)))->Vv [] kA (.tup (.cons (.str "at") (.cons (.ix (.var 2) (.int 0)) (.cons (.int 1) .nil)))) Y (sT n0):=λ{Y} h=>mT (bD bR (bD (xi 0 g0 (by decide) h) (bD aR eF)))
 let d5:List D:=[.tuple [.str "fact",.str n0],.tuple [.str "fact",.str n1],.tuple [.str "fact",.str n2],.tuple [.str "fact",.str n3],.tuple [.str "word",.str n4,sT n0]]
 refine aQ (mU (xs:=d5) (C5 (Ev.of ed) (Ev.of (kO (bD (mT (bD bR (bD (xi 4 g4 (by decide) rfl) (bD (va rfl) eF)))) eF))) (add_list (by show 4+1<=1000;decide)) rfl) rfl) ?_;refine aQ (AA (xs:=d5) (mT (bD bR (bD (xi 5 g5 (by decide) rfl) (bD (mT (bD bR (bD (va rfl) eF))) eF)))) rfl (by show 5<1000;decide)) ?_;show Q (aM [] kA _ [some (.od,.list (xs.map .int)),some (.fr,.list (cell.map .int)),some (.fr,.list (ns.map .str)),some (.fr,.list (r6.map .str)),some (.fr,.list (d6 n0 n1 n2 n3 n4 n5)),none,none,none,none,none,none]);have es:=uH (Κ:=[]) (Φ:=kA) (Y:=[some (.od,.list (xs.map .int)),some (.fr,.list (cell.map .int)),some (.fr,.list (ns.map .str)),some (.fr,.list (r6.map .str)),some (.fr,.list (d6 n0 n1 n2 n3 n4 n5)),none,none,none,none,none,none]) (m:=PyData.str) (xs:=ns) (a:=.var 2) (b:=.nil) (c:=.tv (.int 5)) (λ_=>rfl) (aF rfl) oJ (lS aR.e);rw[c5]at es;have el:=Wr (f:="list") (w:=(true,[n0,n1,n2,n3,n4].map .str)) (Ev.of es) rfl (V7 _ _) (iK _);refine aQ (mU (xs:=[n0,n1,n2,n3,n4].map .str) el (iK _)) (aQ (fI yf) ?_);have OT:=YY nw;have Je:gS "min" [.int (xs.length:Int),.int 64]=.ok (.int (min (xs.length:Int) 64)):=V6 _ _;have hr:eJ [.int 1,.int (min (xs.length:Int) 64),.int 9]=.ok ((cj (if(1:Int)<min (xs.length:Int) 64 then((min (xs.length:Int) 64-1-1)/9+1).toNat else 0)).map λ(i:Nat)=>.int (1+i*9)):=by show(if _ then _ else _)=_;rw[vy (by unfold LIM;omega)]
 generalize hN:(if(1:Int)<min (xs.length:Int) 64 then((min (xs.length:Int) 64-1-1)/9+1).toNat else 0)=N at hr;have OU:∀i,i<N->1+i*9<xs.length/\i<=6:=λi hi=>by rw[<-hN]at hi;split at hi<;>omega
 refine zgc (g:=.fr) (m:=λp:Nat×Nat=>PyData.tuple [.int p.2,.int (1+p.1*9)]) (xs:=(cj N).zipIdx) ((YR (aZ aR.e (aZ (eN (aZ (eN (aZ (aF rfl) cJ) (Od xs) rfl).e (aZ aR.e cJ)) Je rfl).e (aZ aR.e cJ))) hr).trans (by rw[MU (λi:Nat=>PyData.int (1+i*9))];rfl))
  (λpre=>Jc xs cell ns n5 pre.length)
  ⟨r6,[n0,n1,n2,n3,n4],d6 n0 n1 n2 n3 n4 n5,.none,none,none,none,none,rfl,λr h=>by obtain⟨ws,lX,rfl⟩:=dh.mp h;exact(OT ws lX).2,rfl,⟨nofun,by show 5<=5;decide,Y2⟩,⟨by show 6<=6;decide,rfl⟩,.inl ⟨rfl,by decide,rfl,by show 6<=6;decide,YN,_,YJ nd,λrest=>rd6 nd nw (λws h=>(OT ws h).1) rest⟩,rfl⟩ ?_ ?_
 ·rintro pre x post Y hx ⟨rs,kn,act,wr,u7,u8,u9,Bv,rfl,h1,h2,h3,h4,st,wi⟩
  have iE:=congrArg l7 hx;simp only[ua,d8,ax,ay]at iE;have CM:((cj N).zipIdx)[pre.length]?=some x:=by rw[hx,jf (ag _),Nat.sub_self];rfl
  rw[List.getElem?_zipIdx,lj (by omega)]at CM;obtain rfl:x=(pre.length,pre.length):=by rw[<-v5 CM,on]
  obtain⟨b1,b2⟩:=OU pre.length (by omega);have pl:(pre++[(pre.length,pre.length)]).length=pre.length+1:=by rw[ax];rfl
  rw[pl];generalize pre.length=j at *
  have Y3:=YZ b1 hl;obtain⟨r,row,OV,ir,eo⟩:=zpr (cs:=cut xs (some (1+(j:Int)*9)) (some (1+(j:Int)*9+9))++[0,1,2,3,4,5]) (k:=j) (ns:=ns) (kn:=kn) (by rw[ax];show 7<=_+6/\_+6<=100;omega) (by omega) ⟨Jd,hn2⟩ ⟨h3.1,by omega,h3.2.2⟩;refine⟨_,Wv rfl rfl,.inl ?_⟩;show Nx (Jc xs cell ns n5 (j+1)) (aM [] kA _ (jC xs cell ns rs act kn wr [some (.al,.int (j:Nat)),some (.al,.int (1+(j:Nat)*9)),u9,Bv]));refine aQ (YS (pB (aZ (DF (Ev.of (uH (m:=PyData.int) (xs:=xs) (λ_=>rfl) (aF rfl) (lS (aF rfl)) (lS (bH (aF rfl) aR.e rfl rfl).e))) (Ev.of (kO (bD aR (bD aR (bD aR (bD aR (bD aR (bD aR eF)))))))) (by show cH .Add (.list _) (.list (([0,1,2,3,4,5]:List Int).map .int))=_;rw[add_list (by rw[aq,aq];show _+6<=1000;omega),<-ef])) (aZ (aF rfl) (aZ (aF rfl) (aZ (aF rfl) cJ)))) rfl eo (by show(true&&(imm row&&true))=true;rw[ir];rfl)) rfl ir) ?_
  let T:Rho:=[some (.al,.int (j:Nat)),some (.al,.int (1+(j:Nat)*9)),some (.al,.str r),some (.al,row)]
  have iT:∀{rs kn act wr},imm wr=true->(jC xs cell ns rs act kn wr T).map pR=jC xs cell ns rs act kn wr T:=λ{rs kn act wr} h=>by show[_,_,_,_,_,_,pR (some (.al,wr)),_,_,_,pR (some (.al,row))]=_;rw[Of h,Of ir];rfl
  have ap:∀{rs kn act DK xn Bw wr} {i:Nat} {a:C} {x:D} {xl:List D},imm wr=true->Vv [] kA a (jC xs cell ns rs act kn wr T) x->(jC xs cell ns rs act kn wr T)[i]?=some (some (.fr,.list xl))->xl.length<1000->(jC xs cell ns rs act kn wr T).set i (some (.fr,.list (xl++[x])))=jC xs cell ns Bw xn DK wr T->aM [] kA (.mut "append" i (.cons a .nil)) (jC xs cell ns rs act kn wr T)=.ok (.nx (jC xs cell ns Bw xn DK wr T)):=λh hv hi hl e=>by rw[AA hv hi hl,e,iT h]
  refine aQ (ap (Bw:=rs++[r]) wi (v_var rfl rfl) rfl (by rw[aq];omega) (by simp only[jC,ef];rfl)) ?_;have r1:∀r'∈rs++[r],iQ r':=λr' h=>(bo.mp h).elim (h1 r') λz=>by rw[av.mp z];exact OV.1
  have r2:(rs++[r]).length=6+(j+1):=by rw[ax,h2];rfl
  have xo:∀W,imm W=true->StR (rs++[r]) act kn n5 W (j+1)->Jc xs cell ns n5 (j+1) (jC xs cell ns (rs++[r]) act kn W T):=λW iW sW=>⟨rs++[r],kn,act,W,_,_,_,_,rfl,r1,r2,⟨h3.1,by omega,h3.2.2⟩,⟨by omega,h4.2⟩,sW,iW⟩;have tN:∀{wr:D} {rs kn:List Str} {act:List D},Tt [] kA (.tv (.jK false (.var 6))) (jC xs cell ns rs act kn wr T) (lR wr):=λ{wr rs kn act}=>vZ (x:=wr) (aF rfl) (by cases lR wr<;>rfl);have nn:∀{W:D},W≠.none->lR W=false:=λ{W} h=>by cases W<;>first|rfl|exact absurd rfl h
  have look:∀W,imm W=true->uF [row,.int (6+(j:Int)),.list (kn.map .str),.list (ns.map .str),.int ((j:Int)+1)]=.ok (.fr,W)->aM [] kA (.seq (.asg (.nm 6) (.call 2 "_law_wrong" (.cons (.var 10) (.cons (.bin .Add (.int 6) (.var 7)) (.cons (.var 5) (.cons (.var 2) (.cons (.bin .Add (.var 7) (.int 1)) .nil))))))) .nil) (jC xs cell ns (rs++[r]) act kn .none T)=.ok (.nx (jC xs cell ns (rs++[r]) act kn W T)):=λW iW eW=>wN (fI (pB (aZ (aF rfl) (aZ (bH aR.e (aF rfl) rfl rfl).e (aZ (aF rfl) (aZ (aF rfl) (aZ (bH (aF rfl) aR.e rfl rfl).e cJ))))) rfl eW iW)) tZ;by_cases hw:wr=.none
  ·subst hw;rcases OV.2 with⟨rfl,Ep⟩|⟨w,a,b,hw,hab,la,lb,rfl,eU⟩
   ·exact DC tN rfl (look _ rfl YB) (pZ tN rfl (mE (xo _ rfl (YQ st Ep))))
   ·have ew:=zio (at':=6+(j:Int)) (o:=(j:Int)+1) (kn:=kn) (w:=w) (a:=a) (b:=b) Jd (by omega) la lb;rw[g5]at ew;rcases zoy st eU hw hab la lb ir with⟨z1,z2,z3⟩|⟨z1,z2⟩
    ·exact DC tN rfl (look _ z2 ew) (pZ tN (nn z1) (mE (xo _ z2 z3)))
    ·rw[z1]at ew;refine DC tN rfl (look .none rfl ew) (DB tN (λ_=>aQ (ap (Bw:=rs++[r]) (DK:=kn++[w]) rfl (bN (x:=z1z w a b) (aF rfl) aR.e rfl rfl) rfl (by rw[aq];omega) (by simp only[jC,ef];rfl)) (aQ (ap (Bw:=rs++[r]) (DK:=kn++[w]) (xn:=act++[z1z w a b]) rfl (v_var rfl ir) rfl (by omega) rfl) (mE (mE ?_)))) nofun);exact⟨rs++[r],kn++[w],act++[z1z w a b],.none,_,_,_,_,rfl,r1,r2,⟨(λz=>by cases kn<;>cases z),by rw[ax];show _+1<=_;omega,λx hx=>(bo.mp hx).elim (h3.2.2 x) λz=>by rw[av.mp z];exact hw⟩,⟨by rw[ax];show _+1<=_;omega,AZ h4.2 ir⟩,z2,rfl⟩
  ·exact pZ tN (nn hw) (pZ tN (nn hw) (mE (xo _ wi (YO st hw r _))))
 ·rintro Y ⟨rs,kn,act,wr,u7,u8,u9,Bv,rfl,h1,h2,h3,h4,h5,h6⟩
  rw[ua,d8]at h2 h3 h4 h5
  have N7:N<=7:=by
   rcases qk 7 N with h|h
   ·have:=(OU 7 h).2;omega
   ·exact h
  have fG:rs≠[]:=λz=>by rw[z]at h2;simp at h2;omega
  have jw:qU "\n" rs<=LIM:=IL rfl (λr h=>(h1 r h).len) (by decide) (by omega);have fin:∀(W:Rx) (g:G),DJ W->eS isn gG 0 [] [] rs=W->bE 6 [lZ W,lZ W]=.ok (.fr,.bool true)->Q (aM [] kA (.seq (.ret (.call 0 "_law_alike" (.cons (.call 1 "_law_told" (.cons (.mt "join" (.str "\n") (.cons (.var 3) .nil)) .nil)) (.cons (.var 4) .nil)))) .nil) [some (.od,.list (xs.map .int)),some (.fr,.list (cell.map .int)),some (.fr,.list (ns.map .str)),some (.fr,.list (rs.map .str)),some (g,lZ W),some (.fr,.list (kn.map .str)),some (.al,wr),u7,u8,u9,Bv]):=λW g w1 w2 w3=>eL (gE (pB (aZ (Wq (aZ (rR bR.e (aZ (aF rfl) cJ) (Ip jw) rfl).e cJ) rfl (YK h1 (by omega) fG w2 w1)) (aZ (aF rfl) cJ)) rfl w3 rfl));rcases h5 with⟨rfl,_,hi,_,ha,ks,_,eB⟩|⟨W,w1,w2,rfl,w4⟩
  ·have eB:=eB [];rw[ci]at eB;exact pZ (vZ (x:=.none) (k:=false) (aF rfl) rfl) rfl (fin (.ok act) .fr trivial eB (IH (.inr rfl) hi (by omega) ha))
  ·have w4:=w4 [];rw[ci]at w4;have Y4:=(Bu w1).2;refine DC (k:=true) (vZ (x:=lZ W) (aF rfl) (by rw[Y4];rfl)) rfl (wN (fI (v_var rfl h6)) tZ) (fin W .al w2 w4 ?_);cases W with
   |ok a=>exact absurd rfl (w1 a)
   |row k=>exact Bg (iP 4 _) (Ow 4 _) rfl
   |tw s=>exact Bg (iP 4 _) (iP 4 _) rfl
   |un s=>exact Bg (iP 4 _) (iP 4 _) rfl
open PySem.Spec PyProof.Rows L2
def top (i:Nat):Stmt:=PySem.Challenge.pw_likebook_k52_opens.main.body.getD i (.Pass ⟨0,0,0,0⟩)
def eT (i:Nat):Stmt->Stmt
 |.ClassDef _ _ _ b ..=>b.getD i (.Pass ⟨0,0,0,0⟩)
 |s=>s
def Sb:Nat->S
 |0=>.nil
 |n+1=>.seq .bad (Sb n)
def F0 (n k:Nat):Fn:=bU [] [] n (Sb k)
def Y5:Fn:=bU [] [bE 6,F0 4 1,uF,mD,l'] 11 xm
abbrev FREE:List Str:=["isinstance","str","len","all","range","list","tuple","int","bool","zip","enumerate","ValueError","set","min"]
abbrev pK:aO:=⟨"number_of",top 18,["figures"],["figures"],["int","len","all"],[],A8,xb,.n,[]⟩
abbrev Rp:List aO:=[
 ⟨"is_name",top 16,["thing"],["thing"],["all","len","isinstance","str"],[],A7,F_z0,.n,[("NO_NAMES",["and","or","not","if","is","some","all","for","against"])]⟩,
 pK,
 ⟨"read_names",top 30,["row","names","name"],["row"],FREE,[],Sb 3,F0 3 3,.n,[("OF_A_THING",["fact","open","word"])]⟩,
 ⟨"read_saying",top 31,["row","room","name"],["row","room"],FREE,[],Sb 7,F0 3 7,.n,[("OF_A_THING",["fact","open","word"])]⟩,
 ⟨"read_asking",top 32,["row","room","word"],["row","room"],FREE,[],Sb 6,F0 3 6,.n,[]⟩,
 ⟨"read_both",top 33,["row","read_part","room","one","sign","other"],["row","read_part","room"],FREE,[],Sb 7,F0 6 7,.n,[]⟩,
 ⟨"read_bound",top 34,["row","name","number"],["row","name"],FREE,[],Sb 5,F0 3 5,.n,[]⟩,
 ⟨"read_head",top 28,["row","name"],["row"],FREE,[],Sb 3,F0 2 3,.n,[]⟩,
 ⟨"read_open",top 29,["row","name","fors"],["row"],FREE,[],Sb 6,F0 3 6,.n,[]⟩,
 ⟨"read_row",top 27,["row","kind","told"],["row"],FREE,[],Sb 4,F0 3 4,.n,[]⟩,
 ⟨"check_names",top 26,["row","told","name","tellers"],["row","told"],FREE,[],Sb 2,F0 4 2,.n,[]⟩,
 ⟨"read_act",top 25,["text","act","kinds","number","written","row","told"],["text"],FREE,[],Sb 5,F0 7 5,.n,[]⟩,
 ⟨"_law_told",top 39,["_law_text","e","_law_some","_law_kinds"],["_law_text"],FREE,[],Sb 1,F0 4 1,.n,[]⟩]
abbrev Mg:List aO:=[
 ⟨"__init__",eT 0 (top 24),["self","number","text","kinds"],["self","number","text","kinds"],FREE,[],Sb 5,λ_=>.no,.n,[]⟩,
 ⟨"peek",eT 1 (top 24),["self"],["self"],FREE,[],Sb 1,λ_=>.no,.n,[]⟩,
 ⟨"take",eT 2 (top 24),["self","word"],["self"],FREE,[],Sb 3,λ_=>.no,.n,[]⟩,
 ⟨"take_word",eT 3 (top 24),["self","word"],["self","word"],FREE,[],Sb 1,λ_=>.no,.n,[]⟩,
 ⟨"take_name",eT 4 (top 24),["self","name"],["self"],FREE,[],Sb 3,λ_=>.no,.n,[]⟩,
 ⟨"take_end",eT 5 (top 24),["self"],["self"],FREE,[],Sb 1,λ_=>.no,.n,[]⟩,
 ⟨"__init__",eT 0 (top 11),["self","row"],["self","row"],FREE,[],Sb 1,λ_=>.no,.n,[]⟩,
 ⟨"__init__",eT 0 (top 12),["self","name"],["self","name"],FREE,[],Sb 1,λ_=>.no,.n,[]⟩,
 ⟨"__init__",eT 0 (top 13),["self","name"],["self","name"],FREE,[],Sb 1,λ_=>.no,.n,[]⟩]
abbrev CRg:pI:=⟨"Row",["number","words","place","kinds","said"],[("__init__",eT 0 (top 24)),("peek",eT 1 (top 24)),("take",eT 2 (top 24)),("take_word",eT 3 (top 24)),("take_name",eT 4 (top 24)),("take_end",eT 5 (top 24))]⟩
abbrev Bz (c:Str):List (Str×Bool):=(["Late","NoCourt","NoPack","NoReason","NoRow","NoRuling","NoSide","NotAllowed","NotYours","TooMuch","Twice","Unknown"]:List Str).map λx=>(x,x==c)
abbrev xA:XRow:=⟨"NoRow","row","BookError",Bz "NoRow",eT 0 (top 11)⟩
abbrev xB:XRow:=⟨"Twice","name","BookError",Bz "Twice",eT 0 (top 12)⟩
abbrev xC:XRow:=⟨"Unknown","name","BookError",Bz "Unknown",eT 0 (top 13)⟩
abbrev Xg:List XRow:=[xA,xB,xC]
abbrev Gg:List (Str×Int):=[("MOST_ROWS",24),("MOST_OPENS",4),("MOST_DEEP",8)]
abbrev aS (fs:List Nat)(s:S)(F:Fn):aO:=⟨"_law_alike",top 40,["_law_found","_law_due","_law_one","_law_two"],["_law_found","_law_due"],["zip","len","isinstance","list","tuple","int","bool","str"],fs,s,F,.n,[]⟩
abbrev Lz:List aO:=[
 ⟨"_law_mixed",top 36,["_law_cell","_law_k"],["_law_cell","_law_k"],[],[],A9,hM,.n,[]⟩,
 ⟨"_law_good_name",top 37,["_law_word"],["_law_word"],[],[],A',sI,.n,[]⟩,
 ⟨"_law_pool",top 38,["_law_cell","_law_letters","_law_number","_law_many","_law_stem","_law_at","_law_signs","_law_k","_law_names"],["_law_cell"],["range"],[14,13],sJ,l',.n,[]⟩,
 aS [] Ba (bE 0),
 aS [16] jZ (bE 1),
 aS [17] jZ (bE 2),
 aS [18] jZ (bE 3),
 aS [19] jZ (bE 4),
 aS [20] jZ (bE 5),
 aS [21] jZ (bE 6),
 ⟨"_law_list",top 41,["_law_cells","_law_names","_law_known","_law_own","_law_found","_law_k","_law_number"],["_law_cells","_law_names","_law_known","_law_own"],["range","len"],[13],sM,sN,.n,[]⟩,
 ⟨"_law_spoiled",top 42,["_law_own","_law_fors","_law_againsts","_law_number","_law_lists","_law_rows"],["_law_own","_law_fors","_law_againsts","_law_number"],[],[],sO,sP,.n,[]⟩,
 ⟨"_law_open",top 43,["_law_cells","_law_k","_law_names","_law_known","_law_number","_law_own","_law_fors","_law_againsts","_law_text","_law_row"],["_law_cells","_law_k","_law_names","_law_known"],["tuple","len"],[24,23,13],sQ,mD,.n,[]⟩,
 ⟨"_law_wrong",top 44,["_law_row","_law_at","_law_known","_law_names","_law_opens","_law_some","_law_name"],["_law_row","_law_at","_law_known","_law_names","_law_opens"],["len","set"],[],Io,uF,.n,[]⟩]
abbrev Rz:List aO:=Rp++Lz
abbrev Lr:aO:=⟨"law",top 45,["_law_script","_law_cells","_law_names","_law_rows","_law_due","_law_known","_law_wrong_here","_law_k","_law_start","_law_text","_law_row"],["_law_script"],["enumerate","range","min","len","list"],[22,12,26,25,15],xm,Y5,.n,[]⟩
abbrev Xt:List XR:=[]
theorem xp:oks (Rz++[Lr]) Xt FREE 0 (Rz++[Lr])=true:=by decide+kernel
theorem Y6:rO (Rz++[Lr]) (Rz++[Lr]):=by repeat' first|exact trivial|refine⟨rfl,?_⟩
theorem t_P:oks Rp [] FREE 0 Rp=true:=by decide+kernel
theorem t_Mg:oks Mg [] FREE 0 Mg=true:=by decide+kernel
abbrev Jf:List (Str×Str):=[("NoRow","row"),("Twice","name"),("Unknown","name")]
abbrev Jg:List Str:=["MOST_ROWS","MOST_OPENS","MOST_DEEP"]
abbrev DL (c:Str):List (Str×Str×Bool):=(c,("ValueError":Str),true)::(Bz c).map λy=>(c,y.1,y.2)
abbrev BA:List (Str×Str×Bool):=DL "NoRow"++(DL "Twice"++DL "Unknown")
abbrev OW:List (Str×Str):=[("NoRow","BookError"),("Twice","BookError"),("Unknown","BookError")]
abbrev gBg (st:Stmt)(N:List Str)(fns:List (Str×Nat))(cs:List Str):Gm:={N:=N,sc:=z07 st,free:=FREE,fns:=fns,cst:=cs,sub:=BA,rs:=[],fF:=OW}
abbrev gg (r:aO)(fns:List (Str×Nat))(cs:List Str)(fn me cl hf:List (Str×Nat)):Gw:={g:=gBg r.st r.N fns cs,fn:=fn,me:=me,cl:=cl,gi:=Jg,fld:=Jf,hf:=hf}
abbrev gg0 (r:aO)(me:List (Str×Nat)):Gw:={g:=gBg r.st r.N [] [],fn:=[],me:=me,cl:=[],gi:=Jg}
abbrev N0:Str×Nat:=("peek",0)
abbrev N1:Str×Nat:=("take",0)
abbrev N2:Str×Nat:=("take_word",1)
abbrev N3:Str×Nat:=("take_name",0)
abbrev N4:Str×Nat:=("take_end",0)
abbrev NN:List (Str×Nat):=[N0,N1,N2,N3,N4]
abbrev OFc:List Str:=["OF_A_THING"]
abbrev mq (i:Nat):aO:=Mg.getD i pK
abbrev pq (i:Nat):aO:=Rp.getD i pK
def xig (f:Str):WS:=.seq (.Dh (.raw 0) f (.raw 1)) .nil
theorem Y7 {P:cf}{K:W.Frag}(F:FnOk P w K mg base (CXE P w base) k f fd ps sp)(h:∀vs H Q E,Y8 vs H Q E->sp vs H Q λ_ _ _=>False):FnOk P w K mg base pP k f fd ps Y8:=
 ⟨λvs H Q E q=>F.len vs H Q _ (h _ _ _ _ q),λA outer s H args us vs Q E hr he hb hv hs=>jq (F.run A outer s H args us vs Q _ hr he hb hv (h _ _ _ _ hs)) λr s' z=>by
  cases r with
  |error e=>obtain⟨_,_,_,_,_,_,z⟩:=z;exact z.elim
  |ok x=>cases x<;>exact z⟩
theorem BB {P:cf}{K:W.Frag}:FnOk P w K mg base CX k f fd ps (λ_ _ _ _=>False):=⟨λ_ _ _ _ z=>z.elim,λ_ _ _ _ _ _ _ _ _ _ _ _ _ z=>z.elim⟩
section
variable {P:cf}{w:World}{K:W.Frag}{mg:Str->Option Value}{base:Heap}
theorem scg {i:Nat}(h:oks Rs [] FREE 0 Rs=true)(e:Rs[i]?=some r):FnScope r.N r.ps (z07 r.st):=(Ao (CZ h e)).1
theorem xq (h1:Γ.sub=BA)(h2:Γ.rs=[])(h3:Γ.fF=OW)(hz:mg "ValueError"=none)(G:∀(x:Str) (v:Value),W.nsIn K bj x=some (some v)->mg x=some v)(XX:∀r∈Xg,∃A D f fd,XAt K r A D f fd):ya Γ K mg:=by
 have one:∀r∈Xg,∀c C b,(c,C,b)∈DL r.c->(r.cs=Bz r.c)->Mn K mg c C b:=λr hr c C b h B6=>by
  obtain⟨A,D,f,fd,a⟩:=XX r hr;rcases ao.mp h with e|e
  ·cases e;exact⟨A,.ty "ValueError",.type "ValueError",G _ _ a.ns,a.xa,XV.val,a.sv,rfl,λw q=>q,.inr ⟨hz,by decide+kernel,by decide⟩⟩
  ·obtain⟨y,hy,e⟩:=dh.mp e;cases e;obtain⟨E,e1,e2,e3,e4⟩:=a.cs y (by rw[B6];exact hy);exact⟨A,.ref E,.ref E,G _ _ a.ns,a.xa,XV.own e3 e2,e4,rfl,λw q=>q,.inl (G _ _ e1)⟩
 have hn:∀r∈Xg,r.B="BookError"->∃A D,mg r.c=some (.ref A)/\mg "BookError"=some (.ref D)/\gB K A=true/\gB K D=true/\W.subIn K (.ref A) (.ref D)=some true:=λr hr hB=>by obtain⟨A,D,f,fd,a⟩:=XX r hr;exact⟨A,D,G _ _ a.ns,by rw[<-hB];exact G _ _ a.nb,a.xf.ex,a.ed,a.sd⟩
 refine⟨λc C b h=>?_,(λc h=>by rw[h2]at h;cases h),λc B h=>?_⟩
 ·rw[h1]at h;rcases bo.mp (cu.mp h)with h|h
  ·exact one xA (.head _) c C b h rfl
  ·rcases bo.mp h with h|h
   ·exact one xB (.tail _ (.head _)) c C b h rfl
   ·exact one xC (.tail _ (.tail _ (.head _))) c C b h rfl
 ·rw[h3]at h;rcases ao.mp (cu.mp h)with e|e
  ·cases e;exact hn xA (.head _) rfl
  ·rcases ao.mp e with e|e
   ·cases e;exact hn xB (.tail _ (.head _)) rfl
   ·cases av.mp e;exact hn xC (.tail _ (.tail _ (.head _))) rfl
variable (T:∀n∈FREE,mg n=none)(G:∀(x:Str) (v:Value),W.nsIn K bj x=some (some v)->mg x=some v)(XX:∀r∈Xg,∃A D f fd,XAt K r A D f fd)(GG:∀g∈Gg,∃t,W.nsIn K bj g.1=some (some (.int g.2 t)))
include T G XX
theorem dokg {st:Stmt}:Dok (gBg st N [] []) [] [] P w K mg base k where
 free:=λx hx=>T x (cu.mp hx)
 fns:=λj f n e=>by cases e
 cst:=λj x e=>by cases e
 jB:=λj f n e=>by cases e
 xk:=xq rfl rfl rfl (T _ (by decide)) G XX
theorem dokc {st:Stmt}(CO:z9k K mg ("OF_A_THING",["fact","open","word"])):Dok (gBg st N [] OFc) [OFT] [] P w K mg base k where
 free:=λx hx=>T x (cu.mp hx)
 fns:=λj f n e=>by cases e
 cst:=λj x e=>by
  rcases j with _|j
  ·cases e;obtain⟨a,h1,h2⟩:=CO;exact⟨_,a,rfl,h1,h2⟩
  ·cases e
 jB:=λj f n e=>by cases e
 xk:=xq rfl rfl rfl (T _ (by decide)) G XX
include GG
theorem Jh:∀(j:Nat) x,Jg[j]?=some x->∃(n:Int) (t:Tok),([24,4,8]:List Int)[j]?=some n/\mg x=some (.int n t):=λj x e=>by
 rcases j with _|_|_|j
 ·cases e;obtain⟨t,e⟩:=GG _ (.head _);exact⟨24,t,rfl,G _ _ e⟩
 ·cases e;obtain⟨t,e⟩:=GG _ (.tail _ (.head _));exact⟨4,t,rfl,G _ _ e⟩
 ·cases e;obtain⟨t,e⟩:=GG _ (.tail _ (.tail _ (.head _)));exact⟨8,t,rfl,G _ _ e⟩
 ·cases e
theorem DM:∀(Γ:Gw) (X:Cx) (r:Nat),2<=r->Γ.fld=Jf->X.prog=P->X.w=w->X.K=K->X.mg=mg->X.base=base->Wfk Γ X r:=by
 have one:∀(r:XRow) (i:Nat),r∈Xg->Mg[i]?=some ⟨"__init__",r.st,["self",r.fl],["self",r.fl],FREE,[],Sb 1,fun _=>.no,.n,[]⟩->wkL (gg0 ⟨"__init__",r.st,["self",r.fl],["self",r.fl],FREE,[],Sb 1,fun _=>.no,.n,[]⟩ []) (xig r.fl) (z0g r.st)=true->(∀fd,(∃f,Fun K "__init__" (r.c++"."++"__init__") r.st f fd)->Binds K fd ["self",r.fl] [])->
   ∃C f fd ps k,mg r.c=some (.ref C)/\XF K C r.fl/\XI K C f/\k+1<=2/\FnOk P w K mg base (CXE P w base) k f fd ps (lU K r.fl)/\Binds K fd ps []:=λr i hr hi hw hb=>by
  obtain⟨A,D,f,fd,a⟩:=XX r hr;refine⟨A,f,fd,["self",r.fl],1,G _ _ a.ns,a.xf,a.xi,ag _,?_,hb fd ⟨f,a.fu⟩⟩;refine w_fn (Γ:=gg0 ⟨"__init__",r.st,["self",r.fl],["self",r.fl],FREE,[],Sb 1,λ_=>.no,.n,[]⟩ []) (Z:={K:=K,mg:=mg,Κ:=[],Φ:=[],E:=λ_ _ _=>False,fn:=[],me:=[],cl:=[],gi:=[24,4,8]}) (s:=xig r.fl) a.fu (scg t_Mg hi) rfl rfl (dokg T G XX) (λE=>⟨rfl,rfl,nofun,nofun,nofun,Jh T G XX GG,nofun⟩) rfl (.inl rfl) hw (by rintro _ _ _ _⟨_,_,_,_,_,rfl,_⟩;rfl) λvs H Q E ⟨x,C,ob,ws,y,e,hx,hc,hd,da,xf,q⟩=>?_;subst e;exact⟨y,rfl,.ref x,rfl,x,C,ob,ws,rfl,hx,hc,hd,da,xf,λdp h1 h2=>q dp h1 h2⟩
 intro Γ X r hr hf hP hw hK hm hb;subst hP hw hK hm hb;intro c fl hc;rw[hf]at hc;have up:∀{c fl:Str},(∃C f fd ps k,X.mg c=some (.ref C)/\XF X.K C fl/\XI X.K C f/\k+1<=2/\FnOk X.prog X.w X.K X.mg X.base (CXE X.prog X.w X.base) k f fd ps (lU X.K fl)/\Binds X.K fd ps [])->∃C f fd ps k,X.mg c=some (.ref C)/\XF X.K C fl/\XI X.K C f/\k+1<=r/\FnOk X.prog X.w X.K X.mg X.base (CXE X.prog X.w X.base) k f fd ps (lU X.K fl)/\Binds X.K fd ps []:=λ{c fl} ⟨C,f,fd,ps,k,h1,h2,h3,h4,h5,h6⟩=>⟨C,f,fd,ps,k,h1,h2,h3,b8 h4 hr,h5,h6⟩;rcases ao.mp (cu.mp hc)with e|e
 ·cases e;exact up (one xA 6 (.head _) rfl (by decide+kernel) λfd ⟨f,Fu⟩=>Fu.binds λ_ _ _ _ _ _=>ye λ_ _=>rfl)
 ·rcases ao.mp e with e|e
  ·cases e;exact up (one xB 7 (.tail _ (.head _)) rfl (by decide+kernel) λfd ⟨f,Fu⟩=>Fu.binds λ_ _ _ _ _ _=>ye λ_ _=>rfl)
  ·cases av.mp e;exact up (one xC 8 (.tail _ (.tail _ (.head _))) rfl (by decide+kernel) λfd ⟨f,Fu⟩=>Fu.binds λ_ _ _ _ _ _=>ye λ_ _=>rfl)
end
section
variable {P:cf}{w:World}{K:W.Frag}{mg:Str->Option Value}{base:Heap}{CR:Addr}
variable (T:∀n∈FREE,mg n=none)(G:∀(x:Str) (v:Value),W.nsIn K bj x=some (some v)->mg x=some v)(XX:∀r∈Xg,∃A D f fd,XAt K r A D f fd)(GG:∀g∈Gg,∃t,W.nsIn K bj g.1=some (some (.int g.2 t)))
abbrev zg (K:W.Frag)(mg:Str->Option Value)(Φ:List Fn)(E:XK)(fn:List Sp)(me:List (Addr×Str×Sp))(cl:List (Addr×Sp))(Κ:List D:=[])(hf:List (Addr×Sp):=[]):Wc:={K:=K,mg:=mg,Κ:=Κ,Φ:=Φ,E:=E,fn:=fn,me:=me,cl:=cl,gi:=[24,4,8],hf:=hf}
def yr (P:cf)(w:World)(K:W.Frag)(mg:Str->Option Value)(base:Heap)(CR:Addr)(k:Nat)(m:Str)(ps:List Str)(sp:Sp):Prop:=∃f fd,FnOk P w K mg base (CXE P w base) k f fd ps sp/\Meth K CR m f/\Binds K fd ps []
include T G XX GG in
theorem msg (CA:ClsAt K CRg CR)(Dn:Dok (gBg (mq 4).st (mq 4).N [("is_name",1)] []) [] [F_z0] P w K mg base 2):
  yr P w K mg base CR 1 "__init__" ["self","number","text","kinds"] (spRI K CR)/\yr P w K mg base CR 1 "peek" ["self"] (z15 K CR)/\yr P w K mg base CR 2 "take" ["self"] (z11 K CR)/\yr P w K mg base CR 3 "take_word" ["self","word"] (spTW K CR mg)/\yr P w K mg base CR 3 "take_name" ["self"] (spTN K CR mg isn)/\yr P w K mg base CR 3 "take_end" ["self"] (AL K CR mg):=by
 have rk:RowK K CR:=⟨CA.cls,CA.na⟩;obtain⟨f0,BD,OX,DN⟩:=CA.ms ("__init__",eT 0 (top 24)) (.head _);obtain⟨f1,xr,OY,BE⟩:=CA.ms ("peek",eT 1 (top 24)) (.tail _ (.head _));obtain⟨f2,fd2,Fu2,DO⟩:=CA.ms ("take",eT 2 (top 24)) (.tail _ (.tail _ (.head _)));obtain⟨f3,BF,OZ,Ji⟩:=CA.ms ("take_word",eT 3 (top 24)) (.tail _ (.tail _ (.tail _ (.head _))));obtain⟨f4,BH,O0,Jj⟩:=CA.ms ("take_name",eT 4 (top 24)) (.tail _ (.tail _ (.tail _ (.tail _ (.head _)))));obtain⟨f5,BJ,O1,Jk⟩:=CA.ms ("take_end",eT 5 (top 24)) (.tail _ (.tail _ (.tail _ (.tail _ (.tail _ (.head _))))));have b0:Binds K BD ["self","number","text","kinds"] []:=OX.binds λ_ _ _ _ _ _=>by4 λ_ _ _ _=>rfl;have b1:Binds K xr ["self"] []:=OY.binds λ_ _ _ _ _ _=>yd λ_=>rfl;have b2:Binds K fd2 ["self"] []:=Fu2.binds λ_ _ _ _ _ _=>yd λ_=>rfl;have b3:Binds K BF ["self","word"] []:=OZ.binds λ_ _ _ _ _ _=>ye λ_ _=>rfl;have b4:Binds K BH ["self"] []:=O0.binds λ_ _ _ _ _ _=>yd λ_=>rfl;have b5:Binds K BJ ["self"] []:=O1.binds λ_ _ _ _ _ _=>yd λ_=>rfl;have gi:=Jh T G XX GG;have F0:FnOk P w K mg base (CXE P w base) 1 f0 BD ["self","number","text","kinds"] (spRI K CR):=w_fn (Γ:=gg0 (mq 0) []) (Z:=zg K mg [] (λ_ _ _=>False) [] [] []) (s:=Rd.init) OX (scg t_Mg (i:=0) rfl) rfl rfl (dokg T G XX) (λE=>⟨rfl,rfl,nofun,nofun,nofun,gi,nofun⟩) rfl (.inl rfl) (by decide+kernel) (by rintro _ _ _ _⟨_,_,_,_,_,rfl,_⟩;rfl) (by rintro _ _ _ _⟨x,dx,kd,n,t,rfl,hx,ok,q⟩;exact znb rk hx ok q)
 have F1:FnOk P w K mg base (CXE P w base) 1 f1 xr ["self"] (z15 K CR):=w_fn (Γ:=gg0 (mq 1) []) (Z:=zg K mg [] (λ_ _ _=>False) [] [] []) (s:=Rd.peek) OY (scg t_Mg (i:=1) rfl) rfl rfl (dokg T G XX) (λE=>⟨rfl,rfl,nofun,nofun,nofun,gi,nofun⟩) rfl (.inl rfl) (by decide+kernel) (by rintro _ _ _ _⟨_,_,_,_,_,_,_,_,rfl,_⟩;rfl) (by rintro _ _ _ _⟨x,dx,wl,kd,sl,n,ws,p,rfl,r,q⟩;exact WT rk r q)
 have F2:FnOk P w K mg base (CXE P w base) 2 f2 fd2 ["self"] (z11 K CR):=w_fn (Γ:=gg0 (mq 2) [N0]) (Z:=zg K mg [] (fun _ _ _=>False) [] [(CR,"peek",z15 K CR)] []) (s:=Rd.take) Fu2 (scg t_Mg (i:=2) rfl) rfl rfl (dokg T G XX) (fun E=>⟨rfl,rfl,nofun,(fun j x n e=>by
   rcases j with _|j
   ·cases e;exact⟨CR,_,f1,xr,_,1,rfl,ag _,F1,CA.cls,BE,b1⟩
   ·cases e),nofun,gi,nofun⟩) rfl (.inl rfl) (by decide+kernel)
  (by rintro _ _ _ _⟨_,_,_,_,_,_,_,_,rfl,_⟩;rfl) (by rintro _ _ _ _⟨x,dx,wl,kd,sl,n,ws,p,rfl,r,q⟩;exact WU rk rfl r q)
 have Jl:∀(j:Nat) (m:Str) (n:Nat),[N0,N1][j]?=some (m,n)->∃C sp f fd ps k,[(CR,(("peek":Str),z15 K CR)),(CR,(("take":Str),z11 K CR))][j]?=some (C,m,sp)/\k<=2/\FnOk P w K mg base (CXE P w base) k f fd ps sp/\Cls K C/\Meth K C m f/\Binds K fd ps []:=λj m n e=>by
  rcases j with _|_|j
  ·cases e;exact⟨CR,_,f1,xr,_,1,rfl,by decide,F1,CA.cls,BE,b1⟩
  ·cases e;exact⟨CR,_,f2,fd2,_,2,rfl,ag _,F2,CA.cls,DO,b2⟩
  ·cases e
 have F3:FnOk P w K mg base (CXE P w base) 3 f3 BF ["self","word"] (spTW K CR mg):=w_fn (Γ:=gg (mq 3) [] [] [] [N0,N1] [] []) (Z:=zg K mg [] (λ_ _ _=>False) [] [(CR,"peek",z15 K CR),(CR,"take",z11 K CR)] []) (s:=Rd.takeWord) OZ (scg t_Mg (i:=3) rfl) rfl rfl (dokg T G XX) (λE=>⟨rfl,rfl,nofun,Jl,nofun,gi,nofun⟩) rfl (.inr λX h1 h2 h3 h4 h5=>DM T G XX GG _ X 2 (ag _) rfl h1 h2 h3 h4 h5) (by decide+kernel) (by rintro _ _ _ _⟨_,_,_,_,_,_,_,_,_,rfl,_⟩;rfl) (by rintro _ _ _ _⟨x,dx,wl,kd,sl,n,ws,p,w0,rfl,r,hw,q⟩;exact zp9 rk rfl r hw q)
 have F4:FnOk P w K mg base (CXE P w base) 3 f4 BH ["self"] (spTN K CR mg isn):=w_fn (Γ:=gg (mq 4) [("is_name",1)] [] [] [N0,N1] [] []) (Z:=zg K mg [F_z0] (λ_ _ _=>False) [] [(CR,"peek",z15 K CR),(CR,"take",z11 K CR)] []) (s:=Rd.iM) O0 (scg t_Mg (i:=4) rfl) rfl rfl Dn (λE=>⟨rfl,rfl,nofun,Jl,nofun,gi,nofun⟩) rfl (.inr λX h1 h2 h3 h4 h5=>DM T G XX GG _ X 2 (ag _) rfl h1 h2 h3 h4 h5) (by decide+kernel) (by rintro _ _ _ _⟨_,_,_,_,_,_,_,_,rfl,_⟩;rfl) (by rintro _ _ _ _⟨x,dx,wl,kd,sl,n,ws,p,rfl,r,q⟩;exact zmj rk rfl ⟨F_z0,rfl,λs ok=>Oq ok.2⟩ r q)
 have F5:FnOk P w K mg base (CXE P w base) 3 f5 BJ ["self"] (AL K CR mg):=w_fn (Γ:=gg (mq 5) [] [] [] [N0,N1] [] []) (Z:=zg K mg [] (λ_ _ _=>False) [] [(CR,"peek",z15 K CR),(CR,"take",z11 K CR)] []) (s:=Rd.takeEnd) O1 (scg t_Mg (i:=5) rfl) rfl rfl (dokg T G XX) (λE=>⟨rfl,rfl,nofun,Jl,nofun,gi,nofun⟩) rfl (.inr λX h1 h2 h3 h4 h5=>DM T G XX GG _ X 2 (ag _) rfl h1 h2 h3 h4 h5) (by decide+kernel) (by rintro _ _ _ _⟨_,_,_,_,_,_,_,_,rfl,_⟩;rfl) (by rintro _ _ _ _⟨x,dx,wl,kd,sl,n,ws,p,rfl,r,q⟩;exact WV rk r q)
 exact⟨⟨f0,BD,F0,DN,b0⟩,⟨f1,xr,F1,BE,b1⟩,⟨f2,fd2,F2,DO,b2⟩,⟨f3,BF,F3,Ji,b3⟩,⟨f4,BH,F4,Jj,b4⟩,⟨f5,BJ,F5,Jk,b5⟩⟩
theorem O2 (F:FnOk P w K mg base pP k f fd ps (spD K n m)):FnOk P w K mg base CX k f fd ps (spD K n m):=
 ⟨F.len,λA outer s H args us vs Q E hr he hb hv hs=>jq (F.run A outer s H args us vs Q E hr he hb hv hs) λr s' z=>by
  cases r with
  |error e=>exact z.elim
  |ok x=>cases x<;>exact z⟩
include T G XX GG in
theorem rd5 {nf:Str->Option Int}(CA:ClsAt K CRg CR)(CO:z9k K mg ("OF_A_THING",["fact","open","word"]))(Dn:Dok (gBg (mq 4).st (mq 4).N [("is_name",1)] []) [] [F_z0] P w K mg base 2)(C0:Cal P w K mg base 1 "is_name" ["thing"] (spD K 1 F_z0)){Fn1:Fn}(C1:Cal P w K mg base 2 "number_of" ["figures"] (spD K 1 Fn1))(hnf:∀s,okS s->Fn1 [.str s]=.ok (.fr,optD (nf s)))(nf0:nf ""=none)(hi0:isn ""=false)(O:∀i r,i<13->Rp[i]?=some r->Own K mg r.nm r.st r.ps):
  ∃f fd,FnOk P w K mg base (CXE P w base) 25 f fd ["_law_text"] (spTg K isn nf)/\mg "_law_told"=some (.ref f)/\W.keepIn K (.ref f)=true/\Binds K fd ["_law_text"] []:=by
 have rk:RowK K CR:=⟨CA.cls,CA.na⟩;obtain⟨⟨f0,BD,F0,DN,b0⟩,⟨f1,xr,F1,BE,b1⟩,⟨f2,fd2,F2,DO,b2⟩,⟨f3,BF,F3,Ji,b3⟩,⟨f4,BH,F4,Jj,b4⟩,⟨f5,BJ,F5,Jk,b5⟩⟩:=msg T G XX GG CA Dn;have gi:=Jh T G XX GG;have fl:∀(Γ:Gw) (r:Nat),2<=r->Γ.fld=Jf->(Γ.fld=[]\/∀X:Cx,X.prog=P->X.w=w->X.K=K->X.mg=mg->X.base=base->Wfk Γ X r):=λΓ r hr hf=>.inr λX h1 h2 h3 h4 h5=>DM T G XX GG Γ X r hr hf h1 h2 h3 h4 h5
 have sU:∀(r j:Nat) (m:Str) (n:Nat),3<=r->NN[j]?=some (m,n)->∃C sp f fd ps k,[(CR,(("peek":Str),z15 K CR)),(CR,(("take":Str),z11 K CR)),(CR,(("take_word":Str),spTW K CR mg)),(CR,(("take_name":Str),spTN K CR mg isn)),(CR,(("take_end":Str),AL K CR mg))][j]?=some (C,m,sp)/\k<=r/\FnOk P w K mg base (CXE P w base) k f fd ps sp/\Cls K C/\Meth K C m f/\Binds K fd ps []:=λr j m n hr e=>by
  rcases j with _|_|_|_|_|j
  ·cases e;exact⟨CR,_,f1,xr,_,1,rfl,by omega,F1,CA.cls,BE,b1⟩
  ·cases e;exact⟨CR,_,f2,fd2,_,2,rfl,by omega,F2,CA.cls,DO,b2⟩
  ·cases e;exact⟨CR,_,f3,BF,_,3,rfl,hr,F3,CA.cls,Ji,b3⟩
  ·cases e;exact⟨CR,_,f4,BH,_,3,rfl,hr,F4,CA.cls,Jj,b4⟩
  ·cases e;exact⟨CR,_,f5,BJ,_,3,rfl,hr,F5,CA.cls,Jk,b5⟩
  ·cases e
 let ME:List (Addr×Str×Sp):=[(CR,(("peek":Str),z15 K CR)),(CR,(("take":Str),z11 K CR)),(CR,(("take_word":Str),spTW K CR mg)),(CR,(("take_name":Str),spTN K CR mg isn)),(CR,(("take_end":Str),AL K CR mg))]
 obtain⟨g2,gd2,Gu2,Y9,Y',Za⟩:=O 2 _ (by decide) rfl;obtain⟨g3,sV,Zb,BK,BL,BM⟩:=O 3 _ (by decide) rfl;obtain⟨g4,xu,Zc,DP,DQ,DR⟩:=O 4 _ (by decide) rfl;obtain⟨g5,BN,Zd,O3,O4,O5⟩:=O 5 _ (by decide) rfl;obtain⟨g6,gd6,Gu6,Ze,Zf,Zg⟩:=O 6 _ (by decide) rfl;obtain⟨g7,O6,Zh,Zi,Zj,Zl⟩:=O 7 _ (by decide) rfl;obtain⟨g8,gd8,Gu8,Zm,Zn,Zo⟩:=O 8 _ (by decide) rfl;obtain⟨g9,gd9,Gu9,Zp,Zq,Zr⟩:=O 9 _ (by decide) rfl;obtain⟨O7,BO,Jm,Jo,Jp,Jq⟩:=O 10 _ (by decide) rfl;obtain⟨g11,gd11,Gu11,Jr,Js,Jt⟩:=O 11 _ (by decide) rfl;obtain⟨g12,gd12,Gu12,Ju,Jv,Jw⟩:=O 12 _ (by decide) rfl;obtain⟨i0,Zs,I0,Zt,Zu,Zv⟩:=C0;obtain⟨i1,Zw,I1,qB,Zx,Zy⟩:=C1;have no:∀(j:Nat) (x:Str) (n:Nat) {α:Prop},([]:List (Str×Nat))[j]?=some (x,n)->α:=λj x n α e=>by cases e
 have H2:FnOk P w K mg base (CXE P w base) 4 g2 gd2 ["row"] (spNs K CR mg isn):=w_fn (Γ:=gg (pq 2) [] OFc [("is_name",1)] NN [] []) (Z:=zg K mg [] (fun _ _ _=>False) [spD K 1 F_z0] ME [] [OFT]) (s:=Rd.readNames) Gu2 (scg t_P (i:=2) rfl) rfl rfl (dokc T G XX CO) (fun E=>⟨rfl,rfl,(fun j x n e=>by
   rcases j with _|j
   ·cases e;exact⟨_,i0,Zs,_,1,rfl,by decide,O2 I0,Zt,Zu,Zv⟩
   ·cases e),(λj m n e=>sU 3 j m n (ag _) e),nofun,gi,nofun⟩) rfl (fl _ 3 (by decide) rfl) (by decide+kernel)
  (by rintro _ _ _ _⟨_,_,_,_,_,_,_,_,_,_,rfl,_⟩;rfl) (by rintro _ _ _ _⟨x,dx,wl,kd,sl,n,ws,ks,p,sd,rfl,r,n0,q⟩;exact znf rk rfl rfl ⟨F_z0,rfl,λs ok=>Oq ok.2⟩ rfl n0 r q)
 have H6:FnOk P w K mg base (CXE P w base) 4 g6 gd6 ["row","name"] (spBd K CR mg nf):=w_fn (Γ:=gg (pq 6) [] [] [("number_of",1)] NN [] []) (Z:=zg K mg [] (fun _ _ _=>False) [spD K 1 Fn1] ME []) (s:=Rd.readBound) Gu6 (scg t_P (i:=6) rfl) rfl rfl (dokg T G XX) (fun E=>⟨rfl,rfl,(fun j x n e=>by
   rcases j with _|j
   ·cases e;exact⟨_,i1,Zw,_,2,rfl,by decide,O2 I1,qB,Zx,Zy⟩
   ·cases e),(λj m n e=>sU 3 j m n (ag _) e),nofun,gi,nofun⟩) rfl (fl _ 3 (by decide) rfl) (by decide+kernel)
  (by rintro _ _ _ _⟨_,_,_,_,_,_,_,_,_,_,_,rfl,_⟩;rfl) (by rintro _ _ _ _⟨x,dx,wl,kd,sl,n,ws,ks,p,sd,nm,rfl,r,okn,q⟩;exact zpo rk rfl rfl ⟨Fn1,rfl,hnf⟩ nf0 r okn q)
 have Bo:∀(x:Str) (fa:Addr) (DS:i8) (k r:Nat) (f:List Str->List (Str×Str)->Nat->List D->Ro),wkL (gg (pq 5) [] [] [] NN [] [(x,2)]) Rd.fC (z0g (pq 5).st)=true->3<=k->FnOk P w K mg base (CXE P w base) k fa DS ["row","room"] (spR K CR mg r f)->mg x=some (.ref fa)->W.keepIn K (.ref fa)=true->Binds K DS ["row","room"] []->FnOk P w K mg base (CXE P w base) (k+1) g5 BN ["row","read_part","room"] (jW K CR mg fa r f):=λx fa DS k r f hv hk Ff hm Zz hb=>
  w_fn (Γ:=gg (pq 5) [] [] [] NN [] [(x,2)]) (Z:=zg K mg [] (λ_ _ _=>False) [] ME [] [] [(fa,spR K CR mg r f)]) (s:=Rd.fC) Zd (scg t_P (i:=5) rfl) rfl rfl (dokg T G XX) (λE=>⟨rfl,rfl,nofun,(λj m n e=>sU k j m n hk e),nofun,gi,(λj x' n e=>by
   rcases j with _|j
   ·cases e;exact⟨_,fa,DS,_,k,rfl,ag _,Ff,hm,Zz,hb⟩
   ·cases e)⟩) rfl (fl _ k (by omega) rfl) hv
  (by rintro _ _ _ _⟨_,_,_,_,_,_,_,_,_,_,rfl,_⟩;rfl) (by rintro _ _ _ _⟨x,dx,wl,kd,sl,n,ws,ks,p,sd,rfl,g,q⟩;exact zfw rk rfl rfl rfl g q)
 have O8:∀(r k:Nat) (s0 s1:Sp),(∃k',k'<=k/\FnOk P w K mg base (CXE P w base) k' g3 sV ["row","room"] s0)->(∃k',k'<=k/\FnOk P w K mg base (CXE P w base) k' g5 BN ["row","read_part","room"] s1)->4<=k->(∀r',r=r'+1->s0=(spR K CR mg r' λws ks=>z1c isn nf ws ks r')/\s1=jW K CR mg g3 r' λws ks=>z1c isn nf ws ks r')->FnOk P w K mg base (CXE P w base) (k+1) g3 sV ["row","room"] (spR K CR mg r λws ks=>z1c isn nf ws ks r):=λr k s0 s1 ⟨k0,l0,A0⟩ ⟨k1,l1,A1⟩ hk hz=>
  w_fn (Γ:=gg (pq 3) [] OFc [("read_saying",2),("read_both",3),("read_bound",2)] NN [] [("read_saying",2)]) (Z:=zg K mg [] (λ_ _ _=>False) [s0,s1,spBd K CR mg nf] ME [] [OFT] [(g3,s0)]) (s:=Rd.fA) Zb (scg t_P (i:=3) rfl) rfl rfl (dokc T G XX CO) (λE=>⟨rfl,rfl,(λj x n e=>by
   rcases j with _|_|_|j
   ·cases e;exact⟨_,g3,sV,_,k0,rfl,l0,A0,BK,BL,BM⟩
   ·cases e;exact⟨_,g5,BN,_,k1,rfl,l1,A1,O3,O4,O5⟩
   ·cases e;exact⟨_,g6,gd6,_,4,rfl,hk,H6,Ze,Zf,Zg⟩
   ·cases e),(λj m n e=>sU k j m n (by omega) e),nofun,gi,(λj x n e=>by
   rcases j with _|j
   ·cases e;exact⟨_,g3,sV,_,k0,rfl,l0,A0,BK,BL,BM⟩
   ·cases e)⟩) rfl (fl _ k (by omega) rfl) (by decide+kernel)
  (by rintro _ _ _ _⟨_,_,_,_,_,_,_,_,_,_,rfl,_⟩;rfl) (by rintro _ _ _ _⟨x,dx,wl,kd,sl,n,ws,ks,p,sd,rfl,g,q⟩;exact zkq rk ⟨rfl,rfl,rfl,rfl,rfl,λr' e=>by obtain⟨rfl,rfl⟩:=hz r' e;exact⟨rfl,g3,_,rfl,rfl⟩⟩ hi0 g q)
 have Sy:∀r,FnOk P w K mg base (CXE P w base) (5+2*r) g3 sV ["row","room"] (spR K CR mg r λws ks=>z1c isn nf ws ks r):=λr=>by
  induction r with
  |zero=>exact O8 0 4 (λ_ _ _ _=>False) (λ_ _ _ _=>False) ⟨0,by decide,BB⟩ ⟨0,by decide,BB⟩ (by decide) λr' e=>by cases e
  |succ r ih=>have hb:=Bo "read_saying" g3 sV (5+2*r) r _ (by decide+kernel) (by omega) ih BK BL BM;rw[show 5+2*(r+1)=6+2*r+1 by omega];exact O8 (r+1) (6+2*r) _ _ ⟨_,by omega,ih⟩ ⟨_,by omega,hb⟩ (by omega) λr' e=>by cases e;exact⟨rfl,rfl⟩
 have O9:∀(r k:Nat) (s0 s1 s2:Sp),(∃k',k'<=k/\FnOk P w K mg base (CXE P w base) k' g4 xu ["row","room"] s0)->(∃k',k'<=k/\FnOk P w K mg base (CXE P w base) k' g5 BN ["row","read_part","room"] s1)->(∃k',k'<=k/\FnOk P w K mg base (CXE P w base) k' g3 sV ["row","room"] s2)->4<=k->(∀r',r=r'+1->s0=(spR K CR mg r' λws ks=>z2a isn nf ws ks r')/\(s1=jW K CR mg g4 r' λws ks=>z2a isn nf ws ks r')/\s2=spR K CR mg r' λws ks=>z1c isn nf ws ks r')->FnOk P w K mg base (CXE P w base) (k+1) g4 xu ["row","room"] (spR K CR mg r λws ks=>z2a isn nf ws ks r):=λr k s0 s1 s2 ⟨k0,l0,A0⟩ ⟨k1,l1,A1⟩ ⟨k2,l2,A2⟩ hk hz=>
  w_fn (Γ:=gg (pq 4) [] [] [("read_asking",2),("read_both",3),("read_saying",2)] NN [] [("read_asking",2)]) (Z:=zg K mg [] (λ_ _ _=>False) [s0,s1,s2] ME [] [] [(g4,s0)]) (s:=Rd.fB) Zc (scg t_P (i:=4) rfl) rfl rfl (dokg T G XX) (λE=>⟨rfl,rfl,(λj x n e=>by
   rcases j with _|_|_|j
   ·cases e;exact⟨_,g4,xu,_,k0,rfl,l0,A0,DP,DQ,DR⟩
   ·cases e;exact⟨_,g5,BN,_,k1,rfl,l1,A1,O3,O4,O5⟩
   ·cases e;exact⟨_,g3,sV,_,k2,rfl,l2,A2,BK,BL,BM⟩
   ·cases e),(λj m n e=>sU k j m n (by omega) e),nofun,gi,(λj x n e=>by
   rcases j with _|j
   ·cases e;exact⟨_,g4,xu,_,k0,rfl,l0,A0,DP,DQ,DR⟩
   ·cases e)⟩) rfl (fl _ k (by omega) rfl) (by decide+kernel)
  (by rintro _ _ _ _⟨_,_,_,_,_,_,_,_,_,_,rfl,_⟩;rfl) (by rintro _ _ _ _⟨x,dx,wl,kd,sl,n,ws,ks,p,sd,rfl,g,q⟩;exact zjm rk ⟨rfl,rfl,λr' e=>by obtain⟨rfl,rfl,rfl⟩:=hz r' e;exact⟨rfl,⟨g4,_,rfl,rfl⟩,rfl⟩⟩ g q)
 have Ak:∀r,FnOk P w K mg base (CXE P w base) (6+2*r) g4 xu ["row","room"] (spR K CR mg r λws ks=>z2a isn nf ws ks r):=λr=>by
  induction r with
  |zero=>exact O9 0 5 (λ_ _ _ _=>False) (λ_ _ _ _=>False) (λ_ _ _ _=>False) ⟨0,by decide,BB⟩ ⟨0,by decide,BB⟩ ⟨0,by decide,BB⟩ (by decide) λr' e=>by cases e
  |succ r ih=>have hb:=Bo "read_asking" g4 xu (6+2*r) r _ (by decide+kernel) (by omega) ih DP DQ DR;rw[show 6+2*(r+1)=7+2*r+1 by omega];exact O9 (r+1) (7+2*r) _ _ _ ⟨_,by omega,ih⟩ ⟨_,by omega,hb⟩ ⟨_,by omega,Sy r⟩ (by omega) λr' e=>by cases e;exact⟨rfl,rfl,rfl⟩
 have H7:FnOk P w K mg base (CXE P w base) 4 g7 O6 ["row"] (spHg K CR mg isn):=w_fn (Γ:=gg (pq 7) [] [] [] NN [] []) (Z:=zg K mg [] (λ_ _ _=>False) [] ME []) (s:=Rd.iN) Zh (scg t_P (i:=7) rfl) rfl rfl (dokg T G XX) (λE=>⟨rfl,rfl,nofun,(λj m n e=>sU 3 j m n (ag _) e),nofun,gi,nofun⟩) rfl (fl _ 3 (by decide) rfl) (by decide+kernel) (by rintro _ _ _ _⟨_,_,_,_,_,_,_,_,_,_,rfl,_⟩;rfl) (by rintro _ _ _ _⟨x,dx,wl,kd,sl,n,ws,ks,p,sd,rfl,g,q⟩;exact zmp rfl rfl g q)
 have H8:FnOk P w K mg base (CXE P w base) 5 g8 gd8 ["row"] (spOg K CR mg isn):=w_fn (Γ:=gg (pq 8) [] [] [("read_names",1)] NN [] []) (Z:=zg K mg [] (fun _ _ _=>False) [spNs K CR mg isn] ME []) (s:=Rd.readOpen) Gu8 (scg t_P (i:=8) rfl) rfl rfl (dokg T G XX) (fun E=>⟨rfl,rfl,(fun j x n e=>by
   rcases j with _|j
   ·cases e;exact⟨_,g2,gd2,_,4,rfl,by decide,H2,Y9,Y',Za⟩
   ·cases e),(λj m n e=>sU 4 j m n (by decide) e),nofun,gi,nofun⟩) rfl (fl _ 4 (by decide) rfl) (by decide+kernel)
  (by rintro _ _ _ _⟨_,_,_,_,_,_,_,_,_,_,rfl,_⟩;rfl) (by rintro _ _ _ _⟨x,dx,wl,kd,sl,n,ws,ks,p,sd,rfl,g,n0,q⟩;exact zm8 rk rfl rfl rfl rfl n0 g q)
 have H9:FnOk P w K mg base (CXE P w base) 23 g9 gd9 ["row"] (spRg K CR mg isn nf):=w_fn (Γ:=gg (pq 9) [] [] [("read_open",1),("read_head",1),("read_saying",2),("read_asking",2)] NN [] []) (Z:=zg K mg [] (fun _ _ _=>False) [spOg K CR mg isn,spHg K CR mg isn,spR K CR mg 8 fun ws ks=>z1c isn nf ws ks 8,spR K CR mg 8 fun ws ks=>z2a isn nf ws ks 8] ME []) (s:=Rd.readRow) Gu9 (scg t_P (i:=9) rfl) rfl rfl (dokg T G XX) (fun E=>⟨rfl,rfl,(fun j x n e=>by
   rcases j with _|_|_|_|j
   ·cases e;exact⟨_,g8,gd8,_,5,rfl,by decide,H8,Zm,Zn,Zo⟩
   ·cases e;exact⟨_,g7,O6,_,4,rfl,by decide,H7,Zi,Zj,Zl⟩
   ·cases e;exact⟨_,g3,sV,_,21,rfl,by decide,Sy 8,BK,BL,BM⟩
   ·cases e;exact⟨_,g4,xu,_,22,rfl,by decide,Ak 8,DP,DQ,DR⟩
   ·cases e),(λj m n e=>sU 22 j m n (by decide) e),nofun,gi,nofun⟩) rfl (fl _ 22 (by decide) rfl) (by decide+kernel)
  (by rintro _ _ _ _⟨_,_,_,_,_,_,_,_,_,rfl,_⟩;rfl) (by rintro _ _ _ _⟨x,dx,wl,kd,sl,n,ws,ks,sd,rfl,g,n0,q⟩;exact znt rk ⟨rfl,rfl,rfl,rfl,rfl,rfl,rfl,rfl⟩ n0 g q)
 have ZA:FnOk P w K mg base (CXE P w base) 4 O7 BO ["row","told"] (spCg K CR mg):=w_fn (Γ:=gg (pq 10) [] [] [] NN [] []) (Z:=zg K mg [] (λ_ _ _=>False) [] ME []) (s:=Rd.eZ) Jm (scg t_P (i:=10) rfl) rfl rfl (dokg T G XX) (λE=>⟨rfl,rfl,nofun,(λj m n e=>sU 3 j m n (ag _) e),nofun,gi,nofun⟩) rfl (fl _ 3 (by decide) rfl) (by decide+kernel)
  (by rintro _ _ _ _⟨_,_,_,_,_,_,_,_,_,_,_,rfl,_⟩;rfl) λvs H Q E ⟨x,dx,wl,kd,sl,n,ws,ks,p,sd,nm,e,g,okn,q⟩=>by
   subst e;refine Xc rk g okn ?_;unfold pG at q ⊢;split at q
   ·rename_i h;rw[vy h];exact q
   ·rename_i h;rw[vz h];cases hu:bJ ks sd with
    |some u=>rw[hu]at q;exact q
    |none=>rw[hu]at q;exact λH' s σ'=>q H' s
 have H11:FnOk P w K mg base (CXE P w base) 24 g11 gd11 ["text"] (spAg K mg isn nf):=w_fn (Γ:=gg (pq 11) [] [] [("read_row",1),("check_names",2)] [] [("Row",3)] []) (Z:=zg K mg [] (fun _ _ _=>False) [spRg K CR mg isn nf,spCg K CR mg] [] [(CR,spRI K CR)]) (s:=Rd.readAct) Gu11 (scg t_P (i:=11) rfl) rfl rfl (dokg T G XX) (fun E=>⟨rfl,rfl,(fun j x n e=>by
   rcases j with _|_|j
   ·cases e;exact⟨_,g9,gd9,_,23,rfl,by decide,H9,Zp,Zq,Zr⟩
   ·cases e;exact⟨_,O7,BO,_,4,rfl,by decide,ZA,Jo,Jp,Jq⟩
   ·cases e),nofun,(λj x n e=>by
   rcases j with _|j
   ·cases e;exact⟨CR,_,f0,BD,_,1,rfl,by decide,F0,⟨CA.XB,DN.at_,DN.fn,CA.kp⟩,G _ _ CA.ns,b0⟩
   ·cases e),gi,nofun⟩) rfl (fl _ 23 (by decide) rfl) (by decide+kernel)
  (by rintro _ _ _ _⟨_,_,_,rfl,_⟩;rfl) (by rintro _ _ _ _⟨v,d,B,rfl,rv,n0,hd,q⟩;exact zm1 rfl rfl rfl rfl rv n0 hd q)
 have H12:FnOk P w K mg base (CXE P w base) 25 g12 gd12 ["_law_text"] (spTg K isn nf):=w_fn (Γ:=gg (pq 12) [] [] [("read_act",1)] [] [] []) (Z:=zg K mg [] (fun _ _ _=>False) [spAg K mg isn nf] [] []) (s:=Rd.toldg) Gu12 (scg t_P (i:=12) rfl) rfl rfl (dokg T G XX) (fun E=>⟨rfl,rfl,(fun j x n e=>by
   rcases j with _|j
   ·cases e;exact⟨_,g11,gd11,_,24,rfl,by decide,H11,Jr,Js,Jt⟩
   ·cases e),nofun,nofun,gi,nofun⟩) rfl (fl _ 24 (by decide) rfl) (by decide+kernel)
  (by rintro _ _ _ _⟨_,_,_,rfl,_⟩;rfl) (by rintro _ _ _ _⟨v,d,B,rfl,rv,ra,ot,q⟩;exact Xz rfl rv ra ot q)
 exact⟨g12,gd12,H12,Ju,Jv,Jw⟩
end
theorem Jx:chkL (Lr.G (Rz++[Lr]) Xt) xm (z0g (top 45))=true:=by decide+kernel
theorem ZC {x}(h:qC ds=.ok x):∃d,ds=[d]/\Ja d/\x=(.fr,lZ (jX isn gG d)):=by
 unfold qC at h;split at h
 ·rename_i d;split at h
  ·rename_i ht;cases h;exact⟨d,rfl,ht,rfl⟩
  ·cases h
 ·cases h
theorem ZD {c}(h:excOf (qC ds)=some c):False:=by
 unfold qC at h;split at h
 ·split at h<;>cases h
 ·cases h
theorem allR {l:W.OpenLaw}{w:World}{K:W.Frag}{mg:Str->Option Value}{CR:Addr}{h:Heap}{fa:Addr}(X:K.In h)(Gn:h.Ns bj mg)(hfa:mg "law"=some (.ref fa))(hK:kOks K Rz)(kl:∃f fd,Kf K Lr f fd)(hz:∀n∈FREE,W.nsIn K bj n=some none)(hC:∀r∈Rz++[Lr],∀y∈r.kc,ck1 K y=true)(CA:ClsAt K CRg CR)(XX:∀r∈Xg,∃A D f fd,XAt K r A D f fd)(GG:∀g∈Gg,∃t,W.nsIn K bj g.1=some (some (.int g.2 t))):
  ∃fd:i8,(∀(s:aw) (v:Value),ue s fd ⟨[v],[]⟩ [("_law_script",v)])/\∀base:Heap,K.In base->base.Ns bj mg->FnOk l.prog w K mg base pP 28 fa fd ["_law_script"] (spD K 1 DI):=by
 obtain⟨f,fd,a,oc,od,an,sl,kV,dc,pm,cd,ct,rfl,lk,hc,hk⟩:=kl;have e:=hfa.symm.trans (W.mg_of X Gn a);cases e;have T:∀n∈FREE,mg n=none:=λn hn=>W.mg_none_of X Gn (hz n hn);have Gx:∀(x:Str) (v:Value),W.nsIn K bj x=some (some v)->mg x=some v:=λx v e=>W.mg_of X Gn e;refine⟨W.fnOf "law" "law" (lE (top 45)) (z0g (top 45)) (z07 (top 45)) .none kV dc pm an cd ct,λs v=>.of_eq rfl,λbase _ _=>?_⟩;have O:∀i r,i<27->(Rz++[Lr])[i]?=some r->Own K mg r.nm r.st r.ps:=λi r hi e=>by rw[gw (show i<Rz.length from hi)]at e;obtain⟨⟨f,fd,a,oc,od,an,sl,kV,dc,pm,cd,ct,rfl,lk,hc,hk⟩,hb⟩:=Mz hK e;exact zqc X Gn a lk hc hk hb
 have xk:∀Γ:Gm,Γ.sub=(Xt.map XR.subs).flatten->Γ.rs=Xt.map (·.c)->(Γ.fF=Xt.map λr=>(r.c,r.B))->ya Γ K mg:=λΓ h1 h2 h3=>⟨(λc C b z=>by rw[h1]at z;cases z),(λc z=>by rw[h2]at z;cases z),λc B z=>by rw[h3]at z;cases z⟩;have Jy:∀r∈Rz++[Lr],∀y∈r.kc,z9k K mg y:=λr hr y hy=>VU X Gn (hC r hr y hy);have bW:∀j c,j<27->(Rz++[Lr])[j]?=some c->yc l.prog w K mg base j c:=λj c hj hc=>VS xp Y6 T xk 27 Jy O j c hj hc;have hr:(Rz++[Lr])[27]?=some Lr:=rfl;have ho:Lr.ok (Rz++[Lr]) Xt FREE 27=true:=CZ xp hr;have D:=Mx (P:=l.prog) (w:=w) (K:=K) (base:=base) hr ho T xk (Jy Lr (bw _ (.head _))) bW;have n0:=rP (bW 0 _ (by decide) rfl) (Rs:=Rz++[Lr]) rfl rfl;have n1:=rP (bW 1 _ (by decide) rfl) (Rs:=Rz++[Lr]) rfl rfl
 have Dn:Dok (gBg (mq 4).st (mq 4).N [("is_name",1)] []) [] [F_z0] l.prog w K mg base 2:={
  free:=λx hx=>T x (cu.mp hx)
  fns:=λj f n e=>by
   rcases j with _|j
   ·cases e;exact⟨F_z0,1,["thing"],rfl,by decide,n0.1⟩
   ·cases e
  cst:=λj x e=>by cases e
  jB:=λj f n e=>by
   rcases j with _|j
   ·cases e;exact⟨F_z0,1,["thing"],rfl,by decide,n0.2⟩
   ·cases e
  xk:=xq rfl rfl rfl (T _ (by decide)) Gx XX}
 have CO:=Jy (Rp.getD 2 Lr) (.tail _ (.tail _ (.head _))) ("OF_A_THING",["fact","open","word"]) (.head _);obtain⟨ft,Pa,Ft,mt,kt,bt⟩:=rd5 (P:=l.prog) (w:=w) (base:=base) (nf:=gG) (Fn1:=xb) T Gx XX GG CA CO Dn n0.1 n1.1 (λs ok=>YF ok.2) YG Bf λi r hi e=>O i r (by omega) (by have z:Rz++[Lr]=Rp++(Lz++[Lr]):=gm ..;rw[z,gw hi];exact e);have C1:Cal l.prog w K mg base 25 "_law_told" ["_law_text"] (spD K 1 qC):=by refine⟨ft,Pa,Y7 Ft λvs H Q E ⟨A,ds,x,h1,h2,h3,q⟩=>?_,mt,kt,bt⟩;obtain⟨d,rfl,ht,rfl⟩:=ZC h3;obtain⟨v,t,rfl,rv,rt⟩:=h2;cases rt;exact⟨v,d,A,rfl,rv,ht.1,ht.2,λH' w s r=>q w H' s r⟩
 have C2:oU l.prog w K mg base 25 "_law_told" ["_law_text"] 1 qC:=by refine⟨ft,Pa,⟨λvs H Q E ⟨A,ds,c,h1,h2,h3,_⟩=>h1,λA outer s H args us vs Q E hr he hb hv ⟨B,ds,c,h1,h2,h3,_⟩=>?_⟩,mt,kt,bt⟩;exact(ZD h3).elim
 have D':Dok (Lr.G (Rz++[Lr]) Xt) [] [bE 6,qC,uF,mD,l'] l.prog w K mg base 27:={
  free:=D.free
  fns:=λj f n e=>by
   rcases j with _|_|_|_|_|j
   ·obtain⟨m,k',ps,e1,e2,e3⟩:=D.fns 0 f n e;cases e1;exact⟨_,k',ps,rfl,e2,e3⟩
   ·cases e;exact⟨_,25,_,rfl,by decide,C1⟩
   ·obtain⟨m,k',ps,e1,e2,e3⟩:=D.fns 2 f n e;cases e1;exact⟨_,k',ps,rfl,e2,e3⟩
   ·obtain⟨m,k',ps,e1,e2,e3⟩:=D.fns 3 f n e;cases e1;exact⟨_,k',ps,rfl,e2,e3⟩
   ·obtain⟨m,k',ps,e1,e2,e3⟩:=D.fns 4 f n e;cases e1;exact⟨_,k',ps,rfl,e2,e3⟩
   ·cases e
  cst:=λj x e=>by cases e
  jB:=λj f n e=>by
   rcases j with _|_|_|_|_|j
   ·obtain⟨m,k',ps,e1,e2,e3⟩:=D.jB 0 f n e;cases e1;exact⟨_,k',ps,rfl,e2,e3⟩
   ·cases e;exact⟨_,25,_,rfl,by decide,C2⟩
   ·obtain⟨m,k',ps,e1,e2,e3⟩:=D.jB 2 f n e;cases e1;exact⟨_,k',ps,rfl,e2,e3⟩
   ·obtain⟨m,k',ps,e1,e2,e3⟩:=D.jB 3 f n e;cases e1;exact⟨_,k',ps,rfl,e2,e3⟩
   ·obtain⟨m,k',ps,e1,e2,e3⟩:=D.jB 4 f n e;cases e1;exact⟨_,k',ps,rfl,e2,e3⟩
   ·cases e
  xk:=D.xk}
 exact d_fn (Γ:=Lr.G (Rz++[Lr]) Xt) (Κ:=[]) (s:=xm) (EA (st:=top 45) lk hc hk) (scg xp (i:=27) rfl) rfl rfl rfl D' Jx
def xw:DefRec:=⟨"law",lE (top 45),z0g (top 45),z07 (top 45),⟨273,0,292,64⟩⟩
theorem DT:KEq xx (Rz++[Lr]) FREE Xt:=by
 rw[PySem.W.Fast.tkeq_eq];intro P
 kernel_rfl
theorem ZE:Tp.said PySem.Challenge.rw_likebook_k52_opens=true:=by
 rw[PySem.W.Fast.tsaid_eq]
 kernel_rfl
theorem ZG:W.opening mZ=W.plainProg mZ.main.scope.names:=by kernel_rfl
theorem ZH:∀s,fenceModules? mZ s=some s:=λs=>by kernel_rfl
theorem ZI:W.defOf yu PySem.Challenge.rw_likebook_k52_opens.row.name=some (xw,[]):=by kernel_rfl
theorem ZJ:mZ.theDef PySem.Challenge.rw_likebook_k52_opens.row.name=some (xw.params,xw.body,xw.scope):=by kernel_rfl
theorem ZK:W.kwWritten? xw.params.kwonlyargs xw.params.kw_defaults=some []:=by kernel_rfl
theorem ZL:(!PySem.Challenge.rw_likebook_k52_opens.row.writes||PySem.Challenge.rw_likebook_k52_opens.row.records.isEmpty)=true:=by kernel_rfl
theorem ZM:(W.chainsOk yu&&W.opensWell mZ&&(W.frees PySem.Challenge.rw_likebook_k52_opens.row.toRowW&&PySem.Challenge.rw_likebook_k52_opens.row.within.isEmpty))=true:=by kernel_rfl
theorem walk {l:W.OpenLaw}{K:gu->W.Frag}(hn:l.most=some 63)(hdf:d.params.defaults=[])
  (hY:∀w h,YP w h->(K w.params).In h)
  (F:∀w mg fa h,(K w.params).In h->h.Ns bj mg->mg d.name=some (.ref fa)->∃fd,(∀s u,ue s fd ⟨[u],[]⟩ [("_law_script",u)])/\∀base,(K w.params).In base->base.Ns bj mg->FnOk l.prog w (K w.params) mg base pP 28 fa fd ["_law_script"] (spD (K w.params) 1 DI)):
  W.WalkO q loose XP YP l.row.toRowW d [] (λf vs=>PySem.call f vs):=
 L2.walk_of hn (by decide) hdf ⟨rfl,by decide,by decide⟩ hY F (λ_ _ a ns hl _ hS=>⟨_,_,_,rfl,VR hS,Y0 hl,λv H' _ r=>r⟩) λ_ _ _ _ _ z=>z
theorem ZN:KCq xx CRg:=by
 rw[PySem.W.Fast.tkcq_eq];intro P
 kernel_rfl
theorem kX:KXq xx Xg Gg:=by
 rw[PySem.W.Fast.tkxq_eq];intro P
 kernel_rfl
theorem Jz:wM Rz:=by repeat' first|exact trivial|refine⟨λ_ _ _ _ _ _=>yd λ_=>rfl,?_⟩|refine⟨λ_ _ _ _ _ _=>ye λ_ _=>rfl,?_⟩|refine⟨λ_ _ _ _ _ _=>My λ_ _ _=>rfl,?_⟩|refine⟨λ_ _ _ _ _ _=>by4 λ_ _ _ _=>rfl,?_⟩|refine⟨λ_ _ _ _ _ _=>VT λ_ _ _ _ _=>rfl,?_⟩
end Mk
open PySem PySem.W PyProof.Rows Mi
set_option maxRecDepth 100000 in
set_option maxHeartbeats 0 in
theorem PySem.Challenge.cw_likebook_k52_opens_holds : PySem.Challenge.rw_likebook_k52_opens.Holds := by
 refine Tp.holds (l:=PySem.Challenge.rw_likebook_k52_opens) (q:=Mk.yu) (d:=Mk.xw) (K:=Mk.xx) (M:=100000) (N:=200000) Mk.ZE (Tp.yt _ _ Mk.BP) Mk.ZG rfl Mk.ZH (by decide) Mk.Pc Mk.Pd Mk.ZI Mk.ZJ Mk.ZK Mk.ZL Mk.ZM ⟨rfl,rfl,rfl,rfl,rfl,by decide+kernel⟩ (by w_witness2) ?_;refine Mk.walk (l:=PySem.Challenge.rw_likebook_k52_opens) rfl rfl (λw h aB=>aB) ?_;intro w mg fa h KX G y9;obtain⟨CR,CA⟩:=XG Mk.ZN w.params;exact Mk.allR (CR:=CR) KX G y9 (MG (λr hr=>(C3 Mk.DT w.params).1 r (cy _ hr)) Mk.Jz) ((C3 Mk.DT w.params).1 Mk.Lr (bw _ (.head _))) (C3 Mk.DT w.params).2.1 (C3 Mk.DT w.params).2.2.2 CA (Oc Mk.kX w.params).1 (Oc Mk.kX w.params).2
